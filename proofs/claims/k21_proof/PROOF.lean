import PyProof.Rows.All
import Wide.All
import OpenK.AllK
import Wide.FinOn
import Lean
import PyProof.EqAt
import PyProof.EqKinds
import PyProof.TupleCall
import PyProof.StationsW
import PyProof.ExcClass3
import OpenK.KOwn
import PyProof.ExcArgsOwn
import KE.KListMore
import KE.KIntText
import KE.KEqDat
import PyProof.MinMaxWalk
import PyProof.SumAny
import PyProof.Rows.SortRuns
import KE.KSortKey
import PyProof.Rows.CallKwBuiltin
import PySem.SetTable
import PyProof.Rows.SetFrom
import PyProof.TupleKey
import PyProof.IsRules
import KE.KRevIter
import PyProof.ListRange
import PyProof.TupleOfGen
import PyProof.CollectIter
import PySem.Challenge.RW_seamwright_k21_whole_right_papers
import PyProof.FactsAll.set_2
import PyProof.FactsAll.subtypes_5
import KE.KDictList
import KE.KDictSum
import KE.KDictLaws
import PyProof.Rows.Range3
import KE.KStateDown
open List renaming length_map->Aa,getElem?_eq_getElem->Ab,getD_eq_getElem?_getD->Ac,range->Ah,getElem?_map->Aj,mem_of_getElem?->Ak,map_append->Ao,take_of_length_le->Aq,mem_cons_self->Ar,size_toArray->Au,replicate->Av,mem_cons_of_mem->Ax,zipWith->Ay,getElem_mem->Az,mem_append_right->AE,length_zipWith->AF,eq_nil_of_length_eq_zero->AK,getElem?_range->AL,length_cons->AN,map_map->AS,ext_getElem->AT,length_append->AU,getElem_map->AW,all_eq_true->AY,getElem_range->A0,map_congr_left->A4,map_cons->A6,getElem_zipWith->A7,length_range->A8,getElem_of_mem->A9,pairwise_cons->Ba,lookup_cons->Bi
open Nat renaming le_refl->Ad,le_trans->Ag,mul_le_mul_left->Al,mul_le_mul_right->Am,zero_le->Aw,ne_of_lt->AB,lt_of_lt_of_le->AC,lt_of_le_of_lt->AD,pow_le_pow_right->AJ,mul_le_mul->AO,mul_assoc->AQ,one_le_two_pow->AR,lt_or_ge->Be,le_add_right->Bh
open PySem renaming wpAny_bind->Ae,wpAny_pure->An,bootBuiltins->A5
open PySem.W renaming Frag->Af
open PySem.Heap renaming get?_push_of_some->Ai,lt_size->At,get?_push_size->AH
open Classical renaming byContradiction->AA
open Bool renaming false_ne_true->AG,and_eq_true->AZ
open Int renaming natAbs_mul->AI,mul_assoc->AV,mul_comm->Bg
open Option.some renaming inj->AM
open PySem.PassesOwn renaming never->AX
open PyProof.Rows renaming take_snoc->Bb
open PySem.NameKind renaming free->Bj
set_option linter.all false
set_option compiler.extract_closed false
set_option Elab.async false
set_option maxRecDepth 100000
set_option maxHeartbeats 4000000
def δ{p:Prop}(h:p:=by decide +kernel):p:=h
def ω{p:Prop}(h:p:=by (first|lia|omega)):p:=h
def ξ{p:Prop}(h:p:=by decide):p:=h
abbrev Ω:=PySem.Value->PySem.Shared->Prop
abbrev Ξ:=List (List Int)
abbrev Ψ:=List (PySem.Addr×PySem.Obj)
local macro_rules|`($s⁻¹)=>`(($s).heap.objs.size)
section
namespace L2
open PySem PySem.Spec PyProof.Rows
abbrev Key:=Sum Int Str
noncomputable def mL:Key->Value->Bool
 |.inl k,v=>Value.isInt k v
 |.inr x,v=>Value.isStrOf x v
noncomputable def Dw(w:World):Key->Int
 |.inl k=>hashInt k
 |.inr x=>hashStr w x
def aR:∀{k:Key}{v:Value},mL k v=true->(∃i t,k=Sum.inl i/\v=Value.int i t)\/(∃x t,k=Sum.inr x/\v=Value.str x t)
 |.inl i,v,h=>by
  obtain⟨t,e⟩:=Value.isInt_shape (k:=i) (v:=v) h;exact .inl ⟨i,t,rfl,e⟩
 |.inr x,v,h=>by
  obtain⟨t,e⟩:=Value.isStrOf_shape (x:=x) (v:=v) h;exact .inr ⟨x,t,rfl,e⟩
def Kf(i:Int)(t:Tok):mL (.inl i) (.int i t)=true:=by simp[mL,Value.isInt]
def Kg(x:Str)(t:Tok):mL (.inr x) (.str x t)=true:=by simp[mL,Value.isStrOf]
def Kh(a b:Int):decide ((Sum.inl a:Key)=Sum.inl b)=(a==b):=by
 by_cases e:a=b
 ·subst e;simp
 ·have h:¬(Sum.inl a:Key)=Sum.inl b:=fun q=>e (Sum.inl.inj q)
  rw[decide_eq_false h];exact(beq_eq_false_iff_ne.mpr e).symm
def Ki(a b:Str):decide ((Sum.inr a:Key)=Sum.inr b)=decide (a=b):=by
 by_cases e:a=b
 ·subst e;simp
 ·have h:¬(Sum.inr a:Key)=Sum.inr b:=fun q=>e (Sum.inr.inj q)
  rw[decide_eq_false h,decide_eq_false e]
def Kj(a:Int)(b:Str):decide ((Sum.inl a:Key)=Sum.inr b)=false:=decide_eq_false (fun q=>nomatch q)
def Kk(a:Str)(b:Int):decide ((Sum.inr a:Key)=Sum.inl b)=false:=decide_eq_false (fun q=>nomatch q)
noncomputable def ey(prog:Program)(w:World):PySem.KeyKind prog w Key where
 is:=mL
 hash:=Dw w
 inj:=fun v a b d hb=>by
  rcases aR d with ⟨i,t,rfl,rfl⟩|⟨x,t,rfl,rfl⟩
  ·rcases aR hb with ⟨j,u,rfl,e⟩|⟨y,u,rfl,e⟩
   ·injection e with e1 _;rw[e1]
   ·exact nomatch e
  ·rcases aR hb with ⟨j,u,rfl,e⟩|⟨y,u,rfl,e⟩
   ·exact nomatch e
   ·injection e with e1 _;rw[e1]
 byValue:=fun k v h=>by
  rcases aR h with ⟨i,t,rfl,rfl⟩|⟨x,t,rfl,rfl⟩<;>rfl
 pyHash:=fun c h=>by
  rcases aR c with ⟨i,t,rfl,rfl⟩|⟨x,t,rfl,rfl⟩
  ·exact wpAny_pyHash_int h
  ·exact wpAny_pyHash_str h
 eqBool:=fun f c h=>by
  rcases aR f with ⟨i,t,rfl,rfl⟩|⟨x,t,rfl,rfl⟩
  ·rcases aR c with ⟨j,u,rfl,rfl⟩|⟨y,u,rfl,rfl⟩
   ·rw[Kh] at h;exact wpAny_eqBool_int h
   ·rw[Kj] at h;exact SeqAt.EqAt.int_str i t y u _ _ _ _ h
  ·rcases aR c with ⟨j,u,rfl,rfl⟩|⟨y,u,rfl,rfl⟩
   ·rw[Kk] at h;exact SeqAt.EqAt.str_int x t j u _ _ _ _ h
   ·rw[Ki] at h;exact wpAny_eqBool_str h
 «strs»:=fun k x t v h=>by
  rcases aR h with ⟨i,u,rfl,e⟩|⟨y,u,rfl,e⟩
  ·exact nomatch e
  ·injection e with e1 _
   subst e1;cases v<;>rfl
def Kl(prog:Program)(w:World)(i:Int)(t:Tok):(ey prog w).is (.inl i) (.int i t)=true:=Kf i t
def Km(prog:Program)(w:World)(x:Str)(t:Tok):(ey prog w).is (.inr x) (.str x t)=true:=Kg x t
inductive V where
 |non|bl (b:Bool)|int (i:Int)|str (x:Str)|byt (b:Array UInt8)|flt (b:UInt64)|ref (a:Addr)|ty (n:String)
 deriving DecidableEq
def RelV:V->Value->Prop
 |.non,u=>u=Value.none
 |.bl b,u=>u=Value.bool b
 |.int i,u=>∃t,u=Value.int i t
 |.str x,u=>∃t,u=Value.str x t
 |.byt b,u=>∃t,u=Value.bytes b t
 |.flt b,u=>∃t,u=Value.float b t
 |.ref a,u=>u=Value.ref a
 |.ty n,u=>u=Value.type n
abbrev Vals:List V->List Value->Prop:=Paired RelV
def Vals.length{xs:List V}{us:List Value}(r:Vals xs us):xs.length=us.length:=Paired.length r
def Vals.get:∀{xs:List V}{us:List Value}{i:Nat}{x:V},Vals xs us->xs[i]?=some x->∃u,us[i]?=some u/\RelV x u
 |_,_,_,_,.nil,e=>by simp at e
 |_,_,0,_,.cons r _,e=>by simp at e;subst e;exact⟨_,rfl,r⟩
 |_,_,i+1,x,.cons _ t,e=>by
  obtain⟨u,h1,h2⟩:=Vals.get (i:=i) (x:=x) t (by simpa using e);exact⟨u,by simpa using h1,h2⟩
def Vals.set{x:V}{u:Value}(r:RelV x u):∀{xs:List V}{us:List Value}(i:Nat),Vals xs us->Vals (xs.set i x) (us.set i u)
 |_,_,_,.nil=>.nil
 |_,_,0,.cons _ t=>.cons r t
 |_,_,i+1,.cons q t=>.cons q (Vals.set r i t)
def Vals.append{xs ys:List V}{us a:List Value}(h:Vals xs us)(g:Vals ys a):Vals (xs++ys) (us++a):=by
 induction h with
 |nil=>exact g
 |cons r _ ih=>exact .cons r ih
def Vals.take:∀{xs:List V}{us:List Value}(n:Nat),Vals xs us->Vals (xs.take n) (us.take n)
 |_,_,0,_=>.nil
 |_,_,_+1,.nil=>.nil
 |_,_,n+1,.cons r t=>.cons r (Vals.take n t)
def Vals.drop:∀{xs:List V}{us:List Value}(n:Nat),Vals xs us->Vals (xs.drop n) (us.drop n)
 |_,_,0,r=>r
 |_,_,_+1,.nil=>.nil
 |_,_,n+1,.cons _ t=>Vals.drop n t
def RelO:Option V->Option Value->Prop
 |some v,some u=>RelV v u
 |none,none=>True
 |_,_=>False
def KV{κ:Type}:List (κ×V)->List (κ×Value)->Prop:=Paired fun(p:κ×V)(q:κ×Value)=>p.1=q.1/\RelV p.2 q.2
noncomputable def kV:Key->V
 |.inl i=>.int i
 |.inr x=>.str x
inductive HO where
 |lst (xs:List V)
 |tup (xs:List V)
 |dK (kvs:List (Key×V))|dT (kvs:List (List Key×V))
 |set (S:Int->Bool) (n:Nat)
 |ins (C dx:Addr) (fs:List (Str×V))
 |own (x:Addr)
 |xd (fs:List (Str×V))
 |met (f x:Addr)
 |rng (lo hi:Int)
 |frz (o:Obj) (u:HO)
 |tbl (ps:Array Value)
 |ext (φ:Heap->Prop)
abbrev Hp:=Addr->Option HO
noncomputable def upd(H:Hp)(a:Addr)(o:HO):Hp:=fun b=>if b=a then some o else H b
def zc{H:Hp}{a:Addr}{o:HO}:upd H a o a=some o:=by unfold upd;rw[if_pos rfl]
def af{H:Hp}{a b:Addr}{o:HO}(h:b≠a):upd H a o b=H b:=by unfold upd;rw[if_neg h]
def Dx{H:Hp}{a b:Addr}{o u:HO}(h:H a=some o)(h':H b=some u)(d:o≠u):a≠b:=by
 intro e;subst e;rw[h] at h';exact d (AM h')
def zm{H:Hp}{a b:Addr}{o:HO}(h:H a=some o)(h':H b=none):a≠b:=by
 intro e;subst e;rw[h] at h';cases h'
section
variable(P:Program)(w:World)
def zad(H:Hp)(h:Heap)(a:Addr):HO->Prop
 |.lst xs=>xs.length<=sizeLine/\∃(ad:List Value)(n:Nat),Vals xs ad/\h.get? a=some {cls:=.type "list",data:=.seq ad.toArray n}
 |.tup xs=>xs.length<=sizeLine/\∃ad:List Value,Vals xs ad/\IsTup h a ad.toArray
 |.dK kvs=>kvs.length<=sizeLine/\(a==sysModules)=false/\∃vs,KV kvs vs/\h.DictOf (ey P w) a vs
 |.dT kvs=>kvs.length<=sizeLine/\(a==sysModules)=false/\∃xs:List (List Key×Addr×Value),
   Paired (fun(p:List Key×V)(q:List Key×Addr×Value)=>p.1=q.1/\H q.2.1=some (.tup (p.1.map kV))/\RelV p.2 q.2.2) kvs xs/\
   ∃o es ep,h.get? a=some o/\o.ExactDict/\o.data=.dict es ep/\es.toList=xs.map (entryOfKey (tupleKind (ey P w)))/\(xs.map (·.1)).Nodup
 |.set S n=>h.SetOf (intKind P w) a S n
 |.ins C dx fs=>H dx=some (.own a)/\fs.length<=1000/\dx≠a/\h.get? a=some (PySem.W.instObj C dx)/\
   ∃mA,h.Ns1 dx mA/\(∀f,RelO (fs.lookup f) (mA f))/\PySem.Within mA (fs.map (·.1))
 |.own _=>∃o,h.get? a=some o
 |.xd fs=>∃mA,h.Ns1 a mA/\∀f,RelO (fs.lookup f) (mA f)
 |.rng lo hi=>∃t u v,h.get? a=some {cls:=.type "range",data:=.fields #[.int lo t,.int hi u,.int 1 v]}
 |.frz o u=>h.get? a=some o/\zad H h a u
 |.tbl ps=>h.get? a=some {cls:=.none,data:=.fields ps}
 |.met f x=>h.get? a=some (PySem.W.methodObj (.ref f) (.ref x))
 |.ext φ=>φ h/\(∃o,h.get? a=some o)/\∀h1 h2:Heap,φ h1->(∀o,h1.get? a=some o->h2.get? a=some o)->φ h2
def HOk(H:Hp)(h:Heap):Prop:=∀a o,H a=some o->zad P w H h a o
end
section
variable{P:Program}{w:World}{H H':Hp}{h h':Heap}{a:Addr}{o:HO}
def zad.lt(x:zad P w H h a o):a<h.objs.size:=by
 cases o with
 |lst xs=>obtain⟨_,_,_,_,e⟩:=x;exact At e
 |tup xs=>obtain⟨_,_,_,p⟩:=x;exact p.lt
 |dK kvs=>obtain⟨_,_,_,_,o,_,_,e,_⟩:=x;exact At e
 |dT kvs=>obtain⟨_,_,_,_,o,_,_,e,_⟩:=x;exact At e
 |set S n=>obtain⟨o,_,_,_,e,_⟩:=x;exact At e
 |ins C dx fs=>obtain⟨_,_,_,e,_⟩:=x;exact At e
 |own y=>obtain⟨_,e⟩:=x;exact At e
 |xd fs=>obtain⟨_,⟨_,_,_,e,_⟩,_⟩:=x;exact At e
 |rng lo hi=>obtain⟨_,_,_,e⟩:=x;exact At e
 |frz ob u=>obtain⟨e,_⟩:=x;exact At e
 |tbl ps=>exact At (show h.get? a=some _ from x)
 |met f y=>exact At (show h.get? a=some _ from x)
 |ext φ=>obtain⟨_,⟨_,e⟩,_⟩:=x;exact At e
def Paired.mapP{c d:Type}{F G:c->d->Prop}{e:List c}{l₂:List d}(h:Paired F e l₂)(f:∀a b,F a b->G a b):Paired G e l₂:=by
 induction h with
 |nil=>exact .nil
 |cons r _ ih=>exact .cons (f _ _ r) ih
def zad.stay(x:zad P w H h a o)(k:∀b u,(b=a\/H b=some (.own a))->h.get? b=some u->h'.get? b=some u)(j:∀b,H b=some (.own a)->H' b=some (.own a))(l:∀b xs,H b=some (.tup xs)->H' b=some (.tup xs)):zad P w H' h' a o:=by
 induction o with
 |lst xs=>obtain⟨z,ad,n,r,e⟩:=x;exact⟨z,ad,n,r,k _ _ (.inl rfl) e⟩
 |tup xs=>obtain⟨z,ad,r,g,e,c⟩:=x;exact⟨z,ad,r,g,k _ _ (.inl rfl) e,c⟩
 |dK kvs=>obtain⟨z,y,vs,r,g,es,ep,e,c⟩:=x;exact⟨z,y,vs,r,g,es,ep,k _ _ (.inl rfl) e,c⟩
 |dT kvs=>
  obtain⟨z,y,xs,r,g,es,ep,e,c⟩:=x;exact⟨z,y,xs,Paired.mapP r fun p q z=>⟨z.1,l _ _ z.2.1,z.2.2⟩,g,es,ep,k _ _ (.inl rfl) e,c⟩
 |set S n=>obtain⟨g,es,ep,t,e,c⟩:=x;exact⟨g,es,ep,t,k _ _ (.inl rfl) e,c⟩
 |ins C dx fs=>
  obtain⟨d,z,ne,e,mA,⟨i,es,ep,e2,c⟩,r⟩:=x;exact⟨j _ d,z,ne,k _ _ (.inl rfl) e,mA,⟨i,es,ep,k _ _ (.inr d) e2,c⟩,r⟩
 |own y=>obtain⟨g,e⟩:=x;exact⟨g,k _ _ (.inl rfl) e⟩
 |xd fs=>obtain⟨mA,⟨i,es,ep,e,c⟩,r⟩:=x;exact⟨mA,⟨i,es,ep,k _ _ (.inl rfl) e,c⟩,r⟩
 |rng lo hi=>obtain⟨t,u,v,e⟩:=x;exact⟨t,u,v,k _ _ (.inl rfl) e⟩
 |frz g u ih=>obtain⟨e,q⟩:=x;exact⟨k _ _ (.inl rfl) e,ih q⟩
 |tbl ps=>
  have e:h.get? a=some {cls:=.none,data:=.fields ps}:=x;show h'.get? a=some {cls:=.none,data:=.fields ps};exact k a _ (.inl rfl) e
 |met f y=>
  have e:h.get? a=some (PySem.W.methodObj (.ref f) (.ref y)):=x;show h'.get? a=some (PySem.W.methodObj (.ref f) (.ref y));exact k a _ (.inl rfl) e
 |ext φ=>obtain⟨p,⟨o,e⟩,st⟩:=x;exact⟨st _ _ p fun o q=>k _ _ (.inl rfl) q,⟨o,k _ _ (.inl rfl) e⟩,st⟩
def HOk.lt(x:HOk P w H h)(e:H a=some o):a<h.objs.size:=(x a o e).lt
def HOk.fresh(x:HOk P w H h)(e:h.objs.size<=a):H a=none:=by
 cases q:H a with
 |none=>rfl
 |some u=>exact absurd (AC (x.lt q) e) (Nat.lt_irrefl _)
def HOk.kept(x:HOk P w H h)(k:∀b u,h.get? b=some u->h'.get? b=some u):HOk P w H h':=fun a o e=>
 (x a o e).stay (fun b u _ q=>k b u q) (fun _ q=>q) fun _ _ q=>q
def HOk.laid(x:HOk P w H h)(k:∀b u,h.get? b=some u->h'.get? b=some u)(hp:h.objs.size<=a)(new:zad P w (upd H a o) h' a o):HOk P w (upd H a o) h':=fun b u e=>by
 have d:=x.fresh hp
 by_cases hb:b=a
 ·subst hb;rw[zc] at e;cases e;exact new
 ·rw[af hb] at e
  exact(x b u e).stay (fun c v _ q=>k c v q) (fun c q=>by rw[af (zm q d)];exact q) fun c xs q=>by rw[af (zm q d)];exact q
end
def Rd(H:Hp)(a:Addr)(u:HO):Prop:=H a=some u\/∃o,H a=some (.frz o u)
def Rd.of{H:Hp}{a:Addr}{u:HO}(h:H a=some u):Rd H a u:=.inl h
def Rd.ok{P:Program}{w:World}{H:Hp}{h:Heap}{a:Addr}{u:HO}(r:Rd H a u)(x:HOk P w H h):zad P w H h a u:=by
 rcases r with r|⟨o,r⟩
 ·exact x a u r
 ·obtain⟨_,q⟩:=x a _ r
  exact q
def pV:Option HO->Prop
 |some (.lst _)=>True
 |some (.dK _)=>True
 |some (.dT _)=>True
 |some (.set _ _)=>True
 |some (.ins _ _ _)=>True
 |some (.ext _)=>True
 |_=>False
section
variable{P:Program}{w:World}{H:Hp}{h h':Heap}{x e:Addr}{o':HO}
def HOk.write(ok:HOk P w H h)(mu:pV (H x))(g:e=x\/H e=some (.own x))(k:∀b u,b≠e->h.get? b=some u->h'.get? b=some u)(l:∃u,h'.get? e=some u)(new:zad P w (upd H x o') h' x o'):HOk P w (upd H x o') h':=fun b u q=>by
 have d:∀c y,H c=some (.own y)->c≠x:=fun c y r z=>by subst z;rw[r] at mu;exact mu
 have f:∀c xs,H c=some (.tup xs)->c≠x:=fun c xs r z=>by subst z;rw[r] at mu;exact mu
 by_cases hb:b=x
 ·subst hb;rw[zc] at q;cases q;exact new
 ·rw[af hb] at q
  by_cases a:b=e
  ·have i:H b=some (.own x):=by
    rcases g with z|z
    ·exact absurd (a.trans z) hb
    ·rw[a];exact z
   rw[q] at i;cases i;obtain⟨v,j⟩:=l;exact⟨v,by rw[a];exact j⟩
  ·refine(ok b u q).stay (fun c v hc r=>k c v ?_ r) (fun c r=>by rw[af (d c b r)];exact r) fun c xs r=>by rw[af (f c xs r)];exact r
   rcases hc with rfl|hc
   ·exact a
   ·rintro rfl
    rcases g with z|z
    ·exact d c b hc z
    ·rw[hc] at z;cases z;exact hb rfl
end
structure Un(fs ex:List Addr)(H H':Hp)(h h':Heap):Prop where
 keep:∀b o,h.get? b=some o->H b=none->b∉fs->b∉ex->h'.get? b=some o
 slot:∀b o,h.get? b=some o->H b=none->b∈fs->b∉ex->∃sl,h'.get? b=some {o with slots:=sl}
 free:∀b o,h.get? b=some o->H b=none->b∉ex->H' b=none
 there:∀b o,h.get? b=some o->b∉ex->∃o',h'.get? b=some o'
 tups:∀b xs,H b=some (.tup xs)->H' b=some (.tup xs)
 frzs:∀b o u,H b=some (.frz o u)->H' b=some (.frz o u)
 tbls:∀b ps,H b=some (.tbl ps)->∃more,H' b=some (.tbl (ps++more))
section
variable{fs r_ ex BQ:List Addr}{H H1 H2:Hp}{h h1 h2 h':Heap}{a x e:Addr}{o:HO}
def Un.any(u:Un fs ex H H1 h h1){b:Addr}{a:Obj}(q:h.get? b=some a)(n:H b=none)(hx:b∉ex):∃c,h1.get? b=some {a with slots:=c}:=by
 by_cases hb:b∈fs
 ·exact u.slot b a q n hb hx
 ·exact⟨a.slots,u.keep b a q n hb hx⟩
def Un.kept(k:∀b u,h.get? b=some u->h'.get? b=some u):Un fs ex H H h h':=
 ⟨fun b a q _ _ _=>k b a q,fun b a q _ _ _=>⟨a.slots,k b a q⟩,fun _ _ _ n _=>n,fun b a q _=>⟨a,k b a q⟩,fun _ _ q=>q,fun _ _ _ q=>q,fun _ ps q=>⟨#[],by rw[q];simp⟩⟩
def Un.refl:Un fs ex H H h h:=Un.kept fun _ _ q=>q
def Un.laid(k:∀b u,h.get? b=some u->h'.get? b=some u)(hp:h.objs.size<=a)(c:H a=none):Un fs ex H (upd H a o) h h' where
 keep:=fun b u q _ _ _=>k b u q
 slot:=fun b u q _ _ _=>⟨u.slots,k b u q⟩
 free:=fun b u q n _=>by rw[af (AB (AC (At q) hp))];exact n
 there:=fun b u q _=>⟨u,k b u q⟩
 tups:=fun b xs q=>by rw[af (zm q c)];exact q
 frzs:=fun b u xs q=>by rw[af (zm q c)];exact q
 tbls:=fun b ps q=>⟨#[],by rw[af (zm q c),q];simp⟩
def Un.write(mu:pV (H x))(d:e=x\/H e=some (.own x))(k:∀b u,b≠e->h.get? b=some u->h'.get? b=some u)(f:∃u,h'.get? e=some u):Un fs ex H (upd H x o) h h':=by
 have hx:∀b,H b=none->b≠x:=fun b n z=>by subst z;rw[n] at mu;exact mu
 have hb:∀b,H b=none->b≠e:=fun b n z=>by
  subst z;rcases d with r|r
  ·exact hx b n r
  ·rw[n] at r;cases r
 have c:∀b u,H b=some u->¬pV (some u)->b≠x:=fun b u q nm z=>by subst z;rw[q] at mu;exact nm mu
 refine⟨fun b u q n _ _=>k b u (hb b n) q,fun b u q n _ _=>⟨u.slots,k b u (hb b n) q⟩,fun b u q n _=>by rw[af (hx b n)];exact n,fun b u q _=>?_,
  fun b xs q=>by rw[af (c b _ q fun z=>z)];exact q,fun b u xs q=>by rw[af (c b _ q fun z=>z)];exact q,fun b ps q=>⟨#[],by rw[af (c b _ q fun z=>z),q];simp⟩⟩
 by_cases a:b=e
 ·subst a;exact f
 ·exact⟨u,k b u a q⟩
end
noncomputable def y3(h:Heap)(H:Hp):List Addr:=(Ah h.objs.size).filter fun a=>(H a).isSome
noncomputable def dF(h:Heap)(H:Hp):Heap:=PySem.W.hideAll h (y3 h H)
def Kn(h:Heap)(H:Hp):(dF h H).objs.size=h.objs.size:=PySem.W.hideAll_size _ _
def Ko{h:Heap}{H:Hp}{b:Addr}{o:Obj}(e:h.get? b=some o)(n:H b=none):(dF h H).get? b=some o:=
 PySem.W.hideAll_get _ e fun a=>by
  have q:(H b).isSome=true:=(List.mem_filter.mp a).2;rw[n] at q;simp at q
def Kp{h:Heap}{H:Hp}{b:Addr}{o:Obj}(e:(dF h H).get? b=some o):h.get? b=some o/\H b=none:=by
 have e':h.get? b=some o:=PySem.W.of_hideAll (y3 h H) e;refine⟨e',?_⟩;cases q:H b with
 |none=>rfl
 |some x=>
  have a:b∈y3 h H:=List.mem_filter.mpr ⟨List.mem_range.mpr (At e'),by simp[q]⟩;have z:(dF h H).get? b=none:=PySem.W.hideAll_none (y3 h H) a;rw[z] at e;cases e
structure Mod(K:Af)(mg:Str->Option Value)(base:Heap):Prop where
 kin:K.In base
 glob:base.Ns mainGlobals mg
 blt:∃mb,base.Ns builtinsNs mb/\∀x:Str,x≠"__name__"->mb x=A5 x
 nolimit:base.NoLimit
structure Cx where
 prog:Program
 w:World
 K:Af
 mg:Str->Option Value
 base:Heap
 A:Around
 N:List Str
 s₀:Shared
 H₀:Hp
 env:Env
 outer:List Env
 stack:List Env
 ex:List Addr
 fn:Str->Bool
 calm:Bool
 pn:Ψ
 xe:Ω
noncomputable def frs(l:List Env):List Addr:=l.filterMap (·.frame)
noncomputable abbrev Cx.fs(X:Cx):List Addr:=frs X.outer
def y'(sc:Scope)(x:Str):Prop:=sc.names.lookup x=some .local\/sc.names.lookup x=some .cell\/sc.names.lookup x=some .free
def Loc(sc:Scope)(x:Str):Prop:=sc.names.lookup x=some .local\/sc.names.lookup x=some .cell
def Look(env:Env)(h:Heap)(m:Str->Option Value)(x:Str)(u:Value):Prop:=
 (env.kindOf x=some .local/\m x=some u)\/((env.kindOf x=some .cell\/env.kindOf x=some .free)/\∃c,env.cells.lookup x=some c/\h.IsCell c (some u))
structure Cx.Ok(X:Cx):Prop where
 mod:Mod X.K X.mg X.base
 kind:X.env.scope.kind=.function
 glob:X.env.globals=mainGlobals
 blt:X.env.builtins=builtinsNs
 above:X.s₀⁻¹<=X.env.locals
 inj:∀x y c,X.env.cells.lookup x=some c->X.env.cells.lookup y=some c->x=y
 has:∀x,(X.env.kindOf x=some .cell\/X.env.kindOf x=some .free)->∃c,X.env.cells.lookup x=some c
 cab:∀x c,X.fn x=true->X.env.cells.lookup x=some c->X.s₀⁻¹<=c
 hd:X.calm=true->X.A.handled=none
 frames:X.A.frames=some X.stack
 stk:X.stack=X.outer\/(X.stack=X.env::X.outer/\X.env.frame=some X.env.locals)
 exf:∀b∈X.ex,b≠X.env.locals/\∀x c,X.env.cells.lookup x=some c->c≠b
 bs:∀b o,X.base.get? b=some o->X.s₀.heap.get? b=some o/\X.H₀ b=none
 bsz:X.base.objs.size<=X.s₀⁻¹
 noex:∀b o,X.base.get? b=some o->b∉X.ex
 exfs:∀b∈X.ex,b∉X.fs
 funs:X.s₀.heap.FunFrames X.base X.outer
 frf:∀b∈X.fs,X.H₀ b=none
structure Inv(X:Cx)(aa:Ψ)(σ:List (Option V))(H:Hp)(s:Shared):Prop where
 ok:X.Ok
 os:s.os=X.s₀.os
 bare:AllBare s.gens
 base:Un X.fs X.ex X.H₀ H X.s₀.heap s.heap
 loc:∃m,s.heap.Ns X.env.locals m/\∀(i:Nat)(x:Str)(v:V),X.N[i]?=some x->σ[i]?=some (some v)->y' X.env.scope x->∃u,RelV v u/\Look X.env s.heap m x u
 cell:∀x c,X.env.cells.lookup x=some c->∃v,s.heap.IsCell c v
 free:H X.env.locals=none
 freeC:∀x c,X.env.cells.lookup x=some c->H c=none
 pin:∀p∈X.pn++aa,s.heap.get? p.1=some p.2/\H p.1=none/\p.1≠X.env.locals/\p.1∉X.fs/\∀v,p.2.data≠.cell v
 hok:HOk X.prog X.w H s.heap
 len:σ.length=X.N.length
section
variable{X:Cx}{aa:Ψ}{σ:List (Option V)}{H H':Hp}{s:Shared}{h':Heap}
def Cx.Ok.nofr(ok:X.Ok){b:Addr}{o:Obj}(e:X.base.get? b=some o):b∉X.fs:=fun hb=>by
 have:=(ok.funs.mem hb).1;rw[e] at this;cases this
def Inv.bs(I:Inv X aa σ H s):∀b o,X.base.get? b=some o->s.heap.get? b=some o/\H b=none:=fun b o e=>
 ⟨I.base.keep b o (I.ok.bs b o e).1 (I.ok.bs b o e).2 (I.ok.nofr e) (I.ok.noex b o e),I.base.free b o (I.ok.bs b o e).1 (I.ok.bs b o e).2 (I.ok.noex b o e)⟩
def Inv.bk(I:Inv X aa σ H s):∀b o,X.base.get? b=some o->s.heap.get? b=some o:=fun b o e=>(I.bs b o e).1
def Inv.mod(I:Inv X aa σ H s):Mod X.K X.mg X.base:=I.ok.mod
def Inv.kIn(I:Inv X aa σ H s):X.K.In s.heap:=I.ok.mod.kin.keeps I.bk
def Inv.nolimit(I:Inv X aa σ H s):s.heap.NoLimit:=I.ok.mod.nolimit.keeps I.bk
def Inv.lt(I:Inv X aa σ H s):X.env.locals<s⁻¹:=let ⟨_,hn,_⟩:=I.loc;hn.lt
def Inv.sz(I:Inv X aa σ H s):X.s₀⁻¹<=s⁻¹:=Ag I.ok.above (Nat.le_of_lt I.lt)
def Inv.nofs(I:Inv X aa σ H s){a:Addr}(h:s⁻¹<=a):a∉X.fs:=fun hb=>by
 obtain⟨_,o,b,_⟩:=I.ok.funs.mem hb;exact absurd (AC (At b) (Ag I.sz h)) (Nat.lt_irrefl _)
def Inv.cne(I:Inv X aa σ H s):∀x c,X.env.cells.lookup x=some c->c≠X.env.locals:=fun x c e z=>by
 obtain⟨v,o,b,hd⟩:=I.cell x c e;obtain⟨m,⟨o',es,ep,d,a,_⟩,_⟩:=I.loc;rw[z,d] at b;cases b;rw[a] at hd;cases hd
def Inv.funs(I:Inv X aa σ H s):s.heap.FunFrames X.base X.outer:=by
 have all:∀(l:List Env),(∀b∈frs l,b∈X.fs)->X.s₀.heap.FunFrames X.base l->s.heap.FunFrames X.base l:=by
  intro l
  induction l with
  |nil=>intro _ _;trivial
  |cons env r ih=>
   intro d f;obtain⟨hk,⟨L,o,a,g,h,hd⟩,hr⟩:=f;have c:L∈X.fs:=d L (by unfold frs;rw[List.filterMap_cons,a];exact Ar);obtain⟨i,e⟩:=I.base.slot L o h (I.ok.frf L c) c fun z=>I.ok.exfs L z c;exact⟨hk,⟨L,_,a,g,e,hd⟩,ih (fun b hb=>d b (by unfold frs;rw[List.filterMap_cons,a];exact Ax _ hb)) hr⟩
 exact all X.outer (fun _ hb=>hb) I.ok.funs
def Inv.stack(I:Inv X aa σ H s):s.heap.FunFrames X.base X.stack:=by
 rcases I.ok.stk with e|⟨e,a⟩
 ·rw[e];exact I.funs
 ·rw[e]
  obtain⟨m,b,_⟩:=I.loc;refine .cons (by rw[I.ok.kind];decide) a b ?_ I.funs;exact Heap.get?_none_of_le (Ag I.ok.bsz I.ok.above)
def Inv.stkSub(I:Inv X aa σ H s):∀b∈frs X.stack,b∈X.env.locals::X.fs:=fun b hb=>by
 rcases I.ok.stk with e|⟨e,a⟩
 ·rw[e] at hb;exact Ax _ hb
 ·rw[e] at hb
  unfold frs at hb;rw[List.filterMap_cons,a] at hb;exact hb
def Inv.stkFree(I:Inv X aa σ H s):∀b∈frs X.stack,H b=none:=fun b hb=>by
 rcases List.mem_cons.mp (I.stkSub b hb) with e|hb
 ·rw[e];exact I.free
 ·obtain⟨_,o,a,_⟩:=I.ok.funs.mem hb
  exact I.base.free b o a (I.ok.frf b hb) fun z=>I.ok.exfs b z hb
noncomputable def Inv.step{g':Array GenState}{t':Nat}{d':Drawn}{ch:List Addr}(I:Inv X aa σ H s)(h:∀b∈ch,(b∈X.ex\/X.s₀⁻¹<=b)/\b≠X.env.locals/\(∀x c,X.env.cells.lookup x=some c->c≠b)/\∀p∈X.pn++aa,p.1≠b)(keep:∀b o,b≠X.env.locals->b∉X.fs->b∉ch->s.heap.get? b=some o->H b=none->h'.get? b=some o)(slot:∀b o,b≠X.env.locals->b∈X.fs->b∉ch->s.heap.get? b=some o->H b=none->∃A,h'.get? b=some {o with slots:=A})(free:∀b o,b∉ch->s.heap.get? b=some o->H b=none->H' b=none)(there:∀b o,b∉ch->s.heap.get? b=some o->∃o',h'.get? b=some o')(tups:∀b xs,H b=some (.tup xs)->H' b=some (.tup xs))(frzs:∀b o u,H b=some (.frz o u)->H' b=some (.frz o u))(tbls:∀b ps,H b=some (.tbl ps)->∃more,H' b=some (.tbl (ps++more)))(ns:∀m,s.heap.Ns X.env.locals m->h'.Ns X.env.locals m)(C:HOk X.prog X.w H' h')(hg:AllBare g'):Inv X aa σ H' {s with heap:=h',gens:=g',drawn:=d',toks:=t'}:=by
 have j:∀b o,X.s₀.heap.get? b=some o->b≠X.env.locals:=fun b o e=>AB (AC (At e) I.ok.above);have y:∀b o,X.s₀.heap.get? b=some o->b∉X.ex->b∉ch:=fun b o e hx hb=>by
  rcases(h b hb).1 with z|z
  ·exact hx z
  ·exact absurd (AC (At e) z) (Nat.lt_irrefl _)
 have a:∀x c,X.env.cells.lookup x=some c->∀v,s.heap.IsCell c v->h'.IsCell c v:=fun x c e v ⟨o,g,hd⟩=>by
  have f:c∉ch:=fun z=>(h c z).2.2.1 x c e rfl
  by_cases hc:c∈X.fs
  ·obtain⟨A,q⟩:=slot c o (I.cne x c e) hc f g (I.freeC x c e)
   exact⟨_,q,hd⟩
  ·exact⟨o,keep c o (I.cne x c e) hc f g (I.freeC x c e),hd⟩
 refine⟨I.ok,I.os,hg,⟨fun b o e n hb hx=>?_,fun b o e n hb hx=>?_,fun b o e n hx=>?_,fun b o e hx=>?_,fun b xs e=>tups b xs (I.base.tups b xs e),fun b o xs e=>frzs b o xs (I.base.frzs b o xs e),fun b ps e=>?_⟩,?_,fun x c e=>?_,?_,fun x c e=>?_,fun p hp=>?_,C,I.len⟩
 ·exact keep b o (j b o e) hb (y b o e hx) (I.base.keep b o e n hb hx) (I.base.free b o e n hx)
 ·obtain⟨A,e1⟩:=I.base.slot b o e n hb hx
  obtain⟨E,e2⟩:=slot b _ (j b o e) hb (y b o e hx) e1 (I.base.free b o e n hx);exact⟨E,e2⟩
 ·obtain⟨o',e1⟩:=I.base.there b o e hx
  exact free b o' (y b o e hx) e1 (I.base.free b o e n hx)
 ·obtain⟨o',e1⟩:=I.base.there b o e hx
  exact there b o' (y b o e hx) e1
 ·obtain⟨F,e1⟩:=I.base.tbls b ps e
  obtain⟨m2,e2⟩:=tbls b _ e1;exact⟨F++m2,by rw[e2,Array.append_assoc]⟩
 ·obtain⟨m,G,J⟩:=I.loc
  refine⟨m,ns m G,fun i x v e1 e2 e3=>?_⟩;obtain⟨u,r,l⟩:=J i x v e1 e2 e3;refine⟨u,r,?_⟩;rcases l with l|⟨k,c,e,z⟩
  ·exact .inl l
  ·exact .inr ⟨k,c,e,a x c e _ z⟩
 ·obtain⟨v,z⟩:=I.cell x c e
  exact⟨v,a x c e v z⟩
 ·obtain⟨m,⟨o,_,_,g,_⟩,_⟩:=I.loc
  exact free _ o (fun z=>(h _ z).2.1 rfl) g I.free
 ·obtain⟨v,o,g,hd⟩:=I.cell x c e
  exact free c o (fun z=>(h c z).2.2.1 x c e rfl) g (I.freeC x c e)
 ·obtain⟨e,n,ne,D,d⟩:=I.pin p hp
  have f:p.1∉ch:=fun z=>(h p.1 z).2.2.2 p hp rfl;exact⟨keep p.1 p.2 ne D f e n,free p.1 p.2 f e n,ne,D,d⟩
noncomputable def Inv.un{t':Nat}(I:Inv X aa σ H s)(u:Un X.fs [] H H' s.heap h')(a:HOk X.prog X.w H' h'):Inv X aa σ H' {s with heap:=h',toks:=t'}:=by
 obtain⟨m,⟨o,es,ep,c,r⟩,_⟩:=id I.loc;obtain⟨p,g⟩:=u.any c I.free (by simp);exact I.step (g':=s.gens) (d':=s.drawn) (ch:=[]) (fun _ z=>nomatch z) (fun b o _ hb _ e n=>u.keep b o e n hb (by simp)) (fun b o _ hb _ e n=>u.slot b o e n hb (by simp)) (fun b o _ e n=>u.free b o e n (by simp)) (fun b o _ e=>u.there b o e (by simp)) u.tups u.frzs u.tbls (fun l f=>by
  obtain⟨o',h,i,d,j⟩:=f;rw[c] at d;cases d;exact⟨_,h,i,g,j⟩) a I.bare
def Inv.call{g':Array GenState}{t':Nat}{d':Drawn}{ch:List Addr}(I:Inv X aa σ H s)(u:Un (frs X.stack) ch H H' s.heap h')(d:HOk X.prog X.w H' h')(hg:AllBare g')(h:∀b∈ch,(b∈X.ex\/X.s₀⁻¹<=b)/\b≠X.env.locals/\(∀x c,X.env.cells.lookup x=some c->c≠b)/\∀p∈X.pn++aa,p.1≠b):Inv X aa σ H' {s with heap:=h',gens:=g',drawn:=d',toks:=t'}:=by
 obtain⟨m,⟨o,es,ep,f,r⟩,_⟩:=id I.loc;obtain⟨y,a⟩:=u.any f I.free fun z=>(h _ z).2.1 rfl;exact I.step (ch:=ch) h (fun b o a hb hc e n=>u.keep b o e n (fun z=>(List.mem_cons.mp (I.stkSub b z)).elim a hb) hc) (fun b o _ _ hc e n=>u.any e n hc) (fun b o hc e n=>u.free b o e n hc) (fun b o hc e=>u.there b o e hc) u.tups u.frzs u.tbls (fun v i=>by
  obtain⟨o',j,l,g,q⟩:=i;rw[f] at g;cases g;exact⟨_,j,l,a,q⟩) d hg
def Inv.turned{t':Nat}{it:Addr}(I:Inv X aa σ H s)(k:∀b o,b≠it->s.heap.get? b=some o->h'.get? b=some o)(h:H it=none)(d:it≠X.env.locals)(h1:it∈X.ex\/X.s₀⁻¹<=it)(h2:∀x c,X.env.cells.lookup x=some c->c≠it)(i:∀p∈X.pn++aa,p.1≠it):Inv X aa σ H {s with heap:=h',toks:=t'}:=by
 have a:∀b u,H b=some u->b≠it:=fun b u e z=>by rw[z,h] at e;cases e
 refine I.step (g':=s.gens) (d':=s.drawn) (ch:=[it]) (fun b hb=>?_) (fun b o _ _ hc e _=>k b o (fun z=>hc (by simp[z])) e) (fun b o _ _ hc e _=>⟨o.slots,k b o (fun z=>hc (by simp[z])) e⟩) (fun _ _ _ _ n=>n)
  (fun b o hc e=>⟨o,k b o (fun z=>hc (by simp[z])) e⟩) (fun _ _ e=>e) (fun _ _ _ e=>e) (fun b ps e=>⟨#[],by rw[e];simp⟩) (fun m f=>?_) (fun b u e=>?_) I.bare
 ·have e:b=it:=by simpa using hb
  subst e;exact⟨h1,d,h2,i⟩
 ·obtain⟨o,es,ep,g,r⟩:=f
  exact⟨o,es,ep,k _ o (Ne.symm d) g,r⟩
 ·refine(I.hok b u e).stay (fun c v hc q=>k c v ?_ q) (fun _ q=>q) fun _ _ q=>q
  rcases hc with z|z
  ·rw[z];exact a b u e
  ·exact a c _ z
def Inv.tok(I:Inv X aa σ H s)(t:Nat):Inv X aa σ H {s with toks:=t}:=I.un (h':=s.heap) (t':=t) Un.refl I.hok
def Inv.kept{t':Nat}(I:Inv X aa σ H s)(k:∀b u,s.heap.get? b=some u->h'.get? b=some u):Inv X aa σ H {s with heap:=h',toks:=t'}:=I.un (Un.kept k) (I.hok.kept k)
def Inv.laid{a:Addr}{o:HO}{t':Nat}(I:Inv X aa σ H s)(k:∀b u,s.heap.get? b=some u->h'.get? b=some u)(hp:s⁻¹<=a)(new:zad X.prog X.w (upd H a o) h' a o):Inv X aa σ (upd H a o) {s with heap:=h',toks:=t'}:=I.un (Un.laid k hp (I.hok.fresh hp)) (I.hok.laid k hp new)
def Inv.write{x e:Addr}{o:HO}{t':Nat}(I:Inv X aa σ H s)(mu:pV (H x))(a:e=x\/H e=some (.own x))(k:∀b u,b≠e->s.heap.get? b=some u->h'.get? b=some u)(c:∃u,h'.get? e=some u)(new:zad X.prog X.w (upd H x o) h' x o):Inv X aa σ (upd H x o) {s with heap:=h',toks:=t'}:=I.un (Un.write mu a k c) (I.hok.write mu a k c new)
def Inv.pins_of{a:Ψ}(I:Inv X aa σ H s)(h:∀p∈a,s.heap.get? p.1=some p.2/\H p.1=none/\p.1≠X.env.locals/\p.1∉X.fs/\∀v,p.2.data≠.cell v):Inv X a σ H s:=
 ⟨I.ok,I.os,I.bare,I.base,I.loc,I.cell,I.free,I.freeC,fun p hp=>(List.mem_append.mp hp).elim (fun z=>I.pin p (List.mem_append_left _ z)) (h p),I.hok,I.len⟩
def F_{N:List Str}(c:N.Nodup){i j:Nat}{x:Str}(a:N[i]?=some x)(b:N[j]?=some x):i=j:=by
 obtain⟨h1,e1⟩:=List.getElem?_eq_some_iff.mp a;obtain⟨h2,e2⟩:=List.getElem?_eq_some_iff.mp b;exact(List.getElem_inj c).mp (e1.trans e2.symm)
def F'{M:Model}{A:Around}{E:Ω}{i:Nat}{x:Str}{v:V}{u:Value}{Q:Unit->Shared->Prop}(I:Inv X aa σ H s)(hN:X.N.Nodup)(hi:X.N[i]?=some x)(hx:Loc X.env.scope x)(r:RelV v u)(h:∀s',Inv X aa (σ.set i (some v)) H s'->(∃a,Heap.SameBut a s.heap s'.heap/\(a=X.env.locals\/X.env.cells.lookup x=some a))->Q () s')(hf:X.fn x=true\/X.env.scope.names.lookup x=some .local:=by first|exact .inl rfl|exact .inr rfl|assumption):wpAny M A (storeName X.env x u) Q E s:=by
 obtain⟨m,G,U⟩:=id I.loc;have kL:(X.env.scope.kind==.class|| (X.env.scope.kind==.module&&X.env.locals != X.env.globals))=false:=by rw[I.ok.kind];rfl
 have g:i<σ.length:=by rw[I.len];exact(List.getElem?_eq_some_iff.mp hi).1
 have cne:=I.cne;have cV:∀{a:Addr}{h':Heap},(∃o,s.heap.get? a=some o/\H a=none)->Heap.SameBut a s.heap h'->HOk X.prog X.w H h':=fun{a h'} ha f b ob e=>by
  obtain⟨_,_,W⟩:=ha;refine(I.hok b ob e).stay (fun c C hc q=>(f.2 c ?_).trans q) (fun _ q=>q) fun _ _ q=>q;rintro rfl;rcases hc with rfl|hc
  ·rw[W] at e;cases e
  ·rw[W] at hc;cases hc
 rcases hx with hk|hk
 ·refine wpAny_storeName_local hk G (fun h' fD f=>?_) kL
  obtain⟨oL,_,_,ic,_⟩:=id G;refine h _ ⟨I.ok,I.os,I.bare,⟨fun b o e n hb hx=>?_,fun b o e n hb hx=>?_,I.base.free,fun b o e hx=>?_,I.base.tups,I.base.frzs,I.base.tbls⟩,⟨_,fD,fun j y F e1 e2 e3=>?_⟩,fun y c e=>?_,I.free,I.freeC,fun p hp=>?_,cV ⟨oL,ic,I.free⟩ f,by simpa using I.len⟩ ⟨_,f,.inl rfl⟩
  ·exact(f.2 b (AB (AC (At e) I.ok.above))).trans (I.base.keep b o e n hb hx)
  ·obtain⟨J,e1⟩:=I.base.slot b o e n hb hx
   exact⟨J,(f.2 b (AB (AC (At e) I.ok.above))).trans e1⟩
  ·obtain⟨o',e1⟩:=I.base.there b o e hx
   exact⟨o',(f.2 b (AB (AC (At e) I.ok.above))).trans e1⟩
  ·by_cases l:j=i
   ·subst l
    rw[hi] at e1;cases e1;rw[List.getElem?_set_self g] at e2;cases e2;exact⟨u,r,.inl ⟨hk,by simp⟩⟩
   ·rw[List.getElem?_set_ne (Ne.symm l)] at e2
    obtain⟨L,O,q⟩:=U j y F e1 e2 e3;refine⟨L,O,?_⟩;rcases q with ⟨k,e⟩|⟨k,c,e,z⟩
    ·refine .inl ⟨k,?_⟩
     have:y≠x:=fun e=>l (F_ hN e1 (e▸hi));simp[this,e]
    ·exact .inr ⟨k,c,e,z.sameBut f (cne y c e)⟩
  ·obtain⟨C,z⟩:=I.cell y c e
   exact⟨C,z.sameBut f (cne y c e)⟩
  ·obtain⟨e,n,ne,P,d⟩:=I.pin p hp
   exact⟨(f.2 p.1 ne).trans e,n,ne,P,d⟩
 ·have S:X.fn x=true:=by
   rcases hf with z|z
   ·exact z
   ·rw[z] at hk;cases hk
  obtain⟨c,hc⟩:=I.ok.has x (.inl hk);obtain⟨C,z⟩:=I.cell x c hc;refine wpAny_storeName_cell I.ok.kind hk hc z (fun h' T f=>?_);obtain⟨Y,Z,jU⟩:=id z;refine h {s with heap:=h'} ⟨I.ok,I.os,I.bare,⟨fun b o e n hb hx=>?_,fun b o e n hb hx=>?_,I.base.free,fun b o e hx=>?_,I.base.tups,I.base.frzs,I.base.tbls⟩,⟨m,G.sameBut f (Ne.symm (cne x c hc)),fun j y F e1 e2 e3=>?_⟩,fun y D e=>?_,I.free,I.freeC,fun p hp=>?_,cV ⟨Y,Z,I.freeC x c hc⟩ f,by simpa using I.len⟩ ⟨c,f,.inr hc⟩
  ·exact(f.2 b (AB (AC (At e) (I.ok.cab x c S hc)))).trans (I.base.keep b o e n hb hx)
  ·obtain⟨J,e1⟩:=I.base.slot b o e n hb hx
   exact⟨J,(f.2 b (AB (AC (At e) (I.ok.cab x c S hc)))).trans e1⟩
  ·obtain⟨o',e1⟩:=I.base.there b o e hx
   exact⟨o',(f.2 b (AB (AC (At e) (I.ok.cab x c S hc)))).trans e1⟩
  ·by_cases l:j=i
   ·subst l
    rw[hi] at e1;cases e1;rw[List.getElem?_set_self g] at e2;cases e2;exact⟨u,r,.inr ⟨.inl hk,c,hc,T⟩⟩
   ·rw[List.getElem?_set_ne (Ne.symm l)] at e2
    obtain⟨L,O,q⟩:=U j y F e1 e2 e3;refine⟨L,O,?_⟩;rcases q with q|⟨k,D,e,z'⟩
    ·exact .inl q
    ·refine .inr ⟨k,D,e,z'.sameBut f ?_⟩
     rintro rfl;exact l (F_ hN e1 (I.ok.inj _ _ _ e hc▸hi))
  ·by_cases eZ:D=c
   ·subst eZ;exact⟨_,T⟩
   ·obtain⟨w2,z2⟩:=I.cell y D e
    exact⟨w2,z2.sameBut f eZ⟩
  ·obtain⟨e,n,ne,P,d⟩:=I.pin p hp
   refine⟨(f.2 p.1 ?_).trans e,n,ne,P,d⟩;intro q;rw[q,Z] at e;have q':Y=p.2:=AM e;exact d C (by rw[<-q'];exact jU)
def Gd{M:Model}{A:Around}{E:Ω}{i:Nat}{x:Str}{v:V}{u:Value}{Q:Unit->Shared->Prop}(I:Inv X aa σ H s)(a:X.N.Nodup)(hi:X.N[i]?=some x)(hx:Loc X.env.scope x)(r:RelV v u)(h:∀s',Inv X aa (σ.set i (some v)) H s'->Q () s')(b:X.fn x=true\/X.env.scope.names.lookup x=some .local:=by first|exact .inl rfl|exact .inr rfl|assumption):wpAny M A (storeName X.env x u) Q E s:=
 F' I a hi hx r (fun s' c _=>h s' c) b
def Inv.call'{s':Shared}{ch:List Addr}(I:Inv X aa σ H s)(d:s'.os=s.os)(u:Un (frs X.stack) ch H H' s.heap s'.heap)(a:HOk X.prog X.w H' s'.heap)(hg:AllBare s'.gens)(f:∀b∈ch,(b∈X.ex\/X.s₀⁻¹<=b)/\b≠X.env.locals/\(∀x c,X.env.cells.lookup x=some c->c≠b)/\∀p∈X.pn++aa,p.1≠b):Inv X aa σ H' s':=by
 obtain⟨h',g',d',t',o'⟩:=s';have e:o'=s.os:=d;subst e;exact I.call (g':=g') (t':=t') (d':=d') u a hg f
end
abbrev XK:=Value->Option Addr->Hp->Prop
abbrev St:=List (Option V)
abbrev VK:=V->Hp->Prop
abbrev TE:=St->Hp->VK->Prop
abbrev TT:=St->Hp->(Bool->Hp->Prop)->Prop
abbrev TA:=St->Hp->(List V->Hp->Prop)->Prop
structure Ends where
 nx:St->Hp->Prop
 rt:VK
 bk:St->Hp->Prop:=fun _ _=>False
 ct:St->Hp->Prop:=fun _ _=>False
abbrev TS:=Ends->St->Hp->Prop
def EP(X:Cx)(aa:Ψ)(σ:St)(Q:VK)(u:Value)(s':Shared):Prop:=∃v H',Inv X aa σ H' s'/\RelV v u/\Q v H'
def TP(X:Cx)(aa:Ψ)(σ:St)(Q:Bool->Hp->Prop)(b:Bool)(s':Shared):Prop:=∃H',Inv X aa σ H' s'/\Q b H'
def AP(X:Cx)(aa:Ψ)(σ:St)(Q:List V->Hp->Prop)(us:List Value)(s':Shared):Prop:=∃vs H',Inv X aa σ H' s'/\Vals vs us/\Q vs H'
def SP(X:Cx)(aa:Ψ)(D:Ends)(f:Flow)(s':Shared):Prop:=
 match f with
 |.next=>∃a H',Inv X aa a H' s'/\D.nx a H'
 |.brk=>∃a H',Inv X aa a H' s'/\D.bk a H'
 |.cont=>∃a H',Inv X aa a H' s'/\D.ct a H'
 |.ret u=>∃v a H',Inv X aa a H' s'/\RelV v u/\D.rt v H'
def PE(X:Cx)(e:Expr)(t:TE):Prop:=
 ∀(aa:Ψ)(s:Shared)(σ:St)(H:Hp)(Q:VK),Inv X aa σ H s->t σ H Q->wpAny (model X.prog X.w) X.A (eval e X.env) (EP X aa σ Q) X.xe s
def PT(X:Cx)(e:Expr)(t:TT):Prop:=
 ∀(aa:Ψ)(s:Shared)(σ:St)(H:Hp)(Q:Bool->Hp->Prop),Inv X aa σ H s->t σ H Q->wpAny (model X.prog X.w) X.A (isTrue e X.env (eval e X.env)) (TP X aa σ Q) X.xe s
def PW(X:Cx)(e:Expr)(t:TT):Prop:=
 ∀(a:Sem Value)(aa:Ψ)(s:Shared)(σ:St)(H:Hp)(Q:Bool->Hp->Prop),Inv X aa σ H s->t σ H Q->wpAny (model X.prog X.w) X.A (isTrue e X.env a) (TP X aa σ Q) X.xe s
noncomputable def PW.pt{X:Cx}{e:Expr}{t:TT}(h:PW X e t):PT X e t:=h _
def PA(X:Cx)(es:List Expr)(t:TA):Prop:=
 ∀(pos:Pos)(aa:Ψ)(s:Shared)(σ:St)(H:Hp)(Q:List V->Hp->Prop),Inv X aa σ H s->t σ H Q->wpAny (model X.prog X.w) X.A (spliced (backTo pos (starEach es X.env))) (AP X aa σ Q) X.xe s
def PS(X:Cx)(st:Stmt)(t:TS):Prop:=
 ∀(aa:Ψ)(s:Shared)(σ:St)(H:Hp)(D:Ends),Inv X aa σ H s->t D σ H->wpAny (model X.prog X.w) X.A (exec st X.env) (SP X aa D) X.xe s
def PSs(X:Cx)(st:List Stmt)(t:TS):Prop:=
 ∀(aa:Ψ)(s:Shared)(σ:St)(H:Hp)(D:Ends),Inv X aa σ H s->t D σ H->wpAny (model X.prog X.w) X.A (execs st X.env) (SP X aa D) X.xe s
def aY{b:Type}{t:Sem b}{Q c:b->Shared->Prop}{M:Model}{A:Around}{E:Ω}{s:Shared}(h:wpAny M A t Q E s)(d:∀a s,Q a s->c a s):wpAny M A t c E s:=wpAny_mono h d fun _ _ x=>x
section
variable{X:Cx}
def au(i:Nat):TE:=fun σ H Q=>∃v,σ[i]?=some (some v)/\Q v H
def tC(v:V):TE:=fun _ H Q=>Q v H
def Kq{i:Nat}{x:Str}{pos:Pos}(g:X.N[i]?=some x)(j:y' X.env.scope x)(hd:(x==("__debug__":Str))=false:=by decide)(o:(x==("__classdict__":Str))=false:=by decide):PE X (.Name x pos) (au i):=by
 intro aa s σ H Q I h;obtain⟨v,e,h⟩:=h;obtain⟨m,b,d⟩:=I.loc;obtain⟨u,r,l⟩:=d i x v g e j;have fin:EP X aa σ Q u s:=⟨v,H,I,r,h⟩;rcases l with ⟨hk,f⟩|⟨hk,c,hc,a⟩
 ·exact wpAny_Name (wpAny_loadName_local I.ok.kind hk b f fin) hd
 ·rcases hk with hk|hk
  ·exact wpAny_Name (wpAny_loadName_cell I.ok.kind hk hc a fin) hd
  ·exact wpAny_Name (wpAny_loadName_free I.ok.kind hk hc a fin o) hd
def ze{i j pos}:PE X (.Constant (.int i) j pos) (tC (.int i)):=fun _ _ _ H _ I h=>wpAny_Constant_int ⟨.int i,H,I.tok _,⟨_,rfl⟩,h⟩
def dk{b j pos}:PE X (.Constant (.bool b) j pos) (tC (.bl b)):=fun _ _ _ H _ I h=>Constant_bool ⟨.bl b,H,I,rfl,h⟩
def Gl(X:Cx)(x:Str):Prop:=X.env.kindOf x=some .globalImplicit
def Gg{E:Ω}{aa:Ψ}{s:Shared}{σ:St}{H:Hp}{x:Str}{u:Value}{pos:Pos}{Q:Ω}(I:Inv X aa σ H s)(hg:Gl X x)(a:X.mg x=some u)(h:Q u s)(hd:(x==("__debug__":Str))=false:=by decide):wpAny (model X.prog X.w) X.A (eval (.Name x pos) X.env) Q E s:=
 Calls.Name_function_global I.ok.kind hg (Calls.loadGlobal_global (by rw[I.ok.glob];exact I.mod.glob.keeps I.bk) a h) hd
def iS{E:Ω}{aa:Ψ}{s:Shared}{σ:St}{H:Hp}{x:Str}{u:Value}{pos:Pos}{Q:Ω}(I:Inv X aa σ H s)(hg:Gl X x)(a:X.mg x=none)(b:A5 x=some u)(h:Q u s)(c:x≠"__name__":=by decide)(hd:(x==("__debug__":Str))=false:=by decide):wpAny (model X.prog X.w) X.A (eval (.Name x pos) X.env) Q E s:=by
 obtain⟨d,h1,h2⟩:=I.mod.blt;exact Calls.Name_function_global I.ok.kind hg (Calls.loadGlobal_builtin (by rw[I.ok.glob];exact I.mod.glob.keeps I.bk) a (by rw[I.ok.blt];exact h1.keeps I.bk) ((h2 x c).trans b) h) hd
def Gh{x:Str}{v:V}{u:Value}{pos:Pos}(hg:Gl X x)(a:X.mg x=some u)(r:RelV v u)(hd:(x==("__debug__":Str))=false:=by decide):PE X (.Name x pos) (tC v):=
 fun _ _ _ H _ I h=>Gg I hg a ⟨v,H,I,r,h⟩ hd
def p6{x:Str}{v:V}{u:Value}{pos:Pos}(hg:Gl X x)(a:X.mg x=none)(b:A5 x=some u)(r:RelV v u)(c:x≠"__name__":=by decide)(hd:(x==("__debug__":Str))=false:=by decide):PE X (.Name x pos) (tC v):=
 fun _ _ _ H _ I h=>iS I hg a b ⟨v,H,I,r,h⟩ c hd
variable{a b:Expr}{ta tb:TE}{pos:Pos}
def PC(X:Cx)(e:CmpOp)(a b:Expr)(t:TE):Prop:=
 ∀(aa:Ψ)(s:Shared)(σ:St)(H:Hp)(Q:VK),Inv X aa σ H s->t σ H Q->
  wpAny (model X.prog X.w) X.A (eval a X.env) (fun v c=>wpAny (model X.prog X.w) X.A (eval b X.env) (fun u d=>wpAny (model X.prog X.w) X.A (compareOp e v u) (EP X aa σ Q) X.xe d) X.xe c) X.xe s
def gC(b:Expr){a:CmpOp}(h:a≠.In)(h2:a≠.NotIn):behindInMarks a b=false:=by
 have e1:(a==CmpOp.In)=false:=by cases a<;>first|rfl|exact absurd rfl h
 have e2:(a==CmpOp.NotIn)=false:=by cases a<;>first|rfl|exact absurd rfl h2
 cases b<;>simp[behindInMarks,e1,e2]
def tB(t:TE):TT:=fun σ H Q=>t σ H fun x H1=>∃c,x=.bl c/\Q c H1
def Kr{e:CmpOp}{t:TE}(h:PC X e a b t)(h1:behindInMarks e b=false:=by first|exact gC _ ξ ξ|rfl):PT X (.Compare a [e] [b] pos) (tB t):=by
 intro aa s σ H Q I hw;refine wpAny_isTrue_Compare1 (aY (h aa s σ H _ I hw) fun v j h1=>aY h1 fun u l h2=>aY h2 fun c o ⟨x,H1,i,f,g⟩=>?_) h1;obtain⟨d,rfl,q⟩:=g;cases f;exact wpAny_truthy_bool ⟨H1,i,q⟩
def dR{e:Expr}{t:TE}(h:PE X e t)(f:∀a,isTrue e X.env a=(do let v <-a;standAt e.pos;holding [v] (truthy v)):=by intro _;rfl):PT X e (tB t):=by
 intro aa s σ H Q I hw;refine isTrue_plain (aY (h aa s σ H _ I hw) fun v i ⟨x,H1,g,b,c⟩=>?_) (f _);obtain⟨d,rfl,q⟩:=c;cases b;exact wpAny_truthy_bool ⟨H1,g,q⟩
variable{tA ju:TT}{rest:List Expr}
def p'(t u:TT):TT:=fun σ H Q=>t σ H fun c H1=>if c=true then u σ H1 Q else Q false H1
def Ks(t u:TT):TT:=fun σ H Q=>t σ H fun c H1=>if c=true then Q true H1 else u σ H1 Q
def Dy(t:TT):TT:=fun σ H Q=>t σ H fun c H1=>Q (!c) H1
def zT(b:PT X a tA):PW X (.BoolOp .And [a] pos) tA:=by
 intro d aa s σ H Q I h;refine isTrue_and (aY (b aa s σ H Q I h) fun c f e=>?_);cases c with
 |true=>exact isTrue_and_nil e
 |false=>exact e
def hZ(b:PT X a tA):PW X (.BoolOp .Or [a] pos) tA:=by
 intro d aa s σ H Q I h;refine isTrue_or (aY (b aa s σ H Q I h) fun c f e=>?_);cases c with
 |false=>exact isTrue_or_nil e
 |true=>exact e
def A'(i:PT X a tA)(hb:PW X (.BoolOp .And (b::rest) pos) ju):PW X (.BoolOp .And (a::b::rest) pos) (p' tA ju):=by
 intro f aa s σ H Q I h;refine isTrue_and (aY (i aa s σ H _ I h) fun c g ⟨H1,e,d⟩=>?_);cases c with
 |true=>exact hb f aa g σ H1 Q e d
 |false=>exact⟨H1,e,d⟩
def gs(i:PT X a tA)(hb:PW X (.BoolOp .Or (b::rest) pos) ju):PW X (.BoolOp .Or (a::b::rest) pos) (Ks tA ju):=by
 intro f aa s σ H Q I h;refine isTrue_or (aY (i aa s σ H _ I h) fun c g ⟨H1,e,d⟩=>?_);cases c with
 |true=>exact⟨H1,e,d⟩
 |false=>exact hb f aa g σ H1 Q e d
def dS(b:PT X a tA):PT X (.UnaryOp .Not a pos) (Dy tA):=by
 intro aa s σ H Q I h;exact isTrue_not (b aa s σ H (fun c H1=>Q (!c) H1) I h)
def Kt(ta tb:TE):TE:=fun σ H Q=>ta σ H fun x H1=>∃c,x=.bl c/\if c=true then tb σ H1 Q else Q (.bl false) H1
def Ku(ta:TE):TE:=fun σ H Q=>ta σ H fun x H1=>∃c,x=.bl c/\Q (.bl (!c)) H1
def kc{op}{t:TE}(h:PE X a t):PE X (.BoolOp op [a] pos) t:=fun aa s σ H Q I hw=>BoolOp_one (h aa s σ H Q I hw)
def kd(i:PE X a ta)(hb:PE X (.BoolOp .And (b::rest) pos) tb):PE X (.BoolOp .And (a::b::rest) pos) (Kt ta tb):=by
 intro aa s σ H Q I h;refine BoolOp_and (aY (i aa s σ H _ I h) fun v f ⟨x,H1,e,g,d⟩=>?_);obtain⟨c,rfl,d⟩:=d;cases g;refine wpAny_truthy_bool ?_;cases c with
 |true=>exact hb aa f σ H1 Q e d
 |false=>exact⟨.bl false,H1,e,rfl,d⟩
def Kv(e:PE X a ta):PE X (.UnaryOp .Not a pos) (Ku ta):=by
 intro aa s σ H Q I h;refine UnaryOp_ (aY (e aa s σ H _ I h) fun v g ⟨x,H1,f,d,b⟩=>?_);obtain⟨c,rfl,b⟩:=b;cases d;exact not_of (wpAny_truthy_bool ⟨.bl (!c),H1,f,rfl,b⟩)
def Kw(t:TT)(ta tb:TE):TE:=fun σ H Q=>t σ H fun c H1=>if c=true then ta σ H1 Q else tb σ H1 Q
def qb{c:Expr}(hc:PT X c tA)(i:PE X a ta)(hb:PE X b tb):PE X (.IfExp c a b pos) (Kw tA ta tb):=by
 intro aa s σ H Q I h;refine wpAny_IfExp (aY (hc aa s σ H _ I h) fun d e ⟨H1,g,f⟩=>?_);cases d with
 |true=>exact i aa e σ H1 Q g f
 |false=>exact hb aa e σ H1 Q g f
end
def SqL(K:Af)(H:Hp)(a:Addr)(xs:List V):Prop:=
 Rd H a (.lst xs) \/
  ∃(o:Obj)(ad:Array Value)(n:Nat),K.lookup a=some o/\o.cls=.type "list"/\o.dict=none/\o.data=.seq ad n/\ad.size<=sizeLine/\Vals xs ad.toList
def SqT(K:Af)(H:Hp)(a:Addr)(xs:List V):Prop:=
 Rd H a (.tup xs) \/
  ∃(o:Obj)(ad:Array Value)(n:Nat),K.lookup a=some o/\o.cls=.type "tuple"/\o.data=.seq ad n/\ad.size<=sizeLine/\Vals xs ad.toList
noncomputable def Dz:Value->Option V
 |.none=>some .non
 |.bool b=>some (.bl b)
 |.int i _=>some (.int i)
 |.str x _=>some (.str x)
 |.bytes b _=>some (.byt b)
 |.float b _=>some (.flt b)
 |.ref a=>some (.ref a)
 |.type n=>some (.ty n)
 |_=>none
def RelV.abs{x:V}{u:Value}(r:RelV x u):Dz u=some x:=by
 cases x with
 |non=>cases r;rfl
 |bl _=>cases r;rfl
 |int _=>obtain⟨t,rfl⟩:=r;rfl
 |str _=>obtain⟨t,rfl⟩:=r;rfl
 |byt _=>obtain⟨t,rfl⟩:=r;rfl
 |flt _=>obtain⟨t,rfl⟩:=r;rfl
 |ref _=>cases r;rfl
 |ty _=>cases r;rfl
def RelV.inj{x y:V}{u:Value}(r:RelV x u)(q:RelV y u):x=y:=AM (r.abs.symm.trans q.abs)
def Vals.inj{xs ys:List V}{us:List Value}(h:Vals xs us)(g:Vals ys us):xs=ys:=by
 induction h generalizing ys with
 |nil=>cases g;rfl
 |cons r t ih=>cases g with|cons r' t'=>rw[r.inj r',ih t']
section
variable{X:Cx}{aa:Ψ}{σ:St}{H:Hp}{s:Shared}{a:Addr}{xs ys:List V}
def SqL.of{K:Af}(h:H a=some (.lst xs)):SqL K H a xs:=.inl (.inl h)
def SqT.of{K:Af}(h:H a=some (.tup xs)):SqT K H a xs:=.inl (.inl h)
def Inv.list(I:Inv X aa σ H s)(h:SqL X.K H a xs):∃ad:List Value,Vals xs ad/\PlainL s.heap a ad.toArray/\xs.length<=sizeLine:=by
 rcases h with h|⟨o,ad,n,hk,hc,hd,b,hz,r⟩
 ·obtain⟨z,ad,n,r,e⟩:=h.ok I.hok
  exact⟨ad,r,⟨_,n,e,rfl,rfl,rfl⟩,z⟩
 ·refine⟨ad.toList,r,⟨o,n,I.kIn a o hk,hc,hd,by simpa using b⟩,?_⟩
  have e:=r.length;simp only[Array.length_toList] at e;(first|lia|omega)
def Inv.tuple(I:Inv X aa σ H s)(h:SqT X.K H a xs):∃ad:List Value,Vals xs ad/\IsTup s.heap a ad.toArray/\xs.length<=sizeLine:=by
 rcases h with h|⟨o,ad,n,hk,hc,b,hz,r⟩
 ·obtain⟨z,ad,r,p⟩:=h.ok I.hok
  exact⟨ad,r,p,z⟩
 ·refine⟨ad.toList,r,⟨o,I.kIn a o hk,hc,n,by simpa using b⟩,?_⟩
  have e:=r.length;simp only[Array.length_toList] at e;(first|lia|omega)
def Inv.list_inj(I:Inv X aa σ H s)(h:SqL X.K H a xs)(h':SqL X.K H a ys):xs=ys:=by
 obtain⟨ad,r,⟨o,n,e,_,_,d⟩,_⟩:=I.list h;obtain⟨its',b,⟨o',c,e',_,_,d'⟩,_⟩:=I.list h';rw[e] at e';cases e';rw[d] at d';injection d' with d1 _
 have:ad=its':=by simpa using congrArg Array.toList d1
 subst this;exact r.inj b
def Inv.tuple_inj(I:Inv X aa σ H s)(h:SqT X.K H a xs)(h':SqT X.K H a ys):xs=ys:=by
 obtain⟨ad,r,⟨o,e,_,n,d⟩,_⟩:=I.tuple h;obtain⟨its',b,⟨o',e',_,c,d'⟩,_⟩:=I.tuple h';rw[e] at e';cases e';rw[d] at d';injection d' with d1 _
 have:ad=its':=by simpa using congrArg Array.toList d1
 subst this;exact r.inj b
end
noncomputable abbrev Cx.wish(X:Cx)(E:Ω):Cx:={X with xe:=E}
noncomputable abbrev Cx.nox(X:Cx):Cx:=X.wish fun _ _=>False
noncomputable def Cx.Ok.wish{X:Cx}(ok:X.Ok)(E:Ω):(X.wish E).Ok:=
 ⟨ok.mod,ok.kind,ok.glob,ok.blt,ok.above,ok.inj,ok.has,ok.cab,ok.hd,ok.frames,ok.stk,ok.exf,ok.bs,ok.bsz,ok.noex,ok.exfs,ok.funs,ok.frf⟩
def Cx.Ok.unwish{X:Cx}{E:Ω}(ok:(X.wish E).Ok):X.Ok:=
 ⟨ok.mod,ok.kind,ok.glob,ok.blt,ok.above,ok.inj,ok.has,ok.cab,ok.hd,ok.frames,ok.stk,ok.exf,ok.bs,ok.bsz,ok.noex,ok.exfs,ok.funs,ok.frf⟩
section
variable{X:Cx}{aa:Ψ}{σ:St}{H:Hp}{s:Shared}{E:Ω}
noncomputable def Inv.wish(I:Inv X aa σ H s)(E:Ω):Inv (X.wish E) aa σ H s:=⟨I.ok.wish E,I.os,I.bare,I.base,I.loc,I.cell,I.free,I.freeC,I.pin,I.hok,I.len⟩
def Inv.unwish(I:Inv (X.wish E) aa σ H s):Inv X aa σ H s:=⟨I.ok.unwish,I.os,I.bare,I.base,I.loc,I.cell,I.free,I.freeC,I.pin,I.hok,I.len⟩
def SP.unwish{D:Ends}{f:Flow}{s':Shared}(h:SP (X.wish E) aa D f s'):SP X aa D f s':=by
 cases f with
 |next=>obtain⟨a,H',I,q⟩:=h;exact⟨a,H',I.unwish,q⟩
 |brk=>obtain⟨a,H',I,q⟩:=h;exact⟨a,H',I.unwish,q⟩
 |cont=>obtain⟨a,H',I,q⟩:=h;exact⟨a,H',I.unwish,q⟩
 |ret u=>obtain⟨v,a,H',I,r,q⟩:=h;exact⟨v,a,H',I.unwish,r,q⟩
noncomputable def PSs.nox{st:List Stmt}{t:TS}(h:PSs X.nox st t):PSs X st t:=fun aa s σ H D I hw=>
 wpAny_mono (h aa s σ H D (I.wish _) hw) (fun _ _ q=>q.unwish) fun _ _ z=>False.elim z
end
section
variable{X:Cx}{st:Stmt}{rest:List Stmt}{t u:TS}{e:Expr}{te:TE}{pos:Pos}
def Kx:TS:=fun D σ H=>D.nx σ H
def qc(t u:TS):TS:=fun D σ H=>t {D with nx:=u D} σ H
def zF:PSs X [] Kx:=fun _ _ σ H _ I h=>wpAny_execs_nil ⟨σ,H,I,h⟩
def zd(h1:PS X st t)(h2:PSs X rest u):PSs X (st::rest) (qc t u):=by
 intro aa s σ H D I h;refine wpAny_execs_cons (aY (h1 aa s σ H {D with nx:=u D} I h) fun f a q=>?_);cases f with
 |next=>
  obtain⟨b,H',c,q⟩:=q;exact h2 aa a b H' D c q
 |ret v=>exact q
 |brk=>exact q
 |cont=>exact q
def zh(h1:PS X st t):PSs X [st] t:=by
 intro aa s σ H D I h;refine wpAny_execs_cons (aY (h1 aa s σ H D I h) fun f a q=>?_);cases f with
 |next=>exact wpAny_execs_nil q
 |ret v=>exact q
 |brk=>exact q
 |cont=>exact q
def Inv.quiet{aa:Ψ}{σ:St}{H:Hp}{s:Shared}(I:Inv X aa σ H s):interactive X.env=false:=by simp[interactive,I.ok.kind]
def Ky(te:TE):TS:=fun D σ H=>te σ H fun _ H1=>D.nx σ H1
def ie(b:PE X e te)(c:swapsWith e none pos.line X.env=pure false:=by rfl):PS X (.Expr e pos) (Ky te):=by
 intro aa s σ H D I h;exact wpAny_Expr_any (aY (b aa s σ H _ I h) fun v f ⟨x,H1,d,g,a⟩=>⟨σ,H1,d,a⟩) I.quiet c
def DA(te:TE):TS:=fun D σ H=>te σ H D.rt
def zo(c:PE X e te):PS X (.Return (some e) pos) (DA te):=by
 intro aa s σ H D I h;exact wpAny_Return_some (aY (c aa s σ H _ I h) fun v f ⟨x,H1,d,a,b⟩=>⟨x,σ,H1,d,a,b⟩)
def DB(c:TT)(t u:TS):TS:=fun D σ H=>c σ H fun b H1=>if b=true then t D σ H1 else u D σ H1
def b8{c:Expr}{a b:List Stmt}{tc:TT}(hc:PT X c tc)(i:PSs X a t)(hb:PSs X b u):PS X (.If c a b pos) (DB tc t u):=by
 intro aa s σ H D I h;refine wpAny_If (aY (hc aa s σ H _ I h) fun d e ⟨H1,g,f⟩=>?_);cases d with
 |true=>exact i aa e σ H1 D g f
 |false=>exact hb aa e σ H1 D g f
def Kz:TS:=fun _ _ _=>False
def KB{a:List Stmt}:PSs X a Kz:=fun _ _ _ _ _ _ h=>h.elim
end
abbrev TG:=V->St->Hp->(St->Hp->Prop)->Prop
abbrev kf:=List V->St->Hp->(St->Hp->Prop)->Prop
def PG(X:Cx)(b:Expr)(t:TG):Prop:=
 ∀(aa:Ψ)(s:Shared)(σ:St)(H:Hp)(v:V)(u:Value)(Q:St->Hp->Prop),Inv X aa σ H s->RelV v u->t v σ H Q->
  wpAny (model X.prog X.w) X.A (assign b X.env u) (fun _ s'=>∃a H',Inv X aa a H' s'/\Q a H') X.xe s
def Bx(X:Cx)(b:List Expr)(t:kf):Prop:=
 ∀(aa:Ψ)(s:Shared)(σ:St)(H:Hp)(vs:List V)(us:List Value)(Q:St->Hp->Prop),Inv X aa σ H s->Vals vs us->t vs σ H Q->
  wpAny (model X.prog X.w) X.A (assignInOrder ((assignEach b X.env).map (·.2)) us) (fun _ s'=>∃a H',Inv X aa a H' s'/\Q a H') X.xe s
abbrev ki:=V->V->V->Hp->(Hp->Prop)->Prop
def qe(X:Cx)(t:ki):Prop:=
 ∀(aa:Ψ)(s:Shared)(σ:St)(H:Hp)(o i v:V)(a b u:Value)(Q:Hp->Prop),Inv X aa σ H s->RelV o a->RelV i b->RelV v u->t o i v H Q->
  wpAny (model X.prog X.w) X.A (setItem a b u) (fun _ s'=>∃H',Inv X aa σ H' s'/\Q H') X.xe s
section
variable{X:Cx}{pos:Pos}
def zL(i:Nat):TG:=fun v σ H Q=>Q (σ.set i (some v)) H
def zl{i:Nat}{x:Str}(a:X.N.Nodup)(hi:X.N[i]?=some x)(hx:Loc X.env.scope x)(b:X.fn x=true\/X.env.scope.names.lookup x=some .local:=by first|exact .inl rfl|exact .inr rfl|assumption):PG X (.Name x pos) (zL i):=by
 intro aa s σ H v u Q I r h;exact wpAny_assign_Name (Gd I a hi hx r (fun s' c=>⟨_,H,c,h⟩) b)
def ca:kf:=fun vs σ H Q=>vs=[]/\Q σ H
def cq(t:TG)(u:kf):kf:=fun vs σ H Q=>∃v r,vs=v::r/\t v σ H fun a H'=>u r a H' Q
def ii:Bx X [] ca:=by
 intro aa s σ H vs us Q I r h;obtain⟨e,h⟩:=h;subst e;cases r;exact assignInOrder_nil ⟨σ,H,I,h⟩
def zE{e:Expr}{es:List Expr}{t:TG}{u:kf}(h1:PG X e t)(h2:Bx X es u)(d:(assignEach (e::es) X.env).map (·.2)=assign e X.env::(assignEach es X.env).map (·.2):=by rfl):Bx X (e::es) (cq t u):=by
 intro aa s σ H vs us Q I r h;obtain⟨v,g,e1,h⟩:=h;subst e1;cases r with
 |cons r rr=>
  rw[d];refine assignInOrder_cons (aY (h1 aa s σ H _ _ _ I r h) fun _ a ⟨b,H1,f,c⟩=>?_);exact h2 aa a b H1 _ _ Q f rr c
def cb(K:Af)(n:Nat)(t:kf):TG:=fun v σ H Q=>∃a xs,v=.ref a/\SqT K H a xs/\xs.length=n/\t xs σ H Q
def ij{es:List Expr}{k:Nat}{t:kf}{n:Nat}(hc:X.calm=true)(h:Bx X es t)(g:(assignEach es X.env).length=n:=by rfl)(i:(assignEach es X.env).findIdx? (·.1)=none:=by rfl):PG X (.Tuple es k pos) (cb X.K n t):=by
 intro aa s σ H v u Q I r hw;obtain⟨a,xs,e1,hq,d,hw⟩:=hw;subst e1;cases r;obtain⟨ad,c,f,hz⟩:=I.tuple hq;refine assign_Tuple_tuple (I.ok.hd hc) f (by simp[g,<-d,c.length]) i fun h' hx=>?_;have j:Inv X aa σ H {s with heap:=h'}:=I.kept (t':=s.toks) fun b o e=>hx b o (AB (At e)) e;exact h aa _ σ H xs _ Q j (by simpa using c) hw
def DC(to a:TE)(t:ki):TG:=fun v σ H Q=>to σ H fun o H1=>a σ H1 fun i H2=>t o i v H2 fun b=>Q σ b
def il{o i:Expr}{to c:TE}{t:ki}(q:PE X o to)(hi:PE X i c)(w:qe X t)(z:∀v,assign (.Subscript o i pos) X.env v=(do
   let a <-holding [v] (eval o X.env)
   let b <-holding [v,a] (eval i X.env)
   standAt pos
   holding [v,a,b] (setItem a b v)
   release [v,a,b] []):=by intro _;rfl):PG X (.Subscript o i pos) (DC to c t):=by
 intro aa s σ H v u Q I r h;rw[z];refine Ae (wpAny_holding (aY (q aa s σ H _ I h) fun a d ⟨x,H1,A,e,f⟩=>?_));refine Ae (wpAny_holding (aY (hi aa d σ H1 _ A f) fun b g ⟨y,H2,C,j,l⟩=>?_));refine Ae (wpAny_standAt (Ae (wpAny_holding (aY (w aa g σ H2 x y v a b u _ C e j r l) fun _ F ⟨D,E,p⟩=>?_))));exact wpAny_release ⟨σ,D,E,p⟩
def gH(te:TE)(g:TG):TS:=fun D σ H=>te σ H fun x H1=>g x σ H1 D.nx
def gM{tg e:Expr}{te:TE}{g:TG}(d:PE X e te)(hg:PG X tg g)(f:swapsWithSole [tg] e pos.line X.env=pure false:=by rfl)(hw:swappedStores [tg] e X.env=pure none:=by rfl)(h1:(assignEach [tg] X.env).map (·.2)=[assign tg X.env]:=by rfl):PS X (.Assign [tg] e pos) (gH te g):=by
 intro aa s σ H D I h;refine wpAny_Assign_stores (aY (d aa s σ H _ I h) fun v a ⟨x,H1,i,b,c⟩=>?_) f hw;rw[h1];exact aY (hg aa a σ H1 x v _ i b c) fun _ j q=>q
def zr{i:Nat}{x:Str}{e:Expr}{te:TE}{aE:Pos}(c:X.N.Nodup)(hi:X.N[i]?=some x)(hx:Loc X.env.scope x)(d:PE X e te)(f:swapsWith e (some (.Name x aE)) pos.line X.env=pure false:=by rfl)(g:X.fn x=true\/X.env.scope.names.lookup x=some .local:=by first|exact .inl rfl|exact .inr rfl|assumption):PS X (.Assign [.Name x aE] e pos) (gH te (zL i)):=by
 intro aa s σ H D I h;refine wpAny_Assign_Name (aY (d aa s σ H _ I h) fun v o ⟨y,H1,j,a,b⟩=>?_) f;exact Gd j c hi hx a (fun p l=>⟨_,H1,l,b⟩) g
def KC(c:TT)(tb:TS):TS:=fun D σ H=>∃W:Nat->St->Hp->Prop,(∃m,W m σ H)/\∀m σ H,W m σ H->
 c σ H fun b H1=>if b=true then ∃N:St->Hp->Prop,(∀a H',N a H'->∃d,d<m/\W d a H')/\tb {D with nx:=N,ct:=N,bk:=D.nx} σ H1 else D.nx σ H1
def BF{c:Expr}{x:List Stmt}{tc:TT}{tb:TS}(hp:PassesOwn (model X.prog X.w) X.A X.env X.xe)(hc:PT X c tc)(hb:PSs X x tb):PS X (.While c x [] pos) (KC tc tb):=by
 intro aa s σ H D I h;obtain⟨W,⟨C,E⟩,turn⟩:=h;refine wpAny_While (codeAny_whileLoop (fun n s'=>∃r H',Inv X aa r H' s'/\W n r H') ?_ C ⟨σ,H,I,E⟩);rintro n F ⟨i,H1,J,G⟩;refine wpAny_passesOwn hp (aY (hc aa F i H1 _ J (turn n i H1 G)) fun b z ⟨H2,y,e⟩=>?_);cases b with
 |true=>
  obtain⟨N,u,e⟩:=e;rw[if_pos rfl];refine wpAny_passesOwn hp (aY (hb aa z i H2 _ y e) fun f L g=>?_);cases f with
  |next=>
   obtain⟨a,d,q,j⟩:=g;obtain⟨l,o,p⟩:=u a d j;exact⟨l,o,a,d,q,p⟩
  |cont=>
   obtain⟨a,d,q,j⟩:=g;obtain⟨l,o,p⟩:=u a d j;exact⟨l,o,a,d,q,p⟩
  |brk=>exact g
  |ret v=>exact g
 |false=>
  rw[if_neg AG];exact wpAny_execs_nil ⟨i,H2,y,e⟩
end
structure It where
 go:Nat->Hp->Prop
 yld:Nat->Hp->V->Hp->Prop
 stop:Nat->Hp->Prop
def ce(X:Cx)(aa:Ψ)(H:Hp)(b:Addr):Prop:=
 H b=none/\b≠X.env.locals/\b∉X.fs/\(b∈X.ex\/X.s₀⁻¹<=b)/\(∀x c,X.env.cells.lookup x=some c->c≠b)/\∀p∈X.pn++aa,p.1≠b
def Inv.fpOk{X:Cx}{aa:Ψ}{σ:St}{H H':Hp}{s:Shared}{b:Addr}(I:Inv X aa σ H s)(hb:s⁻¹<=b)(a:H' b=none):ce X aa H' b:=by
 refine⟨a,Nat.ne_of_gt (AC I.lt hb),I.nofs hb,.inr (Ag I.sz hb),fun x c e z=>?_,fun p hp z=>?_⟩
 ·obtain⟨v,q⟩:=I.cell x c e
  exact absurd (AC q.lt (by rw[z];exact hb)) (Nat.lt_irrefl _)
 ·exact absurd (AC (At (I.pin p hp).1) (by rw[z];exact hb)) (Nat.lt_irrefl _)
structure Turn(P:Program)(w:World)(K:Af)(tg:Expr)(J:It)(fp:List Addr)(it:Addr)(tn:Nat->Heap->Prop):Prop where
 mem:it∈fp
 obj:∀i h,tn i h->∀b∈fp,∃o,h.get? b=some o/\∀v,o.data≠.cell v
 keep:∀i h h',tn i h->(∀b∈fp,∀o,h.get? b=some o->h'.get? b=some o)->tn i h'
 item:∀(X:Cx),X.prog=P->X.w=w->X.K=K->X.calm=true->∀(i:Nat)(aa:Ψ)(s:Shared)(σ:St)(H:Hp)(E:Ω),Inv X aa σ H s->(∀b∈fp,ce X aa H b)->tn i s.heap->J.go i H->
  wpAny (model P w) X.A (pyNext (.ref it)) (fun r s1=>∃u,r=some u/\
   wpAny (model P w) X.A (letOwnedTupleGo tg (.ref it) u) (fun _ s2=>∃x H',Inv X aa σ H' s2/\RelV x u/\J.yld i H x H'/\tn (i+1) s2.heap/\∀b∈fp,H' b=none) E s1) E s
 done:∀(X:Cx),X.prog=P->X.w=w->X.K=K->X.calm=true->∀(i:Nat)(aa:Ψ)(s:Shared)(σ:St)(H:Hp)(E:Ω),Inv X aa σ H s->(∀b∈fp,ce X aa H b)->tn i s.heap->J.stop i H->
  wpAny (model P w) X.A (pyNext (.ref it)) (fun r s1=>r=none/\Inv X aa σ H s1) E s
 self:∀(A:Around)(i:Nat)(s:Shared)(Q:Ω)(E:Ω),tn i s.heap->Q (.ref it) s->wpAny (model P w) A (pyIter (.ref it)) Q E s
abbrev TI:=St->Hp->(It->Hp->Prop)->Prop
def DE(X:Cx)(aa:Ψ)(σ:St)(tg:Expr)(R:It->Hp->Prop)(d:Value)(c:Shared):Prop:=
 ∃(it:Addr)(a:List Addr)(tn:Nat->Heap->Prop)(J:It)(H':Hp),d=.ref it/\Inv X aa σ H' c/\Turn X.prog X.w X.K tg J a it tn/\tn 0 c.heap/\(∀b∈a,ce X aa H' b)/\R J H'
def PI(X:Cx)(tg iter:Expr)(wi:TI):Prop:=
 ∀(aa:Ψ)(s:Shared)(σ:St)(H:Hp)(R:It->Hp->Prop),Inv X aa σ H s->wi σ H R->
  wpAny (model X.prog X.w) X.A (eval iter X.env) (fun v a=>wpAny (model X.prog X.w) X.A (pyIter v) (DE X aa σ tg R) X.xe a) X.xe s
def BN{M:Model}{A:Around}{E:Ω}{s:Shared}{tg:Expr}{it:Addr}{u:Value}{o:Obj}{n:String}{vs:Array Value}{Q:Unit->Shared->Prop}(b:s.heap.get? it=some o)(hc:o.cls=.type n)(hd:o.data=.fields vs)(c:["enumerate","zip","dict_itemiterator","dict_reverseitemiterator","odict_iterator","itertools.zip_longest","itertools.pairwise"].contains n=false)(a:Q () s):wpAny M A (letOwnedTupleGo tg (.ref it) u) Q E s:=by
 unfold letOwnedTupleGo;cases tg<;>first
  |exact An a
  |(cases u<;>first
    |exact An a
    |(refine Ae (wpAny_load b ?_);rw[hc,hd];show wpAny M A (if(["enumerate","zip","dict_itemiterator","dict_reverseitemiterator","odict_iterator","itertools.zip_longest","itertools.pairwise"].contains n&&vs[0]?==some (rawInt _))=true then _ else _) Q E s;rw[if_neg (by intro h;rw[c,Bool.false_and] at h;cases h)];exact An a))
noncomputable def eP(K:Af)(a:Addr):It:=
 ⟨fun i H=>∃xs x,SqL K H a xs/\xs[i]?=some x,fun i H x H'=>H'=H/\∀xs,SqL K H a xs->xs[i]?=some x,fun i H=>∃xs,SqL K H a xs/\xs.length<=i⟩
noncomputable def qi(K:Af)(a:Addr):It:=
 ⟨fun i H=>∃xs x,SqT K H a xs/\xs[i]?=some x,fun i H x H'=>H'=H/\∀xs,SqT K H a xs->xs[i]?=some x,fun i H=>∃xs,SqT K H a xs/\xs.length<=i⟩
noncomputable def fM(lo:Int)(n:Nat):It:=⟨fun i _=>i<n,fun i H x H'=>H'=H/\x=.int (lo+i),fun i _=>n<=i⟩
def BR{P:Program}{w:World}{K:Af}{tg:Expr}(a it:Addr):Turn P w K tg (eP K a) [it] it (fun i h=>h.IsListIter it a i) where
 mem:=by simp
 obj:=fun i h st b hb=>by
  have e:b=it:=by simpa using hb
  subst e;obtain⟨o,e,c,d⟩:=st;exact⟨o,e,fun v z=>by rw[d] at z;cases z⟩
 keep:=fun i h h' st k=>st.at fun o e=>k it (by simp) o e
 item:=by
  intro X g hw j hc i aa s σ H E I f st hg;subst g hw j;obtain⟨xs,x,hq,hx⟩:=hg;obtain⟨ad,l,p,hz⟩:=I.list hq;obtain⟨u,G,J⟩:=l.get hx;obtain⟨q,f1,f2,r,y,A⟩:=f it (by simp);refine wpAny_pyNext_list_item st p.isList (x:=u) (by simpa using G) fun h' C D=>?_;have L:Inv X aa σ H {s with heap:=h'}:=I.turned (t':=s.toks) (fun b o hb e=>(D.2 b hb).trans e) q f1 r y A;obtain⟨o,e,c,d⟩:=id C;exact⟨u,rfl,BN (s:={s with heap:=h'}) e c d ξ ⟨x,H,L,J,⟨rfl,fun ys hy=>by rw[I.list_inj hy hq];exact hx⟩,C,fun b hb=>(f b hb).1⟩⟩
 done:=by
  intro X g hw j hc i aa s σ H E I f st hg;subst g hw j;obtain⟨xs,hq,hx⟩:=hg;obtain⟨ad,l,p,hz⟩:=I.list hq;obtain⟨q,f1,f2,r,y,A⟩:=f it (by simp);have M:=l.length;exact wpAny_pyNext_list_end (I.ok.hd hc) st p.isList (by simp;(first|lia|omega)) fun h' F=>⟨rfl,I.turned (t':=s.toks) (fun b o hb e=>F b o hb e) q f1 r y A⟩
 self:=fun _ _ _ _ _ st h=>wpAny_pyIter_listiter st h
def KD{P:Program}{w:World}{K:Af}{tg:Expr}(a it:Addr):Turn P w K tg (qi K a) [it] it (fun i h=>h.IsTupleIter it a i) where
 mem:=by simp
 obj:=fun i h st b hb=>by
  have e:b=it:=by simpa using hb
  subst e;obtain⟨o,e,c,d⟩:=st;exact⟨o,e,fun v z=>by rw[d] at z;cases z⟩
 keep:=fun i h h' st k=>st.at fun o e=>k it (by simp) o e
 item:=by
  intro X g hw j hc i aa s σ H E I f st hg;subst g hw j;obtain⟨xs,x,hq,hx⟩:=hg;obtain⟨ad,l,p,hz⟩:=I.tuple hq;obtain⟨u,G,J⟩:=l.get hx;obtain⟨q,f1,f2,r,y,A⟩:=f it (by simp);refine wpAny_pyNext_tuple_item st (show s.heap.IsTuple a ad.toArray from p) (x:=u) (by simpa using G) fun h' C D=>?_;have L:Inv X aa σ H {s with heap:=h'}:=I.turned (t':=s.toks) (fun b o hb e=>(D.2 b hb).trans e) q f1 r y A;obtain⟨o,e,c,d⟩:=id C;exact⟨u,rfl,BN (s:={s with heap:=h'}) e c d ξ ⟨x,H,L,J,⟨rfl,fun ys hy=>by rw[I.tuple_inj hy hq];exact hx⟩,C,fun b hb=>(f b hb).1⟩⟩
 done:=by
  intro X g hw j hc i aa s σ H E I f st hg;subst g hw j;obtain⟨xs,hq,hx⟩:=hg;obtain⟨ad,l,p,hz⟩:=I.tuple hq;obtain⟨q,f1,f2,r,y,A⟩:=f it (by simp);have M:=l.length;exact wpAny_pyNext_tuple_end (I.ok.hd hc) st (show s.heap.IsTuple a ad.toArray from p) (by simp;(first|lia|omega)) fun h' F=>⟨rfl,I.turned (t':=s.toks) (fun b o hb e=>F b o hb e) q f1 r y A⟩
 self:=fun _ _ _ _ _ st h=>wpAny_pyIter_tupleiter st h
def KF{P:Program}{w:World}{K:Af}{tg:Expr}(it:Addr)(lo:Int)(n:Nat):Turn P w K tg (fM lo n) [it] it (fun i h=>IsRangeIter h it (lo+(i:Nat)*1) ((n:Int)-(i:Nat)) 1) where
 mem:=by simp
 obj:=fun i h st b hb=>by
  have e:b=it:=by simpa using hb
  subst e;exact⟨_,st,fun v z=>by
   have x:Data.fields _=Data.cell v:=z;cases x⟩
 keep:=fun i h h' st k=>k it (by simp) _ st
 item:=by
  intro X c hw d hc i aa s σ H E I a st hg;subst c hw d;obtain⟨f,f1,f2,g,j,l⟩:=a it (by simp);have W:=Walks.range (prog:=X.prog) (w:=X.w) (I.ok.hd hc) it lo 1 n;refine W.item i s _ _ hg st fun v h' tk q p r=>?_;obtain⟨t,rfl⟩:=q;have y:Inv X aa σ H {s with heap:=h',toks:=tk}:=I.turned (fun b o hb e=>r b o (by simpa using hb) e) f f1 g j l;refine⟨_,rfl,BN (s:={s with heap:=h',toks:=tk}) (n:="range_iterator") p rfl rfl ξ ⟨.int (lo+i),H,y,⟨t,?_⟩,⟨rfl,rfl⟩,p,fun b hb=>(a b hb).1⟩⟩;rw[Int.mul_one]
 done:=by
  intro X c hw d hc i aa s σ H E I a st hg;subst c hw d;obtain⟨f,f1,f2,g,j,l⟩:=a it (by simp);exact wpAny_pyNext_range_end (I.ok.hd hc) st (by have:n<=i:=hg;(first|lia|omega)) fun h' u=>⟨rfl,I.turned (t':=s.toks) (fun b o hb e=>u b o hb e) f f1 g j l⟩
 self:=fun _ _ _ _ _ st h=>wpAny_pyIter_rangeiter st h
section
variable{X:Cx}{tg:Expr}
def Gj(K:Af)(tl:TE):TI:=fun σ H R=>tl σ H fun x H1=>∃a,x=.ref a/\(∃xs,SqL K H1 a xs)/\R (eP K a) H1
def DF(K:Af)(tl:TE):TI:=fun σ H R=>tl σ H fun x H1=>∃a,x=.ref a/\(∃xs,SqT K H1 a xs)/\R (qi K a) H1
def zJ{l:Expr}{tl:TE}(g:PE X l tl):PI X tg l (Gj X.K tl):=by
 intro aa s σ H R I h;refine aY (g aa s σ H _ I h) fun v c ⟨x,H1,I1,d,f⟩=>?_;obtain⟨a,e,⟨xs,hq⟩,q⟩:=f;subst e;cases d;obtain⟨ad,i,p,hz⟩:=I1.list hq;refine wpAny_pyIter_list p.isList ?_;refine⟨c⁻¹,[c⁻¹],_,_,H1,rfl,I1.kept (t':=c.toks) fun b o e=>Ai _ e,BR a _,⟨_,AH _ rfl,rfl,rfl⟩,fun b hb=>?_,q⟩;have e:b=c⁻¹:=by simpa using hb
 subst e;exact I1.fpOk (Ad _) (I1.hok.fresh (Ad _))
def Gn{l:Expr}{tl:TE}(g:PE X l tl):PI X tg l (DF X.K tl):=by
 intro aa s σ H R I h;refine aY (g aa s σ H _ I h) fun v c ⟨x,H1,I1,d,f⟩=>?_;obtain⟨a,e,⟨xs,hq⟩,q⟩:=f;subst e;cases d;obtain⟨ad,i,p,hz⟩:=I1.tuple hq;refine wpAny_pyIter_tuple (show c.heap.IsTuple a ad.toArray from p) ?_;refine⟨c⁻¹,[c⁻¹],_,_,H1,rfl,I1.kept (t':=c.toks) fun b o e=>Ai _ e,KD a _,⟨_,AH _ rfl,rfl,rfl⟩,fun b hb=>?_,q⟩;have e:b=c⁻¹:=by simpa using hb
 subst e;exact I1.fpOk (Ad _) (I1.hok.fresh (Ad _))
def Gq{aa:Ψ}{σ:St}{H:Hp}{s:Shared}{R:It->Hp->Prop}{E:Ω}{lo hi:Int}{t u v:Tok}{tk:Nat}(I:Inv X aa σ H s)(h1:-(2 ^ 62)<=lo)(h2:lo<2 ^ 62)(a:-(2 ^ 62)<=hi)(c:hi<2 ^ 62)(q:R (fM lo (hi-lo).toNat) H):wpAny (model X.prog X.w) X.A (pyIter (.ref s⁻¹)) (DE X aa σ tg R) E {s with heap:=s.heap.push {cls:=.type "range",data:=.fields #[.int lo t,.int hi u,.int 1 v]},toks:=tk}:=by
 refine wpAny_pyIter_range (IsRange.new ..) (small_one h1 h2 a c) ?_;have I1:Inv X aa σ H {s with heap:=s.heap.push {cls:=.type "range",data:=.fields #[.int lo t,.int hi u,.int 1 v]},toks:=tk}:=I.kept fun b o e=>Ai _ e;refine⟨(s.heap.push {cls:=.type "range",data:=.fields #[.int lo t,.int hi u,.int 1 v]}).objs.size,[(s.heap.push {cls:=.type "range",data:=.fields #[.int lo t,.int hi u,.int 1 v]}).objs.size],_,_,H,rfl,
  I1.kept (t':=tk) fun b o e=>Ai _ e,KF _ lo (hi-lo).toNat,?_,fun b hb=>?_,q⟩
 ·have e1:lo+((0:Nat):Int)*1=lo:=by simp
  have e2:(((hi-lo).toNat:Nat):Int)-((0:Nat):Int)=Builtin.Range.rangeSize lo hi 1:=by rw[rangeSize_one];split<;>(first|lia|omega)
  show IsRangeIter _ _ (lo+((0:Nat):Int)*1) ((((hi-lo).toNat:Nat):Int)-((0:Nat):Int)) 1;rw[e1,e2];exact AH _ rfl
 ·have e:b=(s.heap.push {cls:=.type "range",data:=.fields #[.int lo t,.int hi u,.int 1 v]}).objs.size:=by simpa using hb
  subst e;exact I1.fpOk (Ad _) (I1.hok.fresh (Ad _))
def DG(ta:TA):TI:=fun σ H R=>ta σ H fun vs H1=>∃j:Int,vs=[.int j]/\-(2 ^ 62)<=j/\j<2 ^ 62/\R (fM 0 j.toNat) H1
def KG(ta:TA):TI:=fun σ H R=>ta σ H fun vs H1=>∃i j:Int,vs=[.int i,.int j]/\(-(2 ^ 62)<=i/\i<2 ^ 62/\-(2 ^ 62)<=j/\j<2 ^ 62)/\R (fM i (j-i).toNat) H1
def zK{a:Expr}{ta:TA}{p pos:Pos}(hg:Gl X "range")(f:X.mg "range"=none)(g:PA X [a] ta)(i:starEach [a] X.env=[(false,eval a X.env)]:=by rfl):PI X tg (.Call (.Name "range" p) [a] [] pos) (DG ta):=by
 intro aa s σ H R I h;refine Call_ (iS I hg f boot_range (PyProof.Rows.callWith_type1 (aY (g pos aa s σ H _ I h) fun us o ⟨vs,H1,l,c,b⟩=>?_) i rfl));obtain⟨j,e,b,d,q⟩:=b;subst e;cases c with
 |cons r rr=>
  cases rr;obtain⟨t,rfl⟩:=r;exact call_range_1 (Gq l ω ω b d (by simpa using q))
def KH{a b:Expr}{ta:TA}{p pos:Pos}(hg:Gl X "range")(u:X.mg "range"=none)(v:PA X [a,b] ta)(w:starEach [a,b] X.env=[(false,eval a X.env),(false,eval b X.env)]:=by rfl)(d:starEach [b] X.env=[(false,eval b X.env)]:=by rfl):PI X tg (.Call (.Name "range" p) [a,b] [] pos) (KG ta):=by
 intro aa s σ H R I h;refine Call_ (iS I hg u boot_range (PyProof.Rows.callWith_type1 (aY (v pos aa s σ H _ I h) fun us y ⟨vs,H1,x,f,c⟩=>?_) (by rw[w,d]) (by rw[d];rfl)));obtain⟨i,j,e,⟨c,g,l,o⟩,q⟩:=c;subst e;cases f with
 |cons r rr=>
  cases rr with
  |cons r' rr=>
   cases rr;obtain⟨t,rfl⟩:=r;obtain⟨t',rfl⟩:=r';exact call_range_2 (Gq x c g l o q)
def DH(wi:TI)(g:TG)(tb:TS):TS:=fun D σ H=>wi σ H fun J H1=>∃W:Nat->Nat->St->Hp->Prop,(∃m,W 0 m σ H1)/\∀i m σ H,W i m σ H->
 (J.stop i H/\D.nx σ H)\/(J.go i H/\∃N:St->Hp->Prop,(∀a H',N a H'->∃b,b<m/\W (i+1) b a H')/\∀x H',J.yld i H x H'->g x σ H' fun c H2=>tb {D with nx:=N,ct:=N,bk:=D.nx} c H2)
noncomputable def qk(a:List Addr)(h:Heap):Ψ:=a.filterMap fun b=>(h.get? b).map fun o=>(b,o)
def BS{a:List Addr}{h:Heap}{b:Addr}{o:Obj}(hb:b∈a)(e:h.get? b=some o):(b,o)∈qk a h:=List.mem_filterMap.mpr ⟨b,hb,by rw[e];rfl⟩
def KI{a:List Addr}{h:Heap}{p:Addr×Obj}(hp:p∈qk a h):p.1∈a/\h.get? p.1=some p.2:=by
 obtain⟨b,hb,e⟩:=List.mem_filterMap.mp hp;cases q:h.get? b with
 |none=>rw[q] at e;cases e
 |some o=>
  rw[q] at e;have e':(b,o)=p:=AM e;subst e';exact⟨hb,q⟩
def Inv.pinned{aa:Ψ}{σ:St}{H:Hp}{s:Shared}{a:List Addr}(I:Inv X aa σ H s)(f:∀b∈a,ce X aa H b)(g:∀b∈a,∃o,s.heap.get? b=some o/\∀v,o.data≠.cell v):Inv X (aa++qk a s.heap) σ H s:=
 I.pins_of fun p hp=>(List.mem_append.mp hp).elim (fun z=>I.pin p (AE _ z)) fun z=>by
  obtain⟨hb,e⟩:=KI z;obtain⟨c,f1,f2,_⟩:=f p.1 hb;obtain⟨o,e',d⟩:=g p.1 hb;rw[e] at e';cases e';exact⟨e,c,f1,f2,d⟩
def Inv.unpinned{aa pl:Ψ}{σ:St}{H:Hp}{s:Shared}(I:Inv X (aa++pl) σ H s):Inv X aa σ H s:=I.pins_of fun p hp=>I.pin p (AE _ (List.mem_append_left _ hp))
def eC{iter:Expr}{Q:List Stmt}{wi:TI}{g:TG}{tb:TS}{pos:Pos}(hp:PassesOwn (model X.prog X.w) X.A X.env X.xe)(hc:X.calm=true)(hi:PI X tg iter wi)(hg:PG X tg g)(hb:PSs X Q tb)(hs:∀x,foldedSetIterable iter X.env x=pure x:=by intro _;rfl):PS X (.For tg iter Q [] pos) (DH wi g tb):=by
 intro aa s σ H D I h;refine wpAny_For (aY (hi aa s σ H _ I h) fun v s1 h1=>aY h1 fun md s2 h2=>?_) hs;obtain⟨it,y,tn,J,H2,e,I2,T,eB,f2,W,⟨m0,w0⟩,turn⟩:=h2;subst e;have c:∀{H':Hp},(∀b∈y,H' b=none)->∀b∈y,ce X aa H' b:=fun Y b hb=>⟨Y b hb,(f2 b hb).2⟩;refine codeAny_forLoop_any (fun n s'=>∃i z H',Inv X aa z H' s'/\tn i s'.heap/\(∀b∈y,H' b=none)/\W i n z H') ?_ m0 ⟨0,σ,H2,I2,eB,fun b hb=>(f2 b hb).1,w0⟩;rintro n M ⟨i,C,E,U,O,P,w3⟩;rcases turn i n C E w3 with ⟨stop,qn⟩|⟨go,N,hN,step⟩
 ·refine wpAny_passesOwn hp (aY (T.done X rfl rfl rfl hc i aa M C E X.xe U (c P) O stop) fun r Z ⟨hr,I4⟩=>?_)
  subst hr;exact wpAny_execs_nil ⟨C,E,I4,qn⟩
 ·refine wpAny_passesOwn hp (aY (T.item X rfl rfl rfl hc i aa M C E X.xe U (c P) O go) fun r Z ⟨u,hr,h4⟩=>?_)
  subst hr;refine wpAny_passesOwn hp (aY h4 fun _ L ⟨x,S,I5,r5,y5,p,F⟩=>?_);have mY:=I5.pinned (c F) (T.obj _ _ p);refine wpAny_passesOwn hp (aY (hg _ L C S x u _ mY r5 (step x S y5)) fun _ s6 ⟨iT,H6,I6,q6⟩=>?_);refine wpAny_passesOwn hp (aY (hb _ s6 iT H6 _ I6 q6) fun f G l=>?_);have again:∀{a:St}{j:Hp},Inv X (aa++qk y L.heap) a j G->N a j->∃m,m<n/\∃i z H',Inv X aa z H' G/\tn i G.heap/\(∀b∈y,H' b=none)/\W i m z H':=fun{a j} I7 q=>by
   obtain⟨m',hm,w7⟩:=hN a j q;refine⟨m',hm,i+1,a,j,I7.unpinned,T.keep _ _ _ p fun b hb o e=>(I7.pin (b,o) (AE _ (AE _ (BS hb e)))).1,fun b hb=>?_,w7⟩;obtain⟨o,e,d⟩:=T.obj _ _ p b hb;exact(I7.pin (b,o) (AE _ (AE _ (BS hb e)))).2.1
  cases f with
  |next=>obtain⟨a,j,I7,q⟩:=l;exact again I7 q
  |cont=>obtain⟨a,j,I7,q⟩:=l;exact again I7 q
  |brk=>obtain⟨a,j,I7,l⟩:=l;exact⟨a,j,I7.unpinned,l⟩
  |ret v=>obtain⟨x7,a,j,I7,r7,l⟩:=l;exact⟨x7,a,j,I7.unpinned,r7,l⟩
end
def qo{K:Af}{a:Addr}{xs:List V}{g:TG}{tb:TS}{D:Ends}{σ:St}{H:Hp}(b:Nat->St->Hp->Prop)(l:b 0 σ H)(o:∀i σ H,i<=xs.length->b i σ H->SqL K H a xs)(r:∀i x σ H,xs[i]?=some x->b i σ H->g x σ H fun d H2=>tb {D with nx:=b (i+1),ct:=b (i+1),bk:=D.nx} d H2)(hd:∀σ H,b xs.length σ H->D.nx σ H):∃W:Nat->Nat->St->Hp->Prop,(∃m,W 0 m σ H)/\∀i m σ H,W i m σ H->
   ((eP K a).stop i H/\D.nx σ H)\/((eP K a).go i H/\∃N:St->Hp->Prop,(∀f H',N f H'->∃h,h<m/\W (i+1) h f H')/\∀x H',(eP K a).yld i H x H'->g x σ H' fun d H2=>tb {D with nx:=N,ct:=N,bk:=D.nx} d H2):=by
 refine⟨fun i m σ H=>m=xs.length-i/\i<=xs.length/\b i σ H,⟨xs.length,by simp,Aw _,l⟩,?_⟩;rintro i m σ H ⟨rfl,hi,p⟩;have q:=o i σ H hi p
 by_cases c:i<xs.length
 ·refine .inr ⟨⟨xs,xs[i],q,by simp[c]⟩,b (i+1),fun f H' j=>⟨xs.length-(i+1),ω,rfl,c,j⟩,fun x H' y=>?_⟩
  obtain⟨e,y⟩:=y;subst e;exact r i x σ _ (y xs q) p
 ·have e:i=xs.length:=ω
  subst e;exact .inl ⟨⟨xs,q,Ad _⟩,hd σ H p⟩
def kn{lo:Int}{n:Nat}{g:TG}{tb:TS}{D:Ends}{σ:St}{H:Hp}(b:Nat->St->Hp->Prop)(j:b 0 σ H)(l:∀i σ H,i<n->b i σ H->g (.int (lo+i)) σ H fun c H2=>tb {D with nx:=b (i+1),ct:=b (i+1),bk:=D.nx} c H2)(hd:∀σ H,b n σ H->D.nx σ H):∃W:Nat->Nat->St->Hp->Prop,(∃m,W 0 m σ H)/\∀i m σ H,W i m σ H->
   ((fM lo n).stop i H/\D.nx σ H)\/((fM lo n).go i H/\∃N:St->Hp->Prop,(∀d H',N d H'->∃f,f<m/\W (i+1) f d H')/\∀x H',(fM lo n).yld i H x H'->g x σ H' fun c H2=>tb {D with nx:=N,ct:=N,bk:=D.nx} c H2):=by
 refine⟨fun i m σ H=>m=n-i/\i<=n/\b i σ H,⟨n,by simp,Aw _,j⟩,?_⟩;rintro i m σ H ⟨rfl,hi,p⟩
 by_cases a:i<n
 ·refine .inr ⟨a,b (i+1),fun d H' h=>⟨n-(i+1),ω,rfl,a,h⟩,fun x H' y=>?_⟩
  obtain⟨e,y⟩:=y;subst e y;exact l i σ _ a p
 ·have e:i=n:=ω
  subst e;exact .inl ⟨Ad _,hd σ H p⟩
abbrev R2:=V->V->Hp->VK->Prop
def cx(X:Cx)(f:Value->Value->Sem Value)(r:R2):Prop:=
 ∀(aa:Ψ)(s:Shared)(σ:St)(H:Hp)(x y:V)(v u:Value)(Q:VK),Inv X aa σ H s->RelV x v->RelV y u->r x y H Q->
  wpAny (model X.prog X.w) X.A (f v u) (EP X aa σ Q) X.xe s
def DI(X:Cx)(f:Value->Sem Value)(r:V->Hp->VK->Prop):Prop:=
 ∀(aa:Ψ)(s:Shared)(σ:St)(H:Hp)(x:V)(v:Value)(Q:VK),Inv X aa σ H s->RelV x v->r x H Q->
  wpAny (model X.prog X.w) X.A (f v) (EP X aa σ Q) X.xe s
def eS(X:Cx)(f:Value)(r:List V->Hp->VK->Prop):Prop:=
 ∀(aa:Ψ)(s:Shared)(σ:St)(H:Hp)(xs:List V)(us:List Value)(Q:VK),Inv X aa σ H s->Vals xs us->r xs H Q->
  wpAny (model X.prog X.w) X.A (call f us) (EP X aa σ Q) X.xe s
def bL(r:R2)(ta tb:TE):TE:=fun σ H Q=>ta σ H fun x H1=>tb σ H1 fun y H2=>r x y H2 Q
def Gv(r:V->Hp->VK->Prop)(ta:TE):TE:=fun σ H Q=>ta σ H fun x H1=>r x H1 Q
def rI(C:Int->Int->Prop)(g:Int->Int->V):R2:=fun x y H Q=>∃i j,x=.int i/\y=.int j/\C i j/\Q (g i j) H
def fO(g:Int->Int->V):R2:=fun x y H Q=>∃i j,x=.int i/\y=.int j/\Q (g i j) H
def rU(g:Int->V):V->Hp->VK->Prop:=fun x H Q=>∃i,x=.int i/\Q (g i) H
section
variable{X:Cx}{a b c:Expr}{ta tb tc:TE}{pos:Pos}
def kw(p:PE X a ta)(hb:PE X b tb){aa:Ψ}{s:Shared}{σ:St}{H:Hp}{R:V->V->Hp->Prop}(I:Inv X aa σ H s)(h:ta σ H fun x H1=>tb σ H1 fun y H2=>R x y H2){Q:Ω}{f:Value->Value->Sem Value}(q:∀v u c x y H2,Inv X aa σ H2 c->RelV x v->RelV y u->R x y H2->wpAny (model X.prog X.w) X.A (f v u) Q X.xe c):wpAny (model X.prog X.w) X.A (eval a X.env) (fun v d=>wpAny (model X.prog X.w) X.A (eval b X.env) (fun u e=>wpAny (model X.prog X.w) X.A (f v u) Q X.xe e) X.xe d) X.xe s:=by
 refine aY (p aa s σ H _ I h) fun v g ⟨x,H1,r,i,j⟩=>?_;refine aY (hb aa g σ H1 _ r j) fun u c ⟨y,H2,z,l,o⟩=>?_;exact q v u c x y H2 z i l o
def zC{c:Operator}{r:R2}(g:cx X (binaryOp c) r)(i:PE X a ta)(hb:PE X b tb):PE X (.BinOp a c b pos) (bL r ta tb):=by
 intro aa s σ H Q I h;exact wpAny_BinOp (kw i hb I h fun v u d x y H2 j e f q=>g aa d σ H2 x y v u Q j e f q)
def kx{b:UnaryOp}{r:V->Hp->VK->Prop}(f:DI X (unaryOp b) r)(g:PE X a ta):PE X (.UnaryOp b a pos) (Gv r ta):=by
 intro aa s σ H Q I h;exact UnaryOp_ (aY (g aa s σ H _ I h) fun v c ⟨x,H1,i,d,e⟩=>f aa c σ H1 x v Q i d e)
def mN{f:Value->Value->Sem Value}{C:Int->Int->Prop}{g:Int->Int->Int}(rule:∀(i j:Int)(t u:Tok)(s:Shared)(Q:Ω)(E:Ω),C i j->Q (.int (g i j) s.toks) {s with toks:=s.toks+1}->wpAny (model X.prog X.w) X.A (f (.int i t) (.int j u)) Q E s):cx X f (rI C fun i j=>.int (g i j)):=by
 intro aa s σ H x y v u Q I a b h;obtain⟨i,j,rfl,rfl,hc,q⟩:=h;obtain⟨t,rfl⟩:=a;obtain⟨t',rfl⟩:=b;exact rule i j t t' s _ _ hc ⟨.int (g i j),H,I.tok _,⟨_,rfl⟩,q⟩
def qx{f:Value->Value->Sem Value}{g:Int->Int->Int}(rule:∀(i j:Int)(t u:Tok)(s:Shared)(Q:Ω)(E:Ω),Q (.int (g i j) s.toks) {s with toks:=s.toks+1}->wpAny (model X.prog X.w) X.A (f (.int i t) (.int j u)) Q E s):cx X f (fO fun i j=>.int (g i j)):=by
 intro aa s σ H x y v u Q I a b h;obtain⟨i,j,rfl,rfl,q⟩:=h;obtain⟨t,rfl⟩:=a;obtain⟨t',rfl⟩:=b;exact rule i j t t' s _ _ ⟨.int (g i j),H,I.tok _,⟨_,rfl⟩,q⟩
def kC{f:Value->Value->Sem Value}{g:Int->Int->Bool}(rule:∀(i j:Int)(t u:Tok)(s:Shared)(Q:Ω)(E:Ω),Q (.bool (g i j)) s->wpAny (model X.prog X.w) X.A (f (.int i t) (.int j u)) Q E s):cx X f (fO fun i j=>.bl (g i j)):=by
 intro aa s σ H x y v u Q I a b h;obtain⟨i,j,rfl,rfl,q⟩:=h;obtain⟨t,rfl⟩:=a;obtain⟨t',rfl⟩:=b;exact rule i j t t' s _ _ ⟨.bl (g i j),H,I,rfl,q⟩
def qB(i j:Int):Prop:=0<j/\j<1073741824
def qG(i j:Int):Prop:=0<=j/\j<=1000000/\i.natAbs<2 ^ 64
def CMul(i j:Int):Prop:=(-(2 ^ 64)<i/\i<2 ^ 64)\/(-(2 ^ 64)<j/\j<2 ^ 64)
def CMul.ok{i j:Int}(h:CMul i j):IntMulOk i j:=by
 rcases h with ⟨h1,h2⟩|⟨h1,h2⟩
 ·exact .of_left (intBits_le_64 h1 h2)
 ·exact .of_right (intBits_le_64 h1 h2)
def fT:cx X (binaryOp .Add) (fO fun i j=>.int (i+j)):=qx fun _ _ _ _ _ _ _ q=>add_int q
def eU:cx X (binaryOp .Sub) (fO fun i j=>.int (i-j)):=qx fun _ _ _ _ _ _ _ q=>sub_int q
def kE:cx X (binaryOp .Mult) (rI CMul fun i j=>.int (i*j)):=mN fun _ _ _ _ _ _ _ hc q=>mul_int q hc.ok
def DJ:cx X (binaryOp .FloorDiv) (rI qB fun i j=>.int (i / j)):=mN fun i j _ _ _ _ _ hc q=>by
 have h1:(0:Int)<j:=hc.1;have h2:j<1073741824:=hc.2;exact floordiv_int ω (by rw[Int.fdiv_eq_ediv_of_nonneg i ω];exact q) (.inl (PyProof.noPylong_small ω))
def jE:cx X (binaryOp .Mod) (rI (fun _ j=>0<j) fun i j=>.int (i%j)):=mN fun i j _ _ _ _ _ hc q=>by
 have h1:(0:Int)<j:=hc;exact mod_int' ω (by rw[Int.fmod_eq_emod_of_nonneg i ω];exact q)
def DK:cx X (binaryOp .Pow) (rI qG fun i j=>.int (i ^ j.toNat)):=mN fun _ _ _ _ _ _ _ hc q=>pow_int_small hc.1 hc.2.1 hc.2.2 q
def KJ{f:Value->Sem Value}{g:Int->Int}(rule:∀(i:Int)(t:Tok)(s:Shared)(Q:Ω)(E:Ω),Q (.int (g i) s.toks) {s with toks:=s.toks+1}->wpAny (model X.prog X.w) X.A (f (.int i t)) Q E s):DI X f (rU fun i=>.int (g i)):=by
 intro aa s σ H x v Q I a h;obtain⟨i,rfl,q⟩:=h;obtain⟨t,rfl⟩:=a;exact rule i t s _ _ ⟨.int (g i),H,I.tok _,⟨_,rfl⟩,q⟩
def kG:DI X (unaryOp .USub) (rU fun i=>.int (-i)):=KJ fun _ _ _ _ _ q=>neg_int q
end
noncomputable def qM:V->V->Bool
 |.non,.non=>true|.non,.int _=>true|.int _,.non=>true|.non,.bl _=>true|.bl _,.non=>true|.non,.str _=>true|.str _,.non=>true
 |.int _,.int _=>true|.bl _,.bl _=>true|.str _,.str _=>true|.byt _,.byt _=>true
 |.int _,.str _=>true|.str _,.int _=>true|.bl _,.str _=>true|.str _,.bl _=>true
 |_,_=>false
def qS:R2:=fun x y H Q=>qM x y=true/\Q (.bl (decide (x=y))) H
def DL:R2:=fun x y H Q=>qM x y=true/\Q (.bl (!decide (x=y))) H
def Gx{i j:Int}:decide (V.int i=V.int j)=(i==j):=by
 rw[Bool.eq_iff_iff];simp
def gN{i j:Bool}:decide (V.bl i=V.bl j)=(i==j):=by
 rw[Bool.eq_iff_iff];simp
def Gy{i j:Str}:decide (V.str i=V.str j)=(i==j):=by
 rw[Bool.eq_iff_iff];simp
def Gz{i j:Array UInt8}:decide (V.byt i=V.byt j)=(i.toList==j.toList):=by
 rw[Bool.eq_iff_iff];cases i;cases j;simp
section
variable{X:Cx}{a b c:Expr}{ta tb tc:TE}{pos:Pos}
def aw{aa:Ψ}{σ:St}{H:Hp}{s:Shared}{Q:VK}{k a:Bool}(I:Inv X aa σ H s)(q:Q (.bl k) H)(e:k=a):EP X aa σ Q (.bool a) s:=by
 subst e;exact⟨.bl k,H,I,rfl,q⟩
def fV:cx X (compareOp .Eq) qS:=by
 intro aa s σ H x y v u Q I c a h;obtain⟨b,q⟩:=h;cases x with
 |non=>
  cases c;cases y with
  |non=>cases a;exact PySem.EqNone.eq_none_none (aw I q (by simp))
  |bl j=>cases a;exact PySem.EqNone.eq_none_bool (aw I q (by simp))
  |int j=>obtain⟨t',rfl⟩:=a;exact PySem.EqNone.eq_none_int (aw I q (by simp))
  |str j=>obtain⟨t',rfl⟩:=a;exact PySem.EqNone.eq_none_str (aw I q (by simp))
  |_=>exact absurd (show false=true from b) AG
 |bl i=>
  cases c;cases y with
  |non=>cases a;exact PySem.EqNone.eq_bool_none (aw I q (by simp))
  |bl j=>cases a;exact eq_bool (aw I q gN)
  |str j=>obtain⟨t',rfl⟩:=a;exact PySem.EqMixed.eq_bool_str (aw I q (by simp))
  |_=>exact absurd (show false=true from b) AG
 |int i=>
  obtain⟨t,rfl⟩:=c;cases y with
  |non=>cases a;exact PySem.EqNone.eq_int_none (aw I q (by simp))
  |int j=>obtain⟨t',rfl⟩:=a;exact eq_int (aw I q Gx)
  |str j=>obtain⟨t',rfl⟩:=a;exact PySem.EqMixed.eq_int_str (aw I q (by simp))
  |_=>exact absurd (show false=true from b) AG
 |str i=>
  obtain⟨t,rfl⟩:=c;cases y with
  |non=>cases a;exact PySem.EqNone.eq_str_none (aw I q (by simp))
  |bl j=>cases a;exact PySem.EqMixed.eq_str_bool (aw I q (by simp))
  |int j=>obtain⟨t',rfl⟩:=a;exact PySem.EqMixed.eq_str_int (aw I q (by simp))
  |str j=>obtain⟨t',rfl⟩:=a;exact eq_str (aw I q Gy)
  |_=>exact absurd (show false=true from b) AG
 |byt i=>
  obtain⟨t,rfl⟩:=c;cases y with
  |byt j=>obtain⟨t',rfl⟩:=a;exact PySem.W.eq_bytes (aw I q Gz)
  |_=>exact absurd (show false=true from b) AG
 |_=>cases y<;>exact absurd (show false=true from b) AG
def iU:cx X (compareOp .NotEq) DL:=by
 intro aa s σ H x y v u Q I c a h;obtain⟨b,q⟩:=h;cases x with
 |non=>
  cases c;cases y with
  |non=>cases a;exact PySem.EqNone.ne_none_none (aw I q (by simp))
  |bl j=>cases a;exact PySem.EqNone.ne_none_bool (aw I q (by simp))
  |int j=>obtain⟨t',rfl⟩:=a;exact PySem.EqNone.ne_none_int (aw I q (by simp))
  |str j=>obtain⟨t',rfl⟩:=a;exact PySem.EqNone.ne_none_str (aw I q (by simp))
  |_=>exact absurd (show false=true from b) AG
 |bl i=>
  cases c;cases y with
  |non=>cases a;exact PySem.EqNone.ne_bool_none (aw I q (by simp))
  |bl j=>cases a;exact ne_bool (aw I q (congrArg not gN))
  |str j=>obtain⟨t',rfl⟩:=a;exact PySem.EqMixed.ne_bool_str (aw I q (by simp))
  |_=>exact absurd (show false=true from b) AG
 |int i=>
  obtain⟨t,rfl⟩:=c;cases y with
  |non=>cases a;exact PySem.EqNone.ne_int_none (aw I q (by simp))
  |int j=>obtain⟨t',rfl⟩:=a;exact ne_int (aw I q (congrArg not Gx))
  |str j=>obtain⟨t',rfl⟩:=a;exact PySem.EqMixed.ne_int_str (aw I q (by simp))
  |_=>exact absurd (show false=true from b) AG
 |str i=>
  obtain⟨t,rfl⟩:=c;cases y with
  |non=>cases a;exact PySem.EqNone.ne_str_none (aw I q (by simp))
  |bl j=>cases a;exact PySem.EqMixed.ne_str_bool (aw I q (by simp))
  |int j=>obtain⟨t',rfl⟩:=a;exact PySem.EqMixed.ne_str_int (aw I q (by simp))
  |str j=>obtain⟨t',rfl⟩:=a;exact ne_str (aw I q (congrArg not Gy))
  |_=>exact absurd (show false=true from b) AG
 |byt i=>
  obtain⟨t,rfl⟩:=c;cases y with
  |byt j=>obtain⟨t',rfl⟩:=a;exact PySem.W.ne_bytes (aw I q (congrArg not Gz))
  |_=>exact absurd (show false=true from b) AG
 |_=>cases y<;>exact absurd (show false=true from b) AG
def qX:cx X (compareOp .Lt) (fO fun i j=>.bl (decide (i<j))):=kC fun _ _ _ _ _ _ _ q=>lt_int q
def gR:cx X (compareOp .Gt) (fO fun i j=>.bl (decide (j<i))):=kC fun _ _ _ _ _ _ _ q=>gt_int q
def KL:cx X (compareOp .GtE) (fO fun i j=>.bl (decide (j<=i))):=kC fun _ _ _ _ _ _ _ q=>ge_int q
def ar(b:Expr){a:CmpOp}(h:a≠.In:=by decide)(h2:a≠.NotIn:=by decide):behindInMarks a b=false:=by
 have e1:(a==CmpOp.In)=false:=by cases a<;>first|rfl|exact absurd rfl h
 have e2:(a==CmpOp.NotIn)=false:=by cases a<;>first|rfl|exact absurd rfl h2
 cases b<;>simp[behindInMarks,e1,e2]
def fX{c:CmpOp}{r:R2}(g:cx X (compareOp c) r)(i:PE X a ta)(hb:PE X b tb)(j:behindInMarks c b=false):PE X (.Compare a [c] [b] pos) (bL r ta tb):=by
 intro aa s σ H Q I h;exact wpAny_Compare1 (kw i hb I h fun v u d x y H2 l e f q=>g aa d σ H2 x y v u Q l e f q) j
def BV(t:TE):TT:=fun σ H Q=>t σ H fun x H'=>∃k,x=.bl k/\Q k H'
def zv{d:CmpOp}{r:R2}(w:cx X (compareOp d) r)(A:PE X a ta)(hb:PE X b tb)(C:behindInMarks d b=false):PT X (.Compare a [d] [b] pos) (BV (bL r ta tb)):=by
 intro aa s σ H Q I h;refine wpAny_isTrue_Compare1 (aY (A aa s σ H _ I h) fun v f ⟨x,H1,D,g,i⟩=>aY (hb aa f σ H1 _ D i) fun u j ⟨y,H2,E,l,o⟩=>
  aY (w aa j σ H2 x y v u _ E g l o) fun c J ⟨z,F,G,p,k,e,q⟩=>?_) C
 subst e;cases p;exact wpAny_truthy_bool ⟨F,G,q⟩
def dH:(sizeLine:Nat)<2 ^ 63:=by rw[sizeLine_eq];decide
def vals1{x:V}{us:List Value}(r:Vals [x] us):∃u,us=[u]/\RelV x u:=by
 cases r with
 |cons r1 r2=>cases r2;exact⟨_,rfl,r1⟩
def vals2{x y:V}{us:List Value}(r:Vals [x,y] us):∃u a,us=[u,a]/\RelV x u/\RelV y a:=by
 cases r with
 |cons r1 r2=>
  cases r2 with
  |cons r3 r4=>cases r4;exact⟨_,_,rfl,r1,r3⟩
def GA(hc:X.calm=true):eS X (.builtin "min") (fun xs H Q=>∃i j,xs=[.int i,.int j]/\Q (.int (if j<i then j else i)) H):=by
 intro aa s σ H xs us Q I r h;obtain⟨i,j,rfl,q⟩:=h;obtain⟨u,b,rfl,⟨t,rfl⟩,⟨t',rfl⟩⟩:=vals2 r;refine min_two_ints (I.ok.hd hc) fun h' tk k=>⟨_,H,I.kept k,?_,q⟩
 by_cases a:j<i
 ·rw[if_pos a,if_pos a];exact⟨_,rfl⟩
 ·rw[if_neg a,if_neg a];exact⟨_,rfl⟩
def KM:eS X (.type "int") (fun xs H Q=>(∃i,xs=[.int i]/\Q (.int i) H)\/∃k,xs=[.bl k]/\Q (.int (if k then 1 else 0)) H):=by
 intro aa s σ H xs us Q I r h;rcases h with ⟨i,rfl,q⟩|⟨k,rfl,q⟩
 ·obtain⟨u,rfl,t,rfl⟩:=vals1 r
  exact call_int_int ⟨.int i,H,I,⟨_,rfl⟩,q⟩
 ·obtain⟨u,rfl,a⟩:=vals1 r
  cases a;exact call_int_bool ⟨.int (if k then 1 else 0),H,I.tok _,⟨_,rfl⟩,q⟩
end
structure ObjM(h:Heap)(x dx C:Addr)(mA:Str->Option Value):Prop where
 obj:h.get? x=some (PySem.W.instObj C dx)
 ns:h.Ns1 dx mA
 ne:dx≠x
def KN{h:Heap}{dx:Addr}{mA:Str->Option Value}(n:h.Ns1 dx mA):∃b,h.get? dx=some b/\∀name,PySem.W.lookIn name b=some (mA name):=by
 obtain⟨o,es,ep,c,hd,hk,_,d⟩:=n;refine⟨o,c,fun name=>?_⟩;have e:=d name;unfold nsFind findBy at e;rw[<-Array.find?_toList] at e;unfold PySem.W.lookIn;rw[hd];dsimp only;split
 ·rename_i y q
  rw[q] at e;exact congrArg some e
 ·rename_i q
  rw[q] at e;have a:es.toList.any (·.refKey)=false:=by
   rw[List.any_eq_false];intro y hy;obtain⟨z,t,f⟩:=hk y (Array.mem_toList_iff.mp hy);simp[DictEntry.refKey,f]
  have a':¬es.toList.any (·.refKey)=true:=by rw[a];exact AG
  rw[if_neg a'];exact congrArg some e
def ObjM.look{h:Heap}{x dx C:Addr}{mA:Str->Option Value}(I:ObjM h x dx C mA):∃a,PySem.W.InstAt h x (PySem.W.instObj C dx) C (some a)/\∀name,PySem.W.lookIn name a=some (mA name):=
 let ⟨a,ho,hl⟩:=KN I.ns
 ⟨a,⟨I.obj,rfl,rfl,ho⟩,hl⟩
def RelO.some_of{v:V}{o:Option Value}(r:RelO (some v) o):∃u,o=some u/\RelV v u:=by
 cases o with
 |none=>exact(show False from r).elim
 |some u=>exact⟨u,rfl,r⟩
section
variable{P:Program}{w:World}{H H':Hp}{h h':Heap}{a C dx:Addr}{fs r_:List (Str×V)}
def KO(b:HOk P w H h)(e:H a=some (.ins C dx fs)):∃mA,ObjM h a dx C mA/\(∀f,RelO (fs.lookup f) (mA f))/\PySem.Within mA (fs.map (·.1))/\fs.length<=1000/\H dx=some (.own a):=by
 obtain⟨d,z,ne,c,mA,n,r,q⟩:=(show zad P w H h a (.ins C dx fs) from b a _ e);exact⟨mA,⟨c,n,ne⟩,r,q,z,d⟩
end
structure Cls(K:Af)(C:Addr):Prop where
 pg:PySem.W.plainGet K C Str.empty=true
 hd:PySem.W.hasDictIn K C=true
 po:PySem.W.plainOver K C=true
 sa:PySem.W.findIn K (.ref C) "__setattr__"=some (some (.builtin "object.__setattr__"))
def Cls.get{K:Af}{C:Addr}(c:Cls K C)(f:Str):PySem.W.plainGet K C f=true:=c.pg
section
variable{X:Cx}{aa:Ψ}{σ:St}{H:Hp}{s:Shared}{A:Around}{E:Ω}{Q:Ω}{c:Value}{b:Bool}
inductive cy(K:Af)(H:Hp):V->Value->Prop where
 |non:cy K H .non (.type "NoneType")
 |bl (x:Bool):cy K H (.bl x) (.type "bool")
 |int (i:Int):cy K H (.int i) (.type "int")
 |str (x:Str):cy K H (.str x) (.type "str")
 |flt (x:UInt64):cy K H (.flt x) (.type "float")
 |lst {a:Addr} {xs:List V} (e:H a=some (.lst xs)):cy K H (.ref a) (.type "list")
 |frz {a:Addr} {o:Obj} {xs:List V} (e:H a=some (.frz o (.lst xs))):cy K H (.ref a) (.type "list")
 |tup {a:Addr} {xs:List V} (e:H a=some (.tup xs)):cy K H (.ref a) (.type "tuple")
 |dK {a:Addr} {kvs:List (Key×V)} (e:H a=some (.dK kvs)):cy K H (.ref a) (.type "dict")
 |dT {a:Addr} {kvs:List (List Key×V)} (e:H a=some (.dT kvs)):cy K H (.ref a) (.type "dict")
 |ins {a C dx:Addr} {fs:List (Str×V)} (e:H a=some (.ins C dx fs)) (cl:Cls K C) (ha:PySem.W.findIn K (.ref C) "__class__"=some (some (.builtin "object.__class__")))
   (hn:PySem.W.specialIn K (.builtin "object.__class__") "__get__"=some (some (.builtin "getset_descriptor.__get__"))) (pc:PySem.W.takesIn K (.builtin "object.__class__")=some true)
   (hm:PySem.W.mroIn K C (.type "object")=some true):cy K H (.ref a) (.ref C)
def B3{x:V}{u t:Value}(I:Inv X aa σ H s)(d:RelV x u)(ty:cy X.K H x t)(e:PySem.W.kitOne X.K t c=some b)(h:∀tk,Q (.bool b) {s with toks:=tk}):wpAny (model X.prog X.w) A (call (.builtin "isinstance") [u,c]) Q E s:=by
 cases ty with
 |non=>cases(show u=Value.none from d);exact PySem.W.kia_one PySem.W.kitx_none I.kIn True.intro e (fun z=>nomatch z) h
 |bl y=>cases(show u=Value.bool y from d);exact PySem.W.kia_one PySem.W.kitx_bool I.kIn True.intro e (fun z=>nomatch z) h
 |int i=>obtain⟨t,q⟩:=(show ∃t,u=Value.int i t from d);cases q;exact PySem.W.kia_one PySem.W.kitx_int I.kIn True.intro e (fun z=>nomatch z) h
 |str y=>obtain⟨t,q⟩:=(show ∃t,u=Value.str y t from d);cases q;exact PySem.W.kia_one PySem.W.kitx_str I.kIn True.intro e (fun z=>nomatch z) h
 |flt y=>obtain⟨t,q⟩:=(show ∃t,u=Value.float y t from d);cases q;exact PySem.W.kia_one PySem.W.kitx_float I.kIn True.intro e (fun z=>nomatch z) h
 |@lst a xs ea=>
  cases(show u=Value.ref a from d);obtain⟨_,_,n,_,h1⟩:=(show zad X.prog X.w H s.heap a (.lst xs) from I.hok a _ ea);exact PySem.W.kia_one PySem.W.kitx_list I.kIn ⟨_,h1,rfl⟩ e (fun z=>nomatch z) h
 |@frz a ob xs ea=>
  cases(show u=Value.ref a from d);obtain⟨_,_,_,n,_,h1⟩:=(show zad X.prog X.w H s.heap a (.frz ob (.lst xs)) from I.hok a _ ea);exact PySem.W.kia_one PySem.W.kitx_list I.kIn ⟨_,h1,rfl⟩ e (fun z=>nomatch z) h
 |@tup a xs ea=>
  cases(show u=Value.ref a from d);obtain⟨_,_,_,p⟩:=(show zad X.prog X.w H s.heap a (.tup xs) from I.hok a _ ea);obtain⟨o,h1,h2,_⟩:=p;exact PySem.W.kia_one PySem.W.kitx_tuple I.kIn ⟨o,h1,h2⟩ e (fun z=>nomatch z) h
 |@dK a kvs ea=>
  cases(show u=Value.ref a from d);obtain⟨_,_,vs,_,p⟩:=(show zad X.prog X.w H s.heap a (.dK kvs) from I.hok a _ ea);obtain⟨o,es,ep,h1,h2,_⟩:=p;exact PySem.W.kia_one PySem.W.kitx_dict I.kIn ⟨o,h1,h2.1⟩ e (fun z=>nomatch z) h
 |@dT a kvs ea=>
  cases(show u=Value.ref a from d);obtain⟨_,_,xs,_,o,es,ep,h1,h2,_⟩:=(show zad X.prog X.w H s.heap a (.dT kvs) from I.hok a _ ea);exact PySem.W.kia_one PySem.W.kitx_dict I.kIn ⟨o,h1,h2.1⟩ e (fun z=>nomatch z) h
 |@ins a C dx fs ea cl ha hn pc hm=>
  cases(show u=Value.ref a from d);obtain⟨mA,O,_⟩:=KO I.hok ea;obtain⟨f,J,_⟩:=O.look;exact PySem.W.kia_one (PySem.W.kitx_own (cl.get _) cl.hd ha hn pc hm) I.kIn J e (fun z=>nomatch z) h
end
structure Room(k:Nat)(A:Around):Prop where
 hd:A.handled=none
 dp:A.depth+3*k+5<recursionLimit
 un:A.units+16*k+200<cLine
def Room.mono{j k:Nat}{A:Around}(r:Room k A)(h:j<=k):Room j A:=⟨r.hd,by have:=r.dp;(first|lia|omega),by have:=r.un;(first|lia|omega)⟩
def Room.deeper{k:Nat}{A:Around}(r:Room (k+1) A)(env:Env):Room k (A.deeper env):=
 ⟨r.hd,by have:=r.dp;show A.depth+1+3*k+5<_;(first|lia|omega),by have:=r.un;show A.units+3+16*k+200<_;(first|lia|omega)⟩
def Room.in1{k:Nat}{A:Around}(r:Room (k+1) A):Room k A.in1:=
 ⟨r.hd,by have:=r.dp;show A.depth+3*k+5<_;(first|lia|omega),by have:=r.un;show A.units+1+16*k+200<_;(first|lia|omega)⟩
def Room.depth{k:Nat}{A:Around}(r:Room k A):A.depth<recursionLimit:=by have:=r.dp;(first|lia|omega)
def Room.units{k:Nat}{A:Around}(r:Room k A):A.units+64<cLine:=by have:=r.un;(first|lia|omega)
def bB:TA:=fun _ H Q=>Q [] H
def zX(ta:TE)(a:TA):TA:=fun σ H Q=>ta σ H fun x H1=>a σ H1 fun xs H2=>Q (x::xs) H2
section
variable{X:Cx}{e:Expr}{es:List Expr}{te:TE}{t:TA}{pos:Pos}
def zb:PA X [] bB:=fun _ _ _ _ H Q I h=>Calls.spliced_nil ⟨[],H,I,.nil,h⟩
def za(g:PE X e te)(hr:PA X es t)(i:starEach (e::es) X.env=(false,eval e X.env)::starEach es X.env:=by rfl):PA X (e::es) (zX te t):=by
 intro pos aa s σ H Q I h;rw[i];show wpAny _ _ (spliced ((false,eval e X.env)::backTo pos (starEach es X.env))) _ _ s;refine Calls.spliced_cons (aY (g aa s σ H _ I h) fun u a ⟨x,H1,j,b,c⟩=>?_);exact aY (hr pos aa a σ H1 _ j c) fun us o ⟨xs,H2,l,d,f⟩=>⟨x::xs,H2,l,.cons b d,f⟩
def DM(t:TA):TE:=fun σ H Q=>t σ H fun xs H1=>xs.length<=sizeLine/\∀p,H1 p=none->Q (.ref p) (upd H1 p (.tup xs))
def DN(t:TA):TE:=fun σ H Q=>t σ H fun xs H1=>xs.length<=sizeLine/\∀p,H1 p=none->Q (.ref p) (upd H1 p (.lst xs))
def im{x1}(h:PA X es t):PE X (.Tuple es x1 pos) (DM t):=by
 intro aa s σ H Q I hq;refine wpAny_Tuple_spliced (aY (h pos aa s σ H _ I hq) fun us a ⟨xs,H1,I1,r,z,q⟩=>⟨by rw[<-r.length];exact z,?_⟩);have c:H1 a⁻¹=none:=I1.hok.fresh (Ad _);refine⟨.ref a⁻¹,upd H1 a⁻¹ (.tup xs),I1.laid (t':=a.toks) (fun b u e=>Ai _ e) (Ad _) ?_,rfl,q _ c⟩;exact⟨z,us,r,⟨_,AH _ rfl,rfl,_,rfl⟩⟩
def eX(h:PA X es t):PE X (.List es pos) (DN t):=by
 intro aa s σ H Q I hq;refine wpAny_List_spliced (aY (h pos aa s σ H _ I hq) fun us a ⟨xs,H1,I1,r,z,q⟩=>⟨by rw[<-r.length];exact z,?_⟩);have c:H1 a⁻¹=none:=I1.hok.fresh (Ad _);refine⟨.ref a⁻¹,upd H1 a⁻¹ (.lst xs),I1.laid (t':=a.toks) (fun b u e=>Ai _ e) (Ad _) ?_,rfl,q _ c⟩;exact⟨z,us,0,r,AH _ rfl⟩
end
abbrev Sp:=List V->Hp->VK->XK->Prop
abbrev f':=List Env->Hp->Shared->XK->Ω
structure Env0(P:Program)(w:World)(K:Af)(mg:Str->Option Value)(base:Heap)(A:Around)(outer:List Env)(s:Shared)(H:Hp):Prop where
 frames:A.frames=some outer
 mod:Mod K mg base
 bs:∀b o,base.get? b=some o->s.heap.get? b=some o/\H b=none
 bsz:base.objs.size<=s⁻¹
 funs:s.heap.FunFrames base outer
 frf:∀b∈frs outer,H b=none
 hok:HOk P w H s.heap
 bare:AllBare s.gens
def CE(outer:List Env)(P:Program)(w:World)(H:Hp)(s:Shared)(Q:VK)(u:Value)(s':Shared):Prop:=
 ∃v H',s'.os=s.os/\AllBare s'.gens/\Un (frs outer) [] H H' s.heap s'.heap/\HOk P w H' s'.heap/\RelV v u/\Q v H'
def CR(CX:f')(outer:List Env)(P:Program)(w:World)(H:Hp)(s:Shared)(Q:VK)(E:XK)(r:Result)(s':Shared):Prop:=
 match r with
 |.ok (.ret u)=>CE outer P w H s Q u s'
 |.ok _=>False
 |.error e=>CX outer H s E e s'
structure ai(P:Program)(w:World)(K:Af)(mg:Str->Option Value)(base:Heap)(CX:f')(k:Nat)(f:Addr)(fd:FuncData)(ps:List Str)(sp:Sp):Prop where
 len:∀vs H Q E,sp vs H Q E->vs.length=ps.length
 run:∀(A:Around)(outer:List Env)(s:Shared)(H:Hp)(args:Args)(us:List Value)(vs:List V)(Q:VK)(E:XK),Room k A->Env0 P w K mg base A outer s H->BindsTo s fd args (ps.zip us)->Vals vs us->sp vs H Q E->
  codeAny (model P w) A (.call (.ref f) args) (CR CX outer P w H s Q E) s
def Env0.in1{P:Program}{w:World}{K:Af}{mg:Str->Option Value}{base:Heap}{A:Around}{outer:List Env}{s:Shared}{H:Hp}(e:Env0 P w K mg base A outer s H):Env0 P w K mg base A.in1 outer s H:=⟨e.frames,e.mod,e.bs,e.bsz,e.funs,e.frf,e.hok,e.bare⟩
section
variable{X:Cx}{aa:Ψ}{σ:St}{H:Hp}{s s':Shared}
def Inv.env0(I:Inv X aa σ H s):Env0 X.prog X.w X.K X.mg X.base X.A X.stack s H:=
 ⟨I.ok.frames,I.ok.mod,I.bs,Ag I.ok.bsz I.sz,I.stack,I.stkFree,I.hok,I.bare⟩
def Inv.after{Q:VK}{u:Value}(I:Inv X aa σ H s)(h:CE X.stack X.prog X.w H s Q u s'):EP X aa σ Q u s':=by
 obtain⟨v,H',os,a,un,c,r,q⟩:=h;obtain⟨e,g,d,t,f⟩:=s';obtain rfl:f=s.os:=os;exact⟨v,H',I.call (h':=e) (g':=g) (d':=d) (t':=t) (ch:=[]) un c a (fun b z=>absurd z (by simp)),r,q⟩
end
def e8(sp:Sp)(eW:List V)(E:XK)(t:TA):TE:=fun σ H Q=>t σ H fun vs H1=>sp (vs++eW) H1 Q E
def Binds(K:Af)(fd:FuncData)(ps:List Str)(ds:List Value):Prop:=
 ∀(s:Shared)(us:List Value),K.In s.heap->(us++ds).length=ps.length->BindsTo s fd ⟨us,[]⟩ (ps.zip (us++ds))
def Binds.all{K:Af}{fd:FuncData}{ps:List Str}(h:∀us:List Value,us.length=ps.length->bindArgs fd ⟨us,[]⟩=pure (ps.zip us)):Binds K fd ps []:=fun s us _ a=>by
 rw[List.append_nil] at a ⊢;exact .of_eq (h us a)
def eH(CX:f')(X:Cx)(E:XK):Prop:=∀(aa:Ψ)(σ:St)(H:Hp)(s:Shared)(e:Value)(s':Shared),Inv X aa σ H s->CX X.stack H s E e s'->X.xe e s'
section
variable{X:Cx}{CX:f'}{k:Nat}{f C:Addr}{fd:FuncData}{ps:List Str}{sp:Sp}{eW:List V}{ds:List Value}{E:XK}{x m:Str}{p pos bE:Pos}{e o:Expr}{es:List Expr}{ta:TE}{t:TA}
def KP{aa:Ψ}{σ:St}{H:Hp}{s:Shared}{Q:VK}{us:List Value}{vs:List V}(F:ai X.prog X.w X.K X.mg X.base CX k f fd ps sp)(hr:Room k X.A)(hb:Binds X.K fd ps ds)(hd:Vals eW ds)(hx:eH CX X E)(I:Inv X aa σ H s)(r:Vals vs us)(h:sp (vs++eW) H Q E):wpAny (model X.prog X.w) X.A (call (.ref f) us) (EP X aa σ Q) X.xe s:=by
 have a:Vals (vs++eW) (us++ds):=r.append hd;have b:(us++ds).length=ps.length:=by rw[<-a.length];exact F.len _ _ _ _ h
 refine wpAny_call (codeAny_mono (F.run X.A X.stack s H ⟨us,[]⟩ (us++ds) (vs++eW) Q E hr I.env0 (hb s us I.kIn b) a h) fun r s' hq=>?_);cases r with
 |error e=>exact hx aa σ H s e s' I hq
 |ok fl=>
  cases fl with
  |ret u=>exact I.after hq
  |next=>exact False.elim hq
  |brk=>exact False.elim hq
  |cont=>exact False.elim hq
def zf(F:ai X.prog X.w X.K X.mg X.base CX k f fd ps sp)(hr:Room k X.A)(hg:Gl X x)(b:X.mg x=some (.ref f))(hk:PySem.W.keepIn X.K (.ref f)=true)(hb:Binds X.K fd ps ds)(hd:Vals eW ds)(hx:eH CX X E)(c:PA X (e::es) t)(d:(x==("__debug__":Str))=false:=by decide)(g:starEach (e::es) X.env=(false,eval e X.env)::starEach es X.env:=by rfl)(a:(backTo pos (starEach es X.env)).any (·.1)=false:=by rfl):PE X (.Call (.Name x p) (e::es) [] pos) (e8 sp eW E t):=by
 intro aa s σ H Q I h;refine wpAny_Call_Name_kw (Gg I hg b ?_ d);refine PySem.W.callWith_K (h₀:=X.base) I.ok.mod.kin hk (aY (c pos aa s σ H _ I h) fun us i ⟨vs,H1,I1,r,q⟩=>⟨I1.kIn,?_⟩) g a;exact KP F hr hb hd hx I1 r q
end
structure zn(N P:List Str)(sc:Scope):Prop where
 kind:sc.kind=.function
 co:sc.isCoroutine=false
 gen:sc.isGenerator=false
 nd:N.Nodup
 pre:N.take P.length=P
 par:∀x∈P,sc.names.lookup x=some .local\/sc.names.lookup x=some .cell
 nofree:∀y∈sc.names,y.2≠.free
def GB{kindOf:Str->Option NameKind}{x:Str}:∀{binds:List (Str×Value)}{m:Str->Option Value},(∀v,(x,v)∉binds)->bindL kindOf binds m x=m x
 |[],_,_=>rfl
 |(n,v)::r,m,h=>by
  unfold bindL;rw[GB fun w hw=>h w (Ax _ hw)];split
  ·have:x≠n:=by rintro rfl;exact h v Ar
   simp[this]
  ·rfl
def GC{kindOf:Str->Option NameKind}{x:Str}:∀{binds:List (Str×Value)}{m:Str->Option Value},(∀v,(x,v)∉binds)->bindC kindOf binds m x=m x
 |[],_,_=>rfl
 |(n,v)::r,m,h=>by
  unfold bindC;rw[GC fun w hw=>h w (Ax _ hw)];split
  ·rfl
  ·have:x≠n:=by rintro rfl;exact h v Ar
   simp[this]
def GD{kindOf:Str->Option NameKind}{x:Str}{v:Value}:∀{P:List Str}{vs:List Value}{i:Nat}{m:Str->Option Value},P.Nodup->P[i]?=some x->vs[i]?=some v->kindOf x=some .local->
  bindL kindOf (P.zip vs) m x=some v
 |[],_,_,_,_,h,_,_=>by simp at h
 |_::_,[],_,_,_,_,h,_=>by simp at h
 |p::P,w::vs,0,m,nd,h1,h2,hk=>by
  simp at h1 h2;subst h1;subst h2;show bindL kindOf ((p,w)::P.zip vs) m p=_;unfold bindL;rw[GB fun v a=>(List.nodup_cons.mp nd).1 (List.of_mem_zip a).1,if_pos hk];simp
 |p::P,w::vs,i+1,m,nd,h1,h2,hk=>by
  show bindL kindOf ((p,w)::P.zip vs) m x=_;unfold bindL;exact GD (i:=i) (List.nodup_cons.mp nd).2 (by simpa using h1) (by simpa using h2) hk
def GE{kindOf:Str->Option NameKind}{x:Str}{v:Value}:∀{P:List Str}{vs:List Value}{i:Nat}{m:Str->Option Value},P.Nodup->P[i]?=some x->vs[i]?=some v->kindOf x≠some .local->
  bindC kindOf (P.zip vs) m x=some v
 |[],_,_,_,_,h,_,_=>by simp at h
 |_::_,[],_,_,_,_,h,_=>by simp at h
 |p::P,w::vs,0,m,nd,h1,h2,hk=>by
  simp at h1 h2;subst h1;subst h2;show bindC kindOf ((p,w)::P.zip vs) m p=_;unfold bindC;rw[GC fun v a=>(List.nodup_cons.mp nd).1 (List.of_mem_zip a).1,if_neg hk];simp
 |p::P,w::vs,i+1,m,nd,h1,h2,hk=>by
  show bindC kindOf ((p,w)::P.zip vs) m x=_;unfold bindC;exact GE (i:=i) (List.nodup_cons.mp nd).2 (by simpa using h1) (by simpa using h2) hk
noncomputable def start(N:List Str)(vs:List V):St:=vs.map some++Av (N.length-vs.length) none
noncomputable def dU(CX:f')(P:Program)(w:World)(K:Af)(mg:Str->Option Value)(base:Heap)(N:List Str)(a:Str)(scope:Scope)(f:Addr)(b:Value)(A:Around)(outer:List Env)(s:Shared)(H:Hp)(E:XK):Cx where
 prog:=P
 w:=w
 K:=K
 mg:=mg
 base:=base
 A:=A.deeper (envOfC a scope s⁻¹ f b)
 N:=N
 s₀:=s
 H₀:=H
 env:=envOfC a scope s⁻¹ f b
 outer:=outer
 stack:=envOfC a scope s⁻¹ f b::outer
 ex:=[]
 calm:=true
 fn:=fun _=>true
 pn:=[]
 xe:=fun e s'=>wpAny (model P w) (A.deeper (envOfC a scope s⁻¹ f b)) (leaving (envOfC a scope s⁻¹ f b) e) (fun _ c=>CX outer H s E e c) (fun e' c=>CX outer H s E e' c) s'
def GF{sc:Scope}{n:Nat}{x:Str}(h:sc.names.lookup x=some .cell):∃c,(cellsFrom n sc.names []).lookup x=some c:=by
 have q:=PySem.W.cellsFrom_some sc.names n [] (.inl h);exact Option.isSome_iff_exists.mp q
def KQ{CX:f'}{P:Program}{w:World}{K:Af}{mg:Str->Option Value}{base:Heap}{N ps:List Str}{j:Str}{scope:Scope}{f:Addr}{l:Value}{A:Around}{outer:List Env}{s D:Shared}{H:Hp}{E:XK}{us:List Value}{vs:List V}(S:zn N ps scope)(hd:A.handled=none)(d:Env0 P w K mg base A outer s H)(L:vs.length=ps.length)(r:Vals vs us)(x:InCallC s s⁻¹ (bindL (envOfC j scope s⁻¹ f l).kindOf (ps.zip us) fun _=>none) (cellsFrom (s⁻¹+1) scope.names []) (bindC (envOfC j scope s⁻¹ f l).kindOf (ps.zip us) fun _=>none) D):Inv (dU CX P w K mg base N j scope f l A outer s H E) [] (start N vs) H D:=by
 have G:ps.length<=N.length:=by have:=congrArg List.length S.pre;rw[List.length_take] at this;(first|lia|omega)
 obtain⟨h1,tk,rfl,hk⟩:=x.done;have o:∀b:Addr,b∉(dU CX P w K mg base N j scope f l A outer s H E).ex:=fun b z=>absurd (show b∈([]:List Addr) from z) (by simp);refine⟨⟨d.mod,S.kind,rfl,rfl,Ad _,fun y z c h1 h2=>?_,fun y hy=>?_,fun y c _ h=>?_,fun _=>hd,Around.frames_deeper d.frames,.inr ⟨rfl,rfl⟩,fun b z=>absurd z (o b),d.bs,d.bsz,fun b _ _=>o b,fun b z=>absurd z (o b),d.funs,d.frf⟩,
  rfl,d.bare,Un.kept hk,⟨_,x.toInCall.ns,fun i y v h1 h2 J=>?_⟩,fun y c h=>⟨_,x.cell y c h⟩,d.hok.fresh (Ad _),fun y c h=>?_,fun p hp=>absurd (show p∈([]:Ψ) from hp) (by simp),d.hok.kept hk,?_⟩
 ·exact name_of_addr x.apart (PySem.mem_of_lookup h1) (PySem.mem_of_lookup h2)
 ·have hy:scope.names.lookup y=some .cell\/scope.names.lookup y=some .free:=hy
  rcases hy with hy|hy
  ·exact GF hy
  ·exact absurd rfl (S.nofree _ (PySem.mem_of_lookup hy))
 ·exact Nat.le_of_lt (x.above y c (PySem.mem_of_lookup h))
 ·have hi:i<vs.length:=by
   unfold start at h2
   by_cases hi:i<vs.length
   ·exact hi
   ·rw[List.getElem?_append_right (by simpa using hi)] at h2
    rw[List.getElem?_replicate] at h2;split at h2<;>cases h2
  have I:vs[i]?=some v:=by
   unfold start at h2;rw[List.getElem?_append_left (by simpa using hi),Aj] at h2;cases e:vs[i]? with
   |none=>rw[e] at h2;cases h2
   |some a=>rw[e] at h2;cases h2;rfl
  obtain⟨u,C,F⟩:=r.get I;have hp:ps[i]?=some y:=by
   rw[<-S.pre,List.getElem?_take_of_lt ω];exact h1
  have g:ps.Nodup:=by rw[<-S.pre];exact S.nd.sublist (List.take_sublist _ _)
  refine⟨u,F,?_⟩;rcases S.par y (Ak hp) with k|k
  ·exact .inl ⟨k,GD g hp C k⟩
  ·obtain⟨c,e⟩:=GF (n:=s⁻¹+1) k
   refine .inr ⟨.inl k,c,e,?_⟩;have q:=x.cell y c e;rw[GE g hp C (by show scope.names.lookup y≠_;rw[k];decide)] at q;exact q
 ·exact d.hok.fresh (Nat.le_of_lt (x.above y c (PySem.mem_of_lookup h)))
 ·unfold start
  show _=N.length;rw[AU,Aa,List.length_replicate];(first|lia|omega)
def KR{CX:f'}{P:Program}{w:World}{K:Af}{mg:Str->Option Value}{base:Heap}{k:Nat}{f:Addr}{name a:Str}{p:Arguments}{i:List Stmt}{scope:Scope}{z kV C D c ct oc:Value}{F od:Option Addr}{O:Array (Option Value)}{N ps:List Str}{sp:Sp}(lk:K.lookup f=some ⟨oc,od,.func (PySem.W.fnOf name a p i scope z kV C D F c ct),O⟩)(T:PySem.W.codeIn K c a=true)(S:zn N ps scope)(len:∀vs H Q E,sp vs H Q E->vs.length=ps.length)(dz:∀(A:Around)(outer:List Env)(s:Shared)(H:Hp)(vs:List V)(Q:VK)(E:XK),Room k (A.deeper (envOfC a scope s⁻¹ f c))->sp vs H Q E->
   ∃t,PSs (dU CX P w K mg base N a scope f c A outer s H E) i t/\t {nx:=fun _ H'=>Q .non H',rt:=Q} (start N vs) H):
  ai P w K mg base CX (k+1) f (PySem.W.fnOf name a p i scope z kV C D F c ct) ps sp:=by
 refine⟨len,fun A outer s H args us vs Q E hr g hb r G=>?_⟩;have Z:=len _ _ _ _ G;have M:K.In s.heap:=g.mod.kin.keeps fun b o e=>(g.bs b o e).1;have l:s.heap.NoLimit:=g.mod.nolimit.keeps fun b o e=>(g.bs b o e).1;have iN:∀y∈ps.zip us,scope.names.lookup y.1=some .local\/(scope.names.lookup y.1=some .cell/\((cellsFrom (s⁻¹+1) scope.names []).lookup y.1).isSome=true):=fun⟨n,v⟩ hy=>by
  rcases S.par n (List.of_mem_zip hy).1 with q|q
  ·exact .inl q
  ·exact .inr ⟨q,PySem.W.cellsFrom_some _ _ _ (.inl q)⟩
 refine codeAny_call_function hr.depth (M _ _ lk) rfl S.co S.gen rfl (PySem.W.codeRec_of M T) (hb _ _ _ _ ?_);refine wpAny_newFunctionEnv_cells S.kind iN fun env U L x=>?_;subst U;refine⟨l.keeps x.toInCall.keep,codeAny_func ?_⟩;obtain⟨t,Y,hq⟩:=dz A outer s H vs Q E (hr.deeper _) G;have I:Inv (dU CX P w K mg base N a scope f c A outer s H E) [] (start N vs) H L:=KQ S hr.hd g Z r x;refine wpAny_mono (Y [] L (start N vs) H _ I hq) (fun X s' d=>?_) fun e s' d=>d;have fin:∀{h:St}{H':Hp}{v:V}{u:Value},Inv (dU CX P w K mg base N a scope f c A outer s H E) [] h H' s'->RelV v u->Q v H'->CE outer P w H s Q u s':=
  fun{h H' v u} J j q=>⟨v,H',J.os,J.bare,J.base,J.hok,j,q⟩
 cases X with
 |ret u=>
  obtain⟨v,h,H',J,j,q⟩:=d;exact fin J j q
 |next=>
  obtain⟨h,H',J,q⟩:=d;exact fin (v:=V.non) (u:=Value.none) J rfl q
 |brk=>
  obtain⟨_,_,_,q⟩:=d;exact False.elim q
 |cont=>
  obtain⟨_,_,_,q⟩:=d;exact False.elim q
section
variable{X:Cx}{x:Str}{p pos:Pos}{e:Expr}{es:List Expr}{t:TA}{id T:String}{r:List V->Hp->VK->Prop}
def iY(r:List V->Hp->VK->Prop)(t:TA):TE:=fun σ H Q=>t σ H fun vs H1=>r vs H1 Q
def zk(hc:eS X (.builtin id) r)(hg:Gl X x)(f:X.mg x=none)(g:A5 x=some (.builtin id))(i:PA X (e::es) t)(j:x≠"__name__":=by decide)(l:(x==("__debug__":Str))=false:=by decide)
  (o:starEach (e::es) X.env=(false,eval e X.env)::starEach es X.env:=by rfl) (a:(backTo pos (starEach es X.env)).any (·.1)=false:=by rfl):PE X (.Call (.Name x p) (e::es) [] pos) (iY r t):=by
 intro aa s σ H Q I h;refine wpAny_Call_Name_kw (iS I hg f g ?_ j l);exact PyProof.Rows.callWith_builtin1 (aY (i pos aa s σ H _ I h) fun us b ⟨vs,H1,q,c,d⟩=>hc aa b σ H1 vs us Q q c d) o a
def kH(hc:eS X (.type T) r)(hg:Gl X x)(f:X.mg x=none)(g:A5 x=some (.type T))(i:PA X (e::es) t)(j:x≠"__name__":=by decide)(l:(x==("__debug__":Str))=false:=by decide)
  (o:starEach (e::es) X.env=(false,eval e X.env)::starEach es X.env:=by rfl) (a:(backTo pos (starEach es X.env)).any (·.1)=false:=by rfl):PE X (.Call (.Name x p) (e::es) [] pos) (iY r t):=by
 intro aa s σ H Q I h;refine wpAny_Call_Name_kw (iS I hg f g ?_ j l);exact PyProof.Rows.callWith_type1 (aY (i pos aa s σ H _ I h) fun us b ⟨vs,H1,q,c,d⟩=>hc aa b σ H1 vs us Q q c d) o a
end
end L2
namespace HT
open PySem PyProof.Rows
noncomputable def lexLt:List Int->List Int->Bool
 |[],[]=>false
 |[],_::_=>true
 |_::_,[]=>false
 |x::xs,y::ys=>if x=y then lexLt xs ys else decide (x<y)
def ri(x y:Int)(xs ys:List Int):lexLt (x::xs) (y::ys)=if x=y then lexLt xs ys else decide (x<y):=rfl
def KS:lexLt [] []=false:=rfl
section
open PySem.SeqAt
open PySem.AutoSeq1 (wpAny_loadPart')
open PySem.MeetsSeq PySem.MeetsSeq2 PySem.MeetsSeq3
end
section
variable{prog:Program}{w:World}{A:Around}{E:Ω}{s:Shared}
noncomputable def sIx(n d:Nat):Option Int->Nat
 |none=>d
 |some v=>if v<0 then(v+(n:Int)).toNat else min v.toNat n
def GG(n d:Nat):sIx n d none=d:=rfl
def GH(n d k:Nat):sIx n d (some (k:Int))=min k n:=by
 show(if(k:Int)<0 then((k:Int)+(n:Int)).toNat else min (k:Int).toNat n)=min k n;rw[if_neg ω,Int.toNat_natCast]
def KU(n d:Nat)(hd:d<=n)(o:Option Int):sIx n d o<=n:=by
 cases o with
 |none=>exact hd
 |some v=>
  show(if v<0 then(v+(n:Int)).toNat else min v.toNat n)<=n
  by_cases a:v<0
  ·rw[if_pos a];(first|lia|omega)
  ·rw[if_neg a];exact Nat.min_le_right _ _
def GJ(v:Int)(n d:Nat):(if v<0 then max (v+(n:Int)) 0 else min v (n:Int))=((sIx n d (some v):Nat):Int):=by
 show(if v<0 then max (v+(n:Int)) 0 else min v (n:Int))=(((if v<0 then(v+(n:Int)).toNat else min v.toNat n):Nat):Int)
 by_cases a:v<0
 ·simp only[if_pos a];(first|lia|omega)
 ·simp only[if_neg a];(first|lia|omega)
def KW(lo hi:Option Int)(n:Nat):Builtin.Slice.sliceAdjust lo hi 1 (n:Int)=(((sIx n 0 lo:Nat):Int),((sIx n n hi:Nat):Int)):=by
 have h1:¬((1:Int)<0):=ω
 unfold Builtin.Slice.sliceAdjust;simp only[h1,if_false];refine Prod.ext ?_ ?_
 ·cases lo with
  |none=>rfl
  |some v=>exact GJ v n 0
 ·cases hi with
  |none=>rfl
  |some v=>exact GJ v n n
def KY(i j:Nat):Builtin.Slice.slicePlaces (i:Int) (j:Int) 1=j-i:=by
 unfold Builtin.Slice.slicePlaces;have h1:(1:Int)>0:=ω
 simp only[h1,if_true,Int.ediv_one];split<;>(first|lia|omega)
def GK{v:Value}{o:Option Int}{Q:Option Int->Shared->Prop}(p:IsPart v o)(h:Q o s):wpAny (model prog w) A (Builtin.Slice.slicePartIndex v) Q E s:=by
 cases p with
 |none=>exact slicePart_none h
 |int i t=>exact slicePart_int h
def GL{d:Addr}{vl c:Value}{lo hi:Option Int}{n:Nat}{Q:Int×Int×Nat->Shared->Prop}(e:s.heap.IsSliceOf d vl c .none)(pl:IsPart vl lo)(f:IsPart c hi)(h:Q (((sIx n 0 lo:Nat):Int),1,sIx n n hi-sIx n 0 lo) s):wpAny (model prog w) A (Builtin.Slice.sliceApplied (.ref d) (pure (n:Int))) Q E s:=by
 obtain⟨os,a,g,b⟩:=id e;unfold Builtin.Slice.sliceApplied Builtin.Slice.sliceFields;refine Ae (Ae (wpAny_field a b (x:=vl) rfl (Ae (wpAny_field a b (x:=c) rfl (Ae (wpAny_field a b (x:=.none) rfl (An ?_)))))));refine Ae (slicePart_none ?_);show wpAny _ _ (if((1:Int)==0)=true then _ else _) _ _ s;rw[if_neg ξ];refine Ae (GK pl (Ae (GK f (Ae (An ?_)))));show wpAny _ _ (match Builtin.Slice.sliceAdjust lo hi 1 (n:Int) with|(lo,hi)=>pure (lo,(1:Int),Builtin.Slice.slicePlaces lo hi 1)) _ _ s;rw[KW lo hi n];show wpAny _ _ (pure (((sIx n 0 lo:Nat):Int),(1:Int),Builtin.Slice.slicePlaces ((sIx n 0 lo:Nat):Int) ((sIx n n hi:Nat):Int) 1)) _ _ s;rw[KY];exact An h
def KZ(xs:Array Value)(i k:Nat):((Ah k).filterMap fun(m:Nat)=>xs[((i:Int)+(m:Int)*1).toNat]?).toArray=((xs.toList.drop i).take k).toArray:=by
 have e:(fun(m:Nat)=>xs[((i:Int)+(m:Int)*1).toNat]?)=fun m=>xs[i+m]?:=by
  funext m
  have:((i:Int)+(m:Int)*1).toNat=i+m:=ω
  rw[this]
 rw[e];have:=pick_run xs i k;rw[List.filterMap_map] at this;have e2:((fun x=>xs[x]?) ∘ fun x=>i+x)=fun m=>xs[i+m]?:=rfl;rw[e2] at this;rw[this]
def K0{t d:Addr}{a:Array Value}{vl e:Value}{lo hi:Option Int}{Q:Ω}(c:IsTup s.heap t a)(f:s.heap.IsSliceOf d vl e .none)(pl:IsPart vl lo)(o:IsPart e hi)(hw:¬(sIx a.size 0 lo=0/\sIx a.size a.size hi=a.size))(h:Q (.ref s⁻¹) {s with heap:=s.heap.push {cls:=.type "tuple",data:=.seq ((a.toList.drop (sIx a.size 0 lo)).take (sIx a.size a.size hi-sIx a.size 0 lo)).toArray}})(hsz:a.size<=sizeLine):wpAny (model prog w) A (getItem (.ref t) (.ref d)) Q E s:=by
 have b:sizeOk (.seq ((a.toList.drop (sIx a.size 0 lo)).take (sIx a.size a.size hi-sIx a.size 0 lo)).toArray):=by
  show((a.toList.drop (sIx a.size 0 lo)).take (sIx a.size a.size hi-sIx a.size 0 lo)).toArray.size<=sizeLine;rw[Au,List.length_take,List.length_drop,Array.length_toList];(first|lia|omega)
 have r:sIx a.size a.size hi<=a.size:=KU _ _ (Ad _) hi;obtain⟨os,g,i,p⟩:=id f;have j:s.TypeIs (.ref d) "slice":=⟨os,g,i⟩;unfold getItem
 try with_reducible refine wpAny_holding ?_
 first|refine Ae (An ?_)|skip
 refine Ae (wpAny_sequenceKey c.typeIs ξ ?_);refine Ae (wpAny_callSpecial?_slot (name:=Str.ofString "__getitem__") c.typeIs PyProof.Rows.slot_tuple_getitem
  (wpAny_call_entry PyProof.Rows.slot_tuple_getitem c.typeIs entry_tuple_getitem ?_ (args_tuple_getitem _ _)))
 show wpAny _ _ (Builtin.Tuple.tupleItemsOf (.ref t) >>= _) _ _ s;refine Ae (tupleItemsOf_ c ?_);refine Ae (wpAny_typeOf j ?_);rw[if_pos ξ];refine Ae (GL f pl o ?_);have l:¬((((sIx a.size 0 lo:Nat):Int)==0&&(1:Int)==1&&(sIx a.size a.size hi-sIx a.size 0 lo)==a.size)=true):=by
  intro q;rw[AZ,AZ] at q;have u:((sIx a.size 0 lo:Nat):Int)=0:=eq_of_beq q.1.1;have v:sIx a.size a.size hi-sIx a.size 0 lo=a.size:=eq_of_beq q.2;exact hw ⟨ω,ω⟩
 show wpAny _ _ (if(((sIx a.size 0 lo:Nat):Int)==0&&(1:Int)==1&&(sIx a.size a.size hi-sIx a.size 0 lo)==a.size)=true then _ else _) _ _ s;rw[if_neg l,KZ]
 first
  |exact Ae (m:=Builtin.Tuple.tupleExact _) (wpAny_newObj_type (An ⟨_,rfl,An h⟩) b)
  |exact Ae (m:=Builtin.Tuple.tupleExact _) (wpAny_newObj_type (Ae (An (An ⟨_,rfl,An h⟩))) b)
  |exact Ae (Ae (m:=Builtin.Tuple.tupleExact _) (wpAny_newObj_type (An (An ⟨_,rfl,An h⟩)) b))
  |exact Ae (Ae (m:=Builtin.Tuple.tupleExact _) (wpAny_newObj_type (An ⟨_,rfl,An h⟩) b))
end
end HT
namespace L2
open PySem PySem.Spec PyProof.Rows
abbrev TO:=St->Hp->(Option Int->Hp->Prop)->Prop
def PO(X:Cx)(e:Option Expr)(t:TO):Prop:=
 ∀(aa:Ψ)(s:Shared)(σ:St)(H:Hp)(Q:Option Int->Hp->Prop),Inv X aa σ H s->t σ H Q->
  wpAny (model X.prog X.w) X.A (evalPart e X.env) (fun u s'=>∃o H',Inv X aa σ H' s'/\IsPart u o/\Q o H') X.xe s
def DO:TO:=fun _ H Q=>Q none H
def DP(t:TE):TO:=fun σ H Q=>t σ H fun x H1=>∃i,x=.int i/\Q (some i) H1
def intsAre_of{ns:List Int}:∀{us:List Value},Vals (ns.map V.int) us->IntsAre us ns:=by
 induction ns with
 |nil=>intro us r;rw[List.map_nil] at r;cases r;exact .nil
 |cons n ns ih=>
  intro us r;rw[A6] at r;cases r with
  |cons r1 r2=>
   obtain⟨t,e⟩:=r1;subst e;exact .cons n t (ih r2)
section
variable{X:Cx}{e:Expr}{te:TE}{lo hi:Option Expr}{tl th:TO}{pos p2:Pos}
def mO:PO X none DO:=by
 intro aa s σ H Q I h;rw[evalPart_none];exact An ⟨none,H,I,.none,h⟩
def m4(h:PE X e te):PO X (some e) (DP te):=by
 intro aa s σ H Q I hw;rw[evalPart_some];refine aY (h aa s σ H _ I hw) fun u d ⟨x,H1,c,a,b⟩=>?_;obtain⟨i,rfl,q⟩:=b;obtain⟨t,rfl⟩:=a;exact⟨some i,H1,c,.int i t,q⟩
def B'(X:Cx)(r:V->Option Int->Option Int->Hp->VK->Prop):Prop:=
 ∀(aa:Ψ)(s:Shared)(σ:St)(H:Hp)(x:V)(v vl a:Value)(lo hi:Option Int)(b:Addr)(Q:VK),Inv X aa σ H s->RelV x v->s.heap.IsSliceOf b vl a .none->IsPart vl lo->IsPart a hi->r x lo hi H Q->
  ∃T id,typeLookup (.type T) "__getitem__"=pure (some (.builtin id))/\s.TypeIs v T/\wpAny (model X.prog X.w) X.A (getItem v (.ref b)) (EP X aa σ Q) X.xe s
def DQ(r:V->Option Int->Option Int->Hp->VK->Prop)(te:TE)(tl th:TO):TE:=fun σ H Q=>te σ H fun x H1=>tl σ H1 fun l H2=>th σ H2 fun u a=>r x l u a Q
def m7{r:V->Option Int->Option Int->Hp->VK->Prop}(hr:B' X r)(D:PE X e te)(E:PO X lo tl)(F:PO X hi th):PE X (.Subscript e (.Slice lo hi none p2) pos) (DQ r te tl th):=by
 intro aa s σ H Q I h;refine Subscript_ (aY (D aa s σ H _ I h) fun v f ⟨x,H1,G,g,i⟩=>?_);refine wpAny_Slice (aY (E aa f σ H1 _ G i) fun vl j ⟨l,H2,J,pl,o⟩=>aY (F aa j σ H2 _ J o) fun c a ⟨u,d,I3,p,y⟩=>?_);rw[evalPart_none];refine An ?_;have L:Inv X aa σ d {a with heap:=a.heap.push {cls:=.type "slice",data:=.fields #[vl,c,.none]}}:=I3.kept (t':=a.toks) fun b M q=>Ai _ q;obtain⟨T,id,z,C,hg⟩:=hr aa {a with heap:=a.heap.push {cls:=.type "slice",data:=.fields #[vl,c,.none]}} σ d x v vl c l u a⁻¹ Q L g (Heap.IsSliceOf.new ..) pl p y;show wpAny (model X.prog X.w) X.A (subscriptTail e (.Slice lo hi none p2) v (.ref a⁻¹)) (EP X aa σ Q) X.xe {a with heap:=a.heap.push {cls:=.type "slice",data:=.fields #[vl,c,.none]}};exact tail_any (ops:=[.ref a⁻¹,v]) C z hg (by with_unfolding_all rfl)
noncomputable def cz(xs:List V)(lo hi:Option Int):List V:=(xs.drop (HT.sIx xs.length 0 lo)).take (HT.sIx xs.length xs.length hi-HT.sIx xs.length 0 lo)
def GM(xs:List V)(lo hi:Option Int):(cz xs lo hi).length<=xs.length:=by
 unfold cz;rw[List.length_take,List.length_drop];(first|lia|omega)
def DR(K:Af):V->Option Int->Option Int->Hp->VK->Prop:=fun x lo hi H Q=>∃a xs,x=.ref a/\SqT K H a xs/\
 ¬(HT.sIx xs.length 0 lo=0/\HT.sIx xs.length xs.length hi=xs.length)/\∀p,H p=none->Q (.ref p) (upd H p (.tup (cz xs lo hi)))
def K2:B' X (DR X.K):=by
 intro aa s σ H x v vl i lo hi j Q I e f pl g h;obtain⟨a,xs,rfl,hx,hw,q⟩:=h;cases e;obtain⟨ad,r,d,hz⟩:=I.tuple hx;have c:ad.toArray.size=xs.length:=by rw[Au];exact r.length.symm
 refine⟨"tuple",_,PyProof.Rows.slot_tuple_getitem.lookup,d.typeIs,?_⟩;refine HT.K0 d f pl g (by rw[c];exact hw) ?_ (by rw[c];exact hz);rw[c];refine⟨.ref s⁻¹,_,I.laid (t':=s.toks) (o:=.tup (cz xs lo hi)) (fun b l q=>Ai _ q) (Ad _) ?_,rfl,q _ (I.hok.fresh (Ad _))⟩;exact⟨Ag (GM xs lo hi) hz,_,(r.drop (HT.sIx xs.length 0 lo)).take (HT.sIx xs.length xs.length hi-HT.sIx xs.length 0 lo),IsTup.new _ _⟩
end
noncomputable def gt(n:Nat)(i:Int):Option Nat:=if 0<=i then(if i<n then some i.toNat else none) else if -(n:Int)<=i then some (i+n).toNat else none
noncomputable def atI{a:Type}(xs:List a)(i:Int):Option a:=(gt xs.length i).bind fun j=>xs[j]?
def GN{n:Nat}{i:Int}{j:Nat}(h:gt n i=some j):seqIndex? i n=some j/\j<n/\-(n:Int)<=i/\i<n:=by
 unfold gt at h
 by_cases a:0<=i
 ·rw[if_pos a] at h
  by_cases h1:i<n
  ·rw[if_pos h1] at h
   have e:i.toNat=j:=AM h;exact⟨by rw[seqIndex_of a h1,e],ω,ω,h1⟩
  ·rw[if_neg h1] at h;cases h
 ·rw[if_neg a] at h
  by_cases h1:-(n:Int)<=i
  ·rw[if_pos h1] at h
   have e:(i+n).toNat=j:=AM h;exact⟨by rw[seqIndex_neg ω h1,e],ω,h1,ω⟩
  ·rw[if_neg h1] at h;cases h
def GO{a:Type}{xs:List a}{i:Int}{v:a}(h:atI xs i=some v):∃j,seqIndex? i xs.length=some j/\xs[j]?=some v/\j<xs.length/\-(xs.length:Int)<=i/\i<xs.length:=by
 unfold atI at h;cases e:gt xs.length i with
 |none=>rw[e] at h;cases h
 |some j=>
  rw[e] at h;obtain⟨h1,h2,b,c⟩:=GN e;exact⟨j,h1,h,h2,b,c⟩
def zi{a:Type}{xs:List a}{j:Nat}{v:a}(h:xs[j]?=some v):atI xs (j:Int)=some v:=by
 have b:j<xs.length:=(List.getElem?_eq_some_iff.mp h).1;have e:gt xs.length (j:Int)=some j:=by
  unfold gt;rw[if_pos ω,if_pos ω];simp
 unfold atI;rw[e];exact h
def K3(b:Expr):Prop:=∀o i,subscripted b false o i=operate [o,i] (getItem o i)
def DS(X:Cx)(r:R2):Prop:=
 ∀(aD slice:Expr)(aa:Ψ)(s:Shared)(σ:St)(H:Hp)(x y:V)(v u:Value)(Q:VK),Inv X aa σ H s->RelV x v->RelV y u->r x y H Q->
  subscripted slice false v u=operate [v,u] (getItem v u)->wpAny (model X.prog X.w) X.A (subscriptTail aD slice v u) (EP X aa σ Q) X.xe s
def DT(X:Cx)(id:String)(r:V->List V->Hp->VK->Prop):Prop:=
 ∀(aa:Ψ)(s:Shared)(σ:St)(H:Hp)(x:V)(xs:List V)(v:Value)(us:List Value)(Q:VK),Inv X aa σ H s->RelV x v->Vals xs us->r x xs H Q->
  wpAny (model X.prog X.w) X.A (call (.builtin id) (v::us)) (EP X aa σ Q) X.xe s
section
variable{X:Cx}{a b:Expr}{ta tb:TE}{pos:Pos}
def zp{r:R2}(hr:DS X r)(f:PE X a ta)(hb:PE X b tb)(g:K3 b):PE X (.Subscript a b pos) (bL r ta tb):=by
 intro aa s σ H Q I h;exact Subscript_ (kw f hb I h fun v u c x y H2 i d e q=>hr a b aa c σ H2 x y v u Q i d e q (g _ _))
def dJ(K:Af):R2:=fun x y H Q=>∃p xs i v,x=.ref p/\y=.int i/\SqL K H p xs/\atI xs i=some v/\Q v H
def ro(K:Af):R2:=fun x y H Q=>∃p xs i v,x=.ref p/\y=.int i/\SqT K H p xs/\atI xs i=some v/\Q v H
def zq:DS X (dJ X.K):=by
 intro aD slice aa s σ H x y v u Q I e f h b;obtain⟨p,xs,i,z,rfl,rfl,hq,g,q⟩:=h;cases e;obtain⟨t,rfl⟩:=f;obtain⟨ad,r,pl,hz⟩:=I.list hq;obtain⟨j,h1,h2,D,l,o⟩:=GO g;obtain⟨w,c,A⟩:=r.get h2;have C:=r.length;have E:=dH;have fin:EP X aa σ Q w s:=⟨z,H,I,A,q⟩
 by_cases d:0<=i
 ·have a:i.toNat=j:=by
   rw[seqIndex_of d o] at h1;exact AM h1
  exact item_listR pl.isList d ω (by rw[a];simpa using c) fin b
 ·have a:(i+(ad.toArray.size:Int)).toNat=j:=by
   rw[seqIndex_neg ω l] at h1;rw[Au,<-C];exact AM h1
  exact subscriptTail_builtinR (x:=w) pl.isList.typeIs slot_list_getitem.lookup
   (wpAny_getItem_list_neg (Q:=fun r s'=>r=w/\EP X aa σ Q r s') pl.isList ω (by rw[Au]<;>(first|lia|omega)) ω (by rw[a];simpa using c) ⟨rfl,fin⟩) b
def zt:DS X (ro X.K):=by
 intro aD slice aa s σ H x y v u Q I a b h c;obtain⟨p,xs,i,z,rfl,rfl,hq,d,q⟩:=h;cases a;obtain⟨t,rfl⟩:=b;obtain⟨ad,r,pl,hz⟩:=I.tuple hq;obtain⟨j,h1,h2,l,o,A⟩:=GO d;obtain⟨w,e,f⟩:=r.get h2;have g:=r.length;have C:=dH;have fin:EP X aa σ Q w s:=⟨z,H,I,f,q⟩;exact subscriptTail_builtinR (x:=w) pl.typeIs slot_tuple_getitem.lookup
  (getItem_tuple (j:=j) (Q:=fun r s'=>r=w/\EP X aa σ Q r s') pl ω ω (by rw[Au,<-g];exact h1) (by simpa using e) ⟨rfl,fin⟩) c
def K4(ad:List Value)(n j:Nat)(u:Value):Obj.mapSeq (·.setIfInBounds j u) {cls:=.type "list",data:=.seq ad.toArray n}={cls:=.type "list",data:=.seq (ad.set j u).toArray n}:=by
 simp[Obj.mapSeq]
noncomputable def Inv.lst{aa:Ψ}{σ:St}{H:Hp}{s:Shared}{p:Addr}{xs:List V}(I:Inv X aa σ H s)(h:H p=some (.lst xs)):∃(ad:List Value)(n:Nat),Vals xs ad/\s.heap.get? p=some {cls:=.type "list",data:=.seq ad.toArray n}/\xs.length<=sizeLine:=by
 obtain⟨z,ad,n,r,e⟩:=I.hok p _ h;exact⟨ad,n,r,e,z⟩
def Inv.lstUpd{aa:Ψ}{σ:St}{H:Hp}{s:Shared}{p:Addr}{xs ys:List V}{ad its':List Value}{n a:Nat}{f:Obj->Obj}(I:Inv X aa σ H s)(h:H p=some (.lst xs))(d:s.heap.get? p=some {cls:=.type "list",data:=.seq ad.toArray n})(c:f {cls:=.type "list",data:=.seq ad.toArray n}={cls:=.type "list",data:=.seq its'.toArray a})(r:Vals ys its')(hz:ys.length<=sizeLine)(t:Nat):Inv X aa σ (upd H p (.lst ys)) {s with heap:=s.heap.update p f,toks:=t}:=by
 have e:(s.heap.update p f).get? p=some {cls:=.type "list",data:=.seq its'.toArray a}:=by
  rw[Heap.get?_update_self f d (by rw[c]<;>rfl),c]
 refine I.write (x:=p) (e:=p) (by rw[h];trivial) (.inl rfl) (fun b u hb q=>(Heap.get?_update_other _ _ (Ne.symm hb)).trans q) ⟨_,e⟩ ?_;exact⟨hz,its',a,r,e⟩
def K5:V->V->V->Hp->(Hp->Prop)->Prop:=fun o i v H Q=>∃p xs k j,o=.ref p/\i=.int k/\H p=some (.lst xs)/\gt xs.length k=some j/\Q (upd H p (.lst (xs.set j v)))
def set_list:qe X K5:=by
 intro aa s σ H o i v y z u Q I g l w h;obtain⟨p,xs,k,j,rfl,rfl,hp,x,q⟩:=h;cases g;obtain⟨t,rfl⟩:=l;obtain⟨ad,n,r,a,hz⟩:=I.lst hp;obtain⟨h1,h2,c,d⟩:=GN x;have b:=r.length;have A:=dH;have f:Inv X aa σ (upd H p (.lst (xs.set j v))) {s with heap:=s.heap.update p (Obj.mapSeq (·.setIfInBounds j u))}:=
  I.lstUpd hp a (K4 ad n j u) (r.set w j) (by rw[List.length_set];exact hz) s.toks
 by_cases e:0<=k
 ·have hk:k.toNat=j:=by
   rw[seqIndex_of e d] at h1;exact AM h1
  exact PySem.W.ki_setAt a e ω (by rw[Au,<-b];exact d) (by rw[hk];exact⟨_,f,q⟩)
 ·have hk:(k+(ad.toArray.size:Int)).toNat=j:=by
   rw[seqIndex_neg ω c] at h1;rw[Au,<-b];exact AM h1
  exact PySem.W.ki_setBack a ω (by rw[Au,<-b];exact c) ω (by rw[hk];exact⟨_,f,q⟩)
def K6(lo hi:Option Int)(n:Nat):(sliceBounds lo hi none n).1=((HT.sIx n 0 lo:Nat):Int)/\(sliceBounds lo hi none n).2.1=((HT.sIx n n hi:Nat):Int)/\(sliceBounds lo hi none n).2.2=1:=by
 refine⟨?_,?_,rfl⟩
 ·cases lo with
  |none=>simp[sliceBounds,HT.sIx]
  |some i=>
   simp only[sliceBounds,HT.sIx,Option.getD_none,show(1:Int)>0 from ξ,if_true]
   by_cases h:i<0
   ·simp only[h,if_true]<;>(first|lia|omega)
   ·simp only[h,if_false]<;>(first|lia|omega)
 ·cases hi with
  |none=>simp[sliceBounds,HT.sIx]
  |some i=>
   simp only[sliceBounds,HT.sIx,Option.getD_none,show(1:Int)>0 from ξ,if_true]
   by_cases h:i<0
   ·simp only[h,if_true]<;>(first|lia|omega)
   ·simp only[h,if_false]<;>(first|lia|omega)
def K7(ad:List Value)(lo hi:Option Int):slicePick ad.toArray lo hi none=((ad.drop (HT.sIx ad.length 0 lo)).take (HT.sIx ad.length ad.length hi-HT.sIx ad.length 0 lo)).toArray:=by
 obtain⟨h1,h2,a⟩:=K6 lo hi ad.toArray.size;unfold slicePick;rw[h1,h2,a];simp only[sliceRange_one,pick_run,Au]<;>rfl
def kJ(K:Af):V->Option Int->Option Int->Hp->VK->Prop:=fun x lo hi H Q=>∃a xs,x=.ref a/\SqL K H a xs/\∀p,H p=none->Q (.ref p) (upd H p (.lst (cz xs lo hi)))
def Ci:B' X (kJ X.K):=by
 intro aa s σ H x v vl i lo hi j Q I d e pl f h;obtain⟨a,xs,rfl,hx,q⟩:=h;cases d;obtain⟨ad,r,c,hz⟩:=I.list hx;have g:=r.length;refine⟨"list",_,slot_list_getitem.lookup,c.isList.typeIs,?_⟩;refine wpAny_getItem_list_slice c.isList e pl f .none (by simp) ?_ (by rw[Au]<;>(first|lia|omega));rw[K7,<-g];refine⟨.ref s⁻¹,_,I.laid (t':=s.toks) (o:=.lst (cz xs lo hi)) (fun b l q=>Ai _ q) (Ad _) ?_,rfl,q _ (I.hok.fresh (Ad _))⟩;exact⟨Ag (GM xs lo hi) hz,_,0,(r.drop (HT.sIx xs.length 0 lo)).take (HT.sIx xs.length xs.length hi-HT.sIx xs.length 0 lo),AH _ rfl⟩
def zj:eS X (.builtin "len") (fun xs H Q=>∃p ys,xs=[.ref p]/\(SqL X.K H p ys\/SqT X.K H p ys)/\Q (.int ys.length) H):=by
 intro aa s σ H xs us Q I r h;obtain⟨p,ys,rfl,hq,q⟩:=h;obtain⟨u,rfl,c⟩:=vals1 r;cases c;have d:=dH;rcases hq with hq|hq
 ·obtain⟨ad,a,pl,hz⟩:=I.list hq
  have b:=a.length;exact Calls.call_len_list pl.isList (by simp only[Au]<;>(first|lia|omega)) ⟨.int ys.length,H,I.tok _,⟨s.toks+1,by rw[Au,b]⟩,q⟩
 ·obtain⟨ad,a,pl,hz⟩:=I.tuple hq
  have b:=a.length;exact len_tuple pl (by simp only[Au]<;>(first|lia|omega)) ⟨.int ys.length,H,I.tok _,⟨s.toks+1,by rw[Au,b]⟩,q⟩
def rq:eS X (.type "list") (fun xs H Q=>∃p ys,xs=[.ref p]/\(SqL X.K H p ys\/SqT X.K H p ys)/\∀l,H l=none->Q (.ref l) (upd H l (.lst ys))):=by
 intro aa s σ H xs us Q I r h;obtain⟨p,ys,rfl,hq,q⟩:=h;obtain⟨u,rfl,f⟩:=vals1 r;cases f;have fin:∀(ad:List Value),Vals ys ad->ys.length<=sizeLine->∀(h':Heap)(c:Nat),(∀b o',s.heap.get? b=some o'->h'.get? b=some o')->
   h'.get? s⁻¹=some {cls:=.type "list",dict:=none,data:=.seq ad.toArray c,slots:=#[]}->EP X aa σ Q (.ref s⁻¹) {s with heap:=h'}:=fun ad a hz h' c kp e=>
  ⟨.ref s⁻¹,_,I.laid (t':=s.toks) kp (Ad _) (show zad X.prog X.w _ h' _ (.lst ys) from⟨hz,ad,c,a,e⟩),rfl,q _ (I.hok.fresh (Ad _))⟩
 rcases hq with hq|hq
 ·obtain⟨ad,a,pl,hz⟩:=I.list hq
  have g:=a.length;obtain⟨o,d,hc,n,hd⟩:=pl.isList;exact call_list_seq p (.inl rfl) d hc hd (fun h' c kp e=>fin ad a hz h' c kp e) (by simp only[Au]<;>(first|lia|omega))
 ·obtain⟨ad,a,pl,hz⟩:=I.tuple hq
  have g:=a.length;obtain⟨o,d,hc,n,hd⟩:=pl;exact call_list_seq p (.inr rfl) d hc hd (fun h' c kp e=>fin ad a hz h' c kp e) (by simp only[Au]<;>(first|lia|omega))
def K8:eS X (.type "tuple") (fun xs H Q=>∃p ys,xs=[.ref p]/\((SqL X.K H p ys/\∀l,H l=none->Q (.ref l) (upd H l (.tup ys)))\/(SqT X.K H p ys/\Q (.ref p) H))):=by
 intro aa s σ H xs us Q I r h;obtain⟨p,ys,rfl,h⟩:=h;obtain⟨u,rfl,c⟩:=vals1 r;cases c;rcases h with ⟨hq,q⟩|⟨hq,q⟩
 ·obtain⟨ad,a,pl,hz⟩:=I.list hq
  have f:=a.length;refine call_tuple_list pl.isList (fun h' kp=>?_) (by simp only[Au]<;>(first|lia|omega));have I1:Inv X aa σ H {s with heap:=h'}:=I.kept (t':=s.toks) kp;have d:Inv X aa σ (upd H h'.objs.size (.tup ys)) {s with heap:=h'.push {cls:=.type "tuple",data:=.seq ad.toArray}}:=
   I1.laid (t':=s.toks) (fun b o e=>Ai _ e) (Ad _) (show zad X.prog X.w _ _ _ (.tup ys) from⟨hz,ad,a,IsTup.new _ _⟩)
  exact⟨.ref h'.objs.size,_,d,rfl,q _ (I1.hok.fresh (Ad _))⟩
 ·obtain⟨ad,a,pl,hz⟩:=I.tuple hq
  exact call_tuple_same pl ⟨.ref p,H,I,rfl,q⟩
def DU(K:Af)(T:String)(x:V)(H:Hp):Prop:=match x with
 |.str _=>T="str"
 |.int _=>T="int"
 |.ref p=>(T="list"/\∃xs,SqL K H p xs)\/(T="tuple"/\∃o,K.lookup p=some o/\o.cls=.type "tuple"/\o.dict=none) \/
   (T="dict"/\((∃kvs,H p=some (.dK kvs))\/∃kvs,H p=some (.dT kvs)))\/(T="set"/\∃S n,H p=some (.set S n))
 |_=>False
def GP{aa:Ψ}{σ:St}{H:Hp}{s:Shared}{T:String}{x:V}{v:Value}(I:Inv X aa σ H s)(r:RelV x v)(ty:DU X.K T x H):s.TypeIs v T/\∀a,v=.ref a->∃b,s.heap.get? a=some b/\b.dict=none:=by
 cases x with
 |str z=>
  obtain⟨t,rfl⟩:=r;cases(show T="str" from ty);exact⟨typeIs_str s z t,fun _ e=>nomatch e⟩
 |int i=>
  obtain⟨t,rfl⟩:=r;cases(show T="int" from ty);exact⟨typeIs_int s i t,fun _ e=>nomatch e⟩
 |ref p=>
  cases r;rcases ty with ⟨rfl,xs,hq⟩|⟨rfl,o,hk,hc,hd⟩|⟨rfl,hk⟩|⟨rfl,S,n,hk⟩
  ·obtain⟨ad,_,pl,_⟩:=I.list hq
   refine⟨pl.isList.typeIs,fun a e=>?_⟩;cases e;obtain⟨o,n,e,c,hd,_⟩:=pl;exact⟨o,e,hd⟩
  ·refine⟨⟨o,I.kIn p o hk,hc⟩,fun a e=>?_⟩
   cases e;exact⟨o,I.kIn _ o hk,hd⟩
  ·have z:∃o,s.heap.get? p=some o/\o.ExactDict:=by
    rcases hk with ⟨kvs,hk⟩|⟨kvs,hk⟩
    ·obtain⟨_,_,_,_,o,_,_,e,ex,_⟩:=I.hok p _ hk
     exact⟨o,e,ex⟩
    ·obtain⟨_,_,_,_,o,_,_,e,ex,_⟩:=I.hok p _ hk
     exact⟨o,e,ex⟩
   obtain⟨o,e,ex⟩:=z;refine⟨⟨o,e,ex.1⟩,fun a e2=>?_⟩;cases e2;exact⟨o,e,ex.2.1⟩
  ·obtain⟨o,_,_,_,e,ex,_⟩:=I.hok p _ hk
   refine⟨⟨o,e,ex.1⟩,fun a e2=>?_⟩;cases e2;exact⟨o,e,ex.2.1⟩
 |_=>exact False.elim ty
def DW(K:Af)(T:String)(r:V->List V->Hp->VK->Prop)(to:TE):TE:=fun σ H Q=>to σ H fun x H1=>DU K T x H1/\r x [] H1 Q
def K9(K:Af)(T:String)(r:V->List V->Hp->VK->Prop)(to:TE)(t:TA):TE:=fun σ H Q=>to σ H fun x H1=>DU K T x H1/\t σ H1 fun xs H2=>r x xs H2 Q
variable{o e:Expr}{es:List Expr}{to:TE}{t:TA}{name:Str}{bE az:Pos}{T id:String}{r:V->List V->Hp->VK->Prop}
def K_(e:PlainAttrs T)(slot:Slot T name id)(f:typeOf (.builtin id)=pure (.type "method_descriptor"))(g:DT X id r)(i:PE X o to)(j:attributeBase o name X.env (eval o X.env)=eval o X.env:=by rfl)(l:(bE.endLine==az.line)=true:=by rfl):PE X (.Call (.Attribute o name bE) [] [] az) (DW X.K T r to):=by
 intro aa s σ H Q I h;refine wpAny_Call_method0_late j l (aY (i aa s σ H _ I h) fun v c ⟨x,H1,b,a,ty,d⟩=>?_);obtain⟨h1,h2⟩:=GP b a ty;exact⟨T,id,e,slot,f,h1,h2,Calls.callWith_builtin rfl (PySem.evalArgs_none (g aa c σ H1 x [] v [] Q b a .nil d))⟩
def m_(p:PlainAttrs T)(slot:Slot T name id)(q:typeOf (.builtin id)=pure (.type "method_descriptor"))(u:DT X id r)(w:PE X o to)(y:PA X (e::es) t)(z:attributeBase o name X.env (eval o X.env)=eval o X.env:=by rfl)
  (A:((backTo az (starEach (e::es) X.env)).all (fun x=>!x.1)&&(backToKw az (keywordEach [] X.env)).all (fun x=>x.1.isSome)
   && decide ((e::es).length+([]:List Keyword).length+(if([]:List Keyword).isEmpty then 0 else 1)<30))=true:=by rfl)
  (C:(bE.endLine==az.line)=true:=by rfl) (D:starEach (e::es) X.env=(false,eval e X.env)::starEach es X.env:=by rfl) (E:(backTo az (starEach es X.env)).any (·.1)=false:=by rfl) :
  PE X (.Call (.Attribute o name bE) (e::es) [] az) (K9 X.K T r to t):=by
 intro aa s σ H Q I h;refine wpAny_Call_method_late z A C rfl (aY (w aa s σ H _ I h) fun v f ⟨x,H1,d,b,ty,g⟩=>?_);obtain⟨h1,h2⟩:=GP d b ty;refine⟨T,id,p,slot,q,h1,h2,?_⟩;have c:=y az aa f σ H1 _ d g;rw[D] at c ⊢;refine Calls.callWith_builtin (by show(false|| (backTo az (starEach es X.env)).any (·.1))=false;rw[E]<;>rfl) (Calls.evalArgs_plain ?_);exact aY c fun us i ⟨vs,H2,F,j,l⟩=>u aa i σ H2 x vs v us Q F b j l
end
def GQ(X:Cx)(id:String)(r:V->List V->Hp->VK->Prop):Prop:=
 ∀(aa:Ψ)(s:Shared)(σ:St)(H:Hp)(x:V)(xs:List V)(v:Value)(us:List Value)(Q:VK),Inv X aa σ H s->RelV x v->Vals xs us->r x xs H Q->
  wpAny (model X.prog X.w) X.A (call (.builtin id) (v::us)) (EP X aa σ Q) X.xe s
def Vals.one{x:V}{us:List Value}(h:Vals [x] us):∃u,us=[u]/\RelV x u:=by
 cases h with|cons r t=>cases t;exact⟨_,rfl,r⟩
def Vals.two{x y:V}{us:List Value}(h:Vals [x,y] us):∃u v,us=[u,v]/\RelV x u/\RelV y v:=by
 cases h with|cons r t=>obtain⟨v,rfl,q⟩:=Vals.one t;exact⟨_,_,rfl,r,q⟩
def Vals.zero:∀{us:List Value},Vals [] us->us=[]
 |_,.nil=>rfl
def Vals.eraseIdx:∀{xs:List V}{us:List Value}(i:Nat),Vals xs us->Vals (xs.eraseIdx i) (us.eraseIdx i)
 |_,_,_,.nil=>.nil
 |_,_,0,.cons _ t=>t
 |_,_,i+1,.cons r t=>.cons r (Vals.eraseIdx i t)
def Vals.rep{xs:List V}{us:List Value}(h:Vals xs us):∀k:Nat,Vals (Av k xs).flatten (Av k us).flatten
 |0=>.nil
 |k+1=>by
  rw[List.replicate_succ,List.replicate_succ,List.flatten_cons,List.flatten_cons];exact Vals.append h (Vals.rep h k)
def foldl_rep(ad:List Value):∀(k:Nat)(acc:List Value),
  List.foldl (fun x1 x2=>x1++x2) acc.toArray (Av k ad.toArray)=(acc++(Av k ad).flatten).toArray
 |0,acc=>by simp
 |k+1,acc=>by
  have e:acc.toArray++ad.toArray=(acc++ad).toArray:=by simp
  have e2:(acc++ad)++(Av k ad).flatten=acc++(Av (k+1) ad).flatten:=by
   rw[List.replicate_succ,List.flatten_cons,List.append_assoc]
  rw[<-e2,<-foldl_rep ad k (acc++ad),<-e,List.replicate_succ,List.foldl_cons]
section
variable{X:Cx}{aa:Ψ}{σ:St}{H:Hp}{s:Shared}{l b:Addr}{xs ys zs:List V}
def Inv.lset{ad its':List Value}{n:Nat}{f:Array Value->Array Value}{t':Nat}(I:Inv X aa σ H s)(b:H l=some (.lst xs))(e:s.heap.get? l=some {cls:=.type "list",data:=.seq ad.toArray n})(c:f ad.toArray=its'.toArray)(d:Vals ys its')(hz:ys.length<=sizeLine):Inv X aa σ (upd H l (.lst ys)) {s with heap:=s.heap.update l (Obj.mapSeq f),toks:=t'}:=by
 have q:=PySem.IsL.update e f;rw[c] at q;refine I.write (x:=l) (e:=l) (by rw[b];exact trivial) (.inl rfl) (fun b' u hb a=>(Heap.get?_update_other s.heap (Obj.mapSeq f) (Ne.symm hb)).trans a) ⟨_,q⟩ ?_;exact⟨hz,its',_,d,q⟩
def Inv.lnew{ad:List Value}{t':Nat}(I:Inv X aa σ H s)(a:Vals ys ad)(hz:ys.length<=sizeLine):Inv X aa σ (upd H s⁻¹ (.lst ys)) {s with heap:=s.heap.push {cls:=.type "list",data:=.seq ad.toArray},toks:=t'}:=
 I.laid (fun _ _ q=>Ai _ q) (Ad _) ⟨hz,ad,0,a,AH _ rfl⟩
def Inv.fresh(I:Inv X aa σ H s):H s⁻¹=none:=I.hok.fresh (Ad _)
def Inv.lstM(I:Inv X aa σ H s)(a:H l=some (.lst xs)):xs.length<=sizeLine/\∃(ad:List Value)(n:Nat),Vals xs ad/\xs.length=ad.length/\s.heap.get? l=some {cls:=.type "list",data:=.seq ad.toArray n}:=by
 obtain⟨z,ad,n,r,e⟩:=I.hok l _ a;exact⟨z,ad,n,r,r.length,e⟩
def K'{n:Nat}(h:n<=sizeLine):Builtin.List.listTooLong n=false:=by
 unfold Builtin.List.listTooLong;exact decide_eq_false ω
end
section
variable{X:Cx}
def zlK:V->List V->Hp->VK->Prop:=fun x vs H Q=>∃l xs y,x=.ref l/\vs=[y]/\H l=some (.lst xs)/\xs.length<sizeLine/\Q .non (upd H l (.lst (xs++[y])))
def kM:GQ X "list.append" zlK:=by
 intro aa s σ H x vs v us Q I b c h;obtain⟨l,xs,y,rfl,rfl,a,hz,q⟩:=h;cases b;obtain⟨u,rfl,d⟩:=c.one;obtain⟨z,ad,n,r,f,e⟩:=I.lstM a;refine call_meets F.slot_list_append ⟨_,e,rfl⟩ F.entry_list_append (F.args_list_append_2 _ _) (PySem.list_append l ad.toArray n u (by rw[Au];(first|lia|omega))) ⟨e,?_⟩;refine⟨.non,_,I.lset (its':=ad++[u]) a e (by simp) (r.append (.cons d .nil)) ?_,rfl,q⟩;rw[AU,List.length_singleton];(first|lia|omega)
def zml:V->List V->Hp->VK->Prop:=fun x vs H Q=>∃l xs,x=.ref l/\vs=[]/\H l=some (.lst xs)/\Q .non (upd H l (.lst []))
def La:GQ X "list.clear" zml:=by
 intro aa s σ H x vs v us Q I b c h;obtain⟨l,xs,rfl,rfl,a,q⟩:=h;cases b;have d:=c.zero;subst d;obtain⟨z,ad,n,r,f,e⟩:=I.lstM a;refine call_meets F.slot_list_clear ⟨_,e,rfl⟩ F.entry_list_clear (F.args_list_clear_1 _) (AutoSeq1.list_clear_list_0 l ad.toArray n (by rw[Au];(first|lia|omega))) ⟨e,?_⟩;exact⟨.non,_,I.lset (its':=[]) (ys:=[]) a e rfl .nil (Aw _),rfl,q⟩
def rv:R2:=fun x y H Q=>∃l b xs zs,x=.ref l/\y=.ref b/\H l=some (.lst xs)/\H b=some (.lst zs)/\xs.length+zs.length<=sizeLine/\∀p,H p=none->Q (.ref p) (upd H p (.lst (xs++zs)))
def Lb:cx X (binaryOp .Add) rv:=by
 intro aa s σ H x y v u Q I c d h;obtain⟨l,b,xs,zs,rfl,rfl,f,g,hz,q⟩:=h;cases c;cases d;obtain⟨z,ad,n,r,o,e⟩:=I.lstM f;obtain⟨p,a,n2,i,w,e2⟩:=I.lstM g;refine PySem.P.add_list e e2 ?_ (by rw[Au,Au];(first|lia|omega));have j:ad.toArray++a.toArray=(ad++a).toArray:=by simp
 rw[j];exact⟨.ref _,_,I.lnew (t':=s.toks) (r.append i) (by rw[AU];(first|lia|omega)),rfl,q _ I.fresh⟩
def DX:R2:=fun x y H Q=>∃l k xs,x=.ref l/\y=.int k/\H l=some (.lst xs)/\-(2 ^ 63)<=k/\k<2 ^ 63/\xs.length*k.toNat<=sizeLine/\
 ∀p,H p=none->Q (.ref p) (upd H p (.lst (Av k.toNat xs).flatten))
def len_rep{a:Type}(xs:List a)(k:Nat):(Av k xs).flatten.length=k*xs.length:=by
 induction k with
 |zero=>simp
 |succ k ih=>rw[List.replicate_succ,List.flatten_cons,AU,ih,Nat.succ_mul,Nat.add_comm]
def DY:cx X (binaryOp .Mult) DX:=by
 intro aa s σ H x y v u Q I g i h;obtain⟨l,k,xs,rfl,rfl,j,h1,h2,hz,q⟩:=h;cases g;obtain⟨t,rfl⟩:=i;obtain⟨z,ad,n,r,o,e⟩:=I.lstM j;have p:ad.toArray.size*k.toNat<=sizeLine:=by rw[Au,<-o];exact hz
 have c:¬ad.toArray.size*k.toNat>(2 ^ 63-1) / 8:=by
  have:(sizeLine:Nat)<=(2 ^ 63-1) / 8:=ξ
  (first|lia|omega)
 have d:¬(!Builtin.List.listFitsIndex k)=true:=by
  rw[fitsIndex_both h1 h2];exact AG
 have b:¬Builtin.List.listTooLong (ad.toArray.size*k.toNat)=true:=by
  rw[K' p];exact AG
 have f:List.foldl (fun x1 x2=>x1++x2) #[] (Av (if ad.toArray.isEmpty=true then 0 else k.toNat) ad.toArray)=(Av k.toNat ad).flatten.toArray:=by
  have w:∀m:Nat,List.foldl (fun x1 x2=>x1++x2) #[] (Av m ad.toArray)=(Av m ad).flatten.toArray:=fun m=>by
   have:=foldl_rep ad m [];rw[List.nil_append] at this;exact this
  rw[w];cases ad with
  |nil=>simp
  |cons a r'=>rw[if_neg (by simp)]
 refine wpAny_binaryOp_repeat_ref (T:="list") (U:="int") ξ ⟨_,e,rfl⟩ (fun s'=>typeIs_int s' k t) noFill_list_mul F.fills_int_mul F.slot_int_rmul repeat_list F.slot_int_index.lookup
  (call_meets F.slot_int_rmul (typeIs_int s k t) F.entry_int_rmul (F.args_int_rmul_2 _ _) (int___rmul___int_list k t l ad.toArray n)
   ⟨e,rfl,⟨_,e,rfl⟩,call_meets F.slot_list_mul ⟨_,e,rfl⟩ F.entry_list_mul (F.args_list_mul_2 _ _) (AutoListH.list___mul___list_int_3 l ad.toArray n k t d c b) ⟨e,?_⟩⟩)
 rw[f];exact⟨.ref _,_,I.lnew (t':=s.toks) (r.rep k.toNat) (by rw[len_rep,Nat.mul_comm];exact hz),rfl,q _ I.fresh⟩
end
section
variable{prog:Program}{w:World}{A:Around}{E:Ω}{s:Shared}
set_option maxRecDepth 100000 in
end
section
variable{κ:Type}[DecidableEq κ]
noncomputable def bQ(kvs:List (κ×V))(k:κ):Option V:=(kvs.find? fun a=>decide (a.1=k)).map (·.2)
noncomputable def putK(kvs:List (κ×V))(k:κ)(v:V):List (κ×V):=
 if(kvs.any fun a=>decide (a.1=k))=true then kvs.map (fun a=>if a.1=k then(a.1,v) else a) else kvs++[(k,v)]
def DZ{p:κ×V}{r:List (κ×V)}{k:κ}(e:p.1=k):bQ (p::r) k=some p.2:=by simp[bQ,List.find?_cons,e]
def D0{p:κ×V}{r:List (κ×V)}{k:κ}(e:¬p.1=k):bQ (p::r) k=bQ r k:=by simp[bQ,List.find?_cons,e]
def GR(k:κ):∀kvs:List (κ×V),(kvs.any fun a=>decide (a.1=k))=(bQ kvs k).isSome
 |[]=>rfl
 |p::r=>by
  rw[List.any_cons]
  by_cases e:p.1=k
  ·simp only[DZ e,decide_eq_true e,Bool.true_or,Option.isSome_some]
  ·rw[D0 e,decide_eq_false e,Bool.false_or];exact GR k r
def GS(kvs:List (κ×V))(k:κ)(v:V):(putK kvs k v).length<=kvs.length+1:=by
 unfold putK;split
 ·rw[Aa];(first|lia|omega)
 ·rw[AU,AN,List.length_nil];(first|lia|omega)
def RelO.isSome_eq{o:Option V}{u:Option Value}(r:RelO o u):o.isSome=u.isSome:=by
 cases o with
 |none=>cases u with
  |none=>rfl
  |some _=>exact(show False from r).elim
 |some _=>cases u with
  |none=>exact(show False from r).elim
  |some _=>rfl
def KV.val{kvs:List (κ×V)}{vs:List (κ×Value)}(r:KV kvs vs)(k:κ):RelO (bQ kvs k) (valueAt vs k):=by
 unfold KV at r
 induction r with
 |nil=>exact True.intro
 |@cons p q ps a h t c=>
  obtain⟨h1,h2⟩:=h
  by_cases e:p.1=k
  ·have e':q.1=k:=h1.symm.trans e
   have b:valueAt (q::a) k=some q.2:=by simp[valueAt,List.find?_cons,e']
   rw[DZ e,b];exact h2
  ·have e':¬q.1=k:=fun z=>e (h1.trans z)
   have b:valueAt (q::a) k=valueAt a k:=by simp[valueAt,List.find?_cons,e']
   rw[D0 e,b];exact c
def KV.any{kvs:List (κ×V)}{vs:List (κ×Value)}(r:KV kvs vs)(k:κ):(kvs.any fun a=>decide (a.1=k))=vs.any fun a=>decide (a.1=k):=by
 unfold KV at r
 induction r with
 |nil=>rfl
 |cons h t ih=>rw[List.any_cons,List.any_cons,ih,h.1]
def KV.repl{kvs:List (κ×V)}{vs:List (κ×Value)}(r:KV kvs vs)(k:κ){y:V}{u:Value}(b:RelV y u):KV (kvs.map fun a=>if a.1=k then(a.1,y) else a) (vs.map fun a=>if a.1=k then(a.1,u) else a):=by
 unfold KV at r ⊢
 induction r with
 |nil=>exact .nil
 |@cons p q ps qs h t ih=>
  rw[A6,A6];refine .cons ?_ ih;obtain⟨h1,h2⟩:=h
  by_cases e:p.1=k
  ·rw[if_pos e,if_pos (h1.symm.trans e)];exact⟨h1,b⟩
  ·rw[if_neg e,if_neg (fun z=>e (h1.trans z))];exact⟨h1,h2⟩
noncomputable def KV.put{kvs:List (κ×V)}{vs:List (κ×Value)}(r:KV kvs vs)(k:κ){y:V}{u:Value}(a:RelV y u):KV (putK kvs k y) (stored vs k u):=by
 unfold putK stored;rw[r.any k]
 by_cases e:(vs.any fun b=>decide (b.1=k))=true
 ·rw[if_pos e,if_pos e];exact r.repl k a
 ·rw[if_neg e,if_neg e];exact Paired.snoc r ⟨rfl,a⟩
def KV.length{kvs:List (κ×V)}{vs:List (κ×Value)}(r:KV kvs vs):kvs.length=vs.length:=Paired.length r
end
def Cj{P:Program}{w:World}{k:Key}{u:Value}(r:RelV (kV k) u):(ey P w).is k u=true:=by
 cases k with
 |inl i=>obtain⟨t,e⟩:=(show ∃t,u=Value.int i t from r);subst e;exact Kl P w i t
 |inr x=>obtain⟨t,e⟩:=(show ∃t,u=Value.str x t from r);subst e;exact Km P w x t
def GT{P:Program}{w:World}:∀{ks:List Key}{us:List Value},Vals (ks.map kV) us->ItemsAre (ey P w) ks us
 |[],_,r=>by rw[List.map_nil] at r;cases r;exact .nil
 |k::ks,_,r=>by
  rw[A6] at r;cases r with
  |cons h t=>exact .cons (Cj h) (GT t)
abbrev KT(H:Hp):List (List Key×V)->List (List Key×Addr×Value)->Prop:=Paired fun p q=>p.1=q.1/\H q.2.1=some (.tup (p.1.map kV))/\RelV p.2 q.2.2
def KT.val{H:Hp}{kvs:List (List Key×V)}{xs:List (List Key×Addr×Value)}(r:KT H kvs xs)(k:List Key):RelO (bQ kvs k) ((atKey xs k).map (·.2)):=by
 induction r with
 |nil=>exact True.intro
 |@cons p q ps a h t c=>
  obtain⟨h1,_,h2⟩:=h
  by_cases e:p.1=k
  ·have e':q.1=k:=h1.symm.trans e
   have b:atKey (q::a) k=some q.2:=by simp[atKey,List.find?_cons,e']
   rw[DZ e,b];exact h2
  ·have e':¬q.1=k:=fun z=>e (h1.trans z)
   have b:atKey (q::a) k=atKey a k:=by simp[atKey,List.find?_cons,e']
   rw[D0 e,b];exact c
def KT.repl{H:Hp}{kvs:List (List Key×V)}{xs:List (List Key×Addr×Value)}(r:KT H kvs xs)(k:List Key){y:V}{u:Value}(c:RelV y u):KT H (kvs.map fun a=>if a.1=k then(a.1,y) else a) (xs.map (putAt k u)):=by
 induction r with
 |nil=>exact .nil
 |@cons p q ps qs h t ih=>
  rw[A6,A6];refine .cons ?_ ih;obtain⟨h1,h2,b⟩:=h;unfold putAt
  by_cases e:p.1=k
  ·rw[if_pos e,if_pos (h1.symm.trans e)];exact⟨h1,h2,c⟩
  ·rw[if_neg e,if_neg (fun z=>e (h1.trans z))];exact⟨h1,h2,b⟩
noncomputable def KT.put{H:Hp}{kvs:List (List Key×V)}{xs:List (List Key×Addr×Value)}(r:KT H kvs xs)(k:List Key){b:Addr}{y:V}{u:Value}(hb:H b=some (.tup (k.map kV)))(a:RelV y u):KT H (putK kvs k y) (storedH xs k b u):=by
 have e:(kvs.any fun c=>decide (c.1=k))=(atKey xs k).isSome:=by
  rw[GR,(r.val k).isSome_eq,Option.isSome_map]
 unfold putK storedH;rw[e]
 by_cases q:(atKey xs k).isSome=true
 ·rw[if_pos q,if_pos q];exact r.repl k a
 ·rw[if_neg q,if_neg q];exact Paired.snoc r ⟨rfl,hb,a⟩
def KT.keeps{H H':Hp}{kvs:List (List Key×V)}{xs:List (List Key×Addr×Value)}(r:KT H kvs xs)(a:∀b ys,H b=some (.tup ys)->H' b=some (.tup ys)):KT H' kvs xs:=
 Paired.mapP r fun _ _ z=>⟨z.1,a _ _ z.2.1,z.2.2⟩
section
variable{P:Program}{w:World}{H:Hp}{h:Heap}{a:Addr}
def GU{u:HO}(ok:HOk P w H h)(e:Rd H a u):zad P w H h a u:=e.ok ok
def Ck{kvs:List (Key×V)}(ok:HOk P w H h)(e:Rd H a (.dK kvs)):kvs.length<=sizeLine/\(a==sysModules)=false/\∃vs,KV kvs vs/\h.DictOf (ey P w) a vs:=
 show zad P w H h a (.dK kvs) from GU ok e
def GV{kvs:List (Key×V)}(ok:HOk P w H h)(e:H a=some (.dK kvs)):kvs.length<=sizeLine/\(a==sysModules)=false/\∃vs,KV kvs vs/\h.DictOf (ey P w) a vs:=Ck ok (.inl e)
def Cm{ks:List Key}(ok:HOk P w H h)(e:H a=some (.tup (ks.map kV))):(tupleKind (ey P w)).is h ks a:=by
 obtain⟨_,ad,r,o,h1,h2,n,b⟩:=(show zad P w H h a (.tup (ks.map kV)) from ok a _ e);exact⟨o,ad.toArray,n,h1,h2,b,by simpa using GT r⟩
def Cn{kvs:List (List Key×V)}(ok:HOk P w H h)(e:Rd H a (.dT kvs)):kvs.length<=sizeLine/\(a==sysModules)=false/\
  ∃xs,KT H kvs xs/\h.DictOfH (tupleKind (ey P w)) a xs:=by
 obtain⟨z,y,xs,r,o,es,ep,h1,h2,b,c,d⟩:=(show zad P w H h a (.dT kvs) from GU ok e);refine⟨z,y,xs,r,o,es,ep,h1,h2,b,c,fun x hx=>?_,d⟩;have all:∀{l:List (List Key×V)}{m:List (List Key×Addr×Value)},KT H l m->∀x∈m,(tupleKind (ey P w)).is h x.1 x.2.1:=by
  intro l m q
  induction q with
  |nil=>intro x hx;exact nomatch hx
  |@cons p q ps qs hq t ih=>
   intro x hx;rcases List.mem_cons.mp hx with e|hx
   ·subst e
    exact Cm ok (by rw[<-hq.1];exact hq.2.1)
   ·exact ih x hx
 exact all r x hx
def Lc{kvs:List (List Key×V)}(ok:HOk P w H h)(e:H a=some (.dT kvs)):kvs.length<=sizeLine/\(a==sysModules)=false/\
  ∃xs,KT H kvs xs/\h.DictOfH (tupleKind (ey P w)) a xs:=Cn ok (.inl e)
end
def DGet(H:Hp)(a:Addr)(y:V)(r:Option V):Prop:=
 (∃kvs k,Rd H a (.dK kvs)/\y=kV k/\r=bQ kvs k)\/∃kvs k b,Rd H a (.dT kvs)/\y=.ref b/\H b=some (.tup (k.map kV))/\r=bQ kvs k
def DPut(H:Hp)(a:Addr)(y v:V)(H':Hp):Prop:=
 (∃kvs k,H a=some (.dK kvs)/\y=kV k/\kvs.length<sizeLine/\H'=upd H a (.dK (putK kvs k v))) \/
 ∃kvs k b,H a=some (.dT kvs)/\y=.ref b/\H b=some (.tup (k.map kV))/\kvs.length<sizeLine/\H'=upd H a (.dT (putK kvs k v))
def DGet.k{H:Hp}{a:Addr}{kvs:List (Key×V)}{k:Key}(e:H a=some (.dK kvs)):DGet H a (kV k) (bQ kvs k):=.inl ⟨kvs,k,.inl e,rfl,rfl⟩
def DGet.t{H:Hp}{a b:Addr}{kvs:List (List Key×V)}{k:List Key}(e:H a=some (.dT kvs))(c:H b=some (.tup (k.map kV))):DGet H a (.ref b) (bQ kvs k):=.inr ⟨kvs,k,b,.inl e,rfl,c,rfl⟩
def DPut.k{H:Hp}{a:Addr}{kvs:List (Key×V)}{k:Key}{v:V}(e:H a=some (.dK kvs))(b:kvs.length<sizeLine):DPut H a (kV k) v (upd H a (.dK (putK kvs k v))):=.inl ⟨kvs,k,e,rfl,b,rfl⟩
def DPut.t{H:Hp}{a b:Addr}{kvs:List (List Key×V)}{k:List Key}{v:V}(e:H a=some (.dT kvs))(c:H b=some (.tup (k.map kV)))(d:kvs.length<sizeLine):DPut H a (.ref b) v (upd H a (.dT (putK kvs k v))):=.inr ⟨kvs,k,b,e,rfl,c,d,rfl⟩
section
variable{X:Cx}{aa:Ψ}{σ:St}{H:Hp}{s:Shared}{a:Addr}{y v:V}{u r:Value}{o:Option V}{A:Around}{E:Ω}
def Inv.big(I:Inv X aa σ H s):sysModules<s⁻¹:=by
 have h:mainGlobals<s⁻¹:=(I.mod.glob.keeps I.bk).lt;exact Nat.lt_trans ξ h
def Ld{Q:Ω}(x:A.units+1<cLine)(I:Inv X aa σ H s)(g:DGet H a y (some v))(j:RelV y u)(h:∀c s',Inv X aa σ H s'->RelV v c->Q c s'):wpAny (model X.prog X.w) A (getItem (.ref a) u) Q E s:=by
 rcases g with ⟨kvs,k,e,d,l⟩|⟨kvs,k,b,e,d,q,l⟩
 ·subst d
  obtain⟨z,hd,vs,f,dd⟩:=Ck I.hok e;obtain⟨c,hw,i⟩:=RelO.some_of (v:=v) (o:=valueAt vs k) (by rw[l];exact f.val k);exact wpAny_getItem_of (Cj j) dd.mapOf hw (h c _ (I.tok _) i)
 ·subst d
  cases(show u=Value.ref b from j);obtain⟨z,hd,xs,f,dd⟩:=Cn I.hok e;obtain⟨c,hw,i⟩:=RelO.some_of (v:=v) (o:=(atKey xs k).map (·.2)) (by rw[l];exact f.val k);obtain⟨p,hp,r⟩:=Option.map_eq_some_iff.mp hw;refine wpAny_getItem_heap (tupleKind_room_in1 x) (Cm I.hok q) dd hp ?_;rw[r];exact h c _ (I.tok _) i
def D3{Q:Ω}(j:A.units+1<cLine)(I:Inv X aa σ H s)(g:DGet H a y o)(f:RelV y u)(h:∀s',Inv X aa σ H s'->Q (.bool o.isSome) s'):wpAny (model X.prog X.w) A (compareOp .In u (.ref a)) Q E s:=by
 rcases g with ⟨kvs,k,e,c,l⟩|⟨kvs,k,b,e,c,i,l⟩
 ·subst c
  obtain⟨z,hd,vs,d,dd⟩:=Ck I.hok e;refine wpAny_in_of (Cj f) hd dd.mapOf ?_;rw[<-(d.val k).isSome_eq,<-l];exact h _ (I.tok _)
 ·subst c
  cases(show u=Value.ref b from f);obtain⟨z,hd,xs,d,dd⟩:=Cn I.hok e;refine wpAny_in_heap (tupleKind_room_in1 j) (Cm I.hok i) hd dd ?_;have q:=(d.val k).isSome_eq;rw[Option.isSome_map] at q;rw[<-q,<-l];exact h _ (I.tok _)
def GW{h':Heap}{t':Nat}{c:HO}(I:Inv X aa σ H s)(mu:pV (H a))(d:Heap.SameBut a s.heap h')(f:∃q,h'.get? a=some q)(new:zad X.prog X.w (upd H a c) h' a c):Inv X aa σ (upd H a c) {s with heap:=h',toks:=t'}:=
 I.write (x:=a) (e:=a) mu (.inl rfl) (fun b q hb z=>(d.2 b hb).trans z) f new
def dk_new{P:Program}{w:World}{H':Hp}{h':Heap}{kvs:List (Key×V)}{vs:List (Key×Value)}(z:kvs.length<=sizeLine)(hd:(a==sysModules)=false)(b:KV kvs vs)(dd:h'.DictOf (ey P w) a vs):zad P w H' h' a (.dK kvs):=⟨z,hd,vs,b,dd⟩
def Le{H':Hp}{Q:Unit->Shared->Prop}(N:A.units+1<cLine)(I:Inv X aa σ H s)(g:DPut H a y v H')(F:RelV y u)(x:RelV v r)(h:∀s',Inv X aa σ H' s'->Q () s'):wpAny (model X.prog X.w) A (setItem (.ref a) u r) Q E s:=by
 rcases g with ⟨kvs,k,e,o,l,p⟩|⟨kvs,k,b,e,o,C,l,p⟩
 ·subst o p
  obtain⟨z,hd,vs,d,dd⟩:=GV I.hok e;have hz:vs.length<=sizeLine:=by rw[<-d.length];exact z
  have j:(putK kvs k v).length<=sizeLine:=by have:=GS kvs k v;(first|lia|omega)
  refine wpAny_setItem_pairs (hsz:=hz) (Cj F) dd fun h' f i=>h _ ?_;have G:∃q,h'.get? a=some q:=let ⟨q,_,_,hq,_⟩:=f;⟨q,hq⟩;exact GW I (by rw[e];exact True.intro) i G (dk_new j hd (d.put k x) f)
 ·subst o p
  cases(show u=Value.ref b from F);obtain⟨z,hd,xs,d,dd⟩:=Lc I.hok e;have hz:xs.length<=sizeLine:=by rw[<-Paired.length d];exact z
  have j:(putK kvs k v).length<=sizeLine:=by have:=GS kvs k v;(first|lia|omega)
  refine wpAny_setItem_heap (hsz:=hz) (tupleKind_room_in1 N) (Cm I.hok C) dd fun h' f i=>h _ ?_;obtain⟨q,es,ep,hq,h2,J,L,_,M⟩:=f;refine GW I (by rw[e];exact True.intro) i ⟨q,hq⟩ ⟨j,hd,_,(d.put k C x).keeps fun c ys D=>?_,q,es,ep,hq,h2,J,L,M⟩;rw[af (Dx D e (fun z=>nomatch z))];exact D
end
def rx(i:Expr):Prop:=∀a b,subscripted i false a b=operate [a,b] (getItem a b)
def Lf{prog:Program}{w:World}{A:Around}{E:Ω}{s:Shared}{env:Env}{aD slice:Expr}{pos:Pos}{T id:String}{Q:Ω}(j:typeLookup (.type T) "__getitem__"=pure (some (.builtin id)))(l:rx slice)(h:wpAny (model prog w) A (eval aD env) (fun o c=>wpAny (model prog w) A (eval slice env) (fun i a=>a.TypeIs o T/\wpAny (model prog w) A (getItem o i) Q E a) E c) E s):wpAny (model prog w) A (eval (.Subscript aD slice pos) env) Q E s:=by
 refine Subscript_ (wpAny_mono h (fun o c f=>wpAny_mono f (fun i a b=>?_) fun _ _ x=>x) fun _ _ x=>x);obtain⟨e,b⟩:=b;unfold subscriptTail;refine Ae ?_;rw[getitemInPython_of_ne e.not_modules];refine Ae (wpAny_specialOf e j ?_);have fin:wpAny (model prog w) A (subscripted slice false o i) (fun r d=>wpAny (model prog w) A (letTemporaryGo aD o r >>= fun _=>pure r) Q E d) E a:=by
  rw[l o i];exact wpAny_operating (wpAny_mono b (fun r d g=>Ae (wpAny_letTemporaryGo (An g))) fun _ _ x=>x)
 first
  |exact An (Ae fin)
  |exact Ae (An (Ae fin))
  |exact Ae fin
def Lg{X:Cx}{aa:Ψ}{σ:St}{H:Hp}{s:Shared}{a:Addr}{y:V}{o:Option V}(I:Inv X aa σ H s)(g:DGet H a y o):s.TypeIs (.ref a) "dict":=by
 rcases g with ⟨kvs,k,e,_,_⟩|⟨kvs,k,b,e,_,_,_⟩
 ·obtain⟨_,_,vs,_,dd⟩:=Ck I.hok e
  exact dd.typeIs
 ·obtain⟨_,_,xs,_,dd⟩:=Cn I.hok e
  exact dd.typeIs
def Lh(td ty:TE):TE:=fun σ H Q=>td σ H fun x H1=>ty σ H1 fun y H2=>∃a v,x=.ref a/\DGet H2 a y (some v)/\Q v H2
def D4(ty td:TE):TE:=fun σ H Q=>ty σ H fun y H1=>td σ H1 fun x H2=>∃a o,x=.ref a/\DGet H2 a y o/\Q (.bl o.isSome) H2
def Li(td ty tv:TE):TS:=fun D σ H=>tv σ H fun v H1=>td σ H1 fun x H2=>ty σ H2 fun y c=>∃a b,x=.ref a/\DPut c a y v b/\D.nx σ b
section
variable{X:Cx}{o i e aD:Expr}{pos aE cF:Pos}{td ty tv:TE}
def kO(p:X.A.units+1<cLine)(q:PE X o td)(hi:PE X i ty)(r:rx i):PE X (.Subscript o i pos) (Lh td ty):=by
 intro aa s σ H Q I h;refine Lf PySem.F.slot_dict_getitem.lookup r (aY (q aa s σ H _ I h) fun u c ⟨x,H1,w,d,e⟩=>aY (hi aa c σ H1 _ w e) fun C D ⟨y,H2,b,f,a,v,ex,g,j⟩=>?_);subst ex;obtain rfl:u=Value.ref a:=d;exact⟨Lg b g,Ld p b g f fun E G z l=>⟨v,H2,z,l,j⟩⟩
def Lj(l:X.A.units+1<cLine)(hi:PE X i ty)(p:PE X o td):PC X .In i o (D4 ty td):=by
 intro aa s σ H Q I h;refine aY (hi aa s σ H _ I h) fun w b ⟨y,H1,q,c,d⟩=>aY (p aa b σ H1 _ q d) fun u z ⟨x,H2,r,e,a,f,ex,g,j⟩=>?_;subst ex;obtain rfl:u=Value.ref a:=e;exact D3 l r g c fun C v=>⟨.bl f.isSome,H2,v,rfl,j⟩
def D6(q:X.A.units+1<cLine)(w:PE X o td)(hi:PE X i ty)(z:PE X aD tv)(C:swapsWith aD (some (.Subscript o i aE)) pos.line X.env=pure false):PS X (.Assign [.Subscript o i aE] aD pos) (Li td ty tv):=by
 intro aa s σ H D I h;refine wpAny_Assign_Subscript (aY (z aa s σ H _ I h) fun r b ⟨v,H1,E,c,d⟩=>aY (w aa b σ H1 _ E d) fun u e ⟨x,H2,F,f,j⟩=>aY (hi aa e σ H2 _ F j) fun M N ⟨y,P,G,l,a,J,ex,g,p⟩=>?_) C;subst ex;obtain rfl:u=Value.ref a:=f;exact Le q G g l c fun O L=>⟨σ,J,L,p⟩
end
def Lk{P:Program}{w:World}{H:Hp}(h:Heap)(hb:sysModules<h.objs.size):zad P w H (h.push {cls:=.type "dict",data:=.dict #[]}) h.objs.size (.dK []):=
 ⟨Aw _,beq_eq_false_iff_ne.mpr (Ne.symm (AB hb)),[],.nil,Heap.DictOf.new h⟩
def Ll:TE:=fun _ H Q=>∀p,H p=none->Q (.ref p) (upd H p (.dK []))
section
variable{X:Cx}{pos:Pos}
def Lm:PE X (.Dict [] [] pos) Ll:=fun aa s σ H Q I h=>
 wpAny_Dict_empty ⟨.ref s⁻¹,_,I.laid (a:=s⁻¹) (o:=.dK []) (t':=s.toks) (fun _ _ q=>Ai _ q) (Ad _) (Lk s.heap I.big),rfl,h _ (I.hok.fresh (Ad _))⟩
end
structure M1(X:Cx)(o:Expr)(m:Str)(bE:Pos)(e:Expr)(az:Pos):Prop where
 base:attributeBase o m X.env (eval o X.env)=eval o X.env
 few:((backTo az (starEach [e] X.env)).all (fun x=>!x.1)&&(backToKw az (keywordEach [] X.env)).all (fun x=>x.1.isSome)
  && decide (([e]:List Expr).length+([]:List Keyword).length+(if([]:List Keyword).isEmpty then 0 else 1)<30))=true
 line:(bE.endLine==az.line)=true
 trees:backTo az (starEach [e] X.env)=[(false,eval e X.env)]
structure M2(X:Cx)(o:Expr)(m:Str)(bE:Pos)(e f:Expr)(az:Pos):Prop where
 base:attributeBase o m X.env (eval o X.env)=eval o X.env
 few:((backTo az (starEach [e,f] X.env)).all (fun x=>!x.1)&&(backToKw az (keywordEach [] X.env)).all (fun x=>x.1.isSome)
  && decide (([e,f]:List Expr).length+([]:List Keyword).length+(if([]:List Keyword).isEmpty then 0 else 1)<30))=true
 line:(bE.endLine==az.line)=true
 trees:backTo az (starEach [e,f] X.env)=[(false,eval e X.env),(false,eval f X.env)]
def IsD(H:Hp)(a:Addr):Prop:=(∃kvs,Rd H a (.dK kvs))\/∃kvs,Rd H a (.dT kvs)
end L2
namespace Att
open PySem PySem.W PySem.Calls PyProof.Rows
def Ln{P:Params}{h:Heap}:∀(ns:List Int)(vs:List Value),WellAll P h vs (ns.map WData.int)->IntsAre vs ns:=by
 intro ns
 induction ns with
 |nil=>
  intro vs w;rw[List.map_nil] at w;cases w;exact .nil
 |cons n ns ih=>
  intro vs w;rw[A6] at w;cases w with
  |cons a b=>
   cases a;exact .cons _ _ (ih _ b)
def Lo{l:OpenLaw}{n:Nat}(p:l.most=some n){P:Params}{h:Heap}{args:List WData}{f:List Value}(g:l.row.toRowW.claim.pre args=true)(s:WellAll P h f args):∃a vs ns,f=[Value.ref a]/\args=[WData.list (ns.map WData.int)]/\h.get? a=some {cls:=.type "list",data:=.seq vs.toArray}/\IntsAre vs ns/\ns.length<=n:=by
 have e:WShape.hasAll [] args [.list .int]=true:=(pre_splitW g).1;have hc:l.pre.holds [] {args:=args}=true:=(pre_splitW g).2;obtain⟨d,r,rfl,h1,h2⟩:=hasAllW_cons e;obtain rfl:=hasAllW_nil h2;obtain⟨xs,rfl,i⟩:=hasW_list h1;obtain⟨ns,rfl⟩:=items_int i;have j:ns.length<=n:=by
  unfold OpenLaw.pre at hc;have b:(WTm.not (.lt (.lit (.int (n:Int))) (.len (.arg 0)))).holds [] {args:=[.list (ns.map .int)]}=true:=by
   have b:=(holds_andW hc).1;rw[p] at b;exact b
  have c:=condW_of b (w_not (w_lt w_lit (w_len_list (w_arg rfl))));rw[Aa] at c;refine Nat.le_of_not_lt fun q=>?_;have o:(n:Int)<((ns.length:Nat):Int):=ω
  first
   |(rw[decide_eq_true o] at c;exact absurd c ξ)
   |(simp at c;(first|lia|omega))
 cases s with
 |cons w1 w2=>
  cases w2;cases w1 with
  |list ho hall=>exact⟨_,_,ns,rfl,rfl,ho,Ln ns _ hall,j⟩
def Lp(l:OpenLaw)(args:List WData):l.row.toRowW.claim.post args (.bool true) args=true:=
 postW_of (r:=l.row.toRowW) (X:=(true==true))
  (show WShape.has [] (.bool true) .bool=true by first|rfl|decide|simp[WShape.has,WShape.arms,WShape.armsAll])
  (show(WTm.eq .res (.lit (.bool true))).value [] {args:=args,res:=some (.bool true),after:=args}=some (.bool (true==true)) from w_eq_bool (w_res rfl) w_lit) rfl
def Lq{l:OpenLaw}{n:Nat}{q:Program}{j:List Str}{p:(Str->Option Value)->Heap->Prop}{s:World->Heap->Prop}{d:DefRec}(J:l.most=some n)(L:d.params.defaults=[])(call:∀(w:World)(s₀ b:Shared)(mg e:Str->Option Value)(fa:Addr)(o:Obj)(g c h:Value)(a:Addr)(vs:List Value)(ns:List Int),
   Ground q j [] p w s₀ mg e b.heap->s w b.heap->
   b.heap.get? fa=some o->o.data=.func (docDef d.name d.params d.body d.scope g c h)->b.heap.CodeRec c d.name->mg d.name=some (.ref fa)->
   b.heap.get? a=some {cls:=.type "list",data:=.seq vs.toArray}->IntsAre vs ns->ns.length<=n->b.gens=#[]->
   codeAny (model l.prog w) callerA (.call (.ref fa) ⟨[.ref a],[]⟩) (fun r s'=>r=.ok (.ret (.bool true))/\OldK b.heap s'.heap/\s'.os=b.os/\AllBare s'.gens) b):
  WalkO q j p s l.row.toRowW d [] (fun f vs=>PySem.call f vs):=by
 intro w s₀ b mg e G Y fa o g c h u kV v hd x i y hg args M N z O P A Q;obtain rfl:u=.none:=Dflts.none i L;obtain rfl:kV=.none:=Dflts.noKw i;obtain⟨a,vs,ns,rfl,rfl,D,E,F⟩:=Lo J z A;refine enter_call (codeAny_mono (call w s₀ b mg e fa o g c h a vs ns G Y v (fd_plain hd) x y D E F hg) fun r s' hq=>?_);obtain⟨rfl,h2,H,I⟩:=hq;exact⟨.inl ⟨.bool true,.bool true,[],rfl,fun _=>rfl,.bool true,Lp l _,fun _=>⟨List.Pairwise.nil,fun _ C=>(nomatch C)⟩⟩,h2,H,I⟩
end Att
namespace L2
open PySem PySem.Spec PyProof.Rows
def GX:∀{vs:List Value}{ns:List Int},IntsAre vs ns->Vals (ns.map V.int) vs
 |_,_,.nil=>.nil
 |_,_,.cons n t h=>.cons ⟨t,rfl⟩ (GX h)
def kS(H:Hp):Prop:=∀b,H b=none\/∃o xs,H b=some (.frz o (.lst xs))
def Lr{P:Program}{w:World}{K:Af}{mg p:Str->Option Value}{CX:f'}{k:Nat}{fa a:Addr}{fd:FuncData}{x:Str}{sp:Sp}{c:Shared}{vs:List Value}{ns:List Int}(L:K.In c.heap)(I:c.heap.Ns mainGlobals mg)(hb:c.heap.Ns builtinsNs p)(ej:∀x:Str,x≠"__name__"->p x=A5 x)(lW:c.heap.NoLimit)(hg:c.gens=#[])(l:c.heap.get? a=some {cls:=.type "list",data:=.seq vs.toArray})(hi:IntsAre vs ns)(J:ns.length<=sizeLine)(hr:Room k callerA)(F:∀base:Heap,K.In base->base.Ns mainGlobals mg->ai P w K mg base CX k fa fd [x] sp)(jd:∀(s:Shared)(u:Value),BindsTo s fd ⟨[u],[]⟩ [(x,u)])(fh:∀H:Hp,kS H->SqL K H a (ns.map V.int)->sp [.ref a] H (fun v _=>v=.bl true) fun _ _ _=>False)(kK:∀H e s',CX [] H c (fun _ _ _=>False) e s'->False):codeAny (model P w) callerA (.call (.ref fa) ⟨[.ref a],[]⟩) (fun r s'=>r=.ok (.ret (.bool true))/\OldK c.heap s'.heap/\s'.os=c.os/\AllBare s'.gens) c:=by
 have C:=GX hi;have T:=hi.length;have D:∀H:Hp,kS H->SqL K H a (ns.map V.int)->HOk P w H c.heap->(∀b,H b≠none->b=a)->(H a≠none->K.lookup a=none)->
   codeAny (model P w) callerA (.call (.ref fa) ⟨[.ref a],[]⟩) (fun r s'=>r=.ok (.ret (.bool true))/\OldK c.heap s'.heap/\s'.os=c.os/\AllBare s'.gens) c:=by
  intro H y M g A N;have E:∀{b:Addr}{o:Obj},c.heap.get? b=some o->H b=none->(dF c.heap H).get? b=some o:=fun e n=>Ko e n;have U:∀{b:Addr}{o:Obj}{es:Array DictEntry}{ep:Nat},c.heap.get? b=some o->o.data=.dict es ep->H b=none:=fun{b o es ep} e d=>by
   cases q:H b with
   |none=>rfl
   |some u=>
    have e':b=a:=A b (by rw[q];simp);subst e';rw[l] at e;cases e;have d':Data.seq vs.toArray _=Data.dict es ep:=d;cases d'
  have f:∀{b:Addr}{m:Str->Option Value},c.heap.Ns b m->(dF c.heap H).Ns b m:=fun{b m} ⟨o,es,ep,e,d,r⟩=>⟨o,es,ep,E e (U e d),d,r⟩;have G:K.In (dF c.heap H):=fun b o e=>E (L b o e) (by
   cases q:H b with
   |none=>rfl
   |some u=>
    have e':b=a:=A b (by rw[q];simp);subst e';rw[N (by rw[q];simp)] at e;cases e)
  have W:Mod K mg (dF c.heap H):=⟨G,f I,⟨p,f hb,ej⟩,let ⟨mc,h1,h2⟩:=lW;⟨mc,f h1,h2⟩⟩;have X:Env0 P w K mg (dF c.heap H) callerA [] c H:=⟨rfl,W,fun b o e=>Kp e,Nat.le_of_eq (Kn _ _),trivial,fun b hb=>absurd (show b∈([]:List Addr) from hb) (by simp),g,.of_eq hg⟩;refine codeAny_mono ((F _ G (f I)).run callerA [] c H ⟨[.ref a],[]⟩ [.ref a] [.ref a] _ _ hr X (jd c (.ref a)) (.cons rfl .nil) (fh H y M)) fun r s' h=>?_;cases r with
  |error e=>exact(kK H e s' h).elim
  |ok fl=>
   cases fl with
   |next=>exact False.elim h
   |brk=>exact False.elim h
   |cont=>exact False.elim h
   |ret u=>
    obtain⟨v,H',os,i,un,O,Q,q⟩:=h;have Y:v=.bl true:=q;subst Y;obtain rfl:u=Value.bool true:=Q;refine⟨rfl,OldK.of_keep fun b o e=>?_,os,i⟩;cases q:H b with
    |none=>exact un.keep b o e q (by intro z;exact absurd (show b∈([]:List Addr) from z) (by simp)) (by simp)
    |some u=>
     rcases y b with z|⟨S,xs,z⟩
     ·rw[q] at z;cases z
     ·have Z:=un.frzs b S _ z
      obtain⟨e1,_⟩:=g b _ z;obtain⟨e2,_⟩:=O b _ Z;rw[e] at e1;cases e1;exact e2
 cases hk:K.lookup a with
 |some o=>
  have e:=L a o hk;rw[l] at e;cases e;refine D (fun _=>none) (fun _=>.inl rfl) (.inr ⟨_,vs.toArray,_,hk,rfl,rfl,rfl,by rw[Au,T];exact J,by simpa using C⟩) (fun b u z=>by have j:(none:Option HO)=some u:=z;cases j) (fun b z=>absurd rfl z) fun z=>absurd rfl z
 |none=>
  refine D (fun b=>if b=a then some (.frz {cls:=.type "list",data:=.seq vs.toArray} (.lst (ns.map V.int))) else none) (fun b=>?_) (.inl (.inr ⟨{cls:=.type "list",data:=.seq vs.toArray},if_pos rfl⟩)) (fun b u z=>?_) (fun b z=>?_) fun _=>hk
  ·by_cases hb:b=a
   ·exact .inr ⟨_,_,if_pos hb⟩
   ·exact .inl (if_neg hb)
  ·by_cases hb:b=a
   ·have j:=(if_pos hb).symm.trans z
    cases j;subst hb;exact⟨l,by rw[Aa];exact J,vs,_,C,l⟩
   ·have j:=(if_neg hb).symm.trans z
    cases j
  ·by_cases hb:b=a
   ·exact hb
   ·exact absurd (if_neg hb) z
def GY{l:PySem.W.OpenLaw}{n k:Nat}{q:Program}{E:List Str}{P:(Str->Option Value)->Heap->Prop}{j:World->Heap->Prop}{d:DefRec}{K:Params->Af}{CX:World->f'}{sp:World->Sp}{x:Str}(I:l.most=some n)(J:n<=sizeLine)(L:d.params.defaults=[])(hr:Room k callerA)(M:∀(w:World)(h:Heap),j w h->(K w.params).In h)(F:∀(w:World)(mg:Str->Option Value)(fa:Addr)(h:Heap),(K w.params).In h->h.Ns mainGlobals mg->mg d.name=some (.ref fa)->
   ∃fd:FuncData,(∀(s:Shared)(u:Value),BindsTo s fd ⟨[u],[]⟩ [(x,u)])/\
    ∀base:Heap,(K w.params).In base->base.Ns mainGlobals mg->ai l.prog w (K w.params) mg base (CX w) k fa fd [x] (sp w))
  (N:∀(w:World)(H:Hp)(a:Addr)(ns:List Int),ns.length<=n->kS H->SqL (K w.params) H a (ns.map V.int)->sp w [.ref a] H (fun v _=>v=.bl true) fun _ _ _=>False)
  (O:∀(w:World)(H:Hp)(s:Shared)(e:Value)(s':Shared),CX w [] H s (fun _ _ _=>False) e s'->False) :
  PySem.W.WalkO q E P j l.row.toRowW d [] (fun f vs=>PySem.call f vs):=by
 refine Att.Lq I L fun w s₀ p mg Q fa o S U X a vs ns G Y Z hd c8 r y z c hg=>?_;have i:=M w _ Y;obtain⟨fd,hb,D⟩:=F w mg fa _ i G.T.g r;exact Lr i G.T.g G.T.b G.T.builtins G.T.nolimit hg y z (Ag c J) hr D hb (fun H A C=>N w H a ns c A C) fun H e s'=>O w H p e s'
end L2
/- THE LAST THEOREM (shape;LID,My.* are yours):
  My.Adr: a structure of eG addresses that your layer names (classes,functions);My.Txt K t: a structure (Prop) of eG equations over K;
  My.txt_mk:{K} {implicit addresses ..} (e1:nsIn K mainGlobals "law"=some (some (.ref f))) (e2:K.lookup f=some ⟨oc,od,.func (fnOf "law" "law" cL bJ scope dV kV bG pm an ak ct),sl⟩) (e3:codeIn K ak "law"=true) ..:∃t,My.Txt K t
set_option maxRecDepth 100000 in
set_option maxHeartbeats 0 in
theorem PySem.Challenge.cw_LID_holds:PySem.Challenge.rw_LID.Holds := by
 w_on;o_law;k_head;(case hw=>w_witness2)
 k_fill
 refine L2.GY (l:=PySem.Challenge.rw_LID) (n:=63) (k:=40) (x:="script") (CX:=fun w=>..) (sp:=fun _=>My.sp_law) rfl ξ rfl ⟨rfl,ξ,ξ⟩ (fun w h Y=>PySem.W.kIn_of Y) ?F ?S ?C
 case F=>
  intro w mg fa h f G g;have T:∃t,My.Txt (L2.KOf f) t:=by
   dsimp only[L2.KOf]                          -- K must stand as «<heap const> w.params» for k_is
   refine' My.txt_mk ?e1 ?e2 ?e3 ..
   (case e1 => PySem.W.k_is)                    -- in e order: a name -> ad address -> ad object -> ad parts
   (case e2=>PySem.W.k_is)
   ..
  obtain⟨t,T⟩:=T;have i:=g.symm.trans (PySem.W.mg_of f G T.law);cases i                                       -- fa is e law's own address
  exact⟨_,fun s u => .of_eq rfl,fun base c d => My.law_fn T c d⟩     -- if «.of_eq rfl» comes too early: refine' ⟨_,?b,fun base c d => My.law_fn T c d⟩;exact fun s u => .of_eq rfl
 case S=>exact fun w H a ns j o p=>..
 case C=>exact ..
(e tactic k_is has no namespace: write k_is) -/
namespace L2
open PySem PySem.Spec PyProof.Rows
noncomputable def zcg(s:Stmt):Arguments:=match s with
 |.FunctionDef _ a _ _ _ _ _ _ _ _=>a
 |_=>{posonlyargs:=[],args:=[],vararg:=none,kwonlyargs:=[],kw_defaults:=[],kwarg:=none,defaults:=[]}
noncomputable def za7(s:Stmt):List Stmt:=match s with
 |.FunctionDef _ _ b _ _ _ _ _ _ _=>b
 |_=>[]
noncomputable def zg(s:Stmt):Scope:=match s with
 |.FunctionDef _ _ _ _ _ _ sc _ _ _=>sc
 |_=>{kind:=.function,names:=[],isGenerator:=false,isCoroutine:=false}
abbrev av:f':=fun _ _ _ _ _ _=>False
abbrev E0:XK:=fun _ _ _=>False
def ac{X:Cx}:eH av X E0:=fun _ _ _ _ _ _ _ h=>h.elim
structure Fun(K:Af)(x al:Str)(st:Stmt)(f:Addr)(fd:FuncData):Prop where
 ex:∃(oc:Value)(od:Option Addr)(kV bG pm:Value)(an:Option Addr)(ak ct:Value)(ee:Array (Option Value)),
  fd=PySem.W.fnOf x al (zcg st) (za7 st) (zg st) .none kV bG pm an ak ct/\K.lookup f=some ⟨oc,od,.func fd,ee⟩/\PySem.W.codeIn K ak al=true
 kp:PySem.W.keepIn K (.ref f)=true
section
variable{P:Program}{w:World}{K:Af}{mg:Str->Option Value}{base:Heap}
def Fun.ok{x b:Str}{st:Stmt}{f:Addr}{fd:FuncData}{N ps:List Str}{k:Nat}{sp:Sp}(F:Fun K x b st f fd)(S:zn N ps (zg st))(len:∀vs H Q E,sp vs H Q E->vs.length=ps.length)(e:∀(a:Value)(A:Around)(outer:List Env)(s:Shared)(H:Hp)(vs:List V)(Q:VK)(E:XK),Room k (A.deeper (envOfC b (zg st) s⁻¹ f a))->sp vs H Q E->
   ∃t,PSs (dU av P w K mg base N b (zg st) f a A outer s H E).nox (za7 st) t/\t {nx:=fun _ H'=>Q .non H',rt:=Q} (start N vs) H):ai P w K mg base av (k+1) f fd ps sp:=by
 obtain⟨g,i,kV,j,l,o,a,ct,p,rfl,lk,d⟩:=F.ex;refine KR lk d S len fun A outer s H vs Q E hr c=>?_;obtain⟨t,h,q⟩:=e a A outer s H vs Q E hr c;exact⟨t,h.nox,q⟩
def Fun.binds{x e:Str}{st:Stmt}{f:Addr}{fd:FuncData}{ps:List Str}(F:Fun K x e st f fd)(h:∀(kV a b:Value)(c:Option Addr)(d ct:Value)(us:List Value),us.length=ps.length->bindArgs (PySem.W.fnOf x e (zcg st) (za7 st) (zg st) .none kV a b c d ct) ⟨us,[]⟩=pure (ps.zip us)):Binds K fd ps []:=by
 obtain⟨g,i,kV,a,b,c,d,ct,j,rfl,lk,l⟩:=F.ex;exact .all (h kV a b c d ct)
def Ls{x a:Str}{st:Stmt}{f:Addr}{i:Value}{j g:Option Addr}{h:Array (Option Value)}{kV d e b ct:Value}(l:K.lookup f=some ⟨i,j,.func (PySem.W.fnOf x a (zcg st) (za7 st) (zg st) .none kV d e g b ct),h⟩)(c:PySem.W.codeIn K b a=true)(k:PySem.W.keepIn K (.ref f)=true):Fun K x a st f (PySem.W.fnOf x a (zcg st) (za7 st) (zg st) .none kV d e g b ct):=⟨⟨i,j,kV,d,e,g,b,ct,h,rfl,l,c⟩,k⟩
end
def Co{A:Around}{k:Nat}(hr:Room k A):A.units+1<cLine:=AD (Nat.add_le_add_left (by decide:1<=64) _) hr.units
section
variable{X:Cx}
def pv(i:Nat){x:Str}{pos:Pos}(a:X.N[i]?=some x:=by rfl)(b:y' X.env.scope x:=by first|exact Or.inl rfl|exact Or.inr (Or.inl rfl)|exact Or.inr (Or.inr rfl))(hd:(x==("__debug__":Str))=false:=by decide)
  (c:(x==("__classdict__":Str))=false:=by decide):PE X (.Name x pos) (au i):=Kq a b hd c
end
def aI{A B:Prop}(h:B):if false=true then A else B:=by
 rw[if_neg AG];exact h
def aS{A B:Prop}(h:A):if true=true then A else B:=by
 rw[if_pos rfl];exact h
def dY{c A B:Prop}[Decidable c](h1:c->A)(h2:¬c->B):if c then A else B:=by
 by_cases h:c
 ·rw[if_pos h]
  exact h1 h
 ·rw[if_neg h]
  exact h2 h
def Same(H H':Hp):Prop:=∀b o,H b=some o->H' b=some o
def Same.refl(H:Hp):Same H H:=fun _ _ h=>h
def Same.trans{H H1 H2:Hp}(a:Same H H1)(b:Same H1 H2):Same H H2:=fun c o h=>b c o (a c o h)
def Same.free{H H':Hp}(e:Same H H'){l:Addr}(h:H' l=Option.none):H l=Option.none:=by
 cases q:H l with
 |none=>rfl
 |some o=>
  rw[e l o q] at h;cases h
def Same.seq{K:Af}{H H':Hp}{a:Addr}{xs:List V}(e:Same H H')(h:SqL K H a xs):SqL K H' a xs:=by
 rcases h with (h|⟨o,h⟩)|h
 ·exact .inl (.inl (e _ _ h))
 ·exact .inl (.inr ⟨o,e _ _ h⟩)
 ·exact .inr h
noncomputable def clOf(cells:List (Str×Addr)):List (Str×NameKind)->List (Str×Addr)->List (Str×Addr)
 |[],acc=>acc
 |(n,k)::r,acc=>if(k==.free)=true then clOf cells r ((n,(cells.lookup n).getD 0)::acc) else clOf cells r acc
def GZ{env:Env}:∀(names:List (Str×NameKind))(acc:List (Str×Addr)),(∀x∈names,x.2=.free->∃c,env.cells.lookup x.1=some c)-> (forIn names acc fun x(r:List (Str×Addr))=>if(x.2==.free)=true then do let c <-cellOf env x.1;pure (ForInStep.yield ((x.1,c)::r)) else pure (ForInStep.yield r):Sem (List (Str×Addr)))=pure (clOf env.cells names acc)
 |[],acc,_=>rfl
 |(n,k)::r,acc,h=>by
  rw[List.forIn_cons];have b:=fun a=>GZ (env:=env) r a fun x hx=>h x (Ax _ hx);unfold clOf
  by_cases hk:(k==Bj)=true
  ·have d:k=.free:=by cases k<;>first|rfl|cases hk
   obtain⟨c,hc⟩:=h (n,k) Ar d;simp only[hk,if_true];unfold cellOf;rw[hc];simp only[pure_bind,Option.getD_some];exact b _
  ·simp only[hk,Bool.false_eq_true,if_false,pure_bind]
   exact b _
def Lu{scope:Scope}{env:Env}(h:∀x∈scope.names,x.2=.free->∃c,env.cells.lookup x.1=some c):closureFor scope env=pure (clOf env.cells scope.names []):=by
 rw[<-GZ scope.names [] h];unfold closureFor;simp
def D8{x:Str}{c:Addr}:∀{l:List (Str×Addr)},(x,c)∈l->∃d,l.lookup x=some d
 |[],h=>nomatch h
 |(y,d)::l,h=>by
  rw[Bi]
  by_cases e:x=y
  ·subst e;exact⟨d,by simp⟩
  ·have hb:(x==y)=false:=by simpa using e
   rw[hb];rcases List.mem_cons.mp h with q|q
   ·cases q;exact absurd rfl e
   ·exact D8 q
def Cp{cells:List (Str×Addr)}{x:Str}:∀{names:List (Str×NameKind)}{acc:List (Str×Addr)},((x,Bj)∈names\/∃c,(x,c)∈acc)->∃c,(x,c)∈clOf cells names acc
 |[],acc,h=>h.elim (fun q=>nomatch q) id
 |(n,k)::r,acc,h=>by
  unfold clOf
  by_cases hk:(k==Bj)=true
  ·rw[if_pos hk]
   refine Cp ?_;rcases h with h|⟨c,h⟩
   ·rcases List.mem_cons.mp h with q|q
    ·cases q;exact .inr ⟨_,Ar⟩
    ·exact .inl q
   ·exact .inr ⟨c,Ax _ h⟩
  ·rw[if_neg hk]
   refine Cp ?_;rcases h with h|h
   ·rcases List.mem_cons.mp h with q|q
    ·cases q;exact absurd rfl hk
    ·exact .inl q
   ·exact .inr h
noncomputable def d0(X:Cx)(scope:Scope)(N:List Str)(a:List (Str×Addr))(C:Addr)(s₀:Shared)(H₀:Hp)(ex:List Addr):Cx where
 prog:=X.prog
 w:=X.w
 K:=X.K
 mg:=X.mg
 base:=X.base
 A:=X.A
 N:=N
 s₀:=s₀
 H₀:=H₀
 env:=compEnvC scope a C X.env
 outer:=X.stack
 stack:=X.stack
 ex:=ex
 fn:=fun _=>false
 calm:=X.calm
 pn:=X.pn
 xe:=fun _ _=>False
def gu(X:Cx)(aC:List Expr)(t:TT):Prop:=
 ∀(aa:Ψ)(s:Shared)(σ:St)(H:Hp)(Q:Bool->Hp->Prop),Inv X aa σ H s->t σ H Q->
  wpAny (model X.prog X.w) X.A (forIn aC true fun c r=>if r=true then do let ok <-isTrue c X.env (eval c X.env);pure (ForInStep.yield ok) else pure (ForInStep.yield r)) (TP X aa σ Q) X.xe s
def bC:TT:=fun _ H Q=>Q true H
def zy{X:Cx}:gu X [] bC:=fun _ _ _ H _ I h=>wpAny_tests_nil ⟨H,I,h⟩
def D9{X:Cx}{c:Expr}{t:TT}(h:PT X c t):gu X [c] t:=fun aa s σ H Q I hw=>wpAny_tests_one (h aa s σ H Q I hw)
noncomputable def ry(aj:List (Option Nat))(σ:St):St:=aj.map fun c=>match c with
 |none=>none
 |some j=>(σ[j]?).getD none
def cf(J:It)(g:TG)(tc:TT)(te:TE)(σ:St)(H1:Hp)(D:Addr)(Q:VK):Prop:=
 ∃W:Nat->Nat->St->Hp->Prop,(∃m,W 0 m σ (upd H1 D (.lst [])))/\
 ∀i m d H2,W i m d H2->(J.stop i H2/\Q (.ref D) H2)\/(J.go i H2/\∀x h,J.yld i H2 x h->g x d h fun c j=>tc c j fun b e=>
  if b=true then te c e fun y f=>∃ys a,f D=some (.lst ys)/\ys.length<sizeLine/\a<m/\W (i+1) a c (upd f D (.lst (ys++[y])))
  else ∃a,a<m/\W (i+1) a c e)
def gw(wi:TI)(aj:List (Option Nat))(g:TG)(tc:TT)(te:TE):TE:=fun σ H Q=>wi σ H fun J H1=>∀D,H1 D=none->cf J g tc te (ry aj σ) H1 D Q
def kW(N N':List Str)(aj:List (Option Nat))(scope:Scope):Prop:=
 aj.length=N'.length/\∀i j:Nat,aj[i]?=some (some j)->∃x:Str,N'[i]?=some x/\N[j]?=some x/\scope.names.lookup x=some .free
def Cq{cells:List (Str×Addr)}{x:Str}{c:Addr}:∀{names:List (Str×NameKind)}{acc:List (Str×Addr)},(∀y∈names,y.2=.free->∃d,cells.lookup y.1=some d)->(∀p∈acc,False)->(x,c)∈clOf cells names acc->cells.lookup x=some c/\(x,Bj)∈names:=by
 have g:∀{names:List (Str×NameKind)}{acc:List (Str×Addr)},(∀y∈names,y.2=.free->∃d,cells.lookup y.1=some d)->(x,c)∈clOf cells names acc->(x,c)∈acc\/(cells.lookup x=some c/\(x,Bj)∈names):=by
  intro names
  induction names with
  |nil=>intro acc _ h;exact .inl h
  |cons y r i=>
   intro acc b h;obtain⟨n,k⟩:=y;unfold clOf at h;have j:∀y∈r,y.2=.free->∃d,cells.lookup y.1=some d:=fun y hy=>b y (Ax _ hy)
   by_cases hk:(k==Bj)=true
   ·have l:k=.free:=by cases k<;>first|rfl|cases hk
    obtain⟨d,hd⟩:=b (n,k) Ar l;rw[if_pos hk] at h;rcases i j h with q|⟨e,f⟩
    ·rcases List.mem_cons.mp q with q|q
     ·refine .inr ⟨?_,?_⟩
      ·have a:cells.lookup n=some d:=hd
       rw[a] at q;cases q;exact a
      ·cases q
       rw[l];exact Ar
     ·exact .inl q
    ·exact .inr ⟨e,Ax _ f⟩
   ·rw[if_neg hk] at h
    rcases i j h with q|⟨e,f⟩
    ·exact .inl q
    ·exact .inr ⟨e,Ax _ f⟩
 intro names acc b o h;rcases g b h with q|q
 ·exact(o _ q).elim
 ·exact q
def cf_mem:∀(names:List (Str×NameKind))(h:Heap)(acc:List (Str×Addr))(x:Str)(c:Addr),(x,c)∈cellsFrom h.objs.size names acc->(x,c)∈acc\/((x,NameKind.cell)∈names/\h.objs.size<=c/\(pushCells h names).IsCell c none)
 |[],h,acc,x,c,a=>.inl a
 |(n,k)::r,h,acc,x,c,a=>by
  rw[cellsFrom.eq_2] at a;have ep:pushCells h ((n,k)::r)=if(k==NameKind.cell)=true then pushCells (h.push {cls:=Value.type "cell",data:=Data.cell none}) r else pushCells h r:=rfl
  by_cases hk:(k==NameKind.cell)=true
  ·have f:k=.cell:=by cases k<;>first|rfl|cases hk
   rw[if_pos hk] at a;rw[ep,if_pos hk];have es:(h.push {cls:=Value.type "cell",data:=Data.cell none}).objs.size=h.objs.size+1:=Heap.size_push ..;rw[<-es] at a;rcases cf_mem r _ _ x c a with q|⟨d,b,e⟩
   ·rcases List.mem_cons.mp q with q|q
    ·cases q
     refine .inr ⟨by rw[f];exact Ar,Ad _,_,pushCells_keeps r _ _ _ (AH _ rfl),rfl⟩
    ·exact .inl q
   ·rw[es] at b
    exact .inr ⟨Ax _ d,Nat.le_of_succ_le b,e⟩
  ·rw[if_neg hk] at a
   rw[ep,if_neg hk];rcases cf_mem r h acc x c a with q|⟨d,b,e⟩
   ·exact .inl q
   ·exact .inr ⟨Ax _ d,b,e⟩
def D_:∀(names:List (Str×NameKind))(n:Nat)(acc:List (Str×Addr)),(∀x y c,(x,c)∈acc->(y,c)∈acc->x=y)->(∀p∈acc,p.2<n)->∀x y c,(x,c)∈cellsFrom n names acc->(y,c)∈cellsFrom n names acc->x=y
 |[],n,acc,hi,_,x,y,c,h1,h2=>hi x y c h1 h2
 |(m,k)::r,n,acc,hi,hl,x,y,c,h1,h2=>by
  rw[cellsFrom.eq_2] at h1 h2
  by_cases hk:(k==NameKind.cell)=true
  ·rw[if_pos hk] at h1 h2
   refine D_ r (n+1) ((m,n)::acc) (fun x y c p q=>?_) (fun p hp=>?_) x y c h1 h2
   ·rcases List.mem_cons.mp p with p|p<;>rcases List.mem_cons.mp q with q|q
    ·cases p;cases q;rfl
    ·cases p
     have:n<n:=hl _ q;(first|lia|omega)
    ·cases q
     have:n<n:=hl _ p;(first|lia|omega)
    ·exact hi x y c p q
   ·rcases List.mem_cons.mp hp with rfl|hp
    ·exact Nat.lt_succ_self _
    ·exact Nat.lt_succ_of_lt (hl p hp)
  ·rw[if_neg hk] at h1 h2
   exact D_ r n acc hi hl x y c h1 h2
def Lv{M:Model}{A:Around}{E:Ω}{s:Shared}{scope:Scope}{g:Addr}{a:List (Str×Addr)}{i:Str}{env:Env}{Q:Env->Shared->Prop}(h:∀d:Heap,(d.Ns s⁻¹ fun _=>none)->(∀b o,s.heap.get? b=some o->d.get? b=some o)->
   (∀x c,(x,c)∈cellsFrom (s⁻¹+1) scope.names a->(x,c)∈a\/((x,NameKind.cell)∈scope.names/\s⁻¹+1<=c/\d.IsCell c none))->
   Q (newEnv scope s⁻¹ g (cellsFrom (s⁻¹+1) scope.names a) i none .none (some env) builtinsNs) {s with heap:=d}):
  wpAny M A (newFunctionEnv scope g a [] i none Value.none (some env)) Q E s:=by
 unfold newFunctionEnv;refine Ae (wpAny_alloc ?_);refine Ae (wpAny_layCells _ (fun name kind cells=>rfl) scope.names a _ _ ?_);have es:(s.heap.push {cls:=Value.type "dict",data:=Data.dict #[]}).objs.size=s⁻¹+1:=Heap.size_push ..;have:=h (pushCells (s.heap.push {cls:=Value.type "dict",data:=Data.dict #[]}) scope.names) ((Heap.Ns.new s.heap (.type "dict")).keeps fun b o e=>pushCells_keeps _ _ _ _ e) (fun b o e=>pushCells_keeps _ _ _ _ (Ai _ e)) (fun x c f=>by
  rw[<-es] at f ⊢;exact cf_mem scope.names _ a x c f)
 show wpAny M A _ _ _ _;refine Ae (An ?_);refine An ?_;rw[<-es] at this;exact this
noncomputable def cxD(X:Cx)(scope:Scope)(N:List Str)(a:List (Str×Addr))(C:Addr)(s₀:Shared)(H₀:Hp)(ex:List Addr):Cx:={d0 X scope N a C s₀ H₀ ex with fn:=fun x=>decide (scope.names.lookup x=some .cell)}
section
variable{X:Cx}{scope:Scope}{N':List Str}{aj:List (Option Nat)}{tg iter aP:Expr}{aC:List Expr}{wi:TI}{g:TG}{tc:TT}{te:TE}{pos:Pos}
def Ea{scope:Scope}{env:Env}{x:Str}:∀{names:List (Str×NameKind)},(names.lookup x=some .free\/names.lookup x=some .cell)-> ((names.map fun(n,k)=>if(k==Bj&&env.scope.kind==.function&&env.kindOf n==some .cell) then(n,NameKind.cell) else(n,k)).lookup x=some .free \/
   (names.map fun(n,k)=>if(k==Bj&&env.scope.kind==.function&&env.kindOf n==some .cell) then(n,NameKind.cell) else(n,k)).lookup x=some .cell)
 |[],h=>by simp at h
 |(n,k)::r,h=>by
  have a:=@Ea scope env x r;show List.lookup x ((if(k==Bj&&env.scope.kind==.function&&env.kindOf n==some .cell)=true then(n,NameKind.cell) else(n,k))::_)=_\/List.lookup x ((if(k==Bj&&env.scope.kind==.function&&env.kindOf n==some .cell)=true then(n,NameKind.cell) else(n,k))::_)=_;cases hx:x==n with
  |true=>
   simp only[Bi,hx] at h
   by_cases hc:(k==Bj&&env.scope.kind==.function&&env.kindOf n==some .cell)=true
   ·rw[if_pos hc];simp[Bi,hx]
   ·rw[if_neg hc];simp only[Bi,hx];exact h
  |false=>
   simp only[Bi,hx] at h
   by_cases hc:(k==Bj&&env.scope.kind==.function&&env.kindOf n==some .cell)=true
   ·rw[if_pos hc];simp only[Bi,hx];exact a h
   ·rw[if_neg hc];simp only[Bi,hx];exact a h
def Eb{env:Env}{x:Str}{a:NameKind}:∀{names:List (Str×NameKind)},(names.map fun(n,k)=>if(k==Bj&&env.scope.kind==.function&&env.kindOf n==some .cell) then(n,NameKind.cell) else(n,k)).lookup x=some a->
  ∃b,names.lookup x=some b/\(a=b\/(b=.free/\a=.cell))
 |[],h=>by simp at h
 |(n,k)::r,h=>by
  have c:=@Eb env x a r;have h':List.lookup x ((if(k==Bj&&env.scope.kind==.function&&env.kindOf n==some .cell)=true then(n,NameKind.cell) else(n,k))::_)=some a:=h;cases hx:x==n with
  |true=>
   simp only[Bi,hx]
   by_cases hc:(k==Bj&&env.scope.kind==.function&&env.kindOf n==some .cell)=true
   ·rw[if_pos hc] at h'
    simp only[Bi,hx] at h';cases h';have hk:k=.free:=by
     rw[AZ,AZ] at hc;cases k<;>first|rfl|exact absurd hc.1.1 ξ
    exact⟨k,rfl,.inr ⟨hk,rfl⟩⟩
   ·rw[if_neg hc] at h'
    simp only[Bi,hx] at h';cases h';exact⟨_,rfl,.inl rfl⟩
  |false=>
   simp only[Bi,hx]
   by_cases hc:(k==Bj&&env.scope.kind==.function&&env.kindOf n==some .cell)=true
   ·rw[if_pos hc] at h';simp only[Bi,hx] at h';exact c h'
   ·rw[if_neg hc] at h';simp only[Bi,hx] at h';exact c h'
structure Left(X:Cx)(aa:Ψ)(σ:St)(H':Hp)(s4:Shared)(C:Addr):Prop where
 ns:∃m,s4.heap.Ns C m
 far:X.s₀⁻¹<=C
 nl:C≠X.env.locals
 nc:∀x c,X.env.cells.lookup x=some c->c≠C
 np:∀p∈X.pn++aa,p.1≠C
 no:H' C=none
 back:∀h',Heap.SameBut C s4.heap h'->Inv X aa σ H' {s4 with heap:=h'}
def Ec{use:Option (Value->Sem Unit)}{R:Ω}{pp:Pos}(hc:X.calm=true)(hk:scope.kind=.function)(aN:∀y∈scope.names,y.2=.cell->scope.names.lookup y.1=some .cell)(am:∀y∈scope.names,y.2=.free->scope.names.lookup y.1=some .free)(ao:∀y∈scope.names,y.2=.local->scope.names.lookup y.1=some .local)(hfr:∀y∈scope.names,y.2=.free->X.env.kindOf y.1=some .cell\/X.env.kindOf y.1=some .free)(hcap:kW X.N N' aj scope)(hi:PI X tg iter wi)(hg:∀cl C s₀ H₀ ex,PG (cxD X scope N' cl C s₀ H₀ ex) tg g)(ht:∀cl C s₀ H₀ ex,gu (cxD X scope N' cl C s₀ H₀ ex) aC tc)(he:∀cl C s₀ H₀ ex,PE (cxD X scope N' cl C s₀ H₀ ex) aP te)(hs:∀x,foldedSetIterable iter X.env x=pure x){aa:Ψ}{s:Shared}{σ:St}{H:Hp}{Q:VK}(I:Inv X aa σ H s)(h:gw wi aj g tc te σ H Q)(fin:∀(D C:Addr)(H':Hp)(P:Shared)(f:Flow),Left X aa σ H' P C->Q (.ref D) H'->compPost (model X.prog X.w) X.A X.xe use R (.ref D) C (.ok f) P):wpAny (model X.prog X.w) X.A (comprehension (.ListComp aP [⟨tg,iter,aC,0⟩] scope pos) scope X.env pp (newList []) (firstAsync [⟨tg,iter,aC,0⟩]) (firstIter [⟨tg,iter,aC,0⟩] X.env) use) R X.xe s:=by
 have S:∀y∈scope.names,y.2=.free->∃c,X.env.cells.lookup y.1=some c:=fun y hy e=>I.ok.has y.1 (hfr y hy e);refine wpAny_comprehension_free (use:=use) rfl hs (Lu S) hk ao ?_;refine aY (hi aa s σ H _ I h) fun xv s1 h1=>aY h1 fun md O h2=>?_;obtain⟨it,M,tn,J,H2,e,I2,T,eB,f2,q⟩:=h2;subst e;have jm:H2 O⁻¹=none:=I2.hok.fresh (Ad _);obtain⟨W,⟨m0,w0⟩,turn⟩:=q O⁻¹ jm;refine wpAny_newObj_type (Lv fun aL cN bS bY=>?_);dsimp only at cN bS bY ⊢;generalize hD:O⁻¹=D at *;obtain⟨l,e3⟩:∃l:Shared,l={O with heap:=O.heap.push {cls:=.type "list",dict:=none,data:=.seq ([]:List Value).toArray}}:=⟨_,rfl⟩;have h3:l.heap=O.heap.push {cls:=.type "list",dict:=none,data:=.seq ([]:List Value).toArray}:=by rw[e3]
 rw[<-h3] at cN bS bY ⊢;have U:l⁻¹=D+1:=by rw[h3,Heap.size_push,hD]
 have I3:Inv X aa σ (upd H2 D (.lst [])) l:=by
  rw[e3,<-hD];exact I2.lnew (t':=O.toks) (ys:=[]) .nil (Aw _)
 obtain⟨Xc,E⟩:∃Xc,Xc=cxD X scope N' (cellsFrom (l⁻¹+1) scope.names (clOf X.env.cells scope.names [])) l⁻¹ l (upd H2 D (.lst [])) M:=⟨_,rfl⟩;have sj:PG Xc tg g:=by rw[E];exact hg _ _ _ _ _
 have ht':gu Xc aC tc:=by rw[E];exact ht _ _ _ _ _
 have he':PE Xc aP te:=by rw[E];exact he _ _ _ _ _
 have xP:Xc.prog=X.prog:=by rw[E];rfl
 have xw:Xc.w=X.w:=by rw[E];rfl
 have xK:Xc.K=X.K:=by rw[E];rfl
 have xA:Xc.A=X.A:=by rw[E];rfl
 have xc:Xc.calm=true:=by rw[E];exact hc
 have xe:Xc.env=compEnvC scope (cellsFrom (l⁻¹+1) scope.names (clOf X.env.cells scope.names [])) l⁻¹ X.env:=by rw[E];rfl
 have xE:Xc.xe=fun _ _=>False:=by rw[E];rfl
 have G:∀x c,(cellsFrom (l⁻¹+1) scope.names (clOf X.env.cells scope.names [])).lookup x=some c->(X.env.cells.lookup x=some c/\scope.names.lookup x=some .free)\/(scope.names.lookup x=some .cell/\l⁻¹+1<=c/\aL.IsCell c none):=fun x c e=>by
  rcases bY x c (PySem.mem_of_lookup e) with q|⟨q1,q2,q3⟩
  ·obtain⟨q4,q5⟩:=Cq S (fun p hp=>absurd hp (by simp)) q
   exact .inl ⟨q4,am _ q5 rfl⟩
  ·exact .inr ⟨aN _ q1 rfl,q2,q3⟩
 have hlow:∀p∈clOf X.env.cells scope.names [],p.2<l⁻¹+1:=fun p hp=>by
  obtain⟨q4,_⟩:=Cq S (fun p hp=>absurd hp (by simp)) (x:=p.1) (c:=p.2) hp;obtain⟨v,o,ho,_⟩:=I3.cell p.1 p.2 q4;exact Nat.lt_succ_of_lt (At ho)
 have Y:∀b∈M,b≠D/\b<D:=fun b hb=>by
  obtain⟨ob,eb,_⟩:=T.obj 0 _ eB b hb;have:=At eb;rw[hD] at this;exact⟨AB this,this⟩
 have hfs:∀b∈frs X.stack,b<D:=fun b hb=>by
  obtain⟨_,ob,eb,_⟩:=I2.stack.mem hb;have:=At eb;rw[hD] at this;exact this
 have F:∀b o,l.heap.get? b=some o->aL.get? b=some o:=bS;have um:(upd H2 D (.lst [])) l⁻¹=none:=I3.hok.fresh (Ad _);have Ic:Inv Xc aa (ry aj σ) (upd H2 D (.lst [])) {l with heap:=aL}:=by
  have okc:Xc.Ok:=by
   rw[E];refine⟨I.ok.mod,hk,I.ok.glob,I.ok.blt,Ad _,fun x y c a b=>D_ scope.names _ _ (fun x y c p q=>I.ok.inj x y c (Cq S (fun p hp=>absurd hp (by simp)) p).1 (Cq S (fun p hp=>absurd hp (by simp)) q).1) hlow x y c (PySem.mem_of_lookup a) (PySem.mem_of_lookup b),fun x hx=>?_,(fun x c a e=>by
    rcases G x c e with ⟨_,q⟩|⟨_,q,_⟩
    ·have a':=of_decide_eq_true a
     rw[q] at a';cases a'
    ·exact Nat.le_of_succ_le q),I.ok.hd,I.ok.frames,.inl rfl,fun b hb=>⟨?_,fun x c e=>?_⟩,fun b o e=>?_,?_,fun b o e z=>?_,fun b hb z=>?_,?_,fun b hb=>?_⟩
   ·have sQ:(relabel scope X.env).names.lookup x=some .cell\/(relabel scope X.env).names.lookup x=some .free:=hx
    have key:∃k',scope.names.lookup x=some k'/\(k'=.free\/k'=.cell):=by
     rcases sQ with q|q
     ·obtain⟨k',e1,e2⟩:=Eb q
      rcases e2 with e2|⟨e2,_⟩
      ·exact⟨k',e1,.inr e2.symm⟩
      ·exact⟨k',e1,.inl e2⟩
     ·obtain⟨k',e1,e2⟩:=Eb q
      rcases e2 with e2|⟨e2,_⟩
      ·exact⟨k',e1,.inl e2.symm⟩
      ·exact⟨k',e1,.inl e2⟩
    obtain⟨k',e1,e2⟩:=key;have hm:=PySem.mem_of_lookup e1;rcases e2 with rfl|rfl
    ·obtain⟨c,jN⟩:=Cp (cells:=X.env.cells) (acc:=[]) (.inl hm)
     obtain⟨d,hd⟩:=D8 jN;exact Option.isSome_iff_exists.mp (PySem.W.cellsFrom_some scope.names (l⁻¹+1) _ (.inr (by rw[hd];rfl)))
    ·exact Option.isSome_iff_exists.mp (PySem.W.cellsFrom_some scope.names (l⁻¹+1) _ (.inl e1))
   ·show b≠l⁻¹
    exact AB (by rw[U];exact Nat.lt_succ_of_lt (Y b hb).2)
   ·rcases G x c e with ⟨q,_⟩|⟨_,q,_⟩
    ·exact(f2 b hb).2.2.2.2.1 x c q
    ·have h1:b<l⁻¹+1:=by rw[U];exact Nat.lt_succ_of_lt (Nat.lt_succ_of_lt (Y b hb).2)
     exact Nat.ne_of_gt (AC h1 q)
   ·exact I3.bs b o e
   ·exact Ag I.ok.bsz I3.sz
   ·obtain⟨f,_,_,fx,_,_⟩:=f2 b z
    rcases fx with fx|fx
    ·exact I.ok.noex b o e fx
    ·have:=AC (At e) I.ok.bsz
     (first|lia|omega)
   ·rcases List.mem_cons.mp (I2.stkSub b z) with r|r
    ·exact(f2 b hb).2.1 r
    ·exact(f2 b hb).2.2.1 r
   ·exact I3.stack
   ·exact I3.stkFree b hb
  refine⟨okc,(by rw[E];rfl),I3.bare,?_,?_,fun x c e=>?_,?_,fun x c e=>?_,fun p hp=>?_,?_,?_⟩
  ·rw[E]
   exact Un.kept F
  ·rw[xe]
   refine⟨_,cN,fun i x v e1 e2 e3=>?_⟩;obtain⟨c1,c2⟩:=hcap;unfold ry at e2;rw[Aj] at e2;cases e4:aj[i]? with
   |none=>rw[e4] at e2;cases e2
   |some cc=>
    rw[e4] at e2;cases cc with
    |none=>cases e2
    |some j=>
     obtain⟨y,d1,d2,d3⟩:=c2 i j e4;have pU:N'[i]?=some x:=by rw[E] at e1;exact e1
     rw[d1] at pU;have xO:y=x:=AM pU;subst xO;have e5:σ[j]?=some (some v):=by
      simp only[Option.map_some,Option.some.injEq] at e2;cases e6:σ[j]? with
      |none=>rw[e6] at e2;cases e2
      |some ov=>rw[e6] at e2;simp only[Option.getD_some] at e2;rw[e2]
     have hm:=PySem.mem_of_lookup d3;have vZ:y' X.env.scope y:=by
      rcases hfr _ hm rfl with q|q
      ·exact .inr (.inl q)
      ·exact .inr (.inr q)
     obtain⟨m,_,hl⟩:=I3.loc;obtain⟨u,ru,lk⟩:=hl j y v d2 e5 vZ;refine⟨u,ru,?_⟩;have uy:∃c,X.env.cells.lookup y=some c/\l.heap.IsCell c (some u):=by
      rcases lk with ⟨k1,_⟩|⟨_,c,k2,k3⟩
      ·rcases hfr _ hm rfl with q|q
       ·rw[k1] at q;cases q
       ·rw[k1] at q;cases q
      ·exact⟨c,k2,k3⟩
     obtain⟨c,k2,k3⟩:=uy;obtain⟨d,hd'⟩:=Cp (cells:=X.env.cells) (acc:=[]) (.inl hm);obtain⟨d',ib⟩:=D8 hd';obtain⟨d2,hd3⟩:=Option.isSome_iff_exists.mp (PySem.W.cellsFrom_some scope.names (l⁻¹+1) (clOf X.env.cells scope.names []) (x:=y) (.inr (by rw[ib];rfl)));have:c=d2:=by
      rcases G y d2 hd3 with ⟨q,_⟩|⟨q,_⟩
      ·rw[k2] at q
       exact AM q
      ·rw[d3] at q;cases q
     subst this;refine .inr ⟨?_,c,hd3,k3.keeps F⟩;have rl:=Ea (scope:=scope) (env:=X.env) (x:=y) (names:=scope.names) (.inl d3);rcases rl with q|q
     ·exact .inr q
     ·exact .inl q
  ·rw[xe] at e
   rcases G x c e with ⟨q,_⟩|⟨_,_,q⟩
   ·obtain⟨v,k3⟩:=I3.cell x c q
    exact⟨v,k3.keeps F⟩
   ·exact⟨_,q⟩
  ·rw[xe];exact um
  ·rw[xe] at e
   rcases G x c e with ⟨q,_⟩|⟨_,q,_⟩
   ·exact I3.freeC x c q
   ·exact I3.hok.fresh (Nat.le_of_succ_le q)
  ·have hp':p∈X.pn++aa:=by rw[E] at hp;exact hp
   obtain⟨a1,a2,a3,a4,a5⟩:=I3.pin p hp';refine⟨F _ _ a1,a2,?_,?_,a5⟩
   ·rw[xe]
    show p.1≠l⁻¹;exact AB (At a1)
   ·rw[E]
    intro z;rcases List.mem_cons.mp (I3.stkSub p.1 z) with r|r
    ·exact a3 r
    ·exact a4 r
  ·rw[xP,xw]
   exact I3.hok.kept F
  ·unfold ry
   rw[Aa,hcap.1,E]
   rfl
 have leave:∀{L:St}{H':Hp}{P:Shared}{h':Heap},Inv Xc aa L H' P->Heap.SameBut l⁻¹ P.heap h'->Inv X aa σ H' {P with heap:=h'}:=fun{L H' P h'} I4 ax=>by
  have hlt:∀b o,O.heap.get? b=some o->b≠D/\b≠l⁻¹:=fun b o e=>by
   have hb:=At e;rw[hD] at hb;exact⟨AB hb,AB (by rw[U];exact Nat.lt_succ_of_lt hb)⟩
  have up3:∀b o,O.heap.get? b=some o->l.heap.get? b=some o:=fun b o e=>by rw[h3];exact Ai _ e
  have base:Un (frs X.stack) M (upd H2 D (.lst [])) H' l.heap P.heap:=by
   have:=I4.base;rw[E] at this;exact this
  have hCn:H' l⁻¹=none:=by
   have:=I4.free;rw[xe] at this;exact this
  have os4:P.os=O.os:=by
   have:=I4.os;rw[E] at this;rw[this];show l.os=O.os;rw[e3]
  refine I2.call' (s':={P with heap:=h'}) (ch:=M) os4 ⟨fun b o q n hb hx=>?_,fun b o q n hb hx=>?_,fun b o q n hx=>?_,fun b o q hx=>?_,fun b xs q=>?_,fun b o u q=>?_,fun b ps q=>?_⟩ ?_ I4.bare fun b hb=>?_
  ·obtain⟨n1,n2⟩:=hlt b o q
   exact(ax.2 b n2).trans (base.keep b o (up3 b o q) (by rw[af n1];exact n) hb hx)
  ·obtain⟨n1,n2⟩:=hlt b o q
   obtain⟨sl,e⟩:=base.slot b o (up3 b o q) (by rw[af n1];exact n) hb hx;exact⟨sl,(ax.2 b n2).trans e⟩
  ·obtain⟨n1,n2⟩:=hlt b o q
   exact base.free b o (up3 b o q) (by rw[af n1];exact n) hx
  ·obtain⟨n1,n2⟩:=hlt b o q
   obtain⟨o',e⟩:=base.there b o (up3 b o q) hx;exact⟨o',(ax.2 b n2).trans e⟩
  ·exact base.tups b xs (by rw[af (zm q jm)];exact q)
  ·exact base.frzs b o u (by rw[af (zm q jm)];exact q)
  ·exact base.tbls b ps (by rw[af (zm q jm)];exact q)
  ·intro b u e
   have pF:=I4.hok b u e;rw[xP,xw] at pF;refine pF.stay (fun c v hc q=>(ax.2 c ?_).trans q) (fun _ q=>q) fun _ _ q=>q;rintro rfl;rcases hc with z|z
   ·rw[<-z,hCn] at e;cases e
   ·rw[hCn] at z;cases z
  ·obtain⟨f0,f1,f3,f4,f5,f6⟩:=f2 b hb
   exact⟨f4,f1,f5,f6⟩
 have Z:∀{H':Hp},(∀b∈M,H' b=none)->∀b∈M,ce Xc aa H' b:=fun{H'} hn b hb=>by
  obtain⟨f0,f1,f3,f4,f5,f6⟩:=f2 b hb;refine⟨hn b hb,?_,?_,.inl (by rw[E];exact hb),fun x c e=>?_,fun p hp=>?_⟩
  ·rw[xe]
   show b≠l⁻¹;exact AB (by rw[U];exact Nat.lt_succ_of_lt (Y b hb).2)
  ·rw[E]
   intro z;rcases List.mem_cons.mp (I2.stkSub b z) with r|r
   ·exact f1 r
   ·exact f3 r
  ·rw[xe] at e
   rcases G x c e with ⟨q,_⟩|⟨_,q,_⟩
   ·exact f5 x c q
   ·have h1:b<l⁻¹+1:=by rw[U];exact Nat.lt_succ_of_lt (Nat.lt_succ_of_lt (Y b hb).2)
    exact Nat.ne_of_gt (AC h1 q)
  ·rw[E] at hp
   exact f6 p hp
 subst E;have iA:∀n s',(∃i L H',Inv (cxD X scope N' (cellsFrom (l⁻¹+1) scope.names (clOf X.env.cells scope.names [])) l⁻¹ l (upd H2 D (.lst [])) M) aa L H' s'/\tn i s'.heap/\(∀b∈M,H' b=none)/\W i n L H')->
   codeAny (model X.prog X.w) X.A (.compLoop (.ListComp aP [⟨tg,iter,aC,0⟩] scope pos) 0 (.ref it) (.ref D) (compEnvC scope (cellsFrom (l⁻¹+1) scope.names (clOf X.env.cells scope.names [])) l⁻¹ X.env)) (compPost (model X.prog X.w) X.A X.xe use R (.ref D) l⁻¹) s':=by
  intro n0 BP qO;refine codeAny_loop rfl (fun n s'=>∃i L H',Inv (cxD X scope N' (cellsFrom (l⁻¹+1) scope.names (clOf X.env.cells scope.names [])) l⁻¹ l (upd H2 D (.lst [])) M) aa L H' s'/\tn i s'.heap/\(∀b∈M,H' b=none)/\W i n L H') (fun n s' hI=>?_) n0 qO;obtain⟨i,L,H',I',ae,dq,w'⟩:=hI;show wpAny _ X.A ((compTurn (.ListComp aP [⟨tg,iter,aC,0⟩] scope pos) 0 (.ref it) (.ref D) (compEnvC scope (cellsFrom (l⁻¹+1) scope.names (clOf X.env.cells scope.names [])) l⁻¹ X.env)).onRaise (fun x=>do noteFrame x (compEnvC scope (cellsFrom (l⁻¹+1) scope.names (clOf X.env.cells scope.names [])) l⁻¹ X.env);theTreesLotGoes x)) _ _ s';refine wpAny_noted ?_;rw[compTurn_list];refine Ae (wpAny_standAt (Ae ?_));rcases turn i n L H' w' with ⟨stop,qn⟩|⟨go,step⟩
  ·refine aY (T.done (cxD X scope N' (cellsFrom (l⁻¹+1) scope.names (clOf X.env.cells scope.names [])) l⁻¹ l (upd H2 D (.lst [])) M) rfl rfl rfl hc i aa s' L H' _ I' (Z dq) ae stop) fun r P ⟨hr,I4⟩=>?_
   subst hr;refine An ?_;obtain⟨m,hn,_⟩:=id I4.loc;refine fin D _ H' P _ ⟨⟨m,hn⟩,I3.sz,fun e=>?_,fun x c e=>?_,fun p hp=>AB (At (I3.pin p hp).1),I4.free,fun h' ax=>leave I4 ax⟩ qn
   ·obtain⟨m3,jt,_⟩:=I3.loc
    obtain⟨o3,_,_,lg,_⟩:=jt;exact absurd e.symm (AB (At lg))
   ·obtain⟨v,hv⟩:=I3.cell x c e
    obtain⟨o3,lg,_⟩:=hv;exact AB (At lg)
  ·refine aY (T.item (cxD X scope N' (cellsFrom (l⁻¹+1) scope.names (clOf X.env.cells scope.names [])) l⁻¹ l (upd H2 D (.lst [])) M) rfl rfl rfl hc i aa s' L H' _ I' (Z dq) ae go) fun r P ⟨u,hr,h4⟩=>?_
   subst hr;refine Ae (aY h4 fun _ s5 ⟨x,H5,I5,r5,y5,st5,fr5⟩=>?_);have mY:=I5.pinned (Z fr5) (T.obj _ _ st5);refine Ae (wpAny_mono (sj _ s5 L H5 x u _ mY r5 (step x H5 y5)) (fun _ s6 h6=>?_) fun _ _ z=>z.elim);obtain⟨iT,H6,I6,q6⟩:=h6;refine Ae (wpAny_mono (ht' _ s6 iT H6 _ I6 q6) (fun ok s7 h7=>?_) fun _ _ z=>z.elim);obtain⟨H7,I7,q7⟩:=h7;have again:∀{jI:St}{H8:Hp}{s8:Shared}{m':Nat},Inv (cxD X scope N' (cellsFrom (l⁻¹+1) scope.names (clOf X.env.cells scope.names [])) l⁻¹ l (upd H2 D (.lst [])) M) (aa++qk M s5.heap) jI H8 s8->m'<n->W (i+1) m' jI H8->
     ∃m,m<n/\∃i L H',Inv (cxD X scope N' (cellsFrom (l⁻¹+1) scope.names (clOf X.env.cells scope.names [])) l⁻¹ l (upd H2 D (.lst [])) M) aa L H' s8/\tn i s8.heap/\(∀b∈M,H' b=none)/\W i m L H':=fun{jI H8 s8 m'} I8 hm w8=>by
    refine⟨m',hm,i+1,jI,H8,I8.unpinned,T.keep _ _ _ st5 fun b hb o e=>(I8.pin (b,o) (AE _ (AE _ (BS hb e)))).1,fun b hb=>?_,w8⟩;obtain⟨o,e,d⟩:=T.obj _ _ st5 b hb;exact(I8.pin (b,o) (AE _ (AE _ (BS hb e)))).2.1
   cases ok with
   |false=>
    obtain⟨m',hm,w7⟩:=q7;exact An ⟨rfl,again I7 hm w7⟩
   |true=>
    refine Ae (Ae (wpAny_mono (he' _ s7 iT H7 _ I7 q7) (fun v s8 h8=>?_) fun _ _ z=>z.elim));obtain⟨y,H8,I8,r8,ys,m',mq,sC,uh,w8⟩:=h8;refine Ae (wpAny_mono (kM (X:=cxD X scope N' (cellsFrom (l⁻¹+1) scope.names (clOf X.env.cells scope.names [])) l⁻¹ l (upd H2 D (.lst [])) M) _ s8 iT H8 (.ref D) [y] (.ref D) [v] (fun _ H9=>H9=upd H8 D (.lst (ys++[y]))) I8 rfl (.cons r8 .nil) ⟨D,ys,y,rfl,rfl,mq,sC,rfl⟩) (fun _ s9 h9=>?_) fun _ _ z=>z.elim);obtain⟨_,H9,I9,_,e9⟩:=h9;subst e9;exact An (An ⟨rfl,again I9 uh w8⟩)
 have start:∃i L H',Inv (cxD X scope N' (cellsFrom (l⁻¹+1) scope.names (clOf X.env.cells scope.names [])) l⁻¹ l (upd H2 D (.lst [])) M) aa L H' {l with heap:=aL}/\tn i ({l with heap:=aL}:Shared).heap/\(∀b∈M,H' b=none)/\W i m0 L H':=by
  refine⟨0,ry aj σ,upd H2 D (.lst []),Ic,T.keep 0 _ _ eB fun b hb o e=>F b o (by rw[h3];exact Ai _ e),fun b hb=>?_,w0⟩;rw[af (Y b hb).1];exact(f2 b hb).1
 have es:({O with heap:=aL}:Shared)={l with heap:=aL}:=by rw[e3]
 show codeAny (model X.prog X.w) X.A _ _ ({O with heap:=aL}:Shared);rw[es];refine codeAny_compStart_list (iA m0 _ start) (T.self _ 0 _ _ _ ?_ (iA m0 _ start));exact T.keep 0 _ _ eB fun b hb o e=>F b o (by rw[h3];exact Ai _ e)
def nf(b:∀y∈scope.names,y.2≠.cell)(a:List (Str×Addr))(C:Addr)(s₀:Shared)(H₀:Hp)(ex:List Addr):d0 X scope N' a C s₀ H₀ ex=cxD X scope N' a C s₀ H₀ ex:=by
 unfold cxD;have:(fun x=>decide (scope.names.lookup x=some NameKind.cell))=fun _=>false:=by
  funext x
  exact decide_eq_false fun e=>b _ (PySem.mem_of_lookup e) rfl
 rw[this]
 rfl
def Lw{use:Option (Value->Sem Unit)}{R:Ω}{pp:Pos}(hc:X.calm=true)(hk:scope.kind=.function)(c:∀y∈scope.names,y.2≠.cell)(i:∀y∈scope.names,y.2=.free->scope.names.lookup y.1=some .free)(j:∀y∈scope.names,y.2=.local->scope.names.lookup y.1=some .local)(hfr:∀y∈scope.names,y.2=.free->X.env.kindOf y.1=some .cell\/X.env.kindOf y.1=some .free)(b:kW X.N N' aj scope)(hi:PI X tg iter wi)(hg:∀a C s₀ H₀ ex,PG (d0 X scope N' a C s₀ H₀ ex) tg g)(l:∀a C s₀ H₀ ex,gu (d0 X scope N' a C s₀ H₀ ex) aC tc)(o:∀a C s₀ H₀ ex,PE (d0 X scope N' a C s₀ H₀ ex) aP te)(p:∀x,foldedSetIterable iter X.env x=pure x){aa:Ψ}{s:Shared}{σ:St}{H:Hp}{Q:VK}(I:Inv X aa σ H s)(h:gw wi aj g tc te σ H Q)(fin:∀(D C:Addr)(H':Hp)(d:Shared)(f:Flow),Left X aa σ H' d C->Q (.ref D) H'->compPost (model X.prog X.w) X.A X.xe use R (.ref D) C (.ok f) d):wpAny (model X.prog X.w) X.A (comprehension (.ListComp aP [⟨tg,iter,aC,0⟩] scope pos) scope X.env pp (newList []) (firstAsync [⟨tg,iter,aC,0⟩]) (firstIter [⟨tg,iter,aC,0⟩] X.env) use) R X.xe s:=
 Ec hc hk (fun y hy e=>absurd e (c y hy)) i j hfr b hi (fun a C s₀ H₀ ex=>nf (X:=X) (N':=N') c a C s₀ H₀ ex▸hg a C s₀ H₀ ex) (fun a C s₀ H₀ ex=>nf (X:=X) (N':=N') c a C s₀ H₀ ex▸l a C s₀ H₀ ex) (fun a C s₀ H₀ ex=>nf (X:=X) (N':=N') c a C s₀ H₀ ex▸o a C s₀ H₀ ex) p I h fin
def Lx(hc:X.calm=true)(hk:scope.kind=.function)(c:∀y∈scope.names,y.2≠.cell)(i:∀y∈scope.names,y.2=.free->scope.names.lookup y.1=some .free)(j:∀y∈scope.names,y.2=.local->scope.names.lookup y.1=some .local)(hfr:∀y∈scope.names,y.2=.free->X.env.kindOf y.1=some .cell\/X.env.kindOf y.1=some .free)(b:kW X.N N' aj scope)(hi:PI X tg iter wi)(hg:∀a C s₀ H₀ ex,PG (d0 X scope N' a C s₀ H₀ ex) tg g)(l:∀a C s₀ H₀ ex,gu (d0 X scope N' a C s₀ H₀ ex) aC tc)(o:∀a C s₀ H₀ ex,PE (d0 X scope N' a C s₀ H₀ ex) aP te)(p:∀x,foldedSetIterable iter X.env x=pure x:=by intro _;rfl):PE X (.ListComp aP [⟨tg,iter,aC,0⟩] scope pos) (gw wi aj g tc te):=by
 intro aa s σ H Q I h;rw[eval_ListComp];refine Lw (use:=none) hc hk c i j hfr b hi hg l o p I h fun D C H' r f L q=>?_;obtain⟨m,e⟩:=L.ns;exact⟨m,e,fun h' d=>⟨.ref D,H',L.back h' d,rfl,q⟩⟩
end
end L2
end
section
namespace Zp
open PySem PySem.Spec PyProof.Rows
section
variable{prog:Program}{w:World}{A:Around}{E:Ω}{s:Shared}
def Ly{it t:Addr}{i:Nat}{c:Array Value}{x:Value}{Q:Ω}(b:s.heap.IsTupleIter it t i)(f:s.heap.IsTuple t c)(hx:c[i]?=some x)(g:∀h',h'.IsTupleIter it t (i+1)->Heap.SameBut it s.heap h'->Q x {s with heap:=h'}):wpAny (model prog w) A (Builtin.SmallTypes.nextOf (.ref it)) Q E s:=by
 obtain⟨o,a,hc,hd⟩:=id b;obtain⟨h,d,_,j,e⟩:=f;unfold Builtin.SmallTypes.nextOf;refine Ae (wpAny_callSpecial?_slot (name:=Str.ofString "__next__") b.typeIs F.slot_tuple_iterator_next (wpAny_call_entry F.slot_tuple_iterator_next b.typeIs F.entry_tuple_iterator_next ?_ (F.args_tuple_iterator_next_1 _)));show wpAny _ _ (field (.ref it) 0 >>= _) _ _ s;refine Ae (wpAny_field a hd (x:=.ref t) rfl ?_);show wpAny _ _ (if(Value.ref t==Value.none)=true then _ else _) _ _ s;rw[if_neg (show ¬((Value.ref t==Value.none)=true) from AG)];show wpAny _ _ (field (.ref it) 1 >>= _) _ _ s;refine Ae (wpAny_field a hd (x:=.int i 0) rfl ?_);show wpAny _ _ (seqItems? (.ref t) >>= _) _ _ s;refine Ae (wpAny_seqItems d e ?_);simp only[Int.toNat_natCast,hx];refine Ae (wpAny_setField a hd (by simp) (An ⟨x,rfl,An (g _ ?_ (Heap.SameBut.update ..))⟩));exact⟨_,Heap.get?_update_self _ a (Obj.isFreed_of_fields (Obj.data_mapFields hd _)),(Obj.cls_mapFields ..).trans hc,by
  rw[Obj.data_mapFields hd];simp[rawInt]⟩
def Lz{it t:Addr}{i:Nat}{d:Array Value}{Q:Ω}(f:A.handled=none)(c:s.heap.IsTupleIter it t i)(j:s.heap.IsTuple t d)(hx:d[i]?=none)(l:∀h' e,Heap.ExtBut it s.heap h'->(∃o,h'.get? e=some o/\o.cls=.type "StopIteration")->E (.ref e) {s with heap:=h'}):wpAny (model prog w) A (Builtin.SmallTypes.nextOf (.ref it)) Q E s:=by
 obtain⟨o,b,hc,hd⟩:=id c;obtain⟨p,g,_,q,h⟩:=j;unfold Builtin.SmallTypes.nextOf;refine Ae (wpAny_callSpecial?_slot (name:=Str.ofString "__next__") c.typeIs F.slot_tuple_iterator_next (wpAny_call_entry F.slot_tuple_iterator_next c.typeIs F.entry_tuple_iterator_next ?_ (F.args_tuple_iterator_next_1 _)));show wpAny _ _ (field (.ref it) 0 >>= _) _ _ s;refine Ae (wpAny_field b hd (x:=.ref t) rfl ?_);show wpAny _ _ (if(Value.ref t==Value.none)=true then _ else _) _ _ s;rw[if_neg (show ¬((Value.ref t==Value.none)=true) from AG)];show wpAny _ _ (field (.ref it) 1 >>= _) _ _ s;refine Ae (wpAny_field b hd (x:=.int i 0) rfl ?_);show wpAny _ _ (seqItems? (.ref t) >>= _) _ _ s;refine Ae (wpAny_seqItems g h ?_);simp only[Int.toNat_natCast,hx];refine Ae (wpAny_rule (Ae (wpAny_setField b hd (by simp) ?_)));show wpAny _ _ (newExc (.type "StopIteration") [] >>= _) _ _ _;refine Ae ?_;simp only[newExc,newTuple];refine Ae (wpAny_newObj_type ?_ (by size_fits));refine Ae (m:=firstArgMember _ _) (wpAny_of_eq (a:=Value.none) (by first|rfl|(simp only[firstArgMember];rfl)) ?_);refine wpAny_newObj_type ?_ (by size_fits);simp only[raiseNew];refine Ae (wpAny_handled ?_)
 first|rw[show A.in1.handled=none from f]|rw[f]
 refine Ae (An (wpAny_throw ?_));exact l _ _ (((Heap.SameBut.update ..).extBut.push _).push _) ⟨_,AH _ rfl,rfl⟩
end
def LA{h h':Heap}{a:Addr}{b:Array Value}(x:h.IsTuple a b)(e:∀o,h.get? a=some o->h'.get? a=some o):h'.IsTuple a b:=let ⟨o,ho,r⟩:=x;⟨o,e o ho,r⟩
def G0{prog:Program}{w:World}{A:Around}(j:A.handled=none)(it t:Addr)(b:t≠it)(a:Array Value):Draws prog w A it [it,t] a.size (fun i v=>a[i]?=some v) (fun i h=>h.IsTupleIter it t i/\h.IsTuple t a) where
 live:=fun _ _ st=>let ⟨o,ho,_⟩:=st.1;⟨o,ho⟩
 frame:=fun _ _ _ st hk=>⟨st.1.at fun o e=>hk it (by simp) o e,LA st.2 fun o e=>hk t (by simp) o e⟩
 item:=fun i s Q E hi st d=>by
  refine Ly st.1 st.2 (x:=a[i]) (by simp[hi]) fun h' f c=>?_;exact d _ h' s.toks (by simp[hi]) ⟨f,st.2.extBut c.extBut b⟩ c
 done:=fun s Q E st g=>Lz j st.1 st.2 (by simp) g
structure Apart(z TI TO i1 i2:Addr)(bW bZ:List Addr):Prop where
 z1:z∉bW
 z2:z∉bZ
 o1:TO∉bW
 o2:TO∉bZ
 m1:i1∈bW
 m2:i2∈bZ
 x12:i1∉bZ
 x21:i2∉bW
 TIz:TI≠z
 TOz:TO≠z
 TITO:TI≠TO
 TIi1:TI≠i1
 TIi2:TI≠i2
section
variable{prog:Program}{w:World}{A:Around}{E:Ω}{s:Shared}{z TI TO i1 i2:Addr}{bW bZ:List Addr}{n1 n2 i:Nat}{P1 P2:Nat->Value->Prop}{S1 S2:Nat->Heap->Prop}{a b:Value}
def LB{Q:Ω}(D1:Draws prog w A i1 bW n1 P1 S1)(D2:Draws prog w A i2 bZ n2 P2 S2)(D:Apart z TI TO i1 i2 bW bZ)(hz:IsZip s.heap z TI TO .none)(c_:IsPair s.heap TI (.ref i1) (.ref i2))(di:IsPair s.heap TO a b)(h1:S1 i s.heap)(h2:S2 i s.heap)(l1:i<n1)(l2:i<n2)(hQ:∀x y h' tk,P1 i x->P2 i y->IsZip h' z TI TO (rawInt s⁻¹)->IsPair h' TO x y->S1 (i+1) h'->S2 (i+1) h'->IsPair h' s⁻¹ x y->h'.objs.size=s⁻¹+1->
   (∀c o,c≠z->c≠TO->c≠i1->c≠i2->s.heap.get? c=some o->h'.get? c=some o)->Q (.ref s⁻¹) {s with heap:=h',toks:=tk}):
  wpAny (model prog w) A (Builtin.«zip.__next__» ⟨[.ref z],[]⟩) (fun fin s'=>∃v,fin=.done (.ret v)/\Q v s') E s:=by
 have f:∀c∈bW,c≠z:=fun c hc e=>D.z1 (e▸hc);have N:∀c∈bZ,c≠z:=fun c hc e=>D.z2 (e▸hc);have O:∀c∈bW,c≠TO:=fun c hc e=>D.o1 (e▸hc);have P:∀c∈bZ,c≠TO:=fun c hc e=>D.o2 (e▸hc);have mx:∀c∈bZ,c≠i1:=fun c hc e=>D.x12 (e▸hc);have ug:∀c∈bW,c≠i2:=fun c hc e=>D.x21 (e▸hc);have jL:i1≠z:=f _ D.m1;have mZ:i2≠z:=N _ D.m2;have gv:TO≠i1:=(O _ D.m1).symm;have kU:TO≠i2:=(P _ D.m2).symm;show wpAny _ _ (field (.ref z) 2 >>= _) _ _ _;refine Ae (wpAny_field hz rfl (x:=.bool false) rfl ?_);show wpAny _ _ (field (.ref z) 3 >>= _) _ _ _;refine Ae (wpAny_field hz rfl (x:=.ref TI) rfl ?_);refine Ae (wpAny_seqItems c_ rfl ?_);show wpAny _ _ (Builtin.SmallTypes.ownedTupleIsFree (.ref z) >>= _) _ _ _;refine Ae ?_;unfold Builtin.SmallTypes.ownedTupleIsFree;refine Ae (wpAny_field hz rfl (x:=.none) rfl (An ?_));simp only[if_true];refine Ae (wpAny_rule ?_);refine Ae (wpAny_field hz rfl (x:=.ref TO) rfl ?_);refine Ae (wpAny_setField_rec hz (by simp) fun g1 F g=>?_);replace F:IsZip g1 z TI TO .ellipsis:=F;refine Ae ?_;simp only[List.zipIdx_cons,List.zipIdx_nil,List.forIn_cons,List.forIn_nil];refine Ae (Ae (wpAny_onRaise ?_));show wpAny _ _ (Builtin.SmallTypes.nextOf (.ref i1) >>= _) _ _ _;refine Ae (D1.item i _ _ _ l1 (D1.frame _ _ _ h1 fun c hc o e=>g.extBut c o (f c hc) e) fun x g2 xM Z s2 h=>An ?_);have S:IsPair g2 TO a b:=h.extBut _ _ gv (g.extBut _ _ D.TOz di);refine Ae (wpAny_seqItems S rfl ?_);refine Ae (wpAny_updateSeq_pair S fun g3 G j=>?_);replace G:IsPair g3 TO x b:=G;refine Ae (wpAny_letGo (An ?_));refine Ae (Ae (wpAny_onRaise ?_));show wpAny _ _ (Builtin.SmallTypes.nextOf (.ref i2) >>= _) _ _ _;refine Ae (D2.item i _ _ _ l2 (D2.frame _ _ _ h2 fun c hc o e=>j.extBut c o (P c hc) (h.extBut c o (mx c hc) (g.extBut c o (N c hc) e))) fun y g4 Bq py s4 l=>An ?_);have T:IsPair g4 TO x b:=l.extBut _ _ kU G;refine Ae (wpAny_seqItems T rfl ?_);refine Ae (wpAny_updateSeq_pair T fun d r p=>?_);replace r:IsPair d TO x y:=r;refine Ae (wpAny_letGo (An (An ?_)));refine Ae (wpAny_seqItems r rfl ?_);refine Ae (wpAny_newTuple ?_);have hsz:d.objs.size=s⁻¹:=by rw[p.1,l.1,j.1,h.1,g.1]
 have U:IsZip d z TI TO .ellipsis:=p.extBut _ _ D.TOz.symm (l.extBut _ _ mZ.symm (j.extBut _ _ D.TOz.symm (h.extBut _ _ jL.symm F)));have kk:∀c o,c≠z->c≠TO->c≠i1->c≠i2->s.heap.get? c=some o->d.get? c=some o:=fun c o c1 u H I e=>
  p.extBut _ _ u (l.extBut _ _ I (j.extBut _ _ u (h.extBut _ _ H (g.extBut _ _ c1 e))))
 have d1:S1 (i+1) d:=D1.frame _ _ _ s2 fun c hc o e=>p.extBut c o (O c hc) (l.extBut c o (ug c hc) (j.extBut c o (O c hc) e));have d2:S2 (i+1) d:=D2.frame _ _ _ s4 fun c hc o e=>p.extBut c o (P c hc) e;have W:z<d.objs.size:=At U;have e1:∀c∈bW,∀o,d.get? c=some o->c<d.objs.size:=fun c _ o e=>At e;show wpAny _ _ (Builtin.SmallTypes.ownedTupleHandOut (.ref z) (.ref d.objs.size) >>= _) _ _ _;refine Ae ?_;unfold Builtin.SmallTypes.ownedTupleHandOut;have z6:IsZip (d.push {cls:=.type "tuple",data:=.seq #[x,y]}) z TI TO .ellipsis:=Ai _ U;refine Ae (wpAny_setField_rec z6 (by simp) fun g7 J L=>?_);replace J:IsZip g7 z TI TO (rawInt d.objs.size):=J;refine wpAny_setField_rec J (by simp) fun q C M=>?_;replace C:IsZip q z TI TO (rawInt d.objs.size):=C;have up:∀c o,c≠z->d.get? c=some o->q.get? c=some o:=fun c o c1 e=>M.extBut _ _ c1 (L.extBut _ _ c1 (Ai _ e));have Y:IsPair q d.objs.size x y:=M.extBut _ _ (Nat.ne_of_gt W) (L.extBut _ _ (Nat.ne_of_gt W) (AH _ rfl));have X:q.objs.size=d.objs.size+1:=by rw[M.1,L.1,Heap.size_push]
 rw[hsz] at C Y X;refine An ⟨_,rfl,?_⟩;show Q (.ref d.objs.size) _;rw[hsz];exact hQ x y q _ Z py C (up _ _ D.TOz r) (D1.frame _ _ _ d1 fun c hc o e=>up c o (f c hc) e) (D2.frame _ _ _ d2 fun c hc o e=>up c o (N c hc) e) Y X fun c o c1 u H I e=>up c o c1 (kk c o c1 u H I e)
def LC{Q:Fin->Shared->Prop}(D1:Draws prog w A i1 bW n1 P1 S1)(D2:Draws prog w A i2 bZ n2 P2 S2)(D:Apart z TI TO i1 i2 bW bZ)(hz:IsZip s.heap z TI TO .none)(c_:IsPair s.heap TI (.ref i1) (.ref i2))(di:IsPair s.heap TO a b)(h1:S1 i s.heap)(h2:S2 i s.heap)(S:i=n1\/(i<n1/\i=n2))(M:∀h' e tk,(∀c o,c≠z->c≠TO->c≠i1->c≠i2->s.heap.get? c=some o->h'.get? c=some o)->(∃o,h'.get? e=some o/\o.cls=.type "StopIteration")->E (.ref e) {s with heap:=h',toks:=tk}):wpAny (model prog w) A (Builtin.«zip.__next__» ⟨[.ref z],[]⟩) Q E s:=by
 have l:∀c∈bW,c≠z:=fun c hc e=>D.z1 (e▸hc);have G:∀c∈bZ,c≠z:=fun c hc e=>D.z2 (e▸hc);have U:∀c∈bW,c≠TO:=fun c hc e=>D.o1 (e▸hc);have W:∀c∈bZ,c≠TO:=fun c hc e=>D.o2 (e▸hc);have X:∀c∈bZ,c≠i1:=fun c hc e=>D.x12 (e▸hc);have H:i1≠z:=l _ D.m1;have Y:i2≠z:=G _ D.m2;have Z:TO≠i1:=(U _ D.m1).symm;show wpAny _ _ (field (.ref z) 2 >>= _) _ _ _;refine Ae (wpAny_field hz rfl (x:=.bool false) rfl ?_);show wpAny _ _ (field (.ref z) 3 >>= _) _ _ _;refine Ae (wpAny_field hz rfl (x:=.ref TI) rfl ?_);refine Ae (wpAny_seqItems c_ rfl ?_);show wpAny _ _ (Builtin.SmallTypes.ownedTupleIsFree (.ref z) >>= _) _ _ _;refine Ae ?_;unfold Builtin.SmallTypes.ownedTupleIsFree;refine Ae (wpAny_field hz rfl (x:=.none) rfl (An ?_));simp only[if_true];refine Ae (wpAny_rule ?_);refine Ae (wpAny_field hz rfl (x:=.ref TO) rfl ?_);refine Ae (wpAny_setField_rec hz (by simp) fun g1 p h=>?_);replace p:IsZip g1 z TI TO .ellipsis:=p;refine Ae ?_;simp only[List.zipIdx_cons,List.zipIdx_nil,List.forIn_cons,List.forIn_nil];refine Ae (Ae (wpAny_onRaise ?_));have f1:=D1.frame _ _ _ h1 fun c hc o e=>h.extBut c o (l c hc) e;rcases S with u|⟨T,u⟩
 ·show wpAny _ _ (Builtin.SmallTypes.nextOf (.ref i1) >>= _) _ _ _
  refine Ae (D1.done _ _ _ (u▸f1) fun g2 e d q=>?_);obtain⟨v,f,j⟩:=q;have I:IsZip g2 z TI TO .ellipsis:=d _ _ H.symm p;have y:e≠z:=fun x=>by subst x;rw[I] at f;cases f;simp at j
  refine wpAny_setField_rec I (by simp) fun g3 _ g=>M g3 e _ (fun c o c1 _ r _ x=>g.extBut _ _ c1 (d _ _ r (h.extBut _ _ c1 x))) ⟨v,g.extBut _ _ y f,j⟩
 ·show wpAny _ _ (Builtin.SmallTypes.nextOf (.ref i1) >>= _) _ _ _
  refine Ae (D1.item i _ _ _ T f1 fun x g2 xM px s2 d=>An ?_);have J:IsPair g2 TO a b:=d.extBut _ _ Z (h.extBut _ _ D.TOz di);refine Ae (wpAny_seqItems J rfl ?_);refine Ae (wpAny_updateSeq_pair J fun g3 t3 g=>?_);refine Ae (wpAny_letGo (An ?_));refine Ae (Ae (wpAny_onRaise ?_));have f2:S2 i g3:=D2.frame _ _ _ h2 fun c hc o e=>g.extBut c o (W c hc) (d.extBut c o (X c hc) (h.extBut c o (G c hc) e));show wpAny _ _ (Builtin.SmallTypes.nextOf (.ref i2) >>= _) _ _ _;refine Ae (D2.done _ _ _ (u▸f2) fun g4 e C q=>?_);obtain⟨v,f,j⟩:=q;have L:IsZip g4 z TI TO .ellipsis:=C _ _ Y.symm (g.extBut _ _ D.TOz.symm (d.extBut _ _ H.symm p));have y:e≠z:=fun x=>by subst x;rw[L] at f;cases f;simp at j
  refine wpAny_setField_rec L (by simp) fun N _ F=>M N e _ (fun c o c1 O r P x=>F.extBut _ _ c1 (C _ _ P (g.extBut _ _ O (d.extBut _ _ r (h.extBut _ _ c1 x))))) ⟨v,F.extBut _ _ y f,j⟩
end
def G1{prog:Program}{w:World}{A:Around}{z TI TO i1 i2:Addr}{bW bZ:List Addr}{n1 n2:Nat}{P1 P2:Nat->Value->Prop}{S1 S2:Nat->Heap->Prop}(D1:Draws prog w A.in1 i1 bW n1 P1 S1)(D2:Draws prog w A.in1 i2 bZ n2 P2 S2)(D:Apart z TI TO i1 i2 bW bZ):WalksT prog w A z (z::TI::TO::(bW++bZ)) [z,TO,i1,i2] (min n1 n2) (fun i u=>∃x y,P1 i x/\P2 i y/\u=#[x,y])
   (fun i h=>IsZip h z TI TO .none/\IsPair h TI (.ref i1) (.ref i2)/\(∃a b,IsPair h TO a b)/\S1 i h/\S2 i h)
   (fun i T h=>IsZip h z TI TO (rawInt T)/\IsPair h TI (.ref i1) (.ref i2)/\(∃a b,IsPair h TO a b)/\S1 (i+1) h/\S2 (i+1) h/\T≠z/\T≠TO/\T≠i1/\T≠i2) where
 sub:=fun c hc=>by
  simp at hc ⊢;rcases hc with rfl|rfl|rfl|rfl
  ·simp
  ·simp
  ·exact .inr (.inr (.inr (.inl D.m1)))
  ·exact .inr (.inr (.inr (.inr D.m2)))
 frame:=fun i h h' j hk=>by
  obtain⟨hz,f,⟨a,b,g⟩,h1,h2⟩:=j;exact⟨hk z (by simp) _ hz,hk TI (by simp) _ f,⟨a,b,hk TO (by simp) _ g⟩,D1.frame _ _ _ h1 fun c hc o e=>hk c (by simp[hc]) o e,D2.frame _ _ _ h2 fun c hc o e=>hk c (by simp[hc]) o e⟩
 item:=fun i s Q E hi j l=>by
  obtain⟨hz,f,⟨a,b,g⟩,h1,h2⟩:=j;have d:s.TypeIs (.ref z) "zip":=⟨_,hz,rfl⟩;unfold pyNext;refine Ae (wpAny_attempt (wpAny_callSpecial?_slot (name:=Str.ofString "__next__") d F.slot_zip_next (wpAny_call_entry F.slot_zip_next d F.entry_zip_next
   (LB D1 D2 D hz f g h1 h2 (AC hi (Nat.min_le_left ..)) (AC hi (Nat.min_le_right ..)) fun x y h' tk v C a1 a2 a3 a4 a5 U hk=>An ?_) (F.args_zip_next_1 _))))
  have lt:∀{c o},s.heap.get? c=some o->s⁻¹≠c:=fun e=>Nat.ne_of_gt (At e);obtain⟨W,I⟩:=D1.live _ _ h1;obtain⟨X,J⟩:=D2.live _ _ h2;exact l s⁻¹ #[x,y] h' tk ⟨_,_,v,C,rfl⟩ (Ad _) ⟨_,a5,rfl,_,rfl⟩ ⟨a1,hk _ _ D.TIz D.TITO D.TIi1 D.TIi2 f,⟨_,_,a2⟩,a3,a4,lt hz,lt g,lt I,lt J⟩
   fun c o hc e=>hk c o (fun x=>hc (by simp[x])) (fun x=>hc (by simp[x])) (fun x=>hc (by simp[x])) (fun x=>hc (by simp[x])) e
 go:=fun aM k pos i T s Q E r l=>by
  obtain⟨hz,f,⟨a,b,g⟩,h1,h2,_⟩:=r;refine wpAny_letOwnedTupleGo_zip hz fun h' G p=>l h' ⟨G,p.extBut _ _ D.TIz f,⟨a,b,p.extBut _ _ D.TOz g⟩,
   D1.frame _ _ _ h1 fun c hc o e=>p.extBut c o (fun q=>D.z1 (q▸hc)) e,D2.frame _ _ _ h2 fun c hc o e=>p.extBut c o (fun q=>D.z2 (q▸hc)) e⟩ fun c o hc e=>p.extBut _ _ (fun x=>hc (by simp[x])) e
 apart:=fun i T h r d=>by
  obtain⟨_,_,_,_,_,L,M,N,O⟩:=r;simp at d;rcases d with rfl|rfl|rfl|rfl
  ·exact L rfl
  ·exact M rfl
  ·exact N rfl
  ·exact O rfl
 done:=fun s Q E j l=>by
  obtain⟨hz,f,⟨a,b,g⟩,h1,h2⟩:=j;have d:s.TypeIs (.ref z) "zip":=⟨_,hz,rfl⟩;have S:min n1 n2=n1\/(min n1 n2<n1/\min n1 n2=n2):=ω
  unfold pyNext;refine Ae (wpAny_attempt (wpAny_callSpecial?_slot (name:=Str.ofString "__next__") d F.slot_zip_next
   (wpAny_call_entry F.slot_zip_next d F.entry_zip_next (LC D1 D2 D hz f g h1 h2 S fun h' e tk hk H=>?_) (F.args_zip_next_1 _))))
  obtain⟨o,P,hc⟩:=H;refine Ae (wpAny_isInstance (T:="StopIteration") (b:=true) ⟨o,P,hc⟩ isSubtype_stop ?_);exact An (l _ tk fun c o hc e=>hk c o (fun x=>hc (by simp[x])) (fun x=>hc (by simp[x])) (fun x=>hc (by simp[x])) (fun x=>hc (by simp[x])) e)
 self:=fun i s Q E j l=>wpAny_pyIter_zip j.1 l
end Zp
end
section
namespace L2
open PySem PySem.Spec PyProof.Rows
section
variable{X:Cx}{aa:Ψ}{σ:St}{H:Hp}{s:Shared}{h':Heap}
def Inv.turneds{t':Nat}{ch:List Addr}(I:Inv X aa σ H s)(d:∀b∈ch,ce X aa H b)(k:∀b o,b∉ch->s.heap.get? b=some o->h'.get? b=some o):Inv X aa σ H {s with heap:=h',toks:=t'}:=by
 have a:∀b u,H b=some u->b∉ch:=fun b u e z=>by have:=(d b z).1;rw[this] at e;cases e
 refine I.step (g':=s.gens) (d':=s.drawn) (ch:=ch) (fun b hb=>?_) (fun b o _ _ hc e _=>k b o hc e) (fun b o _ _ hc e _=>⟨o.slots,k b o hc e⟩) (fun _ _ _ _ n=>n)
  (fun b o hc e=>⟨o,k b o hc e⟩) (fun _ _ e=>e) (fun _ _ _ e=>e) (fun b ps e=>⟨#[],by rw[e];simp⟩) (fun m f=>?_) (fun b u e=>?_) I.bare
 ·obtain⟨l,f1,f2,g,h,i⟩:=d b hb
  exact⟨g,f1,h,i⟩
 ·obtain⟨o,es,ep,j,r⟩:=f
  exact⟨o,es,ep,k _ o (fun z=>(d _ z).2.1 rfl) j,r⟩
 ·refine(I.hok b u e).stay (fun c v hc q=>k c v ?_ q) (fun _ q=>q) fun _ _ q=>q
  rcases hc with z|z
  ·rw[z];exact a b u e
  ·exact a c _ z
def Inv.adopt{a:Addr}{o:HO}(I:Inv X aa σ H s)(d:H a=none)(h1:X.s₀⁻¹<=a)(h2:a≠X.env.locals)(g:∀x c,X.env.cells.lookup x=some c->c≠a)(h:∀p∈X.pn++aa,p.1≠a)(new:zad X.prog X.w (upd H a o) s.heap a o):Inv X aa σ (upd H a o) s:=by
 refine I.step (h':=s.heap) (g':=s.gens) (t':=s.toks) (d':=s.drawn) (ch:=[a]) (fun b hb=>?_) (fun b o _ _ hc e _=>e) (fun b o _ _ hc e _=>⟨o.slots,e⟩) (fun b o hc e n=>?_)
  (fun b o hc e=>⟨o,e⟩) (fun b xs e=>?_) (fun b o u e=>?_) (fun b ps e=>⟨#[],?_⟩) (fun m f=>f) (fun b u e=>?_) I.bare
 ·have e:b=a:=by simpa using hb
  subst e;exact⟨.inr h1,h2,g,h⟩
 ·rw[af (fun z=>hc (by simp[z]))];exact n
 ·rw[af (zm e d)];exact e
 ·rw[af (zm e d)];exact e
 ·rw[af (zm e d),e];simp
 ·by_cases hb:b=a
  ·subst hb;rw[zc] at e;cases e;exact new
  ·rw[af hb] at e
   exact(I.hok b u e).stay (fun _ _ _ q=>q) (fun c q=>by rw[af (zm q d)];exact q) fun c xs q=>by rw[af (zm q d)];exact q
def Inv.grown{t':Nat}{ch:List Addr}{a:Addr}{o:HO}(I:Inv X aa σ H s)(f:∀b∈ch,ce X aa H b)(k:∀b o,b∉ch->s.heap.get? b=some o->h'.get? b=some o)(hp:s⁻¹<=a)(new:zad X.prog X.w (upd H a o) h' a o):Inv X aa σ (upd H a o) {s with heap:=h',toks:=t'}:=by
 have I1:Inv X aa σ H {s with heap:=h',toks:=t'}:=I.turneds f k;obtain⟨c,f1,f2,g,d,e⟩:=I.fpOk hp (I.hok.fresh hp);exact I1.adopt c (Ag I.sz hp) f1 d e new
def G2{b t:Addr}{o:Obj}(I:Inv X aa σ H s)(f:ce X aa H b)(hk:X.K.lookup t=some o):t≠b:=by
 intro z;subst z;have e:=I.ok.mod.kin t o hk;rcases f.2.2.2.1 with q|q
 ·exact I.ok.noex t o e q
 ·exact absurd (AC (At (I.ok.bs t o e).1) q) (Nat.lt_irrefl _)
def G3{b t:Addr}{xs:List V}(I:Inv X aa σ H s)(f:ce X aa H b)(h:SqT X.K H t xs):t≠b:=by
 rcases h with (h|⟨o,h⟩)|⟨o,_,_,hk,_⟩
 ·exact zm h f.1
 ·exact zm h f.1
 ·exact G2 I f hk
def Ed{b t:Addr}{xs:List V}(I:Inv X aa σ H s)(f:ce X aa H b)(h:SqL X.K H t xs):t≠b:=by
 rcases h with (h|⟨o,h⟩)|⟨o,_,_,hk,_⟩
 ·exact zm h f.1
 ·exact zm h f.1
 ·exact G2 I f hk
end
def Ee{P:Program}{w:World}{K:Af}{J:It}{a wr:List Addr}{it:Addr}{tn:Nat->Heap->Prop}{aM:List Expr}{k:Nat}{pos:Pos}(mem:it∈a)(obj:∀i h,tn i h->∀b∈a,∃o,h.get? b=some o/\∀v,o.data≠.cell v)(keep:∀i h h',tn i h->(∀b∈a,∀o,h.get? b=some o->h'.get? b=some o)->tn i h')(hw:∀b∈wr,b∈a)(W:∀(X:Cx),X.prog=P->X.w=w->X.K=K->X.calm=true->∀(i:Nat)(aa:Ψ)(s:Shared)(σ:St)(H:Hp),Inv X aa σ H s->(∀b∈a,ce X aa H b)->tn i s.heap->(J.go i H\/J.stop i H)->
   ∃(z:List Addr)(n:Nat)(x:Nat->Array Value->Prop)(S:Nat->Heap->Prop)(Mid:Nat->Addr->Heap->Prop),WalksT P w X.A it z wr n x S Mid/\S i s.heap/\(∀j h,S j h->tn j h)/\
    (J.go i H->i<n/\∀d,x i d->∃xs:List V,Vals xs d.toList/\xs.length<=sizeLine/\∀p,H p=none->J.yld i H (.ref p) (upd H p (.tup xs)))/\(J.stop i H->i=n))
  (self:∀(A:Around)(i:Nat)(s:Shared)(Q:Ω)(E:Ω),tn i s.heap->Q (.ref it) s->wpAny (model P w) A (pyIter (.ref it)) Q E s) :
  Turn P w K (.Tuple aM k pos) J a it tn where
 mem:=mem
 obj:=obj
 keep:=keep
 item:=by
  intro X f l r hc i aa s σ H E I c st hg;obtain⟨z,n,x,S,Mid,WT,C,D,g,_⟩:=W X f l r hc i aa s σ H I c st (.inl hg);obtain⟨hi,O⟩:=g hg;subst f l r;refine WT.item i s _ _ hi C fun T d h' tk hp y F G hk=>⟨.ref T,rfl,?_⟩;obtain⟨xs,U,hz,hy⟩:=O d hp;have I1:Inv X aa σ (upd H T (.tup xs)) {s with heap:=h',toks:=tk}:=I.grown (ch:=wr) (fun b hb=>c b (hw b hb)) hk y (show zad X.prog X.w _ h' T (.tup xs) from⟨hz,d.toList,U,by have q:IsTup h' T d:=F;simpa using q⟩);have Z:∀b∈a,b≠T:=fun b hb=>by
   obtain⟨o,e,_⟩:=obj i _ st b hb;exact AB (AC (At e) y)
  have u:∀b∈a,ce X aa (upd H T (.tup xs)) b:=fun b hb=>by
   obtain⟨Y,fr⟩:=c b hb;exact⟨by rw[af (Z b hb)];exact Y,fr⟩
  refine WT.go aM k pos i T _ _ _ G fun L M N=>?_;have I2:Inv X aa σ (upd H T (.tup xs)) {s with heap:=L,toks:=tk}:=I1.turneds (s:={s with heap:=h',toks:=tk}) (t':=tk) (ch:=wr) (fun b hb=>u b (hw b hb)) N;exact⟨.ref T,_,I2,rfl,hy T (I.hok.fresh y),D _ _ M,fun b hb=>(u b hb).1⟩
 done:=by
  intro X f l r hc i aa s σ H E I c st hg;obtain⟨z,n,x,S,Mid,WT,C,D,_,g⟩:=W X f l r hc i aa s σ H I c st (.inr hg);subst f l r;have e:=g hg;subst e;exact WT.done s _ _ C fun h' tk hk=>⟨rfl,I.turneds (ch:=wr) (fun b hb=>c b (hw b hb)) hk⟩
 self:=self
noncomputable def Cr(K:Af)(a b:Addr):It:=
 ⟨fun i H=>∃xs ys,SqT K H a xs/\SqT K H b ys/\i<min xs.length ys.length,
  fun i H v H'=>∃p x y,v=.ref p/\H p=none/\H'=upd H p (.tup [x,y])/\(∀xs,SqT K H a xs->xs[i]?=some x)/\∀ys,SqT K H b ys->ys[i]?=some y,
  fun i H=>∃xs ys,SqT K H a xs/\SqT K H b ys/\i=min xs.length ys.length⟩
def c9:(2:Nat)<=sizeLine:=by rw[sizeLine_eq];decide
def LD{P:Program}{w:World}{K:Af}{aM:List Expr}{k:Nat}{pos:Pos}(C D z TI TO i1 i2:Addr)(hd:TI≠z/\TO≠z/\TI≠TO/\TI≠i1/\TI≠i2/\z≠i1/\z≠i2/\TO≠i1/\TO≠i2/\i1≠i2):Turn P w K (.Tuple aM k pos) (Cr K C D) [z,TI,TO,i1,i2] z (fun i h=>IsZip h z TI TO .none/\IsPair h TI (.ref i1) (.ref i2)/\(∃a b,IsPair h TO a b)/\h.IsTupleIter i1 C i/\h.IsTupleIter i2 D i):=by
 obtain⟨d1,d2,d3,d4,d5,d6,d7,d8,d9,O⟩:=hd;refine Ee (wr:=[z,TO,i1,i2]) (by simp) (fun i h st b hb=>?_) (fun i h h' st c=>?_) (fun b hb=>?_) (fun X hP hw hK hc i aa s σ H I N st iW=>?_) fun A i s Q E st h=>wpAny_pyIter_zip st.1 h
 ·obtain⟨a1,a2,⟨a,b',a3⟩,⟨o4,a4,_,F⟩,⟨o5,a5,_,e5⟩⟩:=st
  simp at hb;rcases hb with rfl|rfl|rfl|rfl|rfl
  ·exact⟨_,a1,fun v z=>by cases z⟩
  ·exact⟨_,a2,fun v z=>by cases z⟩
  ·exact⟨_,a3,fun v z=>by cases z⟩
  ·exact⟨_,a4,fun v z=>by rw[F] at z;cases z⟩
  ·exact⟨_,a5,fun v z=>by rw[e5] at z;cases z⟩
 ·obtain⟨a1,a2,⟨a,b',a3⟩,a4,a5⟩:=st
  exact⟨c z (by simp) _ a1,c TI (by simp) _ a2,⟨a,b',c TO (by simp) _ a3⟩,a4.at fun o e=>c i1 (by simp) o e,a5.at fun o e=>c i2 (by simp) o e⟩
 ·simp at hb ⊢
  rcases hb with rfl|rfl|rfl|rfl<;>simp
 ·subst hP hw hK
  have hd:∃xs ys,SqT X.K H C xs/\SqT X.K H D ys:=by
   rcases iW with ⟨xs,ys,a,b,_⟩|⟨xs,ys,a,b,_⟩
   ·exact⟨xs,ys,a,b⟩
   ·exact⟨xs,ys,a,b⟩
  obtain⟨xs,ys,d,l⟩:=hd;obtain⟨us,S,p1,_⟩:=I.tuple d;obtain⟨T,U,p2,_⟩:=I.tuple l;have W:=S.length;have Y:=U.length;have Z:=I.ok.hd hc;obtain⟨a1,a2,a3,a4,a5⟩:=st;have f:=fun b hb=>G3 I (N b hb) d;have G:=fun b hb=>G3 I (N b hb) l;have AP:Zp.Apart z TI TO i1 i2 [i1,C] [i2,D]:=by
   refine⟨?_,?_,?_,?_,by simp,by simp,?_,?_,d1,d2,d3,d4,d5⟩
   ·simp;exact⟨d6,(f z (by simp)).symm⟩
   ·simp;exact⟨d7,(G z (by simp)).symm⟩
   ·simp;exact⟨d8,(f TO (by simp)).symm⟩
   ·simp;exact⟨d9,(G TO (by simp)).symm⟩
   ·simp;exact⟨O,(G i1 (by simp)).symm⟩
   ·simp;exact⟨O.symm,(f i2 (by simp)).symm⟩
  have WZ:=Zp.G1 (prog:=X.prog) (w:=X.w) (A:=X.A) (Zp.G0 (A:=X.A.in1) Z i1 C (f i1 (by simp)) us.toArray) (Zp.G0 (A:=X.A.in1) Z i2 D (G i2 (by simp)) T.toArray) AP;refine⟨_,_,_,_,_,WZ,⟨a1,a2,a3,⟨a4,p1⟩,⟨a5,p2⟩⟩,fun j h st=>⟨st.1,st.2.1,st.2.2.1,st.2.2.2.1.1,st.2.2.2.2.1⟩,fun g=>?_,fun g=>?_⟩
  ·obtain⟨q,r,J,L,hi⟩:=g
   have e1:=I.tuple_inj J d;have e2:=I.tuple_inj L l;subst e1 e2;refine⟨by simpa[<-W,<-Y] using hi,fun aF hp=>?_⟩;obtain⟨x,y,px,py,rfl⟩:=hp;have ig:us[i]?=some x:=by simpa using px
   have M:T[i]?=some y:=by simpa using py
   have lx:i<q.length:=ω
   have ly:i<r.length:=ω
   have gx:q[i]?=some q[i]:=by simp[lx]
   have gy:r[i]?=some r[i]:=by simp[ly]
   obtain⟨u,e3,ru⟩:=S.get gx;obtain⟨u',F,cH⟩:=U.get gy;rw[ig] at e3;cases e3;rw[M] at F;cases F;refine⟨[q[i],r[i]],.cons ru (.cons cH .nil),c9,fun p hp=>⟨p,_,_,rfl,hp,rfl,fun zs hz=>?_,fun zs hz=>?_⟩⟩
   ·rw[I.tuple_inj hz d];exact gx
   ·rw[I.tuple_inj hz l];exact gy
  ·obtain⟨q,r,J,L,hi⟩:=g
   have e1:=I.tuple_inj J d;have e2:=I.tuple_inj L l;subst e1 e2
   simpa[<-W,<-Y] using hi
def LF(b e:Addr)(xs ys:Array Value):Meets (Builtin.«zip.__new__» ⟨[.type "zip",.ref b,.ref e],[]⟩) (fun _ R s=>s.heap.IsTuple b xs/\s.heap.IsTuple e ys/\
   ∀h',IsZip h' (s⁻¹+4) (s⁻¹+2) (s⁻¹+3) .none->IsPair h' (s⁻¹+2) (.ref s⁻¹) (.ref (s⁻¹+1))->
   IsPair h' (s⁻¹+3) .none .none->h'.IsTupleIter s⁻¹ b 0->h'.IsTupleIter (s⁻¹+1) e 0->
   (∀c o,s.heap.get? c=some o->h'.get? c=some o)->R (.ok (.ret (.ref (s⁻¹+4)))) {s with heap:=h'}):=
 .of_wp fun prog w A R s h=>by
  obtain⟨hp,g,d,tk,os⟩:=s;obtain⟨f,i,h⟩:=h;have p:=sub_zip;have j:Heap.IsTuple (Shared.heap ⟨hp,g,d,tk,os⟩) b xs:=f;have l:Heap.IsTuple (Shared.heap ⟨hp.push {cls:=.type "tuple_iterator",data:=.fields #[.ref b,.int 0 0]},g,d,tk,os⟩) e ys:=Heap.IsTuple.push i _
  wp_walk using wpAny_pyIter_tuple j,wpAny_pyIter_tuple l
  refine⟨_,rfl,?_⟩;dsimp only at h ⊢;have a:∀(h:Heap)(o:Obj),(h.push o).objs.size=h.objs.size+1:=fun h o=>Heap.size_push ..;simp only[a,Nat.add_assoc,Nat.reduceAdd];refine h _ ?_ ?_ ?_ ?_ ?_ fun c o x=>Ai _ (Ai _ (Ai _ (Ai _ (Ai _ x))))
  ·exact Heap.get?_push_at (by simp only[a]) rfl
  ·exact Ai _ (Ai _ (Heap.get?_push_at (by simp only[a]) rfl))
  ·exact Ai _ (Heap.get?_push_at (by simp only[a]) rfl)
  ·exact⟨_,Ai _ (Ai _ (Ai _ (Ai _ (AH _ rfl)))),rfl,rfl⟩
  ·exact⟨_,Ai _ (Ai _ (Ai _ (Heap.get?_push_at (by simp only[a]) rfl))),rfl,rfl⟩
section
variable{X:Cx}{aM:List Expr}{k:Nat}{cF:Pos}
def Ef(K:Af)(ta:TA):TI:=fun σ H R=>ta σ H fun vs H1=>∃a b,vs=[.ref a,.ref b]/\(∃xs,SqT K H1 a xs)/\(∃ys,SqT K H1 b ys)/\R (Cr K a b) H1
def LG{a b:Expr}{ta:TA}{p pos:Pos}(hg:Gl X "zip")(C:X.mg "zip"=none)(D:A5 "zip"=some (.type "zip"))(E:PA X [a,b] ta)(G:starEach [a,b] X.env=[(false,eval a X.env),(false,eval b X.env)]:=by rfl)(j:starEach [b] X.env=[(false,eval b X.env)]:=by rfl):PI X (.Tuple aM k cF) (.Call (.Name "zip" p) [a,b] [] pos) (Ef X.K ta):=by
 intro aa s σ H R I h;refine Call_ (iS I hg C D (PyProof.Rows.callWith_type1 (aY (E pos aa s σ H _ I h) fun us c ⟨vs,H1,I1,l,d⟩=>?_) (by rw[G,j]) (by rw[j];rfl)));obtain⟨f,g,e,⟨xs,d⟩,⟨ys,r⟩,q⟩:=d;subst e;obtain⟨u,L,rfl,v,w⟩:=vals2 l;cases v;cases w;obtain⟨x,_,y,_⟩:=I1.tuple d;obtain⟨A,_,p2,_⟩:=I1.tuple r;refine callType_new F.called_zip ξ (F.typeCall_zip_2 _ _) (F.newCall_zip_2 _ _) (fun obj=>F.args_object_init_3 obj _ _) F.entry_zip_new (LF f g x.toArray A.toArray) ⟨y,p2,fun h' a1 a2 a3 a4 a5 o=>?_⟩;refine⟨⟨_,a1,rfl⟩,wpAny_pyIter_zip a1 ?_⟩;have J:Inv X aa σ H1 {c with heap:=h'}:=I1.kept (t':=c.toks) o;refine⟨c⁻¹+4,[c⁻¹+4,c⁻¹+2,c⁻¹+3,c⁻¹,c⁻¹+1],_,_,H1,rfl,J,LD f g _ _ _ _ _ (by refine⟨?_,?_,?_,?_,?_,?_,?_,?_,?_,?_⟩<;>(intro z;have M:(_:Nat)=_:=z;(first|lia|omega))),⟨a1,a2,⟨_,_,a3⟩,a4,a5⟩,fun b hb=>?_,q⟩;have i:c⁻¹<=b:=by
  simp only[List.mem_cons,List.not_mem_nil,or_false] at hb;rcases hb with rfl|rfl|rfl|rfl|rfl
  ·exact Bh _ _
  ·exact Bh _ _
  ·exact Bh _ _
  ·exact Ad _
  ·exact Bh _ _
 exact I1.fpOk i (I1.hok.fresh i)
end
noncomputable def Eg(K:Af)(a:Addr):It:=
 ⟨fun i H=>∃xs,SqL K H a xs/\i<xs.length,
  fun i H v H'=>∃p x,v=.ref p/\H p=none/\H'=upd H p (.tup [.int i,x])/\∀xs,SqL K H a xs->xs[i]?=some x,
  fun i H=>∃xs,SqL K H a xs/\i=xs.length⟩
def LJ{P:Program}{w:World}{K:Af}{aM:List Expr}{k:Nat}{pos:Pos}(a e it:Addr)(hd:e≠it):Turn P w K (.Tuple aM k pos) (Eg K a) [e,it] e (fun i h=>(∃old,IsEnum h e it i old)/\h.IsListIter it a i):=by
 refine Ee (wr:=[e,it]) (by simp) (fun i h st b hb=>?_) (fun i h h' st y=>?_) (fun b hb=>hb) (fun X G hw J hc i aa s σ H I L st M=>?_) fun A i s Q E st h=>?_
 ·obtain⟨⟨old,a1⟩,⟨o4,a4,_,N⟩⟩:=st
  simp at hb;rcases hb with rfl|rfl
  ·exact⟨_,a1,fun v z=>by cases z⟩
  ·exact⟨_,a4,fun v z=>by rw[N] at z;cases z⟩
 ·obtain⟨⟨old,a1⟩,a4⟩:=st
  exact⟨⟨old,y e (by simp) _ a1⟩,a4.at fun o q=>y it (by simp) o q⟩
 ·subst G hw J
  have r:∃xs,SqL X.K H a xs:=by
   rcases M with ⟨xs,q,_⟩|⟨xs,q,_⟩
   ·exact⟨xs,q⟩
   ·exact⟨xs,q⟩
  obtain⟨xs,c⟩:=r;obtain⟨us,C,O,_⟩:=I.list c;have D:=C.length;have U:=I.ok.hd hc;obtain⟨a1,a4⟩:=st;have f:=fun b hb=>Ed I (L b hb) c;have Y:=WalksT.enumerateD (prog:=X.prog) (w:=X.w) (A:=X.A) (Draws.list (A:=X.A.in1) U it a (f it (by simp)) us.toArray) e hd (by simp;exact⟨hd,(f e (by simp)).symm⟩) (by simp);refine⟨_,_,_,_,_,Y,⟨a1,a4,O.isList⟩,fun j h st=>⟨st.1,st.2.1⟩,fun g=>?_,fun g=>?_⟩
  ·obtain⟨d,l,hi⟩:=g
   have e1:=I.list_inj l c;subst e1;refine⟨by simpa[<-D] using hi,fun Z hp=>?_⟩;obtain⟨t,x,S,rfl⟩:=hp;have W:us[i]?=some x:=by simpa using S
   have F:d[i]?=some d[i]:=by simp[hi]
   obtain⟨u,e3,T⟩:=C.get F;rw[W] at e3;cases e3;refine⟨[.int i,d[i]],.cons ⟨_,rfl⟩ (.cons T .nil),c9,fun p hp=>⟨p,_,rfl,hp,rfl,fun zs hz=>?_⟩⟩;rw[I.list_inj hz c];exact F
  ·obtain⟨d,l,hi⟩:=g
   have e1:=I.list_inj l c;subst e1
   simpa[<-D] using hi
 ·obtain⟨⟨old,a1⟩,_⟩:=st
  exact wpAny_pyIter_enum a1 h
section
variable{X:Cx}{aM:List Expr}{k:Nat}{cF:Pos}
def LK(K:Af)(ta:TA):TI:=fun σ H R=>ta σ H fun vs H1=>∃a,vs=[.ref a]/\(∃xs,SqL K H1 a xs)/\R (Eg K a) H1
def G4{a:Expr}{ta:TA}{p pos:Pos}(hg:Gl X "enumerate")(o:X.mg "enumerate"=none)(r:A5 "enumerate"=some (.type "enumerate"))(v:PA X [a] ta)(w:starEach [a] X.env=[(false,eval a X.env)]:=by rfl):PI X (.Tuple aM k cF) (.Call (.Name "enumerate" p) [a] [] pos) (LK X.K ta):=by
 intro aa s σ H R I h;refine Call_ (iS I hg o r (PyProof.Rows.callWith_type1 (aY (v pos aa s σ H _ I h) fun us c ⟨vs,H1,I1,g,d⟩=>?_) w rfl));obtain⟨a',e,⟨xs,d⟩,q⟩:=d;subst e;obtain⟨u,rfl,j⟩:=vals1 g;cases j;obtain⟨y,_,l,_⟩:=I1.list d;refine call_enumerate_list l.isList fun h' a1 a2 a3 i=>?_;refine wpAny_pyIter_enum a1 ?_;have x:Inv X aa σ H1 {c with heap:=h'}:=I1.kept (t':=c.toks) i;refine⟨c⁻¹+1,[c⁻¹+1,c⁻¹],_,_,H1,rfl,x,LJ a' _ _ (by intro z;have A:(_:Nat)=_:=z;(first|lia|omega)),⟨⟨_,a1⟩,a2⟩,fun b hb=>?_,q⟩;have f:c⁻¹<=b:=by
  simp only[List.mem_cons,List.not_mem_nil,or_false] at hb;rcases hb with rfl|rfl
  ·exact Bh _ _
  ·exact Ad _
 exact I1.fpOk f (I1.hok.fresh f)
def d_:∀{bs:List Bool}{us:List Value},Vals (bs.map V.bl) us->LSm.BoolsAre us bs
 |[],_,.nil=>.nil
 |b::bs,_,.cons r t=>by cases r;exact .cons b (d_ t)
def iZ(hc:X.calm=true):eS X (.builtin "all") (fun xs H Q=>∃(l:Addr)(bs:List Bool),xs=[.ref l]/\SqL X.K H l (bs.map V.bl)/\Q (.bl (bs.all id)) H):=by
 intro aa s σ H xs us Q I r h;obtain⟨l,bs,rfl,hq,q⟩:=h;obtain⟨u,rfl,g⟩:=vals1 r;cases g;obtain⟨ad,j,o,_⟩:=I.list hq;have p:=I.ok.hd hc;have a:=o.isList;have hb:=d_ j;have c:l<s⁻¹:=by obtain⟨_,e,_⟩:=a;exact At e
 refine call_all_walk (wpAny_pyIter_list a ?_);refine⟨s⁻¹,[s⁻¹,l],[s⁻¹],ad.toArray.size,_,_,fun i=>(bs[i]?).getD true,rfl,Walks.list (A:=X.A.in1) p _ l (AB c) ad.toArray,
  ⟨⟨_,AH _ rfl,rfl,rfl⟩,a.push _⟩,fun i v s' w x f d=>?_,fun h' tk hk=>?_⟩
 ·obtain⟨b,e,rfl⟩:=hb.get i v (by simpa using f)
  simp only[e,Option.getD_some] at d;exact wpAny_truthy_bool d
 ·have e:((Ah ad.toArray.size).all fun i=>(bs[i]?).getD true)=bs.all id:=by
   rw[Au,hb.length];exact LSm.range_all bs
  rw[e];exact⟨.bl _,H,I.kept (LSm.kept_iter hk),rfl,q⟩
end
section
variable{K:Af}{a:Addr}{xs:List V}{g:TG}{tc:TT}{te:TE}{σ:St}{H1:Hp}{Q:VK}{D:Addr}
def Eh(n:Nat)(a:Nat->St->List V->Hp->Prop)(i m:Nat)(σ:St)(H:Hp):Prop:=m=n-i/\i<=n/\∃ys,ys.length<=i/\a i σ ys H
def eI(n:Nat)(d:Nat->St->List V->Hp->Prop)(D:Addr)(i:Nat)(c:St):VK:=fun y b=>∃ys a,b D=some (.lst ys)/\ys.length<sizeLine/\a<n-i/\Eh n d (i+1) a c (upd b D (.lst (ys++[y])))
def df(n:Nat)(c:Nat->St->List V->Hp->Prop)(i:Nat)(b:St)(d:Hp):Prop:=∃a,a<n-i/\Eh n c (i+1) a b d
def bI{n:Nat}{c:Nat->St->List V->Hp->Prop}{i:Nat}{b:St}{ys:List V}{y:V}{a:Hp}(d:n<=sizeLine)(hi:i<n)(f:ys.length<=i)(e:a D=some (.lst ys))(p:c (i+1) b (ys++[y]) (upd a D (.lst (ys++[y])))):eI n c D i b y a:=
 ⟨ys,n-(i+1),e,ω,ω,rfl,hi,ys++[y],by simp;(first|lia|omega),p⟩
def gS{n:Nat}{b:Nat->St->List V->Hp->Prop}{i:Nat}{a:St}{ys:List V}{c:Hp}(hi:i<n)(d:ys.length<=i)(p:b (i+1) a ys c):df n b i a c:=
 ⟨n-(i+1),ω,rfl,hi,ys,ω,p⟩
def nj{J:It}(n:Nat)(a:Nat->St->List V->Hp->Prop)(l:a 0 σ [] (upd H1 D (.lst [])))(o:∀σ ys H,a n σ ys H->J.stop n H)(q:∀i σ ys H,i<n->a i σ ys H->J.go i H)(r:∀i σ ys H x H',i<n->ys.length<=i->a i σ ys H->J.yld i H x H'->g x σ H' fun d s=>tc d s fun b h=>if b=true then te d h (eI n a D i d) else df n a i d h)(hd:∀σ ys H,a n σ ys H->Q (.ref D) H):cf J g tc te σ H1 D Q:=by
 refine⟨Eh n a,⟨n,by simp,Aw _,[],Ad _,l⟩,?_⟩;rintro i m f H2 ⟨rfl,hi,ys,j,p⟩
 by_cases c:i<n
 ·exact .inr ⟨q i f ys H2 c p,fun x u y=>r i f ys H2 x u c j p y⟩
 ·have e:i=n:=ω
  subst e;exact .inl ⟨o f ys H2 p,hd f ys H2 p⟩
def jF(c:Nat->St->List V->Hp->Prop)(j:c 0 σ [] (upd H1 D (.lst [])))(f:∀i σ ys H,c i σ ys H->SqL K H a xs)(l:∀i σ ys H x,xs[i]?=some x->i<xs.length->ys.length<=i->c i σ ys H->g x σ H fun d o=>tc d o fun b h=>if b=true then te d h (eI xs.length c D i d) else df xs.length c i d h)(hd:∀σ ys H,c xs.length σ ys H->Q (.ref D) H):cf (eP K a) g tc te σ H1 D Q:=by
 refine nj xs.length c j (fun σ ys H p=>⟨xs,f _ _ _ _ p,Ad _⟩) (fun i σ ys H hi p=>⟨xs,xs[i],f _ _ _ _ p,by simp[hi]⟩) (fun i σ ys H x H' hi hy p y=>?_) hd;obtain⟨e,y⟩:=y;subst e;exact l i σ ys _ x (y xs (f _ _ _ _ p)) hi hy p
def G5(c:Nat->St->List V->Hp->Prop)(j:c 0 σ [] (upd H1 D (.lst [])))(f:∀i σ ys H,c i σ ys H->SqT K H a xs)(l:∀i σ ys H x,xs[i]?=some x->i<xs.length->ys.length<=i->c i σ ys H->g x σ H fun d o=>tc d o fun b h=>if b=true then te d h (eI xs.length c D i d) else df xs.length c i d h)(hd:∀σ ys H,c xs.length σ ys H->Q (.ref D) H):cf (qi K a) g tc te σ H1 D Q:=by
 refine nj xs.length c j (fun σ ys H p=>⟨xs,f _ _ _ _ p,Ad _⟩) (fun i σ ys H hi p=>⟨xs,xs[i],f _ _ _ _ p,by simp[hi]⟩) (fun i σ ys H x H' hi hy p y=>?_) hd;obtain⟨e,y⟩:=y;subst e;exact l i σ ys _ x (y xs (f _ _ _ _ p)) hi hy p
def nn{lo:Int}{n:Nat}(a:Nat->St->List V->Hp->Prop)(f:a 0 σ [] (upd H1 D (.lst [])))(h:∀i σ ys H,i<n->ys.length<=i->a i σ ys H->g (.int (lo+i)) σ H fun c j=>tc c j fun b d=>if b=true then te c d (eI n a D i c) else df n a i c d)(hd:∀σ ys H,a n σ ys H->Q (.ref D) H):cf (fM lo n) g tc te σ H1 D Q:=by
 refine nj n a f (fun σ ys H p=>Ad _) (fun i σ ys H hi p=>hi) (fun i σ ys H x H' hi hy p y=>?_) hd;obtain⟨e,y⟩:=y;subst e y;exact h i σ ys _ hi hy p
def LN{e f:Addr}{ys:List V}(a:Nat->St->List V->Hp->Prop)(q:a 0 σ [] (upd H1 D (.lst [])))(c:∀i σ zs H,a i σ zs H->SqT K H e xs/\SqT K H f ys)(r:∀i σ zs H p x y,xs[i]?=some x->ys[i]?=some y->i<min xs.length ys.length->zs.length<=i->a i σ zs H->H p=none->g (.ref p) σ (upd H p (.tup [x,y])) fun d s=>tc d s fun b h=>if b=true then te d h (eI (min xs.length ys.length) a D i d) else df (min xs.length ys.length) a i d h)(hd:∀σ zs H,a (min xs.length ys.length) σ zs H->Q (.ref D) H):cf (Cr K e f) g tc te σ H1 D Q:=by
 refine nj (min xs.length ys.length) a q (fun σ zs H p=>⟨xs,ys,(c _ _ _ _ p).1,(c _ _ _ _ p).2,rfl⟩) (fun i σ zs H hi p=>⟨xs,ys,(c _ _ _ _ p).1,(c _ _ _ _ p).2,hi⟩) (fun i σ zs H v H' hi hy p y=>?_) hd;obtain⟨pp,x,j,rfl,hp,rfl,l,o⟩:=y;exact r i σ zs H pp x j (l xs (c _ _ _ _ p).1) (o ys (c _ _ _ _ p).2) hi hy p hp
end
end L2
end
section
namespace Dk
open PySem PySem.Spec PyProof.Rows
def IsD(h:Heap)(d:Addr)(es:Array DictEntry)(ep:Nat):Prop:=∃o,h.get? d=some o/\o.ExactDict/\o.data=.dict es ep
def IsD.at{h h':Heap}{d:Addr}{es:Array DictEntry}{ep:Nat}(x:IsD h d es ep)(k:∀o,h.get? d=some o->h'.get? d=some o):IsD h' d es ep:=let ⟨o,ho,r⟩:=x;⟨o,k o ho,r⟩
def IsD.lt{h:Heap}{d:Addr}{es:Array DictEntry}{ep:Nat}(x:IsD h d es ep):d<h.objs.size:=let ⟨_,ho,_⟩:=x;At ho
section
variable{prog:Program}{w:World}{A:Around}{E:Ω}{s:Shared}{it d:Addr}{i ep:Nat}{es:Array DictEntry}
def IsD.typeIs(x:IsD s.heap d es ep):s.TypeIs (.ref d) "dict":=let ⟨o,ho,r⟩:=x;⟨o,ho,r.1.1⟩
def iter{Q:Ω}(hd:(d==sysModules)=false)(e:IsD s.heap d es ep)(f:Q (.ref s⁻¹) {s with heap:=s.heap.push {cls:=.type "dict_keyiterator",data:=.fields #[.ref d,.int 0 0,.int es.size 0,.int ep 0]}}):wpAny (model prog w) A (pyIter (.ref d)) Q E s:=by
 have a:=e.typeIs;obtain⟨o,b,hc,c⟩:=id e;refine wpAny_pyIter_slot a PySem.F.slot_dict_iter (wpAny_call_entry PySem.F.slot_dict_iter a PySem.F.entry_dict_iter ?_ (PySem.F.args_dict_iter_1 _));unfold Builtin.«dict.__iter__»;refine Ae ?_;unfold Builtin.Dict.dictSlotNone;refine Ae (wpAny_notOrdered_dict a ?_);show wpAny _ _ (pure (Value.ref d)) _ _ s;refine An ?_;show wpAny _ _ (Builtin.Dict.showsAll d >>= _) _ _ s;unfold Builtin.Dict.showsAll;rw[if_neg (by rw[hd];exact AG)];refine Ae (An ?_);refine Ae (wpAny_dictEntries b c ?_);refine Ae (wpAny_dictEpoch b c ?_);refine Ae (wpAny_newObj_type (An ⟨_,rfl,"dict_keyiterator",_,⟨_,AH _ rfl,rfl⟩,PySem.F.slot_dict_keyiterator_next.lookup,?_⟩))
 simpa[rawInt] using f
def item{Q:Option Value->Shared->Prop}(a:s.heap.IsKeyIter it d i es.size ep)(h:IsD s.heap d es ep)(hx:i<es.size)(j:∀h',h'.IsKeyIter it d (i+1) es.size ep->Heap.SameBut it s.heap h'->Q (some es[i].key) {s with heap:=h'}):wpAny (model prog w) A (pyNext (.ref it)) Q E s:=by
 obtain⟨o,b,hc,hd⟩:=id a;obtain⟨l,c,p,e⟩:=id h;unfold pyNext;refine Ae (wpAny_attempt (wpAny_callSpecial?_slot (name:=Str.ofString "__next__") a.typeIs PySem.F.slot_dict_keyiterator_next
  (wpAny_call_entry PySem.F.slot_dict_keyiterator_next a.typeIs PySem.F.entry_dict_keyiterator_next ?_ (PySem.F.args_dict_keyiterator_next_1 _))))
 refine Ae (An ?_);refine Ae ?_;refine Ae ?_
 first|refine Ae (wpAny_typeNameOfWhole_keyiter a.typeIs (An ?_))|refine Ae (wpAny_typeNameOf_keyiter a.typeIs (An ?_))
 refine Ae (wpAny_fieldsOf b hd ?_);have g:Builtin.Dict_items.ownsTuple "dict_keyiterator"=false:=ξ
 simp only[g,Bool.false_eq_true,if_false];show wpAny _ _ (if(Value.ref d==Value.none)=true then _ else _) _ _ s;rw[if_neg (show ¬((Value.ref d==Value.none)=true) from AG)];refine Ae (An ?_);refine Ae (wpAny_dictEntries c e ?_);rw[if_neg (by simp)];refine Ae (An ?_);refine Ae (wpAny_dictEpoch c e ?_);rw[if_neg (by simp)];refine An ?_;simp only[show ¬((i:Int)<0) from ω,if_false,Int.toNat_natCast,Array.getElem?_eq_getElem hx];refine Ae ?_
 first|refine Ae (wpAny_typeNameOfWhole_keyiter a.typeIs (An ?_))|refine Ae (wpAny_typeNameOf_keyiter a.typeIs (An ?_))
 refine Ae (wpAny_isOneOf_keyiter a.typeIs ?_);show wpAny _ _ (setField (.ref it) 1 (rawInt ((i:Int)+1)) >>= _) _ _ s;refine Ae (wpAny_setField b hd (by simp) ?_);have f:(s.heap.update it (Obj.mapFields (·.setIfInBounds 1 (rawInt ((i:Int)+1))))).IsKeyIter it d (i+1) es.size ep:=
  ⟨_,Heap.get?_update_self _ b (Obj.isFreed_of_fields (Obj.data_mapFields hd _)),(Obj.cls_mapFields ..).trans hc,by rw[Obj.data_mapFields hd];simp[rawInt]⟩
 refine Ae (wpAny_holding ?_);refine Ae (wpAny_isOneOf_keyiter (s:={s with heap:=s.heap.update it (Obj.mapFields (·.setIfInBounds 1 (rawInt ((i:Int)+1))))}) f.typeIs ?_);show wpAny _ _ (pure es[i].key) _ _ _;exact An (An ⟨_,rfl,An (j _ f (Heap.SameBut.update ..))⟩)
def done{Q:Option Value->Shared->Prop}(i:A.handled=none)(c:s.heap.IsKeyIter it d es.size es.size ep)(j:IsD s.heap d es ep)(l:∀h',Heap.ExtBut it s.heap h'->Q none {s with heap:=h'}):wpAny (model prog w) A (pyNext (.ref it)) Q E s:=by
 obtain⟨o,e,hc,hd⟩:=id c;obtain⟨p,f,q,g⟩:=id j;unfold pyNext;refine Ae (wpAny_attempt (wpAny_callSpecial?_slot (name:=Str.ofString "__next__") c.typeIs PySem.F.slot_dict_keyiterator_next
  (wpAny_call_entry PySem.F.slot_dict_keyiterator_next c.typeIs PySem.F.entry_dict_keyiterator_next ?_ (PySem.F.args_dict_keyiterator_next_1 _))))
 refine Ae (An ?_);refine Ae ?_;refine Ae ?_
 first|refine Ae (wpAny_typeNameOfWhole_keyiter c.typeIs (An ?_))|refine Ae (wpAny_typeNameOf_keyiter c.typeIs (An ?_))
 refine Ae (wpAny_fieldsOf e hd ?_);have h:Builtin.Dict_items.ownsTuple "dict_keyiterator"=false:=ξ
 simp only[h,Bool.false_eq_true,if_false];show wpAny _ _ (if(Value.ref d==Value.none)=true then _ else _) _ _ s;rw[if_neg (show ¬((Value.ref d==Value.none)=true) from AG)];refine Ae (An ?_);refine Ae (wpAny_dictEntries f g ?_);rw[if_neg (by simp)];refine Ae (An ?_);refine Ae (wpAny_dictEpoch f g ?_);rw[if_neg (by simp)];refine An ?_;simp only[show ¬((es.size:Int)<0) from ω,if_false,Int.toNat_natCast,Array.getElem?_eq_none (Ad es.size)];refine Ae ?_
 first|refine Ae (wpAny_typeNameOfWhole_keyiter c.typeIs (An ?_))|refine Ae (wpAny_typeNameOf_keyiter c.typeIs (An ?_))
 show wpAny _ _ (setField (.ref it) 0 .none >>= _) _ _ s;refine Ae (wpAny_setField e hd (by simp) ?_);show wpAny _ _ (newExc (.type "StopIteration") [] >>= _) _ _ _;refine Ae ?_;simp only[newExc,newTuple];refine Ae (wpAny_newObj_type ?_ (by size_fits));refine Ae (m:=firstArgMember _ _) (wpAny_of_eq (a:=Value.none) (by first|rfl|(simp only[firstArgMember];rfl)) ?_);refine wpAny_newObj_type ?_ (by size_fits);simp only[raiseNew];refine Ae (wpAny_handled ?_);rw[show A.in1.handled=none from i];refine Ae (An (wpAny_throw ?_));refine Ae (wpAny_isInstance (T:="StopIteration") (b:=true) ⟨_,AH _ rfl,rfl⟩ isSubtype_stop ?_);exact An (l _ (((Heap.SameBut.update ..).extBut.push _).push _))
def walks(l:A.handled=none)(I d:Addr)(c:d≠I)(es:Array DictEntry)(ep:Nat):Walks prog w A I [I,d] [I] es.size (fun i v=>∃e,es[i]?=some e/\v=e.key) (fun i h=>h.IsKeyIter I d i es.size ep/\IsD h d es ep) where
 sub:=fun b hb=>by simp at hb ⊢;exact .inl hb
 frame:=fun i h h' st k=>⟨let ⟨o,ho,r⟩:=st.1;⟨o,k I (by simp) o ho,r⟩,st.2.at fun o e=>k d (by simp) o e⟩
 item:=fun i s Q E hi st a=>item st.1 st.2 hi fun h' g f=>a _ h' s.toks ⟨es[i],by simp[hi],rfl⟩ ⟨g,st.2.at fun o e=>(f.2 d c).trans e⟩ fun b o hb e=>(f.2 b (fun z=>hb (by simp[z]))).trans e
 done:=fun s Q E st a=>done l st.1 st.2 fun h' j=>a h' s.toks fun b o hb e=>j b o (fun z=>hb (by simp[z])) e
 self:=fun i s Q E st a=>wpAny_pyIter_keyiter st.1 a
def src(lo:(d==sysModules)=false):PySem.W.KdlSrc prog w "dict" d d es.size (fun i v=>∃e,es[i]?=some e/\v=e.key) (fun h=>IsD h d es ep) where
 type:=fun _ a=>a.typeIs
 there:=fun _ a=>⟨a.lt,a.lt⟩
 keep:=fun _ _ a hk=>a.at fun o e=>hk d (.inl rfl) o e
 notList:=ξ
 notTuple:=ξ
 hint:=fun _ _ _ _ a hq=>PySem.W.kdl_hint_dict a.typeIs hq
 iter:=fun _ s b a=>⟨_,_,(fun _ _ hq=>iter lo a hq),walks b _ d (AB a.lt) es ep,⟨⟨_,AH _ rfl,rfl,rfl⟩,a.at fun o e=>Ai _ e⟩⟩
end
end Dk
namespace L2
open PySem PySem.Spec PyProof.Rows
section
variable{X:Cx}
def LO{P:Program}{w:World}{k:Key}{u:Value}(h:(ey P w).is k u=true):RelV (kV k) u:=by
 rcases aR h with ⟨i,t,rfl,rfl⟩|⟨x,t,rfl,rfl⟩
 ·exact⟨t,rfl⟩
 ·exact⟨t,rfl⟩
end
end L2
end
section
namespace L2
open PySem PySem.Spec PyProof.Rows
def Tp(H:Hp)(a:Addr)(ps:List Int):Prop:=H a=some (.tup (ps.map V.int))
abbrev Tps(H:Hp)(as:List Addr)(bT:Ξ):Prop:=Paired (fun a ps=>Tp H a ps) as bT
def Same.tp{H H':Hp}{a:Addr}{ps:List Int}(e:Same H H')(h:Tp H a ps):Tp H' a ps:=e _ _ h
def Same.new{H:Hp}{a:Addr}{o:HO}(h:H a=none):Same H (upd H a o):=fun b u e=>by rw[af (zm e h)];exact e
def Same.then{H H1:Hp}{a:Addr}{o:HO}(e:Same H H1)(h:H a=none):Same H (upd H1 a o):=fun b u q=>by rw[af (zm q h)];exact e b u q
def Tps.length{H:Hp}{a:List Addr}{b:Ξ}(h:Tps H a b):a.length=b.length:=Paired.length h
def Tps.get{H:Hp}:∀{b:List Addr}{c:Ξ}{i:Nat}{a:Addr},Tps H b c->b[i]?=some a->∃ps,c[i]?=some ps/\Tp H a ps
 |_,_,_,_,.nil,e=>by simp at e
 |_,_,0,_,.cons r _,e=>by simp at e;subst e;exact⟨_,rfl,r⟩
 |_,_,i+1,a,.cons _ t,e=>by
  obtain⟨u,h1,h2⟩:=Tps.get (i:=i) (a:=a) t (by simpa using e);exact⟨u,by simpa using h1,h2⟩
def Tps.snoc{H:Hp}{b:List Addr}{c:Ξ}{a:Addr}{ps:List Int}(h:Tps H b c)(q:Tp H a ps):Tps H (b++[a]) (c++[ps]):=by
 induction h with
 |nil=>exact .cons q .nil
 |cons r t ih=>exact .cons r ih
def Tps.append{H:Hp}{a bs:List Addr}{b c:Ξ}(h:Tps H a b)(q:Tps H bs c):Tps H (a++bs) (b++c):=by
 induction h with
 |nil=>exact q
 |cons r t ih=>exact .cons r ih
def Tps.take{H:Hp}:∀{a:List Addr}{b:Ξ}(n:Nat),Tps H a b->Tps H (a.take n) (b.take n)
 |_,_,0,_=>.nil
 |_,_,_+1,.nil=>.nil
 |_,_,n+1,.cons r t=>.cons r (Tps.take n t)
def Tps.drop{H:Hp}:∀{a:List Addr}{b:Ξ}(n:Nat),Tps H a b->Tps H (a.drop n) (b.drop n)
 |_,_,0,r=>r
 |_,_,_+1,.nil=>.nil
 |_,_,n+1,.cons _ t=>Tps.drop n t
section
variable{X:Cx}{scope:Scope}{N':List Str}{aj:List (Option Nat)}{tg iter aP:Expr}{aC:List Expr}{wi:TI}{g:TG}{tc:TT}{te:TE}{pos:Pos}
def LP(hc:X.calm=true)(hk:scope.kind=.function)(c:∀y∈scope.names,y.2=.cell->scope.names.lookup y.1=some .cell)(i:∀y∈scope.names,y.2=.free->scope.names.lookup y.1=some .free)(j:∀y∈scope.names,y.2=.local->scope.names.lookup y.1=some .local)(hfr:∀y∈scope.names,y.2=.free->X.env.kindOf y.1=some .cell\/X.env.kindOf y.1=some .free)(b:kW X.N N' aj scope)(hi:PI X tg iter wi)(hg:∀a C s₀ H₀ ex,PG (cxD X scope N' a C s₀ H₀ ex) tg g)(l:∀a C s₀ H₀ ex,gu (cxD X scope N' a C s₀ H₀ ex) aC tc)(o:∀a C s₀ H₀ ex,PE (cxD X scope N' a C s₀ H₀ ex) aP te)(p:∀x,foldedSetIterable iter X.env x=pure x:=by intro _;rfl):PE X (.ListComp aP [⟨tg,iter,aC,0⟩] scope pos) (gw wi aj g tc te):=by
 intro aa s σ H Q I h;rw[eval_ListComp];refine Ec (use:=none) hc hk c i j hfr b hi hg l o p I h fun D C H' r f L q=>?_;obtain⟨m,e⟩:=L.ns;exact⟨m,e,fun h' d=>⟨.ref D,H',L.back h' d,rfl,q⟩⟩
end
section
variable{X:Cx}
def LQ:eS X (.builtin "isinstance") (fun xs H Q=>∃n,xs=[.int n,.ty "int"]/\Q (.bl true) H):=by
 intro aa s σ H xs us Q I r h;obtain⟨n,rfl,q⟩:=h;obtain⟨u,c,rfl,a,b⟩:=vals2 r;cases b;exact B3 I a (.int n) (by first|rfl|kernel_rfl|decide +kernel) fun tk=>⟨.bl true,H,I.tok _,rfl,q⟩
def LR:eS X (.builtin "isinstance") (fun xs H Q=>∃n,xs=[.int n,.ty "bool"]/\Q (.bl false) H):=by
 intro aa s σ H xs us Q I r h;obtain⟨n,rfl,q⟩:=h;obtain⟨u,c,rfl,a,b⟩:=vals2 r;cases b;exact B3 I a (.int n) (by first|rfl|kernel_rfl|decide +kernel) fun tk=>⟨.bl false,H,I.tok _,rfl,q⟩
def G6:eS X (.builtin "isinstance") (fun xs H Q=>∃a ys,xs=[.ref a,.ty "list"]/\H a=some (.lst ys)/\Q (.bl true) H):=by
 intro aa s σ H xs us Q I r h;obtain⟨a,ys,rfl,b,q⟩:=h;obtain⟨u,e,rfl,c,d⟩:=vals2 r;cases d;exact B3 I c (.lst b) (by first|rfl|kernel_rfl|decide +kernel) fun tk=>⟨.bl true,H,I.tok _,rfl,q⟩
def LU:eS X (.builtin "isinstance") (fun xs H Q=>∃a ys,xs=[.ref a,.ty "tuple"]/\H a=some (.tup ys)/\Q (.bl true) H):=by
 intro aa s σ H xs us Q I r h;obtain⟨a,ys,rfl,b,q⟩:=h;obtain⟨u,e,rfl,c,d⟩:=vals2 r;cases d;exact B3 I c (.tup b) (by first|rfl|kernel_rfl|decide +kernel) fun tk=>⟨.bl true,H,I.tok _,rfl,q⟩
def G7(ns:List Int):∀k,k<=ns.length->preSum (fun i=>(ns[i]?).getD 0) k=(ns.take k).sum
 |0,_=>by simp[preSum]
 |k+1,h=>by
  have a:=G7 ns k ω;have e:ns[k]?=some ns[k]:=Ab ω;show preSum (fun i=>(ns[i]?).getD 0) k+(ns[k]?).getD 0=_;rw[a,List.take_add_one,e,List.sum_append];simp
def ints_get{ns:List Int}{ad:List Value}(r:Vals (ns.map V.int) ad){i:Nat}{v:Value}(h:ad[i]?=some v):∃n t,ns[i]?=some n/\v=.int n t:=by
 have c:ad.length=ns.length:=by rw[<-r.length,Aa]
 have hi:i<ns.length:=by rw[<-c];exact(List.getElem?_eq_some_iff.mp h).1
 have e:ns[i]?=some ns[i]:=Ab hi;obtain⟨u,a,b⟩:=r.get (show(ns.map V.int)[i]?=some (V.int ns[i]) by rw[Aj,e];rfl);rw[h] at a;obtain rfl:=AM a;obtain⟨t,rfl⟩:=b;exact⟨_,t,e,rfl⟩
def G8(hc:X.calm=true):eS X (.builtin "sum") (fun xs H Q=>∃(l:Addr)(ns:List Int),xs=[.ref l]/\SqL X.K H l (ns.map V.int)/\Q (.int ns.sum) H):=by
 intro aa s σ H xs us Q I r h;obtain⟨l,ns,rfl,hq,q⟩:=h;obtain⟨u,rfl,p⟩:=vals1 r;cases p;obtain⟨ad,f,w,_⟩:=I.list hq;have x:=I.ok.hd hc;have c:=w.isList;have a:l<s⁻¹:=by obtain⟨_,e,_⟩:=c;exact At e
 have y:ad.length=ns.length:=by rw[<-f.length,Aa]
 refine call_sum_walkAnyS (wpAny_pyIter_list c ?_);refine⟨s⁻¹,[s⁻¹,l],[s⁻¹],_,ad.toArray.size,_,_,fun i=>(ns[i]?).getD 0,rfl,(Walks.list (A:=X.A.in1) x _ l (AB a) ad.toArray).toS,
  ⟨⟨_,AH _ rfl,rfl,rfl⟩,c.push _⟩,fun b hb=>?_,fun i v g=>?_,fun s' t' d=>?_⟩
 ·have z:b<=s⁻¹:=by
   simp only[List.mem_cons,List.not_mem_nil,or_false] at hb;rcases hb with rfl|rfl
   ·exact Ad _
   ·exact Nat.le_of_lt a
  exact AD z (At (AH _ rfl))
 ·obtain⟨n,t,e,rfl⟩:=ints_get f (show ad[i]?=some v by simpa using g)
  exact⟨t,by simp only[e,Option.getD_some]⟩
 ·have e:preSum (fun i=>(ns[i]?).getD 0) ad.toArray.size=ns.sum:=by
   rw[Au,y,G7 ns _ (Ad _),Aq (Ad _)]
  rw[e,Moved.eq_with d];exact⟨.int _,H,I.kept (LSm.kept_iter fun b o hb j=>d.heap b o hb j),⟨_,rfl⟩,q⟩
end
end L2
end
section
namespace Tim
open PySem PyProof.Rows
noncomputable def R(ρ:Keyed->Int)(xs:Array Keyed)(i:Nat):Int:=match xs[i]? with
 |some p=>ρ p
 |none=>0
def rJ{ρ:Keyed->Int}{xs ys:Array Keyed}{i j:Nat}(h:xs[i]?=ys[j]?):R ρ xs i=R ρ ys j:=by unfold R;rw[h]
def i0{ρ:Keyed->Int}{xs:Array Keyed}{i:Nat}{p:Keyed}(h:xs[i]?=some p):R ρ xs i=ρ p:=by unfold R;rw[h]
def b7(ρ:Keyed->Int)(xs:Array Keyed)(lo hi:Nat):Prop:=∀i j,lo<=i->i<=j->j<hi->R ρ xs i<=R ρ xs j
def nq(ρ:Keyed->Int)(xs:Array Keyed)(lo hi:Nat):Prop:=∀i j,lo<=i->i<=j->j<hi->R ρ xs j<=R ρ xs i
def zZ{ρ:Keyed->Int}{xs:Array Keyed}{i j:Nat}(a:j<=xs.size)(k:Nat):R ρ (mirror xs i j ((j-i) / 2)) k=if i<=k/\k<j then R ρ xs (i+j-1-k) else R ρ xs k:=by
 have e:=getElem?_mirror_all (i:=i) a k
 by_cases h1:i<=k/\k<j
 ·rw[if_pos h1] at e ⊢;exact rJ e
 ·rw[if_neg h1] at e ⊢;exact rJ e
def zD{ρ:Keyed->Int}{xs:Array Keyed}{i j:Nat}(b:j<=xs.size)(a:∀k,i<=k->k<j->R ρ xs k=R ρ xs (j-1))(k:Nat):R ρ (mirror xs i j ((j-i) / 2)) k=R ρ xs k:=by
 rw[zZ b];split
 ·rw[a _ ω ω,a k ω ω]
 ·rfl
def nu{ρ:Keyed->Int}{xs:Array Keyed}{src d:Nat}(a:src<xs.size)(hd:d<=src)(k:Nat):R ρ (bubble xs src d) k=if k=src-d then R ρ xs src else if src-d<k/\k<=src then R ρ xs (k-1) else R ρ xs k:=by
 have e:=getElem?_bubble a d hd k
 by_cases h1:k=src-d
 ·rw[if_pos h1] at e ⊢;exact rJ e
 ·rw[if_neg h1] at e ⊢
  by_cases h2:src-d<k/\k<=src
  ·rw[if_pos h2] at e ⊢;exact rJ e
  ·rw[if_neg h2] at e ⊢;exact rJ e
structure io(prog:Program)(w:World)(A:Around)(s:Shared)(κ:SortKind)(a₀:Array Keyed)(ρ:Keyed->Int):Prop where
 lt:∀x y,x∈a₀.toList->y∈a₀.toList->∀(Q:Bool->Shared->Prop)(E:Ω),Q (decide (ρ x<ρ y)) s->wpAny (model prog w) A (keyLt' κ x.1 y.1) Q E s
structure B(κ:SortKind)(a₀:Array Keyed)(st:SortSt):Prop where
 perm:(arrOf st).Perm a₀
 kind:kindOf st=κ
 failed:failedOf st=none
def B.size{κ:SortKind}{a₀:Array Keyed}{st:SortSt}(h:B κ a₀ st):(arrOf st).size=a₀.size:=h.perm.size_eq
def B.setArr{κ:SortKind}{a₀:Array Keyed}{st:SortSt}(h:B κ a₀ st){xs:Array Keyed}(hp:xs.Perm (arrOf st)):B κ a₀ (setArr st xs):=⟨hp.trans h.perm,h.kind,h.failed⟩
def B.mem{κ:SortKind}{a₀:Array Keyed}{st:SortSt}(h:B κ a₀ st){p:Keyed}(hp:p∈(arrOf st).toList):p∈a₀.toList:=(Array.perm_iff_toList_perm.mp h.perm).mem_iff.mp hp
def G9{xs:Array Keyed}{i:Nat}(hi:i<xs.size):∃p,xs[i]?=some p/\p∈xs.toList:=⟨xs[i],getElem?_pos _ i hi,by simp⟩
structure Pre(lo:Nat)(st ae:SortSt):Prop where
 arr:∀k,k<lo->(arrOf ae)[k]?=(arrOf st)[k]?
 pend:pendingOf ae=pendingOf st
def Pre.refl{lo:Nat}{st:SortSt}:Pre lo st st:=⟨fun _ _=>rfl,rfl⟩
def Pre.trans{lo:Nat}{a b c:SortSt}(x:Pre lo a b)(y:Pre lo b c):Pre lo a c:=⟨fun k h=>(y.arr k h).trans (x.arr k h),y.pend.trans x.pend⟩
def Pre.mir{lo i j:Nat}{st:SortSt}(a:j<=(arrOf st).size)(hi:lo<=i):Pre lo st (setArr st (mirror (arrOf st) i j ((j-i) / 2))):=
 ⟨fun k h=>by show(mirror _ _ _ _)[k]?=_;rw[getElem?_mirror_all a,if_neg ω],rfl⟩
def Pre.bub{lo src d:Nat}{st:SortSt}(a:src<(arrOf st).size)(hd:d<=src)(b:lo<=src-d):Pre lo st (setArr st (bubble (arrOf st) src d)):=
 ⟨fun k h=>by show(bubble _ _ _)[k]?=_;rw[getElem?_bubble a d hd,if_neg ω,if_neg ω],rfl⟩
section
variable{prog:Program}{w:World}{A:Around}{E:Ω}{s:Shared}{κ:SortKind}{a₀:Array Keyed}{ρ:Keyed->Int}
def LV(C:io prog w A s κ a₀ ρ){st:SortSt}(a:B κ a₀ st){x y:Keyed}(hx:x∈a₀.toList)(hy:y∈a₀.toList){Q:Option Bool->SortSt->Prop}(h:Q (some (decide (ρ x<ρ y))) st):wpS (model prog w) A E s (lt' x y) Q st:=by
 rw[lt'_eq];refine wpS_bind (wpS_get ?_);rw[a.kind];refine wpS_bind (wpS_lift (wpAny_attempt (C.lt x y hx hy _ _ ⟨rfl,?_⟩)));exact wpS_pure h
def G_{st:SortSt}{xs:Array Keyed}{i:Nat}{p:Keyed}(h:xs[i]?=some p){Q:Keyed->SortSt->Prop}(hq:Q p st):wpS (model prog w) A E s (elem' xs i) Q st:=by
 rw[elem'_eq,h];exact wpS_pure hq
def rQ(C:io prog w A s κ a₀ ρ){st:SortSt}(a:B κ a₀ st){i j:Nat}(hi:i<a₀.size)(c:j<a₀.size){Q:Option Bool->SortSt->Prop}(h:Q (some (decide (R ρ (arrOf st) i<R ρ (arrOf st) j))) st):wpS (model prog w) A E s (ltAt' i j) Q st:=by
 obtain⟨p,e1,b⟩:=G9 (xs:=arrOf st) (i:=i) (by rw[a.size];exact hi);obtain⟨q,e2,m2⟩:=G9 (xs:=arrOf st) (i:=j) (by rw[a.size];exact c);rw[ltAt'_eq];refine wpS_bind (wpS_get ?_);show wpS _ _ _ _ (do let x <-elem' (arrOf st) i;let y <-elem' (arrOf st) j;lt' x y) Q st;refine wpS_bind (G_ e1 (wpS_bind (G_ e2 (LV C a (a.mem b) (a.mem m2) ?_))));rw[i0 e1,i0 e2] at h;exact h
noncomputable def asc(lo a b:Nat):StateT SortSt Sem AscSt:=
 forIn [a:b] ((none,a):AscSt) fun _ __s=>do
  let __x <-ltAt' (lo+__s.snd) (lo+__s.snd-1)
  match __x with
  |some smaller=>if smaller=true then pure (ForInStep.done (none,__s.snd)) else pure (ForInStep.yield (none,__s.snd+1))
  |_=>pure (ForInStep.done (some none,__s.snd))
noncomputable def rV(lo n a:Nat):StateT SortSt Sem (Option Nat):=do
 reverseSlice' lo (lo+n)
 let __s <-asc lo n a
 match __s.fst with
 |some r=>pure r
 |none=>pure (some __s.snd)
noncomputable def Cs(lo n a:Nat):StateT SortSt Sem DescSt:=
 forIn [n:a] ((none,n,0):DescSt) fun _ __s=>do
  let __x <-ltAt' (lo+__s.snd.fst) (lo+__s.snd.fst-1)
  match __x with
  |some smaller=>
   if smaller=true then
    if __s.snd.snd>0 then do
     reverseSlice' (lo+__s.snd.fst-(__s.snd.snd+1)) (lo+__s.snd.fst)
     pure (ForInStep.yield (none,__s.snd.fst+1,0))
    else pure (ForInStep.yield (none,__s.snd.fst+1,0))
   else do
    let __x <-ltAt' (lo+__s.snd.fst-1) (lo+__s.snd.fst)
    match __x with
    |some larger=>
     if larger=true then pure (ForInStep.done (none,__s.snd.fst,__s.snd.snd))
     else pure (ForInStep.yield (none,__s.snd.fst+1,__s.snd.snd+1))
    |_=>pure (ForInStep.done (some none,__s.snd.fst,__s.snd.snd))
  |_=>pure (ForInStep.done (some none,__s.snd.fst,__s.snd.snd))
noncomputable def rY(lo n a:Nat):StateT SortSt Sem (Option Nat):=do
 liftM (rule "list.sort.descending-run")
 let __s <-Cs lo (n+1) a
 match __s.fst with
 |some r=>pure r
 |none=>
  if __s.snd.snd>0 then do
   reverseSlice' (lo+__s.snd.fst-(__s.snd.snd+1)) (lo+__s.snd.fst)
   rV lo __s.snd.fst a
  else rV lo __s.snd.fst a
def a0{b c:Type}{m:StateT SortSt Sem b}{f g:b->StateT SortSt Sem c}(h:∀a,f a=g a):(m >>= f)=(m >>= g):=by
 have e:f=g:=funext h;rw[e]
def LW(lo d:Nat):countRun' lo d=(do
  let __s <-asc lo 1 d
  match __s.fst with
  |some r=>pure r
  |none=>
   if(__s.snd==d)=true then pure (some __s.snd)
   else if __s.snd>1 then do
    let __x <-ltAt' lo (lo+__s.snd-1)
    match __x with
    |some rose=>if rose=true then pure (some __s.snd) else do
      reverseSlice' lo (lo+__s.snd)
      rY lo __s.snd d
    |_=>pure none
   else rY lo __s.snd d):=by
 rw[countRun'_eq];unfold rY rV Cs asc;refine a0 fun g=>?_;obtain⟨r,n⟩:=g;cases r with
 |some r=>rfl
 |none=>
  dsimp only;split
  ·rfl
  ·split
   ·refine a0 fun x=>?_
    cases x with
    |none=>rfl
    |some rose=>
     dsimp only;split
     ·rfl
     ·refine a0 fun _r=>a0 fun _u=>a0 fun e=>?_
      obtain⟨c,n2,h⟩:=e;cases c with
      |some c=>rfl
      |none=>
       dsimp only;split
       ·refine a0 fun _v=>a0 fun _w=>a0 fun a=>?_
        obtain⟨b,f⟩:=a;cases b<;>rfl
       ·refine a0 fun _w=>a0 fun a=>?_
        obtain⟨b,f⟩:=a;cases b<;>rfl
   ·refine a0 fun _u=>a0 fun e=>?_
    obtain⟨c,n2,h⟩:=e;cases c with
    |some c=>rfl
    |none=>
     dsimp only;split
     ·refine a0 fun _v=>a0 fun _w=>a0 fun a=>?_
      obtain⟨b,f⟩:=a;cases b<;>rfl
     ·refine a0 fun _w=>a0 fun a=>?_
      obtain⟨b,f⟩:=a;cases b<;>rfl
def G'(C:io prog w A s κ a₀ ρ){st:SortSt}{lo a d:Nat}{Q:AscSt->SortSt->Prop}(F:lo+d<=a₀.size)(G:1<=a)(u:a<=d)(v:B κ a₀ st)(y:b7 ρ (arrOf st) lo (lo+a))(h:∀n,a<=n->n<=d->b7 ρ (arrOf st) lo (lo+n)->(n=d\/R ρ (arrOf st) (lo+n)<R ρ (arrOf st) (lo+n-1))->Q (none,n) st):wpS (model prog w) A E s (asc lo a d) Q st:=by
 unfold asc;refine wpS_forRange (I:=fun x c f=>f=st/\c=(none,x)/\b7 ρ (arrOf st) lo (lo+x)) ?step ?fin ⟨rfl,rfl,y⟩
 case fin=>
  rintro c f ⟨rfl,rfl,e⟩;rw[show max a d=d from ω] at e ⊢;exact h d u (Ad _) e (.inl rfl)
 case step=>
  rintro x c f r D ⟨rfl,rfl,e⟩;dsimp only;refine wpS_bind (rQ C v ω ω ?_)
  by_cases b:R ρ (arrOf f) (lo+x)<R ρ (arrOf f) (lo+x-1)
  ·simp only[b,decide_true,if_true]
   exact wpS_pure (h x r ω e (.inr b))
  ·simp only[b,decide_false,Bool.false_eq_true,if_false]
   refine wpS_pure ⟨rfl,rfl,fun i j p q z=>?_⟩
   by_cases l:j<lo+x
   ·exact e i j p q l
   ·have g:j=lo+x:=ω
    subst g
    by_cases o:i=lo+x
    ·subst o;exact Int.le_refl _
    ·exact Int.le_trans (e i (lo+x-1) p ω ω) (Int.not_lt.mp b)
def Ct{st:SortSt}{i j:Nat}{Q:Unit->SortSt->Prop}(h:Q () (setArr st (mirror (arrOf st) i j ((j-i) / 2)))):wpS (model prog w) A E s (reverseSlice' i j) Q st:=by
 rw[reverseSlice'_eq];exact wpS_modify h
end
def Tl(τ:Keyed->Int)(xs:Array Keyed)(m:Nat):Prop:=∀i j,i<j->m<=j->j<xs.size->R τ xs i<=R τ xs j
def St(ρ τ:Keyed->Int)(xs:Array Keyed)(lo hi:Nat):Prop:=∀i j,lo<=i->i<j->j<hi->R ρ xs i=R ρ xs j->R τ xs i<=R τ xs j
def As(ρ τ:Keyed->Int)(xs:Array Keyed)(lo hi:Nat):Prop:=∀i j,lo<=i->i<j->j<hi->R ρ xs i=R ρ xs j->R τ xs j<=R τ xs i
def Tl.mono{τ:Keyed->Int}{xs:Array Keyed}{m n:Nat}(h:Tl τ xs m)(d:m<=n):Tl τ xs n:=fun i j a b c=>h i j a ω c
def LX(xs:Array Keyed)(i j m:Nat):(mirror xs i j m).size=xs.size:=(mirror_perm xs i j m).size_eq
def Tl.mir{τ:Keyed->Int}{xs:Array Keyed}{a b m:Nat}(h:Tl τ xs m)(hb:b<=xs.size)(f:b<=m):Tl τ (mirror xs a b ((b-a) / 2)) m:=fun i j e d c=>by
 rw[LX] at c;rw[zZ hb,zZ hb,if_neg (show ¬(a<=j/\j<b) from ω)];split
 ·exact h _ _ ω d c
 ·exact h _ _ e d c
section
variable{prog:Program}{w:World}{A:Around}{E:Ω}{s:Shared}{κ:SortKind}{a₀:Array Keyed}{ρ τ:Keyed->Int}
abbrev kZ(κ:SortKind)(a₀:Array Keyed)(ρ τ:Keyed->Int)(lo ag:Nat)(st:SortSt)(Q:Option Nat->SortSt->Prop):Prop:=
 ∀m ae,B κ a₀ ae->Pre lo st ae->1<=m->m<=ag->b7 ρ (arrOf ae) lo (lo+m)->St ρ τ (arrOf ae) lo (lo+m)->Tl τ (arrOf ae) (lo+m)->Q (some m) ae
def Hf(C:io prog w A s κ a₀ ρ){st l:SortSt}{lo n c:Nat}{Q:Option Nat->SortSt->Prop}(x:lo+c<=a₀.size)(h1:1<=n)(e:n<=c)(o:B κ a₀ st)(y:Pre lo l st)(z:nq ρ (arrOf st) lo (lo+n))(D:As ρ τ (arrOf st) lo (lo+n))(F:Tl τ (arrOf st) (lo+n))(h:kZ κ a₀ ρ τ lo c l Q):wpS (model prog w) A E s (rV lo n c) Q st:=by
 unfold rV;have hsz:lo+n<=(arrOf st).size:=by rw[o.size];(first|lia|omega)
 refine wpS_bind (Ct ?_);have d:B κ a₀ (setArr st (mirror (arrOf st) lo (lo+n) ((lo+n-lo) / 2))):=o.setArr (mirror_perm _ _ _ _);have a:Tl τ (arrOf (setArr st (mirror (arrOf st) lo (lo+n) ((lo+n-lo) / 2)))) (lo+n):=F.mir hsz (Ad _);refine wpS_bind (G' C x h1 e d ?_ fun m G p q _=>wpS_pure (h m _ d (y.trans (.mir hsz (Ad _))) ω p q (fun i j r g u v=>?_) (a.mono ω)))
 ·intro i j r g u
  show R ρ (mirror (arrOf st) lo (lo+n) ((lo+n-lo) / 2)) i<=R ρ (mirror (arrOf st) lo (lo+n) ((lo+n-lo) / 2)) j;rw[zZ hsz,zZ hsz,if_pos ω,if_pos ω];exact z _ _ ω ω ω
 ·by_cases f:lo+n<=j
  ·exact a i j g f (by rw[d.size];(first|lia|omega))
  ·have b:R ρ (mirror (arrOf st) lo (lo+n) ((lo+n-lo) / 2)) i=R ρ (mirror (arrOf st) lo (lo+n) ((lo+n-lo) / 2)) j:=v
   show R τ (mirror (arrOf st) lo (lo+n) ((lo+n-lo) / 2)) i<=R τ (mirror (arrOf st) lo (lo+n) ((lo+n-lo) / 2)) j;rw[zZ hsz,zZ hsz,if_pos ω,if_pos ω] at b;rw[zZ hsz,zZ hsz,if_pos ω,if_pos ω];exact D _ _ ω ω ω b.symm
structure Grp(ρ τ:Keyed->Int)(xs:Array Keyed)(lo x aK:Nat):Prop where
 as:As ρ τ xs lo (lo+x-(aK+1))
 inc:∀i j,lo+x-(aK+1)<=i->i<j->j<lo+x->R τ xs i<=R τ xs j
 str:∀i,lo<=i->i<lo+x-(aK+1)->R ρ xs (lo+x-1)<R ρ xs i
 tl:Tl τ xs (lo+x)
def Grp.turned{xs:Array Keyed}{lo x a:Nat}(g:Grp ρ τ xs lo x a)(hsz:lo+x<=xs.size)(hq:a+1<=x)(b:∀i,lo+x-(a+1)<=i->i<lo+x->R ρ xs i=R ρ xs (lo+x-1)):As ρ τ (mirror xs (lo+x-(a+1)) (lo+x) ((lo+x-(lo+x-(a+1))) / 2)) lo (lo+x):=fun i j e f h hr=>by
 rw[zD hsz b,zD hsz b] at hr;rw[zZ hsz,zZ hsz]
 by_cases c:j<lo+x-(a+1)
 ·rw[if_neg ω,if_neg ω];exact g.as i j e f c hr
 ·by_cases d:i<lo+x-(a+1)
  ·have:=g.str i e d
   rw[b j ω h] at hr;(first|lia|omega)
  ·rw[if_pos ω,if_pos ω]
   exact g.inc _ _ ω ω ω
def Grp.one{xs:Array Keyed}{lo x:Nat}(g:Grp ρ τ xs lo x 0):As ρ τ xs lo (lo+x):=fun i j c d e hr=>by
 by_cases b:j<lo+x-1
 ·exact g.as i j c d b hr
 ·have a:j=lo+x-1:=ω
  have:=g.str i c ω;rw[<-a] at this;(first|lia|omega)
def LY(C:io prog w A s κ a₀ ρ){st L:SortSt}{lo n D:Nat}{Q:DescSt->SortSt->Prop}(Z:lo+D<=a₀.size)(h1:1<=n)(M:n<=D)(U:B κ a₀ st)(W:Pre lo L st)(X:nq ρ (arrOf st) lo (lo+n))(hg:Grp ρ τ (arrOf st) lo n 0)(h:∀m e b,B κ a₀ b->Pre lo L b->n<=m->m<=D->nq ρ (arrOf b) lo (lo+m)->e+1<=m->(∀i,lo+m-(e+1)<=i->i<lo+m->R ρ (arrOf b) i=R ρ (arrOf b) (lo+m-1))->Grp ρ τ (arrOf b) lo m e->Q (none,m,e) b):wpS (model prog w) A E s (Cs lo n D) Q st:=by
 unfold Cs;refine wpS_forRange (I:=fun x c b=>∃e,c=(none,x,e)/\B κ a₀ b/\Pre lo L b/\nq ρ (arrOf b) lo (lo+x)/\e+1<=x/\
   (∀i,lo+x-(e+1)<=i->i<lo+x->R ρ (arrOf b) i=R ρ (arrOf b) (lo+x-1))/\Grp ρ τ (arrOf b) lo x e) ?step ?fin ⟨0,rfl,U,W,X,ω,fun i h1 h2=>by congr 1;(first|lia|omega),hg⟩
 case fin=>
  rintro c b ⟨e,rfl,r,G,u,hq,v,g⟩;rw[show max n D=D from ω] at u hq v g ⊢;exact h D e b r G M (Ad _) u hq v g
 case step=>
  rintro x c b S Y ⟨e,rfl,r,G,u,hq,v,g⟩;dsimp only;have hsz:lo+x<=(arrOf b).size:=by rw[r.size];(first|lia|omega)
  refine wpS_bind (rQ C r ω ω ?_)
  by_cases d:R ρ (arrOf b) (lo+x)<R ρ (arrOf b) (lo+x-1)
  ·simp only[d,decide_true,if_true]
   have l:∀xs:Array Keyed,(∀k,R ρ xs k=R ρ (arrOf b) k)->nq ρ xs lo (lo+(x+1)):=by
    intro xs hk i j H J O;rw[hk,hk]
    by_cases q:j<lo+x
    ·exact u i j H J q
    ·have z:j=lo+x:=ω
     subst z
     by_cases F:i=lo+x
     ·subst F;exact Int.le_refl _
     ·exact Int.le_trans (Int.le_of_lt d) (u i (lo+x-1) H ω ω)
   have o:∀xs:Array Keyed,(∀k,R ρ xs k=R ρ (arrOf b) k)->As ρ τ xs lo (lo+x)->Tl τ xs (lo+x)->Grp ρ τ xs lo (x+1) 0:=fun xs hk a t=>by
    refine⟨?_,fun i j h1 h2 P=>ω,fun i h1 h2=>?_,t.mono ω⟩
    ·rw[show lo+(x+1)-(0+1)=lo+x from ω];exact a
    ·rw[show lo+(x+1)-1=lo+x from ω,hk,hk]
     exact Int.lt_of_lt_of_le d (u i (lo+x-1) h1 ω ω)
   by_cases y:e>0
   ·rw[if_pos y]
    refine wpS_bind (Ct (wpS_pure ⟨0,rfl,r.setArr (mirror_perm _ _ _ _),G.trans (.mir hsz ω),l _ (zD hsz v),ω,fun i h1 h2=>by congr 1;(first|lia|omega),o _ (zD hsz v) (g.turned hsz hq v) (g.tl.mir hsz (Ad _))⟩))
   ·rw[if_neg y]
    have T:e=0:=ω
    subst T;exact wpS_pure ⟨0,rfl,r,G,l _ (fun _=>rfl),ω,fun i h1 h2=>by congr 1;(first|lia|omega),o _ (fun _=>rfl) g.one g.tl⟩
  ·simp only[d,decide_false,Bool.false_eq_true,if_false]
   refine wpS_bind (rQ C r ω ω ?_)
   by_cases f:R ρ (arrOf b) (lo+x-1)<R ρ (arrOf b) (lo+x)
   ·simp only[f,decide_true,if_true]
    exact wpS_pure (h x e b r G S ω u hq v g)
   ·simp only[f,decide_false,Bool.false_eq_true,if_false]
    have p:R ρ (arrOf b) (lo+x)=R ρ (arrOf b) (lo+x-1):=ω
    refine wpS_pure ⟨e+1,rfl,r,G,fun i j H J O=>?_,ω,fun i h1 h2=>?_,?_⟩
    ·by_cases q:j<lo+x
     ·exact u i j H J q
     ·have z:j=lo+x:=ω
      subst z
      by_cases F:i=lo+x
      ·subst F;exact Int.le_refl _
      ·rw[p];exact u i (lo+x-1) H ω ω
    ·rw[show lo+(x+1)-1=lo+x from ω]
     by_cases N:i=lo+x
     ·subst N;rfl
     ·rw[p];exact v i ω ω
    ·have hb:lo+(x+1)-(e+1+1)=lo+x-(e+1):=ω
     refine⟨by rw[hb];exact g.as,fun i j h1 h2 P=>?_,fun i h1 h2=>?_,g.tl.mono ω⟩
     ·by_cases q:j<lo+x
      ·exact g.inc i j ω h2 q
      ·exact g.tl i j h2 ω (by rw[r.size];(first|lia|omega))
     ·rw[show lo+(x+1)-1=lo+x from ω,p]
      exact g.str i h1 ω
def Hh(C:io prog w A s κ a₀ ρ){st u:SortSt}{lo n b:Nat}{Q:Option Nat->SortSt->Prop}(f:lo+b<=a₀.size)(l:n+1<=b)(D:B κ a₀ st)(F:Pre lo u st)(G:nq ρ (arrOf st) lo (lo+(n+1)))(hg:Grp ρ τ (arrOf st) lo (n+1) 0)(h:kZ κ a₀ ρ τ lo b u Q):wpS (model prog w) A E s (rY lo n b) Q st:=by
 unfold rY;refine wpS_bind (wpS_lift (wpAny_rule ⟨rfl,?_⟩));refine wpS_bind (LY C f ω l D F G hg fun m o c d p H q r hq e g=>?_);dsimp only;have hsz:lo+m<=(arrOf c).size:=by rw[d.size];(first|lia|omega)
 by_cases a:o>0
 ·rw[if_pos a]
  refine wpS_bind (Ct (Hf C f ω q (d.setArr (mirror_perm _ _ _ _)) (p.trans (.mir hsz ω)) ?_ (g.turned hsz hq e) (g.tl.mir hsz (Ad _)) h));intro i j v x y;show R ρ (mirror (arrOf c) _ _ _) j<=R ρ (mirror (arrOf c) _ _ _) i;rw[zD hsz e,zD hsz e];exact r i j v x y
 ·rw[if_neg a]
  have z:o=0:=ω
  subst z;exact Hf C f ω q d p r g.one g.tl h
def LZ(C:io prog w A s κ a₀ ρ){st:SortSt}{lo u:Nat}{Q:Option Nat->SortSt->Prop}(D:lo+u<=a₀.size)(h1:1<=u)(e:B κ a₀ st)(p:Tl τ (arrOf st) lo)(h:kZ κ a₀ ρ τ lo u st Q):wpS (model prog w) A E s (countRun' lo u) Q st:=by
 rw[LW];refine wpS_bind (G' C D (Ad 1) h1 e (fun i j b o q=>?_) fun n G H x J=>?_)
 ·have:i=j:=ω
  subst this;exact Int.le_refl _
 dsimp only;have I:St ρ τ (arrOf st) lo (lo+n):=fun i j b o q _=>p i j o ω (by rw[e.size];(first|lia|omega))
 by_cases g:n=u
 ·rw[if_pos (by simpa using g)]
  exact wpS_pure (h n st e .refl G H x I (p.mono ω))
 ·rw[if_neg (by simpa using g)]
  have d:R ρ (arrOf st) (lo+n)<R ρ (arrOf st) (lo+n-1):=J.resolve_left g
  by_cases v:n>1
  ·rw[if_pos v]
   refine wpS_bind (rQ C e ω ω ?_)
   by_cases c:R ρ (arrOf st) lo<R ρ (arrOf st) (lo+n-1)
   ·simp only[c,decide_true,if_true]
    exact wpS_pure (h n st e .refl G H x I (p.mono ω))
   ·simp only[c,decide_false,Bool.false_eq_true,if_false]
    have hsz:lo+n<=(arrOf st).size:=by rw[e.size];(first|lia|omega)
    have a:∀k,lo<=k->k<lo+n->R ρ (arrOf st) k=R ρ (arrOf st) (lo+n-1):=by
     intro k b hk;have a1:=x lo k ω b hk;have a2:=x k (lo+n-1) b ω ω;(first|lia|omega)
    refine wpS_bind (Ct (Hh C D ω (e.setArr (mirror_perm _ _ _ _)) (.mir hsz (Ad _)) ?_ ⟨?_,?_,?_,?_⟩ h))
    ·intro i j b o q
     show R ρ (mirror (arrOf st) _ _ _) j<=R ρ (mirror (arrOf st) _ _ _) i;rw[zD hsz a,zD hsz a]
     by_cases F:j<lo+n
     ·rw[a i ω ω,a j ω F];exact Int.le_refl _
     ·have y:j=lo+n:=ω
      subst y
      by_cases l:i=lo+n
      ·subst l;exact Int.le_refl _
      ·rw[a i ω ω];exact Int.le_of_lt d
    ·rw[show lo+(n+1)-(0+1)=lo+n from ω]
     intro i j b o q _;show R τ (mirror (arrOf st) _ _ _) j<=R τ (mirror (arrOf st) _ _ _) i;rw[zZ hsz,zZ hsz,if_pos ω,if_pos ω];exact p _ _ ω ω ω
    ·intro i j h1 h2 L;(first|lia|omega)
    ·intro i b hi
     show R ρ (mirror (arrOf st) _ _ _) _<R ρ (mirror (arrOf st) _ _ _) i;rw[zD hsz a,zD hsz a,show lo+(n+1)-1=lo+n from ω,a i b ω];exact d
    ·exact(p.mono (show lo<=lo+n from ω)).mir hsz (Ad _)|>.mono ω
  ·rw[if_neg v]
   have r:n=1:=ω
   subst r;refine Hh C D ω e .refl ?_ ⟨?_,?_,?_,p.mono ω⟩ h
   ·intro i j b o q
    by_cases l:i=j
    ·subst l;exact Int.le_refl _
    ·have f:i=lo:=ω
     have z:j=lo+1:=ω
     subst f;subst z;exact Int.le_of_lt d
   ·intro i j b o q;(first|lia|omega)
   ·intro i j h1 h2 L;(first|lia|omega)
   ·intro i b hi
    have f:i=lo:=ω
    subst f;exact d
def L0(C:io prog w A s κ a₀ ρ){st:SortSt}{lo n ok:Nat}{Q:Bool->SortSt->Prop}(hn:lo+n<=a₀.size)(U:ok<=n)(rZ:1<=ok)(W:B κ a₀ st)(F:b7 ρ (arrOf st) lo (lo+ok))(X:St ρ τ (arrOf st) lo (lo+ok))(Y:Tl τ (arrOf st) (lo+ok))(h:∀a,B κ a₀ a->Pre lo st a->b7 ρ (arrOf a) lo (lo+n)->St ρ τ (arrOf a) lo (lo+n)->Q true a):wpS (model prog w) A E s (binarySort' lo n ok) Q st:=by
 rw[binarySort'_eq];refine wpS_bind (wpS_mono (wpS_forRange (I:=fun k c a=>c=(none,())/\B κ a₀ a/\Pre lo st a/\b7 ρ (arrOf a) lo (lo+min k n)/\St ρ τ (arrOf a) lo (lo+min k n)/\Tl τ (arrOf a) (lo+min k n))
  (Q:=fun c a=>c=(none,())/\B κ a₀ a/\Pre lo st a/\b7 ρ (arrOf a) lo (lo+n)/\St ρ τ (arrOf a) lo (lo+n)) ?step ?fin ?init) ?post)
 case post=>
  rintro c a ⟨rfl,o,v,f,g⟩;exact wpS_pure (h a o v f g)
 case init=>
  rw[show min (max ok 1) n=ok from ω];exact⟨rfl,W,.refl,F,X,Y⟩
 case fin=>
  rintro c a ⟨hc,o,v,f,g,_⟩;rw[show min (max (max ok 1) n) n=n from ω] at f g;exact⟨hc,o,v,f,g⟩
 case step=>
  rintro k c a BI Z ⟨rfl,o,v,f,g,y⟩;rw[show min k n=k from ω] at f g y;have hk:lo+k<a₀.size:=ω
  refine wpS_bind (wpS_mono (wpS_forRange (I:=fun x c b=>b=a/\∃l r,c=(none,l,r)/\l<=r/\r<=k/\r-l<=k-x/\
    (∀i,i<l->R ρ (arrOf a) (lo+i)<=R ρ (arrOf a) (lo+k))/\(∀i,r<=i->i<k->R ρ (arrOf a) (lo+k)<R ρ (arrOf a) (lo+i)))
   (Q:=fun c b=>b=a/\∃l r,c=(none,l,r)/\l<=k/\
    (∀i,i<l->R ρ (arrOf a) (lo+i)<=R ρ (arrOf a) (lo+k))/\(∀i,l<=i->i<k->R ρ (arrOf a) (lo+k)<R ρ (arrOf a) (lo+i))) ?istep ?ifin ?iinit) ?ipost)
  case iinit=>exact⟨rfl,0,k,rfl,ω,ω,ω,fun i hi=>ω,fun i h1 h2=>ω⟩
  case ifin=>
   rintro c b ⟨rfl,l,r,rfl,P,G,S,q,u⟩;have:l=r:=ω
   subst this;exact⟨rfl,l,l,rfl,G,q,u⟩
  case istep=>
   rintro x c b _ Ce ⟨rfl,l,r,rfl,P,G,S,q,u⟩;dsimp only
   by_cases z:l ≥ r
   ·rw[if_pos z]
    have:l=r:=ω
    subst this;exact wpS_pure ⟨rfl,l,l,rfl,G,q,u⟩
   ·rw[if_neg z]
    refine wpS_bind (rQ C o hk ω ?_)
    by_cases e:R ρ (arrOf b) (lo+k)<R ρ (arrOf b) (lo+(l+r) / 2)
    ·simp only[e,decide_true,if_true]
     refine wpS_pure ⟨rfl,l,(l+r) / 2,rfl,ω,ω,ω,q,fun i h1 h2=>?_⟩;exact Int.lt_of_lt_of_le e (f _ _ ω ω ω)
    ·simp only[e,decide_false,Bool.false_eq_true,if_false]
     refine wpS_pure ⟨rfl,(l+r) / 2+1,r,rfl,ω,ω,ω,fun i h1=>?_,u⟩;exact Int.le_trans (f (lo+i) (lo+(l+r) / 2) ω ω ω) (Int.not_lt.mp e)
  case ipost=>
   rintro c b ⟨rfl,l,r,rfl,yK,q,u⟩;show wpS _ _ _ _ (do moveDown' (lo+k) (lo+l);pure (ForInStep.yield (none,()))) _ _;rw[moveDown'_eq];have p:lo+k<(arrOf b).size:=by rw[o.size];exact hk
   have T:∀i,lo<=i->i<lo+l->R ρ (arrOf b) i<=R ρ (arrOf b) (lo+k):=fun i h1 h2=>by
    have:=q (i-lo) ω;rwa [show lo+(i-lo)=i from ω] at this
   have M:∀i,lo+l<=i->i<lo+k->R ρ (arrOf b) (lo+k)<R ρ (arrOf b) i:=fun i h1 h2=>by
    have:=u (i-lo) ω ω;rwa [show lo+(i-lo)=i from ω] at this
   refine wpS_bind (wpS_modify (wpS_pure ⟨rfl,o.setArr (bubble_perm _ _ _),v.trans (.bub p ω ω),?_,?_,?_⟩))
   ·rw[show min (k+1) n=k+1 from ω]
    intro i j N D L;show R ρ (bubble (arrOf b) (lo+k) (lo+k-(lo+l))) i<=R ρ (bubble (arrOf b) (lo+k) (lo+k-(lo+l))) j;rw[nu p ω,nu p ω,show lo+k-(lo+k-(lo+l))=lo+l from ω]
    repeat' split
    all_goals first
     |(exfalso;(first|lia|omega))
     |exact Int.le_refl _
     |exact T _ ω ω
     |exact Int.le_of_lt (M _ ω ω)
     |exact f _ _ ω ω ω
   ·rw[show min (k+1) n=k+1 from ω]
    intro i j N D L O;have d:R ρ (bubble (arrOf b) (lo+k) (lo+k-(lo+l))) i=R ρ (bubble (arrOf b) (lo+k) (lo+k-(lo+l))) j:=O;show R τ (bubble (arrOf b) (lo+k) (lo+k-(lo+l))) i<=R τ (bubble (arrOf b) (lo+k) (lo+k-(lo+l))) j;rw[nu p ω,nu p ω,show lo+k-(lo+k-(lo+l))=lo+l from ω] at d ⊢
    by_cases i1:i=lo+l
    ·rw[if_pos i1,if_neg ω,if_pos ω] at d
     have:=M (j-1) ω ω;(first|lia|omega)
    ·by_cases i2:lo+l<i
     ·rw[if_neg i1,if_pos ω,if_neg ω,if_pos ω] at d ⊢
      exact g _ _ ω ω ω d
     ·by_cases J:j=lo+l
      ·rw[if_neg i1,if_neg ω,if_pos J] at d ⊢
       exact y _ _ ω ω ω
      ·by_cases j2:lo+l<j
       ·rw[if_neg i1,if_neg ω,if_neg J,if_pos ω] at d ⊢
        exact g _ _ ω ω ω d
       ·rw[if_neg i1,if_neg ω,if_neg J,if_neg ω] at d ⊢
        exact g _ _ ω ω ω d
   ·rw[show min (k+1) n=k+1 from ω]
    intro i j D L F;have H:j<(arrOf b).size:=by
     have:=(bubble_perm (arrOf b) (lo+k) (lo+k-(lo+l))).size_eq;have yV:j<(bubble (arrOf b) (lo+k) (lo+k-(lo+l))).size:=F;(first|lia|omega)
    show R τ (bubble (arrOf b) (lo+k) (lo+k-(lo+l))) i<=R τ (bubble (arrOf b) (lo+k) (lo+k-(lo+l))) j;rw[nu p ω,nu p ω,show lo+k-(lo+k-(lo+l))=lo+l from ω,if_neg (show ¬j=lo+l from ω),if_neg (show ¬(lo+l<j/\j<=lo+k) from ω)];split
    ·exact y _ _ ω ω H
    ·split
     ·exact y _ _ ω ω H
     ·exact y _ _ D ω H
def L1(C:io prog w A s κ a₀ ρ){st:SortSt}{Q:Unit->SortSt->Prop}(H:B κ a₀ st)(hp:pendingOf st=#[])(h1:1<=a₀.size)(X:a₀.size<64)(Y:Tl τ (arrOf st) 0)(h:∀a,B κ a₀ a->b7 ρ (arrOf a) 0 a₀.size->St ρ τ (arrOf a) 0 a₀.size->Q () a):wpS (model prog w) A E s sortRuns' Q st:=by
 rw[sortRuns'_eq];refine wpS_bind (wpS_get ?_);dsimp only;have U:minRun' a₀.size a₀.size 0=a₀.size:=by
  obtain⟨f,P⟩:∃f,a₀.size=f+1:=⟨a₀.size-1,ω⟩;have:minRun' (f+1) a₀.size 0=a₀.size:=by rw[minRun'_succ,if_pos X];rfl
  rwa [<-P] at this
 simp only[H.size,U];refine wpS_bind (wpS_mono (wpS_forRange
  (I:=fun x c a=>(x=0/\c=(none,0)/\B κ a₀ a/\pendingOf a=#[]/\Tl τ (arrOf a) 0)\/(1<=x/\c=(none,a₀.size)/\B κ a₀ a/\(pendingOf a).size<=1/\b7 ρ (arrOf a) 0 a₀.size/\St ρ τ (arrOf a) 0 a₀.size))
  (Q:=fun c a=>c=(none,a₀.size)/\B κ a₀ a/\(pendingOf a).size<=1/\b7 ρ (arrOf a) 0 a₀.size/\St ρ τ (arrOf a) 0 a₀.size) ?step ?fin (.inl ⟨rfl,rfl,H,hp,Y⟩)) ?post)
 case fin=>
  rintro c a (⟨hx,_,_⟩|⟨_,hc,r⟩)
  ·(first|lia|omega)
  ·exact⟨hc,r⟩
 case step=>
  rintro x c a _ hx (⟨rfl,rfl,u,g,v⟩|⟨Z,rfl,r⟩)
  ·dsimp only
   rw[if_neg ω];simp only[Nat.sub_zero,Nat.min_self];refine wpS_bind (LZ C ω ω u v fun m j y P2 J m2 l o L=>?_);dsimp only;have tl:∀d,B κ a₀ d->pendingOf d=#[]->b7 ρ (arrOf d) 0 a₀.size->St ρ τ (arrOf d) 0 a₀.size->B κ a₀ (setPending d ((pendingOf d).push (0,a₀.size,0)))/\(pendingOf (setPending d ((pendingOf d).push (0,a₀.size,0)))).size<=1/\b7 ρ (arrOf (setPending d ((pendingOf d).push (0,a₀.size,0)))) 0 a₀.size/\St ρ τ (arrOf (setPending d ((pendingOf d).push (0,a₀.size,0)))) 0 a₀.size:=
    fun d b p q M=>⟨⟨b.perm,b.kind,b.failed⟩,by show((pendingOf d).push _).size<=1;rw[p];exact Ad 1,q,M⟩
   by_cases i:m<a₀.size
   ·rw[if_pos i]
    refine wpS_bind (wpS_lift (wpAny_rule ⟨rfl,?_⟩));refine wpS_bind (L0 C ω m2 J y l o L fun d N P3 z D=>?_);simp only[Bool.not_true,Bool.false_eq_true,if_false];refine wpS_bind (wpS_get ?_);have F:pendingOf d=#[]:=by rw[P3.pend,P2.pend];exact g
    have hb:(pendingOf d).back?=none:=by rw[F];rfl
    rw[hb];dsimp only;simp only[Nat.zero_add] at z D ⊢;exact wpS_bind (wpS_modify (wpS_pure (.inr ⟨ω,rfl,tl d N F z D⟩)))
   ·rw[if_neg i]
    have W:m=a₀.size:=ω
    subst W;refine wpS_bind (wpS_get ?_);have G:pendingOf j=#[]:=by rw[P2.pend];exact g
    have hb:(pendingOf j).back?=none:=by rw[G];rfl
    rw[hb];dsimp only;simp only[Nat.zero_add] at l o ⊢;exact wpS_bind (wpS_modify (wpS_pure (.inr ⟨ω,rfl,tl j y G l o⟩)))
  ·dsimp only
   rw[if_pos (Ad _)];exact wpS_pure ⟨rfl,r⟩
 case post=>
  rintro c a ⟨rfl,u,S,T,ss⟩;dsimp only;refine wpS_bind (wpS_mono (wpS_forRange (I:=fun _ c e=>e=a/\c=(none,())) (Q:=fun c e=>e=a/\c=(none,())) ?_ (fun _ _ O=>O) ⟨rfl,rfl⟩) ?_)
  ·rintro x c e _ _ ⟨rfl,rfl⟩
   refine wpS_bind (wpS_get ?_);rw[if_pos S];exact wpS_pure ⟨rfl,rfl⟩
  ·rintro c e ⟨rfl,rfl⟩
   exact wpS_pure (h _ u T ss)
end
section
variable{prog:Program}{w:World}{A:Around}{E:Ω}{s:Shared}{κ:SortKind}{a₀:Array Keyed}{ρ:Keyed->Int}
def L3(C:io prog w A s κ a₀ ρ){st:SortSt}{Q:Unit->SortSt->Prop}(d:B κ a₀ st)(hp:pendingOf st=#[])(h1:1<=a₀.size)(e:a₀.size<64)(h:∀a,B κ a₀ a->b7 ρ (arrOf a) 0 a₀.size->Q () a):wpS (model prog w) A E s sortRuns' Q st:=
 L1 (τ:=fun _=>0) C d hp h1 e (fun i j _ _ _=>by unfold R;split<;>split<;>exact Int.le_refl _) fun a b c _=>h a b c
end
end Tim
end
section
namespace b7
open PySem PyProof.Rows HT
def Hj:∀a:List Int,lexLt a a=false
 |[]=>rfl
 |x::a=>by rw[ri,if_pos rfl];exact Hj a
def Ei:∀{a b c:List Int},lexLt a b=true->lexLt b c=true->lexLt a c=true
 |[],[],_,h,_=>by cases h
 |[],_::_,[],_,h=>by cases h
 |[],_::_,_::_,_,_=>rfl
 |_::_,[],_,h,_=>by cases h
 |_::_,_::_,[],_,h=>by cases h
 |x::a,y::b,z::c,h1,h2=>by
  rw[ri] at h1 h2 ⊢
  by_cases e1:x=y
  ·rw[if_pos e1] at h1
   by_cases e2:y=z
   ·rw[if_pos e2] at h2
    rw[if_pos (e1.trans e2)];exact Ei h1 h2
   ·rw[if_neg e2] at h2
    rw[if_neg ω];have:=of_decide_eq_true h2;exact decide_eq_true ω
  ·rw[if_neg e1] at h1
   have d:=of_decide_eq_true h1
   by_cases e2:y=z
   ·rw[if_neg ω]
    exact decide_eq_true ω
   ·rw[if_neg e2] at h2
    have e:=of_decide_eq_true h2;rw[if_neg ω];exact decide_eq_true ω
def Hk:∀{a b:List Int},lexLt a b=false->lexLt b a=false->a=b
 |[],[],_,_=>rfl
 |[],_::_,h,_=>by cases h
 |_::_,[],_,h=>by cases h
 |x::a,y::b,h1,h2=>by
  rw[ri] at h1 h2
  by_cases e:x=y
  ·subst e
   rw[if_pos rfl] at h1 h2;rw[Hk h1 h2]
  ·rw[if_neg e] at h1
   rw[if_neg (Ne.symm e)] at h2;have:=of_decide_eq_false h1;have:=of_decide_eq_false h2;(first|lia|omega)
noncomputable def rk(ls:Ξ)(l:List Int):Int:=((ls.filter fun m=>lexLt m l).length:Nat)
def Hl{ls:Ξ}{l m:List Int}(f:l∈ls)(g:m∈ls):decide (rk ls l<rk ls m)=lexLt l m:=by
 have mono:∀{a b:List Int},(∀x,lexLt x a=true->lexLt x b=true)->∀k:Ξ,(k.filter fun x=>lexLt x a).length<=(k.filter fun x=>lexLt x b).length:=by
  intro a b d k
  induction k with
  |nil=>exact Ad _
  |cons x k ih=>
   rw[List.filter_cons,List.filter_cons]
   by_cases q:lexLt x a=true
   ·rw[if_pos q,if_pos (d x q),AN,AN];(first|lia|omega)
   ·rw[if_neg q]
    split
    ·rw[AN];(first|lia|omega)
    ·exact ih
 have c:∀{a b:List Int},(∀x,lexLt x a=true->lexLt x b=true)->lexLt a b=true->∀k:Ξ,a∈k->(k.filter fun x=>lexLt x a).length<(k.filter fun x=>lexLt x b).length:=by
  intro a b d h k
  induction k with
  |nil=>intro q;cases q
  |cons x k ih=>
   intro hk;rw[List.filter_cons,List.filter_cons];rcases List.mem_cons.mp hk with e|e
   ·subst e
    rw[if_neg (by rw[Hj];exact AG),if_pos h,AN];have:=mono d k;(first|lia|omega)
   ·have:=ih e
    by_cases q:lexLt x a=true
    ·rw[if_pos q,if_pos (d x q),AN,AN];(first|lia|omega)
    ·rw[if_neg q]
     split
     ·rw[AN];(first|lia|omega)
     ·exact this
 unfold rk;cases q:lexLt l m with
 |true=>
  have:=c (a:=l) (b:=m) (fun x hx=>Ei hx q) q ls f;exact decide_eq_true ω
 |false=>
  have:=mono (a:=m) (b:=l) (fun x hx=>by
   cases z:lexLt x l with
   |true=>rfl
   |false=>
    cases z2:lexLt l x with
    |true=>rw[Ei z2 hx] at q;cases q
    |false=>rw[Hk z z2] at hx;rw[hx] at q;cases q) ls
  exact decide_eq_false ω
structure By(prog:Program)(w:World)(A:Around)(good:Heap->Prop)(us:List Value)(ls:Ξ):Prop where
 len:us.length=ls.length
 fn:∀(i j:Nat) u l m,us[i]?=some u->us[j]?=some u->ls[i]?=some l->ls[j]?=some m->l=m
 ask:2<=us.length->∃κ:SortKind,(∀(s:Shared)(Q:SortKind->Shared->Prop)(E:Ω),good s.heap->Q κ s->wpAny (model prog w) A (keyKind' us.toArray) Q E s)/\
  ∀(i j:Nat) u v l m,us[i]?=some u->us[j]?=some v->ls[i]?=some l->ls[j]?=some m->∀(s:Shared)(Q:Bool->Shared->Prop)(E:Ω),good s.heap->Q (lexLt l m) s->wpAny (model prog w) A (keyLt' κ u v) Q E s
open Classical in
noncomputable def nv(us:List Value)(ls:Ξ)(u:Value):List Int:=if h:∃l,∃i:Nat,us[i]?=some u/\ls[i]?=some l then h.choose else []
def sn{us:List Value}{ls:Ξ}(fn:∀(i j:Nat) u l m,us[i]?=some u->us[j]?=some u->ls[i]?=some l->ls[j]?=some m->l=m){i:Nat}{u:Value}{l:List Int}(h1:us[i]?=some u)(h2:ls[i]?=some l):nv us ls u=l:=by
 unfold nv;have h:∃l,∃i:Nat,us[i]?=some u/\ls[i]?=some l:=⟨l,i,h1,h2⟩;rw[dif_pos h];obtain⟨j,e1,e2⟩:=h.choose_spec;exact fn j i u _ l e1 h1 e2 h2
noncomputable def ny(us:List Value)(ls:Ξ)(p:Keyed):Int:=rk ls (nv us ls p.1)
section
variable{prog:Program}{w:World}{A:Around}{E:Ω}{s:Shared}{good:Heap->Prop}{us vs:List Value}{ls:Ξ}
def Cu(h:us.length=vs.length){p:Keyed}(hp:p∈(us.toArray.zip vs.toArray).toList):∃i:Nat,us[i]?=some p.1/\vs[i]?=some p.2:=by
 have e:(us.toArray.zip vs.toArray).toList=us.zip vs:=by simp
 rw[e] at hp;obtain⟨i,hi,e2⟩:=List.mem_iff_getElem.mp hp;rw[List.getElem_zip] at e2;rw[List.length_zip] at hi;refine⟨i,?_,?_⟩
 ·rw[Ab ω,<-e2]
 ·rw[Ab ω,<-e2]
def L4(B:By prog w A good us ls)(d:us.length=vs.length)(hg:good s.heap){κ:SortKind}(h2:2<=us.length)(o:us.length<64)(hk:∀(i j:Nat) u v l m,us[i]?=some u->us[j]?=some v->ls[i]?=some l->ls[j]?=some m->∀(s:Shared)(Q:Bool->Shared->Prop)(E:Ω),good s.heap->Q (lexLt l m) s->wpAny (model prog w) A (keyLt' κ u v) Q E s){Q:Unit->SortSt->Prop}(h:∀a,(arrOf a).Perm (us.toArray.zip vs.toArray)->failedOf a=none->Tim.b7 (ny us ls) (arrOf a) 0 vs.length->Q () a):wpS (model prog w) A E s sortRuns' Q (SortSt.mk' κ (us.toArray.zip vs.toArray) #[] 7 none):=by
 have hz:(us.toArray.zip vs.toArray).size=vs.length:=by simp;(first|lia|omega)
 refine Tim.L3 (κ:=κ) (a₀:=us.toArray.zip vs.toArray) (ρ:=ny us ls) ⟨fun x y hx hy f g hq=>?_⟩ ⟨Array.Perm.refl _,rfl,rfl⟩ rfl (by rw[hz];(first|lia|omega)) (by rw[hz];(first|lia|omega)) fun a b e=>h a b.perm b.failed (by rw[<-hz];exact e);obtain⟨i,e1,_⟩:=Cu d hx;obtain⟨j,e2,_⟩:=Cu d hy;have hi:i<ls.length:=by rw[<-B.len];exact(List.getElem?_eq_some_iff.mp e1).1
 have c:j<ls.length:=by rw[<-B.len];exact(List.getElem?_eq_some_iff.mp e2).1
 have f1:ls[i]?=some ls[i]:=Ab hi;have f2:ls[j]?=some ls[j]:=Ab c;refine hk i j _ _ _ _ e1 e2 f1 f2 s f g hg ?_;unfold ny at hq;rw[sn B.fn e1 f1,sn B.fn e2 f2,Hl (Az hi) (Az c)] at hq;exact hq
def dh{a b:Type}:∀(l:List a)(m:List b)(i:Nat),(l.zip m)[i]?=(l[i]?).bind fun x=>(m[i]?).map fun y=>(x,y)
 |[],m,i=>by simp
 |x::l,[],i=>by cases h:(x::l)[i]?<;>simp
 |x::l,y::m,0=>rfl
 |x::l,y::m,i+1=>by
  rw[List.zip_cons_cons,List.getElem?_cons_succ,List.getElem?_cons_succ,List.getElem?_cons_succ];exact dh l m i
def L5(B:By prog w A good us ls)(l:us.length=vs.length){xs:Array Keyed}(hp:xs.Perm (us.toArray.zip vs.toArray))(r:Tim.b7 (ny us ls) xs 0 vs.length):∃ps:List (List Int×Value),ps.Perm (ls.zip vs)/\xs.toList.map (·.2)=ps.map (·.2)/\ps.Pairwise fun(a b:List Int×Value)=>HT.lexLt b.1 a.1=false:=by
 have pl:xs.toList.Perm (us.zip vs):=by
  have:=Array.perm_iff_toList_perm.mp hp
  simpa using this
 refine⟨xs.toList.map fun p=>(nv us ls p.1,p.2),?_,by rw[AS];rfl,?_⟩
 ·have e:(us.zip vs).map (fun p:Keyed=>(nv us ls p.1,p.2))=ls.zip vs:=by
   apply List.ext_getElem?;intro i;rw[Aj,dh,dh];cases e1:us[i]? with
   |none=>
    have:ls[i]?=none:=List.getElem?_eq_none (by rw[<-B.len];exact List.getElem?_eq_none_iff.mp e1);rw[this];rfl
   |some u=>
    have hi:i<ls.length:=by rw[<-B.len];exact(List.getElem?_eq_some_iff.mp e1).1
    have f1:ls[i]?=some ls[i]:=Ab hi;rw[f1];cases e2:vs[i]? with
    |none=>rfl
    |some v=>
     show some (nv us ls u,v)=some (ls[i],v);rw[sn B.fn e1 f1]
  rw[<-e];exact pl.map _
 ·rw[List.pairwise_map,List.pairwise_iff_getElem]
  intro i j hi h o;have hsz:xs.size=vs.length:=by
   have:=pl.length_eq;rw[Array.length_toList,List.length_zip] at this;(first|lia|omega)
  rw[Array.length_toList] at hi h;have q:=r i j (Aw _) (Nat.le_of_lt o) ω;have a1:xs[i]?=some xs[i]:=getElem?_pos xs i hi;have a2:xs[j]?=some xs[j]:=getElem?_pos xs j h;rw[Tim.i0 a1,Tim.i0 a2] at q;simp only[Array.getElem_toList];obtain⟨f,g1,_⟩:=Cu l (p:=xs[i]) (by
   have:=pl.mem_iff.mp (show xs[i]∈xs.toList by simp)
   simpa using this)
  obtain⟨g,g2,_⟩:=Cu l (p:=xs[j]) (by
   have:=pl.mem_iff.mp (show xs[j]∈xs.toList by simp)
   simpa using this)
  have c:f<ls.length:=by rw[<-B.len];exact(List.getElem?_eq_some_iff.mp g1).1
  have d:g<ls.length:=by rw[<-B.len];exact(List.getElem?_eq_some_iff.mp g2).1
  have f1:ls[f]?=some ls[f]:=Ab c;have f2:ls[g]?=some ls[g]:=Ab d;unfold ny at q;rw[sn B.fn g1 f1,sn B.fn g2 f2] at q ⊢;have:=Hl (ls:=ls) (Az d) (Az c);rw[<-this];exact decide_eq_false ω
end
end b7
end
section
namespace b7
open PySem PyProof.Rows PySem.W
section
variable{prog:Program}{w:World}{A:Around}{E:Ω}{s:Shared}{good:Heap->Prop}{us vs:List Value}{ls:Ξ}
def L6{ns:List Int}(hi:IntsAre us ns):By prog w A (fun _=>True) us (ns.map fun n=>[n]):=by
 have f:=hi.length;have a:∀(i:Nat) u l,us[i]?=some u->(ns.map fun n=>[n])[i]?=some l->∃n t,u=.int n t/\l=[n]:=fun i u l h1 h2=>by
  obtain⟨t,e⟩:=IntsAre.int_at hi i u h1;rw[Aj] at h2;cases e2:ns[i]? with
  |none=>rw[e2] at h2;cases h2
  |some n=>
   rw[e2] at h2;have e3:ns.getD i 0=n:=by rw[Ac,e2];rfl
   rw[e3] at e;exact⟨n,t,e,(AM h2).symm⟩
 refine⟨by rw[Aa,f],fun i j u l m h1 h2 c d=>?_,fun h2=>⟨oneType',fun s Q E _ hq=>?_,fun i j u v l m h1 h2 c d s Q E _ hq=>?_⟩⟩
 ·obtain⟨n,t,e1,rfl⟩:=a i u l h1 c
  obtain⟨b,t',e2,rfl⟩:=a j u m h2 d;rw[e1] at e2;cases e2
  rfl
 ·match us,hi,h2 with
  |[],_,h2=>simp at h2
  |[_],_,h2=>simp at h2
  |v₁::v₂::rest,hi,_=>
   rw[keyKind_ints hi];exact An hq
 ·obtain⟨n,t,rfl,rfl⟩:=a i u l h1 c
  obtain⟨b,t',rfl,rfl⟩:=a j v m h2 d;refine kat_lt_int ?_;have:HT.lexLt [n] [b]=decide (n<b):=by
   rw[HT.ri]
   by_cases e:n=b
   ·rw[if_pos e,HT.KS];exact(decide_eq_false ω).symm
   ·rw[if_neg e]
  rw[this] at hq;exact hq
def IsPr(h:Heap)(u:Value)(l:List Int):Prop:=∃(a b:Addr)(n:Int)(t:Tok)(ad:List Value)(ps:List Int),u=.ref a/\l=n::ps/\IsTup h a #[.int n t,.ref b]/\IsTup h b ad.toArray/\IntsAre ad ps
def IsTup.inj{h:Heap}{a:Addr}{xs ys:Array Value}(h1:IsTup h a xs)(h2:IsTup h a ys):xs=ys:=by
 obtain⟨o,e,_,n,d⟩:=h1;obtain⟨o',e',_,b,d'⟩:=h2;rw[e] at e';cases e';rw[d] at d';injection d'
def IntsAre.inj{vs:List Value}{ns ms:List Int}(h:IntsAre vs ns)(g:IntsAre vs ms):ns=ms:=by
 induction h generalizing ms with
 |nil=>cases g;rfl
 |cons n t h ih=>cases g with|cons _ _ h'=>rw[ih h']
def IsPr.inj{h:Heap}{u:Value}{l m:List Int}(h1:IsPr h u l)(h2:IsPr h u m):l=m:=by
 obtain⟨a,b,n,t,ad,ps,rfl,rfl,c,d,i1⟩:=h1;obtain⟨a',b',j,t',its',BT,e,rfl,f,g,i⟩:=h2;cases e;have:=b7.IsTup.inj c f;cases this;have e2:=b7.IsTup.inj d g;have e3:ad=its':=by simpa using e2
 subst e3;rw[IntsAre.inj i1 i]
end
def Out(ls:Ξ)(vs out:List Value):Prop:=∃ps:List (List Int×Value),ps.Perm (ls.zip vs)/\out=ps.map (·.2)/\ps.Pairwise fun(a b:List Int×Value)=>HT.lexLt b.1 a.1=false
section
variable{prog:Program}{w:World}{A:Around}{E:Ω}{s:Shared}{good:Heap->Prop}{us vs:List Value}{ls:Ξ}
def L7(a:ls.length=vs.length)(b:us.length=vs.length)(h2:vs.length<2):Out ls vs ((us.toArray.zip vs.toArray).map (·.2)).toList:=by
 have e:((us.toArray.zip vs.toArray).map (·.2)).toList=vs:=by
  rw[Array.toList_map,show(us.toArray.zip vs.toArray).toList=us.zip vs by simp,List.map_snd_zip ω]
 rw[e];refine⟨ls.zip vs,List.Perm.refl _,by rw[List.map_snd_zip ω],?_⟩;have hz:(ls.zip vs).length<2:=by rw[List.length_zip];(first|lia|omega)
 match ls.zip vs,hz with
 |[],_=>exact List.Pairwise.nil
 |[x],_=>simp
 |_::_::_,h=>simp only[AN] at h;(first|lia|omega)
def L8(B:By prog w A good us ls)(c:us.length=vs.length)(j:vs.length<64)(hg:good s.heap){P:PySem.Fin->Shared->Prop}{G:Unit×SortSt->Sem PySem.Fin}(h:∀a,Out ls vs ((arrOf a).map (·.2)).toList->(arrOf a).size=vs.length->failedOf a=none->wpAny (model prog w) A (G (PUnit.unit,a)) P E s):wpAny (model prog w) A (if vs.toArray.size<2 then(pure general' >>= fun kind=>(if vs.toArray.size<2 then pure () else sortRuns').run (SortSt.mk' kind (us.toArray.zip vs.toArray) #[] 7 none) >>= G)
   else(keyKind' us.toArray >>= fun kind=>(if vs.toArray.size<2 then pure () else sortRuns').run (SortSt.mk' kind (us.toArray.zip vs.toArray) #[] 7 none) >>= G)) P E s:=by
 have b:(us.toArray.zip vs.toArray).size=vs.length:=by rw[Array.size_zip,Au,Au];(first|lia|omega)
 by_cases h2:vs.toArray.size<2
 ·rw[if_pos h2]
  refine Ae (An ?_);rw[if_pos h2];rw[StateT.run_pure];refine Ae (An ?_)
  try dsimp only
  rw[Au] at h2;exact h (SortSt.mk' general' (us.toArray.zip vs.toArray) #[] 7 none) (L7 (by rw[<-B.len];exact c) c h2) b rfl
 ·rw[if_neg h2,if_neg h2]
  rw[Au] at h2;obtain⟨κ,d,f⟩:=B.ask ω;refine Ae (d s _ E hg ?_);refine Ae (wpAny_mono (L4 (Q:=fun _ a=>(arrOf a).Perm (us.toArray.zip vs.toArray)/\failedOf a=none/\Tim.b7 (ny us ls) (arrOf a) 0 vs.length) B c hg ω ω f fun a a1 a2 a3=>⟨a1,a2,a3⟩) ?_ fun _ _ e=>e);rintro⟨⟨⟩,a⟩ s' ⟨rfl,hp,g,i⟩
  try dsimp only
  exact h a (by
   obtain⟨ps,a1,a2,a3⟩:=L5 B c hp i;exact⟨ps,a1,by rw[Array.toList_map];exact a2,a3⟩) (by rw[hp.size_eq];exact b) g
def L9{a:Addr}{n:Nat}{P:PySem.Fin->Shared->Prop}(c:s.heap.get? a=some (seqObj "list" vs.toArray n))(B:By prog w A good vs ls)(hg:∀h',(∀b o,b≠a->s.heap.get? b=some o->h'.get? b=some o)->good h')(hz:vs.length<=sizeLine)(j:vs.length<64)(h:∀out:Array Value,Out ls vs out.toList->P (.done (.ret .none)) {s with heap:=sortedHeap s.heap a vs out}):wpAny (model prog w) A (Builtin.«list.sort» ⟨[.ref a],[]⟩) P E s:=by
 rw[list_sort_plain];have f:a<s⁻¹:=At c;refine Ae (listItems_at c rfl ?_);refine Ae (listUpdate_at c rfl ?_ (by rw[Au];exact hz) (Aw _));obtain⟨e1,d⟩:∃e1,(s.heap.update a (Obj.mapSeq fun _=>#[])).get? a=some (seqObj "list" #[] e1):=⟨_,get?_update_seq c (fun _=>#[])⟩;refine Ae (seqEpoch_at d rfl ?_);refine Ae (wpAny_newTuple ?_ (by show vs.length<=_;exact hz));refine Ae (wpAny_newList ?_ (Aw _));refine wpAny_holding ?_;have g:(((s.heap.update a (Obj.mapSeq fun _=>#[])).push (seqObj "tuple" vs.toArray 0)).push (seqObj "list" #[] 0)).get? a=some (seqObj "list" #[] e1):=by
  rw[Heap.get?_push_ne _ _ _ (by rw[size_push',Heap.size_update];exact AB (Nat.lt_succ_of_lt f)),Heap.get?_push_ne _ _ _ (by rw[Heap.size_update];exact AB f)];exact d
 show wpAny (model prog w) A _ P E {s with heap:=((s.heap.update a (Obj.mapSeq fun _=>#[])).push (seqObj "tuple" vs.toArray 0)).push (seqObj "list" #[] 0)};dsimp only;refine L8 (s:={s with heap:=((s.heap.update a (Obj.mapSeq fun _=>#[])).push (seqObj "tuple" vs.toArray 0)).push (seqObj "list" #[] 0)}) B rfl j (hg _ fun b o hb e=>Ai _ (Ai _ (by rw[Heap.get?_update_ne _ _ _ _ hb];exact e))) fun l c hsz i=>?_;dsimp only;refine Ae (seqEpoch_at g rfl ?_);refine Ae (listUpdate_at g rfl ?_ (Aw _) (Ag (Nat.le_of_eq ((Array.size_map ..).trans hsz)) (Nat.le_succ_of_le hz)));rw[i];simp only[bne_self_eq_false,Bool.false_eq_true,if_false];exact An (h _ c)
end
end b7
end
section
namespace L2
open PySem PySem.Spec PyProof.Rows
noncomputable def gT(N N':List Str)(aj:List (Option Nat))(scope:Scope):Bool:=decide (aj.length=N'.length)&&(aj.zip N').all fun p=>match p.1 with
 |none=>true
 |some j=>decide (N[j]?=some p.2)&&decide (scope.names.lookup p.2=some .free)
def Ej{N N':List Str}{aj:List (Option Nat)}{scope:Scope}(h:gT N N' aj scope=true):kW N N' aj scope:=by
 unfold gT at h;rw[AZ,decide_eq_true_eq,AY] at h;refine⟨h.1,fun i j e=>?_⟩;have hi:i<aj.length:=(List.getElem?_eq_some_iff.mp e).1;have e2:N'[i]?=some N'[i]:=Ab (by rw[<-h.1];exact hi);have:=h.2 (some j,N'[i]) (List.mem_iff_getElem?.mpr ⟨i,by rw[b7.dh,e,e2];rfl⟩);simp only[AZ,decide_eq_true_eq] at this;exact⟨N'[i],e2,this.1,this.2⟩
section
variable{X:Cx}{scope:Scope}{aj:List (Option Nat)}{tg iter aP:Expr}{aC:List Expr}{wi:TI}{g:TG}{tc:TT}{te:TE}{pos:Pos}
def zu(N N':List Str)(aj:List (Option Nat))(hi:PI X tg iter wi)(hg:∀a C s₀ H₀ ex,PG (d0 X scope N' a C s₀ H₀ ex) tg g)(c:∀a C s₀ H₀ ex,gu (d0 X scope N' a C s₀ H₀ ex) aC tc)(d:∀a C s₀ H₀ ex,PE (d0 X scope N' a C s₀ H₀ ex) aP te)(hc:X.calm=true:=by rfl)(hk:scope.kind=.function:=by rfl)(e:∀y∈scope.names,y.2≠.cell:=by decide +kernel)(f:∀y∈scope.names,y.2=.free->scope.names.lookup y.1=some .free:=by decide +kernel)(h:∀y∈scope.names,y.2=.local->scope.names.lookup y.1=some .local:=by decide +kernel)(hfr:∀y∈scope.names,y.2=.free->X.env.kindOf y.1=some .cell\/X.env.kindOf y.1=some .free)(i:X.N=N:=by rfl)(b:gT N N' aj scope=true:=by decide +kernel)(j:∀x,foldedSetIterable iter X.env x=pure x:=by intro _;rfl):PE X (.ListComp aP [⟨tg,iter,aC,0⟩] scope pos) (gw wi aj g tc te):=
 Lx hc hk e f h hfr (Ej (by rw[i];exact b)) hi hg c d j
end
def bM{env:Env}{scope:Scope}(h:scope.names.all (fun y=>decide (y.2≠.free))=true):∀y∈scope.names,y.2=.free->env.kindOf y.1=some .cell\/env.kindOf y.1=some .free:=fun y hy e=>
 absurd e (of_decide_eq_true (List.all_eq_true.mp h y hy))
def bx{env:Env}{scope:Scope}(sc:Scope)(h:scope.names.all (fun y=>decide (y.2≠.free)|| decide (sc.names.lookup y.1=some .cell)|| decide (sc.names.lookup y.1=some .free))=true)(a:env.scope=sc:=by rfl):∀y∈scope.names,y.2=.free->env.kindOf y.1=some .cell\/env.kindOf y.1=some .free:=fun y hy e=>by
 subst a;have:=List.all_eq_true.mp h y hy;simp only[Bool.or_eq_true,decide_eq_true_eq] at this;rcases this with (q|q)|q
 ·exact absurd e q
 ·exact .inl q
 ·exact .inr q
def bA(l:List Str)(h:l.Nodup:=by decide +kernel):l.Nodup:=h
def gf{te:TE}{σ:St}{H:Hp}{P:VK}{S:Hp->Prop}(h:te σ H P):bC σ H fun b a=>if b=true then te σ a P else S a:=by
 show if true=true then te σ H P else S H;rw[if_pos rfl];exact h
def ci{i:Nat}{v:V}{te:TE}{σ:St}{H:Hp}{P:St->VK}{S:St->Hp->Prop}(h:te (σ.set i (some v)) H (P (σ.set i (some v)))):zL i v σ H fun a d=>bC a d fun b c=>if b=true then te a c (P a) else S a c:=gf (S:=S (σ.set i (some v))) h
def zw{J:It}{g:TG}{tc:TT}{te:TE}{σ:St}{H1:Hp}{Q:VK}{D:Addr}(h:cf J g tc te σ H1 D Q):cf J g tc te σ H1 D Q:=h
end L2
end
section
namespace HT
open PySem PyProof.Rows
section
variable{prog:Program}{w:World}{A:Around}{E:Ω}{s:Shared}
def L_{t c:Addr}{a:Array Value}{vl d:Value}{lo hi:Option Int}{Q:Ω}(b:IsTup s.heap t a)(e:s.heap.IsSliceOf c vl d .none)(pl:IsPart vl lo)(l:IsPart d hi)(hw:sIx a.size 0 lo=0/\sIx a.size a.size hi=a.size)(h:Q (.ref t) s):wpAny (model prog w) A (getItem (.ref t) (.ref c)) Q E s:=by
 obtain⟨os,f,g,o⟩:=id e;have i:s.TypeIs (.ref c) "slice":=⟨os,f,g⟩;obtain⟨p,q,r,nt,u⟩:=id b;unfold getItem
 try with_reducible refine wpAny_holding ?_
 first|refine Ae (An ?_)|skip
 refine Ae (wpAny_sequenceKey b.typeIs ξ ?_);refine Ae (wpAny_callSpecial?_slot (name:=Str.ofString "__getitem__") b.typeIs PyProof.Rows.slot_tuple_getitem
  (wpAny_call_entry PyProof.Rows.slot_tuple_getitem b.typeIs entry_tuple_getitem ?_ (args_tuple_getitem _ _)))
 show wpAny _ _ (Builtin.Tuple.tupleItemsOf (.ref t) >>= _) _ _ s;refine Ae (tupleItemsOf_ b ?_);refine Ae (wpAny_typeOf i ?_);rw[if_pos ξ];refine Ae (GL e pl l ?_);have j:((((sIx a.size 0 lo:Nat):Int)==0&&(1:Int)==1&&(sIx a.size a.size hi-sIx a.size 0 lo)==a.size)=true):=by
  rw[hw.1,hw.2];simp
 show wpAny _ _ (if(((sIx a.size 0 lo:Nat):Int)==0&&(1:Int)==1&&(sIx a.size a.size hi-sIx a.size 0 lo)==a.size)=true then _ else _) _ _ s;rw[if_pos j];refine Ae ?_;unfold Builtin.Tuple.tupleIsExact;refine Ae (wpAny_typeOf b.typeIs (An ?_));rw[if_pos ξ];refine Ae (wpAny_rule ?_);exact An ⟨_,rfl,An h⟩
end
end HT
namespace L2
open PySem PySem.Spec PyProof.Rows
section
variable{X:Cx}
def Ek:V->Option Int->Option Int->Hp->VK->Prop:=fun x lo hi H Q=>∃a xs,x=.ref a/\H a=some (.tup xs)/\∀p H',Same H H'->H' p=some (.tup (cz xs lo hi))->Q (.ref p) H'
def Hm:B' X Ek:=by
 intro aa s σ H x v vl f lo hi g Q I b c pl d h;obtain⟨a,xs,rfl,hx,q⟩:=h
 by_cases hw:HT.sIx xs.length 0 lo=0/\HT.sIx xs.length xs.length hi=xs.length
 ·cases b
  obtain⟨ad,r,e,hz⟩:=I.tuple (SqT.of (K:=X.K) hx);have i:ad.toArray.size=xs.length:=by rw[Au];exact r.length.symm
  refine⟨"tuple",_,PyProof.Rows.slot_tuple_getitem.lookup,e.typeIs,HT.L_ e c pl d (by rw[i];exact hw) ⟨.ref a,H,I,rfl,q a H (Same.refl H) ?_⟩⟩;rw[hx];unfold cz;rw[hw.1,hw.2,List.drop_zero,Nat.sub_zero,Aq (Ad _)]
 ·exact K2 aa s σ H (.ref a) v vl f lo hi g Q I b c pl d ⟨a,xs,rfl,SqT.of hx,hw,fun p hp=>q p _ (Same.new hp) zc⟩
end
end L2
end
section
namespace K21
open PySem L2
noncomputable def top(i:Nat):Stmt:=PySem.Challenge.pw_seamwright_k21_whole_right_papers.main.body.getD i (.Pass ⟨0,0,0,0⟩)
end K21
end
section
namespace L2
open PySem PySem.Spec PyProof.Rows
section
variable{X:Cx}{scope:Scope}{aj:List (Option Nat)}{tg iter aP:Expr}{aC:List Expr}{wi:TI}{g:TG}{tc:TT}{te:TE}{pos:Pos}
def L'(N N':List Str)(aj:List (Option Nat))(hi:PI X tg iter wi)(hg:∀a C s₀ H₀ ex,PG (cxD X scope N' a C s₀ H₀ ex) tg g)(c:∀a C s₀ H₀ ex,gu (cxD X scope N' a C s₀ H₀ ex) aC tc)(d:∀a C s₀ H₀ ex,PE (cxD X scope N' a C s₀ H₀ ex) aP te)(hc:X.calm=true:=by rfl)(hk:scope.kind=.function:=by rfl)(e:∀y∈scope.names,y.2=.cell->scope.names.lookup y.1=some .cell:=by decide +kernel)(f:∀y∈scope.names,y.2=.free->scope.names.lookup y.1=some .free:=by decide +kernel)(h:∀y∈scope.names,y.2=.local->scope.names.lookup y.1=some .local:=by decide +kernel)(hfr:∀y∈scope.names,y.2=.free->X.env.kindOf y.1=some .cell\/X.env.kindOf y.1=some .free)(i:X.N=N:=by rfl)(b:gT N N' aj scope=true:=by decide +kernel)(j:∀x,foldedSetIterable iter X.env x=pure x:=by intro _;rfl):PE X (.ListComp aP [⟨tg,iter,aC,0⟩] scope pos) (gw wi aj g tc te):=
 LP hc hk e f h hfr (Ej (by rw[i];exact b)) hi hg c d j
end
def Ma{env env0:Env}{scope a:Scope}(c:env.scope=relabel a env0)(h:scope.names.all (fun y=>decide (y.2≠.free)|| decide (a.names.lookup y.1=some .cell)|| decide (a.names.lookup y.1=some .free))=true):∀y∈scope.names,y.2=.free->env.kindOf y.1=some .cell\/env.kindOf y.1=some .free:=by
 intro y hy e;have:=List.all_eq_true.mp h y hy;simp only[Bool.or_eq_true,decide_eq_true_eq] at this;have b:a.names.lookup y.1=some .free\/a.names.lookup y.1=some .cell:=by
  rcases this with (q|q)|q
  ·exact absurd e q
  ·exact .inr q
  ·exact .inl q
 have:=Ea (scope:=a) (env:=env0) b;unfold Env.kindOf;rw[c];rcases this with q|q
 ·exact .inr q
 ·exact .inl q
section
variable{X:Cx}{scope:Scope}{N':List Str}{aj:List (Option Nat)}{tg iter aP:Expr}{aC:List Expr}{wi:TI}{g:TG}{tc:TT}{te:TE}{pos:Pos}
def Mb{i:Nat}{x:Str}{aE E:Pos}(hc:X.calm=true)(hk:scope.kind=.function)(G:∀y∈scope.names,y.2=.cell->scope.names.lookup y.1=some .cell)(Q:∀y∈scope.names,y.2=.free->scope.names.lookup y.1=some .free)(S:∀y∈scope.names,y.2=.local->scope.names.lookup y.1=some .local)(hfr:∀y∈scope.names,y.2=.free->X.env.kindOf y.1=some .cell\/X.env.kindOf y.1=some .free)(j:kW X.N N' aj scope)(hi:PI X tg iter wi)(hg:∀d C s₀ H₀ ex,PG (cxD X scope N' d C s₀ H₀ ex) tg g)(T:∀d C s₀ H₀ ex,gu (cxD X scope N' d C s₀ H₀ ex) aC tc)(U:∀d C s₀ H₀ ex,PE (cxD X scope N' d C s₀ H₀ ex) aP te)(W:∀x,foldedSetIterable iter X.env x=pure x)(Y:X.N.Nodup)(r:X.N[i]?=some x)(hx:Loc X.env.scope x)(Z:X.fn x=true\/X.env.scope.names.lookup x=some .local)(iX:swapsWith (.ListComp aP [⟨tg,iter,aC,0⟩] scope pos) (some (.Name x aE)) E.line X.env=pure true):PS X (.Assign [.Name x aE] (.ListComp aP [⟨tg,iter,aC,0⟩] scope pos) E) (gH (gw wi aj g tc te) (zL i)):=by
 intro aa s σ H D I h;rw[exec_Assign_Name_used _ _ _ _ iX];refine Ae (wpAny_standAt (Ae ?_));show wpAny _ X.A (do let _ <-comprehension (.ListComp aP [⟨tg,iter,aC,0⟩] scope pos) scope X.env _ (newList []) (firstAsync [⟨tg,iter,aC,0⟩]) (firstIter [⟨tg,iter,aC,0⟩] X.env) (some (assign (.Name x aE) X.env))) _ _ s;refine Ae (wpAny_mono (Ec (use:=some (assign (.Name x aE) X.env)) (R:=fun _ s'=>SP X aa D .next s') hc hk G Q S hfr j hi hg T U W I h fun F C H' w f L q=>?_) (fun _ s' hq=>An (An hq)) fun _ _ e=>e);show wpAny _ X.A (assign (.Name x aE) X.env (.ref F)) _ _ w;refine wpAny_assign_Name (F' (v:=.ref F) (L.back w.heap (Heap.SameBut.refl _ _)) Y r hx rfl (fun J I5 ⟨a,p,M⟩=>?_) Z);have P:C≠a:=by
  rcases M with e|e
  ·rw[e];exact L.nl
  ·exact fun z=>L.nc x a e z.symm
 obtain⟨m,O⟩:=L.ns;refine⟨m,O.sameBut p P,fun h' l=>⟨_,H',?_,q⟩⟩;refine I5.call' (s':={J with heap:=h'}) (ch:=[C]) rfl ⟨fun b o q n hb hx=>?_,fun b o q n hb hx=>?_,fun b o q n hx=>n,fun b o q hx=>?_,fun b xs q=>q,fun b o u q=>q,fun b ps q=>⟨#[],by simpa using q⟩⟩ ?_ I5.bare fun b hb=>?_
 ·exact(l.2 b (by simpa using hx)).trans q
 ·exact⟨o.slots,(l.2 b (by simpa using hx)).trans q⟩
 ·exact⟨o,(l.2 b (by simpa using hx)).trans q⟩
 ·intro b u e
  refine(I5.hok b u e).stay (fun c v hc q=>(l.2 c ?_).trans q) (fun _ q=>q) fun _ _ q=>q;rintro rfl;rcases hc with z|z
  ·rw[<-z,L.no] at e;cases e
  ·rw[L.no] at z;cases z
 ·have e:b=C:=by simpa using hb
  subst e;exact⟨.inr L.far,L.nl,L.nc,L.np⟩
def Mc{i:Nat}{x:Str}{aE f:Pos}(hc:X.calm=true)(hk:scope.kind=.function)(c:∀y∈scope.names,y.2≠.cell)(h:∀y∈scope.names,y.2=.free->scope.names.lookup y.1=some .free)(j:∀y∈scope.names,y.2=.local->scope.names.lookup y.1=some .local)(hfr:∀y∈scope.names,y.2=.free->X.env.kindOf y.1=some .cell\/X.env.kindOf y.1=some .free)(b:kW X.N N' aj scope)(hi:PI X tg iter wi)(hg:∀a C s₀ H₀ ex,PG (d0 X scope N' a C s₀ H₀ ex) tg g)(l:∀a C s₀ H₀ ex,gu (d0 X scope N' a C s₀ H₀ ex) aC tc)(o:∀a C s₀ H₀ ex,PE (d0 X scope N' a C s₀ H₀ ex) aP te)(p:∀x,foldedSetIterable iter X.env x=pure x)(q:X.N.Nodup)(d:X.N[i]?=some x)(hx:Loc X.env.scope x)(r:X.fn x=true\/X.env.scope.names.lookup x=some .local)(s:swapsWith (.ListComp aP [⟨tg,iter,aC,0⟩] scope pos) (some (.Name x aE)) f.line X.env=pure true):PS X (.Assign [.Name x aE] (.ListComp aP [⟨tg,iter,aC,0⟩] scope pos) f) (gH (gw wi aj g tc te) (zL i)):=
 Mb hc hk (fun y hy e=>absurd e (c y hy)) h j hfr b hi (fun a C s₀ H₀ ex=>nf (X:=X) (N':=N') c a C s₀ H₀ ex▸hg a C s₀ H₀ ex) (fun a C s₀ H₀ ex=>nf (X:=X) (N':=N') c a C s₀ H₀ ex▸l a C s₀ H₀ ex) (fun a C s₀ H₀ ex=>nf (X:=X) (N':=N') c a C s₀ H₀ ex▸o a C s₀ H₀ ex) p q d hx r s
end
section
variable{X:Cx}{scope:Scope}{aj:List (Option Nat)}{tg iter aP:Expr}{aC:List Expr}{wi:TI}{g:TG}{tc:TT}{te:TE}{pos:Pos}
def k4{i:Nat}{x:Str}{aE d:Pos}(e:X.N.Nodup)(c:X.N[i]?=some x)(hx:Loc X.env.scope x)(N N':List Str)(aj:List (Option Nat))(hi:PI X tg iter wi)(hg:∀a C s₀ H₀ ex,PG (d0 X scope N' a C s₀ H₀ ex) tg g)(f:∀a C s₀ H₀ ex,gu (d0 X scope N' a C s₀ H₀ ex) aC tc)(h:∀a C s₀ H₀ ex,PE (d0 X scope N' a C s₀ H₀ ex) aP te)(hc:X.calm=true:=by rfl)(hk:scope.kind=.function:=by rfl)(j:∀y∈scope.names,y.2≠.cell:=by decide +kernel)(l:∀y∈scope.names,y.2=.free->scope.names.lookup y.1=some .free:=by decide +kernel)(o:∀y∈scope.names,y.2=.local->scope.names.lookup y.1=some .local:=by decide +kernel)(hfr:∀y∈scope.names,y.2=.free->X.env.kindOf y.1=some .cell\/X.env.kindOf y.1=some .free)(p:X.N=N:=by rfl)(b:gT N N' aj scope=true:=by decide +kernel)(q:∀x,foldedSetIterable iter X.env x=pure x:=by intro _;rfl)(r:X.fn x=true\/X.env.scope.names.lookup x=some .local:=by first|exact .inl rfl|exact .inr rfl|assumption)(s:swapsWith (.ListComp aP [⟨tg,iter,aC,0⟩] scope pos) (some (.Name x aE)) d.line X.env=pure true:=by rfl):PS X (.Assign [.Name x aE] (.ListComp aP [⟨tg,iter,aC,0⟩] scope pos) d) (gH (gw wi aj g tc te) (zL i)):=
 Mc hc hk j l o hfr (Ej (by rw[p];exact b)) hi hg f h q e c hx r s
end
end L2
end
section
namespace K21
open PySem L2
noncomputable abbrev sy:Stmt:=top 6
noncomputable abbrev jG:Stmt:=top 7
noncomputable abbrev sF:Stmt:=top 8
def bR:A5 "len"=some (.builtin "len"):=δ
def i5:A5 "all"=some (.builtin "all"):=δ
abbrev Rws(H:Hp)(rs:List Addr)(tb:Ξ):Prop:=Paired (fun a ns=>H a=some (.lst (ns.map V.int))) rs tb
noncomputable def wid(tb:Ξ):Nat:=(tb[0]?.map List.length).getD 0
noncomputable def cu(tb:Ξ):Bool:=decide (tb.length<=40)&&decide (wid tb<=40)&&tb.all fun r=>decide (r.length=wid tb)
def Rws.same{H H2:Hp}{rs:List Addr}{tb:Ξ}(h:Rws H rs tb)(s:Same H H2):Rws H2 rs tb:=Paired.mapP h fun _ _ e=>s _ _ e
def Rws.len{H:Hp}{rs:List Addr}{tb:Ξ}(h:Rws H rs tb):rs.length=tb.length:=by
 induction h with
 |nil=>rfl
 |cons _ _ ih=>rw[AN,AN,ih]
def Rws.get{H:Hp}{rs:List Addr}{tb:Ξ}(h:Rws H rs tb):∀{j:Nat}{a:Addr},rs[j]?=some a->∃ns,tb[j]?=some ns/\H a=some (.lst (ns.map V.int)):=by
 induction h with
 |nil=>intro j a e;simp at e
 |cons r t ih=>
  intro j a e;cases j with
  |zero=>simp at e;subst e;exact⟨_,rfl,r⟩
  |succ j=>simpa using ih (by simpa using e)
def zA{n:Nat}(h:n<=100000):n<=sizeLine:=by rw[sizeLine_eq];(first|lia|omega)
def Bb{a:Type}{l:List a}{i:Nat}{x:a}(h:l[i]?=some x):l.take (i+1)=l.take i++[x]:=by rw[List.take_add_one,h];rfl
abbrev Cv(K:Af):List V->Hp->VK->Prop:=fun xs H Q=>∃p ys,xs=[.ref p]/\(SqL K H p ys\/SqT K H p ys)/\Q (.int ys.length) H
def i6{b:List Addr}{i:Nat}{x:V}(h:(b.map V.ref)[i]?=some x):∃a,b[i]?=some a/\x=.ref a:=by
 rw[Aj] at h;cases e:b[i]? with
 |none=>rw[e] at h;cases h
 |some a=>rw[e] at h;cases h;exact⟨a,rfl,rfl⟩
section
variable{P:Program}{w:World}{K:Af}{mg:Str->Option Value}{base:Heap}
def nD{H2:Hp}{L D:Addr}{rs:List Addr}{tb:Ξ}{Q:VK}{f:Type}{mkV:f->V}{g:List Int->f}{te:TE}{c:List (Option V)}(u:∀(o:Addr)(os:List Int)(H:Hp)(R:VK),Same H2 H->H o=some (.lst (os.map V.int))->os∈tb->(∀H',Same H H'->R (mkV (g os)) H')->te (some (.ref o)::c) H R)(w:SqL K H2 L (rs.map V.ref))(h:Rws H2 rs tb)(hz:tb.length<=1000)(i:H2 D=none)(k:∀b,Same H2 b->b D=some (.lst ((tb.map g).map mkV))->Q (.ref D) b):cf (eP K L) (zL 0) bC te (none::c) H2 D Q:=by
 have r:=h.len;refine jF (xs:=rs.map V.ref) (fun j σ ys b=>∃(v:Option V),σ=v::c/\Same H2 b/\b D=some (.lst ys)/\ys=((tb.take j).map g).map mkV) ?_ ?_ ?_ ?_
 ·exact⟨none,rfl,Same.new i,zc,rfl⟩
 ·rintro j σ ys b ⟨v,rfl,sm,a,rfl⟩
  exact sm.seq w
 ·rintro j σ ys b x hx l hy ⟨v,rfl,sm,a,rfl⟩
  obtain⟨o,p,rfl⟩:=i6 hx;obtain⟨os,e,q⟩:=h.get p;have s:(rs.map V.ref).length<=sizeLine:=by rw[Aa];exact zA (by lia)
  refine ci ?_;refine u o os b _ sm (sm _ _ q) (Ak e) fun y d=>bI s l hy (d _ _ a) ⟨_,rfl,(sm.trans d).then i,zc,?_⟩;rw[Bb e,Ao,Ao]
  rfl
 ·rintro σ ys b ⟨v,rfl,sm,a,rfl⟩
  rw[Aa,r,Aq (Ad _)] at a;exact k b sm a
def k7(K:Af):Sp:=fun vs H Q _=>∃L rs tb,vs=[.ref L]/\SqL K H L (rs.map V.ref)/\Rws H rs tb/\Q (.int (wid tb)) H
def Md:zn ["table"] ["table"] (zg jG):=⟨rfl,rfl,rfl,δ,rfl,δ,δ⟩
def El{f:Addr}{fd:FuncData}(F:Fun K "width_of" "width_of" jG f fd)(bl:mg "len"=none):ai P w K mg base av 1 f fd ["table"] (k7 K):=by
 refine F.ok Md (fun vs H Q E h=>?_) (fun l A outer s H vs Q E hr h=>?_)
 ·obtain⟨L,rs,tb,rfl,_⟩:=h;rfl
 ·obtain⟨L,rs,tb,rfl,c,d,k⟩:=h
  refine⟨_,zh (zo (qb (zv gR (zk zj rfl bl bR (za (pv 0) zb)) ze (ar _)) (zk zj rfl bl bR (za (zp zq (pv 0) ze (fun _ _=>rfl)) zb)) ze)),?_⟩;refine⟨_,rfl,L,_,rfl,.inl c,_,_,rfl,rfl,_,rfl,?_⟩;have i:=d.len;refine dY (fun h1=>?_) (fun h1=>?_)
  ·cases rs with
   |nil=>have:=of_decide_eq_true h1;simp at this
   |cons a r=>
    obtain⟨ns,e,g⟩:=d.get (j:=0) rfl;refine⟨_,rfl,L,_,_,_,rfl,rfl,c,zi (j:=0) rfl,a,_,rfl,.inl (SqL.of g),?_⟩;have:wid tb=ns.length:=by unfold wid;rw[e];rfl
    rw[this] at k;rw[Aa];exact k
  ·cases rs with
   |cons a r=>have:=of_decide_eq_false (Bool.eq_false_iff.mpr h1);simp at this
   |nil=>
    cases tb with
    |nil=>exact k
    |cons a b=>cases i
def Hn(K:Af):Sp:=fun vs H Q _=>∃L rs tb,vs=[.ref L]/\SqL K H L (rs.map V.ref)/\Rws H rs tb/\tb.length<=1000/\∀H',Same H H'->Q (.bl (cu tb)) H'
def Me:zn ["table"] ["table"] (zg sy):=⟨rfl,rfl,rfl,δ,rfl,δ,δ⟩
abbrev Em(K:Af):TE:=bL qS (iY (Cv K) (zX (au 0) bB)) (e8 (k7 K) [] E0 (zX (au 1) bB))
def Mf{f j:Addr}{fd l:FuncData}(F:Fun K "is_table" "is_table" sy f fd)(bl:mg "len"=none)(J:mg "all"=none){M tc:Tok}(N:mg "MOST_ROWS"=some (.int 40 M))(O:mg "MOST_COLUMNS"=some (.int 40 tc))(Fw:Fun K "width_of" "width_of" jG j l)(q:Binds K l ["table"] [])(u:mg "width_of"=some (.ref j)):ai P w K mg base av 2 f fd ["table"] (Hn K):=by
 have x:ai P w K mg base av 1 j l ["table"] (k7 K):=El Fw bl;refine F.ok Me (fun vs H Q E h=>?_) (fun T A outer s H vs Q E hr h=>?_)
 ·obtain⟨L,rs,tb,rfl,_⟩:=h;rfl
 ·obtain⟨L,rs,tb,rfl,a,b,hz,k⟩:=h
  refine⟨_,zd (b8 (PW.pt (gs (zv gR (zk zj rfl bl bR (za (pv 0) zb)) (Gh (v:=.int 40) rfl N ⟨_,rfl⟩) (ar _))
    (hZ (zv gR (zf x hr rfl u Fw.kp q .nil ac (za (pv 0) zb)) (Gh (v:=.int 40) rfl O ⟨_,rfl⟩) (ar _))))) (zh (zo dk)) zF)
   (zh (zo (zk (iZ rfl) rfl J i5 (za (zu ["table"] ["row","table"] [none,some 0] (zJ (pv 0)) (fun p C s₀ H₀ ex=>zl (i:=0) (bA ["row","table"]) rfl (Or.inl rfl)) (fun p C s₀ H₀ ex=>zy)
    (fun p C s₀ H₀ ex=>fX fV (zk zj rfl bl bR (za (pv 0) zb)) (zf x hr rfl u Fw.kp q .nil ac (za (pv 1) zb)) (ar _)) (te:=Em K) (hfr:=bx (zg sy) δ)) zb)))),?_⟩
  have I:=b.len;refine⟨_,rfl,L,_,rfl,.inl a,_,_,rfl,rfl,_,rfl,?_⟩;rw[Aa,I]
  by_cases c1:40<tb.length
  ·rw[decide_eq_true (show(40:Int)<(tb.length:Int) from ω)]
   refine aS (aS ?_);have:cu tb=false:=by unfold cu;rw[decide_eq_false ω];rfl
   rw[this] at k;exact k H (Same.refl H)
  rw[decide_eq_false (show ¬(40:Int)<(tb.length:Int) from ω)];refine aI ⟨_,rfl,L,rs,tb,rfl,a,b,_,_,rfl,rfl,_,rfl,?_⟩
  by_cases U:40<wid tb
  ·rw[decide_eq_true (show(40:Int)<(wid tb:Int) from ω)]
   refine aS ?_;have:cu tb=false:=by unfold cu;rw[decide_eq_false (show ¬wid tb<=40 from ω),Bool.and_false];rfl
   rw[this] at k;exact k H (Same.refl H)
  rw[decide_eq_false (show ¬(40:Int)<(wid tb:Int) from ω)];refine aI ⟨_,rfl,L,rfl,⟨_,a⟩,fun D y=>?_⟩;refine zw (nD (mkV:=V.bl) (g:=fun r=>decide (r.length=wid tb)) (fun o os H' R sm z _ G=>?_) a b hz y fun S c d=>?_)
  ·refine⟨_,rfl,o,_,rfl,.inl (SqL.of z),_,rfl,L,rs,tb,rfl,sm.seq a,b.same sm,rfl,?_⟩
   rw[Aa];have:=G H' (Same.refl H');rw[show decide (V.int (os.length:Int)=V.int (wid tb:Int))=decide (os.length=wid tb) from by rw[Bool.eq_iff_iff];simp;(first|lia|omega)];exact this
  ·refine⟨D,_,rfl,SqL.of d,?_⟩
   have e:cu tb=(tb.map fun r=>decide (r.length=wid tb)).all id:=by
    unfold cu;rw[decide_eq_true (show tb.length<=40 from ω),decide_eq_true (show wid tb<=40 from ω),List.all_map];rfl
   rw[e] at k;exact k S c
end
noncomputable abbrev nE:Stmt:=top 9
noncomputable abbrev sL:Stmt:=top 10
noncomputable abbrev Cw:Stmt:=top 11
noncomputable abbrev k8:Stmt:=top 12
noncomputable abbrev nK:Stmt:=top 13
noncomputable abbrev gW:Stmt:=top 14
section
variable{P:Program}{w:World}{K:Af}{mg:Str->Option Value}{base:Heap}
def Mg:zn ["table"] ["table"] (zg sF):=⟨rfl,rfl,rfl,δ,rfl,δ,δ⟩
end
noncomputable def Rws.upd{H:Hp}{ds:List Addr}{tb:Ξ}{D:Addr}{o:HO}(h:Rws H ds tb):(∀d∈ds,d≠D)->Rws (upd H D o) ds tb:=by
 induction h with
 |nil=>intro _;exact .nil
 |cons r t ih=>intro n;exact .cons (by rw[af (n _ (Ar))];exact r) (ih fun d hd=>n d (Ax _ hd))
def Rws.snoc{H:Hp}{ds:List Addr}{tb:Ξ}{d:Addr}{ns:List Int}(h:Rws H ds tb)(e:H d=some (.lst (ns.map V.int))):Rws H (ds++[d]) (tb++[ns]):=by
 induction h with
 |nil=>exact .cons e .nil
 |cons r t ih=>exact .cons r ih
def Rws.there{H:Hp}{ds:List Addr}{tb:Ξ}(h:Rws H ds tb):∀d∈ds,H d≠none:=by
 induction h with
 |nil=>intro d hd;cases hd
 |cons r t ih=>
  intro d hd;rcases List.mem_cons.mp hd with rfl|hd
  ·rw[r];simp
  ·exact ih d hd
section
variable{P:Program}{w:World}{K:Af}{mg:Str->Option Value}{base:Heap}
def En{H2 c p:Hp}{D d:Addr}{ds:List Addr}{l:Ξ}{ns:List Int}(sm:Same H2 c)(hr:Rws c ds l)(s:ds.Nodup)(u:∀e∈ds,H2 e=none/\e≠D)(v:Same c p)(hd:c d=none)(j:c D≠none)(w:p d=some (.lst (ns.map V.int))){o:HO}:Rws (L2.upd p D o) (ds++[d]) (l++[ns])/\(ds++[d]).Nodup/\∀e∈ds++[d],H2 e=none/\e≠D:=by
 have g:H2 d=none:=by
  cases q:H2 d with
  |none=>rfl
  |some o=>rw[sm _ _ q] at hd;cases hd
 have i:d≠D:=fun z=>j (z▸hd);have all:∀e∈ds++[d],H2 e=none/\e≠D:=fun e f=>by
  rcases List.mem_append.mp f with h|h
  ·exact u e h
  ·obtain rfl:e=d:=by simpa using h
   exact⟨g,i⟩
 refine⟨((hr.same v).snoc w).upd fun e f=>(all e f).2,?_,all⟩;rw[List.nodup_append];refine⟨s,by simp,fun a r b hb=>?_⟩;obtain rfl:b=d:=by simpa using hb
 intro z;exact hr.there a r (z▸hd)
def nL{H2:Hp}{L D:Addr}{rs:List Addr}{tb:Ξ}{Q:VK}{g:List Int->List Int}{te:TE}{c:List (Option V)}(E:∀(o:Addr)(os:List Int)(H:Hp)(R:VK),Same H2 H->H o=some (.lst (os.map V.int))->os∈tb->(∀d H',Same H H'->H d=none->H' d=some (.lst ((g os).map V.int))->R (.ref d) H')->te (some (.ref o)::c) H R)(F:SqL K H2 L (rs.map V.ref))(l:Rws H2 rs tb)(hz:tb.length<=1000)(p:H2 D=none)(k:∀a ds,Same H2 a->a D=some (.lst (ds.map V.ref))->Rws a ds (tb.map g)->ds.Nodup->(∀d∈ds,H2 d=none/\d≠D)->Q (.ref D) a):cf (eP K L) (zL 0) bC te (none::c) H2 D Q:=by
 have A:=l.len;refine jF (xs:=rs.map V.ref) (fun j σ ys a=>∃(v:Option V)(ds:List Addr),σ=v::c/\Same H2 a/\a D=some (.lst ys)/\ys=ds.map V.ref/\Rws a ds ((tb.take j).map g)/\ds.Nodup/\∀d∈ds,H2 d=none/\d≠D) ?_ ?_ ?_ ?_
 ·exact⟨none,[],rfl,Same.new p,zc,rfl,.nil,.nil,fun d hd=>by cases hd⟩
 ·rintro j σ ys a ⟨v,ds,rfl,sm,_⟩
  exact sm.seq F
 ·rintro j σ ys a x hx r hy ⟨v,ds,rfl,sm,b,rfl,hr,f,h⟩
  obtain⟨o,s,rfl⟩:=i6 hx;obtain⟨os,i,u⟩:=l.get s;have C:(rs.map V.ref).length<=sizeLine:=by rw[Aa];exact zA ω
  refine ci ?_;refine E o os a _ sm (sm _ _ u) (Ak i) fun d G e hd q=>?_;obtain⟨w,y,z⟩:=En (D:=D) (o:=.lst (ds.map V.ref++[.ref d])) sm hr f h e hd (by rw[b];simp) q;refine bI C r hy (e _ _ b) ⟨_,ds++[d],rfl,(sm.trans e).then p,zc,by simp,?_,y,z⟩;rw[Bb i,Ao];exact w
 ·rintro σ ys a ⟨v,ds,rfl,sm,b,rfl,hr,f,h⟩
  rw[Aa,A,Aq (Ad _)] at hr;exact k a ds sm b hr f h
def Cy{H2:Hp}{D:Addr}{n:Nat}{Q:VK}{g:Nat->List Int}{te:TE}{c:List (Option V)}(w:∀(j:Nat)(H:Hp)(R:VK),j<n->Same H2 H->(∀d H',Same H H'->H d=none->H' d=some (.lst ((g j).map V.int))->R (.ref d) H')->te (some (.int j)::c) H R)(hz:n<=1000)(p:H2 D=none)(k:∀a ds,Same H2 a->a D=some (.lst (ds.map V.ref))->Rws a ds ((Ah n).map g)->ds.Nodup->(∀d∈ds,H2 d=none/\d≠D)->Q (.ref D) a):cf (fM 0 n) (zL 0) bC te (none::c) H2 D Q:=by
 refine nn (fun j σ ys a=>∃(v:Option V)(ds:List Addr),σ=v::c/\Same H2 a/\a D=some (.lst ys)/\ys=ds.map V.ref/\Rws a ds (((Ah n).take j).map g)/\ds.Nodup/\∀d∈ds,H2 d=none/\d≠D) ?_ ?_ ?_
 ·exact⟨none,[],rfl,Same.new p,zc,rfl,.nil,.nil,fun d hd=>by cases hd⟩
 ·rintro j σ ys a h hy ⟨v,ds,rfl,sm,b,rfl,hr,i,l⟩
  have e:(Ah n)[j]?=some j:=AL h;refine ci ?_;rw[show(0:Int)+((j:Nat):Int)=((j:Nat):Int) from ω];refine w j a _ h sm fun d x f hd q=>?_;obtain⟨r,s,u⟩:=En (D:=D) (o:=.lst (ds.map V.ref++[.ref d])) sm hr i l f hd (by rw[b];simp) q;refine bI (zA ω) h hy (f _ _ b) ⟨_,ds++[d],rfl,(sm.trans f).then p,zc,by simp,?_,s,u⟩;rw[Bb e,Ao];exact r
 ·rintro σ ys a ⟨v,ds,rfl,sm,b,rfl,hr,i,l⟩
  rw[Aq (by simp)] at hr;exact k a ds sm b hr i l
noncomputable def colAt(tb:Ξ)(k:Nat):List Int:=tb.map fun r=>r.getD k 0
def Eo(K:Af):Sp:=fun vs H Q _=>∃L rs tb,∃k:Nat,vs=[.ref L,.int k]/\SqL K H L (rs.map V.ref)/\Rws H rs tb/\tb.length<=1000/\(∀r∈tb,k<r.length)/\∀D H',Same H H'->H D=none->H' D=some (.lst ((colAt tb k).map V.int))->Q (.ref D) H'
def Mh:zn ["table","k"] ["table","k"] (zg gW):=⟨rfl,rfl,rfl,δ,rfl,δ,δ⟩
def Mj{f:Addr}{fd:FuncData}(F:Fun K "column_of" "column_of" gW f fd):ai P w K mg base av 1 f fd ["table","k"] (Eo K):=by
 refine F.ok Mh (fun vs H Q E h=>?_) (fun z A outer s H vs Q E hr h=>?_)
 ·obtain⟨L,rs,tb,i,rfl,_⟩:=h;rfl
 ·obtain⟨L,rs,tb,i,rfl,l,x,hz,hi,k⟩:=h
  refine⟨_,zh (zo (zu ["table","k"] ["row","k"] [none,some 1] (zJ (pv 0)) (fun d C s₀ H₀ ex=>zl (i:=0) (bA ["row","k"]) rfl (Or.inl rfl)) (fun d C s₀ H₀ ex=>zy)
   (fun d C s₀ H₀ ex=>zp zq (pv 0) (pv 1) (fun _ _=>rfl)) (te:=bL (dJ K) (au 0) (au 1)) (hfr:=bx (zg gW) δ))),?_⟩
  refine⟨_,rfl,L,rfl,⟨_,l⟩,fun D e=>?_⟩;refine zw (nD (mkV:=V.int) (g:=fun r=>r.getD i 0) (fun o os H' R sm p q u=>?_) l x hz e fun y b c=>k D y b e c);have a:=hi os q;refine⟨_,rfl,_,rfl,o,_,_,_,rfl,rfl,SqL.of p,zi (j:=i) (v:=V.int (os.getD i 0)) ?_,u H' (Same.refl H')⟩;rw[Aj,Ab a,Ac,Ab a]
  rfl
end
noncomputable def turn(tb:Ξ):Ξ:=(Ah (wid tb)).map (colAt tb)
def k9{tb:Ξ}(h:cu tb=true):tb.length<=40/\wid tb<=40/\∀r∈tb,r.length=wid tb:=by
 unfold cu at h;simp only[AZ,decide_eq_true_eq,AY] at h;exact⟨h.1.1,h.1.2,h.2⟩
section
variable{P:Program}{w:World}{K:Af}{mg:Str->Option Value}{base:Heap}
def nS(H:Hp)(Q:VK)(tb:Ξ):Prop:=∀D H' ds,Same H H'->H D=none->H' D=some (.lst (ds.map V.ref))->Rws H' ds tb->ds.Nodup->(∀d∈ds,H d=none/\d≠D)->Q (.ref D) H'
def Ep(K:Af):Sp:=fun vs H Q _=>∃L rs tb,∃n:Nat,vs=[.ref L,.int n]/\SqL K H L (rs.map V.ref)/\Rws H rs tb/\tb.length<=1000/\n<=1000/\(∀r∈tb,n<=r.length)/\nS H Q ((Ah n).map (colAt tb))
def Mk:zn ["table","width"] ["table","width"] (zg nK):=⟨rfl,rfl,rfl,δ,rfl,δ,δ⟩
def Ml{f e:Addr}{fd l:FuncData}(F:Fun K "columns_to" "columns_to" nK f fd)(M:mg "range"=none)(Fc:Fun K "column_of" "column_of" gW e l)(N:Binds K l ["table","k"] [])(O:mg "column_of"=some (.ref e)):ai P w K mg base av 2 f fd ["table","width"] (Ep K):=by
 have U:ai P w K mg base av 1 e l ["table","k"] (Eo K):=Mj Fc;refine F.ok Mk (fun vs H Q E h=>?_) (fun W A outer s H vs Q E hr h=>?_)
 ·obtain⟨L,rs,tb,n,rfl,_⟩:=h;rfl
 ·obtain⟨L,rs,tb,n,rfl,G,I,hz,q,J,k⟩:=h
  refine⟨_,zh (zo (zu ["table","width"] ["k","table"] [none,some 0] (zK rfl M (za (pv 1) zb)) (fun o C s₀ H₀ ex=>zl (i:=0) (bA ["k","table"]) rfl (Or.inl rfl)) (fun o C s₀ H₀ ex=>zy)
   (fun o C s₀ H₀ ex=>zf U hr rfl O Fc.kp N .nil ac (za (pv 1) (za (pv 0) zb))) (te:=e8 (Eo K) [] E0 (zX (au 1) (zX (au 0) bB))) (hfr:=bx (zg nK) δ))),?_⟩
  refine⟨_,rfl,_,rfl,ω,ω,fun D p=>?_⟩;refine Cy (n:=n) (g:=colAt tb) (fun j H' R u sm v=>⟨_,rfl,_,rfl,L,rs,tb,j,rfl,sm.seq G,I.same sm,ω,fun r hr=>AC u (J r hr),fun d S x hd y=>v d S x hd y⟩) ω p fun T ds a b c z q=>k D T ds a p b c z q
def sR(K:Af):Sp:=fun vs H Q _=>∃L rs tb,vs=[.ref L]/\SqL K H L (rs.map V.ref)/\Rws H rs tb/\cu tb=true/\nS H Q (turn tb)
def Mm:zn ["table"] ["table"] (zg k8):=⟨rfl,rfl,rfl,δ,rfl,δ,δ⟩
def Mn{f b c:Addr}{fd d e:FuncData}(F:Fun K "columns_of" "columns_of" k8 f fd)(bl:mg "len"=none)(Fc:Fun K "columns_to" "columns_to" nK b d)(o:Binds K d ["table","width"] [])(p:mg "columns_to"=some (.ref b))(x:ai P w K mg base av 2 b d ["table","width"] (Ep K))(Fw:Fun K "width_of" "width_of" jG c e)(q:Binds K e ["table"] [])(u:mg "width_of"=some (.ref c)):ai P w K mg base av 3 f fd ["table"] (sR K):=by
 have v:ai P w K mg base av 1 c e ["table"] (k7 K):=El Fw bl;refine F.ok Mm (fun vs H Q E h=>?_) (fun y A outer s H vs Q E hr h=>?_)
 ·obtain⟨L,rs,tb,rfl,_⟩:=h;rfl
 ·obtain⟨L,rs,tb,rfl,g,i,j,k⟩:=h
  obtain⟨z,C,l⟩:=k9 j;have a:Room 1 _:=hr.mono ξ;refine⟨_,zh (zo (zf x hr rfl p Fc.kp o .nil ac (za (pv 0) (za (zf v a rfl u Fw.kp q .nil ac (za (pv 0) zb)) zb)))),?_⟩;exact⟨_,rfl,_,rfl,L,rs,tb,rfl,g,i,L,rs,tb,wid tb,rfl,g,i,ω,ω,fun r hr=>by rw[l r hr];exact Ad _,k⟩
end
end K21
end
section
namespace L2
open PySem PySem.Spec PyProof.Rows
noncomputable def dL(K:Af)(a b:Addr):It:=
 ⟨fun i H=>∃xs ys,SqL K H a xs/\SqL K H b ys/\i<min xs.length ys.length,
  fun i H v H'=>∃p x y,v=.ref p/\H p=none/\H'=upd H p (.tup [x,y])/\(∀xs,SqL K H a xs->xs[i]?=some x)/\∀ys,SqL K H b ys->ys[i]?=some y,
  fun i H=>∃xs ys,SqL K H a xs/\SqL K H b ys/\i=min xs.length ys.length⟩
def Mo{P:Program}{w:World}{K:Af}{aM:List Expr}{k:Nat}{pos:Pos}(C D z TI TO i1 i2:Addr)(hd:TI≠z/\TO≠z/\TI≠TO/\TI≠i1/\TI≠i2/\z≠i1/\z≠i2/\TO≠i1/\TO≠i2/\i1≠i2):Turn P w K (.Tuple aM k pos) (dL K C D) [z,TI,TO,i1,i2] z (fun i h=>IsZip h z TI TO .none/\IsPair h TI (.ref i1) (.ref i2)/\(∃a b,IsPair h TO a b)/\h.IsListIter i1 C i/\h.IsListIter i2 D i):=by
 obtain⟨d1,d2,d3,d4,d5,d6,d7,d8,d9,O⟩:=hd;refine Ee (wr:=[z,TO,i1,i2]) (by simp) (fun i h st b hb=>?_) (fun i h h' st c=>?_) (fun b hb=>?_) (fun X hP hw hK hc i aa s σ H I N st iW=>?_) fun A i s Q E st h=>wpAny_pyIter_zip st.1 h
 ·obtain⟨a1,a2,⟨a,b',a3⟩,⟨o4,a4,_,F⟩,⟨o5,a5,_,e5⟩⟩:=st
  simp at hb;rcases hb with rfl|rfl|rfl|rfl|rfl
  ·exact⟨_,a1,fun v z=>by cases z⟩
  ·exact⟨_,a2,fun v z=>by cases z⟩
  ·exact⟨_,a3,fun v z=>by cases z⟩
  ·exact⟨_,a4,fun v z=>by rw[F] at z;cases z⟩
  ·exact⟨_,a5,fun v z=>by rw[e5] at z;cases z⟩
 ·obtain⟨a1,a2,⟨a,b',a3⟩,a4,a5⟩:=st
  exact⟨c z (by simp) _ a1,c TI (by simp) _ a2,⟨a,b',c TO (by simp) _ a3⟩,a4.at fun o e=>c i1 (by simp) o e,a5.at fun o e=>c i2 (by simp) o e⟩
 ·simp at hb ⊢
  rcases hb with rfl|rfl|rfl|rfl<;>simp
 ·subst hP hw hK
  have hd:∃xs ys,SqL X.K H C xs/\SqL X.K H D ys:=by
   rcases iW with ⟨xs,ys,a,b,_⟩|⟨xs,ys,a,b,_⟩
   ·exact⟨xs,ys,a,b⟩
   ·exact⟨xs,ys,a,b⟩
  obtain⟨xs,ys,d,l⟩:=hd;obtain⟨us,S,p1,_⟩:=I.list d;obtain⟨T,U,p2,_⟩:=I.list l;have W:=S.length;have Y:=U.length;have Z:=I.ok.hd hc;obtain⟨a1,a2,a3,a4,a5⟩:=st;have f:=fun b hb=>Ed I (N b hb) d;have G:=fun b hb=>Ed I (N b hb) l;have AP:Zp.Apart z TI TO i1 i2 [i1,C] [i2,D]:=by
   refine⟨?_,?_,?_,?_,by simp,by simp,?_,?_,d1,d2,d3,d4,d5⟩
   ·simp;exact⟨d6,(f z (by simp)).symm⟩
   ·simp;exact⟨d7,(G z (by simp)).symm⟩
   ·simp;exact⟨d8,(f TO (by simp)).symm⟩
   ·simp;exact⟨d9,(G TO (by simp)).symm⟩
   ·simp;exact⟨O,(G i1 (by simp)).symm⟩
   ·simp;exact⟨O.symm,(f i2 (by simp)).symm⟩
  have WZ:=Zp.G1 (prog:=X.prog) (w:=X.w) (A:=X.A) (Draws.list (A:=X.A.in1) Z i1 C (f i1 (by simp)) us.toArray) (Draws.list (A:=X.A.in1) Z i2 D (G i2 (by simp)) T.toArray) AP;refine⟨_,_,_,_,_,WZ,⟨a1,a2,a3,⟨a4,p1.isList⟩,⟨a5,p2.isList⟩⟩,fun j h st=>⟨st.1,st.2.1,st.2.2.1,st.2.2.2.1.1,st.2.2.2.2.1⟩,fun g=>?_,fun g=>?_⟩
  ·obtain⟨q,r,J,L,hi⟩:=g
   have e1:=I.list_inj J d;have e2:=I.list_inj L l;subst e1 e2;refine⟨by simpa[<-W,<-Y] using hi,fun aF hp=>?_⟩;obtain⟨x,y,px,py,rfl⟩:=hp;have ig:us[i]?=some x:=by simpa using px
   have M:T[i]?=some y:=by simpa using py
   have lx:i<q.length:=by lia
   have ly:i<r.length:=by lia
   have gx:q[i]?=some q[i]:=by simp[lx]
   have gy:r[i]?=some r[i]:=by simp[ly]
   obtain⟨u,e3,ru⟩:=S.get gx;obtain⟨u',F,cH⟩:=U.get gy;rw[ig] at e3;cases e3;rw[M] at F;cases F;refine⟨[q[i],r[i]],.cons ru (.cons cH .nil),c9,fun p hp=>⟨p,_,_,rfl,hp,rfl,fun zs hz=>?_,fun zs hz=>?_⟩⟩
   ·rw[I.list_inj hz d];exact gx
   ·rw[I.list_inj hz l];exact gy
  ·obtain⟨q,r,J,L,hi⟩:=g
   have e1:=I.list_inj J d;have e2:=I.list_inj L l;subst e1 e2
   simpa[<-W,<-Y] using hi
def Mp(b e:Addr)(xs ys:Array Value):Meets (Builtin.«zip.__new__» ⟨[.type "zip",.ref b,.ref e],[]⟩) (fun _ R s=>s.heap.IsList b xs/\s.heap.IsList e ys/\
   ∀h',IsZip h' (s⁻¹+4) (s⁻¹+2) (s⁻¹+3) .none->IsPair h' (s⁻¹+2) (.ref s⁻¹) (.ref (s⁻¹+1))->
   IsPair h' (s⁻¹+3) .none .none->h'.IsListIter s⁻¹ b 0->h'.IsListIter (s⁻¹+1) e 0->
   (∀c o,s.heap.get? c=some o->h'.get? c=some o)->R (.ok (.ret (.ref (s⁻¹+4)))) {s with heap:=h'}):=
 .of_wp fun prog w A R s h=>by
  obtain⟨hp,g,d,tk,os⟩:=s;obtain⟨f,i,h⟩:=h;have p:=sub_zip;have j:Heap.IsList (Shared.heap ⟨hp,g,d,tk,os⟩) b xs:=f;have l:Heap.IsList (Shared.heap ⟨hp.push {cls:=.type "list_iterator",data:=.fields #[.ref b,.int 0 0]},g,d,tk,os⟩) e ys:=Heap.IsList.push i _
  wp_walk using wpAny_pyIter_list j,wpAny_pyIter_list l
  refine⟨_,rfl,?_⟩;dsimp only at h ⊢;have a:∀(h:Heap)(o:Obj),(h.push o).objs.size=h.objs.size+1:=fun h o=>Heap.size_push ..;simp only[a,Nat.add_assoc,Nat.reduceAdd];refine h _ ?_ ?_ ?_ ?_ ?_ fun c o x=>Ai _ (Ai _ (Ai _ (Ai _ (Ai _ x))))
  ·exact Heap.get?_push_at (by simp only[a]) rfl
  ·exact Ai _ (Ai _ (Heap.get?_push_at (by simp only[a]) rfl))
  ·exact Ai _ (Heap.get?_push_at (by simp only[a]) rfl)
  ·exact⟨_,Ai _ (Ai _ (Ai _ (Ai _ (AH _ rfl)))),rfl,rfl⟩
  ·exact⟨_,Ai _ (Ai _ (Ai _ (Heap.get?_push_at (by simp only[a]) rfl))),rfl,rfl⟩
section
variable{X:Cx}{aM:List Expr}{k:Nat}{cF:Pos}
def Mq(K:Af)(ta:TA):TI:=fun σ H R=>ta σ H fun vs H1=>∃a b,vs=[.ref a,.ref b]/\(∃xs,SqL K H1 a xs)/\(∃ys,SqL K H1 b ys)/\R (dL K a b) H1
def nX{a b:Expr}{ta:TA}{p pos:Pos}(hg:Gl X "zip")(C:X.mg "zip"=none)(D:A5 "zip"=some (.type "zip"))(E:PA X [a,b] ta)(G:starEach [a,b] X.env=[(false,eval a X.env),(false,eval b X.env)]:=by rfl)(j:starEach [b] X.env=[(false,eval b X.env)]:=by rfl):PI X (.Tuple aM k cF) (.Call (.Name "zip" p) [a,b] [] pos) (Mq X.K ta):=by
 intro aa s σ H R I h;refine Call_ (iS I hg C D (PyProof.Rows.callWith_type1 (aY (E pos aa s σ H _ I h) fun us c ⟨vs,H1,I1,l,d⟩=>?_) (by rw[G,j]) (by rw[j];rfl)));obtain⟨f,g,e,⟨xs,d⟩,⟨ys,r⟩,q⟩:=d;subst e;obtain⟨u,L,rfl,v,w⟩:=vals2 l;cases v;cases w;obtain⟨x,_,y,_⟩:=I1.list d;obtain⟨A,_,p2,_⟩:=I1.list r;refine callType_new F.called_zip ξ (F.typeCall_zip_2 _ _) (F.newCall_zip_2 _ _) (fun obj=>F.args_object_init_3 obj _ _) F.entry_zip_new (Mp f g x.toArray A.toArray) ⟨y.isList,p2.isList,fun h' a1 a2 a3 a4 a5 o=>?_⟩;refine⟨⟨_,a1,rfl⟩,wpAny_pyIter_zip a1 ?_⟩;have J:Inv X aa σ H1 {c with heap:=h'}:=I1.kept (t':=c.toks) o;refine⟨c⁻¹+4,[c⁻¹+4,c⁻¹+2,c⁻¹+3,c⁻¹,c⁻¹+1],_,_,H1,rfl,J,Mo f g _ _ _ _ _ (by refine⟨?_,?_,?_,?_,?_,?_,?_,?_,?_,?_⟩<;>(intro z;have M:(_:Nat)=_:=z;lia)),⟨a1,a2,⟨_,_,a3⟩,a4,a5⟩,fun b hb=>?_,q⟩;have i:c⁻¹<=b:=by
  simp only[List.mem_cons,List.not_mem_nil,or_false] at hb;rcases hb with rfl|rfl|rfl|rfl|rfl
  ·exact Bh _ _
  ·exact Bh _ _
  ·exact Bh _ _
  ·exact Ad _
  ·exact Bh _ _
 exact I1.fpOk i (I1.hok.fresh i)
end
section
variable{K:Af}{a:Addr}{xs:List V}{g:TG}{tc:TT}{te:TE}{σ:St}{H1:Hp}{Q:VK}{D:Addr}
def Er{e f:Addr}{ys:List V}(a:Nat->St->List V->Hp->Prop)(q:a 0 σ [] (upd H1 D (.lst [])))(c:∀i σ zs H,a i σ zs H->SqL K H e xs/\SqL K H f ys)(r:∀i σ zs H p x y,xs[i]?=some x->ys[i]?=some y->i<min xs.length ys.length->zs.length<=i->a i σ zs H->H p=none->g (.ref p) σ (upd H p (.tup [x,y])) fun d s=>tc d s fun b h=>if b=true then te d h (eI (min xs.length ys.length) a D i d) else df (min xs.length ys.length) a i d h)(hd:∀σ zs H,a (min xs.length ys.length) σ zs H->Q (.ref D) H):cf (dL K e f) g tc te σ H1 D Q:=by
 refine nj (min xs.length ys.length) a q (fun σ zs H p=>⟨xs,ys,(c _ _ _ _ p).1,(c _ _ _ _ p).2,rfl⟩) (fun i σ zs H hi p=>⟨xs,ys,(c _ _ _ _ p).1,(c _ _ _ _ p).2,hi⟩) (fun i σ zs H v H' hi hy p y=>?_) hd;obtain⟨pp,x,j,rfl,hp,rfl,l,o⟩:=y;exact r i σ zs H pp x j (l xs (c _ _ _ _ p).1) (o ys (c _ _ _ _ p).2) hi hy p hp
end
def dM(i j:Int):Prop:=∃m n:Nat,i.natAbs<2 ^ m/\j.natAbs<2 ^ n/\m+n<=134217728
def Ho(i j:Int):Prop:=0<j/\j.natAbs<2 ^ 9000
section
variable{X:Cx}
def n7:cx X (binaryOp .Mult) (rI dM fun i j=>.int (i*j)):=mN fun i j _ _ _ _ _ hc q=>by
 obtain⟨m,n,h1,h2,a⟩:=hc;exact mul_int q (IntMulOk.of_le (intBits_le_iff.mpr h1) (intBits_le_iff.mpr h2) a)
def Es:cx X (binaryOp .FloorDiv) (rI Ho fun i j=>.int (i / j)):=mN fun i j _ _ _ _ _ hc q=>by
 have h1:(0:Int)<j:=hc.1;refine floordiv_int ω (by rw[Int.fdiv_eq_ediv_of_nonneg i ω];exact q) (.inl (PyProof.noPylong_of_log2 ?_));have a:j.natAbs≠0:=ω
 exact(Nat.log2_lt a).mpr hc.2
end
end L2
namespace K21
open PySem L2
noncomputable abbrev jK:Stmt:=top 34
noncomputable abbrev sV:Stmt:=top 37
def gz{ns:List Int}{i:Nat}{x:V}(h:(ns.map V.int)[i]?=some x):∃n,ns[i]?=some n/\x=.int n:=by
 rw[Aj] at h;cases e:ns[i]? with
 |none=>rw[e] at h;cases h
 |some a=>rw[e] at h;cases h;exact⟨a,rfl,rfl⟩
def la:A5 "zip"=some (.type "zip"):=δ
noncomputable def dv(rn:List Int)(q:Int)(on:List Int):List Int:=Ay (fun a b=>a-q*b) rn on
noncomputable def bH(p:Int)(rn:List Int)(q:Int)(on:List Int):List Int:=Ay (fun a b=>p*a+q*b) rn on
def lh(H:Hp)(Q:VK)(ns:List Int):Prop:=∀D H',Same H H'->H D=none->H' D=some (.lst (ns.map V.int))->Q (.ref D) H'
section
variable{P:Program}{w:World}{K:Af}{mg:Str->Option Value}{base:Heap}
def Et{H2:Hp}{r o D:Addr}{rn on:List Int}{f:Int->Int->Int}{te:TE}{c:List (Option V)}{Q:VK}(v:∀(a b:Int)(H:Hp)(R:VK),a∈rn->b∈on->R (.int (f a b)) H->te (some (.int a)::some (.int b)::c) H R)(h1:H2 r=some (.lst (rn.map V.int)))(h2:H2 o=some (.lst (on.map V.int)))(n2:on.length<=1000)(s:H2 D=none)(k:∀d,Same H2 d->d D=some (.lst ((Ay f rn on).map V.int))->Q (.ref D) d):cf (dL K r o) (cb K 2 (cq (zL 0) (cq (zL 1) ca))) bC te (none::none::c) H2 D Q:=by
 refine Er (K:=K) (xs:=rn.map V.int) (ys:=on.map V.int) (fun i σ zs d=>∃j l,σ=j::l::c/\Same H2 d/\d D=some (.lst zs)/\zs=((Ay f rn on).take i).map V.int)
  ⟨none,none,rfl,Same.new s,zc,rfl⟩ (fun i σ zs d ⟨_,_,_,sm,_⟩=>⟨SqL.of (sm _ _ h1),SqL.of (sm _ _ h2)⟩) ?_ ?_
 ·rintro i σ zs d u w x e1 e2 hi hz ⟨j,l,rfl,e,g,rfl⟩ h
  obtain⟨p,g1,rfl⟩:=gz e1;obtain⟨q,g2,rfl⟩:=gz e2;refine⟨u,_,rfl,SqT.of zc,rfl,_,_,rfl,_,_,rfl,rfl,gf ?_⟩;refine v p q _ _ (Ak g1) (Ak g2) (bI (Ag (Nat.min_le_right _ _) (by rw[Aa];exact zA ω)) hi hz (by rw[af (zm g h)];exact g) ⟨_,_,rfl,?_,zc,?_⟩)
  ·exact(e.then (e.free h)).then s
  ·have e3:(Ay f rn on)[i]?=some (f p q):=by rw[List.getElem?_zipWith,g1,g2]
   rw[Bb e3,Ao];rfl
 ·rintro σ zs d ⟨j,l,rfl,e,g,rfl⟩
  refine k d e ?_;rw[g,Aq (by simp)]
def sY:Sp:=fun vs H Q _=>∃r o rn on q,vs=[.ref r,.int q,.ref o]/\H r=some (.lst (rn.map V.int))/\H o=some (.lst (on.map V.int))/\on.length<=1000/\(∀x∈on,dM q x)/\lh H Q (dv rn q on)
def Mr:zn ["row","often","other"] ["row","often","other"] (zg jK):=⟨rfl,rfl,rfl,δ,rfl,δ,δ⟩
def Ms{f:Addr}{fd:FuncData}(F:Fun K "less" "less" jK f fd)(v:mg "zip"=none):ai P w K mg base av 1 f fd ["row","often","other"] sY:=by
 refine F.ok Mr (fun vs H Q E h=>?_) (fun y A outer s H vs Q E hr h=>?_)
 ·obtain⟨r,o,rn,on,q,rfl,_⟩:=h;rfl
 ·obtain⟨r,o,rn,on,q,rfl,h1,h2,n2,u,k⟩:=h
  refine⟨_,zh (zo (zu ["row","often","other"] ["number","taken","often"] [none,none,some 1] (nX rfl v la (za (pv 0) (za (pv 2) zb)))
   (fun e C s₀ H₀ ex=>ij rfl (zE (zl (i:=0) (bA ["number","taken","often"]) rfl (Or.inl rfl)) (zE (zl (i:=1) (bA ["number","taken","often"]) rfl (Or.inl rfl)) ii))) (fun e C s₀ H₀ ex=>zy)
   (fun e C s₀ H₀ ex=>zC eU (pv 0) (zC n7 (pv 2) (pv 1))) (te:=bL (fO fun i j=>.int (i-j)) (au 0) (bL (rI dM fun i j=>.int (i*j)) (au 2) (au 1))) (hfr:=bx (zg jK) δ) (g:=cb K 2 (cq (zL 0) (cq (zL 1) ca))))),?_⟩
  refine⟨_,rfl,_,rfl,r,o,rfl,⟨_,SqL.of h1⟩,⟨_,SqL.of h2⟩,fun D l=>?_⟩;refine zw (Et (f:=fun a b=>a-q*b) (fun a b H' R _ hb p=>?_) h1 h2 n2 l fun x c d=>k D x c l d);exact⟨_,rfl,_,rfl,_,rfl,_,_,rfl,rfl,u b hb,_,_,rfl,rfl,p⟩
def Hq:Sp:=fun vs H Q _=>∃r o rn on p q,vs=[.int p,.ref r,.int q,.ref o]/\H r=some (.lst (rn.map V.int))/\H o=some (.lst (on.map V.int))/\on.length<=1000/\(∀x∈rn,dM p x)/\(∀x∈on,dM q x)/\lh H Q (bH p rn q on)
def Mt:zn ["often","row","other_often","other"] ["often","row","other_often","other"] (zg sV):=⟨rfl,rfl,rfl,δ,rfl,δ,δ⟩
def Mu{f:Addr}{fd:FuncData}(F:Fun K "mix_of_two" "mix_of_two" sV f fd)(z:mg "zip"=none):ai P w K mg base av 1 f fd ["often","row","other_often","other"] Hq:=by
 refine F.ok Mt (fun vs H Q E h=>?_) (fun I A outer s H vs Q E hr h=>?_)
 ·obtain⟨r,o,rn,on,p,q,rfl,_⟩:=h;rfl
 ·obtain⟨r,o,rn,on,p,q,rfl,h1,h2,n2,x,y,k⟩:=h
  refine⟨_,zh (zo (zu ["often","row","other_often","other"] ["number","beside","often","other_often"] [none,none,some 0,some 2] (nX rfl z la (za (pv 1) (za (pv 3) zb)))
   (fun e C s₀ H₀ ex=>ij rfl (zE (zl (i:=0) (bA ["number","beside","often","other_often"]) rfl (Or.inl rfl)) (zE (zl (i:=1) (bA ["number","beside","often","other_often"]) rfl (Or.inl rfl)) ii))) (fun e C s₀ H₀ ex=>zy)
   (fun e C s₀ H₀ ex=>zC fT (zC n7 (pv 2) (pv 0)) (zC n7 (pv 3) (pv 1))) (te:=bL (fO fun i j=>.int (i+j)) (bL (rI dM fun i j=>.int (i*j)) (au 2) (au 0)) (bL (rI dM fun i j=>.int (i*j)) (au 3) (au 1))) (hfr:=bx (zg sV) δ) (g:=cb K 2 (cq (zL 0) (cq (zL 1) ca))))),?_⟩
  refine⟨_,rfl,_,rfl,r,o,rfl,⟨_,SqL.of h1⟩,⟨_,SqL.of h2⟩,fun D l=>?_⟩;refine zw (Et (f:=fun a b=>p*a+q*b) (fun a b H' R u hb v=>?_) h1 h2 n2 l fun G c d=>k D G c l d);exact⟨_,rfl,_,rfl,_,_,rfl,rfl,x a u,_,rfl,_,rfl,_,_,rfl,rfl,y b hb,_,_,rfl,rfl,v⟩
end
end K21
end
section
namespace Tb
abbrev Vc:=Nat->Int
noncomputable def cmb:List Int->List Vc->Vc
 |a::c,v::L=>fun u=>a*v u+cmb c L u
 |_,_=>fun _=>0
noncomputable def allv(p:Nat):Nat->Ξ
 |0=>[[]]
 |n+1=>(allv p n).flatMap fun c=>(Ah p).map fun a:Nat=>(a:Int)::c
def Cz(p:Nat):∀n,(allv p n).length=p ^ n
 |0=>rfl
 |n+1=>by
  have:∀l:Ξ,(l.flatMap fun c=>(Ah p).map fun a:Nat=>(a:Int)::c).length=l.length*p:=by
   intro l
   induction l with
   |nil=>simp
   |cons c l ih=>rw[List.flatMap_cons,AU,Aa,A8,ih,AN,Nat.add_mul];(first|lia|omega)
  show(((allv p n).flatMap fun c=>(Ah p).map fun a:Nat=>(a:Int)::c)).length=_;rw[this,Cz p n,Nat.pow_succ]
def lA{p:Nat}:∀{n:Nat}{c:List Int},c∈allv p n↔c.length=n/\∀x∈c,0<=x/\x<(p:Int)
 |0,c=>by
  show c∈[[]]↔_;rw[List.mem_singleton];constructor
  ·rintro rfl;exact⟨rfl,fun x hx=>nomatch hx⟩
  ·intro h;exact AK h.1
 |n+1,c=>by
  show c∈(allv p n).flatMap (fun c=>(Ah p).map fun a:Nat=>(a:Int)::c)↔_;rw[List.mem_flatMap];constructor
  ·rintro⟨d,hd,h⟩
   obtain⟨a,b,rfl⟩:=List.mem_map.mp h;obtain⟨h1,h2⟩:=lA.mp hd;have:=List.mem_range.mp b;refine⟨by rw[AN,h1],fun x hx=>?_⟩;rcases List.mem_cons.mp hx with rfl|hx
   ·(first|lia|omega)
   ·exact h2 x hx
  ·rintro⟨h1,h2⟩
   cases c with
   |nil=>simp at h1
   |cons a d=>
    have b:=h2 a (.head _);refine⟨d,lA.mpr ⟨by simpa using h1,fun x hx=>h2 x (.tail _ hx)⟩,List.mem_map.mpr ⟨a.toNat,List.mem_range.mpr ω,?_⟩⟩;rw[Int.toNat_of_nonneg b.1]
def Hr(p:Nat):∀n,(allv p n).Nodup
 |0=>by simp[allv]
 |n+1=>by
  show((allv p n).flatMap fun c=>(Ah p).map fun a:Nat=>(a:Int)::c).Pairwise (·≠·);rw[List.pairwise_flatMap];refine⟨fun c _=>?_,(Hr p n).imp fun{a b} h x hx y hy e=>?_⟩
  ·rw[List.pairwise_map]
   exact List.nodup_range.imp fun h e=>h (by injection e with e;(first|lia|omega))
  ·obtain⟨i,_,rfl⟩:=List.mem_map.mp hx
   obtain⟨j,_,rfl⟩:=List.mem_map.mp hy;injection e with _ e
   exact h e
def eJ{g h:Type}(f:g->h):∀(l:List g)(m:List h),l.Nodup->(∀x∈l,f x∈m)->m.length<l.length->∃x∈l,∃y∈l,x≠y/\f x=f y:=by
 intro l m i d j;apply AA;intro no;have inj:∀x∈l,∀y∈l,f x=f y->x=y:=fun x hx y hy e=>AA fun ne=>no ⟨x,hx,y,hy,ne,e⟩;have c:(l.map f).Nodup:=by
  clear d j no
  induction l with
  |nil=>exact List.nodup_nil
  |cons a l ih=>
   rw[A6,List.nodup_cons];obtain⟨h1,h2⟩:=List.nodup_cons.mp i;refine⟨fun z=>?_,ih h2 fun x hx y hy=>inj x (.tail _ hx) y (.tail _ hy)⟩;obtain⟨b,hb,e⟩:=List.mem_map.mp z;exact h1 (inj b (.tail _ hb) a (.head _) e▸hb)
 have:=c.length_le_of_subset (l₂:=m) fun y hy=>by
  obtain⟨x,hx,rfl⟩:=List.mem_map.mp hy;exact d x hx
 rw[Aa] at this;(first|lia|omega)
def CA:∀(c d:List Int)(L:List Vc),c.length=L.length->d.length=L.length->∀u,cmb (Ay (fun a b=>a-b) c d) L u=cmb c L u-cmb d L u
 |c,d,[],h1,h2,u=>by rw[AK h1,AK h2];rfl
 |[],_,_::_,h1,_,_=>by simp at h1
 |_::_,[],_::_,_,h2,_=>by simp at h2
 |a::c,b::d,v::L,h1,h2,u=>by
  show(a-b)*v u+cmb _ L u=a*v u+cmb c L u-(b*v u+cmb d L u);rw[CA c d L (by simpa using h1) (by simpa using h2),Int.sub_mul];(first|lia|omega)
def gZ(k m:Int):∀(c d:List Int)(L:List Vc),c.length=L.length->d.length=L.length->∀u,cmb (Ay (fun a b=>k*a+m*b) c d) L u=k*cmb c L u+m*cmb d L u
 |c,d,[],h1,h2,u=>by rw[AK h1,AK h2];show(0:Int)=k*0+m*0;(first|lia|omega)
 |[],_,_::_,h1,_,_=>by simp at h1
 |_::_,[],_::_,_,h2,_=>by simp at h2
 |a::c,b::d,v::L,h1,h2,u=>by
  show(k*a+m*b)*v u+cmb _ L u=k*(a*v u+cmb c L u)+m*(b*v u+cmb d L u);rw[gZ k m c d L (by simpa using h1) (by simpa using h2),Int.add_mul,Int.mul_add,Int.mul_add,AV,AV];(first|lia|omega)
def CB:∀(n:Nat)(L:List Vc)(u:Nat),cmb (Av n 0) L u=0
 |0,_,_=>rfl
 |n+1,[],_=>rfl
 |n+1,v::L,u=>by show 0*v u+cmb (Av n 0) L u=0;rw[CB n L u];(first|lia|omega)
def tf{M X:Nat}{u:Nat}:∀(c:List Int)(L:List Vc),(∀x∈c,x.natAbs<=X)->(∀v∈L,(v u).natAbs<=M)->(cmb c L u).natAbs<=L.length*(X*M)
 |[],[],_,_=>by show(0:Int).natAbs<=_;simp
 |[],_::_,_,_=>by show(0:Int).natAbs<=_;simp
 |_::_,[],_,_=>by show(0:Int).natAbs<=_;simp
 |a::c,v::L,h1,h2=>by
  have b:=tf (u:=u) c L (fun x hx=>h1 x (.tail _ hx)) fun w hw=>h2 w (.tail _ hw);have d:(a*v u).natAbs<=X*M:=by rw[AI];exact AO (h1 a (.head _)) (h2 v (.head _))
  show(a*v u+cmb c L u).natAbs<=(L.length+1)*(X*M);have:=Int.natAbs_add_le (a*v u) (cmb c L u);rw[Nat.add_mul];(first|lia|omega)
def Inj(R:List Vc)(P:List Nat):Prop:=∀c:List Int,c.length=R.length->(∀p∈P,cmb c R p=0)->∀x∈c,x=0
def g0{R:List Vc}{P:List Nat}{M:Nat}(C:1<=M)(r:∀v∈R,∀p∈P,(v p).natAbs<=M)(s:P.length<R.length):∃c:List Int,c.length=R.length/\(∃x∈c,x≠0)/\(∀p∈P,cmb c R p=0)/\∀x∈c,x.natAbs<=(2*R.length*M) ^ P.length:=by
 let j:=R.length
 let X:=(2*j*M) ^ P.length
 have w:1<=j:=by show 1<=R.length;(first|lia|omega)
 have A:1<=2*j*M:=Nat.one_le_iff_ne_zero.mpr (by intro z;rcases Nat.mul_eq_zero.mp z with z|z<;>(first|lia|omega));have q:∀c∈allv (X+1) j,P.map (fun p=>cmb c R p+(j*(X*M):Nat))∈allv (2*(j*(X*M))+1) P.length:=fun c hc=>by
  obtain⟨h1,h2⟩:=lA.mp hc;refine lA.mpr ⟨Aa _,fun x hx=>?_⟩;obtain⟨p,hp,rfl⟩:=List.mem_map.mp hx;have:=tf (u:=p) (X:=X) (M:=M) c R (fun x hx=>by have:=h2 x hx;(first|lia|omega)) fun v h=>r v h p hp;have e:R.length*(X*M)=j*(X*M):=rfl;rw[e] at this;generalize j*(X*M)=N at this ⊢;(first|lia|omega)
 have cnt:(allv (2*(j*(X*M))+1) P.length).length<(allv (X+1) j).length:=by
  rw[Cz,Cz];have e1:2*(j*(X*M))+1<=(2*j*M)*(X+1):=by
   have:2*(j*(X*M))=(2*j*M)*X:=by rw[AQ 2 j M,AQ 2 (j*M) X,AQ j M X,Nat.mul_comm M X]
   rw[this,Nat.mul_add];(first|lia|omega)
  calc (2*(j*(X*M))+1) ^ P.length<=((2*j*M)*(X+1)) ^ P.length:=Nat.pow_le_pow_left e1 _
   _=X*(X+1) ^ P.length:=Nat.mul_pow _ _ _
   _<(X+1)*(X+1) ^ P.length:=Nat.mul_lt_mul_of_pos_right (Nat.lt_succ_self _) (Nat.pow_pos (Nat.succ_pos _))
   _=(X+1) ^ (P.length+1):=by rw[Nat.pow_succ,Nat.mul_comm]
   _<=(X+1) ^ j:=AJ (Nat.succ_pos _) s
 obtain⟨x,hx,y,hy,ne,e⟩:=eJ _ _ _ (Hr (X+1) j) q cnt;obtain⟨x1,x2⟩:=lA.mp hx;obtain⟨d,o⟩:=lA.mp hy;have hz:(Ay (fun a b=>a-b) x y).length=R.length:=by rw[AF,x1,d];exact Nat.min_self _
 refine⟨Ay (fun a b=>a-b) x y,hz,?_,fun p hp=>?_,fun z hz=>?_⟩
 ·apply AA
  intro no;apply ne;refine AT (by rw[x1,d]) fun i h1 h2=>?_;have hi:i<(Ay (fun a b=>a-b) x y).length:=by rw[AF];(first|lia|omega)
  have:=AA fun nz=>no ⟨(Ay (fun a b=>a-b) x y)[i],Az hi,nz⟩;rw[A7] at this;(first|lia|omega)
 ·rw[CA x y R (by rw[x1]) (by rw[d])]
  obtain⟨i,hi,rfl⟩:=A9 hp;have:=congrArg (fun l=>l[i]?) e;simp only[Aj,Ab hi,Option.map_some,Option.some.injEq] at this;(first|lia|omega)
 ·obtain⟨i,hi,rfl⟩:=A9 hz
  rw[A7];rw[AF] at hi;have f:i<x.length:=ω
  have g:i<y.length:=ω
  have a1:=x2 _ (Az f);have a2:=o _ (Az g);show(x[i]-y[i]).natAbs<=X;(first|lia|omega)
def Hs{R:List Vc}{P:List Nat}{M:Nat}(g:1<=M)(h:∀v∈R,∀p∈P,(v p).natAbs<=M)(i:P.length=R.length)(j:P.Nodup)(hi:Inj R P){p:Nat}(hp:p∈P):∃c:List Int,c.length=R.length/\cmb c R p≠0/\(∀q∈P,q≠p->cmb c R q=0)/\∀x∈c,x.natAbs<=(2*R.length*M) ^ (R.length-1):=by
 have a:(P.erase p).length=R.length-1:=by rw[List.length_erase_of_mem hp,i]
 have d:1<=P.length:=List.length_pos_of_mem hp;obtain⟨c,h1,⟨x,hx,nx⟩,h2,b⟩:=g0 (P:=P.erase p) g (fun v f q hq=>h v f q (List.mem_of_mem_erase hq)) ω;rw[a] at b;have hz:∀q∈P,q≠p->cmb c R q=0:=fun q hq ne=>h2 q ((List.mem_erase_of_ne ne).mpr hq);refine⟨c,h1,fun z=>nx ?_,hz,b⟩;refine hi c h1 (fun q hq=>?_) x hx
 by_cases e:q=p
 ·rw[e];exact z
 ·exact hz q hq e
end Tb
end
section
namespace Tb
def Ht{f:Int->Int->Int}{c d:List Int}{x:Int}(h:x∈Ay f c d):∃a∈c,∃b∈d,x=f a b:=by
 obtain⟨i,hi,rfl⟩:=A9 h;rw[AF] at hi;exact⟨c[i]'ω,Az _,d[i]'ω,Az _,A7 ..⟩
def Eu{x:Int}(h:x≠0):1<=x.natAbs:=ω
def clear{R:List Vc}{P:List Nat}{M V:Nat}{v:Vc}(i:1<=M)(j:∀v∈R,∀p∈P,(v p).natAbs<=M)(l:P.length=R.length)(o:P.Nodup)(hi:Inj R P)(r:∀p∈P,(v p).natAbs<=V):∀Q:List Nat,Q.Nodup->(∀q∈Q,q∈P)->∃(D:Int)(s:List Int),D≠0/\s.length=R.length/\(∀q∈Q,cmb s R q=D*v q)/\(∀q∈P,q∉Q->cmb s R q=0)/\∀x∈s,x.natAbs<=D.natAbs*(Q.length*(V*(2*R.length*M) ^ (R.length-1)))
 |[],_,_=>⟨1,Av R.length 0,ξ,List.length_replicate,(fun q hq=>nomatch hq),fun q _ _=>CB _ _ _,fun x hx=>by rw[(List.mem_replicate.mp hx).2];simp⟩
 |p::Q,hn,hs=>by
  obtain⟨n1,n2⟩:=List.nodup_cons.mp hn;obtain⟨D,s,u,e,e1,e2,b⟩:=clear i j l o hi r Q n2 fun q hq=>hs q (.tail _ hq);have hp:=hs p (.head _);obtain⟨c,f,g,h,w⟩:=Hs i j l o hi hp;refine⟨D*cmb c R p,Ay (fun a b=>cmb c R p*a+(D*v p)*b) s c,Int.mul_ne_zero u g,by rw[AF];(first|lia|omega),fun q hq=>?_,fun q hq d=>?_,fun x hx=>?_⟩
  ·rw[gZ _ _ s c R e f]
   rcases List.mem_cons.mp hq with rfl|hq
   ·rw[e2 q hp n1,Int.mul_zero,Int.zero_add,Int.mul_right_comm]
   ·rw[e1 q hq,h q (hs q (.tail _ hq)) (fun z=>n1 (z▸hq)),Int.mul_zero,Int.add_zero,Int.mul_left_comm,AV]
  ·rw[gZ _ _ s c R e f,e2 q hq (fun z=>d (.tail _ z)),h q hq (fun z=>d (z▸.head _)),Int.mul_zero,Int.mul_zero];rfl
  ·obtain⟨a,y,b',A,rfl⟩:=Ht hx
   have h1:=b a y;have h2:=w b' A;have C:=r p hp;generalize (2*R.length*M) ^ (R.length-1)=X at h1 h2 ⊢;have k:=Eu g;generalize cmb c R p=E at k ⊢;have F:(E*a).natAbs<=E.natAbs*(D.natAbs*(Q.length*(V*X))):=by rw[AI];exact Al _ h1
   have G:(D*v p*b').natAbs<=D.natAbs*(V*X):=by
    rw[AI,AI,AQ];exact Al _ (AO C h2)
   have H:=Int.natAbs_add_le (E*a) (D*v p*b');have I:D.natAbs*(V*X)<=E.natAbs*(D.natAbs*(V*X)):=Nat.le_mul_of_pos_left _ k;have J:(D*E).natAbs*((Q.length+1)*(V*X))=E.natAbs*(D.natAbs*(Q.length*(V*X)))+E.natAbs*(D.natAbs*(V*X)):=by
    rw[AI,Nat.add_mul,Nat.one_mul,Nat.mul_add,Nat.mul_comm D.natAbs E.natAbs,AQ,AQ]
   show _<=(D*E).natAbs*((Q.length+1)*(V*X));rw[J];exact Ag H (Nat.add_le_add F (Ag G I))
def ti{R:List Vc}{P:List Nat}{M V:Nat}{c:List Int}(r:1<=M)(u:∀v∈R,∀p∈P,(v p).natAbs<=M)(e:P.length=R.length)(f:P.Nodup)(hi:Inj R P)(hc:c.length=R.length)(w:∀p∈P,(cmb c R p).natAbs<=V):∀x∈c,x.natAbs<=R.length*(V*(2*R.length*M) ^ (R.length-1)):=by
 obtain⟨D,s,g,h,e1,_,b⟩:=clear r u e f hi w P f fun q hq=>hq;have hz:=hi (Ay (fun a b=>D*a+(-1)*b) c s) (by rw[AF];(first|lia|omega)) fun p hp=>by
  rw[gZ _ _ c s R hc h,e1 p hp];(first|lia|omega)
 intro x hx;obtain⟨i,j,rfl⟩:=A9 hx;have l:i<s.length:=ω
 have d:i<(Ay (fun a b=>D*a+(-1)*b) c s).length:=by rw[AF];(first|lia|omega)
 have o:=hz _ (Az d);rw[A7] at o;have h1:=b _ (Az l);have h2:s[i]=D*c[i]:=ω
 rw[h2,AI,e] at h1;exact Nat.le_of_mul_le_mul_left h1 (Eu g)
end Tb
end
section
namespace Tb
def Rep(R:List Vc)(C:Nat)(v:Vc):Prop:=∃c:List Int,c.length=R.length/\(∀u,v u=cmb c R u)/\∀x∈c,x.natAbs<=C
section
variable{R:List Vc}{C D:Nat}{v w:Vc}
def Rep.mono(h:Rep R C v)(hc:C<=D):Rep R D v:=let ⟨c,h1,h2,h3⟩:=h;⟨c,h1,h2,fun x hx=>Ag (h3 x hx) hc⟩
def Rep.eq(h:Rep R C v)(e:∀u,w u=v u):Rep R C w:=let ⟨c,h1,h2,h3⟩:=h;⟨c,h1,fun u=>(e u).trans (h2 u),h3⟩
def Rep.lin{k m:Int}{A B:Nat}(g:Rep R C v)(hw:Rep R D w)(hk:k.natAbs<=A)(h:m.natAbs<=B):Rep R (A*C+B*D) fun u=>k*v u+m*w u:=by
 obtain⟨c,h1,h2,e⟩:=g;obtain⟨d,g1,g2,g3⟩:=hw;refine⟨Ay (fun a b=>k*a+m*b) c d,by rw[AF];(first|lia|omega),fun u=>?_,fun x hx=>?_⟩
 ·show k*v u+m*w u=_
  rw[gZ k m c d R h1 g1,h2,g2]
 ·obtain⟨a,f,b,hb,rfl⟩:=Ht hx
  have i:(k*a).natAbs<=A*C:=by rw[AI];exact AO hk (e a f)
  have j:(m*b).natAbs<=B*D:=by rw[AI];exact AO h (g3 b hb)
  have:=Int.natAbs_add_le (k*a) (m*b);(first|lia|omega)
def Rep.sub{m:Int}{B:Nat}(a:Rep R C v)(hw:Rep R D w)(b:m.natAbs<=B):Rep R (C+B*D) fun u=>v u-m*w u:=
 ((a.lin (k:=1) (m:=-m) hw (A:=1) (B:=B) ξ (by rw[Int.natAbs_neg];exact b)).mono ω).eq fun u=>by rw[Int.one_mul,Int.neg_mul];(first|lia|omega)
def Rep.le(h:Rep R C v){M u:Nat}(b:∀r∈R,(r u).natAbs<=M):(v u).natAbs<=R.length*(C*M):=by
 obtain⟨c,h1,h2,a⟩:=h;rw[h2];exact tf c R a b
end
noncomputable def step(f:Nat->Vc)(p:Nat)(l:Vc):Vc:=fun u=>l u-l p / f p p*f p u
noncomputable def aZ(f:Nat->Vc):List Nat->Vc->Vc
 |[],l=>l
 |p::ps,l=>aZ f ps (step f p l)
structure Ech(P:List Nat)(f:Nat->Vc):Prop where
 z:∀p∈P,∀i,i<p->f p i=0
 pos:∀p∈P,0<f p p
section
variable{f:Nat->Vc}
def Ech.sub{P Q:List Nat}(h:Ech P f)(a:∀q∈Q,q∈P):Ech Q f:=⟨fun p hp=>h.z p (a p hp),fun p hp=>h.pos p (a p hp)⟩
def Hu{P:List Nat}{p i:Nat}{l:Vc}(h:Ech P f)(hp:p∈P)(hi:i<p):step f p l i=l i:=by
 unfold step;rw[h.z p hp i hi,Int.mul_zero,Int.sub_zero]
def step_at{P:List Nat}{p:Nat}{l:Vc}(h:Ech P f)(hp:p∈P):0<=step f p l p/\step f p l p<f p p:=by
 have a:=h.pos p hp;have e:step f p l p=l p%f p p:=by
  unfold step;have:=Int.emod_add_mul_ediv (l p) (f p p);rw[Bg] at this;(first|lia|omega)
 rw[e];exact⟨Int.emod_nonneg _ ω,Int.emod_lt_of_pos _ a⟩
def CC:∀{ps:List Nat}{l:Vc}{i:Nat},Ech ps f->(∀p∈ps,i<p)->aZ f ps l i=l i
 |[],_,_,_,_=>rfl
 |p::ps,l,i,h,hi=>by
  show aZ f ps (step f p l) i=l i;rw[CC (h.sub fun q hq=>.tail _ hq) (fun q hq=>hi q (.tail _ hq)),Hu h (.head _) (hi p (.head _))]
def Hv:∀{ps:List Nat}{l:Vc}{t:Nat},Ech ps f->(∀i,i<t->l i=0)->∀i,i<t->aZ f ps l i=0
 |[],_,_,_,hz,i,hi=>hz i hi
 |p::ps,l,t,h,hz,i,hi=>by
  refine Hv (h.sub fun q hq=>.tail _ hq) (t:=t) (fun i hi=>?_) i hi
  by_cases hp:i<p
  ·rw[Hu h (.head _) hp];exact hz i hi
  ·unfold step
   rw[hz i hi,hz p ω];simp
def CG:∀{ps:List Nat}{l:Vc},Ech ps f->ps.Pairwise (·<·)->∀p∈ps,0<=aZ f ps l p/\aZ f ps l p<f p p
 |p::ps,l,h,hs,q,hq=>by
  rw[Ba] at hs;have h':Ech ps f:=h.sub fun q hq=>.tail _ hq;rcases List.mem_cons.mp hq with rfl|hq
  ·show 0<=aZ f ps (step f q l) q/\aZ f ps (step f q l) q<f q q
   rw[CC h' (fun r hr=>hs.1 r hr)];exact step_at h (.head _)
  ·exact CG h' hs.2 q hq
def lD{R:List Vc}{P:List Nat}{CF VF:Nat}(g:∀p∈P,Rep R CF (f p))(h:∀p∈P,∀q∈P,(f p q).natAbs<=VF)(a:∀p∈P,0<f p p):∀(ps:List Nat){l:Vc}{C V:Nat},(∀p∈ps,p∈P)->Rep R C l->(∀q∈P,(l q).natAbs<=V)->Rep R (C+ps.length*(V*(1+VF) ^ ps.length*CF)) (aZ f ps l)/\∀q∈P,(aZ f ps l q).natAbs<=V*(1+VF) ^ ps.length
 |[],l,C,V,_,hr,hv=>⟨hr.mono ω,fun q hq=>by show(l q).natAbs<=V*(1+VF) ^ 0;rw[Nat.pow_zero,Nat.mul_one];exact hv q hq⟩
 |p::ps,l,C,V,hs,hr,hv=>by
  have hp:=hs p (.head _);have o:=a p hp;have d:(l p / f p p).natAbs<=V:=by
   refine Ag ?_ (hv p hp);have:(l p / f p p).natAbs<=(l p).natAbs:=by
    have:=Int.natAbs_ediv_le_natAbs (l p) (f p p);exact this
   exact this
  have i:Rep R (C+V*CF) (step f p l):=hr.sub (g p hp) d;have j:∀q∈P,(step f p l q).natAbs<=V*(1+VF):=fun q hq=>by
   have r:=hv q hq;have s:(l p / f p p*f p q).natAbs<=V*VF:=by rw[AI];exact AO d (h p hp q hq)
   have u:(step f p l q).natAbs<=(l q).natAbs+(l p / f p p*f p q).natAbs:=by unfold step;(first|lia|omega)
   rw[Nat.mul_add,Nat.mul_one];(first|lia|omega)
  obtain⟨b,c⟩:=lD g h a ps (fun q hq=>hs q (.tail _ hq)) i j;have e:V*(1+VF)*(1+VF) ^ ps.length=V*(1+VF) ^ (ps.length+1):=by rw[Nat.pow_succ,AQ,Nat.mul_comm (1+VF)]
  rw[e] at b c;refine⟨b.mono ?_,c⟩;show C+V*CF+ps.length*(V*(1+VF) ^ (ps.length+1)*CF)<=C+(ps.length+1)*(V*(1+VF) ^ (ps.length+1)*CF);have v:V*1<=V*(1+VF) ^ (ps.length+1):=Al _ (Nat.pow_pos ω);have w:V*CF<=V*(1+VF) ^ (ps.length+1)*CF:=Am _ ω;rw[Nat.add_mul];(first|lia|omega)
end
end Tb
end
section
namespace Tb
def Sp(R:List Vc)(v:Vc):Prop:=∃c:List Int,c.length=R.length/\∀u,v u=cmb c R u
section
variable{R S:List Vc}{v w:Vc}
def Rep.sp{C:Nat}(h:Rep R C v):Sp R v:=let ⟨c,h1,h2,_⟩:=h;⟨c,h1,h2⟩
def Sp.eq(h:Sp R v)(e:∀u,w u=v u):Sp R w:=let ⟨c,h1,h2⟩:=h;⟨c,h1,fun u=>(e u).trans (h2 u)⟩
def Sp.zero:Sp R fun _=>0:=⟨Av R.length 0,List.length_replicate,fun u=>(CB _ _ _).symm⟩
def Sp.lin(e:Sp R v)(hw:Sp R w)(k m:Int):Sp R fun u=>k*v u+m*w u:=by
 obtain⟨c,h1,h2⟩:=e;obtain⟨d,g1,g2⟩:=hw;refine⟨Ay (fun a b=>k*a+m*b) c d,by rw[AF];(first|lia|omega),fun u=>?_⟩;show k*v u+m*w u=_;rw[gZ k m c d R h1 g1,h2,g2]
def Sp.sub(a:Sp R v)(hw:Sp R w)(m:Int):Sp R fun u=>v u-m*w u:=(a.lin hw 1 (-m)).eq fun u=>by rw[Int.one_mul,Int.neg_mul];(first|lia|omega)
def Rep.mem:∀{R:List Vc}{v:Vc},v∈R->Rep R 1 v
 |r::R,v,h=>by
  rcases List.mem_cons.mp h with rfl|h
  ·exact⟨1::Av R.length 0,by simp,fun u=>by show v u=1*v u+cmb (Av R.length 0) R u;rw[CB];(first|lia|omega),fun x hx=>by
    rcases List.mem_cons.mp hx with rfl|hx
    ·decide
    ·rw[(List.mem_replicate.mp hx).2];decide⟩
  ·obtain⟨c,h1,h2,a⟩:=Rep.mem h
   exact⟨0::c,by simp[h1],fun u=>by show v u=0*r u+cmb c R u;rw[h2];(first|lia|omega),fun x hx=>by
    rcases List.mem_cons.mp hx with rfl|hx
    ·decide
    ·exact a x hx⟩
def Sp.mem(h:v∈R):Sp R v:=(Rep.mem h).sp
noncomputable def Sp.cmb:∀(c:List Int)(S:List Vc),(∀s∈S,Sp R s)->Sp R (Tb.cmb c S)
 |[],[],_=>Sp.zero
 |[],_::_,_=>Sp.zero
 |_::_,[],_=>Sp.zero
 |a::c,s::S,h=>((h s (.head _)).lin (Sp.cmb c S fun w hw=>h w (.tail _ hw)) a 1).eq fun u=>by show a*s u+Tb.cmb c S u=_;(first|lia|omega)
def Sp.trans(h:Sp S v)(a:∀s∈S,Sp R s):Sp R v:=by
 obtain⟨c,_,h2⟩:=h;exact(Sp.cmb c S a).eq h2
def i7(R:List Vc):Prop:=∀c:List Int,c.length=R.length->(∀u,cmb c R u=0)->∀x∈c,x=0
def zM{u:Nat}:∀(c:List Int)(L:List Vc),(∀v∈L,v u=0)->cmb c L u=0
 |[],[],_=>rfl
 |[],_::_,_=>rfl
 |_::_,[],_=>rfl
 |a::c,v::L,h=>by
  show a*v u+cmb c L u=0;rw[h v (.head _),zM c L fun w hw=>h w (.tail _ hw),Int.mul_zero];rfl
end
section
variable{f:Nat->Vc}
def Ev:∀{P:List Nat},Ech P f->P.Pairwise (·<·)->∀c:List Int,c.length=P.length->(∀p∈P,cmb c (P.map f) p=0)->∀x∈c,x=0
 |[],_,_,c,hl,_,x,hx=>by rw[AK hl] at hx;cases hx
 |p::P,h,hs,[],hl,_,x,hx=>by cases hx
 |p::P,h,hs,a::c,hl,hz,x,hx=>by
  rw[Ba] at hs;have b:=hz p (.head _);have e:cmb (a::c) ((p::P).map f) p=a*f p p:=by
   show a*f p p+cmb c (P.map f) p=a*f p p;rw[zM c (P.map f) fun v d=>by
    obtain⟨q,hq,rfl⟩:=List.mem_map.mp d;exact h.z q (.tail _ hq) p (hs.1 q hq)]
   (first|lia|omega)
  rw[e] at b;have hp:=h.pos p (.head _);have g:a=0:=by
   rcases Int.mul_eq_zero.mp b with z|z
   ·exact z
   ·(first|lia|omega)
  subst g;rcases List.mem_cons.mp hx with rfl|hx
  ·rfl
  ·refine Ev (h.sub fun q hq=>.tail _ hq) hs.2 c (by simpa using hl) (fun q hq=>?_) x hx
   have:=hz q (.tail _ hq);have e:cmb (0::c) ((p::P).map f) q=0*f p q+cmb c (P.map f) q:=rfl;rw[e] at this;(first|lia|omega)
def lE:∀(c:List Int)(L:List Vc)(u:Nat),(∀x∈c,x=0)->cmb c L u=0
 |[],[],_,_=>rfl
 |[],_::_,_,_=>rfl
 |_::_,[],_,_=>rfl
 |a::c,v::L,u,h=>by show a*v u+cmb c L u=0;rw[h a (.head _),lE c L u fun x hx=>h x (.tail _ hx)];(first|lia|omega)
def CH{R:List Vc}{P:List Nat}(hi:i7 R)(h:Ech P f)(b:P.Pairwise (·<·))(e:∀r∈R,Sp (P.map f) r):Inj R P:=fun c hc hz=>by
 obtain⟨d,h1,h2⟩:=Sp.cmb c R e;have a:=Ev h b d (by simpa using h1) fun p hp=>by rw[<-h2];exact hz p hp
 exact hi c hc fun u=>by rw[h2];exact lE d _ u a
def jP:∀{P:List Nat}{p:Nat}{w:Vc},Ech P f->P.Pairwise (·<·)->p∈P->Sp (P.map f) w->(∀q∈P,q<p->w q=0)->f p p ∣ w p
 |[],_,_,_,_,hp,_,_=>nomatch hp
 |q::P,p,w,h,hs,hp,⟨c,hc,e⟩,hz=>by
  cases c with
  |nil=>simp at hc
  |cons a c=>
   rw[Ba] at hs;have eq:w q=a*f q q:=by
    rw[e];show a*f q q+cmb c (P.map f) q=a*f q q;rw[zM c (P.map f) fun v g=>by
     obtain⟨r,hr,rfl⟩:=List.mem_map.mp g;exact h.z r (.tail _ hr) q (hs.1 r hr)]
    (first|lia|omega)
   rcases List.mem_cons.mp hp with rfl|hp
   ·exact⟨a,by rw[eq,Bg]⟩
   ·have hq:=hz q (.head _) (hs.1 p hp)
    rw[eq] at hq;have d:=h.pos q (.head _);have i:a=0:=by
     rcases Int.mul_eq_zero.mp hq with z|z
     ·exact z
     ·(first|lia|omega)
    refine jP (h.sub fun q hq=>.tail _ hq) hs.2 hp ⟨c,by simpa using hc,fun u=>?_⟩ fun r hr b=>hz r (.tail _ hr) b;rw[e];show a*f q u+cmb c (P.map f) u=_;rw[i];(first|lia|omega)
def Mv{R:List Vc}{P:List Nat}{M:Nat}(l:1<=M)(hi:i7 R)(h:Ech P f)(b:P.Pairwise (·<·))(d:∀r∈R,Sp (P.map f) r)(o:P.length=R.length)(hb:∀r∈R,∀p∈P,(r p).natAbs<=M){p:Nat}(hp:p∈P):(f p p).natAbs<=R.length*((2*R.length*M) ^ (R.length-1)*M):=by
 have j:P.Nodup:=b.imp fun h=>AB h;obtain⟨c,s,e,g,i⟩:=Hs l hb o j (CH hi h b d) hp;have hd:=jP h b hp (Sp.cmb c R d) fun q hq a=>g q hq (AB a);have:=Nat.le_of_dvd (Eu e) (Int.natAbs_dvd_natAbs.mpr hd);exact Ag this (tf c R i fun r hr=>hb r hr p hp)
end
end Tb
end
section
namespace Tb
structure GI(x y:Int)(t0 t1 t2 l0 l1 l2:Int):Prop where
 t:t0=t1*x+t2*y
 l:l0=l1*x+l2*y
 det:t1*l2-t2*l1=1\/t1*l2-t2*l1=-1
 tp:0<t0
 lp:0<=l0
 s1:(0<=t1/\l1<=0)\/(t1<=0/\0<=l1)
 s2:(0<=t2/\l2<=0)\/(t2<=0/\0<=l2)
 m1:l1.natAbs*t0.natAbs+t1.natAbs*l0.natAbs=y.natAbs
 m2:l2.natAbs*t0.natAbs+t2.natAbs*l0.natAbs=x.natAbs
 b1:t1.natAbs<=y.natAbs
 b2:t2.natAbs<=x.natAbs
noncomputable def GI.start{x y:Int}(hx:0<x)(hy:0<y):GI x y x 1 0 y 0 1:=
 ⟨ω,ω,ω,hx,ω,.inl ⟨ω,ω⟩,.inr ⟨ω,ω⟩,by simp,by simp,ω,ω⟩
def Hw{a b q:Int}(hq:0<=q)(h:(0<=a/\b<=0)\/(a<=0/\0<=b)):(a-q*b).natAbs=a.natAbs+q.natAbs*b.natAbs:=by
 have e:(q*b).natAbs=q.natAbs*b.natAbs:=AI ..;rcases h with ⟨h1,h2⟩|⟨h1,h2⟩
 ·have:q*b<=0:=Int.mul_nonpos_of_nonneg_of_nonpos hq h2
  (first|lia|omega)
 ·have:0<=q*b:=Int.mul_nonneg hq h2
  (first|lia|omega)
def GI.next{x y f r s c i j:Int}(g:GI x y f r s c i j)(h:c≠0):GI x y c i j (f-f / c*c) (r-f / c*i) (s-f / c*j)/\f-f / c*c<c:=by
 have p:0<c:=by have:=g.lp;(first|lia|omega)
 have o:0<=f / c:=Int.ediv_nonneg (Int.le_of_lt g.tp) g.lp;have em:f-f / c*c=f%c:=by have:=Int.emod_add_mul_ediv f c;rw[Bg] at this;(first|lia|omega)
 have z:0<=f%c:=Int.emod_nonneg _ h;have A:f%c<c:=Int.emod_lt_of_pos _ p;have v:=Hw o g.s1;have w:=Hw o g.s2;have u:∀{a b n:Nat},b*f.natAbs+a*c.natAbs=n->(a+(f / c).natAbs*b)*c.natAbs+b*(f-f / c*c).natAbs=n:=fun{a b n} e=>by
  have e1:(f-f / c*c).natAbs+(f / c).natAbs*c.natAbs=f.natAbs:=by
   have:(f / c*c).natAbs=(f / c).natAbs*c.natAbs:=AI ..;have:0<=f / c*c:=Int.mul_nonneg o g.lp;have:=g.tp;(first|lia|omega)
  rw[<-e,<-e1,Nat.add_mul,Nat.mul_add,AQ,Nat.mul_left_comm b];(first|lia|omega)
 refine⟨⟨g.l,?_,?_,p,ω,?_,?_,?_,?_,?_,?_⟩,ω⟩
 ·have e1:=g.t
  have e2:=g.l;generalize f / c=q;rw[Int.sub_mul,Int.sub_mul,AV,AV];have:q*c=q*(i*x)+q*(j*y):=by rw[e2,Int.mul_add]
  (first|lia|omega)
 ·have d:=g.det
  generalize f / c=q;rw[Int.mul_sub,Int.mul_sub,Int.mul_left_comm i q j,Int.mul_left_comm j q i,Bg j i,Bg i s,Bg j r];(first|lia|omega)
 ·rcases g.s1 with ⟨h1,h2⟩|⟨h1,h2⟩
  ·have:f / c*i<=0:=Int.mul_nonpos_of_nonneg_of_nonpos o h2
   exact .inr ⟨h2,ω⟩
  ·have:0<=f / c*i:=Int.mul_nonneg o h2
   exact .inl ⟨h2,ω⟩
 ·rcases g.s2 with ⟨h1,h2⟩|⟨h1,h2⟩
  ·have:f / c*j<=0:=Int.mul_nonpos_of_nonneg_of_nonpos o h2
   exact .inr ⟨h2,ω⟩
  ·have:0<=f / c*j:=Int.mul_nonneg o h2
   exact .inl ⟨h2,ω⟩
 ·rw[v];exact u g.m1
 ·rw[w];exact u g.m2
 ·have:=g.m1
  have h1:i.natAbs*1<=i.natAbs*f.natAbs:=Al _ (by have:=g.tp;(first|lia|omega));(first|lia|omega)
 ·have:=g.m2
  have h1:j.natAbs*1<=j.natAbs*f.natAbs:=Al _ (by have:=g.tp;(first|lia|omega));(first|lia|omega)
def GI.le{x y c d e f a b:Int}(g:GI x y c d e f a b):a.natAbs<=y.natAbs/\b.natAbs<=x.natAbs:=by
 have h1:a.natAbs*1<=a.natAbs*c.natAbs:=Al _ (by have:=g.tp;(first|lia|omega));have h2:b.natAbs*1<=b.natAbs*c.natAbs:=Al _ (by have:=g.tp;(first|lia|omega));have:=g.m1;have:=g.m2;(first|lia|omega)
end Tb
end
section
namespace K21
open PySem L2
noncomputable abbrev CI:Stmt:=top 35
section
variable{P:Program}{w:World}{K:Af}{mg:Str->Option Value}{base:Heap}
def Hx:Sp:=fun vs H Q _=>∃(r:Addr)(rn:List Int)(k:Nat),vs=[.ref r]/\H r=some (.lst (rn.map V.int))/\(∀i,i<k->rn[i]?=some 0)/\(∃x,rn[k]?=some x/\x≠0)/\Q (.int k) H
def Ew:zn ["row","place"] ["row"] (zg CI):=⟨rfl,rfl,rfl,δ,rfl,δ,δ⟩
def Mw{f:Addr}{fd:FuncData}(F:Fun K "first_place" "first_place" CI f fd):ai P w K mg base av 1 f fd ["row"] Hx:=by
 refine F.ok Ew (fun vs H Q E h=>?_) (fun o A outer s H vs Q E hr h=>?_)
 ·obtain⟨r,rn,k,rfl,_⟩:=h;rfl
 ·obtain⟨r,rn,k,rfl,h1,g,⟨x,hx,l⟩,hq⟩:=h
  refine⟨_,zd (zr (i:=1) Ew.nd rfl (Or.inl rfl) ze)
   (zd (BF AX (zv fV (zp zq (pv 0) (pv 1) (fun _ _=>rfl)) ze (ar _))
    (zh (zr (i:=1) Ew.nd rfl (Or.inl rfl) (zC fT (pv 1) ze))))
   (zh (zo (pv 1)))),?_⟩
  refine⟨fun n σ a=>∃i:Nat,n=k-i/\i<=k/\σ=[some (.ref r),some (.int i)]/\a=H,⟨_,0,rfl,ω,rfl,rfl⟩,?_⟩;rintro n σ a ⟨i,rfl,hi,rfl,rfl⟩;obtain⟨y,hy,e⟩:∃y,rn[i]?=some y/\(y=0↔i<k):=by
   rcases Be i k with c|c
   ·exact⟨0,g i c,by simp[c]⟩
   ·have:i=k:=ω
    subst this;exact⟨x,hx,by simp[l]⟩
  refine⟨_,rfl,_,rfl,r,_,_,_,rfl,rfl,SqL.of h1,zi (j:=i) (v:=V.int y) (by rw[Aj,hy];rfl),rfl,_,rfl,?_⟩
  by_cases c:i<k
  ·rw[show decide (V.int y=V.int 0)=true by rw[e.mpr c];rfl]
   refine aS ⟨fun b H'=>∃d,d<k-i/\∃i:Nat,d=k-i/\i<=k/\b=[some (.ref r),some (.int i)]/\H'=a,fun b H' h=>h,?_⟩;exact⟨_,rfl,_,_,rfl,rfl,k-(i+1),ω,i+1,rfl,ω,rfl,rfl⟩
  ·rw[show decide (V.int y=V.int 0)=false from decide_eq_false fun z=>c (e.mp (by injection z))]
   have:i=k:=ω
   subst this;exact aI ⟨_,rfl,hq⟩
end
end K21
end
section
namespace K21
open PySem L2
noncomputable abbrev tw:Stmt:=top 36
def Hy:A5 "tuple"=some (.type "tuple"):=δ
section
variable{P:Program}{w:World}{K:Af}{mg:Str->Option Value}{base:Heap}
def Mx{H2:Hp}{r o D:Addr}{rn on:List Int}{f:Int->Int->Int}{te:TE}{c:List (Option V)}{Q:VK}(v:∀(a b:Int)(H:Hp)(R:VK),a∈rn->b∈on->R (.int (f a b)) H->te (some (.int a)::some (.int b)::c) H R)(h1:H2 r=some (.tup (rn.map V.int)))(h2:H2 o=some (.tup (on.map V.int)))(n2:on.length<=1000)(s:H2 D=none)(k:∀d,Same H2 d->d D=some (.lst ((Ay f rn on).map V.int))->Q (.ref D) d):cf (Cr K r o) (cb K 2 (cq (zL 0) (cq (zL 1) ca))) bC te (none::none::c) H2 D Q:=by
 refine LN (K:=K) (xs:=rn.map V.int) (ys:=on.map V.int) (fun i σ zs d=>∃j l,σ=j::l::c/\Same H2 d/\d D=some (.lst zs)/\zs=((Ay f rn on).take i).map V.int)
  ⟨none,none,rfl,Same.new s,zc,rfl⟩ (fun i σ zs d ⟨_,_,_,sm,_⟩=>⟨SqT.of (sm _ _ h1),SqT.of (sm _ _ h2)⟩) ?_ ?_
 ·rintro i σ zs d u w x e1 e2 hi hz ⟨j,l,rfl,e,g,rfl⟩ h
  obtain⟨p,g1,rfl⟩:=gz e1;obtain⟨q,g2,rfl⟩:=gz e2;refine⟨u,_,rfl,SqT.of zc,rfl,_,_,rfl,_,_,rfl,rfl,gf ?_⟩;refine v p q _ _ (Ak g1) (Ak g2) (bI (Ag (Nat.min_le_right _ _) (by rw[Aa];exact zA ω)) hi hz (by rw[af (zm g h)];exact g) ⟨_,_,rfl,?_,zc,?_⟩)
  ·exact(e.then (e.free h)).then s
  ·have e3:(Ay f rn on)[i]?=some (f p q):=by rw[List.getElem?_zipWith,g1,g2]
   rw[Bb e3,Ao];rfl
 ·rintro σ zs d ⟨j,l,rfl,e,g,rfl⟩
  refine k d e ?_;rw[g,Aq (by simp)]
abbrev Tr(H:Hp)(p:Addr)(a b c:Int):Prop:=H p=some (.tup [.int a,.int b,.int c])
def Hz:Sp:=fun vs H Q _=>∃x y:Int,vs=[.int x,.int y]/\0<x/\0<y/\x.natAbs<2 ^ 9000/\y.natAbs<2 ^ 9000/\
 ∀r p q H' a b c d e,Same H H'->H' r=some (.tup [.ref p,.ref q])->Tr H' p a b c->Tr H' q 0 d e->Tb.GI x y a b c 0 d e->Q (.ref r) H'
def lG:zn ["one","other","told","left","often","rest"] ["one","other"] (zg tw):=⟨rfl,rfl,rfl,δ,rfl,δ,δ⟩
def Mz{f:Addr}{fd:FuncData}(F:Fun K "divisor_pair" "divisor_pair" tw f fd)(bz:mg "zip"=none)(bt:mg "tuple"=none):ai P w K mg base av 1 f fd ["one","other"] Hz:=by
 refine F.ok lG (fun vs H Q E h=>?_) (fun ak A outer s H vs Q E hr h=>?_)
 ·obtain⟨x,y,rfl,_⟩:=h;rfl
 ·obtain⟨x,y,rfl,x0,y0,Z,yb,k⟩:=h
  refine⟨_,zd (zr (i:=2) lG.nd rfl (Or.inl rfl) (im (za (pv 0) (za ze (za ze zb)))))
   (zd (zr (i:=3) lG.nd rfl (Or.inl rfl) (im (za (pv 1) (za ze (za ze zb)))))
   (zd (BF AX (zv iU (zp zt (pv 3) ze (fun _ _=>rfl)) ze (ar _))
    (zd (zr (i:=4) lG.nd rfl (Or.inr rfl) (zC Es (zp zt (pv 2) ze (fun _ _=>rfl)) (zp zt (pv 3) ze (fun _ _=>rfl))))
    (zd (zr (i:=5) lG.nd rfl (Or.inl rfl) (kH K8 rfl bt Hy (za (zu ["one","other","told","left","often","rest"] ["high","low","often"] [none,none,some 4] (LG rfl bz la (za (pv 2) (za (pv 3) zb)))
     (fun U C s₀ H₀ ex=>ij rfl (zE (zl (i:=0) (bA ["high","low","often"]) rfl (Or.inl rfl)) (zE (zl (i:=1) (bA ["high","low","often"]) rfl (Or.inl rfl)) ii))) (fun U C s₀ H₀ ex=>zy)
     (fun U C s₀ H₀ ex=>zC eU (pv 0) (zC n7 (pv 2) (pv 1))) (te:=bL (fO fun i j=>.int (i-j)) (au 0) (bL (rI dM fun i j=>.int (i*j)) (au 2) (au 1))) (hfr:=bx (zg tw) δ) (g:=cb K 2 (cq (zL 0) (cq (zL 1) ca)))) zb)))
    (zd (zr (i:=2) lG.nd rfl (Or.inl rfl) (pv 3))
    (zh (zr (i:=3) lG.nd rfl (Or.inl rfl) (pv 5)))))))
   (zh (zo (im (za (pv 2) (za (pv 3) zb))))))),?_⟩
  refine⟨_,rfl,zA (show 3<=100000 from ξ),fun T v=>⟨_,rfl,zA (show 3<=100000 from ξ),fun L l=>?_⟩⟩;have p_:T≠L:=zm zc l;refine⟨fun n σ M=>∃(T L:Addr)(e r u d p q:Int)(G I:Option V),n=d.natAbs/\σ=[some (.int x),some (.int y),some (.ref T),some (.ref L),G,I]/\Same H M/\Tr M T e r u/\Tr M L d p q/\Tb.GI x y e r u d p q/\e.natAbs<2 ^ 9000/\d.natAbs<2 ^ 9000,
   ⟨_,T,L,x,1,0,y,0,1,none,none,rfl,rfl,(Same.new v).trans (Same.new l),(by show upd _ L _ T=_;rw[af p_];exact zc),zc,Tb.GI.start x0 y0,Z,yb⟩,?_⟩
  clear l p_;clear v T L;rintro n σ M ⟨T,L,e,r,u,d,p,q,G,I,rfl,rfl,sm,v,l,g,tb,J⟩;refine⟨_,rfl,L,_,_,_,rfl,rfl,SqT.of l,zi (j:=0) rfl,rfl,_,rfl,?_⟩
  by_cases c:d=0
  ·rw[show(!decide (V.int d=V.int 0))=false by rw[c];rfl]
   subst c;refine aI ⟨_,rfl,_,rfl,zA (show 2<=100000 from ξ),fun R O=>?_⟩;have S:=Same.new (o:=.tup [.ref T,.ref L]) O;exact k R T L _ e r u p q (sm.trans S) zc (S _ _ v) (S _ _ l) g
  ·rw[show(!decide (V.int d=V.int 0))=true by rw[decide_eq_false (fun z=>c (by injection z))];rfl]
   obtain⟨g2,lt⟩:=g.next c;have w9:0<d:=by have:=g.lp;(first|lia|omega)
   have q0:0<=e / d:=Int.ediv_nonneg (Int.le_of_lt g.tp) g.lp;have wM:(e / d).natAbs<=e.natAbs:=Int.natAbs_ediv_le_natAbs _ _;have jM:=g.le;refine aS ⟨fun W H'=>∃Y,Y<d.natAbs/\∃(T L:Addr)(e r u d p q:Int)(G I:Option V),Y=d.natAbs/\W=[some (.int x),some (.int y),some (.ref T),some (.ref L),G,I]/\Same H H'/\Tr H' T e r u/\Tr H' L d p q/\Tb.GI x y e r u d p q/\e.natAbs<2 ^ 9000/\d.natAbs<2 ^ 9000,fun W H' h=>h,?_⟩;refine⟨_,rfl,T,_,_,_,rfl,rfl,SqT.of v,zi (j:=0) rfl,_,rfl,L,_,_,_,rfl,rfl,SqT.of l,zi (j:=0) rfl,_,_,rfl,rfl,⟨w9,J⟩,?_⟩;refine⟨_,rfl,_,rfl,T,L,rfl,⟨_,SqT.of v⟩,⟨_,SqT.of l⟩,fun D hD=>zw (Mx (rn:=[e,r,u]) (on:=[d,p,q]) (f:=fun a b=>a-e / d*b) (fun a b H' R _ hb O=>?_) v l (by simp) hD fun H4 X aX=>?_)⟩
   ·refine⟨_,rfl,_,rfl,_,rfl,_,_,rfl,rfl,⟨9000,9000,AD wM tb,?_,ξ⟩,_,_,rfl,rfl,O⟩
    simp at hb;rcases hb with rfl|rfl|rfl
    ·exact J
    ·exact AD jM.1 yb
    ·exact AD jM.2 Z
   ·refine⟨D,_,rfl,.inl ⟨SqL.of aX,fun N hN=>?_⟩⟩
    have s5:=Same.new (o:=.tup (([e-e / d*d,r-e / d*p,u-e / d*q]:List Int).map V.int)) hN;refine⟨_,rfl,_,rfl,(e-e / d*d).natAbs,by have:=g2.lp;(first|lia|omega),L,N,d,p,q,_,_,_,_,_,rfl,rfl,(sm.trans X).trans s5,(X.trans s5) _ _ l,zc,g2,J,?_⟩;have:=g2.lp;exact Nat.lt_trans ω J
end
end K21
end
section
namespace b7
open PySem PyProof.Rows PySem.W
end b7
namespace L2
open PySem PySem.Spec PyProof.Rows
section
variable{X:Cx}{aa:Ψ}{σ:St}{H:Hp}{s:Shared}
def MA:cx X (compareOp .IsNot) (fun x y H Q=>∃a b:Bool,x=.bl a/\y=.bl b/\Q (.bl (a != b)) H):=by
 intro aa s σ H x y v u Q I c d h;obtain⟨a,b,rfl,rfl,q⟩:=h;cases c;cases d;exact isnot_bool (aw I q rfl)
end
end L2
end
section
namespace STb
open PySem PySem.SetTable PyProof.Rows b7 PySem.W
section
variable{prog:Program}{w:World}{A:Around}{E:Ω}{s:Shared}{S:Addr}
def MB{T:String}{r d:Addr}{n:Nat}{P:Nat->Value->Prop}{j:Heap->Prop}{R:List Value->Shared->Prop}(K:KdlSrc prog w T r d n P j)(l:A.handled=none)(i:j s.heap)(p:n<=sizeLine)(h:∀(h':Heap)(tk:Nat)(acc:Array Value),s⁻¹<=h'.objs.size->(∀b o,s.heap.get? b=some o->h'.get? b=some o)->ItemsOf P acc n->R acc.toList {s with heap:=h',toks:=tk}):wpAny (model prog w) A (collect (.ref r)) R E s:=by
 obtain⟨hr,hd⟩:=K.there _ i;unfold collect;refine Ae (wpAny_runValue (codeAny_builtin entry_proto_collect' ?_));rw[Around.under_plainId PySem.F.plain_proto_collect _];show wpAny _ A.in1 (do again (.builtin "list.__iadd__" ⟨[<-newList [],.ref r],[]⟩)) _ _ s;refine Ae (wpAny_newObj_type (An ⟨plainId_quiet PySem.F.plain_list_iadd _,codeAny_builtin entry_list_iadd' ?_⟩));rw[Around.under_plainId PySem.F.plain_list_iadd _];show wpAny _ A.in1 (Builtin.List.listExtendWith (.ref s⁻¹) (.ref r) (.ref s⁻¹)) _ _ _;have fin:∀(h':Heap)(tk:Nat)(acc:Array Value)(c:Nat),(∀b o,s.heap.get? b=some o->h'.get? b=some o)->h'.get? s⁻¹=some {cls:=.type "list",dict:=none,data:=.seq acc c,slots:=#[]}->ItemsOf P acc n->
   wpAny (model prog w) A (do match (<-load s⁻¹).data with
    |.seq xs _=>pure xs.toList
    |_=>unsupported "internal:collect") R E {s with heap:=h',toks:=tk}:=fun h' tk acc c hk a g=>Ae (wpAny_load a (An (h h' tk acc (Nat.le_of_lt (At a)) hk g)))
 refine wpAny_mono (kdl_extend (A:=A) (s:={s with heap:=s.heap.push {cls:=.type "list",data:=.seq ([]:List Value).toArray}})
  (R:=fun q s'=>∃h' tk acc c,q=Except.ok (Flow.ret (.ref s⁻¹))/\s'={s with heap:=h',toks:=tk}/\(∀b o,s.heap.get? b=some o->h'.get? b=some o)/\h'.get? s⁻¹=some {cls:=.type "list",dict:=none,data:=.seq acc c,slots:=#[]}/\ItemsOf P acc n)
  K l (K.keep _ _ i fun b _ o e=>Ai _ e) s⁻¹ (Nat.ne_of_gt hr) (Nat.ne_of_gt hd) (.ref s⁻¹) 0 (AH _ rfl)
  (fun h' tk acc c hk a g=>⟨h',tk,acc,c,rfl,rfl,fun b o e=>hk b o (AB (At e)) (Ai _ e),a,g⟩) p) (fun f s' x=>?_) fun e s' x=>?_
 ·cases f with
  |done f=>
   obtain⟨h',tk,acc,c,e,rfl,hk,a,g⟩:=x;cases e;exact fin h' tk acc c hk a g
  |again c₁=>
   refine⟨x.1,codeAny_mono x.2 fun q u y=>?_⟩;obtain⟨h',tk,acc,c,rfl,rfl,hk,a,g⟩:=y;exact fin h' tk acc c hk a g
 ·obtain⟨_,_,_,_,e',_⟩:=x
  cases e'
end
end STb
namespace L2
open PySem PySem.Spec PyProof.Rows
section
variable{X:Cx}
def MC{ns:List Int}{ad:List Value}{out:List Value}(hi:IntsAre ad ns)(c:b7.Out (ns.map fun n=>[n]) ad out):∃ms:List Int,Vals (ms.map V.int) out/\ms.Perm ns/\ms.Pairwise (·<=·):=by
 obtain⟨ps,hp,c,d⟩:=c;have g:ad.length=ns.length:=hi.length;have all:∀p∈ps,∃n t,p.1=[n]/\p.2=Value.int n t:=fun p a=>by
  obtain⟨i,e⟩:=List.mem_iff_getElem?.mp (hp.mem_iff.mp a);rw[b7.dh,Aj] at e;cases e1:ns[i]? with
  |none=>rw[e1] at e;simp at e
  |some n=>
   obtain⟨t,e2⟩:=hi.get i n e1;rw[e1,e2] at e;simp only[Option.map_some,Option.bind_some,Option.some.injEq] at e;subst e;exact⟨n,t,rfl,rfl⟩
 have f:∀ps:List (List Int×Value),(∀p∈ps,∃n t,p.1=[n]/\p.2=Value.int n t)->Vals ((ps.map fun p=>p.1.headD 0).map V.int) (ps.map (·.2)):=by
  intro ps
  induction ps with
  |nil=>intro _;exact .nil
  |cons p ps ih=>
   intro h;obtain⟨n,t,e1,e2⟩:=h p Ar;refine .cons ?_ (ih fun q hq=>h q (Ax _ hq));show RelV (V.int (p.1.headD 0)) p.2;rw[e1,e2];exact⟨t,rfl⟩
 refine⟨ps.map fun p=>p.1.headD 0,by rw[c];exact f ps all,?_,?_⟩
 ·have h1:=hp.map (fun p:List Int×Value=>p.1.headD 0)
  have e:((ns.map fun n=>[n]).zip ad).map (fun p:List Int×Value=>p.1.headD 0)=ns:=by
   rw[show(fun p:List Int×Value=>p.1.headD 0)=(fun l:List Int=>l.headD 0) ∘ Prod.fst from rfl,<-AS,List.map_fst_zip (by rw[Aa];lia),AS];exact List.map_id' ns
  rw[e] at h1;exact h1
 ·rw[List.pairwise_map]
  refine d.imp_of_mem fun{p q} h1 h2 b=>?_;obtain⟨n,t,e1,_⟩:=all p h1;obtain⟨m,t',e2,_⟩:=all q h2;rw[e1,e2,HT.ri] at b;rw[e1,e2];show n<=m
  by_cases e:m=n
  ·lia
  ·rw[if_neg e] at b
   have:=of_decide_eq_false b
   lia
end
end L2
end
section
namespace STb
open PySem PySem.SetTable PyProof.Rows b7 PySem.W
section
variable{prog:Program}{w:World}{A:Around}{E:Ω}{s:Shared}
def MD{T:String}{r d:Addr}{n:Nat}{P:Nat->Value->Prop}{j:Heap->Prop}{ns:List Int}{Q:Ω}(K:KdlSrc prog w T r d n P j)(q:A.handled=none)(f:j s.heap)(u:n<64)(hi:∀acc:Array Value,ItemsOf P acc n->IntsAre acc.toList ns)(h:∀(D:Addr)(h':Heap)(tk e:Nat)(ad:List Value)(out:Array Value),s⁻¹<=D->(∀b o,s.heap.get? b=some o->h'.get? b=some o)->h'.get? D=some (seqObj "list" out e)->IntsAre ad ns->Out (ns.map fun n=>[n]) ad out.toList->Q (.ref D) {s with heap:=h',toks:=tk}):wpAny (model prog w) A (call (.builtin "sorted") [.ref r]) Q E s:=by
 refine Calls.call_function_entry kind_sorted plain_sorted entry_sorted (args_sorted1 _) ?_;unfold Builtin.«sorted»;refine Ae (m:=checkCount "sorted" 1 1 _) (An ?_);refine Ae (MB (A:=A.in1) K q f (by rw[sizeLine_eq];(first|lia|omega)) fun h' tk acc a hk g=>?_);have hi:=hi acc g;have i:acc.toList.length=n:=by rw[Array.length_toList];exact g.1
 refine Ae (wpAny_newList ?_ (by rw[i,sizeLine_eq];(first|lia|omega)));have c:(h'.push (seqObj "list" acc.toList.toArray 0)).get? h'.objs.size=some (seqObj "list" acc.toList.toArray 0):=AH _ rfl;refine Ae (wpAny_holding (wpAny_call_entry slot_list_sort ⟨_,c,rfl⟩ entry_list_sort (L9 (s:={s with heap:=h'.push (seqObj "list" acc.toList.toArray 0),toks:=tk}) (good:=fun _=>True) c (L6 hi) (fun _ _=>trivial) (by rw[i,sizeLine_eq];(first|lia|omega)) ω fun out l=>⟨_,rfl,?_⟩) (args_list_sort _)));obtain⟨e,p⟩:=sortedHeap_at (out:=out) c;refine An ⟨_,rfl,h h'.objs.size _ tk e acc.toList out a (fun b o e=>?_) p hi l⟩;have hb:b<h'.objs.size:=At (hk b o e);rw[sortedHeap_old (AB hb) (by rw[size_push'];exact Nat.lt_succ_of_lt hb)];exact Ai _ (hk b o e)
end
end STb
namespace L2
open PySem PySem.Spec PyProof.Rows
section
variable{X:Cx}
noncomputable abbrev dZ(ps:List (Int×V)):HO:=.dK (ps.map fun p=>(Sum.inl p.1,p.2))
def ints_of{ps:List (Int×V)}:∀{m:List (Key×Value)}{a:List Value},KV (ps.map fun p=>((Sum.inl p.1:Key),p.2)) m->a.length=m.length->(∀(i:Nat) v,a[i]?=some v->∃k x,m[i]?=some (k,x)/\(ey X.prog X.w).is k v=true)->IntsAre a (ps.map (·.1)):=by
 induction ps with
 |nil=>
  intro m a q h1 _;cases q;cases a with
  |nil=>exact .nil
  |cons _ _=>simp at h1
 |cons p ps ih=>
  intro m a q h1 h2;cases q with
  |@cons _ q' _ qs hq t=>
   cases a with
   |nil=>simp at h1
   |cons v a=>
    obtain⟨k,x,g1,g2⟩:=h2 0 v rfl;simp only[List.getElem?_cons_zero,Option.some.injEq] at g1;have hk:(Sum.inl p.1:Key)=k:=by rw[g1] at hq;exact hq.1
    subst hk;obtain⟨t',e2⟩:∃t',v=Value.int p.1 t':=LO g2;subst e2;exact .cons _ _ (ih t (by simpa using h1) fun i v e=>by simpa using h2 (i+1) v (by simpa using e))
def tF(hc:X.calm=true):eS X (.builtin "sorted") (fun xs H Q=>∃a ps,xs=[.ref a]/\H a=some (dZ ps)/\ps.length<64/\∀(D:Addr)(ms:List Int),ms.Perm (ps.map (·.1))->ms.Pairwise (·<=·)->H D=none->Q (.ref D) (upd H D (.lst (ms.map V.int)))):=by
 intro aa s σ H xs us Q I r h;obtain⟨a,ps,rfl,hq,hz,q⟩:=h;obtain⟨u,rfl,p⟩:=vals1 r;cases p;obtain⟨z,y,vs,d,dd⟩:=GV I.hok hq;obtain⟨ep,dd⟩:=dd.dictAt;have C:ps.length=vs.length:=by simpa using d.length
 refine STb.MD (ns:=ps.map (·.1)) (PySem.W.kdl_dict (knd:=ey X.prog X.w) (kvs:=vs) (ep:=ep) y) (I.ok.hd hc) dd ω (fun acc it=>ints_of (X:=X) d (by simpa using it.1) fun i v e=>it.2 i v (by simpa using e)) fun D h' tk e ad out c g j hi l=>?_;obtain⟨ks,x,f,A⟩:=MC hi l;have hk:ks.length=ps.length:=by simpa using f.length_eq
 refine⟨.ref D,_,I.laid (o:=.lst (ks.map V.int)) (fun b u e=>g b u e) c (show zad X.prog X.w _ _ _ (.lst (ks.map V.int)) from⟨by rw[Aa,sizeLine_eq];(first|lia|omega),out.toList,e,x,by simpa using j⟩),rfl,q _ _ f A (I.hok.fresh c)⟩
end
end L2
end
section
namespace L2
open PySem PySem.Spec PyProof.Rows
section
variable{X:Cx}
def ME{kvs:List (Key×V)}(c:(kvs.map (·.1)).Nodup){k:Key}{v:V}(h:(k,v)∈kvs):bQ kvs k=some v:=by
 unfold bQ
 induction kvs with
 |nil=>cases h
 |cons a r ih=>
  rw[A6,List.nodup_cons] at c;rcases List.mem_cons.mp h with e|e
  ·subst e
   simp
  ·have b:a.1≠k:=fun z=>c.1 (by rw[z];exact List.mem_map_of_mem (f:=(·.1)) e)
   rw[List.find?_cons_of_neg (by simpa using b)];exact ih c.2 e
def MF{kvs:List (Key×V)}{k:Key}(h:∀a∈kvs,a.1≠k):bQ kvs k=none:=by
 unfold bQ;rw[List.find?_eq_none.mpr fun a hk=>by simpa using h a hk]
 rfl
end
end L2
end
section
namespace K21
open PySem L2
noncomputable abbrev i9:Stmt:=top 33
noncomputable abbrev ez(es:List (Nat×Addr)):List (Int×V):=es.map fun e=>((e.1:Int),V.ref e.2)
structure Fnd(H:Hp)(a:Addr)(es:List (Nat×Addr))(fr:Nat->List Int):Prop where
 at_:H a=some (dZ (ez es))
 nd:(es.map (·.1)).Nodup
 rows:∀e∈es,H e.2=some (.lst ((fr e.1).map V.int))
def Fnd.same{H H':Hp}{a:Addr}{es:List (Nat×Addr)}{fr:Nat->List Int}(h:Fnd H a es fr)(s:Same H H'):Fnd H' a es fr:=⟨s _ _ h.at_,h.nd,fun e b=>s _ _ (h.rows e b)⟩
def MG{c d:Type}{f:c->d}{l:List c}(g:∀a b,f a=f b->a=b)(h:l.Nodup):(l.map f).Nodup:=by
 rw[List.Nodup,List.pairwise_map];exact h.imp fun n e=>n (g _ _ e)
def Fnd.get{H:Hp}{a:Addr}{es:List (Nat×Addr)}{fr:Nat->List Int}(h:Fnd H a es fr){p:Nat}(hp:p∈es.map (·.1)):∃d,(p,d)∈es/\DGet H a (.int p) (some (.ref d))/\H d=some (.lst ((fr p).map V.int)):=by
 obtain⟨e,c,rfl⟩:=List.mem_map.mp hp;refine⟨e.2,c,?_,h.rows e c⟩;have:=DGet.k (k:=Sum.inl (e.1:Int)) h.at_;rw[ME (v:=V.ref e.2) ?_ ?_] at this
 ·exact this
 ·have e2:((ez es).map fun p=>((Sum.inl p.1:Key),p.2)).map (·.1)=(es.map (·.1)).map fun n:Nat=>(Sum.inl (n:Int):Key):=by simp[ez,Function.comp_def]
  rw[e2];exact MG (fun a b z=>by injection z with z;(first|lia|omega)) h.nd
 ·exact List.mem_map.mpr ⟨((e.1:Int),V.ref e.2),List.mem_map.mpr ⟨e,c,rfl⟩,rfl⟩
noncomputable def cO(fr:Nat->List Int)(l:List Int)(p:Nat):List Int:=dv l (l.getD p 0 / (fr p).getD p 0) (fr p)
noncomputable def aQ(fr:Nat->List Int)(rn:List Int)(ps:List Nat):List Int:=ps.foldl (cO fr) rn
structure jS(fr:Nat->List Int)(W:Nat)(rn:List Int)(ps:List Nat):Prop where
 len:rn.length=W
 most:W<=1000
 row:∀p∈ps,p<W/\(fr p).length=W/\Ho 0 ((fr p).getD p 0)
 mul:∀i p,ps[i]?=some p->∀x∈fr p,dM ((aQ fr rn (ps.take i)).getD p 0 / (fr p).getD p 0) x
def Ex{fr:Nat->List Int}{l:List Int}{p W:Nat}(h:l.length=W)(h2:(fr p).length=W):(cO fr l p).length=W:=by
 unfold cO dv;rw[AF];(first|lia|omega)
def oe{fr:Nat->List Int}{W:Nat}:∀{ps:List Nat}{rn:List Int},rn.length=W->(∀p∈ps,(fr p).length=W)->(aQ fr rn ps).length=W
 |[],_,h,_=>h
 |p::ps,rn,h,h2=>oe (ps:=ps) (Ex h (h2 p (Ar ..))) fun q hq=>h2 q (Ax _ hq)
def CJ{fr:Nat->List Int}{rn:List Int}{ps:List Nat}{i p:Nat}(h:ps[i]?=some p):aQ fr rn (ps.take (i+1))=cO fr (aQ fr rn (ps.take i)) p:=by
 rw[Bb h];unfold aQ;rw[List.foldl_append];rfl
def Ey{l on:List Int}(h:l.length=on.length):dv l 0 on=l:=by
 unfold dv;refine AT (by rw[AF];(first|lia|omega)) fun i h1 h2=>?_;rw[A7];(first|lia|omega)
section
variable{P:Program}{w:World}{K:Af}{mg:Str->Option Value}{base:Heap}
def HA:Sp:=fun vs H Q _=>∃(r a pl:Addr)(rn:List Int)(es:List (Nat×Addr))(fr:Nat->List Int)(ps:List Nat)(W:Nat),vs=[.ref r,.ref a,.ref pl]/\H r=some (.lst (rn.map V.int))/\Fnd H a es fr/\H pl=some (.lst (ps.map fun p:Nat=>V.int (p:Int)))/\
 (∀p∈ps,p∈es.map (·.1))/\jS fr W rn ps/\∀D H',Same H H'->H' D=some (.lst ((aQ fr rn ps).map V.int))->Q (.ref D) H'
def tI:zn ["row","found","places","left","place","often"] ["row","found","places"] (zg i9):=⟨rfl,rfl,rfl,δ,rfl,δ,δ⟩
def MH{f o:Addr}{fd u:FuncData}(F:Fun K "reduced" "reduced" i9 f fd)(Fl:Fun K "less" "less" jK o u)(bl:Binds K u ["row","often","other"] [])(N:mg "less"=some (.ref o))(Gl:ai P w K mg base av 1 o u ["row","often","other"] sY):ai P w K mg base av 2 f fd ["row","found","places"] HA:=by
 refine F.ok tI (fun vs H Q E h=>?_) (fun O A outer s H vs Q E hr h=>?_)
 ·obtain⟨r,a,pl,rn,es,fr,ps,W,rfl,_⟩:=h;rfl
 ·obtain⟨r,a,pl,rn,es,fr,ps,W,rfl,h1,J,b,L,ok,k⟩:=h
  have C:=Co hr;refine⟨_,zd (zr (i:=3) tI.nd rfl (Or.inl rfl) (pv 0))
   (zd (eC AX rfl (zJ (pv 2)) (zl (i:=4) tI.nd rfl (Or.inl rfl))
    (zd (zr (i:=5) tI.nd rfl (Or.inl rfl) (zC Es (zp zq (pv 3) (pv 4) (fun _ _=>rfl)) (zp zq (kO C (pv 1) (pv 4) (fun _ _=>rfl)) (pv 4) (fun _ _=>rfl))))
    (zh (b8 (zv iU (pv 5) ze (ar _))
     (zh (zr (i:=3) tI.nd rfl (Or.inl rfl) (zf Gl hr rfl N Fl.kp bl .nil ac (za (pv 3) (za (pv 5) (za (kO C (pv 1) (pv 4) (fun _ _=>rfl)) zb)))))) zF))))
   (zh (zo (pv 3)))),?_⟩
  refine⟨_,rfl,_,rfl,pl,rfl,⟨_,SqL.of b⟩,qo (K:=K) (a:=pl) (xs:=ps.map fun p:Nat=>V.int (p:Int)) (fun i σ H2=>∃(d:Addr)(j l:Option V),σ=[some (.ref r),some (.ref a),some (.ref pl),some (.ref d),j,l]/\Same H H2/\H2 d=some (.lst ((aQ fr rn (ps.take i)).map V.int)))
   ⟨r,none,none,rfl,Same.refl H,h1⟩ (fun i σ H2 _ ⟨_,_,_,_,sm,_⟩=>SqL.of (sm _ _ b)) ?_ ?_⟩
  ·rintro i x σ H2 hx ⟨d,j,l,rfl,sm,hd⟩
   obtain⟨p,hp,rfl⟩:∃p,ps[i]?=some p/\x=V.int (p:Int):=by
    rw[Aj] at hx;cases e:ps[i]? with
    |none=>rw[e] at hx;cases hx
    |some p=>rw[e] at hx;cases hx;exact⟨p,rfl,rfl⟩
   have G:=Ak hp;obtain⟨S,T,M⟩:=ok.row p G;obtain⟨c,hc,v,y⟩:=(J.same sm).get (L p G);have U:(aQ fr rn (ps.take i)).length=W:=oe ok.len fun q hq=>(ok.row q (List.mem_of_mem_take hq)).2.1;have g1:((aQ fr rn (ps.take i)).map V.int)[p]?=some (V.int ((aQ fr rn (ps.take i)).getD p 0)):=by
    rw[Aj,Ac,Ab ω];rfl
   have g2:((fr p).map V.int)[p]?=some (V.int ((fr p).getD p 0)):=by
    rw[Aj,Ac,Ab ω];rfl
   refine⟨_,rfl,_,rfl,d,_,_,_,rfl,rfl,SqL.of hd,zi g1,_,rfl,_,rfl,a,_,rfl,v,_,rfl,c,_,_,_,rfl,rfl,SqL.of y,zi g2,_,_,rfl,rfl,M,?_⟩;refine⟨_,rfl,rfl,_,rfl,?_⟩
   by_cases z:(aQ fr rn (ps.take i)).getD p 0 / (fr p).getD p 0=0
   ·rw[show(!decide (V.int ((aQ fr rn (ps.take i)).getD p 0 / (fr p).getD p 0)=V.int 0))=false by rw[z];rfl]
    refine aI ⟨d,_,_,rfl,sm,?_⟩;rw[CJ hp,cO,z,Ey ω];exact hd
   ·rw[show(!decide (V.int ((aQ fr rn (ps.take i)).getD p 0 / (fr p).getD p 0)=V.int 0))=true by rw[decide_eq_false (fun e=>z (by injection e))];rfl]
    refine aS ⟨_,rfl,_,rfl,_,rfl,_,rfl,a,_,rfl,v,d,c,_,_,_,rfl,hd,y,by have:=ok.most;(first|lia|omega),ok.mul i p hp,fun D X I _ g=>?_⟩;refine⟨D,_,_,rfl,sm.trans I,?_⟩;rw[CJ hp];exact g
  ·rintro σ H2 ⟨d,j,l,rfl,sm,hd⟩
   rw[Aa,Aq (Ad _)] at hd;exact⟨_,rfl,k d H2 sm hd⟩
end
noncomputable abbrev i':Stmt:=top 39
def tM:A5 "sorted"=some (.builtin "sorted"):=δ
structure Pls(es:List (Nat×Addr))(ps:List Nat):Prop where
 pm:ps.Perm (es.map (·.1))
 so:ps.Pairwise (·<=·)
def Pls.ints{es:List (Nat×Addr)}{ps:List Nat}(h:Pls es ps){ms:List Int}(h1:ms.Perm ((ez es).map (·.1)))(h2:ms.Pairwise (·<=·)):ms.map V.int=ps.map fun p:Nat=>V.int (p:Int):=by
 have e:ms=ps.map fun p:Nat=>(p:Int):=by
  refine List.Perm.eq_of_pairwise (le:=(·<=·)) (fun a b _ _ x y=>Int.le_antisymm x y) h2 ?_ (h1.trans ?_)
  ·rw[List.pairwise_map];exact h.so.imp fun z=>ω
  ·have:(ez es).map (·.1)=(es.map (·.1)).map fun p:Nat=>(p:Int):=by simp[ez,Function.comp_def]
   rw[this];exact(h.pm.map _).symm
 rw[e,AS];rfl
def Pls.len{es:List (Nat×Addr)}{ps:List Nat}(h:Pls es ps):ps.length=es.length:=by rw[h.pm.length_eq,Aa]
noncomputable def shrL(fr:Nat->List Int):List Int->List Nat->List Int
 |_,[]=>[]
 |l,p::ps=>(l.getD p 0 / (fr p).getD p 0)::shrL fr (cO fr l p) ps
def HB{fr:Nat->List Int}:∀{ps:List Nat}{rn:List Int}{i p:Nat},ps[i]?=some p->(shrL fr rn ps)[i]?=some ((aQ fr rn (ps.take i)).getD p 0 / (fr p).getD p 0)
 |[],_,_,_,h=>by simp at h
 |q::ps,rn,0,p,h=>by simp at h;subst h;rfl
 |q::ps,rn,i+1,p,h=>by
  have:=HB (fr:=fr) (ps:=ps) (rn:=cO fr rn q) (i:=i) (p:=p) (by simpa using h)
  simpa[shrL,aQ] using this
def tW{fr:Nat->List Int}:∀{ps:List Nat}{rn:List Int},(shrL fr rn ps).length=ps.length
 |[],_=>rfl
 |q::ps,rn=>by simp[shrL,tW (ps:=ps)]
section
variable{P:Program}{w:World}{K:Af}{mg:Str->Option Value}{base:Heap}
def Ez:Sp:=fun vs H Q _=>∃(r a:Addr)(rn:List Int)(es:List (Nat×Addr))(fr:Nat->List Int)(ps:List Nat)(W:Nat),vs=[.ref r,.ref a]/\H r=some (.lst (rn.map V.int))/\Fnd H a es fr/\Pls es ps/\es.length<64/\jS fr W rn ps/\lh H Q (shrL fr rn ps)
def oi:zn ["row","found","told","left","place","often"] ["row","found"] (zg i'):=⟨rfl,rfl,rfl,δ,rfl,δ,δ⟩
def MI{f N:Addr}{fd O:FuncData}(F:Fun K "shares_of" "shares_of" i' f fd)(bs:mg "sorted"=none)(Fl:Fun K "less" "less" jK N O)(bl:Binds K O ["row","often","other"] [])(ml:mg "less"=some (.ref N))(Gl:ai P w K mg base av 1 N O ["row","often","other"] sY):ai P w K mg base av 2 f fd ["row","found"] Ez:=by
 refine F.ok oi (fun vs H Q E h=>?_) (fun ak A outer s H vs Q E hr h=>?_)
 ·obtain⟨r,a,rn,es,fr,ps,W,rfl,_⟩:=h;rfl
 ·obtain⟨r,a,rn,es,fr,ps,W,rfl,h1,u,pls,eA,ok,k⟩:=h
  have X:=Co hr;refine⟨_,zd (zr (i:=2) oi.nd rfl (Or.inl rfl) (eX zb))
   (zd (zr (i:=3) oi.nd rfl (Or.inl rfl) (pv 0))
   (zd (eC AX rfl (zJ (zk (tF rfl) rfl bs tM (za (pv 1) zb))) (zl (i:=4) oi.nd rfl (Or.inl rfl))
    (zd (zr (i:=5) oi.nd rfl (Or.inl rfl) (zC Es (zp zq (pv 3) (pv 4) (fun _ _=>rfl)) (zp zq (kO X (pv 1) (pv 4) (fun _ _=>rfl)) (pv 4) (fun _ _=>rfl))))
    (zd (ie (m_ PySem.F.plainAttrs_list PySem.F.slot_list_append PySem.F.type_list_append kM (pv 2) (za (pv 5) zb)))
    (zh (b8 (zv iU (pv 5) ze (ar _))
     (zh (zr (i:=3) oi.nd rfl (Or.inl rfl) (zf Gl hr rfl ml Fl.kp bl .nil ac (za (pv 3) (za (pv 5) (za (kO X (pv 1) (pv 4) (fun _ _=>rfl)) zb)))))) zF)))))
   (zh (zo (pv 2))))),?_⟩
  refine⟨ξ,fun T l=>⟨_,rfl,_,rfl,a,ez es,rfl,?_,(by simpa using eA),fun j ms pm so S=>⟨j,rfl,⟨_,SqL.of zc⟩,?_⟩⟩⟩
  ·have:a≠T:=zm u.at_ l
   rw[af this];exact u.at_
  rw[pls.ints pm so];have Y:T≠j:=zm zc S;have Z:Same H (upd (upd H T (.lst [])) j (.lst (ps.map fun p:Nat=>V.int (p:Int)))):=(Same.new l).trans (Same.new S);have B9:=pls.len;refine qo (K:=K) (a:=j) (xs:=ps.map fun p:Nat=>V.int (p:Int)) (fun i σ H2=>∃(d:Addr)(C G:Option V),σ=[some (.ref r),some (.ref a),some (.ref T),some (.ref d),C,G]/\Same H H2/\H2 j=some (.lst (ps.map fun p:Nat=>V.int (p:Int)))/\H2 T=some (.lst (((shrL fr rn ps).take i).map V.int))/\H2 d=some (.lst ((aQ fr rn (ps.take i)).map V.int))/\d≠T)
   ⟨r,none,none,rfl,Z,zc,by rw[af Y];exact zc,Z _ _ h1,zm h1 l⟩ (fun i σ H2 _ ⟨_,_,_,_,_,h,_⟩=>SqL.of h) ?_ ?_
  ·rintro i x σ H2 hx ⟨d,C,G,rfl,sm,U,o,hd,I⟩
   obtain⟨p,hp,rfl⟩:∃p,ps[i]?=some p/\x=V.int (p:Int):=by
    rw[Aj] at hx;cases e:ps[i]? with
    |none=>rw[e] at hx;cases hx
    |some p=>rw[e] at hx;cases hx;exact⟨p,rfl,rfl⟩
   have fL:=Ak hp;obtain⟨pW,fW,cd⟩:=ok.row p fL;have nM:p∈es.map (·.1):=pls.pm.mem_iff.mp fL;obtain⟨c,hc,J,L⟩:=(u.same sm).get nM;have aq:(aQ fr rn (ps.take i)).length=W:=oe ok.len fun q hq=>(ok.row q (List.mem_of_mem_take hq)).2.1;have g1:((aQ fr rn (ps.take i)).map V.int)[p]?=some (V.int ((aQ fr rn (ps.take i)).getD p 0)):=by
    rw[Aj,Ac,Ab ω];rfl
   have g2:((fr p).map V.int)[p]?=some (V.int ((fr p).getD p 0)):=by
    rw[Aj,Ac,Ab ω];rfl
   have g3:=HB (fr:=fr) (rn:=rn) hp;refine⟨_,rfl,_,rfl,d,_,_,_,rfl,rfl,SqL.of hd,zi g1,_,rfl,_,rfl,a,_,rfl,J,_,rfl,c,_,_,_,rfl,rfl,SqL.of L,zi g2,_,_,rfl,rfl,cd,?_⟩;refine⟨_,rfl,.inl ⟨rfl,_,SqL.of o⟩,_,rfl,T,_,_,rfl,rfl,o,by rw[sizeLine_eq,Aa,List.length_take,tW];(first|lia|omega),?_⟩;have e4:((shrL fr rn ps).take i).map V.int++[V.int ((aQ fr rn (ps.take i)).getD p 0 / (fr p).getD p 0)]=((shrL fr rn ps).take (i+1)).map V.int:=by rw[Bb g3,Ao];rfl
   rw[e4];have v:Same H (upd H2 T (.lst (((shrL fr rn ps).take (i+1)).map V.int))):=sm.then l;have M:upd H2 T (.lst (((shrL fr rn ps).take (i+1)).map V.int)) j=some (.lst (ps.map fun p:Nat=>V.int (p:Int))):=by rw[af Y.symm];exact U
   have g:upd H2 T (.lst (((shrL fr rn ps).take (i+1)).map V.int)) d=some (.lst ((aQ fr rn (ps.take i)).map V.int)):=by rw[af I];exact hd
   have b:upd H2 T (.lst (((shrL fr rn ps).take (i+1)).map V.int)) T=some (.lst (((shrL fr rn ps).take (i+1)).map V.int)):=zc;generalize upd H2 T (.lst (((shrL fr rn ps).take (i+1)).map V.int))=H3 at v M g b ⊢;refine⟨_,rfl,rfl,_,rfl,?_⟩
   by_cases z:(aQ fr rn (ps.take i)).getD p 0 / (fr p).getD p 0=0
   ·rw[show(!decide (V.int ((aQ fr rn (ps.take i)).getD p 0 / (fr p).getD p 0)=V.int 0))=false by rw[z];rfl]
    refine aI ⟨d,_,_,rfl,v,M,b,?_,I⟩;rw[CJ hp,cO,z,Ey ω];exact g
   ·rw[show(!decide (V.int ((aQ fr rn (ps.take i)).getD p 0 / (fr p).getD p 0)=V.int 0))=true by rw[decide_eq_false (fun e=>z (by injection e))];rfl]
    obtain⟨c,hc,J,L⟩:=(u.same v).get nM;refine aS ⟨_,rfl,_,rfl,_,rfl,_,rfl,a,_,rfl,J,d,c,_,_,_,rfl,g,L,by have:=ok.most;(first|lia|omega),ok.mul i p hp,fun D H4 y hD aX=>?_⟩;refine⟨D,_,_,rfl,v.trans y,y _ _ M,y _ _ b,?_,(zm b hD).symm⟩;rw[CJ hp];exact aX
  ·rintro σ H2 ⟨d,C,G,rfl,sm,U,o,hd,I⟩
   rw[Aa,Aq (by rw[tW];exact Ad _)] at o;exact⟨_,rfl,k T H2 sm l o⟩
end
end K21
end
section
namespace Tb
noncomputable def cC(N X B:Nat):Nat:=N*(B*X)
noncomputable def cW(N B:Nat):Nat:=2*B*B*(1+2*B*B) ^ N
noncomputable def cG(N B:Nat):Nat:=2*B*(1+N*cW N B)
noncomputable def cK(N M X B:Nat):Nat:=1+cC N X B+N*(M*(1+B) ^ N*cC N X B)
def ol{a b:Nat}(c:1<=a)(hb:1<=b):1<=a*b:=Nat.mul_pos c hb
def CK{N B:Nat}(a:1<=B):1<=cG N B:=ol (ol ξ a) ω
def Rep.more{R:List Vc}{C:Nat}{v r:Vc}(h:Rep R C v):Rep (R++[r]) C v:=by
 obtain⟨c,h1,h2,e⟩:=h;have d:∀(c:List Int)(R:List Vc),c.length=R.length->∀u,cmb (c++[0]) (R++[r]) u=cmb c R u:=by
  intro c
  induction c with
  |nil=>intro R b u;rw[AK b.symm];show 0*r u+0=0;(first|lia|omega)
  |cons a c ih=>
   intro R b u;cases R with
   |nil=>simp at b
   |cons s R=>show a*s u+cmb (c++[0]) (R++[r]) u=a*s u+cmb c R u;rw[ih R (by simpa using b)]
 refine⟨c++[0],by simp[h1],fun u=>by rw[d c R h1,h2],fun x hx=>?_⟩;rcases List.mem_append.mp hx with h|h
 ·exact e x h
 ·rw[List.mem_singleton.mp h];exact Aw _
def Sp.more{R:List Vc}{v:Vc}(h:Sp R v)(S:List Vc)(a:∀r∈R,r∈S):Sp S v:=h.trans fun r hr=>Sp.mem (a r hr)
def Sp.redu{f:Nat->Vc}{S:List Vc}:∀(ps:List Nat){l:Vc},(∀p∈ps,Sp S (f p))->(Sp S l↔Sp S (aZ f ps l))
 |[],_,_=>Iff.rfl
 |p::ps,l,h=>by
  refine Iff.trans ?_ (Sp.redu ps fun q hq=>h q (.tail _ hq));exact⟨fun a=>a.sub (h p (.head _)) _,fun a=>(a.sub (h p (.head _)) (-(l p / f p p))).eq fun u=>by unfold step;rw[Int.neg_mul];(first|lia|omega)⟩
structure TS(N M X B:Nat)(R:List Vc)(P:List Nat)(f:Nat->Vc)(l:Vc)(t:Nat):Prop where
 ech:Ech P f
 srt:P.Pairwise (·<·)
 len:P.length+1=R.length
 few:R.length<=N
 fr:∀p∈P,Rep R (cK N M X B*cG N B ^ (P.filter fun p=>decide (p<t)).length) (f p)
 lr:Rep R (cK N M X B*cG N B ^ (P.filter fun p=>decide (p<t)).length) l
 gen:∀r∈R,Sp (P.map f++[l]) r
 low:∀i,i<t->l i=0
 red:∀p∈P,0<=l p/\l p<f p p
 piv:∀p∈P,(f p p).natAbs<=B
 fv:∀p∈P,∀q∈P,(f p q).natAbs<=2*B*B
 fo:∀p∈P,t<=p->∀q∈P,(f p q).natAbs<=B
noncomputable def put(f:Nat->Vc)(p:Nat)(v:Vc):Nat->Vc:=fun q=>if q=p then v else f q
def zO{f:Nat->Vc}{p:Nat}{v:Vc}:put f p v p=v:=if_pos rfl
def dD{f:Nat->Vc}{p q:Nat}{v:Vc}(h:q≠p):put f p v q=f q:=if_neg h
noncomputable def mix(a:Int)(v:Vc)(b:Int)(w:Vc):Vc:=fun u=>a*v u+b*w u
def TS.next{N M X B:Nat}{R:List Vc}{P:List Nat}{f:Nat->Vc}{l:Vc}{t p:Nat}{g a b c d:Int}(hB:1<=B)(T:TS N M X B R P f l t)(hp:p∈P)(A:∀i,i<p->l i=0)(oO:l p≠0)(jr:t<=p)(G:GI (f p p) (l p) g a b 0 c d):TS N M X B R P (put f p (mix a (f p) b l)) (aZ (put f p (mix a (f p) b l)) P (mix c (f p) d l)) (p+1)/\Ech P (put f p (mix a (f p) b l)):=by
 have hG:=CK (N:=N) hB;have x0:=T.ech.pos p hp;obtain⟨r0,r1⟩:=T.red p hp;have L:=T.piv p hp;obtain⟨c1,c2⟩:=G.le;have a1:a.natAbs<=B:=Ag G.b1 ω;have O:b.natAbs<=B:=Ag G.b2 L;have c1:c.natAbs<=B:=Ag c1 ω;have d1:d.natAbs<=B:=Ag c2 L;have lq:∀q∈P,(l q).natAbs<=B:=fun q hq=>by have:=T.red q hq;have:=T.piv q hq;(first|lia|omega)
 have fp:=T.fo p hp jr;have S:∀{a b:Int},a.natAbs<=B->b.natAbs<=B->∀q∈P,(mix a (f p) b l q).natAbs<=2*B*B:=fun{a b} H hb q hq=>by
  have t1:(a*f p q).natAbs<=B*B:=by rw[AI];exact AO H (fp q hq)
  have t2:(b*l q).natAbs<=B*B:=by rw[AI];exact AO hb (lq q hq)
  have t3:=Int.natAbs_add_le (a*f p q) (b*l q);show(a*f p q+b*l q).natAbs<=_;rw[AQ];generalize B*B=Y at t1 t2 ⊢;(first|lia|omega)
 have C:mix a (f p) b l p=g:=by show a*f p p+b*l p=g;exact G.t.symm
 have g1:=G.tp;have jM:g.natAbs<=B:=by
  have U:=G.m2;rw[Int.natAbs_zero,Nat.mul_zero,Nat.add_zero] at U;rcases Nat.eq_zero_or_pos d.natAbs with z|z
  ·rw[z,Nat.zero_mul] at U;(first|lia|omega)
  ·have:1*g.natAbs<=d.natAbs*g.natAbs:=Am _ z
   (first|lia|omega)
 have j:Ech P (put f p (mix a (f p) b l)):=by
  refine⟨fun q hq i hi=>?_,fun q hq=>?_⟩
  ·by_cases e:q=p
   ·subst e;rw[zO];show a*f q i+b*l i=0;rw[T.ech.z q hq i hi,A i hi];(first|lia|omega)
   ·rw[dD e];exact T.ech.z q hq i hi
  ·by_cases e:q=p
   ·subst e;rw[zO,C];exact g1
   ·rw[dD e];exact T.ech.pos q hq
 refine⟨?_,j⟩;have D:P.length<=N:=by have:=T.len;have:=T.few;(first|lia|omega)
 generalize hK:cK N M X B*cG N B ^ (P.filter fun p=>decide (p<t)).length=K;have fr:=T.fr;have W:=T.lr;rw[hK] at fr W;have mr:∀{a b:Int},a.natAbs<=B->b.natAbs<=B->Rep R (2*B*K) (mix a (f p) b l):=fun{a b} H hb=>((fr p hp).lin W H hb).mono (by rw[AQ];(first|lia|omega));have kl:K<=2*B*K:=Nat.le_mul_of_pos_left _ ω;have dq:∀q∈P,Rep R (2*B*K) (put f p (mix a (f p) b l) q):=fun q hq=>by
  by_cases e:q=p
  ·subst e;rw[zO];exact mr a1 O
  ·rw[dD e];exact(fr q hq).mono kl
 have E:∀q∈P,∀r∈P,(put f p (mix a (f p) b l) q r).natAbs<=2*B*B:=fun q hq r hr=>by
  by_cases e:q=p
  ·subst e;rw[zO];exact S a1 O r hr
  ·rw[dD e];exact T.fv q hq r hr
 obtain⟨kh,yH⟩:=lD dq E j.pos P (fun q hq=>hq) (mr c1 d1) (S c1 d1);have cnt:(P.filter fun q=>decide (q<t)).length+1<=(P.filter fun q=>decide (q<p+1)).length:=by
  have h1:(P.filter fun q=>decide (q<t))++[p] ⊆ P.filter fun q=>decide (q<p+1):=fun q hq=>by
   rcases List.mem_append.mp hq with h|h
   ·obtain⟨h1,h2⟩:=List.mem_filter.mp h
    have:=of_decide_eq_true h2;exact List.mem_filter.mpr ⟨h1,decide_eq_true ω⟩
   ·rw[List.mem_singleton.mp h];exact List.mem_filter.mpr ⟨hp,decide_eq_true ω⟩
  have nd:P.Nodup:=T.srt.imp fun h=>AB h;have J:((P.filter fun q=>decide (q<t))++[p]).Nodup:=by
   rw[List.nodup_append];refine⟨nd.filter _,by simp,fun x hx y hy=>?_⟩;rw[List.mem_singleton.mp hy];have:=of_decide_eq_true (List.mem_filter.mp hx).2;(first|lia|omega)
  have:=J.length_le_of_subset h1
  simpa using this
 have o:2*B*K+P.length*(2*B*B*(1+2*B*B) ^ P.length*(2*B*K))<=cG N B*K:=by
  unfold cG cW;have h1:(1+2*B*B) ^ P.length<=(1+2*B*B) ^ N:=AJ ω D;generalize 2*B*B=Y at h1 ⊢;have h2:P.length*(Y*(1+Y) ^ P.length*(2*B*K))<=N*(Y*(1+Y) ^ N*(2*B*K)):=AO D (Am _ (Al _ h1));refine Ag (Nat.add_le_add_left h2 _) (Nat.le_of_eq ?_);generalize Y*(1+Y) ^ N=Z;generalize 2*B=Q;rw[Nat.mul_add,Nat.mul_one,Nat.add_mul,<-AQ N Z,Nat.mul_comm Q (N*Z),AQ (N*Z)]
 have v:cG N B*K<=cK N M X B*cG N B ^ (P.filter fun q=>decide (q<p+1)).length:=by
  rw[<-hK,Nat.mul_left_comm,<-Nat.pow_succ'];exact Al _ (AJ hG cnt)
 have two:2*B*K<=cG N B*K:=Ag (Bh _ _) o;have F:=G.det;refine⟨j,T.srt,T.len,T.few,fun q hq=>(dq q hq).mono (Ag two v),kh.mono (Ag o v),fun r hr=>?_,?_,fun q hq=>CG j T.srt q hq,fun q hq=>?_,E,fun q hq hlt r hr=>?_⟩
 ·-- eG old rows out of eG new ones
  have S1:∀q∈P,Sp (P.map (put f p (mix a (f p) b l))++[aZ (put f p (mix a (f p) b l)) P (mix c (f p) d l)]) (put f p (mix a (f p) b l) q):=fun q hq=>Sp.mem (List.mem_append_left _ (List.mem_map.mpr ⟨q,hq,rfl⟩));have S2:=(Sp.redu P (l:=mix c (f p) d l) S1).mpr (Sp.mem (AE _ (List.mem_singleton.mpr rfl)));have Sp1:=S1 p hp;rw[zO] at Sp1;have ef:∀{x y z w:Int},(a*d-b*c=1\/a*d-b*c=-1)->∀u,x=(a*d-b*c)*d->y=(a*d-b*c)*(-b)->x*mix a (f p) b l u+y*mix c (f p) d l u=f p u:=fun{x y z w} hd u ex I=>by
   subst ex I;show(a*d-b*c)*d*(a*f p u+b*l u)+(a*d-b*c)*(-b)*(c*f p u+d*l u)=f p u;have e:(a*d-b*c)*d*(a*f p u+b*l u)+(a*d-b*c)*(-b)*(c*f p u+d*l u)=(a*d-b*c)*(a*d-b*c)*f p u:=by
    rw[AV,AV,AV,<-Int.mul_add]
    congr 1
    rw[Int.mul_add,Int.mul_add,Int.neg_mul,Int.neg_mul,<-AV,<-AV,<-AV,<-AV,Int.sub_mul,Bg d a,Bg d b];(first|lia|omega)
   rw[e];rcases hd with h|h<;>rw[h]<;>(first|lia|omega)
  have el:∀{x y:Int},(a*d-b*c=1\/a*d-b*c=-1)->∀u,x=(a*d-b*c)*(-c)->y=(a*d-b*c)*a->x*mix a (f p) b l u+y*mix c (f p) d l u=l u:=fun{x y} hd u ex I=>by
   subst ex I;show(a*d-b*c)*(-c)*(a*f p u+b*l u)+(a*d-b*c)*a*(c*f p u+d*l u)=l u;have e:(a*d-b*c)*(-c)*(a*f p u+b*l u)+(a*d-b*c)*a*(c*f p u+d*l u)=(a*d-b*c)*(a*d-b*c)*l u:=by
    rw[AV,AV,AV,<-Int.mul_add]
    congr 1
    rw[Int.mul_add,Int.mul_add,Int.neg_mul,Int.neg_mul,<-AV,<-AV,<-AV,<-AV,Int.sub_mul,Bg c a,Bg c b];(first|lia|omega)
   rw[e];rcases hd with h|h<;>rw[h]<;>(first|lia|omega)
  have Sf:=(Sp1.lin S2 ((a*d-b*c)*d) ((a*d-b*c)*(-b))).eq (w:=f p) fun u=>(ef (z:=0) (w:=0) F u rfl rfl).symm;have Sl:=(Sp1.lin S2 ((a*d-b*c)*(-c)) ((a*d-b*c)*a)).eq (w:=l) fun u=>(el F u rfl rfl).symm;refine(T.gen r hr).trans fun s hs=>?_;rcases List.mem_append.mp hs with h|h
  ·obtain⟨q,hq,rfl⟩:=List.mem_map.mp h
   by_cases e:q=p
   ·subst e;exact Sf
   ·have:=S1 q hq
    rw[dD e] at this;exact this
  ·rw[List.mem_singleton.mp h];exact Sl
 ·refine Hv j fun i hi=>?_
  show c*f p i+d*l i=0
  by_cases e:i=p
  ·subst e;exact G.l.symm
  ·rw[T.ech.z p hp i ω,A i ω];(first|lia|omega)
 ·by_cases e:q=p
  ·subst e;rw[zO,C];exact jM
  ·rw[dD e];exact T.piv q hq
 ·rw[dD (show q≠p from ω)];exact T.fo q hq ω r hr
noncomputable def ins(q:Nat):List Nat->List Nat
 |[]=>[q]
 |p::P=>if q<p then q::p::P else p::ins q P
def mem_ins{q x:Nat}:∀{P:List Nat},x∈ins q P↔x=q\/x∈P
 |[]=>by simp[ins]
 |p::P=>by
  unfold ins;split
  ·simp
  ·rw[List.mem_cons,mem_ins,List.mem_cons]
   constructor
   ·rintro(h|h|h)
    ·exact .inr (.inl h)
    ·exact .inl h
    ·exact .inr (.inr h)
   ·rintro(h|h|h)
    ·exact .inr (.inl h)
    ·exact .inl h
    ·exact .inr (.inr h)
def EA{q:Nat}:∀{P:List Nat},(ins q P).length=P.length+1
 |[]=>rfl
 |p::P=>by unfold ins;split<;>simp[EA]
def HC{q:Nat}:∀{P:List Nat},P.Pairwise (·<·)->q∉P->(ins q P).Pairwise (·<·)
 |[],_,_=>by simp[ins]
 |p::P,h,hn=>by
  rw[Ba] at h;unfold ins;split
  ·rename_i hlt
   rw[Ba,Ba];refine⟨fun x hx=>?_,h⟩;rcases List.mem_cons.mp hx with rfl|hx
   ·exact hlt
   ·exact Nat.lt_trans hlt (h.1 x hx)
  ·rename_i hlt
   rw[Ba];refine⟨fun x hx=>?_,HC h.2 fun z=>hn (.tail _ z)⟩;rcases mem_ins.mp hx with rfl|hx
   ·have:x≠p:=fun z=>hn (z▸.head _)
    (first|lia|omega)
   ·exact h.1 x hx
noncomputable def a9(f:Nat->Vc):List Nat->Nat->Vc
 |[]=>f
 |p::ps=>put (a9 f ps) p (aZ (a9 f ps) ps (f p))
section
variable{f:Nat->Vc}
def HD:∀{ps:List Nat}{q:Nat},q∉ps->a9 f ps q=f q
 |[],_,_=>rfl
 |p::ps,q,h=>by
  show put (a9 f ps) p _ q=f q;rw[dD (show q≠p from fun z=>h (by rw[z];exact .head _)),HD fun z=>h (.tail _ z)]
def ot{p q:Nat}{ps:List Nat}(h:q≠p):a9 f (p::ps) q=a9 f ps q:=dD h
def t4{p:Nat}{ps:List Nat}:a9 f (p::ps) p=aZ (a9 f ps) ps (f p):=zO
def EB:∀{ps:List Nat},Ech ps f->ps.Pairwise (·<·)->Ech ps (a9 f ps)/\∀p∈ps,a9 f ps p p=f p p
 |[],_,_=>⟨⟨(fun p hp=>nomatch hp),(fun p hp=>nomatch hp)⟩,fun p hp=>nomatch hp⟩
 |p::ps,h,hs=>by
  rw[Ba] at hs;obtain⟨e1,e2⟩:=EB (h.sub fun q hq=>.tail _ hq) hs.2;have ne:∀q∈ps,q≠p:=fun q hq=>Ne.symm (AB (hs.1 q hq));have hd:a9 f (p::ps) p p=f p p:=by rw[t4,CC e1 fun q hq=>hs.1 q hq]
  have tl:∀q∈ps,a9 f (p::ps) q q=f q q:=fun q hq=>by rw[ot (ne q hq)];exact e2 q hq
  refine⟨⟨fun q hq i hi=>?_,fun q hq=>?_⟩,fun q hq=>?_⟩
  ·rcases List.mem_cons.mp hq with rfl|hq
   ·rw[t4,CC e1 fun r hr=>Nat.lt_trans hi (hs.1 r hr)];exact h.z q (.head _) i hi
   ·rw[ot (ne q hq)];exact e1.z q hq i hi
  ·rcases List.mem_cons.mp hq with rfl|hq
   ·rw[hd];exact h.pos q (.head _)
   ·rw[tl q hq];exact h.pos q (.tail _ hq)
  ·rcases List.mem_cons.mp hq with rfl|hq
   ·exact hd
   ·exact tl q hq
def EC:∀{ps:List Nat},Ech ps f->ps.Pairwise (·<·)->∀p∈ps,∀q∈ps,p<q->0<=a9 f ps p q/\a9 f ps p q<a9 f ps q q
 |p::ps,h,hs,r,hr,q,hq,hlt=>by
  rw[Ba] at hs;have h':Ech ps f:=h.sub fun q hq=>.tail _ hq;obtain⟨e1,e2⟩:=EB h' hs.2;have ne:∀q∈ps,q≠p:=fun q hq=>Ne.symm (AB (hs.1 q hq));have a:q∈ps:=by
   rcases List.mem_cons.mp hq with rfl|hq
   ·rcases List.mem_cons.mp hr with rfl|hr
    ·(first|lia|omega)
    ·have:=hs.1 r hr;(first|lia|omega)
   ·exact hq
  rw[ot (ne q a)];rcases List.mem_cons.mp hr with rfl|hr
  ·rw[t4];exact CG e1 hs.2 q a
  ·rw[ot (ne r hr)];exact EC h' hs.2 r hr q a hlt
def HE:∀{ps:List Nat}{S:List Vc},ps.Nodup->(∀p∈ps,Sp S (a9 f ps p))->∀p∈ps,Sp S (f p)
 |p::ps,S,nd,h,q,hq=>by
  obtain⟨n1,n2⟩:=List.nodup_cons.mp nd;have ne:∀q∈ps,q≠p:=fun q hq z=>n1 (z▸hq);have a:∀q∈ps,Sp S (a9 f ps q):=fun q hq=>by have:=h q (.tail _ hq);rwa [ot (ne q hq)] at this
  rcases List.mem_cons.mp hq with rfl|hq
  ·have:=h q (.head _)
   rw[t4] at this;exact(Sp.redu ps a).mpr this
  ·exact HE n2 a q hq
def HF:∀{ps:List Nat}{S:List Vc},ps.Nodup->(∀p∈ps,Sp S (f p))->∀p∈ps,Sp S (a9 f ps p)
 |p::ps,S,nd,h,q,hq=>by
  obtain⟨n1,n2⟩:=List.nodup_cons.mp nd;have a:=HF (S:=S) n2 fun q hq=>h q (.tail _ hq);rcases List.mem_cons.mp hq with rfl|hq
  ·rw[t4];exact(Sp.redu ps a).mp (h q (.head _))
  ·rw[ot (show q≠p from fun z=>n1 (z▸hq))];exact a q hq
end
structure FS(N M X B:Nat)(R:List Vc)(P:List Nat)(f:Nat->Vc):Prop where
 ech:Ech P f
 srt:P.Pairwise (·<·)
 len:P.length=R.length
 few:R.length<=N
 fr:∀p∈P,Rep R (cC N X B) (f p)
 gen:∀r∈R,Sp (P.map f) r
 red:∀p∈P,∀q∈P,p<q->0<=f p q/\f p q<f q q
 piv:∀p∈P,(f p p).natAbs<=B
noncomputable def FS.start{N M X B:Nat}{f:Nat->Vc}:FS N M X B [] [] f:=
 ⟨⟨(fun p hp=>nomatch hp),(fun p hp=>nomatch hp)⟩,.nil,rfl,Aw _,(fun p hp=>nomatch hp),(fun p hp=>nomatch hp),(fun p hp=>nomatch hp),(fun p hp=>nomatch hp)⟩
def FS.fv{N M X B:Nat}{R:List Vc}{P:List Nat}{f:Nat->Vc}(F:FS N M X B R P f):∀p∈P,∀q∈P,(f p q).natAbs<=B:=fun p hp q hq=>by
 rcases Nat.lt_trichotomy p q with h|h|h
 ·have:=F.red p hp q hq h;have:=F.piv q hq;(first|lia|omega)
 ·subst h;exact F.piv p hp
 ·rw[F.ech.z p hp q h];exact Aw _
def FS.take{N M X B:Nat}{R:List Vc}{P:List Nat}{f:Nat->Vc}{r:Vc}(l:1<=B)(F:FS N M X B R P f)(b:R.length<N)(hr:∀p∈P,(r p).natAbs<=M):TS N M X B (R++[r]) P f (aZ f P r) 0:=by
 have a:P.length<=N:=by have:=F.len;(first|lia|omega)
 have c:(P.filter fun p=>decide (p<0)).length=0:=by rw[List.filter_eq_nil_iff.mpr];rfl;intro p _;simp
 obtain⟨e,o⟩:=lD (R:=R++[r]) (fun p hp=>(F.fr p hp).more) F.fv F.ech.pos P (fun q hq=>hq) (Rep.mem (AE R (List.mem_singleton.mpr rfl))) hr;have g:1+P.length*(M*(1+B) ^ P.length*cC N X B)<=cK N M X B:=by
  unfold cK;have h1:(1+B) ^ P.length<=(1+B) ^ N:=AJ ω a;have:=AO a (Am (cC N X B) (Al M h1));(first|lia|omega)
 have j:cC N X B<=cK N M X B:=by unfold cK;(first|lia|omega)
 refine⟨F.ech,F.srt,by rw[AU,F.len];rfl,by rw[AU];exact b,fun p hp=>?_,?_,fun s d=>?_,(fun i hi=>absurd hi (Nat.not_lt_zero _)),fun p hp=>CG F.ech F.srt p hp,F.piv,fun p hp q hq=>?_,fun p hp _ q hq=>F.fv p hp q hq⟩
 ·rw[c,Nat.pow_zero,Nat.mul_one];exact(F.fr p hp).more.mono j
 ·rw[c,Nat.pow_zero,Nat.mul_one];exact e.mono g
 ·rcases List.mem_append.mp d with h|h
  ·exact(F.gen s h).more _ fun x hx=>List.mem_append_left _ hx
  ·rw[List.mem_singleton.mp h]
   exact(Sp.redu P fun q hq=>Sp.mem (List.mem_append_left _ (List.mem_map.mpr ⟨q,hq,rfl⟩))).mpr (Sp.mem (AE _ (List.mem_singleton.mpr rfl)))
 ·refine Ag (F.fv p hp q hq) ?_
  rw[AQ];have:B*1<=B*B:=Al _ l;(first|lia|omega)
noncomputable def cM(N M X B:Nat):Nat:=cK N M X B*cG N B ^ N
noncomputable def cE(N M X B:Nat):Nat:=cM N M X B+N*(N*(cM N M X B*M)*(1+B) ^ N*cC N X B)
noncomputable def up(l:Vc)(q:Nat):Vc:=if 0<l q then l else fun u=>-l u
def Rep.neg{R:List Vc}{C:Nat}{v:Vc}(h:Rep R C v):Rep R C fun u=>-v u:=
 ((h.lin h (k:=-1) (m:=0) (A:=1) (B:=0) ξ ξ).mono ω).eq fun u=>ω
def Sp.neg{R:List Vc}{v:Vc}(h:Sp R v):Sp R fun u=>-v u:=(h.lin h (-1) 0).eq fun u=>ω
structure Bd(N M X B:Nat)(R:List Vc):Prop where
 ind:i7 R
 bd:∀(P:List Nat)(f:Nat->Vc),Ech P f->P.Pairwise (·<·)->(∀r∈R,Sp (P.map f) r)->(∀p∈P,Sp R (f p))->P.length=R.length->(∀p∈P,(f p p).natAbs<=B)/\(∀r∈R,∀p∈P,(r p).natAbs<=M)/\∀(c:List Int)(V:Nat),c.length=R.length->(∀p∈P,(cmb c R p).natAbs<=V)->∀x∈c,x.natAbs<=N*(V*X)
structure QS(N M X B:Nat)(R:List Vc)(P:List Nat)(f:Nat->Vc):Prop where
 ech:Ech P f
 srt:P.Pairwise (·<·)
 len:P.length=R.length
 few:R.length<=N
 fr:∀p∈P,Rep R (cM N M X B) (f p)
 gen:∀r∈R,Sp (P.map f) r
section
variable{N M X B:Nat}{R:List Vc}{P:List Nat}{f:Nat->Vc}
def TS.cnt{l:Vc}{t:Nat}(T:TS N M X B R P f l t)(a:1<=B):cK N M X B*cG N B ^ (P.filter fun p=>decide (p<t)).length<=cM N M X B:=
 Al _ (AJ (CK a) (Ag (List.length_filter_le _ _) (by have:=T.len;have:=T.few;(first|lia|omega))))
def TS.full{l:Vc}{t q:Nat}(e:1<=B)(T:TS N M X B R P f l t)(hq:q∉P)(a:∀i,i<q->l i=0)(g:l q≠0):QS N M X B R (ins q P) (put f q (up l q)):=by
 have ne:∀p∈P,p≠q:=fun p hp z=>hq (z▸hp);have hc:=T.cnt e;have up1:0<up l q q:=by
  unfold up;split
  ·assumption
  ·show 0 < -l q
   (first|lia|omega)
 have b:∀i,i<q->up l q i=0:=fun i hi=>by
  have:=a i hi;unfold up;split
  ·exact this
  ·show -l i=0
   (first|lia|omega)
 have c:Rep R (cM N M X B) (up l q):=by
  unfold up;split
  ·exact T.lr.mono hc
  ·exact(T.lr.mono hc).neg
 refine⟨⟨fun p hp i hi=>?_,fun p hp=>?_⟩,HC T.srt hq,by rw[EA,T.len],T.few,fun p hp=>?_,fun r hr=>(T.gen r hr).trans fun s d=>?_⟩
 ·rcases mem_ins.mp hp with rfl|hp
  ·rw[zO];exact b i hi
  ·rw[dD (ne p hp)];exact T.ech.z p hp i hi
 ·rcases mem_ins.mp hp with rfl|hp
  ·rw[zO];exact up1
  ·rw[dD (ne p hp)];exact T.ech.pos p hp
 ·rcases mem_ins.mp hp with rfl|hp
  ·rw[zO];exact c
  ·rw[dD (ne p hp)];exact(T.fr p hp).mono hc
 ·rcases List.mem_append.mp d with h|h
  ·obtain⟨p,hp,rfl⟩:=List.mem_map.mp h
   exact Sp.mem (List.mem_map.mpr ⟨p,mem_ins.mpr (.inr hp),dD (ne p hp)⟩)
  ·rw[List.mem_singleton.mp h]
   have:Sp ((ins q P).map (put f q (up l q))) (up l q):=Sp.mem (List.mem_map.mpr ⟨q,mem_ins.mpr (.inl rfl),zO⟩);unfold up at this ⊢;split at this
   ·rename_i h;rw[if_pos h];exact this
   ·rename_i h;rw[if_neg h];exact this.neg.eq fun u=>by show l u=-(-l u);(first|lia|omega)
def QS.bd(D:Bd N M X B R)(S:QS N M X B R P f):(∀p∈P,(f p p).natAbs<=B)/\(∀r∈R,∀p∈P,(r p).natAbs<=M)/\∀(c:List Int)(V:Nat),c.length=R.length->(∀p∈P,(cmb c R p).natAbs<=V)->∀x∈c,x.natAbs<=N*(V*X):=
 D.bd P f S.ech S.srt S.gen (fun p hp=>(S.fr p hp).sp) S.len
def QS.tail(j:1<=B)(D:Bd N M X B R)(S:QS N M X B R P f){pre ps:List Nat}(e:P=pre++ps):Ech ps (a9 f ps)/\(∀p∈ps,∀q∈P,(a9 f ps p q).natAbs<=B)/\∀p∈ps,Rep R (cC N X B) (a9 f ps p):=by
 have g:∀p∈ps,p∈P:=fun p hp=>by rw[e];exact AE _ hp
 have a:=S.srt;rw[e,List.pairwise_append] at a;have h':Ech ps f:=S.ech.sub g;obtain⟨e1,e2⟩:=EB h' a.2.1;obtain⟨pv,hb,i⟩:=S.bd D;have bd:∀p∈ps,∀q∈P,(a9 f ps p q).natAbs<=B:=fun p hp q hq=>by
  rcases Nat.lt_trichotomy p q with h|h|h
  ·have b:q∈ps:=by
    rw[e] at hq;rcases List.mem_append.mp hq with z|z
    ·have:=a.2.2 q z p hp;(first|lia|omega)
    ·exact z
   have h1:=EC h' a.2.1 p hp q b h;rw[e2 q b] at h1;have:=pv q hq;(first|lia|omega)
  ·subst h;rw[e2 p hp];exact pv p hq
  ·rw[e1.z p hp q h];exact Aw _
 refine⟨e1,bd,fun p hp=>?_⟩;have sp:Sp R (a9 f ps p):=HF (a.2.1.imp fun h=>AB h) (fun q hq=>(S.fr q (g q hq)).sp) p hp;obtain⟨c,d,e⟩:=sp;exact⟨c,d,e,i c B d fun q hq=>by rw[<-e];exact bd p hp q hq⟩
def QS.met(l:1<=B)(D:Bd N M X B R)(S:QS N M X B R P f){pre ps:List Nat}{p:Nat}(e:P=pre++p::ps)(i:Nat):Rep R (cE N M X B) (aZ (a9 f ps) (ps.take i) (f p)):=by
 have e':P=(pre++[p])++ps:=by rw[e];simp
 obtain⟨e1,bd,j⟩:=S.tail l D e';obtain⟨_,hb,_⟩:=S.bd D;have hp:p∈P:=by rw[e];simp
 have V:∀q∈ps,(f p q).natAbs<=N*(cM N M X B*M):=fun q hq=>by
  have d:q∈P:=by rw[e'];exact AE _ hq
  exact Ag ((S.fr p hp).le fun r hr=>hb r hr q d) (Am _ S.few)
 have c:(ps.take i).length<=N:=by
  have h1:=congrArg List.length e';rw[AU,S.len] at h1;have:=S.few;rw[List.length_take];(first|lia|omega)
 obtain⟨r,_⟩:=lD (P:=ps) j (fun a g b h=>bd a g b (by rw[e'];exact AE _ h)) e1.pos (ps.take i) (fun q hq=>List.mem_of_mem_take hq) (S.fr p hp) V;refine r.mono ?_;unfold cE;have h1:(1+B) ^ (ps.take i).length<=(1+B) ^ N:=AJ ω c;exact Nat.add_le_add_left (AO c (Am _ (Al _ h1))) _
def QS.done(d:1<=B)(D:Bd N M X B R)(S:QS N M X B R P f):FS N M X B R P (a9 f P):=by
 obtain⟨e1,bd,b⟩:=S.tail d D (pre:=[]) (ps:=P) rfl;have c:P.Nodup:=S.srt.imp fun h=>AB h;refine⟨e1,S.srt,S.len,S.few,b,fun r hr=>(S.gen r hr).trans fun s a=>?_,EC S.ech S.srt,fun p hp=>bd p hp p hp⟩;obtain⟨p,hp,rfl⟩:=List.mem_map.mp a;exact HE c (fun q hq=>Sp.mem (List.mem_map.mpr ⟨q,hq,rfl⟩)) p hp
end
end Tb
end
section
namespace K21
open PySem L2
noncomputable def vc(l:List Int):Tb.Vc:=fun i=>l.getD i 0
noncomputable def vF(fr:Nat->List Int):Nat->Tb.Vc:=fun p=>vc (fr p)
def CL{f:Int->Int->Int}(a:f 0 0=0){l on:List Int}(h:l.length=on.length):vc (Ay f l on)=fun u=>f (vc l u) (vc on u):=by
 funext u
 unfold vc;rw[Ac,Ac,Ac,List.getElem?_zipWith];rcases Be u l.length with c|c
 ·rw[Ab c,Ab (h▸c)];rfl
 ·rw[List.getElem?_eq_none c,List.getElem?_eq_none (h▸c)];exact a.symm
def HG{fr:Nat->List Int}{l:List Int}{p:Nat}(h:l.length=(fr p).length):vc (cO fr l p)=Tb.step (vF fr) p (vc l):=by
 unfold cO dv;rw[CL (by simp) h]
 rfl
def ow{fr:Nat->List Int}{W:Nat}:∀{ps:List Nat}{rn:List Int},rn.length=W->(∀p∈ps,(fr p).length=W)->vc (aQ fr rn ps)=Tb.aZ (vF fr) ps (vc rn)
 |[],_,_,_=>rfl
 |p::ps,rn,h,h2=>by
  have hp:=h2 p (Ar ..);show vc (aQ fr (cO fr rn p) ps)=Tb.aZ (vF fr) ps (Tb.step (vF fr) p (vc rn));rw[ow (ps:=ps) (Ex h hp) fun q hq=>h2 q (Ax _ hq),HG ω]
def HH{a b:Int}{l on:List Int}(h:l.length=on.length):vc (bH a l b on)=Tb.mix a (vc l) b (vc on):=by
 unfold bH;rw[CL (by simp) h]
 rfl
def MJ{l:List Int}:vc (l.map fun x=>-x)=fun u=>-vc l u:=by
 funext u
 unfold vc;rw[Ac,Ac,Aj];cases l[u]?<;>simp
noncomputable def bK(fr:Nat->List Int)(p:Nat)(l:List Int):Nat->List Int:=fun q=>if q=p then l else fr q
def ED{fr:Nat->List Int}{p:Nat}{l:List Int}:vF (bK fr p l)=Tb.put (vF fr) p (vc l):=by
 funext q
 unfold vF bK Tb.put;split<;>rfl
def CM{l:List Int}{x:Int}(h:x∈l):∃i,i<l.length/\vc l i=x:=by
 obtain⟨i,hi,e⟩:=List.mem_iff_getElem.mp h;exact⟨i,hi,by unfold vc;rw[Ac,Ab hi];exact e⟩
def je{l:List Int}{i:Nat}(h:l.length<=i):vc l i=0:=by unfold vc;rw[Ac,List.getElem?_eq_none h];rfl
def HI{l:List Int}(h:∃u,vc l u≠0):∃k,k<l.length/\(∀i,i<k->l[i]?=some 0)/\(∃x,l[k]?=some x/\x≠0)/\(∀i,i<k->vc l i=0)/\vc l k≠0:=by
 classical
 induction l with
 |nil=>obtain⟨u,a⟩:=h;exact absurd (je (Aw u)) a
 |cons x l ih=>
  by_cases c:x=0
  ·obtain⟨u,a⟩:=h
   cases u with
   |zero=>exact absurd (show vc (x::l) 0=0 from c) a
   |succ u=>
    obtain⟨k,h1,h2,⟨y,b,d⟩,e,f⟩:=ih ⟨u,by simpa[vc] using a⟩;refine⟨k+1,by simpa using h1,fun i hi=>?_,⟨y,by simpa using b,d⟩,fun i hi=>?_,by simpa[vc] using f⟩
    ·cases i with
     |zero=>simp[c]
     |succ i=>simpa using h2 i ω
    ·cases i with
     |zero=>exact c
     |succ i=>simpa[vc] using e i ω
  ·exact⟨0,by simp,fun i hi=>ω,⟨x,rfl,c⟩,fun i hi=>ω,c⟩
def HJ:∃n:Nat,n=67108864:=⟨_,rfl⟩
noncomputable def bt:Nat:=Classical.choose HJ
def oA:bt=67108864:=Classical.choose_spec HJ
noncomputable def big:Nat:=2 ^ bt
def g_{i j:Int}(h1:i.natAbs<big)(h2:j.natAbs<big):dM i j:=⟨bt,bt,h1,h2,by have:=oA;(first|lia|omega)⟩
def HK{a b:Int}:(a / b).natAbs<=a.natAbs:=Int.natAbs_ediv_le_natAbs _ _
structure Wid(W:Nat)(P:List Nat)(fr:Nat->List Int):Prop where
 most:W<=1000
 row:∀p∈P,p<W/\(fr p).length=W
def Wid.sub{W:Nat}{P Q:List Nat}{fr:Nat->List Int}(h:Wid W P fr)(a:∀p∈Q,p∈P):Wid W Q fr:=⟨h.most,fun p hp=>h.row p (a p hp)⟩
noncomputable def Wid.put{W:Nat}{P:List Nat}{fr:Nat->List Int}{p:Nat}{l:List Int}(h:Wid W P fr)(a:l.length=W):Wid W P (bK fr p l):=⟨h.most,fun q hq=>⟨(h.row q hq).1,by unfold bK;split;exact a;exact(h.row q hq).2⟩⟩
def MK{R:List Tb.Vc}{P ps:List Nat}{fr:Nat->List Int}{W C CF V VF N Y:Nat}{rn:List Int}(l:∀r∈R,∀u,(r u).natAbs<=Y)(d:R.length<=N)(o:∀p∈P,Tb.Rep R CF (vF fr p))(y:∀p∈P,∀q∈P,(vF fr p q).natAbs<=VF)(a:∀p∈P,0<vF fr p p)(g:∀p∈P,(vF fr p p).natAbs<2 ^ 9000)(f:Wid W P fr)(s:rn.length=W)(hr:Tb.Rep R C (vc rn))(z:∀q∈P,(vc rn q).natAbs<=V)(c:∀p∈ps,p∈P)(A:N*((C+ps.length*(V*(1+VF) ^ ps.length*CF))*Y)<big)(D:N*(CF*Y)<big):jS fr W rn ps:=by
 refine⟨s,f.most,fun p hp=>⟨(f.row p (c p hp)).1,(f.row p (c p hp)).2,a p (c p hp),g p (c p hp)⟩,fun i p hp x hx=>?_⟩;have v:=Ak hp;have w:=c p v;refine g_ (AD HK ?_) ?_
 ·obtain⟨h,_⟩:=Tb.lD o y a (ps.take i) (fun q hq=>c q (List.mem_of_mem_take hq)) hr z
  have e:=ow (fr:=fr) (W:=W) (ps:=ps.take i) (rn:=rn) s fun q hq=>(f.row q (c q (List.mem_of_mem_take hq))).2;rw[<-e] at h;have b:=h.le (u:=p) fun r hr=>l r hr p;refine AD (Ag b (AO d (Am _ ?_))) A;have j:(ps.take i).length<=ps.length:=by rw[List.length_take];(first|lia|omega)
  refine Nat.add_le_add_left (AO j (Am _ (Al _ (AJ ω j)))) _
 ·obtain⟨u,_,rfl⟩:=CM hx
  exact AD (Ag ((o p w).le (u:=u) fun r hr=>l r hr u) (Am _ d)) D
noncomputable def b3(es:List (Nat×Addr))(p:Nat)(d:Addr):List (Nat×Addr):=if p∈es.map (·.1) then es.map fun e=>if e.1=p then(p,d) else e else es++[(p,d)]
def CN{es:List (Nat×Addr)}{p:Nat}{d:Addr}:(b3 es p d).map (·.1)=if p∈es.map (·.1) then es.map (·.1) else es.map (·.1)++[p]:=by
 unfold b3;split
 ·rw[AS]
  refine A4 fun e _=>?_;simp only[Function.comp];split<;>simp_all
 ·simp
def putE_mem{es:List (Nat×Addr)}{p:Nat}{d:Addr}{e:Nat×Addr}(h:e∈b3 es p d):e=(p,d)\/(e∈es/\e.1≠p):=by
 unfold b3 at h;split at h
 ·obtain⟨x,hx,rfl⟩:=List.mem_map.mp h
  split
  ·exact .inl rfl
  ·exact .inr ⟨hx,by assumption⟩
 ·rename_i hp
  rcases List.mem_append.mp h with h|h
  ·exact .inr ⟨h,fun z=>hp (z▸List.mem_map.mpr ⟨e,h,rfl⟩)⟩
  ·exact .inl (by simpa using h)
def ML{es:List (Nat×Addr)}{p:Nat}{d:Addr}:putK ((ez es).map fun p=>((Sum.inl p.1:Key),p.2)) (Sum.inl (p:Int)) (.ref d)=(ez (b3 es p d)).map fun p=>((Sum.inl p.1:Key),p.2):=by
 have b:∀e:Nat×Addr,((Sum.inl (e.1:Int):Key)=Sum.inl (p:Int))↔e.1=p:=by
  intro e;constructor
  ·intro z
   have:((e.1:Int))=p:=by injection z
   (first|lia|omega)
  ·intro z;rw[z]
 have e1:(((ez es).map fun p=>((Sum.inl p.1:Key),p.2)).any fun f=>decide (f.1=Sum.inl (p:Int)))=decide (p∈es.map (·.1)):=by
  rw[Bool.eq_iff_iff,List.any_eq_true,decide_eq_true_iff,List.mem_map];constructor
  ·rintro⟨x,hx,hk⟩
   rw[AS] at hx;obtain⟨e,a,rfl⟩:=List.mem_map.mp hx;exact⟨e,a,(b e).mp (of_decide_eq_true hk)⟩
  ·rintro⟨e,a,rfl⟩
   refine⟨(Sum.inl (e.1:Int),V.ref e.2),?_,by simp⟩;rw[AS];exact List.mem_map.mpr ⟨e,a,rfl⟩
 unfold putK b3;rw[e1]
 by_cases c:p∈es.map (·.1)
 ·rw[if_pos (decide_eq_true c),if_pos c]
  unfold ez;rw[AS,AS,AS,AS];refine A4 fun e _=>?_;show(if(Sum.inl (e.1:Int):Key)=Sum.inl (p:Int) then _ else _)=_
  by_cases z:e.1=p
  ·rw[if_pos ((b e).mpr z)]
   simp only[Function.comp,if_pos z];rw[z]
  ·rw[if_neg fun q=>z ((b e).mp q)]
   simp only[Function.comp,if_neg z]
 ·rw[if_neg (by simpa using c),if_neg c]
  simp[ez]
noncomputable def Fnd.put{H H2:Hp}{a d:Addr}{es:List (Nat×Addr)}{fr:Nat->List Int}{p:Nat}{l:List Int}(h:Fnd H a es fr)(hd:H d=some (.lst (l.map V.int)))(g:es.length<1000):∃H2,DPut H a (.int p) (.ref d) H2/\Fnd H2 a (b3 es p d) (bK fr p l)/\∀b,b≠a->H2 b=H b:=by
 have hp:=DPut.k (k:=Sum.inl (p:Int)) (v:=V.ref d) h.at_ (by rw[sizeLine_eq];simp;(first|lia|omega));refine⟨_,hp,⟨?_,?_,?_⟩,fun b hb=>af hb⟩
 ·rw[zc,ML]
 ·rw[CN]
  split
  ·exact h.nd
  ·rename_i hn
   rw[List.nodup_append];refine⟨h.nd,by simp,fun x hx y hy=>?_⟩;have:y=p:=by simpa using hy
   subst this;exact fun z=>hn (z▸hx)
 ·intro e c
  have ne:∀b,(∃xs,H b=some (.lst xs))->b≠a:=fun b ⟨xs,hb⟩ z=>by rw[z,h.at_] at hb;cases hb
  rcases putE_mem c with rfl|⟨c,f⟩
  ·rw[af (ne d ⟨_,hd⟩),hd];unfold bK;rw[if_pos rfl]
  ·rw[af (ne e.2 ⟨_,h.rows e c⟩),h.rows e c];unfold bK;rw[if_neg f]
end K21
end
section
namespace Tb
noncomputable def sX(N M:Nat):Nat:=(2*N*M) ^ N
noncomputable def sB(N M:Nat):Nat:=N*(sX N M*M)
def HL{N M j:Nat}(a:1<=N)(b:1<=M)(c:j<=N):(2*j*M) ^ (j-1)<=sX N M:=by
 have h1:2*j*M<=2*N*M:=Am _ (Al _ c);exact Ag (Nat.pow_le_pow_left h1 _) (AJ (ol (ol ξ a) b) ω)
def MM{N M:Nat}{R:List Vc}(i:1<=N)(b:1<=M)(hi:i7 R)(a:R.length<=N)(hb:∀r∈R,∀u,(r u).natAbs<=M):Bd N M (sX N M) (sB N M) R:=by
 refine⟨hi,fun P f h d e l g=>⟨fun p hp=>?_,fun r hr p _=>hb r hr p,fun c V hc j x hx=>?_⟩⟩
 ·refine Ag (Mv b hi h d e g (fun r hr p _=>hb r hr p) hp) ?_
  exact AO a (Am _ (HL i b a))
 ·refine Ag (ti b (fun r hr p _=>hb r hr p) g (d.imp fun h=>AB h) (CH hi h d e) hc j x hx) ?_
  exact AO a (Al _ (HL i b a))
noncomputable def shr(f:Nat->Vc):List Nat->Vc->List Int
 |[],_=>[]
 |p::ps,l=>l p / f p p::shr f ps (step f p l)
section
variable{f:Nat->Vc}
def EE:∀(ps:List Nat)(l:Vc),(shr f ps l).length=ps.length
 |[],_=>rfl
 |p::ps,l=>by show(shr f ps (step f p l)).length+1=ps.length+1;rw[EE ps]
def EF:∀{ps:List Nat}{l:Vc},Ech ps f->ps.Pairwise (·<·)->Sp (ps.map f) l->∀u,l u=cmb (shr f ps l) (ps.map f) u
 |[],l,_,_,⟨c,hc,e⟩,u=>by rw[e];cases c with|nil=>rfl|cons _ _=>simp at hc
 |p::ps,l,h,hs,⟨c,hc,e⟩,u=>by
  cases c with
  |nil=>simp at hc
  |cons a c=>
   rw[Ba] at hs;have h':Ech ps f:=h.sub fun q hq=>.tail _ hq;have hp:=h.pos p (.head _);have ep:l p=a*f p p:=by
    rw[e];show a*f p p+cmb c (ps.map f) p=a*f p p;rw[zM c (ps.map f) fun v b=>by
     obtain⟨r,hr,rfl⟩:=List.mem_map.mp b;exact h.z r (.tail _ hr) p (hs.1 r hr)]
    (first|lia|omega)
   have d:l p / f p p=a:=by rw[ep];exact Int.mul_ediv_cancel a ω
   have sp:Sp (ps.map f) (step f p l):=⟨c,by simpa using hc,fun u=>by
    unfold step;rw[d,e];show a*f p u+cmb c (ps.map f) u-a*f p u=_;(first|lia|omega)⟩
   have g:=EF h' hs.2 sp u;show l u=l p / f p p*f p u+cmb (shr f ps (step f p l)) (ps.map f) u;rw[<-g];unfold step;(first|lia|omega)
def MN{P:List Nat}{VF:Nat}(c:∀p∈P,∀q∈P,(f p q).natAbs<=VF)(a:∀p∈P,0<f p p):∀(ps:List Nat){l:Vc}{V:Nat},(∀p∈ps,p∈P)->(∀q∈P,(l q).natAbs<=V)->∀x∈shr f ps l,x.natAbs<=V*(1+VF) ^ ps.length
 |[],_,_,_,_,x,hx=>nomatch hx
 |p::ps,l,V,hs,hv,x,hx=>by
  have hp:=hs p (.head _);have b:(l p / f p p).natAbs<=V:=Ag (Int.natAbs_ediv_le_natAbs (l p) (f p p)) (hv p hp);rcases List.mem_cons.mp hx with rfl|hx
  ·refine Ag b (Nat.le_mul_of_pos_right _ (Nat.pow_pos ω))
  ·have d:∀q∈P,(step f p l q).natAbs<=V*(1+VF):=fun q hq=>by
    have e:=hv q hq;have g:(l p / f p p*f p q).natAbs<=V*VF:=by rw[AI];exact AO b (c p hp q hq)
    have h:(step f p l q).natAbs<=(l q).natAbs+(l p / f p p*f p q).natAbs:=by unfold step;(first|lia|omega)
    rw[Nat.mul_add,Nat.mul_one];(first|lia|omega)
   have:=MN c a ps (fun q hq=>hs q (.tail _ hq)) d x hx
   rwa [AQ,Nat.mul_comm (1+VF),<-Nat.pow_succ] at this
end
noncomputable def dl(s t:Nat):Int:=if s=t then 1 else 0
structure Dual(k:Nat)(U Bc:List Vc):Prop where
 lu:U.length=k
 lb:Bc.length=k
 d:∀s t,s<k->t<k->cmb (Bc.map fun b=>b s) U t=dl s t
def HM{t:Nat}:∀(c:List Int)(A B:List Vc),A.length=B.length->(∀(i:Nat) a b,A[i]?=some a->B[i]?=some b->a t=b t)->cmb c A t=cmb c B t
 |[],[],[],_,_=>rfl
 |[],_::_,_::_,_,_=>rfl
 |_::_,[],[],_,_=>rfl
 |x::c,a::A,b::B,hl,h=>by
  show x*a t+cmb c A t=x*b t+cmb c B t;rw[h 0 a b rfl rfl,HM c A B (by simpa using hl) fun i a b h1 h2=>h (i+1) a b (by simpa using h1) (by simpa using h2)]
 |[],[],_::_,hl,_=>by simp at hl
 |[],_::_,[],hl,_=>by simp at hl
 |_::_,[],_::_,hl,_=>by simp at hl
 |_::_,_::_,[],hl,_=>by simp at hl
def range_getD(row:List Int):(Ah row.length).map (fun j=>row.getD j 0)=row:=by
 apply AT
 ·simp
 ·intro i h1 h2;simp at h1;simp[h2]
def HN{U:List Vc}{k s t:Nat}(hk:U.length=k):∀(sh:Ξ)(Bc:List Vc),(∀row∈sh,row.length=k)->
  cmb ((Ah k).map fun j=>cmb (sh.map fun row=>row.getD j 0) Bc s) U t=cmb (Bc.map fun b=>b s) (sh.map fun row=>cmb row U) t
 |[],Bc,_=>by
  have e:((Ah k).map fun j=>cmb (([]:Ξ).map fun row=>row.getD j 0) Bc s)=(Ah k).map fun _=>0:=A4 fun j _=>by cases Bc<;>rfl
  rw[e,lE _ _ _ (fun x hx=>by obtain⟨_,_,rfl⟩:=List.mem_map.mp hx;rfl)];cases Bc<;>rfl
 |row::sh,[],h=>by
  have e:((Ah k).map fun j=>cmb ((row::sh).map fun row=>row.getD j 0) [] s)=(Ah k).map fun _=>0:=A4 fun j _=>rfl;rw[e,lE _ _ _ (fun x hx=>by obtain⟨_,_,rfl⟩:=List.mem_map.mp hx;rfl)]
  rfl
 |row::sh,b::Bc,h=>by
  have a:=HN (s:=s) (t:=t) hk sh Bc fun r hr=>h r (.tail _ hr);have hr:=h row (.head _);have e:((Ah k).map fun j=>cmb ((row::sh).map fun row=>row.getD j 0) (b::Bc) s)=Ay (fun x y=>b s*x+1*y) row ((Ah k).map fun j=>cmb (sh.map fun row=>row.getD j 0) Bc s):=by
   apply AT
   ·rw[AF,Aa,Aa,A8,hr,Nat.min_self]
   ·intro i h1 h2
    rw[Aa,A8] at h1;rw[A7,AW,AW,A0];show row.getD i 0*b s+cmb (sh.map fun row=>row.getD i 0) Bc s=_;rw[Ac,Ab ω,Bg];show b s*row[i]+_=_;(first|lia|omega)
  rw[e,gZ _ _ _ _ U ω (by rw[Aa,A8,hk]),a];show _=b s*cmb row U t+cmb (Bc.map fun b=>b s) (sh.map fun row=>cmb row U) t;(first|lia|omega)
def Dual.next{k:Nat}{U Bc V:List Vc}{sh:Ξ}(D:Dual k U Bc)(e:V.length=k)(ls:sh.length=k)(g:∀row∈sh,row.length=k)(h:∀(i:Nat) u row t,U[i]?=some u->sh[i]?=some row->t<k->u t=cmb row V t):Dual k V ((Ah k).map fun j=>fun s=>cmb (sh.map fun row=>row.getD j 0) Bc s):=by
 refine⟨e,by simp,fun s t f c=>?_⟩;rw[AS];show cmb ((Ah k).map fun j=>cmb (sh.map fun row=>row.getD j 0) Bc s) V t=dl s t;rw[HN e sh Bc g,<-D.d s t f c];refine HM _ _ _ (by rw[Aa,ls,D.lu]) fun i a b h1 h2=>?_;rw[Aj] at h1;obtain⟨row,hr,rfl⟩:=Option.map_eq_some_iff.mp h1;exact(h i b row t h2 hr c).symm
noncomputable def dot:Nat->Vc->Vc->Int
 |0,_,_=>0
 |k+1,a,b=>dot k a b+a k*b k
def EG{k:Nat}{a a' b:Vc}{x y:Int}:dot k (fun u=>x*a u+y*a' u) b=x*dot k a b+y*dot k a' b:=by
 induction k with
 |zero=>show(0:Int)=x*0+y*0;(first|lia|omega)
 |succ k ih=>
  show dot k _ b+(x*a k+y*a' k)*b k=x*(dot k a b+a k*b k)+y*(dot k a' b+a' k*b k);rw[ih,Int.add_mul,Int.mul_add,Int.mul_add,AV,AV];(first|lia|omega)
def oD{k:Nat}{a b:Vc}(h:∀t,t<k->a t=0):dot k a b=0:=by
 induction k with
 |zero=>rfl
 |succ k ih=>show dot k a b+a k*b k=0;rw[ih fun t c=>h t ω,h k ω];(first|lia|omega)
def zR{k:Nat}{a a' b:Vc}(h:∀t,t<k->a t=a' t):dot k a b=dot k a' b:=by
 induction k with
 |zero=>rfl
 |succ k ih=>show dot k a b+a k*b k=dot k a' b+a' k*b k;rw[ih fun t c=>h t ω,h k ω]
def HP{k:Nat}{b:Vc}:∀(c:List Int)(L:List Vc),dot k (cmb c L) b=cmb c (L.map fun l=>fun _=>dot k l b) 0
 |[],[]=>oD fun _ _=>rfl
 |[],_::_=>oD fun _ _=>rfl
 |_::_,[]=>oD fun _ _=>rfl
 |x::c,l::L=>by
  show dot k (fun u=>x*l u+cmb c L u) b=x*dot k l b+cmb c (L.map fun l=>fun _=>dot k l b) 0;rw[<-HP c L];have:=EG (k:=k) (a:=l) (a':=cmb c L) (b:=b) (x:=x) (y:=1);rw[Int.one_mul] at this;rw[<-this];exact zR fun t _=>ω
def HQ{U:List Vc}{t:Nat}:∀(k:Nat)(x:Vc)(Bc:List Vc),Bc.length=U.length->cmb (Bc.map fun b=>dot k x b) U t=dot k x (fun s=>cmb (Bc.map fun b=>b s) U t)
 |0,x,Bc,_=>lE _ _ _ fun y hy=>by obtain⟨_,_,rfl⟩:=List.mem_map.mp hy;rfl
 |k+1,x,Bc,hl=>by
  show cmb (Bc.map fun b=>dot k x b+x k*b k) U t=dot k x (fun s=>cmb (Bc.map fun b=>b s) U t)+x k*cmb (Bc.map fun b=>b k) U t;rw[<-HQ k x Bc hl];have:=gZ 1 (x k) (Bc.map fun b=>dot k x b) (Bc.map fun b=>b k) U (by rw[Aa,hl]) (by rw[Aa,hl]) t;rw[Int.one_mul] at this;rw[<-this]
  congr 1
  apply AT
  ·simp
  ·intro i h1 h2;simp
def EH{k:Nat}{x:Vc}{t:Nat}(b:t<k):dot k x (fun s=>dl s t)=x t:=by
 induction k with
 |zero=>(first|lia|omega)
 |succ k ih=>
  show dot k x _+x k*dl k t=x t
  by_cases e:t=k
  ·subst e
   have:dot t x (fun s=>dl s t)=0:=by
    have z:∀j,j<=t->dot j x (fun s=>dl s t)=0:=by
     intro j
     induction j with
     |zero=>intro _;rfl
     |succ j ih=>intro a;show dot j x _+x j*dl j t=0;rw[ih ω];unfold dl;rw[if_neg ω];(first|lia|omega)
    exact z t (Ad _)
   rw[this];unfold dl;rw[if_pos rfl];(first|lia|omega)
  ·rw[ih ω];unfold dl;rw[if_neg ω];(first|lia|omega)
def zB{k:Nat}{a b b':Vc}(h:∀t,t<k->b t=b' t):dot k a b=dot k a b':=by
 induction k with
 |zero=>rfl
 |succ k ih=>show dot k a b+a k*b k=dot k a b'+a k*b' k;rw[ih fun t c=>h t ω,h k ω]
structure Both(k:Nat)(U Bc:List Vc):Prop where
 a:Dual k U Bc
 b:∀(i j:Nat) u c,U[i]?=some u->Bc[j]?=some c->dot k u c=dl i j
def MO{k:Nat}{U Bc:List Vc}(D:Dual k U Bc)(hi:∀c:List Int,c.length=k->(∀t,t<k->cmb c U t=0)->∀x∈c,x=0):Both k U Bc:=by
 refine⟨D,fun i j u c o hc=>?_⟩;have q:i<k:=by rw[<-D.lu];exact(List.getElem?_eq_some_iff.mp o).1
 have l:j<k:=by rw[<-D.lb];exact(List.getElem?_eq_some_iff.mp hc).1
 have h1:∀t,t<k->cmb (Bc.map fun b=>dot k u b) U t=u t:=fun t f=>by
  rw[HQ k u Bc (by rw[D.lb,D.lu]),zB fun s p=>D.d s t p f];exact EH f
 have h2:∀t,t<k->cmb ((Ah k).map fun s=>dl i s) U t=u t:=fun t f=>by
  have:∀(n:Nat)(V:List Vc),V.length=n->∀(i:Nat) v,V[i]?=some v->∀t,cmb ((Ah n).map fun s=>dl i s) V t=v t:=by
   intro n
   induction n with
   |zero=>intro V g i v h;rw[AK g] at h;simp at h
   |succ n ih=>
    intro V g i v h t;cases V with
    |nil=>simp at g
    |cons w V=>
     rw[List.range_succ_eq_map,A6,AS];show dl i 0*w t+cmb ((Ah n).map fun s=>dl i (s+1)) V t=v t;cases i with
     |zero=>
      have e:v=w:=by simpa using h.symm
      rw[lE _ _ _ (fun x hx=>by obtain⟨s,_,rfl⟩:=List.mem_map.mp hx;exact if_neg ω),e];show(1:Int)*w t+0=w t;(first|lia|omega)
     |succ i=>
      have:=ih V (by simpa using g) i v (by simpa using h) t;rw[show(fun s=>dl (i+1) (s+1))=(fun s=>dl i s) from funext fun s=>by unfold dl;simp];rw[this];show(0:Int)*w t+v t=v t;(first|lia|omega)
  exact this k U D.lu i u o t
 have hz:=hi (Ay (fun a b=>a-b) (Bc.map fun b=>dot k u b) ((Ah k).map fun s=>dl i s)) (by rw[AF,Aa,Aa,A8,D.lb,Nat.min_self]) fun t f=>by
  rw[CA _ _ U (by rw[Aa,D.lb,D.lu]) (by rw[Aa,A8,D.lu]),h1 t f,h2 t f];(first|lia|omega)
 have g:j<(Ay (fun a b=>a-b) (Bc.map fun b=>dot k u b) ((Ah k).map fun s=>dl i s)).length:=by rw[AF,Aa,Aa,A8,D.lb,Nat.min_self];exact l
 have:=hz _ (Az g);rw[A7,AW,AW,A0] at this;have e:Bc[j]'(by rw[D.lb];exact l)=c:=(List.getElem?_eq_some_iff.mp hc).2;rw[e] at this;(first|lia|omega)
def Both.free{k w:Nat}{R Bc:List Vc}(D:Both k (R.map fun r=>fun t=>r (w+t)) Bc){c:List Int}(hc:c.length=R.length)(hz:∀t,t<k->cmb c R (w+t)=0):∀x∈c,x=0:=by
 have I:R.length=k:=by have:=D.a.lu;rwa [Aa] at this
 have G:∀(c:List Int)(R:List Vc)(t:Nat),cmb c R (w+t)=cmb c (R.map fun r=>fun t=>r (w+t)) t:=by
  intro c
  induction c with
  |nil=>intro R t;cases R<;>rfl
  |cons a c ih=>intro R t;cases R with
   |nil=>rfl
   |cons r R=>show a*r (w+t)+cmb c R (w+t)=a*r (w+t)+_;rw[ih]
 intro x hx;obtain⟨j,y,rfl⟩:=A9 hx;have p:j<Bc.length:=by rw[D.a.lb];(first|lia|omega)
 have A:dot k (cmb c (R.map fun r=>fun t=>r (w+t))) Bc[j]=0:=oD fun t E=>by rw[<-G];exact hz t E
 rw[HP] at A;have H:∀(c:List Int)(U:List Vc)(d:Nat),c.length=U.length->(∀(i:Nat) u,U[i]?=some u->dot k u Bc[j]=dl (d+i) j)->∀(y:d<=j)(h:j-d<c.length),cmb c (U.map fun l=>fun _=>dot k l Bc[j]) 0=c[j-d]:=by
  intro c
  induction c with
  |nil=>intro U d _ _ _ h;simp at h
  |cons a c ih=>
   intro U d q s y h;cases U with
   |nil=>simp at q
   |cons u U=>
    show a*dot k u Bc[j]+cmb c (U.map fun l=>fun _=>dot k l Bc[j]) 0=_;have g:=s 0 u rfl;rw[g];have C:∀(i:Nat) v,U[i]?=some v->dot k v Bc[j]=dl (d+1+i) j:=fun i v f=>by rw[s (i+1) v (by simpa using f)];congr 1;(first|lia|omega)
    by_cases e:d=j
    ·subst e
     have z:cmb c (U.map fun l=>fun _=>dot k l Bc[d]) 0=0:=zM _ _ fun v f=>by
      obtain⟨l,F,rfl⟩:=List.mem_map.mp f;obtain⟨i,o,rfl⟩:=A9 F;show dot k U[i] Bc[d]=0;rw[C i _ (Ab o)];unfold dl;rw[if_neg ω]
     rw[z];have:d-d=0:=Nat.sub_self _;simp only[this,List.getElem_cons_zero];unfold dl;rw[if_pos ω];(first|lia|omega)
    ·have:=ih U (d+1) (by simpa using q) C ω (by simp at h;(first|lia|omega))
     rw[this];have e2:j-d=(j-(d+1))+1:=ω
     simp only[e2,List.getElem_cons_succ];unfold dl;rw[if_neg ω];(first|lia|omega)
 have:=H c (R.map fun r=>fun t=>r (w+t)) 0 (by rw[Aa,hc]) (fun i u g=>by rw[Nat.zero_add];exact D.b i j u Bc[j] g (Ab p)) (Aw _) ω;rw[A] at this;exact this.symm
noncomputable def allb:List Nat->Ξ
 |[]=>[[]]
 |t::ts=>(allb ts).flatMap fun c=>(Ah t).map fun a:Nat=>(a:Int)::c
noncomputable def pr:List Nat->Nat
 |[]=>1
 |t::ts=>t*pr ts
def jV:∀b,(allb b).length=pr b
 |[]=>rfl
 |t::b=>by
  have:∀l:Ξ,(l.flatMap fun c=>(Ah t).map fun a:Nat=>(a:Int)::c).length=t*l.length:=by
   intro l
   induction l with
   |nil=>simp
   |cons c l ih=>rw[List.flatMap_cons,AU,Aa,A8,ih,AN,Nat.mul_add];(first|lia|omega)
  show((allb b).flatMap _).length=_;rw[this,jV b];rfl
def jf:∀{b:List Nat}{c:List Int},c∈allb b↔c.length=b.length/\∀(i:Nat) x t,c[i]?=some x->b[i]?=some t->0<=x/\x<(t:Int)
 |[],c=>by
  show c∈[[]]↔_;rw[List.mem_singleton];constructor
  ·rintro rfl;exact⟨rfl,fun i x t h=>by simp at h⟩
  ·intro h;exact AK h.1
 |t::b,c=>by
  show c∈(allb b).flatMap (fun c=>(Ah t).map fun a:Nat=>(a:Int)::c)↔_;rw[List.mem_flatMap];constructor
  ·rintro⟨d,hd,h⟩
   obtain⟨a,f,rfl⟩:=List.mem_map.mp h;obtain⟨h1,h2⟩:=jf.mp hd;have:=List.mem_range.mp f;refine⟨by rw[AN,h1,AN],fun i x t' hx e=>?_⟩;cases i with
   |zero=>simp at hx e;(first|lia|omega)
   |succ i=>exact h2 i x t' (by simpa using hx) (by simpa using e)
  ·rintro⟨h1,h2⟩
   cases c with
   |nil=>simp at h1
   |cons a d=>
    have f:=h2 0 a t rfl rfl;refine⟨d,jf.mpr ⟨by simpa using h1,fun i x t' hx e=>h2 (i+1) x t' (by simpa using hx) (by simpa using e)⟩,List.mem_map.mpr ⟨a.toNat,List.mem_range.mpr ω,?_⟩⟩;rw[Int.toNat_of_nonneg f.1]
def oE:∀d,(allb d).Nodup
 |[]=>by simp[allb]
 |t::d=>by
  show((allb d).flatMap fun c=>(Ah t).map fun a:Nat=>(a:Int)::c).Pairwise (·≠·);rw[List.pairwise_flatMap];refine⟨fun c _=>?_,(oE d).imp fun{a b} h x hx y hy e=>?_⟩
  ·rw[List.pairwise_map]
   exact List.nodup_range.imp fun h e=>h (by injection e with e;(first|lia|omega))
  ·obtain⟨i,_,rfl⟩:=List.mem_map.mp hx
   obtain⟨j,_,rfl⟩:=List.mem_map.mp hy;injection e with _ e
   exact h e
def EI{a b:Type}{f:a->b}{l:List a}{m:List b}(c:l.Nodup)(d:∀x∈l,f x∈m)(inj:∀x∈l,∀y∈l,f x=f y->x=y):l.length<=m.length:=by
 rcases Be m.length l.length with h|h
 ·obtain⟨x,hx,y,hy,ne,e⟩:=eJ f l m c d h
  exact absurd (inj x hx y hy e) ne
 ·exact h
noncomputable def vl(c:List Int):Vc:=fun j=>c.getD j 0
noncomputable def lst(k:Nat)(x:Vc):List Int:=(Ah k).map x
def HR{k i:Nat}{x:Vc}(h:i<k):(lst k x)[i]?=some (x i):=by unfold lst;rw[Aj,AL h];rfl
def ip{k:Nat}{x:Vc}:(lst k x).length=k:=by unfold lst;simp
def MP{k:Nat}{x y:Vc}:lst k x=lst k y↔∀j,j<k->x j=y j:=by
 constructor
 ·intro h j a
  have:=congrArg (·[j]?) h;simp only[HR a] at this;exact AM this
 ·intro h
  exact A4 fun j a=>h j (List.mem_range.mp a)
noncomputable def aQ(L:Nat->Vc):Nat->Vc->Vc
 |0,x=>x
 |k+1,x=>aQ L k (fun u=>x u-x k / L k k*L k u)
def SL(L:Nat->Vc)(k:Nat)(x:Vc):Prop:=∃c:Vc,∀j,j<k->x j=cmb (lst k c) ((Ah k).map L) j
section
variable{L f:Nat->Vc}{r:Nat}{Λ:Vc->Prop}
structure Lt(Λ:Vc->Prop):Prop where
 z:Λ fun _=>0
 s:∀{v w:Vc}(m:Int),Λ v->Λ w->Λ fun u=>v u-m*w u
noncomputable def Lt.cmb(T:Lt Λ):∀(c:List Int)(S:List Vc),(∀s∈S,Λ s)->Λ (Tb.cmb c S)
 |[],[],_=>T.z
 |[],_::_,_=>T.z
 |_::_,[],_=>T.z
 |a::c,s::S,h=>by
  have:=T.s (-a) (Lt.cmb T c S fun w hw=>h w (.tail _ hw)) (h s (.head _));have e:(fun u=>Tb.cmb c S u - -a*s u)=Tb.cmb (a::c) (s::S):=funext fun u=>by show Tb.cmb c S u - -a*s u=a*s u+Tb.cmb c S u;rw[Int.neg_mul];(first|lia|omega)
  rw[e] at this;exact this
structure Two(Λ:Vc->Prop)(r:Nat)(L f:Nat->Vc):Prop where
 lt:Lt Λ
 li:∀i,i<r->Λ (L i)
 lp:∀i,i<r->0<L i i
 lz:∀i j,i<j->j<r->L i j=0
 fi:∀i,i<r->Λ (f i)
 fp:∀i,i<r->0<f i i
 fz:∀i j,i<r->j<i->f i j=0
 ld:∀v i,Λ v->i<r->(∀j,j<i->v j=0)->f i i ∣ v i
def HS(T:Two Λ r L f):∀(k:Nat)(x:Vc)(j:Nat),k<=j->j<r->aQ L k x j=x j
 |0,_,_,_,_=>rfl
 |k+1,x,j,hk,hj=>by
  show aQ L k _ j=x j;rw[HS T k _ j ω hj,T.lz k j ω hj];(first|lia|omega)
def HU(T:Two Λ r L f):∀(k:Nat)(x:Vc),k<=r->∀i,i<k->0<=aQ L k x i/\aQ L k x i<L i i
 |k+1,x,hk,i,hi=>by
  by_cases e:i=k
  ·subst e
   show 0<=aQ L i _ i/\aQ L i _ i<L i i;rw[HS T i _ i (Ad _) ω];have a:=T.lp i ω;have em:x i-x i / L i i*L i i=x i%L i i:=by have:=Int.emod_add_mul_ediv (x i) (L i i);rw[Bg] at this;(first|lia|omega)
   rw[em];exact⟨Int.emod_nonneg _ ω,Int.emod_lt_of_pos _ a⟩
  ·exact HU T k _ ω i ω
def EJ:∀(k:Nat)(x:Vc),∃c:Vc,∀u,x u-aQ L k x u=cmb (lst k c) ((Ah k).map L) u
 |0,x=>⟨fun _=>0,fun u=>by show x u-x u=0;(first|lia|omega)⟩
 |k+1,x=>by
  obtain⟨c,hc⟩:=EJ k (fun u=>x u-x k / L k k*L k u);refine⟨fun i=>if i=k then x k / L k k else c i,fun u=>?_⟩;have e1:lst (k+1) (fun i=>if i=k then x k / L k k else c i)=lst k c++[x k / L k k]:=by
   unfold lst;rw[List.range_succ,Ao]
   congr 1
   ·exact A4 fun i hi=>if_neg (AB (List.mem_range.mp hi))
   ·show [if k=k then _ else _]=_;rw[if_pos rfl]
  have e:∀(c:List Int)(S:List Vc)(a:Int)(v:Vc),c.length=S.length->cmb (c++[a]) (S++[v]) u=cmb c S u+a*v u:=by
   intro c
   induction c with
   |nil=>intro S a v d;rw[AK d.symm];show a*v u+0=0+a*v u;(first|lia|omega)
   |cons b c ih=>intro S a v d;cases S with
    |nil=>simp at d
    |cons s S=>show b*s u+cmb (c++[a]) (S++[v]) u=b*s u+cmb c S u+a*v u;rw[ih S a v (by simpa using d)];(first|lia|omega)
  rw[e1,List.range_succ,Ao,A6,List.map_nil,e _ _ _ _ (by rw[ip];simp),<-hc u];show x u-aQ L k _ u=_;(first|lia|omega)
def Two.small(T:Two Λ r L f){v:Vc}{k:Nat}(hk:k<=r)(b:Λ v)(h:∀j,j<k->(v j).natAbs<(f j j).natAbs):∀j,j<k->v j=0:=by
 intro j
 induction j using Nat.strongRecOn with
 |_ j ih=>
  intro a;obtain⟨m,e⟩:=T.ld v j b ω fun i hi=>ih i hi ω;have:=h j a;rw[e,AI] at this;rcases Nat.eq_zero_or_pos m.natAbs with z|z
  ·rw[e,Int.natAbs_eq_zero.mp z,Int.mul_zero]
  ·have:(f j j).natAbs*1<=(f j j).natAbs*m.natAbs:=Al _ z
   (first|lia|omega)
noncomputable def tn(g:Nat->Vc)(k:Nat):List Nat:=(Ah k).map fun i=>(g i i).toNat
def CO{a:Nat->Vc}{k:Nat}{x:List Int}(h:x∈allb (tn a k)):x.length=k/\∀j,j<k->0<=vl x j/\vl x j<((a j j).toNat:Int):=by
 obtain⟨h1,h2⟩:=jf.mp h;unfold tn at h1 h2;rw[Aa,A8] at h1;refine⟨h1,fun j b=>?_⟩;have e:x[j]?=some (x[j]'ω):=Ab ω;have:=h2 j _ _ e (by rw[Aj,AL b];rfl);unfold vl;rw[Ac,e];exact this
def HV{x y:List Int}{k:Nat}(hx:x.length=k)(hy:y.length=k)(h:∀j,j<k->vl x j=vl y j):x=y:=by
 refine AT ω fun i h1 h2=>?_;have:=h i ω;unfold vl at this;rw[Ac,Ac,Ab h1,Ab h2] at this;exact this
def HW(T:Two Λ r L f){k:Nat}(hk:k<=r)(x:Vc):lst k (aQ L k x)∈allb (tn L k):=by
 refine jf.mpr ⟨by unfold tn;rw[ip];simp,fun i z t hz a=>?_⟩;have hi:i<k:=by have:=(List.getElem?_eq_some_iff.mp hz).1;rwa [ip] at this
 rw[HR hi] at hz;obtain rfl:=AM hz;unfold tn at a;rw[Aj,AL hi] at a;obtain rfl:=AM a;have:=HU T k x hk i hi;have:=T.lp i ω;show 0<=aQ L k x i/\aQ L k x i<((L i i).toNat:Int);(first|lia|omega)
def HX(T:Two Λ r L f){k:Nat}(hk:k<=r){x y:Vc}(h:lst k (aQ L k x)=lst k (aQ L k y)):∃v,Λ v/\SL L k v/\∀j,j<k->v j=x j-y j:=by
 obtain⟨c,hc⟩:=EJ (L:=L) k x;obtain⟨d,hd⟩:=EJ (L:=L) k y;have g:∀s∈(Ah k).map L,Λ s:=fun s a=>by
  obtain⟨i,hi,rfl⟩:=List.mem_map.mp a;exact T.li i (AC (List.mem_range.mp hi) hk)
 have e:∀u,cmb (lst k fun i=>c i-d i) ((Ah k).map L) u=cmb (lst k c) ((Ah k).map L) u-cmb (lst k d) ((Ah k).map L) u:=fun u=>by
  rw[<-CA _ _ _ (by rw[ip];simp) (by rw[ip];simp)]
  congr 1
  apply AT
  ·simp[ip]
  ·intro i h1 h2;simp only[lst,AW,A0,A7]
 refine⟨cmb (lst k fun i=>c i-d i) ((Ah k).map L),T.lt.cmb _ _ g,⟨_,fun j _=>rfl⟩,fun j b=>?_⟩;rw[e,<-hc j,<-hd j,MP.mp h j b];(first|lia|omega)
def EK(T:Two Λ r L f){k:Nat}(hk:k<=r):pr (tn f k)<=pr (tn L k):=by
 rw[<-jV,<-jV];refine EI (f:=fun x=>lst k (aQ L k (vl x))) (oE _) (fun x _=>HW T hk _) fun x hx y hy e=>?_;obtain⟨v,c,_,b⟩:=HX T hk e;obtain⟨d,g⟩:=CO hx;obtain⟨h,i⟩:=CO hy;have z:=T.small hk c fun j a=>by
  have h1:=g j a;have h2:=i j a
  have l:=T.fp j ω;rw[b j a];(first|lia|omega)
 exact HV d h fun j a=>by have:=z j a;rw[b j a] at this;(first|lia|omega)
def half_lt(T:Two Λ r L f){k:Nat}(hk:k<=r){w:Vc}(hw:Λ w)(F:¬SL L k w):2*pr (tn f k)<=pr (tn L k):=by
 have eq:2*pr (tn f k)=((allb (tn f k)).map (fun x=>(false,x))++(allb (tn f k)).map (fun x=>(true,x))).length:=by rw[AU,Aa,Aa,jV];(first|lia|omega)
 rw[eq,<-jV]
 let g:Bool×List Int->Vc:=fun p=>if p.1=true then fun u=>vl p.2 u+w u else vl p.2
 have mem:∀p∈(allb (tn f k)).map (fun x=>(false,x))++(allb (tn f k)).map (fun x=>(true,x)),p.2∈allb (tn f k):=fun p hp=>by
  rcases List.mem_append.mp hp with h|h<;>(obtain⟨x,hx,rfl⟩:=List.mem_map.mp h;exact hx)
 refine EI (f:=fun p=>lst k (aQ L k (g p))) ?_ (fun p _=>HW T hk _) fun p hp q hq e=>?_
 ·rw[List.nodup_append]
  refine⟨?_,?_,fun x hx y hy=>?_⟩
  ·exact List.Pairwise.map _ (fun a b(h:a≠b) e=>h (by injection e)) (oE _)
  ·exact List.Pairwise.map _ (fun a b(h:a≠b) e=>h (by injection e)) (oE _)
  ·obtain⟨_,_,rfl⟩:=List.mem_map.mp hx
   obtain⟨_,_,rfl⟩:=List.mem_map.mp hy;intro z;injection z with z;cases z
 ·obtain⟨v,o,E,l⟩:=HX T hk e
  obtain⟨a,x⟩:=p;obtain⟨b,y⟩:=q;obtain⟨H,I⟩:=CO (show x∈_ from mem _ hp);obtain⟨J,M⟩:=CO (show y∈_ from mem _ hq);have fin:∀{A:Vc},Λ A->(∀j,j<k->A j=vl x j-vl y j)->x=y:=fun{A} G D=>by
   have z:=T.small hk G fun j d=>by
    have h1:=I j d;have h2:=M j d
    have N:=T.fp j ω;rw[D j d];(first|lia|omega)
   exact HV H J fun j d=>by have:=z j d;rw[D j d] at this;(first|lia|omega)
  cases a with
  |false=>
   cases b with
   |false=>rw[fin o fun j d=>by rw[l j d];rfl]
   |true=>
    exfalso
    have C:=fin (T.lt.s (-1) o hw) fun j d=>by rw[l j d];show vl x j-(vl y j+w j) - -1*w j=_;(first|lia|omega)
    subst C;obtain⟨c,hc⟩:=E;apply F;refine⟨fun i=>-c i,fun j d=>?_⟩;have h1:=l j d;have h2:=hc j d;have e2:cmb (lst k fun i=>-c i) ((Ah k).map L) j=-cmb (lst k c) ((Ah k).map L) j:=by
     have:=gZ (-1) 0 (lst k c) (lst k c) ((Ah k).map L) (by rw[ip];simp) (by rw[ip];simp) j;rw[show(-1:Int)*cmb (lst k c) ((Ah k).map L) j+0*cmb (lst k c) ((Ah k).map L) j=-cmb (lst k c) ((Ah k).map L) j from ω] at this;rw[<-this]
     congr 1
     apply AT
     ·simp[ip]
     ·intro i h1 h2;simp only[lst,AW,A0,A7];(first|lia|omega)
    rw[e2,<-h2,h1];show w j=-(vl x j-(vl x j+w j));(first|lia|omega)
  |true=>
   cases b with
   |true=>rw[fin o fun j d=>by rw[l j d];show vl x j+w j-(vl y j+w j)=_;(first|lia|omega)]
   |false=>
    exfalso
    have C:=fin (T.lt.s 1 o hw) fun j d=>by rw[l j d];show vl x j+w j-vl y j-1*w j=_;(first|lia|omega)
    subst C;obtain⟨c,hc⟩:=E;exact F ⟨c,fun j d=>by rw[<-hc j d,l j d];show w j=vl x j+w j-vl x j;(first|lia|omega)⟩
def HY{j k:Nat}{c:Vc}(h:∀i,i<k->L i j=0):cmb (lst k c) ((Ah k).map L) j=0:=
 zM _ _ fun v a=>by
  obtain⟨i,hi,rfl⟩:=List.mem_map.mp a;exact h i (List.mem_range.mp hi)
def HZ(u k:Nat)(c:Vc):cmb (lst (k+1) c) ((Ah (k+1)).map L) u=cmb (lst k c) ((Ah k).map L) u+c k*L k u:=by
 have f:∀(c:List Int)(S:List Vc)(a:Int)(v:Vc),c.length=S.length->cmb (c++[a]) (S++[v]) u=cmb c S u+a*v u:=by
  intro c
  induction c with
  |nil=>intro S a v d;rw[AK d.symm];show a*v u+0=0+a*v u;(first|lia|omega)
  |cons b c ih=>intro S a v d;cases S with
   |nil=>simp at d
   |cons s S=>show b*s u+cmb (c++[a]) (S++[v]) u=b*s u+cmb c S u+a*v u;rw[ih S a v (by simpa using d)];(first|lia|omega)
 have e:lst (k+1) c=lst k c++[c k]:=by unfold lst;rw[List.range_succ,Ao];rfl
 rw[e,List.range_succ,Ao,A6,List.map_nil,f _ _ _ _ (by rw[ip];simp)]
def diag(T:Two Λ r L f)(p:∀i j,i<j->j<r->0<=f i j/\f i j<f j j)(b:∀k,k<=r->∀w,Λ w->SL L k w)(i:Nat)(hi:i<r):f i i=L i i/\(∀j,j<r->j≠i->f i j=0):=by
 obtain⟨c,hc⟩:=b i ω (L i) (T.li i hi);have x:∀s∈(Ah i).map L,Λ s:=fun s v=>by
  obtain⟨t,a,rfl⟩:=List.mem_map.mp v;exact T.li t (Nat.lt_trans (List.mem_range.mp a) hi)
 have hw:=T.lt.s 1 (T.li i hi) (T.lt.cmb (lst i c) _ x);have q:∀j,j<i->L i j-1*cmb (lst i c) ((Ah i).map L) j=0:=fun j g=>by have:=hc j g;(first|lia|omega)
 have l:∀j,i<=j->j<r->cmb (lst i c) ((Ah i).map L) j=0:=fun j h1 h2=>HY fun t a=>T.lz t j ω h2;have d1:=T.ld _ i hw hi q;have y:=T.lp i hi;have z:=T.fp i hi;obtain⟨d,hd⟩:=b (i+1) ω (f i) (T.fi i hi);have e1:=hd i ω;rw[HZ,HY fun t a=>T.lz t i a hi] at e1;have d2:L i i ∣ f i i:=⟨d i,by rw[e1,Bg];(first|lia|omega)⟩;have wi:L i i-1*cmb (lst i c) ((Ah i).map L) i=L i i:=by rw[l i (Ad _) hi];(first|lia|omega)
 have o:f i i ∣ L i i:=by
  have this:f i i ∣ L i i-1*cmb (lst i c) ((Ah i).map L) i:=d1;rw[wi] at this;exact this
 have u:f i i=L i i:=Int.le_antisymm (Int.le_of_dvd y o) (Int.le_of_dvd z d2);refine⟨u,fun j g ne=>?_⟩;have A:=T.lt.s 1 (T.fi i hi) hw;have:=T.small (Ad r) A (fun t a=>?_) j g
 ·rcases Be j i with h|h
  ·exact T.fz i j hi h
  ·have e:L i j=0:=T.lz i j ω g
   have e2:=l j ω g;have:f i j-1*(L i j-1*cmb (lst i c) ((Ah i).map L) j)=0:=this;rw[e,e2] at this;(first|lia|omega)
 ·have C:=T.fp t a
  show(f i t-1*(L i t-1*cmb (lst i c) ((Ah i).map L) t)).natAbs<(f t t).natAbs;rcases Nat.lt_trichotomy t i with h|h|h
  ·have e1:=q t h
   rw[T.fz i t hi h,e1];(first|lia|omega)
  ·subst h;rw[wi,u];(first|lia|omega)
  ·have e:L i t=0:=T.lz i t h a
   have e2:=l t ω a;have e3:=p i t h a;rw[e,e2];(first|lia|omega)
def ut(T:Two Λ r L f)(a:∀i j,i<j->j<r->0<=f i j/\f i j<f j j):(∃k,k<=r/\2*pr (tn f k)<=pr (tn L k))\/∀i,i<r->f i i=L i i/\∀j,j<r->j≠i->f i j=0:=by
 by_cases h:∀k,k<=r->∀w,Λ w->SL L k w
 ·exact .inr fun i hi=>diag T a h i hi
 ·obtain⟨k,h⟩:=Classical.not_forall.mp h
  obtain⟨hk,h⟩:=Classical.not_imp.mp h;obtain⟨w,h⟩:=Classical.not_forall.mp h;obtain⟨hw,h⟩:=Classical.not_imp.mp h;exact .inl ⟨k,hk,half_lt T hk hw h⟩
end
def MQ{R:List Vc}{P:List Nat}{f:Nat->Vc}(h:Ech P f)(c:P.Pairwise (·<·))(d:∀r∈R,Sp (P.map f) r){w:Vc}(hw:Sp R w)(hb:∀p∈P,(w p).natAbs<(f p p).natAbs):∀p∈P,w p=0:=by
 have b:=hw.trans d;intro p
 induction p using Nat.strongRecOn with
 |_ p ih=>
  intro hp;obtain⟨m,e⟩:=jP h c hp b fun q hq a=>ih q a hq;have:=hb p hp;rw[e,AI] at this;rcases Nat.eq_zero_or_pos m.natAbs with z|z
  ·rw[e,Int.natAbs_eq_zero.mp z,Int.mul_zero]
  ·have:(f p p).natAbs*1<=(f p p).natAbs*m.natAbs:=Al _ z
   (first|lia|omega)
def near{R:List Vc}{P:List Nat}{M:Nat}(l:1<=M)(d:∀v∈R,∀p∈P,(v p).natAbs<=M)(f:P.length=R.length)(e:P.Nodup)(hi:Inj R P)(v:Vc):∃q:List Int,q.length=R.length/\∀p∈P,(v p-cmb q R p).natAbs<=R.length*M:=by
 obtain⟨V,j⟩:∃V,∀p∈P,(v p).natAbs<=V:=by
  clear d f e hi
  induction P with
  |nil=>exact⟨0,fun p hp=>nomatch hp⟩
  |cons p P ih=>
   obtain⟨V,h⟩:=ih;exact⟨V+(v p).natAbs,fun q hq=>by rcases List.mem_cons.mp hq with rfl|hq;(first|lia|omega);have:=h q hq;(first|lia|omega)⟩
 obtain⟨D,s,c,a,e1,_,_⟩:=clear l d f e hi j P e fun q hq=>hq;have fin:∀(D:Int)(s:List Int),0<D->s.length=R.length->(∀p∈P,cmb s R p=D*v p)->∃q:List Int,q.length=R.length/\∀p∈P,(v p-cmb q R p).natAbs<=R.length*M:=fun D s c a e1=>by
  refine⟨s.map (· / D),by rw[Aa,a],fun p hp=>?_⟩;have e2:cmb (s.map (·%D)) R p=cmb s R p-D*cmb (s.map (· / D)) R p:=by
   have:=gZ 1 (-D) s (s.map (· / D)) R a (by rw[Aa,a]) p;rw[Int.one_mul,Int.neg_mul] at this;rw[show cmb s R p-D*cmb (s.map (· / D)) R p=cmb s R p+-(D*cmb (s.map (· / D)) R p) from ω,<-this]
   congr 1
   apply AT
   ·simp
   ·intro i h1 h2
    simp only[AW,A7];have:=Int.emod_add_mul_ediv (s[i]'(by simpa using h1)) D;rw[Int.one_mul,Int.neg_mul];(first|lia|omega)
  have b:=tf (u:=p) (X:=D.natAbs) (M:=M) (s.map (·%D)) R (fun x hx=>by
   obtain⟨y,_,rfl⟩:=List.mem_map.mp hx;have h1:=Int.emod_nonneg y (show D≠0 from ω);have h2:=Int.emod_lt_of_pos y c;(first|lia|omega)) fun v g=>d v g p hp
  rw[e2,e1 p hp,<-Int.mul_sub,AI,Nat.mul_left_comm] at b;exact Nat.le_of_mul_le_mul_left b ω
 rcases Int.lt_trichotomy D 0 with h|h|h
 ·refine fin (-D) (s.map fun x=>-x) ω (by rw[Aa,a]) fun p hp=>?_
  have:=gZ (-1) 0 s s R a a p;rw[show(-1:Int)*cmb s R p+0*cmb s R p=-cmb s R p from ω,e1 p hp] at this;rw[Int.neg_mul,<-this]
  congr 1
  apply AT
  ·simp
  ·intro i h1 h2;simp only[AW,A7];(first|lia|omega)
 ·exact absurd h c
 ·exact fin D s h a e1
def MR{R:List Vc}{P:List Nat}{f:Nat->Vc}{M:Nat}(G:1<=M)(hi:i7 R)(h:Ech P f)(j:P.Pairwise (·<·))(v:∀r∈R,Sp (P.map f) r)(l:P.length=R.length)(hb:∀r∈R,∀p∈P,(r p).natAbs<=M):pr (P.map fun p=>(f p p).toNat)<=(2*(R.length*M)+1) ^ R.length:=by
 have q:P.Nodup:=j.imp fun h=>AB h;have inj:=CH hi h j v;have b:=fun x:List Int=>near G hb l q inj fun u=>x.getD (P.idxOf u) 0;rw[<-l,<-Cz,<-jV];have g:∀(x:List Int)(i:Nat)(hi:i<P.length),x.getD (P.idxOf P[i]) 0=x.getD i 0:=fun x i hi=>by rw[q.idxOf_getElem i hi]
 refine EI (f:=fun x=>P.map fun p=>x.getD (P.idxOf p) 0-cmb (Classical.choose (b x)) R p+((P.length*M:Nat):Int)) (oE _) (fun x hx=>?_) fun x hx y hy e=>?_
 ·refine lA.mpr ⟨Aa _,fun z hz=>?_⟩
  obtain⟨p,hp,rfl⟩:=List.mem_map.mp hz;have:=(Classical.choose_spec (b x)).2 p hp;rw[show P.length*M=R.length*M by rw[l]];generalize cmb (Classical.choose (b x)) R p=z at this ⊢;generalize R.length*M=A at this ⊢;(first|lia|omega)
 ·obtain⟨d,c⟩:=jf.mp hx
  obtain⟨o,w⟩:=jf.mp hy;rw[Aa] at d o;obtain⟨C,_⟩:=Classical.choose_spec (b x);obtain⟨D,_⟩:=Classical.choose_spec (b y);have sp:Sp R fun u=>cmb (Classical.choose (b x)) R u-1*cmb (Classical.choose (b y)) R u:=(show Sp R (cmb (Classical.choose (b x)) R) from⟨_,C,fun _=>rfl⟩).sub ⟨_,D,fun _=>rfl⟩ 1;have s:∀p∈P,cmb (Classical.choose (b x)) R p-1*cmb (Classical.choose (b y)) R p=x.getD (P.idxOf p) 0-y.getD (P.idxOf p) 0:=fun p hp=>by
   have:=(List.map_inj_left.mp e) p hp;(first|lia|omega)
  have bd:∀(x:List Int),(∀(i:Nat) z t,x[i]?=some z->(P.map fun p=>(f p p).toNat)[i]?=some t->0<=z/\z<(t:Int))->x.length=P.length->∀p∈P,0<=x.getD (P.idxOf p) 0/\x.getD (P.idxOf p) 0<((f p p).toNat:Int):=fun x c d p hp=>by
   obtain⟨i,a,rfl⟩:=A9 hp;rw[g x i a,Ac,Ab ω];exact c i _ _ (Ab ω) (by rw[Aj,Ab a];rfl)
  have z:=MQ h j v sp fun p hp=>by
   have h1:=bd x c d p hp;have h2:=bd y w o p hp
   have H:=h.pos p hp;have E:=s p hp;show(cmb (Classical.choose (b x)) R p-1*cmb (Classical.choose (b y)) R p).natAbs<_;rw[E];(first|lia|omega)
  refine AT ω fun i h1 h2=>?_;have a:i<P.length:=ω
  have:=z P[i] (Az a);have e2:=s P[i] (Az a);rw[g x i a,g y i a,Ac,Ac,Ab h1,Ab h2] at e2;have F:cmb (Classical.choose (b x)) R P[i]-1*cmb (Classical.choose (b y)) R P[i]=0:=this;rw[F] at e2;show x[i]=y[i];have e3:(some x[i]).getD 0=x[i]:=rfl;have I:(some y[i]).getD 0=y[i]:=rfl;(first|lia|omega)
noncomputable def sm(ρ:Nat->Vc)(c:Nat->Int):Nat->Nat->Int
 |0,_=>0
 |j+1,u=>sm ρ c j u+c j*ρ j u
def CP{ρ:Nat->Vc}{c:Vc}(u:Nat):∀j,cmb (lst j c) ((Ah j).map ρ) u=sm ρ c j u
 |0=>rfl
 |j+1=>by rw[HZ,CP u j];rfl
def H_(c:List Int):lst c.length (vl c)=c:=range_getD c
def uv{ρ:Nat->Vc}{c:Vc}{u:Nat}:∀j,(∀i,i<j->c i*ρ i u=0)->sm ρ c j u=0
 |0,_=>rfl
 |j+1,h=>by show sm ρ c j u+c j*ρ j u=0;rw[uv j fun i hi=>h i ω,h j ω];rfl
def uw{ρ:Nat->Vc}{c:Vc}{u:Nat}:∀(n j:Nat),(∀i,j<=i->i<j+n->c i*ρ i u=0)->sm ρ c (j+n) u=sm ρ c j u
 |0,_,_=>rfl
 |n+1,j,h=>by show sm ρ c (j+n) u+c (j+n)*ρ (j+n) u=_;rw[uw n j fun i h1 h2=>h i h1 ω,h (j+n) ω ω];(first|lia|omega)
noncomputable def sd(ρ:Nat->Vc)(c:Nat->Int)(m:Nat):Nat->Nat->Int
 |0,_=>0
 |n+1,u=>sd ρ c m n u+c (m-1-n)*ρ (m-1-n) u
def Ia{ρ:Nat->Vc}{c:Vc}{m u:Nat}:∀n,n<=m->sm ρ c m u=sm ρ c (m-n) u+sd ρ c m n u
 |0,_=>by show _=sm ρ c m u+0;(first|lia|omega)
 |n+1,h=>by
  rw[Ia n ω];have e:m-n=(m-1-n)+1:=ω
  have e2:m-(n+1)=m-1-n:=ω
  rw[e,e2];show sm ρ c (m-1-n) u+c (m-1-n)*ρ (m-1-n) u+sd ρ c m n u=sm ρ c (m-1-n) u+(sd ρ c m n u+c (m-1-n)*ρ (m-1-n) u);(first|lia|omega)
structure Tri(k r w M g:Nat)(ρ:Nat->Vc)(Q:Nat->Nat):Prop where
 g1:1<=g
 rk:r<=k
 rw:r<=w
 qs:∀a b,a<b->b<k-r->Q a<Q b
 qw:∀a,a<k-r->w<=Q a
 tp:∀i,i<r->0<ρ i i
 tz:∀i j,i<r->i<j->j<w->ρ i j=0
 tl:∀i j,i<r->j<i->(ρ i j).natAbs<=(ρ i i).natAbs
 tq:∀i a,i<r->a<k-r->(ρ i (Q a)).natAbs<=g*(ρ (r+a) (Q a)).natAbs
 kz:∀a u,a<k-r->u<Q a->ρ (r+a) u=0
 kp:∀a,a<k-r->0<ρ (r+a) (Q a)
 kq:∀a b,a<b->b<k-r->0<=ρ (r+a) (Q b)/\ρ (r+a) (Q b)<ρ (r+b) (Q b)
 tm:∀i,i<r->(ρ i i).natAbs<=M
 km:∀a,a<k-r->g*(ρ (r+a) (Q a)).natAbs<=M
section
variable{k r w M g:Nat}{ρ:Nat->Vc}{Q:Nat->Nat}
def Tri.low(T:Tri k r w M g ρ Q){a u:Nat}(b:a<k-r)(c:u<w):ρ (r+a) u=0:=T.kz a u b (AC c (T.qw a b))
noncomputable def sa(ρ:Nat->Vc)(c:Nat->Int)(m:Nat):Nat->Nat
 |0=>0
 |n+1=>sa ρ c m n+(c (m-1-n)).natAbs*(ρ (m-1-n) (m-1-n)).natAbs
def Tri.top_le(T:Tri k r w M g ρ Q){c:Vc}{m V:Nat}(j:m<=r)(f:∀i,i<m->(sm ρ c m i).natAbs<=V):∀n,n<=m->sa ρ c m n+V<=V*2 ^ n
 |0,_=>by show 0+V<=V*1;(first|lia|omega)
 |n+1,h=>by
  have d:=Tri.top_le T j f n ω;have hi:m-1-n<m:=ω
  have o:(sd ρ c m n (m-1-n)).natAbs<=sa ρ c m n:=by
   have:∀a,a<=n->(sd ρ c m a (m-1-n)).natAbs<=sa ρ c m a:=by
    intro a
    induction a with
    |zero=>intro _;exact Ad 0
    |succ a d=>
     intro l;have h1:=d ω;have h2:=T.tl (m-1-a) (m-1-n) ω ω;have p:(c (m-1-a)*ρ (m-1-a) (m-1-n)).natAbs<=(c (m-1-a)).natAbs*(ρ (m-1-a) (m-1-a)).natAbs:=by rw[AI];exact Al _ h2
     have q:=Int.natAbs_add_le (sd ρ c m a (m-1-n)) (c (m-1-a)*ρ (m-1-a) (m-1-n));show(sd ρ c m a (m-1-n)+c (m-1-a)*ρ (m-1-a) (m-1-n)).natAbs<=sa ρ c m a+_;(first|lia|omega)
   exact this n (Ad _)
  have e:sm ρ c m (m-1-n)=c (m-1-n)*ρ (m-1-n) (m-1-n)+sd ρ c m n (m-1-n):=by
   rw[Ia n ω,show m-n=(m-1-n)+1 from ω];show sm ρ c (m-1-n) (m-1-n)+_+_=_;rw[uv (m-1-n) fun i b=>by rw[T.tz i (m-1-n) ω b (by have:=T.rw;(first|lia|omega)),Int.mul_zero]];(first|lia|omega)
  have s:=f (m-1-n) hi;have u:(c (m-1-n)).natAbs*(ρ (m-1-n) (m-1-n)).natAbs<=V+sa ρ c m n:=by
   rw[<-AI];(first|lia|omega)
  show sa ρ c m n+(c (m-1-n)).natAbs*(ρ (m-1-n) (m-1-n)).natAbs+V<=V*2 ^ (n+1);rw[Nat.pow_succ,<-AQ];(first|lia|omega)
noncomputable def sc(c:Nat->Int):Nat->Nat
 |0=>0
 |n+1=>sc c n+(c n).natAbs
def MS{c:Vc}{n i:Nat}(h:i<n):(c i).natAbs<=sc c n:=by
 induction n with
 |zero=>(first|lia|omega)
 |succ n ih=>
  show _<=sc c n+(c n).natAbs
  by_cases e:i=n
  ·subst e;(first|lia|omega)
  ·have:=ih ω;(first|lia|omega)
def Tri.top_sum(T:Tri k r w M g ρ Q){c:Vc}{m V:Nat}(a:m<=r)(b:∀i,i<m->(sm ρ c m i).natAbs<=V):sc c m+V<=V*2 ^ m:=by
 have h1:=T.top_le a b m (Ad _);have h2:∀n,n<=m->sc c m<=sc c (m-n)+sa ρ c m n:=by
  intro n
  induction n with
  |zero=>intro _;exact Ad _
  |succ n ih=>
   intro d;have:=ih ω;have hp:=T.tp (m-1-n) ω;rw[show m-n=(m-1-n)+1 from ω] at this;rw[show m-(n+1)=m-1-n from ω];have e:(c (m-1-n)).natAbs*1<=(c (m-1-n)).natAbs*(ρ (m-1-n) (m-1-n)).natAbs:=Al _ ω;show sc c m<=sc c (m-1-n)+(sa ρ c m n+_);have f:sc c (m-1-n+1)=sc c (m-1-n)+(c (m-1-n)).natAbs:=rfl;(first|lia|omega)
 have:=h2 m (Ad _);rw[Nat.sub_self] at this;have:sc c 0=0:=rfl;(first|lia|omega)
def Ib{c:Vc}{u K:Nat}:∀n,(∀i,i<n->(ρ i u).natAbs<=K)->(sm ρ c n u).natAbs<=K*sc c n
 |0,_=>Aw _
 |n+1,h=>by
  have h1:=Ib (c:=c) n fun i hi=>h i ω;have h2:(c n*ρ n u).natAbs<=K*(c n).natAbs:=by rw[AI,Nat.mul_comm];exact Am _ (h n ω)
  have a:=Int.natAbs_add_le (sm ρ c n u) (c n*ρ n u);show(sm ρ c n u+c n*ρ n u).natAbs<=K*(sc c n+(c n).natAbs);rw[Nat.mul_add];(first|lia|omega)
def Tri.all_sum(T:Tri k r w M g ρ Q){c:Vc}{V:Nat}:∀n,n<=k-r->(∀i,i<r->(sm ρ c (r+n) i).natAbs<=V)->(∀a,a<n->(sm ρ c (r+n) (Q a)).natAbs<=V)->sc c (r+n)+V<=V*2 ^ r*(1+g) ^ n:=by
 intro n;have base:∀n,n<=k-r->(∀i,i<r->(sm ρ c (r+n) i).natAbs<=V)->sc c r+V<=V*2 ^ r:=fun n h d=>T.top_sum (Ad r) fun i hi=>by
  have:=d i hi
  rwa [uw n r fun j h1 h2=>by
   have:=T.low (a:=j-r) (u:=i) ω (by have:=T.rw;(first|lia|omega));rw[show r+(j-r)=j from ω] at this;rw[this,Int.mul_zero]] at this
 intro h d hq;have hb:=base n h d;have:∀b,b<=n->sc c (r+b)+V<=V*2 ^ r*(1+g) ^ b:=by
  intro b
  induction b with
  |zero=>intro _;rw[Nat.pow_zero,Nat.mul_one];exact hb
  |succ b ih=>
   intro p;have h1:=ih ω;have hp:=T.kp b ω;have e:sm ρ c (r+n) (Q b)=sm ρ c (r+b) (Q b)+c (r+b)*ρ (r+b) (Q b):=by
    have:=uw (ρ:=ρ) (c:=c) (u:=Q b) (n-(b+1)) (r+(b+1)) fun j h1 h2=>by
     have:=T.kz (j-r) (Q b) ω (T.qs b (j-r) ω ω);rw[show r+(j-r)=j from ω] at this;rw[this,Int.mul_zero]
    rw[show r+(b+1)+(n-(b+1))=r+n from ω] at this;rw[this];rfl
   have h2:(sm ρ c (r+b) (Q b)).natAbs<=(g*(ρ (r+b) (Q b)).natAbs)*sc c (r+b):=Ib (r+b) fun i hi=>by
    by_cases f:i<r
    ·exact T.tq i b f ω
    ·have:=T.kq (i-r) b ω ω
     rw[show r+(i-r)=i from ω] at this;have:1*(ρ (r+b) (Q b)).natAbs<=g*(ρ (r+b) (Q b)).natAbs:=Am _ T.g1;(first|lia|omega)
   have q:=hq b ω;have o:(c (r+b)).natAbs*(ρ (r+b) (Q b)).natAbs<=V+(g*(ρ (r+b) (Q b)).natAbs)*sc c (r+b):=by
    rw[<-AI];(first|lia|omega)
   generalize hκ:(ρ (r+b) (Q b)).natAbs=κ at h2 o;have l:1<=κ:=ω
   have s:(c (r+b)).natAbs<=V+g*sc c (r+b):=by
    have:κ*(c (r+b)).natAbs<=κ*(V+g*sc c (r+b)):=by
     rw[Nat.mul_add,Nat.mul_comm κ (c (r+b)).natAbs,<-AQ,Nat.mul_comm κ g];have:V<=κ*V:=Nat.le_mul_of_pos_left _ l;(first|lia|omega)
    exact Nat.le_of_mul_le_mul_left this l
   show sc c (r+b)+(c (r+b)).natAbs+V<=V*2 ^ r*(1+g) ^ (b+1);rw[Nat.pow_succ,<-AQ];have v:(sc c (r+b)+V)*(1+g)<=V*2 ^ r*(1+g) ^ b*(1+g):=Am _ h1;have x:(sc c (r+b)+V)*(1+g)=sc c (r+b)+V+(g*sc c (r+b)+g*V):=by rw[Nat.mul_add,Nat.mul_one,Nat.mul_comm _ g,Nat.mul_add]
   have y:1*V<=g*V:=Am _ T.g1;(first|lia|omega)
 exact this n (Ad _)
end
def uB:∀(a b:List Nat),pr (a++b)=pr a*pr b
 |[],b=>by show pr b=1*pr b;(first|lia|omega)
 |t::a,b=>by show t*pr (a++b)=t*pr a*pr b;rw[uB a b,AQ]
def Ie(g:Nat->Vc)(k:Nat):tn g (k+1)=tn g k++[(g k k).toNat]:=by unfold tn;rw[List.range_succ,Ao];rfl
def oN{g:Nat->Vc}:∀{k:Nat},(∀i,i<k->0<g i i)->1<=pr (tn g k)
 |0,_=>Ad _
 |k+1,h=>by
  rw[Ie,uB];have h1:=oN (k:=k) fun i hi=>h i ω;have h2:=h k ω;exact ol h1 (by show 1<=(g k k).toNat*1;(first|lia|omega))
def EL{g:Nat->Vc}{k:Nat}(h:∀i,i<k+1->0<g i i):(g k k).toNat<=pr (tn g (k+1)):=by
 rw[Ie,uB];have:=oN (k:=k) fun i hi=>h i ω;show _<=pr (tn g k)*((g k k).toNat*1);rw[Nat.mul_one];exact Nat.le_mul_of_pos_left _ this
section
variable{k r w M g:Nat}{ρ:Nat->Vc}{Q:Nat->Nat}
noncomputable def pl(r j:Nat)(Q:Nat->Nat):List Nat:=Ah (min j r)++(Ah (j-r)).map Q
def Ig{j:Nat}:(pl r j Q).length=j:=by unfold pl;rw[AU,A8,Aa,A8];(first|lia|omega)
def Tri.sum_le(T:Tri k r w M g ρ Q){j V:Nat}{c:Vc}(e:j<=k)(b:∀p∈pl r j Q,(sm ρ c j p).natAbs<=V):sc c j+V<=V*(1+g) ^ j:=by
 rcases Be j r with h|h
 ·have:=T.top_sum (m:=j) ω fun i hi=>b i (List.mem_append_left _ (List.mem_range.mpr ω))
  have g2:2 ^ j<=(1+g) ^ j:=Nat.pow_le_pow_left (by have:=T.g1;(first|lia|omega)) _;exact Ag this (Al _ g2)
 ·have:=T.all_sum (c:=c) (V:=V) (j-r) ω (fun i hi=>?_) fun a d=>?_
  ·rw[show r+(j-r)=j from ω] at this
   have g2:2 ^ r<=(1+g) ^ r:=Nat.pow_le_pow_left (by have:=T.g1;(first|lia|omega)) _;have g3:V*2 ^ r*(1+g) ^ (j-r)<=V*(1+g) ^ r*(1+g) ^ (j-r):=Am _ (Al _ g2);rw[AQ V ((1+g) ^ r),<-Nat.pow_add,show r+(j-r)=j from ω] at g3;exact Ag this g3
  ·rw[show r+(j-r)=j from ω]
   exact b i (List.mem_append_left _ (List.mem_range.mpr ω))
  ·rw[show r+(j-r)=j from ω]
   exact b (Q a) (AE _ (List.mem_map.mpr ⟨a,List.mem_range.mpr d,rfl⟩))
def Tri.lead(T:Tri k r w M g ρ Q){j p:Nat}{c:Vc}(H:j<=k)(hz:∀u,u<p->sm ρ c j u=0)(hp:sm ρ c j p≠0):p∈pl r j Q:=by
 by_cases C:∃i,i<min j r/\c i≠0
 ·-- eG f row of eG slope that stands there
  have f:∀m,m<=min j r->(∃i,i<m/\c i≠0)->∃i,i<m/\c i≠0/\∀d,i<d->d<m->c d=0:=by
   intro m
   induction m with
   |zero=>rintro _ ⟨i,hi,_⟩;(first|lia|omega)
   |succ m ih=>
    rintro G ⟨i,hi,hc⟩
    by_cases e:c m=0
    ·obtain⟨d,h1,h2,q⟩:=ih ω ⟨i,by rcases Be i m with h|h;exact h;exact absurd (show c i=0 by rw[show i=m from ω];exact e) hc,hc⟩
     exact⟨d,ω,h2,fun y D E=>by by_cases e2:y=m;rw[e2];exact e;exact q y D ω⟩
    ·exact⟨m,ω,e,fun d h1 h2=>ω⟩
  obtain⟨i,hi,hc,s⟩:=f _ (Ad _) C;have v:i<r:=ω
  have e:sm ρ c j i=c i*ρ i i:=by
   have h1:=uw (ρ:=ρ) (c:=c) (u:=i) (j-(i+1)) (i+1) fun d h1 h2=>by
    by_cases h:d<r
    ·rw[s d ω ω,Int.zero_mul]
    ·have:=T.low (a:=d-r) (u:=i) ω (by have:=T.rw;(first|lia|omega))
     rw[show r+(d-r)=d from ω] at this;rw[this,Int.mul_zero]
   rw[show i+1+(j-(i+1))=j from ω] at h1;rw[h1];show sm ρ c i i+c i*ρ i i=_;rw[uv i fun d l=>by rw[T.tz d i ω l (by have:=T.rw;(first|lia|omega)),Int.mul_zero]];(first|lia|omega)
  have x:sm ρ c j i≠0:=by rw[e];exact Int.mul_ne_zero hc (by have:=T.tp i v;(first|lia|omega))
  have:p<=i:=by
   rcases Be i p with h|h
   ·exact absurd (hz i h) x
   ·exact h
  exact List.mem_append_left _ (List.mem_range.mpr ω)
 ·have A:∀i,i<min j r->c i=0:=fun i hi=>AA fun z=>C ⟨i,hi,z⟩
  have first:∀n,(∃a,a<n/\c (r+a)≠0)->∃a,a<n/\c (r+a)≠0/\∀b,b<a->c (r+b)=0:=by
   intro n
   induction n with
   |zero=>rintro⟨a,o,_⟩;(first|lia|omega)
   |succ n ih=>
    rintro⟨a,o,hc⟩
    by_cases h:∃a,a<n/\c (r+a)≠0
    ·obtain⟨a',h1,h2,q⟩:=ih h
     exact⟨a',ω,h2,q⟩
    ·exact⟨a,o,hc,fun b hb=>AA fun z=>h ⟨b,ω,z⟩⟩
  have ex:∃a,a<j-r/\c (r+a)≠0:=AA fun no=>hp (uv j fun i hi=>by
   by_cases h:i<r
   ·rw[A i ω,Int.zero_mul]
   ·have:c (r+(i-r))=0:=AA fun z=>no ⟨i-r,ω,z⟩
    rw[show r+(i-r)=i from ω] at this;rw[this,Int.zero_mul])
  obtain⟨a,o,hc,s⟩:=first _ ex;have e:∀u,u<=Q a->sm ρ c j u=c (r+a)*ρ (r+a) u:=fun u F=>by
   have h1:=uw (ρ:=ρ) (c:=c) (u:=u) (j-(r+a+1)) (r+a+1) fun d h1 h2=>by
    have:=T.kz (d-r) u ω (by have:=T.qs a (d-r) ω ω;(first|lia|omega));rw[show r+(d-r)=d from ω] at this;rw[this,Int.mul_zero]
   rw[show r+a+1+(j-(r+a+1))=j from ω] at h1;rw[h1];show sm ρ c (r+a) u+c (r+a)*ρ (r+a) u=_;rw[uv (r+a) fun d l=>by
    by_cases h:d<r
    ·rw[A d ω,Int.zero_mul]
    ·have:=s (d-r) ω
     rw[show r+(d-r)=d from ω] at this;rw[this,Int.zero_mul]]
   (first|lia|omega)
  have hk:=T.kp a ω;have e1:p=Q a:=by
   rcases Nat.lt_trichotomy p (Q a) with h|h|h
   ·exact absurd (by rw[e p ω,T.kz a p ω h,Int.mul_zero]) hp
   ·exact h
   ·exact absurd (by rw[<-e (Q a) (Ad _)];exact hz (Q a) h) (Int.mul_ne_zero hc (show ρ (r+a) (Q a)≠0 from ω))
  rw[e1];exact AE _ (List.mem_map.mpr ⟨a,List.mem_range.mpr o,rfl⟩)
def Tri.rows_le(T:Tri k r w M g ρ Q){j i p:Nat}(l:j<=k)(hi:i<j)(hp:p∈pl r j Q):(ρ i p).natAbs<=M:=by
 rcases List.mem_append.mp hp with h|h
 ·have h:=List.mem_range.mp h
  by_cases b:i<r
  ·have:=T.tm i b
   rcases Nat.lt_trichotomy p i with g|g|g
   ·have:=T.tl i p b g;(first|lia|omega)
   ·subst g;exact this
   ·rw[T.tz i p b g (by have:=T.rw;(first|lia|omega))];exact Aw _
  ·have:=T.low (a:=i-r) (u:=p) ω (by have:=T.rw;(first|lia|omega))
   rw[show r+(i-r)=i from ω] at this;rw[this];exact Aw _
 ·obtain⟨a,c,rfl⟩:=List.mem_map.mp h
  have c:=List.mem_range.mp c;have d:=T.km a ω;have f:1*(ρ (r+a) (Q a)).natAbs<=g*(ρ (r+a) (Q a)).natAbs:=Am _ T.g1
  by_cases b:i<r
  ·have:=T.tq i a b ω;(first|lia|omega)
  ·rcases Nat.lt_trichotomy (i-r) a with g'|g'|g'
   ·have:=T.kq (i-r) a g' ω
    rw[show r+(i-r)=i from ω] at this;(first|lia|omega)
   ·have e:ρ i (Q a)=ρ (r+a) (Q a):=by rw[<-g',show r+(i-r)=i from ω]
    rw[e];(first|lia|omega)
   ·have:=T.kz (i-r) (Q a) ω (T.qs a (i-r) g' ω)
    rw[show r+(i-r)=i from ω] at this;rw[this];exact Aw _
def Ih(T:Tri k r w M g ρ Q){N B:Nat}(W:∀a,a<k-r->(ρ (r+a) (Q a)).natAbs<=B)(X:∀m,m<=r->pr (tn ρ m)<=B)(hk:k<=N){j:Nat}(F:j<=k):Bd N M ((1+g) ^ N) B ((Ah j).map ρ):=by
 have o:((Ah j).map ρ).length=j:=by simp
 have D:∀(c:List Int),c.length=j->∀u,cmb c ((Ah j).map ρ) u=sm ρ (vl c) j u:=fun c hc u=>by
  have:=CP (ρ:=ρ) (c:=vl c) u j;rw[<-hc,H_] at this;rw[<-hc];exact this
 have small:∀(c:List Int)(V:Nat),c.length=j->(∀p∈pl r j Q,(cmb c ((Ah j).map ρ) p).natAbs<=V)->∀x∈c,x.natAbs<=V*(1+g) ^ j:=fun c V hc d x hx=>by
  have h1:=T.sum_le (c:=vl c) F fun p hp=>by rw[<-D c hc];exact d p hp
  obtain⟨i,hi,rfl⟩:=A9 hx;have h2:=MS (c:=vl c) (n:=j) (i:=i) ω;have e:vl c i=c[i]:=by unfold vl;rw[Ac,Ab hi];rfl
  rw[e] at h2;(first|lia|omega)
 have ind:i7 ((Ah j).map ρ):=fun c hc hz x hx=>by
  have:=small c 0 (by rw[hc,o]) (fun p _=>by rw[hz];exact Ad 0) x hx;(first|lia|omega)
 refine⟨ind,fun P f h y G H J=>?_⟩;rw[o] at J;have S:P.Nodup:=y.imp fun h=>AB h;have sub:∀p∈P,p∈pl r j Q:=fun p hp=>by
  obtain⟨c,hc,e⟩:=H p hp;rw[o] at hc;refine T.lead (c:=vl c) F (fun u L=>?_) ?_
  ·rw[<-D c hc,<-e];exact h.z p hp u L
  ·rw[<-D c hc,<-e];have:=h.pos p hp;(first|lia|omega)
 have l:∀p∈pl r j Q,p∈P:=fun p hp=>AA fun z=>by
  have E:(p::P).Nodup:=List.nodup_cons.mpr ⟨z,S⟩;have:=E.length_le_of_subset (l₂:=pl r j Q) fun x hx=>by
   rcases List.mem_cons.mp hx with rfl|hx
   ·exact hp
   ·exact sub x hx
  rw[Ig,AN] at this;(first|lia|omega)
 refine⟨fun p hp=>?_,fun s O p hp=>?_,fun c V hc d x hx=>?_⟩
 ·rcases List.mem_append.mp (sub p hp) with hg|hg
  ·have hg:=List.mem_range.mp hg
   have two:Two (Sp ((Ah j).map ρ)) (min j r) ρ f:=by
    have b:∀i,i<min j r->i∈P:=fun i hi=>l i (List.mem_append_left _ (List.mem_range.mpr hi));refine⟨⟨Sp.zero,fun m d hw=>d.sub hw m⟩,fun i hi=>Sp.mem (List.mem_map.mpr ⟨i,List.mem_range.mpr ω,rfl⟩),fun i hi=>T.tp i ω,fun i A h1 h2=>T.tz i A ω h1 (by have:=T.rw;(first|lia|omega)),fun i hi=>H i (b i hi),fun i hi=>h.pos i (b i hi),fun i A hi C=>h.z i (b i hi) A C,fun v i d hi hz=>?_⟩;exact jP h y (b i hi) (d.trans G) fun q _ hq=>hz q hq
   have h1:=EK two (k:=p+1) ω;have h2:=EL (g:=f) (k:=p) fun i hi=>two.fp i ω;have Y:=X (p+1) ω;have Z:=h.pos p hp;(first|lia|omega)
  ·obtain⟨a,I,rfl⟩:=List.mem_map.mp hg
   have I:=List.mem_range.mp I;have sp:Sp (P.map f) (ρ (r+a)):=G _ (List.mem_map.mpr ⟨r+a,List.mem_range.mpr ω,rfl⟩);have hd:=jP h y hp sp fun q _ hq=>T.kz a q ω hq;have gi:=T.kp a ω;have:=Nat.le_of_dvd ω (Int.natAbs_dvd_natAbs.mpr hd);have:=W a ω;(first|lia|omega)
 ·obtain⟨i,hi,rfl⟩:=List.mem_map.mp O
  exact T.rows_le F (List.mem_range.mp hi) (sub p hp)
 ·rw[o] at hc
  refine Ag (small c V hc (fun p hp=>d p (l p hp)) x hx) ?_;have h1:(1+g) ^ j<=(1+g) ^ N:=AJ ω ω;have h2:V*(1+g) ^ j<=V*(1+g) ^ N:=Al _ h1;have U:1<=N:=by
   have:0<c.length:=List.length_pos_of_mem hx;(first|lia|omega)
  exact Ag h2 (Nat.le_mul_of_pos_left _ U)
end
section
variable{k r w M g N X B:Nat}{ρ f:Nat->Vc}{Q:Nat->Nat}{P:List Nat}
def MT{l m:List Nat}(h1:l.Pairwise (·<·))(h2:m.Pairwise (·<·))(h:∀x,x∈l↔x∈m):l=m:=
 List.Perm.eq_of_pairwise (le:=fun a b=>a<=b) (fun a b _ _ g1 g2=>Nat.le_antisymm g1 g2) (h1.imp fun h=>Nat.le_of_lt h) (h2.imp fun h=>Nat.le_of_lt h) ((List.perm_ext_iff_of_nodup (h1.imp fun h=>ω) (h2.imp fun h=>ω)).mpr h)
def Tri.pl_srt(T:Tri k r w M g ρ Q){j:Nat}(d:j<=k):(pl r j Q).Pairwise (·<·):=by
 unfold pl;rw[List.pairwise_append,List.pairwise_map];refine⟨List.pairwise_lt_range,List.pairwise_lt_range.imp_of_mem fun{a b} c hb h=>T.qs a b h (by have:=List.mem_range.mp hb;(first|lia|omega)),fun x hx y hy=>?_⟩;obtain⟨a,c,rfl⟩:=List.mem_map.mp hy;have:=List.mem_range.mp hx;have:=List.mem_range.mp c;have:=T.qw a ω;have:=T.rw;(first|lia|omega)
def Tri.places(T:Tri k r w M g ρ Q){j:Nat}(d:j<=k)(h:Ech P f)(i:P.Pairwise (·<·))(o:∀p∈P,Sp ((Ah j).map ρ) (f p))(q:P.length=j):P=pl r j Q:=by
 have sub:∀p∈P,p∈pl r j Q:=fun p hp=>by
  obtain⟨c,hc,e⟩:=o p hp;have hc:c.length=j:=by simpa using hc
  have b:∀u,cmb c ((Ah j).map ρ) u=sm ρ (vl c) j u:=fun u=>by
   have:=CP (ρ:=ρ) (c:=vl c) u j;rw[<-hc,H_] at this;rw[<-hc];exact this
  refine T.lead (c:=vl c) d (fun u l=>?_) ?_
  ·rw[<-b,<-e];exact h.z p hp u l
  ·rw[<-b,<-e];have:=h.pos p hp;(first|lia|omega)
 refine MT i (T.pl_srt d) fun x=>⟨sub x,fun hx=>AA fun z=>?_⟩;have a:(x::P).Nodup:=List.nodup_cons.mpr ⟨z,i.imp fun h=>AB h⟩;have:=a.length_le_of_subset (l₂:=pl r j Q) fun y hy=>by
  rcases List.mem_cons.mp hy with rfl|hy
  ·exact hx
  ·exact sub y hy
 rw[Ig,AN] at this;(first|lia|omega)
structure Ii(k r w:Nat)(ρ f:Nat->Vc)(Q:Nat->Nat):Prop where
 fi:∀i,i<r->Sp ((Ah k).map ρ) (f i)
 fq:∀a,a<k-r->Sp ((Ah k).map ρ) (f (Q a))
 fz:∀i u,i<r->u<i->f i u=0
 fp:∀i,i<r->0<f i i
 fr:∀i j,i<j->j<r->0<=f i j/\f i j<f j j
 fo:∀i u,i<r->r<=u->u<w->f i u=0
 qz:∀a u,a<k-r->u<Q a->f (Q a) u=0
 qp:∀a,a<k-r->0<f (Q a) (Q a)
 qr:∀a b,a<b->b<k-r->0<=f (Q a) (Q b)/\f (Q a) (Q b)<f (Q b) (Q b)
 ir:∀i a,i<r->a<k-r->0<=f i (Q a)/\f i (Q a)<f (Q a) (Q a)
 qd:∀a,a<k-r->(f (Q a) (Q a)).natAbs<=(ρ (r+a) (Q a)).natAbs
 le:∀m,m<=r->pr (tn f m)<=pr (tn ρ m)
 hv:(∃m,m<=r/\2*pr (tn f m)<=pr (tn ρ m))\/∀i,i<r->f i i=ρ i i/\∀j,j<r->j≠i->f i j=0
def Tri.round(T:Tri k r w M g ρ Q)(F:FS N M X B ((Ah k).map ρ) P f):P=pl r k Q/\Ii k r w ρ f Q:=by
 have E:((Ah k).map ρ).length=k:=by simp
 have G:P.length=k:=by rw[F.len,E]
 have sp:∀p∈P,Sp ((Ah k).map ρ) (f p):=fun p hp=>(F.fr p hp).sp;have e:=T.places (Ad k) F.ech F.srt sp G;have rk:=T.rk;have i1:∀i,i<r->i∈P:=fun i hi=>by rw[e];exact List.mem_append_left _ (List.mem_range.mpr ω)
 have i2:∀a,a<k-r->Q a∈P:=fun a d=>by rw[e];exact AE _ (List.mem_map.mpr ⟨a,List.mem_range.mpr d,rfl⟩)
 have two:Two (Sp ((Ah k).map ρ)) r ρ f:=by
  refine⟨⟨Sp.zero,fun m l hw=>l.sub hw m⟩,fun i hi=>Sp.mem (List.mem_map.mpr ⟨i,List.mem_range.mpr ω,rfl⟩),fun i hi=>T.tp i hi,fun i s h1 h2=>T.tz i s ω h1 (by have:=T.rw;(first|lia|omega)),fun i hi=>sp i (i1 i hi),fun i hi=>F.ech.pos i (i1 i hi),fun i s hi x=>F.ech.z i (i1 i hi) s x,fun v i l hi hz=>?_⟩;exact jP F.ech F.srt (i1 i hi) (l.trans F.gen) fun q _ hq=>hz q hq
 have o:∀i j,i<j->j<r->0<=f i j/\f i j<f j j:=fun i j h1 h2=>F.red i (i1 i ω) j (i1 j h2) h1;refine⟨e,fun i hi=>sp i (i1 i hi),fun a d=>sp _ (i2 a d),fun i u hi y=>F.ech.z i (i1 i hi) u y,fun i hi=>F.ech.pos i (i1 i hi),o,fun i u hi h1 h2=>?_,fun a u d y=>F.ech.z _ (i2 a d) u y,fun a d=>F.ech.pos _ (i2 a d),fun a b h1 h2=>F.red _ (i2 a ω) _ (i2 b h2) (T.qs a b h1 h2),fun i a hi d=>F.red i (i1 i hi) _ (i2 a d) (by have:=T.qw a d;have:=T.rw;(first|lia|omega)),fun a d=>?_,fun m C=>EK two C,ut two o⟩
 ·obtain⟨c,hc,D⟩:=sp i (i1 i hi)
  rw[D];refine zM _ _ fun v l=>?_;obtain⟨j,A,rfl⟩:=List.mem_map.mp l;have A:=List.mem_range.mp A
  by_cases h:j<r
  ·exact T.tz j u h ω h2
  ·have:=T.low (a:=j-r) (u:=u) ω h2
   rwa [show r+(j-r)=j from ω] at this
 ·have hd:=jP F.ech F.srt (i2 a d) (F.gen (ρ (r+a)) (List.mem_map.mpr ⟨r+a,List.mem_range.mpr ω,rfl⟩)) fun q _ hq=>T.kz a q d hq
  have:=T.kp a d;exact Nat.le_of_dvd ω (Int.natAbs_dvd_natAbs.mpr hd)
end
def MU{f:Nat->Vc}{P:List Nat}{V:Nat}(h:Ech P f)(I:P.Pairwise (·<·))(F:∀p∈P,∀q∈P,p<q->0<=f p q/\f p q<f q q){l:Vc}(i:Sp (P.map f) l)(w:∀p∈P,(l p).natAbs<=V*(f p p).natAbs):∀x∈shr f P l,x.natAbs<=V*2 ^ P.length:=by
 have e:=EF h I i;generalize ha:shr f P l=a at e;have O:a.length=P.length:=by rw[<-ha,EE]
 have C:∀(P1 P2:List Nat)(a1 a2:List Int)(S:Nat),P=P1++P2->a=a1++a2->a1.length=P1.length->(∀x∈a1,x.natAbs<=S)->(∀p∈P2,(cmb a1 (P1.map f) p).natAbs<=S*(f p p).natAbs)->V+S<=V*2 ^ P1.length->∀x∈a2,x.natAbs<=V*2 ^ P.length:=by
  intro P1 P2
  induction P2 generalizing P1 with
  |nil=>
   intro a1 a2 S b o r _ _ _ x hx;have:a2.length=0:=by have:=congrArg List.length o;have h2:=congrArg List.length b;rw[AU] at this h2;simp at h2;(first|lia|omega)
   rw[AK this] at hx;cases hx
  |cons p P2 ih=>
   intro a1 a2 S b o r J G N x hx;cases a2 with
   |nil=>cases hx
   |cons y a2=>
    have hp:p∈P:=by rw[b];simp
    have g:=I;rw[b,List.pairwise_append,Ba] at g;have j:∀(c d:List Int)(A D:List Vc)(u:Nat),c.length=A.length->cmb (c++d) (A++D) u=cmb c A u+cmb d D u:=by
     intro c
     induction c with
     |nil=>intro d A D u i;rw[AK i.symm];show cmb d D u=0+cmb d D u;(first|lia|omega)
     |cons z c ih=>intro d A D u i;cases A with
      |nil=>simp at i
      |cons s A=>show z*s u+cmb (c++d) (A++D) u=z*s u+cmb c A u+cmb d D u;rw[ih d A D u (by simpa using i)];(first|lia|omega)
    have ep:l p=cmb a1 (P1.map f) p+y*f p p:=by
     rw[e,o,b,Ao,j _ _ _ _ _ (by rw[Aa,r])];show cmb a1 (P1.map f) p+(y*f p p+cmb a2 (P2.map f) p)=_;rw[zM a2 (P2.map f) fun v w=>by
      obtain⟨q,hq,rfl⟩:=List.mem_map.mp w;exact h.z q (by rw[b];simp[hq]) p (g.2.1.1 q hq)]
     (first|lia|omega)
    have H:=h.pos p hp;have hy:y.natAbs<=V+S:=by
     have L:=w p hp;have M:=G p (.head _);have E:y.natAbs*(f p p).natAbs<=V*(f p p).natAbs+S*(f p p).natAbs:=by rw[<-AI];(first|lia|omega)
     rw[<-Nat.add_mul] at E;exact Nat.le_of_mul_le_mul_right E ω
    have mono:V*2 ^ P1.length<=V*2 ^ P.length:=Al _ (AJ ξ (by rw[b];simp));rcases List.mem_cons.mp hx with rfl|hx
    ·(first|lia|omega)
    ·refine ih (P1++[p]) (a1++[y]) a2 (V+S+S) (by rw[b];simp) (by rw[o];simp) (by simp[r]) (fun z hz=>?_) (fun q hq=>?_) (by rw[AU,List.length_singleton,Nat.pow_succ,<-AQ];(first|lia|omega)) x hx
     ·rcases List.mem_append.mp hz with hz|hz
      ·have:=J z hz;(first|lia|omega)
      ·rw[List.mem_singleton.mp hz];(first|lia|omega)
     ·rw[Ao,j _ _ _ _ _ (by rw[Aa,r])]
      have L:=G q (.tail _ hq);have Q:=F p hp q (by rw[b];simp[hq]) (g.2.1.1 q hq);have M:(y*f p q).natAbs<=(V+S)*(f q q).natAbs:=by rw[AI];exact AO hy ω
      have E:=Int.natAbs_add_le (cmb a1 (P1.map f) q) (y*f p q);show(cmb a1 (P1.map f) q+(y*f p q+0)).natAbs<=(V+S+S)*(f q q).natAbs;rw[Int.add_zero,Nat.add_mul (V+S) S];(first|lia|omega)
 exact C [] P [] a 0 rfl rfl rfl (fun x hx=>nomatch hx) (fun p _=>Aw _) (by simp)
noncomputable def glue(m:Nat)(S W:Nat->Vc):Nat->Vc:=fun i u=>if u<m then S i u else W i (u-m)
def zS{m:Nat}{S W:Nat->Vc}{i u:Nat}(h:u<m):glue m S W i u=S i u:=if_pos h
def e_{m:Nat}{S W:Nat->Vc}{i t:Nat}:glue m S W i (m+t)=W i t:=by unfold glue;rw[if_neg ω,Nat.add_sub_cancel_left]
noncomputable def tl(n:Nat)(W:Nat->Vc):List Vc:=(Ah n).map W
def EM{m:Nat}:∀(c:List Int)(L:List Vc)(t:Nat),cmb c L (m+t)=cmb c (L.map fun l=>fun t=>l (m+t)) t
 |[],[],_=>rfl
 |[],_::_,_=>rfl
 |_::_,[],_=>rfl
 |a::c,l::L,t=>by show a*l (m+t)+cmb c L (m+t)=a*l (m+t)+_;rw[EM c L t]
section
variable{n m N M X B:Nat}{S W f:Nat->Vc}{P:List Nat}{Bc:List Vc}
noncomputable def lI(n:Nat)(sh:Ξ)(Bc:List Vc):List Vc:=(Ah n).map fun j=>fun s=>cmb (sh.map fun row=>row.getD j 0) Bc s
def BR:(tl n (glue m S W)).map (fun r=>fun t=>r (m+t))=tl n W:=by
 unfold tl;rw[AS];exact A4 fun i _=>funext fun t=>e_
def CQ(F:FS N M X B (tl n (glue m S W)) P f)(D:Both n (tl n W) Bc):Both n (P.map fun p=>fun t=>f p (m+t)) (lI n ((tl n (glue m S W)).map fun r=>shr f P r) Bc):=by
 have o:(tl n (glue m S W)).length=n:=by unfold tl;simp
 have g:P.length=n:=by rw[F.len,o]
 have v:=Dual.next (V:=P.map fun p=>fun t=>f p (m+t)) (sh:=(tl n (glue m S W)).map fun r=>shr f P r) D.a (by rw[Aa,g]) (by rw[Aa,o]) (fun row hr=>by
  obtain⟨r,_,rfl⟩:=List.mem_map.mp hr;rw[EE,g]) fun i u row t e hr h=>by
   unfold tl at e hr;rw[Aj] at e hr;obtain⟨j,b,rfl⟩:=Option.map_eq_some_iff.mp e;rw[Aj,b] at hr;obtain rfl:=AM hr;have w:glue m S W j∈tl n (glue m S W):=List.mem_map.mpr ⟨j,Ak b,rfl⟩;have:=EF F.ech F.srt (F.gen _ w) (m+t);rw[e_,EM,AS] at this;exact this
 refine MO v fun c hc hz x hx=>?_;have D':Both n ((tl n (glue m S W)).map fun r=>fun t=>r (m+t)) Bc:=by rw[BR];exact D
 obtain⟨d,hd,l⟩:Sp (tl n (glue m S W)) (cmb c (P.map f)):=Sp.cmb c _ fun s q=>by
  obtain⟨p,hp,rfl⟩:=List.mem_map.mp q;exact(F.fr p hp).sp
 have y:=D'.free hd fun t h=>by
  rw[<-l,EM,AS];exact hz t h
 exact Ev F.ech F.srt c (by rw[hc,g]) (fun p _=>by rw[l];exact lE d _ _ y) x hx
def MV(F:FS N M X B (tl n (glue m S W)) P f){A:Nat}(a:∀i t,i<n->(W i t).natAbs<=A):∀p∈P,∀t,(f p (m+t)).natAbs<=N*(cC N X B*A):=fun p hp t=>by
 have:=(F.fr p hp).le (u:=m+t) (M:=A) fun r hr=>by
  obtain⟨i,hi,rfl⟩:=List.mem_map.mp hr;rw[e_];exact a i t (List.mem_range.mp hi)
 exact Ag this (Am _ F.few)
def Sp.ind{R:List Vc}{v:Vc}(C:Vc->Prop)(d:C fun _=>0)(i:∀(a:Int)(x y:Vc),C x->C y->C fun u=>a*x u+y u)(b:∀r∈R,C r)(h:Sp R v):C v:=by
 obtain⟨c,_,e⟩:=h;have:∀(c:List Int)(R:List Vc),(∀r∈R,C r)->C (Tb.cmb c R):=by
  intro c
  induction c with
  |nil=>intro R _;cases R<;>exact d
  |cons a c ih=>intro R b;cases R with
   |nil=>exact d
   |cons r R=>exact i a r (Tb.cmb c R) (b r (.head _)) (ih R fun s f=>b s (.tail _ f))
 have g:=this c R b
 rwa [<-funext e] at g
end
def uF{k:Nat}{a b b':Vc}{x:Int}:dot k a (fun u=>x*b u+b' u)=x*dot k a b+dot k a b':=by
 induction k with
 |zero=>show(0:Int)=x*0+0;(first|lia|omega)
 |succ k ih=>
  show dot k a _+a k*(x*b k+b' k)=x*(dot k a b+a k*b k)+(dot k a b'+a k*b' k);rw[ih,Int.mul_add,Int.mul_add,Int.mul_left_comm];(first|lia|omega)
noncomputable def aT(k w:Nat)(A:Nat->Vc)(x y:Vc):Int:=dot k x fun s=>dot w (A s) y
def Ij{k w:Nat}{A:Nat->Vc}{a:Int}{x x' y:Vc}:aT k w A (fun u=>a*x u+x' u) y=a*aT k w A x y+aT k w A x' y:=by
 unfold aT;have:=EG (k:=k) (a:=x) (a':=x') (b:=fun s=>dot w (A s) y) (x:=a) (y:=1);rw[Int.one_mul] at this;rw[<-this];exact zR fun t _=>ω
def MW{k w:Nat}{A:Nat->Vc}{a:Int}{x y b:Vc}:aT k w A x (fun u=>a*y u+b u)=a*aT k w A x y+aT k w A x b:=by
 unfold aT;rw[<-uF];exact zB fun s _=>by show dot w (A s) (fun u=>a*y u+b u)=a*dot w (A s) y+dot w (A s) b;exact uF
def Ik{k w:Nat}{A:Nat->Vc}{y:Vc}:aT k w A (fun _=>0) y=0:=oD fun _ _=>rfl
def MX{k w:Nat}{A:Nat->Vc}{x:Vc}:aT k w A x (fun _=>0)=0:=by
 unfold aT;have:∀k,dot k x (fun s=>dot w (A s) fun _=>0)=0:=by
  intro k
  induction k with
  |zero=>rfl
  |succ k ih=>
   have z:dot w (A k) (fun _=>0)=0:=by
    have:∀w,dot w (A k) (fun _=>0)=0:=by intro w;induction w with|zero=>rfl|succ w ih=>show dot w (A k) _+A k w*0=0;rw[ih];(first|lia|omega)
    exact this w
   show dot k x _+x k*dot w (A k) (fun _=>0)=0;rw[ih,z];(first|lia|omega)
 exact this k
def Il{k w N M X B:Nat}{A T U V f:Nat->Vc}{P:List Nat}(F:FS N M X B (tl k (glue w (fun i u=>T u i) U)) P f)(c:∀u i,u<w->i<k->T u i=aT k w A (U i) (V u)):∀p∈P,∀u,u<w->f p u=aT k w A (fun t=>f p (w+t)) (V u):=fun p hp u b=>by
 refine Sp.ind (C:=fun v=>v u=aT k w A (fun t=>v (w+t)) (V u)) Ik.symm (fun a x y hx hy=>?_) (fun r hr=>?_) (F.fr p hp).sp
 ·show a*x u+y u=aT k w A (fun t=>a*x (w+t)+y (w+t)) (V u)
  rw[Ij,<-hx,<-hy]
 ·obtain⟨i,hi,rfl⟩:=List.mem_map.mp hr
  show glue w (fun i u=>T u i) U i u=aT k w A (fun t=>glue w (fun i u=>T u i) U i (w+t)) (V u);rw[zS b,show(fun t=>glue w (fun i u=>T u i) U i (w+t))=U i from funext fun t=>e_];exact c u i b (List.mem_range.mp hi)
def Im{k w N M X B:Nat}{A T U V f:Nat->Vc}{P:List Nat}(F:FS N M X B (tl w (glue k (fun u i=>T i u) V)) P f)(c:∀i u,i<k->u<w->T i u=aT k w A (U i) (V u)):∀p∈P,∀i,i<k->f p i=aT k w A (U i) (fun t=>f p (k+t)):=fun p hp i hi=>by
 refine Sp.ind (C:=fun v=>v i=aT k w A (U i) (fun t=>v (k+t))) MX.symm (fun a x y hx hy=>?_) (fun r hr=>?_) (F.fr p hp).sp
 ·show a*x i+y i=aT k w A (U i) (fun t=>a*x (k+t)+y (k+t))
  rw[MW,<-hx,<-hy]
 ·obtain⟨u,b,rfl⟩:=List.mem_map.mp hr
  show glue k (fun u i=>T i u) V u i=aT k w A (U i) (fun t=>glue k (fun u i=>T i u) V u (k+t));rw[zS hi,show(fun t=>glue k (fun u i=>T i u) V u (k+t))=V u from funext fun t=>e_];exact c i u hi (List.mem_range.mp b)
structure Ker(n r g b:Nat)(W:Nat->Vc)(Q:Nat->Nat):Prop where
 qs:∀a c,a<c->c<n-r->Q a<Q c
 kz:∀a u,a<n-r->u<Q a->W (r+a) u=0
 kp:∀a,a<n-r->0<W (r+a) (Q a)
 kq:∀a c,a<c->c<n-r->0<=W (r+a) (Q c)/\W (r+a) (Q c)<W (r+c) (Q c)
 tq:∀i a,i<r->a<n-r->(W i (Q a)).natAbs<=g*(W (r+a) (Q a)).natAbs
 km:∀a,a<n-r->(W (r+a) (Q a)).natAbs<=b
structure EN(n r m:Nat)(S:Nat->Vc):Prop where
 tp:∀i,i<r->0<S i i
 tz:∀i j,i<r->i<j->j<m->S i j=0
 tl:∀i j,i<r->j<i->(S i j).natAbs<=(S i i).natAbs
 z:∀i u,r<=i->i<n->u<m->S i u=0
section
variable{n r m g b M:Nat}{S W:Nat->Vc}{Q:Nat->Nat}
def Io(l:r<=n)(o:r<=m)(hg:1<=g)(H:EN n r m S)(K:Ker n r g b W Q)(hb:g*b<=M)(p:∀i,i<r->(S i i).natAbs<=M):Tri n r m M g (glue m S W) (fun a=>m+Q a):=by
 refine⟨hg,l,o,fun a c h1 h2=>by have:=K.qs a c h1 h2;show m+Q a<m+Q c;(first|lia|omega),fun a _=>Bh _ _,fun i hi=>by rw[zS ω];exact H.tp i hi,fun i j hi h1 h2=>by rw[zS h2];exact H.tz i j hi h1 h2,fun i j hi e=>by rw[zS ω,zS ω];exact H.tl i j hi e,fun i a hi d=>by rw[e_,e_];exact K.tq i a hi d,fun a u d f=>?_,fun a d=>by rw[e_];exact K.kp a d,fun a c h1 h2=>by rw[e_,e_];exact K.kq a c h1 h2,fun i hi=>by rw[zS ω];exact p i hi,fun a d=>by rw[e_];exact Ag (Al _ (K.km a d)) hb⟩
 by_cases h:u<m
 ·rw[zS h];exact H.z (r+a) u ω ω h
 ·rw[show u=m+(u-m) from ω,e_]
  exact K.kz a _ d (by have:u<m+Q a:=f;(first|lia|omega))
end
noncomputable def pls(r m:Nat)(Q:Nat->Nat)(i:Nat):Nat:=if i<r then i else m+Q (i-r)
def hA{r m:Nat}{Q:Nat->Nat}{i:Nat}(h:i<r):pls r m Q i=i:=if_pos h
def jW{r m:Nat}{Q:Nat->Nat}{a:Nat}:pls r m Q (r+a)=m+Q a:=by unfold pls;rw[if_neg ω,Nat.add_sub_cancel_left]
def EO{r m n:Nat}{Q:Nat->Nat}(h:r<=n):pl r n (fun a=>m+Q a)=(Ah n).map (pls r m Q):=by
 unfold pl;rw[Nat.min_eq_right h];apply AT
 ·simp;(first|lia|omega)
 ·intro i h1 h2
  rw[AW,A0]
  by_cases hi:i<r
  ·rw[List.getElem_append_left (by simpa using hi),A0,hA hi]
  ·rw[List.getElem_append_right (by simp;(first|lia|omega)),AW,A0,A8]
   unfold pls;rw[if_neg hi]
section
variable{n r m g b M N X B:Nat}{S W f:Nat->Vc}{Q:Nat->Nat}{P:List Nat}
def Ip(p:r<=n)(q:r<=m)(K:Ker n r g b W Q)(R:Ii n r m (glue m S W) f (fun a=>m+Q a)):Ker n r 1 b (fun i t=>f (pls r m Q i) (m+t)) Q/\(∀i,i<r->0<f (pls r m Q i) i)/\(∀i j,i<r->j<i->f (pls r m Q i) j=0)/\(∀i j,i<j->j<r->0<=f (pls r m Q i) j/\f (pls r m Q i) j<f (pls r m Q j) j)/\(∀i u,i<n->u<m->(r<=i\/r<=u)->f (pls r m Q i) u=0):=by
 refine⟨⟨K.qs,fun a u d l=>?_,fun a d=>?_,fun a c h1 h2=>?_,fun i a hi d=>?_,fun a d=>?_⟩,fun i hi=>?_,fun i j hi o=>?_,fun i j h1 h2=>?_,fun i u hi l h=>?_⟩
 ·show f (pls r m Q (r+a)) (m+u)=0
  rw[jW];exact R.qz a (m+u) d (by show m+u<m+Q a;(first|lia|omega))
 ·show 0<f (pls r m Q (r+a)) (m+Q a)
  rw[jW];exact R.qp a d
 ·show 0<=f (pls r m Q (r+a)) (m+Q c)/\f (pls r m Q (r+a)) (m+Q c)<f (pls r m Q (r+c)) (m+Q c)
  rw[jW,jW];exact R.qr a c h1 h2
 ·show(f (pls r m Q i) (m+Q a)).natAbs<=1*(f (pls r m Q (r+a)) (m+Q a)).natAbs
  rw[hA hi,jW];have:=R.ir i a hi d;have this:0<=f i (m+Q a)/\f i (m+Q a)<f (m+Q a) (m+Q a):=this;(first|lia|omega)
 ·show(f (pls r m Q (r+a)) (m+Q a)).natAbs<=b
  rw[jW];have h1:=R.qd a d;have h1:(f (m+Q a) (m+Q a)).natAbs<=(glue m S W (r+a) (m+Q a)).natAbs:=h1;rw[e_] at h1;exact Ag h1 (K.km a d)
 ·rw[hA hi];exact R.fp i hi
 ·rw[hA hi];exact R.fz i j hi o
 ·rw[hA (show i<r from ω),hA h2];exact R.fr i j h1 h2
 ·by_cases e:i<r
  ·rw[hA e];exact R.fo i u e ω l
  ·rw[show i=r+(i-r) from ω,jW]
   exact R.qz (i-r) u ω (by show u<m+Q (i-r);(first|lia|omega))
end
def iv{g g':Nat->Vc}{k:Nat}(h:∀i,i<k->g i i=g' i i):tn g k=tn g' k:=by
 unfold tn;exact A4 fun i hi=>by rw[h i (List.mem_range.mp hi)]
structure LI(A:Nat->Vc)(k w r D bU bV g:Nat)(T U V:Nat->Vc)(Bn Bf:List Vc)(QU QV:Nat->Nat):Prop where
 rk:r<=k
 rw:r<=w
 g1:1<=g
 bl:∀u i,u<w->i<k->T u i=aT k w A (U i) (V u)
 bu:Both k (tl k U) Bn
 bv:Both w (tl w V) Bf
 ku:Ker k r g bU U QU
 kv:Ker w r 1 bV V QV
 tp:∀u,u<r->0<T u u
 tz:∀u i,u<r->i<u->T u i=0
 tr:∀u i,u<i->i<r->0<=T u i/\T u i<T i i
 to:∀u i,u<w->i<k->(r<=u\/r<=i)->T u i=0
 pd:∀m,m<=r->pr (tn T m)<=D
structure LM(A:Nat->Vc)(k w r D bU bV g:Nat)(S U V:Nat->Vc)(Bn Bf:List Vc)(QU QV:Nat->Nat):Prop where
 rk:r<=k
 rw:r<=w
 g1:1<=g
 bl:∀i u,i<k->u<w->S i u=aT k w A (U i) (V u)
 bu:Both k (tl k U) Bn
 bv:Both w (tl w V) Bf
 ku:Ker k r g bU U QU
 kv:Ker w r 1 bV V QV
 sl:EN w r k (fun u i=>S i u)
 pd:∀m,m<=r->pr (tn S m)<=D
section
variable{A T U V S f:Nat->Vc}{k w r D bU bV g M N X B:Nat}{Bn Bf:List Vc}{QU QV:Nat->Nat}{P:List Nat}
def LI.slp(I:LI A k w r D bU bV g T U V Bn Bf QU QV):EN k r w (fun i u=>T u i):=
 ⟨I.tp,fun i j hi h1 h2=>by
  by_cases h:j<r
  ·exact I.tz j i h h1
  ·exact I.to j i h2 (by have:=I.rk;(first|lia|omega)) (.inl ω),fun i j hi a=>by have:=I.tr j i a hi;show(T j i).natAbs<=(T i i).natAbs;(first|lia|omega),fun i u h1 h2 b=>I.to u i b h2 (.inr h1)⟩
def LI.diag_le(I:LI A k w r D bU bV g T U V Bn Bf QU QV){i:Nat}(hi:i<r):(T i i).natAbs<=D:=by
 have h1:=EL (g:=T) (k:=i) fun j a=>I.tp j ω;have h2:=I.pd (i+1) ω;have b:=I.tp i hi;(first|lia|omega)
def LI.near_tri(I:LI A k w r D bU bV g T U V Bn Bf QU QV)(b:g*bU<=M)(c:D<=M):Tri k r w M g (glue w (fun i u=>T u i) U) (fun a=>w+QU a):=
 Io I.rk I.rw I.g1 I.slp I.ku b fun i hi=>Ag (I.diag_le hi) c
def ER(I:LI A k w r D bU bV g T U V Bn Bf QU QV){m:Nat}(a:m<=r):tn (glue w (fun i u=>T u i) U) m=tn T m:=iv fun i hi=>by rw[zS (by have:=I.rw;(first|lia|omega))]
def LI.near_done(I:LI A k w r D bU bV g T U V Bn Bf QU QV)(Tr:Tri k r w M g (glue w (fun i u=>T u i) U) (fun a=>w+QU a))(F:FS N M X B (tl k (glue w (fun i u=>T u i) U)) P f):P=(Ah k).map (pls r w QU)/\LM A k w r D bU bV 1 (fun i=>f (pls r w QU i)) (fun i t=>f (pls r w QU i) (w+t)) V (lI k ((tl k (glue w (fun i u=>T u i) U)).map fun r=>shr f P r) Bn) Bf QU QV/\ (∀m,m<=r->pr (tn (fun i=>f (pls r w QU i)) m)<=pr (tn T m))/\((∃m,m<=r/\2*pr (tn (fun i=>f (pls r w QU i)) m)<=pr (tn T m))\/∀i,i<r->f (pls r w QU i) i=T i i/\∀j,j<r->j≠i->f (pls r w QU i) j=0):=by
 obtain⟨d,R⟩:=Tr.round F;rw[EO I.rk] at d;obtain⟨s,n1,n2,v,l⟩:=Ip I.rk I.rw I.ku R;have o:∀m,m<=r->tn (fun i=>f (pls r w QU i)) m=tn f m:=fun m b=>iv fun i hi=>by show f (pls r w QU i) i=f i i;rw[hA ω]
 have le:∀m,m<=r->pr (tn (fun i=>f (pls r w QU i)) m)<=pr (tn T m):=fun m b=>by rw[o m b,<-ER I b];exact R.le m b
 refine⟨d,⟨I.rk,I.rw,Ad 1,fun i u hi c=>?_,?_,I.bv,s,I.kv,⟨n1,fun u i c h1 h2=>?_,fun u i c hi=>?_,fun u i h1 h2 q=>?_⟩,fun m b=>Ag (le m b) (I.pd m b)⟩,le,?_⟩
 ·exact Il F I.bl _ (by rw[d];exact List.mem_map.mpr ⟨i,List.mem_range.mpr hi,rfl⟩) u c
 ·have:=CQ F I.bu
  have e:(P.map fun p=>fun t=>f p (w+t))=tl k (fun i t=>f (pls r w QU i) (w+t)):=by rw[d,AS];rfl
  rw[e] at this;exact this
 ·show f (pls r w QU i) u=0
  by_cases h:i<r
  ·exact n2 i u h h1
  ·exact l i u h2 (by have:=I.rw;(first|lia|omega)) (.inl ω)
 ·show(f (pls r w QU i) u).natAbs<=(f (pls r w QU u) u).natAbs
  have:=v i u hi c;(first|lia|omega)
 ·exact l i u q h2 (.inr h1)
 ·rcases R.hv with ⟨m,b,h⟩|h
  ·exact .inl ⟨m,b,by rw[o m b,<-ER I b];exact h⟩
  ·refine .inr fun i hi=>?_
   obtain⟨h1,h2⟩:=h i hi;rw[zS (by have:=I.rw;(first|lia|omega))] at h1;rw[hA hi];exact⟨h1,h2⟩
def LM.diag_le(I:LM A k w r D bU bV g S U V Bn Bf QU QV){i:Nat}(hi:i<r):(S i i).natAbs<=D:=by
 have h1:=EL (g:=S) (k:=i) fun j b=>I.sl.tp j ω;have h2:=I.pd (i+1) ω;have a:=I.sl.tp i hi;have a:0<S i i:=a;(first|lia|omega)
def LM.far_tri(I:LM A k w r D bU bV g S U V Bn Bf QU QV)(c:bV<=M)(b:D<=M):Tri w r k M 1 (glue k (fun u i=>S i u) V) (fun a=>k+QV a):=
 Io I.rw I.rk (Ad 1) I.sl I.kv ω fun i hi=>Ag (I.diag_le hi) b
def LM.far_done(I:LM A k w r D bU bV g S U V Bn Bf QU QV)(Tr:Tri w r k M 1 (glue k (fun u i=>S i u) V) (fun a=>k+QV a))(F:FS N M X B (tl w (glue k (fun u i=>S i u) V)) P f):P=(Ah w).map (pls r k QV)/\LI A k w r D bU bV g (fun u=>f (pls r k QV u)) U (fun u t=>f (pls r k QV u) (k+t)) Bn (lI w ((tl w (glue k (fun u i=>S i u) V)).map fun r=>shr f P r) Bf) QU QV/\ (∀m,m<=r->pr (tn (fun u=>f (pls r k QV u)) m)<=pr (tn S m))/\((∃m,m<=r/\2*pr (tn (fun u=>f (pls r k QV u)) m)<=pr (tn S m))\/∀i,i<r->f (pls r k QV i) i=S i i/\∀j,j<r->j≠i->f (pls r k QV i) j=0):=by
 obtain⟨c,R⟩:=Tr.round F;rw[EO I.rw] at c;obtain⟨q,n1,n2,s,v⟩:=Ip I.rw I.rk I.kv R;have d:∀m,m<=r->tn (glue k (fun u i=>S i u) V) m=tn S m:=fun m b=>iv fun i hi=>by rw[zS (by have:=I.rk;(first|lia|omega))]
 have l:∀m,m<=r->tn (fun u=>f (pls r k QV u)) m=tn f m:=fun m b=>iv fun i hi=>by show f (pls r k QV i) i=f i i;rw[hA ω]
 have le:∀m,m<=r->pr (tn (fun u=>f (pls r k QV u)) m)<=pr (tn S m):=fun m b=>by rw[l m b,<-d m b];exact R.le m b
 refine⟨c,⟨I.rk,I.rw,I.g1,fun u i o hi=>?_,I.bu,?_,I.ku,q,n1,n2,s,v,fun m b=>Ag (le m b) (I.pd m b)⟩,le,?_⟩
 ·exact Im F I.bl _ (by rw[c];exact List.mem_map.mpr ⟨u,List.mem_range.mpr o,rfl⟩) i hi
 ·have:=CQ F I.bv
  have e:(P.map fun p=>fun t=>f p (k+t))=tl w (fun u t=>f (pls r k QV u) (k+t)):=by rw[c,AS];rfl
  rw[e] at this;exact this
 ·rcases R.hv with ⟨m,b,h⟩|h
  ·exact .inl ⟨m,b,by rw[l m b,<-d m b];exact h⟩
  ·refine .inr fun i hi=>?_
   obtain⟨h1,h2⟩:=h i hi;rw[zS (by have:=I.rk;(first|lia|omega))] at h1;rw[hA hi];exact⟨h1,h2⟩
end
def Iq{U:Nat->Vc}{c:Vc}{i j t:Nat}(ne:i≠j):∀k,sm (put U i fun t=>U i t+U j t) (fun a=>if a=j then c j-c i else c a) k t=sm U c k t+(if i<k then c i*U j t else 0)-(if j<k then c i*U j t else 0)
 |0=>by show(0:Int)=0+(if i<0 then _ else 0)-(if j<0 then _ else 0);rw[if_neg ω,if_neg ω];rfl
 |k+1=>by
  show sm _ _ k t+(if k=j then c j-c i else c k)*put U i (fun t=>U i t+U j t) k t=sm U c k t+c k*U k t+_-_;rw[Iq ne k]
  by_cases e1:k=i
  ·subst e1
   rw[if_neg (show ¬k<k from ω),if_neg ne,zO,if_pos (show k<k+1 from ω),Int.mul_add]
   by_cases h:j<k
   ·rw[if_pos h,if_pos (show j<k+1 from ω)];(first|lia|omega)
   ·rw[if_neg h,if_neg (show ¬j<k+1 from ω)];(first|lia|omega)
  ·rw[dD e1]
   by_cases e2:k=j
   ·subst e2
    rw[if_pos rfl,if_neg (show ¬k<k from ω),if_pos (show k<k+1 from ω),Int.sub_mul]
    by_cases h:i<k
    ·rw[if_pos h,if_pos (show i<k+1 from ω)];(first|lia|omega)
    ·rw[if_neg h,if_neg (show ¬i<k+1 from ω)];(first|lia|omega)
   ·rw[if_neg e2]
    have a1:(if i<k then c i*U j t else 0)=(if i<k+1 then c i*U j t else 0):=by
     by_cases h:i<k
     ·rw[if_pos h,if_pos ω]
     ·rw[if_neg h,if_neg ω]
    have a2:(if j<k then c i*U j t else 0)=(if j<k+1 then c i*U j t else 0):=by
     by_cases h:j<k
     ·rw[if_pos h,if_pos ω]
     ·rw[if_neg h,if_neg ω]
    rw[a1,a2];(first|lia|omega)
def CS{n i:Nat}{W:Nat->Vc}(h:i<n):(tl n W)[i]?=some (W i):=by unfold tl;rw[Aj,AL h];rfl
def iw{n:Nat}{W:Nat->Vc}:(tl n W).length=n:=by unfold tl;simp
def CT{k:Nat}{U C:Nat->Vc}:Both k (tl k U) (tl k C)↔(∀s t,s<k->t<k->sm U (fun a=>C a s) k t=dl s t)/\∀i j,i<k->j<k->dot k (U i) (C j)=dl i j:=by
 have e:∀s t,cmb ((tl k C).map fun b=>b s) (tl k U) t=sm U (fun a=>C a s) k t:=fun s t=>by
  have:=CP (ρ:=U) (c:=fun a=>C a s) t k;rw[<-this];unfold tl lst;rw[AS];rfl
 constructor
 ·intro D
  exact⟨fun s t g h=>by rw[<-e];exact D.a.d s t g h,fun i j hi f=>D.b i j _ _ (CS hi) (CS f)⟩
 ·rintro⟨h1,h2⟩
  refine⟨⟨iw,iw,fun s t g h=>by rw[e];exact h1 s t g h⟩,fun i j u c l hc=>?_⟩;have hi:i<k:=by have:=(List.getElem?_eq_some_iff.mp l).1;rwa [iw] at this
  have f:j<k:=by have:=(List.getElem?_eq_some_iff.mp hc).1;rwa [iw] at this
  rw[CS hi] at l;rw[CS f] at hc;cases l;cases hc;exact h2 i j hi f
def Both.add{k:Nat}{U C:Nat->Vc}(D:Both k (tl k U) (tl k C)){i j:Nat}(hi:i<k)(p:j<k)(ne:i≠j):Both k (tl k (put U i fun t=>U i t+U j t)) (tl k (put C j fun s=>C j s-C i s)):=by
 rw[CT] at D ⊢;obtain⟨h1,h2⟩:=D;refine⟨fun s t q r=>?_,fun a b d hb=>?_⟩
 ·have e:(fun a=>put C j (fun s=>C j s-C i s) a s)=fun a=>if a=j then C j s-C i s else C a s:=funext fun a=>by
   unfold put
   by_cases h:a=j
   ·rw[if_pos h,if_pos h]
   ·rw[if_neg h,if_neg h]
  rw[e];have:=Iq (U:=U) (c:=fun a=>C a s) (t:=t) ne k;rw[this,if_pos hi,if_pos p,h1 s t q r];(first|lia|omega)
 ·-- by eG two rows
  have l:∀{x:Vc},dot k (fun t=>U i t+U j t) x=dot k (U i) x+dot k (U j) x:=fun{x}=>by
   have:=EG (k:=k) (a:=U i) (a':=U j) (b:=x) (x:=1) (y:=1);rw[Int.one_mul,Int.one_mul] at this;rw[<-this];exact zR fun t _=>ω
  have f:∀{x:Vc},dot k x (fun s=>C j s-C i s)=dot k x (C j)-dot k x (C i):=fun{x}=>by
   have:=uF (k:=k) (a:=x) (b:=C i) (b':=C j) (x:=-1);rw[show dot k x (C j)-dot k x (C i)=-1*dot k x (C i)+dot k x (C j) from ω,<-this];exact zB fun t _=>ω
  by_cases o:a=i
  ·subst o
   rw[zO]
   by_cases g:b=j
   ·subst g
    rw[zO,l,f,f,h2 a b d hb,h2 a a d d,h2 b b hb hb,h2 b a hb d];unfold dl;rw[if_neg ne,if_pos rfl,if_pos rfl,if_neg (Ne.symm ne)];(first|lia|omega)
   ·rw[dD g,l,h2 a b d hb,h2 j b p hb]
    unfold dl;rw[if_neg (show ¬j=b from fun z=>g z.symm)];(first|lia|omega)
  ·rw[dD o]
   by_cases g:b=j
   ·subst g
    rw[zO,f,h2 a b d hb,h2 a i d hi];unfold dl;rw[if_neg o];(first|lia|omega)
   ·rw[dD g,h2 a b d hb]
def MY{A S U V f:Nat->Vc}{k w r D bU bV g M N X B:Nat}{Bn Bf:List Vc}{QU QV:Nat->Nat}{P:List Nat}(I:LM A k w r D bU bV g S U V Bn Bf QU QV)(Tr:Tri w r k M 1 (glue k (fun u i=>S i u) V) (fun a=>k+QV a))(F:FS N M X B (tl w (glue k (fun u i=>S i u) V)) P f)(h:∀i,i<r->f (pls r k QV i) i=S i i/\∀j,j<r->j≠i->f (pls r k QV i) j=0){i u:Nat}(hi:i<r)(q:u<r):S i i ∣ S i u:=by
 obtain⟨l,R⟩:=Tr.round F;have o:glue k (fun u i=>S i u) V u∈tl w (glue k (fun u i=>S i u) V):=List.mem_map.mpr ⟨u,List.mem_range.mpr (by have:=I.rw;(first|lia|omega)),rfl⟩;have sp:=F.gen _ o;have e:glue k (fun u i=>S i u) V u i=S i u:=zS (by have:=I.rk;(first|lia|omega));rw[<-e];refine Sp.ind (C:=fun v=>S i i ∣ v i) (Int.dvd_zero _) (fun a x y hx hy=>Int.dvd_add (Int.dvd_trans hx (Int.dvd_mul_left a _)) hy) (fun v d=>?_) sp;obtain⟨p,hp,rfl⟩:=List.mem_map.mp d;rw[l,EO I.rw] at hp;obtain⟨j,c,rfl⟩:=List.mem_map.mp hp;have c:=List.mem_range.mp c
 by_cases b:j<r
 ·by_cases e2:i=j
  ·subst e2;rw[(h i hi).1];exact Int.dvd_refl _
  ·rw[(h j b).2 i hi e2];exact Int.dvd_zero _
 ·rw[show j=r+(j-r) from ω,jW]
  rw[R.qz (j-r) i ω (by show i<k+QV (j-r);have:=I.rk;(first|lia|omega))];exact Int.dvd_zero _
noncomputable def b0(U:Nat->Vc)(r:Nat):Nat->Nat->Vc
 |0=>U
 |n+1=>put (b0 U r n) (r-2-n) fun t=>b0 U r n (r-2-n) t+b0 U r n (r-1-n) t
noncomputable def gA(C:Nat->Vc)(r:Nat):Nat->Nat->Vc
 |0=>C
 |n+1=>put (gA C r n) (r-1-n) fun s=>gA C r n (r-1-n) s-gA C r n (r-2-n) s
noncomputable def ss(U:Nat->Vc)(r:Nat):Nat->Nat->Vc
 |0,_=>fun _=>0
 |n+1,i=>fun t=>U i t+ss U r n (i+1) t
section
variable{U C:Nat->Vc}{r k:Nat}
def ES:∀(n:Nat),n+1<=r->∀i,b0 U r n i=if r-1-n<=i/\i<r then ss U r (r-i) i else U i
 |0,h,i=>by
  show U i=_
  by_cases e:i=r-1
  ·rw[if_pos ω,show r-i=1 from ω]
   exact funext fun t=>by show U i t=U i t+0;(first|lia|omega)
  ·rw[if_neg ω]
 |n+1,h,i=>by
  have a:=ES n ω;show put (b0 U r n) (r-2-n) (fun t=>b0 U r n (r-2-n) t+b0 U r n (r-1-n) t) i=_
  by_cases e:i=r-2-n
  ·rw[e,zO,if_pos ω,a (r-2-n),a (r-1-n),if_neg ω,if_pos ω]
   have e1:r-(r-2-n)=n+1+1:=ω
   have e2:r-(r-1-n)=n+1:=ω
   rw[e1,e2];exact funext fun t=>by
    show U (r-2-n) t+ss U r (n+1) (r-1-n) t=U (r-2-n) t+ss U r (n+1) (r-2-n+1) t;rw[show r-2-n+1=r-1-n from ω]
  ·rw[dD e,a i]
   by_cases h2:r-1-n<=i/\i<r
   ·rw[if_pos h2,if_pos ω]
   ·rw[if_neg h2,if_neg ω]
def jg(h:1<=r)(i:Nat):b0 U r (r-1) i=if i<r then ss U r (r-i) i else U i:=by
 rw[ES (r-1) ω i]
 by_cases e:i<r
 ·rw[if_pos ω,if_pos e]
 ·rw[if_neg ω,if_neg e]
def Ir(hr:r<=k)(D:Both k (tl k U) (tl k C)):∀n,n+1<=r->Both k (tl k (b0 U r n)) (tl k (gA C r n))
 |0,_=>D
 |n+1,h=>(Ir hr D n ω).add (i:=r-2-n) (j:=r-1-n) ω ω ω
def ET{u K:Nat}:∀(n i:Nat),(∀j,i<=j->j<i+n->(U j u).natAbs<=K)->(ss U r n i u).natAbs<=n*K
 |0,_,_=>Aw _
 |n+1,i,h=>by
  have h1:=ET (u:=u) n (i+1) fun j h1 h2=>h j ω ω;have h2:=h i (Ad _) ω;have a:=Int.natAbs_add_le (U i u) (ss U r n (i+1) u);show(U i u+ss U r n (i+1) u).natAbs<=(n+1)*K;rw[Nat.add_mul];(first|lia|omega)
def Is{w:Nat}{A:Nat->Vc}{y:Vc}:∀(n i:Nat),aT k w A (ss U r n i) y=ss (fun i _=>aT k w A (U i) y) r n i 0
 |0,_=>Ik
 |n+1,i=>by
  show aT k w A (fun t=>U i t+ss U r n (i+1) t) y=aT k w A (U i) y+ss (fun i _=>aT k w A (U i) y) r n (i+1) 0;rw[<-Is n (i+1)];have:=Ij (k:=k) (w:=w) (A:=A) (a:=1) (x:=U i) (x':=ss U r n (i+1)) (y:=y);rw[Int.one_mul] at this;rw[<-this]
  congr 1
  exact funext fun t=>ω
def EU{c:Nat->Int}{u:Nat}:∀(n i:Nat),(∀j,i<=j->j<i+n->j≠u->c j=0)->ss (fun i _=>c i) r n i 0=if i<=u/\u<i+n then c u else 0
 |0,i,_=>by show(0:Int)=_;rw[if_neg ω]
 |n+1,i,h=>by
  show c i+ss (fun i _=>c i) r n (i+1) 0=_;rw[EU n (i+1) fun j h1 h2 a=>h j ω ω a]
  by_cases e:i=u
  ·subst e;rw[if_neg ω,if_pos ω];(first|lia|omega)
  ·rw[h i (Ad _) ω e]
   by_cases h2:i+1<=u/\u<i+1+n
   ·rw[if_pos h2,if_pos ω];(first|lia|omega)
   ·rw[if_neg h2,if_neg ω];(first|lia|omega)
end
section
variable{A T U V:Nat->Vc}{k w r D bU bV g:Nat}{Bn Bf:List Vc}{QU QV:Nat->Nat}{C:Nat->Vc}
def LI.slid(I:LI A k w r D bU bV g T U V (tl k C) Bf QU QV)(hr:1<=r)(hd:∀u i,u<r->i<r->u≠i->T u i=0):LM A k w r D bU bV (r*g) (fun i u=>aT k w A (b0 U r (r-1) i) (V u)) (b0 U r (r-1)) V (tl k (gA C r (r-1))) Bf QU QV/\∀i u,i<k->u<w->aT k w A (b0 U r (r-1) i) (V u)=if i<=u/\u<r then T u u else 0:=by
 have rk:=I.rk;have q:=I.rw;have val:∀i u,i<k->u<w->aT k w A (b0 U r (r-1) i) (V u)=if i<=u/\u<r then T u u else 0:=fun i u hi b=>by
  rw[jg hr]
  by_cases h:i<r
  ·rw[if_pos h,Is]
   have e:ss (fun i _=>aT k w A (U i) (V u)) r (r-i) i 0=ss (fun i _=>if i<k then T u i else aT k w A (U i) (V u)) r (r-i) i 0:=by
    congr 1
    exact funext fun j=>funext fun _=>by
     by_cases l:j<k
     ·rw[if_pos l,I.bl u j b l]
     ·rw[if_neg l]
   rw[e,EU (u:=u) (r-i) i fun j h1 h2 f=>by
    rw[if_pos ω]
    by_cases o:u<r
    ·exact hd u j o ω (Ne.symm f)
    ·exact I.to u j b ω (.inl ω)]
   by_cases h2:i<=u/\u<r
   ·rw[if_pos ω,if_pos h2,if_pos ω]
   ·rw[if_neg ω,if_neg h2]
  ·rw[if_neg h,if_neg ω,<-I.bl u i b hi]
   exact I.to u i b hi (.inr ω)
 have dg:∀i,i<r->aT k w A (b0 U r (r-1) i) (V i)=T i i:=fun i hi=>by rw[val i i ω ω,if_pos ⟨Ad _,hi⟩]
 refine⟨⟨rk,q,Nat.mul_pos hr I.g1,fun i u _ _=>rfl,Ir rk I.bu (r-1) ω,I.bv,⟨I.ku.qs,fun a u d b=>?_,fun a d=>?_,fun a c h1 h2=>?_,fun i a hi d=>?_,fun a d=>?_⟩,I.kv,⟨fun u b=>?_,fun u i b h1 h2=>?_,fun u i b hi=>?_,fun u i h1 h2 f=>?_⟩,fun m p=>?_⟩,val⟩
 ·rw[jg hr,if_neg ω];exact I.ku.kz a u d b
 ·rw[jg hr,if_neg ω];exact I.ku.kp a d
 ·rw[jg hr,jg hr,if_neg ω,if_neg ω];exact I.ku.kq a c h1 h2
 ·rw[jg hr,jg hr,if_pos hi,if_neg ω]
  have:=ET (U:=U) (r:=r) (u:=QU a) (K:=g*(U (r+a) (QU a)).natAbs) (r-i) i fun j h1 h2=>I.ku.tq j a ω d;refine Ag this ?_;rw[AQ];exact Am _ ω
 ·rw[jg hr,if_neg ω];exact I.ku.km a d
 ·show 0<aT k w A (b0 U r (r-1) u) (V u)
  rw[dg u b];exact I.tp u b
 ·show aT k w A (b0 U r (r-1) i) (V u)=0
  rw[val i u h2 ω,if_neg ω]
 ·show(aT k w A (b0 U r (r-1) i) (V u)).natAbs<=(aT k w A (b0 U r (r-1) u) (V u)).natAbs
  rw[dg u b,val i u ω ω,if_pos ω];exact Ad _
 ·show aT k w A (b0 U r (r-1) i) (V u)=0
  rw[val i u f h2,if_neg ω]
 ·have e:tn (fun i u=>aT k w A (b0 U r (r-1) i) (V u)) m=tn T m:=iv fun i hi=>dg i ω
  rw[e];exact I.pd m p
end
def Iu{f:Nat->Vc}:∀{P:List Nat}{v:Vc}{p:Nat},Ech P f->P.Pairwise (·<·)->Sp (P.map f) v->(∀u,u<p->v u=0)->v p≠0->p∈P
 |[],v,p,_,_,⟨c,hc,e⟩,_,hp=>by
  refine absurd ?_ hp;rw[e];cases c<;>rfl
 |q::P,v,p,h,hs,⟨c,hc,e⟩,hz,hp=>by
  cases c with
  |nil=>simp at hc
  |cons a c=>
   rw[Ba] at hs;have eq:v q=a*f q q:=by
    rw[e];show a*f q q+cmb c (P.map f) q=a*f q q;rw[zM c (P.map f) fun v i=>by
     obtain⟨r,hr,rfl⟩:=List.mem_map.mp i;exact h.z r (.tail _ hr) q (hs.1 r hr)]
    (first|lia|omega)
   have b:=h.pos q (.head _)
   by_cases d:a=0
   ·refine .tail _ (Iu (v:=v) (h.sub fun r hr=>.tail _ hr) hs.2 ⟨c,by simpa using hc,fun u=>?_⟩ hz hp)
    rw[e];show a*f q u+cmb c (P.map f) u=_;rw[d];(first|lia|omega)
   ·have hq:v q≠0:=by rw[eq];exact Int.mul_ne_zero d ω
    have h1:p<=q:=by
     rcases Be q p with g|g
     ·exact absurd (hz q g) hq
     ·exact g
    have h2:q<=p:=by
     rcases Be p q with g|g
     ·refine absurd ?_ hp
      rw[e];refine zM _ _ fun x hx=>?_;obtain⟨r,hr,rfl⟩:=List.mem_map.mp hx;rcases List.mem_cons.mp hr with rfl|hr
      ·exact h.z r (.head _) p g
      ·exact h.z r (.tail _ hr) p (by have:=hs.1 r hr;(first|lia|omega))
     ·exact g
    rw[show p=q from ω];exact .head _
def alone{Λ:Vc->Prop}{L:Nat->Vc}{r k:Nat}(T:Lt Λ)(hk:r<=k)(p:∀i,i<r->Λ (L i))(q:∀i,i<r->0<L i i)(u:∀i j,i<r->i<j->j<k->L i j=0):∀j,j<r->∃v,Λ v/\v j≠0/\∀i,i<k->i≠j->v i=0:=by
 intro j
 induction j using Nat.strongRecOn with
 |_ j ih=>
  intro a;have step:∀n,n<=j->∃v,Λ v/\v j≠0/\(∀i,i<n->v i=0)/\∀i,j<i->i<k->v i=0:=by
   intro n
   induction n with
   |zero=>intro _;exact⟨L j,p j a,by have:=q j a;(first|lia|omega),fun i hi=>absurd hi (Nat.not_lt_zero _),fun i h1 h2=>u j i a h1 h2⟩
   |succ n ihn=>
    intro w;obtain⟨v,b,c,d,f⟩:=ihn ω;obtain⟨x,x1,x2,g⟩:=ih n ω ω;have l:=T.s (-(x n)) T.z b;have o:=T.s (v n) l x1;refine⟨_,o,?_,fun i hi=>?_,fun i h1 h2=>?_⟩
    ·show(0 - -(x n)*v j)-v n*x j≠0
     rw[g j ω ω,Int.neg_mul];have:=Int.mul_ne_zero x2 c;(first|lia|omega)
    ·show(0 - -(x n)*v i)-v n*x i=0
     rw[Int.neg_mul]
     by_cases e:i=n
     ·subst e;rw[Bg (x i)];(first|lia|omega)
     ·rw[d i ω,g i ω e];(first|lia|omega)
    ·show(0 - -(x n)*v i)-v n*x i=0
     rw[f i h1 h2,g i h2 ω];(first|lia|omega)
  obtain⟨v,b,c,d,f⟩:=step j (Ad _);refine⟨v,b,c,fun i hi ne=>?_⟩;rcases Be i j with h|h
  ·exact d i h
  ·exact f i ω hi
noncomputable def un:Nat->Vc:=fun i t=>dl i t
def Iv{k i:Nat}{g:Vc}(h:i<k):dot k (un i) g=g i:=by
 have:∀n,n<=k->dot n (un i) g=if i<n then g i else 0:=by
  intro n
  induction n with
  |zero=>intro _;rw[if_neg ω];rfl
  |succ n ih=>
   intro a;show dot n (un i) g+dl i n*g n=_;rw[ih ω]
   by_cases e:i=n
   ·subst e;rw[if_neg ω,if_pos ω];unfold dl;rw[if_pos rfl];(first|lia|omega)
   ·unfold dl
    rw[if_neg e]
    by_cases h2:i<n
    ·rw[if_pos h2,if_pos ω];(first|lia|omega)
    ·rw[if_neg h2,if_neg ω];(first|lia|omega)
 rw[this k (Ad _),if_pos h]
def EV(k:Nat):Both k (tl k un) (tl k un):=by
 rw[CT];refine⟨fun s t b c=>?_,fun i j hi d=>?_⟩
 ·have:∀n,n<=k->sm un (fun a=>un a s) n t=if s<n then dl s t else 0:=by
   intro n
   induction n with
   |zero=>intro _;rw[if_neg ω];rfl
   |succ n ih=>
    intro f;show sm un (fun a=>un a s) n t+dl n s*dl n t=_;rw[ih ω]
    by_cases e:n=s
    ·subst e;rw[if_neg ω,if_pos ω];unfold dl;rw[if_pos rfl];(first|lia|omega)
    ·have z:dl n s=0:=by unfold dl;rw[if_neg e]
     rw[z]
     by_cases h2:s<n
     ·rw[if_pos h2,if_pos ω];(first|lia|omega)
     ·rw[if_neg h2,if_neg ω];(first|lia|omega)
  rw[this k (Ad _),if_pos b]
 ·rw[Iv hi]
  show dl j i=dl i j;unfold dl
  by_cases e:i=j
  ·rw[if_pos e,if_pos e.symm]
  ·rw[if_neg e,if_neg (fun z=>e z.symm)]
def EW{k w i u:Nat}{A:Nat->Vc}(hi:i<k)(a:u<w):aT k w A (un i) (un u)=A i u:=by
 unfold aT;rw[Iv hi];have:dot w (A i) (un u)=dot w (A i) (fun s=>dl s u):=zB fun t _=>by
  show dl u t=dl t u;unfold dl
  by_cases e:u=t
  ·rw[if_pos e,if_pos e.symm]
  ·rw[if_neg e,if_neg (fun z=>e z.symm)]
 rw[this];exact EH a
noncomputable def pp(P:List Nat)(i:Nat):Nat:=P.getD i 0
section
variable{P:List Nat}{n:Nat}
def oR(a:P.length=n){i:Nat}(h:i<n):pp P i∈P:=by unfold pp;rw[Ac,Ab ω];exact Az _
def MZ(a:P.length=n){p:Nat}(h:p∈P):∃i,i<n/\pp P i=p:=by
 obtain⟨i,hi,rfl⟩:=A9 h;exact⟨i,ω,by unfold pp;rw[Ac,Ab hi];rfl⟩
def hH(b:P.length=n)(a:P.Pairwise (·<·)){i j:Nat}(h:i<j)(c:j<n):pp P i<pp P j:=by
 unfold pp;rw[Ac,Ac,Ab ω,Ab ω];exact List.pairwise_iff_getElem.mp a i j ω ω h
def EX(a:P.length=n):P=(Ah n).map (pp P):=by
 apply AT
 ·simp[a]
 ·intro i h1 h2
  rw[AW,A0];unfold pp;rw[Ac,Ab h1];rfl
noncomputable def cut(m:Nat)(P:List Nat):Nat:=(P.filter fun p=>decide (p<m)).length
def EY(d:P.Pairwise (·<·)){m:Nat}(f:P.length=n):cut m P<=n/\(∀i,i<cut m P->pp P i<m)/\∀i,cut m P<=i->i<n->m<=pp P i:=by
 have:∀P:List Nat,P.Pairwise (·<·)->cut m P<=P.length/\(∀i,i<cut m P->pp P i<m)/\∀i,cut m P<=i->i<P.length->m<=pp P i:=by
  intro P
  induction P with
  |nil=>intro _;exact⟨Ad _,fun i hi=>absurd hi (Nat.not_lt_zero _),fun i _ hi=>absurd hi (Nat.not_lt_zero _)⟩
  |cons p P ih=>
   intro d;rw[Ba] at d;obtain⟨a,b,c⟩:=ih d.2
   by_cases h:p<m
   ·have e:cut m (p::P)=cut m P+1:=by unfold cut;rw[List.filter_cons,if_pos (decide_eq_true h)];rfl
    rw[e,AN];refine⟨ω,fun i hi=>?_,fun i h1 h2=>?_⟩
    ·cases i with
     |zero=>exact h
     |succ i=>exact b i ω
    ·cases i with
     |zero=>(first|lia|omega)
     |succ i=>exact c i ω ω
   ·have e:cut m (p::P)=0:=by
     unfold cut;rw[List.filter_cons,if_neg (by simpa using h),List.filter_eq_nil_iff.mpr fun q hq=>?_]
     ·rfl
     ·have:=d.1 q hq
      simp;(first|lia|omega)
    rw[e];refine⟨Aw _,fun i hi=>absurd hi (Nat.not_lt_zero _),fun i _ h2=>?_⟩;cases i with
    |zero=>exact Nat.le_of_not_lt h
    |succ i=>
     rw[AN] at h2;have:pp P i∈P:=oR rfl ω;have:=d.1 _ this;show m<=pp P i;(first|lia|omega)
 have h:=this P d;rw[f] at h;exact h
end
def M0(a b:List Nat)(h:∀t∈b,1<=t):pr a<=pr (a++b):=by
 rw[uB];have:1<=pr b:=by
  clear a
  induction b with
  |nil=>exact Ad _
  |cons t b ih=>exact ol (h t (.head _)) (ih fun x hx=>h x (.tail _ hx))
 exact Nat.le_mul_of_pos_right _ this
section
variable{k w N M X B:Nat}{A f:Nat->Vc}{P:List Nat}
structure N0(A:Nat->Vc)(k w r b:Nat)(S U:Nat->Vc)(Bn:List Vc)(Q q:Nat->Nat):Prop where
 rk:r<=k
 rw:r<=w
 bl:∀i u,i<k->u<w->S i u=aT k w A (U i) (un u)
 bu:Both k (tl k U) Bn
 ku:Ker k r 1 b U Q
 z:∀i u,r<=i->i<k->u<w->S i u=0
 qw:∀i,i<r->q i<w
 ql:∀i j,i<j->j<r->q i<q j
 sz:∀i u,i<r->u<q i->S i u=0
 sp:∀i,i<r->0<S i (q i)
def M3(F:FS N M X B (tl k (glue w A un)) P f):N0 A k w (cut w P) B (fun i=>f (pp P i)) (fun i t=>f (pp P i) (w+t)) (lI k ((tl k (glue w A un)).map fun r=>shr f P r) (tl k un)) (fun a=>pp P (cut w P+a)-w) (pp P):=by
 have g:P.length=k:=by rw[F.len];exact iw
 obtain⟨c1,o,l⟩:=EY (m:=w) F.srt g;have b:∀{i},i<k->pp P i∈P:=fun hi=>oR g hi;have q:∀i,i<k->i<=pp P i:=by
  intro i
  induction i with
  |zero=>intro _;exact Aw _
  |succ i ih=>intro hi;have:=ih ω;have:=hH g F.srt (show i<i+1 from ω) hi;(first|lia|omega)
 have hw:cut w P<=w:=by
  rcases Nat.eq_zero_or_pos (cut w P) with z|z
  ·(first|lia|omega)
  ·have h1:=o (cut w P-1) ω
   have h2:=q (cut w P-1) ω;(first|lia|omega)
 have hq:∀a,a<k-cut w P->w+(pp P (cut w P+a)-w)=pp P (cut w P+a):=fun a h=>by have:=l (cut w P+a) ω ω;(first|lia|omega)
 refine⟨c1,hw,fun i u hi d=>?_,?_,⟨fun a c h1 h2=>?_,fun a u h d=>?_,fun a h=>?_,fun a c h1 h2=>?_,fun i a hi h=>?_,fun a h=>?_⟩,fun i u h1 h2 s=>F.ech.z _ (b h2) u (by have:=l i h1 h2;(first|lia|omega)),o,fun i j h1 h2=>hH g F.srt h1 ω,fun i u hi d=>F.ech.z _ (b ω) u d,fun i hi=>F.ech.pos _ (b ω)⟩
 ·refine Il (T:=fun u i=>A i u) (U:=un) (V:=un) F (fun u i d hi=>(EW hi d).symm) _ (b hi) u d
 ·have:=CQ F (EV k)
  have e:(P.map fun p=>fun t=>f p (w+t))=tl k (fun i t=>f (pp P i) (w+t)):=by
   have:=EX g
   conv=>lhs;rw[this]
   rw[AS];rfl
  rw[e] at this;exact this
 ·have:=hH g F.srt (show cut w P+a<cut w P+c from ω) ω
  have:=l (cut w P+a) ω ω;show pp P (cut w P+a)-w<pp P (cut w P+c)-w;(first|lia|omega)
 ·have d:u<pp P (cut w P+a)-w:=d
  exact F.ech.z _ (b ω) (w+u) ω
 ·show 0<f (pp P (cut w P+a)) (w+(pp P (cut w P+a)-w))
  rw[hq a h];exact F.ech.pos _ (b ω)
 ·show 0<=f (pp P (cut w P+a)) (w+(pp P (cut w P+c)-w))/\f (pp P (cut w P+a)) (w+(pp P (cut w P+c)-w))<f (pp P (cut w P+c)) (w+(pp P (cut w P+c)-w))
  rw[hq c h2];exact F.red _ (b ω) _ (b ω) (hH g F.srt ω ω)
 ·show(f (pp P i) (w+(pp P (cut w P+a)-w))).natAbs<=1*(f (pp P (cut w P+a)) (w+(pp P (cut w P+a)-w))).natAbs
  rw[hq a h];have:=F.red _ (b (show i<k from ω)) _ (b (show cut w P+a<k from ω)) (hH g F.srt ω ω);(first|lia|omega)
 ·show(f (pp P (cut w P+a)) (w+(pp P (cut w P+a)-w))).natAbs<=B
  rw[hq a h];exact F.piv _ (b ω)
def M4(g:1<=M)(hi:i7 (tl k (glue w A un)))(hb:∀r∈tl k (glue w A un),∀u,(r u).natAbs<=M)(F:FS N M X B (tl k (glue w A un)) P f):∀m,m<=cut w P->pr ((Ah m).map fun i=>(f (pp P i) (pp P i)).toNat)<=(2*(k*M)+1) ^ k:=fun m j=>by
 have b:P.length=k:=by rw[F.len];exact iw
 obtain⟨c1,_,_⟩:=EY (m:=w) F.srt b;have h:=MR g hi F.ech F.srt F.gen F.len fun r hr p _=>hb r hr p;rw[iw] at h;have e:(P.map fun p=>(f p p).toNat)=((Ah m).map fun i=>(f (pp P i) (pp P i)).toNat)++((Ah (k-m)).map fun a=>(f (pp P (m+a)) (pp P (m+a))).toNat):=by
  have:=EX b
  conv=>lhs;rw[this]
  rw[AS];apply AT
  ·simp;(first|lia|omega)
  ·intro i h1 h2
   rw[AW,A0]
   by_cases hi:i<m
   ·rw[List.getElem_append_left (by simpa using hi),AW,A0];rfl
   ·rw[List.getElem_append_right (by simp;(first|lia|omega)),AW,A0,Aa,A8,show m+(i-m)=i from ω];rfl
 rw[e] at h;refine Ag (M0 _ _ fun t d=>?_) h;obtain⟨a,c,rfl⟩:=List.mem_map.mp d;have c:=List.mem_range.mp c;have:=F.ech.pos _ (oR b (show m+a<k from ω));(first|lia|omega)
def M5{r b D N2 M2 X2 B2:Nat}{S U f2:Nat->Vc}{Bn:List Vc}{Q q:Nat->Nat}{P2:List Nat}(I:N0 A k w r b S U Bn Q q)(Y:∀m,m<=r->pr ((Ah m).map fun i=>(S i (q i)).toNat)<=D)(F:FS N2 M2 X2 B2 (tl w (glue k (fun u i=>S i u) un)) P2 f2):cut k P2=r/\(∀i,i<r->pp P2 i=i)/\LI A k w r D b B2 1 (fun u=>f2 (pp P2 u)) U (fun u t=>f2 (pp P2 u) (k+t)) Bn (lI w ((tl w (glue k (fun u i=>S i u) un)).map fun r=>shr f2 P2 r) (tl w un)) Q (fun a=>pp P2 (r+a)-k):=by
 have rk:=I.rk;have o:P2.length=w:=by rw[F.len];exact iw
 obtain⟨c1,N,E⟩:=EY (m:=k) F.srt o;have d:∀{i},i<w->pp P2 i∈P2:=fun hi=>oR o hi;have sp:∀p∈P2,Sp (tl w (glue k (fun u i=>S i u) un)) (f2 p):=fun p hp=>(F.fr p hp).sp;have row:∀u,u<w->Sp (tl w (glue k (fun u i=>S i u) un)) (glue k (fun u i=>S i u) un u):=fun u f=>Sp.mem (List.mem_map.mpr ⟨u,List.mem_range.mpr f,rfl⟩);have zero:∀v,Sp (tl w (glue k (fun u i=>S i u) un)) v->∀i,r<=i->i<k->v i=0:=fun v C i h1 h2=>by
  obtain⟨c,_,e⟩:=C;rw[e];refine zM _ _ fun x hx=>?_;obtain⟨u,f,rfl⟩:=List.mem_map.mp hx;rw[zS h2];exact I.z i u h1 h2 (List.mem_range.mp f)
 have J:∀i j,i<r->i<j->j<k->glue k (fun u i=>S i u) un (q i) j=0:=fun i j hi h1 h2=>by
  rw[zS h2]
  by_cases h:j<r
  ·exact I.sz j (q i) h (I.ql i j h1 h)
  ·exact I.z j (q i) ω h2 (I.qw i hi)
 have lt:Lt (Sp (tl w (glue k (fun u i=>S i u) un))):=⟨Sp.zero,fun m C hw=>C.sub hw m⟩;have M:∀i,i<r->0<glue k (fun u i=>S i u) un (q i) i:=fun i hi=>by rw[zS ω];exact I.sp i hi
 have l:∀j,j<r->j∈P2:=fun j y=>by
  obtain⟨v,O,P,W⟩:=alone (L:=fun i=>glue k (fun u i=>S i u) un (q i)) lt rk (fun i hi=>row _ (I.qw i hi)) M J j y;exact Iu F.ech F.srt (O.trans F.gen) (fun u f=>W u ω ω) P
 have lo:∀p∈P2,p<k->p<r:=fun p hp h=>by
  rcases Be p r with g|g
  ·exact g
  ·have:=zero _ (sp p hp) p g h
   have:=F.ech.pos p hp;(first|lia|omega)
 have two:∀i,i<r->i<w/\pp P2 i=i:=by
  intro i
  induction i using Nat.strongRecOn with
  |_ i ih=>
   intro hi;obtain⟨j,y,e⟩:=MZ o (l i hi);have h1:i<=j:=by
    rcases Be j i with g|g
    ·have:=(ih j g ω).2;(first|lia|omega)
    ·exact g
   have h2:j<=i:=by
    rcases Be i j with g|g
    ·have G:=hH o F.srt g y
     rw[e] at G;obtain⟨_,e2⟩:=ih (pp P2 i) G ω;rcases Nat.lt_trichotomy (pp P2 i) i with g2|g2|g2
     ·have:=hH o F.srt g2 ω;(first|lia|omega)
     ·(first|lia|omega)
     ·(first|lia|omega)
    ·exact g
   have:j=i:=ω
   subst this;exact⟨y,e⟩
 have X:cut k P2=r:=by
  rcases Nat.lt_trichotomy (cut k P2) r with g|g|g
  ·have:=E (cut k P2) (Ad _) (two _ g).1
   rw[(two _ g).2] at this;(first|lia|omega)
  ·exact g
  ·have h1:=N r g
   have h2:=lo _ (d ω) h1;have G:r<=pp P2 r:=by
    rcases Nat.eq_zero_or_pos r with z|z
    ·(first|lia|omega)
    ·have:=hH o F.srt (show r-1<r from ω) ω
     rw[(two (r-1) ω).2] at this;(first|lia|omega)
   (first|lia|omega)
 have hq:∀a,a<w-r->k+(pp P2 (r+a)-k)=pp P2 (r+a):=fun a s=>by have:=E (r+a) ω ω;(first|lia|omega)
 refine⟨X,fun i hi=>(two i hi).2,I.rk,I.rw,Ad 1,fun u i f hi=>?_,I.bu,?_,I.ku,⟨fun a c h1 h2=>?_,fun a u s f=>?_,fun a s=>?_,fun a c h1 h2=>?_,fun i a hi s=>?_,fun a s=>?_⟩,fun u f=>?_,fun u i f hi=>?_,fun u i h1 h2=>?_,fun u i f hi h=>?_,fun m H=>?_⟩
 ·exact Im (T:=S) (U:=U) (V:=un) F I.bl _ (d f) i hi
 ·have:=CQ F (EV w)
  have e:(P2.map fun p=>fun t=>f2 p (k+t))=tl w (fun u t=>f2 (pp P2 u) (k+t)):=by
   have:=EX o
   conv=>lhs;rw[this]
   rw[AS];rfl
  rw[e] at this;exact this
 ·have:=hH o F.srt (show r+a<r+c from ω) ω
  have:=E (r+a) ω ω;show pp P2 (r+a)-k<pp P2 (r+c)-k;(first|lia|omega)
 ·have f:u<pp P2 (r+a)-k:=f
  exact F.ech.z _ (d ω) (k+u) ω
 ·show 0<f2 (pp P2 (r+a)) (k+(pp P2 (r+a)-k))
  rw[hq a s];exact F.ech.pos _ (d ω)
 ·show 0<=f2 (pp P2 (r+a)) (k+(pp P2 (r+c)-k))/\f2 (pp P2 (r+a)) (k+(pp P2 (r+c)-k))<f2 (pp P2 (r+c)) (k+(pp P2 (r+c)-k))
  rw[hq c h2];exact F.red _ (d ω) _ (d ω) (hH o F.srt ω ω)
 ·show(f2 (pp P2 i) (k+(pp P2 (r+a)-k))).natAbs<=1*(f2 (pp P2 (r+a)) (k+(pp P2 (r+a)-k))).natAbs
  rw[hq a s];have:=F.red _ (d (show i<w from ω)) _ (d (show r+a<w from ω)) (hH o F.srt ω ω);(first|lia|omega)
 ·show(f2 (pp P2 (r+a)) (k+(pp P2 (r+a)-k))).natAbs<=B2
  rw[hq a s];exact F.piv _ (d ω)
 ·show 0<f2 (pp P2 u) u
  rw[(two u f).2];exact F.ech.pos u (l u f)
 ·show f2 (pp P2 u) i=0
  rw[(two u f).2];exact F.ech.z u (l u f) i hi
 ·show 0<=f2 (pp P2 u) i/\f2 (pp P2 u) i<f2 (pp P2 i) i
  rw[(two u ω).2,(two i h2).2];exact F.red u (l u ω) i (l i h2) h1
 ·show f2 (pp P2 u) i=0
  by_cases Z:u<r
  ·exact zero _ (sp _ (d f)) i ω hi
  ·exact F.ech.z _ (d f) i (by have:=E u ω f;(first|lia|omega))
 ·have T:Two (Sp (tl w (glue k (fun u i=>S i u) un))) r (fun i=>glue k (fun u i=>S i u) un (q i)) f2:=
   ⟨lt,fun i hi=>row _ (I.qw i hi),M,fun i j h1 h2=>J i j ω h1 ω,fun i hi=>sp i (l i hi),fun i hi=>F.ech.pos i (l i hi),fun i j hi y=>F.ech.z i (l i hi) j y,fun v i C hi hz=>jP F.ech F.srt (l i hi) (C.trans F.gen) fun p _ hp=>hz p hp⟩
  have e1:tn (fun u=>f2 (pp P2 u)) m=tn f2 m:=iv fun i hi=>by show f2 (pp P2 i) i=f2 i i;rw[(two i ω).2]
  have e2:tn (fun i=>glue k (fun u i=>S i u) un (q i)) m=(Ah m).map fun i=>(S i (q i)).toNat:=by
   unfold tn;exact A4 fun i hi=>by
    show(glue k (fun u i=>S i u) un (q i) i).toNat=_;rw[zS (by have:=List.mem_range.mp hi;(first|lia|omega))]
  rw[e1];have:=EK T H;rw[e2] at this;exact Ag this (Y m H)
end
noncomputable def mu(T:Nat->Vc):Nat->Nat
 |0=>0
 |r+1=>mu T r+Nat.log2 (pr (tn T (r+1)))
def EZ{a b:Nat}(c:1<=a)(h:a<=b):a.log2<=b.log2:=by
 rcases Be b.log2 a.log2 with g|g
 ·have h1:=(Nat.log2_lt (show b≠0 from ω)).mp g
  have h2:=Nat.log2_self_le (show a≠0 from ω);(first|lia|omega)
 ·exact g
def M6{a b:Nat}(c:1<=a)(h:2*a<=b):a.log2+1<=b.log2:=by
 rcases Be b.log2 (a.log2+1) with g|g
 ·have h1:=(Nat.log2_lt (show b≠0 from ω)).mp g
  have h2:=Nat.log2_self_le (show a≠0 from ω);rw[Nat.pow_succ] at h1;(first|lia|omega)
 ·exact g
def E3{T T':Nat->Vc}:∀r,(∀i,i<r->0<T' i i)->(∀m,m<=r->pr (tn T' m)<=pr (tn T m))->mu T' r<=mu T r
 |0,_,_=>Ad _
 |r+1,hp,h=>by
  have h1:=E3 r (fun i hi=>hp i ω) fun m a=>h m ω;have h2:=EZ (oN (k:=r+1) hp) (h (r+1) (Ad _));show mu T' r+_<=mu T r+_;(first|lia|omega)
def E4{T T':Nat->Vc}:∀r,(∀i,i<r->0<T' i i)->(∀m,m<=r->pr (tn T' m)<=pr (tn T m))->(∃m,m<=r/\2*pr (tn T' m)<=pr (tn T m))->mu T' r+1<=mu T r
 |0,_,_,⟨m,b,h⟩=>by
  have:m=0:=ω
  subst this;have h:2*1<=1:=h;(first|lia|omega)
 |r+1,hp,h,⟨m,b,hh⟩=>by
  have a:∀i,i<r->0<T' i i:=fun i hi=>hp i ω;show mu T' r+_+1<=mu T r+_
  by_cases e:m=r+1
  ·subst e
   have h1:=E3 (T:=T) r a fun m b=>h m ω;have h2:=M6 (oN (k:=r+1) hp) hh;(first|lia|omega)
  ·have h1:=E4 r a (fun m b=>h m ω) ⟨m,ω,hh⟩
   have h2:=EZ (oN (k:=r+1) hp) (h (r+1) (Ad _));(first|lia|omega)
def Iw{T:Nat->Vc}{D:Nat}:∀r,(∀i,i<r->0<T i i)->(∀m,m<=r->pr (tn T m)<=D)->mu T r<=r*D.log2
 |0,_,_=>Aw _
 |r+1,hp,h=>by
  have h1:=Iw r (fun i hi=>hp i ω) fun m a=>h m ω;have h2:=EZ (oN (k:=r+1) hp) (h (r+1) (Ad _));show mu T r+_<=(r+1)*D.log2;rw[Nat.add_mul];(first|lia|omega)
def Dg(r:Nat)(T:Nat->Vc):Prop:=∀u i,u<r->i<r->u≠i->T u i=0
open Classical in
noncomputable def ms(r:Nat)(T:Nat->Vc):Nat:=2*mu T r+if Dg r T then 0 else 1
section
variable{A T U V f1 f2:Nat->Vc}{k w r D bU bV g M N X B M2 X2 B2:Nat}{Bn Bf:List Vc}{QU QV:Nat->Nat}{P1 P2:List Nat}
def M7(I:LI A k w r D bU bV g T U V Bn Bf QU QV)(hd:¬Dg r T)(Tr:Tri k r w M g (glue w (fun i u=>T u i) U) (fun a=>w+QU a))(l:FS N M X B (tl k (glue w (fun i u=>T u i) U)) P1 f1)(j:Tri w r k M2 1 (glue k (fun u i=>f1 (pls r w QU i) u) V) (fun a=>k+QV a))(o:FS N M2 X2 B2 (tl w (glue k (fun u i=>f1 (pls r w QU i) u) V)) P2 f2):ms r (fun u=>f2 (pls r k QV u))<ms r T:=by
 obtain⟨_,L,c,h1⟩:=I.near_done Tr l;obtain⟨_,J,f,h2⟩:=L.far_done j o;have le:=fun m b=>Ag (f m b) (c m b);unfold ms;rw[if_neg hd]
 by_cases d:∃m,m<=r/\2*pr (tn (fun u=>f2 (pls r k QV u)) m)<=pr (tn T m)
 ·have:=E4 r J.tp le d
  split<;>(first|lia|omega)
 ·have:=E3 r J.tp le
  have dg:Dg r (fun u=>f2 (pls r k QV u)):=by
   rcases h2 with ⟨m,b,h⟩|h
   ·exact absurd ⟨m,b,Ag h (c m b)⟩ d
   ·exact fun u i e hi ne=>(h u e).2 i hi (Ne.symm ne)
  rw[if_pos dg];(first|lia|omega)
def M8{C:Nat->Vc}(I:LI A k w r D bU bV g T U V (tl k C) Bf QU QV)(hr:1<=r)(hd:Dg r T)(l:¬∀i,i+1<r->T i i ∣ T (i+1) (i+1))(c:Tri w r k M2 1 (glue k (fun u i=>aT k w A (b0 U r (r-1) i) (V u)) V) (fun a=>k+QV a))(d:FS N M2 X2 B2 (tl w (glue k (fun u i=>aT k w A (b0 U r (r-1) i) (V u)) V)) P2 f2):ms r (fun u=>f2 (pls r k QV u))<ms r T:=by
 obtain⟨L,val⟩:=I.slid hr hd;obtain⟨_,J,f,h2⟩:=L.far_done c d;have rk:=I.rk;have o:=I.rw;have e:∀m,m<=r->tn (fun i u=>aT k w A (b0 U r (r-1) i) (V u)) m=tn T m:=fun m b=>iv fun i hi=>by
  show aT k w A (b0 U r (r-1) i) (V i)=T i i;rw[val i i ω ω,if_pos ⟨Ad _,ω⟩]
 have le:∀m,m<=r->pr (tn (fun u=>f2 (pls r k QV u)) m)<=pr (tn T m):=fun m b=>by rw[<-e m b];exact f m b
 unfold ms;rw[if_pos hd];have j:∃m,m<=r/\2*pr (tn (fun u=>f2 (pls r k QV u)) m)<=pr (tn T m):=by
  rcases h2 with ⟨m,b,h⟩|h
  ·exact⟨m,b,by rw[<-e m b];exact h⟩
  ·refine absurd (fun i hi=>?_) l
   have:=MY L c d h (i:=i) (u:=i+1) ω ω;have this:aT k w A (b0 U r (r-1) i) (V i) ∣ aT k w A (b0 U r (r-1) i) (V (i+1)):=this
   rwa [val i i ω ω,val i (i+1) ω ω,if_pos ⟨Ad _,ω⟩,if_pos ⟨ω,ω⟩] at this
 have:=E4 r J.tp le j;split<;>(first|lia|omega)
end
section
variable{N M X B:Nat}{R:List Vc}{P:List Nat}{f:Nat->Vc}{l:Vc}
def oV:cM N M X B<=cE N M X B:=Bh _ _
def E5(a:1<=B):cK N M X B<=cM N M X B:=Nat.le_mul_of_pos_right _ (Nat.pow_pos (CK a))
def FS.mid{r:Vc}(c:1<=B)(F:FS N M X B R P f)(d:R.length<N)(hr:∀p∈P,(r p).natAbs<=M)(i:Nat):Rep (R++[r]) (cE N M X B) (aZ f (P.take i) r):=by
 have a:(P.take i).length<=N:=by have:=F.len;rw[List.length_take];(first|lia|omega)
 obtain⟨b,_⟩:=lD (R:=R++[r]) (fun p hp=>(F.fr p hp).more) F.fv F.ech.pos (P.take i) (fun q hq=>List.mem_of_mem_take hq) (Rep.mem (AE R (List.mem_singleton.mpr rfl))) hr;refine b.mono (Ag ?_ (Ag (E5 c) oV));unfold cK;have h1:(1+B) ^ (P.take i).length<=(1+B) ^ N:=AJ ω a;have h2:(P.take i).length*(M*(1+B) ^ (P.take i).length*cC N X B)<=N*(M*(1+B) ^ N*cC N X B):=AO a (Am _ (Al _ h1));(first|lia|omega)
structure Mid(N M X B:Nat)(R:List Vc)(P:List Nat)(f:Nat->Vc)(m:Vc)(a b c d:Int):Prop where
 ech:Ech P f
 fr:∀q∈P,Rep R (cE N M X B) (f q)
 piv:∀q∈P,(f q q).natAbs<=B
 met:∀i,Rep R (cE N M X B) (aZ f (P.take i) m)
 a1:a.natAbs<=B
 b1:b.natAbs<=B
 c1:c.natAbs<=B
 d1:d.natAbs<=B
def TS.mid{t p:Nat}{g a b c d:Int}(C:1<=B)(T:TS N M X B R P f l t)(hp:p∈P)(s:∀i,i<p->l i=0)(oO:l p≠0)(D:t<=p)(G:GI (f p p) (l p) g a b 0 c d):Mid N M X B R P (put f p (mix a (f p) b l)) (mix c (f p) d l) a b c d:=by
 obtain⟨T2,o⟩:=T.next C hp s oO D G;have H:=CK (N:=N) C;obtain⟨r0,r1⟩:=T.red p hp;have w:=T.piv p hp;obtain⟨c1,E⟩:=G.le;have a1:a.natAbs<=B:=Ag G.b1 ω;have x:b.natAbs<=B:=Ag G.b2 w;have c1:c.natAbs<=B:=Ag c1 ω;have d1:d.natAbs<=B:=Ag E w;have I:∀q∈P,(l q).natAbs<=B:=fun q hq=>by have:=T.red q hq;have:=T.piv q hq;(first|lia|omega)
 have J:=T.fo p hp D;have L:∀{a b:Int},a.natAbs<=B->b.natAbs<=B->∀q∈P,(mix a (f p) b l q).natAbs<=2*B*B:=fun{a b} u hb q hq=>by
  have O:(a*f p q).natAbs<=B*B:=by rw[AI];exact AO u (J q hq)
  have S:(b*l q).natAbs<=B*B:=by rw[AI];exact AO hb (I q hq)
  have t3:=Int.natAbs_add_le (a*f p q) (b*l q);show(a*f p q+b*l q).natAbs<=_;rw[AQ];generalize B*B=Y at O S ⊢;(first|lia|omega)
 have U:P.length<=N:=by have:=T.len;have:=T.few;(first|lia|omega)
 have cnt:(P.filter fun q=>decide (q<t)).length+1<=N:=by
  have h1:=T.len;have h2:=T.few;have:=List.length_filter_le (fun q=>decide (q<t)) P;(first|lia|omega)
 generalize hK:cK N M X B*cG N B ^ (P.filter fun p=>decide (p<t)).length=K;have fr:=T.fr;have y:=T.lr;rw[hK] at fr y;have z:∀{a b:Int},a.natAbs<=B->b.natAbs<=B->Rep R (2*B*K) (mix a (f p) b l):=fun{a b} u hb=>((fr p hp).lin y u hb).mono (by rw[AQ];(first|lia|omega));have W:K<=2*B*K:=Nat.le_mul_of_pos_left _ ω;have A:∀q∈P,Rep R (2*B*K) (put f p (mix a (f p) b l) q):=fun q hq=>by
  by_cases e:q=p
  ·subst e;rw[zO];exact z a1 x
  ·rw[dD e];exact(fr q hq).mono W
 have h:∀n,n<=N->2*B*K+n*(2*B*B*(1+2*B*B) ^ n*(2*B*K))<=cG N B*K:=fun n v=>by
  unfold cG cW;have h1:(1+2*B*B) ^ n<=(1+2*B*B) ^ N:=AJ ω v;generalize 2*B*B=Y at h1 ⊢;have h2:n*(Y*(1+Y) ^ n*(2*B*K))<=N*(Y*(1+Y) ^ N*(2*B*K)):=AO v (Am _ (Al _ h1));refine Ag (Nat.add_le_add_left h2 _) (Nat.le_of_eq ?_);generalize Y*(1+Y) ^ N=Z;generalize 2*B=Q;rw[Nat.mul_add,Nat.mul_one,Nat.add_mul,<-AQ N Z,Nat.mul_comm Q (N*Z),AQ (N*Z)]
 have j:cG N B*K<=cE N M X B:=by
  refine Ag ?_ oV;rw[<-hK,Nat.mul_left_comm,<-Nat.pow_succ'];exact Al _ (AJ H cnt)
 have two:2*B*K<=cG N B*K:=Ag (Bh _ _) (h 0 ω);refine⟨o,fun q hq=>(A q hq).mono (Ag two j),T2.piv,fun i=>?_,a1,x,c1,d1⟩;have hi:(P.take i).length<=N:=by rw[List.length_take];(first|lia|omega)
 obtain⟨F,_⟩:=lD A (fun q hq r hr=>T2.fv q hq r hr) o.pos (P.take i) (fun q hq=>List.mem_of_mem_take hq) (z c1 d1) (L c1 d1);exact F.mono (Ag (h _ hi) j)
def TS.rep{t:Nat}(a:1<=B)(T:TS N M X B R P f l t):(∀p∈P,Rep R (cE N M X B) (f p))/\Rep R (cE N M X B) l:=
 ⟨fun p hp=>(T.fr p hp).mono (Ag (T.cnt a) oV),T.lr.mono (Ag (T.cnt a) oV)⟩
end
def TS.nz{N M X B Y t:Nat}{R:List Vc}{P:List Nat}{f:Nat->Vc}{l:Vc}(T:TS N M X B R P f l t)(hi:i7 R)(hb:∀r∈R,∀u,(r u).natAbs<=Y):∃u,l u≠0:=by
 refine AA fun no=>?_;have z:∀u,l u=0:=fun u=>AA fun h=>no ⟨u,h⟩;have e:∀r∈R,Sp (P.map f) r:=fun r hr=>(T.gen r hr).trans fun s a=>by
  rcases List.mem_append.mp a with h|h
  ·exact Sp.mem h
  ·rw[List.mem_singleton.mp h];exact Sp.zero.eq z
 obtain⟨c,h1,⟨x,hx,d⟩,h2,_⟩:=g0 (M:=Y+1) ω (fun v b p _=>Nat.le_succ_of_le (hb v b p)) (show P.length<R.length by have:=T.len;(first|lia|omega));exact d (CH hi T.ech T.srt e c h1 h2 x hx)
end Tb
end
section
namespace L2
open PySem PySem.Spec PyProof.Rows
noncomputable def oY(hi:Int)(n:Nat):It:=⟨fun i _=>i<n,fun i H x H'=>H'=H/\x=.int (hi-i),fun i _=>n<=i⟩
def M9{P:Program}{w:World}{K:Af}{tg:Expr}(it:Addr)(lo:Int)(n:Nat):Turn P w K tg (oY lo n) [it] it (fun i h=>IsRangeIter h it (lo+(i:Nat)*(-1)) ((n:Int)-(i:Nat)) (-1)) where
 mem:=by simp
 obj:=fun i h st b hb=>by
  have e:b=it:=by simpa using hb
  subst e;exact⟨_,st,fun v z=>by
   have x:Data.fields _=Data.cell v:=z;cases x⟩
 keep:=fun i h h' st k=>k it (by simp) _ st
 item:=by
  intro X c hw d hc i aa s σ H E I a st hg;subst c hw d;obtain⟨f,f1,f2,g,j,l⟩:=a it (by simp);have W:=Walks.range (prog:=X.prog) (w:=X.w) (I.ok.hd hc) it lo (-1) n;refine W.item i s _ _ hg st fun v h' tk q p r=>?_;obtain⟨t,rfl⟩:=q;have y:Inv X aa σ H {s with heap:=h',toks:=tk}:=I.turned (fun b o hb e=>r b o (by simpa using hb) e) f f1 g j l;refine⟨_,rfl,BN (s:={s with heap:=h',toks:=tk}) (n:="range_iterator") p rfl rfl ξ ⟨.int (lo-i),H,y,⟨t,?_⟩,⟨rfl,rfl⟩,p,fun b hb=>(a b hb).1⟩⟩;rw[show lo+(i:Int)*(-1)=lo-i from ω]
 done:=by
  intro X c hw d hc i aa s σ H E I a st hg;subst c hw d;obtain⟨f,f1,f2,g,j,l⟩:=a it (by simp);exact wpAny_pyNext_range_end (I.ok.hd hc) st (by have:n<=i:=hg;(first|lia|omega)) fun h' u=>⟨rfl,I.turned (t':=s.toks) (fun b o hb e=>u b o hb e) f f1 g j l⟩
 self:=fun _ _ _ _ _ st h=>wpAny_pyIter_rangeiter st h
section
variable{X:Cx}{tg:Expr}
def M_{aa:Ψ}{σ:St}{H:Hp}{s:Shared}{R:It->Hp->Prop}{E:Ω}{lo hi:Int}{t u v:Tok}{tk:Nat}(I:Inv X aa σ H s)(h1:-(2 ^ 62)<=lo)(h2:lo<2 ^ 62)(a:-(2 ^ 62)<=hi)(c:hi<2 ^ 62)(q:R (oY lo (lo-hi).toNat) H):wpAny (model X.prog X.w) X.A (pyIter (.ref s⁻¹)) (DE X aa σ tg R) E {s with heap:=s.heap.push {cls:=.type "range",data:=.fields #[.int lo t,.int hi u,.int (-1) v]},toks:=tk}:=by
 refine wpAny_pyIter_range (IsRange.new ..) (PySem.W.small_down h1 h2 a c) ?_;have I1:Inv X aa σ H {s with heap:=s.heap.push {cls:=.type "range",data:=.fields #[.int lo t,.int hi u,.int (-1) v]},toks:=tk}:=I.kept fun b o e=>Ai _ e;refine⟨(s.heap.push {cls:=.type "range",data:=.fields #[.int lo t,.int hi u,.int (-1) v]}).objs.size,[(s.heap.push {cls:=.type "range",data:=.fields #[.int lo t,.int hi u,.int (-1) v]}).objs.size],_,_,H,rfl,
  I1.kept (t':=tk) fun b o e=>Ai _ e,M9 _ lo (lo-hi).toNat,?_,fun b hb=>?_,q⟩
 ·have e1:lo+((0:Nat):Int)*(-1)=lo:=by simp
  have e2:(((lo-hi).toNat:Nat):Int)-((0:Nat):Int)=Builtin.Range.rangeSize lo hi (-1):=by rw[PySem.W.rangeSize_downNat];(first|lia|omega)
  show IsRangeIter _ _ (lo+((0:Nat):Int)*(-1)) ((((lo-hi).toNat:Nat):Int)-((0:Nat):Int)) (-1);rw[e1,e2];exact AH _ rfl
 ·have e:b=(s.heap.push {cls:=.type "range",data:=.fields #[.int lo t,.int hi u,.int (-1) v]}).objs.size:=by simpa using hb
  subst e;exact I1.fpOk (Ad _) (I1.hok.fresh (Ad _))
def M'(ta:TA):TI:=fun σ H R=>ta σ H fun vs H1=>∃i j:Int,vs=[.int i,.int j,.int (-1)]/\(-(2 ^ 62)<=i/\i<2 ^ 62/\-(2 ^ 62)<=j/\j<2 ^ 62)/\R (oY i (i-j).toNat) H1
def Ix{a b c:Expr}{ta:TA}{p pos:Pos}(hg:Gl X "range")(v:X.mg "range"=none)(w:PA X [a,b,c] ta)(x:starEach [a,b,c] X.env=[(false,eval a X.env),(false,eval b X.env),(false,eval c X.env)]:=by rfl)(f:starEach [b,c] X.env=[(false,eval b X.env),(false,eval c X.env)]:=by rfl):PI X tg (.Call (.Name "range" p) [a,b,c] [] pos) (M' ta):=by
 intro aa s σ H R I h;refine Call_ (iS I hg v boot_range (PyProof.Rows.callWith_type1 (aY (w pos aa s σ H _ I h) fun us z ⟨vs,H1,y,g,d⟩=>?_) (by rw[x,f]) (by rw[f];rfl)));obtain⟨i,j,e,⟨d,l,o,u⟩,q⟩:=d;subst e;cases g with
 |cons r rr=>
  cases rr with
  |cons r' rr=>
   cases rr with
   |cons r'' rr=>
    cases rr;obtain⟨t,rfl⟩:=r;obtain⟨t',rfl⟩:=r';obtain⟨A,rfl⟩:=r'';exact call_range_3 ξ (M_ y d l o u q) (.inl (PyProof.noPylong_of_log2 δ))
end
def Iy{hi:Int}{n:Nat}{g:TG}{tb:TS}{D:Ends}{σ:St}{H:Hp}(b:Nat->St->Hp->Prop)(j:b 0 σ H)(l:∀i σ H,i<n->b i σ H->g (.int (hi-i)) σ H fun c H2=>tb {D with nx:=b (i+1),ct:=b (i+1),bk:=D.nx} c H2)(hd:∀σ H,b n σ H->D.nx σ H):∃W:Nat->Nat->St->Hp->Prop,(∃m,W 0 m σ H)/\∀i m σ H,W i m σ H->
   ((oY hi n).stop i H/\D.nx σ H)\/((oY hi n).go i H/\∃N:St->Hp->Prop,(∀d H',N d H'->∃f,f<m/\W (i+1) f d H')/\∀x H',(oY hi n).yld i H x H'->g x σ H' fun c H2=>tb {D with nx:=N,ct:=N,bk:=D.nx} c H2):=by
 refine⟨fun i m σ H=>m=n-i/\i<=n/\b i σ H,⟨n,by simp,Aw _,j⟩,?_⟩;rintro i m σ H ⟨rfl,hi,p⟩
 by_cases a:i<n
 ·refine .inr ⟨a,b (i+1),fun d H' h=>⟨n-(i+1),ω,rfl,a,h⟩,fun x H' y=>?_⟩
  obtain⟨e,y⟩:=y;subst e y;exact l i σ _ a p
 ·have e:i=n:=ω
  subst e;exact .inl ⟨Ad _,hd σ H p⟩
end L2
end
section
namespace K21
open PySem L2
noncomputable abbrev CU:Stmt:=top 32
def Iz:A5 "len"=some (.builtin "len"):=δ
def E6{R:List Tb.Vc}{ps:List Nat}{fr:Nat->List Int}{W CE N Y:Nat}{rn:List Int}(g:∀r∈R,∀u,(r u).natAbs<=Y)(a:R.length<=N)(l:∀p∈ps,Tb.Rep R CE (vF fr p))(b:∀p∈ps,0<vF fr p p)(e:∀p∈ps,(vF fr p p).natAbs<2 ^ 9000)(d:Wid W ps fr)(h:rn.length=W)(met:∀i,Tb.Rep R CE (Tb.aZ (vF fr) (ps.take i) (vc rn)))(c:N*(CE*Y)<big):jS fr W rn ps:=by
 refine⟨h,d.most,fun p hp=>⟨(d.row p hp).1,(d.row p hp).2,b p hp,e p hp⟩,fun i p hp x hx=>?_⟩;have j:=Ak hp;refine g_ (AD HK ?_) ?_
 ·have f:=met i
  rw[<-ow (fr:=fr) (W:=W) (ps:=ps.take i) (rn:=rn) h fun q hq=>(d.row q (List.mem_of_mem_take hq)).2] at f;exact AD (Ag (f.le (u:=p) fun r hr=>g r hr p) (Am _ a)) c
 ·obtain⟨u,_,rfl⟩:=CM hx
  exact AD (Ag ((l p j).le (u:=u) fun r hr=>g r hr u) (Am _ a)) c
structure IA(N M X B Y:Nat)(R:List Tb.Vc):Prop where
 hB:1<=B
 piv:B<2 ^ 9000
 lim:N*(Tb.cE N M X B*Y)<big
 hR:∀r∈R,∀u,(r u).natAbs<=Y
 few:N<64
 bd:Tb.Bd N M X B R
def Fnd.no{H:Hp}{a:Addr}{es:List (Nat×Addr)}{fr:Nat->List Int}(h:Fnd H a es fr){p:Nat}(hp:p∉es.map (·.1)):DGet H a (.int p) none:=by
 have:=DGet.k (k:=Sum.inl (p:Int)) h.at_;rw[MF ?_] at this
 ·exact this
 ·intro f b z
  rw[AS] at b;obtain⟨e,c,rfl⟩:=List.mem_map.mp b;have d:(Sum.inl (e.1:Int):Key)=Sum.inl (p:Int):=z;have:(e.1:Int)=p:=by injection d
  exact hp (List.mem_map.mpr ⟨e,c,ω⟩)
def cT{l:List Int}{p:Nat}(h:p<l.length):(l.map V.int)[p]?=some (V.int (vc l p)):=by
 unfold vc;rw[Aj,Ac,Ab h];rfl
def Fra(a:Addr)(H H':Hp):Prop:=∀b o,b≠a->H b=some o->H' b=some o
def Fra.trans{a:Addr}{H H1 H2:Hp}(h:Fra a H H1)(h2:Fra a H1 H2):Fra a H H2:=fun b o hb e=>h2 b o hb (h b o hb e)
def Fra.of{a:Addr}{H H1:Hp}(h:Same H H1):Fra a H H1:=fun b o _ e=>h b o e
def lJ(xs:List V)(n:Nat):cz xs (some (n:Int)) none=xs.drop n:=by
 unfold cz;rw[HT.GH,HT.GG];rcases Nat.le_total n xs.length with h|h
 ·rw[Nat.min_eq_left h,Aq (by simp)]
 ·rw[Nat.min_eq_right h,List.drop_eq_nil_of_le (Ad _),List.drop_eq_nil_of_le h,List.take_nil]
noncomputable def hJ(l:List Int)(q:Nat):List Int:=if 0<vc l q then l else l.map fun x=>-x
def Na{l:List Int}{q:Nat}:vc (hJ l q)=Tb.up (vc l) q:=by
 unfold hJ Tb.up;split
 ·rfl
 ·exact MJ
def Nb{l:List Int}{q:Nat}:(hJ l q).length=l.length:=by unfold hJ;split;rfl;simp
def IB{q:Nat}:∀{P:List Nat},(Tb.ins q P).Perm (P++[q])
 |[]=>.refl _
 |p::P=>by
  unfold Tb.ins;split
  ·exact(List.perm_append_singleton q (p::P)).symm
  ·exact(IB (P:=P)).cons p
def share{c:Bool}{A B:Prop}{C S:Addr->Hp->Prop}(h2:(∀u H,S u H->C u H)->¬c=true->B)(h1:(∀u H,S u H->C u H)->c=true->A)(fin:∀u H,S u H->C u H):if c=true then A else B:=by
 split
 ·exact h1 fin (by assumption)
 ·exact h2 fin (by assumption)
structure Bt(a d:Addr)(q W N M X B:Nat)(R:List Tb.Vc)(P:List Nat)(H0 H:Hp)(ln:List Int)(es:List (Nat×Addr))(fr:Nat->List Int)(t:Nat):Prop where
 fra:Fra a H0 H
 fnd:Fnd H a es fr
 pls:Pls es P
 wid:Wid W P fr
 at_:H d=some (.lst (ln.map V.int))
 len:ln.length=W
 ts:Tb.TS N M X B R P (vF fr) (vc ln) t
 tq:t<=q
 qW:q<W
 low:∀i,i<q->vc ln i=0
 nz:vc ln q≠0
def E7{H:Hp}{a b:Addr}{es:List (Nat×Addr)}{fr:Nat->List Int}{xs:List V}(h:Fnd H a es fr)(hb:H b=some (.lst xs)):b≠a:=fun z=>by rw[z,h.at_] at hb;cases hb
section
variable{P:Program}{w:World}{K:Af}{mg:Str->Option Value}{base:Heap}
def IC:Sp:=fun vs H Q _=>∃(a r:Addr)(rn:List Int)(es:List (Nat×Addr))(fr:Nat->List Int)(P:List Nat)(N M X B Y W:Nat)(R:List Tb.Vc),vs=[.ref a,.ref r]/\H r=some (.lst (rn.map V.int))/\Fnd H a es fr/\Pls es P/\Wid W P fr/\rn.length=W/\
 Tb.FS N M X B R P (vF fr)/\R.length<N/\(∀p∈P,(vc rn p).natAbs<=M)/\IA N M X B Y (R++[vc rn])/\
 ∀H' d b c,Fra a H H'->Fnd H' a d b->Pls d c->Wid W c b->Tb.FS N M X B (R++[vc rn]) c (vF b)->Q .non H'
def ji:zn ["found","row","left","place","top","pair","places","k"] ["found","row"] (zg CU):=⟨rfl,rfl,rfl,δ,rfl,δ,δ⟩
def Nc{f fr ff fp fm:Addr}{fd aW mI a_ cB:FuncData}(F:Fun K "take_in" "take_in" CU f fd)(bs:mg "sorted"=none)(bg:mg "range"=none)(bn:mg "len"=none)(Fr:Fun K "reduced" "reduced" i9 fr aW)(br:Binds K aW ["row","found","places"] [])(mr:mg "reduced"=some (.ref fr))(Gr:ai P w K mg base av 2 fr aW ["row","found","places"] HA)(Ff:Fun K "first_place" "first_place" CI ff mI)(bf:Binds K mI ["row"] [])(mf:mg "first_place"=some (.ref ff))(Gf:ai P w K mg base av 1 ff mI ["row"] Hx)(Fp:Fun K "divisor_pair" "divisor_pair" tw fp a_)(bp:Binds K a_ ["one","other"] [])(mp:mg "divisor_pair"=some (.ref fp))(Gp:ai P w K mg base av 1 fp a_ ["one","other"] Hz)(Fm:Fun K "mix_of_two" "mix_of_two" sV fm cB)(bm:Binds K cB ["often","row","other_often","other"] [])(mm:mg "mix_of_two"=some (.ref fm))(Gm:ai P w K mg base av 1 fm cB ["often","row","other_often","other"] Hq):ai P w K mg base av 3 f fd ["found","row"] IC:=by
 refine F.ok ji (fun vs H Q E h=>?_) (fun ak A outer s H vs Q E hr h=>?_)
 ·obtain⟨a,r,rn,es,fr,PP,N,M,X,B,Y,W,R,rfl,_⟩:=h;rfl
 ·obtain⟨a,r,rn,es,fR,PP,N,M,X,B,Y,W,R,rfl,h1,hF,hP,hW,hn,FS,hlt,hM,L,k⟩:=h
  have hu:=Co hr;have hr1:Room 1 _:=hr.mono ξ;refine⟨_,zd (zr (i:=2) ji.nd rfl (Or.inl rfl) (zf Gr hr rfl mr Fr.kp br .nil ac (za (pv 1) (za (pv 0) (za (zk (tF rfl) rfl bs tM (za (pv 0) zb)) zb)))))
   (zd (zr (i:=3) ji.nd rfl (Or.inl rfl) (zf Gf hr1 rfl mf Ff.kp bf .nil ac (za (pv 2) zb)))
   (zd (BF AX (Kr (Lj hu (pv 3) (pv 0)) (by with_unfolding_all rfl))
    (zd (zr (i:=4) ji.nd rfl (Or.inl rfl) (kO hu (pv 0) (pv 3) (fun _ _=>rfl)))
    (zd (zr (i:=5) ji.nd rfl (Or.inl rfl) (zf Gp hr1 rfl mp Fp.kp bp .nil ac (za (zp zq (pv 4) (pv 3) (fun _ _=>rfl)) (za (zp zq (pv 2) (pv 3) (fun _ _=>rfl)) zb))))
    (zd (D6 hu (pv 0) (pv 3) (zf Gm hr1 rfl mm Fm.kp bm .nil ac (za (zp zt (zp zt (pv 5) ze (fun _ _=>rfl)) ze (fun _ _=>rfl)) (za (pv 4) (za (zp zt (zp zt (pv 5) ze (fun _ _=>rfl)) ze (fun _ _=>rfl)) (za (pv 2) zb))))) rfl)
    (zd (zr (i:=2) ji.nd rfl (Or.inl rfl) (zf Gr hr rfl mr Fr.kp br .nil ac (za (zf Gm hr1 rfl mm Fm.kp bm .nil ac (za (zp zt (zp zt (pv 5) ze (fun _ _=>rfl)) ze (fun _ _=>rfl)) (za (pv 4) (za (zp zt (zp zt (pv 5) ze (fun _ _=>rfl)) ze (fun _ _=>rfl)) (za (pv 2) zb))))) (za (pv 0) (za (zk (tF rfl) rfl bs tM (za (pv 0) zb)) zb)))))
    (zh (zr (i:=3) ji.nd rfl (Or.inl rfl) (zf Gf hr1 rfl mf Ff.kp bf .nil ac (za (pv 2) zb)))))))))
   (zd (D6 hu (pv 0) (pv 3) (qb (zv gR (zp zq (pv 2) (pv 3) (fun _ _=>rfl)) ze (ar _)) (pv 2)
    (zu ["found","row","left","place","top","pair","places","k"] ["number"] [none] (zJ (pv 2)) (fun cl C s₀ H₀ ex=>zl (i:=0) (bA ["number"]) rfl (Or.inl rfl)) (fun cl C s₀ H₀ ex=>zy) (fun cl C s₀ H₀ ex=>kx kG (pv 0)) (te:=Gv (rU fun i=>.int (-i)) (au 0)) (hfr:=bM δ))) rfl)
   (zd (zr (i:=6) ji.nd rfl (Or.inl rfl) (zk (tF rfl) rfl bs tM (za (pv 0) zb)))
   (zh (eC AX rfl (Ix rfl bg (za (zC eU (zk zj rfl bn Iz (za (pv 6) zb)) ze) (za (kx kG ze) (za (kx kG ze) zb)))) (zl (i:=7) ji.nd rfl (Or.inl rfl))
    (zh (D6 hu (pv 0) (zp zq (pv 6) (pv 7) (fun _ _=>rfl)) (zf Gr hr rfl mr Fr.kp br .nil ac (za (kO hu (pv 0) (zp zq (pv 6) (pv 7) (fun _ _=>rfl)) (fun _ _=>rfl)) (za (pv 0) (za (m7 Ci (pv 6) (m4 (zC fT (pv 7) ze)) mO) zb)))) rfl)))))))),?_⟩
  have z64:es.length<64:=by have:=hP.len;have:=FS.len;have:=L.few;(first|lia|omega)
  have T0:=FS.take L.hB hlt hM;have ei:(R++[vc rn]).length<=N:=by rw[AU];exact hlt
  have pv:∀{x:Nat},x<=B->x<2 ^ 9000:=fun h=>AD h L.piv;have oa:jS fR W rn PP:=E6 L.hR ei (fun p hp=>(T0.rep L.hB).1 p hp) FS.ech.pos (fun p hp=>pv (FS.piv p hp)) hW hn (fun i=>FS.mid L.hB hlt hM i) L.lim;refine⟨_,rfl,_,rfl,_,rfl,a,ez es,rfl,hF.at_,(by simpa using z64),fun PL ms pm so dQ=>?_⟩;rw[hP.ints pm so];have sP:=Same.new (o:=.lst (PP.map fun p:Nat=>V.int (p:Int))) dQ;refine⟨r,a,PL,rn,es,fR,PP,W,rfl,sP _ _ h1,hF.same sP,zc,fun p hp=>hP.pm.mem_iff.mp hp,oa,fun d H1 s1 hd=>?_⟩;have e0:vc (aQ fR rn PP)=Tb.aZ (vF fR) PP (vc rn):=ow hn fun p hp=>(hW.row p hp).2;rw[<-e0] at T0;have l0:(aQ fR rn PP).length=W:=oe hn fun p hp=>(hW.row p hp).2;obtain⟨q,q1,q2,q3,q4,q5⟩:=HI (T0.nz L.bd.ind L.hR);refine⟨_,rfl,d,aQ fR rn PP,q,rfl,hd,q2,q3,?_⟩;have B0:Bt a d q W N M X B (R++[vc rn]) PP H H1 (aQ fR rn PP) es fR 0:=⟨.of (sP.trans s1),hF.same (sP.trans s1),hP,hW,hd,l0,T0,Aw _,ω,q4,q5⟩;refine⟨fun n σ H3=>∃(d:Addr)(q:Nat)(I:List Int)(es:List (Nat×Addr))(fr:Nat->List Int)(t:Nat)(v4 v5:Option V),n=W-q/\σ=[some (.ref a),some (.ref r),some (.ref d),some (.int q),v4,v5,none,none]/\Bt a d q W N M X B (R++[vc rn]) PP H H3 I es fr t,
   ⟨_,d,q,_,es,fR,0,none,none,rfl,rfl,B0⟩,?_⟩
  clear B0 q5 q4 q3 q2 q1 l0 e0 hd s1 sP dQ so pm oa T0;clear d q H1 PL ms;rintro n σ H3 ⟨d,q,I,es,fr,t,v4,v5,rfl,rfl,T⟩
  by_cases hq:q∈PP
  ·obtain⟨c,hc,gc,aB⟩:=T.fnd.get (T.pls.pm.mem_iff.mp hq)
   refine⟨_,rfl,_,rfl,a,_,rfl,gc,_,rfl,?_⟩;have rW:=T.wid.row q hq;have vN:=T.len;have mW:=T.wid.most;have x0:0<vF fr q q:=T.ts.ech.pos q hq;obtain⟨yD,y1⟩:=T.ts.red q hq;have y0:0<vc I q:=by have:=T.nz;(first|lia|omega)
   have xb:(vF fr q q).natAbs<2 ^ 9000:=pv (T.ts.piv q hq);have yb:(vc I q).natAbs<2 ^ 9000:=AD ω xb;have z64:es.length<64:=by have:=T.pls.len;have:=FS.len;have:=L.few;(first|lia|omega)
   have hqe:q∈es.map (·.1):=T.pls.pm.mem_iff.mp hq;refine aS ⟨fun ah H'=>∃n',n'<W-q/\∃(d:Addr)(q:Nat)(I:List Int)(es:List (Nat×Addr))(fr:Nat->List Int)(t:Nat)(v4 v5:Option V),n'=W-q/\ah=[some (.ref a),some (.ref r),some (.ref d),some (.int q),v4,v5,none,none]/\Bt a d q W N M X B (R++[vc rn]) PP H H' I es fr t,fun ah H' h=>h,?_⟩;refine⟨_,rfl,_,rfl,a,_,rfl,gc,?_⟩;refine⟨_,rfl,_,rfl,c,_,_,_,rfl,rfl,SqL.of aB,zi (cT ω),_,rfl,_,rfl,d,_,_,_,rfl,rfl,SqL.of T.at_,zi (cT ω),vF fr q q,vc I q,rfl,x0,y0,xb,yb,fun r0 p1 p2 H4 g a1 b1 c1 d1 s4 i_ eV ge G=>?_⟩;have Mi:=T.ts.mid L.hB hq T.low T.nz T.tq G;obtain⟨T2,_⟩:=T.ts.next L.hB hq T.low T.nz T.tq G;have rp:=T.ts.rep L.hB;have ent:∀{l:List Int},Tb.Rep (R++[vc rn]) (Tb.cE N M X B) (vc l)->∀x∈l,x.natAbs<big:=fun h x hx=>by
    obtain⟨u,_,rfl⟩:=CM hx;exact AD (Ag (h.le (u:=u) fun r hr=>L.hR r hr u) (Am _ ei)) L.lim
   have Z:∀{k:Int},k.natAbs<=B->∀{x:Int},x.natAbs<big->dM k x:=by
    intro k hk x hx;exact⟨9000,bt,pv hk,hx,by have:=oA;(first|lia|omega)⟩
   have er:=ent (rp.1 q hq);have el:=ent rp.2;refine⟨_,rfl,r0,_,_,_,rfl,rfl,SqT.of i_,zi (j:=0) rfl,p1,_,_,_,rfl,rfl,SqT.of eV,zi (j:=1) rfl,_,rfl,_,rfl,r0,_,_,_,rfl,rfl,SqT.of i_,zi (j:=0) rfl,p1,_,_,_,rfl,rfl,SqT.of eV,zi (j:=2) rfl,_,rfl,c,d,_,_,_,_,rfl,s4 _ _ aB,s4 _ _ T.at_,ω,fun x hx=>Z Mi.a1 (er x hx),fun x hx=>Z Mi.b1 (el x hx),fun e H5 s5 BH he=>?_⟩;have F5:=T.fnd.same (s4.trans s5);obtain⟨H6,dp,F6,o6⟩:=F5.put (H2:=H5) (p:=q) he ω;refine⟨_,rfl,_,rfl,a,H6,rfl,dp,?_⟩;have qE:=(T.fnd.same s4).at_;have keep:∀b o,b≠a->H4 b=some o->H6 b=some o:=fun b o hb e=>by rw[o6 b hb];exact s5 _ _ e
   have nr0:r0≠a:=fun z=>by rw[z,qE] at i_;cases i_
   have np2:p2≠a:=fun z=>by have h:=ge;unfold Tr at h;rw[z,qE] at h;cases h
   have nc:c≠a:=E7 T.fnd aB;have nd:d≠a:=E7 T.fnd T.at_;have nZ:=keep _ _ nr0 i_;have nF:=keep _ _ np2 ge;refine⟨_,rfl,r0,_,_,_,rfl,rfl,SqT.of nZ,zi (j:=1) rfl,p2,_,_,_,rfl,rfl,SqT.of nF,zi (j:=1) rfl,_,rfl,_,rfl,r0,_,_,_,rfl,rfl,SqT.of nZ,zi (j:=1) rfl,p2,_,_,_,rfl,rfl,SqT.of nF,zi (j:=2) rfl,_,rfl,c,d,_,_,_,_,rfl,keep _ _ nc (s4 _ _ aB),keep _ _ nd (s4 _ _ T.at_),ω,fun x hx=>Z Mi.c1 (er x hx),fun x hx=>Z Mi.d1 (el x hx),fun m H7 s7 ia hm=>?_⟩;have eK:Pls (b3 es q e) PP:=⟨by rw[CN,if_pos hqe];exact T.pls.pm,T.pls.so⟩;have mC:(b3 es q e).length<64:=by have:=eK.len;have:=T.pls.len;(first|lia|omega)
   refine⟨_,rfl,_,rfl,a,ez (b3 es q e),rfl,(F6.same s7).at_,(by simpa using mC),fun PL ms pm so dQ=>?_⟩;rw[eK.ints pm so];have sP:=Same.new (o:=.lst (PP.map fun p:Nat=>V.int (p:Int))) dQ;have W2:Wid W PP (bK fr q (bH a1 (fr q) b1 I)):=T.wid.put (by unfold bH;rw[AF];(first|lia|omega));have lm:(bH c1 (fr q) d1 I).length=W:=by unfold bH;rw[AF];(first|lia|omega)
   have ef:vF (bK fr q (bH a1 (fr q) b1 I))=Tb.put (vF fr) q (Tb.mix a1 (vF fr q) b1 (vc I)):=by rw[ED,HH ω];rfl
   have em:vc (bH c1 (fr q) d1 I)=Tb.mix c1 (vF fr q) d1 (vc I):=by rw[HH ω];rfl
   rw[<-ef,<-em] at Mi T2;have uG:jS (bK fr q (bH a1 (fr q) b1 I)) W (bH c1 (fr q) d1 I) PP:=E6 L.hR ei Mi.fr Mi.ech.pos (fun p hp=>pv (Mi.piv p hp)) W2 lm Mi.met L.lim;refine⟨m,a,PL,_,b3 es q e,bK fr q (bH a1 (fr q) b1 I),PP,W,rfl,sP _ _ hm,(F6.same s7).same sP,zc,fun p hp=>eK.pm.mem_iff.mp hp,uG,fun d2 H9 s9 ib=>?_⟩;rw[<-ow (W:=W) lm fun p hp=>(W2.row p hp).2] at T2;obtain⟨q',q1,q2,q3,q4,q5⟩:=HI (T2.nz L.bd.ind L.hR);have l9:(aQ (bK fr q (bH a1 (fr q) b1 I)) (bH c1 (fr q) d1 I) PP).length=W:=oe lm fun p hp=>(W2.row p hp).2;have qq:q+1<=q':=Nat.le_of_not_lt fun h=>q5 (T2.low q' h);refine⟨_,rfl,d2,_,q',rfl,ib,q2,q3,?_⟩;refine⟨W-q',ω,d2,q',_,b3 es q e,bK fr q (bH a1 (fr q) b1 I),q+1,_,_,rfl,rfl,⟨?_,((F6.same s7).same sP).same s9,eK,W2,ib,l9,T2,qq,ω,q4,q5⟩⟩;exact T.fra.trans ((Fra.of s4).trans ((show Fra a H4 H6 from keep).trans (.of ((s7.trans sP).trans s9))))
  ·refine⟨_,rfl,_,rfl,a,_,rfl,T.fnd.no (fun h=>hq (T.pls.pm.mem_iff.mpr h)),_,rfl,?_⟩
   have vN:=T.len;have mW:=T.wid.most;refine aI ⟨_,rfl,_,rfl,d,_,_,_,rfl,rfl,SqL.of T.at_,zi (cT (by have:=T.qW;(first|lia|omega))),_,_,rfl,rfl,_,rfl,?_⟩;apply share (S:=fun u H4=>Same H3 H4/\H4 u=some (.lst ((hJ I q).map V.int)))
   ·intro fin hc
    refine⟨_,rfl,d,rfl,⟨_,SqL.of T.at_⟩,fun D hD=>zw (jF (xs:=I.map V.int) (fun j σ ys H4=>∃v,σ=[v]/\Same H3 H4/\H4 D=some (.lst ys)/\ys=((I.take j).map fun x=>-x).map V.int) ⟨none,rfl,Same.new hD,zc,rfl⟩ ?_ ?_ ?_)⟩
    ·rintro j σ ys H4 ⟨v,rfl,sm,_⟩
     exact SqL.of (sm _ _ T.at_)
    ·rintro j σ ys H4 x hx hj hy ⟨v,rfl,sm,aX,rfl⟩
     obtain⟨y,gy,rfl⟩:=gz hx;refine ci ⟨_,rfl,_,rfl,bI (by rw[Aa];exact zA ω) hj hy aX ⟨_,rfl,sm.then hD,zc,?_⟩⟩;rw[Bb gy,Ao,Ao];rfl
    ·rintro σ ys H4 ⟨v,rfl,sm,aX,rfl⟩
     refine fin D H4 ⟨sm,?_⟩;rw[aX,Aa,Aq (Ad _)];unfold hJ;rw[if_neg fun h=>hc (decide_eq_true h)]
   ·intro fin hc
    refine⟨_,rfl,fin d H3 ⟨Same.refl _,?_⟩⟩;unfold hJ;rw[if_pos (of_decide_eq_true hc)];exact T.at_
   ·rintro u H4 ⟨s4,nC⟩
    have S0:=T.ts.full L.hB hq T.low T.nz;have hqe:q∉es.map (·.1):=fun h=>hq (T.pls.pm.mem_iff.mpr h);have F4:=T.fnd.same s4;have yG:=T.pls.len;have zP:=FS.len;have zN:=L.few;obtain⟨H5,dp,F5,o5⟩:=F4.put (H2:=H4) (p:=q) nC ω;refine⟨_,rfl,_,rfl,a,H5,rfl,dp,?_⟩;have lu:(hJ I q).length=W:=by rw[Nb];exact T.len
    have ef:vF (bK fr q (hJ I q))=Tb.put (vF fr) q (Tb.up (vc I) q):=by rw[ED,Na]
    rw[<-ef] at S0;have dr:Pls (b3 es q u) (Tb.ins q PP):=⟨by rw[CN,if_neg hqe];exact IB.trans (T.pls.pm.append_right [q]),S0.srt.imp fun h=>Nat.le_of_lt h⟩;have gg:Wid W (Tb.ins q PP) (bK fr q (hJ I q)):=by
     refine⟨mW,fun p hp=>?_⟩;unfold bK;rcases Tb.mem_ins.mp hp with rfl|h
     ·rw[if_pos rfl];exact⟨T.qW,lu⟩
     ·have:p≠q:=fun z=>hq (z▸h)
      rw[if_neg this];exact T.wid.row p h
    have fra5:Fra a H H5:=T.fra.trans ((Fra.of s4).trans fun b o hb e=>by rw[o5 b hb];exact e);have lQ:(Tb.ins q PP).length=PP.length+1:=Tb.EA;clear o5 dp F4 nC s4 ef;generalize bK fr q (hJ I q)=f0 at S0 F5 gg;generalize b3 es q u=es0 at F5 dr;generalize Tb.ins q PP=QQ at S0 dr gg lQ;refine⟨_,rfl,a,ez es0,rfl,F5.at_,(by have:=dr.len;simp;(first|lia|omega)),fun PL ms pm so dQ=>?_⟩;rw[dr.ints pm so];have sP:=Same.new (o:=.lst (QQ.map fun p:Nat=>V.int (p:Int))) dQ;refine⟨_,rfl,PL,_,rfl,.inl (SqL.of zc),_,_,rfl,rfl,_,rfl,_,rfl,_,_,rfl,⟨by rw[Aa];(first|lia|omega),by rw[Aa];(first|lia|omega),ω,ω⟩,?_⟩;have iF:(((QQ.map fun p:Nat=>V.int (p:Int)).length:Nat):Int)=(QQ.length:Int):=by rw[Aa]
    refine Iy (fun i σ H6=>∃(es:List (Nat×Addr))(fr:Nat->List Int)(v7:Option V),σ=[some (.ref a),some (.ref r),some (.ref d),some (.int q),v4,v5,some (.ref PL),v7]/\Fra a H H6/\Fnd H6 a es fr/\Pls es QQ/\Wid W QQ fr/\H6 PL=some (.lst (QQ.map fun p:Nat=>V.int (p:Int)))/\vF fr=Tb.a9 (vF f0) (QQ.drop (QQ.length-i)))
     ⟨es0,f0,none,rfl,fra5.trans (.of sP),F5.same sP,dr,gg,zc,by rw[Nat.sub_zero,List.drop_length];rfl⟩ ?_ ?_
    ·rintro i σ H6 hi ⟨jv,f6,v7,rfl,gb,F6,ck,b_,cZ,hv⟩
     have hiQ:i<QQ.length:=ω
     obtain⟨O,jA⟩:∃O,O=QQ.length-1-i:=⟨_,rfl⟩;have jH:O<QQ.length:=ω
     rw[show(((QQ.map fun p:Nat=>V.int (p:Int)).length:Nat):Int)-1-((i:Nat):Int)=((O:Nat):Int) by rw[iF];(first|lia|omega)];have gk:(QQ.map fun p:Nat=>V.int (p:Int))[O]?=some (V.int ((QQ[O]:Nat):Int)):=by rw[Aj,Ab jH];rfl
     have eQ:QQ=QQ.take O++QQ[O]::QQ.drop (O+1):=by rw[<-List.drop_eq_getElem_cons jH,List.take_append_drop]
     have ed:QQ.drop (QQ.length-i)=QQ.drop (O+1):=by rw[show QQ.length-i=O+1 from ω]
     have ed2:QQ.drop (QQ.length-(i+1))=QQ[O]::QQ.drop (O+1):=by rw[show QQ.length-(i+1)=O from ω];exact List.drop_eq_getElem_cons jH
     rw[ed] at hv;rw[ed2];have gX:QQ[O]∈QQ:=Az jH;have sub:∀p∈QQ.drop (O+1),p∈QQ:=fun p hp=>List.mem_of_mem_drop hp;generalize iP:QQ.drop (O+1)=ps at eQ hv ed ed2 sub ⊢;generalize QQ[O]=p at gk eQ ed2 gX ⊢;have wE:p∉ps:=fun h=>by
      have s:=S0.srt;rw[eQ,List.pairwise_append] at s;exact Nat.lt_irrefl p ((List.pairwise_cons.mp s.2.1).1 p h)
     obtain⟨e1,bd,rp⟩:=S0.tail L.hB L.bd (pre:=QQ.take O++[p]) (ps:=ps) (by rw[List.append_assoc];exact eQ);have cc:Tb.cC N X B<=Tb.cE N M X B:=Ag (by unfold Tb.cK;(first|lia|omega)) (Ag (Tb.E5 L.hB) Tb.oV);have pz:vc (f6 p)=vF f0 p:=by
      have:vF f6 p=vF f0 p:=by rw[hv,Tb.HD wE]
      exact this
     have ok6:jS f6 W (f6 p) ps:=by
      refine E6 (CE:=Tb.cE N M X B) L.hR ei (fun U J=>?_) (fun U J=>?_) (fun U J=>?_) (b_.sub sub) (b_.row p gX).2 (fun j=>?_) L.lim
      ·rw[hv];exact(rp U J).mono cc
      ·rw[hv];exact e1.pos U J
      ·rw[hv];exact pv (bd U J U (sub U J))
      ·rw[hv,pz];exact S0.met L.hB L.bd eQ j
     obtain⟨c,hc,gc,aB⟩:=F6.get (ck.pm.mem_iff.mp gX);refine⟨_,rfl,_,rfl,_,rfl,PL,_,_,_,rfl,rfl,SqL.of cZ,zi gk,a,_,rfl,gc,_,rfl,_,rfl,_,rfl,_,_,rfl,rfl,_,rfl,PL,_,rfl,SqL.of cZ,fun SL rN=>?_⟩;rw[show((O:Nat):Int)+1=((O+1:Nat):Int) from ω,lJ,<-List.map_drop,iP];have sS:=Same.new (o:=.lst (ps.map fun p:Nat=>V.int (p:Int))) rN;refine⟨c,a,SL,f6 p,jv,f6,ps,W,rfl,sS _ _ aB,F6.same sS,zc,fun U J=>ck.pm.mem_iff.mp (sub U J),ok6,fun D H8 s8 mq=>?_⟩;have z6:=ck.len;obtain⟨H9,dp,F9,o9⟩:=((F6.same sS).same s8).put (H2:=H8) (p:=p) mq ω;have xl:PL≠a:=E7 F6 cZ;refine⟨_,rfl,_,rfl,_,rfl,PL,_,_,_,rfl,rfl,SqL.of ((sS.trans s8) _ _ cZ),zi gk,a,H9,rfl,dp,b3 jv p D,bK f6 p (aQ f6 (f6 p) ps),_,rfl,?_,F9,⟨?_,ck.so⟩,?_,?_,?_⟩
     ·exact gb.trans ((Fra.of (sS.trans s8)).trans fun b o hb e=>by rw[o9 b hb];exact e)
     ·rw[CN,if_pos (ck.pm.mem_iff.mp gX)];exact ck.pm
     ·exact b_.put (oe (b_.row p gX).2 fun U J=>(b_.row U (sub U J)).2)
     ·rw[o9 PL xl];exact(sS.trans s8) _ _ cZ
     ·rw[ED,ow (b_.row p gX).2 (fun U J=>(b_.row U (sub U J)).2),hv,pz];rfl
    ·rintro σ H6 ⟨jv,f6,v7,rfl,gb,F6,ck,b_,cZ,hv⟩
     rw[show QQ.length-((((QQ.map fun p:Nat=>V.int (p:Int)).length:Nat):Int)-1 - -1).toNat=0 by rw[iF];(first|lia|omega),List.drop_zero] at hv;refine k H6 jv f6 QQ gb F6 ck b_ ?_;rw[hv];exact S0.done L.hB L.bd
end
noncomputable abbrev jk:Stmt:=top 31
section
variable{P:Program}{w:World}{K:Af}{mg:Str->Option Value}{base:Heap}
structure ID(N M X B Y W:Nat)(tb:Ξ):Prop where
 most:W<=1000
 few:tb.length<=N
 len:∀r∈tb,r.length=W
 lim:∀i,i<tb.length->IA N M X B Y ((tb.take (i+1)).map vc)
 row:∀i r,tb[i]?=some r->∀Q f,Tb.FS N M X B ((tb.take i).map vc) Q f->∀p∈Q,(vc r p).natAbs<=M
def IE:Sp:=fun vs H Q _=>∃(L:Addr)(rs:List Addr)(tb:Ξ)(N M X B Y W:Nat),vs=[.ref L]/\H L=some (.lst (rs.map V.ref))/\Rws H rs tb/\ID N M X B Y W tb/\
 ∀a H' es fr P,Same H H'->H a=none->Fnd H' a es fr->Pls es P->Wid W P fr->Tb.FS N M X B (tb.map vc) P (vF fr)->Q (.ref a) H'
def E8:zn ["rows","found","row"] ["rows"] (zg jk):=⟨rfl,rfl,rfl,δ,rfl,δ,δ⟩
def Fra.same{a:Addr}{H H1 H2:Hp}{o:HO}(h:Fra a H1 H2)(e:H1=upd H a o)(c:H a=none):Same H H2:=fun b v hb=>by
 have n:b≠a:=fun z=>by rw[z,c] at hb;cases hb
 exact h b v n (by rw[e,af n];exact hb)
def Nd{f q:Addr}{fd r:FuncData}(F:Fun K "echelon_of" "echelon_of" jk f fd)(Ft:Fun K "take_in" "take_in" CU q r)(bt:Binds K r ["found","row"] [])(mt:mg "take_in"=some (.ref q))(Gt:ai P w K mg base av 3 q r ["found","row"] IC):ai P w K mg base av 4 f fd ["rows"] IE:=by
 refine F.ok E8 (fun vs H Q E h=>?_) (fun ak A outer s H vs Q E hr h=>?_)
 ·obtain⟨L,rs,tb,N,M,X,B,Y,W,rfl,_⟩:=h;rfl
 ·obtain⟨L,rs,tb,N,M,X,B,Y,W,rfl,v,y,ok,k⟩:=h
  refine⟨_,zd (zr (i:=1) E8.nd rfl (Or.inl rfl) Lm)
   (zd (eC AX rfl (zJ (pv 0)) (zl (i:=2) E8.nd rfl (Or.inl rfl))
    (zh (ie (zf Gt hr rfl mt Ft.kp bt .nil ac (za (pv 1) (za (pv 2) zb))))))
   (zh (zo (pv 1)))),?_⟩
  refine fun a d=>⟨_,rfl,L,rfl,⟨_,SqL.of (Same.new d _ _ v)⟩,qo (K:=K) (a:=L) (xs:=rs.map V.ref) (fun i σ H2=>∃(j:Option V)(es:List (Nat×Addr))(fr:Nat->List Int)(c:List Nat),σ=[some (.ref L),some (.ref a),j]/\Fra a (upd H a (.dK [])) H2/\Fnd H2 a es fr/\Pls es c/\Wid W c fr/\Tb.FS N M X B ((tb.take i).map vc) c (vF fr))
   ⟨none,[],fun _=>[],[],rfl,fun _ _ _ e=>e,⟨zc,List.nodup_nil,fun e C=>nomatch C⟩,⟨.refl _,.nil⟩,⟨ok.most,fun p hp=>nomatch hp⟩,Tb.FS.start⟩ (fun i σ H2 _ ⟨_,_,_,_,_,b,_⟩=>SqL.of ((b.same rfl d) _ _ v)) ?_ ?_⟩
  ·rintro i x σ H2 hx ⟨j,es,fr,c,rfl,b,u,pls,l,FS⟩
   obtain⟨o,T,rfl⟩:=i6 hx;obtain⟨rn,g,U⟩:=y.get T;have hi:i<tb.length:=(List.getElem?_eq_some_iff.mp g).1;have z:=ok.lim i hi;rw[Bb g,Ao] at z;have Z:=ok.few;refine⟨_,rfl,_,rfl,a,o,rn,es,fr,c,N,M,X,B,Y,W,_,rfl,(b.same rfl d) _ _ U,u,pls,l,ok.len rn (Ak g),FS,by rw[Aa,List.length_take];(first|lia|omega),ok.row i rn g c (vF fr) FS,z,fun H3 D G P3 I F3 J O S=>?_⟩;refine⟨_,D,G,P3,rfl,b.trans I,F3,J,O,?_⟩;rw[Bb g,Ao];exact S
  ·rintro σ H2 ⟨j,es,fr,c,rfl,b,u,pls,l,FS⟩
   have aJ:=y.len;rw[Aa,aJ,Aq (Ad _)] at FS;exact⟨_,rfl,k a H2 es fr c (b.same rfl d) d u pls l FS⟩
end
end K21
end
section
namespace L2
open PySem PySem.Spec PyProof.Rows
def Nf{K:Af}{c d:Addr}{xs ys:List V}{g:TG}{tb:TS}{D:Ends}{σ:St}{H:Hp}(a:Nat->St->Hp->Prop)(v:a 0 σ H)(w:∀i σ H,a i σ H->SqL K H c xs/\SqL K H d ys)(z:∀i x y p σ H,xs[i]?=some x->ys[i]?=some y->H p=none->a i σ H->g (.ref p) σ (upd H p (.tup [x,y])) fun f H2=>tb {D with nx:=a (i+1),ct:=a (i+1),bk:=D.nx} f H2)(hd:∀σ H,a (min xs.length ys.length) σ H->D.nx σ H):∃W:Nat->Nat->St->Hp->Prop,(∃m,W 0 m σ H)/\∀i m σ H,W i m σ H->
   ((dL K c d).stop i H/\D.nx σ H)\/((dL K c d).go i H/\∃N:St->Hp->Prop,(∀h H',N h H'->∃o,o<m/\W (i+1) o h H')/\∀x H',(dL K c d).yld i H x H'->g x σ H' fun f H2=>tb {D with nx:=N,ct:=N,bk:=D.nx} f H2):=by
 refine⟨fun i m σ H=>m=min xs.length ys.length-i/\i<=min xs.length ys.length/\a i σ H,⟨_,rfl,Aw _,v⟩,?_⟩;rintro i m σ H ⟨rfl,hi,p⟩;obtain⟨j,l⟩:=w i σ H p
 by_cases b:i<min xs.length ys.length
 ·refine .inr ⟨⟨xs,ys,j,l,b⟩,a (i+1),fun h H' q=>⟨_,ω,rfl,b,q⟩,fun x H' y=>?_⟩
  obtain⟨pp,x,r,rfl,hp,rfl,s,u⟩:=y;exact z i x r pp σ H (s xs j) (u ys l) hp p
 ·have e:i=min xs.length ys.length:=ω
  subst e;exact .inl ⟨⟨xs,ys,j,l,rfl⟩,hd σ H p⟩
end L2
namespace K21
open PySem L2
noncomputable abbrev jn:Stmt:=top 38
noncomputable def b4(l:List Int)(x:Int×List Int):List Int:=dv l (-x.1) x.2
noncomputable def gl(w:Nat)(ns:List Int)(tb:Ξ):List Int:=(ns.zip tb).foldl b4 (Av w 0)
def IF{l:List Int}{x:Int×List Int}{w:Nat}(h:l.length=w)(h2:x.2.length=w):(b4 l x).length=w:=by unfold b4 dv;rw[AF];(first|lia|omega)
def Ng{l row:List Int}(h:l.length=row.length):b4 l (0,row)=l:=Ey h
def E9{w:Nat}:∀{zs:List (Int×List Int)}{l:List Int},l.length=w->(∀z∈zs,z.2.length=w)->(zs.foldl b4 l).length=w
 |[],_,h,_=>h
 |z::zs,l,h,h2=>E9 (zs:=zs) (IF h (h2 z (Ar ..))) fun y hy=>h2 y (Ax _ hy)
section
variable{P:Program}{w:World}{K:Af}{mg:Str->Option Value}{base:Heap}
def E_:Sp:=fun vs H Q _=>∃(a L:Addr)(ns:List Int)(rs:List Addr)(tb:Ξ),vs=[.ref a,.ref L]/\H a=some (.lst (ns.map V.int))/\H L=some (.lst (rs.map V.ref))/\Rws H rs tb/\wid tb<=1000/\(∀r∈tb,r.length=wid tb)/\
 (∀z∈ns.zip tb,∀x∈z.2,dM (-z.1) x)/\lh H Q (gl (wid tb) ns tb)
def u6:zn ["numbers","rows","told","often","row"] ["numbers","rows"] (zg jn):=⟨rfl,rfl,rfl,δ,rfl,δ,δ⟩
def Nh{f v C:Addr}{fd G I:FuncData}(F:Fun K "mix_of" "mix_of" jn f fd)(bz:mg "zip"=none)(Fw:Fun K "width_of" "width_of" jG v G)(bw:Binds K G ["table"] [])(mw:mg "width_of"=some (.ref v))(Gw:ai P w K mg base av 1 v G ["table"] (k7 K))(Fl:Fun K "less" "less" jK C I)(bl:Binds K I ["row","often","other"] [])(ml:mg "less"=some (.ref C))(Gl:ai P w K mg base av 1 C I ["row","often","other"] sY):ai P w K mg base av 2 f fd ["numbers","rows"] E_:=by
 refine F.ok u6 (fun vs H Q E h=>?_) (fun ak A outer s H vs Q E hr h=>?_)
 ·obtain⟨a,L,ns,rs,tb,rfl,_⟩:=h;rfl
 ·obtain⟨a,L,ns,rs,tb,rfl,M,c,g,hw,N,hm,k⟩:=h
  refine⟨_,zd (zr (i:=2) u6.nd rfl (Or.inl rfl) (zC DY (eX (za ze zb)) (zf Gw hr rfl mw Fw.kp bw .nil ac (za (pv 1) zb))))
   (zd (eC AX rfl (nX rfl bz la (za (pv 0) (za (pv 1) zb))) (ij rfl (zE (zl (i:=3) u6.nd rfl (Or.inl rfl)) (zE (zl (i:=4) u6.nd rfl (Or.inl rfl)) ii)))
    (zh (b8 (zv iU (pv 3) ze (ar _))
     (zh (zr (i:=2) u6.nd rfl (Or.inl rfl) (zf Gl hr rfl ml Fl.kp bl .nil ac (za (pv 2) (za (kx kG (pv 3)) (za (pv 4) zb)))))) zF)))
   (zh (zo (pv 2)))),?_⟩
  refine⟨ξ,fun Z U=>?_⟩;have b:=Same.new (o:=.lst [.int 0]) U;refine⟨_,rfl,L,rs,tb,rfl,SqL.of (b _ _ c),g.same b,Z,_,_,rfl,rfl,zc,ω,ω,(by rw[sizeLine_eq];simp;(first|lia|omega)),fun T J=>?_⟩;have sT:=Same.new (o:=.lst (Av ((wid tb:Nat):Int).toNat [V.int 0]).flatten) J;have r:=b.trans sT;have eE:H T=none:=b.free J;have eT:(Av ((wid tb:Nat):Int).toNat [V.int 0]).flatten=(Av (wid tb) (0:Int)).map V.int:=by
   rw[Int.toNat_natCast,List.map_replicate];generalize wid tb=n
   induction n with
   |zero=>rfl
   |succ n ih=>rw[List.replicate_succ,List.flatten_cons,ih,List.replicate_succ];rfl
  have aJ:=g.len;refine⟨_,rfl,_,rfl,a,L,rfl,⟨_,SqL.of (r _ _ M)⟩,⟨_,SqL.of (r _ _ c)⟩,Nf (K:=K) (xs:=ns.map V.int) (ys:=rs.map V.ref) (fun i σ H2=>∃(d:Addr)(j l:Option V),σ=[some (.ref a),some (.ref L),some (.ref d),j,l]/\Same H H2/\H d=none/\H2 d=some (.lst ((((ns.zip tb).take i).foldl b4 (Av (wid tb) 0)).map V.int)))
   ⟨T,none,none,rfl,r,eE,by rw[zc,eT];rfl⟩ (fun i σ H2 ⟨_,_,_,_,sm,_⟩=>⟨SqL.of (sm _ _ M),SqL.of (sm _ _ c)⟩) ?_ ?_⟩
  ·rintro i x y p σ H2 hx hy hp ⟨d,j,l,rfl,sm,q,hd⟩
   obtain⟨n,gn,rfl⟩:=gz hx;obtain⟨o,eo,rfl⟩:=i6 hy;obtain⟨row,O,ho⟩:=g.get eo;have u:(ns.zip tb)[i]?=some (n,row):=by rw[List.getElem?_zip_eq_some];exact⟨gn,O⟩
   have S:∀z∈ns.zip tb,z.2.length=wid tb:=fun z hz=>N z.2 (List.of_mem_zip hz).2;have ll:(((ns.zip tb).take i).foldl b4 (Av (wid tb) 0)).length=wid tb:=E9 (by simp) fun z hz=>S z (List.mem_of_mem_take hz);have sp:=Same.new (o:=.tup [V.int n,V.ref o]) hp;have e2:((ns.zip tb).take (i+1)).foldl b4 (Av (wid tb) 0)=b4 (((ns.zip tb).take i).foldl b4 (Av (wid tb) 0)) (n,row):=by rw[Bb u,List.foldl_append];rfl
   refine⟨p,_,rfl,SqT.of zc,rfl,_,_,rfl,_,_,rfl,rfl,_,rfl,rfl,_,rfl,?_⟩
   by_cases z:n=0
   ·rw[show(!decide (V.int n=V.int 0))=false by rw[z];rfl]
    refine aI ⟨d,_,_,rfl,sm.trans sp,q,?_⟩;rw[e2,z,Ng (by rw[ll];exact(S _ (Ak u)).symm)];have h:=sp _ _ hd;rw[z] at h;exact h
   ·rw[show(!decide (V.int n=V.int 0))=true by rw[decide_eq_false (fun e=>z (by injection e))];rfl]
    refine aS ⟨_,rfl,_,rfl,_,rfl,_,rfl,d,o,_,row,-n,rfl,sp _ _ hd,sp _ _ (sm _ _ ho),by rw[N row (Ak O)];exact hw,fun x hx=>hm _ (Ak u) x hx,fun D H4 W X Y=>?_⟩;refine⟨D,_,_,rfl,(sm.trans sp).trans W,(sm.trans sp).free X,?_⟩;rw[e2];exact Y
  ·rintro σ H2 ⟨d,j,l,rfl,sm,q,hd⟩
   refine⟨_,rfl,k d H2 sm q ?_⟩;rw[hd,Aq (by rw[List.length_zip,Aa,Aa,aJ];exact Ad _)]
   rfl
end
end K21
end
section
namespace K21
open PySem L2
noncomputable abbrev vg:Stmt:=top 22
noncomputable def bN(ns:List Int)(k w:Nat):List Int:=if k<ns.length then(Av w (0:Int)).set k (ns.getD k 0) else Av w 0
def Ni{w:Nat}:(Av ((w:Nat):Int).toNat [V.int 0]).flatten=(Av w (0:Int)).map V.int:=by
 rw[Int.toNat_natCast,List.map_replicate]
 induction w with
 |zero=>rfl
 |succ n ih=>rw[List.replicate_succ,List.flatten_cons,ih,List.replicate_succ];rfl
section
variable{P:Program}{w:World}{K:Af}{mg:Str->Option Value}{base:Heap}
def vp:Sp:=fun vs H Q _=>∃(a:Addr)(ns:List Int)(b c:Nat),vs=[.ref a,.int b,.int c]/\H a=some (.lst (ns.map V.int))/\c<=1000/\(b<ns.length->b<c)/\lh H Q (bN ns b c)
def IG:zn ["numbers","k","width","row"] ["numbers","k","width"] (zg vg):=⟨rfl,rfl,rfl,δ,rfl,δ,δ⟩
def Nj{f:Addr}{fd:FuncData}(F:Fun K "slope_row" "slope_row" vg f fd)(x:mg "len"=none):ai P w K mg base av 1 f fd ["numbers","k","width"] vp:=by
 refine F.ok IG (fun vs H Q E h=>?_) (fun y A outer s H vs Q E hr h=>?_)
 ·obtain⟨a,ns,b,j,rfl,_⟩:=h;rfl
 ·obtain⟨a,ns,b,j,rfl,l,hw,hk,k⟩:=h
  refine⟨_,zd (zr (i:=3) IG.nd rfl (Or.inl rfl) (zC DY (eX (za ze zb)) (pv 2)))
   (zd (b8 (zv qX (pv 1) (zk zj rfl x Iz (za (pv 0) zb)) (ar _))
    (zh (gM (zp zq (pv 0) (pv 1) (fun _ _=>rfl)) (il (pv 3) (pv 1) set_list))) zF)
   (zh (zo (pv 3)))),?_⟩
  refine⟨ξ,fun Z q=>?_⟩;have p:=Same.new (o:=.lst [.int 0]) q;refine⟨_,rfl,Z,_,_,rfl,rfl,zc,ω,ω,(by rw[sizeLine_eq];simp;(first|lia|omega)),fun T g=>?_⟩;rw[Ni];have r:=Same.new (o:=.lst ((Av j (0:Int)).map V.int)) g;have d:=p.trans r;have e:H T=none:=p.free g;refine⟨_,rfl,_,rfl,a,_,rfl,.inl (SqL.of (d _ _ l)),_,_,rfl,rfl,_,rfl,?_⟩;rw[Aa]
  by_cases c:b<ns.length
  ·rw[decide_eq_true (show((b:Nat):Int)<((ns.length:Nat):Int) from ω)]
   have u:=hk c;have v:(ns.map V.int)[b]?=some (V.int (ns.getD b 0)):=cT c;refine aS ⟨_,rfl,_,rfl,a,_,_,_,rfl,rfl,SqL.of (d _ _ l),zi v,_,rfl,_,rfl,T,_,_,b,rfl,rfl,zc,?_,?_⟩
   ·unfold gt
    rw[Aa,List.length_replicate];simp[u]
   ·refine⟨_,rfl,k T _ (d.then e) e ?_⟩
    unfold bN;rw[if_pos c,zc,List.map_set]
  ·rw[decide_eq_false (show ¬((b:Nat):Int)<((ns.length:Nat):Int) from ω)]
   refine aI ⟨_,rfl,k T _ d e ?_⟩;unfold bN;rw[if_neg c,zc]
end
end K21
end
section
namespace K21
open PySem L2
noncomputable abbrev oZ:Stmt:=top 21
noncomputable abbrev vr:Stmt:=top 27
noncomputable def slpT(ns:List Int)(n w:Nat):Ξ:=(Ah n).map fun k=>bN ns k w
section
variable{P:Program}{w:World}{K:Af}{mg:Str->Option Value}{base:Heap}
def E':Sp:=fun vs H Q _=>∃(a:Addr)(ns:List Int)(n b:Nat),vs=[.ref a,.int n,.int b]/\H a=some (.lst (ns.map V.int))/\n<=1000/\b<=1000/\(∀k,k<n->k<ns.length->k<b)/\nS H Q (slpT ns n b)
def Nk:zn ["numbers","size","width"] ["numbers","size","width"] (zg oZ):=⟨rfl,rfl,rfl,δ,rfl,δ,δ⟩
def Nl{f fs:Addr}{fd o:FuncData}(F:Fun K "on_slope" "on_slope" oZ f fd)(I:mg "range"=none)(Fs:Fun K "slope_row" "slope_row" vg fs o)(bs:Binds K o ["numbers","k","width"] [])(ms:mg "slope_row"=some (.ref fs))(M:ai P w K mg base av 1 fs o ["numbers","k","width"] vp):ai P w K mg base av 2 f fd ["numbers","size","width"] E':=by
 refine F.ok Nk (fun vs H Q E h=>?_) (fun N A outer s H vs Q E hr h=>?_)
 ·obtain⟨a,ns,n,l,rfl,_⟩:=h;rfl
 ·obtain⟨a,ns,n,l,rfl,G,r,hw,hk,k⟩:=h
  refine⟨_,zh (zo (zu ["numbers","size","width"] ["k","numbers","width"] [none,some 0,some 2] (zK rfl I (za (pv 1) zb)) (fun p C s₀ H₀ ex=>zl (i:=0) (bA ["k","numbers","width"]) rfl (Or.inl rfl)) (fun p C s₀ H₀ ex=>zy)
   (fun p C s₀ H₀ ex=>zf M hr rfl ms Fs.kp bs .nil ac (za (pv 1) (za (pv 0) (za (pv 2) zb)))) (te:=e8 vp [] E0 (zX (au 1) (zX (au 0) (zX (au 2) bB)))) (hfr:=bx (zg oZ) δ))),?_⟩
  refine⟨_,rfl,_,rfl,ω,ω,fun D q=>?_⟩;refine Cy (n:=n) (g:=fun k=>bN ns k l) (fun j H' R u sm v=>⟨_,rfl,_,rfl,_,rfl,a,ns,j,l,rfl,sm _ _ G,hw,hk j u,fun d J x hd y=>v d J x hd y⟩) ω q fun L ds b c e z r=>k D L ds b q c e z r
noncomputable def unT(n:Nat):Ξ:=slpT (Av n 1) n n
def Fg:Sp:=fun vs H Q _=>∃n:Nat,vs=[.int n]/\n<=1000/\nS H Q (unT n)
def Nm:zn ["size"] ["size"] (zg vr):=⟨rfl,rfl,rfl,δ,rfl,δ,δ⟩
def No{w:Nat}:(Av ((w:Nat):Int).toNat [V.int 1]).flatten=(Av w (1:Int)).map V.int:=by
 rw[Int.toNat_natCast,List.map_replicate]
 induction w with
 |zero=>rfl
 |succ n ih=>rw[List.replicate_succ,List.flatten_cons,ih,List.replicate_succ];rfl
def Np{f fs:Addr}{fd c:FuncData}(F:Fun K "unit" "unit" vr f fd)(Fs:Fun K "on_slope" "on_slope" oZ fs c)(bs:Binds K c ["numbers","size","width"] [])(ms:mg "on_slope"=some (.ref fs))(u:ai P w K mg base av 2 fs c ["numbers","size","width"] E'):ai P w K mg base av 3 f fd ["size"] Fg:=by
 refine F.ok Nm (fun vs H Q E h=>?_) (fun v A outer s H vs Q E hr h=>?_)
 ·obtain⟨n,rfl,_⟩:=h;rfl
 ·obtain⟨n,rfl,e,k⟩:=h
  refine⟨_,zh (zo (zf u hr rfl ms Fs.kp bs .nil ac (za (zC DY (eX (za ze zb)) (pv 0)) (za (pv 0) (za (pv 0) zb))))),?_⟩;refine⟨ξ,fun Z g=>?_⟩;have q:=Same.new (o:=.lst [.int 1]) g;refine⟨_,rfl,Z,_,_,rfl,rfl,zc,ω,ω,(by rw[sizeLine_eq];simp;(first|lia|omega)),fun T i=>?_⟩;rw[No];have r:=Same.new (o:=.lst ((Av n (1:Int)).map V.int)) i;have b:=q.trans r;refine⟨_,rfl,_,rfl,T,_,n,n,rfl,zc,e,e,fun k hk _=>hk,fun D H' ds sm j l hr p a=>?_⟩;exact k D H' ds (b.trans sm) (b.free j) l hr p fun d hd=>⟨b.free (a d hd).1,(a d hd).2⟩
end
end K21
end
section
namespace K21
open PySem L2
noncomputable def dot(r c:List Int):Int:=(Ay (·*·) r c).sum
def MulOk(r c:List Int):Prop:=∀x∈r,∀y∈c,dM x y
def IH:A5 "sum"=some (.builtin "sum"):=δ
section
variable{P:Program}{w:World}{K:Af}{mg:Str->Option Value}{base:Heap}
def Fh:Sp:=fun vs H Q _=>∃r c rn a,vs=[.ref r,.ref c]/\H r=some (.lst (rn.map V.int))/\H c=some (.lst (a.map V.int))/\a.length<=1000/\MulOk rn a/\∀H',Same H H'->Q (.int (dot rn a)) H'
def Nq:zn ["row","column"] ["row","column"] (zg Cw):=⟨rfl,rfl,rfl,δ,rfl,δ,δ⟩
def Nr{f:Addr}{fd:FuncData}(F:Fun K "sum_by" "sum_by" Cw f fd)(v:mg "zip"=none)(bs:mg "sum"=none):ai P w K mg base av 1 f fd ["row","column"] Fh:=by
 refine F.ok Nq (fun vs H Q E h=>?_) (fun y A outer s H vs Q E hr h=>?_)
 ·obtain⟨r,c,rn,o,rfl,_⟩:=h;rfl
 ·obtain⟨r,c,rn,o,rfl,h1,h2,n2,sm,k⟩:=h
  refine⟨_,zh (zo (zk (G8 rfl) rfl bs IH (za (zu ["row","column"] ["number","other"] [none,none] (nX rfl v la (za (pv 0) (za (pv 1) zb)))
   (fun l C s₀ H₀ ex=>ij rfl (zE (zl (i:=0) (bA ["number","other"]) rfl (Or.inl rfl)) (zE (zl (i:=1) (bA ["number","other"]) rfl (Or.inl rfl)) ii))) (fun l C s₀ H₀ ex=>zy)
   (fun l C s₀ H₀ ex=>zC n7 (pv 0) (pv 1)) (te:=bL (rI dM fun i j=>.int (i*j)) (au 0) (au 1)) (hfr:=bM δ) (g:=cb K 2 (cq (zL 0) (cq (zL 1) ca)))) zb))),?_⟩
  refine⟨_,rfl,_,rfl,r,c,rfl,⟨_,SqL.of h1⟩,⟨_,SqL.of h2⟩,fun D p=>?_⟩;refine zw (Et (f:=fun a b=>a*b) (fun a b H' R q hb u=>⟨_,rfl,_,rfl,_,_,rfl,rfl,sm a q b hb,u⟩) h1 h2 n2 p fun x d e=>⟨D,Ay (·*·) rn o,rfl,SqL.of e,k x d⟩)
def Fj(K:Af):Sp:=fun vs H Q _=>∃r C rn b a,vs=[.ref r,.ref C]/\H r=some (.lst (rn.map V.int))/\H C=some (.lst (b.map V.ref))/\Rws H b a/\a.length<=1000/\(∀c∈a,c.length<=1000/\MulOk rn c)/\lh H Q (a.map (dot rn))
def Nt:zn ["row","columns"] ["row","columns"] (zg sL):=⟨rfl,rfl,rfl,δ,rfl,δ,δ⟩
def Nu{f fs:Addr}{fd c:FuncData}(F:Fun K "row_by" "row_by" sL f fd)(Fs:Fun K "sum_by" "sum_by" Cw fs c)(bs:Binds K c ["row","column"] [])(ms:mg "sum_by"=some (.ref fs))(L:ai P w K mg base av 1 fs c ["row","column"] Fh):ai P w K mg base av 2 f fd ["row","columns"] (Fj K):=by
 refine F.ok Nt (fun vs H Q E h=>?_) (fun M A outer s H vs Q E hr h=>?_)
 ·obtain⟨r,C,rn,x,y,rfl,_⟩:=h;rfl
 ·obtain⟨r,C,rn,x,y,rfl,z,l,G,n2,p,k⟩:=h
  refine⟨_,zh (zo (zu ["row","columns"] ["column","row"] [none,some 0] (zJ (pv 1)) (fun d C s₀ H₀ ex=>zl (i:=0) (bA ["column","row"]) rfl (Or.inl rfl)) (fun d C s₀ H₀ ex=>zy)
   (fun d C s₀ H₀ ex=>zf L hr rfl ms Fs.kp bs .nil ac (za (pv 1) (za (pv 0) zb))) (te:=e8 Fh [] E0 (zX (au 1) (zX (au 0) bB))) (hfr:=bx (zg sL) δ))),?_⟩
  refine⟨_,rfl,C,rfl,⟨_,SqL.of l⟩,fun D e=>?_⟩;refine zw (nD (mkV:=V.int) (g:=dot rn) (fun o os H' R sm q j u=>⟨_,rfl,_,rfl,r,o,rn,os,rfl,sm _ _ z,q,(p os j).1,(p os j).2,fun I v=>u I v⟩) (SqL.of l) G ω e fun J a b=>k D J a e b)
def Fn(K:Af):Sp:=fun vs H Q _=>∃L C rs tb b a,vs=[.ref L,.ref C]/\H L=some (.lst (rs.map V.ref))/\H C=some (.lst (b.map V.ref))/\Rws H rs tb/\Rws H b a/\tb.length<=1000/\a.length<=1000/\(∀c∈a,c.length<=1000/\∀r∈tb,MulOk r c)/\nS H Q (tb.map fun r=>a.map (dot r))
def Nv:zn ["table","columns"] ["table","columns"] (zg nE):=⟨rfl,rfl,rfl,δ,rfl,δ,δ⟩
def Nw{f fr:Addr}{fd e:FuncData}(F:Fun K "rows_by" "rows_by" nE f fd)(Fr:Fun K "row_by" "row_by" sL fr e)(U:Binds K e ["row","columns"] [])(W:mg "row_by"=some (.ref fr))(Y:ai P w K mg base av 2 fr e ["row","columns"] (Fj K)):ai P w K mg base av 3 f fd ["table","columns"] (Fn K):=by
 refine F.ok Nv (fun vs H Q E h=>?_) (fun Z A outer s H vs Q E hr h=>?_)
 ·obtain⟨L,C,rs,tb,q,b,rfl,_⟩:=h;rfl
 ·obtain⟨L,X,rs,tb,q,b,rfl,u,O,S,T,z1,n2,v,k⟩:=h
  refine⟨_,zh (zo (zu ["table","columns"] ["row","columns"] [none,some 1] (zJ (pv 0)) (fun l C s₀ H₀ ex=>zl (i:=0) (bA ["row","columns"]) rfl (Or.inl rfl)) (fun l C s₀ H₀ ex=>zy)
    (fun l C s₀ H₀ ex=>zf Y hr rfl W Fr.kp U .nil ac (za (pv 0) (za (pv 1) zb))) (te:=e8 (Fj K) [] E0 (zX (au 0) (zX (au 1) bB))) (hfr:=bx (zg nE) δ))),?_⟩
  refine⟨_,rfl,L,rfl,⟨_,SqL.of u⟩,fun D p=>?_⟩;refine zw (nL (g:=fun r=>b.map (dot r)) (fun o os H' R sm x y z=>⟨_,rfl,_,rfl,o,X,os,q,b,rfl,x,sm _ _ O,T.same sm,n2,fun c hc=>⟨(v c hc).1,(v c hc).2 os y⟩,fun d j a hd G=>z d j a hd G⟩)
    (SqL.of u) S ω p fun j ds a I J M N=>?_)
  exact k D j ds a p I J M N
end
end K21
end
section
namespace K21
open PySem L2
section
variable{P:Program}{w:World}{K:Af}{mg:Str->Option Value}{base:Heap}
def Nx{H2:Hp}{w L2 D:Addr}{rs ss:List Addr}{tb ub:Ξ}{Q:VK}{g:List Int->List Int->List Int}{te:TE}{c:List (Option V)}(L:∀(o u:Addr)(os us:List Int)(H:Hp)(R:VK),Same H2 H->H o=some (.lst (os.map V.int))->H u=some (.lst (us.map V.int))->os∈tb->us∈ub->(∀d H',Same H H'->H d=none->H' d=some (.lst ((g os us).map V.int))->R (.ref d) H')->te (some (.ref o)::some (.ref u)::c) H R)(h1:H2 w=some (.lst (rs.map V.ref)))(h2:H2 L2=some (.lst (ss.map V.ref)))(r:Rws H2 rs tb)(s:Rws H2 ss ub)(hz:ub.length<=1000)(v:H2 D=none)(k:∀b ds,Same H2 b->b D=some (.lst (ds.map V.ref))->Rws b ds (Ay g tb ub)->ds.Nodup->(∀d∈ds,H2 d=none/\d≠D)->Q (.ref D) b):cf (dL K w L2) (cb K 2 (cq (zL 0) (cq (zL 1) ca))) bC te (none::none::c) H2 D Q:=by
 have I:=r.len;have J:=s.len;refine Er (K:=K) (xs:=rs.map V.ref) (ys:=ss.map V.ref) (fun i σ zs b=>∃(h j:Option V)(ds:List Addr),σ=h::j::c/\Same H2 b/\b D=some (.lst zs)/\zs=ds.map V.ref/\Rws b ds ((Ay g tb ub).take i)/\ds.Nodup/\∀d∈ds,H2 d=none/\d≠D)
  ⟨none,none,[],rfl,Same.new v,zc,rfl,.nil,.nil,fun d hd=>nomatch hd⟩ (fun i σ zs b ⟨_,_,_,_,sm,_⟩=>⟨SqL.of (sm _ _ h1),SqL.of (sm _ _ h2)⟩) ?_ ?_
 ·rintro i σ zs b y M N e1 e2 hi z ⟨h,j,ds,rfl,a,e,rfl,hr,l,p⟩ q
  obtain⟨o,g1,rfl⟩:=i6 e1;obtain⟨u,g2,rfl⟩:=i6 e2;obtain⟨os,f1,A⟩:=r.get g1;obtain⟨us,f2,C⟩:=s.get g2;have sp:=Same.new (o:=.tup [V.ref o,V.ref u]) q;refine⟨y,_,rfl,SqT.of zc,rfl,_,_,rfl,_,_,rfl,rfl,gf ?_⟩;refine L o u os us _ _ (a.trans sp) (sp _ _ (a _ _ A)) (sp _ _ (a _ _ C)) (Ak f1) (Ak f2) fun d O f hd x=>?_;obtain⟨E,F,G⟩:=En (D:=D) (o:=.lst (ds.map V.ref++[.ref d])) (a.trans sp) (hr.same sp) l p f hd (by rw[sp _ _ e];simp) x;refine bI (Ag (Nat.min_le_right _ _) (by rw[Aa];exact zA ω)) hi z ((sp.trans f) _ _ e) ⟨_,_,ds++[d],rfl,((a.trans sp).trans f).then v,zc,by simp,?_,F,G⟩;have e3:(Ay g tb ub)[i]?=some (g os us):=by rw[List.getElem?_zipWith,f1,f2]
  rw[Bb e3];exact E
 ·rintro σ zs b ⟨h,j,ds,rfl,a,e,rfl,hr,l,p⟩
  rw[Aq (by simp[I,J])] at hr;exact k b ds a e hr l p
end
end K21
end
section
namespace K21
open PySem L2
noncomputable abbrev vu:Stmt:=top 19
noncomputable def zY(tb:Ξ)(n:Nat):Bool:=decide (tb.length=n)&&tb.all fun r=>decide (r.length=n)
section
variable{P:Program}{w:World}{K:Af}{mg:Str->Option Value}{base:Heap}
def CV(K:Af):Sp:=fun vs H Q _=>∃L rs tb,∃n:Nat,vs=[.ref L,.int n]/\SqL K H L (rs.map V.ref)/\Rws H rs tb/\tb.length<=1000/\∀H',Same H H'->Q (.bl (zY tb n)) H'
def Ny:zn ["table","size"] ["table","size"] (zg vu):=⟨rfl,rfl,rfl,δ,rfl,δ,δ⟩
abbrev vv(K:Af):TE:=bL qS (iY (Cv K) (zX (au 0) bB)) (au 1)
def Nz{f:Addr}{fd:FuncData}(F:Fun K "is_of_size" "is_of_size" vu f fd)(bl:mg "len"=none)(x:mg "all"=none):ai P w K mg base av 1 f fd ["table","size"] (CV K):=by
 refine F.ok Ny (fun vs H Q E h=>?_) (fun z A outer s H vs Q E hr h=>?_)
 ·obtain⟨L,rs,tb,n,rfl,_⟩:=h;rfl
 ·obtain⟨L,rs,tb,n,rfl,d,l,hz,k⟩:=h
  refine⟨_,zh (zo (kd (fX fV (zk zj rfl bl bR (za (pv 0) zb)) (pv 1) (ar _))
   (kc (zk (iZ rfl) rfl x i5 (za (zu ["table","size"] ["row","size"] [none,some 1] (zJ (pv 0)) (fun j C s₀ H₀ ex=>zl (i:=0) (bA ["row","size"]) rfl (Or.inl rfl)) (fun j C s₀ H₀ ex=>zy)
    (fun j C s₀ H₀ ex=>fX fV (zk zj rfl bl bR (za (pv 0) zb)) (pv 1) (ar _)) (te:=vv K) (hfr:=bx (zg vu) δ)) zb))))),?_⟩
  have v:=l.len;refine⟨_,rfl,L,_,rfl,.inl d,_,rfl,rfl,?_⟩;rw[Aa,v,show decide (V.int ((tb.length:Nat):Int)=V.int (n:Int))=decide (tb.length=n) from by rw[Bool.eq_iff_iff];simp;(first|lia|omega)];refine⟨_,rfl,?_⟩
  by_cases c:tb.length=n
  ·rw[decide_eq_true c]
   refine aS ⟨_,rfl,L,rfl,⟨_,d⟩,fun D p=>?_⟩;refine zw (nD (mkV:=V.bl) (g:=fun r=>decide (r.length=n)) (fun o os H' R sm q _ u=>?_) d l hz p fun y a b=>?_)
   ·refine⟨_,rfl,o,_,rfl,.inl (SqL.of q),_,rfl,rfl,?_⟩
    rw[Aa];have:=u H' (Same.refl H');rw[show decide (V.int (os.length:Int)=V.int (n:Int))=decide (os.length=n) from by rw[Bool.eq_iff_iff];simp;(first|lia|omega)];exact this
   ·refine⟨D,_,rfl,SqL.of b,?_⟩
    have e:zY tb n=(tb.map fun r=>decide (r.length=n)).all id:=by
     unfold zY;rw[decide_eq_true c,List.all_map];rfl
    rw[e] at k;exact k y a
  ·rw[decide_eq_false c]
   have e:zY tb n=false:=by unfold zY;rw[decide_eq_false c];rfl
   rw[e] at k;exact aI (k H (Same.refl H))
end
end K21
end
section
namespace K21
open PySem L2
noncomputable abbrev vG:Stmt:=top 20
noncomputable def cn(ns:List Int)(m:Int):Bool:=!decide (m<(ns.length:Int))&&(ns.all fun x=>decide (0<x))&&(Ay (fun a b=>decide (b%a=0)) ns (ns.drop 1)).all id
section
variable{P:Program}{w:World}{K:Af}{mg:Str->Option Value}{base:Heap}
def NA{H2:Hp}{L D:Addr}{ns:List Int}{Q:VK}{f:Int->Bool}{te:TE}{c:List (Option V)}(h:∀(x:Int)(H:Hp)(R:VK),x∈ns->R (.bl (f x)) H->te (some (.int x)::c) H R)(i:H2 L=some (.lst (ns.map V.int)))(hz:ns.length<=1000)(e:H2 D=none)(k:∀b,Same H2 b->b D=some (.lst ((ns.map f).map V.bl))->Q (.ref D) b):cf (eP K L) (zL 0) bC te (none::c) H2 D Q:=by
 refine jF (xs:=ns.map V.int) (fun j σ ys b=>∃(v:Option V),σ=v::c/\Same H2 b/\b D=some (.lst ys)/\ys=((ns.take j).map f).map V.bl) ⟨none,rfl,Same.new e,zc,rfl⟩ ?_ ?_ ?_
 ·rintro j σ ys b ⟨v,rfl,sm,a,rfl⟩
  exact SqL.of (sm _ _ i)
 ·rintro j σ ys b x hx g hy ⟨v,rfl,sm,a,rfl⟩
  obtain⟨y,d,rfl⟩:=gz hx;refine ci (h y b _ (Ak d) (bI (by rw[Aa];exact zA ω) g hy a ⟨_,rfl,sm.then e,zc,?_⟩));rw[Bb d,Ao,Ao];rfl
 ·rintro σ ys b ⟨v,rfl,sm,a,rfl⟩
  rw[Aa,Aq (Ad _)] at a;exact k b sm a
def NB{H2:Hp}{r o D:Addr}{rn on:List Int}{f:Int->Int->Bool}{te:TE}{c:List (Option V)}{Q:VK}(v:∀(a b:Int)(H:Hp)(R:VK),a∈rn->b∈on->R (.bl (f a b)) H->te (some (.int a)::some (.int b)::c) H R)(h1:H2 r=some (.lst (rn.map V.int)))(h2:H2 o=some (.lst (on.map V.int)))(n2:on.length<=1000)(s:H2 D=none)(k:∀d,Same H2 d->d D=some (.lst ((Ay f rn on).map V.bl))->Q (.ref D) d):cf (dL K r o) (cb K 2 (cq (zL 0) (cq (zL 1) ca))) bC te (none::none::c) H2 D Q:=by
 refine Er (K:=K) (xs:=rn.map V.int) (ys:=on.map V.int) (fun i σ zs d=>∃j l,σ=j::l::c/\Same H2 d/\d D=some (.lst zs)/\zs=((Ay f rn on).take i).map V.bl)
  ⟨none,none,rfl,Same.new s,zc,rfl⟩ (fun i σ zs d ⟨_,_,_,sm,_⟩=>⟨SqL.of (sm _ _ h1),SqL.of (sm _ _ h2)⟩) ?_ ?_
 ·rintro i σ zs d u w x e1 e2 hi hz ⟨j,l,rfl,e,g,rfl⟩ h
  obtain⟨p,g1,rfl⟩:=gz e1;obtain⟨q,g2,rfl⟩:=gz e2;refine⟨u,_,rfl,SqT.of zc,rfl,_,_,rfl,_,_,rfl,rfl,gf ?_⟩;refine v p q _ _ (Ak g1) (Ak g2) (bI (Ag (Nat.min_le_right _ _) (by rw[Aa];exact zA ω)) hi hz (by rw[af (zm g h)];exact g) ⟨_,_,rfl,?_,zc,?_⟩)
  ·exact(e.then (e.free h)).then s
  ·have e3:(Ay f rn on)[i]?=some (f p q):=by rw[List.getElem?_zipWith,g1,g2]
   rw[Bb e3,Ao];rfl
 ·rintro σ zs d ⟨j,l,rfl,e,g,rfl⟩
  refine k d e ?_;rw[g,Aq (by simp)]
end
end K21
end
section
namespace K21
open PySem L2
section
variable{P:Program}{w:World}{K:Af}{mg:Str->Option Value}{base:Heap}
def Fq:Sp:=fun vs H Q _=>∃(L:Addr)(ns:List Int)(m:Int),vs=[.ref L,.int m]/\H L=some (.lst (ns.map V.int))/\ns.length<=1000/\∀H',Same H H'->Q (.bl (cn ns m)) H'
def NC:zn ["steps","most"] ["steps","most"] (zg vG):=⟨rfl,rfl,rfl,δ,rfl,δ,δ⟩
def ND{f:Addr}{fd:FuncData}(F:Fun K "are_steps" "are_steps" vG f fd)(bl:mg "len"=none)(v:mg "all"=none)(N:mg "zip"=none):ai P w K mg base av 1 f fd ["steps","most"] Fq:=by
 refine F.ok NC (fun vs H Q E h=>?_) (fun W A outer s H vs Q E hr h=>?_)
 ·obtain⟨L,ns,m,rfl,_⟩:=h;rfl
 ·obtain⟨L,ns,m,rfl,l,hz,k⟩:=h
  refine⟨_,zd (b8 (PW.pt (gs (zv gR (zk zj rfl bl bR (za (pv 0) zb)) (pv 1) (ar _))
    (hZ (dS (dR (zk (iZ rfl) rfl v i5 (za (zu ["steps","most"] ["step"] [none] (zJ (pv 0)) (fun p C s₀ H₀ ex=>zl (i:=0) (bA ["step"]) rfl (Or.inl rfl)) (fun p C s₀ H₀ ex=>zy)
     (fun p C s₀ H₀ ex=>fX gR (pv 0) ze (ar _)) (hfr:=bM δ)) zb))))))) (zh (zo dk)) zF)
   (zh (zo (zk (iZ rfl) rfl v i5 (za (zu ["steps","most"] ["low","high"] [none,none] (nX rfl N la (za (pv 0) (za (m7 Ci (pv 0) (m4 ze) mO) zb)))
    (fun p C s₀ H₀ ex=>ij rfl (zE (zl (i:=0) (bA ["low","high"]) rfl (Or.inl rfl)) (zE (zl (i:=1) (bA ["low","high"]) rfl (Or.inl rfl)) ii))) (fun p C s₀ H₀ ex=>zy)
    (fun p C s₀ H₀ ex=>fX fV (zC jE (pv 1) (pv 0)) ze (ar _)) (hfr:=bM δ) (g:=cb K 2 (cq (zL 0) (cq (zL 1) ca)))) zb)))),?_⟩
  refine⟨_,rfl,L,_,rfl,.inl (SqL.of l),_,rfl,_,_,rfl,rfl,_,rfl,?_⟩;rw[Aa]
  by_cases c:m<(ns.length:Int)
  ·rw[decide_eq_true c]
   refine aS (aS ?_);have:cn ns m=false:=by unfold cn;rw[decide_eq_true c];rfl
   rw[this] at k;exact k H (Same.refl H)
  rw[decide_eq_false c];refine aI ⟨_,rfl,L,rfl,⟨_,SqL.of l⟩,fun D y=>zw (NA (f:=fun x=>decide (0<x)) (fun x H' R _ q=>⟨_,rfl,_,_,rfl,rfl,q⟩) l hz y fun O d r=>⟨D,_,rfl,SqL.of r,_,rfl,?_⟩)⟩
  by_cases j:(ns.map fun x=>decide (0<x)).all id=true
  ·rw[j]
   refine aI ⟨_,rfl,_,rfl,_,rfl,L,_,rfl,SqL.of (d _ _ l),fun S z=>?_⟩;rw[show(some (1:Int))=some ((1:Nat):Int) from rfl,lJ,<-List.map_drop];have u:=Same.new (o:=.lst ((ns.drop 1).map V.int)) z;have pos:∀x∈ns,0<x:=fun x hx=>by
    rw[List.all_map,AY] at j;exact of_decide_eq_true (j x hx)
   refine⟨L,S,rfl,⟨_,SqL.of ((d.trans u) _ _ l)⟩,⟨_,SqL.of zc⟩,fun T G=>zw (NB (f:=fun a b=>decide (b%a=0)) (fun a b H' R I hb q=>?_) ((d.trans u) _ _ l) zc (by rw[List.length_drop];(first|lia|omega)) G fun U J M=>⟨T,_,rfl,SqL.of M,?_⟩)⟩
   ·refine⟨_,rfl,_,rfl,_,_,rfl,rfl,pos a I,rfl,?_⟩
    rw[show decide (V.int (b%a)=V.int 0)=decide (b%a=0) from by rw[Bool.eq_iff_iff];simp];exact q
   ·have e:cn ns m=(Ay (fun a b=>decide (b%a=0)) ns (ns.drop 1)).all id:=by
     unfold cn;rw[List.all_map] at j;rw[decide_eq_false c,show(ns.all fun x=>decide (0<x))=true from j];rfl
    rw[e] at k;exact k U ((d.trans u).trans J)
  ·rw[Bool.eq_false_iff.mpr j]
   refine aS ?_;have:cn ns m=false:=by
    unfold cn;rw[List.all_map] at j;rw[show(ns.all fun x=>decide (0<x))=false from Bool.eq_false_iff.mpr j,Bool.and_false];rfl
   rw[this] at k;exact k O d
end
end K21
end
section
namespace K21
open PySem L2
noncomputable abbrev dN:Stmt:=top 30
def NE(xs:List V)(n:Nat):cz xs none (some (n:Int))=xs.take n:=by
 unfold cz;rw[HT.GG,HT.GH,List.drop_zero,Nat.sub_zero];rcases Nat.le_total n xs.length with h|h
 ·rw[Nat.min_eq_left h]
 ·rw[Nat.min_eq_right h,Aq (Ad _),Aq h]
structure NT(H H':Hp)(a:Addr)(ds:List Addr)(tb:Ξ):Prop where
 at_:H' a=some (.lst (ds.map V.ref))
 rows:Rws H' ds tb
 nd:ds.Nodup
 na:H a=none
 nw:∀d∈ds,H d=none/\d≠a
def NT.same{H H' H2:Hp}{a:Addr}{ds:List Addr}{tb:Ξ}(h:NT H H' a ds tb)(s:Same H' H2):NT H H2 a ds tb:=⟨s _ _ h.at_,h.rows.same s,h.nd,h.na,h.nw⟩
def NT.old{H0 H H':Hp}{a:Addr}{ds:List Addr}{tb:Ξ}(h:NT H H' a ds tb)(s:Same H0 H):NT H0 H' a ds tb:=⟨h.at_,h.rows,h.nd,s.free h.na,fun d hd=>⟨s.free (h.nw d hd).1,(h.nw d hd).2⟩⟩
noncomputable def cat(tb ub:Ξ):Ξ:=Ay (·++·) tb ub
noncomputable def iz(n:Nat)(sh a:Ξ):Ξ:=(Ah n).map fun j=>gl n (colAt sh j) a
structure II(N M X B Y m n:Nat)(tb ub bc:Ξ):Prop where
 l1:tb.length=n
 l2:ub.length=n
 l3:bc.length=n
 w1:∀r∈tb,r.length=m
 w3:∀r∈bc,r.length=n
 n64:n<=40
 m64:m<=500
 w2:∀r∈ub,r.length=n
 ech:ID N M X B Y (m+n) (cat tb ub)
 shr:∀P fr,Tb.FS N M X B ((cat tb ub).map vc) P (vF fr)->Wid (m+n) P fr->∀r∈cat tb ub,jS fr (m+n) r P
 mul:∀P fr,Tb.FS N M X B ((cat tb ub).map vc) P (vF fr)->Wid (m+n) P fr->∀r∈cat tb ub,∀x∈shrL fr r P,∀row∈bc,∀y∈row,dM (-x) y
section
variable{P:Program}{w:World}{K:Af}{mg:Str->Option Value}{base:Heap}
def IJ:Sp:=fun vs H Q _=>∃(t a b c:Addr)(f g h:List Addr)(tb ub d:Ξ)(N M X B Y m n:Nat),vs=[.ref t,.int m]/\H t=some (.tup [.ref a,.ref b,.ref c])/\H a=some (.lst (f.map V.ref))/\H b=some (.lst (g.map V.ref))/\H c=some (.lst (h.map V.ref))/\Rws H f tb/\Rws H g ub/\Rws H h d/\II N M X B Y m n tb ub d/\
 ∀P fr t' a' b' e i j l H',Tb.FS N M X B ((cat tb ub).map vc) P (vF fr)->Wid (m+n) P fr->Same H H'->H' t'=some (.tup [.ref a',.ref b',.ref e])->NT H H' a' i (P.map fun p=>(fr p).take m)->NT H H' b' j (P.map fun p=>(fr p).drop m)->NT H H' e l (iz n ((cat tb ub).map fun r=>shrL fr r P) d)->Q (.ref t') H'
def wa:zn ["side","width","rows","found","fresh","shares"] ["side","width"] (zg dN):=⟨rfl,rfl,rfl,δ,rfl,δ,δ⟩
def NF{H2:Hp}{L D a:Addr}{es:List (Nat×Addr)}{fr:Nat->List Int}{ps:List Nat}{Q:VK}{te:TE}{c:List (Option V)}(l:Fnd H2 a es fr)(E:∀p∈ps,p∈es.map (·.1))(F:∀(p:Nat)(d:Addr)(H:Hp)(R:VK),Same H2 H->DGet H a (.int p) (some (.ref d))->R (.ref d) H->te (some (.int p)::c) H R)(G:H2 L=some (.lst (ps.map fun p:Nat=>V.int (p:Int))))(hz:ps.length<=1000)(g:H2 D=none)(k:∀b ds,Same H2 b->b D=some (.lst (ds.map V.ref))->Rws b ds (ps.map fr)->Q (.ref D) b):cf (eP K L) (zL 0) bC te (none::c) H2 D Q:=by
 refine jF (xs:=ps.map fun p:Nat=>V.int (p:Int)) (fun j σ ys b=>∃(v:Option V)(ds:List Addr),σ=v::c/\Same H2 b/\b D=some (.lst ys)/\ys=ds.map V.ref/\Rws b ds ((ps.take j).map fr)) ⟨none,[],rfl,Same.new g,zc,rfl,.nil⟩ ?_ ?_ ?_
 ·rintro j σ ys b ⟨v,ds,rfl,sm,f,rfl,_⟩
  exact SqL.of (sm _ _ G)
 ·rintro j σ ys b x hx s hy ⟨v,ds,rfl,sm,f,rfl,hr⟩
  obtain⟨p,hp,rfl⟩:∃p,ps[j]?=some p/\x=V.int (p:Int):=by
   rw[Aj] at hx;cases e:ps[j]? with
   |none=>rw[e] at hx;cases hx
   |some p=>rw[e] at hx;cases hx;exact⟨p,rfl,rfl⟩
  obtain⟨d,hd,u,w⟩:=(l.same sm).get (E p (Ak hp));refine ci (F p d b _ sm u (bI (by rw[Aa];exact zA ω) s hy f ⟨_,ds++[d],rfl,sm.then g,zc,by simp,?_⟩));rw[Bb hp,Ao];have A:∀e∈ds++[d],e≠D:=fun e r z=>by
   subst z;rcases List.mem_append.mp r with h|h
   ·obtain⟨i,hi⟩:=List.mem_iff_getElem?.mp h
    obtain⟨ns,e1,e2⟩:=hr.get hi;rw[f] at e2;have e2:=AM e2;injection e2 with e2
    have C:ds.length≠0:=fun z=>by rw[List.length_eq_zero_iff.mp z] at h;cases h
    cases ds with
    |nil=>cases h
    |cons q ds=>cases ns with
     |nil=>cases e2
     |cons n ns=>rw[A6,A6] at e2;cases e2
   ·obtain rfl:e=d:=by simpa using h
    obtain⟨_,y⟩:∃o,H2 e=some o:=⟨_,l.rows _ hd⟩;rw[y] at g;cases g
  exact((hr.snoc w).upd A)
 ·rintro σ ys b ⟨v,ds,rfl,sm,f,rfl,hr⟩
  rw[Aa,Aq (Ad _)] at hr;exact k b ds sm f hr
def NG{f fe fc fm fs:Addr}{fd fY aV cB ay:FuncData}(F:Fun K "straightened" "straightened" dN f fd)(bz:mg "zip"=none)(bs:mg "sorted"=none)(Fe:Fun K "echelon_of" "echelon_of" jk fe fY)(be:Binds K fY ["rows"] [])(me:mg "echelon_of"=some (.ref fe))(Ge:ai P w K mg base av 4 fe fY ["rows"] IE)(Fc:Fun K "columns_of" "columns_of" k8 fc aV)(bc:Binds K aV ["table"] [])(mc:mg "columns_of"=some (.ref fc))(Gc:ai P w K mg base av 3 fc aV ["table"] (sR K))(Fm:Fun K "mix_of" "mix_of" jn fm cB)(bm:Binds K cB ["numbers","rows"] [])(mm:mg "mix_of"=some (.ref fm))(Gm:ai P w K mg base av 2 fm cB ["numbers","rows"] E_)(Fs:Fun K "shares_of" "shares_of" i' fs ay)(bh:Binds K ay ["row","found"] [])(ms:mg "shares_of"=some (.ref fs))(Gs:ai P w K mg base av 2 fs ay ["row","found"] Ez):ai P w K mg base av 5 f fd ["side","width"] IJ:=by
 refine F.ok wa (fun vs H Q E h=>?_) (fun ak A outer s H vs Q E hr h=>?_)
 ·obtain⟨t,a,b,c,da,db,dc,tb,ub,bb,N,M,X,B,Y,m,n,rfl,_⟩:=h;rfl
 ·obtain⟨t,a,b,c,da,db,dc,tb,ub,bb,N,M,X,B,Y,m,n,rfl,ht,ha,hb,hc,ra,rb,rc,ok,k⟩:=h
  have hu:=Co hr;have hr3:Room 3 _:=hr.mono ξ;have hr2:Room 2 _:=hr.mono ξ;refine⟨_,zd (k4 (i:=2) wa.nd rfl (Or.inl rfl) ["side","width","rows","found","fresh","shares"] ["row","turn"] [none,none] (nX rfl bz la (za (zp zt (pv 0) ze (fun _ _=>rfl)) (za (zp zt (pv 0) ze (fun _ _=>rfl)) zb)))
    (fun v C s₀ H₀ ex=>ij rfl (zE (zl (i:=0) (bA ["row","turn"]) rfl (Or.inl rfl)) (zE (zl (i:=1) (bA ["row","turn"]) rfl (Or.inl rfl)) ii))) (fun v C s₀ H₀ ex=>zy)
    (fun v C s₀ H₀ ex=>zC Lb (pv 0) (pv 1)) (te:=bL rv (au 0) (au 1)) (hfr:=bM δ) (g:=cb K 2 (cq (zL 0) (cq (zL 1) ca))))
   (zd (zr (i:=3) wa.nd rfl (Or.inr rfl) (zf Ge hr rfl me Fe.kp be .nil ac (za (pv 2) zb)))
   (zd (k4 (i:=4) wa.nd rfl (Or.inl rfl) ["side","width","rows","found","fresh","shares"] ["place","found"] [none,some 3] (zJ (zk (tF rfl) rfl bs tM (za (pv 3) zb))) (fun v C s₀ H₀ ex=>zl (i:=0) (bA ["place","found"]) rfl (Or.inl rfl)) (fun v C s₀ H₀ ex=>zy)
    (fun v C s₀ H₀ ex=>kO hu (pv 1) (pv 0) (fun _ _=>rfl)) (hfr:=bx (zg dN) δ))
   (zd (k4 (i:=5) wa.nd rfl (Or.inl rfl) ["side","width","rows","found","fresh","shares"] ["row","found"] [none,some 3] (zJ (pv 2)) (fun v C s₀ H₀ ex=>zl (i:=0) (bA ["row","found"]) rfl (Or.inl rfl)) (fun v C s₀ H₀ ex=>zy)
    (fun v C s₀ H₀ ex=>zf Gs hr2 rfl ms Fs.kp bh .nil ac (za (pv 0) (za (pv 1) zb))) (te:=e8 Ez [] E0 (zX (au 0) (zX (au 1) bB))) (hfr:=bx (zg dN) δ))
   (zh (zo (im (za
    (zu ["side","width","rows","found","fresh","shares"] ["row","width"] [none,some 1] (zJ (pv 4)) (fun v C s₀ H₀ ex=>zl (i:=0) (bA ["row","width"]) rfl (Or.inl rfl)) (fun v C s₀ H₀ ex=>zy)
     (fun v C s₀ H₀ ex=>m7 Ci (pv 0) mO (m4 (pv 1))) (te:=DQ (kJ K) (au 0) DO (DP (au 1))) (hfr:=bx (zg dN) δ))
    (za (zu ["side","width","rows","found","fresh","shares"] ["row","width"] [none,some 1] (zJ (pv 4)) (fun v C s₀ H₀ ex=>zl (i:=0) (bA ["row","width"]) rfl (Or.inl rfl)) (fun v C s₀ H₀ ex=>zy)
     (fun v C s₀ H₀ ex=>m7 Ci (pv 0) (m4 (pv 1)) mO) (te:=DQ (kJ K) (au 0) (DP (au 1)) DO) (hfr:=bx (zg dN) δ))
    (za (zu ["side","width","rows","found","fresh","shares"] ["numbers","side"] [none,some 0] (zJ (zf Gc hr3 rfl mc Fc.kp bc .nil ac (za (pv 5) zb))) (fun v C s₀ H₀ ex=>zl (i:=0) (bA ["numbers","side"]) rfl (Or.inl rfl)) (fun v C s₀ H₀ ex=>zy)
     (fun v C s₀ H₀ ex=>zf Gm hr2 rfl mm Fm.kp bm .nil ac (za (pv 0) (za (zp zt (pv 1) ze (fun _ _=>rfl)) zb))) (te:=e8 E_ [] E0 (zX (au 0) (zX (bL (ro K) (au 1) (tC (.int 2))) bB))) (hfr:=bx (zg dN) δ)) zb))))))))),?_⟩
  refine⟨_,rfl,t,_,_,_,rfl,rfl,SqT.of ht,zi (j:=0) rfl,_,rfl,t,_,_,_,rfl,rfl,SqT.of ht,zi (j:=1) rfl,a,b,rfl,⟨_,SqL.of ha⟩,⟨_,SqL.of hb⟩,fun R hR=>zw (Nx (g:=fun x y=>x++y) (fun o u os us H' R sm G iO gG fB hk=>?_) ha hb ra rb (by have:=ok.l2;have:=ok.n64;(first|lia|omega)) hR fun H1 rs s1 ky I _ _=>?_)⟩
  ·refine⟨_,rfl,_,rfl,o,u,_,_,rfl,rfl,G,iO,?_,fun p hp=>?_⟩
   ·rw[Aa,Aa,ok.w1 os gG,ok.w2 us fB,sizeLine_eq];have:=ok.n64;have:=ok.m64;(first|lia|omega)
   ·rw[<-Ao]
    exact hk p _ (Same.new hp) hp zc
  have I:Rws H1 rs (cat tb ub):=I;refine⟨_,rfl,R,rs,cat tb ub,N,M,X,B,Y,m+n,rfl,ky,I,ok.ech,fun a1 H2 es fr PP s2 z_ F2 jJ lX FS=>?_⟩;have lc:(cat tb ub).length=n:=by unfold cat;rw[AF,ok.l1,ok.l2,Nat.min_self]
  have lP:PP.length=n:=by rw[FS.len,Aa,lc]
  have le:es.length<64:=by have:=jJ.len;have:=ok.n64;(first|lia|omega)
  refine⟨_,rfl,a1,ez es,rfl,F2.at_,(by simpa using le),fun PL ms pm so dQ=>?_⟩;rw[jJ.ints pm so];have mU:=Same.new (o:=.lst (PP.map fun p:Nat=>V.int (p:Int))) dQ;refine⟨PL,rfl,⟨_,SqL.of zc⟩,fun FD gP=>zw (NF (F2.same mU) (fun p hp=>jJ.pm.mem_iff.mp hp) (fun p d H' R sm gd hk=>⟨_,rfl,_,rfl,a1,_,rfl,gd,hk⟩) zc (by have:=ok.n64;(first|lia|omega)) gP fun H3 fs s3 eh p3=>?_)⟩;have aU:=(s2.trans mU).trans s3;have F3:=(F2.same mU).same s3;refine⟨_,rfl,R,rfl,⟨_,SqL.of (aU _ _ ky)⟩,fun SD ve=>zw (nL (g:=fun r=>shrL fr r PP) (fun o os H' R' sm G W hk=>?_) (SqL.of (aU _ _ ky)) (I.same aU) (by rw[lc];have:=ok.n64;(first|lia|omega)) ve fun H4 ss J kD tD _ _=>?_)⟩
  ·exact⟨_,rfl,_,rfl,o,a1,os,es,fr,PP,m+n,rfl,G,F3.same sm,jJ,le,ok.shr PP fr FS lX os W,hk⟩
  have pL:=(s1.trans aU).trans J;refine⟨_,rfl,FD,rfl,⟨_,SqL.of (J _ _ eh)⟩,fun A1 p5=>zw (nL (g:=fun r=>r.take m) (fun o os H' R' sm G W hk=>?_) (SqL.of (J _ _ eh)) (p3.same J) (by rw[Aa,lP];have:=ok.n64;(first|lia|omega)) p5 fun H5 d5 S qL r5 n5 w5=>?_)⟩
  ·refine⟨_,rfl,_,rfl,_,rfl,o,_,rfl,SqL.of G,fun q hq=>?_⟩
   rw[NE,<-List.map_take];exact hk q _ (Same.new hq) hq zc
  refine⟨_,rfl,FD,rfl,⟨_,SqL.of ((J.trans S) _ _ eh)⟩,fun A2 oC=>zw (nL (g:=fun r=>r.drop m) (fun o os H' R' sm G W hk=>?_) (SqL.of ((J.trans S) _ _ eh)) (p3.same (J.trans S)) (by rw[Aa,lP];have:=ok.n64;(first|lia|omega)) oC fun H6 d6 s6 yc r6 n6 w6=>?_)⟩
  ·refine⟨_,rfl,_,rfl,_,rfl,o,_,rfl,SqL.of G,fun q hq=>?_⟩
   rw[lJ,<-List.map_drop];exact hk q _ (Same.new hq) hq zc
  have iu:=S.trans s6;have qR:=pL.trans iu;have iC:((cat tb ub).map fun r=>shrL fr r PP).length=n:=by rw[Aa,lc]
  have L:∀r∈(cat tb ub).map (fun r=>shrL fr r PP),r.length=n:=fun r hr=>by
   obtain⟨q,_,rfl⟩:=List.mem_map.mp hr;rw[tW,lP]
  have D:wid ((cat tb ub).map fun r=>shrL fr r PP)=n:=by
   cases e:(cat tb ub).map (fun r=>shrL fr r PP) with
   |nil=>rw[e] at iC;exact iC
   |cons x l=>rw[e] at L;exact L x (Ar ..)
  have tsh:cu ((cat tb ub).map fun r=>shrL fr r PP)=true:=by
   unfold cu;rw[D,iC,decide_eq_true ok.n64];simp only[Bool.and_self,Bool.true_and,AY];exact fun r hr=>decide_eq_true (L r hr)
  refine⟨_,rfl,SD,ss,_,rfl,SqL.of (iu _ _ kD),tD.same iu,tsh,fun CD H7 cs Z yY jb oB _ _=>⟨CD,rfl,⟨_,SqL.of jb⟩,fun A3 pS=>?_⟩⟩;have iQ:=qR.trans Z;have et:turn ((cat tb ub).map fun r=>shrL fr r PP)=(Ah n).map (colAt ((cat tb ub).map fun r=>shrL fr r PP)):=by unfold turn;rw[D]
  rw[et] at oB;have uz:∀r∈bb,r.length=wid bb:=fun r hr=>by
   cases e:bb with
   |nil=>rw[e] at hr;cases hr
   |cons x l=>rw[ok.w3 r hr];exact(ok.w3 x (by rw[e];exact Ar ..)).symm
  have wb:wid bb=n:=by
   cases e:bb with
   |nil=>have:=ok.l3;rw[e] at this;exact this
   |cons x l=>exact ok.w3 x (by rw[e];exact Ar ..)
  refine zw (nL (g:=fun ns=>gl n ns bb) (fun o os H' R' sm G W hk=>?_) (SqL.of jb) oB (by rw[Aa,A8];have:=ok.n64;(first|lia|omega)) pS fun H8 d8 s8 uX r8 n8 w8=>?_)
  ·have mP:=iQ.trans sm
   refine⟨_,rfl,_,rfl,t,_,_,_,rfl,rfl,SqT.of (mP _ _ ht),zi (j:=2) rfl,o,c,os,dc,bb,rfl,G,mP _ _ hc,rc.same mP,by rw[wb];have:=ok.n64;(first|lia|omega),uz,fun z hz y hy=>?_,by rw[wb];exact hk⟩;obtain⟨z1,z2⟩:=List.of_mem_zip hz;obtain⟨j,hj,rfl⟩:=List.mem_map.mp W;have z1:z.1∈((cat tb ub).map fun r=>shrL fr r PP).map fun r=>r.getD j 0:=z1;obtain⟨sr,qJ,e1⟩:=List.mem_map.mp z1;obtain⟨r,hr,rfl⟩:=List.mem_map.mp qJ;refine ok.mul PP fr FS lX r hr z.1 ?_ z.2 z2 y hy;have hj:=List.mem_range.mp hj;have xQ:j<(shrL fr r PP).length:=by rw[tW,lP];exact hj
   rw[<-e1,Ac,Ab xQ];exact Az _
  ·have oS:=(s6.trans Z).trans s8
   have nO:=Z.trans s8;have U:∀{x},H4 x=none->H x=none:=fun h=>pL.free h;refine⟨by show 3<=sizeLine;decide,fun T hT=>?_⟩;have O:=Same.new (o:=.tup [V.ref A1,V.ref A2,V.ref A3]) hT;rw[AS] at r5 r6 r8;refine k PP fr T A1 A2 A3 d5 d6 d8 _ FS lX ((iQ.trans s8).trans O) zc ⟨O _ _ (oS _ _ qL),(r5.same oS).same O,n5,U p5,fun d hd=>⟨U (w5 d hd).1,(w5 d hd).2⟩⟩ ⟨O _ _ (nO _ _ yc),(r6.same nO).same O,n6,U (S.free oC),fun d hd=>⟨U (S.free (w6 d hd).1),(w6 d hd).2⟩⟩ ⟨O _ _ uX,r8.same O,n8,U (iu.free (Z.free pS)),fun d hd=>⟨U (iu.free (Z.free (w8 d hd).1)),(w8 d hd).2⟩⟩
end
end K21
end
section
namespace K21
open PySem L2
noncomputable abbrev CW:Stmt:=top 40
noncomputable def rowAt(tb:Ξ)(i:Nat):List Int:=tb.getD i []
noncomputable def slT(tb:Ξ)(r:Nat):Nat->Ξ
 |0=>tb
 |n+1=>(slT tb r n).set (r-2-n) (dv (rowAt (slT tb r n) (r-2-n)) (-1) (rowAt (slT tb r n) (r-1-n)))
noncomputable def slB(tb:Ξ)(r:Nat):Nat->Ξ
 |0=>tb
 |n+1=>(slB tb r n).set (r-1-n) (dv (rowAt (slB tb r n) (r-1-n)) 1 (rowAt (slB tb r n) (r-2-n)))
def lN{tb:Ξ}{r:Nat}:∀n,(slT tb r n).length=tb.length
 |0=>rfl
 |n+1=>by show List.length (List.set _ _ _)=_;rw[List.length_set];exact lN n
def wc{tb:Ξ}{r:Nat}:∀n,(slB tb r n).length=tb.length
 |0=>rfl
 |n+1=>by show List.length (List.set _ _ _)=_;rw[List.length_set];exact wc n
structure Wk(H0:Hp)(Z:List Addr)(H:Hp)(R:Addr)(rs:List Addr)(tb:Ξ):Prop where
 at_:H R=some (.lst (rs.map V.ref))
 rows:Rws H rs tb
 nd:rs.Nodup
 nw:∀d∈rs,H0 d=none/\∀z∈Z,d≠z
section
variable{H0 H H':Hp}{Z:List Addr}{R R':Addr}{rs:List Addr}{tb:Ξ}
def Wk.same(h:Wk H0 Z H R rs tb)(s:Same H H'):Wk H0 Z H' R rs tb:=⟨s _ _ h.at_,h.rows.same s,h.nd,h.nw⟩
def Wk.get(h:Wk H0 Z H R rs tb){i:Nat}(hi:i<tb.length):∃d,rs[i]?=some d/\(rs.map V.ref)[i]?=some (V.ref d)/\H d=some (.lst ((rowAt tb i).map V.int)):=by
 have a:=h.rows.len;obtain⟨ns,e1,e2⟩:=h.rows.get (Ab (show i<rs.length from ω));refine⟨rs[i]'ω,Ab _,by rw[Aj,Ab (show i<rs.length from ω)];rfl,?_⟩;unfold rowAt;rw[Ac,e1];exact e2
def Wk.other(h:Wk H0 Z H R' rs tb)(hz:R∈Z)(ne:R'≠R){o:HO}:Wk H0 Z (upd H R o) R' rs tb:=⟨by rw[af ne];exact h.at_,h.rows.upd fun d hd=>(h.nw d hd).2 R hz,h.nd,h.nw⟩
def NH{l:List Addr}{i:Nat}{d:Addr}(h:l.Nodup)(hd:d∉l):(l.set i d).Nodup:=by
 rw[List.Nodup,List.pairwise_iff_getElem];intro a b e hb g;rw[List.length_set] at e hb;have f:∀c(hc:c<l.length),l[c]≠d:=fun c hc z=>hd (z▸Az hc);rw[List.getElem_set,List.getElem_set];have:=List.pairwise_iff_getElem.mp h a b e hb g;split
 ·split
  ·(first|lia|omega)
  ·exact(f b hb).symm
 ·split
  ·exact f a e
  ·exact this
def NI{H:Hp}{rs:List Addr}{tb:Ξ}{d:Addr}{ns:List Int}(h:Rws H rs tb)(e:H d=some (.lst (ns.map V.int))):∀i,Rws H (rs.set i d) (tb.set i ns):=by
 induction h with
 |nil=>intro i;exact .nil
 |cons r t ih=>intro i;cases i with
  |zero=>exact .cons e t
  |succ i=>exact .cons r (ih i)
noncomputable def Wk.put(h:Wk H0 Z H R rs tb)(b:Same H0 H')(s:Same H H'){d:Addr}{ns:List Int}{H2:Hp}(c:Same H' H2)(hd:H' d=none)(e:H2 d=some (.lst (ns.map V.int)))(hz:R∈Z)(f:∀z∈Z,H' z≠none)(i:Nat):Wk H0 Z (upd H2 R (.lst ((rs.map V.ref).set i (.ref d)))) R (rs.set i d) (tb.set i ns):=by
 have a:d∉rs:=fun z=>(h.same s).rows.there d z hd;have nz:∀z∈Z,d≠z:=fun z hz e=>f z hz (e▸hd);refine⟨by rw[zc,List.map_set],?_,NH h.nd a,fun x hx=>?_⟩
 ·refine(NI ((h.rows.same s).same c) e i).upd fun x hx=>?_
  rcases List.mem_or_eq_of_mem_set hx with hx|rfl
  ·exact(h.nw x hx).2 R hz
  ·exact nz R hz
 ·rcases List.mem_or_eq_of_mem_set hx with hx|rfl
  ·exact h.nw x hx
  ·exact⟨b.free hd,nz⟩
end
def Sml(tb:Ξ):Prop:=∀r∈tb,r.length<=1000/\∀x∈r,x.natAbs<big
def IK:(1:Int).natAbs<big:=by
 unfold big;exact Nat.one_lt_two_pow (by have:=oA;(first|lia|omega))
def Sml.at{tb:Ξ}(h:Sml tb){i:Nat}(hi:i<tb.length):(rowAt tb i).length<=1000/\∀x∈rowAt tb i,x.natAbs<big:=by
 refine h _ ?_;unfold rowAt;rw[Ac,Ab hi];exact Az _
section
variable{P:Program}{w:World}{K:Af}{mg:Str->Option Value}{base:Heap}
def IL:Sp:=fun vs H Q _=>∃(H0:Hp)(t a b c:Addr)(h i l:List Addr)(tb ub bb:Ξ)(n r:Nat),vs=[.ref t,.int r]/\H t=some (.tup [.ref a,.ref b,.ref c])/\Same H0 H/\NT H0 H a h tb/\NT H0 H b i ub/\NT H0 H c l bb/\tb.length=n/\ub.length=n/\bb.length=n/\1<=r/\r<=n/\n<=1000/\
 (∀j,j<r->Sml (slT tb r j)/\Sml (slT ub r j)/\Sml (slB bb r j))/\
 ∀t' a' b' d e f g H',Same H H'->H' t'=some (.tup [.ref a',.ref b',.ref d])->NT H0 H' a' e (slT tb r (r-1))->NT H0 H' b' f (slT ub r (r-1))->NT H0 H' d g (slB bb r (r-1))->Q (.ref t') H'
def wh:zn ["side","count","rows","turn","back","k"] ["side","count"] (zg CW):=⟨rfl,rfl,rfl,δ,rfl,δ,δ⟩
def Fv:A5 "list"=some (.type "list"):=δ
def NJ{f fl:Addr}{fd bD:FuncData}(F:Fun K "slid" "slid" CW f fd)(bg:mg "range"=none)(bs:mg "list"=none)(Fl:Fun K "less" "less" jK fl bD)(bl:Binds K bD ["row","often","other"] [])(ml:mg "less"=some (.ref fl))(Gl:ai P w K mg base av 1 fl bD ["row","often","other"] sY):ai P w K mg base av 2 f fd ["side","count"] IL:=by
 refine F.ok wh (fun vs H Q E h=>?_) (fun ak A outer s H vs Q E hr h=>?_)
 ·obtain⟨H0,t,a,b,c,da,db,dc,tb,ub,bb,n,r,rfl,_⟩:=h;rfl
 ·obtain⟨H0,t,a,b,c,da,db,dc,tb,ub,bb,n,r,rfl,ht,s0,na,nb,nc,l1,l2,l3,r1,rn,n9,wt,k⟩:=h
  refine⟨_,zd (zr (i:=2) wh.nd rfl (Or.inl rfl) (kH rq rfl bs Fv (za (zp zt (pv 0) ze (fun _ _=>rfl)) zb)))
   (zd (zr (i:=3) wh.nd rfl (Or.inl rfl) (kH rq rfl bs Fv (za (zp zt (pv 0) ze (fun _ _=>rfl)) zb)))
   (zd (zr (i:=4) wh.nd rfl (Or.inl rfl) (kH rq rfl bs Fv (za (zp zt (pv 0) ze (fun _ _=>rfl)) zb)))
   (zd (eC AX rfl (Ix rfl bg (za (zC eU (pv 1) ze) (za ze (za (kx kG ze) zb)))) (zl (i:=5) wh.nd rfl (Or.inl rfl))
    (zd (gM (zf Gl hr rfl ml Fl.kp bl .nil ac (za (zp zq (pv 2) (zC eU (pv 5) ze) (fun _ _=>rfl)) (za (kx kG ze) (za (zp zq (pv 2) (pv 5) (fun _ _=>rfl)) zb)))) (il (pv 2) (zC eU (pv 5) ze) set_list))
    (zd (gM (zf Gl hr rfl ml Fl.kp bl .nil ac (za (zp zq (pv 3) (zC eU (pv 5) ze) (fun _ _=>rfl)) (za (kx kG ze) (za (zp zq (pv 3) (pv 5) (fun _ _=>rfl)) zb)))) (il (pv 3) (zC eU (pv 5) ze) set_list))
    (zh (gM (zf Gl hr rfl ml Fl.kp bl .nil ac (za (zp zq (pv 4) (pv 5) (fun _ _=>rfl)) (za ze (za (zp zq (pv 4) (zC eU (pv 5) ze) (fun _ _=>rfl)) zb)))) (il (pv 4) (pv 5) set_list))))))
   (zh (zo (im (za (pv 2) (za (pv 3) (za (pv 4) zb))))))))),?_⟩
  refine⟨_,rfl,t,_,_,_,rfl,rfl,SqT.of ht,zi (j:=0) rfl,a,_,rfl,.inl (SqL.of na.at_),fun R hR=>?_⟩;have I:=Same.new (o:=.lst (da.map V.ref)) hR;refine⟨_,rfl,t,_,_,_,rfl,rfl,SqT.of (I _ _ ht),zi (j:=1) rfl,b,_,rfl,.inl (SqL.of (I _ _ nb.at_)),fun T hT=>?_⟩;have M:=Same.new (o:=.lst (db.map V.ref)) hT;refine⟨_,rfl,t,_,_,_,rfl,rfl,SqT.of ((I.trans M) _ _ ht),zi (j:=2) rfl,c,_,rfl,.inl (SqL.of ((I.trans M) _ _ nc.at_)),fun B hB=>?_⟩;have sB:=Same.new (o:=.lst (dc.map V.ref)) hB;have sZ:=(I.trans M).trans sB;have pZ:R≠T:=zm zc hT;have pT:T≠B:=zm zc hB;have nR:R≠B:=zm (M _ _ zc) hB;have eE:H T=none:=I.free hT;have kT:H B=none:=(I.trans M).free hB;have W0:∀{x:Addr}{dx:List Addr}{tx:Ξ}{Y:Addr}{H2:Hp},NT H0 H x dx tx->Same H H2->H2 Y=some (.lst (dx.map V.ref))->Wk H0 [R,T,B] H2 Y dx tx:=fun{x dx tx Y H2} n s e=>
   ⟨e,n.rows.same s,n.nd,fun d hd=>⟨(n.nw d hd).1,fun z hz q=>by
    have y:=n.rows.there d hd;rw[q] at y;simp at hz;rcases hz with rfl|rfl|rfl
    ·exact y hR
    ·exact y eE
    ·exact y kT⟩⟩
  have en:(((r:Nat):Int)-1-0).toNat=r-1:=ω
  refine⟨_,rfl,_,_,rfl,rfl,_,rfl,_,_,rfl,⟨ω,ω,ω,ω⟩,?_⟩;rw[en];refine Iy (fun i σ H2=>∃(v5:Option V)(rs v bs:List Addr),σ=[some (.ref t),some (.int r),some (.ref R),some (.ref T),some (.ref B),v5]/\Same H H2/\Wk H0 [R,T,B] H2 R rs (slT tb r i)/\Wk H0 [R,T,B] H2 T v (slT ub r i)/\Wk H0 [R,T,B] H2 B bs (slB bb r i))
   ⟨none,da,db,dc,rfl,sZ,W0 na sZ ((M.trans sB) _ _ zc),W0 nb sZ (sB _ _ zc),W0 nc sZ zc⟩ ?_ ?_
  ·rintro i σ H2 hi ⟨v5,rs,v,bs,rfl,sm,u,wT,wB⟩
   obtain⟨g,jA⟩:∃g,g=r-2-i:=⟨_,rfl⟩;have e1:((r:Nat):Int)-1-((i:Nat):Int)=((g+1:Nat):Int):=ω
   have e2:((g+1:Nat):Int)-1=((g:Nat):Int):=ω
   have J:r-1-i=g+1:=ω
   obtain⟨ke,de,sm3⟩:=wt i ω;have lR:(slT tb r i).length=n:=by rw[lN,l1]
   have lT:(slT ub r i).length=n:=by rw[lN,l2]
   have lB:(slB bb r i).length=n:=by rw[wc,l3]
   have p:∀{q:Int}{x:Int},q.natAbs<=1->x.natAbs<big->dM q x:=fun hq hx=>g_ (AD hq IK) hx;have ix:∀{l:List Addr}{j:Nat},j<l.length->gt (l.map V.ref).length ((j:Nat):Int)=some j:=fun{l j} h=>by unfold gt;rw[Aa];simp[h]
   have Zin:∀{L:Hp},Same H2 L->∀z∈[R,T,B],L z≠none:=fun{L} s z hz=>by
    simp at hz;rcases hz with rfl|rfl|rfl
    ·rw[s _ _ u.at_];simp
    ·rw[s _ _ wT.at_];simp
    ·rw[s _ _ wB.at_];simp
   obtain⟨d1,g1,U,h1⟩:=u.get (i:=g) ω;obtain⟨d2,g2,W,h2⟩:=u.get (i:=g+1) ω;rw[e1];have G:=ke.at (i:=g+1) ω;refine⟨_,rfl,_,rfl,_,_,rfl,rfl,R,_,_,_,rfl,rfl,SqL.of u.at_,by rw[e2];exact zi U,_,rfl,_,rfl,_,rfl,R,_,_,_,rfl,rfl,SqL.of u.at_,zi W,d1,d2,_,_,-1,rfl,h1,h2,G.1,fun x hx=>p ξ (G.2 x hx),fun X L N hD3 e3=>?_⟩;refine⟨_,rfl,_,rfl,_,_,rfl,rfl,R,_,_,g,rfl,rfl,N _ _ u.at_,by rw[e2];exact ix (by have:=u.rows.len;(first|lia|omega)),?_⟩;have j_:=u.put (s0.trans sm) (Same.refl H2) N hD3 e3 (by simp) (Zin (Same.refl H2)) g;have fg:Same H (upd L R (.lst ((rs.map V.ref).set g (.ref X)))):=(sm.trans N).then hR;have C:=(wT.same N).other (R:=R) (by simp) (Ne.symm pZ) (o:=.lst ((rs.map V.ref).set g (.ref X)));have mV:=(wB.same N).other (R:=R) (by simp) (Ne.symm nR) (o:=.lst ((rs.map V.ref).set g (.ref X)));have Z3:∀z∈[R,T,B],(upd L R (.lst ((rs.map V.ref).set g (.ref X)))) z≠none:=fun z hz=>by
    simp at hz;rcases hz with rfl|rfl|rfl
    ·rw[zc];simp
    ·rw[C.at_];simp
    ·rw[mV.at_];simp
   have et1:(slT tb r i).set g (dv (rowAt (slT tb r i) g) (-1) (rowAt (slT tb r i) (g+1)))=slT tb r (i+1):=by
    show _=(slT tb r i).set (r-2-i) (dv (rowAt (slT tb r i) (r-2-i)) (-1) (rowAt (slT tb r i) (r-1-i)));rw[<-jA,J]
   rw[et1] at j_;generalize upd L R (.lst ((rs.map V.ref).set g (.ref X)))=H4 at j_ fg C mV Z3 ⊢;obtain⟨d1,g1,U,h1⟩:=C.get (i:=g) ω;obtain⟨d2,g2,W,h2⟩:=C.get (i:=g+1) ω;have G:=de.at (i:=g+1) ω;refine⟨_,rfl,_,rfl,_,_,rfl,rfl,T,_,_,_,rfl,rfl,SqL.of C.at_,by rw[e2];exact zi U,_,rfl,_,rfl,_,rfl,T,_,_,_,rfl,rfl,SqL.of C.at_,zi W,d1,d2,_,_,-1,rfl,h1,h2,G.1,fun x hx=>p ξ (G.2 x hx),fun Z H5 O c7 e5=>?_⟩;refine⟨_,rfl,_,rfl,_,_,rfl,rfl,T,_,_,g,rfl,rfl,O _ _ C.at_,by rw[e2];exact ix (by have:=C.rows.len;(first|lia|omega)),?_⟩;have mE:=C.put (s0.trans fg) (Same.refl H4) O c7 e5 (by simp) Z3 g;have lK:Same H (upd H5 T (.lst ((v.map V.ref).set g (.ref Z)))):=(fg.trans O).then eE;have mJ:=(j_.same O).other (R:=T) (by simp) pZ (o:=.lst ((v.map V.ref).set g (.ref Z)));have D:=(mV.same O).other (R:=T) (by simp) (Ne.symm pT) (o:=.lst ((v.map V.ref).set g (.ref Z)));have Z5:∀z∈[R,T,B],(upd H5 T (.lst ((v.map V.ref).set g (.ref Z)))) z≠none:=fun z hz=>by
    simp at hz;rcases hz with rfl|rfl|rfl
    ·rw[mJ.at_];simp
    ·rw[zc];simp
    ·rw[D.at_];simp
   have et2:(slT ub r i).set g (dv (rowAt (slT ub r i) g) (-1) (rowAt (slT ub r i) (g+1)))=slT ub r (i+1):=by
    show _=(slT ub r i).set (r-2-i) (dv (rowAt (slT ub r i) (r-2-i)) (-1) (rowAt (slT ub r i) (r-1-i)));rw[<-jA,J]
   rw[et2] at mE;generalize upd H5 T (.lst ((v.map V.ref).set g (.ref Z)))=H6 at mJ lK mE D Z5 ⊢;obtain⟨d1,g1,U,h1⟩:=D.get (i:=g+1) ω;obtain⟨d2,g2,W,h2⟩:=D.get (i:=g) ω;have G:=sm3.at (i:=g) ω;refine⟨_,rfl,_,rfl,B,_,_,_,rfl,rfl,SqL.of D.at_,zi U,_,rfl,_,rfl,_,_,rfl,rfl,B,_,_,_,rfl,rfl,SqL.of D.at_,by rw[e2];exact zi W,d1,d2,_,_,1,rfl,h1,h2,G.1,fun x hx=>p ξ (G.2 x hx),fun D7 H7 S lO e7=>?_⟩;refine⟨_,rfl,_,rfl,B,_,_,g+1,rfl,rfl,S _ _ D.at_,ix (by have:=D.rows.len;(first|lia|omega)),?_⟩;have n_:=D.put (s0.trans lK) (Same.refl H6) S lO e7 (by simp) Z5 (g+1);have uY:=(mJ.same S).other (R:=B) (by simp) nR (o:=.lst ((bs.map V.ref).set (g+1) (.ref D7)));have sE:=(mE.same S).other (R:=B) (by simp) pT (o:=.lst ((bs.map V.ref).set (g+1) (.ref D7)));have uW:(slB bb r i).set (g+1) (dv (rowAt (slB bb r i) (g+1)) 1 (rowAt (slB bb r i) g))=slB bb r (i+1):=by
    show _=(slB bb r i).set (r-1-i) (dv (rowAt (slB bb r i) (r-1-i)) 1 (rowAt (slB bb r i) (r-2-i)));rw[<-jA,J]
   rw[uW] at n_;exact⟨_,_,_,_,rfl,(lK.trans S).then kT,uY,sE,n_⟩
  ·rintro σ H2 ⟨v5,rs,v,bs,rfl,sm,u,wT,wB⟩
   refine⟨_,rfl,_,rfl,_,rfl,by show 3<=sizeLine;decide,fun t' ht'=>?_⟩;have mj:=Same.new (o:=.tup [V.ref R,V.ref T,V.ref B]) ht';have nt:∀{Y:Addr}{ds:List Addr}{tx:Ξ},Wk H0 [R,T,B] H2 Y ds tx->H Y=none->Y∈[R,T,B]->NT H0 (upd H2 t' (.tup [V.ref R,V.ref T,V.ref B])) Y ds tx:=fun{Y ds tx} h hy hz=>
    ⟨mj _ _ h.at_,h.rows.same mj,h.nd,s0.free hy,fun d hd=>⟨(h.nw d hd).1,(h.nw d hd).2 Y hz⟩⟩
   exact k t' R T B rs v bs _ (sm.trans mj) zc (nt u hR (by simp)) (nt wT eE (by simp)) (nt wB kT (by simp))
end
end K21
end
section
namespace L2
open PySem PySem.Spec PyProof.Rows
section
variable{X:Cx}
def IM{aa:Ψ}{σ:St}{H:Hp}{s:Shared}{l:Addr}{ns:List Int}(I:Inv X aa σ H s)(c:SqL X.K H l (ns.map V.int)):∃a,Reads s.heap (.ref l) (.list (ns.map PyData.int)) a:=by
 obtain⟨ad,r,p,_⟩:=I.list c;obtain⟨o,b,hc,n,hd⟩:=p.isList;exact⟨_,.list b hc hd ((PySem.W.ke_carried (intsAre_of r)).reads s.heap)⟩
def wj(ns:List Int):SeqAt.shaped (.list (ns.map PyData.int))=true:=by
 simp[SeqAt.shaped,PyData.canLay0,PySem.W.ke_canLayAll0,PyData.depth,PySem.W.ke_depthAll]
def IN(ns:List Int):(Shape.list .int).has (.list (ns.map PyData.int))=true:=by simp[Shape.has]
def ws(K:Af):R2:=fun x y H Q=>∃l m ns ms,x=.ref l/\y=.ref m/\SqL K H l (List.map V.int ns)/\SqL K H m (List.map V.int ms)/\Q (.bl (decide (ns=ms))) H
def NK(g:X.A.units+64<cLine):cx X (compareOp .Eq) (ws X.K):=by
 intro aa s σ H x y v u Q I a b h;obtain⟨l,m,ns,ms,rfl,rfl,c,d,q⟩:=h;cases a;cases b;obtain⟨a1,e⟩:=IM I c;obtain⟨a2,f⟩:=IM I d;refine eq_dataH_same e f (wj _) (wj _) g (SeqAt.noMix_of_shape (.list .int) rfl _ _ (IN _) (IN _)) ?_;rw[show same (.list (ns.map PyData.int)) (.list (ms.map PyData.int))=decide (ns=ms) from by simp only[same];exact PySem.W.ke_sameAll ns ms];exact⟨.bl _,H,I,rfl,q⟩
end
end L2
end
section
namespace K21
open PySem L2
noncomputable abbrev ww:Stmt:=top 28
noncomputable abbrev wG:Stmt:=top 29
noncomputable abbrev CY:Stmt:=top 26
def IP:A5 "enumerate"=some (.type "enumerate"):=δ
noncomputable def jo{a:Type}(p:Nat->List Int->Bool)(g:Nat->List Int->a)(l:List (List Int×Nat)):List a:=(l.filter fun q=>p q.2 q.1).map fun q=>g q.2 q.1
section
variable{P:Program}{w:World}{K:Af}{mg:Str->Option Value}{base:Heap}
def IQ{H2:Hp}{L D:Addr}{rs:List Addr}{tb:Ξ}{Q:VK}{A:Type}{mkV:A->V}{p:Nat->List Int->Bool}{g:Nat->List Int->A}{tc:TT}{te:TE}{c:List (Option V)}(M:∀(i:Nat)(o:Addr)(os:List Int)(H:Hp)(R:VK)(S:Hp->Prop),Same H2 H->H o=some (.lst (os.map V.int))->os∈tb->(p i os=true->∀H',Same H H'->R (mkV (g i os)) H')->(p i os=false->S H)->tc (some (.int i)::some (.ref o)::c) H fun b u=>if b=true then te (some (.int i)::some (.ref o)::c) u R else S u)(s:SqL K H2 L (rs.map V.ref))(C:Rws H2 rs tb)(hz:tb.length<=1000)(E:H2 D=none)(k:∀f,Same H2 f->f D=some (.lst ((jo p g tb.zipIdx).map mkV))->Q (.ref D) f):cf (Eg K L) (cb K 2 (cq (zL 0) (cq (zL 1) ca))) tc te (none::none::c) H2 D Q:=by
 have z:=C.len;refine nj tb.length (fun j σ ys f=>∃(l q:Option V),σ=l::q::c/\Same H2 f/\f D=some (.lst ys)/\ys=(jo p g (tb.zipIdx.take j)).map mkV) ?_ ?_ ?_ ?_ ?_
 ·exact⟨none,none,rfl,Same.new E,zc,rfl⟩
 ·rintro σ ys f ⟨l,q,rfl,sm,d,rfl⟩
  exact⟨_,sm.seq s,by rw[Aa,z]⟩
 ·rintro i σ ys f hi ⟨l,q,rfl,sm,d,rfl⟩
  exact⟨_,sm.seq s,by rw[Aa,z];exact hi⟩
 ·rintro i σ ys f x H' hi hy ⟨l,q,rfl,sm,d,rfl⟩ ⟨pp,y,rfl,F,rfl,G⟩
  have J:=G _ (sm.seq s);obtain⟨a,I,rfl⟩:=i6 J;obtain⟨r,w,hr⟩:=C.get I;have h:=Same.new (o:=.tup [.int i,.ref a]) F;have e:tb.zipIdx[i]?=some (r,i):=by rw[List.getElem?_zipIdx,w];simp
  refine⟨pp,_,rfl,SqT.of zc,rfl,_,_,rfl,_,_,rfl,rfl,?_⟩;refine M i a r _ _ _ (sm.trans h) ((sm.trans h) _ _ hr) (Ak w) (fun hp u v=>?_) (fun hp=>?_)
  ·refine bI (zA ω) hi hy ((h.trans v) _ _ d) ⟨_,_,rfl,((sm.trans h).trans v).then E,zc,?_⟩
   rw[Bb e];unfold jo;rw[List.filter_append,Ao,Ao];simp[hp]
  ·refine gS hi hy ⟨_,_,rfl,sm.trans h,h _ _ d,?_⟩
   rw[Bb e];unfold jo;rw[List.filter_append];simp[hp]
 ·rintro σ ys f ⟨l,q,rfl,sm,d,rfl⟩
  rw[Aq (by simp)] at d;exact k f sm d
noncomputable def dA(tb:Ξ):Bool:=(jo (fun _ _=>true) (fun k r=>decide (r=bN r k r.length)) tb.zipIdx).all id
def Fx:Sp:=fun vs H Q _=>∃L rs tb,vs=[.ref L]/\H L=some (.lst (rs.map V.ref))/\Rws H rs tb/\tb.length<=1000/\(∀r∈tb,r.length<=1000)/\∀H',Same H H'->Q (.bl (dA tb)) H'
def NL:zn ["table"] ["table"] (zg ww):=⟨rfl,rfl,rfl,δ,rfl,δ,δ⟩
def NM{f fs:Addr}{fd d:FuncData}(F:Fun K "is_on_slope" "is_on_slope" ww f fd)(G:mg "all"=none)(be:mg "enumerate"=none)(bl:mg "len"=none)(Fs:Fun K "slope_row" "slope_row" vg fs d)(bs:Binds K d ["numbers","k","width"] [])(ms:mg "slope_row"=some (.ref fs))(N:ai P w K mg base av 1 fs d ["numbers","k","width"] vp):ai P w K mg base av 2 f fd ["table"] Fx:=by
 refine F.ok NL (fun vs H Q E h=>?_) (fun O A outer s H vs Q E hr h=>?_)
 ·obtain⟨L,rs,tb,rfl,_⟩:=h;rfl
 ·obtain⟨L,rs,tb,rfl,l,y,hz,hw,k⟩:=h
  have z:=hr.units;refine⟨_,zh (zo (zk (iZ rfl) rfl G i5 (za (zu ["table"] ["k","row"] [none,none] (G4 rfl be IP (za (pv 0) zb))
   (fun e C s₀ H₀ ex=>ij rfl (zE (zl (i:=0) (bA ["k","row"]) rfl (Or.inl rfl)) (zE (zl (i:=1) (bA ["k","row"]) rfl (Or.inl rfl)) ii))) (fun e C s₀ H₀ ex=>zy)
   (fun e C s₀ H₀ ex=>fX (NK z) (pv 1) (zf N hr rfl ms Fs.kp bs .nil ac (za (pv 1) (za (pv 0) (za (zk zj rfl bl bR (za (pv 1) zb)) zb)))) (ar _))
   (te:=bL (ws K) (au 1) (e8 vp [] E0 (zX (au 1) (zX (au 0) (zX (iY (Cv K) (zX (au 1) bB)) bB))))) (hfr:=bM δ) (g:=cb K 2 (cq (zL 0) (cq (zL 1) ca)))) zb))),?_⟩
  refine⟨_,rfl,L,rfl,⟨_,SqL.of l⟩,fun D q=>zw (IQ (mkV:=V.bl) (p:=fun _ _=>true) (g:=fun k r=>decide (r=bN r k r.length)) (fun i o os H' R S sm a u v T=>gf ?_) (SqL.of l) y hz q fun I b c=>⟨D,_,rfl,SqL.of c,k I b⟩)⟩;refine⟨_,rfl,_,rfl,_,rfl,_,rfl,o,_,rfl,.inl (SqL.of a),o,os,i,os.length,by rw[Aa];rfl,a,hw os u,fun h=>h,fun J M j U x=>?_⟩;exact⟨o,J,os,_,rfl,rfl,SqL.of (j _ _ a),SqL.of x,v rfl M j⟩
noncomputable def cj(tb:Ξ):List Int:=jo (fun k r=>decide (k<r.length)&&decide (vc r k≠0)) (fun k r=>vc r k) tb.zipIdx
def Fy:Sp:=fun vs H Q _=>∃L rs tb,vs=[.ref L]/\H L=some (.lst (rs.map V.ref))/\Rws H rs tb/\tb.length<=1000/\lh H Q (cj tb)
def NN:zn ["table"] ["table"] (zg wG):=⟨rfl,rfl,rfl,δ,rfl,δ,δ⟩
def NO{f:Addr}{fd:FuncData}(F:Fun K "slope_of" "slope_of" wG f fd)(be:mg "enumerate"=none)(bl:mg "len"=none):ai P w K mg base av 1 f fd ["table"] Fy:=by
 refine F.ok NN (fun vs H Q E h=>?_) (fun G A outer s H vs Q E hr h=>?_)
 ·obtain⟨L,rs,tb,rfl,_⟩:=h;rfl
 ·obtain⟨L,rs,tb,rfl,v,y,hz,k⟩:=h
  refine⟨_,zh (zo (zu ["table"] ["k","row"] [none,none] (G4 rfl be IP (za (pv 0) zb))
   (fun l C s₀ H₀ ex=>ij rfl (zE (zl (i:=0) (bA ["k","row"]) rfl (Or.inl rfl)) (zE (zl (i:=1) (bA ["k","row"]) rfl (Or.inl rfl)) ii)))
   (fun l C s₀ H₀ ex=>D9 (PW.pt (A' (zv qX (pv 0) (zk zj rfl bl bR (za (pv 1) zb)) (ar _)) (zT (zv iU (zp zq (pv 1) (pv 0) (fun _ _=>rfl)) ze (ar _))))))
   (fun l C s₀ H₀ ex=>zp zq (pv 1) (pv 0) (fun _ _=>rfl)) (te:=bL (dJ K) (au 1) (au 0)) (tc:=p' (BV (bL (fO fun i j=>.bl (decide (i<j))) (au 0) (iY (Cv K) (zX (au 1) bB)))) (BV (bL DL (bL (dJ K) (au 1) (au 0)) (tC (.int 0))))) (hfr:=bM δ) (g:=cb K 2 (cq (zL 0) (cq (zL 1) ca))))),?_⟩
  refine⟨_,rfl,L,rfl,⟨_,SqL.of v⟩,fun D q=>zw (IQ (mkV:=V.int) (p:=fun k r=>decide (k<r.length)&&decide (vc r k≠0)) (g:=fun k r=>vc r k) (fun i o os H' R S sm b I x u=>?_) (SqL.of v) y hz q fun z c d=>k D z c q d)⟩;refine⟨_,rfl,_,rfl,o,_,rfl,.inl (SqL.of b),_,_,rfl,rfl,_,rfl,?_⟩;rw[Aa]
  by_cases c1:i<os.length
  ·rw[decide_eq_true (show((i:Nat):Int)<((os.length:Nat):Int) from ω)]
   refine aS ⟨_,rfl,_,rfl,o,_,_,_,rfl,rfl,SqL.of b,zi (cT c1),rfl,_,rfl,?_⟩
   by_cases a:vc os i=0
   ·rw[show(!decide (V.int (vc os i)=V.int 0))=false by rw[a];rfl]
    exact aI (u (by rw[a];simp))
   ·rw[show(!decide (V.int (vc os i)=V.int 0))=true by rw[decide_eq_false (fun e=>a (by injection e))];rfl]
    exact aS ⟨_,rfl,_,rfl,o,_,_,_,rfl,rfl,SqL.of b,zi (cT c1),x (by simp[c1,a]) H' (Same.refl H')⟩
  ·rw[decide_eq_false (show ¬((i:Nat):Int)<((os.length:Nat):Int) from ω)]
   exact aI (aI (u (by simp[c1])))
noncomputable def cU(tb:Ξ):Bool:=dA tb&&cn (cj tb) tb.length
def IR:Sp:=fun vs H Q _=>∃L rs tb,vs=[.ref L]/\H L=some (.lst (rs.map V.ref))/\Rws H rs tb/\tb.length<=1000/\(∀r∈tb,r.length<=1000)/\∀H',Same H H'->Q (.bl (cU tb)) H'
def NP:zn ["table"] ["table"] (zg CY):=⟨rfl,rfl,rfl,δ,rfl,δ,δ⟩
def NQ{tb:Ξ}:(cj tb).length<=tb.length:=by
 unfold cj jo;rw[Aa];exact Ag (List.length_filter_le _ _) (by simp)
def NR{f fo fs fa:Addr}{fd i j l:FuncData}(F:Fun K "is_in_steps" "is_in_steps" CY f fd)(bl:mg "len"=none)(Fo:Fun K "is_on_slope" "is_on_slope" ww fo i)(r:Binds K i ["table"] [])(u:mg "is_on_slope"=some (.ref fo))(z:ai P w K mg base av 2 fo i ["table"] Fx)(Fs:Fun K "slope_of" "slope_of" wG fs j)(bs:Binds K j ["table"] [])(ms:mg "slope_of"=some (.ref fs))(C:ai P w K mg base av 1 fs j ["table"] Fy)(Fa:Fun K "are_steps" "are_steps" vG fa l)(v:Binds K l ["steps","most"] [])(x:mg "are_steps"=some (.ref fa))(G:ai P w K mg base av 1 fa l ["steps","most"] Fq):ai P w K mg base av 3 f fd ["table"] IR:=by
 refine F.ok NP (fun vs H Q E h=>?_) (fun I A outer s H vs Q E hr h=>?_)
 ·obtain⟨L,rs,tb,rfl,_⟩:=h;rfl
 ·obtain⟨L,rs,tb,rfl,d,g,hz,hw,k⟩:=h
  have b:Room 1 _:=hr.mono ξ;refine⟨_,zh (zo (kd (zf z hr rfl u Fo.kp r .nil ac (za (pv 0) zb)) (kc (zf G b rfl x Fa.kp v .nil ac (za (zf C b rfl ms Fs.kp bs .nil ac (za (pv 0) zb)) (za (zk zj rfl bl bR (za (pv 0) zb)) zb)))))),?_⟩;refine⟨_,rfl,L,rs,tb,rfl,d,g,hz,hw,fun H1 a=>⟨_,rfl,?_⟩⟩;have q:=g.len;cases c:dA tb with
  |false=>
   have e:cU tb=false:=by unfold cU;rw[c];rfl
   rw[e] at k;exact aI (k H1 a)
  |true=>
   refine aS ⟨_,rfl,L,rs,tb,rfl,a _ _ d,g.same a,hz,fun D H2 o J e2=>⟨_,rfl,L,_,rfl,.inl (SqL.of ((a.trans o) _ _ d)),D,cj tb,_,rfl,e2,Ag NQ hz,fun y p=>?_⟩⟩;have e:cU tb=cn (cj tb) (tb.length:Int):=by unfold cU;rw[c];rfl
   rw[e] at k;rw[Aa,q];exact k y ((a.trans o).trans p)
end
end K21
end
section
namespace Tb
def Bd.mono{N M X B d i j:Nat}{R:List Vc}(h:Bd N M X B R)(u:M<=d)(v:X<=i)(w:B<=j):Bd N d i j R:=
 ⟨h.ind,fun P f e s r g l=>by
  obtain⟨a,b,c⟩:=h.bd P f e s r g l;exact⟨fun p hp=>Ag (a p hp) w,fun r hr p hp=>Ag (b r hr p hp) u,fun o V hc q x hx=>Ag (c o V hc q x hx) (Al _ (Al _ v))⟩⟩
def Tri.row{k r w M g N X B:Nat}{ρ f:Nat->Vc}{Q:Nat->Nat}{P:List Nat}(T:Tri k r w M g ρ Q){i:Nat}(hi:i<k)(F:FS N M X B ((Ah i).map ρ) P f):∀p∈P,(ρ i p).natAbs<=M:=fun p hp=>by
 have e:=T.places ω F.ech F.srt (fun p hp=>(F.fr p hp).sp) (by rw[F.len];simp);rw[e] at hp;refine T.rows_le (j:=i+1) ω ω ?_;unfold pl at hp ⊢;rcases List.mem_append.mp hp with h|h
 ·exact List.mem_append_left _ (List.mem_range.mpr (by have:=List.mem_range.mp h;(first|lia|omega)))
 ·obtain⟨a,b,rfl⟩:=List.mem_map.mp h
  exact AE _ (List.mem_map.mpr ⟨a,List.mem_range.mpr (by have:=List.mem_range.mp b;(first|lia|omega)),rfl⟩)
noncomputable def xW(N b:Nat):Nat:=1+2*b+(2+2*b)*N
noncomputable def xK(N n m x b:Nat):Nat:=2+(n+(m+(b+1)*N+(n+(b+x))))
noncomputable def xE(N n m x b:Nat):Nat:=1+(n+(n+(xK N n m x b+(2+b+n+xW N b)*N+m)+(b+1)*N+(n+(b+x))))
def pw{a b:Nat}(h:a<=b):2 ^ a<=2 ^ b:=AJ ξ h
def zx{x y a b:Nat}(h1:x<=2 ^ a)(h2:y<=2 ^ b):x*y<=2 ^ (a+b):=by rw[Nat.pow_add];exact AO h1 h2
def NS{b:Nat}:1+2 ^ b<=2 ^ (b+1):=by have:=AR (n:=b);rw[Nat.pow_succ];(first|lia|omega)
def CZ{x y a:Nat}(h1:x<=2 ^ a)(h2:y<=2 ^ a):x+y<=2 ^ (1+a):=by rw[Nat.add_comm 1,Nat.pow_succ];(first|lia|omega)
section
variable{N n m x b:Nat}
def l4(a:N<=2 ^ n):cC N (2 ^ x) (2 ^ b)<=2 ^ (n+(b+x)):=zx a (zx (Ad _) (Ad _))
def jp:(1+2 ^ b) ^ N<=2 ^ ((b+1)*N):=by rw[Nat.pow_mul];exact Nat.pow_le_pow_left NS _
def NU:cW N (2 ^ b)<=2 ^ xW N b:=by
 unfold cW xW;have e:2*2 ^ b*2 ^ b=2 ^ (1+2*b):=by
  have h:2*b=b+b:=ω
  rw[h,Nat.pow_add,Nat.pow_add,Nat.pow_one,AQ]
 rw[e];refine zx (Ad _) ?_;have:=jp (N:=N) (b:=1+2*b)
 rwa [show 1+2*b+1=2+2*b from ω] at this
def NV(h1:1<=N)(c:N<=2 ^ n):cG N (2 ^ b)<=2 ^ (2+b+n+xW N b):=by
 unfold cG;have h2:2*2 ^ b<=2 ^ (1+b):=by rw[Nat.pow_add];exact Ad _
 have a:1+N*cW N (2 ^ b)<=2 ^ (1+(n+xW N b)):=CZ (AR) (zx c NU);have:=zx h2 a
 rwa [show 1+b+(1+(n+xW N b))=2+b+n+xW N b from ω] at this
def NW(a:N<=2 ^ n):cK N (2 ^ m) (2 ^ x) (2 ^ b)<=2 ^ xK N n m x b:=by
 unfold cK xK;have h1:=l4 (x:=x) (b:=b) a;have h2:N*(2 ^ m*(1+2 ^ b) ^ N*cC N (2 ^ x) (2 ^ b))<=2 ^ (n+(m+(b+1)*N+(n+(b+x)))):=zx a (zx (zx (Ad _) jp) h1);have c:1+cC N (2 ^ x) (2 ^ b)<=2 ^ (1+(n+(m+(b+1)*N+(n+(b+x))))):=CZ AR (Ag h1 (pw ω));have:=CZ c (Ag h2 (pw (Nat.le_add_left _ 1)))
 rwa [<-Nat.add_assoc] at this
def NX(h1:1<=N)(a:N<=2 ^ n):cE N (2 ^ m) (2 ^ x) (2 ^ b)<=2 ^ xE N n m x b:=by
 have c:cM N (2 ^ m) (2 ^ x) (2 ^ b)<=2 ^ (xK N n m x b+(2+b+n+xW N b)*N):=by
  unfold cM;refine zx (NW a) ?_;rw[Nat.pow_mul];exact Nat.pow_le_pow_left (NV h1 a) _
 unfold cE xE;refine CZ (Ag c (pw ω)) ?_;exact zx a (zx (zx (zx a (zx c (Ad _))) jp) (l4 a))
def NY{e x' b':Nat}(h1:m<=e)(h2:x<=x')(f:b<=b'):xE N n m x b<=xE N n e x' b':=by
 unfold xE xK xW;have a:(b+1)*N<=(b'+1)*N:=Am _ ω;have c:(2+2*b)*N<=(2+2*b')*N:=Am _ ω;have d:(2+b+n+(1+2*b+(2+2*b)*N))*N<=(2+b'+n+(1+2*b'+(2+2*b')*N))*N:=Am _ ω;(first|lia|omega)
end
section
variable{A T U V T' U' V':Nat->Vc}{k w r D bU bV g:Nat}{Bn Bf:List Vc}{QU QV:Nat->Nat}
def iD{n:Nat}{W W':Nat->Vc}(h:∀i,i<n->W i=W' i):tl n W=tl n W':=A4 fun i hi=>h i (List.mem_range.mp hi)
def Ker.cg{n b:Nat}{W W':Nat->Vc}{Q:Nat->Nat}(hr:r<=n)(K:Ker n r g b W Q)(h:∀i,i<n->W i=W' i):Ker n r g b W' Q:=
 ⟨K.qs,fun a u d e=>by rw[<-h _ ω];exact K.kz a u d e,fun a d=>by rw[<-h _ ω];exact K.kp a d,fun a c h1 h2=>by rw[<-h _ ω,<-h _ ω];exact K.kq a c h1 h2,fun i a hi d=>by rw[<-h i ω,<-h _ ω];exact K.tq i a hi d,fun a d=>by rw[<-h _ ω];exact K.km a d⟩
def LI.cg(I:LI A k w r D bU bV g T U V Bn Bf QU QV)(b:∀u i,u<w->i<k->T u i=T' u i)(c:∀i,i<k->U i=U' i)(d:∀u,u<w->V u=V' u):LI A k w r D bU bV g T' U' V' Bn Bf QU QV:=by
 have rk:=I.rk;have e:=I.rw;refine⟨rk,e,I.g1,fun u i a hi=>?_,?_,?_,I.ku.cg rk c,I.kv.cg e d,fun u a=>?_,fun u i a hi=>?_,fun u i h1 h2=>?_,fun u i a hi h=>?_,fun m f=>?_⟩
 ·rw[<-b u i a hi,<-c i hi,<-d u a];exact I.bl u i a hi
 ·rw[<-iD c];exact I.bu
 ·rw[<-iD d];exact I.bv
 ·rw[<-b u u ω ω];exact I.tp u a
 ·rw[<-b u i ω ω];exact I.tz u i a hi
 ·rw[<-b u i ω ω,<-b i i ω ω];exact I.tr u i h1 h2
 ·rw[<-b u i a hi];exact I.to u i a hi h
 ·rw[<-iv fun i hi=>b i i ω ω];exact I.pd m f
def LI.small(I:LI A k w r D bU bV g T U V Bn Bf QU QV){u i:Nat}(a:u<w)(hi:i<k):(T u i).natAbs<=D:=by
 have rk:=I.rk;have b:=I.rw
 by_cases h:r<=u\/r<=i
 ·rw[I.to u i a hi h];exact Aw _
 ·rcases Nat.lt_trichotomy u i with g|g|g
  ·have:=I.tr u i g ω
   have:=I.diag_le (i:=i) ω;(first|lia|omega)
  ·subst g;exact I.diag_le ω
  ·rw[I.tz u i ω g];exact Aw _
def LM.small{S:Nat->Vc}(I:LM A k w r D bU bV g S U V Bn Bf QU QV){u i:Nat}(a:u<w)(hi:i<k):(S i u).natAbs<=D:=by
 have rk:=I.rk;have b:=I.rw
 by_cases h:r<=u
 ·have:=I.sl.z u i h a hi
  have this:S i u=0:=this;rw[this];exact Aw _
 ·rcases Nat.lt_trichotomy u i with g|g|g
  ·have this:S i u=0:=I.sl.tz u i ω g hi
   rw[this];exact Aw _
  ·subst g;exact I.diag_le ω
  ·have this:(S i u).natAbs<=(S u u).natAbs:=I.sl.tl u i ω g
   exact Ag this (I.diag_le ω)
def Dg.cg(h:Dg r T)(rk:r<=k)(rw:r<=w)(b:∀u i,u<w->i<k->T u i=T' u i):Dg r T':=fun u i a hi ne=>by rw[<-b u i ω ω];exact h u i a hi ne
def IS:∀r,(∀i,i<r->T i i=T' i i)->mu T r=mu T' r
 |0,_=>rfl
 |r+1,h=>by
  show mu T r+_=mu T' r+_;rw[IS r fun i hi=>h i ω,iv fun i hi=>h i hi]
def NZ(h:∀u i,u<r->i<r->T u i=T' u i):ms r T=ms r T':=by
 unfold ms;rw[IS r fun i hi=>h i i hi hi];have:Dg r T↔Dg r T':=⟨fun d u i a hi ne=>by rw[<-h u i a hi];exact d u i a hi ne,fun d u i a hi ne=>by rw[h u i a hi];exact d u i a hi ne⟩
 by_cases c:Dg r T
 ·rw[if_pos c,if_pos (this.mp c)]
 ·rw[if_neg c,if_neg fun z=>c (this.mpr z)]
end
end Tb
end
section
namespace K21
open PySem L2
noncomputable def fn(tb:Ξ):Nat->Tb.Vc:=fun i=>vc (rowAt tb i)
def zG{tb:Ξ}{i:Nat}{r:List Int}(h:tb[i]?=some r):rowAt tb i=r:=by unfold rowAt;rw[Ac,h];rfl
def zH{tb:Ξ}{i:Nat}(h:i<tb.length):rowAt tb i∈tb:=by rw[zG (Ab h)];exact Az _
def wR{tb:Ξ}{i:Nat}(h:tb.length<=i):rowAt tb i=[]:=by unfold rowAt;rw[Ac,List.getElem?_eq_none h];rfl
def C0{tb:Ξ}{r:List Int}(h:r∈tb):∃i,i<tb.length/\rowAt tb i=r:=by
 obtain⟨i,hi,rfl⟩:=A9 h;exact⟨i,hi,zG (Ab hi)⟩
def iE{l:List Int}{u:Nat}(h:u<l.length):vc l u=l[u]:=by unfold vc;rw[Ac,Ab h];rfl
def N3{a b:List Int}{m u:Nat}(h:a.length=m):vc (a++b) u=if u<m then vc a u else vc b (u-m):=by
 unfold vc;rw[Ac,Ac,Ac]
 by_cases c:u<m
 ·rw[if_pos c,List.getElem?_append_left ω]
 ·rw[if_neg c,List.getElem?_append_right ω,h]
def N4{a:List Int}{m u:Nat}:vc (a.take m) u=if u<m then vc a u else 0:=by
 unfold vc;rw[Ac,Ac,List.getElem?_take];split<;>rfl
def N5{a:List Int}{m u:Nat}:vc (a.drop m) u=vc a (m+u):=by
 unfold vc;rw[Ac,Ac,List.getElem?_drop]
def IT{tb:Ξ}{n:Nat}(h:tb.length=n):tb.map vc=Tb.tl n (fn tb):=by
 unfold Tb.tl;apply AT
 ·simp[h]
 ·intro i h1 h2
  rw[AW,AW,A0];show _=vc (rowAt tb i);rw[Aa] at h1;rw[zG (Ab h1)]
section
variable{tb ub:Ξ}{m n:Nat}
def l5(a:tb.length=n)(b:ub.length=n):(cat tb ub).length=n:=by unfold cat;rw[AF,a,b,Nat.min_self]
def IU(a:tb.length=n)(b:ub.length=n){i:Nat}(hi:i<n):rowAt (cat tb ub) i=rowAt tb i++rowAt ub i:=by
 have h1:=Ab (show i<tb.length from ω);have h2:=Ab (show i<ub.length from ω);rw[zG h1,zG h2];refine zG ?_;unfold cat;rw[List.getElem?_zipWith,h1,h2]
def Fz(a:tb.length=n)(b:ub.length=n)(c:∀r∈tb,r.length=m){i:Nat}(hi:i<n):fn (cat tb ub) i=Tb.glue m (fn tb) (fn ub) i:=funext fun u=>by
 unfold fn Tb.glue;rw[IU a b hi,N3 (c _ (zH ω))]
def C1(a:tb.length=n)(b:ub.length=n)(c:∀r∈tb,r.length=m):(cat tb ub).map vc=Tb.tl n (Tb.glue m (fn tb) (fn ub)):=by
 rw[IT (l5 a b)];exact Tb.iD fun i hi=>Fz a b c hi
def N6{ρ:Nat->Tb.Vc}{i:Nat}(h:i<=n):(Tb.tl n ρ).take i=Tb.tl i ρ:=by
 unfold Tb.tl;rw[<-List.map_take,List.take_range,Nat.min_eq_left h]
def IV(a:tb.length=n)(b:ub.length=n)(c:∀r∈tb,r.length=m){i:Nat}(hi:i<=n):((cat tb ub).take i).map vc=Tb.tl i (Tb.glue m (fn tb) (fn ub)):=by
 rw[List.map_take,C1 a b c,N6 hi]
end
def FA{fr:Nat->List Int}{W:Nat}:∀{ps:List Nat}{rn:List Int},rn.length=W->(∀p∈ps,(fr p).length=W)->shrL fr rn ps=Tb.shr (vF fr) ps (vc rn)
 |[],_,_,_=>rfl
 |p::ps,rn,h,h2=>by
  have hp:=h2 p (Ar ..);show _::shrL fr (cO fr rn p) ps=_::Tb.shr (vF fr) ps (Tb.step (vF fr) p (vc rn));rw[FA (ps:=ps) (Ex h hp) fun q hq=>h2 q (Ax _ hq),HG ω]
  rfl
structure Side(N M X B Y m n:Nat)(tb ub bb:Ξ):Prop where
 l1:tb.length=n
 l2:ub.length=n
 l3:bb.length=n
 w1:∀r∈tb,r.length=m
 w2:∀r∈ub,r.length=n
 w3:∀r∈bb,r.length=n
 n40:n<=40
 m40:m<=40
 nN:n<=N
 N1:1<=N
 N64:N<64
 bd:∀j,j<=n->Tb.Bd N M X B (Tb.tl j (Tb.glue m (fn tb) (fn ub)))
 row:∀i,i<n->∀P f,Tb.FS N M X B (Tb.tl i (Tb.glue m (fn tb) (fn ub))) P f->∀p∈P,(Tb.glue m (fn tb) (fn ub) i p).natAbs<=M
 hY:∀i,i<n->∀u,(Tb.glue m (fn tb) (fn ub) i u).natAbs<=Y
 B1:1<=B
 X1:1<=X
 Y1:1<=Y
 piv:B<2 ^ 9000
 lim:N*(Tb.cE N M X B*Y)<big
 bk:∀r∈bb,∀x∈r,x.natAbs<big
section
variable{N M X B Y m n:Nat}{tb ub bb:Ξ}
def Side.lenW(S:Side N M X B Y m n tb ub bb):∀r∈cat tb ub,r.length=m+n:=fun r hr=>by
 obtain⟨i,hi,rfl⟩:=C0 hr;rw[l5 S.l1 S.l2] at hi;rw[IU S.l1 S.l2 hi,AU,S.w1 _ (zH (by rw[S.l1];exact hi)),S.w2 _ (zH (by rw[S.l2];exact hi))]
def Side.mem(S:Side N M X B Y m n tb ub bb):∀r∈cat tb ub,∃i,i<n/\vc r=Tb.glue m (fn tb) (fn ub) i:=fun r hr=>by
 obtain⟨i,hi,rfl⟩:=C0 hr;rw[l5 S.l1 S.l2] at hi;exact⟨i,hi,Fz S.l1 S.l2 S.w1 hi⟩
def Side.cC1(S:Side N M X B Y m n tb ub bb):1<=Tb.cC N X B:=Nat.mul_pos S.N1 (Nat.mul_pos S.B1 S.X1)
def Side.cK_le(S:Side N M X B Y m n tb ub bb):N*(Tb.cK N M X B*Y)<big:=
 AD (Al _ (Am _ (Ag (Tb.E5 S.B1) Tb.oV))) S.lim
def Side.at(S:Side N M X B Y m n tb ub bb){P:List Nat}{f:Nat->Tb.Vc}(F:Tb.FS N M X B ((cat tb ub).map vc) P f):∀r∈cat tb ub,∀p∈P,(vc r p).natAbs<=M:=by
 rw[C1 S.l1 S.l2 S.w1] at F;have h:=((S.bd n (Ad _)).bd P f F.ech F.srt F.gen (fun p hp=>(F.fr p hp).sp) F.len).2.1;intro r hr p hp;refine h (vc r) ?_ p hp;obtain⟨i,hi,e⟩:=S.mem r hr;rw[e];exact List.mem_map.mpr ⟨i,List.mem_range.mpr hi,rfl⟩
def N7{R:List Tb.Vc}{P:List Nat}{f:Nat->Tb.Vc}(F:Tb.FS N M X B R P f):∀p∈P,∀q∈P,(f p q).natAbs<=B:=fun p hp q hq=>by
 rcases Nat.lt_trichotomy p q with h|h|h
 ·have:=F.red p hp q hq h
  have:=F.piv q hq;(first|lia|omega)
 ·subst h;exact F.piv p hp
 ·rw[F.ech.z p hp q h];exact Aw _
def Side.shr_le(S:Side N M X B Y m n tb ub bb){P:List Nat}{fr:Nat->List Int}(F:Tb.FS N M X B ((cat tb ub).map vc) P (vF fr))(b:Wid (m+n) P fr):∀r∈cat tb ub,∀x∈shrL fr r P,x.natAbs<=M*2 ^ n:=by
 intro r hr x hx;rw[FA (S.lenW r hr) fun p hp=>(b.row p hp).2] at hx;have a:P.length=n:=by rw[F.len,Aa,l5 S.l1 S.l2]
 have:=Tb.MU F.ech F.srt F.red (F.gen (vc r) (List.mem_map.mpr ⟨r,hr,rfl⟩)) (V:=M) (fun p hp=>Ag (S.at F r hr p hp) (Nat.le_mul_of_pos_right _ (by have:=F.ech.pos p hp;(first|lia|omega)))) x hx
 rwa [a] at this
def Side.ok(S:Side N M X B Y m n tb ub bb):II N M X B Y m n tb ub bb:=by
 have a:=l5 S.l1 S.l2;have l:∀r∈(cat tb ub).map vc,∀u,(r u).natAbs<=Y:=fun r hr u=>by
  obtain⟨q,hq,rfl⟩:=List.mem_map.mp hr;obtain⟨i,hi,e⟩:=S.mem q hq;rw[e];exact S.hY i hi u
 refine⟨S.l1,S.l2,S.l3,S.w1,S.w3,S.n40,by have:=S.m40;(first|lia|omega),S.w2,⟨by have:=S.m40;have:=S.n40;(first|lia|omega),by rw[a];exact S.nN,S.lenW,fun i hi=>?_,fun i r hr P f F p hp=>?_⟩,fun P fr F b r hr=>?_,fun P fr F b r hr x hx row g y hy=>?_⟩
 ·rw[a] at hi
  rw[IV S.l1 S.l2 S.w1 ω];refine⟨S.B1,S.piv,S.lim,fun r hr u=>?_,S.N64,S.bd (i+1) ω⟩;obtain⟨j,h,rfl⟩:=List.mem_map.mp hr;exact S.hY j (by have:=List.mem_range.mp h;(first|lia|omega)) u
 ·have hi:i<n:=by have:=(List.getElem?_eq_some_iff.mp hr).1;rwa [a] at this
  rw[IV S.l1 S.l2 S.w1 ω] at F;have:=S.row i hi P f F p hp
  rwa [<-Fz S.l1 S.l2 S.w1 hi,fn,zG hr] at this
 ·have d:P.length=n:=by rw[F.len,Aa,a]
  have c:((cat tb ub).map vc).length<=N:=by rw[Aa,a];exact S.nN
  have e1:1+P.length*(M*(1+B) ^ P.length*Tb.cC N X B)<=Tb.cK N M X B:=by
   unfold Tb.cK;have:P.length*(M*(1+B) ^ P.length*Tb.cC N X B)<=N*(M*(1+B) ^ N*Tb.cC N X B):=AO (by rw[d];exact S.nN) (Am _ (Al _ (AJ ω (by rw[d];exact S.nN))));(first|lia|omega)
  refine MK (C:=1) (CF:=Tb.cC N X B) (V:=M) (VF:=B) l c F.fr (N7 F) F.ech.pos (fun p hp=>AD (F.piv p hp) S.piv) b (S.lenW r hr) (Tb.Rep.mem (List.mem_map.mpr ⟨r,hr,rfl⟩)) (fun q hq=>S.at F r hr q hq) (fun p hp=>hp) ?_ ?_
  ·exact AD (Al _ (Am _ e1)) S.cK_le
  ·refine AD (Al _ (Am _ ?_)) S.cK_le
   unfold Tb.cK;(first|lia|omega)
 ·have h1:=S.shr_le F b r hr x hx
  refine g_ ?_ (S.bk row g y hy);rw[Int.natAbs_neg];refine AD h1 (AD ?_ S.cK_le);have a1:2 ^ n<=(1+B) ^ N:=Ag (Nat.pow_le_pow_left (by have:=S.B1;(first|lia|omega)) _) (AJ ω S.nN);have a2:M*2 ^ n<=M*(1+B) ^ N*Tb.cC N X B:=Ag (Al _ a1) (Nat.le_mul_of_pos_right _ S.cC1);have a3:M*2 ^ n<=Tb.cK N M X B:=by
   unfold Tb.cK;have:=Nat.le_mul_of_pos_left (M*(1+B) ^ N*Tb.cC N X B) S.N1;(first|lia|omega)
  exact Ag a3 (Ag (Nat.le_mul_of_pos_right _ S.Y1) (Nat.le_mul_of_pos_left _ S.N1))
end
def IW{w:Nat}:∀{ns:List Int}{tb:Ξ}{l:List Int},l.length=w->(∀r∈tb,r.length=w)->∀u,vc ((ns.zip tb).foldl b4 l) u=vc l u+Tb.cmb ns (tb.map vc) u
 |[],tb,l,_,_,u=>by cases tb<;>(show vc l u=vc l u+0;(first|lia|omega))
 |_::_,[],l,_,_,u=>by show vc l u=vc l u+0;(first|lia|omega)
 |x::ns,r::tb,l,hl,h,u=>by
  have hr:=h r (Ar ..);show vc ((ns.zip tb).foldl b4 (b4 l (x,r))) u=vc l u+(x*vc r u+Tb.cmb ns (tb.map vc) u);rw[IW (IF hl hr) (fun r hr=>h r (Ax _ hr)) u];have:vc (b4 l (x,r)) u=vc l u - -x*vc r u:=by
   unfold b4 dv;rw[CL (by simp) (show l.length=r.length from ω)]
  rw[this,Int.neg_mul];(first|lia|omega)
def IX{w u:Nat}:vc (Av w 0) u=0:=by
 unfold vc;rw[Ac,List.getElem?_replicate];split<;>rfl
def N8{w:Nat}{ns:List Int}{tb:Ξ}(h:∀r∈tb,r.length=w):vc (gl w ns tb)=Tb.cmb ns (tb.map vc):=funext fun u=>by
 unfold gl;rw[IW (List.length_replicate) h u,IX];(first|lia|omega)
def N9{w:Nat}{ns:List Int}{tb:Ξ}(h:∀r∈tb,r.length=w):(gl w ns tb).length=w:=
 E9 List.length_replicate fun z hz=>h z.2 (List.of_mem_zip hz).2
def Ent(tb:Ξ)(K:Nat):Prop:=∀i u,(fn tb i u).natAbs<=K
def Ent.mem{tb:Ξ}{K:Nat}(h:Ent tb K):∀r∈tb,∀x∈r,x.natAbs<=K:=fun r hr x hx=>by
 obtain⟨i,_,rfl⟩:=C0 hr;obtain⟨u,_,rfl⟩:=CM hx;exact h i u
def Ent.mono{tb:Ξ}{K a:Nat}(h:Ent tb K)(hk:K<=a):Ent tb a:=fun i u=>Ag (h i u) hk
def o8{tb:Ξ}{K n:Nat}(a:tb.length=n)(h:∀i,i<n->∀u,(fn tb i u).natAbs<=K):Ent tb K:=fun i u=>by
 by_cases c:i<n
 ·exact h i c u
 ·unfold fn
  rw[wR ω];exact Aw _
def IY{P:List Nat}{g:Nat->List Int}{i:Nat}(h:i<P.length):rowAt (P.map g) i=g (Tb.pp P i):=by
 refine zG ?_;unfold Tb.pp;rw[Aj,Ac,Ab h]
 rfl
def pa{n:Nat}{g:Nat->List Int}{i:Nat}(h:i<n):rowAt ((Ah n).map g) i=g i:=zG (by rw[Aj,AL h];rfl)
def eM{n:Nat}{T:Ξ}{i:Nat}(h:i<n)(u:Nat):fn ((Ah n).map (colAt T)) i u=fn T u i:=by
 unfold fn;rw[pa h]
 by_cases c:u<T.length
 ·rw[zG (Ab c)]
  unfold colAt;show List.getD _ _ _=_;rw[Ac,Aj,Ab c]
  rfl
 ·rw[wR ω]
  show List.getD _ _ _=_;unfold colAt;rw[Ac,Aj,List.getElem?_eq_none ω]
  rfl
def zW{n:Nat}{T:Ξ}:((Ah n).map (colAt T)).length=n:=by simp
def jq{n w:Nat}{T:Ξ}(h:T.length=w):∀r∈(Ah n).map (colAt T),r.length=w:=fun r hr=>by
 obtain⟨j,_,rfl⟩:=List.mem_map.mp hr;unfold colAt;rw[Aa,h]
def l6{n i:Nat}(h:i<n):fn (unT n) i=Tb.un i:=funext fun t=>by
 unfold fn unT slpT;rw[pa h];unfold bN Tb.un Tb.dl vc;rw[List.length_replicate,if_pos h,Ac,List.getElem?_set,Ac,List.getElem?_replicate,if_pos h]
 by_cases c:i=t
 ·rw[if_pos c,if_pos c,List.length_replicate,if_pos h];rfl
 ·rw[if_neg c,if_neg c,List.getElem?_replicate]
  split<;>rfl
def wW{n:Nat}:(unT n).length=n:=by unfold unT slpT;simp
def jw{n:Nat}:∀r∈unT n,r.length=n:=fun r hr=>by
 unfold unT slpT at hr;obtain⟨j,_,rfl⟩:=List.mem_map.mp hr;unfold bN;split<;>simp
section
variable{N M X B Y m n:Nat}{tb ub bb:Ξ}{P:List Nat}{fr:Nat->List Int}
structure Done(N M X B m n:Nat)(tb ub bb:Ξ)(P:List Nat)(fr:Nat->List Int)(lH cA jO:Ξ):Prop where
 fs:Tb.FS N M X B (Tb.tl n (Tb.glue m (fn tb) (fn ub))) P (vF fr)
 lP:P.length=n
 l1:lH.length=n
 l2:cA.length=n
 l3:jO.length=n
 w1:∀r∈lH,r.length=m
 w2:∀r∈cA,r.length=n
 w3:∀r∈jO,r.length=n
 f1:∀i u,i<n->u<m->fn lH i u=vF fr (Tb.pp P i) u
 f2:∀i,i<n->fn cA i=fun t=>vF fr (Tb.pp P i) (m+t)
 f3:Tb.tl n (fn jO)=Tb.lI n ((Tb.tl n (Tb.glue m (fn tb) (fn ub))).map fun r=>Tb.shr (vF fr) P r) (Tb.tl n (fn bb))
 e2:∀{a:Nat},Ent ub a->Ent cA (N*(Tb.cC N X B*a))
 e3:∀{b:Nat},Ent bb b->Ent jO (N*(M*2 ^ N*b))
def Side.done(S:Side N M X B Y m n tb ub bb)(F:Tb.FS N M X B ((cat tb ub).map vc) P (vF fr))(f:Wid (m+n) P fr):Done N M X B m n tb ub bb P fr (P.map fun p=>(fr p).take m) (P.map fun p=>(fr p).drop m) (iz n ((cat tb ub).map fun r=>shrL fr r P) bb):=by
 have z:=S.shr_le F f;have g:=F;rw[C1 S.l1 S.l2 S.w1] at g;have d:P.length=n:=by rw[F.len,Aa,l5 S.l1 S.l2]
 have f2:∀i,i<n->fn (P.map fun p=>(fr p).drop m) i=fun t=>vF fr (Tb.pp P i) (m+t):=fun i hi=>funext fun t=>by
  unfold fn;rw[IY ω,N5]
  rfl
 have h:(iz n ((cat tb ub).map fun r=>shrL fr r P) bb).length=n:=by unfold iz;simp
 have l:∀j,j<n->fn (iz n ((cat tb ub).map fun r=>shrL fr r P) bb) j=Tb.cmb (colAt ((cat tb ub).map fun r=>shrL fr r P) j) (bb.map vc):=fun j c=>by
  unfold fn iz;rw[pa c,N8 S.w3]
 refine⟨g,d,by rw[Aa,d],by rw[Aa,d],h,fun r hr=>?_,fun r hr=>?_,fun r hr=>?_,fun i u hi o=>?_,f2,?_,fun{a} q=>?_,fun{b} hb=>?_⟩
 ·obtain⟨p,hp,rfl⟩:=List.mem_map.mp hr
  rw[List.length_take,(f.row p hp).2];(first|lia|omega)
 ·obtain⟨p,hp,rfl⟩:=List.mem_map.mp hr
  rw[List.length_drop,(f.row p hp).2];(first|lia|omega)
 ·unfold iz at hr
  obtain⟨j,_,rfl⟩:=List.mem_map.mp hr;exact N9 S.w3
 ·unfold fn
  rw[IY ω,N4,if_pos o]
  rfl
 ·have e:Tb.tl n (fn (iz n ((cat tb ub).map fun r=>shrL fr r P) bb))=(Ah n).map fun j=>Tb.cmb (colAt ((cat tb ub).map fun r=>shrL fr r P) j) (bb.map vc):=A4 fun j c=>l j (List.mem_range.mp c)
  rw[e];unfold Tb.lI;refine A4 fun j _=>funext fun s=>?_;rw[IT S.l3];have e2:(Tb.tl n (Tb.glue m (fn tb) (fn ub))).map (fun r=>Tb.shr (vF fr) P r)=(cat tb ub).map fun r=>shrL fr r P:=by
   rw[<-C1 S.l1 S.l2 S.w1,AS];exact A4 fun r hr=>(FA (S.lenW r hr) fun p hp=>(f.row p hp).2).symm
  rw[e2]
  rfl
 ·refine o8 (n:=n) (by rw[Aa,d]) fun i hi u=>?_
  rw[f2 i hi];exact Tb.MV g (fun i t hi=>q i t) _ (Tb.oR d hi) u
 ·refine o8 h fun j c u=>?_
  rw[l j c];have A:(colAt ((cat tb ub).map fun r=>shrL fr r P) j).length=(bb.map vc).length:=by unfold colAt;rw[Aa,Aa,Aa,l5 S.l1 S.l2,S.l3]
  have C:Tb.Rep (bb.map vc) (M*2 ^ n) (Tb.cmb (colAt ((cat tb ub).map fun r=>shrL fr r P) j) (bb.map vc)):=by
   refine⟨_,A,fun u=>rfl,fun x hx=>?_⟩;unfold colAt at hx;rw[AS] at hx;obtain⟨r,hr,rfl⟩:=List.mem_map.mp hx;show((shrL fr r P).getD j 0).natAbs<=_;rw[Ac];cases e:(shrL fr r P)[j]? with
   |none=>exact Aw _
   |some y=>exact z r hr y (Ak e)
  have:=C.le (u:=u) (M:=b) fun v w=>by
   obtain⟨r,hr,rfl⟩:=List.mem_map.mp w;obtain⟨i,_,rfl⟩:=C0 hr;exact hb i u
  refine Ag this (AO (by rw[Aa,S.l3];exact S.nN) (Am _ (Al _ (Tb.pw S.nN))))
end
end K21
end
section
namespace Tb
def Ker.mono{n r g g' b:Nat}{W:Nat->Vc}{Q:Nat->Nat}(K:Ker n r g b W Q)(h:g<=g'):Ker n r g' b W Q:=⟨K.qs,K.kz,K.kp,K.kq,fun i a hi c=>Ag (K.tq i a hi c) (Am _ h),K.km⟩
def LM.mono{A S U V:Nat->Vc}{k w r D bU bV g g':Nat}{Bn Bf:List Vc}{QU QV:Nat->Nat}(I:LM A k w r D bU bV g S U V Bn Bf QU QV)(h:g<=g'):LM A k w r D bU bV g' S U V Bn Bf QU QV:=⟨I.rk,I.rw,Ag I.g1 h,I.bl,I.bu,I.bv,I.ku.mono h,I.kv,I.sl,I.pd⟩
end Tb
namespace K21
open PySem L2
noncomputable def x1(N n m:Nat):Nat:=(1+n+m)*N
noncomputable def dd(N n m:Nat):Nat:=(2+n+m)*N
noncomputable def be(N n m:Nat):Nat:=n+m+dd N n m
noncomputable def m2(N n m:Nat):Nat:=2*n+be N n m+x1 N n m+m
noncomputable def x2(N n m:Nat):Nat:=(1+n+m2 N n m)*N
noncomputable def ga(N n m:Nat):Nat:=n+x2 N n m+m2 N n m
noncomputable def Tm(N n m:Nat):Nat:=2*(N*dd N n m)+1
noncomputable def kp(N n m:Nat):Nat:=ga N n m+(n+1)*N+2*n+1
noncomputable def k0(N n m:Nat):Nat:=2*n+ga N n m+x2 N n m+m2 N n m+N+m
structure Good(N n m:Nat):Prop where
 N1:1<=N
 N40:N<=40
 Nn:N<=2 ^ n
 piv:ga N n m<9000
 m9:m<=900
 lim:n+Tb.xE N n (n*Tm N n m+ga N n m) ((n*Tm N n m+1)*N+x2 N n m) (ga N n m)+(k0 N n m+kp N n m*(Tm N n m+1))<67107864
def IZ{a b:Nat}(h:a<=2 ^ b)(hb:b<67108864):a<big:=by
 unfold big;exact AD h (Nat.pow_lt_pow_right ξ (by rw[oA];exact hb))
noncomputable def low:Nat:=2 ^ (bt-1000)
def I0{a b:Nat}(h:a<=2 ^ b)(hb:b<67107864):a<low:=by
 unfold low;exact AD h (Nat.pow_lt_pow_right ξ (by rw[oA];exact hb))
def I_{a:Nat}(h:a<low):a<big:=by
 unfold low at h;unfold big;exact AC h (AJ ξ (Nat.sub_le _ _))
section
variable{N n m:Nat}
def iI(G:Good N n m):be N n m<=m2 N n m/\m2 N n m<=x2 N n m/\x2 N n m<=ga N n m/\dd N n m<=be N n m/\be N n m<=ga N n m/\x1 N n m<=m2 N n m:=by
 have h:m2 N n m<=x2 N n m:=by
  unfold x2;have:(1+n+m2 N n m)*1<=(1+n+m2 N n m)*N:=Al _ G.N1;(first|lia|omega)
 unfold m2 at h ⊢;unfold ga be m2 at *;(first|lia|omega)
noncomputable def Good.cE(G:Good N n m){M X B Y mu x y t:Nat}(c:∃b,B=2 ^ b/\b<=ga N n m)(d:M=2 ^ mu)(e:X=2 ^ x)(f:Y=2 ^ y)(g:t<=Tm N n m+1)(h1:mu<=n*Tm N n m+ga N n m)(h2:x<=(n*Tm N n m+1)*N+x2 N n m)(h:y<=k0 N n m+kp N n m*t):N*(Tb.cE N M X B*Y)<big:=by
 obtain⟨b,rfl,hb⟩:=c;subst d e f;have i:y<=k0 N n m+kp N n m*(Tm N n m+1):=Ag h (Nat.add_le_add_left (Al _ g) _);have j:=Tb.NY (N:=N) (n:=n) h1 h2 hb;have a:=G.lim;have a:n+Tb.xE N n (n*Tm N n m+ga N n m) ((n*Tm N n m+1)*N+x2 N n m) (ga N n m)+(k0 N n m+kp N n m*(Tm N n m+1))<67107864:=a;refine IZ (Tb.zx G.Nn (Tb.zx (Tb.NX G.N1 G.Nn) (Ad _))) ?_;(first|lia|omega)
def Good.entL(G:Good N n m){tb:Ξ}{y t:Nat}(h:Ent tb (2 ^ y))(a:t<=Tm N n m+1)(b:y<=k0 N n m+kp N n m*t):∀r∈tb,∀x∈r,x.natAbs<low:=fun r hr x hx=>by
 have c:y<=k0 N n m+kp N n m*(Tm N n m+1):=Ag b (Nat.add_le_add_left (Al _ a) _);have d:n+Tb.xE N n (n*Tm N n m+ga N n m) ((n*Tm N n m+1)*N+x2 N n m) (ga N n m)+(k0 N n m+kp N n m*(Tm N n m+1))<67107864:=G.lim;exact I0 (h.mem r hr x hx) ω
def Good.ent(G:Good N n m){tb:Ξ}{y t:Nat}(h:Ent tb (2 ^ y))(a:t<=Tm N n m+1)(b:y<=k0 N n m+kp N n m*t):∀r∈tb,∀x∈r,x.natAbs<big:=fun r hr x hx=>I_ (G.entL h a b r hr x hx)
structure LS(N n m t e:Nat)(A:Nat->Tb.Vc)(k w r:Nat)(T U Bn V Bf:Ξ)(QU QV:Nat->Nat):Prop where
 kN:k<=N
 wN:w<=N
 lT:T.length=w
 lU:U.length=k
 lB:Bn.length=k
 lV:V.length=w
 lC:Bf.length=w
 wT:∀r∈T,r.length=k
 wU:∀r∈U,r.length=k
 wB:∀r∈Bn,r.length=k
 wV:∀r∈V,r.length=w
 wC:∀r∈Bf,r.length=w
 li:Tb.LI A k w r (2 ^ dd N n m) (2 ^ be N n m) (2 ^ ga N n m) (2 ^ e) (fn T) (fn U) (fn V) (Tb.tl k (fn Bn)) (Tb.tl w (fn Bf)) QU QV
 te:e<=n*t
 tm:t+Tb.ms r (fn T)<=Tm N n m
 eu:∃u,Ent U (2 ^ u)/\u+N*e<=k0 N n m+kp N n m*t
 eb:∃b,Ent Bn (2 ^ b)/\b+e<=k0 N n m+kp N n m*t
 ev:Ent V (2 ^ (k0 N n m+kp N n m*t))
 ec:Ent Bf (2 ^ (k0 N n m+kp N n m*t))
structure LH(N n m t e:Nat)(A:Nat->Tb.Vc)(k w r:Nat)(T S U Bn V Bf:Ξ)(S0 U0:Nat->Tb.Vc)(QU QV:Nat->Nat):Prop where
 kN:k<=N
 wN:w<=N
 lS:S.length=k
 lU:U.length=k
 lB:Bn.length=k
 lV:V.length=w
 lC:Bf.length=w
 wS:∀r∈S,r.length=w
 wU:∀r∈U,r.length=k
 wB:∀r∈Bn,r.length=k
 wV:∀r∈V,r.length=w
 wC:∀r∈Bf,r.length=w
 lm:Tb.LM A k w r (2 ^ dd N n m) (2 ^ be N n m) (2 ^ ga N n m) (2 ^ e) S0 U0 (fn V) (Tb.tl k (fn Bn)) (Tb.tl w (fn Bf)) QU QV
 hS:∀i u,i<k->u<w->fn S i u=S0 i u
 hU:∀i,i<k->U0 i=fn U i
 ms:∀{M2 X2 B2:Nat}{P2:List Nat}{f2:Nat->Tb.Vc},Tb.Tri w r k M2 1 (Tb.glue k (fun u i=>S0 i u) (fn V)) (fun a=>k+QV a)->Tb.FS N M2 X2 B2 (Tb.tl w (Tb.glue k (fun u i=>S0 i u) (fn V))) P2 f2->Tb.ms r (fun u=>f2 (Tb.pls r k QV u))<Tb.ms r (fn T)
 te:e<=n*(t+1)
 tm:t+Tb.ms r (fn T)<=Tm N n m
 eu:∃u,Ent U (2 ^ u)/\u+N*e<=k0 N n m+kp N n m*(t+1)
 eb:∃b,Ent Bn (2 ^ b)/\b+e<=k0 N n m+kp N n m*(t+1)
 ev:Ent V (2 ^ (k0 N n m+kp N n m*t))
 ec:Ent Bf (2 ^ (k0 N n m+kp N n m*t))
def C2{q:Nat}{S a W W':Nat->Tb.Vc}{i:Nat}(h1:∀u,u<q->S i u=a i u)(h2:W i=W' i):Tb.glue q S W i=Tb.glue q a W' i:=funext fun u=>by
 unfold Tb.glue
 by_cases c:u<q
 ·rw[if_pos c,if_pos c,h1 u c]
 ·rw[if_neg c,if_neg c,h2]
def C3{q:Nat}{S W:Nat->Tb.Vc}{i K:Nat}(h1:∀u,u<q->(S i u).natAbs<=K)(h2:∀t,(W i t).natAbs<=K)(u:Nat):(Tb.glue q S W i u).natAbs<=K:=by
 unfold Tb.glue
 by_cases c:u<q
 ·rw[if_pos c];exact h1 u c
 ·rw[if_neg c];exact h2 _
variable{t e k w r:Nat}{A:Nat->Tb.Vc}{T S U Bn V Bf:Ξ}{QU QV:Nat->Nat}{S0 U0:Nat->Tb.Vc}
def LH.rho(L:LH N n m t e A k w r T S U Bn V Bf S0 U0 QU QV){i:Nat}(hi:i<w):Tb.glue k (fn ((Ah w).map (colAt S))) (fn V) i=Tb.glue k (fun u i=>S0 i u) (fn V) i:=
 C2 (fun u a=>by rw[eM hi];exact L.hS u i a hi) rfl
noncomputable def LH.tl(L:LH N n m t e A k w r T S U Bn V Bf S0 U0 QU QV){j:Nat}(a:j<=w):Tb.tl j (Tb.glue k (fn ((Ah w).map (colAt S))) (fn V))=Tb.tl j (Tb.glue k (fun u i=>S0 i u) (fn V)):=Tb.iD fun i hi=>L.rho ω
def LH.tri(G:Good N n m)(L:LH N n m t e A k w r T S U Bn V Bf S0 U0 QU QV):Tb.Tri w r k (2 ^ ga N n m) 1 (Tb.glue k (fun u i=>S0 i u) (fn V)) (fun a=>k+QV a):=by
 have h:=iI G;exact L.lm.far_tri (Ad _) (Tb.pw ω)
def LH.side(G:Good N n m)(L:LH N n m t e A k w r T S U Bn V Bf S0 U0 QU QV):Side N (2 ^ ga N n m) (2 ^ N) (2 ^ ga N n m) (2 ^ (k0 N n m+kp N n m*t)) k w ((Ah w).map (colAt S)) V Bf:=by
 have h:=iI G;have T2:=L.tri G;have g:=G.N40;have l:=L.tm;have o:=L.wN;refine⟨zW,L.lV,L.lC,jq L.lS,L.wV,L.wC,ω,by have:=L.kN;(first|lia|omega),L.wN,G.N1,ω,fun j b=>?_,fun i hi P f F p hp=>?_,fun i hi u=>?_,AR,AR,AR,Nat.pow_lt_pow_right ξ G.piv,?_,?_⟩
 ·rw[L.tl b]
  refine(Tb.Ih T2 (B:=2 ^ ga N n m) (N:=N) (fun a c=>?_) (fun q hq=>?_) L.wN b).mono (Ad _) (by show(1+1) ^ N<=2 ^ N;exact Ad _) (Ad _)
  ·have:=T2.km a c;(first|lia|omega)
  ·rw[Tb.iv (g':=S0) fun i hi=>by rw[Tb.zS (by have:=L.lm.rk;(first|lia|omega))]]
   exact Ag (L.lm.pd q hq) (Tb.pw ω)
 ·rw[L.tl ω] at F
  rw[L.rho hi];exact T2.row hi F p hp
 ·rw[L.rho hi]
  refine C3 (fun u d=>Ag (L.lm.small (u:=i) (i:=u) hi d) (Tb.pw ?_)) (fun s=>L.ev i s) u;unfold k0;(first|lia|omega)
 ·exact G.cE ⟨_,rfl,Ad _⟩ rfl rfl rfl (t:=t) ω ω (by have:1*N<=(n*Tm N n m+1)*N:=Am _ ω;(first|lia|omega)) (Ad _)
 ·exact G.ent (t:=t) L.ec ω (Ad _)
def jx:k0 N n m+kp N n m*(t+1)=k0 N n m+kp N n m*t+kp N n m:=by rw[Nat.mul_add,Nat.mul_one];(first|lia|omega)
def LH.next(G:Good N n m)(L:LH N n m t e A k w r T S U Bn V Bf S0 U0 QU QV){P:List Nat}{fr:Nat->List Int}{T' V' h:Ξ}(D:Done N (2 ^ ga N n m) (2 ^ N) (2 ^ ga N n m) k w ((Ah w).map (colAt S)) V Bf P fr T' V' h):LS N n m (t+1) e A k w r T' U Bn V' h QU QV:=by
 have j:=L.tri G;have F:=D.fs;rw[L.tl (Ad _)] at F;obtain⟨l,J,_,_⟩:=L.lm.far_done j F;have p:=L.ms j F;have d:∀i,i<w->Tb.pp P i=Tb.pls r k QV i:=fun i hi=>by
  unfold Tb.pp;rw[l,Ac,Aj,AL hi];rfl
 have f:∀u i,u<w->i<k->vF fr (Tb.pls r k QV u) i=fn T' u i:=fun u i c hi=>by rw[D.f1 u i c hi,d u c]
 have rk:=J.rk;have q:=J.rw;have g:=D.f3;rw[L.tl (Ad _)] at g;have o:∀a b:Nat,2*n+ga N n m+N<=kp N n m:=fun _ _=>by unfold kp;rw[Nat.add_mul];(first|lia|omega)
 have h1:=o 0 0;refine⟨L.kN,L.wN,D.l1,L.lU,L.lB,D.l2,D.l3,D.w1,L.wU,L.wB,D.w2,D.w3,?_,L.te,?_,L.eu,L.eb,?_,?_⟩
 ·rw[<-g] at J
  exact J.cg f L.hU fun u c=>by rw[D.f2 u c,d u c]
 ·rw[<-Tb.NZ (T:=fun u=>vF fr (Tb.pls r k QV u)) fun u i c hi=>f u i ω ω]
  have:=L.tm;(first|lia|omega)
 ·refine(D.e2 L.ev).mono ?_
  rw[jx];refine Ag (Tb.zx G.Nn (Tb.zx (Tb.l4 G.Nn) (Ad _))) (Tb.pw ?_);(first|lia|omega)
 ·refine(D.e3 L.ec).mono ?_
  rw[jx];refine Ag (Tb.zx G.Nn (Tb.zx (Tb.zx (Ad _) (Ad _)) (Ad _))) (Tb.pw ?_);(first|lia|omega)
end
end K21
end
section
namespace Tb
def Ja{U:Nat->Vc}{r u:Nat}:∀(n i:Nat),ss U r n i u=ss (fun i _=>U i u) r n i 0
 |0,_=>rfl
 |n+1,i=>by show U i u+ss U r n (i+1) u=U i u+_;rw[Ja n (i+1)]
def Jb{C:Nat->Vc}{r:Nat}:∀(n:Nat),n+1<=r->∀i,gA C r n i=if r-n<=i/\i<r then(fun s=>C i s-C (i-1) s) else C i
 |0,h,i=>by show C i=_;rw[if_neg ω]
 |n+1,h,i=>by
  have a:=Jb (C:=C) (r:=r) n ω;show put (gA C r n) (r-1-n) (fun s=>gA C r n (r-1-n) s-gA C r n (r-2-n) s) i=_
  by_cases e:i=r-1-n
  ·rw[e,zO,if_pos ω,a (r-1-n),a (r-2-n),if_neg ω,if_neg ω,show r-1-n-1=r-2-n from ω]
  ·rw[dD e,a i]
   by_cases h2:r-n<=i/\i<r
   ·rw[if_pos h2,if_pos ω]
   ·rw[if_neg h2,if_neg ω]
end Tb
namespace K21
open PySem L2
def Jc{tb:Ξ}{j i:Nat}{x:List Int}(h:j<tb.length):rowAt (tb.set j x) i=if i=j then x else rowAt tb i:=by
 unfold rowAt;rw[Ac,Ac,List.getElem?_set]
 by_cases c:i=j
 ·rw[if_pos c.symm,if_pos c,if_pos h];rfl
 ·rw[if_neg (Ne.symm c),if_neg c]
def Jd{a b:List Int}{q:Int}(h:a.length=b.length):vc (dv a q b)=fun u=>vc a u-q*vc b u:=by unfold dv;rw[CL (by simp) h]
def Je{a b:List Int}{q:Int}(h:a.length=b.length):(dv a q b).length=a.length:=by unfold dv;rw[AF];(first|lia|omega)
section
variable{tb:Ξ}{r W:Nat}
def pe(hr:r<=tb.length)(hw:∀x∈tb,x.length=W):∀n,n+1<=r->∀x∈slT tb r n,x.length=W
 |0,_,x,hx=>hw x hx
 |n+1,h,x,hx=>by
  have a:=pe hr hw n ω;have b:=lN (tb:=tb) (r:=r) n;rcases List.mem_or_eq_of_mem_set hx with hx|rfl
  ·exact a x hx
  ·rw[Je (by rw[a _ (zH ω),a _ (zH ω)])]
   exact a _ (zH ω)
def C4(hr:r<=tb.length)(hw:∀x∈tb,x.length=W):∀n,n+1<=r->∀x∈slB tb r n,x.length=W
 |0,_,x,hx=>hw x hx
 |n+1,h,x,hx=>by
  have a:=C4 hr hw n ω;have b:=wc (tb:=tb) (r:=r) n;rcases List.mem_or_eq_of_mem_set hx with hx|rfl
  ·exact a x hx
  ·rw[Je (by rw[a _ (zH ω),a _ (zH ω)])]
   exact a _ (zH ω)
def C5(hr:r<=tb.length)(hw:∀x∈tb,x.length=W):∀n,n+1<=r->fn (slT tb r n)=Tb.b0 (fn tb) r n
 |0,_=>rfl
 |n+1,h=>by
  have b:=C5 hr hw n ω;have a:=pe hr hw n ω;have d:=lN (tb:=tb) (r:=r) n
  funext i
  show vc (rowAt ((slT tb r n).set (r-2-n) _) i)=Tb.put (Tb.b0 (fn tb) r n) (r-2-n) _ i;rw[Jc ω,<-b];unfold Tb.put
  by_cases c:i=r-2-n
  ·rw[if_pos c,if_pos c,Jd (by rw[a _ (zH ω),a _ (zH ω)])]
   funext u
   show vc _ u - -1*vc _ u=vc _ u+vc _ u;(first|lia|omega)
  ·rw[if_neg c,if_neg c];rfl
def FB(hr:r<=tb.length)(hw:∀x∈tb,x.length=W):∀n,n+1<=r->fn (slB tb r n)=Tb.gA (fn tb) r n
 |0,_=>rfl
 |n+1,h=>by
  have b:=FB hr hw n ω;have a:=C4 hr hw n ω;have d:=wc (tb:=tb) (r:=r) n
  funext i
  show vc (rowAt ((slB tb r n).set (r-1-n) _) i)=Tb.put (Tb.gA (fn tb) r n) (r-1-n) _ i;rw[Jc ω,<-b];unfold Tb.put
  by_cases c:i=r-1-n
  ·rw[if_pos c,if_pos c,Jd (by rw[a _ (zH ω),a _ (zH ω)])]
   funext u
   show vc _ u-1*vc _ u=vc _ u-vc _ u;(first|lia|omega)
  ·rw[if_neg c,if_neg c];rfl
def FC(hr:r<=tb.length)(hw:∀x∈tb,x.length=W){K n:Nat}(h:n+1<=r)(a:Ent tb K):Ent (slT tb r n) (r*K):=fun i u=>by
 rw[C5 hr hw n h,Tb.ES n h];split
 ·exact Ag (Tb.ET (K:=K) (r-i) i fun j _ _=>a j u) (Am _ ω)
 ·exact Ag (a i u) (Nat.le_mul_of_pos_left _ ω)
def Jf(hr:r<=tb.length)(hw:∀x∈tb,x.length=W){K n:Nat}(h:n+1<=r)(a:Ent tb K):Ent (slB tb r n) (2*K):=fun i u=>by
 rw[FB hr hw n h,Tb.Jb n h];split
 ·have h1:=a i u
  have h2:=a (i-1) u;show(fn tb i u-fn tb (i-1) u).natAbs<=_;(first|lia|omega)
 ·have:=a i u;(first|lia|omega)
end
section
variable{N n m t e k w r:Nat}{A:Nat->Tb.Vc}{T U Bn V Bf:Ξ}{QU QV:Nat->Nat}
def LS.rho(L:LS N n m t e A k w r T U Bn V Bf QU QV){i:Nat}(hi:i<k):Tb.glue w (fn ((Ah k).map (colAt T))) (fn U) i=Tb.glue w (fun i u=>fn T u i) (fn U) i:=C2 (fun u a=>eM hi u) rfl
noncomputable def LS.tl(L:LS N n m t e A k w r T U Bn V Bf QU QV){j:Nat}(a:j<=k):Tb.tl j (Tb.glue w (fn ((Ah k).map (colAt T))) (fn U))=Tb.tl j (Tb.glue w (fun i u=>fn T u i) (fn U)):=Tb.iD fun i hi=>L.rho ω
def LS.tri(G:Good N n m)(L:LS N n m t e A k w r T U Bn V Bf QU QV):Tb.Tri k r w (2 ^ (e+be N n m)) (2 ^ e) (Tb.glue w (fun i u=>fn T u i) (fn U)) (fun a=>w+QU a):=by
 have h:=iI G;exact L.li.near_tri (by rw[Nat.pow_add];exact Ad _) (Tb.pw ω)
def LS.tT(L:LS N n m t e A k w r T U Bn V Bf QU QV):t<=Tm N n m:=by have:=L.tm;(first|lia|omega)
def LS.eT(L:LS N n m t e A k w r T U Bn V Bf QU QV):e<=n*Tm N n m:=Ag L.te (Al _ L.tT)
def LS.side(G:Good N n m)(L:LS N n m t e A k w r T U Bn V Bf QU QV):Side N (2 ^ (e+be N n m)) (2 ^ ((e+1)*N)) (2 ^ be N n m) (2 ^ (k0 N n m+kp N n m*t)) w k ((Ah k).map (colAt T)) U Bn:=by
 have h:=iI G;have T1:=L.tri G;have o:=G.N40;have tT:=L.tT;have eT:=L.eT;obtain⟨v,g,x⟩:=L.eu;obtain⟨y,l,z⟩:=L.eb;refine⟨zW,L.lU,L.lB,jq L.lT,L.wU,L.wB,by have:=L.kN;(first|lia|omega),by have:=L.wN;(first|lia|omega),L.kN,G.N1,ω,fun j b=>?_,fun i hi P f F p hp=>?_,fun i hi u=>?_,AR,AR,AR,Nat.pow_lt_pow_right ξ (by have:=G.piv;(first|lia|omega)),?_,?_⟩
 ·rw[L.tl b]
  refine(Tb.Ih T1 (B:=2 ^ be N n m) (N:=N) (fun a c=>?_) (fun q hq=>?_) L.kN b).mono (Ad _) Tb.jp (Ad _)
  ·show(Tb.glue w (fun i u=>fn T u i) (fn U) (r+a) (w+QU a)).natAbs<=_
   rw[Tb.e_];exact L.li.ku.km a c
  ·rw[Tb.ER L.li hq]
   exact Ag (L.li.pd q hq) (Tb.pw ω)
 ·rw[L.tl ω] at F
  rw[L.rho hi];exact T1.row hi F p hp
 ·rw[L.rho hi]
  refine C3 (fun u d=>Ag (L.li.small (u:=u) (i:=i) d hi) (Tb.pw ?_)) (fun s=>Ag (g i s) (Tb.pw ω)) u;unfold k0;(first|lia|omega)
 ·refine G.cE ⟨_,rfl,ω⟩ rfl rfl rfl (t:=t) ω ω ?_ (Ad _)
  have:(e+1)*N<=(n*Tm N n m+1)*N:=Am _ ω;(first|lia|omega)
 ·exact G.ent (t:=t) l ω ω
def LS.near(G:Good N n m)(L:LS N n m t e A k w r T U Bn V Bf QU QV)(hd:¬Tb.Dg r (fn T)){P:List Nat}{fr:Nat->List Int}{f U' c:Ξ}(D:Done N (2 ^ (e+be N n m)) (2 ^ ((e+1)*N)) (2 ^ be N n m) w k ((Ah k).map (colAt T)) U Bn P fr f U' c):LH N n m t 0 A k w r T f U' c V Bf (fun i=>vF fr (Tb.pls r w QU i)) (fun i s=>vF fr (Tb.pls r w QU i) (w+s)) QU QV:=by
 have d:=L.tri G;have F:=D.fs;rw[L.tl (Ad _)] at F;obtain⟨l,J,_,_⟩:=L.li.near_done d F;have a:∀i,i<k->Tb.pp P i=Tb.pls r w QU i:=fun i hi=>by
  unfold Tb.pp;rw[l,Ac,Aj,AL hi];rfl
 have b:=D.f3;rw[L.tl (Ad _)] at b;rw[<-b] at J;have h:=iI G;have hk:2*n+be N n m+N<=kp N n m:=by unfold kp;rw[Nat.add_mul];(first|lia|omega)
 obtain⟨v,o,x⟩:=L.eu;obtain⟨y,p,z⟩:=L.eb;refine⟨L.kN,L.wN,D.l1,D.l2,D.l3,L.lV,L.lC,D.w1,D.w2,D.w3,L.wV,L.wC,J,fun i u hi g=>by rw[D.f1 i u hi g,a i hi],fun i hi=>by rw[D.f2 i hi,a i hi],fun j q=>Tb.M7 L.li hd d F j q,Aw _,L.tm,⟨_,(D.e2 o).mono (Tb.zx G.Nn (Tb.zx (Tb.l4 G.Nn) (Ad _))),?_⟩,⟨_,(D.e3 p).mono (Tb.zx G.Nn (Tb.zx (Tb.zx (Ad _) (Ad _)) (Ad _))),?_⟩,L.ev,L.ec⟩
 ·rw[jx,Nat.add_mul,Nat.mul_comm e N];(first|lia|omega)
 ·rw[jx];(first|lia|omega)
def LS.slSml(G:Good N n m)(L:LS N n m t e A k w r T U Bn V Bf QU QV):∀j,j<r->Sml (slT ((Ah k).map (colAt T)) r j)/\Sml (slT U r j)/\Sml (slB Bn r j):=fun j g=>by
 have h:=iI G;have rk:=L.li.rk;have s:=L.kN;have f:=G.N40;have tT:=L.tT;have rn:r<=2 ^ n:=Ag ω G.Nn;obtain⟨l,a,o⟩:=L.eu;obtain⟨p,b,q⟩:=L.eb;have hk:n+1<=kp N n m:=by unfold kp;(first|lia|omega)
 have c:be N n m<=k0 N n m:=by unfold k0;(first|lia|omega)
 have eT:Ent ((Ah k).map (colAt T)) (2 ^ be N n m):=o8 zW fun i hi u=>by
  rw[eM hi]
  by_cases d:u<w
  ·exact Ag (L.li.small d hi) (Tb.pw ω)
  ·unfold fn
   rw[wR (by rw[L.lT];(first|lia|omega))];exact Aw _
 have e1:=FC (n:=j) (r:=r) (by rw[zW];exact rk) (jq (n:=k) L.lT) ω eT;have e2:=FC (n:=j) (r:=r) (by rw[L.lU];exact rk) L.wU ω a;have e3:=Jf (n:=j) (r:=r) (by rw[L.lB];exact rk) L.wB ω b;refine⟨fun x hx=>⟨?_,G.ent (t:=t+1) (e1.mono (Tb.zx rn (Ad _))) ω (by rw[jx];(first|lia|omega)) x hx⟩,fun x hx=>⟨?_,G.ent (t:=t+1) (e2.mono (Tb.zx rn (Ad _))) ω (by rw[jx];(first|lia|omega)) x hx⟩,fun x hx=>⟨?_,G.ent (t:=t+1) (e3.mono (Tb.zx (show 2<=2 ^ 1 from ξ) (Ad _))) ω (by rw[jx];(first|lia|omega)) x hx⟩⟩
 ·rw[pe (by rw[zW];exact rk) (jq (n:=k) L.lT) j ω x hx];have:=L.wN;(first|lia|omega)
 ·rw[pe (by rw[L.lU];exact rk) L.wU j ω x hx];(first|lia|omega)
 ·rw[C4 (by rw[L.lB];exact rk) L.wB j ω x hx];(first|lia|omega)
def LS.slid(G:Good N n m)(L:LS N n m t e A k w r T U Bn V Bf QU QV)(hr:1<=r)(hd:Tb.Dg r (fn T))(o:¬∀i,i+1<r->fn T i i ∣ fn T (i+1) (i+1)):LH N n m t (e+n) A k w r T (slT ((Ah k).map (colAt T)) r (r-1)) (slT U r (r-1)) (slB Bn r (r-1)) V Bf (fun i u=>Tb.aT k w A (Tb.b0 (fn U) r (r-1) i) (fn V u)) (Tb.b0 (fn U) r (r-1)) QU QV:=by
 have rk:=L.li.rk;have y:=L.li.rw;obtain⟨J,val⟩:=L.li.slid hr hd;have rn:r<=2 ^ n:=Ag rk (Ag L.kN G.Nn);have J:=J.mono (g':=2 ^ (e+n)) (by rw[Nat.pow_add,Nat.mul_comm];exact Al _ rn);obtain⟨q,h,s⟩:=L.eu;obtain⟨v,l,x⟩:=L.eb;have hk:n+N*n+N<=kp N n m/\n+1<=kp N n m:=by unfold kp;rw[Nat.add_mul,Nat.mul_comm n N];(first|lia|omega)
 have e1:fn (slT U r (r-1))=Tb.b0 (fn U) r (r-1):=C5 (by rw[L.lU];exact rk) L.wU (r-1) ω;have e2:fn (slB Bn r (r-1))=Tb.gA (fn Bn) r (r-1):=FB (by rw[L.lB];exact rk) L.wB (r-1) ω;rw[<-e2] at J;refine⟨L.kN,L.wN,by rw[lN];exact zW,by rw[lN];exact L.lU,by rw[wc];exact L.lB,L.lV,L.lC,pe (by rw[zW];exact rk) (jq (n:=k) L.lT) _ ω,pe (by rw[L.lU];exact rk) L.wU _ ω,C4 (by rw[L.lB];exact rk) L.wB _ ω,L.wV,L.wC,J,fun i u hi a=>?_,fun i hi=>by rw[e1],fun d p=>Tb.M8 L.li hr hd o d p,?_,L.tm,⟨_,(FC (n:=r-1) (by rw[L.lU];exact rk) L.wU ω h).mono (Tb.zx rn (Ad _)),?_⟩,⟨_,(Jf (n:=r-1) (by rw[L.lB];exact rk) L.wB ω l).mono (Tb.zx (show 2<=2 ^ 1 from ξ) (Ad _)),?_⟩,L.ev,L.ec⟩
 ·have e3:fn (slT ((Ah k).map (colAt T)) r (r-1))=Tb.b0 (fn ((Ah k).map (colAt T))) r (r-1):=C5 (by rw[zW];exact rk) (jq (n:=k) L.lT) (r-1) ω
  rw[e3,val i u hi a,Tb.jg hr];have zero:∀j,j<k->j≠u->fn T u j=0:=fun j f ne=>by
   by_cases c:u<r/\j<r
   ·exact hd u j c.1 c.2 (Ne.symm ne)
   ·exact L.li.to u j a f ω
  by_cases c:i<r
  ·rw[if_pos c,Tb.Ja,Tb.EU (u:=u) (r-i) i fun j h1 h2 g=>by rw[eM (show j<k from ω)];exact zero j ω g]
   by_cases b:i<=u/\u<r
   ·rw[if_pos ω,if_pos b,eM ω]
   ·rw[if_neg ω,if_neg b]
  ·rw[if_neg c,if_neg ω,eM hi]
   exact L.li.to u i a hi (.inr ω)
 ·rw[Nat.mul_add,Nat.mul_one];have:=L.te;(first|lia|omega)
 ·rw[jx,Nat.mul_add];(first|lia|omega)
 ·rw[jx];(first|lia|omega)
end
end K21
end
section
namespace Tb
def Jg{w j:Nat}{A:Nat->Vc}:i7 (tl j (glue w A un)):=fun c hc hz=>by
 have D:Both j ((tl j (glue w A un)).map fun r=>fun t=>r (w+t)) (tl j un):=by rw[BR];exact EV j
 exact D.free hc fun t _=>hz _
def Jh{N n m:Nat}(a:N<=2 ^ n):sX N (2 ^ m)<=2 ^ ((1+n+m)*N):=by
 unfold sX;rw[Nat.pow_mul];refine Nat.pow_le_pow_left (zx (zx (show 2<=2 ^ 1 from ξ) a) (Ad _)) _
def N_{N n m:Nat}(a:N<=2 ^ n):sB N (2 ^ m)<=2 ^ (n+((1+n+m)*N+m)):=zx a (zx (Jh a) (Ad _))
def FE{i t:Nat}:(un i t).natAbs<=1:=by unfold un dl;split<;>decide
end Tb
namespace K21
open PySem L2
def w_{n:Nat}:Ent (unT n) (2 ^ 0):=o8 wW fun i hi u=>by rw[l6 hi];exact Tb.FE
section
variable{N n m k w:Nat}{tb:Ξ}
def C6{q j i:Nat}{S:Ξ}(hi:i<j):Tb.glue q (fn S) (fn (unT j)) i=Tb.glue q (fn S) Tb.un i:=C2 (fun _ _=>rfl) (l6 hi)
def jZ(G:Good N n m){mu x b:Nat}(y:mu<=m2 N n m)(hx:(1+n+mu)*N<=x)(z:x<=x2 N n m)(hb:n+(x+mu)<=b)(d:b<=ga N n m)(g:k<=N)(v:w<=N)(l:tb.length=k)(hw:∀r∈tb,r.length=w)(o:Ent tb (2 ^ mu)):Side N (2 ^ mu) (2 ^ x) (2 ^ b) (2 ^ mu) w k tb (unT k) (unT k):=by
 have h:=iI G;have q:=G.N40;have le:∀i,i<k->∀u,(Tb.glue w (fn tb) (fn (unT k)) i u).natAbs<=2 ^ mu:=fun i hi u=>by
  rw[C6 hi];exact C3 (fun u _=>o i u) (fun s=>Ag Tb.FE AR) u
 have e:∀{j},j<=k->Tb.tl j (Tb.glue w (fn tb) (fn (unT k)))=Tb.tl j (Tb.glue w (fn tb) Tb.un):=fun{j} a=>Tb.iD fun i hi=>C6 ω;have c:m2 N n m<=k0 N n m:=by unfold k0;(first|lia|omega)
 refine⟨l,wW,wW,hw,jw,jw,ω,ω,g,G.N1,ω,fun j a=>?_,fun i hi P f F p hp=>le i hi p,le,AR,AR,AR,Nat.pow_lt_pow_right ξ (by have:=G.piv;(first|lia|omega)),?_,?_⟩
 ·rw[e a]
  refine(Tb.MM G.N1 AR Tb.Jg (by rw[Tb.iw];(first|lia|omega)) fun r hr u=>?_).mono (Ad _) (Ag (Tb.Jh G.Nn) (Tb.pw hx)) (Ag (Tb.N_ G.Nn) (Tb.pw ω));obtain⟨i,hi,rfl⟩:=List.mem_map.mp hr;have hi:=List.mem_range.mp hi;rw[<-C6 (show i<k from ω)];exact le i ω u
 ·exact G.cE ⟨_,rfl,d⟩ rfl rfl rfl (t:=0) ω ω ω ω
 ·exact G.ent (t:=0) (w_) ω ω
def Ji(G:Good N n m):m<=m2 N n m/\(1+n+m)*N<=x1 N n m/\x1 N n m<=x2 N n m/\n+(x1 N n m+m)<=be N n m/\be N n m<=ga N n m/\(1+n+m2 N n m)*N<=x2 N n m/\n+(x2 N n m+m2 N n m)<=ga N n m:=by
 have h:=iI G;have h1:x1 N n m<=dd N n m:=Am _ ω;have h2:x1 N n m=(1+n+m)*N:=rfl;have a:x2 N n m=(1+n+m2 N n m)*N:=rfl;have b:ga N n m=n+x2 N n m+m2 N n m:=rfl;have c:be N n m=n+m+dd N n m:=rfl;have d:m2 N n m=2*n+be N n m+x1 N n m+m:=rfl;(first|lia|omega)
def xa(G:Good N n m)(a:k<=N)(b:w<=N)(l:tb.length=k)(hw:∀r∈tb,r.length=w)(c:Ent tb (2 ^ m)):Side N (2 ^ m) (2 ^ x1 N n m) (2 ^ be N n m) (2 ^ m) w k tb (unT k) (unT k):=by
 have h:=Ji G;exact jZ G h.1 h.2.1 h.2.2.1 h.2.2.2.1 h.2.2.2.2.1 a b l hw c
variable{P P2:List Nat}{fr gU:Nat->List Int}{S U Bn T V Bf:Ξ}
def Oa(G:Good N n m)(l:tb.length=k)(hw:∀r∈tb,r.length=w)(b:Ent tb (2 ^ m))(c:k<=N)(D:Done N (2 ^ m) (2 ^ x1 N n m) (2 ^ be N n m) w k tb (unT k) (unT k) P fr S U Bn):Ent ((Ah w).map (colAt S)) (2 ^ m2 N n m):=by
 refine o8 zW fun u a i=>?_;rw[eM a]
 by_cases hi:i<k
 ·rw[D.f1 i u hi a]
  have:=(D.fs.fr (Tb.pp P i) (Tb.oR D.lP hi)).le (u:=u) (M:=2 ^ m) fun r hr=>by
   obtain⟨j,d,rfl⟩:=List.mem_map.mp hr;rw[Tb.zS a];exact b j u
  refine Ag this ?_;rw[Tb.iw];refine Ag (Am _ c) (Ag (Tb.zx G.Nn (Tb.zx (Tb.l4 G.Nn) (Ad _))) (Tb.pw ?_));unfold m2;(first|lia|omega)
 ·unfold fn
  rw[wR (by rw[D.l1];(first|lia|omega))];exact Aw _
def xh(G:Good N n m)(l:tb.length=k)(hw:∀r∈tb,r.length=w)(b:Ent tb (2 ^ m))(a:k<=N)(c:w<=N)(D:Done N (2 ^ m) (2 ^ x1 N n m) (2 ^ be N n m) w k tb (unT k) (unT k) P fr S U Bn):Side N (2 ^ m2 N n m) (2 ^ x2 N n m) (2 ^ ga N n m) (2 ^ m2 N n m) k w ((Ah w).map (colAt S)) (unT w) (unT w):=by
 have h:=Ji G;exact jZ G (Ad _) h.2.2.2.2.2.1 (Ad _) h.2.2.2.2.2.2 (Ad _) c a zW (jq D.l1) (Oa G l hw b a D)
def Ob(G:Good N n m)(l:tb.length=k)(hw:∀r∈tb,r.length=w)(h:Ent tb (2 ^ m))(b:k<=N)(j:w<=N)(D:Done N (2 ^ m) (2 ^ x1 N n m) (2 ^ be N n m) w k tb (unT k) (unT k) P fr S U Bn)(D2:Done N (2 ^ m2 N n m) (2 ^ x2 N n m) (2 ^ ga N n m) k w ((Ah w).map (colAt S)) (unT w) (unT w) P2 gU T V Bf):∃r QU QV,LS N n m 0 0 (fn tb) k w r T U Bn V Bf QU QV:=by
 have hb:=iI G;have e1:Tb.tl k (Tb.glue w (fn tb) (fn (unT k)))=Tb.tl k (Tb.glue w (fn tb) Tb.un):=Tb.iD fun i hi=>C6 hi;have F:=D.fs;rw[e1] at F;have I:=Tb.M3 F;have f:=Tb.M4 AR Tb.Jg (fun r hr u=>?_) F
 ·have e2:Tb.tl w (Tb.glue k (fn ((Ah w).map (colAt S))) (fn (unT w)))=Tb.tl w (Tb.glue k (fun u i=>vF fr (Tb.pp P i) u) Tb.un):=Tb.iD fun u a=>C2 (fun i hi=>by rw[eM a];exact D.f1 i u hi a) (l6 a)
  have e:=D2.fs;rw[e2] at e;have g:(2*(k*2 ^ m)+1) ^ k<=2 ^ dd N n m:=by
   unfold dd;rw[Nat.pow_mul];have h1:2*(k*2 ^ m)+1<=2 ^ (2+n+m):=by
    have a1:k*2 ^ m<=2 ^ (n+m):=Tb.zx (Ag b G.Nn) (Ad _);have a2:2 ^ (2+n+m)=4*2 ^ (n+m):=by rw[Nat.add_assoc,Nat.pow_add]
    have a3:=AR (n:=n+m);(first|lia|omega)
   exact Ag (Nat.pow_le_pow_left h1 _) (AJ AR b)
  obtain⟨o,pr,J⟩:=Tb.M5 I (D:=2 ^ dd N n m) (fun q hq=>Ag (f q hq) g) e;have c:=D.f3;rw[e1,Tb.iD (W:=fn (unT k)) (W':=Tb.un) fun i hi=>l6 hi] at c;have d:=D2.f3;rw[e2,Tb.iD (W:=fn (unT w)) (W':=Tb.un) fun i hi=>l6 hi] at d;rw[<-c,<-d] at J;have p:k0 N n m=2*n+ga N n m+x2 N n m+m2 N n m+N+m:=rfl;have rk:=J.rk;have J2:=J.cg (T':=fn T) (U':=fn U) (V':=fn V) (fun u i a hi=>(D2.f1 u i a hi).symm) (fun i hi=>(D.f2 i hi).symm) fun u a=>(D2.f2 u a).symm;refine⟨_,_,_,b,j,D2.l1,D.l2,D.l3,D2.l2,D2.l3,D2.w1,D.w2,D.w3,D2.w2,D2.w3,J2,Aw _,?_,⟨_,(D.e2 w_).mono (Tb.zx G.Nn (Tb.zx (Tb.l4 G.Nn) (Ad _))),?_⟩,⟨_,(D.e3 w_).mono (Tb.zx G.Nn (Tb.zx (Tb.zx (Ad _) (Ad _)) (Ad _))),?_⟩,(D2.e2 w_).mono (Ag (Tb.zx G.Nn (Tb.zx (Tb.l4 G.Nn) (Ad _))) (Tb.pw ?_)),(D2.e3 w_).mono (Ag (Tb.zx G.Nn (Tb.zx (Tb.zx (Ad _) (Ad _)) (Ad _))) (Tb.pw ?_))⟩
  ·have h1:=Tb.Iw (T:=fn T) (D:=2 ^ dd N n m) (Tb.cut w P) J2.tp J2.pd
   rw[Nat.log2_two_pow] at h1;have h2:Tb.cut w P*dd N n m<=N*dd N n m:=Am _ ω;unfold Tb.ms Tm;split<;>(first|lia|omega)
  ·(first|lia|omega)
  ·(first|lia|omega)
  ·(first|lia|omega)
  ·(first|lia|omega)
 ·obtain⟨i,hi,rfl⟩:=List.mem_map.mp hr
  exact C3 (fun u _=>h i u) (fun s=>Ag Tb.FE AR) u
end
end K21
end
section
namespace K21
open PySem L2
def Oc{tb:Ξ}:tb.zipIdx=(Ah tb.length).map fun i=>(rowAt tb i,i):=by
 apply AT
 ·simp
 ·intro i h1 h2
  rw[List.length_zipIdx] at h1;rw[AW,A0,List.getElem_zipIdx,zG (Ab h1)];simp
def Jj{a:Type}{p:Nat->List Int->Bool}{g:Nat->List Int->a}{tb:Ξ}:jo p g tb.zipIdx=((Ah tb.length).filter fun i=>p i (rowAt tb i)).map fun i=>g i (rowAt tb i):=by
 unfold jo;rw[Oc,List.filter_map,AS]
 rfl
def Jk{l:List Int}{k u:Nat}(a:u≠k):vc (bN l k l.length) u=0:=by
 unfold bN;split
 ·unfold vc
  rw[Ac,List.getElem?_set,if_neg (Ne.symm a),List.getElem?_replicate];split<;>rfl
 ·exact IX
def Jl{l:List Int}{k w:Nat}:(bN l k w).length=w:=by unfold bN;split<;>simp
def FF{a b:List Int}(h:a.length=b.length)(c:∀u,u<a.length->vc a u=vc b u):a=b:=by
 apply AT h;intro i h1 h2;have:=c i h1
 rwa [iE h1,iE h2] at this
def Jm{l:List Int}{k:Nat}:l=bN l k l.length↔∀u,u≠k->vc l u=0:=by
 constructor
 ·intro h u a
  rw[h];exact Jk (l:=l) a
 ·intro h
  refine FF Jl.symm fun u a=>?_
  by_cases c:u=k
  ·subst c
   unfold bN;rw[if_pos a];unfold vc;rw[Ac,Ac,List.getElem?_set,if_pos rfl,List.length_replicate,if_pos a]
   rfl
  ·rw[h u c,Jk c]
def Od{tb:Ξ}:dA tb=true↔∀i,i<tb.length->∀u,u≠i->fn tb i u=0:=by
 unfold dA;rw[Jj,List.all_map,AY];constructor
 ·intro h i hi u a
  have:=h i (List.mem_filter.mpr ⟨List.mem_range.mpr hi,rfl⟩);have this:decide (rowAt tb i=bN (rowAt tb i) i (rowAt tb i).length)=true:=this;exact Jm.mp (of_decide_eq_true this) u a
 ·intro h i hi
  have hi:=List.mem_range.mp (List.mem_filter.mp hi).1;exact decide_eq_true (Jm.mpr (h i hi))
def Oe{r w:Nat}(h:r<=w):(Ah w).filter (fun i=>decide (i<r))=Ah r:=by
 have e:Ah w=Ah r++(Ah (w-r)).map (r+·):=by rw[<-List.range_add];congr 1;(first|lia|omega)
 rw[e,List.filter_append];have h1:(Ah r).filter (fun i=>decide (i<r))=Ah r:=List.filter_eq_self.mpr fun i hi=>decide_eq_true (List.mem_range.mp hi);have h2:((Ah (w-r)).map (r+·)).filter (fun i=>decide (i<r))=[]:=List.filter_eq_nil_iff.mpr fun i hi=>by
  obtain⟨j,_,rfl⟩:=List.mem_map.mp hi;simp
 rw[h1,h2,List.append_nil]
noncomputable def dg(r:Nat)(T:Ξ):List Int:=(Ah r).map fun i=>fn T i i
def C7{r u:Nat}{g:Nat->Int}(h:u<r):vc ((Ah r).map g) u=g u:=by
 unfold vc;rw[Ac,Aj,AL h];rfl
section
variable{N n m t e k w r:Nat}{A:Nat->Tb.Vc}{T U Bn V Bf:Ξ}{QU QV:Nat->Nat}
def LS.onSl(L:LS N n m t e A k w r T U Bn V Bf QU QV):dA T=true↔Tb.Dg r (fn T):=by
 have rk:=L.li.rk;have d:=L.li.rw;rw[Od,L.lT];constructor
 ·intro h u i a hi ne
  exact h u ω i (Ne.symm ne)
 ·intro h u a i ne
  by_cases c:i<k
  ·by_cases b:u<r/\i<r
   ·exact h u i b.1 b.2 (Ne.symm ne)
   ·exact L.li.to u i a c ω
  ·unfold fn
   exact je (by rw[L.wT _ (zH (by rw[L.lT];exact a))];(first|lia|omega))
def LS.slOf(L:LS N n m t e A k w r T U Bn V Bf QU QV):cj T=dg r T:=by
 have rk:=L.li.rk;have a:=L.li.rw;unfold K21.cj;rw[Jj,L.lT];have e:(Ah w).filter (fun i=>decide (i<(rowAt T i).length)&&decide (vc (rowAt T i) i≠0))=(Ah w).filter fun i=>decide (i<r):=List.filter_congr fun i hi=>by
  have hi:=List.mem_range.mp hi;have b:(rowAt T i).length=k:=L.wT _ (zH (by rw[L.lT];exact hi));rw[b,Bool.eq_iff_iff,AZ,decide_eq_true_eq,decide_eq_true_eq,decide_eq_true_eq];constructor
  ·rintro⟨h1,h2⟩
   refine AA fun c=>h2 ?_;exact L.li.to i i hi h1 ω
  ·intro h
   exact⟨ω,by have:0<vc (rowAt T i) i:=L.li.tp i h;(first|lia|omega)⟩
 rw[e,Oe a]
 rfl
def LS.inSt(L:LS N n m t e A k w r T U Bn V Bf QU QV):cU T=true↔Tb.Dg r (fn T)/\∀i,i+1<r->fn T i i ∣ fn T (i+1) (i+1):=by
 have c:=L.li.rw;unfold K21.cU;rw[AZ,L.onSl,L.slOf,L.lT];refine and_congr_right fun _=>?_;unfold cn;have ld:(dg r T).length=r:=by unfold dg;simp
 have h1:(!decide ((w:Int)<((dg r T).length:Int)))=true:=by rw[ld];simp;(first|lia|omega)
 have h2:(dg r T).all (fun x=>decide (0<x))=true:=by
  rw[AY];intro x hx;obtain⟨i,hi,rfl⟩:=List.mem_map.mp hx;exact decide_eq_true (L.li.tp i (List.mem_range.mp hi))
 rw[h1,h2,Bool.true_and,Bool.true_and,AY];constructor
 ·intro h i hi
  have g:(Ay (fun a b=>decide (b%a=0)) (dg r T) ((dg r T).drop 1))[i]?=some (decide (fn T (i+1) (i+1)%fn T i i=0)):=by
   rw[List.getElem?_zipWith,List.getElem?_drop];unfold dg;rw[Aj,Aj,AL ω,AL ω,Nat.add_comm 1 i]
   rfl
  have:=h _ (Ak g);exact Int.dvd_of_emod_eq_zero (of_decide_eq_true this)
 ·intro h x hx
  obtain⟨i,hi,rfl⟩:=A9 hx;rw[AF,List.length_drop,ld] at hi;rw[A7,List.getElem_drop];unfold dg;rw[AW,AW,A0,A0];have:=h i ω;rw[Nat.add_comm 1 i];exact decide_eq_true (Int.emod_eq_zero_of_dvd this)
end
structure Pap(k w:Nat)(A:Nat->Tb.Vc)(u ub v vb:Ξ)(st:List Int):Prop where
 lu:u.length=k
 lub:ub.length=k
 lv:v.length=w
 lvb:vb.length=w
 wu:∀r∈u,r.length=k
 wub:∀r∈ub,r.length=k
 wv:∀r∈v,r.length=w
 wvb:∀r∈vb,r.length=w
 su:∀r∈u,∀x∈r,x.natAbs<low
 sub:∀r∈ub,∀x∈r,x.natAbs<low
 sv:∀r∈v,∀x∈r,x.natAbs<low
 svb:∀r∈vb,∀x∈r,x.natAbs<low
 u1:∀i j,i<k->j<k->Tb.dot k (fn u i) (fun s=>fn ub s j)=Tb.dl i j
 u2:∀i j,i<k->j<k->Tb.dot k (fn ub i) (fun s=>fn u s j)=Tb.dl i j
 v1:∀i j,i<w->j<w->Tb.dot w (fn v i) (fun s=>fn vb s j)=Tb.dl i j
 v2:∀i j,i<w->j<w->Tb.dot w (fn vb i) (fun s=>fn v s j)=Tb.dl i j
 sk:st.length<=k
 sw:st.length<=w
 sp:∀x∈st,0<x
 sd:∀i,i+1<st.length->vc st i ∣ vc st (i+1)
 sb:∀x∈st,x.natAbs<big
 pr:∀i j,i<k->j<w->Tb.aT k w A (fn u i) (fun s=>fn v s j)=if i=j/\i<st.length then vc st i else 0
def FG{ρ:Nat->Tb.Vc}{c:Nat->Int}{u:Nat}:∀k,Tb.sm ρ c k u=Tb.dot k c (fun a=>ρ a u)
 |0=>rfl
 |k+1=>by show Tb.sm ρ c k u+c k*ρ k u=Tb.dot k c _+c k*ρ k u;rw[FG k]
def FH{a b:Tb.Vc}:∀k,Tb.dot k a b=Tb.dot k b a
 |0=>rfl
 |k+1=>by show Tb.dot k a b+a k*b k=Tb.dot k b a+b k*a k;rw[FH k,Bg]
def FI{i j:Nat}:Tb.dl i j=Tb.dl j i:=by
 unfold Tb.dl
 by_cases c:i=j
 ·rw[if_pos c,if_pos c.symm]
 ·rw[if_neg c,if_neg (Ne.symm c)]
def Jn{T:Ξ}{K q:Nat}(h:Ent T K):Ent ((Ah q).map (colAt T)) K:=o8 zW fun i hi u=>by rw[eM hi];exact h u i
section
variable{N n m t e k w r:Nat}{A:Nat->Tb.Vc}{T U Bn V Bf:Ξ}{QU QV:Nat->Nat}
def LS.pap(G:Good N n m)(L:LS N n m t e A k w r T U Bn V Bf QU QV)(h:K21.cU T=true):Pap k w A U ((Ah k).map (colAt Bn)) ((Ah w).map (colAt V)) Bf (K21.cj T):=by
 obtain⟨hd,f⟩:=L.inSt.mp h;have tT:=L.tT;have rk:=L.li.rk;have E:=L.li.rw;obtain⟨y,g,z⟩:=L.eu;obtain⟨C,l,D⟩:=L.eb;obtain⟨o,p2⟩:=Tb.CT.mp L.li.bu;obtain⟨p,v⟩:=Tb.CT.mp L.li.bv;have ld:(dg r T).length=r:=by unfold dg;simp
 rw[L.slOf];refine⟨L.lU,zW,zW,L.lC,L.wU,jq L.lB,jq L.lV,L.wC,G.entL (t:=t) g ω ω,G.entL (t:=t) (Jn l) ω ω,G.entL (t:=t) (Jn L.ev) ω ω,G.entL (t:=t) L.ec ω ω,fun i j hi a=>?_,fun i j hi a=>?_,fun i j hi a=>?_,fun i j hi a=>?_,ω,ω,fun x hx=>?_,fun i hi=>?_,fun x hx=>?_,fun i j hi a=>?_⟩
 ·rw[<-p2 i j hi a]
  exact Tb.zB fun s b=>eM b j
 ·have:=o i j hi a
  rw[FG] at this;rw[<-this];exact Tb.zR fun s _=>eM hi s
 ·have:=p j i a hi
  rw[FG,FH,FI] at this;rw[<-this];exact Tb.zR fun s _=>eM hi s
 ·rw[FI,<-v j i a hi,FH]
  exact Tb.zR fun s b=>eM b j
 ·obtain⟨i,hi,rfl⟩:=List.mem_map.mp hx
  exact L.li.tp i (List.mem_range.mp hi)
 ·rw[ld] at hi
  have:=f i hi;unfold dg;rw[C7 ω,C7 hi];exact this
 ·obtain⟨i,hi,rfl⟩:=List.mem_map.mp hx
  have hi:=List.mem_range.mp hi;have h1:=L.li.small (u:=i) (i:=i) ω ω;have H:=G.lim;have h2:=iI G;have F:k0 N n m=2*n+ga N n m+x2 N n m+m2 N n m+N+m:=rfl;exact IZ h1 ω
 ·rw[ld]
  have e1:Tb.aT k w A (fn U i) (fun s=>fn ((Ah w).map (colAt V)) s j)=Tb.aT k w A (fn U i) (fn V j):=by
   unfold Tb.aT;exact Tb.zB fun s _=>Tb.zB fun q hq=>eM hq j
  rw[e1,<-L.li.bl j i a hi]
  by_cases c:i=j/\i<r
  ·rw[if_pos c,<-c.1]
   unfold dg;rw[C7 c.2]
  ·rw[if_neg c]
   by_cases d:j<r/\i<r
   ·exact hd j i d.1 d.2 ω
   ·exact L.li.to j i a hi ω
end
end K21
end
section
namespace K21
open PySem L2
noncomputable abbrev C8:Stmt:=top 25
def Dj(x y:List Addr):Prop:=∀a∈x,∀b∈y,a≠b
def NT.there{H H':Hp}{a:Addr}{ds:List Addr}{tb:Ξ}(h:NT H H' a ds tb):∀z∈a::ds,H' z≠none:=fun z hz=>by
 rcases List.mem_cons.mp hz with rfl|hz
 ·rw[h.at_];simp
 ·exact h.rows.there z hz
def NT.new{H H':Hp}{a:Addr}{ds:List Addr}{tb:Ξ}(h:NT H H' a ds tb):∀z∈a::ds,H z=none:=fun z hz=>by
 rcases List.mem_cons.mp hz with rfl|hz
 ·exact h.na
 ·exact(h.nw z hz).1
def gq{x y:List Addr}{H:Hp}(h1:∀z∈x,H z≠none)(h2:∀z∈y,H z=none):Dj x y:=fun a c b hb e=>h1 a c (e▸h2 b hb)
def j7{tb:Ξ}{k:Nat}(l:tb.length=k)(hw:∀r∈tb,r.length=k)(hk:k<=40):cu tb=true/\turn tb=(Ah k).map (colAt tb)/\wid tb=k:=by
 have e:wid tb=k:=by
  cases c:tb with
  |nil=>rw[c] at l;exact l
  |cons x r=>exact hw x (by rw[c];exact Ar ..)
 refine⟨?_,by unfold turn;rw[e],e⟩;unfold cu;rw[e,l,decide_eq_true hk];simp only[Bool.and_self,Bool.true_and,AY];exact fun r hr=>decide_eq_true (hw r hr)
structure PapH(H H':Hp)(p:Addr)(u ub v vb:Ξ)(st:List Int)(a1 a2 a3 a4 a5:Addr)(d1 d2 d3 d4:List Addr):Prop where
 at_:H' p=some (.tup [.ref a1,.ref a2,.ref a3,.ref a4,.ref a5])
 n1:NT H H' a1 d1 u
 n2:NT H H' a2 d2 ub
 n3:NT H H' a3 d3 v
 n4:NT H H' a4 d4 vb
 n5:H' a5=some (.lst (st.map V.int))
 na:H a5=none
 j12:Dj (a1::d1) (a2::d2)
 j13:Dj (a1::d1) (a3::d3)
 j14:Dj (a1::d1) (a4::d4)
 j15:Dj (a1::d1) [a5]
 j23:Dj (a2::d2) (a3::d3)
 j24:Dj (a4::d4) (a2::d2)
 j25:Dj (a2::d2) [a5]
 j34:Dj (a4::d4) (a3::d3)
 j35:Dj (a3::d3) [a5]
 j45:Dj (a4::d4) [a5]
structure xi(N n m k w:Nat)(tb:Ξ):Prop where
 good:Good N n m
 l:tb.length=k
 wd:∀r∈tb,r.length=w
 ent:Ent tb (2 ^ m)
 kN:k<=N
 wN:w<=N
def Jo(H:Hp)(Q:VK)(k w:Nat)(A:Nat->Tb.Vc):Prop:=∀H' p u ub v vb st a1 a2 a3 a4 a5 d1 d2 d3 d4,Same H H'->PapH H H' p u ub v vb st a1 a2 a3 a4 a5 d1 d2 d3 d4->Pap k w A u ub v vb st->Q (.ref p) H'
section
variable{P:Program}{w:World}{K:Af}{mg:Str->Option Value}{base:Heap}
def Jp:Sp:=fun vs H Q _=>∃(L:Addr)(rs:List Addr)(tb:Ξ)(N n m k w:Nat),vs=[.ref L,.int w]/\H L=some (.lst (rs.map V.ref))/\Rws H rs tb/\xi N n m k w tb/\Jo H Q k w (fn tb)
def l8:zn ["table","width","size","near","far"] ["table","width"] (zg C8):=⟨rfl,rfl,rfl,δ,rfl,δ,δ⟩
def Of{f fs fu fc fk fi fo fp fl:Addr}{fd ay fS aV fZ fK bX a_ bD:FuncData}(F:Fun K "paper_of" "paper_of" C8 f fd)(bl:mg "len"=none)(Fs:Fun K "straightened" "straightened" dN fs ay)(bs:Binds K ay ["side","width"] [])(ms:mg "straightened"=some (.ref fs))(Gs:ai P w K mg base av 5 fs ay ["side","width"] IJ)(Fu:Fun K "unit" "unit" vr fu fS)(bu:Binds K fS ["size"] [])(mu:mg "unit"=some (.ref fu))(Gu:ai P w K mg base av 3 fu fS ["size"] Fg)(Fc:Fun K "columns_to" "columns_to" nK fc aV)(bc:Binds K aV ["table","width"] [])(mc:mg "columns_to"=some (.ref fc))(Gc:ai P w K mg base av 2 fc aV ["table","width"] (Ep K))(Fk:Fun K "columns_of" "columns_of" k8 fk fZ)(bk:Binds K fZ ["table"] [])(mk:mg "columns_of"=some (.ref fk))(Gk:ai P w K mg base av 3 fk fZ ["table"] (sR K))(Fi:Fun K "is_in_steps" "is_in_steps" CY fi fK)(bi:Binds K fK ["table"] [])(mi:mg "is_in_steps"=some (.ref fi))(Gi:ai P w K mg base av 3 fi fK ["table"] IR)(Fo:Fun K "is_on_slope" "is_on_slope" ww fo bX)(bo:Binds K bX ["table"] [])(mo:mg "is_on_slope"=some (.ref fo))(Go:ai P w K mg base av 2 fo bX ["table"] Fx)(Fp:Fun K "slope_of" "slope_of" wG fp a_)(bp:Binds K a_ ["table"] [])(mp:mg "slope_of"=some (.ref fp))(Gp:ai P w K mg base av 1 fp a_ ["table"] Fy)(Fl:Fun K "slid" "slid" CW fl bD)(bd:Binds K bD ["side","count"] [])(ml:mg "slid"=some (.ref fl))(Gl:ai P w K mg base av 2 fl bD ["side","count"] IL):ai P w K mg base av 6 f fd ["table","width"] Jp:=by
 refine F.ok l8 (fun vs H Q E h=>?_) (fun ak A outer s H vs Q E hr h=>?_)
 ·obtain⟨L,rs,tb,N,n,m,k,d,rfl,_⟩:=h;rfl
 ·obtain⟨L,rs,tb,N,n,m,k,d,rfl,hL,hT,ok,kk⟩:=h
  have M:Room 3 _:=hr.mono ξ;have hr2:Room 2 _:=hr.mono ξ;have hr1:Room 1 _:=hr.mono ξ;refine⟨_,zd (zr (i:=2) l8.nd rfl (Or.inl rfl) (zk zj rfl bl bR (za (pv 0) zb)))
   (zd (zr (i:=3) l8.nd rfl (Or.inl rfl) (zf Gs hr rfl ms Fs.kp bs .nil ac (za (im (za (pv 0) (za (zf Gu M rfl mu Fu.kp bu .nil ac (za (pv 2) zb)) (za (zf Gu M rfl mu Fu.kp bu .nil ac (za (pv 2) zb)) zb)))) (za (pv 1) zb))))
   (zd (zr (i:=4) l8.nd rfl (Or.inl rfl) (zf Gs hr rfl ms Fs.kp bs .nil ac (za (im (za (zf Gc hr2 rfl mc Fc.kp bc .nil ac (za (zp zt (pv 3) ze (fun _ _=>rfl)) (za (pv 1) zb))) (za (zf Gu M rfl mu Fu.kp bu .nil ac (za (pv 1) zb)) (za (zf Gu M rfl mu Fu.kp bu .nil ac (za (pv 1) zb)) zb)))) (za (pv 2) zb))))
   (zd (BF AX (dS (dR (zf Gi M rfl mi Fi.kp bi .nil ac (za (zp zt (pv 4) ze (fun _ _=>rfl)) zb))))
    (zd (zr (i:=3) l8.nd rfl (Or.inl rfl) (im (za (zf Gc hr2 rfl mc Fc.kp bc .nil ac (za (zp zt (pv 4) ze (fun _ _=>rfl)) (za (pv 2) zb))) (za (zp zt (pv 3) ze (fun _ _=>rfl)) (za (zp zt (pv 3) ze (fun _ _=>rfl)) zb)))))
    (zd (zr (i:=3) l8.nd rfl (Or.inl rfl) (qb (dR (zf Go hr2 rfl mo Fo.kp bo .nil ac (za (zp zt (pv 4) ze (fun _ _=>rfl)) zb)))
     (zf Gl hr2 rfl ml Fl.kp bd .nil ac (za (pv 3) (za (zk zj rfl bl bR (za (zf Gp hr1 rfl mp Fp.kp bp .nil ac (za (zp zt (pv 4) ze (fun _ _=>rfl)) zb)) zb)) zb)))
     (zf Gs hr rfl ms Fs.kp bs .nil ac (za (pv 3) (za (pv 1) zb)))))
    (zh (zr (i:=4) l8.nd rfl (Or.inl rfl) (zf Gs hr rfl ms Fs.kp bs .nil ac (za (im (za (zf Gc hr2 rfl mc Fc.kp bc .nil ac (za (zp zt (pv 3) ze (fun _ _=>rfl)) (za (pv 1) zb))) (za (zp zt (pv 4) ze (fun _ _=>rfl)) (za (zp zt (pv 4) ze (fun _ _=>rfl)) zb)))) (za (pv 2) zb))))))))
   (zh (zo (im (za (zp zt (pv 3) ze (fun _ _=>rfl)) (za (zf Gk M rfl mk Fk.kp bk .nil ac (za (zp zt (pv 3) ze (fun _ _=>rfl)) zb)) (za (zf Gk M rfl mk Fk.kp bk .nil ac (za (zp zt (pv 4) ze (fun _ _=>rfl)) zb)) (za (zp zt (pv 4) ze (fun _ _=>rfl)) (za (zf Gp hr1 rfl mp Fp.kp bp .nil ac (za (zp zt (pv 4) ze (fun _ _=>rfl)) zb)) zb))))))))))),?_⟩
  have aJ:=hT.len;have G:=ok.good;have N40:=G.N40;have kN:=ok.kN;have wN:=ok.wN;refine⟨_,rfl,L,_,rfl,.inl (SqL.of hL),?_⟩;rw[Aa,aJ,ok.l];refine⟨_,rfl,_,rfl,k,rfl,ω,fun u1 H1 wY s1 BZ j9 tU yU Cb=>⟨_,rfl,k,rfl,ω,fun u2 H2 tO s2 B5 l_ mG BG yT=>⟨by show 3<=sizeLine;decide,fun t1 kF=>⟨_,rfl,?_⟩⟩⟩⟩;have sq:=Same.new (o:=.tup [V.ref L,V.ref u1,V.ref u2]) kF;have S1:=xa G ok.kN ok.wN ok.l ok.wd ok.ent;refine⟨t1,L,u1,u2,rs,wY,tO,tb,unT k,unT k,_,_,_,_,_,d,k,rfl,zc,((s1.trans s2).trans sq) _ _ hL,(s2.trans sq) _ _ j9,sq _ _ l_,hT.same ((s1.trans s2).trans sq),tU.same (s2.trans sq),mG.same sq,S1.ok,fun P1 js tn an v I vV W eL H3 F1 W1 s3 X i4 b y=>?_⟩;have D1:=S1.done F1 W1;have fg:=((s1.trans s2).trans sq).trans s3;have i4:=i4.old ((s1.trans s2).trans sq);have b:=b.old ((s1.trans s2).trans sq);have y:=y.old ((s1.trans s2).trans sq);generalize (P1.map fun p=>(js p).take d)=S at D1 i4;generalize (P1.map fun p=>(js p).drop d)=U at D1 b;generalize iz k ((cat tb (unT k)).map fun r=>shrL js r P1) (unT k)=Bn at D1 y;refine⟨_,rfl,tn,_,_,_,rfl,rfl,SqT.of X,zi (j:=0) rfl,_,rfl,an,vV,S,d,rfl,SqL.of i4.at_,i4.rows,by rw[D1.l1];(first|lia|omega),ω,fun r hr=>Nat.le_of_eq (D1.w1 r hr).symm,fun c1 H4 i8 s4 qj gB mM oX pK=>?_⟩;refine⟨_,rfl,d,rfl,ω,fun u3 H5 ux s5 yE mR wn yJ yp=>⟨_,rfl,d,rfl,ω,fun u4 H6 tN s6 nC lZ vT yt Bo=>⟨by show 3<=sizeLine;decide,fun t2 j6=>⟨_,rfl,?_⟩⟩⟩⟩;have Z:=Same.new (o:=.tup [V.ref c1,V.ref u3,V.ref u4]) j6;have S2:=xh G ok.l ok.wd ok.ent ok.kN ok.wN D1;have dX:=((s4.trans s5).trans s6).trans Z;refine⟨t2,c1,u3,u4,i8,ux,tN,_,unT d,unT d,_,_,_,_,_,k,d,rfl,zc,((s5.trans s6).trans Z) _ _ gB,(s6.trans Z) _ _ mR,Z _ _ lZ,mM.same ((s5.trans s6).trans Z),wn.same (s6.trans Z),vT.same Z,S2.ok,fun P2 gU D O bf J dt eO dw H7 F2 W2 s7 u c C g=>?_⟩;have D2:=S2.done F2 W2;obtain⟨r,QU,QV,LL⟩:=Ob G ok.l ok.wd ok.ent ok.kN ok.wN D1 D2;have iB:=dX.trans s7;have iQ:=fg.trans iB;have jj:Dj (v::W) (J::dw):=gq (b.same dX).there g.new;have c:=c.old (fg.trans dX);have C:=C.old (fg.trans dX);have g:=g.old (fg.trans dX);have b:=b.same iB;have y:=y.same iB;have X:=iB _ _ X;generalize (P2.map fun p=>(gU p).take k)=T at D2 c LL;generalize (P2.map fun p=>(gU p).drop k)=V at D2 C LL;generalize iz d ((cat ((Ah d).map (colAt S)) (unT d)).map fun r=>shrL gU r P2) (unT d)=Bf at D2 g LL;refine⟨fun q σ H8=>∃(t e:Nat)(T U Bn V Bf:Ξ)(QU QV:Nat->Nat)(tn an v I D O bf J:Addr)(W eL dt eO dw:List Addr),q=Tm N n m-t/\σ=[some (.ref L),some (.int d),some (.int k),some (.ref tn),some (.ref D)]/\Same H H8/\H8 tn=some (.tup [.ref an,.ref v,.ref I])/\H8 D=some (.tup [.ref O,.ref bf,.ref J])/\NT H H8 v W U/\NT H H8 I eL Bn/\NT H H8 O dt T/\NT H H8 bf eO V/\NT H H8 J dw Bf/\Dj (v::W) (J::dw)/\LS N n m t e (fn tb) k d r T U Bn V Bf QU QV,
   ⟨_,0,0,T,U,Bn,V,Bf,QU,QV,tn,an,v,I,D,O,bf,J,W,eL,dt,eO,dw,rfl,rfl,iQ,X,u,b,y,c,C,g,jj,LL⟩,?_⟩
  clear LL jj g C c D2 u iQ iB S2 dX Z D1 S1 X y b;rintro q σ H8 ⟨t,e,T,U,Bn,V,Bf,QU,QV,tn,an,v,I,D,O,bf,J,W,eL,dt,eO,dw,rfl,rfl,s8,X,u,b,y,c,C,g,jj,LL⟩;have iH:T.length<=1000:=by rw[LL.lT];(first|lia|omega)
  have wT9:∀x∈T,x.length<=1000:=fun x hx=>by rw[LL.wT x hx];(first|lia|omega)
  refine⟨_,rfl,D,_,_,_,rfl,rfl,SqT.of u,zi (j:=0) rfl,O,dt,T,rfl,c.at_,c.rows,iH,wT9,fun H9 a=>⟨_,rfl,?_⟩⟩;have X:=a _ _ X;have u:=a _ _ u;have b:=b.same a;have y:=y.same a;have c:=c.same a;have C:=C.same a;have g:=g.same a;have a:=s8.trans a;clear s8;cases dW:cU T with
  |true=>
   refine aI ?_;obtain⟨i1,i2,_⟩:=j7 LL.lB LL.wB ω;obtain⟨j1,j2,_⟩:=j7 LL.lV LL.wV ω;refine⟨_,rfl,tn,_,_,_,rfl,rfl,SqT.of X,zi (j:=1) rfl,_,rfl,tn,_,_,_,rfl,rfl,SqT.of X,zi (j:=2) rfl,I,eL,Bn,rfl,SqL.of y.at_,y.rows,i1,fun a2 Ha d2 sa vM lw pJ rO s_=>?_⟩;rw[i2] at pJ;refine⟨_,rfl,D,_,_,_,rfl,rfl,SqT.of (sa _ _ u),zi (j:=1) rfl,bf,eO,V,rfl,SqL.of (sa _ _ C.at_),C.rows.same sa,j1,fun a3 Hb d3 Y rM nh pR qN rC=>?_⟩;rw[j2] at pR;have eY:=sa.trans Y;refine⟨_,rfl,D,_,_,_,rfl,rfl,SqT.of (eY _ _ u),zi (j:=2) rfl,_,rfl,D,_,_,_,rfl,rfl,SqT.of (eY _ _ u),zi (j:=0) rfl,O,dt,T,rfl,eY _ _ c.at_,c.rows.same eY,iH,fun a5 Hc sc oM ng=>⟨by show 5<=sizeLine;decide,fun p hp=>?_⟩⟩;have sp:=Same.new (o:=.tup [.ref v,.ref a2,.ref a3,.ref J,.ref a5]) hp;have n2:NT H9 Ha a2 d2 _:=⟨lw,pJ,rO,vM,s_⟩;have n3:NT Ha Hb a3 d3 _:=⟨nh,pR,qN,rM,rC⟩;have j4:=eY.trans sc;have e5:∀z∈[a5],Hb z=none:=fun z hz=>by rw[List.mem_singleton.mp hz];exact oM
   refine kk _ p _ _ _ _ _ v a2 a3 J a5 W d2 d3 dw ((a.trans j4).trans sp) ⟨zc,(b.same j4).same sp,((n2.same (Y.trans sc)).same sp).old a,((n3.same sc).same sp).old (a.trans sa),(g.same j4).same sp,sp _ _ ng,a.free (eY.free oM),gq b.there n2.new,gq (b.same sa).there n3.new,jj,gq (b.same eY).there e5,gq n2.there n3.new,gq g.there n2.new,gq (n2.same Y).there e5,gq (g.same sa).there n3.new,gq n3.there e5,gq (g.same eY).there e5⟩ (LL.pap G dW)
  |false=>
   refine aS ⟨fun ah H'=>∃q,q<Tm N n m-t/\∃(t e:Nat)(T U Bn V Bf:Ξ)(QU QV:Nat->Nat)(tn an v I D O bf J:Addr)(W eL dt eO dw:List Addr),q=Tm N n m-t/\ah=[some (.ref L),some (.int d),some (.int k),some (.ref tn),some (.ref D)]/\Same H H'/\H' tn=some (.tup [.ref an,.ref v,.ref I])/\H' D=some (.tup [.ref O,.ref bf,.ref J])/\NT H H' v W U/\NT H H' I eL Bn/\NT H H' O dt T/\NT H H' bf eO V/\NT H H' J dw Bf/\Dj (v::W) (J::dw)/\LS N n m t e (fn tb) k d r T U Bn V Bf QU QV,fun ah H' h=>h,?_⟩;refine⟨_,rfl,D,_,_,_,rfl,rfl,SqT.of u,zi (j:=0) rfl,_,rfl,O,dt,T,k,rfl,SqL.of c.at_,c.rows,iH,ω,fun x hx=>Nat.le_of_eq (LL.wT x hx).symm,fun c1 Ha i8 sa qj gB mM oX pK=>?_⟩;refine⟨_,rfl,tn,_,_,_,rfl,rfl,SqT.of (sa _ _ X),zi (j:=1) rfl,_,rfl,tn,_,_,_,rfl,rfl,SqT.of (sa _ _ X),zi (j:=2) rfl,by show 3<=sizeLine;decide,fun t1 kF=>?_⟩;have sq:=Same.new (o:=.tup [.ref c1,.ref v,.ref I]) kF;have dB:upd Ha t1 (.tup [.ref c1,.ref v,.ref I]) t1=some (.tup [.ref c1,.ref v,.ref I]):=zc;have cp:NT H9 Ha c1 i8 _:=⟨gB,mM,oX,qj,pK⟩;have cp:=(cp.same sq).old a;have Y:=sa.trans sq;generalize upd Ha t1 (.tup [.ref c1,.ref v,.ref I])=Hb at dB cp Y ⊢;have u:=Y _ _ u;have b:=b.same Y;have y:=y.same Y;have c:=c.same Y;have C:=C.same Y;have g:=g.same Y;have a:=a.trans Y;refine⟨_,rfl,D,_,_,_,rfl,rfl,SqT.of u,zi (j:=0) rfl,O,dt,T,rfl,c.at_,c.rows,iH,wT9,fun Hd sd=>⟨_,rfl,?_⟩⟩;have u:=sd _ _ u;have dB:=sd _ _ dB;have cp:=cp.same sd;have b:=b.same sd;have y:=y.same sd;have c:=c.same sd;have C:=C.same sd;have g:=g.same sd;have a:=a.trans sd;have iL:¬(Tb.Dg r (fn T)/\∀i,i+1<r->fn T i i ∣ fn T (i+1) (i+1)):=fun h=>by have:=LL.inSt.mpr h;rw[dW] at this;cases this
   apply share (S:=fun eR He=>∃(e':Nat)(S' U' fH:Ξ)(S0 U0:Nat->Tb.Vc)(a' b' c':Addr)(dG dy dI:List Addr),Same Hd He/\He eR=some (.tup [.ref a',.ref b',.ref c'])/\NT H He a' dG S'/\NT H He b' dy U'/\NT H He c' dI fH/\LH N n m t e' (fn tb) k d r T S' U' fH V Bf S0 U0 QU QV)
   ·intro fin hc
    have hd:¬Tb.Dg r (fn T):=fun h=>hc (LL.onSl.mpr h);have S1:=LL.side G;refine⟨_,rfl,_,rfl,t1,c1,v,I,i8,W,eL,_,U,Bn,_,_,_,_,_,d,k,rfl,dB,cp.at_,b.at_,y.at_,cp.rows,b.rows,y.rows,S1.ok,fun P1 js eR a' b' c' dG dy dI He F1 W1 se c6 h_ gQ iG=>fin eR He ?_⟩;exact⟨0,_,_,_,_,_,a',b',c',dG,dy,dI,se,c6,h_.old a,gQ.old a,iG.old a,LL.near G hd (S1.done F1 W1)⟩
   ·intro fin hc
    have hd:Tb.Dg r (fn T):=LL.onSl.mp hc;have hn:¬∀i,i+1<r->fn T i i ∣ fn T (i+1) (i+1):=fun h=>iL ⟨hd,h⟩;have hr1:1<=r:=by
     rcases Nat.eq_zero_or_pos r with z|z
     ·exact absurd (fun i hi=>ω) hn
     ·exact z
    refine⟨_,rfl,_,rfl,D,_,_,_,rfl,rfl,SqT.of u,zi (j:=0) rfl,O,dt,T,rfl,c.at_,c.rows,iH,fun D5 H5 s5 c7 e5=>⟨D5,_,rfl,.inl (SqL.of e5),?_⟩⟩;have xY:(K21.cj T).length=r:=by rw[LL.slOf];unfold dg;simp
    rw[Aa,xY];refine⟨H,t1,c1,v,I,i8,W,eL,_,U,Bn,k,r,rfl,s5 _ _ dB,a.trans s5,cp.same s5,b.same s5,y.same s5,zW,LL.lU,LL.lB,hr1,LL.li.rk,ω,LL.slSml G,fun eR a' b' c' dG dy dI He se c6 h_ gQ iG=>fin eR He ?_⟩;exact⟨_,_,_,_,_,_,a',b',c',dG,dy,dI,s5.trans se,c6,h_,gQ,iG,LL.slid G hr1 hd hn⟩
   ·rintro eR He ⟨e',S',U',fH,S0,U0,a',b',c',dG,dy,dI,se,c6,h_,gQ,iG,LH⟩
    have u:=se _ _ u;have C:=C.same se;have g:=g.same se;have a:=a.trans se;refine⟨_,rfl,eR,_,_,_,rfl,rfl,SqT.of c6,zi (j:=0) rfl,_,rfl,a',dG,S',d,rfl,SqL.of h_.at_,h_.rows,by rw[LH.lS];(first|lia|omega),ω,fun x hx=>Nat.le_of_eq (LH.wS x hx).symm,fun c2 Hg vD sg pN l' yj Bw y4=>?_⟩;refine⟨_,rfl,D,_,_,_,rfl,rfl,SqT.of (sg _ _ u),zi (j:=1) rfl,_,rfl,D,_,_,_,rfl,rfl,SqT.of (sg _ _ u),zi (j:=2) rfl,by show 3<=sizeLine;decide,fun t2 j6=>?_⟩;have Z:=Same.new (o:=.tup [.ref c2,.ref bf,.ref J]) j6;have sh:=sg.trans Z;have S2:=LH.side G;refine⟨_,rfl,t2,c2,bf,J,vD,eO,dw,_,V,Bf,_,_,_,_,_,k,d,rfl,zc,Z _ _ l',sh _ _ C.at_,sh _ _ g.at_,yj.same Z,C.rows.same sh,g.rows.same sh,S2.ok,fun P2 gU yi uI xg wo kg kI lM Hi F2 W2 si ni mS k6 iq=>?_⟩;have D2:=S2.done F2 W2;have L2:=LH.next G D2;have s0:=a.trans sh;have tm:=L2.tm;exact⟨_,ω,t+1,e',_,U',fH,_,_,QU,QV,eR,a',b',c',yi,uI,xg,wo,dy,dI,kg,kI,lM,rfl,rfl,s0.trans si,(sh.trans si) _ _ c6,ni,gQ.same (sh.trans si),iG.same (sh.trans si),mS.old s0,k6.old s0,iq.old s0,gq (gQ.same sh).there iq.new,L2⟩
end
end K21
end
section
namespace Tb
def Og{k:Nat}{a b:Vc}{q:Int}(h:∀t,t<k->q ∣ b t):q ∣ dot k a b:=by
 induction k with
 |zero=>exact Int.dvd_zero _
 |succ k ih=>exact Int.dvd_add (ih fun t c=>h t ω) (Int.dvd_trans (h k ω) (Int.dvd_mul_left _ _))
def FJ{k:Nat}{x c:Vc}{Z:Nat->Vc}{e:Vc}:∀n,dot n (fun j=>dot k x (fun l=>c l*Z l j)) e=dot k x (fun l=>c l*dot n (Z l) e)
 |0=>by
  show(0:Int)=dot k x (fun l=>c l*0);have:∀k,dot k x (fun l=>c l*0)=0:=fun k=>by
   induction k with
   |zero=>rfl
   |succ k ih=>show dot k x _+x k*(c k*0)=0;rw[ih];simp
  rw[this]
 |n+1=>by
  show dot n _ e+dot k x (fun l=>c l*Z l n)*e n=dot k x (fun l=>c l*(dot n (Z l) e+Z l n*e n));rw[FJ n,Bg _ (e n),Int.add_comm,<-uF];exact zB fun l _=>by
   show e n*(c l*Z l n)+c l*dot n (Z l) e=c l*(dot n (Z l) e+Z l n*e n);rw[Int.mul_add,Bg (e n),AV,Int.add_comm]
def Jq{n i:Nat}{s:Int}{e:Vc}(hi:i<n):dot n (fun j=>if i=j then s else 0) e=s*e i:=by
 have:∀m,m<=n->dot m (fun j=>if i=j then s else 0) e=if i<m then s*e i else 0:=by
  intro m
  induction m with
  |zero=>intro _;rw[if_neg ω];rfl
  |succ m ih=>
   intro b;show dot m _ e+(if i=m then s else 0)*e m=_;rw[ih ω]
   by_cases c:i=m
   ·subst c;rw[if_neg ω,if_pos rfl,if_pos ω];(first|lia|omega)
   ·rw[if_neg c]
    by_cases a:i<m
    ·rw[if_pos a,if_pos ω];(first|lia|omega)
    ·rw[if_neg a,if_neg ω];(first|lia|omega)
 rw[this n (Ad _),if_pos hi]
def Oh{n:Nat}{z a b:Vc}:dot n z (fun j=>a j-b j)=dot n z a-dot n z b:=by
 have:=uF (k:=n) (a:=z) (b:=b) (b':=a) (x:=-1);rw[show dot n z a-dot n z b=-1*dot n z b+dot n z a from ω,<-this];exact zB fun t _=>ω
noncomputable def bq(q:Nat)(s:Int):Nat:=q / Nat.gcd s.natAbs q
def C9{q:Nat}{s:Int}:Nat.gcd s.natAbs q*bq q s=q:=Nat.mul_div_cancel' (Nat.gcd_dvd_right _ _)
def C_{q:Nat}{s:Int}(hq:1<=q):1<=bq q s:=by
 rcases Nat.eq_zero_or_pos (bq q s) with z|z
 ·have:=C9 (q:=q) (s:=s);rw[z] at this;(first|lia|omega)
 ·exact z
def Oi{q:Nat}{s:Int}(hq:1<=q)(h:¬(q:Int) ∣ s):2<=bq q s:=by
 have h1:=C_ (s:=s) hq;rcases Be (bq q s) 2 with c|c
 ·have e:=C9 (q:=q) (s:=s)
  rw[show bq q s=1 from ω,Nat.mul_one] at e;refine absurd ?_ h;have:=Nat.gcd_dvd_left s.natAbs q;rw[e] at this;exact Int.ofNat_dvd_left.mpr this
 ·exact c
def Oj{q:Nat}{s y:Int}(h:(bq q s:Int) ∣ y):(q:Int) ∣ s*y:=by
 obtain⟨d,rfl⟩:=h;obtain⟨f,i⟩:=Nat.gcd_dvd_left s.natAbs q;have e:=C9 (q:=q) (s:=s);have hd:((Nat.gcd s.natAbs q:Nat):Int) ∣ s:=Int.ofNat_dvd_left.mpr (Nat.gcd_dvd_left _ _);obtain⟨a,c⟩:=hd;refine⟨a*d,?_⟩;have e':(q:Int)=(Nat.gcd s.natAbs q:Nat)*(bq q s:Nat):=by rw[<-Int.natCast_mul,e]
 clear i f e;generalize ((Nat.gcd s.natAbs q:Nat):Int)=g at c e';generalize ((bq q s:Nat):Int)=b at e' ⊢;rw[e',c,AV,AV,Int.mul_left_comm a]
def Ol{q:Nat}{s e:Int}(hq:1<=q)(h:(q:Int) ∣ s*e):(bq q s:Int) ∣ e:=by
 have h1:q ∣ s.natAbs*e.natAbs:=by rw[<-AI];exact Int.ofNat_dvd_left.mp h
 have a:0<Nat.gcd s.natAbs q:=Nat.gcd_pos_of_pos_right _ hq;have b:Nat.Coprime (bq q s) (s.natAbs / Nat.gcd s.natAbs q):=(Nat.coprime_div_gcd_div_gcd a).symm;have es:s.natAbs=Nat.gcd s.natAbs q*(s.natAbs / Nat.gcd s.natAbs q):=(Nat.mul_div_cancel' (Nat.gcd_dvd_left _ _)).symm;have h2:Nat.gcd s.natAbs q*bq q s ∣ Nat.gcd s.natAbs q*((s.natAbs / Nat.gcd s.natAbs q)*e.natAbs):=by
  rw[C9,<-AQ,<-es];exact h1
 have c:bq q s ∣ (s.natAbs / Nat.gcd s.natAbs q)*e.natAbs:=Nat.dvd_of_mul_dvd_mul_left a h2;exact Int.ofNat_dvd_left.mpr (b.dvd_of_dvd_mul_left c)
def Jr:∀{l:List Nat},(∀x∈l,1<=x)->1<=pr l
 |[],_=>Ad _
 |t::l,h=>Nat.mul_pos (h t (.head _)) (Jr fun x hx=>h x (.tail _ hx))
def Js{k w i q:Nat}{s s':Nat->Int}{X Z:Nat->Vc}(E:∀a j,a<k->j<w->dot k (X a) (fun l=>s' l*Z l j)=if a=j then s a else 0)(hk:i<k)(hw:i<w)(hq:1<=q)(F:∀l,i<=l->l<k->(q:Int) ∣ s' l)(G:∀j,j<i->s j=s' j):(q:Int) ∣ s i:=by
 refine AA fun no=>?_;have A:=Oi hq no
 let g:List Int->List Int:=fun c=>(Ah i).map fun l=>dot (i+1) (Z l) (vl c)%(bq q (s l):Int)
 have big:(allb ((Ah i).map fun j=>bq q (s j))).length<(allb ((Ah (i+1)).map fun j=>bq q (s j))).length:=by
  rw[jV,jV,List.range_succ,Ao,uB];have:=Jr (l:=(Ah i).map fun j=>bq q (s j)) fun x hx=>by
   obtain⟨j,_,rfl⟩:=List.mem_map.mp hx;exact C_ hq
  show _<_*(bq q (s i)*1);rw[Nat.mul_one];have h2:pr ((Ah i).map fun j=>bq q (s j))*2<=pr ((Ah i).map fun j=>bq q (s j))*bq q (s i):=Al _ A;(first|lia|omega)
 obtain⟨c,hc,d,hd,ne,e⟩:=eJ g _ _ (oE _) (fun c _=>jf.mpr ⟨by simp[g],fun l x t hx b=>by
  simp only[g,Aj] at hx b
  by_cases f:l<i
  ·rw[AL f] at hx b
   simp at hx b;subst hx b;have:(0:Int)<(bq q (s l):Int):=by have:=C_ (s:=s l) hq;(first|lia|omega)
   exact⟨Int.emod_nonneg _ ω,Int.emod_lt_of_pos _ this⟩
  ·rw[List.getElem?_eq_none (by simpa using f)] at hx;cases hx⟩) big
 obtain⟨v,y⟩:=jf.mp hc;obtain⟨ld,bd⟩:=jf.mp hd;rw[Aa,A8] at v ld;have o:∀a,a<=i->(q:Int) ∣ s a*(vl c a-vl d a):=fun a H=>by
  have h1:dot (i+1) (fun j=>dot k (X a) (fun l=>s' l*Z l j)) (fun j=>vl c j-vl d j)=s a*(vl c a-vl d a):=by
   rw[<-Jq (n:=i+1) (e:=fun j=>vl c j-vl d j) (show a<i+1 from ω)];exact zR fun j I=>E a j ω ω
  rw[<-h1,FJ];refine Og fun l f=>?_;rcases Be l i with c1|c1
  ·rw[<-G l c1]
   refine Oj ?_;rw[Oh];have e2:dot (i+1) (Z l) (vl c)%(bq q (s l):Int)=dot (i+1) (Z l) (vl d)%(bq q (s l):Int):=by
    have:=congrArg (fun x:List Int=>x[l]?) e;simp only[g,Aj,AL c1] at this;exact AM this
   exact Int.dvd_of_emod_eq_zero (by rw[Int.sub_emod,e2];simp)
  ·exact Int.dvd_trans (F l c1 f) (Int.dvd_mul_right _ _)
 refine ne (AT ω fun a h1 h2=>?_);have r:=Ol hq (o a ω);have C:vl c a=c[a]:=by unfold vl;rw[Ac,Ab h1];rfl
 have p:vl d a=d[a]:=by unfold vl;rw[Ac,Ab h2];rfl
 rw[C,p] at r;have u:((Ah (i+1)).map fun j=>bq q (s j))[a]?=some (bq q (s a)):=by rw[Aj,AL ω];rfl
 have J:=y a _ _ (Ab h1) u;have L:=bd a _ _ (Ab h2) u;obtain⟨z,hz⟩:=r;have M:=C_ (s:=s a) hq;have D:z=0:=by
  rcases Int.lt_trichotomy z 0 with h|h|h
  ·have:(bq q (s a):Int)*z<=(bq q (s a):Int)*(-1):=Int.mul_le_mul_of_nonneg_left ω ω
   (first|lia|omega)
  ·exact h
  ·have:(bq q (s a):Int)*1<=(bq q (s a):Int)*z:=Int.mul_le_mul_of_nonneg_left ω ω
   (first|lia|omega)
 rw[D,Int.mul_zero] at hz;(first|lia|omega)
def Om{k w:Nat}{s s':Nat->Int}{X Z u v:Nat->Vc}(g:∀a j,a<k->j<w->dot k (X a) (fun l=>s' l*Z l j)=if a=j then s a else 0)(r:∀a j,a<k->j<w->dot k (u a) (fun l=>s l*v l j)=if a=j then s' a else 0)(f:∀i,0<=s i)(d:∀i,0<=s' i)(hd:∀i l,i<=l->l<k->s i ∣ s l)(e:∀i l,i<=l->l<k->s' i ∣ s' l):∀i,i<k->i<w->s i=s' i:=by
 intro i
 induction i using Nat.strongRecOn with
 |_ i ih=>
  intro hk hw;have go:∀{s s':Nat->Int}{X Z:Nat->Vc},(∀a j,a<k->j<w->dot k (X a) (fun l=>s' l*Z l j)=if a=j then s a else 0)->(∀i,0<=s i)->(∀i,0<=s' i)->(∀i l,i<=l->l<k->s' i ∣ s' l)->(∀j,j<i->s j=s' j)->s' i ∣ s i:=by
   intro s s' X Z g f d e o
   by_cases z:s' i=0
   ·have p:∀l,i<=l->l<k->s' l=0:=fun l h1 h2=>by
     have:=e i l h1 h2;rw[z] at this;exact Int.zero_dvd.mp this
    have hb:=f i;have:=Js (q:=(s i).toNat+1) g hk hw ω (fun l h1 h2=>by rw[p l h1 h2];exact Int.dvd_zero _) o;rw[z];refine Int.zero_dvd.mpr ?_;rcases Int.lt_or_le 0 (s i) with c|c
    ·have:=Int.le_of_dvd c this
     (first|lia|omega)
    ·(first|lia|omega)
   ·have hp:=d i
    have:=Js (q:=(s' i).toNat) g hk hw ω (fun l h1 h2=>by rw[Int.toNat_of_nonneg hp];exact e i l h1 h2) o
    rwa [Int.toNat_of_nonneg hp] at this
  have a:=go g f d e fun j h=>ih j h ω ω;have b:=go r d f hd fun j h=>(ih j h ω ω).symm;exact Int.dvd_antisymm (f i) (d i) b a
def xk{n k:Nat}{x y:Vc}{B:Nat->Vc}:dot n (fun l=>dot k x (fun s=>B s l)) y=dot k x (fun s=>dot n (B s) y):=by
 have:=FJ (k:=k) (x:=x) (c:=fun _=>1) (Z:=B) (e:=y) n;have e1:dot n (fun j=>dot k x (fun l=>(1:Int)*B l j)) y=dot n (fun l=>dot k x (fun s=>B s l)) y:=zR fun t _=>zB fun s _=>Int.one_mul _;have e2:dot k x (fun l=>(1:Int)*dot n (B l) y)=dot k x (fun s=>dot n (B s) y):=zB fun s _=>Int.one_mul _;rw[<-e1,this,e2]
def j8{a b:Vc}:∀k,dot k a b=dot k b a
 |0=>rfl
 |k+1=>by show dot k a b+a k*b k=dot k b a+b k*a k;rw[j8 k,Bg]
def Jt{k w n:Nat}{A U:Nat->Vc}{X y:Vc}:aT k w A (fun t=>dot n X (fun l=>U l t)) y=dot n X (fun l=>aT k w A (U l) y):=by
 unfold aT;exact xk
def Ju{k w n:Nat}{A V:Nat->Vc}{x Z:Vc}:aT k w A x (fun t=>dot n Z (fun l=>V l t))=dot n Z (fun l=>aT k w A x (V l)):=by
 unfold aT;have e:dot k x (fun s=>dot w (A s) (fun t=>dot n Z (fun l=>V l t)))=dot k x (fun s=>dot n (fun l=>dot w (A s) (V l)) Z):=zB fun s _=>by
  rw[j8 w,xk,j8 n];exact zR fun l _=>j8 w
 rw[e,<-xk,j8 n]
end Tb
end
section
namespace K21
open PySem L2
def Jv{n:Nat}{x:Tb.Vc}{B U:Nat->Tb.Vc}(h:∀i j,i<n->j<n->Tb.dot n (B i) (fun s=>U s j)=Tb.dl i j){t:Nat}(a:t<n):Tb.dot n (fun l=>Tb.dot n x (fun s=>B s l)) (fun l=>U l t)=x t:=by
 rw[Tb.xk,<-Tb.EH (k:=n) (x:=x) a];exact Tb.zB fun s b=>h s t b a
def Jw{k w:Nat}{A b:Nat->Tb.Vc}{x x' y a:Tb.Vc}(e:∀s t,s<k->t<w->A s t=b s t)(hx:∀t,t<k->x t=x' t)(hy:∀t,t<w->y t=a t):Tb.aT k w A x y=Tb.aT k w b x' a:=by
 unfold Tb.aT;rw[Tb.zR hx];exact Tb.zB fun s c=>by
  rw[Tb.zB hy];exact Tb.zR fun t d=>e s t c d
def Pap.zero{k w:Nat}{A:Nat->Tb.Vc}{u ub v vb:Ξ}{st:List Int}(p:Pap k w A u ub v vb st){i:Nat}(h:st.length<=i):vc st i=0:=je h
def Pap.pr'{k w:Nat}{A:Nat->Tb.Vc}{u ub v vb:Ξ}{st:List Int}(p:Pap k w A u ub v vb st){i j:Nat}(hi:i<k)(b:j<w):Tb.aT k w A (fn u i) (fun s=>fn v s j)=if i=j then vc st i else 0:=by
 rw[p.pr i j hi b]
 by_cases c:i=j
 ·by_cases a:i<st.length
  ·rw[if_pos ⟨c,a⟩,if_pos c]
  ·rw[if_neg (fun h=>a h.2),if_pos c,je ω]
 ·rw[if_neg (fun h=>c h.1),if_neg c]
def Pap.via{k w:Nat}{A b R C:Nat->Tb.Vc}{u ub v vb f o g d:Ξ}{st q:List Int}(p:Pap k w A u ub v vb st)(r:Pap k w b f o g d q)(h:∀s t,s<k->t<w->A s t=Tb.aT k w b (R s) (C t)):∃X Z:Nat->Tb.Vc,∀a j,a<k->j<w->Tb.dot k (X a) (fun l=>vc q l*Z l j)=if a=j then vc st a else 0:=by
 refine⟨fun a l=>Tb.dot k (fun t=>Tb.dot k (fn u a) (fun s=>R s t)) (fun s=>fn o s l),fun l j=>Tb.dot w (fun t=>Tb.dot w (fun s=>fn v s j) (fun s=>C s t)) (fun s=>fn d l s),fun a j D z=>?_⟩;rw[<-p.pr' D z];have e1:Tb.aT k w A (fn u a) (fun s=>fn v s j)=Tb.aT k w b (fun t=>Tb.dot k (fn u a) (fun s=>R s t)) (fun t=>Tb.dot w (fun s=>fn v s j) (fun s=>C s t)):=by
  rw[Tb.Jt];unfold Tb.aT;refine Tb.zB fun s E=>?_;have:=Tb.Ju (k:=k) (w:=w) (n:=w) (A:=b) (V:=C) (x:=R s) (Z:=fun s=>fn v s j);unfold Tb.aT at this;rw[this,Tb.j8 w];exact Tb.zB fun t e=>h s t E e
 rw[e1];show Tb.dot k (fun l=>Tb.dot k (fun t=>Tb.dot k (fn u a) (fun s=>R s t)) (fun s=>fn o s l)) (fun l=>vc q l*Tb.dot w (fun t=>Tb.dot w (fun s=>fn v s j) (fun s=>C s t)) (fun s=>fn d l s))=_;generalize hx:(fun t=>Tb.dot k (fn u a) (fun s=>R s t))=x;generalize hy:(fun t=>Tb.dot w (fun s=>fn v s j) (fun s=>C s t))=y;have e2:Tb.aT k w b x y=Tb.aT k w b (fun t=>Tb.dot k (fun l=>Tb.dot k x (fun s=>fn o s l)) (fun l=>fn f l t)) y:=Jw (fun _ _ _ _=>rfl) (fun t e=>(Jv r.u2 e).symm) fun _ _=>rfl;rw[e2,Tb.Jt];refine Tb.zB fun l F=>?_;have e3:Tb.aT k w b (fn f l) y=Tb.aT k w b (fn f l) (fun t=>Tb.dot w (fun m=>Tb.dot w y (fun s=>fn d m s)) (fun m=>fn g t m)):=Jw (fun _ _ _ _=>rfl) (fun _ _=>rfl) fun t e=>by
  have:=Jv (n:=w) (x:=y) (B:=fun s m=>fn d m s) (U:=fun m t=>fn g t m) (fun i j hi z=>by
   rw[FI,<-r.v1 j i z hi,Tb.j8]) e
  exact this.symm
 rw[e3];have H:=Tb.Ju (k:=k) (w:=w) (n:=w) (A:=b) (V:=fun m t=>fn g t m) (x:=fn f l) (Z:=fun m=>Tb.dot w y (fun s=>fn d m s));rw[H];show _=Tb.dot w _ _;have I:Tb.dot w (fun m=>Tb.dot w y (fun s=>fn d m s)) (fun m=>Tb.aT k w b (fn f l) (fun t=>fn g t m))=Tb.dot w (fun m=>if l=m then vc q l else 0) (fun m=>Tb.dot w y (fun s=>fn d m s)):=by
  rw[Tb.j8 w];exact Tb.zR fun m G=>r.pr' F G
 rw[I]
 by_cases c:l<w
 ·rw[Tb.Jq c]
 ·rw[Tb.oD fun t e=>if_neg ω,je (by have:=r.sw;(first|lia|omega))]
  simp
def Jx{st:List Int}(hd:∀i,i+1<st.length->vc st i ∣ vc st (i+1)):∀n i,vc st i ∣ vc st (i+n)
 |0,i=>Int.dvd_refl _
 |n+1,i=>by
  have a:=Jx hd n i
  by_cases c:i+n+1<st.length
  ·exact Int.dvd_trans a (hd (i+n) c)
  ·rw[je (show st.length<=i+(n+1) from ω)];exact Int.dvd_zero _
def Pap.steps{k w:Nat}{A f R C R' C':Nat->Tb.Vc}{u ub v vb z D E F:Ξ}{st d:List Int}(p:Pap k w A u ub v vb st)(e:Pap k w f z D E F d)(h:∀s t,s<k->t<w->A s t=Tb.aT k w f (R s) (C t))(h':∀s t,s<k->t<w->f s t=Tb.aT k w A (R' s) (C' t)):st=d:=by
 obtain⟨X,Z,q⟩:=p.via e h;obtain⟨J,L,r⟩:=e.via p h';have g:∀{st:List Int},(∀x∈st,0<x)->∀i,0<=vc st i:=fun{st} h i=>by
  by_cases c:i<st.length
  ·rw[iE c];exact Int.le_of_lt (h _ (Az c))
  ·rw[je ω];exact Int.le_refl _
 have j:∀{st:List Int},(∀i,i+1<st.length->vc st i ∣ vc st (i+1))->∀i l,i<=l->l<k->vc st i ∣ vc st l:=fun{st} h i l h1 _=>by
  have:=Jx h (l-i) i
  rwa [show i+(l-i)=l from ω] at this
 have eq:=Tb.Om q r (g p.sp) (g e.sp) (j p.sd) (j e.sd);have one:∀{st d:List Int},(∀x∈st,0<x)->st.length<=k->st.length<=w->(∀i,i<k->i<w->vc st i=vc d i)->st.length<=d.length:=fun{st d} h1 h2 G o=>by
  rcases Be d.length st.length with c|c
  ·have y:=o d.length ω ω
   rw[je (Ad _),iE c] at y;have:=h1 _ (Az c);(first|lia|omega)
  ·exact c
 have H:=one p.sp p.sk p.sw eq;have I:=one e.sp e.sk e.sw fun i a b=>(eq i a b).symm;exact FF ω fun i hi=>eq i (by have:=p.sk;(first|lia|omega)) (by have:=p.sw;(first|lia|omega))
def Pap.uniq{k w:Nat}{A:Nat->Tb.Vc}{u ub v vb d e f g:Ξ}{st c:List Int}(p:Pap k w A u ub v vb st)(h:Pap k w A d e f g c):st=c:=
 p.steps h (R:=Tb.un) (C:=Tb.un) (R':=Tb.un) (C':=Tb.un) (fun s t a b=>(Tb.EW a b).symm) fun s t a b=>(Tb.EW a b).symm
end K21
end
section
namespace L2
open PySem PySem.Spec PyProof.Rows
mutual
inductive DV(K:Af)(H:Hp):V->PyData->Prop where
 |bl (b:Bool):DV K H (.bl b) (.bool b)
 |int (i:Int):DV K H (.int i) (.int i)
 |str (z:Str):DV K H (.str z) (.str z)
 |lst {l:Addr} {xs:List V} {ds:List PyData} (h:SqL K H l xs) (t:DVs K H xs ds):DV K H (.ref l) (.list ds)
inductive DVs(K:Af)(H:Hp):List V->List PyData->Prop where
 |nil:DVs K H [] []
 |cons {x:V} {d:PyData} {xs:List V} {ds:List PyData} (h:DV K H x d) (t:DVs K H xs ds):DVs K H (x::xs) (d::ds)
end
section
variable{X:Cx}{aa:Ψ}{σ:St}{H:Hp}{s:Shared}
mutual
def DV.reads(I:Inv X aa σ H s):∀{x:V}{d:PyData}{u:Value},DV X.K H x d->RelV x u->∃a,Reads s.heap u d a
 |_,_,_,.bl b,r=>by cases r;exact⟨_,.bool b⟩
 |_,_,_,.int i,r=>by obtain⟨t,rfl⟩:=r;exact⟨_,.int i t⟩
 |_,_,_,.str z,r=>by obtain⟨t,rfl⟩:=r;exact⟨_,.str z t⟩
 |_,_,_,.lst h t,r=>by
  cases r;obtain⟨ad,c,p,_⟩:=I.list h;obtain⟨o,e,hc,n,hd⟩:=p.isList;obtain⟨a,q⟩:=DVs.reads I t c;exact⟨_,.list e hc hd (by simpa using q)⟩
def DVs.reads(I:Inv X aa σ H s):∀{xs:List V}{ds:List PyData}{us:List Value},DVs X.K H xs ds->Vals xs us->∃c,ReadsAll s.heap us ds c
 |_,_,_,.nil,.nil=>⟨_,.nil⟩
 |_,_,_,.cons h t,.cons r rs=>by
  obtain⟨a,q⟩:=DV.reads I h r;obtain⟨b,d⟩:=DVs.reads I t rs;exact⟨_,.cons q d⟩
end
end
def jy(neg:Bool)(K:Af):R2:=fun x y H Q=>∃d e,DV K H x d/\DV K H y e/\SeqAt.shaped d=true/\SeqAt.shaped e=true/\SeqAt.noMix d e=true/\Q (.bl (if neg then !same d e else same d e)) H
section
variable{X:Cx}
def Da(j:X.A.units+64<cLine):cx X (compareOp .Eq) (jy false X.K):=by
 intro aa s σ H x y v u Q I a b h;obtain⟨d,e,h1,h2,c,f,nm,q⟩:=h;obtain⟨a1,g⟩:=h1.reads I a;obtain⟨a2,i⟩:=h2.reads I b;exact eq_dataH_same g i c f j nm ⟨.bl _,H,I,rfl,q⟩
def ph(j:X.A.units+64<cLine):cx X (compareOp .NotEq) (jy true X.K):=by
 intro aa s σ H x y v u Q I a b h;obtain⟨d,e,h1,h2,c,f,nm,q⟩:=h;obtain⟨a1,g⟩:=h1.reads I a;obtain⟨a2,i⟩:=h2.reads I b;exact ne_dataH_same g i c f j nm ⟨.bl _,H,I,rfl,q⟩
end
noncomputable abbrev dO(ns:List Int):PyData:=.list (ns.map PyData.int)
noncomputable abbrev bP(tb:Ξ):PyData:=.list (tb.map dO)
noncomputable abbrev iJ(ts:List Ξ):PyData:=.list (ts.map bP)
def Jy(ns ms:List Int):same (dO ns) (dO ms)=decide (ns=ms):=by simp only[same];exact PySem.W.ke_sameAll ns ms
def Jz:∀a b:Ξ,sameAll (a.map dO) (b.map dO)=decide (a=b)
 |[],[]=>by simp[sameAll]
 |[],_::_=>by simp[sameAll]
 |_::_,[]=>by simp[sameAll]
 |a::r,b::t=>by
  simp only[A6,sameAll,Jy];rw[Jz r t]
  by_cases h:a=b<;>by_cases h':r=t<;>simp[h,h']
def mh(a b:Ξ):same (bP a) (bP b)=decide (a=b):=by simp only[same];exact Jz a b
def JA:∀a b:List Ξ,sameAll (a.map bP) (b.map bP)=decide (a=b)
 |[],[]=>by simp[sameAll]
 |[],_::_=>by simp[sameAll]
 |_::_,[]=>by simp[sameAll]
 |a::r,b::t=>by
  simp only[A6,sameAll,mh];rw[JA r t]
  by_cases h:a=b<;>by_cases h':r=t<;>simp[h,h']
def On(a b:List Ξ):same (iJ a) (iJ b)=decide (a=b):=by simp only[same];exact JA a b
def JB(ns:List Int):PyData.canLayAll0 (ns.map PyData.int)=true:=by simp[PySem.W.ke_canLayAll0]
def FK:∀tb:Ξ,PyData.canLayAll0 (tb.map dO)=true
 |[]=>rfl
 |a::r=>by rw[A6,PyData.canLayAll0,FK r,dO,PyData.canLay0,JB];rfl
def JC:∀b:List Ξ,PyData.canLayAll0 (b.map bP)=true
 |[]=>rfl
 |a::r=>by rw[A6,PyData.canLayAll0,JC r,bP,PyData.canLay0,FK];rfl
def FM:∀tb:Ξ,PyData.depthAll (tb.map dO)<=2
 |[]=>Aw _
 |a::r=>by
  have e:PyData.depth (dO a)<=2:=by simp[PyData.depth,PySem.W.ke_depthAll]
  rw[A6,PyData.depthAll];exact Nat.max_le.mpr ⟨e,FM r⟩
def JD:∀b:List Ξ,PyData.depthAll (b.map bP)<=3
 |[]=>Aw _
 |a::r=>by
  have e:PyData.depth (bP a)<=3:=by
   have:=FM a;rw[bP,PyData.depth];(first|lia|omega)
  rw[A6,PyData.depthAll];exact Nat.max_le.mpr ⟨e,JD r⟩
def zU(tb:Ξ):SeqAt.shaped (bP tb)=true:=by
 have:=FM tb;have e:PyData.depth (bP tb)<=64:=by rw[bP,PyData.depth];(first|lia|omega)
 unfold SeqAt.shaped;rw[decide_eq_true e,bP,PyData.canLay0,FK]
 rfl
def JE(a:List Ξ):SeqAt.shaped (iJ a)=true:=by
 have:=JD a;have e:PyData.depth (iJ a)<=64:=by rw[iJ,PyData.depth];(first|lia|omega)
 unfold SeqAt.shaped;rw[decide_eq_true e,iJ,PyData.canLay0,JC]
 rfl
def Oo(a b:List Int):SeqAt.noMix (dO a) (dO b)=true:=SeqAt.noMix_of_shape (.list .int) rfl _ _ (by simp[Shape.has]) (by simp[Shape.has])
def pu(a b:Ξ):SeqAt.noMix (bP a) (bP b)=true:=SeqAt.noMix_of_shape (.list (.list .int)) rfl _ _ (by simp[Shape.has]) (by simp[Shape.has])
def Op(a b:List Ξ):SeqAt.noMix (iJ a) (iJ b)=true:=SeqAt.noMix_of_shape (.list (.list (.list .int))) rfl _ _ (by simp[Shape.has]) (by simp[Shape.has])
def JF{K:Af}{H:Hp}:∀ns:List Int,DVs K H (ns.map V.int) (ns.map PyData.int)
 |[]=>.nil
 |n::r=>.cons (.int n) (JF r)
def FN{K:Af}{H:Hp}{l:Addr}{ns:List Int}(h:SqL K H l (ns.map V.int)):DV K H (.ref l) (dO ns):=.lst h (JF ns)
end L2
end
section
namespace K21
open PySem L2
noncomputable abbrev xn:Stmt:=top 16
noncomputable abbrev Db:Stmt:=top 17
noncomputable abbrev Dc:Stmt:=top 18
noncomputable abbrev xy:Stmt:=top 23
noncomputable abbrev Dd:Stmt:=top 24
def JG:A5 "min"=some (.builtin "min"):=δ
def Oq{K:Af}{H:Hp}{rs:List Addr}{tb:Ξ}(h:Rws H rs tb):DVs K H (rs.map V.ref) (tb.map dO):=by
 induction h with
 |nil=>exact .nil
 |cons r t ih=>exact .cons (FN (SqL.of r)) ih
def fy{K:Af}{H:Hp}{L:Addr}{rs:List Addr}{tb:Ξ}(a:SqL K H L (rs.map V.ref))(h:Rws H rs tb):DV K H (.ref L) (bP tb):=.lst a (Oq h)
noncomputable def mulT(u v:Ξ):Ξ:=u.map fun r=>(turn v).map (dot r)
noncomputable def cm(u ub:Ξ)(n:Nat):Bool:=zY u n&&zY ub n&&decide (mulT u ub=unT n)
def zQ{u:Ξ}{n:Nat}:zY u n=true↔u.length=n/\∀r∈u,r.length=n:=by
 unfold zY;rw[AZ,decide_eq_true_eq,AY];exact and_congr_right fun _=>⟨fun h r hr=>of_decide_eq_true (h r hr),fun h r hr=>decide_eq_true (h r hr)⟩
def mn(tb:Ξ):Prop:=∀r∈tb,∀x∈r,x.natAbs<big
def FO{tb:Ξ}(h:mn tb):mn (turn tb):=fun r hr x hx=>by
 unfold turn at hr;obtain⟨j,_,rfl⟩:=List.mem_map.mp hr;unfold colAt at hx;obtain⟨q,hq,rfl⟩:=List.mem_map.mp hx;rw[Ac];cases e:q[j]? with
 |none=>exact AD (Aw _) IK
 |some y=>exact h q hq y (Ak e)
def De{tb:Ξ}:(turn tb).length=wid tb:=by unfold turn;simp
def xB{tb:Ξ}:∀r∈turn tb,r.length=tb.length:=fun r hr=>by
 unfold turn at hr;obtain⟨j,_,rfl⟩:=List.mem_map.mp hr;unfold colAt;simp
section
variable{P:Program}{w:World}{K:Af}{mg:Str->Option Value}{base:Heap}
def FP(K:Af):Sp:=fun vs H Q _=>∃L rs tb,vs=[.ref L]/\SqL K H L (rs.map V.ref)/\Rws H rs tb/\cu tb=true/\∀H',Same H H'->Q .non H'
def Os{f a:Addr}{fd b:FuncData}(F:Fun K "must_be_table" "must_be_table" sF f fd)(Ft:Fun K "is_table" "is_table" sy a b)(bt:Binds K b ["table"] [])(mt:mg "is_table"=some (.ref a))(i:ai P w K mg base av 2 a b ["table"] (Hn K)):ai P w K mg base av 3 f fd ["table"] (FP K):=by
 refine F.ok Mg (fun vs H Q E h=>?_) (fun j A outer s H vs Q E hr h=>?_)
 ·obtain⟨L,rs,tb,rfl,_⟩:=h;rfl
 ·obtain⟨L,rs,tb,rfl,e,g,c,k⟩:=h
  refine⟨_,zh (b8 (dS (dR (zf i hr rfl mt Ft.kp bt .nil ac (za (pv 0) zb)))) KB zF),?_⟩;refine⟨_,rfl,L,rs,tb,rfl,e,g,by have:=(k9 c).1;(first|lia|omega),fun H1 d=>⟨_,rfl,?_⟩⟩;rw[c];exact aI (k H1 d)
def FQ(K:Af):Sp:=fun vs H Q _=>∃(L:Addr)(rs:List Addr)(tb:Ξ)(N n m:Nat),vs=[.ref L]/\H L=some (.lst (rs.map V.ref))/\Rws H rs tb/\cu tb=true/\xi N n m tb.length (wid tb) tb/\Jo H Q tb.length (wid tb) (fn tb)
def Ot:zn ["table"] ["table"] (zg xn):=⟨rfl,rfl,rfl,δ,rfl,δ,δ⟩
def PapH.old{H0 H H':Hp}{p:Addr}{u ub v vb:Ξ}{st:List Int}{a1 a2 a3 a4 a5:Addr}{d1 d2 d3 d4:List Addr}(h:PapH H H' p u ub v vb st a1 a2 a3 a4 a5 d1 d2 d3 d4)(s:Same H0 H):PapH H0 H' p u ub v vb st a1 a2 a3 a4 a5 d1 d2 d3 d4:=
 ⟨h.at_,h.n1.old s,h.n2.old s,h.n3.old s,h.n4.old s,h.n5,s.free h.na,h.j12,h.j13,h.j14,h.j15,h.j23,h.j24,h.j25,h.j34,h.j35,h.j45⟩
def PapH.same{H H' H2:Hp}{p:Addr}{u ub v vb:Ξ}{st:List Int}{a1 a2 a3 a4 a5:Addr}{d1 d2 d3 d4:List Addr}(h:PapH H H' p u ub v vb st a1 a2 a3 a4 a5 d1 d2 d3 d4)(s:Same H' H2):PapH H H2 p u ub v vb st a1 a2 a3 a4 a5 d1 d2 d3 d4:=
 ⟨s _ _ h.at_,h.n1.same s,h.n2.same s,h.n3.same s,h.n4.same s,s _ _ h.n5,h.na,h.j12,h.j13,h.j14,h.j15,h.j23,h.j24,h.j25,h.j34,h.j35,h.j45⟩
def Ou{f g i j:Addr}{fd l o q:FuncData}(F:Fun K "stepped" "stepped" xn f fd)(Fm:Fun K "must_be_table" "must_be_table" sF g l)(z:Binds K l ["table"] [])(C:mg "must_be_table"=some (.ref g))(M:ai P w K mg base av 3 g l ["table"] (FP K))(Fp:Fun K "paper_of" "paper_of" C8 i o)(D:Binds K o ["table","width"] [])(G:mg "paper_of"=some (.ref i))(O:ai P w K mg base av 6 i o ["table","width"] Jp)(Fw:Fun K "width_of" "width_of" jG j q)(I:Binds K q ["table"] [])(J:mg "width_of"=some (.ref j))(S:ai P w K mg base av 1 j q ["table"] (k7 K)):ai P w K mg base av 7 f fd ["table"] (FQ K):=by
 refine F.ok Ot (fun vs H Q E h=>?_) (fun T A outer s H vs Q E hr h=>?_)
 ·obtain⟨L,rs,tb,N,n,m,rfl,_⟩:=h;rfl
 ·obtain⟨L,rs,tb,N,n,m,rfl,b,c,it,ok,y⟩:=h
  have d:Room 3 _:=hr.mono ξ;have e:Room 1 _:=hr.mono ξ;refine⟨_,zd (ie (zf M d rfl C Fm.kp z .nil ac (za (pv 0) zb))) (zh (zo (zf O hr rfl G Fp.kp D .nil ac (za (pv 0) (za (zf S e rfl J Fw.kp I .nil ac (za (pv 0) zb)) zb))))),?_⟩;refine⟨_,rfl,L,rs,tb,rfl,SqL.of b,c,it,fun H1 a=>⟨_,rfl,_,rfl,L,rs,tb,rfl,SqL.of (a _ _ b),c.same a,L,rs,tb,N,n,m,_,_,rfl,a _ _ b,c.same a,ok,?_⟩⟩;intro H' p u ub v vb st a1 a2 a3 a4 a5 d1 d2 d3 d4 r x pp;exact y H' p u ub v vb st a1 a2 a3 a4 a5 d1 d2 d3 d4 (a.trans r) (x.old a) pp
def FR(K:Af):Sp:=fun vs H Q _=>∃(L:Addr)(rs:List Addr)(tb:Ξ)(N n m:Nat),vs=[.ref L]/\H L=some (.lst (rs.map V.ref))/\Rws H rs tb/\cu tb=true/\xi N n m tb.length (wid tb) tb/\
 ∀a H' u ub v vb st,Same H H'->H a=none->H' a=some (.lst (st.map V.int))->Pap tb.length (wid tb) (fn tb) u ub v vb st->Q (.ref a) H'
def Ov:zn ["table"] ["table"] (zg xy):=⟨rfl,rfl,rfl,δ,rfl,δ,δ⟩
def Ow{f fs:Addr}{fd b:FuncData}(F:Fun K "steps_of" "steps_of" xy f fd)(Fs:Fun K "stepped" "stepped" xn fs b)(bs:Binds K b ["table"] [])(ms:mg "stepped"=some (.ref fs))(i:ai P w K mg base av 7 fs b ["table"] (FQ K)):ai P w K mg base av 8 f fd ["table"] (FR K):=by
 refine F.ok Ov (fun vs H Q E h=>?_) (fun l A outer s H vs Q E hr h=>?_)
 ·obtain⟨L,rs,tb,N,n,m,rfl,_⟩:=h;rfl
 ·obtain⟨L,rs,tb,N,n,m,rfl,d,e,it,ok,g⟩:=h
  refine⟨_,zh (zo (zp zt (zf i hr rfl ms Fs.kp bs .nil ac (za (pv 0) zb)) ze (fun _ _=>rfl))),?_⟩;refine⟨_,rfl,L,rs,tb,N,n,m,rfl,d,e,it,ok,?_⟩;intro H' p u ub v vb st a1 a2 a3 a4 a5 d1 d2 d3 d4 c a pp;exact⟨p,_,_,_,rfl,rfl,SqT.of a.at_,zi (j:=4) rfl,g a5 H' u ub v vb st c a.na a.n5 pp⟩
def JH(K:Af):Sp:=fun vs H Q _=>∃(L:Addr)(rs:List Addr)(tb:Ξ)(N n m:Nat),vs=[.ref L]/\H L=some (.lst (rs.map V.ref))/\Rws H rs tb/\cu tb=true/\xi N n m tb.length (wid tb) tb/\
 ∀H' u ub v vb st,Same H H'->Pap tb.length (wid tb) (fn tb) u ub v vb st->Q (.int st.length) H'
def Ox:zn ["table"] ["table"] (zg Dd):=⟨rfl,rfl,rfl,δ,rfl,δ,δ⟩
def Oy{f fs:Addr}{fd b:FuncData}(F:Fun K "rank" "rank" Dd f fd)(bl:mg "len"=none)(Fs:Fun K "steps_of" "steps_of" xy fs b)(bs:Binds K b ["table"] [])(ms:mg "steps_of"=some (.ref fs))(j:ai P w K mg base av 8 fs b ["table"] (FR K)):ai P w K mg base av 9 f fd ["table"] (JH K):=by
 refine F.ok Ox (fun vs H Q E h=>?_) (fun l A outer s H vs Q E hr h=>?_)
 ·obtain⟨L,rs,tb,N,n,m,rfl,_⟩:=h;rfl
 ·obtain⟨L,rs,tb,N,n,m,rfl,e,g,it,ok,i⟩:=h
  refine⟨_,zh (zo (zk zj rfl bl bR (za (zf j hr rfl ms Fs.kp bs .nil ac (za (pv 0) zb)) zb))),?_⟩;refine⟨_,rfl,L,rs,tb,N,n,m,rfl,e,g,it,ok,fun a H' u ub v vb st c _ d pp=>⟨a,_,rfl,.inl (SqL.of d),?_⟩⟩;rw[Aa];exact i H' u ub v vb st c pp
def JI(K:Af):Sp:=fun vs H Q _=>∃(L M:Addr)(rs ms:List Addr)(u ub:Ξ)(n:Nat),vs=[.ref L,.ref M,.int n]/\H L=some (.lst (rs.map V.ref))/\H M=some (.lst (ms.map V.ref))/\Rws H rs u/\Rws H ms ub/\u.length<=1000/\ub.length<=1000/\n<=40/\mn u/\mn ub/\∀H',Same H H'->Q (.bl (cm u ub n)) H'
def Oz:zn ["turn","back","size"] ["turn","back","size"] (zg Dc):=⟨rfl,rfl,rfl,δ,rfl,δ,δ⟩
def OA{f fo fr o p:Addr}{fd q v z C:FuncData}(F:Fun K "is_back" "is_back" Dc f fd)(Fo:Fun K "is_of_size" "is_of_size" vu fo q)(T:Binds K q ["table","size"] [])(U:mg "is_of_size"=some (.ref fo))(W:ai P w K mg base av 1 fo q ["table","size"] (CV K))(Fr:Fun K "rows_by" "rows_by" nE fr v)(br:Binds K v ["table","columns"] [])(mr:mg "rows_by"=some (.ref fr))(Gr:ai P w K mg base av 3 fr v ["table","columns"] (Fn K))(Fc:Fun K "columns_of" "columns_of" k8 o z)(bc:Binds K z ["table"] [])(mc:mg "columns_of"=some (.ref o))(Gc:ai P w K mg base av 3 o z ["table"] (sR K))(Fu:Fun K "unit" "unit" vr p C)(bu:Binds K C ["size"] [])(mu:mg "unit"=some (.ref p))(Gu:ai P w K mg base av 3 p C ["size"] Fg):ai P w K mg base av 4 f fd ["turn","back","size"] (JI K):=by
 refine F.ok Oz (fun vs H Q E h=>?_) (fun ak A outer s H vs Q E hr h=>?_)
 ·obtain⟨L,M,rs,ms,u,ub,n,rfl,_⟩:=h;rfl
 ·obtain⟨L,M,rs,ms,u,ub,n,rfl,G,I,J,N,O,S,j,su,sub,k⟩:=h
  have a:Room 1 _:=hr.mono ξ;have aG:=hr.units;refine⟨_,zd (b8 (PW.pt (gs (dS (dR (zf W a rfl U Fo.kp T .nil ac (za (pv 0) (za (pv 2) zb))))) (hZ (dS (dR (zf W a rfl U Fo.kp T .nil ac (za (pv 1) (za (pv 2) zb)))))))) (zh (zo dk)) zF)
   (zh (zo (fX (Da aG) (zf Gr hr rfl mr Fr.kp br .nil ac (za (pv 0) (za (zf Gc hr rfl mc Fc.kp bc .nil ac (za (pv 1) zb)) zb))) (zf Gu hr rfl mu Fu.kp bu .nil ac (za (pv 2) zb)) (ar _)))),?_⟩
  refine⟨_,rfl,_,rfl,L,rs,u,n,rfl,SqL.of G,J,O,fun H1 b=>⟨_,rfl,?_⟩⟩;cases c1:zY u n with
  |false=>
   have e:cm u ub n=false:=by unfold cm;rw[c1];rfl
   rw[e] at k;exact aS (aS (k H1 b))
  |true=>
   refine aI ⟨_,rfl,_,rfl,M,ms,ub,n,rfl,SqL.of (b _ _ I),N.same b,S,fun H2 X=>⟨_,rfl,?_⟩⟩;have d:=b.trans X;cases c2:zY ub n with
   |false=>
    have e:cm u ub n=false:=by unfold cm;rw[c1,c2];rfl
    rw[e] at k;exact aS (k H2 d)
   |true=>
    obtain⟨l1,w1⟩:=zQ.mp c1;obtain⟨l2,w2⟩:=zQ.mp c2;obtain⟨t1,t2,t3⟩:=j7 l2 w2 j;refine aI ⟨_,rfl,_,rfl,M,ms,ub,rfl,SqL.of (d _ _ I),N.same d,t1,fun D H3 ds Y hD g Z _ _=>?_⟩;have l:=d.trans Y;refine⟨L,D,rs,u,ds,turn ub,rfl,l _ _ G,g,J.same l,Z,O,by rw[De,t3];(first|lia|omega),fun c hc=>⟨by rw[xB c hc];exact S,fun r hr x hx y hy=>g_ (su r hr x hx) (FO sub c hc y hy)⟩,fun E1 H4 es s4 hE mv re _ _=>?_⟩;have cI:=l.trans s4;refine⟨_,rfl,n,rfl,ω,fun U1 H5 us i hU k_ ru _ _=>?_⟩;refine⟨bP (mulT u ub),bP (unT n),fy (SqL.of (i _ _ mv)) (re.same i),fy (SqL.of k_) ru,zU _,zU _,pu _ _,?_⟩;have e:cm u ub n=decide (mulT u ub=unT n):=by unfold cm;rw[c1,c2];rfl
    rw[e,<-mh] at k;exact k H5 (cI.trans i)
end
def SmL(tb:Ξ):Prop:=∀r∈tb,∀x∈r,x.natAbs<low
def SmL.big{tb:Ξ}(h:SmL tb):mn tb:=fun r hr x hx=>I_ (h r hr x hx)
def Sm9(tb:Ξ):Prop:=∀r∈tb,∀x∈r,x.natAbs<=2 ^ 900
def Sm9.low{tb:Ξ}(h:Sm9 tb):SmL tb:=fun r hr x hx=>I0 (h r hr x hx) ξ
def JJ:∀{r c:List Int}{a b:Nat},(∀x∈r,x.natAbs<=a)->(∀y∈c,y.natAbs<=b)->(dot r c).natAbs<=c.length*(a*b)
 |[],c,a,b,_,_=>by unfold dot;exact Aw _
 |_::_,[],a,b,_,_=>by unfold dot;exact Aw _
 |x::r,y::c,a,b,h1,h2=>by
  have d:=JJ (r:=r) (c:=c) (fun z hz=>h1 z (.tail _ hz)) fun z hz=>h2 z (.tail _ hz);have e:dot (x::r) (y::c)=x*y+dot r c:=by unfold dot;rw[List.zipWith_cons_cons,List.sum_cons]
  have f:(x*y).natAbs<=a*b:=by rw[AI];exact AO (h1 x (.head _)) (h2 y (.head _))
  have g:=Int.natAbs_add_le (x*y) (dot r c);rw[e,AN,Nat.add_mul];(first|lia|omega)
def JK{r c:List Int}(h1:∀x∈r,x.natAbs<low)(h2:∀y∈c,y.natAbs<=2 ^ 900)(hc:c.length<=40):(dot r c).natAbs<big:=by
 have h:=JJ (r:=r) (c:=c) (a:=2 ^ (bt-1000)) (b:=2 ^ 900) (fun x hx=>Nat.le_of_lt (h1 x hx)) h2;have e:c.length*(2 ^ (bt-1000)*2 ^ 900)<=2 ^ (6+(bt-1000+900)):=Tb.zx (Ag hc ξ) (Tb.zx (Ad _) (Ad _));unfold big;refine AD (Ag h e) (Nat.pow_lt_pow_right ξ ?_);have:=oA;(first|lia|omega)
noncomputable def dP(tb u ub v vb:Ξ)(st:List Int):Bool:=cm u ub tb.length&&cm v vb (wid tb)&&cn st (if(wid tb:Int)<(tb.length:Int) then(wid tb:Int) else(tb.length:Int))&&decide (mulT (mulT u tb) v=slpT st tb.length (wid tb))
def OB{st:List Int}{m:Int}(h:cn st m=true):(st.length:Int)<=m:=by
 unfold cn at h;rw[AZ,AZ] at h;have:=h.1.1;simp at this;(first|lia|omega)
def JL{u ub:Ξ}{n:Nat}(h:cm u ub n=true):u.length=n/\(∀r∈u,r.length=n)/\ub.length=n/\∀r∈ub,r.length=n:=by
 unfold cm at h;rw[AZ,AZ] at h;obtain⟨a,b⟩:=zQ.mp h.1.1;obtain⟨c,d⟩:=zQ.mp h.1.2;exact⟨a,b,c,d⟩
def j'{tb:Ξ}(h:Sm9 tb):Sm9 (turn tb):=fun r hr x hx=>by
 unfold turn at hr;obtain⟨j,_,rfl⟩:=List.mem_map.mp hr;unfold colAt at hx;obtain⟨q,hq,rfl⟩:=List.mem_map.mp hx;rw[Ac];cases e:q[j]? with
 |none=>exact Aw _
 |some y=>exact h q hq y (Ak e)
section
variable{P:Program}{w:World}{K:Af}{mg:Str->Option Value}{base:Heap}
def JM(K:Af):Sp:=fun vs H Q _=>∃(L p a1 a2 a3 a4 a5:Addr)(rs d1 d2 d3 d4:List Addr)(tb u ub v vb:Ξ)(st:List Int),vs=[.ref L,.ref p]/\H L=some (.lst (rs.map V.ref))/\Rws H rs tb/\cu tb=true/\H p=some (.tup [.ref a1,.ref a2,.ref a3,.ref a4,.ref a5])/\
 H a1=some (.lst (d1.map V.ref))/\H a2=some (.lst (d2.map V.ref))/\H a3=some (.lst (d3.map V.ref))/\H a4=some (.lst (d4.map V.ref))/\H a5=some (.lst (st.map V.int))/\Rws H d1 u/\Rws H d2 ub/\Rws H d3 v/\Rws H d4 vb/\u.length<=1000/\ub.length<=1000/\v.length<=1000/\vb.length<=1000/\st.length<=1000/\
 Sm9 tb/\SmL u/\SmL ub/\SmL v/\SmL vb/\∀H',Same H H'->Q (.bl (dP tb u ub v vb st)) H'
def JN:zn ["table","paper","half"] ["table","paper"] (zg Db):=⟨rfl,rfl,rfl,δ,rfl,δ,δ⟩
def OC{f X Y Z fa fr fc fo:Addr}{fd cB dE aH dC aW aV bX:FuncData}(F:Fun K "is_stepped" "is_stepped" Db f fd)(bl:mg "len"=none)(gI:mg "min"=none)(Fm:Fun K "must_be_table" "must_be_table" sF X cB)(bm:Binds K cB ["table"] [])(mm:mg "must_be_table"=some (.ref X))(Gm:ai P w K mg base av 3 X cB ["table"] (FP K))(Fb:Fun K "is_back" "is_back" Dc Y dE)(bb:Binds K dE ["turn","back","size"] [])(mb:mg "is_back"=some (.ref Y))(Gb:ai P w K mg base av 4 Y dE ["turn","back","size"] (JI K))(Fw:Fun K "width_of" "width_of" jG Z aH)(bw:Binds K aH ["table"] [])(mw:mg "width_of"=some (.ref Z))(Gw:ai P w K mg base av 1 Z aH ["table"] (k7 K))(Fa:Fun K "are_steps" "are_steps" vG fa dC)(ba:Binds K dC ["steps","most"] [])(ma:mg "are_steps"=some (.ref fa))(Ga:ai P w K mg base av 1 fa dC ["steps","most"] Fq)(Fr:Fun K "rows_by" "rows_by" nE fr aW)(br:Binds K aW ["table","columns"] [])(mr:mg "rows_by"=some (.ref fr))(Gr:ai P w K mg base av 3 fr aW ["table","columns"] (Fn K))(Fc:Fun K "columns_of" "columns_of" k8 fc aV)(bc:Binds K aV ["table"] [])(mc:mg "columns_of"=some (.ref fc))(Gc:ai P w K mg base av 3 fc aV ["table"] (sR K))(Fo:Fun K "on_slope" "on_slope" oZ fo bX)(bo:Binds K bX ["numbers","size","width"] [])(mo:mg "on_slope"=some (.ref fo))(Go:ai P w K mg base av 2 fo bX ["numbers","size","width"] E'):ai P w K mg base av 5 f fd ["table","paper"] (JM K):=by
 refine F.ok JN (fun vs H Q E h=>?_) (fun ak A outer s H vs Q E hr h=>?_)
 ·obtain⟨L,p,a1,a2,a3,a4,a5,rs,d1,d2,d3,d4,tb,u,ub,v,vb,st,rfl,_⟩:=h;rfl
 ·obtain⟨L,p,a1,a2,a3,a4,a5,rs,d1,d2,d3,d4,tb,u,ub,v,vb,st,rfl,l,z,it,hp,h1,h2,h3,h4,h5,r1,r2,r3,r4,N,z2,z3,z4,z5,s9,O,sub,sv,S,k⟩:=h
  have a:Room 3 _:=hr.mono ξ;have T:Room 2 _:=hr.mono ξ;have d:Room 1 _:=hr.mono ξ;have aG:=hr.units;obtain⟨t1,t2,t3⟩:=k9 it;refine⟨_,zd (ie (zf Gm a rfl mm Fm.kp bm .nil ac (za (pv 0) zb)))
   (zd (b8 (dS (dR (zf Gb hr rfl mb Fb.kp bb .nil ac (za (zp zt (pv 1) ze (fun _ _=>rfl)) (za (zp zt (pv 1) ze (fun _ _=>rfl)) (za (zk zj rfl bl bR (za (pv 0) zb)) zb)))))) (zh (zo dk)) zF)
   (zd (b8 (dS (dR (zf Gb hr rfl mb Fb.kp bb .nil ac (za (zp zt (pv 1) ze (fun _ _=>rfl)) (za (zp zt (pv 1) ze (fun _ _=>rfl)) (za (zf Gw d rfl mw Fw.kp bw .nil ac (za (pv 0) zb)) zb)))))) (zh (zo dk)) zF)
   (zd (b8 (dS (dR (zf Ga d rfl ma Fa.kp ba .nil ac (za (zp zt (pv 1) ze (fun _ _=>rfl)) (za (zk (GA rfl) rfl gI JG (za (zk zj rfl bl bR (za (pv 0) zb)) (za (zf Gw d rfl mw Fw.kp bw .nil ac (za (pv 0) zb)) zb))) zb))))) (zh (zo dk)) zF)
   (zd (zr (i:=2) JN.nd rfl (Or.inl rfl) (zf Gr a rfl mr Fr.kp br .nil ac (za (zp zt (pv 1) ze (fun _ _=>rfl)) (za (zf Gc a rfl mc Fc.kp bc .nil ac (za (pv 0) zb)) zb))))
   (zh (zo (fX (Da aG) (zf Gr a rfl mr Fr.kp br .nil ac (za (pv 2) (za (zf Gc a rfl mc Fc.kp bc .nil ac (za (zp zt (pv 1) ze (fun _ _=>rfl)) zb)) zb))) (zf Go T rfl mo Fo.kp bo .nil ac (za (zp zt (pv 1) ze (fun _ _=>rfl)) (za (zk zj rfl bl bR (za (pv 0) zb)) (za (zf Gw d rfl mw Fw.kp bw .nil ac (za (pv 0) zb)) zb)))) (ar _)))))))),?_⟩
  have U:=z.len;refine⟨_,rfl,L,rs,tb,rfl,SqL.of l,z,it,fun H1 g=>?_⟩;refine⟨_,rfl,p,_,_,_,rfl,rfl,SqT.of (g _ _ hp),zi (j:=0) rfl,_,rfl,p,_,_,_,rfl,rfl,SqT.of (g _ _ hp),zi (j:=1) rfl,_,rfl,L,_,rfl,.inl (SqL.of (g _ _ l)),?_⟩;rw[Aa,U];refine⟨a1,a2,d1,d2,u,ub,tb.length,rfl,g _ _ h1,g _ _ h2,r1.same g,r2.same g,N,z2,t1,O.big,sub.big,fun H2 s2=>⟨_,rfl,?_⟩⟩;have b:=g.trans s2;cases c1:cm u ub tb.length with
  |false=>
   have e:dP tb u ub v vb st=false:=by unfold dP;rw[c1];rfl
   rw[e] at k;exact aS (k H2 b)
  |true=>
  refine aI ⟨_,rfl,p,_,_,_,rfl,rfl,SqT.of (b _ _ hp),zi (j:=2) rfl,_,rfl,p,_,_,_,rfl,rfl,SqT.of (b _ _ hp),zi (j:=3) rfl,_,rfl,L,rs,tb,rfl,SqL.of (b _ _ l),z.same b,?_⟩;refine⟨a3,a4,d3,d4,v,vb,wid tb,rfl,b _ _ h3,b _ _ h4,r3.same b,r4.same b,z3,z4,t2,sv.big,S.big,fun H3 s3=>⟨_,rfl,?_⟩⟩;have o:=b.trans s3;cases c2:cm v vb (wid tb) with
  |false=>
   have e:dP tb u ub v vb st=false:=by unfold dP;rw[c1,c2];rfl
   rw[e] at k;exact aS (k H3 o)
  |true=>
  refine aI ⟨_,rfl,p,_,_,_,rfl,rfl,SqT.of (o _ _ hp),zi (j:=4) rfl,_,rfl,L,_,rfl,.inl (SqL.of (o _ _ l)),_,rfl,L,rs,tb,rfl,SqL.of (o _ _ l),z.same o,_,_,rfl,?_⟩;rw[Aa,U];refine⟨a5,st,_,rfl,o _ _ h5,z5,fun H4 s4=>⟨_,rfl,?_⟩⟩;have G:=o.trans s4;generalize hm:(if(wid tb:Int)<(tb.length:Int) then(wid tb:Int) else(tb.length:Int))=mi;have BE:mi<=wid tb/\mi<=tb.length:=by rw[<-hm];split<;>(first|lia|omega)
  have ek:dP tb u ub v vb st=(cn st mi&&decide (mulT (mulT u tb) v=slpT st tb.length (wid tb))):=by unfold dP;rw[c1,c2,hm];rfl
  rw[ek] at k;have A_:(if((wid tb:Nat):Int)<((tb.length:Nat):Int) then((wid tb:Nat):Int) else((tb.length:Nat):Int))=mi:=hm;cases c3:cn st mi with
  |false=>
   rw[c3] at k;exact aS (k H4 G)
  |true=>
  rw[c3] at k;have lst:=OB c3;obtain⟨lu,wu,_,_⟩:=JL c1;obtain⟨lv,wv,_,_⟩:=JL c2;obtain⟨v1,v2,v3⟩:=j7 lv wv t2;refine aI ⟨_,rfl,p,_,_,_,rfl,rfl,SqT.of (G _ _ hp),zi (j:=0) rfl,_,rfl,L,rs,tb,rfl,SqL.of (G _ _ l),z.same G,it,fun D H5 ds s5 hD c7 rd _ _=>?_⟩;have W:=G.trans s5;refine⟨a1,D,d1,u,ds,turn tb,rfl,W _ _ h1,c7,r1.same W,rd,N,by rw[De];(first|lia|omega),fun c hc=>⟨by rw[xB c hc];(first|lia|omega),fun r hr x hx y hy=>g_ (O.big r hr x hx) (FO (s9.low.big) c hc y hy)⟩,fun E1 H6 es s6 hE iy re _ _=>?_⟩;have I:=W.trans s6;refine⟨_,rfl,_,rfl,p,_,_,_,rfl,rfl,SqT.of (I _ _ hp),zi (j:=2) rfl,a3,d3,v,rfl,SqL.of (I _ _ h3),r3.same I,v1,fun D2 H7 kj J cD lO wZ _ _=>?_⟩;have eD:=I.trans J;refine⟨E1,D2,es,mulT u tb,kj,turn v,rfl,J _ _ iy,lO,re.same J,wZ,by unfold mulT;rw[Aa];exact N,by rw[De,v3];(first|lia|omega),fun c hc=>⟨by rw[xB c hc];exact z3,fun r hr x hx y hy=>g_ ?_ (FO sv.big c hc y hy)⟩,fun E2 H8 gO s8 p8 rj gh _ _=>?_⟩
  ·unfold mulT at hr
   obtain⟨q,hq,rfl⟩:=List.mem_map.mp hr;obtain⟨cc,eZ,rfl⟩:=List.mem_map.mp hx;exact JK (O q hq) (j' s9 cc eZ) (by rw[xB cc eZ];exact t1)
  have C:=eD.trans s8;refine⟨_,rfl,p,_,_,_,rfl,rfl,SqT.of (C _ _ hp),zi (j:=4) rfl,_,rfl,L,_,rfl,.inl (SqL.of (C _ _ l)),_,rfl,L,rs,tb,rfl,SqL.of (C _ _ l),z.same C,?_⟩;rw[Aa,U];refine⟨a5,st,tb.length,wid tb,rfl,C _ _ h5,ω,ω,fun i _ hi=>ω,fun S1 H9 ss M hS wp vq _ _=>?_⟩;refine⟨bP (mulT (mulT u tb) v),bP (slpT st tb.length (wid tb)),fy (SqL.of (M _ _ rj)) (gh.same M),fy (SqL.of wp) vq,zU _,zU _,pu _ _,?_⟩;rw[Bool.true_and,<-mh] at k;exact k H9 (C.trans M)
end
noncomputable abbrev Dh:Stmt:=top 42
noncomputable abbrev jB:Stmt:=top 43
noncomputable abbrev my:Stmt:=top 44
structure fC(mg:Str->Option Value):Prop where
 len:mg "len"=none
 all:mg "all"=none
 zip:mg "zip"=none
 sum:mg "sum"=none
 range:mg "range"=none
 list:mg "list"=none
 int:mg "int"=none
 bool:mg "bool"=none
 isinstance:mg "isinstance"=none
 max:mg "max"=none
def JO(x y:Int):Prop:=0<=x/\(y=0\/(y=1/\x<4294967296))
def zV(H:Hp)(p:Addr):Prop:=∃x y,H p=some (.lst [.int x,.int y])/\JO x y
def zah(p:Addr)(H H':Hp):Prop:=∀b o,b≠p->H b=some o->H' b=some o
def zah.trans{p:Addr}{H H1 H2:Hp}(a:zah p H H1)(b:zah p H1 H2):zah p H H2:=fun c o hc e=>b c o hc (a c o hc e)
def zah.of{p:Addr}{H H1:Hp}(a:Same H H1):zah p H H1:=fun c o _ e=>a c o e
def zah.free{p:Addr}{H H':Hp}(e:zah p H H')(hb:zV H p)(b:zV H' p){l:Addr}(h:H' l=none):H l=none:=by
 cases q:H l with
 |none=>rfl
 |some o=>
  obtain⟨x,y,e1,_⟩:=b;have a:l≠p:=fun z=>by rw[z,e1] at h;cases h
  rw[e l o a q] at h;cases h
def zV.same{H H':Hp}{p:Addr}(b:zV H p)(e:Same H H'):zV H' p:=let ⟨x,y,h,o⟩:=b;⟨x,y,e _ _ h,o⟩
def zV.ne{H:Hp}{p l:Addr}{c:List Addr}(b:zV H p)(h:H l=some (.lst (c.map V.ref))):l≠p:=by
 obtain⟨x,y,e,_⟩:=b;refine Dx h e fun z=>?_;injection z with z
 cases c with
 |nil=>cases z
 |cons a r=>rw[A6] at z;cases z
def zV.net{H:Hp}{p t:Addr}{xs:List V}(b:zV H p)(h:H t=some (.tup xs)):t≠p:=by
 obtain⟨x,y,e,_⟩:=b;exact Dx h e (by intro z;cases z)
def zah.tp{p:Addr}{H H':Hp}{a:Addr}{ps:List Int}(e:zah p H H')(b:zV H p)(h:Tp H a ps):Tp H' a ps:=e _ _ (b.net h) h
def zah.then{p:Addr}{H H1:Hp}{a:Addr}{o:HO}(e:zah p H H1)(h:H a=none):zah p H (L2.upd H1 a o):=fun b u hb q=>by rw[af (zm q h)];exact e b u hb q
noncomputable def zV.upd{H:Hp}{p l:Addr}{o:HO}(b:zV H p)(h:l≠p):zV (L2.upd H l o) p:=let ⟨x,y,e,k⟩:=b;⟨x,y,by rw[af h.symm];exact e,k⟩
def zV.new{H:Hp}{p l:Addr}{o:HO}(b:zV H p)(h:H l=none):zV (L2.upd H l o) p:=b.same (Same.new h)
section
variable{P:Program}{w:World}{K:Af}{mg:Str->Option Value}{base:Heap}
def JP(K:Af):Sp:=fun vs H Q _=>∃(l:Addr)(ns:List Int)(j:Nat),vs=[.ref l,.int j]/\SqL K H l (ns.map V.int)/\∀n,Q (.int n) H
def OD:zn ["script","k"] ["script","k"] (zg Dh):=⟨rfl,rfl,rfl,δ,rfl,δ,δ⟩
def OE{f:Addr}{fd:FuncData}(F:Fun K "_law_cell_at" "_law_cell_at" Dh f fd)(B:fC mg):ai P w K mg base av 1 f fd ["script","k"] (JP K):=by
 refine F.ok OD (fun vs H Q E h=>?_) (fun c A outer s H vs Q E hr h=>?_)
 ·obtain⟨l,ns,j,rfl,_⟩:=h;rfl
 ·obtain⟨l,ns,j,rfl,a,k⟩:=h
  refine⟨_,zd (b8 (zv qX (pv 1) (zk zj rfl B.len bR (za (pv 0) zb)) (ar _)) (zh (zo (zp zq (pv 0) (pv 1) (fun _ _=>rfl)))) zF) (zh (zo ze)),?_⟩;refine⟨_,rfl,_,rfl,l,_,rfl,.inl a,_,_,rfl,rfl,_,rfl,?_⟩;refine dY (fun h1=>?_) (fun h1=>?_)
  ·have b:j<ns.length:=by have:=of_decide_eq_true h1;simp at this;(first|lia|omega)
   exact⟨_,rfl,_,rfl,l,_,_,_,rfl,rfl,a,zi (j:=j) (v:=.int ns[j]) (by rw[Aj,Ab b];rfl),k _⟩
  ·exact k 0
def JQ:Sp:=fun vs H Q _=>∃n,vs=[.int n]/\∀p x y,H p=none->JO x y->Q (.ref p) (upd H p (.lst [.int x,.int y]))
def OF:zn ["cell"] ["cell"] (zg jB):=⟨rfl,rfl,rfl,δ,rfl,δ,δ⟩
def OG{f:Addr}{fd:FuncData}(F:Fun K "_law_box" "_law_box" jB f fd):ai P w K mg base av 1 f fd ["cell"] JQ:=by
 refine F.ok OF (fun vs H Q E h=>?_) (fun b A outer s H vs Q E hr h=>?_)
 ·obtain⟨n,rfl,_⟩:=h;rfl
 ·obtain⟨n,rfl,k⟩:=h
  refine⟨_,zd (b8 (zv KL (pv 0) (zC DK ze ze) (ar _)) (zh (zo (eX (za (zC eU (pv 0) (zC DK ze ze)) (za ze zb))))) zF)
   (zh (zo (eX (za (zC jE (zC fT (zC kE (zC jE (pv 0) (zC DK ze ze)) ze) ze) ze) (za ze zb))))),?_⟩
  have hc:qG 10 18:=⟨ξ,ξ,ξ⟩;have a:(10:Int) ^ (18:Int).toNat=1000000000000000000:=ξ
  refine⟨_,rfl,_,_,rfl,rfl,hc,_,_,rfl,rfl,_,rfl,?_⟩;refine dY (fun h1=>?_) (fun h1=>?_)
  ·refine⟨_,rfl,_,_,rfl,rfl,hc,_,_,rfl,rfl,zA (by simp),fun p hp=>k p _ 0 hp ⟨?_,.inl rfl⟩⟩
   have:=of_decide_eq_true h1
   lia
  ·refine⟨_,rfl,_,_,rfl,rfl,hc,_,_,rfl,rfl,(by show(0:Int)<10 ^ (18:Int).toNat;rw[a];decide),_,_,rfl,rfl,.inr ⟨ξ,ξ⟩,_,_,rfl,rfl,_,_,rfl,rfl,(by show(0:Int)<2147483629;decide),zA (by simp),fun p hp=>k p _ 1 hp ⟨?_,.inr ⟨rfl,?_⟩⟩⟩
   ·exact Int.emod_nonneg _ ξ
   ·have:=Int.emod_lt_of_pos (n%10 ^ (18:Int).toNat*69621+7001) (show(0:Int)<2147483629 from ξ)
    lia
def pB:Sp:=fun vs H Q _=>∃p m,vs=[.ref p,.int m]/\zV H p/\0<m/\m<1073741824/\∀r H',0<=r->r<m->zah p H H'->zV H' p->Q (.int r) H'
def FT:zn ["box","most","found","mixed"] ["box","most"] (zg my):=⟨rfl,rfl,rfl,δ,rfl,δ,δ⟩
def Di{f:Addr}{fd:FuncData}(F:Fun K "_law_take" "_law_take" my f fd):ai P w K mg base av 1 f fd ["box","most"] pB:=by
 refine F.ok FT (fun vs H Q E h=>?_) (fun J A outer s H vs Q E hr h=>?_)
 ·obtain⟨p,m,rfl,_⟩:=h;rfl
 ·obtain⟨p,m,rfl,⟨x,y,hp,d,g⟩,a,D,k⟩:=h
  refine⟨_,zd (b8 (zv fV (zp zq (pv 0) ze (fun _ _=>rfl)) ze (ar _))
    (zd (zr (i:=2) FT.nd rfl (Or.inl rfl) (zC jE (zp zq (pv 0) ze (fun _ _=>rfl)) (pv 1)))
    (zd (gM (zC DJ (zp zq (pv 0) ze (fun _ _=>rfl)) (pv 1)) (il (pv 0) ze set_list))
    (zh (zo (pv 2))))) zF)
   (zd (zr (i:=3) FT.nd rfl (Or.inl rfl) (zC jE (zC fT (zC fT (zC kE (zp zq (pv 0) ze (fun _ _=>rfl)) (zp zq (pv 0) ze (fun _ _=>rfl))) (zC kE ze (zp zq (pv 0) ze (fun _ _=>rfl)))) ze) ze))
   (zd (gM (zC jE (zC fT (zC fT (zC kE (pv 3) (pv 3)) (zC kE ze (pv 3))) ze) ze) (il (pv 0) ze set_list))
   (zh (zo (zC jE (zC DJ (zp zq (pv 0) ze (fun _ _=>rfl)) ze) (pv 1)))))),?_⟩
  have c:atI ([.int x,.int y]:List V) 0=some (.int x):=zi (j:=0) rfl;have a1:atI ([.int x,.int y]:List V) 1=some (.int y):=zi (j:=1) rfl;refine⟨_,rfl,p,_,_,_,rfl,rfl,SqL.of hp,a1,rfl,_,rfl,?_⟩;refine dY (fun h1=>?_) (fun h1=>?_)
  ·refine⟨_,rfl,p,_,_,_,rfl,rfl,SqL.of hp,c,_,rfl,_,_,rfl,rfl,a,?_⟩
   refine⟨_,rfl,p,_,_,_,rfl,rfl,SqL.of hp,c,_,rfl,_,_,rfl,rfl,⟨a,D⟩,_,rfl,p,_,_,0,rfl,rfl,hp,rfl,?_⟩;refine⟨_,rfl,k (x%m) _ (Int.emod_nonneg _ (by lia)) (Int.emod_lt_of_pos _ a) (fun b o hb e=>by rw[af hb];exact e) ⟨x / m,y,zc,Int.ediv_nonneg d (by lia),?_⟩⟩;rcases g with q|⟨q,hx⟩
   ·exact .inl q
   ·refine .inr ⟨q,Int.lt_of_le_of_lt (Int.ediv_le_self _ d) hx⟩
  ·have hy:y=1/\x<4294967296:=by
    rcases g with q|q
    ·exact absurd (by subst q;rfl) h1
    ·exact q
   obtain⟨rfl,hx⟩:=hy;have hb:CMul x x:=.inl ⟨by lia,by lia⟩;refine⟨_,rfl,p,_,_,_,rfl,rfl,SqL.of hp,c,_,rfl,p,_,_,_,rfl,rfl,SqL.of hp,c,_,_,rfl,rfl,hb,_,rfl,p,_,_,_,rfl,rfl,SqL.of hp,c,_,_,rfl,rfl,.inl ⟨ξ,ξ⟩,_,_,rfl,rfl,_,_,rfl,rfl,_,_,rfl,rfl,(by show(0:Int)<2147483647;decide),?_⟩;have G:=Int.emod_nonneg (x*x+39373*x+12345) (show(2147483647:Int)≠0 from ξ);have I:=Int.emod_lt_of_pos (x*x+39373*x+12345) (show(0:Int)<2147483647 from ξ);obtain⟨z,l⟩:∃z,z=(x*x+39373*x+12345)%2147483647:=⟨_,rfl⟩;rw[<-l] at G I;show qc _ _ _ ([some (.ref p),some (.int m),none,some (.int ((x*x+39373*x+12345)%2147483647))]:St) H;rw[<-l];refine⟨_,rfl,_,rfl,_,_,rfl,rfl,.inl ⟨by lia,by lia⟩,_,rfl,_,_,rfl,rfl,.inl ⟨ξ,ξ⟩,_,_,rfl,rfl,_,_,rfl,rfl,_,_,rfl,rfl,(by show(0:Int)<2147483587;decide),_,rfl,p,_,_,0,rfl,rfl,hp,rfl,?_⟩;have v:=Int.emod_nonneg (z*z+16807*z+7) (show(2147483587:Int)≠0 from ξ);have g1:=Int.emod_lt_of_pos (z*z+16807*z+7) (show(0:Int)<2147483587 from ξ);obtain⟨u,r⟩:∃u,u=(z*z+16807*z+7)%2147483587:=⟨_,rfl⟩;rw[<-r] at v g1;have C:upd H p (.lst [.int ((z*z+16807*z+7)%2147483587),.int 1]) p=some (.lst [.int u,.int 1]):=by rw[r];exact zc
   refine⟨_,rfl,p,_,_,_,rfl,rfl,SqL.of C,zi (j:=0) rfl,_,_,rfl,rfl,⟨ξ,ξ⟩,_,rfl,_,_,rfl,rfl,a,?_⟩;exact k _ _ (Int.emod_nonneg _ (by lia)) (Int.emod_lt_of_pos _ a) (fun b o hb e=>by rw[af hb];exact e) ⟨u,1,C,v,.inr ⟨rfl,by lia⟩⟩
end
noncomputable abbrev hO:Stmt:=top 45
noncomputable abbrev jC:Stmt:=top 46
section
variable{P:Program}{w:World}{K:Af}{mg:Str->Option Value}{base:Heap}
def Bnd(m:Int)(ns:List Int):Prop:=∀n∈ns,-m<=n/\n<=m
def FU:Sp:=fun vs H Q _=>∃(p:Addr)(c:Nat)(a:Int),vs=[.ref p,.int c,.int a]/\zV H p/\c<=1000/\0<a/\a<1073741824/\∀D H' ns,zah p H H'->zV H' p->H D=none->H' D=some (.lst (ns.map V.int))->ns.length=c->Bnd a ns->Q (.ref D) H'
def OH:zn ["box","columns","wide"] ["box","columns","wide"] (zg hO):=⟨rfl,rfl,rfl,δ,rfl,δ,δ⟩
def JR{f G:Addr}{fd I:FuncData}(F:Fun K "_law_row" "_law_row" hO f fd)(B:fC mg)(Ft:Fun K "_law_take" "_law_take" my G I)(bt:Binds K I ["box","most"] [])(mt:mg "_law_take"=some (.ref G)):ai P w K mg base av 2 f fd ["box","columns","wide"] FU:=by
 have U:ai P w K mg base av 1 G I ["box","most"] pB:=Di Ft;refine F.ok OH (fun vs H Q E h=>?_) (fun W A outer s H vs Q E hr h=>?_)
 ·obtain⟨p,c,d,rfl,_⟩:=h;rfl
 ·obtain⟨p,c,d,rfl,hb,hc,O,S,k⟩:=h
  refine⟨_,zh (zo (zu ["box","columns","wide"] ["place","box","wide"] [none,some 0,some 2] (zK rfl B.range (za (pv 1) zb)) (fun J C s₀ H₀ ex=>zl (i:=0) (bA ["place","box","wide"]) rfl (Or.inl rfl)) (fun J C s₀ H₀ ex=>zy)
   (fun J C s₀ H₀ ex=>zC eU (zf U hr rfl mt Ft.kp bt .nil ac (za (pv 1) (za (pv 2) zb))) (zC DJ (pv 2) ze)) (te:=bL (fO fun i j=>.int (i-j)) (e8 pB [] E0 (zX (au 1) (zX (au 2) bB))) (bL (rI qB fun i j=>.int (i / j)) (au 2) (tC (.int 2)))) (hfr:=bx (zg hO) δ))),?_⟩
  refine⟨_,rfl,_,rfl,ω,ω,fun D l=>?_⟩;have M:D≠p:=fun z=>by obtain⟨x,y,e,_⟩:=hb;rw[<-z,l] at e;cases e
  refine zw (nn (fun j σ ys g=>∃(v:Option V)(ns:List Int),σ=[v,some (.ref p),some (.int d)]/\zah p H g/\zV g p/\g D=some (.lst ys)/\ys=ns.map V.int/\ns.length=j/\Bnd d ns) ?_ ?_ ?_)
  ·exact⟨none,[],rfl,.of (Same.new l),hb.new l,zc,rfl,rfl,fun n o=>by cases o⟩
  ·rintro j σ ys g T hy ⟨v,ns,rfl,q,a,b,rfl,u,bd⟩
   refine ci ?_;refine⟨_,rfl,_,rfl,p,d,rfl,a,O,S,fun r Z X Y L N=>⟨_,rfl,_,_,rfl,rfl,⟨ξ,ξ⟩,_,_,rfl,rfl,?_⟩⟩;refine bI (zA ω) T hy (L _ _ M b) ⟨_,ns++[r-d / 2],rfl,(q.trans L).then l,N.upd M,zc,by simp,by simp[u],fun n o=>?_⟩;rcases List.mem_append.mp o with h|h
   ·exact bd n h
   ·obtain rfl:n=r-d / 2:=by simpa using h
    (first|lia|omega)
  ·rintro σ ys g ⟨v,ns,rfl,q,a,b,rfl,u,bd⟩
   exact k D g ns q a l b u bd
end
def Rws.sameB{p:Addr}{H H':Hp}{ds:List Addr}{tb:Ξ}(h:Rws H ds tb)(s:zah p H H'):(∀d∈ds,d≠p)->Rws H' ds tb:=by
 induction h with
 |nil=>intro _;exact .nil
 |cons r t ih=>intro n;exact .cons (s _ _ (n _ (Ar)) r) (ih fun d hd=>n d (Ax _ hd))
def Rws.set{H:Hp}{ds:List Addr}{tb:Ξ}{d:Addr}{ns:List Int}(h:Rws H ds tb)(e:H d=some (.lst (ns.map V.int))):∀i:Nat,Rws H (ds.set i d) (tb.set i ns):=by
 induction h with
 |nil=>intro i;exact .nil
 |cons r t ih=>
  intro i;cases i with
  |zero=>exact .cons e t
  |succ i=>exact .cons r (ih i)
section
variable{P:Program}{w:World}{K:Af}{mg:Str->Option Value}{base:Heap}
def OI{p D:Addr}{H2:Hp}{n:Nat}{Q:VK}{Pr:List Int->Prop}{te:TE}{c:List (Option V)}(hb:zV H2 p)(J:∀(j:Nat)(H:Hp)(R:VK),zah p H2 H->zV H p->(∀d H' ns,zah p H H'->zV H' p->H d=none->H' d=some (.lst (ns.map V.int))->Pr ns->R (.ref d) H')->te (some (.int j)::c) H R)(hz:n<=1000)(q:H2 D=none)(k:∀a ds tb,zah p H2 a->zV a p->a D=some (.lst (ds.map V.ref))->Rws a ds tb->tb.length=n->(∀r∈tb,Pr r)->(∀d∈ds,H2 d=none/\d≠D)->Q (.ref D) a):cf (fM 0 n) (zL 0) bC te (none::c) H2 D Q:=by
 have l:∀d,H2 d=none->d≠p:=fun d e z=>by obtain⟨x,y,e',_⟩:=hb;rw[<-z,e] at e';cases e'
 have A:=l D q;refine nn (fun j σ ys a=>∃(v:Option V)(ds:List Addr)(tb:Ξ),σ=v::c/\zah p H2 a/\zV a p/\a D=some (.lst ys)/\ys=ds.map V.ref/\Rws a ds tb/\tb.length=j/\(∀r∈tb,Pr r)/\∀d∈ds,H2 d=none/\d≠D) ?_ ?_ ?_
 ·exact⟨none,[],[],rfl,.of (Same.new q),hb.new q,zc,rfl,.nil,rfl,(fun d hd=>by cases hd),fun d hd=>by cases hd⟩
 ·rintro j σ ys a G hy ⟨v,ds,tb,rfl,i,b,f,rfl,hr,u,hp,o⟩
  refine ci ?_;rw[show(0:Int)+((j:Nat):Int)=((j:Nat):Int) from ω];refine J j a _ i b fun d L ns s C hd E pr=>?_;have I:H2 d=none:=i.free hb b hd;have w:d≠D:=fun z=>by rw[z,f] at hd;cases hd
  have all:∀e∈ds++[d],H2 e=none/\e≠D:=fun e g=>by
   rcases List.mem_append.mp g with h|h
   ·exact o e h
   ·obtain rfl:e=d:=by simpa using h
    exact⟨I,w⟩
  refine bI (zA ω) G hy (s _ _ A f) ⟨_,ds++[d],tb++[ns],rfl,(i.trans s).then q,C.upd A,zc,by simp,?_,by simp[u],fun r F=>?_,all⟩
  ·exact((hr.sameB s fun e g=>l e (o e g).1).snoc E).upd fun e g=>(all e g).2
  ·rcases List.mem_append.mp F with h|h
   ·exact hp r h
   ·obtain rfl:r=ns:=by simpa using h
    exact pr
 ·rintro σ ys a ⟨v,ds,tb,rfl,i,b,f,rfl,hr,u,hp,o⟩
  exact k a ds tb i b f hr u hp o
abbrev mB:TE:=bL (rI CMul fun i j=>.int (i*j)) (au 1) (au 0)
def JS{R D:Addr}{H2:Hp}{ns:List Int}{o:Int}{Q:VK}(e:-(2 ^ 64)<o/\o<2 ^ 64)(f:H2 R=some (.lst (ns.map V.int)))(hz:ns.length<=1000)(c:H2 D=none)(k:∀a,Same H2 a->a D=some (.lst ((ns.map (o*·)).map V.int))->Q (.ref D) a):cf (eP K R) (zL 0) bC mB [none,some (.int o)] H2 D Q:=by
 refine jF (xs:=ns.map V.int) (fun j σ ys a=>∃(v:Option V),σ=[v,some (.int o)]/\Same H2 a/\a D=some (.lst ys)/\ys=((ns.take j).map (o*·)).map V.int) ?_ ?_ ?_ ?_
 ·exact⟨none,rfl,Same.new c,zc,rfl⟩
 ·rintro j σ ys a ⟨v,rfl,sm,_⟩
  exact SqL.of (sm _ _ f)
 ·rintro j σ ys a x hx d hy ⟨v,rfl,sm,b,rfl⟩
  obtain⟨q,g,rfl⟩:=gz hx;refine ci ?_;refine⟨_,rfl,_,rfl,_,_,rfl,rfl,.inl e,bI (by rw[Aa];exact zA ω) d hy b ⟨_,rfl,sm.then c,zc,?_⟩⟩;rw[Bb g,Ao,Ao]
  rfl
 ·rintro σ ys a ⟨v,rfl,sm,b,rfl⟩
  rw[Aa,Aq (Ad _)] at b;exact k a sm b
end
def TabB(H0:Hp)(p F:Addr)(c n:Nat)(m:Int)(H':Hp):Prop:=∃ds tb,zah p H0 H'/\zV H' p/\H' F=some (.lst (ds.map V.ref))/\Rws H' ds tb/\tb.length=n/\(∀r∈tb,r.length=c/\Bnd m r)/\(∀d∈ds,H0 d=none/\d≠F)/\H0 F=none
def iK{H:Hp}{p d:Addr}(hb:zV H p)(e:H d=none):d≠p:=fun z=>by obtain⟨x,y,e',_⟩:=hb;rw[<-z,e] at e';cases e'
def TabB.draw{H0 H' a:Hp}{p F:Addr}{c n:Nat}{m:Int}(hb:zV H0 p)(h:TabB H0 p F c n m H')(s:zah p H' a)(b:zV a p):TabB H0 p F c n m a:=by
 obtain⟨ds,tb,g,_,i,hr,j,hp,e,f⟩:=h;exact⟨ds,tb,g.trans s,b,s _ _ (iK hb f) i,hr.sameB s fun d hd=>iK hb (e d hd).1,j,hp,e,f⟩
def Bnd.mono{m a:Int}{ns:List Int}(h:Bnd m ns)(c:m<=a):Bnd a ns:=fun n b=>by have:=h n b;(first|lia|omega)
def Bnd.times{m k o:Int}{ns:List Int}(h:Bnd m ns)(d:0<=m)(h1:-k<=o)(h2:o<=k):Bnd (k*m) (ns.map (o*·)):=fun n c=>by
 obtain⟨q,hq,rfl⟩:=List.mem_map.mp c;obtain⟨e,f⟩:=h q hq;have hk:0<=k:=ω
 have e1:o.natAbs<=k.natAbs:=ω
 have e2:q.natAbs<=m.natAbs:=ω
 have e3:(o*q).natAbs<=(k*m).natAbs:=by rw[AI,AI];exact AO e1 e2
 have g:0<=k*m:=Int.mul_nonneg hk d;show -(k*m)<=o*q/\o*q<=k*m;generalize o*q=a at *;generalize k*m=b at *;(first|lia|omega)
noncomputable def TabB.put{H0 H' q:Hp}{p F D:Addr}{c n:Nat}{m g:Int}{ds:List Addr}{tb:Ξ}{i:Nat}{ns:List Int}(hb:zV H0 p)(s:zah p H0 H')(u:zV H' p)(A:H' F=some (.lst (ds.map V.ref)))(hr:Rws H' ds tb)(C:tb.length=n)(hp:∀r∈tb,r.length=c/\Bnd m r)(E:∀d∈ds,H0 d=none/\d≠F)(j:H0 F=none)(l:H' D=none)(sm:Same H' q)(e:q D=some (.lst (ns.map V.int)))(G:ns.length=c)(H:Bnd g ns)(I:m<=g):TabB H0 p F c n g (L2.upd q F (.lst ((ds.map V.ref).set i (.ref D)))):=by
 have x:=iK hb j;have y:D≠F:=fun z=>by rw[z,A] at l;cases l
 have f:H0 D=none:=s.free hb u l;have mem:∀d∈ds.set i D,H0 d=none/\d≠F:=fun d hd=>by
  rcases List.mem_or_eq_of_mem_set hd with h|h
  ·exact E d h
  ·rw[h];exact⟨f,y⟩
 refine⟨ds.set i D,tb.set i ns,fun b o v a=>?_,(u.same sm).upd x,?_,((hr.same sm).set e i).upd fun d hd=>(mem d hd).2,by simp[C],fun r w=>?_,mem,j⟩
 ·rw[af (fun z=>by rw[z,j] at a;cases a)]
  exact sm _ _ (s b o v a)
 ·rw[zc,List.map_set]
 ·rcases List.mem_or_eq_of_mem_set w with h|h
  ·exact⟨(hp r h).1,(hp r h).2.mono I⟩
  ·rw[h];exact⟨G,H⟩
def xD{n:Nat}{k:Int}(a:0<=k)(h1:k<n):gt n k=some k.toNat:=by unfold gt;rw[if_pos a,if_pos h1]
def JT{a:Type}{xs:List a}{k:Int}{v:a}(b:0<=k)(h1:k<xs.length)(e:xs[k.toNat]?=some v):atI xs k=some v:=by unfold atI;rw[xD b h1];exact e
section
variable{P:Program}{w:World}{K:Af}{mg:Str->Option Value}{base:Heap}
def JU:Sp:=fun vs H Q _=>∃(p:Addr)(q:Nat),vs=[.ref p,.int q]/\q<=6/\zV H p/\∀F H' c n,c<=q->n<=q->TabB H p F c n 1000 H'->Q (.ref F) H'
def iM:zn ["box","most","rows","columns","wide","found","one","other","often"] ["box","most"] (zg jC):=⟨rfl,rfl,rfl,δ,rfl,δ,δ⟩
def OJ{f ft fr:Addr}{fd bF aW:FuncData}(F:Fun K "_law_table" "_law_table" jC f fd)(B:fC mg)(Ft:Fun K "_law_take" "_law_take" my ft bF)(bt:Binds K bF ["box","most"] [])(mt:mg "_law_take"=some (.ref ft))(Fr:Fun K "_law_row" "_law_row" hO fr aW)(br:Binds K aW ["box","columns","wide"] [])(mr:mg "_law_row"=some (.ref fr)):ai P w K mg base av 3 f fd ["box","most"] JU:=by
 have z:ai P w K mg base av 1 ft bF ["box","most"] pB:=Di Ft;have Gr:ai P w K mg base av 2 fr aW ["box","columns","wide"] FU:=JR Fr B Ft bt mt;refine F.ok iM (fun vs H Q E h=>?_) (fun ak A outer s H vs Q E hr h=>?_)
 ·obtain⟨p,q,rfl,_⟩:=h;rfl
 ·obtain⟨p,q,rfl,B8,hb,k⟩:=h
  have a:Room 1 _:=hr.mono ξ;have nA:∃tt,PSs (dU av P w K mg base ["box","most","rows","columns","wide","found","one","other","often"] "_law_table" (zg jC) f ak A outer s H E).nox (List.drop 5 (za7 jC)) tt/\∀(e:Addr)(n c:Nat)(x4 v6 v7 v8:Option V)(H':Hp),n<=q->c<=q->TabB H p e c n 122 H'->
    tt {nx:=fun _ H'=>Q .non H',rt:=Q} [some (.ref p),some (.int q),some (.int n),some (.int c),x4,some (.ref e),v6,v7,v8] H':=by
   refine⟨_,(zd (b8 (PW.pt (A' (zv gR (pv 2) ze (ar _)) (zT (zv fV (zf z a rfl mt Ft.kp bt .nil ac (za (pv 0) (za ze zb))) ze (ar _)))))
    (zd (zr (i:=6) iM.nd rfl (Or.inl rfl) (zf z a rfl mt Ft.kp bt .nil ac (za (pv 0) (za (pv 2) zb))))
    (zd (zr (i:=8) iM.nd rfl (Or.inr rfl) (zC fT ze (zf z a rfl mt Ft.kp bt .nil ac (za (pv 0) (za ze zb)))))
    (zh (gM (zu ["box","most","rows","columns","wide","found","one","other","often"] ["number","often"] [none,some 8] (zJ (zp zq (pv 5) (pv 6) (fun _ _=>rfl))) (fun I C s₀ H₀ ex=>zl (i:=0) (bA ["number","often"]) rfl (Or.inl rfl)) (fun I C s₀ H₀ ex=>zy)
     (fun I C s₀ H₀ ex=>zC kE (pv 1) (pv 0)) (te:=mB) (hfr:=bx (zg jC) δ)) (il (pv 5) (pv 6) set_list))))) zF)
    (zh (zo (pv 5)))),?_⟩
   intro e n c x4 v6 v7 v8 H' hn hc T;have bj:zV H' p:=by obtain⟨_,_,_,b,_⟩:=T;exact b
   refine⟨_,rfl,_,_,rfl,rfl,_,rfl,?_⟩
   by_cases c1:0<n
   ·rw[decide_eq_true (show(0:Int)<(n:Int) from ω)]
    refine aS ⟨_,rfl,p,_,rfl,bj,ξ,ξ,fun u H1 u0 u1 fG Y=>⟨rfl,_,rfl,?_⟩⟩;have T1:=T.draw hb fG Y;refine dY (fun _=>?_) (fun _=>?_)
    ·refine⟨_,rfl,_,rfl,p,_,rfl,Y,ω,ω,fun i H2 Z i1 gK S=>?_⟩
     refine⟨_,rfl,p,_,rfl,S,ξ,ξ,fun o H3 o0 o1 fJ l=>⟨_,_,rfl,rfl,?_⟩⟩;obtain⟨ds,tb,L,M,y,x,G,hp,g,N⟩:=(T1.draw hb gK S).draw hb fJ l;have fj:=x.len;have hi:i.toNat<ds.length:=ω
     obtain⟨ns,en,X⟩:=x.get (Ab hi);have O:=Ak en;refine⟨_,rfl,_,rfl,e,_,_,_,rfl,rfl,SqL.of y,JT (v:=.ref ds[i.toNat]) Z (by rw[Aa];(first|lia|omega)) (by rw[Aj,Ab hi];rfl),_,rfl,⟨_,SqL.of X⟩,fun D U=>?_⟩;refine zw (JS (o:=1+o) ⟨ω,ω⟩ X (by rw[(hp ns O).1];(first|lia|omega)) U fun H4 aA aX=>?_);refine⟨_,rfl,_,rfl,e,_,_,i.toNat,rfl,rfl,aA _ _ y,xD Z (by rw[Aa];(first|lia|omega)),?_⟩;refine⟨_,rfl,k e _ c n hc hn ?_⟩;exact TabB.put hb L M y x G hp g N U aA aX (by rw[Aa];exact(hp ns O).1) (((hp ns O).2.times (k:=6) ω ω ω).mono ω) ω
    ·obtain⟨ds,tb,L,M,y,x,G,hp,g,N⟩:=T1
     exact⟨_,rfl,k e _ c n hc hn ⟨ds,tb,L,M,y,x,G,fun r J=>⟨(hp r J).1,(hp r J).2.mono ω⟩,g,N⟩⟩
   ·rw[decide_eq_false (show ¬(0:Int)<(n:Int) from ω)]
    refine aI (aI ?_);obtain⟨ds,tb,L,M,y,x,G,hp,g,N⟩:=T;exact⟨_,rfl,k e _ c n hc hn ⟨ds,tb,L,M,y,x,G,fun r J=>⟨(hp r J).1,(hp r J).2.mono ω⟩,g,N⟩⟩
  obtain⟨tt,ht,kt⟩:=nA;refine⟨_,zd (zr (i:=2) iM.nd rfl (Or.inl rfl) (zf z a rfl mt Ft.kp bt .nil ac (za (pv 0) (za (zC fT (pv 1) ze) zb))))
   (zd (zr (i:=3) iM.nd rfl (Or.inr rfl) (zf z a rfl mt Ft.kp bt .nil ac (za (pv 0) (za (zC fT (pv 1) ze) zb))))
   (zd (zr (i:=4) iM.nd rfl (Or.inr rfl) (zp zq (eX (za ze (za ze (za ze (za ze zb))))) (zf z a rfl mt Ft.kp bt .nil ac (za (pv 0) (za ze zb))) (fun _ _=>rfl)))
   (zd (k4 (i:=5) iM.nd rfl (Or.inl rfl) ["box","most","rows","columns","wide","found","one","other","often"] ["row","box","columns","wide"] [none,some 0,some 3,some 4] (zK rfl B.range (za (pv 2) zb)) (fun I C s₀ H₀ ex=>zl (i:=0) (bA ["row","box","columns","wide"]) rfl (Or.inl rfl)) (fun I C s₀ H₀ ex=>zy)
    (fun I C s₀ H₀ ex=>zf Gr hr rfl mr Fr.kp br .nil ac (za (pv 1) (za (pv 2) (za (pv 3) zb)))) (te:=e8 FU [] E0 (zX (au 1) (zX (au 2) (zX (au 3) bB)))) (hfr:=bx (zg jC) δ))
   (zd (b8 (PW.pt (A' (zv gR (pv 2) ze (ar _)) (zT (zv fV (zf z a rfl mt Ft.kp bt .nil ac (za (pv 0) (za ze zb))) ze (ar _)))))
    (zd (zr (i:=6) iM.nd rfl (Or.inl rfl) (zf z a rfl mt Ft.kp bt .nil ac (za (pv 0) (za (pv 2) zb))))
    (zd (zr (i:=7) iM.nd rfl (Or.inl rfl) (zf z a rfl mt Ft.kp bt .nil ac (za (pv 0) (za (pv 2) zb))))
    (zd (zr (i:=8) iM.nd rfl (Or.inr rfl) (zC eU (zf z a rfl mt Ft.kp bt .nil ac (za (pv 0) (za ze zb))) ze))
    (zh (gM (zu ["box","most","rows","columns","wide","found","one","other","often"] ["number","often"] [none,some 8] (zJ (zp zq (pv 5) (pv 7) (fun _ _=>rfl))) (fun I C s₀ H₀ ex=>zl (i:=0) (bA ["number","often"]) rfl (Or.inl rfl)) (fun I C s₀ H₀ ex=>zy)
     (fun I C s₀ H₀ ex=>zC kE (pv 1) (pv 0)) (te:=mB) (hfr:=bx (zg jC) δ)) (il (pv 5) (pv 6) set_list)))))) zF)
   ht)))),?_⟩
  refine⟨_,rfl,_,rfl,_,_,rfl,rfl,p,_,rfl,hb,ω,ω,fun n H1 n0 n1 fG Y=>?_⟩;refine⟨_,rfl,_,rfl,_,_,rfl,rfl,p,_,rfl,Y,ω,ω,fun c H2 c0 c1 gK S=>?_⟩;refine⟨ξ,fun q hq=>⟨_,rfl,p,_,rfl,S.new hq,ξ,ξ,fun v H3 v0 v1 fJ l=>?_⟩⟩;obtain⟨n,rfl⟩:∃m:Nat,n=(m:Int):=⟨n.toNat,ω⟩;obtain⟨c,rfl⟩:∃m:Nat,c=(m:Int):=⟨c.toNat,ω⟩;obtain⟨W,ew,w0,w1⟩:∃W:Int,atI [V.int 3,.int 5,.int 13,.int 61] v=some (.int W)/\0<W/\W<=61:=by
   have:v=0\/v=1\/v=2\/v=3:=ω
   rcases this with rfl|rfl|rfl|rfl
   ·exact⟨3,rfl,ξ,ξ⟩
   ·exact⟨5,rfl,ξ,ξ⟩
   ·exact⟨13,rfl,ξ,ξ⟩
   ·exact⟨61,rfl,ξ,ξ⟩
  refine⟨q,_,_,_,rfl,rfl,SqL.of (fJ _ _ (iK S hq) zc),ew,?_⟩;have S3:zah p H H3:=((fG.trans gK).trans (.of (Same.new hq))).trans fJ;refine⟨_,rfl,_,rfl,ω,ω,fun e y=>?_⟩;refine zw (OI (p:=p) (n:=n) (Pr:=fun ns=>ns.length=c/\Bnd 61 ns) l (fun j H' R L bj hR=>⟨_,rfl,_,rfl,_,rfl,p,c,W,rfl,bj,ω,w0,ω,fun d H4 ns cR cQ hd e4 G bd=>hR d H4 ns cR cQ hd e4 ⟨G,bd.mono w1⟩⟩) ω y fun H4 ds tb cR cQ gY cr ja jc gF=>?_);have T4:TabB H p e c n 61 H4:=⟨ds,tb,S3.trans cR,cQ,gY,cr,ja,jc,fun d hd=>⟨S3.free hb l (gF d hd).1,(gF d hd).2⟩,S3.free hb l y⟩;have up:∀H',TabB H p e c n 61 H'->TabB H p e c n 122 H':=fun H' ⟨ds,tb,a1,a2,a3,a4,a5,a6,a7,a8⟩=>⟨ds,tb,a1,a2,a3,a4,a5,fun r J=>⟨(a6 r J).1,(a6 r J).2.mono ω⟩,a7,a8⟩;refine⟨_,rfl,_,_,rfl,rfl,_,rfl,?_⟩
  by_cases c1':1<n
  ·rw[decide_eq_true (show(1:Int)<(n:Int) from ω)]
   refine aS ⟨_,rfl,p,_,rfl,cQ,ξ,ξ,fun u H5 u0 u1 jQ iV=>⟨rfl,_,rfl,?_⟩⟩;have T5:=T4.draw hb jQ iV;refine dY (fun _=>?_) (fun _=>?_)
   ·refine⟨_,rfl,_,rfl,p,_,rfl,iV,ω,ω,fun i H6 Z i1 kr jz=>?_⟩
    refine⟨_,rfl,_,rfl,p,_,rfl,jz,ω,ω,fun o H7 o0 o1 mz jh=>?_⟩;refine⟨_,rfl,p,_,rfl,jh,ξ,ξ,fun t H8 t0 t1 tH uE=>⟨_,_,rfl,rfl,?_⟩⟩;obtain⟨ds,tb,L,M,nB,x,G,hp,g,N⟩:=((T5.draw hb kr jz).draw hb mz jh).draw hb tH uE;have fj:=x.len;have hi:o.toNat<ds.length:=ω
    obtain⟨ns,en,X⟩:=x.get (Ab hi);have O:=Ak en;refine⟨_,rfl,_,rfl,e,_,_,_,rfl,rfl,SqL.of nB,JT (v:=.ref ds[o.toNat]) o0 (by rw[Aa];(first|lia|omega)) (by rw[Aj,Ab hi];rfl),_,rfl,⟨_,SqL.of X⟩,fun D U=>?_⟩;refine zw (JS (o:=t-2) ⟨ω,ω⟩ X (by rw[(hp ns O).1];(first|lia|omega)) U fun H9 pb x8=>?_);refine⟨_,rfl,_,rfl,e,_,_,i.toNat,rfl,rfl,pb _ _ nB,xD Z (by rw[Aa];(first|lia|omega)),?_⟩;exact kt e n c _ _ _ _ _ ω ω (TabB.put hb L M nB x G hp g N U pb x8 (by rw[Aa];exact(hp ns O).1) (((hp ns O).2.times (k:=2) ω ω ω).mono ω) ω)
   ·exact kt e n c _ _ _ _ _ ω ω (up _ T5)
  ·rw[decide_eq_false (show ¬(1:Int)<(n:Int) from ω)]
   exact aI (aI (kt e n c _ _ _ _ _ ω ω (up _ T4)))
end
noncomputable abbrev xI:Stmt:=top 47
noncomputable abbrev xU:Stmt:=top 51
noncomputable abbrev x3:Stmt:=top 52
noncomputable abbrev Dl:Stmt:=top 53
def JV:A5 "int"=some (.type "int"):=δ
def OK:A5 "bool"=some (.type "bool"):=δ
def Dm:A5 "list"=some (.type "list"):=δ
section
variable{P:Program}{w:World}{K:Af}{mg:Str->Option Value}{base:Heap}
def FV(K:Af):Sp:=fun vs H Q _=>∃L rs tb,vs=[.ref L]/\SqL K H L (rs.map V.ref)/\Rws H rs tb/\∀H',Same H H'->Q (.int (wid tb)) H'
def OL:zn ["table"] ["table"] (zg xI):=⟨rfl,rfl,rfl,δ,rfl,δ,δ⟩
def JW{f:Addr}{fd:FuncData}(F:Fun K "_law_wide" "_law_wide" xI f fd)(B:fC mg):ai P w K mg base av 1 f fd ["table"] (FV K):=by
 refine F.ok OL (fun vs H Q E h=>?_) (fun o A outer s H vs Q E hr h=>?_)
 ·obtain⟨L,rs,tb,rfl,_⟩:=h;rfl
 ·obtain⟨L,rs,tb,rfl,c,b,k⟩:=h
  have i:=hr.units;refine⟨_,zh (zo (qb (zv (ph i) (pv 0) (eX zb) (ar _)) (zk zj rfl B.len bR (za (zp zq (pv 0) ze (fun _ _=>rfl)) zb)) ze)),?_⟩;refine⟨_,rfl,ξ,fun p hp=>?_⟩;have sm:Same H (upd H p (.lst [])):=Same.new hp;refine⟨bP tb,bP [],fy (sm.seq c) (b.same sm),fy (rs:=[]) (SqL.of zc) .nil,zU _,zU _,pu _ _,_,rfl,?_⟩;rw[if_pos rfl,mh];have l:=b.len;cases tb with
  |nil=>
   rw[show(!decide (([]:Ξ)=[]))=false from rfl];exact aI (k _ sm)
  |cons r t=>
   rw[show(!decide ((r::t:Ξ)=[]))=true from by simp];cases rs with
   |nil=>cases l
   |cons a as=>
    obtain⟨ns,e,g⟩:=b.get (j:=0) rfl;refine aS ⟨_,rfl,L,_,_,_,rfl,rfl,sm.seq c,zi (j:=0) rfl,a,_,rfl,.inl (SqL.of (sm _ _ g)),?_⟩;have:wid (r::t)=ns.length:=by unfold wid;rw[e];rfl
    have d:=k _ sm;rw[this] at d;rw[Aa];exact d
end
def x9:A5 "isinstance"=some (.builtin "isinstance"):=δ
def JX{a:Type}(l:List a):(l.map fun _=>true).all id=true:=by rw[List.all_map,AY];exact fun _ _=>rfl
section
variable{P:Program}{w:World}{K:Af}{mg:Str->Option Value}{base:Heap}
def FW:Sp:=fun vs H Q _=>∃n:Int,vs=[.int n]/\Q (.bl true) H
def OM:zn ["found"] ["found"] (zg xU):=⟨rfl,rfl,rfl,δ,rfl,δ,δ⟩
def ON{f:Addr}{fd:FuncData}(F:Fun K "_law_whole" "_law_whole" xU f fd)(B:fC mg):ai P w K mg base av 1 f fd ["found"] FW:=by
 refine F.ok OM (fun vs H Q E h=>?_) (fun a A outer s H vs Q E hr h=>?_)
 ·obtain⟨n,rfl,_⟩:=h;rfl
 ·obtain⟨n,rfl,k⟩:=h
  refine⟨_,zh (zo (kd (zk LQ rfl B.isinstance x9 (za (pv 0) (za (p6 (v:=.ty "int") rfl B.int JV rfl) zb))) (kc (Kv (zk LR rfl B.isinstance x9 (za (pv 0) (za (p6 (v:=.ty "bool") rfl B.bool OK rfl) zb))))))),?_⟩;exact⟨_,rfl,n,rfl,_,rfl,aS ⟨_,rfl,n,rfl,_,rfl,k⟩⟩
def OO{H2:Hp}{l D:Addr}{ns:List Int}{Q:VK}{te:TE}(f:∀(n:Int)(H:Hp)(R:VK),R (.bl true) H->te [some (.int n)] H R)(g:H2 l=some (.lst (ns.map V.int)))(hz:ns.length<=1000)(c:H2 D=none)(k:∀a,Same H2 a->a D=some (.lst ((ns.map fun _=>true).map V.bl))->Q (.ref D) a):cf (eP K l) (zL 0) bC te [none] H2 D Q:=by
 refine jF (xs:=ns.map V.int) (fun j σ ys a=>∃v:Option V,σ=[v]/\Same H2 a/\a D=some (.lst ys)/\ys=((ns.map fun _=>true).take j).map V.bl) ?_ ?_ ?_ ?_
 ·exact⟨none,rfl,Same.new c,zc,rfl⟩
 ·rintro j σ ys a ⟨v,rfl,sm,_⟩
  exact SqL.of (sm _ _ g)
 ·rintro j σ ys a x hx d hy ⟨v,rfl,sm,b,rfl⟩
  obtain⟨q,eq,rfl⟩:=gz hx;have e:(ns.map fun _=>true)[j]?=some true:=by rw[Aj,eq];rfl
  refine ci ?_;exact f q a _ (bI (by rw[Aa];exact zA ω) d hy b ⟨_,rfl,sm.then c,zc,by rw[Bb e,Ao];rfl⟩)
 ·rintro σ ys a ⟨v,rfl,sm,b,rfl⟩
  rw[Aq (by simp)] at b;exact k a sm b
def Dn:Sp:=fun vs H Q _=>∃l ns,vs=[.ref l]/\H l=some (.lst (List.map V.int ns))/\ns.length<=1000/\∀H',Same H H'->Q (.bl true) H'
def OP:zn ["found"] ["found"] (zg x3):=⟨rfl,rfl,rfl,δ,rfl,δ,δ⟩
def JY{f d:Addr}{fd e:FuncData}(F:Fun K "_law_row_like" "_law_row_like" x3 f fd)(B:fC mg)(Fw:Fun K "_law_whole" "_law_whole" xU d e)(o:Binds K e ["found"] [])(p:mg "_law_whole"=some (.ref d)):ai P w K mg base av 2 f fd ["found"] Dn:=by
 have r:ai P w K mg base av 1 d e ["found"] FW:=ON Fw B;refine F.ok OP (fun vs H Q E h=>?_) (fun u A outer s H vs Q E hr h=>?_)
 ·obtain⟨l,ns,rfl,_⟩:=h;rfl
 ·obtain⟨l,ns,rfl,c,hz,k⟩:=h
  refine⟨_,zh (zo (kd (zk G6 rfl B.isinstance x9 (za (pv 0) (za (p6 (v:=.ty "list") rfl B.list Dm rfl) zb))) (kc (zk (iZ rfl) rfl B.all i5 (za
   (zu ["found"] ["number"] [none] (zJ (pv 0)) (fun g C s₀ H₀ ex=>zl (i:=0) (bA ["number"]) rfl (Or.inl rfl)) (fun g C s₀ H₀ ex=>zy) (fun g C s₀ H₀ ex=>zf r hr rfl p Fw.kp o .nil ac (za (pv 0) zb)) (te:=e8 FW [] E0 (zX (au 0) bB)) (hfr:=bM δ)) zb))))),?_⟩
  refine⟨_,rfl,l,_,rfl,c,_,rfl,aS ⟨_,rfl,l,rfl,⟨_,SqL.of c⟩,fun D j=>?_⟩⟩;refine zw (OO (fun n H R h=>⟨_,rfl,n,rfl,h⟩) c hz j fun q a b=>⟨D,_,rfl,SqL.of b,?_⟩);rw[JX];exact k q a
def FX:Sp:=fun vs H Q _=>∃L rs tb,vs=[.ref L]/\H L=some (.lst (rs.map V.ref))/\Rws H rs tb/\tb.length<=1000/\(∀r∈tb,r.length<=1000)/\∀H',Same H H'->Q (.bl true) H'
def OQ:zn ["found"] ["found"] (zg Dl):=⟨rfl,rfl,rfl,δ,rfl,δ,δ⟩
def OR{f fr j:Addr}{fd d l:FuncData}(F:Fun K "_law_table_like" "_law_table_like" Dl f fd)(B:fC mg)(Fr:Fun K "_law_row_like" "_law_row_like" x3 fr d)(G:Binds K d ["found"] [])(I:mg "_law_row_like"=some (.ref fr))(T:Fun K "_law_whole" "_law_whole" xU j l)(J:Binds K l ["found"] [])(M:mg "_law_whole"=some (.ref j)):ai P w K mg base av 3 f fd ["found"] FX:=by
 have S:ai P w K mg base av 2 fr d ["found"] Dn:=JY Fr B T J M;refine F.ok OQ (fun vs H Q E h=>?_) (fun U A outer s H vs Q E hr h=>?_)
 ·obtain⟨L,rs,tb,rfl,_⟩:=h;rfl
 ·obtain⟨L,rs,tb,rfl,c,y,hz,z,k⟩:=h
  refine⟨_,zh (zo (kd (zk G6 rfl B.isinstance x9 (za (pv 0) (za (p6 (v:=.ty "list") rfl B.list Dm rfl) zb))) (kc (zk (iZ rfl) rfl B.all i5 (za
   (zu ["found"] ["row"] [none] (zJ (pv 0)) (fun e C s₀ H₀ ex=>zl (i:=0) (bA ["row"]) rfl (Or.inl rfl)) (fun e C s₀ H₀ ex=>zy) (fun e C s₀ H₀ ex=>zf S hr rfl I Fr.kp G .nil ac (za (pv 0) zb)) (te:=e8 Dn [] E0 (zX (au 0) bB)) (hfr:=bM δ)) zb))))),?_⟩
  refine⟨_,rfl,L,_,rfl,c,_,rfl,aS ⟨_,rfl,L,rfl,⟨_,SqL.of c⟩,fun D p=>?_⟩⟩;refine zw (nD (mkV:=V.bl) (g:=fun _=>true) (fun o os H' R sm q r u=>⟨_,rfl,o,os,rfl,q,z os r,fun N x=>u N x⟩) (SqL.of c) y hz p fun O a b=>⟨D,_,rfl,SqL.of b,?_⟩);rw[JX];exact k O a
end
noncomputable abbrev pG:Stmt:=top 48
def yl{n:Nat}(h:n<=100000):n<sizeLine:=by rw[sizeLine_eq];(first|lia|omega)
noncomputable def eN(r:List Int)(ub:Ξ)(j:Nat):List Int:=(Ah r.length).map fun k=>r.getD k 0*(ub.getD k []).getD j 0
def OS{r:List Int}{ub:Ξ}{j:Nat}(h:r.length=ub.length):(eN r ub j).sum=dot r (colAt ub j):=by
 unfold dot
 congr 1
 unfold eN colAt;refine AT (by simp[h]) fun i h1 h2=>?_;have hi:i<r.length:=by simpa using h1
 have a:i<ub.length:=ω
 simp[Ac,Ab hi,Ab a]
abbrev JZ(K:Af):TE:=bL (rI dM fun i j=>.int (i*j)) (bL (dJ K) (au 1) (au 0)) (bL (dJ K) (bL (dJ K) (au 2) (au 0)) (au 3))
section
variable{P:Program}{w:World}{K:Af}{mg:Str->Option Value}{base:Heap}
def OT{H2:Hp}{R M D:Addr}{rn:List Int}{ms:List Addr}{ub:Ξ}{j:Nat}{Q:VK}(p:H2 R=some (.lst (rn.map V.int)))(q:H2 M=some (.lst (ms.map V.ref)))(g:Rws H2 ms ub)(z:rn.length=ub.length)(r:∀u∈ub,j<u.length)(s:∀x∈rn,∀u∈ub,∀y∈u,dM x y)(hz:rn.length<=1000)(h:H2 D=none)(k:∀b,Same H2 b->b D=some (.lst ((eN rn ub j).map V.int))->Q (.ref D) b):cf (fM 0 rn.length) (zL 0) bC (JZ K) [none,some (.ref R),some (.ref M),some (.int j)] H2 D Q:=by
 have w:=g.len;refine nn (fun i σ ys b=>∃(v:Option V),σ=[v,some (.ref R),some (.ref M),some (.int j)]/\Same H2 b/\b D=some (.lst ys)/\ys=((eN rn ub j).take i).map V.int) ?_ ?_ ?_
 ·exact⟨none,rfl,Same.new h,zc,rfl⟩
 ·rintro i σ ys b hi hy ⟨v,rfl,sm,a,rfl⟩
  have c:i<ms.length:=ω
  have o:i<ub.length:=ω
  obtain⟨u,d,l⟩:=g.get (Ab c);have f:=r u (Ak d);have e:(eN rn ub j)[i]?=some (rn[i]*u[j]):=by
   unfold eN;rw[Aj,AL hi];simp[Ac,Ab hi,d,Ab f]
  refine ci ?_;rw[show(0:Int)+((i:Nat):Int)=((i:Nat):Int) from ω];refine⟨_,rfl,_,rfl,R,_,_,_,rfl,rfl,SqL.of (sm _ _ p),zi (j:=i) (v:=V.int rn[i]) (by rw[Aj,Ab hi];rfl),?_⟩;refine⟨_,rfl,_,rfl,M,_,_,_,rfl,rfl,SqL.of (sm _ _ q),zi (j:=i) (v:=V.ref ms[i]) (by rw[Aj,Ab c];rfl),?_⟩;refine⟨_,rfl,ms[i],_,_,_,rfl,rfl,SqL.of (sm _ _ l),zi (j:=j) (v:=V.int u[j]) (by rw[Aj,Ab f];rfl),_,_,rfl,rfl,s _ (Az hi) _ (Ak d) _ (Az f),?_⟩;refine bI (zA ω) hi hy a ⟨_,rfl,sm.then h,zc,?_⟩;rw[Bb e,Ao]
  rfl
 ·rintro σ ys b ⟨v,rfl,sm,a,rfl⟩
  rw[Aq (by unfold eN;simp)] at a;exact k b sm a
def FY(K:Af):Sp:=fun vs H Q _=>∃L M rs ms tb ub,vs=[.ref L,.ref M]/\H L=some (.lst (rs.map V.ref))/\H M=some (.lst (ms.map V.ref))/\Rws H rs tb/\Rws H ms ub/\cu tb=true/\cu ub=true/\wid tb=ub.length/\(∀r∈tb,∀x∈r,∀q∈ub,∀y∈q,dM x y)/\
 ∀F H' ds,Same H H'->H F=none->H' F=some (.lst (ds.map V.ref))->Rws H' ds (mulT tb ub)->Q (.ref F) H'
def yu:zn ["one","other","found","row","line","place"] ["one","other"] (zg pG):=⟨rfl,rfl,rfl,δ,rfl,δ,δ⟩
def OU{f fw:Addr}{fd aH:FuncData}(F:Fun K "_law_product" "_law_product" pG f fd)(B:fC mg)(Fw:Fun K "_law_wide" "_law_wide" xI fw aH)(bw:Binds K aH ["table"] [])(mw:mg "_law_wide"=some (.ref fw)):ai P w K mg base av 2 f fd ["one","other"] (FY K):=by
 have Gw:ai P w K mg base av 1 fw aH ["table"] (FV K):=JW Fw B;refine F.ok yu (fun vs H Q E h=>?_) (fun ak A outer s H vs Q E hr h=>?_)
 ·obtain⟨L,M,rs,ms,tb,ub,rfl,_⟩:=h;rfl
 ·obtain⟨L,M,rs,ms,tb,ub,rfl,X,hM,ht,hu,c1,c2,c3,zs,k⟩:=h
  obtain⟨t1,t2,t3⟩:=k9 c1;obtain⟨u1,u2,u3⟩:=k9 c2;refine⟨_,zd (zr (i:=2) yu.nd rfl (Or.inl rfl) (eX zb))
   (zd (eC AX rfl (zJ (pv 0)) (zl (i:=3) yu.nd rfl (Or.inr rfl))
    (zd (zr (i:=4) yu.nd rfl (Or.inl rfl) (eX zb))
    (zd (eC AX rfl (zK rfl B.range (za (zf Gw hr rfl mw Fw.kp bw .nil ac (za (pv 1) zb)) zb)) (zl (i:=5) yu.nd rfl (Or.inr rfl))
     (zh (ie (m_ PySem.F.plainAttrs_list PySem.F.slot_list_append PySem.F.type_list_append kM (pv 4) (za (zk (G8 rfl) rfl B.sum IH (za
      (zu ["one","other","found","row","line","place"] ["k","row","other","place"] [none,some 3,some 1,some 5] (zK rfl B.range (za (zk zj rfl B.len bR (za (pv 3) zb)) zb)) (fun cl C s₀ H₀ ex=>zl (i:=0) (bA ["k","row","other","place"]) rfl (Or.inl rfl)) (fun cl C s₀ H₀ ex=>zy)
       (fun cl C s₀ H₀ ex=>zC n7 (zp zq (pv 1) (pv 0) (fun _ _=>rfl)) (zp zq (zp zq (pv 2) (pv 0) (fun _ _=>rfl)) (pv 3) (fun _ _=>rfl))) (te:=JZ K) (hfr:=bx (zg pG) δ)) zb)) zb)))))
    (zh (ie (m_ PySem.F.plainAttrs_list PySem.F.slot_list_append PySem.F.type_list_append kM (pv 2) (za (pv 4) zb)))))))
   (zh (zo (pv 2)))),?_⟩
  refine⟨ξ,fun l G=>?_⟩;have tE:L≠l:=zm X G;refine⟨_,rfl,L,rfl,⟨_,SqL.of (by rw[af tE];exact X)⟩,qo (K:=K) (a:=L) (xs:=rs.map V.ref) (fun i σ H2=>∃(U W p:Option V)(ds:List Addr),σ=[some (.ref L),some (.ref M),some (.ref l),U,W,p]/\Same H H2/\H2 l=some (.lst (ds.map V.ref))/\Rws H2 ds ((tb.take i).map fun r=>(turn ub).map (dot r))/\∀d∈ds,d≠l)
   ⟨none,none,none,[],rfl,Same.new G,zc,.nil,fun d hd=>by cases hd⟩ (fun i σ H2 _ ⟨_,_,_,_,_,sm,_⟩=>SqL.of (sm _ _ X)) ?_ ?_⟩
  ·rintro i x σ H2 hx ⟨U,W,p,ds,rfl,N,O,b,fA⟩
   obtain⟨a,ea,rfl⟩:=i6 hx;obtain⟨rn,Y,ha⟩:=ht.get ea;have Z:=Ak Y;refine⟨ξ,fun c I=>?_⟩;have ko:l≠c:=zm O I;have ik:H c=none:=N.free I;have s3:Same H (upd H2 c (.lst [])):=N.then ik;refine⟨_,rfl,M,ms,ub,rfl,s3.seq (SqL.of hM),hu.same s3,fun H3 o=>⟨_,rfl,ω,ω,kn (lo:=0) (n:=wid ub) (fun j σ v=>∃p:Option V,σ=[some (.ref L),some (.ref M),some (.ref l),some (.ref a),some (.ref c),p]/\Same H v/\v l=some (.lst (ds.map V.ref))/\Rws v ds ((tb.take i).map fun r=>(turn ub).map (dot r))/\v c=some (.lst ((((Ah (wid ub)).take j).map fun j=>dot rn (colAt ub j)).map V.int)))
    ⟨_,rfl,s3.trans o,o _ _ (by rw[af ko];exact O),(b.upd fun d hd z=>b.there d hd (z▸I)).same o,o _ _ zc⟩ ?_ ?_⟩⟩
   ·rintro j σ v hj ⟨p,rfl,q,S,T,y⟩
    rw[show(0:Int)+((j:Nat):Int)=((j:Nat):Int) from ω];refine⟨_,rfl,.inl ⟨rfl,_,SqL.of y⟩,_,rfl,a,_,rfl,.inl (SqL.of (q _ _ ha)),_,rfl,ω,by rw[Aa,t3 rn Z];(first|lia|omega),fun D hD=>?_⟩;rw[Aa];have qu:rn.length=ub.length:=by rw[t3 rn Z,c3]
    refine zw (OT (q _ _ ha) (q _ _ hM) (hu.same q) qu (fun u iO=>by rw[u3 u iO];exact hj) (zs rn Z) ω hD fun H5 J c7=>⟨D,_,rfl,SqL.of c7,?_⟩);have kQ:=J _ _ y;have kR:∀d∈ds,d≠c:=fun d hd z=>b.there d hd (z▸I);refine⟨c,_,_,rfl,rfl,kQ,yl (by simp;(first|lia|omega)),⟨_,rfl,(q.trans J).then ik,by rw[af ko];exact J _ _ S,(T.same J).upd kR,?_⟩⟩;have e:(Ah (wid ub))[j]?=some j:=AL hj;rw[zc,Bb e,OS qu,Ao,Ao]
    rfl
   ·rintro σ v ⟨p,rfl,q,S,T,y⟩
    have fj:=T.len;have yx:i<tb.length:=(List.getElem?_eq_some_iff.mp Y).1;have wX:ds.length<=40:=by rw[fj,Aa,List.length_take];(first|lia|omega)
    have all:∀d∈ds++[c],d≠l:=fun d hd=>by
     rcases List.mem_append.mp hd with h|h
     ·exact fA d h
     ·obtain rfl:d=c:=by simpa using h
      exact ko.symm
    rw[Aq (by simp)] at y;have iR:v c=some (.lst (((turn ub).map (dot rn)).map V.int)):=by
     rw[y];unfold turn;rw[AS (f:=colAt ub) (g:=dot rn)]
     rfl
    refine⟨_,rfl,.inl ⟨rfl,_,SqL.of S⟩,_,rfl,l,_,_,rfl,rfl,S,yl (by rw[Aa];(first|lia|omega)),⟨_,_,_,ds++[c],rfl,q.then G,by rw[zc,Ao];rfl,?_,all⟩⟩;rw[Bb Y,Ao];exact(T.snoc iR).upd all
  ·rintro σ H2 ⟨U,W,p,ds,rfl,N,O,b,fA⟩
   rw[Aa,ht.len,Aq (Ad _)] at b;exact⟨_,rfl,k l H2 ds N G O b⟩
end
noncomputable abbrev yw:Stmt:=top 50
noncomputable abbrev yB:Stmt:=top 54
noncomputable abbrev Do:Stmt:=top 55
def FZ{a b:Ξ}{k w:Nat}(f:a.length=k)(g:b.length=k)(d:∀r∈a,r.length=w)(e:∀r∈b,r.length=w)(h:∀i j,i<k->j<w->fn a i j=fn b i j):a=b:=by
 apply AT ω;intro i h1 h2;have e1:=zG (Ab h1);have e2:=zG (Ab h2);refine FF (by rw[d _ (Az h1),e _ (Az h2)]) fun j c=>?_;rw[d _ (Az h1)] at c;have:=h i j ω c;unfold fn at this
 rwa [e1,e2] at this
def OV{n:Nat}:unT n=(Ah n).map fun i=>(Ah n).map fun j=>if i=j then(1:Int) else 0:=by
 refine FZ wW (by simp) jw (fun r hr=>by obtain⟨i,_,rfl⟩:=List.mem_map.mp hr;simp) fun i j hi a=>?_;rw[l6 hi];unfold fn;rw[pa hi,C7 a]
 rfl
noncomputable def fE(u ub:Ξ)(n:Nat):Bool:=zY u n&&zY ub n&&decide (mulT u ub=unT n)&&decide (mulT ub u=unT n)
section
variable{P:Program}{w:World}{K:Af}{mg:Str->Option Value}{base:Heap}
def J0{H2:Hp}{D:Addr}{n:Nat}{Q:VK}{g:Nat->Int}{te:TE}{c:List (Option V)}(h:∀(j:Nat)(H:Hp)(R:VK),R (.int (g j)) H->te (some (.int j)::c) H R)(hz:n<=1000)(f:H2 D=none)(k:∀a,Same H2 a->a D=some (.lst (((Ah n).map g).map V.int))->Q (.ref D) a):cf (fM 0 n) (zL 0) bC te (none::c) H2 D Q:=by
 refine nn (fun j σ ys a=>∃(v:Option V),σ=v::c/\Same H2 a/\a D=some (.lst ys)/\ys=(((Ah n).take j).map g).map V.int) ⟨none,rfl,Same.new f,zc,rfl⟩ ?_ ?_
 ·rintro j σ ys a d hy ⟨v,rfl,sm,b,rfl⟩
  have e:(Ah n)[j]?=some j:=AL d;refine ci ?_;rw[show(0:Int)+((j:Nat):Int)=((j:Nat):Int) from ω];refine h j a _ (bI (zA ω) d hy b ⟨_,rfl,sm.then f,zc,?_⟩);rw[Bb e,Ao,Ao]
  rfl
 ·rintro σ ys a ⟨v,rfl,sm,b,rfl⟩
  rw[Aq (by simp)] at b;exact k a sm b
abbrev J1:List V->Hp->VK->Prop:=fun xs H Q=>(∃i,xs=[.int i]/\Q (.int i) H)\/∃k,xs=[.bl k]/\Q (.int (if k then 1 else 0)) H
abbrev F0:TE:=gw (DG (zX (au 1) bB)) [none,some 0] (zL 0) bC (iY J1 (zX (bL qS (au 1) (au 0)) bB))
def J3:Sp:=fun vs H Q _=>∃n:Nat,vs=[.int n]/\n<=1000/\nS H Q (unT n)
def OW:zn ["size"] ["size"] (zg yw):=⟨rfl,rfl,rfl,δ,rfl,δ,δ⟩
def OX{f:Addr}{fd:FuncData}(F:Fun K "_law_even" "_law_even" yw f fd)(B:fC mg):ai P w K mg base av 1 f fd ["size"] J3:=by
 refine F.ok OW (fun vs H Q E h=>?_) (fun M A outer s H vs Q E hr h=>?_)
 ·obtain⟨n,rfl,_⟩:=h;rfl
 ·obtain⟨n,rfl,v,k⟩:=h
  refine⟨_,zh (zo (L' ["size"] ["row","size"] [none,some 0] (zK rfl B.range (za (pv 0) zb)) (fun b C s₀ H₀ ex=>zl (i:=0) (bA ["row","size"]) rfl (Or.inr rfl)) (fun b C s₀ H₀ ex=>zy)
   (fun b C s₀ H₀ ex=>zu ["row","size"] ["place","row"] [none,some 0] (zK rfl B.range (za (pv 1) zb)) (fun b C s₀ H₀ ex=>zl (i:=0) (bA ["place","row"]) rfl (Or.inl rfl)) (fun b C s₀ H₀ ex=>zy)
    (fun b C s₀ H₀ ex=>kH KM rfl B.int JV (za (fX fV (pv 1) (pv 0) (ar _)) zb)) (hfr:=Ma rfl δ) (te:=iY J1 (zX (bL qS (au 1) (au 0)) bB)))
   (hfr:=bx (zg yw) δ) (te:=F0))),?_⟩
  refine⟨_,rfl,_,rfl,ω,ω,fun D r=>?_⟩;refine zw (Cy (n:=n) (g:=fun i=>(Ah n).map fun j=>if i=j then(1:Int) else 0) (fun i H' R hi sm y=>?_) v r fun J ds l o p z q=>k D J ds l r o (by rw[OV];exact p) z q);refine⟨_,rfl,_,rfl,ω,ω,fun L u=>?_⟩;refine zw (J0 (n:=n) (g:=fun j=>if i=j then(1:Int) else 0) (fun j d x a=>?_) v u fun d G I=>y L d G u I);refine⟨_,rfl,_,rfl,rfl,.inr ⟨_,rfl,?_⟩⟩
  by_cases c:i=j
  ·rw[decide_eq_true (by rw[c]:V.int ((i:Nat):Int)=V.int ((j:Nat):Int))]
   have a:x (.int (if i=j then 1 else 0)) d:=a;rw[if_pos c] at a;exact a
  ·rw[decide_eq_false (fun e=>c (by injection e with e;(first|lia|omega)):¬V.int ((i:Nat):Int)=V.int ((j:Nat):Int))]
   have a:x (.int (if i=j then 1 else 0)) d:=a;rw[if_neg c] at a;exact a
def OY:zn ["table","size"] ["table","size"] (zg yB):=⟨rfl,rfl,rfl,δ,rfl,δ,δ⟩
def OZ{f:Addr}{fd:FuncData}(F:Fun K "_law_square" "_law_square" yB f fd)(bl:mg "len"=none)(x:mg "all"=none):ai P w K mg base av 1 f fd ["table","size"] (CV K):=by
 refine F.ok OY (fun vs H Q E h=>?_) (fun z A outer s H vs Q E hr h=>?_)
 ·obtain⟨L,rs,tb,n,rfl,_⟩:=h;rfl
 ·obtain⟨L,rs,tb,n,rfl,d,l,hz,k⟩:=h
  refine⟨_,zh (zo (kd (fX fV (zk zj rfl bl bR (za (pv 0) zb)) (pv 1) (ar _))
   (kc (zk (iZ rfl) rfl x i5 (za (zu ["table","size"] ["row","size"] [none,some 1] (zJ (pv 0)) (fun j C s₀ H₀ ex=>zl (i:=0) (bA ["row","size"]) rfl (Or.inl rfl)) (fun j C s₀ H₀ ex=>zy)
    (fun j C s₀ H₀ ex=>fX fV (zk zj rfl bl bR (za (pv 0) zb)) (pv 1) (ar _)) (te:=vv K) (hfr:=bx (zg yB) δ)) zb))))),?_⟩
  have v:=l.len;refine⟨_,rfl,L,_,rfl,.inl d,_,rfl,rfl,?_⟩;rw[Aa,v,show decide (V.int ((tb.length:Nat):Int)=V.int (n:Int))=decide (tb.length=n) from by rw[Bool.eq_iff_iff];simp;(first|lia|omega)];refine⟨_,rfl,?_⟩
  by_cases c:tb.length=n
  ·rw[decide_eq_true c]
   refine aS ⟨_,rfl,L,rfl,⟨_,d⟩,fun D p=>?_⟩;refine zw (nD (mkV:=V.bl) (g:=fun r=>decide (r.length=n)) (fun o os H' R sm q _ u=>?_) d l hz p fun y a b=>?_)
   ·refine⟨_,rfl,o,_,rfl,.inl (SqL.of q),_,rfl,rfl,?_⟩
    rw[Aa];have:=u H' (Same.refl H');rw[show decide (V.int (os.length:Int)=V.int (n:Int))=decide (os.length=n) from by rw[Bool.eq_iff_iff];simp;(first|lia|omega)];exact this
   ·refine⟨D,_,rfl,SqL.of b,?_⟩
    have e:zY tb n=(tb.map fun r=>decide (r.length=n)).all id:=by
     unfold zY;rw[decide_eq_true c,List.all_map];rfl
    rw[e] at k;exact k y a
  ·rw[decide_eq_false c]
   have e:zY tb n=false:=by unfold zY;rw[decide_eq_false c];rfl
   rw[e] at k;exact aI (k H (Same.refl H))
def O0:zn ["one","other","size"] ["one","other","size"] (zg Do):=⟨rfl,rfl,rfl,δ,rfl,δ,δ⟩
def J4(K:Af):Sp:=fun vs H Q _=>∃(L M:Addr)(rs ms:List Addr)(u ub:Ξ)(n:Nat),vs=[.ref L,.ref M,.int n]/\H L=some (.lst (rs.map V.ref))/\H M=some (.lst (ms.map V.ref))/\Rws H rs u/\Rws H ms ub/\u.length<=1000/\ub.length<=1000/\n<=40/\mn u/\mn ub/\∀H',Same H H'->Q (.bl (fE u ub n)) H'
def O1{f fs D G:Addr}{fd I J N:FuncData}(F:Fun K "_law_backs" "_law_backs" Do f fd)(Fs:Fun K "_law_square" "_law_square" yB fs I)(bs:Binds K I ["table","size"] [])(ms:mg "_law_square"=some (.ref fs))(Gs:ai P w K mg base av 1 fs I ["table","size"] (CV K))(Fp:Fun K "_law_product" "_law_product" pG D J)(Y:Binds K J ["one","other"] [])(Z:mg "_law_product"=some (.ref D))(Gp:ai P w K mg base av 2 D J ["one","other"] (FY K))(Fe:Fun K "_law_even" "_law_even" yw G N)(be:Binds K N ["size"] [])(me:mg "_law_even"=some (.ref G))(Ge:ai P w K mg base av 1 G N ["size"] J3):ai P w K mg base av 3 f fd ["one","other","size"] (J4 K):=by
 refine F.ok O0 (fun vs H Q E h=>?_) (fun ak A outer s H vs Q E hr h=>?_)
 ·obtain⟨L,M,rs,ms,u,ub,n,rfl,_⟩:=h;rfl
 ·obtain⟨L,M,rs,o,u,ub,n,rfl,p,v,z,C,z1,z2,g,O,sub,k⟩:=h
  have a:Room 1 _:=hr.mono ξ;have X:=hr.units;refine⟨_,zd (b8 (PW.pt (gs (dS (dR (zf Gs a rfl ms Fs.kp bs .nil ac (za (pv 0) (za (pv 2) zb))))) (hZ (dS (dR (zf Gs a rfl ms Fs.kp bs .nil ac (za (pv 1) (za (pv 2) zb)))))))) (zh (zo dk)) zF)
   (zh (zo (kd (fX (Da X) (zf Gp hr rfl Z Fp.kp Y .nil ac (za (pv 0) (za (pv 1) zb))) (zf Ge a rfl me Fe.kp be .nil ac (za (pv 2) zb)) (ar _))
    (kc (fX (Da X) (zf Gp hr rfl Z Fp.kp Y .nil ac (za (pv 1) (za (pv 0) zb))) (zf Ge a rfl me Fe.kp be .nil ac (za (pv 2) zb)) (ar _)))))),?_⟩
  refine⟨_,rfl,_,rfl,L,rs,u,n,rfl,SqL.of p,z,z1,fun H1 i=>⟨_,rfl,?_⟩⟩;cases c1:zY u n with
  |false=>
   have e:fE u ub n=false:=by unfold fE;rw[c1];rfl
   rw[e] at k;exact aS (aS (k H1 i))
  |true=>
   refine aI ⟨_,rfl,_,rfl,M,o,ub,n,rfl,SqL.of (i _ _ v),C.same i,z2,fun H2 s2=>⟨_,rfl,?_⟩⟩;have c:=i.trans s2;cases c2:zY ub n with
   |false=>
    have e:fE u ub n=false:=by unfold fE;rw[c1,c2];rfl
    rw[e] at k;exact aS (k H2 c)
   |true=>
    obtain⟨S,w1⟩:=zQ.mp c1;obtain⟨T,w2⟩:=zQ.mp c2;obtain⟨U,t2,t3⟩:=j7 T w2 g;obtain⟨W,t5,t6⟩:=j7 S w1 g;refine aI ⟨_,rfl,_,rfl,L,M,rs,o,u,ub,rfl,c _ _ p,c _ _ v,z.same c,C.same c,W,U,by rw[t6,T],fun r hr x hx q hq y hy=>g_ (O r hr x hx) (sub q hq y hy),fun E1 H4 es s4 hE mv re=>?_⟩;have cI:=c.trans s4;refine⟨_,rfl,n,rfl,ω,fun U1 H5 us j hU k_ ru _ _=>?_⟩;have d:=cI.trans j;refine⟨bP (mulT u ub),bP (unT n),fy (SqL.of (j _ _ mv)) (re.same j),fy (SqL.of k_) ru,zU _,zU _,pu _ _,_,rfl,?_⟩;have e:fE u ub n=(decide (mulT u ub=unT n)&&decide (mulT ub u=unT n)):=by unfold fE;rw[c1,c2];rfl
    rw[e,<-mh (mulT u ub)] at k;refine dY (fun b=>?_) (fun b=>?_)
    ·refine⟨_,rfl,_,rfl,M,L,o,rs,ub,u,rfl,d _ _ v,d _ _ p,C.same d,z.same d,U,W,by rw[t3,S],fun r hr x hx q hq y hy=>g_ (sub r hr x hx) (O q hq y hy),fun E2 H6 gO s6 p8 iy gh=>?_⟩
     refine⟨_,rfl,n,rfl,ω,fun U2 H7 yF l yX qQ mG _ _=>?_⟩;refine⟨bP (mulT ub u),bP (unT n),fy (SqL.of (l _ _ iy)) (gh.same l),fy (SqL.of qQ) mG,zU _,zU _,pu _ _,?_⟩;have b:PySem.Spec.same (bP (mulT u ub)) (bP (unT n))=true:=b;rw[b,Bool.true_and,<-mh] at k;exact k H7 ((d.trans s6).trans l)
    ·have b:PySem.Spec.same (bP (mulT u ub)) (bP (unT n))=false:=Bool.eq_false_iff.mpr b
     rw[b,Bool.false_and] at k;exact k H5 d
end
noncomputable abbrev yL:Stmt:=top 56
noncomputable def cX(st:List Int)(i j:Nat):Int:=if i=j/\i<st.length then vc st i else 0
noncomputable def ka(F:Ξ)(st:List Int)(k w:Nat):Bool:=(Ah k).all fun i=>(Ah w).all fun j=>decide (fn F i j=cX st i j)
noncomputable def jD(tb u ub v vb:Ξ)(st:List Int):Bool:=fE u ub tb.length&&fE v vb (wid tb)&&cn st (if(wid tb:Int)<(tb.length:Int) then(wid tb:Int) else(tb.length:Int))&&ka (mulT (mulT u tb) v) st tb.length (wid tb)
def J5{u ub:Ξ}{n:Nat}(h:fE u ub n=true):u.length=n/\(∀r∈u,r.length=n)/\ub.length=n/\∀r∈ub,r.length=n:=by
 unfold fE at h;rw[AZ,AZ,AZ] at h;obtain⟨a,b⟩:=zQ.mp h.1.1.1;obtain⟨c,d⟩:=zQ.mp h.1.1.2;exact⟨a,b,c,d⟩
def kb{u v:Ξ}:(mulT u v).length=u.length:=by unfold mulT;simp
def pI{u v:Ξ}:∀r∈mulT u v,r.length=wid v:=fun r hr=>by
 unfold mulT at hr;obtain⟨q,_,rfl⟩:=List.mem_map.mp hr;rw[Aa,De]
def yM{tb:Ξ}{w:Nat}(h:∀r∈tb,r.length=w)(a:tb.length=0->w=0):wid tb=w:=by
 cases e:tb with
 |nil=>rw[e] at a;exact(a rfl).symm
 |cons x l=>exact h x (by rw[e];exact Ar ..)
def O2{tb:Ξ}{w:Nat}(h:∀r∈tb,r.length=w)(a:tb.length=0->w=0)(h1:tb.length<=40)(h2:w<=40):cu tb=true:=by
 unfold cu;rw[yM h a,decide_eq_true h1,decide_eq_true h2];simp only[Bool.and_self,Bool.true_and,AY];exact fun r hr=>decide_eq_true (h r hr)
section
variable{P:Program}{w:World}{K:Af}{mg:Str->Option Value}{base:Heap}
def O3{H2:Hp}{L D:Addr}{ns:List Int}{Q:VK}{p:Int->Bool}{tc:TT}{c:List (Option V)}(h:∀(x:Int)(H:Hp)(R:Bool->Hp->Prop),x∈ns->R (p x) H->tc (some (.int x)::c) H R)(i:H2 L=some (.lst (ns.map V.int)))(hz:ns.length<=1000)(f:H2 D=none)(k:∀b,Same H2 b->b D=some (.lst ((ns.filter p).map V.int))->Q (.ref D) b):cf (eP K L) (zL 0) tc (au 0) (none::c) H2 D Q:=by
 refine jF (xs:=ns.map V.int) (fun j σ ys b=>∃(v:Option V),σ=v::c/\Same H2 b/\b D=some (.lst ys)/\ys=((ns.take j).filter p).map V.int) ⟨none,rfl,Same.new f,zc,rfl⟩ ?_ ?_ ?_
 ·rintro j σ ys b ⟨v,rfl,sm,a,rfl⟩
  exact SqL.of (sm _ _ i)
 ·rintro j σ ys b x hx e hy ⟨v,rfl,sm,a,rfl⟩
  obtain⟨y,d,rfl⟩:=gz hx;have g:(ns.map V.int).length<=sizeLine:=by rw[Aa];exact zA ω
  refine h y b _ (Ak d) ?_;cases hp:p y with
  |true=>
   refine aS ⟨_,rfl,bI g e hy a ⟨_,rfl,sm.then f,zc,?_⟩⟩;rw[Bb d,List.filter_append,Ao];simp[hp]
  |false=>
   refine aI (gS e hy ⟨_,rfl,sm,a,?_⟩);rw[Bb d,List.filter_append];simp[hp]
 ·rintro σ ys b ⟨v,rfl,sm,a,rfl⟩
  rw[Aa,Aq (Ad _)] at a;exact k b sm a
def O4{H2:Hp}{D:Addr}{lo:Int}{n:Nat}{Q:VK}{p:Nat->Bool}{tc:TT}{c:List (Option V)}(g:∀(i:Nat)(H:Hp)(R:Bool->Hp->Prop),i<n->Same H2 H->R (p i) H->tc (some (.int (lo+i))::c) H R)(hz:n<=1000)(f:H2 D=none)(k:∀b,Same H2 b->b D=some (.lst (((Ah n).filter p).map fun i:Nat=>V.int (lo+i)))->Q (.ref D) b):cf (fM lo n) (zL 0) tc (au 0) (none::c) H2 D Q:=by
 refine nn (fun j σ ys b=>∃(v:Option V),σ=v::c/\Same H2 b/\b D=some (.lst ys)/\ys=(((Ah n).take j).filter p).map fun i:Nat=>V.int (lo+i)) ⟨none,rfl,Same.new f,zc,rfl⟩ ?_ ?_
 ·rintro j σ ys b d hy ⟨v,rfl,sm,a,rfl⟩
  have e:(Ah n)[j]?=some j:=AL d;refine g j b _ d sm ?_;cases hp:p j with
  |true=>
   refine aS ⟨_,rfl,bI (zA ω) d hy a ⟨_,rfl,sm.then f,zc,?_⟩⟩;rw[Bb e,List.filter_append,Ao];simp[hp]
  |false=>
   refine aI (gS d hy ⟨_,rfl,sm,a,?_⟩);rw[Bb e,List.filter_append];simp[hp]
 ·rintro σ ys b ⟨v,rfl,sm,a,rfl⟩
  rw[Aq (by simp)] at a;exact k b sm a
noncomputable abbrev mD:List Str:=["table","sheet","left","left_back","right","right_back","steps","wide","found","row","place","due"]
def hV:zn mD ["table","sheet"] (zg yL):=⟨rfl,rfl,rfl,δ,rfl,δ,δ⟩
def J6(K:Af):Sp:=fun vs H Q _=>∃(L p a1 a2 a3 a4 a5:Addr)(rs d1 d2 d3 d4:List Addr)(tb u ub v vb:Ξ)(st:List Int),vs=[.ref L,.ref p]/\H L=some (.lst (rs.map V.ref))/\Rws H rs tb/\cu tb=true/\H p=some (.tup [.ref a1,.ref a2,.ref a3,.ref a4,.ref a5])/\
 H a1=some (.lst (d1.map V.ref))/\H a2=some (.lst (d2.map V.ref))/\H a3=some (.lst (d3.map V.ref))/\H a4=some (.lst (d4.map V.ref))/\H a5=some (.lst (st.map V.int))/\Rws H d1 u/\Rws H d2 ub/\Rws H d3 v/\Rws H d4 vb/\u.length<=1000/\ub.length<=1000/\v.length<=1000/\vb.length<=1000/\st.length<=1000/\
 Sm9 tb/\SmL u/\SmL ub/\SmL v/\SmL vb/\∀H',Same H H'->Q (.bl (jD tb u ub v vb st)) H'
def O5{f fb fw fp:Addr}{fd dE aH a_:FuncData}(F:Fun K "_law_paper_right" "_law_paper_right" yL f fd)(B:fC mg)(gI:mg "min"=none)(Fb:Fun K "_law_backs" "_law_backs" Do fb dE)(bb:Binds K dE ["one","other","size"] [])(mb:mg "_law_backs"=some (.ref fb))(Gb:ai P w K mg base av 3 fb dE ["one","other","size"] (J4 K))(Fw:Fun K "_law_wide" "_law_wide" xI fw aH)(bw:Binds K aH ["table"] [])(mw:mg "_law_wide"=some (.ref fw))(Gw:ai P w K mg base av 1 fw aH ["table"] (FV K))(Fp:Fun K "_law_product" "_law_product" pG fp a_)(bp:Binds K a_ ["one","other"] [])(mp:mg "_law_product"=some (.ref fp))(Gp:ai P w K mg base av 2 fp a_ ["one","other"] (FY K)):ai P w K mg base av 4 f fd ["table","sheet"] (J6 K):=by
 refine F.ok hV (fun vs H Q E h=>?_) (fun ak A outer s H vs Q E hr h=>?_)
 ·obtain⟨L,p,a1,a2,a3,a4,a5,rs,d1,d2,d3,d4,tb,u,ub,v,vb,st,rfl,_⟩:=h;rfl
 ·obtain⟨L,p,a1,a2,a3,a4,a5,rs,d1,d2,d3,d4,tb,u,ub,v,vb,st,rfl,T,hT,it,hp,h1,h2,h3,h4,G,r1,r2,r3,r4,z1,z2,z3,z4,z5,s9,su,sub,sv,svb,k⟩:=h
  have U:Room 2 _:=hr.mono ξ;have hr1:Room 1 _:=hr.mono ξ;obtain⟨t1,t2,t3⟩:=k9 it;refine⟨_,zd (gM (pv 1) (ij rfl (zE (zl (i:=2) hV.nd rfl (Or.inl rfl)) (zE (zl (i:=3) hV.nd rfl (Or.inl rfl)) (zE (zl (i:=4) hV.nd rfl (Or.inl rfl)) (zE (zl (i:=5) hV.nd rfl (Or.inl rfl)) (zE (zl (i:=6) hV.nd rfl (Or.inr rfl)) ii)))))))
   (zd (zr (i:=7) hV.nd rfl (Or.inl rfl) (zf Gw hr1 rfl mw Fw.kp bw .nil ac (za (pv 0) zb)))
   (zd (b8 (PW.pt (gs (dS (dR (zf Gb hr rfl mb Fb.kp bb .nil ac (za (pv 2) (za (pv 3) (za (zk zj rfl B.len bR (za (pv 0) zb)) zb)))))) (hZ (dS (dR (zf Gb hr rfl mb Fb.kp bb .nil ac (za (pv 4) (za (pv 5) (za (pv 7) zb))))))))) (zh (zo dk)) zF)
   (zd (b8 (PW.pt (gs (zv gR (zk zj rfl B.len bR (za (pv 6) zb)) (zk (GA rfl) rfl gI JG (za (zk zj rfl B.len bR (za (pv 0) zb)) (za (pv 7) zb))) (ar _))
    (hZ (zv gR (zk zj rfl B.len bR (za (zu mD ["number"] [none] (zJ (pv 6)) (fun S C s₀ H₀ ex=>zl (i:=0) (bA ["number"]) rfl (Or.inl rfl)) (fun S C s₀ H₀ ex=>D9 (zv qX (pv 0) ze (ar _))) (fun S C s₀ H₀ ex=>pv 0) (hfr:=bM δ)) zb)) ze (ar _))))) (zh (zo dk)) zF)
   (zd (b8 (zv gR (zk zj rfl B.len bR (za (zu mD ["k","steps"] [none,some 6] (KH rfl B.range (za ze (za (zk zj rfl B.len bR (za (pv 6) zb)) zb))) (fun S C s₀ H₀ ex=>zl (i:=0) (bA ["k","steps"]) rfl (Or.inl rfl))
     (fun S C s₀ H₀ ex=>D9 (zv iU (zC jE (zp zq (pv 1) (pv 0) (fun _ _=>rfl)) (zp zq (pv 1) (zC eU (pv 0) ze) (fun _ _=>rfl))) ze (ar _))) (fun S C s₀ H₀ ex=>pv 0)
     (tc:=BV (bL DL (bL (rI (fun _ j=>0<j) fun i j=>.int (i%j)) (bL (dJ K) (au 1) (au 0)) (bL (dJ K) (au 1) (bL (fO fun i j=>.int (i-j)) (au 0) (tC (.int 1))))) (tC (.int 0)))) (hfr:=bx (zg yL) δ)) zb)) ze (ar _)) (zh (zo dk)) zF)
   (zd (zr (i:=8) hV.nd rfl (Or.inl rfl) (zf Gp U rfl mp Fp.kp bp .nil ac (za (zf Gp U rfl mp Fp.kp bp .nil ac (za (pv 2) (za (pv 0) zb))) (za (pv 4) zb))))
   (zd (eC AX rfl (zK rfl B.range (za (zk zj rfl B.len bR (za (pv 0) zb)) zb)) (zl (i:=9) hV.nd rfl (Or.inl rfl))
    (zh (eC AX rfl (zK rfl B.range (za (pv 7) zb)) (zl (i:=10) hV.nd rfl (Or.inl rfl))
     (zd (zr (i:=11) hV.nd rfl (Or.inl rfl) (qb (PW.pt (A' (zv fV (pv 9) (pv 10) (ar _)) (zT (zv qX (pv 9) (zk zj rfl B.len bR (za (pv 6) zb)) (ar _))))) (zp zq (pv 6) (pv 9) (fun _ _=>rfl)) ze))
     (zh (b8 (zv iU (zp zq (zp zq (pv 8) (pv 9) (fun _ _=>rfl)) (pv 10) (fun _ _=>rfl)) (pv 11) (ar _)) (zh (zo dk)) zF))))))
   (zh (zo dk)))))))),?_⟩
  have aJ:=hT.len;refine⟨_,rfl,p,_,rfl,SqT.of hp,rfl,_,_,rfl,_,_,rfl,_,_,rfl,_,_,rfl,_,_,rfl,rfl,?_⟩;refine⟨_,rfl,L,rs,tb,rfl,SqL.of T,hT,fun H1 M=>?_⟩;refine⟨_,rfl,_,rfl,_,rfl,L,_,rfl,.inl (SqL.of (M _ _ T)),?_⟩;rw[Aa,aJ];refine⟨a1,a2,d1,d2,u,ub,tb.length,rfl,M _ _ h1,M _ _ h2,r1.same M,r2.same M,z1,z2,t1,su.big,sub.big,fun H2 s2=>⟨_,rfl,?_⟩⟩;have N:=M.trans s2;cases c1:fE u ub tb.length with
  |false=>
   have e:jD tb u ub v vb st=false:=by unfold jD;rw[c1];rfl
   rw[e] at k;exact aS (aS (k H2 N))
  |true=>
  refine aI ⟨_,rfl,_,rfl,_,rfl,a3,a4,d3,d4,v,vb,wid tb,rfl,N _ _ h3,N _ _ h4,r3.same N,r4.same N,z3,z4,t2,sv.big,svb.big,fun H3 s3=>⟨_,rfl,?_⟩⟩;have I:=N.trans s3;cases J:fE v vb (wid tb) with
  |false=>
   have e:jD tb u ub v vb st=false:=by unfold jD;rw[c1,J];rfl
   rw[e] at k;exact aS (k H3 I)
  |true=>
  refine aI ⟨_,rfl,a5,_,rfl,.inl (SqL.of (I _ _ G)),_,rfl,L,_,rfl,.inl (SqL.of (I _ _ T)),_,rfl,_,_,rfl,_,_,rfl,rfl,_,rfl,?_⟩;rw[Aa,Aa,aJ];generalize Y:(if((wid tb:Nat):Int)<((tb.length:Nat):Int) then((wid tb:Nat):Int) else((tb.length:Nat):Int))=mi;have ek:jD tb u ub v vb st=(cn st mi&&ka (mulT (mulT u tb) v) st tb.length (wid tb)):=by unfold jD;rw[c1,J,Y];rfl
  rw[ek] at k
  by_cases c3:mi<(st.length:Int)
  ·rw[decide_eq_true c3]
   have e:cn st mi=false:=by unfold cn;rw[decide_eq_true c3];rfl
   rw[e] at k;exact aS (aS (k H3 I))
  rw[decide_eq_false c3];refine aI ⟨_,rfl,a5,rfl,⟨_,SqL.of (I _ _ G)⟩,fun D hD=>zw (O3 (p:=fun x=>decide (x<1)) (fun x H' R _ hR=>⟨_,rfl,_,_,rfl,rfl,_,rfl,hR⟩) (I _ _ G) z5 hD fun H4 s4 aX=>⟨D,_,rfl,.inl (SqL.of aX),_,_,rfl,rfl,_,rfl,?_⟩)⟩;have W:=I.trans s4;rw[Aa];have X:decide ((0:Int)<(((st.filter fun x=>decide (x<1)).length:Nat):Int))=!st.all fun x=>decide (0<x):=by
   cases c:st.all fun x=>decide (0<x) with
   |true=>
    have:st.filter (fun x=>decide (x<1))=[]:=List.filter_eq_nil_iff.mpr fun x hx=>by
     have:=of_decide_eq_true (List.all_eq_true.mp c x hx);simp;(first|lia|omega)
    rw[this];rfl
   |false=>
    obtain⟨x,hx,hn⟩:∃x∈st,¬0<x:=by
     refine AA fun no=>?_;have:st.all (fun x=>decide (0<x))=true:=List.all_eq_true.mpr fun x hx=>decide_eq_true (AA fun z=>no ⟨x,hx,z⟩);rw[c] at this;cases this
    have Y:x∈st.filter (fun x=>decide (x<1)):=List.mem_filter.mpr ⟨hx,decide_eq_true ω⟩;have:=List.length_pos_of_mem Y;rw[decide_eq_true ω];rfl
  rw[X];cases c4:st.all fun x=>decide (0<x) with
  |false=>
   have e:cn st mi=false:=by unfold cn;rw[c4,Bool.and_false];rfl
   rw[e] at k;exact aS (k H4 W)
  |true=>
  have pos:∀x∈st,0<x:=fun x hx=>of_decide_eq_true (List.all_eq_true.mp c4 x hx);refine aI ⟨_,rfl,a5,_,rfl,.inl (SqL.of (W _ _ G)),_,_,rfl,⟨ω,ω,ω,by rw[Aa];(first|lia|omega)⟩,fun D2 cD=>?_⟩;have en:((((st.map V.int).length:Nat):Int)-1).toNat=st.length-1:=by rw[Aa];(first|lia|omega)
  rw[en];refine zw (O4 (p:=fun i=>!decide (vc st (i+1)%vc st i=0)) (fun i H' R hi sm hR=>?_) ω cD fun H5 s5 c7=>⟨D2,_,rfl,.inl (SqL.of c7),_,_,rfl,rfl,_,rfl,?_⟩)
  ·have e1:(1:Int)+((i:Nat):Int)=((i+1:Nat):Int):=ω
   have e2:((i+1:Nat):Int)-1=((i:Nat):Int):=ω
   rw[e1];refine⟨_,rfl,_,rfl,a5,_,_,_,rfl,rfl,SqL.of (sm _ _ (W _ _ G)),zi (cT ω),_,rfl,_,rfl,_,_,rfl,rfl,a5,_,_,_,rfl,rfl,SqL.of (sm _ _ (W _ _ G)),by rw[e2];exact zi (cT ω),_,_,rfl,rfl,?_,rfl,_,rfl,?_⟩
   ·show 0<vc st i
    rw[iE (show i<st.length from ω)];exact pos _ (Az _)
   ·rw[show decide (V.int (vc st (i+1)%vc st i)=V.int 0)=decide (vc st (i+1)%vc st i=0) from by rw[Bool.eq_iff_iff];simp]
    exact hR
  have O:=W.trans s5;rw[Aa];have jY:decide ((0:Int)<((((Ah (st.length-1)).filter fun i=>!decide (vc st (i+1)%vc st i=0)).length:Nat):Int))=!(Ay (fun a b=>decide (b%a=0)) st (st.drop 1)).all id:=by
   have Z:∀i,i<st.length-1->(Ay (fun a b=>decide (b%a=0)) st (st.drop 1))[i]?=some (decide (vc st (i+1)%vc st i=0)):=fun i hi=>by
    rw[List.getElem?_zipWith,List.getElem?_drop,Ab (show i<st.length from ω),Ab (show 1+i<st.length from ω),iE ω,iE ω];simp[Nat.add_comm]
   cases c:(Ay (fun a b=>decide (b%a=0)) st (st.drop 1)).all id with
   |true=>
    have:(Ah (st.length-1)).filter (fun i=>!decide (vc st (i+1)%vc st i=0))=[]:=List.filter_eq_nil_iff.mpr fun i hi=>by
     have hi:=List.mem_range.mp hi;have:=List.all_eq_true.mp c _ (Ak (Z i hi));have this:decide (vc st (i+1)%vc st i=0)=true:=this;rw[this];decide
    rw[this];rfl
   |false=>
    obtain⟨i,hi,hn⟩:∃i,i<st.length-1/\¬vc st (i+1)%vc st i=0:=by
     refine AA fun no=>?_;have:(Ay (fun a b=>decide (b%a=0)) st (st.drop 1)).all id=true:=List.all_eq_true.mpr fun x hx=>by
      obtain⟨i,hi,rfl⟩:=A9 hx;have hi2:i<st.length-1:=by rw[AF,List.length_drop] at hi;(first|lia|omega)
      have:=Z i hi2;rw[Ab hi] at this;rw[AM this];exact decide_eq_true (AA fun z=>no ⟨i,hi2,z⟩)
     rw[c] at this;cases this
    have Y:i∈(Ah (st.length-1)).filter (fun i=>!decide (vc st (i+1)%vc st i=0)):=List.mem_filter.mpr ⟨List.mem_range.mpr hi,by rw[decide_eq_false hn];rfl⟩;have:=List.length_pos_of_mem Y;rw[decide_eq_true ω];rfl
  rw[jY];cases c5:(Ay (fun a b=>decide (b%a=0)) st (st.drop 1)).all id with
  |false=>
   have e:cn st mi=false:=by unfold cn;rw[c5,Bool.and_false]
   rw[e] at k;exact aS (k H5 O)
  |true=>
  have e:cn st mi=true:=by unfold cn;rw[c4,c5,decide_eq_false c3];rfl
  rw[e,Bool.true_and] at k;obtain⟨lu,wu,_,_⟩:=J5 c1;obtain⟨lv,wv,_,_⟩:=J5 J;obtain⟨v1,v2,v3⟩:=j7 lv wv t2;obtain⟨u1,u2,u3⟩:=j7 lu wu t1;refine aI ⟨_,rfl,_,rfl,a1,L,d1,rs,u,tb,rfl,O _ _ h1,O _ _ T,r1.same O,hT.same O,u1,it,by rw[u3],fun r hr x hx q hq y hy=>g_ (su.big r hr x hx) (s9.low.big q hq y hy),fun E1 H6 es s6 hE iy re=>?_⟩;have dm:=O.trans s6;have w0:(mulT u tb).length=0->wid tb=0:=fun h=>by
   rw[kb,lu] at h;rw[List.length_eq_zero_iff.mp h];rfl
  refine⟨_,rfl,E1,a3,es,d3,mulT u tb,v,rfl,iy,dm _ _ h3,re,r3.same dm,O2 pI w0 (by rw[kb,lu];exact t1) t2,v1,by rw[yM pI w0,lv],fun r hr x hx q hq y hy=>g_ ?_ (sv.big q hq y hy),fun E2 H7 gO s7 p8 l7 gh=>?_⟩
  ·unfold mulT at hr
   obtain⟨q,hq,rfl⟩:=List.mem_map.mp hr;obtain⟨cc,eZ,rfl⟩:=List.mem_map.mp hx;exact JK (su q hq) (j' s9 cc eZ) (by rw[xB cc eZ];exact t1)
  have eD:=dm.trans s7;refine⟨_,rfl,L,_,rfl,.inl (SqL.of (eD _ _ T)),_,rfl,ω,by rw[Aa,aJ];(first|lia|omega),?_⟩;rw[Aa,aJ];generalize hF:mulT (mulT u tb) v=Fd at gh k;have lF:Fd.length=tb.length:=by rw[<-hF,kb,kb,lu]
  have wF:∀r∈Fd,r.length=wid tb:=fun r hr=>by rw[<-hF] at hr;rw[pI r hr,v3]
  have BM:=gh.len;refine kn (lo:=0) (n:=tb.length) (fun i σ H8=>∃(v9 l o:Option V),σ=[some (.ref L),some (.ref p),some (.ref a1),some (.ref a2),some (.ref a3),some (.ref a4),some (.ref a5),some (.int (wid tb)),some (.ref E2),v9,l,o]/\Same H7 H8/\∀a b,a<i->b<wid tb->fn Fd a b=cX st a b)
   ⟨none,none,none,rfl,Same.refl _,fun a b h=>absurd h (Nat.not_lt_zero _)⟩ ?_ ?_
  ·rintro i σ H8 hi ⟨v9,l,o,rfl,s8,all⟩
   rw[show(0:Int)+((i:Nat):Int)=((i:Nat):Int) from ω];refine⟨_,rfl,_,rfl,ω,ω,kn (lo:=0) (n:=wid tb) (fun j σ H9=>∃(l o:Option V),σ=[some (.ref L),some (.ref p),some (.ref a1),some (.ref a2),some (.ref a3),some (.ref a4),some (.ref a5),some (.int (wid tb)),some (.ref E2),some (.int i),l,o]/\Same H7 H9/\∀b,b<j->fn Fd i b=cX st i b)
    ⟨l,o,rfl,s8,fun b h=>absurd h (Nat.not_lt_zero _)⟩ ?_ ?_⟩
   ·rintro j σ H9 hj ⟨l,o,rfl,d,fQ⟩
    rw[show(0:Int)+((j:Nat):Int)=((j:Nat):Int) from ω];have gJ:=eD.trans d;have gE:(gO.map V.ref)[i]?=some (V.ref (gO[i]'ω)):=by rw[Aj,Ab (show i<gO.length from ω)];rfl
    obtain⟨g,ef,hf⟩:=gh.get (Ab (show i<gO.length from ω));have er:rowAt Fd i=g:=zG ef;have lf:j<g.length:=by rw[wF g (Ak ef)];exact hj
    have step:∀b,b<j+1->vc g j=cX st i j->fn Fd i b=cX st i b:=fun b hb h=>by
     by_cases c:b=j
     ·subst c;unfold fn;rw[er];exact h
     ·exact fQ b ω
    have no:¬vc g j=cX st i j->Q (.bl false) H9:=fun h=>by
     have e:ka Fd st tb.length (wid tb)=false:=by
      cases c:ka Fd st tb.length (wid tb) with
      |false=>rfl
      |true=>
       unfold ka at c;have h1:=List.all_eq_true.mp (List.all_eq_true.mp c i (List.mem_range.mpr hi)) j (List.mem_range.mpr hj);have h2:=of_decide_eq_true h1;unfold fn at h2;rw[er] at h2;exact absurd h2 h
     rw[e] at k;exact k H9 gJ
    have fin:∀(A1 A2:Prop)(x:Int),x=cX st i j->(vc g j=cX st i j->A2)->(¬vc g j=cX st i j->A1)->if(!decide (V.int (vc g j)=V.int x))=true then A1 else A2:=fun A1 A2 x hx h1 h2=>by
     by_cases c:vc g j=x
     ·rw[show(!decide (V.int (vc g j)=V.int x))=false by rw[c];simp]
      exact aI (h1 (by rw[<-hx];exact c))
     ·rw[show(!decide (V.int (vc g j)=V.int x))=true by rw[decide_eq_false (fun e=>c (by injection e))];rfl]
      exact aS (h2 (by rw[<-hx];exact c))
    refine⟨_,rfl,_,rfl,rfl,_,rfl,?_⟩
    by_cases c:i=j
    ·rw[decide_eq_true (by rw[c]:V.int ((i:Nat):Int)=V.int ((j:Nat):Int))]
     refine aS ⟨_,rfl,_,rfl,a5,_,rfl,.inl (SqL.of (gJ _ _ G)),_,_,rfl,rfl,_,rfl,?_⟩;rw[Aa]
     by_cases J:i<st.length
     ·rw[decide_eq_true (show((i:Nat):Int)<((st.length:Nat):Int) from ω)]
      refine aS ⟨_,rfl,_,rfl,a5,_,_,_,rfl,rfl,SqL.of (gJ _ _ G),zi (cT J),?_⟩;refine⟨_,rfl,_,rfl,E2,_,_,_,rfl,rfl,SqL.of (d _ _ l7),zi gE,_,rfl,_,_,_,_,rfl,rfl,SqL.of (d _ _ hf),zi (cT lf),_,rfl,rfl,_,rfl,?_⟩;exact fin _ _ _ (by unfold cX;rw[if_pos ⟨c,J⟩]) (fun h=>⟨_,_,rfl,d,fun b hb=>step b hb h⟩) (fun h=>(no h))
     ·rw[decide_eq_false (show ¬((i:Nat):Int)<((st.length:Nat):Int) from ω)]
      refine aI ?_;refine⟨_,rfl,_,rfl,E2,_,_,_,rfl,rfl,SqL.of (d _ _ l7),zi gE,_,rfl,_,_,_,_,rfl,rfl,SqL.of (d _ _ hf),zi (cT lf),_,rfl,rfl,_,rfl,?_⟩;exact fin _ _ _ (by unfold cX;rw[if_neg fun h=>J h.2]) (fun h=>⟨_,_,rfl,d,fun b hb=>step b hb h⟩) (fun h=>(no h))
    ·rw[decide_eq_false (fun e=>c (by injection e with e;(first|lia|omega)):¬V.int ((i:Nat):Int)=V.int ((j:Nat):Int))]
     refine aI (aI ?_);refine⟨_,rfl,_,rfl,E2,_,_,_,rfl,rfl,SqL.of (d _ _ l7),zi gE,_,rfl,_,_,_,_,rfl,rfl,SqL.of (d _ _ hf),zi (cT lf),_,rfl,rfl,_,rfl,?_⟩;exact fin _ _ _ (by unfold cX;rw[if_neg fun h=>c h.1]) (fun h=>⟨_,_,rfl,d,fun b hb=>step b hb h⟩) (fun h=>(no h))
   ·rintro σ H9 ⟨l,o,rfl,d,fQ⟩
    exact⟨_,_,_,rfl,d,fun a b ha hb=>by
     by_cases c:a=i
     ·subst c;exact fQ b hb
     ·exact all a b ω hb⟩
  ·rintro σ H8 ⟨v9,l,o,rfl,s8,all⟩
   have e:ka Fd st tb.length (wid tb)=true:=by
    unfold ka;rw[AY];intro a ha;rw[AY];exact fun b hb=>decide_eq_true (all a b (List.mem_range.mp ha) (List.mem_range.mp hb))
   rw[e] at k;exact k H8 (eD.trans s8)
end
noncomputable abbrev yO:Stmt:=top 57
def Rws.updAt{H:Hp}{ds:List Addr}{tb:Ξ}{d:Addr}{ns:List Int}(h:Rws H ds tb):∀i:Nat,ds.Nodup->ds[i]?=some d->Rws (L2.upd H d (.lst (ns.map V.int))) ds (tb.set i ns):=by
 induction h with
 |nil=>intro i _ e;simp at e
 |cons r t ih=>
  intro i a e;obtain⟨n1,n2⟩:=List.nodup_cons.mp a;cases i with
  |zero=>
   simp at e;subst e;exact .cons zc (Rws.upd t fun x hx z=>n1 (z▸hx))
  |succ i=>
   rw[List.getElem?_cons_succ] at e;exact .cons (by rw[af (fun z=>n1 (by rw[z];exact Ak e))];exact r) (ih i n2 e)
section
variable{P:Program}{w:World}{K:Af}{mg:Str->Option Value}{base:Heap}
noncomputable abbrev yS:List Str:=["box","least","more","rows","columns","found","row","k"]
def J7:Sp:=fun vs H Q _=>∃(p:Addr),vs=[.ref p,.int 10,.int 11]/\zV H p/\∀F H' c n,c<=20->n<=20->TabB H p F c n 2 H'->Q (.ref F) H'
def pQ:zn yS ["box","least","more"] (zg yO):=⟨rfl,rfl,rfl,δ,rfl,δ,δ⟩
abbrev O6:TE:=gw (DG (zX (au 1) bB)) [none] (zL 0) bC (tC (.int 0))
def O7{f ft:Addr}{fd bF:FuncData}(F:Fun K "_law_wide_table" "_law_wide_table" yO f fd)(B:fC mg)(Ft:Fun K "_law_take" "_law_take" my ft bF)(bt:Binds K bF ["box","most"] [])(mt:mg "_law_take"=some (.ref ft)):ai P w K mg base av 2 f fd ["box","least","more"] J7:=by
 have M:ai P w K mg base av 1 ft bF ["box","most"] pB:=Di Ft;refine F.ok pQ (fun vs H Q E h=>?_) (fun ak A outer s H vs Q E hr h=>?_)
 ·obtain⟨p,rfl,_⟩:=h;rfl
 ·obtain⟨p,rfl,hb,k⟩:=h
  refine⟨_,zd (zr (i:=3) pQ.nd rfl (Or.inl rfl) (zC fT (pv 1) (zf M hr rfl mt Ft.kp bt .nil ac (za (pv 0) (za (pv 2) zb)))))
   (zd (zr (i:=4) pQ.nd rfl (Or.inr rfl) (zC fT (pv 1) (zf M hr rfl mt Ft.kp bt .nil ac (za (pv 0) (za (pv 2) zb)))))
   (zd (k4 (i:=5) pQ.nd rfl (Or.inl rfl) yS ["row","columns"] [none,some 4] (zK rfl B.range (za (pv 3) zb)) (fun v C s₀ H₀ ex=>zl (i:=0) (bA ["row","columns"]) rfl (Or.inl rfl)) (fun v C s₀ H₀ ex=>zy)
    (fun v C s₀ H₀ ex=>zu ["row","columns"] ["place"] [none] (zK rfl B.range (za (pv 1) zb)) (fun v C s₀ H₀ ex=>zl (i:=0) (bA ["place"]) rfl (Or.inl rfl)) (fun v C s₀ H₀ ex=>zy) (fun v C s₀ H₀ ex=>ze) (hfr:=bM δ))
    (te:=O6) (hfr:=bx (zg yO) δ))
   (zd (eC AX rfl (zJ (pv 5)) (zl (i:=6) pQ.nd rfl (Or.inl rfl))
    (zh (eC AX rfl (zK rfl B.range (za ze zb)) (zl (i:=7) pQ.nd rfl (Or.inl rfl))
     (zh (gM (zC eU (zf M hr rfl mt Ft.kp bt .nil ac (za (pv 0) (za ze zb))) ze) (il (pv 6) (zf M hr rfl mt Ft.kp bt .nil ac (za (pv 0) (za (pv 4) zb))) set_list))))))
   (zh (zo (pv 5)))))),?_⟩
  refine⟨_,rfl,_,rfl,_,rfl,p,_,rfl,hb,ξ,ξ,fun n H1 n0 n1 fG eF=>⟨_,_,rfl,rfl,?_⟩⟩;refine⟨_,rfl,_,rfl,_,rfl,p,_,rfl,eF,ξ,ξ,fun c H2 c0 c1 gK O=>⟨_,_,rfl,rfl,?_⟩⟩;obtain⟨n,rfl⟩:∃m:Nat,n=(m:Int):=⟨n.toNat,ω⟩;obtain⟨c,rfl⟩:∃m:Nat,c=(m:Int):=⟨c.toNat,ω⟩;dsimp only;rw[show(10:Int)+(n:Int)=((10+n:Nat):Int) from ω,show(10:Int)+(c:Int)=((10+c:Nat):Int) from ω];generalize hN:10+n=N;generalize hC:10+c=C;refine⟨_,rfl,_,rfl,ω,ω,fun D hD=>?_⟩;have gD:=fG.trans gK;refine zw (Cy (n:=N) (g:=fun _=>(Ah C).map fun _=>(0:Int)) (fun j H' R hj sm S=>⟨_,rfl,_,rfl,ω,ω,fun D2 cD=>zw (J0 (n:=C) (g:=fun _=>(0:Int)) (fun j b R S=>S) ω cD fun b s4 y=>S D2 b s4 cD y)⟩) ω hD fun H3 ds z G I aO jt=>?_);have J:H D=none:=gD.free hb O hD;have gj:=iK hb J;have dn:∀d∈ds,H d=none/\d≠D:=fun d hd=>⟨gD.free hb O (jt d hd).1,(jt d hd).2⟩;have fj:ds.length=N:=by rw[I.len];simp
  refine⟨_,rfl,D,rfl,⟨_,SqL.of G⟩,qo (K:=K) (a:=D) (xs:=ds.map V.ref) (fun i σ b=>∃(T l:Option V)(tb:Ξ),σ=[some (.ref p),some (.int 10),some (.int 11),some (.int N),some (.int C),some (.ref D),T,l]/\zah p H b/\zV b p/\b D=some (.lst (ds.map V.ref))/\Rws b ds tb/\tb.length=N/\∀r∈tb,r.length=C/\Bnd 2 r)
   ⟨none,none,_,rfl,gD.trans (.of z),O.same z,G,I,by simp,fun r hr=>by
    obtain⟨_,_,rfl⟩:=List.mem_map.mp hr;exact⟨by simp,fun x hx=>by
     obtain⟨_,_,rfl⟩:=List.mem_map.mp hx;exact⟨ξ,ξ⟩⟩⟩ (fun i σ b _ ⟨_,_,_,_,_,_,e,_⟩=>SqL.of e) ?_ ?_⟩
  ·rintro i x σ b hx ⟨T,l,tb,rfl,U,W,y,X,Y,Z⟩
   obtain⟨a,ea,rfl⟩:=i6 hx;have ha:=dn a (Ak ea);have uM:=iK hb ha.1;refine⟨_,rfl,ω,ξ,kn (lo:=0) (n:=3) (fun j σ o=>∃(l:Option V)(tb:Ξ),σ=[some (.ref p),some (.int 10),some (.int 11),some (.int N),some (.int C),some (.ref D),some (.ref a),l]/\zah p H o/\zV o p/\o D=some (.lst (ds.map V.ref))/\Rws o ds tb/\tb.length=N/\∀r∈tb,r.length=C/\Bnd 2 r)
    ⟨l,tb,rfl,U,W,y,X,Y,Z⟩ ?_ ?_⟩
   ·rintro j σ o hj ⟨l,tb,rfl,jQ,iV,c7,j0,nW,L⟩
    refine⟨_,rfl,p,_,rfl,iV,ξ,ξ,fun u H6 u0 u1 kr jz=>⟨_,_,rfl,rfl,?_⟩⟩;refine⟨_,rfl,_,rfl,_,rfl,p,_,rfl,jz,ω,ω,fun q H7 q0 q1 mz jh=>?_⟩;have gp:=kr.trans mz;have r7:=j0.sameB gp fun d hd=>iK hb (dn d hd).1;obtain⟨ns,en,cS⟩:=r7.get ea;have hm:=Ak en;refine⟨a,_,q,q.toNat,rfl,rfl,cS,xD q0 (by rw[Aa,(L ns hm).1];(first|lia|omega)),?_⟩;rw[<-List.map_set (f:=V.int)];refine⟨_,tb.set i (ns.set q.toNat (u-2)),rfl,(jQ.trans gp).then ha.1,jh.upd uM,by rw[af ha.2.symm];exact gp _ _ gj c7,r7.updAt i aO ea,by simp[nW],fun r cv=>?_⟩;rcases List.mem_or_eq_of_mem_set cv with h|h
    ·exact L r h
    ·rw[h]
     refine⟨by rw[List.length_set];exact(L ns hm).1,fun x hx=>?_⟩;rcases List.mem_or_eq_of_mem_set hx with h|h
     ·exact(L ns hm).2 x h
     ·rw[h];(first|lia|omega)
   ·rintro σ o ⟨l,tb,rfl,h⟩
    exact⟨_,_,tb,rfl,h⟩
  ·rintro σ b ⟨T,l,tb,rfl,U,W,y,X,Y,Z⟩
   exact⟨_,rfl,k D b C N ω ω ⟨ds,tb,U,W,y,X,Y,Z,dn,J⟩⟩
end
structure Ap(H:Hp)(A:Nat->Addr)(D:Nat->List Addr)(T:Nat->Ξ)(n:Nat):Prop where
 at_:∀i,i<n->H (A i)=some (.lst ((D i).map V.ref))
 rw:∀i,i<n->Rws H (D i) (T i)
 nd:∀i,i<n->(D i).Nodup/\∀d∈D i,d≠A i
 dj:∀i k,i<n->k<n->i≠k->Dj (A i::D i) (A k::D k)
noncomputable def pt{a:Type}(f:Nat->a)(k:Nat)(x:a):Nat->a:=fun i=>if i=k then x else f i
def zI{a:Type}{f:Nat->a}{k:Nat}{x:a}:pt f k x k=x:=if_pos rfl
def cw{a:Type}{f:Nat->a}{k i:Nat}{x:a}(h:i≠k):pt f k x i=f i:=if_neg h
def Rws.updF{H:Hp}{ds:List Addr}{tb:Ξ}{x:Addr}{o:HO}(h:Rws H ds tb)(hx:x∉ds):Rws (L2.upd H x o) ds tb:=Rws.upd h fun d hd z=>hx (z▸hd)
def Ap.far{H:Hp}{A:Nat->Addr}{D:Nat->List Addr}{T:Nat->Ξ}{n:Nat}(h:Ap H A D T n){x:Addr}{o:HO}(hx:∀i,i<n->x∉A i::D i):Ap (L2.upd H x o) A D T n:=
 ⟨fun i hi=>by rw[af (fun z:A i=x=>hx i hi (by rw[<-z];exact Ar ..))];exact h.at_ i hi,fun i hi=>(h.rw i hi).updF fun z=>hx i hi (Ax _ z),h.nd,h.dj⟩
def Ap.same{H H':Hp}{A:Nat->Addr}{D:Nat->List Addr}{T:Nat->Ξ}{n:Nat}(h:Ap H A D T n)(s:Same H H'):Ap H' A D T n:=
 ⟨fun i hi=>s _ _ (h.at_ i hi),fun i hi=>(h.rw i hi).same s,h.nd,h.dj⟩
def Ap.there{H:Hp}{A:Nat->Addr}{D:Nat->List Addr}{T:Nat->Ξ}{n:Nat}(h:Ap H A D T n){i:Nat}(hi:i<n):∀z∈A i::D i,H z≠none:=fun z hz=>by
 rcases List.mem_cons.mp hz with e|e
 ·rw[e,h.at_ i hi];exact fun z=>by cases z
 ·exact Rws.there (h.rw i hi) z e
def Ap.row{H:Hp}{A:Nat->Addr}{D:Nat->List Addr}{T:Nat->Ξ}{n k j:Nat}{d:Addr}{ns:List Int}(h:Ap H A D T n)(hk:k<n)(e:(D k)[j]?=some d):Ap (L2.upd H d (.lst (ns.map V.int))) A D (pt T k ((T k).set j ns)) n:=by
 have hd:=Ak e;have ne:∀i,i<n->i≠k->d∉A i::D i:=fun i hi c z=>h.dj i k hi hk c d z d (Ax _ hd) rfl;refine⟨fun i hi=>?_,fun i hi=>?_,h.nd,h.dj⟩
 ·by_cases c:i=k
  ·subst c
   rw[af ((h.nd i hi).2 d hd).symm];exact h.at_ i hi
  ·rw[af (fun z:A i=d=>ne i hi c (by rw[<-z];exact Ar ..))];exact h.at_ i hi
 ·by_cases c:i=k
  ·subst c
   rw[zI];exact(h.rw i hi).updAt j (h.nd i hi).1 e
  ·rw[cw c]
   exact(h.rw i hi).updF fun z=>ne i hi c (Ax _ z)
def Ap.clear{H:Hp}{A:Nat->Addr}{D:Nat->List Addr}{T:Nat->Ξ}{n k:Nat}(h:Ap H A D T n)(hk:k<n):Ap (L2.upd H (A k) (.lst [])) A (pt D k []) (pt T k []) n:=by
 have ne:∀i,i<n->i≠k->A k∉A i::D i:=fun i hi c z=>h.dj i k hi hk c _ z _ (Ar ..) rfl;have sub:∀i z,z∈A i::pt D k [] i->z∈A i::D i:=fun i z hz=>by
  by_cases c:i=k
  ·rw[c,zI] at hz;rw[c]
   rcases List.mem_cons.mp hz with e|e
   ·rw[e];exact Ar ..
   ·cases e
  ·rwa [cw c] at hz
 refine⟨fun i hi=>?_,fun i hi=>?_,fun i hi=>?_,fun i l hi f c a g b hb=>h.dj i l hi f c a (sub i a g) b (sub l b hb)⟩
 ·by_cases c:i=k
  ·subst c
   rw[zI,zc];rfl
  ·rw[cw c,af (fun z:A i=A k=>ne i hi c (by rw[<-z];exact Ar ..))];exact h.at_ i hi
 ·by_cases c:i=k
  ·rw[c,zI,zI];exact .nil
  ·rw[cw c,cw c]
   exact(h.rw i hi).updF fun z=>ne i hi c (Ax _ z)
 ·by_cases c:i=k
  ·rw[c,zI];exact⟨List.nodup_nil,fun d hd=>by cases hd⟩
  ·rw[cw c];exact h.nd i hi
noncomputable def Ap.put{H:Hp}{A:Nat->Addr}{D:Nat->List Addr}{T:Nat->Ξ}{n m k:Nat}{a:Addr}{ds:List Addr}{tb:Ξ}(h:Ap H A D T n)(f:∀i,i<m->i≠k->i<n)(h1:H a=some (.lst (ds.map V.ref)))(h2:Rws H ds tb)(o:ds.Nodup)(p:∀d∈ds,d≠a)(j:∀i,i<n->Dj (A i::D i) (a::ds)):Ap H (pt A k a) (pt D k ds) (pt T k tb) m:=by
 refine⟨fun i hi=>?_,fun i hi=>?_,fun i hi=>?_,fun i l hi g c=>?_⟩
 ·by_cases c:i=k
  ·rw[c,zI,zI];exact h1
  ·rw[cw c,cw c];exact h.at_ i (f i hi c)
 ·by_cases c:i=k
  ·rw[c,zI,zI];exact h2
  ·rw[cw c,cw c];exact h.rw i (f i hi c)
 ·by_cases c:i=k
  ·rw[c,zI,zI];exact⟨o,p⟩
  ·rw[cw c,cw c];exact h.nd i (f i hi c)
 ·by_cases c1:i=k
  ·have b:l≠k:=fun e=>c (by rw[c1,e])
   rw[c1,zI,zI,cw b,cw b];exact fun x hx y hy e=>j l (f l g b) y hy x hx e.symm
  ·rw[cw c1,cw c1]
   by_cases b:l=k
   ·rw[b,zI,zI];exact j i (f i hi c1)
   ·rw[cw b,cw b];exact h.dj i l (f i hi c1) (f l g b) c
structure Apt(H0 H:Hp)(S KA a5:Addr)(st:List Int)(A B:Nat->Addr)(D E:Nat->List Addr)(T U:Nat->Ξ):Prop where
 sm:Same H0 H
 s:H S=some (.tup [.ref (A 0),.ref (A 1),.ref (A 2),.ref (A 3),.ref a5])
 kp:H KA=some (.lst [.ref (B 0),.ref (B 1),.ref (B 2),.ref (B 3)])
 h5:H a5=some (.lst (st.map V.int))
 a:Ap H A D T 4
 b:Ap H B E U 4
 x:∀i k,i<4->k<4->Dj (A i::D i) (B k::E k)
 na:∀i,i<4->∀z∈A i::D i,H0 z=none/\z≠KA/\z≠a5
 nb:∀i,i<4->∀z∈B i::E i,H0 z=none/\z≠KA/\z≠a5
 nk:H0 KA=none
 n5:H0 a5=none
 k5:KA≠a5
section
variable{H0 H:Hp}{S KA a5:Addr}{st:List Int}{A B:Nat->Addr}{D E:Nat->List Addr}{T U:Nat->Ξ}
def Apt.same{H':Hp}(h:Apt H0 H S KA a5 st A B D E T U)(s:Same H H'):Apt H0 H' S KA a5 st A B D E T U:=
 ⟨h.sm.trans s,s _ _ h.s,s _ _ h.kp,s _ _ h.h5,h.a.same s,h.b.same s,h.x,h.na,h.nb,h.nk,h.n5,h.k5⟩
def tup_ne{H:Hp}{S x:Addr}{xs ys:List V}(h:H S=some (.tup xs))(h2:H x=some (.lst ys)):S≠x:=fun e=>by rw[e,h2] at h;cases h
def Apt.rowA{k j:Nat}{d:Addr}{os ns:List Int}(h:Apt H0 H S KA a5 st A B D E T U)(hk:k<4)(e:(D k)[j]?=some d)(f:H d=some (.lst (os.map V.int))):Apt H0 (L2.upd H d (.lst (ns.map V.int))) S KA a5 st A B D E (pt T k ((T k).set j ns)) U:=by
 have hd:d∈A k::D k:=Ax _ (Ak e);obtain⟨c,n1,n2⟩:=h.na k hk d hd;exact⟨h.sm.then c,by rw[af (tup_ne h.s f)];exact h.s,by rw[af n1.symm];exact h.kp,by rw[af n2.symm];exact h.h5,h.a.row hk e,h.b.far fun i hi z=>h.x k i hk hi d hd d z rfl,h.x,h.na,h.nb,h.nk,h.n5,h.k5⟩
def Apt.rowB{k j:Nat}{d:Addr}{os ns:List Int}(h:Apt H0 H S KA a5 st A B D E T U)(hk:k<4)(e:(E k)[j]?=some d)(f:H d=some (.lst (os.map V.int))):Apt H0 (L2.upd H d (.lst (ns.map V.int))) S KA a5 st A B D E T (pt U k ((U k).set j ns)):=by
 have hd:d∈B k::E k:=Ax _ (Ak e);obtain⟨c,n1,n2⟩:=h.nb k hk d hd;exact⟨h.sm.then c,by rw[af (tup_ne h.s f)];exact h.s,by rw[af n1.symm];exact h.kp,by rw[af n2.symm];exact h.h5,h.a.far fun i hi z=>h.x i k hi hk d z d hd rfl,h.b.row hk e,h.x,h.na,h.nb,h.nk,h.n5,h.k5⟩
def J8{A:Nat->Addr}{D:Nat->List Addr}{k:Nat}:∀i z,z∈A i::pt D k [] i->z∈A i::D i:=fun i z hz=>by
 by_cases c:i=k
 ·rw[c,zI] at hz;rw[c]
  rcases List.mem_cons.mp hz with e|e
  ·rw[e];exact Ar ..
  ·cases e
 ·rwa [cw c] at hz
def Apt.clear{k:Nat}(h:Apt H0 H S KA a5 st A B D E T U)(hk:k<4):Apt H0 (L2.upd H (A k) (.lst [])) S KA a5 st A B (pt D k []) E (pt T k []) U:=by
 have hd:A k∈A k::D k:=Ar ..;obtain⟨e,n1,n2⟩:=h.na k hk _ hd;exact⟨h.sm.then e,by rw[af (tup_ne h.s (h.a.at_ k hk))];exact h.s,by rw[af n1.symm];exact h.kp,by rw[af n2.symm];exact h.h5,h.a.clear hk,h.b.far fun i hi z=>h.x k i hk hi _ hd _ z rfl,
  fun i l hi c a d b hb=>h.x i l hi c a (J8 i a d) b hb,fun i hi z hz=>h.na i hi z (J8 i z hz),h.nb,h.nk,h.n5,h.k5⟩
def O8{B:Nat->Addr}{k:Nat}{b:Addr}(hk:k<4):[V.ref (B 0),.ref (B 1),.ref (B 2),.ref (B 3)].set k (.ref b)=[.ref (pt B k b 0),.ref (pt B k b 1),.ref (pt B k b 2),.ref (pt B k b 3)]:=by
 obtain rfl|rfl|rfl|rfl:k=0\/k=1\/k=2\/k=3:=ω
 all_goals rfl
noncomputable def Apt.put{k:Nat}{b:Addr}(h:Apt H0 H S KA a5 st A B D E T U)(hk:k<4)(hb:H b=none):Apt H0 (L2.upd (L2.upd H b (.lst [])) KA (.lst ([V.ref (B 0),.ref (B 1),.ref (B 2),.ref (B 3)].set k (.ref b)))) S KA a5 st A (pt B k b) D (pt E k []) T (pt U k []):=by
 have p:Same H (L2.upd H b (.lst [])):=Same.new hb;have g:b≠KA:=fun e=>by rw[e,h.kp] at hb;cases hb
 have q:b≠a5:=fun e=>by rw[e,h.h5] at hb;cases hb
 have r:H0 b=none:=h.sm.free hb;have u:∀i,i<4->b∉A i::D i:=fun i hi z=>h.a.there hi b z hb;have j:∀i,i<4->b∉B i::E i:=fun i hi z=>h.b.there hi b z hb;have f:∀i z,z∈pt B k b i::pt E k [] i->z=b\/z∈B i::E i:=fun i z hz=>by
  by_cases c:i=k
  ·rw[c,zI,zI] at hz
   rcases List.mem_cons.mp hz with e|e
   ·exact .inl e
   ·cases e
  ·rw[cw c,cw c] at hz;exact .inr hz
 have h1:=h.same p;have bb:Ap (L2.upd H b (.lst [])) (pt B k b) (pt E k []) (pt U k []) 4:=h1.b.put (fun i hi _=>hi) (by rw[zc];rfl) .nil List.nodup_nil (fun d hd=>by cases hd) fun i hi x hx y hy e=>by
  rcases List.mem_cons.mp hy with e'|e'
  ·rw[<-e',<-e] at j;exact j i hi hx
  ·cases e'
 refine⟨h1.sm.then h.nk,?_,by rw[zc,O8 hk],by rw[af h.k5.symm];exact h1.h5,h1.a.far fun i hi z=>(h.na i hi KA z).2.1 rfl,bb.far fun i hi z=>?_,fun i l hi o x hx y hy e=>?_,h.na,fun i hi z hz=>?_,h.nk,h.n5,h.k5⟩
 ·rw[af (tup_ne h1.s h1.kp)];exact h1.s
 ·rcases f i KA z with e|e
  ·exact g e.symm
  ·exact(h.nb i hi KA e).2.1 rfl
 ·rcases f l y hy with e'|e'
  ·exact u i hi (by rw[<-e',<-e];exact hx)
  ·exact h.x i l hi o x hx y e' e
 ·rcases f i z hz with e|e
  ·rw[e];exact⟨r,g,q⟩
  ·exact h.nb i hi z e
end
noncomputable abbrev Dp:Stmt:=top 58
noncomputable def fo{e:Type}(a b c d:e):Nat->e
 |0=>a
 |1=>b
 |2=>c
 |_=>d
def mF{i:Nat}(h:i<4):i=0\/i=1\/i=2\/i=3:=ω
def Dj.symm{x y:List Addr}(h:Dj x y):Dj y x:=fun a c b hb e=>h b hb a c e.symm
def O9{a:Type}{f:Nat->a}{k:Nat}:pt f k (f k)=f:=by
 funext i
 by_cases c:i=k
 ·rw[c,zI]
 ·rw[cw c]
section
variable{H H':Hp}{p:Addr}{u ub v vb:Ξ}{st:List Int}{a1 a2 a3 a4 a5:Addr}{d1 d2 d3 d4:List Addr}
def PapH.nt(h:PapH H H' p u ub v vb st a1 a2 a3 a4 a5 d1 d2 d3 d4)(i:Nat)(hi:i<4):NT H H' (fo a1 a2 a3 a4 i) (fo d1 d2 d3 d4 i) (fo u ub v vb i):=by
 obtain rfl|rfl|rfl|rfl:=mF hi
 ·exact h.n1
 ·exact h.n2
 ·exact h.n3
 ·exact h.n4
def PapH.j5(h:PapH H H' p u ub v vb st a1 a2 a3 a4 a5 d1 d2 d3 d4)(i:Nat)(hi:i<4):Dj (fo a1 a2 a3 a4 i::fo d1 d2 d3 d4 i) [a5]:=by
 obtain rfl|rfl|rfl|rfl:=mF hi
 ·exact h.j15
 ·exact h.j25
 ·exact h.j35
 ·exact h.j45
def PapH.ap(h:PapH H H' p u ub v vb st a1 a2 a3 a4 a5 d1 d2 d3 d4):Ap H' (fo a1 a2 a3 a4) (fo d1 d2 d3 d4) (fo u ub v vb) 4:=by
 refine⟨fun i hi=>(h.nt i hi).at_,fun i hi=>(h.nt i hi).rows,fun i hi=>⟨(h.nt i hi).nd,fun d hd=>((h.nt i hi).nw d hd).2⟩,fun i k hi hk c=>?_⟩;obtain rfl|rfl|rfl|rfl:=mF hi<;>obtain rfl|rfl|rfl|rfl:=mF hk
 ·exact absurd rfl c
 ·exact h.j12
 ·exact h.j13
 ·exact h.j14
 ·exact h.j12.symm
 ·exact absurd rfl c
 ·exact h.j23
 ·exact h.j24.symm
 ·exact h.j13.symm
 ·exact h.j23.symm
 ·exact absurd rfl c
 ·exact h.j34.symm
 ·exact h.j14.symm
 ·exact h.j24
 ·exact h.j34
 ·exact absurd rfl c
end
def Dq{A:Nat->Addr}{k:Nat}(hk:k<4):[V.ref (A 0),.ref (A 1),.ref (A 2),.ref (A 3)][k]?=some (.ref (A k)):=by
 obtain rfl|rfl|rfl|rfl:=mF hk<;>rfl
def J9{A:Nat->Addr}{a:Addr}{k:Nat}(hk:k<4):[V.ref (A 0),.ref (A 1),.ref (A 2),.ref (A 3),.ref a][k]?=some (.ref (A k)):=by
 obtain rfl|rfl|rfl|rfl:=mF hk<;>rfl
section
variable{P:Program}{w:World}{K:Af}{mg:Str->Option Value}{base:Heap}
def Apt.eq{H0 H:Hp}{S KA a5:Addr}{st:List Int}{A B:Nat->Addr}{D E:Nat->List Addr}{T:Nat->Ξ}(h:Apt H0 H S KA a5 st A B D E T T){q:Addr}(hq:H q=none){Z:VK}(k:Z (.bl false) (upd H q (.lst [.ref (A 0),.ref (A 1),.ref (A 2),.ref (A 3)]))):jy true K (.ref q) (.ref KA) (upd H q (.lst [.ref (A 0),.ref (A 1),.ref (A 2),.ref (A 3)])) Z:=by
 have h1:=h.same (Same.new (o:=.lst [.ref (A 0),.ref (A 1),.ref (A 2),.ref (A 3)]) hq);have c:∀i,i<4->DV K (upd H q (.lst [.ref (A 0),.ref (A 1),.ref (A 2),.ref (A 3)])) (.ref (A i)) (bP (T i)):=fun i hi=>fy (SqL.of (h1.a.at_ i hi)) (h1.a.rw i hi);have d:∀i,i<4->DV K (upd H q (.lst [.ref (A 0),.ref (A 1),.ref (A 2),.ref (A 3)])) (.ref (B i)) (bP (T i)):=fun i hi=>fy (SqL.of (h1.b.at_ i hi)) (h1.b.rw i hi);refine⟨iJ [T 0,T 1,T 2,T 3],iJ [T 0,T 1,T 2,T 3],.lst (SqL.of zc) (.cons (c 0 ξ) (.cons (c 1 ξ) (.cons (c 2 ξ) (.cons (c 3 ξ) .nil)))),.lst (SqL.of h1.kp) (.cons (d 0 ξ) (.cons (d 1 ξ) (.cons (d 2 ξ) (.cons (d 3 ξ) .nil)))),JE _,JE _,Op _ _,?_⟩;rw[if_pos rfl,On,decide_eq_true rfl];exact k
abbrev O_(K:Af):List V->Hp->VK->Prop:=fun xs H Q=>∃p ys,xs=[.ref p]/\(SqL K H p ys\/SqT K H p ys)/\∀l,H l=none->Q (.ref l) (upd H l (.lst ys))
abbrev Dr(K:Af):TE:=iY (O_ K) (zX (au 0) bB)
def J_{H2:Hp}{L D:Addr}{rs:List Addr}{tb:Ξ}{Q:VK}{c:List (Option V)}(b:SqL K H2 L (rs.map V.ref))(p:Rws H2 rs tb)(hz:tb.length<=1000)(q:H2 D=none)(k:∀a ds,Same H2 a->a D=some (.lst (ds.map V.ref))->Rws a ds tb->ds.Nodup->(∀d∈ds,H2 d=none/\d≠D)->Q (.ref D) a):cf (eP K L) (zL 0) bC (Dr K) (none::c) H2 D Q:=by
 refine nL (g:=fun r=>r) (fun o os H R sm f s h=>⟨_,rfl,o,_,rfl,.inl (SqL.of f),fun l b=>h l _ (Same.new b) b zc⟩) b p hz q fun a ds sm e hr i j=>?_;rw[List.map_id'] at hr;exact k a ds sm e hr i j
abbrev J'(K:Af):TE:=gw (Gj K (au 0)) [none] (zL 0) bC (Dr K)
def O'{H2:Hp}{L h:Addr}{A:Nat->Addr}{D:Nat->List Addr}{T:Nat->Ξ}{Q:VK}{c:List (Option V)}(M:H2 L=some (.tup [.ref (A 0),.ref (A 1),.ref (A 2),.ref (A 3)]))(ap:Ap H2 A D T 4)(hz:∀i,i<4->(T i).length<=40)(C:H2 h=none)(k:∀b B E,Same H2 b->b h=some (.lst [.ref (B 0),.ref (B 1),.ref (B 2),.ref (B 3)])->Ap b B E T 4->(∀i,i<4->∀z∈B i::E i,H2 z=none/\z≠h)->Q (.ref h) b):cf (qi K L) (zL 0) bC (J' K) (none::c) H2 h Q:=by
 refine G5 (xs:=[.ref (A 0),.ref (A 1),.ref (A 2),.ref (A 3)]) (fun j σ ys b=>∃(v:Option V)(B:Nat->Addr)(E:Nat->List Addr),σ=v::c/\Same H2 b/\b h=some (.lst ys)/\ys=(Ah j).map (fun i=>V.ref (B i))/\Ap b B E T j/\∀i,i<j->∀z∈B i::E i,H2 z=none/\z≠h)
  ⟨none,A,D,rfl,Same.new C,zc,rfl,⟨fun i hi=>absurd hi (Nat.not_lt_zero _),fun i hi=>absurd hi (Nat.not_lt_zero _),fun i hi=>absurd hi (Nat.not_lt_zero _),fun i k hi=>absurd hi (Nat.not_lt_zero _)⟩,fun i hi=>absurd hi (Nat.not_lt_zero _)⟩
  (fun i σ ys b ⟨_,_,_,_,sm,_⟩=>SqT.of (sm _ _ M)) ?_ ?_
 ·rintro j σ ys b x hx u hy ⟨v,B,E,rfl,a,f,rfl,q,s⟩
  have g:j<4:=u;rw[Dq g] at hx;obtain rfl:=AM hx;refine ci ?_;have a3:=ap.same a;refine⟨_,rfl,A j,rfl,⟨_,SqL.of (a3.at_ j g)⟩,fun o l=>zw (J_ (SqL.of (a3.at_ j g)) (a3.rw j g) (by have:=hz j g;(first|lia|omega)) l fun N ds r F G I p=>?_)⟩;have e1:H2 o=none:=a.free l;have n1:o≠h:=fun e=>by rw[e,f] at l;cases l
  have n2:∀d∈ds,d≠h:=fun d hd e=>by
   have:=(p d hd).1;rw[e,f] at this;cases this
  have J:=q.same r;have w:Ap N (pt B j o) (pt E j ds) (pt T j (T j)) (j+1):=J.put (fun i hi c=>ω) F G I (fun d hd=>(p d hd).2) fun i hi=>gq (H:=b) (q.there hi) fun z hz=>by
   rcases List.mem_cons.mp hz with e|e
   ·rw[e];exact l
   ·exact(p z e).1
  rw[O9] at w;have y:∀i,i<j+1->∀z∈pt B j o i::pt E j ds i,H2 z=none/\z≠h:=fun i hi z hz=>by
   by_cases c:i=j
   ·rw[c,zI,zI] at hz
    rcases List.mem_cons.mp hz with e|e
    ·rw[e];exact⟨e1,n1⟩
    ·exact⟨a.free (p z e).1,n2 z e⟩
   ·rw[cw c,cw c] at hz
    exact s i ω z hz
  refine bI (zA (by simp)) u hy (r _ _ f) ⟨_,pt B j o,pt E j ds,rfl,(a.trans r).then C,zc,?_,w.far fun i hi z=>(y i hi h z).2 rfl,y⟩;rw[List.range_succ,Ao,List.map_singleton,zI]
  congr 1
  refine A4 fun i hi=>?_;rw[cw (AB (List.mem_range.mp hi))]
 ·rintro σ ys b ⟨v,B,E,rfl,a,f,rfl,q,s⟩
  exact k b B E a f q s
noncomputable abbrev yW:List Str:=["sheet","kept","k","j"]
def Ka:Sp:=fun vs H Q _=>∃(H0:Hp)(p:Addr)(u ub v vb:Ξ)(st:List Int)(a1 a2 a3 a4 a5:Addr)(d1 d2 d3 d4:List Addr),vs=[.ref p]/\Same H0 H/\PapH H0 H p u ub v vb st a1 a2 a3 a4 a5 d1 d2 d3 d4/\(∀i,i<4->(fo u ub v vb i).length<=40/\∀r∈fo u ub v vb i,r.length<=40)/\st.length<=40/\∀H',Same H0 H'->Q (.bl true) H'
def Ds:zn yW ["sheet"] (zg Dp):=⟨rfl,rfl,rfl,δ,rfl,δ,δ⟩
def Pa{f:Addr}{fd:FuncData}(F:Fun K "_law_apart" "_law_apart" Dp f fd)(B:fC mg):ai P w K mg base av 1 f fd ["sheet"] Ka:=by
 refine F.ok Ds (fun vs H Q E h=>?_) (fun ak A outer s H vs Q E hr h=>?_)
 ·obtain⟨H0,p,u,ub,v,vb,st,a1,a2,a3,a4,a5,d1,d2,d3,d4,rfl,_⟩:=h;rfl
 ·obtain⟨H0,p,u,ub,v,vb,st,a1,a2,a3,a4,a5,d1,d2,d3,d4,rfl,Y,x,zz,yq,kk⟩:=h
  have aG:=hr.units;refine⟨_,zd (k4 (i:=1) Ds.nd rfl (Or.inl rfl) yW ["part"] [none] (Gn (m7 Hm (pv 0) mO (m4 ze))) (fun M C s₀ H₀ ex=>zl (i:=0) (bA ["part"]) rfl (Or.inl rfl)) (fun M C s₀ H₀ ex=>zy)
    (fun M C s₀ H₀ ex=>zu ["part"] ["row"] [none] (zJ (pv 0)) (fun M C s₀ H₀ ex=>zl (i:=0) (bA ["row"]) rfl (Or.inl rfl)) (fun M C s₀ H₀ ex=>zy) (fun M C s₀ H₀ ex=>kH rq rfl B.list Dm (za (pv 0) zb)) (te:=Dr K) (hfr:=bM δ))
    (te:=J' K) (hfr:=bM δ))
   (zd (eC AX rfl (zK rfl B.range (za ze zb)) (zl (i:=2) Ds.nd rfl (Or.inl rfl))
    (zd (eC AX rfl (zK rfl B.range (za (zk zj rfl B.len bR (za (zp zq (pv 1) (pv 2) (fun _ _=>rfl)) zb)) zb)) (zl (i:=3) Ds.nd rfl (Or.inl rfl))
     (zd (ie (m_ PySem.F.plainAttrs_list PySem.F.slot_list_append PySem.F.type_list_append kM (zp zq (zp zt (pv 0) (pv 2) (fun _ _=>rfl)) (pv 3) (fun _ _=>rfl)) (za ze zb)))
     (zd (ie (m_ PySem.F.plainAttrs_list PySem.F.slot_list_append PySem.F.type_list_append kM (zp zq (zp zq (pv 1) (pv 2) (fun _ _=>rfl)) (pv 3) (fun _ _=>rfl)) (za ze zb)))
     (zh (b8 (zv (ph aG) (eX (za (zp zt (pv 0) ze (fun _ _=>rfl)) (za (zp zt (pv 0) ze (fun _ _=>rfl)) (za (zp zt (pv 0) ze (fun _ _=>rfl)) (za (zp zt (pv 0) ze (fun _ _=>rfl)) zb))))) (pv 1) (ar _)) (zh (zo dk)) zF)))))
    (zd (ie (K_ PySem.F.plainAttrs_list PySem.F.slot_list_clear PySem.F.type_list_clear La (zp zt (pv 0) (pv 2) (fun _ _=>rfl))))
    (zd (gM (eX zb) (il (pv 1) (pv 2) set_list))
    (zh (b8 (zv (ph aG) (eX (za (zp zt (pv 0) ze (fun _ _=>rfl)) (za (zp zt (pv 0) ze (fun _ _=>rfl)) (za (zp zt (pv 0) ze (fun _ _=>rfl)) (za (zp zt (pv 0) ze (fun _ _=>rfl)) zb))))) (pv 1) (ar _)) (zh (zo dk)) zF))))))
   (zd (ie (m_ PySem.F.plainAttrs_list PySem.F.slot_list_append PySem.F.type_list_append kM (zp zt (pv 0) ze (fun _ _=>rfl)) (za ze zb)))
   (zh (zo dk)))),?_⟩
  refine⟨_,rfl,_,rfl,p,_,rfl,x.at_,fun p1 H1 N eV=>⟨p1,rfl,⟨_,SqT.of eV⟩,fun G O=>?_⟩⟩;have lY:=x.ap.same N;refine zw (O' (A:=fo a1 a2 a3 a4) eV lY (fun i hi=>(zz i hi).1) O fun H2 B2 E2 s2 cD ab U=>?_);have W:=N.trans s2;have vB:Apt H0 H2 p G a5 st (fo a1 a2 a3 a4) B2 (fo d1 d2 d3 d4) E2 (fo u ub v vb) (fo u ub v vb):=by
   have oj:=N _ _ x.n5;refine⟨Y.trans W,W _ _ x.at_,cD,W _ _ x.n5,x.ap.same W,ab,fun i k hi hk=>gq (H:=H1) (lY.there hi) fun z hz=>(U k hk z hz).1,fun i hi z hz=>⟨(x.nt i hi).new z hz,fun e=>?_,fun e=>x.j5 i hi z hz a5 (Ar ..) e⟩,fun i hi z hz=>⟨Y.free (N.free (U i hi z hz).1),(U i hi z hz).2,fun e=>?_⟩,Y.free (N.free O),x.na,fun e=>?_⟩
   ·exact lY.there hi z hz (e▸O)
   ·have:=(U i hi z hz).1
    rw[e,oj] at this;cases this
   ·rw[e,oj] at O;cases O
  refine⟨_,rfl,ξ,ξ,kn (lo:=0) (n:=4) (fun k σ H3=>∃(X y:Option V)(S:Nat->Addr)(J L:Nat->List Addr)(T:Nat->Ξ),σ=[some (.ref p),some (.ref G),X,y]/\Apt H0 H3 p G a5 st (fo a1 a2 a3 a4) S J L T T/\∀i,i<4->(T i).length<=40/\∀r∈T i,r.length<=40+40*k)
   ⟨none,none,B2,_,E2,_,rfl,vB,zz⟩ ?_ ?_⟩
  ·rintro k σ H3 hk ⟨X,y,S,J,L,T,rfl,o,Z⟩
   rw[show(0:Int)+((k:Nat):Int)=((k:Nat):Int) from ω];have lB:=(o.b.rw k hk).len;have tk:=(Z k hk).1;refine⟨_,rfl,_,rfl,G,_,_,_,rfl,rfl,SqL.of o.kp,zi (Dq hk),S k,_,rfl,.inl (SqL.of (o.b.at_ k hk)),_,rfl,ω,by rw[Aa];(first|lia|omega),?_⟩;rw[Aa,lB];generalize hn:(T k).length=n at tk;refine kn (lo:=0) (n:=n) (fun j σ H4=>∃(y:Option V)(T:Nat->Ξ),σ=[some (.ref p),some (.ref G),some (.int k),y]/\Apt H0 H4 p G a5 st (fo a1 a2 a3 a4) S J L T T/\(T k).length=n/\∀i,i<4->(T i).length<=40/\∀r∈T i,r.length<=40+40*k+j)
    ⟨y,T,rfl,o,hn,Z⟩ ?_ ?_
   ·rintro j σ H4 hj ⟨y,T,rfl,l,gF,D⟩
    rw[show(0:Int)+((j:Nat):Int)=((j:Nat):Int) from ω];have B7:=(l.a.rw k hk).len;have BK:=(l.b.rw k hk).len;obtain⟨da,ea⟩:∃d,(J k)[j]?=some d:=⟨_,Ab (show j<(J k).length from ω)⟩;obtain⟨db,eb⟩:∃d,(L k)[j]?=some d:=⟨_,Ab (show j<(L k).length from ω)⟩;obtain⟨ns,en,cS⟩:=(l.a.rw k hk).get ea;have kA:=Ak en;have aq:=(D k hk).2 ns kA;refine⟨_,rfl,_,rfl,p,_,_,_,rfl,rfl,SqT.of l.s,zi (J9 hk),_,rfl,_,_,_,_,rfl,rfl,SqL.of (l.a.at_ k hk),zi (v:=V.ref da) (by rw[Aj,ea];rfl),.inl ⟨rfl,_,SqL.of cS⟩,_,_,_,rfl,rfl,cS,yl (by rw[Aa];(first|lia|omega)),?_⟩;rw[show ns.map V.int++[V.int 9]=(ns++[9]).map V.int by rw[Ao];rfl];have I:=l.rowA (ns:=ns++[9]) hk ea cS;obtain⟨BB,qC,fI⟩:=(I.b.rw k hk).get eb;rw[en] at qC;obtain rfl:=AM qC;refine⟨_,rfl,_,rfl,G,_,_,_,rfl,rfl,SqL.of I.kp,zi (Dq hk),_,rfl,_,_,_,_,rfl,rfl,SqL.of (I.b.at_ k hk),zi (v:=V.ref db) (by rw[Aj,eb];rfl),.inl ⟨rfl,_,SqL.of fI⟩,_,_,_,rfl,rfl,fI,yl (by rw[Aa];(first|lia|omega)),?_⟩;rw[show ns.map V.int++[V.int 9]=(ns++[9]).map V.int by rw[Ao];rfl];have g:=I.rowB (ns:=ns++[9]) hk eb fI;refine⟨_,rfl,p,_,_,_,rfl,rfl,SqT.of g.s,zi (j:=0) rfl,_,rfl,p,_,_,_,rfl,rfl,SqT.of g.s,zi (j:=1) rfl,_,rfl,p,_,_,_,rfl,rfl,SqT.of g.s,zi (j:=2) rfl,_,rfl,p,_,_,_,rfl,rfl,SqT.of g.s,zi (j:=3) rfl,zA (by simp),fun q hq=>⟨_,rfl,g.eq hq ⟨_,rfl,aI ⟨_,_,rfl,g.same (Same.new hq),by rw[zI,List.length_set];exact gF,fun i hi=>?_⟩⟩⟩⟩
    by_cases c:i=k
    ·rw[c,zI,List.length_set]
     refine⟨(D k hk).1,fun r hr=>?_⟩;rcases List.mem_or_eq_of_mem_set hr with h|h
     ·have:=(D k hk).2 r h;(first|lia|omega)
     ·rw[h,AU]
      show ns.length+1<=_;(first|lia|omega)
    ·rw[cw c]
     exact⟨(D i hi).1,fun r hr=>by have:=(D i hi).2 r hr;(first|lia|omega)⟩
   ·rintro σ H4 ⟨y,T,rfl,l,gF,D⟩
    refine⟨_,rfl,_,rfl,p,_,_,_,rfl,rfl,SqT.of l.s,zi (J9 hk),.inl ⟨rfl,_,SqL.of (l.a.at_ k hk)⟩,_,_,rfl,rfl,l.a.at_ k hk,?_⟩;have I:=l.clear hk;refine⟨ξ,fun b hb=>⟨_,rfl,_,rfl,G,_,_,k,rfl,rfl,(I.same (Same.new hb)).kp,?_,?_⟩⟩
    ·exact xD ω (by show(k:Int)<4;(first|lia|omega))
    have g:=I.put hk hb;refine⟨_,rfl,p,_,_,_,rfl,rfl,SqT.of g.s,zi (j:=0) rfl,_,rfl,p,_,_,_,rfl,rfl,SqT.of g.s,zi (j:=1) rfl,_,rfl,p,_,_,_,rfl,rfl,SqT.of g.s,zi (j:=2) rfl,_,rfl,p,_,_,_,rfl,rfl,SqT.of g.s,zi (j:=3) rfl,zA (by simp),fun q hq=>⟨_,rfl,g.eq hq ⟨_,rfl,aI ⟨_,_,_,_,_,_,rfl,g.same (Same.new hq),fun i hi=>?_⟩⟩⟩⟩
    by_cases c:i=k
    ·rw[c,zI]
     exact⟨Aw _,fun r hr=>by cases hr⟩
    ·rw[cw c]
     exact⟨(D i hi).1,fun r hr=>by have:=(D i hi).2 r hr;(first|lia|omega)⟩
  ·rintro σ H3 ⟨X,y,S,J,L,T,rfl,o,Z⟩
   exact⟨_,rfl,p,_,_,_,rfl,rfl,SqT.of o.s,zi (j:=4) rfl,.inl ⟨rfl,_,SqL.of o.h5⟩,_,_,_,rfl,rfl,o.h5,yl (by rw[Aa];(first|lia|omega)),kk _ (o.sm.then o.n5)⟩
end
def Kb{a b:Tb.Vc}:∀n,Tb.dot (n+1) a b=a 0*b 0+Tb.dot n (fun u=>a (u+1)) (fun u=>b (u+1))
 |0=>by show(0:Int)+a 0*b 0=a 0*b 0+0;(first|lia|omega)
 |n+1=>by
  show Tb.dot (n+1) a b+a (n+1)*b (n+1)=a 0*b 0+(Tb.dot n _ _+a (n+1)*b (n+1));rw[Kb n];(first|lia|omega)
def Kc:∀{r c:List Int},r.length=c.length->dot r c=Tb.dot r.length (vc r) (vc c)
 |[],[],_=>rfl
 |x::r,y::c,h=>by
  have e:dot (x::r) (y::c)=x*y+dot r c:=rfl;rw[e,Kc (Nat.succ.inj h),AN,Kb]
  rfl
def F7{u v:Ξ}{i j:Nat}(hi:i<u.length)(a:j<wid v)(h:∀r∈u,r.length=v.length):fn (mulT u v) i j=Tb.dot v.length (fn u i) (fun s=>fn v s j):=by
 have e1:rowAt (mulT u v) i=(turn v).map (dot (rowAt u i)):=zG (by
  unfold mulT;rw[Aj,Ab hi,zG (Ab hi)];rfl)
 have b:(rowAt u i).length=v.length:=h _ (zH hi);have e2:vc ((turn v).map (dot (rowAt u i))) j=dot (rowAt u i) (colAt v j):=by
  unfold vc turn;rw[Ac,Aj,Aj,AL a];rfl
 show vc (rowAt (mulT u v) i) j=_;rw[e1,e2,Kc (by rw[b];unfold colAt;simp),b];refine Tb.zB fun s _=>?_;have:=eM (T:=v) a s;unfold fn at this;rw[pa a] at this;exact this
def Pb{st:List Int}{m:Int}(h1:(st.length:Int)<=m)(h2:∀x∈st,0<x)(d:∀i,i+1<st.length->vc st i ∣ vc st (i+1)):cn st m=true:=by
 unfold cn;rw[decide_eq_false ω,List.all_eq_true.mpr fun x hx=>decide_eq_true (h2 x hx)];show(Ay (fun a b=>decide (b%a=0)) st (st.drop 1)).all id=true;rw[AY];intro x hx;obtain⟨i,hi,rfl⟩:=A9 hx;have c:i+1<st.length:=by rw[AF,List.length_drop] at hi;(first|lia|omega)
 rw[A7,List.getElem_drop];have:=d i c;rw[iE ω,iE c] at this;refine decide_eq_true ?_;have e:st[1+i]'ω=st[i+1]:=by congr 1;(first|lia|omega)
 rw[e];exact Int.emod_eq_zero_of_dvd this
def Pc{st:List Int}{k w i j:Nat}(hi:i<k)(a:j<w):fn (slpT st k w) i j=if i=j/\i<st.length then vc st i else 0:=by
 unfold fn slpT;rw[pa hi];unfold bN vc
 by_cases c:i<st.length
 ·rw[if_pos c,Ac,List.getElem?_set]
  by_cases d:i=j
  ·rw[if_pos d,if_pos (show i<(Av w (0:Int)).length by rw[List.length_replicate];(first|lia|omega)),if_pos (And.intro d c)];rfl
  ·rw[if_neg d,if_neg fun h=>d h.1,List.getElem?_replicate,if_pos a];rfl
 ·rw[if_neg c,if_neg fun h=>c h.2,Ac,List.getElem?_replicate,if_pos a];rfl
def Pd{st:List Int}{k w:Nat}:∀r∈slpT st k w,r.length=w:=fun r hr=>by
 unfold slpT at hr;obtain⟨i,_,rfl⟩:=List.mem_map.mp hr;exact Jl
def Dt{u v:Ξ}{n:Nat}(d:u.length=n)(e:∀r∈u,r.length=n)(a:v.length=n)(f:∀r∈v,r.length=n)(h:∀i j,i<n->j<n->Tb.dot n (fn u i) (fun s=>fn v s j)=Tb.dl i j):mulT u v=unT n:=by
 have c:wid v=n:=yM f fun h=>ω
 refine FZ (by rw[kb,d]) wW (fun r hr=>by rw[pI r hr,c]) jw fun i j hi b=>?_;rw[F7 ω ω (by rw[a];exact e),a,h i j hi b,l6 hi]
 rfl
section
variable{k w:Nat}{tb u ub v vb:Ξ}{st:List Int}
def Pap.prod(p:Pap k w (fn tb) u ub v vb st)(l:tb.length=k)(d:∀r∈tb,r.length=w)(hw:wid tb=w){i j:Nat}(hi:i<k)(b:j<w):fn (mulT (mulT u tb) v) i j=if i=j/\i<st.length then vc st i else 0:=by
 have c:wid v=w:=yM p.wv fun h=>by have:=p.lv;(first|lia|omega)
 rw[F7 (by rw[kb,p.lu];exact hi) ω (fun r hr=>by rw[pI r hr,p.lv,hw]),p.lv];have e:∀t,t<w->fn (mulT u tb) i t=Tb.dot k (fn u i) (fun s=>fn tb s t):=fun t a=>by
  rw[F7 (by rw[p.lu];exact hi) ω (by rw[l];exact p.wu),l]
 rw[Tb.zR e,Tb.xk];exact p.pr i j hi b
def Pap.law(p:Pap k w (fn tb) u ub v vb st)(l:tb.length=k)(b:∀r∈tb,r.length=w)(hw:wid tb=w):jD tb u ub v vb st=true/\dP tb u ub v vb st=true:=by
 have a1:zY u k=true:=zQ.mpr ⟨p.lu,p.wu⟩;have a2:zY ub k=true:=zQ.mpr ⟨p.lub,p.wub⟩;have a3:zY v w=true:=zQ.mpr ⟨p.lv,p.wv⟩;have a4:zY vb w=true:=zQ.mpr ⟨p.lvb,p.wvb⟩;have c:=Dt p.lu p.wu p.lub p.wub p.u1;have m2:=Dt p.lub p.wub p.lu p.wu p.u2;have d:=Dt p.lv p.wv p.lvb p.wvb p.v1;have e:=Dt p.lvb p.wvb p.lv p.wv p.v2;have f:cn st (if(w:Int)<(k:Int) then(w:Int) else(k:Int))=true:=Pb (by have:=p.sk;have:=p.sw;split<;>(first|lia|omega)) p.sp p.sd;have g:wid v=w:=yM p.wv fun h=>by have:=p.lv;(first|lia|omega)
 unfold jD dP fE cm;rw[hw,l,a1,a2,a3,a4,c,m2,d,e,f];simp only[decide_true,Bool.and_self,Bool.true_and];constructor
 ·unfold ka
  rw[AY];intro i hi;rw[AY];intro j a;exact decide_eq_true (p.prod l b hw (List.mem_range.mp hi) (List.mem_range.mp a))
 ·refine decide_eq_true (FZ (by rw[kb,kb,p.lu]) (by unfold slpT;simp) (fun r hr=>by rw[pI r hr,g]) Pd fun i j hi a=>?_)
  rw[p.prod l b hw hi a,Pc hi a]
end
def mH:Good 20 5 1:=⟨ξ,ξ,ξ,ξ,ξ,ξ⟩
def y2:Good 6 3 10:=⟨ξ,ξ,ξ,ξ,ξ,ξ⟩
def Pe{tb:Ξ}{m:Int}{q:Nat}(h:∀r∈tb,Bnd m r)(a:m<=(2 ^ q:Nat)):Ent tb (2 ^ q):=fun i u=>by
 unfold fn
 by_cases c:i<tb.length
 ·have hr:=h _ (zH c)
  by_cases d:u<(rowAt tb i).length
  ·rw[iE d]
   have:=hr _ (Az d);(first|lia|omega)
  ·rw[je ω];exact Aw _
 ·rw[wR ω];exact Aw _
def Kd(tb:Ξ):Prop:=∃N n m,xi N n m tb.length (wid tb) tb
def Ke{tb:Ξ}{N n m c:Nat}{b:Int}(g:Good N n m)(hr:∀r∈tb,r.length=c/\Bnd b r)(f:tb.length<=N)(hc:c<=N)(hb:b<=(2 ^ m:Nat)):cu tb=true/\Kd tb/\Sm9 tb:=by
 have i:=g.N40;have a:(∀r∈tb,r.length=wid tb)/\wid tb<=N:=by
  cases e:tb with
  |nil=>exact⟨fun r hr=>(by cases hr),Aw _⟩
  |cons x l=>
   rw[e] at hr;have e1:wid (x::l)=x.length:=rfl;rw[e1,(hr x (Ar ..)).1];exact⟨fun r h=>(hr r h).1,hc⟩
 have d:=Pe (fun r h=>(hr r h).2) hb;refine⟨?_,⟨N,n,m,g,rfl,a.1,d,f,a.2⟩,fun r hr x hx=>Ag (d.mem r hr x hx) (AJ ξ g.m9)⟩;unfold cu;rw[decide_eq_true (show tb.length<=40 from ω),decide_eq_true (show wid tb<=40 from ω)];simp only[Bool.and_self,Bool.true_and,AY];exact fun r h=>decide_eq_true (a.1 r h)
noncomputable abbrev hX:Stmt:=top 59
def SqL.far{K:Af}{H H':Hp}{a p:Addr}{xs:List V}{o:HO}(h:L2.SqL K H a xs)(hp:H p=none)(s:zah p (L2.upd H p o) H'):L2.SqL K H' a xs:=by
 rcases h with (h|⟨u,h⟩)|h
 ·exact .inl (.inl (s _ _ (zm h hp) ((Same.new hp) _ _ h)))
 ·exact .inl (.inr ⟨u,s _ _ (zm h hp) ((Same.new hp) _ _ h)⟩)
 ·exact .inr h
def wj(ns:List Int):SeqAt.shaped (dO ns)=true:=by
 have e:PyData.depth (dO ns)<=64:=by
  have:PyData.depth (dO ns)<=2:=by simp[PyData.depth,PySem.W.ke_depthAll]
  (first|lia|omega)
 unfold SeqAt.shaped;rw[decide_eq_true e,dO,PyData.canLay0,JB]
 rfl
section
variable{P:Program}{w:World}{K:Af}{mg:Str->Option Value}{base:Heap}
def Pf{H2:Hp}{L e:Addr}{A:Nat->Addr}{Q:VK}{te:TE}(l:∀(i:Nat)(H:Hp)(R:VK),i<4->Same H2 H->(∀H',Same H H'->R (.bl true) H')->te [some (.ref (A i))] H R)(o:H2 L=some (.tup [.ref (A 0),.ref (A 1),.ref (A 2),.ref (A 3)]))(h:H2 e=none)(k:∀a,Same H2 a->a e=some (.lst (((Ah 4).map fun _=>true).map V.bl))->Q (.ref e) a):cf (qi K L) (zL 0) bC te [none] H2 e Q:=by
 refine G5 (xs:=[.ref (A 0),.ref (A 1),.ref (A 2),.ref (A 3)]) (fun j σ ys a=>∃(v:Option V),σ=[v]/\Same H2 a/\a e=some (.lst ys)/\ys=((Ah j).map fun _=>true).map V.bl)
  ⟨none,rfl,Same.new h,zc,rfl⟩ (fun i σ ys a ⟨_,_,sm,_⟩=>SqT.of (sm _ _ o)) ?_ ?_
 ·rintro j σ ys a x hx g hy ⟨v,rfl,b,c,rfl⟩
  have d:j<4:=g;rw[Dq d] at hx;obtain rfl:=AM hx;refine ci (l j a _ d b fun p f=>bI (zA (by simp)) g hy (f _ _ c) ⟨_,rfl,(b.trans f).then h,zc,?_⟩);rw[List.range_succ,Ao,Ao];rfl
 ·rintro σ ys a ⟨v,rfl,b,c,rfl⟩
  exact k a b c
noncomputable abbrev Du:List Str:=["script","box","table","handed","turn","sheet"]
def Dv(K:Af):Sp:=fun vs H Q _=>∃(a:Addr)(ns:List Int),vs=[.ref a]/\SqL K H a (ns.map V.int)/\ns.length<=63/\∀H',Q (.bl true) H'
def mK:zn Du ["script"] (zg hX):=⟨rfl,rfl,rfl,δ,rfl,δ,δ⟩
def Pg{f fc fb ft mT lj fs fi mQ fr fl fk fp fa:Addr}{fd aV dE bF fF fN ay fK bX aW bD fZ a_ dC:FuncData}(F:Fun K "law" "law" hX f fd)(B:fC mg)(jl:mg "tuple"=none)(Fc:Fun K "_law_cell_at" "_law_cell_at" Dh fc aV)(bc:Binds K aV ["script","k"] [])(mc:mg "_law_cell_at"=some (.ref fc))(Fb:Fun K "_law_box" "_law_box" jB fb dE)(bb:Binds K dE ["cell"] [])(mb:mg "_law_box"=some (.ref fb))(Ft:Fun K "_law_take" "_law_take" my ft bF)(bt:Binds K bF ["box","most"] [])(mt:mg "_law_take"=some (.ref ft))(Ftb:Fun K "_law_table" "_law_table" jC mT fF)(vH:Binds K fF ["box","most"] [])(uo:mg "_law_table"=some (.ref mT))(kB:ai P w K mg base av 3 mT fF ["box","most"] JU)(Fwt:Fun K "_law_wide_table" "_law_wide_table" yO lj fN)(uP:Binds K fN ["box","least","more"] [])(uu:mg "_law_wide_table"=some (.ref lj))(kY:ai P w K mg base av 2 lj fN ["box","least","more"] J7)(Fs:Fun K "stepped" "stepped" xn fs ay)(bs:Binds K ay ["table"] [])(ms:mg "stepped"=some (.ref fs))(Gs:ai P w K mg base av 7 fs ay ["table"] (FQ K))(Fi:Fun K "is_stepped" "is_stepped" Db fi fK)(bi:Binds K fK ["table","paper"] [])(mi:mg "is_stepped"=some (.ref fi))(Gi:ai P w K mg base av 5 fi fK ["table","paper"] (JM K))(Fo:Fun K "steps_of" "steps_of" xy mQ bX)(bo:Binds K bX ["table"] [])(mo:mg "steps_of"=some (.ref mQ))(Go:ai P w K mg base av 8 mQ bX ["table"] (FR K))(Fr:Fun K "rank" "rank" Dd fr aW)(br:Binds K aW ["table"] [])(mr:mg "rank"=some (.ref fr))(Gr:ai P w K mg base av 9 fr aW ["table"] (JH K))(Fl:Fun K "_law_table_like" "_law_table_like" Dl fl bD)(bl:Binds K bD ["found"] [])(ml:mg "_law_table_like"=some (.ref fl))(Gl:ai P w K mg base av 3 fl bD ["found"] FX)(Fk:Fun K "_law_row_like" "_law_row_like" x3 fk fZ)(bk:Binds K fZ ["found"] [])(mk:mg "_law_row_like"=some (.ref fk))(Gk:ai P w K mg base av 2 fk fZ ["found"] Dn)(Fp:Fun K "_law_paper_right" "_law_paper_right" yL fp a_)(bp:Binds K a_ ["table","sheet"] [])(mp:mg "_law_paper_right"=some (.ref fp))(Gp:ai P w K mg base av 4 fp a_ ["table","sheet"] (J6 K))(Fa:Fun K "_law_apart" "_law_apart" Dp fa dC)(ba:Binds K dC ["sheet"] [])(ma:mg "_law_apart"=some (.ref fa)):ai P w K mg base av 10 f fd ["script"] (Dv K):=by
 have Gc:ai P w K mg base av 1 fc aV ["script","k"] (JP K):=OE Fc B;have Gb:ai P w K mg base av 1 fb dE ["cell"] JQ:=OG Fb;have Gt:ai P w K mg base av 1 ft bF ["box","most"] pB:=Di Ft;have Ga:ai P w K mg base av 1 fa dC ["sheet"] Ka:=Pa Fa B;refine F.ok mK (fun vs H Q E h=>?_) (fun ak A outer s H vs Q E hr h=>?_)
 ·obtain⟨a,ns,rfl,_⟩:=h;rfl
 ·obtain⟨a,ns,rfl,hs,hn,k⟩:=h
  have aG:=hr.units;have b:Room 1 _:=hr.mono ξ;have W:Room 2 _:=hr.mono ξ;have X:Room 3 _:=hr.mono ξ;have cr:Room 4 _:=hr.mono ξ;have j0:Room 5 _:=hr.mono ξ;have yg:Room 7 _:=hr.mono ξ;have t9:Room 8 _:=hr.mono ξ;have T3:∃tt,PSs (dU av P w K mg base Du "law" (zg hX) f ak A outer s H E).nox (List.drop 3 (za7 hX)) tt/\∀(p L:Addr)(rs:List Addr)(tb:Ξ)(H':Hp),
    H' L=some (.lst (rs.map V.ref))->Rws H' rs tb->cu tb=true->Kd tb->Sm9 tb->
    tt {nx:=fun _ H'=>Q .non H',rt:=Q} [some (.ref a),some (.ref p),some (.ref L),none,none,none] H':=by
   refine⟨_,zd (k4 (i:=3) mK.nd rfl (Or.inl rfl) Du ["row"] [none] (zJ (pv 2)) (fun M C s₀ H₀ ex=>zl (i:=0) (bA ["row"]) rfl (Or.inl rfl)) (fun M C s₀ H₀ ex=>zy)
      (fun M C s₀ H₀ ex=>kH rq rfl B.list Dm (za (pv 0) zb)) (te:=Dr K) (hfr:=bM δ))
    (zd (eC AX rfl (zK rfl B.range (za ze zb)) (zl (i:=4) mK.nd rfl (Or.inl rfl))
     (zd (zr (i:=5) mK.nd rfl (Or.inl rfl) (zf Gs yg rfl ms Fs.kp bs .nil ac (za (pv 3) zb)))
     (zd (b8 (PW.pt (gs (dS (dR (zk LU rfl B.isinstance x9 (za (pv 5) (za (p6 (v:=.ty "tuple") rfl jl Hy rfl) zb))))) (gs (zv iU (zk zj rfl B.len bR (za (pv 5) zb)) ze (ar _)) (hZ (zv (ph aG) (pv 3) (pv 2) (ar _)))))) (zh (zo dk)) zF)
     (zd (b8 (PW.pt (gs (dS (dR (zk (iZ rfl) rfl B.all i5 (za (zu Du ["part"] [none] (Gn (m7 Hm (pv 5) mO (m4 ze))) (fun M C s₀ H₀ ex=>zl (i:=0) (bA ["part"]) rfl (Or.inl rfl)) (fun M C s₀ H₀ ex=>zy) (fun M C s₀ H₀ ex=>zf Gl X rfl ml Fl.kp bl .nil ac (za (pv 0) zb)) (te:=e8 FX [] E0 (zX (au 0) bB)) (hfr:=bM δ)) zb))))
      (hZ (dS (dR (zf Gk W rfl mk Fk.kp bk .nil ac (za (zp zt (pv 5) ze (fun _ _=>rfl)) zb))))))) (zh (zo dk)) zF)
     (zd (b8 (PW.pt (gs (dS (dR (zf Gp cr rfl mp Fp.kp bp .nil ac (za (pv 2) (za (pv 5) zb))))) (gs (zv MA (zf Gi j0 rfl mi Fi.kp bi .nil ac (za (pv 3) (za (pv 5) zb))) dk (ar _)) (hZ (zv (ph aG) (pv 3) (pv 2) (ar _)))))) (zh (zo dk)) zF)
     (zd (b8 (PW.pt (gs (zv (ph aG) (zf Go t9 rfl mo Fo.kp bo .nil ac (za (pv 3) zb)) (zp zt (pv 5) ze (fun _ _=>rfl)) (ar _)) (hZ (zv iU (zf Gr hr rfl mr Fr.kp br .nil ac (za (pv 3) zb)) (zk zj rfl B.len bR (za (zp zt (pv 5) ze (fun _ _=>rfl)) zb)) (ar _))))) (zh (zo dk)) zF)
     (zh (b8 (dS (dR (zf Ga b rfl ma Fa.kp ba .nil ac (za (pv 5) zb)))) (zh (zo dk)) zF))))))))
    (zh (zo dk))),?_⟩
   intro p L rs tb H0 Y hT it to s9;obtain⟨N,n,m,ok⟩:=to;obtain⟨T,t2,t3⟩:=k9 it;refine⟨_,rfl,L,rfl,⟨_,SqL.of Y⟩,fun D hD=>zw (J_ (SqL.of Y) hT ω hD fun H1 ds s1 O S aO hn=>?_)⟩;refine⟨_,rfl,ξ,ξ,kn (lo:=0) (n:=2) (fun i σ H2=>∃(v4 v5:Option V),σ=[some (.ref a),some (.ref p),some (.ref L),some (.ref D),v4,v5]/\Same H1 H2) ⟨none,none,rfl,Same.refl _⟩ ?_ ?_⟩
   ·rintro i σ H2 hi ⟨v4,v5,rfl,U⟩
    have EQ:∀(J:Hp)(Z:VK),Same H1 J->Z (.bl false) J->jy true K (.ref D) (.ref L) J Z:=fun J Z sm z=>by
     refine⟨bP tb,bP tb,fy (SqL.of (sm _ _ O)) (S.same sm),fy (SqL.of (sm _ _ (s1 _ _ Y))) (hT.same (s1.trans sm)),zU _,zU _,pu _ _,?_⟩;rw[if_pos rfl,mh,decide_eq_true rfl];exact z
    refine⟨_,rfl,D,ds,tb,N,n,m,rfl,U _ _ O,S.same U,it,ok,?_⟩;intro H3 q u ub v vb st a1 a2 a3 a4 a5 d1 d2 d3 d4 s3 I pp;have aU:=U.trans s3;have l:∀i,i<4->(fo u ub v vb i).length<=40/\∀r∈fo u ub v vb i,r.length<=40:=fun i hi=>by
     obtain rfl|rfl|rfl|rfl:=mF hi
     ·exact⟨by show u.length<=40;rw[pp.lu];exact T,fun r hr=>by rw[pp.wu r hr];exact T⟩
     ·exact⟨by show ub.length<=40;rw[pp.lub];exact T,fun r hr=>by rw[pp.wub r hr];exact T⟩
     ·exact⟨by show v.length<=40;rw[pp.lv];exact t2,fun r hr=>by rw[pp.wv r hr];exact t2⟩
     ·exact⟨by show vb.length<=40;rw[pp.lvb];exact t2,fun r hr=>by rw[pp.wvb r hr];exact t2⟩
    have zs:st.length<=40:=Ag pp.sk T;obtain⟨j3,kX⟩:=pp.law rfl t3 rfl;refine⟨_,rfl,q,_,rfl,I.at_,_,rfl,aI ⟨_,rfl,q,_,rfl,.inr (SqT.of I.at_),rfl,_,rfl,aI ⟨_,rfl,_,rfl,EQ H3 _ aU ⟨_,rfl,aI ?_⟩⟩⟩⟩;refine⟨_,rfl,_,rfl,q,_,rfl,I.at_,fun p1 J s4 eV=>⟨p1,rfl,⟨_,SqT.of eV⟩,fun DD fP=>zw (Pf (A:=fo a1 a2 a3 a4) (fun i H5 R hi sm hR=>⟨_,rfl,fo a1 a2 a3 a4 i,fo d1 d2 d3 d4 i,fo u ub v vb i,rfl,((I.nt i hi).same (s4.trans sm)).at_,((I.nt i hi).same (s4.trans sm)).rows,by have:=(l i hi).1;(first|lia|omega),fun r hr=>by have:=(l i hi).2 r hr;(first|lia|omega),hR⟩) eV fP fun H5 s5 jX=>⟨DD,_,rfl,SqL.of jX,_,rfl,aI ?_⟩)⟩⟩;have lL:=s4.trans s5;refine⟨_,rfl,q,_,_,_,rfl,rfl,SqT.of (lL _ _ I.at_),zi (j:=4) rfl,a5,st,rfl,lL _ _ I.n5,ω,fun H6 s6=>⟨_,rfl,aI ?_⟩⟩;have dX:=lL.trans s6;have o:=I.same dX;have dm:=aU.trans dX;refine⟨_,rfl,_,rfl,L,q,a1,a2,a3,a4,a5,rs,d1,d2,d3,d4,tb,u,ub,v,vb,st,rfl,dm _ _ (s1 _ _ Y),hT.same (s1.trans dm),it,o.at_,o.n1.at_,o.n2.at_,o.n3.at_,o.n4.at_,o.n5,o.n1.rows,o.n2.rows,o.n3.rows,o.n4.rows,?_,?_,?_,?_,ω,s9,pp.su,pp.sub,pp.sv,pp.svb,fun H7 s7=>⟨_,rfl,?_⟩⟩
    ·have:=(l 0 ξ).1;exact Ag this ξ
    ·have:=(l 1 ξ).1;exact Ag this ξ
    ·have:=(l 2 ξ).1;exact Ag this ξ
    ·have:=(l 3 ξ).1;exact Ag this ξ
    rw[j3];have G:=o.same s7;have eD:=dm.trans s7;refine aI ⟨_,rfl,_,rfl,D,q,a1,a2,a3,a4,a5,ds,d1,d2,d3,d4,tb,u,ub,v,vb,st,rfl,eD _ _ O,S.same eD,it,G.at_,G.n1.at_,G.n2.at_,G.n3.at_,G.n4.at_,G.n5,G.n1.rows,G.n2.rows,G.n3.rows,G.n4.rows,?_,?_,?_,?_,ω,s9,pp.su,pp.sub,pp.sv,pp.svb,fun H8 s8=>⟨_,_,rfl,rfl,_,rfl,?_⟩⟩
    ·have:=(l 0 ξ).1;exact Ag this ξ
    ·have:=(l 1 ξ).1;exact Ag this ξ
    ·have:=(l 2 ξ).1;exact Ag this ξ
    ·have:=(l 3 ξ).1;exact Ag this ξ
    rw[kX];have du:=eD.trans s8;have xF:=G.same s8;refine aI ⟨_,rfl,_,rfl,EQ H8 _ du ⟨_,rfl,aI ?_⟩⟩;refine⟨_,rfl,D,ds,tb,N,n,m,rfl,du _ _ O,S.same du,it,ok,fun e H9 u' cA v' cP ae bO he qT mX=>?_⟩;obtain rfl:=pp.uniq mX;have gJ:=du.trans bO;have kP:=xF.same bO;refine⟨_,rfl,q,_,_,_,rfl,rfl,SqT.of kP.at_,zi (j:=4) rfl,dO st,dO st,FN (SqL.of qT),FN (SqL.of kP.n5),wj _,wj _,Oo _ _,_,rfl,?_⟩;rw[if_pos rfl,Jy,decide_eq_true rfl];refine aI ⟨_,rfl,D,ds,tb,N,n,m,rfl,gJ _ _ O,S.same gJ,it,ok,fun yI u' cA v' cP ae pq mX=>?_⟩;obtain rfl:=pp.uniq mX;have fU:=kP.same pq;refine⟨_,rfl,q,_,_,_,rfl,rfl,SqT.of fU.at_,zi (j:=4) rfl,a5,_,rfl,.inl (SqL.of fU.n5),rfl,_,rfl,?_⟩;rw[Aa,decide_eq_true rfl];refine aI ⟨_,rfl,H2,q,u,ub,v,vb,st,a1,a2,a3,a4,a5,d1,d2,d3,d4,rfl,((((s3.trans dX).trans s7).trans s8).trans bO).trans pq,fU,l,zs,fun Cc wl=>⟨_,rfl,aI ⟨_,_,rfl,U.trans wl⟩⟩⟩
   ·rintro σ H2 ⟨v4,v5,rfl,U⟩
    exact k H2
  obtain⟨tt,xx,kt⟩:=T3;refine⟨_,zd (zr (i:=1) mK.nd rfl (Or.inl rfl) (zf Gb b rfl mb Fb.kp bb .nil ac (za (zf Gc b rfl mc Fc.kp bc .nil ac (za (pv 0) (za ze zb))) zb)))
   (zd (zr (i:=2) mK.nd rfl (Or.inl rfl) (zf kB X rfl uo Ftb.kp vH .nil ac (za (pv 1) (za (zp zq (eX (za ze (za ze (za ze (za ze (za ze (za ze (za ze (za ze zb))))))))) (zf Gt b rfl mt Ft.kp bt .nil ac (za (pv 1) (za ze zb))) (fun _ _=>rfl)) zb))))
   (zd (b8 (zv fV (zf Gt b rfl mt Ft.kp bt .nil ac (za (pv 1) (za ze zb))) ze (ar _))
    (zh (zr (i:=2) mK.nd rfl (Or.inl rfl) (zf kY W rfl uu Fwt.kp uP .nil ac (za (pv 1) (za ze (za ze zb)))))) zF)
   xx)),?_⟩
  refine⟨_,rfl,a,ns,0,rfl,hs,fun n1=>⟨n1,rfl,fun p x y hp t7=>?_⟩⟩;have eF:zV (upd H p (.lst [.int x,.int y])) p:=⟨x,y,zc,t7⟩;refine⟨_,rfl,zA (by simp),fun q hq=>⟨_,rfl,p,_,rfl,eF.new hq,ξ,ξ,fun z H1 z0 z1 fG cJ=>?_⟩⟩;have Ca:zah p (upd H p (.lst [.int x,.int y])) (upd (upd H p (.lst [.int x,.int y])) q (.lst [.int 4,.int 4,.int 4,.int 4,.int 4,.int 4,.int 4,.int 6])):=.of (Same.new hq);obtain⟨g,eg,g6⟩:∃g:Nat,atI [V.int 4,.int 4,.int 4,.int 4,.int 4,.int 4,.int 4,.int 6] z=some (.int g)/\g<=6:=by
   have:z=0\/z=1\/z=2\/z=3\/z=4\/z=5\/z=6\/z=7:=ω
   rcases this with rfl|rfl|rfl|rfl|rfl|rfl|rfl|rfl
   all_goals first|exact⟨4,rfl,ξ⟩|exact⟨6,rfl,ξ⟩
  have hpq:q≠p:=iK eF hq;refine⟨q,_,_,_,rfl,rfl,SqL.of (fG _ _ hpq zc),eg,p,g,rfl,g6,cJ,fun L H2 c n hc hn T1=>?_⟩;obtain⟨ds,tb,gK,hb3,hF,cY,hl,uO,u_,h0⟩:=T1;have tX:L≠p:=iK cJ h0;have dp:∀d∈ds,d≠p:=fun d hd=>iK cJ (u_ d hd).1;refine⟨_,rfl,p,_,rfl,hb3,ξ,ξ,fun z2 H3 _ _ fJ cQ=>⟨rfl,_,rfl,?_⟩⟩;refine dY (fun _=>?_) (fun _=>?_)
  ·refine⟨_,rfl,p,rfl,cQ,fun L2 J c2 n2 pN fA T2=>?_⟩
   obtain⟨kj,vU,jQ,iV,rB,jT,nW,jR,vX,y_⟩:=T2;obtain⟨i1,i2,i3⟩:=Ke mH jR ω pN ξ;exact kt p L2 kj vU J rB jT i1 i2 i3
  ·obtain⟨i1,i2,i3⟩:=Ke y2 uO ω ω ξ
   exact kt p L ds tb H3 (fJ _ _ tX hF) (cY.sameB fJ dp) i1 i2 i3
end
end K21
end
section
namespace L2
open PySem PySem.Spec PyProof.Rows
section
variable{P:Program}{w:World}{K:Af}{mg:Str->Option Value}{base:Heap}{CX:f'}{k:Nat}{f:Addr}{fd:FuncData}{x:Str}{st:Stmt}{ps:List Str}{sp sq:Sp}
structure Df(K:Af)(x:Str)(st:Stmt)(f:Addr):Prop where
 ex:∃fd,Fun K x x st f fd
 a:PySem.W.nsIn K mainGlobals x=some (some (.ref f))
def F8{i:Value}{j g:Option Addr}{h:Array (Option Value)}{kV d e b ct:Value}(a:PySem.W.nsIn K mainGlobals x=some (some (.ref f)))(l:K.lookup f=some ⟨i,j,.func (PySem.W.fnOf x x (zcg st) (za7 st) (zg st) .none kV d e g b ct),h⟩)(c:PySem.W.codeIn K b x=true)(k:PySem.W.keepIn K (.ref f)=true):Df K x st f:=⟨⟨_,Ls l c k⟩,a⟩
structure Nn(K:Af)(x:Str)(v:Option Value):Prop where
 e:PySem.W.nsIn K mainGlobals x=some v
abbrev BA(x:Str)(st:Stmt)(us:List Value)(r:List (Str×Value)):Prop:=∀(kV bG pm:Value)(an:Option Addr)(ak ct:Value),bindArgs (PySem.W.fnOf x x (zcg st) (za7 st) (zg st) .none kV bG pm an ak ct) ⟨us,[]⟩=pure r
variable{h:Heap}(X:K.In h)(G:h.Ns mainGlobals mg)
include X G
theorem Nn.m{v:Value}(n:Nn K x (some v)):mg x=some v:=PySem.W.mg_of X G n.e
theorem Nn.n(n:Nn K x none):mg x=none:=PySem.W.mg_none_of X G n.e
theorem Df.m(D:Df K x st f):mg x=some (.ref f):=PySem.W.mg_of X G D.a
theorem Df.g1(D:Df K x st f)(p:Str)(hb:∀a,BA x st [a] [(p,a)]:=by exact fun _ _ _ _ _ _ _=>rfl):∃fd,Fun K x x st f fd/\Binds K fd [p] []/\mg x=some (.ref f):=by
 obtain⟨⟨fd,F⟩,a⟩:=D;refine⟨fd,F,F.binds fun _ _ _ _ _ _ us b=>?_,PySem.W.mg_of X G a⟩
 match us,b with
 |[a],_=>exact hb a _ _ _ _ _ _
theorem Df.g2(D:Df K x st f)(p q:Str)(hb:∀a b,BA x st [a,b] [(p,a),(q,b)]:=by exact fun _ _ _ _ _ _ _ _=>rfl):∃fd,Fun K x x st f fd/\Binds K fd [p,q] []/\mg x=some (.ref f):=by
 obtain⟨⟨fd,F⟩,a⟩:=D;refine⟨fd,F,F.binds fun _ _ _ _ _ _ us c=>?_,PySem.W.mg_of X G a⟩
 match us,c with
 |[a,b],_=>exact hb a b _ _ _ _ _ _
theorem Df.g3(D:Df K x st f)(p q r:Str)(hb:∀a b c,BA x st [a,b,c] [(p,a),(q,b),(r,c)]:=by exact fun _ _ _ _ _ _ _ _ _=>rfl):∃fd,Fun K x x st f fd/\Binds K fd [p,q,r] []/\mg x=some (.ref f):=by
 obtain⟨⟨fd,F⟩,a⟩:=D;refine⟨fd,F,F.binds fun _ _ _ _ _ _ us d=>?_,PySem.W.mg_of X G a⟩
 match us,d with
 |[a,b,c],_=>exact hb a b c _ _ _ _ _ _
theorem Df.g4(D:Df K x st f)(p q r s:Str)(hb:∀a b c d,BA x st [a,b,c,d] [(p,a),(q,b),(r,c),(s,d)]:=by exact fun _ _ _ _ _ _ _ _ _ _=>rfl):∃fd,Fun K x x st f fd/\Binds K fd [p,q,r,s] []/\mg x=some (.ref f):=by
 obtain⟨⟨fd,F⟩,a⟩:=D;refine⟨fd,F,F.binds fun _ _ _ _ _ _ us e=>?_,PySem.W.mg_of X G a⟩
 match us,e with
 |[a,b,c,d],_=>exact hb a b c d _ _ _ _ _ _
omit X G
end
end L2
end
section
namespace K21
open PySem L2
def Ph{l:PySem.W.OpenLaw}{w:World}{K:Af}{h:Heap}{mg:Str->Option Value}{fa f1 f2 f3 f4 f5 f6 f7 f8 f9 rm rR ur vE qH uc xJ tQ uD uQ rz wx vj vn qI wf wk qK w4 xL wI wm xC tV vO vo tY vW sf vP rA tS uV wD vd uf xf sU vI sM r9 rK :Addr}{tr tc:Tok}(X:K.In h)(G:h.Ns mainGlobals mg)(u7:mg "law"=some (.ref fa))(d1:Df K "is_table" sy f1)(d2:Df K "width_of" jG f2)(d3:Df K "must_be_table" sF f3)(d4:Df K "rows_by" nE f4)(d5:Df K "row_by" sL f5)(d6:Df K "sum_by" Cw f6)(d7:Df K "columns_of" k8 f7)(d8:Df K "columns_to" nK f8)(d9:Df K "column_of" gW f9)(f_:Df K "stepped" xn rm)(vR:Df K "is_stepped" Db rR)(sI:Df K "is_back" Dc ur)(tK:Df K "is_of_size" vu vE)(xz:Df K "are_steps" vG qH)(uA:Df K "on_slope" oZ uc)(rG:Df K "slope_row" vg xJ)(tP:Df K "steps_of" xy tQ)(ud:Df K "rank" Dd uD)(xZ:Df K "paper_of" C8 uQ)(ui:Df K "is_in_steps" CY rz)(u9:Df K "unit" vr wx)(qV:Df K "is_on_slope" ww vj)(wq:Df K "slope_of" wG vn)(wg:Df K "straightened" dN qI)(qF:Df K "echelon_of" jk wf)(vx:Df K "take_in" CU wk)(uT:Df K "reduced" i9 qK)(vz:Df K "less" jK w4)(rh:Df K "first_place" CI xL)(vY:Df K "divisor_pair" tw wI)(rE:Df K "mix_of_two" sV wm)(xr:Df K "mix_of" jn xC)(sK:Df K "shares_of" i' tV)(xR:Df K "slid" CW vO)(q8:Df K "_law_cell_at" Dh vo)(rF:Df K "_law_box" jB tY)(x6:Df K "_law_take" my vW)(tG:Df K "_law_row" hO sf)(uN:Df K "_law_table" jC vP)(uL:Df K "_law_wide" xI rA)(vK:Df K "_law_product" pG tS)(tj:Df K "_law_even" yw uV)(rL:Df K "_law_whole" xU wD)(sO:Df K "_law_row_like" x3 vd)(wJ:Df K "_law_table_like" Dl uf)(rP:Df K "_law_square" yB xf)(xH:Df K "_law_backs" Do sU)(ul:Df K "_law_paper_right" yL vI)(xj:Df K "_law_wide_table" yO sM)(wy:Df K "_law_apart" Dp r9)(pk:Df K "law" hX rK)(gr:Nn K "MOST_ROWS" (some (.int 40 tr)))(gc:Nn K "MOST_COLUMNS" (some (.int 40 tc)))(z1:Nn K "len" none)(z2:Nn K "all" none)(z3:Nn K "zip" none)(z4:Nn K "sum" none)(z5:Nn K "range" none)(z6:Nn K "list" none)(z7:Nn K "int" none)(z8:Nn K "bool" none)(z9:Nn K "isinstance" none)(rD:Nn K "max" none)(xu:Nn K "sorted" none)(wL:Nn K "tuple" none)(tu:Nn K "enumerate" none)(vS:Nn K "min" none):∃fd:FuncData,(∀(s:Shared)(v:Value),BindsTo s fd ⟨[v],[]⟩ [("script",v)])/\∀base:Heap,K.In base->base.Ns mainGlobals mg->ai l.prog w K mg base av 10 fa fd ["script"] (Dv K):=by
 cases u7.symm.trans (pk.m X G);have B:fC mg:=⟨z1.n X G,z2.n X G,z3.n X G,z4.n X G,z5.n X G,z6.n X G,z7.n X G,z8.n X G,z9.n X G,rD.n X G⟩;obtain⟨g1,F1,b1,m1⟩:=d1.g1 X G "table";obtain⟨g2,a,b,m2⟩:=d2.g1 X G "table";obtain⟨g3,M,S,T⟩:=d3.g1 X G "table";obtain⟨g4,N,U,Y⟩:=d4.g2 X G "table" "columns";obtain⟨g5,F5,b5,m5⟩:=d5.g2 X G "row" "columns";obtain⟨g6,F6,b6,m6⟩:=d6.g2 X G "row" "column";obtain⟨g7,e,f,g⟩:=d7.g1 X G "table";obtain⟨g8,O,Z,m8⟩:=d8.g2 X G "table" "width";obtain⟨g9,F9,b9,m9⟩:=d9.g2 X G "table" "k";obtain⟨BO,x,nQ,pi⟩:=f_.g1 X G "table";obtain⟨BX,qv,vt,ue⟩:=vR.g2 X G "table" "paper";obtain⟨Cg,nH,rX,vm⟩:=sI.g3 X G "turn" "back" "size";obtain⟨BJ,oP,xt,rf⟩:=tK.g2 X G "table" "size";obtain⟨yn,y,pE,qA⟩:=xz.g2 X G "steps" "most";obtain⟨Ch,z,pP,oz⟩:=uA.g3 X G "numbers" "size" "width";obtain⟨yN,A,nV,pH⟩:=rG.g3 X G "numbers" "k" "width";obtain⟨Bv,C,qg,oW⟩:=tP.g1 X G "table";obtain⟨Br,nU,vf,vk⟩:=ud.g1 X G "table";obtain⟨Bs,oG,vC,uS⟩:=xZ.g2 X G "table" "width";obtain⟨Bl,nP,vi,xS⟩:=ui.g1 X G "table";obtain⟨Bk,D,p0,p4⟩:=u9.g1 X G "size";obtain⟨yC,E,ou,qD⟩:=qV.g1 X G "table";obtain⟨yZ,F,om,p7⟩:=wq.g1 X G "table";obtain⟨BC,pj,tL,sD⟩:=wg.g2 X G "side" "width";obtain⟨y6,pf,xm,ya⟩:=qF.g1 X G "rows";obtain⟨BD,oT,rH,t_⟩:=vx.g2 X G "found" "row";obtain⟨yA,qf,ye,q_⟩:=uT.g3 X G "row" "found" "places";obtain⟨BU,c,i,j⟩:=vz.g3 X G "row" "often" "other";obtain⟨B_,pM,q9,vQ⟩:=rh.g1 X G "row";obtain⟨B6,oo,qY,xG⟩:=vY.g2 X G "one" "other";obtain⟨BL,nT,x5,wQ⟩:=rE.g4 X G "often" "row" "other_often" "other";obtain⟨yz,ox,vL,rS⟩:=xr.g2 X G "numbers" "rows";obtain⟨Cd,oq,wP,vw⟩:=sK.g2 X G "row" "found";obtain⟨yP,oQ,rT,xq⟩:=xR.g2 X G "side" "count";obtain⟨Cf,uJ,xX,sG⟩:=q8.g2 X G "script" "k";obtain⟨BY,qZ,vh,xo⟩:=rF.g1 X G "cell";obtain⟨yy,o,p,q⟩:=x6.g2 X G "box" "most";obtain⟨y8,nI,yf,sA⟩:=tG.g3 X G "box" "columns" "wide";obtain⟨B4,pX,vy,wO⟩:=uN.g2 X G "box" "most";obtain⟨yv,H,qa,d⟩:=uL.g1 X G "table";obtain⟨Bu,I,pD,qy⟩:=vK.g2 X G "one" "other";obtain⟨ym,nY,wz,sH⟩:=tj.g1 X G "size";obtain⟨Bp,pY,oK,nJ⟩:=rL.g1 X G "found";obtain⟨y7,J,pO,og⟩:=sO.g1 X G "found";obtain⟨BW,oJ,uK,ua⟩:=wJ.g1 X G "found";obtain⟨Bz,oH,tR,vA⟩:=rP.g2 X G "table" "size";obtain⟨Bm,o7,uH,qP⟩:=xH.g3 X G "one" "other" "size";obtain⟨yQ,oy,u5,xp⟩:=ul.g2 X G "table" "sheet";obtain⟨yR,pA,we,uq⟩:=xj.g3 X G "box" "least" "more";obtain⟨yr,tJ,u8,xN⟩:=wy.g1 X G "sheet";obtain⟨⟨gL,FL⟩,_⟩:=pk;refine⟨gL,?_,fun base _ _=>?_⟩
 ·obtain⟨_,_,_,_,_,_,_,_,_,rfl,_,_⟩:=FL.ex;exact fun s v=>.of_eq rfl
 have L:=xu.n X G;have jl:=wL.n X G;have o_:=tu.n X G;have gI:=vS.n X G;have nr:=gr.m X G;have nc:=gc.m X G;have Q:=El (P:=l.prog) (w:=w) (mg:=mg) (base:=base) a B.len;have Gi:=Mf (P:=l.prog) (w:=w) (mg:=mg) (base:=base) F1 B.len B.all nr nc a b m2;have Gm:=Os M F1 b1 m1 Gi;have qm:=Ml (P:=l.prog) (w:=w) (mg:=mg) (base:=base) O B.range F9 b9 m9;have u:=Mn e B.len O Z m8 qm a b m2;have yk:=Nr (P:=l.prog) (w:=w) (mg:=mg) (base:=base) F6 B.zip B.sum;have va:=Nu F5 F6 b6 m6 yk;have p9:=Nw N F5 b5 m5 va;have r:=Ms (P:=l.prog) (w:=w) (mg:=mg) (base:=base) c B.zip;have sW:=Mu (P:=l.prog) (w:=w) (mg:=mg) (base:=base) nT B.zip;have uZ:=Mw (P:=l.prog) (w:=w) (mg:=mg) (base:=base) pM;have uU:=Mz (P:=l.prog) (w:=w) (mg:=mg) (base:=base) oo B.zip jl;have yd:=MH qf c i j r;have x_:=MI oq L c i j r;have yh:=Nc oT L B.range B.len qf ye q_ yd pM q9 vQ uZ oo qY xG uU nT x5 wQ sW;have qU:=Nd pf oT rH t_ yh;have tZ:=Nh ox B.zip a b m2 Q c i j r;have nG:=Nj (P:=l.prog) (w:=w) (mg:=mg) (base:=base) A B.len;have pC:=Nl z B.range A nV pH nG;have Gu:=Np D z pP oz pC;have wA:=Nz (P:=l.prog) (w:=w) (mg:=mg) (base:=base) oP B.len B.all;have oU:=ND (P:=l.prog) (w:=w) (mg:=mg) (base:=base) y B.len B.all B.zip;have rg:=NG pj B.zip L pf xm ya qU e f g u ox vL rS tZ oq wP vw x_;have uR:=NJ oQ B.range B.list c i j r;have oh:=NM E B.all o_ B.len A nV pH nG;have oF:=NO (P:=l.prog) (w:=w) (mg:=mg) (base:=base) F o_ B.len;have wK:=NR nP B.len E ou qD oh F om p7 oF y pE qA oU;have vJ:=Of oG B.len pj tL sD rg D p0 p4 Gu O Z m8 qm e f g u nP vi xS wK E ou qD oh F om p7 oF oQ rT xq uR;have oI:=Ou x M S T Gm oG vC uS vJ a b m2 Q;have qh:=Ow C x nQ pi oI;have wH:=Oy nU B.len C qg oW qh;have xV:=OA nH oP xt rf wA N U Y p9 e f g u D p0 p4 Gu;have t8:=OC qv B.len gI M S T Gm nH rX vm xV a b m2 Q y pE qA oU N U Y p9 e f g u z pP oz pC;have y9:=JR (P:=l.prog) (w:=w) (mg:=mg) (base:=base) nI B o p q;have kB:=OJ (P:=l.prog) (w:=w) (mg:=mg) (base:=base) pX B o p q nI yf sA;have sJ:=JW (P:=l.prog) (w:=w) (mg:=mg) (base:=base) H B;have qt:=OU (P:=l.prog) (w:=w) (mg:=mg) (base:=base) I B H qa d;have xT:=JY (P:=l.prog) (w:=w) (mg:=mg) (base:=base) J B pY oK nJ;have uk:=OR (P:=l.prog) (w:=w) (mg:=mg) (base:=base) oJ B J pO og pY oK nJ;have kY:=O7 (P:=l.prog) (w:=w) (mg:=mg) (base:=base) pA B o p q;have uC:=OX (P:=l.prog) (w:=w) (mg:=mg) (base:=base) nY B;have sx:=OZ (P:=l.prog) (w:=w) (mg:=mg) (base:=base) oH B.len B.all;have v_:=O1 o7 oH tR vA sx I pD qy qt nY wz sH uC;have sN:=O5 oy B gI o7 uH qP v_ H qa d sJ I pD qy qt;exact Pg FL B jl uJ xX sG qZ vh xo o p q pX vy wO kB pA we uq kY x nQ pi oI qv vt ue t8 C qg oW qh nU vf vk wH oJ uK ua uk J pO og xT oy u5 xp sN tJ u8 xN
def walk{l:PySem.W.OpenLaw}{q:Program}{g:List Str}{p:(Str->Option Value)->Heap->Prop}{b:World->Heap->Prop}{d:DefRec}{K:Params->Af}(i:l.most=some 63)(j:d.params.defaults=[])(o:∀(w:World)(h:Heap),b w h->(K w.params).In h)(F:∀(w:World)(mg:Str->Option Value)(fa:Addr)(h:Heap),(K w.params).In h->h.Ns mainGlobals mg->mg d.name=some (.ref fa)->
   ∃fd:FuncData,(∀(s:Shared)(u:Value),BindsTo s fd ⟨[u],[]⟩ [("script",u)])/\∀base:Heap,(K w.params).In base->base.Ns mainGlobals mg->ai l.prog w (K w.params) mg base av 10 fa fd ["script"] (Dv (K w.params))):
  PySem.W.WalkO q g p b l.row.toRowW d [] (fun f vs=>PySem.call f vs):=
 L2.GY (n:=63) (k:=10) (x:="script") (CX:=fun _=>av) (sp:=fun w=>Dv (K w.params)) i ξ j ⟨rfl,ξ,ξ⟩ o F (fun _ _ a ns c _ e=>⟨a,ns,rfl,e,c,fun _=>rfl⟩) fun _ _ _ _ _ z=>z
end K21
open PySem PySem.W PyProof.Rows
structure PySem.W.Fast:Prop where
 (tw10038902925786340763 tw10128895120058570932 tw10130542658587911418 tw10161138329613337793 tw10164394000877260749 tw10169859647318191533 tw10184388487949240199 tw10207615897954356049 tw10218250466687549234 tw102750502494851281 tw10323296462193503165 tw10361474987264566660 tw10364269549245026231 tw10399205962193935341 tw10438739437826598129 tw10439612592040717613 tw10474226550832100444 tw10492962616700903923 tw10509995988354966539 tw10524899739266796925 tw10628474839128483289 tw10678877010666890975 tw10698665177972015930 tw10727039216499145753 tw10811830333660547731 tw10865386437217078083 tw10918411131148114798 tw10961576933768275889 tw10986857665692431583 tw11044135012411708480 tw11199967491052667427 tw11278827958670439667 tw11293916976578271453 tw11329805807492718324 tw11409761592387903759 tw11447258033162156211 tw11506079784881520956 tw11659560623368633779 tw11856192054228401840 tw11930509656622090547 tw11932910904103421450 tw11946250994604513854 tw11990678402742889084 tw12012400564808827583 tw12104474298736801301 tw12149011861185232810 tw12262134115192390030 tw12311896479850587 tw1232270627737477654 tw12344048326723188405 tw12358305720162823949 tw12358922680980257608 tw12374981309995997083 tw1248129255163427986 tw1252488895385582000 tw12615570639055366547 tw12618579203976296767 tw12725532433244965808 tw12743666995848516606 tw12772015004546445760 tw12825261333469737666 tw12830802742867976652 tw12834367114411120828 tw12844358939501278927 tw12864913577313565094 tw12902891568111071596 tw12958829209463079064 tw12994295973132036828 tw13124283849869998780 tw13144998977123160953 tw13320362539650429038 tw13414198300811801190 tw13480997718976232049 tw13487101154036144773 tw13508769904554329541 tw13592860580669377716 tw13639492670025590132 tw13700096342015031460 tw13770435585882475121 tw13803257050144617134 tw13825174061868119578 tw13851558804029521964 tw13895515276000928018 tw14053660017182922547 tw14117932899999728581 tw14156792262705775839 tw14264896199146880563 tw14330302503487568312 tw1434971628607806264 tw14414225089027194007 tw14415184984204833572 tw14490027728121692519 tw14498071696668213665 tw14534412723502857851 tw14566081339004936994 tw14567079609180207829 tw14632310851403702628 tw14666769948011245790 tw14682702242617997680 tw14702339368491911205 tw14745426768889386035 tw14834807575046321591 tw14909050520845108121 tw14913794277991019171 tw14962346085865784631 tw15027148770417965893 tw15076640755581800978 tw15102411536311767909 tw15206076521476880217 tw15209868142733370752 tw15216532971069208676 tw15217865641488858415 tw15220894375256236834 tw15246304726054477607 tw15279178939478511953 tw15281548967427559670 tw15304981233328021000 tw15433943011567254184 tw15442831295052748086 tw15517992541736755260 tw15566514654941923045 tw15593812230848904134 tw15716614838060328812 tw15731821367107570611 tw15733131915440961465 tw15753034737224016945 tw15760944320559839524 tw15768091774023644062 tw15813836106782007976 tw15904298599369907608 tw15951256314322146180 tw15968425975961180074 tw16055398997232704891 tw16063852637871210733 tw16074014620172871798 tw16125629924443022175 tw1617536740868528597 tw16179643865526199340 tw16203183266990460352 tw16254195388151156831 tw16266902342248481799 tw16311615486391274023 tw16381408201845340537 tw16406788019285513752 tw16419085999488269251 tw16466250060880154936 tw16522524940258881706 tw16610017682248783808 tw16646861011510730142 tw16847471474768574034 tw16894875391002749876 tw17350511573934224458 tw17436664808746102195 tw17438633909413651749 tw17454572292465016125 tw17508321135553098428 tw17527065835696134036 tw17654020736181327245 tw177095363034992811 tw17861707363077807552 tw1787082876794593859 tw1788178632093857988 tw17936853933176333116 tw1817649022665232982 tw18239280432550961924 tw182598241293626313 tw18271945798899067882 tw18296810657010667375 tw18311870000372178497 tw18421082396087874579 tw18429502311610994339 tw2044248382939157461 tw2103101251525404485 tw2119856918786908971 tw2163755463848980269 tw2246113521300077997 tw2317069145017859813 tw2345313075528913915 tw236621030370678787 tw2399684441898010916 tw24071489152338990 tw2455073530063531629 tw2487400212013468543 tw2518614844906781726 tw2530600011687105518 tw2534308822243927205 tw2565569349740662830 tw2615755417947453284 tw2786416415714478733 tw2789847198081228415 tw2840233574258897564 tw2860632646745091257 tw2878555994335035379 tw3091995018188718789 tw3141659755592533098 tw315245727915569067 tw3184849960412038339 tw3191873575793348612 tw3283199104040070555 tw3288288533433860666 tw3351752254299045757 tw3449611804391183709 tw346981093529949372 tw3485162479908152727 tw3496095503060664521 tw3700799789814080535 tw3733056235157417344 tw3779869835994163374 tw3803632764088259936 tw3937588887781689498 tw396467296743479760 tw3974855423267508901 tw3994434626938021388 tw4068091145916844775 tw4080957966517003342 tw4109457600203213040 tw4259276733847085863 tw4335156618869276768 tw4359787524397434085 tw4396800184332483384 tw4484276735288494874 tw4525764482486832272 tw4587470632493609454 tw4635024063517954021 tw4672975042820192694 tw4707638695235294425 tw4718753637319226734 tw4727573721546905557 tw475866685984513002 tw4933331956308397360 tw502348686762916731 tw5033657111837601005 tw5059303349588988632 tw5152840626686525443 tw5179231615731282969 tw5213650361849700618 tw522191973918198217 tw5282456871710254706 tw5395752547025148352 tw5405356644443336477 tw5461505872763981472 tw5534203456209658988 tw5658211467092027740 tw575823034531751655 tw5944251208348126983 tw6145428567890365657 tw6207647601191627493 tw621917631055809932 tw6278937407792110384 tw6295492196882299792 tw6304719656050061906 tw6349489721142453011 tw6370369517047243867 tw6392629379052025226 tw6407042969282710947 tw6472784266182518923 tw6530719506899314596 tw6580221032216420759 tw6671000669508069158 tw6728878867785483268 tw679634192498614956 tw6832052634071929715 tw6865267452898026906 tw6911043263515731168 tw6993743571689695518 tw7024038270935788494 tw7192421093201031479 tw7249557340733714188 tw7291640458354223358 tw7365464577015575588 tw7407718127272884502 tw7451256549759039284 tw7476323921289341420 tw7541182414260425863 tw7676809408948536061 tw7680740070897206301 tw7776462362040517564 tw7791102792074092748 tw7821132313211676709 tw7851218190265896351 tw7865080471356327764 tw7996314780237066702 tw8034138329594574533 tw8075909911561453680 tw8167169542877311688 tw8171032955087575257 tw8249081796255009046 tw8321277493186211718 tw8423659037083739507 tw8475551088525513575 tw8536635564692101036 tw8592692489272688293 tw8613000162803334812 tw8647744240361651048 tw8788724288352426184 tw8903189187751208563 tw8983293460131084523 tw9055934494520395849 tw9084739361819862004 tw9153116211020200821 tw917909857351676507 tw9196597218987076441 tw9633286721473039033 tw9692617473151231412 tw9738717130632798307 tw9767631538046195189 tw9785120233503474212 tw9893368161337751510 tw99379982725196312:True)
set_option maxRecDepth 100000 in
set_option maxHeartbeats 0 in
theorem PySem.Challenge.cw_seamwright_k21_whole_right_papers_holds : PySem.Challenge.rw_seamwright_k21_whole_right_papers.Holds := by
 w_on; o_law; k_head; (case hw=>w_witness2)
 k_fill
 refine K21.walk (l:=PySem.Challenge.rw_seamwright_k21_whole_right_papers) rfl rfl (fun w h Y=>PySem.W.kIn_of Y) ?F
 case F=>
  intro w mg fa h KX G gm;refine' K21.Ph KX G gm ?_ ?_ ?_ ?_ ?_ ?_ ?_ ?_ ?_ ?_ ?_ ?_ ?_ ?_ ?_ ?_ ?_ ?_ ?_ ?_ ?_ ?_ ?_ ?_ ?_ ?_ ?_ ?_ ?_ ?_ ?_ ?_ ?_ ?_ ?_ ?_ ?_ ?_ ?_ ?_ ?_ ?_ ?_ ?_ ?_ ?_ ?_ ?_ ?_ ?_ ?_ ?_ ?_ ?_ ?_ ?_ ?_ ?_ ?_ ?_ ?_ ?_ ?_ ?_ ?_ ?_ ?_
  all_goals try first | refine' L2.F8 ?_ ?_ ?_ ?_ | refine' L2.Nn.mk ?_
  all_goals try first | k_is | kit_is | k_exc
#print axioms PySem.Challenge.cw_seamwright_k21_whole_right_papers_holds
end
