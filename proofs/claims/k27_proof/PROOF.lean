import PyProof.Rows.All
import Wide.All
import OpenK.AllK
import Wide.FinOn
import Lean
import PyProof.EqAt
import PyProof.EqKinds
import PyProof.TupleCall
import PyProof.StationsW
import PyProof.ExcClass3
import OpenK.KOwn
import PyProof.ExcArgsOwn
import KE.KListMore
import KE.KIntText
import KE.KEqDat
import PyProof.MinMaxWalk
import PyProof.SumAny
import PyProof.Rows.SortRuns
import KE.KSortKey
import PyProof.Rows.CallKwBuiltin
import PySem.SetTable
import PyProof.Rows.SetFrom
import PyProof.TupleKey
import PyProof.IsRules
import KE.KRevIter
import PyProof.ListRange
import PyProof.TupleOfGen
import PyProof.CollectIter
import PySem.Challenge.RW_seamwright_k27_tables_refused_everywhere
import PyProof.FactsAll.set_2
import PyProof.FactsAll.subtypes_5
import KE.KDictList
import KE.KDictSum
import KE.KDictLaws
import PyProof.Rows.Range3
import KE.KStateDown
open List renaming length_map->Aa,getElem?_eq_getElem->Ac,getD_eq_getElem?_getD->Ad,range->Ah,getElem?_map->Aj,replicate->Am,mem_of_getElem?->An,size_toArray->At,map_append->Aw,take_of_length_le->Ax,mem_append_right->Ay,zipWith->AA,getElem_mem->AB,mem_cons_of_mem->AD,length_zipWith->AE,mem_cons_self->AF,length_cons->AH,eq_nil_of_length_eq_zero->AI,length_append->AJ,length_replicate->AM,getElem_map->AS,map_map->AT,getElem?_range->AU,map_cons->AV,mem_append_left->AY,ext_getElem->AZ,getElem_zipWith->A0,getElem_range->A5,length_range->A6,map_congr_left->A7,getElem_of_mem->A8,pairwise_cons->Ba,lookup_cons->Bi,all_eq_true->Bj
open PySem.W renaming Frag->Ab,kitOne->Bh,excIn->Bk
open PySem renaming wpAny_bind->Ae,wpAny_pure->Ap,bootBuiltins->A9,wpAny_field->Bg,cellsFrom->Bm
open Nat renaming le_refl->Af,le_trans->Ag,mul_le_mul_left->Ak,mul_le_mul_right->Al,lt_of_le_of_lt->Aq,zero_le->Ar,lt_of_lt_of_le->Au,ne_of_lt->Az,pow_le_pow_right->AC,mul_assoc->AO,mul_le_mul->AQ,one_le_two_pow->AR,le_add_right->A4,lt_or_ge->Be
open PySem.Heap renaming get?_push_of_some->Ai,lt_size->Ao,get?_push_size->AG
open Bool renaming false_ne_true->Av,and_eq_true->AX
open Int renaming natAbs_mul->AK,mul_assoc->AW,mul_comm->Bb
open Option.some renaming inj->AL
open Classical renaming byContradiction->AN
open PySem.NameKind renaming free->Bl
set_option linter.all false
set_option Elab.async false
set_option maxRecDepth 100000
set_option maxHeartbeats 4000000
def δ{p:Prop}(h:p:=by decide +kernel):p:=h
def ω{p:Prop}(h:p:=by (first|lia|omega)):p:=h
def ξ{p:Prop}(h:p:=by decide):p:=h
abbrev Ω:=PySem.Value->PySem.Shared->Prop
abbrev Ξ:=List (List Int)
abbrev Ψ:=List (PySem.Addr×PySem.Obj)
local macro_rules|`($s⁻¹)=>`(($s).heap.objs.size)
section
namespace L2
open PySem PySem.Spec PyProof.Rows
abbrev Key:=Sum Int Str
def nM:Key->Value->Bool
 |.inl k,v=>Value.isInt k v
 |.inr x,v=>Value.isStrOf x v
def GY(w:World):Key->Int
 |.inl k=>hashInt k
 |.inr x=>hashStr w x
def aW:∀{k:Key}{v:Value},nM k v=true->(∃i t,k=Sum.inl i/\v=Value.int i t)\/(∃x t,k=Sum.inr x/\v=Value.str x t)
 |.inl i,v,h=>by
  obtain⟨t,e⟩:=Value.isInt_shape (k:=i) (v:=v) h;exact .inl ⟨i,t,rfl,e⟩
 |.inr x,v,h=>by
  obtain⟨t,e⟩:=Value.isStrOf_shape (x:=x) (v:=v) h;exact .inr ⟨x,t,rfl,e⟩
def Np(i:Int)(t:Tok):nM (.inl i) (.int i t)=true:=by simp[nM,Value.isInt]
def Nq(x:Str)(t:Tok):nM (.inr x) (.str x t)=true:=by simp[nM,Value.isStrOf]
def Nr(a b:Int):decide ((Sum.inl a:Key)=Sum.inl b)=(a==b):=by
 by_cases e:a=b
 ·subst e;simp
 ·have h:¬(Sum.inl a:Key)=Sum.inl b:=fun q=>e (Sum.inl.inj q)
  rw[decide_eq_false h];exact(beq_eq_false_iff_ne.mpr e).symm
def Nt(a b:Str):decide ((Sum.inr a:Key)=Sum.inr b)=decide (a=b):=by
 by_cases e:a=b
 ·subst e;simp
 ·have h:¬(Sum.inr a:Key)=Sum.inr b:=fun q=>e (Sum.inr.inj q)
  rw[decide_eq_false h,decide_eq_false e]
def Nu(a:Int)(b:Str):decide ((Sum.inl a:Key)=Sum.inr b)=false:=decide_eq_false (fun q=>nomatch q)
def Nv(a:Str)(b:Int):decide ((Sum.inr a:Key)=Sum.inl b)=false:=decide_eq_false (fun q=>nomatch q)
def ea(prog:Program)(w:World):PySem.KeyKind prog w Key where
 is:=nM
 hash:=GY w
 inj:=fun v a b d hb=>by
  rcases aW d with ⟨i,t,rfl,rfl⟩|⟨x,t,rfl,rfl⟩
  ·rcases aW hb with ⟨j,u,rfl,e⟩|⟨y,u,rfl,e⟩
   ·injection e with e1 _;rw[e1]
   ·exact nomatch e
  ·rcases aW hb with ⟨j,u,rfl,e⟩|⟨y,u,rfl,e⟩
   ·exact nomatch e
   ·injection e with e1 _;rw[e1]
 byValue:=fun k v h=>by
  rcases aW h with ⟨i,t,rfl,rfl⟩|⟨x,t,rfl,rfl⟩<;>rfl
 pyHash:=fun c h=>by
  rcases aW c with ⟨i,t,rfl,rfl⟩|⟨x,t,rfl,rfl⟩
  ·exact wpAny_pyHash_int h
  ·exact wpAny_pyHash_str h
 eqBool:=fun hu c h=>by
  rcases aW hu with ⟨i,t,rfl,rfl⟩|⟨x,t,rfl,rfl⟩
  ·rcases aW c with ⟨j,u,rfl,rfl⟩|⟨y,u,rfl,rfl⟩
   ·rw[Nr] at h;exact wpAny_eqBool_int h
   ·rw[Nu] at h;exact SeqAt.EqAt.int_str i t y u _ _ _ _ h
  ·rcases aW c with ⟨j,u,rfl,rfl⟩|⟨y,u,rfl,rfl⟩
   ·rw[Nv] at h;exact SeqAt.EqAt.str_int x t j u _ _ _ _ h
   ·rw[Nt] at h;exact wpAny_eqBool_str h
 «strs»:=fun k x t v h=>by
  rcases aW h with ⟨i,u,rfl,e⟩|⟨y,u,rfl,e⟩
  ·exact nomatch e
  ·injection e with e1 _
   subst e1;cases v<;>rfl
def Nw(prog:Program)(w:World)(i:Int)(t:Tok):(ea prog w).is (.inl i) (.int i t)=true:=Np i t
def Nx(prog:Program)(w:World)(x:Str)(t:Tok):(ea prog w).is (.inr x) (.str x t)=true:=Nq x t
inductive V where
 |non|bl (b:Bool)|int (i:Int)|str (x:Str)|byt (b:Array UInt8)|flt (b:UInt64)|ref (a:Addr)|ty (n:String)
 deriving DecidableEq
def RelV:V->Value->Prop
 |.non,u=>u=Value.none
 |.bl b,u=>u=Value.bool b
 |.int i,u=>∃t,u=Value.int i t
 |.str x,u=>∃t,u=Value.str x t
 |.byt b,u=>∃t,u=Value.bytes b t
 |.flt b,u=>∃t,u=Value.float b t
 |.ref a,u=>u=Value.ref a
 |.ty n,u=>u=Value.type n
abbrev Vals:List V->List Value->Prop:=Paired RelV
def Vals.length{xs:List V}{us:List Value}(r:Vals xs us):xs.length=us.length:=Paired.length r
def Vals.get:∀{xs:List V}{us:List Value}{i:Nat}{x:V},Vals xs us->xs[i]?=some x->∃u,us[i]?=some u/\RelV x u
 |_,_,_,_,.nil,e=>by simp at e
 |_,_,0,_,.cons r _,e=>by simp at e;subst e;exact⟨_,rfl,r⟩
 |_,_,i+1,x,.cons _ t,e=>by
  obtain⟨u,h1,h2⟩:=Vals.get (i:=i) (x:=x) t (by simpa using e);exact⟨u,by simpa using h1,h2⟩
def Vals.set{x:V}{u:Value}(r:RelV x u):∀{xs:List V}{us:List Value}(i:Nat),Vals xs us->Vals (xs.set i x) (us.set i u)
 |_,_,_,.nil=>.nil
 |_,_,0,.cons _ t=>.cons r t
 |_,_,i+1,.cons q t=>.cons q (Vals.set r i t)
def Vals.append{xs ys:List V}{us a:List Value}(h:Vals xs us)(g:Vals ys a):Vals (xs++ys) (us++a):=by
 induction h with
 |nil=>exact g
 |cons r _ ih=>exact .cons r ih
def Vals.take:∀{xs:List V}{us:List Value}(n:Nat),Vals xs us->Vals (xs.take n) (us.take n)
 |_,_,0,_=>.nil
 |_,_,_+1,.nil=>.nil
 |_,_,n+1,.cons r t=>.cons r (Vals.take n t)
def Vals.drop:∀{xs:List V}{us:List Value}(n:Nat),Vals xs us->Vals (xs.drop n) (us.drop n)
 |_,_,0,r=>r
 |_,_,_+1,.nil=>.nil
 |_,_,n+1,.cons _ t=>Vals.drop n t
def RelO:Option V->Option Value->Prop
 |some v,some u=>RelV v u
 |none,none=>True
 |_,_=>False
def KV{κ:Type}:List (κ×V)->List (κ×Value)->Prop:=Paired fun(p:κ×V)(q:κ×Value)=>p.1=q.1/\RelV p.2 q.2
def kV:Key->V
 |.inl i=>.int i
 |.inr x=>.str x
inductive HO where
 |lst (xs:List V)
 |tup (xs:List V)
 |dK (kvs:List (Key×V))|dT (kvs:List (List Key×V))
 |set (S:Int->Bool) (n:Nat)
 |ins (C dx:Addr) (fs:List (Str×V))
 |own (x:Addr)
 |xd (fs:List (Str×V))
 |met (f x:Addr)
 |rng (lo hi:Int)
 |frz (o:Obj) (u:HO)
 |tbl (ps:Array Value)
 |ext (φ:Heap->Prop)
abbrev Hp:=Addr->Option HO
def upd(H:Hp)(a:Addr)(o:HO):Hp:=fun b=>if b=a then some o else H b
def al{H:Hp}{a:Addr}{o:HO}:upd H a o a=some o:=by unfold upd;rw[if_pos rfl]
def aq{H:Hp}{a b:Addr}{o:HO}(h:b≠a):upd H a o b=H b:=by unfold upd;rw[if_neg h]
def GZ{H:Hp}{a b:Addr}{o u:HO}(h:H a=some o)(h':H b=some u)(d:o≠u):a≠b:=by
 intro e;subst e;rw[h] at h';exact d (AL h')
def zn{H:Hp}{a b:Addr}{o:HO}(h:H a=some o)(h':H b=none):a≠b:=by
 intro e;subst e;rw[h] at h';cases h'
section
variable(P:Program)(w:World)
def zar(H:Hp)(h:Heap)(a:Addr):HO->Prop
 |.lst xs=>xs.length<=sizeLine/\∃(b:List Value)(n:Nat),Vals xs b/\h.get? a=some {cls:=.type "list",data:=.seq b.toArray n}
 |.tup xs=>xs.length<=sizeLine/\∃b:List Value,Vals xs b/\IsTup h a b.toArray
 |.dK kvs=>kvs.length<=sizeLine/\(a==sysModules)=false/\∃vs,KV kvs vs/\h.DictOf (ea P w) a vs
 |.dT kvs=>kvs.length<=sizeLine/\(a==sysModules)=false/\∃xs:List (List Key×Addr×Value),
   Paired (fun(p:List Key×V)(q:List Key×Addr×Value)=>p.1=q.1/\H q.2.1=some (.tup (p.1.map kV))/\RelV p.2 q.2.2) kvs xs/\
   ∃o es ep,h.get? a=some o/\o.ExactDict/\o.data=.dict es ep/\es.toList=xs.map (entryOfKey (tupleKind (ea P w)))/\(xs.map (·.1)).Nodup
 |.set S n=>h.SetOf (intKind P w) a S n
 |.ins C dx fs=>H dx=some (.own a)/\fs.length<=1000/\dx≠a/\h.get? a=some (PySem.W.instObj C dx)/\
   ∃mA,h.Ns1 dx mA/\(∀f,RelO (fs.lookup f) (mA f))/\PySem.Within mA (fs.map (·.1))
 |.own _=>∃o,h.get? a=some o
 |.xd fs=>∃mA,h.Ns1 a mA/\∀f,RelO (fs.lookup f) (mA f)
 |.rng lo hi=>∃t u v,h.get? a=some {cls:=.type "range",data:=.fields #[.int lo t,.int hi u,.int 1 v]}
 |.frz o u=>h.get? a=some o/\zar H h a u
 |.tbl ps=>h.get? a=some {cls:=.none,data:=.fields ps}
 |.met f x=>h.get? a=some (PySem.W.methodObj (.ref f) (.ref x))
 |.ext φ=>φ h/\(∃o,h.get? a=some o)/\∀h1 h2:Heap,φ h1->(∀o,h1.get? a=some o->h2.get? a=some o)->φ h2
def HOk(H:Hp)(h:Heap):Prop:=∀a o,H a=some o->zar P w H h a o
end
section
variable{P:Program}{w:World}{H H':Hp}{h h':Heap}{a:Addr}{o:HO}
def zar.lt(x:zar P w H h a o):a<h.objs.size:=by
 cases o with
 |lst xs=>obtain⟨_,_,_,_,e⟩:=x;exact Ao e
 |tup xs=>obtain⟨_,_,_,p⟩:=x;exact p.lt
 |dK kvs=>obtain⟨_,_,_,_,o,_,_,e,_⟩:=x;exact Ao e
 |dT kvs=>obtain⟨_,_,_,_,o,_,_,e,_⟩:=x;exact Ao e
 |set S n=>obtain⟨o,_,_,_,e,_⟩:=x;exact Ao e
 |ins C dx fs=>obtain⟨_,_,_,e,_⟩:=x;exact Ao e
 |own y=>obtain⟨_,e⟩:=x;exact Ao e
 |xd fs=>obtain⟨_,⟨_,_,_,e,_⟩,_⟩:=x;exact Ao e
 |rng lo hi=>obtain⟨_,_,_,e⟩:=x;exact Ao e
 |frz ob u=>obtain⟨e,_⟩:=x;exact Ao e
 |tbl ps=>exact Ao (show h.get? a=some _ from x)
 |met f y=>exact Ao (show h.get? a=some _ from x)
 |ext φ=>obtain⟨_,⟨_,e⟩,_⟩:=x;exact Ao e
def Paired.mapP{c d:Type}{F G:c->d->Prop}{e:List c}{l₂:List d}(h:Paired F e l₂)(f:∀a b,F a b->G a b):Paired G e l₂:=by
 induction h with
 |nil=>exact .nil
 |cons r _ ih=>exact .cons (f _ _ r) ih
def zar.stay(x:zar P w H h a o)(k:∀b u,(b=a\/H b=some (.own a))->h.get? b=some u->h'.get? b=some u)(l:∀b,H b=some (.own a)->H' b=some (.own a))(s:∀b xs,H b=some (.tup xs)->H' b=some (.tup xs)):zar P w H' h' a o:=by
 induction o with
 |lst xs=>obtain⟨z,i,n,r,e⟩:=x;exact⟨z,i,n,r,k _ _ (.inl rfl) e⟩
 |tup xs=>obtain⟨z,i,r,g,e,c⟩:=x;exact⟨z,i,r,g,k _ _ (.inl rfl) e,c⟩
 |dK kvs=>obtain⟨z,y,vs,r,g,es,ep,e,c⟩:=x;exact⟨z,y,vs,r,g,es,ep,k _ _ (.inl rfl) e,c⟩
 |dT kvs=>
  obtain⟨z,y,xs,r,g,es,ep,e,c⟩:=x;exact⟨z,y,xs,Paired.mapP r fun p q z=>⟨z.1,s _ _ z.2.1,z.2.2⟩,g,es,ep,k _ _ (.inl rfl) e,c⟩
 |set S n=>obtain⟨g,es,ep,t,e,c⟩:=x;exact⟨g,es,ep,t,k _ _ (.inl rfl) e,c⟩
 |ins C dx fs=>
  obtain⟨d,z,ne,e,mA,⟨j,es,ep,e2,c⟩,r⟩:=x;exact⟨l _ d,z,ne,k _ _ (.inl rfl) e,mA,⟨j,es,ep,k _ _ (.inr d) e2,c⟩,r⟩
 |own y=>obtain⟨g,e⟩:=x;exact⟨g,k _ _ (.inl rfl) e⟩
 |xd fs=>obtain⟨mA,⟨j,es,ep,e,c⟩,r⟩:=x;exact⟨mA,⟨j,es,ep,k _ _ (.inl rfl) e,c⟩,r⟩
 |rng lo hi=>obtain⟨t,u,v,e⟩:=x;exact⟨t,u,v,k _ _ (.inl rfl) e⟩
 |frz g u ih=>obtain⟨e,q⟩:=x;exact⟨k _ _ (.inl rfl) e,ih q⟩
 |tbl ps=>
  have e:h.get? a=some {cls:=.none,data:=.fields ps}:=x;show h'.get? a=some {cls:=.none,data:=.fields ps};exact k a _ (.inl rfl) e
 |met f y=>
  have e:h.get? a=some (PySem.W.methodObj (.ref f) (.ref y)):=x;show h'.get? a=some (PySem.W.methodObj (.ref f) (.ref y));exact k a _ (.inl rfl) e
 |ext φ=>obtain⟨p,⟨o,e⟩,st⟩:=x;exact⟨st _ _ p fun o q=>k _ _ (.inl rfl) q,⟨o,k _ _ (.inl rfl) e⟩,st⟩
def HOk.lt(x:HOk P w H h)(e:H a=some o):a<h.objs.size:=(x a o e).lt
def HOk.fresh(x:HOk P w H h)(e:h.objs.size<=a):H a=none:=by
 cases q:H a with
 |none=>rfl
 |some u=>exact absurd (Au (x.lt q) e) (Nat.lt_irrefl _)
def HOk.kept(x:HOk P w H h)(k:∀b u,h.get? b=some u->h'.get? b=some u):HOk P w H h':=fun a o e=>
 (x a o e).stay (fun b u _ q=>k b u q) (fun _ q=>q) fun _ _ q=>q
def HOk.laid(x:HOk P w H h)(k:∀b u,h.get? b=some u->h'.get? b=some u)(hp:h.objs.size<=a)(new:zar P w (upd H a o) h' a o):HOk P w (upd H a o) h':=fun b u e=>by
 have d:=x.fresh hp
 by_cases hb:b=a
 ·subst hb;rw[al] at e;cases e;exact new
 ·rw[aq hb] at e
  exact(x b u e).stay (fun c v _ q=>k c v q) (fun c q=>by rw[aq (zn q d)];exact q) fun c xs q=>by rw[aq (zn q d)];exact q
end
def Rd(H:Hp)(a:Addr)(u:HO):Prop:=H a=some u\/∃o,H a=some (.frz o u)
def Rd.of{H:Hp}{a:Addr}{u:HO}(h:H a=some u):Rd H a u:=.inl h
def Rd.ok{P:Program}{w:World}{H:Hp}{h:Heap}{a:Addr}{u:HO}(r:Rd H a u)(x:HOk P w H h):zar P w H h a u:=by
 rcases r with r|⟨o,r⟩
 ·exact x a u r
 ·obtain⟨_,q⟩:=x a _ r
  exact q
def qi:Option HO->Prop
 |some (.lst _)=>True
 |some (.dK _)=>True
 |some (.dT _)=>True
 |some (.set _ _)=>True
 |some (.ins _ _ _)=>True
 |some (.ext _)=>True
 |_=>False
section
variable{P:Program}{w:World}{H:Hp}{h h':Heap}{x e:Addr}{o':HO}
def HOk.write(ok:HOk P w H h)(mu:qi (H x))(g:e=x\/H e=some (.own x))(k:∀b u,b≠e->h.get? b=some u->h'.get? b=some u)(l:∃u,h'.get? e=some u)(new:zar P w (upd H x o') h' x o'):HOk P w (upd H x o') h':=fun b u q=>by
 have d:∀c y,H c=some (.own y)->c≠x:=fun c y r z=>by subst z;rw[r] at mu;exact mu
 have f:∀c xs,H c=some (.tup xs)->c≠x:=fun c xs r z=>by subst z;rw[r] at mu;exact mu
 by_cases hb:b=x
 ·subst hb;rw[al] at q;cases q;exact new
 ·rw[aq hb] at q
  by_cases a:b=e
  ·have i:H b=some (.own x):=by
    rcases g with z|z
    ·exact absurd (a.trans z) hb
    ·rw[a];exact z
   rw[q] at i;cases i;obtain⟨v,j⟩:=l;exact⟨v,by rw[a];exact j⟩
  ·refine(ok b u q).stay (fun c v hc r=>k c v ?_ r) (fun c r=>by rw[aq (d c b r)];exact r) fun c xs r=>by rw[aq (f c xs r)];exact r
   rcases hc with rfl|hc
   ·exact a
   ·rintro rfl
    rcases g with z|z
    ·exact d c b hc z
    ·rw[hc] at z;cases z;exact hb rfl
end
structure Un(fs ex:List Addr)(H H':Hp)(h h':Heap):Prop where
 keep:∀b o,h.get? b=some o->H b=none->b∉fs->b∉ex->h'.get? b=some o
 slot:∀b o,h.get? b=some o->H b=none->b∈fs->b∉ex->∃sl,h'.get? b=some {o with slots:=sl}
 free:∀b o,h.get? b=some o->H b=none->b∉ex->H' b=none
 there:∀b o,h.get? b=some o->b∉ex->∃o',h'.get? b=some o'
 tups:∀b xs,H b=some (.tup xs)->H' b=some (.tup xs)
 frzs:∀b o u,H b=some (.frz o u)->H' b=some (.frz o u)
 tbls:∀b ps,H b=some (.tbl ps)->∃more,H' b=some (.tbl (ps++more))
section
variable{fs xR ex Fg:List Addr}{H H1 H2:Hp}{h h1 h2 h':Heap}{a x e:Addr}{o:HO}
def Un.any(u:Un fs ex H H1 h h1){b:Addr}{a:Obj}(q:h.get? b=some a)(n:H b=none)(hx:b∉ex):∃c,h1.get? b=some {a with slots:=c}:=by
 by_cases hb:b∈fs
 ·exact u.slot b a q n hb hx
 ·exact⟨a.slots,u.keep b a q n hb hx⟩
def Un.kept(k:∀b u,h.get? b=some u->h'.get? b=some u):Un fs ex H H h h':=
 ⟨fun b a q _ _ _=>k b a q,fun b a q _ _ _=>⟨a.slots,k b a q⟩,fun _ _ _ n _=>n,fun b a q _=>⟨a,k b a q⟩,fun _ _ q=>q,fun _ _ _ q=>q,fun _ ps q=>⟨#[],by rw[q];simp⟩⟩
def Un.refl:Un fs ex H H h h:=Un.kept fun _ _ q=>q
def Un.laid(k:∀b u,h.get? b=some u->h'.get? b=some u)(hp:h.objs.size<=a)(c:H a=none):Un fs ex H (upd H a o) h h' where
 keep:=fun b u q _ _ _=>k b u q
 slot:=fun b u q _ _ _=>⟨u.slots,k b u q⟩
 free:=fun b u q n _=>by rw[aq (Az (Au (Ao q) hp))];exact n
 there:=fun b u q _=>⟨u,k b u q⟩
 tups:=fun b xs q=>by rw[aq (zn q c)];exact q
 frzs:=fun b u xs q=>by rw[aq (zn q c)];exact q
 tbls:=fun b ps q=>⟨#[],by rw[aq (zn q c),q];simp⟩
def Un.write(mu:qi (H x))(d:e=x\/H e=some (.own x))(k:∀b u,b≠e->h.get? b=some u->h'.get? b=some u)(f:∃u,h'.get? e=some u):Un fs ex H (upd H x o) h h':=by
 have hx:∀b,H b=none->b≠x:=fun b n z=>by subst z;rw[n] at mu;exact mu
 have hb:∀b,H b=none->b≠e:=fun b n z=>by
  subst z;rcases d with r|r
  ·exact hx b n r
  ·rw[n] at r;cases r
 have c:∀b u,H b=some u->¬qi (some u)->b≠x:=fun b u q nm z=>by subst z;rw[q] at mu;exact nm mu
 refine⟨fun b u q n _ _=>k b u (hb b n) q,fun b u q n _ _=>⟨u.slots,k b u (hb b n) q⟩,fun b u q n _=>by rw[aq (hx b n)];exact n,fun b u q _=>?_,
  fun b xs q=>by rw[aq (c b _ q fun z=>z)];exact q,fun b u xs q=>by rw[aq (c b _ q fun z=>z)];exact q,fun b ps q=>⟨#[],by rw[aq (c b _ q fun z=>z),q];simp⟩⟩
 by_cases a:b=e
 ·subst a;exact f
 ·exact⟨u,k b u a q⟩
end
def Bs(h:Heap)(H:Hp):List Addr:=(Ah h.objs.size).filter fun a=>(H a).isSome
def dh(h:Heap)(H:Hp):Heap:=PySem.W.hideAll h (Bs h H)
def Ny(h:Heap)(H:Hp):(dh h H).objs.size=h.objs.size:=PySem.W.hideAll_size _ _
def Nz{h:Heap}{H:Hp}{b:Addr}{o:Obj}(e:h.get? b=some o)(n:H b=none):(dh h H).get? b=some o:=
 PySem.W.hideAll_get _ e fun a=>by
  have q:(H b).isSome=true:=(List.mem_filter.mp a).2;rw[n] at q;simp at q
def NA{h:Heap}{H:Hp}{b:Addr}{o:Obj}(e:(dh h H).get? b=some o):h.get? b=some o/\H b=none:=by
 have a:h.get? b=some o:=PySem.W.of_hideAll (Bs h H) e;refine⟨a,?_⟩;cases q:H b with
 |none=>rfl
 |some x=>
  have c:b∈Bs h H:=List.mem_filter.mpr ⟨List.mem_range.mpr (Ao a),by simp[q]⟩;have z:(dh h H).get? b=none:=PySem.W.hideAll_none (Bs h H) c;rw[z] at e;cases e
structure Mod(K:Ab)(mg:Str->Option Value)(base:Heap):Prop where
 kin:K.In base
 glob:base.Ns mainGlobals mg
 blt:∃mb,base.Ns builtinsNs mb/\∀x:Str,x≠"__name__"->mb x=A9 x
 nolimit:base.NoLimit
structure Cx where
 prog:Program
 w:World
 K:Ab
 mg:Str->Option Value
 base:Heap
 A:Around
 N:List Str
 s₀:Shared
 H₀:Hp
 env:Env
 outer:List Env
 stack:List Env
 ex:List Addr
 fn:Str->Bool
 calm:Bool
 pn:Ψ
 xe:Ω
def frs(l:List Env):List Addr:=l.filterMap (·.frame)
abbrev Cx.fs(X:Cx):List Addr:=frs X.outer
def qj(sc:Scope)(x:Str):Prop:=sc.names.lookup x=some .local\/sc.names.lookup x=some .cell\/sc.names.lookup x=some .free
def Loc(sc:Scope)(x:Str):Prop:=sc.names.lookup x=some .local\/sc.names.lookup x=some .cell
def Look(env:Env)(h:Heap)(m:Str->Option Value)(x:Str)(u:Value):Prop:=
 (env.kindOf x=some .local/\m x=some u)\/((env.kindOf x=some .cell\/env.kindOf x=some .free)/\∃c,env.cells.lookup x=some c/\h.IsCell c (some u))
structure Cx.Ok(X:Cx):Prop where
 mod:Mod X.K X.mg X.base
 kind:X.env.scope.kind=.function
 glob:X.env.globals=mainGlobals
 blt:X.env.builtins=builtinsNs
 above:X.s₀⁻¹<=X.env.locals
 inj:∀x y c,X.env.cells.lookup x=some c->X.env.cells.lookup y=some c->x=y
 has:∀x,(X.env.kindOf x=some .cell\/X.env.kindOf x=some .free)->∃c,X.env.cells.lookup x=some c
 cab:∀x c,X.fn x=true->X.env.cells.lookup x=some c->X.s₀⁻¹<=c
 hd:X.calm=true->X.A.handled=none
 frames:X.A.frames=some X.stack
 stk:X.stack=X.outer\/(X.stack=X.env::X.outer/\X.env.frame=some X.env.locals)
 exf:∀b∈X.ex,b≠X.env.locals/\∀x c,X.env.cells.lookup x=some c->c≠b
 bs:∀b o,X.base.get? b=some o->X.s₀.heap.get? b=some o/\X.H₀ b=none
 bsz:X.base.objs.size<=X.s₀⁻¹
 noex:∀b o,X.base.get? b=some o->b∉X.ex
 exfs:∀b∈X.ex,b∉X.fs
 funs:X.s₀.heap.FunFrames X.base X.outer
 frf:∀b∈X.fs,X.H₀ b=none
structure Inv(X:Cx)(aa:Ψ)(σ:List (Option V))(H:Hp)(s:Shared):Prop where
 ok:X.Ok
 os:s.os=X.s₀.os
 bare:AllBare s.gens
 base:Un X.fs X.ex X.H₀ H X.s₀.heap s.heap
 loc:∃m,s.heap.Ns X.env.locals m/\∀(i:Nat)(x:Str)(v:V),X.N[i]?=some x->σ[i]?=some (some v)->qj X.env.scope x->∃u,RelV v u/\Look X.env s.heap m x u
 cell:∀x c,X.env.cells.lookup x=some c->∃v,s.heap.IsCell c v
 free:H X.env.locals=none
 freeC:∀x c,X.env.cells.lookup x=some c->H c=none
 pin:∀p∈X.pn++aa,s.heap.get? p.1=some p.2/\H p.1=none/\p.1≠X.env.locals/\p.1∉X.fs/\∀v,p.2.data≠.cell v
 hok:HOk X.prog X.w H s.heap
 len:σ.length=X.N.length
section
variable{X:Cx}{aa:Ψ}{σ:List (Option V)}{H H':Hp}{s:Shared}{h':Heap}
def Cx.Ok.nofr(ok:X.Ok){b:Addr}{o:Obj}(e:X.base.get? b=some o):b∉X.fs:=fun hb=>by
 have:=(ok.funs.mem hb).1;rw[e] at this;cases this
def Inv.bs(I:Inv X aa σ H s):∀b o,X.base.get? b=some o->s.heap.get? b=some o/\H b=none:=fun b o e=>
 ⟨I.base.keep b o (I.ok.bs b o e).1 (I.ok.bs b o e).2 (I.ok.nofr e) (I.ok.noex b o e),I.base.free b o (I.ok.bs b o e).1 (I.ok.bs b o e).2 (I.ok.noex b o e)⟩
def Inv.bk(I:Inv X aa σ H s):∀b o,X.base.get? b=some o->s.heap.get? b=some o:=fun b o e=>(I.bs b o e).1
def Inv.mod(I:Inv X aa σ H s):Mod X.K X.mg X.base:=I.ok.mod
def Inv.kIn(I:Inv X aa σ H s):X.K.In s.heap:=I.ok.mod.kin.keeps I.bk
def Inv.nolimit(I:Inv X aa σ H s):s.heap.NoLimit:=I.ok.mod.nolimit.keeps I.bk
def Inv.lt(I:Inv X aa σ H s):X.env.locals<s⁻¹:=let ⟨_,hn,_⟩:=I.loc;hn.lt
def Inv.sz(I:Inv X aa σ H s):X.s₀⁻¹<=s⁻¹:=Ag I.ok.above (Nat.le_of_lt I.lt)
def Inv.nofs(I:Inv X aa σ H s){a:Addr}(h:s⁻¹<=a):a∉X.fs:=fun hb=>by
 obtain⟨_,o,b,_⟩:=I.ok.funs.mem hb;exact absurd (Au (Ao b) (Ag I.sz h)) (Nat.lt_irrefl _)
def Inv.cne(I:Inv X aa σ H s):∀x c,X.env.cells.lookup x=some c->c≠X.env.locals:=fun x c e z=>by
 obtain⟨v,o,b,hd⟩:=I.cell x c e;obtain⟨m,⟨o',es,ep,d,a,_⟩,_⟩:=I.loc;rw[z,d] at b;cases b;rw[a] at hd;cases hd
def Inv.funs(I:Inv X aa σ H s):s.heap.FunFrames X.base X.outer:=by
 have all:∀(l:List Env),(∀b∈frs l,b∈X.fs)->X.s₀.heap.FunFrames X.base l->s.heap.FunFrames X.base l:=by
  intro l
  induction l with
  |nil=>intro _ _;trivial
  |cons env r ih=>
   intro d f;obtain⟨hk,⟨L,o,a,g,h,hd⟩,hr⟩:=f;have c:L∈X.fs:=d L (by unfold frs;rw[List.filterMap_cons,a];exact AF);obtain⟨i,e⟩:=I.base.slot L o h (I.ok.frf L c) c fun z=>I.ok.exfs L z c;exact⟨hk,⟨L,_,a,g,e,hd⟩,ih (fun b hb=>d b (by unfold frs;rw[List.filterMap_cons,a];exact AD _ hb)) hr⟩
 exact all X.outer (fun _ hb=>hb) I.ok.funs
def Inv.stack(I:Inv X aa σ H s):s.heap.FunFrames X.base X.stack:=by
 rcases I.ok.stk with e|⟨e,a⟩
 ·rw[e];exact I.funs
 ·rw[e]
  obtain⟨m,b,_⟩:=I.loc;refine .cons (by rw[I.ok.kind];decide) a b ?_ I.funs;exact Heap.get?_none_of_le (Ag I.ok.bsz I.ok.above)
def Inv.stkSub(I:Inv X aa σ H s):∀b∈frs X.stack,b∈X.env.locals::X.fs:=fun b hb=>by
 rcases I.ok.stk with e|⟨e,a⟩
 ·rw[e] at hb;exact AD _ hb
 ·rw[e] at hb
  unfold frs at hb;rw[List.filterMap_cons,a] at hb;exact hb
def Inv.stkFree(I:Inv X aa σ H s):∀b∈frs X.stack,H b=none:=fun b hb=>by
 rcases List.mem_cons.mp (I.stkSub b hb) with e|hb
 ·rw[e];exact I.free
 ·obtain⟨_,o,a,_⟩:=I.ok.funs.mem hb
  exact I.base.free b o a (I.ok.frf b hb) fun z=>I.ok.exfs b z hb
def Inv.step{g':Array GenState}{t':Nat}{d':Drawn}{ch:List Addr}(I:Inv X aa σ H s)(h:∀b∈ch,(b∈X.ex\/X.s₀⁻¹<=b)/\b≠X.env.locals/\(∀x c,X.env.cells.lookup x=some c->c≠b)/\∀p∈X.pn++aa,p.1≠b)(keep:∀b o,b≠X.env.locals->b∉X.fs->b∉ch->s.heap.get? b=some o->H b=none->h'.get? b=some o)(slot:∀b o,b≠X.env.locals->b∈X.fs->b∉ch->s.heap.get? b=some o->H b=none->∃A,h'.get? b=some {o with slots:=A})(free:∀b o,b∉ch->s.heap.get? b=some o->H b=none->H' b=none)(there:∀b o,b∉ch->s.heap.get? b=some o->∃o',h'.get? b=some o')(tups:∀b xs,H b=some (.tup xs)->H' b=some (.tup xs))(frzs:∀b o u,H b=some (.frz o u)->H' b=some (.frz o u))(tbls:∀b ps,H b=some (.tbl ps)->∃more,H' b=some (.tbl (ps++more)))(ns:∀m,s.heap.Ns X.env.locals m->h'.Ns X.env.locals m)(C:HOk X.prog X.w H' h')(hg:AllBare g'):Inv X aa σ H' {s with heap:=h',gens:=g',drawn:=d',toks:=t'}:=by
 have j:∀b o,X.s₀.heap.get? b=some o->b≠X.env.locals:=fun b o e=>Az (Au (Ao e) I.ok.above);have y:∀b o,X.s₀.heap.get? b=some o->b∉X.ex->b∉ch:=fun b o e hx hb=>by
  rcases(h b hb).1 with z|z
  ·exact hx z
  ·exact absurd (Au (Ao e) z) (Nat.lt_irrefl _)
 have a:∀x c,X.env.cells.lookup x=some c->∀v,s.heap.IsCell c v->h'.IsCell c v:=fun x c e v ⟨o,g,hd⟩=>by
  have f:c∉ch:=fun z=>(h c z).2.2.1 x c e rfl
  by_cases hc:c∈X.fs
  ·obtain⟨A,q⟩:=slot c o (I.cne x c e) hc f g (I.freeC x c e)
   exact⟨_,q,hd⟩
  ·exact⟨o,keep c o (I.cne x c e) hc f g (I.freeC x c e),hd⟩
 refine⟨I.ok,I.os,hg,⟨fun b o e n hb hx=>?_,fun b o e n hb hx=>?_,fun b o e n hx=>?_,fun b o e hx=>?_,fun b xs e=>tups b xs (I.base.tups b xs e),fun b o xs e=>frzs b o xs (I.base.frzs b o xs e),fun b ps e=>?_⟩,?_,fun x c e=>?_,?_,fun x c e=>?_,fun p hp=>?_,C,I.len⟩
 ·exact keep b o (j b o e) hb (y b o e hx) (I.base.keep b o e n hb hx) (I.base.free b o e n hx)
 ·obtain⟨A,e1⟩:=I.base.slot b o e n hb hx
  obtain⟨E,e2⟩:=slot b _ (j b o e) hb (y b o e hx) e1 (I.base.free b o e n hx);exact⟨E,e2⟩
 ·obtain⟨o',e1⟩:=I.base.there b o e hx
  exact free b o' (y b o e hx) e1 (I.base.free b o e n hx)
 ·obtain⟨o',e1⟩:=I.base.there b o e hx
  exact there b o' (y b o e hx) e1
 ·obtain⟨F,e1⟩:=I.base.tbls b ps e
  obtain⟨m2,e2⟩:=tbls b _ e1;exact⟨F++m2,by rw[e2,Array.append_assoc]⟩
 ·obtain⟨m,G,J⟩:=I.loc
  refine⟨m,ns m G,fun i x v e1 e2 e3=>?_⟩;obtain⟨u,r,l⟩:=J i x v e1 e2 e3;refine⟨u,r,?_⟩;rcases l with l|⟨k,c,e,z⟩
  ·exact .inl l
  ·exact .inr ⟨k,c,e,a x c e _ z⟩
 ·obtain⟨v,z⟩:=I.cell x c e
  exact⟨v,a x c e v z⟩
 ·obtain⟨m,⟨o,_,_,g,_⟩,_⟩:=I.loc
  exact free _ o (fun z=>(h _ z).2.1 rfl) g I.free
 ·obtain⟨v,o,g,hd⟩:=I.cell x c e
  exact free c o (fun z=>(h c z).2.2.1 x c e rfl) g (I.freeC x c e)
 ·obtain⟨e,n,ne,D,d⟩:=I.pin p hp
  have f:p.1∉ch:=fun z=>(h p.1 z).2.2.2 p hp rfl;exact⟨keep p.1 p.2 ne D f e n,free p.1 p.2 f e n,ne,D,d⟩
def Inv.un{t':Nat}(I:Inv X aa σ H s)(u:Un X.fs [] H H' s.heap h')(a:HOk X.prog X.w H' h'):Inv X aa σ H' {s with heap:=h',toks:=t'}:=by
 obtain⟨m,⟨o,es,ep,c,r⟩,_⟩:=id I.loc;obtain⟨p,g⟩:=u.any c I.free (by simp);exact I.step (g':=s.gens) (d':=s.drawn) (ch:=[]) (fun _ z=>nomatch z) (fun b o _ hb _ e n=>u.keep b o e n hb (by simp)) (fun b o _ hb _ e n=>u.slot b o e n hb (by simp)) (fun b o _ e n=>u.free b o e n (by simp)) (fun b o _ e=>u.there b o e (by simp)) u.tups u.frzs u.tbls (fun l f=>by
  obtain⟨o',h,i,d,j⟩:=f;rw[c] at d;cases d;exact⟨_,h,i,g,j⟩) a I.bare
def Inv.call{g':Array GenState}{t':Nat}{d':Drawn}{ch:List Addr}(I:Inv X aa σ H s)(u:Un (frs X.stack) ch H H' s.heap h')(d:HOk X.prog X.w H' h')(hg:AllBare g')(h:∀b∈ch,(b∈X.ex\/X.s₀⁻¹<=b)/\b≠X.env.locals/\(∀x c,X.env.cells.lookup x=some c->c≠b)/\∀p∈X.pn++aa,p.1≠b):Inv X aa σ H' {s with heap:=h',gens:=g',drawn:=d',toks:=t'}:=by
 obtain⟨m,⟨o,es,ep,f,r⟩,_⟩:=id I.loc;obtain⟨y,a⟩:=u.any f I.free fun z=>(h _ z).2.1 rfl;exact I.step (ch:=ch) h (fun b o a hb hc e n=>u.keep b o e n (fun z=>(List.mem_cons.mp (I.stkSub b z)).elim a hb) hc) (fun b o _ _ hc e n=>u.any e n hc) (fun b o hc e n=>u.free b o e n hc) (fun b o hc e=>u.there b o e hc) u.tups u.frzs u.tbls (fun v i=>by
  obtain⟨o',j,l,g,q⟩:=i;rw[f] at g;cases g;exact⟨_,j,l,a,q⟩) d hg
def Inv.turned{t':Nat}{it:Addr}(I:Inv X aa σ H s)(k:∀b o,b≠it->s.heap.get? b=some o->h'.get? b=some o)(h:H it=none)(d:it≠X.env.locals)(h1:it∈X.ex\/X.s₀⁻¹<=it)(h2:∀x c,X.env.cells.lookup x=some c->c≠it)(i:∀p∈X.pn++aa,p.1≠it):Inv X aa σ H {s with heap:=h',toks:=t'}:=by
 have a:∀b u,H b=some u->b≠it:=fun b u e z=>by rw[z,h] at e;cases e
 refine I.step (g':=s.gens) (d':=s.drawn) (ch:=[it]) (fun b hb=>?_) (fun b o _ _ hc e _=>k b o (fun z=>hc (by simp[z])) e) (fun b o _ _ hc e _=>⟨o.slots,k b o (fun z=>hc (by simp[z])) e⟩) (fun _ _ _ _ n=>n)
  (fun b o hc e=>⟨o,k b o (fun z=>hc (by simp[z])) e⟩) (fun _ _ e=>e) (fun _ _ _ e=>e) (fun b ps e=>⟨#[],by rw[e];simp⟩) (fun m f=>?_) (fun b u e=>?_) I.bare
 ·have e:b=it:=by simpa using hb
  subst e;exact⟨h1,d,h2,i⟩
 ·obtain⟨o,es,ep,g,r⟩:=f
  exact⟨o,es,ep,k _ o (Ne.symm d) g,r⟩
 ·refine(I.hok b u e).stay (fun c v hc q=>k c v ?_ q) (fun _ q=>q) fun _ _ q=>q
  rcases hc with z|z
  ·rw[z];exact a b u e
  ·exact a c _ z
def Inv.tok(I:Inv X aa σ H s)(t:Nat):Inv X aa σ H {s with toks:=t}:=I.un (h':=s.heap) (t':=t) Un.refl I.hok
def Inv.kept{t':Nat}(I:Inv X aa σ H s)(k:∀b u,s.heap.get? b=some u->h'.get? b=some u):Inv X aa σ H {s with heap:=h',toks:=t'}:=I.un (Un.kept k) (I.hok.kept k)
def Inv.laid{a:Addr}{o:HO}{t':Nat}(I:Inv X aa σ H s)(k:∀b u,s.heap.get? b=some u->h'.get? b=some u)(hp:s⁻¹<=a)(new:zar X.prog X.w (upd H a o) h' a o):Inv X aa σ (upd H a o) {s with heap:=h',toks:=t'}:=I.un (Un.laid k hp (I.hok.fresh hp)) (I.hok.laid k hp new)
def Inv.write{x e:Addr}{o:HO}{t':Nat}(I:Inv X aa σ H s)(mu:qi (H x))(a:e=x\/H e=some (.own x))(k:∀b u,b≠e->s.heap.get? b=some u->h'.get? b=some u)(c:∃u,h'.get? e=some u)(new:zar X.prog X.w (upd H x o) h' x o):Inv X aa σ (upd H x o) {s with heap:=h',toks:=t'}:=I.un (Un.write mu a k c) (I.hok.write mu a k c new)
def Inv.pins_of{bF:Ψ}(I:Inv X aa σ H s)(h:∀p∈bF,s.heap.get? p.1=some p.2/\H p.1=none/\p.1≠X.env.locals/\p.1∉X.fs/\∀v,p.2.data≠.cell v):Inv X bF σ H s:=
 ⟨I.ok,I.os,I.bare,I.base,I.loc,I.cell,I.free,I.freeC,fun p hp=>(List.mem_append.mp hp).elim (fun z=>I.pin p (AY _ z)) (h p),I.hok,I.len⟩
def G0{N:List Str}(c:N.Nodup){i j:Nat}{x:Str}(a:N[i]?=some x)(b:N[j]?=some x):i=j:=by
 obtain⟨h1,e1⟩:=List.getElem?_eq_some_iff.mp a;obtain⟨h2,e2⟩:=List.getElem?_eq_some_iff.mp b;exact(List.getElem_inj c).mp (e1.trans e2.symm)
def JQ{M:Model}{A:Around}{E:Ω}{i:Nat}{x:Str}{v:V}{u:Value}{Q:Unit->Shared->Prop}(I:Inv X aa σ H s)(hN:X.N.Nodup)(hi:X.N[i]?=some x)(hx:Loc X.env.scope x)(r:RelV v u)(h:∀s',Inv X aa (σ.set i (some v)) H s'->(∃a,Heap.SameBut a s.heap s'.heap/\(a=X.env.locals\/X.env.cells.lookup x=some a))->Q () s')(hf:X.fn x=true\/X.env.scope.names.lookup x=some .local:=by first|exact .inl rfl|exact .inr rfl|assumption):wpAny M A (storeName X.env x u) Q E s:=by
 obtain⟨m,G,U⟩:=id I.loc;have ib:(X.env.scope.kind==.class|| (X.env.scope.kind==.module&&X.env.locals != X.env.globals))=false:=by rw[I.ok.kind];rfl
 have g:i<σ.length:=by rw[I.len];exact(List.getElem?_eq_some_iff.mp hi).1
 have cne:=I.cne;have di:∀{a:Addr}{h':Heap},(∃o,s.heap.get? a=some o/\H a=none)->Heap.SameBut a s.heap h'->HOk X.prog X.w H h':=fun{a h'} ha f b ob e=>by
  obtain⟨_,_,W⟩:=ha;refine(I.hok b ob e).stay (fun c C hc q=>(f.2 c ?_).trans q) (fun _ q=>q) fun _ _ q=>q;rintro rfl;rcases hc with rfl|hc
  ·rw[W] at e;cases e
  ·rw[W] at hc;cases hc
 rcases hx with hk|hk
 ·refine wpAny_storeName_local hk G (fun h' gD f=>?_) ib
  obtain⟨oL,_,_,jn,_⟩:=id G;refine h _ ⟨I.ok,I.os,I.bare,⟨fun b o e n hb hx=>?_,fun b o e n hb hx=>?_,I.base.free,fun b o e hx=>?_,I.base.tups,I.base.frzs,I.base.tbls⟩,⟨_,gD,fun j y F e1 e2 e3=>?_⟩,fun y c e=>?_,I.free,I.freeC,fun p hp=>?_,di ⟨oL,jn,I.free⟩ f,by simpa using I.len⟩ ⟨_,f,.inl rfl⟩
  ·exact(f.2 b (Az (Au (Ao e) I.ok.above))).trans (I.base.keep b o e n hb hx)
  ·obtain⟨J,e1⟩:=I.base.slot b o e n hb hx
   exact⟨J,(f.2 b (Az (Au (Ao e) I.ok.above))).trans e1⟩
  ·obtain⟨o',e1⟩:=I.base.there b o e hx
   exact⟨o',(f.2 b (Az (Au (Ao e) I.ok.above))).trans e1⟩
  ·by_cases l:j=i
   ·subst l
    rw[hi] at e1;cases e1;rw[List.getElem?_set_self g] at e2;cases e2;exact⟨u,r,.inl ⟨hk,by simp⟩⟩
   ·rw[List.getElem?_set_ne (Ne.symm l)] at e2
    obtain⟨L,O,q⟩:=U j y F e1 e2 e3;refine⟨L,O,?_⟩;rcases q with ⟨k,e⟩|⟨k,c,e,z⟩
    ·refine .inl ⟨k,?_⟩
     have:y≠x:=fun e=>l (G0 hN e1 (e▸hi));simp[this,e]
    ·exact .inr ⟨k,c,e,z.sameBut f (cne y c e)⟩
  ·obtain⟨C,z⟩:=I.cell y c e
   exact⟨C,z.sameBut f (cne y c e)⟩
  ·obtain⟨e,n,ne,P,d⟩:=I.pin p hp
   exact⟨(f.2 p.1 ne).trans e,n,ne,P,d⟩
 ·have S:X.fn x=true:=by
   rcases hf with z|z
   ·exact z
   ·rw[z] at hk;cases hk
  obtain⟨c,hc⟩:=I.ok.has x (.inl hk);obtain⟨C,z⟩:=I.cell x c hc;refine wpAny_storeName_cell I.ok.kind hk hc z (fun h' T f=>?_);obtain⟨Y,Z,nB⟩:=id z;refine h {s with heap:=h'} ⟨I.ok,I.os,I.bare,⟨fun b o e n hb hx=>?_,fun b o e n hb hx=>?_,I.base.free,fun b o e hx=>?_,I.base.tups,I.base.frzs,I.base.tbls⟩,⟨m,G.sameBut f (Ne.symm (cne x c hc)),fun j y F e1 e2 e3=>?_⟩,fun y D e=>?_,I.free,I.freeC,fun p hp=>?_,di ⟨Y,Z,I.freeC x c hc⟩ f,by simpa using I.len⟩ ⟨c,f,.inr hc⟩
  ·exact(f.2 b (Az (Au (Ao e) (I.ok.cab x c S hc)))).trans (I.base.keep b o e n hb hx)
  ·obtain⟨J,e1⟩:=I.base.slot b o e n hb hx
   exact⟨J,(f.2 b (Az (Au (Ao e) (I.ok.cab x c S hc)))).trans e1⟩
  ·obtain⟨o',e1⟩:=I.base.there b o e hx
   exact⟨o',(f.2 b (Az (Au (Ao e) (I.ok.cab x c S hc)))).trans e1⟩
  ·by_cases l:j=i
   ·subst l
    rw[hi] at e1;cases e1;rw[List.getElem?_set_self g] at e2;cases e2;exact⟨u,r,.inr ⟨.inl hk,c,hc,T⟩⟩
   ·rw[List.getElem?_set_ne (Ne.symm l)] at e2
    obtain⟨L,O,q⟩:=U j y F e1 e2 e3;refine⟨L,O,?_⟩;rcases q with q|⟨k,D,e,z'⟩
    ·exact .inl q
    ·refine .inr ⟨k,D,e,z'.sameBut f ?_⟩
     rintro rfl;exact l (G0 hN e1 (I.ok.inj _ _ _ e hc▸hi))
  ·by_cases js:D=c
   ·subst js;exact⟨_,T⟩
   ·obtain⟨w2,z2⟩:=I.cell y D e
    exact⟨w2,z2.sameBut f js⟩
  ·obtain⟨e,n,ne,P,d⟩:=I.pin p hp
   refine⟨(f.2 p.1 ?_).trans e,n,ne,P,d⟩;intro q;rw[q,Z] at e;have q':Y=p.2:=AL e;exact d C (by rw[<-q'];exact nB)
def BG{M:Model}{A:Around}{E:Ω}{i:Nat}{x:Str}{v:V}{u:Value}{Q:Unit->Shared->Prop}(I:Inv X aa σ H s)(a:X.N.Nodup)(hi:X.N[i]?=some x)(hx:Loc X.env.scope x)(r:RelV v u)(h:∀s',Inv X aa (σ.set i (some v)) H s'->Q () s')(b:X.fn x=true\/X.env.scope.names.lookup x=some .local:=by first|exact .inl rfl|exact .inr rfl|assumption):wpAny M A (storeName X.env x u) Q E s:=
 JQ I a hi hx r (fun s' c _=>h s' c) b
def Inv.call'{s':Shared}{ch:List Addr}(I:Inv X aa σ H s)(d:s'.os=s.os)(u:Un (frs X.stack) ch H H' s.heap s'.heap)(a:HOk X.prog X.w H' s'.heap)(hg:AllBare s'.gens)(f:∀b∈ch,(b∈X.ex\/X.s₀⁻¹<=b)/\b≠X.env.locals/\(∀x c,X.env.cells.lookup x=some c->c≠b)/\∀p∈X.pn++aa,p.1≠b):Inv X aa σ H' s':=by
 obtain⟨h',g',d',t',o'⟩:=s';have e:o'=s.os:=d;subst e;exact I.call (g':=g') (t':=t') (d':=d') u a hg f
end
abbrev XK:=Value->Option Addr->Hp->Prop
abbrev St:=List (Option V)
abbrev VK:=V->Hp->Prop
abbrev TE:=St->Hp->VK->Prop
abbrev TT:=St->Hp->(Bool->Hp->Prop)->Prop
abbrev TA:=St->Hp->(List V->Hp->Prop)->Prop
structure Ends where
 nx:St->Hp->Prop
 rt:VK
 bk:St->Hp->Prop:=fun _ _=>False
 ct:St->Hp->Prop:=fun _ _=>False
abbrev TS:=Ends->St->Hp->Prop
def EP(X:Cx)(aa:Ψ)(σ:St)(Q:VK)(u:Value)(s':Shared):Prop:=∃v H',Inv X aa σ H' s'/\RelV v u/\Q v H'
def TP(X:Cx)(aa:Ψ)(σ:St)(Q:Bool->Hp->Prop)(b:Bool)(s':Shared):Prop:=∃H',Inv X aa σ H' s'/\Q b H'
def AP(X:Cx)(aa:Ψ)(σ:St)(Q:List V->Hp->Prop)(us:List Value)(s':Shared):Prop:=∃vs H',Inv X aa σ H' s'/\Vals vs us/\Q vs H'
def SP(X:Cx)(aa:Ψ)(D:Ends)(f:Flow)(s':Shared):Prop:=
 match f with
 |.next=>∃a H',Inv X aa a H' s'/\D.nx a H'
 |.brk=>∃a H',Inv X aa a H' s'/\D.bk a H'
 |.cont=>∃a H',Inv X aa a H' s'/\D.ct a H'
 |.ret u=>∃v a H',Inv X aa a H' s'/\RelV v u/\D.rt v H'
def PE(X:Cx)(e:Expr)(t:TE):Prop:=
 ∀(aa:Ψ)(s:Shared)(σ:St)(H:Hp)(Q:VK),Inv X aa σ H s->t σ H Q->wpAny (model X.prog X.w) X.A (eval e X.env) (EP X aa σ Q) X.xe s
def PT(X:Cx)(e:Expr)(t:TT):Prop:=
 ∀(aa:Ψ)(s:Shared)(σ:St)(H:Hp)(Q:Bool->Hp->Prop),Inv X aa σ H s->t σ H Q->wpAny (model X.prog X.w) X.A (isTrue e X.env (eval e X.env)) (TP X aa σ Q) X.xe s
def PW(X:Cx)(e:Expr)(t:TT):Prop:=
 ∀(a:Sem Value)(aa:Ψ)(s:Shared)(σ:St)(H:Hp)(Q:Bool->Hp->Prop),Inv X aa σ H s->t σ H Q->wpAny (model X.prog X.w) X.A (isTrue e X.env a) (TP X aa σ Q) X.xe s
def PW.pt{X:Cx}{e:Expr}{t:TT}(h:PW X e t):PT X e t:=h _
def PA(X:Cx)(es:List Expr)(t:TA):Prop:=
 ∀(pos:Pos)(aa:Ψ)(s:Shared)(σ:St)(H:Hp)(Q:List V->Hp->Prop),Inv X aa σ H s->t σ H Q->wpAny (model X.prog X.w) X.A (spliced (backTo pos (starEach es X.env))) (AP X aa σ Q) X.xe s
def PS(X:Cx)(st:Stmt)(t:TS):Prop:=
 ∀(aa:Ψ)(s:Shared)(σ:St)(H:Hp)(D:Ends),Inv X aa σ H s->t D σ H->wpAny (model X.prog X.w) X.A (exec st X.env) (SP X aa D) X.xe s
def PSs(X:Cx)(st:List Stmt)(t:TS):Prop:=
 ∀(aa:Ψ)(s:Shared)(σ:St)(H:Hp)(D:Ends),Inv X aa σ H s->t D σ H->wpAny (model X.prog X.w) X.A (execs st X.env) (SP X aa D) X.xe s
def aX{b:Type}{t:Sem b}{Q c:b->Shared->Prop}{M:Model}{A:Around}{E:Ω}{s:Shared}(h:wpAny M A t Q E s)(d:∀a s,Q a s->c a s):wpAny M A t c E s:=wpAny_mono h d fun _ _ x=>x
section
variable{X:Cx}
def aC(i:Nat):TE:=fun σ H Q=>∃v,σ[i]?=some (some v)/\Q v H
def tC(v:V):TE:=fun _ H Q=>Q v H
def NB{i:Nat}{x:Str}{pos:Pos}(g:X.N[i]?=some x)(j:qj X.env.scope x)(hd:(x==("__debug__":Str))=false:=by decide)(o:(x==("__classdict__":Str))=false:=by decide):PE X (.Name x pos) (aC i):=by
 intro aa s σ H Q I h;obtain⟨v,e,h⟩:=h;obtain⟨m,b,d⟩:=I.loc;obtain⟨u,r,l⟩:=d i x v g e j;have fin:EP X aa σ Q u s:=⟨v,H,I,r,h⟩;rcases l with ⟨hk,f⟩|⟨hk,c,hc,a⟩
 ·exact wpAny_Name (wpAny_loadName_local I.ok.kind hk b f fin) hd
 ·rcases hk with hk|hk
  ·exact wpAny_Name (wpAny_loadName_cell I.ok.kind hk hc a fin) hd
  ·exact wpAny_Name (wpAny_loadName_free I.ok.kind hk hc a fin o) hd
def zb{i j pos}:PE X (.Constant (.int i) j pos) (tC (.int i)):=fun _ _ _ H _ I h=>wpAny_Constant_int ⟨.int i,H,I.tok _,⟨_,rfl⟩,h⟩
def eS{b j pos}:PE X (.Constant (.bool b) j pos) (tC (.bl b)):=fun _ _ _ H _ I h=>Constant_bool ⟨.bl b,H,I,rfl,h⟩
def pe_str{x j pos}:PE X (.Constant (.str x) j pos) (tC (.str x)):=fun _ _ _ H _ I h=>Calls.Constant_str ⟨.str x,H,I.tok _,⟨_,rfl⟩,h⟩
def Gl(X:Cx)(x:Str):Prop:=X.env.kindOf x=some .globalImplicit
def BK{E:Ω}{aa:Ψ}{s:Shared}{σ:St}{H:Hp}{x:Str}{u:Value}{pos:Pos}{Q:Ω}(I:Inv X aa σ H s)(hg:Gl X x)(a:X.mg x=some u)(h:Q u s)(hd:(x==("__debug__":Str))=false:=by decide):wpAny (model X.prog X.w) X.A (eval (.Name x pos) X.env) Q E s:=
 Calls.Name_function_global I.ok.kind hg (Calls.loadGlobal_global (by rw[I.ok.glob];exact I.mod.glob.keeps I.bk) a h) hd
def i0{E:Ω}{aa:Ψ}{s:Shared}{σ:St}{H:Hp}{x:Str}{u:Value}{pos:Pos}{Q:Ω}(I:Inv X aa σ H s)(hg:Gl X x)(a:X.mg x=none)(b:A9 x=some u)(h:Q u s)(c:x≠"__name__":=by decide)(hd:(x==("__debug__":Str))=false:=by decide):wpAny (model X.prog X.w) X.A (eval (.Name x pos) X.env) Q E s:=by
 obtain⟨d,h1,h2⟩:=I.mod.blt;exact Calls.Name_function_global I.ok.kind hg (Calls.loadGlobal_builtin (by rw[I.ok.glob];exact I.mod.glob.keeps I.bk) a (by rw[I.ok.blt];exact h1.keeps I.bk) ((h2 x c).trans b) h) hd
def im{x:Str}{v:V}{u:Value}{pos:Pos}(hg:Gl X x)(a:X.mg x=some u)(r:RelV v u)(hd:(x==("__debug__":Str))=false:=by decide):PE X (.Name x pos) (tC v):=
 fun _ _ _ H _ I h=>BK I hg a ⟨v,H,I,r,h⟩ hd
def NC{x:Str}{v:V}{u:Value}{pos:Pos}(hg:Gl X x)(a:X.mg x=none)(b:A9 x=some u)(r:RelV v u)(c:x≠"__name__":=by decide)(hd:(x==("__debug__":Str))=false:=by decide):PE X (.Name x pos) (tC v):=
 fun _ _ _ H _ I h=>i0 I hg a b ⟨v,H,I,r,h⟩ c hd
variable{a b:Expr}{ta tb:TE}{pos:Pos}
def PC(X:Cx)(e:CmpOp)(a b:Expr)(t:TE):Prop:=
 ∀(aa:Ψ)(s:Shared)(σ:St)(H:Hp)(Q:VK),Inv X aa σ H s->t σ H Q->
  wpAny (model X.prog X.w) X.A (eval a X.env) (fun v c=>wpAny (model X.prog X.w) X.A (eval b X.env) (fun u d=>wpAny (model X.prog X.w) X.A (compareOp e v u) (EP X aa σ Q) X.xe d) X.xe c) X.xe s
def gC(b:Expr){a:CmpOp}(h:a≠.In)(h2:a≠.NotIn):behindInMarks a b=false:=by
 have e1:(a==CmpOp.In)=false:=by cases a<;>first|rfl|exact absurd rfl h
 have e2:(a==CmpOp.NotIn)=false:=by cases a<;>first|rfl|exact absurd rfl h2
 cases b<;>simp[behindInMarks,e1,e2]
def tB(t:TE):TT:=fun σ H Q=>t σ H fun x H1=>∃c,x=.bl c/\Q c H1
def ND{e:CmpOp}{t:TE}(h:PC X e a b t)(h1:behindInMarks e b=false:=by first|exact gC _ ξ ξ|rfl):PT X (.Compare a [e] [b] pos) (tB t):=by
 intro aa s σ H Q I hw;refine wpAny_isTrue_Compare1 (aX (h aa s σ H _ I hw) fun v j h1=>aX h1 fun u l h2=>aX h2 fun c o ⟨x,H1,i,f,g⟩=>?_) h1;obtain⟨d,rfl,q⟩:=g;cases f;exact wpAny_truthy_bool ⟨H1,i,q⟩
def eD{e:Expr}{t:TE}(h:PE X e t)(f:∀a,isTrue e X.env a=(do let v <-a;standAt e.pos;holding [v] (truthy v)):=by intro _;rfl):PT X e (tB t):=by
 intro aa s σ H Q I hw;refine isTrue_plain (aX (h aa s σ H _ I hw) fun v i ⟨x,H1,g,b,c⟩=>?_) (f _);obtain⟨d,rfl,q⟩:=c;cases b;exact wpAny_truthy_bool ⟨H1,g,q⟩
variable{tA j0:TT}{rest:List Expr}
def qu(t u:TT):TT:=fun σ H Q=>t σ H fun c H1=>if c=true then u σ H1 Q else Q false H1
def NE(t u:TT):TT:=fun σ H Q=>t σ H fun c H1=>if c=true then Q true H1 else u σ H1 Q
def G1(t:TT):TT:=fun σ H Q=>t σ H fun c H1=>Q (!c) H1
def NF(b:PT X a tA):PW X (.BoolOp .And [a] pos) tA:=by
 intro d aa s σ H Q I h;refine isTrue_and (aX (b aa s σ H Q I h) fun c f e=>?_);cases c with
 |true=>exact isTrue_and_nil e
 |false=>exact e
def nP(b:PT X a tA):PW X (.BoolOp .Or [a] pos) tA:=by
 intro d aa s σ H Q I h;refine isTrue_or (aX (b aa s σ H Q I h) fun c f e=>?_);cases c with
 |false=>exact isTrue_or_nil e
 |true=>exact e
def NG(i:PT X a tA)(hb:PW X (.BoolOp .And (b::rest) pos) j0):PW X (.BoolOp .And (a::b::rest) pos) (qu tA j0):=by
 intro f aa s σ H Q I h;refine isTrue_and (aX (i aa s σ H _ I h) fun c g ⟨H1,e,d⟩=>?_);cases c with
 |true=>exact hb f aa g σ H1 Q e d
 |false=>exact⟨H1,e,d⟩
def nR(i:PT X a tA)(hb:PW X (.BoolOp .Or (b::rest) pos) j0):PW X (.BoolOp .Or (a::b::rest) pos) (NE tA j0):=by
 intro f aa s σ H Q I h;refine isTrue_or (aX (i aa s σ H _ I h) fun c g ⟨H1,e,d⟩=>?_);cases c with
 |true=>exact⟨H1,e,d⟩
 |false=>exact hb f aa g σ H1 Q e d
def eZ(b:PT X a tA):PT X (.UnaryOp .Not a pos) (G1 tA):=by
 intro aa s σ H Q I h;exact isTrue_not (b aa s σ H (fun c H1=>Q (!c) H1) I h)
def NH(ta tb:TE):TE:=fun σ H Q=>ta σ H fun x H1=>∃c,x=.bl c/\if c=true then tb σ H1 Q else Q (.bl false) H1
def G2(ta tb:TE):TE:=fun σ H Q=>ta σ H fun x H1=>∃c,x=.bl c/\if c=true then Q (.bl true) H1 else tb σ H1 Q
def BQ{op}{t:TE}(h:PE X a t):PE X (.BoolOp op [a] pos) t:=fun aa s σ H Q I hw=>BoolOp_one (h aa s σ H Q I hw)
def G3(i:PE X a ta)(hb:PE X (.BoolOp .And (b::rest) pos) tb):PE X (.BoolOp .And (a::b::rest) pos) (NH ta tb):=by
 intro aa s σ H Q I h;refine BoolOp_and (aX (i aa s σ H _ I h) fun v f ⟨x,H1,e,g,d⟩=>?_);obtain⟨c,rfl,d⟩:=d;cases g;refine wpAny_truthy_bool ?_;cases c with
 |true=>exact hb aa f σ H1 Q e d
 |false=>exact⟨.bl false,H1,e,rfl,d⟩
def NI(i:PE X a ta)(hb:PE X (.BoolOp .Or (b::rest) pos) tb):PE X (.BoolOp .Or (a::b::rest) pos) (G2 ta tb):=by
 intro aa s σ H Q I h;refine BoolOp_or (aX (i aa s σ H _ I h) fun v f ⟨x,H1,e,g,d⟩=>?_);obtain⟨c,rfl,d⟩:=d;cases g;refine wpAny_truthy_bool ?_;cases c with
 |false=>exact hb aa f σ H1 Q e d
 |true=>exact⟨.bl true,H1,e,rfl,d⟩
def NJ(t:TT)(ta tb:TE):TE:=fun σ H Q=>t σ H fun c H1=>if c=true then ta σ H1 Q else tb σ H1 Q
def qA{c:Expr}(hc:PT X c tA)(i:PE X a ta)(hb:PE X b tb):PE X (.IfExp c a b pos) (NJ tA ta tb):=by
 intro aa s σ H Q I h;refine wpAny_IfExp (aX (hc aa s σ H _ I h) fun d e ⟨H1,g,f⟩=>?_);cases d with
 |true=>exact i aa e σ H1 Q g f
 |false=>exact hb aa e σ H1 Q g f
end
def SqL(K:Ab)(H:Hp)(a:Addr)(xs:List V):Prop:=
 Rd H a (.lst xs) \/
  ∃(o:Obj)(b:Array Value)(n:Nat),K.lookup a=some o/\o.cls=.type "list"/\o.dict=none/\o.data=.seq b n/\b.size<=sizeLine/\Vals xs b.toList
def SqT(K:Ab)(H:Hp)(a:Addr)(xs:List V):Prop:=
 Rd H a (.tup xs) \/
  ∃(o:Obj)(b:Array Value)(n:Nat),K.lookup a=some o/\o.cls=.type "tuple"/\o.data=.seq b n/\b.size<=sizeLine/\Vals xs b.toList
def G4:Value->Option V
 |.none=>some .non
 |.bool b=>some (.bl b)
 |.int i _=>some (.int i)
 |.str x _=>some (.str x)
 |.bytes b _=>some (.byt b)
 |.float b _=>some (.flt b)
 |.ref a=>some (.ref a)
 |.type n=>some (.ty n)
 |_=>none
def RelV.abs{x:V}{u:Value}(r:RelV x u):G4 u=some x:=by
 cases x with
 |non=>cases r;rfl
 |bl _=>cases r;rfl
 |int _=>obtain⟨t,rfl⟩:=r;rfl
 |str _=>obtain⟨t,rfl⟩:=r;rfl
 |byt _=>obtain⟨t,rfl⟩:=r;rfl
 |flt _=>obtain⟨t,rfl⟩:=r;rfl
 |ref _=>cases r;rfl
 |ty _=>cases r;rfl
def RelV.inj{x y:V}{u:Value}(r:RelV x u)(q:RelV y u):x=y:=AL (r.abs.symm.trans q.abs)
def Vals.inj{xs ys:List V}{us:List Value}(h:Vals xs us)(g:Vals ys us):xs=ys:=by
 induction h generalizing ys with
 |nil=>cases g;rfl
 |cons r t ih=>cases g with|cons r' t'=>rw[r.inj r',ih t']
section
variable{X:Cx}{aa:Ψ}{σ:St}{H:Hp}{s:Shared}{a:Addr}{xs ys:List V}
def SqL.of{K:Ab}(h:H a=some (.lst xs)):SqL K H a xs:=.inl (.inl h)
def SqT.of{K:Ab}(h:H a=some (.tup xs)):SqT K H a xs:=.inl (.inl h)
def Inv.list(I:Inv X aa σ H s)(h:SqL X.K H a xs):∃b:List Value,Vals xs b/\PlainL s.heap a b.toArray/\xs.length<=sizeLine:=by
 rcases h with h|⟨o,b,n,hk,hc,hd,c,hz,r⟩
 ·obtain⟨z,b,n,r,e⟩:=h.ok I.hok
  exact⟨b,r,⟨_,n,e,rfl,rfl,rfl⟩,z⟩
 ·refine⟨b.toList,r,⟨o,n,I.kIn a o hk,hc,hd,by simpa using c⟩,?_⟩
  have e:=r.length;simp only[Array.length_toList] at e;(first|lia|omega)
def Inv.tuple(I:Inv X aa σ H s)(h:SqT X.K H a xs):∃b:List Value,Vals xs b/\IsTup s.heap a b.toArray/\xs.length<=sizeLine:=by
 rcases h with h|⟨o,b,n,hk,hc,c,hz,r⟩
 ·obtain⟨z,b,r,p⟩:=h.ok I.hok
  exact⟨b,r,p,z⟩
 ·refine⟨b.toList,r,⟨o,I.kIn a o hk,hc,n,by simpa using c⟩,?_⟩
  have e:=r.length;simp only[Array.length_toList] at e;(first|lia|omega)
def Inv.list_inj(I:Inv X aa σ H s)(h:SqL X.K H a xs)(h':SqL X.K H a ys):xs=ys:=by
 obtain⟨c,r,⟨o,n,e,_,_,d⟩,_⟩:=I.list h;obtain⟨its',f,⟨o',g,b,_,_,d'⟩,_⟩:=I.list h';rw[e] at b;cases b;rw[d] at d';injection d' with d1 _
 have:c=its':=by simpa using congrArg Array.toList d1
 subst this;exact r.inj f
def Inv.tuple_inj(I:Inv X aa σ H s)(h:SqT X.K H a xs)(h':SqT X.K H a ys):xs=ys:=by
 obtain⟨c,r,⟨o,e,_,n,d⟩,_⟩:=I.tuple h;obtain⟨its',f,⟨o',b,_,g,d'⟩,_⟩:=I.tuple h';rw[e] at b;cases b;rw[d] at d';injection d' with d1 _
 have:c=its':=by simpa using congrArg Array.toList d1
 subst this;exact r.inj f
end
abbrev Cx.wish(X:Cx)(E:Ω):Cx:={X with xe:=E}
abbrev Cx.nox(X:Cx):Cx:=X.wish fun _ _=>False
def Cx.Ok.wish{X:Cx}(ok:X.Ok)(E:Ω):(X.wish E).Ok:=
 ⟨ok.mod,ok.kind,ok.glob,ok.blt,ok.above,ok.inj,ok.has,ok.cab,ok.hd,ok.frames,ok.stk,ok.exf,ok.bs,ok.bsz,ok.noex,ok.exfs,ok.funs,ok.frf⟩
def Cx.Ok.unwish{X:Cx}{E:Ω}(ok:(X.wish E).Ok):X.Ok:=
 ⟨ok.mod,ok.kind,ok.glob,ok.blt,ok.above,ok.inj,ok.has,ok.cab,ok.hd,ok.frames,ok.stk,ok.exf,ok.bs,ok.bsz,ok.noex,ok.exfs,ok.funs,ok.frf⟩
section
variable{X:Cx}{aa:Ψ}{σ:St}{H:Hp}{s:Shared}{E:Ω}
def Inv.wish(I:Inv X aa σ H s)(E:Ω):Inv (X.wish E) aa σ H s:=⟨I.ok.wish E,I.os,I.bare,I.base,I.loc,I.cell,I.free,I.freeC,I.pin,I.hok,I.len⟩
def Inv.unwish(I:Inv (X.wish E) aa σ H s):Inv X aa σ H s:=⟨I.ok.unwish,I.os,I.bare,I.base,I.loc,I.cell,I.free,I.freeC,I.pin,I.hok,I.len⟩
def SP.unwish{D:Ends}{f:Flow}{s':Shared}(h:SP (X.wish E) aa D f s'):SP X aa D f s':=by
 cases f with
 |next=>obtain⟨a,H',I,q⟩:=h;exact⟨a,H',I.unwish,q⟩
 |brk=>obtain⟨a,H',I,q⟩:=h;exact⟨a,H',I.unwish,q⟩
 |cont=>obtain⟨a,H',I,q⟩:=h;exact⟨a,H',I.unwish,q⟩
 |ret u=>obtain⟨v,a,H',I,r,q⟩:=h;exact⟨v,a,H',I.unwish,r,q⟩
def PSs.nox{st:List Stmt}{t:TS}(h:PSs X.nox st t):PSs X st t:=fun aa s σ H D I hw=>
 wpAny_mono (h aa s σ H D (I.wish _) hw) (fun _ _ q=>q.unwish) fun _ _ z=>False.elim z
end
section
variable{X:Cx}{st:Stmt}{rest:List Stmt}{t u:TS}{e:Expr}{te:TE}{pos:Pos}
def NK:TS:=fun D σ H=>D.nx σ H
def qB(t u:TS):TS:=fun D σ H=>t {D with nx:=u D} σ H
def zA:PSs X [] NK:=fun _ _ σ H _ I h=>wpAny_execs_nil ⟨σ,H,I,h⟩
def za(h1:PS X st t)(h2:PSs X rest u):PSs X (st::rest) (qB t u):=by
 intro aa s σ H D I h;refine wpAny_execs_cons (aX (h1 aa s σ H {D with nx:=u D} I h) fun f a q=>?_);cases f with
 |next=>
  obtain⟨b,H',c,q⟩:=q;exact h2 aa a b H' D c q
 |ret v=>exact q
 |brk=>exact q
 |cont=>exact q
def zf(h1:PS X st t):PSs X [st] t:=by
 intro aa s σ H D I h;refine wpAny_execs_cons (aX (h1 aa s σ H D I h) fun f a q=>?_);cases f with
 |next=>exact wpAny_execs_nil q
 |ret v=>exact q
 |brk=>exact q
 |cont=>exact q
def Inv.quiet{aa:Ψ}{σ:St}{H:Hp}{s:Shared}(I:Inv X aa σ H s):interactive X.env=false:=by simp[interactive,I.ok.kind]
def NL(te:TE):TS:=fun D σ H=>te σ H fun _ H1=>D.nx σ H1
def zD(b:PE X e te)(c:swapsWith e none pos.line X.env=pure false:=by rfl):PS X (.Expr e pos) (NL te):=by
 intro aa s σ H D I h;exact wpAny_Expr_any (aX (b aa s σ H _ I h) fun v f ⟨x,H1,d,g,a⟩=>⟨σ,H1,d,a⟩) I.quiet c
def G5(te:TE):TS:=fun D σ H=>te σ H D.rt
def zo(c:PE X e te):PS X (.Return (some e) pos) (G5 te):=by
 intro aa s σ H D I h;exact wpAny_Return_some (aX (c aa s σ H _ I h) fun v f ⟨x,H1,d,a,b⟩=>⟨x,σ,H1,d,a,b⟩)
def G6(c:TT)(t u:TS):TS:=fun D σ H=>c σ H fun b H1=>if b=true then t D σ H1 else u D σ H1
def zU{c:Expr}{a b:List Stmt}{tc:TT}(hc:PT X c tc)(i:PSs X a t)(hb:PSs X b u):PS X (.If c a b pos) (G6 tc t u):=by
 intro aa s σ H D I h;refine wpAny_If (aX (hc aa s σ H _ I h) fun d e ⟨H1,g,f⟩=>?_);cases d with
 |true=>exact i aa e σ H1 D g f
 |false=>exact hb aa e σ H1 D g f
def NM:TS:=fun _ _ _=>False
def i5{a:List Stmt}:PSs X a NM:=fun _ _ _ _ _ _ h=>h.elim
end
abbrev TG:=V->St->Hp->(St->Hp->Prop)->Prop
abbrev kY:=List V->St->Hp->(St->Hp->Prop)->Prop
def PG(X:Cx)(b:Expr)(t:TG):Prop:=
 ∀(aa:Ψ)(s:Shared)(σ:St)(H:Hp)(v:V)(u:Value)(Q:St->Hp->Prop),Inv X aa σ H s->RelV v u->t v σ H Q->
  wpAny (model X.prog X.w) X.A (assign b X.env u) (fun _ s'=>∃a H',Inv X aa a H' s'/\Q a H') X.xe s
def B7(X:Cx)(b:List Expr)(t:kY):Prop:=
 ∀(aa:Ψ)(s:Shared)(σ:St)(H:Hp)(vs:List V)(us:List Value)(Q:St->Hp->Prop),Inv X aa σ H s->Vals vs us->t vs σ H Q->
  wpAny (model X.prog X.w) X.A (assignInOrder ((assignEach b X.env).map (·.2)) us) (fun _ s'=>∃a H',Inv X aa a H' s'/\Q a H') X.xe s
abbrev kZ:=V->V->V->Hp->(Hp->Prop)->Prop
def qC(X:Cx)(t:kZ):Prop:=
 ∀(aa:Ψ)(s:Shared)(σ:St)(H:Hp)(o i v:V)(a b u:Value)(Q:Hp->Prop),Inv X aa σ H s->RelV o a->RelV i b->RelV v u->t o i v H Q->
  wpAny (model X.prog X.w) X.A (setItem a b u) (fun _ s'=>∃H',Inv X aa σ H' s'/\Q H') X.xe s
section
variable{X:Cx}{pos:Pos}
def zR(i:Nat):TG:=fun v σ H Q=>Q (σ.set i (some v)) H
def zk{i:Nat}{x:Str}(a:X.N.Nodup)(hi:X.N[i]?=some x)(hx:Loc X.env.scope x)(b:X.fn x=true\/X.env.scope.names.lookup x=some .local:=by first|exact .inl rfl|exact .inr rfl|assumption):PG X (.Name x pos) (zR i):=by
 intro aa s σ H v u Q I r h;exact wpAny_assign_Name (BG I a hi hx r (fun s' c=>⟨_,H,c,h⟩) b)
def b_:kY:=fun vs σ H Q=>vs=[]/\Q σ H
def cr(t:TG)(u:kY):kY:=fun vs σ H Q=>∃v r,vs=v::r/\t v σ H fun a H'=>u r a H' Q
def gF:B7 X [] b_:=by
 intro aa s σ H vs us Q I r h;obtain⟨e,h⟩:=h;subst e;cases r;exact assignInOrder_nil ⟨σ,H,I,h⟩
def zJ{e:Expr}{es:List Expr}{t:TG}{u:kY}(h1:PG X e t)(h2:B7 X es u)(d:(assignEach (e::es) X.env).map (·.2)=assign e X.env::(assignEach es X.env).map (·.2):=by rfl):B7 X (e::es) (cr t u):=by
 intro aa s σ H vs us Q I r h;obtain⟨v,g,e1,h⟩:=h;subst e1;cases r with
 |cons r rr=>
  rw[d];refine assignInOrder_cons (aX (h1 aa s σ H _ _ _ I r h) fun _ a ⟨b,H1,f,c⟩=>?_);exact h2 aa a b H1 _ _ Q f rr c
def cb(K:Ab)(n:Nat)(t:kY):TG:=fun v σ H Q=>∃a xs,v=.ref a/\SqT K H a xs/\xs.length=n/\t xs σ H Q
def gG{es:List Expr}{k:Nat}{t:kY}{n:Nat}(hc:X.calm=true)(h:B7 X es t)(g:(assignEach es X.env).length=n:=by rfl)(i:(assignEach es X.env).findIdx? (·.1)=none:=by rfl):PG X (.Tuple es k pos) (cb X.K n t):=by
 intro aa s σ H v u Q I r hw;obtain⟨a,xs,e1,hq,d,hw⟩:=hw;subst e1;cases r;obtain⟨l,c,f,hz⟩:=I.tuple hq;refine assign_Tuple_tuple (I.ok.hd hc) f (by simp[g,<-d,c.length]) i fun h' hx=>?_;have j:Inv X aa σ H {s with heap:=h'}:=I.kept (t':=s.toks) fun b o e=>hx b o (Az (Ao e)) e;exact h aa _ σ H xs _ Q j (by simpa using c) hw
def G7(to a:TE)(t:kZ):TG:=fun v σ H Q=>to σ H fun o H1=>a σ H1 fun i H2=>t o i v H2 fun b=>Q σ b
def nU{o i:Expr}{to c:TE}{t:kZ}(q:PE X o to)(hi:PE X i c)(w:qC X t)(z:∀v,assign (.Subscript o i pos) X.env v=(do
   let a <-holding [v] (eval o X.env)
   let b <-holding [v,a] (eval i X.env)
   standAt pos
   holding [v,a,b] (setItem a b v)
   release [v,a,b] []):=by intro _;rfl):PG X (.Subscript o i pos) (G7 to c t):=by
 intro aa s σ H v u Q I r h;rw[z];refine Ae (wpAny_holding (aX (q aa s σ H _ I h) fun a d ⟨x,H1,A,e,f⟩=>?_));refine Ae (wpAny_holding (aX (hi aa d σ H1 _ A f) fun b g ⟨y,H2,C,j,l⟩=>?_));refine Ae (wpAny_standAt (Ae (wpAny_holding (aX (w aa g σ H2 x y v a b u _ C e j r l) fun _ F ⟨D,E,p⟩=>?_))));exact wpAny_release ⟨σ,D,E,p⟩
def e8(te:TE)(g:TG):TS:=fun D σ H=>te σ H fun x H1=>g x σ H1 D.nx
def nV{tg e:Expr}{te:TE}{g:TG}(d:PE X e te)(hg:PG X tg g)(f:swapsWithSole [tg] e pos.line X.env=pure false:=by rfl)(hw:swappedStores [tg] e X.env=pure none:=by rfl)(h1:(assignEach [tg] X.env).map (·.2)=[assign tg X.env]:=by rfl):PS X (.Assign [tg] e pos) (e8 te g):=by
 intro aa s σ H D I h;refine wpAny_Assign_stores (aX (d aa s σ H _ I h) fun v a ⟨x,H1,i,b,c⟩=>?_) f hw;rw[h1];exact aX (hg aa a σ H1 x v _ i b c) fun _ j q=>q
def zr{i:Nat}{x:Str}{e:Expr}{te:TE}{aF:Pos}(c:X.N.Nodup)(hi:X.N[i]?=some x)(hx:Loc X.env.scope x)(d:PE X e te)(f:swapsWith e (some (.Name x aF)) pos.line X.env=pure false:=by rfl)(g:X.fn x=true\/X.env.scope.names.lookup x=some .local:=by first|exact .inl rfl|exact .inr rfl|assumption):PS X (.Assign [.Name x aF] e pos) (e8 te (zR i)):=by
 intro aa s σ H D I h;refine wpAny_Assign_Name (aX (d aa s σ H _ I h) fun v o ⟨y,H1,j,a,b⟩=>?_) f;exact BG j c hi hx a (fun p l=>⟨_,H1,l,b⟩) g
def NN(c:TT)(tb:TS):TS:=fun D σ H=>∃W:Nat->St->Hp->Prop,(∃m,W m σ H)/\∀m σ H,W m σ H->
 c σ H fun b H1=>if b=true then ∃N:St->Hp->Prop,(∀a H',N a H'->∃d,d<m/\W d a H')/\tb {D with nx:=N,ct:=N,bk:=D.nx} σ H1 else D.nx σ H1
def B9{c:Expr}{x:List Stmt}{tc:TT}{tb:TS}(hp:PassesOwn (model X.prog X.w) X.A X.env X.xe)(hc:PT X c tc)(hb:PSs X x tb):PS X (.While c x [] pos) (NN tc tb):=by
 intro aa s σ H D I h;obtain⟨W,⟨C,E⟩,turn⟩:=h;refine wpAny_While (codeAny_whileLoop (fun n s'=>∃r H',Inv X aa r H' s'/\W n r H') ?_ C ⟨σ,H,I,E⟩);rintro n F ⟨i,H1,J,G⟩;refine wpAny_passesOwn hp (aX (hc aa F i H1 _ J (turn n i H1 G)) fun b z ⟨H2,y,e⟩=>?_);cases b with
 |true=>
  obtain⟨N,u,e⟩:=e;rw[if_pos rfl];refine wpAny_passesOwn hp (aX (hb aa z i H2 _ y e) fun f L g=>?_);cases f with
  |next=>
   obtain⟨a,d,q,j⟩:=g;obtain⟨l,o,p⟩:=u a d j;exact⟨l,o,a,d,q,p⟩
  |cont=>
   obtain⟨a,d,q,j⟩:=g;obtain⟨l,o,p⟩:=u a d j;exact⟨l,o,a,d,q,p⟩
  |brk=>exact g
  |ret v=>exact g
 |false=>
  rw[if_neg Av];exact wpAny_execs_nil ⟨i,H2,y,e⟩
end
structure It where
 go:Nat->Hp->Prop
 yld:Nat->Hp->V->Hp->Prop
 stop:Nat->Hp->Prop
def cv(X:Cx)(aa:Ψ)(H:Hp)(b:Addr):Prop:=
 H b=none/\b≠X.env.locals/\b∉X.fs/\(b∈X.ex\/X.s₀⁻¹<=b)/\(∀x c,X.env.cells.lookup x=some c->c≠b)/\∀p∈X.pn++aa,p.1≠b
def Inv.fpOk{X:Cx}{aa:Ψ}{σ:St}{H H':Hp}{s:Shared}{b:Addr}(I:Inv X aa σ H s)(hb:s⁻¹<=b)(a:H' b=none):cv X aa H' b:=by
 refine⟨a,Nat.ne_of_gt (Au I.lt hb),I.nofs hb,.inr (Ag I.sz hb),fun x c e z=>?_,fun p hp z=>?_⟩
 ·obtain⟨v,q⟩:=I.cell x c e
  exact absurd (Au q.lt (by rw[z];exact hb)) (Nat.lt_irrefl _)
 ·exact absurd (Au (Ao (I.pin p hp).1) (by rw[z];exact hb)) (Nat.lt_irrefl _)
structure Turn(P:Program)(w:World)(K:Ab)(tg:Expr)(J:It)(fp:List Addr)(it:Addr)(tn:Nat->Heap->Prop):Prop where
 mem:it∈fp
 obj:∀i h,tn i h->∀b∈fp,∃o,h.get? b=some o/\∀v,o.data≠.cell v
 keep:∀i h h',tn i h->(∀b∈fp,∀o,h.get? b=some o->h'.get? b=some o)->tn i h'
 item:∀(X:Cx),X.prog=P->X.w=w->X.K=K->X.calm=true->∀(i:Nat)(aa:Ψ)(s:Shared)(σ:St)(H:Hp)(E:Ω),Inv X aa σ H s->(∀b∈fp,cv X aa H b)->tn i s.heap->J.go i H->
  wpAny (model P w) X.A (pyNext (.ref it)) (fun r s1=>∃u,r=some u/\
   wpAny (model P w) X.A (letOwnedTupleGo tg (.ref it) u) (fun _ s2=>∃x H',Inv X aa σ H' s2/\RelV x u/\J.yld i H x H'/\tn (i+1) s2.heap/\∀b∈fp,H' b=none) E s1) E s
 done:∀(X:Cx),X.prog=P->X.w=w->X.K=K->X.calm=true->∀(i:Nat)(aa:Ψ)(s:Shared)(σ:St)(H:Hp)(E:Ω),Inv X aa σ H s->(∀b∈fp,cv X aa H b)->tn i s.heap->J.stop i H->
  wpAny (model P w) X.A (pyNext (.ref it)) (fun r s1=>r=none/\Inv X aa σ H s1) E s
 self:∀(A:Around)(i:Nat)(s:Shared)(Q:Ω)(E:Ω),tn i s.heap->Q (.ref it) s->wpAny (model P w) A (pyIter (.ref it)) Q E s
abbrev TI:=St->Hp->(It->Hp->Prop)->Prop
def G8(X:Cx)(aa:Ψ)(σ:St)(tg:Expr)(R:It->Hp->Prop)(d:Value)(c:Shared):Prop:=
 ∃(it:Addr)(a:List Addr)(tn:Nat->Heap->Prop)(J:It)(H':Hp),d=.ref it/\Inv X aa σ H' c/\Turn X.prog X.w X.K tg J a it tn/\tn 0 c.heap/\(∀b∈a,cv X aa H' b)/\R J H'
def PI(X:Cx)(tg iter:Expr)(wi:TI):Prop:=
 ∀(aa:Ψ)(s:Shared)(σ:St)(H:Hp)(R:It->Hp->Prop),Inv X aa σ H s->wi σ H R->
  wpAny (model X.prog X.w) X.A (eval iter X.env) (fun v a=>wpAny (model X.prog X.w) X.A (pyIter v) (G8 X aa σ tg R) X.xe a) X.xe s
def G9{M:Model}{A:Around}{E:Ω}{s:Shared}{tg:Expr}{it:Addr}{u:Value}{o:Obj}{n:String}{vs:Array Value}{Q:Unit->Shared->Prop}(b:s.heap.get? it=some o)(hc:o.cls=.type n)(hd:o.data=.fields vs)(c:["enumerate","zip","dict_itemiterator","dict_reverseitemiterator","odict_iterator","itertools.zip_longest","itertools.pairwise"].contains n=false)(a:Q () s):wpAny M A (letOwnedTupleGo tg (.ref it) u) Q E s:=by
 unfold letOwnedTupleGo;cases tg<;>first
  |exact Ap a
  |(cases u<;>first
    |exact Ap a
    |(refine Ae (wpAny_load b ?_);rw[hc,hd];show wpAny M A (if(["enumerate","zip","dict_itemiterator","dict_reverseitemiterator","odict_iterator","itertools.zip_longest","itertools.pairwise"].contains n&&vs[0]?==some (rawInt _))=true then _ else _) Q E s;rw[if_neg (by intro h;rw[c,Bool.false_and] at h;cases h)];exact Ap a))
def fw(K:Ab)(a:Addr):It:=
 ⟨fun i H=>∃xs x,SqL K H a xs/\xs[i]?=some x,fun i H x H'=>H'=H/\∀xs,SqL K H a xs->xs[i]?=some x,fun i H=>∃xs,SqL K H a xs/\xs.length<=i⟩
def gb(lo:Int)(n:Nat):It:=⟨fun i _=>i<n,fun i H x H'=>H'=H/\x=.int (lo+i),fun i _=>n<=i⟩
def B'{P:Program}{w:World}{K:Ab}{tg:Expr}(a it:Addr):Turn P w K tg (fw K a) [it] it (fun i h=>h.IsListIter it a i) where
 mem:=by simp
 obj:=fun i h st b hb=>by
  have e:b=it:=by simpa using hb
  subst e;obtain⟨o,e,c,d⟩:=st;exact⟨o,e,fun v z=>by rw[d] at z;cases z⟩
 keep:=fun i h h' st k=>st.at fun o e=>k it (by simp) o e
 item:=by
  intro X g hw j hc i aa s σ H E I f st hg;subst g hw j;obtain⟨xs,x,hq,hx⟩:=hg;obtain⟨F,l,p,hz⟩:=I.list hq;obtain⟨u,hu,G⟩:=l.get hx;obtain⟨q,f1,f2,r,y,A⟩:=f it (by simp);refine wpAny_pyNext_list_item st p.isList (x:=u) (by simpa using hu) fun h' ad C=>?_;have J:Inv X aa σ H {s with heap:=h'}:=I.turned (t':=s.toks) (fun b o hb e=>(C.2 b hb).trans e) q f1 r y A;obtain⟨o,e,c,d⟩:=id ad;exact⟨u,rfl,G9 (s:={s with heap:=h'}) e c d ξ ⟨x,H,J,G,⟨rfl,fun ys hy=>by rw[I.list_inj hy hq];exact hx⟩,ad,fun b hb=>(f b hb).1⟩⟩
 done:=by
  intro X g hw j hc i aa s σ H E I f st hg;subst g hw j;obtain⟨xs,hq,hx⟩:=hg;obtain⟨F,l,p,hz⟩:=I.list hq;obtain⟨q,f1,f2,r,y,A⟩:=f it (by simp);have L:=l.length;exact wpAny_pyNext_list_end (I.ok.hd hc) st p.isList (by simp;(first|lia|omega)) fun h' D=>⟨rfl,I.turned (t':=s.toks) (fun b o hb e=>D b o hb e) q f1 r y A⟩
 self:=fun _ _ _ _ _ st h=>wpAny_pyIter_listiter st h
def NO{P:Program}{w:World}{K:Ab}{tg:Expr}(it:Addr)(lo:Int)(n:Nat):Turn P w K tg (gb lo n) [it] it (fun i h=>IsRangeIter h it (lo+(i:Nat)*1) ((n:Int)-(i:Nat)) 1) where
 mem:=by simp
 obj:=fun i h st b hb=>by
  have e:b=it:=by simpa using hb
  subst e;exact⟨_,st,fun v z=>by
   have u:Data.fields _=Data.cell v:=z;cases u⟩
 keep:=fun i h h' st k=>k it (by simp) _ st
 item:=by
  intro X c hw d hc i aa s σ H E I a st hg;subst c hw d;obtain⟨f,f1,f2,g,j,l⟩:=a it (by simp);have W:=Walks.range (prog:=X.prog) (w:=X.w) (I.ok.hd hc) it lo 1 n;refine W.item i s _ _ hg st fun v h' tk p ad q=>?_;obtain⟨t,rfl⟩:=p;have x:Inv X aa σ H {s with heap:=h',toks:=tk}:=I.turned (fun b o hb e=>q b o (by simpa using hb) e) f f1 g j l;refine⟨_,rfl,G9 (s:={s with heap:=h',toks:=tk}) (n:="range_iterator") ad rfl rfl ξ ⟨.int (lo+i),H,x,⟨t,?_⟩,⟨rfl,rfl⟩,ad,fun b hb=>(a b hb).1⟩⟩;rw[Int.mul_one]
 done:=by
  intro X c hw d hc i aa s σ H E I a st hg;subst c hw d;obtain⟨f,f1,f2,g,j,l⟩:=a it (by simp);exact wpAny_pyNext_range_end (I.ok.hd hc) st (by have:n<=i:=hg;(first|lia|omega)) fun h' r=>⟨rfl,I.turned (t':=s.toks) (fun b o hb e=>r b o hb e) f f1 g j l⟩
 self:=fun _ _ _ _ _ st h=>wpAny_pyIter_rangeiter st h
section
variable{X:Cx}{tg:Expr}
def NP(K:Ab)(tl:TE):TI:=fun σ H R=>tl σ H fun x H1=>∃a,x=.ref a/\(∃xs,SqL K H1 a xs)/\R (fw K a) H1
def zO{l:Expr}{tl:TE}(g:PE X l tl):PI X tg l (NP X.K tl):=by
 intro aa s σ H R I h;refine aX (g aa s σ H _ I h) fun v c ⟨x,H1,I1,d,f⟩=>?_;obtain⟨a,e,⟨xs,hq⟩,q⟩:=f;subst e;cases d;obtain⟨i,j,p,hz⟩:=I1.list hq;refine wpAny_pyIter_list p.isList ?_;refine⟨c⁻¹,[c⁻¹],_,_,H1,rfl,I1.kept (t':=c.toks) fun b o e=>Ai _ e,B' a _,⟨_,AG _ rfl,rfl,rfl⟩,fun b hb=>?_,q⟩;have e:b=c⁻¹:=by simpa using hb
 subst e;exact I1.fpOk (Af _) (I1.hok.fresh (Af _))
def JR{aa:Ψ}{σ:St}{H:Hp}{s:Shared}{R:It->Hp->Prop}{E:Ω}{lo hi:Int}{t u v:Tok}{tk:Nat}(I:Inv X aa σ H s)(h1:-(2 ^ 62)<=lo)(h2:lo<2 ^ 62)(a:-(2 ^ 62)<=hi)(c:hi<2 ^ 62)(q:R (gb lo (hi-lo).toNat) H):wpAny (model X.prog X.w) X.A (pyIter (.ref s⁻¹)) (G8 X aa σ tg R) E {s with heap:=s.heap.push {cls:=.type "range",data:=.fields #[.int lo t,.int hi u,.int 1 v]},toks:=tk}:=by
 refine wpAny_pyIter_range (IsRange.new ..) (small_one h1 h2 a c) ?_;have I1:Inv X aa σ H {s with heap:=s.heap.push {cls:=.type "range",data:=.fields #[.int lo t,.int hi u,.int 1 v]},toks:=tk}:=I.kept fun b o e=>Ai _ e;refine⟨(s.heap.push {cls:=.type "range",data:=.fields #[.int lo t,.int hi u,.int 1 v]}).objs.size,[(s.heap.push {cls:=.type "range",data:=.fields #[.int lo t,.int hi u,.int 1 v]}).objs.size],_,_,H,rfl,
  I1.kept (t':=tk) fun b o e=>Ai _ e,NO _ lo (hi-lo).toNat,?_,fun b hb=>?_,q⟩
 ·have e1:lo+((0:Nat):Int)*1=lo:=by simp
  have e2:(((hi-lo).toNat:Nat):Int)-((0:Nat):Int)=Builtin.Range.rangeSize lo hi 1:=by rw[rangeSize_one];split<;>(first|lia|omega)
  show IsRangeIter _ _ (lo+((0:Nat):Int)*1) ((((hi-lo).toNat:Nat):Int)-((0:Nat):Int)) 1;rw[e1,e2];exact AG _ rfl
 ·have e:b=(s.heap.push {cls:=.type "range",data:=.fields #[.int lo t,.int hi u,.int 1 v]}).objs.size:=by simpa using hb
  subst e;exact I1.fpOk (Af _) (I1.hok.fresh (Af _))
def NQ(ta:TA):TI:=fun σ H R=>ta σ H fun vs H1=>∃j:Int,vs=[.int j]/\-(2 ^ 62)<=j/\j<2 ^ 62/\R (gb 0 j.toNat) H1
def NR(ta:TA):TI:=fun σ H R=>ta σ H fun vs H1=>∃i j:Int,vs=[.int i,.int j]/\(-(2 ^ 62)<=i/\i<2 ^ 62/\-(2 ^ 62)<=j/\j<2 ^ 62)/\R (gb i (j-i).toNat) H1
def zK{a:Expr}{ta:TA}{p pos:Pos}(hg:Gl X "range")(f:X.mg "range"=none)(g:PA X [a] ta)(i:starEach [a] X.env=[(false,eval a X.env)]:=by rfl):PI X tg (.Call (.Name "range" p) [a] [] pos) (NQ ta):=by
 intro aa s σ H R I h;refine Call_ (i0 I hg f boot_range (PyProof.Rows.callWith_type1 (aX (g pos aa s σ H _ I h) fun us o ⟨vs,H1,l,c,b⟩=>?_) i rfl));obtain⟨j,e,b,d,q⟩:=b;subst e;cases c with
 |cons r rr=>
  cases rr;obtain⟨t,rfl⟩:=r;exact call_range_1 (JR l ω ω b d (by simpa using q))
def NS{a b:Expr}{ta:TA}{p pos:Pos}(hg:Gl X "range")(u:X.mg "range"=none)(v:PA X [a,b] ta)(w:starEach [a,b] X.env=[(false,eval a X.env),(false,eval b X.env)]:=by rfl)(d:starEach [b] X.env=[(false,eval b X.env)]:=by rfl):PI X tg (.Call (.Name "range" p) [a,b] [] pos) (NR ta):=by
 intro aa s σ H R I h;refine Call_ (i0 I hg u boot_range (PyProof.Rows.callWith_type1 (aX (v pos aa s σ H _ I h) fun us y ⟨vs,H1,x,f,c⟩=>?_) (by rw[w,d]) (by rw[d];rfl)));obtain⟨i,j,e,⟨c,g,l,o⟩,q⟩:=c;subst e;cases f with
 |cons r rr=>
  cases rr with
  |cons r' rr=>
   cases rr;obtain⟨t,rfl⟩:=r;obtain⟨t',rfl⟩:=r';exact call_range_2 (JR x c g l o q)
def G_(wi:TI)(g:TG)(tb:TS):TS:=fun D σ H=>wi σ H fun J H1=>∃W:Nat->Nat->St->Hp->Prop,(∃m,W 0 m σ H1)/\∀i m σ H,W i m σ H->
 (J.stop i H/\D.nx σ H)\/(J.go i H/\∃N:St->Hp->Prop,(∀a H',N a H'->∃b,b<m/\W (i+1) b a H')/\∀x H',J.yld i H x H'->g x σ H' fun c H2=>tb {D with nx:=N,ct:=N,bk:=D.nx} c H2)
def qE(a:List Addr)(h:Heap):Ψ:=a.filterMap fun b=>(h.get? b).map fun o=>(b,o)
def Cq{a:List Addr}{h:Heap}{b:Addr}{o:Obj}(hb:b∈a)(e:h.get? b=some o):(b,o)∈qE a h:=List.mem_filterMap.mpr ⟨b,hb,by rw[e];rfl⟩
def NU{a:List Addr}{h:Heap}{p:Addr×Obj}(hp:p∈qE a h):p.1∈a/\h.get? p.1=some p.2:=by
 obtain⟨b,hb,e⟩:=List.mem_filterMap.mp hp;cases q:h.get? b with
 |none=>rw[q] at e;cases e
 |some o=>
  rw[q] at e;have c:(b,o)=p:=AL e;subst c;exact⟨hb,q⟩
def Inv.pinned{aa:Ψ}{σ:St}{H:Hp}{s:Shared}{a:List Addr}(I:Inv X aa σ H s)(g:∀b∈a,cv X aa H b)(h:∀b∈a,∃o,s.heap.get? b=some o/\∀v,o.data≠.cell v):Inv X (aa++qE a s.heap) σ H s:=
 I.pins_of fun p hp=>(List.mem_append.mp hp).elim (fun z=>I.pin p (Ay _ z)) fun z=>by
  obtain⟨hb,e⟩:=NU z;obtain⟨f,f1,f2,_⟩:=g p.1 hb;obtain⟨o,c,d⟩:=h p.1 hb;rw[e] at c;cases c;exact⟨e,f,f1,f2,d⟩
def Inv.unpinned{aa pl:Ψ}{σ:St}{H:Hp}{s:Shared}(I:Inv X (aa++pl) σ H s):Inv X aa σ H s:=I.pins_of fun p hp=>I.pin p (Ay _ (AY _ hp))
def i6{iter:Expr}{Q:List Stmt}{wi:TI}{g:TG}{tb:TS}{pos:Pos}(hp:PassesOwn (model X.prog X.w) X.A X.env X.xe)(hc:X.calm=true)(hi:PI X tg iter wi)(hg:PG X tg g)(hb:PSs X Q tb)(hs:∀x,foldedSetIterable iter X.env x=pure x:=by intro _;rfl):PS X (.For tg iter Q [] pos) (G_ wi g tb):=by
 intro aa s σ H D I h;refine wpAny_For (aX (hi aa s σ H _ I h) fun v s1 h1=>aX h1 fun kU s2 h2=>?_) hs;obtain⟨it,y,tn,J,H2,e,I2,T,fH,f2,W,⟨m0,w0⟩,turn⟩:=h2;subst e;have c:∀{H':Hp},(∀b∈y,H' b=none)->∀b∈y,cv X aa H' b:=fun Y b hb=>⟨Y b hb,(f2 b hb).2⟩;refine codeAny_forLoop_any (fun n s'=>∃i z H',Inv X aa z H' s'/\tn i s'.heap/\(∀b∈y,H' b=none)/\W i n z H') ?_ m0 ⟨0,σ,H2,I2,fH,fun b hb=>(f2 b hb).1,w0⟩;rintro n M ⟨i,C,E,U,O,P,w3⟩;rcases turn i n C E w3 with ⟨stop,qn⟩|⟨go,N,hN,step⟩
 ·refine wpAny_passesOwn hp (aX (T.done X rfl rfl rfl hc i aa M C E X.xe U (c P) O stop) fun r Z ⟨hr,I4⟩=>?_)
  subst hr;exact wpAny_execs_nil ⟨C,E,I4,qn⟩
 ·refine wpAny_passesOwn hp (aX (T.item X rfl rfl rfl hc i aa M C E X.xe U (c P) O go) fun r Z ⟨u,hr,h4⟩=>?_)
  subst hr;refine wpAny_passesOwn hp (aX h4 fun _ L ⟨x,S,I5,r5,y5,p,F⟩=>?_);have oF:=I5.pinned (c F) (T.obj _ _ p);refine wpAny_passesOwn hp (aX (hg _ L C S x u _ oF r5 (step x S y5)) fun _ s6 ⟨jg,H6,I6,q6⟩=>?_);refine wpAny_passesOwn hp (aX (hb _ s6 jg H6 _ I6 q6) fun f G l=>?_);have again:∀{a:St}{j:Hp},Inv X (aa++qE y L.heap) a j G->N a j->∃m,m<n/\∃i z H',Inv X aa z H' G/\tn i G.heap/\(∀b∈y,H' b=none)/\W i m z H':=fun{a j} I7 q=>by
   obtain⟨m',hm,w7⟩:=hN a j q;refine⟨m',hm,i+1,a,j,I7.unpinned,T.keep _ _ _ p fun b hb o e=>(I7.pin (b,o) (Ay _ (Ay _ (Cq hb e)))).1,fun b hb=>?_,w7⟩;obtain⟨o,e,d⟩:=T.obj _ _ p b hb;exact(I7.pin (b,o) (Ay _ (Ay _ (Cq hb e)))).2.1
  cases f with
  |next=>obtain⟨a,j,I7,q⟩:=l;exact again I7 q
  |cont=>obtain⟨a,j,I7,q⟩:=l;exact again I7 q
  |brk=>obtain⟨a,j,I7,l⟩:=l;exact⟨a,j,I7.unpinned,l⟩
  |ret v=>obtain⟨x7,a,j,I7,r7,l⟩:=l;exact⟨x7,a,j,I7.unpinned,r7,l⟩
end
def CC{K:Ab}{a:Addr}{xs:List V}{g:TG}{tb:TS}{D:Ends}{σ:St}{H:Hp}(b:Nat->St->Hp->Prop)(l:b 0 σ H)(o:∀i σ H,i<=xs.length->b i σ H->SqL K H a xs)(r:∀i x σ H,xs[i]?=some x->b i σ H->g x σ H fun d H2=>tb {D with nx:=b (i+1),ct:=b (i+1),bk:=D.nx} d H2)(hd:∀σ H,b xs.length σ H->D.nx σ H):∃W:Nat->Nat->St->Hp->Prop,(∃m,W 0 m σ H)/\∀i m σ H,W i m σ H->
   ((fw K a).stop i H/\D.nx σ H)\/((fw K a).go i H/\∃N:St->Hp->Prop,(∀f H',N f H'->∃h,h<m/\W (i+1) h f H')/\∀x H',(fw K a).yld i H x H'->g x σ H' fun d H2=>tb {D with nx:=N,ct:=N,bk:=D.nx} d H2):=by
 refine⟨fun i m σ H=>m=xs.length-i/\i<=xs.length/\b i σ H,⟨xs.length,by simp,Ar _,l⟩,?_⟩;rintro i m σ H ⟨rfl,hi,p⟩;have q:=o i σ H hi p
 by_cases c:i<xs.length
 ·refine .inr ⟨⟨xs,xs[i],q,by simp[c]⟩,b (i+1),fun f H' j=>⟨xs.length-(i+1),ω,rfl,c,j⟩,fun x H' y=>?_⟩
  obtain⟨e,y⟩:=y;subst e;exact r i x σ _ (y xs q) p
 ·have e:i=xs.length:=ω
  subst e;exact .inl ⟨⟨xs,q,Af _⟩,hd σ H p⟩
def NV{lo:Int}{n:Nat}{g:TG}{tb:TS}{D:Ends}{σ:St}{H:Hp}(b:Nat->St->Hp->Prop)(j:b 0 σ H)(l:∀i σ H,i<n->b i σ H->g (.int (lo+i)) σ H fun c H2=>tb {D with nx:=b (i+1),ct:=b (i+1),bk:=D.nx} c H2)(hd:∀σ H,b n σ H->D.nx σ H):∃W:Nat->Nat->St->Hp->Prop,(∃m,W 0 m σ H)/\∀i m σ H,W i m σ H->
   ((gb lo n).stop i H/\D.nx σ H)\/((gb lo n).go i H/\∃N:St->Hp->Prop,(∀d H',N d H'->∃f,f<m/\W (i+1) f d H')/\∀x H',(gb lo n).yld i H x H'->g x σ H' fun c H2=>tb {D with nx:=N,ct:=N,bk:=D.nx} c H2):=by
 refine⟨fun i m σ H=>m=n-i/\i<=n/\b i σ H,⟨n,by simp,Ar _,j⟩,?_⟩;rintro i m σ H ⟨rfl,hi,p⟩
 by_cases a:i<n
 ·refine .inr ⟨a,b (i+1),fun d H' h=>⟨n-(i+1),ω,rfl,a,h⟩,fun x H' y=>?_⟩
  obtain⟨e,y⟩:=y;subst e y;exact l i σ _ a p
 ·have e:i=n:=ω
  subst e;exact .inl ⟨Af _,hd σ H p⟩
abbrev R2:=V->V->Hp->VK->Prop
def cI(X:Cx)(f:Value->Value->Sem Value)(r:R2):Prop:=
 ∀(aa:Ψ)(s:Shared)(σ:St)(H:Hp)(x y:V)(v u:Value)(Q:VK),Inv X aa σ H s->RelV x v->RelV y u->r x y H Q->
  wpAny (model X.prog X.w) X.A (f v u) (EP X aa σ Q) X.xe s
def G'(X:Cx)(f:Value->Sem Value)(r:V->Hp->VK->Prop):Prop:=
 ∀(aa:Ψ)(s:Shared)(σ:St)(H:Hp)(x:V)(v:Value)(Q:VK),Inv X aa σ H s->RelV x v->r x H Q->
  wpAny (model X.prog X.w) X.A (f v) (EP X aa σ Q) X.xe s
def iu(X:Cx)(f:Value)(r:List V->Hp->VK->Prop):Prop:=
 ∀(aa:Ψ)(s:Shared)(σ:St)(H:Hp)(xs:List V)(us:List Value)(Q:VK),Inv X aa σ H s->Vals xs us->r xs H Q->
  wpAny (model X.prog X.w) X.A (call f us) (EP X aa σ Q) X.xe s
def cq(r:R2)(ta tb:TE):TE:=fun σ H Q=>ta σ H fun x H1=>tb σ H1 fun y H2=>r x y H2 Q
def JS(r:V->Hp->VK->Prop)(ta:TE):TE:=fun σ H Q=>ta σ H fun x H1=>r x H1 Q
def rI(C:Int->Int->Prop)(g:Int->Int->V):R2:=fun x y H Q=>∃i j,x=.int i/\y=.int j/\C i j/\Q (g i j) H
def fy(g:Int->Int->V):R2:=fun x y H Q=>∃i j,x=.int i/\y=.int j/\Q (g i j) H
def rU(g:Int->V):V->Hp->VK->Prop:=fun x H Q=>∃i,x=.int i/\Q (g i) H
section
variable{X:Cx}{a b c:Expr}{ta tb tc:TE}{pos:Pos}
def k4(p:PE X a ta)(hb:PE X b tb){aa:Ψ}{s:Shared}{σ:St}{H:Hp}{R:V->V->Hp->Prop}(I:Inv X aa σ H s)(h:ta σ H fun x H1=>tb σ H1 fun y H2=>R x y H2){Q:Ω}{f:Value->Value->Sem Value}(q:∀v u c x y H2,Inv X aa σ H2 c->RelV x v->RelV y u->R x y H2->wpAny (model X.prog X.w) X.A (f v u) Q X.xe c):wpAny (model X.prog X.w) X.A (eval a X.env) (fun v d=>wpAny (model X.prog X.w) X.A (eval b X.env) (fun u e=>wpAny (model X.prog X.w) X.A (f v u) Q X.xe e) X.xe d) X.xe s:=by
 refine aX (p aa s σ H _ I h) fun v g ⟨x,H1,r,i,j⟩=>?_;refine aX (hb aa g σ H1 _ r j) fun u c ⟨y,H2,z,l,o⟩=>?_;exact q v u c x y H2 z i l o
def zF{c:Operator}{r:R2}(g:cI X (binaryOp c) r)(i:PE X a ta)(hb:PE X b tb):PE X (.BinOp a c b pos) (cq r ta tb):=by
 intro aa s σ H Q I h;exact wpAny_BinOp (k4 i hb I h fun v u d x y H2 j e f q=>g aa d σ H2 x y v u Q j e f q)
def jX{b:UnaryOp}{r:V->Hp->VK->Prop}(f:G' X (unaryOp b) r)(g:PE X a ta):PE X (.UnaryOp b a pos) (JS r ta):=by
 intro aa s σ H Q I h;exact UnaryOp_ (aX (g aa s σ H _ I h) fun v c ⟨x,H1,i,d,e⟩=>f aa c σ H1 x v Q i d e)
def nX{f:Value->Value->Sem Value}{C:Int->Int->Prop}{g:Int->Int->Int}(rule:∀(i j:Int)(t u:Tok)(s:Shared)(Q:Ω)(E:Ω),C i j->Q (.int (g i j) s.toks) {s with toks:=s.toks+1}->wpAny (model X.prog X.w) X.A (f (.int i t) (.int j u)) Q E s):cI X f (rI C fun i j=>.int (g i j)):=by
 intro aa s σ H x y v u Q I a b h;obtain⟨i,j,rfl,rfl,hc,q⟩:=h;obtain⟨t,rfl⟩:=a;obtain⟨t',rfl⟩:=b;exact rule i j t t' s _ _ hc ⟨.int (g i j),H,I.tok _,⟨_,rfl⟩,q⟩
def qG{f:Value->Value->Sem Value}{g:Int->Int->Int}(rule:∀(i j:Int)(t u:Tok)(s:Shared)(Q:Ω)(E:Ω),Q (.int (g i j) s.toks) {s with toks:=s.toks+1}->wpAny (model X.prog X.w) X.A (f (.int i t) (.int j u)) Q E s):cI X f (fy fun i j=>.int (g i j)):=by
 intro aa s σ H x y v u Q I a b h;obtain⟨i,j,rfl,rfl,q⟩:=h;obtain⟨t,rfl⟩:=a;obtain⟨t',rfl⟩:=b;exact rule i j t t' s _ _ ⟨.int (g i j),H,I.tok _,⟨_,rfl⟩,q⟩
def i'{f:Value->Value->Sem Value}{g:Int->Int->Bool}(rule:∀(i j:Int)(t u:Tok)(s:Shared)(Q:Ω)(E:Ω),Q (.bool (g i j)) s->wpAny (model X.prog X.w) X.A (f (.int i t) (.int j u)) Q E s):cI X f (fy fun i j=>.bl (g i j)):=by
 intro aa s σ H x y v u Q I a b h;obtain⟨i,j,rfl,rfl,q⟩:=h;obtain⟨t,rfl⟩:=a;obtain⟨t',rfl⟩:=b;exact rule i j t t' s _ _ ⟨.bl (g i j),H,I,rfl,q⟩
def qL(i j:Int):Prop:=0<j/\j<1073741824
def qP(i j:Int):Prop:=0<=j/\j<=1000000/\i.natAbs<2 ^ 64
def CMul(i j:Int):Prop:=(-(2 ^ 64)<i/\i<2 ^ 64)\/(-(2 ^ 64)<j/\j<2 ^ 64)
def CMul.ok{i j:Int}(h:CMul i j):IntMulOk i j:=by
 rcases h with ⟨h1,h2⟩|⟨h1,h2⟩
 ·exact .of_left (intBits_le_64 h1 h2)
 ·exact .of_right (intBits_le_64 h1 h2)
def eU:cI X (binaryOp .Add) (fy fun i j=>.int (i+j)):=qG fun _ _ _ _ _ _ _ q=>add_int q
def fD:cI X (binaryOp .Sub) (fy fun i j=>.int (i-j)):=qG fun _ _ _ _ _ _ _ q=>sub_int q
def qT:cI X (binaryOp .Mult) (rI CMul fun i j=>.int (i*j)):=nX fun _ _ _ _ _ _ _ hc q=>mul_int q hc.ok
def Hf:cI X (binaryOp .FloorDiv) (rI qL fun i j=>.int (i / j)):=nX fun i j _ _ _ _ _ hc q=>by
 have h1:(0:Int)<j:=hc.1;have h2:j<1073741824:=hc.2;exact floordiv_int ω (by rw[Int.fdiv_eq_ediv_of_nonneg i ω];exact q) (.inl (PyProof.noPylong_small ω))
def iv:cI X (binaryOp .Mod) (rI (fun _ j=>0<j) fun i j=>.int (i%j)):=nX fun i j _ _ _ _ _ hc q=>by
 have h1:(0:Int)<j:=hc;exact mod_int' ω (by rw[Int.fmod_eq_emod_of_nonneg i ω];exact q)
def CM:cI X (binaryOp .Pow) (rI qP fun i j=>.int (i ^ j.toNat)):=nX fun _ _ _ _ _ _ _ hc q=>pow_int_small hc.1 hc.2.1 hc.2.2 q
def NW{f:Value->Sem Value}{g:Int->Int}(rule:∀(i:Int)(t:Tok)(s:Shared)(Q:Ω)(E:Ω),Q (.int (g i) s.toks) {s with toks:=s.toks+1}->wpAny (model X.prog X.w) X.A (f (.int i t)) Q E s):G' X f (rU fun i=>.int (g i)):=by
 intro aa s σ H x v Q I a h;obtain⟨i,rfl,q⟩:=h;obtain⟨t,rfl⟩:=a;exact rule i t s _ _ ⟨.int (g i),H,I.tok _,⟨_,rfl⟩,q⟩
def j3:G' X (unaryOp .USub) (rU fun i=>.int (-i)):=NW fun _ _ _ _ _ q=>neg_int q
end
def rf:V->V->Bool
 |.non,.non=>true|.non,.int _=>true|.int _,.non=>true|.non,.bl _=>true|.bl _,.non=>true|.non,.str _=>true|.str _,.non=>true
 |.int _,.int _=>true|.bl _,.bl _=>true|.str _,.str _=>true|.byt _,.byt _=>true
 |.int _,.str _=>true|.str _,.int _=>true|.bl _,.str _=>true|.str _,.bl _=>true
 |_,_=>false
def Hh:R2:=fun x y H Q=>rf x y=true/\Q (.bl (decide (x=y))) H
def CO:R2:=fun x y H Q=>rf x y=true/\Q (.bl (!decide (x=y))) H
def zq{i j:Int}:decide (V.int i=V.int j)=(i==j):=by
 rw[Bool.eq_iff_iff];simp
def gM{i j:Bool}:decide (V.bl i=V.bl j)=(i==j):=by
 rw[Bool.eq_iff_iff];simp
def JT{i j:Str}:decide (V.str i=V.str j)=(i==j):=by
 rw[Bool.eq_iff_iff];simp
def JU{i j:Array UInt8}:decide (V.byt i=V.byt j)=(i.toList==j.toList):=by
 rw[Bool.eq_iff_iff];cases i;cases j;simp
section
variable{X:Cx}{a b c:Expr}{ta tb tc:TE}{pos:Pos}
def aO{aa:Ψ}{σ:St}{H:Hp}{s:Shared}{Q:VK}{k a:Bool}(I:Inv X aa σ H s)(q:Q (.bl k) H)(e:k=a):EP X aa σ Q (.bool a) s:=by
 subst e;exact⟨.bl k,H,I,rfl,q⟩
def c6:cI X (compareOp .Eq) Hh:=by
 intro aa s σ H x y v u Q I c a h;obtain⟨b,q⟩:=h;cases x with
 |non=>
  cases c;cases y with
  |non=>cases a;exact PySem.EqNone.eq_none_none (aO I q (by simp))
  |bl j=>cases a;exact PySem.EqNone.eq_none_bool (aO I q (by simp))
  |int j=>obtain⟨t',rfl⟩:=a;exact PySem.EqNone.eq_none_int (aO I q (by simp))
  |str j=>obtain⟨t',rfl⟩:=a;exact PySem.EqNone.eq_none_str (aO I q (by simp))
  |_=>exact absurd (show false=true from b) Av
 |bl i=>
  cases c;cases y with
  |non=>cases a;exact PySem.EqNone.eq_bool_none (aO I q (by simp))
  |bl j=>cases a;exact eq_bool (aO I q gM)
  |str j=>obtain⟨t',rfl⟩:=a;exact PySem.EqMixed.eq_bool_str (aO I q (by simp))
  |_=>exact absurd (show false=true from b) Av
 |int i=>
  obtain⟨t,rfl⟩:=c;cases y with
  |non=>cases a;exact PySem.EqNone.eq_int_none (aO I q (by simp))
  |int j=>obtain⟨t',rfl⟩:=a;exact eq_int (aO I q zq)
  |str j=>obtain⟨t',rfl⟩:=a;exact PySem.EqMixed.eq_int_str (aO I q (by simp))
  |_=>exact absurd (show false=true from b) Av
 |str i=>
  obtain⟨t,rfl⟩:=c;cases y with
  |non=>cases a;exact PySem.EqNone.eq_str_none (aO I q (by simp))
  |bl j=>cases a;exact PySem.EqMixed.eq_str_bool (aO I q (by simp))
  |int j=>obtain⟨t',rfl⟩:=a;exact PySem.EqMixed.eq_str_int (aO I q (by simp))
  |str j=>obtain⟨t',rfl⟩:=a;exact eq_str (aO I q JT)
  |_=>exact absurd (show false=true from b) Av
 |byt i=>
  obtain⟨t,rfl⟩:=c;cases y with
  |byt j=>obtain⟨t',rfl⟩:=a;exact PySem.W.eq_bytes (aO I q JU)
  |_=>exact absurd (show false=true from b) Av
 |_=>cases y<;>exact absurd (show false=true from b) Av
def dB:cI X (compareOp .NotEq) CO:=by
 intro aa s σ H x y v u Q I c a h;obtain⟨b,q⟩:=h;cases x with
 |non=>
  cases c;cases y with
  |non=>cases a;exact PySem.EqNone.ne_none_none (aO I q (by simp))
  |bl j=>cases a;exact PySem.EqNone.ne_none_bool (aO I q (by simp))
  |int j=>obtain⟨t',rfl⟩:=a;exact PySem.EqNone.ne_none_int (aO I q (by simp))
  |str j=>obtain⟨t',rfl⟩:=a;exact PySem.EqNone.ne_none_str (aO I q (by simp))
  |_=>exact absurd (show false=true from b) Av
 |bl i=>
  cases c;cases y with
  |non=>cases a;exact PySem.EqNone.ne_bool_none (aO I q (by simp))
  |bl j=>cases a;exact ne_bool (aO I q (congrArg not gM))
  |str j=>obtain⟨t',rfl⟩:=a;exact PySem.EqMixed.ne_bool_str (aO I q (by simp))
  |_=>exact absurd (show false=true from b) Av
 |int i=>
  obtain⟨t,rfl⟩:=c;cases y with
  |non=>cases a;exact PySem.EqNone.ne_int_none (aO I q (by simp))
  |int j=>obtain⟨t',rfl⟩:=a;exact ne_int (aO I q (congrArg not zq))
  |str j=>obtain⟨t',rfl⟩:=a;exact PySem.EqMixed.ne_int_str (aO I q (by simp))
  |_=>exact absurd (show false=true from b) Av
 |str i=>
  obtain⟨t,rfl⟩:=c;cases y with
  |non=>cases a;exact PySem.EqNone.ne_str_none (aO I q (by simp))
  |bl j=>cases a;exact PySem.EqMixed.ne_str_bool (aO I q (by simp))
  |int j=>obtain⟨t',rfl⟩:=a;exact PySem.EqMixed.ne_str_int (aO I q (by simp))
  |str j=>obtain⟨t',rfl⟩:=a;exact ne_str (aO I q (congrArg not JT))
  |_=>exact absurd (show false=true from b) Av
 |byt i=>
  obtain⟨t,rfl⟩:=c;cases y with
  |byt j=>obtain⟨t',rfl⟩:=a;exact PySem.W.ne_bytes (aO I q (congrArg not JU))
  |_=>exact absurd (show false=true from b) Av
 |_=>cases y<;>exact absurd (show false=true from b) Av
def CU:cI X (compareOp .Lt) (fy fun i j=>.bl (decide (i<j))):=i' fun _ _ _ _ _ _ _ q=>lt_int q
def JV:cI X (compareOp .LtE) (fy fun i j=>.bl (decide (i<=j))):=i' fun _ _ _ _ _ _ _ q=>le_int q
def k6:cI X (compareOp .Gt) (fy fun i j=>.bl (decide (j<i))):=i' fun _ _ _ _ _ _ _ q=>gt_int q
def NX:cI X (compareOp .GtE) (fy fun i j=>.bl (decide (j<=i))):=i' fun _ _ _ _ _ _ _ q=>ge_int q
def ar(b:Expr){a:CmpOp}(h:a≠.In:=by decide)(h2:a≠.NotIn:=by decide):behindInMarks a b=false:=by
 have e1:(a==CmpOp.In)=false:=by cases a<;>first|rfl|exact absurd rfl h
 have e2:(a==CmpOp.NotIn)=false:=by cases a<;>first|rfl|exact absurd rfl h2
 cases b<;>simp[behindInMarks,e1,e2]
def eV{c:CmpOp}{r:R2}(g:cI X (compareOp c) r)(i:PE X a ta)(hb:PE X b tb)(j:behindInMarks c b=false):PE X (.Compare a [c] [b] pos) (cq r ta tb):=by
 intro aa s σ H Q I h;exact wpAny_Compare1 (k4 i hb I h fun v u d x y H2 l e f q=>g aa d σ H2 x y v u Q l e f q) j
def De(t:TE):TT:=fun σ H Q=>t σ H fun x H'=>∃k,x=.bl k/\Q k H'
def zx{d:CmpOp}{r:R2}(w:cI X (compareOp d) r)(A:PE X a ta)(hb:PE X b tb)(C:behindInMarks d b=false):PT X (.Compare a [d] [b] pos) (De (cq r ta tb)):=by
 intro aa s σ H Q I h;refine wpAny_isTrue_Compare1 (aX (A aa s σ H _ I h) fun v f ⟨x,H1,D,g,i⟩=>aX (hb aa f σ H1 _ D i) fun u j ⟨y,H2,E,l,o⟩=>
  aX (w aa j σ H2 x y v u _ E g l o) fun c J ⟨z,F,G,p,k,e,q⟩=>?_) C
 subst e;cases p;exact wpAny_truthy_bool ⟨F,G,q⟩
def NY(r c:R2)(ta tb tc:TE):TE:=fun σ H Q=>ta σ H fun x H1=>tb σ H1 fun y H2=>r x y H2 fun z a=>∃k,z=.bl k/\
 (if k=true then tc σ a fun b d=>c y b d Q else Q (.bl false) a)
def NZ{f g:CmpOp}{r l:R2}(O:cI X (compareOp f) r)(P:cI X (compareOp g) l)(S:PE X a ta)(hb:PE X b tb)(hc:PE X c tc)(T:lastMarks [f,g] [b,c]=false:=by with_unfolding_all rfl):PE X (.Compare a [f,g] [b,c] pos) (NY r l ta tb tc):=by
 intro aa s σ H Q I h;refine Compare_chain (aX (S aa s σ H _ I h) fun v q ⟨x,H1,U,w,A⟩=>chain_link (aX (hb aa q σ H1 _ U A) fun u C ⟨y,H2,W,i,D⟩=>
  aX (O aa C σ H2 x y v u _ W w i D) fun d E ⟨z,o,p,F,k,e,j⟩=>?_)) T
 subst e;cases F;refine wpAny_truthy_bool ?_;cases k with
 |false=>exact ite_ff ⟨.bl false,o,p,rfl,j⟩
 |true=>exact ite_tt (chain_last (aX (hc aa E σ o _ p j) fun G J ⟨L,Y,Z,M,N⟩=>P aa J σ Y y L u G Q Z i M N))
def dn:(sizeLine:Nat)<2 ^ 63:=by rw[sizeLine_eq];decide
def vals1{x:V}{us:List Value}(r:Vals [x] us):∃u,us=[u]/\RelV x u:=by
 cases r with
 |cons r1 r2=>cases r2;exact⟨_,rfl,r1⟩
def vals2{x y:V}{us:List Value}(r:Vals [x,y] us):∃u a,us=[u,a]/\RelV x u/\RelV y a:=by
 cases r with
 |cons r1 r2=>
  cases r2 with
  |cons r3 r4=>cases r4;exact⟨_,_,rfl,r1,r3⟩
def N2(hc:X.calm=true):iu X (.builtin "min") (fun xs H Q=>∃i j,xs=[.int i,.int j]/\Q (.int (if j<i then j else i)) H):=by
 intro aa s σ H xs us Q I r h;obtain⟨i,j,rfl,q⟩:=h;obtain⟨u,b,rfl,⟨t,rfl⟩,⟨t',rfl⟩⟩:=vals2 r;refine min_two_ints (I.ok.hd hc) fun h' tk k=>⟨_,H,I.kept k,?_,q⟩
 by_cases a:j<i
 ·rw[if_pos a,if_pos a];exact⟨_,rfl⟩
 ·rw[if_neg a,if_neg a];exact⟨_,rfl⟩
end
def RelO.some_of{v:V}{o:Option Value}(r:RelO (some v) o):∃u,o=some u/\RelV v u:=by
 cases o with
 |none=>exact(show False from r).elim
 |some u=>exact⟨u,rfl,r⟩
structure Cls(K:Ab)(C:Addr):Prop where
 pg:PySem.W.plainGet K C Str.empty=true
 hd:PySem.W.hasDictIn K C=true
 po:PySem.W.plainOver K C=true
 sa:PySem.W.findIn K (.ref C) "__setattr__"=some (some (.builtin "object.__setattr__"))
def Cls.get{K:Ab}{C:Addr}(c:Cls K C)(f:Str):PySem.W.plainGet K C f=true:=c.pg
structure Room(k:Nat)(A:Around):Prop where
 hd:A.handled=none
 dp:A.depth+3*k+5<recursionLimit
 un:A.units+16*k+200<cLine
def Room.mono{j k:Nat}{A:Around}(r:Room k A)(h:j<=k):Room j A:=⟨r.hd,by have:=r.dp;(first|lia|omega),by have:=r.un;(first|lia|omega)⟩
def Room.deeper{k:Nat}{A:Around}(r:Room (k+1) A)(env:Env):Room k (A.deeper env):=
 ⟨r.hd,by have:=r.dp;show A.depth+1+3*k+5<_;(first|lia|omega),by have:=r.un;show A.units+3+16*k+200<_;(first|lia|omega)⟩
def Room.in1{k:Nat}{A:Around}(r:Room (k+1) A):Room k A.in1:=
 ⟨r.hd,by have:=r.dp;show A.depth+3*k+5<_;(first|lia|omega),by have:=r.un;show A.units+1+16*k+200<_;(first|lia|omega)⟩
def Room.depth{k:Nat}{A:Around}(r:Room k A):A.depth<recursionLimit:=by have:=r.dp;(first|lia|omega)
def Room.units{k:Nat}{A:Around}(r:Room k A):A.units+64<cLine:=by have:=r.un;(first|lia|omega)
def bN:TA:=fun _ H Q=>Q [] H
def zY(ta:TE)(a:TA):TA:=fun σ H Q=>ta σ H fun x H1=>a σ H1 fun xs H2=>Q (x::xs) H2
section
variable{X:Cx}{e:Expr}{es:List Expr}{te:TE}{t:TA}{pos:Pos}
def ak:PA X [] bN:=fun _ _ _ _ H Q I h=>Calls.spliced_nil ⟨[],H,I,.nil,h⟩
def af(g:PE X e te)(hr:PA X es t)(i:starEach (e::es) X.env=(false,eval e X.env)::starEach es X.env:=by rfl):PA X (e::es) (zY te t):=by
 intro pos aa s σ H Q I h;rw[i];show wpAny _ _ (spliced ((false,eval e X.env)::backTo pos (starEach es X.env))) _ _ s;refine Calls.spliced_cons (aX (g aa s σ H _ I h) fun u a ⟨x,H1,j,b,c⟩=>?_);exact aX (hr pos aa a σ H1 _ j c) fun us o ⟨xs,H2,l,d,f⟩=>⟨x::xs,H2,l,.cons b d,f⟩
def Hj(t:TA):TE:=fun σ H Q=>t σ H fun xs H1=>xs.length<=sizeLine/\∀p,H1 p=none->Q (.ref p) (upd H1 p (.tup xs))
def Hk(t:TA):TE:=fun σ H Q=>t σ H fun xs H1=>xs.length<=sizeLine/\∀p,H1 p=none->Q (.ref p) (upd H1 p (.lst xs))
def fE{x1}(h:PA X es t):PE X (.Tuple es x1 pos) (Hj t):=by
 intro aa s σ H Q I hq;refine wpAny_Tuple_spliced (aX (h pos aa s σ H _ I hq) fun us a ⟨xs,H1,I1,r,z,q⟩=>⟨by rw[<-r.length];exact z,?_⟩);have c:H1 a⁻¹=none:=I1.hok.fresh (Af _);refine⟨.ref a⁻¹,upd H1 a⁻¹ (.tup xs),I1.laid (t':=a.toks) (fun b u e=>Ai _ e) (Af _) ?_,rfl,q _ c⟩;exact⟨z,us,r,⟨_,AG _ rfl,rfl,_,rfl⟩⟩
def zS(h:PA X es t):PE X (.List es pos) (Hk t):=by
 intro aa s σ H Q I hq;refine wpAny_List_spliced (aX (h pos aa s σ H _ I hq) fun us a ⟨xs,H1,I1,r,z,q⟩=>⟨by rw[<-r.length];exact z,?_⟩);have c:H1 a⁻¹=none:=I1.hok.fresh (Af _);refine⟨.ref a⁻¹,upd H1 a⁻¹ (.lst xs),I1.laid (t':=a.toks) (fun b u e=>Ai _ e) (Af _) ?_,rfl,q _ c⟩;exact⟨z,us,0,r,AG _ rfl⟩
end
abbrev Sp:=List V->Hp->VK->XK->Prop
abbrev ew:=List Env->Hp->Shared->XK->Ω
structure Env0(P:Program)(w:World)(K:Ab)(mg:Str->Option Value)(base:Heap)(A:Around)(outer:List Env)(s:Shared)(H:Hp):Prop where
 frames:A.frames=some outer
 mod:Mod K mg base
 bs:∀b o,base.get? b=some o->s.heap.get? b=some o/\H b=none
 bsz:base.objs.size<=s⁻¹
 funs:s.heap.FunFrames base outer
 frf:∀b∈frs outer,H b=none
 hok:HOk P w H s.heap
 bare:AllBare s.gens
def CE(outer:List Env)(P:Program)(w:World)(H:Hp)(s:Shared)(Q:VK)(u:Value)(s':Shared):Prop:=
 ∃v H',s'.os=s.os/\AllBare s'.gens/\Un (frs outer) [] H H' s.heap s'.heap/\HOk P w H' s'.heap/\RelV v u/\Q v H'
def CR(CX:ew)(outer:List Env)(P:Program)(w:World)(H:Hp)(s:Shared)(Q:VK)(E:XK)(r:Result)(s':Shared):Prop:=
 match r with
 |.ok (.ret u)=>CE outer P w H s Q u s'
 |.ok _=>False
 |.error e=>CX outer H s E e s'
structure FnOk(P:Program)(w:World)(K:Ab)(mg:Str->Option Value)(base:Heap)(CX:ew)(k:Nat)(f:Addr)(fd:FuncData)(ps:List Str)(sp:Sp):Prop where
 len:∀vs H Q E,sp vs H Q E->vs.length=ps.length
 run:∀(A:Around)(outer:List Env)(s:Shared)(H:Hp)(args:Args)(us:List Value)(vs:List V)(Q:VK)(E:XK),Room k A->Env0 P w K mg base A outer s H->BindsTo s fd args (ps.zip us)->Vals vs us->sp vs H Q E->
  codeAny (model P w) A (.call (.ref f) args) (CR CX outer P w H s Q E) s
def Env0.in1{P:Program}{w:World}{K:Ab}{mg:Str->Option Value}{base:Heap}{A:Around}{outer:List Env}{s:Shared}{H:Hp}(e:Env0 P w K mg base A outer s H):Env0 P w K mg base A.in1 outer s H:=⟨e.frames,e.mod,e.bs,e.bsz,e.funs,e.frf,e.hok,e.bare⟩
section
variable{X:Cx}{aa:Ψ}{σ:St}{H:Hp}{s s':Shared}
def Inv.env0(I:Inv X aa σ H s):Env0 X.prog X.w X.K X.mg X.base X.A X.stack s H:=
 ⟨I.ok.frames,I.ok.mod,I.bs,Ag I.ok.bsz I.sz,I.stack,I.stkFree,I.hok,I.bare⟩
def Inv.after{Q:VK}{u:Value}(I:Inv X aa σ H s)(h:CE X.stack X.prog X.w H s Q u s'):EP X aa σ Q u s':=by
 obtain⟨v,H',os,a,un,c,r,q⟩:=h;obtain⟨e,g,d,t,f⟩:=s';obtain rfl:f=s.os:=os;exact⟨v,H',I.call (h':=e) (g':=g) (d':=d) (t':=t) (ch:=[]) un c a (fun b z=>absurd z (by simp)),r,q⟩
end
def dD(sp:Sp)(dm:List V)(E:XK)(t:TA):TE:=fun σ H Q=>t σ H fun vs H1=>sp (vs++dm) H1 Q E
def Binds(K:Ab)(fd:FuncData)(ps:List Str)(ds:List Value):Prop:=
 ∀(s:Shared)(us:List Value),K.In s.heap->(us++ds).length=ps.length->BindsTo s fd ⟨us,[]⟩ (ps.zip (us++ds))
def Binds.all{K:Ab}{fd:FuncData}{ps:List Str}(h:∀us:List Value,us.length=ps.length->bindArgs fd ⟨us,[]⟩=pure (ps.zip us)):Binds K fd ps []:=fun s us _ a=>by
 rw[List.append_nil] at a ⊢;exact .of_eq (h us a)
def cJ(CX:ew)(X:Cx)(E:XK):Prop:=∀(aa:Ψ)(σ:St)(H:Hp)(s:Shared)(e:Value)(s':Shared),Inv X aa σ H s->CX X.stack H s E e s'->X.xe e s'
section
variable{X:Cx}{CX:ew}{k:Nat}{f C:Addr}{fd:FuncData}{ps:List Str}{sp:Sp}{dm:List V}{ds:List Value}{E:XK}{x m:Str}{p pos bD:Pos}{e o:Expr}{es:List Expr}{ta:TE}{t:TA}
def N3{aa:Ψ}{σ:St}{H:Hp}{s:Shared}{Q:VK}{us:List Value}{vs:List V}(F:FnOk X.prog X.w X.K X.mg X.base CX k f fd ps sp)(hr:Room k X.A)(hb:Binds X.K fd ps ds)(hd:Vals dm ds)(hx:cJ CX X E)(I:Inv X aa σ H s)(r:Vals vs us)(h:sp (vs++dm) H Q E):wpAny (model X.prog X.w) X.A (call (.ref f) us) (EP X aa σ Q) X.xe s:=by
 have a:Vals (vs++dm) (us++ds):=r.append hd;have b:(us++ds).length=ps.length:=by rw[<-a.length];exact F.len _ _ _ _ h
 refine wpAny_call (codeAny_mono (F.run X.A X.stack s H ⟨us,[]⟩ (us++ds) (vs++dm) Q E hr I.env0 (hb s us I.kIn b) a h) fun r s' hq=>?_);cases r with
 |error e=>exact hx aa σ H s e s' I hq
 |ok fl=>
  cases fl with
  |ret u=>exact I.after hq
  |next=>exact False.elim hq
  |brk=>exact False.elim hq
  |cont=>exact False.elim hq
def ze(F:FnOk X.prog X.w X.K X.mg X.base CX k f fd ps sp)(hr:Room k X.A)(hg:Gl X x)(b:X.mg x=some (.ref f))(hk:PySem.W.keepIn X.K (.ref f)=true)(hb:Binds X.K fd ps ds)(hd:Vals dm ds)(hx:cJ CX X E)(c:PA X (e::es) t)(d:(x==("__debug__":Str))=false:=by decide)(g:starEach (e::es) X.env=(false,eval e X.env)::starEach es X.env:=by rfl)(a:(backTo pos (starEach es X.env)).any (·.1)=false:=by rfl):PE X (.Call (.Name x p) (e::es) [] pos) (dD sp dm E t):=by
 intro aa s σ H Q I h;refine wpAny_Call_Name_kw (BK I hg b ?_ d);refine PySem.W.callWith_K (h₀:=X.base) I.ok.mod.kin hk (aX (c pos aa s σ H _ I h) fun us i ⟨vs,H1,I1,r,q⟩=>⟨I1.kIn,?_⟩) g a;exact N3 F hr hb hd hx I1 r q
structure Mk(K:Ab)(C f:Addr):Prop where
 makes:PySem.W.makesIn K C=true
 init:PySem.W.findIn K (.ref C) "__init__"=some (some (.ref f))
 fn:PySem.W.isFn K (.ref f)=true
 kp:PySem.W.keepIn K (.ref C)=true
end
structure zl(N P:List Str)(sc:Scope):Prop where
 kind:sc.kind=.function
 co:sc.isCoroutine=false
 gen:sc.isGenerator=false
 nd:N.Nodup
 pre:N.take P.length=P
 par:∀x∈P,sc.names.lookup x=some .local\/sc.names.lookup x=some .cell
 nofree:∀y∈sc.names,y.2≠.free
def JW{kindOf:Str->Option NameKind}{x:Str}:∀{binds:List (Str×Value)}{m:Str->Option Value},(∀v,(x,v)∉binds)->bindL kindOf binds m x=m x
 |[],_,_=>rfl
 |(n,v)::r,m,h=>by
  unfold bindL;rw[JW fun w hw=>h w (AD _ hw)];split
  ·have:x≠n:=by rintro rfl;exact h v AF
   simp[this]
  ·rfl
def JX{kindOf:Str->Option NameKind}{x:Str}:∀{binds:List (Str×Value)}{m:Str->Option Value},(∀v,(x,v)∉binds)->bindC kindOf binds m x=m x
 |[],_,_=>rfl
 |(n,v)::r,m,h=>by
  unfold bindC;rw[JX fun w hw=>h w (AD _ hw)];split
  ·rfl
  ·have:x≠n:=by rintro rfl;exact h v AF
   simp[this]
def JY{kindOf:Str->Option NameKind}{x:Str}{v:Value}:∀{P:List Str}{vs:List Value}{i:Nat}{m:Str->Option Value},P.Nodup->P[i]?=some x->vs[i]?=some v->kindOf x=some .local->
  bindL kindOf (P.zip vs) m x=some v
 |[],_,_,_,_,h,_,_=>by simp at h
 |_::_,[],_,_,_,_,h,_=>by simp at h
 |p::P,w::vs,0,m,nd,h1,h2,hk=>by
  simp at h1 h2;subst h1;subst h2;show bindL kindOf ((p,w)::P.zip vs) m p=_;unfold bindL;rw[JW fun v a=>(List.nodup_cons.mp nd).1 (List.of_mem_zip a).1,if_pos hk];simp
 |p::P,w::vs,i+1,m,nd,h1,h2,hk=>by
  show bindL kindOf ((p,w)::P.zip vs) m x=_;unfold bindL;exact JY (i:=i) (List.nodup_cons.mp nd).2 (by simpa using h1) (by simpa using h2) hk
def JZ{kindOf:Str->Option NameKind}{x:Str}{v:Value}:∀{P:List Str}{vs:List Value}{i:Nat}{m:Str->Option Value},P.Nodup->P[i]?=some x->vs[i]?=some v->kindOf x≠some .local->
  bindC kindOf (P.zip vs) m x=some v
 |[],_,_,_,_,h,_,_=>by simp at h
 |_::_,[],_,_,_,_,h,_=>by simp at h
 |p::P,w::vs,0,m,nd,h1,h2,hk=>by
  simp at h1 h2;subst h1;subst h2;show bindC kindOf ((p,w)::P.zip vs) m p=_;unfold bindC;rw[JX fun v a=>(List.nodup_cons.mp nd).1 (List.of_mem_zip a).1,if_neg hk];simp
 |p::P,w::vs,i+1,m,nd,h1,h2,hk=>by
  show bindC kindOf ((p,w)::P.zip vs) m x=_;unfold bindC;exact JZ (i:=i) (List.nodup_cons.mp nd).2 (by simpa using h1) (by simpa using h2) hk
def start(N:List Str)(vs:List V):St:=vs.map some++Am (N.length-vs.length) none
def bQ(CX:ew)(P:Program)(w:World)(K:Ab)(mg:Str->Option Value)(base:Heap)(N:List Str)(a:Str)(scope:Scope)(f:Addr)(b:Value)(A:Around)(outer:List Env)(s:Shared)(H:Hp)(E:XK):Cx where
 prog:=P
 w:=w
 K:=K
 mg:=mg
 base:=base
 A:=A.deeper (envOfC a scope s⁻¹ f b)
 N:=N
 s₀:=s
 H₀:=H
 env:=envOfC a scope s⁻¹ f b
 outer:=outer
 stack:=envOfC a scope s⁻¹ f b::outer
 ex:=[]
 calm:=true
 fn:=fun _=>true
 pn:=[]
 xe:=fun e s'=>wpAny (model P w) (A.deeper (envOfC a scope s⁻¹ f b)) (leaving (envOfC a scope s⁻¹ f b) e) (fun _ c=>CX outer H s E e c) (fun d c=>CX outer H s E d c) s'
def J0{sc:Scope}{n:Nat}{x:Str}(h:sc.names.lookup x=some .cell):∃c,(Bm n sc.names []).lookup x=some c:=by
 have q:=PySem.W.cellsFrom_some sc.names n [] (.inl h);exact Option.isSome_iff_exists.mp q
def J1{CX:ew}{P:Program}{w:World}{K:Ab}{mg:Str->Option Value}{base:Heap}{N ps:List Str}{j:Str}{scope:Scope}{f:Addr}{l:Value}{A:Around}{outer:List Env}{s C:Shared}{H:Hp}{E:XK}{us:List Value}{vs:List V}(S:zl N ps scope)(hd:A.handled=none)(d:Env0 P w K mg base A outer s H)(J:vs.length=ps.length)(r:Vals vs us)(x:InCallC s s⁻¹ (bindL (envOfC j scope s⁻¹ f l).kindOf (ps.zip us) fun _=>none) (Bm (s⁻¹+1) scope.names []) (bindC (envOfC j scope s⁻¹ f l).kindOf (ps.zip us) fun _=>none) C):Inv (bQ CX P w K mg base N j scope f l A outer s H E) [] (start N vs) H C:=by
 have F:ps.length<=N.length:=by have:=congrArg List.length S.pre;rw[List.length_take] at this;(first|lia|omega)
 obtain⟨h1,tk,rfl,hk⟩:=x.done;have o:∀b:Addr,b∉(bQ CX P w K mg base N j scope f l A outer s H E).ex:=fun b z=>absurd (show b∈([]:List Addr) from z) (by simp);refine⟨⟨d.mod,S.kind,rfl,rfl,Af _,fun y z c h1 h2=>?_,fun y hy=>?_,fun y c _ h=>?_,fun _=>hd,Around.frames_deeper d.frames,.inr ⟨rfl,rfl⟩,fun b z=>absurd z (o b),d.bs,d.bsz,fun b _ _=>o b,fun b z=>absurd z (o b),d.funs,d.frf⟩,
  rfl,d.bare,Un.kept hk,⟨_,x.toInCall.ns,fun i y v h1 h2 I=>?_⟩,fun y c h=>⟨_,x.cell y c h⟩,d.hok.fresh (Af _),fun y c h=>?_,fun p hp=>absurd (show p∈([]:Ψ) from hp) (by simp),d.hok.kept hk,?_⟩
 ·exact name_of_addr x.apart (PySem.mem_of_lookup h1) (PySem.mem_of_lookup h2)
 ·have hy:scope.names.lookup y=some .cell\/scope.names.lookup y=some .free:=hy
  rcases hy with hy|hy
  ·exact J0 hy
  ·exact absurd rfl (S.nofree _ (PySem.mem_of_lookup hy))
 ·exact Nat.le_of_lt (x.above y c (PySem.mem_of_lookup h))
 ·have hi:i<vs.length:=by
   unfold start at h2
   by_cases hi:i<vs.length
   ·exact hi
   ·rw[List.getElem?_append_right (by simpa using hi)] at h2
    rw[List.getElem?_replicate] at h2;split at h2<;>cases h2
  have G:vs[i]?=some v:=by
   unfold start at h2;rw[List.getElem?_append_left (by simpa using hi),Aj] at h2;cases e:vs[i]? with
   |none=>rw[e] at h2;cases h2
   |some a=>rw[e] at h2;cases h2;rfl
  obtain⟨u,hu,D⟩:=r.get G;have hp:ps[i]?=some y:=by
   rw[<-S.pre,List.getElem?_take_of_lt ω];exact h1
  have g:ps.Nodup:=by rw[<-S.pre];exact S.nd.sublist (List.take_sublist _ _)
  refine⟨u,D,?_⟩;rcases S.par y (An hp) with k|k
  ·exact .inl ⟨k,JY g hp hu k⟩
  ·obtain⟨c,e⟩:=J0 (n:=s⁻¹+1) k
   refine .inr ⟨.inl k,c,e,?_⟩;have q:=x.cell y c e;rw[JZ g hp hu (by show scope.names.lookup y≠_;rw[k];decide)] at q;exact q
 ·exact d.hok.fresh (Nat.le_of_lt (x.above y c (PySem.mem_of_lookup h)))
 ·unfold start
  show _=N.length;rw[AJ,Aa,AM];(first|lia|omega)
def J3{CX:ew}{P:Program}{w:World}{K:Ab}{mg:Str->Option Value}{base:Heap}{k:Nat}{f:Addr}{name a:Str}{p:Arguments}{i:List Stmt}{scope:Scope}{z kV C D c ct oc:Value}{F od:Option Addr}{O:Array (Option Value)}{N ps:List Str}{sp:Sp}(lk:K.lookup f=some ⟨oc,od,.func (PySem.W.fnOf name a p i scope z kV C D F c ct),O⟩)(T:PySem.W.codeIn K c a=true)(S:zl N ps scope)(len:∀vs H Q E,sp vs H Q E->vs.length=ps.length)(aV:∀(A:Around)(outer:List Env)(s:Shared)(H:Hp)(vs:List V)(Q:VK)(E:XK),Room k (A.deeper (envOfC a scope s⁻¹ f c))->sp vs H Q E->
   ∃t,PSs (bQ CX P w K mg base N a scope f c A outer s H E) i t/\t {nx:=fun _ H'=>Q .non H',rt:=Q} (start N vs) H):
  FnOk P w K mg base CX (k+1) f (PySem.W.fnOf name a p i scope z kV C D F c ct) ps sp:=by
 refine⟨len,fun A outer s H args us vs Q E hr g hb r G=>?_⟩;have Z:=len _ _ _ _ G;have M:K.In s.heap:=g.mod.kin.keeps fun b o e=>(g.bs b o e).1;have l:s.heap.NoLimit:=g.mod.nolimit.keeps fun b o e=>(g.bs b o e).1;have dJ:∀y∈ps.zip us,scope.names.lookup y.1=some .local\/(scope.names.lookup y.1=some .cell/\((Bm (s⁻¹+1) scope.names []).lookup y.1).isSome=true):=fun⟨n,v⟩ hy=>by
  rcases S.par n (List.of_mem_zip hy).1 with q|q
  ·exact .inl q
  ·exact .inr ⟨q,PySem.W.cellsFrom_some _ _ _ (.inl q)⟩
 refine codeAny_call_function hr.depth (M _ _ lk) rfl S.co S.gen rfl (PySem.W.codeRec_of M T) (hb _ _ _ _ ?_);refine wpAny_newFunctionEnv_cells S.kind dJ fun env U L x=>?_;subst U;refine⟨l.keeps x.toInCall.keep,codeAny_func ?_⟩;obtain⟨t,Y,hq⟩:=aV A outer s H vs Q E (hr.deeper _) G;have I:Inv (bQ CX P w K mg base N a scope f c A outer s H E) [] (start N vs) H L:=J1 S hr.hd g Z r x;refine wpAny_mono (Y [] L (start N vs) H _ I hq) (fun X s' d=>?_) fun e s' d=>d;have fin:∀{h:St}{H':Hp}{v:V}{u:Value},Inv (bQ CX P w K mg base N a scope f c A outer s H E) [] h H' s'->RelV v u->Q v H'->CE outer P w H s Q u s':=
  fun{h H' v u} J j q=>⟨v,H',J.os,J.bare,J.base,J.hok,j,q⟩
 cases X with
 |ret u=>
  obtain⟨v,h,H',J,j,q⟩:=d;exact fin J j q
 |next=>
  obtain⟨h,H',J,q⟩:=d;exact fin (v:=V.non) (u:=Value.none) J rfl q
 |brk=>
  obtain⟨_,_,_,q⟩:=d;exact False.elim q
 |cont=>
  obtain⟨_,_,_,q⟩:=d;exact False.elim q
section
variable{X:Cx}{x:Str}{p pos:Pos}{e:Expr}{es:List Expr}{t:TA}{id T:String}{r:List V->Hp->VK->Prop}
def k7(r:List V->Hp->VK->Prop)(t:TA):TE:=fun σ H Q=>t σ H fun vs H1=>r vs H1 Q
def zj(hc:iu X (.builtin id) r)(hg:Gl X x)(f:X.mg x=none)(g:A9 x=some (.builtin id))(i:PA X (e::es) t)(j:x≠"__name__":=by decide)(l:(x==("__debug__":Str))=false:=by decide)
  (o:starEach (e::es) X.env=(false,eval e X.env)::starEach es X.env:=by rfl) (a:(backTo pos (starEach es X.env)).any (·.1)=false:=by rfl):PE X (.Call (.Name x p) (e::es) [] pos) (k7 r t):=by
 intro aa s σ H Q I h;refine wpAny_Call_Name_kw (i0 I hg f g ?_ j l);exact PyProof.Rows.callWith_builtin1 (aX (i pos aa s σ H _ I h) fun us b ⟨vs,H1,q,c,d⟩=>hc aa b σ H1 vs us Q q c d) o a
def j7(hc:iu X (.type T) r)(hg:Gl X x)(f:X.mg x=none)(g:A9 x=some (.type T))(i:PA X (e::es) t)(j:x≠"__name__":=by decide)(l:(x==("__debug__":Str))=false:=by decide)
  (o:starEach (e::es) X.env=(false,eval e X.env)::starEach es X.env:=by rfl) (a:(backTo pos (starEach es X.env)).any (·.1)=false:=by rfl):PE X (.Call (.Name x p) (e::es) [] pos) (k7 r t):=by
 intro aa s σ H Q I h;refine wpAny_Call_Name_kw (i0 I hg f g ?_ j l);exact PyProof.Rows.callWith_type1 (aX (i pos aa s σ H _ I h) fun us b ⟨vs,H1,q,c,d⟩=>hc aa b σ H1 vs us Q q c d) o a
end
end L2
namespace HT
open PySem PyProof.Rows
def lexLt:List Int->List Int->Bool
 |[],[]=>false
 |[],_::_=>true
 |_::_,[]=>false
 |x::xs,y::ys=>if x=y then lexLt xs ys else decide (x<y)
def rg(x y:Int)(xs ys:List Int):lexLt (x::xs) (y::ys)=if x=y then lexLt xs ys else decide (x<y):=rfl
def N4:lexLt [] []=false:=rfl
section
open PySem.SeqAt
open PySem.AutoSeq1 (wpAny_loadPart')
open PySem.MeetsSeq PySem.MeetsSeq2 PySem.MeetsSeq3
end
section
variable{prog:Program}{w:World}{A:Around}{E:Ω}{s:Shared}
def dO(n d:Nat):Option Int->Nat
 |none=>d
 |some v=>if v<0 then(v+(n:Int)).toNat else min v.toNat n
def J4(n d:Nat):dO n d none=d:=rfl
def J5(n d k:Nat):dO n d (some (k:Int))=min k n:=by
 show(if(k:Int)<0 then((k:Int)+(n:Int)).toNat else min (k:Int).toNat n)=min k n;rw[if_neg ω,Int.toNat_natCast]
end
end HT
namespace L2
open PySem PySem.Spec PyProof.Rows
abbrev TO:=St->Hp->(Option Int->Hp->Prop)->Prop
def PO(X:Cx)(e:Option Expr)(t:TO):Prop:=
 ∀(aa:Ψ)(s:Shared)(σ:St)(H:Hp)(Q:Option Int->Hp->Prop),Inv X aa σ H s->t σ H Q->
  wpAny (model X.prog X.w) X.A (evalPart e X.env) (fun u s'=>∃o H',Inv X aa σ H' s'/\IsPart u o/\Q o H') X.xe s
def Hl:TO:=fun _ H Q=>Q none H
def Hm(t:TE):TO:=fun σ H Q=>t σ H fun x H1=>∃i,x=.int i/\Q (some i) H1
def intsAre_of{ns:List Int}:∀{us:List Value},Vals (ns.map V.int) us->IntsAre us ns:=by
 induction ns with
 |nil=>intro us r;rw[List.map_nil] at r;cases r;exact .nil
 |cons n ns ih=>
  intro us r;rw[AV] at r;cases r with
  |cons r1 r2=>
   obtain⟨t,e⟩:=r1;subst e;exact .cons n t (ih r2)
section
variable{X:Cx}{e:Expr}{te:TE}{lo hi:Option Expr}{tl th:TO}{pos p2:Pos}
def ri:PO X none Hl:=by
 intro aa s σ H Q I h;rw[evalPart_none];exact Ap ⟨none,H,I,.none,h⟩
def rm(h:PE X e te):PO X (some e) (Hm te):=by
 intro aa s σ H Q I hw;rw[evalPart_some];refine aX (h aa s σ H _ I hw) fun u d ⟨x,H1,c,a,b⟩=>?_;obtain⟨i,rfl,q⟩:=b;obtain⟨t,rfl⟩:=a;exact⟨some i,H1,c,.int i t,q⟩
def J6(X:Cx)(r:V->Option Int->Option Int->Hp->VK->Prop):Prop:=
 ∀(aa:Ψ)(s:Shared)(σ:St)(H:Hp)(x:V)(v vl a:Value)(lo hi:Option Int)(b:Addr)(Q:VK),Inv X aa σ H s->RelV x v->s.heap.IsSliceOf b vl a .none->IsPart vl lo->IsPart a hi->r x lo hi H Q->
  ∃T id,typeLookup (.type T) "__getitem__"=pure (some (.builtin id))/\s.TypeIs v T/\wpAny (model X.prog X.w) X.A (getItem v (.ref b)) (EP X aa σ Q) X.xe s
def Hn(r:V->Option Int->Option Int->Hp->VK->Prop)(te:TE)(tl th:TO):TE:=fun σ H Q=>te σ H fun x H1=>tl σ H1 fun l H2=>th σ H2 fun u a=>r x l u a Q
def ro{r:V->Option Int->Option Int->Hp->VK->Prop}(hr:J6 X r)(D:PE X e te)(E:PO X lo tl)(hu:PO X hi th):PE X (.Subscript e (.Slice lo hi none p2) pos) (Hn r te tl th):=by
 intro aa s σ H Q I h;refine Subscript_ (aX (D aa s σ H _ I h) fun v f ⟨x,H1,F,g,i⟩=>?_);refine wpAny_Slice (aX (E aa f σ H1 _ F i) fun vl j ⟨l,H2,G,pl,o⟩=>aX (hu aa j σ H2 _ G o) fun c a ⟨u,d,I3,p,y⟩=>?_);rw[evalPart_none];refine Ap ?_;have J:Inv X aa σ d {a with heap:=a.heap.push {cls:=.type "slice",data:=.fields #[vl,c,.none]}}:=I3.kept (t':=a.toks) fun b L q=>Ai _ q;obtain⟨T,id,z,C,hg⟩:=hr aa {a with heap:=a.heap.push {cls:=.type "slice",data:=.fields #[vl,c,.none]}} σ d x v vl c l u a⁻¹ Q J g (Heap.IsSliceOf.new ..) pl p y;show wpAny (model X.prog X.w) X.A (subscriptTail e (.Slice lo hi none p2) v (.ref a⁻¹)) (EP X aa σ Q) X.xe {a with heap:=a.heap.push {cls:=.type "slice",data:=.fields #[vl,c,.none]}};exact tail_any (ops:=[.ref a⁻¹,v]) C z hg (by with_unfolding_all rfl)
def dQ(xs:List V)(lo hi:Option Int):List V:=(xs.drop (HT.dO xs.length 0 lo)).take (HT.dO xs.length xs.length hi-HT.dO xs.length 0 lo)
def N5(xs:List V)(lo hi:Option Int):(dQ xs lo hi).length<=xs.length:=by
 unfold dQ;rw[List.length_take,List.length_drop];(first|lia|omega)
end
def iw(n:Nat)(i:Int):Option Nat:=if 0<=i then(if i<n then some i.toNat else none) else if -(n:Int)<=i then some (i+n).toNat else none
def atI{a:Type}(xs:List a)(i:Int):Option a:=(iw xs.length i).bind fun j=>xs[j]?
def J7{n:Nat}{i:Int}{j:Nat}(h:iw n i=some j):seqIndex? i n=some j/\j<n/\-(n:Int)<=i/\i<n:=by
 unfold iw at h
 by_cases a:0<=i
 ·rw[if_pos a] at h
  by_cases h1:i<n
  ·rw[if_pos h1] at h
   have e:i.toNat=j:=AL h;exact⟨by rw[seqIndex_of a h1,e],ω,ω,h1⟩
  ·rw[if_neg h1] at h;cases h
 ·rw[if_neg a] at h
  by_cases h1:-(n:Int)<=i
  ·rw[if_pos h1] at h
   have e:(i+n).toNat=j:=AL h;exact⟨by rw[seqIndex_neg ω h1,e],ω,h1,ω⟩
  ·rw[if_neg h1] at h;cases h
def J8{a:Type}{xs:List a}{i:Int}{v:a}(h:atI xs i=some v):∃j,seqIndex? i xs.length=some j/\xs[j]?=some v/\j<xs.length/\-(xs.length:Int)<=i/\i<xs.length:=by
 unfold atI at h;cases e:iw xs.length i with
 |none=>rw[e] at h;cases h
 |some j=>
  rw[e] at h;obtain⟨h1,h2,b,c⟩:=J7 e;exact⟨j,h1,h,h2,b,c⟩
def zh{a:Type}{xs:List a}{j:Nat}{v:a}(h:xs[j]?=some v):atI xs (j:Int)=some v:=by
 have b:j<xs.length:=(List.getElem?_eq_some_iff.mp h).1;have e:iw xs.length (j:Int)=some j:=by
  unfold iw;rw[if_pos ω,if_pos ω];simp
 unfold atI;rw[e];exact h
def N6(b:Expr):Prop:=∀o i,subscripted b false o i=operate [o,i] (getItem o i)
def Ho(X:Cx)(r:R2):Prop:=
 ∀(aE slice:Expr)(aa:Ψ)(s:Shared)(σ:St)(H:Hp)(x y:V)(v u:Value)(Q:VK),Inv X aa σ H s->RelV x v->RelV y u->r x y H Q->
  subscripted slice false v u=operate [v,u] (getItem v u)->wpAny (model X.prog X.w) X.A (subscriptTail aE slice v u) (EP X aa σ Q) X.xe s
def Hq(X:Cx)(id:String)(r:V->List V->Hp->VK->Prop):Prop:=
 ∀(aa:Ψ)(s:Shared)(σ:St)(H:Hp)(x:V)(xs:List V)(v:Value)(us:List Value)(Q:VK),Inv X aa σ H s->RelV x v->Vals xs us->r x xs H Q->
  wpAny (model X.prog X.w) X.A (call (.builtin id) (v::us)) (EP X aa σ Q) X.xe s
section
variable{X:Cx}{a b:Expr}{ta tb:TE}{pos:Pos}
def zy{r:R2}(hr:Ho X r)(f:PE X a ta)(hb:PE X b tb)(g:N6 b):PE X (.Subscript a b pos) (cq r ta tb):=by
 intro aa s σ H Q I h;exact Subscript_ (k4 f hb I h fun v u c x y H2 i d e q=>hr a b aa c σ H2 x y v u Q i d e q (g _ _))
def gP(K:Ab):R2:=fun x y H Q=>∃p xs i v,x=.ref p/\y=.int i/\SqL K H p xs/\atI xs i=some v/\Q v H
def rq(K:Ab):R2:=fun x y H Q=>∃p xs i v,x=.ref p/\y=.int i/\SqT K H p xs/\atI xs i=some v/\Q v H
def zB:Ho X (gP X.K):=by
 intro aE slice aa s σ H x y v u Q I e f h b;obtain⟨p,xs,i,z,rfl,rfl,hq,g,q⟩:=h;cases e;obtain⟨t,rfl⟩:=f;obtain⟨l,r,pl,hz⟩:=I.list hq;obtain⟨j,h1,h2,E,o,A⟩:=J8 g;obtain⟨w,c,C⟩:=r.get h2;have D:=r.length;have F:=dn;have fin:EP X aa σ Q w s:=⟨z,H,I,C,q⟩
 by_cases d:0<=i
 ·have a:i.toNat=j:=by
   rw[seqIndex_of d A] at h1;exact AL h1
  exact item_listR pl.isList d ω (by rw[a];simpa using c) fin b
 ·have a:(i+(l.toArray.size:Int)).toNat=j:=by
   rw[seqIndex_neg ω o] at h1;rw[At,<-D];exact AL h1
  exact subscriptTail_builtinR (x:=w) pl.isList.typeIs slot_list_getitem.lookup
   (wpAny_getItem_list_neg (Q:=fun r s'=>r=w/\EP X aa σ Q r s') pl.isList ω (by rw[At]<;>(first|lia|omega)) ω (by rw[a];simpa using c) ⟨rfl,fin⟩) b
def zE:Ho X (rq X.K):=by
 intro aE slice aa s σ H x y v u Q I a b h c;obtain⟨p,xs,i,z,rfl,rfl,hq,d,q⟩:=h;cases a;obtain⟨t,rfl⟩:=b;obtain⟨l,r,pl,hz⟩:=I.tuple hq;obtain⟨j,h1,h2,o,A,C⟩:=J8 d;obtain⟨w,e,f⟩:=r.get h2;have g:=r.length;have D:=dn;have fin:EP X aa σ Q w s:=⟨z,H,I,f,q⟩;exact subscriptTail_builtinR (x:=w) pl.typeIs slot_tuple_getitem.lookup
  (getItem_tuple (j:=j) (Q:=fun r s'=>r=w/\EP X aa σ Q r s') pl ω ω (by rw[At,<-g];exact h1) (by simpa using e) ⟨rfl,fin⟩) c
def N7(a:List Value)(n j:Nat)(u:Value):Obj.mapSeq (·.setIfInBounds j u) {cls:=.type "list",data:=.seq a.toArray n}={cls:=.type "list",data:=.seq (a.set j u).toArray n}:=by
 simp[Obj.mapSeq]
def Inv.lst{aa:Ψ}{σ:St}{H:Hp}{s:Shared}{p:Addr}{xs:List V}(I:Inv X aa σ H s)(h:H p=some (.lst xs)):∃(a:List Value)(n:Nat),Vals xs a/\s.heap.get? p=some {cls:=.type "list",data:=.seq a.toArray n}/\xs.length<=sizeLine:=by
 obtain⟨z,a,n,r,e⟩:=I.hok p _ h;exact⟨a,n,r,e,z⟩
def Inv.lstUpd{aa:Ψ}{σ:St}{H:Hp}{s:Shared}{p:Addr}{xs ys:List V}{c its':List Value}{n a:Nat}{f:Obj->Obj}(I:Inv X aa σ H s)(h:H p=some (.lst xs))(g:s.heap.get? p=some {cls:=.type "list",data:=.seq c.toArray n})(d:f {cls:=.type "list",data:=.seq c.toArray n}={cls:=.type "list",data:=.seq its'.toArray a})(r:Vals ys its')(hz:ys.length<=sizeLine)(t:Nat):Inv X aa σ (upd H p (.lst ys)) {s with heap:=s.heap.update p f,toks:=t}:=by
 have e:(s.heap.update p f).get? p=some {cls:=.type "list",data:=.seq its'.toArray a}:=by
  rw[Heap.get?_update_self f g (by rw[d]<;>rfl),d]
 refine I.write (x:=p) (e:=p) (by rw[h];trivial) (.inl rfl) (fun b u hb q=>(Heap.get?_update_other _ _ (Ne.symm hb)).trans q) ⟨_,e⟩ ?_;exact⟨hz,its',a,r,e⟩
def N8:V->V->V->Hp->(Hp->Prop)->Prop:=fun o i v H Q=>∃p xs k j,o=.ref p/\i=.int k/\H p=some (.lst xs)/\iw xs.length k=some j/\Q (upd H p (.lst (xs.set j v)))
def set_list:qC X N8:=by
 intro aa s σ H o i v z A u Q I l w x h;obtain⟨p,xs,k,j,rfl,rfl,hp,y,q⟩:=h;cases l;obtain⟨t,rfl⟩:=w;obtain⟨c,n,r,a,hz⟩:=I.lst hp;obtain⟨h1,h2,d,e⟩:=J7 y;have b:=r.length;have C:=dn;have g:Inv X aa σ (upd H p (.lst (xs.set j v))) {s with heap:=s.heap.update p (Obj.mapSeq (·.setIfInBounds j u))}:=
  I.lstUpd hp a (N7 c n j u) (r.set x j) (by rw[List.length_set];exact hz) s.toks
 by_cases f:0<=k
 ·have hk:k.toNat=j:=by
   rw[seqIndex_of f e] at h1;exact AL h1
  exact PySem.W.ki_setAt a f ω (by rw[At,<-b];exact e) (by rw[hk];exact⟨_,g,q⟩)
 ·have hk:(k+(c.toArray.size:Int)).toNat=j:=by
   rw[seqIndex_neg ω d] at h1;rw[At,<-b];exact AL h1
  exact PySem.W.ki_setBack a ω (by rw[At,<-b];exact d) ω (by rw[hk];exact⟨_,g,q⟩)
def N9(lo hi:Option Int)(n:Nat):(sliceBounds lo hi none n).1=((HT.dO n 0 lo:Nat):Int)/\(sliceBounds lo hi none n).2.1=((HT.dO n n hi:Nat):Int)/\(sliceBounds lo hi none n).2.2=1:=by
 refine⟨?_,?_,rfl⟩
 ·cases lo with
  |none=>simp[sliceBounds,HT.dO]
  |some i=>
   simp only[sliceBounds,HT.dO,Option.getD_none,show(1:Int)>0 from ξ,if_true]
   by_cases h:i<0
   ·simp only[h,if_true]<;>(first|lia|omega)
   ·simp only[h,if_false]<;>(first|lia|omega)
 ·cases hi with
  |none=>simp[sliceBounds,HT.dO]
  |some i=>
   simp only[sliceBounds,HT.dO,Option.getD_none,show(1:Int)>0 from ξ,if_true]
   by_cases h:i<0
   ·simp only[h,if_true]<;>(first|lia|omega)
   ·simp only[h,if_false]<;>(first|lia|omega)
def N_(a:List Value)(lo hi:Option Int):slicePick a.toArray lo hi none=((a.drop (HT.dO a.length 0 lo)).take (HT.dO a.length a.length hi-HT.dO a.length 0 lo)).toArray:=by
 obtain⟨h1,h2,b⟩:=N9 lo hi a.toArray.size;unfold slicePick;rw[h1,h2,b];simp only[sliceRange_one,pick_run,At]<;>rfl
def k8(K:Ab):V->Option Int->Option Int->Hp->VK->Prop:=fun x lo hi H Q=>∃a xs,x=.ref a/\SqL K H a xs/\∀p,H p=none->Q (.ref p) (upd H p (.lst (dQ xs lo hi)))
def rv:J6 X (k8 X.K):=by
 intro aa s σ H x v vl i lo hi j Q I d e pl f h;obtain⟨a,xs,rfl,hx,q⟩:=h;cases d;obtain⟨p,r,c,hz⟩:=I.list hx;have g:=r.length;refine⟨"list",_,slot_list_getitem.lookup,c.isList.typeIs,?_⟩;refine wpAny_getItem_list_slice c.isList e pl f .none (by simp) ?_ (by rw[At]<;>(first|lia|omega));rw[N_,<-g];refine⟨.ref s⁻¹,_,I.laid (t':=s.toks) (o:=.lst (dQ xs lo hi)) (fun b l q=>Ai _ q) (Af _) ?_,rfl,q _ (I.hok.fresh (Af _))⟩;exact⟨Ag (N5 xs lo hi) hz,_,0,(r.drop (HT.dO xs.length 0 lo)).take (HT.dO xs.length xs.length hi-HT.dO xs.length 0 lo),AG _ rfl⟩
def gQ:V->Bool
 |.non=>true
 |.bl _=>true
 |.int _=>true
 |.str _=>true
 |_=>false
def fL:V->V->Bool
 |.non,.non=>true
 |.bl a,.bl b=>a==b
 |.bl a,.int b=>(if a then 1 else 0)==b
 |.int a,.bl b=>a==(if b then 1 else 0)
 |.int a,.int b=>a==b
 |.str a,.str b=>a==b
 |_,_=>false
def Oa{A:Around}{s:Shared}{y x:V}{u v:Value}(d:RelV y u)(c:RelV x v)(e:gQ y=true)(fx:gQ x=true):SeqAt.EqAt A s u v (fL y x):=by
 cases y with
 |non=>
  cases d;cases x with
  |non=>cases c;exact SeqAt.EqAt.same _
  |bl b=>cases c;exact SeqAt.EqAt.none_bool b
  |int b=>obtain⟨t,rfl⟩:=c;exact SeqAt.EqAt.none_int b t
  |str b=>obtain⟨t,rfl⟩:=c;exact SeqAt.EqAt.none_str b t
  |_=>exact absurd (show false=true from fx) Av
 |bl a=>
  cases d;cases x with
  |non=>cases c;exact SeqAt.EqAt.bool_none a
  |bl b=>cases c;exact SeqAt.EqAt.bool_bool a b
  |int b=>obtain⟨t,rfl⟩:=c;exact SeqAt.EqAt.bool_int a b t
  |str b=>obtain⟨t,rfl⟩:=c;exact SeqAt.EqAt.bool_str a b t
  |_=>exact absurd (show false=true from fx) Av
 |int a=>
  obtain⟨t',rfl⟩:=d;cases x with
  |non=>cases c;exact SeqAt.EqAt.int_none a t'
  |bl b=>cases c;exact SeqAt.EqAt.int_bool a t' b
  |int b=>obtain⟨t,rfl⟩:=c;exact SeqAt.EqAt.int_int a t' b t
  |str b=>obtain⟨t,rfl⟩:=c;exact SeqAt.EqAt.int_str a t' b t
  |_=>exact absurd (show false=true from fx) Av
 |str a=>
  obtain⟨t',rfl⟩:=d;cases x with
  |non=>cases c;exact SeqAt.EqAt.str_none a t'
  |bl b=>cases c;exact SeqAt.EqAt.str_bool a t' b
  |int b=>obtain⟨t,rfl⟩:=c;exact SeqAt.EqAt.str_int a t' b t
  |str b=>obtain⟨t,rfl⟩:=c;exact SeqAt.EqAt.str_str a t' b t
  |_=>exact absurd (show false=true from fx) Av
 |_=>exact absurd (show false=true from e) Av
def jc(x:V)(u:Value):Bool:=match u with
 |.none=>fL .non x
 |.bool b=>fL (.bl b) x
 |.int i _=>fL (.int i) x
 |.str z _=>fL (.str z) x
 |_=>false
def Hr{x y:V}{u:Value}(r:RelV y u)(f:gQ y=true):jc x u=fL y x:=by
 cases y with
 |non=>cases r;rfl
 |bl b=>cases r;rfl
 |int i=>obtain⟨t,rfl⟩:=r;rfl
 |str z=>obtain⟨t,rfl⟩:=r;rfl
 |_=>exact absurd (show false=true from f) Av
def Hs{A:Around}{s:Shared}{x:V}{v:Value}(a:RelV x v)(fx:gQ x=true):∀{xs:List V}{us:List Value},Vals xs us->xs.all gQ=true->∀u∈us,SeqAt.EqAt A s u v (jc x u)
 |_,_,.nil,_=>fun u hu=>by cases hu
 |y::xs,u::us,.cons r t,f=>fun b hu=>by
  rw[List.all_cons,AX] at f;rcases List.mem_cons.mp hu with rfl|hu
  ·rw[Hr r f.1];exact Oa r a f.1 fx
  ·exact Hs a fx t f.2 b hu
def zi:iu X (.builtin "len") (fun xs H Q=>∃p ys,xs=[.ref p]/\(SqL X.K H p ys\/SqT X.K H p ys)/\Q (.int ys.length) H):=by
 intro aa s σ H xs us Q I r h;obtain⟨p,ys,rfl,hq,q⟩:=h;obtain⟨u,rfl,c⟩:=vals1 r;cases c;have e:=dn;rcases hq with hq|hq
 ·obtain⟨d,a,pl,hz⟩:=I.list hq
  have b:=a.length;exact Calls.call_len_list pl.isList (by simp only[At]<;>(first|lia|omega)) ⟨.int ys.length,H,I.tok _,⟨s.toks+1,by rw[At,b]⟩,q⟩
 ·obtain⟨d,a,pl,hz⟩:=I.tuple hq
  have b:=a.length;exact len_tuple pl (by simp only[At]<;>(first|lia|omega)) ⟨.int ys.length,H,I.tok _,⟨s.toks+1,by rw[At,b]⟩,q⟩
def k':iu X (.type "list") (fun xs H Q=>∃p ys,xs=[.ref p]/\(SqL X.K H p ys\/SqT X.K H p ys)/\∀l,H l=none->Q (.ref l) (upd H l (.lst ys))):=by
 intro aa s σ H xs us Q I r h;obtain⟨p,ys,rfl,hq,q⟩:=h;obtain⟨u,rfl,g⟩:=vals1 r;cases g;have fin:∀(a:List Value),Vals ys a->ys.length<=sizeLine->∀(h':Heap)(d:Nat),(∀b o',s.heap.get? b=some o'->h'.get? b=some o')->
   h'.get? s⁻¹=some {cls:=.type "list",dict:=none,data:=.seq a.toArray d,slots:=#[]}->EP X aa σ Q (.ref s⁻¹) {s with heap:=h'}:=fun a c hz h' d kp e=>
  ⟨.ref s⁻¹,_,I.laid (t':=s.toks) kp (Af _) (show zar X.prog X.w _ h' _ (.lst ys) from⟨hz,a,d,c,e⟩),rfl,q _ (I.hok.fresh (Af _))⟩
 rcases hq with hq|hq
 ·obtain⟨a,c,pl,hz⟩:=I.list hq
  have i:=c.length;obtain⟨o,f,hc,n,hd⟩:=pl.isList;exact call_list_seq p (.inl rfl) f hc hd (fun h' d kp e=>fin a c hz h' d kp e) (by simp only[At]<;>(first|lia|omega))
 ·obtain⟨a,c,pl,hz⟩:=I.tuple hq
  have i:=c.length;obtain⟨o,f,hc,n,hd⟩:=pl;exact call_list_seq p (.inr rfl) f hc hd (fun h' d kp e=>fin a c hz h' d kp e) (by simp only[At]<;>(first|lia|omega))
def Ob:iu X (.type "tuple") (fun xs H Q=>∃p ys,xs=[.ref p]/\((SqL X.K H p ys/\∀l,H l=none->Q (.ref l) (upd H l (.tup ys)))\/(SqT X.K H p ys/\Q (.ref p) H))):=by
 intro aa s σ H xs us Q I r h;obtain⟨p,ys,rfl,h⟩:=h;obtain⟨u,rfl,d⟩:=vals1 r;cases d;rcases h with ⟨hq,q⟩|⟨hq,q⟩
 ·obtain⟨a,c,pl,hz⟩:=I.list hq
  have g:=c.length;refine call_tuple_list pl.isList (fun h' kp=>?_) (by simp only[At]<;>(first|lia|omega));have I1:Inv X aa σ H {s with heap:=h'}:=I.kept (t':=s.toks) kp;have f:Inv X aa σ (upd H h'.objs.size (.tup ys)) {s with heap:=h'.push {cls:=.type "tuple",data:=.seq a.toArray}}:=
   I1.laid (t':=s.toks) (fun b o e=>Ai _ e) (Af _) (show zar X.prog X.w _ _ _ (.tup ys) from⟨hz,a,c,IsTup.new _ _⟩)
  exact⟨.ref h'.objs.size,_,f,rfl,q _ (I1.hok.fresh (Af _))⟩
 ·obtain⟨a,c,pl,hz⟩:=I.tuple hq
  exact call_tuple_same pl ⟨.ref p,H,I,rfl,q⟩
def Ht(K:Ab)(T:String)(x:V)(H:Hp):Prop:=match x with
 |.str _=>T="str"
 |.int _=>T="int"
 |.ref p=>(T="list"/\∃xs,SqL K H p xs)\/(T="tuple"/\∃o,K.lookup p=some o/\o.cls=.type "tuple"/\o.dict=none) \/
   (T="dict"/\((∃kvs,H p=some (.dK kvs))\/∃kvs,H p=some (.dT kvs)))\/(T="set"/\∃S n,H p=some (.set S n))
 |_=>False
def J9{aa:Ψ}{σ:St}{H:Hp}{s:Shared}{T:String}{x:V}{v:Value}(I:Inv X aa σ H s)(r:RelV x v)(ty:Ht X.K T x H):s.TypeIs v T/\∀a,v=.ref a->∃b,s.heap.get? a=some b/\b.dict=none:=by
 cases x with
 |str z=>
  obtain⟨t,rfl⟩:=r;cases(show T="str" from ty);exact⟨typeIs_str s z t,fun _ e=>nomatch e⟩
 |int i=>
  obtain⟨t,rfl⟩:=r;cases(show T="int" from ty);exact⟨typeIs_int s i t,fun _ e=>nomatch e⟩
 |ref p=>
  cases r;rcases ty with ⟨rfl,xs,hq⟩|⟨rfl,o,hk,hc,hd⟩|⟨rfl,hk⟩|⟨rfl,S,n,hk⟩
  ·obtain⟨d,_,pl,_⟩:=I.list hq
   refine⟨pl.isList.typeIs,fun a e=>?_⟩;cases e;obtain⟨o,n,e,c,hd,_⟩:=pl;exact⟨o,e,hd⟩
  ·refine⟨⟨o,I.kIn p o hk,hc⟩,fun a e=>?_⟩
   cases e;exact⟨o,I.kIn _ o hk,hd⟩
  ·have z:∃o,s.heap.get? p=some o/\o.ExactDict:=by
    rcases hk with ⟨kvs,hk⟩|⟨kvs,hk⟩
    ·obtain⟨_,_,_,_,o,_,_,e,ex,_⟩:=I.hok p _ hk
     exact⟨o,e,ex⟩
    ·obtain⟨_,_,_,_,o,_,_,e,ex,_⟩:=I.hok p _ hk
     exact⟨o,e,ex⟩
   obtain⟨o,e,ex⟩:=z;refine⟨⟨o,e,ex.1⟩,fun a e2=>?_⟩;cases e2;exact⟨o,e,ex.2.1⟩
  ·obtain⟨o,_,_,_,e,ex,_⟩:=I.hok p _ hk
   refine⟨⟨o,e,ex.1⟩,fun a e2=>?_⟩;cases e2;exact⟨o,e,ex.2.1⟩
 |_=>exact False.elim ty
def Hu(K:Ab)(T:String)(r:V->List V->Hp->VK->Prop)(to:TE):TE:=fun σ H Q=>to σ H fun x H1=>Ht K T x H1/\r x [] H1 Q
def Oc(K:Ab)(T:String)(r:V->List V->Hp->VK->Prop)(to:TE)(t:TA):TE:=fun σ H Q=>to σ H fun x H1=>Ht K T x H1/\t σ H1 fun xs H2=>r x xs H2 Q
variable{o e:Expr}{es:List Expr}{to:TE}{t:TA}{name:Str}{bD aA:Pos}{T id:String}{r:V->List V->Hp->VK->Prop}
def Od(e:PlainAttrs T)(slot:Slot T name id)(f:typeOf (.builtin id)=pure (.type "method_descriptor"))(g:Hq X id r)(i:PE X o to)(j:attributeBase o name X.env (eval o X.env)=eval o X.env:=by rfl)(l:(bD.endLine==aA.line)=true:=by rfl):PE X (.Call (.Attribute o name bD) [] [] aA) (Hu X.K T r to):=by
 intro aa s σ H Q I h;refine wpAny_Call_method0_late j l (aX (i aa s σ H _ I h) fun v c ⟨x,H1,b,a,ty,d⟩=>?_);obtain⟨h1,h2⟩:=J9 b a ty;exact⟨T,id,e,slot,f,h1,h2,Calls.callWith_builtin rfl (PySem.evalArgs_none (g aa c σ H1 x [] v [] Q b a .nil d))⟩
def nZ(p:PlainAttrs T)(slot:Slot T name id)(q:typeOf (.builtin id)=pure (.type "method_descriptor"))(u:Hq X id r)(w:PE X o to)(y:PA X (e::es) t)(z:attributeBase o name X.env (eval o X.env)=eval o X.env:=by rfl)
  (A:((backTo aA (starEach (e::es) X.env)).all (fun x=>!x.1)&&(backToKw aA (keywordEach [] X.env)).all (fun x=>x.1.isSome)
   && decide ((e::es).length+([]:List Keyword).length+(if([]:List Keyword).isEmpty then 0 else 1)<30))=true:=by rfl)
  (C:(bD.endLine==aA.line)=true:=by rfl) (D:starEach (e::es) X.env=(false,eval e X.env)::starEach es X.env:=by rfl) (E:(backTo aA (starEach es X.env)).any (·.1)=false:=by rfl) :
  PE X (.Call (.Attribute o name bD) (e::es) [] aA) (Oc X.K T r to t):=by
 intro aa s σ H Q I h;refine wpAny_Call_method_late z A C rfl (aX (w aa s σ H _ I h) fun v f ⟨x,H1,d,b,ty,g⟩=>?_);obtain⟨h1,h2⟩:=J9 d b ty;refine⟨T,id,p,slot,q,h1,h2,?_⟩;have c:=y aA aa f σ H1 _ d g;rw[D] at c ⊢;refine Calls.callWith_builtin (by show(false|| (backTo aA (starEach es X.env)).any (·.1))=false;rw[E]<;>rfl) (Calls.evalArgs_plain ?_);exact aX c fun us i ⟨vs,H2,F,j,l⟩=>u aa i σ H2 x vs v us Q F b j l
end
def rx(X:Cx)(id:String)(r:V->List V->Hp->VK->Prop):Prop:=
 ∀(aa:Ψ)(s:Shared)(σ:St)(H:Hp)(x:V)(xs:List V)(v:Value)(us:List Value)(Q:VK),Inv X aa σ H s->RelV x v->Vals xs us->r x xs H Q->
  wpAny (model X.prog X.w) X.A (call (.builtin id) (v::us)) (EP X aa σ Q) X.xe s
def Vals.one{x:V}{us:List Value}(h:Vals [x] us):∃u,us=[u]/\RelV x u:=by
 cases h with|cons r t=>cases t;exact⟨_,rfl,r⟩
def Vals.two{x y:V}{us:List Value}(h:Vals [x,y] us):∃u v,us=[u,v]/\RelV x u/\RelV y v:=by
 cases h with|cons r t=>obtain⟨v,rfl,q⟩:=Vals.one t;exact⟨_,_,rfl,r,q⟩
def Vals.zero:∀{us:List Value},Vals [] us->us=[]
 |_,.nil=>rfl
def Vals.dropLast{xs:List V}{us:List Value}(h:Vals xs us):Vals xs.dropLast us.dropLast:=by
 induction h with
 |nil=>exact .nil
 |cons r t ih=>
  cases t with
  |nil=>exact .nil
  |cons q t'=>exact .cons r ih
def Vals.eraseIdx:∀{xs:List V}{us:List Value}(i:Nat),Vals xs us->Vals (xs.eraseIdx i) (us.eraseIdx i)
 |_,_,_,.nil=>.nil
 |_,_,0,.cons _ t=>t
 |_,_,i+1,.cons r t=>.cons r (Vals.eraseIdx i t)
def Vals.rep{xs:List V}{us:List Value}(h:Vals xs us):∀k:Nat,Vals (Am k xs).flatten (Am k us).flatten
 |0=>.nil
 |k+1=>by
  rw[List.replicate_succ,List.replicate_succ,List.flatten_cons,List.flatten_cons];exact Vals.append h (Vals.rep h k)
def Oe{c:Type}(l:List c):l.eraseIdx (l.length-1)=l.dropLast:=by
 induction l with
 |nil=>rfl
 |cons a r ih=>
  cases r with
  |nil=>rfl
  |cons b r=>
   have e:(a::b::r).length-1=((b::r).length-1)+1:=by
    have h1:(a::b::r).length=r.length+2:=rfl;have h2:(b::r).length=r.length+1:=rfl;(first|lia|omega)
   rw[e,List.eraseIdx_cons_succ,ih]
   all_goals rfl
def foldl_rep(a:List Value):∀(k:Nat)(acc:List Value),
  List.foldl (fun x1 x2=>x1++x2) acc.toArray (Am k a.toArray)=(acc++(Am k a).flatten).toArray
 |0,acc=>by simp
 |k+1,acc=>by
  have e:acc.toArray++a.toArray=(acc++a).toArray:=by simp
  have e2:(acc++a)++(Am k a).flatten=acc++(Am (k+1) a).flatten:=by
   rw[List.replicate_succ,List.flatten_cons,List.append_assoc]
  rw[<-e2,<-foldl_rep a k (acc++a),<-e,List.replicate_succ,List.foldl_cons]
section
variable{X:Cx}{aa:Ψ}{σ:St}{H:Hp}{s:Shared}{l b:Addr}{xs ys zs:List V}
def Inv.lset{a its':List Value}{n:Nat}{f:Array Value->Array Value}{t':Nat}(I:Inv X aa σ H s)(b:H l=some (.lst xs))(e:s.heap.get? l=some {cls:=.type "list",data:=.seq a.toArray n})(c:f a.toArray=its'.toArray)(d:Vals ys its')(hz:ys.length<=sizeLine):Inv X aa σ (upd H l (.lst ys)) {s with heap:=s.heap.update l (Obj.mapSeq f),toks:=t'}:=by
 have q:=PySem.IsL.update e f;rw[c] at q;refine I.write (x:=l) (e:=l) (by rw[b];exact trivial) (.inl rfl) (fun b' u hb hu=>(Heap.get?_update_other s.heap (Obj.mapSeq f) (Ne.symm hb)).trans hu) ⟨_,q⟩ ?_;exact⟨hz,its',_,d,q⟩
def Inv.lnew{a:List Value}{t':Nat}(I:Inv X aa σ H s)(b:Vals ys a)(hz:ys.length<=sizeLine):Inv X aa σ (upd H s⁻¹ (.lst ys)) {s with heap:=s.heap.push {cls:=.type "list",data:=.seq a.toArray},toks:=t'}:=
 I.laid (fun _ _ q=>Ai _ q) (Af _) ⟨hz,a,0,b,AG _ rfl⟩
def Inv.fresh(I:Inv X aa σ H s):H s⁻¹=none:=I.hok.fresh (Af _)
def Inv.lstM(I:Inv X aa σ H s)(b:H l=some (.lst xs)):xs.length<=sizeLine/\∃(a:List Value)(n:Nat),Vals xs a/\xs.length=a.length/\s.heap.get? l=some {cls:=.type "list",data:=.seq a.toArray n}:=by
 obtain⟨z,a,n,r,e⟩:=I.hok l _ b;exact⟨z,a,n,r,r.length,e⟩
def Of{n:Nat}(h:n<=sizeLine):Builtin.List.listTooLong n=false:=by
 unfold Builtin.List.listTooLong;exact decide_eq_false ω
end
section
variable{X:Cx}
def zmA:V->List V->Hp->VK->Prop:=fun x vs H Q=>∃l xs y,x=.ref l/\vs=[y]/\H l=some (.lst xs)/\xs.length<sizeLine/\Q .non (upd H l (.lst (xs++[y])))
def Dl:rx X "list.append" zmA:=by
 intro aa s σ H x vs v us Q I c d h;obtain⟨l,xs,y,rfl,rfl,a,hz,q⟩:=h;cases c;obtain⟨u,rfl,f⟩:=d.one;obtain⟨z,b,n,r,g,e⟩:=I.lstM a;refine call_meets F.slot_list_append ⟨_,e,rfl⟩ F.entry_list_append (F.args_list_append_2 _ _) (PySem.list_append l b.toArray n u (by rw[At];(first|lia|omega))) ⟨e,?_⟩;refine⟨.non,_,I.lset (its':=b++[u]) a e (by simp) (r.append (.cons f .nil)) ?_,rfl,q⟩;rw[AJ,List.length_singleton];(first|lia|omega)
def rPop:V->List V->Hp->VK->Prop:=fun x vs H Q=>∃l xs y,x=.ref l/\vs=[]/\H l=some (.lst xs)/\xs[xs.length-1]?=some y/\Q y (upd H l (.lst xs.dropLast))
def Og:rx X "list.pop" rPop:=by
 intro aa s σ H x vs v us Q I c d h;obtain⟨l,xs,y,rfl,rfl,b,hy,q⟩:=h;cases c;have i:=d.zero;subst i;obtain⟨z,a,n,r,f,e⟩:=I.lstM b;obtain⟨u,hu,g⟩:=r.get hy;have j:a.toArray[a.toArray.size-1]?=some u:=by
  show a.toArray[a.length-1]?=some u;rw[<-Array.getElem?_toList,<-f];exact hu
 refine call_meets F.slot_list_pop ⟨_,e,rfl⟩ F.entry_list_pop (F.args_list_pop_1 _) (MeetsSeq.list_pop_last l a.toArray n u j (by rw[At];(first|lia|omega))) ⟨e,?_⟩;refine⟨y,_,I.lset (its':=a.dropLast) b e ?_ r.dropLast ?_,g,q⟩
 ·show a.toArray.eraseIdxIfInBounds (a.toArray.size-1)=a.dropLast.toArray
  rw[At,List.eraseIdxIfInBounds_toArray,Oe]
 ·rw[List.length_dropLast]
  (first|lia|omega)
def ry:R2:=fun x y H Q=>∃l b xs zs,x=.ref l/\y=.ref b/\H l=some (.lst xs)/\H b=some (.lst zs)/\xs.length+zs.length<=sizeLine/\∀p,H p=none->Q (.ref p) (upd H p (.lst (xs++zs)))
def J_:cI X (binaryOp .Add) ry:=by
 intro aa s σ H x y v u Q I d f h;obtain⟨l,b,xs,zs,rfl,rfl,g,i,hz,q⟩:=h;cases d;cases f;obtain⟨z,a,n,r,p,e⟩:=I.lstM g;obtain⟨w,c,n2,j,A,e2⟩:=I.lstM i;refine PySem.P.add_list e e2 ?_ (by rw[At,At];(first|lia|omega));have o:a.toArray++c.toArray=(a++c).toArray:=by simp
 rw[o];exact⟨.ref _,_,I.lnew (t':=s.toks) (r.append j) (by rw[AJ];(first|lia|omega)),rfl,q _ I.fresh⟩
def Hv:R2:=fun x y H Q=>∃l k xs,x=.ref l/\y=.int k/\H l=some (.lst xs)/\-(2 ^ 63)<=k/\k<2 ^ 63/\xs.length*k.toNat<=sizeLine/\
 ∀p,H p=none->Q (.ref p) (upd H p (.lst (Am k.toNat xs).flatten))
def len_rep{a:Type}(xs:List a)(k:Nat):(Am k xs).flatten.length=k*xs.length:=by
 induction k with
 |zero=>simp
 |succ k ih=>rw[List.replicate_succ,List.flatten_cons,AJ,ih,Nat.succ_mul,Nat.add_comm]
def Hw:cI X (binaryOp .Mult) Hv:=by
 intro aa s σ H x y v u Q I i j h;obtain⟨l,k,xs,rfl,rfl,o,h1,h2,hz,q⟩:=h;cases i;obtain⟨t,rfl⟩:=j;obtain⟨z,b,n,r,p,e⟩:=I.lstM o;have w:b.toArray.size*k.toNat<=sizeLine:=by rw[At,<-p];exact hz
 have d:¬b.toArray.size*k.toNat>(2 ^ 63-1) / 8:=by
  have:(sizeLine:Nat)<=(2 ^ 63-1) / 8:=ξ
  (first|lia|omega)
 have f:¬(!Builtin.List.listFitsIndex k)=true:=by
  rw[fitsIndex_both h1 h2];exact Av
 have c:¬Builtin.List.listTooLong (b.toArray.size*k.toNat)=true:=by
  rw[Of w];exact Av
 have g:List.foldl (fun x1 x2=>x1++x2) #[] (Am (if b.toArray.isEmpty=true then 0 else k.toNat) b.toArray)=(Am k.toNat b).flatten.toArray:=by
  have A:∀m:Nat,List.foldl (fun x1 x2=>x1++x2) #[] (Am m b.toArray)=(Am m b).flatten.toArray:=fun m=>by
   have:=foldl_rep b m [];rw[List.nil_append] at this;exact this
  rw[A];cases b with
  |nil=>simp
  |cons a r'=>rw[if_neg (by simp)]
 refine wpAny_binaryOp_repeat_ref (T:="list") (U:="int") ξ ⟨_,e,rfl⟩ (fun s'=>typeIs_int s' k t) noFill_list_mul F.fills_int_mul F.slot_int_rmul repeat_list F.slot_int_index.lookup
  (call_meets F.slot_int_rmul (typeIs_int s k t) F.entry_int_rmul (F.args_int_rmul_2 _ _) (int___rmul___int_list k t l b.toArray n)
   ⟨e,rfl,⟨_,e,rfl⟩,call_meets F.slot_list_mul ⟨_,e,rfl⟩ F.entry_list_mul (F.args_list_mul_2 _ _) (AutoListH.list___mul___list_int_3 l b.toArray n k t f d c) ⟨e,?_⟩⟩)
 rw[g];exact⟨.ref _,_,I.lnew (t':=s.toks) (r.rep k.toNat) (by rw[len_rep,Nat.mul_comm];exact hz),rfl,q _ I.fresh⟩
end
section
variable{prog:Program}{w:World}{A:Around}{E:Ω}{s:Shared}
set_option maxRecDepth 100000 in
end
section
variable{κ:Type}[DecidableEq κ]
def b5(kvs:List (κ×V))(k:κ):Option V:=(kvs.find? fun a=>decide (a.1=k)).map (·.2)
def putK(kvs:List (κ×V))(k:κ)(v:V):List (κ×V):=
 if(kvs.any fun a=>decide (a.1=k))=true then kvs.map (fun a=>if a.1=k then(a.1,v) else a) else kvs++[(k,v)]
def Hx{p:κ×V}{r:List (κ×V)}{k:κ}(e:p.1=k):b5 (p::r) k=some p.2:=by simp[b5,List.find?_cons,e]
def Hy{p:κ×V}{r:List (κ×V)}{k:κ}(e:¬p.1=k):b5 (p::r) k=b5 r k:=by simp[b5,List.find?_cons,e]
def J'(k:κ):∀kvs:List (κ×V),(kvs.any fun a=>decide (a.1=k))=(b5 kvs k).isSome
 |[]=>rfl
 |p::r=>by
  rw[List.any_cons]
  by_cases e:p.1=k
  ·simp only[Hx e,decide_eq_true e,Bool.true_or,Option.isSome_some]
  ·rw[Hy e,decide_eq_false e,Bool.false_or];exact J' k r
def Ka(kvs:List (κ×V))(k:κ)(v:V):(putK kvs k v).length<=kvs.length+1:=by
 unfold putK;split
 ·rw[Aa];(first|lia|omega)
 ·rw[AJ,AH,List.length_nil];(first|lia|omega)
def RelO.isSome_eq{o:Option V}{u:Option Value}(r:RelO o u):o.isSome=u.isSome:=by
 cases o with
 |none=>cases u with
  |none=>rfl
  |some _=>exact(show False from r).elim
 |some _=>cases u with
  |none=>exact(show False from r).elim
  |some _=>rfl
def KV.val{kvs:List (κ×V)}{vs:List (κ×Value)}(r:KV kvs vs)(k:κ):RelO (b5 kvs k) (valueAt vs k):=by
 unfold KV at r
 induction r with
 |nil=>exact True.intro
 |@cons p q ps a h t d=>
  obtain⟨h1,h2⟩:=h
  by_cases e:p.1=k
  ·have c:q.1=k:=h1.symm.trans e
   have b:valueAt (q::a) k=some q.2:=by simp[valueAt,List.find?_cons,c]
   rw[Hx e,b];exact h2
  ·have c:¬q.1=k:=fun z=>e (h1.trans z)
   have b:valueAt (q::a) k=valueAt a k:=by simp[valueAt,List.find?_cons,c]
   rw[Hy e,b];exact d
def KV.any{kvs:List (κ×V)}{vs:List (κ×Value)}(r:KV kvs vs)(k:κ):(kvs.any fun a=>decide (a.1=k))=vs.any fun a=>decide (a.1=k):=by
 unfold KV at r
 induction r with
 |nil=>rfl
 |cons h t ih=>rw[List.any_cons,List.any_cons,ih,h.1]
def KV.repl{kvs:List (κ×V)}{vs:List (κ×Value)}(r:KV kvs vs)(k:κ){y:V}{u:Value}(b:RelV y u):KV (kvs.map fun a=>if a.1=k then(a.1,y) else a) (vs.map fun a=>if a.1=k then(a.1,u) else a):=by
 unfold KV at r ⊢
 induction r with
 |nil=>exact .nil
 |@cons p q ps qs h t ih=>
  rw[AV,AV];refine .cons ?_ ih;obtain⟨h1,h2⟩:=h
  by_cases e:p.1=k
  ·rw[if_pos e,if_pos (h1.symm.trans e)];exact⟨h1,b⟩
  ·rw[if_neg e,if_neg (fun z=>e (h1.trans z))];exact⟨h1,h2⟩
def KV.put{kvs:List (κ×V)}{vs:List (κ×Value)}(r:KV kvs vs)(k:κ){y:V}{u:Value}(a:RelV y u):KV (putK kvs k y) (stored vs k u):=by
 unfold putK stored;rw[r.any k]
 by_cases e:(vs.any fun b=>decide (b.1=k))=true
 ·rw[if_pos e,if_pos e];exact r.repl k a
 ·rw[if_neg e,if_neg e];exact Paired.snoc r ⟨rfl,a⟩
def KV.length{kvs:List (κ×V)}{vs:List (κ×Value)}(r:KV kvs vs):kvs.length=vs.length:=Paired.length r
end
def Dq{P:Program}{w:World}{k:Key}{u:Value}(r:RelV (kV k) u):(ea P w).is k u=true:=by
 cases k with
 |inl i=>obtain⟨t,e⟩:=(show ∃t,u=Value.int i t from r);subst e;exact Nw P w i t
 |inr x=>obtain⟨t,e⟩:=(show ∃t,u=Value.str x t from r);subst e;exact Nx P w x t
def Kb{P:Program}{w:World}:∀{ks:List Key}{us:List Value},Vals (ks.map kV) us->ItemsAre (ea P w) ks us
 |[],_,r=>by rw[List.map_nil] at r;cases r;exact .nil
 |k::ks,_,r=>by
  rw[AV] at r;cases r with
  |cons h t=>exact .cons (Dq h) (Kb t)
abbrev KT(H:Hp):List (List Key×V)->List (List Key×Addr×Value)->Prop:=Paired fun p q=>p.1=q.1/\H q.2.1=some (.tup (p.1.map kV))/\RelV p.2 q.2.2
def KT.val{H:Hp}{kvs:List (List Key×V)}{xs:List (List Key×Addr×Value)}(r:KT H kvs xs)(k:List Key):RelO (b5 kvs k) ((atKey xs k).map (·.2)):=by
 induction r with
 |nil=>exact True.intro
 |@cons p q ps a h t d=>
  obtain⟨h1,_,h2⟩:=h
  by_cases e:p.1=k
  ·have c:q.1=k:=h1.symm.trans e
   have b:atKey (q::a) k=some q.2:=by simp[atKey,List.find?_cons,c]
   rw[Hx e,b];exact h2
  ·have c:¬q.1=k:=fun z=>e (h1.trans z)
   have b:atKey (q::a) k=atKey a k:=by simp[atKey,List.find?_cons,c]
   rw[Hy e,b];exact d
def KT.repl{H:Hp}{kvs:List (List Key×V)}{xs:List (List Key×Addr×Value)}(r:KT H kvs xs)(k:List Key){y:V}{u:Value}(c:RelV y u):KT H (kvs.map fun a=>if a.1=k then(a.1,y) else a) (xs.map (putAt k u)):=by
 induction r with
 |nil=>exact .nil
 |@cons p q ps qs h t ih=>
  rw[AV,AV];refine .cons ?_ ih;obtain⟨h1,h2,b⟩:=h;unfold putAt
  by_cases e:p.1=k
  ·rw[if_pos e,if_pos (h1.symm.trans e)];exact⟨h1,h2,c⟩
  ·rw[if_neg e,if_neg (fun z=>e (h1.trans z))];exact⟨h1,h2,b⟩
def KT.put{H:Hp}{kvs:List (List Key×V)}{xs:List (List Key×Addr×Value)}(r:KT H kvs xs)(k:List Key){b:Addr}{y:V}{u:Value}(hb:H b=some (.tup (k.map kV)))(a:RelV y u):KT H (putK kvs k y) (storedH xs k b u):=by
 have e:(kvs.any fun c=>decide (c.1=k))=(atKey xs k).isSome:=by
  rw[J',(r.val k).isSome_eq,Option.isSome_map]
 unfold putK storedH;rw[e]
 by_cases q:(atKey xs k).isSome=true
 ·rw[if_pos q,if_pos q];exact r.repl k a
 ·rw[if_neg q,if_neg q];exact Paired.snoc r ⟨rfl,hb,a⟩
def KT.keeps{H H':Hp}{kvs:List (List Key×V)}{xs:List (List Key×Addr×Value)}(r:KT H kvs xs)(a:∀b ys,H b=some (.tup ys)->H' b=some (.tup ys)):KT H' kvs xs:=
 Paired.mapP r fun _ _ z=>⟨z.1,a _ _ z.2.1,z.2.2⟩
section
variable{P:Program}{w:World}{H:Hp}{h:Heap}{a:Addr}
def Kc{u:HO}(ok:HOk P w H h)(e:Rd H a u):zar P w H h a u:=e.ok ok
def Ds{kvs:List (Key×V)}(ok:HOk P w H h)(e:Rd H a (.dK kvs)):kvs.length<=sizeLine/\(a==sysModules)=false/\∃vs,KV kvs vs/\h.DictOf (ea P w) a vs:=
 show zar P w H h a (.dK kvs) from Kc ok e
def Kd{kvs:List (Key×V)}(ok:HOk P w H h)(e:H a=some (.dK kvs)):kvs.length<=sizeLine/\(a==sysModules)=false/\∃vs,KV kvs vs/\h.DictOf (ea P w) a vs:=Ds ok (.inl e)
def Dv{ks:List Key}(ok:HOk P w H h)(e:H a=some (.tup (ks.map kV))):(tupleKind (ea P w)).is h ks a:=by
 obtain⟨_,b,r,o,h1,h2,n,c⟩:=(show zar P w H h a (.tup (ks.map kV)) from ok a _ e);exact⟨o,b.toArray,n,h1,h2,c,by simpa using Kb r⟩
def DB{kvs:List (List Key×V)}(ok:HOk P w H h)(e:Rd H a (.dT kvs)):kvs.length<=sizeLine/\(a==sysModules)=false/\
  ∃xs,KT H kvs xs/\h.DictOfH (tupleKind (ea P w)) a xs:=by
 obtain⟨z,y,xs,r,o,es,ep,h1,h2,b,c,d⟩:=(show zar P w H h a (.dT kvs) from Kc ok e);refine⟨z,y,xs,r,o,es,ep,h1,h2,b,c,fun x hx=>?_,d⟩;have all:∀{l:List (List Key×V)}{m:List (List Key×Addr×Value)},KT H l m->∀x∈m,(tupleKind (ea P w)).is h x.1 x.2.1:=by
  intro l m q
  induction q with
  |nil=>intro x hx;exact nomatch hx
  |@cons p q ps qs hq t ih=>
   intro x hx;rcases List.mem_cons.mp hx with e|hx
   ·subst e
    exact Dv ok (by rw[<-hq.1];exact hq.2.1)
   ·exact ih x hx
 exact all r x hx
def Oh{kvs:List (List Key×V)}(ok:HOk P w H h)(e:H a=some (.dT kvs)):kvs.length<=sizeLine/\(a==sysModules)=false/\
  ∃xs,KT H kvs xs/\h.DictOfH (tupleKind (ea P w)) a xs:=DB ok (.inl e)
end
def DGet(H:Hp)(a:Addr)(y:V)(r:Option V):Prop:=
 (∃kvs k,Rd H a (.dK kvs)/\y=kV k/\r=b5 kvs k)\/∃kvs k b,Rd H a (.dT kvs)/\y=.ref b/\H b=some (.tup (k.map kV))/\r=b5 kvs k
def DPut(H:Hp)(a:Addr)(y v:V)(H':Hp):Prop:=
 (∃kvs k,H a=some (.dK kvs)/\y=kV k/\kvs.length<sizeLine/\H'=upd H a (.dK (putK kvs k v))) \/
 ∃kvs k b,H a=some (.dT kvs)/\y=.ref b/\H b=some (.tup (k.map kV))/\kvs.length<sizeLine/\H'=upd H a (.dT (putK kvs k v))
def DGet.k{H:Hp}{a:Addr}{kvs:List (Key×V)}{k:Key}(e:H a=some (.dK kvs)):DGet H a (kV k) (b5 kvs k):=.inl ⟨kvs,k,.inl e,rfl,rfl⟩
def DGet.t{H:Hp}{a b:Addr}{kvs:List (List Key×V)}{k:List Key}(e:H a=some (.dT kvs))(c:H b=some (.tup (k.map kV))):DGet H a (.ref b) (b5 kvs k):=.inr ⟨kvs,k,b,.inl e,rfl,c,rfl⟩
def DPut.k{H:Hp}{a:Addr}{kvs:List (Key×V)}{k:Key}{v:V}(e:H a=some (.dK kvs))(b:kvs.length<sizeLine):DPut H a (kV k) v (upd H a (.dK (putK kvs k v))):=.inl ⟨kvs,k,e,rfl,b,rfl⟩
def DPut.t{H:Hp}{a b:Addr}{kvs:List (List Key×V)}{k:List Key}{v:V}(e:H a=some (.dT kvs))(c:H b=some (.tup (k.map kV)))(d:kvs.length<sizeLine):DPut H a (.ref b) v (upd H a (.dT (putK kvs k v))):=.inr ⟨kvs,k,b,e,rfl,c,d,rfl⟩
section
variable{X:Cx}{aa:Ψ}{σ:St}{H:Hp}{s:Shared}{a:Addr}{y v:V}{u r:Value}{o:Option V}{A:Around}{E:Ω}
def Inv.big(I:Inv X aa σ H s):sysModules<s⁻¹:=by
 have h:mainGlobals<s⁻¹:=(I.mod.glob.keeps I.bk).lt;exact Nat.lt_trans ξ h
def Oi{Q:Ω}(hu:A.units+1<cLine)(I:Inv X aa σ H s)(g:DGet H a y (some v))(j:RelV y u)(h:∀c s',Inv X aa σ H s'->RelV v c->Q c s'):wpAny (model X.prog X.w) A (getItem (.ref a) u) Q E s:=by
 rcases g with ⟨kvs,k,e,d,l⟩|⟨kvs,k,b,e,d,q,l⟩
 ·subst d
  obtain⟨z,hd,vs,f,dd⟩:=Ds I.hok e;obtain⟨c,hw,i⟩:=RelO.some_of (v:=v) (o:=valueAt vs k) (by rw[l];exact f.val k);exact wpAny_getItem_of (Dq j) dd.mapOf hw (h c _ (I.tok _) i)
 ·subst d
  cases(show u=Value.ref b from j);obtain⟨z,hd,xs,f,dd⟩:=DB I.hok e;obtain⟨c,hw,i⟩:=RelO.some_of (v:=v) (o:=(atKey xs k).map (·.2)) (by rw[l];exact f.val k);obtain⟨p,hp,r⟩:=Option.map_eq_some_iff.mp hw;refine wpAny_getItem_heap (tupleKind_room_in1 hu) (Dv I.hok q) dd hp ?_;rw[r];exact h c _ (I.tok _) i
def Hz{Q:Ω}(hu:A.units+1<cLine)(I:Inv X aa σ H s)(g:DGet H a y o)(f:RelV y u)(h:∀s',Inv X aa σ H s'->Q (.bool o.isSome) s'):wpAny (model X.prog X.w) A (compareOp .In u (.ref a)) Q E s:=by
 rcases g with ⟨kvs,k,e,c,l⟩|⟨kvs,k,b,e,c,i,l⟩
 ·subst c
  obtain⟨z,hd,vs,d,dd⟩:=Ds I.hok e;refine wpAny_in_of (Dq f) hd dd.mapOf ?_;rw[<-(d.val k).isSome_eq,<-l];exact h _ (I.tok _)
 ·subst c
  cases(show u=Value.ref b from f);obtain⟨z,hd,xs,d,dd⟩:=DB I.hok e;refine wpAny_in_heap (tupleKind_room_in1 hu) (Dv I.hok i) hd dd ?_;have q:=(d.val k).isSome_eq;rw[Option.isSome_map] at q;rw[<-q,<-l];exact h _ (I.tok _)
def Ke{h':Heap}{t':Nat}{c:HO}(I:Inv X aa σ H s)(mu:qi (H a))(d:Heap.SameBut a s.heap h')(f:∃q,h'.get? a=some q)(new:zar X.prog X.w (upd H a c) h' a c):Inv X aa σ (upd H a c) {s with heap:=h',toks:=t'}:=
 I.write (x:=a) (e:=a) mu (.inl rfl) (fun b q hb z=>(d.2 b hb).trans z) f new
def dk_new{P:Program}{w:World}{H':Hp}{h':Heap}{kvs:List (Key×V)}{vs:List (Key×Value)}(z:kvs.length<=sizeLine)(hd:(a==sysModules)=false)(b:KV kvs vs)(dd:h'.DictOf (ea P w) a vs):zar P w H' h' a (.dK kvs):=⟨z,hd,vs,b,dd⟩
def Oj{H':Hp}{Q:Unit->Shared->Prop}(hu:A.units+1<cLine)(I:Inv X aa σ H s)(g:DPut H a y v H')(F:RelV y u)(x:RelV v r)(h:∀s',Inv X aa σ H' s'->Q () s'):wpAny (model X.prog X.w) A (setItem (.ref a) u r) Q E s:=by
 rcases g with ⟨kvs,k,e,o,l,p⟩|⟨kvs,k,b,e,o,C,l,p⟩
 ·subst o p
  obtain⟨z,hd,vs,d,dd⟩:=Kd I.hok e;have hz:vs.length<=sizeLine:=by rw[<-d.length];exact z
  have j:(putK kvs k v).length<=sizeLine:=by have:=Ka kvs k v;(first|lia|omega)
  refine wpAny_setItem_pairs (hsz:=hz) (Dq F) dd fun h' f i=>h _ ?_;have G:∃q,h'.get? a=some q:=let ⟨q,_,_,hq,_⟩:=f;⟨q,hq⟩;exact Ke I (by rw[e];exact True.intro) i G (dk_new j hd (d.put k x) f)
 ·subst o p
  cases(show u=Value.ref b from F);obtain⟨z,hd,xs,d,dd⟩:=Oh I.hok e;have hz:xs.length<=sizeLine:=by rw[<-Paired.length d];exact z
  have j:(putK kvs k v).length<=sizeLine:=by have:=Ka kvs k v;(first|lia|omega)
  refine wpAny_setItem_heap (hsz:=hz) (tupleKind_room_in1 hu) (Dv I.hok C) dd fun h' f i=>h _ ?_;obtain⟨q,es,ep,hq,h2,J,L,_,M⟩:=f;refine Ke I (by rw[e];exact True.intro) i ⟨q,hq⟩ ⟨j,hd,_,(d.put k C x).keeps fun c ys D=>?_,q,es,ep,hq,h2,J,L,M⟩;rw[aq (GZ D e (fun z=>nomatch z))];exact D
end
def rF(i:Expr):Prop:=∀a b,subscripted i false a b=operate [a,b] (getItem a b)
def Ol{prog:Program}{w:World}{A:Around}{E:Ω}{s:Shared}{env:Env}{aE slice:Expr}{pos:Pos}{T id:String}{Q:Ω}(j:typeLookup (.type T) "__getitem__"=pure (some (.builtin id)))(l:rF slice)(h:wpAny (model prog w) A (eval aE env) (fun o c=>wpAny (model prog w) A (eval slice env) (fun i a=>a.TypeIs o T/\wpAny (model prog w) A (getItem o i) Q E a) E c) E s):wpAny (model prog w) A (eval (.Subscript aE slice pos) env) Q E s:=by
 refine Subscript_ (wpAny_mono h (fun o c f=>wpAny_mono f (fun i a b=>?_) fun _ _ x=>x) fun _ _ x=>x);obtain⟨e,b⟩:=b;unfold subscriptTail;refine Ae ?_;rw[getitemInPython_of_ne e.not_modules];refine Ae (wpAny_specialOf e j ?_);have fin:wpAny (model prog w) A (subscripted slice false o i) (fun r d=>wpAny (model prog w) A (letTemporaryGo aE o r >>= fun _=>pure r) Q E d) E a:=by
  rw[l o i];exact wpAny_operating (wpAny_mono b (fun r d g=>Ae (wpAny_letTemporaryGo (Ap g))) fun _ _ x=>x)
 first
  |exact Ap (Ae fin)
  |exact Ae (Ap (Ae fin))
  |exact Ae fin
def Om{X:Cx}{aa:Ψ}{σ:St}{H:Hp}{s:Shared}{a:Addr}{y:V}{o:Option V}(I:Inv X aa σ H s)(g:DGet H a y o):s.TypeIs (.ref a) "dict":=by
 rcases g with ⟨kvs,k,e,_,_⟩|⟨kvs,k,b,e,_,_,_⟩
 ·obtain⟨_,_,vs,_,dd⟩:=Ds I.hok e
  exact dd.typeIs
 ·obtain⟨_,_,xs,_,dd⟩:=DB I.hok e
  exact dd.typeIs
def On(td ty:TE):TE:=fun σ H Q=>td σ H fun x H1=>ty σ H1 fun y H2=>∃a v,x=.ref a/\DGet H2 a y (some v)/\Q v H2
def HE(ty td:TE):TE:=fun σ H Q=>ty σ H fun y H1=>td σ H1 fun x H2=>∃a o,x=.ref a/\DGet H2 a y o/\Q (.bl o.isSome) H2
def Oo(td ty tv:TE):TS:=fun D σ H=>tv σ H fun v H1=>td σ H1 fun x H2=>ty σ H2 fun y c=>∃a b,x=.ref a/\DPut c a y v b/\D.nx σ b
section
variable{X:Cx}{o i e aE:Expr}{pos aF cT:Pos}{td ty tv:TE}
def la(hu:X.A.units+1<cLine)(p:PE X o td)(hi:PE X i ty)(q:rF i):PE X (.Subscript o i pos) (On td ty):=by
 intro aa s σ H Q I h;refine Ol PySem.F.slot_dict_getitem.lookup q (aX (p aa s σ H _ I h) fun u c ⟨x,H1,r,d,e⟩=>aX (hi aa c σ H1 _ r e) fun z C ⟨y,H2,b,f,a,v,ex,g,j⟩=>?_);subst ex;obtain rfl:u=Value.ref a:=d;exact⟨Om b g,Oi hu b g f fun D E w l=>⟨v,H2,w,l,j⟩⟩
def Op(hu:X.A.units+1<cLine)(hi:PE X i ty)(l:PE X o td):PC X .In i o (HE ty td):=by
 intro aa s σ H Q I h;refine aX (hi aa s σ H _ I h) fun v b ⟨y,H1,p,c,d⟩=>aX (l aa b σ H1 _ p d) fun u w ⟨x,H2,q,e,a,f,ex,g,j⟩=>?_;subst ex;obtain rfl:u=Value.ref a:=e;exact Hz hu q g c fun z r=>⟨.bl f.isSome,H2,r,rfl,j⟩
def HF(hu:X.A.units+1<cLine)(q:PE X o td)(hi:PE X i ty)(w:PE X aE tv)(z:swapsWith aE (some (.Subscript o i aF)) pos.line X.env=pure false):PS X (.Assign [.Subscript o i aF] aE pos) (Oo td ty tv):=by
 intro aa s σ H D I h;refine wpAny_Assign_Subscript (aX (w aa s σ H _ I h) fun r b ⟨v,H1,C,c,d⟩=>aX (q aa b σ H1 _ C d) fun u e ⟨x,H2,E,f,j⟩=>aX (hi aa e σ H2 _ E j) fun L M ⟨y,O,F,l,a,G,ex,g,p⟩=>?_) z;subst ex;obtain rfl:u=Value.ref a:=f;exact Oj hu F g l c fun N J=>⟨σ,G,J,p⟩
end
def Oq{P:Program}{w:World}{H:Hp}(h:Heap)(hb:sysModules<h.objs.size):zar P w H (h.push {cls:=.type "dict",data:=.dict #[]}) h.objs.size (.dK []):=
 ⟨Ar _,beq_eq_false_iff_ne.mpr (Ne.symm (Az hb)),[],.nil,Heap.DictOf.new h⟩
def Os:TE:=fun _ H Q=>∀p,H p=none->Q (.ref p) (upd H p (.dK []))
section
variable{X:Cx}{pos:Pos}
def Ot:PE X (.Dict [] [] pos) Os:=fun aa s σ H Q I h=>
 wpAny_Dict_empty ⟨.ref s⁻¹,_,I.laid (a:=s⁻¹) (o:=.dK []) (t':=s.toks) (fun _ _ q=>Ai _ q) (Af _) (Oq s.heap I.big),rfl,h _ (I.hok.fresh (Af _))⟩
end
structure M1(X:Cx)(o:Expr)(m:Str)(bD:Pos)(e:Expr)(aA:Pos):Prop where
 base:attributeBase o m X.env (eval o X.env)=eval o X.env
 few:((backTo aA (starEach [e] X.env)).all (fun x=>!x.1)&&(backToKw aA (keywordEach [] X.env)).all (fun x=>x.1.isSome)
  && decide (([e]:List Expr).length+([]:List Keyword).length+(if([]:List Keyword).isEmpty then 0 else 1)<30))=true
 line:(bD.endLine==aA.line)=true
 trees:backTo aA (starEach [e] X.env)=[(false,eval e X.env)]
structure M2(X:Cx)(o:Expr)(m:Str)(bD:Pos)(e f:Expr)(aA:Pos):Prop where
 base:attributeBase o m X.env (eval o X.env)=eval o X.env
 few:((backTo aA (starEach [e,f] X.env)).all (fun x=>!x.1)&&(backToKw aA (keywordEach [] X.env)).all (fun x=>x.1.isSome)
  && decide (([e,f]:List Expr).length+([]:List Keyword).length+(if([]:List Keyword).isEmpty then 0 else 1)<30))=true
 line:(bD.endLine==aA.line)=true
 trees:backTo aA (starEach [e,f] X.env)=[(false,eval e X.env),(false,eval f X.env)]
def IsD(H:Hp)(a:Addr):Prop:=(∃kvs,Rd H a (.dK kvs))\/∃kvs,Rd H a (.dT kvs)
end L2
namespace Att
open PySem PySem.W PySem.Calls PyProof.Rows
def Ou{P:Params}{h:Heap}:∀(ns:List Int)(vs:List Value),WellAll P h vs (ns.map WData.int)->IntsAre vs ns:=by
 intro ns
 induction ns with
 |nil=>
  intro vs w;rw[List.map_nil] at w;cases w;exact .nil
 |cons n ns ih=>
  intro vs w;rw[AV] at w;cases w with
  |cons a b=>
   cases a;exact .cons _ _ (ih _ b)
def Ov{l:OpenLaw}{n:Nat}(p:l.most=some n){P:Params}{h:Heap}{args:List WData}{f:List Value}(g:l.row.toRowW.claim.pre args=true)(s:WellAll P h f args):∃a vs ns,f=[Value.ref a]/\args=[WData.list (ns.map WData.int)]/\h.get? a=some {cls:=.type "list",data:=.seq vs.toArray}/\IntsAre vs ns/\ns.length<=n:=by
 have e:WShape.hasAll [] args [.list .int]=true:=(pre_splitW g).1;have hc:l.pre.holds [] {args:=args}=true:=(pre_splitW g).2;obtain⟨d,r,rfl,h1,h2⟩:=hasAllW_cons e;obtain rfl:=hasAllW_nil h2;obtain⟨xs,rfl,i⟩:=hasW_list h1;obtain⟨ns,rfl⟩:=items_int i;have j:ns.length<=n:=by
  unfold OpenLaw.pre at hc;have b:(WTm.not (.lt (.lit (.int (n:Int))) (.len (.arg 0)))).holds [] {args:=[.list (ns.map .int)]}=true:=by
   have b:=(holds_andW hc).1;rw[p] at b;exact b
  have c:=condW_of b (w_not (w_lt w_lit (w_len_list (w_arg rfl))));rw[Aa] at c;refine Nat.le_of_not_lt fun q=>?_;have o:(n:Int)<((ns.length:Nat):Int):=ω
  first
   |(rw[decide_eq_true o] at c;exact absurd c ξ)
   |(simp at c;(first|lia|omega))
 cases s with
 |cons w1 w2=>
  cases w2;cases w1 with
  |list ho hall=>exact⟨_,_,ns,rfl,rfl,ho,Ou ns _ hall,j⟩
def Ow(l:OpenLaw)(args:List WData):l.row.toRowW.claim.post args (.bool true) args=true:=
 postW_of (r:=l.row.toRowW) (X:=(true==true))
  (show WShape.has [] (.bool true) .bool=true by first|rfl|decide|simp[WShape.has,WShape.arms,WShape.armsAll])
  (show(WTm.eq .res (.lit (.bool true))).value [] {args:=args,res:=some (.bool true),after:=args}=some (.bool (true==true)) from w_eq_bool (w_res rfl) w_lit) rfl
def Ox{l:OpenLaw}{n:Nat}{q:Program}{j:List Str}{p:(Str->Option Value)->Heap->Prop}{s:World->Heap->Prop}{d:DefRec}(J:l.most=some n)(L:d.params.defaults=[])(call:∀(w:World)(s₀ b:Shared)(mg e:Str->Option Value)(fa:Addr)(o:Obj)(g c h:Value)(a:Addr)(vs:List Value)(ns:List Int),
   Ground q j [] p w s₀ mg e b.heap->s w b.heap->
   b.heap.get? fa=some o->o.data=.func (docDef d.name d.params d.body d.scope g c h)->b.heap.CodeRec c d.name->mg d.name=some (.ref fa)->
   b.heap.get? a=some {cls:=.type "list",data:=.seq vs.toArray}->IntsAre vs ns->ns.length<=n->b.gens=#[]->
   codeAny (model l.prog w) callerA (.call (.ref fa) ⟨[.ref a],[]⟩) (fun r s'=>r=.ok (.ret (.bool true))/\OldK b.heap s'.heap/\s'.os=b.os/\AllBare s'.gens) b):
  WalkO q j p s l.row.toRowW d [] (fun f vs=>PySem.call f vs):=by
 intro w s₀ b mg e G Y fa o g c h u kV v hd x i y hg args M N z O Q A P;obtain rfl:u=.none:=Dflts.none i L;obtain rfl:kV=.none:=Dflts.noKw i;obtain⟨a,vs,ns,rfl,rfl,D,E,F⟩:=Ov J z A;refine enter_call (codeAny_mono (call w s₀ b mg e fa o g c h a vs ns G Y v (fd_plain hd) x y D E F hg) fun r s' hq=>?_);obtain⟨rfl,h2,H,I⟩:=hq;exact⟨.inl ⟨.bool true,.bool true,[],rfl,fun _=>rfl,.bool true,Ow l _,fun _=>⟨List.Pairwise.nil,fun _ C=>(nomatch C)⟩⟩,h2,H,I⟩
end Att
namespace L2
open PySem PySem.Spec PyProof.Rows
def Kf:∀{vs:List Value}{ns:List Int},IntsAre vs ns->Vals (ns.map V.int) vs
 |_,_,.nil=>.nil
 |_,_,.cons n t h=>.cons ⟨t,rfl⟩ (Kf h)
def lh(H:Hp):Prop:=∀b,H b=none\/∃o xs,H b=some (.frz o (.lst xs))
def Oy{P:Program}{w:World}{K:Ab}{mg y:Str->Option Value}{CX:ew}{k:Nat}{fa a:Addr}{fd:FuncData}{x:Str}{sp:Sp}{c:Shared}{vs:List Value}{ns:List Int}(M:K.In c.heap)(J:c.heap.Ns mainGlobals mg)(hb:c.heap.Ns builtinsNs y)(yC:∀x:Str,x≠"__name__"->y x=A9 x)(oH:c.heap.NoLimit)(hg:c.gens=#[])(l:c.heap.get? a=some {cls:=.type "list",data:=.seq vs.toArray})(hi:IntsAre vs ns)(L:ns.length<=sizeLine)(hr:Room k callerA)(F:∀base:Heap,K.In base->base.Ns mainGlobals mg->FnOk P w K mg base CX k fa fd [x] sp)(jk:∀(s:Shared)(u:Value),BindsTo s fd ⟨[u],[]⟩ [(x,u)])(cN:∀H:Hp,lh H->SqL K H a (ns.map V.int)->sp [.ref a] H (fun v _=>v=.bl true) fun _ _ _=>False)(lJ:∀H e s',CX [] H c (fun _ _ _=>False) e s'->False):codeAny (model P w) callerA (.call (.ref fa) ⟨[.ref a],[]⟩) (fun r s'=>r=.ok (.ret (.bool true))/\OldK c.heap s'.heap/\s'.os=c.os/\AllBare s'.gens) c:=by
 have D:=Kf hi;have U:=hi.length;have E:∀H:Hp,lh H->SqL K H a (ns.map V.int)->HOk P w H c.heap->(∀b,H b≠none->b=a)->(H a≠none->K.lookup a=none)->
   codeAny (model P w) callerA (.call (.ref fa) ⟨[.ref a],[]⟩) (fun r s'=>r=.ok (.ret (.bool true))/\OldK c.heap s'.heap/\s'.os=c.os/\AllBare s'.gens) c:=by
  intro H A N g C O;have G:∀{b:Addr}{o:Obj},c.heap.get? b=some o->H b=none->(dh c.heap H).get? b=some o:=fun e n=>Nz e n;have W:∀{b:Addr}{o:Obj}{es:Array DictEntry}{ep:Nat},c.heap.get? b=some o->o.data=.dict es ep->H b=none:=fun{b o es ep} e d=>by
   cases q:H b with
   |none=>rfl
   |some u=>
    have p:b=a:=C b (by rw[q];simp);subst p;rw[l] at e;cases e;have d':Data.seq vs.toArray _=Data.dict es ep:=d;cases d'
  have f:∀{b:Addr}{m:Str->Option Value},c.heap.Ns b m->(dh c.heap H).Ns b m:=fun{b m} ⟨o,es,ep,e,d,r⟩=>⟨o,es,ep,G e (W e d),d,r⟩;have I:K.In (dh c.heap H):=fun b o e=>G (M b o e) (by
   cases q:H b with
   |none=>rfl
   |some u=>
    have p:b=a:=C b (by rw[q];simp);subst p;rw[O (by rw[q];simp)] at e;cases e)
  have X:Mod K mg (dh c.heap H):=⟨I,f J,⟨y,f hb,yC⟩,let ⟨mc,h1,h2⟩:=oH;⟨mc,f h1,h2⟩⟩;have Y:Env0 P w K mg (dh c.heap H) callerA [] c H:=⟨rfl,X,fun b o e=>NA e,Nat.le_of_eq (Ny _ _),trivial,fun b hb=>absurd (show b∈([]:List Addr) from hb) (by simp),g,.of_eq hg⟩;refine codeAny_mono ((F _ I (f J)).run callerA [] c H ⟨[.ref a],[]⟩ [.ref a] [.ref a] _ _ hr Y (jk c (.ref a)) (.cons rfl .nil) (cN H A N)) fun r s' h=>?_;cases r with
  |error e=>exact(lJ H e s' h).elim
  |ok fl=>
   cases fl with
   |next=>exact False.elim h
   |brk=>exact False.elim h
   |cont=>exact False.elim h
   |ret u=>
    obtain⟨v,H',os,i,un,Q,S,q⟩:=h;have Z:v=.bl true:=q;subst Z;obtain rfl:u=Value.bool true:=S;refine⟨rfl,OldK.of_keep fun b o e=>?_,os,i⟩;cases q:H b with
    |none=>exact un.keep b o e q (by intro z;exact absurd (show b∈([]:List Addr) from z) (by simp)) (by simp)
    |some u=>
     rcases A b with z|⟨T,xs,z⟩
     ·rw[q] at z;cases z
     ·have z2:=un.frzs b T _ z
      obtain⟨e1,_⟩:=g b _ z;obtain⟨e2,_⟩:=Q b _ z2;rw[e] at e1;cases e1;exact e2
 cases hk:K.lookup a with
 |some o=>
  have e:=M a o hk;rw[l] at e;cases e;refine E (fun _=>none) (fun _=>.inl rfl) (.inr ⟨_,vs.toArray,_,hk,rfl,rfl,rfl,by rw[At,U];exact L,by simpa using D⟩) (fun b u z=>by have j:(none:Option HO)=some u:=z;cases j) (fun b z=>absurd rfl z) fun z=>absurd rfl z
 |none=>
  refine E (fun b=>if b=a then some (.frz {cls:=.type "list",data:=.seq vs.toArray} (.lst (ns.map V.int))) else none) (fun b=>?_) (.inl (.inr ⟨{cls:=.type "list",data:=.seq vs.toArray},if_pos rfl⟩)) (fun b u z=>?_) (fun b z=>?_) fun _=>hk
  ·by_cases hb:b=a
   ·exact .inr ⟨_,_,if_pos hb⟩
   ·exact .inl (if_neg hb)
  ·by_cases hb:b=a
   ·have j:=(if_pos hb).symm.trans z
    cases j;subst hb;exact⟨l,by rw[Aa];exact L,vs,_,D,l⟩
   ·have j:=(if_neg hb).symm.trans z
    cases j
  ·by_cases hb:b=a
   ·exact hb
   ·exact absurd (if_neg hb) z
def Kg{l:PySem.W.OpenLaw}{n k:Nat}{q:Program}{E:List Str}{P:(Str->Option Value)->Heap->Prop}{j:World->Heap->Prop}{d:DefRec}{K:Params->Ab}{CX:World->ew}{sp:World->Sp}{x:Str}(I:l.most=some n)(J:n<=sizeLine)(L:d.params.defaults=[])(hr:Room k callerA)(M:∀(w:World)(h:Heap),j w h->(K w.params).In h)(F:∀(w:World)(mg:Str->Option Value)(fa:Addr)(h:Heap),(K w.params).In h->h.Ns mainGlobals mg->mg d.name=some (.ref fa)->
   ∃fd:FuncData,(∀(s:Shared)(u:Value),BindsTo s fd ⟨[u],[]⟩ [(x,u)])/\
    ∀base:Heap,(K w.params).In base->base.Ns mainGlobals mg->FnOk l.prog w (K w.params) mg base (CX w) k fa fd [x] (sp w))
  (N:∀(w:World)(H:Hp)(a:Addr)(ns:List Int),ns.length<=n->lh H->SqL (K w.params) H a (ns.map V.int)->sp w [.ref a] H (fun v _=>v=.bl true) fun _ _ _=>False)
  (O:∀(w:World)(H:Hp)(s:Shared)(e:Value)(s':Shared),CX w [] H s (fun _ _ _=>False) e s'->False) :
  PySem.W.WalkO q E P j l.row.toRowW d [] (fun f vs=>PySem.call f vs):=by
 refine Att.Ox I L fun w s₀ p mg Q fa o S U X a vs ns G Y Z hd bT r y z c hg=>?_;have i:=M w _ Y;obtain⟨fd,hb,D⟩:=F w mg fa _ i G.T.g r;exact Oy i G.T.g G.T.b G.T.builtins G.T.nolimit hg y z (Ag c J) hr D hb (fun H A C=>N w H a ns c A C) fun H e s'=>O w H p e s'
end L2
/- THE LAST THEOREM (shape;LID,My.* are yours):
  My.Adr: a structure of fJ addresses that your layer names (classes,functions);My.Txt K t: a structure (Prop) of fJ equations over K;
  My.txt_mk:{K} {implicit addresses ..} (e1:nsIn K mainGlobals "law"=some (some (.ref f))) (e2:K.lookup f=some ⟨oc,od,.func (fnOf "law" "law" aZ aG scope dV kV aY pm an ah ct),sl⟩) (e3:codeIn K ah "law"=true) ..:∃t,My.Txt K t
set_option maxRecDepth 100000 in
set_option maxHeartbeats 0 in
theorem PySem.Challenge.cw_LID_holds:PySem.Challenge.rw_LID.Holds := by
 w_on;o_law;k_head;(case hw=>w_witness2)
 k_fill
 refine L2.Kg (l:=PySem.Challenge.rw_LID) (n:=63) (k:=40) (x:="script") (CX:=fun w=>..) (sp:=fun _=>My.sp_law) rfl ξ rfl ⟨rfl,ξ,ξ⟩ (fun w h Y=>PySem.W.kIn_of Y) ?F ?S ?C
 case F=>
  intro w mg fa h f G g;have T:∃t,My.Txt (L2.KOf f) t:=by
   dsimp only[L2.KOf]                          -- K must stand as «<heap const> w.params» for k_is
   refine' My.txt_mk ?e1 ?e2 ?e3 ..
   (case e1 => PySem.W.k_is)                    -- in e order: a name -> ac address -> ac object -> ac parts
   (case e2=>PySem.W.k_is)
   ..
  obtain⟨t,T⟩:=T;have i:=g.symm.trans (PySem.W.mg_of f G T.law);cases i                                       -- fa is e law's own address
  exact⟨_,fun s u => .of_eq rfl,fun base c d => My.law_fn T c d⟩     -- if «.of_eq rfl» comes too early: refine' ⟨_,?b,fun base c d => My.law_fn T c d⟩;exact fun s u => .of_eq rfl
 case S=>exact fun w H a ns j o p=>..
 case C=>exact ..
(e tactic k_is has no namespace: write k_is) -/
namespace L2
open PySem PySem.Spec PyProof.Rows
def zb2(s:Stmt):Arguments:=match s with
 |.FunctionDef _ a _ _ _ _ _ _ _ _=>a
 |_=>{posonlyargs:=[],args:=[],vararg:=none,kwonlyargs:=[],kw_defaults:=[],kwarg:=none,defaults:=[]}
def zax(s:Stmt):List Stmt:=match s with
 |.FunctionDef _ _ b _ _ _ _ _ _ _=>b
 |_=>[]
def zd(s:Stmt):Scope:=match s with
 |.FunctionDef _ _ _ _ _ _ sc _ _ _=>sc
 |_=>{kind:=.function,names:=[],isGenerator:=false,isCoroutine:=false}
abbrev aJ:ew:=fun _ _ _ _ _ _=>False
abbrev E0:XK:=fun _ _ _=>False
def ap{X:Cx}:cJ aJ X E0:=fun _ _ _ _ _ _ _ h=>h.elim
structure Fun(K:Ab)(x ag:Str)(st:Stmt)(f:Addr)(fd:FuncData):Prop where
 ex:∃(oc:Value)(od:Option Addr)(kV aY pm:Value)(an:Option Addr)(ah ct:Value)(de:Array (Option Value)),
  fd=PySem.W.fnOf x ag (zb2 st) (zax st) (zd st) .none kV aY pm an ah ct/\K.lookup f=some ⟨oc,od,.func fd,de⟩/\PySem.W.codeIn K ah ag=true
 kp:PySem.W.keepIn K (.ref f)=true
section
variable{P:Program}{w:World}{K:Ab}{mg:Str->Option Value}{base:Heap}
def Fun.ok{x b:Str}{st:Stmt}{f:Addr}{fd:FuncData}{N ps:List Str}{k:Nat}{sp:Sp}(F:Fun K x b st f fd)(S:zl N ps (zd st))(len:∀vs H Q E,sp vs H Q E->vs.length=ps.length)(e:∀(a:Value)(A:Around)(outer:List Env)(s:Shared)(H:Hp)(vs:List V)(Q:VK)(E:XK),Room k (A.deeper (envOfC b (zd st) s⁻¹ f a))->sp vs H Q E->
   ∃t,PSs (bQ aJ P w K mg base N b (zd st) f a A outer s H E).nox (zax st) t/\t {nx:=fun _ H'=>Q .non H',rt:=Q} (start N vs) H):FnOk P w K mg base aJ (k+1) f fd ps sp:=by
 obtain⟨g,i,kV,j,l,o,a,ct,p,rfl,lk,d⟩:=F.ex;refine J3 lk d S len fun A outer s H vs Q E hr c=>?_;obtain⟨t,h,q⟩:=e a A outer s H vs Q E hr c;exact⟨t,h.nox,q⟩
def Fun.binds{x e:Str}{st:Stmt}{f:Addr}{fd:FuncData}{ps:List Str}(F:Fun K x e st f fd)(h:∀(kV a b:Value)(c:Option Addr)(d ct:Value)(us:List Value),us.length=ps.length->bindArgs (PySem.W.fnOf x e (zb2 st) (zax st) (zd st) .none kV a b c d ct) ⟨us,[]⟩=pure (ps.zip us)):Binds K fd ps []:=by
 obtain⟨g,i,kV,a,b,c,d,ct,j,rfl,lk,l⟩:=F.ex;exact .all (h kV a b c d ct)
def Oz{x a:Str}{st:Stmt}{f:Addr}{i:Value}{j g:Option Addr}{h:Array (Option Value)}{kV d e b ct:Value}(l:K.lookup f=some ⟨i,j,.func (PySem.W.fnOf x a (zb2 st) (zax st) (zd st) .none kV d e g b ct),h⟩)(c:PySem.W.codeIn K b a=true)(k:PySem.W.keepIn K (.ref f)=true):Fun K x a st f (PySem.W.fnOf x a (zb2 st) (zax st) (zd st) .none kV d e g b ct):=⟨⟨i,j,kV,d,e,g,b,ct,h,rfl,l,c⟩,k⟩
end
def DC{A:Around}{k:Nat}(hr:Room k A):A.units+1<cLine:=Aq (Nat.add_le_add_left (by decide:1<=64) _) hr.units
section
variable{X:Cx}
def pv(i:Nat){x:Str}{pos:Pos}(a:X.N[i]?=some x:=by rfl)(b:qj X.env.scope x:=by first|exact Or.inl rfl|exact Or.inr (Or.inl rfl)|exact Or.inr (Or.inr rfl))(hd:(x==("__debug__":Str))=false:=by decide)
  (c:(x==("__classdict__":Str))=false:=by decide):PE X (.Name x pos) (aC i):=NB a b hd c
end
def av{A B:Prop}(h:B):if false=true then A else B:=by
 rw[if_neg Av];exact h
def aT{A B:Prop}(h:A):if true=true then A else B:=by
 rw[if_pos rfl];exact h
def jf{c A B:Prop}[Decidable c](h1:c->A)(h2:¬c->B):if c then A else B:=by
 by_cases h:c
 ·rw[if_pos h]
  exact h1 h
 ·rw[if_neg h]
  exact h2 h
def Same(H H':Hp):Prop:=∀b o,H b=some o->H' b=some o
def Same.refl(H:Hp):Same H H:=fun _ _ h=>h
def Same.trans{H H1 H2:Hp}(a:Same H H1)(b:Same H1 H2):Same H H2:=fun c o h=>b c o (a c o h)
def Same.free{H H':Hp}(e:Same H H'){l:Addr}(h:H' l=Option.none):H l=Option.none:=by
 cases q:H l with
 |none=>rfl
 |some o=>
  rw[e l o q] at h;cases h
def Same.seq{K:Ab}{H H':Hp}{a:Addr}{xs:List V}(e:Same H H')(h:SqL K H a xs):SqL K H' a xs:=by
 rcases h with (h|⟨o,h⟩)|h
 ·exact .inl (.inl (e _ _ h))
 ·exact .inl (.inr ⟨o,e _ _ h⟩)
 ·exact .inr h
def clOf(cells:List (Str×Addr)):List (Str×NameKind)->List (Str×Addr)->List (Str×Addr)
 |[],acc=>acc
 |(n,k)::r,acc=>if(k==.free)=true then clOf cells r ((n,(cells.lookup n).getD 0)::acc) else clOf cells r acc
def Kh{env:Env}:∀(names:List (Str×NameKind))(acc:List (Str×Addr)),(∀x∈names,x.2=.free->∃c,env.cells.lookup x.1=some c)-> (forIn names acc fun x(r:List (Str×Addr))=>if(x.2==.free)=true then do let c <-cellOf env x.1;pure (ForInStep.yield ((x.1,c)::r)) else pure (ForInStep.yield r):Sem (List (Str×Addr)))=pure (clOf env.cells names acc)
 |[],acc,_=>rfl
 |(n,k)::r,acc,h=>by
  rw[List.forIn_cons];have d:=fun a=>Kh (env:=env) r a fun x hx=>h x (AD _ hx);unfold clOf
  by_cases hk:(k==Bl)=true
  ·have b:k=.free:=by cases k<;>first|rfl|cases hk
   obtain⟨c,hc⟩:=h (n,k) AF b;simp only[hk,if_true];unfold cellOf;rw[hc];simp only[pure_bind,Option.getD_some];exact d _
  ·simp only[hk,Bool.false_eq_true,if_false,pure_bind]
   exact d _
def OA{scope:Scope}{env:Env}(h:∀x∈scope.names,x.2=.free->∃c,env.cells.lookup x.1=some c):closureFor scope env=pure (clOf env.cells scope.names []):=by
 rw[<-Kh scope.names [] h];unfold closureFor;simp
def HG{x:Str}{c:Addr}:∀{l:List (Str×Addr)},(x,c)∈l->∃d,l.lookup x=some d
 |[],h=>nomatch h
 |(y,d)::l,h=>by
  rw[Bi]
  by_cases e:x=y
  ·subst e;exact⟨d,by simp⟩
  ·have hb:(x==y)=false:=by simpa using e
   rw[hb];rcases List.mem_cons.mp h with q|q
   ·cases q;exact absurd rfl e
   ·exact HG q
def DR{cells:List (Str×Addr)}{x:Str}:∀{names:List (Str×NameKind)}{acc:List (Str×Addr)},((x,Bl)∈names\/∃c,(x,c)∈acc)->∃c,(x,c)∈clOf cells names acc
 |[],acc,h=>h.elim (fun q=>nomatch q) id
 |(n,k)::r,acc,h=>by
  unfold clOf
  by_cases hk:(k==Bl)=true
  ·rw[if_pos hk]
   refine DR ?_;rcases h with h|⟨c,h⟩
   ·rcases List.mem_cons.mp h with q|q
    ·cases q;exact .inr ⟨_,AF⟩
    ·exact .inl q
   ·exact .inr ⟨c,AD _ h⟩
  ·rw[if_neg hk]
   refine DR ?_;rcases h with h|h
   ·rcases List.mem_cons.mp h with q|q
    ·cases q;exact absurd rfl hk
    ·exact .inl q
   ·exact .inr h
def dR(X:Cx)(scope:Scope)(N:List Str)(a:List (Str×Addr))(C:Addr)(s₀:Shared)(H₀:Hp)(ex:List Addr):Cx where
 prog:=X.prog
 w:=X.w
 K:=X.K
 mg:=X.mg
 base:=X.base
 A:=X.A
 N:=N
 s₀:=s₀
 H₀:=H₀
 env:=compEnvC scope a C X.env
 outer:=X.stack
 stack:=X.stack
 ex:=ex
 fn:=fun _=>false
 calm:=X.calm
 pn:=X.pn
 xe:=fun _ _=>False
def iy(X:Cx)(aN:List Expr)(t:TT):Prop:=
 ∀(aa:Ψ)(s:Shared)(σ:St)(H:Hp)(Q:Bool->Hp->Prop),Inv X aa σ H s->t σ H Q->
  wpAny (model X.prog X.w) X.A (forIn aN true fun c r=>if r=true then do let ok <-isTrue c X.env (eval c X.env);pure (ForInStep.yield ok) else pure (ForInStep.yield r)) (TP X aa σ Q) X.xe s
def bR:TT:=fun _ H Q=>Q true H
def zz{X:Cx}:iy X [] bR:=fun _ _ _ H _ I h=>wpAny_tests_nil ⟨H,I,h⟩
def Ki{X:Cx}{c:Expr}{t:TT}(h:PT X c t):iy X [c] t:=fun aa s σ H Q I hw=>wpAny_tests_one (h aa s σ H Q I hw)
def rH(am:List (Option Nat))(σ:St):St:=am.map fun c=>match c with
 |none=>none
 |some j=>(σ[j]?).getD none
def cV(J:It)(g:TG)(tc:TT)(te:TE)(σ:St)(H1:Hp)(D:Addr)(Q:VK):Prop:=
 ∃W:Nat->Nat->St->Hp->Prop,(∃m,W 0 m σ (upd H1 D (.lst [])))/\
 ∀i m d H2,W i m d H2->(J.stop i H2/\Q (.ref D) H2)\/(J.go i H2/\∀x h,J.yld i H2 x h->g x d h fun c j=>tc c j fun b e=>
  if b=true then te c e fun y f=>∃ys a,f D=some (.lst ys)/\ys.length<sizeLine/\a<m/\W (i+1) a c (upd f D (.lst (ys++[y])))
  else ∃a,a<m/\W (i+1) a c e)
def lj(wi:TI)(am:List (Option Nat))(g:TG)(tc:TT)(te:TE):TE:=fun σ H Q=>wi σ H fun J H1=>∀D,H1 D=none->cV J g tc te (rH am σ) H1 D Q
def n7(N N':List Str)(am:List (Option Nat))(scope:Scope):Prop:=
 am.length=N'.length/\∀i j:Nat,am[i]?=some (some j)->∃x:Str,N'[i]?=some x/\N[j]?=some x/\scope.names.lookup x=some .free
def DS{cells:List (Str×Addr)}{x:Str}{c:Addr}:∀{names:List (Str×NameKind)}{acc:List (Str×Addr)},(∀y∈names,y.2=.free->∃d,cells.lookup y.1=some d)->(∀p∈acc,False)->(x,c)∈clOf cells names acc->cells.lookup x=some c/\(x,Bl)∈names:=by
 have i:∀{names:List (Str×NameKind)}{acc:List (Str×Addr)},(∀y∈names,y.2=.free->∃d,cells.lookup y.1=some d)->(x,c)∈clOf cells names acc->(x,c)∈acc\/(cells.lookup x=some c/\(x,Bl)∈names):=by
  intro names
  induction names with
  |nil=>intro acc _ h;exact .inl h
  |cons y r j=>
   intro acc e h;obtain⟨n,k⟩:=y;unfold clOf at h;have l:∀y∈r,y.2=.free->∃d,cells.lookup y.1=some d:=fun y hy=>e y (AD _ hy)
   by_cases hk:(k==Bl)=true
   ·have a:k=.free:=by cases k<;>first|rfl|cases hk
    obtain⟨d,hd⟩:=e (n,k) AF a;rw[if_pos hk] at h;rcases j l h with q|⟨f,g⟩
    ·rcases List.mem_cons.mp q with q|q
     ·refine .inr ⟨?_,?_⟩
      ·have b:cells.lookup n=some d:=hd
       rw[b] at q;cases q;exact b
      ·cases q
       rw[a];exact AF
     ·exact .inl q
    ·exact .inr ⟨f,AD _ g⟩
   ·rw[if_neg hk] at h
    rcases j l h with q|⟨f,g⟩
    ·exact .inl q
    ·exact .inr ⟨f,AD _ g⟩
 intro names acc e o h;rcases i e h with q|q
 ·exact(o _ q).elim
 ·exact q
def cf_mem:∀(names:List (Str×NameKind))(h:Heap)(acc:List (Str×Addr))(x:Str)(c:Addr),(x,c)∈Bm h.objs.size names acc->(x,c)∈acc\/((x,NameKind.cell)∈names/\h.objs.size<=c/\(pushCells h names).IsCell c none)
 |[],h,acc,x,c,a=>.inl a
 |(n,k)::r,h,acc,x,c,a=>by
  rw[cellsFrom.eq_2] at a;have ep:pushCells h ((n,k)::r)=if(k==NameKind.cell)=true then pushCells (h.push {cls:=Value.type "cell",data:=Data.cell none}) r else pushCells h r:=rfl
  by_cases hk:(k==NameKind.cell)=true
  ·have f:k=.cell:=by cases k<;>first|rfl|cases hk
   rw[if_pos hk] at a;rw[ep,if_pos hk];have es:(h.push {cls:=Value.type "cell",data:=Data.cell none}).objs.size=h.objs.size+1:=Heap.size_push ..;rw[<-es] at a;rcases cf_mem r _ _ x c a with q|⟨d,b,e⟩
   ·rcases List.mem_cons.mp q with q|q
    ·cases q
     refine .inr ⟨by rw[f];exact AF,Af _,_,pushCells_keeps r _ _ _ (AG _ rfl),rfl⟩
    ·exact .inl q
   ·rw[es] at b
    exact .inr ⟨AD _ d,Nat.le_of_succ_le b,e⟩
  ·rw[if_neg hk] at a
   rw[ep,if_neg hk];rcases cf_mem r h acc x c a with q|⟨d,b,e⟩
   ·exact .inl q
   ·exact .inr ⟨AD _ d,b,e⟩
def HH:∀(names:List (Str×NameKind))(n:Nat)(acc:List (Str×Addr)),(∀x y c,(x,c)∈acc->(y,c)∈acc->x=y)->(∀p∈acc,p.2<n)->∀x y c,(x,c)∈Bm n names acc->(y,c)∈Bm n names acc->x=y
 |[],n,acc,hi,_,x,y,c,h1,h2=>hi x y c h1 h2
 |(m,k)::r,n,acc,hi,hl,x,y,c,h1,h2=>by
  rw[cellsFrom.eq_2] at h1 h2
  by_cases hk:(k==NameKind.cell)=true
  ·rw[if_pos hk] at h1 h2
   refine HH r (n+1) ((m,n)::acc) (fun x y c p q=>?_) (fun p hp=>?_) x y c h1 h2
   ·rcases List.mem_cons.mp p with p|p<;>rcases List.mem_cons.mp q with q|q
    ·cases p;cases q;rfl
    ·cases p
     have:n<n:=hl _ q;(first|lia|omega)
    ·cases q
     have:n<n:=hl _ p;(first|lia|omega)
    ·exact hi x y c p q
   ·rcases List.mem_cons.mp hp with rfl|hp
    ·exact Nat.lt_succ_self _
    ·exact Nat.lt_succ_of_lt (hl p hp)
  ·rw[if_neg hk] at h1 h2
   exact HH r n acc hi hl x y c h1 h2
def OB{M:Model}{A:Around}{E:Ω}{s:Shared}{scope:Scope}{g:Addr}{a:List (Str×Addr)}{i:Str}{env:Env}{Q:Env->Shared->Prop}(h:∀d:Heap,(d.Ns s⁻¹ fun _=>none)->(∀b o,s.heap.get? b=some o->d.get? b=some o)->
   (∀x c,(x,c)∈Bm (s⁻¹+1) scope.names a->(x,c)∈a\/((x,NameKind.cell)∈scope.names/\s⁻¹+1<=c/\d.IsCell c none))->
   Q (newEnv scope s⁻¹ g (Bm (s⁻¹+1) scope.names a) i none .none (some env) builtinsNs) {s with heap:=d}):
  wpAny M A (newFunctionEnv scope g a [] i none Value.none (some env)) Q E s:=by
 unfold newFunctionEnv;refine Ae (wpAny_alloc ?_);refine Ae (wpAny_layCells _ (fun name kind cells=>rfl) scope.names a _ _ ?_);have es:(s.heap.push {cls:=Value.type "dict",data:=Data.dict #[]}).objs.size=s⁻¹+1:=Heap.size_push ..;have:=h (pushCells (s.heap.push {cls:=Value.type "dict",data:=Data.dict #[]}) scope.names) ((Heap.Ns.new s.heap (.type "dict")).keeps fun b o e=>pushCells_keeps _ _ _ _ e) (fun b o e=>pushCells_keeps _ _ _ _ (Ai _ e)) (fun x c f=>by
  rw[<-es] at f ⊢;exact cf_mem scope.names _ a x c f)
 show wpAny M A _ _ _ _;refine Ae (Ap ?_);refine Ap ?_;rw[<-es] at this;exact this
def cxD(X:Cx)(scope:Scope)(N:List Str)(a:List (Str×Addr))(C:Addr)(s₀:Shared)(H₀:Hp)(ex:List Addr):Cx:={dR X scope N a C s₀ H₀ ex with fn:=fun x=>decide (scope.names.lookup x=some .cell)}
section
variable{X:Cx}{scope:Scope}{N':List Str}{am:List (Option Nat)}{tg iter bA:Expr}{aN:List Expr}{wi:TI}{g:TG}{tc:TT}{te:TE}{pos:Pos}
def Kj{scope:Scope}{env:Env}{x:Str}:∀{names:List (Str×NameKind)},(names.lookup x=some .free\/names.lookup x=some .cell)-> ((names.map fun(n,k)=>if(k==Bl&&env.scope.kind==.function&&env.kindOf n==some .cell) then(n,NameKind.cell) else(n,k)).lookup x=some .free \/
   (names.map fun(n,k)=>if(k==Bl&&env.scope.kind==.function&&env.kindOf n==some .cell) then(n,NameKind.cell) else(n,k)).lookup x=some .cell)
 |[],h=>by simp at h
 |(n,k)::r,h=>by
  have a:=@Kj scope env x r;show List.lookup x ((if(k==Bl&&env.scope.kind==.function&&env.kindOf n==some .cell)=true then(n,NameKind.cell) else(n,k))::_)=_\/List.lookup x ((if(k==Bl&&env.scope.kind==.function&&env.kindOf n==some .cell)=true then(n,NameKind.cell) else(n,k))::_)=_;cases hx:x==n with
  |true=>
   simp only[Bi,hx] at h
   by_cases hc:(k==Bl&&env.scope.kind==.function&&env.kindOf n==some .cell)=true
   ·rw[if_pos hc];simp[Bi,hx]
   ·rw[if_neg hc];simp only[Bi,hx];exact h
  |false=>
   simp only[Bi,hx] at h
   by_cases hc:(k==Bl&&env.scope.kind==.function&&env.kindOf n==some .cell)=true
   ·rw[if_pos hc];simp only[Bi,hx];exact a h
   ·rw[if_neg hc];simp only[Bi,hx];exact a h
def HI{env:Env}{x:Str}{kd:NameKind}:∀{names:List (Str×NameKind)},(names.map fun(n,k)=>if(k==Bl&&env.scope.kind==.function&&env.kindOf n==some .cell) then(n,NameKind.cell) else(n,k)).lookup x=some kd->
  ∃a,names.lookup x=some a/\(kd=a\/(a=.free/\kd=.cell))
 |[],h=>by simp at h
 |(n,k)::r,h=>by
  have b:=@HI env x kd r;have h':List.lookup x ((if(k==Bl&&env.scope.kind==.function&&env.kindOf n==some .cell)=true then(n,NameKind.cell) else(n,k))::_)=some kd:=h;cases hx:x==n with
  |true=>
   simp only[Bi,hx]
   by_cases hc:(k==Bl&&env.scope.kind==.function&&env.kindOf n==some .cell)=true
   ·rw[if_pos hc] at h'
    simp only[Bi,hx] at h';cases h';have hk:k=.free:=by
     rw[AX,AX] at hc;cases k<;>first|rfl|exact absurd hc.1.1 ξ
    exact⟨k,rfl,.inr ⟨hk,rfl⟩⟩
   ·rw[if_neg hc] at h'
    simp only[Bi,hx] at h';cases h';exact⟨_,rfl,.inl rfl⟩
  |false=>
   simp only[Bi,hx]
   by_cases hc:(k==Bl&&env.scope.kind==.function&&env.kindOf n==some .cell)=true
   ·rw[if_pos hc] at h';simp only[Bi,hx] at h';exact b h'
   ·rw[if_neg hc] at h';simp only[Bi,hx] at h';exact b h'
structure Left(X:Cx)(aa:Ψ)(σ:St)(H':Hp)(s4:Shared)(C:Addr):Prop where
 ns:∃m,s4.heap.Ns C m
 far:X.s₀⁻¹<=C
 nl:C≠X.env.locals
 nc:∀x c,X.env.cells.lookup x=some c->c≠C
 np:∀p∈X.pn++aa,p.1≠C
 no:H' C=none
 back:∀h',Heap.SameBut C s4.heap h'->Inv X aa σ H' {s4 with heap:=h'}
def Kk{use:Option (Value->Sem Unit)}{R:Ω}{pp:Pos}(hc:X.calm=true)(hk:scope.kind=.function)(cO:∀y∈scope.names,y.2=.cell->scope.names.lookup y.1=some .cell)(ax:∀y∈scope.names,y.2=.free->scope.names.lookup y.1=some .free)(ay:∀y∈scope.names,y.2=.local->scope.names.lookup y.1=some .local)(hfr:∀y∈scope.names,y.2=.free->X.env.kindOf y.1=some .cell\/X.env.kindOf y.1=some .free)(hcap:n7 X.N N' am scope)(hi:PI X tg iter wi)(hg:∀cl C s₀ H₀ ex,PG (cxD X scope N' cl C s₀ H₀ ex) tg g)(ht:∀cl C s₀ H₀ ex,iy (cxD X scope N' cl C s₀ H₀ ex) aN tc)(he:∀cl C s₀ H₀ ex,PE (cxD X scope N' cl C s₀ H₀ ex) bA te)(hs:∀x,foldedSetIterable iter X.env x=pure x){aa:Ψ}{s:Shared}{σ:St}{H:Hp}{Q:VK}(I:Inv X aa σ H s)(h:lj wi am g tc te σ H Q)(fin:∀(D C:Addr)(H':Hp)(P:Shared)(f:Flow),Left X aa σ H' P C->Q (.ref D) H'->compPost (model X.prog X.w) X.A X.xe use R (.ref D) C (.ok f) P):wpAny (model X.prog X.w) X.A (comprehension (.ListComp bA [⟨tg,iter,aN,0⟩] scope pos) scope X.env pp (newList []) (firstAsync [⟨tg,iter,aN,0⟩]) (firstIter [⟨tg,iter,aN,0⟩] X.env) use) R X.xe s:=by
 have S:∀y∈scope.names,y.2=.free->∃c,X.env.cells.lookup y.1=some c:=fun y hy e=>I.ok.has y.1 (hfr y hy e);refine wpAny_comprehension_free (use:=use) rfl hs (OA S) hk ay ?_;refine aX (hi aa s σ H _ I h) fun xv s1 h1=>aX h1 fun kU O h2=>?_;obtain⟨it,M,tn,J,H2,e,I2,T,fH,f2,q⟩:=h2;subst e;have jQ:H2 O⁻¹=none:=I2.hok.fresh (Af _);obtain⟨W,⟨m0,w0⟩,turn⟩:=q O⁻¹ jQ;refine wpAny_newObj_type (OB fun ao cS bY cj=>?_);dsimp only at cS bY cj ⊢;generalize hD:O⁻¹=D at *;obtain⟨l,e3⟩:∃l:Shared,l={O with heap:=O.heap.push {cls:=.type "list",dict:=none,data:=.seq ([]:List Value).toArray}}:=⟨_,rfl⟩;have h3:l.heap=O.heap.push {cls:=.type "list",dict:=none,data:=.seq ([]:List Value).toArray}:=by rw[e3]
 rw[<-h3] at cS bY cj ⊢;have ae:l⁻¹=D+1:=by rw[h3,Heap.size_push,hD]
 have I3:Inv X aa σ (upd H2 D (.lst [])) l:=by
  rw[e3,<-hD];exact I2.lnew (t':=O.toks) (ys:=[]) .nil (Ar _)
 obtain⟨Xc,E⟩:∃Xc,Xc=cxD X scope N' (Bm (l⁻¹+1) scope.names (clOf X.env.cells scope.names [])) l⁻¹ l (upd H2 D (.lst [])) M:=⟨_,rfl⟩;have uQ:PG Xc tg g:=by rw[E];exact hg _ _ _ _ _
 have ht':iy Xc aN tc:=by rw[E];exact ht _ _ _ _ _
 have he':PE Xc bA te:=by rw[E];exact he _ _ _ _ _
 have xP:Xc.prog=X.prog:=by rw[E];rfl
 have xw:Xc.w=X.w:=by rw[E];rfl
 have xK:Xc.K=X.K:=by rw[E];rfl
 have xA:Xc.A=X.A:=by rw[E];rfl
 have xc:Xc.calm=true:=by rw[E];exact hc
 have xe:Xc.env=compEnvC scope (Bm (l⁻¹+1) scope.names (clOf X.env.cells scope.names [])) l⁻¹ X.env:=by rw[E];rfl
 have xE:Xc.xe=fun _ _=>False:=by rw[E];rfl
 have G:∀x c,(Bm (l⁻¹+1) scope.names (clOf X.env.cells scope.names [])).lookup x=some c->(X.env.cells.lookup x=some c/\scope.names.lookup x=some .free)\/(scope.names.lookup x=some .cell/\l⁻¹+1<=c/\ao.IsCell c none):=fun x c e=>by
  rcases cj x c (PySem.mem_of_lookup e) with q|⟨q1,q2,q3⟩
  ·obtain⟨q4,q5⟩:=DS S (fun p hp=>absurd hp (by simp)) q
   exact .inl ⟨q4,ax _ q5 rfl⟩
  ·exact .inr ⟨cO _ q1 rfl,q2,q3⟩
 have hlow:∀p∈clOf X.env.cells scope.names [],p.2<l⁻¹+1:=fun p hp=>by
  obtain⟨q4,_⟩:=DS S (fun p hp=>absurd hp (by simp)) (x:=p.1) (c:=p.2) hp;obtain⟨v,o,ho,_⟩:=I3.cell p.1 p.2 q4;exact Nat.lt_succ_of_lt (Ao ho)
 have U:∀b∈M,b≠D/\b<D:=fun b hb=>by
  obtain⟨ob,eb,_⟩:=T.obj 0 _ fH b hb;have:=Ao eb;rw[hD] at this;exact⟨Az this,this⟩
 have hfs:∀b∈frs X.stack,b<D:=fun b hb=>by
  obtain⟨_,ob,eb,_⟩:=I2.stack.mem hb;have:=Ao eb;rw[hD] at this;exact this
 have F:∀b o,l.heap.get? b=some o->ao.get? b=some o:=bY;have wf:(upd H2 D (.lst [])) l⁻¹=none:=I3.hok.fresh (Af _);have Ic:Inv Xc aa (rH am σ) (upd H2 D (.lst [])) {l with heap:=ao}:=by
  have okc:Xc.Ok:=by
   rw[E];refine⟨I.ok.mod,hk,I.ok.glob,I.ok.blt,Af _,fun x y c a b=>HH scope.names _ _ (fun x y c p q=>I.ok.inj x y c (DS S (fun p hp=>absurd hp (by simp)) p).1 (DS S (fun p hp=>absurd hp (by simp)) q).1) hlow x y c (PySem.mem_of_lookup a) (PySem.mem_of_lookup b),fun x hx=>?_,(fun x c a e=>by
    rcases G x c e with ⟨_,q⟩|⟨_,q,_⟩
    ·have a':=of_decide_eq_true a
     rw[q] at a';cases a'
    ·exact Nat.le_of_succ_le q),I.ok.hd,I.ok.frames,.inl rfl,fun b hb=>⟨?_,fun x c e=>?_⟩,fun b o e=>?_,?_,fun b o e z=>?_,fun b hb z=>?_,?_,fun b hb=>?_⟩
   ·have oG:(relabel scope X.env).names.lookup x=some .cell\/(relabel scope X.env).names.lookup x=some .free:=hx
    have key:∃Z,scope.names.lookup x=some Z/\(Z=.free\/Z=.cell):=by
     rcases oG with q|q
     ·obtain⟨Z,e1,e2⟩:=HI q
      rcases e2 with e2|⟨e2,_⟩
      ·exact⟨Z,e1,.inr e2.symm⟩
      ·exact⟨Z,e1,.inl e2⟩
     ·obtain⟨Z,e1,e2⟩:=HI q
      rcases e2 with e2|⟨e2,_⟩
      ·exact⟨Z,e1,.inl e2.symm⟩
      ·exact⟨Z,e1,.inl e2⟩
    obtain⟨Z,e1,e2⟩:=key;have hm:=PySem.mem_of_lookup e1;rcases e2 with rfl|rfl
    ·obtain⟨c,j6⟩:=DR (cells:=X.env.cells) (acc:=[]) (.inl hm)
     obtain⟨d,hd⟩:=HG j6;exact Option.isSome_iff_exists.mp (PySem.W.cellsFrom_some scope.names (l⁻¹+1) _ (.inr (by rw[hd];rfl)))
    ·exact Option.isSome_iff_exists.mp (PySem.W.cellsFrom_some scope.names (l⁻¹+1) _ (.inl e1))
   ·show b≠l⁻¹
    exact Az (by rw[ae];exact Nat.lt_succ_of_lt (U b hb).2)
   ·rcases G x c e with ⟨q,_⟩|⟨_,q,_⟩
    ·exact(f2 b hb).2.2.2.2.1 x c q
    ·have h1:b<l⁻¹+1:=by rw[ae];exact Nat.lt_succ_of_lt (Nat.lt_succ_of_lt (U b hb).2)
     exact Nat.ne_of_gt (Au h1 q)
   ·exact I3.bs b o e
   ·exact Ag I.ok.bsz I3.sz
   ·obtain⟨f,_,_,fx,_,_⟩:=f2 b z
    rcases fx with fx|fx
    ·exact I.ok.noex b o e fx
    ·have:=Au (Ao e) I.ok.bsz
     (first|lia|omega)
   ·rcases List.mem_cons.mp (I2.stkSub b z) with r|r
    ·exact(f2 b hb).2.1 r
    ·exact(f2 b hb).2.2.1 r
   ·exact I3.stack
   ·exact I3.stkFree b hb
  refine⟨okc,(by rw[E];rfl),I3.bare,?_,?_,fun x c e=>?_,?_,fun x c e=>?_,fun p hp=>?_,?_,?_⟩
  ·rw[E]
   exact Un.kept F
  ·rw[xe]
   refine⟨_,cS,fun i x v e1 e2 e3=>?_⟩;obtain⟨c1,c2⟩:=hcap;unfold rH at e2;rw[Aj] at e2;cases e4:am[i]? with
   |none=>rw[e4] at e2;cases e2
   |some cc=>
    rw[e4] at e2;cases cc with
    |none=>cases e2
    |some j=>
     obtain⟨y,d1,d2,d3⟩:=c2 i j e4;have sV:N'[i]?=some x:=by rw[E] at e1;exact e1
     rw[d1] at sV;have vN:y=x:=AL sV;subst vN;have e5:σ[j]?=some (some v):=by
      simp only[Option.map_some,Option.some.injEq] at e2;cases e6:σ[j]? with
      |none=>rw[e6] at e2;cases e2
      |some ov=>rw[e6] at e2;simp only[Option.getD_some] at e2;rw[e2]
     have hm:=PySem.mem_of_lookup d3;have Cj:qj X.env.scope y:=by
      rcases hfr _ hm rfl with q|q
      ·exact .inr (.inl q)
      ·exact .inr (.inr q)
     obtain⟨m,_,hl⟩:=I3.loc;obtain⟨u,ru,lk⟩:=hl j y v d2 e5 Cj;refine⟨u,ru,?_⟩;have t8:∃c,X.env.cells.lookup y=some c/\l.heap.IsCell c (some u):=by
      rcases lk with ⟨k1,_⟩|⟨_,c,k2,k3⟩
      ·rcases hfr _ hm rfl with q|q
       ·rw[k1] at q;cases q
       ·rw[k1] at q;cases q
      ·exact⟨c,k2,k3⟩
     obtain⟨c,k2,k3⟩:=t8;obtain⟨d,hd'⟩:=DR (cells:=X.env.cells) (acc:=[]) (.inl hm);obtain⟨d',fM⟩:=HG hd';obtain⟨d2,hd3⟩:=Option.isSome_iff_exists.mp (PySem.W.cellsFrom_some scope.names (l⁻¹+1) (clOf X.env.cells scope.names []) (x:=y) (.inr (by rw[fM];rfl)));have:c=d2:=by
      rcases G y d2 hd3 with ⟨q,_⟩|⟨q,_⟩
      ·rw[k2] at q
       exact AL q
      ·rw[d3] at q;cases q
     subst this;refine .inr ⟨?_,c,hd3,k3.keeps F⟩;have rl:=Kj (scope:=scope) (env:=X.env) (x:=y) (names:=scope.names) (.inl d3);rcases rl with q|q
     ·exact .inr q
     ·exact .inl q
  ·rw[xe] at e
   rcases G x c e with ⟨q,_⟩|⟨_,_,q⟩
   ·obtain⟨v,k3⟩:=I3.cell x c q
    exact⟨v,k3.keeps F⟩
   ·exact⟨_,q⟩
  ·rw[xe];exact wf
  ·rw[xe] at e
   rcases G x c e with ⟨q,_⟩|⟨_,q,_⟩
   ·exact I3.freeC x c q
   ·exact I3.hok.fresh (Nat.le_of_succ_le q)
  ·have hp':p∈X.pn++aa:=by rw[E] at hp;exact hp
   obtain⟨a1,a2,a3,a4,a5⟩:=I3.pin p hp';refine⟨F _ _ a1,a2,?_,?_,a5⟩
   ·rw[xe]
    show p.1≠l⁻¹;exact Az (Ao a1)
   ·rw[E]
    intro z;rcases List.mem_cons.mp (I3.stkSub p.1 z) with r|r
    ·exact a3 r
    ·exact a4 r
  ·rw[xP,xw]
   exact I3.hok.kept F
  ·unfold rH
   rw[Aa,hcap.1,E]
   rfl
 have leave:∀{L:St}{H':Hp}{P:Shared}{h':Heap},Inv Xc aa L H' P->Heap.SameBut l⁻¹ P.heap h'->Inv X aa σ H' {P with heap:=h'}:=fun{L H' P h'} I4 az=>by
  have hlt:∀b o,O.heap.get? b=some o->b≠D/\b≠l⁻¹:=fun b o e=>by
   have hb:=Ao e;rw[hD] at hb;exact⟨Az hb,Az (by rw[ae];exact Nat.lt_succ_of_lt hb)⟩
  have up3:∀b o,O.heap.get? b=some o->l.heap.get? b=some o:=fun b o e=>by rw[h3];exact Ai _ e
  have base:Un (frs X.stack) M (upd H2 D (.lst [])) H' l.heap P.heap:=by
   have:=I4.base;rw[E] at this;exact this
  have hCn:H' l⁻¹=none:=by
   have:=I4.free;rw[xe] at this;exact this
  have os4:P.os=O.os:=by
   have:=I4.os;rw[E] at this;rw[this];show l.os=O.os;rw[e3]
  refine I2.call' (s':={P with heap:=h'}) (ch:=M) os4 ⟨fun b o q n hb hx=>?_,fun b o q n hb hx=>?_,fun b o q n hx=>?_,fun b o q hx=>?_,fun b xs q=>?_,fun b o u q=>?_,fun b ps q=>?_⟩ ?_ I4.bare fun b hb=>?_
  ·obtain⟨n1,n2⟩:=hlt b o q
   exact(az.2 b n2).trans (base.keep b o (up3 b o q) (by rw[aq n1];exact n) hb hx)
  ·obtain⟨n1,n2⟩:=hlt b o q
   obtain⟨sl,e⟩:=base.slot b o (up3 b o q) (by rw[aq n1];exact n) hb hx;exact⟨sl,(az.2 b n2).trans e⟩
  ·obtain⟨n1,n2⟩:=hlt b o q
   exact base.free b o (up3 b o q) (by rw[aq n1];exact n) hx
  ·obtain⟨n1,n2⟩:=hlt b o q
   obtain⟨o',e⟩:=base.there b o (up3 b o q) hx;exact⟨o',(az.2 b n2).trans e⟩
  ·exact base.tups b xs (by rw[aq (zn q jQ)];exact q)
  ·exact base.frzs b o u (by rw[aq (zn q jQ)];exact q)
  ·exact base.tbls b ps (by rw[aq (zn q jQ)];exact q)
  ·intro b u e
   have jW:=I4.hok b u e;rw[xP,xw] at jW;refine jW.stay (fun c v hc q=>(az.2 c ?_).trans q) (fun _ q=>q) fun _ _ q=>q;rintro rfl;rcases hc with z|z
   ·rw[<-z,hCn] at e;cases e
   ·rw[hCn] at z;cases z
  ·obtain⟨f0,f1,f3,f4,f5,f6⟩:=f2 b hb
   exact⟨f4,f1,f5,f6⟩
 have Y:∀{H':Hp},(∀b∈M,H' b=none)->∀b∈M,cv Xc aa H' b:=fun{H'} hn b hb=>by
  obtain⟨f0,f1,f3,f4,f5,f6⟩:=f2 b hb;refine⟨hn b hb,?_,?_,.inl (by rw[E];exact hb),fun x c e=>?_,fun p hp=>?_⟩
  ·rw[xe]
   show b≠l⁻¹;exact Az (by rw[ae];exact Nat.lt_succ_of_lt (U b hb).2)
  ·rw[E]
   intro z;rcases List.mem_cons.mp (I2.stkSub b z) with r|r
   ·exact f1 r
   ·exact f3 r
  ·rw[xe] at e
   rcases G x c e with ⟨q,_⟩|⟨_,q,_⟩
   ·exact f5 x c q
   ·have h1:b<l⁻¹+1:=by rw[ae];exact Nat.lt_succ_of_lt (Nat.lt_succ_of_lt (U b hb).2)
    exact Nat.ne_of_gt (Au h1 q)
  ·rw[E] at hp
   exact f6 p hp
 subst E;have jd:∀n s',(∃i L H',Inv (cxD X scope N' (Bm (l⁻¹+1) scope.names (clOf X.env.cells scope.names [])) l⁻¹ l (upd H2 D (.lst [])) M) aa L H' s'/\tn i s'.heap/\(∀b∈M,H' b=none)/\W i n L H')->
   codeAny (model X.prog X.w) X.A (.compLoop (.ListComp bA [⟨tg,iter,aN,0⟩] scope pos) 0 (.ref it) (.ref D) (compEnvC scope (Bm (l⁻¹+1) scope.names (clOf X.env.cells scope.names [])) l⁻¹ X.env)) (compPost (model X.prog X.w) X.A X.xe use R (.ref D) l⁻¹) s':=by
  intro n0 Eh Bx;refine codeAny_loop rfl (fun n s'=>∃i L H',Inv (cxD X scope N' (Bm (l⁻¹+1) scope.names (clOf X.env.cells scope.names [])) l⁻¹ l (upd H2 D (.lst [])) M) aa L H' s'/\tn i s'.heap/\(∀b∈M,H' b=none)/\W i n L H') (fun n s' hI=>?_) n0 Bx;obtain⟨i,L,H',I',ad,dF,w'⟩:=hI;show wpAny _ X.A ((compTurn (.ListComp bA [⟨tg,iter,aN,0⟩] scope pos) 0 (.ref it) (.ref D) (compEnvC scope (Bm (l⁻¹+1) scope.names (clOf X.env.cells scope.names [])) l⁻¹ X.env)).onRaise (fun x=>do noteFrame x (compEnvC scope (Bm (l⁻¹+1) scope.names (clOf X.env.cells scope.names [])) l⁻¹ X.env);theTreesLotGoes x)) _ _ s';refine wpAny_noted ?_;rw[compTurn_list];refine Ae (wpAny_standAt (Ae ?_));rcases turn i n L H' w' with ⟨stop,qn⟩|⟨go,step⟩
  ·refine aX (T.done (cxD X scope N' (Bm (l⁻¹+1) scope.names (clOf X.env.cells scope.names [])) l⁻¹ l (upd H2 D (.lst [])) M) rfl rfl rfl hc i aa s' L H' _ I' (Y dF) ad stop) fun r P ⟨hr,I4⟩=>?_
   subst hr;refine Ap ?_;obtain⟨m,hn,_⟩:=id I4.loc;refine fin D _ H' P _ ⟨⟨m,hn⟩,I3.sz,fun e=>?_,fun x c e=>?_,fun p hp=>Az (Ao (I3.pin p hp).1),I4.free,fun h' az=>leave I4 az⟩ qn
   ·obtain⟨m3,wQ,_⟩:=I3.loc
    obtain⟨o3,_,_,mK,_⟩:=wQ;exact absurd e.symm (Az (Ao mK))
   ·obtain⟨v,hv⟩:=I3.cell x c e
    obtain⟨o3,mK,_⟩:=hv;exact Az (Ao mK)
  ·refine aX (T.item (cxD X scope N' (Bm (l⁻¹+1) scope.names (clOf X.env.cells scope.names [])) l⁻¹ l (upd H2 D (.lst [])) M) rfl rfl rfl hc i aa s' L H' _ I' (Y dF) ad go) fun r P ⟨u,hr,h4⟩=>?_
   subst hr;refine Ae (aX h4 fun _ s5 ⟨x,H5,I5,r5,y5,st5,fr5⟩=>?_);have oF:=I5.pinned (Y fr5) (T.obj _ _ st5);refine Ae (wpAny_mono (uQ _ s5 L H5 x u _ oF r5 (step x H5 y5)) (fun _ s6 h6=>?_) fun _ _ z=>z.elim);obtain⟨jg,H6,I6,q6⟩:=h6;refine Ae (wpAny_mono (ht' _ s6 jg H6 _ I6 q6) (fun ok s7 h7=>?_) fun _ _ z=>z.elim);obtain⟨H7,I7,q7⟩:=h7;have again:∀{jM:St}{H8:Hp}{s8:Shared}{m':Nat},Inv (cxD X scope N' (Bm (l⁻¹+1) scope.names (clOf X.env.cells scope.names [])) l⁻¹ l (upd H2 D (.lst [])) M) (aa++qE M s5.heap) jM H8 s8->m'<n->W (i+1) m' jM H8->
     ∃m,m<n/\∃i L H',Inv (cxD X scope N' (Bm (l⁻¹+1) scope.names (clOf X.env.cells scope.names [])) l⁻¹ l (upd H2 D (.lst [])) M) aa L H' s8/\tn i s8.heap/\(∀b∈M,H' b=none)/\W i m L H':=fun{jM H8 s8 m'} I8 hm w8=>by
    refine⟨m',hm,i+1,jM,H8,I8.unpinned,T.keep _ _ _ st5 fun b hb o e=>(I8.pin (b,o) (Ay _ (Ay _ (Cq hb e)))).1,fun b hb=>?_,w8⟩;obtain⟨o,e,d⟩:=T.obj _ _ st5 b hb;exact(I8.pin (b,o) (Ay _ (Ay _ (Cq hb e)))).2.1
   cases ok with
   |false=>
    obtain⟨m',hm,w7⟩:=q7;exact Ap ⟨rfl,again I7 hm w7⟩
   |true=>
    refine Ae (Ae (wpAny_mono (he' _ s7 jg H7 _ I7 q7) (fun v s8 h8=>?_) fun _ _ z=>z.elim));obtain⟨y,H8,I8,r8,ys,m',oN,uW,vz,w8⟩:=h8;refine Ae (wpAny_mono (Dl (X:=cxD X scope N' (Bm (l⁻¹+1) scope.names (clOf X.env.cells scope.names [])) l⁻¹ l (upd H2 D (.lst [])) M) _ s8 jg H8 (.ref D) [y] (.ref D) [v] (fun _ H9=>H9=upd H8 D (.lst (ys++[y]))) I8 rfl (.cons r8 .nil) ⟨D,ys,y,rfl,rfl,oN,uW,rfl⟩) (fun _ s9 h9=>?_) fun _ _ z=>z.elim);obtain⟨_,H9,I9,_,e9⟩:=h9;subst e9;exact Ap (Ap ⟨rfl,again I9 vz w8⟩)
 have start:∃i L H',Inv (cxD X scope N' (Bm (l⁻¹+1) scope.names (clOf X.env.cells scope.names [])) l⁻¹ l (upd H2 D (.lst [])) M) aa L H' {l with heap:=ao}/\tn i ({l with heap:=ao}:Shared).heap/\(∀b∈M,H' b=none)/\W i m0 L H':=by
  refine⟨0,rH am σ,upd H2 D (.lst []),Ic,T.keep 0 _ _ fH fun b hb o e=>F b o (by rw[h3];exact Ai _ e),fun b hb=>?_,w0⟩;rw[aq (U b hb).1];exact(f2 b hb).1
 have es:({O with heap:=ao}:Shared)={l with heap:=ao}:=by rw[e3]
 show codeAny (model X.prog X.w) X.A _ _ ({O with heap:=ao}:Shared);rw[es];refine codeAny_compStart_list (jd m0 _ start) (T.self _ 0 _ _ _ ?_ (jd m0 _ start));exact T.keep 0 _ _ fH fun b hb o e=>F b o (by rw[h3];exact Ai _ e)
def oa(b:∀y∈scope.names,y.2≠.cell)(a:List (Str×Addr))(C:Addr)(s₀:Shared)(H₀:Hp)(ex:List Addr):dR X scope N' a C s₀ H₀ ex=cxD X scope N' a C s₀ H₀ ex:=by
 unfold cxD;have:(fun x=>decide (scope.names.lookup x=some NameKind.cell))=fun _=>false:=by
  funext x
  exact decide_eq_false fun e=>b _ (PySem.mem_of_lookup e) rfl
 rw[this]
 rfl
def OC{use:Option (Value->Sem Unit)}{R:Ω}{pp:Pos}(hc:X.calm=true)(hk:scope.kind=.function)(c:∀y∈scope.names,y.2≠.cell)(i:∀y∈scope.names,y.2=.free->scope.names.lookup y.1=some .free)(j:∀y∈scope.names,y.2=.local->scope.names.lookup y.1=some .local)(hfr:∀y∈scope.names,y.2=.free->X.env.kindOf y.1=some .cell\/X.env.kindOf y.1=some .free)(b:n7 X.N N' am scope)(hi:PI X tg iter wi)(hg:∀a C s₀ H₀ ex,PG (dR X scope N' a C s₀ H₀ ex) tg g)(l:∀a C s₀ H₀ ex,iy (dR X scope N' a C s₀ H₀ ex) aN tc)(o:∀a C s₀ H₀ ex,PE (dR X scope N' a C s₀ H₀ ex) bA te)(p:∀x,foldedSetIterable iter X.env x=pure x){aa:Ψ}{s:Shared}{σ:St}{H:Hp}{Q:VK}(I:Inv X aa σ H s)(h:lj wi am g tc te σ H Q)(fin:∀(D C:Addr)(H':Hp)(d:Shared)(f:Flow),Left X aa σ H' d C->Q (.ref D) H'->compPost (model X.prog X.w) X.A X.xe use R (.ref D) C (.ok f) d):wpAny (model X.prog X.w) X.A (comprehension (.ListComp bA [⟨tg,iter,aN,0⟩] scope pos) scope X.env pp (newList []) (firstAsync [⟨tg,iter,aN,0⟩]) (firstIter [⟨tg,iter,aN,0⟩] X.env) use) R X.xe s:=
 Kk hc hk (fun y hy e=>absurd e (c y hy)) i j hfr b hi (fun a C s₀ H₀ ex=>oa (X:=X) (N':=N') c a C s₀ H₀ ex▸hg a C s₀ H₀ ex) (fun a C s₀ H₀ ex=>oa (X:=X) (N':=N') c a C s₀ H₀ ex▸l a C s₀ H₀ ex) (fun a C s₀ H₀ ex=>oa (X:=X) (N':=N') c a C s₀ H₀ ex▸o a C s₀ H₀ ex) p I h fin
def OD(hc:X.calm=true)(hk:scope.kind=.function)(c:∀y∈scope.names,y.2≠.cell)(i:∀y∈scope.names,y.2=.free->scope.names.lookup y.1=some .free)(j:∀y∈scope.names,y.2=.local->scope.names.lookup y.1=some .local)(hfr:∀y∈scope.names,y.2=.free->X.env.kindOf y.1=some .cell\/X.env.kindOf y.1=some .free)(b:n7 X.N N' am scope)(hi:PI X tg iter wi)(hg:∀a C s₀ H₀ ex,PG (dR X scope N' a C s₀ H₀ ex) tg g)(l:∀a C s₀ H₀ ex,iy (dR X scope N' a C s₀ H₀ ex) aN tc)(o:∀a C s₀ H₀ ex,PE (dR X scope N' a C s₀ H₀ ex) bA te)(p:∀x,foldedSetIterable iter X.env x=pure x:=by intro _;rfl):PE X (.ListComp bA [⟨tg,iter,aN,0⟩] scope pos) (lj wi am g tc te):=by
 intro aa s σ H Q I h;rw[eval_ListComp];refine OC (use:=none) hc hk c i j hfr b hi hg l o p I h fun D C H' r f L q=>?_;obtain⟨m,e⟩:=L.ns;exact⟨m,e,fun h' d=>⟨.ref D,H',L.back h' d,rfl,q⟩⟩
end
def OE(f:Array Value->Array Value)(o:Obj):(o.mapFields f).dict=o.dict:=by unfold Obj.mapFields;split<;>rfl
def Xc(h:Heap)(x:Addr)(C:Value)(T:Option Addr):Prop:=
 ∃b vs,h.get? x=some b/\b.cls=C/\b.dict=none/\b.data=.fields vs/\1<vs.size/\((T=none/\vs[1]?=some .none)\/∃a c d,T=some a/\vs[1]?=some (.ref a)/\a≠x/\h.get? a=some c/\c.data=.fields d/\d[3]?=some .none)
def oh(fr:List Addr)(x:Addr)(T:Option Addr)(h h':Heap):Prop:=
 (∀b o,h.get? b=some o->b≠x->T≠some b->b∉fr->h'.get? b=some o)/\(∀b o,h.get? b=some o->b∈fr->∃a,h'.get? b=some {o with slots:=a})/\h.objs.size<=h'.objs.size
section
variable{M:Model}{A:Around}{E:Ω}{s:Shared}
def D6{base:Heap}{env:Env}{outer:List Env}{L x:Addr}{i:Obj}{vs:Array Value}{head:Value}{P:Bool}{Q:Unit->Shared->Prop}(hfr:A.frames=some (env::outer))(F:s.heap.FunFrames base (env::outer))(S:env.frame=some L)(G:s.heap.get? x=some i)(w:i.dict=none)(hd:i.data=.fields vs)(hsz:1<vs.size)(h:∀h' T',s⁻¹<=T'->Xc h' x i.cls (some T')->oh ((env::outer).filterMap (·.frame)) x none s.heap h'->Q () {s with heap:=h'}):wpAny M A (do let a <-frameOf env;let pl <-entryPlaceOf L P;let b <-EntryCells.newEntry head a .none (rawInt L) .none pl;setField (.ref x) 1 b) (fun _ s'=>wpAny M A (setFlight (.ref x) none) Q E s') E s:=by
 have d:x∉(env::outer).filterMap (·.frame):=fun H=>by
  obtain⟨_,o,l,J⟩:=F.mem H;rw[G] at l;injection l with l;subst l;exact J vs hd
 refine Ae (wpAny_frameOf_fun hfr F S fun c j=>?_);refine Ae (wpAny_entryPlaceOf fun pl g=>?_);unfold EntryCells.newEntry newFields;refine Ae (wpAny_newObj_type ?_ (g.sizeOk5 _ _ _ _ _));have y:c.get? x=some i:=(j.2.1 x d).trans G;have z:=Ai (h:=c) {cls:=.type "traceback",dict:=none,data:=.fields ([head,.ref L,.none,rawInt L,.none]++(if pl.isEmpty then Am 6 Value.none else pl)).toArray} y;refine wpAny_setField z hd hsz ?_;have r:c.objs.size≠x:=Nat.ne_of_gt (Ao y);have u:=Obj.data_mapFields hd (·.setIfInBounds 1 (Value.ref c.objs.size));have C:=Heap.get?_update_self (Obj.mapFields (·.setIfInBounds 1 (Value.ref c.objs.size))) z (Obj.isFreed_of_fields u);have D:=(Heap.get?_update_other (c.push {cls:=.type "traceback",dict:=none,data:=.fields ([head,.ref L,.none,rawInt L,.none]++(if pl.isEmpty then Am 6 Value.none else pl)).toArray})
  (Obj.mapFields (·.setIfInBounds 1 (Value.ref c.objs.size))) (Ne.symm r)).trans (AG c rfl)
 unfold setFlight;refine Ae (Bg C u (x:=.ref c.objs.size) (by simp[hsz]) ?_);rw[if_pos (show(Value.ref c.objs.size != Value.none)=true from by simp)];have T:c.objs.size=s⁻¹:=j.1;refine wpAny_setField D rfl (by simp only[At,AJ,AH,List.length_nil]<;>(first|lia|omega)) (h _ c.objs.size ω ?_ ?_)
 ·refine⟨_,_,?_,Obj.cls_mapFields _ _,(OE _ _).trans w,u,by simpa using hsz,.inr ⟨c.objs.size,_,_,rfl,by simp[hsz],r,Heap.get?_update_self _ D (Obj.isFreed_of_fields (Obj.data_mapFields rfl _)),Obj.data_mapFields rfl _,?_⟩⟩
  ·rw[Heap.get?_update_other _ _ r];exact C
  ·first|(simp;done)|(rcases g with rfl|⟨_,_,_,_,_,_,_,rfl⟩<;>simp)
 ·have keep:∀b o,b≠x->c.get? b=some o->
    (((c.push {cls:=.type "traceback",dict:=none,data:=.fields ([head,.ref L,.none,rawInt L,.none]++(if pl.isEmpty then Am 6 Value.none else pl)).toArray}).update x (Obj.mapFields (·.setIfInBounds 1 (Value.ref c.objs.size)))).update c.objs.size
     (Obj.mapFields (·.setIfInBounds 3 ((none:Option Addr).elim Value.none fun f=>rawInt f)))).get? b=some o:=fun b o p hb=>by
   have v:c.objs.size≠b:=Nat.ne_of_gt (Ao hb);rw[Heap.get?_update_other _ _ v,Heap.get?_update_other _ _ (Ne.symm p)];exact Ai _ hb
  refine⟨fun b o hb I _ q=>keep b o I ((j.2.1 b q).trans hb),fun b o hb q=>?_,?_⟩
  ·obtain⟨N,O⟩:=j.2.2 b o hb
   exact⟨N,keep b _ (fun e=>d (e▸q)) O⟩
  ·rw[Heap.size_update,Heap.size_update,Heap.size_push]
   show s⁻¹<=c.objs.size+1;(first|lia|omega)
def OF{base:Heap}{env:Env}{outer:List Env}{L x:Addr}{C:Value}{T:Option Addr}{Q:Unit->Shared->Prop}(hfr:A.frames=some (env::outer))(p:s.heap.FunFrames base (env::outer))(r:env.frame=some L)(c:Xc s.heap x C T)(h:∀h' T',s⁻¹<=T'->Xc h' x C (some T')->oh ((env::outer).filterMap (·.frame)) x T s.heap h'->Q () {s with heap:=h'}):wpAny M A (leaving env (.ref x)) Q E s:=by
 obtain⟨G,vs,c,rfl,f,hd,hsz,h1⟩:=c;unfold leaving noteFrame;simp only[r];rcases h1 with ⟨rfl,h1⟩|⟨a,H,D,rfl,h1,F,j,l,v⟩
 ·refine Ae (Ae (Bg c hd h1 ?_))
  rw[if_neg ξ];exact D6 hfr p r c f hd hsz h
 ·refine Ae (Ae (Bg c hd h1 ?_))
  rw[if_pos (show(Value.ref a != Value.none)=true from by simp)];refine Ae (Bg j l v ?_);rw[if_neg (show ¬((Value.none==rawInt L)=true) from by simp[rawInt])];refine Ae (wpAny_setField j l (Array.getElem?_eq_some_iff.mp v).1 ?_);have other:∀b,b≠a->(s.heap.update a (Obj.mapFields (·.setIfInBounds 3 Value.none))).get? b=s.heap.get? b:=fun b hb=>Heap.get?_update_other _ _ (Ne.symm hb);have y:∀b o,s.heap.get? b=some o->(∀vs,o.data≠.fields vs)->b≠a:=fun b o hb d q=>by
   rw[q,j] at hb;injection hb with hb;subst hb;exact d D l
  refine D6 hfr (p.of_keeps fun b o hb d=>⟨o,(other b (y b o hb d)).trans hb,rfl⟩) r ((other x (Ne.symm F)).trans c) f hd hsz fun h' T' u hx hk=>h h' T' (by rw[Heap.size_update] at u;exact u) hx ?_;obtain⟨k1,k2,k3⟩:=hk;refine⟨fun b o hb z i g=>k1 b o ((other b fun e=>i (by rw[e])).trans hb) z (by simp) g,fun b o hb g=>?_,by rw[Heap.size_update] at k3;exact k3⟩;obtain⟨_,o',w,d⟩:=p.mem g;rw[hb] at w;cases w;exact k2 b o ((other b (y b o hb d)).trans hb) g
end
def a8(P:Program)(w:World):ew:=fun outer H s E e s'=>∃(x C:Addr)(T:Option Addr)(H':Hp),e=.ref x/\s'.os=s.os/\AllBare s'.gens/\Un (frs outer) [] H H' s.heap s'.heap/\HOk P w H' s'.heap/\
 H' x=none/\s.heap.get? x=none/\(∀a,T=some a->H' a=none/\s.heap.get? a=none)/\Xc s'.heap x (.ref C) T/\E e (some C) H'
def Kl{P:Program}{w:World}{H:Hp}{h h':Heap}{fr:List Addr}{x:Addr}{T:Option Addr}(f:HOk P w H h)(k:oh fr x T h h')(hx:H x=none)(g:∀a,T=some a->H a=none)(i:∀b∈fr,H b=none):HOk P w H h':=by
 intro b u e;refine(f b u e).stay (fun c v hc q=>k.1 c v q ?_ ?_ ?_) (fun _ q=>q) fun _ _ q=>q
 all_goals
  have d:H c≠none:=by
   rcases hc with z|z
   ·rw[z,e];simp
   ·rw[z];simp
 ·exact fun z=>d (z▸hx)
 ·exact fun z=>d (g c z)
 ·exact fun z=>d (i c z)
def rS{P:Program}{w:World}{K:Ab}{mg:Str->Option Value}{base:Heap}{N:List Str}{g:Str}{scope:Scope}{f:Addr}{h:Value}{A:Around}{outer:List Env}{s:Shared}{H:Hp}{E:XK}{aa:Ψ}{σ:St}{H':Hp}{s':Shared}{x C:Addr}{T:Option Addr}(I:Inv (bQ (a8 P w) P w K mg base N g scope f h A outer s H E) aa σ H' s')(hx:Xc s'.heap x (.ref C) T)(p:H' x=none)(r:s.heap.get? x=none)(u:∀a,T=some a->H' a=none/\s.heap.get? a=none)(J:E (.ref x) (some C) H'):(bQ (a8 P w) P w K mg base N g scope f h A outer s H E).xe (.ref x) s':=by
 show wpAny (model P w) (A.deeper (envOfC g scope s⁻¹ f h)) (leaving (envOfC g scope s⁻¹ f h) (.ref x)) _ _ s';refine OF I.ok.frames I.stack rfl hx fun h' T' l v hk=>?_;have hfr:=I.stkFree;have hsz:s⁻¹<=s'⁻¹:=I.sz;have old:∀b o,s.heap.get? b=some o->b≠x/\T≠some b/\b≠s⁻¹:=fun b o e=>by
  have hb:=Ao e;exact⟨fun z=>(by rw[z,r] at e;cases e),fun z=>(by rw[(u b z).2] at e;cases e),Az hb⟩
 have up:∀b o o',s.heap.get? b=some o->s'.heap.get? b=some o'->b∉frs outer->h'.get? b=some o':=fun b o o' e c hb=>by
  obtain⟨n1,n2,D⟩:=old b o e;refine hk.1 b o' c n1 n2 fun y=>?_;have F:b∈s⁻¹::frs outer:=y;rcases List.mem_cons.mp F with z|z
  ·exact D z
  ·exact hb z
 have d:∀b o',s'.heap.get? b=some o'->b∈frs outer->∃j,h'.get? b=some {o' with slots:=j}:=fun b o' c hb=>hk.2.1 b o' c (show b∈s⁻¹::frs outer from AD _ hb);have i:∀b:Addr,b∉(bQ (a8 P w) P w K mg base N g scope f h A outer s H E).ex:=fun b z=>absurd (show b∈([]:List Addr) from z) (by simp);refine⟨x,C,some T',H',rfl,I.os,I.bare,⟨fun b o q n hb hx=>?_,fun b o q n hb hx=>?_,fun b o q n hx=>I.base.free b o q n (i b),fun b o q hx=>?_,I.base.tups,I.base.frzs,I.base.tbls⟩,Kl I.hok hk p (fun a e=>(u a e).1) hfr,p,r,fun a e=>?_,v,J⟩
 ·exact up b o o q (I.base.keep b o q n hb (i b)) hb
 ·obtain⟨j,e⟩:=I.base.slot b o q n hb (i b)
  obtain⟨G,c⟩:=d b _ e hb;exact⟨G,c⟩
 ·obtain⟨o',e⟩:=I.base.there b o q (i b)
  by_cases hb:b∈frs outer
  ·obtain⟨j,c⟩:=d b o' e hb
   exact⟨_,c⟩
  ·exact⟨o',up b o o' q e hb⟩
 ·cases e
  refine⟨I.hok.fresh l,?_⟩;cases q:s.heap.get? T' with
  |none=>rfl
  |some o=>exact absurd (Ao q) (Nat.not_lt.mpr (Ag hsz l))
def a7{P:Program}{w:World}{K:Ab}{mg:Str->Option Value}{base:Heap}{N:List Str}{i:Str}{scope:Scope}{f:Addr}{j:Value}{A:Around}{outer:List Env}{s:Shared}{H:Hp}{E:XK}:cJ (a8 P w) (bQ (a8 P w) P w K mg base N i scope f j A outer s H E) E:=by
 rintro aa σ H1 l e p I ⟨x,C,T,H',rfl,os,d,un,g,r,u,h,hx,v⟩;have y:Inv (bQ (a8 P w) P w K mg base N i scope f j A outer s H E) aa σ H' p:=I.call' (ch:=[]) os un g d (fun b z=>absurd z (by simp));have c:∀b,l.heap.get? b=none->s.heap.get? b=none:=fun b hb=>by
  cases q:s.heap.get? b with
  |none=>rfl
  |some o=>
   obtain⟨o',e⟩:=I.base.there b o q (fun z=>absurd (show b∈([]:List Addr) from z) (by simp));rw[hb] at e;cases e
 exact rS y hx r (c x u) (fun a e=>⟨(h a e).1,c a (h a e).2⟩) v
def FnOk.cx1{P:Program}{w:World}{K:Ab}{mg:Str->Option Value}{base:Heap}{k:Nat}{f:Addr}{fd:FuncData}{ps:List Str}{sp:Sp}(F:FnOk P w K mg base aJ k f fd ps sp):FnOk P w K mg base (a8 P w) k f fd ps sp:=
 ⟨F.len,fun A outer s H args us vs Q E hr a hb b c=>codeAny_mono (F.run A outer s H args us vs Q E hr a hb b c) fun r s' h=>by
  cases r with
  |error e=>exact h.elim
  |ok fl=>cases fl<;>exact h⟩
def Fun.ok1{P:Program}{w:World}{K:Ab}{mg:Str->Option Value}{base:Heap}{x b:Str}{st:Stmt}{f:Addr}{fd:FuncData}{N ps:List Str}{k:Nat}{sp:Sp}(F:Fun K x b st f fd)(S:zl N ps (zd st))(len:∀vs H Q E,sp vs H Q E->vs.length=ps.length)(e:∀(a:Value)(A:Around)(outer:List Env)(s:Shared)(H:Hp)(vs:List V)(Q:VK)(E:XK),Room k (A.deeper (envOfC b (zd st) s⁻¹ f a))->sp vs H Q E->
   ∃t,PSs (bQ (a8 P w) P w K mg base N b (zd st) f a A outer s H E) (zax st) t/\t {nx:=fun _ H'=>Q .non H',rt:=Q} (start N vs) H):FnOk P w K mg base (a8 P w) (k+1) f fd ps sp:=by
 obtain⟨g,h,kV,i,j,l,a,ct,o,rfl,lk,d⟩:=F.ex;exact J3 lk d S len fun A outer s H vs Q E hr c=>e a A outer s H vs Q E hr c
def OG{P:Program}{w:World}{H:Hp}{h:Heap}{a:Addr}{o:HO}(x:zar P w H h a o):∃b,h.get? a=some b:=by
 cases o with
 |lst xs=>obtain⟨_,_,_,_,e⟩:=x;exact⟨_,e⟩
 |tup xs=>obtain⟨_,_,_,o,e,_⟩:=x;exact⟨_,e⟩
 |dK kvs=>obtain⟨_,_,_,_,o,_,_,e,_⟩:=x;exact⟨_,e⟩
 |dT kvs=>obtain⟨_,_,_,_,o,_,_,e,_⟩:=x;exact⟨_,e⟩
 |set S n=>obtain⟨o,_,_,_,e,_⟩:=x;exact⟨_,e⟩
 |ins C dx fs=>obtain⟨_,_,_,e,_⟩:=x;exact⟨_,e⟩
 |own y=>exact x
 |xd fs=>obtain⟨_,⟨_,_,_,e,_⟩,_⟩:=x;exact⟨_,e⟩
 |met f y=>exact⟨_,x⟩
 |rng lo hi=>obtain⟨_,_,_,e⟩:=x;exact⟨_,e⟩
 |frz b u=>exact⟨_,x.1⟩
 |tbl ps=>exact⟨_,x⟩
 |ext φ=>exact x.2.1
def HJ{K:Ab}{h:Heap}{C:Addr}{c:List Value}{p:String}(X:K.In h)(q:Bk K C c p=true):∃bm N nm b bs hdct sn sub ab col dd k0 k1 k2 k3 k5,∃f:Str->Option Value,f "__init__"=none/\(∀T,c.contains (.type T)=true->bm.contains (.type T)=true)/\∀h':Heap,K.In h'->h'.get? C=some (excClassObj nm b C N bs bm hdct sn sub ab col dd k0 k1 k2 k3 k5 p)/\h'.Ns N f/\OwnTail h' c bm:=by
 unfold Bk at q;split at q
 ·rename_i dd cd sl ho
  split at q
  ·rename_i C' bm k0 k1 k2 k3 n k5 hm hs
   simp only[AX,beq_iff_eq,Bool.not_eq_true'] at q;obtain⟨⟨⟨⟨⟨rfl,rfl⟩,g⟩,i⟩,a⟩,j⟩:=q;obtain⟨nm,bs,mro,ns,b,hd,sn,sub,ab,col,v⟩:=cd;dsimp only at hm g a j;subst hm g;have s:sl=#[k0,k1,k2,k3,some (.builtin n),k5]:=by
    obtain⟨l⟩:=sl;simp only at hs;rw[hs]
   subst s;refine⟨bm,ns,nm,b,bs,hd,sn,sub,ab,col,dd,k0,k1,k2,k3,k5,h.nsMap ns,PySem.W.nsMap_none_of_in X a j,fun T r=>(PySem.W.tail_of_in X i).hasType r,fun h' d=>⟨d _ _ ho,?_,PySem.W.tail_of_in d i⟩⟩;have u:h.Ns ns (h.nsMap ns):=.of_isNs (PySem.W.isNs_of_in X a);unfold PySem.W.nsOkIn at a;split at a
   ·rename_i c1 d1 es1 ep1 sl1 ja
    exact u.at' fun o e=>by
     rw[X _ _ ja] at e;rw[<-e];exact d _ _ ja
   ·cases a
  ·cases q
 ·cases q
abbrev ge:List Value:=[.type "ValueError",.type "Exception",.type "BaseException",.type "object"]
section
variable{X:Cx}
def OH(EX:XK)(C:Addr):TS:=fun _ _ H=>∀x,H x=none->EX (.ref x) (some C) H
def Ee{x:Str}{C:Addr}{c:Str}{j:Nat}{P g aA pos:Pos}{EX:XK}(hc:X.calm=true)(hg:Gl X x)(a:X.mg x=some (.ref C))(q:Bk X.K C ge "ValueError.__new__"=true)(Q:∀(aa:Ψ)(σ:St)(H:Hp)(s:Shared)(x:Addr),Inv X aa σ H s->Xc s.heap x (.ref C) none->H x=none->X.s₀.heap.get? x=none->EX (.ref x) (some C) H->X.xe (.ref x) s)(S:X.ex=[]:=by rfl)(hd:(x==("__debug__":Str))=false:=by decide)(T:(backTo aA (starEach [Expr.Constant (.str c) j g] X.env)).any (·.1)=false:=by rfl):PS X (.Raise (some (.Call (.Name x P) [.Constant (.str c) j g] [] aA)) none pos) (OH EX C):=by
 intro aa s σ H D I h;obtain⟨bm,N,nm,y,bs,hdct,sn,sub,ab,col,dd,k0,k1,k2,k3,k5,Y,A,E,G⟩:=HJ I.kIn q;refine wpAny_Raise_call_subU (C:=C) (nm:=nm) (q:=y) (N:=N) (bs:=bs) (bm:=bm) (hdct:=hdct) (sn:=sn) (sub:=sub) (ab:=ab) (col:=col) (dd:=dd) (k0:=k0) (k1:=k1) (k2:=k2) (k3:=k3) (k5:=k5) PySem.F.excBase_ValueError PySem.F.excBase_ValueError.hasB PySem.F.excBase_ValueError (E _ PySem.F.excBase_ValueError.hasBase) (I.ok.hd hc) T A ?_;refine aX (im (v:=.ref C) hg a rfl hd aa s σ H (fun v H1=>v=.ref C/\H1=H) I ⟨rfl,rfl⟩) fun f l ⟨v,H1,U,p,e1,e2⟩=>?_;subst e1 e2;cases p;refine⟨rfl,?_⟩;have O:=(af pe_str ak:PA X [Expr.Constant (.str c) j g] _) aA aa l σ H1 (fun vs H2=>vs=[.str c]/\H2=H1) U ⟨rfl,rfl⟩;refine Calls.evalArgs_plain (aX O fun us d ⟨vs,H2,I2,r,e3,w⟩=>?_);subst e3 w;obtain⟨c1,J,L⟩:=G d.heap I2.kIn;refine⟨rfl,?_,c1,J,L,fun h' e a=>?_⟩
 ·rw[<-r.length];show 1<=sizeLine;decide
 obtain⟨t,M,_,_⟩:=a.there;have W:Inv X aa σ H2 {d with heap:=h'}:=I2.kept (t':=d.toks) a.keeps;have i:H2 e=none:=by
  cases z:H2 e with
  |none=>rfl
  |some u=>
   obtain⟨o,b⟩:=OG (I2.hok e u z);rw[a.new] at b;cases b
 refine Q aa σ H2 _ e W ⟨_,_,M,rfl,rfl,rfl,(by show 1<6;decide),.inl ⟨rfl,rfl⟩⟩ i ?_ (h e i);cases z:X.s₀.heap.get? e with
 |none=>rfl
 |some o=>
  obtain⟨o',b⟩:=I2.base.there e o z (by rw[S];simp);rw[a.new] at b;cases b
end
section
variable{M:Model}{A:Around}{E:Ω}{s:Shared}
def OI{base:Heap}{env:Env}{outer:List Env}{L x:Addr}{C:Value}{T:Option Addr}{Q:Unit->Shared->Prop}(hfr:A.frames=some (env::outer))(p:s.heap.FunFrames base (env::outer))(r:env.frame=some L)(c:Xc s.heap x C T)(h:∀h' T',s⁻¹<=T'->Xc h' x C (some T')->oh ((env::outer).filterMap (·.frame)) x T s.heap h'->Q () {s with heap:=h'}):wpAny M A (noteFrame (.ref x) env) (fun _ z=>wpAny M A (setFlight (.ref x) none) Q E z) E s:=by
 obtain⟨H,vs,c,rfl,f,hd,hsz,h1⟩:=c;unfold noteFrame;simp only[r];rcases h1 with ⟨rfl,h1⟩|⟨a,I,F,rfl,h1,G,j,l,v⟩
 ·refine Ae (Bg c hd h1 ?_)
  rw[if_neg ξ];exact D6 hfr p r c f hd hsz h
 ·refine Ae (Bg c hd h1 ?_)
  rw[if_pos (show(Value.ref a != Value.none)=true from by simp)];refine Ae (Bg j l v ?_);rw[if_neg (show ¬((Value.none==rawInt L)=true) from by simp[rawInt])];refine Ae (wpAny_setField j l (Array.getElem?_eq_some_iff.mp v).1 ?_);have other:∀b,b≠a->(s.heap.update a (Obj.mapFields (·.setIfInBounds 3 Value.none))).get? b=s.heap.get? b:=fun b hb=>Heap.get?_update_other _ _ (Ne.symm hb);have y:∀b o,s.heap.get? b=some o->(∀vs,o.data≠.fields vs)->b≠a:=fun b o hb d q=>by
   rw[q,j] at hb;injection hb with hb;subst hb;exact d F l
  refine D6 hfr (p.of_keeps fun b o hb d=>⟨o,(other b (y b o hb d)).trans hb,rfl⟩) r ((other x (Ne.symm G)).trans c) f hd hsz fun h' T' u hx hk=>h h' T' (by rw[Heap.size_update] at u;exact u) hx ?_;obtain⟨k1,k2,k3⟩:=hk;refine⟨fun b o hb D i g=>k1 b o ((other b fun e=>i (by rw[e])).trans hb) D (by simp) g,fun b o hb g=>?_,by rw[Heap.size_update] at k3;exact k3⟩;obtain⟨_,o',w,d⟩:=p.mem g;rw[hb] at w;cases w;exact k2 b o ((other b (y b o hb d)).trans hb) g
def OJ{x:Addr}{C:Value}{T:Addr}{Q:Unit->Shared->Prop}(d:Xc s.heap x C (some T))(h:∀h',Xc h' x C (some T)->oh [] x (some T) s.heap h'->Q () {s with heap:=h'}):wpAny M A (setFlight (.ref x) none) Q E s:=by
 obtain⟨p,vs,d,rfl,g,hd,hsz,h1⟩:=d;rcases h1 with ⟨z,_⟩|⟨a,u,v,z,h1,j,l,i,q⟩
 ·cases z
 cases z;unfold setFlight;refine Ae (Bg d hd h1 ?_);rw[if_pos (show(Value.ref T != Value.none)=true from by simp)];have c:=(Array.getElem?_eq_some_iff.mp q).1;refine wpAny_setField l i c (h _ ?_ ?_)
 ·refine⟨p,vs,?_,rfl,g,hd,hsz,.inr ⟨T,_,_,rfl,h1,j,Heap.get?_update_self _ l (Obj.isFreed_of_fields (Obj.data_mapFields i _)),Obj.data_mapFields i _,?_⟩⟩
  ·rw[Heap.get?_update_other _ _ j];exact d
  ·simp[c]
 ·refine⟨fun b o hb r f _=>?_,fun b o _ z=>absurd z (by simp),by rw[Heap.size_update];exact Af _⟩
  rw[Heap.get?_update_other _ _ (fun e=>f (by rw[e]))];exact hb
def OK{C S:Addr}{nm q N bs bm hdct sn sub ab col dd k0 k1 k2 k3 k5 bE}{iA q' N' iq eW bO io dt iG dr dU iK iC iM iz iF bW}{h:Heap}{g:Array GenState}{d:Drawn}{t:Nat}{os:OsState}{e:Addr}{b:Obj}{Q:Bool->Shared->Prop}(i:h.get? C=some (excClassObj nm q C N bs bm hdct sn sub ab col dd k0 k1 k2 k3 k5 bE))(c:h.get? S=some (excClassObj iA q' S N' iq eW bO io dt iG dr dU iK iC iM iz iF bW))(j:h.get? e=some b)(l:b.cls=.ref C)(o:eW.contains (.type "BaseException")=true)(p:(Value.ref C::bm).contains (.ref S)=true)(hq:Q true ⟨h,g,d,t,os⟩):wpAny M A (excMatches (.ref e) (.ref S)) Q E ⟨h,g,d,t,os⟩:=by
 have a:(Value.ref S::eW).contains (.type "BaseException")=true:=by rw[List.contains_cons,o,Bool.or_true]
 have f:=tc_notTuple;unfold excMatches
 repeat(first|(with_reducible refine wpAny_loadPart_at j ?_;rw[l])|with_reducible refine wpAny_loadPart_at c ?_|(with_reducible refine wpAny_isSubtype_exc c ?_;rw[a])|(with_reducible refine wpAny_isSubtype_exc i ?_;rw[p])|wp_step)
 exact hq
end
section
variable{X:Cx}{aa:Ψ}{σ:List (Option V)}{H H':Hp}{s:Shared}{h':Heap}
structure Off(X:Cx)(aa:Ψ)(x:Addr):Prop where
 s0:X.s₀.heap.get? x=none
 lo:x≠X.env.locals
 ce:∀y c,X.env.cells.lookup y=some c->c≠x
 pn:∀p∈X.pn++aa,p.1≠x
def Inv.off(I:Inv X aa σ H s)(b:X.ex=[]){x:Addr}(h:s.heap.get? x=none):Off X aa x:=by
 refine⟨?_,fun e=>?_,fun y c e z=>?_,fun p hp z=>?_⟩
 ·cases q:X.s₀.heap.get? x with
  |none=>rfl
  |some o=>
   obtain⟨o',e⟩:=I.base.there x o q (by rw[b];simp);rw[h] at e;cases e
 ·obtain⟨m,⟨o,_,_,a,_⟩,_⟩:=I.loc
  rw[<-e,h] at a;cases a
 ·obtain⟨v,o,a,_⟩:=I.cell y c e
  rw[z,h] at a;cases a
 ·have:=(I.pin p hp).1
  rw[z,h] at this;cases this
def Inv.stepN{ch:List Addr}(I:Inv X aa σ H s)(j:∀b∈ch,Off X aa b)(keep:∀b o,b≠X.env.locals->b∉X.fs->b∉ch->s.heap.get? b=some o->H b=none->h'.get? b=some o)(slot:∀b o,b≠X.env.locals->b∈X.fs->b∉ch->s.heap.get? b=some o->H b=none->∃A,h'.get? b=some {o with slots:=A})(free:∀b o,b∉ch->s.heap.get? b=some o->H b=none->H' b=none)(there:∀b o,b∉ch->s.heap.get? b=some o->∃o',h'.get? b=some o')(tups:∀b xs,H b=some (.tup xs)->H' b=some (.tup xs))(frzs:∀b o u,H b=some (.frz o u)->H' b=some (.frz o u))(tbls:∀b ps,H b=some (.tbl ps)->∃more,H' b=some (.tbl (ps++more)))(ns:∀m,s.heap.Ns X.env.locals m->h'.Ns X.env.locals m)(C:HOk X.prog X.w H' h'):Inv X aa σ H' {s with heap:=h'}:=by
 have h:∀b o,X.s₀.heap.get? b=some o->b≠X.env.locals:=fun b o e=>Az (Au (Ao e) I.ok.above);have y:∀b o,X.s₀.heap.get? b=some o->b∉ch:=fun b o e hb=>by
  rw[(j b hb).s0] at e;cases e
 have a:∀x c,X.env.cells.lookup x=some c->∀v,s.heap.IsCell c v->h'.IsCell c v:=fun x c e v ⟨o,g,hd⟩=>by
  have f:c∉ch:=fun z=>(j c z).ce x c e rfl
  by_cases hc:c∈X.fs
  ·obtain⟨A,q⟩:=slot c o (I.cne x c e) hc f g (I.freeC x c e)
   exact⟨_,q,hd⟩
  ·exact⟨o,keep c o (I.cne x c e) hc f g (I.freeC x c e),hd⟩
 refine⟨I.ok,I.os,I.bare,⟨fun b o e n hb hx=>?_,fun b o e n hb hx=>?_,fun b o e n hx=>?_,fun b o e hx=>?_,fun b xs e=>tups b xs (I.base.tups b xs e),fun b o xs e=>frzs b o xs (I.base.frzs b o xs e),fun b ps e=>?_⟩,?_,fun x c e=>?_,?_,fun x c e=>?_,fun p hp=>?_,C,I.len⟩
 ·exact keep b o (h b o e) hb (y b o e) (I.base.keep b o e n hb hx) (I.base.free b o e n hx)
 ·obtain⟨A,e1⟩:=I.base.slot b o e n hb hx
  obtain⟨E,e2⟩:=slot b _ (h b o e) hb (y b o e) e1 (I.base.free b o e n hx);exact⟨E,e2⟩
 ·obtain⟨o',e1⟩:=I.base.there b o e hx
  exact free b o' (y b o e) e1 (I.base.free b o e n hx)
 ·obtain⟨o',e1⟩:=I.base.there b o e hx
  exact there b o' (y b o e) e1
 ·obtain⟨F,e1⟩:=I.base.tbls b ps e
  obtain⟨m2,e2⟩:=tbls b _ e1;exact⟨F++m2,by rw[e2,Array.append_assoc]⟩
 ·obtain⟨m,G,J⟩:=I.loc
  refine⟨m,ns m G,fun i x v e1 e2 e3=>?_⟩;obtain⟨u,r,l⟩:=J i x v e1 e2 e3;refine⟨u,r,?_⟩;rcases l with l|⟨k,c,e,z⟩
  ·exact .inl l
  ·exact .inr ⟨k,c,e,a x c e _ z⟩
 ·obtain⟨v,z⟩:=I.cell x c e
  exact⟨v,a x c e v z⟩
 ·obtain⟨m,⟨o,_,_,g,_⟩,_⟩:=I.loc
  exact free _ o (fun z=>(j _ z).lo rfl) g I.free
 ·obtain⟨v,o,g,hd⟩:=I.cell x c e
  exact free c o (fun z=>(j c z).ce x c e rfl) g (I.freeC x c e)
 ·obtain⟨e,n,ne,D,d⟩:=I.pin p hp
  have f:p.1∉ch:=fun z=>(j p.1 z).pn p hp rfl;exact⟨keep p.1 p.2 ne D f e n,free p.1 p.2 f e n,ne,D,d⟩
def Inv.xkeep{fr:List Addr}{x:Addr}{T:Option Addr}(I:Inv X aa σ H s)(k:oh fr x T s.heap h')(hfr:∀b∈fr,b∈frs X.stack)(ox:Off X aa x)(hx:H x=none)(d:∀a,T=some a->Off X aa a/\H a=none):Inv X aa σ H {s with heap:=h'}:=by
 have c:∀b o,b∉(x::T.toList)->s.heap.get? b=some o->∃c,h'.get? b=some {o with slots:=c}:=fun b o hc e=>by
  by_cases hb:b∈fr
  ·exact k.2.1 b o e hb
  ·exact⟨o.slots,k.1 b o e (fun z=>hc (by simp[z])) (fun z=>hc (by simp[z])) hb⟩
 refine I.stepN (ch:=x::T.toList) (fun b hb=>?_) (fun b o f hb hc e _=>?_) (fun b o _ _ hc e _=>c b o hc e) (fun _ _ _ _ n=>n) (fun b o hc e=>?_) (fun _ _ e=>e) (fun _ _ _ e=>e) (fun b ps e=>⟨#[],by rw[e];simp⟩) (fun m g=>?_) (Kl I.hok k hx (fun a e=>(d a e).2) fun b hb=>I.stkFree b (hfr b hb))
 ·rcases List.mem_cons.mp hb with z|z
  ·rw[z];exact ox
  ·exact(d b (by simpa using z)).1
 ·exact k.1 b o e (fun z=>hc (by simp[z])) (fun z=>hc (by simp[z])) fun z=>(List.mem_cons.mp (I.stkSub b (hfr b z))).elim f hb
 ·obtain⟨z,e⟩:=c b o hc e
  exact⟨_,e⟩
 ·obtain⟨o,es,ep,h,r⟩:=g
  obtain⟨z,e⟩:=c _ o (fun z=>by
   rcases List.mem_cons.mp z with z|z
   ·exact ox.lo z.symm
   ·exact(d _ (by simpa using z)).1.lo rfl) h
  exact⟨_,es,ep,e,r⟩
abbrev fQ(x C:Addr):HO:=.ext fun h=>∃o,PySem.W.InstAt h x o C none
def Inv.know{x C:Addr}{T:Option Addr}(I:Inv X aa σ H s)(hx:H x=none)(ox:Off X aa x)(e:Xc s.heap x (.ref C) T):Inv X aa σ (upd H x (fQ x C)) s:=by
 obtain⟨a,vs,h,hc,d,l,_⟩:=e;have j:PySem.W.notCls a=true:=by unfold PySem.W.notCls;rw[l]
 have f:match a.dict,(none:Option Obj) with|some dx,some o=>s.heap.get? dx=some o|none,none=>True|_,_=>False:=by rw[d];trivial
 have ne:∀b u,H b=some u->b≠x:=fun b u e z=>by rw[z,hx] at e;cases e
 refine I.stepN (h':=s.heap) (ch:=[x]) (fun b hb=>?_) (fun b o _ _ _ e _=>e) (fun b o _ _ _ e _=>⟨o.slots,e⟩) (fun b o hc _ n=>?_) (fun b o _ e=>⟨o,e⟩) (fun b xs e=>?_) (fun b o u e=>?_) (fun b ps e=>⟨#[],?_⟩) (fun m i=>i) (fun b u e=>?_)
 ·obtain rfl:b=x:=by simpa using hb
  exact ox
 ·rw[aq (fun z=>hc (by simp[z]))];exact n
 ·rw[aq (ne b _ e)];exact e
 ·rw[aq (ne b _ e)];exact e
 ·rw[aq (ne b _ e),e];simp
 ·by_cases hb:b=x
  ·subst hb
   rw[al] at e;cases e;refine⟨⟨a,h,hc,j,f⟩,⟨a,h⟩,fun h1 h2 ⟨o,e1,e2,e3,g⟩ q=>⟨o,q o e1,e2,e3,?_⟩⟩;cases z:o.dict with
   |none=>trivial
   |some dx=>rw[z] at g;exact g.elim
  ·rw[aq hb] at e
   refine(I.hok b u e).stay (fun c v _ q=>q) (fun c q=>?_) fun c xs q=>?_
   ·rw[aq (ne c _ q)];exact q
   ·rw[aq (ne c _ q)];exact q
end
section
variable{X:Cx}{aa bF:Ψ}{σ:List (Option V)}{H H':Hp}{s:Shared}{h':Heap}{EB:XK}
def OL(X:Cx)(aa:Ψ)(EB:XK):Ω:=fun e s=>∃(x C:Addr)(T:Option Addr)(σ:St)(H:Hp),e=.ref x/\Inv X aa σ H s/\Xc s.heap x (.ref C) T/\H x=none/\Off X aa x/\(∀a,T=some a->Off X aa a/\H a=none)/\EB (.ref x) (some C) H
abbrev XB(X:Cx)(aa:Ψ)(EB:XK):Cx:={X with pn:=X.pn++aa,xe:=OL X aa EB}
abbrev XH(X:Cx)(aa:Ψ)(x:Addr):Cx:={X with A:=X.A.mark (some (.ref x)),calm:=false,pn:=X.pn++aa,xe:=fun _ _=>False}
def Inv.toB(I:Inv X aa σ H s):Inv (XB X aa EB) [] σ H s:=
 ⟨⟨I.ok.mod,I.ok.kind,I.ok.glob,I.ok.blt,I.ok.above,I.ok.inj,I.ok.has,I.ok.cab,I.ok.hd,I.ok.frames,I.ok.stk,I.ok.exf,I.ok.bs,I.ok.bsz,I.ok.noex,I.ok.exfs,I.ok.funs,I.ok.frf⟩,I.os,I.bare,I.base,I.loc,I.cell,I.free,I.freeC,
  fun p hp=>I.pin p (by simpa using hp),I.hok,I.len⟩
def Inv.ofB(I:Inv (XB X aa EB) bF σ H s):Inv X aa σ H s:=
 ⟨⟨I.ok.mod,I.ok.kind,I.ok.glob,I.ok.blt,I.ok.above,I.ok.inj,I.ok.has,I.ok.cab,I.ok.hd,I.ok.frames,I.ok.stk,I.ok.exf,I.ok.bs,I.ok.bsz,I.ok.noex,I.ok.exfs,I.ok.funs,I.ok.frf⟩,I.os,I.bare,I.base,I.loc,I.cell,I.free,I.freeC,
  fun p hp=>I.pin p (AY _ hp),I.hok,I.len⟩
def Inv.toH{x:Addr}(I:Inv X aa σ H s):Inv (XH X aa x) [] σ H s:=
 ⟨⟨I.ok.mod,I.ok.kind,I.ok.glob,I.ok.blt,I.ok.above,I.ok.inj,I.ok.has,I.ok.cab,(fun z=>nomatch z),I.ok.frames,I.ok.stk,I.ok.exf,I.ok.bs,I.ok.bsz,I.ok.noex,I.ok.exfs,I.ok.funs,I.ok.frf⟩,I.os,I.bare,I.base,I.loc,I.cell,I.free,I.freeC,
  fun p hp=>I.pin p (by simpa using hp),I.hok,I.len⟩
def Inv.ofH{x:Addr}(I:Inv (XH X aa x) bF σ H s)(hd:X.calm=true->X.A.handled=none):Inv X aa σ H s:=
 ⟨⟨I.ok.mod,I.ok.kind,I.ok.glob,I.ok.blt,I.ok.above,I.ok.inj,I.ok.has,I.ok.cab,hd,I.ok.frames,I.ok.stk,I.ok.exf,I.ok.bs,I.ok.bsz,I.ok.noex,I.ok.exfs,I.ok.funs,I.ok.frf⟩,I.os,I.bare,I.base,I.loc,I.cell,I.free,I.freeC,
  fun p hp=>I.pin p (AY _ hp),I.hok,I.len⟩
def SP.ofB{D:Ends}{f:Flow}{s':Shared}(h:SP (XB X aa EB) [] D f s'):SP X aa D f s':=by
 cases f with
 |next=>obtain⟨a,H',I,q⟩:=h;exact⟨a,H',I.ofB,q⟩
 |brk=>obtain⟨a,H',I,q⟩:=h;exact⟨a,H',I.ofB,q⟩
 |cont=>obtain⟨a,H',I,q⟩:=h;exact⟨a,H',I.ofB,q⟩
 |ret u=>obtain⟨v,a,H',I,r,q⟩:=h;exact⟨v,a,H',I.ofB,r,q⟩
def Km(g:X.ex=[]):cJ (a8 X.prog X.w) (XB X aa EB) EB:=by
 rintro bF σ H1 h e i I ⟨x,C,T,H',rfl,os,c,un,d,j,l,f,hx,o⟩;have I2:Inv (XB X aa EB) bF σ H' i:=I.call' (ch:=[]) os un d c (fun b z=>absurd z (by simp));have J:Inv X aa σ H1 h:=I.ofB;exact⟨x,C,T,σ,H',rfl,I2.ofB,hx,j,J.off g l,fun a e=>⟨J.off g (f a e).2,(f a e).1⟩,o⟩
def Inv.gone{i:Nat}{n:Str}{m:Str->Option Value}{u:Option Value}(I:Inv X aa σ H s)(E:X.N.Nodup)(hi:X.N[i]?=some n)(F:∀(i:Nat)(x:Str)(v:V),X.N[i]?=some x->σ[i]?=some (some v)->qj X.env.scope x->∃u,RelV v u/\Look X.env s.heap m x u)(G:h'.Ns X.env.locals fun y=>if y=n then u else m y)(a:Heap.SameBut X.env.locals s.heap h'):Inv X aa (σ.set i none) H {s with heap:=h'}:=by
 have f:i<σ.length:=by rw[I.len];exact(List.getElem?_eq_some_iff.mp hi).1
 refine⟨I.ok,I.os,I.bare,⟨fun b o e n hb hx=>?_,fun b o e n hb hx=>?_,I.base.free,fun b o e hx=>?_,I.base.tups,I.base.frzs,I.base.tbls⟩,⟨_,G,fun j y l e1 e2 e3=>?_⟩,fun y c e=>?_,I.free,I.freeC,fun p hp=>?_,fun b r e=>?_,by simpa using I.len⟩
 ·exact(a.2 b (Az (Au (Ao e) I.ok.above))).trans (I.base.keep b o e n hb hx)
 ·obtain⟨w,e1⟩:=I.base.slot b o e n hb hx
  exact⟨w,(a.2 b (Az (Au (Ao e) I.ok.above))).trans e1⟩
 ·obtain⟨o',e1⟩:=I.base.there b o e hx
  exact⟨o',(a.2 b (Az (Au (Ao e) I.ok.above))).trans e1⟩
 ·by_cases g:j=i
  ·subst g
   rw[List.getElem?_set_self f] at e2;cases e2
  ·rw[List.getElem?_set_ne (Ne.symm g)] at e2
   obtain⟨A,C,q⟩:=F j y l e1 e2 e3;refine⟨A,C,?_⟩;rcases q with ⟨k,e⟩|⟨k,c,e,z⟩
   ·refine .inl ⟨k,?_⟩
    have:y≠n:=fun e=>g (G0 E e1 (e▸hi));simp[this,e]
   ·exact .inr ⟨k,c,e,z.sameBut a (I.cne y c e)⟩
 ·obtain⟨h,z⟩:=I.cell y c e
  exact⟨h,z.sameBut a (I.cne y c e)⟩
 ·obtain⟨e,n,ne,D,d⟩:=I.pin p hp
  exact⟨(a.2 p.1 ne).trans e,n,ne,D,d⟩
 ·refine(I.hok b r e).stay (fun c h hc q=>(a.2 c ?_).trans q) (fun _ q=>q) fun _ _ q=>q
  rintro rfl;rcases hc with z|z
  ·rw[<-z,I.free] at e;cases e
  ·rw[I.free] at z;cases z
def dq(K:Ab)(C S:Addr):Prop:=∀h:Heap,K.In h->∃nm q N bs bm hdct sn sub ab col dd k0 k1 k2 k3 k5 b c d N' e a f g i j l o p r s u v w,
 h.get? C=some (excClassObj nm q C N bs bm hdct sn sub ab col dd k0 k1 k2 k3 k5 b)/\h.get? S=some (excClassObj c d S N' e a f g i j l o p r s u v w)/\
 a.contains (.type "BaseException")=true/\(Value.ref C::bm).contains (.ref S)=true
def r_(K:Ab)(n ie:Nat)(S:Addr)(d:TS)(D:Ends):XK:=fun e c H'=>∃x C,e=.ref x/\c=some C/\dq K C S/\∀a:St,a.length=n->
 d {nx:=fun b H2=>D.nx (b.set ie none) H2,rt:=fun _ _=>False} (a.set ie (some (.ref x))) (upd H' x (fQ x C))
def HK(K:Ab)(n ie:Nat)(S:Addr)(t:XK->TS)(a:TS):TS:=fun D σ H=>t (r_ K n ie S a D) D σ H
def OM{n:Str}{ie:Nat}{p:Str}{S:Addr}{Q U:List Stmt}{W:Stmt}{t:XK->TS}{Y:TS}{np c pos:Pos}(fO:X.ex=[])(E:X.N.Nodup)(j:X.N[ie]?=some n)(g:X.env.scope.names.lookup n=some .local)(r:X.stack=X.env::X.outer)(hfr:X.env.frame=some X.env.locals)(vk:Gl X p)(uE:X.mg p=some (.ref S))(hb:∀aa EB,PSs (XB X aa EB) Q (t EB))(hH:∀aa x,PSs (XH X aa x) (W::U) Y)(hd:(p==("__debug__":Str))=false:=by decide):PS X (.Try Q [.ExceptHandler (some (.Name p np)) (some n) (W::U) c] [] [] pos) (HK X.K X.N.length ie S t Y):=by
 intro aa s σ H D I h;refine wpAny_Try_except (wpAny_mono (hb aa _ [] s σ H D I.toB h) (fun f d q=>?_) (fun e d q=>?_))
 ·have i:SP X aa D f d:=q.ofB
  cases f with
  |next=>exact wpAny_execs_nil i
  |brk=>exact i
  |cont=>exact i
  |ret u=>exact i
 obtain⟨x,C,T,o,H1,rfl,I1,hx,y,ox,hT,x',C',e1,e2,sub,k⟩:=q;cases e1;cases e2;have vi:=r;refine OI (base:=X.base) (outer:=X.outer) (L:=X.env.locals) (by rw[<-r];exact I1.ok.frames) (by rw[<-r];exact I1.stack) hfr hx fun h2 T2 F G t6=>?_;have I2:Inv X aa o H1 {d with heap:=h2}:=I1.xkeep t6 (fun b z=>by rw[r];exact z) ox y hT;have tP:d.heap.get? T2=none:=Heap.get?_none_of_le F;have uc:Off X aa T2:=I1.off fO tP;have vO:H1 T2=none:=I1.hok.fresh F;refine wpAny_handleBy_cons (codeAny_handlers_test ?_) (by intro q;cases q);refine BK (X:=XH X aa x) (I2.toH (x:=x)) vk uE ?_ hd;obtain⟨nm,q,N,bs,bm,hdct,sn,dt,ab,col,dd,k0,k1,k2,k3,k5,bE,iA,i,N',iq,eW,bO,io,rE,iG,dr,dU,iK,iC,iM,iz,iF,bW,hC,hS,jG,dH⟩:=sub h2 I2.kIn;obtain⟨oe,vs,fB,A,_⟩:=id G;refine OK hC hS fB A jG dH ?_;show codeAny _ _ _ _ _;refine codeAny_handlers_suite_as ?_;refine OJ G fun w BD jW=>?_;have I4:Inv X aa o H1 {d with heap:=w}:=I2.xkeep (h':=w) jW (fun b z=>absurd z (by simp)) ox y (fun a e=>by cases e;exact⟨uc,vO⟩);have I5:Inv X aa o (upd H1 x (fQ x C)) {d with heap:=w}:=I4.know y ox BD;refine BG (X:=XH X aa x) (I5.toH (x:=x)) E j (.inl g) (v:=.ref x) rfl (fun s6 I6=>?_) (.inr g);refine wpAny_mono (hH aa x [] s6 _ _ _ I6 (k o I1.len)) (fun f J l=>?_) fun _ _ z=>z.elim;cases f with
 |brk=>obtain⟨_,_,_,z⟩:=l;exact z.elim
 |cont=>obtain⟨_,_,_,z⟩:=l;exact z.elim
 |ret u=>obtain⟨_,_,_,_,_,z⟩:=l;exact z.elim
 |next=>
  obtain⟨M,Z,I7,d7⟩:=l;have I7':Inv X aa M Z J:=I7.ofH I.ok.hd;show wpAny _ _ (do bindName X.env n .none;unbindBehindTheSuite X.env n c) _ _ J;refine Ae (wpAny_bindName (BG I7' E j (.inl g) (v:=.non) rfl (fun s8 I8=>?_) (.inr g)));obtain⟨m,hn,O⟩:=id I8.loc;have mY:ie<M.length:=by rw[I7'.len];exact(List.getElem?_eq_some_iff.mp j).1
  obtain⟨u,_,lk⟩:=O ie n .non j (by rw[List.getElem?_set_self mY]) (.inl g);have P:X.env.kindOf n=some .local:=g;have hm:m n=some u:=by
   rcases lk with ⟨_,e⟩|⟨z,_⟩
   ·exact e
   ·rw[P] at z;rcases z with z|z<;>cases z
  unfold unbindBehindTheSuite;refine wpAny_onRaise (wpAny_unbindName_local P hn hm (by rw[I.ok.kind];rfl) fun h9 u9 tM yf=>?_);have I9:=I8.gone E j O tM yf;rw[List.set_set] at I9;exact⟨_,Z,I9,d7⟩
end
def ON{K:Ab}{C:Addr}{name:Str}{a g:Value}(hc:(PySem.W.clsIn K C).isSome=true)(b:PySem.W.findIn K (.ref C) name=some (some a))(hg:PySem.W.specialIn K a "__get__"=some (some g))(c:PySem.W.takesIn K a=some true):PySem.W.findObj K C none name=some (.bind g a):=by
 obtain⟨d,hc⟩:=Option.isSome_iff_exists.mp hc;unfold PySem.W.findObj;rw[hc,Option.bind_some,b,Option.bind_some];simp[hg,c]
structure eE(K:Ab)(D:Addr):Prop where
 ga:PySem.W.findIn K (.ref D) "__getattribute__"=some (some (.builtin "BaseException.__getattribute__"))
 gt:PySem.W.findIn K (.ref D) "__getattr__"=some none
 cls:(PySem.W.clsIn K D).isSome=true
 find:PySem.W.findIn K (.ref D) "__class__"=some (some (.builtin "object.__class__"))
 spec:PySem.W.specialIn K (.builtin "object.__class__") "__get__"=some (some (.builtin "getset_descriptor.__get__"))
 tk:PySem.W.takesIn K (.builtin "object.__class__")=some true
 mro:PySem.W.mroIn K D (.type "object")=some true
 mroB:PySem.W.mroIn K D (.type "BaseException")=some true
section
variable{prog:Program}{w:World}{A:Around}{E:Ω}{s:Shared}{K:Ab}{x D:Addr}{ox:Obj}
def OO{M:Model}{b:Value}{Q:Unit->Shared->Prop}(c:eE K D)(X:K.In s.heap)(I:PySem.W.InstAt s.heap x ox D none)(hq:Q () s):wpAny M A (checkBuiltinCall "BaseException.__getattribute__" ⟨[.ref x,b],[]⟩) Q E s:=by
 obtain⟨e,g,d,t,os⟩:=s;have hk:builtinKind "BaseException.__getattribute__"=some .slot:=δ
 have a:splitId "BaseException.__getattribute__"=some ("BaseException","__getattribute__"):=δ
 have f:=F.args_bexc_ga (.ref x) b;have L0:=I.type (M:=M);have L1:=PySem.W.looks_mroIn (M:=M) X c.mroB;simp only[checkBuiltinCall,hk,a];refine Ae ?_;unfold isInstance;refine Ae (L0.at (L1.at ?_))
 repeat(first|assumption|wp_step)
def OP{tk:Tok}{Q:Fin->Shared->Prop}(c:eE K D)(X:K.In s.heap)(I:PySem.W.InstAt s.heap x ox D none)(hq:Q (.done (.ret (.ref D))) s):wpAny (model prog w) A (Builtin.«object.__getattribute__» ⟨[.ref x,.str "__class__" tk],[]⟩) Q E s:=by
 obtain⟨a,g,d,t,os⟩:=s;have b:=ON c.cls c.find c.spec c.tk;have L0:=I.type (M:=model prog w);have L1:=PySem.W.looks_find (M:=model prog w) X I b;unfold Builtin.«object.__getattribute__»
 repeat(first|with_reducible refine Ae (L0.at ?_)|with_reducible refine Ae (L1.at ?_)|wp_step)
 exact PySem.W.class_get (s:=⟨a,g,d,t,os⟩) X I c.mro (Ap hq)
def OQ{Q:Option Value->Shared->Prop}(c:eE K D)(X:K.In s.heap)(I:PySem.W.InstAt s.heap x ox D none)(h:Q (some (.ref D)) {s with toks:=s.toks+1}):wpAny (model prog w) A (getAttr? (.ref x) "__class__") Q E s:=by
 obtain⟨a,g,d,t,os⟩:=s;have L0:=I.type (M:=model prog w);have L1:=PySem.W.looks_findIn (M:=model prog w) X c.ga;have L2:=PySem.W.looks_findIn (M:=model prog w) X c.gt;have FA:=F.excAttr_ValueError;have b:=FA.ga.bind (.ref x);have e:(Value.builtin "BaseException.__getattribute__" == Value.builtin "object.__getattribute__")=false:=δ
 unfold getAttr? getAttrBy? getAttrBy;refine Ae (wpAny_mkText (Ae (wpAny_attempt (wpAny_holding (Ae (L0.at (Ae (L1.at ?_))))))));dsimp only;rw[if_neg (by rw[e,Bool.and_false];decide)];unfold getAttrByItsOwn hookBefore;rw[if_pos (show onTheHeap (.ref D)=true from rfl)];refine Ae (L2.at ?_);refine Ae (wpAny_attempt (wpAny_holding ?_));unfold callGetattribute boundAndCalled;rw[Bool.false_and,if_neg Av,b];refine Ae (Ap ?_);refine wpAny_call (codeAny_call_builtin FA.ga.plain F.entry_bexc_ga (OO (s:=⟨a,g,d,t+1,os⟩) c X I (OP (s:=⟨a,g,d,t+1,os⟩) c X I ?_)));exact PySem.W.handed_on rfl (Ap h)
end
def OR{K:Ab}{x D:Addr}{ox:Obj}(c:eE K D):PySem.W.KitX K (.ref x) (.ref D) (fun h=>PySem.W.InstAt h x ox D none) where
 ty:=fun _ _ _ I=>I.type
 it:=fun _ _ X _=>by
  obtain⟨d,a⟩:=Option.isSome_iff_exists.mp c.cls;unfold PySem.W.clsIn at a;split at a
  ·rename_i c' d' cd' gh ho
   intro i j l s' k q;unfold isType loadHead;exact Ae (wpAny_loadPart (k _ _ (X _ _ ho)) (Ap q))
  ·cases a
 ne:=fun h tp dd f n g X b=>by
  obtain⟨d,a⟩:=Option.isSome_iff_exists.mp c.cls;refine Bool.eq_false_iff.mpr fun q=>?_;have e:D=tp:=Value.ref.inj (beq_iff_eq.mp q);subst e;unfold PySem.W.clsIn at a;split at a
  ·rename_i c' d' cd' gh ho
   have z:=(X _ _ ho).symm.trans b;cases z
  ·cases a
 ca:=fun X I k=>OQ c X I k
section
variable{X:Cx}
def lD{c:V}{a:Value}{b:Bool}{C:Addr}(g:∀u,RelV c u->u=a)(i:eE X.K C)(e:Bh X.K (.ref C) a=some b):iu X (.builtin "isinstance") (fun xs H Q=>∃x,xs=[.ref x,c]/\H x=some (fQ x C)/\Q (.bl b) H):=by
 intro aa s σ H xs us Q I r h;obtain⟨x,rfl,hx,q⟩:=h;obtain⟨u,j,rfl,d,f⟩:=vals2 r;obtain rfl:=g _ f;cases(show u=Value.ref x from d);obtain⟨⟨o,p⟩,_⟩:=(show zar X.prog X.w H s.heap x (fQ x C) from I.hok x _ hx);exact PySem.W.kia_one (OR i) I.kIn p e (fun z=>nomatch z) fun tk=>⟨.bl b,H,I.tok _,rfl,q⟩
end
structure zcg(k:Nat)(A:Around):Prop where
 dp:A.depth+3*k+5<recursionLimit
 un:A.units+16*k+200<cLine
def Room.mark{k:Nat}{A:Around}(r:Room k A)(v:Option Value):zcg k (A.mark v):=⟨r.dp,r.un⟩
def zcg.deeper{k:Nat}{A:Around}(r:zcg (k+1) A)(env:Env):zcg k (A.deeper env):=
 ⟨by have:=r.dp;show A.depth+1+3*k+5<_;(first|lia|omega),by have:=r.un;show A.units+3+16*k+200<_;(first|lia|omega)⟩
def zcg.depth{k:Nat}{A:Around}(r:zcg k A):A.depth<recursionLimit:=by have:=r.dp;(first|lia|omega)
def zcg.units{k:Nat}{A:Around}(r:zcg k A):A.units+64<cLine:=by have:=r.un;(first|lia|omega)
structure sy(P:Program)(w:World)(K:Ab)(mg:Str->Option Value)(base:Heap)(k:Nat)(f:Addr)(fd:FuncData)(ps:List Str)(sp:Sp):Prop where
 len:∀vs H Q E,sp vs H Q E->vs.length=ps.length
 run:∀(A:Around)(outer:List Env)(s:Shared)(H:Hp)(args:Args)(us:List Value)(vs:List V)(Q:VK)(E:XK),zcg k A->Env0 P w K mg base A outer s H->BindsTo s fd args (ps.zip us)->Vals vs us->sp vs H Q E->
  codeAny (model P w) A (.call (.ref f) args) (CR aJ outer P w H s Q E) s
abbrev sC(P:Program)(w:World)(K:Ab)(mg:Str->Option Value)(base:Heap)(N:List Str)(ag:Str)(scope:Scope)(f:Addr)(cd:Value)(A:Around)(outer:List Env)(s:Shared)(H:Hp)(E:XK):Cx:=
 {bQ aJ P w K mg base N ag scope f cd A outer s H E with calm:=false,xe:=fun _ _=>False}
def OS{P:Program}{w:World}{K:Ab}{mg:Str->Option Value}{base:Heap}{N ps:List Str}{b:Str}{scope:Scope}{f:Addr}{c:Value}{A:Around}{outer:List Env}{s d:Shared}{H:Hp}{E:XK}{us:List Value}{vs:List V}(S:zl N ps scope)(a:Env0 P w K mg base A outer s H)(e:vs.length=ps.length)(r:Vals vs us)(x:InCallC s s⁻¹ (bindL (envOfC b scope s⁻¹ f c).kindOf (ps.zip us) fun _=>none) (Bm (s⁻¹+1) scope.names []) (bindC (envOfC b scope s⁻¹ f c).kindOf (ps.zip us) fun _=>none) d):Inv (sC P w K mg base N b scope f c A outer s H E) [] (start N vs) H d:=by
 have I:Inv (bQ aJ P w K mg base N b scope f c {A with handled:=none} outer s H E) [] (start N vs) H d:=J1 (A:={A with handled:=none}) S rfl ⟨a.frames,a.mod,a.bs,a.bsz,a.funs,a.frf,a.hok,a.bare⟩ e r x;exact⟨⟨I.ok.mod,I.ok.kind,I.ok.glob,I.ok.blt,I.ok.above,I.ok.inj,I.ok.has,I.ok.cab,(fun z=>nomatch z),Around.frames_deeper a.frames,I.ok.stk,I.ok.exf,I.ok.bs,I.ok.bsz,I.ok.noex,I.ok.exfs,I.ok.funs,I.ok.frf⟩,I.os,I.bare,I.base,I.loc,I.cell,I.free,I.freeC,I.pin,I.hok,I.len⟩
def OT{P:Program}{w:World}{K:Ab}{mg:Str->Option Value}{base:Heap}{k:Nat}{f:Addr}{name a:Str}{p:Arguments}{i:List Stmt}{scope:Scope}{z kV C D c ct oc:Value}{F od:Option Addr}{O:Array (Option Value)}{N ps:List Str}{sp:Sp}(lk:K.lookup f=some ⟨oc,od,.func (PySem.W.fnOf name a p i scope z kV C D F c ct),O⟩)(T:PySem.W.codeIn K c a=true)(S:zl N ps scope)(len:∀vs H Q E,sp vs H Q E->vs.length=ps.length)(aV:∀(A:Around)(outer:List Env)(s:Shared)(H:Hp)(vs:List V)(Q:VK)(E:XK),zcg k (A.deeper (envOfC a scope s⁻¹ f c))->sp vs H Q E->
   ∃t,PSs (sC P w K mg base N a scope f c A outer s H E) i t/\t {nx:=fun _ H'=>Q .non H',rt:=Q} (start N vs) H):
  sy P w K mg base (k+1) f (PySem.W.fnOf name a p i scope z kV C D F c ct) ps sp:=by
 refine⟨len,fun A outer s H args us vs Q E hr g hb r G=>?_⟩;have Z:=len _ _ _ _ G;have M:K.In s.heap:=g.mod.kin.keeps fun b o e=>(g.bs b o e).1;have l:s.heap.NoLimit:=g.mod.nolimit.keeps fun b o e=>(g.bs b o e).1;have dJ:∀y∈ps.zip us,scope.names.lookup y.1=some .local\/(scope.names.lookup y.1=some .cell/\((Bm (s⁻¹+1) scope.names []).lookup y.1).isSome=true):=fun⟨n,v⟩ hy=>by
  rcases S.par n (List.of_mem_zip hy).1 with q|q
  ·exact .inl q
  ·exact .inr ⟨q,PySem.W.cellsFrom_some _ _ _ (.inl q)⟩
 refine codeAny_call_function hr.depth (M _ _ lk) rfl S.co S.gen rfl (PySem.W.codeRec_of M T) (hb _ _ _ _ ?_);refine wpAny_newFunctionEnv_cells S.kind dJ fun env U L x=>?_;subst U;refine⟨l.keeps x.toInCall.keep,codeAny_func ?_⟩;obtain⟨t,Y,hq⟩:=aV A outer s H vs Q E (hr.deeper _) G;have I:Inv (sC P w K mg base N a scope f c A outer s H E) [] (start N vs) H L:=OS S g Z r x;refine wpAny_mono (Y [] L (start N vs) H _ I hq) (fun X s' d=>?_) fun e s' d=>d.elim;have fin:∀{h:St}{H':Hp}{v:V}{u:Value},Inv (sC P w K mg base N a scope f c A outer s H E) [] h H' s'->RelV v u->Q v H'->CE outer P w H s Q u s':=
  fun{h H' v u} J j q=>⟨v,H',J.os,J.bare,J.base,J.hok,j,q⟩
 cases X with
 |ret u=>
  obtain⟨v,h,H',J,j,q⟩:=d;exact fin J j q
 |next=>
  obtain⟨h,H',J,q⟩:=d;exact fin (v:=V.non) (u:=Value.none) J rfl q
 |brk=>
  obtain⟨_,_,_,q⟩:=d;exact False.elim q
 |cont=>
  obtain⟨_,_,_,q⟩:=d;exact False.elim q
def Fun.okN{P:Program}{w:World}{K:Ab}{mg:Str->Option Value}{base:Heap}{x b:Str}{st:Stmt}{f:Addr}{fd:FuncData}{N ps:List Str}{k:Nat}{sp:Sp}(F:Fun K x b st f fd)(S:zl N ps (zd st))(len:∀vs H Q E,sp vs H Q E->vs.length=ps.length)(e:∀(a:Value)(A:Around)(outer:List Env)(s:Shared)(H:Hp)(vs:List V)(Q:VK)(E:XK),zcg k (A.deeper (envOfC b (zd st) s⁻¹ f a))->sp vs H Q E->
   ∃t,PSs (sC P w K mg base N b (zd st) f a A outer s H E) (zax st) t/\t {nx:=fun _ H'=>Q .non H',rt:=Q} (start N vs) H):sy P w K mg base (k+1) f fd ps sp:=by
 obtain⟨g,h,kV,i,j,l,a,ct,o,rfl,lk,d⟩:=F.ex;exact OT lk d S len fun A outer s H vs Q E hr c=>e a A outer s H vs Q E hr c
section
variable{X:Cx}{k:Nat}{f:Addr}{fd:FuncData}{ps:List Str}{sp:Sp}{dm:List V}{ds:List Value}{E:XK}{x:Str}{p pos:Pos}{e:Expr}{es:List Expr}{t:TA}
def OU(F:sy X.prog X.w X.K X.mg X.base k f fd ps sp)(hr:zcg k X.A)(hg:Gl X x)(g:X.mg x=some (.ref f))(hk:PySem.W.keepIn X.K (.ref f)=true)(hb:Binds X.K fd ps ds)(hd:Vals dm ds)(i:PA X (e::es) t)(j:(x==("__debug__":Str))=false:=by decide)(l:starEach (e::es) X.env=(false,eval e X.env)::starEach es X.env:=by rfl)(a:(backTo pos (starEach es X.env)).any (·.1)=false:=by rfl):PE X (.Call (.Name x p) (e::es) [] pos) (dD sp dm E t):=by
 intro aa s σ H Q I h;refine wpAny_Call_Name_kw (BK I hg g ?_ j);refine PySem.W.callWith_K (h₀:=X.base) I.ok.mod.kin hk (aX (i pos aa s σ H _ I h) fun us b ⟨vs,H1,I1,r,q⟩=>⟨I1.kIn,?_⟩) l a;have c:Vals (vs++dm) (us++ds):=r.append hd;have d:(us++ds).length=ps.length:=by rw[<-c.length];exact F.len _ _ _ _ q
 refine wpAny_call (codeAny_mono (F.run X.A X.stack b H1 ⟨us,[]⟩ (us++ds) (vs++dm) Q E hr I1.env0 (hb b us I1.kIn d) c q) fun r s' hq=>?_);cases r with
 |error e=>exact hq.elim
 |ok fl=>
  cases fl with
  |ret u=>exact I1.after hq
  |next=>exact False.elim hq
  |brk=>exact False.elim hq
  |cont=>exact False.elim hq
end
end L2
end
section
namespace Zp
open PySem PySem.Spec PyProof.Rows
section
variable{prog:Program}{w:World}{A:Around}{E:Ω}{s:Shared}
def OV{it t:Addr}{i:Nat}{c:Array Value}{x:Value}{Q:Ω}(b:s.heap.IsTupleIter it t i)(f:s.heap.IsTuple t c)(hx:c[i]?=some x)(g:∀h',h'.IsTupleIter it t (i+1)->Heap.SameBut it s.heap h'->Q x {s with heap:=h'}):wpAny (model prog w) A (Builtin.SmallTypes.nextOf (.ref it)) Q E s:=by
 obtain⟨o,a,hc,hd⟩:=id b;obtain⟨h,d,_,j,e⟩:=f;unfold Builtin.SmallTypes.nextOf;refine Ae (wpAny_callSpecial?_slot (name:=Str.ofString "__next__") b.typeIs F.slot_tuple_iterator_next (wpAny_call_entry F.slot_tuple_iterator_next b.typeIs F.entry_tuple_iterator_next ?_ (F.args_tuple_iterator_next_1 _)));show wpAny _ _ (field (.ref it) 0 >>= _) _ _ s;refine Ae (Bg a hd (x:=.ref t) rfl ?_);show wpAny _ _ (if(Value.ref t==Value.none)=true then _ else _) _ _ s;rw[if_neg (show ¬((Value.ref t==Value.none)=true) from Av)];show wpAny _ _ (field (.ref it) 1 >>= _) _ _ s;refine Ae (Bg a hd (x:=.int i 0) rfl ?_);show wpAny _ _ (seqItems? (.ref t) >>= _) _ _ s;refine Ae (wpAny_seqItems d e ?_);simp only[Int.toNat_natCast,hx];refine Ae (wpAny_setField a hd (by simp) (Ap ⟨x,rfl,Ap (g _ ?_ (Heap.SameBut.update ..))⟩));exact⟨_,Heap.get?_update_self _ a (Obj.isFreed_of_fields (Obj.data_mapFields hd _)),(Obj.cls_mapFields ..).trans hc,by
  rw[Obj.data_mapFields hd];simp[rawInt]⟩
def OW{it t:Addr}{i:Nat}{d:Array Value}{Q:Ω}(f:A.handled=none)(c:s.heap.IsTupleIter it t i)(j:s.heap.IsTuple t d)(hx:d[i]?=none)(l:∀h' e,Heap.ExtBut it s.heap h'->(∃o,h'.get? e=some o/\o.cls=.type "StopIteration")->E (.ref e) {s with heap:=h'}):wpAny (model prog w) A (Builtin.SmallTypes.nextOf (.ref it)) Q E s:=by
 obtain⟨o,b,hc,hd⟩:=id c;obtain⟨p,g,_,q,h⟩:=j;unfold Builtin.SmallTypes.nextOf;refine Ae (wpAny_callSpecial?_slot (name:=Str.ofString "__next__") c.typeIs F.slot_tuple_iterator_next (wpAny_call_entry F.slot_tuple_iterator_next c.typeIs F.entry_tuple_iterator_next ?_ (F.args_tuple_iterator_next_1 _)));show wpAny _ _ (field (.ref it) 0 >>= _) _ _ s;refine Ae (Bg b hd (x:=.ref t) rfl ?_);show wpAny _ _ (if(Value.ref t==Value.none)=true then _ else _) _ _ s;rw[if_neg (show ¬((Value.ref t==Value.none)=true) from Av)];show wpAny _ _ (field (.ref it) 1 >>= _) _ _ s;refine Ae (Bg b hd (x:=.int i 0) rfl ?_);show wpAny _ _ (seqItems? (.ref t) >>= _) _ _ s;refine Ae (wpAny_seqItems g h ?_);simp only[Int.toNat_natCast,hx];refine Ae (wpAny_rule (Ae (wpAny_setField b hd (by simp) ?_)));show wpAny _ _ (newExc (.type "StopIteration") [] >>= _) _ _ _;refine Ae ?_;simp only[newExc,newTuple];refine Ae (wpAny_newObj_type ?_ (by size_fits));refine Ae (m:=firstArgMember _ _) (wpAny_of_eq (a:=Value.none) (by first|rfl|(simp only[firstArgMember];rfl)) ?_);refine wpAny_newObj_type ?_ (by size_fits);simp only[raiseNew];refine Ae (wpAny_handled ?_)
 first|rw[show A.in1.handled=none from f]|rw[f]
 refine Ae (Ap (wpAny_throw ?_));exact l _ _ (((Heap.SameBut.update ..).extBut.push _).push _) ⟨_,AG _ rfl,rfl⟩
end
def OX{h h':Heap}{a:Addr}{b:Array Value}(x:h.IsTuple a b)(e:∀o,h.get? a=some o->h'.get? a=some o):h'.IsTuple a b:=let ⟨o,ho,r⟩:=x;⟨o,e o ho,r⟩
def Kn{prog:Program}{w:World}{A:Around}(j:A.handled=none)(it t:Addr)(b:t≠it)(a:Array Value):Draws prog w A it [it,t] a.size (fun i v=>a[i]?=some v) (fun i h=>h.IsTupleIter it t i/\h.IsTuple t a) where
 live:=fun _ _ st=>let ⟨o,ho,_⟩:=st.1;⟨o,ho⟩
 frame:=fun _ _ _ st hk=>⟨st.1.at fun o e=>hk it (by simp) o e,OX st.2 fun o e=>hk t (by simp) o e⟩
 item:=fun i s Q E hi st d=>by
  refine OV st.1 st.2 (x:=a[i]) (by simp[hi]) fun h' f c=>?_;exact d _ h' s.toks (by simp[hi]) ⟨f,st.2.extBut c.extBut b⟩ c
 done:=fun s Q E st g=>OW j st.1 st.2 (by simp) g
structure Apart(z TI TO i1 i2:Addr)(cm ci:List Addr):Prop where
 z1:z∉cm
 z2:z∉ci
 o1:TO∉cm
 o2:TO∉ci
 m1:i1∈cm
 m2:i2∈ci
 x12:i1∉ci
 x21:i2∉cm
 TIz:TI≠z
 TOz:TO≠z
 TITO:TI≠TO
 TIi1:TI≠i1
 TIi2:TI≠i2
section
variable{prog:Program}{w:World}{A:Around}{E:Ω}{s:Shared}{z TI TO i1 i2:Addr}{cm ci:List Addr}{n1 n2 i:Nat}{P1 P2:Nat->Value->Prop}{S1 S2:Nat->Heap->Prop}{a b:Value}
def OY{Q:Ω}(D1:Draws prog w A i1 cm n1 P1 S1)(D2:Draws prog w A i2 ci n2 P2 S2)(D:Apart z TI TO i1 i2 cm ci)(hz:IsZip s.heap z TI TO .none)(dz:IsPair s.heap TI (.ref i1) (.ref i2))(dA:IsPair s.heap TO a b)(h1:S1 i s.heap)(h2:S2 i s.heap)(l1:i<n1)(l2:i<n2)(hQ:∀x y h' tk,P1 i x->P2 i y->IsZip h' z TI TO (rawInt s⁻¹)->IsPair h' TO x y->S1 (i+1) h'->S2 (i+1) h'->IsPair h' s⁻¹ x y->h'.objs.size=s⁻¹+1->
   (∀c o,c≠z->c≠TO->c≠i1->c≠i2->s.heap.get? c=some o->h'.get? c=some o)->Q (.ref s⁻¹) {s with heap:=h',toks:=tk}):
  wpAny (model prog w) A (Builtin.«zip.__next__» ⟨[.ref z],[]⟩) (fun fin s'=>∃v,fin=.done (.ret v)/\Q v s') E s:=by
 have f:∀c∈cm,c≠z:=fun c hc e=>D.z1 (e▸hc);have I:∀c∈ci,c≠z:=fun c hc e=>D.z2 (e▸hc);have J:∀c∈cm,c≠TO:=fun c hc e=>D.o1 (e▸hc);have L:∀c∈ci,c≠TO:=fun c hc e=>D.o2 (e▸hc);have oP:∀c∈ci,c≠i1:=fun c hc e=>D.x12 (e▸hc);have xX:∀c∈cm,c≠i2:=fun c hc e=>D.x21 (e▸hc);have ko:i1≠z:=f _ D.m1;have mD:i2≠z:=I _ D.m2;have gJ:TO≠i1:=(J _ D.m1).symm;have l5:TO≠i2:=(L _ D.m2).symm;show wpAny _ _ (field (.ref z) 2 >>= _) _ _ _;refine Ae (Bg hz rfl (x:=.bool false) rfl ?_);show wpAny _ _ (field (.ref z) 3 >>= _) _ _ _;refine Ae (Bg hz rfl (x:=.ref TI) rfl ?_);refine Ae (wpAny_seqItems dz rfl ?_);show wpAny _ _ (Builtin.SmallTypes.ownedTupleIsFree (.ref z) >>= _) _ _ _;refine Ae ?_;unfold Builtin.SmallTypes.ownedTupleIsFree;refine Ae (Bg hz rfl (x:=.none) rfl (Ap ?_));simp only[if_true];refine Ae (wpAny_rule ?_);refine Ae (Bg hz rfl (x:=.ref TO) rfl ?_);refine Ae (wpAny_setField_rec hz (by simp) fun g1 q k1=>?_);replace q:IsZip g1 z TI TO .ellipsis:=q;refine Ae ?_;simp only[List.zipIdx_cons,List.zipIdx_nil,List.forIn_cons,List.forIn_nil];refine Ae (Ae (wpAny_onRaise ?_));show wpAny _ _ (Builtin.SmallTypes.nextOf (.ref i1) >>= _) _ _ _;refine Ae (D1.item i _ _ _ l1 (D1.frame _ _ _ h1 fun c hc o e=>k1.extBut c o (f c hc) e) fun x g2 uU U W k2=>Ap ?_);have M:IsPair g2 TO a b:=k2.extBut _ _ gJ (k1.extBut _ _ D.TOz dA);refine Ae (wpAny_seqItems M rfl ?_);refine Ae (wpAny_updateSeq_pair M fun g3 r k3=>?_);replace r:IsPair g3 TO x b:=r;refine Ae (wpAny_letGo (Ap ?_));refine Ae (Ae (wpAny_onRaise ?_));show wpAny _ _ (Builtin.SmallTypes.nextOf (.ref i2) >>= _) _ _ _;refine Ae (D2.item i _ _ _ l2 (D2.frame _ _ _ h2 fun c hc o e=>k3.extBut c o (L c hc) (k2.extBut c o (oP c hc) (k1.extBut c o (I c hc) e))) fun y g4 DW X Y g=>Ap ?_);have N:IsPair g4 TO x b:=g.extBut _ _ l5 r;refine Ae (wpAny_seqItems N rfl ?_);refine Ae (wpAny_updateSeq_pair N fun d j k5=>?_);replace j:IsPair d TO x y:=j;refine Ae (wpAny_letGo (Ap (Ap ?_)));refine Ae (wpAny_seqItems j rfl ?_);refine Ae (wpAny_newTuple ?_);have hsz:d.objs.size=s⁻¹:=by rw[k5.1,g.1,k3.1,k2.1,k1.1]
 have O:IsZip d z TI TO .ellipsis:=k5.extBut _ _ D.TOz.symm (g.extBut _ _ mD.symm (k3.extBut _ _ D.TOz.symm (k2.extBut _ _ ko.symm q)));have kk:∀c o,c≠z->c≠TO->c≠i1->c≠i2->s.heap.get? c=some o->d.get? c=some o:=fun c o c1 l u C e=>
  k5.extBut _ _ l (g.extBut _ _ C (k3.extBut _ _ l (k2.extBut _ _ u (k1.extBut _ _ c1 e))))
 have d1:S1 (i+1) d:=D1.frame _ _ _ W fun c hc o e=>k5.extBut c o (J c hc) (g.extBut c o (xX c hc) (k3.extBut c o (J c hc) e));have d2:S2 (i+1) d:=D2.frame _ _ _ Y fun c hc o e=>k5.extBut c o (L c hc) e;have P:z<d.objs.size:=Ao O;have e1:∀c∈cm,∀o,d.get? c=some o->c<d.objs.size:=fun c _ o e=>Ao e;show wpAny _ _ (Builtin.SmallTypes.ownedTupleHandOut (.ref z) (.ref d.objs.size) >>= _) _ _ _;refine Ae ?_;unfold Builtin.SmallTypes.ownedTupleHandOut;have z6:IsZip (d.push {cls:=.type "tuple",data:=.seq #[x,y]}) z TI TO .ellipsis:=Ai _ O;refine Ae (wpAny_setField_rec z6 (by simp) fun Z F G=>?_);replace F:IsZip Z z TI TO (rawInt d.objs.size):=F;refine wpAny_setField_rec F (by simp) fun h p H=>?_;replace p:IsZip h z TI TO (rawInt d.objs.size):=p;have up:∀c o,c≠z->d.get? c=some o->h.get? c=some o:=fun c o c1 e=>H.extBut _ _ c1 (G.extBut _ _ c1 (Ai _ e));have T:IsPair h d.objs.size x y:=H.extBut _ _ (Nat.ne_of_gt P) (G.extBut _ _ (Nat.ne_of_gt P) (AG _ rfl));have S:h.objs.size=d.objs.size+1:=by rw[H.1,G.1,Heap.size_push]
 rw[hsz] at p T S;refine Ap ⟨_,rfl,?_⟩;show Q (.ref d.objs.size) _;rw[hsz];exact hQ x y h _ U X p (up _ _ D.TOz j) (D1.frame _ _ _ d1 fun c hc o e=>up c o (f c hc) e) (D2.frame _ _ _ d2 fun c hc o e=>up c o (I c hc) e) T S fun c o c1 l u C e=>up c o c1 (kk c o c1 l u C e)
def OZ{Q:Fin->Shared->Prop}(D1:Draws prog w A i1 cm n1 P1 S1)(D2:Draws prog w A i2 ci n2 P2 S2)(D:Apart z TI TO i1 i2 cm ci)(hz:IsZip s.heap z TI TO .none)(W:IsPair s.heap TI (.ref i1) (.ref i2))(X:IsPair s.heap TO a b)(h1:S1 i s.heap)(h2:S2 i s.heap)(M:i=n1\/(i<n1/\i=n2))(H:∀h' e tk,(∀c o,c≠z->c≠TO->c≠i1->c≠i2->s.heap.get? c=some o->h'.get? c=some o)->(∃o,h'.get? e=some o/\o.cls=.type "StopIteration")->E (.ref e) {s with heap:=h',toks:=tk}):wpAny (model prog w) A (Builtin.«zip.__next__» ⟨[.ref z],[]⟩) Q E s:=by
 have g:∀c∈cm,c≠z:=fun c hc e=>D.z1 (e▸hc);have v:∀c∈ci,c≠z:=fun c hc e=>D.z2 (e▸hc);have O:∀c∈cm,c≠TO:=fun c hc e=>D.o1 (e▸hc);have P:∀c∈ci,c≠TO:=fun c hc e=>D.o2 (e▸hc);have S:∀c∈ci,c≠i1:=fun c hc e=>D.x12 (e▸hc);have y:i1≠z:=g _ D.m1;have T:i2≠z:=v _ D.m2;have U:TO≠i1:=(O _ D.m1).symm;show wpAny _ _ (field (.ref z) 2 >>= _) _ _ _;refine Ae (Bg hz rfl (x:=.bool false) rfl ?_);show wpAny _ _ (field (.ref z) 3 >>= _) _ _ _;refine Ae (Bg hz rfl (x:=.ref TI) rfl ?_);refine Ae (wpAny_seqItems W rfl ?_);show wpAny _ _ (Builtin.SmallTypes.ownedTupleIsFree (.ref z) >>= _) _ _ _;refine Ae ?_;unfold Builtin.SmallTypes.ownedTupleIsFree;refine Ae (Bg hz rfl (x:=.none) rfl (Ap ?_));simp only[if_true];refine Ae (wpAny_rule ?_);refine Ae (Bg hz rfl (x:=.ref TO) rfl ?_);refine Ae (wpAny_setField_rec hz (by simp) fun g1 h k1=>?_);replace h:IsZip g1 z TI TO .ellipsis:=h;refine Ae ?_;simp only[List.zipIdx_cons,List.zipIdx_nil,List.forIn_cons,List.forIn_nil];refine Ae (Ae (wpAny_onRaise ?_));have f1:=D1.frame _ _ _ h1 fun c hc o e=>k1.extBut c o (g c hc) e;rcases M with p|⟨N,p⟩
 ·show wpAny _ _ (Builtin.SmallTypes.nextOf (.ref i1) >>= _) _ _ _
  refine Ae (D1.done _ _ _ (p▸f1) fun g2 e k2 j=>?_);obtain⟨q,d,f⟩:=j;have C:IsZip g2 z TI TO .ellipsis:=k2 _ _ y.symm h;have r:e≠z:=fun x=>by subst x;rw[C] at d;cases d;simp at f
  refine wpAny_setField_rec C (by simp) fun g3 _ k3=>H g3 e _ (fun c o c1 _ l _ x=>k3.extBut _ _ c1 (k2 _ _ l (k1.extBut _ _ c1 x))) ⟨q,k3.extBut _ _ r d,f⟩
 ·show wpAny _ _ (Builtin.SmallTypes.nextOf (.ref i1) >>= _) _ _ _
  refine Ae (D1.item i _ _ _ N f1 fun x g2 Y Z s2 k2=>Ap ?_);have F:IsPair g2 TO a b:=k2.extBut _ _ U (k1.extBut _ _ D.TOz X);refine Ae (wpAny_seqItems F rfl ?_);refine Ae (wpAny_updateSeq_pair F fun g3 t3 k3=>?_);refine Ae (wpAny_letGo (Ap ?_));refine Ae (Ae (wpAny_onRaise ?_));have f2:S2 i g3:=D2.frame _ _ _ h2 fun c hc o e=>k3.extBut c o (P c hc) (k2.extBut c o (S c hc) (k1.extBut c o (v c hc) e));show wpAny _ _ (Builtin.SmallTypes.nextOf (.ref i2) >>= _) _ _ _;refine Ae (D2.done _ _ _ (p▸f2) fun g4 e u j=>?_);obtain⟨q,d,f⟩:=j;have G:IsZip g4 z TI TO .ellipsis:=u _ _ T.symm (k3.extBut _ _ D.TOz.symm (k2.extBut _ _ y.symm h));have r:e≠z:=fun x=>by subst x;rw[G] at d;cases d;simp at f
  refine wpAny_setField_rec G (by simp) fun I _ k5=>H I e _ (fun c o c1 J l L x=>k5.extBut _ _ c1 (u _ _ L (k3.extBut _ _ J (k2.extBut _ _ l (k1.extBut _ _ c1 x))))) ⟨q,k5.extBut _ _ r d,f⟩
end
def Ko{prog:Program}{w:World}{A:Around}{z TI TO i1 i2:Addr}{cm ci:List Addr}{n1 n2:Nat}{P1 P2:Nat->Value->Prop}{S1 S2:Nat->Heap->Prop}(D1:Draws prog w A.in1 i1 cm n1 P1 S1)(D2:Draws prog w A.in1 i2 ci n2 P2 S2)(D:Apart z TI TO i1 i2 cm ci):WalksT prog w A z (z::TI::TO::(cm++ci)) [z,TO,i1,i2] (min n1 n2) (fun i u=>∃x y,P1 i x/\P2 i y/\u=#[x,y])
   (fun i h=>IsZip h z TI TO .none/\IsPair h TI (.ref i1) (.ref i2)/\(∃a b,IsPair h TO a b)/\S1 i h/\S2 i h)
   (fun i T h=>IsZip h z TI TO (rawInt T)/\IsPair h TI (.ref i1) (.ref i2)/\(∃a b,IsPair h TO a b)/\S1 (i+1) h/\S2 (i+1) h/\T≠z/\T≠TO/\T≠i1/\T≠i2) where
 sub:=fun c hc=>by
  simp at hc ⊢;rcases hc with rfl|rfl|rfl|rfl
  ·simp
  ·simp
  ·exact .inr (.inr (.inr (.inl D.m1)))
  ·exact .inr (.inr (.inr (.inr D.m2)))
 frame:=fun i h h' j hk=>by
  obtain⟨hz,f,⟨a,b,g⟩,h1,h2⟩:=j;exact⟨hk z (by simp) _ hz,hk TI (by simp) _ f,⟨a,b,hk TO (by simp) _ g⟩,D1.frame _ _ _ h1 fun c hc o e=>hk c (by simp[hc]) o e,D2.frame _ _ _ h2 fun c hc o e=>hk c (by simp[hc]) o e⟩
 item:=fun i s Q E hi j l=>by
  obtain⟨hz,f,⟨a,b,g⟩,h1,h2⟩:=j;have d:s.TypeIs (.ref z) "zip":=⟨_,hz,rfl⟩;unfold pyNext;refine Ae (wpAny_attempt (wpAny_callSpecial?_slot (name:=Str.ofString "__next__") d F.slot_zip_next (wpAny_call_entry F.slot_zip_next d F.entry_zip_next
   (OY D1 D2 D hz f g h1 h2 (Au hi (Nat.min_le_left ..)) (Au hi (Nat.min_le_right ..)) fun x y h' tk v C a1 a2 a3 a4 a5 U hk=>Ap ?_) (F.args_zip_next_1 _))))
  have lt:∀{c o},s.heap.get? c=some o->s⁻¹≠c:=fun e=>Nat.ne_of_gt (Ao e);obtain⟨W,I⟩:=D1.live _ _ h1;obtain⟨X,J⟩:=D2.live _ _ h2;exact l s⁻¹ #[x,y] h' tk ⟨_,_,v,C,rfl⟩ (Af _) ⟨_,a5,rfl,_,rfl⟩ ⟨a1,hk _ _ D.TIz D.TITO D.TIi1 D.TIi2 f,⟨_,_,a2⟩,a3,a4,lt hz,lt g,lt I,lt J⟩
   fun c o hc e=>hk c o (fun x=>hc (by simp[x])) (fun x=>hc (by simp[x])) (fun x=>hc (by simp[x])) (fun x=>hc (by simp[x])) e
 go:=fun aQ k pos i T s Q E r l=>by
  obtain⟨hz,f,⟨a,b,g⟩,h1,h2,_⟩:=r;refine wpAny_letOwnedTupleGo_zip hz fun h' G p=>l h' ⟨G,p.extBut _ _ D.TIz f,⟨a,b,p.extBut _ _ D.TOz g⟩,
   D1.frame _ _ _ h1 fun c hc o e=>p.extBut c o (fun q=>D.z1 (q▸hc)) e,D2.frame _ _ _ h2 fun c hc o e=>p.extBut c o (fun q=>D.z2 (q▸hc)) e⟩ fun c o hc e=>p.extBut _ _ (fun x=>hc (by simp[x])) e
 apart:=fun i T h r d=>by
  obtain⟨_,_,_,_,_,L,M,N,O⟩:=r;simp at d;rcases d with rfl|rfl|rfl|rfl
  ·exact L rfl
  ·exact M rfl
  ·exact N rfl
  ·exact O rfl
 done:=fun s Q E j l=>by
  obtain⟨hz,f,⟨a,b,g⟩,h1,h2⟩:=j;have d:s.TypeIs (.ref z) "zip":=⟨_,hz,rfl⟩;have S:min n1 n2=n1\/(min n1 n2<n1/\min n1 n2=n2):=ω
  unfold pyNext;refine Ae (wpAny_attempt (wpAny_callSpecial?_slot (name:=Str.ofString "__next__") d F.slot_zip_next
   (wpAny_call_entry F.slot_zip_next d F.entry_zip_next (OZ D1 D2 D hz f g h1 h2 S fun h' e tk hk H=>?_) (F.args_zip_next_1 _))))
  obtain⟨o,P,hc⟩:=H;refine Ae (wpAny_isInstance (T:="StopIteration") (b:=true) ⟨o,P,hc⟩ isSubtype_stop ?_);exact Ap (l _ tk fun c o hc e=>hk c o (fun x=>hc (by simp[x])) (fun x=>hc (by simp[x])) (fun x=>hc (by simp[x])) (fun x=>hc (by simp[x])) e)
 self:=fun i s Q E j l=>wpAny_pyIter_zip j.1 l
end Zp
end
section
namespace L2
open PySem PySem.Spec PyProof.Rows
section
variable{X:Cx}{aa:Ψ}{σ:St}{H:Hp}{s:Shared}{h':Heap}
def Inv.turneds{t':Nat}{ch:List Addr}(I:Inv X aa σ H s)(d:∀b∈ch,cv X aa H b)(k:∀b o,b∉ch->s.heap.get? b=some o->h'.get? b=some o):Inv X aa σ H {s with heap:=h',toks:=t'}:=by
 have a:∀b u,H b=some u->b∉ch:=fun b u e z=>by have:=(d b z).1;rw[this] at e;cases e
 refine I.step (g':=s.gens) (d':=s.drawn) (ch:=ch) (fun b hb=>?_) (fun b o _ _ hc e _=>k b o hc e) (fun b o _ _ hc e _=>⟨o.slots,k b o hc e⟩) (fun _ _ _ _ n=>n)
  (fun b o hc e=>⟨o,k b o hc e⟩) (fun _ _ e=>e) (fun _ _ _ e=>e) (fun b ps e=>⟨#[],by rw[e];simp⟩) (fun m f=>?_) (fun b u e=>?_) I.bare
 ·obtain⟨l,f1,f2,g,h,i⟩:=d b hb
  exact⟨g,f1,h,i⟩
 ·obtain⟨o,es,ep,j,r⟩:=f
  exact⟨o,es,ep,k _ o (fun z=>(d _ z).2.1 rfl) j,r⟩
 ·refine(I.hok b u e).stay (fun c v hc q=>k c v ?_ q) (fun _ q=>q) fun _ _ q=>q
  rcases hc with z|z
  ·rw[z];exact a b u e
  ·exact a c _ z
def Inv.adopt{a:Addr}{o:HO}(I:Inv X aa σ H s)(d:H a=none)(h1:X.s₀⁻¹<=a)(h2:a≠X.env.locals)(g:∀x c,X.env.cells.lookup x=some c->c≠a)(h:∀p∈X.pn++aa,p.1≠a)(new:zar X.prog X.w (upd H a o) s.heap a o):Inv X aa σ (upd H a o) s:=by
 refine I.step (h':=s.heap) (g':=s.gens) (t':=s.toks) (d':=s.drawn) (ch:=[a]) (fun b hb=>?_) (fun b o _ _ hc e _=>e) (fun b o _ _ hc e _=>⟨o.slots,e⟩) (fun b o hc e n=>?_)
  (fun b o hc e=>⟨o,e⟩) (fun b xs e=>?_) (fun b o u e=>?_) (fun b ps e=>⟨#[],?_⟩) (fun m f=>f) (fun b u e=>?_) I.bare
 ·have e:b=a:=by simpa using hb
  subst e;exact⟨.inr h1,h2,g,h⟩
 ·rw[aq (fun z=>hc (by simp[z]))];exact n
 ·rw[aq (zn e d)];exact e
 ·rw[aq (zn e d)];exact e
 ·rw[aq (zn e d),e];simp
 ·by_cases hb:b=a
  ·subst hb;rw[al] at e;cases e;exact new
  ·rw[aq hb] at e
   exact(I.hok b u e).stay (fun _ _ _ q=>q) (fun c q=>by rw[aq (zn q d)];exact q) fun c xs q=>by rw[aq (zn q d)];exact q
def Inv.grown{t':Nat}{ch:List Addr}{a:Addr}{o:HO}(I:Inv X aa σ H s)(f:∀b∈ch,cv X aa H b)(k:∀b o,b∉ch->s.heap.get? b=some o->h'.get? b=some o)(hp:s⁻¹<=a)(new:zar X.prog X.w (upd H a o) h' a o):Inv X aa σ (upd H a o) {s with heap:=h',toks:=t'}:=by
 have I1:Inv X aa σ H {s with heap:=h',toks:=t'}:=I.turneds f k;obtain⟨c,f1,f2,g,d,e⟩:=I.fpOk hp (I.hok.fresh hp);exact I1.adopt c (Ag I.sz hp) f1 d e new
def Kp{b t:Addr}{o:Obj}(I:Inv X aa σ H s)(f:cv X aa H b)(hk:X.K.lookup t=some o):t≠b:=by
 intro z;subst z;have e:=I.ok.mod.kin t o hk;rcases f.2.2.2.1 with q|q
 ·exact I.ok.noex t o e q
 ·exact absurd (Au (Ao (I.ok.bs t o e).1) q) (Nat.lt_irrefl _)
def Kq{b t:Addr}{xs:List V}(I:Inv X aa σ H s)(f:cv X aa H b)(h:SqT X.K H t xs):t≠b:=by
 rcases h with (h|⟨o,h⟩)|⟨o,_,_,hk,_⟩
 ·exact zn h f.1
 ·exact zn h f.1
 ·exact Kp I f hk
def HL{b t:Addr}{xs:List V}(I:Inv X aa σ H s)(f:cv X aa H b)(h:SqL X.K H t xs):t≠b:=by
 rcases h with (h|⟨o,h⟩)|⟨o,_,_,hk,_⟩
 ·exact zn h f.1
 ·exact zn h f.1
 ·exact Kp I f hk
end
def HM{P:Program}{w:World}{K:Ab}{J:It}{a wr:List Addr}{it:Addr}{tn:Nat->Heap->Prop}{aQ:List Expr}{k:Nat}{pos:Pos}(mem:it∈a)(obj:∀i h,tn i h->∀b∈a,∃o,h.get? b=some o/\∀v,o.data≠.cell v)(keep:∀i h h',tn i h->(∀b∈a,∀o,h.get? b=some o->h'.get? b=some o)->tn i h')(hw:∀b∈wr,b∈a)(W:∀(X:Cx),X.prog=P->X.w=w->X.K=K->X.calm=true->∀(i:Nat)(aa:Ψ)(s:Shared)(σ:St)(H:Hp),Inv X aa σ H s->(∀b∈a,cv X aa H b)->tn i s.heap->(J.go i H\/J.stop i H)->
   ∃(z:List Addr)(n:Nat)(x:Nat->Array Value->Prop)(S:Nat->Heap->Prop)(Mid:Nat->Addr->Heap->Prop),WalksT P w X.A it z wr n x S Mid/\S i s.heap/\(∀j h,S j h->tn j h)/\
    (J.go i H->i<n/\∀d,x i d->∃xs:List V,Vals xs d.toList/\xs.length<=sizeLine/\∀p,H p=none->J.yld i H (.ref p) (upd H p (.tup xs)))/\(J.stop i H->i=n))
  (self:∀(A:Around)(i:Nat)(s:Shared)(Q:Ω)(E:Ω),tn i s.heap->Q (.ref it) s->wpAny (model P w) A (pyIter (.ref it)) Q E s) :
  Turn P w K (.Tuple aQ k pos) J a it tn where
 mem:=mem
 obj:=obj
 keep:=keep
 item:=by
  intro X f l r hc i aa s σ H E I c st hg;obtain⟨z,n,x,S,Mid,WT,ad,C,g,_⟩:=W X f l r hc i aa s σ H I c st (.inl hg);obtain⟨hi,N⟩:=g hg;subst f l r;refine WT.item i s _ _ hi ad fun T d h' tk hp y D F hk=>⟨.ref T,rfl,?_⟩;obtain⟨xs,O,hz,hy⟩:=N d hp;have I1:Inv X aa σ (upd H T (.tup xs)) {s with heap:=h',toks:=tk}:=I.grown (ch:=wr) (fun b hb=>c b (hw b hb)) hk y (show zar X.prog X.w _ h' T (.tup xs) from⟨hz,d.toList,O,by have q:IsTup h' T d:=D;simpa using q⟩);have Y:∀b∈a,b≠T:=fun b hb=>by
   obtain⟨o,e,_⟩:=obj i _ st b hb;exact Az (Au (Ao e) y)
  have u:∀b∈a,cv X aa (upd H T (.tup xs)) b:=fun b hb=>by
   obtain⟨U,fr⟩:=c b hb;exact⟨by rw[aq (Y b hb)];exact U,fr⟩
  refine WT.go aQ k pos i T _ _ _ F fun G L M=>?_;have Z:Inv X aa σ (upd H T (.tup xs)) {s with heap:=G,toks:=tk}:=I1.turneds (s:={s with heap:=h',toks:=tk}) (t':=tk) (ch:=wr) (fun b hb=>u b (hw b hb)) M;exact⟨.ref T,_,Z,rfl,hy T (I.hok.fresh y),C _ _ L,fun b hb=>(u b hb).1⟩
 done:=by
  intro X f l r hc i aa s σ H E I c st hg;obtain⟨z,n,x,S,Mid,WT,ad,C,_,g⟩:=W X f l r hc i aa s σ H I c st (.inr hg);subst f l r;have e:=g hg;subst e;exact WT.done s _ _ ad fun h' tk hk=>⟨rfl,I.turneds (ch:=wr) (fun b hb=>c b (hw b hb)) hk⟩
 self:=self
def Em(K:Ab)(a b:Addr):It:=
 ⟨fun i H=>∃xs ys,SqT K H a xs/\SqT K H b ys/\i<min xs.length ys.length,
  fun i H v H'=>∃p x y,v=.ref p/\H p=none/\H'=upd H p (.tup [x,y])/\(∀xs,SqT K H a xs->xs[i]?=some x)/\∀ys,SqT K H b ys->ys[i]?=some y,
  fun i H=>∃xs ys,SqT K H a xs/\SqT K H b ys/\i=min xs.length ys.length⟩
def cX:(2:Nat)<=sizeLine:=by rw[sizeLine_eq];decide
def O0{P:Program}{w:World}{K:Ab}{aQ:List Expr}{k:Nat}{pos:Pos}(C D z TI TO i1 i2:Addr)(hd:TI≠z/\TO≠z/\TI≠TO/\TI≠i1/\TI≠i2/\z≠i1/\z≠i2/\TO≠i1/\TO≠i2/\i1≠i2):Turn P w K (.Tuple aQ k pos) (Em K C D) [z,TI,TO,i1,i2] z (fun i h=>IsZip h z TI TO .none/\IsPair h TI (.ref i1) (.ref i2)/\(∃a b,IsPair h TO a b)/\h.IsTupleIter i1 C i/\h.IsTupleIter i2 D i):=by
 obtain⟨d1,d2,d3,d4,d5,d6,d7,d8,d9,O⟩:=hd;refine HM (wr:=[z,TO,i1,i2]) (by simp) (fun i h st b hb=>?_) (fun i h h' st c=>?_) (fun b hb=>?_) (fun X hP hw hK hc i aa s σ H I N st je=>?_) fun A i s Q E st h=>wpAny_pyIter_zip st.1 h
 ·obtain⟨a1,a2,⟨a,b',a3⟩,⟨o4,a4,_,F⟩,⟨o5,a5,_,e5⟩⟩:=st
  simp at hb;rcases hb with rfl|rfl|rfl|rfl|rfl
  ·exact⟨_,a1,fun v z=>by cases z⟩
  ·exact⟨_,a2,fun v z=>by cases z⟩
  ·exact⟨_,a3,fun v z=>by cases z⟩
  ·exact⟨_,a4,fun v z=>by rw[F] at z;cases z⟩
  ·exact⟨_,a5,fun v z=>by rw[e5] at z;cases z⟩
 ·obtain⟨a1,a2,⟨a,b',a3⟩,a4,a5⟩:=st
  exact⟨c z (by simp) _ a1,c TI (by simp) _ a2,⟨a,b',c TO (by simp) _ a3⟩,a4.at fun o e=>c i1 (by simp) o e,a5.at fun o e=>c i2 (by simp) o e⟩
 ·simp at hb ⊢
  rcases hb with rfl|rfl|rfl|rfl<;>simp
 ·subst hP hw hK
  have hd:∃xs ys,SqT X.K H C xs/\SqT X.K H D ys:=by
   rcases je with ⟨xs,ys,a,b,_⟩|⟨xs,ys,a,b,_⟩
   ·exact⟨xs,ys,a,b⟩
   ·exact⟨xs,ys,a,b⟩
  obtain⟨xs,ys,d,l⟩:=hd;obtain⟨us,S,p1,_⟩:=I.tuple d;obtain⟨T,U,p2,_⟩:=I.tuple l;have W:=S.length;have Y:=U.length;have Z:=I.ok.hd hc;obtain⟨a1,a2,a3,a4,a5⟩:=st;have f:=fun b hb=>Kq I (N b hb) d;have G:=fun b hb=>Kq I (N b hb) l;have AP:Zp.Apart z TI TO i1 i2 [i1,C] [i2,D]:=by
   refine⟨?_,?_,?_,?_,by simp,by simp,?_,?_,d1,d2,d3,d4,d5⟩
   ·simp;exact⟨d6,(f z (by simp)).symm⟩
   ·simp;exact⟨d7,(G z (by simp)).symm⟩
   ·simp;exact⟨d8,(f TO (by simp)).symm⟩
   ·simp;exact⟨d9,(G TO (by simp)).symm⟩
   ·simp;exact⟨O,(G i1 (by simp)).symm⟩
   ·simp;exact⟨O.symm,(f i2 (by simp)).symm⟩
  have WZ:=Zp.Ko (prog:=X.prog) (w:=X.w) (A:=X.A) (Zp.Kn (A:=X.A.in1) Z i1 C (f i1 (by simp)) us.toArray) (Zp.Kn (A:=X.A.in1) Z i2 D (G i2 (by simp)) T.toArray) AP;refine⟨_,_,_,_,_,WZ,⟨a1,a2,a3,⟨a4,p1⟩,⟨a5,p2⟩⟩,fun j h st=>⟨st.1,st.2.1,st.2.2.1,st.2.2.2.1.1,st.2.2.2.2.1⟩,fun g=>?_,fun g=>?_⟩
  ·obtain⟨q,r,J,L,hi⟩:=g
   have e1:=I.tuple_inj J d;have e2:=I.tuple_inj L l;subst e1 e2;refine⟨by simpa[<-W,<-Y] using hi,fun aH hp=>?_⟩;obtain⟨x,y,px,py,rfl⟩:=hp;have jD:us[i]?=some x:=by simpa using px
   have M:T[i]?=some y:=by simpa using py
   have lx:i<q.length:=ω
   have ly:i<r.length:=ω
   have gx:q[i]?=some q[i]:=by simp[lx]
   have gy:r[i]?=some r[i]:=by simp[ly]
   obtain⟨u,e3,ru⟩:=S.get gx;obtain⟨u',F,dL⟩:=U.get gy;rw[jD] at e3;cases e3;rw[M] at F;cases F;refine⟨[q[i],r[i]],.cons ru (.cons dL .nil),cX,fun p hp=>⟨p,_,_,rfl,hp,rfl,fun zs hz=>?_,fun zs hz=>?_⟩⟩
   ·rw[I.tuple_inj hz d];exact gx
   ·rw[I.tuple_inj hz l];exact gy
  ·obtain⟨q,r,J,L,hi⟩:=g
   have e1:=I.tuple_inj J d;have e2:=I.tuple_inj L l;subst e1 e2
   simpa[<-W,<-Y] using hi
def O1(b e:Addr)(xs ys:Array Value):Meets (Builtin.«zip.__new__» ⟨[.type "zip",.ref b,.ref e],[]⟩) (fun _ R s=>s.heap.IsTuple b xs/\s.heap.IsTuple e ys/\
   ∀h',IsZip h' (s⁻¹+4) (s⁻¹+2) (s⁻¹+3) .none->IsPair h' (s⁻¹+2) (.ref s⁻¹) (.ref (s⁻¹+1))->
   IsPair h' (s⁻¹+3) .none .none->h'.IsTupleIter s⁻¹ b 0->h'.IsTupleIter (s⁻¹+1) e 0->
   (∀c o,s.heap.get? c=some o->h'.get? c=some o)->R (.ok (.ret (.ref (s⁻¹+4)))) {s with heap:=h'}):=
 .of_wp fun prog w A R s h=>by
  obtain⟨hp,g,d,tk,os⟩:=s;obtain⟨f,i,h⟩:=h;have p:=sub_zip;have j:Heap.IsTuple (Shared.heap ⟨hp,g,d,tk,os⟩) b xs:=f;have l:Heap.IsTuple (Shared.heap ⟨hp.push {cls:=.type "tuple_iterator",data:=.fields #[.ref b,.int 0 0]},g,d,tk,os⟩) e ys:=Heap.IsTuple.push i _
  wp_walk using wpAny_pyIter_tuple j,wpAny_pyIter_tuple l
  refine⟨_,rfl,?_⟩;dsimp only at h ⊢;have a:∀(h:Heap)(o:Obj),(h.push o).objs.size=h.objs.size+1:=fun h o=>Heap.size_push ..;simp only[a,Nat.add_assoc,Nat.reduceAdd];refine h _ ?_ ?_ ?_ ?_ ?_ fun c o x=>Ai _ (Ai _ (Ai _ (Ai _ (Ai _ x))))
  ·exact Heap.get?_push_at (by simp only[a]) rfl
  ·exact Ai _ (Ai _ (Heap.get?_push_at (by simp only[a]) rfl))
  ·exact Ai _ (Heap.get?_push_at (by simp only[a]) rfl)
  ·exact⟨_,Ai _ (Ai _ (Ai _ (Ai _ (AG _ rfl)))),rfl,rfl⟩
  ·exact⟨_,Ai _ (Ai _ (Ai _ (Heap.get?_push_at (by simp only[a]) rfl))),rfl,rfl⟩
section
variable{X:Cx}{aQ:List Expr}{k:Nat}{cT:Pos}
def HN(K:Ab)(ta:TA):TI:=fun σ H R=>ta σ H fun vs H1=>∃a b,vs=[.ref a,.ref b]/\(∃xs,SqT K H1 a xs)/\(∃ys,SqT K H1 b ys)/\R (Em K a b) H1
def O2{a b:Expr}{ta:TA}{p pos:Pos}(hg:Gl X "zip")(C:X.mg "zip"=none)(D:A9 "zip"=some (.type "zip"))(E:PA X [a,b] ta)(G:starEach [a,b] X.env=[(false,eval a X.env),(false,eval b X.env)]:=by rfl)(j:starEach [b] X.env=[(false,eval b X.env)]:=by rfl):PI X (.Tuple aQ k cT) (.Call (.Name "zip" p) [a,b] [] pos) (HN X.K ta):=by
 intro aa s σ H R I h;refine Call_ (i0 I hg C D (PyProof.Rows.callWith_type1 (aX (E pos aa s σ H _ I h) fun us c ⟨vs,H1,I1,l,d⟩=>?_) (by rw[G,j]) (by rw[j];rfl)));obtain⟨f,g,e,⟨xs,d⟩,⟨ys,r⟩,q⟩:=d;subst e;obtain⟨u,L,rfl,v,w⟩:=vals2 l;cases v;cases w;obtain⟨x,_,y,_⟩:=I1.tuple d;obtain⟨A,_,p2,_⟩:=I1.tuple r;refine callType_new F.called_zip ξ (F.typeCall_zip_2 _ _) (F.newCall_zip_2 _ _) (fun obj=>F.args_object_init_3 obj _ _) F.entry_zip_new (O1 f g x.toArray A.toArray) ⟨y,p2,fun h' a1 a2 a3 a4 a5 o=>?_⟩;refine⟨⟨_,a1,rfl⟩,wpAny_pyIter_zip a1 ?_⟩;have J:Inv X aa σ H1 {c with heap:=h'}:=I1.kept (t':=c.toks) o;refine⟨c⁻¹+4,[c⁻¹+4,c⁻¹+2,c⁻¹+3,c⁻¹,c⁻¹+1],_,_,H1,rfl,J,O0 f g _ _ _ _ _ (by refine⟨?_,?_,?_,?_,?_,?_,?_,?_,?_,?_⟩<;>(intro z;have M:(_:Nat)=_:=z;(first|lia|omega))),⟨a1,a2,⟨_,_,a3⟩,a4,a5⟩,fun b hb=>?_,q⟩;have i:c⁻¹<=b:=by
  simp only[List.mem_cons,List.not_mem_nil,or_false] at hb;rcases hb with rfl|rfl|rfl|rfl|rfl
  ·exact A4 _ _
  ·exact A4 _ _
  ·exact A4 _ _
  ·exact Af _
  ·exact A4 _ _
 exact I1.fpOk i (I1.hok.fresh i)
end
def oi(K:Ab)(a:Addr):It:=
 ⟨fun i H=>∃xs,SqL K H a xs/\i<xs.length,
  fun i H v H'=>∃p x,v=.ref p/\H p=none/\H'=upd H p (.tup [.int i,x])/\∀xs,SqL K H a xs->xs[i]?=some x,
  fun i H=>∃xs,SqL K H a xs/\i=xs.length⟩
def O3{P:Program}{w:World}{K:Ab}{aQ:List Expr}{k:Nat}{pos:Pos}(a e it:Addr)(hd:e≠it):Turn P w K (.Tuple aQ k pos) (oi K a) [e,it] e (fun i h=>(∃old,IsEnum h e it i old)/\h.IsListIter it a i):=by
 refine HM (wr:=[e,it]) (by simp) (fun i h st b hb=>?_) (fun i h h' st y=>?_) (fun b hb=>hb) (fun X G hw J hc i aa s σ H I L st M=>?_) fun A i s Q E st h=>?_
 ·obtain⟨⟨old,a1⟩,⟨o4,a4,_,N⟩⟩:=st
  simp at hb;rcases hb with rfl|rfl
  ·exact⟨_,a1,fun v z=>by cases z⟩
  ·exact⟨_,a4,fun v z=>by rw[N] at z;cases z⟩
 ·obtain⟨⟨old,a1⟩,a4⟩:=st
  exact⟨⟨old,y e (by simp) _ a1⟩,a4.at fun o q=>y it (by simp) o q⟩
 ·subst G hw J
  have r:∃xs,SqL X.K H a xs:=by
   rcases M with ⟨xs,q,_⟩|⟨xs,q,_⟩
   ·exact⟨xs,q⟩
   ·exact⟨xs,q⟩
  obtain⟨xs,c⟩:=r;obtain⟨us,C,O,_⟩:=I.list c;have D:=C.length;have U:=I.ok.hd hc;obtain⟨a1,a4⟩:=st;have f:=fun b hb=>HL I (L b hb) c;have Y:=WalksT.enumerateD (prog:=X.prog) (w:=X.w) (A:=X.A) (Draws.list (A:=X.A.in1) U it a (f it (by simp)) us.toArray) e hd (by simp;exact⟨hd,(f e (by simp)).symm⟩) (by simp);refine⟨_,_,_,_,_,Y,⟨a1,a4,O.isList⟩,fun j h st=>⟨st.1,st.2.1⟩,fun g=>?_,fun g=>?_⟩
  ·obtain⟨d,l,hi⟩:=g
   have e1:=I.list_inj l c;subst e1;refine⟨by simpa[<-D] using hi,fun Z hp=>?_⟩;obtain⟨t,x,S,rfl⟩:=hp;have W:us[i]?=some x:=by simpa using S
   have F:d[i]?=some d[i]:=by simp[hi]
   obtain⟨u,e3,T⟩:=C.get F;rw[W] at e3;cases e3;refine⟨[.int i,d[i]],.cons ⟨_,rfl⟩ (.cons T .nil),cX,fun p hp=>⟨p,_,rfl,hp,rfl,fun zs hz=>?_⟩⟩;rw[I.list_inj hz c];exact F
  ·obtain⟨d,l,hi⟩:=g
   have e1:=I.list_inj l c;subst e1
   simpa[<-D] using hi
 ·obtain⟨⟨old,a1⟩,_⟩:=st
  exact wpAny_pyIter_enum a1 h
section
variable{X:Cx}{aQ:List Expr}{k:Nat}{cT:Pos}
def O4(K:Ab)(ta:TA):TI:=fun σ H R=>ta σ H fun vs H1=>∃a,vs=[.ref a]/\(∃xs,SqL K H1 a xs)/\R (oi K a) H1
def HP{a:Expr}{ta:TA}{p pos:Pos}(hg:Gl X "enumerate")(o:X.mg "enumerate"=none)(r:A9 "enumerate"=some (.type "enumerate"))(v:PA X [a] ta)(w:starEach [a] X.env=[(false,eval a X.env)]:=by rfl):PI X (.Tuple aQ k cT) (.Call (.Name "enumerate" p) [a] [] pos) (O4 X.K ta):=by
 intro aa s σ H R I h;refine Call_ (i0 I hg o r (PyProof.Rows.callWith_type1 (aX (v pos aa s σ H _ I h) fun us c ⟨vs,H1,I1,g,d⟩=>?_) w rfl));obtain⟨a',e,⟨xs,d⟩,q⟩:=d;subst e;obtain⟨u,rfl,j⟩:=vals1 g;cases j;obtain⟨y,_,l,_⟩:=I1.list d;refine call_enumerate_list l.isList fun h' a1 a2 a3 i=>?_;refine wpAny_pyIter_enum a1 ?_;have x:Inv X aa σ H1 {c with heap:=h'}:=I1.kept (t':=c.toks) i;refine⟨c⁻¹+1,[c⁻¹+1,c⁻¹],_,_,H1,rfl,x,O3 a' _ _ (by intro z;have A:(_:Nat)=_:=z;(first|lia|omega)),⟨⟨_,a1⟩,a2⟩,fun b hb=>?_,q⟩;have f:c⁻¹<=b:=by
  simp only[List.mem_cons,List.not_mem_nil,or_false] at hb;rcases hb with rfl|rfl
  ·exact A4 _ _
  ·exact Af _
 exact I1.fpOk f (I1.hok.fresh f)
def O5{K:Ab}{a:Addr}{xs:List V}{g:TG}{tb:TS}{D:Ends}{σ:St}{H:Hp}(b:Nat->St->Hp->Prop)(l:b 0 σ H)(o:∀i σ H,i<=xs.length->b i σ H->SqL K H a xs)(r:∀i x p σ H,xs[i]?=some x->b i σ H->H p=none->g (.ref p) σ (upd H p (.tup [.int i,x])) fun d H2=>tb {D with nx:=b (i+1),ct:=b (i+1),bk:=D.nx} d H2)(hd:∀σ H,b xs.length σ H->D.nx σ H):∃W:Nat->Nat->St->Hp->Prop,(∃m,W 0 m σ H)/\∀i m σ H,W i m σ H->
   ((oi K a).stop i H/\D.nx σ H)\/((oi K a).go i H/\∃N:St->Hp->Prop,(∀f H',N f H'->∃h,h<m/\W (i+1) h f H')/\∀x H',(oi K a).yld i H x H'->g x σ H' fun d H2=>tb {D with nx:=N,ct:=N,bk:=D.nx} d H2):=by
 refine⟨fun i m σ H=>m=xs.length-i/\i<=xs.length/\b i σ H,⟨xs.length,by simp,Ar _,l⟩,?_⟩;rintro i m σ H ⟨rfl,hi,p⟩;have q:=o i σ H hi p
 by_cases c:i<xs.length
 ·refine .inr ⟨⟨xs,q,c⟩,b (i+1),fun f H' j=>⟨xs.length-(i+1),ω,rfl,c,j⟩,fun x H' y=>?_⟩
  obtain⟨pp,x',rfl,hp,rfl,y⟩:=y;exact r i x' pp σ _ (y xs q) p hp
 ·have e:i=xs.length:=ω
  subst e;exact .inl ⟨⟨xs,q,rfl⟩,hd σ H p⟩
def dS:∀{bs:List Bool}{us:List Value},Vals (bs.map V.bl) us->LSm.BoolsAre us bs
 |[],_,.nil=>.nil
 |b::bs,_,.cons r t=>by cases r;exact .cons b (dS t)
def lF(hc:X.calm=true):iu X (.builtin "all") (fun xs H Q=>∃(l:Addr)(bs:List Bool),xs=[.ref l]/\SqL X.K H l (bs.map V.bl)/\Q (.bl (bs.all id)) H):=by
 intro aa s σ H xs us Q I r h;obtain⟨l,bs,rfl,hq,q⟩:=h;obtain⟨u,rfl,j⟩:=vals1 r;cases j;obtain⟨a,o,p,_⟩:=I.list hq;have w:=I.ok.hd hc;have c:=p.isList;have hb:=dS o;have d:l<s⁻¹:=by obtain⟨_,e,_⟩:=c;exact Ao e
 refine call_all_walk (wpAny_pyIter_list c ?_);refine⟨s⁻¹,[s⁻¹,l],[s⁻¹],a.toArray.size,_,_,fun i=>(bs[i]?).getD true,rfl,Walks.list (A:=X.A.in1) w _ l (Az d) a.toArray,
  ⟨⟨_,AG _ rfl,rfl,rfl⟩,c.push _⟩,fun i v s' x y g f=>?_,fun h' tk hk=>?_⟩
 ·obtain⟨b,e,rfl⟩:=hb.get i v (by simpa using g)
  simp only[e,Option.getD_some] at f;exact wpAny_truthy_bool f
 ·have e:((Ah a.toArray.size).all fun i=>(bs[i]?).getD true)=bs.all id:=by
   rw[At,hb.length];exact LSm.range_all bs
  rw[e];exact⟨.bl _,H,I.kept (LSm.kept_iter hk),rfl,q⟩
end
section
variable{K:Ab}{a:Addr}{xs:List V}{g:TG}{tc:TT}{te:TE}{σ:St}{H1:Hp}{Q:VK}{D:Addr}
def HQ(n:Nat)(a:Nat->St->List V->Hp->Prop)(i m:Nat)(σ:St)(H:Hp):Prop:=m=n-i/\i<=n/\∃ys,ys.length<=i/\a i σ ys H
def fS(n:Nat)(d:Nat->St->List V->Hp->Prop)(D:Addr)(i:Nat)(c:St):VK:=fun y b=>∃ys a,b D=some (.lst ys)/\ys.length<sizeLine/\a<n-i/\HQ n d (i+1) a c (upd b D (.lst (ys++[y])))
def c_(n:Nat)(c:Nat->St->List V->Hp->Prop)(i:Nat)(b:St)(d:Hp):Prop:=∃a,a<n-i/\HQ n c (i+1) a b d
def bZ{n:Nat}{c:Nat->St->List V->Hp->Prop}{i:Nat}{b:St}{ys:List V}{y:V}{a:Hp}(d:n<=sizeLine)(hi:i<n)(f:ys.length<=i)(e:a D=some (.lst ys))(p:c (i+1) b (ys++[y]) (upd a D (.lst (ys++[y])))):fS n c D i b y a:=
 ⟨ys,n-(i+1),e,ω,ω,rfl,hi,ys++[y],by simp;(first|lia|omega),p⟩
def j9{n:Nat}{b:Nat->St->List V->Hp->Prop}{i:Nat}{a:St}{ys:List V}{c:Hp}(hi:i<n)(d:ys.length<=i)(p:b (i+1) a ys c):c_ n b i a c:=
 ⟨n-(i+1),ω,rfl,hi,ys,ω,p⟩
def sJ{J:It}(n:Nat)(a:Nat->St->List V->Hp->Prop)(l:a 0 σ [] (upd H1 D (.lst [])))(o:∀σ ys H,a n σ ys H->J.stop n H)(u:∀i σ ys H,i<n->a i σ ys H->J.go i H)(q:∀i σ ys H x H',i<n->ys.length<=i->a i σ ys H->J.yld i H x H'->g x σ H' fun d r=>tc d r fun b h=>if b=true then te d h (fS n a D i d) else c_ n a i d h)(hd:∀σ ys H,a n σ ys H->Q (.ref D) H):cV J g tc te σ H1 D Q:=by
 refine⟨HQ n a,⟨n,by simp,Ar _,[],Af _,l⟩,?_⟩;rintro i m f H2 ⟨rfl,hi,ys,j,p⟩
 by_cases c:i<n
 ·exact .inr ⟨u i f ys H2 c p,fun x s y=>q i f ys H2 x s c j p y⟩
 ·have e:i=n:=ω
  subst e;exact .inl ⟨o f ys H2 p,hd f ys H2 p⟩
def lH(c:Nat->St->List V->Hp->Prop)(j:c 0 σ [] (upd H1 D (.lst [])))(f:∀i σ ys H,c i σ ys H->SqL K H a xs)(l:∀i σ ys H x,xs[i]?=some x->i<xs.length->ys.length<=i->c i σ ys H->g x σ H fun d o=>tc d o fun b h=>if b=true then te d h (fS xs.length c D i d) else c_ xs.length c i d h)(hd:∀σ ys H,c xs.length σ ys H->Q (.ref D) H):cV (fw K a) g tc te σ H1 D Q:=by
 refine sJ xs.length c j (fun σ ys H p=>⟨xs,f _ _ _ _ p,Af _⟩) (fun i σ ys H hi p=>⟨xs,xs[i],f _ _ _ _ p,by simp[hi]⟩) (fun i σ ys H x H' hi hy p y=>?_) hd;obtain⟨e,y⟩:=y;subst e;exact l i σ ys _ x (y xs (f _ _ _ _ p)) hi hy p
def sM{lo:Int}{n:Nat}(a:Nat->St->List V->Hp->Prop)(f:a 0 σ [] (upd H1 D (.lst [])))(h:∀i σ ys H,i<n->ys.length<=i->a i σ ys H->g (.int (lo+i)) σ H fun c j=>tc c j fun b d=>if b=true then te c d (fS n a D i c) else c_ n a i c d)(hd:∀σ ys H,a n σ ys H->Q (.ref D) H):cV (gb lo n) g tc te σ H1 D Q:=by
 refine sJ n a f (fun σ ys H p=>Af _) (fun i σ ys H hi p=>hi) (fun i σ ys H x H' hi hy p y=>?_) hd;obtain⟨e,y⟩:=y;subst e y;exact h i σ ys _ hi hy p
def O6{e f:Addr}{ys:List V}(a:Nat->St->List V->Hp->Prop)(q:a 0 σ [] (upd H1 D (.lst [])))(c:∀i σ zs H,a i σ zs H->SqT K H e xs/\SqT K H f ys)(r:∀i σ zs H p x y,xs[i]?=some x->ys[i]?=some y->i<min xs.length ys.length->zs.length<=i->a i σ zs H->H p=none->g (.ref p) σ (upd H p (.tup [x,y])) fun d s=>tc d s fun b h=>if b=true then te d h (fS (min xs.length ys.length) a D i d) else c_ (min xs.length ys.length) a i d h)(hd:∀σ zs H,a (min xs.length ys.length) σ zs H->Q (.ref D) H):cV (Em K e f) g tc te σ H1 D Q:=by
 refine sJ (min xs.length ys.length) a q (fun σ zs H p=>⟨xs,ys,(c _ _ _ _ p).1,(c _ _ _ _ p).2,rfl⟩) (fun i σ zs H hi p=>⟨xs,ys,(c _ _ _ _ p).1,(c _ _ _ _ p).2,hi⟩) (fun i σ zs H v H' hi hy p y=>?_) hd;obtain⟨pp,x,j,rfl,hp,rfl,l,o⟩:=y;exact r i σ zs H pp x j (l xs (c _ _ _ _ p).1) (o ys (c _ _ _ _ p).2) hi hy p hp
end
end L2
end
section
namespace Dk
open PySem PySem.Spec PyProof.Rows
def IsD(h:Heap)(d:Addr)(es:Array DictEntry)(ep:Nat):Prop:=∃o,h.get? d=some o/\o.ExactDict/\o.data=.dict es ep
def IsD.at{h h':Heap}{d:Addr}{es:Array DictEntry}{ep:Nat}(x:IsD h d es ep)(k:∀o,h.get? d=some o->h'.get? d=some o):IsD h' d es ep:=let ⟨o,ho,r⟩:=x;⟨o,k o ho,r⟩
def IsD.lt{h:Heap}{d:Addr}{es:Array DictEntry}{ep:Nat}(x:IsD h d es ep):d<h.objs.size:=let ⟨_,ho,_⟩:=x;Ao ho
section
variable{prog:Program}{w:World}{A:Around}{E:Ω}{s:Shared}{it d:Addr}{i ep:Nat}{es:Array DictEntry}
def IsD.typeIs(x:IsD s.heap d es ep):s.TypeIs (.ref d) "dict":=let ⟨o,ho,r⟩:=x;⟨o,ho,r.1.1⟩
def iter{Q:Ω}(hd:(d==sysModules)=false)(e:IsD s.heap d es ep)(f:Q (.ref s⁻¹) {s with heap:=s.heap.push {cls:=.type "dict_keyiterator",data:=.fields #[.ref d,.int 0 0,.int es.size 0,.int ep 0]}}):wpAny (model prog w) A (pyIter (.ref d)) Q E s:=by
 have a:=e.typeIs;obtain⟨o,b,hc,c⟩:=id e;refine wpAny_pyIter_slot a PySem.F.slot_dict_iter (wpAny_call_entry PySem.F.slot_dict_iter a PySem.F.entry_dict_iter ?_ (PySem.F.args_dict_iter_1 _));unfold Builtin.«dict.__iter__»;refine Ae ?_;unfold Builtin.Dict.dictSlotNone;refine Ae (wpAny_notOrdered_dict a ?_);show wpAny _ _ (pure (Value.ref d)) _ _ s;refine Ap ?_;show wpAny _ _ (Builtin.Dict.showsAll d >>= _) _ _ s;unfold Builtin.Dict.showsAll;rw[if_neg (by rw[hd];exact Av)];refine Ae (Ap ?_);refine Ae (wpAny_dictEntries b c ?_);refine Ae (wpAny_dictEpoch b c ?_);refine Ae (wpAny_newObj_type (Ap ⟨_,rfl,"dict_keyiterator",_,⟨_,AG _ rfl,rfl⟩,PySem.F.slot_dict_keyiterator_next.lookup,?_⟩))
 simpa[rawInt] using f
def item{Q:Option Value->Shared->Prop}(a:s.heap.IsKeyIter it d i es.size ep)(h:IsD s.heap d es ep)(hx:i<es.size)(j:∀h',h'.IsKeyIter it d (i+1) es.size ep->Heap.SameBut it s.heap h'->Q (some es[i].key) {s with heap:=h'}):wpAny (model prog w) A (pyNext (.ref it)) Q E s:=by
 obtain⟨o,b,hc,hd⟩:=id a;obtain⟨l,c,p,e⟩:=id h;unfold pyNext;refine Ae (wpAny_attempt (wpAny_callSpecial?_slot (name:=Str.ofString "__next__") a.typeIs PySem.F.slot_dict_keyiterator_next
  (wpAny_call_entry PySem.F.slot_dict_keyiterator_next a.typeIs PySem.F.entry_dict_keyiterator_next ?_ (PySem.F.args_dict_keyiterator_next_1 _))))
 refine Ae (Ap ?_);refine Ae ?_;refine Ae ?_
 first|refine Ae (wpAny_typeNameOfWhole_keyiter a.typeIs (Ap ?_))|refine Ae (wpAny_typeNameOf_keyiter a.typeIs (Ap ?_))
 refine Ae (wpAny_fieldsOf b hd ?_);have g:Builtin.Dict_items.ownsTuple "dict_keyiterator"=false:=ξ
 simp only[g,Bool.false_eq_true,if_false];show wpAny _ _ (if(Value.ref d==Value.none)=true then _ else _) _ _ s;rw[if_neg (show ¬((Value.ref d==Value.none)=true) from Av)];refine Ae (Ap ?_);refine Ae (wpAny_dictEntries c e ?_);rw[if_neg (by simp)];refine Ae (Ap ?_);refine Ae (wpAny_dictEpoch c e ?_);rw[if_neg (by simp)];refine Ap ?_;simp only[show ¬((i:Int)<0) from ω,if_false,Int.toNat_natCast,Array.getElem?_eq_getElem hx];refine Ae ?_
 first|refine Ae (wpAny_typeNameOfWhole_keyiter a.typeIs (Ap ?_))|refine Ae (wpAny_typeNameOf_keyiter a.typeIs (Ap ?_))
 refine Ae (wpAny_isOneOf_keyiter a.typeIs ?_);show wpAny _ _ (setField (.ref it) 1 (rawInt ((i:Int)+1)) >>= _) _ _ s;refine Ae (wpAny_setField b hd (by simp) ?_);have f:(s.heap.update it (Obj.mapFields (·.setIfInBounds 1 (rawInt ((i:Int)+1))))).IsKeyIter it d (i+1) es.size ep:=
  ⟨_,Heap.get?_update_self _ b (Obj.isFreed_of_fields (Obj.data_mapFields hd _)),(Obj.cls_mapFields ..).trans hc,by rw[Obj.data_mapFields hd];simp[rawInt]⟩
 refine Ae (wpAny_holding ?_);refine Ae (wpAny_isOneOf_keyiter (s:={s with heap:=s.heap.update it (Obj.mapFields (·.setIfInBounds 1 (rawInt ((i:Int)+1))))}) f.typeIs ?_);show wpAny _ _ (pure es[i].key) _ _ _;exact Ap (Ap ⟨_,rfl,Ap (j _ f (Heap.SameBut.update ..))⟩)
def done{Q:Option Value->Shared->Prop}(i:A.handled=none)(c:s.heap.IsKeyIter it d es.size es.size ep)(j:IsD s.heap d es ep)(l:∀h',Heap.ExtBut it s.heap h'->Q none {s with heap:=h'}):wpAny (model prog w) A (pyNext (.ref it)) Q E s:=by
 obtain⟨o,e,hc,hd⟩:=id c;obtain⟨p,f,q,g⟩:=id j;unfold pyNext;refine Ae (wpAny_attempt (wpAny_callSpecial?_slot (name:=Str.ofString "__next__") c.typeIs PySem.F.slot_dict_keyiterator_next
  (wpAny_call_entry PySem.F.slot_dict_keyiterator_next c.typeIs PySem.F.entry_dict_keyiterator_next ?_ (PySem.F.args_dict_keyiterator_next_1 _))))
 refine Ae (Ap ?_);refine Ae ?_;refine Ae ?_
 first|refine Ae (wpAny_typeNameOfWhole_keyiter c.typeIs (Ap ?_))|refine Ae (wpAny_typeNameOf_keyiter c.typeIs (Ap ?_))
 refine Ae (wpAny_fieldsOf e hd ?_);have h:Builtin.Dict_items.ownsTuple "dict_keyiterator"=false:=ξ
 simp only[h,Bool.false_eq_true,if_false];show wpAny _ _ (if(Value.ref d==Value.none)=true then _ else _) _ _ s;rw[if_neg (show ¬((Value.ref d==Value.none)=true) from Av)];refine Ae (Ap ?_);refine Ae (wpAny_dictEntries f g ?_);rw[if_neg (by simp)];refine Ae (Ap ?_);refine Ae (wpAny_dictEpoch f g ?_);rw[if_neg (by simp)];refine Ap ?_;simp only[show ¬((es.size:Int)<0) from ω,if_false,Int.toNat_natCast,Array.getElem?_eq_none (Af es.size)];refine Ae ?_
 first|refine Ae (wpAny_typeNameOfWhole_keyiter c.typeIs (Ap ?_))|refine Ae (wpAny_typeNameOf_keyiter c.typeIs (Ap ?_))
 show wpAny _ _ (setField (.ref it) 0 .none >>= _) _ _ s;refine Ae (wpAny_setField e hd (by simp) ?_);show wpAny _ _ (newExc (.type "StopIteration") [] >>= _) _ _ _;refine Ae ?_;simp only[newExc,newTuple];refine Ae (wpAny_newObj_type ?_ (by size_fits));refine Ae (m:=firstArgMember _ _) (wpAny_of_eq (a:=Value.none) (by first|rfl|(simp only[firstArgMember];rfl)) ?_);refine wpAny_newObj_type ?_ (by size_fits);simp only[raiseNew];refine Ae (wpAny_handled ?_);rw[show A.in1.handled=none from i];refine Ae (Ap (wpAny_throw ?_));refine Ae (wpAny_isInstance (T:="StopIteration") (b:=true) ⟨_,AG _ rfl,rfl⟩ isSubtype_stop ?_);exact Ap (l _ (((Heap.SameBut.update ..).extBut.push _).push _))
def walks(j:A.handled=none)(I d:Addr)(c:d≠I)(es:Array DictEntry)(ep:Nat):Walks prog w A I [I,d] [I] es.size (fun i v=>∃e,es[i]?=some e/\v=e.key) (fun i h=>h.IsKeyIter I d i es.size ep/\IsD h d es ep) where
 sub:=fun b hb=>by simp at hb ⊢;exact .inl hb
 frame:=fun i h h' st k=>⟨let ⟨o,ho,r⟩:=st.1;⟨o,k I (by simp) o ho,r⟩,st.2.at fun o e=>k d (by simp) o e⟩
 item:=fun i s Q E hi st a=>item st.1 st.2 hi fun h' ad f=>a _ h' s.toks ⟨es[i],by simp[hi],rfl⟩ ⟨ad,st.2.at fun o e=>(f.2 d c).trans e⟩ fun b o hb e=>(f.2 b (fun z=>hb (by simp[z]))).trans e
 done:=fun s Q E st a=>done j st.1 st.2 fun h' g=>a h' s.toks fun b o hb e=>g b o (fun z=>hb (by simp[z])) e
 self:=fun i s Q E st a=>wpAny_pyIter_keyiter st.1 a
def src(lo:(d==sysModules)=false):PySem.W.KdlSrc prog w "dict" d d es.size (fun i v=>∃e,es[i]?=some e/\v=e.key) (fun h=>IsD h d es ep) where
 type:=fun _ a=>a.typeIs
 there:=fun _ a=>⟨a.lt,a.lt⟩
 keep:=fun _ _ a hk=>a.at fun o e=>hk d (.inl rfl) o e
 notList:=ξ
 notTuple:=ξ
 hint:=fun _ _ _ _ a hq=>PySem.W.kdl_hint_dict a.typeIs hq
 iter:=fun _ s b a=>⟨_,_,(fun _ _ hq=>iter lo a hq),walks b _ d (Az a.lt) es ep,⟨⟨_,AG _ rfl,rfl,rfl⟩,a.at fun o e=>Ai _ e⟩⟩
end
end Dk
namespace L2
open PySem PySem.Spec PyProof.Rows
section
variable{X:Cx}
def O7{P:Program}{w:World}{k:Key}{u:Value}(h:(ea P w).is k u=true):RelV (kV k) u:=by
 rcases aW h with ⟨i,t,rfl,rfl⟩|⟨x,t,rfl,rfl⟩
 ·exact⟨t,rfl⟩
 ·exact⟨t,rfl⟩
end
end L2
end
section
namespace L2
open PySem PySem.Spec PyProof.Rows
def Tp(H:Hp)(a:Addr)(ps:List Int):Prop:=H a=some (.tup (ps.map V.int))
abbrev Tps(H:Hp)(as:List Addr)(bX:Ξ):Prop:=Paired (fun a ps=>Tp H a ps) as bX
def Same.tp{H H':Hp}{a:Addr}{ps:List Int}(e:Same H H')(h:Tp H a ps):Tp H' a ps:=e _ _ h
def Same.new{H:Hp}{a:Addr}{o:HO}(h:H a=none):Same H (upd H a o):=fun b u e=>by rw[aq (zn e h)];exact e
def Same.then{H H1:Hp}{a:Addr}{o:HO}(e:Same H H1)(h:H a=none):Same H (upd H1 a o):=fun b u q=>by rw[aq (zn q h)];exact e b u q
def Tps.length{H:Hp}{a:List Addr}{b:Ξ}(h:Tps H a b):a.length=b.length:=Paired.length h
def Tps.get{H:Hp}:∀{b:List Addr}{c:Ξ}{i:Nat}{a:Addr},Tps H b c->b[i]?=some a->∃ps,c[i]?=some ps/\Tp H a ps
 |_,_,_,_,.nil,e=>by simp at e
 |_,_,0,_,.cons r _,e=>by simp at e;subst e;exact⟨_,rfl,r⟩
 |_,_,i+1,a,.cons _ t,e=>by
  obtain⟨u,h1,h2⟩:=Tps.get (i:=i) (a:=a) t (by simpa using e);exact⟨u,by simpa using h1,h2⟩
def Tps.snoc{H:Hp}{b:List Addr}{c:Ξ}{a:Addr}{ps:List Int}(h:Tps H b c)(q:Tp H a ps):Tps H (b++[a]) (c++[ps]):=by
 induction h with
 |nil=>exact .cons q .nil
 |cons r t ih=>exact .cons r ih
def Tps.append{H:Hp}{a bs:List Addr}{b c:Ξ}(h:Tps H a b)(q:Tps H bs c):Tps H (a++bs) (b++c):=by
 induction h with
 |nil=>exact q
 |cons r t ih=>exact .cons r ih
def Tps.take{H:Hp}:∀{a:List Addr}{b:Ξ}(n:Nat),Tps H a b->Tps H (a.take n) (b.take n)
 |_,_,0,_=>.nil
 |_,_,_+1,.nil=>.nil
 |_,_,n+1,.cons r t=>.cons r (Tps.take n t)
def Tps.drop{H:Hp}:∀{a:List Addr}{b:Ξ}(n:Nat),Tps H a b->Tps H (a.drop n) (b.drop n)
 |_,_,0,r=>r
 |_,_,_+1,.nil=>.nil
 |_,_,n+1,.cons _ t=>Tps.drop n t
section
variable{X:Cx}
def zmC:V->List V->Hp->VK->Prop:=fun x vs H Q=>∃l xs i y,x=.ref l/\vs=[.int i,y]/\H l=some (.lst xs)/\0<=i/\i<=xs.length/\xs.length<sizeLine/\Q .non (upd H l (.lst (xs.take i.toNat++y::xs.drop i.toNat)))
def O8:rx X "list.insert" zmC:=by
 intro aa s σ H x vs v us Q I d f h;obtain⟨l,xs,i,y,rfl,rfl,b,w,hi,hz,q⟩:=h;cases d;obtain⟨u,c,rfl,g,j⟩:=f.two;obtain⟨t,rfl⟩:=g;obtain⟨z,a,n,r,A,e⟩:=I.lstM b;have o:sizeLine<2 ^ 62:=by rw[sizeLine_eq];decide
 have p:Builtin.List.listFitsIndex i=true:=by
  unfold Builtin.List.listFitsIndex;simp only[AX,decide_eq_true_eq];constructor<;>(first|lia|omega)
 refine call_meets F.slot_list_insert ⟨_,e,rfl⟩ F.entry_list_insert (F.args_list_insert_3 _ _ _) (PySem.AutoSeq1.list_insert_list_int_val_1 l a.toArray n i t c (by simp[p]) (by rw[At];(first|lia|omega))) ⟨e,?_⟩;refine⟨.non,_,I.lset (its':=a.take i.toNat++c::a.drop i.toNat) (t':=s.toks) b e ?_ ((r.take _).append (.cons j (r.drop _))) ?_,rfl,q⟩
 ·have hk:(if i<0 then(i+(a.toArray.size:Int)).toNat else min i.toNat a.toArray.size)=i.toNat:=by
   rw[if_neg ω,At];(first|lia|omega)
  dsimp only;rw[hk];simp;exact Ax (by rw[List.length_drop];exact Af _)
 ·rw[AJ,AH,List.length_take,List.length_drop]
  (first|lia|omega)
def Kr(ns:List Int):∀k,k<=ns.length->preSum (fun i=>(ns[i]?).getD 0) k=(ns.take k).sum
 |0,_=>by simp[preSum]
 |k+1,h=>by
  have a:=Kr ns k ω;have e:ns[k]?=some ns[k]:=Ac ω;show preSum (fun i=>(ns[i]?).getD 0) k+(ns[k]?).getD 0=_;rw[a,List.take_add_one,e,List.sum_append];simp
def ints_get{ns:List Int}{a:List Value}(r:Vals (ns.map V.int) a){i:Nat}{v:Value}(h:a[i]?=some v):∃n t,ns[i]?=some n/\v=.int n t:=by
 have c:a.length=ns.length:=by rw[<-r.length,Aa]
 have hi:i<ns.length:=by rw[<-c];exact(List.getElem?_eq_some_iff.mp h).1
 have e:ns[i]?=some ns[i]:=Ac hi;obtain⟨u,hu,b⟩:=r.get (show(ns.map V.int)[i]?=some (V.int ns[i]) by rw[Aj,e];rfl);rw[h] at hu;obtain rfl:=AL hu;obtain⟨t,rfl⟩:=b;exact⟨_,t,e,rfl⟩
def O9(hc:X.calm=true):iu X (.builtin "sum") (fun xs H Q=>∃(l:Addr)(ns:List Int),xs=[.ref l]/\SqL X.K H l (ns.map V.int)/\Q (.int ns.sum) H):=by
 intro aa s σ H xs us Q I r h;obtain⟨l,ns,rfl,hq,q⟩:=h;obtain⟨u,rfl,w⟩:=vals1 r;cases w;obtain⟨a,g,x,_⟩:=I.list hq;have y:=I.ok.hd hc;have d:=x.isList;have c:l<s⁻¹:=by obtain⟨_,e,_⟩:=d;exact Ao e
 have z:a.length=ns.length:=by rw[<-g.length,Aa]
 refine call_sum_walkAnyS (wpAny_pyIter_list d ?_);refine⟨s⁻¹,[s⁻¹,l],[s⁻¹],_,a.toArray.size,_,_,fun i=>(ns[i]?).getD 0,rfl,(Walks.list (A:=X.A.in1) y _ l (Az c) a.toArray).toS,
  ⟨⟨_,AG _ rfl,rfl,rfl⟩,d.push _⟩,fun b hb=>?_,fun i v j=>?_,fun s' t' f=>?_⟩
 ·have C:b<=s⁻¹:=by
   simp only[List.mem_cons,List.not_mem_nil,or_false] at hb;rcases hb with rfl|rfl
   ·exact Af _
   ·exact Nat.le_of_lt c
  exact Aq C (Ao (AG _ rfl))
 ·obtain⟨n,t,e,rfl⟩:=ints_get g (show a[i]?=some v by simpa using j)
  exact⟨t,by simp only[e,Option.getD_some]⟩
 ·have e:preSum (fun i=>(ns[i]?).getD 0) a.toArray.size=ns.sum:=by
   rw[At,z,Kr ns _ (Af _),Ax (Af _)]
  rw[e,Moved.eq_with f];exact⟨.int _,H,I.kept (LSm.kept_iter fun b o hb p=>f.heap b o hb p),⟨_,rfl⟩,q⟩
abbrev zm4:V->List V->Hp->VK->Prop:=fun x vs H Q=>∃(l:Addr)(ys:List V)(y:V),x=.ref l/\vs=[y]/\H l=some (.lst ys)/\ys.all gQ=true/\gQ y=true/\Q (.int (ys.countP fun z=>fL z y)) H
abbrev zm2:V->List V->Hp->VK->Prop:=fun x vs H Q=>∃(l:Addr)(ys:List V)(y:V)(j:Nat),x=.ref l/\vs=[y]/\H l=some (.lst ys)/\ys.all gQ=true/\gQ y=true/\j<1000/\((ys[j]?).map fun z=>fL z y)=some true/\(∀m,m<j->((ys[m]?).map fun z=>fL z y)=some false)/\Q (.int j) H
def O_{x:V}{xs:List V}{us:List Value}(h:Vals xs us)(f:xs.all gQ=true):us.countP (jc x)=xs.countP fun y=>fL y x:=by
 induction h with
 |nil=>rfl
 |cons r t ih=>
  rw[List.all_cons,AX] at f;rw[List.countP_cons,List.countP_cons,Hr r f.1,ih f.2]
def Ks{x:V}{xs:List V}{us:List Value}(h:Vals xs us)(f:xs.all gQ=true):∀m:Nat,(us[m]?).map (jc x)=(xs[m]?).map fun y=>fL y x:=by
 induction h with
 |nil=>intro m;simp
 |cons r t ih=>
  rw[List.all_cons,AX] at f;intro m;cases m with
  |zero=>simp[Hr r f.1]
  |succ m=>simpa using ih f.2 m
def O':rx X "list.count" zm4:=by
 intro aa s σ H x vs v us Q I d f h;obtain⟨l,ys,y,rfl,rfl,i,a,j,q⟩:=h;cases d;obtain⟨u,rfl,o⟩:=f.one;obtain⟨z,b,c,r,w,e⟩:=I.lstM i;refine call_meets F.slot_list_count ⟨_,e,rfl⟩ F.entry_list_count (F.args_list_count_2 _ _) (SeqAt.list_countAt l b.toArray c none #[] u (jc y)) ⟨e,fun g hy=>?_,?_⟩
 ·exact Hs o j r a g (by simpa using hy)
 ·have p:b.toArray.toList.countP (jc y)=ys.countP fun z=>fL z y:=O_ r a
  exact⟨.int (ys.countP fun z=>fL z y),H,I.tok _,⟨_,by rw[<-p]⟩,q⟩
def Pa:rx X "list.index" zm2:=by
 intro aa s σ H x vs v us Q I i o h;obtain⟨l,ys,y,j,rfl,rfl,w,d,A,D,h1,h2,q⟩:=h;cases i;obtain⟨u,rfl,C⟩:=o.one;obtain⟨z,a,c,r,E,e⟩:=I.lstM w;have g1:=(Ks (x:=y) r d j).trans h1;have g:j<a.toArray.size:=by
  rcases Be j a.length with q|q
  ·simpa using q
  ·rw[List.getElem?_eq_none q] at g1;cases g1
 have get:∀(m:Nat)(b:m<a.toArray.size),(a[m]?).map (jc y)=some (jc y a.toArray[m]):=fun m b=>by
  rw[Ac (by simpa using b)];rfl
 have f:(j:Int)<2 ^ 63-1:=by
  have h1:(j:Int)<1000:=ω
  have h2:(1000:Int)<2 ^ 63-1:=ξ
  (first|lia|omega)
 refine call_meets F.slot_list_index ⟨_,e,rfl⟩ F.entry_list_index (F.args_list_index_2 _ _) (SeqAt.list_indexAt l a.toArray c none #[] u (jc y) j g f ?_ ?_) ⟨e,fun p hy=>?_,?_⟩
 ·exact AL ((get j g).symm.trans g1)
 ·intro m b BT
  exact AL ((get m b).symm.trans ((Ks (x:=y) r d m).trans (h2 m BT)))
 ·exact Hs C A r d p (by simpa using hy)
 ·exact⟨.int j,H,I.tok _,⟨_,rfl⟩,q⟩
end
def Pb{K:Ab}{C S:Addr}(F:Bk K C ge "ValueError.__new__"=true)(G:Bk K S ge "ValueError.__new__"=true)(m:PySem.W.mroIn K C (.ref S)=some true):dq K C S:=by
 intro h X;obtain⟨bm,N,nm,e,bs,hdct,sn,sub,ab,col,dd,k0,k1,k2,k3,k5,H,_,I,d⟩:=HJ X F;obtain⟨f,N',i,j,l,o,p,q,r,s,u,v,w,x,y,A,L,_,D,E⟩:=HJ X G;refine⟨nm,e,N,bs,bm,hdct,sn,sub,ab,col,dd,k0,k1,k2,k3,k5,_,i,j,N',l,f,o,p,q,r,s,u,v,w,x,y,A,_,(d h X).1,(E h X).1,D _ ξ,?_⟩;have g:=(d h X).1;unfold PySem.W.mroIn at m;obtain⟨J,a,b⟩:=Option.bind_eq_some_iff.mp m;unfold PySem.W.clsIn at a;split at a
 ·rename_i c' d' cd' gh ho
  cases a;have z:=(X _ _ ho).symm.trans g;injection z with z
  have c:=congrArg Obj.data z;injection c with c
  subst c;split at b
  ·cases b
  ·exact AL b
 ·cases a
def Pc{K:Ab}{C:Addr}{bm:List Value}{n:String}(q:Bk K C bm n=true):(PySem.W.clsIn K C).isSome=true:=by
 unfold Bk at q;unfold PySem.W.clsIn;split at q
 ·rename_i ho;rw[ho];rfl
 ·cases q
end L2
end
section
namespace Tim
open PySem PyProof.Rows
def R(ρ:Keyed->Int)(xs:Array Keyed)(i:Nat):Int:=match xs[i]? with
 |some p=>ρ p
 |none=>0
def sR{ρ:Keyed->Int}{xs ys:Array Keyed}{i j:Nat}(h:xs[i]?=ys[j]?):R ρ xs i=R ρ ys j:=by unfold R;rw[h]
def jh{ρ:Keyed->Int}{xs:Array Keyed}{i:Nat}{p:Keyed}(h:xs[i]?=some p):R ρ xs i=ρ p:=by unfold R;rw[h]
def cF(ρ:Keyed->Int)(xs:Array Keyed)(lo hi:Nat):Prop:=∀i j,lo<=i->i<=j->j<hi->R ρ xs i<=R ρ xs j
def ol(ρ:Keyed->Int)(xs:Array Keyed)(lo hi:Nat):Prop:=∀i j,lo<=i->i<=j->j<hi->R ρ xs j<=R ρ xs i
def fV{ρ:Keyed->Int}{xs:Array Keyed}{i j:Nat}(a:j<=xs.size)(k:Nat):R ρ (mirror xs i j ((j-i) / 2)) k=if i<=k/\k<j then R ρ xs (i+j-1-k) else R ρ xs k:=by
 have e:=getElem?_mirror_all (i:=i) a k
 by_cases h1:i<=k/\k<j
 ·rw[if_pos h1] at e ⊢;exact sR e
 ·rw[if_neg h1] at e ⊢;exact sR e
def zH{ρ:Keyed->Int}{xs:Array Keyed}{i j:Nat}(b:j<=xs.size)(a:∀k,i<=k->k<j->R ρ xs k=R ρ xs (j-1))(k:Nat):R ρ (mirror xs i j ((j-i) / 2)) k=R ρ xs k:=by
 rw[fV b];split
 ·rw[a _ ω ω,a k ω ω]
 ·rfl
def oC{ρ:Keyed->Int}{xs:Array Keyed}{src d:Nat}(a:src<xs.size)(hd:d<=src)(k:Nat):R ρ (bubble xs src d) k=if k=src-d then R ρ xs src else if src-d<k/\k<=src then R ρ xs (k-1) else R ρ xs k:=by
 have e:=getElem?_bubble a d hd k
 by_cases h1:k=src-d
 ·rw[if_pos h1] at e ⊢;exact sR e
 ·rw[if_neg h1] at e ⊢
  by_cases h2:src-d<k/\k<=src
  ·rw[if_pos h2] at e ⊢;exact sR e
  ·rw[if_neg h2] at e ⊢;exact sR e
structure iD(prog:Program)(w:World)(A:Around)(s:Shared)(κ:SortKind)(a₀:Array Keyed)(ρ:Keyed->Int):Prop where
 lt:∀x y,x∈a₀.toList->y∈a₀.toList->∀(Q:Bool->Shared->Prop)(E:Ω),Q (decide (ρ x<ρ y)) s->wpAny (model prog w) A (keyLt' κ x.1 y.1) Q E s
structure B(κ:SortKind)(a₀:Array Keyed)(st:SortSt):Prop where
 perm:(arrOf st).Perm a₀
 kind:kindOf st=κ
 failed:failedOf st=none
def B.size{κ:SortKind}{a₀:Array Keyed}{st:SortSt}(h:B κ a₀ st):(arrOf st).size=a₀.size:=h.perm.size_eq
def B.setArr{κ:SortKind}{a₀:Array Keyed}{st:SortSt}(h:B κ a₀ st){xs:Array Keyed}(hp:xs.Perm (arrOf st)):B κ a₀ (setArr st xs):=⟨hp.trans h.perm,h.kind,h.failed⟩
def B.mem{κ:SortKind}{a₀:Array Keyed}{st:SortSt}(h:B κ a₀ st){p:Keyed}(hp:p∈(arrOf st).toList):p∈a₀.toList:=(Array.perm_iff_toList_perm.mp h.perm).mem_iff.mp hp
def Kt{xs:Array Keyed}{i:Nat}(hi:i<xs.size):∃p,xs[i]?=some p/\p∈xs.toList:=⟨xs[i],getElem?_pos _ i hi,by simp⟩
structure Pre(lo:Nat)(st ad:SortSt):Prop where
 arr:∀k,k<lo->(arrOf ad)[k]?=(arrOf st)[k]?
 pend:pendingOf ad=pendingOf st
def Pre.refl{lo:Nat}{st:SortSt}:Pre lo st st:=⟨fun _ _=>rfl,rfl⟩
def Pre.trans{lo:Nat}{a b c:SortSt}(x:Pre lo a b)(y:Pre lo b c):Pre lo a c:=⟨fun k h=>(y.arr k h).trans (x.arr k h),y.pend.trans x.pend⟩
def Pre.mir{lo i j:Nat}{st:SortSt}(a:j<=(arrOf st).size)(hi:lo<=i):Pre lo st (setArr st (mirror (arrOf st) i j ((j-i) / 2))):=
 ⟨fun k h=>by show(mirror _ _ _ _)[k]?=_;rw[getElem?_mirror_all a,if_neg ω],rfl⟩
def Pre.bub{lo src d:Nat}{st:SortSt}(a:src<(arrOf st).size)(hd:d<=src)(b:lo<=src-d):Pre lo st (setArr st (bubble (arrOf st) src d)):=
 ⟨fun k h=>by show(bubble _ _ _)[k]?=_;rw[getElem?_bubble a d hd,if_neg ω,if_neg ω],rfl⟩
section
variable{prog:Program}{w:World}{A:Around}{E:Ω}{s:Shared}{κ:SortKind}{a₀:Array Keyed}{ρ:Keyed->Int}
def Pd(C:iD prog w A s κ a₀ ρ){st:SortSt}(a:B κ a₀ st){x y:Keyed}(hx:x∈a₀.toList)(hy:y∈a₀.toList){Q:Option Bool->SortSt->Prop}(h:Q (some (decide (ρ x<ρ y))) st):wpS (model prog w) A E s (lt' x y) Q st:=by
 rw[lt'_eq];refine wpS_bind (wpS_get ?_);rw[a.kind];refine wpS_bind (wpS_lift (wpAny_attempt (C.lt x y hx hy _ _ ⟨rfl,?_⟩)));exact wpS_pure h
def Ku{st:SortSt}{xs:Array Keyed}{i:Nat}{p:Keyed}(h:xs[i]?=some p){Q:Keyed->SortSt->Prop}(hq:Q p st):wpS (model prog w) A E s (elem' xs i) Q st:=by
 rw[elem'_eq,h];exact wpS_pure hq
def sU(C:iD prog w A s κ a₀ ρ){st:SortSt}(a:B κ a₀ st){i j:Nat}(hi:i<a₀.size)(c:j<a₀.size){Q:Option Bool->SortSt->Prop}(h:Q (some (decide (R ρ (arrOf st) i<R ρ (arrOf st) j))) st):wpS (model prog w) A E s (ltAt' i j) Q st:=by
 obtain⟨p,e1,b⟩:=Kt (xs:=arrOf st) (i:=i) (by rw[a.size];exact hi);obtain⟨q,e2,m2⟩:=Kt (xs:=arrOf st) (i:=j) (by rw[a.size];exact c);rw[ltAt'_eq];refine wpS_bind (wpS_get ?_);show wpS _ _ _ _ (do let x <-elem' (arrOf st) i;let y <-elem' (arrOf st) j;lt' x y) Q st;refine wpS_bind (Ku e1 (wpS_bind (Ku e2 (Pd C a (a.mem b) (a.mem m2) ?_))));rw[jh e1,jh e2] at h;exact h
def asc(lo a b:Nat):StateT SortSt Sem AscSt:=
 forIn [a:b] ((none,a):AscSt) fun _ __s=>do
  let __x <-ltAt' (lo+__s.snd) (lo+__s.snd-1)
  match __x with
  |some smaller=>if smaller=true then pure (ForInStep.done (none,__s.snd)) else pure (ForInStep.yield (none,__s.snd+1))
  |_=>pure (ForInStep.done (some none,__s.snd))
def sW(lo n a:Nat):StateT SortSt Sem (Option Nat):=do
 reverseSlice' lo (lo+n)
 let __s <-asc lo n a
 match __s.fst with
 |some r=>pure r
 |none=>pure (some __s.snd)
def Ez(lo n a:Nat):StateT SortSt Sem DescSt:=
 forIn [n:a] ((none,n,0):DescSt) fun _ __s=>do
  let __x <-ltAt' (lo+__s.snd.fst) (lo+__s.snd.fst-1)
  match __x with
  |some smaller=>
   if smaller=true then
    if __s.snd.snd>0 then do
     reverseSlice' (lo+__s.snd.fst-(__s.snd.snd+1)) (lo+__s.snd.fst)
     pure (ForInStep.yield (none,__s.snd.fst+1,0))
    else pure (ForInStep.yield (none,__s.snd.fst+1,0))
   else do
    let __x <-ltAt' (lo+__s.snd.fst-1) (lo+__s.snd.fst)
    match __x with
    |some larger=>
     if larger=true then pure (ForInStep.done (none,__s.snd.fst,__s.snd.snd))
     else pure (ForInStep.yield (none,__s.snd.fst+1,__s.snd.snd+1))
    |_=>pure (ForInStep.done (some none,__s.snd.fst,__s.snd.snd))
  |_=>pure (ForInStep.done (some none,__s.snd.fst,__s.snd.snd))
def tf(lo n a:Nat):StateT SortSt Sem (Option Nat):=do
 liftM (rule "list.sort.descending-run")
 let __s <-Ez lo (n+1) a
 match __s.fst with
 |some r=>pure r
 |none=>
  if __s.snd.snd>0 then do
   reverseSlice' (lo+__s.snd.fst-(__s.snd.snd+1)) (lo+__s.snd.fst)
   sW lo __s.snd.fst a
  else sW lo __s.snd.fst a
def a_{b c:Type}{m:StateT SortSt Sem b}{f g:b->StateT SortSt Sem c}(h:∀a,f a=g a):(m >>= f)=(m >>= g):=by
 have e:f=g:=funext h;rw[e]
def Pe(lo d:Nat):countRun' lo d=(do
  let __s <-asc lo 1 d
  match __s.fst with
  |some r=>pure r
  |none=>
   if(__s.snd==d)=true then pure (some __s.snd)
   else if __s.snd>1 then do
    let __x <-ltAt' lo (lo+__s.snd-1)
    match __x with
    |some rose=>if rose=true then pure (some __s.snd) else do
      reverseSlice' lo (lo+__s.snd)
      tf lo __s.snd d
    |_=>pure none
   else tf lo __s.snd d):=by
 rw[countRun'_eq];unfold tf sW Ez asc;refine a_ fun g=>?_;obtain⟨r,n⟩:=g;cases r with
 |some r=>rfl
 |none=>
  dsimp only;split
  ·rfl
  ·split
   ·refine a_ fun x=>?_
    cases x with
    |none=>rfl
    |some rose=>
     dsimp only;split
     ·rfl
     ·refine a_ fun _r=>a_ fun _u=>a_ fun e=>?_
      obtain⟨c,n2,h⟩:=e;cases c with
      |some c=>rfl
      |none=>
       dsimp only;split
       ·refine a_ fun _v=>a_ fun _w=>a_ fun a=>?_
        obtain⟨b,f⟩:=a;cases b<;>rfl
       ·refine a_ fun _w=>a_ fun a=>?_
        obtain⟨b,f⟩:=a;cases b<;>rfl
   ·refine a_ fun _u=>a_ fun e=>?_
    obtain⟨c,n2,h⟩:=e;cases c with
    |some c=>rfl
    |none=>
     dsimp only;split
     ·refine a_ fun _v=>a_ fun _w=>a_ fun a=>?_
      obtain⟨b,f⟩:=a;cases b<;>rfl
     ·refine a_ fun _w=>a_ fun a=>?_
      obtain⟨b,f⟩:=a;cases b<;>rfl
def Kv(C:iD prog w A s κ a₀ ρ){st:SortSt}{lo a d:Nat}{Q:AscSt->SortSt->Prop}(D:lo+d<=a₀.size)(F:1<=a)(v:a<=d)(r:B κ a₀ st)(u:cF ρ (arrOf st) lo (lo+a))(h:∀n,a<=n->n<=d->cF ρ (arrOf st) lo (lo+n)->(n=d\/R ρ (arrOf st) (lo+n)<R ρ (arrOf st) (lo+n-1))->Q (none,n) st):wpS (model prog w) A E s (asc lo a d) Q st:=by
 unfold asc;refine wpS_forRange (I:=fun x c ad=>ad=st/\c=(none,x)/\cF ρ (arrOf st) lo (lo+x)) ?step ?fin ⟨rfl,rfl,u⟩
 case fin=>
  rintro c ad ⟨rfl,rfl,e⟩;rw[show max a d=d from ω] at e ⊢;exact h d v (Af _) e (.inl rfl)
 case step=>
  rintro x c ad q z ⟨rfl,rfl,e⟩;dsimp only;refine wpS_bind (sU C r ω ω ?_)
  by_cases b:R ρ (arrOf ad) (lo+x)<R ρ (arrOf ad) (lo+x-1)
  ·simp only[b,decide_true,if_true]
   exact wpS_pure (h x q ω e (.inr b))
  ·simp only[b,decide_false,Bool.false_eq_true,if_false]
   refine wpS_pure ⟨rfl,rfl,fun i j o p y=>?_⟩
   by_cases g:j<lo+x
   ·exact e i j o p g
   ·have f:j=lo+x:=ω
    subst f
    by_cases l:i=lo+x
    ·subst l;exact Int.le_refl _
    ·exact Int.le_trans (e i (lo+x-1) o ω ω) (Int.not_lt.mp b)
def EQ{st:SortSt}{i j:Nat}{Q:Unit->SortSt->Prop}(h:Q () (setArr st (mirror (arrOf st) i j ((j-i) / 2)))):wpS (model prog w) A E s (reverseSlice' i j) Q st:=by
 rw[reverseSlice'_eq];exact wpS_modify h
end
def Tl(τ:Keyed->Int)(xs:Array Keyed)(m:Nat):Prop:=∀i j,i<j->m<=j->j<xs.size->R τ xs i<=R τ xs j
def St(ρ τ:Keyed->Int)(xs:Array Keyed)(lo hi:Nat):Prop:=∀i j,lo<=i->i<j->j<hi->R ρ xs i=R ρ xs j->R τ xs i<=R τ xs j
def As(ρ τ:Keyed->Int)(xs:Array Keyed)(lo hi:Nat):Prop:=∀i j,lo<=i->i<j->j<hi->R ρ xs i=R ρ xs j->R τ xs j<=R τ xs i
def Tl.mono{τ:Keyed->Int}{xs:Array Keyed}{m n:Nat}(h:Tl τ xs m)(d:m<=n):Tl τ xs n:=fun i j a b c=>h i j a ω c
def Pf(xs:Array Keyed)(i j m:Nat):(mirror xs i j m).size=xs.size:=(mirror_perm xs i j m).size_eq
def Tl.mir{τ:Keyed->Int}{xs:Array Keyed}{a b m:Nat}(h:Tl τ xs m)(hb:b<=xs.size)(f:b<=m):Tl τ (mirror xs a b ((b-a) / 2)) m:=fun i j e d c=>by
 rw[Pf] at c;rw[fV hb,fV hb,if_neg (show ¬(a<=j/\j<b) from ω)];split
 ·exact h _ _ ω d c
 ·exact h _ _ e d c
section
variable{prog:Program}{w:World}{A:Around}{E:Ω}{s:Shared}{κ:SortKind}{a₀:Array Keyed}{ρ τ:Keyed->Int}
abbrev lY(κ:SortKind)(a₀:Array Keyed)(ρ τ:Keyed->Int)(lo aj:Nat)(st:SortSt)(Q:Option Nat->SortSt->Prop):Prop:=
 ∀m ad,B κ a₀ ad->Pre lo st ad->1<=m->m<=aj->cF ρ (arrOf ad) lo (lo+m)->St ρ τ (arrOf ad) lo (lo+m)->Tl τ (arrOf ad) (lo+m)->Q (some m) ad
def Kw(C:iD prog w A s κ a₀ ρ){st o:SortSt}{lo n c:Nat}{Q:Option Nat->SortSt->Prop}(x:lo+c<=a₀.size)(h1:1<=n)(f:n<=c)(p:B κ a₀ st)(y:Pre lo o st)(z:ol ρ (arrOf st) lo (lo+n))(D:As ρ τ (arrOf st) lo (lo+n))(F:Tl τ (arrOf st) (lo+n))(h:lY κ a₀ ρ τ lo c o Q):wpS (model prog w) A E s (sW lo n c) Q st:=by
 unfold sW;have hsz:lo+n<=(arrOf st).size:=by rw[p.size];(first|lia|omega)
 refine wpS_bind (EQ ?_);have e:B κ a₀ (setArr st (mirror (arrOf st) lo (lo+n) ((lo+n-lo) / 2))):=p.setArr (mirror_perm _ _ _ _);have a:Tl τ (arrOf (setArr st (mirror (arrOf st) lo (lo+n) ((lo+n-lo) / 2)))) (lo+n):=F.mir hsz (Af _);refine wpS_bind (Kv C x h1 f e ?_ fun m G q d _=>wpS_pure (h m _ e (y.trans (.mir hsz (Af _))) ω q d (fun i j r l u v=>?_) (a.mono ω)))
 ·intro i j r l u
  show R ρ (mirror (arrOf st) lo (lo+n) ((lo+n-lo) / 2)) i<=R ρ (mirror (arrOf st) lo (lo+n) ((lo+n-lo) / 2)) j;rw[fV hsz,fV hsz,if_pos ω,if_pos ω];exact z _ _ ω ω ω
 ·by_cases g:lo+n<=j
  ·exact a i j l g (by rw[e.size];(first|lia|omega))
  ·have b:R ρ (mirror (arrOf st) lo (lo+n) ((lo+n-lo) / 2)) i=R ρ (mirror (arrOf st) lo (lo+n) ((lo+n-lo) / 2)) j:=v
   show R τ (mirror (arrOf st) lo (lo+n) ((lo+n-lo) / 2)) i<=R τ (mirror (arrOf st) lo (lo+n) ((lo+n-lo) / 2)) j;rw[fV hsz,fV hsz,if_pos ω,if_pos ω] at b;rw[fV hsz,fV hsz,if_pos ω,if_pos ω];exact D _ _ ω ω ω b.symm
structure Grp(ρ τ:Keyed->Int)(xs:Array Keyed)(lo x aM:Nat):Prop where
 as:As ρ τ xs lo (lo+x-(aM+1))
 inc:∀i j,lo+x-(aM+1)<=i->i<j->j<lo+x->R τ xs i<=R τ xs j
 str:∀i,lo<=i->i<lo+x-(aM+1)->R ρ xs (lo+x-1)<R ρ xs i
 tl:Tl τ xs (lo+x)
def Grp.turned{xs:Array Keyed}{lo x a:Nat}(g:Grp ρ τ xs lo x a)(hsz:lo+x<=xs.size)(hq:a+1<=x)(b:∀i,lo+x-(a+1)<=i->i<lo+x->R ρ xs i=R ρ xs (lo+x-1)):As ρ τ (mirror xs (lo+x-(a+1)) (lo+x) ((lo+x-(lo+x-(a+1))) / 2)) lo (lo+x):=fun i j e f h hr=>by
 rw[zH hsz b,zH hsz b] at hr;rw[fV hsz,fV hsz]
 by_cases c:j<lo+x-(a+1)
 ·rw[if_neg ω,if_neg ω];exact g.as i j e f c hr
 ·by_cases d:i<lo+x-(a+1)
  ·have:=g.str i e d
   rw[b j ω h] at hr;(first|lia|omega)
  ·rw[if_pos ω,if_pos ω]
   exact g.inc _ _ ω ω ω
def Grp.one{xs:Array Keyed}{lo x:Nat}(g:Grp ρ τ xs lo x 0):As ρ τ xs lo (lo+x):=fun i j c d e hr=>by
 by_cases b:j<lo+x-1
 ·exact g.as i j c d b hr
 ·have a:j=lo+x-1:=ω
  have:=g.str i c ω;rw[<-a] at this;(first|lia|omega)
def Pg(C:iD prog w A s κ a₀ ρ){st J:SortSt}{lo n z:Nat}{Q:DescSt->SortSt->Prop}(Y:lo+z<=a₀.size)(h1:1<=n)(L:n<=z)(T:B κ a₀ st)(U:Pre lo J st)(W:ol ρ (arrOf st) lo (lo+n))(hg:Grp ρ τ (arrOf st) lo n 0)(h:∀m d ad,B κ a₀ ad->Pre lo J ad->n<=m->m<=z->ol ρ (arrOf ad) lo (lo+m)->d+1<=m->(∀i,lo+m-(d+1)<=i->i<lo+m->R ρ (arrOf ad) i=R ρ (arrOf ad) (lo+m-1))->Grp ρ τ (arrOf ad) lo m d->Q (none,m,d) ad):wpS (model prog w) A E s (Ez lo n z) Q st:=by
 unfold Ez;refine wpS_forRange (I:=fun x c ad=>∃d,c=(none,x,d)/\B κ a₀ ad/\Pre lo J ad/\ol ρ (arrOf ad) lo (lo+x)/\d+1<=x/\
   (∀i,lo+x-(d+1)<=i->i<lo+x->R ρ (arrOf ad) i=R ρ (arrOf ad) (lo+x-1))/\Grp ρ τ (arrOf ad) lo x d) ?step ?fin ⟨0,rfl,T,U,W,ω,fun i h1 h2=>by congr 1;(first|lia|omega),hg⟩
 case fin=>
  rintro c ad ⟨d,rfl,q,F,r,hq,u,g⟩;rw[show max n z=z from ω] at r hq u g ⊢;exact h z d ad q F L (Af _) r hq u g
 case step=>
  rintro x c ad P X ⟨d,rfl,q,F,r,hq,u,g⟩;dsimp only;have hsz:lo+x<=(arrOf ad).size:=by rw[q.size];(first|lia|omega)
  refine wpS_bind (sU C q ω ω ?_)
  by_cases b:R ρ (arrOf ad) (lo+x)<R ρ (arrOf ad) (lo+x-1)
  ·simp only[b,decide_true,if_true]
   have f:∀xs:Array Keyed,(∀k,R ρ xs k=R ρ (arrOf ad) k)->ol ρ xs lo (lo+(x+1)):=by
    intro xs hk i j G H N;rw[hk,hk]
    by_cases p:j<lo+x
    ·exact r i j G H p
    ·have y:j=lo+x:=ω
     subst y
     by_cases D:i=lo+x
     ·subst D;exact Int.le_refl _
     ·exact Int.le_trans (Int.le_of_lt b) (r i (lo+x-1) G ω ω)
   have l:∀xs:Array Keyed,(∀k,R ρ xs k=R ρ (arrOf ad) k)->As ρ τ xs lo (lo+x)->Tl τ xs (lo+x)->Grp ρ τ xs lo (x+1) 0:=fun xs hk a t=>by
    refine⟨?_,fun i j h1 h2 O=>ω,fun i h1 h2=>?_,t.mono ω⟩
    ·rw[show lo+(x+1)-(0+1)=lo+x from ω];exact a
    ·rw[show lo+(x+1)-1=lo+x from ω,hk,hk]
     exact Int.lt_of_lt_of_le b (r i (lo+x-1) h1 ω ω)
   by_cases v:d>0
   ·rw[if_pos v]
    refine wpS_bind (EQ (wpS_pure ⟨0,rfl,q.setArr (mirror_perm _ _ _ _),F.trans (.mir hsz ω),f _ (zH hsz u),ω,fun i h1 h2=>by congr 1;(first|lia|omega),l _ (zH hsz u) (g.turned hsz hq u) (g.tl.mir hsz (Af _))⟩))
   ·rw[if_neg v]
    have S:d=0:=ω
    subst S;exact wpS_pure ⟨0,rfl,q,F,f _ (fun _=>rfl),ω,fun i h1 h2=>by congr 1;(first|lia|omega),l _ (fun _=>rfl) g.one g.tl⟩
  ·simp only[b,decide_false,Bool.false_eq_true,if_false]
   refine wpS_bind (sU C q ω ω ?_)
   by_cases e:R ρ (arrOf ad) (lo+x-1)<R ρ (arrOf ad) (lo+x)
   ·simp only[e,decide_true,if_true]
    exact wpS_pure (h x d ad q F P ω r hq u g)
   ·simp only[e,decide_false,Bool.false_eq_true,if_false]
    have o:R ρ (arrOf ad) (lo+x)=R ρ (arrOf ad) (lo+x-1):=ω
    refine wpS_pure ⟨d+1,rfl,q,F,fun i j G H N=>?_,ω,fun i h1 h2=>?_,?_⟩
    ·by_cases p:j<lo+x
     ·exact r i j G H p
     ·have y:j=lo+x:=ω
      subst y
      by_cases D:i=lo+x
      ·subst D;exact Int.le_refl _
      ·rw[o];exact r i (lo+x-1) G ω ω
    ·rw[show lo+(x+1)-1=lo+x from ω]
     by_cases M:i=lo+x
     ·subst M;rfl
     ·rw[o];exact u i ω ω
    ·have hb:lo+(x+1)-(d+1+1)=lo+x-(d+1):=ω
     refine⟨by rw[hb];exact g.as,fun i j h1 h2 O=>?_,fun i h1 h2=>?_,g.tl.mono ω⟩
     ·by_cases p:j<lo+x
      ·exact g.inc i j ω h2 p
      ·exact g.tl i j h2 ω (by rw[q.size];(first|lia|omega))
     ·rw[show lo+(x+1)-1=lo+x from ω,o]
      exact g.str i h1 ω
def Kx(C:iD prog w A s κ a₀ ρ){st r:SortSt}{lo n b:Nat}{Q:Option Nat->SortSt->Prop}(e:lo+b<=a₀.size)(f:n+1<=b)(z:B κ a₀ st)(D:Pre lo r st)(F:ol ρ (arrOf st) lo (lo+(n+1)))(hg:Grp ρ τ (arrOf st) lo (n+1) 0)(h:lY κ a₀ ρ τ lo b r Q):wpS (model prog w) A E s (tf lo n b) Q st:=by
 unfold tf;refine wpS_bind (wpS_lift (wpAny_rule ⟨rfl,?_⟩));refine wpS_bind (Pg C e ω f z D F hg fun m l ad c o G p q hq d g=>?_);dsimp only;have hsz:lo+m<=(arrOf ad).size:=by rw[c.size];(first|lia|omega)
 by_cases a:l>0
 ·rw[if_pos a]
  refine wpS_bind (EQ (Kw C e ω p (c.setArr (mirror_perm _ _ _ _)) (o.trans (.mir hsz ω)) ?_ (g.turned hsz hq d) (g.tl.mir hsz (Af _)) h));intro i j u v x;show R ρ (mirror (arrOf ad) _ _ _) j<=R ρ (mirror (arrOf ad) _ _ _) i;rw[zH hsz d,zH hsz d];exact q i j u v x
 ·rw[if_neg a]
  have y:l=0:=ω
  subst y;exact Kw C e ω p c o q g.one g.tl h
def Ph(C:iD prog w A s κ a₀ ρ){st:SortSt}{lo u:Nat}{Q:Option Nat->SortSt->Prop}(D:lo+u<=a₀.size)(h1:1<=u)(e:B κ a₀ st)(p:Tl τ (arrOf st) lo)(h:lY κ a₀ ρ τ lo u st Q):wpS (model prog w) A E s (countRun' lo u) Q st:=by
 rw[Pe];refine wpS_bind (Kv C D (Af 1) h1 e (fun i j b o q=>?_) fun n G H x J=>?_)
 ·have:i=j:=ω
  subst this;exact Int.le_refl _
 dsimp only;have I:St ρ τ (arrOf st) lo (lo+n):=fun i j b o q _=>p i j o ω (by rw[e.size];(first|lia|omega))
 by_cases g:n=u
 ·rw[if_pos (by simpa using g)]
  exact wpS_pure (h n st e .refl G H x I (p.mono ω))
 ·rw[if_neg (by simpa using g)]
  have d:R ρ (arrOf st) (lo+n)<R ρ (arrOf st) (lo+n-1):=J.resolve_left g
  by_cases v:n>1
  ·rw[if_pos v]
   refine wpS_bind (sU C e ω ω ?_)
   by_cases c:R ρ (arrOf st) lo<R ρ (arrOf st) (lo+n-1)
   ·simp only[c,decide_true,if_true]
    exact wpS_pure (h n st e .refl G H x I (p.mono ω))
   ·simp only[c,decide_false,Bool.false_eq_true,if_false]
    have hsz:lo+n<=(arrOf st).size:=by rw[e.size];(first|lia|omega)
    have a:∀k,lo<=k->k<lo+n->R ρ (arrOf st) k=R ρ (arrOf st) (lo+n-1):=by
     intro k b hk;have a1:=x lo k ω b hk;have a2:=x k (lo+n-1) b ω ω;(first|lia|omega)
    refine wpS_bind (EQ (Kx C D ω (e.setArr (mirror_perm _ _ _ _)) (.mir hsz (Af _)) ?_ ⟨?_,?_,?_,?_⟩ h))
    ·intro i j b o q
     show R ρ (mirror (arrOf st) _ _ _) j<=R ρ (mirror (arrOf st) _ _ _) i;rw[zH hsz a,zH hsz a]
     by_cases F:j<lo+n
     ·rw[a i ω ω,a j ω F];exact Int.le_refl _
     ·have y:j=lo+n:=ω
      subst y
      by_cases l:i=lo+n
      ·subst l;exact Int.le_refl _
      ·rw[a i ω ω];exact Int.le_of_lt d
    ·rw[show lo+(n+1)-(0+1)=lo+n from ω]
     intro i j b o q _;show R τ (mirror (arrOf st) _ _ _) j<=R τ (mirror (arrOf st) _ _ _) i;rw[fV hsz,fV hsz,if_pos ω,if_pos ω];exact p _ _ ω ω ω
    ·intro i j h1 h2 L;(first|lia|omega)
    ·intro i b hi
     show R ρ (mirror (arrOf st) _ _ _) _<R ρ (mirror (arrOf st) _ _ _) i;rw[zH hsz a,zH hsz a,show lo+(n+1)-1=lo+n from ω,a i b ω];exact d
    ·exact(p.mono (show lo<=lo+n from ω)).mir hsz (Af _)|>.mono ω
  ·rw[if_neg v]
   have r:n=1:=ω
   subst r;refine Kx C D ω e .refl ?_ ⟨?_,?_,?_,p.mono ω⟩ h
   ·intro i j b o q
    by_cases l:i=j
    ·subst l;exact Int.le_refl _
    ·have f:i=lo:=ω
     have z:j=lo+1:=ω
     subst f;subst z;exact Int.le_of_lt d
   ·intro i j b o q;(first|lia|omega)
   ·intro i j h1 h2 L;(first|lia|omega)
   ·intro i b hi
    have f:i=lo:=ω
    subst f;exact d
def Pi(C:iD prog w A s κ a₀ ρ){st:SortSt}{lo n ok:Nat}{Q:Bool->SortSt->Prop}(Z:lo+n<=a₀.size)(S:ok<=n)(Cs:1<=ok)(T:B κ a₀ st)(D:cF ρ (arrOf st) lo (lo+ok))(U:St ρ τ (arrOf st) lo (lo+ok))(W:Tl τ (arrOf st) (lo+ok))(h:∀ad,B κ a₀ ad->Pre lo st ad->cF ρ (arrOf ad) lo (lo+n)->St ρ τ (arrOf ad) lo (lo+n)->Q true ad):wpS (model prog w) A E s (binarySort' lo n ok) Q st:=by
 rw[binarySort'_eq];refine wpS_bind (wpS_mono (wpS_forRange (I:=fun k c ad=>c=(none,())/\B κ a₀ ad/\Pre lo st ad/\cF ρ (arrOf ad) lo (lo+min k n)/\St ρ τ (arrOf ad) lo (lo+min k n)/\Tl τ (arrOf ad) (lo+min k n))
  (Q:=fun c ad=>c=(none,())/\B κ a₀ ad/\Pre lo st ad/\cF ρ (arrOf ad) lo (lo+n)/\St ρ τ (arrOf ad) lo (lo+n)) ?step ?fin ?init) ?post)
 case post=>
  rintro c ad ⟨rfl,g,u,e,f⟩;exact wpS_pure (h ad g u e f)
 case init=>
  rw[show min (max ok 1) n=ok from ω];exact⟨rfl,T,.refl,D,U,W⟩
 case fin=>
  rintro c ad ⟨hc,g,u,e,f,_⟩;rw[show min (max (max ok 1) n) n=n from ω] at e f;exact⟨hc,g,u,e,f⟩
 case step=>
  rintro k c ad DQ Y ⟨rfl,g,u,e,f,v⟩;rw[show min k n=k from ω] at e f v;have hk:lo+k<a₀.size:=ω
  refine wpS_bind (wpS_mono (wpS_forRange (I:=fun x c a=>a=ad/\∃l r,c=(none,l,r)/\l<=r/\r<=k/\r-l<=k-x/\
    (∀i,i<l->R ρ (arrOf ad) (lo+i)<=R ρ (arrOf ad) (lo+k))/\(∀i,r<=i->i<k->R ρ (arrOf ad) (lo+k)<R ρ (arrOf ad) (lo+i)))
   (Q:=fun c a=>a=ad/\∃l r,c=(none,l,r)/\l<=k/\
    (∀i,i<l->R ρ (arrOf ad) (lo+i)<=R ρ (arrOf ad) (lo+k))/\(∀i,l<=i->i<k->R ρ (arrOf ad) (lo+k)<R ρ (arrOf ad) (lo+i))) ?istep ?ifin ?iinit) ?ipost)
  case iinit=>exact⟨rfl,0,k,rfl,ω,ω,ω,fun i hi=>ω,fun i h1 h2=>ω⟩
  case ifin=>
   rintro c a ⟨rfl,l,r,rfl,X,F,O,p,q⟩;have:l=r:=ω
   subst this;exact⟨rfl,l,l,rfl,F,p,q⟩
  case istep=>
   rintro x c a _ EI ⟨rfl,l,r,rfl,X,F,O,p,q⟩;dsimp only
   by_cases y:l ≥ r
   ·rw[if_pos y]
    have:l=r:=ω
    subst this;exact wpS_pure ⟨rfl,l,l,rfl,F,p,q⟩
   ·rw[if_neg y]
    refine wpS_bind (sU C g hk ω ?_)
    by_cases d:R ρ (arrOf a) (lo+k)<R ρ (arrOf a) (lo+(l+r) / 2)
    ·simp only[d,decide_true,if_true]
     refine wpS_pure ⟨rfl,l,(l+r) / 2,rfl,ω,ω,ω,p,fun i h1 h2=>?_⟩;exact Int.lt_of_lt_of_le d (e _ _ ω ω ω)
    ·simp only[d,decide_false,Bool.false_eq_true,if_false]
     refine wpS_pure ⟨rfl,(l+r) / 2+1,r,rfl,ω,ω,ω,fun i h1=>?_,q⟩;exact Int.le_trans (e (lo+i) (lo+(l+r) / 2) ω ω ω) (Int.not_lt.mp d)
  case ipost=>
   rintro c a ⟨rfl,l,r,rfl,DJ,p,q⟩;show wpS _ _ _ _ (do moveDown' (lo+k) (lo+l);pure (ForInStep.yield (none,()))) _ _;rw[moveDown'_eq];have o:lo+k<(arrOf a).size:=by rw[g.size];exact hk
   have P:∀i,lo<=i->i<lo+l->R ρ (arrOf a) i<=R ρ (arrOf a) (lo+k):=fun i h1 h2=>by
    have:=p (i-lo) ω;rwa [show lo+(i-lo)=i from ω] at this
   have L:∀i,lo+l<=i->i<lo+k->R ρ (arrOf a) (lo+k)<R ρ (arrOf a) i:=fun i h1 h2=>by
    have:=q (i-lo) ω ω;rwa [show lo+(i-lo)=i from ω] at this
   refine wpS_bind (wpS_modify (wpS_pure ⟨rfl,g.setArr (bubble_perm _ _ _),u.trans (.bub o ω ω),?_,?_,?_⟩))
   ·rw[show min (k+1) n=k+1 from ω]
    intro i j M z J;show R ρ (bubble (arrOf a) (lo+k) (lo+k-(lo+l))) i<=R ρ (bubble (arrOf a) (lo+k) (lo+k-(lo+l))) j;rw[oC o ω,oC o ω,show lo+k-(lo+k-(lo+l))=lo+l from ω]
    repeat' split
    all_goals first
     |(exfalso;(first|lia|omega))
     |exact Int.le_refl _
     |exact P _ ω ω
     |exact Int.le_of_lt (L _ ω ω)
     |exact e _ _ ω ω ω
   ·rw[show min (k+1) n=k+1 from ω]
    intro i j M z J N;have b:R ρ (bubble (arrOf a) (lo+k) (lo+k-(lo+l))) i=R ρ (bubble (arrOf a) (lo+k) (lo+k-(lo+l))) j:=N;show R τ (bubble (arrOf a) (lo+k) (lo+k-(lo+l))) i<=R τ (bubble (arrOf a) (lo+k) (lo+k-(lo+l))) j;rw[oC o ω,oC o ω,show lo+k-(lo+k-(lo+l))=lo+l from ω] at b ⊢
    by_cases i1:i=lo+l
    ·rw[if_pos i1,if_neg ω,if_pos ω] at b
     have:=L (j-1) ω ω;(first|lia|omega)
    ·by_cases i2:lo+l<i
     ·rw[if_neg i1,if_pos ω,if_neg ω,if_pos ω] at b ⊢
      exact f _ _ ω ω ω b
     ·by_cases H:j=lo+l
      ·rw[if_neg i1,if_neg ω,if_pos H] at b ⊢
       exact v _ _ ω ω ω
      ·by_cases j2:lo+l<j
       ·rw[if_neg i1,if_neg ω,if_neg H,if_pos ω] at b ⊢
        exact f _ _ ω ω ω b
       ·rw[if_neg i1,if_neg ω,if_neg H,if_neg ω] at b ⊢
        exact f _ _ ω ω ω b
   ·rw[show min (k+1) n=k+1 from ω]
    intro i j z J D;have G:j<(arrOf a).size:=by
     have:=(bubble_perm (arrOf a) (lo+k) (lo+k-(lo+l))).size_eq;have Eo:j<(bubble (arrOf a) (lo+k) (lo+k-(lo+l))).size:=D;(first|lia|omega)
    show R τ (bubble (arrOf a) (lo+k) (lo+k-(lo+l))) i<=R τ (bubble (arrOf a) (lo+k) (lo+k-(lo+l))) j;rw[oC o ω,oC o ω,show lo+k-(lo+k-(lo+l))=lo+l from ω,if_neg (show ¬j=lo+l from ω),if_neg (show ¬(lo+l<j/\j<=lo+k) from ω)];split
    ·exact v _ _ ω ω G
    ·split
     ·exact v _ _ ω ω G
     ·exact v _ _ z ω G
def Pj(C:iD prog w A s κ a₀ ρ){st:SortSt}{Q:Unit->SortSt->Prop}(G:B κ a₀ st)(hp:pendingOf st=#[])(h1:1<=a₀.size)(W:a₀.size<64)(X:Tl τ (arrOf st) 0)(h:∀ad,B κ a₀ ad->cF ρ (arrOf ad) 0 a₀.size->St ρ τ (arrOf ad) 0 a₀.size->Q () ad):wpS (model prog w) A E s sortRuns' Q st:=by
 rw[sortRuns'_eq];refine wpS_bind (wpS_get ?_);dsimp only;have T:minRun' a₀.size a₀.size 0=a₀.size:=by
  obtain⟨f,O⟩:∃f,a₀.size=f+1:=⟨a₀.size-1,ω⟩;have:minRun' (f+1) a₀.size 0=a₀.size:=by rw[minRun'_succ,if_pos W];rfl
  rwa [<-O] at this
 simp only[G.size,T];refine wpS_bind (wpS_mono (wpS_forRange
  (I:=fun x c ad=>(x=0/\c=(none,0)/\B κ a₀ ad/\pendingOf ad=#[]/\Tl τ (arrOf ad) 0)\/(1<=x/\c=(none,a₀.size)/\B κ a₀ ad/\(pendingOf ad).size<=1/\cF ρ (arrOf ad) 0 a₀.size/\St ρ τ (arrOf ad) 0 a₀.size))
  (Q:=fun c ad=>c=(none,a₀.size)/\B κ a₀ ad/\(pendingOf ad).size<=1/\cF ρ (arrOf ad) 0 a₀.size/\St ρ τ (arrOf ad) 0 a₀.size) ?step ?fin (.inl ⟨rfl,rfl,G,hp,X⟩)) ?post)
 case fin=>
  rintro c ad (⟨hx,_,_⟩|⟨_,hc,o⟩)
  ·(first|lia|omega)
  ·exact⟨hc,o⟩
 case step=>
  rintro x c ad _ hx (⟨rfl,rfl,r,e,u⟩|⟨Y,rfl,o⟩)
  ·dsimp only
   rw[if_neg ω];simp only[Nat.sub_zero,Nat.min_self];refine wpS_bind (Ph C ω ω r u fun m i v P2 H m2 j l J=>?_);dsimp only;have tl:∀a,B κ a₀ a->pendingOf a=#[]->cF ρ (arrOf a) 0 a₀.size->St ρ τ (arrOf a) 0 a₀.size->B κ a₀ (setPending a ((pendingOf a).push (0,a₀.size,0)))/\(pendingOf (setPending a ((pendingOf a).push (0,a₀.size,0)))).size<=1/\cF ρ (arrOf (setPending a ((pendingOf a).push (0,a₀.size,0)))) 0 a₀.size/\St ρ τ (arrOf (setPending a ((pendingOf a).push (0,a₀.size,0)))) 0 a₀.size:=
    fun a b p q L=>⟨⟨b.perm,b.kind,b.failed⟩,by show((pendingOf a).push _).size<=1;rw[p];exact Af 1,q,L⟩
   by_cases g:m<a₀.size
   ·rw[if_pos g]
    refine wpS_bind (wpS_lift (wpAny_rule ⟨rfl,?_⟩));refine wpS_bind (Pi C ω m2 H v j l J fun a M P3 y z=>?_);simp only[Bool.not_true,Bool.false_eq_true,if_false];refine wpS_bind (wpS_get ?_);have D:pendingOf a=#[]:=by rw[P3.pend,P2.pend];exact e
    have hb:(pendingOf a).back?=none:=by rw[D];rfl
    rw[hb];dsimp only;simp only[Nat.zero_add] at y z ⊢;exact wpS_bind (wpS_modify (wpS_pure (.inr ⟨ω,rfl,tl a M D y z⟩)))
   ·rw[if_neg g]
    have U:m=a₀.size:=ω
    subst U;refine wpS_bind (wpS_get ?_);have F:pendingOf i=#[]:=by rw[P2.pend];exact e
    have hb:(pendingOf i).back?=none:=by rw[F];rfl
    rw[hb];dsimp only;simp only[Nat.zero_add] at j l ⊢;exact wpS_bind (wpS_modify (wpS_pure (.inr ⟨ω,rfl,tl i v F j l⟩)))
  ·dsimp only
   rw[if_pos (Af _)];exact wpS_pure ⟨rfl,o⟩
 case post=>
  rintro c ad ⟨rfl,r,P,S,ss⟩;dsimp only;refine wpS_bind (wpS_mono (wpS_forRange (I:=fun _ c d=>d=ad/\c=(none,())) (Q:=fun c d=>d=ad/\c=(none,())) ?_ (fun _ _ N=>N) ⟨rfl,rfl⟩) ?_)
  ·rintro x c d _ _ ⟨rfl,rfl⟩
   refine wpS_bind (wpS_get ?_);rw[if_pos P];exact wpS_pure ⟨rfl,rfl⟩
  ·rintro c d ⟨rfl,rfl⟩
   exact wpS_pure (h _ r S ss)
end
section
variable{prog:Program}{w:World}{A:Around}{E:Ω}{s:Shared}{κ:SortKind}{a₀:Array Keyed}{ρ:Keyed->Int}
def Pk(C:iD prog w A s κ a₀ ρ){st:SortSt}{Q:Unit->SortSt->Prop}(c:B κ a₀ st)(hp:pendingOf st=#[])(h1:1<=a₀.size)(d:a₀.size<64)(h:∀ad,B κ a₀ ad->cF ρ (arrOf ad) 0 a₀.size->Q () ad):wpS (model prog w) A E s sortRuns' Q st:=
 Pj (τ:=fun _=>0) C c hp h1 d (fun i j _ _ _=>by unfold R;split<;>split<;>exact Int.le_refl _) fun ad b a _=>h ad b a
end
end Tim
end
section
namespace cF
open PySem PyProof.Rows HT
def Ky:∀a:List Int,lexLt a a=false
 |[]=>rfl
 |x::a=>by rw[rg,if_pos rfl];exact Ky a
def HR:∀{a b c:List Int},lexLt a b=true->lexLt b c=true->lexLt a c=true
 |[],[],_,h,_=>by cases h
 |[],_::_,[],_,h=>by cases h
 |[],_::_,_::_,_,_=>rfl
 |_::_,[],_,h,_=>by cases h
 |_::_,_::_,[],_,h=>by cases h
 |x::a,y::b,z::c,h1,h2=>by
  rw[rg] at h1 h2 ⊢
  by_cases e1:x=y
  ·rw[if_pos e1] at h1
   by_cases e2:y=z
   ·rw[if_pos e2] at h2
    rw[if_pos (e1.trans e2)];exact HR h1 h2
   ·rw[if_neg e2] at h2
    rw[if_neg ω];have:=of_decide_eq_true h2;exact decide_eq_true ω
  ·rw[if_neg e1] at h1
   have d:=of_decide_eq_true h1
   by_cases e2:y=z
   ·rw[if_neg ω]
    exact decide_eq_true ω
   ·rw[if_neg e2] at h2
    have e:=of_decide_eq_true h2;rw[if_neg ω];exact decide_eq_true ω
def Kz:∀{a b:List Int},lexLt a b=false->lexLt b a=false->a=b
 |[],[],_,_=>rfl
 |[],_::_,h,_=>by cases h
 |_::_,[],_,h=>by cases h
 |x::a,y::b,h1,h2=>by
  rw[rg] at h1 h2
  by_cases e:x=y
  ·subst e
   rw[if_pos rfl] at h1 h2;rw[Kz h1 h2]
  ·rw[if_neg e] at h1
   rw[if_neg (Ne.symm e)] at h2;have:=of_decide_eq_false h1;have:=of_decide_eq_false h2;(first|lia|omega)
def rk(ls:Ξ)(l:List Int):Int:=((ls.filter fun m=>lexLt m l).length:Nat)
def KA{ls:Ξ}{l m:List Int}(f:l∈ls)(g:m∈ls):decide (rk ls l<rk ls m)=lexLt l m:=by
 have mono:∀{a b:List Int},(∀x,lexLt x a=true->lexLt x b=true)->∀k:Ξ,(k.filter fun x=>lexLt x a).length<=(k.filter fun x=>lexLt x b).length:=by
  intro a b d k
  induction k with
  |nil=>exact Af _
  |cons x k ih=>
   rw[List.filter_cons,List.filter_cons]
   by_cases q:lexLt x a=true
   ·rw[if_pos q,if_pos (d x q),AH,AH];(first|lia|omega)
   ·rw[if_neg q]
    split
    ·rw[AH];(first|lia|omega)
    ·exact ih
 have c:∀{a b:List Int},(∀x,lexLt x a=true->lexLt x b=true)->lexLt a b=true->∀k:Ξ,a∈k->(k.filter fun x=>lexLt x a).length<(k.filter fun x=>lexLt x b).length:=by
  intro a b d h k
  induction k with
  |nil=>intro q;cases q
  |cons x k ih=>
   intro hk;rw[List.filter_cons,List.filter_cons];rcases List.mem_cons.mp hk with e|e
   ·subst e
    rw[if_neg (by rw[Ky];exact Av),if_pos h,AH];have:=mono d k;(first|lia|omega)
   ·have:=ih e
    by_cases q:lexLt x a=true
    ·rw[if_pos q,if_pos (d x q),AH,AH];(first|lia|omega)
    ·rw[if_neg q]
     split
     ·rw[AH];(first|lia|omega)
     ·exact this
 unfold rk;cases q:lexLt l m with
 |true=>
  have:=c (a:=l) (b:=m) (fun x hx=>HR hx q) q ls f;exact decide_eq_true ω
 |false=>
  have:=mono (a:=m) (b:=l) (fun x hx=>by
   cases z:lexLt x l with
   |true=>rfl
   |false=>
    cases z2:lexLt l x with
    |true=>rw[HR z2 hx] at q;cases q
    |false=>rw[Kz z z2] at hx;rw[hx] at q;cases q) ls
  exact decide_eq_false ω
structure By(prog:Program)(w:World)(A:Around)(good:Heap->Prop)(us:List Value)(ls:Ξ):Prop where
 len:us.length=ls.length
 fn:∀(i j:Nat) u l m,us[i]?=some u->us[j]?=some u->ls[i]?=some l->ls[j]?=some m->l=m
 ask:2<=us.length->∃κ:SortKind,(∀(s:Shared)(Q:SortKind->Shared->Prop)(E:Ω),good s.heap->Q κ s->wpAny (model prog w) A (keyKind' us.toArray) Q E s)/\
  ∀(i j:Nat) u v l m,us[i]?=some u->us[j]?=some v->ls[i]?=some l->ls[j]?=some m->∀(s:Shared)(Q:Bool->Shared->Prop)(E:Ω),good s.heap->Q (lexLt l m) s->wpAny (model prog w) A (keyLt' κ u v) Q E s
open Classical in
noncomputable def oD(us:List Value)(ls:Ξ)(u:Value):List Int:=if h:∃l,∃i:Nat,us[i]?=some u/\ls[i]?=some l then h.choose else []
def ti{us:List Value}{ls:Ξ}(fn:∀(i j:Nat) u l m,us[i]?=some u->us[j]?=some u->ls[i]?=some l->ls[j]?=some m->l=m){i:Nat}{u:Value}{l:List Int}(h1:us[i]?=some u)(h2:ls[i]?=some l):oD us ls u=l:=by
 unfold oD;have h:∃l,∃i:Nat,us[i]?=some u/\ls[i]?=some l:=⟨l,i,h1,h2⟩;rw[dif_pos h];obtain⟨j,e1,e2⟩:=h.choose_spec;exact fn j i u _ l e1 h1 e2 h2
noncomputable def oJ(us:List Value)(ls:Ξ)(p:Keyed):Int:=rk ls (oD us ls p.1)
section
variable{prog:Program}{w:World}{A:Around}{E:Ω}{s:Shared}{good:Heap->Prop}{us vs:List Value}{ls:Ξ}
def E5(h:us.length=vs.length){p:Keyed}(hp:p∈(us.toArray.zip vs.toArray).toList):∃i:Nat,us[i]?=some p.1/\vs[i]?=some p.2:=by
 have e:(us.toArray.zip vs.toArray).toList=us.zip vs:=by simp
 rw[e] at hp;obtain⟨i,hi,e2⟩:=List.mem_iff_getElem.mp hp;rw[List.getElem_zip] at e2;rw[List.length_zip] at hi;refine⟨i,?_,?_⟩
 ·rw[Ac ω,<-e2]
 ·rw[Ac ω,<-e2]
def Pl(B:By prog w A good us ls)(c:us.length=vs.length)(hg:good s.heap){κ:SortKind}(h2:2<=us.length)(g:us.length<64)(hk:∀(i j:Nat) u v l m,us[i]?=some u->us[j]?=some v->ls[i]?=some l->ls[j]?=some m->∀(s:Shared)(Q:Bool->Shared->Prop)(E:Ω),good s.heap->Q (lexLt l m) s->wpAny (model prog w) A (keyLt' κ u v) Q E s){Q:Unit->SortSt->Prop}(h:∀ad,(arrOf ad).Perm (us.toArray.zip vs.toArray)->failedOf ad=none->Tim.cF (oJ us ls) (arrOf ad) 0 vs.length->Q () ad):wpS (model prog w) A E s sortRuns' Q (SortSt.mk' κ (us.toArray.zip vs.toArray) #[] 7 none):=by
 have hz:(us.toArray.zip vs.toArray).size=vs.length:=by simp;(first|lia|omega)
 refine Tim.Pk (κ:=κ) (a₀:=us.toArray.zip vs.toArray) (ρ:=oJ us ls) ⟨fun x y hx hy e f hq=>?_⟩ ⟨Array.Perm.refl _,rfl,rfl⟩ rfl (by rw[hz];(first|lia|omega)) (by rw[hz];(first|lia|omega)) fun ad b d=>h ad b.perm b.failed (by rw[<-hz];exact d);obtain⟨i,e1,_⟩:=E5 c hx;obtain⟨j,e2,_⟩:=E5 c hy;have hi:i<ls.length:=by rw[<-B.len];exact(List.getElem?_eq_some_iff.mp e1).1
 have a:j<ls.length:=by rw[<-B.len];exact(List.getElem?_eq_some_iff.mp e2).1
 have f1:ls[i]?=some ls[i]:=Ac hi;have f2:ls[j]?=some ls[j]:=Ac a;refine hk i j _ _ _ _ e1 e2 f1 f2 s e f hg ?_;unfold oJ at hq;rw[ti B.fn e1 f1,ti B.fn e2 f2,KA (AB hi) (AB a)] at hq;exact hq
def cY{a b:Type}:∀(l:List a)(m:List b)(i:Nat),(l.zip m)[i]?=(l[i]?).bind fun x=>(m[i]?).map fun y=>(x,y)
 |[],m,i=>by simp
 |x::l,[],i=>by cases h:(x::l)[i]?<;>simp
 |x::l,y::m,0=>rfl
 |x::l,y::m,i+1=>by
  rw[List.zip_cons_cons,List.getElem?_cons_succ,List.getElem?_cons_succ,List.getElem?_cons_succ];exact cY l m i
def Pm(B:By prog w A good us ls)(l:us.length=vs.length){xs:Array Keyed}(hp:xs.Perm (us.toArray.zip vs.toArray))(r:Tim.cF (oJ us ls) xs 0 vs.length):∃ps:List (List Int×Value),ps.Perm (ls.zip vs)/\xs.toList.map (·.2)=ps.map (·.2)/\ps.Pairwise fun(a b:List Int×Value)=>HT.lexLt b.1 a.1=false:=by
 have pl:xs.toList.Perm (us.zip vs):=by
  have:=Array.perm_iff_toList_perm.mp hp
  simpa using this
 refine⟨xs.toList.map fun p=>(oD us ls p.1,p.2),?_,by rw[AT];rfl,?_⟩
 ·have e:(us.zip vs).map (fun p:Keyed=>(oD us ls p.1,p.2))=ls.zip vs:=by
   apply List.ext_getElem?;intro i;rw[Aj,cY,cY];cases e1:us[i]? with
   |none=>
    have:ls[i]?=none:=List.getElem?_eq_none (by rw[<-B.len];exact List.getElem?_eq_none_iff.mp e1);rw[this];rfl
   |some u=>
    have hi:i<ls.length:=by rw[<-B.len];exact(List.getElem?_eq_some_iff.mp e1).1
    have f1:ls[i]?=some ls[i]:=Ac hi;rw[f1];cases e2:vs[i]? with
    |none=>rfl
    |some v=>
     show some (oD us ls u,v)=some (ls[i],v);rw[ti B.fn e1 f1]
  rw[<-e];exact pl.map _
 ·rw[List.pairwise_map,List.pairwise_iff_getElem]
  intro i j hi h o;have hsz:xs.size=vs.length:=by
   have:=pl.length_eq;rw[Array.length_toList,List.length_zip] at this;(first|lia|omega)
  rw[Array.length_toList] at hi h;have q:=r i j (Ar _) (Nat.le_of_lt o) ω;have a1:xs[i]?=some xs[i]:=getElem?_pos xs i hi;have a2:xs[j]?=some xs[j]:=getElem?_pos xs j h;rw[Tim.jh a1,Tim.jh a2] at q;simp only[Array.getElem_toList];obtain⟨f,g1,_⟩:=E5 l (p:=xs[i]) (by
   have:=pl.mem_iff.mp (show xs[i]∈xs.toList by simp)
   simpa using this)
  obtain⟨g,g2,_⟩:=E5 l (p:=xs[j]) (by
   have:=pl.mem_iff.mp (show xs[j]∈xs.toList by simp)
   simpa using this)
  have c:f<ls.length:=by rw[<-B.len];exact(List.getElem?_eq_some_iff.mp g1).1
  have d:g<ls.length:=by rw[<-B.len];exact(List.getElem?_eq_some_iff.mp g2).1
  have f1:ls[f]?=some ls[f]:=Ac c;have f2:ls[g]?=some ls[g]:=Ac d;unfold oJ at q;rw[ti B.fn g1 f1,ti B.fn g2 f2] at q ⊢;have:=KA (ls:=ls) (AB d) (AB c);rw[<-this];exact decide_eq_false ω
end
end cF
end
section
namespace cF
open PySem PyProof.Rows PySem.W
section
variable{prog:Program}{w:World}{A:Around}{E:Ω}{s:Shared}{good:Heap->Prop}{us vs:List Value}{ls:Ξ}
def Pn{ns:List Int}(hi:IntsAre us ns):By prog w A (fun _=>True) us (ns.map fun n=>[n]):=by
 have f:=hi.length;have a:∀(i:Nat) u l,us[i]?=some u->(ns.map fun n=>[n])[i]?=some l->∃n t,u=.int n t/\l=[n]:=fun i u l h1 h2=>by
  obtain⟨t,e⟩:=IntsAre.int_at hi i u h1;rw[Aj] at h2;cases e2:ns[i]? with
  |none=>rw[e2] at h2;cases h2
  |some n=>
   rw[e2] at h2;have e3:ns.getD i 0=n:=by rw[Ad,e2];rfl
   rw[e3] at e;exact⟨n,t,e,(AL h2).symm⟩
 refine⟨by rw[Aa,f],fun i j u l m h1 h2 c d=>?_,fun h2=>⟨oneType',fun s Q E _ hq=>?_,fun i j u v l m h1 h2 c d s Q E _ hq=>?_⟩⟩
 ·obtain⟨n,t,e1,rfl⟩:=a i u l h1 c
  obtain⟨b,t',e2,rfl⟩:=a j u m h2 d;rw[e1] at e2;cases e2
  rfl
 ·match us,hi,h2 with
  |[],_,h2=>simp at h2
  |[_],_,h2=>simp at h2
  |v₁::v₂::rest,hi,_=>
   rw[keyKind_ints hi];exact Ap hq
 ·obtain⟨n,t,rfl,rfl⟩:=a i u l h1 c
  obtain⟨b,t',rfl,rfl⟩:=a j v m h2 d;refine kat_lt_int ?_;have:HT.lexLt [n] [b]=decide (n<b):=by
   rw[HT.rg]
   by_cases e:n=b
   ·rw[if_pos e,HT.N4];exact(decide_eq_false ω).symm
   ·rw[if_neg e]
  rw[this] at hq;exact hq
def IsPr(h:Heap)(u:Value)(l:List Int):Prop:=∃(a b:Addr)(n:Int)(t:Tok)(c:List Value)(ps:List Int),u=.ref a/\l=n::ps/\IsTup h a #[.int n t,.ref b]/\IsTup h b c.toArray/\IntsAre c ps
def IsTup.inj{h:Heap}{a:Addr}{xs ys:Array Value}(h1:IsTup h a xs)(h2:IsTup h a ys):xs=ys:=by
 obtain⟨o,e,_,n,d⟩:=h1;obtain⟨o',b,_,c,d'⟩:=h2;rw[e] at b;cases b;rw[d] at d';injection d'
def IntsAre.inj{vs:List Value}{ns ms:List Int}(h:IntsAre vs ns)(g:IntsAre vs ms):ns=ms:=by
 induction h generalizing ms with
 |nil=>cases g;rfl
 |cons n t h ih=>cases g with|cons _ _ h'=>rw[ih h']
def IsPr.inj{h:Heap}{u:Value}{l m:List Int}(h1:IsPr h u l)(h2:IsPr h u m):l=m:=by
 obtain⟨a,b,n,t,c,ps,rfl,rfl,d,f,i1⟩:=h1;obtain⟨a',b',o,t',its',p,e,rfl,g,j,i⟩:=h2;cases e;have:=cF.IsTup.inj d g;cases this;have e2:=cF.IsTup.inj f j;have e3:c=its':=by simpa using e2
 subst e3;rw[IntsAre.inj i1 i]
end
def Out(ls:Ξ)(vs out:List Value):Prop:=∃ps:List (List Int×Value),ps.Perm (ls.zip vs)/\out=ps.map (·.2)/\ps.Pairwise fun(a b:List Int×Value)=>HT.lexLt b.1 a.1=false
section
variable{prog:Program}{w:World}{A:Around}{E:Ω}{s:Shared}{good:Heap->Prop}{us vs:List Value}{ls:Ξ}
def Po(a:ls.length=vs.length)(hu:us.length=vs.length)(h2:vs.length<2):Out ls vs ((us.toArray.zip vs.toArray).map (·.2)).toList:=by
 have e:((us.toArray.zip vs.toArray).map (·.2)).toList=vs:=by
  rw[Array.toList_map,show(us.toArray.zip vs.toArray).toList=us.zip vs by simp,List.map_snd_zip ω]
 rw[e];refine⟨ls.zip vs,List.Perm.refl _,by rw[List.map_snd_zip ω],?_⟩;have hz:(ls.zip vs).length<2:=by rw[List.length_zip];(first|lia|omega)
 match ls.zip vs,hz with
 |[],_=>exact List.Pairwise.nil
 |[x],_=>simp
 |_::_::_,h=>simp only[AH] at h;(first|lia|omega)
def Pp(B:By prog w A good us ls)(b:us.length=vs.length)(f:vs.length<64)(hg:good s.heap){P:PySem.Fin->Shared->Prop}{G:Unit×SortSt->Sem PySem.Fin}(h:∀ad,Out ls vs ((arrOf ad).map (·.2)).toList->(arrOf ad).size=vs.length->failedOf ad=none->wpAny (model prog w) A (G (PUnit.unit,ad)) P E s):wpAny (model prog w) A (if vs.toArray.size<2 then(pure general' >>= fun kind=>(if vs.toArray.size<2 then pure () else sortRuns').run (SortSt.mk' kind (us.toArray.zip vs.toArray) #[] 7 none) >>= G)
   else(keyKind' us.toArray >>= fun kind=>(if vs.toArray.size<2 then pure () else sortRuns').run (SortSt.mk' kind (us.toArray.zip vs.toArray) #[] 7 none) >>= G)) P E s:=by
 have a:(us.toArray.zip vs.toArray).size=vs.length:=by rw[Array.size_zip,At,At];(first|lia|omega)
 by_cases h2:vs.toArray.size<2
 ·rw[if_pos h2]
  refine Ae (Ap ?_);rw[if_pos h2];rw[StateT.run_pure];refine Ae (Ap ?_)
  try dsimp only
  rw[At] at h2;exact h (SortSt.mk' general' (us.toArray.zip vs.toArray) #[] 7 none) (Po (by rw[<-B.len];exact b) b h2) a rfl
 ·rw[if_neg h2,if_neg h2]
  rw[At] at h2;obtain⟨κ,k1,k2⟩:=B.ask ω;refine Ae (k1 s _ E hg ?_);refine Ae (wpAny_mono (Pl (Q:=fun _ ad=>(arrOf ad).Perm (us.toArray.zip vs.toArray)/\failedOf ad=none/\Tim.cF (oJ us ls) (arrOf ad) 0 vs.length) B b hg ω ω k2 fun ad a1 a2 a3=>⟨a1,a2,a3⟩) ?_ fun _ _ e=>e);rintro⟨⟨⟩,ad⟩ s' ⟨rfl,hp,c,d⟩
  try dsimp only
  exact h ad (by
   obtain⟨ps,a1,a2,a3⟩:=Pm B b hp d;exact⟨ps,a1,by rw[Array.toList_map];exact a2,a3⟩) (by rw[hp.size_eq];exact a) c
def Pq{a:Addr}{n:Nat}{P:PySem.Fin->Shared->Prop}(c:s.heap.get? a=some (seqObj "list" vs.toArray n))(B:By prog w A good vs ls)(hg:∀h',(∀b o,b≠a->s.heap.get? b=some o->h'.get? b=some o)->good h')(hz:vs.length<=sizeLine)(j:vs.length<64)(h:∀out:Array Value,Out ls vs out.toList->P (.done (.ret .none)) {s with heap:=sortedHeap s.heap a vs out}):wpAny (model prog w) A (Builtin.«list.sort» ⟨[.ref a],[]⟩) P E s:=by
 rw[list_sort_plain];have f:a<s⁻¹:=Ao c;refine Ae (listItems_at c rfl ?_);refine Ae (listUpdate_at c rfl ?_ (by rw[At];exact hz) (Ar _));obtain⟨e1,d⟩:∃e1,(s.heap.update a (Obj.mapSeq fun _=>#[])).get? a=some (seqObj "list" #[] e1):=⟨_,get?_update_seq c (fun _=>#[])⟩;refine Ae (seqEpoch_at d rfl ?_);refine Ae (wpAny_newTuple ?_ (by show vs.length<=_;exact hz));refine Ae (wpAny_newList ?_ (Ar _));refine wpAny_holding ?_;have g:(((s.heap.update a (Obj.mapSeq fun _=>#[])).push (seqObj "tuple" vs.toArray 0)).push (seqObj "list" #[] 0)).get? a=some (seqObj "list" #[] e1):=by
  rw[Heap.get?_push_ne _ _ _ (by rw[size_push',Heap.size_update];exact Az (Nat.lt_succ_of_lt f)),Heap.get?_push_ne _ _ _ (by rw[Heap.size_update];exact Az f)];exact d
 show wpAny (model prog w) A _ P E {s with heap:=((s.heap.update a (Obj.mapSeq fun _=>#[])).push (seqObj "tuple" vs.toArray 0)).push (seqObj "list" #[] 0)};dsimp only;refine Pp (s:={s with heap:=((s.heap.update a (Obj.mapSeq fun _=>#[])).push (seqObj "tuple" vs.toArray 0)).push (seqObj "list" #[] 0)}) B rfl j (hg _ fun b o hb e=>Ai _ (Ai _ (by rw[Heap.get?_update_ne _ _ _ _ hb];exact e))) fun ad c hsz i=>?_;dsimp only;refine Ae (seqEpoch_at g rfl ?_);refine Ae (listUpdate_at g rfl ?_ (Ar _) (Ag (Nat.le_of_eq ((Array.size_map ..).trans hsz)) (Nat.le_succ_of_le hz)));rw[i];simp only[bne_self_eq_false,Bool.false_eq_true,if_false];exact Ap (h _ c)
end
end cF
end
section
namespace L2
open PySem PySem.Spec PyProof.Rows
def jl(N N':List Str)(am:List (Option Nat))(scope:Scope):Bool:=decide (am.length=N'.length)&&(am.zip N').all fun p=>match p.1 with
 |none=>true
 |some j=>decide (N[j]?=some p.2)&&decide (scope.names.lookup p.2=some .free)
def KB{N N':List Str}{am:List (Option Nat)}{scope:Scope}(h:jl N N' am scope=true):n7 N N' am scope:=by
 unfold jl at h;rw[AX,decide_eq_true_eq,Bj] at h;refine⟨h.1,fun i j e=>?_⟩;have hi:i<am.length:=(List.getElem?_eq_some_iff.mp e).1;have e2:N'[i]?=some N'[i]:=Ac (by rw[<-h.1];exact hi);have:=h.2 (some j,N'[i]) (List.mem_iff_getElem?.mpr ⟨i,by rw[cF.cY,e,e2];rfl⟩);simp only[AX,decide_eq_true_eq] at this;exact⟨N'[i],e2,this.1,this.2⟩
section
variable{X:Cx}{scope:Scope}{am:List (Option Nat)}{tg iter bA:Expr}{aN:List Expr}{wi:TI}{g:TG}{tc:TT}{te:TE}{pos:Pos}
def zp(N N':List Str)(am:List (Option Nat))(hi:PI X tg iter wi)(hg:∀a C s₀ H₀ ex,PG (dR X scope N' a C s₀ H₀ ex) tg g)(c:∀a C s₀ H₀ ex,iy (dR X scope N' a C s₀ H₀ ex) aN tc)(d:∀a C s₀ H₀ ex,PE (dR X scope N' a C s₀ H₀ ex) bA te)(hc:X.calm=true:=by rfl)(hk:scope.kind=.function:=by rfl)(e:∀y∈scope.names,y.2≠.cell:=by decide +kernel)(f:∀y∈scope.names,y.2=.free->scope.names.lookup y.1=some .free:=by decide +kernel)(h:∀y∈scope.names,y.2=.local->scope.names.lookup y.1=some .local:=by decide +kernel)(hfr:∀y∈scope.names,y.2=.free->X.env.kindOf y.1=some .cell\/X.env.kindOf y.1=some .free)(i:X.N=N:=by rfl)(b:jl N N' am scope=true:=by decide +kernel)(j:∀x,foldedSetIterable iter X.env x=pure x:=by intro _;rfl):PE X (.ListComp bA [⟨tg,iter,aN,0⟩] scope pos) (lj wi am g tc te):=
 OD hc hk e f h hfr (KB (by rw[i];exact b)) hi hg c d j
end
def bJ{env:Env}{scope:Scope}(h:scope.names.all (fun y=>decide (y.2≠.free))=true):∀y∈scope.names,y.2=.free->env.kindOf y.1=some .cell\/env.kindOf y.1=some .free:=fun y hy e=>
 absurd e (of_decide_eq_true (List.all_eq_true.mp h y hy))
def bM{env:Env}{scope:Scope}(sc:Scope)(h:scope.names.all (fun y=>decide (y.2≠.free)|| decide (sc.names.lookup y.1=some .cell)|| decide (sc.names.lookup y.1=some .free))=true)(a:env.scope=sc:=by rfl):∀y∈scope.names,y.2=.free->env.kindOf y.1=some .cell\/env.kindOf y.1=some .free:=fun y hy e=>by
 subst a;have:=List.all_eq_true.mp h y hy;simp only[Bool.or_eq_true,decide_eq_true_eq] at this;rcases this with (q|q)|q
 ·exact absurd e q
 ·exact .inl q
 ·exact .inr q
def bx(l:List Str)(h:l.Nodup:=by decide +kernel):l.Nodup:=h
def fX{te:TE}{σ:St}{H:Hp}{P:VK}{S:Hp->Prop}(h:te σ H P):bR σ H fun b a=>if b=true then te σ a P else S a:=by
 show if true=true then te σ H P else S H;rw[if_pos rfl];exact h
def cZ{i:Nat}{v:V}{te:TE}{σ:St}{H:Hp}{P:St->VK}{S:St->Hp->Prop}(h:te (σ.set i (some v)) H (P (σ.set i (some v)))):zR i v σ H fun a d=>bR a d fun b c=>if b=true then te a c (P a) else S a c:=fX (S:=S (σ.set i (some v))) h
def zw{J:It}{g:TG}{tc:TT}{te:TE}{σ:St}{H1:Hp}{Q:VK}{D:Addr}(h:cV J g tc te σ H1 D Q):cV J g tc te σ H1 D Q:=h
end L2
end
section
namespace K27
open PySem L2
def top(i:Nat):Stmt:=PySem.Challenge.pw_seamwright_k27_tables_refused_everywhere.main.body.getD i (.Pass ⟨0,0,0,0⟩)
end K27
end
section
namespace L2
open PySem PySem.Spec PyProof.Rows
section
variable{X:Cx}{scope:Scope}{N':List Str}{am:List (Option Nat)}{tg iter bA:Expr}{aN:List Expr}{wi:TI}{g:TG}{tc:TT}{te:TE}{pos:Pos}
def Ps{i:Nat}{x:Str}{aF E:Pos}(hc:X.calm=true)(hk:scope.kind=.function)(G:∀y∈scope.names,y.2=.cell->scope.names.lookup y.1=some .cell)(Q:∀y∈scope.names,y.2=.free->scope.names.lookup y.1=some .free)(S:∀y∈scope.names,y.2=.local->scope.names.lookup y.1=some .local)(hfr:∀y∈scope.names,y.2=.free->X.env.kindOf y.1=some .cell\/X.env.kindOf y.1=some .free)(j:n7 X.N N' am scope)(hi:PI X tg iter wi)(hg:∀d C s₀ H₀ ex,PG (cxD X scope N' d C s₀ H₀ ex) tg g)(T:∀d C s₀ H₀ ex,iy (cxD X scope N' d C s₀ H₀ ex) aN tc)(U:∀d C s₀ H₀ ex,PE (cxD X scope N' d C s₀ H₀ ex) bA te)(W:∀x,foldedSetIterable iter X.env x=pure x)(Y:X.N.Nodup)(r:X.N[i]?=some x)(hx:Loc X.env.scope x)(Z:X.fn x=true\/X.env.scope.names.lookup x=some .local)(i8:swapsWith (.ListComp bA [⟨tg,iter,aN,0⟩] scope pos) (some (.Name x aF)) E.line X.env=pure true):PS X (.Assign [.Name x aF] (.ListComp bA [⟨tg,iter,aN,0⟩] scope pos) E) (e8 (lj wi am g tc te) (zR i)):=by
 intro aa s σ H D I h;rw[exec_Assign_Name_used _ _ _ _ i8];refine Ae (wpAny_standAt (Ae ?_));show wpAny _ X.A (do let _ <-comprehension (.ListComp bA [⟨tg,iter,aN,0⟩] scope pos) scope X.env _ (newList []) (firstAsync [⟨tg,iter,aN,0⟩]) (firstIter [⟨tg,iter,aN,0⟩] X.env) (some (assign (.Name x aF) X.env))) _ _ s;refine Ae (wpAny_mono (Kk (use:=some (assign (.Name x aF) X.env)) (R:=fun _ s'=>SP X aa D .next s') hc hk G Q S hfr j hi hg T U W I h fun F C H' w f L q=>?_) (fun _ s' hq=>Ap (Ap hq)) fun _ _ e=>e);show wpAny _ X.A (assign (.Name x aF) X.env (.ref F)) _ _ w;refine wpAny_assign_Name (JQ (v:=.ref F) (L.back w.heap (Heap.SameBut.refl _ _)) Y r hx rfl (fun J I5 ⟨a,p,M⟩=>?_) Z);have P:C≠a:=by
  rcases M with e|e
  ·rw[e];exact L.nl
  ·exact fun z=>L.nc x a e z.symm
 obtain⟨m,O⟩:=L.ns;refine⟨m,O.sameBut p P,fun h' l=>⟨_,H',?_,q⟩⟩;refine I5.call' (s':={J with heap:=h'}) (ch:=[C]) rfl ⟨fun b o q n hb hx=>?_,fun b o q n hb hx=>?_,fun b o q n hx=>n,fun b o q hx=>?_,fun b xs q=>q,fun b o u q=>q,fun b ps q=>⟨#[],by simpa using q⟩⟩ ?_ I5.bare fun b hb=>?_
 ·exact(l.2 b (by simpa using hx)).trans q
 ·exact⟨o.slots,(l.2 b (by simpa using hx)).trans q⟩
 ·exact⟨o,(l.2 b (by simpa using hx)).trans q⟩
 ·intro b u e
  refine(I5.hok b u e).stay (fun c v hc q=>(l.2 c ?_).trans q) (fun _ q=>q) fun _ _ q=>q;rintro rfl;rcases hc with z|z
  ·rw[<-z,L.no] at e;cases e
  ·rw[L.no] at z;cases z
 ·have e:b=C:=by simpa using hb
  subst e;exact⟨.inr L.far,L.nl,L.nc,L.np⟩
def Pt{i:Nat}{x:Str}{aF f:Pos}(hc:X.calm=true)(hk:scope.kind=.function)(c:∀y∈scope.names,y.2≠.cell)(h:∀y∈scope.names,y.2=.free->scope.names.lookup y.1=some .free)(j:∀y∈scope.names,y.2=.local->scope.names.lookup y.1=some .local)(hfr:∀y∈scope.names,y.2=.free->X.env.kindOf y.1=some .cell\/X.env.kindOf y.1=some .free)(b:n7 X.N N' am scope)(hi:PI X tg iter wi)(hg:∀a C s₀ H₀ ex,PG (dR X scope N' a C s₀ H₀ ex) tg g)(l:∀a C s₀ H₀ ex,iy (dR X scope N' a C s₀ H₀ ex) aN tc)(o:∀a C s₀ H₀ ex,PE (dR X scope N' a C s₀ H₀ ex) bA te)(p:∀x,foldedSetIterable iter X.env x=pure x)(q:X.N.Nodup)(d:X.N[i]?=some x)(hx:Loc X.env.scope x)(r:X.fn x=true\/X.env.scope.names.lookup x=some .local)(s:swapsWith (.ListComp bA [⟨tg,iter,aN,0⟩] scope pos) (some (.Name x aF)) f.line X.env=pure true):PS X (.Assign [.Name x aF] (.ListComp bA [⟨tg,iter,aN,0⟩] scope pos) f) (e8 (lj wi am g tc te) (zR i)):=
 Ps hc hk (fun y hy e=>absurd e (c y hy)) h j hfr b hi (fun a C s₀ H₀ ex=>oa (X:=X) (N':=N') c a C s₀ H₀ ex▸hg a C s₀ H₀ ex) (fun a C s₀ H₀ ex=>oa (X:=X) (N':=N') c a C s₀ H₀ ex▸l a C s₀ H₀ ex) (fun a C s₀ H₀ ex=>oa (X:=X) (N':=N') c a C s₀ H₀ ex▸o a C s₀ H₀ ex) p q d hx r s
end
section
variable{X:Cx}{scope:Scope}{am:List (Option Nat)}{tg iter bA:Expr}{aN:List Expr}{wi:TI}{g:TG}{tc:TT}{te:TE}{pos:Pos}
def oK{i:Nat}{x:Str}{aF d:Pos}(e:X.N.Nodup)(c:X.N[i]?=some x)(hx:Loc X.env.scope x)(N N':List Str)(am:List (Option Nat))(hi:PI X tg iter wi)(hg:∀a C s₀ H₀ ex,PG (dR X scope N' a C s₀ H₀ ex) tg g)(f:∀a C s₀ H₀ ex,iy (dR X scope N' a C s₀ H₀ ex) aN tc)(h:∀a C s₀ H₀ ex,PE (dR X scope N' a C s₀ H₀ ex) bA te)(hc:X.calm=true:=by rfl)(hk:scope.kind=.function:=by rfl)(j:∀y∈scope.names,y.2≠.cell:=by decide +kernel)(l:∀y∈scope.names,y.2=.free->scope.names.lookup y.1=some .free:=by decide +kernel)(o:∀y∈scope.names,y.2=.local->scope.names.lookup y.1=some .local:=by decide +kernel)(hfr:∀y∈scope.names,y.2=.free->X.env.kindOf y.1=some .cell\/X.env.kindOf y.1=some .free)(p:X.N=N:=by rfl)(b:jl N N' am scope=true:=by decide +kernel)(q:∀x,foldedSetIterable iter X.env x=pure x:=by intro _;rfl)(r:X.fn x=true\/X.env.scope.names.lookup x=some .local:=by first|exact .inl rfl|exact .inr rfl|assumption)(s:swapsWith (.ListComp bA [⟨tg,iter,aN,0⟩] scope pos) (some (.Name x aF)) d.line X.env=pure true:=by rfl):PS X (.Assign [.Name x aF] (.ListComp bA [⟨tg,iter,aN,0⟩] scope pos) d) (e8 (lj wi am g tc te) (zR i)):=
 Pt hc hk j l o hfr (KB (by rw[p];exact b)) hi hg f h q e c hx r s
end
end L2
end
section
namespace K27
open PySem L2
abbrev oM:Stmt:=top 11
abbrev gS:Stmt:=top 12
abbrev j':Stmt:=top 13
def cx:A9 "len"=some (.builtin "len"):=δ
def lZ:A9 "all"=some (.builtin "all"):=δ
abbrev Rws(H:Hp)(rs:List Addr)(tb:Ξ):Prop:=Paired (fun a ns=>H a=some (.lst (ns.map V.int))) rs tb
def wid(tb:Ξ):Nat:=(tb[0]?.map List.length).getD 0
def zT(tb:Ξ):Bool:=decide (tb.length<=40)&&decide (wid tb<=40)&&tb.all fun r=>decide (r.length=wid tb)
def Rws.same{H H2:Hp}{rs:List Addr}{tb:Ξ}(h:Rws H rs tb)(s:Same H H2):Rws H2 rs tb:=Paired.mapP h fun _ _ e=>s _ _ e
def Rws.len{H:Hp}{rs:List Addr}{tb:Ξ}(h:Rws H rs tb):rs.length=tb.length:=by
 induction h with
 |nil=>rfl
 |cons _ _ ih=>rw[AH,AH,ih]
def Rws.get{H:Hp}{rs:List Addr}{tb:Ξ}(h:Rws H rs tb):∀{j:Nat}{a:Addr},rs[j]?=some a->∃ns,tb[j]?=some ns/\H a=some (.lst (ns.map V.int)):=by
 induction h with
 |nil=>intro j a e;simp at e
 |cons r t ih=>
  intro j a e;cases j with
  |zero=>simp at e;subst e;exact⟨_,rfl,r⟩
  |succ j=>simpa using ih (by simpa using e)
def zm{n:Nat}(h:n<=100000):n<=sizeLine:=by rw[sizeLine_eq];(first|lia|omega)
def take_snoc{a:Type}{l:List a}{i:Nat}{x:a}(h:l[i]?=some x):l.take (i+1)=l.take i++[x]:=by rw[List.take_add_one,h];rfl
abbrev E6(K:Ab):List V->Hp->VK->Prop:=fun xs H Q=>∃p ys,xs=[.ref p]/\(SqL K H p ys\/SqT K H p ys)/\Q (.int ys.length) H
def l4{b:List Addr}{i:Nat}{x:V}(h:(b.map V.ref)[i]?=some x):∃a,b[i]?=some a/\x=.ref a:=by
 rw[Aj] at h;cases e:b[i]? with
 |none=>rw[e] at h;cases h
 |some a=>rw[e] at h;cases h;exact⟨a,rfl,rfl⟩
section
variable{P:Program}{w:World}{K:Ab}{mg:Str->Option Value}{base:Heap}
def tt{H2:Hp}{L D:Addr}{rs:List Addr}{tb:Ξ}{Q:VK}{f:Type}{mkV:f->V}{g:List Int->f}{te:TE}{c:List (Option V)}(u:∀(o:Addr)(os:List Int)(H:Hp)(R:VK),Same H2 H->H o=some (.lst (os.map V.int))->os∈tb->(∀H',Same H H'->R (mkV (g os)) H')->te (some (.ref o)::c) H R)(w:SqL K H2 L (rs.map V.ref))(h:Rws H2 rs tb)(hz:tb.length<=1000)(i:H2 D=none)(k:∀a,Same H2 a->a D=some (.lst ((tb.map g).map mkV))->Q (.ref D) a):cV (fw K L) (zR 0) bR te (none::c) H2 D Q:=by
 have r:=h.len;refine lH (xs:=rs.map V.ref) (fun j σ ys a=>∃(v:Option V),σ=v::c/\Same H2 a/\a D=some (.lst ys)/\ys=((tb.take j).map g).map mkV) ?_ ?_ ?_ ?_
 ·exact⟨none,rfl,Same.new i,al,rfl⟩
 ·rintro j σ ys a ⟨v,rfl,sm,b,rfl⟩
  exact sm.seq w
 ·rintro j σ ys a x hx l hy ⟨v,rfl,sm,b,rfl⟩
  obtain⟨o,p,rfl⟩:=l4 hx;obtain⟨os,e,q⟩:=h.get p;have s:(rs.map V.ref).length<=sizeLine:=by rw[Aa];exact zm (by lia)
  refine cZ ?_;refine u o os a _ sm (sm _ _ q) (An e) fun y d=>bZ s l hy (d _ _ b) ⟨_,rfl,(sm.trans d).then i,al,?_⟩;rw[take_snoc e,Aw,Aw]
  rfl
 ·rintro σ ys a ⟨v,rfl,sm,b,rfl⟩
  rw[Aa,r,Ax (Af _)] at b;exact k a sm b
def iE(K:Ab):Sp:=fun vs H Q _=>∃L rs tb,vs=[.ref L]/\SqL K H L (rs.map V.ref)/\Rws H rs tb/\Q (.int (wid tb)) H
def Pu:zl ["table"] ["table"] (zd gS):=⟨rfl,rfl,rfl,δ,rfl,δ,δ⟩
def HS{f:Addr}{fd:FuncData}(F:Fun K "width_of" "width_of" gS f fd)(bl:mg "len"=none):FnOk P w K mg base aJ 1 f fd ["table"] (iE K):=by
 refine F.ok Pu (fun vs H Q E h=>?_) (fun l A outer s H vs Q E hr h=>?_)
 ·obtain⟨L,rs,tb,rfl,_⟩:=h;rfl
 ·obtain⟨L,rs,tb,rfl,c,d,k⟩:=h
  refine⟨_,zf (zo (qA (zx k6 (zj zi rfl bl cx (af (pv 0) ak)) zb (ar _)) (zj zi rfl bl cx (af (zy zB (pv 0) zb (fun _ _=>rfl)) ak)) zb)),?_⟩;refine⟨_,rfl,L,_,rfl,.inl c,_,_,rfl,rfl,_,rfl,?_⟩;have i:=d.len;refine jf (fun h1=>?_) (fun h1=>?_)
  ·cases rs with
   |nil=>have:=of_decide_eq_true h1;simp at this
   |cons a r=>
    obtain⟨ns,e,g⟩:=d.get (j:=0) rfl;refine⟨_,rfl,L,_,_,_,rfl,rfl,c,zh (j:=0) rfl,a,_,rfl,.inl (SqL.of g),?_⟩;have:wid tb=ns.length:=by unfold wid;rw[e];rfl
    rw[this] at k;rw[Aa];exact k
  ·cases rs with
   |cons a r=>have:=of_decide_eq_false (Bool.eq_false_iff.mpr h1);simp at this
   |nil=>
    cases tb with
    |nil=>exact k
    |cons a b=>cases i
def HU(K:Ab):Sp:=fun vs H Q _=>∃L rs tb,vs=[.ref L]/\SqL K H L (rs.map V.ref)/\Rws H rs tb/\tb.length<=1000/\∀H',Same H H'->Q (.bl (zT tb)) H'
def Pv:zl ["table"] ["table"] (zd oM):=⟨rfl,rfl,rfl,δ,rfl,δ,δ⟩
abbrev HV(K:Ab):TE:=cq Hh (k7 (E6 K) (zY (aC 0) bN)) (dD (iE K) [] E0 (zY (aC 1) bN))
def Pw{f c:Addr}{fd d:FuncData}(F:Fun K "is_table" "is_table" oM f fd)(bl:mg "len"=none)(J:mg "all"=none){M tc:Tok}(N:mg "MOST_ROWS"=some (.int 40 M))(O:mg "MOST_COLUMNS"=some (.int 40 tc))(Fw:Fun K "width_of" "width_of" gS c d)(l:Binds K d ["table"] [])(p:mg "width_of"=some (.ref c)):FnOk P w K mg base aJ 2 f fd ["table"] (HU K):=by
 have q:FnOk P w K mg base aJ 1 c d ["table"] (iE K):=HS Fw bl;refine F.ok Pv (fun vs H Q E h=>?_) (fun T A outer s H vs Q E hr h=>?_)
 ·obtain⟨L,rs,tb,rfl,_⟩:=h;rfl
 ·obtain⟨L,rs,tb,rfl,a,b,hz,k⟩:=h
  refine⟨_,za (zU (PW.pt (nR (zx k6 (zj zi rfl bl cx (af (pv 0) ak)) (im (v:=.int 40) rfl N ⟨_,rfl⟩) (ar _))
    (nP (zx k6 (ze q hr rfl p Fw.kp l .nil ap (af (pv 0) ak)) (im (v:=.int 40) rfl O ⟨_,rfl⟩) (ar _))))) (zf (zo eS)) zA)
   (zf (zo (zj (lF rfl) rfl J lZ (af (zp ["table"] ["row","table"] [none,some 0] (zO (pv 0)) (fun j C s₀ H₀ ex=>zk (i:=0) (bx ["row","table"]) rfl (Or.inl rfl)) (fun j C s₀ H₀ ex=>zz)
    (fun j C s₀ H₀ ex=>eV c6 (zj zi rfl bl cx (af (pv 0) ak)) (ze q hr rfl p Fw.kp l .nil ap (af (pv 1) ak)) (ar _)) (te:=HV K) (hfr:=bM (zd oM) δ)) ak)))),?_⟩
  have I:=b.len;refine⟨_,rfl,L,_,rfl,.inl a,_,_,rfl,rfl,_,rfl,?_⟩;rw[Aa,I]
  by_cases c1:40<tb.length
  ·rw[decide_eq_true (show(40:Int)<(tb.length:Int) from ω)]
   refine aT (aT ?_);have:zT tb=false:=by unfold zT;rw[decide_eq_false ω];rfl
   rw[this] at k;exact k H (Same.refl H)
  rw[decide_eq_false (show ¬(40:Int)<(tb.length:Int) from ω)];refine av ⟨_,rfl,L,rs,tb,rfl,a,b,_,_,rfl,rfl,_,rfl,?_⟩
  by_cases U:40<wid tb
  ·rw[decide_eq_true (show(40:Int)<(wid tb:Int) from ω)]
   refine aT ?_;have:zT tb=false:=by unfold zT;rw[decide_eq_false (show ¬wid tb<=40 from ω),Bool.and_false];rfl
   rw[this] at k;exact k H (Same.refl H)
  rw[decide_eq_false (show ¬(40:Int)<(wid tb:Int) from ω)];refine av ⟨_,rfl,L,rfl,⟨_,a⟩,fun D u=>?_⟩;refine zw (tt (mkV:=V.bl) (g:=fun r=>decide (r.length=wid tb)) (fun o os H' R sm x _ y=>?_) a b hz u fun S z G=>?_)
  ·refine⟨_,rfl,o,_,rfl,.inl (SqL.of x),_,rfl,L,rs,tb,rfl,sm.seq a,b.same sm,rfl,?_⟩
   rw[Aa];have:=y H' (Same.refl H');rw[show decide (V.int (os.length:Int)=V.int (wid tb:Int))=decide (os.length=wid tb) from by rw[Bool.eq_iff_iff];simp;(first|lia|omega)];exact this
  ·refine⟨D,_,rfl,SqL.of G,?_⟩
   have e:zT tb=(tb.map fun r=>decide (r.length=wid tb)).all id:=by
    unfold zT;rw[decide_eq_true (show tb.length<=40 from ω),decide_eq_true (show wid tb<=40 from ω),List.all_map];rfl
   rw[e] at k;exact k S z
end
abbrev oT:Stmt:=top 15
abbrev l6:Stmt:=top 16
abbrev tH:Stmt:=top 17
abbrev iN:Stmt:=top 19
abbrev o8:Stmt:=top 20
abbrev gU:Stmt:=top 21
section
variable{P:Program}{w:World}{K:Ab}{mg:Str->Option Value}{base:Heap}
def KC(K:Ab)(fT:Addr):Sp:=fun vs H Q E=>∃L rs tb,vs=[.ref L]/\SqL K H L (rs.map V.ref)/\Rws H rs tb/\tb.length<=1000/\∀H',Same H H'->(zT tb=true->Q .non H')/\(zT tb=false->∀x,H' x=none->E (.ref x) (some fT) H')
def KD:zl ["table"] ["table"] (zd j'):=⟨rfl,rfl,rfl,δ,rfl,δ,δ⟩
def Px{f b fT:Addr}{fd d:FuncData}(F:Fun K "must_be_table" "must_be_table" j' f fd)(q:mg "NoTable"=some (.ref fT))(r:Bk K fT ge "ValueError.__new__"=true)(Ft:Fun K "is_table" "is_table" oM b d)(bt:Binds K d ["table"] [])(mt:mg "is_table"=some (.ref b))(u:FnOk P w K mg base aJ 2 b d ["table"] (HU K)):FnOk P w K mg base (a8 P w) 3 f fd ["table"] (KC K fT):=by
 refine F.ok1 KD (fun vs H Q E h=>?_) (fun v A outer s H vs Q E hr h=>?_)
 ·obtain⟨L,rs,tb,rfl,_⟩:=h;rfl
 ·obtain⟨L,rs,tb,rfl,o,p,hz,k⟩:=h
  refine⟨_,zf (zU (eZ (eD (ze u hr rfl mt Ft.kp bt .nil ap (af (pv 0) ak))))
   (zf (Ee (C:=fT) (EX:=E) rfl rfl q r (fun aa σ H' s' x I hx g i j=>rS I hx g i (fun a e=>nomatch e) j))) zA),?_⟩
  refine⟨_,rfl,L,rs,tb,rfl,o,p,hz,fun H1 l=>⟨_,rfl,?_⟩⟩;obtain⟨k1,k2⟩:=k H1 l;cases c:zT tb with
  |true=>exact av (k1 c)
  |false=>exact aT fun x hx=>k2 c x hx
end
def Rws.upd{H:Hp}{ds:List Addr}{tb:Ξ}{D:Addr}{o:HO}(h:Rws H ds tb):(∀d∈ds,d≠D)->Rws (upd H D o) ds tb:=by
 induction h with
 |nil=>intro _;exact .nil
 |cons r t ih=>intro n;exact .cons (by rw[aq (n _ (AF))];exact r) (ih fun d hd=>n d (AD _ hd))
def Rws.snoc{H:Hp}{ds:List Addr}{tb:Ξ}{d:Addr}{ns:List Int}(h:Rws H ds tb)(e:H d=some (.lst (ns.map V.int))):Rws H (ds++[d]) (tb++[ns]):=by
 induction h with
 |nil=>exact .cons e .nil
 |cons r t ih=>exact .cons r ih
def Rws.there{H:Hp}{ds:List Addr}{tb:Ξ}(h:Rws H ds tb):∀d∈ds,H d≠none:=by
 induction h with
 |nil=>intro d hd;cases hd
 |cons r t ih=>
  intro d hd;rcases List.mem_cons.mp hd with rfl|hd
  ·rw[r];simp
  ·exact ih d hd
section
variable{P:Program}{w:World}{K:Ab}{mg:Str->Option Value}{base:Heap}
def HW{H2 c j:Hp}{D d:Addr}{ds:List Addr}{l:Ξ}{ns:List Int}(sm:Same H2 c)(hr:Rws c ds l)(r:ds.Nodup)(s:∀e∈ds,H2 e=none/\e≠D)(u:Same c j)(hd:c d=none)(v:c D≠none)(w:j d=some (.lst (ns.map V.int))){o:HO}:Rws (L2.upd j D o) (ds++[d]) (l++[ns])/\(ds++[d]).Nodup/\∀e∈ds++[d],H2 e=none/\e≠D:=by
 have g:H2 d=none:=by
  cases q:H2 d with
  |none=>rfl
  |some o=>rw[sm _ _ q] at hd;cases hd
 have i:d≠D:=fun z=>v (z▸hd);have all:∀e∈ds++[d],H2 e=none/\e≠D:=fun e f=>by
  rcases List.mem_append.mp f with h|h
  ·exact s e h
  ·obtain rfl:e=d:=by simpa using h
   exact⟨g,i⟩
 refine⟨((hr.same u).snoc w).upd fun e f=>(all e f).2,?_,all⟩;rw[List.nodup_append];refine⟨r,by simp,fun a p b hb=>?_⟩;obtain rfl:b=d:=by simpa using hb
 intro z;exact hr.there a p (z▸hd)
def pa{H2:Hp}{L D:Addr}{rs:List Addr}{tb:Ξ}{Q:VK}{g:List Int->List Int}{te:TE}{c:List (Option V)}(E:∀(o:Addr)(os:List Int)(H:Hp)(R:VK),Same H2 H->H o=some (.lst (os.map V.int))->os∈tb->(∀d H',Same H H'->H d=none->H' d=some (.lst ((g os).map V.int))->R (.ref d) H')->te (some (.ref o)::c) H R)(F:SqL K H2 L (rs.map V.ref))(l:Rws H2 rs tb)(hz:tb.length<=1000)(p:H2 D=none)(k:∀a ds,Same H2 a->a D=some (.lst (ds.map V.ref))->Rws a ds (tb.map g)->ds.Nodup->(∀d∈ds,H2 d=none/\d≠D)->Q (.ref D) a):cV (fw K L) (zR 0) bR te (none::c) H2 D Q:=by
 have A:=l.len;refine lH (xs:=rs.map V.ref) (fun j σ ys a=>∃(v:Option V)(ds:List Addr),σ=v::c/\Same H2 a/\a D=some (.lst ys)/\ys=ds.map V.ref/\Rws a ds ((tb.take j).map g)/\ds.Nodup/\∀d∈ds,H2 d=none/\d≠D) ?_ ?_ ?_ ?_
 ·exact⟨none,[],rfl,Same.new p,al,rfl,.nil,.nil,fun d hd=>by cases hd⟩
 ·rintro j σ ys a ⟨v,ds,rfl,sm,_⟩
  exact sm.seq F
 ·rintro j σ ys a x hx r hy ⟨v,ds,rfl,sm,b,rfl,hr,f,h⟩
  obtain⟨o,s,rfl⟩:=l4 hx;obtain⟨os,i,u⟩:=l.get s;have C:(rs.map V.ref).length<=sizeLine:=by rw[Aa];exact zm ω
  refine cZ ?_;refine E o os a _ sm (sm _ _ u) (An i) fun d G e hd q=>?_;obtain⟨w,y,z⟩:=HW (D:=D) (o:=.lst (ds.map V.ref++[.ref d])) sm hr f h e hd (by rw[b];simp) q;refine bZ C r hy (e _ _ b) ⟨_,ds++[d],rfl,(sm.trans e).then p,al,by simp,?_,y,z⟩;rw[take_snoc i,Aw];exact w
 ·rintro σ ys a ⟨v,ds,rfl,sm,b,rfl,hr,f,h⟩
  rw[Aa,A,Ax (Af _)] at hr;exact k a ds sm b hr f h
def HX{H2:Hp}{D:Addr}{n:Nat}{Q:VK}{g:Nat->List Int}{te:TE}{c:List (Option V)}(w:∀(j:Nat)(H:Hp)(R:VK),j<n->Same H2 H->(∀d H',Same H H'->H d=none->H' d=some (.lst ((g j).map V.int))->R (.ref d) H')->te (some (.int j)::c) H R)(hz:n<=1000)(p:H2 D=none)(k:∀a ds,Same H2 a->a D=some (.lst (ds.map V.ref))->Rws a ds ((Ah n).map g)->ds.Nodup->(∀d∈ds,H2 d=none/\d≠D)->Q (.ref D) a):cV (gb 0 n) (zR 0) bR te (none::c) H2 D Q:=by
 refine sM (fun j σ ys a=>∃(v:Option V)(ds:List Addr),σ=v::c/\Same H2 a/\a D=some (.lst ys)/\ys=ds.map V.ref/\Rws a ds (((Ah n).take j).map g)/\ds.Nodup/\∀d∈ds,H2 d=none/\d≠D) ?_ ?_ ?_
 ·exact⟨none,[],rfl,Same.new p,al,rfl,.nil,.nil,fun d hd=>by cases hd⟩
 ·rintro j σ ys a h hy ⟨v,ds,rfl,sm,b,rfl,hr,i,l⟩
  have e:(Ah n)[j]?=some j:=AU h;refine cZ ?_;rw[show(0:Int)+((j:Nat):Int)=((j:Nat):Int) from ω];refine w j a _ h sm fun d x f hd q=>?_;obtain⟨r,s,u⟩:=HW (D:=D) (o:=.lst (ds.map V.ref++[.ref d])) sm hr i l f hd (by rw[b];simp) q;refine bZ (zm ω) h hy (f _ _ b) ⟨_,ds++[d],rfl,(sm.trans f).then p,al,by simp,?_,s,u⟩;rw[take_snoc e,Aw];exact r
 ·rintro σ ys a ⟨v,ds,rfl,sm,b,rfl,hr,i,l⟩
  rw[Ax (by simp)] at hr;exact k a ds sm b hr i l
def colAt(tb:Ξ)(k:Nat):List Int:=tb.map fun r=>r.getD k 0
def HY(K:Ab):Sp:=fun vs H Q _=>∃L rs tb,∃k:Nat,vs=[.ref L,.int k]/\SqL K H L (rs.map V.ref)/\Rws H rs tb/\tb.length<=1000/\(∀r∈tb,k<r.length)/\∀D H',Same H H'->H D=none->H' D=some (.lst ((colAt tb k).map V.int))->Q (.ref D) H'
def Py:zl ["table","k"] ["table","k"] (zd gU):=⟨rfl,rfl,rfl,δ,rfl,δ,δ⟩
def Pz{f:Addr}{fd:FuncData}(F:Fun K "column_of" "column_of" gU f fd):FnOk P w K mg base aJ 1 f fd ["table","k"] (HY K):=by
 refine F.ok Py (fun vs H Q E h=>?_) (fun z A outer s H vs Q E hr h=>?_)
 ·obtain⟨L,rs,tb,i,rfl,_⟩:=h;rfl
 ·obtain⟨L,rs,tb,i,rfl,d,x,hz,hi,k⟩:=h
  refine⟨_,zf (zo (zp ["table","k"] ["row","k"] [none,some 1] (zO (pv 0)) (fun b C s₀ H₀ ex=>zk (i:=0) (bx ["row","k"]) rfl (Or.inl rfl)) (fun b C s₀ H₀ ex=>zz)
   (fun b C s₀ H₀ ex=>zy zB (pv 0) (pv 1) (fun _ _=>rfl)) (te:=cq (gP K) (aC 0) (aC 1)) (hfr:=bM (zd gU) δ))),?_⟩
  refine⟨_,rfl,L,rfl,⟨_,d⟩,fun D c=>?_⟩;refine zw (tt (mkV:=V.int) (g:=fun r=>r.getD i 0) (fun o os H' R sm e l p=>?_) d x hz c fun y q u=>k D y q c u);have a:=hi os l;refine⟨_,rfl,_,rfl,o,_,_,_,rfl,rfl,SqL.of e,zh (j:=i) (v:=V.int (os.getD i 0)) ?_,p H' (Same.refl H')⟩;rw[Aj,Ac a,Ad,Ac a]
  rfl
end
def turn(tb:Ξ):Ξ:=(Ah (wid tb)).map (colAt tb)
def gi{tb:Ξ}(h:zT tb=true):tb.length<=40/\wid tb<=40/\∀r∈tb,r.length=wid tb:=by
 unfold zT at h;simp only[AX,decide_eq_true_eq,Bj] at h;exact⟨h.1.1,h.1.2,h.2⟩
section
variable{P:Program}{w:World}{K:Ab}{mg:Str->Option Value}{base:Heap}
def tW(H:Hp)(Q:VK)(tb:Ξ):Prop:=∀D H' ds,Same H H'->H D=none->H' D=some (.lst (ds.map V.ref))->Rws H' ds tb->ds.Nodup->(∀d∈ds,H d=none/\d≠D)->Q (.ref D) H'
def HZ(K:Ab):Sp:=fun vs H Q _=>∃L rs tb,∃n:Nat,vs=[.ref L,.int n]/\SqL K H L (rs.map V.ref)/\Rws H rs tb/\tb.length<=1000/\n<=1000/\(∀r∈tb,n<=r.length)/\tW H Q ((Ah n).map (colAt tb))
def PB:zl ["table","width"] ["table","width"] (zd o8):=⟨rfl,rfl,rfl,δ,rfl,δ,δ⟩
def PD{f b:Addr}{fd c:FuncData}(F:Fun K "columns_to" "columns_to" o8 f fd)(M:mg "range"=none)(Fc:Fun K "column_of" "column_of" gU b c)(N:Binds K c ["table","k"] [])(O:mg "column_of"=some (.ref b)):FnOk P w K mg base aJ 2 f fd ["table","width"] (HZ K):=by
 have U:FnOk P w K mg base aJ 1 b c ["table","k"] (HY K):=Pz Fc;refine F.ok PB (fun vs H Q E h=>?_) (fun W A outer s H vs Q E hr h=>?_)
 ·obtain⟨L,rs,tb,n,rfl,_⟩:=h;rfl
 ·obtain⟨L,rs,tb,n,rfl,G,I,hz,o,J,k⟩:=h
  refine⟨_,zf (zo (zp ["table","width"] ["k","table"] [none,some 0] (zK rfl M (af (pv 1) ak)) (fun e C s₀ H₀ ex=>zk (i:=0) (bx ["k","table"]) rfl (Or.inl rfl)) (fun e C s₀ H₀ ex=>zz)
   (fun e C s₀ H₀ ex=>ze U hr rfl O Fc.kp N .nil ap (af (pv 1) (af (pv 0) ak))) (te:=dD (HY K) [] E0 (zY (aC 1) (zY (aC 0) bN))) (hfr:=bM (zd o8) δ))),?_⟩
  refine⟨_,rfl,_,rfl,ω,ω,fun D l=>?_⟩;refine HX (n:=n) (g:=colAt tb) (fun j H' R p sm q=>⟨_,rfl,_,rfl,L,rs,tb,j,rfl,sm.seq G,I.same sm,ω,fun r hr=>Au p (J r hr),fun d S u hd v=>q d S u hd v⟩) ω l fun T ds x y a z o=>k D T ds x l y a z o
def ka(K:Ab):Sp:=fun vs H Q _=>∃L rs tb,vs=[.ref L]/\SqL K H L (rs.map V.ref)/\Rws H rs tb/\zT tb=true/\tW H Q (turn tb)
def PF:zl ["table"] ["table"] (zd iN):=⟨rfl,rfl,rfl,δ,rfl,δ,δ⟩
def PH{f b c:Addr}{fd d e:FuncData}(F:Fun K "columns_of" "columns_of" iN f fd)(bl:mg "len"=none)(Fc:Fun K "columns_to" "columns_to" o8 b d)(o:Binds K d ["table","width"] [])(p:mg "columns_to"=some (.ref b))(x:FnOk P w K mg base aJ 2 b d ["table","width"] (HZ K))(Fw:Fun K "width_of" "width_of" gS c e)(q:Binds K e ["table"] [])(u:mg "width_of"=some (.ref c)):FnOk P w K mg base aJ 3 f fd ["table"] (ka K):=by
 have v:FnOk P w K mg base aJ 1 c e ["table"] (iE K):=HS Fw bl;refine F.ok PF (fun vs H Q E h=>?_) (fun y A outer s H vs Q E hr h=>?_)
 ·obtain⟨L,rs,tb,rfl,_⟩:=h;rfl
 ·obtain⟨L,rs,tb,rfl,g,i,j,k⟩:=h
  obtain⟨z,C,l⟩:=gi j;have a:Room 1 _:=hr.mono ξ;refine⟨_,zf (zo (ze x hr rfl p Fc.kp o .nil ap (af (pv 0) (af (ze v a rfl u Fw.kp q .nil ap (af (pv 0) ak)) ak)))),?_⟩;exact⟨_,rfl,_,rfl,L,rs,tb,rfl,g,i,L,rs,tb,wid tb,rfl,g,i,ω,ω,fun r hr=>by rw[l r hr];exact Af _,k⟩
end
end K27
end
section
namespace L2
open PySem PySem.Spec PyProof.Rows
def du(K:Ab)(a b:Addr):It:=
 ⟨fun i H=>∃xs ys,SqL K H a xs/\SqL K H b ys/\i<min xs.length ys.length,
  fun i H v H'=>∃p x y,v=.ref p/\H p=none/\H'=upd H p (.tup [x,y])/\(∀xs,SqL K H a xs->xs[i]?=some x)/\∀ys,SqL K H b ys->ys[i]?=some y,
  fun i H=>∃xs ys,SqL K H a xs/\SqL K H b ys/\i=min xs.length ys.length⟩
def PJ{P:Program}{w:World}{K:Ab}{aQ:List Expr}{k:Nat}{pos:Pos}(C D z TI TO i1 i2:Addr)(hd:TI≠z/\TO≠z/\TI≠TO/\TI≠i1/\TI≠i2/\z≠i1/\z≠i2/\TO≠i1/\TO≠i2/\i1≠i2):Turn P w K (.Tuple aQ k pos) (du K C D) [z,TI,TO,i1,i2] z (fun i h=>IsZip h z TI TO .none/\IsPair h TI (.ref i1) (.ref i2)/\(∃a b,IsPair h TO a b)/\h.IsListIter i1 C i/\h.IsListIter i2 D i):=by
 obtain⟨d1,d2,d3,d4,d5,d6,d7,d8,d9,O⟩:=hd;refine HM (wr:=[z,TO,i1,i2]) (by simp) (fun i h st b hb=>?_) (fun i h h' st c=>?_) (fun b hb=>?_) (fun X hP hw hK hc i aa s σ H I N st je=>?_) fun A i s Q E st h=>wpAny_pyIter_zip st.1 h
 ·obtain⟨a1,a2,⟨a,b',a3⟩,⟨o4,a4,_,F⟩,⟨o5,a5,_,e5⟩⟩:=st
  simp at hb;rcases hb with rfl|rfl|rfl|rfl|rfl
  ·exact⟨_,a1,fun v z=>by cases z⟩
  ·exact⟨_,a2,fun v z=>by cases z⟩
  ·exact⟨_,a3,fun v z=>by cases z⟩
  ·exact⟨_,a4,fun v z=>by rw[F] at z;cases z⟩
  ·exact⟨_,a5,fun v z=>by rw[e5] at z;cases z⟩
 ·obtain⟨a1,a2,⟨a,b',a3⟩,a4,a5⟩:=st
  exact⟨c z (by simp) _ a1,c TI (by simp) _ a2,⟨a,b',c TO (by simp) _ a3⟩,a4.at fun o e=>c i1 (by simp) o e,a5.at fun o e=>c i2 (by simp) o e⟩
 ·simp at hb ⊢
  rcases hb with rfl|rfl|rfl|rfl<;>simp
 ·subst hP hw hK
  have hd:∃xs ys,SqL X.K H C xs/\SqL X.K H D ys:=by
   rcases je with ⟨xs,ys,a,b,_⟩|⟨xs,ys,a,b,_⟩
   ·exact⟨xs,ys,a,b⟩
   ·exact⟨xs,ys,a,b⟩
  obtain⟨xs,ys,d,l⟩:=hd;obtain⟨us,S,p1,_⟩:=I.list d;obtain⟨T,U,p2,_⟩:=I.list l;have W:=S.length;have Y:=U.length;have Z:=I.ok.hd hc;obtain⟨a1,a2,a3,a4,a5⟩:=st;have f:=fun b hb=>HL I (N b hb) d;have G:=fun b hb=>HL I (N b hb) l;have AP:Zp.Apart z TI TO i1 i2 [i1,C] [i2,D]:=by
   refine⟨?_,?_,?_,?_,by simp,by simp,?_,?_,d1,d2,d3,d4,d5⟩
   ·simp;exact⟨d6,(f z (by simp)).symm⟩
   ·simp;exact⟨d7,(G z (by simp)).symm⟩
   ·simp;exact⟨d8,(f TO (by simp)).symm⟩
   ·simp;exact⟨d9,(G TO (by simp)).symm⟩
   ·simp;exact⟨O,(G i1 (by simp)).symm⟩
   ·simp;exact⟨O.symm,(f i2 (by simp)).symm⟩
  have WZ:=Zp.Ko (prog:=X.prog) (w:=X.w) (A:=X.A) (Draws.list (A:=X.A.in1) Z i1 C (f i1 (by simp)) us.toArray) (Draws.list (A:=X.A.in1) Z i2 D (G i2 (by simp)) T.toArray) AP;refine⟨_,_,_,_,_,WZ,⟨a1,a2,a3,⟨a4,p1.isList⟩,⟨a5,p2.isList⟩⟩,fun j h st=>⟨st.1,st.2.1,st.2.2.1,st.2.2.2.1.1,st.2.2.2.2.1⟩,fun g=>?_,fun g=>?_⟩
  ·obtain⟨q,r,J,L,hi⟩:=g
   have e1:=I.list_inj J d;have e2:=I.list_inj L l;subst e1 e2;refine⟨by simpa[<-W,<-Y] using hi,fun aH hp=>?_⟩;obtain⟨x,y,px,py,rfl⟩:=hp;have jD:us[i]?=some x:=by simpa using px
   have M:T[i]?=some y:=by simpa using py
   have lx:i<q.length:=by lia
   have ly:i<r.length:=by lia
   have gx:q[i]?=some q[i]:=by simp[lx]
   have gy:r[i]?=some r[i]:=by simp[ly]
   obtain⟨u,e3,ru⟩:=S.get gx;obtain⟨u',F,dL⟩:=U.get gy;rw[jD] at e3;cases e3;rw[M] at F;cases F;refine⟨[q[i],r[i]],.cons ru (.cons dL .nil),cX,fun p hp=>⟨p,_,_,rfl,hp,rfl,fun zs hz=>?_,fun zs hz=>?_⟩⟩
   ·rw[I.list_inj hz d];exact gx
   ·rw[I.list_inj hz l];exact gy
  ·obtain⟨q,r,J,L,hi⟩:=g
   have e1:=I.list_inj J d;have e2:=I.list_inj L l;subst e1 e2
   simpa[<-W,<-Y] using hi
def PK(b e:Addr)(xs ys:Array Value):Meets (Builtin.«zip.__new__» ⟨[.type "zip",.ref b,.ref e],[]⟩) (fun _ R s=>s.heap.IsList b xs/\s.heap.IsList e ys/\
   ∀h',IsZip h' (s⁻¹+4) (s⁻¹+2) (s⁻¹+3) .none->IsPair h' (s⁻¹+2) (.ref s⁻¹) (.ref (s⁻¹+1))->
   IsPair h' (s⁻¹+3) .none .none->h'.IsListIter s⁻¹ b 0->h'.IsListIter (s⁻¹+1) e 0->
   (∀c o,s.heap.get? c=some o->h'.get? c=some o)->R (.ok (.ret (.ref (s⁻¹+4)))) {s with heap:=h'}):=
 .of_wp fun prog w A R s h=>by
  obtain⟨hp,g,d,tk,os⟩:=s;obtain⟨f,i,h⟩:=h;have p:=sub_zip;have j:Heap.IsList (Shared.heap ⟨hp,g,d,tk,os⟩) b xs:=f;have l:Heap.IsList (Shared.heap ⟨hp.push {cls:=.type "list_iterator",data:=.fields #[.ref b,.int 0 0]},g,d,tk,os⟩) e ys:=Heap.IsList.push i _
  wp_walk using wpAny_pyIter_list j,wpAny_pyIter_list l
  refine⟨_,rfl,?_⟩;dsimp only at h ⊢;have a:∀(h:Heap)(o:Obj),(h.push o).objs.size=h.objs.size+1:=fun h o=>Heap.size_push ..;simp only[a,Nat.add_assoc,Nat.reduceAdd];refine h _ ?_ ?_ ?_ ?_ ?_ fun c o x=>Ai _ (Ai _ (Ai _ (Ai _ (Ai _ x))))
  ·exact Heap.get?_push_at (by simp only[a]) rfl
  ·exact Ai _ (Ai _ (Heap.get?_push_at (by simp only[a]) rfl))
  ·exact Ai _ (Heap.get?_push_at (by simp only[a]) rfl)
  ·exact⟨_,Ai _ (Ai _ (Ai _ (Ai _ (AG _ rfl)))),rfl,rfl⟩
  ·exact⟨_,Ai _ (Ai _ (Ai _ (Heap.get?_push_at (by simp only[a]) rfl))),rfl,rfl⟩
section
variable{X:Cx}{aQ:List Expr}{k:Nat}{cT:Pos}
def PM(K:Ab)(ta:TA):TI:=fun σ H R=>ta σ H fun vs H1=>∃a b,vs=[.ref a,.ref b]/\(∃xs,SqL K H1 a xs)/\(∃ys,SqL K H1 b ys)/\R (du K a b) H1
def l7{a b:Expr}{ta:TA}{p pos:Pos}(hg:Gl X "zip")(C:X.mg "zip"=none)(D:A9 "zip"=some (.type "zip"))(E:PA X [a,b] ta)(G:starEach [a,b] X.env=[(false,eval a X.env),(false,eval b X.env)]:=by rfl)(j:starEach [b] X.env=[(false,eval b X.env)]:=by rfl):PI X (.Tuple aQ k cT) (.Call (.Name "zip" p) [a,b] [] pos) (PM X.K ta):=by
 intro aa s σ H R I h;refine Call_ (i0 I hg C D (PyProof.Rows.callWith_type1 (aX (E pos aa s σ H _ I h) fun us c ⟨vs,H1,I1,l,d⟩=>?_) (by rw[G,j]) (by rw[j];rfl)));obtain⟨f,g,e,⟨xs,d⟩,⟨ys,r⟩,q⟩:=d;subst e;obtain⟨u,L,rfl,v,w⟩:=vals2 l;cases v;cases w;obtain⟨x,_,y,_⟩:=I1.list d;obtain⟨A,_,p2,_⟩:=I1.list r;refine callType_new F.called_zip ξ (F.typeCall_zip_2 _ _) (F.newCall_zip_2 _ _) (fun obj=>F.args_object_init_3 obj _ _) F.entry_zip_new (PK f g x.toArray A.toArray) ⟨y.isList,p2.isList,fun h' a1 a2 a3 a4 a5 o=>?_⟩;refine⟨⟨_,a1,rfl⟩,wpAny_pyIter_zip a1 ?_⟩;have J:Inv X aa σ H1 {c with heap:=h'}:=I1.kept (t':=c.toks) o;refine⟨c⁻¹+4,[c⁻¹+4,c⁻¹+2,c⁻¹+3,c⁻¹,c⁻¹+1],_,_,H1,rfl,J,PJ f g _ _ _ _ _ (by refine⟨?_,?_,?_,?_,?_,?_,?_,?_,?_,?_⟩<;>(intro z;have M:(_:Nat)=_:=z;lia)),⟨a1,a2,⟨_,_,a3⟩,a4,a5⟩,fun b hb=>?_,q⟩;have i:c⁻¹<=b:=by
  simp only[List.mem_cons,List.not_mem_nil,or_false] at hb;rcases hb with rfl|rfl|rfl|rfl|rfl
  ·exact A4 _ _
  ·exact A4 _ _
  ·exact A4 _ _
  ·exact Af _
  ·exact A4 _ _
 exact I1.fpOk i (I1.hok.fresh i)
end
section
variable{K:Ab}{a:Addr}{xs:List V}{g:TG}{tc:TT}{te:TE}{σ:St}{H1:Hp}{Q:VK}{D:Addr}
def H_{e f:Addr}{ys:List V}(a:Nat->St->List V->Hp->Prop)(q:a 0 σ [] (upd H1 D (.lst [])))(c:∀i σ zs H,a i σ zs H->SqL K H e xs/\SqL K H f ys)(r:∀i σ zs H p x y,xs[i]?=some x->ys[i]?=some y->i<min xs.length ys.length->zs.length<=i->a i σ zs H->H p=none->g (.ref p) σ (upd H p (.tup [x,y])) fun d s=>tc d s fun b h=>if b=true then te d h (fS (min xs.length ys.length) a D i d) else c_ (min xs.length ys.length) a i d h)(hd:∀σ zs H,a (min xs.length ys.length) σ zs H->Q (.ref D) H):cV (du K e f) g tc te σ H1 D Q:=by
 refine sJ (min xs.length ys.length) a q (fun σ zs H p=>⟨xs,ys,(c _ _ _ _ p).1,(c _ _ _ _ p).2,rfl⟩) (fun i σ zs H hi p=>⟨xs,ys,(c _ _ _ _ p).1,(c _ _ _ _ p).2,hi⟩) (fun i σ zs H v H' hi hy p y=>?_) hd;obtain⟨pp,x,j,rfl,hp,rfl,l,o⟩:=y;exact r i σ zs H pp x j (l xs (c _ _ _ _ p).1) (o ys (c _ _ _ _ p).2) hi hy p hp
end
def ey(i j:Int):Prop:=∃m n:Nat,i.natAbs<2 ^ m/\j.natAbs<2 ^ n/\m+n<=134217728
def Ia(i j:Int):Prop:=0<j/\j.natAbs<2 ^ 9000
section
variable{X:Cx}
def t4:cI X (binaryOp .Mult) (rI ey fun i j=>.int (i*j)):=nX fun i j _ _ _ _ _ hc q=>by
 obtain⟨m,n,h1,h2,a⟩:=hc;exact mul_int q (IntMulOk.of_le (intBits_le_iff.mpr h1) (intBits_le_iff.mpr h2) a)
def E9:cI X (binaryOp .FloorDiv) (rI Ia fun i j=>.int (i / j)):=nX fun i j _ _ _ _ _ hc q=>by
 have h1:(0:Int)<j:=hc.1;refine floordiv_int ω (by rw[Int.fdiv_eq_ediv_of_nonneg i ω];exact q) (.inl (PyProof.noPylong_of_log2 ?_));have a:j.natAbs≠0:=ω
 exact(Nat.log2_lt a).mpr hc.2
end
end L2
namespace K27
open PySem L2
abbrev kb:Stmt:=top 44
abbrev t5:Stmt:=top 47
def gm{ns:List Int}{i:Nat}{x:V}(h:(ns.map V.int)[i]?=some x):∃n,ns[i]?=some n/\x=.int n:=by
 rw[Aj] at h;cases e:ns[i]? with
 |none=>rw[e] at h;cases h
 |some a=>rw[e] at h;cases h;exact⟨a,rfl,rfl⟩
def kf:A9 "zip"=some (.type "zip"):=δ
def c7(rn:List Int)(q:Int)(on:List Int):List Int:=AA (fun a b=>a-q*b) rn on
def bK(p:Int)(rn:List Int)(q:Int)(on:List Int):List Int:=AA (fun a b=>p*a+q*b) rn on
def kg(H:Hp)(Q:VK)(ns:List Int):Prop:=∀D H',Same H H'->H D=none->H' D=some (.lst (ns.map V.int))->Q (.ref D) H'
section
variable{P:Program}{w:World}{K:Ab}{mg:Str->Option Value}{base:Heap}
def E'{H2:Hp}{r o D:Addr}{rn on:List Int}{f:Int->Int->Int}{te:TE}{c:List (Option V)}{Q:VK}(v:∀(a b:Int)(H:Hp)(R:VK),a∈rn->b∈on->R (.int (f a b)) H->te (some (.int a)::some (.int b)::c) H R)(h1:H2 r=some (.lst (rn.map V.int)))(h2:H2 o=some (.lst (on.map V.int)))(n2:on.length<=1000)(s:H2 D=none)(k:∀d,Same H2 d->d D=some (.lst ((AA f rn on).map V.int))->Q (.ref D) d):cV (du K r o) (cb K 2 (cr (zR 0) (cr (zR 1) b_))) bR te (none::none::c) H2 D Q:=by
 refine H_ (K:=K) (xs:=rn.map V.int) (ys:=on.map V.int) (fun i σ zs d=>∃j l,σ=j::l::c/\Same H2 d/\d D=some (.lst zs)/\zs=((AA f rn on).take i).map V.int)
  ⟨none,none,rfl,Same.new s,al,rfl⟩ (fun i σ zs d ⟨_,_,_,sm,_⟩=>⟨SqL.of (sm _ _ h1),SqL.of (sm _ _ h2)⟩) ?_ ?_
 ·rintro i σ zs d u w x e1 e2 hi hz ⟨j,l,rfl,g,h,rfl⟩ e
  obtain⟨p,g1,rfl⟩:=gm e1;obtain⟨q,g2,rfl⟩:=gm e2;refine⟨u,_,rfl,SqT.of al,rfl,_,_,rfl,_,_,rfl,rfl,fX ?_⟩;refine v p q _ _ (An g1) (An g2) (bZ (Ag (Nat.min_le_right _ _) (by rw[Aa];exact zm ω)) hi hz (by rw[aq (zn h e)];exact h) ⟨_,_,rfl,?_,al,?_⟩)
  ·exact(g.then (g.free e)).then s
  ·have e3:(AA f rn on)[i]?=some (f p q):=by rw[List.getElem?_zipWith,g1,g2]
   rw[take_snoc e3,Aw];rfl
 ·rintro σ zs d ⟨j,l,rfl,g,h,rfl⟩
  refine k d g ?_;rw[h,Ax (by simp)]
def t_:Sp:=fun vs H Q _=>∃r o rn on q,vs=[.ref r,.int q,.ref o]/\H r=some (.lst (rn.map V.int))/\H o=some (.lst (on.map V.int))/\on.length<=1000/\(∀x∈on,ey q x)/\kg H Q (c7 rn q on)
def PN:zl ["row","often","other"] ["row","often","other"] (zd kb):=⟨rfl,rfl,rfl,δ,rfl,δ,δ⟩
def PQ{f:Addr}{fd:FuncData}(F:Fun K "less" "less" kb f fd)(v:mg "zip"=none):FnOk P w K mg base aJ 1 f fd ["row","often","other"] t_:=by
 refine F.ok PN (fun vs H Q E h=>?_) (fun y A outer s H vs Q E hr h=>?_)
 ·obtain⟨r,o,rn,on,q,rfl,_⟩:=h;rfl
 ·obtain⟨r,o,rn,on,q,rfl,h1,h2,n2,u,k⟩:=h
  refine⟨_,zf (zo (zp ["row","often","other"] ["number","taken","often"] [none,none,some 1] (l7 rfl v kf (af (pv 0) (af (pv 2) ak)))
   (fun c C s₀ H₀ ex=>gG rfl (zJ (zk (i:=0) (bx ["number","taken","often"]) rfl (Or.inl rfl)) (zJ (zk (i:=1) (bx ["number","taken","often"]) rfl (Or.inl rfl)) gF))) (fun c C s₀ H₀ ex=>zz)
   (fun c C s₀ H₀ ex=>zF fD (pv 0) (zF t4 (pv 2) (pv 1))) (te:=cq (fy fun i j=>.int (i-j)) (aC 0) (cq (rI ey fun i j=>.int (i*j)) (aC 2) (aC 1))) (hfr:=bM (zd kb) δ) (g:=cb K 2 (cr (zR 0) (cr (zR 1) b_))))),?_⟩
  refine⟨_,rfl,_,rfl,r,o,rfl,⟨_,SqL.of h1⟩,⟨_,SqL.of h2⟩,fun D d=>?_⟩;refine zw (E' (f:=fun a b=>a-q*b) (fun a b H' R _ hb e=>?_) h1 h2 n2 d fun x l p=>k D x l d p);exact⟨_,rfl,_,rfl,_,rfl,_,_,rfl,rfl,u b hb,_,_,rfl,rfl,e⟩
def KF:Sp:=fun vs H Q _=>∃r o rn on p q,vs=[.int p,.ref r,.int q,.ref o]/\H r=some (.lst (rn.map V.int))/\H o=some (.lst (on.map V.int))/\on.length<=1000/\(∀x∈rn,ey p x)/\(∀x∈on,ey q x)/\kg H Q (bK p rn q on)
def PR:zl ["often","row","other_often","other"] ["often","row","other_often","other"] (zd t5):=⟨rfl,rfl,rfl,δ,rfl,δ,δ⟩
def PU{f:Addr}{fd:FuncData}(F:Fun K "mix_of_two" "mix_of_two" t5 f fd)(z:mg "zip"=none):FnOk P w K mg base aJ 1 f fd ["often","row","other_often","other"] KF:=by
 refine F.ok PR (fun vs H Q E h=>?_) (fun I A outer s H vs Q E hr h=>?_)
 ·obtain⟨r,o,rn,on,p,q,rfl,_⟩:=h;rfl
 ·obtain⟨r,o,rn,on,p,q,rfl,h1,h2,n2,x,y,k⟩:=h
  refine⟨_,zf (zo (zp ["often","row","other_often","other"] ["number","beside","often","other_often"] [none,none,some 0,some 2] (l7 rfl z kf (af (pv 1) (af (pv 3) ak)))
   (fun c C s₀ H₀ ex=>gG rfl (zJ (zk (i:=0) (bx ["number","beside","often","other_often"]) rfl (Or.inl rfl)) (zJ (zk (i:=1) (bx ["number","beside","often","other_often"]) rfl (Or.inl rfl)) gF))) (fun c C s₀ H₀ ex=>zz)
   (fun c C s₀ H₀ ex=>zF eU (zF t4 (pv 2) (pv 0)) (zF t4 (pv 3) (pv 1))) (te:=cq (fy fun i j=>.int (i+j)) (cq (rI ey fun i j=>.int (i*j)) (aC 2) (aC 0)) (cq (rI ey fun i j=>.int (i*j)) (aC 3) (aC 1))) (hfr:=bM (zd t5) δ) (g:=cb K 2 (cr (zR 0) (cr (zR 1) b_))))),?_⟩
  refine⟨_,rfl,_,rfl,r,o,rfl,⟨_,SqL.of h1⟩,⟨_,SqL.of h2⟩,fun D d=>?_⟩;refine zw (E' (f:=fun a b=>p*a+q*b) (fun a b H' R e hb l=>?_) h1 h2 n2 d fun G u v=>k D G u d v);exact⟨_,rfl,_,rfl,_,_,rfl,rfl,x a e,_,rfl,_,rfl,_,_,rfl,rfl,y b hb,_,_,rfl,rfl,l⟩
end
end K27
end
section
namespace Tb
abbrev Vc:=Nat->Int
def cmb:List Int->List Vc->Vc
 |a::c,v::L=>fun u=>a*v u+cmb c L u
 |_,_=>fun _=>0
def allv(p:Nat):Nat->Ξ
 |0=>[[]]
 |n+1=>(allv p n).flatMap fun c=>(Ah p).map fun a:Nat=>(a:Int)::c
def Fv(p:Nat):∀n,(allv p n).length=p ^ n
 |0=>rfl
 |n+1=>by
  have:∀l:Ξ,(l.flatMap fun c=>(Ah p).map fun a:Nat=>(a:Int)::c).length=l.length*p:=by
   intro l
   induction l with
   |nil=>simp
   |cons c l ih=>rw[List.flatMap_cons,AJ,Aa,A6,ih,AH,Nat.add_mul];(first|lia|omega)
  show(((allv p n).flatMap fun c=>(Ah p).map fun a:Nat=>(a:Int)::c)).length=_;rw[this,Fv p n,Nat.pow_succ]
def l8{p:Nat}:∀{n:Nat}{c:List Int},c∈allv p n↔c.length=n/\∀x∈c,0<=x/\x<(p:Int)
 |0,c=>by
  show c∈[[]]↔_;rw[List.mem_singleton];constructor
  ·rintro rfl;exact⟨rfl,fun x hx=>nomatch hx⟩
  ·intro h;exact AI h.1
 |n+1,c=>by
  show c∈(allv p n).flatMap (fun c=>(Ah p).map fun a:Nat=>(a:Int)::c)↔_;rw[List.mem_flatMap];constructor
  ·rintro⟨d,hd,h⟩
   obtain⟨a,b,rfl⟩:=List.mem_map.mp h;obtain⟨h1,h2⟩:=l8.mp hd;have:=List.mem_range.mp b;refine⟨by rw[AH,h1],fun x hx=>?_⟩;rcases List.mem_cons.mp hx with rfl|hx
   ·(first|lia|omega)
   ·exact h2 x hx
  ·rintro⟨h1,h2⟩
   cases c with
   |nil=>simp at h1
   |cons a d=>
    have b:=h2 a (.head _);refine⟨d,l8.mpr ⟨by simpa using h1,fun x hx=>h2 x (.tail _ hx)⟩,List.mem_map.mpr ⟨a.toNat,List.mem_range.mpr ω,?_⟩⟩;rw[Int.toNat_of_nonneg b.1]
def KG(p:Nat):∀n,(allv p n).Nodup
 |0=>by simp[allv]
 |n+1=>by
  show((allv p n).flatMap fun c=>(Ah p).map fun a:Nat=>(a:Int)::c).Pairwise (·≠·);rw[List.pairwise_flatMap];refine⟨fun c _=>?_,(KG p n).imp fun{a b} h x hx y hy e=>?_⟩
  ·rw[List.pairwise_map]
   exact List.nodup_range.imp fun h e=>h (by injection e with e;(first|lia|omega))
  ·obtain⟨i,_,rfl⟩:=List.mem_map.mp hx
   obtain⟨j,_,rfl⟩:=List.mem_map.mp hy;injection e with _ e
   exact h e
def eF{g h:Type}(f:g->h):∀(l:List g)(m:List h),l.Nodup->(∀x∈l,f x∈m)->m.length<l.length->∃x∈l,∃y∈l,x≠y/\f x=f y:=by
 intro l m i d j;apply AN;intro no;have inj:∀x∈l,∀y∈l,f x=f y->x=y:=fun x hx y hy e=>AN fun ne=>no ⟨x,hx,y,hy,ne,e⟩;have c:(l.map f).Nodup:=by
  clear d j no
  induction l with
  |nil=>exact List.nodup_nil
  |cons a l ih=>
   rw[AV,List.nodup_cons];obtain⟨h1,h2⟩:=List.nodup_cons.mp i;refine⟨fun z=>?_,ih h2 fun x hx y hy=>inj x (.tail _ hx) y (.tail _ hy)⟩;obtain⟨b,hb,e⟩:=List.mem_map.mp z;exact h1 (inj b (.tail _ hb) a (.head _) e▸hb)
 have:=c.length_le_of_subset (l₂:=m) fun y hy=>by
  obtain⟨x,hx,rfl⟩:=List.mem_map.mp hy;exact d x hx
 rw[Aa] at this;(first|lia|omega)
def FF:∀(c d:List Int)(L:List Vc),c.length=L.length->d.length=L.length->∀u,cmb (AA (fun a b=>a-b) c d) L u=cmb c L u-cmb d L u
 |c,d,[],h1,h2,u=>by rw[AI h1,AI h2];rfl
 |[],_,_::_,h1,_,_=>by simp at h1
 |_::_,[],_::_,_,h2,_=>by simp at h2
 |a::c,b::d,v::L,h1,h2,u=>by
  show(a-b)*v u+cmb _ L u=a*v u+cmb c L u-(b*v u+cmb d L u);rw[FF c d L (by simpa using h1) (by simpa using h2),Int.sub_mul];(first|lia|omega)
def gW(k m:Int):∀(c d:List Int)(L:List Vc),c.length=L.length->d.length=L.length->∀u,cmb (AA (fun a b=>k*a+m*b) c d) L u=k*cmb c L u+m*cmb d L u
 |c,d,[],h1,h2,u=>by rw[AI h1,AI h2];show(0:Int)=k*0+m*0;(first|lia|omega)
 |[],_,_::_,h1,_,_=>by simp at h1
 |_::_,[],_::_,_,h2,_=>by simp at h2
 |a::c,b::d,v::L,h1,h2,u=>by
  show(k*a+m*b)*v u+cmb _ L u=k*(a*v u+cmb c L u)+m*(b*v u+cmb d L u);rw[gW k m c d L (by simpa using h1) (by simpa using h2),Int.add_mul,Int.mul_add,Int.mul_add,AW,AW];(first|lia|omega)
def FG:∀(n:Nat)(L:List Vc)(u:Nat),cmb (Am n 0) L u=0
 |0,_,_=>rfl
 |n+1,[],_=>rfl
 |n+1,v::L,u=>by show 0*v u+cmb (Am n 0) L u=0;rw[FG n L u];(first|lia|omega)
def ua{M X:Nat}{u:Nat}:∀(c:List Int)(L:List Vc),(∀x∈c,x.natAbs<=X)->(∀v∈L,(v u).natAbs<=M)->(cmb c L u).natAbs<=L.length*(X*M)
 |[],[],_,_=>by show(0:Int).natAbs<=_;simp
 |[],_::_,_,_=>by show(0:Int).natAbs<=_;simp
 |_::_,[],_,_=>by show(0:Int).natAbs<=_;simp
 |a::c,v::L,h1,h2=>by
  have b:=ua (u:=u) c L (fun x hx=>h1 x (.tail _ hx)) fun w hw=>h2 w (.tail _ hw);have d:(a*v u).natAbs<=X*M:=by rw[AK];exact AQ (h1 a (.head _)) (h2 v (.head _))
  show(a*v u+cmb c L u).natAbs<=(L.length+1)*(X*M);have:=Int.natAbs_add_le (a*v u) (cmb c L u);rw[Nat.add_mul];(first|lia|omega)
def Inj(R:List Vc)(P:List Nat):Prop:=∀c:List Int,c.length=R.length->(∀p∈P,cmb c R p=0)->∀x∈c,x=0
def g0{R:List Vc}{P:List Nat}{M:Nat}(C:1<=M)(r:∀v∈R,∀p∈P,(v p).natAbs<=M)(s:P.length<R.length):∃c:List Int,c.length=R.length/\(∃x∈c,x≠0)/\(∀p∈P,cmb c R p=0)/\∀x∈c,x.natAbs<=(2*R.length*M) ^ P.length:=by
 let j:=R.length
 let X:=(2*j*M) ^ P.length
 have w:1<=j:=by show 1<=R.length;(first|lia|omega)
 have A:1<=2*j*M:=Nat.one_le_iff_ne_zero.mpr (by intro z;rcases Nat.mul_eq_zero.mp z with z|z<;>(first|lia|omega));have q:∀c∈allv (X+1) j,P.map (fun p=>cmb c R p+(j*(X*M):Nat))∈allv (2*(j*(X*M))+1) P.length:=fun c hc=>by
  obtain⟨h1,h2⟩:=l8.mp hc;refine l8.mpr ⟨Aa _,fun x hx=>?_⟩;obtain⟨p,hp,rfl⟩:=List.mem_map.mp hx;have:=ua (u:=p) (X:=X) (M:=M) c R (fun x hx=>by have:=h2 x hx;(first|lia|omega)) fun v h=>r v h p hp;have e:R.length*(X*M)=j*(X*M):=rfl;rw[e] at this;generalize j*(X*M)=N at this ⊢;(first|lia|omega)
 have cnt:(allv (2*(j*(X*M))+1) P.length).length<(allv (X+1) j).length:=by
  rw[Fv,Fv];have e1:2*(j*(X*M))+1<=(2*j*M)*(X+1):=by
   have:2*(j*(X*M))=(2*j*M)*X:=by rw[AO 2 j M,AO 2 (j*M) X,AO j M X,Nat.mul_comm M X]
   rw[this,Nat.mul_add];(first|lia|omega)
  calc (2*(j*(X*M))+1) ^ P.length<=((2*j*M)*(X+1)) ^ P.length:=Nat.pow_le_pow_left e1 _
   _=X*(X+1) ^ P.length:=Nat.mul_pow _ _ _
   _<(X+1)*(X+1) ^ P.length:=Nat.mul_lt_mul_of_pos_right (Nat.lt_succ_self _) (Nat.pow_pos (Nat.succ_pos _))
   _=(X+1) ^ (P.length+1):=by rw[Nat.pow_succ,Nat.mul_comm]
   _<=(X+1) ^ j:=AC (Nat.succ_pos _) s
 obtain⟨x,hx,y,hy,ne,e⟩:=eF _ _ _ (KG (X+1) j) q cnt;obtain⟨x1,x2⟩:=l8.mp hx;obtain⟨d,o⟩:=l8.mp hy;have hz:(AA (fun a b=>a-b) x y).length=R.length:=by rw[AE,x1,d];exact Nat.min_self _
 refine⟨AA (fun a b=>a-b) x y,hz,?_,fun p hp=>?_,fun z hz=>?_⟩
 ·apply AN
  intro no;apply ne;refine AZ (by rw[x1,d]) fun i h1 h2=>?_;have hi:i<(AA (fun a b=>a-b) x y).length:=by rw[AE];(first|lia|omega)
  have:=AN fun nz=>no ⟨(AA (fun a b=>a-b) x y)[i],AB hi,nz⟩;rw[A0] at this;(first|lia|omega)
 ·rw[FF x y R (by rw[x1]) (by rw[d])]
  obtain⟨i,hi,rfl⟩:=A8 hp;have:=congrArg (fun l=>l[i]?) e;simp only[Aj,Ac hi,Option.map_some,Option.some.injEq] at this;(first|lia|omega)
 ·obtain⟨i,hi,rfl⟩:=A8 hz
  rw[A0];rw[AE] at hi;have f:i<x.length:=ω
  have g:i<y.length:=ω
  have a1:=x2 _ (AB f);have a2:=o _ (AB g);show(x[i]-y[i]).natAbs<=X;(first|lia|omega)
def KH{R:List Vc}{P:List Nat}{M:Nat}(g:1<=M)(h:∀v∈R,∀p∈P,(v p).natAbs<=M)(i:P.length=R.length)(j:P.Nodup)(hi:Inj R P){p:Nat}(hp:p∈P):∃c:List Int,c.length=R.length/\cmb c R p≠0/\(∀q∈P,q≠p->cmb c R q=0)/\∀x∈c,x.natAbs<=(2*R.length*M) ^ (R.length-1):=by
 have a:(P.erase p).length=R.length-1:=by rw[List.length_erase_of_mem hp,i]
 have d:1<=P.length:=List.length_pos_of_mem hp;obtain⟨c,h1,⟨x,hx,nx⟩,h2,b⟩:=g0 (P:=P.erase p) g (fun v f q hq=>h v f q (List.mem_of_mem_erase hq)) ω;rw[a] at b;have hz:∀q∈P,q≠p->cmb c R q=0:=fun q hq ne=>h2 q ((List.mem_erase_of_ne ne).mpr hq);refine⟨c,h1,fun z=>nx ?_,hz,b⟩;refine hi c h1 (fun q hq=>?_) x hx
 by_cases e:q=p
 ·rw[e];exact z
 ·exact hz q hq e
end Tb
end
section
namespace Tb
def KI{f:Int->Int->Int}{c d:List Int}{x:Int}(h:x∈AA f c d):∃a∈c,∃b∈d,x=f a b:=by
 obtain⟨i,hi,rfl⟩:=A8 h;rw[AE] at hi;exact⟨c[i]'ω,AB _,d[i]'ω,AB _,A0 ..⟩
def Ib{x:Int}(h:x≠0):1<=x.natAbs:=ω
def clear{R:List Vc}{P:List Nat}{M V:Nat}{v:Vc}(i:1<=M)(j:∀v∈R,∀p∈P,(v p).natAbs<=M)(l:P.length=R.length)(o:P.Nodup)(hi:Inj R P)(r:∀p∈P,(v p).natAbs<=V):∀Q:List Nat,Q.Nodup->(∀q∈Q,q∈P)->∃(D:Int)(s:List Int),D≠0/\s.length=R.length/\(∀q∈Q,cmb s R q=D*v q)/\(∀q∈P,q∉Q->cmb s R q=0)/\∀x∈s,x.natAbs<=D.natAbs*(Q.length*(V*(2*R.length*M) ^ (R.length-1)))
 |[],_,_=>⟨1,Am R.length 0,ξ,AM,(fun q hq=>nomatch hq),fun q _ _=>FG _ _ _,fun x hx=>by rw[(List.mem_replicate.mp hx).2];simp⟩
 |p::Q,hn,hs=>by
  obtain⟨n1,n2⟩:=List.nodup_cons.mp hn;obtain⟨D,s,u,e,e1,e2,b⟩:=clear i j l o hi r Q n2 fun q hq=>hs q (.tail _ hq);have hp:=hs p (.head _);obtain⟨c,f,g,h,w⟩:=KH i j l o hi hp;refine⟨D*cmb c R p,AA (fun a b=>cmb c R p*a+(D*v p)*b) s c,Int.mul_ne_zero u g,by rw[AE];(first|lia|omega),fun q hq=>?_,fun q hq d=>?_,fun x hx=>?_⟩
  ·rw[gW _ _ s c R e f]
   rcases List.mem_cons.mp hq with rfl|hq
   ·rw[e2 q hp n1,Int.mul_zero,Int.zero_add,Int.mul_right_comm]
   ·rw[e1 q hq,h q (hs q (.tail _ hq)) (fun z=>n1 (z▸hq)),Int.mul_zero,Int.add_zero,Int.mul_left_comm,AW]
  ·rw[gW _ _ s c R e f,e2 q hq (fun z=>d (.tail _ z)),h q hq (fun z=>d (z▸.head _)),Int.mul_zero,Int.mul_zero];rfl
  ·obtain⟨a,y,b',A,rfl⟩:=KI hx
   have h1:=b a y;have h2:=w b' A;have C:=r p hp;generalize (2*R.length*M) ^ (R.length-1)=X at h1 h2 ⊢;have k:=Ib g;generalize cmb c R p=E at k ⊢;have F:(E*a).natAbs<=E.natAbs*(D.natAbs*(Q.length*(V*X))):=by rw[AK];exact Ak _ h1
   have G:(D*v p*b').natAbs<=D.natAbs*(V*X):=by
    rw[AK,AK,AO];exact Ak _ (AQ C h2)
   have H:=Int.natAbs_add_le (E*a) (D*v p*b');have I:D.natAbs*(V*X)<=E.natAbs*(D.natAbs*(V*X)):=Nat.le_mul_of_pos_left _ k;have J:(D*E).natAbs*((Q.length+1)*(V*X))=E.natAbs*(D.natAbs*(Q.length*(V*X)))+E.natAbs*(D.natAbs*(V*X)):=by
    rw[AK,Nat.add_mul,Nat.one_mul,Nat.mul_add,Nat.mul_comm D.natAbs E.natAbs,AO,AO]
   show _<=(D*E).natAbs*((Q.length+1)*(V*X));rw[J];exact Ag H (Nat.add_le_add F (Ag G I))
def uk{R:List Vc}{P:List Nat}{M V:Nat}{c:List Int}(r:1<=M)(u:∀v∈R,∀p∈P,(v p).natAbs<=M)(e:P.length=R.length)(f:P.Nodup)(hi:Inj R P)(hc:c.length=R.length)(w:∀p∈P,(cmb c R p).natAbs<=V):∀x∈c,x.natAbs<=R.length*(V*(2*R.length*M) ^ (R.length-1)):=by
 obtain⟨D,s,g,h,e1,_,b⟩:=clear r u e f hi w P f fun q hq=>hq;have hz:=hi (AA (fun a b=>D*a+(-1)*b) c s) (by rw[AE];(first|lia|omega)) fun p hp=>by
  rw[gW _ _ c s R hc h,e1 p hp];(first|lia|omega)
 intro x hx;obtain⟨i,j,rfl⟩:=A8 hx;have l:i<s.length:=ω
 have d:i<(AA (fun a b=>D*a+(-1)*b) c s).length:=by rw[AE];(first|lia|omega)
 have o:=hz _ (AB d);rw[A0] at o;have h1:=b _ (AB l);have h2:s[i]=D*c[i]:=ω
 rw[h2,AK,e] at h1;exact Nat.le_of_mul_le_mul_left h1 (Ib g)
end Tb
end
section
namespace Tb
def Rep(R:List Vc)(C:Nat)(v:Vc):Prop:=∃c:List Int,c.length=R.length/\(∀u,v u=cmb c R u)/\∀x∈c,x.natAbs<=C
section
variable{R:List Vc}{C D:Nat}{v w:Vc}
def Rep.mono(h:Rep R C v)(hc:C<=D):Rep R D v:=let ⟨c,h1,h2,h3⟩:=h;⟨c,h1,h2,fun x hx=>Ag (h3 x hx) hc⟩
def Rep.eq(h:Rep R C v)(e:∀u,w u=v u):Rep R C w:=let ⟨c,h1,h2,h3⟩:=h;⟨c,h1,fun u=>(e u).trans (h2 u),h3⟩
def Rep.lin{k m:Int}{A B:Nat}(g:Rep R C v)(hw:Rep R D w)(hk:k.natAbs<=A)(h:m.natAbs<=B):Rep R (A*C+B*D) fun u=>k*v u+m*w u:=by
 obtain⟨c,h1,h2,e⟩:=g;obtain⟨d,g1,g2,g3⟩:=hw;refine⟨AA (fun a b=>k*a+m*b) c d,by rw[AE];(first|lia|omega),fun u=>?_,fun x hx=>?_⟩
 ·show k*v u+m*w u=_
  rw[gW k m c d R h1 g1,h2,g2]
 ·obtain⟨a,f,b,hb,rfl⟩:=KI hx
  have i:(k*a).natAbs<=A*C:=by rw[AK];exact AQ hk (e a f)
  have j:(m*b).natAbs<=B*D:=by rw[AK];exact AQ h (g3 b hb)
  have:=Int.natAbs_add_le (k*a) (m*b);(first|lia|omega)
def Rep.sub{m:Int}{B:Nat}(a:Rep R C v)(hw:Rep R D w)(b:m.natAbs<=B):Rep R (C+B*D) fun u=>v u-m*w u:=
 ((a.lin (k:=1) (m:=-m) hw (A:=1) (B:=B) ξ (by rw[Int.natAbs_neg];exact b)).mono ω).eq fun u=>by rw[Int.one_mul,Int.neg_mul];(first|lia|omega)
def Rep.le(h:Rep R C v){M u:Nat}(b:∀r∈R,(r u).natAbs<=M):(v u).natAbs<=R.length*(C*M):=by
 obtain⟨c,h1,h2,a⟩:=h;rw[h2];exact ua c R a b
end
def step(f:Nat->Vc)(p:Nat)(l:Vc):Vc:=fun u=>l u-l p / f p p*f p u
def a9(f:Nat->Vc):List Nat->Vc->Vc
 |[],l=>l
 |p::ps,l=>a9 f ps (step f p l)
structure Ech(P:List Nat)(f:Nat->Vc):Prop where
 z:∀p∈P,∀i,i<p->f p i=0
 pos:∀p∈P,0<f p p
section
variable{f:Nat->Vc}
def Ech.sub{P Q:List Nat}(h:Ech P f)(a:∀q∈Q,q∈P):Ech Q f:=⟨fun p hp=>h.z p (a p hp),fun p hp=>h.pos p (a p hp)⟩
def KJ{P:List Nat}{p i:Nat}{l:Vc}(h:Ech P f)(hp:p∈P)(hi:i<p):step f p l i=l i:=by
 unfold step;rw[h.z p hp i hi,Int.mul_zero,Int.sub_zero]
def step_at{P:List Nat}{p:Nat}{l:Vc}(h:Ech P f)(hp:p∈P):0<=step f p l p/\step f p l p<f p p:=by
 have a:=h.pos p hp;have e:step f p l p=l p%f p p:=by
  unfold step;have:=Int.emod_add_mul_ediv (l p) (f p p);rw[Bb] at this;(first|lia|omega)
 rw[e];exact⟨Int.emod_nonneg _ ω,Int.emod_lt_of_pos _ a⟩
def FH:∀{ps:List Nat}{l:Vc}{i:Nat},Ech ps f->(∀p∈ps,i<p)->a9 f ps l i=l i
 |[],_,_,_,_=>rfl
 |p::ps,l,i,h,hi=>by
  show a9 f ps (step f p l) i=l i;rw[FH (h.sub fun q hq=>.tail _ hq) (fun q hq=>hi q (.tail _ hq)),KJ h (.head _) (hi p (.head _))]
def KL:∀{ps:List Nat}{l:Vc}{t:Nat},Ech ps f->(∀i,i<t->l i=0)->∀i,i<t->a9 f ps l i=0
 |[],_,_,_,hz,i,hi=>hz i hi
 |p::ps,l,t,h,hz,i,hi=>by
  refine KL (h.sub fun q hq=>.tail _ hq) (t:=t) (fun i hi=>?_) i hi
  by_cases hp:i<p
  ·rw[KJ h (.head _) hp];exact hz i hi
  ·unfold step
   rw[hz i hi,hz p ω];simp
def FI:∀{ps:List Nat}{l:Vc},Ech ps f->ps.Pairwise (·<·)->∀p∈ps,0<=a9 f ps l p/\a9 f ps l p<f p p
 |p::ps,l,h,hs,q,hq=>by
  rw[Ba] at hs;have h':Ech ps f:=h.sub fun q hq=>.tail _ hq;rcases List.mem_cons.mp hq with rfl|hq
  ·show 0<=a9 f ps (step f q l) q/\a9 f ps (step f q l) q<f q q
   rw[FH h' (fun r hr=>hs.1 r hr)];exact step_at h (.head _)
  ·exact FI h' hs.2 q hq
def l_{R:List Vc}{P:List Nat}{CF VF:Nat}(g:∀p∈P,Rep R CF (f p))(h:∀p∈P,∀q∈P,(f p q).natAbs<=VF)(a:∀p∈P,0<f p p):∀(ps:List Nat){l:Vc}{C V:Nat},(∀p∈ps,p∈P)->Rep R C l->(∀q∈P,(l q).natAbs<=V)->Rep R (C+ps.length*(V*(1+VF) ^ ps.length*CF)) (a9 f ps l)/\∀q∈P,(a9 f ps l q).natAbs<=V*(1+VF) ^ ps.length
 |[],l,C,V,_,hr,hv=>⟨hr.mono ω,fun q hq=>by show(l q).natAbs<=V*(1+VF) ^ 0;rw[Nat.pow_zero,Nat.mul_one];exact hv q hq⟩
 |p::ps,l,C,V,hs,hr,hv=>by
  have hp:=hs p (.head _);have o:=a p hp;have d:(l p / f p p).natAbs<=V:=by
   refine Ag ?_ (hv p hp);have:(l p / f p p).natAbs<=(l p).natAbs:=by
    have:=Int.natAbs_ediv_le_natAbs (l p) (f p p);exact this
   exact this
  have i:Rep R (C+V*CF) (step f p l):=hr.sub (g p hp) d;have j:∀q∈P,(step f p l q).natAbs<=V*(1+VF):=fun q hq=>by
   have r:=hv q hq;have s:(l p / f p p*f p q).natAbs<=V*VF:=by rw[AK];exact AQ d (h p hp q hq)
   have u:(step f p l q).natAbs<=(l q).natAbs+(l p / f p p*f p q).natAbs:=by unfold step;(first|lia|omega)
   rw[Nat.mul_add,Nat.mul_one];(first|lia|omega)
  obtain⟨b,c⟩:=l_ g h a ps (fun q hq=>hs q (.tail _ hq)) i j;have e:V*(1+VF)*(1+VF) ^ ps.length=V*(1+VF) ^ (ps.length+1):=by rw[Nat.pow_succ,AO,Nat.mul_comm (1+VF)]
  rw[e] at b c;refine⟨b.mono ?_,c⟩;show C+V*CF+ps.length*(V*(1+VF) ^ (ps.length+1)*CF)<=C+(ps.length+1)*(V*(1+VF) ^ (ps.length+1)*CF);have k1:V*1<=V*(1+VF) ^ (ps.length+1):=Ak _ (Nat.pow_pos ω);have k2:V*CF<=V*(1+VF) ^ (ps.length+1)*CF:=Al _ ω;rw[Nat.add_mul];(first|lia|omega)
end
end Tb
end
section
namespace Tb
def Sp(R:List Vc)(v:Vc):Prop:=∃c:List Int,c.length=R.length/\∀u,v u=cmb c R u
section
variable{R S:List Vc}{v w:Vc}
def Rep.sp{C:Nat}(h:Rep R C v):Sp R v:=let ⟨c,h1,h2,_⟩:=h;⟨c,h1,h2⟩
def Sp.eq(h:Sp R v)(e:∀u,w u=v u):Sp R w:=let ⟨c,h1,h2⟩:=h;⟨c,h1,fun u=>(e u).trans (h2 u)⟩
def Sp.zero:Sp R fun _=>0:=⟨Am R.length 0,AM,fun u=>(FG _ _ _).symm⟩
def Sp.lin(e:Sp R v)(hw:Sp R w)(k m:Int):Sp R fun u=>k*v u+m*w u:=by
 obtain⟨c,h1,h2⟩:=e;obtain⟨d,g1,g2⟩:=hw;refine⟨AA (fun a b=>k*a+m*b) c d,by rw[AE];(first|lia|omega),fun u=>?_⟩;show k*v u+m*w u=_;rw[gW k m c d R h1 g1,h2,g2]
def Sp.sub(a:Sp R v)(hw:Sp R w)(m:Int):Sp R fun u=>v u-m*w u:=(a.lin hw 1 (-m)).eq fun u=>by rw[Int.one_mul,Int.neg_mul];(first|lia|omega)
def Rep.mem:∀{R:List Vc}{v:Vc},v∈R->Rep R 1 v
 |r::R,v,h=>by
  rcases List.mem_cons.mp h with rfl|h
  ·exact⟨1::Am R.length 0,by simp,fun u=>by show v u=1*v u+cmb (Am R.length 0) R u;rw[FG];(first|lia|omega),fun x hx=>by
    rcases List.mem_cons.mp hx with rfl|hx
    ·decide
    ·rw[(List.mem_replicate.mp hx).2];decide⟩
  ·obtain⟨c,h1,h2,a⟩:=Rep.mem h
   exact⟨0::c,by simp[h1],fun u=>by show v u=0*r u+cmb c R u;rw[h2];(first|lia|omega),fun x hx=>by
    rcases List.mem_cons.mp hx with rfl|hx
    ·decide
    ·exact a x hx⟩
def Sp.mem(h:v∈R):Sp R v:=(Rep.mem h).sp
def Sp.cmb:∀(c:List Int)(S:List Vc),(∀s∈S,Sp R s)->Sp R (Tb.cmb c S)
 |[],[],_=>Sp.zero
 |[],_::_,_=>Sp.zero
 |_::_,[],_=>Sp.zero
 |a::c,s::S,h=>((h s (.head _)).lin (Sp.cmb c S fun w hw=>h w (.tail _ hw)) a 1).eq fun u=>by show a*s u+Tb.cmb c S u=_;(first|lia|omega)
def Sp.trans(h:Sp S v)(a:∀s∈S,Sp R s):Sp R v:=by
 obtain⟨c,_,h2⟩:=h;exact(Sp.cmb c S a).eq h2
def jm(R:List Vc):Prop:=∀c:List Int,c.length=R.length->(∀u,cmb c R u=0)->∀x∈c,x=0
def zL{u:Nat}:∀(c:List Int)(L:List Vc),(∀v∈L,v u=0)->cmb c L u=0
 |[],[],_=>rfl
 |[],_::_,_=>rfl
 |_::_,[],_=>rfl
 |a::c,v::L,h=>by
  show a*v u+cmb c L u=0;rw[h v (.head _),zL c L fun w hw=>h w (.tail _ hw),Int.mul_zero];rfl
end
section
variable{f:Nat->Vc}
def Ie:∀{P:List Nat},Ech P f->P.Pairwise (·<·)->∀c:List Int,c.length=P.length->(∀p∈P,cmb c (P.map f) p=0)->∀x∈c,x=0
 |[],_,_,c,hl,_,x,hx=>by rw[AI hl] at hx;cases hx
 |p::P,h,hs,[],hl,_,x,hx=>by cases hx
 |p::P,h,hs,a::c,hl,hz,x,hx=>by
  rw[Ba] at hs;have b:=hz p (.head _);have e:cmb (a::c) ((p::P).map f) p=a*f p p:=by
   show a*f p p+cmb c (P.map f) p=a*f p p;rw[zL c (P.map f) fun v d=>by
    obtain⟨q,hq,rfl⟩:=List.mem_map.mp d;exact h.z q (.tail _ hq) p (hs.1 q hq)]
   (first|lia|omega)
  rw[e] at b;have hp:=h.pos p (.head _);have g:a=0:=by
   rcases Int.mul_eq_zero.mp b with z|z
   ·exact z
   ·(first|lia|omega)
  subst g;rcases List.mem_cons.mp hx with rfl|hx
  ·rfl
  ·refine Ie (h.sub fun q hq=>.tail _ hq) hs.2 c (by simpa using hl) (fun q hq=>?_) x hx
   have:=hz q (.tail _ hq);have e:cmb (0::c) ((p::P).map f) q=0*f p q+cmb c (P.map f) q:=rfl;rw[e] at this;(first|lia|omega)
def md:∀(c:List Int)(L:List Vc)(u:Nat),(∀x∈c,x=0)->cmb c L u=0
 |[],[],_,_=>rfl
 |[],_::_,_,_=>rfl
 |_::_,[],_,_=>rfl
 |a::c,v::L,u,h=>by show a*v u+cmb c L u=0;rw[h a (.head _),md c L u fun x hx=>h x (.tail _ hx)];(first|lia|omega)
def FJ{R:List Vc}{P:List Nat}(hi:jm R)(h:Ech P f)(b:P.Pairwise (·<·))(e:∀r∈R,Sp (P.map f) r):Inj R P:=fun c hc hz=>by
 obtain⟨d,h1,h2⟩:=Sp.cmb c R e;have a:=Ie h b d (by simpa using h1) fun p hp=>by rw[<-h2];exact hz p hp
 exact hi c hc fun u=>by rw[h2];exact md d _ u a
def ki:∀{P:List Nat}{p:Nat}{w:Vc},Ech P f->P.Pairwise (·<·)->p∈P->Sp (P.map f) w->(∀q∈P,q<p->w q=0)->f p p ∣ w p
 |[],_,_,_,_,hp,_,_=>nomatch hp
 |q::P,p,w,h,hs,hp,⟨c,hc,e⟩,hz=>by
  cases c with
  |nil=>simp at hc
  |cons a c=>
   rw[Ba] at hs;have eq:w q=a*f q q:=by
    rw[e];show a*f q q+cmb c (P.map f) q=a*f q q;rw[zL c (P.map f) fun v g=>by
     obtain⟨r,hr,rfl⟩:=List.mem_map.mp g;exact h.z r (.tail _ hr) q (hs.1 r hr)]
    (first|lia|omega)
   rcases List.mem_cons.mp hp with rfl|hp
   ·exact⟨a,by rw[eq,Bb]⟩
   ·have hq:=hz q (.head _) (hs.1 p hp)
    rw[eq] at hq;have d:=h.pos q (.head _);have i:a=0:=by
     rcases Int.mul_eq_zero.mp hq with z|z
     ·exact z
     ·(first|lia|omega)
    refine ki (h.sub fun q hq=>.tail _ hq) hs.2 hp ⟨c,by simpa using hc,fun u=>?_⟩ fun r hr b=>hz r (.tail _ hr) b;rw[e];show a*f q u+cmb c (P.map f) u=_;rw[i];(first|lia|omega)
def PV{R:List Vc}{P:List Nat}{M:Nat}(l:1<=M)(hi:jm R)(h:Ech P f)(b:P.Pairwise (·<·))(d:∀r∈R,Sp (P.map f) r)(o:P.length=R.length)(hb:∀r∈R,∀p∈P,(r p).natAbs<=M){p:Nat}(hp:p∈P):(f p p).natAbs<=R.length*((2*R.length*M) ^ (R.length-1)*M):=by
 have j:P.Nodup:=b.imp fun h=>Az h;obtain⟨c,s,e,g,i⟩:=KH l hb o j (FJ hi h b d) hp;have hd:=ki h b hp (Sp.cmb c R d) fun q hq a=>g q hq (Az a);have:=Nat.le_of_dvd (Ib e) (Int.natAbs_dvd_natAbs.mpr hd);exact Ag this (ua c R i fun r hr=>hb r hr p hp)
end
end Tb
end
section
namespace Tb
structure GI(x y:Int)(t0 t1 t2 l0 l1 l2:Int):Prop where
 t:t0=t1*x+t2*y
 l:l0=l1*x+l2*y
 det:t1*l2-t2*l1=1\/t1*l2-t2*l1=-1
 tp:0<t0
 lp:0<=l0
 s1:(0<=t1/\l1<=0)\/(t1<=0/\0<=l1)
 s2:(0<=t2/\l2<=0)\/(t2<=0/\0<=l2)
 m1:l1.natAbs*t0.natAbs+t1.natAbs*l0.natAbs=y.natAbs
 m2:l2.natAbs*t0.natAbs+t2.natAbs*l0.natAbs=x.natAbs
 b1:t1.natAbs<=y.natAbs
 b2:t2.natAbs<=x.natAbs
def GI.start{x y:Int}(hx:0<x)(hy:0<y):GI x y x 1 0 y 0 1:=
 ⟨ω,ω,ω,hx,ω,.inl ⟨ω,ω⟩,.inr ⟨ω,ω⟩,by simp,by simp,ω,ω⟩
def KM{a b q:Int}(hq:0<=q)(h:(0<=a/\b<=0)\/(a<=0/\0<=b)):(a-q*b).natAbs=a.natAbs+q.natAbs*b.natAbs:=by
 have e:(q*b).natAbs=q.natAbs*b.natAbs:=AK ..;rcases h with ⟨h1,h2⟩|⟨h1,h2⟩
 ·have:q*b<=0:=Int.mul_nonpos_of_nonneg_of_nonpos hq h2
  (first|lia|omega)
 ·have:0<=q*b:=Int.mul_nonneg hq h2
  (first|lia|omega)
def GI.next{x y f r s c i j:Int}(g:GI x y f r s c i j)(h:c≠0):GI x y c i j (f-f / c*c) (r-f / c*i) (s-f / c*j)/\f-f / c*c<c:=by
 have p:0<c:=by have:=g.lp;(first|lia|omega)
 have o:0<=f / c:=Int.ediv_nonneg (Int.le_of_lt g.tp) g.lp;have em:f-f / c*c=f%c:=by have:=Int.emod_add_mul_ediv f c;rw[Bb] at this;(first|lia|omega)
 have v:0<=f%c:=Int.emod_nonneg _ h;have w:f%c<c:=Int.emod_lt_of_pos _ p;have k1:=KM o g.s1;have k2:=KM o g.s2;have u:∀{a b n:Nat},b*f.natAbs+a*c.natAbs=n->(a+(f / c).natAbs*b)*c.natAbs+b*(f-f / c*c).natAbs=n:=fun{a b n} e=>by
  have e1:(f-f / c*c).natAbs+(f / c).natAbs*c.natAbs=f.natAbs:=by
   have:(f / c*c).natAbs=(f / c).natAbs*c.natAbs:=AK ..;have:0<=f / c*c:=Int.mul_nonneg o g.lp;have:=g.tp;(first|lia|omega)
  rw[<-e,<-e1,Nat.add_mul,Nat.mul_add,AO,Nat.mul_left_comm b];(first|lia|omega)
 refine⟨⟨g.l,?_,?_,p,ω,?_,?_,?_,?_,?_,?_⟩,ω⟩
 ·have e1:=g.t
  have e2:=g.l;generalize f / c=q;rw[Int.sub_mul,Int.sub_mul,AW,AW];have:q*c=q*(i*x)+q*(j*y):=by rw[e2,Int.mul_add]
  (first|lia|omega)
 ·have d:=g.det
  generalize f / c=q;rw[Int.mul_sub,Int.mul_sub,Int.mul_left_comm i q j,Int.mul_left_comm j q i,Bb j i,Bb i s,Bb j r];(first|lia|omega)
 ·rcases g.s1 with ⟨h1,h2⟩|⟨h1,h2⟩
  ·have:f / c*i<=0:=Int.mul_nonpos_of_nonneg_of_nonpos o h2
   exact .inr ⟨h2,ω⟩
  ·have:0<=f / c*i:=Int.mul_nonneg o h2
   exact .inl ⟨h2,ω⟩
 ·rcases g.s2 with ⟨h1,h2⟩|⟨h1,h2⟩
  ·have:f / c*j<=0:=Int.mul_nonpos_of_nonneg_of_nonpos o h2
   exact .inr ⟨h2,ω⟩
  ·have:0<=f / c*j:=Int.mul_nonneg o h2
   exact .inl ⟨h2,ω⟩
 ·rw[k1];exact u g.m1
 ·rw[k2];exact u g.m2
 ·have:=g.m1
  have h1:i.natAbs*1<=i.natAbs*f.natAbs:=Ak _ (by have:=g.tp;(first|lia|omega));(first|lia|omega)
 ·have:=g.m2
  have h1:j.natAbs*1<=j.natAbs*f.natAbs:=Ak _ (by have:=g.tp;(first|lia|omega));(first|lia|omega)
def GI.le{x y c d e f a b:Int}(g:GI x y c d e f a b):a.natAbs<=y.natAbs/\b.natAbs<=x.natAbs:=by
 have h1:a.natAbs*1<=a.natAbs*c.natAbs:=Ak _ (by have:=g.tp;(first|lia|omega));have h2:b.natAbs*1<=b.natAbs*c.natAbs:=Ak _ (by have:=g.tp;(first|lia|omega));have:=g.m1;have:=g.m2;(first|lia|omega)
end Tb
end
section
namespace K27
open PySem L2
abbrev FK:Stmt:=top 45
section
variable{P:Program}{w:World}{K:Ab}{mg:Str->Option Value}{base:Heap}
def KN:Sp:=fun vs H Q _=>∃(r:Addr)(rn:List Int)(k:Nat),vs=[.ref r]/\H r=some (.lst (rn.map V.int))/\(∀i,i<k->rn[i]?=some 0)/\(∃x,rn[k]?=some x/\x≠0)/\Q (.int k) H
def Ig:zl ["row","place"] ["row"] (zd FK):=⟨rfl,rfl,rfl,δ,rfl,δ,δ⟩
def PX{f:Addr}{fd:FuncData}(F:Fun K "first_place" "first_place" FK f fd):FnOk P w K mg base aJ 1 f fd ["row"] KN:=by
 refine F.ok Ig (fun vs H Q E h=>?_) (fun o A outer s H vs Q E hr h=>?_)
 ·obtain⟨r,rn,k,rfl,_⟩:=h;rfl
 ·obtain⟨r,rn,k,rfl,h1,g,⟨x,hx,l⟩,hq⟩:=h
  refine⟨_,za (zr (i:=1) Ig.nd rfl (Or.inl rfl) zb)
   (za (B9 PassesOwn.never (zx c6 (zy zB (pv 0) (pv 1) (fun _ _=>rfl)) zb (ar _))
    (zf (zr (i:=1) Ig.nd rfl (Or.inl rfl) (zF eU (pv 1) zb))))
   (zf (zo (pv 1)))),?_⟩
  refine⟨fun n σ a=>∃i:Nat,n=k-i/\i<=k/\σ=[some (.ref r),some (.int i)]/\a=H,⟨_,0,rfl,ω,rfl,rfl⟩,?_⟩;rintro n σ a ⟨i,rfl,hi,rfl,rfl⟩;obtain⟨y,hy,e⟩:∃y,rn[i]?=some y/\(y=0↔i<k):=by
   rcases Be i k with c|c
   ·exact⟨0,g i c,by simp[c]⟩
   ·have:i=k:=ω
    subst this;exact⟨x,hx,by simp[l]⟩
  refine⟨_,rfl,_,rfl,r,_,_,_,rfl,rfl,SqL.of h1,zh (j:=i) (v:=V.int y) (by rw[Aj,hy];rfl),rfl,_,rfl,?_⟩
  by_cases c:i<k
  ·rw[show decide (V.int y=V.int 0)=true by rw[e.mpr c];rfl]
   refine aT ⟨fun b H'=>∃d,d<k-i/\∃i:Nat,d=k-i/\i<=k/\b=[some (.ref r),some (.int i)]/\H'=a,fun b H' h=>h,?_⟩;exact⟨_,rfl,_,_,rfl,rfl,k-(i+1),ω,i+1,rfl,ω,rfl,rfl⟩
  ·rw[show decide (V.int y=V.int 0)=false from decide_eq_false fun z=>c (e.mp (by injection z))]
   have:i=k:=ω
   subst this;exact av ⟨_,rfl,hq⟩
end
end K27
end
section
namespace K27
open PySem L2
abbrev uu:Stmt:=top 46
def PY:A9 "tuple"=some (.type "tuple"):=δ
section
variable{P:Program}{w:World}{K:Ab}{mg:Str->Option Value}{base:Heap}
def PZ{H2:Hp}{r o D:Addr}{rn on:List Int}{f:Int->Int->Int}{te:TE}{c:List (Option V)}{Q:VK}(v:∀(a b:Int)(H:Hp)(R:VK),a∈rn->b∈on->R (.int (f a b)) H->te (some (.int a)::some (.int b)::c) H R)(h1:H2 r=some (.tup (rn.map V.int)))(h2:H2 o=some (.tup (on.map V.int)))(n2:on.length<=1000)(s:H2 D=none)(k:∀d,Same H2 d->d D=some (.lst ((AA f rn on).map V.int))->Q (.ref D) d):cV (Em K r o) (cb K 2 (cr (zR 0) (cr (zR 1) b_))) bR te (none::none::c) H2 D Q:=by
 refine O6 (K:=K) (xs:=rn.map V.int) (ys:=on.map V.int) (fun i σ zs d=>∃j l,σ=j::l::c/\Same H2 d/\d D=some (.lst zs)/\zs=((AA f rn on).take i).map V.int)
  ⟨none,none,rfl,Same.new s,al,rfl⟩ (fun i σ zs d ⟨_,_,_,sm,_⟩=>⟨SqT.of (sm _ _ h1),SqT.of (sm _ _ h2)⟩) ?_ ?_
 ·rintro i σ zs d u w x e1 e2 hi hz ⟨j,l,rfl,g,h,rfl⟩ e
  obtain⟨p,g1,rfl⟩:=gm e1;obtain⟨q,g2,rfl⟩:=gm e2;refine⟨u,_,rfl,SqT.of al,rfl,_,_,rfl,_,_,rfl,rfl,fX ?_⟩;refine v p q _ _ (An g1) (An g2) (bZ (Ag (Nat.min_le_right _ _) (by rw[Aa];exact zm ω)) hi hz (by rw[aq (zn h e)];exact h) ⟨_,_,rfl,?_,al,?_⟩)
  ·exact(g.then (g.free e)).then s
  ·have e3:(AA f rn on)[i]?=some (f p q):=by rw[List.getElem?_zipWith,g1,g2]
   rw[take_snoc e3,Aw];rfl
 ·rintro σ zs d ⟨j,l,rfl,g,h,rfl⟩
  refine k d g ?_;rw[h,Ax (by simp)]
abbrev Tr(H:Hp)(p:Addr)(a b c:Int):Prop:=H p=some (.tup [.int a,.int b,.int c])
def KO:Sp:=fun vs H Q _=>∃x y:Int,vs=[.int x,.int y]/\0<x/\0<y/\x.natAbs<2 ^ 9000/\y.natAbs<2 ^ 9000/\
 ∀r p q H' a b c d e,Same H H'->H' r=some (.tup [.ref p,.ref q])->Tr H' p a b c->Tr H' q 0 d e->Tb.GI x y a b c 0 d e->Q (.ref r) H'
def mn:zl ["one","other","told","left","often","rest"] ["one","other"] (zd uu):=⟨rfl,rfl,rfl,δ,rfl,δ,δ⟩
def P0{f:Addr}{fd:FuncData}(F:Fun K "divisor_pair" "divisor_pair" uu f fd)(bz:mg "zip"=none)(bt:mg "tuple"=none):FnOk P w K mg base aJ 1 f fd ["one","other"] KO:=by
 refine F.ok mn (fun vs H Q E h=>?_) (fun ah A outer s H vs Q E hr h=>?_)
 ·obtain⟨x,y,rfl,_⟩:=h;rfl
 ·obtain⟨x,y,rfl,x0,y0,Z,yb,k⟩:=h
  refine⟨_,za (zr (i:=2) mn.nd rfl (Or.inl rfl) (fE (af (pv 0) (af zb (af zb ak)))))
   (za (zr (i:=3) mn.nd rfl (Or.inl rfl) (fE (af (pv 1) (af zb (af zb ak)))))
   (za (B9 PassesOwn.never (zx dB (zy zE (pv 3) zb (fun _ _=>rfl)) zb (ar _))
    (za (zr (i:=4) mn.nd rfl (Or.inr rfl) (zF E9 (zy zE (pv 2) zb (fun _ _=>rfl)) (zy zE (pv 3) zb (fun _ _=>rfl))))
    (za (zr (i:=5) mn.nd rfl (Or.inl rfl) (j7 Ob rfl bt PY (af (zp ["one","other","told","left","often","rest"] ["high","low","often"] [none,none,some 4] (O2 rfl bz kf (af (pv 2) (af (pv 3) ak)))
     (fun U C s₀ H₀ ex=>gG rfl (zJ (zk (i:=0) (bx ["high","low","often"]) rfl (Or.inl rfl)) (zJ (zk (i:=1) (bx ["high","low","often"]) rfl (Or.inl rfl)) gF))) (fun U C s₀ H₀ ex=>zz)
     (fun U C s₀ H₀ ex=>zF fD (pv 0) (zF t4 (pv 2) (pv 1))) (te:=cq (fy fun i j=>.int (i-j)) (aC 0) (cq (rI ey fun i j=>.int (i*j)) (aC 2) (aC 1))) (hfr:=bM (zd uu) δ) (g:=cb K 2 (cr (zR 0) (cr (zR 1) b_)))) ak)))
    (za (zr (i:=2) mn.nd rfl (Or.inl rfl) (pv 3))
    (zf (zr (i:=3) mn.nd rfl (Or.inl rfl) (pv 5)))))))
   (zf (zo (fE (af (pv 2) (af (pv 3) ak))))))),?_⟩
  refine⟨_,rfl,zm (show 3<=100000 from ξ),fun T v=>⟨_,rfl,zm (show 3<=100000 from ξ),fun L l=>?_⟩⟩;have pY:T≠L:=zn al l;refine⟨fun n σ M=>∃(T L:Addr)(e r u d p q:Int)(G I:Option V),n=d.natAbs/\σ=[some (.int x),some (.int y),some (.ref T),some (.ref L),G,I]/\Same H M/\Tr M T e r u/\Tr M L d p q/\Tb.GI x y e r u d p q/\e.natAbs<2 ^ 9000/\d.natAbs<2 ^ 9000,
   ⟨_,T,L,x,1,0,y,0,1,none,none,rfl,rfl,(Same.new v).trans (Same.new l),(by show upd _ L _ T=_;rw[aq pY];exact al),al,Tb.GI.start x0 y0,Z,yb⟩,?_⟩
  clear l pY;clear v T L;rintro n σ M ⟨T,L,e,r,u,d,p,q,G,I,rfl,rfl,sm,v,l,g,tb,J⟩;refine⟨_,rfl,L,_,_,_,rfl,rfl,SqT.of l,zh (j:=0) rfl,rfl,_,rfl,?_⟩
  by_cases c:d=0
  ·rw[show(!decide (V.int d=V.int 0))=false by rw[c];rfl]
   subst c;refine av ⟨_,rfl,_,rfl,zm (show 2<=100000 from ξ),fun R O=>?_⟩;have S:=Same.new (o:=.tup [.ref T,.ref L]) O;exact k R T L _ e r u p q (sm.trans S) al (S _ _ v) (S _ _ l) g
  ·rw[show(!decide (V.int d=V.int 0))=true by rw[decide_eq_false (fun z=>c (by injection z))];rfl]
   obtain⟨g2,lt⟩:=g.next c;have vH:0<d:=by have:=g.lp;(first|lia|omega)
   have q0:0<=e / d:=Int.ediv_nonneg (Int.le_of_lt g.tp) g.lp;have CJ:(e / d).natAbs<=e.natAbs:=Int.natAbs_ediv_le_natAbs _ _;have jK:=g.le;refine aT ⟨fun W H'=>∃Y,Y<d.natAbs/\∃(T L:Addr)(e r u d p q:Int)(G I:Option V),Y=d.natAbs/\W=[some (.int x),some (.int y),some (.ref T),some (.ref L),G,I]/\Same H H'/\Tr H' T e r u/\Tr H' L d p q/\Tb.GI x y e r u d p q/\e.natAbs<2 ^ 9000/\d.natAbs<2 ^ 9000,fun W H' h=>h,?_⟩;refine⟨_,rfl,T,_,_,_,rfl,rfl,SqT.of v,zh (j:=0) rfl,_,rfl,L,_,_,_,rfl,rfl,SqT.of l,zh (j:=0) rfl,_,_,rfl,rfl,⟨vH,J⟩,?_⟩;refine⟨_,rfl,_,rfl,T,L,rfl,⟨_,SqT.of v⟩,⟨_,SqT.of l⟩,fun D hD=>zw (PZ (rn:=[e,r,u]) (on:=[d,p,q]) (f:=fun a b=>a-e / d*b) (fun a b H' R _ hb O=>?_) v l (by simp) hD fun H4 X bI=>?_)⟩
   ·refine⟨_,rfl,_,rfl,_,rfl,_,_,rfl,rfl,⟨9000,9000,Aq CJ tb,?_,ξ⟩,_,_,rfl,rfl,O⟩
    simp at hb;rcases hb with rfl|rfl|rfl
    ·exact J
    ·exact Aq jK.1 yb
    ·exact Aq jK.2 Z
   ·refine⟨D,_,rfl,.inl ⟨SqL.of bI,fun N hN=>?_⟩⟩
    have s5:=Same.new (o:=.tup (([e-e / d*d,r-e / d*p,u-e / d*q]:List Int).map V.int)) hN;refine⟨_,rfl,_,rfl,(e-e / d*d).natAbs,by have:=g2.lp;(first|lia|omega),L,N,d,p,q,_,_,_,_,_,rfl,rfl,(sm.trans X).trans s5,(X.trans s5) _ _ l,al,g2,J,?_⟩;have:=g2.lp;exact Nat.lt_trans ω J
end
end K27
end
section
namespace STb
open PySem PySem.SetTable PyProof.Rows cF PySem.W
section
variable{prog:Program}{w:World}{A:Around}{E:Ω}{s:Shared}{S:Addr}
def P4{T:String}{r d:Addr}{n:Nat}{P:Nat->Value->Prop}{j:Heap->Prop}{R:List Value->Shared->Prop}(K:KdlSrc prog w T r d n P j)(p:A.handled=none)(i:j s.heap)(u:n<=sizeLine)(h:∀(h':Heap)(tk:Nat)(acc:Array Value),s⁻¹<=h'.objs.size->(∀b o,s.heap.get? b=some o->h'.get? b=some o)->ItemsOf P acc n->R acc.toList {s with heap:=h',toks:=tk}):wpAny (model prog w) A (collect (.ref r)) R E s:=by
 obtain⟨hr,hd⟩:=K.there _ i;unfold collect;refine Ae (wpAny_runValue (codeAny_builtin entry_proto_collect' ?_));rw[Around.under_plainId PySem.F.plain_proto_collect _];show wpAny _ A.in1 (do again (.builtin "list.__iadd__" ⟨[<-newList [],.ref r],[]⟩)) _ _ s;refine Ae (wpAny_newObj_type (Ap ⟨plainId_quiet PySem.F.plain_list_iadd _,codeAny_builtin entry_list_iadd' ?_⟩));rw[Around.under_plainId PySem.F.plain_list_iadd _];show wpAny _ A.in1 (Builtin.List.listExtendWith (.ref s⁻¹) (.ref r) (.ref s⁻¹)) _ _ _;have fin:∀(h':Heap)(tk:Nat)(acc:Array Value)(c:Nat),(∀b o,s.heap.get? b=some o->h'.get? b=some o)->h'.get? s⁻¹=some {cls:=.type "list",dict:=none,data:=.seq acc c,slots:=#[]}->ItemsOf P acc n->
   wpAny (model prog w) A (do match (<-load s⁻¹).data with
    |.seq xs _=>pure xs.toList
    |_=>unsupported "internal:collect") R E {s with heap:=h',toks:=tk}:=fun h' tk acc c hk a g=>Ae (wpAny_load a (Ap (h h' tk acc (Nat.le_of_lt (Ao a)) hk g)))
 refine wpAny_mono (kdl_extend (A:=A) (s:={s with heap:=s.heap.push {cls:=.type "list",data:=.seq ([]:List Value).toArray}})
  (R:=fun q s'=>∃h' tk acc c,q=Except.ok (Flow.ret (.ref s⁻¹))/\s'={s with heap:=h',toks:=tk}/\(∀b o,s.heap.get? b=some o->h'.get? b=some o)/\h'.get? s⁻¹=some {cls:=.type "list",dict:=none,data:=.seq acc c,slots:=#[]}/\ItemsOf P acc n)
  K p (K.keep _ _ i fun b _ o e=>Ai _ e) s⁻¹ (Nat.ne_of_gt hr) (Nat.ne_of_gt hd) (.ref s⁻¹) 0 (AG _ rfl)
  (fun h' tk acc c hk a g=>⟨h',tk,acc,c,rfl,rfl,fun b o e=>hk b o (Az (Ao e)) (Ai _ e),a,g⟩) u) (fun f s' x=>?_) fun e s' x=>?_
 ·cases f with
  |done f=>
   obtain⟨h',tk,acc,c,e,rfl,hk,a,g⟩:=x;cases e;exact fin h' tk acc c hk a g
  |again c₁=>
   refine⟨x.1,codeAny_mono x.2 fun q v y=>?_⟩;obtain⟨h',tk,acc,c,rfl,rfl,hk,a,g⟩:=y;exact fin h' tk acc c hk a g
 ·obtain⟨_,_,_,_,l,_⟩:=x
  cases l
end
end STb
namespace L2
open PySem PySem.Spec PyProof.Rows
section
variable{X:Cx}
def P5{ns:List Int}{a:List Value}{out:List Value}(hi:IntsAre a ns)(d:cF.Out (ns.map fun n=>[n]) a out):∃ms:List Int,Vals (ms.map V.int) out/\ms.Perm ns/\ms.Pairwise (·<=·):=by
 obtain⟨ps,hp,d,f⟩:=d;have j:a.length=ns.length:=hi.length;have all:∀p∈ps,∃n t,p.1=[n]/\p.2=Value.int n t:=fun p b=>by
  obtain⟨i,e⟩:=List.mem_iff_getElem?.mp (hp.mem_iff.mp b);rw[cF.cY,Aj] at e;cases e1:ns[i]? with
  |none=>rw[e1] at e;simp at e
  |some n=>
   obtain⟨t,e2⟩:=hi.get i n e1;rw[e1,e2] at e;simp only[Option.map_some,Option.bind_some,Option.some.injEq] at e;subst e;exact⟨n,t,rfl,rfl⟩
 have g:∀ps:List (List Int×Value),(∀p∈ps,∃n t,p.1=[n]/\p.2=Value.int n t)->Vals ((ps.map fun p=>p.1.headD 0).map V.int) (ps.map (·.2)):=by
  intro ps
  induction ps with
  |nil=>intro _;exact .nil
  |cons p ps ih=>
   intro h;obtain⟨n,t,e1,e2⟩:=h p AF;refine .cons ?_ (ih fun q hq=>h q (AD _ hq));show RelV (V.int (p.1.headD 0)) p.2;rw[e1,e2];exact⟨t,rfl⟩
 refine⟨ps.map fun p=>p.1.headD 0,by rw[d];exact g ps all,?_,?_⟩
 ·have h1:=hp.map (fun p:List Int×Value=>p.1.headD 0)
  have e:((ns.map fun n=>[n]).zip a).map (fun p:List Int×Value=>p.1.headD 0)=ns:=by
   rw[show(fun p:List Int×Value=>p.1.headD 0)=(fun l:List Int=>l.headD 0) ∘ Prod.fst from rfl,<-AT,List.map_fst_zip (by rw[Aa];lia),AT];exact List.map_id' ns
  rw[e] at h1;exact h1
 ·rw[List.pairwise_map]
  refine f.imp_of_mem fun{p q} h1 h2 c=>?_;obtain⟨n,t,e1,_⟩:=all p h1;obtain⟨m,t',e2,_⟩:=all q h2;rw[e1,e2,HT.rg] at c;rw[e1,e2];show n<=m
  by_cases e:m=n
  ·lia
  ·rw[if_neg e] at c
   have:=of_decide_eq_false c
   lia
end
end L2
end
section
namespace STb
open PySem PySem.SetTable PyProof.Rows cF PySem.W
section
variable{prog:Program}{w:World}{A:Around}{E:Ω}{s:Shared}
def P6{T:String}{r d:Addr}{n:Nat}{P:Nat->Value->Prop}{l:Heap->Prop}{ns:List Int}{Q:Ω}(K:KdlSrc prog w T r d n P l)(u:A.handled=none)(f:l s.heap)(v:n<64)(hi:∀acc:Array Value,ItemsOf P acc n->IntsAre acc.toList ns)(h:∀(D:Addr)(h':Heap)(tk e:Nat)(j:List Value)(out:Array Value),s⁻¹<=D->(∀b o,s.heap.get? b=some o->h'.get? b=some o)->h'.get? D=some (seqObj "list" out e)->IntsAre j ns->Out (ns.map fun n=>[n]) j out.toList->Q (.ref D) {s with heap:=h',toks:=tk}):wpAny (model prog w) A (call (.builtin "sorted") [.ref r]) Q E s:=by
 refine Calls.call_function_entry kind_sorted plain_sorted entry_sorted (args_sorted1 _) ?_;unfold Builtin.«sorted»;refine Ae (m:=checkCount "sorted" 1 1 _) (Ap ?_);refine Ae (P4 (A:=A.in1) K u f (by rw[sizeLine_eq];(first|lia|omega)) fun h' tk acc a hk g=>?_);have hi:=hi acc g;have i:acc.toList.length=n:=by rw[Array.length_toList];exact g.1
 refine Ae (wpAny_newList ?_ (by rw[i,sizeLine_eq];(first|lia|omega)));have c:(h'.push (seqObj "list" acc.toList.toArray 0)).get? h'.objs.size=some (seqObj "list" acc.toList.toArray 0):=AG _ rfl;refine Ae (wpAny_holding (wpAny_call_entry slot_list_sort ⟨_,c,rfl⟩ entry_list_sort (Pq (s:={s with heap:=h'.push (seqObj "list" acc.toList.toArray 0),toks:=tk}) (good:=fun _=>True) c (Pn hi) (fun _ _=>trivial) (by rw[i,sizeLine_eq];(first|lia|omega)) ω fun out p=>⟨_,rfl,?_⟩) (args_list_sort _)));obtain⟨e,q⟩:=sortedHeap_at (out:=out) c;refine Ap ⟨_,rfl,h h'.objs.size _ tk e acc.toList out a (fun b o e=>?_) q hi p⟩;have hb:b<h'.objs.size:=Ao (hk b o e);rw[sortedHeap_old (Az hb) (by rw[size_push'];exact Nat.lt_succ_of_lt hb)];exact Ai _ (hk b o e)
end
end STb
namespace L2
open PySem PySem.Spec PyProof.Rows
section
variable{X:Cx}
abbrev dZ(ps:List (Int×V)):HO:=.dK (ps.map fun p=>(Sum.inl p.1,p.2))
def ints_of{ps:List (Int×V)}:∀{m:List (Key×Value)}{a:List Value},KV (ps.map fun p=>((Sum.inl p.1:Key),p.2)) m->a.length=m.length->(∀(i:Nat) v,a[i]?=some v->∃k x,m[i]?=some (k,x)/\(ea X.prog X.w).is k v=true)->IntsAre a (ps.map (·.1)):=by
 induction ps with
 |nil=>
  intro m a q h1 _;cases q;cases a with
  |nil=>exact .nil
  |cons _ _=>simp at h1
 |cons p ps ih=>
  intro m a q h1 h2;cases q with
  |@cons _ q' _ qs hq t=>
   cases a with
   |nil=>simp at h1
   |cons v a=>
    obtain⟨k,x,g1,g2⟩:=h2 0 v rfl;simp only[List.getElem?_cons_zero,Option.some.injEq] at g1;have hk:(Sum.inl p.1:Key)=k:=by rw[g1] at hq;exact hq.1
    subst hk;obtain⟨t',e2⟩:∃t',v=Value.int p.1 t':=O7 g2;subst e2;exact .cons _ _ (ih t (by simpa using h1) fun i v e=>by simpa using h2 (i+1) v (by simpa using e))
def uw(hc:X.calm=true):iu X (.builtin "sorted") (fun xs H Q=>∃a ps,xs=[.ref a]/\H a=some (dZ ps)/\ps.length<64/\∀(D:Addr)(ms:List Int),ms.Perm (ps.map (·.1))->ms.Pairwise (·<=·)->H D=none->Q (.ref D) (upd H D (.lst (ms.map V.int)))):=by
 intro aa s σ H xs us Q I r h;obtain⟨a,ps,rfl,hq,hz,q⟩:=h;obtain⟨u,rfl,p⟩:=vals1 r;cases p;obtain⟨z,y,vs,d,dd⟩:=Kd I.hok hq;obtain⟨ep,dd⟩:=dd.dictAt;have E:ps.length=vs.length:=by simpa using d.length
 refine STb.P6 (ns:=ps.map (·.1)) (PySem.W.kdl_dict (knd:=ea X.prog X.w) (kvs:=vs) (ep:=ep) y) (I.ok.hd hc) dd ω (fun acc it=>ints_of (X:=X) d (by simpa using it.1) fun i v e=>it.2 i v (by simpa using e)) fun D h' tk e C out c g j hi l=>?_;obtain⟨ks,x,f,A⟩:=P5 hi l;have hk:ks.length=ps.length:=by simpa using f.length_eq
 refine⟨.ref D,_,I.laid (o:=.lst (ks.map V.int)) (fun b u e=>g b u e) c (show zar X.prog X.w _ _ _ (.lst (ks.map V.int)) from⟨by rw[Aa,sizeLine_eq];(first|lia|omega),out.toList,e,x,by simpa using j⟩),rfl,q _ _ f A (I.hok.fresh c)⟩
end
end L2
end
section
namespace L2
open PySem PySem.Spec PyProof.Rows
section
variable{X:Cx}
def P7{kvs:List (Key×V)}(c:(kvs.map (·.1)).Nodup){k:Key}{v:V}(h:(k,v)∈kvs):b5 kvs k=some v:=by
 unfold b5
 induction kvs with
 |nil=>cases h
 |cons a r ih=>
  rw[AV,List.nodup_cons] at c;rcases List.mem_cons.mp h with e|e
  ·subst e
   simp
  ·have b:a.1≠k:=fun z=>c.1 (by rw[z];exact List.mem_map_of_mem (f:=(·.1)) e)
   rw[List.find?_cons_of_neg (by simpa using b)];exact ih c.2 e
def P8{kvs:List (Key×V)}{k:Key}(h:∀a∈kvs,a.1≠k):b5 kvs k=none:=by
 unfold b5;rw[List.find?_eq_none.mpr fun a hk=>by simpa using h a hk]
 rfl
end
end L2
end
section
namespace K27
open PySem L2
abbrev jp:Stmt:=top 43
abbrev ez(es:List (Nat×Addr)):List (Int×V):=es.map fun e=>((e.1:Int),V.ref e.2)
structure Fnd(H:Hp)(a:Addr)(es:List (Nat×Addr))(fr:Nat->List Int):Prop where
 at_:H a=some (dZ (ez es))
 nd:(es.map (·.1)).Nodup
 rows:∀e∈es,H e.2=some (.lst ((fr e.1).map V.int))
def Fnd.same{H H':Hp}{a:Addr}{es:List (Nat×Addr)}{fr:Nat->List Int}(h:Fnd H a es fr)(s:Same H H'):Fnd H' a es fr:=⟨s _ _ h.at_,h.nd,fun e b=>s _ _ (h.rows e b)⟩
def P9{c d:Type}{f:c->d}{l:List c}(g:∀a b,f a=f b->a=b)(h:l.Nodup):(l.map f).Nodup:=by
 rw[List.Nodup,List.pairwise_map];exact h.imp fun n e=>n (g _ _ e)
def Fnd.get{H:Hp}{a:Addr}{es:List (Nat×Addr)}{fr:Nat->List Int}(h:Fnd H a es fr){p:Nat}(hp:p∈es.map (·.1)):∃d,(p,d)∈es/\DGet H a (.int p) (some (.ref d))/\H d=some (.lst ((fr p).map V.int)):=by
 obtain⟨e,c,rfl⟩:=List.mem_map.mp hp;refine⟨e.2,c,?_,h.rows e c⟩;have:=DGet.k (k:=Sum.inl (e.1:Int)) h.at_;rw[P7 (v:=V.ref e.2) ?_ ?_] at this
 ·exact this
 ·have e2:((ez es).map fun p=>((Sum.inl p.1:Key),p.2)).map (·.1)=(es.map (·.1)).map fun n:Nat=>(Sum.inl (n:Int):Key):=by simp[ez,Function.comp_def]
  rw[e2];exact P9 (fun a b z=>by injection z with z;(first|lia|omega)) h.nd
 ·exact List.mem_map.mpr ⟨((e.1:Int),V.ref e.2),List.mem_map.mpr ⟨e,c,rfl⟩,rfl⟩
def cP(fr:Nat->List Int)(l:List Int)(p:Nat):List Int:=c7 l (l.getD p 0 / (fr p).getD p 0) (fr p)
def aU(fr:Nat->List Int)(rn:List Int)(ps:List Nat):List Int:=ps.foldl (cP fr) rn
structure kn(fr:Nat->List Int)(W:Nat)(rn:List Int)(ps:List Nat):Prop where
 len:rn.length=W
 most:W<=1000
 row:∀p∈ps,p<W/\(fr p).length=W/\Ia 0 ((fr p).getD p 0)
 mul:∀i p,ps[i]?=some p->∀x∈fr p,ey ((aU fr rn (ps.take i)).getD p 0 / (fr p).getD p 0) x
def Ih{fr:Nat->List Int}{l:List Int}{p W:Nat}(h:l.length=W)(h2:(fr p).length=W):(cP fr l p).length=W:=by
 unfold cP c7;rw[AE];(first|lia|omega)
def pc{fr:Nat->List Int}{W:Nat}:∀{ps:List Nat}{rn:List Int},rn.length=W->(∀p∈ps,(fr p).length=W)->(aU fr rn ps).length=W
 |[],_,h,_=>h
 |p::ps,rn,h,h2=>pc (ps:=ps) (Ih h (h2 p (AF ..))) fun q hq=>h2 q (AD _ hq)
def FM{fr:Nat->List Int}{rn:List Int}{ps:List Nat}{i p:Nat}(h:ps[i]?=some p):aU fr rn (ps.take (i+1))=cP fr (aU fr rn (ps.take i)) p:=by
 rw[take_snoc h];unfold aU;rw[List.foldl_append];rfl
def Ii{l on:List Int}(h:l.length=on.length):c7 l 0 on=l:=by
 unfold c7;refine AZ (by rw[AE];(first|lia|omega)) fun i h1 h2=>?_;rw[A0];(first|lia|omega)
section
variable{P:Program}{w:World}{K:Ab}{mg:Str->Option Value}{base:Heap}
def KP:Sp:=fun vs H Q _=>∃(r a pl:Addr)(rn:List Int)(es:List (Nat×Addr))(fr:Nat->List Int)(ps:List Nat)(W:Nat),vs=[.ref r,.ref a,.ref pl]/\H r=some (.lst (rn.map V.int))/\Fnd H a es fr/\H pl=some (.lst (ps.map fun p:Nat=>V.int (p:Int)))/\
 (∀p∈ps,p∈es.map (·.1))/\kn fr W rn ps/\∀D H',Same H H'->H' D=some (.lst ((aU fr rn ps).map V.int))->Q (.ref D) H'
def uC:zl ["row","found","places","left","place","often"] ["row","found","places"] (zd jp):=⟨rfl,rfl,rfl,δ,rfl,δ,δ⟩
def P_{f l:Addr}{fd o:FuncData}(F:Fun K "reduced" "reduced" jp f fd)(Fl:Fun K "less" "less" kb l o)(bl:Binds K o ["row","often","other"] [])(M:mg "less"=some (.ref l))(Gl:FnOk P w K mg base aJ 1 l o ["row","often","other"] t_):FnOk P w K mg base aJ 2 f fd ["row","found","places"] KP:=by
 refine F.ok uC (fun vs H Q E h=>?_) (fun N A outer s H vs Q E hr h=>?_)
 ·obtain⟨r,a,pl,rn,es,fr,ps,W,rfl,_⟩:=h;rfl
 ·obtain⟨r,a,pl,rn,es,fr,ps,W,rfl,h1,I,b,J,ok,k⟩:=h
  have hu:=DC hr;refine⟨_,za (zr (i:=3) uC.nd rfl (Or.inl rfl) (pv 0))
   (za (i6 PassesOwn.never rfl (zO (pv 2)) (zk (i:=4) uC.nd rfl (Or.inl rfl))
    (za (zr (i:=5) uC.nd rfl (Or.inl rfl) (zF E9 (zy zB (pv 3) (pv 4) (fun _ _=>rfl)) (zy zB (la hu (pv 1) (pv 4) (fun _ _=>rfl)) (pv 4) (fun _ _=>rfl))))
    (zf (zU (zx dB (pv 5) zb (ar _))
     (zf (zr (i:=3) uC.nd rfl (Or.inl rfl) (ze Gl hr rfl M Fl.kp bl .nil ap (af (pv 3) (af (pv 5) (af (la hu (pv 1) (pv 4) (fun _ _=>rfl)) ak)))))) zA))))
   (zf (zo (pv 3)))),?_⟩
  refine⟨_,rfl,_,rfl,pl,rfl,⟨_,SqL.of b⟩,CC (K:=K) (a:=pl) (xs:=ps.map fun p:Nat=>V.int (p:Int)) (fun i σ H2=>∃(d:Addr)(g j:Option V),σ=[some (.ref r),some (.ref a),some (.ref pl),some (.ref d),g,j]/\Same H H2/\H2 d=some (.lst ((aU fr rn (ps.take i)).map V.int)))
   ⟨r,none,none,rfl,Same.refl H,h1⟩ (fun i σ H2 _ ⟨_,_,_,_,sm,_⟩=>SqL.of (sm _ _ b)) ?_ ?_⟩
  ·rintro i x σ H2 hx ⟨d,g,j,rfl,sm,hd⟩
   obtain⟨p,hp,rfl⟩:∃p,ps[i]?=some p/\x=V.int (p:Int):=by
    rw[Aj] at hx;cases e:ps[i]? with
    |none=>rw[e] at hx;cases hx
    |some p=>rw[e] at hx;cases hx;exact⟨p,rfl,rfl⟩
   have y:=An hp;obtain⟨O,S,L⟩:=ok.row p y;obtain⟨c,hc,u,v⟩:=(I.same sm).get (J p y);have T:(aU fr rn (ps.take i)).length=W:=pc ok.len fun q hq=>(ok.row q (List.mem_of_mem_take hq)).2.1;have g1:((aU fr rn (ps.take i)).map V.int)[p]?=some (V.int ((aU fr rn (ps.take i)).getD p 0)):=by
    rw[Aj,Ad,Ac ω];rfl
   have g2:((fr p).map V.int)[p]?=some (V.int ((fr p).getD p 0)):=by
    rw[Aj,Ad,Ac ω];rfl
   refine⟨_,rfl,_,rfl,d,_,_,_,rfl,rfl,SqL.of hd,zh g1,_,rfl,_,rfl,a,_,rfl,u,_,rfl,c,_,_,_,rfl,rfl,SqL.of v,zh g2,_,_,rfl,rfl,L,?_⟩;refine⟨_,rfl,rfl,_,rfl,?_⟩
   by_cases z:(aU fr rn (ps.take i)).getD p 0 / (fr p).getD p 0=0
   ·rw[show(!decide (V.int ((aU fr rn (ps.take i)).getD p 0 / (fr p).getD p 0)=V.int 0))=false by rw[z];rfl]
    refine av ⟨d,_,_,rfl,sm,?_⟩;rw[FM hp,cP,z,Ii ω];exact hd
   ·rw[show(!decide (V.int ((aU fr rn (ps.take i)).getD p 0 / (fr p).getD p 0)=V.int 0))=true by rw[decide_eq_false (fun e=>z (by injection e))];rfl]
    refine aT ⟨_,rfl,_,rfl,_,rfl,_,rfl,a,_,rfl,u,d,c,_,_,_,rfl,hd,v,by have:=ok.most;(first|lia|omega),ok.mul i p hp,fun D U C _ G=>?_⟩;refine⟨D,_,_,rfl,sm.trans C,?_⟩;rw[FM hp];exact G
  ·rintro σ H2 ⟨d,g,j,rfl,sm,hd⟩
   rw[Aa,Ax (Af _)] at hd;exact⟨_,rfl,k d H2 sm hd⟩
end
abbrev jq:Stmt:=top 49
def uF:A9 "sorted"=some (.builtin "sorted"):=δ
structure Pls(es:List (Nat×Addr))(ps:List Nat):Prop where
 pm:ps.Perm (es.map (·.1))
 so:ps.Pairwise (·<=·)
def Pls.ints{es:List (Nat×Addr)}{ps:List Nat}(h:Pls es ps){ms:List Int}(h1:ms.Perm ((ez es).map (·.1)))(h2:ms.Pairwise (·<=·)):ms.map V.int=ps.map fun p:Nat=>V.int (p:Int):=by
 have e:ms=ps.map fun p:Nat=>(p:Int):=by
  refine List.Perm.eq_of_pairwise (le:=(·<=·)) (fun a b _ _ x y=>Int.le_antisymm x y) h2 ?_ (h1.trans ?_)
  ·rw[List.pairwise_map];exact h.so.imp fun z=>ω
  ·have:(ez es).map (·.1)=(es.map (·.1)).map fun p:Nat=>(p:Int):=by simp[ez,Function.comp_def]
   rw[this];exact(h.pm.map _).symm
 rw[e,AT];rfl
def Pls.len{es:List (Nat×Addr)}{ps:List Nat}(h:Pls es ps):ps.length=es.length:=by rw[h.pm.length_eq,Aa]
def shrL(fr:Nat->List Int):List Int->List Nat->List Int
 |_,[]=>[]
 |l,p::ps=>(l.getD p 0 / (fr p).getD p 0)::shrL fr (cP fr l p) ps
def KQ{fr:Nat->List Int}:∀{ps:List Nat}{rn:List Int}{i p:Nat},ps[i]?=some p->(shrL fr rn ps)[i]?=some ((aU fr rn (ps.take i)).getD p 0 / (fr p).getD p 0)
 |[],_,_,_,h=>by simp at h
 |q::ps,rn,0,p,h=>by simp at h;subst h;rfl
 |q::ps,rn,i+1,p,h=>by
  have:=KQ (fr:=fr) (ps:=ps) (rn:=cP fr rn q) (i:=i) (p:=p) (by simpa using h)
  simpa[shrL,aU] using this
def uI{fr:Nat->List Int}:∀{ps:List Nat}{rn:List Int},(shrL fr rn ps).length=ps.length
 |[],_=>rfl
 |q::ps,rn=>by simp[shrL,uI (ps:=ps)]
section
variable{P:Program}{w:World}{K:Ab}{mg:Str->Option Value}{base:Heap}
def Ij:Sp:=fun vs H Q _=>∃(r a:Addr)(rn:List Int)(es:List (Nat×Addr))(fr:Nat->List Int)(ps:List Nat)(W:Nat),vs=[.ref r,.ref a]/\H r=some (.lst (rn.map V.int))/\Fnd H a es fr/\Pls es ps/\es.length<64/\kn fr W rn ps/\kg H Q (shrL fr rn ps)
def pe:zl ["row","found","told","left","place","often"] ["row","found"] (zd jq):=⟨rfl,rfl,rfl,δ,rfl,δ,δ⟩
def P'{f N:Addr}{fd O:FuncData}(F:Fun K "shares_of" "shares_of" jq f fd)(bs:mg "sorted"=none)(Fl:Fun K "less" "less" kb N O)(bl:Binds K O ["row","often","other"] [])(ml:mg "less"=some (.ref N))(Gl:FnOk P w K mg base aJ 1 N O ["row","often","other"] t_):FnOk P w K mg base aJ 2 f fd ["row","found"] Ij:=by
 refine F.ok pe (fun vs H Q E h=>?_) (fun ah A outer s H vs Q E hr h=>?_)
 ·obtain⟨r,a,rn,es,fr,ps,W,rfl,_⟩:=h;rfl
 ·obtain⟨r,a,rn,es,fr,ps,W,rfl,h1,u,pls,fC,ok,k⟩:=h
  have hu:=DC hr;refine⟨_,za (zr (i:=2) pe.nd rfl (Or.inl rfl) (zS ak))
   (za (zr (i:=3) pe.nd rfl (Or.inl rfl) (pv 0))
   (za (i6 PassesOwn.never rfl (zO (zj (uw rfl) rfl bs uF (af (pv 1) ak))) (zk (i:=4) pe.nd rfl (Or.inl rfl))
    (za (zr (i:=5) pe.nd rfl (Or.inl rfl) (zF E9 (zy zB (pv 3) (pv 4) (fun _ _=>rfl)) (zy zB (la hu (pv 1) (pv 4) (fun _ _=>rfl)) (pv 4) (fun _ _=>rfl))))
    (za (zD (nZ PySem.F.plainAttrs_list PySem.F.slot_list_append PySem.F.type_list_append Dl (pv 2) (af (pv 5) ak)))
    (zf (zU (zx dB (pv 5) zb (ar _))
     (zf (zr (i:=3) pe.nd rfl (Or.inl rfl) (ze Gl hr rfl ml Fl.kp bl .nil ap (af (pv 3) (af (pv 5) (af (la hu (pv 1) (pv 4) (fun _ _=>rfl)) ak)))))) zA)))))
   (zf (zo (pv 2))))),?_⟩
  refine⟨ξ,fun T l=>⟨_,rfl,_,rfl,a,ez es,rfl,?_,(by simpa using fC),fun j ms pm so S=>⟨j,rfl,⟨_,SqL.of al⟩,?_⟩⟩⟩
  ·have:a≠T:=zn u.at_ l
   rw[aq this];exact u.at_
  rw[pls.ints pm so];have X:T≠j:=zn al S;have Y:Same H (upd (upd H T (.lst [])) j (.lst (ps.map fun p:Nat=>V.int (p:Int)))):=(Same.new l).trans (Same.new S);have DZ:=pls.len;refine CC (K:=K) (a:=j) (xs:=ps.map fun p:Nat=>V.int (p:Int)) (fun i σ H2=>∃(d:Addr)(C G:Option V),σ=[some (.ref r),some (.ref a),some (.ref T),some (.ref d),C,G]/\Same H H2/\H2 j=some (.lst (ps.map fun p:Nat=>V.int (p:Int)))/\H2 T=some (.lst (((shrL fr rn ps).take i).map V.int))/\H2 d=some (.lst ((aU fr rn (ps.take i)).map V.int))/\d≠T)
   ⟨r,none,none,rfl,Y,al,by rw[aq X];exact al,Y _ _ h1,zn h1 l⟩ (fun i σ H2 _ ⟨_,_,_,_,_,h,_⟩=>SqL.of h) ?_ ?_
  ·rintro i x σ H2 hx ⟨d,C,G,rfl,sm,U,o,hd,I⟩
   obtain⟨p,hp,rfl⟩:∃p,ps[i]?=some p/\x=V.int (p:Int):=by
    rw[Aj] at hx;cases e:ps[i]? with
    |none=>rw[e] at hx;cases hx
    |some p=>rw[e] at hx;cases hx;exact⟨p,rfl,rfl⟩
   have Z:=An hp;obtain⟨pW,fW,cd⟩:=ok.row p Z;have rR:p∈es.map (·.1):=pls.pm.mem_iff.mp Z;obtain⟨c,hc,J,L⟩:=(u.same sm).get rR;have aw:(aU fr rn (ps.take i)).length=W:=pc ok.len fun q hq=>(ok.row q (List.mem_of_mem_take hq)).2.1;have g1:((aU fr rn (ps.take i)).map V.int)[p]?=some (V.int ((aU fr rn (ps.take i)).getD p 0)):=by
    rw[Aj,Ad,Ac ω];rfl
   have g2:((fr p).map V.int)[p]?=some (V.int ((fr p).getD p 0)):=by
    rw[Aj,Ad,Ac ω];rfl
   have g3:=KQ (fr:=fr) (rn:=rn) hp;refine⟨_,rfl,_,rfl,d,_,_,_,rfl,rfl,SqL.of hd,zh g1,_,rfl,_,rfl,a,_,rfl,J,_,rfl,c,_,_,_,rfl,rfl,SqL.of L,zh g2,_,_,rfl,rfl,cd,?_⟩;refine⟨_,rfl,.inl ⟨rfl,_,SqL.of o⟩,_,rfl,T,_,_,rfl,rfl,o,by rw[sizeLine_eq,Aa,List.length_take,uI];(first|lia|omega),?_⟩;have e4:((shrL fr rn ps).take i).map V.int++[V.int ((aU fr rn (ps.take i)).getD p 0 / (fr p).getD p 0)]=((shrL fr rn ps).take (i+1)).map V.int:=by rw[take_snoc g3,Aw];rfl
   rw[e4];have v:Same H (upd H2 T (.lst (((shrL fr rn ps).take (i+1)).map V.int))):=sm.then l;have M:upd H2 T (.lst (((shrL fr rn ps).take (i+1)).map V.int)) j=some (.lst (ps.map fun p:Nat=>V.int (p:Int))):=by rw[aq X.symm];exact U
   have g:upd H2 T (.lst (((shrL fr rn ps).take (i+1)).map V.int)) d=some (.lst ((aU fr rn (ps.take i)).map V.int)):=by rw[aq I];exact hd
   have b:upd H2 T (.lst (((shrL fr rn ps).take (i+1)).map V.int)) T=some (.lst (((shrL fr rn ps).take (i+1)).map V.int)):=al;generalize upd H2 T (.lst (((shrL fr rn ps).take (i+1)).map V.int))=H3 at v M g b ⊢;refine⟨_,rfl,rfl,_,rfl,?_⟩
   by_cases z:(aU fr rn (ps.take i)).getD p 0 / (fr p).getD p 0=0
   ·rw[show(!decide (V.int ((aU fr rn (ps.take i)).getD p 0 / (fr p).getD p 0)=V.int 0))=false by rw[z];rfl]
    refine av ⟨d,_,_,rfl,v,M,b,?_,I⟩;rw[FM hp,cP,z,Ii ω];exact g
   ·rw[show(!decide (V.int ((aU fr rn (ps.take i)).getD p 0 / (fr p).getD p 0)=V.int 0))=true by rw[decide_eq_false (fun e=>z (by injection e))];rfl]
    obtain⟨c,hc,J,L⟩:=(u.same v).get rR;refine aT ⟨_,rfl,_,rfl,_,rfl,_,rfl,a,_,rfl,J,d,c,_,_,_,rfl,g,L,by have:=ok.most;(first|lia|omega),ok.mul i p hp,fun D H4 y hD bI=>?_⟩;refine⟨D,_,_,rfl,v.trans y,y _ _ M,y _ _ b,?_,(zn b hD).symm⟩;rw[FM hp];exact bI
  ·rintro σ H2 ⟨d,C,G,rfl,sm,U,o,hd,I⟩
   rw[Aa,Ax (by rw[uI];exact Af _)] at o;exact⟨_,rfl,k T H2 sm l o⟩
end
end K27
end
section
namespace Tb
def cC(N X B:Nat):Nat:=N*(B*X)
def cW(N B:Nat):Nat:=2*B*B*(1+2*B*B) ^ N
def cG(N B:Nat):Nat:=2*B*(1+N*cW N B)
def cK(N M X B:Nat):Nat:=1+cC N X B+N*(M*(1+B) ^ N*cC N X B)
def ph{a b:Nat}(c:1<=a)(hb:1<=b):1<=a*b:=Nat.mul_pos c hb
def FN{N B:Nat}(a:1<=B):1<=cG N B:=ph (ph ξ a) ω
def Rep.more{R:List Vc}{C:Nat}{v r:Vc}(h:Rep R C v):Rep (R++[r]) C v:=by
 obtain⟨c,h1,h2,e⟩:=h;have d:∀(c:List Int)(R:List Vc),c.length=R.length->∀u,cmb (c++[0]) (R++[r]) u=cmb c R u:=by
  intro c
  induction c with
  |nil=>intro R b u;rw[AI b.symm];show 0*r u+0=0;(first|lia|omega)
  |cons a c ih=>
   intro R b u;cases R with
   |nil=>simp at b
   |cons s R=>show a*s u+cmb (c++[0]) (R++[r]) u=a*s u+cmb c R u;rw[ih R (by simpa using b)]
 refine⟨c++[0],by simp[h1],fun u=>by rw[d c R h1,h2],fun x hx=>?_⟩;rcases List.mem_append.mp hx with h|h
 ·exact e x h
 ·rw[List.mem_singleton.mp h];exact Ar _
def Sp.more{R:List Vc}{v:Vc}(h:Sp R v)(S:List Vc)(a:∀r∈R,r∈S):Sp S v:=h.trans fun r hr=>Sp.mem (a r hr)
def Sp.redu{f:Nat->Vc}{S:List Vc}:∀(ps:List Nat){l:Vc},(∀p∈ps,Sp S (f p))->(Sp S l↔Sp S (a9 f ps l))
 |[],_,_=>Iff.rfl
 |p::ps,l,h=>by
  refine Iff.trans ?_ (Sp.redu ps fun q hq=>h q (.tail _ hq));exact⟨fun a=>a.sub (h p (.head _)) _,fun a=>(a.sub (h p (.head _)) (-(l p / f p p))).eq fun u=>by unfold step;rw[Int.neg_mul];(first|lia|omega)⟩
structure TS(N M X B:Nat)(R:List Vc)(P:List Nat)(f:Nat->Vc)(l:Vc)(t:Nat):Prop where
 ech:Ech P f
 srt:P.Pairwise (·<·)
 len:P.length+1=R.length
 few:R.length<=N
 fr:∀p∈P,Rep R (cK N M X B*cG N B ^ (P.filter fun p=>decide (p<t)).length) (f p)
 lr:Rep R (cK N M X B*cG N B ^ (P.filter fun p=>decide (p<t)).length) l
 gen:∀r∈R,Sp (P.map f++[l]) r
 low:∀i,i<t->l i=0
 red:∀p∈P,0<=l p/\l p<f p p
 piv:∀p∈P,(f p p).natAbs<=B
 fv:∀p∈P,∀q∈P,(f p q).natAbs<=2*B*B
 fo:∀p∈P,t<=p->∀q∈P,(f p q).natAbs<=B
def put(f:Nat->Vc)(p:Nat)(v:Vc):Nat->Vc:=fun q=>if q=p then v else f q
def zQ{f:Nat->Vc}{p:Nat}{v:Vc}:put f p v p=v:=if_pos rfl
def df{f:Nat->Vc}{p q:Nat}{v:Vc}(h:q≠p):put f p v q=f q:=if_neg h
def mix(a:Int)(v:Vc)(b:Int)(w:Vc):Vc:=fun u=>a*v u+b*w u
def TS.next{N M X B:Nat}{R:List Vc}{P:List Nat}{f:Nat->Vc}{l:Vc}{t p:Nat}{g a b c d:Int}(hB:1<=B)(T:TS N M X B R P f l t)(hp:p∈P)(A:∀i,i<p->l i=0)(p7:l p≠0)(iO:t<=p)(G:GI (f p p) (l p) g a b 0 c d):TS N M X B R P (put f p (mix a (f p) b l)) (a9 (put f p (mix a (f p) b l)) P (mix c (f p) d l)) (p+1)/\Ech P (put f p (mix a (f p) b l)):=by
 have hG:=FN (N:=N) hB;have x0:=T.ech.pos p hp;obtain⟨r0,r1⟩:=T.red p hp;have L:=T.piv p hp;obtain⟨c1,c2⟩:=G.le;have a1:a.natAbs<=B:=Ag G.b1 ω;have O:b.natAbs<=B:=Ag G.b2 L;have c1:c.natAbs<=B:=Ag c1 ω;have d1:d.natAbs<=B:=Ag c2 L;have lq:∀q∈P,(l q).natAbs<=B:=fun q hq=>by have:=T.red q hq;have:=T.piv q hq;(first|lia|omega)
 have fp:=T.fo p hp iO;have S:∀{a b:Int},a.natAbs<=B->b.natAbs<=B->∀q∈P,(mix a (f p) b l q).natAbs<=2*B*B:=fun{a b} H hb q hq=>by
  have t1:(a*f p q).natAbs<=B*B:=by rw[AK];exact AQ H (fp q hq)
  have t2:(b*l q).natAbs<=B*B:=by rw[AK];exact AQ hb (lq q hq)
  have t3:=Int.natAbs_add_le (a*f p q) (b*l q);show(a*f p q+b*l q).natAbs<=_;rw[AO];generalize B*B=Y at t1 t2 ⊢;(first|lia|omega)
 have C:mix a (f p) b l p=g:=by show a*f p p+b*l p=g;exact G.t.symm
 have g1:=G.tp;have jK:g.natAbs<=B:=by
  have U:=G.m2;rw[Int.natAbs_zero,Nat.mul_zero,Nat.add_zero] at U;rcases Nat.eq_zero_or_pos d.natAbs with z|z
  ·rw[z,Nat.zero_mul] at U;(first|lia|omega)
  ·have:1*g.natAbs<=d.natAbs*g.natAbs:=Al _ z
   (first|lia|omega)
 have j:Ech P (put f p (mix a (f p) b l)):=by
  refine⟨fun q hq i hi=>?_,fun q hq=>?_⟩
  ·by_cases e:q=p
   ·subst e;rw[zQ];show a*f q i+b*l i=0;rw[T.ech.z q hq i hi,A i hi];(first|lia|omega)
   ·rw[df e];exact T.ech.z q hq i hi
  ·by_cases e:q=p
   ·subst e;rw[zQ,C];exact g1
   ·rw[df e];exact T.ech.pos q hq
 refine⟨?_,j⟩;have D:P.length<=N:=by have:=T.len;have:=T.few;(first|lia|omega)
 generalize hK:cK N M X B*cG N B ^ (P.filter fun p=>decide (p<t)).length=K;have fr:=T.fr;have W:=T.lr;rw[hK] at fr W;have mr:∀{a b:Int},a.natAbs<=B->b.natAbs<=B->Rep R (2*B*K) (mix a (f p) b l):=fun{a b} H hb=>((fr p hp).lin W H hb).mono (by rw[AO];(first|lia|omega));have kl:K<=2*B*K:=Nat.le_mul_of_pos_left _ ω;have dF:∀q∈P,Rep R (2*B*K) (put f p (mix a (f p) b l) q):=fun q hq=>by
  by_cases e:q=p
  ·subst e;rw[zQ];exact mr a1 O
  ·rw[df e];exact(fr q hq).mono kl
 have E:∀q∈P,∀r∈P,(put f p (mix a (f p) b l) q r).natAbs<=2*B*B:=fun q hq r hr=>by
  by_cases e:q=p
  ·subst e;rw[zQ];exact S a1 O r hr
  ·rw[df e];exact T.fv q hq r hr
 obtain⟨mX,Fh⟩:=l_ dF E j.pos P (fun q hq=>hq) (mr c1 d1) (S c1 d1);have cnt:(P.filter fun q=>decide (q<t)).length+1<=(P.filter fun q=>decide (q<p+1)).length:=by
  have h1:(P.filter fun q=>decide (q<t))++[p] ⊆ P.filter fun q=>decide (q<p+1):=fun q hq=>by
   rcases List.mem_append.mp hq with h|h
   ·obtain⟨h1,h2⟩:=List.mem_filter.mp h
    have:=of_decide_eq_true h2;exact List.mem_filter.mpr ⟨h1,decide_eq_true ω⟩
   ·rw[List.mem_singleton.mp h];exact List.mem_filter.mpr ⟨hp,decide_eq_true ω⟩
  have nd:P.Nodup:=T.srt.imp fun h=>Az h;have J:((P.filter fun q=>decide (q<t))++[p]).Nodup:=by
   rw[List.nodup_append];refine⟨nd.filter _,by simp,fun x hx y hy=>?_⟩;rw[List.mem_singleton.mp hy];have:=of_decide_eq_true (List.mem_filter.mp hx).2;(first|lia|omega)
  have:=J.length_le_of_subset h1
  simpa using this
 have o:2*B*K+P.length*(2*B*B*(1+2*B*B) ^ P.length*(2*B*K))<=cG N B*K:=by
  unfold cG cW;have h1:(1+2*B*B) ^ P.length<=(1+2*B*B) ^ N:=AC ω D;generalize 2*B*B=Y at h1 ⊢;have h2:P.length*(Y*(1+Y) ^ P.length*(2*B*K))<=N*(Y*(1+Y) ^ N*(2*B*K)):=AQ D (Al _ (Ak _ h1));refine Ag (Nat.add_le_add_left h2 _) (Nat.le_of_eq ?_);generalize Y*(1+Y) ^ N=Z;generalize 2*B=Q;rw[Nat.mul_add,Nat.mul_one,Nat.add_mul,<-AO N Z,Nat.mul_comm Q (N*Z),AO (N*Z)]
 have v:cG N B*K<=cK N M X B*cG N B ^ (P.filter fun q=>decide (q<p+1)).length:=by
  rw[<-hK,Nat.mul_left_comm,<-Nat.pow_succ'];exact Ak _ (AC hG cnt)
 have two:2*B*K<=cG N B*K:=Ag (A4 _ _) o;have F:=G.det;refine⟨j,T.srt,T.len,T.few,fun q hq=>(dF q hq).mono (Ag two v),mX.mono (Ag o v),fun r hr=>?_,?_,fun q hq=>FI j T.srt q hq,fun q hq=>?_,E,fun q hq hlt r hr=>?_⟩
 ·-- fJ old rows out of fJ new ones
  have S1:∀q∈P,Sp (P.map (put f p (mix a (f p) b l))++[a9 (put f p (mix a (f p) b l)) P (mix c (f p) d l)]) (put f p (mix a (f p) b l) q):=fun q hq=>Sp.mem (AY _ (List.mem_map.mpr ⟨q,hq,rfl⟩));have S2:=(Sp.redu P (l:=mix c (f p) d l) S1).mpr (Sp.mem (Ay _ (List.mem_singleton.mpr rfl)));have Sp1:=S1 p hp;rw[zQ] at Sp1;have ef:∀{x y z w:Int},(a*d-b*c=1\/a*d-b*c=-1)->∀u,x=(a*d-b*c)*d->y=(a*d-b*c)*(-b)->x*mix a (f p) b l u+y*mix c (f p) d l u=f p u:=fun{x y z w} hd u ex I=>by
   subst ex I;show(a*d-b*c)*d*(a*f p u+b*l u)+(a*d-b*c)*(-b)*(c*f p u+d*l u)=f p u;have e:(a*d-b*c)*d*(a*f p u+b*l u)+(a*d-b*c)*(-b)*(c*f p u+d*l u)=(a*d-b*c)*(a*d-b*c)*f p u:=by
    rw[AW,AW,AW,<-Int.mul_add]
    congr 1
    rw[Int.mul_add,Int.mul_add,Int.neg_mul,Int.neg_mul,<-AW,<-AW,<-AW,<-AW,Int.sub_mul,Bb d a,Bb d b];(first|lia|omega)
   rw[e];rcases hd with h|h<;>rw[h]<;>(first|lia|omega)
  have el:∀{x y:Int},(a*d-b*c=1\/a*d-b*c=-1)->∀u,x=(a*d-b*c)*(-c)->y=(a*d-b*c)*a->x*mix a (f p) b l u+y*mix c (f p) d l u=l u:=fun{x y} hd u ex I=>by
   subst ex I;show(a*d-b*c)*(-c)*(a*f p u+b*l u)+(a*d-b*c)*a*(c*f p u+d*l u)=l u;have e:(a*d-b*c)*(-c)*(a*f p u+b*l u)+(a*d-b*c)*a*(c*f p u+d*l u)=(a*d-b*c)*(a*d-b*c)*l u:=by
    rw[AW,AW,AW,<-Int.mul_add]
    congr 1
    rw[Int.mul_add,Int.mul_add,Int.neg_mul,Int.neg_mul,<-AW,<-AW,<-AW,<-AW,Int.sub_mul,Bb c a,Bb c b];(first|lia|omega)
   rw[e];rcases hd with h|h<;>rw[h]<;>(first|lia|omega)
  have Sf:=(Sp1.lin S2 ((a*d-b*c)*d) ((a*d-b*c)*(-b))).eq (w:=f p) fun u=>(ef (z:=0) (w:=0) F u rfl rfl).symm;have Sl:=(Sp1.lin S2 ((a*d-b*c)*(-c)) ((a*d-b*c)*a)).eq (w:=l) fun u=>(el F u rfl rfl).symm;refine(T.gen r hr).trans fun s hs=>?_;rcases List.mem_append.mp hs with h|h
  ·obtain⟨q,hq,rfl⟩:=List.mem_map.mp h
   by_cases e:q=p
   ·subst e;exact Sf
   ·have:=S1 q hq
    rw[df e] at this;exact this
  ·rw[List.mem_singleton.mp h];exact Sl
 ·refine KL j fun i hi=>?_
  show c*f p i+d*l i=0
  by_cases e:i=p
  ·subst e;exact G.l.symm
  ·rw[T.ech.z p hp i ω,A i ω];(first|lia|omega)
 ·by_cases e:q=p
  ·subst e;rw[zQ,C];exact jK
  ·rw[df e];exact T.piv q hq
 ·rw[df (show q≠p from ω)];exact T.fo q hq ω r hr
def ins(q:Nat):List Nat->List Nat
 |[]=>[q]
 |p::P=>if q<p then q::p::P else p::ins q P
def mem_ins{q x:Nat}:∀{P:List Nat},x∈ins q P↔x=q\/x∈P
 |[]=>by simp[ins]
 |p::P=>by
  unfold ins;split
  ·simp
  ·rw[List.mem_cons,mem_ins,List.mem_cons]
   constructor
   ·rintro(h|h|h)
    ·exact .inr (.inl h)
    ·exact .inl h
    ·exact .inr (.inr h)
   ·rintro(h|h|h)
    ·exact .inr (.inl h)
    ·exact .inl h
    ·exact .inr (.inr h)
def Ik{q:Nat}:∀{P:List Nat},(ins q P).length=P.length+1
 |[]=>rfl
 |p::P=>by unfold ins;split<;>simp[Ik]
def KR{q:Nat}:∀{P:List Nat},P.Pairwise (·<·)->q∉P->(ins q P).Pairwise (·<·)
 |[],_,_=>by simp[ins]
 |p::P,h,hn=>by
  rw[Ba] at h;unfold ins;split
  ·rename_i hlt
   rw[Ba,Ba];refine⟨fun x hx=>?_,h⟩;rcases List.mem_cons.mp hx with rfl|hx
   ·exact hlt
   ·exact Nat.lt_trans hlt (h.1 x hx)
  ·rename_i hlt
   rw[Ba];refine⟨fun x hx=>?_,KR h.2 fun z=>hn (.tail _ z)⟩;rcases mem_ins.mp hx with rfl|hx
   ·have:x≠p:=fun z=>hn (z▸.head _)
    (first|lia|omega)
   ·exact h.1 x hx
def bH(f:Nat->Vc):List Nat->Nat->Vc
 |[]=>f
 |p::ps=>put (bH f ps) p (a9 (bH f ps) ps (f p))
section
variable{f:Nat->Vc}
def KS:∀{ps:List Nat}{q:Nat},q∉ps->bH f ps q=f q
 |[],_,_=>rfl
 |p::ps,q,h=>by
  show put (bH f ps) p _ q=f q;rw[df (show q≠p from fun z=>h (by rw[z];exact .head _)),KS fun z=>h (.tail _ z)]
def pj{p q:Nat}{ps:List Nat}(h:q≠p):bH f (p::ps) q=bH f ps q:=df h
def uP{p:Nat}{ps:List Nat}:bH f (p::ps) p=a9 (bH f ps) ps (f p):=zQ
def Il:∀{ps:List Nat},Ech ps f->ps.Pairwise (·<·)->Ech ps (bH f ps)/\∀p∈ps,bH f ps p p=f p p
 |[],_,_=>⟨⟨(fun p hp=>nomatch hp),(fun p hp=>nomatch hp)⟩,fun p hp=>nomatch hp⟩
 |p::ps,h,hs=>by
  rw[Ba] at hs;obtain⟨e1,e2⟩:=Il (h.sub fun q hq=>.tail _ hq) hs.2;have ne:∀q∈ps,q≠p:=fun q hq=>Ne.symm (Az (hs.1 q hq));have hd:bH f (p::ps) p p=f p p:=by rw[uP,FH e1 fun q hq=>hs.1 q hq]
  have tl:∀q∈ps,bH f (p::ps) q q=f q q:=fun q hq=>by rw[pj (ne q hq)];exact e2 q hq
  refine⟨⟨fun q hq i hi=>?_,fun q hq=>?_⟩,fun q hq=>?_⟩
  ·rcases List.mem_cons.mp hq with rfl|hq
   ·rw[uP,FH e1 fun r hr=>Nat.lt_trans hi (hs.1 r hr)];exact h.z q (.head _) i hi
   ·rw[pj (ne q hq)];exact e1.z q hq i hi
  ·rcases List.mem_cons.mp hq with rfl|hq
   ·rw[hd];exact h.pos q (.head _)
   ·rw[tl q hq];exact h.pos q (.tail _ hq)
  ·rcases List.mem_cons.mp hq with rfl|hq
   ·exact hd
   ·exact tl q hq
def Im:∀{ps:List Nat},Ech ps f->ps.Pairwise (·<·)->∀p∈ps,∀q∈ps,p<q->0<=bH f ps p q/\bH f ps p q<bH f ps q q
 |p::ps,h,hs,r,hr,q,hq,hlt=>by
  rw[Ba] at hs;have h':Ech ps f:=h.sub fun q hq=>.tail _ hq;obtain⟨e1,e2⟩:=Il h' hs.2;have ne:∀q∈ps,q≠p:=fun q hq=>Ne.symm (Az (hs.1 q hq));have a:q∈ps:=by
   rcases List.mem_cons.mp hq with rfl|hq
   ·rcases List.mem_cons.mp hr with rfl|hr
    ·(first|lia|omega)
    ·have:=hs.1 r hr;(first|lia|omega)
   ·exact hq
  rw[pj (ne q a)];rcases List.mem_cons.mp hr with rfl|hr
  ·rw[uP];exact FI e1 hs.2 q a
  ·rw[pj (ne r hr)];exact Im h' hs.2 r hr q a hlt
def KU:∀{ps:List Nat}{S:List Vc},ps.Nodup->(∀p∈ps,Sp S (bH f ps p))->∀p∈ps,Sp S (f p)
 |p::ps,S,nd,h,q,hq=>by
  obtain⟨n1,n2⟩:=List.nodup_cons.mp nd;have ne:∀q∈ps,q≠p:=fun q hq z=>n1 (z▸hq);have a:∀q∈ps,Sp S (bH f ps q):=fun q hq=>by have:=h q (.tail _ hq);rwa [pj (ne q hq)] at this
  rcases List.mem_cons.mp hq with rfl|hq
  ·have:=h q (.head _)
   rw[uP] at this;exact(Sp.redu ps a).mpr this
  ·exact KU n2 a q hq
def KW:∀{ps:List Nat}{S:List Vc},ps.Nodup->(∀p∈ps,Sp S (f p))->∀p∈ps,Sp S (bH f ps p)
 |p::ps,S,nd,h,q,hq=>by
  obtain⟨n1,n2⟩:=List.nodup_cons.mp nd;have a:=KW (S:=S) n2 fun q hq=>h q (.tail _ hq);rcases List.mem_cons.mp hq with rfl|hq
  ·rw[uP];exact(Sp.redu ps a).mp (h q (.head _))
  ·rw[pj (show q≠p from fun z=>n1 (z▸hq))];exact a q hq
end
structure FS(N M X B:Nat)(R:List Vc)(P:List Nat)(f:Nat->Vc):Prop where
 ech:Ech P f
 srt:P.Pairwise (·<·)
 len:P.length=R.length
 few:R.length<=N
 fr:∀p∈P,Rep R (cC N X B) (f p)
 gen:∀r∈R,Sp (P.map f) r
 red:∀p∈P,∀q∈P,p<q->0<=f p q/\f p q<f q q
 piv:∀p∈P,(f p p).natAbs<=B
def FS.start{N M X B:Nat}{f:Nat->Vc}:FS N M X B [] [] f:=
 ⟨⟨(fun p hp=>nomatch hp),(fun p hp=>nomatch hp)⟩,.nil,rfl,Ar _,(fun p hp=>nomatch hp),(fun p hp=>nomatch hp),(fun p hp=>nomatch hp),(fun p hp=>nomatch hp)⟩
def FS.fv{N M X B:Nat}{R:List Vc}{P:List Nat}{f:Nat->Vc}(F:FS N M X B R P f):∀p∈P,∀q∈P,(f p q).natAbs<=B:=fun p hp q hq=>by
 rcases Nat.lt_trichotomy p q with h|h|h
 ·have:=F.red p hp q hq h;have:=F.piv q hq;(first|lia|omega)
 ·subst h;exact F.piv p hp
 ·rw[F.ech.z p hp q h];exact Ar _
def FS.take{N M X B:Nat}{R:List Vc}{P:List Nat}{f:Nat->Vc}{r:Vc}(l:1<=B)(F:FS N M X B R P f)(b:R.length<N)(hr:∀p∈P,(r p).natAbs<=M):TS N M X B (R++[r]) P f (a9 f P r) 0:=by
 have a:P.length<=N:=by have:=F.len;(first|lia|omega)
 have c:(P.filter fun p=>decide (p<0)).length=0:=by rw[List.filter_eq_nil_iff.mpr];rfl;intro p _;simp
 obtain⟨e,o⟩:=l_ (R:=R++[r]) (fun p hp=>(F.fr p hp).more) F.fv F.ech.pos P (fun q hq=>hq) (Rep.mem (Ay R (List.mem_singleton.mpr rfl))) hr;have g:1+P.length*(M*(1+B) ^ P.length*cC N X B)<=cK N M X B:=by
  unfold cK;have h1:(1+B) ^ P.length<=(1+B) ^ N:=AC ω a;have:=AQ a (Al (cC N X B) (Ak M h1));(first|lia|omega)
 have j:cC N X B<=cK N M X B:=by unfold cK;(first|lia|omega)
 refine⟨F.ech,F.srt,by rw[AJ,F.len];rfl,by rw[AJ];exact b,fun p hp=>?_,?_,fun s d=>?_,(fun i hi=>absurd hi (Nat.not_lt_zero _)),fun p hp=>FI F.ech F.srt p hp,F.piv,fun p hp q hq=>?_,fun p hp _ q hq=>F.fv p hp q hq⟩
 ·rw[c,Nat.pow_zero,Nat.mul_one];exact(F.fr p hp).more.mono j
 ·rw[c,Nat.pow_zero,Nat.mul_one];exact e.mono g
 ·rcases List.mem_append.mp d with h|h
  ·exact(F.gen s h).more _ fun x hx=>AY _ hx
  ·rw[List.mem_singleton.mp h]
   exact(Sp.redu P fun q hq=>Sp.mem (AY _ (List.mem_map.mpr ⟨q,hq,rfl⟩))).mpr (Sp.mem (Ay _ (List.mem_singleton.mpr rfl)))
 ·refine Ag (F.fv p hp q hq) ?_
  rw[AO];have:B*1<=B*B:=Ak _ l;(first|lia|omega)
def cM(N M X B:Nat):Nat:=cK N M X B*cG N B ^ N
def cE(N M X B:Nat):Nat:=cM N M X B+N*(N*(cM N M X B*M)*(1+B) ^ N*cC N X B)
def up(l:Vc)(q:Nat):Vc:=if 0<l q then l else fun u=>-l u
def Rep.neg{R:List Vc}{C:Nat}{v:Vc}(h:Rep R C v):Rep R C fun u=>-v u:=
 ((h.lin h (k:=-1) (m:=0) (A:=1) (B:=0) ξ ξ).mono ω).eq fun u=>ω
def Sp.neg{R:List Vc}{v:Vc}(h:Sp R v):Sp R fun u=>-v u:=(h.lin h (-1) 0).eq fun u=>ω
structure Bd(N M X B:Nat)(R:List Vc):Prop where
 ind:jm R
 bd:∀(P:List Nat)(f:Nat->Vc),Ech P f->P.Pairwise (·<·)->(∀r∈R,Sp (P.map f) r)->(∀p∈P,Sp R (f p))->P.length=R.length->(∀p∈P,(f p p).natAbs<=B)/\(∀r∈R,∀p∈P,(r p).natAbs<=M)/\∀(c:List Int)(V:Nat),c.length=R.length->(∀p∈P,(cmb c R p).natAbs<=V)->∀x∈c,x.natAbs<=N*(V*X)
structure QS(N M X B:Nat)(R:List Vc)(P:List Nat)(f:Nat->Vc):Prop where
 ech:Ech P f
 srt:P.Pairwise (·<·)
 len:P.length=R.length
 few:R.length<=N
 fr:∀p∈P,Rep R (cM N M X B) (f p)
 gen:∀r∈R,Sp (P.map f) r
section
variable{N M X B:Nat}{R:List Vc}{P:List Nat}{f:Nat->Vc}
def TS.cnt{l:Vc}{t:Nat}(T:TS N M X B R P f l t)(a:1<=B):cK N M X B*cG N B ^ (P.filter fun p=>decide (p<t)).length<=cM N M X B:=
 Ak _ (AC (FN a) (Ag (List.length_filter_le _ _) (by have:=T.len;have:=T.few;(first|lia|omega))))
def TS.full{l:Vc}{t q:Nat}(e:1<=B)(T:TS N M X B R P f l t)(hq:q∉P)(a:∀i,i<q->l i=0)(g:l q≠0):QS N M X B R (ins q P) (put f q (up l q)):=by
 have ne:∀p∈P,p≠q:=fun p hp z=>hq (z▸hp);have hc:=T.cnt e;have up1:0<up l q q:=by
  unfold up;split
  ·assumption
  ·show 0 < -l q
   (first|lia|omega)
 have b:∀i,i<q->up l q i=0:=fun i hi=>by
  have:=a i hi;unfold up;split
  ·exact this
  ·show -l i=0
   (first|lia|omega)
 have c:Rep R (cM N M X B) (up l q):=by
  unfold up;split
  ·exact T.lr.mono hc
  ·exact(T.lr.mono hc).neg
 refine⟨⟨fun p hp i hi=>?_,fun p hp=>?_⟩,KR T.srt hq,by rw[Ik,T.len],T.few,fun p hp=>?_,fun r hr=>(T.gen r hr).trans fun s d=>?_⟩
 ·rcases mem_ins.mp hp with rfl|hp
  ·rw[zQ];exact b i hi
  ·rw[df (ne p hp)];exact T.ech.z p hp i hi
 ·rcases mem_ins.mp hp with rfl|hp
  ·rw[zQ];exact up1
  ·rw[df (ne p hp)];exact T.ech.pos p hp
 ·rcases mem_ins.mp hp with rfl|hp
  ·rw[zQ];exact c
  ·rw[df (ne p hp)];exact(T.fr p hp).mono hc
 ·rcases List.mem_append.mp d with h|h
  ·obtain⟨p,hp,rfl⟩:=List.mem_map.mp h
   exact Sp.mem (List.mem_map.mpr ⟨p,mem_ins.mpr (.inr hp),df (ne p hp)⟩)
  ·rw[List.mem_singleton.mp h]
   have:Sp ((ins q P).map (put f q (up l q))) (up l q):=Sp.mem (List.mem_map.mpr ⟨q,mem_ins.mpr (.inl rfl),zQ⟩);unfold up at this ⊢;split at this
   ·rename_i h;rw[if_pos h];exact this
   ·rename_i h;rw[if_neg h];exact this.neg.eq fun u=>by show l u=-(-l u);(first|lia|omega)
def QS.bd(D:Bd N M X B R)(S:QS N M X B R P f):(∀p∈P,(f p p).natAbs<=B)/\(∀r∈R,∀p∈P,(r p).natAbs<=M)/\∀(c:List Int)(V:Nat),c.length=R.length->(∀p∈P,(cmb c R p).natAbs<=V)->∀x∈c,x.natAbs<=N*(V*X):=
 D.bd P f S.ech S.srt S.gen (fun p hp=>(S.fr p hp).sp) S.len
def QS.tail(j:1<=B)(D:Bd N M X B R)(S:QS N M X B R P f){pre ps:List Nat}(e:P=pre++ps):Ech ps (bH f ps)/\(∀p∈ps,∀q∈P,(bH f ps p q).natAbs<=B)/\∀p∈ps,Rep R (cC N X B) (bH f ps p):=by
 have g:∀p∈ps,p∈P:=fun p hp=>by rw[e];exact Ay _ hp
 have a:=S.srt;rw[e,List.pairwise_append] at a;have h':Ech ps f:=S.ech.sub g;obtain⟨e1,e2⟩:=Il h' a.2.1;obtain⟨pv,hb,i⟩:=S.bd D;have bd:∀p∈ps,∀q∈P,(bH f ps p q).natAbs<=B:=fun p hp q hq=>by
  rcases Nat.lt_trichotomy p q with h|h|h
  ·have b:q∈ps:=by
    rw[e] at hq;rcases List.mem_append.mp hq with z|z
    ·have:=a.2.2 q z p hp;(first|lia|omega)
    ·exact z
   have h1:=Im h' a.2.1 p hp q b h;rw[e2 q b] at h1;have:=pv q hq;(first|lia|omega)
  ·subst h;rw[e2 p hp];exact pv p hq
  ·rw[e1.z p hp q h];exact Ar _
 refine⟨e1,bd,fun p hp=>?_⟩;have sp:Sp R (bH f ps p):=KW (a.2.1.imp fun h=>Az h) (fun q hq=>(S.fr q (g q hq)).sp) p hp;obtain⟨c,d,e⟩:=sp;exact⟨c,d,e,i c B d fun q hq=>by rw[<-e];exact bd p hp q hq⟩
def QS.met(o:1<=B)(D:Bd N M X B R)(S:QS N M X B R P f){pre ps:List Nat}{p:Nat}(e:P=pre++p::ps)(i:Nat):Rep R (cE N M X B) (a9 (bH f ps) (ps.take i) (f p)):=by
 have d:P=(pre++[p])++ps:=by rw[e];simp
 obtain⟨e1,bd,l⟩:=S.tail o D d;obtain⟨_,hb,_⟩:=S.bd D;have hp:p∈P:=by rw[e];simp
 have V:∀q∈ps,(f p q).natAbs<=N*(cM N M X B*M):=fun q hq=>by
  have g:q∈P:=by rw[d];exact Ay _ hq
  exact Ag ((S.fr p hp).le fun r hr=>hb r hr q g) (Al _ S.few)
 have c:(ps.take i).length<=N:=by
  have h1:=congrArg List.length d;rw[AJ,S.len] at h1;have:=S.few;rw[List.length_take];(first|lia|omega)
 obtain⟨r,_⟩:=l_ (P:=ps) l (fun a h b j=>bd a h b (by rw[d];exact Ay _ j)) e1.pos (ps.take i) (fun q hq=>List.mem_of_mem_take hq) (S.fr p hp) V;refine r.mono ?_;unfold cE;have h1:(1+B) ^ (ps.take i).length<=(1+B) ^ N:=AC ω c;exact Nat.add_le_add_left (AQ c (Al _ (Ak _ h1))) _
def QS.done(d:1<=B)(D:Bd N M X B R)(S:QS N M X B R P f):FS N M X B R P (bH f P):=by
 obtain⟨e1,bd,b⟩:=S.tail d D (pre:=[]) (ps:=P) rfl;have c:P.Nodup:=S.srt.imp fun h=>Az h;refine⟨e1,S.srt,S.len,S.few,b,fun r hr=>(S.gen r hr).trans fun s a=>?_,Im S.ech S.srt,fun p hp=>bd p hp p hp⟩;obtain⟨p,hp,rfl⟩:=List.mem_map.mp a;exact KU c (fun q hq=>Sp.mem (List.mem_map.mpr ⟨q,hq,rfl⟩)) p hp
end
end Tb
end
section
namespace K27
open PySem L2
def vc(l:List Int):Tb.Vc:=fun i=>l.getD i 0
def vF(fr:Nat->List Int):Nat->Tb.Vc:=fun p=>vc (fr p)
def FO{f:Int->Int->Int}(a:f 0 0=0){l on:List Int}(h:l.length=on.length):vc (AA f l on)=fun u=>f (vc l u) (vc on u):=by
 funext u
 unfold vc;rw[Ad,Ad,Ad,List.getElem?_zipWith];rcases Be u l.length with c|c
 ·rw[Ac c,Ac (h▸c)];rfl
 ·rw[List.getElem?_eq_none c,List.getElem?_eq_none (h▸c)];exact a.symm
def KY{fr:Nat->List Int}{l:List Int}{p:Nat}(h:l.length=(fr p).length):vc (cP fr l p)=Tb.step (vF fr) p (vc l):=by
 unfold cP c7;rw[FO (by simp) h]
 rfl
def pu{fr:Nat->List Int}{W:Nat}:∀{ps:List Nat}{rn:List Int},rn.length=W->(∀p∈ps,(fr p).length=W)->vc (aU fr rn ps)=Tb.a9 (vF fr) ps (vc rn)
 |[],_,_,_=>rfl
 |p::ps,rn,h,h2=>by
  have hp:=h2 p (AF ..);show vc (aU fr (cP fr rn p) ps)=Tb.a9 (vF fr) ps (Tb.step (vF fr) p (vc rn));rw[pu (ps:=ps) (Ih h hp) fun q hq=>h2 q (AD _ hq),KY ω]
def KZ{a b:Int}{l on:List Int}(h:l.length=on.length):vc (bK a l b on)=Tb.mix a (vc l) b (vc on):=by
 unfold bK;rw[FO (by simp) h]
 rfl
def Qa{l:List Int}:vc (l.map fun x=>-x)=fun u=>-vc l u:=by
 funext u
 unfold vc;rw[Ad,Ad,Aj];cases l[u]?<;>simp
def bP(fr:Nat->List Int)(p:Nat)(l:List Int):Nat->List Int:=fun q=>if q=p then l else fr q
def Io{fr:Nat->List Int}{p:Nat}{l:List Int}:vF (bP fr p l)=Tb.put (vF fr) p (vc l):=by
 funext q
 unfold vF bP Tb.put;split<;>rfl
def FP{l:List Int}{x:Int}(h:x∈l):∃i,i<l.length/\vc l i=x:=by
 obtain⟨i,hi,e⟩:=List.mem_iff_getElem.mp h;exact⟨i,hi,by unfold vc;rw[Ad,Ac hi];exact e⟩
def fY{l:List Int}{i:Nat}(h:l.length<=i):vc l i=0:=by unfold vc;rw[Ad,List.getElem?_eq_none h];rfl
def K0{l:List Int}(h:∃u,vc l u≠0):∃k,k<l.length/\(∀i,i<k->l[i]?=some 0)/\(∃x,l[k]?=some x/\x≠0)/\(∀i,i<k->vc l i=0)/\vc l k≠0:=by
 classical
 induction l with
 |nil=>obtain⟨u,hu⟩:=h;exact absurd (fY (Ar u)) hu
 |cons x l ih=>
  by_cases c:x=0
  ·obtain⟨u,hu⟩:=h
   cases u with
   |zero=>exact absurd (show vc (x::l) 0=0 from c) hu
   |succ u=>
    obtain⟨k,h1,h2,⟨y,a,b⟩,d,e⟩:=ih ⟨u,by simpa[vc] using hu⟩;refine⟨k+1,by simpa using h1,fun i hi=>?_,⟨y,by simpa using a,b⟩,fun i hi=>?_,by simpa[vc] using e⟩
    ·cases i with
     |zero=>simp[c]
     |succ i=>simpa using h2 i ω
    ·cases i with
     |zero=>exact c
     |succ i=>simpa[vc] using d i ω
  ·exact⟨0,by simp,fun i hi=>ω,⟨x,rfl,c⟩,fun i hi=>ω,c⟩
def K2:∃n:Nat,n=67108864:=⟨_,rfl⟩
noncomputable def bt:Nat:=Classical.choose K2
def kr:bt=67108864:=Classical.choose_spec K2
noncomputable def big:Nat:=2 ^ bt
def gs{i j:Int}(h1:i.natAbs<big)(h2:j.natAbs<big):ey i j:=⟨bt,bt,h1,h2,by have:=kr;(first|lia|omega)⟩
def Ip{a b:Int}:(a / b).natAbs<=a.natAbs:=Int.natAbs_ediv_le_natAbs _ _
structure Wid(W:Nat)(P:List Nat)(fr:Nat->List Int):Prop where
 most:W<=1000
 row:∀p∈P,p<W/\(fr p).length=W
def Wid.sub{W:Nat}{P Q:List Nat}{fr:Nat->List Int}(h:Wid W P fr)(a:∀p∈Q,p∈P):Wid W Q fr:=⟨h.most,fun p hp=>h.row p (a p hp)⟩
def Wid.put{W:Nat}{P:List Nat}{fr:Nat->List Int}{p:Nat}{l:List Int}(h:Wid W P fr)(a:l.length=W):Wid W P (bP fr p l):=⟨h.most,fun q hq=>⟨(h.row q hq).1,by unfold bP;split;exact a;exact(h.row q hq).2⟩⟩
def Qb{R:List Tb.Vc}{P ps:List Nat}{fr:Nat->List Int}{W C CF V VF N Y:Nat}{rn:List Int}(l:∀r∈R,∀u,(r u).natAbs<=Y)(d:R.length<=N)(o:∀p∈P,Tb.Rep R CF (vF fr p))(y:∀p∈P,∀q∈P,(vF fr p q).natAbs<=VF)(a:∀p∈P,0<vF fr p p)(g:∀p∈P,(vF fr p p).natAbs<2 ^ 9000)(f:Wid W P fr)(s:rn.length=W)(hr:Tb.Rep R C (vc rn))(z:∀q∈P,(vc rn q).natAbs<=V)(c:∀p∈ps,p∈P)(A:N*((C+ps.length*(V*(1+VF) ^ ps.length*CF))*Y)<big)(D:N*(CF*Y)<big):kn fr W rn ps:=by
 refine⟨s,f.most,fun p hp=>⟨(f.row p (c p hp)).1,(f.row p (c p hp)).2,a p (c p hp),g p (c p hp)⟩,fun i p hp x hx=>?_⟩;have v:=An hp;have w:=c p v;refine gs (Aq Ip ?_) ?_
 ·obtain⟨h,_⟩:=Tb.l_ o y a (ps.take i) (fun q hq=>c q (List.mem_of_mem_take hq)) hr z
  have e:=pu (fr:=fr) (W:=W) (ps:=ps.take i) (rn:=rn) s fun q hq=>(f.row q (c q (List.mem_of_mem_take hq))).2;rw[<-e] at h;have b:=h.le (u:=p) fun r hr=>l r hr p;refine Aq (Ag b (AQ d (Al _ ?_))) A;have j:(ps.take i).length<=ps.length:=by rw[List.length_take];(first|lia|omega)
  refine Nat.add_le_add_left (AQ j (Al _ (Ak _ (AC ω j)))) _
 ·obtain⟨u,_,rfl⟩:=FP hx
  exact Aq (Ag ((o p w).le (u:=u) fun r hr=>l r hr u) (Al _ d)) D
def cf(es:List (Nat×Addr))(p:Nat)(d:Addr):List (Nat×Addr):=if p∈es.map (·.1) then es.map fun e=>if e.1=p then(p,d) else e else es++[(p,d)]
def FQ{es:List (Nat×Addr)}{p:Nat}{d:Addr}:(cf es p d).map (·.1)=if p∈es.map (·.1) then es.map (·.1) else es.map (·.1)++[p]:=by
 unfold cf;split
 ·rw[AT]
  refine A7 fun e _=>?_;simp only[Function.comp];split<;>simp_all
 ·simp
def putE_mem{es:List (Nat×Addr)}{p:Nat}{d:Addr}{e:Nat×Addr}(h:e∈cf es p d):e=(p,d)\/(e∈es/\e.1≠p):=by
 unfold cf at h;split at h
 ·obtain⟨x,hx,rfl⟩:=List.mem_map.mp h
  split
  ·exact .inl rfl
  ·exact .inr ⟨hx,by assumption⟩
 ·rename_i hp
  rcases List.mem_append.mp h with h|h
  ·exact .inr ⟨h,fun z=>hp (z▸List.mem_map.mpr ⟨e,h,rfl⟩)⟩
  ·exact .inl (by simpa using h)
def Qc{es:List (Nat×Addr)}{p:Nat}{d:Addr}:putK ((ez es).map fun p=>((Sum.inl p.1:Key),p.2)) (Sum.inl (p:Int)) (.ref d)=(ez (cf es p d)).map fun p=>((Sum.inl p.1:Key),p.2):=by
 have b:∀e:Nat×Addr,((Sum.inl (e.1:Int):Key)=Sum.inl (p:Int))↔e.1=p:=by
  intro e;constructor
  ·intro z
   have:((e.1:Int))=p:=by injection z
   (first|lia|omega)
  ·intro z;rw[z]
 have e1:(((ez es).map fun p=>((Sum.inl p.1:Key),p.2)).any fun f=>decide (f.1=Sum.inl (p:Int)))=decide (p∈es.map (·.1)):=by
  rw[Bool.eq_iff_iff,List.any_eq_true,decide_eq_true_iff,List.mem_map];constructor
  ·rintro⟨x,hx,hk⟩
   rw[AT] at hx;obtain⟨e,a,rfl⟩:=List.mem_map.mp hx;exact⟨e,a,(b e).mp (of_decide_eq_true hk)⟩
  ·rintro⟨e,a,rfl⟩
   refine⟨(Sum.inl (e.1:Int),V.ref e.2),?_,by simp⟩;rw[AT];exact List.mem_map.mpr ⟨e,a,rfl⟩
 unfold putK cf;rw[e1]
 by_cases c:p∈es.map (·.1)
 ·rw[if_pos (decide_eq_true c),if_pos c]
  unfold ez;rw[AT,AT,AT,AT];refine A7 fun e _=>?_;show(if(Sum.inl (e.1:Int):Key)=Sum.inl (p:Int) then _ else _)=_
  by_cases z:e.1=p
  ·rw[if_pos ((b e).mpr z)]
   simp only[Function.comp,if_pos z];rw[z]
  ·rw[if_neg fun q=>z ((b e).mp q)]
   simp only[Function.comp,if_neg z]
 ·rw[if_neg (by simpa using c),if_neg c]
  simp[ez]
def Fnd.put{H H2:Hp}{a d:Addr}{es:List (Nat×Addr)}{fr:Nat->List Int}{p:Nat}{l:List Int}(h:Fnd H a es fr)(hd:H d=some (.lst (l.map V.int)))(g:es.length<1000):∃H2,DPut H a (.int p) (.ref d) H2/\Fnd H2 a (cf es p d) (bP fr p l)/\∀b,b≠a->H2 b=H b:=by
 have hp:=DPut.k (k:=Sum.inl (p:Int)) (v:=V.ref d) h.at_ (by rw[sizeLine_eq];simp;(first|lia|omega));refine⟨_,hp,⟨?_,?_,?_⟩,fun b hb=>aq hb⟩
 ·rw[al,Qc]
 ·rw[FQ]
  split
  ·exact h.nd
  ·rename_i hn
   rw[List.nodup_append];refine⟨h.nd,by simp,fun x hx y hy=>?_⟩;have:y=p:=by simpa using hy
   subst this;exact fun z=>hn (z▸hx)
 ·intro e c
  have ne:∀b,(∃xs,H b=some (.lst xs))->b≠a:=fun b ⟨xs,hb⟩ z=>by rw[z,h.at_] at hb;cases hb
  rcases putE_mem c with rfl|⟨c,f⟩
  ·rw[aq (ne d ⟨_,hd⟩),hd];unfold bP;rw[if_pos rfl]
  ·rw[aq (ne e.2 ⟨_,h.rows e c⟩),h.rows e c];unfold bP;rw[if_neg f]
end K27
end
section
namespace Tb
def sX(N M:Nat):Nat:=(2*N*M) ^ N
def sB(N M:Nat):Nat:=N*(sX N M*M)
def K3{N M j:Nat}(a:1<=N)(b:1<=M)(c:j<=N):(2*j*M) ^ (j-1)<=sX N M:=by
 have h1:2*j*M<=2*N*M:=Al _ (Ak _ c);exact Ag (Nat.pow_le_pow_left h1 _) (AC (ph (ph ξ a) b) ω)
def Qd{N M:Nat}{R:List Vc}(i:1<=N)(b:1<=M)(hi:jm R)(a:R.length<=N)(hb:∀r∈R,∀u,(r u).natAbs<=M):Bd N M (sX N M) (sB N M) R:=by
 refine⟨hi,fun P f h d e l g=>⟨fun p hp=>?_,fun r hr p _=>hb r hr p,fun c V hc j x hx=>?_⟩⟩
 ·refine Ag (PV b hi h d e g (fun r hr p _=>hb r hr p) hp) ?_
  exact AQ a (Al _ (K3 i b a))
 ·refine Ag (uk b (fun r hr p _=>hb r hr p) g (d.imp fun h=>Az h) (FJ hi h d e) hc j x hx) ?_
  exact AQ a (Ak _ (K3 i b a))
def shr(f:Nat->Vc):List Nat->Vc->List Int
 |[],_=>[]
 |p::ps,l=>l p / f p p::shr f ps (step f p l)
section
variable{f:Nat->Vc}
def Iq:∀(ps:List Nat)(l:Vc),(shr f ps l).length=ps.length
 |[],_=>rfl
 |p::ps,l=>by show(shr f ps (step f p l)).length+1=ps.length+1;rw[Iq ps]
def Ir:∀{ps:List Nat}{l:Vc},Ech ps f->ps.Pairwise (·<·)->Sp (ps.map f) l->∀u,l u=cmb (shr f ps l) (ps.map f) u
 |[],l,_,_,⟨c,hc,e⟩,u=>by rw[e];cases c with|nil=>rfl|cons _ _=>simp at hc
 |p::ps,l,h,hs,⟨c,hc,e⟩,u=>by
  cases c with
  |nil=>simp at hc
  |cons a c=>
   rw[Ba] at hs;have h':Ech ps f:=h.sub fun q hq=>.tail _ hq;have hp:=h.pos p (.head _);have ep:l p=a*f p p:=by
    rw[e];show a*f p p+cmb c (ps.map f) p=a*f p p;rw[zL c (ps.map f) fun v b=>by
     obtain⟨r,hr,rfl⟩:=List.mem_map.mp b;exact h.z r (.tail _ hr) p (hs.1 r hr)]
    (first|lia|omega)
   have d:l p / f p p=a:=by rw[ep];exact Int.mul_ediv_cancel a ω
   have sp:Sp (ps.map f) (step f p l):=⟨c,by simpa using hc,fun u=>by
    unfold step;rw[d,e];show a*f p u+cmb c (ps.map f) u-a*f p u=_;(first|lia|omega)⟩
   have g:=Ir h' hs.2 sp u;show l u=l p / f p p*f p u+cmb (shr f ps (step f p l)) (ps.map f) u;rw[<-g];unfold step;(first|lia|omega)
def Qe{P:List Nat}{VF:Nat}(c:∀p∈P,∀q∈P,(f p q).natAbs<=VF)(a:∀p∈P,0<f p p):∀(ps:List Nat){l:Vc}{V:Nat},(∀p∈ps,p∈P)->(∀q∈P,(l q).natAbs<=V)->∀x∈shr f ps l,x.natAbs<=V*(1+VF) ^ ps.length
 |[],_,_,_,_,x,hx=>nomatch hx
 |p::ps,l,V,hs,hv,x,hx=>by
  have hp:=hs p (.head _);have b:(l p / f p p).natAbs<=V:=Ag (Int.natAbs_ediv_le_natAbs (l p) (f p p)) (hv p hp);rcases List.mem_cons.mp hx with rfl|hx
  ·refine Ag b (Nat.le_mul_of_pos_right _ (Nat.pow_pos ω))
  ·have d:∀q∈P,(step f p l q).natAbs<=V*(1+VF):=fun q hq=>by
    have e:=hv q hq;have g:(l p / f p p*f p q).natAbs<=V*VF:=by rw[AK];exact AQ b (c p hp q hq)
    have h:(step f p l q).natAbs<=(l q).natAbs+(l p / f p p*f p q).natAbs:=by unfold step;(first|lia|omega)
    rw[Nat.mul_add,Nat.mul_one];(first|lia|omega)
   have:=Qe c a ps (fun q hq=>hs q (.tail _ hq)) d x hx
   rwa [AO,Nat.mul_comm (1+VF),<-Nat.pow_succ] at this
end
def dl(s t:Nat):Int:=if s=t then 1 else 0
structure Dual(k:Nat)(U Bc:List Vc):Prop where
 lu:U.length=k
 lb:Bc.length=k
 d:∀s t,s<k->t<k->cmb (Bc.map fun b=>b s) U t=dl s t
def K4{t:Nat}:∀(c:List Int)(A B:List Vc),A.length=B.length->(∀(i:Nat) a b,A[i]?=some a->B[i]?=some b->a t=b t)->cmb c A t=cmb c B t
 |[],[],[],_,_=>rfl
 |[],_::_,_::_,_,_=>rfl
 |_::_,[],[],_,_=>rfl
 |x::c,a::A,b::B,hl,h=>by
  show x*a t+cmb c A t=x*b t+cmb c B t;rw[h 0 a b rfl rfl,K4 c A B (by simpa using hl) fun i a b h1 h2=>h (i+1) a b (by simpa using h1) (by simpa using h2)]
 |[],[],_::_,hl,_=>by simp at hl
 |[],_::_,[],hl,_=>by simp at hl
 |_::_,[],_::_,hl,_=>by simp at hl
 |_::_,_::_,[],hl,_=>by simp at hl
def range_getD(row:List Int):(Ah row.length).map (fun j=>row.getD j 0)=row:=by
 apply AZ
 ·simp
 ·intro i h1 h2;simp at h1;simp[h2]
def K5{U:List Vc}{k s t:Nat}(hk:U.length=k):∀(sh:Ξ)(Bc:List Vc),(∀row∈sh,row.length=k)->
  cmb ((Ah k).map fun j=>cmb (sh.map fun row=>row.getD j 0) Bc s) U t=cmb (Bc.map fun b=>b s) (sh.map fun row=>cmb row U) t
 |[],Bc,_=>by
  have e:((Ah k).map fun j=>cmb (([]:Ξ).map fun row=>row.getD j 0) Bc s)=(Ah k).map fun _=>0:=A7 fun j _=>by cases Bc<;>rfl
  rw[e,md _ _ _ (fun x hx=>by obtain⟨_,_,rfl⟩:=List.mem_map.mp hx;rfl)];cases Bc<;>rfl
 |row::sh,[],h=>by
  have e:((Ah k).map fun j=>cmb ((row::sh).map fun row=>row.getD j 0) [] s)=(Ah k).map fun _=>0:=A7 fun j _=>rfl;rw[e,md _ _ _ (fun x hx=>by obtain⟨_,_,rfl⟩:=List.mem_map.mp hx;rfl)]
  rfl
 |row::sh,b::Bc,h=>by
  have a:=K5 (s:=s) (t:=t) hk sh Bc fun r hr=>h r (.tail _ hr);have hr:=h row (.head _);have e:((Ah k).map fun j=>cmb ((row::sh).map fun row=>row.getD j 0) (b::Bc) s)=AA (fun x y=>b s*x+1*y) row ((Ah k).map fun j=>cmb (sh.map fun row=>row.getD j 0) Bc s):=by
   apply AZ
   ·rw[AE,Aa,Aa,A6,hr,Nat.min_self]
   ·intro i h1 h2
    rw[Aa,A6] at h1;rw[A0,AS,AS,A5];show row.getD i 0*b s+cmb (sh.map fun row=>row.getD i 0) Bc s=_;rw[Ad,Ac ω,Bb];show b s*row[i]+_=_;(first|lia|omega)
  rw[e,gW _ _ _ _ U ω (by rw[Aa,A6,hk]),a];show _=b s*cmb row U t+cmb (Bc.map fun b=>b s) (sh.map fun row=>cmb row U) t;(first|lia|omega)
def Dual.next{k:Nat}{U Bc V:List Vc}{sh:Ξ}(D:Dual k U Bc)(e:V.length=k)(ls:sh.length=k)(g:∀row∈sh,row.length=k)(hu:∀(i:Nat) u row t,U[i]?=some u->sh[i]?=some row->t<k->u t=cmb row V t):Dual k V ((Ah k).map fun j=>fun s=>cmb (sh.map fun row=>row.getD j 0) Bc s):=by
 refine⟨e,by simp,fun s t f c=>?_⟩;rw[AT];show cmb ((Ah k).map fun j=>cmb (sh.map fun row=>row.getD j 0) Bc s) V t=dl s t;rw[K5 e sh Bc g,<-D.d s t f c];refine K4 _ _ _ (by rw[Aa,ls,D.lu]) fun i a b h1 h2=>?_;rw[Aj] at h1;obtain⟨row,hr,rfl⟩:=Option.map_eq_some_iff.mp h1;exact(hu i b row t h2 hr c).symm
def dot:Nat->Vc->Vc->Int
 |0,_,_=>0
 |k+1,a,b=>dot k a b+a k*b k
def Is{k:Nat}{a a' b:Vc}{x y:Int}:dot k (fun u=>x*a u+y*a' u) b=x*dot k a b+y*dot k a' b:=by
 induction k with
 |zero=>show(0:Int)=x*0+y*0;(first|lia|omega)
 |succ k ih=>
  show dot k _ b+(x*a k+y*a' k)*b k=x*(dot k a b+a k*b k)+y*(dot k a' b+a' k*b k);rw[ih,Int.add_mul,Int.mul_add,Int.mul_add,AW,AW];(first|lia|omega)
def mq{k:Nat}{a b:Vc}(h:∀t,t<k->a t=0):dot k a b=0:=by
 induction k with
 |zero=>rfl
 |succ k ih=>show dot k a b+a k*b k=0;rw[ih fun t c=>h t ω,h k ω];(first|lia|omega)
def zM{k:Nat}{a a' b:Vc}(h:∀t,t<k->a t=a' t):dot k a b=dot k a' b:=by
 induction k with
 |zero=>rfl
 |succ k ih=>show dot k a b+a k*b k=dot k a' b+a' k*b k;rw[ih fun t c=>h t ω,h k ω]
def K6{k:Nat}{b:Vc}:∀(c:List Int)(L:List Vc),dot k (cmb c L) b=cmb c (L.map fun l=>fun _=>dot k l b) 0
 |[],[]=>mq fun _ _=>rfl
 |[],_::_=>mq fun _ _=>rfl
 |_::_,[]=>mq fun _ _=>rfl
 |x::c,l::L=>by
  show dot k (fun u=>x*l u+cmb c L u) b=x*dot k l b+cmb c (L.map fun l=>fun _=>dot k l b) 0;rw[<-K6 c L];have:=Is (k:=k) (a:=l) (a':=cmb c L) (b:=b) (x:=x) (y:=1);rw[Int.one_mul] at this;rw[<-this];exact zM fun t _=>ω
def K7{U:List Vc}{t:Nat}:∀(k:Nat)(x:Vc)(Bc:List Vc),Bc.length=U.length->cmb (Bc.map fun b=>dot k x b) U t=dot k x (fun s=>cmb (Bc.map fun b=>b s) U t)
 |0,x,Bc,_=>md _ _ _ fun y hy=>by obtain⟨_,_,rfl⟩:=List.mem_map.mp hy;rfl
 |k+1,x,Bc,hl=>by
  show cmb (Bc.map fun b=>dot k x b+x k*b k) U t=dot k x (fun s=>cmb (Bc.map fun b=>b s) U t)+x k*cmb (Bc.map fun b=>b k) U t;rw[<-K7 k x Bc hl];have:=gW 1 (x k) (Bc.map fun b=>dot k x b) (Bc.map fun b=>b k) U (by rw[Aa,hl]) (by rw[Aa,hl]) t;rw[Int.one_mul] at this;rw[<-this]
  congr 1
  apply AZ
  ·simp
  ·intro i h1 h2;simp
def Iu{k:Nat}{x:Vc}{t:Nat}(b:t<k):dot k x (fun s=>dl s t)=x t:=by
 induction k with
 |zero=>(first|lia|omega)
 |succ k ih=>
  show dot k x _+x k*dl k t=x t
  by_cases e:t=k
  ·subst e
   have:dot t x (fun s=>dl s t)=0:=by
    have z:∀j,j<=t->dot j x (fun s=>dl s t)=0:=by
     intro j
     induction j with
     |zero=>intro _;rfl
     |succ j ih=>intro a;show dot j x _+x j*dl j t=0;rw[ih ω];unfold dl;rw[if_neg ω];(first|lia|omega)
    exact z t (Af _)
   rw[this];unfold dl;rw[if_pos rfl];(first|lia|omega)
  ·rw[ih ω];unfold dl;rw[if_neg ω];(first|lia|omega)
def zt{k:Nat}{a b b':Vc}(h:∀t,t<k->b t=b' t):dot k a b=dot k a b':=by
 induction k with
 |zero=>rfl
 |succ k ih=>show dot k a b+a k*b k=dot k a b'+a k*b' k;rw[ih fun t c=>h t ω,h k ω]
structure Both(k:Nat)(U Bc:List Vc):Prop where
 a:Dual k U Bc
 b:∀(i j:Nat) u c,U[i]?=some u->Bc[j]?=some c->dot k u c=dl i j
def Qf{k:Nat}{U Bc:List Vc}(D:Dual k U Bc)(hi:∀c:List Int,c.length=k->(∀t,t<k->cmb c U t=0)->∀x∈c,x=0):Both k U Bc:=by
 refine⟨D,fun i j u c hu hc=>?_⟩;have p:i<k:=by rw[<-D.lu];exact(List.getElem?_eq_some_iff.mp hu).1
 have l:j<k:=by rw[<-D.lb];exact(List.getElem?_eq_some_iff.mp hc).1
 have h1:∀t,t<k->cmb (Bc.map fun b=>dot k u b) U t=u t:=fun t f=>by
  rw[K7 k u Bc (by rw[D.lb,D.lu]),zt fun s o=>D.d s t o f];exact Iu f
 have h2:∀t,t<k->cmb ((Ah k).map fun s=>dl i s) U t=u t:=fun t f=>by
  have:∀(n:Nat)(V:List Vc),V.length=n->∀(i:Nat) v,V[i]?=some v->∀t,cmb ((Ah n).map fun s=>dl i s) V t=v t:=by
   intro n
   induction n with
   |zero=>intro V g i v h;rw[AI g] at h;simp at h
   |succ n ih=>
    intro V g i v h t;cases V with
    |nil=>simp at g
    |cons w V=>
     rw[List.range_succ_eq_map,AV,AT];show dl i 0*w t+cmb ((Ah n).map fun s=>dl i (s+1)) V t=v t;cases i with
     |zero=>
      have e:v=w:=by simpa using h.symm
      rw[md _ _ _ (fun x hx=>by obtain⟨s,_,rfl⟩:=List.mem_map.mp hx;exact if_neg ω),e];show(1:Int)*w t+0=w t;(first|lia|omega)
     |succ i=>
      have:=ih V (by simpa using g) i v (by simpa using h) t;rw[show(fun s=>dl (i+1) (s+1))=(fun s=>dl i s) from funext fun s=>by unfold dl;simp];rw[this];show(0:Int)*w t+v t=v t;(first|lia|omega)
  exact this k U D.lu i u hu t
 have hz:=hi (AA (fun a b=>a-b) (Bc.map fun b=>dot k u b) ((Ah k).map fun s=>dl i s)) (by rw[AE,Aa,Aa,A6,D.lb,Nat.min_self]) fun t f=>by
  rw[FF _ _ U (by rw[Aa,D.lb,D.lu]) (by rw[Aa,A6,D.lu]),h1 t f,h2 t f];(first|lia|omega)
 have g:j<(AA (fun a b=>a-b) (Bc.map fun b=>dot k u b) ((Ah k).map fun s=>dl i s)).length:=by rw[AE,Aa,Aa,A6,D.lb,Nat.min_self];exact l
 have:=hz _ (AB g);rw[A0,AS,AS,A5] at this;have e:Bc[j]'(by rw[D.lb];exact l)=c:=(List.getElem?_eq_some_iff.mp hc).2;rw[e] at this;(first|lia|omega)
def Both.free{k w:Nat}{R Bc:List Vc}(D:Both k (R.map fun r=>fun t=>r (w+t)) Bc){c:List Int}(hc:c.length=R.length)(hz:∀t,t<k->cmb c R (w+t)=0):∀x∈c,x=0:=by
 have H:R.length=k:=by have:=D.a.lu;rwa [Aa] at this
 have E:∀(c:List Int)(R:List Vc)(t:Nat),cmb c R (w+t)=cmb c (R.map fun r=>fun t=>r (w+t)) t:=by
  intro c
  induction c with
  |nil=>intro R t;cases R<;>rfl
  |cons a c ih=>intro R t;cases R with
   |nil=>rfl
   |cons r R=>show a*r (w+t)+cmb c R (w+t)=a*r (w+t)+_;rw[ih]
 intro x hx;obtain⟨j,s,rfl⟩:=A8 hx;have o:j<Bc.length:=by rw[D.a.lb];(first|lia|omega)
 have y:dot k (cmb c (R.map fun r=>fun t=>r (w+t))) Bc[j]=0:=mq fun t C=>by rw[<-E];exact hz t C
 rw[K6] at y;have F:∀(c:List Int)(U:List Vc)(d:Nat),c.length=U.length->(∀(i:Nat) u,U[i]?=some u->dot k u Bc[j]=dl (d+i) j)->∀(s:d<=j)(h:j-d<c.length),cmb c (U.map fun l=>fun _=>dot k l Bc[j]) 0=c[j-d]:=by
  intro c
  induction c with
  |nil=>intro U d _ _ _ h;simp at h
  |cons a c ih=>
   intro U d p q s h;cases U with
   |nil=>simp at p
   |cons u U=>
    show a*dot k u Bc[j]+cmb c (U.map fun l=>fun _=>dot k l Bc[j]) 0=_;have hu:=q 0 u rfl;rw[hu];have A:∀(i:Nat) v,U[i]?=some v->dot k v Bc[j]=dl (d+1+i) j:=fun i v f=>by rw[q (i+1) v (by simpa using f)];congr 1;(first|lia|omega)
    by_cases e:d=j
    ·subst e
     have z:cmb c (U.map fun l=>fun _=>dot k l Bc[d]) 0=0:=zL _ _ fun v f=>by
      obtain⟨l,G,rfl⟩:=List.mem_map.mp f;obtain⟨i,g,rfl⟩:=A8 G;show dot k U[i] Bc[d]=0;rw[A i _ (Ac g)];unfold dl;rw[if_neg ω]
     rw[z];have:d-d=0:=Nat.sub_self _;simp only[this,List.getElem_cons_zero];unfold dl;rw[if_pos ω];(first|lia|omega)
    ·have:=ih U (d+1) (by simpa using p) A ω (by simp at h;(first|lia|omega))
     rw[this];have e2:j-d=(j-(d+1))+1:=ω
     simp only[e2,List.getElem_cons_succ];unfold dl;rw[if_neg ω];(first|lia|omega)
 have:=F c (R.map fun r=>fun t=>r (w+t)) 0 (by rw[Aa,hc]) (fun i u hu=>by rw[Nat.zero_add];exact D.b i j u Bc[j] hu (Ac o)) (Ar _) ω;rw[y] at this;exact this.symm
def allb:List Nat->Ξ
 |[]=>[[]]
 |t::ts=>(allb ts).flatMap fun c=>(Ah t).map fun a:Nat=>(a:Int)::c
def pr:List Nat->Nat
 |[]=>1
 |t::ts=>t*pr ts
def kw:∀b,(allb b).length=pr b
 |[]=>rfl
 |t::b=>by
  have:∀l:Ξ,(l.flatMap fun c=>(Ah t).map fun a:Nat=>(a:Int)::c).length=t*l.length:=by
   intro l
   induction l with
   |nil=>simp
   |cons c l ih=>rw[List.flatMap_cons,AJ,Aa,A6,ih,AH,Nat.mul_add];(first|lia|omega)
  show((allb b).flatMap _).length=_;rw[this,kw b];rfl
def jr:∀{b:List Nat}{c:List Int},c∈allb b↔c.length=b.length/\∀(i:Nat) x t,c[i]?=some x->b[i]?=some t->0<=x/\x<(t:Int)
 |[],c=>by
  show c∈[[]]↔_;rw[List.mem_singleton];constructor
  ·rintro rfl;exact⟨rfl,fun i x t h=>by simp at h⟩
  ·intro h;exact AI h.1
 |t::b,c=>by
  show c∈(allb b).flatMap (fun c=>(Ah t).map fun a:Nat=>(a:Int)::c)↔_;rw[List.mem_flatMap];constructor
  ·rintro⟨d,hd,h⟩
   obtain⟨a,f,rfl⟩:=List.mem_map.mp h;obtain⟨h1,h2⟩:=jr.mp hd;have:=List.mem_range.mp f;refine⟨by rw[AH,h1,AH],fun i x t' hx e=>?_⟩;cases i with
   |zero=>simp at hx e;(first|lia|omega)
   |succ i=>exact h2 i x t' (by simpa using hx) (by simpa using e)
  ·rintro⟨h1,h2⟩
   cases c with
   |nil=>simp at h1
   |cons a d=>
    have f:=h2 0 a t rfl rfl;refine⟨d,jr.mpr ⟨by simpa using h1,fun i x t' hx e=>h2 (i+1) x t' (by simpa using hx) (by simpa using e)⟩,List.mem_map.mpr ⟨a.toNat,List.mem_range.mpr ω,?_⟩⟩;rw[Int.toNat_of_nonneg f.1]
def pA:∀d,(allb d).Nodup
 |[]=>by simp[allb]
 |t::d=>by
  show((allb d).flatMap fun c=>(Ah t).map fun a:Nat=>(a:Int)::c).Pairwise (·≠·);rw[List.pairwise_flatMap];refine⟨fun c _=>?_,(pA d).imp fun{a b} h x hx y hy e=>?_⟩
  ·rw[List.pairwise_map]
   exact List.nodup_range.imp fun h e=>h (by injection e with e;(first|lia|omega))
  ·obtain⟨i,_,rfl⟩:=List.mem_map.mp hx
   obtain⟨j,_,rfl⟩:=List.mem_map.mp hy;injection e with _ e
   exact h e
def Iv{a b:Type}{f:a->b}{l:List a}{m:List b}(c:l.Nodup)(d:∀x∈l,f x∈m)(inj:∀x∈l,∀y∈l,f x=f y->x=y):l.length<=m.length:=by
 rcases Be m.length l.length with h|h
 ·obtain⟨x,hx,y,hy,ne,e⟩:=eF f l m c d h
  exact absurd (inj x hx y hy e) ne
 ·exact h
def vl(c:List Int):Vc:=fun j=>c.getD j 0
def lst(k:Nat)(x:Vc):List Int:=(Ah k).map x
def K8{k i:Nat}{x:Vc}(h:i<k):(lst k x)[i]?=some (x i):=by unfold lst;rw[Aj,AU h];rfl
def iP{k:Nat}{x:Vc}:(lst k x).length=k:=by unfold lst;simp
def Qg{k:Nat}{x y:Vc}:lst k x=lst k y↔∀j,j<k->x j=y j:=by
 constructor
 ·intro h j a
  have:=congrArg (·[j]?) h;simp only[K8 a] at this;exact AL this
 ·intro h
  exact A7 fun j a=>h j (List.mem_range.mp a)
def aU(L:Nat->Vc):Nat->Vc->Vc
 |0,x=>x
 |k+1,x=>aU L k (fun u=>x u-x k / L k k*L k u)
def SL(L:Nat->Vc)(k:Nat)(x:Vc):Prop:=∃c:Vc,∀j,j<k->x j=cmb (lst k c) ((Ah k).map L) j
section
variable{L f:Nat->Vc}{r:Nat}{Λ:Vc->Prop}
structure Lt(Λ:Vc->Prop):Prop where
 z:Λ fun _=>0
 s:∀{v w:Vc}(m:Int),Λ v->Λ w->Λ fun u=>v u-m*w u
def Lt.cmb(T:Lt Λ):∀(c:List Int)(S:List Vc),(∀s∈S,Λ s)->Λ (Tb.cmb c S)
 |[],[],_=>T.z
 |[],_::_,_=>T.z
 |_::_,[],_=>T.z
 |a::c,s::S,h=>by
  have:=T.s (-a) (Lt.cmb T c S fun w hw=>h w (.tail _ hw)) (h s (.head _));have e:(fun u=>Tb.cmb c S u - -a*s u)=Tb.cmb (a::c) (s::S):=funext fun u=>by show Tb.cmb c S u - -a*s u=a*s u+Tb.cmb c S u;rw[Int.neg_mul];(first|lia|omega)
  rw[e] at this;exact this
structure Two(Λ:Vc->Prop)(r:Nat)(L f:Nat->Vc):Prop where
 lt:Lt Λ
 li:∀i,i<r->Λ (L i)
 lp:∀i,i<r->0<L i i
 lz:∀i j,i<j->j<r->L i j=0
 fi:∀i,i<r->Λ (f i)
 fp:∀i,i<r->0<f i i
 fz:∀i j,i<r->j<i->f i j=0
 ld:∀v i,Λ v->i<r->(∀j,j<i->v j=0)->f i i ∣ v i
def K9(T:Two Λ r L f):∀(k:Nat)(x:Vc)(j:Nat),k<=j->j<r->aU L k x j=x j
 |0,_,_,_,_=>rfl
 |k+1,x,j,hk,hj=>by
  show aU L k _ j=x j;rw[K9 T k _ j ω hj,T.lz k j ω hj];(first|lia|omega)
def K_(T:Two Λ r L f):∀(k:Nat)(x:Vc),k<=r->∀i,i<k->0<=aU L k x i/\aU L k x i<L i i
 |k+1,x,hk,i,hi=>by
  by_cases e:i=k
  ·subst e
   show 0<=aU L i _ i/\aU L i _ i<L i i;rw[K9 T i _ i (Af _) ω];have a:=T.lp i ω;have em:x i-x i / L i i*L i i=x i%L i i:=by have:=Int.emod_add_mul_ediv (x i) (L i i);rw[Bb] at this;(first|lia|omega)
   rw[em];exact⟨Int.emod_nonneg _ ω,Int.emod_lt_of_pos _ a⟩
  ·exact K_ T k _ ω i ω
def Iw:∀(k:Nat)(x:Vc),∃c:Vc,∀u,x u-aU L k x u=cmb (lst k c) ((Ah k).map L) u
 |0,x=>⟨fun _=>0,fun u=>by show x u-x u=0;(first|lia|omega)⟩
 |k+1,x=>by
  obtain⟨c,hc⟩:=Iw k (fun u=>x u-x k / L k k*L k u);refine⟨fun i=>if i=k then x k / L k k else c i,fun u=>?_⟩;have e1:lst (k+1) (fun i=>if i=k then x k / L k k else c i)=lst k c++[x k / L k k]:=by
   unfold lst;rw[List.range_succ,Aw]
   congr 1
   ·exact A7 fun i hi=>if_neg (Az (List.mem_range.mp hi))
   ·show [if k=k then _ else _]=_;rw[if_pos rfl]
  have e:∀(c:List Int)(S:List Vc)(a:Int)(v:Vc),c.length=S.length->cmb (c++[a]) (S++[v]) u=cmb c S u+a*v u:=by
   intro c
   induction c with
   |nil=>intro S a v d;rw[AI d.symm];show a*v u+0=0+a*v u;(first|lia|omega)
   |cons b c ih=>intro S a v d;cases S with
    |nil=>simp at d
    |cons s S=>show b*s u+cmb (c++[a]) (S++[v]) u=b*s u+cmb c S u+a*v u;rw[ih S a v (by simpa using d)];(first|lia|omega)
  rw[e1,List.range_succ,Aw,AV,List.map_nil,e _ _ _ _ (by rw[iP];simp),<-hc u];show x u-aU L k _ u=_;(first|lia|omega)
def Two.small(T:Two Λ r L f){v:Vc}{k:Nat}(hk:k<=r)(b:Λ v)(h:∀j,j<k->(v j).natAbs<(f j j).natAbs):∀j,j<k->v j=0:=by
 intro j
 induction j using Nat.strongRecOn with
 |_ j ih=>
  intro a;obtain⟨m,e⟩:=T.ld v j b ω fun i hi=>ih i hi ω;have:=h j a;rw[e,AK] at this;rcases Nat.eq_zero_or_pos m.natAbs with z|z
  ·rw[e,Int.natAbs_eq_zero.mp z,Int.mul_zero]
  ·have:(f j j).natAbs*1<=(f j j).natAbs*m.natAbs:=Ak _ z
   (first|lia|omega)
def tn(g:Nat->Vc)(k:Nat):List Nat:=(Ah k).map fun i=>(g i i).toNat
def FR{a:Nat->Vc}{k:Nat}{x:List Int}(h:x∈allb (tn a k)):x.length=k/\∀j,j<k->0<=vl x j/\vl x j<((a j j).toNat:Int):=by
 obtain⟨h1,h2⟩:=jr.mp h;unfold tn at h1 h2;rw[Aa,A6] at h1;refine⟨h1,fun j b=>?_⟩;have e:x[j]?=some (x[j]'ω):=Ac ω;have:=h2 j _ _ e (by rw[Aj,AU b];rfl);unfold vl;rw[Ad,e];exact this
def K'{x y:List Int}{k:Nat}(hx:x.length=k)(hy:y.length=k)(h:∀j,j<k->vl x j=vl y j):x=y:=by
 refine AZ ω fun i h1 h2=>?_;have:=h i ω;unfold vl at this;rw[Ad,Ad,Ac h1,Ac h2] at this;exact this
def La(T:Two Λ r L f){k:Nat}(hk:k<=r)(x:Vc):lst k (aU L k x)∈allb (tn L k):=by
 refine jr.mpr ⟨by unfold tn;rw[iP];simp,fun i z t hz a=>?_⟩;have hi:i<k:=by have:=(List.getElem?_eq_some_iff.mp hz).1;rwa [iP] at this
 rw[K8 hi] at hz;obtain rfl:=AL hz;unfold tn at a;rw[Aj,AU hi] at a;obtain rfl:=AL a;have:=K_ T k x hk i hi;have:=T.lp i ω;show 0<=aU L k x i/\aU L k x i<((L i i).toNat:Int);(first|lia|omega)
def Lb(T:Two Λ r L f){k:Nat}(hk:k<=r){x y:Vc}(h:lst k (aU L k x)=lst k (aU L k y)):∃v,Λ v/\SL L k v/\∀j,j<k->v j=x j-y j:=by
 obtain⟨c,hc⟩:=Iw (L:=L) k x;obtain⟨d,hd⟩:=Iw (L:=L) k y;have g:∀s∈(Ah k).map L,Λ s:=fun s a=>by
  obtain⟨i,hi,rfl⟩:=List.mem_map.mp a;exact T.li i (Au (List.mem_range.mp hi) hk)
 have e:∀u,cmb (lst k fun i=>c i-d i) ((Ah k).map L) u=cmb (lst k c) ((Ah k).map L) u-cmb (lst k d) ((Ah k).map L) u:=fun u=>by
  rw[<-FF _ _ _ (by rw[iP];simp) (by rw[iP];simp)]
  congr 1
  apply AZ
  ·simp[iP]
  ·intro i h1 h2;simp only[lst,AS,A5,A0]
 refine⟨cmb (lst k fun i=>c i-d i) ((Ah k).map L),T.lt.cmb _ _ g,⟨_,fun j _=>rfl⟩,fun j b=>?_⟩;rw[e,<-hc j,<-hd j,Qg.mp h j b];(first|lia|omega)
def Ix(T:Two Λ r L f){k:Nat}(hk:k<=r):pr (tn f k)<=pr (tn L k):=by
 rw[<-kw,<-kw];refine Iv (f:=fun x=>lst k (aU L k (vl x))) (pA _) (fun x _=>La T hk _) fun x hx y hy e=>?_;obtain⟨v,c,_,b⟩:=Lb T hk e;obtain⟨d,g⟩:=FR hx;obtain⟨h,i⟩:=FR hy;have z:=T.small hk c fun j a=>by
  have h1:=g j a;have h2:=i j a
  have l:=T.fp j ω;rw[b j a];(first|lia|omega)
 exact K' d h fun j a=>by have:=z j a;rw[b j a] at this;(first|lia|omega)
def half_lt(T:Two Λ r L f){k:Nat}(hk:k<=r){w:Vc}(hw:Λ w)(E:¬SL L k w):2*pr (tn f k)<=pr (tn L k):=by
 have eq:2*pr (tn f k)=((allb (tn f k)).map (fun x=>(false,x))++(allb (tn f k)).map (fun x=>(true,x))).length:=by rw[AJ,Aa,Aa,kw];(first|lia|omega)
 rw[eq,<-kw]
 let g:Bool×List Int->Vc:=fun p=>if p.1=true then fun u=>vl p.2 u+w u else vl p.2
 have mem:∀p∈(allb (tn f k)).map (fun x=>(false,x))++(allb (tn f k)).map (fun x=>(true,x)),p.2∈allb (tn f k):=fun p hp=>by
  rcases List.mem_append.mp hp with h|h<;>(obtain⟨x,hx,rfl⟩:=List.mem_map.mp h;exact hx)
 refine Iv (f:=fun p=>lst k (aU L k (g p))) ?_ (fun p _=>La T hk _) fun p hp q hq e=>?_
 ·rw[List.nodup_append]
  refine⟨?_,?_,fun x hx y hy=>?_⟩
  ·exact List.Pairwise.map _ (fun a b(h:a≠b) e=>h (by injection e)) (pA _)
  ·exact List.Pairwise.map _ (fun a b(h:a≠b) e=>h (by injection e)) (pA _)
  ·obtain⟨_,_,rfl⟩:=List.mem_map.mp hx
   obtain⟨_,_,rfl⟩:=List.mem_map.mp hy;intro z;injection z with z;cases z
 ·obtain⟨v,o,sv,l⟩:=Lb T hk e
  obtain⟨a,x⟩:=p;obtain⟨b,y⟩:=q;obtain⟨G,H⟩:=FR (show x∈_ from mem _ hp);obtain⟨I,J⟩:=FR (show y∈_ from mem _ hq);have fin:∀{A:Vc},Λ A->(∀j,j<k->A j=vl x j-vl y j)->x=y:=fun{A} F D=>by
   have z:=T.small hk F fun j d=>by
    have h1:=H j d;have h2:=J j d
    have M:=T.fp j ω;rw[D j d];(first|lia|omega)
   exact K' G I fun j d=>by have:=z j d;rw[D j d] at this;(first|lia|omega)
  cases a with
  |false=>
   cases b with
   |false=>rw[fin o fun j d=>by rw[l j d];rfl]
   |true=>
    exfalso
    have C:=fin (T.lt.s (-1) o hw) fun j d=>by rw[l j d];show vl x j-(vl y j+w j) - -1*w j=_;(first|lia|omega)
    subst C;obtain⟨c,hc⟩:=sv;apply E;refine⟨fun i=>-c i,fun j d=>?_⟩;have h1:=l j d;have h2:=hc j d;have e2:cmb (lst k fun i=>-c i) ((Ah k).map L) j=-cmb (lst k c) ((Ah k).map L) j:=by
     have:=gW (-1) 0 (lst k c) (lst k c) ((Ah k).map L) (by rw[iP];simp) (by rw[iP];simp) j;rw[show(-1:Int)*cmb (lst k c) ((Ah k).map L) j+0*cmb (lst k c) ((Ah k).map L) j=-cmb (lst k c) ((Ah k).map L) j from ω] at this;rw[<-this]
     congr 1
     apply AZ
     ·simp[iP]
     ·intro i h1 h2;simp only[lst,AS,A5,A0];(first|lia|omega)
    rw[e2,<-h2,h1];show w j=-(vl x j-(vl x j+w j));(first|lia|omega)
  |true=>
   cases b with
   |true=>rw[fin o fun j d=>by rw[l j d];show vl x j+w j-(vl y j+w j)=_;(first|lia|omega)]
   |false=>
    exfalso
    have C:=fin (T.lt.s 1 o hw) fun j d=>by rw[l j d];show vl x j+w j-vl y j-1*w j=_;(first|lia|omega)
    subst C;obtain⟨c,hc⟩:=sv;exact E ⟨c,fun j d=>by rw[<-hc j d,l j d];show w j=vl x j+w j-vl x j;(first|lia|omega)⟩
def Lc{j k:Nat}{c:Vc}(h:∀i,i<k->L i j=0):cmb (lst k c) ((Ah k).map L) j=0:=
 zL _ _ fun v a=>by
  obtain⟨i,hi,rfl⟩:=List.mem_map.mp a;exact h i (List.mem_range.mp hi)
def Ld(u k:Nat)(c:Vc):cmb (lst (k+1) c) ((Ah (k+1)).map L) u=cmb (lst k c) ((Ah k).map L) u+c k*L k u:=by
 have f:∀(c:List Int)(S:List Vc)(a:Int)(v:Vc),c.length=S.length->cmb (c++[a]) (S++[v]) u=cmb c S u+a*v u:=by
  intro c
  induction c with
  |nil=>intro S a v d;rw[AI d.symm];show a*v u+0=0+a*v u;(first|lia|omega)
  |cons b c ih=>intro S a v d;cases S with
   |nil=>simp at d
   |cons s S=>show b*s u+cmb (c++[a]) (S++[v]) u=b*s u+cmb c S u+a*v u;rw[ih S a v (by simpa using d)];(first|lia|omega)
 have e:lst (k+1) c=lst k c++[c k]:=by unfold lst;rw[List.range_succ,Aw];rfl
 rw[e,List.range_succ,Aw,AV,List.map_nil,f _ _ _ _ (by rw[iP];simp)]
def diag(T:Two Λ r L f)(p:∀i j,i<j->j<r->0<=f i j/\f i j<f j j)(b:∀k,k<=r->∀w,Λ w->SL L k w)(i:Nat)(hi:i<r):f i i=L i i/\(∀j,j<r->j≠i->f i j=0):=by
 obtain⟨c,hc⟩:=b i ω (L i) (T.li i hi);have x:∀s∈(Ah i).map L,Λ s:=fun s v=>by
  obtain⟨t,a,rfl⟩:=List.mem_map.mp v;exact T.li t (Nat.lt_trans (List.mem_range.mp a) hi)
 have hw:=T.lt.s 1 (T.li i hi) (T.lt.cmb (lst i c) _ x);have q:∀j,j<i->L i j-1*cmb (lst i c) ((Ah i).map L) j=0:=fun j g=>by have:=hc j g;(first|lia|omega)
 have l:∀j,i<=j->j<r->cmb (lst i c) ((Ah i).map L) j=0:=fun j h1 h2=>Lc fun t a=>T.lz t j ω h2;have d1:=T.ld _ i hw hi q;have y:=T.lp i hi;have z:=T.fp i hi;obtain⟨d,hd⟩:=b (i+1) ω (f i) (T.fi i hi);have e1:=hd i ω;rw[Ld,Lc fun t a=>T.lz t i a hi] at e1;have d2:L i i ∣ f i i:=⟨d i,by rw[e1,Bb];(first|lia|omega)⟩;have wi:L i i-1*cmb (lst i c) ((Ah i).map L) i=L i i:=by rw[l i (Af _) hi];(first|lia|omega)
 have o:f i i ∣ L i i:=by
  have this:f i i ∣ L i i-1*cmb (lst i c) ((Ah i).map L) i:=d1;rw[wi] at this;exact this
 have u:f i i=L i i:=Int.le_antisymm (Int.le_of_dvd y o) (Int.le_of_dvd z d2);refine⟨u,fun j g ne=>?_⟩;have A:=T.lt.s 1 (T.fi i hi) hw;have:=T.small (Af r) A (fun t a=>?_) j g
 ·rcases Be j i with h|h
  ·exact T.fz i j hi h
  ·have e:L i j=0:=T.lz i j ω g
   have e2:=l j ω g;have:f i j-1*(L i j-1*cmb (lst i c) ((Ah i).map L) j)=0:=this;rw[e,e2] at this;(first|lia|omega)
 ·have C:=T.fp t a
  show(f i t-1*(L i t-1*cmb (lst i c) ((Ah i).map L) t)).natAbs<(f t t).natAbs;rcases Nat.lt_trichotomy t i with h|h|h
  ·have e1:=q t h
   rw[T.fz i t hi h,e1];(first|lia|omega)
  ·subst h;rw[wi,u];(first|lia|omega)
  ·have e:L i t=0:=T.lz i t h a
   have e2:=l t ω a;have e3:=p i t h a;rw[e,e2];(first|lia|omega)
def uR(T:Two Λ r L f)(a:∀i j,i<j->j<r->0<=f i j/\f i j<f j j):(∃k,k<=r/\2*pr (tn f k)<=pr (tn L k))\/∀i,i<r->f i i=L i i/\∀j,j<r->j≠i->f i j=0:=by
 by_cases h:∀k,k<=r->∀w,Λ w->SL L k w
 ·exact .inr fun i hi=>diag T a h i hi
 ·obtain⟨k,h⟩:=Classical.not_forall.mp h
  obtain⟨hk,h⟩:=Classical.not_imp.mp h;obtain⟨w,h⟩:=Classical.not_forall.mp h;obtain⟨hw,h⟩:=Classical.not_imp.mp h;exact .inl ⟨k,hk,half_lt T hk hw h⟩
end
def Qh{R:List Vc}{P:List Nat}{f:Nat->Vc}(h:Ech P f)(c:P.Pairwise (·<·))(d:∀r∈R,Sp (P.map f) r){w:Vc}(hw:Sp R w)(hb:∀p∈P,(w p).natAbs<(f p p).natAbs):∀p∈P,w p=0:=by
 have b:=hw.trans d;intro p
 induction p using Nat.strongRecOn with
 |_ p ih=>
  intro hp;obtain⟨m,e⟩:=ki h c hp b fun q hq a=>ih q a hq;have:=hb p hp;rw[e,AK] at this;rcases Nat.eq_zero_or_pos m.natAbs with z|z
  ·rw[e,Int.natAbs_eq_zero.mp z,Int.mul_zero]
  ·have:(f p p).natAbs*1<=(f p p).natAbs*m.natAbs:=Ak _ z
   (first|lia|omega)
def near{R:List Vc}{P:List Nat}{M:Nat}(l:1<=M)(d:∀v∈R,∀p∈P,(v p).natAbs<=M)(f:P.length=R.length)(e:P.Nodup)(hi:Inj R P)(v:Vc):∃q:List Int,q.length=R.length/\∀p∈P,(v p-cmb q R p).natAbs<=R.length*M:=by
 obtain⟨V,j⟩:∃V,∀p∈P,(v p).natAbs<=V:=by
  clear d f e hi
  induction P with
  |nil=>exact⟨0,fun p hp=>nomatch hp⟩
  |cons p P ih=>
   obtain⟨V,h⟩:=ih;exact⟨V+(v p).natAbs,fun q hq=>by rcases List.mem_cons.mp hq with rfl|hq;(first|lia|omega);have:=h q hq;(first|lia|omega)⟩
 obtain⟨D,s,c,a,e1,_,_⟩:=clear l d f e hi j P e fun q hq=>hq;have fin:∀(D:Int)(s:List Int),0<D->s.length=R.length->(∀p∈P,cmb s R p=D*v p)->∃q:List Int,q.length=R.length/\∀p∈P,(v p-cmb q R p).natAbs<=R.length*M:=fun D s c a e1=>by
  refine⟨s.map (· / D),by rw[Aa,a],fun p hp=>?_⟩;have e2:cmb (s.map (·%D)) R p=cmb s R p-D*cmb (s.map (· / D)) R p:=by
   have:=gW 1 (-D) s (s.map (· / D)) R a (by rw[Aa,a]) p;rw[Int.one_mul,Int.neg_mul] at this;rw[show cmb s R p-D*cmb (s.map (· / D)) R p=cmb s R p+-(D*cmb (s.map (· / D)) R p) from ω,<-this]
   congr 1
   apply AZ
   ·simp
   ·intro i h1 h2
    simp only[AS,A0];have:=Int.emod_add_mul_ediv (s[i]'(by simpa using h1)) D;rw[Int.one_mul,Int.neg_mul];(first|lia|omega)
  have b:=ua (u:=p) (X:=D.natAbs) (M:=M) (s.map (·%D)) R (fun x hx=>by
   obtain⟨y,_,rfl⟩:=List.mem_map.mp hx;have h1:=Int.emod_nonneg y (show D≠0 from ω);have h2:=Int.emod_lt_of_pos y c;(first|lia|omega)) fun v g=>d v g p hp
  rw[e2,e1 p hp,<-Int.mul_sub,AK,Nat.mul_left_comm] at b;exact Nat.le_of_mul_le_mul_left b ω
 rcases Int.lt_trichotomy D 0 with h|h|h
 ·refine fin (-D) (s.map fun x=>-x) ω (by rw[Aa,a]) fun p hp=>?_
  have:=gW (-1) 0 s s R a a p;rw[show(-1:Int)*cmb s R p+0*cmb s R p=-cmb s R p from ω,e1 p hp] at this;rw[Int.neg_mul,<-this]
  congr 1
  apply AZ
  ·simp
  ·intro i h1 h2;simp only[AS,A0];(first|lia|omega)
 ·exact absurd h c
 ·exact fin D s h a e1
def Qi{R:List Vc}{P:List Nat}{f:Nat->Vc}{M:Nat}(G:1<=M)(hi:jm R)(h:Ech P f)(j:P.Pairwise (·<·))(v:∀r∈R,Sp (P.map f) r)(l:P.length=R.length)(hb:∀r∈R,∀p∈P,(r p).natAbs<=M):pr (P.map fun p=>(f p p).toNat)<=(2*(R.length*M)+1) ^ R.length:=by
 have q:P.Nodup:=j.imp fun h=>Az h;have inj:=FJ hi h j v;have b:=fun x:List Int=>near G hb l q inj fun u=>x.getD (P.idxOf u) 0;rw[<-l,<-Fv,<-kw];have g:∀(x:List Int)(i:Nat)(hi:i<P.length),x.getD (P.idxOf P[i]) 0=x.getD i 0:=fun x i hi=>by rw[q.idxOf_getElem i hi]
 refine Iv (f:=fun x=>P.map fun p=>x.getD (P.idxOf p) 0-cmb (Classical.choose (b x)) R p+((P.length*M:Nat):Int)) (pA _) (fun x hx=>?_) fun x hx y hy e=>?_
 ·refine l8.mpr ⟨Aa _,fun z hz=>?_⟩
  obtain⟨p,hp,rfl⟩:=List.mem_map.mp hz;have:=(Classical.choose_spec (b x)).2 p hp;rw[show P.length*M=R.length*M by rw[l]];generalize cmb (Classical.choose (b x)) R p=z at this ⊢;generalize R.length*M=A at this ⊢;(first|lia|omega)
 ·obtain⟨d,c⟩:=jr.mp hx
  obtain⟨o,w⟩:=jr.mp hy;rw[Aa] at d o;obtain⟨C,_⟩:=Classical.choose_spec (b x);obtain⟨D,_⟩:=Classical.choose_spec (b y);have sp:Sp R fun u=>cmb (Classical.choose (b x)) R u-1*cmb (Classical.choose (b y)) R u:=(show Sp R (cmb (Classical.choose (b x)) R) from⟨_,C,fun _=>rfl⟩).sub ⟨_,D,fun _=>rfl⟩ 1;have s:∀p∈P,cmb (Classical.choose (b x)) R p-1*cmb (Classical.choose (b y)) R p=x.getD (P.idxOf p) 0-y.getD (P.idxOf p) 0:=fun p hp=>by
   have:=(List.map_inj_left.mp e) p hp;(first|lia|omega)
  have bd:∀(x:List Int),(∀(i:Nat) z t,x[i]?=some z->(P.map fun p=>(f p p).toNat)[i]?=some t->0<=z/\z<(t:Int))->x.length=P.length->∀p∈P,0<=x.getD (P.idxOf p) 0/\x.getD (P.idxOf p) 0<((f p p).toNat:Int):=fun x c d p hp=>by
   obtain⟨i,a,rfl⟩:=A8 hp;rw[g x i a,Ad,Ac ω];exact c i _ _ (Ac ω) (by rw[Aj,Ac a];rfl)
  have z:=Qh h j v sp fun p hp=>by
   have h1:=bd x c d p hp;have h2:=bd y w o p hp
   have H:=h.pos p hp;have E:=s p hp;show(cmb (Classical.choose (b x)) R p-1*cmb (Classical.choose (b y)) R p).natAbs<_;rw[E];(first|lia|omega)
  refine AZ ω fun i h1 h2=>?_;have a:i<P.length:=ω
  have:=z P[i] (AB a);have e2:=s P[i] (AB a);rw[g x i a,g y i a,Ad,Ad,Ac h1,Ac h2] at e2;have F:cmb (Classical.choose (b x)) R P[i]-1*cmb (Classical.choose (b y)) R P[i]=0:=this;rw[F] at e2;show x[i]=y[i];have e3:(some x[i]).getD 0=x[i]:=rfl;have I:(some y[i]).getD 0=y[i]:=rfl;(first|lia|omega)
def sm(ρ:Nat->Vc)(c:Nat->Int):Nat->Nat->Int
 |0,_=>0
 |j+1,u=>sm ρ c j u+c j*ρ j u
def FT{ρ:Nat->Vc}{c:Vc}(u:Nat):∀j,cmb (lst j c) ((Ah j).map ρ) u=sm ρ c j u
 |0=>rfl
 |j+1=>by rw[Ld,FT u j];rfl
def Le(c:List Int):lst c.length (vl c)=c:=range_getD c
def uY{ρ:Nat->Vc}{c:Vc}{u:Nat}:∀j,(∀i,i<j->c i*ρ i u=0)->sm ρ c j u=0
 |0,_=>rfl
 |j+1,h=>by show sm ρ c j u+c j*ρ j u=0;rw[uY j fun i hi=>h i ω,h j ω];rfl
def u0{ρ:Nat->Vc}{c:Vc}{u:Nat}:∀(n j:Nat),(∀i,j<=i->i<j+n->c i*ρ i u=0)->sm ρ c (j+n) u=sm ρ c j u
 |0,_,_=>rfl
 |n+1,j,h=>by show sm ρ c (j+n) u+c (j+n)*ρ (j+n) u=_;rw[u0 n j fun i h1 h2=>h i h1 ω,h (j+n) ω ω];(first|lia|omega)
def sd(ρ:Nat->Vc)(c:Nat->Int)(m:Nat):Nat->Nat->Int
 |0,_=>0
 |n+1,u=>sd ρ c m n u+c (m-1-n)*ρ (m-1-n) u
def Lf{ρ:Nat->Vc}{c:Vc}{m u:Nat}:∀n,n<=m->sm ρ c m u=sm ρ c (m-n) u+sd ρ c m n u
 |0,_=>by show _=sm ρ c m u+0;(first|lia|omega)
 |n+1,h=>by
  rw[Lf n ω];have e:m-n=(m-1-n)+1:=ω
  have e2:m-(n+1)=m-1-n:=ω
  rw[e,e2];show sm ρ c (m-1-n) u+c (m-1-n)*ρ (m-1-n) u+sd ρ c m n u=sm ρ c (m-1-n) u+(sd ρ c m n u+c (m-1-n)*ρ (m-1-n) u);(first|lia|omega)
structure Tri(k r w M g:Nat)(ρ:Nat->Vc)(Q:Nat->Nat):Prop where
 g1:1<=g
 rk:r<=k
 rw:r<=w
 qs:∀a b,a<b->b<k-r->Q a<Q b
 qw:∀a,a<k-r->w<=Q a
 tp:∀i,i<r->0<ρ i i
 tz:∀i j,i<r->i<j->j<w->ρ i j=0
 tl:∀i j,i<r->j<i->(ρ i j).natAbs<=(ρ i i).natAbs
 tq:∀i a,i<r->a<k-r->(ρ i (Q a)).natAbs<=g*(ρ (r+a) (Q a)).natAbs
 kz:∀a u,a<k-r->u<Q a->ρ (r+a) u=0
 kp:∀a,a<k-r->0<ρ (r+a) (Q a)
 kq:∀a b,a<b->b<k-r->0<=ρ (r+a) (Q b)/\ρ (r+a) (Q b)<ρ (r+b) (Q b)
 tm:∀i,i<r->(ρ i i).natAbs<=M
 km:∀a,a<k-r->g*(ρ (r+a) (Q a)).natAbs<=M
section
variable{k r w M g:Nat}{ρ:Nat->Vc}{Q:Nat->Nat}
def Tri.low(T:Tri k r w M g ρ Q){a u:Nat}(b:a<k-r)(hu:u<w):ρ (r+a) u=0:=T.kz a u b (Au hu (T.qw a b))
def sa(ρ:Nat->Vc)(c:Nat->Int)(m:Nat):Nat->Nat
 |0=>0
 |n+1=>sa ρ c m n+(c (m-1-n)).natAbs*(ρ (m-1-n) (m-1-n)).natAbs
def Tri.top_le(T:Tri k r w M g ρ Q){c:Vc}{m V:Nat}(j:m<=r)(f:∀i,i<m->(sm ρ c m i).natAbs<=V):∀n,n<=m->sa ρ c m n+V<=V*2 ^ n
 |0,_=>by show 0+V<=V*1;(first|lia|omega)
 |n+1,h=>by
  have d:=Tri.top_le T j f n ω;have hi:m-1-n<m:=ω
  have o:(sd ρ c m n (m-1-n)).natAbs<=sa ρ c m n:=by
   have:∀a,a<=n->(sd ρ c m a (m-1-n)).natAbs<=sa ρ c m a:=by
    intro a
    induction a with
    |zero=>intro _;exact Af 0
    |succ a d=>
     intro l;have h1:=d ω;have h2:=T.tl (m-1-a) (m-1-n) ω ω;have p:(c (m-1-a)*ρ (m-1-a) (m-1-n)).natAbs<=(c (m-1-a)).natAbs*(ρ (m-1-a) (m-1-a)).natAbs:=by rw[AK];exact Ak _ h2
     have q:=Int.natAbs_add_le (sd ρ c m a (m-1-n)) (c (m-1-a)*ρ (m-1-a) (m-1-n));show(sd ρ c m a (m-1-n)+c (m-1-a)*ρ (m-1-a) (m-1-n)).natAbs<=sa ρ c m a+_;(first|lia|omega)
   exact this n (Af _)
  have e:sm ρ c m (m-1-n)=c (m-1-n)*ρ (m-1-n) (m-1-n)+sd ρ c m n (m-1-n):=by
   rw[Lf n ω,show m-n=(m-1-n)+1 from ω];show sm ρ c (m-1-n) (m-1-n)+_+_=_;rw[uY (m-1-n) fun i b=>by rw[T.tz i (m-1-n) ω b (by have:=T.rw;(first|lia|omega)),Int.mul_zero]];(first|lia|omega)
  have s:=f (m-1-n) hi;have u:(c (m-1-n)).natAbs*(ρ (m-1-n) (m-1-n)).natAbs<=V+sa ρ c m n:=by
   rw[<-AK];(first|lia|omega)
  show sa ρ c m n+(c (m-1-n)).natAbs*(ρ (m-1-n) (m-1-n)).natAbs+V<=V*2 ^ (n+1);rw[Nat.pow_succ,<-AO];(first|lia|omega)
def sc(c:Nat->Int):Nat->Nat
 |0=>0
 |n+1=>sc c n+(c n).natAbs
def Qj{c:Vc}{n i:Nat}(h:i<n):(c i).natAbs<=sc c n:=by
 induction n with
 |zero=>(first|lia|omega)
 |succ n ih=>
  show _<=sc c n+(c n).natAbs
  by_cases e:i=n
  ·subst e;(first|lia|omega)
  ·have:=ih ω;(first|lia|omega)
def Tri.top_sum(T:Tri k r w M g ρ Q){c:Vc}{m V:Nat}(a:m<=r)(b:∀i,i<m->(sm ρ c m i).natAbs<=V):sc c m+V<=V*2 ^ m:=by
 have h1:=T.top_le a b m (Af _);have h2:∀n,n<=m->sc c m<=sc c (m-n)+sa ρ c m n:=by
  intro n
  induction n with
  |zero=>intro _;exact Af _
  |succ n ih=>
   intro d;have:=ih ω;have hp:=T.tp (m-1-n) ω;rw[show m-n=(m-1-n)+1 from ω] at this;rw[show m-(n+1)=m-1-n from ω];have e:(c (m-1-n)).natAbs*1<=(c (m-1-n)).natAbs*(ρ (m-1-n) (m-1-n)).natAbs:=Ak _ ω;show sc c m<=sc c (m-1-n)+(sa ρ c m n+_);have f:sc c (m-1-n+1)=sc c (m-1-n)+(c (m-1-n)).natAbs:=rfl;(first|lia|omega)
 have:=h2 m (Af _);rw[Nat.sub_self] at this;have:sc c 0=0:=rfl;(first|lia|omega)
def Lg{c:Vc}{u K:Nat}:∀n,(∀i,i<n->(ρ i u).natAbs<=K)->(sm ρ c n u).natAbs<=K*sc c n
 |0,_=>Ar _
 |n+1,h=>by
  have h1:=Lg (c:=c) n fun i hi=>h i ω;have h2:(c n*ρ n u).natAbs<=K*(c n).natAbs:=by rw[AK,Nat.mul_comm];exact Al _ (h n ω)
  have a:=Int.natAbs_add_le (sm ρ c n u) (c n*ρ n u);show(sm ρ c n u+c n*ρ n u).natAbs<=K*(sc c n+(c n).natAbs);rw[Nat.mul_add];(first|lia|omega)
def Tri.all_sum(T:Tri k r w M g ρ Q){c:Vc}{V:Nat}:∀n,n<=k-r->(∀i,i<r->(sm ρ c (r+n) i).natAbs<=V)->(∀a,a<n->(sm ρ c (r+n) (Q a)).natAbs<=V)->sc c (r+n)+V<=V*2 ^ r*(1+g) ^ n:=by
 intro n;have base:∀n,n<=k-r->(∀i,i<r->(sm ρ c (r+n) i).natAbs<=V)->sc c r+V<=V*2 ^ r:=fun n h d=>T.top_sum (Af r) fun i hi=>by
  have:=d i hi
  rwa [u0 n r fun j h1 h2=>by
   have:=T.low (a:=j-r) (u:=i) ω (by have:=T.rw;(first|lia|omega));rw[show r+(j-r)=j from ω] at this;rw[this,Int.mul_zero]] at this
 intro h d hq;have hb:=base n h d;have:∀b,b<=n->sc c (r+b)+V<=V*2 ^ r*(1+g) ^ b:=by
  intro b
  induction b with
  |zero=>intro _;rw[Nat.pow_zero,Nat.mul_one];exact hb
  |succ b ih=>
   intro p;have h1:=ih ω;have hp:=T.kp b ω;have e:sm ρ c (r+n) (Q b)=sm ρ c (r+b) (Q b)+c (r+b)*ρ (r+b) (Q b):=by
    have:=u0 (ρ:=ρ) (c:=c) (u:=Q b) (n-(b+1)) (r+(b+1)) fun j h1 h2=>by
     have:=T.kz (j-r) (Q b) ω (T.qs b (j-r) ω ω);rw[show r+(j-r)=j from ω] at this;rw[this,Int.mul_zero]
    rw[show r+(b+1)+(n-(b+1))=r+n from ω] at this;rw[this];rfl
   have h2:(sm ρ c (r+b) (Q b)).natAbs<=(g*(ρ (r+b) (Q b)).natAbs)*sc c (r+b):=Lg (r+b) fun i hi=>by
    by_cases f:i<r
    ·exact T.tq i b f ω
    ·have:=T.kq (i-r) b ω ω
     rw[show r+(i-r)=i from ω] at this;have:1*(ρ (r+b) (Q b)).natAbs<=g*(ρ (r+b) (Q b)).natAbs:=Al _ T.g1;(first|lia|omega)
   have q:=hq b ω;have o:(c (r+b)).natAbs*(ρ (r+b) (Q b)).natAbs<=V+(g*(ρ (r+b) (Q b)).natAbs)*sc c (r+b):=by
    rw[<-AK];(first|lia|omega)
   generalize hκ:(ρ (r+b) (Q b)).natAbs=κ at h2 o;have l:1<=κ:=ω
   have s:(c (r+b)).natAbs<=V+g*sc c (r+b):=by
    have:κ*(c (r+b)).natAbs<=κ*(V+g*sc c (r+b)):=by
     rw[Nat.mul_add,Nat.mul_comm κ (c (r+b)).natAbs,<-AO,Nat.mul_comm κ g];have:V<=κ*V:=Nat.le_mul_of_pos_left _ l;(first|lia|omega)
    exact Nat.le_of_mul_le_mul_left this l
   show sc c (r+b)+(c (r+b)).natAbs+V<=V*2 ^ r*(1+g) ^ (b+1);rw[Nat.pow_succ,<-AO];have v:(sc c (r+b)+V)*(1+g)<=V*2 ^ r*(1+g) ^ b*(1+g):=Al _ h1;have x:(sc c (r+b)+V)*(1+g)=sc c (r+b)+V+(g*sc c (r+b)+g*V):=by rw[Nat.mul_add,Nat.mul_one,Nat.mul_comm _ g,Nat.mul_add]
   have y:1*V<=g*V:=Al _ T.g1;(first|lia|omega)
 exact this n (Af _)
end
def vd:∀(a b:List Nat),pr (a++b)=pr a*pr b
 |[],b=>by show pr b=1*pr b;(first|lia|omega)
 |t::a,b=>by show t*pr (a++b)=t*pr a*pr b;rw[vd a b,AO]
def Lh(g:Nat->Vc)(k:Nat):tn g (k+1)=tn g k++[(g k k).toNat]:=by unfold tn;rw[List.range_succ,Aw];rfl
def pC{g:Nat->Vc}:∀{k:Nat},(∀i,i<k->0<g i i)->1<=pr (tn g k)
 |0,_=>Af _
 |k+1,h=>by
  rw[Lh,vd];have h1:=pC (k:=k) fun i hi=>h i ω;have h2:=h k ω;exact ph h1 (by show 1<=(g k k).toNat*1;(first|lia|omega))
def Iy{g:Nat->Vc}{k:Nat}(h:∀i,i<k+1->0<g i i):(g k k).toNat<=pr (tn g (k+1)):=by
 rw[Lh,vd];have:=pC (k:=k) fun i hi=>h i ω;show _<=pr (tn g k)*((g k k).toNat*1);rw[Nat.mul_one];exact Nat.le_mul_of_pos_left _ this
section
variable{k r w M g:Nat}{ρ:Nat->Vc}{Q:Nat->Nat}
def pl(r j:Nat)(Q:Nat->Nat):List Nat:=Ah (min j r)++(Ah (j-r)).map Q
def Li{j:Nat}:(pl r j Q).length=j:=by unfold pl;rw[AJ,A6,Aa,A6];(first|lia|omega)
def Tri.sum_le(T:Tri k r w M g ρ Q){j V:Nat}{c:Vc}(e:j<=k)(b:∀p∈pl r j Q,(sm ρ c j p).natAbs<=V):sc c j+V<=V*(1+g) ^ j:=by
 rcases Be j r with h|h
 ·have:=T.top_sum (m:=j) ω fun i hi=>b i (AY _ (List.mem_range.mpr ω))
  have g2:2 ^ j<=(1+g) ^ j:=Nat.pow_le_pow_left (by have:=T.g1;(first|lia|omega)) _;exact Ag this (Ak _ g2)
 ·have:=T.all_sum (c:=c) (V:=V) (j-r) ω (fun i hi=>?_) fun a d=>?_
  ·rw[show r+(j-r)=j from ω] at this
   have g2:2 ^ r<=(1+g) ^ r:=Nat.pow_le_pow_left (by have:=T.g1;(first|lia|omega)) _;have g3:V*2 ^ r*(1+g) ^ (j-r)<=V*(1+g) ^ r*(1+g) ^ (j-r):=Al _ (Ak _ g2);rw[AO V ((1+g) ^ r),<-Nat.pow_add,show r+(j-r)=j from ω] at g3;exact Ag this g3
  ·rw[show r+(j-r)=j from ω]
   exact b i (AY _ (List.mem_range.mpr ω))
  ·rw[show r+(j-r)=j from ω]
   exact b (Q a) (Ay _ (List.mem_map.mpr ⟨a,List.mem_range.mpr d,rfl⟩))
def Tri.lead(T:Tri k r w M g ρ Q){j p:Nat}{c:Vc}(G:j<=k)(hz:∀u,u<p->sm ρ c j u=0)(hp:sm ρ c j p≠0):p∈pl r j Q:=by
 by_cases C:∃i,i<min j r/\c i≠0
 ·-- fJ f row of fJ slope that stands there
  have f:∀m,m<=min j r->(∃i,i<m/\c i≠0)->∃i,i<m/\c i≠0/\∀d,i<d->d<m->c d=0:=by
   intro m
   induction m with
   |zero=>rintro _ ⟨i,hi,_⟩;(first|lia|omega)
   |succ m ih=>
    rintro F ⟨i,hi,hc⟩
    by_cases e:c m=0
    ·obtain⟨d,h1,h2,q⟩:=ih ω ⟨i,by rcases Be i m with h|h;exact h;exact absurd (show c i=0 by rw[show i=m from ω];exact e) hc,hc⟩
     exact⟨d,ω,h2,fun y D E=>by by_cases e2:y=m;rw[e2];exact e;exact q y D ω⟩
    ·exact⟨m,ω,e,fun d h1 h2=>ω⟩
  obtain⟨i,hi,hc,s⟩:=f _ (Af _) C;have v:i<r:=ω
  have e:sm ρ c j i=c i*ρ i i:=by
   have h1:=u0 (ρ:=ρ) (c:=c) (u:=i) (j-(i+1)) (i+1) fun d h1 h2=>by
    by_cases h:d<r
    ·rw[s d ω ω,Int.zero_mul]
    ·have:=T.low (a:=d-r) (u:=i) ω (by have:=T.rw;(first|lia|omega))
     rw[show r+(d-r)=d from ω] at this;rw[this,Int.mul_zero]
   rw[show i+1+(j-(i+1))=j from ω] at h1;rw[h1];show sm ρ c i i+c i*ρ i i=_;rw[uY i fun d l=>by rw[T.tz d i ω l (by have:=T.rw;(first|lia|omega)),Int.mul_zero]];(first|lia|omega)
  have x:sm ρ c j i≠0:=by rw[e];exact Int.mul_ne_zero hc (by have:=T.tp i v;(first|lia|omega))
  have:p<=i:=by
   rcases Be i p with h|h
   ·exact absurd (hz i h) x
   ·exact h
  exact AY _ (List.mem_range.mpr ω)
 ·have A:∀i,i<min j r->c i=0:=fun i hi=>AN fun z=>C ⟨i,hi,z⟩
  have first:∀n,(∃a,a<n/\c (r+a)≠0)->∃a,a<n/\c (r+a)≠0/\∀b,b<a->c (r+b)=0:=by
   intro n
   induction n with
   |zero=>rintro⟨a,o,_⟩;(first|lia|omega)
   |succ n ih=>
    rintro⟨a,o,hc⟩
    by_cases h:∃a,a<n/\c (r+a)≠0
    ·obtain⟨a',h1,h2,q⟩:=ih h
     exact⟨a',ω,h2,q⟩
    ·exact⟨a,o,hc,fun b hb=>AN fun z=>h ⟨b,ω,z⟩⟩
  have ex:∃a,a<j-r/\c (r+a)≠0:=AN fun no=>hp (uY j fun i hi=>by
   by_cases h:i<r
   ·rw[A i ω,Int.zero_mul]
   ·have:c (r+(i-r))=0:=AN fun z=>no ⟨i-r,ω,z⟩
    rw[show r+(i-r)=i from ω] at this;rw[this,Int.zero_mul])
  obtain⟨a,o,hc,s⟩:=first _ ex;have e:∀u,u<=Q a->sm ρ c j u=c (r+a)*ρ (r+a) u:=fun u hu=>by
   have h1:=u0 (ρ:=ρ) (c:=c) (u:=u) (j-(r+a+1)) (r+a+1) fun d h1 h2=>by
    have:=T.kz (d-r) u ω (by have:=T.qs a (d-r) ω ω;(first|lia|omega));rw[show r+(d-r)=d from ω] at this;rw[this,Int.mul_zero]
   rw[show r+a+1+(j-(r+a+1))=j from ω] at h1;rw[h1];show sm ρ c (r+a) u+c (r+a)*ρ (r+a) u=_;rw[uY (r+a) fun d l=>by
    by_cases h:d<r
    ·rw[A d ω,Int.zero_mul]
    ·have:=s (d-r) ω
     rw[show r+(d-r)=d from ω] at this;rw[this,Int.zero_mul]]
   (first|lia|omega)
  have hk:=T.kp a ω;have e1:p=Q a:=by
   rcases Nat.lt_trichotomy p (Q a) with h|h|h
   ·exact absurd (by rw[e p ω,T.kz a p ω h,Int.mul_zero]) hp
   ·exact h
   ·exact absurd (by rw[<-e (Q a) (Af _)];exact hz (Q a) h) (Int.mul_ne_zero hc (show ρ (r+a) (Q a)≠0 from ω))
  rw[e1];exact Ay _ (List.mem_map.mpr ⟨a,List.mem_range.mpr o,rfl⟩)
def Tri.rows_le(T:Tri k r w M g ρ Q){j i p:Nat}(l:j<=k)(hi:i<j)(hp:p∈pl r j Q):(ρ i p).natAbs<=M:=by
 rcases List.mem_append.mp hp with h|h
 ·have h:=List.mem_range.mp h
  by_cases b:i<r
  ·have:=T.tm i b
   rcases Nat.lt_trichotomy p i with g|g|g
   ·have:=T.tl i p b g;(first|lia|omega)
   ·subst g;exact this
   ·rw[T.tz i p b g (by have:=T.rw;(first|lia|omega))];exact Ar _
  ·have:=T.low (a:=i-r) (u:=p) ω (by have:=T.rw;(first|lia|omega))
   rw[show r+(i-r)=i from ω] at this;rw[this];exact Ar _
 ·obtain⟨a,c,rfl⟩:=List.mem_map.mp h
  have c:=List.mem_range.mp c;have d:=T.km a ω;have f:1*(ρ (r+a) (Q a)).natAbs<=g*(ρ (r+a) (Q a)).natAbs:=Al _ T.g1
  by_cases b:i<r
  ·have:=T.tq i a b ω;(first|lia|omega)
  ·rcases Nat.lt_trichotomy (i-r) a with g'|g'|g'
   ·have:=T.kq (i-r) a g' ω
    rw[show r+(i-r)=i from ω] at this;(first|lia|omega)
   ·have e:ρ i (Q a)=ρ (r+a) (Q a):=by rw[<-g',show r+(i-r)=i from ω]
    rw[e];(first|lia|omega)
   ·have:=T.kz (i-r) (Q a) ω (T.qs a (i-r) g' ω)
    rw[show r+(i-r)=i from ω] at this;rw[this];exact Ar _
def Lj(T:Tri k r w M g ρ Q){N B:Nat}(X:∀a,a<k-r->(ρ (r+a) (Q a)).natAbs<=B)(W:∀m,m<=r->pr (tn ρ m)<=B)(hk:k<=N){j:Nat}(F:j<=k):Bd N M ((1+g) ^ N) B ((Ah j).map ρ):=by
 have o:((Ah j).map ρ).length=j:=by simp
 have D:∀(c:List Int),c.length=j->∀u,cmb c ((Ah j).map ρ) u=sm ρ (vl c) j u:=fun c hc u=>by
  have:=FT (ρ:=ρ) (c:=vl c) u j;rw[<-hc,Le] at this;rw[<-hc];exact this
 have small:∀(c:List Int)(V:Nat),c.length=j->(∀p∈pl r j Q,(cmb c ((Ah j).map ρ) p).natAbs<=V)->∀x∈c,x.natAbs<=V*(1+g) ^ j:=fun c V hc d x hx=>by
  have h1:=T.sum_le (c:=vl c) F fun p hp=>by rw[<-D c hc];exact d p hp
  obtain⟨i,hi,rfl⟩:=A8 hx;have h2:=Qj (c:=vl c) (n:=j) (i:=i) ω;have e:vl c i=c[i]:=by unfold vl;rw[Ad,Ac hi];rfl
  rw[e] at h2;(first|lia|omega)
 have ind:jm ((Ah j).map ρ):=fun c hc hz x hx=>by
  have:=small c 0 (by rw[hc,o]) (fun p _=>by rw[hz];exact Af 0) x hx;(first|lia|omega)
 refine⟨ind,fun P f h y G H J=>?_⟩;rw[o] at J;have O:P.Nodup:=y.imp fun h=>Az h;have sub:∀p∈P,p∈pl r j Q:=fun p hp=>by
  obtain⟨c,hc,e⟩:=H p hp;rw[o] at hc;refine T.lead (c:=vl c) F (fun u hu=>?_) ?_
  ·rw[<-D c hc,<-e];exact h.z p hp u hu
  ·rw[<-D c hc,<-e];have:=h.pos p hp;(first|lia|omega)
 have l:∀p∈pl r j Q,p∈P:=fun p hp=>AN fun z=>by
  have E:(p::P).Nodup:=List.nodup_cons.mpr ⟨z,O⟩;have:=E.length_le_of_subset (l₂:=pl r j Q) fun x hx=>by
   rcases List.mem_cons.mp hx with rfl|hx
   ·exact hp
   ·exact sub x hx
  rw[Li,AH] at this;(first|lia|omega)
 refine⟨fun p hp=>?_,fun s L p hp=>?_,fun c V hc d x hx=>?_⟩
 ·rcases List.mem_append.mp (sub p hp) with hg|hg
  ·have hg:=List.mem_range.mp hg
   have two:Two (Sp ((Ah j).map ρ)) (min j r) ρ f:=by
    have b:∀i,i<min j r->i∈P:=fun i hi=>l i (AY _ (List.mem_range.mpr hi));refine⟨⟨Sp.zero,fun m d hw=>d.sub hw m⟩,fun i hi=>Sp.mem (List.mem_map.mpr ⟨i,List.mem_range.mpr ω,rfl⟩),fun i hi=>T.tp i ω,fun i A h1 h2=>T.tz i A ω h1 (by have:=T.rw;(first|lia|omega)),fun i hi=>H i (b i hi),fun i hi=>h.pos i (b i hi),fun i A hi C=>h.z i (b i hi) A C,fun v i d hi hz=>?_⟩;exact ki h y (b i hi) (d.trans G) fun q _ hq=>hz q hq
   have h1:=Ix two (k:=p+1) ω;have h2:=Iy (g:=f) (k:=p) fun i hi=>two.fp i ω;have Y:=W (p+1) ω;have Z:=h.pos p hp;(first|lia|omega)
  ·obtain⟨a,I,rfl⟩:=List.mem_map.mp hg
   have I:=List.mem_range.mp I;have sp:Sp (P.map f) (ρ (r+a)):=G _ (List.mem_map.mpr ⟨r+a,List.mem_range.mpr ω,rfl⟩);have hd:=ki h y hp sp fun q _ hq=>T.kz a q ω hq;have S:=T.kp a ω;have:=Nat.le_of_dvd ω (Int.natAbs_dvd_natAbs.mpr hd);have:=X a ω;(first|lia|omega)
 ·obtain⟨i,hi,rfl⟩:=List.mem_map.mp L
  exact T.rows_le F (List.mem_range.mp hi) (sub p hp)
 ·rw[o] at hc
  refine Ag (small c V hc (fun p hp=>d p (l p hp)) x hx) ?_;have h1:(1+g) ^ j<=(1+g) ^ N:=AC ω ω;have h2:V*(1+g) ^ j<=V*(1+g) ^ N:=Ak _ h1;have U:1<=N:=by
   have:0<c.length:=List.length_pos_of_mem hx;(first|lia|omega)
  exact Ag h2 (Nat.le_mul_of_pos_left _ U)
end
section
variable{k r w M g N X B:Nat}{ρ f:Nat->Vc}{Q:Nat->Nat}{P:List Nat}
def Qk{l m:List Nat}(h1:l.Pairwise (·<·))(h2:m.Pairwise (·<·))(h:∀x,x∈l↔x∈m):l=m:=
 List.Perm.eq_of_pairwise (le:=fun a b=>a<=b) (fun a b _ _ g1 g2=>Nat.le_antisymm g1 g2) (h1.imp fun h=>Nat.le_of_lt h) (h2.imp fun h=>Nat.le_of_lt h) ((List.perm_ext_iff_of_nodup (h1.imp fun h=>ω) (h2.imp fun h=>ω)).mpr h)
def Tri.pl_srt(T:Tri k r w M g ρ Q){j:Nat}(d:j<=k):(pl r j Q).Pairwise (·<·):=by
 unfold pl;rw[List.pairwise_append,List.pairwise_map];refine⟨List.pairwise_lt_range,List.pairwise_lt_range.imp_of_mem fun{a b} c hb h=>T.qs a b h (by have:=List.mem_range.mp hb;(first|lia|omega)),fun x hx y hy=>?_⟩;obtain⟨a,c,rfl⟩:=List.mem_map.mp hy;have:=List.mem_range.mp hx;have:=List.mem_range.mp c;have:=T.qw a ω;have:=T.rw;(first|lia|omega)
def Tri.places(T:Tri k r w M g ρ Q){j:Nat}(d:j<=k)(h:Ech P f)(i:P.Pairwise (·<·))(l:∀p∈P,Sp ((Ah j).map ρ) (f p))(o:P.length=j):P=pl r j Q:=by
 have sub:∀p∈P,p∈pl r j Q:=fun p hp=>by
  obtain⟨c,hc,e⟩:=l p hp;have hc:c.length=j:=by simpa using hc
  have b:∀u,cmb c ((Ah j).map ρ) u=sm ρ (vl c) j u:=fun u=>by
   have:=FT (ρ:=ρ) (c:=vl c) u j;rw[<-hc,Le] at this;rw[<-hc];exact this
  refine T.lead (c:=vl c) d (fun u hu=>?_) ?_
  ·rw[<-b,<-e];exact h.z p hp u hu
  ·rw[<-b,<-e];have:=h.pos p hp;(first|lia|omega)
 refine Qk i (T.pl_srt d) fun x=>⟨sub x,fun hx=>AN fun z=>?_⟩;have a:(x::P).Nodup:=List.nodup_cons.mpr ⟨z,i.imp fun h=>Az h⟩;have:=a.length_le_of_subset (l₂:=pl r j Q) fun y hy=>by
  rcases List.mem_cons.mp hy with rfl|hy
  ·exact hx
  ·exact sub y hy
 rw[Li,AH] at this;(first|lia|omega)
structure Lk(k r w:Nat)(ρ f:Nat->Vc)(Q:Nat->Nat):Prop where
 fi:∀i,i<r->Sp ((Ah k).map ρ) (f i)
 fq:∀a,a<k-r->Sp ((Ah k).map ρ) (f (Q a))
 fz:∀i u,i<r->u<i->f i u=0
 fp:∀i,i<r->0<f i i
 fr:∀i j,i<j->j<r->0<=f i j/\f i j<f j j
 fo:∀i u,i<r->r<=u->u<w->f i u=0
 qz:∀a u,a<k-r->u<Q a->f (Q a) u=0
 qp:∀a,a<k-r->0<f (Q a) (Q a)
 qr:∀a b,a<b->b<k-r->0<=f (Q a) (Q b)/\f (Q a) (Q b)<f (Q b) (Q b)
 ir:∀i a,i<r->a<k-r->0<=f i (Q a)/\f i (Q a)<f (Q a) (Q a)
 qd:∀a,a<k-r->(f (Q a) (Q a)).natAbs<=(ρ (r+a) (Q a)).natAbs
 le:∀m,m<=r->pr (tn f m)<=pr (tn ρ m)
 hv:(∃m,m<=r/\2*pr (tn f m)<=pr (tn ρ m))\/∀i,i<r->f i i=ρ i i/\∀j,j<r->j≠i->f i j=0
def Tri.round(T:Tri k r w M g ρ Q)(F:FS N M X B ((Ah k).map ρ) P f):P=pl r k Q/\Lk k r w ρ f Q:=by
 have D:((Ah k).map ρ).length=k:=by simp
 have E:P.length=k:=by rw[F.len,D]
 have sp:∀p∈P,Sp ((Ah k).map ρ) (f p):=fun p hp=>(F.fr p hp).sp;have e:=T.places (Af k) F.ech F.srt sp E;have rk:=T.rk;have i1:∀i,i<r->i∈P:=fun i hi=>by rw[e];exact AY _ (List.mem_range.mpr ω)
 have i2:∀a,a<k-r->Q a∈P:=fun a d=>by rw[e];exact Ay _ (List.mem_map.mpr ⟨a,List.mem_range.mpr d,rfl⟩)
 have two:Two (Sp ((Ah k).map ρ)) r ρ f:=by
  refine⟨⟨Sp.zero,fun m l hw=>l.sub hw m⟩,fun i hi=>Sp.mem (List.mem_map.mpr ⟨i,List.mem_range.mpr ω,rfl⟩),fun i hi=>T.tp i hi,fun i s h1 h2=>T.tz i s ω h1 (by have:=T.rw;(first|lia|omega)),fun i hi=>sp i (i1 i hi),fun i hi=>F.ech.pos i (i1 i hi),fun i s hi x=>F.ech.z i (i1 i hi) s x,fun v i l hi hz=>?_⟩;exact ki F.ech F.srt (i1 i hi) (l.trans F.gen) fun q _ hq=>hz q hq
 have o:∀i j,i<j->j<r->0<=f i j/\f i j<f j j:=fun i j h1 h2=>F.red i (i1 i ω) j (i1 j h2) h1;refine⟨e,fun i hi=>sp i (i1 i hi),fun a d=>sp _ (i2 a d),fun i u hi hu=>F.ech.z i (i1 i hi) u hu,fun i hi=>F.ech.pos i (i1 i hi),o,fun i u hi h1 h2=>?_,fun a u d hu=>F.ech.z _ (i2 a d) u hu,fun a d=>F.ech.pos _ (i2 a d),fun a b h1 h2=>F.red _ (i2 a ω) _ (i2 b h2) (T.qs a b h1 h2),fun i a hi d=>F.red i (i1 i hi) _ (i2 a d) (by have:=T.qw a d;have:=T.rw;(first|lia|omega)),fun a d=>?_,fun m A=>Ix two A,uR two o⟩
 ·obtain⟨c,hc,C⟩:=sp i (i1 i hi)
  rw[C];refine zL _ _ fun v l=>?_;obtain⟨j,y,rfl⟩:=List.mem_map.mp l;have y:=List.mem_range.mp y
  by_cases h:j<r
  ·exact T.tz j u h ω h2
  ·have:=T.low (a:=j-r) (u:=u) ω h2
   rwa [show r+(j-r)=j from ω] at this
 ·have hd:=ki F.ech F.srt (i2 a d) (F.gen (ρ (r+a)) (List.mem_map.mpr ⟨r+a,List.mem_range.mpr ω,rfl⟩)) fun q _ hq=>T.kz a q d hq
  have:=T.kp a d;exact Nat.le_of_dvd ω (Int.natAbs_dvd_natAbs.mpr hd)
end
def Ql{f:Nat->Vc}{P:List Nat}{V:Nat}(h:Ech P f)(I:P.Pairwise (·<·))(F:∀p∈P,∀q∈P,p<q->0<=f p q/\f p q<f q q){l:Vc}(i:Sp (P.map f) l)(w:∀p∈P,(l p).natAbs<=V*(f p p).natAbs):∀x∈shr f P l,x.natAbs<=V*2 ^ P.length:=by
 have e:=Ir h I i;generalize ha:shr f P l=a at e;have O:a.length=P.length:=by rw[<-ha,Iq]
 have C:∀(P1 P2:List Nat)(a1 a2:List Int)(S:Nat),P=P1++P2->a=a1++a2->a1.length=P1.length->(∀x∈a1,x.natAbs<=S)->(∀p∈P2,(cmb a1 (P1.map f) p).natAbs<=S*(f p p).natAbs)->V+S<=V*2 ^ P1.length->∀x∈a2,x.natAbs<=V*2 ^ P.length:=by
  intro P1 P2
  induction P2 generalizing P1 with
  |nil=>
   intro a1 a2 S b o r _ _ _ x hx;have:a2.length=0:=by have:=congrArg List.length o;have h2:=congrArg List.length b;rw[AJ] at this h2;simp at h2;(first|lia|omega)
   rw[AI this] at hx;cases hx
  |cons p P2 ih=>
   intro a1 a2 S b o r J G N x hx;cases a2 with
   |nil=>cases hx
   |cons y a2=>
    have hp:p∈P:=by rw[b];simp
    have g:=I;rw[b,List.pairwise_append,Ba] at g;have j:∀(c d:List Int)(A D:List Vc)(u:Nat),c.length=A.length->cmb (c++d) (A++D) u=cmb c A u+cmb d D u:=by
     intro c
     induction c with
     |nil=>intro d A D u i;rw[AI i.symm];show cmb d D u=0+cmb d D u;(first|lia|omega)
     |cons z c ih=>intro d A D u i;cases A with
      |nil=>simp at i
      |cons s A=>show z*s u+cmb (c++d) (A++D) u=z*s u+cmb c A u+cmb d D u;rw[ih d A D u (by simpa using i)];(first|lia|omega)
    have ep:l p=cmb a1 (P1.map f) p+y*f p p:=by
     rw[e,o,b,Aw,j _ _ _ _ _ (by rw[Aa,r])];show cmb a1 (P1.map f) p+(y*f p p+cmb a2 (P2.map f) p)=_;rw[zL a2 (P2.map f) fun v w=>by
      obtain⟨q,hq,rfl⟩:=List.mem_map.mp w;exact h.z q (by rw[b];simp[hq]) p (g.2.1.1 q hq)]
     (first|lia|omega)
    have H:=h.pos p hp;have hy:y.natAbs<=V+S:=by
     have L:=w p hp;have M:=G p (.head _);have E:y.natAbs*(f p p).natAbs<=V*(f p p).natAbs+S*(f p p).natAbs:=by rw[<-AK];(first|lia|omega)
     rw[<-Nat.add_mul] at E;exact Nat.le_of_mul_le_mul_right E ω
    have mono:V*2 ^ P1.length<=V*2 ^ P.length:=Ak _ (AC ξ (by rw[b];simp));rcases List.mem_cons.mp hx with rfl|hx
    ·(first|lia|omega)
    ·refine ih (P1++[p]) (a1++[y]) a2 (V+S+S) (by rw[b];simp) (by rw[o];simp) (by simp[r]) (fun z hz=>?_) (fun q hq=>?_) (by rw[AJ,List.length_singleton,Nat.pow_succ,<-AO];(first|lia|omega)) x hx
     ·rcases List.mem_append.mp hz with hz|hz
      ·have:=J z hz;(first|lia|omega)
      ·rw[List.mem_singleton.mp hz];(first|lia|omega)
     ·rw[Aw,j _ _ _ _ _ (by rw[Aa,r])]
      have L:=G q (.tail _ hq);have Q:=F p hp q (by rw[b];simp[hq]) (g.2.1.1 q hq);have M:(y*f p q).natAbs<=(V+S)*(f q q).natAbs:=by rw[AK];exact AQ hy ω
      have E:=Int.natAbs_add_le (cmb a1 (P1.map f) q) (y*f p q);show(cmb a1 (P1.map f) q+(y*f p q+0)).natAbs<=(V+S+S)*(f q q).natAbs;rw[Int.add_zero,Nat.add_mul (V+S) S];(first|lia|omega)
 exact C [] P [] a 0 rfl rfl rfl (fun x hx=>nomatch hx) (fun p _=>Ar _) (by simp)
def glue(m:Nat)(S W:Nat->Vc):Nat->Vc:=fun i u=>if u<m then S i u else W i (u-m)
def zW{m:Nat}{S W:Nat->Vc}{i u:Nat}(h:u<m):glue m S W i u=S i u:=if_pos h
def eX{m:Nat}{S W:Nat->Vc}{i t:Nat}:glue m S W i (m+t)=W i t:=by unfold glue;rw[if_neg ω,Nat.add_sub_cancel_left]
def tl(n:Nat)(W:Nat->Vc):List Vc:=(Ah n).map W
def Iz{m:Nat}:∀(c:List Int)(L:List Vc)(t:Nat),cmb c L (m+t)=cmb c (L.map fun l=>fun t=>l (m+t)) t
 |[],[],_=>rfl
 |[],_::_,_=>rfl
 |_::_,[],_=>rfl
 |a::c,l::L,t=>by show a*l (m+t)+cmb c L (m+t)=a*l (m+t)+_;rw[Iz c L t]
section
variable{n m N M X B:Nat}{S W f:Nat->Vc}{P:List Nat}{Bc:List Vc}
def mx(n:Nat)(sh:Ξ)(Bc:List Vc):List Vc:=(Ah n).map fun j=>fun s=>cmb (sh.map fun row=>row.getD j 0) Bc s
def B':(tl n (glue m S W)).map (fun r=>fun t=>r (m+t))=tl n W:=by
 unfold tl;rw[AT];exact A7 fun i _=>funext fun t=>eX
def FU(F:FS N M X B (tl n (glue m S W)) P f)(D:Both n (tl n W) Bc):Both n (P.map fun p=>fun t=>f p (m+t)) (mx n ((tl n (glue m S W)).map fun r=>shr f P r) Bc):=by
 have l:(tl n (glue m S W)).length=n:=by unfold tl;simp
 have e:P.length=n:=by rw[F.len,l]
 have q:=Dual.next (V:=P.map fun p=>fun t=>f p (m+t)) (sh:=(tl n (glue m S W)).map fun r=>shr f P r) D.a (by rw[Aa,e]) (by rw[Aa,l]) (fun row hr=>by
  obtain⟨r,_,rfl⟩:=List.mem_map.mp hr;rw[Iq,e]) fun i u row t hu hr g=>by
   unfold tl at hu hr;rw[Aj] at hu hr;obtain⟨h,b,rfl⟩:=Option.map_eq_some_iff.mp hu;rw[Aj,b] at hr;obtain rfl:=AL hr;have v:glue m S W h∈tl n (glue m S W):=List.mem_map.mpr ⟨h,An b,rfl⟩;have:=Ir F.ech F.srt (F.gen _ v) (m+t);rw[eX,Iz,AT] at this;exact this
 refine Qf q fun c hc hz x hx=>?_;have D':Both n ((tl n (glue m S W)).map fun r=>fun t=>r (m+t)) Bc:=by rw[B'];exact D
 obtain⟨d,hd,j⟩:Sp (tl n (glue m S W)) (cmb c (P.map f)):=Sp.cmb c _ fun s o=>by
  obtain⟨p,hp,rfl⟩:=List.mem_map.mp o;exact(F.fr p hp).sp
 have w:=D'.free hd fun t g=>by
  rw[<-j,Iz,AT];exact hz t g
 exact Ie F.ech F.srt c (by rw[hc,e]) (fun p _=>by rw[j];exact md d _ _ w) x hx
def Qm(F:FS N M X B (tl n (glue m S W)) P f){A:Nat}(a:∀i t,i<n->(W i t).natAbs<=A):∀p∈P,∀t,(f p (m+t)).natAbs<=N*(cC N X B*A):=fun p hp t=>by
 have:=(F.fr p hp).le (u:=m+t) (M:=A) fun r hr=>by
  obtain⟨i,hi,rfl⟩:=List.mem_map.mp hr;rw[eX];exact a i t (List.mem_range.mp hi)
 exact Ag this (Al _ F.few)
def Sp.ind{R:List Vc}{v:Vc}(C:Vc->Prop)(d:C fun _=>0)(i:∀(a:Int)(x y:Vc),C x->C y->C fun u=>a*x u+y u)(b:∀r∈R,C r)(h:Sp R v):C v:=by
 obtain⟨c,_,e⟩:=h;have:∀(c:List Int)(R:List Vc),(∀r∈R,C r)->C (Tb.cmb c R):=by
  intro c
  induction c with
  |nil=>intro R _;cases R<;>exact d
  |cons a c ih=>intro R b;cases R with
   |nil=>exact d
   |cons r R=>exact i a r (Tb.cmb c R) (b r (.head _)) (ih R fun s f=>b s (.tail _ f))
 have g:=this c R b
 rwa [<-funext e] at g
end
def pF{k:Nat}{a b b':Vc}{x:Int}:dot k a (fun u=>x*b u+b' u)=x*dot k a b+dot k a b':=by
 induction k with
 |zero=>show(0:Int)=x*0+0;(first|lia|omega)
 |succ k ih=>
  show dot k a _+a k*(x*b k+b' k)=x*(dot k a b+a k*b k)+(dot k a b'+a k*b' k);rw[ih,Int.mul_add,Int.mul_add,Int.mul_left_comm];(first|lia|omega)
def a6(k w:Nat)(A:Nat->Vc)(x y:Vc):Int:=dot k x fun s=>dot w (A s) y
def Ll{k w:Nat}{A:Nat->Vc}{a:Int}{x x' y:Vc}:a6 k w A (fun u=>a*x u+x' u) y=a*a6 k w A x y+a6 k w A x' y:=by
 unfold a6;have:=Is (k:=k) (a:=x) (a':=x') (b:=fun s=>dot w (A s) y) (x:=a) (y:=1);rw[Int.one_mul] at this;rw[<-this];exact zM fun t _=>ω
def Qn{k w:Nat}{A:Nat->Vc}{a:Int}{x y b:Vc}:a6 k w A x (fun u=>a*y u+b u)=a*a6 k w A x y+a6 k w A x b:=by
 unfold a6;rw[<-pF];exact zt fun s _=>by show dot w (A s) (fun u=>a*y u+b u)=a*dot w (A s) y+dot w (A s) b;exact pF
def Lm{k w:Nat}{A:Nat->Vc}{y:Vc}:a6 k w A (fun _=>0) y=0:=mq fun _ _=>rfl
def Qo{k w:Nat}{A:Nat->Vc}{x:Vc}:a6 k w A x (fun _=>0)=0:=by
 unfold a6;have:∀k,dot k x (fun s=>dot w (A s) fun _=>0)=0:=by
  intro k
  induction k with
  |zero=>rfl
  |succ k ih=>
   have z:dot w (A k) (fun _=>0)=0:=by
    have:∀w,dot w (A k) (fun _=>0)=0:=by intro w;induction w with|zero=>rfl|succ w ih=>show dot w (A k) _+A k w*0=0;rw[ih];(first|lia|omega)
    exact this w
   show dot k x _+x k*dot w (A k) (fun _=>0)=0;rw[ih,z];(first|lia|omega)
 exact this k
def Ln{k w N M X B:Nat}{A T U V f:Nat->Vc}{P:List Nat}(F:FS N M X B (tl k (glue w (fun i u=>T u i) U)) P f)(b:∀u i,u<w->i<k->T u i=a6 k w A (U i) (V u)):∀p∈P,∀u,u<w->f p u=a6 k w A (fun t=>f p (w+t)) (V u):=fun p hp u hu=>by
 refine Sp.ind (C:=fun v=>v u=a6 k w A (fun t=>v (w+t)) (V u)) Lm.symm (fun a x y hx hy=>?_) (fun r hr=>?_) (F.fr p hp).sp
 ·show a*x u+y u=a6 k w A (fun t=>a*x (w+t)+y (w+t)) (V u)
  rw[Ll,<-hx,<-hy]
 ·obtain⟨i,hi,rfl⟩:=List.mem_map.mp hr
  show glue w (fun i u=>T u i) U i u=a6 k w A (fun t=>glue w (fun i u=>T u i) U i (w+t)) (V u);rw[zW hu,show(fun t=>glue w (fun i u=>T u i) U i (w+t))=U i from funext fun t=>eX];exact b u i hu (List.mem_range.mp hi)
def Lo{k w N M X B:Nat}{A T U V f:Nat->Vc}{P:List Nat}(F:FS N M X B (tl w (glue k (fun u i=>T i u) V)) P f)(b:∀i u,i<k->u<w->T i u=a6 k w A (U i) (V u)):∀p∈P,∀i,i<k->f p i=a6 k w A (U i) (fun t=>f p (k+t)):=fun p hp i hi=>by
 refine Sp.ind (C:=fun v=>v i=a6 k w A (U i) (fun t=>v (k+t))) Qo.symm (fun a x y hx hy=>?_) (fun r hr=>?_) (F.fr p hp).sp
 ·show a*x i+y i=a6 k w A (U i) (fun t=>a*x (k+t)+y (k+t))
  rw[Qn,<-hx,<-hy]
 ·obtain⟨u,hu,rfl⟩:=List.mem_map.mp hr
  show glue k (fun u i=>T i u) V u i=a6 k w A (U i) (fun t=>glue k (fun u i=>T i u) V u (k+t));rw[zW hi,show(fun t=>glue k (fun u i=>T i u) V u (k+t))=V u from funext fun t=>eX];exact b i u hi (List.mem_range.mp hu)
structure Ker(n r g b:Nat)(W:Nat->Vc)(Q:Nat->Nat):Prop where
 qs:∀a c,a<c->c<n-r->Q a<Q c
 kz:∀a u,a<n-r->u<Q a->W (r+a) u=0
 kp:∀a,a<n-r->0<W (r+a) (Q a)
 kq:∀a c,a<c->c<n-r->0<=W (r+a) (Q c)/\W (r+a) (Q c)<W (r+c) (Q c)
 tq:∀i a,i<r->a<n-r->(W i (Q a)).natAbs<=g*(W (r+a) (Q a)).natAbs
 km:∀a,a<n-r->(W (r+a) (Q a)).natAbs<=b
structure IA(n r m:Nat)(S:Nat->Vc):Prop where
 tp:∀i,i<r->0<S i i
 tz:∀i j,i<r->i<j->j<m->S i j=0
 tl:∀i j,i<r->j<i->(S i j).natAbs<=(S i i).natAbs
 z:∀i u,r<=i->i<n->u<m->S i u=0
section
variable{n r m g b M:Nat}{S W:Nat->Vc}{Q:Nat->Nat}
def Lp(f:r<=n)(l:r<=m)(hg:1<=g)(H:IA n r m S)(K:Ker n r g b W Q)(hb:g*b<=M)(o:∀i,i<r->(S i i).natAbs<=M):Tri n r m M g (glue m S W) (fun a=>m+Q a):=by
 refine⟨hg,f,l,fun a c h1 h2=>by have:=K.qs a c h1 h2;show m+Q a<m+Q c;(first|lia|omega),fun a _=>A4 _ _,fun i hi=>by rw[zW ω];exact H.tp i hi,fun i j hi h1 h2=>by rw[zW h2];exact H.tz i j hi h1 h2,fun i j hi e=>by rw[zW ω,zW ω];exact H.tl i j hi e,fun i a hi d=>by rw[eX,eX];exact K.tq i a hi d,fun a u d hu=>?_,fun a d=>by rw[eX];exact K.kp a d,fun a c h1 h2=>by rw[eX,eX];exact K.kq a c h1 h2,fun i hi=>by rw[zW ω];exact o i hi,fun a d=>by rw[eX];exact Ag (Ak _ (K.km a d)) hb⟩
 by_cases h:u<m
 ·rw[zW h];exact H.z (r+a) u ω ω h
 ·rw[show u=m+(u-m) from ω,eX]
  exact K.kz a _ d (by have:u<m+Q a:=hu;(first|lia|omega))
end
def pls(r m:Nat)(Q:Nat->Nat)(i:Nat):Nat:=if i<r then i else m+Q (i-r)
def hA{r m:Nat}{Q:Nat->Nat}{i:Nat}(h:i<r):pls r m Q i=i:=if_pos h
def kF{r m:Nat}{Q:Nat->Nat}{a:Nat}:pls r m Q (r+a)=m+Q a:=by unfold pls;rw[if_neg ω,Nat.add_sub_cancel_left]
def IB{r m n:Nat}{Q:Nat->Nat}(h:r<=n):pl r n (fun a=>m+Q a)=(Ah n).map (pls r m Q):=by
 unfold pl;rw[Nat.min_eq_right h];apply AZ
 ·simp;(first|lia|omega)
 ·intro i h1 h2
  rw[AS,A5]
  by_cases hi:i<r
  ·rw[List.getElem_append_left (by simpa using hi),A5,hA hi]
  ·rw[List.getElem_append_right (by simp;(first|lia|omega)),AS,A5,A6]
   unfold pls;rw[if_neg hi]
section
variable{n r m g b M N X B:Nat}{S W f:Nat->Vc}{Q:Nat->Nat}{P:List Nat}
def Lq(o:r<=n)(p:r<=m)(K:Ker n r g b W Q)(R:Lk n r m (glue m S W) f (fun a=>m+Q a)):Ker n r 1 b (fun i t=>f (pls r m Q i) (m+t)) Q/\(∀i,i<r->0<f (pls r m Q i) i)/\(∀i j,i<r->j<i->f (pls r m Q i) j=0)/\(∀i j,i<j->j<r->0<=f (pls r m Q i) j/\f (pls r m Q i) j<f (pls r m Q j) j)/\(∀i u,i<n->u<m->(r<=i\/r<=u)->f (pls r m Q i) u=0):=by
 refine⟨⟨K.qs,fun a u d hu=>?_,fun a d=>?_,fun a c h1 h2=>?_,fun i a hi d=>?_,fun a d=>?_⟩,fun i hi=>?_,fun i j hi l=>?_,fun i j h1 h2=>?_,fun i u hi hu h=>?_⟩
 ·show f (pls r m Q (r+a)) (m+u)=0
  rw[kF];exact R.qz a (m+u) d (by show m+u<m+Q a;(first|lia|omega))
 ·show 0<f (pls r m Q (r+a)) (m+Q a)
  rw[kF];exact R.qp a d
 ·show 0<=f (pls r m Q (r+a)) (m+Q c)/\f (pls r m Q (r+a)) (m+Q c)<f (pls r m Q (r+c)) (m+Q c)
  rw[kF,kF];exact R.qr a c h1 h2
 ·show(f (pls r m Q i) (m+Q a)).natAbs<=1*(f (pls r m Q (r+a)) (m+Q a)).natAbs
  rw[hA hi,kF];have:=R.ir i a hi d;have this:0<=f i (m+Q a)/\f i (m+Q a)<f (m+Q a) (m+Q a):=this;(first|lia|omega)
 ·show(f (pls r m Q (r+a)) (m+Q a)).natAbs<=b
  rw[kF];have h1:=R.qd a d;have h1:(f (m+Q a) (m+Q a)).natAbs<=(glue m S W (r+a) (m+Q a)).natAbs:=h1;rw[eX] at h1;exact Ag h1 (K.km a d)
 ·rw[hA hi];exact R.fp i hi
 ·rw[hA hi];exact R.fz i j hi l
 ·rw[hA (show i<r from ω),hA h2];exact R.fr i j h1 h2
 ·by_cases e:i<r
  ·rw[hA e];exact R.fo i u e ω hu
  ·rw[show i=r+(i-r) from ω,kF]
   exact R.qz (i-r) u ω (by show u<m+Q (i-r);(first|lia|omega))
end
def iR{g g':Nat->Vc}{k:Nat}(h:∀i,i<k->g i i=g' i i):tn g k=tn g' k:=by
 unfold tn;exact A7 fun i hi=>by rw[h i (List.mem_range.mp hi)]
structure LI(A:Nat->Vc)(k w r D bU bV g:Nat)(T U V:Nat->Vc)(Bn Bf:List Vc)(QU QV:Nat->Nat):Prop where
 rk:r<=k
 rw:r<=w
 g1:1<=g
 bl:∀u i,u<w->i<k->T u i=a6 k w A (U i) (V u)
 bu:Both k (tl k U) Bn
 bv:Both w (tl w V) Bf
 ku:Ker k r g bU U QU
 kv:Ker w r 1 bV V QV
 tp:∀u,u<r->0<T u u
 tz:∀u i,u<r->i<u->T u i=0
 tr:∀u i,u<i->i<r->0<=T u i/\T u i<T i i
 to:∀u i,u<w->i<k->(r<=u\/r<=i)->T u i=0
 pd:∀m,m<=r->pr (tn T m)<=D
structure LM(A:Nat->Vc)(k w r D bU bV g:Nat)(S U V:Nat->Vc)(Bn Bf:List Vc)(QU QV:Nat->Nat):Prop where
 rk:r<=k
 rw:r<=w
 g1:1<=g
 bl:∀i u,i<k->u<w->S i u=a6 k w A (U i) (V u)
 bu:Both k (tl k U) Bn
 bv:Both w (tl w V) Bf
 ku:Ker k r g bU U QU
 kv:Ker w r 1 bV V QV
 sl:IA w r k (fun u i=>S i u)
 pd:∀m,m<=r->pr (tn S m)<=D
section
variable{A T U V S f:Nat->Vc}{k w r D bU bV g M N X B:Nat}{Bn Bf:List Vc}{QU QV:Nat->Nat}{P:List Nat}
def LI.slp(I:LI A k w r D bU bV g T U V Bn Bf QU QV):IA k r w (fun i u=>T u i):=
 ⟨I.tp,fun i j hi h1 h2=>by
  by_cases h:j<r
  ·exact I.tz j i h h1
  ·exact I.to j i h2 (by have:=I.rk;(first|lia|omega)) (.inl ω),fun i j hi a=>by have:=I.tr j i a hi;show(T j i).natAbs<=(T i i).natAbs;(first|lia|omega),fun i u h1 h2 b=>I.to u i b h2 (.inr h1)⟩
def LI.diag_le(I:LI A k w r D bU bV g T U V Bn Bf QU QV){i:Nat}(hi:i<r):(T i i).natAbs<=D:=by
 have h1:=Iy (g:=T) (k:=i) fun j a=>I.tp j ω;have h2:=I.pd (i+1) ω;have b:=I.tp i hi;(first|lia|omega)
def LI.near_tri(I:LI A k w r D bU bV g T U V Bn Bf QU QV)(b:g*bU<=M)(c:D<=M):Tri k r w M g (glue w (fun i u=>T u i) U) (fun a=>w+QU a):=
 Lp I.rk I.rw I.g1 I.slp I.ku b fun i hi=>Ag (I.diag_le hi) c
def IC(I:LI A k w r D bU bV g T U V Bn Bf QU QV){m:Nat}(a:m<=r):tn (glue w (fun i u=>T u i) U) m=tn T m:=iR fun i hi=>by rw[zW (by have:=I.rw;(first|lia|omega))]
def LI.near_done(I:LI A k w r D bU bV g T U V Bn Bf QU QV)(Tr:Tri k r w M g (glue w (fun i u=>T u i) U) (fun a=>w+QU a))(F:FS N M X B (tl k (glue w (fun i u=>T u i) U)) P f):P=(Ah k).map (pls r w QU)/\LM A k w r D bU bV 1 (fun i=>f (pls r w QU i)) (fun i t=>f (pls r w QU i) (w+t)) V (mx k ((tl k (glue w (fun i u=>T u i) U)).map fun r=>shr f P r) Bn) Bf QU QV/\ (∀m,m<=r->pr (tn (fun i=>f (pls r w QU i)) m)<=pr (tn T m))/\((∃m,m<=r/\2*pr (tn (fun i=>f (pls r w QU i)) m)<=pr (tn T m))\/∀i,i<r->f (pls r w QU i) i=T i i/\∀j,j<r->j≠i->f (pls r w QU i) j=0):=by
 obtain⟨c,R⟩:=Tr.round F;rw[IB I.rk] at c;obtain⟨q,n1,n2,s,d⟩:=Lq I.rk I.rw I.ku R;have l:∀m,m<=r->tn (fun i=>f (pls r w QU i)) m=tn f m:=fun m b=>iR fun i hi=>by show f (pls r w QU i) i=f i i;rw[hA ω]
 have le:∀m,m<=r->pr (tn (fun i=>f (pls r w QU i)) m)<=pr (tn T m):=fun m b=>by rw[l m b,<-IC I b];exact R.le m b
 refine⟨c,⟨I.rk,I.rw,Af 1,fun i u hi hu=>?_,?_,I.bv,q,I.kv,⟨n1,fun u i hu h1 h2=>?_,fun u i hu hi=>?_,fun u i h1 h2 o=>?_⟩,fun m b=>Ag (le m b) (I.pd m b)⟩,le,?_⟩
 ·exact Ln F I.bl _ (by rw[c];exact List.mem_map.mpr ⟨i,List.mem_range.mpr hi,rfl⟩) u hu
 ·have:=FU F I.bu
  have e:(P.map fun p=>fun t=>f p (w+t))=tl k (fun i t=>f (pls r w QU i) (w+t)):=by rw[c,AT];rfl
  rw[e] at this;exact this
 ·show f (pls r w QU i) u=0
  by_cases h:i<r
  ·exact n2 i u h h1
  ·exact d i u h2 (by have:=I.rw;(first|lia|omega)) (.inl ω)
 ·show(f (pls r w QU i) u).natAbs<=(f (pls r w QU u) u).natAbs
  have:=s i u hi hu;(first|lia|omega)
 ·exact d i u o h2 (.inr h1)
 ·rcases R.hv with ⟨m,b,h⟩|h
  ·exact .inl ⟨m,b,by rw[l m b,<-IC I b];exact h⟩
  ·refine .inr fun i hi=>?_
   obtain⟨h1,h2⟩:=h i hi;rw[zW (by have:=I.rw;(first|lia|omega))] at h1;rw[hA hi];exact⟨h1,h2⟩
def LM.diag_le(I:LM A k w r D bU bV g S U V Bn Bf QU QV){i:Nat}(hi:i<r):(S i i).natAbs<=D:=by
 have h1:=Iy (g:=S) (k:=i) fun j b=>I.sl.tp j ω;have h2:=I.pd (i+1) ω;have a:=I.sl.tp i hi;have a:0<S i i:=a;(first|lia|omega)
def LM.far_tri(I:LM A k w r D bU bV g S U V Bn Bf QU QV)(c:bV<=M)(b:D<=M):Tri w r k M 1 (glue k (fun u i=>S i u) V) (fun a=>k+QV a):=
 Lp I.rw I.rk (Af 1) I.sl I.kv ω fun i hi=>Ag (I.diag_le hi) b
def LM.far_done(I:LM A k w r D bU bV g S U V Bn Bf QU QV)(Tr:Tri w r k M 1 (glue k (fun u i=>S i u) V) (fun a=>k+QV a))(F:FS N M X B (tl w (glue k (fun u i=>S i u) V)) P f):P=(Ah w).map (pls r k QV)/\LI A k w r D bU bV g (fun u=>f (pls r k QV u)) U (fun u t=>f (pls r k QV u) (k+t)) Bn (mx w ((tl w (glue k (fun u i=>S i u) V)).map fun r=>shr f P r) Bf) QU QV/\ (∀m,m<=r->pr (tn (fun u=>f (pls r k QV u)) m)<=pr (tn S m))/\((∃m,m<=r/\2*pr (tn (fun u=>f (pls r k QV u)) m)<=pr (tn S m))\/∀i,i<r->f (pls r k QV i) i=S i i/\∀j,j<r->j≠i->f (pls r k QV i) j=0):=by
 obtain⟨c,R⟩:=Tr.round F;rw[IB I.rw] at c;obtain⟨o,n1,n2,q,s⟩:=Lq I.rw I.rk I.kv R;have d:∀m,m<=r->tn (glue k (fun u i=>S i u) V) m=tn S m:=fun m b=>iR fun i hi=>by rw[zW (by have:=I.rk;(first|lia|omega))]
 have l:∀m,m<=r->tn (fun u=>f (pls r k QV u)) m=tn f m:=fun m b=>iR fun i hi=>by show f (pls r k QV i) i=f i i;rw[hA ω]
 have le:∀m,m<=r->pr (tn (fun u=>f (pls r k QV u)) m)<=pr (tn S m):=fun m b=>by rw[l m b,<-d m b];exact R.le m b
 refine⟨c,⟨I.rk,I.rw,I.g1,fun u i hu hi=>?_,I.bu,?_,I.ku,o,n1,n2,q,s,fun m b=>Ag (le m b) (I.pd m b)⟩,le,?_⟩
 ·exact Lo F I.bl _ (by rw[c];exact List.mem_map.mpr ⟨u,List.mem_range.mpr hu,rfl⟩) i hi
 ·have:=FU F I.bv
  have e:(P.map fun p=>fun t=>f p (k+t))=tl w (fun u t=>f (pls r k QV u) (k+t)):=by rw[c,AT];rfl
  rw[e] at this;exact this
 ·rcases R.hv with ⟨m,b,h⟩|h
  ·exact .inl ⟨m,b,by rw[l m b,<-d m b];exact h⟩
  ·refine .inr fun i hi=>?_
   obtain⟨h1,h2⟩:=h i hi;rw[zW (by have:=I.rk;(first|lia|omega))] at h1;rw[hA hi];exact⟨h1,h2⟩
end
def Lr{U:Nat->Vc}{c:Vc}{i j t:Nat}(ne:i≠j):∀k,sm (put U i fun t=>U i t+U j t) (fun a=>if a=j then c j-c i else c a) k t=sm U c k t+(if i<k then c i*U j t else 0)-(if j<k then c i*U j t else 0)
 |0=>by show(0:Int)=0+(if i<0 then _ else 0)-(if j<0 then _ else 0);rw[if_neg ω,if_neg ω];rfl
 |k+1=>by
  show sm _ _ k t+(if k=j then c j-c i else c k)*put U i (fun t=>U i t+U j t) k t=sm U c k t+c k*U k t+_-_;rw[Lr ne k]
  by_cases e1:k=i
  ·subst e1
   rw[if_neg (show ¬k<k from ω),if_neg ne,zQ,if_pos (show k<k+1 from ω),Int.mul_add]
   by_cases h:j<k
   ·rw[if_pos h,if_pos (show j<k+1 from ω)];(first|lia|omega)
   ·rw[if_neg h,if_neg (show ¬j<k+1 from ω)];(first|lia|omega)
  ·rw[df e1]
   by_cases e2:k=j
   ·subst e2
    rw[if_pos rfl,if_neg (show ¬k<k from ω),if_pos (show k<k+1 from ω),Int.sub_mul]
    by_cases h:i<k
    ·rw[if_pos h,if_pos (show i<k+1 from ω)];(first|lia|omega)
    ·rw[if_neg h,if_neg (show ¬i<k+1 from ω)];(first|lia|omega)
   ·rw[if_neg e2]
    have a1:(if i<k then c i*U j t else 0)=(if i<k+1 then c i*U j t else 0):=by
     by_cases h:i<k
     ·rw[if_pos h,if_pos ω]
     ·rw[if_neg h,if_neg ω]
    have a2:(if j<k then c i*U j t else 0)=(if j<k+1 then c i*U j t else 0):=by
     by_cases h:j<k
     ·rw[if_pos h,if_pos ω]
     ·rw[if_neg h,if_neg ω]
    rw[a1,a2];(first|lia|omega)
def FV{n i:Nat}{W:Nat->Vc}(h:i<n):(tl n W)[i]?=some (W i):=by unfold tl;rw[Aj,AU h];rfl
def iU{n:Nat}{W:Nat->Vc}:(tl n W).length=n:=by unfold tl;simp
def FW{k:Nat}{U C:Nat->Vc}:Both k (tl k U) (tl k C)↔(∀s t,s<k->t<k->sm U (fun a=>C a s) k t=dl s t)/\∀i j,i<k->j<k->dot k (U i) (C j)=dl i j:=by
 have e:∀s t,cmb ((tl k C).map fun b=>b s) (tl k U) t=sm U (fun a=>C a s) k t:=fun s t=>by
  have:=FT (ρ:=U) (c:=fun a=>C a s) t k;rw[<-this];unfold tl lst;rw[AT];rfl
 constructor
 ·intro D
  exact⟨fun s t g h=>by rw[<-e];exact D.a.d s t g h,fun i j hi f=>D.b i j _ _ (FV hi) (FV f)⟩
 ·rintro⟨h1,h2⟩
  refine⟨⟨iU,iU,fun s t g h=>by rw[e];exact h1 s t g h⟩,fun i j u c hu hc=>?_⟩;have hi:i<k:=by have:=(List.getElem?_eq_some_iff.mp hu).1;rwa [iU] at this
  have f:j<k:=by have:=(List.getElem?_eq_some_iff.mp hc).1;rwa [iU] at this
  rw[FV hi] at hu;rw[FV f] at hc;cases hu;cases hc;exact h2 i j hi f
def Both.add{k:Nat}{U C:Nat->Vc}(D:Both k (tl k U) (tl k C)){i j:Nat}(hi:i<k)(p:j<k)(ne:i≠j):Both k (tl k (put U i fun t=>U i t+U j t)) (tl k (put C j fun s=>C j s-C i s)):=by
 rw[FW] at D ⊢;obtain⟨h1,h2⟩:=D;refine⟨fun s t q r=>?_,fun a b d hb=>?_⟩
 ·have e:(fun a=>put C j (fun s=>C j s-C i s) a s)=fun a=>if a=j then C j s-C i s else C a s:=funext fun a=>by
   unfold put
   by_cases h:a=j
   ·rw[if_pos h,if_pos h]
   ·rw[if_neg h,if_neg h]
  rw[e];have:=Lr (U:=U) (c:=fun a=>C a s) (t:=t) ne k;rw[this,if_pos hi,if_pos p,h1 s t q r];(first|lia|omega)
 ·-- by fJ two rows
  have l:∀{x:Vc},dot k (fun t=>U i t+U j t) x=dot k (U i) x+dot k (U j) x:=fun{x}=>by
   have:=Is (k:=k) (a:=U i) (a':=U j) (b:=x) (x:=1) (y:=1);rw[Int.one_mul,Int.one_mul] at this;rw[<-this];exact zM fun t _=>ω
  have f:∀{x:Vc},dot k x (fun s=>C j s-C i s)=dot k x (C j)-dot k x (C i):=fun{x}=>by
   have:=pF (k:=k) (a:=x) (b:=C i) (b':=C j) (x:=-1);rw[show dot k x (C j)-dot k x (C i)=-1*dot k x (C i)+dot k x (C j) from ω,<-this];exact zt fun t _=>ω
  by_cases o:a=i
  ·subst o
   rw[zQ]
   by_cases g:b=j
   ·subst g
    rw[zQ,l,f,f,h2 a b d hb,h2 a a d d,h2 b b hb hb,h2 b a hb d];unfold dl;rw[if_neg ne,if_pos rfl,if_pos rfl,if_neg (Ne.symm ne)];(first|lia|omega)
   ·rw[df g,l,h2 a b d hb,h2 j b p hb]
    unfold dl;rw[if_neg (show ¬j=b from fun z=>g z.symm)];(first|lia|omega)
  ·rw[df o]
   by_cases g:b=j
   ·subst g
    rw[zQ,f,h2 a b d hb,h2 a i d hi];unfold dl;rw[if_neg o];(first|lia|omega)
   ·rw[df g,h2 a b d hb]
def Qp{A S U V f:Nat->Vc}{k w r D bU bV g M N X B:Nat}{Bn Bf:List Vc}{QU QV:Nat->Nat}{P:List Nat}(I:LM A k w r D bU bV g S U V Bn Bf QU QV)(Tr:Tri w r k M 1 (glue k (fun u i=>S i u) V) (fun a=>k+QV a))(F:FS N M X B (tl w (glue k (fun u i=>S i u) V)) P f)(h:∀i,i<r->f (pls r k QV i) i=S i i/\∀j,j<r->j≠i->f (pls r k QV i) j=0){i u:Nat}(hi:i<r)(hu:u<r):S i i ∣ S i u:=by
 obtain⟨l,R⟩:=Tr.round F;have o:glue k (fun u i=>S i u) V u∈tl w (glue k (fun u i=>S i u) V):=List.mem_map.mpr ⟨u,List.mem_range.mpr (by have:=I.rw;(first|lia|omega)),rfl⟩;have sp:=F.gen _ o;have e:glue k (fun u i=>S i u) V u i=S i u:=zW (by have:=I.rk;(first|lia|omega));rw[<-e];refine Sp.ind (C:=fun v=>S i i ∣ v i) (Int.dvd_zero _) (fun a x y hx hy=>Int.dvd_add (Int.dvd_trans hx (Int.dvd_mul_left a _)) hy) (fun v d=>?_) sp;obtain⟨p,hp,rfl⟩:=List.mem_map.mp d;rw[l,IB I.rw] at hp;obtain⟨j,c,rfl⟩:=List.mem_map.mp hp;have c:=List.mem_range.mp c
 by_cases b:j<r
 ·by_cases e2:i=j
  ·subst e2;rw[(h i hi).1];exact Int.dvd_refl _
  ·rw[(h j b).2 i hi e2];exact Int.dvd_zero _
 ·rw[show j=r+(j-r) from ω,kF]
  rw[R.qz (j-r) i ω (by show i<k+QV (j-r);have:=I.rk;(first|lia|omega))];exact Int.dvd_zero _
def b7(U:Nat->Vc)(r:Nat):Nat->Nat->Vc
 |0=>U
 |n+1=>put (b7 U r n) (r-2-n) fun t=>b7 U r n (r-2-n) t+b7 U r n (r-1-n) t
def gu(C:Nat->Vc)(r:Nat):Nat->Nat->Vc
 |0=>C
 |n+1=>put (gu C r n) (r-1-n) fun s=>gu C r n (r-1-n) s-gu C r n (r-2-n) s
def ss(U:Nat->Vc)(r:Nat):Nat->Nat->Vc
 |0,_=>fun _=>0
 |n+1,i=>fun t=>U i t+ss U r n (i+1) t
section
variable{U C:Nat->Vc}{r k:Nat}
def ID:∀(n:Nat),n+1<=r->∀i,b7 U r n i=if r-1-n<=i/\i<r then ss U r (r-i) i else U i
 |0,h,i=>by
  show U i=_
  by_cases e:i=r-1
  ·rw[if_pos ω,show r-i=1 from ω]
   exact funext fun t=>by show U i t=U i t+0;(first|lia|omega)
  ·rw[if_neg ω]
 |n+1,h,i=>by
  have a:=ID n ω;show put (b7 U r n) (r-2-n) (fun t=>b7 U r n (r-2-n) t+b7 U r n (r-1-n) t) i=_
  by_cases e:i=r-2-n
  ·rw[e,zQ,if_pos ω,a (r-2-n),a (r-1-n),if_neg ω,if_pos ω]
   have e1:r-(r-2-n)=n+1+1:=ω
   have e2:r-(r-1-n)=n+1:=ω
   rw[e1,e2];exact funext fun t=>by
    show U (r-2-n) t+ss U r (n+1) (r-1-n) t=U (r-2-n) t+ss U r (n+1) (r-2-n+1) t;rw[show r-2-n+1=r-1-n from ω]
  ·rw[df e,a i]
   by_cases h2:r-1-n<=i/\i<r
   ·rw[if_pos h2,if_pos ω]
   ·rw[if_neg h2,if_neg ω]
def jv(h:1<=r)(i:Nat):b7 U r (r-1) i=if i<r then ss U r (r-i) i else U i:=by
 rw[ID (r-1) ω i]
 by_cases e:i<r
 ·rw[if_pos ω,if_pos e]
 ·rw[if_neg ω,if_neg e]
def Ls(hr:r<=k)(D:Both k (tl k U) (tl k C)):∀n,n+1<=r->Both k (tl k (b7 U r n)) (tl k (gu C r n))
 |0,_=>D
 |n+1,h=>(Ls hr D n ω).add (i:=r-2-n) (j:=r-1-n) ω ω ω
def IE{u K:Nat}:∀(n i:Nat),(∀j,i<=j->j<i+n->(U j u).natAbs<=K)->(ss U r n i u).natAbs<=n*K
 |0,_,_=>Ar _
 |n+1,i,h=>by
  have h1:=IE (u:=u) n (i+1) fun j h1 h2=>h j ω ω;have h2:=h i (Af _) ω;have a:=Int.natAbs_add_le (U i u) (ss U r n (i+1) u);show(U i u+ss U r n (i+1) u).natAbs<=(n+1)*K;rw[Nat.add_mul];(first|lia|omega)
def Lu{w:Nat}{A:Nat->Vc}{y:Vc}:∀(n i:Nat),a6 k w A (ss U r n i) y=ss (fun i _=>a6 k w A (U i) y) r n i 0
 |0,_=>Lm
 |n+1,i=>by
  show a6 k w A (fun t=>U i t+ss U r n (i+1) t) y=a6 k w A (U i) y+ss (fun i _=>a6 k w A (U i) y) r n (i+1) 0;rw[<-Lu n (i+1)];have:=Ll (k:=k) (w:=w) (A:=A) (a:=1) (x:=U i) (x':=ss U r n (i+1)) (y:=y);rw[Int.one_mul] at this;rw[<-this]
  congr 1
  exact funext fun t=>ω
def IF{c:Nat->Int}{u:Nat}:∀(n i:Nat),(∀j,i<=j->j<i+n->j≠u->c j=0)->ss (fun i _=>c i) r n i 0=if i<=u/\u<i+n then c u else 0
 |0,i,_=>by show(0:Int)=_;rw[if_neg ω]
 |n+1,i,h=>by
  show c i+ss (fun i _=>c i) r n (i+1) 0=_;rw[IF n (i+1) fun j h1 h2 a=>h j ω ω a]
  by_cases e:i=u
  ·subst e;rw[if_neg ω,if_pos ω];(first|lia|omega)
  ·rw[h i (Af _) ω e]
   by_cases h2:i+1<=u/\u<i+1+n
   ·rw[if_pos h2,if_pos ω];(first|lia|omega)
   ·rw[if_neg h2,if_neg ω];(first|lia|omega)
end
section
variable{A T U V:Nat->Vc}{k w r D bU bV g:Nat}{Bn Bf:List Vc}{QU QV:Nat->Nat}{C:Nat->Vc}
def LI.slid(I:LI A k w r D bU bV g T U V (tl k C) Bf QU QV)(hr:1<=r)(hd:∀u i,u<r->i<r->u≠i->T u i=0):LM A k w r D bU bV (r*g) (fun i u=>a6 k w A (b7 U r (r-1) i) (V u)) (b7 U r (r-1)) V (tl k (gu C r (r-1))) Bf QU QV/\∀i u,i<k->u<w->a6 k w A (b7 U r (r-1) i) (V u)=if i<=u/\u<r then T u u else 0:=by
 have rk:=I.rk;have p:=I.rw;have val:∀i u,i<k->u<w->a6 k w A (b7 U r (r-1) i) (V u)=if i<=u/\u<r then T u u else 0:=fun i u hi hu=>by
  rw[jv hr]
  by_cases h:i<r
  ·rw[if_pos h,Lu]
   have e:ss (fun i _=>a6 k w A (U i) (V u)) r (r-i) i 0=ss (fun i _=>if i<k then T u i else a6 k w A (U i) (V u)) r (r-i) i 0:=by
    congr 1
    exact funext fun j=>funext fun _=>by
     by_cases f:j<k
     ·rw[if_pos f,I.bl u j hu f]
     ·rw[if_neg f]
   rw[e,IF (u:=u) (r-i) i fun j h1 h2 d=>by
    rw[if_pos ω]
    by_cases l:u<r
    ·exact hd u j l ω (Ne.symm d)
    ·exact I.to u j hu ω (.inl ω)]
   by_cases h2:i<=u/\u<r
   ·rw[if_pos ω,if_pos h2,if_pos ω]
   ·rw[if_neg ω,if_neg h2]
  ·rw[if_neg h,if_neg ω,<-I.bl u i hu hi]
   exact I.to u i hu hi (.inr ω)
 have dg:∀i,i<r->a6 k w A (b7 U r (r-1) i) (V i)=T i i:=fun i hi=>by rw[val i i ω ω,if_pos ⟨Af _,hi⟩]
 refine⟨⟨rk,p,Nat.mul_pos hr I.g1,fun i u _ _=>rfl,Ls rk I.bu (r-1) ω,I.bv,⟨I.ku.qs,fun a u b hu=>?_,fun a b=>?_,fun a c h1 h2=>?_,fun i a hi b=>?_,fun a b=>?_⟩,I.kv,⟨fun u hu=>?_,fun u i hu h1 h2=>?_,fun u i hu hi=>?_,fun u i h1 h2 d=>?_⟩,fun m o=>?_⟩,val⟩
 ·rw[jv hr,if_neg ω];exact I.ku.kz a u b hu
 ·rw[jv hr,if_neg ω];exact I.ku.kp a b
 ·rw[jv hr,jv hr,if_neg ω,if_neg ω];exact I.ku.kq a c h1 h2
 ·rw[jv hr,jv hr,if_pos hi,if_neg ω]
  have:=IE (U:=U) (r:=r) (u:=QU a) (K:=g*(U (r+a) (QU a)).natAbs) (r-i) i fun j h1 h2=>I.ku.tq j a ω b;refine Ag this ?_;rw[AO];exact Al _ ω
 ·rw[jv hr,if_neg ω];exact I.ku.km a b
 ·show 0<a6 k w A (b7 U r (r-1) u) (V u)
  rw[dg u hu];exact I.tp u hu
 ·show a6 k w A (b7 U r (r-1) i) (V u)=0
  rw[val i u h2 ω,if_neg ω]
 ·show(a6 k w A (b7 U r (r-1) i) (V u)).natAbs<=(a6 k w A (b7 U r (r-1) u) (V u)).natAbs
  rw[dg u hu,val i u ω ω,if_pos ω];exact Af _
 ·show a6 k w A (b7 U r (r-1) i) (V u)=0
  rw[val i u d h2,if_neg ω]
 ·have e:tn (fun i u=>a6 k w A (b7 U r (r-1) i) (V u)) m=tn T m:=iR fun i hi=>dg i ω
  rw[e];exact I.pd m o
end
def Lv{f:Nat->Vc}:∀{P:List Nat}{v:Vc}{p:Nat},Ech P f->P.Pairwise (·<·)->Sp (P.map f) v->(∀u,u<p->v u=0)->v p≠0->p∈P
 |[],v,p,_,_,⟨c,hc,e⟩,_,hp=>by
  refine absurd ?_ hp;rw[e];cases c<;>rfl
 |q::P,v,p,h,hs,⟨c,hc,e⟩,hz,hp=>by
  cases c with
  |nil=>simp at hc
  |cons a c=>
   rw[Ba] at hs;have eq:v q=a*f q q:=by
    rw[e];show a*f q q+cmb c (P.map f) q=a*f q q;rw[zL c (P.map f) fun v i=>by
     obtain⟨r,hr,rfl⟩:=List.mem_map.mp i;exact h.z r (.tail _ hr) q (hs.1 r hr)]
    (first|lia|omega)
   have b:=h.pos q (.head _)
   by_cases d:a=0
   ·refine .tail _ (Lv (v:=v) (h.sub fun r hr=>.tail _ hr) hs.2 ⟨c,by simpa using hc,fun u=>?_⟩ hz hp)
    rw[e];show a*f q u+cmb c (P.map f) u=_;rw[d];(first|lia|omega)
   ·have hq:v q≠0:=by rw[eq];exact Int.mul_ne_zero d ω
    have h1:p<=q:=by
     rcases Be q p with g|g
     ·exact absurd (hz q g) hq
     ·exact g
    have h2:q<=p:=by
     rcases Be p q with g|g
     ·refine absurd ?_ hp
      rw[e];refine zL _ _ fun x hx=>?_;obtain⟨r,hr,rfl⟩:=List.mem_map.mp hx;rcases List.mem_cons.mp hr with rfl|hr
      ·exact h.z r (.head _) p g
      ·exact h.z r (.tail _ hr) p (by have:=hs.1 r hr;(first|lia|omega))
     ·exact g
    rw[show p=q from ω];exact .head _
def alone{Λ:Vc->Prop}{L:Nat->Vc}{r k:Nat}(T:Lt Λ)(hk:r<=k)(p:∀i,i<r->Λ (L i))(q:∀i,i<r->0<L i i)(u:∀i j,i<r->i<j->j<k->L i j=0):∀j,j<r->∃v,Λ v/\v j≠0/\∀i,i<k->i≠j->v i=0:=by
 intro j
 induction j using Nat.strongRecOn with
 |_ j ih=>
  intro a;have step:∀n,n<=j->∃v,Λ v/\v j≠0/\(∀i,i<n->v i=0)/\∀i,j<i->i<k->v i=0:=by
   intro n
   induction n with
   |zero=>intro _;exact⟨L j,p j a,by have:=q j a;(first|lia|omega),fun i hi=>absurd hi (Nat.not_lt_zero _),fun i h1 h2=>u j i a h1 h2⟩
   |succ n ihn=>
    intro w;obtain⟨v,b,c,d,f⟩:=ihn ω;obtain⟨x,x1,x2,g⟩:=ih n ω ω;have l:=T.s (-(x n)) T.z b;have o:=T.s (v n) l x1;refine⟨_,o,?_,fun i hi=>?_,fun i h1 h2=>?_⟩
    ·show(0 - -(x n)*v j)-v n*x j≠0
     rw[g j ω ω,Int.neg_mul];have:=Int.mul_ne_zero x2 c;(first|lia|omega)
    ·show(0 - -(x n)*v i)-v n*x i=0
     rw[Int.neg_mul]
     by_cases e:i=n
     ·subst e;rw[Bb (x i)];(first|lia|omega)
     ·rw[d i ω,g i ω e];(first|lia|omega)
    ·show(0 - -(x n)*v i)-v n*x i=0
     rw[f i h1 h2,g i h2 ω];(first|lia|omega)
  obtain⟨v,b,c,d,f⟩:=step j (Af _);refine⟨v,b,c,fun i hi ne=>?_⟩;rcases Be i j with h|h
  ·exact d i h
  ·exact f i ω hi
def un:Nat->Vc:=fun i t=>dl i t
def IG{k i:Nat}{g:Vc}(h:i<k):dot k (un i) g=g i:=by
 have:∀n,n<=k->dot n (un i) g=if i<n then g i else 0:=by
  intro n
  induction n with
  |zero=>intro _;rw[if_neg ω];rfl
  |succ n ih=>
   intro a;show dot n (un i) g+dl i n*g n=_;rw[ih ω]
   by_cases e:i=n
   ·subst e;rw[if_neg ω,if_pos ω];unfold dl;rw[if_pos rfl];(first|lia|omega)
   ·unfold dl
    rw[if_neg e]
    by_cases h2:i<n
    ·rw[if_pos h2,if_pos ω];(first|lia|omega)
    ·rw[if_neg h2,if_neg ω];(first|lia|omega)
 rw[this k (Af _),if_pos h]
def IH(k:Nat):Both k (tl k un) (tl k un):=by
 rw[FW];refine⟨fun s t b c=>?_,fun i j hi d=>?_⟩
 ·have:∀n,n<=k->sm un (fun a=>un a s) n t=if s<n then dl s t else 0:=by
   intro n
   induction n with
   |zero=>intro _;rw[if_neg ω];rfl
   |succ n ih=>
    intro f;show sm un (fun a=>un a s) n t+dl n s*dl n t=_;rw[ih ω]
    by_cases e:n=s
    ·subst e;rw[if_neg ω,if_pos ω];unfold dl;rw[if_pos rfl];(first|lia|omega)
    ·have z:dl n s=0:=by unfold dl;rw[if_neg e]
     rw[z]
     by_cases h2:s<n
     ·rw[if_pos h2,if_pos ω];(first|lia|omega)
     ·rw[if_neg h2,if_neg ω];(first|lia|omega)
  rw[this k (Af _),if_pos b]
 ·rw[IG hi]
  show dl j i=dl i j;unfold dl
  by_cases e:i=j
  ·rw[if_pos e,if_pos e.symm]
  ·rw[if_neg e,if_neg (fun z=>e z.symm)]
def Qq{k w i u:Nat}{A:Nat->Vc}(hi:i<k)(hu:u<w):a6 k w A (un i) (un u)=A i u:=by
 unfold a6;rw[IG hi];have:dot w (A i) (un u)=dot w (A i) (fun s=>dl s u):=zt fun t _=>by
  show dl u t=dl t u;unfold dl
  by_cases e:u=t
  ·rw[if_pos e,if_pos e.symm]
  ·rw[if_neg e,if_neg (fun z=>e z.symm)]
 rw[this];exact Iu hu
def pp(P:List Nat)(i:Nat):Nat:=P.getD i 0
section
variable{P:List Nat}{n:Nat}
def pQ(a:P.length=n){i:Nat}(h:i<n):pp P i∈P:=by unfold pp;rw[Ad,Ac ω];exact AB _
def Qr(a:P.length=n){p:Nat}(h:p∈P):∃i,i<n/\pp P i=p:=by
 obtain⟨i,hi,rfl⟩:=A8 h;exact⟨i,ω,by unfold pp;rw[Ad,Ac hi];rfl⟩
def hO(b:P.length=n)(a:P.Pairwise (·<·)){i j:Nat}(h:i<j)(c:j<n):pp P i<pp P j:=by
 unfold pp;rw[Ad,Ad,Ac ω,Ac ω];exact List.pairwise_iff_getElem.mp a i j ω ω h
def II(a:P.length=n):P=(Ah n).map (pp P):=by
 apply AZ
 ·simp[a]
 ·intro i h1 h2
  rw[AS,A5];unfold pp;rw[Ad,Ac h1];rfl
def cut(m:Nat)(P:List Nat):Nat:=(P.filter fun p=>decide (p<m)).length
def IJ(d:P.Pairwise (·<·)){m:Nat}(f:P.length=n):cut m P<=n/\(∀i,i<cut m P->pp P i<m)/\∀i,cut m P<=i->i<n->m<=pp P i:=by
 have:∀P:List Nat,P.Pairwise (·<·)->cut m P<=P.length/\(∀i,i<cut m P->pp P i<m)/\∀i,cut m P<=i->i<P.length->m<=pp P i:=by
  intro P
  induction P with
  |nil=>intro _;exact⟨Af _,fun i hi=>absurd hi (Nat.not_lt_zero _),fun i _ hi=>absurd hi (Nat.not_lt_zero _)⟩
  |cons p P ih=>
   intro d;rw[Ba] at d;obtain⟨a,b,c⟩:=ih d.2
   by_cases h:p<m
   ·have e:cut m (p::P)=cut m P+1:=by unfold cut;rw[List.filter_cons,if_pos (decide_eq_true h)];rfl
    rw[e,AH];refine⟨ω,fun i hi=>?_,fun i h1 h2=>?_⟩
    ·cases i with
     |zero=>exact h
     |succ i=>exact b i ω
    ·cases i with
     |zero=>(first|lia|omega)
     |succ i=>exact c i ω ω
   ·have e:cut m (p::P)=0:=by
     unfold cut;rw[List.filter_cons,if_neg (by simpa using h),List.filter_eq_nil_iff.mpr fun q hq=>?_]
     ·rfl
     ·have:=d.1 q hq
      simp;(first|lia|omega)
    rw[e];refine⟨Ar _,fun i hi=>absurd hi (Nat.not_lt_zero _),fun i _ h2=>?_⟩;cases i with
    |zero=>exact Nat.le_of_not_lt h
    |succ i=>
     rw[AH] at h2;have:pp P i∈P:=pQ rfl ω;have:=d.1 _ this;show m<=pp P i;(first|lia|omega)
 have h:=this P d;rw[f] at h;exact h
end
def Qs(a b:List Nat)(h:∀t∈b,1<=t):pr a<=pr (a++b):=by
 rw[vd];have:1<=pr b:=by
  clear a
  induction b with
  |nil=>exact Af _
  |cons t b ih=>exact ph (h t (.head _)) (ih fun x hx=>h x (.tail _ hx))
 exact Nat.le_mul_of_pos_right _ this
section
variable{k w N M X B:Nat}{A f:Nat->Vc}{P:List Nat}
structure N0(A:Nat->Vc)(k w r b:Nat)(S U:Nat->Vc)(Bn:List Vc)(Q q:Nat->Nat):Prop where
 rk:r<=k
 rw:r<=w
 bl:∀i u,i<k->u<w->S i u=a6 k w A (U i) (un u)
 bu:Both k (tl k U) Bn
 ku:Ker k r 1 b U Q
 z:∀i u,r<=i->i<k->u<w->S i u=0
 qw:∀i,i<r->q i<w
 ql:∀i j,i<j->j<r->q i<q j
 sz:∀i u,i<r->u<q i->S i u=0
 sp:∀i,i<r->0<S i (q i)
def Qt(F:FS N M X B (tl k (glue w A un)) P f):N0 A k w (cut w P) B (fun i=>f (pp P i)) (fun i t=>f (pp P i) (w+t)) (mx k ((tl k (glue w A un)).map fun r=>shr f P r) (tl k un)) (fun a=>pp P (cut w P+a)-w) (pp P):=by
 have d:P.length=k:=by rw[F.len];exact iU
 obtain⟨c1,l,h⟩:=IJ (m:=w) F.srt d;have b:∀{i},i<k->pp P i∈P:=fun hi=>pQ d hi;have o:∀i,i<k->i<=pp P i:=by
  intro i
  induction i with
  |zero=>intro _;exact Ar _
  |succ i ih=>intro hi;have:=ih ω;have:=hO d F.srt (show i<i+1 from ω) hi;(first|lia|omega)
 have hw:cut w P<=w:=by
  rcases Nat.eq_zero_or_pos (cut w P) with z|z
  ·(first|lia|omega)
  ·have h1:=l (cut w P-1) ω
   have h2:=o (cut w P-1) ω;(first|lia|omega)
 have hq:∀a,a<k-cut w P->w+(pp P (cut w P+a)-w)=pp P (cut w P+a):=fun a g=>by have:=h (cut w P+a) ω ω;(first|lia|omega)
 refine⟨c1,hw,fun i u hi hu=>?_,?_,⟨fun a c h1 h2=>?_,fun a u g hu=>?_,fun a g=>?_,fun a c h1 h2=>?_,fun i a hi g=>?_,fun a g=>?_⟩,fun i u h1 h2 q=>F.ech.z _ (b h2) u (by have:=h i h1 h2;(first|lia|omega)),l,fun i j h1 h2=>hO d F.srt h1 ω,fun i u hi hu=>F.ech.z _ (b ω) u hu,fun i hi=>F.ech.pos _ (b ω)⟩
 ·refine Ln (T:=fun u i=>A i u) (U:=un) (V:=un) F (fun u i hu hi=>(Qq hi hu).symm) _ (b hi) u hu
 ·have:=FU F (IH k)
  have e:(P.map fun p=>fun t=>f p (w+t))=tl k (fun i t=>f (pp P i) (w+t)):=by
   have:=II d
   conv=>lhs;rw[this]
   rw[AT];rfl
  rw[e] at this;exact this
 ·have:=hO d F.srt (show cut w P+a<cut w P+c from ω) ω
  have:=h (cut w P+a) ω ω;show pp P (cut w P+a)-w<pp P (cut w P+c)-w;(first|lia|omega)
 ·have hu:u<pp P (cut w P+a)-w:=hu
  exact F.ech.z _ (b ω) (w+u) ω
 ·show 0<f (pp P (cut w P+a)) (w+(pp P (cut w P+a)-w))
  rw[hq a g];exact F.ech.pos _ (b ω)
 ·show 0<=f (pp P (cut w P+a)) (w+(pp P (cut w P+c)-w))/\f (pp P (cut w P+a)) (w+(pp P (cut w P+c)-w))<f (pp P (cut w P+c)) (w+(pp P (cut w P+c)-w))
  rw[hq c h2];exact F.red _ (b ω) _ (b ω) (hO d F.srt ω ω)
 ·show(f (pp P i) (w+(pp P (cut w P+a)-w))).natAbs<=1*(f (pp P (cut w P+a)) (w+(pp P (cut w P+a)-w))).natAbs
  rw[hq a g];have:=F.red _ (b (show i<k from ω)) _ (b (show cut w P+a<k from ω)) (hO d F.srt ω ω);(first|lia|omega)
 ·show(f (pp P (cut w P+a)) (w+(pp P (cut w P+a)-w))).natAbs<=B
  rw[hq a g];exact F.piv _ (b ω)
def Qu(g:1<=M)(hi:jm (tl k (glue w A un)))(hb:∀r∈tl k (glue w A un),∀u,(r u).natAbs<=M)(F:FS N M X B (tl k (glue w A un)) P f):∀m,m<=cut w P->pr ((Ah m).map fun i=>(f (pp P i) (pp P i)).toNat)<=(2*(k*M)+1) ^ k:=fun m j=>by
 have b:P.length=k:=by rw[F.len];exact iU
 obtain⟨c1,_,_⟩:=IJ (m:=w) F.srt b;have h:=Qi g hi F.ech F.srt F.gen F.len fun r hr p _=>hb r hr p;rw[iU] at h;have e:(P.map fun p=>(f p p).toNat)=((Ah m).map fun i=>(f (pp P i) (pp P i)).toNat)++((Ah (k-m)).map fun a=>(f (pp P (m+a)) (pp P (m+a))).toNat):=by
  have:=II b
  conv=>lhs;rw[this]
  rw[AT];apply AZ
  ·simp;(first|lia|omega)
  ·intro i h1 h2
   rw[AS,A5]
   by_cases hi:i<m
   ·rw[List.getElem_append_left (by simpa using hi),AS,A5];rfl
   ·rw[List.getElem_append_right (by simp;(first|lia|omega)),AS,A5,Aa,A6,show m+(i-m)=i from ω];rfl
 rw[e] at h;refine Ag (Qs _ _ fun t d=>?_) h;obtain⟨a,c,rfl⟩:=List.mem_map.mp d;have c:=List.mem_range.mp c;have:=F.ech.pos _ (pQ b (show m+a<k from ω));(first|lia|omega)
def Qv{r b D Z M2 X2 B2:Nat}{S U f2:Nat->Vc}{Bn:List Vc}{Q q:Nat->Nat}{P2:List Nat}(I:N0 A k w r b S U Bn Q q)(X:∀m,m<=r->pr ((Ah m).map fun i=>(S i (q i)).toNat)<=D)(F:FS Z M2 X2 B2 (tl w (glue k (fun u i=>S i u) un)) P2 f2):cut k P2=r/\(∀i,i<r->pp P2 i=i)/\LI A k w r D b B2 1 (fun u=>f2 (pp P2 u)) U (fun u t=>f2 (pp P2 u) (k+t)) Bn (mx w ((tl w (glue k (fun u i=>S i u) un)).map fun r=>shr f2 P2 r) (tl w un)) Q (fun a=>pp P2 (r+a)-k):=by
 have rk:=I.rk;have l:P2.length=w:=by rw[F.len];exact iU
 obtain⟨c1,M,C⟩:=IJ (m:=k) F.srt l;have d:∀{i},i<w->pp P2 i∈P2:=fun hi=>pQ l hi;have sp:∀p∈P2,Sp (tl w (glue k (fun u i=>S i u) un)) (f2 p):=fun p hp=>(F.fr p hp).sp;have row:∀u,u<w->Sp (tl w (glue k (fun u i=>S i u) un)) (glue k (fun u i=>S i u) un u):=fun u hu=>Sp.mem (List.mem_map.mpr ⟨u,List.mem_range.mpr hu,rfl⟩);have zero:∀v,Sp (tl w (glue k (fun u i=>S i u) un)) v->∀i,r<=i->i<k->v i=0:=fun v y i h1 h2=>by
  obtain⟨c,_,e⟩:=y;rw[e];refine zL _ _ fun x hx=>?_;obtain⟨u,hu,rfl⟩:=List.mem_map.mp hx;rw[zW h2];exact I.z i u h1 h2 (List.mem_range.mp hu)
 have H:∀i j,i<r->i<j->j<k->glue k (fun u i=>S i u) un (q i) j=0:=fun i j hi h1 h2=>by
  rw[zW h2]
  by_cases h:j<r
  ·exact I.sz j (q i) h (I.ql i j h1 h)
  ·exact I.z j (q i) ω h2 (I.qw i hi)
 have lt:Lt (Sp (tl w (glue k (fun u i=>S i u) un))):=⟨Sp.zero,fun m y hw=>y.sub hw m⟩;have J:∀i,i<r->0<glue k (fun u i=>S i u) un (q i) i:=fun i hi=>by rw[zW ω];exact I.sp i hi
 have f:∀j,j<r->j∈P2:=fun j s=>by
  obtain⟨v,N,O,P⟩:=alone (L:=fun i=>glue k (fun u i=>S i u) un (q i)) lt rk (fun i hi=>row _ (I.qw i hi)) J H j s;exact Lv F.ech F.srt (N.trans F.gen) (fun u hu=>P u ω ω) O
 have lo:∀p∈P2,p<k->p<r:=fun p hp h=>by
  rcases Be p r with g|g
  ·exact g
  ·have:=zero _ (sp p hp) p g h
   have:=F.ech.pos p hp;(first|lia|omega)
 have two:∀i,i<r->i<w/\pp P2 i=i:=by
  intro i
  induction i using Nat.strongRecOn with
  |_ i ih=>
   intro hi;obtain⟨j,s,e⟩:=Qr l (f i hi);have h1:i<=j:=by
    rcases Be j i with g|g
    ·have:=(ih j g ω).2;(first|lia|omega)
    ·exact g
   have h2:j<=i:=by
    rcases Be i j with g|g
    ·have E:=hO l F.srt g s
     rw[e] at E;obtain⟨_,e2⟩:=ih (pp P2 i) E ω;rcases Nat.lt_trichotomy (pp P2 i) i with g2|g2|g2
     ·have:=hO l F.srt g2 ω;(first|lia|omega)
     ·(first|lia|omega)
     ·(first|lia|omega)
    ·exact g
   have:j=i:=ω
   subst this;exact⟨s,e⟩
 have W:cut k P2=r:=by
  rcases Nat.lt_trichotomy (cut k P2) r with g|g|g
  ·have:=C (cut k P2) (Af _) (two _ g).1
   rw[(two _ g).2] at this;(first|lia|omega)
  ·exact g
  ·have h1:=M r g
   have h2:=lo _ (d ω) h1;have E:r<=pp P2 r:=by
    rcases Nat.eq_zero_or_pos r with z|z
    ·(first|lia|omega)
    ·have:=hO l F.srt (show r-1<r from ω) ω
     rw[(two (r-1) ω).2] at this;(first|lia|omega)
   (first|lia|omega)
 have hq:∀a,a<w-r->k+(pp P2 (r+a)-k)=pp P2 (r+a):=fun a o=>by have:=C (r+a) ω ω;(first|lia|omega)
 refine⟨W,fun i hi=>(two i hi).2,I.rk,I.rw,Af 1,fun u i hu hi=>?_,I.bu,?_,I.ku,⟨fun a c h1 h2=>?_,fun a u o hu=>?_,fun a o=>?_,fun a c h1 h2=>?_,fun i a hi o=>?_,fun a o=>?_⟩,fun u hu=>?_,fun u i hu hi=>?_,fun u i h1 h2=>?_,fun u i hu hi h=>?_,fun m G=>?_⟩
 ·exact Lo (T:=S) (U:=U) (V:=un) F I.bl _ (d hu) i hi
 ·have:=FU F (IH w)
  have e:(P2.map fun p=>fun t=>f2 p (k+t))=tl w (fun u t=>f2 (pp P2 u) (k+t)):=by
   have:=II l
   conv=>lhs;rw[this]
   rw[AT];rfl
  rw[e] at this;exact this
 ·have:=hO l F.srt (show r+a<r+c from ω) ω
  have:=C (r+a) ω ω;show pp P2 (r+a)-k<pp P2 (r+c)-k;(first|lia|omega)
 ·have hu:u<pp P2 (r+a)-k:=hu
  exact F.ech.z _ (d ω) (k+u) ω
 ·show 0<f2 (pp P2 (r+a)) (k+(pp P2 (r+a)-k))
  rw[hq a o];exact F.ech.pos _ (d ω)
 ·show 0<=f2 (pp P2 (r+a)) (k+(pp P2 (r+c)-k))/\f2 (pp P2 (r+a)) (k+(pp P2 (r+c)-k))<f2 (pp P2 (r+c)) (k+(pp P2 (r+c)-k))
  rw[hq c h2];exact F.red _ (d ω) _ (d ω) (hO l F.srt ω ω)
 ·show(f2 (pp P2 i) (k+(pp P2 (r+a)-k))).natAbs<=1*(f2 (pp P2 (r+a)) (k+(pp P2 (r+a)-k))).natAbs
  rw[hq a o];have:=F.red _ (d (show i<w from ω)) _ (d (show r+a<w from ω)) (hO l F.srt ω ω);(first|lia|omega)
 ·show(f2 (pp P2 (r+a)) (k+(pp P2 (r+a)-k))).natAbs<=B2
  rw[hq a o];exact F.piv _ (d ω)
 ·show 0<f2 (pp P2 u) u
  rw[(two u hu).2];exact F.ech.pos u (f u hu)
 ·show f2 (pp P2 u) i=0
  rw[(two u hu).2];exact F.ech.z u (f u hu) i hi
 ·show 0<=f2 (pp P2 u) i/\f2 (pp P2 u) i<f2 (pp P2 i) i
  rw[(two u ω).2,(two i h2).2];exact F.red u (f u ω) i (f i h2) h1
 ·show f2 (pp P2 u) i=0
  by_cases Y:u<r
  ·exact zero _ (sp _ (d hu)) i ω hi
  ·exact F.ech.z _ (d hu) i (by have:=C u ω hu;(first|lia|omega))
 ·have T:Two (Sp (tl w (glue k (fun u i=>S i u) un))) r (fun i=>glue k (fun u i=>S i u) un (q i)) f2:=
   ⟨lt,fun i hi=>row _ (I.qw i hi),J,fun i j h1 h2=>H i j ω h1 ω,fun i hi=>sp i (f i hi),fun i hi=>F.ech.pos i (f i hi),fun i j hi s=>F.ech.z i (f i hi) j s,fun v i y hi hz=>ki F.ech F.srt (f i hi) (y.trans F.gen) fun p _ hp=>hz p hp⟩
  have e1:tn (fun u=>f2 (pp P2 u)) m=tn f2 m:=iR fun i hi=>by show f2 (pp P2 i) i=f2 i i;rw[(two i ω).2]
  have e2:tn (fun i=>glue k (fun u i=>S i u) un (q i)) m=(Ah m).map fun i=>(S i (q i)).toNat:=by
   unfold tn;exact A7 fun i hi=>by
    show(glue k (fun u i=>S i u) un (q i) i).toNat=_;rw[zW (by have:=List.mem_range.mp hi;(first|lia|omega))]
  rw[e1];have:=Ix T G;rw[e2] at this;exact Ag this (X m G)
end
def mu(T:Nat->Vc):Nat->Nat
 |0=>0
 |r+1=>mu T r+Nat.log2 (pr (tn T (r+1)))
def IK{a b:Nat}(c:1<=a)(h:a<=b):a.log2<=b.log2:=by
 rcases Be b.log2 a.log2 with g|g
 ·have h1:=(Nat.log2_lt (show b≠0 from ω)).mp g
  have h2:=Nat.log2_self_le (show a≠0 from ω);(first|lia|omega)
 ·exact g
def Qw{a b:Nat}(c:1<=a)(h:2*a<=b):a.log2+1<=b.log2:=by
 rcases Be b.log2 (a.log2+1) with g|g
 ·have h1:=(Nat.log2_lt (show b≠0 from ω)).mp g
  have h2:=Nat.log2_self_le (show a≠0 from ω);rw[Nat.pow_succ] at h1;(first|lia|omega)
 ·exact g
def IL{T T':Nat->Vc}:∀r,(∀i,i<r->0<T' i i)->(∀m,m<=r->pr (tn T' m)<=pr (tn T m))->mu T' r<=mu T r
 |0,_,_=>Af _
 |r+1,hp,h=>by
  have h1:=IL r (fun i hi=>hp i ω) fun m a=>h m ω;have h2:=IK (pC (k:=r+1) hp) (h (r+1) (Af _));show mu T' r+_<=mu T r+_;(first|lia|omega)
def IM{T T':Nat->Vc}:∀r,(∀i,i<r->0<T' i i)->(∀m,m<=r->pr (tn T' m)<=pr (tn T m))->(∃m,m<=r/\2*pr (tn T' m)<=pr (tn T m))->mu T' r+1<=mu T r
 |0,_,_,⟨m,b,h⟩=>by
  have:m=0:=ω
  subst this;have h:2*1<=1:=h;(first|lia|omega)
 |r+1,hp,h,⟨m,b,hh⟩=>by
  have a:∀i,i<r->0<T' i i:=fun i hi=>hp i ω;show mu T' r+_+1<=mu T r+_
  by_cases e:m=r+1
  ·subst e
   have h1:=IL (T:=T) r a fun m b=>h m ω;have h2:=Qw (pC (k:=r+1) hp) hh;(first|lia|omega)
  ·have h1:=IM r a (fun m b=>h m ω) ⟨m,ω,hh⟩
   have h2:=IK (pC (k:=r+1) hp) (h (r+1) (Af _));(first|lia|omega)
def Lw{T:Nat->Vc}{D:Nat}:∀r,(∀i,i<r->0<T i i)->(∀m,m<=r->pr (tn T m)<=D)->mu T r<=r*D.log2
 |0,_,_=>Ar _
 |r+1,hp,h=>by
  have h1:=Lw r (fun i hi=>hp i ω) fun m a=>h m ω;have h2:=IK (pC (k:=r+1) hp) (h (r+1) (Af _));show mu T r+_<=(r+1)*D.log2;rw[Nat.add_mul];(first|lia|omega)
def Dg(r:Nat)(T:Nat->Vc):Prop:=∀u i,u<r->i<r->u≠i->T u i=0
open Classical in
noncomputable def ms(r:Nat)(T:Nat->Vc):Nat:=2*mu T r+if Dg r T then 0 else 1
section
variable{A T U V f1 f2:Nat->Vc}{k w r D bU bV g M N X B M2 X2 B2:Nat}{Bn Bf:List Vc}{QU QV:Nat->Nat}{P1 P2:List Nat}
def Qx(I:LI A k w r D bU bV g T U V Bn Bf QU QV)(hd:¬Dg r T)(Tr:Tri k r w M g (glue w (fun i u=>T u i) U) (fun a=>w+QU a))(j:FS N M X B (tl k (glue w (fun i u=>T u i) U)) P1 f1)(f:Tri w r k M2 1 (glue k (fun u i=>f1 (pls r w QU i) u) V) (fun a=>k+QV a))(l:FS N M2 X2 B2 (tl w (glue k (fun u i=>f1 (pls r w QU i) u) V)) P2 f2):ms r (fun u=>f2 (pls r k QV u))<ms r T:=by
 obtain⟨_,L,c,h1⟩:=I.near_done Tr j;obtain⟨_,J,e,h2⟩:=L.far_done f l;have le:=fun m b=>Ag (e m b) (c m b);unfold ms;rw[if_neg hd]
 by_cases d:∃m,m<=r/\2*pr (tn (fun u=>f2 (pls r k QV u)) m)<=pr (tn T m)
 ·have:=IM r J.tp le d
  split<;>(first|lia|omega)
 ·have:=IL r J.tp le
  have dg:Dg r (fun u=>f2 (pls r k QV u)):=by
   rcases h2 with ⟨m,b,h⟩|h
   ·exact absurd ⟨m,b,Ag h (c m b)⟩ d
   ·exact fun u i hu hi ne=>(h u hu).2 i hi (Ne.symm ne)
  rw[if_pos dg];(first|lia|omega)
def Qy{C:Nat->Vc}(I:LI A k w r D bU bV g T U V (tl k C) Bf QU QV)(hr:1<=r)(hd:Dg r T)(l:¬∀i,i+1<r->T i i ∣ T (i+1) (i+1))(c:Tri w r k M2 1 (glue k (fun u i=>a6 k w A (b7 U r (r-1) i) (V u)) V) (fun a=>k+QV a))(d:FS N M2 X2 B2 (tl w (glue k (fun u i=>a6 k w A (b7 U r (r-1) i) (V u)) V)) P2 f2):ms r (fun u=>f2 (pls r k QV u))<ms r T:=by
 obtain⟨L,val⟩:=I.slid hr hd;obtain⟨_,J,f,h2⟩:=L.far_done c d;have rk:=I.rk;have o:=I.rw;have e:∀m,m<=r->tn (fun i u=>a6 k w A (b7 U r (r-1) i) (V u)) m=tn T m:=fun m b=>iR fun i hi=>by
  show a6 k w A (b7 U r (r-1) i) (V i)=T i i;rw[val i i ω ω,if_pos ⟨Af _,ω⟩]
 have le:∀m,m<=r->pr (tn (fun u=>f2 (pls r k QV u)) m)<=pr (tn T m):=fun m b=>by rw[<-e m b];exact f m b
 unfold ms;rw[if_pos hd];have j:∃m,m<=r/\2*pr (tn (fun u=>f2 (pls r k QV u)) m)<=pr (tn T m):=by
  rcases h2 with ⟨m,b,h⟩|h
  ·exact⟨m,b,by rw[<-e m b];exact h⟩
  ·refine absurd (fun i hi=>?_) l
   have:=Qp L c d h (i:=i) (u:=i+1) ω ω;have this:a6 k w A (b7 U r (r-1) i) (V i) ∣ a6 k w A (b7 U r (r-1) i) (V (i+1)):=this
   rwa [val i i ω ω,val i (i+1) ω ω,if_pos ⟨Af _,ω⟩,if_pos ⟨ω,ω⟩] at this
 have:=IM r J.tp le j;split<;>(first|lia|omega)
end
section
variable{N M X B:Nat}{R:List Vc}{P:List Nat}{f:Nat->Vc}{l:Vc}
def pT:cM N M X B<=cE N M X B:=A4 _ _
def IN(a:1<=B):cK N M X B<=cM N M X B:=Nat.le_mul_of_pos_right _ (Nat.pow_pos (FN a))
def FS.mid{r:Vc}(c:1<=B)(F:FS N M X B R P f)(d:R.length<N)(hr:∀p∈P,(r p).natAbs<=M)(i:Nat):Rep (R++[r]) (cE N M X B) (a9 f (P.take i) r):=by
 have a:(P.take i).length<=N:=by have:=F.len;rw[List.length_take];(first|lia|omega)
 obtain⟨b,_⟩:=l_ (R:=R++[r]) (fun p hp=>(F.fr p hp).more) F.fv F.ech.pos (P.take i) (fun q hq=>List.mem_of_mem_take hq) (Rep.mem (Ay R (List.mem_singleton.mpr rfl))) hr;refine b.mono (Ag ?_ (Ag (IN c) pT));unfold cK;have h1:(1+B) ^ (P.take i).length<=(1+B) ^ N:=AC ω a;have h2:(P.take i).length*(M*(1+B) ^ (P.take i).length*cC N X B)<=N*(M*(1+B) ^ N*cC N X B):=AQ a (Al _ (Ak _ h1));(first|lia|omega)
structure Mid(N M X B:Nat)(R:List Vc)(P:List Nat)(f:Nat->Vc)(m:Vc)(a b c d:Int):Prop where
 ech:Ech P f
 fr:∀q∈P,Rep R (cE N M X B) (f q)
 piv:∀q∈P,(f q q).natAbs<=B
 met:∀i,Rep R (cE N M X B) (a9 f (P.take i) m)
 a1:a.natAbs<=B
 b1:b.natAbs<=B
 c1:c.natAbs<=B
 d1:d.natAbs<=B
def TS.mid{t p:Nat}{g a b c d:Int}(C:1<=B)(T:TS N M X B R P f l t)(hp:p∈P)(s:∀i,i<p->l i=0)(p7:l p≠0)(D:t<=p)(G:GI (f p p) (l p) g a b 0 c d):Mid N M X B R P (put f p (mix a (f p) b l)) (mix c (f p) d l) a b c d:=by
 obtain⟨T2,o⟩:=T.next C hp s p7 D G;have H:=FN (N:=N) C;obtain⟨r0,r1⟩:=T.red p hp;have w:=T.piv p hp;obtain⟨c1,E⟩:=G.le;have a1:a.natAbs<=B:=Ag G.b1 ω;have x:b.natAbs<=B:=Ag G.b2 w;have c1:c.natAbs<=B:=Ag c1 ω;have d1:d.natAbs<=B:=Ag E w;have I:∀q∈P,(l q).natAbs<=B:=fun q hq=>by have:=T.red q hq;have:=T.piv q hq;(first|lia|omega)
 have J:=T.fo p hp D;have L:∀{a b:Int},a.natAbs<=B->b.natAbs<=B->∀q∈P,(mix a (f p) b l q).natAbs<=2*B*B:=fun{a b} u hb q hq=>by
  have O:(a*f p q).natAbs<=B*B:=by rw[AK];exact AQ u (J q hq)
  have S:(b*l q).natAbs<=B*B:=by rw[AK];exact AQ hb (I q hq)
  have t3:=Int.natAbs_add_le (a*f p q) (b*l q);show(a*f p q+b*l q).natAbs<=_;rw[AO];generalize B*B=Y at O S ⊢;(first|lia|omega)
 have U:P.length<=N:=by have:=T.len;have:=T.few;(first|lia|omega)
 have cnt:(P.filter fun q=>decide (q<t)).length+1<=N:=by
  have h1:=T.len;have h2:=T.few;have:=List.length_filter_le (fun q=>decide (q<t)) P;(first|lia|omega)
 generalize hK:cK N M X B*cG N B ^ (P.filter fun p=>decide (p<t)).length=K;have fr:=T.fr;have y:=T.lr;rw[hK] at fr y;have z:∀{a b:Int},a.natAbs<=B->b.natAbs<=B->Rep R (2*B*K) (mix a (f p) b l):=fun{a b} u hb=>((fr p hp).lin y u hb).mono (by rw[AO];(first|lia|omega));have W:K<=2*B*K:=Nat.le_mul_of_pos_left _ ω;have A:∀q∈P,Rep R (2*B*K) (put f p (mix a (f p) b l) q):=fun q hq=>by
  by_cases e:q=p
  ·subst e;rw[zQ];exact z a1 x
  ·rw[df e];exact(fr q hq).mono W
 have h:∀n,n<=N->2*B*K+n*(2*B*B*(1+2*B*B) ^ n*(2*B*K))<=cG N B*K:=fun n v=>by
  unfold cG cW;have h1:(1+2*B*B) ^ n<=(1+2*B*B) ^ N:=AC ω v;generalize 2*B*B=Y at h1 ⊢;have h2:n*(Y*(1+Y) ^ n*(2*B*K))<=N*(Y*(1+Y) ^ N*(2*B*K)):=AQ v (Al _ (Ak _ h1));refine Ag (Nat.add_le_add_left h2 _) (Nat.le_of_eq ?_);generalize Y*(1+Y) ^ N=Z;generalize 2*B=Q;rw[Nat.mul_add,Nat.mul_one,Nat.add_mul,<-AO N Z,Nat.mul_comm Q (N*Z),AO (N*Z)]
 have j:cG N B*K<=cE N M X B:=by
  refine Ag ?_ pT;rw[<-hK,Nat.mul_left_comm,<-Nat.pow_succ'];exact Ak _ (AC H cnt)
 have two:2*B*K<=cG N B*K:=Ag (A4 _ _) (h 0 ω);refine⟨o,fun q hq=>(A q hq).mono (Ag two j),T2.piv,fun i=>?_,a1,x,c1,d1⟩;have hi:(P.take i).length<=N:=by rw[List.length_take];(first|lia|omega)
 obtain⟨F,_⟩:=l_ A (fun q hq r hr=>T2.fv q hq r hr) o.pos (P.take i) (fun q hq=>List.mem_of_mem_take hq) (z c1 d1) (L c1 d1);exact F.mono (Ag (h _ hi) j)
def TS.rep{t:Nat}(a:1<=B)(T:TS N M X B R P f l t):(∀p∈P,Rep R (cE N M X B) (f p))/\Rep R (cE N M X B) l:=
 ⟨fun p hp=>(T.fr p hp).mono (Ag (T.cnt a) pT),T.lr.mono (Ag (T.cnt a) pT)⟩
end
def TS.nz{N M X B Y t:Nat}{R:List Vc}{P:List Nat}{f:Nat->Vc}{l:Vc}(T:TS N M X B R P f l t)(hi:jm R)(hb:∀r∈R,∀u,(r u).natAbs<=Y):∃u,l u≠0:=by
 refine AN fun no=>?_;have z:∀u,l u=0:=fun u=>AN fun h=>no ⟨u,h⟩;have e:∀r∈R,Sp (P.map f) r:=fun r hr=>(T.gen r hr).trans fun s a=>by
  rcases List.mem_append.mp a with h|h
  ·exact Sp.mem h
  ·rw[List.mem_singleton.mp h];exact Sp.zero.eq z
 obtain⟨c,h1,⟨x,hx,d⟩,h2,_⟩:=g0 (M:=Y+1) ω (fun v b p _=>Nat.le_succ_of_le (hb v b p)) (show P.length<R.length by have:=T.len;(first|lia|omega));exact d (FJ hi T.ech T.srt e c h1 h2 x hx)
end Tb
end
section
namespace L2
open PySem PySem.Spec PyProof.Rows
def pU(hi:Int)(n:Nat):It:=⟨fun i _=>i<n,fun i H x H'=>H'=H/\x=.int (hi-i),fun i _=>n<=i⟩
def Qz{P:Program}{w:World}{K:Ab}{tg:Expr}(it:Addr)(lo:Int)(n:Nat):Turn P w K tg (pU lo n) [it] it (fun i h=>IsRangeIter h it (lo+(i:Nat)*(-1)) ((n:Int)-(i:Nat)) (-1)) where
 mem:=by simp
 obj:=fun i h st b hb=>by
  have e:b=it:=by simpa using hb
  subst e;exact⟨_,st,fun v z=>by
   have u:Data.fields _=Data.cell v:=z;cases u⟩
 keep:=fun i h h' st k=>k it (by simp) _ st
 item:=by
  intro X c hw d hc i aa s σ H E I a st hg;subst c hw d;obtain⟨f,f1,f2,g,j,l⟩:=a it (by simp);have W:=Walks.range (prog:=X.prog) (w:=X.w) (I.ok.hd hc) it lo (-1) n;refine W.item i s _ _ hg st fun v h' tk p ad q=>?_;obtain⟨t,rfl⟩:=p;have x:Inv X aa σ H {s with heap:=h',toks:=tk}:=I.turned (fun b o hb e=>q b o (by simpa using hb) e) f f1 g j l;refine⟨_,rfl,G9 (s:={s with heap:=h',toks:=tk}) (n:="range_iterator") ad rfl rfl ξ ⟨.int (lo-i),H,x,⟨t,?_⟩,⟨rfl,rfl⟩,ad,fun b hb=>(a b hb).1⟩⟩;rw[show lo+(i:Int)*(-1)=lo-i from ω]
 done:=by
  intro X c hw d hc i aa s σ H E I a st hg;subst c hw d;obtain⟨f,f1,f2,g,j,l⟩:=a it (by simp);exact wpAny_pyNext_range_end (I.ok.hd hc) st (by have:n<=i:=hg;(first|lia|omega)) fun h' r=>⟨rfl,I.turned (t':=s.toks) (fun b o hb e=>r b o hb e) f f1 g j l⟩
 self:=fun _ _ _ _ _ st h=>wpAny_pyIter_rangeiter st h
section
variable{X:Cx}{tg:Expr}
def QA{aa:Ψ}{σ:St}{H:Hp}{s:Shared}{R:It->Hp->Prop}{E:Ω}{lo hi:Int}{t u v:Tok}{tk:Nat}(I:Inv X aa σ H s)(h1:-(2 ^ 62)<=lo)(h2:lo<2 ^ 62)(a:-(2 ^ 62)<=hi)(c:hi<2 ^ 62)(q:R (pU lo (lo-hi).toNat) H):wpAny (model X.prog X.w) X.A (pyIter (.ref s⁻¹)) (G8 X aa σ tg R) E {s with heap:=s.heap.push {cls:=.type "range",data:=.fields #[.int lo t,.int hi u,.int (-1) v]},toks:=tk}:=by
 refine wpAny_pyIter_range (IsRange.new ..) (PySem.W.small_down h1 h2 a c) ?_;have I1:Inv X aa σ H {s with heap:=s.heap.push {cls:=.type "range",data:=.fields #[.int lo t,.int hi u,.int (-1) v]},toks:=tk}:=I.kept fun b o e=>Ai _ e;refine⟨(s.heap.push {cls:=.type "range",data:=.fields #[.int lo t,.int hi u,.int (-1) v]}).objs.size,[(s.heap.push {cls:=.type "range",data:=.fields #[.int lo t,.int hi u,.int (-1) v]}).objs.size],_,_,H,rfl,
  I1.kept (t':=tk) fun b o e=>Ai _ e,Qz _ lo (lo-hi).toNat,?_,fun b hb=>?_,q⟩
 ·have e1:lo+((0:Nat):Int)*(-1)=lo:=by simp
  have e2:(((lo-hi).toNat:Nat):Int)-((0:Nat):Int)=Builtin.Range.rangeSize lo hi (-1):=by rw[PySem.W.rangeSize_downNat];(first|lia|omega)
  show IsRangeIter _ _ (lo+((0:Nat):Int)*(-1)) ((((lo-hi).toNat:Nat):Int)-((0:Nat):Int)) (-1);rw[e1,e2];exact AG _ rfl
 ·have e:b=(s.heap.push {cls:=.type "range",data:=.fields #[.int lo t,.int hi u,.int (-1) v]}).objs.size:=by simpa using hb
  subst e;exact I1.fpOk (Af _) (I1.hok.fresh (Af _))
def QB(ta:TA):TI:=fun σ H R=>ta σ H fun vs H1=>∃i j:Int,vs=[.int i,.int j,.int (-1)]/\(-(2 ^ 62)<=i/\i<2 ^ 62/\-(2 ^ 62)<=j/\j<2 ^ 62)/\R (pU i (i-j).toNat) H1
def Lx{a b c:Expr}{ta:TA}{p pos:Pos}(hg:Gl X "range")(v:X.mg "range"=none)(w:PA X [a,b,c] ta)(x:starEach [a,b,c] X.env=[(false,eval a X.env),(false,eval b X.env),(false,eval c X.env)]:=by rfl)(f:starEach [b,c] X.env=[(false,eval b X.env),(false,eval c X.env)]:=by rfl):PI X tg (.Call (.Name "range" p) [a,b,c] [] pos) (QB ta):=by
 intro aa s σ H R I h;refine Call_ (i0 I hg v boot_range (PyProof.Rows.callWith_type1 (aX (w pos aa s σ H _ I h) fun us z ⟨vs,H1,y,g,d⟩=>?_) (by rw[x,f]) (by rw[f];rfl)));obtain⟨i,j,e,⟨d,l,o,u⟩,q⟩:=d;subst e;cases g with
 |cons r rr=>
  cases rr with
  |cons r' rr=>
   cases rr with
   |cons r'' rr=>
    cases rr;obtain⟨t,rfl⟩:=r;obtain⟨t',rfl⟩:=r';obtain⟨A,rfl⟩:=r'';exact call_range_3 ξ (QA y d l o u q) (.inl (PyProof.noPylong_of_log2 δ))
end
def Ly{hi:Int}{n:Nat}{g:TG}{tb:TS}{D:Ends}{σ:St}{H:Hp}(b:Nat->St->Hp->Prop)(j:b 0 σ H)(l:∀i σ H,i<n->b i σ H->g (.int (hi-i)) σ H fun c H2=>tb {D with nx:=b (i+1),ct:=b (i+1),bk:=D.nx} c H2)(hd:∀σ H,b n σ H->D.nx σ H):∃W:Nat->Nat->St->Hp->Prop,(∃m,W 0 m σ H)/\∀i m σ H,W i m σ H->
   ((pU hi n).stop i H/\D.nx σ H)\/((pU hi n).go i H/\∃N:St->Hp->Prop,(∀d H',N d H'->∃f,f<m/\W (i+1) f d H')/\∀x H',(pU hi n).yld i H x H'->g x σ H' fun c H2=>tb {D with nx:=N,ct:=N,bk:=D.nx} c H2):=by
 refine⟨fun i m σ H=>m=n-i/\i<=n/\b i σ H,⟨n,by simp,Ar _,j⟩,?_⟩;rintro i m σ H ⟨rfl,hi,p⟩
 by_cases a:i<n
 ·refine .inr ⟨a,b (i+1),fun d H' h=>⟨n-(i+1),ω,rfl,a,h⟩,fun x H' y=>?_⟩
  obtain⟨e,y⟩:=y;subst e y;exact l i σ _ a p
 ·have e:i=n:=ω
  subst e;exact .inl ⟨Af _,hd σ H p⟩
end L2
end
section
namespace K27
open PySem L2
abbrev FX:Stmt:=top 42
def Lz:A9 "len"=some (.builtin "len"):=δ
def IP{R:List Tb.Vc}{ps:List Nat}{fr:Nat->List Int}{W CE N Y:Nat}{rn:List Int}(g:∀r∈R,∀u,(r u).natAbs<=Y)(a:R.length<=N)(l:∀p∈ps,Tb.Rep R CE (vF fr p))(b:∀p∈ps,0<vF fr p p)(e:∀p∈ps,(vF fr p p).natAbs<2 ^ 9000)(d:Wid W ps fr)(h:rn.length=W)(met:∀i,Tb.Rep R CE (Tb.a9 (vF fr) (ps.take i) (vc rn)))(c:N*(CE*Y)<big):kn fr W rn ps:=by
 refine⟨h,d.most,fun p hp=>⟨(d.row p hp).1,(d.row p hp).2,b p hp,e p hp⟩,fun i p hp x hx=>?_⟩;have j:=An hp;refine gs (Aq Ip ?_) ?_
 ·have f:=met i
  rw[<-pu (fr:=fr) (W:=W) (ps:=ps.take i) (rn:=rn) h fun q hq=>(d.row q (List.mem_of_mem_take hq)).2] at f;exact Aq (Ag (f.le (u:=p) fun r hr=>g r hr p) (Al _ a)) c
 ·obtain⟨u,_,rfl⟩:=FP hx
  exact Aq (Ag ((l p j).le (u:=u) fun r hr=>g r hr u) (Al _ a)) c
structure LA(N M X B Y:Nat)(R:List Tb.Vc):Prop where
 hB:1<=B
 piv:B<2 ^ 9000
 lim:N*(Tb.cE N M X B*Y)<big
 hR:∀r∈R,∀u,(r u).natAbs<=Y
 few:N<64
 bd:Tb.Bd N M X B R
def Fnd.no{H:Hp}{a:Addr}{es:List (Nat×Addr)}{fr:Nat->List Int}(h:Fnd H a es fr){p:Nat}(hp:p∉es.map (·.1)):DGet H a (.int p) none:=by
 have:=DGet.k (k:=Sum.inl (p:Int)) h.at_;rw[P8 ?_] at this
 ·exact this
 ·intro f b z
  rw[AT] at b;obtain⟨e,c,rfl⟩:=List.mem_map.mp b;have d:(Sum.inl (e.1:Int):Key)=Sum.inl (p:Int):=z;have:(e.1:Int)=p:=by injection d
  exact hp (List.mem_map.mpr ⟨e,c,ω⟩)
def eH{l:List Int}{p:Nat}(h:p<l.length):(l.map V.int)[p]?=some (V.int (vc l p)):=by
 unfold vc;rw[Aj,Ad,Ac h];rfl
def Fra(a:Addr)(H H':Hp):Prop:=∀b o,b≠a->H b=some o->H' b=some o
def Fra.trans{a:Addr}{H H1 H2:Hp}(h:Fra a H H1)(h2:Fra a H1 H2):Fra a H H2:=fun b o hb e=>h2 b o hb (h b o hb e)
def Fra.of{a:Addr}{H H1:Hp}(h:Same H H1):Fra a H H1:=fun b o _ e=>h b o e
def jw(xs:List V)(n:Nat):dQ xs (some (n:Int)) none=xs.drop n:=by
 unfold dQ;rw[HT.J5,HT.J4];rcases Nat.le_total n xs.length with h|h
 ·rw[Nat.min_eq_left h,Ax (by simp)]
 ·rw[Nat.min_eq_right h,List.drop_eq_nil_of_le (Af _),List.drop_eq_nil_of_le h,List.take_nil]
def hV(l:List Int)(q:Nat):List Int:=if 0<vc l q then l else l.map fun x=>-x
def QC{l:List Int}{q:Nat}:vc (hV l q)=Tb.up (vc l) q:=by
 unfold hV Tb.up;split
 ·rfl
 ·exact Qa
def QD{l:List Int}{q:Nat}:(hV l q).length=l.length:=by unfold hV;split;rfl;simp
def LB{q:Nat}:∀{P:List Nat},(Tb.ins q P).Perm (P++[q])
 |[]=>.refl _
 |p::P=>by
  unfold Tb.ins;split
  ·exact(List.perm_append_singleton q (p::P)).symm
  ·exact(LB (P:=P)).cons p
def share{c:Bool}{A B:Prop}{C S:Addr->Hp->Prop}(h2:(∀u H,S u H->C u H)->¬c=true->B)(h1:(∀u H,S u H->C u H)->c=true->A)(fin:∀u H,S u H->C u H):if c=true then A else B:=by
 split
 ·exact h1 fin (by assumption)
 ·exact h2 fin (by assumption)
structure Bt(a d:Addr)(q W N M X B:Nat)(R:List Tb.Vc)(P:List Nat)(H0 H:Hp)(ln:List Int)(es:List (Nat×Addr))(fr:Nat->List Int)(t:Nat):Prop where
 fra:Fra a H0 H
 fnd:Fnd H a es fr
 pls:Pls es P
 wid:Wid W P fr
 at_:H d=some (.lst (ln.map V.int))
 len:ln.length=W
 ts:Tb.TS N M X B R P (vF fr) (vc ln) t
 tq:t<=q
 qW:q<W
 low:∀i,i<q->vc ln i=0
 nz:vc ln q≠0
def IQ{H:Hp}{a b:Addr}{es:List (Nat×Addr)}{fr:Nat->List Int}{xs:List V}(h:Fnd H a es fr)(hb:H b=some (.lst xs)):b≠a:=fun z=>by rw[z,h.at_] at hb;cases hb
section
variable{P:Program}{w:World}{K:Ab}{mg:Str->Option Value}{base:Heap}
def LC:Sp:=fun vs H Q _=>∃(a r:Addr)(rn:List Int)(es:List (Nat×Addr))(fr:Nat->List Int)(P:List Nat)(N M X B Y W:Nat)(R:List Tb.Vc),vs=[.ref a,.ref r]/\H r=some (.lst (rn.map V.int))/\Fnd H a es fr/\Pls es P/\Wid W P fr/\rn.length=W/\
 Tb.FS N M X B R P (vF fr)/\R.length<N/\(∀p∈P,(vc rn p).natAbs<=M)/\LA N M X B Y (R++[vc rn])/\
 ∀H' d b c,Fra a H H'->Fnd H' a d b->Pls d c->Wid W c b->Tb.FS N M X B (R++[vc rn]) c (vF b)->Q .non H'
def jx:zl ["found","row","left","place","top","pair","places","k"] ["found","row"] (zd FX):=⟨rfl,rfl,rfl,δ,rfl,δ,δ⟩
def QE{f fr ff fp fm:Addr}{fd bC n_ ck aP:FuncData}(F:Fun K "take_in" "take_in" FX f fd)(bs:mg "sorted"=none)(bg:mg "range"=none)(bn:mg "len"=none)(Fr:Fun K "reduced" "reduced" jp fr bC)(br:Binds K bC ["row","found","places"] [])(mr:mg "reduced"=some (.ref fr))(Gr:FnOk P w K mg base aJ 2 fr bC ["row","found","places"] KP)(Ff:Fun K "first_place" "first_place" FK ff n_)(bf:Binds K n_ ["row"] [])(mf:mg "first_place"=some (.ref ff))(Gf:FnOk P w K mg base aJ 1 ff n_ ["row"] KN)(Fp:Fun K "divisor_pair" "divisor_pair" uu fp ck)(bp:Binds K ck ["one","other"] [])(mp:mg "divisor_pair"=some (.ref fp))(Gp:FnOk P w K mg base aJ 1 fp ck ["one","other"] KO)(Fm:Fun K "mix_of_two" "mix_of_two" t5 fm aP)(bm:Binds K aP ["often","row","other_often","other"] [])(mm:mg "mix_of_two"=some (.ref fm))(Gm:FnOk P w K mg base aJ 1 fm aP ["often","row","other_often","other"] KF):FnOk P w K mg base aJ 3 f fd ["found","row"] LC:=by
 refine F.ok jx (fun vs H Q E h=>?_) (fun ah A outer s H vs Q E hr h=>?_)
 ·obtain⟨a,r,rn,es,fr,PP,N,M,X,B,Y,W,R,rfl,_⟩:=h;rfl
 ·obtain⟨a,r,rn,es,fR,PP,N,M,X,B,Y,W,R,rfl,h1,hF,hP,hW,hn,FS,hlt,hM,L,k⟩:=h
  have hu:=DC hr;have hr1:Room 1 _:=hr.mono ξ;refine⟨_,za (zr (i:=2) jx.nd rfl (Or.inl rfl) (ze Gr hr rfl mr Fr.kp br .nil ap (af (pv 1) (af (pv 0) (af (zj (uw rfl) rfl bs uF (af (pv 0) ak)) ak)))))
   (za (zr (i:=3) jx.nd rfl (Or.inl rfl) (ze Gf hr1 rfl mf Ff.kp bf .nil ap (af (pv 2) ak)))
   (za (B9 PassesOwn.never (ND (Op hu (pv 3) (pv 0)) (by with_unfolding_all rfl))
    (za (zr (i:=4) jx.nd rfl (Or.inl rfl) (la hu (pv 0) (pv 3) (fun _ _=>rfl)))
    (za (zr (i:=5) jx.nd rfl (Or.inl rfl) (ze Gp hr1 rfl mp Fp.kp bp .nil ap (af (zy zB (pv 4) (pv 3) (fun _ _=>rfl)) (af (zy zB (pv 2) (pv 3) (fun _ _=>rfl)) ak))))
    (za (HF hu (pv 0) (pv 3) (ze Gm hr1 rfl mm Fm.kp bm .nil ap (af (zy zE (zy zE (pv 5) zb (fun _ _=>rfl)) zb (fun _ _=>rfl)) (af (pv 4) (af (zy zE (zy zE (pv 5) zb (fun _ _=>rfl)) zb (fun _ _=>rfl)) (af (pv 2) ak))))) rfl)
    (za (zr (i:=2) jx.nd rfl (Or.inl rfl) (ze Gr hr rfl mr Fr.kp br .nil ap (af (ze Gm hr1 rfl mm Fm.kp bm .nil ap (af (zy zE (zy zE (pv 5) zb (fun _ _=>rfl)) zb (fun _ _=>rfl)) (af (pv 4) (af (zy zE (zy zE (pv 5) zb (fun _ _=>rfl)) zb (fun _ _=>rfl)) (af (pv 2) ak))))) (af (pv 0) (af (zj (uw rfl) rfl bs uF (af (pv 0) ak)) ak)))))
    (zf (zr (i:=3) jx.nd rfl (Or.inl rfl) (ze Gf hr1 rfl mf Ff.kp bf .nil ap (af (pv 2) ak)))))))))
   (za (HF hu (pv 0) (pv 3) (qA (zx k6 (zy zB (pv 2) (pv 3) (fun _ _=>rfl)) zb (ar _)) (pv 2)
    (zp ["found","row","left","place","top","pair","places","k"] ["number"] [none] (zO (pv 2)) (fun cl C s₀ H₀ ex=>zk (i:=0) (bx ["number"]) rfl (Or.inl rfl)) (fun cl C s₀ H₀ ex=>zz) (fun cl C s₀ H₀ ex=>jX j3 (pv 0)) (te:=JS (rU fun i=>.int (-i)) (aC 0)) (hfr:=bJ δ))) rfl)
   (za (zr (i:=6) jx.nd rfl (Or.inl rfl) (zj (uw rfl) rfl bs uF (af (pv 0) ak)))
   (zf (i6 PassesOwn.never rfl (Lx rfl bg (af (zF fD (zj zi rfl bn Lz (af (pv 6) ak)) zb) (af (jX j3 zb) (af (jX j3 zb) ak)))) (zk (i:=7) jx.nd rfl (Or.inl rfl))
    (zf (HF hu (pv 0) (zy zB (pv 6) (pv 7) (fun _ _=>rfl)) (ze Gr hr rfl mr Fr.kp br .nil ap (af (la hu (pv 0) (zy zB (pv 6) (pv 7) (fun _ _=>rfl)) (fun _ _=>rfl)) (af (pv 0) (af (ro rv (pv 6) (rm (zF eU (pv 7) zb)) ri) ak)))) rfl)))))))),?_⟩
  have z64:es.length<64:=by have:=hP.len;have:=FS.len;have:=L.few;(first|lia|omega)
  have T0:=FS.take L.hB hlt hM;have fF:(R++[vc rn]).length<=N:=by rw[AJ];exact hlt
  have pv:∀{x:Nat},x<=B->x<2 ^ 9000:=fun h=>Aq h L.piv;have qQ:kn fR W rn PP:=IP L.hR fF (fun p hp=>(T0.rep L.hB).1 p hp) FS.ech.pos (fun p hp=>pv (FS.piv p hp)) hW hn (fun i=>FS.mid L.hB hlt hM i) L.lim;refine⟨_,rfl,_,rfl,_,rfl,a,ez es,rfl,hF.at_,(by simpa using z64),fun PL ms pm so d_=>?_⟩;rw[hP.ints pm so];have sP:=Same.new (o:=.lst (PP.map fun p:Nat=>V.int (p:Int))) d_;refine⟨r,a,PL,rn,es,fR,PP,W,rfl,sP _ _ h1,hF.same sP,al,fun p hp=>hP.pm.mem_iff.mp hp,qQ,fun d H1 s1 hd=>?_⟩;have e0:vc (aU fR rn PP)=Tb.a9 (vF fR) PP (vc rn):=pu hn fun p hp=>(hW.row p hp).2;rw[<-e0] at T0;have l0:(aU fR rn PP).length=W:=pc hn fun p hp=>(hW.row p hp).2;obtain⟨q,q1,q2,q3,q4,q5⟩:=K0 (T0.nz L.bd.ind L.hR);refine⟨_,rfl,d,aU fR rn PP,q,rfl,hd,q2,q3,?_⟩;have B0:Bt a d q W N M X B (R++[vc rn]) PP H H1 (aU fR rn PP) es fR 0:=⟨.of (sP.trans s1),hF.same (sP.trans s1),hP,hW,hd,l0,T0,Ar _,ω,q4,q5⟩;refine⟨fun n σ H3=>∃(d:Addr)(q:Nat)(I:List Int)(es:List (Nat×Addr))(fr:Nat->List Int)(t:Nat)(v4 v5:Option V),n=W-q/\σ=[some (.ref a),some (.ref r),some (.ref d),some (.int q),v4,v5,none,none]/\Bt a d q W N M X B (R++[vc rn]) PP H H3 I es fr t,
   ⟨_,d,q,_,es,fR,0,none,none,rfl,rfl,B0⟩,?_⟩
  clear B0 q5 q4 q3 q2 q1 l0 e0 hd s1 sP d_ so pm qQ T0;clear d q H1 PL ms;rintro n σ H3 ⟨d,q,I,es,fr,t,v4,v5,rfl,rfl,T⟩
  by_cases hq:q∈PP
  ·obtain⟨c,hc,gc,aK⟩:=T.fnd.get (T.pls.pm.mem_iff.mp hq)
   refine⟨_,rfl,_,rfl,a,_,rfl,gc,_,rfl,?_⟩;have rW:=T.wid.row q hq;have Dr:=T.len;have mW:=T.wid.most;have x0:0<vF fr q q:=T.ts.ech.pos q hq;obtain⟨EH,y1⟩:=T.ts.red q hq;have y0:0<vc I q:=by have:=T.nz;(first|lia|omega)
   have xb:(vF fr q q).natAbs<2 ^ 9000:=pv (T.ts.piv q hq);have yb:(vc I q).natAbs<2 ^ 9000:=Aq ω xb;have z64:es.length<64:=by have:=T.pls.len;have:=FS.len;have:=L.few;(first|lia|omega)
   have hqe:q∈es.map (·.1):=T.pls.pm.mem_iff.mp hq;refine aT ⟨fun ai H'=>∃n',n'<W-q/\∃(d:Addr)(q:Nat)(I:List Int)(es:List (Nat×Addr))(fr:Nat->List Int)(t:Nat)(v4 v5:Option V),n'=W-q/\ai=[some (.ref a),some (.ref r),some (.ref d),some (.int q),v4,v5,none,none]/\Bt a d q W N M X B (R++[vc rn]) PP H H' I es fr t,fun ai H' h=>h,?_⟩;refine⟨_,rfl,_,rfl,a,_,rfl,gc,?_⟩;refine⟨_,rfl,_,rfl,c,_,_,_,rfl,rfl,SqL.of aK,zh (eH ω),_,rfl,_,rfl,d,_,_,_,rfl,rfl,SqL.of T.at_,zh (eH ω),vF fr q q,vc I q,rfl,x0,y0,xb,yb,fun r0 p1 p2 H4 g a1 b1 c1 d1 s4 jb dG eI G=>?_⟩;have Mi:=T.ts.mid L.hB hq T.low T.nz T.tq G;obtain⟨T2,_⟩:=T.ts.next L.hB hq T.low T.nz T.tq G;have rp:=T.ts.rep L.hB;have ent:∀{l:List Int},Tb.Rep (R++[vc rn]) (Tb.cE N M X B) (vc l)->∀x∈l,x.natAbs<big:=fun h x hx=>by
    obtain⟨u,_,rfl⟩:=FP hx;exact Aq (Ag (h.le (u:=u) fun r hr=>L.hR r hr u) (Al _ fF)) L.lim
   have Z:∀{k:Int},k.natAbs<=B->∀{x:Int},x.natAbs<big->ey k x:=by
    intro k hk x hx;exact⟨9000,bt,pv hk,hx,by have:=kr;(first|lia|omega)⟩
   have er:=ent (rp.1 q hq);have el:=ent rp.2;refine⟨_,rfl,r0,_,_,_,rfl,rfl,SqT.of jb,zh (j:=0) rfl,p1,_,_,_,rfl,rfl,SqT.of dG,zh (j:=1) rfl,_,rfl,_,rfl,r0,_,_,_,rfl,rfl,SqT.of jb,zh (j:=0) rfl,p1,_,_,_,rfl,rfl,SqT.of dG,zh (j:=2) rfl,_,rfl,c,d,_,_,_,_,rfl,s4 _ _ aK,s4 _ _ T.at_,ω,fun x hx=>Z Mi.a1 (er x hx),fun x hx=>Z Mi.b1 (el x hx),fun e H5 s5 Ej he=>?_⟩;have F5:=T.fnd.same (s4.trans s5);obtain⟨H6,dp,F6,o6⟩:=F5.put (H2:=H5) (p:=q) he ω;refine⟨_,rfl,_,rfl,a,H6,rfl,dp,?_⟩;have qR:=(T.fnd.same s4).at_;have keep:∀b o,b≠a->H4 b=some o->H6 b=some o:=fun b o hb e=>by rw[o6 b hb];exact s5 _ _ e
   have nr0:r0≠a:=fun z=>by rw[z,qR] at jb;cases jb
   have np2:p2≠a:=fun z=>by have h:=eI;unfold Tr at h;rw[z,qR] at h;cases h
   have nc:c≠a:=IQ T.fnd aK;have nd:d≠a:=IQ T.fnd T.at_;have sL:=keep _ _ nr0 jb;have pS:=keep _ _ np2 eI;refine⟨_,rfl,r0,_,_,_,rfl,rfl,SqT.of sL,zh (j:=1) rfl,p2,_,_,_,rfl,rfl,SqT.of pS,zh (j:=1) rfl,_,rfl,_,rfl,r0,_,_,_,rfl,rfl,SqT.of sL,zh (j:=1) rfl,p2,_,_,_,rfl,rfl,SqT.of pS,zh (j:=2) rfl,_,rfl,c,d,_,_,_,_,rfl,keep _ _ nc (s4 _ _ aK),keep _ _ nd (s4 _ _ T.at_),ω,fun x hx=>Z Mi.c1 (er x hx),fun x hx=>Z Mi.d1 (el x hx),fun m H7 s7 iH hm=>?_⟩;have fA:Pls (cf es q e) PP:=⟨by rw[FQ,if_pos hqe];exact T.pls.pm,T.pls.so⟩;have lM:(cf es q e).length<64:=by have:=fA.len;have:=T.pls.len;(first|lia|omega)
   refine⟨_,rfl,_,rfl,a,ez (cf es q e),rfl,(F6.same s7).at_,(by simpa using lM),fun PL ms pm so d_=>?_⟩;rw[fA.ints pm so];have sP:=Same.new (o:=.lst (PP.map fun p:Nat=>V.int (p:Int))) d_;have W2:Wid W PP (bP fr q (bK a1 (fr q) b1 I)):=T.wid.put (by unfold bK;rw[AE];(first|lia|omega));have lm:(bK c1 (fr q) d1 I).length=W:=by unfold bK;rw[AE];(first|lia|omega)
   have ef:vF (bP fr q (bK a1 (fr q) b1 I))=Tb.put (vF fr) q (Tb.mix a1 (vF fr q) b1 (vc I)):=by rw[Io,KZ ω];rfl
   have em:vc (bK c1 (fr q) d1 I)=Tb.mix c1 (vF fr q) d1 (vc I):=by rw[KZ ω];rfl
   rw[<-ef,<-em] at Mi T2;have yn:kn (bP fr q (bK a1 (fr q) b1 I)) W (bK c1 (fr q) d1 I) PP:=IP L.hR fF Mi.fr Mi.ech.pos (fun p hp=>pv (Mi.piv p hp)) W2 lm Mi.met L.lim;refine⟨m,a,PL,_,cf es q e,bP fr q (bK a1 (fr q) b1 I),PP,W,rfl,sP _ _ hm,(F6.same s7).same sP,al,fun p hp=>fA.pm.mem_iff.mp hp,yn,fun d2 H9 s9 fM=>?_⟩;rw[<-pu (W:=W) lm fun p hp=>(W2.row p hp).2] at T2;obtain⟨q',q1,q2,q3,q4,q5⟩:=K0 (T2.nz L.bd.ind L.hR);have l9:(aU (bP fr q (bK a1 (fr q) b1 I)) (bK c1 (fr q) d1 I) PP).length=W:=pc lm fun p hp=>(W2.row p hp).2;have qq:q+1<=q':=Nat.le_of_not_lt fun h=>q5 (T2.low q' h);refine⟨_,rfl,d2,_,q',rfl,fM,q2,q3,?_⟩;refine⟨W-q',ω,d2,q',_,cf es q e,bP fr q (bK a1 (fr q) b1 I),q+1,_,_,rfl,rfl,⟨?_,((F6.same s7).same sP).same s9,fA,W2,fM,l9,T2,qq,ω,q4,q5⟩⟩;exact T.fra.trans ((Fra.of s4).trans ((show Fra a H4 H6 from keep).trans (.of ((s7.trans sP).trans s9))))
  ·refine⟨_,rfl,_,rfl,a,_,rfl,T.fnd.no (fun h=>hq (T.pls.pm.mem_iff.mpr h)),_,rfl,?_⟩
   have Dr:=T.len;have mW:=T.wid.most;refine av ⟨_,rfl,_,rfl,d,_,_,_,rfl,rfl,SqL.of T.at_,zh (eH (by have:=T.qW;(first|lia|omega))),_,_,rfl,rfl,_,rfl,?_⟩;apply share (S:=fun u H4=>Same H3 H4/\H4 u=some (.lst ((hV I q).map V.int)))
   ·intro fin hc
    refine⟨_,rfl,d,rfl,⟨_,SqL.of T.at_⟩,fun D hD=>zw (lH (xs:=I.map V.int) (fun j σ ys H4=>∃v,σ=[v]/\Same H3 H4/\H4 D=some (.lst ys)/\ys=((I.take j).map fun x=>-x).map V.int) ⟨none,rfl,Same.new hD,al,rfl⟩ ?_ ?_ ?_)⟩
    ·rintro j σ ys H4 ⟨v,rfl,sm,_⟩
     exact SqL.of (sm _ _ T.at_)
    ·rintro j σ ys H4 x hx hj hy ⟨v,rfl,sm,bI,rfl⟩
     obtain⟨y,gy,rfl⟩:=gm hx;refine cZ ⟨_,rfl,_,rfl,bZ (by rw[Aa];exact zm ω) hj hy bI ⟨_,rfl,sm.then hD,al,?_⟩⟩;rw[take_snoc gy,Aw,Aw];rfl
    ·rintro σ ys H4 ⟨v,rfl,sm,bI,rfl⟩
     refine fin D H4 ⟨sm,?_⟩;rw[bI,Aa,Ax (Af _)];unfold hV;rw[if_neg fun h=>hc (decide_eq_true h)]
   ·intro fin hc
    refine⟨_,rfl,fin d H3 ⟨Same.refl _,?_⟩⟩;unfold hV;rw[if_pos (of_decide_eq_true hc)];exact T.at_
   ·rintro u H4 ⟨s4,nv⟩
    have S0:=T.ts.full L.hB hq T.low T.nz;have hqe:q∉es.map (·.1):=fun h=>hq (T.pls.pm.mem_iff.mpr h);have F4:=T.fnd.same s4;have FE:=T.pls.len;have zP:=FS.len;have zN:=L.few;obtain⟨H5,dp,F5,o5⟩:=F4.put (H2:=H4) (p:=q) nv ω;refine⟨_,rfl,_,rfl,a,H5,rfl,dp,?_⟩;have lu:(hV I q).length=W:=by rw[QD];exact T.len
    have ef:vF (bP fr q (hV I q))=Tb.put (vF fr) q (Tb.up (vc I) q):=by rw[Io,QC]
    rw[<-ef] at S0;have dN:Pls (cf es q u) (Tb.ins q PP):=⟨by rw[FQ,if_neg hqe];exact LB.trans (T.pls.pm.append_right [q]),S0.srt.imp fun h=>Nat.le_of_lt h⟩;have hJ:Wid W (Tb.ins q PP) (bP fr q (hV I q)):=by
     refine⟨mW,fun p hp=>?_⟩;unfold bP;rcases Tb.mem_ins.mp hp with rfl|h
     ·rw[if_pos rfl];exact⟨T.qW,lu⟩
     ·have:p≠q:=fun z=>hq (z▸h)
      rw[if_neg this];exact T.wid.row p h
    have fra5:Fra a H H5:=T.fra.trans ((Fra.of s4).trans fun b o hb e=>by rw[o5 b hb];exact e);have lQ:(Tb.ins q PP).length=PP.length+1:=Tb.Ik;clear o5 dp F4 nv s4 ef;generalize bP fr q (hV I q)=f0 at S0 F5 hJ;generalize cf es q u=es0 at F5 dN;generalize Tb.ins q PP=QQ at S0 dN hJ lQ;refine⟨_,rfl,a,ez es0,rfl,F5.at_,(by have:=dN.len;simp;(first|lia|omega)),fun PL ms pm so d_=>?_⟩;rw[dN.ints pm so];have sP:=Same.new (o:=.lst (QQ.map fun p:Nat=>V.int (p:Int))) d_;refine⟨_,rfl,PL,_,rfl,.inl (SqL.of al),_,_,rfl,rfl,_,rfl,_,rfl,_,_,rfl,⟨by rw[Aa];(first|lia|omega),by rw[Aa];(first|lia|omega),ω,ω⟩,?_⟩;have ji:(((QQ.map fun p:Nat=>V.int (p:Int)).length:Nat):Int)=(QQ.length:Int):=by rw[Aa]
    refine Ly (fun i σ H6=>∃(es:List (Nat×Addr))(fr:Nat->List Int)(v7:Option V),σ=[some (.ref a),some (.ref r),some (.ref d),some (.int q),v4,v5,some (.ref PL),v7]/\Fra a H H6/\Fnd H6 a es fr/\Pls es QQ/\Wid W QQ fr/\H6 PL=some (.lst (QQ.map fun p:Nat=>V.int (p:Int)))/\vF fr=Tb.bH (vF f0) (QQ.drop (QQ.length-i)))
     ⟨es0,f0,none,rfl,fra5.trans (.of sP),F5.same sP,dN,hJ,al,by rw[Nat.sub_zero,List.drop_length];rfl⟩ ?_ ?_
    ·rintro i σ H6 hi ⟨ky,f6,v7,rfl,ii,F6,cw,bS,dk,hv⟩
     have hiQ:i<QQ.length:=ω
     obtain⟨O,j_⟩:∃O,O=QQ.length-1-i:=⟨_,rfl⟩;have jZ:O<QQ.length:=ω
     rw[show(((QQ.map fun p:Nat=>V.int (p:Int)).length:Nat):Int)-1-((i:Nat):Int)=((O:Nat):Int) by rw[ji];(first|lia|omega)];have gk:(QQ.map fun p:Nat=>V.int (p:Int))[O]?=some (V.int ((QQ[O]:Nat):Int)):=by rw[Aj,Ac jZ];rfl
     have eQ:QQ=QQ.take O++QQ[O]::QQ.drop (O+1):=by rw[<-List.drop_eq_getElem_cons jZ,List.take_append_drop]
     have ed:QQ.drop (QQ.length-i)=QQ.drop (O+1):=by rw[show QQ.length-i=O+1 from ω]
     have ed2:QQ.drop (QQ.length-(i+1))=QQ[O]::QQ.drop (O+1):=by rw[show QQ.length-(i+1)=O from ω];exact List.drop_eq_getElem_cons jZ
     rw[ed] at hv;rw[ed2];have iB:QQ[O]∈QQ:=AB jZ;have sub:∀p∈QQ.drop (O+1),p∈QQ:=fun p hp=>List.mem_of_mem_drop hp;generalize i7:QQ.drop (O+1)=ps at eQ hv ed ed2 sub ⊢;generalize QQ[O]=p at gk eQ ed2 iB ⊢;have Dz:p∉ps:=fun h=>by
      have s:=S0.srt;rw[eQ,List.pairwise_append] at s;exact Nat.lt_irrefl p ((List.pairwise_cons.mp s.2.1).1 p h)
     obtain⟨e1,bd,rp⟩:=S0.tail L.hB L.bd (pre:=QQ.take O++[p]) (ps:=ps) (by rw[List.append_assoc];exact eQ);have cc:Tb.cC N X B<=Tb.cE N M X B:=Ag (by unfold Tb.cK;(first|lia|omega)) (Ag (Tb.IN L.hB) Tb.pT);have rM:vc (f6 p)=vF f0 p:=by
      have:vF f6 p=vF f0 p:=by rw[hv,Tb.KS Dz]
      exact this
     have ok6:kn f6 W (f6 p) ps:=by
      refine IP (CE:=Tb.cE N M X B) L.hR fF (fun U J=>?_) (fun U J=>?_) (fun U J=>?_) (bS.sub sub) (bS.row p iB).2 (fun j=>?_) L.lim
      ·rw[hv];exact(rp U J).mono cc
      ·rw[hv];exact e1.pos U J
      ·rw[hv];exact pv (bd U J U (sub U J))
      ·rw[hv,rM];exact S0.met L.hB L.bd eQ j
     obtain⟨c,hc,gc,aK⟩:=F6.get (cw.pm.mem_iff.mp iB);refine⟨_,rfl,_,rfl,_,rfl,PL,_,_,_,rfl,rfl,SqL.of dk,zh gk,a,_,rfl,gc,_,rfl,_,rfl,_,rfl,_,_,rfl,rfl,_,rfl,PL,_,rfl,SqL.of dk,fun SL yx=>?_⟩;rw[show((O:Nat):Int)+1=((O+1:Nat):Int) from ω,jw,<-List.map_drop,i7];have sS:=Same.new (o:=.lst (ps.map fun p:Nat=>V.int (p:Int))) yx;refine⟨c,a,SL,f6 p,ky,f6,ps,W,rfl,sS _ _ aK,F6.same sS,al,fun U J=>cw.pm.mem_iff.mp (sub U J),ok6,fun D H8 s8 oN=>?_⟩;have z6:=cw.len;obtain⟨H9,dp,F9,o9⟩:=((F6.same sS).same s8).put (H2:=H8) (p:=p) oN ω;have xG:PL≠a:=IQ F6 dk;refine⟨_,rfl,_,rfl,_,rfl,PL,_,_,_,rfl,rfl,SqL.of ((sS.trans s8) _ _ dk),zh gk,a,H9,rfl,dp,cf ky p D,bP f6 p (aU f6 (f6 p) ps),_,rfl,?_,F9,⟨?_,cw.so⟩,?_,?_,?_⟩
     ·exact ii.trans ((Fra.of (sS.trans s8)).trans fun b o hb e=>by rw[o9 b hb];exact e)
     ·rw[FQ,if_pos (cw.pm.mem_iff.mp iB)];exact cw.pm
     ·exact bS.put (pc (bS.row p iB).2 fun U J=>(bS.row U (sub U J)).2)
     ·rw[o9 PL xG];exact(sS.trans s8) _ _ dk
     ·rw[Io,pu (bS.row p iB).2 (fun U J=>(bS.row U (sub U J)).2),hv,rM];rfl
    ·rintro σ H6 ⟨ky,f6,v7,rfl,ii,F6,cw,bS,dk,hv⟩
     rw[show QQ.length-((((QQ.map fun p:Nat=>V.int (p:Int)).length:Nat):Int)-1 - -1).toNat=0 by rw[ji];(first|lia|omega),List.drop_zero] at hv;refine k H6 ky f6 QQ ii F6 cw bS ?_;rw[hv];exact S0.done L.hB L.bd
end
abbrev jy:Stmt:=top 41
section
variable{P:Program}{w:World}{K:Ab}{mg:Str->Option Value}{base:Heap}
structure LD(N M X B Y W:Nat)(tb:Ξ):Prop where
 most:W<=1000
 few:tb.length<=N
 len:∀r∈tb,r.length=W
 lim:∀i,i<tb.length->LA N M X B Y ((tb.take (i+1)).map vc)
 row:∀i r,tb[i]?=some r->∀Q f,Tb.FS N M X B ((tb.take i).map vc) Q f->∀p∈Q,(vc r p).natAbs<=M
def LF:Sp:=fun vs H Q _=>∃(L:Addr)(rs:List Addr)(tb:Ξ)(N M X B Y W:Nat),vs=[.ref L]/\H L=some (.lst (rs.map V.ref))/\Rws H rs tb/\LD N M X B Y W tb/\
 ∀a H' es fr P,Same H H'->H a=none->Fnd H' a es fr->Pls es P->Wid W P fr->Tb.FS N M X B (tb.map vc) P (vF fr)->Q (.ref a) H'
def IR:zl ["rows","found","row"] ["rows"] (zd jy):=⟨rfl,rfl,rfl,δ,rfl,δ,δ⟩
def Fra.same{a:Addr}{H H1 H2:Hp}{o:HO}(h:Fra a H1 H2)(e:H1=upd H a o)(c:H a=none):Same H H2:=fun b v hb=>by
 have n:b≠a:=fun z=>by rw[z,c] at hb;cases hb
 exact h b v n (by rw[e,aq n];exact hb)
def QF{f l:Addr}{fd q:FuncData}(F:Fun K "echelon_of" "echelon_of" jy f fd)(Ft:Fun K "take_in" "take_in" FX l q)(bt:Binds K q ["found","row"] [])(mt:mg "take_in"=some (.ref l))(Gt:FnOk P w K mg base aJ 3 l q ["found","row"] LC):FnOk P w K mg base aJ 4 f fd ["rows"] LF:=by
 refine F.ok IR (fun vs H Q E h=>?_) (fun ah A outer s H vs Q E hr h=>?_)
 ·obtain⟨L,rs,tb,N,M,X,B,Y,W,rfl,_⟩:=h;rfl
 ·obtain⟨L,rs,tb,N,M,X,B,Y,W,rfl,u,v,ok,k⟩:=h
  refine⟨_,za (zr (i:=1) IR.nd rfl (Or.inl rfl) Ot)
   (za (i6 PassesOwn.never rfl (zO (pv 0)) (zk (i:=2) IR.nd rfl (Or.inl rfl))
    (zf (zD (ze Gt hr rfl mt Ft.kp bt .nil ap (af (pv 1) (af (pv 2) ak))))))
   (zf (zo (pv 1)))),?_⟩
  refine fun a d=>⟨_,rfl,L,rfl,⟨_,SqL.of (Same.new d _ _ u)⟩,CC (K:=K) (a:=L) (xs:=rs.map V.ref) (fun i σ H2=>∃(j:Option V)(es:List (Nat×Addr))(fr:Nat->List Int)(c:List Nat),σ=[some (.ref L),some (.ref a),j]/\Fra a (upd H a (.dK [])) H2/\Fnd H2 a es fr/\Pls es c/\Wid W c fr/\Tb.FS N M X B ((tb.take i).map vc) c (vF fr))
   ⟨none,[],fun _=>[],[],rfl,fun _ _ _ e=>e,⟨al,List.nodup_nil,fun e z=>nomatch z⟩,⟨.refl _,.nil⟩,⟨ok.most,fun p hp=>nomatch hp⟩,Tb.FS.start⟩ (fun i σ H2 _ ⟨_,_,_,_,_,b,_⟩=>SqL.of ((b.same rfl d) _ _ u)) ?_ ?_⟩
  ·rintro i x σ H2 hx ⟨j,es,fr,c,rfl,b,r,pls,wd,FS⟩
   obtain⟨o,O,rfl⟩:=l4 hx;obtain⟨rn,g,S⟩:=v.get O;have hi:i<tb.length:=(List.getElem?_eq_some_iff.mp g).1;have y:=ok.lim i hi;rw[take_snoc g,Aw] at y;have T:=ok.few;refine⟨_,rfl,_,rfl,a,o,rn,es,fr,c,N,M,X,B,Y,W,_,rfl,(b.same rfl d) _ _ S,r,pls,wd,ok.len rn (An g),FS,by rw[Aa,List.length_take];(first|lia|omega),ok.row i rn g c (vF fr) FS,y,fun H3 Z C P3 D F3 G I J=>?_⟩;refine⟨_,Z,C,P3,rfl,b.trans D,F3,G,I,?_⟩;rw[take_snoc g,Aw];exact J
  ·rintro σ H2 ⟨j,es,fr,c,rfl,b,r,pls,wd,FS⟩
   have U:=v.len;rw[Aa,U,Ax (Af _)] at FS;exact⟨_,rfl,k a H2 es fr c (b.same rfl d) d r pls wd FS⟩
end
end K27
end
section
namespace L2
open PySem PySem.Spec PyProof.Rows
def QG{K:Ab}{c d:Addr}{xs ys:List V}{g:TG}{tb:TS}{D:Ends}{σ:St}{H:Hp}(a:Nat->St->Hp->Prop)(v:a 0 σ H)(w:∀i σ H,a i σ H->SqL K H c xs/\SqL K H d ys)(z:∀i x y p σ H,xs[i]?=some x->ys[i]?=some y->H p=none->a i σ H->g (.ref p) σ (upd H p (.tup [x,y])) fun f H2=>tb {D with nx:=a (i+1),ct:=a (i+1),bk:=D.nx} f H2)(hd:∀σ H,a (min xs.length ys.length) σ H->D.nx σ H):∃W:Nat->Nat->St->Hp->Prop,(∃m,W 0 m σ H)/\∀i m σ H,W i m σ H->
   ((du K c d).stop i H/\D.nx σ H)\/((du K c d).go i H/\∃N:St->Hp->Prop,(∀h H',N h H'->∃o,o<m/\W (i+1) o h H')/\∀x H',(du K c d).yld i H x H'->g x σ H' fun f H2=>tb {D with nx:=N,ct:=N,bk:=D.nx} f H2):=by
 refine⟨fun i m σ H=>m=min xs.length ys.length-i/\i<=min xs.length ys.length/\a i σ H,⟨_,rfl,Ar _,v⟩,?_⟩;rintro i m σ H ⟨rfl,hi,p⟩;obtain⟨j,l⟩:=w i σ H p
 by_cases b:i<min xs.length ys.length
 ·refine .inr ⟨⟨xs,ys,j,l,b⟩,a (i+1),fun h H' q=>⟨_,ω,rfl,b,q⟩,fun x H' y=>?_⟩
  obtain⟨pp,x,r,rfl,hp,rfl,s,u⟩:=y;exact z i x r pp σ H (s xs j) (u ys l) hp p
 ·have e:i=min xs.length ys.length:=ω
  subst e;exact .inl ⟨⟨xs,ys,j,l,rfl⟩,hd σ H p⟩
end L2
namespace K27
open PySem L2
abbrev jA:Stmt:=top 48
def cp(l:List Int)(x:Int×List Int):List Int:=c7 l (-x.1) x.2
def fZ(w:Nat)(ns:List Int)(tb:Ξ):List Int:=(ns.zip tb).foldl cp (Am w 0)
def LG{l:List Int}{x:Int×List Int}{w:Nat}(h:l.length=w)(h2:x.2.length=w):(cp l x).length=w:=by unfold cp c7;rw[AE];(first|lia|omega)
def QH{l row:List Int}(h:l.length=row.length):cp l (0,row)=l:=Ii h
def IS{w:Nat}:∀{zs:List (Int×List Int)}{l:List Int},l.length=w->(∀z∈zs,z.2.length=w)->(zs.foldl cp l).length=w
 |[],_,h,_=>h
 |z::zs,l,h,h2=>IS (zs:=zs) (LG h (h2 z (AF ..))) fun y hy=>h2 y (AD _ hy)
section
variable{P:Program}{w:World}{K:Ab}{mg:Str->Option Value}{base:Heap}
def IT:Sp:=fun vs H Q _=>∃(a L:Addr)(ns:List Int)(rs:List Addr)(tb:Ξ),vs=[.ref a,.ref L]/\H a=some (.lst (ns.map V.int))/\H L=some (.lst (rs.map V.ref))/\Rws H rs tb/\wid tb<=1000/\(∀r∈tb,r.length=wid tb)/\
 (∀z∈ns.zip tb,∀x∈z.2,ey (-z.1) x)/\kg H Q (fZ (wid tb) ns tb)
def vr:zl ["numbers","rows","told","often","row"] ["numbers","rows"] (zd jA):=⟨rfl,rfl,rfl,δ,rfl,δ,δ⟩
def QI{f v C:Addr}{fd G I:FuncData}(F:Fun K "mix_of" "mix_of" jA f fd)(bz:mg "zip"=none)(Fw:Fun K "width_of" "width_of" gS v G)(bw:Binds K G ["table"] [])(mw:mg "width_of"=some (.ref v))(Gw:FnOk P w K mg base aJ 1 v G ["table"] (iE K))(Fl:Fun K "less" "less" kb C I)(bl:Binds K I ["row","often","other"] [])(ml:mg "less"=some (.ref C))(Gl:FnOk P w K mg base aJ 1 C I ["row","often","other"] t_):FnOk P w K mg base aJ 2 f fd ["numbers","rows"] IT:=by
 refine F.ok vr (fun vs H Q E h=>?_) (fun ah A outer s H vs Q E hr h=>?_)
 ·obtain⟨a,L,ns,rs,tb,rfl,_⟩:=h;rfl
 ·obtain⟨a,L,ns,rs,tb,rfl,M,c,g,hw,N,hm,k⟩:=h
  refine⟨_,za (zr (i:=2) vr.nd rfl (Or.inl rfl) (zF Hw (zS (af zb ak)) (ze Gw hr rfl mw Fw.kp bw .nil ap (af (pv 1) ak))))
   (za (i6 PassesOwn.never rfl (l7 rfl bz kf (af (pv 0) (af (pv 1) ak))) (gG rfl (zJ (zk (i:=3) vr.nd rfl (Or.inl rfl)) (zJ (zk (i:=4) vr.nd rfl (Or.inl rfl)) gF)))
    (zf (zU (zx dB (pv 3) zb (ar _))
     (zf (zr (i:=2) vr.nd rfl (Or.inl rfl) (ze Gl hr rfl ml Fl.kp bl .nil ap (af (pv 2) (af (jX j3 (pv 3)) (af (pv 4) ak)))))) zA)))
   (zf (zo (pv 2)))),?_⟩
  refine⟨ξ,fun Z U=>?_⟩;have b:=Same.new (o:=.lst [.int 0]) U;refine⟨_,rfl,L,rs,tb,rfl,SqL.of (b _ _ c),g.same b,Z,_,_,rfl,rfl,al,ω,ω,(by rw[sizeLine_eq];simp;(first|lia|omega)),fun T J=>?_⟩;have sT:=Same.new (o:=.lst (Am ((wid tb:Nat):Int).toNat [V.int 0]).flatten) J;have r:=b.trans sT;have fg:H T=none:=b.free J;have eT:(Am ((wid tb:Nat):Int).toNat [V.int 0]).flatten=(Am (wid tb) (0:Int)).map V.int:=by
   rw[Int.toNat_natCast,List.map_replicate];generalize wid tb=n
   induction n with
   |zero=>rfl
   |succ n ih=>rw[List.replicate_succ,List.flatten_cons,ih,List.replicate_succ];rfl
  have bj:=g.len;refine⟨_,rfl,_,rfl,a,L,rfl,⟨_,SqL.of (r _ _ M)⟩,⟨_,SqL.of (r _ _ c)⟩,QG (K:=K) (xs:=ns.map V.int) (ys:=rs.map V.ref) (fun i σ H2=>∃(d:Addr)(j l:Option V),σ=[some (.ref a),some (.ref L),some (.ref d),j,l]/\Same H H2/\H d=none/\H2 d=some (.lst ((((ns.zip tb).take i).foldl cp (Am (wid tb) 0)).map V.int)))
   ⟨T,none,none,rfl,r,fg,by rw[al,eT];rfl⟩ (fun i σ H2 ⟨_,_,_,_,sm,_⟩=>⟨SqL.of (sm _ _ M),SqL.of (sm _ _ c)⟩) ?_ ?_⟩
  ·rintro i x y p σ H2 hx hy hp ⟨d,j,l,rfl,sm,q,hd⟩
   obtain⟨n,gn,rfl⟩:=gm hx;obtain⟨o,eo,rfl⟩:=l4 hy;obtain⟨row,O,ho⟩:=g.get eo;have u:(ns.zip tb)[i]?=some (n,row):=by rw[List.getElem?_zip_eq_some];exact⟨gn,O⟩
   have S:∀z∈ns.zip tb,z.2.length=wid tb:=fun z hz=>N z.2 (List.of_mem_zip hz).2;have ll:(((ns.zip tb).take i).foldl cp (Am (wid tb) 0)).length=wid tb:=IS (by simp) fun z hz=>S z (List.mem_of_mem_take hz);have sp:=Same.new (o:=.tup [V.int n,V.ref o]) hp;have e2:((ns.zip tb).take (i+1)).foldl cp (Am (wid tb) 0)=cp (((ns.zip tb).take i).foldl cp (Am (wid tb) 0)) (n,row):=by rw[take_snoc u,List.foldl_append];rfl
   refine⟨p,_,rfl,SqT.of al,rfl,_,_,rfl,_,_,rfl,rfl,_,rfl,rfl,_,rfl,?_⟩
   by_cases z:n=0
   ·rw[show(!decide (V.int n=V.int 0))=false by rw[z];rfl]
    refine av ⟨d,_,_,rfl,sm.trans sp,q,?_⟩;rw[e2,z,QH (by rw[ll];exact(S _ (An u)).symm)];have h:=sp _ _ hd;rw[z] at h;exact h
   ·rw[show(!decide (V.int n=V.int 0))=true by rw[decide_eq_false (fun e=>z (by injection e))];rfl]
    refine aT ⟨_,rfl,_,rfl,_,rfl,_,rfl,d,o,_,row,-n,rfl,sp _ _ hd,sp _ _ (sm _ _ ho),by rw[N row (An O)];exact hw,fun x hx=>hm _ (An u) x hx,fun D H4 W X Y=>?_⟩;refine⟨D,_,_,rfl,(sm.trans sp).trans W,(sm.trans sp).free X,?_⟩;rw[e2];exact Y
  ·rintro σ H2 ⟨d,j,l,rfl,sm,q,hd⟩
   refine⟨_,rfl,k d H2 sm q ?_⟩;rw[hd,Ax (by rw[List.length_zip,Aa,Aa,bj];exact Af _)]
   rfl
end
end K27
end
section
namespace K27
open PySem L2
abbrev vu:Stmt:=top 30
def b0(ns:List Int)(k w:Nat):List Int:=if k<ns.length then(Am w (0:Int)).set k (ns.getD k 0) else Am w 0
def QJ{w:Nat}:(Am ((w:Nat):Int).toNat [V.int 0]).flatten=(Am w (0:Int)).map V.int:=by
 rw[Int.toNat_natCast,List.map_replicate]
 induction w with
 |zero=>rfl
 |succ n ih=>rw[List.replicate_succ,List.flatten_cons,ih,List.replicate_succ];rfl
section
variable{P:Program}{w:World}{K:Ab}{mg:Str->Option Value}{base:Heap}
def vv:Sp:=fun vs H Q _=>∃(a:Addr)(ns:List Int)(b c:Nat),vs=[.ref a,.int b,.int c]/\H a=some (.lst (ns.map V.int))/\c<=1000/\(b<ns.length->b<c)/\kg H Q (b0 ns b c)
def LJ:zl ["numbers","k","width","row"] ["numbers","k","width"] (zd vu):=⟨rfl,rfl,rfl,δ,rfl,δ,δ⟩
def QK{f:Addr}{fd:FuncData}(F:Fun K "slope_row" "slope_row" vu f fd)(x:mg "len"=none):FnOk P w K mg base aJ 1 f fd ["numbers","k","width"] vv:=by
 refine F.ok LJ (fun vs H Q E h=>?_) (fun y A outer s H vs Q E hr h=>?_)
 ·obtain⟨a,ns,b,j,rfl,_⟩:=h;rfl
 ·obtain⟨a,ns,b,j,rfl,l,hw,hk,k⟩:=h
  refine⟨_,za (zr (i:=3) LJ.nd rfl (Or.inl rfl) (zF Hw (zS (af zb ak)) (pv 2)))
   (za (zU (zx CU (pv 1) (zj zi rfl x Lz (af (pv 0) ak)) (ar _))
    (zf (nV (zy zB (pv 0) (pv 1) (fun _ _=>rfl)) (nU (pv 3) (pv 1) set_list))) zA)
   (zf (zo (pv 3)))),?_⟩
  refine⟨ξ,fun Z q=>?_⟩;have p:=Same.new (o:=.lst [.int 0]) q;refine⟨_,rfl,Z,_,_,rfl,rfl,al,ω,ω,(by rw[sizeLine_eq];simp;(first|lia|omega)),fun T g=>?_⟩;rw[QJ];have r:=Same.new (o:=.lst ((Am j (0:Int)).map V.int)) g;have d:=p.trans r;have e:H T=none:=p.free g;refine⟨_,rfl,_,rfl,a,_,rfl,.inl (SqL.of (d _ _ l)),_,_,rfl,rfl,_,rfl,?_⟩;rw[Aa]
  by_cases c:b<ns.length
  ·rw[decide_eq_true (show((b:Nat):Int)<((ns.length:Nat):Int) from ω)]
   have u:=hk c;have v:(ns.map V.int)[b]?=some (V.int (ns.getD b 0)):=eH c;refine aT ⟨_,rfl,_,rfl,a,_,_,_,rfl,rfl,SqL.of (d _ _ l),zh v,_,rfl,_,rfl,T,_,_,b,rfl,rfl,al,?_,?_⟩
   ·unfold iw
    rw[Aa,AM];simp[u]
   ·refine⟨_,rfl,k T _ (d.then e) e ?_⟩
    unfold b0;rw[if_pos c,al,List.map_set]
  ·rw[decide_eq_false (show ¬((b:Nat):Int)<((ns.length:Nat):Int) from ω)]
   refine av ⟨_,rfl,k T _ d e ?_⟩;unfold b0;rw[if_neg c,al]
end
end K27
end
section
namespace K27
open PySem L2
abbrev pZ:Stmt:=top 29
abbrev vB:Stmt:=top 37
def slpT(ns:List Int)(n w:Nat):Ξ:=(Ah n).map fun k=>b0 ns k w
section
variable{P:Program}{w:World}{K:Ab}{mg:Str->Option Value}{base:Heap}
def IU:Sp:=fun vs H Q _=>∃(a:Addr)(ns:List Int)(n b:Nat),vs=[.ref a,.int n,.int b]/\H a=some (.lst (ns.map V.int))/\n<=1000/\b<=1000/\(∀k,k<n->k<ns.length->k<b)/\tW H Q (slpT ns n b)
def QL:zl ["numbers","size","width"] ["numbers","size","width"] (zd pZ):=⟨rfl,rfl,rfl,δ,rfl,δ,δ⟩
def QM{f fs:Addr}{fd e:FuncData}(F:Fun K "on_slope" "on_slope" pZ f fd)(I:mg "range"=none)(Fs:Fun K "slope_row" "slope_row" vu fs e)(bs:Binds K e ["numbers","k","width"] [])(ms:mg "slope_row"=some (.ref fs))(M:FnOk P w K mg base aJ 1 fs e ["numbers","k","width"] vv):FnOk P w K mg base aJ 2 f fd ["numbers","size","width"] IU:=by
 refine F.ok QL (fun vs H Q E h=>?_) (fun N A outer s H vs Q E hr h=>?_)
 ·obtain⟨a,ns,n,c,rfl,_⟩:=h;rfl
 ·obtain⟨a,ns,n,c,rfl,G,p,hw,hk,k⟩:=h
  refine⟨_,zf (zo (zp ["numbers","size","width"] ["k","numbers","width"] [none,some 0,some 2] (zK rfl I (af (pv 1) ak)) (fun l C s₀ H₀ ex=>zk (i:=0) (bx ["k","numbers","width"]) rfl (Or.inl rfl)) (fun l C s₀ H₀ ex=>zz)
   (fun l C s₀ H₀ ex=>ze M hr rfl ms Fs.kp bs .nil ap (af (pv 1) (af (pv 0) (af (pv 2) ak)))) (te:=dD vv [] E0 (zY (aC 1) (zY (aC 0) (zY (aC 2) bN)))) (hfr:=bM (zd pZ) δ))),?_⟩
  refine⟨_,rfl,_,rfl,ω,ω,fun D o=>?_⟩;refine HX (n:=n) (g:=fun k=>b0 ns k c) (fun j H' R q sm r=>⟨_,rfl,_,rfl,_,rfl,a,ns,j,c,rfl,sm _ _ G,hw,hk j q,fun d J u hd v=>r d J u hd v⟩) ω o fun L ds x y b z p=>k D L ds x o y b z p
def unT(n:Nat):Ξ:=slpT (Am n 1) n n
def IV:Sp:=fun vs H Q _=>∃n:Nat,vs=[.int n]/\n<=1000/\tW H Q (unT n)
def QN:zl ["size"] ["size"] (zd vB):=⟨rfl,rfl,rfl,δ,rfl,δ,δ⟩
def QO{w:Nat}:(Am ((w:Nat):Int).toNat [V.int 1]).flatten=(Am w (1:Int)).map V.int:=by
 rw[Int.toNat_natCast,List.map_replicate]
 induction w with
 |zero=>rfl
 |succ n ih=>rw[List.replicate_succ,List.flatten_cons,ih,List.replicate_succ];rfl
def QP{f fs:Addr}{fd c:FuncData}(F:Fun K "unit" "unit" vB f fd)(Fs:Fun K "on_slope" "on_slope" pZ fs c)(bs:Binds K c ["numbers","size","width"] [])(ms:mg "on_slope"=some (.ref fs))(u:FnOk P w K mg base aJ 2 fs c ["numbers","size","width"] IU):FnOk P w K mg base aJ 3 f fd ["size"] IV:=by
 refine F.ok QN (fun vs H Q E h=>?_) (fun v A outer s H vs Q E hr h=>?_)
 ·obtain⟨n,rfl,_⟩:=h;rfl
 ·obtain⟨n,rfl,e,k⟩:=h
  refine⟨_,zf (zo (ze u hr rfl ms Fs.kp bs .nil ap (af (zF Hw (zS (af zb ak)) (pv 0)) (af (pv 0) (af (pv 0) ak))))),?_⟩;refine⟨ξ,fun Z g=>?_⟩;have p:=Same.new (o:=.lst [.int 1]) g;refine⟨_,rfl,Z,_,_,rfl,rfl,al,ω,ω,(by rw[sizeLine_eq];simp;(first|lia|omega)),fun T i=>?_⟩;rw[QO];have q:=Same.new (o:=.lst ((Am n (1:Int)).map V.int)) i;have b:=p.trans q;refine⟨_,rfl,_,rfl,T,_,n,n,rfl,al,e,e,fun k hk _=>hk,fun D H' ds sm j r hr l a=>?_⟩;exact k D H' ds (b.trans sm) (b.free j) r hr l fun d hd=>⟨b.free (a d hd).1,(a d hd).2⟩
end
end K27
end
section
namespace K27
open PySem L2
def dot(r c:List Int):Int:=(AA (·*·) r c).sum
def MulOk(r c:List Int):Prop:=∀x∈r,∀y∈c,ey x y
def QR:A9 "sum"=some (.builtin "sum"):=δ
section
variable{P:Program}{w:World}{K:Ab}{mg:Str->Option Value}{base:Heap}
def vL:Sp:=fun vs H Q _=>∃r c rn a,vs=[.ref r,.ref c]/\H r=some (.lst (rn.map V.int))/\H c=some (.lst (a.map V.int))/\a.length<=1000/\MulOk rn a/\∀H',Same H H'->Q (.int (dot rn a)) H'
def QT:zl ["row","column"] ["row","column"] (zd tH):=⟨rfl,rfl,rfl,δ,rfl,δ,δ⟩
def QW{f:Addr}{fd:FuncData}(F:Fun K "sum_by" "sum_by" tH f fd)(v:mg "zip"=none)(bs:mg "sum"=none):FnOk P w K mg base aJ 1 f fd ["row","column"] vL:=by
 refine F.ok QT (fun vs H Q E h=>?_) (fun y A outer s H vs Q E hr h=>?_)
 ·obtain⟨r,c,rn,e,rfl,_⟩:=h;rfl
 ·obtain⟨r,c,rn,e,rfl,h1,h2,n2,sm,k⟩:=h
  refine⟨_,zf (zo (zj (O9 rfl) rfl bs QR (af (zp ["row","column"] ["number","other"] [none,none] (l7 rfl v kf (af (pv 0) (af (pv 1) ak)))
   (fun d C s₀ H₀ ex=>gG rfl (zJ (zk (i:=0) (bx ["number","other"]) rfl (Or.inl rfl)) (zJ (zk (i:=1) (bx ["number","other"]) rfl (Or.inl rfl)) gF))) (fun d C s₀ H₀ ex=>zz)
   (fun d C s₀ H₀ ex=>zF t4 (pv 0) (pv 1)) (te:=cq (rI ey fun i j=>.int (i*j)) (aC 0) (aC 1)) (hfr:=bJ δ) (g:=cb K 2 (cr (zR 0) (cr (zR 1) b_)))) ak))),?_⟩
  refine⟨_,rfl,_,rfl,r,c,rfl,⟨_,SqL.of h1⟩,⟨_,SqL.of h2⟩,fun D l=>?_⟩;refine zw (E' (f:=fun a b=>a*b) (fun a b H' R o hb p=>⟨_,rfl,_,rfl,_,_,rfl,rfl,sm a o b hb,p⟩) h1 h2 n2 l fun x q u=>⟨D,AA (·*·) rn e,rfl,SqL.of u,k x q⟩)
def vP(K:Ab):Sp:=fun vs H Q _=>∃r C rn b a,vs=[.ref r,.ref C]/\H r=some (.lst (rn.map V.int))/\H C=some (.lst (b.map V.ref))/\Rws H b a/\a.length<=1000/\(∀c∈a,c.length<=1000/\MulOk rn c)/\kg H Q (a.map (dot rn))
def QX:zl ["row","columns"] ["row","columns"] (zd l6):=⟨rfl,rfl,rfl,δ,rfl,δ,δ⟩
def QY{f fs:Addr}{fd a:FuncData}(F:Fun K "row_by" "row_by" l6 f fd)(Fs:Fun K "sum_by" "sum_by" tH fs a)(bs:Binds K a ["row","column"] [])(ms:mg "sum_by"=some (.ref fs))(L:FnOk P w K mg base aJ 1 fs a ["row","column"] vL):FnOk P w K mg base aJ 2 f fd ["row","columns"] (vP K):=by
 refine F.ok QX (fun vs H Q E h=>?_) (fun M A outer s H vs Q E hr h=>?_)
 ·obtain⟨r,C,rn,x,y,rfl,_⟩:=h;rfl
 ·obtain⟨r,C,rn,x,y,rfl,z,e,G,n2,j,k⟩:=h
  refine⟨_,zf (zo (zp ["row","columns"] ["column","row"] [none,some 0] (zO (pv 1)) (fun b C s₀ H₀ ex=>zk (i:=0) (bx ["column","row"]) rfl (Or.inl rfl)) (fun b C s₀ H₀ ex=>zz)
   (fun b C s₀ H₀ ex=>ze L hr rfl ms Fs.kp bs .nil ap (af (pv 1) (af (pv 0) ak))) (te:=dD vL [] E0 (zY (aC 1) (zY (aC 0) bN))) (hfr:=bM (zd l6) δ))),?_⟩
  refine⟨_,rfl,C,rfl,⟨_,SqL.of e⟩,fun D c=>?_⟩;refine zw (tt (mkV:=V.int) (g:=dot rn) (fun o os H' R sm l d p=>⟨_,rfl,_,rfl,r,o,rn,os,rfl,sm _ _ z,l,(j os d).1,(j os d).2,fun I q=>p I q⟩) (SqL.of e) G ω c fun J u v=>k D J u c v)
def IW(K:Ab):Sp:=fun vs H Q _=>∃L C rs tb b a,vs=[.ref L,.ref C]/\H L=some (.lst (rs.map V.ref))/\H C=some (.lst (b.map V.ref))/\Rws H rs tb/\Rws H b a/\tb.length<=1000/\a.length<=1000/\(∀c∈a,c.length<=1000/\∀r∈tb,MulOk r c)/\tW H Q (tb.map fun r=>a.map (dot r))
def QZ:zl ["table","columns"] ["table","columns"] (zd oT):=⟨rfl,rfl,rfl,δ,rfl,δ,δ⟩
def Q0{f fr:Addr}{fd j:FuncData}(F:Fun K "rows_by" "rows_by" oT f fd)(Fr:Fun K "row_by" "row_by" l6 fr j)(U:Binds K j ["row","columns"] [])(W:mg "row_by"=some (.ref fr))(Y:FnOk P w K mg base aJ 2 fr j ["row","columns"] (vP K)):FnOk P w K mg base aJ 3 f fd ["table","columns"] (IW K):=by
 refine F.ok QZ (fun vs H Q E h=>?_) (fun Z A outer s H vs Q E hr h=>?_)
 ·obtain⟨L,C,rs,tb,u,e,rfl,_⟩:=h;rfl
 ·obtain⟨L,X,rs,tb,u,e,rfl,v,O,S,T,z1,n2,x,k⟩:=h
  refine⟨_,zf (zo (zp ["table","columns"] ["row","columns"] [none,some 1] (zO (pv 0)) (fun p C s₀ H₀ ex=>zk (i:=0) (bx ["row","columns"]) rfl (Or.inl rfl)) (fun p C s₀ H₀ ex=>zz)
    (fun p C s₀ H₀ ex=>ze Y hr rfl W Fr.kp U .nil ap (af (pv 0) (af (pv 1) ak))) (te:=dD (vP K) [] E0 (zY (aC 0) (zY (aC 1) bN))) (hfr:=bM (zd oT) δ))),?_⟩
  refine⟨_,rfl,L,rfl,⟨_,SqL.of v⟩,fun D q=>?_⟩;refine zw (pa (g:=fun r=>e.map (dot r)) (fun o os H' R sm y z G=>⟨_,rfl,_,rfl,o,X,os,u,e,rfl,y,sm _ _ O,T.same sm,n2,fun c hc=>⟨(x c hc).1,(x c hc).2 os z⟩,fun d l a hd I=>G d l a hd I⟩)
    (SqL.of v) S ω q fun l ds a J b M N=>?_)
  exact k D l ds a q J b M N
end
end K27
end
section
namespace K27
open PySem L2
section
variable{P:Program}{w:World}{K:Ab}{mg:Str->Option Value}{base:Heap}
def Q1{H2:Hp}{v L2 D:Addr}{rs ss:List Addr}{tb ub:Ξ}{Q:VK}{g:List Int->List Int->List Int}{te:TE}{c:List (Option V)}(J:∀(o u:Addr)(os us:List Int)(H:Hp)(R:VK),Same H2 H->H o=some (.lst (os.map V.int))->H u=some (.lst (us.map V.int))->os∈tb->us∈ub->(∀d H',Same H H'->H d=none->H' d=some (.lst ((g os us).map V.int))->R (.ref d) H')->te (some (.ref o)::some (.ref u)::c) H R)(h1:H2 v=some (.lst (rs.map V.ref)))(h2:H2 L2=some (.lst (ss.map V.ref)))(r:Rws H2 rs tb)(hu:Rws H2 ss ub)(hz:ub.length<=1000)(s:H2 D=none)(k:∀a ds,Same H2 a->a D=some (.lst (ds.map V.ref))->Rws a ds (AA g tb ub)->ds.Nodup->(∀d∈ds,H2 d=none/\d≠D)->Q (.ref D) a):cV (du K v L2) (cb K 2 (cr (zR 0) (cr (zR 1) b_))) bR te (none::none::c) H2 D Q:=by
 have G:=r.len;have I:=hu.len;refine H_ (K:=K) (xs:=rs.map V.ref) (ys:=ss.map V.ref) (fun i σ zs a=>∃(h j:Option V)(ds:List Addr),σ=h::j::c/\Same H2 a/\a D=some (.lst zs)/\zs=ds.map V.ref/\Rws a ds ((AA g tb ub).take i)/\ds.Nodup/\∀d∈ds,H2 d=none/\d≠D)
  ⟨none,none,[],rfl,Same.new s,al,rfl,.nil,.nil,fun d hd=>nomatch hd⟩ (fun i σ zs a ⟨_,_,_,_,sm,_⟩=>⟨SqL.of (sm _ _ h1),SqL.of (sm _ _ h2)⟩) ?_ ?_
 ·rintro i σ zs a x L M e1 e2 hi y ⟨h,j,ds,rfl,b,e,rfl,hr,l,p⟩ q
  obtain⟨o,g1,rfl⟩:=l4 e1;obtain⟨u,g2,rfl⟩:=l4 e2;obtain⟨os,f1,z⟩:=r.get g1;obtain⟨us,f2,A⟩:=hu.get g2;have sp:=Same.new (o:=.tup [V.ref o,V.ref u]) q;refine⟨x,_,rfl,SqT.of al,rfl,_,_,rfl,_,_,rfl,rfl,fX ?_⟩;refine J o u os us _ _ (b.trans sp) (sp _ _ (b _ _ z)) (sp _ _ (b _ _ A)) (An f1) (An f2) fun d N f hd w=>?_;obtain⟨C,E,F⟩:=HW (D:=D) (o:=.lst (ds.map V.ref++[.ref d])) (b.trans sp) (hr.same sp) l p f hd (by rw[sp _ _ e];simp) w;refine bZ (Ag (Nat.min_le_right _ _) (by rw[Aa];exact zm ω)) hi y ((sp.trans f) _ _ e) ⟨_,_,ds++[d],rfl,((b.trans sp).trans f).then s,al,by simp,?_,E,F⟩;have e3:(AA g tb ub)[i]?=some (g os us):=by rw[List.getElem?_zipWith,f1,f2]
  rw[take_snoc e3];exact C
 ·rintro σ zs a ⟨h,j,ds,rfl,b,e,rfl,hr,l,p⟩
  rw[Ax (by simp[G,I])] at hr;exact k a ds b e hr l p
end
end K27
end
section
namespace K27
open PySem L2
abbrev vQ:Stmt:=top 27
def eJ(tb:Ξ)(n:Nat):Bool:=decide (tb.length=n)&&tb.all fun r=>decide (r.length=n)
section
variable{P:Program}{w:World}{K:Ab}{mg:Str->Option Value}{base:Heap}
def LK(K:Ab):Sp:=fun vs H Q _=>∃L rs tb,∃n:Nat,vs=[.ref L,.int n]/\SqL K H L (rs.map V.ref)/\Rws H rs tb/\tb.length<=1000/\∀H',Same H H'->Q (.bl (eJ tb n)) H'
def Q2:zl ["table","size"] ["table","size"] (zd vQ):=⟨rfl,rfl,rfl,δ,rfl,δ,δ⟩
abbrev IX(K:Ab):TE:=cq Hh (k7 (E6 K) (zY (aC 0) bN)) (aC 1)
def Q3{f:Addr}{fd:FuncData}(F:Fun K "is_of_size" "is_of_size" vQ f fd)(bl:mg "len"=none)(x:mg "all"=none):FnOk P w K mg base aJ 1 f fd ["table","size"] (LK K):=by
 refine F.ok Q2 (fun vs H Q E h=>?_) (fun z A outer s H vs Q E hr h=>?_)
 ·obtain⟨L,rs,tb,n,rfl,_⟩:=h;rfl
 ·obtain⟨L,rs,tb,n,rfl,a,d,hz,k⟩:=h
  refine⟨_,zf (zo (G3 (eV c6 (zj zi rfl bl cx (af (pv 0) ak)) (pv 1) (ar _))
   (BQ (zj (lF rfl) rfl x lZ (af (zp ["table","size"] ["row","size"] [none,some 1] (zO (pv 0)) (fun b C s₀ H₀ ex=>zk (i:=0) (bx ["row","size"]) rfl (Or.inl rfl)) (fun b C s₀ H₀ ex=>zz)
    (fun b C s₀ H₀ ex=>eV c6 (zj zi rfl bl cx (af (pv 0) ak)) (pv 1) (ar _)) (te:=IX K) (hfr:=bM (zd vQ) δ)) ak))))),?_⟩
  have v:=d.len;refine⟨_,rfl,L,_,rfl,.inl a,_,rfl,rfl,?_⟩;rw[Aa,v,show decide (V.int ((tb.length:Nat):Int)=V.int (n:Int))=decide (tb.length=n) from by rw[Bool.eq_iff_iff];simp;(first|lia|omega)];refine⟨_,rfl,?_⟩
  by_cases c:tb.length=n
  ·rw[decide_eq_true c]
   refine aT ⟨_,rfl,L,rfl,⟨_,a⟩,fun D j=>?_⟩;refine zw (tt (mkV:=V.bl) (g:=fun r=>decide (r.length=n)) (fun o os H' R sm l _ p=>?_) a d hz j fun y q u=>?_)
   ·refine⟨_,rfl,o,_,rfl,.inl (SqL.of l),_,rfl,rfl,?_⟩
    rw[Aa];have:=p H' (Same.refl H');rw[show decide (V.int (os.length:Int)=V.int (n:Int))=decide (os.length=n) from by rw[Bool.eq_iff_iff];simp;(first|lia|omega)];exact this
   ·refine⟨D,_,rfl,SqL.of u,?_⟩
    have e:eJ tb n=(tb.map fun r=>decide (r.length=n)).all id:=by
     unfold eJ;rw[decide_eq_true c,List.all_map];rfl
    rw[e] at k;exact k y q
  ·rw[decide_eq_false c]
   have e:eJ tb n=false:=by unfold eJ;rw[decide_eq_false c];rfl
   rw[e] at k;exact av (k H (Same.refl H))
end
end K27
end
section
namespace K27
open PySem L2
abbrev vV:Stmt:=top 28
def dv(ns:List Int)(m:Int):Bool:=!decide (m<(ns.length:Int))&&(ns.all fun x=>decide (0<x))&&(AA (fun a b=>decide (b%a=0)) ns (ns.drop 1)).all id
section
variable{P:Program}{w:World}{K:Ab}{mg:Str->Option Value}{base:Heap}
def Q4{H2:Hp}{L D:Addr}{ns:List Int}{Q:VK}{f:Int->Bool}{te:TE}{c:List (Option V)}(h:∀(x:Int)(H:Hp)(R:VK),x∈ns->R (.bl (f x)) H->te (some (.int x)::c) H R)(i:H2 L=some (.lst (ns.map V.int)))(hz:ns.length<=1000)(e:H2 D=none)(k:∀a,Same H2 a->a D=some (.lst ((ns.map f).map V.bl))->Q (.ref D) a):cV (fw K L) (zR 0) bR te (none::c) H2 D Q:=by
 refine lH (xs:=ns.map V.int) (fun j σ ys a=>∃(v:Option V),σ=v::c/\Same H2 a/\a D=some (.lst ys)/\ys=((ns.take j).map f).map V.bl) ⟨none,rfl,Same.new e,al,rfl⟩ ?_ ?_ ?_
 ·rintro j σ ys a ⟨v,rfl,sm,b,rfl⟩
  exact SqL.of (sm _ _ i)
 ·rintro j σ ys a x hx g hy ⟨v,rfl,sm,b,rfl⟩
  obtain⟨y,d,rfl⟩:=gm hx;refine cZ (h y a _ (An d) (bZ (by rw[Aa];exact zm ω) g hy b ⟨_,rfl,sm.then e,al,?_⟩));rw[take_snoc d,Aw,Aw];rfl
 ·rintro σ ys a ⟨v,rfl,sm,b,rfl⟩
  rw[Aa,Ax (Af _)] at b;exact k a sm b
def Q5{H2:Hp}{r o D:Addr}{rn on:List Int}{f:Int->Int->Bool}{te:TE}{c:List (Option V)}{Q:VK}(v:∀(a b:Int)(H:Hp)(R:VK),a∈rn->b∈on->R (.bl (f a b)) H->te (some (.int a)::some (.int b)::c) H R)(h1:H2 r=some (.lst (rn.map V.int)))(h2:H2 o=some (.lst (on.map V.int)))(n2:on.length<=1000)(s:H2 D=none)(k:∀d,Same H2 d->d D=some (.lst ((AA f rn on).map V.bl))->Q (.ref D) d):cV (du K r o) (cb K 2 (cr (zR 0) (cr (zR 1) b_))) bR te (none::none::c) H2 D Q:=by
 refine H_ (K:=K) (xs:=rn.map V.int) (ys:=on.map V.int) (fun i σ zs d=>∃j l,σ=j::l::c/\Same H2 d/\d D=some (.lst zs)/\zs=((AA f rn on).take i).map V.bl)
  ⟨none,none,rfl,Same.new s,al,rfl⟩ (fun i σ zs d ⟨_,_,_,sm,_⟩=>⟨SqL.of (sm _ _ h1),SqL.of (sm _ _ h2)⟩) ?_ ?_
 ·rintro i σ zs d u w x e1 e2 hi hz ⟨j,l,rfl,g,h,rfl⟩ e
  obtain⟨p,g1,rfl⟩:=gm e1;obtain⟨q,g2,rfl⟩:=gm e2;refine⟨u,_,rfl,SqT.of al,rfl,_,_,rfl,_,_,rfl,rfl,fX ?_⟩;refine v p q _ _ (An g1) (An g2) (bZ (Ag (Nat.min_le_right _ _) (by rw[Aa];exact zm ω)) hi hz (by rw[aq (zn h e)];exact h) ⟨_,_,rfl,?_,al,?_⟩)
  ·exact(g.then (g.free e)).then s
  ·have e3:(AA f rn on)[i]?=some (f p q):=by rw[List.getElem?_zipWith,g1,g2]
   rw[take_snoc e3,Aw];rfl
 ·rintro σ zs d ⟨j,l,rfl,g,h,rfl⟩
  refine k d g ?_;rw[h,Ax (by simp)]
end
end K27
end
section
namespace K27
open PySem L2
section
variable{P:Program}{w:World}{K:Ab}{mg:Str->Option Value}{base:Heap}
def IY:Sp:=fun vs H Q _=>∃(L:Addr)(ns:List Int)(m:Int),vs=[.ref L,.int m]/\H L=some (.lst (ns.map V.int))/\ns.length<=1000/\∀H',Same H H'->Q (.bl (dv ns m)) H'
def Q6:zl ["steps","most"] ["steps","most"] (zd vV):=⟨rfl,rfl,rfl,δ,rfl,δ,δ⟩
def Q7{f:Addr}{fd:FuncData}(F:Fun K "are_steps" "are_steps" vV f fd)(bl:mg "len"=none)(u:mg "all"=none)(N:mg "zip"=none):FnOk P w K mg base aJ 1 f fd ["steps","most"] IY:=by
 refine F.ok Q6 (fun vs H Q E h=>?_) (fun W A outer s H vs Q E hr h=>?_)
 ·obtain⟨L,ns,m,rfl,_⟩:=h;rfl
 ·obtain⟨L,ns,m,rfl,j,hz,k⟩:=h
  refine⟨_,za (zU (PW.pt (nR (zx k6 (zj zi rfl bl cx (af (pv 0) ak)) (pv 1) (ar _))
    (nP (eZ (eD (zj (lF rfl) rfl u lZ (af (zp ["steps","most"] ["step"] [none] (zO (pv 0)) (fun l C s₀ H₀ ex=>zk (i:=0) (bx ["step"]) rfl (Or.inl rfl)) (fun l C s₀ H₀ ex=>zz)
     (fun l C s₀ H₀ ex=>eV k6 (pv 0) zb (ar _)) (hfr:=bJ δ)) ak))))))) (zf (zo eS)) zA)
   (zf (zo (zj (lF rfl) rfl u lZ (af (zp ["steps","most"] ["low","high"] [none,none] (l7 rfl N kf (af (pv 0) (af (ro rv (pv 0) (rm zb) ri) ak)))
    (fun l C s₀ H₀ ex=>gG rfl (zJ (zk (i:=0) (bx ["low","high"]) rfl (Or.inl rfl)) (zJ (zk (i:=1) (bx ["low","high"]) rfl (Or.inl rfl)) gF))) (fun l C s₀ H₀ ex=>zz)
    (fun l C s₀ H₀ ex=>eV c6 (zF iv (pv 1) (pv 0)) zb (ar _)) (hfr:=bJ δ) (g:=cb K 2 (cr (zR 0) (cr (zR 1) b_)))) ak)))),?_⟩
  refine⟨_,rfl,L,_,rfl,.inl (SqL.of j),_,rfl,_,_,rfl,rfl,_,rfl,?_⟩;rw[Aa]
  by_cases c:m<(ns.length:Int)
  ·rw[decide_eq_true c]
   refine aT (aT ?_);have:dv ns m=false:=by unfold dv;rw[decide_eq_true c];rfl
   rw[this] at k;exact k H (Same.refl H)
  rw[decide_eq_false c];refine av ⟨_,rfl,L,rfl,⟨_,SqL.of j⟩,fun D v=>zw (Q4 (f:=fun x=>decide (0<x)) (fun x H' R _ q=>⟨_,rfl,_,_,rfl,rfl,q⟩) j hz v fun O p y=>⟨D,_,rfl,SqL.of y,_,rfl,?_⟩)⟩
  by_cases d:(ns.map fun x=>decide (0<x)).all id=true
  ·rw[d]
   refine av ⟨_,rfl,_,rfl,_,rfl,L,_,rfl,SqL.of (p _ _ j),fun S z=>?_⟩;rw[show(some (1:Int))=some ((1:Nat):Int) from rfl,jw,<-List.map_drop];have r:=Same.new (o:=.lst ((ns.drop 1).map V.int)) z;have pos:∀x∈ns,0<x:=fun x hx=>by
    rw[List.all_map,Bj] at d;exact of_decide_eq_true (d x hx)
   refine⟨L,S,rfl,⟨_,SqL.of ((p.trans r) _ _ j)⟩,⟨_,SqL.of al⟩,fun T G=>zw (Q5 (f:=fun a b=>decide (b%a=0)) (fun a b H' R I hb q=>?_) ((p.trans r) _ _ j) al (by rw[List.length_drop];(first|lia|omega)) G fun U J M=>⟨T,_,rfl,SqL.of M,?_⟩)⟩
   ·refine⟨_,rfl,_,rfl,_,_,rfl,rfl,pos a I,rfl,?_⟩
    rw[show decide (V.int (b%a)=V.int 0)=decide (b%a=0) from by rw[Bool.eq_iff_iff];simp];exact q
   ·have e:dv ns m=(AA (fun a b=>decide (b%a=0)) ns (ns.drop 1)).all id:=by
     unfold dv;rw[List.all_map] at d;rw[decide_eq_false c,show(ns.all fun x=>decide (0<x))=true from d];rfl
    rw[e] at k;exact k U ((p.trans r).trans J)
  ·rw[Bool.eq_false_iff.mpr d]
   refine aT ?_;have:dv ns m=false:=by
    unfold dv;rw[List.all_map] at d;rw[show(ns.all fun x=>decide (0<x))=false from Bool.eq_false_iff.mpr d,Bool.and_false];rfl
   rw[this] at k;exact k O p
end
end K27
end
section
namespace K27
open PySem L2
abbrev dw:Stmt:=top 40
def Q8(xs:List V)(n:Nat):dQ xs none (some (n:Int))=xs.take n:=by
 unfold dQ;rw[HT.J4,HT.J5,List.drop_zero,Nat.sub_zero];rcases Nat.le_total n xs.length with h|h
 ·rw[Nat.min_eq_left h]
 ·rw[Nat.min_eq_right h,Ax (Af _),Ax h]
structure NT(H H':Hp)(a:Addr)(ds:List Addr)(tb:Ξ):Prop where
 at_:H' a=some (.lst (ds.map V.ref))
 rows:Rws H' ds tb
 nd:ds.Nodup
 na:H a=none
 nw:∀d∈ds,H d=none/\d≠a
def NT.same{H H' H2:Hp}{a:Addr}{ds:List Addr}{tb:Ξ}(h:NT H H' a ds tb)(s:Same H' H2):NT H H2 a ds tb:=⟨s _ _ h.at_,h.rows.same s,h.nd,h.na,h.nw⟩
def NT.old{H0 H H':Hp}{a:Addr}{ds:List Addr}{tb:Ξ}(h:NT H H' a ds tb)(s:Same H0 H):NT H0 H' a ds tb:=⟨h.at_,h.rows,h.nd,s.free h.na,fun d hd=>⟨s.free (h.nw d hd).1,(h.nw d hd).2⟩⟩
def cat(tb ub:Ξ):Ξ:=AA (·++·) tb ub
def iV(n:Nat)(sh a:Ξ):Ξ:=(Ah n).map fun j=>fZ n (colAt sh j) a
structure LN(N M X B Y m n:Nat)(tb ub bc:Ξ):Prop where
 l1:tb.length=n
 l2:ub.length=n
 l3:bc.length=n
 w1:∀r∈tb,r.length=m
 w3:∀r∈bc,r.length=n
 n64:n<=40
 m64:m<=500
 w2:∀r∈ub,r.length=n
 ech:LD N M X B Y (m+n) (cat tb ub)
 shr:∀P fr,Tb.FS N M X B ((cat tb ub).map vc) P (vF fr)->Wid (m+n) P fr->∀r∈cat tb ub,kn fr (m+n) r P
 mul:∀P fr,Tb.FS N M X B ((cat tb ub).map vc) P (vF fr)->Wid (m+n) P fr->∀r∈cat tb ub,∀x∈shrL fr r P,∀row∈bc,∀y∈row,ey (-x) y
section
variable{P:Program}{w:World}{K:Ab}{mg:Str->Option Value}{base:Heap}
def LO:Sp:=fun vs H Q _=>∃(t a b c:Addr)(f g h:List Addr)(tb ub d:Ξ)(N M X B Y m n:Nat),vs=[.ref t,.int m]/\H t=some (.tup [.ref a,.ref b,.ref c])/\H a=some (.lst (f.map V.ref))/\H b=some (.lst (g.map V.ref))/\H c=some (.lst (h.map V.ref))/\Rws H f tb/\Rws H g ub/\Rws H h d/\LN N M X B Y m n tb ub d/\
 ∀P fr t' a' b' e i j l H',Tb.FS N M X B ((cat tb ub).map vc) P (vF fr)->Wid (m+n) P fr->Same H H'->H' t'=some (.tup [.ref a',.ref b',.ref e])->NT H H' a' i (P.map fun p=>(fr p).take m)->NT H H' b' j (P.map fun p=>(fr p).drop m)->NT H H' e l (iV n ((cat tb ub).map fun r=>shrL fr r P) d)->Q (.ref t') H'
def vW:zl ["side","width","rows","found","fresh","shares"] ["side","width"] (zd dw):=⟨rfl,rfl,rfl,δ,rfl,δ,δ⟩
def Q9{H2:Hp}{L D a:Addr}{es:List (Nat×Addr)}{fr:Nat->List Int}{ps:List Nat}{Q:VK}{te:TE}{c:List (Option V)}(l:Fnd H2 a es fr)(E:∀p∈ps,p∈es.map (·.1))(F:∀(p:Nat)(d:Addr)(H:Hp)(R:VK),Same H2 H->DGet H a (.int p) (some (.ref d))->R (.ref d) H->te (some (.int p)::c) H R)(G:H2 L=some (.lst (ps.map fun p:Nat=>V.int (p:Int))))(hz:ps.length<=1000)(g:H2 D=none)(k:∀b ds,Same H2 b->b D=some (.lst (ds.map V.ref))->Rws b ds (ps.map fr)->Q (.ref D) b):cV (fw K L) (zR 0) bR te (none::c) H2 D Q:=by
 refine lH (xs:=ps.map fun p:Nat=>V.int (p:Int)) (fun j σ ys b=>∃(v:Option V)(ds:List Addr),σ=v::c/\Same H2 b/\b D=some (.lst ys)/\ys=ds.map V.ref/\Rws b ds ((ps.take j).map fr)) ⟨none,[],rfl,Same.new g,al,rfl,.nil⟩ ?_ ?_ ?_
 ·rintro j σ ys b ⟨v,ds,rfl,sm,f,rfl,_⟩
  exact SqL.of (sm _ _ G)
 ·rintro j σ ys b x hx s hy ⟨v,ds,rfl,sm,f,rfl,hr⟩
  obtain⟨p,hp,rfl⟩:∃p,ps[j]?=some p/\x=V.int (p:Int):=by
   rw[Aj] at hx;cases e:ps[j]? with
   |none=>rw[e] at hx;cases hx
   |some p=>rw[e] at hx;cases hx;exact⟨p,rfl,rfl⟩
  obtain⟨d,hd,u,w⟩:=(l.same sm).get (E p (An hp));refine cZ (F p d b _ sm u (bZ (by rw[Aa];exact zm ω) s hy f ⟨_,ds++[d],rfl,sm.then g,al,by simp,?_⟩));rw[take_snoc hp,Aw];have A:∀e∈ds++[d],e≠D:=fun e r z=>by
   subst z;rcases List.mem_append.mp r with h|h
   ·obtain⟨i,hi⟩:=List.mem_iff_getElem?.mp h
    obtain⟨ns,e1,e2⟩:=hr.get hi;rw[f] at e2;have e2:=AL e2;injection e2 with e2
    have C:ds.length≠0:=fun z=>by rw[List.length_eq_zero_iff.mp z] at h;cases h
    cases ds with
    |nil=>cases h
    |cons q ds=>cases ns with
     |nil=>cases e2
     |cons n ns=>rw[AV,AV] at e2;cases e2
   ·obtain rfl:e=d:=by simpa using h
    obtain⟨_,y⟩:∃o,H2 e=some o:=⟨_,l.rows _ hd⟩;rw[y] at g;cases g
  exact((hr.snoc w).upd A)
 ·rintro σ ys b ⟨v,ds,rfl,sm,f,rfl,hr⟩
  rw[Aa,Ax (Af _)] at hr;exact k b ds sm f hr
def Q_{f fe fc fm fs:Addr}{fd kS aD aP aB:FuncData}(F:Fun K "straightened" "straightened" dw f fd)(bz:mg "zip"=none)(bs:mg "sorted"=none)(Fe:Fun K "echelon_of" "echelon_of" jy fe kS)(be:Binds K kS ["rows"] [])(me:mg "echelon_of"=some (.ref fe))(Ge:FnOk P w K mg base aJ 4 fe kS ["rows"] LF)(Fc:Fun K "columns_of" "columns_of" iN fc aD)(bc:Binds K aD ["table"] [])(mc:mg "columns_of"=some (.ref fc))(Gc:FnOk P w K mg base aJ 3 fc aD ["table"] (ka K))(Fm:Fun K "mix_of" "mix_of" jA fm aP)(bm:Binds K aP ["numbers","rows"] [])(mm:mg "mix_of"=some (.ref fm))(Gm:FnOk P w K mg base aJ 2 fm aP ["numbers","rows"] IT)(Fs:Fun K "shares_of" "shares_of" jq fs aB)(bh:Binds K aB ["row","found"] [])(ms:mg "shares_of"=some (.ref fs))(Gs:FnOk P w K mg base aJ 2 fs aB ["row","found"] Ij):FnOk P w K mg base aJ 5 f fd ["side","width"] LO:=by
 refine F.ok vW (fun vs H Q E h=>?_) (fun ah A outer s H vs Q E hr h=>?_)
 ·obtain⟨t,a,b,c,da,db,dc,tb,ub,bb,N,M,X,B,Y,m,n,rfl,_⟩:=h;rfl
 ·obtain⟨t,a,b,c,da,db,dc,tb,ub,bb,N,M,X,B,Y,m,n,rfl,ht,ha,hb,hc,ra,rb,rc,ok,k⟩:=h
  have hu:=DC hr;have hr3:Room 3 _:=hr.mono ξ;have hr2:Room 2 _:=hr.mono ξ;refine⟨_,za (oK (i:=2) vW.nd rfl (Or.inl rfl) ["side","width","rows","found","fresh","shares"] ["row","turn"] [none,none] (l7 rfl bz kf (af (zy zE (pv 0) zb (fun _ _=>rfl)) (af (zy zE (pv 0) zb (fun _ _=>rfl)) ak)))
    (fun v C s₀ H₀ ex=>gG rfl (zJ (zk (i:=0) (bx ["row","turn"]) rfl (Or.inl rfl)) (zJ (zk (i:=1) (bx ["row","turn"]) rfl (Or.inl rfl)) gF))) (fun v C s₀ H₀ ex=>zz)
    (fun v C s₀ H₀ ex=>zF J_ (pv 0) (pv 1)) (te:=cq ry (aC 0) (aC 1)) (hfr:=bJ δ) (g:=cb K 2 (cr (zR 0) (cr (zR 1) b_))))
   (za (zr (i:=3) vW.nd rfl (Or.inr rfl) (ze Ge hr rfl me Fe.kp be .nil ap (af (pv 2) ak)))
   (za (oK (i:=4) vW.nd rfl (Or.inl rfl) ["side","width","rows","found","fresh","shares"] ["place","found"] [none,some 3] (zO (zj (uw rfl) rfl bs uF (af (pv 3) ak))) (fun v C s₀ H₀ ex=>zk (i:=0) (bx ["place","found"]) rfl (Or.inl rfl)) (fun v C s₀ H₀ ex=>zz)
    (fun v C s₀ H₀ ex=>la hu (pv 1) (pv 0) (fun _ _=>rfl)) (hfr:=bM (zd dw) δ))
   (za (oK (i:=5) vW.nd rfl (Or.inl rfl) ["side","width","rows","found","fresh","shares"] ["row","found"] [none,some 3] (zO (pv 2)) (fun v C s₀ H₀ ex=>zk (i:=0) (bx ["row","found"]) rfl (Or.inl rfl)) (fun v C s₀ H₀ ex=>zz)
    (fun v C s₀ H₀ ex=>ze Gs hr2 rfl ms Fs.kp bh .nil ap (af (pv 0) (af (pv 1) ak))) (te:=dD Ij [] E0 (zY (aC 0) (zY (aC 1) bN))) (hfr:=bM (zd dw) δ))
   (zf (zo (fE (af
    (zp ["side","width","rows","found","fresh","shares"] ["row","width"] [none,some 1] (zO (pv 4)) (fun v C s₀ H₀ ex=>zk (i:=0) (bx ["row","width"]) rfl (Or.inl rfl)) (fun v C s₀ H₀ ex=>zz)
     (fun v C s₀ H₀ ex=>ro rv (pv 0) ri (rm (pv 1))) (te:=Hn (k8 K) (aC 0) Hl (Hm (aC 1))) (hfr:=bM (zd dw) δ))
    (af (zp ["side","width","rows","found","fresh","shares"] ["row","width"] [none,some 1] (zO (pv 4)) (fun v C s₀ H₀ ex=>zk (i:=0) (bx ["row","width"]) rfl (Or.inl rfl)) (fun v C s₀ H₀ ex=>zz)
     (fun v C s₀ H₀ ex=>ro rv (pv 0) (rm (pv 1)) ri) (te:=Hn (k8 K) (aC 0) (Hm (aC 1)) Hl) (hfr:=bM (zd dw) δ))
    (af (zp ["side","width","rows","found","fresh","shares"] ["numbers","side"] [none,some 0] (zO (ze Gc hr3 rfl mc Fc.kp bc .nil ap (af (pv 5) ak))) (fun v C s₀ H₀ ex=>zk (i:=0) (bx ["numbers","side"]) rfl (Or.inl rfl)) (fun v C s₀ H₀ ex=>zz)
     (fun v C s₀ H₀ ex=>ze Gm hr2 rfl mm Fm.kp bm .nil ap (af (pv 0) (af (zy zE (pv 1) zb (fun _ _=>rfl)) ak))) (te:=dD IT [] E0 (zY (aC 0) (zY (cq (rq K) (aC 1) (tC (.int 2))) bN))) (hfr:=bM (zd dw) δ)) ak))))))))),?_⟩
  refine⟨_,rfl,t,_,_,_,rfl,rfl,SqT.of ht,zh (j:=0) rfl,_,rfl,t,_,_,_,rfl,rfl,SqT.of ht,zh (j:=1) rfl,a,b,rfl,⟨_,SqL.of ha⟩,⟨_,SqL.of hb⟩,fun R hR=>zw (Q1 (g:=fun x y=>x++y) (fun o u os us H' R sm G nO iJ fP hk=>?_) ha hb ra rb (by have:=ok.l2;have:=ok.n64;(first|lia|omega)) hR fun H1 rs s1 oo I _ _=>?_)⟩
  ·refine⟨_,rfl,_,rfl,o,u,_,_,rfl,rfl,G,nO,?_,fun p hp=>?_⟩
   ·rw[Aa,Aa,ok.w1 os iJ,ok.w2 us fP,sizeLine_eq];have:=ok.n64;have:=ok.m64;(first|lia|omega)
   ·rw[<-Aw]
    exact hk p _ (Same.new hp) hp al
  have I:Rws H1 rs (cat tb ub):=I;refine⟨_,rfl,R,rs,cat tb ub,N,M,X,B,Y,m+n,rfl,oo,I,ok.ech,fun a1 H2 es fr PP s2 DU F2 kx mI FS=>?_⟩;have lc:(cat tb ub).length=n:=by unfold cat;rw[AE,ok.l1,ok.l2,Nat.min_self]
  have lP:PP.length=n:=by rw[FS.len,Aa,lc]
  have le:es.length<64:=by have:=kx.len;have:=ok.n64;(first|lia|omega)
  refine⟨_,rfl,a1,ez es,rfl,F2.at_,(by simpa using le),fun PL ms pm so d_=>?_⟩;rw[kx.ints pm so];have oQ:=Same.new (o:=.lst (PP.map fun p:Nat=>V.int (p:Int))) d_;refine⟨PL,rfl,⟨_,SqL.of al⟩,fun FD xr=>zw (Q9 (F2.same oQ) (fun p hp=>kx.pm.mem_iff.mp hp) (fun p d H' R sm gd hk=>⟨_,rfl,_,rfl,a1,_,rfl,gd,hk⟩) al (by have:=ok.n64;(first|lia|omega)) xr fun H3 fs s3 fK qI=>?_)⟩;have aL:=(s2.trans oQ).trans s3;have F3:=(F2.same oQ).same s3;refine⟨_,rfl,R,rfl,⟨_,SqL.of (aL _ _ oo)⟩,fun SD u5=>zw (pa (g:=fun r=>shrL fr r PP) (fun o os H' R' sm G W hk=>?_) (SqL.of (aL _ _ oo)) (I.same aL) (by rw[lc];have:=ok.n64;(first|lia|omega)) u5 fun H4 ss J lw xl _ _=>?_)⟩
  ·exact⟨_,rfl,_,rfl,o,a1,os,es,fr,PP,m+n,rfl,G,F3.same sm,kx,le,ok.shr PP fr FS mI os W,hk⟩
  have iS:=(s1.trans aL).trans J;refine⟨_,rfl,FD,rfl,⟨_,SqL.of (J _ _ fK)⟩,fun A1 pi=>zw (pa (g:=fun r=>r.take m) (fun o os H' R' sm G W hk=>?_) (SqL.of (J _ _ fK)) (qI.same J) (by rw[Aa,lP];have:=ok.n64;(first|lia|omega)) pi fun H5 d5 S BY r5 n5 w5=>?_)⟩
  ·refine⟨_,rfl,_,rfl,_,rfl,o,_,rfl,SqL.of G,fun q hq=>?_⟩
   rw[Q8,<-List.map_take];exact hk q _ (Same.new hq) hq al
  refine⟨_,rfl,FD,rfl,⟨_,SqL.of ((J.trans S) _ _ fK)⟩,fun A2 rZ=>zw (pa (g:=fun r=>r.drop m) (fun o os H' R' sm G W hk=>?_) (SqL.of ((J.trans S) _ _ fK)) (qI.same (J.trans S)) (by rw[Aa,lP];have:=ok.n64;(first|lia|omega)) rZ fun H6 d6 s6 wI r6 n6 w6=>?_)⟩
  ·refine⟨_,rfl,_,rfl,_,rfl,o,_,rfl,SqL.of G,fun q hq=>?_⟩
   rw[jw,<-List.map_drop];exact hk q _ (Same.new hq) hq al
  have f_:=S.trans s6;have Dt:=iS.trans f_;have jI:((cat tb ub).map fun r=>shrL fr r PP).length=n:=by rw[Aa,lc]
  have L:∀r∈(cat tb ub).map (fun r=>shrL fr r PP),r.length=n:=fun r hr=>by
   obtain⟨q,_,rfl⟩:=List.mem_map.mp hr;rw[uI,lP]
  have D:wid ((cat tb ub).map fun r=>shrL fr r PP)=n:=by
   cases e:(cat tb ub).map (fun r=>shrL fr r PP) with
   |nil=>rw[e] at jI;exact jI
   |cons x l=>rw[e] at L;exact L x (AF ..)
  have tsh:zT ((cat tb ub).map fun r=>shrL fr r PP)=true:=by
   unfold zT;rw[D,jI,decide_eq_true ok.n64];simp only[Bool.and_self,Bool.true_and,Bj];exact fun r hr=>decide_eq_true (L r hr)
  refine⟨_,rfl,SD,ss,_,rfl,SqL.of (f_ _ _ lw),xl.same f_,tsh,fun CD H7 cs Z EG jH q8 _ _=>⟨CD,rfl,⟨_,SqL.of jH⟩,fun A3 pV=>?_⟩⟩;have jo:=Dt.trans Z;have et:turn ((cat tb ub).map fun r=>shrL fr r PP)=(Ah n).map (colAt ((cat tb ub).map fun r=>shrL fr r PP)):=by unfold turn;rw[D]
  rw[et] at q8;have wz:∀r∈bb,r.length=wid bb:=fun r hr=>by
   cases e:bb with
   |nil=>rw[e] at hr;cases hr
   |cons x l=>rw[ok.w3 r hr];exact(ok.w3 x (by rw[e];exact AF ..)).symm
  have wb:wid bb=n:=by
   cases e:bb with
   |nil=>have:=ok.l3;rw[e] at this;exact this
   |cons x l=>exact ok.w3 x (by rw[e];exact AF ..)
  refine zw (pa (g:=fun ns=>fZ n ns bb) (fun o os H' R' sm G W hk=>?_) (SqL.of jH) q8 (by rw[Aa,A6];have:=ok.n64;(first|lia|omega)) pV fun H8 d8 s8 Db r8 n8 w8=>?_)
  ·have nQ:=jo.trans sm
   refine⟨_,rfl,_,rfl,t,_,_,_,rfl,rfl,SqT.of (nQ _ _ ht),zh (j:=2) rfl,o,c,os,dc,bb,rfl,G,nQ _ _ hc,rc.same nQ,by rw[wb];have:=ok.n64;(first|lia|omega),wz,fun z hz y hy=>?_,by rw[wb];exact hk⟩;obtain⟨z1,z2⟩:=List.of_mem_zip hz;obtain⟨j,hj,rfl⟩:=List.mem_map.mp W;have z1:z.1∈((cat tb ub).map fun r=>shrL fr r PP).map fun r=>r.getD j 0:=z1;obtain⟨sr,yD,e1⟩:=List.mem_map.mp z1;obtain⟨r,hr,rfl⟩:=List.mem_map.mp yD;refine ok.mul PP fr FS mI r hr z.1 ?_ z.2 z2 y hy;have hj:=List.mem_range.mp hj;have Ci:j<(shrL fr r PP).length:=by rw[uI,lP];exact hj
   rw[<-e1,Ad,Ac Ci];exact AB _
  ·have qD:=(s6.trans Z).trans s8
   have tD:=Z.trans s8;have U:∀{x},H4 x=none->H x=none:=fun h=>iS.free h;refine⟨by show 3<=sizeLine;decide,fun T hT=>?_⟩;have O:=Same.new (o:=.tup [V.ref A1,V.ref A2,V.ref A3]) hT;rw[AT] at r5 r6 r8;refine k PP fr T A1 A2 A3 d5 d6 d8 _ FS mI ((jo.trans s8).trans O) al ⟨O _ _ (qD _ _ BY),(r5.same qD).same O,n5,U pi,fun d hd=>⟨U (w5 d hd).1,(w5 d hd).2⟩⟩ ⟨O _ _ (tD _ _ wI),(r6.same tD).same O,n6,U (S.free rZ),fun d hd=>⟨U (S.free (w6 d hd).1),(w6 d hd).2⟩⟩ ⟨O _ _ Db,r8.same O,n8,U (f_.free (Z.free pV)),fun d hd=>⟨U (f_.free (Z.free (w8 d hd).1)),(w8 d hd).2⟩⟩
end
end K27
end
section
namespace K27
open PySem L2
abbrev FY:Stmt:=top 50
def rowAt(tb:Ξ)(i:Nat):List Int:=tb.getD i []
def slT(tb:Ξ)(r:Nat):Nat->Ξ
 |0=>tb
 |n+1=>(slT tb r n).set (r-2-n) (c7 (rowAt (slT tb r n) (r-2-n)) (-1) (rowAt (slT tb r n) (r-1-n)))
def slB(tb:Ξ)(r:Nat):Nat->Ξ
 |0=>tb
 |n+1=>(slB tb r n).set (r-1-n) (c7 (rowAt (slB tb r n) (r-1-n)) 1 (rowAt (slB tb r n) (r-2-n)))
def mC{tb:Ξ}{r:Nat}:∀n,(slT tb r n).length=tb.length
 |0=>rfl
 |n+1=>by show List.length (List.set _ _ _)=_;rw[List.length_set];exact mC n
def v0{tb:Ξ}{r:Nat}:∀n,(slB tb r n).length=tb.length
 |0=>rfl
 |n+1=>by show List.length (List.set _ _ _)=_;rw[List.length_set];exact v0 n
structure Wk(H0:Hp)(Z:List Addr)(H:Hp)(R:Addr)(rs:List Addr)(tb:Ξ):Prop where
 at_:H R=some (.lst (rs.map V.ref))
 rows:Rws H rs tb
 nd:rs.Nodup
 nw:∀d∈rs,H0 d=none/\∀z∈Z,d≠z
section
variable{H0 H H':Hp}{Z:List Addr}{R R':Addr}{rs:List Addr}{tb:Ξ}
def Wk.same(h:Wk H0 Z H R rs tb)(s:Same H H'):Wk H0 Z H' R rs tb:=⟨s _ _ h.at_,h.rows.same s,h.nd,h.nw⟩
def Wk.get(h:Wk H0 Z H R rs tb){i:Nat}(hi:i<tb.length):∃d,rs[i]?=some d/\(rs.map V.ref)[i]?=some (V.ref d)/\H d=some (.lst ((rowAt tb i).map V.int)):=by
 have a:=h.rows.len;obtain⟨ns,e1,e2⟩:=h.rows.get (Ac (show i<rs.length from ω));refine⟨rs[i]'ω,Ac _,by rw[Aj,Ac (show i<rs.length from ω)];rfl,?_⟩;unfold rowAt;rw[Ad,e1];exact e2
def Wk.other(h:Wk H0 Z H R' rs tb)(hz:R∈Z)(ne:R'≠R){o:HO}:Wk H0 Z (upd H R o) R' rs tb:=⟨by rw[aq ne];exact h.at_,h.rows.upd fun d hd=>(h.nw d hd).2 R hz,h.nd,h.nw⟩
def Q'{l:List Addr}{i:Nat}{d:Addr}(h:l.Nodup)(hd:d∉l):(l.set i d).Nodup:=by
 rw[List.Nodup,List.pairwise_iff_getElem];intro a b e hb g;rw[List.length_set] at e hb;have f:∀c(hc:c<l.length),l[c]≠d:=fun c hc z=>hd (z▸AB hc);rw[List.getElem_set,List.getElem_set];have:=List.pairwise_iff_getElem.mp h a b e hb g;split
 ·split
  ·(first|lia|omega)
  ·exact(f b hb).symm
 ·split
  ·exact f a e
  ·exact this
def Ra{H:Hp}{rs:List Addr}{tb:Ξ}{d:Addr}{ns:List Int}(h:Rws H rs tb)(e:H d=some (.lst (ns.map V.int))):∀i,Rws H (rs.set i d) (tb.set i ns):=by
 induction h with
 |nil=>intro i;exact .nil
 |cons r t ih=>intro i;cases i with
  |zero=>exact .cons e t
  |succ i=>exact .cons r (ih i)
def Wk.put(h:Wk H0 Z H R rs tb)(b:Same H0 H')(s:Same H H'){d:Addr}{ns:List Int}{H2:Hp}(c:Same H' H2)(hd:H' d=none)(e:H2 d=some (.lst (ns.map V.int)))(hz:R∈Z)(f:∀z∈Z,H' z≠none)(i:Nat):Wk H0 Z (upd H2 R (.lst ((rs.map V.ref).set i (.ref d)))) R (rs.set i d) (tb.set i ns):=by
 have a:d∉rs:=fun z=>(h.same s).rows.there d z hd;have nz:∀z∈Z,d≠z:=fun z hz e=>f z hz (e▸hd);refine⟨by rw[al,List.map_set],?_,Q' h.nd a,fun x hx=>?_⟩
 ·refine(Ra ((h.rows.same s).same c) e i).upd fun x hx=>?_
  rcases List.mem_or_eq_of_mem_set hx with hx|rfl
  ·exact(h.nw x hx).2 R hz
  ·exact nz R hz
 ·rcases List.mem_or_eq_of_mem_set hx with hx|rfl
  ·exact h.nw x hx
  ·exact⟨b.free hd,nz⟩
end
def Sml(tb:Ξ):Prop:=∀r∈tb,r.length<=1000/\∀x∈r,x.natAbs<big
def LP:(1:Int).natAbs<big:=by
 unfold big;exact Nat.one_lt_two_pow (by have:=kr;(first|lia|omega))
def Sml.at{tb:Ξ}(h:Sml tb){i:Nat}(hi:i<tb.length):(rowAt tb i).length<=1000/\∀x∈rowAt tb i,x.natAbs<big:=by
 refine h _ ?_;unfold rowAt;rw[Ad,Ac hi];exact AB _
section
variable{P:Program}{w:World}{K:Ab}{mg:Str->Option Value}{base:Heap}
def LQ:Sp:=fun vs H Q _=>∃(H0:Hp)(t a b c:Addr)(h i l:List Addr)(tb ub bb:Ξ)(n r:Nat),vs=[.ref t,.int r]/\H t=some (.tup [.ref a,.ref b,.ref c])/\Same H0 H/\NT H0 H a h tb/\NT H0 H b i ub/\NT H0 H c l bb/\tb.length=n/\ub.length=n/\bb.length=n/\1<=r/\r<=n/\n<=1000/\
 (∀j,j<r->Sml (slT tb r j)/\Sml (slT ub r j)/\Sml (slB bb r j))/\
 ∀t' a' b' d e f g H',Same H H'->H' t'=some (.tup [.ref a',.ref b',.ref d])->NT H0 H' a' e (slT tb r (r-1))->NT H0 H' b' f (slT ub r (r-1))->NT H0 H' d g (slB bb r (r-1))->Q (.ref t') H'
def v':zl ["side","count","rows","turn","back","k"] ["side","count"] (zd FY):=⟨rfl,rfl,rfl,δ,rfl,δ,δ⟩
def IZ:A9 "list"=some (.type "list"):=δ
def Rb{f fl:Addr}{fd aR:FuncData}(F:Fun K "slid" "slid" FY f fd)(bg:mg "range"=none)(bs:mg "list"=none)(Fl:Fun K "less" "less" kb fl aR)(bl:Binds K aR ["row","often","other"] [])(ml:mg "less"=some (.ref fl))(Gl:FnOk P w K mg base aJ 1 fl aR ["row","often","other"] t_):FnOk P w K mg base aJ 2 f fd ["side","count"] LQ:=by
 refine F.ok v' (fun vs H Q E h=>?_) (fun ah A outer s H vs Q E hr h=>?_)
 ·obtain⟨H0,t,a,b,c,da,db,dc,tb,ub,bb,n,r,rfl,_⟩:=h;rfl
 ·obtain⟨H0,t,a,b,c,da,db,dc,tb,ub,bb,n,r,rfl,ht,s0,na,nb,nc,l1,l2,l3,r1,rn,n9,A_,k⟩:=h
  refine⟨_,za (zr (i:=2) v'.nd rfl (Or.inl rfl) (j7 k' rfl bs IZ (af (zy zE (pv 0) zb (fun _ _=>rfl)) ak)))
   (za (zr (i:=3) v'.nd rfl (Or.inl rfl) (j7 k' rfl bs IZ (af (zy zE (pv 0) zb (fun _ _=>rfl)) ak)))
   (za (zr (i:=4) v'.nd rfl (Or.inl rfl) (j7 k' rfl bs IZ (af (zy zE (pv 0) zb (fun _ _=>rfl)) ak)))
   (za (i6 PassesOwn.never rfl (Lx rfl bg (af (zF fD (pv 1) zb) (af zb (af (jX j3 zb) ak)))) (zk (i:=5) v'.nd rfl (Or.inl rfl))
    (za (nV (ze Gl hr rfl ml Fl.kp bl .nil ap (af (zy zB (pv 2) (zF fD (pv 5) zb) (fun _ _=>rfl)) (af (jX j3 zb) (af (zy zB (pv 2) (pv 5) (fun _ _=>rfl)) ak)))) (nU (pv 2) (zF fD (pv 5) zb) set_list))
    (za (nV (ze Gl hr rfl ml Fl.kp bl .nil ap (af (zy zB (pv 3) (zF fD (pv 5) zb) (fun _ _=>rfl)) (af (jX j3 zb) (af (zy zB (pv 3) (pv 5) (fun _ _=>rfl)) ak)))) (nU (pv 3) (zF fD (pv 5) zb) set_list))
    (zf (nV (ze Gl hr rfl ml Fl.kp bl .nil ap (af (zy zB (pv 4) (pv 5) (fun _ _=>rfl)) (af zb (af (zy zB (pv 4) (zF fD (pv 5) zb) (fun _ _=>rfl)) ak)))) (nU (pv 4) (pv 5) set_list))))))
   (zf (zo (fE (af (pv 2) (af (pv 3) (af (pv 4) ak))))))))),?_⟩
  refine⟨_,rfl,t,_,_,_,rfl,rfl,SqT.of ht,zh (j:=0) rfl,a,_,rfl,.inl (SqL.of na.at_),fun R hR=>?_⟩;have I:=Same.new (o:=.lst (da.map V.ref)) hR;refine⟨_,rfl,t,_,_,_,rfl,rfl,SqT.of (I _ _ ht),zh (j:=1) rfl,b,_,rfl,.inl (SqL.of (I _ _ nb.at_)),fun T hT=>?_⟩;have M:=Same.new (o:=.lst (db.map V.ref)) hT;refine⟨_,rfl,t,_,_,_,rfl,rfl,SqT.of ((I.trans M) _ _ ht),zh (j:=2) rfl,c,_,rfl,.inl (SqL.of ((I.trans M) _ _ nc.at_)),fun B hB=>?_⟩;have sB:=Same.new (o:=.lst (dc.map V.ref)) hB;have sZ:=(I.trans M).trans sB;have rP:R≠T:=zn al hT;have p0:T≠B:=zn al hB;have sN:R≠B:=zn (M _ _ al) hB;have fg:H T=none:=I.free hT;have ng:H B=none:=(I.trans M).free hB;have W0:∀{x:Addr}{dx:List Addr}{tx:Ξ}{Y:Addr}{H2:Hp},NT H0 H x dx tx->Same H H2->H2 Y=some (.lst (dx.map V.ref))->Wk H0 [R,T,B] H2 Y dx tx:=fun{x dx tx Y H2} n s e=>
   ⟨e,n.rows.same s,n.nd,fun d hd=>⟨(n.nw d hd).1,fun z hz q=>by
    have y:=n.rows.there d hd;rw[q] at y;simp at hz;rcases hz with rfl|rfl|rfl
    ·exact y hR
    ·exact y fg
    ·exact y ng⟩⟩
  have en:(((r:Nat):Int)-1-0).toNat=r-1:=ω
  refine⟨_,rfl,_,_,rfl,rfl,_,rfl,_,_,rfl,⟨ω,ω,ω,ω⟩,?_⟩;rw[en];refine Ly (fun i σ H2=>∃(v5:Option V)(rs v bs:List Addr),σ=[some (.ref t),some (.int r),some (.ref R),some (.ref T),some (.ref B),v5]/\Same H H2/\Wk H0 [R,T,B] H2 R rs (slT tb r i)/\Wk H0 [R,T,B] H2 T v (slT ub r i)/\Wk H0 [R,T,B] H2 B bs (slB bb r i))
   ⟨none,da,db,dc,rfl,sZ,W0 na sZ ((M.trans sB) _ _ al),W0 nb sZ (sB _ _ al),W0 nc sZ al⟩ ?_ ?_
  ·rintro i σ H2 hi ⟨v5,rs,v,bs,rfl,sm,u,wT,wB⟩
   obtain⟨g,j_⟩:∃g,g=r-2-i:=⟨_,rfl⟩;have e1:((r:Nat):Int)-1-((i:Nat):Int)=((g+1:Nat):Int):=ω
   have e2:((g+1:Nat):Int)-1=((g:Nat):Int):=ω
   have J:r-1-i=g+1:=ω
   obtain⟨i_,oq,au⟩:=A_ i ω;have lR:(slT tb r i).length=n:=by rw[mC,l1]
   have lT:(slT ub r i).length=n:=by rw[mC,l2]
   have lB:(slB bb r i).length=n:=by rw[v0,l3]
   have p:∀{q:Int}{x:Int},q.natAbs<=1->x.natAbs<big->ey q x:=fun hq hx=>gs (Aq hq LP) hx;have ix:∀{l:List Addr}{j:Nat},j<l.length->iw (l.map V.ref).length ((j:Nat):Int)=some j:=fun{l j} h=>by unfold iw;rw[Aa];simp[h]
   have Zin:∀{L:Hp},Same H2 L->∀z∈[R,T,B],L z≠none:=fun{L} s z hz=>by
    simp at hz;rcases hz with rfl|rfl|rfl
    ·rw[s _ _ u.at_];simp
    ·rw[s _ _ wT.at_];simp
    ·rw[s _ _ wB.at_];simp
   obtain⟨d1,g1,U,h1⟩:=u.get (i:=g) ω;obtain⟨d2,g2,W,h2⟩:=u.get (i:=g+1) ω;rw[e1];have G:=i_.at (i:=g+1) ω;refine⟨_,rfl,_,rfl,_,_,rfl,rfl,R,_,_,_,rfl,rfl,SqL.of u.at_,by rw[e2];exact zh U,_,rfl,_,rfl,_,rfl,R,_,_,_,rfl,rfl,SqL.of u.at_,zh W,d1,d2,_,_,-1,rfl,h1,h2,G.1,fun x hx=>p ξ (G.2 x hx),fun X L N ae e3=>?_⟩;refine⟨_,rfl,_,rfl,_,_,rfl,rfl,R,_,_,g,rfl,rfl,N _ _ u.at_,by rw[e2];exact ix (by have:=u.rows.len;(first|lia|omega)),?_⟩;have kH:=u.put (s0.trans sm) (Same.refl H2) N ae e3 (by simp) (Zin (Same.refl H2)) g;have cu:Same H (upd L R (.lst ((rs.map V.ref).set g (.ref X)))):=(sm.trans N).then hR;have C:=(wT.same N).other (R:=R) (by simp) (Ne.symm rP) (o:=.lst ((rs.map V.ref).set g (.ref X)));have k9:=(wB.same N).other (R:=R) (by simp) (Ne.symm sN) (o:=.lst ((rs.map V.ref).set g (.ref X)));have Z3:∀z∈[R,T,B],(upd L R (.lst ((rs.map V.ref).set g (.ref X)))) z≠none:=fun z hz=>by
    simp at hz;rcases hz with rfl|rfl|rfl
    ·rw[al];simp
    ·rw[C.at_];simp
    ·rw[k9.at_];simp
   have et1:(slT tb r i).set g (c7 (rowAt (slT tb r i) g) (-1) (rowAt (slT tb r i) (g+1)))=slT tb r (i+1):=by
    show _=(slT tb r i).set (r-2-i) (c7 (rowAt (slT tb r i) (r-2-i)) (-1) (rowAt (slT tb r i) (r-1-i)));rw[<-j_,J]
   rw[et1] at kH;generalize upd L R (.lst ((rs.map V.ref).set g (.ref X)))=H4 at kH cu C k9 Z3 ⊢;obtain⟨d1,g1,U,h1⟩:=C.get (i:=g) ω;obtain⟨d2,g2,W,h2⟩:=C.get (i:=g+1) ω;have G:=oq.at (i:=g+1) ω;refine⟨_,rfl,_,rfl,_,_,rfl,rfl,T,_,_,_,rfl,rfl,SqL.of C.at_,by rw[e2];exact zh U,_,rfl,_,rfl,_,rfl,T,_,_,_,rfl,rfl,SqL.of C.at_,zh W,d1,d2,_,_,-1,rfl,h1,h2,G.1,fun x hx=>p ξ (G.2 x hx),fun Z H5 O eK e5=>?_⟩;refine⟨_,rfl,_,rfl,_,_,rfl,rfl,T,_,_,g,rfl,rfl,O _ _ C.at_,by rw[e2];exact ix (by have:=C.rows.len;(first|lia|omega)),?_⟩;have lA:=C.put (s0.trans cu) (Same.refl H4) O eK e5 (by simp) Z3 g;have mO:Same H (upd H5 T (.lst ((v.map V.ref).set g (.ref Z)))):=(cu.trans O).then fg;have mE:=(kH.same O).other (R:=T) (by simp) rP (o:=.lst ((v.map V.ref).set g (.ref Z)));have D:=(k9.same O).other (R:=T) (by simp) (Ne.symm p0) (o:=.lst ((v.map V.ref).set g (.ref Z)));have Z5:∀z∈[R,T,B],(upd H5 T (.lst ((v.map V.ref).set g (.ref Z)))) z≠none:=fun z hz=>by
    simp at hz;rcases hz with rfl|rfl|rfl
    ·rw[mE.at_];simp
    ·rw[al];simp
    ·rw[D.at_];simp
   have et2:(slT ub r i).set g (c7 (rowAt (slT ub r i) g) (-1) (rowAt (slT ub r i) (g+1)))=slT ub r (i+1):=by
    show _=(slT ub r i).set (r-2-i) (c7 (rowAt (slT ub r i) (r-2-i)) (-1) (rowAt (slT ub r i) (r-1-i)));rw[<-j_,J]
   rw[et2] at lA;generalize upd H5 T (.lst ((v.map V.ref).set g (.ref Z)))=H6 at mE mO lA D Z5 ⊢;obtain⟨d1,g1,U,h1⟩:=D.get (i:=g+1) ω;obtain⟨d2,g2,W,h2⟩:=D.get (i:=g) ω;have G:=au.at (i:=g) ω;refine⟨_,rfl,_,rfl,B,_,_,_,rfl,rfl,SqL.of D.at_,zh U,_,rfl,_,rfl,_,_,rfl,rfl,B,_,_,_,rfl,rfl,SqL.of D.at_,by rw[e2];exact zh W,d1,d2,_,_,1,rfl,h1,h2,G.1,fun x hx=>p ξ (G.2 x hx),fun D7 H7 S gf e7=>?_⟩;refine⟨_,rfl,_,rfl,B,_,_,g+1,rfl,rfl,S _ _ D.at_,ix (by have:=D.rows.len;(first|lia|omega)),?_⟩;have qm:=D.put (s0.trans mO) (Same.refl H6) S gf e7 (by simp) Z5 (g+1);have yk:=(mE.same S).other (R:=B) (by simp) sN (o:=.lst ((bs.map V.ref).set (g+1) (.ref D7)));have uL:=(lA.same S).other (R:=B) (by simp) p0 (o:=.lst ((bs.map V.ref).set (g+1) (.ref D7)));have Cp:(slB bb r i).set (g+1) (c7 (rowAt (slB bb r i) (g+1)) 1 (rowAt (slB bb r i) g))=slB bb r (i+1):=by
    show _=(slB bb r i).set (r-1-i) (c7 (rowAt (slB bb r i) (r-1-i)) 1 (rowAt (slB bb r i) (r-2-i)));rw[<-j_,J]
   rw[Cp] at qm;exact⟨_,_,_,_,rfl,(mO.trans S).then ng,yk,uL,qm⟩
  ·rintro σ H2 ⟨v5,rs,v,bs,rfl,sm,u,wT,wB⟩
   refine⟨_,rfl,_,rfl,_,rfl,by show 3<=sizeLine;decide,fun t' ht'=>?_⟩;have nT:=Same.new (o:=.tup [V.ref R,V.ref T,V.ref B]) ht';have nt:∀{Y:Addr}{ds:List Addr}{tx:Ξ},Wk H0 [R,T,B] H2 Y ds tx->H Y=none->Y∈[R,T,B]->NT H0 (upd H2 t' (.tup [V.ref R,V.ref T,V.ref B])) Y ds tx:=fun{Y ds tx} h hy hz=>
    ⟨nT _ _ h.at_,h.rows.same nT,h.nd,s0.free hy,fun d hd=>⟨(h.nw d hd).1,(h.nw d hd).2 Y hz⟩⟩
   exact k t' R T B rs v bs _ (sm.trans nT) al (nt u hR (by simp)) (nt wT fg (by simp)) (nt wB ng (by simp))
end
end K27
end
section
namespace L2
open PySem PySem.Spec PyProof.Rows
section
variable{X:Cx}
def LR{aa:Ψ}{σ:St}{H:Hp}{s:Shared}{l:Addr}{ns:List Int}(I:Inv X aa σ H s)(c:SqL X.K H l (ns.map V.int)):∃a,Reads s.heap (.ref l) (.list (ns.map PyData.int)) a:=by
 obtain⟨d,r,p,_⟩:=I.list c;obtain⟨o,b,hc,n,hd⟩:=p.isList;exact⟨_,.list b hc hd ((PySem.W.ke_carried (intsAre_of r)).reads s.heap)⟩
def LU(ns:List Int):SeqAt.shaped (.list (ns.map PyData.int))=true:=by
 simp[SeqAt.shaped,PyData.canLay0,PySem.W.ke_canLayAll0,PyData.depth,PySem.W.ke_depthAll]
def LV(ns:List Int):(Shape.list .int).has (.list (ns.map PyData.int))=true:=by simp[Shape.has]
def wh(K:Ab):R2:=fun x y H Q=>∃l m ns ms,x=.ref l/\y=.ref m/\SqL K H l (List.map V.int ns)/\SqL K H m (List.map V.int ms)/\Q (.bl (decide (ns=ms))) H
def Rc(hu:X.A.units+64<cLine):cI X (compareOp .Eq) (wh X.K):=by
 intro aa s σ H x y v u Q I a b h;obtain⟨l,m,ns,ms,rfl,rfl,c,d,q⟩:=h;cases a;cases b;obtain⟨a1,e⟩:=LR I c;obtain⟨a2,f⟩:=LR I d;refine eq_dataH_same e f (LU _) (LU _) hu (SeqAt.noMix_of_shape (.list .int) rfl _ _ (LV _) (LV _)) ?_;rw[show same (.list (ns.map PyData.int)) (.list (ms.map PyData.int))=decide (ns=ms) from by simp only[same];exact PySem.W.ke_sameAll ns ms];exact⟨.bl _,H,I,rfl,q⟩
end
end L2
end
section
namespace K27
open PySem L2
abbrev wk:Stmt:=top 38
abbrev wo:Stmt:=top 39
abbrev FZ:Stmt:=top 36
def I0:A9 "enumerate"=some (.type "enumerate"):=δ
def jE{a:Type}(p:Nat->List Int->Bool)(g:Nat->List Int->a)(l:List (List Int×Nat)):List a:=(l.filter fun q=>p q.2 q.1).map fun q=>g q.2 q.1
section
variable{P:Program}{w:World}{K:Ab}{mg:Str->Option Value}{base:Heap}
def LW{H2:Hp}{L D:Addr}{rs:List Addr}{tb:Ξ}{Q:VK}{A:Type}{mkV:A->V}{p:Nat->List Int->Bool}{g:Nat->List Int->A}{tc:TT}{te:TE}{c:List (Option V)}(J:∀(i:Nat)(o:Addr)(os:List Int)(H:Hp)(R:VK)(S:Hp->Prop),Same H2 H->H o=some (.lst (os.map V.int))->os∈tb->(p i os=true->∀H',Same H H'->R (mkV (g i os)) H')->(p i os=false->S H)->tc (some (.int i)::some (.ref o)::c) H fun b u=>if b=true then te (some (.int i)::some (.ref o)::c) u R else S u)(s:SqL K H2 L (rs.map V.ref))(C:Rws H2 rs tb)(hz:tb.length<=1000)(E:H2 D=none)(k:∀d,Same H2 d->d D=some (.lst ((jE p g tb.zipIdx).map mkV))->Q (.ref D) d):cV (oi K L) (cb K 2 (cr (zR 0) (cr (zR 1) b_))) tc te (none::none::c) H2 D Q:=by
 have z:=C.len;refine sJ tb.length (fun j σ ys d=>∃(l q:Option V),σ=l::q::c/\Same H2 d/\d D=some (.lst ys)/\ys=(jE p g (tb.zipIdx.take j)).map mkV) ?_ ?_ ?_ ?_ ?_
 ·exact⟨none,none,rfl,Same.new E,al,rfl⟩
 ·rintro σ ys d ⟨l,q,rfl,sm,f,rfl⟩
  exact⟨_,sm.seq s,by rw[Aa,z]⟩
 ·rintro i σ ys d hi ⟨l,q,rfl,sm,f,rfl⟩
  exact⟨_,sm.seq s,by rw[Aa,z];exact hi⟩
 ·rintro i σ ys d x H' hi hy ⟨l,q,rfl,sm,f,rfl⟩ ⟨pp,y,rfl,M,rfl,F⟩
  have I:=F _ (sm.seq s);obtain⟨a,G,rfl⟩:=l4 I;obtain⟨r,w,hr⟩:=C.get G;have h:=Same.new (o:=.tup [.int i,.ref a]) M;have e:tb.zipIdx[i]?=some (r,i):=by rw[List.getElem?_zipIdx,w];simp
  refine⟨pp,_,rfl,SqT.of al,rfl,_,_,rfl,_,_,rfl,rfl,?_⟩;refine J i a r _ _ _ (sm.trans h) ((sm.trans h) _ _ hr) (An w) (fun hp u v=>?_) (fun hp=>?_)
  ·refine bZ (zm ω) hi hy ((h.trans v) _ _ f) ⟨_,_,rfl,((sm.trans h).trans v).then E,al,?_⟩
   rw[take_snoc e];unfold jE;rw[List.filter_append,Aw,Aw];simp[hp]
  ·refine j9 hi hy ⟨_,_,rfl,sm.trans h,h _ _ f,?_⟩
   rw[take_snoc e];unfold jE;rw[List.filter_append];simp[hp]
 ·rintro σ ys d ⟨l,q,rfl,sm,f,rfl⟩
  rw[Ax (by simp)] at f;exact k d sm f
def c8(tb:Ξ):Bool:=(jE (fun _ _=>true) (fun k r=>decide (r=b0 r k r.length)) tb.zipIdx).all id
def I_:Sp:=fun vs H Q _=>∃L rs tb,vs=[.ref L]/\H L=some (.lst (rs.map V.ref))/\Rws H rs tb/\tb.length<=1000/\(∀r∈tb,r.length<=1000)/\∀H',Same H H'->Q (.bl (c8 tb)) H'
def Re:zl ["table"] ["table"] (zd wk):=⟨rfl,rfl,rfl,δ,rfl,δ,δ⟩
def Rf{f fs:Addr}{fd b:FuncData}(F:Fun K "is_on_slope" "is_on_slope" wk f fd)(G:mg "all"=none)(be:mg "enumerate"=none)(bl:mg "len"=none)(Fs:Fun K "slope_row" "slope_row" vu fs b)(bs:Binds K b ["numbers","k","width"] [])(ms:mg "slope_row"=some (.ref fs))(N:FnOk P w K mg base aJ 1 fs b ["numbers","k","width"] vv):FnOk P w K mg base aJ 2 f fd ["table"] I_:=by
 refine F.ok Re (fun vs H Q E h=>?_) (fun O A outer s H vs Q E hr h=>?_)
 ·obtain⟨L,rs,tb,rfl,_⟩:=h;rfl
 ·obtain⟨L,rs,tb,rfl,e,y,hz,hw,k⟩:=h
  have z:=hr.units;refine⟨_,zf (zo (zj (lF rfl) rfl G lZ (af (zp ["table"] ["k","row"] [none,none] (HP rfl be I0 (af (pv 0) ak))
   (fun c C s₀ H₀ ex=>gG rfl (zJ (zk (i:=0) (bx ["k","row"]) rfl (Or.inl rfl)) (zJ (zk (i:=1) (bx ["k","row"]) rfl (Or.inl rfl)) gF))) (fun c C s₀ H₀ ex=>zz)
   (fun c C s₀ H₀ ex=>eV (Rc z) (pv 1) (ze N hr rfl ms Fs.kp bs .nil ap (af (pv 1) (af (pv 0) (af (zj zi rfl bl cx (af (pv 1) ak)) ak)))) (ar _))
   (te:=cq (wh K) (aC 1) (dD vv [] E0 (zY (aC 1) (zY (aC 0) (zY (k7 (E6 K) (zY (aC 1) bN)) bN))))) (hfr:=bJ δ) (g:=cb K 2 (cr (zR 0) (cr (zR 1) b_)))) ak))),?_⟩
  refine⟨_,rfl,L,rfl,⟨_,SqL.of e⟩,fun D j=>zw (LW (mkV:=V.bl) (p:=fun _ _=>true) (g:=fun k r=>decide (r=b0 r k r.length)) (fun i o os H' R S sm a l q T=>fX ?_) (SqL.of e) y hz j fun I u v=>⟨D,_,rfl,SqL.of v,k I u⟩)⟩;refine⟨_,rfl,_,rfl,_,rfl,_,rfl,o,_,rfl,.inl (SqL.of a),o,os,i,os.length,by rw[Aa];rfl,a,hw os l,fun h=>h,fun J M d U x=>?_⟩;exact⟨o,J,os,_,rfl,rfl,SqL.of (d _ _ a),SqL.of x,q rfl M d⟩
def cy(tb:Ξ):List Int:=jE (fun k r=>decide (k<r.length)&&decide (vc r k≠0)) (fun k r=>vc r k) tb.zipIdx
def Ja:Sp:=fun vs H Q _=>∃L rs tb,vs=[.ref L]/\H L=some (.lst (rs.map V.ref))/\Rws H rs tb/\tb.length<=1000/\kg H Q (cy tb)
def Rg:zl ["table"] ["table"] (zd wo):=⟨rfl,rfl,rfl,δ,rfl,δ,δ⟩
def Rh{f:Addr}{fd:FuncData}(F:Fun K "slope_of" "slope_of" wo f fd)(be:mg "enumerate"=none)(bl:mg "len"=none):FnOk P w K mg base aJ 1 f fd ["table"] Ja:=by
 refine F.ok Rg (fun vs H Q E h=>?_) (fun G A outer s H vs Q E hr h=>?_)
 ·obtain⟨L,rs,tb,rfl,_⟩:=h;rfl
 ·obtain⟨L,rs,tb,rfl,q,y,hz,k⟩:=h
  refine⟨_,zf (zo (zp ["table"] ["k","row"] [none,none] (HP rfl be I0 (af (pv 0) ak))
   (fun c C s₀ H₀ ex=>gG rfl (zJ (zk (i:=0) (bx ["k","row"]) rfl (Or.inl rfl)) (zJ (zk (i:=1) (bx ["k","row"]) rfl (Or.inl rfl)) gF)))
   (fun c C s₀ H₀ ex=>Ki (PW.pt (NG (zx CU (pv 0) (zj zi rfl bl cx (af (pv 1) ak)) (ar _)) (NF (zx dB (zy zB (pv 1) (pv 0) (fun _ _=>rfl)) zb (ar _))))))
   (fun c C s₀ H₀ ex=>zy zB (pv 1) (pv 0) (fun _ _=>rfl)) (te:=cq (gP K) (aC 1) (aC 0)) (tc:=qu (De (cq (fy fun i j=>.bl (decide (i<j))) (aC 0) (k7 (E6 K) (zY (aC 1) bN)))) (De (cq CO (cq (gP K) (aC 1) (aC 0)) (tC (.int 0))))) (hfr:=bJ δ) (g:=cb K 2 (cr (zR 0) (cr (zR 1) b_))))),?_⟩
  refine⟨_,rfl,L,rfl,⟨_,SqL.of q⟩,fun D d=>zw (LW (mkV:=V.int) (p:=fun k r=>decide (k<r.length)&&decide (vc r k≠0)) (g:=fun k r=>vc r k) (fun i o os H' R S sm b I u l=>?_) (SqL.of q) y hz d fun z v x=>k D z v d x)⟩;refine⟨_,rfl,_,rfl,o,_,rfl,.inl (SqL.of b),_,_,rfl,rfl,_,rfl,?_⟩;rw[Aa]
  by_cases c1:i<os.length
  ·rw[decide_eq_true (show((i:Nat):Int)<((os.length:Nat):Int) from ω)]
   refine aT ⟨_,rfl,_,rfl,o,_,_,_,rfl,rfl,SqL.of b,zh (eH c1),rfl,_,rfl,?_⟩
   by_cases a:vc os i=0
   ·rw[show(!decide (V.int (vc os i)=V.int 0))=false by rw[a];rfl]
    exact av (l (by rw[a];simp))
   ·rw[show(!decide (V.int (vc os i)=V.int 0))=true by rw[decide_eq_false (fun e=>a (by injection e))];rfl]
    exact aT ⟨_,rfl,_,rfl,o,_,_,_,rfl,rfl,SqL.of b,zh (eH c1),u (by simp[c1,a]) H' (Same.refl H')⟩
  ·rw[decide_eq_false (show ¬((i:Nat):Int)<((os.length:Nat):Int) from ω)]
   exact av (av (l (by simp[c1])))
def cQ(tb:Ξ):Bool:=c8 tb&&dv (cy tb) tb.length
def LX:Sp:=fun vs H Q _=>∃L rs tb,vs=[.ref L]/\H L=some (.lst (rs.map V.ref))/\Rws H rs tb/\tb.length<=1000/\(∀r∈tb,r.length<=1000)/\∀H',Same H H'->Q (.bl (cQ tb)) H'
def Ri:zl ["table"] ["table"] (zd FZ):=⟨rfl,rfl,rfl,δ,rfl,δ,δ⟩
def Rj{tb:Ξ}:(cy tb).length<=tb.length:=by
 unfold cy jE;rw[Aa];exact Ag (List.length_filter_le _ _) (by simp)
def Rk{f fo fs fa:Addr}{fd i j l:FuncData}(F:Fun K "is_in_steps" "is_in_steps" FZ f fd)(bl:mg "len"=none)(Fo:Fun K "is_on_slope" "is_on_slope" wk fo i)(r:Binds K i ["table"] [])(u:mg "is_on_slope"=some (.ref fo))(z:FnOk P w K mg base aJ 2 fo i ["table"] I_)(Fs:Fun K "slope_of" "slope_of" wo fs j)(bs:Binds K j ["table"] [])(ms:mg "slope_of"=some (.ref fs))(C:FnOk P w K mg base aJ 1 fs j ["table"] Ja)(Fa:Fun K "are_steps" "are_steps" vV fa l)(v:Binds K l ["steps","most"] [])(x:mg "are_steps"=some (.ref fa))(G:FnOk P w K mg base aJ 1 fa l ["steps","most"] IY):FnOk P w K mg base aJ 3 f fd ["table"] LX:=by
 refine F.ok Ri (fun vs H Q E h=>?_) (fun I A outer s H vs Q E hr h=>?_)
 ·obtain⟨L,rs,tb,rfl,_⟩:=h;rfl
 ·obtain⟨L,rs,tb,rfl,d,g,hz,hw,k⟩:=h
  have b:Room 1 _:=hr.mono ξ;refine⟨_,zf (zo (G3 (ze z hr rfl u Fo.kp r .nil ap (af (pv 0) ak)) (BQ (ze G b rfl x Fa.kp v .nil ap (af (ze C b rfl ms Fs.kp bs .nil ap (af (pv 0) ak)) (af (zj zi rfl bl cx (af (pv 0) ak)) ak)))))),?_⟩;refine⟨_,rfl,L,rs,tb,rfl,d,g,hz,hw,fun H1 a=>⟨_,rfl,?_⟩⟩;have q:=g.len;cases c:c8 tb with
  |false=>
   have e:cQ tb=false:=by unfold cQ;rw[c];rfl
   rw[e] at k;exact av (k H1 a)
  |true=>
   refine aT ⟨_,rfl,L,rs,tb,rfl,a _ _ d,g.same a,hz,fun D H2 o J e2=>⟨_,rfl,L,_,rfl,.inl (SqL.of ((a.trans o) _ _ d)),D,cy tb,_,rfl,e2,Ag Rj hz,fun y p=>?_⟩⟩;have e:cQ tb=dv (cy tb) (tb.length:Int):=by unfold cQ;rw[c];rfl
   rw[e] at k;rw[Aa,q];exact k y ((a.trans o).trans p)
end
end K27
end
section
namespace Tb
def Bd.mono{N M X B d i j:Nat}{R:List Vc}(h:Bd N M X B R)(u:M<=d)(v:X<=i)(w:B<=j):Bd N d i j R:=
 ⟨h.ind,fun P f e s r g l=>by
  obtain⟨a,b,c⟩:=h.bd P f e s r g l;exact⟨fun p hp=>Ag (a p hp) w,fun r hr p hp=>Ag (b r hr p hp) u,fun o V hc q x hx=>Ag (c o V hc q x hx) (Ak _ (Ak _ v))⟩⟩
def Tri.row{k r w M g N X B:Nat}{ρ f:Nat->Vc}{Q:Nat->Nat}{P:List Nat}(T:Tri k r w M g ρ Q){i:Nat}(hi:i<k)(F:FS N M X B ((Ah i).map ρ) P f):∀p∈P,(ρ i p).natAbs<=M:=fun p hp=>by
 have e:=T.places ω F.ech F.srt (fun p hp=>(F.fr p hp).sp) (by rw[F.len];simp);rw[e] at hp;refine T.rows_le (j:=i+1) ω ω ?_;unfold pl at hp ⊢;rcases List.mem_append.mp hp with h|h
 ·exact AY _ (List.mem_range.mpr (by have:=List.mem_range.mp h;(first|lia|omega)))
 ·obtain⟨a,b,rfl⟩:=List.mem_map.mp h
  exact Ay _ (List.mem_map.mpr ⟨a,List.mem_range.mpr (by have:=List.mem_range.mp b;(first|lia|omega)),rfl⟩)
def xW(N b:Nat):Nat:=1+2*b+(2+2*b)*N
def xK(N n m x b:Nat):Nat:=2+(n+(m+(b+1)*N+(n+(b+x))))
def xE(N n m x b:Nat):Nat:=1+(n+(n+(xK N n m x b+(2+b+n+xW N b)*N+m)+(b+1)*N+(n+(b+x))))
def pw{a b:Nat}(h:a<=b):2 ^ a<=2 ^ b:=AC ξ h
def zC{x y a b:Nat}(h1:x<=2 ^ a)(h2:y<=2 ^ b):x*y<=2 ^ (a+b):=by rw[Nat.pow_add];exact AQ h1 h2
def Rl{b:Nat}:1+2 ^ b<=2 ^ (b+1):=by have:=AR (n:=b);rw[Nat.pow_succ];(first|lia|omega)
def F0{x y a:Nat}(h1:x<=2 ^ a)(h2:y<=2 ^ a):x+y<=2 ^ (1+a):=by rw[Nat.add_comm 1,Nat.pow_succ];(first|lia|omega)
section
variable{N n m x b:Nat}
def mH(a:N<=2 ^ n):cC N (2 ^ x) (2 ^ b)<=2 ^ (n+(b+x)):=zC a (zC (Af _) (Af _))
def jF:(1+2 ^ b) ^ N<=2 ^ ((b+1)*N):=by rw[Nat.pow_mul];exact Nat.pow_le_pow_left Rl _
def Rm:cW N (2 ^ b)<=2 ^ xW N b:=by
 unfold cW xW;have e:2*2 ^ b*2 ^ b=2 ^ (1+2*b):=by
  have h:2*b=b+b:=ω
  rw[h,Nat.pow_add,Nat.pow_add,Nat.pow_one,AO]
 rw[e];refine zC (Af _) ?_;have:=jF (N:=N) (b:=1+2*b)
 rwa [show 1+2*b+1=2+2*b from ω] at this
def Rn(h1:1<=N)(c:N<=2 ^ n):cG N (2 ^ b)<=2 ^ (2+b+n+xW N b):=by
 unfold cG;have h2:2*2 ^ b<=2 ^ (1+b):=by rw[Nat.pow_add];exact Af _
 have a:1+N*cW N (2 ^ b)<=2 ^ (1+(n+xW N b)):=F0 (AR) (zC c Rm);have:=zC h2 a
 rwa [show 1+b+(1+(n+xW N b))=2+b+n+xW N b from ω] at this
def Ro(a:N<=2 ^ n):cK N (2 ^ m) (2 ^ x) (2 ^ b)<=2 ^ xK N n m x b:=by
 unfold cK xK;have h1:=mH (x:=x) (b:=b) a;have h2:N*(2 ^ m*(1+2 ^ b) ^ N*cC N (2 ^ x) (2 ^ b))<=2 ^ (n+(m+(b+1)*N+(n+(b+x)))):=zC a (zC (zC (Af _) jF) h1);have c:1+cC N (2 ^ x) (2 ^ b)<=2 ^ (1+(n+(m+(b+1)*N+(n+(b+x))))):=F0 AR (Ag h1 (pw ω));have:=F0 c (Ag h2 (pw (Nat.le_add_left _ 1)))
 rwa [<-Nat.add_assoc] at this
def Rp(h1:1<=N)(a:N<=2 ^ n):cE N (2 ^ m) (2 ^ x) (2 ^ b)<=2 ^ xE N n m x b:=by
 have c:cM N (2 ^ m) (2 ^ x) (2 ^ b)<=2 ^ (xK N n m x b+(2+b+n+xW N b)*N):=by
  unfold cM;refine zC (Ro a) ?_;rw[Nat.pow_mul];exact Nat.pow_le_pow_left (Rn h1 a) _
 unfold cE xE;refine F0 (Ag c (pw ω)) ?_;exact zC a (zC (zC (zC a (zC c (Af _))) jF) (mH a))
def Rq{e x' b':Nat}(h1:m<=e)(h2:x<=x')(f:b<=b'):xE N n m x b<=xE N n e x' b':=by
 unfold xE xK xW;have a:(b+1)*N<=(b'+1)*N:=Al _ ω;have c:(2+2*b)*N<=(2+2*b')*N:=Al _ ω;have d:(2+b+n+(1+2*b+(2+2*b)*N))*N<=(2+b'+n+(1+2*b'+(2+2*b')*N))*N:=Al _ ω;(first|lia|omega)
end
section
variable{A T U V T' U' V':Nat->Vc}{k w r D bU bV g:Nat}{Bn Bf:List Vc}{QU QV:Nat->Nat}
def iW{n:Nat}{W W':Nat->Vc}(h:∀i,i<n->W i=W' i):tl n W=tl n W':=A7 fun i hi=>h i (List.mem_range.mp hi)
def Ker.cg{n b:Nat}{W W':Nat->Vc}{Q:Nat->Nat}(hr:r<=n)(K:Ker n r g b W Q)(h:∀i,i<n->W i=W' i):Ker n r g b W' Q:=
 ⟨K.qs,fun a u d hu=>by rw[<-h _ ω];exact K.kz a u d hu,fun a d=>by rw[<-h _ ω];exact K.kp a d,fun a c h1 h2=>by rw[<-h _ ω,<-h _ ω];exact K.kq a c h1 h2,fun i a hi d=>by rw[<-h i ω,<-h _ ω];exact K.tq i a hi d,fun a d=>by rw[<-h _ ω];exact K.km a d⟩
def LI.cg(I:LI A k w r D bU bV g T U V Bn Bf QU QV)(a:∀u i,u<w->i<k->T u i=T' u i)(b:∀i,i<k->U i=U' i)(c:∀u,u<w->V u=V' u):LI A k w r D bU bV g T' U' V' Bn Bf QU QV:=by
 have rk:=I.rk;have d:=I.rw;refine⟨rk,d,I.g1,fun u i hu hi=>?_,?_,?_,I.ku.cg rk b,I.kv.cg d c,fun u hu=>?_,fun u i hu hi=>?_,fun u i h1 h2=>?_,fun u i hu hi h=>?_,fun m e=>?_⟩
 ·rw[<-a u i hu hi,<-b i hi,<-c u hu];exact I.bl u i hu hi
 ·rw[<-iW b];exact I.bu
 ·rw[<-iW c];exact I.bv
 ·rw[<-a u u ω ω];exact I.tp u hu
 ·rw[<-a u i ω ω];exact I.tz u i hu hi
 ·rw[<-a u i ω ω,<-a i i ω ω];exact I.tr u i h1 h2
 ·rw[<-a u i hu hi];exact I.to u i hu hi h
 ·rw[<-iR fun i hi=>a i i ω ω];exact I.pd m e
def LI.small(I:LI A k w r D bU bV g T U V Bn Bf QU QV){u i:Nat}(hu:u<w)(hi:i<k):(T u i).natAbs<=D:=by
 have rk:=I.rk;have a:=I.rw
 by_cases h:r<=u\/r<=i
 ·rw[I.to u i hu hi h];exact Ar _
 ·rcases Nat.lt_trichotomy u i with g|g|g
  ·have:=I.tr u i g ω
   have:=I.diag_le (i:=i) ω;(first|lia|omega)
  ·subst g;exact I.diag_le ω
  ·rw[I.tz u i ω g];exact Ar _
def LM.small{S:Nat->Vc}(I:LM A k w r D bU bV g S U V Bn Bf QU QV){u i:Nat}(hu:u<w)(hi:i<k):(S i u).natAbs<=D:=by
 have rk:=I.rk;have a:=I.rw
 by_cases h:r<=u
 ·have:=I.sl.z u i h hu hi
  have this:S i u=0:=this;rw[this];exact Ar _
 ·rcases Nat.lt_trichotomy u i with g|g|g
  ·have this:S i u=0:=I.sl.tz u i ω g hi
   rw[this];exact Ar _
  ·subst g;exact I.diag_le ω
  ·have this:(S i u).natAbs<=(S u u).natAbs:=I.sl.tl u i ω g
   exact Ag this (I.diag_le ω)
def Dg.cg(h:Dg r T)(rk:r<=k)(rw:r<=w)(a:∀u i,u<w->i<k->T u i=T' u i):Dg r T':=fun u i hu hi ne=>by rw[<-a u i ω ω];exact h u i hu hi ne
def LY:∀r,(∀i,i<r->T i i=T' i i)->mu T r=mu T' r
 |0,_=>rfl
 |r+1,h=>by
  show mu T r+_=mu T' r+_;rw[LY r fun i hi=>h i ω,iR fun i hi=>h i hi]
def Rr(h:∀u i,u<r->i<r->T u i=T' u i):ms r T=ms r T':=by
 unfold ms;rw[LY r fun i hi=>h i i hi hi];have:Dg r T↔Dg r T':=⟨fun d u i hu hi ne=>by rw[<-h u i hu hi];exact d u i hu hi ne,fun d u i hu hi ne=>by rw[h u i hu hi];exact d u i hu hi ne⟩
 by_cases c:Dg r T
 ·rw[if_pos c,if_pos (this.mp c)]
 ·rw[if_neg c,if_neg fun z=>c (this.mpr z)]
end
end Tb
end
section
namespace K27
open PySem L2
def fn(tb:Ξ):Nat->Tb.Vc:=fun i=>vc (rowAt tb i)
def zI{tb:Ξ}{i:Nat}{r:List Int}(h:tb[i]?=some r):rowAt tb i=r:=by unfold rowAt;rw[Ad,h];rfl
def zG{tb:Ξ}{i:Nat}(h:i<tb.length):rowAt tb i∈tb:=by rw[zI (Ac h)];exact AB _
def ws{tb:Ξ}{i:Nat}(h:tb.length<=i):rowAt tb i=[]:=by unfold rowAt;rw[Ad,List.getElem?_eq_none h];rfl
def F7{tb:Ξ}{r:List Int}(h:r∈tb):∃i,i<tb.length/\rowAt tb i=r:=by
 obtain⟨i,hi,rfl⟩:=A8 h;exact⟨i,hi,zI (Ac hi)⟩
def jL{l:List Int}{u:Nat}(h:u<l.length):vc l u=l[u]:=by unfold vc;rw[Ad,Ac h];rfl
def Rs{a b:List Int}{m u:Nat}(h:a.length=m):vc (a++b) u=if u<m then vc a u else vc b (u-m):=by
 unfold vc;rw[Ad,Ad,Ad]
 by_cases c:u<m
 ·rw[if_pos c,List.getElem?_append_left ω]
 ·rw[if_neg c,List.getElem?_append_right ω,h]
def Rt{a:List Int}{m u:Nat}:vc (a.take m) u=if u<m then vc a u else 0:=by
 unfold vc;rw[Ad,Ad,List.getElem?_take];split<;>rfl
def Ru{a:List Int}{m u:Nat}:vc (a.drop m) u=vc a (m+u):=by
 unfold vc;rw[Ad,Ad,List.getElem?_drop]
def LZ{tb:Ξ}{n:Nat}(h:tb.length=n):tb.map vc=Tb.tl n (fn tb):=by
 unfold Tb.tl;apply AZ
 ·simp[h]
 ·intro i h1 h2
  rw[AS,AS,A5];show _=vc (rowAt tb i);rw[Aa] at h1;rw[zI (Ac h1)]
section
variable{tb ub:Ξ}{m n:Nat}
def mJ(a:tb.length=n)(b:ub.length=n):(cat tb ub).length=n:=by unfold cat;rw[AE,a,b,Nat.min_self]
def L3(a:tb.length=n)(b:ub.length=n){i:Nat}(hi:i<n):rowAt (cat tb ub) i=rowAt tb i++rowAt ub i:=by
 have h1:=Ac (show i<tb.length from ω);have h2:=Ac (show i<ub.length from ω);rw[zI h1,zI h2];refine zI ?_;unfold cat;rw[List.getElem?_zipWith,h1,h2]
def Jb(a:tb.length=n)(b:ub.length=n)(c:∀r∈tb,r.length=m){i:Nat}(hi:i<n):fn (cat tb ub) i=Tb.glue m (fn tb) (fn ub) i:=funext fun u=>by
 unfold fn Tb.glue;rw[L3 a b hi,Rs (c _ (zG ω))]
def F_(a:tb.length=n)(b:ub.length=n)(c:∀r∈tb,r.length=m):(cat tb ub).map vc=Tb.tl n (Tb.glue m (fn tb) (fn ub)):=by
 rw[LZ (mJ a b)];exact Tb.iW fun i hi=>Jb a b c hi
def Rv{ρ:Nat->Tb.Vc}{i:Nat}(h:i<=n):(Tb.tl n ρ).take i=Tb.tl i ρ:=by
 unfold Tb.tl;rw[<-List.map_take,List.take_range,Nat.min_eq_left h]
def L4(a:tb.length=n)(b:ub.length=n)(c:∀r∈tb,r.length=m){i:Nat}(hi:i<=n):((cat tb ub).take i).map vc=Tb.tl i (Tb.glue m (fn tb) (fn ub)):=by
 rw[List.map_take,F_ a b c,Rv hi]
end
def Jc{fr:Nat->List Int}{W:Nat}:∀{ps:List Nat}{rn:List Int},rn.length=W->(∀p∈ps,(fr p).length=W)->shrL fr rn ps=Tb.shr (vF fr) ps (vc rn)
 |[],_,_,_=>rfl
 |p::ps,rn,h,h2=>by
  have hp:=h2 p (AF ..);show _::shrL fr (cP fr rn p) ps=_::Tb.shr (vF fr) ps (Tb.step (vF fr) p (vc rn));rw[Jc (ps:=ps) (Ih h hp) fun q hq=>h2 q (AD _ hq),KY ω]
  rfl
structure Side(N M X B Y m n:Nat)(tb ub bb:Ξ):Prop where
 l1:tb.length=n
 l2:ub.length=n
 l3:bb.length=n
 w1:∀r∈tb,r.length=m
 w2:∀r∈ub,r.length=n
 w3:∀r∈bb,r.length=n
 n40:n<=40
 m40:m<=40
 nN:n<=N
 N1:1<=N
 N64:N<64
 bd:∀j,j<=n->Tb.Bd N M X B (Tb.tl j (Tb.glue m (fn tb) (fn ub)))
 row:∀i,i<n->∀P f,Tb.FS N M X B (Tb.tl i (Tb.glue m (fn tb) (fn ub))) P f->∀p∈P,(Tb.glue m (fn tb) (fn ub) i p).natAbs<=M
 hY:∀i,i<n->∀u,(Tb.glue m (fn tb) (fn ub) i u).natAbs<=Y
 B1:1<=B
 X1:1<=X
 Y1:1<=Y
 piv:B<2 ^ 9000
 lim:N*(Tb.cE N M X B*Y)<big
 bk:∀r∈bb,∀x∈r,x.natAbs<big
section
variable{N M X B Y m n:Nat}{tb ub bb:Ξ}
def Side.lenW(S:Side N M X B Y m n tb ub bb):∀r∈cat tb ub,r.length=m+n:=fun r hr=>by
 obtain⟨i,hi,rfl⟩:=F7 hr;rw[mJ S.l1 S.l2] at hi;rw[L3 S.l1 S.l2 hi,AJ,S.w1 _ (zG (by rw[S.l1];exact hi)),S.w2 _ (zG (by rw[S.l2];exact hi))]
def Side.mem(S:Side N M X B Y m n tb ub bb):∀r∈cat tb ub,∃i,i<n/\vc r=Tb.glue m (fn tb) (fn ub) i:=fun r hr=>by
 obtain⟨i,hi,rfl⟩:=F7 hr;rw[mJ S.l1 S.l2] at hi;exact⟨i,hi,Jb S.l1 S.l2 S.w1 hi⟩
def Side.cC1(S:Side N M X B Y m n tb ub bb):1<=Tb.cC N X B:=Nat.mul_pos S.N1 (Nat.mul_pos S.B1 S.X1)
def Side.cK_le(S:Side N M X B Y m n tb ub bb):N*(Tb.cK N M X B*Y)<big:=
 Aq (Ak _ (Al _ (Ag (Tb.IN S.B1) Tb.pT))) S.lim
def Side.at(S:Side N M X B Y m n tb ub bb){P:List Nat}{f:Nat->Tb.Vc}(F:Tb.FS N M X B ((cat tb ub).map vc) P f):∀r∈cat tb ub,∀p∈P,(vc r p).natAbs<=M:=by
 rw[F_ S.l1 S.l2 S.w1] at F;have h:=((S.bd n (Af _)).bd P f F.ech F.srt F.gen (fun p hp=>(F.fr p hp).sp) F.len).2.1;intro r hr p hp;refine h (vc r) ?_ p hp;obtain⟨i,hi,e⟩:=S.mem r hr;rw[e];exact List.mem_map.mpr ⟨i,List.mem_range.mpr hi,rfl⟩
def Rw{R:List Tb.Vc}{P:List Nat}{f:Nat->Tb.Vc}(F:Tb.FS N M X B R P f):∀p∈P,∀q∈P,(f p q).natAbs<=B:=fun p hp q hq=>by
 rcases Nat.lt_trichotomy p q with h|h|h
 ·have:=F.red p hp q hq h
  have:=F.piv q hq;(first|lia|omega)
 ·subst h;exact F.piv p hp
 ·rw[F.ech.z p hp q h];exact Ar _
def Side.shr_le(S:Side N M X B Y m n tb ub bb){P:List Nat}{fr:Nat->List Int}(F:Tb.FS N M X B ((cat tb ub).map vc) P (vF fr))(b:Wid (m+n) P fr):∀r∈cat tb ub,∀x∈shrL fr r P,x.natAbs<=M*2 ^ n:=by
 intro r hr x hx;rw[Jc (S.lenW r hr) fun p hp=>(b.row p hp).2] at hx;have a:P.length=n:=by rw[F.len,Aa,mJ S.l1 S.l2]
 have:=Tb.Ql F.ech F.srt F.red (F.gen (vc r) (List.mem_map.mpr ⟨r,hr,rfl⟩)) (V:=M) (fun p hp=>Ag (S.at F r hr p hp) (Nat.le_mul_of_pos_right _ (by have:=F.ech.pos p hp;(first|lia|omega)))) x hx
 rwa [a] at this
def Side.ok(S:Side N M X B Y m n tb ub bb):LN N M X B Y m n tb ub bb:=by
 have a:=mJ S.l1 S.l2;have l:∀r∈(cat tb ub).map vc,∀u,(r u).natAbs<=Y:=fun r hr u=>by
  obtain⟨q,hq,rfl⟩:=List.mem_map.mp hr;obtain⟨i,hi,e⟩:=S.mem q hq;rw[e];exact S.hY i hi u
 refine⟨S.l1,S.l2,S.l3,S.w1,S.w3,S.n40,by have:=S.m40;(first|lia|omega),S.w2,⟨by have:=S.m40;have:=S.n40;(first|lia|omega),by rw[a];exact S.nN,S.lenW,fun i hi=>?_,fun i r hr P f F p hp=>?_⟩,fun P fr F b r hr=>?_,fun P fr F b r hr x hx row g y hy=>?_⟩
 ·rw[a] at hi
  rw[L4 S.l1 S.l2 S.w1 ω];refine⟨S.B1,S.piv,S.lim,fun r hr u=>?_,S.N64,S.bd (i+1) ω⟩;obtain⟨j,h,rfl⟩:=List.mem_map.mp hr;exact S.hY j (by have:=List.mem_range.mp h;(first|lia|omega)) u
 ·have hi:i<n:=by have:=(List.getElem?_eq_some_iff.mp hr).1;rwa [a] at this
  rw[L4 S.l1 S.l2 S.w1 ω] at F;have:=S.row i hi P f F p hp
  rwa [<-Jb S.l1 S.l2 S.w1 hi,fn,zI hr] at this
 ·have d:P.length=n:=by rw[F.len,Aa,a]
  have c:((cat tb ub).map vc).length<=N:=by rw[Aa,a];exact S.nN
  have e1:1+P.length*(M*(1+B) ^ P.length*Tb.cC N X B)<=Tb.cK N M X B:=by
   unfold Tb.cK;have:P.length*(M*(1+B) ^ P.length*Tb.cC N X B)<=N*(M*(1+B) ^ N*Tb.cC N X B):=AQ (by rw[d];exact S.nN) (Al _ (Ak _ (AC ω (by rw[d];exact S.nN))));(first|lia|omega)
  refine Qb (C:=1) (CF:=Tb.cC N X B) (V:=M) (VF:=B) l c F.fr (Rw F) F.ech.pos (fun p hp=>Aq (F.piv p hp) S.piv) b (S.lenW r hr) (Tb.Rep.mem (List.mem_map.mpr ⟨r,hr,rfl⟩)) (fun q hq=>S.at F r hr q hq) (fun p hp=>hp) ?_ ?_
  ·exact Aq (Ak _ (Al _ e1)) S.cK_le
  ·refine Aq (Ak _ (Al _ ?_)) S.cK_le
   unfold Tb.cK;(first|lia|omega)
 ·have h1:=S.shr_le F b r hr x hx
  refine gs ?_ (S.bk row g y hy);rw[Int.natAbs_neg];refine Aq h1 (Aq ?_ S.cK_le);have a1:2 ^ n<=(1+B) ^ N:=Ag (Nat.pow_le_pow_left (by have:=S.B1;(first|lia|omega)) _) (AC ω S.nN);have a2:M*2 ^ n<=M*(1+B) ^ N*Tb.cC N X B:=Ag (Ak _ a1) (Nat.le_mul_of_pos_right _ S.cC1);have a3:M*2 ^ n<=Tb.cK N M X B:=by
   unfold Tb.cK;have:=Nat.le_mul_of_pos_left (M*(1+B) ^ N*Tb.cC N X B) S.N1;(first|lia|omega)
  exact Ag a3 (Ag (Nat.le_mul_of_pos_right _ S.Y1) (Nat.le_mul_of_pos_left _ S.N1))
end
def L5{w:Nat}:∀{ns:List Int}{tb:Ξ}{l:List Int},l.length=w->(∀r∈tb,r.length=w)->∀u,vc ((ns.zip tb).foldl cp l) u=vc l u+Tb.cmb ns (tb.map vc) u
 |[],tb,l,_,_,u=>by cases tb<;>(show vc l u=vc l u+0;(first|lia|omega))
 |_::_,[],l,_,_,u=>by show vc l u=vc l u+0;(first|lia|omega)
 |x::ns,r::tb,l,hl,h,u=>by
  have hr:=h r (AF ..);show vc ((ns.zip tb).foldl cp (cp l (x,r))) u=vc l u+(x*vc r u+Tb.cmb ns (tb.map vc) u);rw[L5 (LG hl hr) (fun r hr=>h r (AD _ hr)) u];have:vc (cp l (x,r)) u=vc l u - -x*vc r u:=by
   unfold cp c7;rw[FO (by simp) (show l.length=r.length from ω)]
  rw[this,Int.neg_mul];(first|lia|omega)
def L6{w u:Nat}:vc (Am w 0) u=0:=by
 unfold vc;rw[Ad,List.getElem?_replicate];split<;>rfl
def Rx{w:Nat}{ns:List Int}{tb:Ξ}(h:∀r∈tb,r.length=w):vc (fZ w ns tb)=Tb.cmb ns (tb.map vc):=funext fun u=>by
 unfold fZ;rw[L5 (AM) h u,L6];(first|lia|omega)
def Ry{w:Nat}{ns:List Int}{tb:Ξ}(h:∀r∈tb,r.length=w):(fZ w ns tb).length=w:=
 IS AM fun z hz=>h z.2 (List.of_mem_zip hz).2
def Ent(tb:Ξ)(K:Nat):Prop:=∀i u,(fn tb i u).natAbs<=K
def Ent.mem{tb:Ξ}{K:Nat}(h:Ent tb K):∀r∈tb,∀x∈r,x.natAbs<=K:=fun r hr x hx=>by
 obtain⟨i,_,rfl⟩:=F7 hr;obtain⟨u,_,rfl⟩:=FP hx;exact h i u
def Ent.mono{tb:Ξ}{K a:Nat}(h:Ent tb K)(hk:K<=a):Ent tb a:=fun i u=>Ag (h i u) hk
def p3{tb:Ξ}{K n:Nat}(a:tb.length=n)(h:∀i,i<n->∀u,(fn tb i u).natAbs<=K):Ent tb K:=fun i u=>by
 by_cases c:i<n
 ·exact h i c u
 ·unfold fn
  rw[ws ω];exact Ar _
def L7{P:List Nat}{g:Nat->List Int}{i:Nat}(h:i<P.length):rowAt (P.map g) i=g (Tb.pp P i):=by
 refine zI ?_;unfold Tb.pp;rw[Aj,Ad,Ac h]
 rfl
def ww{n:Nat}{g:Nat->List Int}{i:Nat}(h:i<n):rowAt ((Ah n).map g) i=g i:=zI (by rw[Aj,AU h];rfl)
def eL{n:Nat}{T:Ξ}{i:Nat}(h:i<n)(u:Nat):fn ((Ah n).map (colAt T)) i u=fn T u i:=by
 unfold fn;rw[ww h]
 by_cases c:u<T.length
 ·rw[zI (Ac c)]
  unfold colAt;show List.getD _ _ _=_;rw[Ad,Aj,Ac c]
  rfl
 ·rw[ws ω]
  show List.getD _ _ _=_;unfold colAt;rw[Ad,Aj,List.getElem?_eq_none ω]
  rfl
def zZ{n:Nat}{T:Ξ}:((Ah n).map (colAt T)).length=n:=by simp
def jO{n w:Nat}{T:Ξ}(h:T.length=w):∀r∈(Ah n).map (colAt T),r.length=w:=fun r hr=>by
 obtain⟨j,_,rfl⟩:=List.mem_map.mp hr;unfold colAt;rw[Aa,h]
def p4{n i:Nat}(h:i<n):fn (unT n) i=Tb.un i:=funext fun t=>by
 unfold fn unT slpT;rw[ww h];unfold b0 Tb.un Tb.dl vc;rw[AM,if_pos h,Ad,List.getElem?_set,Ad,List.getElem?_replicate,if_pos h]
 by_cases c:i=t
 ·rw[if_pos c,if_pos c,AM,if_pos h];rfl
 ·rw[if_neg c,if_neg c,List.getElem?_replicate]
  split<;>rfl
def F'{n:Nat}:(unT n).length=n:=by unfold unT slpT;simp
def mM{n:Nat}:∀r∈unT n,r.length=n:=fun r hr=>by
 unfold unT slpT at hr;obtain⟨j,_,rfl⟩:=List.mem_map.mp hr;unfold b0;split<;>simp
section
variable{N M X B Y m n:Nat}{tb ub bb:Ξ}{P:List Nat}{fr:Nat->List Int}
structure Done(N M X B m n:Nat)(tb ub bb:Ξ)(P:List Nat)(fr:Nat->List Int)(kG eg ke:Ξ):Prop where
 fs:Tb.FS N M X B (Tb.tl n (Tb.glue m (fn tb) (fn ub))) P (vF fr)
 lP:P.length=n
 l1:kG.length=n
 l2:eg.length=n
 l3:ke.length=n
 w1:∀r∈kG,r.length=m
 w2:∀r∈eg,r.length=n
 w3:∀r∈ke,r.length=n
 f1:∀i u,i<n->u<m->fn kG i u=vF fr (Tb.pp P i) u
 f2:∀i,i<n->fn eg i=fun t=>vF fr (Tb.pp P i) (m+t)
 f3:Tb.tl n (fn ke)=Tb.mx n ((Tb.tl n (Tb.glue m (fn tb) (fn ub))).map fun r=>Tb.shr (vF fr) P r) (Tb.tl n (fn bb))
 e2:∀{a:Nat},Ent ub a->Ent eg (N*(Tb.cC N X B*a))
 e3:∀{b:Nat},Ent bb b->Ent ke (N*(M*2 ^ N*b))
def Side.done(S:Side N M X B Y m n tb ub bb)(F:Tb.FS N M X B ((cat tb ub).map vc) P (vF fr))(f:Wid (m+n) P fr):Done N M X B m n tb ub bb P fr (P.map fun p=>(fr p).take m) (P.map fun p=>(fr p).drop m) (iV n ((cat tb ub).map fun r=>shrL fr r P) bb):=by
 have w:=S.shr_le F f;have g:=F;rw[F_ S.l1 S.l2 S.w1] at g;have d:P.length=n:=by rw[F.len,Aa,mJ S.l1 S.l2]
 have f2:∀i,i<n->fn (P.map fun p=>(fr p).drop m) i=fun t=>vF fr (Tb.pp P i) (m+t):=fun i hi=>funext fun t=>by
  unfold fn;rw[L7 ω,Ru]
  rfl
 have h:(iV n ((cat tb ub).map fun r=>shrL fr r P) bb).length=n:=by unfold iV;simp
 have l:∀j,j<n->fn (iV n ((cat tb ub).map fun r=>shrL fr r P) bb) j=Tb.cmb (colAt ((cat tb ub).map fun r=>shrL fr r P) j) (bb.map vc):=fun j c=>by
  unfold fn iV;rw[ww c,Rx S.w3]
 refine⟨g,d,by rw[Aa,d],by rw[Aa,d],h,fun r hr=>?_,fun r hr=>?_,fun r hr=>?_,fun i u hi hu=>?_,f2,?_,fun{a} o=>?_,fun{b} hb=>?_⟩
 ·obtain⟨p,hp,rfl⟩:=List.mem_map.mp hr
  rw[List.length_take,(f.row p hp).2];(first|lia|omega)
 ·obtain⟨p,hp,rfl⟩:=List.mem_map.mp hr
  rw[List.length_drop,(f.row p hp).2];(first|lia|omega)
 ·unfold iV at hr
  obtain⟨j,_,rfl⟩:=List.mem_map.mp hr;exact Ry S.w3
 ·unfold fn
  rw[L7 ω,Rt,if_pos hu]
  rfl
 ·have e:Tb.tl n (fn (iV n ((cat tb ub).map fun r=>shrL fr r P) bb))=(Ah n).map fun j=>Tb.cmb (colAt ((cat tb ub).map fun r=>shrL fr r P) j) (bb.map vc):=A7 fun j c=>l j (List.mem_range.mp c)
  rw[e];unfold Tb.mx;refine A7 fun j _=>funext fun s=>?_;rw[LZ S.l3];have e2:(Tb.tl n (Tb.glue m (fn tb) (fn ub))).map (fun r=>Tb.shr (vF fr) P r)=(cat tb ub).map fun r=>shrL fr r P:=by
   rw[<-F_ S.l1 S.l2 S.w1,AT];exact A7 fun r hr=>(Jc (S.lenW r hr) fun p hp=>(f.row p hp).2).symm
  rw[e2]
  rfl
 ·refine p3 (n:=n) (by rw[Aa,d]) fun i hi u=>?_
  rw[f2 i hi];exact Tb.Qm g (fun i t hi=>o i t) _ (Tb.pQ d hi) u
 ·refine p3 h fun j c u=>?_
  rw[l j c];have z:(colAt ((cat tb ub).map fun r=>shrL fr r P) j).length=(bb.map vc).length:=by unfold colAt;rw[Aa,Aa,Aa,mJ S.l1 S.l2,S.l3]
  have A:Tb.Rep (bb.map vc) (M*2 ^ n) (Tb.cmb (colAt ((cat tb ub).map fun r=>shrL fr r P) j) (bb.map vc)):=by
   refine⟨_,z,fun u=>rfl,fun x hx=>?_⟩;unfold colAt at hx;rw[AT] at hx;obtain⟨r,hr,rfl⟩:=List.mem_map.mp hx;show((shrL fr r P).getD j 0).natAbs<=_;rw[Ad];cases e:(shrL fr r P)[j]? with
   |none=>exact Ar _
   |some y=>exact w r hr y (An e)
  have:=A.le (u:=u) (M:=b) fun v q=>by
   obtain⟨r,hr,rfl⟩:=List.mem_map.mp q;obtain⟨i,_,rfl⟩:=F7 hr;exact hb i u
  refine Ag this (AQ (by rw[Aa,S.l3];exact S.nN) (Al _ (Ak _ (Tb.pw S.nN))))
end
end K27
end
section
namespace Tb
def Ker.mono{n r g g' b:Nat}{W:Nat->Vc}{Q:Nat->Nat}(K:Ker n r g b W Q)(h:g<=g'):Ker n r g' b W Q:=⟨K.qs,K.kz,K.kp,K.kq,fun i a hi c=>Ag (K.tq i a hi c) (Al _ h),K.km⟩
def LM.mono{A S U V:Nat->Vc}{k w r D bU bV g g':Nat}{Bn Bf:List Vc}{QU QV:Nat->Nat}(I:LM A k w r D bU bV g S U V Bn Bf QU QV)(h:g<=g'):LM A k w r D bU bV g' S U V Bn Bf QU QV:=⟨I.rk,I.rw,Ag I.g1 h,I.bl,I.bu,I.bv,I.ku.mono h,I.kv,I.sl,I.pd⟩
end Tb
namespace K27
open PySem L2
def x1(N n m:Nat):Nat:=(1+n+m)*N
def dd(N n m:Nat):Nat:=(2+n+m)*N
def be(N n m:Nat):Nat:=n+m+dd N n m
def m2(N n m:Nat):Nat:=2*n+be N n m+x1 N n m+m
def x2(N n m:Nat):Nat:=(1+n+m2 N n m)*N
def ga(N n m:Nat):Nat:=n+x2 N n m+m2 N n m
def Tm(N n m:Nat):Nat:=2*(N*dd N n m)+1
def kp(N n m:Nat):Nat:=ga N n m+(n+1)*N+2*n+1
def k0(N n m:Nat):Nat:=2*n+ga N n m+x2 N n m+m2 N n m+N+m
structure Good(N n m:Nat):Prop where
 N1:1<=N
 N40:N<=40
 Nn:N<=2 ^ n
 piv:ga N n m<9000
 m9:m<=900
 lim:n+Tb.xE N n (n*Tm N n m+ga N n m) ((n*Tm N n m+1)*N+x2 N n m) (ga N n m)+(k0 N n m+kp N n m*(Tm N n m+1))<67107860
def L8{a b:Nat}(h:a<=2 ^ b)(hb:b<67108864):a<big:=by
 unfold big;exact Aq h (Nat.pow_lt_pow_right ξ (by rw[kr];exact hb))
noncomputable def low:Nat:=2 ^ (bt-1000)
def wK{a b:Nat}(h:a<=2 ^ b)(hb:b<67107864):a<low:=by
 unfold low;exact Aq h (Nat.pow_lt_pow_right ξ (by rw[kr];exact hb))
def Rz{a b:Nat}(h:a<=2 ^ b)(hb:b<67107863):a+1000<low:=by
 obtain⟨c,hc,hd⟩:∃c,bt-1000=c+1/\c=67107863:=⟨bt-1001,by rw[kr],by rw[kr]⟩;have h1:a<2 ^ c:=Aq h (Nat.pow_lt_pow_right ξ ω);have h2:2 ^ 10<=2 ^ c:=AC ξ ω;unfold low;rw[hc,Nat.pow_succ];have d:(2:Nat) ^ 10=1024:=ξ
 rw[d] at h2;generalize (2:Nat) ^ c=z at *;(first|lia|omega)
def mR{a:Nat}(h:a<low):a<big:=by
 unfold low at h;unfold big;exact Au h (AC ξ (Nat.sub_le _ _))
section
variable{N n m:Nat}
def hX(G:Good N n m):be N n m<=m2 N n m/\m2 N n m<=x2 N n m/\x2 N n m<=ga N n m/\dd N n m<=be N n m/\be N n m<=ga N n m/\x1 N n m<=m2 N n m:=by
 have h:m2 N n m<=x2 N n m:=by
  unfold x2;have:(1+n+m2 N n m)*1<=(1+n+m2 N n m)*N:=Ak _ G.N1;(first|lia|omega)
 unfold m2 at h ⊢;unfold ga be m2 at *;(first|lia|omega)
def Good.cE(G:Good N n m){M X B Y mu x y t:Nat}(c:∃b,B=2 ^ b/\b<=ga N n m)(d:M=2 ^ mu)(e:X=2 ^ x)(f:Y=2 ^ y)(g:t<=Tm N n m+1)(h1:mu<=n*Tm N n m+ga N n m)(h2:x<=(n*Tm N n m+1)*N+x2 N n m)(h:y<=k0 N n m+kp N n m*t):N*(Tb.cE N M X B*Y)<big:=by
 obtain⟨b,rfl,hb⟩:=c;subst d e f;have i:y<=k0 N n m+kp N n m*(Tm N n m+1):=Ag h (Nat.add_le_add_left (Ak _ g) _);have j:=Tb.Rq (N:=N) (n:=n) h1 h2 hb;have a:=G.lim;have a:n+Tb.xE N n (n*Tm N n m+ga N n m) ((n*Tm N n m+1)*N+x2 N n m) (ga N n m)+(k0 N n m+kp N n m*(Tm N n m+1))<67107860:=a;refine L8 (Tb.zC G.Nn (Tb.zC (Tb.Rp G.N1 G.Nn) (Af _))) ?_;(first|lia|omega)
def Good.entL(G:Good N n m){tb:Ξ}{y t:Nat}(h:Ent tb (2 ^ y))(a:t<=Tm N n m+1)(b:y<=k0 N n m+kp N n m*t):∀r∈tb,∀x∈r,x.natAbs<low:=fun r hr x hx=>by
 have c:y<=k0 N n m+kp N n m*(Tm N n m+1):=Ag b (Nat.add_le_add_left (Ak _ a) _);have d:n+Tb.xE N n (n*Tm N n m+ga N n m) ((n*Tm N n m+1)*N+x2 N n m) (ga N n m)+(k0 N n m+kp N n m*(Tm N n m+1))<67107860:=G.lim;exact wK (h.mem r hr x hx) ω
def Good.entM(G:Good N n m){tb:Ξ}{y t:Nat}(h:Ent tb (2 ^ y))(a:t<=Tm N n m+1)(b:y<=k0 N n m+kp N n m*t):∀r∈tb,∀x∈r,x.natAbs+1000<low:=fun r hr x hx=>by
 have c:y<=k0 N n m+kp N n m*(Tm N n m+1):=Ag b (Nat.add_le_add_left (Ak _ a) _);have d:=G.lim;exact Rz (h.mem r hr x hx) ω
def Good.ent(G:Good N n m){tb:Ξ}{y t:Nat}(h:Ent tb (2 ^ y))(a:t<=Tm N n m+1)(b:y<=k0 N n m+kp N n m*t):∀r∈tb,∀x∈r,x.natAbs<big:=fun r hr x hx=>mR (G.entL h a b r hr x hx)
structure LS(N n m t e:Nat)(A:Nat->Tb.Vc)(k w r:Nat)(T U Bn V Bf:Ξ)(QU QV:Nat->Nat):Prop where
 kN:k<=N
 wN:w<=N
 lT:T.length=w
 lU:U.length=k
 lB:Bn.length=k
 lV:V.length=w
 lC:Bf.length=w
 wT:∀r∈T,r.length=k
 wU:∀r∈U,r.length=k
 wB:∀r∈Bn,r.length=k
 wV:∀r∈V,r.length=w
 wC:∀r∈Bf,r.length=w
 li:Tb.LI A k w r (2 ^ dd N n m) (2 ^ be N n m) (2 ^ ga N n m) (2 ^ e) (fn T) (fn U) (fn V) (Tb.tl k (fn Bn)) (Tb.tl w (fn Bf)) QU QV
 te:e<=n*t
 tm:t+Tb.ms r (fn T)<=Tm N n m
 eu:∃u,Ent U (2 ^ u)/\u+N*e<=k0 N n m+kp N n m*t
 eb:∃b,Ent Bn (2 ^ b)/\b+e<=k0 N n m+kp N n m*t
 ev:Ent V (2 ^ (k0 N n m+kp N n m*t))
 ec:Ent Bf (2 ^ (k0 N n m+kp N n m*t))
structure LH(N n m t e:Nat)(A:Nat->Tb.Vc)(k w r:Nat)(T S U Bn V Bf:Ξ)(S0 U0:Nat->Tb.Vc)(QU QV:Nat->Nat):Prop where
 kN:k<=N
 wN:w<=N
 lS:S.length=k
 lU:U.length=k
 lB:Bn.length=k
 lV:V.length=w
 lC:Bf.length=w
 wS:∀r∈S,r.length=w
 wU:∀r∈U,r.length=k
 wB:∀r∈Bn,r.length=k
 wV:∀r∈V,r.length=w
 wC:∀r∈Bf,r.length=w
 lm:Tb.LM A k w r (2 ^ dd N n m) (2 ^ be N n m) (2 ^ ga N n m) (2 ^ e) S0 U0 (fn V) (Tb.tl k (fn Bn)) (Tb.tl w (fn Bf)) QU QV
 hS:∀i u,i<k->u<w->fn S i u=S0 i u
 hU:∀i,i<k->U0 i=fn U i
 ms:∀{M2 X2 B2:Nat}{P2:List Nat}{f2:Nat->Tb.Vc},Tb.Tri w r k M2 1 (Tb.glue k (fun u i=>S0 i u) (fn V)) (fun a=>k+QV a)->Tb.FS N M2 X2 B2 (Tb.tl w (Tb.glue k (fun u i=>S0 i u) (fn V))) P2 f2->Tb.ms r (fun u=>f2 (Tb.pls r k QV u))<Tb.ms r (fn T)
 te:e<=n*(t+1)
 tm:t+Tb.ms r (fn T)<=Tm N n m
 eu:∃u,Ent U (2 ^ u)/\u+N*e<=k0 N n m+kp N n m*(t+1)
 eb:∃b,Ent Bn (2 ^ b)/\b+e<=k0 N n m+kp N n m*(t+1)
 ev:Ent V (2 ^ (k0 N n m+kp N n m*t))
 ec:Ent Bf (2 ^ (k0 N n m+kp N n m*t))
def Gd{q:Nat}{S a W W':Nat->Tb.Vc}{i:Nat}(h1:∀u,u<q->S i u=a i u)(h2:W i=W' i):Tb.glue q S W i=Tb.glue q a W' i:=funext fun u=>by
 unfold Tb.glue
 by_cases c:u<q
 ·rw[if_pos c,if_pos c,h1 u c]
 ·rw[if_neg c,if_neg c,h2]
def Gg{q:Nat}{S W:Nat->Tb.Vc}{i K:Nat}(h1:∀u,u<q->(S i u).natAbs<=K)(h2:∀t,(W i t).natAbs<=K)(u:Nat):(Tb.glue q S W i u).natAbs<=K:=by
 unfold Tb.glue
 by_cases c:u<q
 ·rw[if_pos c];exact h1 u c
 ·rw[if_neg c];exact h2 _
variable{t e k w r:Nat}{A:Nat->Tb.Vc}{T S U Bn V Bf:Ξ}{QU QV:Nat->Nat}{S0 U0:Nat->Tb.Vc}
def LH.rho(L:LH N n m t e A k w r T S U Bn V Bf S0 U0 QU QV){i:Nat}(hi:i<w):Tb.glue k (fn ((Ah w).map (colAt S))) (fn V) i=Tb.glue k (fun u i=>S0 i u) (fn V) i:=
 Gd (fun u hu=>by rw[eL hi];exact L.hS u i hu hi) rfl
def LH.tl(L:LH N n m t e A k w r T S U Bn V Bf S0 U0 QU QV){j:Nat}(a:j<=w):Tb.tl j (Tb.glue k (fn ((Ah w).map (colAt S))) (fn V))=Tb.tl j (Tb.glue k (fun u i=>S0 i u) (fn V)):=Tb.iW fun i hi=>L.rho ω
def LH.tri(G:Good N n m)(L:LH N n m t e A k w r T S U Bn V Bf S0 U0 QU QV):Tb.Tri w r k (2 ^ ga N n m) 1 (Tb.glue k (fun u i=>S0 i u) (fn V)) (fun a=>k+QV a):=by
 have h:=hX G;exact L.lm.far_tri (Af _) (Tb.pw ω)
def LH.side(G:Good N n m)(L:LH N n m t e A k w r T S U Bn V Bf S0 U0 QU QV):Side N (2 ^ ga N n m) (2 ^ N) (2 ^ ga N n m) (2 ^ (k0 N n m+kp N n m*t)) k w ((Ah w).map (colAt S)) V Bf:=by
 have h:=hX G;have T2:=L.tri G;have d:=G.N40;have g:=L.tm;have l:=L.wN;refine⟨zZ,L.lV,L.lC,jO L.lS,L.wV,L.wC,ω,by have:=L.kN;(first|lia|omega),L.wN,G.N1,ω,fun j b=>?_,fun i hi P f F p hp=>?_,fun i hi u=>?_,AR,AR,AR,Nat.pow_lt_pow_right ξ G.piv,?_,?_⟩
 ·rw[L.tl b]
  refine(Tb.Lj T2 (B:=2 ^ ga N n m) (N:=N) (fun a c=>?_) (fun q hq=>?_) L.wN b).mono (Af _) (by show(1+1) ^ N<=2 ^ N;exact Af _) (Af _)
  ·have:=T2.km a c;(first|lia|omega)
  ·rw[Tb.iR (g':=S0) fun i hi=>by rw[Tb.zW (by have:=L.lm.rk;(first|lia|omega))]]
   exact Ag (L.lm.pd q hq) (Tb.pw ω)
 ·rw[L.tl ω] at F
  rw[L.rho hi];exact T2.row hi F p hp
 ·rw[L.rho hi]
  refine Gg (fun u hu=>Ag (L.lm.small (u:=i) (i:=u) hi hu) (Tb.pw ?_)) (fun s=>L.ev i s) u;unfold k0;(first|lia|omega)
 ·exact G.cE ⟨_,rfl,Af _⟩ rfl rfl rfl (t:=t) ω ω (by have:1*N<=(n*Tm N n m+1)*N:=Al _ ω;(first|lia|omega)) (Af _)
 ·exact G.ent (t:=t) L.ec ω (Af _)
def jP:k0 N n m+kp N n m*(t+1)=k0 N n m+kp N n m*t+kp N n m:=by rw[Nat.mul_add,Nat.mul_one];(first|lia|omega)
def LH.next(G:Good N n m)(L:LH N n m t e A k w r T S U Bn V Bf S0 U0 QU QV){P:List Nat}{fr:Nat->List Int}{T' V' g:Ξ}(D:Done N (2 ^ ga N n m) (2 ^ N) (2 ^ ga N n m) k w ((Ah w).map (colAt S)) V Bf P fr T' V' g):LS N n m (t+1) e A k w r T' U Bn V' g QU QV:=by
 have T2:=L.tri G;have F:=D.fs;rw[L.tl (Af _)] at F;obtain⟨h,J,_,_⟩:=L.lm.far_done T2 F;have l:=L.ms T2 F;have c:∀i,i<w->Tb.pp P i=Tb.pls r k QV i:=fun i hi=>by
  unfold Tb.pp;rw[h,Ad,Aj,AU hi];rfl
 have d:∀u i,u<w->i<k->vF fr (Tb.pls r k QV u) i=fn T' u i:=fun u i hu hi=>by rw[D.f1 u i hu hi,c u hu]
 have rk:=J.rk;have o:=J.rw;have f:=D.f3;rw[L.tl (Af _)] at f;have j:∀a b:Nat,2*n+ga N n m+N<=kp N n m:=fun _ _=>by unfold kp;rw[Nat.add_mul];(first|lia|omega)
 have h1:=j 0 0;refine⟨L.kN,L.wN,D.l1,L.lU,L.lB,D.l2,D.l3,D.w1,L.wU,L.wB,D.w2,D.w3,?_,L.te,?_,L.eu,L.eb,?_,?_⟩
 ·rw[<-f] at J
  exact J.cg d L.hU fun u hu=>by rw[D.f2 u hu,c u hu]
 ·rw[<-Tb.Rr (T:=fun u=>vF fr (Tb.pls r k QV u)) fun u i hu hi=>d u i ω ω]
  have:=L.tm;(first|lia|omega)
 ·refine(D.e2 L.ev).mono ?_
  rw[jP];refine Ag (Tb.zC G.Nn (Tb.zC (Tb.mH G.Nn) (Af _))) (Tb.pw ?_);(first|lia|omega)
 ·refine(D.e3 L.ec).mono ?_
  rw[jP];refine Ag (Tb.zC G.Nn (Tb.zC (Tb.zC (Af _) (Af _)) (Af _))) (Tb.pw ?_);(first|lia|omega)
end
end K27
end
section
namespace Tb
def L9{U:Nat->Vc}{r u:Nat}:∀(n i:Nat),ss U r n i u=ss (fun i _=>U i u) r n i 0
 |0,_=>rfl
 |n+1,i=>by show U i u+ss U r n (i+1) u=U i u+_;rw[L9 n (i+1)]
def L_{C:Nat->Vc}{r:Nat}:∀(n:Nat),n+1<=r->∀i,gu C r n i=if r-n<=i/\i<r then(fun s=>C i s-C (i-1) s) else C i
 |0,h,i=>by show C i=_;rw[if_neg ω]
 |n+1,h,i=>by
  have a:=L_ (C:=C) (r:=r) n ω;show put (gu C r n) (r-1-n) (fun s=>gu C r n (r-1-n) s-gu C r n (r-2-n) s) i=_
  by_cases e:i=r-1-n
  ·rw[e,zQ,if_pos ω,a (r-1-n),a (r-2-n),if_neg ω,if_neg ω,show r-1-n-1=r-2-n from ω]
  ·rw[df e,a i]
   by_cases h2:r-n<=i/\i<r
   ·rw[if_pos h2,if_pos ω]
   ·rw[if_neg h2,if_neg ω]
end Tb
namespace K27
open PySem L2
def L'{tb:Ξ}{j i:Nat}{x:List Int}(h:j<tb.length):rowAt (tb.set j x) i=if i=j then x else rowAt tb i:=by
 unfold rowAt;rw[Ad,Ad,List.getElem?_set]
 by_cases c:i=j
 ·rw[if_pos c.symm,if_pos c,if_pos h];rfl
 ·rw[if_neg (Ne.symm c),if_neg c]
def Ma{a b:List Int}{q:Int}(h:a.length=b.length):vc (c7 a q b)=fun u=>vc a u-q*vc b u:=by unfold c7;rw[FO (by simp) h]
def Mb{a b:List Int}{q:Int}(h:a.length=b.length):(c7 a q b).length=a.length:=by unfold c7;rw[AE];(first|lia|omega)
section
variable{tb:Ξ}{r W:Nat}
def p5(hr:r<=tb.length)(hw:∀x∈tb,x.length=W):∀n,n+1<=r->∀x∈slT tb r n,x.length=W
 |0,_,x,hx=>hw x hx
 |n+1,h,x,hx=>by
  have a:=p5 hr hw n ω;have b:=mC (tb:=tb) (r:=r) n;rcases List.mem_or_eq_of_mem_set hx with hx|rfl
  ·exact a x hx
  ·rw[Mb (by rw[a _ (zG ω),a _ (zG ω)])]
   exact a _ (zG ω)
def Gh(hr:r<=tb.length)(hw:∀x∈tb,x.length=W):∀n,n+1<=r->∀x∈slB tb r n,x.length=W
 |0,_,x,hx=>hw x hx
 |n+1,h,x,hx=>by
  have a:=Gh hr hw n ω;have b:=v0 (tb:=tb) (r:=r) n;rcases List.mem_or_eq_of_mem_set hx with hx|rfl
  ·exact a x hx
  ·rw[Mb (by rw[a _ (zG ω),a _ (zG ω)])]
   exact a _ (zG ω)
def Gj(hr:r<=tb.length)(hw:∀x∈tb,x.length=W):∀n,n+1<=r->fn (slT tb r n)=Tb.b7 (fn tb) r n
 |0,_=>rfl
 |n+1,h=>by
  have b:=Gj hr hw n ω;have a:=p5 hr hw n ω;have d:=mC (tb:=tb) (r:=r) n
  funext i
  show vc (rowAt ((slT tb r n).set (r-2-n) _) i)=Tb.put (Tb.b7 (fn tb) r n) (r-2-n) _ i;rw[L' ω,<-b];unfold Tb.put
  by_cases c:i=r-2-n
  ·rw[if_pos c,if_pos c,Ma (by rw[a _ (zG ω),a _ (zG ω)])]
   funext u
   show vc _ u - -1*vc _ u=vc _ u+vc _ u;(first|lia|omega)
  ·rw[if_neg c,if_neg c];rfl
def Jd(hr:r<=tb.length)(hw:∀x∈tb,x.length=W):∀n,n+1<=r->fn (slB tb r n)=Tb.gu (fn tb) r n
 |0,_=>rfl
 |n+1,h=>by
  have b:=Jd hr hw n ω;have a:=Gh hr hw n ω;have d:=v0 (tb:=tb) (r:=r) n
  funext i
  show vc (rowAt ((slB tb r n).set (r-1-n) _) i)=Tb.put (Tb.gu (fn tb) r n) (r-1-n) _ i;rw[L' ω,<-b];unfold Tb.put
  by_cases c:i=r-1-n
  ·rw[if_pos c,if_pos c,Ma (by rw[a _ (zG ω),a _ (zG ω)])]
   funext u
   show vc _ u-1*vc _ u=vc _ u-vc _ u;(first|lia|omega)
  ·rw[if_neg c,if_neg c];rfl
def Je(hr:r<=tb.length)(hw:∀x∈tb,x.length=W){K n:Nat}(h:n+1<=r)(a:Ent tb K):Ent (slT tb r n) (r*K):=fun i u=>by
 rw[Gj hr hw n h,Tb.ID n h];split
 ·exact Ag (Tb.IE (K:=K) (r-i) i fun j _ _=>a j u) (Al _ ω)
 ·exact Ag (a i u) (Nat.le_mul_of_pos_left _ ω)
def Mc(hr:r<=tb.length)(hw:∀x∈tb,x.length=W){K n:Nat}(h:n+1<=r)(a:Ent tb K):Ent (slB tb r n) (2*K):=fun i u=>by
 rw[Jd hr hw n h,Tb.L_ n h];split
 ·have h1:=a i u
  have h2:=a (i-1) u;show(fn tb i u-fn tb (i-1) u).natAbs<=_;(first|lia|omega)
 ·have:=a i u;(first|lia|omega)
end
section
variable{N n m t e k w r:Nat}{A:Nat->Tb.Vc}{T U Bn V Bf:Ξ}{QU QV:Nat->Nat}
def LS.rho(L:LS N n m t e A k w r T U Bn V Bf QU QV){i:Nat}(hi:i<k):Tb.glue w (fn ((Ah k).map (colAt T))) (fn U) i=Tb.glue w (fun i u=>fn T u i) (fn U) i:=Gd (fun u hu=>eL hi u) rfl
def LS.tl(L:LS N n m t e A k w r T U Bn V Bf QU QV){j:Nat}(a:j<=k):Tb.tl j (Tb.glue w (fn ((Ah k).map (colAt T))) (fn U))=Tb.tl j (Tb.glue w (fun i u=>fn T u i) (fn U)):=Tb.iW fun i hi=>L.rho ω
def LS.tri(G:Good N n m)(L:LS N n m t e A k w r T U Bn V Bf QU QV):Tb.Tri k r w (2 ^ (e+be N n m)) (2 ^ e) (Tb.glue w (fun i u=>fn T u i) (fn U)) (fun a=>w+QU a):=by
 have h:=hX G;exact L.li.near_tri (by rw[Nat.pow_add];exact Af _) (Tb.pw ω)
def LS.tT(L:LS N n m t e A k w r T U Bn V Bf QU QV):t<=Tm N n m:=by have:=L.tm;(first|lia|omega)
def LS.eT(L:LS N n m t e A k w r T U Bn V Bf QU QV):e<=n*Tm N n m:=Ag L.te (Ak _ L.tT)
def LS.side(G:Good N n m)(L:LS N n m t e A k w r T U Bn V Bf QU QV):Side N (2 ^ (e+be N n m)) (2 ^ ((e+1)*N)) (2 ^ be N n m) (2 ^ (k0 N n m+kp N n m*t)) w k ((Ah k).map (colAt T)) U Bn:=by
 have h:=hX G;have T1:=L.tri G;have l:=G.N40;have tT:=L.tT;have eT:=L.eT;obtain⟨o,d,v⟩:=L.eu;obtain⟨x,g,y⟩:=L.eb;refine⟨zZ,L.lU,L.lB,jO L.lT,L.wU,L.wB,by have:=L.kN;(first|lia|omega),by have:=L.wN;(first|lia|omega),L.kN,G.N1,ω,fun j b=>?_,fun i hi P f F p hp=>?_,fun i hi u=>?_,AR,AR,AR,Nat.pow_lt_pow_right ξ (by have:=G.piv;(first|lia|omega)),?_,?_⟩
 ·rw[L.tl b]
  refine(Tb.Lj T1 (B:=2 ^ be N n m) (N:=N) (fun a c=>?_) (fun q hq=>?_) L.kN b).mono (Af _) Tb.jF (Af _)
  ·show(Tb.glue w (fun i u=>fn T u i) (fn U) (r+a) (w+QU a)).natAbs<=_
   rw[Tb.eX];exact L.li.ku.km a c
  ·rw[Tb.IC L.li hq]
   exact Ag (L.li.pd q hq) (Tb.pw ω)
 ·rw[L.tl ω] at F
  rw[L.rho hi];exact T1.row hi F p hp
 ·rw[L.rho hi]
  refine Gg (fun u hu=>Ag (L.li.small (u:=u) (i:=i) hu hi) (Tb.pw ?_)) (fun s=>Ag (d i s) (Tb.pw ω)) u;unfold k0;(first|lia|omega)
 ·refine G.cE ⟨_,rfl,ω⟩ rfl rfl rfl (t:=t) ω ω ?_ (Af _)
  have:(e+1)*N<=(n*Tm N n m+1)*N:=Al _ ω;(first|lia|omega)
 ·exact G.ent (t:=t) g ω ω
def LS.near(G:Good N n m)(L:LS N n m t e A k w r T U Bn V Bf QU QV)(hd:¬Tb.Dg r (fn T)){P:List Nat}{fr:Nat->List Int}{f U' c:Ξ}(D:Done N (2 ^ (e+be N n m)) (2 ^ ((e+1)*N)) (2 ^ be N n m) w k ((Ah k).map (colAt T)) U Bn P fr f U' c):LH N n m t 0 A k w r T f U' c V Bf (fun i=>vF fr (Tb.pls r w QU i)) (fun i s=>vF fr (Tb.pls r w QU i) (w+s)) QU QV:=by
 have d:=L.tri G;have F:=D.fs;rw[L.tl (Af _)] at F;obtain⟨j,J,_,_⟩:=L.li.near_done d F;have a:∀i,i<k->Tb.pp P i=Tb.pls r w QU i:=fun i hi=>by
  unfold Tb.pp;rw[j,Ad,Aj,AU hi];rfl
 have b:=D.f3;rw[L.tl (Af _)] at b;rw[<-b] at J;have h:=hX G;have hk:2*n+be N n m+N<=kp N n m:=by unfold kp;rw[Nat.add_mul];(first|lia|omega)
 obtain⟨q,l,v⟩:=L.eu;obtain⟨x,o,y⟩:=L.eb;refine⟨L.kN,L.wN,D.l1,D.l2,D.l3,L.lV,L.lC,D.w1,D.w2,D.w3,L.wV,L.wC,J,fun i u hi hu=>by rw[D.f1 i u hi hu,a i hi],fun i hi=>by rw[D.f2 i hi,a i hi],fun g p=>Tb.Qx L.li hd d F g p,Ar _,L.tm,⟨_,(D.e2 l).mono (Tb.zC G.Nn (Tb.zC (Tb.mH G.Nn) (Af _))),?_⟩,⟨_,(D.e3 o).mono (Tb.zC G.Nn (Tb.zC (Tb.zC (Af _) (Af _)) (Af _))),?_⟩,L.ev,L.ec⟩
 ·rw[jP,Nat.add_mul,Nat.mul_comm e N];(first|lia|omega)
 ·rw[jP];(first|lia|omega)
def LS.slSml(G:Good N n m)(L:LS N n m t e A k w r T U Bn V Bf QU QV):∀j,j<r->Sml (slT ((Ah k).map (colAt T)) r j)/\Sml (slT U r j)/\Sml (slB Bn r j):=fun j f=>by
 have h:=hX G;have rk:=L.li.rk;have q:=L.kN;have d:=G.N40;have tT:=L.tT;have rn:r<=2 ^ n:=Ag ω G.Nn;obtain⟨g,a,l⟩:=L.eu;obtain⟨o,b,p⟩:=L.eb;have hk:n+1<=kp N n m:=by unfold kp;(first|lia|omega)
 have c:be N n m<=k0 N n m:=by unfold k0;(first|lia|omega)
 have eT:Ent ((Ah k).map (colAt T)) (2 ^ be N n m):=p3 zZ fun i hi u=>by
  rw[eL hi]
  by_cases hu:u<w
  ·exact Ag (L.li.small hu hi) (Tb.pw ω)
  ·unfold fn
   rw[ws (by rw[L.lT];(first|lia|omega))];exact Ar _
 have e1:=Je (n:=j) (r:=r) (by rw[zZ];exact rk) (jO (n:=k) L.lT) ω eT;have e2:=Je (n:=j) (r:=r) (by rw[L.lU];exact rk) L.wU ω a;have e3:=Mc (n:=j) (r:=r) (by rw[L.lB];exact rk) L.wB ω b;refine⟨fun x hx=>⟨?_,G.ent (t:=t+1) (e1.mono (Tb.zC rn (Af _))) ω (by rw[jP];(first|lia|omega)) x hx⟩,fun x hx=>⟨?_,G.ent (t:=t+1) (e2.mono (Tb.zC rn (Af _))) ω (by rw[jP];(first|lia|omega)) x hx⟩,fun x hx=>⟨?_,G.ent (t:=t+1) (e3.mono (Tb.zC (show 2<=2 ^ 1 from ξ) (Af _))) ω (by rw[jP];(first|lia|omega)) x hx⟩⟩
 ·rw[p5 (by rw[zZ];exact rk) (jO (n:=k) L.lT) j ω x hx];have:=L.wN;(first|lia|omega)
 ·rw[p5 (by rw[L.lU];exact rk) L.wU j ω x hx];(first|lia|omega)
 ·rw[Gh (by rw[L.lB];exact rk) L.wB j ω x hx];(first|lia|omega)
def LS.slid(G:Good N n m)(L:LS N n m t e A k w r T U Bn V Bf QU QV)(hr:1<=r)(hd:Tb.Dg r (fn T))(l:¬∀i,i+1<r->fn T i i ∣ fn T (i+1) (i+1)):LH N n m t (e+n) A k w r T (slT ((Ah k).map (colAt T)) r (r-1)) (slT U r (r-1)) (slB Bn r (r-1)) V Bf (fun i u=>Tb.a6 k w A (Tb.b7 (fn U) r (r-1) i) (fn V u)) (Tb.b7 (fn U) r (r-1)) QU QV:=by
 have rk:=L.li.rk;have x:=L.li.rw;obtain⟨J,val⟩:=L.li.slid hr hd;have rn:r<=2 ^ n:=Ag rk (Ag L.kN G.Nn);have J:=J.mono (g':=2 ^ (e+n)) (by rw[Nat.pow_add,Nat.mul_comm];exact Ak _ rn);obtain⟨p,g,q⟩:=L.eu;obtain⟨s,h,v⟩:=L.eb;have hk:n+N*n+N<=kp N n m/\n+1<=kp N n m:=by unfold kp;rw[Nat.add_mul,Nat.mul_comm n N];(first|lia|omega)
 have e1:fn (slT U r (r-1))=Tb.b7 (fn U) r (r-1):=Gj (by rw[L.lU];exact rk) L.wU (r-1) ω;have e2:fn (slB Bn r (r-1))=Tb.gu (fn Bn) r (r-1):=Jd (by rw[L.lB];exact rk) L.wB (r-1) ω;rw[<-e2] at J;refine⟨L.kN,L.wN,by rw[mC];exact zZ,by rw[mC];exact L.lU,by rw[v0];exact L.lB,L.lV,L.lC,p5 (by rw[zZ];exact rk) (jO (n:=k) L.lT) _ ω,p5 (by rw[L.lU];exact rk) L.wU _ ω,Gh (by rw[L.lB];exact rk) L.wB _ ω,L.wV,L.wC,J,fun i u hi hu=>?_,fun i hi=>by rw[e1],fun b o=>Tb.Qy L.li hr hd l b o,?_,L.tm,⟨_,(Je (n:=r-1) (by rw[L.lU];exact rk) L.wU ω g).mono (Tb.zC rn (Af _)),?_⟩,⟨_,(Mc (n:=r-1) (by rw[L.lB];exact rk) L.wB ω h).mono (Tb.zC (show 2<=2 ^ 1 from ξ) (Af _)),?_⟩,L.ev,L.ec⟩
 ·have e3:fn (slT ((Ah k).map (colAt T)) r (r-1))=Tb.b7 (fn ((Ah k).map (colAt T))) r (r-1):=Gj (by rw[zZ];exact rk) (jO (n:=k) L.lT) (r-1) ω
  rw[e3,val i u hi hu,Tb.jv hr];have zero:∀j,j<k->j≠u->fn T u j=0:=fun j d ne=>by
   by_cases c:u<r/\j<r
   ·exact hd u j c.1 c.2 (Ne.symm ne)
   ·exact L.li.to u j hu d ω
  by_cases c:i<r
  ·rw[if_pos c,Tb.L9,Tb.IF (u:=u) (r-i) i fun j h1 h2 f=>by rw[eL (show j<k from ω)];exact zero j ω f]
   by_cases a:i<=u/\u<r
   ·rw[if_pos ω,if_pos a,eL ω]
   ·rw[if_neg ω,if_neg a]
  ·rw[if_neg c,if_neg ω,eL hi]
   exact L.li.to u i hu hi (.inr ω)
 ·rw[Nat.mul_add,Nat.mul_one];have:=L.te;(first|lia|omega)
 ·rw[jP,Nat.mul_add];(first|lia|omega)
 ·rw[jP];(first|lia|omega)
end
end K27
end
section
namespace Tb
def Md{w j:Nat}{A:Nat->Vc}:jm (tl j (glue w A un)):=fun c hc hz=>by
 have D:Both j ((tl j (glue w A un)).map fun r=>fun t=>r (w+t)) (tl j un):=by rw[B'];exact IH j
 exact D.free hc fun t _=>hz _
def Me{N n m:Nat}(a:N<=2 ^ n):sX N (2 ^ m)<=2 ^ ((1+n+m)*N):=by
 unfold sX;rw[Nat.pow_mul];refine Nat.pow_le_pow_left (zC (zC (show 2<=2 ^ 1 from ξ) a) (Af _)) _
def RA{N n m:Nat}(a:N<=2 ^ n):sB N (2 ^ m)<=2 ^ (n+((1+n+m)*N+m)):=zC a (zC (Me a) (Af _))
def Jf{i t:Nat}:(un i t).natAbs<=1:=by unfold un dl;split<;>decide
end Tb
namespace K27
open PySem L2
def wP{n:Nat}:Ent (unT n) (2 ^ 0):=p3 F' fun i hi u=>by rw[p4 hi];exact Tb.Jf
section
variable{N n m k w:Nat}{tb:Ξ}
def Gn{q j i:Nat}{S:Ξ}(hi:i<j):Tb.glue q (fn S) (fn (unT j)) i=Tb.glue q (fn S) Tb.un i:=Gd (fun _ _=>rfl) (p4 hi)
def kJ(G:Good N n m){mu x b:Nat}(z:mu<=m2 N n m)(hx:(1+n+mu)*N<=x)(v:x<=x2 N n m)(hb:n+(x+mu)<=b)(d:b<=ga N n m)(g:k<=N)(y:w<=N)(l:tb.length=k)(hw:∀r∈tb,r.length=w)(o:Ent tb (2 ^ mu)):Side N (2 ^ mu) (2 ^ x) (2 ^ b) (2 ^ mu) w k tb (unT k) (unT k):=by
 have h:=hX G;have q:=G.N40;have le:∀i,i<k->∀u,(Tb.glue w (fn tb) (fn (unT k)) i u).natAbs<=2 ^ mu:=fun i hi u=>by
  rw[Gn hi];exact Gg (fun u _=>o i u) (fun s=>Ag Tb.Jf AR) u
 have e:∀{j},j<=k->Tb.tl j (Tb.glue w (fn tb) (fn (unT k)))=Tb.tl j (Tb.glue w (fn tb) Tb.un):=fun{j} a=>Tb.iW fun i hi=>Gn ω;have c:m2 N n m<=k0 N n m:=by unfold k0;(first|lia|omega)
 refine⟨l,F',F',hw,mM,mM,ω,ω,g,G.N1,ω,fun j a=>?_,fun i hi P f F p hp=>le i hi p,le,AR,AR,AR,Nat.pow_lt_pow_right ξ (by have:=G.piv;(first|lia|omega)),?_,?_⟩
 ·rw[e a]
  refine(Tb.Qd G.N1 AR Tb.Md (by rw[Tb.iU];(first|lia|omega)) fun r hr u=>?_).mono (Af _) (Ag (Tb.Me G.Nn) (Tb.pw hx)) (Ag (Tb.RA G.Nn) (Tb.pw ω));obtain⟨i,hi,rfl⟩:=List.mem_map.mp hr;have hi:=List.mem_range.mp hi;rw[<-Gn (show i<k from ω)];exact le i ω u
 ·exact G.cE ⟨_,rfl,d⟩ rfl rfl rfl (t:=0) ω ω ω ω
 ·exact G.ent (t:=0) (wP) ω ω
def Mf(G:Good N n m):m<=m2 N n m/\(1+n+m)*N<=x1 N n m/\x1 N n m<=x2 N n m/\n+(x1 N n m+m)<=be N n m/\be N n m<=ga N n m/\(1+n+m2 N n m)*N<=x2 N n m/\n+(x2 N n m+m2 N n m)<=ga N n m:=by
 have h:=hX G;have h1:x1 N n m<=dd N n m:=Al _ ω;have h2:x1 N n m=(1+n+m)*N:=rfl;have a:x2 N n m=(1+n+m2 N n m)*N:=rfl;have b:ga N n m=n+x2 N n m+m2 N n m:=rfl;have c:be N n m=n+m+dd N n m:=rfl;have d:m2 N n m=2*n+be N n m+x1 N n m+m:=rfl;(first|lia|omega)
def wR(G:Good N n m)(a:k<=N)(b:w<=N)(l:tb.length=k)(hw:∀r∈tb,r.length=w)(c:Ent tb (2 ^ m)):Side N (2 ^ m) (2 ^ x1 N n m) (2 ^ be N n m) (2 ^ m) w k tb (unT k) (unT k):=by
 have h:=Mf G;exact kJ G h.1 h.2.1 h.2.2.1 h.2.2.2.1 h.2.2.2.2.1 a b l hw c
variable{P P2:List Nat}{fr iL:Nat->List Int}{S U Bn T V Bf:Ξ}
def RB(G:Good N n m)(l:tb.length=k)(hw:∀r∈tb,r.length=w)(a:Ent tb (2 ^ m))(b:k<=N)(D:Done N (2 ^ m) (2 ^ x1 N n m) (2 ^ be N n m) w k tb (unT k) (unT k) P fr S U Bn):Ent ((Ah w).map (colAt S)) (2 ^ m2 N n m):=by
 refine p3 zZ fun u hu i=>?_;rw[eL hu]
 by_cases hi:i<k
 ·rw[D.f1 i u hi hu]
  have:=(D.fs.fr (Tb.pp P i) (Tb.pQ D.lP hi)).le (u:=u) (M:=2 ^ m) fun r hr=>by
   obtain⟨j,c,rfl⟩:=List.mem_map.mp hr;rw[Tb.zW hu];exact a j u
  refine Ag this ?_;rw[Tb.iU];refine Ag (Al _ b) (Ag (Tb.zC G.Nn (Tb.zC (Tb.mH G.Nn) (Af _))) (Tb.pw ?_));unfold m2;(first|lia|omega)
 ·unfold fn
  rw[ws (by rw[D.l1];(first|lia|omega))];exact Ar _
def wW(G:Good N n m)(l:tb.length=k)(hw:∀r∈tb,r.length=w)(b:Ent tb (2 ^ m))(a:k<=N)(c:w<=N)(D:Done N (2 ^ m) (2 ^ x1 N n m) (2 ^ be N n m) w k tb (unT k) (unT k) P fr S U Bn):Side N (2 ^ m2 N n m) (2 ^ x2 N n m) (2 ^ ga N n m) (2 ^ m2 N n m) k w ((Ah w).map (colAt S)) (unT w) (unT w):=by
 have h:=Mf G;exact kJ G (Af _) h.2.2.2.2.2.1 (Af _) h.2.2.2.2.2.2 (Af _) c a zZ (jO D.l1) (RB G l hw b a D)
def RC(G:Good N n m)(l:tb.length=k)(hw:∀r∈tb,r.length=w)(g:Ent tb (2 ^ m))(a:k<=N)(h:w<=N)(D:Done N (2 ^ m) (2 ^ x1 N n m) (2 ^ be N n m) w k tb (unT k) (unT k) P fr S U Bn)(D2:Done N (2 ^ m2 N n m) (2 ^ x2 N n m) (2 ^ ga N n m) k w ((Ah w).map (colAt S)) (unT w) (unT w) P2 iL T V Bf):∃r QU QV,LS N n m 0 0 (fn tb) k w r T U Bn V Bf QU QV:=by
 have hb:=hX G;have e1:Tb.tl k (Tb.glue w (fn tb) (fn (unT k)))=Tb.tl k (Tb.glue w (fn tb) Tb.un):=Tb.iW fun i hi=>Gn hi;have F:=D.fs;rw[e1] at F;have I:=Tb.Qt F;have e:=Tb.Qu AR Tb.Md (fun r hr u=>?_) F
 ·have e2:Tb.tl w (Tb.glue k (fn ((Ah w).map (colAt S))) (fn (unT w)))=Tb.tl w (Tb.glue k (fun u i=>vF fr (Tb.pp P i) u) Tb.un):=Tb.iW fun u hu=>Gd (fun i hi=>by rw[eL hu];exact D.f1 i u hi hu) (p4 hu)
  have d:=D2.fs;rw[e2] at d;have f:(2*(k*2 ^ m)+1) ^ k<=2 ^ dd N n m:=by
   unfold dd;rw[Nat.pow_mul];have h1:2*(k*2 ^ m)+1<=2 ^ (2+n+m):=by
    have a1:k*2 ^ m<=2 ^ (n+m):=Tb.zC (Ag a G.Nn) (Af _);have a2:2 ^ (2+n+m)=4*2 ^ (n+m):=by rw[Nat.add_assoc,Nat.pow_add]
    have a3:=AR (n:=n+m);(first|lia|omega)
   exact Ag (Nat.pow_le_pow_left h1 _) (AC AR a)
  obtain⟨j,pr,J⟩:=Tb.Qv I (D:=2 ^ dd N n m) (fun q hq=>Ag (e q hq) f) d;have b:=D.f3;rw[e1,Tb.iW (W:=fn (unT k)) (W':=Tb.un) fun i hi=>p4 hi] at b;have c:=D2.f3;rw[e2,Tb.iW (W:=fn (unT w)) (W':=Tb.un) fun i hi=>p4 hi] at c;rw[<-b,<-c] at J;have o:k0 N n m=2*n+ga N n m+x2 N n m+m2 N n m+N+m:=rfl;have rk:=J.rk;have J2:=J.cg (T':=fn T) (U':=fn U) (V':=fn V) (fun u i hu hi=>(D2.f1 u i hu hi).symm) (fun i hi=>(D.f2 i hi).symm) fun u hu=>(D2.f2 u hu).symm;refine⟨_,_,_,a,h,D2.l1,D.l2,D.l3,D2.l2,D2.l3,D2.w1,D.w2,D.w3,D2.w2,D2.w3,J2,Ar _,?_,⟨_,(D.e2 wP).mono (Tb.zC G.Nn (Tb.zC (Tb.mH G.Nn) (Af _))),?_⟩,⟨_,(D.e3 wP).mono (Tb.zC G.Nn (Tb.zC (Tb.zC (Af _) (Af _)) (Af _))),?_⟩,(D2.e2 wP).mono (Ag (Tb.zC G.Nn (Tb.zC (Tb.mH G.Nn) (Af _))) (Tb.pw ?_)),(D2.e3 wP).mono (Ag (Tb.zC G.Nn (Tb.zC (Tb.zC (Af _) (Af _)) (Af _))) (Tb.pw ?_))⟩
  ·have h1:=Tb.Lw (T:=fn T) (D:=2 ^ dd N n m) (Tb.cut w P) J2.tp J2.pd
   rw[Nat.log2_two_pow] at h1;have h2:Tb.cut w P*dd N n m<=N*dd N n m:=Al _ ω;unfold Tb.ms Tm;split<;>(first|lia|omega)
  ·(first|lia|omega)
  ·(first|lia|omega)
  ·(first|lia|omega)
  ·(first|lia|omega)
 ·obtain⟨i,hi,rfl⟩:=List.mem_map.mp hr
  exact Gg (fun u _=>g i u) (fun s=>Ag Tb.Jf AR) u
end
end K27
end
section
namespace K27
open PySem L2
def RD{tb:Ξ}:tb.zipIdx=(Ah tb.length).map fun i=>(rowAt tb i,i):=by
 apply AZ
 ·simp
 ·intro i h1 h2
  rw[List.length_zipIdx] at h1;rw[AS,A5,List.getElem_zipIdx,zI (Ac h1)];simp
def Mg{a:Type}{p:Nat->List Int->Bool}{g:Nat->List Int->a}{tb:Ξ}:jE p g tb.zipIdx=((Ah tb.length).filter fun i=>p i (rowAt tb i)).map fun i=>g i (rowAt tb i):=by
 unfold jE;rw[RD,List.filter_map,AT]
 rfl
def Mh{l:List Int}{k u:Nat}(hu:u≠k):vc (b0 l k l.length) u=0:=by
 unfold b0;split
 ·unfold vc
  rw[Ad,List.getElem?_set,if_neg (Ne.symm hu),List.getElem?_replicate];split<;>rfl
 ·exact L6
def Mj{l:List Int}{k w:Nat}:(b0 l k w).length=w:=by unfold b0;split<;>simp
def Ml{a b:List Int}(h:a.length=b.length)(c:∀u,u<a.length->vc a u=vc b u):a=b:=by
 apply AZ h;intro i h1 h2;have:=c i h1
 rwa [jL h1,jL h2] at this
def Mm{l:List Int}{k:Nat}:l=b0 l k l.length↔∀u,u≠k->vc l u=0:=by
 constructor
 ·intro h u hu
  rw[h];exact Mh (l:=l) hu
 ·intro h
  refine Ml Mj.symm fun u hu=>?_
  by_cases c:u=k
  ·subst c
   unfold b0;rw[if_pos hu];unfold vc;rw[Ad,Ad,List.getElem?_set,if_pos rfl,AM,if_pos hu]
   rfl
  ·rw[h u c,Mh c]
def RE{tb:Ξ}:c8 tb=true↔∀i,i<tb.length->∀u,u≠i->fn tb i u=0:=by
 unfold c8;rw[Mg,List.all_map,Bj];constructor
 ·intro h i hi u hu
  have:=h i (List.mem_filter.mpr ⟨List.mem_range.mpr hi,rfl⟩);have this:decide (rowAt tb i=b0 (rowAt tb i) i (rowAt tb i).length)=true:=this;exact Mm.mp (of_decide_eq_true this) u hu
 ·intro h i hi
  have hi:=List.mem_range.mp (List.mem_filter.mp hi).1;exact decide_eq_true (Mm.mpr (h i hi))
def RF{r w:Nat}(h:r<=w):(Ah w).filter (fun i=>decide (i<r))=Ah r:=by
 have e:Ah w=Ah r++(Ah (w-r)).map (r+·):=by rw[<-List.range_add];congr 1;(first|lia|omega)
 rw[e,List.filter_append];have h1:(Ah r).filter (fun i=>decide (i<r))=Ah r:=List.filter_eq_self.mpr fun i hi=>decide_eq_true (List.mem_range.mp hi);have h2:((Ah (w-r)).map (r+·)).filter (fun i=>decide (i<r))=[]:=List.filter_eq_nil_iff.mpr fun i hi=>by
  obtain⟨j,_,rfl⟩:=List.mem_map.mp hi;simp
 rw[h1,h2,List.append_nil]
def dg(r:Nat)(T:Ξ):List Int:=(Ah r).map fun i=>fn T i i
def Jg{r u:Nat}{g:Nat->Int}(h:u<r):vc ((Ah r).map g) u=g u:=by
 unfold vc;rw[Ad,Aj,AU h];rfl
section
variable{N n m t e k w r:Nat}{A:Nat->Tb.Vc}{T U Bn V Bf:Ξ}{QU QV:Nat->Nat}
def LS.onSl(L:LS N n m t e A k w r T U Bn V Bf QU QV):c8 T=true↔Tb.Dg r (fn T):=by
 have rk:=L.li.rk;have b:=L.li.rw;rw[RE,L.lT];constructor
 ·intro h u i hu hi ne
  exact h u ω i (Ne.symm ne)
 ·intro h u hu i ne
  by_cases c:i<k
  ·by_cases a:u<r/\i<r
   ·exact h u i a.1 a.2 (Ne.symm ne)
   ·exact L.li.to u i hu c ω
  ·unfold fn
   exact fY (by rw[L.wT _ (zG (by rw[L.lT];exact hu))];(first|lia|omega))
def LS.slOf(L:LS N n m t e A k w r T U Bn V Bf QU QV):cy T=dg r T:=by
 have rk:=L.li.rk;have a:=L.li.rw;unfold K27.cy;rw[Mg,L.lT];have e:(Ah w).filter (fun i=>decide (i<(rowAt T i).length)&&decide (vc (rowAt T i) i≠0))=(Ah w).filter fun i=>decide (i<r):=List.filter_congr fun i hi=>by
  have hi:=List.mem_range.mp hi;have b:(rowAt T i).length=k:=L.wT _ (zG (by rw[L.lT];exact hi));rw[b,Bool.eq_iff_iff,AX,decide_eq_true_eq,decide_eq_true_eq,decide_eq_true_eq];constructor
  ·rintro⟨h1,h2⟩
   refine AN fun c=>h2 ?_;exact L.li.to i i hi h1 ω
  ·intro h
   exact⟨ω,by have:0<vc (rowAt T i) i:=L.li.tp i h;(first|lia|omega)⟩
 rw[e,RF a]
 rfl
def LS.inSt(L:LS N n m t e A k w r T U Bn V Bf QU QV):cQ T=true↔Tb.Dg r (fn T)/\∀i,i+1<r->fn T i i ∣ fn T (i+1) (i+1):=by
 have c:=L.li.rw;unfold K27.cQ;rw[AX,L.onSl,L.slOf,L.lT];refine and_congr_right fun _=>?_;unfold dv;have ld:(dg r T).length=r:=by unfold dg;simp
 have h1:(!decide ((w:Int)<((dg r T).length:Int)))=true:=by rw[ld];simp;(first|lia|omega)
 have h2:(dg r T).all (fun x=>decide (0<x))=true:=by
  rw[Bj];intro x hx;obtain⟨i,hi,rfl⟩:=List.mem_map.mp hx;exact decide_eq_true (L.li.tp i (List.mem_range.mp hi))
 rw[h1,h2,Bool.true_and,Bool.true_and,Bj];constructor
 ·intro h i hi
  have g:(AA (fun a b=>decide (b%a=0)) (dg r T) ((dg r T).drop 1))[i]?=some (decide (fn T (i+1) (i+1)%fn T i i=0)):=by
   rw[List.getElem?_zipWith,List.getElem?_drop];unfold dg;rw[Aj,Aj,AU ω,AU ω,Nat.add_comm 1 i]
   rfl
  have:=h _ (An g);exact Int.dvd_of_emod_eq_zero (of_decide_eq_true this)
 ·intro h x hx
  obtain⟨i,hi,rfl⟩:=A8 hx;rw[AE,List.length_drop,ld] at hi;rw[A0,List.getElem_drop];unfold dg;rw[AS,AS,A5,A5];have:=h i ω;rw[Nat.add_comm 1 i];exact decide_eq_true (Int.emod_eq_zero_of_dvd this)
end
structure Pap(k w:Nat)(A:Nat->Tb.Vc)(u ub v vb:Ξ)(st:List Int):Prop where
 lu:u.length=k
 lub:ub.length=k
 lv:v.length=w
 lvb:vb.length=w
 wu:∀r∈u,r.length=k
 wub:∀r∈ub,r.length=k
 wv:∀r∈v,r.length=w
 wvb:∀r∈vb,r.length=w
 mu:∀r∈u,∀x∈r,x.natAbs+1000<low
 mub:∀r∈ub,∀x∈r,x.natAbs+1000<low
 mv:∀r∈v,∀x∈r,x.natAbs+1000<low
 mvb:∀r∈vb,∀x∈r,x.natAbs+1000<low
 u1:∀i j,i<k->j<k->Tb.dot k (fn u i) (fun s=>fn ub s j)=Tb.dl i j
 u2:∀i j,i<k->j<k->Tb.dot k (fn ub i) (fun s=>fn u s j)=Tb.dl i j
 v1:∀i j,i<w->j<w->Tb.dot w (fn v i) (fun s=>fn vb s j)=Tb.dl i j
 v2:∀i j,i<w->j<w->Tb.dot w (fn vb i) (fun s=>fn v s j)=Tb.dl i j
 sk:st.length<=k
 sw:st.length<=w
 sp:∀x∈st,0<x
 sd:∀i,i+1<st.length->vc st i ∣ vc st (i+1)
 s9:∀x∈st,x.natAbs<2 ^ 9000
 sb:∀x∈st,x.natAbs<big
 pr:∀i j,i<k->j<w->Tb.a6 k w A (fn u i) (fun s=>fn v s j)=if i=j/\i<st.length then vc st i else 0
def Pap.su{k w:Nat}{A:Nat->Tb.Vc}{u ub v vb:Ξ}{st:List Int}(p:Pap k w A u ub v vb st):∀r∈u,∀x∈r,x.natAbs<low:=fun r hr x hx=>Aq (A4 _ _) (p.mu r hr x hx)
def Pap.sub{k w:Nat}{A:Nat->Tb.Vc}{u ub v vb:Ξ}{st:List Int}(p:Pap k w A u ub v vb st):∀r∈ub,∀x∈r,x.natAbs<low:=fun r hr x hx=>Aq (A4 _ _) (p.mub r hr x hx)
def Pap.sv{k w:Nat}{A:Nat->Tb.Vc}{u ub v vb:Ξ}{st:List Int}(p:Pap k w A u ub v vb st):∀r∈v,∀x∈r,x.natAbs<low:=fun r hr x hx=>Aq (A4 _ _) (p.mv r hr x hx)
def Pap.svb{k w:Nat}{A:Nat->Tb.Vc}{u ub v vb:Ξ}{st:List Int}(p:Pap k w A u ub v vb st):∀r∈vb,∀x∈r,x.natAbs<low:=fun r hr x hx=>Aq (A4 _ _) (p.mvb r hr x hx)
def Jh{ρ:Nat->Tb.Vc}{c:Nat->Int}{u:Nat}:∀k,Tb.sm ρ c k u=Tb.dot k c (fun a=>ρ a u)
 |0=>rfl
 |k+1=>by show Tb.sm ρ c k u+c k*ρ k u=Tb.dot k c _+c k*ρ k u;rw[Jh k]
def Ji{a b:Tb.Vc}:∀k,Tb.dot k a b=Tb.dot k b a
 |0=>rfl
 |k+1=>by show Tb.dot k a b+a k*b k=Tb.dot k b a+b k*a k;rw[Ji k,Bb]
def Jj{i j:Nat}:Tb.dl i j=Tb.dl j i:=by
 unfold Tb.dl
 by_cases c:i=j
 ·rw[if_pos c,if_pos c.symm]
 ·rw[if_neg c,if_neg (Ne.symm c)]
def Mn{T:Ξ}{K q:Nat}(h:Ent T K):Ent ((Ah q).map (colAt T)) K:=p3 zZ fun i hi u=>by rw[eL hi];exact h u i
section
variable{N n m t e k w r:Nat}{A:Nat->Tb.Vc}{T U Bn V Bf:Ξ}{QU QV:Nat->Nat}
def LS.pap(G:Good N n m)(L:LS N n m t e A k w r T U Bn V Bf QU QV)(h:K27.cQ T=true):Pap k w A U ((Ah k).map (colAt Bn)) ((Ah w).map (colAt V)) Bf (K27.cy T):=by
 obtain⟨hd,f⟩:=L.inSt.mp h;have tT:=L.tT;have rk:=L.li.rk;have E:=L.li.rw;obtain⟨y,g,z⟩:=L.eu;obtain⟨C,l,D⟩:=L.eb;obtain⟨o,p2⟩:=Tb.FW.mp L.li.bu;obtain⟨p,v⟩:=Tb.FW.mp L.li.bv;have ld:(dg r T).length=r:=by unfold dg;simp
 rw[L.slOf];refine⟨L.lU,zZ,zZ,L.lC,L.wU,jO L.lB,jO L.lV,L.wC,G.entM (t:=t) g ω ω,G.entM (t:=t) (Mn l) ω ω,G.entM (t:=t) (Mn L.ev) ω ω,G.entM (t:=t) L.ec ω ω,fun i j hi a=>?_,fun i j hi a=>?_,fun i j hi a=>?_,fun i j hi a=>?_,ω,ω,fun x hx=>?_,fun i hi=>?_,fun x hx=>?_,fun x hx=>?_,fun i j hi a=>?_⟩
 ·rw[<-p2 i j hi a]
  exact Tb.zt fun s b=>eL b j
 ·have:=o i j hi a
  rw[Jh] at this;rw[<-this];exact Tb.zM fun s _=>eL hi s
 ·have:=p j i a hi
  rw[Jh,Ji,Jj] at this;rw[<-this];exact Tb.zM fun s _=>eL hi s
 ·rw[Jj,<-v j i a hi,Ji]
  exact Tb.zM fun s b=>eL b j
 ·obtain⟨i,hi,rfl⟩:=List.mem_map.mp hx
  exact L.li.tp i (List.mem_range.mp hi)
 ·rw[ld] at hi
  have:=f i hi;unfold dg;rw[Jg ω,Jg hi];exact this
 ·obtain⟨i,hi,rfl⟩:=List.mem_map.mp hx
  have hi:=List.mem_range.mp hi;have h1:=L.li.small (u:=i) (i:=i) ω ω;have h2:=hX G;have F:=G.piv;exact Aq h1 (Nat.pow_lt_pow_right ξ ω)
 ·obtain⟨i,hi,rfl⟩:=List.mem_map.mp hx
  have hi:=List.mem_range.mp hi;have h1:=L.li.small (u:=i) (i:=i) ω ω;have I:=G.lim;have h2:=hX G;have H:k0 N n m=2*n+ga N n m+x2 N n m+m2 N n m+N+m:=rfl;exact L8 h1 ω
 ·rw[ld]
  have e1:Tb.a6 k w A (fn U i) (fun s=>fn ((Ah w).map (colAt V)) s j)=Tb.a6 k w A (fn U i) (fn V j):=by
   unfold Tb.a6;exact Tb.zt fun s _=>Tb.zt fun q hq=>eL hq j
  rw[e1,<-L.li.bl j i a hi]
  by_cases c:i=j/\i<r
  ·rw[if_pos c,<-c.1]
   unfold dg;rw[Jg c.2]
  ·rw[if_neg c]
   by_cases d:j<r/\i<r
   ·exact hd j i d.1 d.2 ω
   ·exact L.li.to j i a hi ω
end
end K27
end
section
namespace K27
open PySem L2
abbrev xa:Stmt:=top 35
def Dj(x y:List Addr):Prop:=∀a∈x,∀b∈y,a≠b
def NT.there{H H':Hp}{a:Addr}{ds:List Addr}{tb:Ξ}(h:NT H H' a ds tb):∀z∈a::ds,H' z≠none:=fun z hz=>by
 rcases List.mem_cons.mp hz with rfl|hz
 ·rw[h.at_];simp
 ·exact h.rows.there z hz
def NT.new{H H':Hp}{a:Addr}{ds:List Addr}{tb:Ξ}(h:NT H H' a ds tb):∀z∈a::ds,H z=none:=fun z hz=>by
 rcases List.mem_cons.mp hz with rfl|hz
 ·exact h.na
 ·exact(h.nw z hz).1
def h0{x y:List Addr}{H:Hp}(h1:∀z∈x,H z≠none)(h2:∀z∈y,H z=none):Dj x y:=fun a c b hb e=>h1 a c (e▸h2 b hb)
def xn{tb:Ξ}{k:Nat}(l:tb.length=k)(hw:∀r∈tb,r.length=k)(hk:k<=40):zT tb=true/\turn tb=(Ah k).map (colAt tb)/\wid tb=k:=by
 have e:wid tb=k:=by
  cases c:tb with
  |nil=>rw[c] at l;exact l
  |cons x r=>exact hw x (by rw[c];exact AF ..)
 refine⟨?_,by unfold turn;rw[e],e⟩;unfold zT;rw[e,l,decide_eq_true hk];simp only[Bool.and_self,Bool.true_and,Bj];exact fun r hr=>decide_eq_true (hw r hr)
structure PapH(H H':Hp)(p:Addr)(u ub v vb:Ξ)(st:List Int)(a1 a2 a3 a4 a5:Addr)(d1 d2 d3 d4:List Addr):Prop where
 at_:H' p=some (.tup [.ref a1,.ref a2,.ref a3,.ref a4,.ref a5])
 n1:NT H H' a1 d1 u
 n2:NT H H' a2 d2 ub
 n3:NT H H' a3 d3 v
 n4:NT H H' a4 d4 vb
 n5:H' a5=some (.lst (st.map V.int))
 na:H a5=none
 j12:Dj (a1::d1) (a2::d2)
 j13:Dj (a1::d1) (a3::d3)
 j14:Dj (a1::d1) (a4::d4)
 j15:Dj (a1::d1) [a5]
 j23:Dj (a2::d2) (a3::d3)
 j24:Dj (a4::d4) (a2::d2)
 j25:Dj (a2::d2) [a5]
 j34:Dj (a4::d4) (a3::d3)
 j35:Dj (a3::d3) [a5]
 j45:Dj (a4::d4) [a5]
structure mZ(N n m k w:Nat)(tb:Ξ):Prop where
 good:Good N n m
 l:tb.length=k
 wd:∀r∈tb,r.length=w
 ent:Ent tb (2 ^ m)
 kN:k<=N
 wN:w<=N
def Mo(H:Hp)(Q:VK)(k w:Nat)(A:Nat->Tb.Vc):Prop:=∀H' p u ub v vb st a1 a2 a3 a4 a5 d1 d2 d3 d4,Same H H'->PapH H H' p u ub v vb st a1 a2 a3 a4 a5 d1 d2 d3 d4->Pap k w A u ub v vb st->Q (.ref p) H'
section
variable{P:Program}{w:World}{K:Ab}{mg:Str->Option Value}{base:Heap}
def Jk:Sp:=fun vs H Q _=>∃(L:Addr)(rs:List Addr)(tb:Ξ)(N n m k w:Nat),vs=[.ref L,.int w]/\H L=some (.lst (rs.map V.ref))/\Rws H rs tb/\mZ N n m k w tb/\Mo H Q k w (fn tb)
def m5:zl ["table","width","size","near","far"] ["table","width"] (zd xa):=⟨rfl,rfl,rfl,δ,rfl,δ,δ⟩
def RG{f fs fu fc fk fi fo fp fl:Addr}{fd aB gI aD gX ej cU ck aR:FuncData}(F:Fun K "paper_of" "paper_of" xa f fd)(bl:mg "len"=none)(Fs:Fun K "straightened" "straightened" dw fs aB)(bs:Binds K aB ["side","width"] [])(ms:mg "straightened"=some (.ref fs))(Gs:FnOk P w K mg base aJ 5 fs aB ["side","width"] LO)(Fu:Fun K "unit" "unit" vB fu gI)(bu:Binds K gI ["size"] [])(mu:mg "unit"=some (.ref fu))(Gu:FnOk P w K mg base aJ 3 fu gI ["size"] IV)(Fc:Fun K "columns_to" "columns_to" o8 fc aD)(bc:Binds K aD ["table","width"] [])(mc:mg "columns_to"=some (.ref fc))(Gc:FnOk P w K mg base aJ 2 fc aD ["table","width"] (HZ K))(Fk:Fun K "columns_of" "columns_of" iN fk gX)(bk:Binds K gX ["table"] [])(mk:mg "columns_of"=some (.ref fk))(Gk:FnOk P w K mg base aJ 3 fk gX ["table"] (ka K))(Fi:Fun K "is_in_steps" "is_in_steps" FZ fi ej)(bi:Binds K ej ["table"] [])(mi:mg "is_in_steps"=some (.ref fi))(Gi:FnOk P w K mg base aJ 3 fi ej ["table"] LX)(Fo:Fun K "is_on_slope" "is_on_slope" wk fo cU)(bo:Binds K cU ["table"] [])(mo:mg "is_on_slope"=some (.ref fo))(Go:FnOk P w K mg base aJ 2 fo cU ["table"] I_)(Fp:Fun K "slope_of" "slope_of" wo fp ck)(bp:Binds K ck ["table"] [])(mp:mg "slope_of"=some (.ref fp))(Gp:FnOk P w K mg base aJ 1 fp ck ["table"] Ja)(Fl:Fun K "slid" "slid" FY fl aR)(bd:Binds K aR ["side","count"] [])(ml:mg "slid"=some (.ref fl))(Gl:FnOk P w K mg base aJ 2 fl aR ["side","count"] LQ):FnOk P w K mg base aJ 6 f fd ["table","width"] Jk:=by
 refine F.ok m5 (fun vs H Q E h=>?_) (fun ah A outer s H vs Q E hr h=>?_)
 ·obtain⟨L,rs,tb,N,n,m,k,d,rfl,_⟩:=h;rfl
 ·obtain⟨L,rs,tb,N,n,m,k,d,rfl,hL,hT,ok,kk⟩:=h
  have M:Room 3 _:=hr.mono ξ;have hr2:Room 2 _:=hr.mono ξ;have hr1:Room 1 _:=hr.mono ξ;refine⟨_,za (zr (i:=2) m5.nd rfl (Or.inl rfl) (zj zi rfl bl cx (af (pv 0) ak)))
   (za (zr (i:=3) m5.nd rfl (Or.inl rfl) (ze Gs hr rfl ms Fs.kp bs .nil ap (af (fE (af (pv 0) (af (ze Gu M rfl mu Fu.kp bu .nil ap (af (pv 2) ak)) (af (ze Gu M rfl mu Fu.kp bu .nil ap (af (pv 2) ak)) ak)))) (af (pv 1) ak))))
   (za (zr (i:=4) m5.nd rfl (Or.inl rfl) (ze Gs hr rfl ms Fs.kp bs .nil ap (af (fE (af (ze Gc hr2 rfl mc Fc.kp bc .nil ap (af (zy zE (pv 3) zb (fun _ _=>rfl)) (af (pv 1) ak))) (af (ze Gu M rfl mu Fu.kp bu .nil ap (af (pv 1) ak)) (af (ze Gu M rfl mu Fu.kp bu .nil ap (af (pv 1) ak)) ak)))) (af (pv 2) ak))))
   (za (B9 PassesOwn.never (eZ (eD (ze Gi M rfl mi Fi.kp bi .nil ap (af (zy zE (pv 4) zb (fun _ _=>rfl)) ak))))
    (za (zr (i:=3) m5.nd rfl (Or.inl rfl) (fE (af (ze Gc hr2 rfl mc Fc.kp bc .nil ap (af (zy zE (pv 4) zb (fun _ _=>rfl)) (af (pv 2) ak))) (af (zy zE (pv 3) zb (fun _ _=>rfl)) (af (zy zE (pv 3) zb (fun _ _=>rfl)) ak)))))
    (za (zr (i:=3) m5.nd rfl (Or.inl rfl) (qA (eD (ze Go hr2 rfl mo Fo.kp bo .nil ap (af (zy zE (pv 4) zb (fun _ _=>rfl)) ak)))
     (ze Gl hr2 rfl ml Fl.kp bd .nil ap (af (pv 3) (af (zj zi rfl bl cx (af (ze Gp hr1 rfl mp Fp.kp bp .nil ap (af (zy zE (pv 4) zb (fun _ _=>rfl)) ak)) ak)) ak)))
     (ze Gs hr rfl ms Fs.kp bs .nil ap (af (pv 3) (af (pv 1) ak)))))
    (zf (zr (i:=4) m5.nd rfl (Or.inl rfl) (ze Gs hr rfl ms Fs.kp bs .nil ap (af (fE (af (ze Gc hr2 rfl mc Fc.kp bc .nil ap (af (zy zE (pv 3) zb (fun _ _=>rfl)) (af (pv 1) ak))) (af (zy zE (pv 4) zb (fun _ _=>rfl)) (af (zy zE (pv 4) zb (fun _ _=>rfl)) ak)))) (af (pv 2) ak))))))))
   (zf (zo (fE (af (zy zE (pv 3) zb (fun _ _=>rfl)) (af (ze Gk M rfl mk Fk.kp bk .nil ap (af (zy zE (pv 3) zb (fun _ _=>rfl)) ak)) (af (ze Gk M rfl mk Fk.kp bk .nil ap (af (zy zE (pv 4) zb (fun _ _=>rfl)) ak)) (af (zy zE (pv 4) zb (fun _ _=>rfl)) (af (ze Gp hr1 rfl mp Fp.kp bp .nil ap (af (zy zE (pv 4) zb (fun _ _=>rfl)) ak)) ak))))))))))),?_⟩
  have bj:=hT.len;have G:=ok.good;have N40:=G.N40;have kN:=ok.kN;have wN:=ok.wN;refine⟨_,rfl,L,_,rfl,.inl (SqL.of hL),?_⟩;rw[Aa,bj,ok.l];refine⟨_,rfl,_,rfl,k,rfl,ω,fun u1 H1 um s1 Fq nK DA Ec DH=>⟨_,rfl,k,rfl,ω,fun u2 H2 xC s2 Ek kD yE EV EE=>⟨by show 3<=sizeLine;decide,fun t1 nY=>⟨_,rfl,?_⟩⟩⟩⟩;have sq:=Same.new (o:=.tup [V.ref L,V.ref u1,V.ref u2]) nY;have S1:=wR G ok.kN ok.wN ok.l ok.wd ok.ent;refine⟨t1,L,u1,u2,rs,um,xC,tb,unT k,unT k,_,_,_,_,_,d,k,rfl,al,((s1.trans s2).trans sq) _ _ hL,(s2.trans sq) _ _ nK,sq _ _ kD,hT.same ((s1.trans s2).trans sq),DA.same (s2.trans sq),yE.same sq,S1.ok,fun P1 j5 tn an v I CA W fh H3 F1 W1 s3 X ju b y=>?_⟩;have D1:=S1.done F1 W1;have cu:=((s1.trans s2).trans sq).trans s3;have ju:=ju.old ((s1.trans s2).trans sq);have b:=b.old ((s1.trans s2).trans sq);have y:=y.old ((s1.trans s2).trans sq);generalize (P1.map fun p=>(j5 p).take d)=S at D1 ju;generalize (P1.map fun p=>(j5 p).drop d)=U at D1 b;generalize iV k ((cat tb (unT k)).map fun r=>shrL j5 r P1) (unT k)=Bn at D1 y;refine⟨_,rfl,tn,_,_,_,rfl,rfl,SqT.of X,zh (j:=0) rfl,_,rfl,an,CA,S,d,rfl,SqL.of ju.at_,ju.rows,by rw[D1.l1];(first|lia|omega),ω,fun r hr=>Nat.le_of_eq (D1.w1 r hr).symm,fun c1 H4 jJ s4 ip gY m_ pD pP=>?_⟩;refine⟨_,rfl,d,rfl,ω,fun u3 H5 Dx s5 Ep nJ yS D0 DF=>⟨_,rfl,d,rfl,ω,fun u4 H6 uJ s6 nv mU u6 Fd DI=>⟨by show 3<=sizeLine;decide,fun t2 nE=>⟨_,rfl,?_⟩⟩⟩⟩;have Z:=Same.new (o:=.tup [V.ref c1,V.ref u3,V.ref u4]) nE;have S2:=wW G ok.l ok.wd ok.ent ok.kN ok.wN D1;have fj:=((s4.trans s5).trans s6).trans Z;refine⟨t2,c1,u3,u4,jJ,Dx,uJ,_,unT d,unT d,_,_,_,_,_,k,d,rfl,al,((s5.trans s6).trans Z) _ _ gY,(s6.trans Z) _ _ nJ,Z _ _ mU,m_.same ((s5.trans s6).trans Z),yS.same (s6.trans Z),u6.same Z,S2.ok,fun P2 iL D O bf J dP gg eA H7 F2 W2 s7 u c C g=>?_⟩;have D2:=S2.done F2 W2;obtain⟨r,QU,QV,LL⟩:=RC G ok.l ok.wd ok.ent ok.kN ok.wN D1 D2;have jt:=fj.trans s7;have jo:=cu.trans jt;have jj:Dj (v::W) (J::eA):=h0 (b.same fj).there g.new;have c:=c.old (cu.trans fj);have C:=C.old (cu.trans fj);have g:=g.old (cu.trans fj);have b:=b.same jt;have y:=y.same jt;have X:=jt _ _ X;generalize (P2.map fun p=>(iL p).take k)=T at D2 c LL;generalize (P2.map fun p=>(iL p).drop k)=V at D2 C LL;generalize iV d ((cat ((Ah d).map (colAt S)) (unT d)).map fun r=>shrL iL r P2) (unT d)=Bf at D2 g LL;refine⟨fun q σ H8=>∃(t e:Nat)(T U Bn V Bf:Ξ)(QU QV:Nat->Nat)(tn an v I D O bf J:Addr)(W fh dP gg eA:List Addr),q=Tm N n m-t/\σ=[some (.ref L),some (.int d),some (.int k),some (.ref tn),some (.ref D)]/\Same H H8/\H8 tn=some (.tup [.ref an,.ref v,.ref I])/\H8 D=some (.tup [.ref O,.ref bf,.ref J])/\NT H H8 v W U/\NT H H8 I fh Bn/\NT H H8 O dP T/\NT H H8 bf gg V/\NT H H8 J eA Bf/\Dj (v::W) (J::eA)/\LS N n m t e (fn tb) k d r T U Bn V Bf QU QV,
   ⟨_,0,0,T,U,Bn,V,Bf,QU,QV,tn,an,v,I,D,O,bf,J,W,fh,dP,gg,eA,rfl,rfl,jo,X,u,b,y,c,C,g,jj,LL⟩,?_⟩
  clear LL jj g C c D2 u jo jt S2 fj Z D1 S1 X y b;rintro q σ H8 ⟨t,e,T,U,Bn,V,Bf,QU,QV,tn,an,v,I,D,O,bf,J,W,fh,dP,gg,eA,rfl,rfl,s8,X,u,b,y,c,C,g,jj,LL⟩;have i9:T.length<=1000:=by rw[LL.lT];(first|lia|omega)
  have wT9:∀x∈T,x.length<=1000:=fun x hx=>by rw[LL.wT x hx];(first|lia|omega)
  refine⟨_,rfl,D,_,_,_,rfl,rfl,SqT.of u,zh (j:=0) rfl,O,dP,T,rfl,c.at_,c.rows,i9,wT9,fun H9 a=>⟨_,rfl,?_⟩⟩;have X:=a _ _ X;have u:=a _ _ u;have b:=b.same a;have y:=y.same a;have c:=c.same a;have C:=C.same a;have g:=g.same a;have a:=s8.trans a;clear s8;cases eM:cQ T with
  |true=>
   refine av ?_;obtain⟨i1,i2,_⟩:=xn LL.lB LL.wB ω;obtain⟨j1,j2,_⟩:=xn LL.lV LL.wV ω;refine⟨_,rfl,tn,_,_,_,rfl,rfl,SqT.of X,zh (j:=1) rfl,_,rfl,tn,_,_,_,rfl,rfl,SqT.of X,zh (j:=2) rfl,I,fh,Bn,rfl,SqL.of y.at_,y.rows,i1,fun a2 Ha d2 sa wD oy sH yT wy=>?_⟩;rw[i2] at sH;refine⟨_,rfl,D,_,_,_,rfl,rfl,SqT.of (sa _ _ u),zh (j:=1) rfl,bf,gg,V,rfl,SqL.of (sa _ _ C.at_),C.rows.same sa,j1,fun a3 Hb d3 Y vY kW pJ B8 tK=>?_⟩;rw[j2] at pJ;have gB:=sa.trans Y;refine⟨_,rfl,D,_,_,_,rfl,rfl,SqT.of (gB _ _ u),zh (j:=2) rfl,_,rfl,D,_,_,_,rfl,rfl,SqT.of (gB _ _ u),zh (j:=0) rfl,O,dP,T,rfl,gB _ _ c.at_,c.rows.same gB,i9,fun a5 Hc sc oR nC=>⟨by show 5<=sizeLine;decide,fun p hp=>?_⟩⟩;have sp:=Same.new (o:=.tup [.ref v,.ref a2,.ref a3,.ref J,.ref a5]) hp;have n2:NT H9 Ha a2 d2 _:=⟨oy,sH,yT,wD,wy⟩;have n3:NT Ha Hb a3 d3 _:=⟨kW,pJ,B8,vY,tK⟩;have oz:=gB.trans sc;have e5:∀z∈[a5],Hb z=none:=fun z hz=>by rw[List.mem_singleton.mp hz];exact oR
   refine kk _ p _ _ _ _ _ v a2 a3 J a5 W d2 d3 eA ((a.trans oz).trans sp) ⟨al,(b.same oz).same sp,((n2.same (Y.trans sc)).same sp).old a,((n3.same sc).same sp).old (a.trans sa),(g.same oz).same sp,sp _ _ nC,a.free (gB.free oR),h0 b.there n2.new,h0 (b.same sa).there n3.new,jj,h0 (b.same gB).there e5,h0 n2.there n3.new,h0 g.there n2.new,h0 (n2.same Y).there e5,h0 (g.same sa).there n3.new,h0 n3.there e5,h0 (g.same gB).there e5⟩ (LL.pap G eM)
  |false=>
   refine aT ⟨fun ai H'=>∃q,q<Tm N n m-t/\∃(t e:Nat)(T U Bn V Bf:Ξ)(QU QV:Nat->Nat)(tn an v I D O bf J:Addr)(W fh dP gg eA:List Addr),q=Tm N n m-t/\ai=[some (.ref L),some (.int d),some (.int k),some (.ref tn),some (.ref D)]/\Same H H'/\H' tn=some (.tup [.ref an,.ref v,.ref I])/\H' D=some (.tup [.ref O,.ref bf,.ref J])/\NT H H' v W U/\NT H H' I fh Bn/\NT H H' O dP T/\NT H H' bf gg V/\NT H H' J eA Bf/\Dj (v::W) (J::eA)/\LS N n m t e (fn tb) k d r T U Bn V Bf QU QV,fun ai H' h=>h,?_⟩;refine⟨_,rfl,D,_,_,_,rfl,rfl,SqT.of u,zh (j:=0) rfl,_,rfl,O,dP,T,k,rfl,SqL.of c.at_,c.rows,i9,ω,fun x hx=>Nat.le_of_eq (LL.wT x hx).symm,fun c1 Ha jJ sa ip gY m_ pD pP=>?_⟩;refine⟨_,rfl,tn,_,_,_,rfl,rfl,SqT.of (sa _ _ X),zh (j:=1) rfl,_,rfl,tn,_,_,_,rfl,rfl,SqT.of (sa _ _ X),zh (j:=2) rfl,by show 3<=sizeLine;decide,fun t1 nY=>?_⟩;have sq:=Same.new (o:=.tup [.ref c1,.ref v,.ref I]) nY;have ei:upd Ha t1 (.tup [.ref c1,.ref v,.ref I]) t1=some (.tup [.ref c1,.ref v,.ref I]):=al;have cH:NT H9 Ha c1 jJ _:=⟨gY,m_,pD,ip,pP⟩;have cH:=(cH.same sq).old a;have Y:=sa.trans sq;generalize upd Ha t1 (.tup [.ref c1,.ref v,.ref I])=Hb at ei cH Y ⊢;have u:=Y _ _ u;have b:=b.same Y;have y:=y.same Y;have c:=c.same Y;have C:=C.same Y;have g:=g.same Y;have a:=a.trans Y;refine⟨_,rfl,D,_,_,_,rfl,rfl,SqT.of u,zh (j:=0) rfl,O,dP,T,rfl,c.at_,c.rows,i9,wT9,fun Hd sd=>⟨_,rfl,?_⟩⟩;have u:=sd _ _ u;have ei:=sd _ _ ei;have cH:=cH.same sd;have b:=b.same sd;have y:=y.same sd;have c:=c.same sd;have C:=C.same sd;have g:=g.same sd;have a:=a.trans sd;have jz:¬(Tb.Dg r (fn T)/\∀i,i+1<r->fn T i i ∣ fn T (i+1) (i+1)):=fun h=>by have:=LL.inSt.mpr h;rw[eM] at this;cases this
   apply share (S:=fun fU He=>∃(e':Nat)(S' U' ia:Ξ)(S0 U0:Nat->Tb.Vc)(a' b' c':Addr)(eh dI dY:List Addr),Same Hd He/\He fU=some (.tup [.ref a',.ref b',.ref c'])/\NT H He a' eh S'/\NT H He b' dI U'/\NT H He c' dY ia/\LH N n m t e' (fn tb) k d r T S' U' ia V Bf S0 U0 QU QV)
   ·intro fin hc
    have hd:¬Tb.Dg r (fn T):=fun h=>hc (LL.onSl.mpr h);have S1:=LL.side G;refine⟨_,rfl,_,rfl,t1,c1,v,I,jJ,W,fh,_,U,Bn,_,_,_,_,_,d,k,rfl,ei,cH.at_,b.at_,y.at_,cH.rows,b.rows,y.rows,S1.ok,fun P1 j5 fU a' b' c' eh dI dY He F1 W1 se dj ik il jB=>fin fU He ?_⟩;exact⟨0,_,_,_,_,_,a',b',c',eh,dI,dY,se,dj,ik.old a,il.old a,jB.old a,LL.near G hd (S1.done F1 W1)⟩
   ·intro fin hc
    have hd:Tb.Dg r (fn T):=LL.onSl.mp hc;have hn:¬∀i,i+1<r->fn T i i ∣ fn T (i+1) (i+1):=fun h=>jz ⟨hd,h⟩;have hr1:1<=r:=by
     rcases Nat.eq_zero_or_pos r with z|z
     ·exact absurd (fun i hi=>ω) hn
     ·exact z
    refine⟨_,rfl,_,rfl,D,_,_,_,rfl,rfl,SqT.of u,zh (j:=0) rfl,O,dP,T,rfl,c.at_,c.rows,i9,fun D5 H5 s5 eK e5=>⟨D5,_,rfl,.inl (SqL.of e5),?_⟩⟩;have Dh:(K27.cy T).length=r:=by rw[LL.slOf];unfold dg;simp
    rw[Aa,Dh];refine⟨H,t1,c1,v,I,jJ,W,fh,_,U,Bn,k,r,rfl,s5 _ _ ei,a.trans s5,cH.same s5,b.same s5,y.same s5,zZ,LL.lU,LL.lB,hr1,LL.li.rk,ω,LL.slSml G,fun fU a' b' c' eh dI dY He se dj ik il jB=>fin fU He ?_⟩;exact⟨_,_,_,_,_,_,a',b',c',eh,dI,dY,s5.trans se,dj,ik,il,jB,LL.slid G hr1 hd hn⟩
   ·rintro fU He ⟨e',S',U',ia,S0,U0,a',b',c',eh,dI,dY,se,dj,ik,il,jB,LH⟩
    have u:=se _ _ u;have C:=C.same se;have g:=g.same se;have a:=a.trans se;refine⟨_,rfl,fU,_,_,_,rfl,rfl,SqT.of dj,zh (j:=0) rfl,_,rfl,a',eh,S',d,rfl,SqL.of ik.at_,ik.rows,by rw[LH.lS];(first|lia|omega),ω,fun x hx=>Nat.le_of_eq (LH.wS x hx).symm,fun c2 Hg BN sg ER oO xj DE EM=>?_⟩;refine⟨_,rfl,D,_,_,_,rfl,rfl,SqT.of (sg _ _ u),zh (j:=1) rfl,_,rfl,D,_,_,_,rfl,rfl,SqT.of (sg _ _ u),zh (j:=2) rfl,by show 3<=sizeLine;decide,fun t2 nE=>?_⟩;have Z:=Same.new (o:=.tup [.ref c2,.ref bf,.ref J]) nE;have sh:=sg.trans Z;have S2:=LH.side G;refine⟨_,rfl,t2,c2,bf,J,BN,gg,eA,_,V,Bf,_,_,_,_,_,k,d,rfl,al,Z _ _ oO,sh _ _ C.at_,sh _ _ g.at_,xj.same Z,C.rows.same sh,g.rows.same sh,S2.ok,fun P2 iL vj x8 ue yz lG my og Hi F2 W2 si nW kE mB i4=>?_⟩;have D2:=S2.done F2 W2;have L2:=LH.next G D2;have s0:=a.trans sh;have tm:=L2.tm;exact⟨_,ω,t+1,e',_,U',ia,_,_,QU,QV,fU,a',b',c',vj,x8,ue,yz,dI,dY,lG,my,og,rfl,rfl,s0.trans si,(sh.trans si) _ _ dj,nW,il.same (sh.trans si),jB.same (sh.trans si),kE.old s0,mB.old s0,i4.old s0,h0 (il.same sh).there i4.new,L2⟩
end
end K27
end
section
namespace Tb
def Mp{k:Nat}{a b:Vc}{q:Int}(h:∀t,t<k->q ∣ b t):q ∣ dot k a b:=by
 induction k with
 |zero=>exact Int.dvd_zero _
 |succ k ih=>exact Int.dvd_add (ih fun t c=>h t ω) (Int.dvd_trans (h k ω) (Int.dvd_mul_left _ _))
def Jl{k:Nat}{x c:Vc}{Z:Nat->Vc}{e:Vc}:∀n,dot n (fun j=>dot k x (fun l=>c l*Z l j)) e=dot k x (fun l=>c l*dot n (Z l) e)
 |0=>by
  show(0:Int)=dot k x (fun l=>c l*0);have:∀k,dot k x (fun l=>c l*0)=0:=fun k=>by
   induction k with
   |zero=>rfl
   |succ k ih=>show dot k x _+x k*(c k*0)=0;rw[ih];simp
  rw[this]
 |n+1=>by
  show dot n _ e+dot k x (fun l=>c l*Z l n)*e n=dot k x (fun l=>c l*(dot n (Z l) e+Z l n*e n));rw[Jl n,Bb _ (e n),Int.add_comm,<-pF];exact zt fun l _=>by
   show e n*(c l*Z l n)+c l*dot n (Z l) e=c l*(dot n (Z l) e+Z l n*e n);rw[Int.mul_add,Bb (e n),AW,Int.add_comm]
def Jm{n i:Nat}{s:Int}{e:Vc}(hi:i<n):dot n (fun j=>if i=j then s else 0) e=s*e i:=by
 have:∀m,m<=n->dot m (fun j=>if i=j then s else 0) e=if i<m then s*e i else 0:=by
  intro m
  induction m with
  |zero=>intro _;rw[if_neg ω];rfl
  |succ m ih=>
   intro b;show dot m _ e+(if i=m then s else 0)*e m=_;rw[ih ω]
   by_cases c:i=m
   ·subst c;rw[if_neg ω,if_pos rfl,if_pos ω];(first|lia|omega)
   ·rw[if_neg c]
    by_cases a:i<m
    ·rw[if_pos a,if_pos ω];(first|lia|omega)
    ·rw[if_neg a,if_neg ω];(first|lia|omega)
 rw[this n (Af _),if_pos hi]
def RH{n:Nat}{z a b:Vc}:dot n z (fun j=>a j-b j)=dot n z a-dot n z b:=by
 have:=pF (k:=n) (a:=z) (b:=b) (b':=a) (x:=-1);rw[show dot n z a-dot n z b=-1*dot n z b+dot n z a from ω,<-this];exact zt fun t _=>ω
def bq(q:Nat)(s:Int):Nat:=q / Nat.gcd s.natAbs q
def Gq{q:Nat}{s:Int}:Nat.gcd s.natAbs q*bq q s=q:=Nat.mul_div_cancel' (Nat.gcd_dvd_right _ _)
def Gv{q:Nat}{s:Int}(hq:1<=q):1<=bq q s:=by
 rcases Nat.eq_zero_or_pos (bq q s) with z|z
 ·have:=Gq (q:=q) (s:=s);rw[z] at this;(first|lia|omega)
 ·exact z
def RI{q:Nat}{s:Int}(hq:1<=q)(h:¬(q:Int) ∣ s):2<=bq q s:=by
 have h1:=Gv (s:=s) hq;rcases Be (bq q s) 2 with c|c
 ·have e:=Gq (q:=q) (s:=s)
  rw[show bq q s=1 from ω,Nat.mul_one] at e;refine absurd ?_ h;have:=Nat.gcd_dvd_left s.natAbs q;rw[e] at this;exact Int.ofNat_dvd_left.mpr this
 ·exact c
def RJ{q:Nat}{s y:Int}(h:(bq q s:Int) ∣ y):(q:Int) ∣ s*y:=by
 obtain⟨f,rfl⟩:=h;obtain⟨i,j⟩:=Nat.gcd_dvd_left s.natAbs q;have e:=Gq (q:=q) (s:=s);have hd:((Nat.gcd s.natAbs q:Nat):Int) ∣ s:=Int.ofNat_dvd_left.mpr (Nat.gcd_dvd_left _ _);obtain⟨c,d⟩:=hd;refine⟨c*f,?_⟩;have a:(q:Int)=(Nat.gcd s.natAbs q:Nat)*(bq q s:Nat):=by rw[<-Int.natCast_mul,e]
 clear j i e;generalize ((Nat.gcd s.natAbs q:Nat):Int)=g at d a;generalize ((bq q s:Nat):Int)=b at a ⊢;rw[a,d,AW,AW,Int.mul_left_comm c]
def RK{q:Nat}{s e:Int}(hq:1<=q)(h:(q:Int) ∣ s*e):(bq q s:Int) ∣ e:=by
 have h1:q ∣ s.natAbs*e.natAbs:=by rw[<-AK];exact Int.ofNat_dvd_left.mp h
 have a:0<Nat.gcd s.natAbs q:=Nat.gcd_pos_of_pos_right _ hq;have b:Nat.Coprime (bq q s) (s.natAbs / Nat.gcd s.natAbs q):=(Nat.coprime_div_gcd_div_gcd a).symm;have es:s.natAbs=Nat.gcd s.natAbs q*(s.natAbs / Nat.gcd s.natAbs q):=(Nat.mul_div_cancel' (Nat.gcd_dvd_left _ _)).symm;have h2:Nat.gcd s.natAbs q*bq q s ∣ Nat.gcd s.natAbs q*((s.natAbs / Nat.gcd s.natAbs q)*e.natAbs):=by
  rw[Gq,<-AO,<-es];exact h1
 have c:bq q s ∣ (s.natAbs / Nat.gcd s.natAbs q)*e.natAbs:=Nat.dvd_of_mul_dvd_mul_left a h2;exact Int.ofNat_dvd_left.mpr (b.dvd_of_dvd_mul_left c)
def Mq:∀{l:List Nat},(∀x∈l,1<=x)->1<=pr l
 |[],_=>Af _
 |t::l,h=>Nat.mul_pos (h t (.head _)) (Mq fun x hx=>h x (.tail _ hx))
def Mr{k w i q:Nat}{s s':Nat->Int}{X Z:Nat->Vc}(E:∀a j,a<k->j<w->dot k (X a) (fun l=>s' l*Z l j)=if a=j then s a else 0)(hk:i<k)(hw:i<w)(hq:1<=q)(F:∀l,i<=l->l<k->(q:Int) ∣ s' l)(G:∀j,j<i->s j=s' j):(q:Int) ∣ s i:=by
 refine AN fun no=>?_;have A:=RI hq no
 let g:List Int->List Int:=fun c=>(Ah i).map fun l=>dot (i+1) (Z l) (vl c)%(bq q (s l):Int)
 have big:(allb ((Ah i).map fun j=>bq q (s j))).length<(allb ((Ah (i+1)).map fun j=>bq q (s j))).length:=by
  rw[kw,kw,List.range_succ,Aw,vd];have:=Mq (l:=(Ah i).map fun j=>bq q (s j)) fun x hx=>by
   obtain⟨j,_,rfl⟩:=List.mem_map.mp hx;exact Gv hq
  show _<_*(bq q (s i)*1);rw[Nat.mul_one];have h2:pr ((Ah i).map fun j=>bq q (s j))*2<=pr ((Ah i).map fun j=>bq q (s j))*bq q (s i):=Ak _ A;(first|lia|omega)
 obtain⟨c,hc,d,hd,ne,e⟩:=eF g _ _ (pA _) (fun c _=>jr.mpr ⟨by simp[g],fun l x t hx b=>by
  simp only[g,Aj] at hx b
  by_cases f:l<i
  ·rw[AU f] at hx b
   simp at hx b;subst hx b;have:(0:Int)<(bq q (s l):Int):=by have:=Gv (s:=s l) hq;(first|lia|omega)
   exact⟨Int.emod_nonneg _ ω,Int.emod_lt_of_pos _ this⟩
  ·rw[List.getElem?_eq_none (by simpa using f)] at hx;cases hx⟩) big
 obtain⟨v,y⟩:=jr.mp hc;obtain⟨ld,bd⟩:=jr.mp hd;rw[Aa,A6] at v ld;have o:∀a,a<=i->(q:Int) ∣ s a*(vl c a-vl d a):=fun a H=>by
  have h1:dot (i+1) (fun j=>dot k (X a) (fun l=>s' l*Z l j)) (fun j=>vl c j-vl d j)=s a*(vl c a-vl d a):=by
   rw[<-Jm (n:=i+1) (e:=fun j=>vl c j-vl d j) (show a<i+1 from ω)];exact zM fun j I=>E a j ω ω
  rw[<-h1,Jl];refine Mp fun l f=>?_;rcases Be l i with c1|c1
  ·rw[<-G l c1]
   refine RJ ?_;rw[RH];have e2:dot (i+1) (Z l) (vl c)%(bq q (s l):Int)=dot (i+1) (Z l) (vl d)%(bq q (s l):Int):=by
    have:=congrArg (fun x:List Int=>x[l]?) e;simp only[g,Aj,AU c1] at this;exact AL this
   exact Int.dvd_of_emod_eq_zero (by rw[Int.sub_emod,e2];simp)
  ·exact Int.dvd_trans (F l c1 f) (Int.dvd_mul_right _ _)
 refine ne (AZ ω fun a h1 h2=>?_);have r:=RK hq (o a ω);have C:vl c a=c[a]:=by unfold vl;rw[Ad,Ac h1];rfl
 have p:vl d a=d[a]:=by unfold vl;rw[Ad,Ac h2];rfl
 rw[C,p] at r;have u:((Ah (i+1)).map fun j=>bq q (s j))[a]?=some (bq q (s a)):=by rw[Aj,AU ω];rfl
 have J:=y a _ _ (Ac h1) u;have L:=bd a _ _ (Ac h2) u;obtain⟨z,hz⟩:=r;have M:=Gv (s:=s a) hq;have D:z=0:=by
  rcases Int.lt_trichotomy z 0 with h|h|h
  ·have:(bq q (s a):Int)*z<=(bq q (s a):Int)*(-1):=Int.mul_le_mul_of_nonneg_left ω ω
   (first|lia|omega)
  ·exact h
  ·have:(bq q (s a):Int)*1<=(bq q (s a):Int)*z:=Int.mul_le_mul_of_nonneg_left ω ω
   (first|lia|omega)
 rw[D,Int.mul_zero] at hz;(first|lia|omega)
def RL{k w:Nat}{s s':Nat->Int}{X Z u v:Nat->Vc}(g:∀a j,a<k->j<w->dot k (X a) (fun l=>s' l*Z l j)=if a=j then s a else 0)(r:∀a j,a<k->j<w->dot k (u a) (fun l=>s l*v l j)=if a=j then s' a else 0)(f:∀i,0<=s i)(d:∀i,0<=s' i)(hd:∀i l,i<=l->l<k->s i ∣ s l)(e:∀i l,i<=l->l<k->s' i ∣ s' l):∀i,i<k->i<w->s i=s' i:=by
 intro i
 induction i using Nat.strongRecOn with
 |_ i ih=>
  intro hk hw;have go:∀{s s':Nat->Int}{X Z:Nat->Vc},(∀a j,a<k->j<w->dot k (X a) (fun l=>s' l*Z l j)=if a=j then s a else 0)->(∀i,0<=s i)->(∀i,0<=s' i)->(∀i l,i<=l->l<k->s' i ∣ s' l)->(∀j,j<i->s j=s' j)->s' i ∣ s i:=by
   intro s s' X Z g f d e o
   by_cases z:s' i=0
   ·have p:∀l,i<=l->l<k->s' l=0:=fun l h1 h2=>by
     have:=e i l h1 h2;rw[z] at this;exact Int.zero_dvd.mp this
    have hb:=f i;have:=Mr (q:=(s i).toNat+1) g hk hw ω (fun l h1 h2=>by rw[p l h1 h2];exact Int.dvd_zero _) o;rw[z];refine Int.zero_dvd.mpr ?_;rcases Int.lt_or_le 0 (s i) with c|c
    ·have:=Int.le_of_dvd c this
     (first|lia|omega)
    ·(first|lia|omega)
   ·have hp:=d i
    have:=Mr (q:=(s' i).toNat) g hk hw ω (fun l h1 h2=>by rw[Int.toNat_of_nonneg hp];exact e i l h1 h2) o
    rwa [Int.toNat_of_nonneg hp] at this
  have a:=go g f d e fun j h=>ih j h ω ω;have b:=go r d f hd fun j h=>(ih j h ω ω).symm;exact Int.dvd_antisymm (f i) (d i) b a
def m7{n k:Nat}{x y:Vc}{B:Nat->Vc}:dot n (fun l=>dot k x (fun s=>B s l)) y=dot k x (fun s=>dot n (B s) y):=by
 have:=Jl (k:=k) (x:=x) (c:=fun _=>1) (Z:=B) (e:=y) n;have e1:dot n (fun j=>dot k x (fun l=>(1:Int)*B l j)) y=dot n (fun l=>dot k x (fun s=>B s l)) y:=zM fun t _=>zt fun s _=>Int.one_mul _;have e2:dot k x (fun l=>(1:Int)*dot n (B l) y)=dot k x (fun s=>dot n (B s) y):=zt fun s _=>Int.one_mul _;rw[<-e1,this,e2]
def iX{a b:Vc}:∀k,dot k a b=dot k b a
 |0=>rfl
 |k+1=>by show dot k a b+a k*b k=dot k b a+b k*a k;rw[iX k,Bb]
def Ms{k w n:Nat}{A U:Nat->Vc}{X y:Vc}:a6 k w A (fun t=>dot n X (fun l=>U l t)) y=dot n X (fun l=>a6 k w A (U l) y):=by
 unfold a6;exact m7
def Jn{k w n:Nat}{A V:Nat->Vc}{x Z:Vc}:a6 k w A x (fun t=>dot n Z (fun l=>V l t))=dot n Z (fun l=>a6 k w A x (V l)):=by
 unfold a6;have e:dot k x (fun s=>dot w (A s) (fun t=>dot n Z (fun l=>V l t)))=dot k x (fun s=>dot n (fun l=>dot w (A s) (V l)) Z):=zt fun s _=>by
  rw[iX w,m7,iX n];exact zM fun l _=>iX w
 rw[e,<-m7,iX n]
end Tb
end
section
namespace K27
open PySem L2
def Mt{n:Nat}{x:Tb.Vc}{B U:Nat->Tb.Vc}(h:∀i j,i<n->j<n->Tb.dot n (B i) (fun s=>U s j)=Tb.dl i j){t:Nat}(a:t<n):Tb.dot n (fun l=>Tb.dot n x (fun s=>B s l)) (fun l=>U l t)=x t:=by
 rw[Tb.m7,<-Tb.Iu (k:=n) (x:=x) a];exact Tb.zt fun s b=>h s t b a
def Mu{k w:Nat}{A b:Nat->Tb.Vc}{x x' y a:Tb.Vc}(e:∀s t,s<k->t<w->A s t=b s t)(hx:∀t,t<k->x t=x' t)(hy:∀t,t<w->y t=a t):Tb.a6 k w A x y=Tb.a6 k w b x' a:=by
 unfold Tb.a6;rw[Tb.zM hx];exact Tb.zt fun s c=>by
  rw[Tb.zt hy];exact Tb.zM fun t d=>e s t c d
def Pap.zero{k w:Nat}{A:Nat->Tb.Vc}{u ub v vb:Ξ}{st:List Int}(p:Pap k w A u ub v vb st){i:Nat}(h:st.length<=i):vc st i=0:=fY h
def Pap.pr'{k w:Nat}{A:Nat->Tb.Vc}{u ub v vb:Ξ}{st:List Int}(p:Pap k w A u ub v vb st){i j:Nat}(hi:i<k)(b:j<w):Tb.a6 k w A (fn u i) (fun s=>fn v s j)=if i=j then vc st i else 0:=by
 rw[p.pr i j hi b]
 by_cases c:i=j
 ·by_cases a:i<st.length
  ·rw[if_pos ⟨c,a⟩,if_pos c]
  ·rw[if_neg (fun h=>a h.2),if_pos c,fY ω]
 ·rw[if_neg (fun h=>c h.1),if_neg c]
def Pap.via{k w:Nat}{A b R C:Nat->Tb.Vc}{u ub v vb f o g d:Ξ}{st ad:List Int}(p:Pap k w A u ub v vb st)(q:Pap k w b f o g d ad)(h:∀s t,s<k->t<w->A s t=Tb.a6 k w b (R s) (C t)):∃X Z:Nat->Tb.Vc,∀a j,a<k->j<w->Tb.dot k (X a) (fun l=>vc ad l*Z l j)=if a=j then vc st a else 0:=by
 refine⟨fun a l=>Tb.dot k (fun t=>Tb.dot k (fn u a) (fun s=>R s t)) (fun s=>fn o s l),fun l j=>Tb.dot w (fun t=>Tb.dot w (fun s=>fn v s j) (fun s=>C s t)) (fun s=>fn d l s),fun a j z r=>?_⟩;rw[<-p.pr' z r];have e1:Tb.a6 k w A (fn u a) (fun s=>fn v s j)=Tb.a6 k w b (fun t=>Tb.dot k (fn u a) (fun s=>R s t)) (fun t=>Tb.dot w (fun s=>fn v s j) (fun s=>C s t)):=by
  rw[Tb.Ms];unfold Tb.a6;refine Tb.zt fun s D=>?_;have:=Tb.Jn (k:=k) (w:=w) (n:=w) (A:=b) (V:=C) (x:=R s) (Z:=fun s=>fn v s j);unfold Tb.a6 at this;rw[this,Tb.iX w];exact Tb.zt fun t e=>h s t D e
 rw[e1];show Tb.dot k (fun l=>Tb.dot k (fun t=>Tb.dot k (fn u a) (fun s=>R s t)) (fun s=>fn o s l)) (fun l=>vc ad l*Tb.dot w (fun t=>Tb.dot w (fun s=>fn v s j) (fun s=>C s t)) (fun s=>fn d l s))=_;generalize hx:(fun t=>Tb.dot k (fn u a) (fun s=>R s t))=x;generalize hy:(fun t=>Tb.dot w (fun s=>fn v s j) (fun s=>C s t))=y;have e2:Tb.a6 k w b x y=Tb.a6 k w b (fun t=>Tb.dot k (fun l=>Tb.dot k x (fun s=>fn o s l)) (fun l=>fn f l t)) y:=Mu (fun _ _ _ _=>rfl) (fun t e=>(Mt q.u2 e).symm) fun _ _=>rfl;rw[e2,Tb.Ms];refine Tb.zt fun l E=>?_;have e3:Tb.a6 k w b (fn f l) y=Tb.a6 k w b (fn f l) (fun t=>Tb.dot w (fun m=>Tb.dot w y (fun s=>fn d m s)) (fun m=>fn g t m)):=Mu (fun _ _ _ _=>rfl) (fun _ _=>rfl) fun t e=>by
  have:=Mt (n:=w) (x:=y) (B:=fun s m=>fn d m s) (U:=fun m t=>fn g t m) (fun i j hi r=>by
   rw[Jj,<-q.v1 j i r hi,Tb.iX]) e
  exact this.symm
 rw[e3];have G:=Tb.Jn (k:=k) (w:=w) (n:=w) (A:=b) (V:=fun m t=>fn g t m) (x:=fn f l) (Z:=fun m=>Tb.dot w y (fun s=>fn d m s));rw[G];show _=Tb.dot w _ _;have H:Tb.dot w (fun m=>Tb.dot w y (fun s=>fn d m s)) (fun m=>Tb.a6 k w b (fn f l) (fun t=>fn g t m))=Tb.dot w (fun m=>if l=m then vc ad l else 0) (fun m=>Tb.dot w y (fun s=>fn d m s)):=by
  rw[Tb.iX w];exact Tb.zM fun m F=>q.pr' E F
 rw[H]
 by_cases c:l<w
 ·rw[Tb.Jm c]
 ·rw[Tb.mq fun t e=>if_neg ω,fY (by have:=q.sw;(first|lia|omega))]
  simp
def Mv{st:List Int}(hd:∀i,i+1<st.length->vc st i ∣ vc st (i+1)):∀n i,vc st i ∣ vc st (i+n)
 |0,i=>Int.dvd_refl _
 |n+1,i=>by
  have a:=Mv hd n i
  by_cases c:i+n+1<st.length
  ·exact Int.dvd_trans a (hd (i+n) c)
  ·rw[fY (show st.length<=i+(n+1) from ω)];exact Int.dvd_zero _
def Pap.steps{k w:Nat}{A e R C R' F:Nat->Tb.Vc}{u ub v vb y z D E:Ξ}{st ad:List Int}(p:Pap k w A u ub v vb st)(d:Pap k w e y z D E ad)(h:∀s t,s<k->t<w->A s t=Tb.a6 k w e (R s) (C t))(h':∀s t,s<k->t<w->e s t=Tb.a6 k w A (R' s) (F t)):st=ad:=by
 obtain⟨X,Z,o⟩:=p.via d h;obtain⟨J,L,q⟩:=d.via p h';have f:∀{st:List Int},(∀x∈st,0<x)->∀i,0<=vc st i:=fun{st} h i=>by
  by_cases c:i<st.length
  ·rw[jL c];exact Int.le_of_lt (h _ (AB c))
  ·rw[fY ω];exact Int.le_refl _
 have g:∀{st:List Int},(∀i,i+1<st.length->vc st i ∣ vc st (i+1))->∀i l,i<=l->l<k->vc st i ∣ vc st l:=fun{st} h i l h1 _=>by
  have:=Mv h (l-i) i
  rwa [show i+(l-i)=l from ω] at this
 have eq:=Tb.RL o q (f p.sp) (f d.sp) (g p.sd) (g d.sd);have one:∀{st ad:List Int},(∀x∈st,0<x)->st.length<=k->st.length<=w->(∀i,i<k->i<w->vc st i=vc ad i)->st.length<=ad.length:=fun{st ad} h1 h2 G j=>by
  rcases Be ad.length st.length with c|c
  ·have r:=j ad.length ω ω
   rw[fY (Af _),jL c] at r;have:=h1 _ (AB c);(first|lia|omega)
  ·exact c
 have H:=one p.sp p.sk p.sw eq;have I:=one d.sp d.sk d.sw fun i a b=>(eq i a b).symm;exact Ml ω fun i hi=>eq i (by have:=p.sk;(first|lia|omega)) (by have:=p.sw;(first|lia|omega))
end K27
end
section
namespace L2
open PySem PySem.Spec PyProof.Rows
mutual
inductive DV(K:Ab)(H:Hp):V->PyData->Prop where
 |bl (b:Bool):DV K H (.bl b) (.bool b)
 |int (i:Int):DV K H (.int i) (.int i)
 |str (z:Str):DV K H (.str z) (.str z)
 |lst {l:Addr} {xs:List V} {ds:List PyData} (h:SqL K H l xs) (t:DVs K H xs ds):DV K H (.ref l) (.list ds)
inductive DVs(K:Ab)(H:Hp):List V->List PyData->Prop where
 |nil:DVs K H [] []
 |cons {x:V} {d:PyData} {xs:List V} {ds:List PyData} (h:DV K H x d) (t:DVs K H xs ds):DVs K H (x::xs) (d::ds)
end
section
variable{X:Cx}{aa:Ψ}{σ:St}{H:Hp}{s:Shared}
mutual
def DV.reads(I:Inv X aa σ H s):∀{x:V}{d:PyData}{u:Value},DV X.K H x d->RelV x u->∃a,Reads s.heap u d a
 |_,_,_,.bl b,r=>by cases r;exact⟨_,.bool b⟩
 |_,_,_,.int i,r=>by obtain⟨t,rfl⟩:=r;exact⟨_,.int i t⟩
 |_,_,_,.str z,r=>by obtain⟨t,rfl⟩:=r;exact⟨_,.str z t⟩
 |_,_,_,.lst h t,r=>by
  cases r;obtain⟨f,c,p,_⟩:=I.list h;obtain⟨o,e,hc,n,hd⟩:=p.isList;obtain⟨a,q⟩:=DVs.reads I t c;exact⟨_,.list e hc hd (by simpa using q)⟩
def DVs.reads(I:Inv X aa σ H s):∀{xs:List V}{ds:List PyData}{us:List Value},DVs X.K H xs ds->Vals xs us->∃c,ReadsAll s.heap us ds c
 |_,_,_,.nil,.nil=>⟨_,.nil⟩
 |_,_,_,.cons h t,.cons r rs=>by
  obtain⟨a,q⟩:=DV.reads I h r;obtain⟨b,d⟩:=DVs.reads I t rs;exact⟨_,.cons q d⟩
end
end
def nf(neg:Bool)(K:Ab):R2:=fun x y H Q=>∃d e,DV K H x d/\DV K H y e/\SeqAt.shaped d=true/\SeqAt.shaped e=true/\SeqAt.noMix d e=true/\Q (.bl (if neg then !same d e else same d e)) H
section
variable{X:Cx}
def Jo(hu:X.A.units+64<cLine):cI X (compareOp .Eq) (nf false X.K):=by
 intro aa s σ H x y v u Q I a b h;obtain⟨d,e,h1,h2,c,f,nm,q⟩:=h;obtain⟨a1,g⟩:=h1.reads I a;obtain⟨a2,i⟩:=h2.reads I b;exact eq_dataH_same g i c f hu nm ⟨.bl _,H,I,rfl,q⟩
def RM(hu:X.A.units+64<cLine):cI X (compareOp .NotEq) (nf true X.K):=by
 intro aa s σ H x y v u Q I a b h;obtain⟨d,e,h1,h2,c,f,nm,q⟩:=h;obtain⟨a1,g⟩:=h1.reads I a;obtain⟨a2,i⟩:=h2.reads I b;exact ne_dataH_same g i c f hu nm ⟨.bl _,H,I,rfl,q⟩
end
abbrev ic(ns:List Int):PyData:=.list (ns.map PyData.int)
abbrev c5(tb:Ξ):PyData:=.list (tb.map ic)
abbrev iY(ts:List Ξ):PyData:=.list (ts.map c5)
def RN(ns ms:List Int):same (ic ns) (ic ms)=decide (ns=ms):=by simp only[same];exact PySem.W.ke_sameAll ns ms
def Mw:∀a b:Ξ,sameAll (a.map ic) (b.map ic)=decide (a=b)
 |[],[]=>by simp[sameAll]
 |[],_::_=>by simp[sameAll]
 |_::_,[]=>by simp[sameAll]
 |a::r,b::t=>by
  simp only[AV,sameAll,RN];rw[Mw r t]
  by_cases h:a=b<;>by_cases h':r=t<;>simp[h,h']
def Jp(a b:Ξ):same (c5 a) (c5 b)=decide (a=b):=by simp only[same];exact Mw a b
def Mx:∀a b:List Ξ,sameAll (a.map c5) (b.map c5)=decide (a=b)
 |[],[]=>by simp[sameAll]
 |[],_::_=>by simp[sameAll]
 |_::_,[]=>by simp[sameAll]
 |a::r,b::t=>by
  simp only[AV,sameAll,Jp];rw[Mx r t]
  by_cases h:a=b<;>by_cases h':r=t<;>simp[h,h']
def RO(a b:List Ξ):same (iY a) (iY b)=decide (a=b):=by simp only[same];exact Mx a b
def RP(ns:List Int):PyData.canLayAll0 (ns.map PyData.int)=true:=by simp[PySem.W.ke_canLayAll0]
def Jq:∀tb:Ξ,PyData.canLayAll0 (tb.map ic)=true
 |[]=>rfl
 |a::r=>by rw[AV,PyData.canLayAll0,Jq r,ic,PyData.canLay0,RP];rfl
def Mz:∀b:List Ξ,PyData.canLayAll0 (b.map c5)=true
 |[]=>rfl
 |a::r=>by rw[AV,PyData.canLayAll0,Mz r,c5,PyData.canLay0,Jq];rfl
def Jr:∀tb:Ξ,PyData.depthAll (tb.map ic)<=2
 |[]=>Ar _
 |a::r=>by
  have e:PyData.depth (ic a)<=2:=by simp[PyData.depth,PySem.W.ke_depthAll]
  rw[AV,PyData.depthAll];exact Nat.max_le.mpr ⟨e,Jr r⟩
def MA:∀b:List Ξ,PyData.depthAll (b.map c5)<=3
 |[]=>Ar _
 |a::r=>by
  have e:PyData.depth (c5 a)<=3:=by
   have:=Jr a;rw[c5,PyData.depth];(first|lia|omega)
  rw[AV,PyData.depthAll];exact Nat.max_le.mpr ⟨e,MA r⟩
def Gx(tb:Ξ):SeqAt.shaped (c5 tb)=true:=by
 have:=Jr tb;have e:PyData.depth (c5 tb)<=64:=by rw[c5,PyData.depth];(first|lia|omega)
 unfold SeqAt.shaped;rw[decide_eq_true e,c5,PyData.canLay0,Jq]
 rfl
def MB(a:List Ξ):SeqAt.shaped (iY a)=true:=by
 have:=MA a;have e:PyData.depth (iY a)<=64:=by rw[iY,PyData.depth];(first|lia|omega)
 unfold SeqAt.shaped;rw[decide_eq_true e,iY,PyData.canLay0,Mz]
 rfl
def MC(a b:Ξ):SeqAt.noMix (c5 a) (c5 b)=true:=SeqAt.noMix_of_shape (.list (.list .int)) rfl _ _ (by simp[Shape.has]) (by simp[Shape.has])
def RQ(a b:List Ξ):SeqAt.noMix (iY a) (iY b)=true:=SeqAt.noMix_of_shape (.list (.list (.list .int))) rfl _ _ (by simp[Shape.has]) (by simp[Shape.has])
def MD{K:Ab}{H:Hp}:∀ns:List Int,DVs K H (ns.map V.int) (ns.map PyData.int)
 |[]=>.nil
 |n::r=>.cons (.int n) (MD r)
def RR{K:Ab}{H:Hp}{l:Addr}{ns:List Int}(h:SqL K H l (ns.map V.int)):DV K H (.ref l) (ic ns):=.lst h (MD ns)
end L2
end
section
namespace K27
open PySem L2
abbrev nh:Stmt:=top 24
abbrev xp:Stmt:=top 25
abbrev Gy:Stmt:=top 26
abbrev ni:Stmt:=top 31
abbrev xy:Stmt:=top 32
def RS:A9 "min"=some (.builtin "min"):=δ
def RT{K:Ab}{H:Hp}{rs:List Addr}{tb:Ξ}(h:Rws H rs tb):DVs K H (rs.map V.ref) (tb.map ic):=by
 induction h with
 |nil=>exact .nil
 |cons r t ih=>exact .cons (RR (SqL.of r)) ih
def p6{K:Ab}{H:Hp}{L:Addr}{rs:List Addr}{tb:Ξ}(a:SqL K H L (rs.map V.ref))(h:Rws H rs tb):DV K H (.ref L) (c5 tb):=.lst a (RT h)
def mulT(u v:Ξ):Ξ:=u.map fun r=>(turn v).map (dot r)
def cD(u ub:Ξ)(n:Nat):Bool:=eJ u n&&eJ ub n&&decide (mulT u ub=unT n)
def kO{u:Ξ}{n:Nat}:eJ u n=true↔u.length=n/\∀r∈u,r.length=n:=by
 unfold eJ;rw[AX,decide_eq_true_eq,Bj];exact and_congr_right fun _=>⟨fun h r hr=>of_decide_eq_true (h r hr),fun h r hr=>decide_eq_true (h r hr)⟩
def nq(tb:Ξ):Prop:=∀r∈tb,∀x∈r,x.natAbs<big
def Gz{tb:Ξ}(h:nq tb):nq (turn tb):=fun r hr x hx=>by
 unfold turn at hr;obtain⟨j,_,rfl⟩:=List.mem_map.mp hr;unfold colAt at hx;obtain⟨q,hq,rfl⟩:=List.mem_map.mp hx;rw[Ad];cases e:q[j]? with
 |none=>exact Aq (Ar _) LP
 |some y=>exact h q hq y (An e)
def xB{tb:Ξ}:(turn tb).length=wid tb:=by unfold turn;simp
def xS{tb:Ξ}:∀r∈turn tb,r.length=tb.length:=fun r hr=>by
 unfold turn at hr;obtain⟨j,_,rfl⟩:=List.mem_map.mp hr;unfold colAt;simp
section
variable{P:Program}{w:World}{K:Ab}{mg:Str->Option Value}{base:Heap}
def x3(K:Ab):Sp:=fun vs H Q _=>∃L rs tb,vs=[.ref L]/\SqL K H L (rs.map V.ref)/\Rws H rs tb/\zT tb=true/\∀H',Same H H'->Q .non H'
def RU{f a:Addr}{fd b:FuncData}(F:Fun K "must_be_table" "must_be_table" j' f fd)(Ft:Fun K "is_table" "is_table" oM a b)(bt:Binds K b ["table"] [])(mt:mg "is_table"=some (.ref a))(i:FnOk P w K mg base aJ 2 a b ["table"] (HU K)):FnOk P w K mg base aJ 3 f fd ["table"] (x3 K):=by
 refine F.ok KD (fun vs H Q E h=>?_) (fun j A outer s H vs Q E hr h=>?_)
 ·obtain⟨L,rs,tb,rfl,_⟩:=h;rfl
 ·obtain⟨L,rs,tb,rfl,e,g,c,k⟩:=h
  refine⟨_,zf (zU (eZ (eD (ze i hr rfl mt Ft.kp bt .nil ap (af (pv 0) ak)))) i5 zA),?_⟩;refine⟨_,rfl,L,rs,tb,rfl,e,g,by have:=(gi c).1;(first|lia|omega),fun H1 d=>⟨_,rfl,?_⟩⟩;rw[c];exact av (k H1 d)
def GA(K:Ab):Sp:=fun vs H Q _=>∃(L:Addr)(rs:List Addr)(tb:Ξ)(N n m:Nat),vs=[.ref L]/\H L=some (.lst (rs.map V.ref))/\Rws H rs tb/\zT tb=true/\mZ N n m tb.length (wid tb) tb/\Mo H Q tb.length (wid tb) (fn tb)
def ME:zl ["table"] ["table"] (zd nh):=⟨rfl,rfl,rfl,δ,rfl,δ,δ⟩
def PapH.old{H0 H H':Hp}{p:Addr}{u ub v vb:Ξ}{st:List Int}{a1 a2 a3 a4 a5:Addr}{d1 d2 d3 d4:List Addr}(h:PapH H H' p u ub v vb st a1 a2 a3 a4 a5 d1 d2 d3 d4)(s:Same H0 H):PapH H0 H' p u ub v vb st a1 a2 a3 a4 a5 d1 d2 d3 d4:=
 ⟨h.at_,h.n1.old s,h.n2.old s,h.n3.old s,h.n4.old s,h.n5,s.free h.na,h.j12,h.j13,h.j14,h.j15,h.j23,h.j24,h.j25,h.j34,h.j35,h.j45⟩
def PapH.same{H H' H2:Hp}{p:Addr}{u ub v vb:Ξ}{st:List Int}{a1 a2 a3 a4 a5:Addr}{d1 d2 d3 d4:List Addr}(h:PapH H H' p u ub v vb st a1 a2 a3 a4 a5 d1 d2 d3 d4)(s:Same H' H2):PapH H H2 p u ub v vb st a1 a2 a3 a4 a5 d1 d2 d3 d4:=
 ⟨s _ _ h.at_,h.n1.same s,h.n2.same s,h.n3.same s,h.n4.same s,s _ _ h.n5,h.na,h.j12,h.j13,h.j14,h.j15,h.j23,h.j24,h.j25,h.j34,h.j35,h.j45⟩
def RV{f g i j:Addr}{fd l o q:FuncData}(F:Fun K "stepped" "stepped" nh f fd)(Fm:Fun K "must_be_table" "must_be_table" j' g l)(bm:Binds K l ["table"] [])(z:mg "must_be_table"=some (.ref g))(J:FnOk P w K mg base aJ 3 g l ["table"] (x3 K))(Fp:Fun K "paper_of" "paper_of" xa i o)(C:Binds K o ["table","width"] [])(D:mg "paper_of"=some (.ref i))(M:FnOk P w K mg base aJ 6 i o ["table","width"] Jk)(Fw:Fun K "width_of" "width_of" gS j q)(G:Binds K q ["table"] [])(I:mg "width_of"=some (.ref j))(O:FnOk P w K mg base aJ 1 j q ["table"] (iE K)):FnOk P w K mg base aJ 7 f fd ["table"] (GA K):=by
 refine F.ok ME (fun vs H Q E h=>?_) (fun S A outer s H vs Q E hr h=>?_)
 ·obtain⟨L,rs,tb,N,n,m,rfl,_⟩:=h;rfl
 ·obtain⟨L,rs,tb,N,n,m,rfl,b,c,it,ok,y⟩:=h
  have d:Room 3 _:=hr.mono ξ;have e:Room 1 _:=hr.mono ξ;refine⟨_,za (zD (ze J d rfl z Fm.kp bm .nil ap (af (pv 0) ak))) (zf (zo (ze M hr rfl D Fp.kp C .nil ap (af (pv 0) (af (ze O e rfl I Fw.kp G .nil ap (af (pv 0) ak)) ak))))),?_⟩;refine⟨_,rfl,L,rs,tb,rfl,SqL.of b,c,it,fun H1 a=>⟨_,rfl,_,rfl,L,rs,tb,rfl,SqL.of (a _ _ b),c.same a,L,rs,tb,N,n,m,_,_,rfl,a _ _ b,c.same a,ok,?_⟩⟩;intro H' p u ub v vb st a1 a2 a3 a4 a5 d1 d2 d3 d4 r x pp;exact y H' p u ub v vb st a1 a2 a3 a4 a5 d1 d2 d3 d4 (a.trans r) (x.old a) pp
def GB(K:Ab):Sp:=fun vs H Q _=>∃(L:Addr)(rs:List Addr)(tb:Ξ)(N n m:Nat),vs=[.ref L]/\H L=some (.lst (rs.map V.ref))/\Rws H rs tb/\zT tb=true/\mZ N n m tb.length (wid tb) tb/\
 ∀a H' u ub v vb st,Same H H'->H a=none->H' a=some (.lst (st.map V.int))->Pap tb.length (wid tb) (fn tb) u ub v vb st->Q (.ref a) H'
def MF:zl ["table"] ["table"] (zd ni):=⟨rfl,rfl,rfl,δ,rfl,δ,δ⟩
def RW{f fs:Addr}{fd b:FuncData}(F:Fun K "steps_of" "steps_of" ni f fd)(Fs:Fun K "stepped" "stepped" nh fs b)(bs:Binds K b ["table"] [])(ms:mg "stepped"=some (.ref fs))(i:FnOk P w K mg base aJ 7 fs b ["table"] (GA K)):FnOk P w K mg base aJ 8 f fd ["table"] (GB K):=by
 refine F.ok MF (fun vs H Q E h=>?_) (fun l A outer s H vs Q E hr h=>?_)
 ·obtain⟨L,rs,tb,N,n,m,rfl,_⟩:=h;rfl
 ·obtain⟨L,rs,tb,N,n,m,rfl,d,e,it,ok,g⟩:=h
  refine⟨_,zf (zo (zy zE (ze i hr rfl ms Fs.kp bs .nil ap (af (pv 0) ak)) zb (fun _ _=>rfl))),?_⟩;refine⟨_,rfl,L,rs,tb,N,n,m,rfl,d,e,it,ok,?_⟩;intro H' p u ub v vb st a1 a2 a3 a4 a5 d1 d2 d3 d4 c a pp;exact⟨p,_,_,_,rfl,rfl,SqT.of a.at_,zh (j:=4) rfl,g a5 H' u ub v vb st c a.na a.n5 pp⟩
def MH(K:Ab):Sp:=fun vs H Q _=>∃(L:Addr)(rs:List Addr)(tb:Ξ)(N n m:Nat),vs=[.ref L]/\H L=some (.lst (rs.map V.ref))/\Rws H rs tb/\zT tb=true/\mZ N n m tb.length (wid tb) tb/\
 ∀H' u ub v vb st,Same H H'->Pap tb.length (wid tb) (fn tb) u ub v vb st->Q (.int st.length) H'
def MI:zl ["table"] ["table"] (zd xy):=⟨rfl,rfl,rfl,δ,rfl,δ,δ⟩
def RX{f fs:Addr}{fd b:FuncData}(F:Fun K "rank" "rank" xy f fd)(bl:mg "len"=none)(Fs:Fun K "steps_of" "steps_of" ni fs b)(bs:Binds K b ["table"] [])(ms:mg "steps_of"=some (.ref fs))(j:FnOk P w K mg base aJ 8 fs b ["table"] (GB K)):FnOk P w K mg base aJ 9 f fd ["table"] (MH K):=by
 refine F.ok MI (fun vs H Q E h=>?_) (fun l A outer s H vs Q E hr h=>?_)
 ·obtain⟨L,rs,tb,N,n,m,rfl,_⟩:=h;rfl
 ·obtain⟨L,rs,tb,N,n,m,rfl,e,g,it,ok,i⟩:=h
  refine⟨_,zf (zo (zj zi rfl bl cx (af (ze j hr rfl ms Fs.kp bs .nil ap (af (pv 0) ak)) ak))),?_⟩;refine⟨_,rfl,L,rs,tb,N,n,m,rfl,e,g,it,ok,fun a H' u ub v vb st c _ d pp=>⟨a,_,rfl,.inl (SqL.of d),?_⟩⟩;rw[Aa];exact i H' u ub v vb st c pp
def MJ(K:Ab):Sp:=fun vs H Q _=>∃(L M:Addr)(rs ms:List Addr)(u ub:Ξ)(n:Nat),vs=[.ref L,.ref M,.int n]/\H L=some (.lst (rs.map V.ref))/\H M=some (.lst (ms.map V.ref))/\Rws H rs u/\Rws H ms ub/\u.length<=1000/\ub.length<=1000/\n<=40/\nq u/\nq ub/\∀H',Same H H'->Q (.bl (cD u ub n)) H'
def RY:zl ["turn","back","size"] ["turn","back","size"] (zd Gy):=⟨rfl,rfl,rfl,δ,rfl,δ,δ⟩
def RZ{f fo fr l o:Addr}{fd p q v z:FuncData}(F:Fun K "is_back" "is_back" Gy f fd)(Fo:Fun K "is_of_size" "is_of_size" vQ fo p)(O:Binds K p ["table","size"] [])(S:mg "is_of_size"=some (.ref fo))(T:FnOk P w K mg base aJ 1 fo p ["table","size"] (LK K))(Fr:Fun K "rows_by" "rows_by" oT fr q)(br:Binds K q ["table","columns"] [])(mr:mg "rows_by"=some (.ref fr))(Gr:FnOk P w K mg base aJ 3 fr q ["table","columns"] (IW K))(Fc:Fun K "columns_of" "columns_of" iN l v)(bc:Binds K v ["table"] [])(mc:mg "columns_of"=some (.ref l))(Gc:FnOk P w K mg base aJ 3 l v ["table"] (ka K))(Fu:Fun K "unit" "unit" vB o z)(bu:Binds K z ["size"] [])(mu:mg "unit"=some (.ref o))(Gu:FnOk P w K mg base aJ 3 o z ["size"] IV):FnOk P w K mg base aJ 4 f fd ["turn","back","size"] (MJ K):=by
 refine F.ok RY (fun vs H Q E h=>?_) (fun ah A outer s H vs Q E hr h=>?_)
 ·obtain⟨L,M,rs,ms,u,ub,n,rfl,_⟩:=h;rfl
 ·obtain⟨L,M,rs,ms,u,ub,n,rfl,C,G,hu,I,J,N,i,su,sub,k⟩:=h
  have a:Room 1 _:=hr.mono ξ;have cA:=hr.units;refine⟨_,za (zU (PW.pt (nR (eZ (eD (ze T a rfl S Fo.kp O .nil ap (af (pv 0) (af (pv 2) ak))))) (nP (eZ (eD (ze T a rfl S Fo.kp O .nil ap (af (pv 1) (af (pv 2) ak)))))))) (zf (zo eS)) zA)
   (zf (zo (eV (Jo cA) (ze Gr hr rfl mr Fr.kp br .nil ap (af (pv 0) (af (ze Gc hr rfl mc Fc.kp bc .nil ap (af (pv 1) ak)) ak))) (ze Gu hr rfl mu Fu.kp bu .nil ap (af (pv 2) ak)) (ar _)))),?_⟩
  refine⟨_,rfl,_,rfl,L,rs,u,n,rfl,SqL.of C,hu,J,fun H1 b=>⟨_,rfl,?_⟩⟩;cases c1:eJ u n with
  |false=>
   have e:cD u ub n=false:=by unfold cD;rw[c1];rfl
   rw[e] at k;exact aT (aT (k H1 b))
  |true=>
   refine av ⟨_,rfl,_,rfl,M,ms,ub,n,rfl,SqL.of (b _ _ G),I.same b,N,fun H2 U=>⟨_,rfl,?_⟩⟩;have d:=b.trans U;cases c2:eJ ub n with
   |false=>
    have e:cD u ub n=false:=by unfold cD;rw[c1,c2];rfl
    rw[e] at k;exact aT (k H2 d)
   |true=>
    obtain⟨l1,w1⟩:=kO.mp c1;obtain⟨l2,w2⟩:=kO.mp c2;obtain⟨t1,t2,t3⟩:=xn l2 w2 i;refine av ⟨_,rfl,_,rfl,M,ms,ub,rfl,SqL.of (d _ _ G),I.same d,t1,fun D H3 ds W hD X Y _ _=>?_⟩;have j:=d.trans W;refine⟨L,D,rs,u,ds,turn ub,rfl,j _ _ C,X,hu.same j,Y,J,by rw[xB,t3];(first|lia|omega),fun c hc=>⟨by rw[xS c hc];exact N,fun r hr x hx y hy=>gs (su r hr x hx) (Gz sub c hc y hy)⟩,fun E1 H4 es Z hE ul re _ _=>?_⟩;have dX:=j.trans Z;refine⟨_,rfl,n,rfl,ω,fun U1 H5 us g hU BU ru _ _=>?_⟩;refine⟨c5 (mulT u ub),c5 (unT n),p6 (SqL.of (g _ _ ul)) (re.same g),p6 (SqL.of BU) ru,Gx _,Gx _,MC _ _,?_⟩;have e:cD u ub n=decide (mulT u ub=unT n):=by unfold cD;rw[c1,c2];rfl
    rw[e,<-Jp] at k;exact k H5 (dX.trans g)
end
def SmL(tb:Ξ):Prop:=∀r∈tb,∀x∈r,x.natAbs<low
def SmL.big{tb:Ξ}(h:SmL tb):nq tb:=fun r hr x hx=>mR (h r hr x hx)
def Sm9(tb:Ξ):Prop:=∀r∈tb,∀x∈r,x.natAbs<=2 ^ 900
def Sm9.low{tb:Ξ}(h:Sm9 tb):SmL tb:=fun r hr x hx=>wK (h r hr x hx) ξ
def MK:∀{r c:List Int}{a b:Nat},(∀x∈r,x.natAbs<=a)->(∀y∈c,y.natAbs<=b)->(dot r c).natAbs<=c.length*(a*b)
 |[],c,a,b,_,_=>by unfold dot;exact Ar _
 |_::_,[],a,b,_,_=>by unfold dot;exact Ar _
 |x::r,y::c,a,b,h1,h2=>by
  have d:=MK (r:=r) (c:=c) (fun z hz=>h1 z (.tail _ hz)) fun z hz=>h2 z (.tail _ hz);have e:dot (x::r) (y::c)=x*y+dot r c:=by unfold dot;rw[List.zipWith_cons_cons,List.sum_cons]
  have f:(x*y).natAbs<=a*b:=by rw[AK];exact AQ (h1 x (.head _)) (h2 y (.head _))
  have g:=Int.natAbs_add_le (x*y) (dot r c);rw[e,AH,Nat.add_mul];(first|lia|omega)
def ML{r c:List Int}(h1:∀x∈r,x.natAbs<low)(h2:∀y∈c,y.natAbs<=2 ^ 900)(hc:c.length<=40):(dot r c).natAbs<big:=by
 have h:=MK (r:=r) (c:=c) (a:=2 ^ (bt-1000)) (b:=2 ^ 900) (fun x hx=>Nat.le_of_lt (h1 x hx)) h2;have e:c.length*(2 ^ (bt-1000)*2 ^ 900)<=2 ^ (6+(bt-1000+900)):=Tb.zC (Ag hc ξ) (Tb.zC (Af _) (Af _));unfold big;refine Aq (Ag h e) (Nat.pow_lt_pow_right ξ ?_);have:=kr;(first|lia|omega)
def dy(tb u ub v vb:Ξ)(st:List Int):Bool:=cD u ub tb.length&&cD v vb (wid tb)&&dv st (if(wid tb:Int)<(tb.length:Int) then(wid tb:Int) else(tb.length:Int))&&decide (mulT (mulT u tb) v=slpT st tb.length (wid tb))
def R0{st:List Int}{m:Int}(h:dv st m=true):(st.length:Int)<=m:=by
 unfold dv at h;rw[AX,AX] at h;have:=h.1.1;simp at this;(first|lia|omega)
def MM{u ub:Ξ}{n:Nat}(h:cD u ub n=true):u.length=n/\(∀r∈u,r.length=n)/\ub.length=n/\∀r∈ub,r.length=n:=by
 unfold cD at h;rw[AX,AX] at h;obtain⟨a,b⟩:=kO.mp h.1.1;obtain⟨c,d⟩:=kO.mp h.1.2;exact⟨a,b,c,d⟩
def x6{tb:Ξ}(h:Sm9 tb):Sm9 (turn tb):=fun r hr x hx=>by
 unfold turn at hr;obtain⟨j,_,rfl⟩:=List.mem_map.mp hr;unfold colAt at hx;obtain⟨q,hq,rfl⟩:=List.mem_map.mp hx;rw[Ad];cases e:q[j]? with
 |none=>exact Ar _
 |some y=>exact h q hq y (An e)
section
variable{P:Program}{w:World}{K:Ab}{mg:Str->Option Value}{base:Heap}
def MO(K:Ab):Sp:=fun vs H Q _=>∃(L p a1 a2 a3 a4 a5:Addr)(rs d1 d2 d3 d4:List Addr)(tb u ub v vb:Ξ)(st:List Int),vs=[.ref L,.ref p]/\H L=some (.lst (rs.map V.ref))/\Rws H rs tb/\zT tb=true/\H p=some (.tup [.ref a1,.ref a2,.ref a3,.ref a4,.ref a5])/\
 H a1=some (.lst (d1.map V.ref))/\H a2=some (.lst (d2.map V.ref))/\H a3=some (.lst (d3.map V.ref))/\H a4=some (.lst (d4.map V.ref))/\H a5=some (.lst (st.map V.int))/\Rws H d1 u/\Rws H d2 ub/\Rws H d3 v/\Rws H d4 vb/\u.length<=1000/\ub.length<=1000/\v.length<=1000/\vb.length<=1000/\st.length<=1000/\
 Sm9 tb/\SmL u/\SmL ub/\SmL v/\SmL vb/\∀H',Same H H'->Q (.bl (dy tb u ub v vb st)) H'
def Js:zl ["table","paper","half"] ["table","paper"] (zd xp):=⟨rfl,rfl,rfl,δ,rfl,δ,δ⟩
def R1{f U W X fa fr Y fo:Addr}{fd Z dM aI ig bC aD cU:FuncData}(F:Fun K "is_stepped" "is_stepped" xp f fd)(bl:mg "len"=none)(oA:mg "min"=none)(Fm:Fun K "must_be_table" "must_be_table" j' U Z)(bm:Binds K Z ["table"] [])(mm:mg "must_be_table"=some (.ref U))(Gm:FnOk P w K mg base aJ 3 U Z ["table"] (x3 K))(Fb:Fun K "is_back" "is_back" Gy W dM)(bb:Binds K dM ["turn","back","size"] [])(mb:mg "is_back"=some (.ref W))(Gb:FnOk P w K mg base aJ 4 W dM ["turn","back","size"] (MJ K))(Fw:Fun K "width_of" "width_of" gS X aI)(bw:Binds K aI ["table"] [])(mw:mg "width_of"=some (.ref X))(Gw:FnOk P w K mg base aJ 1 X aI ["table"] (iE K))(Fa:Fun K "are_steps" "are_steps" vV fa ig)(ba:Binds K ig ["steps","most"] [])(ma:mg "are_steps"=some (.ref fa))(Ga:FnOk P w K mg base aJ 1 fa ig ["steps","most"] IY)(Fr:Fun K "rows_by" "rows_by" oT fr bC)(br:Binds K bC ["table","columns"] [])(mr:mg "rows_by"=some (.ref fr))(Gr:FnOk P w K mg base aJ 3 fr bC ["table","columns"] (IW K))(Fc:Fun K "columns_of" "columns_of" iN Y aD)(bc:Binds K aD ["table"] [])(mc:mg "columns_of"=some (.ref Y))(Gc:FnOk P w K mg base aJ 3 Y aD ["table"] (ka K))(Fo:Fun K "on_slope" "on_slope" pZ fo cU)(bo:Binds K cU ["numbers","size","width"] [])(mo:mg "on_slope"=some (.ref fo))(Go:FnOk P w K mg base aJ 2 fo cU ["numbers","size","width"] IU):FnOk P w K mg base aJ 5 f fd ["table","paper"] (MO K):=by
 refine F.ok Js (fun vs H Q E h=>?_) (fun ah A outer s H vs Q E hr h=>?_)
 ·obtain⟨L,p,a1,a2,a3,a4,a5,rs,d1,d2,d3,d4,tb,u,ub,v,vb,st,rfl,_⟩:=h;rfl
 ·obtain⟨L,p,a1,a2,a3,a4,a5,rs,d1,d2,d3,d4,tb,u,ub,v,vb,st,rfl,l,z,it,hp,h1,h2,h3,h4,h5,r1,r2,r3,r4,N,z2,z3,z4,z5,s9,su,sub,sv,svb,k⟩:=h
  have a:Room 3 _:=hr.mono ξ;have O:Room 2 _:=hr.mono ξ;have d:Room 1 _:=hr.mono ξ;have cA:=hr.units;obtain⟨t1,t2,t3⟩:=gi it;refine⟨_,za (zD (ze Gm a rfl mm Fm.kp bm .nil ap (af (pv 0) ak)))
   (za (zU (eZ (eD (ze Gb hr rfl mb Fb.kp bb .nil ap (af (zy zE (pv 1) zb (fun _ _=>rfl)) (af (zy zE (pv 1) zb (fun _ _=>rfl)) (af (zj zi rfl bl cx (af (pv 0) ak)) ak)))))) (zf (zo eS)) zA)
   (za (zU (eZ (eD (ze Gb hr rfl mb Fb.kp bb .nil ap (af (zy zE (pv 1) zb (fun _ _=>rfl)) (af (zy zE (pv 1) zb (fun _ _=>rfl)) (af (ze Gw d rfl mw Fw.kp bw .nil ap (af (pv 0) ak)) ak)))))) (zf (zo eS)) zA)
   (za (zU (eZ (eD (ze Ga d rfl ma Fa.kp ba .nil ap (af (zy zE (pv 1) zb (fun _ _=>rfl)) (af (zj (N2 rfl) rfl oA RS (af (zj zi rfl bl cx (af (pv 0) ak)) (af (ze Gw d rfl mw Fw.kp bw .nil ap (af (pv 0) ak)) ak))) ak))))) (zf (zo eS)) zA)
   (za (zr (i:=2) Js.nd rfl (Or.inl rfl) (ze Gr a rfl mr Fr.kp br .nil ap (af (zy zE (pv 1) zb (fun _ _=>rfl)) (af (ze Gc a rfl mc Fc.kp bc .nil ap (af (pv 0) ak)) ak))))
   (zf (zo (eV (Jo cA) (ze Gr a rfl mr Fr.kp br .nil ap (af (pv 2) (af (ze Gc a rfl mc Fc.kp bc .nil ap (af (zy zE (pv 1) zb (fun _ _=>rfl)) ak)) ak))) (ze Go O rfl mo Fo.kp bo .nil ap (af (zy zE (pv 1) zb (fun _ _=>rfl)) (af (zj zi rfl bl cx (af (pv 0) ak)) (af (ze Gw d rfl mw Fw.kp bw .nil ap (af (pv 0) ak)) ak)))) (ar _)))))))),?_⟩
  have S:=z.len;refine⟨_,rfl,L,rs,tb,rfl,SqL.of l,z,it,fun H1 g=>?_⟩;refine⟨_,rfl,p,_,_,_,rfl,rfl,SqT.of (g _ _ hp),zh (j:=0) rfl,_,rfl,p,_,_,_,rfl,rfl,SqT.of (g _ _ hp),zh (j:=1) rfl,_,rfl,L,_,rfl,.inl (SqL.of (g _ _ l)),?_⟩;rw[Aa,S];refine⟨a1,a2,d1,d2,u,ub,tb.length,rfl,g _ _ h1,g _ _ h2,r1.same g,r2.same g,N,z2,t1,su.big,sub.big,fun H2 s2=>⟨_,rfl,?_⟩⟩;have b:=g.trans s2;cases c1:cD u ub tb.length with
  |false=>
   have e:dy tb u ub v vb st=false:=by unfold dy;rw[c1];rfl
   rw[e] at k;exact aT (k H2 b)
  |true=>
  refine av ⟨_,rfl,p,_,_,_,rfl,rfl,SqT.of (b _ _ hp),zh (j:=2) rfl,_,rfl,p,_,_,_,rfl,rfl,SqT.of (b _ _ hp),zh (j:=3) rfl,_,rfl,L,rs,tb,rfl,SqL.of (b _ _ l),z.same b,?_⟩;refine⟨a3,a4,d3,d4,v,vb,wid tb,rfl,b _ _ h3,b _ _ h4,r3.same b,r4.same b,z3,z4,t2,sv.big,svb.big,fun H3 s3=>⟨_,rfl,?_⟩⟩;have o:=b.trans s3;cases c2:cD v vb (wid tb) with
  |false=>
   have e:dy tb u ub v vb st=false:=by unfold dy;rw[c1,c2];rfl
   rw[e] at k;exact aT (k H3 o)
  |true=>
  refine av ⟨_,rfl,p,_,_,_,rfl,rfl,SqT.of (o _ _ hp),zh (j:=4) rfl,_,rfl,L,_,rfl,.inl (SqL.of (o _ _ l)),_,rfl,L,rs,tb,rfl,SqL.of (o _ _ l),z.same o,_,_,rfl,?_⟩;rw[Aa,S];refine⟨a5,st,_,rfl,o _ _ h5,z5,fun H4 s4=>⟨_,rfl,?_⟩⟩;have G:=o.trans s4;generalize hm:(if(wid tb:Int)<(tb.length:Int) then(wid tb:Int) else(tb.length:Int))=mi;have Es:mi<=wid tb/\mi<=tb.length:=by rw[<-hm];split<;>(first|lia|omega)
  have ek:dy tb u ub v vb st=(dv st mi&&decide (mulT (mulT u tb) v=slpT st tb.length (wid tb))):=by unfold dy;rw[c1,c2,hm];rfl
  rw[ek] at k;have pL:(if((wid tb:Nat):Int)<((tb.length:Nat):Int) then((wid tb:Nat):Int) else((tb.length:Nat):Int))=mi:=hm;cases c3:dv st mi with
  |false=>
   rw[c3] at k;exact aT (k H4 G)
  |true=>
  rw[c3] at k;have lst:=R0 c3;obtain⟨lu,wu,_,_⟩:=MM c1;obtain⟨lv,wv,_,_⟩:=MM c2;obtain⟨v1,v2,v3⟩:=xn lv wv t2;refine av ⟨_,rfl,p,_,_,_,rfl,rfl,SqT.of (G _ _ hp),zh (j:=0) rfl,_,rfl,L,rs,tb,rfl,SqL.of (G _ _ l),z.same G,it,fun D H5 ds s5 hD eK rd _ _=>?_⟩;have T:=G.trans s5;refine⟨a1,D,d1,u,ds,turn tb,rfl,T _ _ h1,eK,r1.same T,rd,N,by rw[xB];(first|lia|omega),fun c hc=>⟨by rw[xS c hc];(first|lia|omega),fun r hr x hx y hy=>gs (su.big r hr x hx) (Gz (s9.low.big) c hc y hy)⟩,fun E1 H6 es s6 hE yG re _ _=>?_⟩;have I:=T.trans s6;refine⟨_,rfl,_,rfl,p,_,_,_,rfl,rfl,SqT.of (I _ _ hp),zh (j:=2) rfl,a3,d3,v,rfl,SqL.of (I _ _ h3),r3.same I,v1,fun D2 H7 uK J cB gf yh _ _=>?_⟩;have BO:=I.trans J;refine⟨E1,D2,es,mulT u tb,uK,turn v,rfl,J _ _ yG,gf,re.same J,yh,by unfold mulT;rw[Aa];exact N,by rw[xB,v3];(first|lia|omega),fun c hc=>⟨by rw[xS c hc];exact z3,fun r hr x hx y hy=>gs ?_ (Gz sv.big c hc y hy)⟩,fun E2 H8 ES s8 mL Bu Cv _ _=>?_⟩
  ·unfold mulT at hr
   obtain⟨q,hq,rfl⟩:=List.mem_map.mp hr;obtain⟨cc,js,rfl⟩:=List.mem_map.mp hx;exact ML (su q hq) (x6 s9 cc js) (by rw[xS cc js];exact t1)
  have C:=BO.trans s8;refine⟨_,rfl,p,_,_,_,rfl,rfl,SqT.of (C _ _ hp),zh (j:=4) rfl,_,rfl,L,_,rfl,.inl (SqL.of (C _ _ l)),_,rfl,L,rs,tb,rfl,SqL.of (C _ _ l),z.same C,?_⟩;rw[Aa,S];refine⟨a5,st,tb.length,wid tb,rfl,C _ _ h5,ω,ω,fun i _ hi=>ω,fun S1 H9 ss M hS wY wL _ _=>?_⟩;refine⟨c5 (mulT (mulT u tb) v),c5 (slpT st tb.length (wid tb)),p6 (SqL.of (M _ _ Bu)) (Cv.same M),p6 (SqL.of wY) wL,Gx _,Gx _,MC _ _,?_⟩;rw[Bool.true_and,<-Jp] at k;exact k H9 (C.trans M)
end
abbrev GC:Stmt:=top 62
abbrev jR:Stmt:=top 63
abbrev ym:Stmt:=top 64
structure GD(mg:Str->Option Value):Prop where
 len:mg "len"=none
 all:mg "all"=none
 zip:mg "zip"=none
 sum:mg "sum"=none
 range:mg "range"=none
 list:mg "list"=none
 int:mg "int"=none
 bool:mg "bool"=none
 isinstance:mg "isinstance"=none
 max:mg "max"=none
def MP(x y:Int):Prop:=0<=x/\(y=0\/(y=1/\x<4294967296))
def zX(H:Hp)(p:Addr):Prop:=∃x y,H p=some (.lst [.int x,.int y])/\MP x y
def zaa(p:Addr)(H H':Hp):Prop:=∀b o,b≠p->H b=some o->H' b=some o
def zaa.trans{p:Addr}{H H1 H2:Hp}(a:zaa p H H1)(b:zaa p H1 H2):zaa p H H2:=fun c o hc e=>b c o hc (a c o hc e)
def zaa.of{p:Addr}{H H1:Hp}(a:Same H H1):zaa p H H1:=fun c o _ e=>a c o e
def zaa.free{p:Addr}{H H':Hp}(e:zaa p H H')(hb:zX H p)(b:zX H' p){l:Addr}(h:H' l=none):H l=none:=by
 cases q:H l with
 |none=>rfl
 |some o=>
  obtain⟨x,y,e1,_⟩:=b;have a:l≠p:=fun z=>by rw[z,e1] at h;cases h
  rw[e l o a q] at h;cases h
def zX.same{H H':Hp}{p:Addr}(b:zX H p)(e:Same H H'):zX H' p:=let ⟨x,y,h,o⟩:=b;⟨x,y,e _ _ h,o⟩
def zX.ne{H:Hp}{p l:Addr}{c:List Addr}(b:zX H p)(h:H l=some (.lst (c.map V.ref))):l≠p:=by
 obtain⟨x,y,e,_⟩:=b;refine GZ h e fun z=>?_;injection z with z
 cases c with
 |nil=>cases z
 |cons a r=>rw[AV] at z;cases z
def zX.net{H:Hp}{p t:Addr}{xs:List V}(b:zX H p)(h:H t=some (.tup xs)):t≠p:=by
 obtain⟨x,y,e,_⟩:=b;exact GZ h e (by intro z;cases z)
def zaa.tp{p:Addr}{H H':Hp}{a:Addr}{ps:List Int}(e:zaa p H H')(b:zX H p)(h:Tp H a ps):Tp H' a ps:=e _ _ (b.net h) h
def zaa.then{p:Addr}{H H1:Hp}{a:Addr}{o:HO}(e:zaa p H H1)(h:H a=none):zaa p H (L2.upd H1 a o):=fun b u hb q=>by rw[aq (zn q h)];exact e b u hb q
def zX.upd{H:Hp}{p l:Addr}{o:HO}(b:zX H p)(h:l≠p):zX (L2.upd H l o) p:=let ⟨x,y,e,k⟩:=b;⟨x,y,by rw[aq h.symm];exact e,k⟩
def zX.new{H:Hp}{p l:Addr}{o:HO}(b:zX H p)(h:H l=none):zX (L2.upd H l o) p:=b.same (Same.new h)
section
variable{P:Program}{w:World}{K:Ab}{mg:Str->Option Value}{base:Heap}
def MQ(K:Ab):Sp:=fun vs H Q _=>∃(l:Addr)(ns:List Int)(j:Nat),vs=[.ref l,.int j]/\SqL K H l (ns.map V.int)/\∀n,Q (.int n) H
def R3:zl ["script","k"] ["script","k"] (zd GC):=⟨rfl,rfl,rfl,δ,rfl,δ,δ⟩
def R4{f:Addr}{fd:FuncData}(F:Fun K "_law_cell_at" "_law_cell_at" GC f fd)(B:GD mg):FnOk P w K mg base aJ 1 f fd ["script","k"] (MQ K):=by
 refine F.ok R3 (fun vs H Q E h=>?_) (fun c A outer s H vs Q E hr h=>?_)
 ·obtain⟨l,ns,j,rfl,_⟩:=h;rfl
 ·obtain⟨l,ns,j,rfl,a,k⟩:=h
  refine⟨_,za (zU (zx CU (pv 1) (zj zi rfl B.len cx (af (pv 0) ak)) (ar _)) (zf (zo (zy zB (pv 0) (pv 1) (fun _ _=>rfl)))) zA) (zf (zo zb)),?_⟩;refine⟨_,rfl,_,rfl,l,_,rfl,.inl a,_,_,rfl,rfl,_,rfl,?_⟩;refine jf (fun h1=>?_) (fun h1=>?_)
  ·have b:j<ns.length:=by have:=of_decide_eq_true h1;simp at this;(first|lia|omega)
   exact⟨_,rfl,_,rfl,l,_,_,_,rfl,rfl,a,zh (j:=j) (v:=.int ns[j]) (by rw[Aj,Ac b];rfl),k _⟩
  ·exact k 0
def MR:Sp:=fun vs H Q _=>∃n,vs=[.int n]/\∀p x y,H p=none->MP x y->Q (.ref p) (upd H p (.lst [.int x,.int y]))
def R5:zl ["cell"] ["cell"] (zd jR):=⟨rfl,rfl,rfl,δ,rfl,δ,δ⟩
def R6{f:Addr}{fd:FuncData}(F:Fun K "_law_box" "_law_box" jR f fd):FnOk P w K mg base aJ 1 f fd ["cell"] MR:=by
 refine F.ok R5 (fun vs H Q E h=>?_) (fun b A outer s H vs Q E hr h=>?_)
 ·obtain⟨n,rfl,_⟩:=h;rfl
 ·obtain⟨n,rfl,k⟩:=h
  refine⟨_,za (zU (zx NX (pv 0) (zF CM zb zb) (ar _)) (zf (zo (zS (af (zF fD (pv 0) (zF CM zb zb)) (af zb ak))))) zA)
   (zf (zo (zS (af (zF iv (zF eU (zF qT (zF iv (pv 0) (zF CM zb zb)) zb) zb) zb) (af zb ak))))),?_⟩
  have hc:qP 10 18:=⟨ξ,ξ,ξ⟩;have a:(10:Int) ^ (18:Int).toNat=1000000000000000000:=ξ
  refine⟨_,rfl,_,_,rfl,rfl,hc,_,_,rfl,rfl,_,rfl,?_⟩;refine jf (fun h1=>?_) (fun h1=>?_)
  ·refine⟨_,rfl,_,_,rfl,rfl,hc,_,_,rfl,rfl,zm (by simp),fun p hp=>k p _ 0 hp ⟨?_,.inl rfl⟩⟩
   have:=of_decide_eq_true h1
   lia
  ·refine⟨_,rfl,_,_,rfl,rfl,hc,_,_,rfl,rfl,(by show(0:Int)<10 ^ (18:Int).toNat;rw[a];decide),_,_,rfl,rfl,.inr ⟨ξ,ξ⟩,_,_,rfl,rfl,_,_,rfl,rfl,(by show(0:Int)<2147483629;decide),zm (by simp),fun p hp=>k p _ 1 hp ⟨?_,.inr ⟨rfl,?_⟩⟩⟩
   ·exact Int.emod_nonneg _ ξ
   ·have:=Int.emod_lt_of_pos (n%10 ^ (18:Int).toNat*69621+7001) (show(0:Int)<2147483629 from ξ)
    lia
def GE:Sp:=fun vs H Q _=>∃p m,vs=[.ref p,.int m]/\zX H p/\0<m/\m<1073741824/\∀r H',0<=r->r<m->zaa p H H'->zX H' p->Q (.int r) H'
def Jt:zl ["box","most","found","mixed"] ["box","most"] (zd ym):=⟨rfl,rfl,rfl,δ,rfl,δ,δ⟩
def MS{f:Addr}{fd:FuncData}(F:Fun K "_law_take" "_law_take" ym f fd):FnOk P w K mg base aJ 1 f fd ["box","most"] GE:=by
 refine F.ok Jt (fun vs H Q E h=>?_) (fun J A outer s H vs Q E hr h=>?_)
 ·obtain⟨p,m,rfl,_⟩:=h;rfl
 ·obtain⟨p,m,rfl,⟨x,y,hp,d,g⟩,a,D,k⟩:=h
  refine⟨_,za (zU (zx c6 (zy zB (pv 0) zb (fun _ _=>rfl)) zb (ar _))
    (za (zr (i:=2) Jt.nd rfl (Or.inl rfl) (zF iv (zy zB (pv 0) zb (fun _ _=>rfl)) (pv 1)))
    (za (nV (zF Hf (zy zB (pv 0) zb (fun _ _=>rfl)) (pv 1)) (nU (pv 0) zb set_list))
    (zf (zo (pv 2))))) zA)
   (za (zr (i:=3) Jt.nd rfl (Or.inl rfl) (zF iv (zF eU (zF eU (zF qT (zy zB (pv 0) zb (fun _ _=>rfl)) (zy zB (pv 0) zb (fun _ _=>rfl))) (zF qT zb (zy zB (pv 0) zb (fun _ _=>rfl)))) zb) zb))
   (za (nV (zF iv (zF eU (zF eU (zF qT (pv 3) (pv 3)) (zF qT zb (pv 3))) zb) zb) (nU (pv 0) zb set_list))
   (zf (zo (zF iv (zF Hf (zy zB (pv 0) zb (fun _ _=>rfl)) zb) (pv 1)))))),?_⟩
  have c:atI ([.int x,.int y]:List V) 0=some (.int x):=zh (j:=0) rfl;have a1:atI ([.int x,.int y]:List V) 1=some (.int y):=zh (j:=1) rfl;refine⟨_,rfl,p,_,_,_,rfl,rfl,SqL.of hp,a1,rfl,_,rfl,?_⟩;refine jf (fun h1=>?_) (fun h1=>?_)
  ·refine⟨_,rfl,p,_,_,_,rfl,rfl,SqL.of hp,c,_,rfl,_,_,rfl,rfl,a,?_⟩
   refine⟨_,rfl,p,_,_,_,rfl,rfl,SqL.of hp,c,_,rfl,_,_,rfl,rfl,⟨a,D⟩,_,rfl,p,_,_,0,rfl,rfl,hp,rfl,?_⟩;refine⟨_,rfl,k (x%m) _ (Int.emod_nonneg _ (by lia)) (Int.emod_lt_of_pos _ a) (fun b o hb e=>by rw[aq hb];exact e) ⟨x / m,y,al,Int.ediv_nonneg d (by lia),?_⟩⟩;rcases g with q|⟨q,hx⟩
   ·exact .inl q
   ·refine .inr ⟨q,Int.lt_of_le_of_lt (Int.ediv_le_self _ d) hx⟩
  ·have hy:y=1/\x<4294967296:=by
    rcases g with q|q
    ·exact absurd (by subst q;rfl) h1
    ·exact q
   obtain⟨rfl,hx⟩:=hy;have hb:CMul x x:=.inl ⟨by lia,by lia⟩;refine⟨_,rfl,p,_,_,_,rfl,rfl,SqL.of hp,c,_,rfl,p,_,_,_,rfl,rfl,SqL.of hp,c,_,_,rfl,rfl,hb,_,rfl,p,_,_,_,rfl,rfl,SqL.of hp,c,_,_,rfl,rfl,.inl ⟨ξ,ξ⟩,_,_,rfl,rfl,_,_,rfl,rfl,_,_,rfl,rfl,(by show(0:Int)<2147483647;decide),?_⟩;have G:=Int.emod_nonneg (x*x+39373*x+12345) (show(2147483647:Int)≠0 from ξ);have I:=Int.emod_lt_of_pos (x*x+39373*x+12345) (show(0:Int)<2147483647 from ξ);obtain⟨z,l⟩:∃z,z=(x*x+39373*x+12345)%2147483647:=⟨_,rfl⟩;rw[<-l] at G I;show qB _ _ _ ([some (.ref p),some (.int m),none,some (.int ((x*x+39373*x+12345)%2147483647))]:St) H;rw[<-l];refine⟨_,rfl,_,rfl,_,_,rfl,rfl,.inl ⟨by lia,by lia⟩,_,rfl,_,_,rfl,rfl,.inl ⟨ξ,ξ⟩,_,_,rfl,rfl,_,_,rfl,rfl,_,_,rfl,rfl,(by show(0:Int)<2147483587;decide),_,rfl,p,_,_,0,rfl,rfl,hp,rfl,?_⟩;have v:=Int.emod_nonneg (z*z+16807*z+7) (show(2147483587:Int)≠0 from ξ);have g1:=Int.emod_lt_of_pos (z*z+16807*z+7) (show(0:Int)<2147483587 from ξ);obtain⟨u,r⟩:∃u,u=(z*z+16807*z+7)%2147483587:=⟨_,rfl⟩;rw[<-r] at v g1;have C:upd H p (.lst [.int ((z*z+16807*z+7)%2147483587),.int 1]) p=some (.lst [.int u,.int 1]):=by rw[r];exact al
   refine⟨_,rfl,p,_,_,_,rfl,rfl,SqL.of C,zh (j:=0) rfl,_,_,rfl,rfl,⟨ξ,ξ⟩,_,rfl,_,_,rfl,rfl,a,?_⟩;exact k _ _ (Int.emod_nonneg _ (by lia)) (Int.emod_lt_of_pos _ a) (fun b o hb e=>by rw[aq hb];exact e) ⟨u,1,C,v,.inr ⟨rfl,by lia⟩⟩
end
abbrev ij:Stmt:=top 65
section
variable{P:Program}{w:World}{K:Ab}{mg:Str->Option Value}{base:Heap}
def Bnd(m:Int)(ns:List Int):Prop:=∀n∈ns,-m<=n/\n<=m
def Ju:Sp:=fun vs H Q _=>∃(p:Addr)(c:Nat)(wd:Int),vs=[.ref p,.int c,.int wd]/\zX H p/\c<=1000/\0<wd/\wd<1073741824/\∀D H' ns,zaa p H H'->zX H' p->H D=none->H' D=some (.lst (ns.map V.int))->ns.length=c->Bnd wd ns->Q (.ref D) H'
def R7:zl ["box","columns","wide"] ["box","columns","wide"] (zd ij):=⟨rfl,rfl,rfl,δ,rfl,δ,δ⟩
def R8{f u:Addr}{fd G:FuncData}(F:Fun K "_law_row" "_law_row" ij f fd)(B:GD mg)(Ft:Fun K "_law_take" "_law_take" ym u G)(bt:Binds K G ["box","most"] [])(mt:mg "_law_take"=some (.ref u)):FnOk P w K mg base aJ 2 f fd ["box","columns","wide"] Ju:=by
 have T:FnOk P w K mg base aJ 1 u G ["box","most"] GE:=MS Ft;refine F.ok R7 (fun vs H Q E h=>?_) (fun U A outer s H vs Q E hr h=>?_)
 ·obtain⟨p,c,wd,rfl,_⟩:=h;rfl
 ·obtain⟨p,c,wd,rfl,hb,hc,N,O,k⟩:=h
  refine⟨_,zf (zo (zp ["box","columns","wide"] ["place","box","wide"] [none,some 0,some 2] (zK rfl B.range (af (pv 1) ak)) (fun I C s₀ H₀ ex=>zk (i:=0) (bx ["place","box","wide"]) rfl (Or.inl rfl)) (fun I C s₀ H₀ ex=>zz)
   (fun I C s₀ H₀ ex=>zF fD (ze T hr rfl mt Ft.kp bt .nil ap (af (pv 1) (af (pv 2) ak))) (zF Hf (pv 2) zb)) (te:=cq (fy fun i j=>.int (i-j)) (dD GE [] E0 (zY (aC 1) (zY (aC 2) bN))) (cq (rI qL fun i j=>.int (i / j)) (aC 2) (tC (.int 2)))) (hfr:=bM (zd ij) δ))),?_⟩
  refine⟨_,rfl,_,rfl,ω,ω,fun D b=>?_⟩;have L:D≠p:=fun z=>by obtain⟨x,y,e,_⟩:=hb;rw[<-z,b] at e;cases e
  refine zw (sM (fun j σ ys a=>∃(v:Option V)(ns:List Int),σ=[v,some (.ref p),some (.int wd)]/\zaa p H a/\zX a p/\a D=some (.lst ys)/\ys=ns.map V.int/\ns.length=j/\Bnd wd ns) ?_ ?_ ?_)
  ·exact⟨none,[],rfl,.of (Same.new b),hb.new b,al,rfl,rfl,fun n d=>by cases d⟩
  ·rintro j σ ys a S hy ⟨v,ns,rfl,g,l,o,rfl,q,bd⟩
   refine cZ ?_;refine⟨_,rfl,_,rfl,p,wd,rfl,l,N,O,fun r Y W X J M=>⟨_,rfl,_,_,rfl,rfl,⟨ξ,ξ⟩,_,_,rfl,rfl,?_⟩⟩;refine bZ (zm ω) S hy (J _ _ L o) ⟨_,ns++[r-wd / 2],rfl,(g.trans J).then b,M.upd L,al,by simp,by simp[q],fun n d=>?_⟩;rcases List.mem_append.mp d with h|h
   ·exact bd n h
   ·obtain rfl:n=r-wd / 2:=by simpa using h
    (first|lia|omega)
  ·rintro σ ys a ⟨v,ns,rfl,g,l,o,rfl,q,bd⟩
   exact k D a ns g l b o q bd
end
def Rws.sameB{p:Addr}{H H':Hp}{ds:List Addr}{tb:Ξ}(h:Rws H ds tb)(s:zaa p H H'):(∀d∈ds,d≠p)->Rws H' ds tb:=by
 induction h with
 |nil=>intro _;exact .nil
 |cons r t ih=>intro n;exact .cons (s _ _ (n _ (AF)) r) (ih fun d hd=>n d (AD _ hd))
def Rws.set{H:Hp}{ds:List Addr}{tb:Ξ}{d:Addr}{ns:List Int}(h:Rws H ds tb)(e:H d=some (.lst (ns.map V.int))):∀i:Nat,Rws H (ds.set i d) (tb.set i ns):=by
 induction h with
 |nil=>intro i;exact .nil
 |cons r t ih=>
  intro i;cases i with
  |zero=>exact .cons e t
  |succ i=>exact .cons r (ih i)
section
variable{P:Program}{w:World}{K:Ab}{mg:Str->Option Value}{base:Heap}
def R9{p D:Addr}{H2:Hp}{n:Nat}{Q:VK}{Pr:List Int->Prop}{te:TE}{c:List (Option V)}(hb:zX H2 p)(L:∀(j:Nat)(H:Hp)(R:VK),zaa p H2 H->zX H p->(∀d H' ns,zaa p H H'->zX H' p->H d=none->H' d=some (.lst (ns.map V.int))->Pr ns->R (.ref d) H')->te (some (.int j)::c) H R)(hz:n<=1000)(q:H2 D=none)(k:∀a ds tb,zaa p H2 a->zX a p->a D=some (.lst (ds.map V.ref))->Rws a ds tb->tb.length=n->(∀r∈tb,Pr r)->(∀d∈ds,H2 d=none/\d≠D)->Q (.ref D) a):cV (gb 0 n) (zR 0) bR te (none::c) H2 D Q:=by
 have g:∀d,H2 d=none->d≠p:=fun d e z=>by obtain⟨x,y,A,_⟩:=hb;rw[<-z,e] at A;cases A
 have C:=g D q;refine sM (fun j σ ys a=>∃(v:Option V)(ds:List Addr)(tb:Ξ),σ=v::c/\zaa p H2 a/\zX a p/\a D=some (.lst ys)/\ys=ds.map V.ref/\Rws a ds tb/\tb.length=j/\(∀r∈tb,Pr r)/\∀d∈ds,H2 d=none/\d≠D) ?_ ?_ ?_
 ·exact⟨none,[],[],rfl,.of (Same.new q),hb.new q,al,rfl,.nil,rfl,(fun d hd=>by cases hd),fun d hd=>by cases hd⟩
 ·rintro j σ ys a I hy ⟨v,ds,tb,rfl,f,i,l,rfl,hr,u,hp,o⟩
  refine cZ ?_;rw[show(0:Int)+((j:Nat):Int)=((j:Nat):Int) from ω];refine L j a _ f i fun d M ns s E hd F pr=>?_;have J:H2 d=none:=f.free hb i hd;have w:d≠D:=fun z=>by rw[z,l] at hd;cases hd
  have all:∀e∈ds++[d],H2 e=none/\e≠D:=fun e b=>by
   rcases List.mem_append.mp b with h|h
   ·exact o e h
   ·obtain rfl:e=d:=by simpa using h
    exact⟨J,w⟩
  refine bZ (zm ω) I hy (s _ _ C l) ⟨_,ds++[d],tb++[ns],rfl,(f.trans s).then q,E.upd C,al,by simp,?_,by simp[u],fun r G=>?_,all⟩
  ·exact((hr.sameB s fun e b=>g e (o e b).1).snoc F).upd fun e b=>(all e b).2
  ·rcases List.mem_append.mp G with h|h
   ·exact hp r h
   ·obtain rfl:r=ns:=by simpa using h
    exact pr
 ·rintro σ ys a ⟨v,ds,tb,rfl,f,i,l,rfl,hr,u,hp,o⟩
  exact k a ds tb f i l hr u hp o
end
def TabB(H0:Hp)(p F:Addr)(c n:Nat)(m:Int)(H':Hp):Prop:=∃ds tb,zaa p H0 H'/\zX H' p/\H' F=some (.lst (ds.map V.ref))/\Rws H' ds tb/\tb.length=n/\(∀r∈tb,r.length=c/\Bnd m r)/\(∀d∈ds,H0 d=none/\d≠F)/\H0 F=none
def zV{H:Hp}{p d:Addr}(hb:zX H p)(e:H d=none):d≠p:=fun z=>by obtain⟨x,y,a,_⟩:=hb;rw[<-z,e] at a;cases a
def TabB.draw{H0 H' a:Hp}{p F:Addr}{c n:Nat}{m:Int}(hb:zX H0 p)(h:TabB H0 p F c n m H')(s:zaa p H' a)(b:zX a p):TabB H0 p F c n m a:=by
 obtain⟨ds,tb,g,_,i,hr,j,hp,e,f⟩:=h;exact⟨ds,tb,g.trans s,b,s _ _ (zV hb f) i,hr.sameB s fun d hd=>zV hb (e d hd).1,j,hp,e,f⟩
def Bnd.mono{m a:Int}{ns:List Int}(h:Bnd m ns)(c:m<=a):Bnd a ns:=fun n b=>by have:=h n b;(first|lia|omega)
def TabB.put{H0 H' q:Hp}{p F D:Addr}{c n:Nat}{m g:Int}{ds:List Addr}{tb:Ξ}{i:Nat}{ns:List Int}(hb:zX H0 p)(s:zaa p H0 H')(u:zX H' p)(w:H' F=some (.lst (ds.map V.ref)))(hr:Rws H' ds tb)(x:tb.length=n)(hp:∀r∈tb,r.length=c/\Bnd m r)(y:∀d∈ds,H0 d=none/\d≠F)(j:H0 F=none)(l:H' D=none)(sm:Same H' q)(e:q D=some (.lst (ns.map V.int)))(A:ns.length=c)(I:Bnd g ns)(C:m<=g):TabB H0 p F c n g (L2.upd q F (.lst ((ds.map V.ref).set i (.ref D)))):=by
 have G:=zV hb j;have H:D≠F:=fun z=>by rw[z,w] at l;cases l
 have f:H0 D=none:=s.free hb u l;have mem:∀d∈ds.set i D,H0 d=none/\d≠F:=fun d hd=>by
  rcases List.mem_or_eq_of_mem_set hd with h|h
  ·exact y d h
  ·rw[h];exact⟨f,H⟩
 refine⟨ds.set i D,tb.set i ns,fun b o E a=>?_,(u.same sm).upd G,?_,((hr.same sm).set e i).upd fun d hd=>(mem d hd).2,by simp[x],fun r v=>?_,mem,j⟩
 ·rw[aq (fun z=>by rw[z,j] at a;cases a)]
  exact sm _ _ (s b o E a)
 ·rw[al,List.map_set]
 ·rcases List.mem_or_eq_of_mem_set v with h|h
  ·exact⟨(hp r h).1,(hp r h).2.mono C⟩
  ·rw[h];exact⟨A,I⟩
def GF:A9 "list"=some (.type "list"):=δ
def ny:A9 "isinstance"=some (.builtin "isinstance"):=δ
def Jv{n:Nat}(h:n<=100000):n<sizeLine:=by rw[sizeLine_eq];(first|lia|omega)
def Jw(st:List Int)(i j:Nat):Int:=if i=j/\i<st.length then vc st i else 0
def MT(F:Ξ)(st:List Int)(k w:Nat):Bool:=(Ah k).all fun i=>(Ah w).all fun j=>decide (fn F i j=Jw st i j)
def GG{u v:Ξ}:(mulT u v).length=u.length:=by unfold mulT;simp
def Jx{u v:Ξ}:∀r∈mulT u v,r.length=wid v:=fun r hr=>by
 unfold mulT at hr;obtain⟨q,_,rfl⟩:=List.mem_map.mp hr;rw[Aa,xB]
def GH{tb:Ξ}{w:Nat}(h:∀r∈tb,r.length=w)(a:tb.length=0->w=0):wid tb=w:=by
 cases e:tb with
 |nil=>rw[e] at a;exact(a rfl).symm
 |cons x l=>exact h x (by rw[e];exact AF ..)
section
variable{P:Program}{w:World}{K:Ab}{mg:Str->Option Value}{base:Heap}
def R_{H2:Hp}{L D:Addr}{ns:List Int}{Q:VK}{p:Int->Bool}{tc:TT}{c:List (Option V)}(h:∀(x:Int)(H:Hp)(R:Bool->Hp->Prop),x∈ns->R (p x) H->tc (some (.int x)::c) H R)(i:H2 L=some (.lst (ns.map V.int)))(hz:ns.length<=1000)(f:H2 D=none)(k:∀a,Same H2 a->a D=some (.lst ((ns.filter p).map V.int))->Q (.ref D) a):cV (fw K L) (zR 0) tc (aC 0) (none::c) H2 D Q:=by
 refine lH (xs:=ns.map V.int) (fun j σ ys a=>∃(v:Option V),σ=v::c/\Same H2 a/\a D=some (.lst ys)/\ys=((ns.take j).filter p).map V.int) ⟨none,rfl,Same.new f,al,rfl⟩ ?_ ?_ ?_
 ·rintro j σ ys a ⟨v,rfl,sm,b,rfl⟩
  exact SqL.of (sm _ _ i)
 ·rintro j σ ys a x hx e hy ⟨v,rfl,sm,b,rfl⟩
  obtain⟨y,d,rfl⟩:=gm hx;have g:(ns.map V.int).length<=sizeLine:=by rw[Aa];exact zm ω
  refine h y a _ (An d) ?_;cases hp:p y with
  |true=>
   refine aT ⟨_,rfl,bZ g e hy b ⟨_,rfl,sm.then f,al,?_⟩⟩;rw[take_snoc d,List.filter_append,Aw];simp[hp]
  |false=>
   refine av (j9 e hy ⟨_,rfl,sm,b,?_⟩);rw[take_snoc d,List.filter_append];simp[hp]
 ·rintro σ ys a ⟨v,rfl,sm,b,rfl⟩
  rw[Aa,Ax (Af _)] at b;exact k a sm b
end
def Rws.updAt{H:Hp}{ds:List Addr}{tb:Ξ}{d:Addr}{ns:List Int}(h:Rws H ds tb):∀i:Nat,ds.Nodup->ds[i]?=some d->Rws (L2.upd H d (.lst (ns.map V.int))) ds (tb.set i ns):=by
 induction h with
 |nil=>intro i _ e;simp at e
 |cons r t ih=>
  intro i a e;obtain⟨n1,n2⟩:=List.nodup_cons.mp a;cases i with
  |zero=>
   simp at e;subst e;exact .cons al (Rws.upd t fun x hx z=>n1 (z▸hx))
  |succ i=>
   rw[List.getElem?_cons_succ] at e;exact .cons (by rw[aq (fun z=>n1 (by rw[z];exact An e))];exact r) (ih i n2 e)
def fo{e:Type}(a b c d:e):Nat->e
 |0=>a
 |1=>b
 |2=>c
 |_=>d
def Sa{i:Nat}(h:i<4):i=0\/i=1\/i=2\/i=3:=ω
def Dj.symm{x y:List Addr}(h:Dj x y):Dj y x:=fun a c b hb e=>h b hb a c e.symm
section
variable{H H':Hp}{p:Addr}{u ub v vb:Ξ}{st:List Int}{a1 a2 a3 a4 a5:Addr}{d1 d2 d3 d4:List Addr}
def PapH.nt(h:PapH H H' p u ub v vb st a1 a2 a3 a4 a5 d1 d2 d3 d4)(i:Nat)(hi:i<4):NT H H' (fo a1 a2 a3 a4 i) (fo d1 d2 d3 d4 i) (fo u ub v vb i):=by
 obtain rfl|rfl|rfl|rfl:=Sa hi
 ·exact h.n1
 ·exact h.n2
 ·exact h.n3
 ·exact h.n4
end
section
variable{P:Program}{w:World}{K:Ab}{mg:Str->Option Value}{base:Heap}
abbrev Sb(K:Ab):List V->Hp->VK->Prop:=fun xs H Q=>∃p ys,xs=[.ref p]/\(SqL K H p ys\/SqT K H p ys)/\∀l,H l=none->Q (.ref l) (upd H l (.lst ys))
abbrev GJ(K:Ab):TE:=k7 (Sb K) (zY (aC 0) bN)
def Jy{H2:Hp}{L D:Addr}{rs:List Addr}{tb:Ξ}{Q:VK}{c:List (Option V)}(b:SqL K H2 L (rs.map V.ref))(p:Rws H2 rs tb)(hz:tb.length<=1000)(q:H2 D=none)(k:∀a ds,Same H2 a->a D=some (.lst (ds.map V.ref))->Rws a ds tb->ds.Nodup->(∀d∈ds,H2 d=none/\d≠D)->Q (.ref D) a):cV (fw K L) (zR 0) bR (GJ K) (none::c) H2 D Q:=by
 refine pa (g:=fun r=>r) (fun o os H R sm e s f=>⟨_,rfl,o,_,rfl,.inl (SqL.of e),fun l b=>f l _ (Same.new b) b al⟩) b p hz q fun a ds sm h hr i j=>?_;rw[List.map_id'] at hr;exact k a ds sm h hr i j
end
def MV{a b:Tb.Vc}:∀n,Tb.dot (n+1) a b=a 0*b 0+Tb.dot n (fun u=>a (u+1)) (fun u=>b (u+1))
 |0=>by show(0:Int)+a 0*b 0=a 0*b 0+0;(first|lia|omega)
 |n+1=>by
  show Tb.dot (n+1) a b+a (n+1)*b (n+1)=a 0*b 0+(Tb.dot n _ _+a (n+1)*b (n+1));rw[MV n];(first|lia|omega)
def GK:∀{r c:List Int},r.length=c.length->dot r c=Tb.dot r.length (vc r) (vc c)
 |[],[],_=>rfl
 |x::r,y::c,h=>by
  have e:dot (x::r) (y::c)=x*y+dot r c:=rfl;rw[e,GK (Nat.succ.inj h),AH,MV]
  rfl
def Jz{u v:Ξ}{i j:Nat}(hi:i<u.length)(a:j<wid v)(h:∀r∈u,r.length=v.length):fn (mulT u v) i j=Tb.dot v.length (fn u i) (fun s=>fn v s j):=by
 have e1:rowAt (mulT u v) i=(turn v).map (dot (rowAt u i)):=zI (by
  unfold mulT;rw[Aj,Ac hi,zI (Ac hi)];rfl)
 have b:(rowAt u i).length=v.length:=h _ (zG hi);have e2:vc ((turn v).map (dot (rowAt u i))) j=dot (rowAt u i) (colAt v j):=by
  unfold vc turn;rw[Ad,Aj,Aj,AU a];rfl
 show vc (rowAt (mulT u v) i) j=_;rw[e1,e2,GK (by rw[b];unfold colAt;simp),b];refine Tb.zt fun s _=>?_;have:=eL (T:=v) a s;unfold fn at this;rw[ww a] at this;exact this
def Sc{st:List Int}{m:Int}(h1:(st.length:Int)<=m)(h2:∀x∈st,0<x)(d:∀i,i+1<st.length->vc st i ∣ vc st (i+1)):dv st m=true:=by
 unfold dv;rw[decide_eq_false ω,List.all_eq_true.mpr fun x hx=>decide_eq_true (h2 x hx)];show(AA (fun a b=>decide (b%a=0)) st (st.drop 1)).all id=true;rw[Bj];intro x hx;obtain⟨i,hi,rfl⟩:=A8 hx;have c:i+1<st.length:=by rw[AE,List.length_drop] at hi;(first|lia|omega)
 rw[A0,List.getElem_drop];have:=d i c;rw[jL ω,jL c] at this;refine decide_eq_true ?_;have e:st[1+i]'ω=st[i+1]:=by congr 1;(first|lia|omega)
 rw[e];exact Int.emod_eq_zero_of_dvd this
def Sd{st:List Int}{k w i j:Nat}(hi:i<k)(a:j<w):fn (slpT st k w) i j=if i=j/\i<st.length then vc st i else 0:=by
 unfold fn slpT;rw[ww hi];unfold b0 vc
 by_cases c:i<st.length
 ·rw[if_pos c,Ad,List.getElem?_set]
  by_cases d:i=j
  ·rw[if_pos d,if_pos (show i<(Am w (0:Int)).length by rw[AM];(first|lia|omega)),if_pos (And.intro d c)];rfl
  ·rw[if_neg d,if_neg fun h=>d h.1,List.getElem?_replicate,if_pos a];rfl
 ·rw[if_neg c,if_neg fun h=>c h.2,Ad,List.getElem?_replicate,if_pos a];rfl
def Se{st:List Int}{k w:Nat}:∀r∈slpT st k w,r.length=w:=fun r hr=>by
 unfold slpT at hr;obtain⟨i,_,rfl⟩:=List.mem_map.mp hr;exact Mj
section
variable{k w:Nat}{tb u ub v vb:Ξ}{st:List Int}
def Pap.prod(p:Pap k w (fn tb) u ub v vb st)(l:tb.length=k)(d:∀r∈tb,r.length=w)(hw:wid tb=w){i j:Nat}(hi:i<k)(b:j<w):fn (mulT (mulT u tb) v) i j=if i=j/\i<st.length then vc st i else 0:=by
 have c:wid v=w:=GH p.wv fun h=>by have:=p.lv;(first|lia|omega)
 rw[Jz (by rw[GG,p.lu];exact hi) ω (fun r hr=>by rw[Jx r hr,p.lv,hw]),p.lv];have e:∀t,t<w->fn (mulT u tb) i t=Tb.dot k (fn u i) (fun s=>fn tb s t):=fun t a=>by
  rw[Jz (by rw[p.lu];exact hi) ω (by rw[l];exact p.wu),l]
 rw[Tb.zM e,Tb.m7];exact p.pr i j hi b
end
def kQ:Good 6 3 10:=⟨ξ,ξ,ξ,ξ,ξ,ξ⟩
def Sg{tb:Ξ}{m:Int}{q:Nat}(h:∀r∈tb,Bnd m r)(a:m<=(2 ^ q:Nat)):Ent tb (2 ^ q):=fun i u=>by
 unfold fn
 by_cases c:i<tb.length
 ·have hr:=h _ (zG c)
  by_cases d:u<(rowAt tb i).length
  ·rw[jL d]
   have:=hr _ (AB d);(first|lia|omega)
  ·rw[fY ω];exact Ar _
 ·rw[ws ω];exact Ar _
def JA(tb:Ξ):Prop:=∃N n m,mZ N n m tb.length (wid tb) tb
def MW{tb:Ξ}{N n m c:Nat}{b:Int}(g:Good N n m)(hr:∀r∈tb,r.length=c/\Bnd b r)(f:tb.length<=N)(hc:c<=N)(hb:b<=(2 ^ m:Nat)):zT tb=true/\JA tb/\Sm9 tb:=by
 have i:=g.N40;have a:(∀r∈tb,r.length=wid tb)/\wid tb<=N:=by
  cases e:tb with
  |nil=>exact⟨fun r hr=>(by cases hr),Ar _⟩
  |cons x l=>
   rw[e] at hr;have e1:wid (x::l)=x.length:=rfl;rw[e1,(hr x (AF ..)).1];exact⟨fun r h=>(hr r h).1,hc⟩
 have d:=Sg (fun r h=>(hr r h).2) hb;refine⟨?_,⟨N,n,m,g,rfl,a.1,d,f,a.2⟩,fun r hr x hx=>Ag (d.mem r hr x hx) (AC ξ g.m9)⟩;unfold zT;rw[decide_eq_true (show tb.length<=40 from ω),decide_eq_true (show wid tb<=40 from ω)];simp only[Bool.and_self,Bool.true_and,Bj];exact fun r h=>decide_eq_true (a.1 r h)
abbrev yB:Stmt:=top 55
abbrev jT:Stmt:=top 57
abbrev p':Stmt:=top 53
def d0(t n:Int):Bool:=decide (t%n=0)
def Sh{t:Int}:d0 t 0=decide (t=0):=by unfold d0;rw[Int.emod_zero]
def f'(n:Int):Bool:=decide (n=0)|| decide (1<n)
def zq{a b:Int}:decide (V.int a=V.int b)=decide (a=b):=by rw[Bool.eq_iff_iff];simp
section
variable{P:Program}{w:World}{K:Ab}{mg:Str->Option Value}{base:Heap}
def GM:Sp:=fun vs H Q _=>∃t n:Int,vs=[.int t,.int n]/\0<=n/\Q (.bl (d0 t n)) H
def Si:zl ["total","number"] ["total","number"] (zd yB):=⟨rfl,rfl,rfl,δ,rfl,δ,δ⟩
def Sj{f:Addr}{fd:FuncData}(F:Fun K "is_so_many_times" "is_so_many_times" yB f fd):FnOk P w K mg base aJ 1 f fd ["total","number"] GM:=by
 refine F.ok Si (fun vs H Q E h=>?_) (fun a A outer s H vs Q E hr h=>?_)
 ·obtain⟨t,n,rfl,_⟩:=h;rfl
 ·obtain⟨t,n,rfl,b,k⟩:=h
  refine⟨_,zf (zo (qA (zx c6 (pv 1) zb (ar _)) (eV c6 (pv 0) zb (ar _)) (eV c6 (zF iv (pv 0) (pv 1)) zb (ar _)))),?_⟩;refine⟨_,rfl,rfl,_,rfl,?_⟩;rw[zq]
  by_cases c:n=0
  ·rw[decide_eq_true c]
   rw[c,Sh,<-zq] at k;exact aT ⟨_,rfl,rfl,k⟩
  ·rw[decide_eq_false c]
   unfold d0 at k;rw[<-zq] at k;exact av ⟨_,rfl,_,rfl,_,_,rfl,rfl,(show(0:Int)<n from ω),rfl,k⟩
def MX:Sp:=fun vs H Q _=>∃n:Int,vs=[.int n]/\Q (.bl (f' n)) H
def Sk:zl ["number"] ["number"] (zd jT):=⟨rfl,rfl,rfl,δ,rfl,δ,δ⟩
def Sm{f:Addr}{fd:FuncData}(F:Fun K "can_show" "can_show" jT f fd):FnOk P w K mg base aJ 1 f fd ["number"] MX:=by
 refine F.ok Sk (fun vs H Q E h=>?_) (fun a A outer s H vs Q E hr h=>?_)
 ·obtain⟨n,rfl,_⟩:=h;rfl
 ·obtain⟨n,rfl,k⟩:=h
  refine⟨_,zf (zo (NI (eV c6 (pv 0) zb (ar _)) (BQ (eV k6 (pv 0) zb (ar _))))),?_⟩;refine⟨_,rfl,rfl,_,rfl,?_⟩;rw[zq];unfold f' at k
  by_cases c:n=0
  ·rw[decide_eq_true c] at k ⊢
   exact aT k
  ·rw[decide_eq_false c] at k ⊢
   exact av ⟨_,rfl,_,_,rfl,rfl,k⟩
def JB(K:Ab):Sp:=fun vs H Q _=>∃(L G:Addr)(rs:List Addr)(tb:Ξ)(g:List Int),vs=[.ref L,.ref G]/\H L=some (.lst (rs.map V.ref))/\Rws H rs tb/\zT tb=true/\H G=some (.lst (g.map V.int))/\g.length=tb.length/\∀H',Same H H'->Q .non H'
def MY:zl ["table","goal"] ["table","goal"] (zd p'):=⟨rfl,rfl,rfl,δ,rfl,δ,δ⟩
def Sn{f b:Addr}{fd c:FuncData}(F:Fun K "must_have_goal" "must_have_goal" p' f fd)(bl:mg "len"=none)(Ft:Fun K "must_be_table" "must_be_table" j' b c)(bt:Binds K c ["table"] [])(mt:mg "must_be_table"=some (.ref b))(l:FnOk P w K mg base aJ 3 b c ["table"] (x3 K)):FnOk P w K mg base aJ 4 f fd ["table","goal"] (JB K):=by
 refine F.ok MY (fun vs H Q E h=>?_) (fun o A outer s H vs Q E hr h=>?_)
 ·obtain⟨L,G,rs,tb,g,rfl,_⟩:=h;rfl
 ·obtain⟨L,G,rs,tb,g,rfl,d,e,it,i,j,k⟩:=h
  refine⟨_,za (zD (ze l hr rfl mt Ft.kp bt .nil ap (af (pv 0) ak))) (zf (zU (zx dB (zj zi rfl bl cx (af (pv 1) ak)) (zj zi rfl bl cx (af (pv 0) ak)) (ar _)) i5 zA)),?_⟩;refine⟨_,rfl,L,rs,tb,rfl,SqL.of d,e,it,fun H1 a=>⟨_,rfl,G,_,rfl,.inl (SqL.of (a _ _ i)),_,rfl,L,_,rfl,.inl (SqL.of (a _ _ d)),rfl,_,rfl,?_⟩⟩;rw[Aa,Aa,j,e.len,decide_eq_true rfl];exact av (k H1 a)
end
abbrev GN:Stmt:=top 54
abbrev GO:Stmt:=top 52
def jU(a b:List Int):dot a b=dot b a:=by unfold dot;rw[List.zipWith_comm];congr 1;exact congrFun (congrFun (congrArg _ (funext fun x=>funext fun y=>Bb y x)) _) _
def JC(u v:Ξ)(st g:List Int):List Int:=v.map (dot (AA (fun a b=>a / b) (u.map (dot g)) st))
def MZ(H:Hp)(Q:VK)(u v:Ξ)(st g:List Int):Prop:=∀(H':Hp)(p c:Addr),Same H H'->H p=none->H c=none->
 (∀k,k<u.length->H' p=some (.tup [.str "no",.ref c,.int (vc st k)])->H' c=some (.lst ((rowAt u k).map V.int))->d0 (dot g (rowAt u k)) (vc st k)=false->Q (.ref p) H')/\
 (H' p=some (.tup [.str "yes",.ref c])->H' c=some (.lst ((JC u v st g).map V.int))->(∀k,k<u.length->d0 (dot g (rowAt u k)) (vc st k)=true)->Q (.ref p) H')
section
variable{P:Program}{w:World}{K:Ab}{mg:Str->Option Value}{base:Heap}
abbrev yF:List Str:=["paper","goal","left","steps","sums","k","total","number","often"]
def M3:Sp:=fun vs H Q _=>∃(p G a1 a2 a3 a4 a5:Addr)(d1 d3:List Addr)(u v:Ξ)(st g:List Int),vs=[.ref p,.ref G]/\H p=some (.tup [.ref a1,.ref a2,.ref a3,.ref a4,.ref a5])/\
 H a1=some (.lst (d1.map V.ref))/\H a3=some (.lst (d3.map V.ref))/\H a5=some (.lst (st.map V.int))/\Rws H d1 u/\Rws H d3 v/\H G=some (.lst (g.map V.int))/\u.length<=40/\v.length<=40/\(∀r∈u,r.length<=40)/\(∀r∈v,r.length<=40)/\g.length<=40/\st.length<=40/\SmL u/\SmL v/\(∀x∈g,x.natAbs<=2 ^ 900)/\(∀x∈st,0<x/\x.natAbs<2 ^ 9000)/\MZ H Q u v st g
def kX:zl yF ["paper","goal"] (zd GN):=⟨rfl,rfl,rfl,δ,rfl,δ,δ⟩
def So{f fr fi:Addr}{fd bC ej:FuncData}(F:Fun K "solved_by" "solved_by" GN f fd)(bl:mg "len"=none)(bz:mg "zip"=none)(be:mg "enumerate"=none)(uo:mg "list"=none)(Fr:Fun K "row_by" "row_by" l6 fr bC)(br:Binds K bC ["row","columns"] [])(mr:mg "row_by"=some (.ref fr))(Gr:FnOk P w K mg base aJ 2 fr bC ["row","columns"] (vP K))(Fi:Fun K "is_so_many_times" "is_so_many_times" yB fi ej)(bi:Binds K ej ["total","number"] [])(mi:mg "is_so_many_times"=some (.ref fi))(Gi:FnOk P w K mg base aJ 1 fi ej ["total","number"] GM):FnOk P w K mg base aJ 3 f fd ["paper","goal"] M3:=by
 refine F.ok kX (fun vs H Q E h=>?_) (fun ah A outer s H vs Q E hr h=>?_)
 ·obtain⟨p,G,a1,a2,a3,a4,a5,d1,d3,u,v,st,g,rfl,_⟩:=h;rfl
 ·obtain⟨p,G,a1,a2,a3,a4,a5,d1,d3,u,v,st,g,rfl,hp,h1,h3,N,Y,r3,hG,zu,zv,wu,wv,zg,Ei,su,sv,sg,ss,fI⟩:=h
  have hr1:Room 1 _:=hr.mono ξ;refine⟨_,za (zr (i:=2) kX.nd rfl (Or.inl rfl) (zy zE (pv 0) zb (fun _ _=>rfl)))
   (za (zr (i:=3) kX.nd rfl (Or.inl rfl) (zy zE (pv 0) zb (fun _ _=>rfl)))
   (za (zr (i:=4) kX.nd rfl (Or.inl rfl) (ze Gr hr rfl mr Fr.kp br .nil ap (af (pv 1) (af (pv 2) ak))))
   (za (i6 PassesOwn.never rfl (HP rfl be I0 (af (pv 4) ak)) (gG rfl (zJ (zk (i:=5) kX.nd rfl (Or.inl rfl)) (zJ (zk (i:=6) kX.nd rfl (Or.inl rfl)) gF)))
    (za (zr (i:=7) kX.nd rfl (Or.inl rfl) (qA (zx CU (pv 5) (zj zi rfl bl cx (af (pv 3) ak)) (ar _)) (zy zB (pv 3) (pv 5) (fun _ _=>rfl)) zb))
    (zf (zU (eZ (eD (ze Gi hr1 rfl mi Fi.kp bi .nil ap (af (pv 6) (af (pv 7) ak))))) (zf (zo (fE (af pe_str (af (j7 k' rfl uo GF (af (zy zB (pv 2) (pv 5) (fun _ _=>rfl)) ak)) (af (pv 7) ak)))))) zA))))
   (za (oK (i:=8) kX.nd rfl (Or.inl rfl) yF ["total","step"] [none,none] (l7 rfl bz kf (af (pv 4) (af (pv 3) ak)))
    (fun cl C s₀ H₀ ex=>gG rfl (zJ (zk (i:=0) (bx ["total","step"]) rfl (Or.inl rfl)) (zJ (zk (i:=1) (bx ["total","step"]) rfl (Or.inl rfl)) gF))) (fun cl C s₀ H₀ ex=>zz)
    (fun cl C s₀ H₀ ex=>zF E9 (pv 0) (pv 1)) (te:=cq (rI Ia fun i j=>.int (i / j)) (aC 0) (aC 1)) (hfr:=bJ δ) (g:=cb K 2 (cr (zR 0) (cr (zR 1) b_))))
   (zf (zo (fE (af pe_str (af (ze Gr hr rfl mr Fr.kp br .nil ap (af (pv 8) (af (zy zE (pv 0) zb (fun _ _=>rfl)) ak))) ak))))))))),?_⟩
  have gl:∀x∈g,x.natAbs<big:=fun x hx=>mR (wK (sg x hx) ξ);have wZ:∀r∈u,(dot g r).natAbs<big:=fun r hr=>by
   rw[jU];exact ML (su r hr) sg zg
  refine⟨_,rfl,p,_,_,_,rfl,rfl,SqT.of hp,zh (j:=0) rfl,_,rfl,p,_,_,_,rfl,rfl,SqT.of hp,zh (j:=4) rfl,?_⟩;refine⟨_,rfl,_,rfl,G,a1,g,d1,u,rfl,hG,h1,Y,ω,fun r hr=>⟨by have:=wu r hr;(first|lia|omega),fun x hx y hy=>gs (gl x hx) (mR (su r hr y hy))⟩,fun S H1 s1 hS L=>?_⟩;have lS:(u.map (dot g)).length=u.length:=Aa ..;refine⟨_,rfl,S,rfl,⟨_,SqL.of L⟩,O5 (K:=K) (a:=S) (xs:=(u.map (dot g)).map V.int) (fun i σ H2=>∃(W X M:Option V),σ=[some (.ref p),some (.ref G),some (.ref a1),some (.ref a5),some (.ref S),W,X,M,none]/\Same H1 H2/\∀k,k<i->d0 (dot g (rowAt u k)) (vc st k)=true)
   ⟨none,none,none,rfl,Same.refl _,fun k hk=>absurd hk (Nat.not_lt_zero _)⟩ (fun i σ H2 _ ⟨_,_,_,_,sm,_⟩=>SqL.of (sm _ _ L)) ?_ ?_⟩
  ·rintro i x q σ H2 hx ⟨W,X,M,rfl,sm,all⟩ hq
   obtain⟨t,et,rfl⟩:=gm hx;have hi:i<u.length:=by rw[<-lS];exact(List.getElem?_eq_some_iff.mp et).1
   have et2:t=dot g (rowAt u i):=by
    rw[Aj,Ac hi] at et;rw[zI (Ac hi)];exact(AL et).symm
   have I:Same H1 (upd H2 q (.tup [.int i,.int t])):=sm.then (sm.free hq);generalize hH3:upd H2 q (.tup [.int i,.int t])=J at I;have gA:J q=some (.tup [.int i,.int t]):=by rw[<-hH3];exact al
   have l:=s1.trans I;refine⟨q,_,rfl,SqT.of gA,rfl,_,_,rfl,_,_,rfl,rfl,?_⟩;have yQ:∀(Z:VK),Z (.int (vc st i)) J->(if decide ((i:Int)<(((st.map V.int).length:Nat):Int))=true then cq (gP K) (aC 3) (aC 5) [some (.ref p),some (.ref G),some (.ref a1),some (.ref a5),some (.ref S),some (.int i),some (.int t),M,none] J Z else Z (.int 0) J):=fun Z O=>by
    rw[Aa]
    by_cases c:i<st.length
    ·rw[decide_eq_true (show(i:Int)<((st.length:Nat):Int) from ω)]
     exact aT ⟨_,rfl,_,rfl,a5,_,_,_,rfl,rfl,SqL.of (l _ _ N),zh (eH c),O⟩
    ·rw[decide_eq_false (show ¬(i:Int)<((st.length:Nat):Int) from ω)]
     rw[fY ω] at O;exact av O
   refine⟨_,rfl,_,rfl,a5,_,rfl,.inl (SqL.of (l _ _ N)),_,_,rfl,rfl,_,rfl,yQ _ ?_⟩;have nn:0<=vc st i:=by
    by_cases c:i<st.length
    ·rw[jL c];exact Int.le_of_lt (ss _ (AB c)).1
    ·rw[fY ω];exact Int.le_refl _
   refine⟨_,rfl,_,rfl,t,vc st i,rfl,nn,_,rfl,?_⟩;rw[et2];cases c:d0 (dot g (rowAt u i)) (vc st i) with
   |true=>
    refine av ⟨_,_,_,rfl,I,fun k hk=>?_⟩
    by_cases e:k=i
    ·rw[e];exact c
    ·exact all k ω
   |false=>
    have ld:=Y.len;obtain⟨d,ed⟩:∃d,d1[i]?=some d:=⟨_,Ac (show i<d1.length from ω)⟩;obtain⟨rn,er,ux⟩:=Y.get ed;refine aT ⟨_,rfl,_,rfl,a1,_,_,_,rfl,rfl,SqL.of (l _ _ h1),zh (v:=V.ref d) (by rw[Aj,ed];rfl),d,_,rfl,.inl (SqL.of (l _ _ ux)),fun c1 T=>⟨_,rfl,zm (by simp),fun z o=>?_⟩⟩;have e1:rowAt u i=rn:=zI er;refine(fI _ z c1 (l.trans ((Same.new T).trans (Same.new o))) (l.free ((Same.new T).free o)) (l.free T)).1 i hi al ?_ c;rw[aq (fun e:c1=z=>by rw[<-e,al] at o;cases o),al,e1]
  ·rintro σ H2 ⟨W,X,M,rfl,sm,all⟩
   rw[Aa,lS] at all;have aS:=s1.trans sm;refine⟨_,rfl,_,rfl,S,a5,rfl,⟨_,SqL.of (sm _ _ L)⟩,⟨_,SqL.of (aS _ _ N)⟩,fun D hD=>?_⟩;refine zw (E' (f:=fun a b=>a / b) (fun a b H' R ha hb U=>⟨_,rfl,_,rfl,_,_,rfl,rfl,⟨(ss b hb).1,(ss b hb).2⟩,U⟩) (sm _ _ L) (aS _ _ N) ω hD fun J I ae=>?_);have l:=aS.trans I;refine⟨_,rfl,_,rfl,p,_,_,_,rfl,rfl,SqT.of (l _ _ hp),zh (j:=2) rfl,D,a3,_,d3,v,rfl,ae,l _ _ h3,r3.same l,ω,fun r hr=>⟨by have:=wv r hr;(first|lia|omega),fun x hx y hy=>gs ?_ (mR (sv r hr y hy))⟩,fun R H4 s4 U pB=>⟨zm (by simp),fun z o=>?_⟩⟩
   ·obtain⟨i,hi,rfl⟩:=A8 hx
    rw[A0];refine Aq Ip ?_;rw[AS];exact wZ _ (AB _)
   ·refine(fI _ z R (l.trans (s4.trans (Same.new o))) (l.free (s4.free o)) (l.free U)).2 al ?_ all
    rw[aq (fun e:R=z=>by rw[<-e,pB] at o;cases o)];exact pB
def JD:Sp:=fun vs H Q _=>∃(L G:Addr)(rs:List Addr)(tb:Ξ)(g:List Int)(N n m:Nat),vs=[.ref L,.ref G]/\H L=some (.lst (rs.map V.ref))/\Rws H rs tb/\zT tb=true/\mZ N n m tb.length (wid tb) tb/\H G=some (.lst (g.map V.int))/\g.length=tb.length/\(∀x∈g,x.natAbs<=2 ^ 900)/\
 ∀u ub v vb st,Pap tb.length (wid tb) (fn tb) u ub v vb st->MZ H Q u v st g
def M4:zl ["table","goal"] ["table","goal"] (zd GO):=⟨rfl,rfl,rfl,δ,rfl,δ,δ⟩
def Sq{f z C D I:Addr}{fd J M O S:FuncData}(F:Fun K "solved" "solved" GO f fd)(Fm:Fun K "must_have_goal" "must_have_goal" p' z J)(bm:Binds K J ["table","goal"] [])(mm:mg "must_have_goal"=some (.ref z))(Gm:FnOk P w K mg base aJ 4 z J ["table","goal"] (JB K))(Fb:Fun K "solved_by" "solved_by" GN C M)(bb:Binds K M ["paper","goal"] [])(mb:mg "solved_by"=some (.ref C))(Gb:FnOk P w K mg base aJ 3 C M ["paper","goal"] M3)(Fp:Fun K "paper_of" "paper_of" xa D O)(bp:Binds K O ["table","width"] [])(mp:mg "paper_of"=some (.ref D))(Gp:FnOk P w K mg base aJ 6 D O ["table","width"] Jk)(Fw:Fun K "width_of" "width_of" gS I S)(bw:Binds K S ["table"] [])(mw:mg "width_of"=some (.ref I))(Gw:FnOk P w K mg base aJ 1 I S ["table"] (iE K)):FnOk P w K mg base aJ 7 f fd ["table","goal"] JD:=by
 refine F.ok M4 (fun vs H Q E h=>?_) (fun ah A outer s H vs Q E hr h=>?_)
 ·obtain⟨L,G,rs,tb,g,N,n,m,rfl,_⟩:=h;rfl
 ·obtain⟨L,G,rs,tb,g,N,n,m,rfl,e,i,it,ok,T,Y,Z,fI⟩:=h
  have l:Room 4 _:=hr.mono ξ;have o:Room 3 _:=hr.mono ξ;have y:Room 1 _:=hr.mono ξ;obtain⟨j,U,t3⟩:=gi it;refine⟨_,za (zD (ze Gm l rfl mm Fm.kp bm .nil ap (af (pv 0) (af (pv 1) ak)))) (zf (zo (ze Gb o rfl mb Fb.kp bb .nil ap (af (ze Gp hr rfl mp Fp.kp bp .nil ap (af (pv 0) (af (ze Gw y rfl mw Fw.kp bw .nil ap (af (pv 0) ak)) ak))) (af (pv 1) ak))))),?_⟩;refine⟨_,rfl,_,rfl,L,G,rs,tb,g,rfl,e,i,it,T,Y,fun H1 b=>⟨_,rfl,_,rfl,L,rs,tb,rfl,SqL.of (b _ _ e),i.same b,L,rs,tb,N,n,m,_,_,rfl,b _ _ e,i.same b,ok,?_⟩⟩;intro H2 p u ub v vb st a1 a2 a3 a4 a5 d1 d2 d3 d4 W a pp;have d:=b.trans W;refine⟨_,rfl,p,G,a1,a2,a3,a4,a5,d1,d3,u,v,st,g,rfl,a.at_,a.n1.at_,a.n3.at_,a.n5,a.n1.rows,a.n3.rows,d _ _ T,by rw[pp.lu];exact j,by rw[pp.lv];exact U,fun r hr=>by rw[pp.wu r hr];exact j,fun r hr=>by rw[pp.wv r hr];exact U,ω,Ag pp.sk j,pp.su,pp.sv,Z,fun x hx=>⟨pp.sp x hx,pp.s9 x hx⟩,fun H' q c X hq hc=>?_⟩;exact fI u ub v vb st pp H' q c (d.trans X) (d.free hq) (d.free hc)
end
abbrev yH:Stmt:=top 56
def nD(tb:Ξ)(g a:List Int)(n:Int):Bool:=decide (a.length=tb.length)&&f' n&&!d0 (dot a g) n&&(turn tb).all fun c=>d0 (dot a c) n
def Sr{n:Int}(h:f' n=true):0<=n:=by
 unfold f' at h;rw[Bool.or_eq_true] at h;rcases h with h|h
 ·have:=of_decide_eq_true h;(first|lia|omega)
 ·have:=of_decide_eq_true h;(first|lia|omega)
section
variable{P:Program}{w:World}{K:Ab}{mg:Str->Option Value}{base:Heap}
def M5(K:Ab):Sp:=fun vs H Q _=>∃(L G W:Addr)(rs:List Addr)(tb:Ξ)(g a:List Int)(n:Int),vs=[.ref L,.ref G,.ref W,.int n]/\H L=some (.lst (rs.map V.ref))/\Rws H rs tb/\zT tb=true/\H G=some (.lst (g.map V.int))/\g.length=tb.length/\H W=some (.lst (a.map V.int))/\(∀x∈a,x.natAbs<big)/\(∀x∈g,x.natAbs<big)/\nq tb/\∀H',Same H H'->Q (.bl (nD tb g a n)) H'
def M6:zl ["table","goal","weights","number"] ["table","goal","weights","number"] (zd yH):=⟨rfl,rfl,rfl,δ,rfl,δ,δ⟩
def Ss{f v z I fs J:Addr}{fd M N O S T:FuncData}(F:Fun K "shows_none" "shows_none" yH f fd)(bl:mg "len"=none)(ba:mg "all"=none)(Fm:Fun K "must_have_goal" "must_have_goal" p' v M)(bm:Binds K M ["table","goal"] [])(mm:mg "must_have_goal"=some (.ref v))(Gm:FnOk P w K mg base aJ 4 v M ["table","goal"] (JB K))(Fc:Fun K "can_show" "can_show" jT z N)(bc:Binds K N ["number"] [])(mc:mg "can_show"=some (.ref z))(Gc:FnOk P w K mg base aJ 1 z N ["number"] MX)(Fi:Fun K "is_so_many_times" "is_so_many_times" yB I O)(bi:Binds K O ["total","number"] [])(mi:mg "is_so_many_times"=some (.ref I))(Gi:FnOk P w K mg base aJ 1 I O ["total","number"] GM)(Fs:Fun K "sum_by" "sum_by" tH fs S)(bs:Binds K S ["row","column"] [])(ms:mg "sum_by"=some (.ref fs))(Gs:FnOk P w K mg base aJ 1 fs S ["row","column"] vL)(Fk:Fun K "columns_of" "columns_of" iN J T)(bk:Binds K T ["table"] [])(mk:mg "columns_of"=some (.ref J))(Gk:FnOk P w K mg base aJ 3 J T ["table"] (ka K)):FnOk P w K mg base aJ 5 f fd ["table","goal","weights","number"] (M5 K):=by
 refine F.ok M6 (fun vs H Q E h=>?_) (fun ah A outer s H vs Q E hr h=>?_)
 ·obtain⟨L,G,W,rs,tb,g,a,n,rfl,_⟩:=h;rfl
 ·obtain⟨L,G,W,rs,tb,g,a,n,rfl,l,p,it,hG,lg,q,sw,sg,st,k⟩:=h
  have r:Room 3 _:=hr.mono ξ;have b:Room 1 _:=hr.mono ξ;obtain⟨t1,t2,t3⟩:=gi it;refine⟨_,za (zD (ze Gm hr rfl mm Fm.kp bm .nil ap (af (pv 0) (af (pv 1) ak))))
   (za (zU (PW.pt (nR (zx dB (zj zi rfl bl cx (af (pv 2) ak)) (zj zi rfl bl cx (af (pv 0) ak)) (ar _)) (nP (eZ (eD (ze Gc b rfl mc Fc.kp bc .nil ap (af (pv 3) ak))))))) (zf (zo eS)) zA)
   (za (zU (eD (ze Gi b rfl mi Fi.kp bi .nil ap (af (ze Gs b rfl ms Fs.kp bs .nil ap (af (pv 2) (af (pv 1) ak))) (af (pv 3) ak)))) (zf (zo eS)) zA)
   (zf (zo (zj (lF rfl) rfl ba lZ (af (zp ["table","goal","weights","number"] ["column","weights","number"] [none,some 2,some 3] (zO (ze Gk r rfl mk Fk.kp bk .nil ap (af (pv 0) ak))) (fun X C s₀ H₀ ex=>zk (i:=0) (bx ["column","weights","number"]) rfl (Or.inl rfl)) (fun X C s₀ H₀ ex=>zz)
    (fun X C s₀ H₀ ex=>ze Gi b rfl mi Fi.kp bi .nil ap (af (ze Gs b rfl ms Fs.kp bs .nil ap (af (pv 1) (af (pv 0) ak))) (af (pv 2) ak))) (te:=dD GM [] E0 (zY (dD vL [] E0 (zY (aC 1) (zY (aC 0) bN))) (zY (aC 2) bN))) (hfr:=bM (zd yH) δ)) ak)))))),?_⟩
  refine⟨_,rfl,_,rfl,L,G,rs,tb,g,rfl,l,p,it,hG,lg,fun H1 d=>⟨_,rfl,W,_,rfl,.inl (SqL.of (d _ _ q)),_,rfl,L,_,rfl,.inl (SqL.of (d _ _ l)),rfl,_,rfl,?_⟩⟩;rw[Aa,Aa,p.len,zq];have fin:∀H',Same H1 H'->nD tb g a n=false->Q (.bl false) H':=fun H' s' e=>by
   have:=k H' (d.trans s')
   rwa [e] at this
  by_cases c:a.length=tb.length
  ·rw[decide_eq_true (show(a.length:Int)=tb.length from ω)]
   refine av ⟨_,rfl,n,rfl,_,rfl,?_⟩;cases cn:f' n with
   |false=>exact aT (fin H1 (Same.refl _) (by unfold nD;rw[cn,Bool.and_false];rfl))
   |true=>
    have nn:=Sr cn;refine av ⟨_,rfl,_,rfl,W,G,a,g,rfl,d _ _ q,d _ _ hG,ω,fun x hx y hy=>gs (sw x hx) (sg y hy),fun H2 Y=>⟨_,rfl,_,n,rfl,nn,_,rfl,?_⟩⟩;cases ct:d0 (dot a g) n with
    |true=>exact aT (fin H2 Y (by unfold nD;rw[ct];simp))
    |false=>
     have u:=d.trans Y;refine av ⟨_,rfl,L,rs,tb,rfl,SqL.of (u _ _ l),p.same u,it,fun D H3 ds s3 hD Z rd _ _=>⟨D,rfl,⟨_,SqL.of Z⟩,fun D2 cB=>?_⟩⟩;have aL:=u.trans s3;refine zw (tt (mkV:=V.bl) (g:=fun c=>d0 (dot a c) n) (fun o os H' R sm ho hm hR=>⟨_,rfl,_,rfl,W,o,a,os,rfl,sm _ _ (aL _ _ q),ho,by rw[xS os hm];(first|lia|omega),fun x hx y hy=>gs (sw x hx) (Gz st os hm y hy),fun U j=>⟨_,rfl,_,n,rfl,nn,hR U j⟩⟩) (SqL.of Z) rd (by rw[xB];(first|lia|omega)) cB fun U j bI=>⟨D2,_,rfl,SqL.of bI,?_⟩);have e:nD tb g a n=((turn tb).map fun c=>d0 (dot a c) n).all id:=by
      unfold nD;rw[decide_eq_true c,cn,ct,List.all_map];rfl
     have:=k U (aL.trans j)
     rwa [e] at this
  ·rw[decide_eq_false (show ¬(a.length:Int)=tb.length from ω)]
   exact aT (aT (fin H1 (Same.refl _) (by unfold nD;rw[decide_eq_false c];rfl)))
end
section
variable{k w:Nat}{A:Nat->Tb.Vc}{u ub v vb:Ξ}{st:List Int}
def M7{n i:Nat}{x:Tb.Vc}(h:i<n):Tb.dot n (fun l=>Tb.dl i l) x=x i:=Tb.IG h
def Pap.uinj(p:Pap k w A u ub v vb st){f g:Tb.Vc}(h:∀i,i<k->Tb.dot k (fn u i) f=Tb.dot k (fn u i) g):∀i,i<k->f i=g i:=by
 have e:∀(f:Tb.Vc) i,i<k->f i=Tb.dot k (fn ub i) (fun s=>Tb.dot k (fn u s) f):=fun f i hi=>by
  rw[<-Tb.m7,Tb.zM (a':=fun l=>Tb.dl i l) (fun l a=>p.u2 i l hi a),M7 hi]
 intro i hi;rw[e f i hi,e g i hi];exact Tb.zt fun s b=>h s b
def Pap.bv(p:Pap k w A u ub v vb st){z x:Tb.Vc}(hx:∀t,t<w->x t=Tb.dot w (fn v t) z){i:Nat}(hi:i<k):Tb.dot k (fn u i) (fun s=>Tb.dot w (A s) x)=Tb.dot w z (fun j=>if i=j then vc st i else 0):=by
 have e1:Tb.dot k (fn u i) (fun s=>Tb.dot w (A s) x)=Tb.a6 k w A (fn u i) (fun t=>Tb.dot w z (fun l=>fn v t l)):=by
  unfold Tb.a6;exact Tb.zt fun s _=>Tb.zt fun t a=>by rw[hx t a,Tb.iX]
 rw[e1,Tb.Jn (V:=fun l t=>fn v t l)];exact Tb.zt fun j b=>p.pr' hi b
def Pap.ask(p:Pap k w A u ub v vb st){x g:Tb.Vc}(h:∀i,i<k->Tb.dot w (A i) x=g i):∀i,i<k->vc st i ∣ Tb.dot k (fn u i) g:=fun i hi=>by
 have e:Tb.dot k (fn u i) g=Tb.dot k (fn u i) (fun s=>Tb.dot w (A s) x):=Tb.zt fun s b=>(h s b).symm;rw[e,p.bv (z:=fun s=>Tb.dot w (fn vb s) x) (fun t a=>?_) hi]
 ·refine Tb.Mp fun t _=>?_
  by_cases c:i=t
  ·rw[if_pos c];exact Int.dvd_refl _
  ·rw[if_neg c];exact Int.dvd_zero _
 ·rw[<-Tb.m7,Tb.zM (a':=fun l=>Tb.dl t l) (fun l d=>p.v1 t l a d),M7 a]
def Pap.sol(p:Pap k w A u ub v vb st){g:Tb.Vc}(h:∀i,i<k->vc st i ∣ Tb.dot k (fn u i) g):∀i,i<k->Tb.dot w (A i) (fun t=>Tb.dot w (fn v t) (fun s=>Tb.dot k (fn u s) g / vc st s))=g i:=by
 refine p.uinj fun i hi=>?_;rw[p.bv (z:=fun s=>Tb.dot k (fn u s) g / vc st s) (fun t _=>rfl) hi,Tb.iX]
 by_cases c:i<st.length
 ·rw[Tb.Jm (Au c p.sw),Bb]
  exact Int.ediv_mul_cancel (h i hi)
 ·have e:vc st i=0:=fY ω
  have:=h i hi;rw[e] at this;rw[Int.zero_dvd.mp this];refine Tb.mq fun t _=>?_;rw[e];split<;>rfl
end
def nF(tb:Ξ)(y:List Int):List Int:=tb.map (dot y)
def Solv(tb:Ξ)(g:List Int):Prop:=∃x:Tb.Vc,∀i,i<tb.length->Tb.dot (wid tb) (fn tb i) x=vc g i
def Su{b:Type}{l:List b}{f:b->Int}{i:Nat}{a:b}(h:l[i]?=some a):vc (l.map f) i=f a:=by
 unfold vc;rw[Ad,Aj,h];rfl
def Sv{tb:Ξ}{y:List Int}(hw:∀r∈tb,r.length=wid tb)(hy:y.length=wid tb){i:Nat}(hi:i<tb.length):vc (nF tb y) i=Tb.dot (wid tb) (fn tb i) (vc y):=by
 unfold nF;rw[Su (Ac hi)];have a:=hw _ (AB hi);rw[jU,GK ω,a];unfold fn;rw[zI (Ac hi)]
def Solv.mix{tb:Ξ}{g o h:List Int}{c:Int}(hg:Solv tb g)(a:Solv tb o)(e:∀i,i<tb.length->vc h i=c*vc g i+vc o i):Solv tb h:=by
 obtain⟨x,hx⟩:=hg;obtain⟨y,hy⟩:=a;refine⟨fun t=>c*x t+y t,fun i hi=>?_⟩;rw[Tb.pF,hx i hi,hy i hi,e i hi]
section
variable{tb u ub v vb:Ξ}{st g:List Int}
def JE(p:Pap tb.length (wid tb) (fn tb) u ub v vb st)(b:g.length=tb.length){i:Nat}(hi:i<tb.length):dot g (rowAt u i)=Tb.dot tb.length (fn u i) (vc g):=by
 have a:=p.wu _ (zG (show i<u.length by rw[p.lu];exact hi));rw[jU,GK ω,a]
 rfl
def M8{t n:Int}:d0 t n=true↔n ∣ t:=by
 unfold d0;rw[decide_eq_true_iff];exact⟨Int.dvd_of_emod_eq_zero,Int.emod_eq_zero_of_dvd⟩
def Pap.yes(p:Pap tb.length (wid tb) (fn tb) u ub v vb st)(a:g.length=tb.length)(h:∀k,k<u.length->d0 (dot g (rowAt u k)) (vc st k)=true):Solv tb g:=
 ⟨_,p.sol fun i hi=>by rw[<-JE p a hi];exact M8.mp (h i (by rw[p.lu];exact hi))⟩
def Pap.no(p:Pap tb.length (wid tb) (fn tb) u ub v vb st)(b:g.length=tb.length){k:Nat}(hk:k<u.length)(h:d0 (dot g (rowAt u k)) (vc st k)=false):¬Solv tb g:=fun⟨x,hx⟩=>by
 have a:k<tb.length:=by rw[<-p.lu];exact hk
 have:=p.ask hx k a;rw[<-JE p b a,<-M8,h] at this;cases this
def Pap.worth(p:Pap tb.length (wid tb) (fn tb) u ub v vb st)(hw:∀r∈tb,r.length=wid tb){k:Nat}(hk:k<u.length){y:List Int}(hy:y.length=wid tb):vc st k ∣ dot (rowAt u k) (nF tb y):=by
 have a:k<tb.length:=by rw[<-p.lu];exact hk
 have b:(nF tb y).length=tb.length:=Aa ..;have:=p.ask (x:=vc y) (g:=vc (nF tb y)) (fun i hi=>(Sv hw hy hi).symm) k a
 rwa [<-JE p b a,jU] at this
end
abbrev GP:Stmt:=top 58
abbrev yN:Stmt:=top 59
abbrev qa:Stmt:=top 60
def Rws.drop{H:Hp}{ds:List Addr}{tb:Ξ}(h:Rws H ds tb):∀n:Nat,Rws H (ds.drop n) (tb.drop n):=by
 induction h with
 |nil=>intro n;rw[List.drop_nil,List.drop_nil];exact .nil
 |cons r t ih=>
  intro n;cases n with
  |zero=>exact .cons r t
  |succ n=>exact ih n
section
variable{P:Program}{w:World}{K:Ab}{mg:Str->Option Value}{base:Heap}
def M9(K:Ab):Sp:=fun vs H Q _=>∃(L N:Addr)(rs:List Addr)(tb:Ξ)(y:List Int),vs=[.ref L,.ref N]/\H L=some (.lst (rs.map V.ref))/\Rws H rs tb/\zT tb=true/\H N=some (.lst (y.map V.int))/\y.length=wid tb/\nq tb/\(∀x∈y,x.natAbs<big)/\kg H Q (nF tb y)
def M_:zl ["table","numbers"] ["table","numbers"] (zd GP):=⟨rfl,rfl,rfl,δ,rfl,δ,δ⟩
def Sw{f i j fr:Addr}{fd l o p:FuncData}(F:Fun K "brought" "brought" GP f fd)(bl:mg "len"=none)(Fm:Fun K "must_be_table" "must_be_table" j' i l)(bm:Binds K l ["table"] [])(J:mg "must_be_table"=some (.ref i))(U:FnOk P w K mg base aJ 3 i l ["table"] (x3 K))(Fw:Fun K "width_of" "width_of" gS j o)(M:Binds K o ["table"] [])(O:mg "width_of"=some (.ref j))(W:FnOk P w K mg base aJ 1 j o ["table"] (iE K))(Fr:Fun K "row_by" "row_by" l6 fr p)(S:Binds K p ["row","columns"] [])(T:mg "row_by"=some (.ref fr))(X:FnOk P w K mg base aJ 2 fr p ["row","columns"] (vP K)):FnOk P w K mg base aJ 4 f fd ["table","numbers"] (M9 K):=by
 refine F.ok M_ (fun vs H Q E h=>?_) (fun Y A outer s H vs Q E hr h=>?_)
 ·obtain⟨L,N,rs,tb,y,rfl,_⟩:=h;rfl
 ·obtain⟨L,N,rs,tb,y,rfl,b,d,it,q,C,st,G,k⟩:=h
  have e:Room 2 _:=hr.mono ξ;have g:Room 1 _:=hr.mono ξ;obtain⟨Z,t2,I⟩:=gi it;refine⟨_,za (zD (ze U hr rfl J Fm.kp bm .nil ap (af (pv 0) ak)))
   (za (zU (zx dB (zj zi rfl bl cx (af (pv 1) ak)) (ze W g rfl O Fw.kp M .nil ap (af (pv 0) ak)) (ar _)) i5 zA)
   (zf (zo (ze X e rfl T Fr.kp S .nil ap (af (pv 1) (af (pv 0) ak)))))),?_⟩
  refine⟨_,rfl,L,rs,tb,rfl,SqL.of b,d,it,fun H1 a=>⟨_,rfl,N,_,rfl,.inl (SqL.of (a _ _ q)),_,rfl,L,rs,tb,rfl,SqL.of (a _ _ b),d.same a,rfl,_,rfl,?_⟩⟩;rw[Aa,C,decide_eq_true rfl];refine av ⟨_,rfl,_,rfl,N,L,y,rs,tb,rfl,a _ _ q,a _ _ b,d.same a,ω,fun c hc=>⟨by rw[I c hc];(first|lia|omega),fun x hx z hz=>gs (G x hx) (st c hc z hz)⟩,fun D H2 r u v=>?_⟩;exact k D H2 (a.trans r) (a.free u) v
def M'(H:Hp)(Q:VK)(v:Ξ)(st:List Int):Prop:=∀D H' ds,Same H H'->H D=none->H' D=some (.lst (ds.map V.ref))->Rws H' ds ((turn v).drop st.length)->Q (.ref D) H'
def GQ(K:Ab):Sp:=fun vs H Q _=>∃(p a1 a2 a3 a4 a5:Addr)(d3:List Addr)(v:Ξ)(st:List Int),vs=[.ref p]/\H p=some (.tup [.ref a1,.ref a2,.ref a3,.ref a4,.ref a5])/\H a3=some (.lst (d3.map V.ref))/\H a5=some (.lst (st.map V.int))/\Rws H d3 v/\zT v=true/\M' H Q v st
def Sx:zl ["paper"] ["paper"] (zd qa):=⟨rfl,rfl,rfl,δ,rfl,δ,δ⟩
def Sy{f b:Addr}{fd c:FuncData}(F:Fun K "leaves_of" "leaves_of" qa f fd)(bl:mg "len"=none)(Fc:Fun K "columns_of" "columns_of" iN b c)(r:Binds K c ["table"] [])(u:mg "columns_of"=some (.ref b))(x:FnOk P w K mg base aJ 3 b c ["table"] (ka K)):FnOk P w K mg base aJ 4 f fd ["paper"] (GQ K):=by
 refine F.ok Sx (fun vs H Q E h=>?_) (fun y A outer s H vs Q E hr h=>?_)
 ·obtain⟨p,a1,a2,a3,a4,a5,d3,v,st,rfl,_⟩:=h;rfl
 ·obtain⟨p,a1,a2,a3,a4,a5,d3,v,st,rfl,hp,g,i,l,o,k⟩:=h
  refine⟨_,zf (zo (ro rv (ze x hr rfl u Fc.kp r .nil ap (af (zy zE (pv 0) zb (fun _ _=>rfl)) ak)) (rm (zj zi rfl bl cx (af (zy zE (pv 0) zb (fun _ _=>rfl)) ak))) ri)),?_⟩;refine⟨_,rfl,p,_,_,_,rfl,rfl,SqT.of hp,zh (j:=2) rfl,a3,d3,v,rfl,SqL.of g,l,o,fun D H1 ds a z d e _ _=>?_⟩;refine⟨_,rfl,p,_,_,_,rfl,rfl,SqT.of (a _ _ hp),zh (j:=4) rfl,a5,_,rfl,.inl (SqL.of (a _ _ i)),_,rfl,D,_,rfl,SqL.of d,fun q hq=>?_⟩;rw[Aa,jw,<-List.map_drop];exact k q _ (ds.drop st.length) (a.trans (Same.new hq)) (a.free hq) al ((e.drop st.length).same (Same.new hq))
def Na(K:Ab):Sp:=fun vs H Q _=>∃(L:Addr)(rs:List Addr)(tb:Ξ)(N n m:Nat),vs=[.ref L]/\H L=some (.lst (rs.map V.ref))/\Rws H rs tb/\zT tb=true/\mZ N n m tb.length (wid tb) tb/\∀u ub v vb st,Pap tb.length (wid tb) (fn tb) u ub v vb st->M' H Q v st
def Nb:zl ["table"] ["table"] (zd yN):=⟨rfl,rfl,rfl,δ,rfl,δ,δ⟩
def Sz{f c fs:Addr}{fd d e:FuncData}(F:Fun K "leaves" "leaves" yN f fd)(Fl:Fun K "leaves_of" "leaves_of" qa c d)(bl:Binds K d ["paper"] [])(y:mg "leaves_of"=some (.ref c))(Gl:FnOk P w K mg base aJ 4 c d ["paper"] (GQ K))(Fs:Fun K "stepped" "stepped" nh fs e)(bs:Binds K e ["table"] [])(ms:mg "stepped"=some (.ref fs))(z:FnOk P w K mg base aJ 7 fs e ["table"] (GA K)):FnOk P w K mg base aJ 8 f fd ["table"] (Na K):=by
 refine F.ok Nb (fun vs H Q E h=>?_) (fun C A outer s H vs Q E hr h=>?_)
 ·obtain⟨L,rs,tb,N,n,m,rfl,_⟩:=h;rfl
 ·obtain⟨L,rs,tb,N,n,m,rfl,q,r,it,ok,k⟩:=h
  have b:Room 4 _:=hr.mono ξ;obtain⟨G,x,I⟩:=gi it;refine⟨_,zf (zo (ze Gl b rfl y Fl.kp bl .nil ap (af (ze z hr rfl ms Fs.kp bs .nil ap (af (pv 0) ak)) ak))),?_⟩;refine⟨_,rfl,L,rs,tb,N,n,m,rfl,q,r,it,ok,?_⟩;intro H1 p u ub v vb st a1 a2 a3 a4 a5 d1 d2 d3 d4 g a pp;refine⟨p,a1,a2,a3,a4,a5,d3,v,st,rfl,a.at_,a.n3.at_,a.n5,a.n3.rows,(xn pp.lv pp.wv x).1,fun D H' ds i j l o=>?_⟩;exact k u ub v vb st pp D H' ds (g.trans i) (g.free j) l o
def kd(b:Bool):Str:=if b then "yes" else "no"
def Ans(H H':Hp)(r:Addr)(tb:Ξ)(g:List Int)(b:Bool):Prop:=(b=true↔Solv tb g)/\H r=none/\∃rest:List V,H' r=some (.tup (.str (kd b)::rest))/\
 (b=false->∃c a n,rest=[.ref c,.int n]/\H c=none/\H' c=some (.lst (a.map V.int))/\a.length=tb.length/\(∀x∈a,x.natAbs<low)/\0<=n/\∀y:List Int,y.length=wid tb->n ∣ dot a (nF tb y))
def Ans.same{H H' H2:Hp}{r:Addr}{tb:Ξ}{g:List Int}{b:Bool}(h:Ans H H' r tb g b)(s:Same H' H2):Ans H H2 r tb g b:=by
 obtain⟨h1,h2,rest,a,d⟩:=h;refine⟨h1,h2,rest,s _ _ a,fun e=>?_⟩;obtain⟨c,f,n,e1,e2,e3,i⟩:=d e;exact⟨c,f,n,e1,e2,s _ _ e3,i⟩
def Ans.draw{H H' H2:Hp}{p r:Addr}{tb:Ξ}{g:List Int}{b:Bool}(h:Ans H H' r tb g b)(hb:zX H p)(s:zaa p H' H2):Ans H H2 r tb g b:=by
 obtain⟨h1,h2,rest,a,d⟩:=h;refine⟨h1,h2,rest,s _ _ (zV hb h2) a,fun e=>?_⟩;obtain⟨c,f,n,e1,e2,e3,i⟩:=d e;exact⟨c,f,n,e1,e2,s _ _ (zV hb e2) e3,i⟩
def Ans.old{H0 H H':Hp}{r:Addr}{tb:Ξ}{g:List Int}{b:Bool}(h:Ans H H' r tb g b)(s:Same H0 H):Ans H0 H' r tb g b:=by
 obtain⟨h1,h2,rest,a,d⟩:=h;refine⟨h1,s.free h2,rest,a,fun e=>?_⟩;obtain⟨c,f,n,e1,e2,e3,i⟩:=d e;exact⟨c,f,n,e1,s.free e2,e3,i⟩
def SB{H:Hp}{Q:VK}{E:XK}{L G:Addr}{rs:List Addr}{tb:Ξ}{g:List Int}(e:H L=some (.lst (rs.map V.ref)))(f:Rws H rs tb)(it:zT tb=true)(ok:JA tb)(h:H G=some (.lst (g.map V.int)))(d:g.length=tb.length)(i:∀x∈g,x.natAbs<=2 ^ 900)(k:∀H' r b,Same H H'->Ans H H' r tb g b->Q (.ref r) H'):JD [.ref L,.ref G] H Q E:=by
 obtain⟨N,n,m,ok⟩:=ok;refine⟨L,G,rs,tb,g,N,n,m,rfl,e,f,it,ok,h,d,i,fun u ub v vb st pp H' r c s hr hc=>⟨fun j a e1 e2 e3=>?_,fun e1 e2 e3=>?_⟩⟩
 ·refine k H' r false s ⟨⟨(fun z=>by cases z),fun z=>absurd z (pp.no d a e3)⟩,hr,_,e1,fun _=>⟨c,rowAt u j,vc st j,rfl,hc,e2,by rw[pp.wu _ (zG a)],pp.su _ (zG a),?_,fun y hy=>pp.worth ok.wd a hy⟩⟩
  by_cases z:j<st.length
  ·rw[jL z];exact Int.le_of_lt (pp.sp _ (AB z))
  ·rw[fY ω];exact Int.le_refl _
 ·exact k H' r true s ⟨⟨fun _=>pp.yes d e3,fun _=>rfl⟩,hr,_,e1,(fun z=>by cases z)⟩
end
end K27
end
section
namespace L2
open PySem PySem.Spec PyProof.Rows
def Cl(P:Program)(w:World)(K:Ab)(mg:Str->Option Value)(base:Heap)(CX:ew)(x:Str)(ps:List Str)(k:Nat)(sp:Sp):Prop:=
 ∃(f:Addr)(fd:FuncData),PySem.W.keepIn K (.ref f)=true/\Binds K fd ps []/\mg x=some (.ref f)/\FnOk P w K mg base CX k f fd ps sp
section
variable{X:Cx}{CX:ew}{k n:Nat}{ps:List Str}{sp:Sp}{E:XK}{x:Str}{p pos:Pos}{e:Expr}{es:List Expr}{t:TA}
def cL(C:Cl X.prog X.w X.K X.mg X.base CX x ps k sp)(hr:Room n X.A)(hg:Gl X x)(hx:cJ CX X E)(c:PA X (e::es) t)(d:k<=n:=by decide)(g:(x==("__debug__":Str))=false:=by decide)
  (h:starEach (e::es) X.env=(false,eval e X.env)::starEach es X.env:=by rfl) (a:(backTo pos (starEach es X.env)).any (·.1)=false:=by rfl):PE X (.Call (.Name x p) (e::es) [] pos) (dD sp [] E t):=by
 obtain⟨f,fd,hk,hb,b,F⟩:=C;exact ze F (hr.mono d) hg b hk hb .nil hx c g h a
end
section
variable{P:Program}{w:World}{K:Ab}{mg:Str->Option Value}{base:Heap}{CX:ew}{k:Nat}{f:Addr}{fd:FuncData}{x:Str}{st:Stmt}{ps:List Str}{sp sq:Sp}
def FnOk.or(F:FnOk P w K mg base CX k f fd ps sp)(G:FnOk P w K mg base CX k f fd ps sq):FnOk P w K mg base CX k f fd ps (fun vs H Q E=>sp vs H Q E\/sq vs H Q E):=
 ⟨fun vs H Q E h=>h.elim (F.len vs H Q E) (G.len vs H Q E),fun A outer s H args us vs Q E hr a hb b h=>h.elim (F.run A outer s H args us vs Q E hr a hb b) (G.run A outer s H args us vs Q E hr a hb b)⟩
def gv(F:Fun K x x st f fd)(b:Binds K fd ps [])(m:mg x=some (.ref f))(G:FnOk P w K mg base CX k f fd ps sp):Cl P w K mg base CX x ps k sp:=⟨f,fd,F.kp,b,m,G⟩
def JF(F:Fun K x x st f fd)(b:Binds K fd ps [])(m:mg x=some (.ref f))(G:FnOk P w K mg base aJ k f fd ps sp)(a:FnOk P w K mg base (a8 P w) k f fd ps sq):Cl P w K mg base (a8 P w) x ps k (fun vs H Q E=>sp vs H Q E\/sq vs H Q E):=⟨f,fd,F.kp,b,m,G.cx1.or a⟩
structure Df(K:Ab)(x:Str)(st:Stmt)(f:Addr):Prop where
 ex:∃fd,Fun K x x st f fd
 a:PySem.W.nsIn K mainGlobals x=some (some (.ref f))
def JG{i:Value}{j g:Option Addr}{h:Array (Option Value)}{kV d e b ct:Value}(a:PySem.W.nsIn K mainGlobals x=some (some (.ref f)))(l:K.lookup f=some ⟨i,j,.func (PySem.W.fnOf x x (zb2 st) (zax st) (zd st) .none kV d e g b ct),h⟩)(c:PySem.W.codeIn K b x=true)(k:PySem.W.keepIn K (.ref f)=true):Df K x st f:=⟨⟨_,Oz l c k⟩,a⟩
structure Nn(K:Ab)(x:Str)(v:Option Value):Prop where
 e:PySem.W.nsIn K mainGlobals x=some v
abbrev BA(x:Str)(st:Stmt)(us:List Value)(r:List (Str×Value)):Prop:=∀(kV aY pm:Value)(an:Option Addr)(ah ct:Value),bindArgs (PySem.W.fnOf x x (zb2 st) (zax st) (zd st) .none kV aY pm an ah ct) ⟨us,[]⟩=pure r
variable{h:Heap}(X:K.In h)(G:h.Ns mainGlobals mg)
include X G
theorem Nn.m{v:Value}(n:Nn K x (some v)):mg x=some v:=PySem.W.mg_of X G n.e
theorem Nn.n(n:Nn K x none):mg x=none:=PySem.W.mg_none_of X G n.e
theorem Df.m(D:Df K x st f):mg x=some (.ref f):=PySem.W.mg_of X G D.a
theorem Df.g1(D:Df K x st f)(p:Str)(hb:∀a,BA x st [a] [(p,a)]:=by exact fun _ _ _ _ _ _ _=>rfl):∃fd,Fun K x x st f fd/\Binds K fd [p] []/\mg x=some (.ref f):=by
 obtain⟨⟨fd,F⟩,a⟩:=D;refine⟨fd,F,F.binds fun _ _ _ _ _ _ us b=>?_,PySem.W.mg_of X G a⟩
 match us,b with
 |[a],_=>exact hb a _ _ _ _ _ _
theorem Df.g2(D:Df K x st f)(p q:Str)(hb:∀a b,BA x st [a,b] [(p,a),(q,b)]:=by exact fun _ _ _ _ _ _ _ _=>rfl):∃fd,Fun K x x st f fd/\Binds K fd [p,q] []/\mg x=some (.ref f):=by
 obtain⟨⟨fd,F⟩,a⟩:=D;refine⟨fd,F,F.binds fun _ _ _ _ _ _ us c=>?_,PySem.W.mg_of X G a⟩
 match us,c with
 |[a,b],_=>exact hb a b _ _ _ _ _ _
theorem Df.g3(D:Df K x st f)(p q r:Str)(hb:∀a b c,BA x st [a,b,c] [(p,a),(q,b),(r,c)]:=by exact fun _ _ _ _ _ _ _ _ _=>rfl):∃fd,Fun K x x st f fd/\Binds K fd [p,q,r] []/\mg x=some (.ref f):=by
 obtain⟨⟨fd,F⟩,a⟩:=D;refine⟨fd,F,F.binds fun _ _ _ _ _ _ us d=>?_,PySem.W.mg_of X G a⟩
 match us,d with
 |[a,b,c],_=>exact hb a b c _ _ _ _ _ _
theorem Df.g4(D:Df K x st f)(p q r s:Str)(hb:∀a b c d,BA x st [a,b,c,d] [(p,a),(q,b),(r,c),(s,d)]:=by exact fun _ _ _ _ _ _ _ _ _ _=>rfl):∃fd,Fun K x x st f fd/\Binds K fd [p,q,r,s] []/\mg x=some (.ref f):=by
 obtain⟨⟨fd,F⟩,a⟩:=D;refine⟨fd,F,F.binds fun _ _ _ _ _ _ us e=>?_,PySem.W.mg_of X G a⟩
 match us,e with
 |[a,b,c,d],_=>exact hb a b c d _ _ _ _ _ _
omit X G
theorem SC{C:Addr}(a:PySem.W.findIn K (.ref C) "__getattribute__"=some (some (.builtin "BaseException.__getattribute__")))(b:PySem.W.findIn K (.ref C) "__getattr__"=some none)(q:Bk K C ge "ValueError.__new__"=true)(c:PySem.W.findIn K (.ref C) "__class__"=some (some (.builtin "object.__class__")))(d:PySem.W.specialIn K (.builtin "object.__class__") "__get__"=some (some (.builtin "getset_descriptor.__get__")))(e:PySem.W.takesIn K (.builtin "object.__class__")=some true)(f:PySem.W.mroIn K C (.type "object")=some true)(g:PySem.W.mroIn K C (.type "BaseException")=some true):eE K C:=
 ⟨a,b,Pc q,c,d,e,f,g⟩
end
end L2
end
section
namespace K27
open PySem L2
abbrev JH:Stmt:=top 18
abbrev JI:Stmt:=top 14
abbrev GR:Stmt:=top 33
abbrev yR:Stmt:=top 34
def zaw(H:Hp)(L:Addr)(tb:Ξ):Prop:=∃rs,H L=some (.lst (rs.map V.ref))/\Rws H rs tb/\zT tb=true/\JA tb/\Sm9 tb
def BadT(H:Hp)(L:Addr):Prop:=∃rs tb,H L=some (.lst (rs.map V.ref))/\Rws H rs tb/\tb.length<=1000/\zT tb=false
def AnyQ(H:Hp)(Q:VK):Prop:=∀v H',Same H H'->Q v H'
def Rai(H:Hp)(E:XK)(C:Addr):Prop:=∀H1,Same H H1->∀x,H1 x=none->E (.ref x) (some C) H1
def zaw.same{H H':Hp}{L:Addr}{tb:Ξ}(h:zaw H L tb)(s:Same H H'):zaw H' L tb:=by
 obtain⟨rs,a,b,c⟩:=h;exact⟨rs,s _ _ a,b.same s,c⟩
def BadT.same{H H':Hp}{L:Addr}(h:BadT H L)(s:Same H H'):BadT H' L:=by
 obtain⟨rs,tb,a,b,c⟩:=h;exact⟨rs,tb,s _ _ a,b.same s,c⟩
def AnyQ.same{H H':Hp}{Q:VK}(h:AnyQ H Q)(s:Same H H'):AnyQ H' Q:=fun v H2 a=>h v H2 (s.trans a)
def Rai.same{H H':Hp}{E:XK}{C:Addr}(h:Rai H E C)(s:Same H H'):Rai H' E C:=fun H2 a=>h H2 (s.trans a)
def qh{P:Program}{w:World}{K:Ab}{mg:Str->Option Value}{base:Heap}{CX:ew}{k:Nat}{f:Addr}{fd:FuncData}{ps:List Str}{sp sq:Sp}(F:FnOk P w K mg base CX k f fd ps sp)(h:∀vs H Q E,sq vs H Q E->sp vs H Q E):FnOk P w K mg base CX k f fd ps sq:=
 ⟨fun vs H Q E g=>F.len vs H Q E (h _ _ _ _ g),fun A outer s H args us vs Q E hr a hb b g=>F.run A outer s H args us vs Q E hr a hb b (h _ _ _ _ g)⟩
def eO(fT:Addr):Sp:=fun vs H Q E=>∃L,vs=[.ref L]/\((∃tb,zaw H L tb/\AnyQ H Q)\/(BadT H L/\Rai H E fT))
def eR(fT:Addr):Sp:=fun vs H Q E=>∃L,vs=[.ref L]/\((∃tb,zaw H L tb/\∀H',Same H H'->Q .non H')\/(BadT H L/\Rai H E fT))
section
variable{P:Program}{w:World}{K:Ab}{mg:Str->Option Value}{base:Heap}{fT fG fN:Addr}
def SE{f:Addr}{fd:FuncData}(G:FnOk P w K mg base (a8 P w) 3 f fd ["table"] (KC K fT)):FnOk P w K mg base (a8 P w) 3 f fd ["table"] (eR fT):=qh G fun vs H Q E h=>by
 obtain⟨L,rfl,⟨tb,⟨rs,a,b,it,_⟩,k⟩|⟨⟨rs,tb,a,b,hz,it⟩,k⟩⟩:=h
 ·exact⟨L,rs,tb,rfl,SqL.of a,b,by have:=(gi it).1;(first|lia|omega),fun H' s=>⟨fun _=>k H' s,fun z=>(by rw[it] at z;cases z)⟩⟩
 ·exact⟨L,rs,tb,rfl,SqL.of a,b,hz,fun H' s=>⟨fun z=>(by rw[it] at z;cases z),fun _ x hx=>k H' s x hx⟩⟩
def GS(fT:Addr):Sp:=fun vs H Q E=>∃L,vs=[.ref L]/\BadT H L/\Rai H E fT
section
variable(M:Cl P w K mg base (a8 P w) "must_be_table" ["table"] 3 (eR fT))
include M
theorem SF:zl ["table"] ["table"] (zd JH):=⟨rfl,rfl,rfl,δ,rfl,δ,δ⟩
theorem SG{f a:Addr}{fd c:FuncData}(F:Fun K "turned_over" "turned_over" JH f fd)(Fc:Fun K "columns_of" "columns_of" iN a c)(l:Binds K c ["table"] [])(o:mg "columns_of"=some (.ref a))(p:FnOk P w K mg base aJ 3 a c ["table"] (ka K)):FnOk P w K mg base (a8 P w) 4 f fd ["table"] (eO fT):=by
 refine F.ok1 (SF M) (fun vs H Q E h=>?_) (fun q A outer s H vs Q E hr h=>?_)
 ·obtain⟨L,rfl,_⟩:=h;rfl
 ·obtain⟨L,rfl,h⟩:=h
  refine⟨_,za (zD (cL M hr rfl (a7 (E:=E)) (af (pv 0) ak))) (zf (zo (ze p hr rfl o Fc.kp l .nil ap (af (pv 0) ak)))),?_⟩;rcases h with ⟨tb,g,k⟩|⟨b,k⟩
  ·refine⟨_,rfl,L,rfl,.inl ⟨tb,g,fun H1 d=>?_⟩⟩
   obtain⟨rs,i,j,it,_⟩:=g.same d;exact⟨_,rfl,L,rs,tb,rfl,SqL.of i,j,it,fun D H2 ds e _ _ _ _ _=>k _ H2 (d.trans e)⟩
  ·exact⟨_,rfl,L,rfl,.inr ⟨b,k⟩⟩
theorem SH{f:Addr}{fd:FuncData}(F:Fun K "stepped" "stepped" nh f fd):FnOk P w K mg base (a8 P w) 7 f fd ["table"] (GS fT):=by
 refine F.ok1 ME (fun vs H Q E h=>?_) (fun a A outer s H vs Q E hr h=>?_)
 ·obtain⟨L,rfl,_⟩:=h;rfl
 ·obtain⟨L,rfl,b,k⟩:=h
  exact⟨_,za (zD (cL M hr rfl (a7 (E:=E)) (af (pv 0) ak))) i5,⟨_,rfl,L,rfl,.inr ⟨b,k⟩⟩⟩
def y'(fT:Addr):Sp:=fun vs H Q E=>∃(L p a1 a2 a3 a4 a5:Addr),vs=[.ref L,.ref p]/\H p=some (.tup [.ref a1,.ref a2,.ref a3,.ref a4,.ref a5])/\H a1=some (.lst [])/\H a2=some (.lst [])/\H a3=some (.lst [])/\H a4=some (.lst [])/\H a5=some (.lst [])/\((∃tb,zaw H L tb/\AnyQ H Q)\/(BadT H L/\Rai H E fT))
def JJ(fT:Addr):Sp:=fun vs H Q E=>∃(L p:Addr),vs=[.ref L,.ref p]/\BadT H L/\Rai H E fT
theorem SI{f:Addr}{fd:FuncData}(F:Fun K "is_stepped" "is_stepped" xp f fd):FnOk P w K mg base (a8 P w) 5 f fd ["table","paper"] (JJ fT):=by
 refine F.ok1 Js (fun vs H Q E h=>?_) (fun a A outer s H vs Q E hr h=>?_)
 ·obtain⟨L,p,rfl,_⟩:=h;rfl
 ·obtain⟨L,p,rfl,b,k⟩:=h
  exact⟨_,za (zD (cL M hr rfl (a7 (E:=E)) (af (pv 0) ak))) i5,⟨_,rfl,L,rfl,.inr ⟨b,k⟩⟩⟩
def zc(fT:Addr):Sp:=fun vs H Q E=>∃(L N:Addr),vs=[.ref L,.ref N]/\((BadT H L)\/(∃tb,zaw H L tb/\BadT H N))/\Rai H E fT
theorem SJ:zl ["one","other"] ["one","other"] (zd JI):=⟨rfl,rfl,rfl,δ,rfl,δ,δ⟩
theorem SK{f:Addr}{fd:FuncData}(F:Fun K "product" "product" JI f fd):FnOk P w K mg base (a8 P w) 4 f fd ["one","other"] (zc fT):=by
 refine F.ok1 (SJ M) (fun vs H Q E h=>?_) (fun c A outer s H vs Q E hr h=>?_)
 ·obtain⟨L,N,rfl,_⟩:=h;rfl
 ·obtain⟨L,N,rfl,b,k⟩:=h
  refine⟨_,za (zD (cL M hr rfl (a7 (E:=E)) (af (pv 0) ak))) (za (zD (cL M hr rfl (a7 (E:=E)) (af (pv 1) ak))) i5),?_⟩;rcases b with b|⟨tb,g,b⟩
  ·exact⟨_,rfl,L,rfl,.inr ⟨b,k⟩⟩
  ·exact⟨_,rfl,L,rfl,.inl ⟨tb,g,fun H1 a=>⟨_,rfl,N,rfl,.inr ⟨b.same a,k.same a⟩⟩⟩⟩
end
end
def isP(n:Int):Bool:=decide (2<=n)&&decide (n<=100)&&(Ah (n-2).toNat).all fun i=>!decide (n%(2+(i:Int))=0)
section
variable{P:Program}{w:World}{K:Ab}{mg:Str->Option Value}{base:Heap}{fT fG fN:Addr}
def SM{f:Addr}{fd:FuncData}(F:Fun K "stepped" "stepped" nh f fd)(b:Binds K fd ["table"] [])(m:mg "stepped"=some (.ref f))(G:FnOk P w K mg base aJ 7 f fd ["table"] (GA K))(M:Cl P w K mg base (a8 P w) "must_be_table" ["table"] 3 (eR fT)):Cl P w K mg base (a8 P w) "stepped" ["table"] 7 (eO fT):=
 gv F b m (qh (G.cx1.or (SH M F)) fun vs H Q E h=>by
  obtain⟨L,rfl,⟨tb,⟨rs,a,c,it,⟨N,n,m,ok⟩,_⟩,k⟩|⟨hb,k⟩⟩:=h
  ·exact .inl ⟨L,rs,tb,N,n,m,rfl,a,c,it,ok,fun H' p u ub v vb st a1 a2 a3 a4 a5 d1 d2 d3 d4 s _ _=>k _ H' s⟩
  ·exact .inr ⟨L,rfl,hb,k⟩)
section
variable(S:Cl P w K mg base (a8 P w) "stepped" ["table"] 7 (eO fT))
include S
theorem SN{f:Addr}{fd:FuncData}(F:Fun K "steps_of" "steps_of" ni f fd):FnOk P w K mg base (a8 P w) 8 f fd ["table"] (GS fT):=by
 refine F.ok1 MF (fun vs H Q E h=>?_) (fun a A outer s H vs Q E hr h=>?_)
 ·obtain⟨L,rfl,_⟩:=h;rfl
 ·obtain⟨L,rfl,b,k⟩:=h
  exact⟨_,zf (zo (zy zE (cL S hr rfl (a7 (E:=E)) (af (pv 0) ak)) zb (fun _ _=>rfl))),⟨_,rfl,L,rfl,.inr ⟨b,k⟩⟩⟩
theorem SO{f c:Addr}{fd d:FuncData}(F:Fun K "leaves" "leaves" yN f fd)(Fl:Fun K "leaves_of" "leaves_of" qa c d)(bl:Binds K d ["paper"] [])(e:mg "leaves_of"=some (.ref c))(Gl:FnOk P w K mg base aJ 4 c d ["paper"] (GQ K)):FnOk P w K mg base (a8 P w) 8 f fd ["table"] (GS fT):=by
 refine F.ok1 Nb (fun vs H Q E h=>?_) (fun g A outer s H vs Q E hr h=>?_)
 ·obtain⟨L,rfl,_⟩:=h;rfl
 ·obtain⟨L,rfl,b,k⟩:=h
  have a:Room 4 _:=hr.mono ξ;exact⟨_,zf (zo (ze Gl a rfl e Fl.kp bl .nil ap (af (cL S hr rfl (a7 (E:=E)) (af (pv 0) ak)) ak))),⟨_,rfl,L,rfl,.inr ⟨b,k⟩⟩⟩
end
def SQ{f:Addr}{fd:FuncData}(F:Fun K "steps_of" "steps_of" ni f fd)(b:Binds K fd ["table"] [])(m:mg "steps_of"=some (.ref f))(G:FnOk P w K mg base aJ 8 f fd ["table"] (GB K))(S:Cl P w K mg base (a8 P w) "stepped" ["table"] 7 (eO fT)):Cl P w K mg base (a8 P w) "steps_of" ["table"] 8 (eO fT):=
 gv F b m (qh (G.cx1.or (SN S F)) fun vs H Q E h=>by
  obtain⟨L,rfl,⟨tb,⟨rs,c,d,it,⟨N,n,m,ok⟩,_⟩,k⟩|⟨hb,k⟩⟩:=h
  ·exact .inl ⟨L,rs,tb,N,n,m,rfl,c,d,it,ok,fun a H' u ub v vb st s _ _ _=>k _ H' s⟩
  ·exact .inr ⟨L,rfl,hb,k⟩)
def SR{f a:Addr}{fd c:FuncData}(F:Fun K "leaves" "leaves" yN f fd)(b:Binds K fd ["table"] [])(m:mg "leaves"=some (.ref f))(G:FnOk P w K mg base aJ 8 f fd ["table"] (Na K))(i:Fun K "leaves_of" "leaves_of" qa a c)(bl:Binds K c ["paper"] [])(g:mg "leaves_of"=some (.ref a))(Gl:FnOk P w K mg base aJ 4 a c ["paper"] (GQ K))(S:Cl P w K mg base (a8 P w) "stepped" ["table"] 7 (eO fT)):Cl P w K mg base (a8 P w) "leaves" ["table"] 8 (eO fT):=
 gv F b m (qh (G.cx1.or (SO S F i bl g Gl)) fun vs H Q E h=>by
  obtain⟨L,rfl,⟨tb,⟨rs,d,e,it,⟨N,n,m,ok⟩,_⟩,k⟩|⟨hb,k⟩⟩:=h
  ·exact .inl ⟨L,rs,tb,N,n,m,rfl,d,e,it,ok,fun u ub v vb st _ D H' ds s _ _ _=>k _ H' s⟩
  ·exact .inr ⟨L,rfl,hb,k⟩)
def SS{f:Addr}{fd:FuncData}(F:Fun K "rank" "rank" xy f fd)(bl:mg "len"=none)(S:Cl P w K mg base (a8 P w) "steps_of" ["table"] 8 (eO fT)):FnOk P w K mg base (a8 P w) 9 f fd ["table"] (GS fT):=by
 refine F.ok1 MI (fun vs H Q E h=>?_) (fun a A outer s H vs Q E hr h=>?_)
 ·obtain⟨L,rfl,_⟩:=h;rfl
 ·obtain⟨L,rfl,b,k⟩:=h
  exact⟨_,zf (zo (zj zi rfl bl cx (af (cL S hr rfl (a7 (E:=E)) (af (pv 0) ak)) ak))),⟨_,rfl,L,rfl,.inr ⟨b,k⟩⟩⟩
def SU{f:Addr}{fd:FuncData}(F:Fun K "rank" "rank" xy f fd)(bl:mg "len"=none)(b:Binds K fd ["table"] [])(m:mg "rank"=some (.ref f))(G:FnOk P w K mg base aJ 9 f fd ["table"] (MH K))(S:Cl P w K mg base (a8 P w) "steps_of" ["table"] 8 (eO fT)):Cl P w K mg base (a8 P w) "rank" ["table"] 9 (eO fT):=
 gv F b m (qh (G.cx1.or (SS F bl S)) fun vs H Q E h=>by
  obtain⟨L,rfl,⟨tb,⟨rs,a,c,it,⟨N,n,m,ok⟩,_⟩,k⟩|⟨hb,k⟩⟩:=h
  ·exact .inl ⟨L,rs,tb,N,n,m,rfl,a,c,it,ok,fun H' u ub v vb st s _=>k _ H' s⟩
  ·exact .inr ⟨L,rfl,hb,k⟩)
def SV{f:Addr}{fd:FuncData}(F:Fun K "is_stepped" "is_stepped" xp f fd)(b:Binds K fd ["table","paper"] [])(m:mg "is_stepped"=some (.ref f))(G:FnOk P w K mg base aJ 5 f fd ["table","paper"] (MO K))(M:Cl P w K mg base (a8 P w) "must_be_table" ["table"] 3 (eR fT)):Cl P w K mg base (a8 P w) "is_stepped" ["table","paper"] 5 (y' fT):=
 gv F b m (qh (G.cx1.or (SI M F)) fun vs H Q E h=>by
  obtain⟨L,p,a1,a2,a3,a4,a5,rfl,hp,h1,h2,a,c,d,⟨tb,⟨rs,e,g,it,_,i⟩,k⟩|⟨hb,k⟩⟩:=h
  ·exact .inl ⟨L,p,a1,a2,a3,a4,a5,rs,[],[],[],[],tb,[],[],[],[],[],rfl,e,g,it,hp,h1,h2,a,c,d,.nil,.nil,.nil,.nil,Ar _,Ar _,Ar _,Ar _,Ar _,i,fun _ h=>(by cases h),fun _ h=>(by cases h),fun _ h=>(by cases h),fun _ h=>(by cases h),fun H' s=>k _ H' s⟩
  ·exact .inr ⟨L,p,rfl,hb,k⟩)
def Nc:Sp:=fun vs H Q _=>∃n:Int,vs=[.int n]/\∀H',Same H H'->Q (.bl (isP n)) H'
def SW:zl ["number"] ["number"] (zd yR):=⟨rfl,rfl,rfl,δ,rfl,δ,δ⟩
def SX{H2:Hp}{D:Addr}{n:Nat}{Q:VK}{g:Nat->Bool}{te:TE}{c:List (Option V)}{lo:Int}(h:∀(j:Nat)(H:Hp)(R:VK),R (.bl (g j)) H->te (some (.int (lo+j))::c) H R)(hz:n<=1000)(f:H2 D=none)(k:∀a,Same H2 a->a D=some (.lst (((Ah n).map g).map V.bl))->Q (.ref D) a):cV (gb lo n) (zR 0) bR te (none::c) H2 D Q:=by
 refine sM (fun j σ ys a=>∃(v:Option V),σ=v::c/\Same H2 a/\a D=some (.lst ys)/\ys=(((Ah n).take j).map g).map V.bl) ⟨none,rfl,Same.new f,al,rfl⟩ ?_ ?_
 ·rintro j σ ys a d hy ⟨v,rfl,sm,b,rfl⟩
  have e:(Ah n)[j]?=some j:=AU d;refine cZ (h j a _ (bZ (zm ω) d hy b ⟨_,rfl,sm.then f,al,?_⟩));rw[take_snoc e,Aw,Aw]
  rfl
 ·rintro σ ys a ⟨v,rfl,sm,b,rfl⟩
  rw[Ax (by simp)] at b;exact k a sm b
def SY{f:Addr}{fd:FuncData}{tp:Tok}(F:Fun K "is_prime" "is_prime" yR f fd)(q:mg "all"=none)(r:mg "range"=none)(u:mg "LAST_PRIME"=some (.int 100 tp)):FnOk P w K mg base aJ 1 f fd ["number"] Nc:=by
 refine F.ok SW (fun vs H Q E h=>?_) (fun y A outer s H vs Q E hr h=>?_)
 ·obtain⟨n,rfl,_⟩:=h;rfl
 ·obtain⟨n,rfl,k⟩:=h
  refine⟨_,zf (zo (G3 (NZ JV JV zb (pv 0) (im (v:=.int 100) rfl u ⟨_,rfl⟩)) (BQ (zj (lF rfl) rfl q lZ (af (zp ["number"] ["k","number"] [none,some 0] (NS rfl r (af zb (af (pv 0) ak))) (fun b C s₀ H₀ ex=>zk (i:=0) (bx ["k","number"]) rfl (Or.inl rfl)) (fun b C s₀ H₀ ex=>zz)
   (fun b C s₀ H₀ ex=>eV dB (zF iv (pv 1) (pv 0)) zb (ar _)) (te:=cq CO (cq (rI (fun _ j=>0<j) fun i j=>.int (i%j)) (aC 1) (aC 0)) (tC (.int 0))) (hfr:=bM (zd yR) δ)) ak))))),?_⟩
  have fin:isP n=false->Q (.bl false) H:=fun e=>by
   have:=k H (Same.refl _)
   rwa [e] at this
  refine⟨_,rfl,_,_,rfl,rfl,_,rfl,?_⟩
  by_cases c:2<=n
  rotate_left
  ·rw[decide_eq_false c]
   exact av ⟨_,rfl,av (fin (by unfold isP;rw[decide_eq_false c];rfl))⟩
  rw[decide_eq_true c];refine aT ⟨_,_,rfl,rfl,_,rfl,?_⟩
  by_cases a:n<=100
  rotate_left
  ·rw[decide_eq_false a]
   exact av (fin (by unfold isP;rw[decide_eq_false a,Bool.and_false];rfl))
  rw[decide_eq_true a];refine aT ⟨_,rfl,_,_,rfl,⟨ω,ω,ω,ω⟩,fun D d=>?_⟩;refine zw (SX (lo:=2) (n:=(n-2).toNat) (g:=fun i=>!decide (n%(2+(i:Int))=0)) (fun j H' R l=>⟨_,rfl,_,rfl,_,_,rfl,rfl,(show(0:Int)<2+(j:Int) from ω),rfl,?_⟩) ω d fun x o p=>⟨D,_,rfl,SqL.of p,?_⟩)
  ·rw[zq];exact l
  ·have:=k x o
   have e:isP n=((Ah (n-2).toNat).map fun i:Nat=>!decide (n%(2+(i:Int))=0)).all id:=by
    unfold isP;rw[decide_eq_true c,decide_eq_true a,List.all_map];rfl
   rwa [e] at this
def Nd(fT fN:Addr):Sp:=fun vs H Q E=>∃(L:Addr)(n:Int),vs=[.ref L,.int n]/\((∃tb,zaw H L tb/\isP n=true/\AnyQ H Q)\/(BadT H L/\Rai H E fT)\/(∃tb,zaw H L tb/\isP n=false/\Rai H E fN))
def SZ:zl ["table","prime"] ["table","prime"] (zd GR):=⟨rfl,rfl,rfl,δ,rfl,δ,δ⟩
def S3{f r fs:Addr}{fd y z:FuncData}(F:Fun K "rank_by" "rank_by" GR f fd)(bl:mg "len"=none)(mN:mg "NoNumber"=some (.ref fN))(qN:Bk K fN ge "ValueError.__new__"=true)(M:Cl P w K mg base (a8 P w) "must_be_table" ["table"] 3 (eR fT))(Fp:Fun K "is_prime" "is_prime" yR r y)(bp:Binds K y ["number"] [])(mp:mg "is_prime"=some (.ref r))(Gp:FnOk P w K mg base aJ 1 r y ["number"] Nc)(Fs:Fun K "steps_of" "steps_of" ni fs z)(bs:Binds K z ["table"] [])(ms:mg "steps_of"=some (.ref fs))(Gs:FnOk P w K mg base aJ 8 fs z ["table"] (GB K)):FnOk P w K mg base (a8 P w) 9 f fd ["table","prime"] (Nd fT fN):=by
 refine F.ok1 SZ (fun vs H Q E h=>?_) (fun ah A outer s H vs Q E hr h=>?_)
 ·obtain⟨L,n,rfl,_⟩:=h;rfl
 ·obtain⟨L,n,rfl,h⟩:=h
  have o:Room 1 _:=hr.mono ξ;have hr3:Room 3 _:=hr.mono ξ;refine⟨_,za (zD (cL M hr rfl (a7 (E:=E)) (af (pv 0) ak)))
   (za (zU (eZ (eD (ze Gp o rfl mp Fp.kp bp .nil ap (af (pv 1) ak)))) (zf (Ee (C:=fN) (EX:=E) rfl rfl mN qN (fun aa σ H' s' x I hx S T U=>rS I hx S T (fun a e=>nomatch e) U))) zA)
   (zf (zo (zj zi rfl bl cx (af (zp ["table","prime"] ["step","prime"] [none,some 1] (zO (ze Gs hr rfl ms Fs.kp bs .nil ap (af (pv 0) ak))) (fun G C s₀ H₀ ex=>zk (i:=0) (bx ["step","prime"]) rfl (Or.inl rfl))
    (fun G C s₀ H₀ ex=>Ki (zx dB (zF iv (pv 0) (pv 1)) zb (ar _))) (fun G C s₀ H₀ ex=>pv 0) (tc:=De (cq CO (cq (rI (fun _ j=>0<j) fun i j=>.int (i%j)) (aC 0) (aC 1)) (tC (.int 0)))) (hfr:=bM (zd GR) δ)) ak))))),?_⟩
  rcases h with ⟨tb,g,c,k⟩|⟨b,k⟩|⟨tb,g,c,k⟩
  ·refine⟨_,rfl,L,rfl,.inl ⟨tb,g,fun H1 d=>⟨_,rfl,n,rfl,fun H2 l=>⟨_,rfl,?_⟩⟩⟩⟩
   rw[c];have n2:2<=n:=by
    unfold isP at c;rw[AX,AX] at c;exact of_decide_eq_true c.1.1
   have O:=d.trans l;obtain⟨rs,hL,hT,it,⟨N,m,q,ok⟩,_⟩:=g.same O;obtain⟨t1,t2,t3⟩:=gi it;refine av ⟨_,rfl,L,rs,tb,N,m,q,rfl,hL,hT,it,ok,fun a H3 u ub v vb st W _ J pp=>⟨a,rfl,⟨_,SqL.of J⟩,fun D X=>?_⟩⟩;refine zw (R_ (p:=fun x=>!decide (x%n=0)) (fun x H' R _ Y=>⟨_,rfl,_,rfl,_,_,rfl,rfl,(show(0:Int)<n from ω),rfl,_,rfl,?_⟩) J (by have:=pp.sk;(first|lia|omega)) X fun H4 Z bI=>⟨D,_,rfl,.inl (SqL.of bI),k _ H4 (O.trans (W.trans Z))⟩);rw[zq];exact Y
  ·exact⟨_,rfl,L,rfl,.inr ⟨b,k⟩⟩
  ·refine⟨_,rfl,L,rfl,.inl ⟨tb,g,fun H1 d=>⟨_,rfl,n,rfl,fun H2 l=>⟨_,rfl,?_⟩⟩⟩⟩
   rw[c];exact aT fun x hx=>k H2 (d.trans l) x hx
def A'(H:Hp)(L G:Addr)(E:XK)(fT fG:Addr):Prop:=(BadT H L/\Rai H E fT)\/(∃(tb:Ξ)(g:List Int),zaw H L tb/\H G=some (.lst (g.map V.int))/\g.length≠tb.length/\Rai H E fG)
def GT(fT fG:Addr):Sp:=fun vs H Q E=>∃(L G:Addr),vs=[.ref L,.ref G]/\A' H L G E fT fG
def S7{f:Addr}{fd:FuncData}(F:Fun K "must_have_goal" "must_have_goal" p' f fd)(bl:mg "len"=none)(u:mg "NoGoal"=some (.ref fG))(v:Bk K fG ge "ValueError.__new__"=true)(M:Cl P w K mg base (a8 P w) "must_be_table" ["table"] 3 (eR fT)):FnOk P w K mg base (a8 P w) 4 f fd ["table","goal"] (GT fT fG):=by
 refine F.ok1 MY (fun vs H Q E h=>?_) (fun y A outer s H vs Q E hr h=>?_)
 ·obtain⟨L,G,rfl,_⟩:=h;rfl
 ·obtain⟨L,G,rfl,h⟩:=h
  refine⟨_,za (zD (cL M hr rfl (a7 (E:=E)) (af (pv 0) ak))) (zf (zU (zx dB (zj zi rfl bl cx (af (pv 1) ak)) (zj zi rfl bl cx (af (pv 0) ak)) (ar _)) (zf (Ee (C:=fG) (EX:=E) rfl rfl u v (fun aa σ H' s' x I hx i j l=>rS I hx i j (fun a e=>nomatch e) l))) zA)),?_⟩;rcases h with ⟨b,k⟩|⟨tb,g,d,o,p,k⟩
  ·exact⟨_,rfl,L,rfl,.inr ⟨b,k⟩⟩
  ·refine⟨_,rfl,L,rfl,.inl ⟨tb,d,fun H1 c=>?_⟩⟩
   obtain⟨rs,q,r,_⟩:=d.same c;refine⟨_,rfl,G,_,rfl,.inl (SqL.of (c _ _ o)),_,rfl,L,_,rfl,.inl (SqL.of q),rfl,_,rfl,?_⟩;rw[Aa,Aa,r.len,zq,decide_eq_false (show ¬(g.length:Int)=tb.length from ω)];exact aT fun x hx=>k H1 c x hx
section
variable(MG:Cl P w K mg base (a8 P w) "must_have_goal" ["table","goal"] 4 (GT fT fG))
include MG
theorem S8{f:Addr}{fd:FuncData}(F:Fun K "solved" "solved" GO f fd):FnOk P w K mg base (a8 P w) 7 f fd ["table","goal"] (GT fT fG):=by
 refine F.ok1 M4 (fun vs H Q E h=>?_) (fun a A outer s H vs Q E hr h=>?_)
 ·obtain⟨L,G,rfl,_⟩:=h;rfl
 ·obtain⟨L,G,rfl,h⟩:=h
  exact⟨_,za (zD (cL MG hr rfl (a7 (E:=E)) (af (pv 0) (af (pv 1) ak)))) i5,⟨_,rfl,_,rfl,L,G,rfl,h⟩⟩
def Nf(fT fG:Addr):Sp:=fun vs H Q E=>∃(L G:Addr)(a b:V),vs=[.ref L,.ref G,a,b]/\A' H L G E fT fG
theorem S9{f:Addr}{fd:FuncData}(F:Fun K "shows_none" "shows_none" yH f fd):FnOk P w K mg base (a8 P w) 5 f fd ["table","goal","weights","number"] (Nf fT fG):=by
 refine F.ok1 M6 (fun vs H Q E h=>?_) (fun c A outer s H vs Q E hr h=>?_)
 ·obtain⟨L,G,a,b,rfl,_⟩:=h;rfl
 ·obtain⟨L,G,a,b,rfl,h⟩:=h
  exact⟨_,za (zD (cL MG hr rfl (a7 (E:=E)) (af (pv 0) (af (pv 1) ak)))) i5,⟨_,rfl,_,rfl,L,G,rfl,h⟩⟩
end
def Ng(fT fG:Addr):Sp:=fun vs H Q E=>∃(L G:Addr),vs=[.ref L,.ref G]/\((BadT H L/\Rai H E fT)\/(∃(tb:Ξ)(g:List Int),zaw H L tb/\H G=some (.lst (g.map V.int))/\g.length≠wid tb/\Rai H E fG))
def S_{f i:Addr}{fd j:FuncData}(F:Fun K "brought" "brought" GP f fd)(bl:mg "len"=none)(z:mg "NoGoal"=some (.ref fG))(D:Bk K fG ge "ValueError.__new__"=true)(M:Cl P w K mg base (a8 P w) "must_be_table" ["table"] 3 (eR fT))(Fw:Fun K "width_of" "width_of" gS i j)(J:Binds K j ["table"] [])(N:mg "width_of"=some (.ref i))(O:FnOk P w K mg base aJ 1 i j ["table"] (iE K)):FnOk P w K mg base (a8 P w) 4 f fd ["table","numbers"] (Ng fT fG):=by
 refine F.ok1 M_ (fun vs H Q E h=>?_) (fun S A outer s H vs Q E hr h=>?_)
 ·obtain⟨L,G,rfl,_⟩:=h;rfl
 ·obtain⟨L,G,rfl,h⟩:=h
  have d:Room 1 _:=hr.mono ξ;refine⟨_,za (zD (cL M hr rfl (a7 (E:=E)) (af (pv 0) ak))) (za (zU (zx dB (zj zi rfl bl cx (af (pv 1) ak)) (ze O d rfl N Fw.kp J .nil ap (af (pv 0) ak)) (ar _)) (zf (Ee (C:=fG) (EX:=E) rfl rfl z D (fun aa σ H' s' x I hx o p q=>rS I hx o p (fun a e=>nomatch e) q))) zA) i5),?_⟩;rcases h with ⟨b,k⟩|⟨tb,g,l,r,u,k⟩
  ·exact⟨_,rfl,L,rfl,.inr ⟨b,k⟩⟩
  ·refine⟨_,rfl,L,rfl,.inl ⟨tb,l,fun H1 c=>?_⟩⟩
   obtain⟨rs,v,y,_⟩:=l.same c;refine⟨_,rfl,G,_,rfl,.inl (SqL.of (c _ _ r)),_,rfl,L,rs,tb,rfl,SqL.of v,y,rfl,_,rfl,?_⟩;rw[Aa,zq,decide_eq_false (show ¬(g.length:Int)=wid tb from ω)];exact aT fun x hx=>k H1 c x hx
end
abbrev GU:Stmt:=top 68
abbrev JK:Stmt:=top 69
abbrev JL:Stmt:=top 70
abbrev jV:Stmt:=top 71
structure Mk(K:Ab)(C f0 f1 f2 f3 f4 f5:Addr)(i:Nat):Prop where
 xc:eE K C
 y0:Bh K (.ref C) (.ref f0)=some (decide (i=0))
 y1:Bh K (.ref C) (.ref f1)=some (decide (i=1))
 y2:Bh K (.ref C) (.ref f2)=some (decide (i=2))
 y3:Bh K (.ref C) (.ref f3)=some (decide (i=3))
 y4:Bh K (.ref C) (.ref f4)=some (decide (i=4))
 y5:Bh K (.ref C) (.ref f5)=some (decide (i=5))
 yv:Bh K (.ref C) (.type "ValueError")=some true
def Ta{K:Ab}{C h f1 f2 j l o:Addr}{i:Nat}(a:PySem.W.findIn K (.ref C) "__getattribute__"=some (some (.builtin "BaseException.__getattribute__")))(b:PySem.W.findIn K (.ref C) "__getattr__"=some none)(q:Bk K C ge "ValueError.__new__"=true)(c:PySem.W.findIn K (.ref C) "__class__"=some (some (.builtin "object.__class__")))(d:PySem.W.specialIn K (.builtin "object.__class__") "__get__"=some (some (.builtin "getset_descriptor.__get__")))(e:PySem.W.takesIn K (.builtin "object.__class__")=some true)(f:PySem.W.mroIn K C (.type "object")=some true)(g:PySem.W.mroIn K C (.type "BaseException")=some true)(p:Bh K (.ref C) (.ref h)=some (decide (i=0)))(r:Bh K (.ref C) (.ref f1)=some (decide (i=1)))(s:Bh K (.ref C) (.ref f2)=some (decide (i=2)))(u:Bh K (.ref C) (.ref j)=some (decide (i=3)))(v:Bh K (.ref C) (.ref l)=some (decide (i=4)))(w:Bh K (.ref C) (.ref o)=some (decide (i=5)))(x:Bh K (.ref C) (.type "ValueError")=some true):Mk K C h f1 f2 j l o i:=⟨SC a b q c d e f g,p,r,s,u,v,w,x⟩
def wd:Nat->Str
 |0=>"table"
 |1=>"goal"
 |_=>"number"
section
variable{P:Program}{w:World}{K:Ab}{mg:Str->Option Value}{base:Heap}
def JM(K:Ab)(a f1 f2 b c d:Addr):Sp:=fun vs H Q _=>∃x C i,vs=[.ref x]/\Mk K C a f1 f2 b c d i/\i<3/\H x=some (fQ x C)/\∀H',Same H H'->Q (.str (wd i)) H'
def JN:zl ["e","marks"] ["e"] (zd GU):=⟨rfl,rfl,rfl,δ,rfl,δ,δ⟩
def Tc{f r f1 f2 y z D:Addr}{fd:FuncData}(F:Fun K "_law_which" "_law_which" GU f fd)(j:mg "isinstance"=none)(bv:mg "ValueError"=none)(O:mg "NoTable"=some (.ref r))(S:mg "NoGoal"=some (.ref f1))(m2:mg "NoNumber"=some (.ref f2))(T:mg "NoWeb"=some (.ref y))(U:mg "NoChain"=some (.ref z))(W:mg "NoPiece"=some (.ref D)):sy P w K mg base 1 f fd ["e"] (JM K r f1 f2 y z D):=by
 refine F.okN JN (fun vs H Q E h=>?_) (fun X A outer s H vs Q E hr h=>?_)
 ·obtain⟨x,C,i,rfl,_⟩:=h;rfl
 ·obtain⟨x,C,i,rfl,M,hi,hx,k⟩:=h
  refine⟨_,za (zr (i:=1) JN.nd rfl (Or.inl rfl) (zS (af (zj (lD (c:=.ref r) (fun u h=>h) M.xc M.y0) rfl j ny (af (pv 0) (af (im (v:=.ref r) rfl O rfl) ak))) (af (zj (lD (c:=.ref f1) (fun u h=>h) M.xc M.y1) rfl j ny (af (pv 0) (af (im (v:=.ref f1) rfl S rfl) ak))) (af (zj (lD (c:=.ref f2) (fun u h=>h) M.xc M.y2) rfl j ny (af (pv 0) (af (im (v:=.ref f2) rfl m2 rfl) ak))) (af (zj (lD (c:=.ref y) (fun u h=>h) M.xc M.y3) rfl j ny (af (pv 0) (af (im (v:=.ref y) rfl T rfl) ak))) ak))))))
   (za (zr (i:=1) JN.nd rfl (Or.inl rfl) (zF J_ (pv 1) (zS (af (zj (lD (c:=.ref z) (fun u h=>h) M.xc M.y4) rfl j ny (af (pv 0) (af (im (v:=.ref z) rfl U rfl) ak))) (af (zj (lD (c:=.ref D) (fun u h=>h) M.xc M.y5) rfl j ny (af (pv 0) (af (im (v:=.ref D) rfl W rfl) ak))) ak)))))
   (za (zU (PW.pt (nR (zx dB (nZ PySem.F.plainAttrs_list PySem.F.slot_list_count PySem.F.type_list_count O' (pv 1) (af eS ak)) zb (ar _))
     (nP (eZ (eD (zj (lD (c:=.ty "ValueError") (fun u h=>h) M.xc M.yv) rfl j ny (af (pv 0) (af (NC (v:=.ty "ValueError") rfl bv PyProof.Rows.Boot.«ValueError» rfl) ak))))))))
     (zf (zo pe_str)) zA)
   (zf (zo (zy zB (zS (af pe_str (af pe_str (af pe_str (af pe_str (af pe_str (af pe_str ak)))))))
     (nZ PySem.F.plainAttrs_list PySem.F.slot_list_index PySem.F.type_list_index Pa (pv 1) (af eS ak)) (fun _ _=>rfl)))))),?_⟩
  refine⟨_,rfl,x,rfl,hx,_,rfl,x,rfl,hx,_,rfl,x,rfl,hx,_,rfl,x,rfl,hx,zm (by simp),fun p hp=>?_⟩;have G:=Same.new (o:=.lst [.bl (decide (i=0)),.bl (decide (i=1)),.bl (decide (i=2)),.bl (decide (i=3))]) hp;refine⟨_,rfl,_,rfl,x,rfl,G _ _ hx,_,rfl,x,rfl,G _ _ hx,zm (by simp),fun p2 I=>?_⟩;have N:=G.trans (Same.new (o:=.lst [.bl (decide (i=4)),.bl (decide (i=5))]) I);refine⟨p,p2,_,_,rfl,rfl,(Same.new I) _ _ al,al,zm (by simp),fun b L=>?_⟩;have l:=N.trans (Same.new (o:=.lst [.bl (decide (i=0)),.bl (decide (i=1)),.bl (decide (i=2)),.bl (decide (i=3)),.bl (decide (i=4)),.bl (decide (i=5))]) L);have:i=0\/i=1\/i=2:=ω
  rcases this with rfl|rfl|rfl
  ·refine⟨_,rfl,.inl ⟨rfl,_,SqL.of al⟩,b,_,.bl true,rfl,rfl,al,ξ,rfl,rfl,false,(by first|rfl|decide),?_⟩
   refine av ⟨_,rfl,x,rfl,l _ _ hx,true,rfl,av ⟨zm (by simp),fun q d=>?_⟩⟩;have g:=(Same.new (o:=.lst [.str "table",.str "goal",.str "number",.str "web",.str "chain",.str "piece"]) d) _ _ (al (a:=b));refine⟨_,rfl,.inl ⟨rfl,_,SqL.of g⟩,b,_,.bl true,0,rfl,rfl,g,ξ,rfl,ξ,ξ,(fun m J=>?_),q,_,0,_,rfl,rfl,SqL.of al,rfl,k _ (l.trans (Same.new d))⟩;(first|lia|omega)
  ·refine⟨_,rfl,.inl ⟨rfl,_,SqL.of al⟩,b,_,.bl true,rfl,rfl,al,ξ,rfl,rfl,false,(by first|rfl|decide),?_⟩
   refine av ⟨_,rfl,x,rfl,l _ _ hx,true,rfl,av ⟨zm (by simp),fun q d=>?_⟩⟩;have g:=(Same.new (o:=.lst [.str "table",.str "goal",.str "number",.str "web",.str "chain",.str "piece"]) d) _ _ (al (a:=b));refine⟨_,rfl,.inl ⟨rfl,_,SqL.of g⟩,b,_,.bl true,1,rfl,rfl,g,ξ,rfl,ξ,ξ,(fun m J=>?_),q,_,1,_,rfl,rfl,SqL.of al,rfl,k _ (l.trans (Same.new d))⟩;obtain rfl:m=0:=ω
   decide
  ·refine⟨_,rfl,.inl ⟨rfl,_,SqL.of al⟩,b,_,.bl true,rfl,rfl,al,ξ,rfl,rfl,false,(by first|rfl|decide),?_⟩
   refine av ⟨_,rfl,x,rfl,l _ _ hx,true,rfl,av ⟨zm (by simp),fun q d=>?_⟩⟩;have g:=(Same.new (o:=.lst [.str "table",.str "goal",.str "number",.str "web",.str "chain",.str "piece"]) d) _ _ (al (a:=b));refine⟨_,rfl,.inl ⟨rfl,_,SqL.of g⟩,b,_,.bl true,2,rfl,rfl,g,ξ,rfl,ξ,ξ,(fun m J=>?_),q,_,2,_,rfl,rfl,SqL.of al,rfl,k _ (l.trans (Same.new d))⟩;have:m=0\/m=1:=ω
   rcases this with rfl|rfl<;>decide
def Td{H:Hp}{q:Addr}(h:H q=some (.lst [])):zaw H q []:=by
 obtain⟨i1,i2,a⟩:=MW (tb:=[]) (c:=0) (b:=0) kQ (fun r hr=>(by cases hr)) ξ ξ ξ;exact⟨[],h,.nil,i1,i2,a⟩
def Nh(fT fN:Addr):Sp:=fun vs H Q E=>∃(a:Int)(L:Addr)(n:Int),vs=[.int a,.ref L,.int n]/\0<=a/\((7<a/\∀H',Same H H'->Q .non H')\/(a<=7/\a≠1/\a≠2/\(∃tb,zaw H L tb)/\(a=7->isP n=true)/\∀H',Same H H'->Q .non H') \/
 (a<=7/\BadT H L/\Rai H E fT)\/(a=7/\(∃tb,zaw H L tb)/\isP n=false/\Rai H E fN))
def Te:zl ["way","table","prime"] ["way","table","prime"] (zd JK):=⟨rfl,rfl,rfl,δ,rfl,δ,δ⟩
def Tf{f fT fN:Addr}{fd:FuncData}(F:Fun K "_law_first" "_law_first" JK f fd)(C0:Cl P w K mg base (a8 P w) "turned_over" ["table"] 4 (eO fT))(S:Cl P w K mg base (a8 P w) "product" ["one","other"] 4 (zc fT))(C3:Cl P w K mg base (a8 P w) "stepped" ["table"] 7 (eO fT))(C4:Cl P w K mg base (a8 P w) "is_stepped" ["table","paper"] 5 (y' fT))(C5:Cl P w K mg base (a8 P w) "steps_of" ["table"] 8 (eO fT))(C6:Cl P w K mg base (a8 P w) "rank" ["table"] 9 (eO fT))(C7:Cl P w K mg base (a8 P w) "rank_by" ["table","prime"] 9 (Nd fT fN)):FnOk P w K mg base (a8 P w) 10 f fd ["way","table","prime"] (Nh fT fN):=by
 refine F.ok1 Te (fun vs H Q E h=>?_) (fun ah A outer s H vs Q E hr h=>?_)
 ·obtain⟨a,L,n,rfl,_⟩:=h;rfl
 ·obtain⟨a,L,n,rfl,w0,h⟩:=h
  refine⟨_,za (zU (zx c6 (pv 0) zb (ar _)) (zf (zD (cL C0 hr rfl (a7 (E:=E)) (af (pv 1) ak)))) zA)
   (za (zU (zx c6 (pv 0) zb (ar _)) (zf (zD (cL S hr rfl (a7 (E:=E)) (af (pv 1) (af (zS ak) ak))))) zA)
   (za (zU (zx c6 (pv 0) zb (ar _)) (zf (zD (cL S hr rfl (a7 (E:=E)) (af (zS ak) (af (pv 1) ak))))) zA)
   (za (zU (zx c6 (pv 0) zb (ar _)) (zf (zD (cL C3 hr rfl (a7 (E:=E)) (af (pv 1) ak)))) zA)
   (za (zU (zx c6 (pv 0) zb (ar _)) (zf (zD (cL C4 hr rfl (a7 (E:=E)) (af (pv 1) (af (fE (af (zS ak) (af (zS ak) (af (zS ak) (af (zS ak) (af (zS ak) ak)))))) ak))))) zA)
   (za (zU (zx c6 (pv 0) zb (ar _)) (zf (zD (cL C5 hr rfl (a7 (E:=E)) (af (pv 1) ak)))) zA)
   (za (zU (zx c6 (pv 0) zb (ar _)) (zf (zD (cL C6 hr rfl (a7 (E:=E)) (af (pv 1) ak)))) zA)
   (zf (zU (zx c6 (pv 0) zb (ar _)) (zf (zD (cL C7 hr rfl (a7 (E:=E)) (af (pv 1) (af (pv 2) ak))))) zA)))))))),?_⟩
  refine⟨_,rfl,rfl,_,rfl,?_⟩;rw[zq]
  by_cases G:a=0
  ·rw[decide_eq_true G]
   refine aT ⟨_,rfl,L,rfl,?_⟩;rcases h with ⟨h1,_⟩|⟨_,_,_,⟨tb,g⟩,_,k⟩|⟨_,b,k⟩|⟨h1,_⟩
   ·(first|lia|omega)
   ·refine .inl ⟨tb,g,fun v H1 c=>?_⟩
    refine⟨_,rfl,rfl,_,rfl,?_⟩;rw[zq,decide_eq_false (show ¬a=1 from ω)];refine av ?_;refine⟨_,rfl,rfl,_,rfl,?_⟩;rw[zq,decide_eq_false (show ¬a=2 from ω)];refine av ?_;refine⟨_,rfl,rfl,_,rfl,?_⟩;rw[zq,decide_eq_false (show ¬a=3 from ω)];refine av ?_;refine⟨_,rfl,rfl,_,rfl,?_⟩;rw[zq,decide_eq_false (show ¬a=4 from ω)];refine av ?_;refine⟨_,rfl,rfl,_,rfl,?_⟩;rw[zq,decide_eq_false (show ¬a=5 from ω)];refine av ?_;refine⟨_,rfl,rfl,_,rfl,?_⟩;rw[zq,decide_eq_false (show ¬a=6 from ω)];refine av ?_;refine⟨_,rfl,rfl,_,rfl,?_⟩;rw[zq,decide_eq_false (show ¬a=7 from ω)];refine av ?_;exact k H1 c
   ·exact .inr ⟨b,k⟩
   ·(first|lia|omega)
  rw[decide_eq_false G];refine av ?_;refine⟨_,rfl,rfl,_,rfl,?_⟩;rw[zq]
  by_cases c1:a=1
  ·rw[decide_eq_true c1]
   refine aT ⟨_,rfl,zm (by simp),fun q hq=>⟨L,q,rfl,?_⟩⟩;rcases h with ⟨h1,_⟩|⟨_,h1,_,_⟩|⟨_,b,k⟩|⟨h1,_⟩
   ·(first|lia|omega)
   ·(first|lia|omega)
   ·exact⟨.inl (b.same (Same.new hq)),k.same (Same.new hq)⟩
   ·(first|lia|omega)
  rw[decide_eq_false c1];refine av ?_;refine⟨_,rfl,rfl,_,rfl,?_⟩;rw[zq]
  by_cases I:a=2
  ·rw[decide_eq_true I]
   refine aT ⟨zm (by simp),fun q hq=>⟨_,rfl,q,L,rfl,?_⟩⟩;rcases h with ⟨h1,_⟩|⟨_,_,h1,_⟩|⟨_,b,k⟩|⟨h1,_⟩
   ·(first|lia|omega)
   ·(first|lia|omega)
   ·exact⟨.inr ⟨[],Td al,b.same (Same.new hq)⟩,k.same (Same.new hq)⟩
   ·(first|lia|omega)
  rw[decide_eq_false I];refine av ?_;refine⟨_,rfl,rfl,_,rfl,?_⟩;rw[zq]
  by_cases J:a=3
  ·rw[decide_eq_true J]
   refine aT ⟨_,rfl,L,rfl,?_⟩;rcases h with ⟨h1,_⟩|⟨_,_,_,⟨tb,g⟩,_,k⟩|⟨_,b,k⟩|⟨h1,_⟩
   ·(first|lia|omega)
   ·refine .inl ⟨tb,g,fun v H1 c=>?_⟩
    refine⟨_,rfl,rfl,_,rfl,?_⟩;rw[zq,decide_eq_false (show ¬a=4 from ω)];refine av ?_;refine⟨_,rfl,rfl,_,rfl,?_⟩;rw[zq,decide_eq_false (show ¬a=5 from ω)];refine av ?_;refine⟨_,rfl,rfl,_,rfl,?_⟩;rw[zq,decide_eq_false (show ¬a=6 from ω)];refine av ?_;refine⟨_,rfl,rfl,_,rfl,?_⟩;rw[zq,decide_eq_false (show ¬a=7 from ω)];refine av ?_;exact k H1 c
   ·exact .inr ⟨b,k⟩
   ·(first|lia|omega)
  rw[decide_eq_false J];refine av ?_;refine⟨_,rfl,rfl,_,rfl,?_⟩;rw[zq]
  by_cases M:a=4
  ·rw[decide_eq_true M]
   refine aT ⟨_,rfl,zm (by simp),fun i h1=>⟨zm (by simp),fun j h2=>⟨zm (by simp),fun l T=>⟨zm (by simp),fun p U=>⟨zm (by simp),fun r W=>⟨zm (by simp),fun X Y=>?_⟩⟩⟩⟩⟩⟩;have n1:=Same.new (o:=.lst []) h1;have n2:=Same.new (o:=.lst []) h2;have Z:=Same.new (o:=.lst []) T;have n4:=Same.new (o:=.lst []) U;have n5:=Same.new (o:=.lst []) W;have u:=Same.new (o:=.tup [.ref i,.ref j,.ref l,.ref p,.ref r]) Y;have x:=n5.trans u;have y:=n4.trans x;have C:=Z.trans y;have D:=n2.trans C;have d:=n1.trans D;refine⟨L,X,i,j,l,p,r,rfl,al,D _ _ al,C _ _ al,y _ _ al,x _ _ al,u _ _ al,?_⟩;rcases h with ⟨z,_⟩|⟨_,_,_,⟨tb,g⟩,_,k⟩|⟨_,b,k⟩|⟨z,_⟩
   ·(first|lia|omega)
   ·refine .inl ⟨tb,g.same d,fun v H1 c=>?_⟩
    refine⟨_,rfl,rfl,_,rfl,?_⟩;rw[zq,decide_eq_false (show ¬a=5 from ω)];refine av ?_;refine⟨_,rfl,rfl,_,rfl,?_⟩;rw[zq,decide_eq_false (show ¬a=6 from ω)];refine av ?_;refine⟨_,rfl,rfl,_,rfl,?_⟩;rw[zq,decide_eq_false (show ¬a=7 from ω)];refine av ?_;exact k H1 (d.trans c)
   ·exact .inr ⟨b.same d,k.same d⟩
   ·(first|lia|omega)
  rw[decide_eq_false M];refine av ?_;refine⟨_,rfl,rfl,_,rfl,?_⟩;rw[zq]
  by_cases N:a=5
  ·rw[decide_eq_true N]
   refine aT ⟨_,rfl,L,rfl,?_⟩;rcases h with ⟨h1,_⟩|⟨_,_,_,⟨tb,g⟩,_,k⟩|⟨_,b,k⟩|⟨h1,_⟩
   ·(first|lia|omega)
   ·refine .inl ⟨tb,g,fun v H1 c=>?_⟩
    refine⟨_,rfl,rfl,_,rfl,?_⟩;rw[zq,decide_eq_false (show ¬a=6 from ω)];refine av ?_;refine⟨_,rfl,rfl,_,rfl,?_⟩;rw[zq,decide_eq_false (show ¬a=7 from ω)];refine av ?_;exact k H1 c
   ·exact .inr ⟨b,k⟩
   ·(first|lia|omega)
  rw[decide_eq_false N];refine av ?_;refine⟨_,rfl,rfl,_,rfl,?_⟩;rw[zq]
  by_cases O:a=6
  ·rw[decide_eq_true O]
   refine aT ⟨_,rfl,L,rfl,?_⟩;rcases h with ⟨h1,_⟩|⟨_,_,_,⟨tb,g⟩,_,k⟩|⟨_,b,k⟩|⟨h1,_⟩
   ·(first|lia|omega)
   ·refine .inl ⟨tb,g,fun v H1 c=>?_⟩
    refine⟨_,rfl,rfl,_,rfl,?_⟩;rw[zq,decide_eq_false (show ¬a=7 from ω)];refine av ?_;exact k H1 c
   ·exact .inr ⟨b,k⟩
   ·(first|lia|omega)
  rw[decide_eq_false O];refine av ?_;refine⟨_,rfl,rfl,_,rfl,?_⟩;rw[zq]
  by_cases e:a=7
  ·rw[decide_eq_true e]
   refine aT ⟨_,rfl,_,rfl,L,n,rfl,?_⟩;rcases h with ⟨h1,_⟩|⟨_,_,_,⟨tb,g⟩,hp,k⟩|⟨_,b,k⟩|⟨_,⟨tb,g⟩,hp,k⟩
   ·(first|lia|omega)
   ·exact .inl ⟨tb,g,hp e,fun v H1 c=>k H1 c⟩
   ·exact .inr (.inl ⟨b,k⟩)
   ·exact .inr (.inr ⟨tb,g,hp,k⟩)
  rw[decide_eq_false e];refine av ?_;rcases h with ⟨_,k⟩|⟨h1,_⟩|⟨h1,_⟩|⟨h1,_⟩
  ·exact k H (Same.refl _)
  ·(first|lia|omega)
  ·(first|lia|omega)
  ·(first|lia|omega)
def Ni(fT fG:Addr):Sp:=fun vs H Q E=>∃(a:Int)(L G:Addr),vs=[.int a,.ref L,.ref G]/\a<=11/\((a<8/\∀H',Same H H'->Q .non H')\/(8<=a/\(∃(tb:Ξ)(g:List Int),zaw H L tb/\H G=some (.lst (g.map V.int))/\(∀x∈g,x.natAbs<=1000)/\(a=9\/a=10->g.length=tb.length)/\(a=11->g.length=wid tb))/\∀H',Same H H'->Q .non H') \/
 (8<=a/\BadT H L/\Rai H E fT)\/((a=9\/a=10)/\(∃(tb:Ξ)(g:List Int),zaw H L tb/\H G=some (.lst (g.map V.int))/\g.length≠tb.length)/\Rai H E fG)\/(a=11/\(∃(tb:Ξ)(g:List Int),zaw H L tb/\H G=some (.lst (g.map V.int))/\g.length≠wid tb)/\Rai H E fG))
def Tg:zl ["way","table","goal"] ["way","table","goal"] (zd JL):=⟨rfl,rfl,rfl,δ,rfl,δ,δ⟩
def Th{f fT fG:Addr}{fd:FuncData}(F:Fun K "_law_second" "_law_second" JL f fd)(M:Cl P w K mg base (a8 P w) "leaves" ["table"] 8 (eO fT))(N:Cl P w K mg base (a8 P w) "solved" ["table","goal"] 7 (fun vs H Q E=>JD vs H Q E\/GT fT fG vs H Q E))(O:Cl P w K mg base (a8 P w) "shows_none" ["table","goal","weights","number"] 5 (fun vs H Q E=>M5 K vs H Q E\/Nf fT fG vs H Q E))(S:Cl P w K mg base (a8 P w) "brought" ["table","numbers"] 4 (fun vs H Q E=>M9 K vs H Q E\/Ng fT fG vs H Q E)):FnOk P w K mg base (a8 P w) 9 f fd ["way","table","goal"] (Ni fT fG):=by
 refine F.ok1 Tg (fun vs H Q E h=>?_) (fun T A outer s H vs Q E hr h=>?_)
 ·obtain⟨a,L,G,rfl,_⟩:=h;rfl
 ·obtain⟨a,L,G,rfl,U,h⟩:=h
  refine⟨_,za (zU (zx c6 (pv 0) zb (ar _)) (zf (zD (cL M hr rfl (a7 (E:=E)) (af (pv 1) ak)))) zA)
   (za (zU (zx c6 (pv 0) zb (ar _)) (zf (zD (cL N hr rfl (a7 (E:=E)) (af (pv 1) (af (pv 2) ak))))) zA)
   (za (zU (zx c6 (pv 0) zb (ar _)) (zf (zD (cL O hr rfl (a7 (E:=E)) (af (pv 1) (af (pv 2) (af (zS ak) (af zb ak))))))) zA)
   (zf (zU (zx c6 (pv 0) zb (ar _)) (zf (zD (cL S hr rfl (a7 (E:=E)) (af (pv 1) (af (pv 2) ak))))) zA)))),?_⟩
  refine⟨_,rfl,rfl,_,rfl,?_⟩;rw[zq]
  by_cases J:a=8
  ·rw[decide_eq_true J]
   refine aT ⟨_,rfl,L,rfl,?_⟩;rcases h with ⟨h1,_⟩|⟨_,⟨tb,g,e,_⟩,k⟩|⟨_,b,k⟩|⟨h1,_⟩|⟨h1,_⟩
   ·(first|lia|omega)
   ·refine .inl ⟨tb,e,fun v H1 d=>?_⟩
    refine⟨_,rfl,rfl,_,rfl,?_⟩;rw[zq,decide_eq_false (show ¬a=9 from ω)];refine av ?_;refine⟨_,rfl,rfl,_,rfl,?_⟩;rw[zq,decide_eq_false (show ¬a=10 from ω)];refine av ?_;refine⟨_,rfl,rfl,_,rfl,?_⟩;rw[zq,decide_eq_false (show ¬a=11 from ω)];refine av ?_;exact k H1 d
   ·exact .inr ⟨b,k⟩
   ·(first|lia|omega)
   ·(first|lia|omega)
  rw[decide_eq_false J];refine av ?_;have C:∀{g:List Int},(∀x∈g,x.natAbs<=1000)->∀x∈g,x.natAbs<=2 ^ 900:=fun h x hx=>by
   have h1:=h x hx;have h2:x.natAbs<=2 ^ 10:=by show _<=1024;(first|lia|omega)
   exact Ag h2 (AC ξ ξ)
  refine⟨_,rfl,rfl,_,rfl,?_⟩;rw[zq]
  by_cases I:a=9
  ·rw[decide_eq_true I]
   refine aT ⟨_,rfl,_,rfl,?_⟩;rcases h with ⟨h1,_⟩|⟨_,⟨tb,g,⟨rs,l,p,it,to,z⟩,c,u,y,_⟩,k⟩|⟨_,b,k⟩|⟨_,⟨tb,g,e,c,ne⟩,k⟩|⟨h1,_⟩
   ·(first|lia|omega)
   ·refine .inl (SB (E:=E) l p it to c (y (.inl I)) (C u) fun H1 r b d _=>?_)
    refine⟨_,rfl,rfl,_,rfl,?_⟩;rw[zq,decide_eq_false (show ¬a=10 from ω)];refine av ?_;refine⟨_,rfl,rfl,_,rfl,?_⟩;rw[zq,decide_eq_false (show ¬a=11 from ω)];refine av ?_;exact k H1 d
   ·exact .inr ⟨L,G,rfl,.inl ⟨b,k⟩⟩
   ·exact .inr ⟨L,G,rfl,.inr ⟨tb,g,e,c,ne,k⟩⟩
   ·(first|lia|omega)
  rw[decide_eq_false I];refine av ?_;refine⟨_,rfl,rfl,_,rfl,?_⟩;rw[zq]
  by_cases i:a=10
  ·rw[decide_eq_true i]
   refine aT ⟨_,rfl,_,rfl,zm (by simp),fun q hq=>?_⟩;have n1:=Same.new (o:=.lst []) hq;rcases h with ⟨h1,_⟩|⟨_,⟨tb,g,⟨rs,l,p,it,to,z⟩,c,u,y,_⟩,k⟩|⟨_,b,k⟩|⟨_,⟨tb,g,e,c,ne⟩,k⟩|⟨h1,_⟩
   ·(first|lia|omega)
   ·refine .inl ⟨L,G,q,rs,tb,g,[],0,rfl,n1 _ _ l,p.same n1,it,n1 _ _ c,y (.inr i),al,fun x hx=>(by cases hx),fun x hx=>mR (wK (C u x hx) ξ),z.low.big,fun H1 d=>?_⟩
    refine⟨_,rfl,rfl,_,rfl,?_⟩;rw[zq,decide_eq_false (show ¬a=11 from ω)];refine av ?_;exact k H1 (n1.trans d)
   ·exact .inr ⟨L,G,_,_,rfl,.inl ⟨b.same n1,k.same n1⟩⟩
   ·exact .inr ⟨L,G,_,_,rfl,.inr ⟨tb,g,e.same n1,n1 _ _ c,ne,k.same n1⟩⟩
   ·(first|lia|omega)
  rw[decide_eq_false i];refine av ?_;refine⟨_,rfl,rfl,_,rfl,?_⟩;rw[zq]
  by_cases j:a=11
  ·rw[decide_eq_true j]
   refine aT ⟨_,rfl,_,rfl,?_⟩;rcases h with ⟨h1,_⟩|⟨_,⟨tb,g,⟨rs,l,p,it,to,z⟩,c,u,_,y⟩,k⟩|⟨_,b,k⟩|⟨h1,_⟩|⟨_,⟨tb,g,e,c,ne⟩,k⟩
   ·(first|lia|omega)
   ·exact .inl ⟨L,G,rs,tb,g,rfl,l,p,it,c,y j,z.low.big,fun x hx=>mR (wK (C u x hx) ξ),fun D H1 d _ _=>k H1 d⟩
   ·exact .inr ⟨L,G,rfl,.inl ⟨b,k⟩⟩
   ·(first|lia|omega)
   ·exact .inr ⟨L,G,rfl,.inr ⟨tb,g,e,c,ne,k⟩⟩
  rw[decide_eq_false j];refine av ?_;rcases h with ⟨_,k⟩|⟨h1,_⟩|⟨h1,_⟩|⟨h1,_⟩|⟨h1,_⟩
  ·exact k H (Same.refl _)
  ·(first|lia|omega)
  ·(first|lia|omega)
  ·(first|lia|omega)
  ·(first|lia|omega)
def JO:Sp:=fun vs H Q _=>∃(a:Int)(L G:Addr)(n:Int),vs=[.int a,.ref L,.ref G,.int n]/\0<=a/\a<=11/\
 ((a≠1/\a≠2/\(a=7->isP n=true)/\(∃(tb:Ξ)(g:List Int),zaw H L tb/\H G=some (.lst (g.map V.int))/\(∀x∈g,x.natAbs<=1000)/\(a=9\/a=10->g.length=tb.length)/\(a=11->g.length=wid tb))/\∀H',Same H H'->Q (.str "told") H') \/
 (BadT H L/\∀H',Same H H'->Q (.str "table") H')\/(a=7/\(∃tb,zaw H L tb)/\isP n=false/\∀H',Same H H'->Q (.str "number") H') \/
 ((a=9\/a=10)/\(∃(tb:Ξ)(g:List Int),zaw H L tb/\H G=some (.lst (g.map V.int))/\g.length≠tb.length)/\∀H',Same H H'->Q (.str "goal") H')\/(a=11/\(∃(tb:Ξ)(g:List Int),zaw H L tb/\H G=some (.lst (g.map V.int))/\g.length≠wid tb)/\∀H',Same H H'->Q (.str "goal") H'))
def GV:zl ["way","table","goal","prime","told","e"] ["way","table","goal","prime"] (zd jV):=⟨rfl,rfl,rfl,δ,rfl,δ,δ⟩
def Ti{f r o f1 f2 u v y T:Addr}{fd U:FuncData}(F:Fun K "_law_met" "_law_met" jV f fd)(mS:mg "SeamError"=some (.ref r))(Y:Mk K o o f1 f2 u v y 0)(MG:Mk K f1 o f1 f2 u v y 1)(MN:Mk K f2 o f1 f2 u v y 2)(W:dq K o r)(X:dq K f1 r)(hN:dq K f2 r)(C1:Cl P w K mg base (a8 P w) "_law_first" ["way","table","prime"] 10 (Nh o f2))(C2:Cl P w K mg base (a8 P w) "_law_second" ["way","table","goal"] 9 (Ni o f1))(Fw:Fun K "_law_which" "_law_which" GU T U)(bw:Binds K U ["e"] [])(mw:mg "_law_which"=some (.ref T))(Gw:sy P w K mg base 1 T U ["e"] (JM K o f1 f2 u v y)):FnOk P w K mg base aJ 11 f fd ["way","table","goal","prime"] JO:=by
 refine F.ok GV (fun vs H Q E h=>?_) (fun ah A outer s H vs Q E hr h=>?_)
 ·obtain⟨p,L,G,n,rfl,_⟩:=h;rfl
 ·obtain⟨p,L,G,n,rfl,w0,I,h⟩:=h
  have O:Room 1 _:=hr.mono ξ;refine⟨_,za (zr (i:=4) GV.nd rfl (Or.inl rfl) pe_str)
   (za (OM (ie:=5) (S:=r) rfl GV.nd rfl rfl rfl rfl rfl mS
    (fun aa EB=>za (zD (cL C1 hr rfl (Km rfl) (af (pv 0) (af (pv 1) (af (pv 3) ak))))) (zf (zD (cL C2 hr rfl (Km rfl) (af (pv 0) (af (pv 1) (af (pv 2) ak)))))))
    (fun aa x=>zf (zr (i:=4) GV.nd rfl (Or.inl rfl) (OU (E:=E0) Gw (O.mark _) rfl mw Fw.kp bw .nil (af (pv 5) ak)))))
   (zf (zo (pv 4)))),?_⟩
  have N:∀(D:Ends)(C:Addr)(i:Nat)(H1:Hp)(x:Addr),Mk K C o f1 f2 u v y i->i<3->dq K C r->H1 x=none->(∀a b c d H2,Same H1 H2->D.nx [a,b,c,d,some (.str (wd i)),none] H2)->r_ K 6 5 r (e8 (dD (JM K o f1 f2 u v y) [] E0 (zY (aC 5) bN)) (zR 4)) D (.ref x) (some C) H1:=by
   intro D C i H1 x M hi Z hx kk;refine⟨x,C,rfl,rfl,Z,fun ai hl=>?_⟩
   match ai,hl with
   |[a,b,c,d,e,f],_=>exact⟨_,rfl,x,C,i,rfl,M,hi,al,fun H2 oq=>kk a b c d H2 ((Same.new hx).trans oq)⟩
  refine⟨_,rfl,_,rfl,_,rfl,p,L,n,rfl,w0,?_⟩;rcases h with ⟨n1,n2,hp,⟨tb,g,q,hg,sg,l1,l2⟩,k⟩|⟨b,k⟩|⟨e7,q,hp,k⟩|⟨e9,⟨tb,g,q,hg,ne⟩,k⟩|⟨ve,⟨tb,g,q,hg,ne⟩,k⟩
  ·by_cases c:p<=7
   ·refine .inr (.inl ⟨c,n1,n2,⟨tb,q⟩,hp,fun H1 j=>⟨_,rfl,_,rfl,_,rfl,p,L,G,rfl,I,.inl ⟨ω,fun H2 l=>⟨_,rfl,k H2 (j.trans l)⟩⟩⟩⟩)
   ·refine .inl ⟨ω,fun H1 j=>⟨_,rfl,_,rfl,_,rfl,p,L,G,rfl,I,.inr (.inl ⟨ω,⟨tb,g,q.same j,j _ _ hg,sg,l1,l2⟩,fun H2 l=>⟨_,rfl,k H2 (j.trans l)⟩⟩)⟩⟩
  ·by_cases c:p<=7
   ·exact .inr (.inr (.inl ⟨c,b,fun H1 j x hx=>N _ o 0 H1 x Y ξ W hx fun a b c d H2 l=>⟨_,rfl,k H2 (j.trans l)⟩⟩))
   ·refine .inl ⟨ω,fun H1 j=>⟨_,rfl,_,rfl,_,rfl,p,L,G,rfl,I,.inr (.inr (.inl ⟨ω,b.same j,fun H2 l x hx=>N _ o 0 H2 x Y ξ W hx fun a b c d J z=>⟨_,rfl,k J (j.trans (l.trans z))⟩⟩))⟩⟩
  ·exact .inr (.inr (.inr ⟨e7,q,hp,fun H1 j x hx=>N _ f2 2 H1 x MN ξ hN hx fun a b c d H2 l=>⟨_,rfl,k H2 (j.trans l)⟩⟩))
  ·refine .inl ⟨ω,fun H1 j=>⟨_,rfl,_,rfl,_,rfl,p,L,G,rfl,I,.inr (.inr (.inr (.inl ⟨e9,⟨tb,g,q.same j,j _ _ hg,ne⟩,fun H2 l x hx=>N _ f1 1 H2 x MG ξ X hx fun a b c d J z=>⟨_,rfl,k J (j.trans (l.trans z))⟩⟩)))⟩⟩
  ·refine .inl ⟨ω,fun H1 j=>⟨_,rfl,_,rfl,_,rfl,p,L,G,rfl,I,.inr (.inr (.inr (.inr ⟨ve,⟨tb,g,q.same j,j _ _ hg,ne⟩,fun H2 l x hx=>N _ f1 1 H2 x MG ξ X hx fun a b c d J z=>⟨_,rfl,k J (j.trans (l.trans z))⟩⟩)))⟩⟩
end
def eY{tb:Ξ}{r q:List Int}(hr:r∈tb)(hq:q∈tb)(h:r.length≠q.length):zT tb=false:=by
 cases c:zT tb with
 |false=>rfl
 |true=>
  obtain⟨_,_,a⟩:=gi c;exact absurd (by rw[a r hr,a q hq]) h
def Tj{tb:Ξ}(h:40<tb.length):zT tb=false:=by
 cases c:zT tb with
 |false=>rfl
 |true=>have:=(gi c).1;(first|lia|omega)
def Tk{tb:Ξ}(h:40<wid tb):zT tb=false:=by
 cases c:zT tb with
 |false=>rfl
 |true=>have:=(gi c).2.1;(first|lia|omega)
def Nj{n:Int}(h:100<n):isP n=false:=by
 unfold isP;rw[decide_eq_false (show ¬n<=100 from ω),Bool.and_false];rfl
def Tn:isP 97=true:=δ
def BadN(H:Hp)(p L:Addr):Prop:=∃rs tb,H L=some (.lst (rs.map V.ref))/\Rws H rs tb/\tb.length<=100/\zT tb=false/\L≠p/\∀d∈rs,d≠p
def BadN.draw{H H':Hp}{p L:Addr}(h:BadN H p L)(s:zaa p H H'):BadN H' p L:=by
 obtain⟨rs,tb,a,b,c,d,e,f⟩:=h;exact⟨rs,tb,s _ _ e a,b.sameB s f,c,d,e,f⟩
def BadN.same{H H':Hp}{p L:Addr}(h:BadN H p L)(s:Same H H'):BadN H' p L:=h.draw (.of s)
section
variable{P:Program}{w:World}{K:Ab}{mg:Str->Option Value}{base:Heap}
def Nk{H2:Hp}{L D:Addr}{ns:List Int}{Q:VK}{f:Int->Str}{te:TE}{c:List (Option V)}(i:∀(x:Int)(H:Hp)(R:VK),x∈ns->Same H2 H->(∀H',Same H H'->R (.str (f x)) H')->te (some (.int x)::c) H R)(l:H2 L=some (.lst (ns.map V.int)))(hz:ns.length<=1000)(e:H2 D=none)(k:∀a,Same H2 a->a D=some (.lst ((ns.map f).map V.str))->Q (.ref D) a):cV (fw K L) (zR 0) bR te (none::c) H2 D Q:=by
 refine lH (xs:=ns.map V.int) (fun j σ ys a=>∃(v:Option V),σ=v::c/\Same H2 a/\a D=some (.lst ys)/\ys=((ns.take j).map f).map V.str) ⟨none,rfl,Same.new e,al,rfl⟩ ?_ ?_ ?_
 ·rintro j σ ys a ⟨v,rfl,sm,_⟩
  exact SqL.of (sm _ _ l)
 ·rintro j σ ys a x hx h hy ⟨v,rfl,sm,b,rfl⟩
  obtain⟨q,g,rfl⟩:=gm hx;refine cZ (i q a _ (An g) sm fun o d=>bZ (by rw[Aa];exact zm ω) h hy (d _ _ b) ⟨_,rfl,(sm.trans d).then e,al,?_⟩);rw[take_snoc g,Aw,Aw]
  rfl
 ·rintro σ ys a ⟨v,rfl,sm,b,rfl⟩
  rw[Aa,Ax (Af _)] at b;exact k a sm b
def iZ{H2:Hp}{D:Addr}{n:Nat}{z:Int}{Q:VK}(hz:n<=1000)(c:H2 D=none)(k:∀a,Same H2 a->a D=some (.lst ((Am n z).map V.int))->Q (.ref D) a):cV (gb 0 n) (zR 0) bR (tC (.int z)) [none] H2 D Q:=by
 refine sM (fun j σ ys a=>∃(v:Option V),σ=[v]/\Same H2 a/\a D=some (.lst ys)/\ys=(Am j z).map V.int) ⟨none,rfl,Same.new c,al,rfl⟩ ?_ ?_
 ·rintro j σ ys a d hy ⟨v,rfl,sm,b,rfl⟩
  refine cZ ?_;refine(bZ (zm ω) d hy b ⟨_,rfl,sm.then c,al,?_⟩);rw[List.replicate_succ',Aw];rfl
 ·rintro σ ys a ⟨v,rfl,sm,b,rfl⟩
  exact k a sm b
end
section
open PySem.Spec PyProof.Rows
abbrev gw(a b c:Str):PyData:=.list [.str a,.str b,.str c]
def To:same (gw "number" "goal" "goal") (gw "number" "goal" "goal")=true:=δ
def Tq:same (gw "told" "told" "told") (gw "told" "told" "told")=true:=δ
def Nl:SeqAt.shaped (gw "number" "goal" "goal")=true:=δ
def Nm:SeqAt.shaped (gw "told" "told" "told")=true:=δ
def No(a b c a' b' d:Str):SeqAt.noMix (gw a b c) (gw a' b' d)=true:=SeqAt.noMix_of_shape (.list .str) rfl _ _ (by simp[Shape.has]) (by simp[Shape.has])
end
def JP{n:Nat}{z:Int}(h:z.natAbs<=1000):∀x∈Am n z,x.natAbs<=1000:=fun x hx=>by rw[List.eq_of_mem_replicate hx];exact h
abbrev cR:Stmt:=top 72
abbrev c9:List Str:=["script","box","rows","columns","table","at","longer","shorter","bad","prime","goals","goal","way","numbers","right"]
def Rws.app'{H:Hp}{ds es:List Addr}{tb ub:Ξ}(h:Rws H ds tb)(g:Rws H es ub):Rws H (ds++es) (tb++ub):=by
 induction h with
 |nil=>exact g
 |cons r t ih=>exact .cons r ih
def Rws.take'{H:Hp}{ds:List Addr}{tb:Ξ}(h:Rws H ds tb):∀n:Nat,Rws H (ds.take n) (tb.take n):=by
 induction h with
 |nil=>intro n;rw[List.take_nil,List.take_nil];exact .nil
 |cons r t ih=>
  intro n;cases n with
  |zero=>exact .nil
  |succ n=>exact .cons r (ih n)
def GW:∀{a b:List Addr},a.map V.ref=b.map V.ref->a=b
 |[],[],_=>rfl
 |x::a,y::b,h=>by
  rw[AV,AV] at h;injection h with h1 h2
  injection h1 with h1
  rw[h1,GW h2]
def Ts(x:Int):Str:=if x=7 then "number" else "goal"
section
variable{P:Program}{w:World}{K:Ab}{mg:Str->Option Value}{base:Heap}
def GX(K:Ab):Sp:=fun vs H Q _=>∃(a:Addr)(ns:List Int),vs=[.ref a]/\SqL K H a (ns.map V.int)/\ns.length<=63/\∀H',Q (.bl true) H'
def eC:zl c9 ["script"] (zd cR):=⟨rfl,rfl,rfl,δ,rfl,δ,δ⟩
abbrev Br(a b c d:TE):TE:=dD JO [] E0 (zY a (zY b (zY c (zY d bN))))
def Tt{f fc fb ft mj fm:Addr}{fd aD dM bG gH aP:FuncData}(F:Fun K "law" "law" cR f fd)(B:GD mg)(Fc:Fun K "_law_cell_at" "_law_cell_at" GC fc aD)(bc:Binds K aD ["script","k"] [])(mc:mg "_law_cell_at"=some (.ref fc))(Fb:Fun K "_law_box" "_law_box" jR fb dM)(bb:Binds K dM ["cell"] [])(mb:mg "_law_box"=some (.ref fb))(Ft:Fun K "_law_take" "_law_take" ym ft bG)(bt:Binds K bG ["box","most"] [])(mt:mg "_law_take"=some (.ref ft))(Frw:Fun K "_law_row" "_law_row" ij mj gH)(yj:Binds K gH ["box","columns","wide"] [])(uz:mg "_law_row"=some (.ref mj))(t7:FnOk P w K mg base aJ 2 mj gH ["box","columns","wide"] Ju)(Fm:Fun K "_law_met" "_law_met" jV fm aP)(bm:Binds K aP ["way","table","goal","prime"] [])(mm:mg "_law_met"=some (.ref fm))(Gm:FnOk P w K mg base aJ 11 fm aP ["way","table","goal","prime"] JO):FnOk P w K mg base aJ 12 f fd ["script"] (GX K):=by
 have Gc:FnOk P w K mg base aJ 1 fc aD ["script","k"] (MQ K):=R4 Fc B;have Gb:FnOk P w K mg base aJ 1 fb dM ["cell"] MR:=R6 Fb;have Gt:FnOk P w K mg base aJ 1 ft bG ["box","most"] GE:=MS Ft;refine F.ok eC (fun vs H Q E h=>?_) (fun ah A outer s H vs Q E hr h=>?_)
 ·obtain⟨a,ns,rfl,_⟩:=h;rfl
 ·obtain⟨a,ns,rfl,hs,hn,k⟩:=h
  have cA:=hr.units;have J:Room 1 _:=hr.mono ξ;have hr2:Room 2 _:=hr.mono ξ;have yi:∃T,PSs (bQ aJ P w K mg base c9 "law" (zd cR) f ah A outer s H E).nox (List.drop 18 (zax cR)) T/\∀(p L:Addr)(n c:Nat)(tb:Ξ)(U v6 v7 v8 v9 gO pk W:Option V)(H':Hp),
    zaw H' L tb->tb.length=n->wid tb=c->1<=n->n<=4->1<=c->c<=4->zX H' p->L≠p->(∀rs:List Addr,H' L=some (.lst (rs.map V.ref))->∀d∈rs,d≠p)->
    T {nx:=fun _ H'=>Q .non H',rt:=Q} [some (.ref a),some (.ref p),some (.int n),some (.int c),some (.ref L),U,v6,v7,v8,v9,gO,pk,W,none,none] H':=by
   refine⟨_,za (zr (i:=13) eC.nd rfl (Or.inl rfl) (zy zB (zS (af (zp c9 ["k"] [none] (zK rfl B.range (af (zF eU (pv 3) zb) ak)) (fun l C s₀ H₀ ex=>zk (i:=0) (bx ["k"]) rfl (Or.inl rfl)) (fun l C s₀ H₀ ex=>zz) (fun l C s₀ H₀ ex=>zb) (te:=tC (.int 1)) (hfr:=bJ δ))
     (af (zp c9 ["k"] [none] (zK rfl B.range (af (zF fD (pv 3) zb) ak)) (fun l C s₀ H₀ ex=>zk (i:=0) (bx ["k"]) rfl (Or.inl rfl)) (fun l C s₀ H₀ ex=>zz) (fun l C s₀ H₀ ex=>zb) (te:=tC (.int 1)) (hfr:=bJ δ)) ak))) (ze Gt J rfl mt Ft.kp bt .nil ap (af (pv 1) (af zb ak))) (fun _ _=>rfl)))
    (za (zU (PW.pt (nR (zx dB (ze Gm hr rfl mm Fm.kp bm .nil ap (af zb (af (pv 4) (af (pv 13) (af zb ak))))) pe_str (ar _)) (nP (zx dB (ze Gm hr rfl mm Fm.kp bm .nil ap (af zb (af (pv 4) (af (zp c9 ["k"] [none] (zK rfl B.range (af (pv 3) ak)) (fun l C s₀ H₀ ex=>zk (i:=0) (bx ["k"]) rfl (Or.inl rfl)) (fun l C s₀ H₀ ex=>zz) (fun l C s₀ H₀ ex=>zb) (te:=tC (.int 1)) (hfr:=bJ δ)) (af zb ak))))) pe_str (ar _))))) (zf (zo eS)) zA)
    (za (zr (i:=14) eC.nd rfl (Or.inr rfl) (zp c9 ["k"] [none] (zK rfl B.range (af (pv 2) ak)) (fun l C s₀ H₀ ex=>zk (i:=0) (bx ["k"]) rfl (Or.inl rfl)) (fun l C s₀ H₀ ex=>zz) (fun l C s₀ H₀ ex=>zb) (te:=tC (.int 1)) (hfr:=bJ δ)))
    (zf (zo (eV (Jo cA) (zp c9 ["way","table","right"] [none,some 4,some 14] (zO (zS (af zb (af zb (af zb ak))))) (fun l C s₀ H₀ ex=>zk (i:=0) (bx ["way","table","right"]) rfl (Or.inl rfl)) (fun l C s₀ H₀ ex=>zz)
     (fun l C s₀ H₀ ex=>ze Gm hr rfl mm Fm.kp bm .nil ap (af (pv 0) (af (pv 1) (af (pv 2) (af zb ak))))) (te:=Br (aC 0) (aC 1) (aC 2) (tC (.int 97))) (hfr:=bM (zd cR) δ)) (zS (af pe_str (af pe_str (af pe_str ak)))) (ar _)))))),?_⟩
   intro p L n c tb U v6 v7 v8 v9 gO pk W H0 g ln lc n1 n4 c1 c4 hb nL nr;refine⟨_,rfl,_,_,rfl,rfl,_,rfl,ω,ω,fun I gq=>?_⟩;rw[show((c:Int)+1).toNat=c+1 from ω];refine zw (iZ ω gq fun H1 s1 lI=>?_);refine⟨_,rfl,_,_,rfl,rfl,_,rfl,ω,ω,fun u cB=>?_⟩;rw[show((c:Int)-1).toNat=c-1 from ω];refine zw (iZ ω cB fun H2 O kM=>⟨zm (by simp),fun q hq=>?_⟩);have s3:=Same.new (o:=.lst [.ref I,.ref u]) hq;have cu:=s1.trans (O.trans s3);refine⟨_,rfl,p,_,rfl,hb.same cu,ξ,ξ,fun z H4 z0 z1 dE iI=>?_⟩;have S4:zaa p H0 H4:=(zaa.of cu).trans dE;have kI:q≠p:=zV (hb.same (s1.trans O)) hq;have xo:I≠p:=zV hb gq;have wA:u≠p:=zV (hb.same s1) cB;obtain⟨N,m,eN,hN,hm⟩:∃(N:Addr)(m:Nat),atI [V.ref I,.ref u] z=some (.ref N)/\H4 N=some (.lst ((Am m (1:Int)).map V.int))/\m≠c:=by
    have:z=0\/z=1:=ω
    rcases this with rfl|rfl
    ·exact⟨I,c+1,rfl,dE _ _ xo ((O.trans s3) _ _ lI),ω⟩
    ·exact⟨u,c-1,rfl,dE _ _ wA (s3 _ _ kM),ω⟩
   have g4:zaw H4 L tb:=by
    obtain⟨rs,S,hT,it⟩:=id g;exact⟨rs,S4 _ _ nL S,hT.sameB S4 (nr rs S),it⟩
   refine⟨q,_,_,_,rfl,rfl,SqL.of (dE _ _ kI al),eN,?_⟩;refine⟨_,rfl,_,rfl,11,L,N,2,rfl,ξ,ξ,.inr (.inr (.inr (.inr ⟨rfl,⟨tb,_,g4,hN,by rw[AM,lc];exact hm⟩,fun H5 s5=>⟨rfl,_,rfl,av ⟨_,rfl,_,rfl,_,rfl,ω,ω,fun D3 ae=>?_⟩⟩⟩)))⟩;refine zw (iZ ω ae fun H6 s6 kh=>?_);refine⟨11,L,D3,2,rfl,ξ,ξ,.inl ⟨ξ,ξ,(fun z=>ω),⟨tb,_,(g4.same s5).same s6,kh,JP ξ,(fun z=>ω),fun _=>by rw[AM];(first|lia|omega)⟩,fun H7 s7=>⟨rfl,_,rfl,av ⟨_,rfl,_,rfl,ω,ω,fun R hR=>?_⟩⟩⟩⟩;have g7:=((g4.same s5).same s6).same s7;refine zw (iZ ω hR fun H8 s8 B4=>⟨zm (by simp),fun q2 g_=>⟨q2,rfl,⟨_,SqL.of al⟩,fun D4 bI=>?_⟩⟩);have X:=Same.new (o:=.lst [.int 7,.int 9,.int 10]) g_;refine zw (Nk (ns:=[7,9,10]) (f:=fun _=>"told") (fun x H' R' hx sm iQ=>⟨_,rfl,_,rfl,_,rfl,x,L,R,97,rfl,?_,?_,.inl ⟨?_,?_,fun _=>Tn,⟨tb,_,((g7.same s8).same X).same sm,sm _ _ (X _ _ B4),JP ξ,fun _=>by rw[AM];(first|lia|omega),fun e=>?_⟩,iQ⟩⟩) al ξ bI fun wE rV gZ=>⟨zm (by simp),fun q3 gA=>?_⟩)
   ·simp at hx;(first|lia|omega)
   ·simp at hx;(first|lia|omega)
   ·simp at hx;(first|lia|omega)
   ·simp at hx;(first|lia|omega)
   ·simp at hx;(first|lia|omega)
   ·have kc:=Same.new (o:=.lst [.str "told",.str "told",.str "told"]) gA
    refine⟨gw "told" "told" "told",gw "told" "told" "told",.lst (SqL.of (kc _ _ gZ)) (.cons (.str _) (.cons (.str _) (.cons (.str _) .nil))),.lst (SqL.of al) (.cons (.str _) (.cons (.str _) (.cons (.str _) .nil))),Nm,Nm,No _ _ _ _ _ _,?_⟩;rw[if_neg ξ,Tq];exact k _
  have T15:∃T,PSs (bQ aJ P w K mg base c9 "law" (zd cR) f ah A outer s H E).nox (List.drop 15 (zax cR)) T/\∀(p L BA G:Addr)(n c gl:Nat)(gz pr:Int)(tb:Ξ)(U v6 v7 gO:Option V)(H':Hp),
    zaw H' L tb->tb.length=n->wid tb=c->1<=n->n<=4->1<=c->c<=4->zX H' p->L≠p->(∀rs:List Addr,H' L=some (.lst (rs.map V.ref))->∀d∈rs,d≠p)->BadN H' p BA->H' G=some (.lst ((Am gl gz).map V.int))->gz.natAbs<=1000->gl≠n->isP pr=false->
    T {nx:=fun _ H'=>Q .non H',rt:=Q} [some (.ref a),some (.ref p),some (.int n),some (.int c),some (.ref L),U,v6,v7,some (.ref BA),some (.int pr),gO,some (.ref G),none,none,none] H':=by
   obtain⟨T,jC,kt⟩:=yi;refine⟨_,za (i6 PassesOwn.never rfl (zK rfl B.range (af zb ak)) (zk (i:=12) eC.nd rfl (Or.inl rfl))
     (zf (zU (zx dB (ze Gm hr rfl mm Fm.kp bm .nil ap (af (pv 12) (af (zp c9 ["row"] [none] (zO (pv 8)) (fun l C s₀ H₀ ex=>zk (i:=0) (bx ["row"]) rfl (Or.inl rfl)) (fun l C s₀ H₀ ex=>zz)
      (fun l C s₀ H₀ ex=>j7 k' rfl B.list GF (af (pv 0) ak)) (te:=GJ K) (hfr:=bJ δ)) (af (pv 11) (af (pv 9) ak))))) pe_str (ar _)) (zf (zo eS)) zA)))
    (za (i6 PassesOwn.never rfl (zO (zS (af zb (af zb (af zb (af zb (af zb (af zb ak)))))))) (zk (i:=12) eC.nd rfl (Or.inl rfl))
     (zf (zU (zx dB (ze Gm hr rfl mm Fm.kp bm .nil ap (af (pv 12) (af (pv 4) (af (pv 11) (af (pv 9) ak))))) pe_str (ar _)) (zf (zo eS)) zA)))
    (za (zU (zx (RM cA) (zp c9 ["way","table","goal","prime"] [none,some 4,some 11,some 9] (zO (zS (af zb (af zb (af zb ak))))) (fun l C s₀ H₀ ex=>zk (i:=0) (bx ["way","table","goal","prime"]) rfl (Or.inl rfl)) (fun l C s₀ H₀ ex=>zz)
     (fun l C s₀ H₀ ex=>ze Gm hr rfl mm Fm.kp bm .nil ap (af (pv 0) (af (pv 1) (af (pv 2) (af (pv 3) ak))))) (te:=Br (aC 0) (aC 1) (aC 2) (aC 3)) (hfr:=bM (zd cR) δ)) (zS (af pe_str (af pe_str (af pe_str ak)))) (ar _)) (zf (zo eS)) zA)
    jC)),?_⟩
   intro p L BA G n c gl gz pr tb U v6 v7 gO H0 g ln lc n1 n4 c1 c4 hb nL nr lL hG nH jY hp;refine⟨_,rfl,ξ,ξ,NV (lo:=0) (n:=12) (fun i σ H1=>∃(W:Option V),σ=[some (.ref a),some (.ref p),some (.int n),some (.int c),some (.ref L),U,v6,v7,some (.ref BA),some (.int pr),gO,some (.ref G),W,none,none]/\Same H0 H1) ⟨none,rfl,Same.refl _⟩ ?_ ?_⟩
   ·rintro i σ H1 hi ⟨W,rfl,sm⟩
    obtain⟨rs,Ch,S,hT,hz,it,_,_⟩:=lL.same sm;refine⟨_,rfl,_,rfl,BA,rfl,⟨_,SqL.of S⟩,fun D hD=>zw (Jy (SqL.of S) hT ω hD fun H2 ds O cB fM _ _=>?_)⟩;exact⟨_,rfl,_,rfl,_,D,G,pr,rfl,ω,ω,.inr (.inl ⟨⟨ds,Ch,cB,fM,ω,it⟩,fun H3 s3=>⟨rfl,_,rfl,av ⟨_,rfl,sm.trans (O.trans s3)⟩⟩⟩)⟩
   ·rintro σ H1 ⟨W,rfl,sm⟩
    refine⟨zm (by simp),fun q hq=>⟨q,rfl,⟨_,SqL.of al⟩,?_⟩⟩;have O:=Same.new (o:=.lst [.int 0,.int 3,.int 4,.int 5,.int 6,.int 8]) hq;generalize hH2:upd H1 q (.lst [.int 0,.int 3,.int 4,.int 5,.int 6,.int 8])=H2 at O;have yp:H2 q=some (.lst [.int 0,.int 3,.int 4,.int 5,.int 6,.int 8]):=by rw[<-hH2];exact al
    have pR:=sm.trans O;refine CC (K:=K) (a:=q) (xs:=[.int 0,.int 3,.int 4,.int 5,.int 6,.int 8]) (fun i σ H3=>∃(W:Option V),σ=[some (.ref a),some (.ref p),some (.int n),some (.int c),some (.ref L),U,v6,v7,some (.ref BA),some (.int pr),gO,some (.ref G),W,none,none]/\Same H2 H3)
     ⟨_,rfl,Same.refl _⟩ (fun i σ H3 _ ⟨_,_,sm⟩=>SqL.of (sm _ _ yp)) ?_ ?_
    ·rintro i x σ H3 hx ⟨W,rfl,au⟩
     obtain⟨m,rfl,hm⟩:∃m:Int,x=.int m/\(m=0\/m=3\/m=4\/m=5\/m=6\/m=8):=by
      have:=An hx;simp at this;rcases this with rfl|rfl|rfl|rfl|rfl|rfl
      ·exact⟨0,rfl,ω⟩
      ·exact⟨3,rfl,ω⟩
      ·exact⟨4,rfl,ω⟩
      ·exact⟨5,rfl,ω⟩
      ·exact⟨6,rfl,ω⟩
      ·exact⟨8,rfl,ω⟩
     have cu:=pR.trans au;exact⟨_,rfl,_,rfl,_,rfl,_,rfl,m,L,G,pr,rfl,ω,ω,.inl ⟨ω,ω,(fun z=>ω),⟨tb,_,g.same cu,cu _ _ hG,JP nH,(fun z=>ω),fun z=>ω⟩,fun H4 s4=>⟨rfl,_,rfl,av ⟨_,rfl,au.trans s4⟩⟩⟩⟩
    ·rintro σ H3 ⟨W,rfl,au⟩
     have cu:=pR.trans au;refine⟨zm (by simp),fun q2 g_=>⟨q2,rfl,⟨_,SqL.of al⟩,fun D4 bI=>?_⟩⟩;have X:=Same.new (o:=.lst [.int 7,.int 9,.int 10]) g_;refine zw (Nk (ns:=[7,9,10]) (f:=Ts) (fun x H' R' hx sm iQ=>⟨_,rfl,_,rfl,_,rfl,_,rfl,x,L,G,pr,rfl,?_,?_,?_⟩) al ξ bI fun wE rV gZ=>⟨zm (by simp),fun q3 gA=>?_⟩)
     ·simp at hx;(first|lia|omega)
     ·simp at hx;(first|lia|omega)
     ·have gx:=((g.same cu).same X).same sm
      have rN:=sm _ _ (X _ _ (cu _ _ hG));have:x=7\/x=9\/x=10:=by simpa using hx
      rcases this with rfl|rfl|rfl
      ·exact .inr (.inr (.inl ⟨rfl,⟨tb,gx⟩,hp,iQ⟩))
      ·exact .inr (.inr (.inr (.inl ⟨.inl rfl,⟨tb,_,gx,rN,by rw[AM,ln];exact jY⟩,iQ⟩)))
      ·exact .inr (.inr (.inr (.inl ⟨.inr rfl,⟨tb,_,gx,rN,by rw[AM,ln];exact jY⟩,iQ⟩)))
     ·have kc:=Same.new (o:=.lst [.str "number",.str "goal",.str "goal"]) gA
      refine⟨gw "number" "goal" "goal",gw "number" "goal" "goal",.lst (SqL.of (kc _ _ gZ)) (.cons (.str _) (.cons (.str _) (.cons (.str _) .nil))),.lst (SqL.of al) (.cons (.str _) (.cons (.str _) (.cons (.str _) .nil))),Nl,Nl,No _ _ _ _ _ _,_,rfl,?_⟩;rw[if_pos rfl,To];have sF:=cu.trans (X.trans (rV.trans kc));refine av (kt p L n c tb _ _ _ _ _ _ _ _ _ (g.same sF) ln lc n1 n4 c1 c4 (hb.same sF) nL fun rs M=>?_);obtain⟨qk,sY,_⟩:=id g;rw[sF _ _ sY] at M;have e:qk=rs:=by
       injection M with M
       injection M with M
       exact GW M
      rw[<-e];exact nr qk sY
  have T11:∃T,PSs (bQ aJ P w K mg base c9 "law" (zd cR) f ah A outer s H E).nox (List.drop 11 (zax cR)) T/\∀(p L I u:Addr)(n c:Nat)(tb:Ξ)(U:Option V)(H':Hp),
    zaw H' L tb->tb.length=n->wid tb=c->1<=n->n<=4->1<=c->c<=4->zX H' p->L≠p->(∀rs:List Addr,H' L=some (.lst (rs.map V.ref))->∀d∈rs,d≠p)->BadN H' p I->BadN H' p u->
    T {nx:=fun _ H'=>Q .non H',rt:=Q} [some (.ref a),some (.ref p),some (.int n),some (.int c),some (.ref L),U,some (.ref I),some (.ref u),none,none,none,none,none,none,none] H':=by
   obtain⟨T,jC,kt⟩:=T15;refine⟨_,za (zr (i:=8) eC.nd rfl (Or.inl rfl) (zy zB (zS (af (pv 6) (af (pv 7) (af (zp c9 ["row"] [none] (zK rfl B.range (af zb ak)) (fun l C s₀ H₀ ex=>zk (i:=0) (bx ["row"]) rfl (Or.inl rfl)) (fun l C s₀ H₀ ex=>zz) (fun l C s₀ H₀ ex=>zS (af zb ak)) (hfr:=bJ δ)) (af (zS (af (zp c9 ["place"] [none] (zK rfl B.range (af zb ak)) (fun l C s₀ H₀ ex=>zk (i:=0) (bx ["place"]) rfl (Or.inl rfl)) (fun l C s₀ H₀ ex=>zz) (fun l C s₀ H₀ ex=>zb) (te:=tC (.int 0)) (hfr:=bJ δ)) ak)) ak))))) (ze Gt J rfl mt Ft.kp bt .nil ap (af (pv 1) (af zb ak))) (fun _ _=>rfl)))
    (za (zr (i:=9) eC.nd rfl (Or.inr rfl) (zy zB (zS (af zb (af zb (af zb (af zb (af (jX j3 zb) (af (zF CM zb zb) ak))))))) (ze Gt J rfl mt Ft.kp bt .nil ap (af (pv 1) (af zb ak))) (fun _ _=>rfl)))
    (za (zr (i:=10) eC.nd rfl (Or.inl rfl) (zS (af (zp c9 ["k"] [none] (zK rfl B.range (af (zF eU (pv 2) zb) ak)) (fun l C s₀ H₀ ex=>zk (i:=0) (bx ["k"]) rfl (Or.inl rfl)) (fun l C s₀ H₀ ex=>zz) (fun l C s₀ H₀ ex=>zb) (te:=tC (.int 1)) (hfr:=bJ δ)) (af (zp c9 ["k"] [none] (zK rfl B.range (af (zF fD (pv 2) zb) ak)) (fun l C s₀ H₀ ex=>zk (i:=0) (bx ["k"]) rfl (Or.inl rfl)) (fun l C s₀ H₀ ex=>zz) (fun l C s₀ H₀ ex=>zb) (te:=tC (.int 1)) (hfr:=bJ δ)) (af (zp c9 ["k"] [none] (zK rfl B.range (af (zF eU (pv 2) zb) ak)) (fun l C s₀ H₀ ex=>zk (i:=0) (bx ["k"]) rfl (Or.inl rfl)) (fun l C s₀ H₀ ex=>zz) (fun l C s₀ H₀ ex=>zb) (te:=tC (.int 0)) (hfr:=bJ δ)) ak)))))
    (za (zr (i:=11) eC.nd rfl (Or.inr rfl) (zy zB (pv 10) (ze Gt J rfl mt Ft.kp bt .nil ap (af (pv 1) (af zb ak))) (fun _ _=>rfl))) jC))),?_⟩
   intro p L I u n c tb U H0 g ln lc n1 n4 c1 c4 hb nL nr e_ gK;refine⟨_,rfl,_,rfl,_,rfl,ξ,ξ,fun D3 ae=>?_⟩;refine zw (HX (n:=41) (g:=fun _=>[1]) (fun j H' R hj sm hR=>⟨zm (by simp),fun d hd=>hR d _ (Same.new hd) hd al⟩) ξ ae fun H1 ds s1 l' rd bB hn=>?_);refine⟨_,rfl,ξ,ξ,fun D4 bI=>?_⟩;refine zw (iZ (n:=41) ξ bI fun H2 O oI=>⟨zm (by simp),fun D5 eK=>⟨zm (by simp),fun q hq=>?_⟩⟩);have s3:=Same.new (o:=.lst [.ref D4]) eK;have s4:=Same.new (o:=.lst [.ref I,.ref u,.ref D3,.ref D5]) hq;have pE:=s3.trans s4;have dX:=O.trans pE;have iS:=s1.trans dX;refine⟨_,rfl,p,_,rfl,hb.same iS,ξ,ξ,fun z H5 z0 z1 gR h_=>?_⟩;have S5:zaa p H0 H5:=(zaa.of iS).trans gR;have kI:q≠p:=zV (hb.same (s1.trans (O.trans s3))) hq;have b3:BadN (upd (upd H2 D5 (.lst [.ref D4])) q (.lst [.ref I,.ref u,.ref D3,.ref D5])) p D3:=⟨ds,_,dX _ _ l',rd.same dX,by simp,Tj (by simp),zV hb ae,fun d hd=>zV hb (hn d hd).1⟩;have b4:BadN (upd (upd H2 D5 (.lst [.ref D4])) q (.lst [.ref I,.ref u,.ref D3,.ref D5])) p D5:=⟨[D4],[Am 41 0],s4 _ _ al,.cons (pE _ _ oI) .nil,by simp,Tk (by show 40<(Am 41 (0:Int)).length;simp),zV (hb.same (s1.trans O)) eK,fun d hd=>(by
    rw[List.mem_singleton.mp hd];exact zV (hb.same s1) bI)⟩
   obtain⟨BA,eB,lL⟩:∃BA,atI [V.ref I,.ref u,.ref D3,.ref D5] z=some (.ref BA)/\BadN H5 p BA:=by
    have:z=0\/z=1\/z=2\/z=3:=ω
    rcases this with rfl|rfl|rfl|rfl
    ·exact⟨I,rfl,e_.draw S5⟩
    ·exact⟨u,rfl,gK.draw S5⟩
    ·exact⟨D3,rfl,b3.draw gR⟩
    ·exact⟨D5,rfl,b4.draw gR⟩
   refine⟨q,_,_,_,rfl,rfl,SqL.of (gR _ _ kI al),eB,?_⟩;refine⟨_,rfl,_,_,rfl,rfl,⟨ξ,ξ,ξ⟩,zm (by simp),fun q2 g_=>⟨_,rfl,p,_,rfl,h_.new g_,ξ,ξ,fun y H6 y0 y1 tI iT=>?_⟩⟩;have S6:zaa p H5 H6:=(zaa.of (Same.new g_)).trans tI;have oB:q2≠p:=zV h_ g_;obtain⟨pr,eP,hP⟩:∃pr:Int,atI [V.int 0,.int 1,.int 4,.int 101,.int (-2),.int (10 ^ 20)] y=some (.int pr)/\isP pr=false:=by
    have:y=0\/y=1\/y=2\/y=3\/y=4\/y=5:=ω
    rcases this with rfl|rfl|rfl|rfl|rfl|rfl
    ·exact⟨_,rfl,δ⟩
    ·exact⟨_,rfl,δ⟩
    ·exact⟨_,rfl,δ⟩
    ·exact⟨_,rfl,Nj ξ⟩
    ·exact⟨_,rfl,δ⟩
    ·exact⟨_,rfl,Nj ξ⟩
   refine⟨q2,_,_,_,rfl,rfl,SqL.of (tI _ _ oB al),eP,?_⟩;refine⟨_,rfl,_,_,rfl,rfl,_,rfl,ω,ω,fun E1 pX=>?_⟩;refine zw (iZ ω pX fun H7 s7 lO=>?_);refine⟨_,rfl,_,_,rfl,rfl,_,rfl,ω,ω,fun E2 mL=>?_⟩;refine zw (iZ ω mL fun H8 s8 lN=>?_);refine⟨_,rfl,_,_,rfl,rfl,_,rfl,ω,ω,fun E3 qZ=>?_⟩;refine zw (iZ ω qZ fun H9 X ou=>⟨zm (by simp),fun q3 gA=>?_⟩);have j4:=Same.new (o:=.lst [.ref E1,.ref E2,.ref E3]) gA;have sI:=s7.trans (s8.trans X);have sQ:=sI.trans j4;refine⟨_,rfl,_,rfl,p,_,rfl,iT.same sQ,ξ,ξ,fun x nA x0 x1 dW oE=>?_⟩;have rQ:zaa p H6 nA:=(zaa.of sQ).trans dW;have kT:q3≠p:=zV (iT.same sI) gA;obtain⟨G,gl,gz,eG,hG,nH,jY⟩:∃(G:Addr)(gl:Nat)(gz:Int),atI [V.ref E1,.ref E2,.ref E3] x=some (.ref G)/\nA G=some (.lst ((Am gl gz).map V.int))/\gz.natAbs<=1000/\gl≠n:=by
    have:x=0\/x=1\/x=2:=ω
    rcases this with rfl|rfl|rfl
    ·exact⟨E1,_,_,rfl,dW _ _ (zV iT pX) ((s8.trans (X.trans j4)) _ _ lO),ξ,ω⟩
    ·exact⟨E2,_,_,rfl,dW _ _ (zV (iT.same s7) mL) ((X.trans j4) _ _ lN),ξ,ω⟩
    ·exact⟨E3,_,_,rfl,dW _ _ (zV (iT.same (s7.trans s8)) qZ) (j4 _ _ ou),ξ,ω⟩
   refine⟨q3,_,_,_,rfl,rfl,SqL.of (dW _ _ kT al),eG,?_⟩;have SA:=S5.trans (S6.trans rQ);obtain⟨rs,S,hT,Da⟩:=id g;have pM:=SA _ _ nL S;refine kt p L BA G n c gl gz pr tb _ _ _ _ nA ⟨rs,pM,hT.sameB SA (nr rs S),Da⟩ ln lc n1 n4 c1 c4 oE nL (fun Cy M=>?_) ((lL.draw S6).draw rQ) hG nH jY hP;rw[pM] at M;injection M with M
   injection M with M
   rw[<-GW M];exact nr rs S
  obtain⟨T,jC,kt⟩:=T11;refine⟨_,za (zr (i:=1) eC.nd rfl (Or.inr rfl) (ze Gb J rfl mb Fb.kp bb .nil ap (af (ze Gc J rfl mc Fc.kp bc .nil ap (af (pv 0) (af zb ak))) ak)))
   (za (zr (i:=2) eC.nd rfl (Or.inl rfl) (zF eU zb (ze Gt J rfl mt Ft.kp bt .nil ap (af (pv 1) (af zb ak)))))
   (za (zr (i:=3) eC.nd rfl (Or.inr rfl) (zF eU zb (ze Gt J rfl mt Ft.kp bt .nil ap (af (pv 1) (af zb ak)))))
   (za (zr (i:=4) eC.nd rfl (Or.inr rfl) (zp c9 ["row","box","columns"] [none,some 1,some 3] (zK rfl B.range (af (pv 2) ak)) (fun l C s₀ H₀ ex=>zk (i:=0) (bx ["row","box","columns"]) rfl (Or.inl rfl)) (fun l C s₀ H₀ ex=>zz)
    (fun l C s₀ H₀ ex=>ze t7 hr2 rfl uz Frw.kp yj .nil ap (af (pv 1) (af (pv 2) (af zb ak)))) (te:=dD Ju [] E0 (zY (aC 1) (zY (aC 2) (zY (tC (.int 7)) bN)))) (hfr:=bM (zd cR) δ)))
   (za (zr (i:=5) eC.nd rfl (Or.inl rfl) (ze Gt J rfl mt Ft.kp bt .nil ap (af (pv 1) (af (pv 2) ak))))
   (za (oK (i:=6) eC.nd rfl (Or.inl rfl) c9 ["row"] [none] (zO (pv 4)) (fun l C s₀ H₀ ex=>zk (i:=0) (bx ["row"]) rfl (Or.inl rfl)) (fun l C s₀ H₀ ex=>zz) (fun l C s₀ H₀ ex=>j7 k' rfl B.list GF (af (pv 0) ak)) (te:=GJ K) (hfr:=bJ δ))
   (za (zD (nZ PySem.F.plainAttrs_list PySem.F.slot_list_append PySem.F.type_list_append Dl (zy zB (pv 6) (pv 5) (fun _ _=>rfl)) (af zb ak)))
   (za (zD (nZ PySem.F.plainAttrs_list PySem.F.slot_list_append PySem.F.type_list_append Dl (pv 6) (af (zp c9 ["place"] [none] (zK rfl B.range (af (pv 3) ak)) (fun l C s₀ H₀ ex=>zk (i:=0) (bx ["place"]) rfl (Or.inl rfl)) (fun l C s₀ H₀ ex=>zz) (fun l C s₀ H₀ ex=>zb) (te:=tC (.int 0)) (hfr:=bJ δ)) ak)))
   (za (oK (i:=7) eC.nd rfl (Or.inl rfl) c9 ["row"] [none] (zO (pv 4)) (fun l C s₀ H₀ ex=>zk (i:=0) (bx ["row"]) rfl (Or.inl rfl)) (fun l C s₀ H₀ ex=>zz) (fun l C s₀ H₀ ex=>j7 k' rfl B.list GF (af (pv 0) ak)) (te:=GJ K) (hfr:=bJ δ))
   (za (zD (Od PySem.F.plainAttrs_list PySem.F.slot_list_pop PySem.F.type_list_pop Og (zy zB (pv 7) (pv 5) (fun _ _=>rfl))))
   (za (zD (nZ PySem.F.plainAttrs_list PySem.F.slot_list_insert PySem.F.type_list_insert O8 (pv 7) (af (ze Gt J rfl mt Ft.kp bt .nil ap (af (pv 1) (af (zF eU (pv 2) zb) ak))) (af (zp c9 ["place"] [none] (zK rfl B.range (af (pv 3) ak)) (fun l C s₀ H₀ ex=>zk (i:=0) (bx ["place"]) rfl (Or.inl rfl)) (fun l C s₀ H₀ ex=>zz) (fun l C s₀ H₀ ex=>zb) (te:=tC (.int 0)) (hfr:=bJ δ)) ak))))
   jC)))))))))),?_⟩
  refine⟨_,rfl,a,ns,0,rfl,hs,fun n1=>⟨n1,rfl,fun p x y hp gj=>?_⟩⟩;have tL:zX (upd H p (.lst [.int x,.int y])) p:=⟨x,y,al,gj⟩;refine⟨_,rfl,p,_,rfl,tL,ξ,ξ,fun nz H2 n0 n4 E_ kP=>⟨_,_,rfl,rfl,?_⟩⟩;refine⟨_,rfl,p,_,rfl,kP,ξ,ξ,fun cz H3 c0 c4 Ed dC=>⟨_,_,rfl,rfl,?_⟩⟩;obtain⟨n,en,yA,uv⟩:∃n:Nat,(1:Int)+nz=(n:Int)/\1<=n/\n<=4:=⟨(1+nz).toNat,ω,ω,ω⟩;obtain⟨c,ec,Ce,xN⟩:∃c:Nat,(1:Int)+cz=(c:Int)/\1<=c/\c<=4:=⟨(1+cz).toNat,ω,ω,ω⟩;dsimp only;rw[en,ec];refine⟨_,rfl,_,rfl,ω,ω,fun L S=>?_⟩;refine zw (R9 (p:=p) (n:=n) (Pr:=fun ns=>ns.length=c/\Bnd 7 ns) dC (fun j H' R sb bL hR=>⟨_,rfl,_,rfl,p,c,7,rfl,bL,ω,ξ,ξ,fun d H7 ns BE Cf hd e7 hl bd=>hR d H7 ns BE Cf hd e7 ⟨hl,bd⟩⟩) ω S fun H4 rs tb dE iI Cg rO lt pr nw=>?_);have lf:L≠p:=zV dC S;have rp:∀d∈rs,d≠p:=fun d hd=>zV dC (nw d hd).1;have Fy:=rO.len;obtain⟨i1,i2,i3⟩:=MW kQ (b:=7) (fun r hr=>pr r hr) (show tb.length<=6 from ω) (show c<=6 from ω) ξ;have wt:wid tb=c:=GH (fun r hr=>(pr r hr).1) fun h=>ω
  refine⟨_,rfl,_,rfl,p,_,rfl,iI,ω,ω,fun at_ H5 a0 a1 gR h_=>?_⟩;obtain⟨j,rfl⟩:∃j:Nat,at_=(j:Int):=⟨at_.toNat,ω⟩;have hj:j<tb.length:=ω
  have ot:=gR _ _ lf Cg;have p_:=rO.sameB gR rp;refine⟨_,rfl,L,rfl,⟨_,SqL.of ot⟩,fun I gq=>zw (Jy (SqL.of ot) p_ ω gq fun H6 ds s6 kh ow xH nI=>?_)⟩;have ld:=ow.len;obtain⟨d,ed⟩:∃d,ds[j]?=some d:=⟨_,Ac (show j<ds.length from ω)⟩;obtain⟨rn,er,hd⟩:=ow.get ed;have z_:=An er;have FB:=(pr rn z_).1;have gE:(ds.map V.ref)[j]?=some (V.ref d):=by rw[Aj,ed];rfl
  have hdm:=nI d (An ed);refine⟨_,rfl,_,rfl,I,_,_,_,rfl,rfl,SqL.of kh,zh (v:=V.ref d) gE,.inl ⟨rfl,_,SqL.of hd⟩,d,_,_,rfl,rfl,hd,Jv (by rw[Aa];(first|lia|omega)),?_⟩;rw[show rn.map V.int++[V.int 1]=(rn++[1]).map V.int by rw[Aw];rfl];have r7:=ow.updAt (ns:=rn++[1]) j xH ed;have mF:Same H5 (upd H6 d (.lst ((rn++[1]).map V.int))):=s6.then hdm.1;have gf:(upd H6 d (.lst ((rn++[1]).map V.int))) I=some (.lst (ds.map V.ref)):=by rw[aq hdm.2.symm];exact kh
  generalize upd H6 d (.lst ((rn++[1]).map V.int))=H7 at r7 mF gf;refine⟨_,rfl,.inl ⟨rfl,_,SqL.of gf⟩,_,rfl,_,rfl,ω,ω,fun Z hZ=>?_⟩;refine zw (iZ ω hZ fun H8 s8 vG=>⟨I,_,_,rfl,rfl,s8 _ _ gf,Jv (by rw[Aa];(first|lia|omega)),?_⟩);rw[show ds.map V.ref++[V.ref Z]=(ds++[Z]).map V.ref by rw[Aw];rfl];have wx:Z≠I:=fun e=>by rw[e,gf] at hZ;cases hZ
  have r8:=(r7.same s8).snoc vG;have u7:=mF.trans s8;have kj:Same H5 (upd H8 I (.lst ((ds++[Z]).map V.ref))):=u7.then gq;have r9:Rws (upd H8 I (.lst ((ds++[Z]).map V.ref))) (ds++[Z]) (tb.set j (rn++[1])++[Am ((c:Nat):Int).toNat 0]):=r8.upd fun e he=>by
   rcases List.mem_append.mp he with z|z
   ·exact(nI e z).2
   ·rw[List.mem_singleton.mp z];exact wx
  have jN:=h_.same kj;have e_:BadN (upd H8 I (.lst ((ds++[Z]).map V.ref))) p I:=by
   refine⟨ds++[Z],_,al,r9,by rw[AJ,List.length_set];simp;(first|lia|omega),?_,zV h_ gq,fun e he=>?_⟩
   ·refine eY (r:=rn++[1]) (q:=Am ((c:Nat):Int).toNat 0) (AY _ (List.mem_iff_getElem?.mpr ⟨j,by rw[List.getElem?_set];simp[hj]⟩)) (Ay _ (List.mem_singleton.mpr rfl)) ?_
    rw[AJ,AM];show rn.length+1≠_;(first|lia|omega)
   ·rcases List.mem_append.mp he with z|z
    ·exact zV h_ (nI e z).1
    ·rw[List.mem_singleton.mp z];exact zV (h_.same mF) hZ
  have j8:=kj _ _ ot;have mz:=p_.same kj;generalize upd H8 I (.lst ((ds++[Z]).map V.ref))=H9 at kj jN e_ j8 mz;refine⟨_,rfl,L,rfl,⟨_,SqL.of j8⟩,fun u cB=>zw (Jy (SqL.of j8) mz ω cB fun HA es sA rK nG ye jS=>?_)⟩;have le:=nG.len;obtain⟨e,ee⟩:∃e,es[j]?=some e:=⟨_,Ac (show j<es.length from ω)⟩;obtain⟨El,qF,he⟩:=nG.get ee;rw[er] at qF;obtain rfl:=AL qF;have xT:(es.map V.ref)[j]?=some (V.ref e):=by rw[Aj,ee];rfl
  have pO:=jS e (An ee);refine⟨_,rfl,_,rfl,u,_,_,_,rfl,rfl,SqL.of rK,zh (v:=V.ref e) xT,.inl ⟨rfl,_,SqL.of he⟩,e,_,_,rfl,rfl,he,Ac (by rw[Aa];(first|lia|omega)),?_⟩;rw[show(rn.map V.int).dropLast=rn.dropLast.map V.int by rw[List.dropLast_eq_take,List.dropLast_eq_take,Aa,List.map_take]];have rB:=nG.updAt (ns:=rn.dropLast) j ye ee;have lX:Same H9 (upd HA e (.lst (rn.dropLast.map V.int))):=sA.then pO.1;have mV:(upd HA e (.lst (rn.dropLast.map V.int))) u=some (.lst (es.map V.ref)):=by rw[aq pO.2.symm];exact rK
  generalize upd HA e (.lst (rn.dropLast.map V.int))=HB at rB lX mV;have yI:=jN.same lX;refine⟨_,rfl,.inl ⟨rfl,_,SqL.of mV⟩,_,rfl,_,rfl,_,_,rfl,rfl,p,_,rfl,yI,ω,ω,fun z HC z0 z1 kA qV=>?_⟩;have nk:u≠p:=zV jN cB;have nu:∀x∈es,x≠p:=fun x hx=>zV jN (jS x hx).1;have qY:=kA _ _ nk mV;have rC:=rB.sameB kA nu;refine⟨_,rfl,_,rfl,ω,ω,fun Y hY=>?_⟩;refine zw (iZ ω hY fun HD sD vh=>?_);obtain⟨m,rfl⟩:∃m:Nat,z=(m:Int):=⟨z.toNat,ω⟩;refine⟨u,_,_,_,rfl,rfl,sD _ _ qY,ω,by rw[Aa];(first|lia|omega),Jv (by rw[Aa];(first|lia|omega)),?_⟩;rw[Int.toNat_natCast m,<-List.map_take,<-List.map_drop,<-AV (f:=V.ref),<-Aw];have lK:Y≠u:=fun e=>by rw[e,qY] at hY;cases hY
  have rD:Rws (upd HD u (.lst ((es.take m++Y::es.drop m).map V.ref))) (es.take m++Y::es.drop m) ((tb.set j rn.dropLast).take m++Am ((c:Nat):Int).toNat 0::(tb.set j rn.dropLast).drop m):=by
   refine(Rws.app' ((rC.same sD).take' m) (.cons vh ((rC.same sD).drop m))).upd fun x hx=>?_;rcases List.mem_append.mp hx with z|z
   ·exact(jS x (List.mem_of_mem_take z)).2
   ·rcases List.mem_cons.mp z with z|z
    ·rw[z];exact lK
    ·exact(jS x (List.mem_of_mem_drop z)).2
  have S9F:zaa p H9 (upd HD u (.lst ((es.take m++Y::es.drop m).map V.ref))):=(((zaa.of lX).trans kA).trans (.of sD)).then cB;have wq:zX (upd HD u (.lst ((es.take m++Y::es.drop m).map V.ref))) p:=(qV.same sD).upd nk;have gK:BadN (upd HD u (.lst ((es.take m++Y::es.drop m).map V.ref))) p u:=by
   refine⟨_,_,al,rD,?_,?_,nk,fun x hx=>?_⟩
   ·rw[AJ,AH,List.length_take,List.length_drop,List.length_set];(first|lia|omega)
   ·have hm:rn.dropLast∈tb.set j rn.dropLast:=List.mem_iff_getElem?.mpr ⟨j,by rw[List.getElem?_set];simp[hj]⟩
    rw[<-List.take_append_drop m (tb.set j rn.dropLast)] at hm;refine eY (r:=rn.dropLast) (q:=Am ((c:Nat):Int).toNat 0) ?_ (Ay _ (AF ..)) (by rw[List.length_dropLast,AM];(first|lia|omega));rcases List.mem_append.mp hm with z|z
    ·exact AY _ z
    ·exact Ay _ (AD _ z)
   ·rcases List.mem_append.mp hx with z|z
    ·exact nu x (List.mem_of_mem_take z)
    ·rcases List.mem_cons.mp z with z|z
     ·rw[z];exact zV qV hY
     ·exact nu x (List.mem_of_mem_drop z)
  have qt:=S9F _ _ lf j8;refine kt p L I u n c tb _ _ ⟨rs,qt,mz.sameB S9F rp,i1,i2,i3⟩ lt wt yA uv Ce xN wq lf (fun Cy M=>?_) (e_.draw S9F) gK;rw[qt] at M;injection M with M
  injection M with M
  rw[<-GW M];exact rp
end
end K27
end
section
namespace K27
open PySem L2
def Tu{l:PySem.W.OpenLaw}{w:World}{K:Ab}{h:Heap}{mg:Str->Option Value}{fa f1 f2 f3 f4 f5 f6 f7 f8 f9 xz ur Dw xV ut yL y8 xg yr Di xY vA tU yU vE Cn BR BB we uX xm vp wX Ct xh wa wH u_ yg vJ ya Bq CQ Bv CH BH Cw xM yc B6 vw DD xq B5 v_ yZ Dp i e1 e2 e3 F H I:Addr}{tr tc tp:Tok}(X:K.In h)(G:h.Ns mainGlobals mg)(Cu:mg "law"=some (.ref fa))(d1:Df K "is_table" oM f1)(d2:Df K "width_of" gS f2)(d3:Df K "must_be_table" j' f3)(d4:Df K "rows_by" oT f4)(d5:Df K "row_by" l6 f5)(d6:Df K "sum_by" tH f6)(d7:Df K "columns_of" iN f7)(d8:Df K "columns_to" o8 f8)(d9:Df K "column_of" gU f9)(gT:Df K "stepped" nh xz)(xu:Df K "is_stepped" xp ur)(yt:Df K "is_back" Gy Dw)(uM:Df K "is_of_size" vQ xV)(vS:Df K "are_steps" vV ut)(tQ:Df K "on_slope" pZ yL)(y7:Df K "slope_row" vu y8)(xf:Df K "steps_of" ni xg)(xD:Df K "rank" xy yr)(y_:Df K "paper_of" xa Di)(x5:Df K "is_in_steps" FZ xY)(Ca:Df K "unit" vB vA)(uZ:Df K "is_on_slope" wk tU)(BS:Df K "slope_of" wo yU)(vn:Df K "straightened" dw vE)(xI:Df K "echelon_of" jy Cn)(ug:Df K "take_in" FX BR)(tR:Df K "reduced" jp BB)(wc:Df K "less" kb we)(xt:Df K "first_place" FK uX)(uO:Df K "divisor_pair" uu xm)(w9:Df K "mix_of_two" t5 vp)(w_:Df K "mix_of" jA wX)(wF:Df K "shares_of" jq Ct)(uV:Df K "slid" FY xh)(Bp:Df K "product" JI wa)(x9:Df K "turned_over" JH wH)(uG:Df K "rank_by" GR u_)(vt:Df K "is_prime" yR yg)(tX:Df K "solved" GO vJ)(u8:Df K "must_have_goal" p' ya)(xQ:Df K "solved_by" GN Bq)(vy:Df K "is_so_many_times" yB CQ)(w4:Df K "shows_none" yH Bv)(wm:Df K "can_show" jT CH)(wJ:Df K "brought" GP BH)(wM:Df K "leaves" yN Cw)(wp:Df K "leaves_of" qa xM)(uA:Df K "_law_cell_at" GC yc)(BX:Df K "_law_box" jR B6)(vC:Df K "_law_take" ym vw)(BL:Df K "_law_row" ij DD)(B_:Df K "_law_which" GU xq)(uy:Df K "_law_first" JK B5)(yJ:Df K "_law_second" JL v_)(Cd:Df K "_law_met" jV yZ)(oU:Df K "law" cR Dp)(gr:Nn K "MOST_ROWS" (some (.int 40 tr)))(gc:Nn K "MOST_COLUMNS" (some (.int 40 tc)))(gp:Nn K "LAST_PRIME" (some (.int 100 tp)))(pK:Nn K "NoTable" (some (.ref i)))(qc:Nn K "NoGoal" (some (.ref e1)))(sK:Nn K "NoNumber" (some (.ref e2)))(Dc:Nn K "NoWeb" (some (.ref e3)))(tV:Nn K "NoChain" (some (.ref F)))(CK:Nn K "NoPiece" (some (.ref H)))(uB:Nn K "SeamError" (some (.ref I)))(q0:Bk K i ge "ValueError.__new__"=true)(q1:Bk K e1 ge "ValueError.__new__"=true)(q2:Bk K e2 ge "ValueError.__new__"=true)(M0:Mk K i i e1 e2 e3 F H 0)(M1:Mk K e1 i e1 e2 e3 F H 1)(M2:Mk K e2 i e1 e2 e3 F H 2)(S0:dq K i I)(S1:dq K e1 I)(S2:dq K e2 I)(z1:Nn K "len" none)(z2:Nn K "all" none)(z3:Nn K "zip" none)(z4:Nn K "sum" none)(z5:Nn K "range" none)(z6:Nn K "list" none)(z7:Nn K "int" none)(z8:Nn K "bool" none)(z9:Nn K "isinstance" none)(va:Nn K "max" none)(Dm:Nn K "sorted" none)(xk:Nn K "tuple" none)(Cr:Nn K "enumerate" none)(C8:Nn K "min" none)(uj:Nn K "ValueError" none):∃fd:FuncData,(∀(s:Shared)(v:Value),BindsTo s fd ⟨[v],[]⟩ [("script",v)])/\∀base:Heap,K.In base->base.Ns mainGlobals mg->FnOk l.prog w K mg base aJ 12 fa fd ["script"] (GX K):=by
 cases Cu.symm.trans (oU.m X G);have B:GD mg:=⟨z1.n X G,z2.n X G,z3.n X G,z4.n X G,z5.n X G,z6.n X G,z7.n X G,z8.n X G,z9.n X G,va.n X G⟩;obtain⟨g1,F1,b1,m1⟩:=d1.g1 X G "table";obtain⟨g2,a,b,m2⟩:=d2.g1 X G "table";obtain⟨g3,j,r,u⟩:=d3.g1 X G "table";obtain⟨g4,F4,b4,m4⟩:=d4.g2 X G "table" "columns";obtain⟨g5,J,M,N⟩:=d5.g2 X G "row" "columns";obtain⟨g6,F6,b6,m6⟩:=d6.g2 X G "row" "column";obtain⟨g7,c,d,f⟩:=d7.g1 X G "table";obtain⟨g8,F8,b8,m8⟩:=d8.g2 X G "table" "width";obtain⟨g9,F9,b9,m9⟩:=d9.g2 X G "table" "k";obtain⟨EW,z,O,Q⟩:=gT.g1 X G "table";obtain⟨E4,qJ,Ck,xi⟩:=xu.g2 X G "table" "paper";obtain⟨EJ,q9,wG,Cm⟩:=yt.g3 X G "turn" "back" "size";obtain⟨Fn,rJ,xU,yw⟩:=uM.g2 X G "table" "size";obtain⟨Fj,S,tu,qe⟩:=vS.g2 X G "steps" "most";obtain⟨EZ,T,sj,rj⟩:=tQ.g3 X G "numbers" "size" "width";obtain⟨D9,U,pI,rX⟩:=y7.g3 X G "numbers" "k" "width";obtain⟨Ew,A,Y,Z⟩:=xf.g1 X G "table";obtain⟨DK,sG,yM,yP⟩:=xD.g1 X G "table";obtain⟨DY,kL,pG,tF⟩:=y_.g2 X G "table" "width";obtain⟨DG,qU,y9,xZ⟩:=x5.g1 X G "table";obtain⟨Ef,kR,qg,o0⟩:=Ca.g1 X G "size";obtain⟨Ev,oj,sf,o_⟩:=uZ.g1 X G "table";obtain⟨EY,nj,rT,pz⟩:=BS.g1 X G "table";obtain⟨DN,rh,uH,Dd⟩:=vn.g2 X G "side" "width";obtain⟨EK,sO,vg,yl⟩:=xI.g1 X G "rows";obtain⟨E8,pH,BV,x4⟩:=ug.g2 X G "found" "row";obtain⟨E7,qo,ud,yq⟩:=tR.g3 X G "row" "found" "places";obtain⟨DP,x,C,D⟩:=wc.g3 X G "row" "often" "other";obtain⟨EU,s_,uD,vD⟩:=xt.g1 X G "row";obtain⟨ED,tG,Du,Cz⟩:=uO.g2 X G "one" "other";obtain⟨Eg,pq,Co,vm⟩:=w9.g4 X G "often" "row" "other_often" "other";obtain⟨Er,tj,BI,uf⟩:=w_.g2 X G "numbers" "rows";obtain⟨EN,qH,tZ,C9⟩:=wF.g2 X G "row" "found";obtain⟨Ex,rG,yd,uS⟩:=uV.g2 X G "side" "count";obtain⟨Eu,rL,yW,uq⟩:=Bp.g2 X G "one" "other";obtain⟨Et,sE,xF,vT⟩:=x9.g1 X G "table";obtain⟨Fx,pN,xL,yV⟩:=uG.g2 X G "table" "prime";obtain⟨DX,tw,Dn,xJ⟩:=vt.g1 X G "number";obtain⟨EL,k_,Bo,yy⟩:=tX.g2 X G "table" "goal";obtain⟨ET,y,mQ,g⟩:=u8.g2 X G "table" "goal";obtain⟨Ea,sx,wg,BM⟩:=xQ.g2 X G "paper" "goal";obtain⟨Ey,nS,rY,qf⟩:=vy.g2 X G "total" "number";obtain⟨DL,kB,tN,uT⟩:=w4.g4 X G "table" "goal" "weights" "number";obtain⟨DM,pb,yY,BJ⟩:=wm.g1 X G "number";obtain⟨D8,lW,vI,uh⟩:=wJ.g2 X G "table" "numbers";obtain⟨Fz,qx,yu,BW⟩:=wM.g1 X G "table";obtain⟨FC,kK,p8,qy⟩:=wp.g1 X G "paper";obtain⟨EF,xO,Cc,vq⟩:=uA.g2 X G "script" "k";obtain⟨DO,tY,Cb,vo⟩:=BX.g1 X G "cell";obtain⟨En,rz,oY,qS⟩:=vC.g2 X G "box" "most";obtain⟨D_,qX,vR,CZ⟩:=BL.g3 X G "box" "columns" "wide";obtain⟨EA,o7,vX,tJ⟩:=B_.g1 X G "e";obtain⟨DT,p9,vU,vZ⟩:=uy.g3 X G "way" "table" "prime";obtain⟨Eb,qK,CY,yK⟩:=yJ.g3 X G "way" "table" "goal";obtain⟨EC,oV,tO,y6⟩:=Cd.g4 X G "way" "table" "goal" "prime";obtain⟨⟨gL,FL⟩,_⟩:=oU;refine⟨gL,?_,fun base _ _=>?_⟩
 ·obtain⟨_,_,_,_,_,_,_,_,_,rfl,_,_⟩:=FL.ex;exact fun s v=>.of_eq rfl
 have mh:=Dm.n X G;have ui:=xk.n X G;have mP:=Cr.n X G;have oA:=C8.n X G;have nr:=gr.m X G;have nc:=gc.m X G;have q:=HS (P:=l.prog) (w:=w) (mg:=mg) (base:=base) a B.len;have Gi:=Pw (P:=l.prog) (w:=w) (mg:=mg) (base:=base) F1 B.len B.all nr nc a b m2;have L:=RU j F1 b1 m1 Gi;have oX:=PD (P:=l.prog) (w:=w) (mg:=mg) (base:=base) F8 B.range F9 b9 m9;have o:=PH c B.len F8 b8 m8 oX a b m2;have oS:=QW (P:=l.prog) (w:=w) (mg:=mg) (base:=base) F6 B.zip B.sum;have lE:=QY J F6 b6 m6 oS;have rA:=Q0 F4 J M N lE;have E:=PQ (P:=l.prog) (w:=w) (mg:=mg) (base:=base) x B.zip;have x_:=PU (P:=l.prog) (w:=w) (mg:=mg) (base:=base) pq B.zip;have xx:=PX (P:=l.prog) (w:=w) (mg:=mg) (base:=base) s_;have vx:=P0 (P:=l.prog) (w:=w) (mg:=mg) (base:=base) tG B.zip ui;have Bw:=P_ qo x C D E;have BZ:=P' qH mh x C D E;have vK:=QE pH mh B.range B.len qo ud yq Bw s_ uD vD xx tG Du Cz vx pq Co vm x_;have wn:=QF sO pH BV x4 vK;have Bz:=QI tj B.zip a b m2 q x C D E;have qO:=QK (P:=l.prog) (w:=w) (mg:=mg) (base:=base) U B.len;have oZ:=QM T B.range U pI rX qO;have Gu:=QP kR T sj rj oZ;have BC:=Q3 (P:=l.prog) (w:=w) (mg:=mg) (base:=base) rJ B.len B.all;have qv:=Q7 (P:=l.prog) (w:=w) (mg:=mg) (base:=base) S B.len B.all B.zip;have wl:=Q_ rh B.zip mh sO vg yl wn c d f o tj BI uf Bz qH tZ C9 BZ;have t9:=Rb rG B.range B.list x C D E;have tE:=Rf oj B.all mP B.len U pI rX qO;have oW:=Rh (P:=l.prog) (w:=w) (mg:=mg) (base:=base) nj mP B.len;have Do:=Rk qU B.len oj sf o_ tE nj rT pz oW S tu qe qv;have qb:=RG kL B.len rh uH Dd wl kR qg o0 Gu F8 b8 m8 oX c d f o qU y9 xZ Do oj sf o_ tE nj rT pz oW rG yd uS t9;have om:=RV z j r u L kL pG tF qb a b m2 q;have kC:=RW A z O Q om;have wO:=RX sG B.len A Y Z kC;have yo:=RZ q9 rJ xU yw BC F4 b4 m4 rA c d f o kR qg o0 Gu;have B3:=R1 qJ B.len oA j r u L q9 wG Cm yo a b m2 q S tu qe qv F4 b4 m4 rA c d f o T sj rj oZ;have uN:=R8 (P:=l.prog) (w:=w) (mg:=mg) (base:=base) qX B rz oY qS;have q_:=Sj (P:=l.prog) (w:=w) (mg:=mg) (base:=base) nS;have BF:=Sm (P:=l.prog) (w:=w) (mg:=mg) (base:=base) pb;have pf:=Sn y B.len j r u L;have vM:=So sx B.len B.zip mP B.list J M N lE nS rY qf q_;have yX:=Sq k_ y mQ g pf sx wg BM vM kL pG tF qb a b m2 q;have BP:=Ss kB B.len B.all y mQ g pf pb yY BJ BF nS rY qf q_ F6 b6 m6 oS c d f o;have yO:=Sw lW B.len j r u L a b m2 q J M N lE;have qM:=Sy kK B.len c d f o;have wj:=Sz qx kK p8 qy qM z O Q om;have mT:=pK.m X G;have mG:=qc.m X G;have mN:=sK.m X G;have p:=gv j r u (SE (Px j mT q0 F1 b1 m1 Gi));have CT:=gv sE xF vT (SG p sE c d f o);have CP:=gv rL yW uq (SK p rL);have CS:=SM z O Q om p
 have CI:=SV qJ Ck xi B3 p;have CF:=SQ A Y Z kC CS;have CR:=SU sG B.len yM yP wO CF;have tS:=SY (P:=l.prog) (w:=w) (mg:=mg) (base:=base) tw B.all B.range (gp.m X G);have CB:=gv pN xL yV (S3 pN B.len mN q2 p tw Dn xJ tS A Y Z kC);have CL:=SR qx yu BW wj kK p8 qy qM CS;have CG:=gv y mQ g (S7 y B.len mG q1 p);have CV:=JF k_ Bo yy yX (S8 CG k_);have CN:=JF kB tN uT BP (S9 CG kB);have CW:=JF lW vI uh yO (S_ lW B.len mG q1 p a b m2 q);have C1:=gv p9 vU vZ (Tf p9 CT CP CS CI CF CR CB);have C2:=gv qK CY yK (Th qK CL CV CN CW);have vf:=Tc (P:=l.prog) (w:=w) (mg:=mg) (base:=base) o7 B.isinstance (uj.n X G) (pK.m X G) (qc.m X G) (sK.m X G) (Dc.m X G) (tV.m X G) (CK.m X G);have Dy:=Ti oV (uB.m X G) M0 M1 M2 S0 S1 S2 C1 C2 o7 vX tJ vf;exact Tt FL B xO Cc vq tY Cb vo rz oY qS qX vR CZ uN oV tO y6 Dy
def walk{l:PySem.W.OpenLaw}{q:Program}{g:List Str}{p:(Str->Option Value)->Heap->Prop}{b:World->Heap->Prop}{d:DefRec}{K:Params->Ab}(i:l.most=some 63)(j:d.params.defaults=[])(o:∀(w:World)(h:Heap),b w h->(K w.params).In h)(F:∀(w:World)(mg:Str->Option Value)(fa:Addr)(h:Heap),(K w.params).In h->h.Ns mainGlobals mg->mg d.name=some (.ref fa)->
   ∃fd:FuncData,(∀(s:Shared)(u:Value),BindsTo s fd ⟨[u],[]⟩ [("script",u)])/\∀base:Heap,(K w.params).In base->base.Ns mainGlobals mg->FnOk l.prog w (K w.params) mg base aJ 12 fa fd ["script"] (GX (K w.params))):
  PySem.W.WalkO q g p b l.row.toRowW d [] (fun f vs=>PySem.call f vs):=
 L2.Kg (n:=63) (k:=12) (x:="script") (CX:=fun _=>aJ) (sp:=fun w=>GX (K w.params)) i ξ j ⟨rfl,ξ,ξ⟩ o F (fun _ _ a ns c _ e=>⟨a,ns,rfl,e,c,fun _=>rfl⟩) fun _ _ _ _ _ z=>z
end K27
open PySem PySem.W PyProof.Rows
structure PySem.W.Fast:Prop where
 (tw10027699604594594931 tw10031667213861887462 tw10039116036998808390 tw10044261283350227401 tw10098229783382583202 tw10145377464608533048 tw10167324775814184712 tw1022389927683873872 tw10263797995087378019 tw10298464759252312452 tw10304600200781205214 tw1034358709665696178 tw10530170734380117418 tw10646144130123655717 tw10649589748274107907 tw10659905135873318806 tw10686294550002178260 tw10716759987196118880 tw10747018375295013650 tw10750388008149367935 tw10777326496759942090 tw10785794664053307031 tw10910098785752616926 tw10918889168587779826 tw10952146118592214651 tw10963340608960866198 tw10965291713269869974 tw11029539900670546657 tw11053302817592707318 tw11072762362927120350 tw11090797555969665453 tw11123705424111082606 tw11150028198099374326 tw11159184713264053113 tw1118072737421765546 tw11197777771057429220 tw11199048887074277278 tw11199859531005931062 tw11216375504840880620 tw11263657700063230546 tw11307547807789196211 tw1133203871415299166 tw11334398226792281769 tw11391614302152776833 tw11548727469697256523 tw11557906284024369079 tw11722489655467123895 tw11768267621448711806 tw11785610027397481497 tw11816317680426739613 tw11889996663333006562 tw11909151770780697811 tw1192041613338311866 tw11921395646158960656 tw11928666329099584355 tw11937628631077704747 tw11946111447755517396 tw12030258285005256507 tw12032340124324800677 tw12195155379891471995 tw12265533928334454799 tw1229256857679654062 tw12309935356015249692 tw1234060185752168369 tw12439849759255322282 tw12448181026790999737 tw12452740017916635199 tw12516453801944937241 tw12546953451954306448 tw12566148027031149471 tw12628045382016638963 tw1263835955389288840 tw12668870672974217001 tw12739326610508808326 tw12797763624190502444 tw12941512412374649567 tw13158130267887984499 tw13158822645786323198 tw13182651305108240631 tw13192405851395114238 tw1321130144318881270 tw13215161529378039351 tw13217787259207625752 tw13233409980535387717 tw1324439567157001834 tw13252124511341950367 tw13309371229281938824 tw13330928372267870585 tw13355657566476557553 tw13411234904889486877 tw13428357298794007189 tw13561506108209525329 tw1357980815991231037 tw13581086666508850605 tw13673323008492118943 tw13676837507003409254 tw13727759092265358153 tw13745592586848676632 tw13762999296361563728 tw13789879877441736623 tw13839936210214048831 tw13916290015569685220 tw13919490338027556991 tw1399341941524698467 tw14008962079802793002 tw14012097375188840351 tw14055918991818853971 tw14056982867237474617 tw14102583998959961240 tw14111459929881145749 tw14145801055180297903 tw14203140540678520728 tw14255665576574499701 tw14269001088271867788 tw14291636459076092760 tw14306353566478462925 tw14342076217389566159 tw14370632194020213530 tw14376333354881899633 tw14381770232741313274 tw14382779915578621361 tw14440772591698758439 tw14472111387183429338 tw14538983252115923541 tw14578388440451590931 tw14586134326465668538 tw14644597498882932063 tw14663037366929066698 tw14697531588986565769 tw14709809016380678905 tw14748067495954246975 tw14748493515330545396 tw14757751455598800500 tw14799253170715498471 tw14802004661749346718 tw14808122906606017276 tw14855555686660218707 tw1491355601900738886 tw14917644809883113839 tw14975267463628018651 tw14979927690564259730 tw15243153184422114556 tw15246486943694352394 tw1524793492423935063 tw15252263731376593176 tw15319461619912997257 tw15356910609103944554 tw154095245167245941 tw15467722786194657279 tw15561031049701527782 tw15591265768625914678 tw15750135806345099983 tw1576771887378728628 tw15853074062643363482 tw1589312293737660812 tw15925442833908817802 tw15942463822886468784 tw15951639706428505367 tw15967380390594093806 tw16023223118838516389 tw16047119302844252293 tw16069547487870822436 tw16092983516792464721 tw16098150720352728505 tw16115642165926423287 tw1614804143495563670 tw16151239757568837044 tw16159040400512254057 tw16175281819086606559 tw16176046658516310016 tw16211721899750158684 tw16217433266469042730 tw16245658290296366102 tw16298855745348494558 tw16434753931184412021 tw16518917429356198908 tw16530523481254540519 tw16575557952880936727 tw16650617870033977546 tw16660425375982688179 tw16681047060227891032 tw16785392783861747824 tw16821215423210201200 tw16832682312345903567 tw16852211202384763835 tw16867184570463594648 tw16899678734512552161 tw17082750711170316246 tw17169175094476965680 tw17172082018258890012 tw17193869685685834615 tw17203387757012933302 tw17242733382604735959 tw1737754120235217526 tw17385988384677465284 tw17475772169372252297 tw17531593384046496956 tw17550291233239020938 tw17565109126068042657 tw17644045376935843698 tw17718339845080472074 tw17754191367222582294 tw17856016069476371734 tw17903880152357219166 tw17934856225156880897 tw17992797774210620447 tw18032554998780792836 tw18181862423581035955 tw18279522701609695731 tw18309056700582996968 tw18334422392069047118 tw18352307413852728652 tw18354678241935352019 tw18369811703840625314 tw1838360014539519801 tw18388711116443256040 tw18398015906846402028 tw18401506656875629902 tw18406954585936773754 tw18407376882049756622 tw18428642140325952948 tw1855539093537728592 tw1856104744653264701 tw1884257508273936325 tw1908073305812874944 tw1960818225807364855 tw2050215772605801112 tw2069207640525787801 tw2213931749954429258 tw2234854234822095586 tw2249050171410785008 tw2252927018427350955 tw2293333365866655503 tw2304764779964410119 tw2307681687008284811 tw2338688647335533488 tw236113645367409036 tw239437333953540207 tw2407934420506508857 tw2417236939367765225 tw2421325986363840372 tw2616741309905128366 tw2631376650548179848 tw2636081004847795908 tw2666225594498229815 tw2677940471935902727 tw2698460572245811358 tw2713337921879589188 tw2777476720454464063 tw2781140678512144679 tw2795383284573827199 tw2802986682740267296 tw281273363414222347 tw2837162566781555683 tw293819831131552745 tw2941509224734237529 tw3010431734212955690 tw3015860948351559010 tw3038440707050622022 tw30425969639232882 tw3051985709903067489 tw3118940669847335658 tw3124866864223740562 tw3149679082421142605 tw3182752137026522335 tw3257105233706045082 tw3349678798735676108 tw3372557991627430210 tw3385324787557539478 tw3392458085903554924 tw34205863992124676 tw3474803012029834839 tw3560654920551067987 tw3565973603761267797 tw3582256612336315004 tw3591783152329547325 tw364809638722113550 tw3683938545346517670 tw369129763653737482 tw374972324579618452 tw3808110279426763485 tw3837695771161666131 tw3853795043159078520 tw3876062023018855586 tw397102984436348124 tw4002553319088532977 tw4109780416342680133 tw4269744437249098932 tw432565426058992869 tw4340568593246503519 tw4344673103031320702 tw4360455719251708040 tw451489395487093820 tw4539779463735265326 tw4587962242450926984 tw4588445177397525537 tw4625721765744777364 tw4671318879592000159 tw4723426734657640199 tw475515356209130541 tw478324419652689458 tw4799953775727116207 tw4833082830594535744 tw4889921971997680833 tw4994967365166398247 tw5006742571158980059 tw5029344629335803343 tw5034214688209001043 tw5040437451462448133 tw5101269489895413449 tw5104517385161905329 tw5133268893021623819 tw523282271390478745 tw5335367869222854831 tw5340952331051270343 tw5378060454628739310 tw5421691133012689958 tw5448278497779893984 tw5480164125483824890 tw5533619298937247278 tw5550689658295134535 tw5624204794901261395 tw564410243372515739 tw5735365588764160776 tw5747424325566225991 tw5789523636365544166 tw5819695866726518830 tw5843417694262482096 tw584610130605702610 tw5925458535474527565 tw594855378311959021 tw5960049482943190225 tw6039139324721742192 tw6055139810615864277 tw6064481010421230886 tw6065591343401056441 tw6080968208434879671 tw6090927483672357304 tw6146059124642575716 tw6190391209322522279 tw6192167730870589103 tw6222078122747837719 tw6304642286400562111 tw6309415155771804170 tw631531248193357113 tw6394807561945083800 tw6414599462435132282 tw6421938065795460584 tw6454347811110085896 tw6538341620968023207 tw6552681966735034113 tw6576960516988216220 tw6607210982899315375 tw6609160241503836953 tw6621029438884780059 tw6685697728121850284 tw6724857685231953374 tw6734906872236275039 tw6842723072910448909 tw6854995794292649236 tw6927488683118469198 tw7023793481909147848 tw7202972025816024738 tw7281073221521573598 tw728930945243665005 tw7373738919518221830 tw7424798877055050638 tw7516101327235045140 tw7522172375993148552 tw7580485370558404755 tw7617095305611715048 tw768533948403705342 tw7723956559075299990 tw7827003338686650064 tw7885314127902736474 tw7892433994572306953 tw7923968719185988451 tw7997619100183354343 tw8010667496623965338 tw8016881112848631143 tw8140247466720347087 tw8159196034060112243 tw8196915168136150649 tw8229028152940479737 tw8238840952635557795 tw8246042184408760341 tw8331934323955000133 tw8404955637306150945 tw8466567813322709365 tw8499155056403407773 tw8507824956062402904 tw8552956312502728885 tw856203418684259052 tw8630609719120855755 tw8637821934898170522 tw8651354592166284371 tw8729277841166605794 tw8735777917624860378 tw8746257350511202694 tw8816149795075752930 tw8840241386520544959 tw8986353690056100239 tw9056512296810958637 tw9061844675129190934 tw9067163347722044638 tw9124078843742429791 tw917227976833315027 tw934274396479204430 tw9412888598969529714 tw9449745605952398275 tw9451856206080041747 tw9492407738627321337 tw9595357606376852370 tw959967681199428148 tw960595704253422112 tw9613314603399779533 tw9635873833419340641 tw9668331270138608612 tw9676391361814013338 tw9687186795734038925 tw9715680980644902761 tw9718210473360407083 tw975476691583214218 tw9798170907544058985 tw9831113246301032358 tw9864631803480910543 tw9880601892981065466 tw9985006450612126925 tw9985388963001467796 tw9987311755350597802:True)
set_option maxRecDepth 100000 in
set_option maxHeartbeats 0 in
theorem PySem.Challenge.cw_seamwright_k27_tables_refused_everywhere_holds : PySem.Challenge.rw_seamwright_k27_tables_refused_everywhere.Holds := by
 w_on; o_law; k_head; (case hw=>w_witness2)
 k_fill
 refine K27.walk (l:=PySem.Challenge.rw_seamwright_k27_tables_refused_everywhere) rfl rfl (fun w h Y=>PySem.W.kIn_of Y) ?F
 case F=>
  intro w mg fa h KX G gN;refine' K27.Tu KX G gN ?_ ?_ ?_ ?_ ?_ ?_ ?_ ?_ ?_ ?_ ?_ ?_ ?_ ?_ ?_ ?_ ?_ ?_ ?_ ?_ ?_ ?_ ?_ ?_ ?_ ?_ ?_ ?_ ?_ ?_ ?_ ?_ ?_ ?_ ?_ ?_ ?_ ?_ ?_ ?_ ?_ ?_ ?_ ?_ ?_ ?_ ?_ ?_ ?_ ?_ ?_ ?_ ?_ ?_ ?_ ?_ ?_ ?_ ?_ ?_ ?_ ?_ ?_ ?_ ?_ ?_ ?_ ?_ ?_ ?_ ?_ ?_ ?_ ?_ ?_ ?_ ?_ ?_ ?_ ?_ ?_ ?_ ?_ ?_ ?_ ?_ ?_ ?_ ?_ ?_
  all_goals try first | refine' L2.JG ?_ ?_ ?_ ?_ | refine' L2.Nn.mk ?_ | refine' K27.Ta ?_ ?_ ?_ ?_ ?_ ?_ ?_ ?_ ?_ ?_ ?_ ?_ ?_ ?_ ?_ | refine' L2.Pb ?_ ?_ ?_
  all_goals try first | k_is | kit_is | k_exc
#print axioms PySem.Challenge.cw_seamwright_k27_tables_refused_everywhere_holds
end
