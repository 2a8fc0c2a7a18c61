import PyProof.Rows.All
import Wide.All
import OpenK.AllK
import Wide.FinOn
import Lean
import PyProof.EqAt
import PyProof.EqKinds
import PyProof.TupleCall
import PyProof.StationsW
import PyProof.ExcClass3
import OpenK.KOwn
import PyProof.ExcArgsOwn
import KE.KListMore
import KE.KIntText
import KE.KEqDat
import PyProof.MinMaxWalk
import PyProof.SumAny
import PyProof.Rows.SortRuns
import KE.KSortKey
import PyProof.Rows.CallKwBuiltin
import PySem.SetTable
import PyProof.Rows.SetFrom
import PyProof.TupleKey
import PyProof.IsRules
import KE.KRevIter
import PyProof.ListRange
import PyProof.TupleOfGen
import PyProof.CollectIter
import PySem.Challenge.RW_seamwright_k28_whole_steps_stay
import PyProof.FactsAll.set_2
import PyProof.FactsAll.subtypes_5
import KE.KDictList
import KE.KDictSum
import KE.KDictLaws
import PyProof.Rows.Range3
import KE.KStateDown
open List renaming length_map->Aa,getD_eq_getElem?_getD->Ab,getElem?_eq_getElem->Ac,range->Ag,getElem?_map->Aj,mem_of_getElem?->Al,replicate->An,map_append->Ap,take_of_length_le->Ar,size_toArray->Av,getElem_mem->Ay,length_zipWith->Az,mem_append_right->AA,mem_cons_self->AC,zipWith->AD,mem_cons_of_mem->AG,eq_nil_of_length_eq_zero->AH,length_cons->AI,length_append->AK,mem_or_eq_of_mem_set->AL,getElem?_range->AR,map_map->AS,getElem_map->AU,ext_getElem->AV,getElem_zipWith->AX,map_cons->AY,length_range->AZ,getElem_range->A4,getElem_of_mem->A5,length_replicate->A7,map_congr_left->A8,pairwise_cons->A9,lookup_cons->Bg,all_eq_true->Bh
open Nat renaming le_refl->Ad,le_trans->Ae,mul_le_mul_left->Ak,mul_le_mul_right->Am,lt_of_lt_of_le->At,lt_of_le_of_lt->Au,zero_le->Aw,pow_le_pow_right->Ax,ne_of_lt->AB,mul_assoc->AN,mul_le_mul->AO,one_le_two_pow->AQ,le_add_right->A6,lt_or_ge->Bb
open PySem renaming wpAny_bind->Af,wpAny_pure->Ao,bootBuiltins->Bk
open PySem.W renaming Frag->Ah
open PySem.Heap renaming get?_push_of_some->Ai,lt_size->Aq,get?_push_size->AM
open Bool renaming false_ne_true->AE
open Int renaming natAbs_mul->AF,mul_assoc->AT,mul_zero->Ba,mul_comm->Be,toNat_natCast->Bj
open Classical renaming byContradiction->AJ
open Option.some renaming inj->AW
open PySem.NameKind renaming free->Bi
set_option linter.all false
set_option Elab.async false
set_option maxRecDepth 100000
set_option maxHeartbeats 4000000
def δ{p:Prop}(h:p:=by decide +kernel):p:=h
def ω{p:Prop}(h:p:=by (first|lia|omega)):p:=h
def ξ{p:Prop}(h:p:=by decide):p:=h
abbrev Ω:=PySem.Value->PySem.Shared->Prop
abbrev Ξ:=List (List Int)
abbrev Ψ:=List (PySem.Addr×PySem.Obj)
local macro_rules|`($s⁻¹)=>`(($s).heap.objs.size)
section
namespace L2
open PySem PySem.Spec PyProof.Rows
abbrev Key:=Sum Int Str
def mP:Key->Value->Bool
 |.inl k,v=>Value.isInt k v
 |.inr x,v=>Value.isStrOf x v
def Co(w:World):Key->Int
 |.inl k=>hashInt k
 |.inr x=>hashStr w x
def aA:∀{k:Key}{v:Value},mP k v=true->(∃i t,k=Sum.inl i/\v=Value.int i t)\/(∃x t,k=Sum.inr x/\v=Value.str x t)
 |.inl i,v,h=>by
  obtain⟨t,e⟩:=Value.isInt_shape (k:=i) (v:=v) h;exact .inl ⟨i,t,rfl,e⟩
 |.inr x,v,h=>by
  obtain⟨t,e⟩:=Value.isStrOf_shape (x:=x) (v:=v) h;exact .inr ⟨x,t,rfl,e⟩
def IW(i:Int)(t:Tok):mP (.inl i) (.int i t)=true:=by simp[mP,Value.isInt]
def IX(x:Str)(t:Tok):mP (.inr x) (.str x t)=true:=by simp[mP,Value.isStrOf]
def IY(a b:Int):decide ((Sum.inl a:Key)=Sum.inl b)=(a==b):=by
 by_cases e:a=b
 ·subst e;simp
 ·have h:¬(Sum.inl a:Key)=Sum.inl b:=fun q=>e (Sum.inl.inj q)
  rw[decide_eq_false h];exact(beq_eq_false_iff_ne.mpr e).symm
def IZ(a b:Str):decide ((Sum.inr a:Key)=Sum.inr b)=decide (a=b):=by
 by_cases e:a=b
 ·subst e;simp
 ·have h:¬(Sum.inr a:Key)=Sum.inr b:=fun q=>e (Sum.inr.inj q)
  rw[decide_eq_false h,decide_eq_false e]
def I0(a:Int)(b:Str):decide ((Sum.inl a:Key)=Sum.inr b)=false:=decide_eq_false (fun q=>nomatch q)
def I_(a:Str)(b:Int):decide ((Sum.inr a:Key)=Sum.inl b)=false:=decide_eq_false (fun q=>nomatch q)
def dR(prog:Program)(w:World):PySem.KeyKind prog w Key where
 is:=mP
 hash:=Co w
 inj:=fun v a b d hb=>by
  rcases aA d with ⟨i,t,rfl,rfl⟩|⟨x,t,rfl,rfl⟩
  ·rcases aA hb with ⟨j,u,rfl,e⟩|⟨y,u,rfl,e⟩
   ·injection e with e1 _;rw[e1]
   ·exact nomatch e
  ·rcases aA hb with ⟨j,u,rfl,e⟩|⟨y,u,rfl,e⟩
   ·exact nomatch e
   ·injection e with e1 _;rw[e1]
 byValue:=fun k v h=>by
  rcases aA h with ⟨i,t,rfl,rfl⟩|⟨x,t,rfl,rfl⟩<;>rfl
 pyHash:=fun c h=>by
  rcases aA c with ⟨i,t,rfl,rfl⟩|⟨x,t,rfl,rfl⟩
  ·exact wpAny_pyHash_int h
  ·exact wpAny_pyHash_str h
 eqBool:=fun f c h=>by
  rcases aA f with ⟨i,t,rfl,rfl⟩|⟨x,t,rfl,rfl⟩
  ·rcases aA c with ⟨j,u,rfl,rfl⟩|⟨y,u,rfl,rfl⟩
   ·rw[IY] at h;exact wpAny_eqBool_int h
   ·rw[I0] at h;exact SeqAt.EqAt.int_str i t y u _ _ _ _ h
  ·rcases aA c with ⟨j,u,rfl,rfl⟩|⟨y,u,rfl,rfl⟩
   ·rw[I_] at h;exact SeqAt.EqAt.str_int x t j u _ _ _ _ h
   ·rw[IZ] at h;exact wpAny_eqBool_str h
 «strs»:=fun k x t v h=>by
  rcases aA h with ⟨i,u,rfl,e⟩|⟨y,u,rfl,e⟩
  ·exact nomatch e
  ·injection e with e1 _
   subst e1;cases v<;>rfl
def Ja(prog:Program)(w:World)(i:Int)(t:Tok):(dR prog w).is (.inl i) (.int i t)=true:=IW i t
def Jb(prog:Program)(w:World)(x:Str)(t:Tok):(dR prog w).is (.inr x) (.str x t)=true:=IX x t
inductive V where
 |non|bl (b:Bool)|int (i:Int)|str (x:Str)|byt (b:Array UInt8)|flt (b:UInt64)|ref (a:Addr)|ty (n:String)
 deriving DecidableEq
def RelV:V->Value->Prop
 |.non,u=>u=Value.none
 |.bl b,u=>u=Value.bool b
 |.int i,u=>∃t,u=Value.int i t
 |.str x,u=>∃t,u=Value.str x t
 |.byt b,u=>∃t,u=Value.bytes b t
 |.flt b,u=>∃t,u=Value.float b t
 |.ref a,u=>u=Value.ref a
 |.ty n,u=>u=Value.type n
abbrev Vals:List V->List Value->Prop:=Paired RelV
def Vals.length{xs:List V}{us:List Value}(r:Vals xs us):xs.length=us.length:=Paired.length r
def Vals.get:∀{xs:List V}{us:List Value}{i:Nat}{x:V},Vals xs us->xs[i]?=some x->∃u,us[i]?=some u/\RelV x u
 |_,_,_,_,.nil,e=>by simp at e
 |_,_,0,_,.cons r _,e=>by simp at e;subst e;exact⟨_,rfl,r⟩
 |_,_,i+1,x,.cons _ t,e=>by
  obtain⟨u,h1,h2⟩:=Vals.get (i:=i) (x:=x) t (by simpa using e);exact⟨u,by simpa using h1,h2⟩
def Vals.set{x:V}{u:Value}(r:RelV x u):∀{xs:List V}{us:List Value}(i:Nat),Vals xs us->Vals (xs.set i x) (us.set i u)
 |_,_,_,.nil=>.nil
 |_,_,0,.cons _ t=>.cons r t
 |_,_,i+1,.cons q t=>.cons q (Vals.set r i t)
def Vals.append{xs ys:List V}{us a:List Value}(h:Vals xs us)(g:Vals ys a):Vals (xs++ys) (us++a):=by
 induction h with
 |nil=>exact g
 |cons r _ ih=>exact .cons r ih
def Vals.take:∀{xs:List V}{us:List Value}(n:Nat),Vals xs us->Vals (xs.take n) (us.take n)
 |_,_,0,_=>.nil
 |_,_,_+1,.nil=>.nil
 |_,_,n+1,.cons r t=>.cons r (Vals.take n t)
def Vals.drop:∀{xs:List V}{us:List Value}(n:Nat),Vals xs us->Vals (xs.drop n) (us.drop n)
 |_,_,0,r=>r
 |_,_,_+1,.nil=>.nil
 |_,_,n+1,.cons _ t=>Vals.drop n t
def RelO:Option V->Option Value->Prop
 |some v,some u=>RelV v u
 |none,none=>True
 |_,_=>False
def KV{κ:Type}:List (κ×V)->List (κ×Value)->Prop:=Paired fun(p:κ×V)(q:κ×Value)=>p.1=q.1/\RelV p.2 q.2
def kV:Key->V
 |.inl i=>.int i
 |.inr x=>.str x
inductive HO where
 |lst (xs:List V)
 |tup (xs:List V)
 |dK (kvs:List (Key×V))|dT (kvs:List (List Key×V))
 |set (S:Int->Bool) (n:Nat)
 |ins (C dx:Addr) (fs:List (Str×V))
 |own (x:Addr)
 |xd (fs:List (Str×V))
 |met (f x:Addr)
 |rng (lo hi:Int)
 |frz (o:Obj) (u:HO)
 |tbl (ps:Array Value)
 |ext (φ:Heap->Prop)
abbrev Hp:=Addr->Option HO
def upd(H:Hp)(a:Addr)(o:HO):Hp:=fun b=>if b=a then some o else H b
def zb{H:Hp}{a:Addr}{o:HO}:upd H a o a=some o:=by unfold upd;rw[if_pos rfl]
def ag{H:Hp}{a b:Addr}{o:HO}(h:b≠a):upd H a o b=H b:=by unfold upd;rw[if_neg h]
def Cp{H:Hp}{a b:Addr}{o u:HO}(h:H a=some o)(h':H b=some u)(d:o≠u):a≠b:=by
 intro e;subst e;rw[h] at h';exact d (AW h')
def zk{H:Hp}{a b:Addr}{o:HO}(h:H a=some o)(h':H b=none):a≠b:=by
 intro e;subst e;rw[h] at h';cases h'
section
variable(P:Program)(w:World)
def zak(H:Hp)(h:Heap)(a:Addr):HO->Prop
 |.lst xs=>xs.length<=sizeLine/\∃(b:List Value)(n:Nat),Vals xs b/\h.get? a=some {cls:=.type "list",data:=.seq b.toArray n}
 |.tup xs=>xs.length<=sizeLine/\∃b:List Value,Vals xs b/\IsTup h a b.toArray
 |.dK kvs=>kvs.length<=sizeLine/\(a==sysModules)=false/\∃vs,KV kvs vs/\h.DictOf (dR P w) a vs
 |.dT kvs=>kvs.length<=sizeLine/\(a==sysModules)=false/\∃xs:List (List Key×Addr×Value),
   Paired (fun(p:List Key×V)(q:List Key×Addr×Value)=>p.1=q.1/\H q.2.1=some (.tup (p.1.map kV))/\RelV p.2 q.2.2) kvs xs/\
   ∃o es ep,h.get? a=some o/\o.ExactDict/\o.data=.dict es ep/\es.toList=xs.map (entryOfKey (tupleKind (dR P w)))/\(xs.map (·.1)).Nodup
 |.set S n=>h.SetOf (intKind P w) a S n
 |.ins C dx fs=>H dx=some (.own a)/\fs.length<=1000/\dx≠a/\h.get? a=some (PySem.W.instObj C dx)/\
   ∃mA,h.Ns1 dx mA/\(∀f,RelO (fs.lookup f) (mA f))/\PySem.Within mA (fs.map (·.1))
 |.own _=>∃o,h.get? a=some o
 |.xd fs=>∃mA,h.Ns1 a mA/\∀f,RelO (fs.lookup f) (mA f)
 |.rng lo hi=>∃t u v,h.get? a=some {cls:=.type "range",data:=.fields #[.int lo t,.int hi u,.int 1 v]}
 |.frz o u=>h.get? a=some o/\zak H h a u
 |.tbl ps=>h.get? a=some {cls:=.none,data:=.fields ps}
 |.met f x=>h.get? a=some (PySem.W.methodObj (.ref f) (.ref x))
 |.ext φ=>φ h/\(∃o,h.get? a=some o)/\∀h1 h2:Heap,φ h1->(∀o,h1.get? a=some o->h2.get? a=some o)->φ h2
def HOk(H:Hp)(h:Heap):Prop:=∀a o,H a=some o->zak P w H h a o
end
section
variable{P:Program}{w:World}{H H':Hp}{h h':Heap}{a:Addr}{o:HO}
def zak.lt(x:zak P w H h a o):a<h.objs.size:=by
 cases o with
 |lst xs=>obtain⟨_,_,_,_,e⟩:=x;exact Aq e
 |tup xs=>obtain⟨_,_,_,p⟩:=x;exact p.lt
 |dK kvs=>obtain⟨_,_,_,_,o,_,_,e,_⟩:=x;exact Aq e
 |dT kvs=>obtain⟨_,_,_,_,o,_,_,e,_⟩:=x;exact Aq e
 |set S n=>obtain⟨o,_,_,_,e,_⟩:=x;exact Aq e
 |ins C dx fs=>obtain⟨_,_,_,e,_⟩:=x;exact Aq e
 |own y=>obtain⟨_,e⟩:=x;exact Aq e
 |xd fs=>obtain⟨_,⟨_,_,_,e,_⟩,_⟩:=x;exact Aq e
 |rng lo hi=>obtain⟨_,_,_,e⟩:=x;exact Aq e
 |frz ob u=>obtain⟨e,_⟩:=x;exact Aq e
 |tbl ps=>exact Aq (show h.get? a=some _ from x)
 |met f y=>exact Aq (show h.get? a=some _ from x)
 |ext φ=>obtain⟨_,⟨_,e⟩,_⟩:=x;exact Aq e
def Paired.mapP{c d:Type}{F G:c->d->Prop}{e:List c}{l₂:List d}(h:Paired F e l₂)(f:∀a b,F a b->G a b):Paired G e l₂:=by
 induction h with
 |nil=>exact .nil
 |cons r _ ih=>exact .cons (f _ _ r) ih
def zak.stay(x:zak P w H h a o)(k:∀b u,(b=a\/H b=some (.own a))->h.get? b=some u->h'.get? b=some u)(l:∀b,H b=some (.own a)->H' b=some (.own a))(s:∀b xs,H b=some (.tup xs)->H' b=some (.tup xs)):zak P w H' h' a o:=by
 induction o with
 |lst xs=>obtain⟨z,i,n,r,e⟩:=x;exact⟨z,i,n,r,k _ _ (.inl rfl) e⟩
 |tup xs=>obtain⟨z,i,r,g,e,c⟩:=x;exact⟨z,i,r,g,k _ _ (.inl rfl) e,c⟩
 |dK kvs=>obtain⟨z,y,vs,r,g,es,ep,e,c⟩:=x;exact⟨z,y,vs,r,g,es,ep,k _ _ (.inl rfl) e,c⟩
 |dT kvs=>
  obtain⟨z,y,xs,r,g,es,ep,e,c⟩:=x;exact⟨z,y,xs,Paired.mapP r fun p q z=>⟨z.1,s _ _ z.2.1,z.2.2⟩,g,es,ep,k _ _ (.inl rfl) e,c⟩
 |set S n=>obtain⟨g,es,ep,t,e,c⟩:=x;exact⟨g,es,ep,t,k _ _ (.inl rfl) e,c⟩
 |ins C dx fs=>
  obtain⟨d,z,ne,e,mA,⟨j,es,ep,e2,c⟩,r⟩:=x;exact⟨l _ d,z,ne,k _ _ (.inl rfl) e,mA,⟨j,es,ep,k _ _ (.inr d) e2,c⟩,r⟩
 |own y=>obtain⟨g,e⟩:=x;exact⟨g,k _ _ (.inl rfl) e⟩
 |xd fs=>obtain⟨mA,⟨j,es,ep,e,c⟩,r⟩:=x;exact⟨mA,⟨j,es,ep,k _ _ (.inl rfl) e,c⟩,r⟩
 |rng lo hi=>obtain⟨t,u,v,e⟩:=x;exact⟨t,u,v,k _ _ (.inl rfl) e⟩
 |frz g u ih=>obtain⟨e,q⟩:=x;exact⟨k _ _ (.inl rfl) e,ih q⟩
 |tbl ps=>
  have e:h.get? a=some {cls:=.none,data:=.fields ps}:=x;show h'.get? a=some {cls:=.none,data:=.fields ps};exact k a _ (.inl rfl) e
 |met f y=>
  have e:h.get? a=some (PySem.W.methodObj (.ref f) (.ref y)):=x;show h'.get? a=some (PySem.W.methodObj (.ref f) (.ref y));exact k a _ (.inl rfl) e
 |ext φ=>obtain⟨p,⟨o,e⟩,st⟩:=x;exact⟨st _ _ p fun o q=>k _ _ (.inl rfl) q,⟨o,k _ _ (.inl rfl) e⟩,st⟩
def HOk.lt(x:HOk P w H h)(e:H a=some o):a<h.objs.size:=(x a o e).lt
def HOk.fresh(x:HOk P w H h)(e:h.objs.size<=a):H a=none:=by
 cases q:H a with
 |none=>rfl
 |some u=>exact absurd (At (x.lt q) e) (Nat.lt_irrefl _)
def HOk.kept(x:HOk P w H h)(k:∀b u,h.get? b=some u->h'.get? b=some u):HOk P w H h':=fun a o e=>
 (x a o e).stay (fun b u _ q=>k b u q) (fun _ q=>q) fun _ _ q=>q
def HOk.laid(x:HOk P w H h)(k:∀b u,h.get? b=some u->h'.get? b=some u)(hp:h.objs.size<=a)(new:zak P w (upd H a o) h' a o):HOk P w (upd H a o) h':=fun b u e=>by
 have d:=x.fresh hp
 by_cases hb:b=a
 ·subst hb;rw[zb] at e;cases e;exact new
 ·rw[ag hb] at e
  exact(x b u e).stay (fun c v _ q=>k c v q) (fun c q=>by rw[ag (zk q d)];exact q) fun c xs q=>by rw[ag (zk q d)];exact q
end
def Rd(H:Hp)(a:Addr)(u:HO):Prop:=H a=some u\/∃o,H a=some (.frz o u)
def Rd.of{H:Hp}{a:Addr}{u:HO}(h:H a=some u):Rd H a u:=.inl h
def Rd.ok{P:Program}{w:World}{H:Hp}{h:Heap}{a:Addr}{u:HO}(r:Rd H a u)(x:HOk P w H h):zak P w H h a u:=by
 rcases r with r|⟨o,r⟩
 ·exact x a u r
 ·obtain⟨_,q⟩:=x a _ r
  exact q
def pe:Option HO->Prop
 |some (.lst _)=>True
 |some (.dK _)=>True
 |some (.dT _)=>True
 |some (.set _ _)=>True
 |some (.ins _ _ _)=>True
 |some (.ext _)=>True
 |_=>False
section
variable{P:Program}{w:World}{H:Hp}{h h':Heap}{x e:Addr}{o':HO}
def HOk.write(ok:HOk P w H h)(mu:pe (H x))(g:e=x\/H e=some (.own x))(k:∀b u,b≠e->h.get? b=some u->h'.get? b=some u)(l:∃u,h'.get? e=some u)(new:zak P w (upd H x o') h' x o'):HOk P w (upd H x o') h':=fun b u q=>by
 have d:∀c y,H c=some (.own y)->c≠x:=fun c y r z=>by subst z;rw[r] at mu;exact mu
 have f:∀c xs,H c=some (.tup xs)->c≠x:=fun c xs r z=>by subst z;rw[r] at mu;exact mu
 by_cases hb:b=x
 ·subst hb;rw[zb] at q;cases q;exact new
 ·rw[ag hb] at q
  by_cases a:b=e
  ·have i:H b=some (.own x):=by
    rcases g with z|z
    ·exact absurd (a.trans z) hb
    ·rw[a];exact z
   rw[q] at i;cases i;obtain⟨v,j⟩:=l;exact⟨v,by rw[a];exact j⟩
  ·refine(ok b u q).stay (fun c v hc r=>k c v ?_ r) (fun c r=>by rw[ag (d c b r)];exact r) fun c xs r=>by rw[ag (f c xs r)];exact r
   rcases hc with rfl|hc
   ·exact a
   ·rintro rfl
    rcases g with z|z
    ·exact d c b hc z
    ·rw[hc] at z;cases z;exact hb rfl
end
structure Un(fs ex:List Addr)(H H':Hp)(h h':Heap):Prop where
 keep:∀b o,h.get? b=some o->H b=none->b∉fs->b∉ex->h'.get? b=some o
 slot:∀b o,h.get? b=some o->H b=none->b∈fs->b∉ex->∃sl,h'.get? b=some {o with slots:=sl}
 free:∀b o,h.get? b=some o->H b=none->b∉ex->H' b=none
 there:∀b o,h.get? b=some o->b∉ex->∃o',h'.get? b=some o'
 tups:∀b xs,H b=some (.tup xs)->H' b=some (.tup xs)
 frzs:∀b o u,H b=some (.frz o u)->H' b=some (.frz o u)
 tbls:∀b ps,H b=some (.tbl ps)->∃more,H' b=some (.tbl (ps++more))
section
variable{fs tQ ex ya:List Addr}{H H1 H2:Hp}{h h1 h2 h':Heap}{a x e:Addr}{o:HO}
def Un.any(u:Un fs ex H H1 h h1){b:Addr}{a:Obj}(q:h.get? b=some a)(n:H b=none)(hx:b∉ex):∃c,h1.get? b=some {a with slots:=c}:=by
 by_cases hb:b∈fs
 ·exact u.slot b a q n hb hx
 ·exact⟨a.slots,u.keep b a q n hb hx⟩
def Un.kept(k:∀b u,h.get? b=some u->h'.get? b=some u):Un fs ex H H h h':=
 ⟨fun b a q _ _ _=>k b a q,fun b a q _ _ _=>⟨a.slots,k b a q⟩,fun _ _ _ n _=>n,fun b a q _=>⟨a,k b a q⟩,fun _ _ q=>q,fun _ _ _ q=>q,fun _ ps q=>⟨#[],by rw[q];simp⟩⟩
def Un.refl:Un fs ex H H h h:=Un.kept fun _ _ q=>q
def Un.laid(k:∀b u,h.get? b=some u->h'.get? b=some u)(hp:h.objs.size<=a)(c:H a=none):Un fs ex H (upd H a o) h h' where
 keep:=fun b u q _ _ _=>k b u q
 slot:=fun b u q _ _ _=>⟨u.slots,k b u q⟩
 free:=fun b u q n _=>by rw[ag (AB (At (Aq q) hp))];exact n
 there:=fun b u q _=>⟨u,k b u q⟩
 tups:=fun b xs q=>by rw[ag (zk q c)];exact q
 frzs:=fun b u xs q=>by rw[ag (zk q c)];exact q
 tbls:=fun b ps q=>⟨#[],by rw[ag (zk q c),q];simp⟩
def Un.write(mu:pe (H x))(d:e=x\/H e=some (.own x))(k:∀b u,b≠e->h.get? b=some u->h'.get? b=some u)(f:∃u,h'.get? e=some u):Un fs ex H (upd H x o) h h':=by
 have hx:∀b,H b=none->b≠x:=fun b n z=>by subst z;rw[n] at mu;exact mu
 have hb:∀b,H b=none->b≠e:=fun b n z=>by
  subst z;rcases d with r|r
  ·exact hx b n r
  ·rw[n] at r;cases r
 have c:∀b u,H b=some u->¬pe (some u)->b≠x:=fun b u q nm z=>by subst z;rw[q] at mu;exact nm mu
 refine⟨fun b u q n _ _=>k b u (hb b n) q,fun b u q n _ _=>⟨u.slots,k b u (hb b n) q⟩,fun b u q n _=>by rw[ag (hx b n)];exact n,fun b u q _=>?_,
  fun b xs q=>by rw[ag (c b _ q fun z=>z)];exact q,fun b u xs q=>by rw[ag (c b _ q fun z=>z)];exact q,fun b ps q=>⟨#[],by rw[ag (c b _ q fun z=>z),q];simp⟩⟩
 by_cases a:b=e
 ·subst a;exact f
 ·exact⟨u,k b u a q⟩
end
def vL(h:Heap)(H:Hp):List Addr:=(Ag h.objs.size).filter fun a=>(H a).isSome
def dr(h:Heap)(H:Hp):Heap:=PySem.W.hideAll h (vL h H)
def Jc(h:Heap)(H:Hp):(dr h H).objs.size=h.objs.size:=PySem.W.hideAll_size _ _
def Jd{h:Heap}{H:Hp}{b:Addr}{o:Obj}(e:h.get? b=some o)(n:H b=none):(dr h H).get? b=some o:=
 PySem.W.hideAll_get _ e fun a=>by
  have q:(H b).isSome=true:=(List.mem_filter.mp a).2;rw[n] at q;simp at q
def Je{h:Heap}{H:Hp}{b:Addr}{o:Obj}(e:(dr h H).get? b=some o):h.get? b=some o/\H b=none:=by
 have a:h.get? b=some o:=PySem.W.of_hideAll (vL h H) e;refine⟨a,?_⟩;cases q:H b with
 |none=>rfl
 |some x=>
  have c:b∈vL h H:=List.mem_filter.mpr ⟨List.mem_range.mpr (Aq a),by simp[q]⟩;have z:(dr h H).get? b=none:=PySem.W.hideAll_none (vL h H) c;rw[z] at e;cases e
structure Mod(K:Ah)(mg:Str->Option Value)(base:Heap):Prop where
 kin:K.In base
 glob:base.Ns mainGlobals mg
 blt:∃mb,base.Ns builtinsNs mb/\∀x:Str,x≠"__name__"->mb x=Bk x
 nolimit:base.NoLimit
structure Cx where
 prog:Program
 w:World
 K:Ah
 mg:Str->Option Value
 base:Heap
 A:Around
 N:List Str
 s₀:Shared
 H₀:Hp
 env:Env
 outer:List Env
 stack:List Env
 ex:List Addr
 fn:Str->Bool
 calm:Bool
 pn:Ψ
 xe:Ω
def frs(l:List Env):List Addr:=l.filterMap (·.frame)
abbrev Cx.fs(X:Cx):List Addr:=frs X.outer
def vX(sc:Scope)(x:Str):Prop:=sc.names.lookup x=some .local\/sc.names.lookup x=some .cell\/sc.names.lookup x=some .free
def Loc(sc:Scope)(x:Str):Prop:=sc.names.lookup x=some .local\/sc.names.lookup x=some .cell
def Look(env:Env)(h:Heap)(m:Str->Option Value)(x:Str)(u:Value):Prop:=
 (env.kindOf x=some .local/\m x=some u)\/((env.kindOf x=some .cell\/env.kindOf x=some .free)/\∃c,env.cells.lookup x=some c/\h.IsCell c (some u))
structure Cx.Ok(X:Cx):Prop where
 mod:Mod X.K X.mg X.base
 kind:X.env.scope.kind=.function
 glob:X.env.globals=mainGlobals
 blt:X.env.builtins=builtinsNs
 above:X.s₀⁻¹<=X.env.locals
 inj:∀x y c,X.env.cells.lookup x=some c->X.env.cells.lookup y=some c->x=y
 has:∀x,(X.env.kindOf x=some .cell\/X.env.kindOf x=some .free)->∃c,X.env.cells.lookup x=some c
 cab:∀x c,X.fn x=true->X.env.cells.lookup x=some c->X.s₀⁻¹<=c
 hd:X.calm=true->X.A.handled=none
 frames:X.A.frames=some X.stack
 stk:X.stack=X.outer\/(X.stack=X.env::X.outer/\X.env.frame=some X.env.locals)
 exf:∀b∈X.ex,b≠X.env.locals/\∀x c,X.env.cells.lookup x=some c->c≠b
 bs:∀b o,X.base.get? b=some o->X.s₀.heap.get? b=some o/\X.H₀ b=none
 bsz:X.base.objs.size<=X.s₀⁻¹
 noex:∀b o,X.base.get? b=some o->b∉X.ex
 exfs:∀b∈X.ex,b∉X.fs
 funs:X.s₀.heap.FunFrames X.base X.outer
 frf:∀b∈X.fs,X.H₀ b=none
structure Inv(X:Cx)(aa:Ψ)(σ:List (Option V))(H:Hp)(s:Shared):Prop where
 ok:X.Ok
 os:s.os=X.s₀.os
 bare:AllBare s.gens
 base:Un X.fs X.ex X.H₀ H X.s₀.heap s.heap
 loc:∃m,s.heap.Ns X.env.locals m/\∀(i:Nat)(x:Str)(v:V),X.N[i]?=some x->σ[i]?=some (some v)->vX X.env.scope x->∃u,RelV v u/\Look X.env s.heap m x u
 cell:∀x c,X.env.cells.lookup x=some c->∃v,s.heap.IsCell c v
 free:H X.env.locals=none
 freeC:∀x c,X.env.cells.lookup x=some c->H c=none
 pin:∀p∈X.pn++aa,s.heap.get? p.1=some p.2/\H p.1=none/\p.1≠X.env.locals/\p.1∉X.fs/\∀v,p.2.data≠.cell v
 hok:HOk X.prog X.w H s.heap
 len:σ.length=X.N.length
section
variable{X:Cx}{aa:Ψ}{σ:List (Option V)}{H H':Hp}{s:Shared}{h':Heap}
def Cx.Ok.nofr(ok:X.Ok){b:Addr}{o:Obj}(e:X.base.get? b=some o):b∉X.fs:=fun hb=>by
 have:=(ok.funs.mem hb).1;rw[e] at this;cases this
def Inv.bs(I:Inv X aa σ H s):∀b o,X.base.get? b=some o->s.heap.get? b=some o/\H b=none:=fun b o e=>
 ⟨I.base.keep b o (I.ok.bs b o e).1 (I.ok.bs b o e).2 (I.ok.nofr e) (I.ok.noex b o e),I.base.free b o (I.ok.bs b o e).1 (I.ok.bs b o e).2 (I.ok.noex b o e)⟩
def Inv.bk(I:Inv X aa σ H s):∀b o,X.base.get? b=some o->s.heap.get? b=some o:=fun b o e=>(I.bs b o e).1
def Inv.mod(I:Inv X aa σ H s):Mod X.K X.mg X.base:=I.ok.mod
def Inv.kIn(I:Inv X aa σ H s):X.K.In s.heap:=I.ok.mod.kin.keeps I.bk
def Inv.nolimit(I:Inv X aa σ H s):s.heap.NoLimit:=I.ok.mod.nolimit.keeps I.bk
def Inv.lt(I:Inv X aa σ H s):X.env.locals<s⁻¹:=let ⟨_,hn,_⟩:=I.loc;hn.lt
def Inv.sz(I:Inv X aa σ H s):X.s₀⁻¹<=s⁻¹:=Ae I.ok.above (Nat.le_of_lt I.lt)
def Inv.nofs(I:Inv X aa σ H s){a:Addr}(h:s⁻¹<=a):a∉X.fs:=fun hb=>by
 obtain⟨_,o,b,_⟩:=I.ok.funs.mem hb;exact absurd (At (Aq b) (Ae I.sz h)) (Nat.lt_irrefl _)
def Inv.cne(I:Inv X aa σ H s):∀x c,X.env.cells.lookup x=some c->c≠X.env.locals:=fun x c e z=>by
 obtain⟨v,o,b,hd⟩:=I.cell x c e;obtain⟨m,⟨o',es,ep,d,a,_⟩,_⟩:=I.loc;rw[z,d] at b;cases b;rw[a] at hd;cases hd
def Inv.funs(I:Inv X aa σ H s):s.heap.FunFrames X.base X.outer:=by
 have all:∀(l:List Env),(∀b∈frs l,b∈X.fs)->X.s₀.heap.FunFrames X.base l->s.heap.FunFrames X.base l:=by
  intro l
  induction l with
  |nil=>intro _ _;trivial
  |cons env r ih=>
   intro d f;obtain⟨hk,⟨L,o,a,g,h,hd⟩,hr⟩:=f;have c:L∈X.fs:=d L (by unfold frs;rw[List.filterMap_cons,a];exact AC);obtain⟨i,e⟩:=I.base.slot L o h (I.ok.frf L c) c fun z=>I.ok.exfs L z c;exact⟨hk,⟨L,_,a,g,e,hd⟩,ih (fun b hb=>d b (by unfold frs;rw[List.filterMap_cons,a];exact AG _ hb)) hr⟩
 exact all X.outer (fun _ hb=>hb) I.ok.funs
def Inv.stack(I:Inv X aa σ H s):s.heap.FunFrames X.base X.stack:=by
 rcases I.ok.stk with e|⟨e,a⟩
 ·rw[e];exact I.funs
 ·rw[e]
  obtain⟨m,b,_⟩:=I.loc;refine .cons (by rw[I.ok.kind];decide) a b ?_ I.funs;exact Heap.get?_none_of_le (Ae I.ok.bsz I.ok.above)
def Inv.stkSub(I:Inv X aa σ H s):∀b∈frs X.stack,b∈X.env.locals::X.fs:=fun b hb=>by
 rcases I.ok.stk with e|⟨e,a⟩
 ·rw[e] at hb;exact AG _ hb
 ·rw[e] at hb
  unfold frs at hb;rw[List.filterMap_cons,a] at hb;exact hb
def Inv.stkFree(I:Inv X aa σ H s):∀b∈frs X.stack,H b=none:=fun b hb=>by
 rcases List.mem_cons.mp (I.stkSub b hb) with e|hb
 ·rw[e];exact I.free
 ·obtain⟨_,o,a,_⟩:=I.ok.funs.mem hb
  exact I.base.free b o a (I.ok.frf b hb) fun z=>I.ok.exfs b z hb
def Inv.step{g':Array GenState}{t':Nat}{d':Drawn}{ch:List Addr}(I:Inv X aa σ H s)(h:∀b∈ch,(b∈X.ex\/X.s₀⁻¹<=b)/\b≠X.env.locals/\(∀x c,X.env.cells.lookup x=some c->c≠b)/\∀p∈X.pn++aa,p.1≠b)(keep:∀b o,b≠X.env.locals->b∉X.fs->b∉ch->s.heap.get? b=some o->H b=none->h'.get? b=some o)(slot:∀b o,b≠X.env.locals->b∈X.fs->b∉ch->s.heap.get? b=some o->H b=none->∃A,h'.get? b=some {o with slots:=A})(free:∀b o,b∉ch->s.heap.get? b=some o->H b=none->H' b=none)(there:∀b o,b∉ch->s.heap.get? b=some o->∃o',h'.get? b=some o')(tups:∀b xs,H b=some (.tup xs)->H' b=some (.tup xs))(frzs:∀b o u,H b=some (.frz o u)->H' b=some (.frz o u))(tbls:∀b ps,H b=some (.tbl ps)->∃more,H' b=some (.tbl (ps++more)))(ns:∀m,s.heap.Ns X.env.locals m->h'.Ns X.env.locals m)(C:HOk X.prog X.w H' h')(hg:AllBare g'):Inv X aa σ H' {s with heap:=h',gens:=g',drawn:=d',toks:=t'}:=by
 have j:∀b o,X.s₀.heap.get? b=some o->b≠X.env.locals:=fun b o e=>AB (At (Aq e) I.ok.above);have y:∀b o,X.s₀.heap.get? b=some o->b∉X.ex->b∉ch:=fun b o e hx hb=>by
  rcases(h b hb).1 with z|z
  ·exact hx z
  ·exact absurd (At (Aq e) z) (Nat.lt_irrefl _)
 have a:∀x c,X.env.cells.lookup x=some c->∀v,s.heap.IsCell c v->h'.IsCell c v:=fun x c e v ⟨o,g,hd⟩=>by
  have f:c∉ch:=fun z=>(h c z).2.2.1 x c e rfl
  by_cases hc:c∈X.fs
  ·obtain⟨A,q⟩:=slot c o (I.cne x c e) hc f g (I.freeC x c e)
   exact⟨_,q,hd⟩
  ·exact⟨o,keep c o (I.cne x c e) hc f g (I.freeC x c e),hd⟩
 refine⟨I.ok,I.os,hg,⟨fun b o e n hb hx=>?_,fun b o e n hb hx=>?_,fun b o e n hx=>?_,fun b o e hx=>?_,fun b xs e=>tups b xs (I.base.tups b xs e),fun b o xs e=>frzs b o xs (I.base.frzs b o xs e),fun b ps e=>?_⟩,?_,fun x c e=>?_,?_,fun x c e=>?_,fun p hp=>?_,C,I.len⟩
 ·exact keep b o (j b o e) hb (y b o e hx) (I.base.keep b o e n hb hx) (I.base.free b o e n hx)
 ·obtain⟨A,e1⟩:=I.base.slot b o e n hb hx
  obtain⟨E,e2⟩:=slot b _ (j b o e) hb (y b o e hx) e1 (I.base.free b o e n hx);exact⟨E,e2⟩
 ·obtain⟨o',e1⟩:=I.base.there b o e hx
  exact free b o' (y b o e hx) e1 (I.base.free b o e n hx)
 ·obtain⟨o',e1⟩:=I.base.there b o e hx
  exact there b o' (y b o e hx) e1
 ·obtain⟨F,e1⟩:=I.base.tbls b ps e
  obtain⟨m2,e2⟩:=tbls b _ e1;exact⟨F++m2,by rw[e2,Array.append_assoc]⟩
 ·obtain⟨m,G,J⟩:=I.loc
  refine⟨m,ns m G,fun i x v e1 e2 e3=>?_⟩;obtain⟨u,r,l⟩:=J i x v e1 e2 e3;refine⟨u,r,?_⟩;rcases l with l|⟨k,c,e,z⟩
  ·exact .inl l
  ·exact .inr ⟨k,c,e,a x c e _ z⟩
 ·obtain⟨v,z⟩:=I.cell x c e
  exact⟨v,a x c e v z⟩
 ·obtain⟨m,⟨o,_,_,g,_⟩,_⟩:=I.loc
  exact free _ o (fun z=>(h _ z).2.1 rfl) g I.free
 ·obtain⟨v,o,g,hd⟩:=I.cell x c e
  exact free c o (fun z=>(h c z).2.2.1 x c e rfl) g (I.freeC x c e)
 ·obtain⟨e,n,ne,D,d⟩:=I.pin p hp
  have f:p.1∉ch:=fun z=>(h p.1 z).2.2.2 p hp rfl;exact⟨keep p.1 p.2 ne D f e n,free p.1 p.2 f e n,ne,D,d⟩
def Inv.un{t':Nat}(I:Inv X aa σ H s)(u:Un X.fs [] H H' s.heap h')(a:HOk X.prog X.w H' h'):Inv X aa σ H' {s with heap:=h',toks:=t'}:=by
 obtain⟨m,⟨o,es,ep,c,r⟩,_⟩:=id I.loc;obtain⟨p,g⟩:=u.any c I.free (by simp);exact I.step (g':=s.gens) (d':=s.drawn) (ch:=[]) (fun _ z=>nomatch z) (fun b o _ hb _ e n=>u.keep b o e n hb (by simp)) (fun b o _ hb _ e n=>u.slot b o e n hb (by simp)) (fun b o _ e n=>u.free b o e n (by simp)) (fun b o _ e=>u.there b o e (by simp)) u.tups u.frzs u.tbls (fun l f=>by
  obtain⟨o',h,i,d,j⟩:=f;rw[c] at d;cases d;exact⟨_,h,i,g,j⟩) a I.bare
def Inv.call{g':Array GenState}{t':Nat}{d':Drawn}{ch:List Addr}(I:Inv X aa σ H s)(u:Un (frs X.stack) ch H H' s.heap h')(d:HOk X.prog X.w H' h')(hg:AllBare g')(h:∀b∈ch,(b∈X.ex\/X.s₀⁻¹<=b)/\b≠X.env.locals/\(∀x c,X.env.cells.lookup x=some c->c≠b)/\∀p∈X.pn++aa,p.1≠b):Inv X aa σ H' {s with heap:=h',gens:=g',drawn:=d',toks:=t'}:=by
 obtain⟨m,⟨o,es,ep,f,r⟩,_⟩:=id I.loc;obtain⟨y,a⟩:=u.any f I.free fun z=>(h _ z).2.1 rfl;exact I.step (ch:=ch) h (fun b o a hb hc e n=>u.keep b o e n (fun z=>(List.mem_cons.mp (I.stkSub b z)).elim a hb) hc) (fun b o _ _ hc e n=>u.any e n hc) (fun b o hc e n=>u.free b o e n hc) (fun b o hc e=>u.there b o e hc) u.tups u.frzs u.tbls (fun v i=>by
  obtain⟨o',j,l,g,q⟩:=i;rw[f] at g;cases g;exact⟨_,j,l,a,q⟩) d hg
def Inv.turned{t':Nat}{it:Addr}(I:Inv X aa σ H s)(k:∀b o,b≠it->s.heap.get? b=some o->h'.get? b=some o)(h:H it=none)(d:it≠X.env.locals)(h1:it∈X.ex\/X.s₀⁻¹<=it)(h2:∀x c,X.env.cells.lookup x=some c->c≠it)(i:∀p∈X.pn++aa,p.1≠it):Inv X aa σ H {s with heap:=h',toks:=t'}:=by
 have a:∀b u,H b=some u->b≠it:=fun b u e z=>by rw[z,h] at e;cases e
 refine I.step (g':=s.gens) (d':=s.drawn) (ch:=[it]) (fun b hb=>?_) (fun b o _ _ hc e _=>k b o (fun z=>hc (by simp[z])) e) (fun b o _ _ hc e _=>⟨o.slots,k b o (fun z=>hc (by simp[z])) e⟩) (fun _ _ _ _ n=>n)
  (fun b o hc e=>⟨o,k b o (fun z=>hc (by simp[z])) e⟩) (fun _ _ e=>e) (fun _ _ _ e=>e) (fun b ps e=>⟨#[],by rw[e];simp⟩) (fun m f=>?_) (fun b u e=>?_) I.bare
 ·have e:b=it:=by simpa using hb
  subst e;exact⟨h1,d,h2,i⟩
 ·obtain⟨o,es,ep,g,r⟩:=f
  exact⟨o,es,ep,k _ o (Ne.symm d) g,r⟩
 ·refine(I.hok b u e).stay (fun c v hc q=>k c v ?_ q) (fun _ q=>q) fun _ _ q=>q
  rcases hc with z|z
  ·rw[z];exact a b u e
  ·exact a c _ z
def Inv.tok(I:Inv X aa σ H s)(t:Nat):Inv X aa σ H {s with toks:=t}:=I.un (h':=s.heap) (t':=t) Un.refl I.hok
def Inv.kept{t':Nat}(I:Inv X aa σ H s)(k:∀b u,s.heap.get? b=some u->h'.get? b=some u):Inv X aa σ H {s with heap:=h',toks:=t'}:=I.un (Un.kept k) (I.hok.kept k)
def Inv.laid{a:Addr}{o:HO}{t':Nat}(I:Inv X aa σ H s)(k:∀b u,s.heap.get? b=some u->h'.get? b=some u)(hp:s⁻¹<=a)(new:zak X.prog X.w (upd H a o) h' a o):Inv X aa σ (upd H a o) {s with heap:=h',toks:=t'}:=I.un (Un.laid k hp (I.hok.fresh hp)) (I.hok.laid k hp new)
def Inv.write{x e:Addr}{o:HO}{t':Nat}(I:Inv X aa σ H s)(mu:pe (H x))(a:e=x\/H e=some (.own x))(k:∀b u,b≠e->s.heap.get? b=some u->h'.get? b=some u)(c:∃u,h'.get? e=some u)(new:zak X.prog X.w (upd H x o) h' x o):Inv X aa σ (upd H x o) {s with heap:=h',toks:=t'}:=I.un (Un.write mu a k c) (I.hok.write mu a k c new)
def Inv.pins_of{a:Ψ}(I:Inv X aa σ H s)(h:∀p∈a,s.heap.get? p.1=some p.2/\H p.1=none/\p.1≠X.env.locals/\p.1∉X.fs/\∀v,p.2.data≠.cell v):Inv X a σ H s:=
 ⟨I.ok,I.os,I.bare,I.base,I.loc,I.cell,I.free,I.freeC,fun p hp=>(List.mem_append.mp hp).elim (fun z=>I.pin p (List.mem_append_left _ z)) (h p),I.hok,I.len⟩
def ED{N:List Str}(c:N.Nodup){i j:Nat}{x:Str}(a:N[i]?=some x)(b:N[j]?=some x):i=j:=by
 obtain⟨h1,e1⟩:=List.getElem?_eq_some_iff.mp a;obtain⟨h2,e2⟩:=List.getElem?_eq_some_iff.mp b;exact(List.getElem_inj c).mp (e1.trans e2.symm)
def EE{M:Model}{A:Around}{E:Ω}{i:Nat}{x:Str}{v:V}{u:Value}{Q:Unit->Shared->Prop}(I:Inv X aa σ H s)(hN:X.N.Nodup)(hi:X.N[i]?=some x)(hx:Loc X.env.scope x)(r:RelV v u)(h:∀s',Inv X aa (σ.set i (some v)) H s'->(∃a,Heap.SameBut a s.heap s'.heap/\(a=X.env.locals\/X.env.cells.lookup x=some a))->Q () s')(hf:X.fn x=true\/X.env.scope.names.lookup x=some .local:=by first|exact .inl rfl|exact .inr rfl|assumption):wpAny M A (storeName X.env x u) Q E s:=by
 obtain⟨m,G,T⟩:=id I.loc;have mG:(X.env.scope.kind==.class|| (X.env.scope.kind==.module&&X.env.locals != X.env.globals))=false:=by rw[I.ok.kind];rfl
 have g:i<σ.length:=by rw[I.len];exact(List.getElem?_eq_some_iff.mp hi).1
 have cne:=I.cne;have Z:∀{a:Addr}{h':Heap},(∃o,s.heap.get? a=some o/\H a=none)->Heap.SameBut a s.heap h'->HOk X.prog X.w H h':=fun{a h'} ha f b ob e=>by
  obtain⟨_,_,U⟩:=ha;refine(I.hok b ob e).stay (fun c D hc q=>(f.2 c ?_).trans q) (fun _ q=>q) fun _ _ q=>q;rintro rfl;rcases hc with rfl|hc
  ·rw[U] at e;cases e
  ·rw[U] at hc;cases hc
 rcases hx with hk|hk
 ·refine wpAny_storeName_local hk G (fun h' eA f=>?_) mG
  obtain⟨oL,_,_,iC,_⟩:=id G;refine h _ ⟨I.ok,I.os,I.bare,⟨fun b o e n hb hx=>?_,fun b o e n hb hx=>?_,I.base.free,fun b o e hx=>?_,I.base.tups,I.base.frzs,I.base.tbls⟩,⟨_,eA,fun j y v' e1 e2 e3=>?_⟩,fun y c e=>?_,I.free,I.freeC,fun p hp=>?_,Z ⟨oL,iC,I.free⟩ f,by simpa using I.len⟩ ⟨_,f,.inl rfl⟩
  ·exact(f.2 b (AB (At (Aq e) I.ok.above))).trans (I.base.keep b o e n hb hx)
  ·obtain⟨J,e1⟩:=I.base.slot b o e n hb hx
   exact⟨J,(f.2 b (AB (At (Aq e) I.ok.above))).trans e1⟩
  ·obtain⟨o',e1⟩:=I.base.there b o e hx
   exact⟨o',(f.2 b (AB (At (Aq e) I.ok.above))).trans e1⟩
  ·by_cases l:j=i
   ·subst l
    rw[hi] at e1;cases e1;rw[List.getElem?_set_self g] at e2;cases e2;exact⟨u,r,.inl ⟨hk,by simp⟩⟩
   ·rw[List.getElem?_set_ne (Ne.symm l)] at e2
    obtain⟨u',L,q⟩:=T j y v' e1 e2 e3;refine⟨u',L,?_⟩;rcases q with ⟨k,e⟩|⟨k,c,e,z⟩
    ·refine .inl ⟨k,?_⟩
     have:y≠x:=fun e=>l (ED hN e1 (e▸hi));simp[this,e]
    ·exact .inr ⟨k,c,e,z.sameBut f (cne y c e)⟩
  ·obtain⟨D,z⟩:=I.cell y c e
   exact⟨D,z.sameBut f (cne y c e)⟩
  ·obtain⟨e,n,ne,O,d⟩:=I.pin p hp
   exact⟨(f.2 p.1 ne).trans e,n,ne,O,d⟩
 ·have P:X.fn x=true:=by
   rcases hf with z|z
   ·exact z
   ·rw[z] at hk;cases hk
  obtain⟨c,hc⟩:=I.ok.has x (.inl hk);obtain⟨D,z⟩:=I.cell x c hc;refine wpAny_storeName_cell I.ok.kind hk hc z (fun h' S f=>?_);obtain⟨W,Y,mK⟩:=id z;refine h {s with heap:=h'} ⟨I.ok,I.os,I.bare,⟨fun b o e n hb hx=>?_,fun b o e n hb hx=>?_,I.base.free,fun b o e hx=>?_,I.base.tups,I.base.frzs,I.base.tbls⟩,⟨m,G.sameBut f (Ne.symm (cne x c hc)),fun j y v' e1 e2 e3=>?_⟩,fun y F e=>?_,I.free,I.freeC,fun p hp=>?_,Z ⟨W,Y,I.freeC x c hc⟩ f,by simpa using I.len⟩ ⟨c,f,.inr hc⟩
  ·exact(f.2 b (AB (At (Aq e) (I.ok.cab x c P hc)))).trans (I.base.keep b o e n hb hx)
  ·obtain⟨J,e1⟩:=I.base.slot b o e n hb hx
   exact⟨J,(f.2 b (AB (At (Aq e) (I.ok.cab x c P hc)))).trans e1⟩
  ·obtain⟨o',e1⟩:=I.base.there b o e hx
   exact⟨o',(f.2 b (AB (At (Aq e) (I.ok.cab x c P hc)))).trans e1⟩
  ·by_cases l:j=i
   ·subst l
    rw[hi] at e1;cases e1;rw[List.getElem?_set_self g] at e2;cases e2;exact⟨u,r,.inr ⟨.inl hk,c,hc,S⟩⟩
   ·rw[List.getElem?_set_ne (Ne.symm l)] at e2
    obtain⟨u',L,q⟩:=T j y v' e1 e2 e3;refine⟨u',L,?_⟩;rcases q with q|⟨k,F,e,z'⟩
    ·exact .inl q
    ·refine .inr ⟨k,F,e,z'.sameBut f ?_⟩
     rintro rfl;exact l (ED hN e1 (I.ok.inj _ _ _ e hc▸hi))
  ·by_cases C:F=c
   ·subst C;exact⟨_,S⟩
   ·obtain⟨w2,z2⟩:=I.cell y F e
    exact⟨w2,z2.sameBut f C⟩
  ·obtain⟨e,n,ne,O,d⟩:=I.pin p hp
   refine⟨(f.2 p.1 ?_).trans e,n,ne,O,d⟩;intro q;rw[q,Y] at e;have q':W=p.2:=AW e;exact d D (by rw[<-q'];exact mK)
def EF{M:Model}{A:Around}{E:Ω}{i:Nat}{x:Str}{v:V}{u:Value}{Q:Unit->Shared->Prop}(I:Inv X aa σ H s)(a:X.N.Nodup)(hi:X.N[i]?=some x)(hx:Loc X.env.scope x)(r:RelV v u)(h:∀s',Inv X aa (σ.set i (some v)) H s'->Q () s')(b:X.fn x=true\/X.env.scope.names.lookup x=some .local:=by first|exact .inl rfl|exact .inr rfl|assumption):wpAny M A (storeName X.env x u) Q E s:=
 EE I a hi hx r (fun s' c _=>h s' c) b
def Inv.call'{s':Shared}{ch:List Addr}(I:Inv X aa σ H s)(d:s'.os=s.os)(u:Un (frs X.stack) ch H H' s.heap s'.heap)(a:HOk X.prog X.w H' s'.heap)(hg:AllBare s'.gens)(f:∀b∈ch,(b∈X.ex\/X.s₀⁻¹<=b)/\b≠X.env.locals/\(∀x c,X.env.cells.lookup x=some c->c≠b)/\∀p∈X.pn++aa,p.1≠b):Inv X aa σ H' s':=by
 obtain⟨h',g',d',t',o'⟩:=s';have e:o'=s.os:=d;subst e;exact I.call (g':=g') (t':=t') (d':=d') u a hg f
end
abbrev XK:=Value->Option Addr->Hp->Prop
abbrev St:=List (Option V)
abbrev VK:=V->Hp->Prop
abbrev TE:=St->Hp->VK->Prop
abbrev TT:=St->Hp->(Bool->Hp->Prop)->Prop
abbrev TA:=St->Hp->(List V->Hp->Prop)->Prop
structure Ends where
 nx:St->Hp->Prop
 rt:VK
 bk:St->Hp->Prop:=fun _ _=>False
 ct:St->Hp->Prop:=fun _ _=>False
abbrev TS:=Ends->St->Hp->Prop
def EP(X:Cx)(aa:Ψ)(σ:St)(Q:VK)(u:Value)(s':Shared):Prop:=∃v H',Inv X aa σ H' s'/\RelV v u/\Q v H'
def TP(X:Cx)(aa:Ψ)(σ:St)(Q:Bool->Hp->Prop)(b:Bool)(s':Shared):Prop:=∃H',Inv X aa σ H' s'/\Q b H'
def AP(X:Cx)(aa:Ψ)(σ:St)(Q:List V->Hp->Prop)(us:List Value)(s':Shared):Prop:=∃vs H',Inv X aa σ H' s'/\Vals vs us/\Q vs H'
def SP(X:Cx)(aa:Ψ)(D:Ends)(f:Flow)(s':Shared):Prop:=
 match f with
 |.next=>∃a H',Inv X aa a H' s'/\D.nx a H'
 |.brk=>∃a H',Inv X aa a H' s'/\D.bk a H'
 |.cont=>∃a H',Inv X aa a H' s'/\D.ct a H'
 |.ret u=>∃v a H',Inv X aa a H' s'/\RelV v u/\D.rt v H'
def PE(X:Cx)(e:Expr)(t:TE):Prop:=
 ∀(aa:Ψ)(s:Shared)(σ:St)(H:Hp)(Q:VK),Inv X aa σ H s->t σ H Q->wpAny (model X.prog X.w) X.A (eval e X.env) (EP X aa σ Q) X.xe s
def PT(X:Cx)(e:Expr)(t:TT):Prop:=
 ∀(aa:Ψ)(s:Shared)(σ:St)(H:Hp)(Q:Bool->Hp->Prop),Inv X aa σ H s->t σ H Q->wpAny (model X.prog X.w) X.A (isTrue e X.env (eval e X.env)) (TP X aa σ Q) X.xe s
def PW(X:Cx)(e:Expr)(t:TT):Prop:=
 ∀(a:Sem Value)(aa:Ψ)(s:Shared)(σ:St)(H:Hp)(Q:Bool->Hp->Prop),Inv X aa σ H s->t σ H Q->wpAny (model X.prog X.w) X.A (isTrue e X.env a) (TP X aa σ Q) X.xe s
def PW.pt{X:Cx}{e:Expr}{t:TT}(h:PW X e t):PT X e t:=h _
def PA(X:Cx)(es:List Expr)(t:TA):Prop:=
 ∀(pos:Pos)(aa:Ψ)(s:Shared)(σ:St)(H:Hp)(Q:List V->Hp->Prop),Inv X aa σ H s->t σ H Q->wpAny (model X.prog X.w) X.A (spliced (backTo pos (starEach es X.env))) (AP X aa σ Q) X.xe s
def PS(X:Cx)(st:Stmt)(t:TS):Prop:=
 ∀(aa:Ψ)(s:Shared)(σ:St)(H:Hp)(D:Ends),Inv X aa σ H s->t D σ H->wpAny (model X.prog X.w) X.A (exec st X.env) (SP X aa D) X.xe s
def PSs(X:Cx)(st:List Stmt)(t:TS):Prop:=
 ∀(aa:Ψ)(s:Shared)(σ:St)(H:Hp)(D:Ends),Inv X aa σ H s->t D σ H->wpAny (model X.prog X.w) X.A (execs st X.env) (SP X aa D) X.xe s
def aR{b:Type}{t:Sem b}{Q c:b->Shared->Prop}{M:Model}{A:Around}{E:Ω}{s:Shared}(h:wpAny M A t Q E s)(d:∀a s,Q a s->c a s):wpAny M A t c E s:=wpAny_mono h d fun _ _ x=>x
section
variable{X:Cx}
def ap(i:Nat):TE:=fun σ H Q=>∃v,σ[i]?=some (some v)/\Q v H
def tC(v:V):TE:=fun _ H Q=>Q v H
def Jf{i:Nat}{x:Str}{pos:Pos}(g:X.N[i]?=some x)(j:vX X.env.scope x)(hd:(x==("__debug__":Str))=false:=by decide)(o:(x==("__classdict__":Str))=false:=by decide):PE X (.Name x pos) (ap i):=by
 intro aa s σ H Q I h;obtain⟨v,e,h⟩:=h;obtain⟨m,b,d⟩:=I.loc;obtain⟨u,r,l⟩:=d i x v g e j;have fin:EP X aa σ Q u s:=⟨v,H,I,r,h⟩;rcases l with ⟨hk,f⟩|⟨hk,c,hc,a⟩
 ·exact wpAny_Name (wpAny_loadName_local I.ok.kind hk b f fin) hd
 ·rcases hk with hk|hk
  ·exact wpAny_Name (wpAny_loadName_cell I.ok.kind hk hc a fin) hd
  ·exact wpAny_Name (wpAny_loadName_free I.ok.kind hk hc a fin o) hd
def ze{i j pos}:PE X (.Constant (.int i) j pos) (tC (.int i)):=fun _ _ _ H _ I h=>wpAny_Constant_int ⟨.int i,H,I.tok _,⟨_,rfl⟩,h⟩
def mQ{b j pos}:PE X (.Constant (.bool b) j pos) (tC (.bl b)):=fun _ _ _ H _ I h=>Constant_bool ⟨.bl b,H,I,rfl,h⟩
def Gl(X:Cx)(x:Str):Prop:=X.env.kindOf x=some .globalImplicit
def EG{E:Ω}{aa:Ψ}{s:Shared}{σ:St}{H:Hp}{x:Str}{u:Value}{pos:Pos}{Q:Ω}(I:Inv X aa σ H s)(hg:Gl X x)(a:X.mg x=some u)(h:Q u s)(hd:(x==("__debug__":Str))=false:=by decide):wpAny (model X.prog X.w) X.A (eval (.Name x pos) X.env) Q E s:=
 Calls.Name_function_global I.ok.kind hg (Calls.loadGlobal_global (by rw[I.ok.glob];exact I.mod.glob.keeps I.bk) a h) hd
def jx{E:Ω}{aa:Ψ}{s:Shared}{σ:St}{H:Hp}{x:Str}{u:Value}{pos:Pos}{Q:Ω}(I:Inv X aa σ H s)(hg:Gl X x)(a:X.mg x=none)(b:Bk x=some u)(h:Q u s)(c:x≠"__name__":=by decide)(hd:(x==("__debug__":Str))=false:=by decide):wpAny (model X.prog X.w) X.A (eval (.Name x pos) X.env) Q E s:=by
 obtain⟨d,h1,h2⟩:=I.mod.blt;exact Calls.Name_function_global I.ok.kind hg (Calls.loadGlobal_builtin (by rw[I.ok.glob];exact I.mod.glob.keeps I.bk) a (by rw[I.ok.blt];exact h1.keeps I.bk) ((h2 x c).trans b) h) hd
def Cq{x:Str}{v:V}{u:Value}{pos:Pos}(hg:Gl X x)(a:X.mg x=some u)(r:RelV v u)(hd:(x==("__debug__":Str))=false:=by decide):PE X (.Name x pos) (tC v):=
 fun _ _ _ H _ I h=>EG I hg a ⟨v,H,I,r,h⟩ hd
variable{a b:Expr}{ta tb:TE}{pos:Pos}
def PC(X:Cx)(e:CmpOp)(a b:Expr)(t:TE):Prop:=
 ∀(aa:Ψ)(s:Shared)(σ:St)(H:Hp)(Q:VK),Inv X aa σ H s->t σ H Q->
  wpAny (model X.prog X.w) X.A (eval a X.env) (fun v c=>wpAny (model X.prog X.w) X.A (eval b X.env) (fun u d=>wpAny (model X.prog X.w) X.A (compareOp e v u) (EP X aa σ Q) X.xe d) X.xe c) X.xe s
def f'(b:Expr){a:CmpOp}(h:a≠.In)(h2:a≠.NotIn):behindInMarks a b=false:=by
 have e1:(a==CmpOp.In)=false:=by cases a<;>first|rfl|exact absurd rfl h
 have e2:(a==CmpOp.NotIn)=false:=by cases a<;>first|rfl|exact absurd rfl h2
 cases b<;>simp[behindInMarks,e1,e2]
def tB(t:TE):TT:=fun σ H Q=>t σ H fun x H1=>∃c,x=.bl c/\Q c H1
def Jg{e:CmpOp}{t:TE}(h:PC X e a b t)(h1:behindInMarks e b=false:=by first|exact f' _ ξ ξ|rfl):PT X (.Compare a [e] [b] pos) (tB t):=by
 intro aa s σ H Q I hw;refine wpAny_isTrue_Compare1 (aR (h aa s σ H _ I hw) fun v i h1=>aR h1 fun u j h2=>aR h2 fun c l ⟨x,H1,g,r1,f⟩=>?_) h1;obtain⟨d,rfl,q⟩:=f;cases r1;exact wpAny_truthy_bool ⟨H1,g,q⟩
def ph{e:Expr}{t:TE}(h:PE X e t)(c:∀a,isTrue e X.env a=(do let v <-a;standAt e.pos;holding [v] (truthy v)):=by intro _;rfl):PT X e (tB t):=by
 intro aa s σ H Q I hw;refine isTrue_plain (aR (h aa s σ H _ I hw) fun v g ⟨x,H1,f,r1,b⟩=>?_) (c _);obtain⟨d,rfl,q⟩:=b;cases r1;exact wpAny_truthy_bool ⟨H1,f,q⟩
variable{tA jK:TT}{rest:List Expr}
def pu(t u:TT):TT:=fun σ H Q=>t σ H fun c H1=>if c=true then u σ H1 Q else Q false H1
def Jh(t u:TT):TT:=fun σ H Q=>t σ H fun c H1=>if c=true then Q true H1 else u σ H1 Q
def Cr(t:TT):TT:=fun σ H Q=>t σ H fun c H1=>Q (!c) H1
def mU(b:PT X a tA):PW X (.BoolOp .And [a] pos) tA:=by
 intro d aa s σ H Q I h;refine isTrue_and (aR (b aa s σ H Q I h) fun c f e=>?_);cases c with
 |true=>exact isTrue_and_nil e
 |false=>exact e
def Cs(b:PT X a tA):PW X (.BoolOp .Or [a] pos) tA:=by
 intro d aa s σ H Q I h;refine isTrue_or (aR (b aa s σ H Q I h) fun c f e=>?_);cases c with
 |false=>exact isTrue_or_nil e
 |true=>exact e
def mX(i:PT X a tA)(hb:PW X (.BoolOp .And (b::rest) pos) jK):PW X (.BoolOp .And (a::b::rest) pos) (pu tA jK):=by
 intro f aa s σ H Q I h;refine isTrue_and (aR (i aa s σ H _ I h) fun c g ⟨H1,e,d⟩=>?_);cases c with
 |true=>exact hb f aa g σ H1 Q e d
 |false=>exact⟨H1,e,d⟩
def Ct(i:PT X a tA)(hb:PW X (.BoolOp .Or (b::rest) pos) jK):PW X (.BoolOp .Or (a::b::rest) pos) (Jh tA jK):=by
 intro f aa s σ H Q I h;refine isTrue_or (aR (i aa s σ H _ I h) fun c g ⟨H1,e,d⟩=>?_);cases c with
 |true=>exact⟨H1,e,d⟩
 |false=>exact hb f aa g σ H1 Q e d
def wh(b:PT X a tA):PT X (.UnaryOp .Not a pos) (Cr tA):=by
 intro aa s σ H Q I h;exact isTrue_not (b aa s σ H (fun c H1=>Q (!c) H1) I h)
def Ji(ta tb:TE):TE:=fun σ H Q=>ta σ H fun x H1=>∃c,x=.bl c/\if c=true then tb σ H1 Q else Q (.bl false) H1
def EH{op}{t:TE}(h:PE X a t):PE X (.BoolOp op [a] pos) t:=fun aa s σ H Q I hw=>BoolOp_one (h aa s σ H Q I hw)
def EI(g:PE X a ta)(hb:PE X (.BoolOp .And (b::rest) pos) tb):PE X (.BoolOp .And (a::b::rest) pos) (Ji ta tb):=by
 intro aa s σ H Q I h;refine BoolOp_and (aR (g aa s σ H _ I h) fun v f ⟨x,H1,e,r1,d⟩=>?_);obtain⟨c,rfl,d⟩:=d;cases r1;refine wpAny_truthy_bool ?_;cases c with
 |true=>exact hb aa f σ H1 Q e d
 |false=>exact⟨.bl false,H1,e,rfl,d⟩
def Jj(t:TT)(ta tb:TE):TE:=fun σ H Q=>t σ H fun c H1=>if c=true then ta σ H1 Q else tb σ H1 Q
def wl{c:Expr}(hc:PT X c tA)(i:PE X a ta)(hb:PE X b tb):PE X (.IfExp c a b pos) (Jj tA ta tb):=by
 intro aa s σ H Q I h;refine wpAny_IfExp (aR (hc aa s σ H _ I h) fun d e ⟨H1,g,f⟩=>?_);cases d with
 |true=>exact i aa e σ H1 Q g f
 |false=>exact hb aa e σ H1 Q g f
end
def SqL(K:Ah)(H:Hp)(a:Addr)(xs:List V):Prop:=
 Rd H a (.lst xs) \/
  ∃(o:Obj)(b:Array Value)(n:Nat),K.lookup a=some o/\o.cls=.type "list"/\o.dict=none/\o.data=.seq b n/\b.size<=sizeLine/\Vals xs b.toList
def SqT(K:Ah)(H:Hp)(a:Addr)(xs:List V):Prop:=
 Rd H a (.tup xs) \/
  ∃(o:Obj)(b:Array Value)(n:Nat),K.lookup a=some o/\o.cls=.type "tuple"/\o.data=.seq b n/\b.size<=sizeLine/\Vals xs b.toList
def Cu:Value->Option V
 |.none=>some .non
 |.bool b=>some (.bl b)
 |.int i _=>some (.int i)
 |.str x _=>some (.str x)
 |.bytes b _=>some (.byt b)
 |.float b _=>some (.flt b)
 |.ref a=>some (.ref a)
 |.type n=>some (.ty n)
 |_=>none
def RelV.abs{x:V}{u:Value}(r:RelV x u):Cu u=some x:=by
 cases x with
 |non=>cases r;rfl
 |bl _=>cases r;rfl
 |int _=>obtain⟨t,rfl⟩:=r;rfl
 |str _=>obtain⟨t,rfl⟩:=r;rfl
 |byt _=>obtain⟨t,rfl⟩:=r;rfl
 |flt _=>obtain⟨t,rfl⟩:=r;rfl
 |ref _=>cases r;rfl
 |ty _=>cases r;rfl
def RelV.inj{x y:V}{u:Value}(r:RelV x u)(q:RelV y u):x=y:=AW (r.abs.symm.trans q.abs)
def Vals.inj{xs ys:List V}{us:List Value}(h:Vals xs us)(g:Vals ys us):xs=ys:=by
 induction h generalizing ys with
 |nil=>cases g;rfl
 |cons r t ih=>cases g with|cons r' t'=>rw[r.inj r',ih t']
section
variable{X:Cx}{aa:Ψ}{σ:St}{H:Hp}{s:Shared}{a:Addr}{xs ys:List V}
def SqL.of{K:Ah}(h:H a=some (.lst xs)):SqL K H a xs:=.inl (.inl h)
def SqT.of{K:Ah}(h:H a=some (.tup xs)):SqT K H a xs:=.inl (.inl h)
def Inv.list(I:Inv X aa σ H s)(h:SqL X.K H a xs):∃b:List Value,Vals xs b/\PlainL s.heap a b.toArray/\xs.length<=sizeLine:=by
 rcases h with h|⟨o,b,n,hk,hc,hd,c,hz,r⟩
 ·obtain⟨z,b,n,r,e⟩:=h.ok I.hok
  exact⟨b,r,⟨_,n,e,rfl,rfl,rfl⟩,z⟩
 ·refine⟨b.toList,r,⟨o,n,I.kIn a o hk,hc,hd,by simpa using c⟩,?_⟩
  have e:=r.length;simp only[Array.length_toList] at e;(first|lia|omega)
def Inv.tuple(I:Inv X aa σ H s)(h:SqT X.K H a xs):∃b:List Value,Vals xs b/\IsTup s.heap a b.toArray/\xs.length<=sizeLine:=by
 rcases h with h|⟨o,b,n,hk,hc,c,hz,r⟩
 ·obtain⟨z,b,r,p⟩:=h.ok I.hok
  exact⟨b,r,p,z⟩
 ·refine⟨b.toList,r,⟨o,I.kIn a o hk,hc,n,by simpa using c⟩,?_⟩
  have e:=r.length;simp only[Array.length_toList] at e;(first|lia|omega)
def Inv.list_inj(I:Inv X aa σ H s)(h:SqL X.K H a xs)(h':SqL X.K H a ys):xs=ys:=by
 obtain⟨c,r,⟨o,n,e,_,_,d⟩,_⟩:=I.list h;obtain⟨its',f,⟨o',g,b,_,_,d'⟩,_⟩:=I.list h';rw[e] at b;cases b;rw[d] at d';injection d' with d1 _
 have:c=its':=by simpa using congrArg Array.toList d1
 subst this;exact r.inj f
def Inv.tuple_inj(I:Inv X aa σ H s)(h:SqT X.K H a xs)(h':SqT X.K H a ys):xs=ys:=by
 obtain⟨c,r,⟨o,e,_,n,d⟩,_⟩:=I.tuple h;obtain⟨its',f,⟨o',b,_,g,d'⟩,_⟩:=I.tuple h';rw[e] at b;cases b;rw[d] at d';injection d' with d1 _
 have:c=its':=by simpa using congrArg Array.toList d1
 subst this;exact r.inj f
end
abbrev Cx.wish(X:Cx)(E:Ω):Cx:={X with xe:=E}
abbrev Cx.nox(X:Cx):Cx:=X.wish fun _ _=>False
def Cx.Ok.wish{X:Cx}(ok:X.Ok)(E:Ω):(X.wish E).Ok:=
 ⟨ok.mod,ok.kind,ok.glob,ok.blt,ok.above,ok.inj,ok.has,ok.cab,ok.hd,ok.frames,ok.stk,ok.exf,ok.bs,ok.bsz,ok.noex,ok.exfs,ok.funs,ok.frf⟩
def Cx.Ok.unwish{X:Cx}{E:Ω}(ok:(X.wish E).Ok):X.Ok:=
 ⟨ok.mod,ok.kind,ok.glob,ok.blt,ok.above,ok.inj,ok.has,ok.cab,ok.hd,ok.frames,ok.stk,ok.exf,ok.bs,ok.bsz,ok.noex,ok.exfs,ok.funs,ok.frf⟩
section
variable{X:Cx}{aa:Ψ}{σ:St}{H:Hp}{s:Shared}{E:Ω}
def Inv.wish(I:Inv X aa σ H s)(E:Ω):Inv (X.wish E) aa σ H s:=⟨I.ok.wish E,I.os,I.bare,I.base,I.loc,I.cell,I.free,I.freeC,I.pin,I.hok,I.len⟩
def Inv.unwish(I:Inv (X.wish E) aa σ H s):Inv X aa σ H s:=⟨I.ok.unwish,I.os,I.bare,I.base,I.loc,I.cell,I.free,I.freeC,I.pin,I.hok,I.len⟩
def SP.unwish{D:Ends}{f:Flow}{s':Shared}(h:SP (X.wish E) aa D f s'):SP X aa D f s':=by
 cases f with
 |next=>obtain⟨a,H',I,q⟩:=h;exact⟨a,H',I.unwish,q⟩
 |brk=>obtain⟨a,H',I,q⟩:=h;exact⟨a,H',I.unwish,q⟩
 |cont=>obtain⟨a,H',I,q⟩:=h;exact⟨a,H',I.unwish,q⟩
 |ret u=>obtain⟨v,a,H',I,r,q⟩:=h;exact⟨v,a,H',I.unwish,r,q⟩
def PSs.nox{st:List Stmt}{t:TS}(h:PSs X.nox st t):PSs X st t:=fun aa s σ H D I hw=>
 wpAny_mono (h aa s σ H D (I.wish _) hw) (fun _ _ q=>q.unwish) fun _ _ z=>False.elim z
end
section
variable{X:Cx}{st:Stmt}{rest:List Stmt}{t u:TS}{e:Expr}{te:TE}{pos:Pos}
def Jk:TS:=fun D σ H=>D.nx σ H
def pA(t u:TS):TS:=fun D σ H=>t {D with nx:=u D} σ H
def zT:PSs X [] Jk:=fun _ _ σ H _ I h=>wpAny_execs_nil ⟨σ,H,I,h⟩
def zd(h1:PS X st t)(h2:PSs X rest u):PSs X (st::rest) (pA t u):=by
 intro aa s σ H D I h;refine wpAny_execs_cons (aR (h1 aa s σ H {D with nx:=u D} I h) fun f a q=>?_);cases f with
 |next=>
  obtain⟨b,H',c,q⟩:=q;exact h2 aa a b H' D c q
 |ret v=>exact q
 |brk=>exact q
 |cont=>exact q
def zh(h1:PS X st t):PSs X [st] t:=by
 intro aa s σ H D I h;refine wpAny_execs_cons (aR (h1 aa s σ H D I h) fun f a q=>?_);cases f with
 |next=>exact wpAny_execs_nil q
 |ret v=>exact q
 |brk=>exact q
 |cont=>exact q
def Inv.quiet{aa:Ψ}{σ:St}{H:Hp}{s:Shared}(I:Inv X aa σ H s):interactive X.env=false:=by simp[interactive,I.ok.kind]
def Jl(te:TE):TS:=fun D σ H=>te σ H fun _ H1=>D.nx σ H1
def kw(b:PE X e te)(c:swapsWith e none pos.line X.env=pure false:=by rfl):PS X (.Expr e pos) (Jl te):=by
 intro aa s σ H D I h;exact wpAny_Expr_any (aR (b aa s σ H _ I h) fun v f ⟨x,H1,d,r1,a⟩=>⟨σ,H1,d,a⟩) I.quiet c
def Cv(te:TE):TS:=fun D σ H=>te σ H D.rt
def zB(b:PE X e te):PS X (.Return (some e) pos) (Cv te):=by
 intro aa s σ H D I h;exact wpAny_Return_some (aR (b aa s σ H _ I h) fun v d ⟨x,H1,c,r1,a⟩=>⟨x,σ,H1,c,r1,a⟩)
def Cw(c:TT)(t u:TS):TS:=fun D σ H=>c σ H fun b H1=>if b=true then t D σ H1 else u D σ H1
def c3{c:Expr}{a b:List Stmt}{tc:TT}(hc:PT X c tc)(i:PSs X a t)(hb:PSs X b u):PS X (.If c a b pos) (Cw tc t u):=by
 intro aa s σ H D I h;refine wpAny_If (aR (hc aa s σ H _ I h) fun d e ⟨H1,g,f⟩=>?_);cases d with
 |true=>exact i aa e σ H1 D g f
 |false=>exact hb aa e σ H1 D g f
def Jm:TS:=fun _ _ _=>False
def EJ{a:List Stmt}:PSs X a Jm:=fun _ _ _ _ _ _ h=>h.elim
end
abbrev TG:=V->St->Hp->(St->Hp->Prop)->Prop
abbrev ky:=List V->St->Hp->(St->Hp->Prop)->Prop
def PG(X:Cx)(b:Expr)(t:TG):Prop:=
 ∀(aa:Ψ)(s:Shared)(σ:St)(H:Hp)(v:V)(u:Value)(Q:St->Hp->Prop),Inv X aa σ H s->RelV v u->t v σ H Q->
  wpAny (model X.prog X.w) X.A (assign b X.env u) (fun _ s'=>∃a H',Inv X aa a H' s'/\Q a H') X.xe s
def wo(X:Cx)(b:List Expr)(t:ky):Prop:=
 ∀(aa:Ψ)(s:Shared)(σ:St)(H:Hp)(vs:List V)(us:List Value)(Q:St->Hp->Prop),Inv X aa σ H s->Vals vs us->t vs σ H Q->
  wpAny (model X.prog X.w) X.A (assignInOrder ((assignEach b X.env).map (·.2)) us) (fun _ s'=>∃a H',Inv X aa a H' s'/\Q a H') X.xe s
abbrev kC:=V->V->V->Hp->(Hp->Prop)->Prop
def pB(X:Cx)(t:kC):Prop:=
 ∀(aa:Ψ)(s:Shared)(σ:St)(H:Hp)(o i v:V)(a b u:Value)(Q:Hp->Prop),Inv X aa σ H s->RelV o a->RelV i b->RelV v u->t o i v H Q->
  wpAny (model X.prog X.w) X.A (setItem a b u) (fun _ s'=>∃H',Inv X aa σ H' s'/\Q H') X.xe s
section
variable{X:Cx}{pos:Pos}
def zS(i:Nat):TG:=fun v σ H Q=>Q (σ.set i (some v)) H
def zl{i:Nat}{x:Str}(a:X.N.Nodup)(hi:X.N[i]?=some x)(hx:Loc X.env.scope x)(b:X.fn x=true\/X.env.scope.names.lookup x=some .local:=by first|exact .inl rfl|exact .inr rfl|assumption):PG X (.Name x pos) (zS i):=by
 intro aa s σ H v u Q I r h;exact wpAny_assign_Name (EF I a hi hx r (fun s' c=>⟨_,H,c,h⟩) b)
def cf:ky:=fun vs σ H Q=>vs=[]/\Q σ H
def cv(t:TG)(u:ky):ky:=fun vs σ H Q=>∃v r,vs=v::r/\t v σ H fun a H'=>u r a H' Q
def hH:wo X [] cf:=by
 intro aa s σ H vs us Q I r h;obtain⟨e,h⟩:=h;subst e;cases r;exact assignInOrder_nil ⟨σ,H,I,h⟩
def zK{e:Expr}{es:List Expr}{t:TG}{u:ky}(h1:PG X e t)(h2:wo X es u)(d:(assignEach (e::es) X.env).map (·.2)=assign e X.env::(assignEach es X.env).map (·.2):=by rfl):wo X (e::es) (cv t u):=by
 intro aa s σ H vs us Q I r h;obtain⟨v,g,e1,h⟩:=h;subst e1;cases r with
 |cons r rr=>
  rw[d];refine assignInOrder_cons (aR (h1 aa s σ H _ _ _ I r h) fun _ a ⟨b,H1,f,c⟩=>?_);exact h2 aa a b H1 _ _ Q f rr c
def ci(K:Ah)(n:Nat)(t:ky):TG:=fun v σ H Q=>∃a xs,v=.ref a/\SqT K H a xs/\xs.length=n/\t xs σ H Q
def hJ{es:List Expr}{k:Nat}{t:ky}{n:Nat}(hc:X.calm=true)(h:wo X es t)(g:(assignEach es X.env).length=n:=by rfl)(i:(assignEach es X.env).findIdx? (·.1)=none:=by rfl):PG X (.Tuple es k pos) (ci X.K n t):=by
 intro aa s σ H v u Q I r hw;obtain⟨a,xs,e1,hq,d,hw⟩:=hw;subst e1;cases r;obtain⟨l,c,f,hz⟩:=I.tuple hq;refine assign_Tuple_tuple (I.ok.hd hc) f (by simp[g,<-d,c.length]) i fun h' hx=>?_;have j:Inv X aa σ H {s with heap:=h'}:=I.kept (t':=s.toks) fun b o e=>hx b o (AB (Aq e)) e;exact h aa _ σ H xs _ Q j (by simpa using c) hw
def Cy(to a:TE)(t:kC):TG:=fun v σ H Q=>to σ H fun o H1=>a σ H1 fun i H2=>t o i v H2 fun b=>Q σ b
def fJ{o i:Expr}{to c:TE}{t:kC}(l:PE X o to)(hi:PE X i c)(p:pB X t)(q:∀v,assign (.Subscript o i pos) X.env v=(do
   let a <-holding [v] (eval o X.env)
   let b <-holding [v,a] (eval i X.env)
   standAt pos
   holding [v,a,b] (setItem a b v)
   release [v,a,b] []):=by intro _;rfl):PG X (.Subscript o i pos) (Cy to c t):=by
 intro aa s σ H v u Q I r h;rw[q];refine Af (wpAny_holding (aR (l aa s σ H _ I h) fun a d ⟨x,H1,w,r1,e⟩=>?_));refine Af (wpAny_holding (aR (hi aa d σ H1 _ w e) fun b f ⟨y,H2,z,r2,g⟩=>?_));refine Af (wpAny_standAt (Af (wpAny_holding (aR (p aa f σ H2 x y v a b u _ z r1 r2 r g) fun _ D ⟨A,C,j⟩=>?_))));exact wpAny_release ⟨σ,A,C,j⟩
def ge(te:TE)(g:TG):TS:=fun D σ H=>te σ H fun x H1=>g x σ H1 D.nx
def gg{tg e:Expr}{te:TE}{g:TG}(c:PE X e te)(hg:PG X tg g)(d:swapsWithSole [tg] e pos.line X.env=pure false:=by rfl)(hw:swappedStores [tg] e X.env=pure none:=by rfl)(h1:(assignEach [tg] X.env).map (·.2)=[assign tg X.env]:=by rfl):PS X (.Assign [tg] e pos) (ge te g):=by
 intro aa s σ H D I h;refine wpAny_Assign_stores (aR (c aa s σ H _ I h) fun v a ⟨x,H1,f,r1,b⟩=>?_) d hw;rw[h1];exact aR (hg aa a σ H1 x v _ f r1 b) fun _ i q=>q
def zp{i:Nat}{x:Str}{e:Expr}{te:TE}{aE:Pos}(b:X.N.Nodup)(hi:X.N[i]?=some x)(hx:Loc X.env.scope x)(c:PE X e te)(d:swapsWith e (some (.Name x aE)) pos.line X.env=pure false:=by rfl)(f:X.fn x=true\/X.env.scope.names.lookup x=some .local:=by first|exact .inl rfl|exact .inr rfl|assumption):PS X (.Assign [.Name x aE] e pos) (ge te (zS i)):=by
 intro aa s σ H D I h;refine wpAny_Assign_Name (aR (c aa s σ H _ I h) fun v l ⟨y,H1,g,r1,a⟩=>?_) d;exact EF g b hi hx r1 (fun o j=>⟨_,H1,j,a⟩) f
def Jn(c:TT)(tb:TS):TS:=fun D σ H=>∃W:Nat->St->Hp->Prop,(∃m,W m σ H)/\∀m σ H,W m σ H->
 c σ H fun b H1=>if b=true then ∃N:St->Hp->Prop,(∀a H',N a H'->∃d,d<m/\W d a H')/\tb {D with nx:=N,ct:=N,bk:=D.nx} σ H1 else D.nx σ H1
def ws{c:Expr}{x:List Stmt}{tc:TT}{tb:TS}(hp:PassesOwn (model X.prog X.w) X.A X.env X.xe)(hc:PT X c tc)(hb:PSs X x tb):PS X (.While c x [] pos) (Jn tc tb):=by
 intro aa s σ H D I h;obtain⟨W,⟨C,E⟩,turn⟩:=h;refine wpAny_While (codeAny_whileLoop (fun n s'=>∃r H',Inv X aa r H' s'/\W n r H') ?_ C ⟨σ,H,I,E⟩);rintro n F ⟨i,H1,G,w1⟩;refine wpAny_passesOwn hp (aR (hc aa F i H1 _ G (turn n i H1 w1)) fun b z ⟨H2,y,e⟩=>?_);cases b with
 |true=>
  obtain⟨N,u,e⟩:=e;rw[if_pos rfl];refine wpAny_passesOwn hp (aR (hb aa z i H2 _ y e) fun f J g=>?_);cases f with
  |next=>
   obtain⟨a,d,q,j⟩:=g;obtain⟨l,o,p⟩:=u a d j;exact⟨l,o,a,d,q,p⟩
  |cont=>
   obtain⟨a,d,q,j⟩:=g;obtain⟨l,o,p⟩:=u a d j;exact⟨l,o,a,d,q,p⟩
  |brk=>exact g
  |ret v=>exact g
 |false=>
  rw[if_neg AE];exact wpAny_execs_nil ⟨i,H2,y,e⟩
end
structure It where
 go:Nat->Hp->Prop
 yld:Nat->Hp->V->Hp->Prop
 stop:Nat->Hp->Prop
def cj(X:Cx)(aa:Ψ)(H:Hp)(b:Addr):Prop:=
 H b=none/\b≠X.env.locals/\b∉X.fs/\(b∈X.ex\/X.s₀⁻¹<=b)/\(∀x c,X.env.cells.lookup x=some c->c≠b)/\∀p∈X.pn++aa,p.1≠b
def Inv.fpOk{X:Cx}{aa:Ψ}{σ:St}{H H':Hp}{s:Shared}{b:Addr}(I:Inv X aa σ H s)(hb:s⁻¹<=b)(a:H' b=none):cj X aa H' b:=by
 refine⟨a,Nat.ne_of_gt (At I.lt hb),I.nofs hb,.inr (Ae I.sz hb),fun x c e z=>?_,fun p hp z=>?_⟩
 ·obtain⟨v,q⟩:=I.cell x c e
  exact absurd (At q.lt (by rw[z];exact hb)) (Nat.lt_irrefl _)
 ·exact absurd (At (Aq (I.pin p hp).1) (by rw[z];exact hb)) (Nat.lt_irrefl _)
structure Turn(P:Program)(w:World)(K:Ah)(tg:Expr)(J:It)(fp:List Addr)(it:Addr)(tn:Nat->Heap->Prop):Prop where
 mem:it∈fp
 obj:∀i h,tn i h->∀b∈fp,∃o,h.get? b=some o/\∀v,o.data≠.cell v
 keep:∀i h h',tn i h->(∀b∈fp,∀o,h.get? b=some o->h'.get? b=some o)->tn i h'
 item:∀(X:Cx),X.prog=P->X.w=w->X.K=K->X.calm=true->∀(i:Nat)(aa:Ψ)(s:Shared)(σ:St)(H:Hp)(E:Ω),Inv X aa σ H s->(∀b∈fp,cj X aa H b)->tn i s.heap->J.go i H->
  wpAny (model P w) X.A (pyNext (.ref it)) (fun r s1=>∃u,r=some u/\
   wpAny (model P w) X.A (letOwnedTupleGo tg (.ref it) u) (fun _ s2=>∃x H',Inv X aa σ H' s2/\RelV x u/\J.yld i H x H'/\tn (i+1) s2.heap/\∀b∈fp,H' b=none) E s1) E s
 done:∀(X:Cx),X.prog=P->X.w=w->X.K=K->X.calm=true->∀(i:Nat)(aa:Ψ)(s:Shared)(σ:St)(H:Hp)(E:Ω),Inv X aa σ H s->(∀b∈fp,cj X aa H b)->tn i s.heap->J.stop i H->
  wpAny (model P w) X.A (pyNext (.ref it)) (fun r s1=>r=none/\Inv X aa σ H s1) E s
 self:∀(A:Around)(i:Nat)(s:Shared)(Q:Ω)(E:Ω),tn i s.heap->Q (.ref it) s->wpAny (model P w) A (pyIter (.ref it)) Q E s
abbrev TI:=St->Hp->(It->Hp->Prop)->Prop
def Cz(X:Cx)(aa:Ψ)(σ:St)(tg:Expr)(R:It->Hp->Prop)(d:Value)(c:Shared):Prop:=
 ∃(it:Addr)(a:List Addr)(tn:Nat->Heap->Prop)(J:It)(H':Hp),d=.ref it/\Inv X aa σ H' c/\Turn X.prog X.w X.K tg J a it tn/\tn 0 c.heap/\(∀b∈a,cj X aa H' b)/\R J H'
def PI(X:Cx)(tg iter:Expr)(wi:TI):Prop:=
 ∀(aa:Ψ)(s:Shared)(σ:St)(H:Hp)(R:It->Hp->Prop),Inv X aa σ H s->wi σ H R->
  wpAny (model X.prog X.w) X.A (eval iter X.env) (fun v a=>wpAny (model X.prog X.w) X.A (pyIter v) (Cz X aa σ tg R) X.xe a) X.xe s
def CA{M:Model}{A:Around}{E:Ω}{s:Shared}{tg:Expr}{it:Addr}{u:Value}{o:Obj}{n:String}{vs:Array Value}{Q:Unit->Shared->Prop}(b:s.heap.get? it=some o)(hc:o.cls=.type n)(hd:o.data=.fields vs)(c:["enumerate","zip","dict_itemiterator","dict_reverseitemiterator","odict_iterator","itertools.zip_longest","itertools.pairwise"].contains n=false)(a:Q () s):wpAny M A (letOwnedTupleGo tg (.ref it) u) Q E s:=by
 unfold letOwnedTupleGo;cases tg<;>first
  |exact Ao a
  |(cases u<;>first
    |exact Ao a
    |(refine Af (wpAny_load b ?_);rw[hc,hd];show wpAny M A (if(["enumerate","zip","dict_itemiterator","dict_reverseitemiterator","odict_iterator","itertools.zip_longest","itertools.pairwise"].contains n&&vs[0]?==some (rawInt _))=true then _ else _) Q E s;rw[if_neg (by intro h;rw[c,Bool.false_and] at h;cases h)];exact Ao a))
def eO(K:Ah)(a:Addr):It:=
 ⟨fun i H=>∃xs x,SqL K H a xs/\xs[i]?=some x,fun i H x H'=>H'=H/\∀xs,SqL K H a xs->xs[i]?=some x,fun i H=>∃xs,SqL K H a xs/\xs.length<=i⟩
def fK(lo:Int)(n:Nat):It:=⟨fun i _=>i<n,fun i H x H'=>H'=H/\x=.int (lo+i),fun i _=>n<=i⟩
def wt{P:Program}{w:World}{K:Ah}{tg:Expr}(a it:Addr):Turn P w K tg (eO K a) [it] it (fun i h=>h.IsListIter it a i) where
 mem:=by simp
 obj:=fun i h st b hb=>by
  have e:b=it:=by simpa using hb
  subst e;obtain⟨o,e,c,d⟩:=st;exact⟨o,e,fun v z=>by rw[d] at z;cases z⟩
 keep:=fun i h h' st k=>st.at fun o e=>k it (by simp) o e
 item:=by
  intro X g hw j hc i aa s σ H E I f st hg;subst g hw j;obtain⟨xs,x,hq,hx⟩:=hg;obtain⟨F,l,p,hz⟩:=I.list hq;obtain⟨u,G,J⟩:=l.get hx;obtain⟨q,f1,f2,r,y,A⟩:=f it (by simp);refine wpAny_pyNext_list_item st p.isList (x:=u) (by simpa using G) fun h' ab C=>?_;have L:Inv X aa σ H {s with heap:=h'}:=I.turned (t':=s.toks) (fun b o hb e=>(C.2 b hb).trans e) q f1 r y A;obtain⟨o,e,c,d⟩:=id ab;exact⟨u,rfl,CA (s:={s with heap:=h'}) e c d ξ ⟨x,H,L,J,⟨rfl,fun ys hy=>by rw[I.list_inj hy hq];exact hx⟩,ab,fun b hb=>(f b hb).1⟩⟩
 done:=by
  intro X g hw j hc i aa s σ H E I f st hg;subst g hw j;obtain⟨xs,hq,hx⟩:=hg;obtain⟨F,l,p,hz⟩:=I.list hq;obtain⟨q,f1,f2,r,y,A⟩:=f it (by simp);have M:=l.length;exact wpAny_pyNext_list_end (I.ok.hd hc) st p.isList (by simp;(first|lia|omega)) fun h' D=>⟨rfl,I.turned (t':=s.toks) (fun b o hb e=>D b o hb e) q f1 r y A⟩
 self:=fun _ _ _ _ _ st h=>wpAny_pyIter_listiter st h
def Jo{P:Program}{w:World}{K:Ah}{tg:Expr}(it:Addr)(lo:Int)(n:Nat):Turn P w K tg (fK lo n) [it] it (fun i h=>IsRangeIter h it (lo+(i:Nat)*1) ((n:Int)-(i:Nat)) 1) where
 mem:=by simp
 obj:=fun i h st b hb=>by
  have e:b=it:=by simpa using hb
  subst e;exact⟨_,st,fun v z=>by
   have u:Data.fields _=Data.cell v:=z;cases u⟩
 keep:=fun i h h' st k=>k it (by simp) _ st
 item:=by
  intro X c hw d hc i aa s σ H E I a st hg;subst c hw d;obtain⟨f,f1,f2,g,j,l⟩:=a it (by simp);have W:=Walks.range (prog:=X.prog) (w:=X.w) (I.ok.hd hc) it lo 1 n;refine W.item i s _ _ hg st fun v h' tk p ab q=>?_;obtain⟨t,rfl⟩:=p;have x:Inv X aa σ H {s with heap:=h',toks:=tk}:=I.turned (fun b o hb e=>q b o (by simpa using hb) e) f f1 g j l;refine⟨_,rfl,CA (s:={s with heap:=h',toks:=tk}) (n:="range_iterator") ab rfl rfl ξ ⟨.int (lo+i),H,x,⟨t,?_⟩,⟨rfl,rfl⟩,ab,fun b hb=>(a b hb).1⟩⟩;rw[Int.mul_one]
 done:=by
  intro X c hw d hc i aa s σ H E I a st hg;subst c hw d;obtain⟨f,f1,f2,g,j,l⟩:=a it (by simp);exact wpAny_pyNext_range_end (I.ok.hd hc) st (by have:n<=i:=hg;(first|lia|omega)) fun h' r=>⟨rfl,I.turned (t':=s.toks) (fun b o hb e=>r b o hb e) f f1 g j l⟩
 self:=fun _ _ _ _ _ st h=>wpAny_pyIter_rangeiter st h
section
variable{X:Cx}{tg:Expr}
def EK(K:Ah)(tl:TE):TI:=fun σ H R=>tl σ H fun x H1=>∃a,x=.ref a/\(∃xs,SqL K H1 a xs)/\R (eO K a) H1
def zG{l:Expr}{tl:TE}(f:PE X l tl):PI X tg l (EK X.K tl):=by
 intro aa s σ H R I h;refine aR (f aa s σ H _ I h) fun v c ⟨x,H1,I1,r1,d⟩=>?_;obtain⟨a,e,⟨xs,hq⟩,q⟩:=d;subst e;cases r1;obtain⟨g,i,p,hz⟩:=I1.list hq;refine wpAny_pyIter_list p.isList ?_;refine⟨c⁻¹,[c⁻¹],_,_,H1,rfl,I1.kept (t':=c.toks) fun b o e=>Ai _ e,wt a _,⟨_,AM _ rfl,rfl,rfl⟩,fun b hb=>?_,q⟩;have e:b=c⁻¹:=by simpa using hb
 subst e;exact I1.fpOk (Ad _) (I1.hok.fresh (Ad _))
def EL{aa:Ψ}{σ:St}{H:Hp}{s:Shared}{R:It->Hp->Prop}{E:Ω}{lo hi:Int}{t u v:Tok}{tk:Nat}(I:Inv X aa σ H s)(h1:-(2 ^ 62)<=lo)(h2:lo<2 ^ 62)(a:-(2 ^ 62)<=hi)(c:hi<2 ^ 62)(q:R (fK lo (hi-lo).toNat) H):wpAny (model X.prog X.w) X.A (pyIter (.ref s⁻¹)) (Cz X aa σ tg R) E {s with heap:=s.heap.push {cls:=.type "range",data:=.fields #[.int lo t,.int hi u,.int 1 v]},toks:=tk}:=by
 refine wpAny_pyIter_range (IsRange.new ..) (small_one h1 h2 a c) ?_;have I1:Inv X aa σ H {s with heap:=s.heap.push {cls:=.type "range",data:=.fields #[.int lo t,.int hi u,.int 1 v]},toks:=tk}:=I.kept fun b o e=>Ai _ e;refine⟨(s.heap.push {cls:=.type "range",data:=.fields #[.int lo t,.int hi u,.int 1 v]}).objs.size,[(s.heap.push {cls:=.type "range",data:=.fields #[.int lo t,.int hi u,.int 1 v]}).objs.size],_,_,H,rfl,
  I1.kept (t':=tk) fun b o e=>Ai _ e,Jo _ lo (hi-lo).toNat,?_,fun b hb=>?_,q⟩
 ·have e1:lo+((0:Nat):Int)*1=lo:=by simp
  have e2:(((hi-lo).toNat:Nat):Int)-((0:Nat):Int)=Builtin.Range.rangeSize lo hi 1:=by rw[rangeSize_one];split<;>(first|lia|omega)
  show IsRangeIter _ _ (lo+((0:Nat):Int)*1) ((((hi-lo).toNat:Nat):Int)-((0:Nat):Int)) 1;rw[e1,e2];exact AM _ rfl
 ·have e:b=(s.heap.push {cls:=.type "range",data:=.fields #[.int lo t,.int hi u,.int 1 v]}).objs.size:=by simpa using hb
  subst e;exact I1.fpOk (Ad _) (I1.hok.fresh (Ad _))
def EM(ta:TA):TI:=fun σ H R=>ta σ H fun vs H1=>∃j:Int,vs=[.int j]/\-(2 ^ 62)<=j/\j<2 ^ 62/\R (fK 0 j.toNat) H1
def Jp(ta:TA):TI:=fun σ H R=>ta σ H fun vs H1=>∃i j:Int,vs=[.int i,.int j]/\(-(2 ^ 62)<=i/\i<2 ^ 62/\-(2 ^ 62)<=j/\j<2 ^ 62)/\R (fK i (j-i).toNat) H1
def iA{a:Expr}{ta:TA}{p pos:Pos}(hg:Gl X "range")(d:X.mg "range"=none)(f:PA X [a] ta)(g:starEach [a] X.env=[(false,eval a X.env)]:=by rfl):PI X tg (.Call (.Name "range" p) [a] [] pos) (EM ta):=by
 intro aa s σ H R I h;refine Call_ (jx I hg d boot_range (PyProof.Rows.callWith_type1 (aR (f pos aa s σ H _ I h) fun us l ⟨vs,H1,i,r1,b⟩=>?_) g rfl));obtain⟨j,e,b,c,q⟩:=b;subst e;cases r1 with
 |cons r rr=>
  cases rr;obtain⟨t,rfl⟩:=r;exact call_range_1 (EL i ω ω b c (by simpa using q))
def Jq{a b:Expr}{ta:TA}{p pos:Pos}(hg:Gl X "range")(o:X.mg "range"=none)(u:PA X [a,b] ta)(v:starEach [a,b] X.env=[(false,eval a X.env),(false,eval b X.env)]:=by rfl)(d:starEach [b] X.env=[(false,eval b X.env)]:=by rfl):PI X tg (.Call (.Name "range" p) [a,b] [] pos) (Jp ta):=by
 intro aa s σ H R I h;refine Call_ (jx I hg o boot_range (PyProof.Rows.callWith_type1 (aR (u pos aa s σ H _ I h) fun us x ⟨vs,H1,w,r1,c⟩=>?_) (by rw[v,d]) (by rw[d];rfl)));obtain⟨i,j,e,⟨c,f,g,l⟩,q⟩:=c;subst e;cases r1 with
 |cons r rr=>
  cases rr with
  |cons r' rr=>
   cases rr;obtain⟨t,rfl⟩:=r;obtain⟨t',rfl⟩:=r';exact call_range_2 (EL w c f g l q)
def CB(wi:TI)(g:TG)(tb:TS):TS:=fun D σ H=>wi σ H fun J H1=>∃W:Nat->Nat->St->Hp->Prop,(∃m,W 0 m σ H1)/\∀i m σ H,W i m σ H->
 (J.stop i H/\D.nx σ H)\/(J.go i H/\∃N:St->Hp->Prop,(∀a H',N a H'->∃b,b<m/\W (i+1) b a H')/\∀x H',J.yld i H x H'->g x σ H' fun c H2=>tb {D with nx:=N,ct:=N,bk:=D.nx} c H2)
def pH(a:List Addr)(h:Heap):Ψ:=a.filterMap fun b=>(h.get? b).map fun o=>(b,o)
def ww{a:List Addr}{h:Heap}{b:Addr}{o:Obj}(hb:b∈a)(e:h.get? b=some o):(b,o)∈pH a h:=List.mem_filterMap.mpr ⟨b,hb,by rw[e];rfl⟩
def Jr{a:List Addr}{h:Heap}{p:Addr×Obj}(hp:p∈pH a h):p.1∈a/\h.get? p.1=some p.2:=by
 obtain⟨b,hb,e⟩:=List.mem_filterMap.mp hp;cases q:h.get? b with
 |none=>rw[q] at e;cases e
 |some o=>
  rw[q] at e;have c:(b,o)=p:=AW e;subst c;exact⟨hb,q⟩
def Inv.pinned{aa:Ψ}{σ:St}{H:Hp}{s:Shared}{a:List Addr}(I:Inv X aa σ H s)(g:∀b∈a,cj X aa H b)(h:∀b∈a,∃o,s.heap.get? b=some o/\∀v,o.data≠.cell v):Inv X (aa++pH a s.heap) σ H s:=
 I.pins_of fun p hp=>(List.mem_append.mp hp).elim (fun z=>I.pin p (AA _ z)) fun z=>by
  obtain⟨hb,e⟩:=Jr z;obtain⟨f,f1,f2,_⟩:=g p.1 hb;obtain⟨o,c,d⟩:=h p.1 hb;rw[e] at c;cases c;exact⟨e,f,f1,f2,d⟩
def Inv.unpinned{aa pl:Ψ}{σ:St}{H:Hp}{s:Shared}(I:Inv X (aa++pl) σ H s):Inv X aa σ H s:=I.pins_of fun p hp=>I.pin p (AA _ (List.mem_append_left _ hp))
def iD{iter:Expr}{Q:List Stmt}{wi:TI}{g:TG}{tb:TS}{pos:Pos}(hp:PassesOwn (model X.prog X.w) X.A X.env X.xe)(hc:X.calm=true)(hi:PI X tg iter wi)(hg:PG X tg g)(hb:PSs X Q tb)(hs:∀x,foldedSetIterable iter X.env x=pure x:=by intro _;rfl):PS X (.For tg iter Q [] pos) (CB wi g tb):=by
 intro aa s σ H D I h;refine wpAny_For (aR (hi aa s σ H _ I h) fun v s1 h1=>aR h1 fun k9 s2 h2=>?_) hs;obtain⟨it,y,tn,J,H2,e,I2,T,cJ,f2,W,⟨m0,w0⟩,turn⟩:=h2;subst e;have c:∀{H':Hp},(∀b∈y,H' b=none)->∀b∈y,cj X aa H' b:=fun Y b hb=>⟨Y b hb,(f2 b hb).2⟩;refine codeAny_forLoop_any (fun n s'=>∃i z H',Inv X aa z H' s'/\tn i s'.heap/\(∀b∈y,H' b=none)/\W i n z H') ?_ m0 ⟨0,σ,H2,I2,cJ,fun b hb=>(f2 b hb).1,w0⟩;rintro n M ⟨i,C,E,U,O,P,w3⟩;rcases turn i n C E w3 with ⟨stop,qn⟩|⟨go,N,hN,step⟩
 ·refine wpAny_passesOwn hp (aR (T.done X rfl rfl rfl hc i aa M C E X.xe U (c P) O stop) fun r Z ⟨hr,I4⟩=>?_)
  subst hr;exact wpAny_execs_nil ⟨C,E,I4,qn⟩
 ·refine wpAny_passesOwn hp (aR (T.item X rfl rfl rfl hc i aa M C E X.xe U (c P) O go) fun r Z ⟨u,hr,h4⟩=>?_)
  subst hr;refine wpAny_passesOwn hp (aR h4 fun _ L ⟨x,S,I5,r5,y5,p,F⟩=>?_);have nh:=I5.pinned (c F) (T.obj _ _ p);refine wpAny_passesOwn hp (aR (hg _ L C S x u _ nh r5 (step x S y5)) fun _ s6 ⟨il,H6,I6,q6⟩=>?_);refine wpAny_passesOwn hp (aR (hb _ s6 il H6 _ I6 q6) fun f G l=>?_);have again:∀{a:St}{j:Hp},Inv X (aa++pH y L.heap) a j G->N a j->∃m,m<n/\∃i z H',Inv X aa z H' G/\tn i G.heap/\(∀b∈y,H' b=none)/\W i m z H':=fun{a j} I7 q=>by
   obtain⟨m',hm,w7⟩:=hN a j q;refine⟨m',hm,i+1,a,j,I7.unpinned,T.keep _ _ _ p fun b hb o e=>(I7.pin (b,o) (AA _ (AA _ (ww hb e)))).1,fun b hb=>?_,w7⟩;obtain⟨o,e,d⟩:=T.obj _ _ p b hb;exact(I7.pin (b,o) (AA _ (AA _ (ww hb e)))).2.1
  cases f with
  |next=>obtain⟨a,j,I7,q⟩:=l;exact again I7 q
  |cont=>obtain⟨a,j,I7,q⟩:=l;exact again I7 q
  |brk=>obtain⟨a,j,I7,l⟩:=l;exact⟨a,j,I7.unpinned,l⟩
  |ret v=>obtain⟨x7,a,j,I7,r7,l⟩:=l;exact⟨x7,a,j,I7.unpinned,r7,l⟩
end
def pK{K:Ah}{a:Addr}{xs:List V}{g:TG}{tb:TS}{D:Ends}{σ:St}{H:Hp}(b:Nat->St->Hp->Prop)(l:b 0 σ H)(o:∀i σ H,i<=xs.length->b i σ H->SqL K H a xs)(r:∀i x σ H,xs[i]?=some x->b i σ H->g x σ H fun d H2=>tb {D with nx:=b (i+1),ct:=b (i+1),bk:=D.nx} d H2)(hd:∀σ H,b xs.length σ H->D.nx σ H):∃W:Nat->Nat->St->Hp->Prop,(∃m,W 0 m σ H)/\∀i m σ H,W i m σ H->
   ((eO K a).stop i H/\D.nx σ H)\/((eO K a).go i H/\∃N:St->Hp->Prop,(∀f H',N f H'->∃h,h<m/\W (i+1) h f H')/\∀x H',(eO K a).yld i H x H'->g x σ H' fun d H2=>tb {D with nx:=N,ct:=N,bk:=D.nx} d H2):=by
 refine⟨fun i m σ H=>m=xs.length-i/\i<=xs.length/\b i σ H,⟨xs.length,by simp,Aw _,l⟩,?_⟩;rintro i m σ H ⟨rfl,hi,p⟩;have q:=o i σ H hi p
 by_cases c:i<xs.length
 ·refine .inr ⟨⟨xs,xs[i],q,by simp[c]⟩,b (i+1),fun f H' j=>⟨xs.length-(i+1),ω,rfl,c,j⟩,fun x H' y=>?_⟩
  obtain⟨e,y⟩:=y;subst e;exact r i x σ _ (y xs q) p
 ·have e:i=xs.length:=ω
  subst e;exact .inl ⟨⟨xs,q,Ad _⟩,hd σ H p⟩
def Js{lo:Int}{n:Nat}{g:TG}{tb:TS}{D:Ends}{σ:St}{H:Hp}(b:Nat->St->Hp->Prop)(j:b 0 σ H)(l:∀i σ H,i<n->b i σ H->g (.int (lo+i)) σ H fun c H2=>tb {D with nx:=b (i+1),ct:=b (i+1),bk:=D.nx} c H2)(hd:∀σ H,b n σ H->D.nx σ H):∃W:Nat->Nat->St->Hp->Prop,(∃m,W 0 m σ H)/\∀i m σ H,W i m σ H->
   ((fK lo n).stop i H/\D.nx σ H)\/((fK lo n).go i H/\∃N:St->Hp->Prop,(∀d H',N d H'->∃f,f<m/\W (i+1) f d H')/\∀x H',(fK lo n).yld i H x H'->g x σ H' fun c H2=>tb {D with nx:=N,ct:=N,bk:=D.nx} c H2):=by
 refine⟨fun i m σ H=>m=n-i/\i<=n/\b i σ H,⟨n,by simp,Aw _,j⟩,?_⟩;rintro i m σ H ⟨rfl,hi,p⟩
 by_cases a:i<n
 ·refine .inr ⟨a,b (i+1),fun d H' h=>⟨n-(i+1),ω,rfl,a,h⟩,fun x H' y=>?_⟩
  obtain⟨e,y⟩:=y;subst e y;exact l i σ _ a p
 ·have e:i=n:=ω
  subst e;exact .inl ⟨Ad _,hd σ H p⟩
abbrev R2:=V->V->Hp->VK->Prop
def cx(X:Cx)(f:Value->Value->Sem Value)(r:R2):Prop:=
 ∀(aa:Ψ)(s:Shared)(σ:St)(H:Hp)(x y:V)(v u:Value)(Q:VK),Inv X aa σ H s->RelV x v->RelV y u->r x y H Q->
  wpAny (model X.prog X.w) X.A (f v u) (EP X aa σ Q) X.xe s
def CC(X:Cx)(f:Value->Sem Value)(r:V->Hp->VK->Prop):Prop:=
 ∀(aa:Ψ)(s:Shared)(σ:St)(H:Hp)(x:V)(v:Value)(Q:VK),Inv X aa σ H s->RelV x v->r x H Q->
  wpAny (model X.prog X.w) X.A (f v) (EP X aa σ Q) X.xe s
def kD(X:Cx)(f:Value)(r:List V->Hp->VK->Prop):Prop:=
 ∀(aa:Ψ)(s:Shared)(σ:St)(H:Hp)(xs:List V)(us:List Value)(Q:VK),Inv X aa σ H s->Vals xs us->r xs H Q->
  wpAny (model X.prog X.w) X.A (call f us) (EP X aa σ Q) X.xe s
def bT(r:R2)(ta tb:TE):TE:=fun σ H Q=>ta σ H fun x H1=>tb σ H1 fun y H2=>r x y H2 Q
def EN(r:V->Hp->VK->Prop)(ta:TE):TE:=fun σ H Q=>ta σ H fun x H1=>r x H1 Q
def rI(C:Int->Int->Prop)(g:Int->Int->V):R2:=fun x y H Q=>∃i j,x=.int i/\y=.int j/\C i j/\Q (g i j) H
def eP(g:Int->Int->V):R2:=fun x y H Q=>∃i j,x=.int i/\y=.int j/\Q (g i j) H
def rU(g:Int->V):V->Hp->VK->Prop:=fun x H Q=>∃i,x=.int i/\Q (g i) H
section
variable{X:Cx}{a b c:Expr}{ta tb tc:TE}{pos:Pos}
def kE(l:PE X a ta)(hb:PE X b tb){aa:Ψ}{s:Shared}{σ:St}{H:Hp}{R:V->V->Hp->Prop}(I:Inv X aa σ H s)(h:ta σ H fun x H1=>tb σ H1 fun y H2=>R x y H2){Q:Ω}{f:Value->Value->Sem Value}(o:∀v u c x y H2,Inv X aa σ H2 c->RelV x v->RelV y u->R x y H2->wpAny (model X.prog X.w) X.A (f v u) Q X.xe c):wpAny (model X.prog X.w) X.A (eval a X.env) (fun v d=>wpAny (model X.prog X.w) X.A (eval b X.env) (fun u e=>wpAny (model X.prog X.w) X.A (f v u) Q X.xe e) X.xe d) X.xe s:=by
 refine aR (l aa s σ H _ I h) fun v g ⟨x,H1,p,r1,i⟩=>?_;refine aR (hb aa g σ H1 _ p i) fun u c ⟨y,H2,q,r2,j⟩=>?_;exact o v u c x y H2 q r1 r2 j
def zD{c:Operator}{r:R2}(g:cx X (binaryOp c) r)(i:PE X a ta)(hb:PE X b tb):PE X (.BinOp a c b pos) (bT r ta tb):=by
 intro aa s σ H Q I h;exact wpAny_BinOp (kE i hb I h fun v u d x y H2 j e f q=>g aa d σ H2 x y v u Q j e f q)
def jC{b:UnaryOp}{r:V->Hp->VK->Prop}(e:CC X (unaryOp b) r)(f:PE X a ta):PE X (.UnaryOp b a pos) (EN r ta):=by
 intro aa s σ H Q I h;exact UnaryOp_ (aR (f aa s σ H _ I h) fun v c ⟨x,H1,g,r1,d⟩=>e aa c σ H1 x v Q g r1 d)
def m4{f:Value->Value->Sem Value}{C:Int->Int->Prop}{g:Int->Int->Int}(rule:∀(i j:Int)(t u:Tok)(s:Shared)(Q:Ω)(E:Ω),C i j->Q (.int (g i j) s.toks) {s with toks:=s.toks+1}->wpAny (model X.prog X.w) X.A (f (.int i t) (.int j u)) Q E s):cx X f (rI C fun i j=>.int (g i j)):=by
 intro aa s σ H x y v u Q I a b h;obtain⟨i,j,rfl,rfl,hc,q⟩:=h;obtain⟨t,rfl⟩:=a;obtain⟨t',rfl⟩:=b;exact rule i j t t' s _ _ hc ⟨.int (g i j),H,I.tok _,⟨_,rfl⟩,q⟩
def pL{f:Value->Value->Sem Value}{g:Int->Int->Int}(rule:∀(i j:Int)(t u:Tok)(s:Shared)(Q:Ω)(E:Ω),Q (.int (g i j) s.toks) {s with toks:=s.toks+1}->wpAny (model X.prog X.w) X.A (f (.int i t) (.int j u)) Q E s):cx X f (eP fun i j=>.int (g i j)):=by
 intro aa s σ H x y v u Q I a b h;obtain⟨i,j,rfl,rfl,q⟩:=h;obtain⟨t,rfl⟩:=a;obtain⟨t',rfl⟩:=b;exact rule i j t t' s _ _ ⟨.int (g i j),H,I.tok _,⟨_,rfl⟩,q⟩
def iE{f:Value->Value->Sem Value}{g:Int->Int->Bool}(rule:∀(i j:Int)(t u:Tok)(s:Shared)(Q:Ω)(E:Ω),Q (.bool (g i j)) s->wpAny (model X.prog X.w) X.A (f (.int i t) (.int j u)) Q E s):cx X f (eP fun i j=>.bl (g i j)):=by
 intro aa s σ H x y v u Q I a b h;obtain⟨i,j,rfl,rfl,q⟩:=h;obtain⟨t,rfl⟩:=a;obtain⟨t',rfl⟩:=b;exact rule i j t t' s _ _ ⟨.bl (g i j),H,I,rfl,q⟩
def pN(i j:Int):Prop:=0<j/\j<1073741824
def pO(i j:Int):Prop:=0<=j/\j<=1000000/\i.natAbs<2 ^ 64
def CMul(i j:Int):Prop:=(-(2 ^ 64)<i/\i<2 ^ 64)\/(-(2 ^ 64)<j/\j<2 ^ 64)
def CMul.ok{i j:Int}(h:CMul i j):IntMulOk i j:=by
 rcases h with ⟨h1,h2⟩|⟨h1,h2⟩
 ·exact .of_left (intBits_le_64 h1 h2)
 ·exact .of_right (intBits_le_64 h1 h2)
def dW:cx X (binaryOp .Add) (eP fun i j=>.int (i+j)):=pL fun _ _ _ _ _ _ _ q=>add_int q
def eX:cx X (binaryOp .Sub) (eP fun i j=>.int (i-j)):=pL fun _ _ _ _ _ _ _ q=>sub_int q
def jD:cx X (binaryOp .Mult) (rI CMul fun i j=>.int (i*j)):=m4 fun _ _ _ _ _ _ _ hc q=>mul_int q hc.ok
def CG:cx X (binaryOp .FloorDiv) (rI pN fun i j=>.int (i / j)):=m4 fun i j _ _ _ _ _ hc q=>by
 have h1:(0:Int)<j:=hc.1;have h2:j<1073741824:=hc.2;exact floordiv_int ω (by rw[Int.fdiv_eq_ediv_of_nonneg i ω];exact q) (.inl (PyProof.noPylong_small ω))
def iI:cx X (binaryOp .Mod) (rI (fun _ j=>0<j) fun i j=>.int (i%j)):=m4 fun i j _ _ _ _ _ hc q=>by
 have h1:(0:Int)<j:=hc;exact mod_int' ω (by rw[Int.fmod_eq_emod_of_nonneg i ω];exact q)
def CH:cx X (binaryOp .Pow) (rI pO fun i j=>.int (i ^ j.toNat)):=m4 fun _ _ _ _ _ _ _ hc q=>pow_int_small hc.1 hc.2.1 hc.2.2 q
def Jt{f:Value->Sem Value}{g:Int->Int}(rule:∀(i:Int)(t:Tok)(s:Shared)(Q:Ω)(E:Ω),Q (.int (g i) s.toks) {s with toks:=s.toks+1}->wpAny (model X.prog X.w) X.A (f (.int i t)) Q E s):CC X f (rU fun i=>.int (g i)):=by
 intro aa s σ H x v Q I a h;obtain⟨i,rfl,q⟩:=h;obtain⟨t,rfl⟩:=a;exact rule i t s _ _ ⟨.int (g i),H,I.tok _,⟨_,rfl⟩,q⟩
def jF:CC X (unaryOp .USub) (rU fun i=>.int (-i)):=Jt fun _ _ _ _ _ q=>neg_int q
end
def pU:V->V->Bool
 |.non,.non=>true|.non,.int _=>true|.int _,.non=>true|.non,.bl _=>true|.bl _,.non=>true|.non,.str _=>true|.str _,.non=>true
 |.int _,.int _=>true|.bl _,.bl _=>true|.str _,.str _=>true|.byt _,.byt _=>true
 |.int _,.str _=>true|.str _,.int _=>true|.bl _,.str _=>true|.str _,.bl _=>true
 |_,_=>false
def EO:R2:=fun x y H Q=>pU x y=true/\Q (.bl (decide (x=y))) H
def wz:R2:=fun x y H Q=>pU x y=true/\Q (.bl (!decide (x=y))) H
def kG{i j:Int}:decide (V.int i=V.int j)=(i==j):=by
 rw[Bool.eq_iff_iff];simp
def gh{i j:Bool}:decide (V.bl i=V.bl j)=(i==j):=by
 rw[Bool.eq_iff_iff];simp
def EQ{i j:Str}:decide (V.str i=V.str j)=(i==j):=by
 rw[Bool.eq_iff_iff];simp
def ER{i j:Array UInt8}:decide (V.byt i=V.byt j)=(i.toList==j.toList):=by
 rw[Bool.eq_iff_iff];cases i;cases j;simp
section
variable{X:Cx}{a b c:Expr}{ta tb tc:TE}{pos:Pos}
def aq{aa:Ψ}{σ:St}{H:Hp}{s:Shared}{Q:VK}{k a:Bool}(I:Inv X aa σ H s)(q:Q (.bl k) H)(e:k=a):EP X aa σ Q (.bool a) s:=by
 subst e;exact⟨.bl k,H,I,rfl,q⟩
def gs:cx X (compareOp .Eq) EO:=by
 intro aa s σ H x y v u Q I c a h;obtain⟨b,q⟩:=h;cases x with
 |non=>
  cases c;cases y with
  |non=>cases a;exact PySem.EqNone.eq_none_none (aq I q (by simp))
  |bl j=>cases a;exact PySem.EqNone.eq_none_bool (aq I q (by simp))
  |int j=>obtain⟨t',rfl⟩:=a;exact PySem.EqNone.eq_none_int (aq I q (by simp))
  |str j=>obtain⟨t',rfl⟩:=a;exact PySem.EqNone.eq_none_str (aq I q (by simp))
  |_=>exact absurd (show false=true from b) AE
 |bl i=>
  cases c;cases y with
  |non=>cases a;exact PySem.EqNone.eq_bool_none (aq I q (by simp))
  |bl j=>cases a;exact eq_bool (aq I q gh)
  |str j=>obtain⟨t',rfl⟩:=a;exact PySem.EqMixed.eq_bool_str (aq I q (by simp))
  |_=>exact absurd (show false=true from b) AE
 |int i=>
  obtain⟨t,rfl⟩:=c;cases y with
  |non=>cases a;exact PySem.EqNone.eq_int_none (aq I q (by simp))
  |int j=>obtain⟨t',rfl⟩:=a;exact eq_int (aq I q kG)
  |str j=>obtain⟨t',rfl⟩:=a;exact PySem.EqMixed.eq_int_str (aq I q (by simp))
  |_=>exact absurd (show false=true from b) AE
 |str i=>
  obtain⟨t,rfl⟩:=c;cases y with
  |non=>cases a;exact PySem.EqNone.eq_str_none (aq I q (by simp))
  |bl j=>cases a;exact PySem.EqMixed.eq_str_bool (aq I q (by simp))
  |int j=>obtain⟨t',rfl⟩:=a;exact PySem.EqMixed.eq_str_int (aq I q (by simp))
  |str j=>obtain⟨t',rfl⟩:=a;exact eq_str (aq I q EQ)
  |_=>exact absurd (show false=true from b) AE
 |byt i=>
  obtain⟨t,rfl⟩:=c;cases y with
  |byt j=>obtain⟨t',rfl⟩:=a;exact PySem.W.eq_bytes (aq I q ER)
  |_=>exact absurd (show false=true from b) AE
 |_=>cases y<;>exact absurd (show false=true from b) AE
def iJ:cx X (compareOp .NotEq) wz:=by
 intro aa s σ H x y v u Q I c a h;obtain⟨b,q⟩:=h;cases x with
 |non=>
  cases c;cases y with
  |non=>cases a;exact PySem.EqNone.ne_none_none (aq I q (by simp))
  |bl j=>cases a;exact PySem.EqNone.ne_none_bool (aq I q (by simp))
  |int j=>obtain⟨t',rfl⟩:=a;exact PySem.EqNone.ne_none_int (aq I q (by simp))
  |str j=>obtain⟨t',rfl⟩:=a;exact PySem.EqNone.ne_none_str (aq I q (by simp))
  |_=>exact absurd (show false=true from b) AE
 |bl i=>
  cases c;cases y with
  |non=>cases a;exact PySem.EqNone.ne_bool_none (aq I q (by simp))
  |bl j=>cases a;exact ne_bool (aq I q (congrArg not gh))
  |str j=>obtain⟨t',rfl⟩:=a;exact PySem.EqMixed.ne_bool_str (aq I q (by simp))
  |_=>exact absurd (show false=true from b) AE
 |int i=>
  obtain⟨t,rfl⟩:=c;cases y with
  |non=>cases a;exact PySem.EqNone.ne_int_none (aq I q (by simp))
  |int j=>obtain⟨t',rfl⟩:=a;exact ne_int (aq I q (congrArg not kG))
  |str j=>obtain⟨t',rfl⟩:=a;exact PySem.EqMixed.ne_int_str (aq I q (by simp))
  |_=>exact absurd (show false=true from b) AE
 |str i=>
  obtain⟨t,rfl⟩:=c;cases y with
  |non=>cases a;exact PySem.EqNone.ne_str_none (aq I q (by simp))
  |bl j=>cases a;exact PySem.EqMixed.ne_str_bool (aq I q (by simp))
  |int j=>obtain⟨t',rfl⟩:=a;exact PySem.EqMixed.ne_str_int (aq I q (by simp))
  |str j=>obtain⟨t',rfl⟩:=a;exact ne_str (aq I q (congrArg not EQ))
  |_=>exact absurd (show false=true from b) AE
 |byt i=>
  obtain⟨t,rfl⟩:=c;cases y with
  |byt j=>obtain⟨t',rfl⟩:=a;exact PySem.W.ne_bytes (aq I q (congrArg not ER))
  |_=>exact absurd (show false=true from b) AE
 |_=>cases y<;>exact absurd (show false=true from b) AE
def CI:cx X (compareOp .Lt) (eP fun i j=>.bl (decide (i<j))):=iE fun _ _ _ _ _ _ _ q=>lt_int q
def ES:cx X (compareOp .LtE) (eP fun i j=>.bl (decide (i<=j))):=iE fun _ _ _ _ _ _ _ q=>le_int q
def jI:cx X (compareOp .Gt) (eP fun i j=>.bl (decide (j<i))):=iE fun _ _ _ _ _ _ _ q=>gt_int q
def Ju:cx X (compareOp .GtE) (eP fun i j=>.bl (decide (j<=i))):=iE fun _ _ _ _ _ _ _ q=>ge_int q
def ao(b:Expr){a:CmpOp}(h:a≠.In:=by decide)(h2:a≠.NotIn:=by decide):behindInMarks a b=false:=by
 have e1:(a==CmpOp.In)=false:=by cases a<;>first|rfl|exact absurd rfl h
 have e2:(a==CmpOp.NotIn)=false:=by cases a<;>first|rfl|exact absurd rfl h2
 cases b<;>simp[behindInMarks,e1,e2]
def m5{c:CmpOp}{r:R2}(g:cx X (compareOp c) r)(i:PE X a ta)(hb:PE X b tb)(j:behindInMarks c b=false):PE X (.Compare a [c] [b] pos) (bT r ta tb):=by
 intro aa s σ H Q I h;exact wpAny_Compare1 (kE i hb I h fun v u d x y H2 l e f q=>g aa d σ H2 x y v u Q l e f q) j
def wR(t:TE):TT:=fun σ H Q=>t σ H fun x H'=>∃k,x=.bl k/\Q k H'
def zA{d:CmpOp}{r:R2}(p:cx X (compareOp d) r)(q:PE X a ta)(hb:PE X b tb)(w:behindInMarks d b=false):PT X (.Compare a [d] [b] pos) (wR (bT r ta tb)):=by
 intro aa s σ H Q I h;refine wpAny_isTrue_Compare1 (aR (q aa s σ H _ I h) fun v f ⟨x,H1,A,r1,g⟩=>aR (hb aa f σ H1 _ A g) fun u i ⟨y,H2,C,r2,j⟩=>
  aR (p aa i σ H2 x y v u _ C r1 r2 j) fun c F ⟨z,D,E,l,k,e,o⟩=>?_) w
 subst e;cases l;exact wpAny_truthy_bool ⟨D,E,o⟩
def Jv(r c:R2)(ta tb tc:TE):TE:=fun σ H Q=>ta σ H fun x H1=>tb σ H1 fun y H2=>r x y H2 fun z a=>∃k,z=.bl k/\
 (if k=true then tc σ a fun b d=>c y b d Q else Q (.bl false) a)
def Jw{f g:CmpOp}{r j:R2}(M:cx X (compareOp f) r)(N:cx X (compareOp g) j)(O:PE X a ta)(hb:PE X b tb)(hc:PE X c tc)(P:lastMarks [f,g] [b,c]=false:=by with_unfolding_all rfl):PE X (.Compare a [f,g] [b,c] pos) (Jv r j ta tb tc):=by
 intro aa s σ H Q I h;refine Compare_chain (aR (O aa s σ H _ I h) fun v p ⟨x,H1,S,r1,q⟩=>chain_link (aR (hb aa p σ H1 _ S q) fun u w ⟨y,H2,T,r2,A⟩=>
  aR (M aa w σ H2 x y v u _ T r1 r2 A) fun d C ⟨z,l,o,D,k,e,i⟩=>?_)) P
 subst e;cases D;refine wpAny_truthy_bool ?_;cases k with
 |false=>exact ite_ff ⟨.bl false,l,o,rfl,i⟩
 |true=>exact ite_tt (chain_last (aR (hc aa C σ l _ o i) fun E F ⟨G,U,W,J,L⟩=>N aa F σ U y G u E Q W r2 J L))
def dv:(sizeLine:Nat)<2 ^ 63:=by rw[sizeLine_eq];decide
def vals1{x:V}{us:List Value}(r:Vals [x] us):∃u,us=[u]/\RelV x u:=by
 cases r with
 |cons r1 r2=>cases r2;exact⟨_,rfl,r1⟩
def vals2{x y:V}{us:List Value}(r:Vals [x,y] us):∃u a,us=[u,a]/\RelV x u/\RelV y a:=by
 cases r with
 |cons r1 r2=>
  cases r2 with
  |cons r3 r4=>cases r4;exact⟨_,_,rfl,r1,r3⟩
end
structure CJ(h:Heap)(x dx C:Addr)(mA:Str->Option Value):Prop where
 obj:h.get? x=some (PySem.W.instObj C dx)
 ns:h.Ns1 dx mA
 ne:dx≠x
def RelO.some_of{v:V}{o:Option Value}(r:RelO (some v) o):∃u,o=some u/\RelV v u:=by
 cases o with
 |none=>exact(show False from r).elim
 |some u=>exact⟨u,rfl,r⟩
section
variable{P:Program}{w:World}{H H':Hp}{h h':Heap}{a C dx:Addr}{fs tQ:List (Str×V)}
def CK(b:HOk P w H h)(e:H a=some (.ins C dx fs)):∃mA,CJ h a dx C mA/\(∀f,RelO (fs.lookup f) (mA f))/\PySem.Within mA (fs.map (·.1))/\fs.length<=1000/\H dx=some (.own a):=by
 obtain⟨d,z,ne,c,mA,n,r,q⟩:=(show zak P w H h a (.ins C dx fs) from b a _ e);exact⟨mA,⟨c,n,ne⟩,r,q,z,d⟩
end
structure Cls(K:Ah)(C:Addr):Prop where
 pg:PySem.W.plainGet K C Str.empty=true
 hd:PySem.W.hasDictIn K C=true
 po:PySem.W.plainOver K C=true
 sa:PySem.W.findIn K (.ref C) "__setattr__"=some (some (.builtin "object.__setattr__"))
def Cls.get{K:Ah}{C:Addr}(c:Cls K C)(f:Str):PySem.W.plainGet K C f=true:=c.pg
structure Room(k:Nat)(A:Around):Prop where
 hd:A.handled=none
 dp:A.depth+3*k+5<recursionLimit
 un:A.units+16*k+200<cLine
def Room.mono{j k:Nat}{A:Around}(r:Room k A)(h:j<=k):Room j A:=⟨r.hd,by have:=r.dp;(first|lia|omega),by have:=r.un;(first|lia|omega)⟩
def Room.deeper{k:Nat}{A:Around}(r:Room (k+1) A)(env:Env):Room k (A.deeper env):=
 ⟨r.hd,by have:=r.dp;show A.depth+1+3*k+5<_;(first|lia|omega),by have:=r.un;show A.units+3+16*k+200<_;(first|lia|omega)⟩
def Room.in1{k:Nat}{A:Around}(r:Room (k+1) A):Room k A.in1:=
 ⟨r.hd,by have:=r.dp;show A.depth+3*k+5<_;(first|lia|omega),by have:=r.un;show A.units+1+16*k+200<_;(first|lia|omega)⟩
def Room.depth{k:Nat}{A:Around}(r:Room k A):A.depth<recursionLimit:=by have:=r.dp;(first|lia|omega)
def Room.units{k:Nat}{A:Around}(r:Room k A):A.units+64<cLine:=by have:=r.un;(first|lia|omega)
def ca:TA:=fun _ H Q=>Q [] H
def cy(ta:TE)(tr:TA):TA:=fun σ H Q=>ta σ H fun x H1=>tr σ H1 fun xs H2=>Q (x::xs) H2
section
variable{X:Cx}{e:Expr}{es:List Expr}{te:TE}{t:TA}{pos:Pos}
def zc:PA X [] ca:=fun _ _ _ _ H Q I h=>Calls.spliced_nil ⟨[],H,I,.nil,h⟩
def za(d:PE X e te)(hr:PA X es t)(f:starEach (e::es) X.env=(false,eval e X.env)::starEach es X.env:=by rfl):PA X (e::es) (cy te t):=by
 intro pos aa s σ H Q I h;rw[f];show wpAny _ _ (spliced ((false,eval e X.env)::backTo pos (starEach es X.env))) _ _ s;refine Calls.spliced_cons (aR (d aa s σ H _ I h) fun u a ⟨x,H1,g,r1,b⟩=>?_);exact aR (hr pos aa a σ H1 _ g b) fun us j ⟨xs,H2,i,r2,c⟩=>⟨x::xs,H2,i,.cons r1 r2,c⟩
def CL(t:TA):TE:=fun σ H Q=>t σ H fun xs H1=>xs.length<=sizeLine/\∀p,H1 p=none->Q (.ref p) (upd H1 p (.tup xs))
def CM(t:TA):TE:=fun σ H Q=>t σ H fun xs H1=>xs.length<=sizeLine/\∀p,H1 p=none->Q (.ref p) (upd H1 p (.lst xs))
def gt{x1}(h:PA X es t):PE X (.Tuple es x1 pos) (CL t):=by
 intro aa s σ H Q I hq;refine wpAny_Tuple_spliced (aR (h pos aa s σ H _ I hq) fun us a ⟨xs,H1,I1,r,z,q⟩=>⟨by rw[<-r.length];exact z,?_⟩);have c:H1 a⁻¹=none:=I1.hok.fresh (Ad _);refine⟨.ref a⁻¹,upd H1 a⁻¹ (.tup xs),I1.laid (t':=a.toks) (fun b u e=>Ai _ e) (Ad _) ?_,rfl,q _ c⟩;exact⟨z,us,r,⟨_,AM _ rfl,rfl,_,rfl⟩⟩
def ek(h:PA X es t):PE X (.List es pos) (CM t):=by
 intro aa s σ H Q I hq;refine wpAny_List_spliced (aR (h pos aa s σ H _ I hq) fun us a ⟨xs,H1,I1,r,z,q⟩=>⟨by rw[<-r.length];exact z,?_⟩);have c:H1 a⁻¹=none:=I1.hok.fresh (Ad _);refine⟨.ref a⁻¹,upd H1 a⁻¹ (.lst xs),I1.laid (t':=a.toks) (fun b u e=>Ai _ e) (Ad _) ?_,rfl,q _ c⟩;exact⟨z,us,0,r,AM _ rfl⟩
end
abbrev Sp:=List V->Hp->VK->XK->Prop
abbrev eY:=List Env->Hp->Shared->XK->Ω
structure Env0(P:Program)(w:World)(K:Ah)(mg:Str->Option Value)(base:Heap)(A:Around)(outer:List Env)(s:Shared)(H:Hp):Prop where
 frames:A.frames=some outer
 mod:Mod K mg base
 bs:∀b o,base.get? b=some o->s.heap.get? b=some o/\H b=none
 bsz:base.objs.size<=s⁻¹
 funs:s.heap.FunFrames base outer
 frf:∀b∈frs outer,H b=none
 hok:HOk P w H s.heap
 bare:AllBare s.gens
def CE(outer:List Env)(P:Program)(w:World)(H:Hp)(s:Shared)(Q:VK)(u:Value)(s':Shared):Prop:=
 ∃v H',s'.os=s.os/\AllBare s'.gens/\Un (frs outer) [] H H' s.heap s'.heap/\HOk P w H' s'.heap/\RelV v u/\Q v H'
def CR(CX:eY)(outer:List Env)(P:Program)(w:World)(H:Hp)(s:Shared)(Q:VK)(E:XK)(r:Result)(s':Shared):Prop:=
 match r with
 |.ok (.ret u)=>CE outer P w H s Q u s'
 |.ok _=>False
 |.error e=>CX outer H s E e s'
structure am(P:Program)(w:World)(K:Ah)(mg:Str->Option Value)(base:Heap)(CX:eY)(k:Nat)(f:Addr)(fd:FuncData)(ps:List Str)(sp:Sp):Prop where
 len:∀vs H Q E,sp vs H Q E->vs.length=ps.length
 run:∀(A:Around)(outer:List Env)(s:Shared)(H:Hp)(args:Args)(us:List Value)(vs:List V)(Q:VK)(E:XK),Room k A->Env0 P w K mg base A outer s H->BindsTo s fd args (ps.zip us)->Vals vs us->sp vs H Q E->
  codeAny (model P w) A (.call (.ref f) args) (CR CX outer P w H s Q E) s
def Env0.in1{P:Program}{w:World}{K:Ah}{mg:Str->Option Value}{base:Heap}{A:Around}{outer:List Env}{s:Shared}{H:Hp}(e:Env0 P w K mg base A outer s H):Env0 P w K mg base A.in1 outer s H:=⟨e.frames,e.mod,e.bs,e.bsz,e.funs,e.frf,e.hok,e.bare⟩
section
variable{X:Cx}{aa:Ψ}{σ:St}{H:Hp}{s s':Shared}
def Inv.env0(I:Inv X aa σ H s):Env0 X.prog X.w X.K X.mg X.base X.A X.stack s H:=
 ⟨I.ok.frames,I.ok.mod,I.bs,Ae I.ok.bsz I.sz,I.stack,I.stkFree,I.hok,I.bare⟩
def Inv.after{Q:VK}{u:Value}(I:Inv X aa σ H s)(h:CE X.stack X.prog X.w H s Q u s'):EP X aa σ Q u s':=by
 obtain⟨v,H',os,a,un,c,r,q⟩:=h;obtain⟨e,g,d,t,f⟩:=s';obtain rfl:f=s.os:=os;exact⟨v,H',I.call (h':=e) (g':=g) (d':=d) (t':=t) (ch:=[]) un c a (fun b z=>absurd z (by simp)),r,q⟩
end
def hV(sp:Sp)(eZ:List V)(E:XK)(t:TA):TE:=fun σ H Q=>t σ H fun vs H1=>sp (vs++eZ) H1 Q E
def Binds(K:Ah)(fd:FuncData)(ps:List Str)(ds:List Value):Prop:=
 ∀(s:Shared)(us:List Value),K.In s.heap->(us++ds).length=ps.length->BindsTo s fd ⟨us,[]⟩ (ps.zip (us++ds))
def Binds.all{K:Ah}{fd:FuncData}{ps:List Str}(h:∀us:List Value,us.length=ps.length->bindArgs fd ⟨us,[]⟩=pure (ps.zip us)):Binds K fd ps []:=fun s us _ a=>by
 rw[List.append_nil] at a ⊢;exact .of_eq (h us a)
def ey(CX:eY)(X:Cx)(E:XK):Prop:=∀(aa:Ψ)(σ:St)(H:Hp)(s:Shared)(e:Value)(s':Shared),Inv X aa σ H s->CX X.stack H s E e s'->X.xe e s'
section
variable{X:Cx}{CX:eY}{k:Nat}{f C:Addr}{fd:FuncData}{ps:List Str}{sp:Sp}{eZ:List V}{ds:List Value}{E:XK}{x m:Str}{p pos bW:Pos}{e o:Expr}{es:List Expr}{ta:TE}{t:TA}
def Jx{aa:Ψ}{σ:St}{H:Hp}{s:Shared}{Q:VK}{us:List Value}{vs:List V}(F:am X.prog X.w X.K X.mg X.base CX k f fd ps sp)(hr:Room k X.A)(hb:Binds X.K fd ps ds)(hd:Vals eZ ds)(hx:ey CX X E)(I:Inv X aa σ H s)(r:Vals vs us)(h:sp (vs++eZ) H Q E):wpAny (model X.prog X.w) X.A (call (.ref f) us) (EP X aa σ Q) X.xe s:=by
 have r2:Vals (vs++eZ) (us++ds):=r.append hd;have a:(us++ds).length=ps.length:=by rw[<-r2.length];exact F.len _ _ _ _ h
 refine wpAny_call (codeAny_mono (F.run X.A X.stack s H ⟨us,[]⟩ (us++ds) (vs++eZ) Q E hr I.env0 (hb s us I.kIn a) r2 h) fun r s' hq=>?_);cases r with
 |error e=>exact hx aa σ H s e s' I hq
 |ok fl=>
  cases fl with
  |ret u=>exact I.after hq
  |next=>exact False.elim hq
  |brk=>exact False.elim hq
  |cont=>exact False.elim hq
def zg(F:am X.prog X.w X.K X.mg X.base CX k f fd ps sp)(hr:Room k X.A)(hg:Gl X x)(b:X.mg x=some (.ref f))(hk:PySem.W.keepIn X.K (.ref f)=true)(hb:Binds X.K fd ps ds)(hd:Vals eZ ds)(hx:ey CX X E)(c:PA X (e::es) t)(d:(x==("__debug__":Str))=false:=by decide)(g:starEach (e::es) X.env=(false,eval e X.env)::starEach es X.env:=by rfl)(a:(backTo pos (starEach es X.env)).any (·.1)=false:=by rfl):PE X (.Call (.Name x p) (e::es) [] pos) (hV sp eZ E t):=by
 intro aa s σ H Q I h;refine wpAny_Call_Name_kw (EG I hg b ?_ d);refine PySem.W.callWith_K (h₀:=X.base) I.ok.mod.kin hk (aR (c pos aa s σ H _ I h) fun us i ⟨vs,H1,I1,r,q⟩=>⟨I1.kIn,?_⟩) g a;exact Jx F hr hb hd hx I1 r q
end
structure zo(N P:List Str)(sc:Scope):Prop where
 kind:sc.kind=.function
 co:sc.isCoroutine=false
 gen:sc.isGenerator=false
 nd:N.Nodup
 pre:N.take P.length=P
 par:∀x∈P,sc.names.lookup x=some .local\/sc.names.lookup x=some .cell
 nofree:∀y∈sc.names,y.2≠.free
def ET{kindOf:Str->Option NameKind}{x:Str}:∀{binds:List (Str×Value)}{m:Str->Option Value},(∀v,(x,v)∉binds)->bindL kindOf binds m x=m x
 |[],_,_=>rfl
 |(n,v)::r,m,h=>by
  unfold bindL;rw[ET fun w hw=>h w (AG _ hw)];split
  ·have:x≠n:=by rintro rfl;exact h v AC
   simp[this]
  ·rfl
def EU{kindOf:Str->Option NameKind}{x:Str}:∀{binds:List (Str×Value)}{m:Str->Option Value},(∀v,(x,v)∉binds)->bindC kindOf binds m x=m x
 |[],_,_=>rfl
 |(n,v)::r,m,h=>by
  unfold bindC;rw[EU fun w hw=>h w (AG _ hw)];split
  ·rfl
  ·have:x≠n:=by rintro rfl;exact h v AC
   simp[this]
def EV{kindOf:Str->Option NameKind}{x:Str}{v:Value}:∀{P:List Str}{vs:List Value}{i:Nat}{m:Str->Option Value},P.Nodup->P[i]?=some x->vs[i]?=some v->kindOf x=some .local->
  bindL kindOf (P.zip vs) m x=some v
 |[],_,_,_,_,h,_,_=>by simp at h
 |_::_,[],_,_,_,_,h,_=>by simp at h
 |p::P,w::vs,0,m,nd,h1,h2,hk=>by
  simp at h1 h2;subst h1;subst h2;show bindL kindOf ((p,w)::P.zip vs) m p=_;unfold bindL;rw[ET fun v a=>(List.nodup_cons.mp nd).1 (List.of_mem_zip a).1,if_pos hk];simp
 |p::P,w::vs,i+1,m,nd,h1,h2,hk=>by
  show bindL kindOf ((p,w)::P.zip vs) m x=_;unfold bindL;exact EV (i:=i) (List.nodup_cons.mp nd).2 (by simpa using h1) (by simpa using h2) hk
def EW{kindOf:Str->Option NameKind}{x:Str}{v:Value}:∀{P:List Str}{vs:List Value}{i:Nat}{m:Str->Option Value},P.Nodup->P[i]?=some x->vs[i]?=some v->kindOf x≠some .local->
  bindC kindOf (P.zip vs) m x=some v
 |[],_,_,_,_,h,_,_=>by simp at h
 |_::_,[],_,_,_,_,h,_=>by simp at h
 |p::P,w::vs,0,m,nd,h1,h2,hk=>by
  simp at h1 h2;subst h1;subst h2;show bindC kindOf ((p,w)::P.zip vs) m p=_;unfold bindC;rw[EU fun v a=>(List.nodup_cons.mp nd).1 (List.of_mem_zip a).1,if_neg hk];simp
 |p::P,w::vs,i+1,m,nd,h1,h2,hk=>by
  show bindC kindOf ((p,w)::P.zip vs) m x=_;unfold bindC;exact EW (i:=i) (List.nodup_cons.mp nd).2 (by simpa using h1) (by simpa using h2) hk
def start(N:List Str)(vs:List V):St:=vs.map some++An (N.length-vs.length) none
def b3(CX:eY)(P:Program)(w:World)(K:Ah)(mg:Str->Option Value)(base:Heap)(N:List Str)(a:Str)(scope:Scope)(f:Addr)(b:Value)(A:Around)(outer:List Env)(s:Shared)(H:Hp)(E:XK):Cx where
 prog:=P
 w:=w
 K:=K
 mg:=mg
 base:=base
 A:=A.deeper (envOfC a scope s⁻¹ f b)
 N:=N
 s₀:=s
 H₀:=H
 env:=envOfC a scope s⁻¹ f b
 outer:=outer
 stack:=envOfC a scope s⁻¹ f b::outer
 ex:=[]
 calm:=true
 fn:=fun _=>true
 pn:=[]
 xe:=fun e s'=>wpAny (model P w) (A.deeper (envOfC a scope s⁻¹ f b)) (leaving (envOfC a scope s⁻¹ f b) e) (fun _ c=>CX outer H s E e c) (fun d c=>CX outer H s E d c) s'
def EX{sc:Scope}{n:Nat}{x:Str}(h:sc.names.lookup x=some .cell):∃c,(cellsFrom n sc.names []).lookup x=some c:=by
 have q:=PySem.W.cellsFrom_some sc.names n [] (.inl h);exact Option.isSome_iff_exists.mp q
def Jy{CX:eY}{P:Program}{w:World}{K:Ah}{mg:Str->Option Value}{base:Heap}{N ps:List Str}{j:Str}{scope:Scope}{f:Addr}{l:Value}{A:Around}{outer:List Env}{s D:Shared}{H:Hp}{E:XK}{us:List Value}{vs:List V}(S:zo N ps scope)(hd:A.handled=none)(d:Env0 P w K mg base A outer s H)(L:vs.length=ps.length)(r:Vals vs us)(x:InCallC s s⁻¹ (bindL (envOfC j scope s⁻¹ f l).kindOf (ps.zip us) fun _=>none) (cellsFrom (s⁻¹+1) scope.names []) (bindC (envOfC j scope s⁻¹ f l).kindOf (ps.zip us) fun _=>none) D):Inv (b3 CX P w K mg base N j scope f l A outer s H E) [] (start N vs) H D:=by
 have G:ps.length<=N.length:=by have:=congrArg List.length S.pre;rw[List.length_take] at this;(first|lia|omega)
 obtain⟨h1,tk,rfl,hk⟩:=x.done;have o:∀b:Addr,b∉(b3 CX P w K mg base N j scope f l A outer s H E).ex:=fun b z=>absurd (show b∈([]:List Addr) from z) (by simp);refine⟨⟨d.mod,S.kind,rfl,rfl,Ad _,fun y z c h1 h2=>?_,fun y hy=>?_,fun y c _ h=>?_,fun _=>hd,Around.frames_deeper d.frames,.inr ⟨rfl,rfl⟩,fun b z=>absurd z (o b),d.bs,d.bsz,fun b _ _=>o b,fun b z=>absurd z (o b),d.funs,d.frf⟩,
  rfl,d.bare,Un.kept hk,⟨_,x.toInCall.ns,fun i y v h1 h2 J=>?_⟩,fun y c h=>⟨_,x.cell y c h⟩,d.hok.fresh (Ad _),fun y c h=>?_,fun p hp=>absurd (show p∈([]:Ψ) from hp) (by simp),d.hok.kept hk,?_⟩
 ·exact name_of_addr x.apart (PySem.mem_of_lookup h1) (PySem.mem_of_lookup h2)
 ·have hy:scope.names.lookup y=some .cell\/scope.names.lookup y=some .free:=hy
  rcases hy with hy|hy
  ·exact EX hy
  ·exact absurd rfl (S.nofree _ (PySem.mem_of_lookup hy))
 ·exact Nat.le_of_lt (x.above y c (PySem.mem_of_lookup h))
 ·have hi:i<vs.length:=by
   unfold start at h2
   by_cases hi:i<vs.length
   ·exact hi
   ·rw[List.getElem?_append_right (by simpa using hi)] at h2
    rw[List.getElem?_replicate] at h2;split at h2<;>cases h2
  have I:vs[i]?=some v:=by
   unfold start at h2;rw[List.getElem?_append_left (by simpa using hi),Aj] at h2;cases e:vs[i]? with
   |none=>rw[e] at h2;cases h2
   |some a=>rw[e] at h2;cases h2;rfl
  obtain⟨u,C,F⟩:=r.get I;have hp:ps[i]?=some y:=by
   rw[<-S.pre,List.getElem?_take_of_lt ω];exact h1
  have g:ps.Nodup:=by rw[<-S.pre];exact S.nd.sublist (List.take_sublist _ _)
  refine⟨u,F,?_⟩;rcases S.par y (Al hp) with k|k
  ·exact .inl ⟨k,EV g hp C k⟩
  ·obtain⟨c,e⟩:=EX (n:=s⁻¹+1) k
   refine .inr ⟨.inl k,c,e,?_⟩;have q:=x.cell y c e;rw[EW g hp C (by show scope.names.lookup y≠_;rw[k];decide)] at q;exact q
 ·exact d.hok.fresh (Nat.le_of_lt (x.above y c (PySem.mem_of_lookup h)))
 ·unfold start
  show _=N.length;rw[AK,Aa,A7];(first|lia|omega)
def Jz{CX:eY}{P:Program}{w:World}{K:Ah}{mg:Str->Option Value}{base:Heap}{k:Nat}{f:Addr}{name a:Str}{p:Arguments}{i:List Stmt}{scope:Scope}{z kV C D c ct oc:Value}{F od:Option Addr}{O:Array (Option Value)}{N ps:List Str}{sp:Sp}(lk:K.lookup f=some ⟨oc,od,.func (PySem.W.fnOf name a p i scope z kV C D F c ct),O⟩)(T:PySem.W.codeIn K c a=true)(S:zo N ps scope)(len:∀vs H Q E,sp vs H Q E->vs.length=ps.length)(dG:∀(A:Around)(outer:List Env)(s:Shared)(H:Hp)(vs:List V)(Q:VK)(E:XK),Room k (A.deeper (envOfC a scope s⁻¹ f c))->sp vs H Q E->
   ∃t,PSs (b3 CX P w K mg base N a scope f c A outer s H E) i t/\t {nx:=fun _ H'=>Q .non H',rt:=Q} (start N vs) H):
  am P w K mg base CX (k+1) f (PySem.W.fnOf name a p i scope z kV C D F c ct) ps sp:=by
 refine⟨len,fun A outer s H args us vs Q E hr g hb r G=>?_⟩;have Z:=len _ _ _ _ G;have M:K.In s.heap:=g.mod.kin.keeps fun b o e=>(g.bs b o e).1;have l:s.heap.NoLimit:=g.mod.nolimit.keeps fun b o e=>(g.bs b o e).1;have iX:∀y∈ps.zip us,scope.names.lookup y.1=some .local\/(scope.names.lookup y.1=some .cell/\((cellsFrom (s⁻¹+1) scope.names []).lookup y.1).isSome=true):=fun⟨n,v⟩ hy=>by
  rcases S.par n (List.of_mem_zip hy).1 with q|q
  ·exact .inl q
  ·exact .inr ⟨q,PySem.W.cellsFrom_some _ _ _ (.inl q)⟩
 refine codeAny_call_function hr.depth (M _ _ lk) rfl S.co S.gen rfl (PySem.W.codeRec_of M T) (hb _ _ _ _ ?_);refine wpAny_newFunctionEnv_cells S.kind iX fun env U L x=>?_;subst U;refine⟨l.keeps x.toInCall.keep,codeAny_func ?_⟩;obtain⟨t,Y,hq⟩:=dG A outer s H vs Q E (hr.deeper _) G;have I:Inv (b3 CX P w K mg base N a scope f c A outer s H E) [] (start N vs) H L:=Jy S hr.hd g Z r x;refine wpAny_mono (Y [] L (start N vs) H _ I hq) (fun X s' d=>?_) fun e s' d=>d;have fin:∀{h:St}{H':Hp}{v:V}{u:Value},Inv (b3 CX P w K mg base N a scope f c A outer s H E) [] h H' s'->RelV v u->Q v H'->CE outer P w H s Q u s':=
  fun{h H' v u} J j q=>⟨v,H',J.os,J.bare,J.base,J.hok,j,q⟩
 cases X with
 |ret u=>
  obtain⟨v,h,H',J,j,q⟩:=d;exact fin J j q
 |next=>
  obtain⟨h,H',J,q⟩:=d;exact fin (v:=V.non) (u:=Value.none) J rfl q
 |brk=>
  obtain⟨_,_,_,q⟩:=d;exact False.elim q
 |cont=>
  obtain⟨_,_,_,q⟩:=d;exact False.elim q
section
variable{X:Cx}{x:Str}{p pos:Pos}{e:Expr}{es:List Expr}{t:TA}{id T:String}{r:List V->Hp->VK->Prop}
def m_(r:List V->Hp->VK->Prop)(t:TA):TE:=fun σ H Q=>t σ H fun vs H1=>r vs H1 Q
def zv(hc:kD X (.builtin id) r)(hg:Gl X x)(d:X.mg x=none)(f:Bk x=some (.builtin id))(g:PA X (e::es) t)(i:x≠"__name__":=by decide)(j:(x==("__debug__":Str))=false:=by decide)
  (l:starEach (e::es) X.env=(false,eval e X.env)::starEach es X.env:=by rfl) (a:(backTo pos (starEach es X.env)).any (·.1)=false:=by rfl):PE X (.Call (.Name x p) (e::es) [] pos) (m_ r t):=by
 intro aa s σ H Q I h;refine wpAny_Call_Name_kw (jx I hg d f ?_ i j);exact PyProof.Rows.callWith_builtin1 (aR (g pos aa s σ H _ I h) fun us b ⟨vs,H1,o,r1,c⟩=>hc aa b σ H1 vs us Q o r1 c) l a
def zY(hc:kD X (.type T) r)(hg:Gl X x)(d:X.mg x=none)(f:Bk x=some (.type T))(g:PA X (e::es) t)(i:x≠"__name__":=by decide)(j:(x==("__debug__":Str))=false:=by decide)
  (l:starEach (e::es) X.env=(false,eval e X.env)::starEach es X.env:=by rfl) (a:(backTo pos (starEach es X.env)).any (·.1)=false:=by rfl):PE X (.Call (.Name x p) (e::es) [] pos) (m_ r t):=by
 intro aa s σ H Q I h;refine wpAny_Call_Name_kw (jx I hg d f ?_ i j);exact PyProof.Rows.callWith_type1 (aR (g pos aa s σ H _ I h) fun us b ⟨vs,H1,o,r1,c⟩=>hc aa b σ H1 vs us Q o r1 c) l a
end
end L2
namespace HT
open PySem PyProof.Rows
def lexLt:List Int->List Int->Bool
 |[],[]=>false
 |[],_::_=>true
 |_::_,[]=>false
 |x::xs,y::ys=>if x=y then lexLt xs ys else decide (x<y)
def pV(x y:Int)(xs ys:List Int):lexLt (x::xs) (y::ys)=if x=y then lexLt xs ys else decide (x<y):=rfl
def JA:lexLt [] []=false:=rfl
section
open PySem.SeqAt
open PySem.AutoSeq1 (wpAny_loadPart')
open PySem.MeetsSeq PySem.MeetsSeq2 PySem.MeetsSeq3
end
section
variable{prog:Program}{w:World}{A:Around}{E:Ω}{s:Shared}
def dI(n d:Nat):Option Int->Nat
 |none=>d
 |some v=>if v<0 then(v+(n:Int)).toNat else min v.toNat n
def EY(n d:Nat):dI n d none=d:=rfl
def EZ(n d k:Nat):dI n d (some (k:Int))=min k n:=by
 show(if(k:Int)<0 then((k:Int)+(n:Int)).toNat else min (k:Int).toNat n)=min k n;rw[if_neg ω,Bj]
end
end HT
namespace L2
open PySem PySem.Spec PyProof.Rows
abbrev TO:=St->Hp->(Option Int->Hp->Prop)->Prop
def PO(X:Cx)(e:Option Expr)(t:TO):Prop:=
 ∀(aa:Ψ)(s:Shared)(σ:St)(H:Hp)(Q:Option Int->Hp->Prop),Inv X aa σ H s->t σ H Q->
  wpAny (model X.prog X.w) X.A (evalPart e X.env) (fun u s'=>∃o H',Inv X aa σ H' s'/\IsPart u o/\Q o H') X.xe s
def CN:TO:=fun _ H Q=>Q none H
def CO(t:TE):TO:=fun σ H Q=>t σ H fun x H1=>∃i,x=.int i/\Q (some i) H1
def intsAre_of{ns:List Int}:∀{us:List Value},Vals (ns.map V.int) us->IntsAre us ns:=by
 induction ns with
 |nil=>intro us r;rw[List.map_nil] at r;cases r;exact .nil
 |cons n ns ih=>
  intro us r;rw[AY] at r;cases r with
  |cons r1 r2=>
   obtain⟨t,e⟩:=r1;subst e;exact .cons n t (ih r2)
section
variable{X:Cx}{e:Expr}{te:TE}{lo hi:Option Expr}{tl th:TO}{pos p2:Pos}
def xa:PO X none CN:=by
 intro aa s σ H Q I h;rw[evalPart_none];exact Ao ⟨none,H,I,.none,h⟩
def xk(h:PE X e te):PO X (some e) (CO te):=by
 intro aa s σ H Q I hw;rw[evalPart_some];refine aR (h aa s σ H _ I hw) fun u c ⟨x,H1,b,r1,a⟩=>?_;obtain⟨i,rfl,q⟩:=a;obtain⟨t,rfl⟩:=r1;exact⟨some i,H1,b,.int i t,q⟩
def E1(X:Cx)(r:V->Option Int->Option Int->Hp->VK->Prop):Prop:=
 ∀(aa:Ψ)(s:Shared)(σ:St)(H:Hp)(x:V)(v vl a:Value)(lo hi:Option Int)(b:Addr)(Q:VK),Inv X aa σ H s->RelV x v->s.heap.IsSliceOf b vl a .none->IsPart vl lo->IsPart a hi->r x lo hi H Q->
  ∃T id,typeLookup (.type T) "__getitem__"=pure (some (.builtin id))/\s.TypeIs v T/\wpAny (model X.prog X.w) X.A (getItem v (.ref b)) (EP X aa σ Q) X.xe s
def CP(r:V->Option Int->Option Int->Hp->VK->Prop)(te:TE)(tl th:TO):TE:=fun σ H Q=>te σ H fun x H1=>tl σ H1 fun l H2=>th σ H2 fun u a=>r x l u a Q
def xl{r:V->Option Int->Option Int->Hp->VK->Prop}(hr:E1 X r)(C:PE X e te)(D:PO X lo tl)(E:PO X hi th):PE X (.Subscript e (.Slice lo hi none p2) pos) (CP r te tl th):=by
 intro aa s σ H Q I h;refine Subscript_ (aR (C aa s σ H _ I h) fun v f ⟨x,H1,F,r1,g⟩=>?_);refine wpAny_Slice (aR (D aa f σ H1 _ F g) fun vl i ⟨l,H2,G,pl,j⟩=>aR (E aa i σ H2 _ G j) fun c a ⟨u,d,I3,o,p⟩=>?_);rw[evalPart_none];refine Ao ?_;have J:Inv X aa σ d {a with heap:=a.heap.push {cls:=.type "slice",data:=.fields #[vl,c,.none]}}:=I3.kept (t':=a.toks) fun b L q=>Ai _ q;obtain⟨T,id,y,z,hg⟩:=hr aa {a with heap:=a.heap.push {cls:=.type "slice",data:=.fields #[vl,c,.none]}} σ d x v vl c l u a⁻¹ Q J r1 (Heap.IsSliceOf.new ..) pl o p;show wpAny (model X.prog X.w) X.A (subscriptTail e (.Slice lo hi none p2) v (.ref a⁻¹)) (EP X aa σ Q) X.xe {a with heap:=a.heap.push {cls:=.type "slice",data:=.fields #[vl,c,.none]}};exact tail_any (ops:=[.ref a⁻¹,v]) z y hg (by with_unfolding_all rfl)
def dL(xs:List V)(lo hi:Option Int):List V:=(xs.drop (HT.dI xs.length 0 lo)).take (HT.dI xs.length xs.length hi-HT.dI xs.length 0 lo)
def JB(xs:List V)(lo hi:Option Int):(dL xs lo hi).length<=xs.length:=by
 unfold dL;rw[List.length_take,List.length_drop];(first|lia|omega)
end
def fN(n:Nat)(i:Int):Option Nat:=if 0<=i then(if i<n then some i.toNat else none) else if -(n:Int)<=i then some (i+n).toNat else none
def atI{a:Type}(xs:List a)(i:Int):Option a:=(fN xs.length i).bind fun j=>xs[j]?
def E2{n:Nat}{i:Int}{j:Nat}(h:fN n i=some j):seqIndex? i n=some j/\j<n/\-(n:Int)<=i/\i<n:=by
 unfold fN at h
 by_cases a:0<=i
 ·rw[if_pos a] at h
  by_cases h1:i<n
  ·rw[if_pos h1] at h
   have e:i.toNat=j:=AW h;exact⟨by rw[seqIndex_of a h1,e],ω,ω,h1⟩
  ·rw[if_neg h1] at h;cases h
 ·rw[if_neg a] at h
  by_cases h1:-(n:Int)<=i
  ·rw[if_pos h1] at h
   have e:(i+n).toNat=j:=AW h;exact⟨by rw[seqIndex_neg ω h1,e],ω,h1,ω⟩
  ·rw[if_neg h1] at h;cases h
def E3{a:Type}{xs:List a}{i:Int}{v:a}(h:atI xs i=some v):∃j,seqIndex? i xs.length=some j/\xs[j]?=some v/\j<xs.length/\-(xs.length:Int)<=i/\i<xs.length:=by
 unfold atI at h;cases e:fN xs.length i with
 |none=>rw[e] at h;cases h
 |some j=>
  rw[e] at h;obtain⟨h1,h2,b,c⟩:=E2 e;exact⟨j,h1,h,h2,b,c⟩
def zj{a:Type}{xs:List a}{j:Nat}{v:a}(h:xs[j]?=some v):atI xs (j:Int)=some v:=by
 have b:j<xs.length:=(List.getElem?_eq_some_iff.mp h).1;have e:fN xs.length (j:Int)=some j:=by
  unfold fN;rw[if_pos ω,if_pos ω];simp
 unfold atI;rw[e];exact h
def JC(b:Expr):Prop:=∀o i,subscripted b false o i=operate [o,i] (getItem o i)
def CQ(X:Cx)(r:R2):Prop:=
 ∀(aC slice:Expr)(aa:Ψ)(s:Shared)(σ:St)(H:Hp)(x y:V)(v u:Value)(Q:VK),Inv X aa σ H s->RelV x v->RelV y u->r x y H Q->
  subscripted slice false v u=operate [v,u] (getItem v u)->wpAny (model X.prog X.w) X.A (subscriptTail aC slice v u) (EP X aa σ Q) X.xe s
def E4(X:Cx)(id:String)(r:V->List V->Hp->VK->Prop):Prop:=
 ∀(aa:Ψ)(s:Shared)(σ:St)(H:Hp)(x:V)(xs:List V)(v:Value)(us:List Value)(Q:VK),Inv X aa σ H s->RelV x v->Vals xs us->r x xs H Q->
  wpAny (model X.prog X.w) X.A (call (.builtin id) (v::us)) (EP X aa σ Q) X.xe s
section
variable{X:Cx}{a b:Expr}{ta tb:TE}{pos:Pos}
def zw{r:R2}(hr:CQ X r)(f:PE X a ta)(hb:PE X b tb)(g:JC b):PE X (.Subscript a b pos) (bT r ta tb):=by
 intro aa s σ H Q I h;exact Subscript_ (kE f hb I h fun v u c x y H2 i d e q=>hr a b aa c σ H2 x y v u Q i d e q (g _ _))
def e8(K:Ah):R2:=fun x y H Q=>∃p xs i v,x=.ref p/\y=.int i/\SqL K H p xs/\atI xs i=some v/\Q v H
def p0(K:Ah):R2:=fun x y H Q=>∃p xs i v,x=.ref p/\y=.int i/\SqT K H p xs/\atI xs i=some v/\Q v H
def zq:CQ X (e8 X.K):=by
 intro aC slice aa s σ H x y v u Q I e f h b;obtain⟨p,xs,i,z,rfl,rfl,hq,g,q⟩:=h;cases e;obtain⟨t,rfl⟩:=f;obtain⟨l,r,pl,hz⟩:=I.list hq;obtain⟨j,h1,h2,E,o,A⟩:=E3 g;obtain⟨w,c,C⟩:=r.get h2;have D:=r.length;have F:=dv;have fin:EP X aa σ Q w s:=⟨z,H,I,C,q⟩
 by_cases d:0<=i
 ·have a:i.toNat=j:=by
   rw[seqIndex_of d A] at h1;exact AW h1
  exact item_listR pl.isList d ω (by rw[a];simpa using c) fin b
 ·have a:(i+(l.toArray.size:Int)).toNat=j:=by
   rw[seqIndex_neg ω o] at h1;rw[Av,<-D];exact AW h1
  exact subscriptTail_builtinR (x:=w) pl.isList.typeIs slot_list_getitem.lookup
   (wpAny_getItem_list_neg (Q:=fun r s'=>r=w/\EP X aa σ Q r s') pl.isList ω (by rw[Av]<;>(first|lia|omega)) ω (by rw[a];simpa using c) ⟨rfl,fin⟩) b
def zL:CQ X (p0 X.K):=by
 intro aC slice aa s σ H x y v u Q I a b h c;obtain⟨p,xs,i,z,rfl,rfl,hq,d,q⟩:=h;cases a;obtain⟨t,rfl⟩:=b;obtain⟨l,r,pl,hz⟩:=I.tuple hq;obtain⟨j,h1,h2,o,A,C⟩:=E3 d;obtain⟨w,e,f⟩:=r.get h2;have g:=r.length;have D:=dv;have fin:EP X aa σ Q w s:=⟨z,H,I,f,q⟩;exact subscriptTail_builtinR (x:=w) pl.typeIs slot_tuple_getitem.lookup
  (getItem_tuple (j:=j) (Q:=fun r s'=>r=w/\EP X aa σ Q r s') pl ω ω (by rw[Av,<-g];exact h1) (by simpa using e) ⟨rfl,fin⟩) c
def JD(a:List Value)(n j:Nat)(u:Value):Obj.mapSeq (·.setIfInBounds j u) {cls:=.type "list",data:=.seq a.toArray n}={cls:=.type "list",data:=.seq (a.set j u).toArray n}:=by
 simp[Obj.mapSeq]
def Inv.lst{aa:Ψ}{σ:St}{H:Hp}{s:Shared}{p:Addr}{xs:List V}(I:Inv X aa σ H s)(h:H p=some (.lst xs)):∃(a:List Value)(n:Nat),Vals xs a/\s.heap.get? p=some {cls:=.type "list",data:=.seq a.toArray n}/\xs.length<=sizeLine:=by
 obtain⟨z,a,n,r,e⟩:=I.hok p _ h;exact⟨a,n,r,e,z⟩
def Inv.lstUpd{aa:Ψ}{σ:St}{H:Hp}{s:Shared}{p:Addr}{xs ys:List V}{c its':List Value}{n a:Nat}{f:Obj->Obj}(I:Inv X aa σ H s)(h:H p=some (.lst xs))(g:s.heap.get? p=some {cls:=.type "list",data:=.seq c.toArray n})(d:f {cls:=.type "list",data:=.seq c.toArray n}={cls:=.type "list",data:=.seq its'.toArray a})(r:Vals ys its')(hz:ys.length<=sizeLine)(t:Nat):Inv X aa σ (upd H p (.lst ys)) {s with heap:=s.heap.update p f,toks:=t}:=by
 have e:(s.heap.update p f).get? p=some {cls:=.type "list",data:=.seq its'.toArray a}:=by
  rw[Heap.get?_update_self f g (by rw[d]<;>rfl),d]
 refine I.write (x:=p) (e:=p) (by rw[h];trivial) (.inl rfl) (fun b u hb q=>(Heap.get?_update_other _ _ (Ne.symm hb)).trans q) ⟨_,e⟩ ?_;exact⟨hz,its',a,r,e⟩
def JE:V->V->V->Hp->(Hp->Prop)->Prop:=fun o i v H Q=>∃p xs k j,o=.ref p/\i=.int k/\H p=some (.lst xs)/\fN xs.length k=some j/\Q (upd H p (.lst (xs.set j v)))
def set_list:pB X JE:=by
 intro aa s σ H o i v z A u Q I l w x h;obtain⟨p,xs,k,j,rfl,rfl,hp,y,q⟩:=h;cases l;obtain⟨t,rfl⟩:=w;obtain⟨c,n,r,a,hz⟩:=I.lst hp;obtain⟨h1,h2,d,e⟩:=E2 y;have b:=r.length;have C:=dv;have g:Inv X aa σ (upd H p (.lst (xs.set j v))) {s with heap:=s.heap.update p (Obj.mapSeq (·.setIfInBounds j u))}:=
  I.lstUpd hp a (JD c n j u) (r.set x j) (by rw[List.length_set];exact hz) s.toks
 by_cases f:0<=k
 ·have hk:k.toNat=j:=by
   rw[seqIndex_of f e] at h1;exact AW h1
  exact PySem.W.ki_setAt a f ω (by rw[Av,<-b];exact e) (by rw[hk];exact⟨_,g,q⟩)
 ·have hk:(k+(c.toArray.size:Int)).toNat=j:=by
   rw[seqIndex_neg ω d] at h1;rw[Av,<-b];exact AW h1
  exact PySem.W.ki_setBack a ω (by rw[Av,<-b];exact d) ω (by rw[hk];exact⟨_,g,q⟩)
def JF(lo hi:Option Int)(n:Nat):(sliceBounds lo hi none n).1=((HT.dI n 0 lo:Nat):Int)/\(sliceBounds lo hi none n).2.1=((HT.dI n n hi:Nat):Int)/\(sliceBounds lo hi none n).2.2=1:=by
 refine⟨?_,?_,rfl⟩
 ·cases lo with
  |none=>simp[sliceBounds,HT.dI]
  |some i=>
   simp only[sliceBounds,HT.dI,Option.getD_none,show(1:Int)>0 from ξ,if_true]
   by_cases h:i<0
   ·simp only[h,if_true]<;>(first|lia|omega)
   ·simp only[h,if_false]<;>(first|lia|omega)
 ·cases hi with
  |none=>simp[sliceBounds,HT.dI]
  |some i=>
   simp only[sliceBounds,HT.dI,Option.getD_none,show(1:Int)>0 from ξ,if_true]
   by_cases h:i<0
   ·simp only[h,if_true]<;>(first|lia|omega)
   ·simp only[h,if_false]<;>(first|lia|omega)
def JG(a:List Value)(lo hi:Option Int):slicePick a.toArray lo hi none=((a.drop (HT.dI a.length 0 lo)).take (HT.dI a.length a.length hi-HT.dI a.length 0 lo)).toArray:=by
 obtain⟨h1,h2,b⟩:=JF lo hi a.toArray.size;unfold slicePick;rw[h1,h2,b];simp only[sliceRange_one,pick_run,Av]<;>rfl
def kH(K:Ah):V->Option Int->Option Int->Hp->VK->Prop:=fun x lo hi H Q=>∃a xs,x=.ref a/\SqL K H a xs/\∀p,H p=none->Q (.ref p) (upd H p (.lst (dL xs lo hi)))
def xn:E1 X (kH X.K):=by
 intro aa s σ H x v vl i lo hi j Q I d e pl f h;obtain⟨a,xs,rfl,hx,q⟩:=h;cases d;obtain⟨p,r,c,hz⟩:=I.list hx;have g:=r.length;refine⟨"list",_,slot_list_getitem.lookup,c.isList.typeIs,?_⟩;refine wpAny_getItem_list_slice c.isList e pl f .none (by simp) ?_ (by rw[Av]<;>(first|lia|omega));rw[JG,<-g];refine⟨.ref s⁻¹,_,I.laid (t':=s.toks) (o:=.lst (dL xs lo hi)) (fun b l q=>Ai _ q) (Ad _) ?_,rfl,q _ (I.hok.fresh (Ad _))⟩;exact⟨Ae (JB xs lo hi) hz,_,0,(r.drop (HT.dI xs.length 0 lo)).take (HT.dI xs.length xs.length hi-HT.dI xs.length 0 lo),AM _ rfl⟩
def zn:kD X (.builtin "len") (fun xs H Q=>∃p ys,xs=[.ref p]/\(SqL X.K H p ys\/SqT X.K H p ys)/\Q (.int ys.length) H):=by
 intro aa s σ H xs us Q I r h;obtain⟨p,ys,rfl,hq,q⟩:=h;obtain⟨u,rfl,c⟩:=vals1 r;cases c;have e:=dv;rcases hq with hq|hq
 ·obtain⟨d,a,pl,hz⟩:=I.list hq
  have b:=a.length;exact Calls.call_len_list pl.isList (by simp only[Av]<;>(first|lia|omega)) ⟨.int ys.length,H,I.tok _,⟨s.toks+1,by rw[Av,b]⟩,q⟩
 ·obtain⟨d,a,pl,hz⟩:=I.tuple hq
  have b:=a.length;exact len_tuple pl (by simp only[Av]<;>(first|lia|omega)) ⟨.int ys.length,H,I.tok _,⟨s.toks+1,by rw[Av,b]⟩,q⟩
def zM:kD X (.type "list") (fun xs H Q=>∃p ys,xs=[.ref p]/\(SqL X.K H p ys\/SqT X.K H p ys)/\∀l,H l=none->Q (.ref l) (upd H l (.lst ys))):=by
 intro aa s σ H xs us Q I r h;obtain⟨p,ys,rfl,hq,q⟩:=h;obtain⟨u,rfl,g⟩:=vals1 r;cases g;have fin:∀(a:List Value),Vals ys a->ys.length<=sizeLine->∀(h':Heap)(d:Nat),(∀b o',s.heap.get? b=some o'->h'.get? b=some o')->
   h'.get? s⁻¹=some {cls:=.type "list",dict:=none,data:=.seq a.toArray d,slots:=#[]}->EP X aa σ Q (.ref s⁻¹) {s with heap:=h'}:=fun a c hz h' d kp e=>
  ⟨.ref s⁻¹,_,I.laid (t':=s.toks) kp (Ad _) (show zak X.prog X.w _ h' _ (.lst ys) from⟨hz,a,d,c,e⟩),rfl,q _ (I.hok.fresh (Ad _))⟩
 rcases hq with hq|hq
 ·obtain⟨a,c,pl,hz⟩:=I.list hq
  have i:=c.length;obtain⟨o,f,hc,n,hd⟩:=pl.isList;exact call_list_seq p (.inl rfl) f hc hd (fun h' d kp e=>fin a c hz h' d kp e) (by simp only[Av]<;>(first|lia|omega))
 ·obtain⟨a,c,pl,hz⟩:=I.tuple hq
  have i:=c.length;obtain⟨o,f,hc,n,hd⟩:=pl;exact call_list_seq p (.inr rfl) f hc hd (fun h' d kp e=>fin a c hz h' d kp e) (by simp only[Av]<;>(first|lia|omega))
def JH:kD X (.type "tuple") (fun xs H Q=>∃p ys,xs=[.ref p]/\((SqL X.K H p ys/\∀l,H l=none->Q (.ref l) (upd H l (.tup ys)))\/(SqT X.K H p ys/\Q (.ref p) H))):=by
 intro aa s σ H xs us Q I r h;obtain⟨p,ys,rfl,h⟩:=h;obtain⟨u,rfl,d⟩:=vals1 r;cases d;rcases h with ⟨hq,q⟩|⟨hq,q⟩
 ·obtain⟨a,c,pl,hz⟩:=I.list hq
  have g:=c.length;refine call_tuple_list pl.isList (fun h' kp=>?_) (by simp only[Av]<;>(first|lia|omega));have I1:Inv X aa σ H {s with heap:=h'}:=I.kept (t':=s.toks) kp;have f:Inv X aa σ (upd H h'.objs.size (.tup ys)) {s with heap:=h'.push {cls:=.type "tuple",data:=.seq a.toArray}}:=
   I1.laid (t':=s.toks) (fun b o e=>Ai _ e) (Ad _) (show zak X.prog X.w _ _ _ (.tup ys) from⟨hz,a,c,IsTup.new _ _⟩)
  exact⟨.ref h'.objs.size,_,f,rfl,q _ (I1.hok.fresh (Ad _))⟩
 ·obtain⟨a,c,pl,hz⟩:=I.tuple hq
  exact call_tuple_same pl ⟨.ref p,H,I,rfl,q⟩
def E5(K:Ah)(T:String)(x:V)(H:Hp):Prop:=match x with
 |.str _=>T="str"
 |.int _=>T="int"
 |.ref p=>(T="list"/\∃xs,SqL K H p xs)\/(T="tuple"/\∃o,K.lookup p=some o/\o.cls=.type "tuple"/\o.dict=none) \/
   (T="dict"/\((∃kvs,H p=some (.dK kvs))\/∃kvs,H p=some (.dT kvs)))\/(T="set"/\∃S n,H p=some (.set S n))
 |_=>False
def JI{aa:Ψ}{σ:St}{H:Hp}{s:Shared}{T:String}{x:V}{v:Value}(I:Inv X aa σ H s)(r:RelV x v)(ty:E5 X.K T x H):s.TypeIs v T/\∀a,v=.ref a->∃b,s.heap.get? a=some b/\b.dict=none:=by
 cases x with
 |str z=>
  obtain⟨t,rfl⟩:=r;cases(show T="str" from ty);exact⟨typeIs_str s z t,fun _ e=>nomatch e⟩
 |int i=>
  obtain⟨t,rfl⟩:=r;cases(show T="int" from ty);exact⟨typeIs_int s i t,fun _ e=>nomatch e⟩
 |ref p=>
  cases r;rcases ty with ⟨rfl,xs,hq⟩|⟨rfl,o,hk,hc,hd⟩|⟨rfl,hk⟩|⟨rfl,S,n,hk⟩
  ·obtain⟨d,_,pl,_⟩:=I.list hq
   refine⟨pl.isList.typeIs,fun a e=>?_⟩;cases e;obtain⟨o,n,e,c,hd,_⟩:=pl;exact⟨o,e,hd⟩
  ·refine⟨⟨o,I.kIn p o hk,hc⟩,fun a e=>?_⟩
   cases e;exact⟨o,I.kIn _ o hk,hd⟩
  ·have z:∃o,s.heap.get? p=some o/\o.ExactDict:=by
    rcases hk with ⟨kvs,hk⟩|⟨kvs,hk⟩
    ·obtain⟨_,_,_,_,o,_,_,e,ex,_⟩:=I.hok p _ hk
     exact⟨o,e,ex⟩
    ·obtain⟨_,_,_,_,o,_,_,e,ex,_⟩:=I.hok p _ hk
     exact⟨o,e,ex⟩
   obtain⟨o,e,ex⟩:=z;refine⟨⟨o,e,ex.1⟩,fun a e2=>?_⟩;cases e2;exact⟨o,e,ex.2.1⟩
  ·obtain⟨o,_,_,_,e,ex,_⟩:=I.hok p _ hk
   refine⟨⟨o,e,ex.1⟩,fun a e2=>?_⟩;cases e2;exact⟨o,e,ex.2.1⟩
 |_=>exact False.elim ty
def JJ(K:Ah)(T:String)(r:V->List V->Hp->VK->Prop)(to:TE)(t:TA):TE:=fun σ H Q=>to σ H fun x H1=>E5 K T x H1/\t σ H1 fun xs H2=>r x xs H2 Q
variable{o e:Expr}{es:List Expr}{to:TE}{t:TA}{name:Str}{bW aF:Pos}{T id:String}{r:V->List V->Hp->VK->Prop}
def CS(j:PlainAttrs T)(slot:Slot T name id)(l:typeOf (.builtin id)=pure (.type "method_descriptor"))(p:E4 X id r)(q:PE X o to)(u:PA X (e::es) t)(w:attributeBase o name X.env (eval o X.env)=eval o X.env:=by rfl)
  (y:((backTo aF (starEach (e::es) X.env)).all (fun x=>!x.1)&&(backToKw aF (keywordEach [] X.env)).all (fun x=>x.1.isSome)
   && decide ((e::es).length+([]:List Keyword).length+(if([]:List Keyword).isEmpty then 0 else 1)<30))=true:=by rfl)
  (z:(bW.endLine==aF.line)=true:=by rfl) (A:starEach (e::es) X.env=(false,eval e X.env)::starEach es X.env:=by rfl) (C:(backTo aF (starEach es X.env)).any (·.1)=false:=by rfl) :
  PE X (.Call (.Attribute o name bW) (e::es) [] aF) (JJ X.K T r to t):=by
 intro aa s σ H Q I h;refine wpAny_Call_method_late w y z rfl (aR (q aa s σ H _ I h) fun v d ⟨x,H1,c,r1,ty,f⟩=>?_);obtain⟨h1,h2⟩:=JI c r1 ty;refine⟨T,id,j,slot,l,h1,h2,?_⟩;have b:=u aF aa d σ H1 _ c f;rw[A] at b ⊢;refine Calls.callWith_builtin (by show(false|| (backTo aF (starEach es X.env)).any (·.1))=false;rw[C]<;>rfl) (Calls.evalArgs_plain ?_);exact aR b fun us g ⟨vs,H2,D,r2,i⟩=>p aa g σ H2 x vs v us Q D r1 r2 i
end
def E6(X:Cx)(id:String)(r:V->List V->Hp->VK->Prop):Prop:=
 ∀(aa:Ψ)(s:Shared)(σ:St)(H:Hp)(x:V)(xs:List V)(v:Value)(us:List Value)(Q:VK),Inv X aa σ H s->RelV x v->Vals xs us->r x xs H Q->
  wpAny (model X.prog X.w) X.A (call (.builtin id) (v::us)) (EP X aa σ Q) X.xe s
def Vals.one{x:V}{us:List Value}(h:Vals [x] us):∃u,us=[u]/\RelV x u:=by
 cases h with|cons r t=>cases t;exact⟨_,rfl,r⟩
def Vals.two{x y:V}{us:List Value}(h:Vals [x,y] us):∃u v,us=[u,v]/\RelV x u/\RelV y v:=by
 cases h with|cons r t=>obtain⟨v,rfl,q⟩:=Vals.one t;exact⟨_,_,rfl,r,q⟩
def Vals.zero:∀{us:List Value},Vals [] us->us=[]
 |_,.nil=>rfl
def Vals.eraseIdx:∀{xs:List V}{us:List Value}(i:Nat),Vals xs us->Vals (xs.eraseIdx i) (us.eraseIdx i)
 |_,_,_,.nil=>.nil
 |_,_,0,.cons _ t=>t
 |_,_,i+1,.cons r t=>.cons r (Vals.eraseIdx i t)
def Vals.rep{xs:List V}{us:List Value}(h:Vals xs us):∀k:Nat,Vals (An k xs).flatten (An k us).flatten
 |0=>.nil
 |k+1=>by
  rw[List.replicate_succ,List.replicate_succ,List.flatten_cons,List.flatten_cons];exact Vals.append h (Vals.rep h k)
def foldl_rep(a:List Value):∀(k:Nat)(acc:List Value),
  List.foldl (fun x1 x2=>x1++x2) acc.toArray (An k a.toArray)=(acc++(An k a).flatten).toArray
 |0,acc=>by simp
 |k+1,acc=>by
  have e:acc.toArray++a.toArray=(acc++a).toArray:=by simp
  have e2:(acc++a)++(An k a).flatten=acc++(An (k+1) a).flatten:=by
   rw[List.replicate_succ,List.flatten_cons,List.append_assoc]
  rw[<-e2,<-foldl_rep a k (acc++a),<-e,List.replicate_succ,List.foldl_cons]
section
variable{X:Cx}{aa:Ψ}{σ:St}{H:Hp}{s:Shared}{l b:Addr}{xs ys zs:List V}
def Inv.lset{a its':List Value}{n:Nat}{f:Array Value->Array Value}{t':Nat}(I:Inv X aa σ H s)(c:H l=some (.lst xs))(e:s.heap.get? l=some {cls:=.type "list",data:=.seq a.toArray n})(d:f a.toArray=its'.toArray)(g:Vals ys its')(hz:ys.length<=sizeLine):Inv X aa σ (upd H l (.lst ys)) {s with heap:=s.heap.update l (Obj.mapSeq f),toks:=t'}:=by
 have q:=PySem.IsL.update e f;rw[d] at q;refine I.write (x:=l) (e:=l) (by rw[c];exact trivial) (.inl rfl) (fun b' u hb b=>(Heap.get?_update_other s.heap (Obj.mapSeq f) (Ne.symm hb)).trans b) ⟨_,q⟩ ?_;exact⟨hz,its',_,g,q⟩
def Inv.lnew{a:List Value}{t':Nat}(I:Inv X aa σ H s)(b:Vals ys a)(hz:ys.length<=sizeLine):Inv X aa σ (upd H s⁻¹ (.lst ys)) {s with heap:=s.heap.push {cls:=.type "list",data:=.seq a.toArray},toks:=t'}:=
 I.laid (fun _ _ q=>Ai _ q) (Ad _) ⟨hz,a,0,b,AM _ rfl⟩
def Inv.fresh(I:Inv X aa σ H s):H s⁻¹=none:=I.hok.fresh (Ad _)
def Inv.lstM(I:Inv X aa σ H s)(b:H l=some (.lst xs)):xs.length<=sizeLine/\∃(a:List Value)(n:Nat),Vals xs a/\xs.length=a.length/\s.heap.get? l=some {cls:=.type "list",data:=.seq a.toArray n}:=by
 obtain⟨z,a,n,r,e⟩:=I.hok l _ b;exact⟨z,a,n,r,r.length,e⟩
def JK{n:Nat}(h:n<=sizeLine):Builtin.List.listTooLong n=false:=by
 unfold Builtin.List.listTooLong;exact decide_eq_false ω
end
section
variable{X:Cx}
def zkC:V->List V->Hp->VK->Prop:=fun x vs H Q=>∃l xs y,x=.ref l/\vs=[y]/\H l=some (.lst xs)/\xs.length<sizeLine/\Q .non (upd H l (.lst (xs++[y])))
def E7:E6 X "list.append" zkC:=by
 intro aa s σ H x vs v us Q I c d h;obtain⟨l,xs,y,rfl,rfl,a,hz,q⟩:=h;cases c;obtain⟨u,rfl,f⟩:=d.one;obtain⟨z,b,n,r,g,e⟩:=I.lstM a;refine call_meets F.slot_list_append ⟨_,e,rfl⟩ F.entry_list_append (F.args_list_append_2 _ _) (PySem.list_append l b.toArray n u (by rw[Av];(first|lia|omega))) ⟨e,?_⟩;refine⟨.non,_,I.lset (its':=b++[u]) a e (by simp) (r.append (.cons f .nil)) ?_,rfl,q⟩;rw[AK,List.length_singleton];(first|lia|omega)
def iL:R2:=fun x y H Q=>∃l b xs zs,x=.ref l/\y=.ref b/\H l=some (.lst xs)/\H b=some (.lst zs)/\xs.length+zs.length<=sizeLine/\∀p,H p=none->Q (.ref p) (upd H p (.lst (xs++zs)))
def xy:cx X (binaryOp .Add) iL:=by
 intro aa s σ H x y v u Q I d f h;obtain⟨l,b,xs,zs,rfl,rfl,g,i,hz,q⟩:=h;cases d;cases f;obtain⟨z,a,n,r,o,e⟩:=I.lstM g;obtain⟨p,c,n2,r2,w,e2⟩:=I.lstM i;refine PySem.P.add_list e e2 ?_ (by rw[Av,Av];(first|lia|omega));have j:a.toArray++c.toArray=(a++c).toArray:=by simp
 rw[j];exact⟨.ref _,_,I.lnew (t':=s.toks) (r.append r2) (by rw[AK];(first|lia|omega)),rfl,q _ I.fresh⟩
def CT:R2:=fun x y H Q=>∃l k xs,x=.ref l/\y=.int k/\H l=some (.lst xs)/\-(2 ^ 63)<=k/\k<2 ^ 63/\xs.length*k.toNat<=sizeLine/\
 ∀p,H p=none->Q (.ref p) (upd H p (.lst (An k.toNat xs).flatten))
def len_rep{a:Type}(xs:List a)(k:Nat):(An k xs).flatten.length=k*xs.length:=by
 induction k with
 |zero=>simp
 |succ k ih=>rw[List.replicate_succ,List.flatten_cons,AK,ih,Nat.succ_mul,Nat.add_comm]
def CU:cx X (binaryOp .Mult) CT:=by
 intro aa s σ H x y v u Q I i j h;obtain⟨l,k,xs,rfl,rfl,o,h1,h2,hz,q⟩:=h;cases i;obtain⟨t,rfl⟩:=j;obtain⟨z,b,n,r,p,e⟩:=I.lstM o;have w:b.toArray.size*k.toNat<=sizeLine:=by rw[Av,<-p];exact hz
 have d:¬b.toArray.size*k.toNat>(2 ^ 63-1) / 8:=by
  have:(sizeLine:Nat)<=(2 ^ 63-1) / 8:=ξ
  (first|lia|omega)
 have f:¬(!Builtin.List.listFitsIndex k)=true:=by
  rw[fitsIndex_both h1 h2];exact AE
 have c:¬Builtin.List.listTooLong (b.toArray.size*k.toNat)=true:=by
  rw[JK w];exact AE
 have g:List.foldl (fun x1 x2=>x1++x2) #[] (An (if b.toArray.isEmpty=true then 0 else k.toNat) b.toArray)=(An k.toNat b).flatten.toArray:=by
  have A:∀m:Nat,List.foldl (fun x1 x2=>x1++x2) #[] (An m b.toArray)=(An m b).flatten.toArray:=fun m=>by
   have:=foldl_rep b m [];rw[List.nil_append] at this;exact this
  rw[A];cases b with
  |nil=>simp
  |cons a r'=>rw[if_neg (by simp)]
 refine wpAny_binaryOp_repeat_ref (T:="list") (U:="int") ξ ⟨_,e,rfl⟩ (fun s'=>typeIs_int s' k t) noFill_list_mul F.fills_int_mul F.slot_int_rmul repeat_list F.slot_int_index.lookup
  (call_meets F.slot_int_rmul (typeIs_int s k t) F.entry_int_rmul (F.args_int_rmul_2 _ _) (int___rmul___int_list k t l b.toArray n)
   ⟨e,rfl,⟨_,e,rfl⟩,call_meets F.slot_list_mul ⟨_,e,rfl⟩ F.entry_list_mul (F.args_list_mul_2 _ _) (AutoListH.list___mul___list_int_3 l b.toArray n k t f d c) ⟨e,?_⟩⟩)
 rw[g];exact⟨.ref _,_,I.lnew (t':=s.toks) (r.rep k.toNat) (by rw[len_rep,Nat.mul_comm];exact hz),rfl,q _ I.fresh⟩
end
section
variable{prog:Program}{w:World}{A:Around}{E:Ω}{s:Shared}
set_option maxRecDepth 100000 in
end
section
variable{κ:Type}[DecidableEq κ]
def b4(kvs:List (κ×V))(k:κ):Option V:=(kvs.find? fun a=>decide (a.1=k)).map (·.2)
def putK(kvs:List (κ×V))(k:κ)(v:V):List (κ×V):=
 if(kvs.any fun a=>decide (a.1=k))=true then kvs.map (fun a=>if a.1=k then(a.1,v) else a) else kvs++[(k,v)]
def CV{p:κ×V}{r:List (κ×V)}{k:κ}(e:p.1=k):b4 (p::r) k=some p.2:=by simp[b4,List.find?_cons,e]
def CW{p:κ×V}{r:List (κ×V)}{k:κ}(e:¬p.1=k):b4 (p::r) k=b4 r k:=by simp[b4,List.find?_cons,e]
def E8(k:κ):∀kvs:List (κ×V),(kvs.any fun a=>decide (a.1=k))=(b4 kvs k).isSome
 |[]=>rfl
 |p::r=>by
  rw[List.any_cons]
  by_cases e:p.1=k
  ·simp only[CV e,decide_eq_true e,Bool.true_or,Option.isSome_some]
  ·rw[CW e,decide_eq_false e,Bool.false_or];exact E8 k r
def E9(kvs:List (κ×V))(k:κ)(v:V):(putK kvs k v).length<=kvs.length+1:=by
 unfold putK;split
 ·rw[Aa];(first|lia|omega)
 ·rw[AK,AI,List.length_nil];(first|lia|omega)
def RelO.isSome_eq{o:Option V}{u:Option Value}(r:RelO o u):o.isSome=u.isSome:=by
 cases o with
 |none=>cases u with
  |none=>rfl
  |some _=>exact(show False from r).elim
 |some _=>cases u with
  |none=>exact(show False from r).elim
  |some _=>rfl
def KV.val{kvs:List (κ×V)}{vs:List (κ×Value)}(r:KV kvs vs)(k:κ):RelO (b4 kvs k) (valueAt vs k):=by
 unfold KV at r
 induction r with
 |nil=>exact True.intro
 |@cons p q ps a h t d=>
  obtain⟨h1,h2⟩:=h
  by_cases e:p.1=k
  ·have c:q.1=k:=h1.symm.trans e
   have b:valueAt (q::a) k=some q.2:=by simp[valueAt,List.find?_cons,c]
   rw[CV e,b];exact h2
  ·have c:¬q.1=k:=fun z=>e (h1.trans z)
   have b:valueAt (q::a) k=valueAt a k:=by simp[valueAt,List.find?_cons,c]
   rw[CW e,b];exact d
def KV.any{kvs:List (κ×V)}{vs:List (κ×Value)}(r:KV kvs vs)(k:κ):(kvs.any fun a=>decide (a.1=k))=vs.any fun a=>decide (a.1=k):=by
 unfold KV at r
 induction r with
 |nil=>rfl
 |cons h t ih=>rw[List.any_cons,List.any_cons,ih,h.1]
def KV.repl{kvs:List (κ×V)}{vs:List (κ×Value)}(r:KV kvs vs)(k:κ){y:V}{u:Value}(b:RelV y u):KV (kvs.map fun a=>if a.1=k then(a.1,y) else a) (vs.map fun a=>if a.1=k then(a.1,u) else a):=by
 unfold KV at r ⊢
 induction r with
 |nil=>exact .nil
 |@cons p q ps qs h t ih=>
  rw[AY,AY];refine .cons ?_ ih;obtain⟨h1,h2⟩:=h
  by_cases e:p.1=k
  ·rw[if_pos e,if_pos (h1.symm.trans e)];exact⟨h1,b⟩
  ·rw[if_neg e,if_neg (fun z=>e (h1.trans z))];exact⟨h1,h2⟩
def KV.put{kvs:List (κ×V)}{vs:List (κ×Value)}(r:KV kvs vs)(k:κ){y:V}{u:Value}(a:RelV y u):KV (putK kvs k y) (stored vs k u):=by
 unfold putK stored;rw[r.any k]
 by_cases e:(vs.any fun b=>decide (b.1=k))=true
 ·rw[if_pos e,if_pos e];exact r.repl k a
 ·rw[if_neg e,if_neg e];exact Paired.snoc r ⟨rfl,a⟩
def KV.length{kvs:List (κ×V)}{vs:List (κ×Value)}(r:KV kvs vs):kvs.length=vs.length:=Paired.length r
end
def xB{P:Program}{w:World}{k:Key}{u:Value}(r:RelV (kV k) u):(dR P w).is k u=true:=by
 cases k with
 |inl i=>obtain⟨t,e⟩:=(show ∃t,u=Value.int i t from r);subst e;exact Ja P w i t
 |inr x=>obtain⟨t,e⟩:=(show ∃t,u=Value.str x t from r);subst e;exact Jb P w x t
def E_{P:Program}{w:World}:∀{ks:List Key}{us:List Value},Vals (ks.map kV) us->ItemsAre (dR P w) ks us
 |[],_,r=>by rw[List.map_nil] at r;cases r;exact .nil
 |k::ks,_,r=>by
  rw[AY] at r;cases r with
  |cons h t=>exact .cons (xB h) (E_ t)
abbrev KT(H:Hp):List (List Key×V)->List (List Key×Addr×Value)->Prop:=Paired fun p q=>p.1=q.1/\H q.2.1=some (.tup (p.1.map kV))/\RelV p.2 q.2.2
def KT.val{H:Hp}{kvs:List (List Key×V)}{xs:List (List Key×Addr×Value)}(r:KT H kvs xs)(k:List Key):RelO (b4 kvs k) ((atKey xs k).map (·.2)):=by
 induction r with
 |nil=>exact True.intro
 |@cons p q ps a h t d=>
  obtain⟨h1,_,h2⟩:=h
  by_cases e:p.1=k
  ·have c:q.1=k:=h1.symm.trans e
   have b:atKey (q::a) k=some q.2:=by simp[atKey,List.find?_cons,c]
   rw[CV e,b];exact h2
  ·have c:¬q.1=k:=fun z=>e (h1.trans z)
   have b:atKey (q::a) k=atKey a k:=by simp[atKey,List.find?_cons,c]
   rw[CW e,b];exact d
def KT.repl{H:Hp}{kvs:List (List Key×V)}{xs:List (List Key×Addr×Value)}(r:KT H kvs xs)(k:List Key){y:V}{u:Value}(c:RelV y u):KT H (kvs.map fun a=>if a.1=k then(a.1,y) else a) (xs.map (putAt k u)):=by
 induction r with
 |nil=>exact .nil
 |@cons p q ps qs h t ih=>
  rw[AY,AY];refine .cons ?_ ih;obtain⟨h1,h2,b⟩:=h;unfold putAt
  by_cases e:p.1=k
  ·rw[if_pos e,if_pos (h1.symm.trans e)];exact⟨h1,h2,c⟩
  ·rw[if_neg e,if_neg (fun z=>e (h1.trans z))];exact⟨h1,h2,b⟩
def KT.put{H:Hp}{kvs:List (List Key×V)}{xs:List (List Key×Addr×Value)}(r:KT H kvs xs)(k:List Key){b:Addr}{y:V}{u:Value}(hb:H b=some (.tup (k.map kV)))(a:RelV y u):KT H (putK kvs k y) (storedH xs k b u):=by
 have e:(kvs.any fun c=>decide (c.1=k))=(atKey xs k).isSome:=by
  rw[E8,(r.val k).isSome_eq,Option.isSome_map]
 unfold putK storedH;rw[e]
 by_cases q:(atKey xs k).isSome=true
 ·rw[if_pos q,if_pos q];exact r.repl k a
 ·rw[if_neg q,if_neg q];exact Paired.snoc r ⟨rfl,hb,a⟩
def KT.keeps{H H':Hp}{kvs:List (List Key×V)}{xs:List (List Key×Addr×Value)}(r:KT H kvs xs)(a:∀b ys,H b=some (.tup ys)->H' b=some (.tup ys)):KT H' kvs xs:=
 Paired.mapP r fun _ _ z=>⟨z.1,a _ _ z.2.1,z.2.2⟩
section
variable{P:Program}{w:World}{H:Hp}{h:Heap}{a:Addr}
def E'{u:HO}(ok:HOk P w H h)(e:Rd H a u):zak P w H h a u:=e.ok ok
def xI{kvs:List (Key×V)}(ok:HOk P w H h)(e:Rd H a (.dK kvs)):kvs.length<=sizeLine/\(a==sysModules)=false/\∃vs,KV kvs vs/\h.DictOf (dR P w) a vs:=
 show zak P w H h a (.dK kvs) from E' ok e
def Fd{kvs:List (Key×V)}(ok:HOk P w H h)(e:H a=some (.dK kvs)):kvs.length<=sizeLine/\(a==sysModules)=false/\∃vs,KV kvs vs/\h.DictOf (dR P w) a vs:=xI ok (.inl e)
def xL{ks:List Key}(ok:HOk P w H h)(e:H a=some (.tup (ks.map kV))):(tupleKind (dR P w)).is h ks a:=by
 obtain⟨_,b,r,o,h1,h2,n,c⟩:=(show zak P w H h a (.tup (ks.map kV)) from ok a _ e);exact⟨o,b.toArray,n,h1,h2,c,by simpa using E_ r⟩
def xM{kvs:List (List Key×V)}(ok:HOk P w H h)(e:Rd H a (.dT kvs)):kvs.length<=sizeLine/\(a==sysModules)=false/\
  ∃xs,KT H kvs xs/\h.DictOfH (tupleKind (dR P w)) a xs:=by
 obtain⟨z,y,xs,r,o,es,ep,h1,h2,b,c,d⟩:=(show zak P w H h a (.dT kvs) from E' ok e);refine⟨z,y,xs,r,o,es,ep,h1,h2,b,c,fun x hx=>?_,d⟩;have all:∀{l:List (List Key×V)}{m:List (List Key×Addr×Value)},KT H l m->∀x∈m,(tupleKind (dR P w)).is h x.1 x.2.1:=by
  intro l m q
  induction q with
  |nil=>intro x hx;exact nomatch hx
  |@cons p q ps qs hq t ih=>
   intro x hx;rcases List.mem_cons.mp hx with e|hx
   ·subst e
    exact xL ok (by rw[<-hq.1];exact hq.2.1)
   ·exact ih x hx
 exact all r x hx
def JL{kvs:List (List Key×V)}(ok:HOk P w H h)(e:H a=some (.dT kvs)):kvs.length<=sizeLine/\(a==sysModules)=false/\
  ∃xs,KT H kvs xs/\h.DictOfH (tupleKind (dR P w)) a xs:=xM ok (.inl e)
end
def DGet(H:Hp)(a:Addr)(y:V)(r:Option V):Prop:=
 (∃kvs k,Rd H a (.dK kvs)/\y=kV k/\r=b4 kvs k)\/∃kvs k b,Rd H a (.dT kvs)/\y=.ref b/\H b=some (.tup (k.map kV))/\r=b4 kvs k
def DPut(H:Hp)(a:Addr)(y v:V)(H':Hp):Prop:=
 (∃kvs k,H a=some (.dK kvs)/\y=kV k/\kvs.length<sizeLine/\H'=upd H a (.dK (putK kvs k v))) \/
 ∃kvs k b,H a=some (.dT kvs)/\y=.ref b/\H b=some (.tup (k.map kV))/\kvs.length<sizeLine/\H'=upd H a (.dT (putK kvs k v))
def DGet.k{H:Hp}{a:Addr}{kvs:List (Key×V)}{k:Key}(e:H a=some (.dK kvs)):DGet H a (kV k) (b4 kvs k):=.inl ⟨kvs,k,.inl e,rfl,rfl⟩
def DGet.t{H:Hp}{a b:Addr}{kvs:List (List Key×V)}{k:List Key}(e:H a=some (.dT kvs))(c:H b=some (.tup (k.map kV))):DGet H a (.ref b) (b4 kvs k):=.inr ⟨kvs,k,b,.inl e,rfl,c,rfl⟩
def DPut.k{H:Hp}{a:Addr}{kvs:List (Key×V)}{k:Key}{v:V}(e:H a=some (.dK kvs))(b:kvs.length<sizeLine):DPut H a (kV k) v (upd H a (.dK (putK kvs k v))):=.inl ⟨kvs,k,e,rfl,b,rfl⟩
def DPut.t{H:Hp}{a b:Addr}{kvs:List (List Key×V)}{k:List Key}{v:V}(e:H a=some (.dT kvs))(c:H b=some (.tup (k.map kV)))(d:kvs.length<sizeLine):DPut H a (.ref b) v (upd H a (.dT (putK kvs k v))):=.inr ⟨kvs,k,b,e,rfl,c,d,rfl⟩
section
variable{X:Cx}{aa:Ψ}{σ:St}{H:Hp}{s:Shared}{a:Addr}{y v:V}{u r:Value}{o:Option V}{A:Around}{E:Ω}
def Inv.big(I:Inv X aa σ H s):sysModules<s⁻¹:=by
 have h:mainGlobals<s⁻¹:=(I.mod.glob.keeps I.bk).lt;exact Nat.lt_trans ξ h
def JM{Q:Ω}(r:A.units+1<cLine)(I:Inv X aa σ H s)(g:DGet H a y (some v))(i:RelV y u)(h:∀c s',Inv X aa σ H s'->RelV v c->Q c s'):wpAny (model X.prog X.w) A (getItem (.ref a) u) Q E s:=by
 rcases g with ⟨kvs,k,e,d,l⟩|⟨kvs,k,b,e,d,j,l⟩
 ·subst d
  obtain⟨z,hd,vs,rel,dd⟩:=xI I.hok e;obtain⟨c,hw,f⟩:=RelO.some_of (v:=v) (o:=valueAt vs k) (by rw[l];exact rel.val k);exact wpAny_getItem_of (xB i) dd.mapOf hw (h c _ (I.tok _) f)
 ·subst d
  cases(show u=Value.ref b from i);obtain⟨z,hd,xs,rel,dd⟩:=xM I.hok e;obtain⟨c,hw,f⟩:=RelO.some_of (v:=v) (o:=(atKey xs k).map (·.2)) (by rw[l];exact rel.val k);obtain⟨p,hp,q⟩:=Option.map_eq_some_iff.mp hw;refine wpAny_getItem_heap (tupleKind_room_in1 r) (xL I.hok j) dd hp ?_;rw[q];exact h c _ (I.tok _) f
def CY{Q:Ω}(i:A.units+1<cLine)(I:Inv X aa σ H s)(g:DGet H a y o)(d:RelV y u)(h:∀s',Inv X aa σ H s'->Q (.bool o.isSome) s'):wpAny (model X.prog X.w) A (compareOp .In u (.ref a)) Q E s:=by
 rcases g with ⟨kvs,k,e,c,l⟩|⟨kvs,k,b,e,c,f,l⟩
 ·subst c
  obtain⟨z,hd,vs,rel,dd⟩:=xI I.hok e;refine wpAny_in_of (xB d) hd dd.mapOf ?_;rw[<-(rel.val k).isSome_eq,<-l];exact h _ (I.tok _)
 ·subst c
  cases(show u=Value.ref b from d);obtain⟨z,hd,xs,rel,dd⟩:=xM I.hok e;refine wpAny_in_heap (tupleKind_room_in1 i) (xL I.hok f) hd dd ?_;have q:=(rel.val k).isSome_eq;rw[Option.isSome_map] at q;rw[<-q,<-l];exact h _ (I.tok _)
def Fg{h':Heap}{t':Nat}{c:HO}(I:Inv X aa σ H s)(mu:pe (H a))(d:Heap.SameBut a s.heap h')(f:∃q,h'.get? a=some q)(new:zak X.prog X.w (upd H a c) h' a c):Inv X aa σ (upd H a c) {s with heap:=h',toks:=t'}:=
 I.write (x:=a) (e:=a) mu (.inl rfl) (fun b q hb z=>(d.2 b hb).trans z) f new
def dk_new{P:Program}{w:World}{H':Hp}{h':Heap}{kvs:List (Key×V)}{vs:List (Key×Value)}(z:kvs.length<=sizeLine)(hd:(a==sysModules)=false)(rel:KV kvs vs)(dd:h'.DictOf (dR P w) a vs):zak P w H' h' a (.dK kvs):=⟨z,hd,vs,rel,dd⟩
def JN{H':Hp}{Q:Unit->Shared->Prop}(M:A.units+1<cLine)(I:Inv X aa σ H s)(g:DPut H a y v H')(D:RelV y u)(p:RelV v r)(h:∀s',Inv X aa σ H' s'->Q () s'):wpAny (model X.prog X.w) A (setItem (.ref a) u r) Q E s:=by
 rcases g with ⟨kvs,k,e,j,l,o⟩|⟨kvs,k,b,e,j,x,l,o⟩
 ·subst j o
  obtain⟨z,hd,vs,rel,dd⟩:=Fd I.hok e;have hz:vs.length<=sizeLine:=by rw[<-rel.length];exact z
  have i:(putK kvs k v).length<=sizeLine:=by have:=E9 kvs k v;(first|lia|omega)
  refine wpAny_setItem_pairs (hsz:=hz) (xB D) dd fun h' d f=>h _ ?_;have F:∃q,h'.get? a=some q:=let ⟨q,_,_,hq,_⟩:=d;⟨q,hq⟩;exact Fg I (by rw[e];exact True.intro) f F (dk_new i hd (rel.put k p) d)
 ·subst j o
  cases(show u=Value.ref b from D);obtain⟨z,hd,xs,rel,dd⟩:=JL I.hok e;have hz:xs.length<=sizeLine:=by rw[<-Paired.length rel];exact z
  have i:(putK kvs k v).length<=sizeLine:=by have:=E9 kvs k v;(first|lia|omega)
  refine wpAny_setItem_heap (hsz:=hz) (tupleKind_room_in1 M) (xL I.hok x) dd fun h' d f=>h _ ?_;obtain⟨q,es,ep,hq,h2,G,J,_,L⟩:=d;refine Fg I (by rw[e];exact True.intro) f ⟨q,hq⟩ ⟨i,hd,_,(rel.put k x p).keeps fun c ys C=>?_,q,es,ep,hq,h2,G,J,L⟩;rw[ag (Cp C e (fun z=>nomatch z))];exact C
end
def p3(i:Expr):Prop:=∀a b,subscripted i false a b=operate [a,b] (getItem a b)
def JO{prog:Program}{w:World}{A:Around}{E:Ω}{s:Shared}{env:Env}{aC slice:Expr}{pos:Pos}{T id:String}{Q:Ω}(j:typeLookup (.type T) "__getitem__"=pure (some (.builtin id)))(l:p3 slice)(h:wpAny (model prog w) A (eval aC env) (fun o c=>wpAny (model prog w) A (eval slice env) (fun i a=>a.TypeIs o T/\wpAny (model prog w) A (getItem o i) Q E a) E c) E s):wpAny (model prog w) A (eval (.Subscript aC slice pos) env) Q E s:=by
 refine Subscript_ (wpAny_mono h (fun o c f=>wpAny_mono f (fun i a b=>?_) fun _ _ x=>x) fun _ _ x=>x);obtain⟨e,b⟩:=b;unfold subscriptTail;refine Af ?_;rw[getitemInPython_of_ne e.not_modules];refine Af (wpAny_specialOf e j ?_);have fin:wpAny (model prog w) A (subscripted slice false o i) (fun r d=>wpAny (model prog w) A (letTemporaryGo aC o r >>= fun _=>pure r) Q E d) E a:=by
  rw[l o i];exact wpAny_operating (wpAny_mono b (fun r d g=>Af (wpAny_letTemporaryGo (Ao g))) fun _ _ x=>x)
 first
  |exact Ao (Af fin)
  |exact Af (Ao (Af fin))
  |exact Af fin
def JP{X:Cx}{aa:Ψ}{σ:St}{H:Hp}{s:Shared}{a:Addr}{y:V}{o:Option V}(I:Inv X aa σ H s)(g:DGet H a y o):s.TypeIs (.ref a) "dict":=by
 rcases g with ⟨kvs,k,e,_,_⟩|⟨kvs,k,b,e,_,_,_⟩
 ·obtain⟨_,_,vs,_,dd⟩:=xI I.hok e
  exact dd.typeIs
 ·obtain⟨_,_,xs,_,dd⟩:=xM I.hok e
  exact dd.typeIs
def JQ(td ty:TE):TE:=fun σ H Q=>td σ H fun x H1=>ty σ H1 fun y H2=>∃a v,x=.ref a/\DGet H2 a y (some v)/\Q v H2
def CZ(ty td:TE):TE:=fun σ H Q=>ty σ H fun y H1=>td σ H1 fun x H2=>∃a o,x=.ref a/\DGet H2 a y o/\Q (.bl o.isSome) H2
def JR(td ty tv:TE):TS:=fun D σ H=>tv σ H fun v H1=>td σ H1 fun x H2=>ty σ H2 fun y c=>∃a b,x=.ref a/\DPut c a y v b/\D.nx σ b
section
variable{X:Cx}{o i e aC:Expr}{pos aE cF:Pos}{td ty tv:TE}
def kI(p:X.A.units+1<cLine)(q:PE X o td)(hi:PE X i ty)(r:p3 i):PE X (.Subscript o i pos) (JQ td ty):=by
 intro aa s σ H Q I h;refine JO PySem.F.slot_dict_getitem.lookup r (aR (q aa s σ H _ I h) fun u c ⟨x,H1,w,d,e⟩=>aR (hi aa c σ H1 _ w e) fun C D ⟨y,H2,b,f,a,v,ex,g,j⟩=>?_);subst ex;obtain rfl:u=Value.ref a:=d;exact⟨JP b g,JM p b g f fun E G z l=>⟨v,H2,z,l,j⟩⟩
def JS(l:X.A.units+1<cLine)(hi:PE X i ty)(p:PE X o td):PC X .In i o (CZ ty td):=by
 intro aa s σ H Q I h;refine aR (hi aa s σ H _ I h) fun w b ⟨y,H1,q,c,d⟩=>aR (p aa b σ H1 _ q d) fun u z ⟨x,H2,r,e,a,f,ex,g,j⟩=>?_;subst ex;obtain rfl:u=Value.ref a:=e;exact CY l r g c fun C v=>⟨.bl f.isSome,H2,v,rfl,j⟩
def C0(q:X.A.units+1<cLine)(w:PE X o td)(hi:PE X i ty)(z:PE X aC tv)(C:swapsWith aC (some (.Subscript o i aE)) pos.line X.env=pure false):PS X (.Assign [.Subscript o i aE] aC pos) (JR td ty tv):=by
 intro aa s σ H D I h;refine wpAny_Assign_Subscript (aR (z aa s σ H _ I h) fun r b ⟨v,H1,E,c,d⟩=>aR (w aa b σ H1 _ E d) fun u e ⟨x,H2,F,f,j⟩=>aR (hi aa e σ H2 _ F j) fun M N ⟨y,P,G,l,a,J,ex,g,p⟩=>?_) C;subst ex;obtain rfl:u=Value.ref a:=f;exact JN q G g l c fun O L=>⟨σ,J,L,p⟩
end
def JT{P:Program}{w:World}{H:Hp}(h:Heap)(hb:sysModules<h.objs.size):zak P w H (h.push {cls:=.type "dict",data:=.dict #[]}) h.objs.size (.dK []):=
 ⟨Aw _,beq_eq_false_iff_ne.mpr (Ne.symm (AB hb)),[],.nil,Heap.DictOf.new h⟩
def JU:TE:=fun _ H Q=>∀p,H p=none->Q (.ref p) (upd H p (.dK []))
section
variable{X:Cx}{pos:Pos}
def JV:PE X (.Dict [] [] pos) JU:=fun aa s σ H Q I h=>
 wpAny_Dict_empty ⟨.ref s⁻¹,_,I.laid (a:=s⁻¹) (o:=.dK []) (t':=s.toks) (fun _ _ q=>Ai _ q) (Ad _) (JT s.heap I.big),rfl,h _ (I.hok.fresh (Ad _))⟩
end
structure M1(X:Cx)(o:Expr)(m:Str)(bW:Pos)(e:Expr)(aF:Pos):Prop where
 base:attributeBase o m X.env (eval o X.env)=eval o X.env
 few:((backTo aF (starEach [e] X.env)).all (fun x=>!x.1)&&(backToKw aF (keywordEach [] X.env)).all (fun x=>x.1.isSome)
  && decide (([e]:List Expr).length+([]:List Keyword).length+(if([]:List Keyword).isEmpty then 0 else 1)<30))=true
 line:(bW.endLine==aF.line)=true
 trees:backTo aF (starEach [e] X.env)=[(false,eval e X.env)]
structure M2(X:Cx)(o:Expr)(m:Str)(bW:Pos)(e f:Expr)(aF:Pos):Prop where
 base:attributeBase o m X.env (eval o X.env)=eval o X.env
 few:((backTo aF (starEach [e,f] X.env)).all (fun x=>!x.1)&&(backToKw aF (keywordEach [] X.env)).all (fun x=>x.1.isSome)
  && decide (([e,f]:List Expr).length+([]:List Keyword).length+(if([]:List Keyword).isEmpty then 0 else 1)<30))=true
 line:(bW.endLine==aF.line)=true
 trees:backTo aF (starEach [e,f] X.env)=[(false,eval e X.env),(false,eval f X.env)]
def IsD(H:Hp)(a:Addr):Prop:=(∃kvs,Rd H a (.dK kvs))\/∃kvs,Rd H a (.dT kvs)
end L2
namespace Att
open PySem PySem.W PySem.Calls PyProof.Rows
def JW{P:Params}{h:Heap}:∀(ns:List Int)(vs:List Value),WellAll P h vs (ns.map WData.int)->IntsAre vs ns:=by
 intro ns
 induction ns with
 |nil=>
  intro vs w;rw[List.map_nil] at w;cases w;exact .nil
 |cons n ns ih=>
  intro vs w;rw[AY] at w;cases w with
  |cons a b=>
   cases a;exact .cons _ _ (ih _ b)
def JX{l:OpenLaw}{n:Nat}(p:l.most=some n){P:Params}{h:Heap}{args:List WData}{f:List Value}(g:l.row.toRowW.claim.pre args=true)(s:WellAll P h f args):∃a vs ns,f=[Value.ref a]/\args=[WData.list (ns.map WData.int)]/\h.get? a=some {cls:=.type "list",data:=.seq vs.toArray}/\IntsAre vs ns/\ns.length<=n:=by
 have e:WShape.hasAll [] args [.list .int]=true:=(pre_splitW g).1;have hc:l.pre.holds [] {args:=args}=true:=(pre_splitW g).2;obtain⟨d,r,rfl,h1,h2⟩:=hasAllW_cons e;obtain rfl:=hasAllW_nil h2;obtain⟨xs,rfl,i⟩:=hasW_list h1;obtain⟨ns,rfl⟩:=items_int i;have j:ns.length<=n:=by
  unfold OpenLaw.pre at hc;have b:(WTm.not (.lt (.lit (.int (n:Int))) (.len (.arg 0)))).holds [] {args:=[.list (ns.map .int)]}=true:=by
   have b:=(holds_andW hc).1;rw[p] at b;exact b
  have c:=condW_of b (w_not (w_lt w_lit (w_len_list (w_arg rfl))));rw[Aa] at c;refine Nat.le_of_not_lt fun q=>?_;have o:(n:Int)<((ns.length:Nat):Int):=ω
  first
   |(rw[decide_eq_true o] at c;exact absurd c ξ)
   |(simp at c;(first|lia|omega))
 cases s with
 |cons w1 w2=>
  cases w2;cases w1 with
  |list ho hall=>exact⟨_,_,ns,rfl,rfl,ho,JW ns _ hall,j⟩
def JY(l:OpenLaw)(args:List WData):l.row.toRowW.claim.post args (.bool true) args=true:=
 postW_of (r:=l.row.toRowW) (X:=(true==true))
  (show WShape.has [] (.bool true) .bool=true by first|rfl|decide|simp[WShape.has,WShape.arms,WShape.armsAll])
  (show(WTm.eq .res (.lit (.bool true))).value [] {args:=args,res:=some (.bool true),after:=args}=some (.bool (true==true)) from w_eq_bool (w_res rfl) w_lit) rfl
def JZ{l:OpenLaw}{n:Nat}{q:Program}{j:List Str}{p:(Str->Option Value)->Heap->Prop}{s:World->Heap->Prop}{d:DefRec}(J:l.most=some n)(L:d.params.defaults=[])(call:∀(w:World)(s₀ b:Shared)(mg e:Str->Option Value)(fa:Addr)(o:Obj)(g c h:Value)(a:Addr)(vs:List Value)(ns:List Int),
   Ground q j [] p w s₀ mg e b.heap->s w b.heap->
   b.heap.get? fa=some o->o.data=.func (docDef d.name d.params d.body d.scope g c h)->b.heap.CodeRec c d.name->mg d.name=some (.ref fa)->
   b.heap.get? a=some {cls:=.type "list",data:=.seq vs.toArray}->IntsAre vs ns->ns.length<=n->b.gens=#[]->
   codeAny (model l.prog w) callerA (.call (.ref fa) ⟨[.ref a],[]⟩) (fun r s'=>r=.ok (.ret (.bool true))/\OldK b.heap s'.heap/\s'.os=b.os/\AllBare s'.gens) b):
  WalkO q j p s l.row.toRowW d [] (fun f vs=>PySem.call f vs):=by
 intro w s₀ b mg e G Y fa o g c h u kV v hd x i y hg args M N z O P A Q;obtain rfl:u=.none:=Dflts.none i L;obtain rfl:kV=.none:=Dflts.noKw i;obtain⟨a,vs,ns,rfl,rfl,D,E,F⟩:=JX J z A;refine enter_call (codeAny_mono (call w s₀ b mg e fa o g c h a vs ns G Y v (fd_plain hd) x y D E F hg) fun r s' hq=>?_);obtain⟨rfl,h2,H,I⟩:=hq;exact⟨.inl ⟨.bool true,.bool true,[],rfl,fun _=>rfl,.bool true,JY l _,fun _=>⟨List.Pairwise.nil,fun _ C=>(nomatch C)⟩⟩,h2,H,I⟩
end Att
namespace L2
open PySem PySem.Spec PyProof.Rows
def Fh:∀{vs:List Value}{ns:List Int},IntsAre vs ns->Vals (ns.map V.int) vs
 |_,_,.nil=>.nil
 |_,_,.cons n t h=>.cons ⟨t,rfl⟩ (Fh h)
def kL(H:Hp):Prop:=∀b,H b=none\/∃o xs,H b=some (.frz o (.lst xs))
def J0{P:Program}{w:World}{K:Ah}{mg y:Str->Option Value}{CX:eY}{k:Nat}{fa a:Addr}{fd:FuncData}{x:Str}{sp:Sp}{c:Shared}{vs:List Value}{ns:List Int}(M:K.In c.heap)(J:c.heap.Ns mainGlobals mg)(hb:c.heap.Ns builtinsNs y)(eS:∀x:Str,x≠"__name__"->y x=Bk x)(mh:c.heap.NoLimit)(hg:c.gens=#[])(l:c.heap.get? a=some {cls:=.type "list",data:=.seq vs.toArray})(hi:IntsAre vs ns)(L:ns.length<=sizeLine)(hr:Room k callerA)(F:∀base:Heap,K.In base->base.Ns mainGlobals mg->am P w K mg base CX k fa fd [x] sp)(iK:∀(s:Shared)(u:Value),BindsTo s fd ⟨[u],[]⟩ [(x,u)])(fj:∀H:Hp,kL H->SqL K H a (ns.map V.int)->sp [.ref a] H (fun v _=>v=.bl true) fun _ _ _=>False)(mN:∀H e s',CX [] H c (fun _ _ _=>False) e s'->False):codeAny (model P w) callerA (.call (.ref fa) ⟨[.ref a],[]⟩) (fun r s'=>r=.ok (.ret (.bool true))/\OldK c.heap s'.heap/\s'.os=c.os/\AllBare s'.gens) c:=by
 have D:=Fh hi;have U:=hi.length;have E:∀H:Hp,kL H->SqL K H a (ns.map V.int)->HOk P w H c.heap->(∀b,H b≠none->b=a)->(H a≠none->K.lookup a=none)->
   codeAny (model P w) callerA (.call (.ref fa) ⟨[.ref a],[]⟩) (fun r s'=>r=.ok (.ret (.bool true))/\OldK c.heap s'.heap/\s'.os=c.os/\AllBare s'.gens) c:=by
  intro H A N g C O;have G:∀{b:Addr}{o:Obj},c.heap.get? b=some o->H b=none->(dr c.heap H).get? b=some o:=fun e n=>Jd e n;have W:∀{b:Addr}{o:Obj}{es:Array DictEntry}{ep:Nat},c.heap.get? b=some o->o.data=.dict es ep->H b=none:=fun{b o es ep} e d=>by
   cases q:H b with
   |none=>rfl
   |some u=>
    have p:b=a:=C b (by rw[q];simp);subst p;rw[l] at e;cases e;have d':Data.seq vs.toArray _=Data.dict es ep:=d;cases d'
  have f:∀{b:Addr}{m:Str->Option Value},c.heap.Ns b m->(dr c.heap H).Ns b m:=fun{b m} ⟨o,es,ep,e,d,r⟩=>⟨o,es,ep,G e (W e d),d,r⟩;have I:K.In (dr c.heap H):=fun b o e=>G (M b o e) (by
   cases q:H b with
   |none=>rfl
   |some u=>
    have p:b=a:=C b (by rw[q];simp);subst p;rw[O (by rw[q];simp)] at e;cases e)
  have X:Mod K mg (dr c.heap H):=⟨I,f J,⟨y,f hb,eS⟩,let ⟨mc,h1,h2⟩:=mh;⟨mc,f h1,h2⟩⟩;have Y:Env0 P w K mg (dr c.heap H) callerA [] c H:=⟨rfl,X,fun b o e=>Je e,Nat.le_of_eq (Jc _ _),trivial,fun b hb=>absurd (show b∈([]:List Addr) from hb) (by simp),g,.of_eq hg⟩;refine codeAny_mono ((F _ I (f J)).run callerA [] c H ⟨[.ref a],[]⟩ [.ref a] [.ref a] _ _ hr Y (iK c (.ref a)) (.cons rfl .nil) (fj H A N)) fun r s' h=>?_;cases r with
  |error e=>exact(mN H e s' h).elim
  |ok fl=>
   cases fl with
   |next=>exact False.elim h
   |brk=>exact False.elim h
   |cont=>exact False.elim h
   |ret u=>
    obtain⟨v,H',os,i,un,Q,S,q⟩:=h;have Z:v=.bl true:=q;subst Z;obtain rfl:u=Value.bool true:=S;refine⟨rfl,OldK.of_keep fun b o e=>?_,os,i⟩;cases q:H b with
    |none=>exact un.keep b o e q (by intro z;exact absurd (show b∈([]:List Addr) from z) (by simp)) (by simp)
    |some u=>
     rcases A b with z|⟨T,xs,z⟩
     ·rw[q] at z;cases z
     ·have z2:=un.frzs b T _ z
      obtain⟨e1,_⟩:=g b _ z;obtain⟨e2,_⟩:=Q b _ z2;rw[e] at e1;cases e1;exact e2
 cases hk:K.lookup a with
 |some o=>
  have e:=M a o hk;rw[l] at e;cases e;refine E (fun _=>none) (fun _=>.inl rfl) (.inr ⟨_,vs.toArray,_,hk,rfl,rfl,rfl,by rw[Av,U];exact L,by simpa using D⟩) (fun b u z=>by have j:(none:Option HO)=some u:=z;cases j) (fun b z=>absurd rfl z) fun z=>absurd rfl z
 |none=>
  refine E (fun b=>if b=a then some (.frz {cls:=.type "list",data:=.seq vs.toArray} (.lst (ns.map V.int))) else none) (fun b=>?_) (.inl (.inr ⟨{cls:=.type "list",data:=.seq vs.toArray},if_pos rfl⟩)) (fun b u z=>?_) (fun b z=>?_) fun _=>hk
  ·by_cases hb:b=a
   ·exact .inr ⟨_,_,if_pos hb⟩
   ·exact .inl (if_neg hb)
  ·by_cases hb:b=a
   ·have j:=(if_pos hb).symm.trans z
    cases j;subst hb;exact⟨l,by rw[Aa];exact L,vs,_,D,l⟩
   ·have j:=(if_neg hb).symm.trans z
    cases j
  ·by_cases hb:b=a
   ·exact hb
   ·exact absurd (if_neg hb) z
def Fj{l:PySem.W.OpenLaw}{n k:Nat}{q:Program}{E:List Str}{P:(Str->Option Value)->Heap->Prop}{j:World->Heap->Prop}{d:DefRec}{K:Params->Ah}{CX:World->eY}{sp:World->Sp}{x:Str}(I:l.most=some n)(J:n<=sizeLine)(L:d.params.defaults=[])(hr:Room k callerA)(M:∀(w:World)(h:Heap),j w h->(K w.params).In h)(F:∀(w:World)(mg:Str->Option Value)(fa:Addr)(h:Heap),(K w.params).In h->h.Ns mainGlobals mg->mg d.name=some (.ref fa)->
   ∃fd:FuncData,(∀(s:Shared)(u:Value),BindsTo s fd ⟨[u],[]⟩ [(x,u)])/\
    ∀base:Heap,(K w.params).In base->base.Ns mainGlobals mg->am l.prog w (K w.params) mg base (CX w) k fa fd [x] (sp w))
  (N:∀(w:World)(H:Hp)(a:Addr)(ns:List Int),ns.length<=n->kL H->SqL (K w.params) H a (ns.map V.int)->sp w [.ref a] H (fun v _=>v=.bl true) fun _ _ _=>False)
  (O:∀(w:World)(H:Hp)(s:Shared)(e:Value)(s':Shared),CX w [] H s (fun _ _ _=>False) e s'->False) :
  PySem.W.WalkO q E P j l.row.toRowW d [] (fun f vs=>PySem.call f vs):=by
 refine Att.JZ I L fun w s₀ p mg Q fa o S U X a vs ns G Y Z hd c5 r y z c hg=>?_;have i:=M w _ Y;obtain⟨fd,hb,D⟩:=F w mg fa _ i G.T.g r;exact J0 i G.T.g G.T.b G.T.builtins G.T.nolimit hg y z (Ae c J) hr D hb (fun H A C=>N w H a ns c A C) fun H e s'=>O w H p e s'
end L2
/- THE LAST THEOREM (shape;LID,My.* are yours):
  My.Adr: a structure of eN addresses that your layer names (classes,functions);My.Txt K t: a structure (Prop) of eN equations over K;
  My.txt_mk:{K} {implicit addresses ..} (e1:nsIn K mainGlobals "law"=some (some (.ref f))) (e2:K.lookup f=some ⟨oc,od,.func (fnOf "law" "law" cO bF scope dV kV bj pm an ai ct),sl⟩) (e3:codeIn K ai "law"=true) ..:∃t,My.Txt K t
set_option maxRecDepth 100000 in
set_option maxHeartbeats 0 in
theorem PySem.Challenge.cw_LID_holds:PySem.Challenge.rw_LID.Holds := by
 w_on;o_law;k_head;(case hw=>w_witness2)
 k_fill
 refine L2.Fj (l:=PySem.Challenge.rw_LID) (n:=63) (k:=40) (x:="script") (CX:=fun w=>..) (sp:=fun _=>My.sp_law) rfl ξ rfl ⟨rfl,ξ,ξ⟩ (fun w h Y=>PySem.W.kIn_of Y) ?F ?S ?C
 case F=>
  intro w mg fa h f G g;have T:∃t,My.Txt (L2.KOf f) t:=by
   dsimp only[L2.KOf]                          -- K must stand as «<heap const> w.params» for k_is
   refine' My.txt_mk ?e1 ?e2 ?e3 ..
   (case e1 => PySem.W.k_is)                    -- in e order: a name -> ac address -> ac object -> ac parts
   (case e2=>PySem.W.k_is)
   ..
  obtain⟨t,T⟩:=T;have i:=g.symm.trans (PySem.W.mg_of f G T.law);cases i                                       -- fa is e law's own address
  exact⟨_,fun s u => .of_eq rfl,fun base c d => My.law_fn T c d⟩     -- if «.of_eq rfl» comes too early: refine' ⟨_,?b,fun base c d => My.law_fn T c d⟩;exact fun s u => .of_eq rfl
 case S=>exact fun w H a ns j o p=>..
 case C=>exact ..
(e tactic k_is has no namespace: write k_is) -/
namespace L2
open PySem PySem.Spec PyProof.Rows
def zbQ(s:Stmt):Arguments:=match s with
 |.FunctionDef _ a _ _ _ _ _ _ _ _=>a
 |_=>{posonlyargs:=[],args:=[],vararg:=none,kwonlyargs:=[],kw_defaults:=[],kwarg:=none,defaults:=[]}
def zX(s:Stmt):List Stmt:=match s with
 |.FunctionDef _ _ b _ _ _ _ _ _ _=>b
 |_=>[]
def zf(s:Stmt):Scope:=match s with
 |.FunctionDef _ _ _ _ _ _ sc _ _ _=>sc
 |_=>{kind:=.function,names:=[],isGenerator:=false,isCoroutine:=false}
abbrev ar:eY:=fun _ _ _ _ _ _=>False
abbrev E0:XK:=fun _ _ _=>False
def af{X:Cx}:ey ar X E0:=fun _ _ _ _ _ _ _ h=>h.elim
structure Fun(K:Ah)(x aj:Str)(st:Stmt)(f:Addr)(fd:FuncData):Prop where
 ex:∃(oc:Value)(od:Option Addr)(kV bj pm:Value)(an:Option Addr)(ai ct:Value)(dP:Array (Option Value)),
  fd=PySem.W.fnOf x aj (zbQ st) (zX st) (zf st) .none kV bj pm an ai ct/\K.lookup f=some ⟨oc,od,.func fd,dP⟩/\PySem.W.codeIn K ai aj=true
 kp:PySem.W.keepIn K (.ref f)=true
section
variable{P:Program}{w:World}{K:Ah}{mg:Str->Option Value}{base:Heap}
def Fun.ok{x b:Str}{st:Stmt}{f:Addr}{fd:FuncData}{N ps:List Str}{k:Nat}{sp:Sp}(F:Fun K x b st f fd)(S:zo N ps (zf st))(len:∀vs H Q E,sp vs H Q E->vs.length=ps.length)(e:∀(a:Value)(A:Around)(outer:List Env)(s:Shared)(H:Hp)(vs:List V)(Q:VK)(E:XK),Room k (A.deeper (envOfC b (zf st) s⁻¹ f a))->sp vs H Q E->
   ∃t,PSs (b3 ar P w K mg base N b (zf st) f a A outer s H E).nox (zX st) t/\t {nx:=fun _ H'=>Q .non H',rt:=Q} (start N vs) H):am P w K mg base ar (k+1) f fd ps sp:=by
 obtain⟨g,i,kV,j,l,o,a,ct,p,rfl,lk,d⟩:=F.ex;refine Jz lk d S len fun A outer s H vs Q E hr c=>?_;obtain⟨t,h,q⟩:=e a A outer s H vs Q E hr c;exact⟨t,h.nox,q⟩
def Fun.binds{x e:Str}{st:Stmt}{f:Addr}{fd:FuncData}{ps:List Str}(F:Fun K x e st f fd)(h:∀(kV a b:Value)(c:Option Addr)(d ct:Value)(us:List Value),us.length=ps.length->bindArgs (PySem.W.fnOf x e (zbQ st) (zX st) (zf st) .none kV a b c d ct) ⟨us,[]⟩=pure (ps.zip us)):Binds K fd ps []:=by
 obtain⟨g,i,kV,a,b,c,d,ct,j,rfl,lk,l⟩:=F.ex;exact .all (h kV a b c d ct)
def J1{x a:Str}{st:Stmt}{f:Addr}{i:Value}{j g:Option Addr}{h:Array (Option Value)}{kV d e b ct:Value}(l:K.lookup f=some ⟨i,j,.func (PySem.W.fnOf x a (zbQ st) (zX st) (zf st) .none kV d e g b ct),h⟩)(c:PySem.W.codeIn K b a=true)(k:PySem.W.keepIn K (.ref f)=true):Fun K x a st f (PySem.W.fnOf x a (zbQ st) (zX st) (zf st) .none kV d e g b ct):=⟨⟨i,j,kV,d,e,g,b,ct,h,rfl,l,c⟩,k⟩
end
def xT{A:Around}{k:Nat}(hr:Room k A):A.units+1<cLine:=Au (Nat.add_le_add_left (by decide:1<=64) _) hr.units
section
variable{X:Cx}
def pv(i:Nat){x:Str}{pos:Pos}(a:X.N[i]?=some x:=by rfl)(b:vX X.env.scope x:=by first|exact Or.inl rfl|exact Or.inr (Or.inl rfl)|exact Or.inr (Or.inr rfl))(hd:(x==("__debug__":Str))=false:=by decide)
  (c:(x==("__classdict__":Str))=false:=by decide):PE X (.Name x pos) (ap i):=Jf a b hd c
end
def aQ{A B:Prop}(h:B):if false=true then A else B:=by
 rw[if_neg AE];exact h
def aW{A B:Prop}(h:A):if true=true then A else B:=by
 rw[if_pos rfl];exact h
def dw{c A B:Prop}[Decidable c](h1:c->A)(h2:¬c->B):if c then A else B:=by
 by_cases h:c
 ·rw[if_pos h]
  exact h1 h
 ·rw[if_neg h]
  exact h2 h
def Same(H H':Hp):Prop:=∀b o,H b=some o->H' b=some o
def Same.refl(H:Hp):Same H H:=fun _ _ h=>h
def Same.trans{H H1 H2:Hp}(a:Same H H1)(b:Same H1 H2):Same H H2:=fun c o h=>b c o (a c o h)
def Same.free{H H':Hp}(e:Same H H'){l:Addr}(h:H' l=Option.none):H l=Option.none:=by
 cases q:H l with
 |none=>rfl
 |some o=>
  rw[e l o q] at h;cases h
def Same.seq{K:Ah}{H H':Hp}{a:Addr}{xs:List V}(e:Same H H')(h:SqL K H a xs):SqL K H' a xs:=by
 rcases h with (h|⟨o,h⟩)|h
 ·exact .inl (.inl (e _ _ h))
 ·exact .inl (.inr ⟨o,e _ _ h⟩)
 ·exact .inr h
def clOf(cells:List (Str×Addr)):List (Str×NameKind)->List (Str×Addr)->List (Str×Addr)
 |[],acc=>acc
 |(n,k)::r,acc=>if(k==.free)=true then clOf cells r ((n,(cells.lookup n).getD 0)::acc) else clOf cells r acc
def Fn{env:Env}:∀(names:List (Str×NameKind))(acc:List (Str×Addr)),(∀x∈names,x.2=.free->∃c,env.cells.lookup x.1=some c)-> (forIn names acc fun x(r:List (Str×Addr))=>if(x.2==.free)=true then do let c <-cellOf env x.1;pure (ForInStep.yield ((x.1,c)::r)) else pure (ForInStep.yield r):Sem (List (Str×Addr)))=pure (clOf env.cells names acc)
 |[],acc,_=>rfl
 |(n,k)::r,acc,h=>by
  rw[List.forIn_cons];have b:=fun a=>Fn (env:=env) r a fun x hx=>h x (AG _ hx);unfold clOf
  by_cases hk:(k==Bi)=true
  ·have d:k=.free:=by cases k<;>first|rfl|cases hk
   obtain⟨c,hc⟩:=h (n,k) AC d;simp only[hk,if_true];unfold cellOf;rw[hc];simp only[pure_bind,Option.getD_some];exact b _
  ·simp only[hk,Bool.false_eq_true,if_false,pure_bind]
   exact b _
def J3{scope:Scope}{env:Env}(h:∀x∈scope.names,x.2=.free->∃c,env.cells.lookup x.1=some c):closureFor scope env=pure (clOf env.cells scope.names []):=by
 rw[<-Fn scope.names [] h];unfold closureFor;simp
def C1{x:Str}{c:Addr}:∀{l:List (Str×Addr)},(x,c)∈l->∃d,l.lookup x=some d
 |[],h=>nomatch h
 |(y,d)::l,h=>by
  rw[Bg]
  by_cases e:x=y
  ·subst e;exact⟨d,by simp⟩
  ·have hb:(x==y)=false:=by simpa using e
   rw[hb];rcases List.mem_cons.mp h with q|q
   ·cases q;exact absurd rfl e
   ·exact C1 q
def xU{cells:List (Str×Addr)}{x:Str}:∀{names:List (Str×NameKind)}{acc:List (Str×Addr)},((x,Bi)∈names\/∃c,(x,c)∈acc)->∃c,(x,c)∈clOf cells names acc
 |[],acc,h=>h.elim (fun q=>nomatch q) id
 |(n,k)::r,acc,h=>by
  unfold clOf
  by_cases hk:(k==Bi)=true
  ·rw[if_pos hk]
   refine xU ?_;rcases h with h|⟨c,h⟩
   ·rcases List.mem_cons.mp h with q|q
    ·cases q;exact .inr ⟨_,AC⟩
    ·exact .inl q
   ·exact .inr ⟨c,AG _ h⟩
  ·rw[if_neg hk]
   refine xU ?_;rcases h with h|h
   ·rcases List.mem_cons.mp h with q|q
    ·cases q;exact absurd rfl hk
    ·exact .inl q
   ·exact .inr h
def dO(X:Cx)(scope:Scope)(N:List Str)(a:List (Str×Addr))(C:Addr)(s₀:Shared)(H₀:Hp)(ex:List Addr):Cx where
 prog:=X.prog
 w:=X.w
 K:=X.K
 mg:=X.mg
 base:=X.base
 A:=X.A
 N:=N
 s₀:=s₀
 H₀:=H₀
 env:=compEnvC scope a C X.env
 outer:=X.stack
 stack:=X.stack
 ex:=ex
 fn:=fun _=>false
 calm:=X.calm
 pn:=X.pn
 xe:=fun _ _=>False
def fO(X:Cx)(aD:List Expr)(t:TT):Prop:=
 ∀(aa:Ψ)(s:Shared)(σ:St)(H:Hp)(Q:Bool->Hp->Prop),Inv X aa σ H s->t σ H Q->
  wpAny (model X.prog X.w) X.A (forIn aD true fun c r=>if r=true then do let ok <-isTrue c X.env (eval c X.env);pure (ForInStep.yield ok) else pure (ForInStep.yield r)) (TP X aa σ Q) X.xe s
def bC:TT:=fun _ H Q=>Q true H
def zu{X:Cx}:fO X [] bC:=fun _ _ _ H _ I h=>wpAny_tests_nil ⟨H,I,h⟩
def Fq{X:Cx}{c:Expr}{t:TT}(h:PT X c t):fO X [c] t:=fun aa s σ H Q I hw=>wpAny_tests_one (h aa s σ H Q I hw)
def p7(ah:List (Option Nat))(σ:St):St:=ah.map fun c=>match c with
 |none=>none
 |some j=>(σ[j]?).getD none
def cz(J:It)(g:TG)(tc:TT)(te:TE)(σ:St)(H1:Hp)(D:Addr)(Q:VK):Prop:=
 ∃W:Nat->Nat->St->Hp->Prop,(∃m,W 0 m σ (upd H1 D (.lst [])))/\
 ∀i m d H2,W i m d H2->(J.stop i H2/\Q (.ref D) H2)\/(J.go i H2/\∀x h,J.yld i H2 x h->g x d h fun c j=>tc c j fun b e=>
  if b=true then te c e fun y f=>∃ys a,f D=some (.lst ys)/\ys.length<sizeLine/\a<m/\W (i+1) a c (upd f D (.lst (ys++[y])))
  else ∃a,a<m/\W (i+1) a c e)
def gw(wi:TI)(ah:List (Option Nat))(g:TG)(tc:TT)(te:TE):TE:=fun σ H Q=>wi σ H fun J H1=>∀D,H1 D=none->cz J g tc te (p7 ah σ) H1 D Q
def kQ(N N':List Str)(ah:List (Option Nat))(scope:Scope):Prop:=
 ah.length=N'.length/\∀i j:Nat,ah[i]?=some (some j)->∃x:Str,N'[i]?=some x/\N[j]?=some x/\scope.names.lookup x=some .free
def xV{cells:List (Str×Addr)}{x:Str}{c:Addr}:∀{names:List (Str×NameKind)}{acc:List (Str×Addr)},(∀y∈names,y.2=.free->∃d,cells.lookup y.1=some d)->(∀p∈acc,False)->(x,c)∈clOf cells names acc->cells.lookup x=some c/\(x,Bi)∈names:=by
 have g:∀{names:List (Str×NameKind)}{acc:List (Str×Addr)},(∀y∈names,y.2=.free->∃d,cells.lookup y.1=some d)->(x,c)∈clOf cells names acc->(x,c)∈acc\/(cells.lookup x=some c/\(x,Bi)∈names):=by
  intro names
  induction names with
  |nil=>intro acc _ h;exact .inl h
  |cons y r i=>
   intro acc b h;obtain⟨n,k⟩:=y;unfold clOf at h;have j:∀y∈r,y.2=.free->∃d,cells.lookup y.1=some d:=fun y hy=>b y (AG _ hy)
   by_cases hk:(k==Bi)=true
   ·have l:k=.free:=by cases k<;>first|rfl|cases hk
    obtain⟨d,hd⟩:=b (n,k) AC l;rw[if_pos hk] at h;rcases i j h with q|⟨e,f⟩
    ·rcases List.mem_cons.mp q with q|q
     ·refine .inr ⟨?_,?_⟩
      ·have a:cells.lookup n=some d:=hd
       rw[a] at q;cases q;exact a
      ·cases q
       rw[l];exact AC
     ·exact .inl q
    ·exact .inr ⟨e,AG _ f⟩
   ·rw[if_neg hk] at h
    rcases i j h with q|⟨e,f⟩
    ·exact .inl q
    ·exact .inr ⟨e,AG _ f⟩
 intro names acc b o h;rcases g b h with q|q
 ·exact(o _ q).elim
 ·exact q
def cf_mem:∀(names:List (Str×NameKind))(h:Heap)(acc:List (Str×Addr))(x:Str)(c:Addr),(x,c)∈cellsFrom h.objs.size names acc->(x,c)∈acc\/((x,NameKind.cell)∈names/\h.objs.size<=c/\(pushCells h names).IsCell c none)
 |[],h,acc,x,c,a=>.inl a
 |(n,k)::r,h,acc,x,c,a=>by
  rw[cellsFrom.eq_2] at a;have ep:pushCells h ((n,k)::r)=if(k==NameKind.cell)=true then pushCells (h.push {cls:=Value.type "cell",data:=Data.cell none}) r else pushCells h r:=rfl
  by_cases hk:(k==NameKind.cell)=true
  ·have f:k=.cell:=by cases k<;>first|rfl|cases hk
   rw[if_pos hk] at a;rw[ep,if_pos hk];have es:(h.push {cls:=Value.type "cell",data:=Data.cell none}).objs.size=h.objs.size+1:=Heap.size_push ..;rw[<-es] at a;rcases cf_mem r _ _ x c a with q|⟨d,b,e⟩
   ·rcases List.mem_cons.mp q with q|q
    ·cases q
     refine .inr ⟨by rw[f];exact AC,Ad _,_,pushCells_keeps r _ _ _ (AM _ rfl),rfl⟩
    ·exact .inl q
   ·rw[es] at b
    exact .inr ⟨AG _ d,Nat.le_of_succ_le b,e⟩
  ·rw[if_neg hk] at a
   rw[ep,if_neg hk];rcases cf_mem r h acc x c a with q|⟨d,b,e⟩
   ·exact .inl q
   ·exact .inr ⟨AG _ d,b,e⟩
def C2:∀(names:List (Str×NameKind))(n:Nat)(acc:List (Str×Addr)),(∀x y c,(x,c)∈acc->(y,c)∈acc->x=y)->(∀p∈acc,p.2<n)->∀x y c,(x,c)∈cellsFrom n names acc->(y,c)∈cellsFrom n names acc->x=y
 |[],n,acc,hi,_,x,y,c,h1,h2=>hi x y c h1 h2
 |(m,k)::r,n,acc,hi,hl,x,y,c,h1,h2=>by
  rw[cellsFrom.eq_2] at h1 h2
  by_cases hk:(k==NameKind.cell)=true
  ·rw[if_pos hk] at h1 h2
   refine C2 r (n+1) ((m,n)::acc) (fun x y c p q=>?_) (fun p hp=>?_) x y c h1 h2
   ·rcases List.mem_cons.mp p with p|p<;>rcases List.mem_cons.mp q with q|q
    ·cases p;cases q;rfl
    ·cases p
     have:n<n:=hl _ q;(first|lia|omega)
    ·cases q
     have:n<n:=hl _ p;(first|lia|omega)
    ·exact hi x y c p q
   ·rcases List.mem_cons.mp hp with rfl|hp
    ·exact Nat.lt_succ_self _
    ·exact Nat.lt_succ_of_lt (hl p hp)
  ·rw[if_neg hk] at h1 h2
   exact C2 r n acc hi hl x y c h1 h2
def J4{M:Model}{A:Around}{E:Ω}{s:Shared}{scope:Scope}{g:Addr}{a:List (Str×Addr)}{i:Str}{env:Env}{Q:Env->Shared->Prop}(h:∀d:Heap,(d.Ns s⁻¹ fun _=>none)->(∀b o,s.heap.get? b=some o->d.get? b=some o)->
   (∀x c,(x,c)∈cellsFrom (s⁻¹+1) scope.names a->(x,c)∈a\/((x,NameKind.cell)∈scope.names/\s⁻¹+1<=c/\d.IsCell c none))->
   Q (newEnv scope s⁻¹ g (cellsFrom (s⁻¹+1) scope.names a) i none .none (some env) builtinsNs) {s with heap:=d}):
  wpAny M A (newFunctionEnv scope g a [] i none Value.none (some env)) Q E s:=by
 unfold newFunctionEnv;refine Af (wpAny_alloc ?_);refine Af (wpAny_layCells _ (fun name kind cells=>rfl) scope.names a _ _ ?_);have es:(s.heap.push {cls:=Value.type "dict",data:=Data.dict #[]}).objs.size=s⁻¹+1:=Heap.size_push ..;have:=h (pushCells (s.heap.push {cls:=Value.type "dict",data:=Data.dict #[]}) scope.names) ((Heap.Ns.new s.heap (.type "dict")).keeps fun b o e=>pushCells_keeps _ _ _ _ e) (fun b o e=>pushCells_keeps _ _ _ _ (Ai _ e)) (fun x c f=>by
  rw[<-es] at f ⊢;exact cf_mem scope.names _ a x c f)
 show wpAny M A _ _ _ _;refine Af (Ao ?_);refine Ao ?_;rw[<-es] at this;exact this
def cxD(X:Cx)(scope:Scope)(N:List Str)(a:List (Str×Addr))(C:Addr)(s₀:Shared)(H₀:Hp)(ex:List Addr):Cx:={dO X scope N a C s₀ H₀ ex with fn:=fun x=>decide (scope.names.lookup x=some .cell)}
section
variable{X:Cx}{scope:Scope}{N':List Str}{ah:List (Option Nat)}{tg iter aO:Expr}{aD:List Expr}{wi:TI}{g:TG}{tc:TT}{te:TE}{pos:Pos}
def C3{scope:Scope}{env:Env}{x:Str}:∀{names:List (Str×NameKind)},(names.lookup x=some .free\/names.lookup x=some .cell)-> ((names.map fun(n,k)=>if(k==Bi&&env.scope.kind==.function&&env.kindOf n==some .cell) then(n,NameKind.cell) else(n,k)).lookup x=some .free \/
   (names.map fun(n,k)=>if(k==Bi&&env.scope.kind==.function&&env.kindOf n==some .cell) then(n,NameKind.cell) else(n,k)).lookup x=some .cell)
 |[],h=>by simp at h
 |(n,k)::r,h=>by
  have a:=@C3 scope env x r;show List.lookup x ((if(k==Bi&&env.scope.kind==.function&&env.kindOf n==some .cell)=true then(n,NameKind.cell) else(n,k))::_)=_\/List.lookup x ((if(k==Bi&&env.scope.kind==.function&&env.kindOf n==some .cell)=true then(n,NameKind.cell) else(n,k))::_)=_;cases hx:x==n with
  |true=>
   simp only[Bg,hx] at h
   by_cases hc:(k==Bi&&env.scope.kind==.function&&env.kindOf n==some .cell)=true
   ·rw[if_pos hc];simp[Bg,hx]
   ·rw[if_neg hc];simp only[Bg,hx];exact h
  |false=>
   simp only[Bg,hx] at h
   by_cases hc:(k==Bi&&env.scope.kind==.function&&env.kindOf n==some .cell)=true
   ·rw[if_pos hc];simp only[Bg,hx];exact a h
   ·rw[if_neg hc];simp only[Bg,hx];exact a h
def C4{env:Env}{x:Str}{a:NameKind}:∀{names:List (Str×NameKind)},(names.map fun(n,k)=>if(k==Bi&&env.scope.kind==.function&&env.kindOf n==some .cell) then(n,NameKind.cell) else(n,k)).lookup x=some a->
  ∃b,names.lookup x=some b/\(a=b\/(b=.free/\a=.cell))
 |[],h=>by simp at h
 |(n,k)::r,h=>by
  have c:=@C4 env x a r;have h':List.lookup x ((if(k==Bi&&env.scope.kind==.function&&env.kindOf n==some .cell)=true then(n,NameKind.cell) else(n,k))::_)=some a:=h;cases hx:x==n with
  |true=>
   simp only[Bg,hx]
   by_cases hc:(k==Bi&&env.scope.kind==.function&&env.kindOf n==some .cell)=true
   ·rw[if_pos hc] at h'
    simp only[Bg,hx] at h';cases h';have hk:k=.free:=by
     rw[Bool.and_eq_true,Bool.and_eq_true] at hc;cases k<;>first|rfl|exact absurd hc.1.1 ξ
    exact⟨k,rfl,.inr ⟨hk,rfl⟩⟩
   ·rw[if_neg hc] at h'
    simp only[Bg,hx] at h';cases h';exact⟨_,rfl,.inl rfl⟩
  |false=>
   simp only[Bg,hx]
   by_cases hc:(k==Bi&&env.scope.kind==.function&&env.kindOf n==some .cell)=true
   ·rw[if_pos hc] at h';simp only[Bg,hx] at h';exact c h'
   ·rw[if_neg hc] at h';simp only[Bg,hx] at h';exact c h'
structure Left(X:Cx)(aa:Ψ)(σ:St)(H':Hp)(s4:Shared)(C:Addr):Prop where
 ns:∃m,s4.heap.Ns C m
 far:X.s₀⁻¹<=C
 nl:C≠X.env.locals
 nc:∀x c,X.env.cells.lookup x=some c->c≠C
 np:∀p∈X.pn++aa,p.1≠C
 no:H' C=none
 back:∀h',Heap.SameBut C s4.heap h'->Inv X aa σ H' {s4 with heap:=h'}
def C5{use:Option (Value->Sem Unit)}{R:Ω}{pp:Pos}(hc:X.calm=true)(hk:scope.kind=.function)(aL:∀y∈scope.names,y.2=.cell->scope.names.lookup y.1=some .cell)(ak:∀y∈scope.names,y.2=.free->scope.names.lookup y.1=some .free)(al:∀y∈scope.names,y.2=.local->scope.names.lookup y.1=some .local)(hfr:∀y∈scope.names,y.2=.free->X.env.kindOf y.1=some .cell\/X.env.kindOf y.1=some .free)(hcap:kQ X.N N' ah scope)(hi:PI X tg iter wi)(hg:∀cl C s₀ H₀ ex,PG (cxD X scope N' cl C s₀ H₀ ex) tg g)(ht:∀cl C s₀ H₀ ex,fO (cxD X scope N' cl C s₀ H₀ ex) aD tc)(he:∀cl C s₀ H₀ ex,PE (cxD X scope N' cl C s₀ H₀ ex) aO te)(hs:∀x,foldedSetIterable iter X.env x=pure x){aa:Ψ}{s:Shared}{σ:St}{H:Hp}{Q:VK}(I:Inv X aa σ H s)(h:gw wi ah g tc te σ H Q)(fin:∀(D C:Addr)(H':Hp)(P:Shared)(f:Flow),Left X aa σ H' P C->Q (.ref D) H'->compPost (model X.prog X.w) X.A X.xe use R (.ref D) C (.ok f) P):wpAny (model X.prog X.w) X.A (comprehension (.ListComp aO [⟨tg,iter,aD,0⟩] scope pos) scope X.env pp (newList []) (firstAsync [⟨tg,iter,aD,0⟩]) (firstIter [⟨tg,iter,aD,0⟩] X.env) use) R X.xe s:=by
 have S:∀y∈scope.names,y.2=.free->∃c,X.env.cells.lookup y.1=some c:=fun y hy e=>I.ok.has y.1 (hfr y hy e);refine wpAny_comprehension_free (use:=use) rfl hs (J3 S) hk al ?_;refine aR (hi aa s σ H _ I h) fun xv s1 h1=>aR h1 fun k9 O h2=>?_;obtain⟨it,M,tn,J,H2,e,I2,T,cJ,f2,q⟩:=h2;subst e;have jJ:H2 O⁻¹=none:=I2.hok.fresh (Ad _);obtain⟨W,⟨m0,w0⟩,turn⟩:=q O⁻¹ jJ;refine wpAny_newObj_type (J4 fun aK cN bM bO=>?_);dsimp only at cN bM bO ⊢;generalize hD:O⁻¹=D at *;obtain⟨l,e3⟩:∃l:Shared,l={O with heap:=O.heap.push {cls:=.type "list",dict:=none,data:=.seq ([]:List Value).toArray}}:=⟨_,rfl⟩;have h3:l.heap=O.heap.push {cls:=.type "list",dict:=none,data:=.seq ([]:List Value).toArray}:=by rw[e3]
 rw[<-h3] at cN bM bO ⊢;have U:l⁻¹=D+1:=by rw[h3,Heap.size_push,hD]
 have I3:Inv X aa σ (upd H2 D (.lst [])) l:=by
  rw[e3,<-hD];exact I2.lnew (t':=O.toks) (ys:=[]) .nil (Aw _)
 obtain⟨Xc,E⟩:∃Xc,Xc=cxD X scope N' (cellsFrom (l⁻¹+1) scope.names (clOf X.env.cells scope.names [])) l⁻¹ l (upd H2 D (.lst [])) M:=⟨_,rfl⟩;have vk:PG Xc tg g:=by rw[E];exact hg _ _ _ _ _
 have ht':fO Xc aD tc:=by rw[E];exact ht _ _ _ _ _
 have he':PE Xc aO te:=by rw[E];exact he _ _ _ _ _
 have xP:Xc.prog=X.prog:=by rw[E];rfl
 have xw:Xc.w=X.w:=by rw[E];rfl
 have xK:Xc.K=X.K:=by rw[E];rfl
 have xA:Xc.A=X.A:=by rw[E];rfl
 have xc:Xc.calm=true:=by rw[E];exact hc
 have xe:Xc.env=compEnvC scope (cellsFrom (l⁻¹+1) scope.names (clOf X.env.cells scope.names [])) l⁻¹ X.env:=by rw[E];rfl
 have xE:Xc.xe=fun _ _=>False:=by rw[E];rfl
 have G:∀x c,(cellsFrom (l⁻¹+1) scope.names (clOf X.env.cells scope.names [])).lookup x=some c->(X.env.cells.lookup x=some c/\scope.names.lookup x=some .free)\/(scope.names.lookup x=some .cell/\l⁻¹+1<=c/\aK.IsCell c none):=fun x c e=>by
  rcases bO x c (PySem.mem_of_lookup e) with q|⟨q1,q2,q3⟩
  ·obtain⟨q4,q5⟩:=xV S (fun p hp=>absurd hp (by simp)) q
   exact .inl ⟨q4,ak _ q5 rfl⟩
  ·exact .inr ⟨aL _ q1 rfl,q2,q3⟩
 have hlow:∀p∈clOf X.env.cells scope.names [],p.2<l⁻¹+1:=fun p hp=>by
  obtain⟨q4,_⟩:=xV S (fun p hp=>absurd hp (by simp)) (x:=p.1) (c:=p.2) hp;obtain⟨v,o,ho,_⟩:=I3.cell p.1 p.2 q4;exact Nat.lt_succ_of_lt (Aq ho)
 have Y:∀b∈M,b≠D/\b<D:=fun b hb=>by
  obtain⟨ob,eb,_⟩:=T.obj 0 _ cJ b hb;have:=Aq eb;rw[hD] at this;exact⟨AB this,this⟩
 have hfs:∀b∈frs X.stack,b<D:=fun b hb=>by
  obtain⟨_,ob,eb,_⟩:=I2.stack.mem hb;have:=Aq eb;rw[hD] at this;exact this
 have F:∀b o,l.heap.get? b=some o->aK.get? b=some o:=bM;have uC:(upd H2 D (.lst [])) l⁻¹=none:=I3.hok.fresh (Ad _);have Ic:Inv Xc aa (p7 ah σ) (upd H2 D (.lst [])) {l with heap:=aK}:=by
  have okc:Xc.Ok:=by
   rw[E];refine⟨I.ok.mod,hk,I.ok.glob,I.ok.blt,Ad _,fun x y c a b=>C2 scope.names _ _ (fun x y c p q=>I.ok.inj x y c (xV S (fun p hp=>absurd hp (by simp)) p).1 (xV S (fun p hp=>absurd hp (by simp)) q).1) hlow x y c (PySem.mem_of_lookup a) (PySem.mem_of_lookup b),fun x hx=>?_,(fun x c a e=>by
    rcases G x c e with ⟨_,q⟩|⟨_,q,_⟩
    ·have a':=of_decide_eq_true a
     rw[q] at a';cases a'
    ·exact Nat.le_of_succ_le q),I.ok.hd,I.ok.frames,.inl rfl,fun b hb=>⟨?_,fun x c e=>?_⟩,fun b o e=>?_,?_,fun b o e z=>?_,fun b hb z=>?_,?_,fun b hb=>?_⟩
   ·have vZ:(relabel scope X.env).names.lookup x=some .cell\/(relabel scope X.env).names.lookup x=some .free:=hx
    have key:∃k',scope.names.lookup x=some k'/\(k'=.free\/k'=.cell):=by
     rcases vZ with q|q
     ·obtain⟨k',e1,e2⟩:=C4 q
      rcases e2 with e2|⟨e2,_⟩
      ·exact⟨k',e1,.inr e2.symm⟩
      ·exact⟨k',e1,.inl e2⟩
     ·obtain⟨k',e1,e2⟩:=C4 q
      rcases e2 with e2|⟨e2,_⟩
      ·exact⟨k',e1,.inl e2.symm⟩
      ·exact⟨k',e1,.inl e2⟩
    obtain⟨k',e1,e2⟩:=key;have hm:=PySem.mem_of_lookup e1;rcases e2 with rfl|rfl
    ·obtain⟨c,jV⟩:=xU (cells:=X.env.cells) (acc:=[]) (.inl hm)
     obtain⟨d,hd⟩:=C1 jV;exact Option.isSome_iff_exists.mp (PySem.W.cellsFrom_some scope.names (l⁻¹+1) _ (.inr (by rw[hd];rfl)))
    ·exact Option.isSome_iff_exists.mp (PySem.W.cellsFrom_some scope.names (l⁻¹+1) _ (.inl e1))
   ·show b≠l⁻¹
    exact AB (by rw[U];exact Nat.lt_succ_of_lt (Y b hb).2)
   ·rcases G x c e with ⟨q,_⟩|⟨_,q,_⟩
    ·exact(f2 b hb).2.2.2.2.1 x c q
    ·have h1:b<l⁻¹+1:=by rw[U];exact Nat.lt_succ_of_lt (Nat.lt_succ_of_lt (Y b hb).2)
     exact Nat.ne_of_gt (At h1 q)
   ·exact I3.bs b o e
   ·exact Ae I.ok.bsz I3.sz
   ·obtain⟨f,_,_,fx,_,_⟩:=f2 b z
    rcases fx with fx|fx
    ·exact I.ok.noex b o e fx
    ·have:=At (Aq e) I.ok.bsz
     (first|lia|omega)
   ·rcases List.mem_cons.mp (I2.stkSub b z) with r|r
    ·exact(f2 b hb).2.1 r
    ·exact(f2 b hb).2.2.1 r
   ·exact I3.stack
   ·exact I3.stkFree b hb
  refine⟨okc,(by rw[E];rfl),I3.bare,?_,?_,fun x c e=>?_,?_,fun x c e=>?_,fun p hp=>?_,?_,?_⟩
  ·rw[E]
   exact Un.kept F
  ·rw[xe]
   refine⟨_,cN,fun i x v e1 e2 e3=>?_⟩;obtain⟨c1,c2⟩:=hcap;unfold p7 at e2;rw[Aj] at e2;cases e4:ah[i]? with
   |none=>rw[e4] at e2;cases e2
   |some cc=>
    rw[e4] at e2;cases cc with
    |none=>cases e2
    |some j=>
     obtain⟨y,d1,d2,d3⟩:=c2 i j e4;have nY:N'[i]?=some x:=by rw[E] at e1;exact e1
     rw[d1] at nY;have rD:y=x:=AW nY;subst rD;have e5:σ[j]?=some (some v):=by
      simp only[Option.map_some,Option.some.injEq] at e2;cases e6:σ[j]? with
      |none=>rw[e6] at e2;cases e2
      |some ov=>rw[e6] at e2;simp only[Option.getD_some] at e2;rw[e2]
     have hm:=PySem.mem_of_lookup d3;have tP:vX X.env.scope y:=by
      rcases hfr _ hm rfl with q|q
      ·exact .inr (.inl q)
      ·exact .inr (.inr q)
     obtain⟨m,_,hl⟩:=I3.loc;obtain⟨u,ru,lk⟩:=hl j y v d2 e5 tP;refine⟨u,ru,?_⟩;have sG:∃c,X.env.cells.lookup y=some c/\l.heap.IsCell c (some u):=by
      rcases lk with ⟨k1,_⟩|⟨_,c,k2,k3⟩
      ·rcases hfr _ hm rfl with q|q
       ·rw[k1] at q;cases q
       ·rw[k1] at q;cases q
      ·exact⟨c,k2,k3⟩
     obtain⟨c,k2,k3⟩:=sG;obtain⟨d,hd'⟩:=xU (cells:=X.env.cells) (acc:=[]) (.inl hm);obtain⟨d',eD⟩:=C1 hd';obtain⟨d2,hd3⟩:=Option.isSome_iff_exists.mp (PySem.W.cellsFrom_some scope.names (l⁻¹+1) (clOf X.env.cells scope.names []) (x:=y) (.inr (by rw[eD];rfl)));have:c=d2:=by
      rcases G y d2 hd3 with ⟨q,_⟩|⟨q,_⟩
      ·rw[k2] at q
       exact AW q
      ·rw[d3] at q;cases q
     subst this;refine .inr ⟨?_,c,hd3,k3.keeps F⟩;have rl:=C3 (scope:=scope) (env:=X.env) (x:=y) (names:=scope.names) (.inl d3);rcases rl with q|q
     ·exact .inr q
     ·exact .inl q
  ·rw[xe] at e
   rcases G x c e with ⟨q,_⟩|⟨_,_,q⟩
   ·obtain⟨v,k3⟩:=I3.cell x c q
    exact⟨v,k3.keeps F⟩
   ·exact⟨_,q⟩
  ·rw[xe];exact uC
  ·rw[xe] at e
   rcases G x c e with ⟨q,_⟩|⟨_,q,_⟩
   ·exact I3.freeC x c q
   ·exact I3.hok.fresh (Nat.le_of_succ_le q)
  ·have hp':p∈X.pn++aa:=by rw[E] at hp;exact hp
   obtain⟨a1,a2,a3,a4,a5⟩:=I3.pin p hp';refine⟨F _ _ a1,a2,?_,?_,a5⟩
   ·rw[xe]
    show p.1≠l⁻¹;exact AB (Aq a1)
   ·rw[E]
    intro z;rcases List.mem_cons.mp (I3.stkSub p.1 z) with r|r
    ·exact a3 r
    ·exact a4 r
  ·rw[xP,xw]
   exact I3.hok.kept F
  ·unfold p7
   rw[Aa,hcap.1,E]
   rfl
 have leave:∀{L:St}{H':Hp}{P:Shared}{h':Heap},Inv Xc aa L H' P->Heap.SameBut l⁻¹ P.heap h'->Inv X aa σ H' {P with heap:=h'}:=fun{L H' P h'} I4 av=>by
  have hlt:∀b o,O.heap.get? b=some o->b≠D/\b≠l⁻¹:=fun b o e=>by
   have hb:=Aq e;rw[hD] at hb;exact⟨AB hb,AB (by rw[U];exact Nat.lt_succ_of_lt hb)⟩
  have up3:∀b o,O.heap.get? b=some o->l.heap.get? b=some o:=fun b o e=>by rw[h3];exact Ai _ e
  have base:Un (frs X.stack) M (upd H2 D (.lst [])) H' l.heap P.heap:=by
   have:=I4.base;rw[E] at this;exact this
  have hCn:H' l⁻¹=none:=by
   have:=I4.free;rw[xe] at this;exact this
  have os4:P.os=O.os:=by
   have:=I4.os;rw[E] at this;rw[this];show l.os=O.os;rw[e3]
  refine I2.call' (s':={P with heap:=h'}) (ch:=M) os4 ⟨fun b o q n hb hx=>?_,fun b o q n hb hx=>?_,fun b o q n hx=>?_,fun b o q hx=>?_,fun b xs q=>?_,fun b o u q=>?_,fun b ps q=>?_⟩ ?_ I4.bare fun b hb=>?_
  ·obtain⟨n1,n2⟩:=hlt b o q
   exact(av.2 b n2).trans (base.keep b o (up3 b o q) (by rw[ag n1];exact n) hb hx)
  ·obtain⟨n1,n2⟩:=hlt b o q
   obtain⟨sl,e⟩:=base.slot b o (up3 b o q) (by rw[ag n1];exact n) hb hx;exact⟨sl,(av.2 b n2).trans e⟩
  ·obtain⟨n1,n2⟩:=hlt b o q
   exact base.free b o (up3 b o q) (by rw[ag n1];exact n) hx
  ·obtain⟨n1,n2⟩:=hlt b o q
   obtain⟨o',e⟩:=base.there b o (up3 b o q) hx;exact⟨o',(av.2 b n2).trans e⟩
  ·exact base.tups b xs (by rw[ag (zk q jJ)];exact q)
  ·exact base.frzs b o u (by rw[ag (zk q jJ)];exact q)
  ·exact base.tbls b ps (by rw[ag (zk q jJ)];exact q)
  ·intro b u e
   have oa:=I4.hok b u e;rw[xP,xw] at oa;refine oa.stay (fun c v hc q=>(av.2 c ?_).trans q) (fun _ q=>q) fun _ _ q=>q;rintro rfl;rcases hc with z|z
   ·rw[<-z,hCn] at e;cases e
   ·rw[hCn] at z;cases z
  ·obtain⟨f0,f1,f3,f4,f5,f6⟩:=f2 b hb
   exact⟨f4,f1,f5,f6⟩
 have Z:∀{H':Hp},(∀b∈M,H' b=none)->∀b∈M,cj Xc aa H' b:=fun{H'} hn b hb=>by
  obtain⟨f0,f1,f3,f4,f5,f6⟩:=f2 b hb;refine⟨hn b hb,?_,?_,.inl (by rw[E];exact hb),fun x c e=>?_,fun p hp=>?_⟩
  ·rw[xe]
   show b≠l⁻¹;exact AB (by rw[U];exact Nat.lt_succ_of_lt (Y b hb).2)
  ·rw[E]
   intro z;rcases List.mem_cons.mp (I2.stkSub b z) with r|r
   ·exact f1 r
   ·exact f3 r
  ·rw[xe] at e
   rcases G x c e with ⟨q,_⟩|⟨_,q,_⟩
   ·exact f5 x c q
   ·have h1:b<l⁻¹+1:=by rw[U];exact Nat.lt_succ_of_lt (Nat.lt_succ_of_lt (Y b hb).2)
    exact Nat.ne_of_gt (At h1 q)
  ·rw[E] at hp
   exact f6 p hp
 subst E;have gX:∀n s',(∃i L H',Inv (cxD X scope N' (cellsFrom (l⁻¹+1) scope.names (clOf X.env.cells scope.names [])) l⁻¹ l (upd H2 D (.lst [])) M) aa L H' s'/\tn i s'.heap/\(∀b∈M,H' b=none)/\W i n L H')->
   codeAny (model X.prog X.w) X.A (.compLoop (.ListComp aO [⟨tg,iter,aD,0⟩] scope pos) 0 (.ref it) (.ref D) (compEnvC scope (cellsFrom (l⁻¹+1) scope.names (clOf X.env.cells scope.names [])) l⁻¹ X.env)) (compPost (model X.prog X.w) X.A X.xe use R (.ref D) l⁻¹) s':=by
  intro n0 Bl rO;refine codeAny_loop rfl (fun n s'=>∃i L H',Inv (cxD X scope N' (cellsFrom (l⁻¹+1) scope.names (clOf X.env.cells scope.names [])) l⁻¹ l (upd H2 D (.lst [])) M) aa L H' s'/\tn i s'.heap/\(∀b∈M,H' b=none)/\W i n L H') (fun n s' hI=>?_) n0 rO;obtain⟨i,L,H',I',ab,di,w'⟩:=hI;show wpAny _ X.A ((compTurn (.ListComp aO [⟨tg,iter,aD,0⟩] scope pos) 0 (.ref it) (.ref D) (compEnvC scope (cellsFrom (l⁻¹+1) scope.names (clOf X.env.cells scope.names [])) l⁻¹ X.env)).onRaise (fun x=>do noteFrame x (compEnvC scope (cellsFrom (l⁻¹+1) scope.names (clOf X.env.cells scope.names [])) l⁻¹ X.env);theTreesLotGoes x)) _ _ s';refine wpAny_noted ?_;rw[compTurn_list];refine Af (wpAny_standAt (Af ?_));rcases turn i n L H' w' with ⟨stop,qn⟩|⟨go,step⟩
  ·refine aR (T.done (cxD X scope N' (cellsFrom (l⁻¹+1) scope.names (clOf X.env.cells scope.names [])) l⁻¹ l (upd H2 D (.lst [])) M) rfl rfl rfl hc i aa s' L H' _ I' (Z di) ab stop) fun r P ⟨hr,I4⟩=>?_
   subst hr;refine Ao ?_;obtain⟨m,hn,_⟩:=id I4.loc;refine fin D _ H' P _ ⟨⟨m,hn⟩,I3.sz,fun e=>?_,fun x c e=>?_,fun p hp=>AB (Aq (I3.pin p hp).1),I4.free,fun h' av=>leave I4 av⟩ qn
   ·obtain⟨m3,wQ,_⟩:=I3.loc
    obtain⟨o3,_,_,mV,_⟩:=wQ;exact absurd e.symm (AB (Aq mV))
   ·obtain⟨v,hv⟩:=I3.cell x c e
    obtain⟨o3,mV,_⟩:=hv;exact AB (Aq mV)
  ·refine aR (T.item (cxD X scope N' (cellsFrom (l⁻¹+1) scope.names (clOf X.env.cells scope.names [])) l⁻¹ l (upd H2 D (.lst [])) M) rfl rfl rfl hc i aa s' L H' _ I' (Z di) ab go) fun r P ⟨u,hr,h4⟩=>?_
   subst hr;refine Af (aR h4 fun _ s5 ⟨x,H5,I5,r5,y5,st5,fr5⟩=>?_);have nh:=I5.pinned (Z fr5) (T.obj _ _ st5);refine Af (wpAny_mono (vk _ s5 L H5 x u _ nh r5 (step x H5 y5)) (fun _ s6 h6=>?_) fun _ _ z=>z.elim);obtain⟨il,H6,I6,q6⟩:=h6;refine Af (wpAny_mono (ht' _ s6 il H6 _ I6 q6) (fun ok s7 h7=>?_) fun _ _ z=>z.elim);obtain⟨H7,I7,q7⟩:=h7;have again:∀{jR:St}{H8:Hp}{s8:Shared}{m':Nat},Inv (cxD X scope N' (cellsFrom (l⁻¹+1) scope.names (clOf X.env.cells scope.names [])) l⁻¹ l (upd H2 D (.lst [])) M) (aa++pH M s5.heap) jR H8 s8->m'<n->W (i+1) m' jR H8->
     ∃m,m<n/\∃i L H',Inv (cxD X scope N' (cellsFrom (l⁻¹+1) scope.names (clOf X.env.cells scope.names [])) l⁻¹ l (upd H2 D (.lst [])) M) aa L H' s8/\tn i s8.heap/\(∀b∈M,H' b=none)/\W i m L H':=fun{jR H8 s8 m'} I8 hm w8=>by
    refine⟨m',hm,i+1,jR,H8,I8.unpinned,T.keep _ _ _ st5 fun b hb o e=>(I8.pin (b,o) (AA _ (AA _ (ww hb e)))).1,fun b hb=>?_,w8⟩;obtain⟨o,e,d⟩:=T.obj _ _ st5 b hb;exact(I8.pin (b,o) (AA _ (AA _ (ww hb e)))).2.1
   cases ok with
   |false=>
    obtain⟨m',hm,w7⟩:=q7;exact Ao ⟨rfl,again I7 hm w7⟩
   |true=>
    refine Af (Af (wpAny_mono (he' _ s7 il H7 _ I7 q7) (fun v s8 h8=>?_) fun _ _ z=>z.elim));obtain⟨y,H8,I8,r8,ys,m',l8,oC,vx,w8⟩:=h8;refine Af (wpAny_mono (E7 (X:=cxD X scope N' (cellsFrom (l⁻¹+1) scope.names (clOf X.env.cells scope.names [])) l⁻¹ l (upd H2 D (.lst [])) M) _ s8 il H8 (.ref D) [y] (.ref D) [v] (fun _ H9=>H9=upd H8 D (.lst (ys++[y]))) I8 rfl (.cons r8 .nil) ⟨D,ys,y,rfl,rfl,l8,oC,rfl⟩) (fun _ s9 h9=>?_) fun _ _ z=>z.elim);obtain⟨_,H9,I9,_,e9⟩:=h9;subst e9;exact Ao (Ao ⟨rfl,again I9 vx w8⟩)
 have start:∃i L H',Inv (cxD X scope N' (cellsFrom (l⁻¹+1) scope.names (clOf X.env.cells scope.names [])) l⁻¹ l (upd H2 D (.lst [])) M) aa L H' {l with heap:=aK}/\tn i ({l with heap:=aK}:Shared).heap/\(∀b∈M,H' b=none)/\W i m0 L H':=by
  refine⟨0,p7 ah σ,upd H2 D (.lst []),Ic,T.keep 0 _ _ cJ fun b hb o e=>F b o (by rw[h3];exact Ai _ e),fun b hb=>?_,w0⟩;rw[ag (Y b hb).1];exact(f2 b hb).1
 have es:({O with heap:=aK}:Shared)={l with heap:=aK}:=by rw[e3]
 show codeAny (model X.prog X.w) X.A _ _ ({O with heap:=aK}:Shared);rw[es];refine codeAny_compStart_list (gX m0 _ start) (T.self _ 0 _ _ _ ?_ (gX m0 _ start));exact T.keep 0 _ _ cJ fun b hb o e=>F b o (by rw[h3];exact Ai _ e)
def nf(b:∀y∈scope.names,y.2≠.cell)(a:List (Str×Addr))(C:Addr)(s₀:Shared)(H₀:Hp)(ex:List Addr):dO X scope N' a C s₀ H₀ ex=cxD X scope N' a C s₀ H₀ ex:=by
 unfold cxD;have:(fun x=>decide (scope.names.lookup x=some NameKind.cell))=fun _=>false:=by
  funext x
  exact decide_eq_false fun e=>b _ (PySem.mem_of_lookup e) rfl
 rw[this]
 rfl
def J5{use:Option (Value->Sem Unit)}{R:Ω}{pp:Pos}(hc:X.calm=true)(hk:scope.kind=.function)(c:∀y∈scope.names,y.2≠.cell)(i:∀y∈scope.names,y.2=.free->scope.names.lookup y.1=some .free)(j:∀y∈scope.names,y.2=.local->scope.names.lookup y.1=some .local)(hfr:∀y∈scope.names,y.2=.free->X.env.kindOf y.1=some .cell\/X.env.kindOf y.1=some .free)(b:kQ X.N N' ah scope)(hi:PI X tg iter wi)(hg:∀a C s₀ H₀ ex,PG (dO X scope N' a C s₀ H₀ ex) tg g)(l:∀a C s₀ H₀ ex,fO (dO X scope N' a C s₀ H₀ ex) aD tc)(o:∀a C s₀ H₀ ex,PE (dO X scope N' a C s₀ H₀ ex) aO te)(p:∀x,foldedSetIterable iter X.env x=pure x){aa:Ψ}{s:Shared}{σ:St}{H:Hp}{Q:VK}(I:Inv X aa σ H s)(h:gw wi ah g tc te σ H Q)(fin:∀(D C:Addr)(H':Hp)(d:Shared)(f:Flow),Left X aa σ H' d C->Q (.ref D) H'->compPost (model X.prog X.w) X.A X.xe use R (.ref D) C (.ok f) d):wpAny (model X.prog X.w) X.A (comprehension (.ListComp aO [⟨tg,iter,aD,0⟩] scope pos) scope X.env pp (newList []) (firstAsync [⟨tg,iter,aD,0⟩]) (firstIter [⟨tg,iter,aD,0⟩] X.env) use) R X.xe s:=
 C5 hc hk (fun y hy e=>absurd e (c y hy)) i j hfr b hi (fun a C s₀ H₀ ex=>nf (X:=X) (N':=N') c a C s₀ H₀ ex▸hg a C s₀ H₀ ex) (fun a C s₀ H₀ ex=>nf (X:=X) (N':=N') c a C s₀ H₀ ex▸l a C s₀ H₀ ex) (fun a C s₀ H₀ ex=>nf (X:=X) (N':=N') c a C s₀ H₀ ex▸o a C s₀ H₀ ex) p I h fin
def J6(hc:X.calm=true)(hk:scope.kind=.function)(c:∀y∈scope.names,y.2≠.cell)(i:∀y∈scope.names,y.2=.free->scope.names.lookup y.1=some .free)(j:∀y∈scope.names,y.2=.local->scope.names.lookup y.1=some .local)(hfr:∀y∈scope.names,y.2=.free->X.env.kindOf y.1=some .cell\/X.env.kindOf y.1=some .free)(b:kQ X.N N' ah scope)(hi:PI X tg iter wi)(hg:∀a C s₀ H₀ ex,PG (dO X scope N' a C s₀ H₀ ex) tg g)(l:∀a C s₀ H₀ ex,fO (dO X scope N' a C s₀ H₀ ex) aD tc)(o:∀a C s₀ H₀ ex,PE (dO X scope N' a C s₀ H₀ ex) aO te)(p:∀x,foldedSetIterable iter X.env x=pure x:=by intro _;rfl):PE X (.ListComp aO [⟨tg,iter,aD,0⟩] scope pos) (gw wi ah g tc te):=by
 intro aa s σ H Q I h;rw[eval_ListComp];refine J5 (use:=none) hc hk c i j hfr b hi hg l o p I h fun D C H' r f L q=>?_;obtain⟨m,e⟩:=L.ns;exact⟨m,e,fun h' d=>⟨.ref D,H',L.back h' d,rfl,q⟩⟩
end
end L2
end
section
namespace Zp
open PySem PySem.Spec PyProof.Rows
section
variable{prog:Program}{w:World}{A:Around}{E:Ω}{s:Shared}
def J7{it t:Addr}{i:Nat}{c:Array Value}{x:Value}{Q:Ω}(b:s.heap.IsTupleIter it t i)(f:s.heap.IsTuple t c)(hx:c[i]?=some x)(g:∀h',h'.IsTupleIter it t (i+1)->Heap.SameBut it s.heap h'->Q x {s with heap:=h'}):wpAny (model prog w) A (Builtin.SmallTypes.nextOf (.ref it)) Q E s:=by
 obtain⟨o,a,hc,hd⟩:=id b;obtain⟨h,d,_,j,e⟩:=f;unfold Builtin.SmallTypes.nextOf;refine Af (wpAny_callSpecial?_slot (name:=Str.ofString "__next__") b.typeIs F.slot_tuple_iterator_next (wpAny_call_entry F.slot_tuple_iterator_next b.typeIs F.entry_tuple_iterator_next ?_ (F.args_tuple_iterator_next_1 _)));show wpAny _ _ (field (.ref it) 0 >>= _) _ _ s;refine Af (wpAny_field a hd (x:=.ref t) rfl ?_);show wpAny _ _ (if(Value.ref t==Value.none)=true then _ else _) _ _ s;rw[if_neg (show ¬((Value.ref t==Value.none)=true) from AE)];show wpAny _ _ (field (.ref it) 1 >>= _) _ _ s;refine Af (wpAny_field a hd (x:=.int i 0) rfl ?_);show wpAny _ _ (seqItems? (.ref t) >>= _) _ _ s;refine Af (wpAny_seqItems d e ?_);simp only[Bj,hx];refine Af (wpAny_setField a hd (by simp) (Ao ⟨x,rfl,Ao (g _ ?_ (Heap.SameBut.update ..))⟩));exact⟨_,Heap.get?_update_self _ a (Obj.isFreed_of_fields (Obj.data_mapFields hd _)),(Obj.cls_mapFields ..).trans hc,by
  rw[Obj.data_mapFields hd];simp[rawInt]⟩
def J8{it t:Addr}{i:Nat}{d:Array Value}{Q:Ω}(f:A.handled=none)(c:s.heap.IsTupleIter it t i)(j:s.heap.IsTuple t d)(hx:d[i]?=none)(l:∀h' e,Heap.ExtBut it s.heap h'->(∃o,h'.get? e=some o/\o.cls=.type "StopIteration")->E (.ref e) {s with heap:=h'}):wpAny (model prog w) A (Builtin.SmallTypes.nextOf (.ref it)) Q E s:=by
 obtain⟨o,b,hc,hd⟩:=id c;obtain⟨p,g,_,q,h⟩:=j;unfold Builtin.SmallTypes.nextOf;refine Af (wpAny_callSpecial?_slot (name:=Str.ofString "__next__") c.typeIs F.slot_tuple_iterator_next (wpAny_call_entry F.slot_tuple_iterator_next c.typeIs F.entry_tuple_iterator_next ?_ (F.args_tuple_iterator_next_1 _)));show wpAny _ _ (field (.ref it) 0 >>= _) _ _ s;refine Af (wpAny_field b hd (x:=.ref t) rfl ?_);show wpAny _ _ (if(Value.ref t==Value.none)=true then _ else _) _ _ s;rw[if_neg (show ¬((Value.ref t==Value.none)=true) from AE)];show wpAny _ _ (field (.ref it) 1 >>= _) _ _ s;refine Af (wpAny_field b hd (x:=.int i 0) rfl ?_);show wpAny _ _ (seqItems? (.ref t) >>= _) _ _ s;refine Af (wpAny_seqItems g h ?_);simp only[Bj,hx];refine Af (wpAny_rule (Af (wpAny_setField b hd (by simp) ?_)));show wpAny _ _ (newExc (.type "StopIteration") [] >>= _) _ _ _;refine Af ?_;simp only[newExc,newTuple];refine Af (wpAny_newObj_type ?_ (by size_fits));refine Af (m:=firstArgMember _ _) (wpAny_of_eq (a:=Value.none) (by first|rfl|(simp only[firstArgMember];rfl)) ?_);refine wpAny_newObj_type ?_ (by size_fits);simp only[raiseNew];refine Af (wpAny_handled ?_)
 first|rw[show A.in1.handled=none from f]|rw[f]
 refine Af (Ao (wpAny_throw ?_));exact l _ _ (((Heap.SameBut.update ..).extBut.push _).push _) ⟨_,AM _ rfl,rfl⟩
end
def J9{h h':Heap}{a:Addr}{b:Array Value}(x:h.IsTuple a b)(e:∀o,h.get? a=some o->h'.get? a=some o):h'.IsTuple a b:=let ⟨o,ho,r⟩:=x;⟨o,e o ho,r⟩
def Fv{prog:Program}{w:World}{A:Around}(j:A.handled=none)(it t:Addr)(b:t≠it)(a:Array Value):Draws prog w A it [it,t] a.size (fun i v=>a[i]?=some v) (fun i h=>h.IsTupleIter it t i/\h.IsTuple t a) where
 live:=fun _ _ st=>let ⟨o,ho,_⟩:=st.1;⟨o,ho⟩
 frame:=fun _ _ _ st hk=>⟨st.1.at fun o e=>hk it (by simp) o e,J9 st.2 fun o e=>hk t (by simp) o e⟩
 item:=fun i s Q E hi st d=>by
  refine J7 st.1 st.2 (x:=a[i]) (by simp[hi]) fun h' f c=>?_;exact d _ h' s.toks (by simp[hi]) ⟨f,st.2.extBut c.extBut b⟩ c
 done:=fun s Q E st g=>J8 j st.1 st.2 (by simp) g
structure Apart(z TI TO i1 i2:Addr)(bN bY:List Addr):Prop where
 z1:z∉bN
 z2:z∉bY
 o1:TO∉bN
 o2:TO∉bY
 m1:i1∈bN
 m2:i2∈bY
 x12:i1∉bY
 x21:i2∉bN
 TIz:TI≠z
 TOz:TO≠z
 TITO:TI≠TO
 TIi1:TI≠i1
 TIi2:TI≠i2
section
variable{prog:Program}{w:World}{A:Around}{E:Ω}{s:Shared}{z TI TO i1 i2:Addr}{bN bY:List Addr}{n1 n2 i:Nat}{P1 P2:Nat->Value->Prop}{S1 S2:Nat->Heap->Prop}{a b:Value}
def J_{Q:Ω}(D1:Draws prog w A i1 bN n1 P1 S1)(D2:Draws prog w A i2 bY n2 P2 S2)(D:Apart z TI TO i1 i2 bN bY)(hz:IsZip s.heap z TI TO .none)(c_:IsPair s.heap TI (.ref i1) (.ref i2))(dk:IsPair s.heap TO a b)(h1:S1 i s.heap)(h2:S2 i s.heap)(l1:i<n1)(l2:i<n2)(hQ:∀x y h' tk,P1 i x->P2 i y->IsZip h' z TI TO (rawInt s⁻¹)->IsPair h' TO x y->S1 (i+1) h'->S2 (i+1) h'->IsPair h' s⁻¹ x y->h'.objs.size=s⁻¹+1->
   (∀c o,c≠z->c≠TO->c≠i1->c≠i2->s.heap.get? c=some o->h'.get? c=some o)->Q (.ref s⁻¹) {s with heap:=h',toks:=tk}):
  wpAny (model prog w) A (Builtin.«zip.__next__» ⟨[.ref z],[]⟩) (fun fin s'=>∃v,fin=.done (.ret v)/\Q v s') E s:=by
 have f:∀c∈bN,c≠z:=fun c hc e=>D.z1 (e▸hc);have L:∀c∈bY,c≠z:=fun c hc e=>D.z2 (e▸hc);have M:∀c∈bN,c≠TO:=fun c hc e=>D.o1 (e▸hc);have N:∀c∈bY,c≠TO:=fun c hc e=>D.o2 (e▸hc);have mO:∀c∈bY,c≠i1:=fun c hc e=>D.x12 (e▸hc);have vU:∀c∈bN,c≠i2:=fun c hc e=>D.x21 (e▸hc);have jg:i1≠z:=f _ D.m1;have lG:i2≠z:=L _ D.m2;have fM:TO≠i1:=(M _ D.m1).symm;have mI:TO≠i2:=(N _ D.m2).symm;show wpAny _ _ (field (.ref z) 2 >>= _) _ _ _;refine Af (wpAny_field hz rfl (x:=.bool false) rfl ?_);show wpAny _ _ (field (.ref z) 3 >>= _) _ _ _;refine Af (wpAny_field hz rfl (x:=.ref TI) rfl ?_);refine Af (wpAny_seqItems c_ rfl ?_);show wpAny _ _ (Builtin.SmallTypes.ownedTupleIsFree (.ref z) >>= _) _ _ _;refine Af ?_;unfold Builtin.SmallTypes.ownedTupleIsFree;refine Af (wpAny_field hz rfl (x:=.none) rfl (Ao ?_));simp only[if_true];refine Af (wpAny_rule ?_);refine Af (wpAny_field hz rfl (x:=.ref TO) rfl ?_);refine Af (wpAny_setField_rec hz (by simp) fun g1 u k1=>?_);replace u:IsZip g1 z TI TO .ellipsis:=u;refine Af ?_;simp only[List.zipIdx_cons,List.zipIdx_nil,List.forIn_cons,List.forIn_nil];refine Af (Af (wpAny_onRaise ?_));show wpAny _ _ (Builtin.SmallTypes.nextOf (.ref i1) >>= _) _ _ _;refine Af (D1.item i _ _ _ l1 (D1.frame _ _ _ h1 fun c hc o e=>k1.extBut c o (f c hc) e) fun x g2 qG X Y k2=>Ao ?_);have O:IsPair g2 TO a b:=k2.extBut _ _ fM (k1.extBut _ _ D.TOz dk);refine Af (wpAny_seqItems O rfl ?_);refine Af (wpAny_updateSeq_pair O fun g3 C g=>?_);replace C:IsPair g3 TO x b:=C;refine Af (wpAny_letGo (Ao ?_));refine Af (Af (wpAny_onRaise ?_));show wpAny _ _ (Builtin.SmallTypes.nextOf (.ref i2) >>= _) _ _ _;refine Af (D2.item i _ _ _ l2 (D2.frame _ _ _ h2 fun c hc o e=>g.extBut c o (N c hc) (k2.extBut c o (mO c hc) (k1.extBut c o (L c hc) e))) fun y g4 xG Z s4 h=>Ao ?_);have P:IsPair g4 TO x b:=h.extBut _ _ mI C;refine Af (wpAny_seqItems P rfl ?_);refine Af (wpAny_updateSeq_pair P fun d p j=>?_);replace p:IsPair d TO x y:=p;refine Af (wpAny_letGo (Ao (Ao ?_)));refine Af (wpAny_seqItems p rfl ?_);refine Af (wpAny_newTuple ?_);have hsz:d.objs.size=s⁻¹:=by rw[j.1,h.1,g.1,k2.1,k1.1]
 have S:IsZip d z TI TO .ellipsis:=j.extBut _ _ D.TOz.symm (h.extBut _ _ lG.symm (g.extBut _ _ D.TOz.symm (k2.extBut _ _ jg.symm u)));have kk:∀c o,c≠z->c≠TO->c≠i1->c≠i2->s.heap.get? c=some o->d.get? c=some o:=fun c o c1 q F G e=>
  j.extBut _ _ q (h.extBut _ _ G (g.extBut _ _ q (k2.extBut _ _ F (k1.extBut _ _ c1 e))))
 have d1:S1 (i+1) d:=D1.frame _ _ _ Y fun c hc o e=>j.extBut c o (M c hc) (h.extBut c o (vU c hc) (g.extBut c o (M c hc) e));have d2:S2 (i+1) d:=D2.frame _ _ _ s4 fun c hc o e=>j.extBut c o (N c hc) e;have T:z<d.objs.size:=Aq S;have e1:∀c∈bN,∀o,d.get? c=some o->c<d.objs.size:=fun c _ o e=>Aq e;show wpAny _ _ (Builtin.SmallTypes.ownedTupleHandOut (.ref z) (.ref d.objs.size) >>= _) _ _ _;refine Af ?_;unfold Builtin.SmallTypes.ownedTupleHandOut;have z6:IsZip (d.push {cls:=.type "tuple",data:=.seq #[x,y]}) z TI TO .ellipsis:=Ai _ S;refine Af (wpAny_setField_rec z6 (by simp) fun g7 H I=>?_);replace H:IsZip g7 z TI TO (rawInt d.objs.size):=H;refine wpAny_setField_rec H (by simp) fun l r J=>?_;replace r:IsZip l z TI TO (rawInt d.objs.size):=r;have up:∀c o,c≠z->d.get? c=some o->l.get? c=some o:=fun c o c1 e=>J.extBut _ _ c1 (I.extBut _ _ c1 (Ai _ e));have W:IsPair l d.objs.size x y:=J.extBut _ _ (Nat.ne_of_gt T) (I.extBut _ _ (Nat.ne_of_gt T) (AM _ rfl));have U:l.objs.size=d.objs.size+1:=by rw[J.1,I.1,Heap.size_push]
 rw[hsz] at r W U;refine Ao ⟨_,rfl,?_⟩;show Q (.ref d.objs.size) _;rw[hsz];exact hQ x y l _ X Z r (up _ _ D.TOz p) (D1.frame _ _ _ d1 fun c hc o e=>up c o (f c hc) e) (D2.frame _ _ _ d2 fun c hc o e=>up c o (L c hc) e) W U fun c o c1 q F G e=>up c o c1 (kk c o c1 q F G e)
def J'{Q:Fin->Shared->Prop}(D1:Draws prog w A i1 bN n1 P1 S1)(D2:Draws prog w A i2 bY n2 P2 S2)(D:Apart z TI TO i1 i2 bN bY)(hz:IsZip s.heap z TI TO .none)(Y:IsPair s.heap TI (.ref i1) (.ref i2))(Z:IsPair s.heap TO a b)(h1:S1 i s.heap)(h2:S2 i s.heap)(O:i=n1\/(i<n1/\i=n2))(J:∀h' e tk,(∀c o,c≠z->c≠TO->c≠i1->c≠i2->s.heap.get? c=some o->h'.get? c=some o)->(∃o,h'.get? e=some o/\o.cls=.type "StopIteration")->E (.ref e) {s with heap:=h',toks:=tk}):wpAny (model prog w) A (Builtin.«zip.__next__» ⟨[.ref z],[]⟩) Q E s:=by
 have h:∀c∈bN,c≠z:=fun c hc e=>D.z1 (e▸hc);have C:∀c∈bY,c≠z:=fun c hc e=>D.z2 (e▸hc);have S:∀c∈bN,c≠TO:=fun c hc e=>D.o1 (e▸hc);have T:∀c∈bY,c≠TO:=fun c hc e=>D.o2 (e▸hc);have U:∀c∈bY,c≠i1:=fun c hc e=>D.x12 (e▸hc);have F:i1≠z:=h _ D.m1;have W:i2≠z:=C _ D.m2;have X:TO≠i1:=(S _ D.m1).symm;show wpAny _ _ (field (.ref z) 2 >>= _) _ _ _;refine Af (wpAny_field hz rfl (x:=.bool false) rfl ?_);show wpAny _ _ (field (.ref z) 3 >>= _) _ _ _;refine Af (wpAny_field hz rfl (x:=.ref TI) rfl ?_);refine Af (wpAny_seqItems Y rfl ?_);show wpAny _ _ (Builtin.SmallTypes.ownedTupleIsFree (.ref z) >>= _) _ _ _;refine Af ?_;unfold Builtin.SmallTypes.ownedTupleIsFree;refine Af (wpAny_field hz rfl (x:=.none) rfl (Ao ?_));simp only[if_true];refine Af (wpAny_rule ?_);refine Af (wpAny_field hz rfl (x:=.ref TO) rfl ?_);refine Af (wpAny_setField_rec hz (by simp) fun g1 j k1=>?_);replace j:IsZip g1 z TI TO .ellipsis:=j;refine Af ?_;simp only[List.zipIdx_cons,List.zipIdx_nil,List.forIn_cons,List.forIn_nil];refine Af (Af (wpAny_onRaise ?_));have f1:=D1.frame _ _ _ h1 fun c hc o e=>k1.extBut c o (h c hc) e;rcases O with q|⟨P,q⟩
 ·show wpAny _ _ (Builtin.SmallTypes.nextOf (.ref i1) >>= _) _ _ _
  refine Af (D1.done _ _ _ (q▸f1) fun g2 e k2 l=>?_);obtain⟨r,d,g⟩:=l;have G:IsZip g2 z TI TO .ellipsis:=k2 _ _ F.symm j;have u:e≠z:=fun x=>by subst x;rw[G] at d;cases d;simp at g
  refine wpAny_setField_rec G (by simp) fun g3 _ f=>J g3 e _ (fun c o c1 _ p _ x=>f.extBut _ _ c1 (k2 _ _ p (k1.extBut _ _ c1 x))) ⟨r,f.extBut _ _ u d,g⟩
 ·show wpAny _ _ (Builtin.SmallTypes.nextOf (.ref i1) >>= _) _ _ _
  refine Af (D1.item i _ _ _ P f1 fun x g2 qG px s2 k2=>Ao ?_);have H:IsPair g2 TO a b:=k2.extBut _ _ X (k1.extBut _ _ D.TOz Z);refine Af (wpAny_seqItems H rfl ?_);refine Af (wpAny_updateSeq_pair H fun g3 t3 f=>?_);refine Af (wpAny_letGo (Ao ?_));refine Af (Af (wpAny_onRaise ?_));have f2:S2 i g3:=D2.frame _ _ _ h2 fun c hc o e=>f.extBut c o (T c hc) (k2.extBut c o (U c hc) (k1.extBut c o (C c hc) e));show wpAny _ _ (Builtin.SmallTypes.nextOf (.ref i2) >>= _) _ _ _;refine Af (D2.done _ _ _ (q▸f2) fun g4 e v l=>?_);obtain⟨r,d,g⟩:=l;have I:IsZip g4 z TI TO .ellipsis:=v _ _ W.symm (f.extBut _ _ D.TOz.symm (k2.extBut _ _ F.symm j));have u:e≠z:=fun x=>by subst x;rw[I] at d;cases d;simp at g
  refine wpAny_setField_rec I (by simp) fun L _ y=>J L e _ (fun c o c1 M p N x=>y.extBut _ _ c1 (v _ _ N (f.extBut _ _ M (k2.extBut _ _ p (k1.extBut _ _ c1 x))))) ⟨r,y.extBut _ _ u d,g⟩
end
def Fx{prog:Program}{w:World}{A:Around}{z TI TO i1 i2:Addr}{bN bY:List Addr}{n1 n2:Nat}{P1 P2:Nat->Value->Prop}{S1 S2:Nat->Heap->Prop}(D1:Draws prog w A.in1 i1 bN n1 P1 S1)(D2:Draws prog w A.in1 i2 bY n2 P2 S2)(D:Apart z TI TO i1 i2 bN bY):WalksT prog w A z (z::TI::TO::(bN++bY)) [z,TO,i1,i2] (min n1 n2) (fun i u=>∃x y,P1 i x/\P2 i y/\u=#[x,y])
   (fun i h=>IsZip h z TI TO .none/\IsPair h TI (.ref i1) (.ref i2)/\(∃a b,IsPair h TO a b)/\S1 i h/\S2 i h)
   (fun i T h=>IsZip h z TI TO (rawInt T)/\IsPair h TI (.ref i1) (.ref i2)/\(∃a b,IsPair h TO a b)/\S1 (i+1) h/\S2 (i+1) h/\T≠z/\T≠TO/\T≠i1/\T≠i2) where
 sub:=fun c hc=>by
  simp at hc ⊢;rcases hc with rfl|rfl|rfl|rfl
  ·simp
  ·simp
  ·exact .inr (.inr (.inr (.inl D.m1)))
  ·exact .inr (.inr (.inr (.inr D.m2)))
 frame:=fun i h h' j hk=>by
  obtain⟨hz,f,⟨a,b,g⟩,h1,h2⟩:=j;exact⟨hk z (by simp) _ hz,hk TI (by simp) _ f,⟨a,b,hk TO (by simp) _ g⟩,D1.frame _ _ _ h1 fun c hc o e=>hk c (by simp[hc]) o e,D2.frame _ _ _ h2 fun c hc o e=>hk c (by simp[hc]) o e⟩
 item:=fun i s Q E hi j l=>by
  obtain⟨hz,f,⟨a,b,g⟩,h1,h2⟩:=j;have d:s.TypeIs (.ref z) "zip":=⟨_,hz,rfl⟩;unfold pyNext;refine Af (wpAny_attempt (wpAny_callSpecial?_slot (name:=Str.ofString "__next__") d F.slot_zip_next (wpAny_call_entry F.slot_zip_next d F.entry_zip_next
   (J_ D1 D2 D hz f g h1 h2 (At hi (Nat.min_le_left ..)) (At hi (Nat.min_le_right ..)) fun x y h' tk v C a1 a2 a3 a4 a5 U hk=>Ao ?_) (F.args_zip_next_1 _))))
  have lt:∀{c o},s.heap.get? c=some o->s⁻¹≠c:=fun e=>Nat.ne_of_gt (Aq e);obtain⟨W,I⟩:=D1.live _ _ h1;obtain⟨X,J⟩:=D2.live _ _ h2;exact l s⁻¹ #[x,y] h' tk ⟨_,_,v,C,rfl⟩ (Ad _) ⟨_,a5,rfl,_,rfl⟩ ⟨a1,hk _ _ D.TIz D.TITO D.TIi1 D.TIi2 f,⟨_,_,a2⟩,a3,a4,lt hz,lt g,lt I,lt J⟩
   fun c o hc e=>hk c o (fun x=>hc (by simp[x])) (fun x=>hc (by simp[x])) (fun x=>hc (by simp[x])) (fun x=>hc (by simp[x])) e
 go:=fun aM k pos i T s Q E r l=>by
  obtain⟨hz,f,⟨a,b,g⟩,h1,h2,_⟩:=r;refine wpAny_letOwnedTupleGo_zip hz fun h' G p=>l h' ⟨G,p.extBut _ _ D.TIz f,⟨a,b,p.extBut _ _ D.TOz g⟩,
   D1.frame _ _ _ h1 fun c hc o e=>p.extBut c o (fun q=>D.z1 (q▸hc)) e,D2.frame _ _ _ h2 fun c hc o e=>p.extBut c o (fun q=>D.z2 (q▸hc)) e⟩ fun c o hc e=>p.extBut _ _ (fun x=>hc (by simp[x])) e
 apart:=fun i T h r d=>by
  obtain⟨_,_,_,_,_,L,M,N,O⟩:=r;simp at d;rcases d with rfl|rfl|rfl|rfl
  ·exact L rfl
  ·exact M rfl
  ·exact N rfl
  ·exact O rfl
 done:=fun s Q E j l=>by
  obtain⟨hz,f,⟨a,b,g⟩,h1,h2⟩:=j;have d:s.TypeIs (.ref z) "zip":=⟨_,hz,rfl⟩;have S:min n1 n2=n1\/(min n1 n2<n1/\min n1 n2=n2):=ω
  unfold pyNext;refine Af (wpAny_attempt (wpAny_callSpecial?_slot (name:=Str.ofString "__next__") d F.slot_zip_next
   (wpAny_call_entry F.slot_zip_next d F.entry_zip_next (J' D1 D2 D hz f g h1 h2 S fun h' e tk hk H=>?_) (F.args_zip_next_1 _))))
  obtain⟨o,P,hc⟩:=H;refine Af (wpAny_isInstance (T:="StopIteration") (b:=true) ⟨o,P,hc⟩ isSubtype_stop ?_);exact Ao (l _ tk fun c o hc e=>hk c o (fun x=>hc (by simp[x])) (fun x=>hc (by simp[x])) (fun x=>hc (by simp[x])) (fun x=>hc (by simp[x])) e)
 self:=fun i s Q E j l=>wpAny_pyIter_zip j.1 l
end Zp
end
section
namespace L2
open PySem PySem.Spec PyProof.Rows
section
variable{X:Cx}{aa:Ψ}{σ:St}{H:Hp}{s:Shared}{h':Heap}
def Inv.turneds{t':Nat}{ch:List Addr}(I:Inv X aa σ H s)(d:∀b∈ch,cj X aa H b)(k:∀b o,b∉ch->s.heap.get? b=some o->h'.get? b=some o):Inv X aa σ H {s with heap:=h',toks:=t'}:=by
 have a:∀b u,H b=some u->b∉ch:=fun b u e z=>by have:=(d b z).1;rw[this] at e;cases e
 refine I.step (g':=s.gens) (d':=s.drawn) (ch:=ch) (fun b hb=>?_) (fun b o _ _ hc e _=>k b o hc e) (fun b o _ _ hc e _=>⟨o.slots,k b o hc e⟩) (fun _ _ _ _ n=>n)
  (fun b o hc e=>⟨o,k b o hc e⟩) (fun _ _ e=>e) (fun _ _ _ e=>e) (fun b ps e=>⟨#[],by rw[e];simp⟩) (fun m f=>?_) (fun b u e=>?_) I.bare
 ·obtain⟨l,f1,f2,g,h,i⟩:=d b hb
  exact⟨g,f1,h,i⟩
 ·obtain⟨o,es,ep,j,r⟩:=f
  exact⟨o,es,ep,k _ o (fun z=>(d _ z).2.1 rfl) j,r⟩
 ·refine(I.hok b u e).stay (fun c v hc q=>k c v ?_ q) (fun _ q=>q) fun _ _ q=>q
  rcases hc with z|z
  ·rw[z];exact a b u e
  ·exact a c _ z
def Inv.adopt{a:Addr}{o:HO}(I:Inv X aa σ H s)(d:H a=none)(h1:X.s₀⁻¹<=a)(h2:a≠X.env.locals)(g:∀x c,X.env.cells.lookup x=some c->c≠a)(h:∀p∈X.pn++aa,p.1≠a)(new:zak X.prog X.w (upd H a o) s.heap a o):Inv X aa σ (upd H a o) s:=by
 refine I.step (h':=s.heap) (g':=s.gens) (t':=s.toks) (d':=s.drawn) (ch:=[a]) (fun b hb=>?_) (fun b o _ _ hc e _=>e) (fun b o _ _ hc e _=>⟨o.slots,e⟩) (fun b o hc e n=>?_)
  (fun b o hc e=>⟨o,e⟩) (fun b xs e=>?_) (fun b o u e=>?_) (fun b ps e=>⟨#[],?_⟩) (fun m f=>f) (fun b u e=>?_) I.bare
 ·have e:b=a:=by simpa using hb
  subst e;exact⟨.inr h1,h2,g,h⟩
 ·rw[ag (fun z=>hc (by simp[z]))];exact n
 ·rw[ag (zk e d)];exact e
 ·rw[ag (zk e d)];exact e
 ·rw[ag (zk e d),e];simp
 ·by_cases hb:b=a
  ·subst hb;rw[zb] at e;cases e;exact new
  ·rw[ag hb] at e
   exact(I.hok b u e).stay (fun _ _ _ q=>q) (fun c q=>by rw[ag (zk q d)];exact q) fun c xs q=>by rw[ag (zk q d)];exact q
def Inv.grown{t':Nat}{ch:List Addr}{a:Addr}{o:HO}(I:Inv X aa σ H s)(f:∀b∈ch,cj X aa H b)(k:∀b o,b∉ch->s.heap.get? b=some o->h'.get? b=some o)(hp:s⁻¹<=a)(new:zak X.prog X.w (upd H a o) h' a o):Inv X aa σ (upd H a o) {s with heap:=h',toks:=t'}:=by
 have I1:Inv X aa σ H {s with heap:=h',toks:=t'}:=I.turneds f k;obtain⟨c,f1,f2,g,d,e⟩:=I.fpOk hp (I.hok.fresh hp);exact I1.adopt c (Ae I.sz hp) f1 d e new
def Fy{b t:Addr}{o:Obj}(I:Inv X aa σ H s)(f:cj X aa H b)(hk:X.K.lookup t=some o):t≠b:=by
 intro z;subst z;have e:=I.ok.mod.kin t o hk;rcases f.2.2.2.1 with q|q
 ·exact I.ok.noex t o e q
 ·exact absurd (At (Aq (I.ok.bs t o e).1) q) (Nat.lt_irrefl _)
def Fz{b t:Addr}{xs:List V}(I:Inv X aa σ H s)(f:cj X aa H b)(h:SqT X.K H t xs):t≠b:=by
 rcases h with (h|⟨o,h⟩)|⟨o,_,_,hk,_⟩
 ·exact zk h f.1
 ·exact zk h f.1
 ·exact Fy I f hk
def C6{b t:Addr}{xs:List V}(I:Inv X aa σ H s)(f:cj X aa H b)(h:SqL X.K H t xs):t≠b:=by
 rcases h with (h|⟨o,h⟩)|⟨o,_,_,hk,_⟩
 ·exact zk h f.1
 ·exact zk h f.1
 ·exact Fy I f hk
end
def C7{P:Program}{w:World}{K:Ah}{J:It}{a wr:List Addr}{it:Addr}{tn:Nat->Heap->Prop}{aM:List Expr}{k:Nat}{pos:Pos}(mem:it∈a)(obj:∀i h,tn i h->∀b∈a,∃o,h.get? b=some o/\∀v,o.data≠.cell v)(keep:∀i h h',tn i h->(∀b∈a,∀o,h.get? b=some o->h'.get? b=some o)->tn i h')(hw:∀b∈wr,b∈a)(W:∀(X:Cx),X.prog=P->X.w=w->X.K=K->X.calm=true->∀(i:Nat)(aa:Ψ)(s:Shared)(σ:St)(H:Hp),Inv X aa σ H s->(∀b∈a,cj X aa H b)->tn i s.heap->(J.go i H\/J.stop i H)->
   ∃(z:List Addr)(n:Nat)(x:Nat->Array Value->Prop)(S:Nat->Heap->Prop)(Mid:Nat->Addr->Heap->Prop),WalksT P w X.A it z wr n x S Mid/\S i s.heap/\(∀j h,S j h->tn j h)/\
    (J.go i H->i<n/\∀d,x i d->∃xs:List V,Vals xs d.toList/\xs.length<=sizeLine/\∀p,H p=none->J.yld i H (.ref p) (upd H p (.tup xs)))/\(J.stop i H->i=n))
  (self:∀(A:Around)(i:Nat)(s:Shared)(Q:Ω)(E:Ω),tn i s.heap->Q (.ref it) s->wpAny (model P w) A (pyIter (.ref it)) Q E s) :
  Turn P w K (.Tuple aM k pos) J a it tn where
 mem:=mem
 obj:=obj
 keep:=keep
 item:=by
  intro X f l r hc i aa s σ H E I c st hg;obtain⟨z,n,x,S,Mid,WT,ab,C,g,_⟩:=W X f l r hc i aa s σ H I c st (.inl hg);obtain⟨hi,N⟩:=g hg;subst f l r;refine WT.item i s _ _ hi ab fun T d h' tk hp y D F hk=>⟨.ref T,rfl,?_⟩;obtain⟨xs,O,hz,hy⟩:=N d hp;have I1:Inv X aa σ (upd H T (.tup xs)) {s with heap:=h',toks:=tk}:=I.grown (ch:=wr) (fun b hb=>c b (hw b hb)) hk y (show zak X.prog X.w _ h' T (.tup xs) from⟨hz,d.toList,O,by have q:IsTup h' T d:=D;simpa using q⟩);have Y:∀b∈a,b≠T:=fun b hb=>by
   obtain⟨o,e,_⟩:=obj i _ st b hb;exact AB (At (Aq e) y)
  have u:∀b∈a,cj X aa (upd H T (.tup xs)) b:=fun b hb=>by
   obtain⟨U,fr⟩:=c b hb;exact⟨by rw[ag (Y b hb)];exact U,fr⟩
  refine WT.go aM k pos i T _ _ _ F fun G L M=>?_;have Z:Inv X aa σ (upd H T (.tup xs)) {s with heap:=G,toks:=tk}:=I1.turneds (s:={s with heap:=h',toks:=tk}) (t':=tk) (ch:=wr) (fun b hb=>u b (hw b hb)) M;exact⟨.ref T,_,Z,rfl,hy T (I.hok.fresh y),C _ _ L,fun b hb=>(u b hb).1⟩
 done:=by
  intro X f l r hc i aa s σ H E I c st hg;obtain⟨z,n,x,S,Mid,WT,ab,C,_,g⟩:=W X f l r hc i aa s σ H I c st (.inr hg);subst f l r;have e:=g hg;subst e;exact WT.done s _ _ ab fun h' tk hk=>⟨rfl,I.turneds (ch:=wr) (fun b hb=>c b (hw b hb)) hk⟩
 self:=self
def x_(K:Ah)(a b:Addr):It:=
 ⟨fun i H=>∃xs ys,SqT K H a xs/\SqT K H b ys/\i<min xs.length ys.length,
  fun i H v H'=>∃p x y,v=.ref p/\H p=none/\H'=upd H p (.tup [x,y])/\(∀xs,SqT K H a xs->xs[i]?=some x)/\∀ys,SqT K H b ys->ys[i]?=some y,
  fun i H=>∃xs ys,SqT K H a xs/\SqT K H b ys/\i=min xs.length ys.length⟩
def cV:(2:Nat)<=sizeLine:=by rw[sizeLine_eq];decide
def Ka{P:Program}{w:World}{K:Ah}{aM:List Expr}{k:Nat}{pos:Pos}(C D z TI TO i1 i2:Addr)(hd:TI≠z/\TO≠z/\TI≠TO/\TI≠i1/\TI≠i2/\z≠i1/\z≠i2/\TO≠i1/\TO≠i2/\i1≠i2):Turn P w K (.Tuple aM k pos) (x_ K C D) [z,TI,TO,i1,i2] z (fun i h=>IsZip h z TI TO .none/\IsPair h TI (.ref i1) (.ref i2)/\(∃a b,IsPair h TO a b)/\h.IsTupleIter i1 C i/\h.IsTupleIter i2 D i):=by
 obtain⟨d1,d2,d3,d4,d5,d6,d7,d8,d9,O⟩:=hd;refine C7 (wr:=[z,TO,i1,i2]) (by simp) (fun i h st b hb=>?_) (fun i h h' st c=>?_) (fun b hb=>?_) (fun X hP hw hK hc i aa s σ H I N st iQ=>?_) fun A i s Q E st h=>wpAny_pyIter_zip st.1 h
 ·obtain⟨a1,a2,⟨a,b',a3⟩,⟨o4,a4,_,F⟩,⟨o5,a5,_,e5⟩⟩:=st
  simp at hb;rcases hb with rfl|rfl|rfl|rfl|rfl
  ·exact⟨_,a1,fun v z=>by cases z⟩
  ·exact⟨_,a2,fun v z=>by cases z⟩
  ·exact⟨_,a3,fun v z=>by cases z⟩
  ·exact⟨_,a4,fun v z=>by rw[F] at z;cases z⟩
  ·exact⟨_,a5,fun v z=>by rw[e5] at z;cases z⟩
 ·obtain⟨a1,a2,⟨a,b',a3⟩,a4,a5⟩:=st
  exact⟨c z (by simp) _ a1,c TI (by simp) _ a2,⟨a,b',c TO (by simp) _ a3⟩,a4.at fun o e=>c i1 (by simp) o e,a5.at fun o e=>c i2 (by simp) o e⟩
 ·simp at hb ⊢
  rcases hb with rfl|rfl|rfl|rfl<;>simp
 ·subst hP hw hK
  have hd:∃xs ys,SqT X.K H C xs/\SqT X.K H D ys:=by
   rcases iQ with ⟨xs,ys,a,b,_⟩|⟨xs,ys,a,b,_⟩
   ·exact⟨xs,ys,a,b⟩
   ·exact⟨xs,ys,a,b⟩
  obtain⟨xs,ys,d,l⟩:=hd;obtain⟨us,r1,p1,_⟩:=I.tuple d;obtain⟨S,r2,p2,_⟩:=I.tuple l;have T:=r1.length;have U:=r2.length;have W:=I.ok.hd hc;obtain⟨a1,a2,a3,a4,a5⟩:=st;have f:=fun b hb=>Fz I (N b hb) d;have G:=fun b hb=>Fz I (N b hb) l;have AP:Zp.Apart z TI TO i1 i2 [i1,C] [i2,D]:=by
   refine⟨?_,?_,?_,?_,by simp,by simp,?_,?_,d1,d2,d3,d4,d5⟩
   ·simp;exact⟨d6,(f z (by simp)).symm⟩
   ·simp;exact⟨d7,(G z (by simp)).symm⟩
   ·simp;exact⟨d8,(f TO (by simp)).symm⟩
   ·simp;exact⟨d9,(G TO (by simp)).symm⟩
   ·simp;exact⟨O,(G i1 (by simp)).symm⟩
   ·simp;exact⟨O.symm,(f i2 (by simp)).symm⟩
  have WZ:=Zp.Fx (prog:=X.prog) (w:=X.w) (A:=X.A) (Zp.Fv (A:=X.A.in1) W i1 C (f i1 (by simp)) us.toArray) (Zp.Fv (A:=X.A.in1) W i2 D (G i2 (by simp)) S.toArray) AP;refine⟨_,_,_,_,_,WZ,⟨a1,a2,a3,⟨a4,p1⟩,⟨a5,p2⟩⟩,fun j h st=>⟨st.1,st.2.1,st.2.2.1,st.2.2.2.1.1,st.2.2.2.2.1⟩,fun g=>?_,fun g=>?_⟩
  ·obtain⟨q,r,J,L,hi⟩:=g
   have e1:=I.tuple_inj J d;have e2:=I.tuple_inj L l;subst e1 e2;refine⟨by simpa[<-T,<-U] using hi,fun aI hp=>?_⟩;obtain⟨x,y,px,py,rfl⟩:=hp;have iG:us[i]?=some x:=by simpa using px
   have M:S[i]?=some y:=by simpa using py
   have lx:i<q.length:=ω
   have ly:i<r.length:=ω
   have Y:q[i]?=some q[i]:=by simp[lx]
   have Z:r[i]?=some r[i]:=by simp[ly]
   obtain⟨u,e3,ru⟩:=r1.get Y;obtain⟨u',F,eI⟩:=r2.get Z;rw[iG] at e3;cases e3;rw[M] at F;cases F;refine⟨[q[i],r[i]],.cons ru (.cons eI .nil),cV,fun p hp=>⟨p,_,_,rfl,hp,rfl,fun zs hz=>?_,fun zs hz=>?_⟩⟩
   ·rw[I.tuple_inj hz d];exact Y
   ·rw[I.tuple_inj hz l];exact Z
  ·obtain⟨q,r,J,L,hi⟩:=g
   have e1:=I.tuple_inj J d;have e2:=I.tuple_inj L l;subst e1 e2
   simpa[<-T,<-U] using hi
def Kb(b e:Addr)(xs ys:Array Value):Meets (Builtin.«zip.__new__» ⟨[.type "zip",.ref b,.ref e],[]⟩) (fun _ R s=>s.heap.IsTuple b xs/\s.heap.IsTuple e ys/\
   ∀h',IsZip h' (s⁻¹+4) (s⁻¹+2) (s⁻¹+3) .none->IsPair h' (s⁻¹+2) (.ref s⁻¹) (.ref (s⁻¹+1))->
   IsPair h' (s⁻¹+3) .none .none->h'.IsTupleIter s⁻¹ b 0->h'.IsTupleIter (s⁻¹+1) e 0->
   (∀c o,s.heap.get? c=some o->h'.get? c=some o)->R (.ok (.ret (.ref (s⁻¹+4)))) {s with heap:=h'}):=
 .of_wp fun prog w A R s h=>by
  obtain⟨hp,g,d,tk,os⟩:=s;obtain⟨f,i,h⟩:=h;have p:=sub_zip;have j:Heap.IsTuple (Shared.heap ⟨hp,g,d,tk,os⟩) b xs:=f;have l:Heap.IsTuple (Shared.heap ⟨hp.push {cls:=.type "tuple_iterator",data:=.fields #[.ref b,.int 0 0]},g,d,tk,os⟩) e ys:=Heap.IsTuple.push i _
  wp_walk using wpAny_pyIter_tuple j,wpAny_pyIter_tuple l
  refine⟨_,rfl,?_⟩;dsimp only at h ⊢;have a:∀(h:Heap)(o:Obj),(h.push o).objs.size=h.objs.size+1:=fun h o=>Heap.size_push ..;simp only[a,Nat.add_assoc,Nat.reduceAdd];refine h _ ?_ ?_ ?_ ?_ ?_ fun c o x=>Ai _ (Ai _ (Ai _ (Ai _ (Ai _ x))))
  ·exact Heap.get?_push_at (by simp only[a]) rfl
  ·exact Ai _ (Ai _ (Heap.get?_push_at (by simp only[a]) rfl))
  ·exact Ai _ (Heap.get?_push_at (by simp only[a]) rfl)
  ·exact⟨_,Ai _ (Ai _ (Ai _ (Ai _ (AM _ rfl)))),rfl,rfl⟩
  ·exact⟨_,Ai _ (Ai _ (Ai _ (Heap.get?_push_at (by simp only[a]) rfl))),rfl,rfl⟩
section
variable{X:Cx}{aM:List Expr}{k:Nat}{cF:Pos}
def C8(K:Ah)(ta:TA):TI:=fun σ H R=>ta σ H fun vs H1=>∃a b,vs=[.ref a,.ref b]/\(∃xs,SqT K H1 a xs)/\(∃ys,SqT K H1 b ys)/\R (x_ K a b) H1
def Kc{a b:Expr}{ta:TA}{p pos:Pos}(hg:Gl X "zip")(A:X.mg "zip"=none)(C:Bk "zip"=some (.type "zip"))(D:PA X [a,b] ta)(E:starEach [a,b] X.env=[(false,eval a X.env),(false,eval b X.env)]:=by rfl)(j:starEach [b] X.env=[(false,eval b X.env)]:=by rfl):PI X (.Tuple aM k cF) (.Call (.Name "zip" p) [a,b] [] pos) (C8 X.K ta):=by
 intro aa s σ H R I h;refine Call_ (jx I hg A C (PyProof.Rows.callWith_type1 (aR (D pos aa s σ H _ I h) fun us c ⟨vs,H1,I1,r1,d⟩=>?_) (by rw[E,j]) (by rw[j];rfl)));obtain⟨f,g,e,⟨xs,d⟩,⟨ys,o⟩,q⟩:=d;subst e;obtain⟨u,u',rfl,r,v⟩:=vals2 r1;cases r;cases v;obtain⟨w,_,x,_⟩:=I1.tuple d;obtain⟨y,_,p2,_⟩:=I1.tuple o;refine callType_new F.called_zip ξ (F.typeCall_zip_2 _ _) (F.newCall_zip_2 _ _) (fun obj=>F.args_object_init_3 obj _ _) F.entry_zip_new (Kb f g w.toArray y.toArray) ⟨x,p2,fun h' a1 a2 a3 a4 a5 l=>?_⟩;refine⟨⟨_,a1,rfl⟩,wpAny_pyIter_zip a1 ?_⟩;have G:Inv X aa σ H1 {c with heap:=h'}:=I1.kept (t':=c.toks) l;refine⟨c⁻¹+4,[c⁻¹+4,c⁻¹+2,c⁻¹+3,c⁻¹,c⁻¹+1],_,_,H1,rfl,G,Ka f g _ _ _ _ _ (by refine⟨?_,?_,?_,?_,?_,?_,?_,?_,?_,?_⟩<;>(intro z;have J:(_:Nat)=_:=z;(first|lia|omega))),⟨a1,a2,⟨_,_,a3⟩,a4,a5⟩,fun b hb=>?_,q⟩;have i:c⁻¹<=b:=by
  simp only[List.mem_cons,List.not_mem_nil,or_false] at hb;rcases hb with rfl|rfl|rfl|rfl|rfl
  ·exact A6 _ _
  ·exact A6 _ _
  ·exact A6 _ _
  ·exact Ad _
  ·exact A6 _ _
 exact I1.fpOk i (I1.hok.fresh i)
end
def C9(K:Ah)(a:Addr):It:=
 ⟨fun i H=>∃xs,SqL K H a xs/\i<xs.length,
  fun i H v H'=>∃p x,v=.ref p/\H p=none/\H'=upd H p (.tup [.int i,x])/\∀xs,SqL K H a xs->xs[i]?=some x,
  fun i H=>∃xs,SqL K H a xs/\i=xs.length⟩
def Kd{P:Program}{w:World}{K:Ah}{aM:List Expr}{k:Nat}{pos:Pos}(a e it:Addr)(hd:e≠it):Turn P w K (.Tuple aM k pos) (C9 K a) [e,it] e (fun i h=>(∃old,IsEnum h e it i old)/\h.IsListIter it a i):=by
 refine C7 (wr:=[e,it]) (by simp) (fun i h st b hb=>?_) (fun i h h' st y=>?_) (fun b hb=>hb) (fun X F hw G hc i aa s σ H I J st L=>?_) fun A i s Q E st h=>?_
 ·obtain⟨⟨old,a1⟩,⟨Z,a4,_,M⟩⟩:=st
  simp at hb;rcases hb with rfl|rfl
  ·exact⟨_,a1,fun v z=>by cases z⟩
  ·exact⟨_,a4,fun v z=>by rw[M] at z;cases z⟩
 ·obtain⟨⟨old,a1⟩,a4⟩:=st
  exact⟨⟨old,y e (by simp) _ a1⟩,a4.at fun o q=>y it (by simp) o q⟩
 ·subst F hw G
  have r:∃xs,SqL X.K H a xs:=by
   rcases L with ⟨xs,q,_⟩|⟨xs,q,_⟩
   ·exact⟨xs,q⟩
   ·exact⟨xs,q⟩
  obtain⟨xs,c⟩:=r;obtain⟨us,r1,N,_⟩:=I.list c;have C:=r1.length;have T:=I.ok.hd hc;obtain⟨a1,a4⟩:=st;have f:=fun b hb=>C6 I (J b hb) c;have W:=WalksT.enumerateD (prog:=X.prog) (w:=X.w) (A:=X.A) (Draws.list (A:=X.A.in1) T it a (f it (by simp)) us.toArray) e hd (by simp;exact⟨hd,(f e (by simp)).symm⟩) (by simp);refine⟨_,_,_,_,_,W,⟨a1,a4,N.isList⟩,fun j h st=>⟨st.1,st.2.1⟩,fun g=>?_,fun g=>?_⟩
  ·obtain⟨d,l,hi⟩:=g
   have e1:=I.list_inj l c;subst e1;refine⟨by simpa[<-C] using hi,fun Y hp=>?_⟩;obtain⟨t,x,O,rfl⟩:=hp;have U:us[i]?=some x:=by simpa using O
   have D:d[i]?=some d[i]:=by simp[hi]
   obtain⟨u,e3,S⟩:=r1.get D;rw[U] at e3;cases e3;refine⟨[.int i,d[i]],.cons ⟨_,rfl⟩ (.cons S .nil),cV,fun p hp=>⟨p,_,rfl,hp,rfl,fun zs hz=>?_⟩⟩;rw[I.list_inj hz c];exact D
  ·obtain⟨d,l,hi⟩:=g
   have e1:=I.list_inj l c;subst e1
   simpa[<-C] using hi
 ·obtain⟨⟨old,a1⟩,_⟩:=st
  exact wpAny_pyIter_enum a1 h
section
variable{X:Cx}{aM:List Expr}{k:Nat}{cF:Pos}
def Ke(K:Ah)(ta:TA):TI:=fun σ H R=>ta σ H fun vs H1=>∃a,vs=[.ref a]/\(∃xs,SqL K H1 a xs)/\R (C9 K a) H1
def FA{a:Expr}{ta:TA}{p pos:Pos}(hg:Gl X "enumerate")(l:X.mg "enumerate"=none)(o:Bk "enumerate"=some (.type "enumerate"))(r:PA X [a] ta)(v:starEach [a] X.env=[(false,eval a X.env)]:=by rfl):PI X (.Tuple aM k cF) (.Call (.Name "enumerate" p) [a] [] pos) (Ke X.K ta):=by
 intro aa s σ H R I h;refine Call_ (jx I hg l o (PyProof.Rows.callWith_type1 (aR (r pos aa s σ H _ I h) fun us c ⟨vs,H1,I1,r1,d⟩=>?_) v rfl));obtain⟨a',e,⟨xs,d⟩,q⟩:=d;subst e;obtain⟨u,rfl,i⟩:=vals1 r1;cases i;obtain⟨x,_,j,_⟩:=I1.list d;refine call_enumerate_list j.isList fun h' a1 a2 a3 g=>?_;refine wpAny_pyIter_enum a1 ?_;have w:Inv X aa σ H1 {c with heap:=h'}:=I1.kept (t':=c.toks) g;refine⟨c⁻¹+1,[c⁻¹+1,c⁻¹],_,_,H1,rfl,w,Kd a' _ _ (by intro z;have y:(_:Nat)=_:=z;(first|lia|omega)),⟨⟨_,a1⟩,a2⟩,fun b hb=>?_,q⟩;have f:c⁻¹<=b:=by
  simp only[List.mem_cons,List.not_mem_nil,or_false] at hb;rcases hb with rfl|rfl
  ·exact A6 _ _
  ·exact Ad _
 exact I1.fpOk f (I1.hok.fresh f)
def dQ:∀{bs:List Bool}{us:List Value},Vals (bs.map V.bl) us->LSm.BoolsAre us bs
 |[],_,.nil=>.nil
 |b::bs,_,.cons r t=>by cases r;exact .cons b (dQ t)
def p_(hc:X.calm=true):kD X (.builtin "all") (fun xs H Q=>∃(l:Addr)(bs:List Bool),xs=[.ref l]/\SqL X.K H l (bs.map V.bl)/\Q (.bl (bs.all id)) H):=by
 intro aa s σ H xs us Q I r h;obtain⟨l,bs,rfl,hq,q⟩:=h;obtain⟨u,rfl,j⟩:=vals1 r;cases j;obtain⟨a,r1,o,_⟩:=I.list hq;have p:=I.ok.hd hc;have c:=o.isList;have hb:=dQ r1;have d:l<s⁻¹:=by obtain⟨_,e,_⟩:=c;exact Aq e
 refine call_all_walk (wpAny_pyIter_list c ?_);refine⟨s⁻¹,[s⁻¹,l],[s⁻¹],a.toArray.size,_,_,fun i=>(bs[i]?).getD true,rfl,Walks.list (A:=X.A.in1) p _ l (AB d) a.toArray,
  ⟨⟨_,AM _ rfl,rfl,rfl⟩,c.push _⟩,fun i v s' w x g f=>?_,fun h' tk hk=>?_⟩
 ·obtain⟨b,e,rfl⟩:=hb.get i v (by simpa using g)
  simp only[e,Option.getD_some] at f;exact wpAny_truthy_bool f
 ·have e:((Ag a.toArray.size).all fun i=>(bs[i]?).getD true)=bs.all id:=by
   rw[Av,hb.length];exact LSm.range_all bs
  rw[e];exact⟨.bl _,H,I.kept (LSm.kept_iter hk),rfl,q⟩
end
section
variable{K:Ah}{a:Addr}{xs:List V}{g:TG}{tc:TT}{te:TE}{σ:St}{H1:Hp}{Q:VK}{D:Addr}
def C_(n:Nat)(a:Nat->St->List V->Hp->Prop)(i m:Nat)(σ:St)(H:Hp):Prop:=m=n-i/\i<=n/\∃ys,ys.length<=i/\a i σ ys H
def e_(n:Nat)(d:Nat->St->List V->Hp->Prop)(D:Addr)(i:Nat)(c:St):VK:=fun y b=>∃ys a,b D=some (.lst ys)/\ys.length<sizeLine/\a<n-i/\C_ n d (i+1) a c (upd b D (.lst (ys++[y])))
def dm(n:Nat)(c:Nat->St->List V->Hp->Prop)(i:Nat)(b:St)(d:Hp):Prop:=∃a,a<n-i/\C_ n c (i+1) a b d
def bI{n:Nat}{c:Nat->St->List V->Hp->Prop}{i:Nat}{b:St}{ys:List V}{y:V}{a:Hp}(d:n<=sizeLine)(hi:i<n)(f:ys.length<=i)(e:a D=some (.lst ys))(p:c (i+1) b (ys++[y]) (upd a D (.lst (ys++[y])))):e_ n c D i b y a:=
 ⟨ys,n-(i+1),e,ω,ω,rfl,hi,ys++[y],by simp;(first|lia|omega),p⟩
def jM{n:Nat}{b:Nat->St->List V->Hp->Prop}{i:Nat}{a:St}{ys:List V}{c:Hp}(hi:i<n)(d:ys.length<=i)(p:b (i+1) a ys c):dm n b i a c:=
 ⟨n-(i+1),ω,rfl,hi,ys,ω,p⟩
def p'{J:It}(n:Nat)(a:Nat->St->List V->Hp->Prop)(l:a 0 σ [] (upd H1 D (.lst [])))(o:∀σ ys H,a n σ ys H->J.stop n H)(q:∀i σ ys H,i<n->a i σ ys H->J.go i H)(r:∀i σ ys H x H',i<n->ys.length<=i->a i σ ys H->J.yld i H x H'->g x σ H' fun d s=>tc d s fun b h=>if b=true then te d h (e_ n a D i d) else dm n a i d h)(hd:∀σ ys H,a n σ ys H->Q (.ref D) H):cz J g tc te σ H1 D Q:=by
 refine⟨C_ n a,⟨n,by simp,Aw _,[],Ad _,l⟩,?_⟩;rintro i m f H2 ⟨rfl,hi,ys,j,p⟩
 by_cases c:i<n
 ·exact .inr ⟨q i f ys H2 c p,fun x u y=>r i f ys H2 x u c j p y⟩
 ·have e:i=n:=ω
  subst e;exact .inl ⟨o f ys H2 p,hd f ys H2 p⟩
def jS(c:Nat->St->List V->Hp->Prop)(j:c 0 σ [] (upd H1 D (.lst [])))(f:∀i σ ys H,c i σ ys H->SqL K H a xs)(l:∀i σ ys H x,xs[i]?=some x->i<xs.length->ys.length<=i->c i σ ys H->g x σ H fun d o=>tc d o fun b h=>if b=true then te d h (e_ xs.length c D i d) else dm xs.length c i d h)(hd:∀σ ys H,c xs.length σ ys H->Q (.ref D) H):cz (eO K a) g tc te σ H1 D Q:=by
 refine p' xs.length c j (fun σ ys H p=>⟨xs,f _ _ _ _ p,Ad _⟩) (fun i σ ys H hi p=>⟨xs,xs[i],f _ _ _ _ p,by simp[hi]⟩) (fun i σ ys H x H' hi hy p y=>?_) hd;obtain⟨e,y⟩:=y;subst e;exact l i σ ys _ x (y xs (f _ _ _ _ p)) hi hy p
def qb{lo:Int}{n:Nat}(a:Nat->St->List V->Hp->Prop)(f:a 0 σ [] (upd H1 D (.lst [])))(h:∀i σ ys H,i<n->ys.length<=i->a i σ ys H->g (.int (lo+i)) σ H fun c j=>tc c j fun b d=>if b=true then te c d (e_ n a D i c) else dm n a i c d)(hd:∀σ ys H,a n σ ys H->Q (.ref D) H):cz (fK lo n) g tc te σ H1 D Q:=by
 refine p' n a f (fun σ ys H p=>Ad _) (fun i σ ys H hi p=>hi) (fun i σ ys H x H' hi hy p y=>?_) hd;obtain⟨e,y⟩:=y;subst e y;exact h i σ ys _ hi hy p
def Kf{e f:Addr}{ys:List V}(a:Nat->St->List V->Hp->Prop)(q:a 0 σ [] (upd H1 D (.lst [])))(c:∀i σ zs H,a i σ zs H->SqT K H e xs/\SqT K H f ys)(r:∀i σ zs H p x y,xs[i]?=some x->ys[i]?=some y->i<min xs.length ys.length->zs.length<=i->a i σ zs H->H p=none->g (.ref p) σ (upd H p (.tup [x,y])) fun d s=>tc d s fun b h=>if b=true then te d h (e_ (min xs.length ys.length) a D i d) else dm (min xs.length ys.length) a i d h)(hd:∀σ zs H,a (min xs.length ys.length) σ zs H->Q (.ref D) H):cz (x_ K e f) g tc te σ H1 D Q:=by
 refine p' (min xs.length ys.length) a q (fun σ zs H p=>⟨xs,ys,(c _ _ _ _ p).1,(c _ _ _ _ p).2,rfl⟩) (fun i σ zs H hi p=>⟨xs,ys,(c _ _ _ _ p).1,(c _ _ _ _ p).2,hi⟩) (fun i σ zs H v H' hi hy p y=>?_) hd;obtain⟨pp,x,j,rfl,hp,rfl,l,o⟩:=y;exact r i σ zs H pp x j (l xs (c _ _ _ _ p).1) (o ys (c _ _ _ _ p).2) hi hy p hp
end
end L2
end
section
namespace Dk
open PySem PySem.Spec PyProof.Rows
def IsD(h:Heap)(d:Addr)(es:Array DictEntry)(ep:Nat):Prop:=∃o,h.get? d=some o/\o.ExactDict/\o.data=.dict es ep
def IsD.at{h h':Heap}{d:Addr}{es:Array DictEntry}{ep:Nat}(x:IsD h d es ep)(k:∀o,h.get? d=some o->h'.get? d=some o):IsD h' d es ep:=let ⟨o,ho,r⟩:=x;⟨o,k o ho,r⟩
def IsD.lt{h:Heap}{d:Addr}{es:Array DictEntry}{ep:Nat}(x:IsD h d es ep):d<h.objs.size:=let ⟨_,ho,_⟩:=x;Aq ho
section
variable{prog:Program}{w:World}{A:Around}{E:Ω}{s:Shared}{it d:Addr}{i ep:Nat}{es:Array DictEntry}
def IsD.typeIs(x:IsD s.heap d es ep):s.TypeIs (.ref d) "dict":=let ⟨o,ho,r⟩:=x;⟨o,ho,r.1.1⟩
def iter{Q:Ω}(hd:(d==sysModules)=false)(e:IsD s.heap d es ep)(f:Q (.ref s⁻¹) {s with heap:=s.heap.push {cls:=.type "dict_keyiterator",data:=.fields #[.ref d,.int 0 0,.int es.size 0,.int ep 0]}}):wpAny (model prog w) A (pyIter (.ref d)) Q E s:=by
 have a:=e.typeIs;obtain⟨o,b,hc,c⟩:=id e;refine wpAny_pyIter_slot a PySem.F.slot_dict_iter (wpAny_call_entry PySem.F.slot_dict_iter a PySem.F.entry_dict_iter ?_ (PySem.F.args_dict_iter_1 _));unfold Builtin.«dict.__iter__»;refine Af ?_;unfold Builtin.Dict.dictSlotNone;refine Af (wpAny_notOrdered_dict a ?_);show wpAny _ _ (pure (Value.ref d)) _ _ s;refine Ao ?_;show wpAny _ _ (Builtin.Dict.showsAll d >>= _) _ _ s;unfold Builtin.Dict.showsAll;rw[if_neg (by rw[hd];exact AE)];refine Af (Ao ?_);refine Af (wpAny_dictEntries b c ?_);refine Af (wpAny_dictEpoch b c ?_);refine Af (wpAny_newObj_type (Ao ⟨_,rfl,"dict_keyiterator",_,⟨_,AM _ rfl,rfl⟩,PySem.F.slot_dict_keyiterator_next.lookup,?_⟩))
 simpa[rawInt] using f
def item{Q:Option Value->Shared->Prop}(a:s.heap.IsKeyIter it d i es.size ep)(h:IsD s.heap d es ep)(hx:i<es.size)(j:∀h',h'.IsKeyIter it d (i+1) es.size ep->Heap.SameBut it s.heap h'->Q (some es[i].key) {s with heap:=h'}):wpAny (model prog w) A (pyNext (.ref it)) Q E s:=by
 obtain⟨o,b,hc,hd⟩:=id a;obtain⟨l,c,p,e⟩:=id h;unfold pyNext;refine Af (wpAny_attempt (wpAny_callSpecial?_slot (name:=Str.ofString "__next__") a.typeIs PySem.F.slot_dict_keyiterator_next
  (wpAny_call_entry PySem.F.slot_dict_keyiterator_next a.typeIs PySem.F.entry_dict_keyiterator_next ?_ (PySem.F.args_dict_keyiterator_next_1 _))))
 refine Af (Ao ?_);refine Af ?_;refine Af ?_
 first|refine Af (wpAny_typeNameOfWhole_keyiter a.typeIs (Ao ?_))|refine Af (wpAny_typeNameOf_keyiter a.typeIs (Ao ?_))
 refine Af (wpAny_fieldsOf b hd ?_);have g:Builtin.Dict_items.ownsTuple "dict_keyiterator"=false:=ξ
 simp only[g,Bool.false_eq_true,if_false];show wpAny _ _ (if(Value.ref d==Value.none)=true then _ else _) _ _ s;rw[if_neg (show ¬((Value.ref d==Value.none)=true) from AE)];refine Af (Ao ?_);refine Af (wpAny_dictEntries c e ?_);rw[if_neg (by simp)];refine Af (Ao ?_);refine Af (wpAny_dictEpoch c e ?_);rw[if_neg (by simp)];refine Ao ?_;simp only[show ¬((i:Int)<0) from ω,if_false,Bj,Array.getElem?_eq_getElem hx];refine Af ?_
 first|refine Af (wpAny_typeNameOfWhole_keyiter a.typeIs (Ao ?_))|refine Af (wpAny_typeNameOf_keyiter a.typeIs (Ao ?_))
 refine Af (wpAny_isOneOf_keyiter a.typeIs ?_);show wpAny _ _ (setField (.ref it) 1 (rawInt ((i:Int)+1)) >>= _) _ _ s;refine Af (wpAny_setField b hd (by simp) ?_);have f:(s.heap.update it (Obj.mapFields (·.setIfInBounds 1 (rawInt ((i:Int)+1))))).IsKeyIter it d (i+1) es.size ep:=
  ⟨_,Heap.get?_update_self _ b (Obj.isFreed_of_fields (Obj.data_mapFields hd _)),(Obj.cls_mapFields ..).trans hc,by rw[Obj.data_mapFields hd];simp[rawInt]⟩
 refine Af (wpAny_holding ?_);refine Af (wpAny_isOneOf_keyiter (s:={s with heap:=s.heap.update it (Obj.mapFields (·.setIfInBounds 1 (rawInt ((i:Int)+1))))}) f.typeIs ?_);show wpAny _ _ (pure es[i].key) _ _ _;exact Ao (Ao ⟨_,rfl,Ao (j _ f (Heap.SameBut.update ..))⟩)
def done{Q:Option Value->Shared->Prop}(i:A.handled=none)(c:s.heap.IsKeyIter it d es.size es.size ep)(j:IsD s.heap d es ep)(l:∀h',Heap.ExtBut it s.heap h'->Q none {s with heap:=h'}):wpAny (model prog w) A (pyNext (.ref it)) Q E s:=by
 obtain⟨o,e,hc,hd⟩:=id c;obtain⟨p,f,q,g⟩:=id j;unfold pyNext;refine Af (wpAny_attempt (wpAny_callSpecial?_slot (name:=Str.ofString "__next__") c.typeIs PySem.F.slot_dict_keyiterator_next
  (wpAny_call_entry PySem.F.slot_dict_keyiterator_next c.typeIs PySem.F.entry_dict_keyiterator_next ?_ (PySem.F.args_dict_keyiterator_next_1 _))))
 refine Af (Ao ?_);refine Af ?_;refine Af ?_
 first|refine Af (wpAny_typeNameOfWhole_keyiter c.typeIs (Ao ?_))|refine Af (wpAny_typeNameOf_keyiter c.typeIs (Ao ?_))
 refine Af (wpAny_fieldsOf e hd ?_);have h:Builtin.Dict_items.ownsTuple "dict_keyiterator"=false:=ξ
 simp only[h,Bool.false_eq_true,if_false];show wpAny _ _ (if(Value.ref d==Value.none)=true then _ else _) _ _ s;rw[if_neg (show ¬((Value.ref d==Value.none)=true) from AE)];refine Af (Ao ?_);refine Af (wpAny_dictEntries f g ?_);rw[if_neg (by simp)];refine Af (Ao ?_);refine Af (wpAny_dictEpoch f g ?_);rw[if_neg (by simp)];refine Ao ?_;simp only[show ¬((es.size:Int)<0) from ω,if_false,Bj,Array.getElem?_eq_none (Ad es.size)];refine Af ?_
 first|refine Af (wpAny_typeNameOfWhole_keyiter c.typeIs (Ao ?_))|refine Af (wpAny_typeNameOf_keyiter c.typeIs (Ao ?_))
 show wpAny _ _ (setField (.ref it) 0 .none >>= _) _ _ s;refine Af (wpAny_setField e hd (by simp) ?_);show wpAny _ _ (newExc (.type "StopIteration") [] >>= _) _ _ _;refine Af ?_;simp only[newExc,newTuple];refine Af (wpAny_newObj_type ?_ (by size_fits));refine Af (m:=firstArgMember _ _) (wpAny_of_eq (a:=Value.none) (by first|rfl|(simp only[firstArgMember];rfl)) ?_);refine wpAny_newObj_type ?_ (by size_fits);simp only[raiseNew];refine Af (wpAny_handled ?_);rw[show A.in1.handled=none from i];refine Af (Ao (wpAny_throw ?_));refine Af (wpAny_isInstance (T:="StopIteration") (b:=true) ⟨_,AM _ rfl,rfl⟩ isSubtype_stop ?_);exact Ao (l _ (((Heap.SameBut.update ..).extBut.push _).push _))
def walks(j:A.handled=none)(I d:Addr)(c:d≠I)(es:Array DictEntry)(ep:Nat):Walks prog w A I [I,d] [I] es.size (fun i v=>∃e,es[i]?=some e/\v=e.key) (fun i h=>h.IsKeyIter I d i es.size ep/\IsD h d es ep) where
 sub:=fun b hb=>by simp at hb ⊢;exact .inl hb
 frame:=fun i h h' st k=>⟨let ⟨o,ho,r⟩:=st.1;⟨o,k I (by simp) o ho,r⟩,st.2.at fun o e=>k d (by simp) o e⟩
 item:=fun i s Q E hi st a=>item st.1 st.2 hi fun h' ab f=>a _ h' s.toks ⟨es[i],by simp[hi],rfl⟩ ⟨ab,st.2.at fun o e=>(f.2 d c).trans e⟩ fun b o hb e=>(f.2 b (fun z=>hb (by simp[z]))).trans e
 done:=fun s Q E st a=>done j st.1 st.2 fun h' g=>a h' s.toks fun b o hb e=>g b o (fun z=>hb (by simp[z])) e
 self:=fun i s Q E st a=>wpAny_pyIter_keyiter st.1 a
def src(lo:(d==sysModules)=false):PySem.W.KdlSrc prog w "dict" d d es.size (fun i v=>∃e,es[i]?=some e/\v=e.key) (fun h=>IsD h d es ep) where
 type:=fun _ a=>a.typeIs
 there:=fun _ a=>⟨a.lt,a.lt⟩
 keep:=fun _ _ a hk=>a.at fun o e=>hk d (.inl rfl) o e
 notList:=ξ
 notTuple:=ξ
 hint:=fun _ _ _ _ a hq=>PySem.W.kdl_hint_dict a.typeIs hq
 iter:=fun _ s b a=>⟨_,_,(fun _ _ hq=>iter lo a hq),walks b _ d (AB a.lt) es ep,⟨⟨_,AM _ rfl,rfl,rfl⟩,a.at fun o e=>Ai _ e⟩⟩
end
end Dk
namespace L2
open PySem PySem.Spec PyProof.Rows
section
variable{X:Cx}
def Kg{P:Program}{w:World}{k:Key}{u:Value}(h:(dR P w).is k u=true):RelV (kV k) u:=by
 rcases aA h with ⟨i,t,rfl,rfl⟩|⟨x,t,rfl,rfl⟩
 ·exact⟨t,rfl⟩
 ·exact⟨t,rfl⟩
end
end L2
end
section
namespace L2
open PySem PySem.Spec PyProof.Rows
def Tp(H:Hp)(a:Addr)(ps:List Int):Prop:=H a=some (.tup (ps.map V.int))
abbrev Tps(H:Hp)(as:List Addr)(bS:Ξ):Prop:=Paired (fun a ps=>Tp H a ps) as bS
def Same.tp{H H':Hp}{a:Addr}{ps:List Int}(e:Same H H')(h:Tp H a ps):Tp H' a ps:=e _ _ h
def Same.new{H:Hp}{a:Addr}{o:HO}(h:H a=none):Same H (upd H a o):=fun b u e=>by rw[ag (zk e h)];exact e
def Same.then{H H1:Hp}{a:Addr}{o:HO}(e:Same H H1)(h:H a=none):Same H (upd H1 a o):=fun b u q=>by rw[ag (zk q h)];exact e b u q
def Tps.length{H:Hp}{a:List Addr}{b:Ξ}(h:Tps H a b):a.length=b.length:=Paired.length h
def Tps.get{H:Hp}:∀{b:List Addr}{c:Ξ}{i:Nat}{a:Addr},Tps H b c->b[i]?=some a->∃ps,c[i]?=some ps/\Tp H a ps
 |_,_,_,_,.nil,e=>by simp at e
 |_,_,0,_,.cons r _,e=>by simp at e;subst e;exact⟨_,rfl,r⟩
 |_,_,i+1,a,.cons _ t,e=>by
  obtain⟨u,h1,h2⟩:=Tps.get (i:=i) (a:=a) t (by simpa using e);exact⟨u,by simpa using h1,h2⟩
def Tps.snoc{H:Hp}{b:List Addr}{c:Ξ}{a:Addr}{ps:List Int}(h:Tps H b c)(q:Tp H a ps):Tps H (b++[a]) (c++[ps]):=by
 induction h with
 |nil=>exact .cons q .nil
 |cons r t ih=>exact .cons r ih
def Tps.append{H:Hp}{a bs:List Addr}{b c:Ξ}(h:Tps H a b)(q:Tps H bs c):Tps H (a++bs) (b++c):=by
 induction h with
 |nil=>exact q
 |cons r t ih=>exact .cons r ih
def Tps.take{H:Hp}:∀{a:List Addr}{b:Ξ}(n:Nat),Tps H a b->Tps H (a.take n) (b.take n)
 |_,_,0,_=>.nil
 |_,_,_+1,.nil=>.nil
 |_,_,n+1,.cons r t=>.cons r (Tps.take n t)
def Tps.drop{H:Hp}:∀{a:List Addr}{b:Ξ}(n:Nat),Tps H a b->Tps H (a.drop n) (b.drop n)
 |_,_,0,r=>r
 |_,_,_+1,.nil=>.nil
 |_,_,n+1,.cons _ t=>Tps.drop n t
section
variable{X:Cx}
def zkH:V->List V->Hp->VK->Prop:=fun x vs H Q=>∃l xs i y,x=.ref l/\vs=[.int i,y]/\H l=some (.lst xs)/\0<=i/\i<=xs.length/\xs.length<sizeLine/\Q .non (upd H l (.lst (xs.take i.toNat++y::xs.drop i.toNat)))
def FB:E6 X "list.insert" zkH:=by
 intro aa s σ H x vs v us Q I c d h;obtain⟨l,xs,i,y,rfl,rfl,b,p,hi,hz,q⟩:=h;cases c;obtain⟨u,u',rfl,f,g⟩:=d.two;obtain⟨t,rfl⟩:=f;obtain⟨z,a,n,r,w,e⟩:=I.lstM b;have j:sizeLine<2 ^ 62:=by rw[sizeLine_eq];decide
 have o:Builtin.List.listFitsIndex i=true:=by
  unfold Builtin.List.listFitsIndex;simp only[Bool.and_eq_true,decide_eq_true_eq];constructor<;>(first|lia|omega)
 refine call_meets F.slot_list_insert ⟨_,e,rfl⟩ F.entry_list_insert (F.args_list_insert_3 _ _ _) (PySem.AutoSeq1.list_insert_list_int_val_1 l a.toArray n i t u' (by simp[o]) (by rw[Av];(first|lia|omega))) ⟨e,?_⟩;refine⟨.non,_,I.lset (its':=a.take i.toNat++u'::a.drop i.toNat) (t':=s.toks) b e ?_ ((r.take _).append (.cons g (r.drop _))) ?_,rfl,q⟩
 ·have hk:(if i<0 then(i+(a.toArray.size:Int)).toNat else min i.toNat a.toArray.size)=i.toNat:=by
   rw[if_neg ω,Av];(first|lia|omega)
  dsimp only;rw[hk];simp;exact Ar (by rw[List.length_drop];exact Ad _)
 ·rw[AK,AI,List.length_take,List.length_drop]
  (first|lia|omega)
end
section
variable{X:Cx}{scope:Scope}{N':List Str}{ah:List (Option Nat)}{tg iter aO:Expr}{aD:List Expr}{wi:TI}{g:TG}{tc:TT}{te:TE}{pos:Pos}
def Kh(hc:X.calm=true)(hk:scope.kind=.function)(c:∀y∈scope.names,y.2=.cell->scope.names.lookup y.1=some .cell)(i:∀y∈scope.names,y.2=.free->scope.names.lookup y.1=some .free)(j:∀y∈scope.names,y.2=.local->scope.names.lookup y.1=some .local)(hfr:∀y∈scope.names,y.2=.free->X.env.kindOf y.1=some .cell\/X.env.kindOf y.1=some .free)(b:kQ X.N N' ah scope)(hi:PI X tg iter wi)(hg:∀a C s₀ H₀ ex,PG (cxD X scope N' a C s₀ H₀ ex) tg g)(l:∀a C s₀ H₀ ex,fO (cxD X scope N' a C s₀ H₀ ex) aD tc)(o:∀a C s₀ H₀ ex,PE (cxD X scope N' a C s₀ H₀ ex) aO te)(p:∀x,foldedSetIterable iter X.env x=pure x:=by intro _;rfl):PE X (.ListComp aO [⟨tg,iter,aD,0⟩] scope pos) (gw wi ah g tc te):=by
 intro aa s σ H Q I h;rw[eval_ListComp];refine C5 (use:=none) hc hk c i j hfr b hi hg l o p I h fun D C H' r f L q=>?_;obtain⟨m,e⟩:=L.ns;exact⟨m,e,fun h' d=>⟨.ref D,H',L.back h' d,rfl,q⟩⟩
end
end L2
end
section
namespace Tim
open PySem PyProof.Rows
def R(ρ:Keyed->Int)(xs:Array Keyed)(i:Nat):Int:=match xs[i]? with
 |some p=>ρ p
 |none=>0
def qf{ρ:Keyed->Int}{xs ys:Array Keyed}{i j:Nat}(h:xs[i]?=ys[j]?):R ρ xs i=R ρ ys j:=by unfold R;rw[h]
def iM{ρ:Keyed->Int}{xs:Array Keyed}{i:Nat}{p:Keyed}(h:xs[i]?=some p):R ρ xs i=ρ p:=by unfold R;rw[h]
def cu(ρ:Keyed->Int)(xs:Array Keyed)(lo hi:Nat):Prop:=∀i j,lo<=i->i<=j->j<hi->R ρ xs i<=R ρ xs j
def nj(ρ:Keyed->Int)(xs:Array Keyed)(lo hi:Nat):Prop:=∀i j,lo<=i->i<=j->j<hi->R ρ xs j<=R ρ xs i
def zZ{ρ:Keyed->Int}{xs:Array Keyed}{i j:Nat}(a:j<=xs.size)(k:Nat):R ρ (mirror xs i j ((j-i) / 2)) k=if i<=k/\k<j then R ρ xs (i+j-1-k) else R ρ xs k:=by
 have e:=getElem?_mirror_all (i:=i) a k
 by_cases h1:i<=k/\k<j
 ·rw[if_pos h1] at e ⊢;exact qf e
 ·rw[if_neg h1] at e ⊢;exact qf e
def zF{ρ:Keyed->Int}{xs:Array Keyed}{i j:Nat}(b:j<=xs.size)(a:∀k,i<=k->k<j->R ρ xs k=R ρ xs (j-1))(k:Nat):R ρ (mirror xs i j ((j-i) / 2)) k=R ρ xs k:=by
 rw[zZ b];split
 ·rw[a _ ω ω,a k ω ω]
 ·rfl
def nk{ρ:Keyed->Int}{xs:Array Keyed}{src d:Nat}(a:src<xs.size)(hd:d<=src)(k:Nat):R ρ (bubble xs src d) k=if k=src-d then R ρ xs src else if src-d<k/\k<=src then R ρ xs (k-1) else R ρ xs k:=by
 have e:=getElem?_bubble a d hd k
 by_cases h1:k=src-d
 ·rw[if_pos h1] at e ⊢;exact qf e
 ·rw[if_neg h1] at e ⊢
  by_cases h2:src-d<k/\k<=src
  ·rw[if_pos h2] at e ⊢;exact qf e
  ·rw[if_neg h2] at e ⊢;exact qf e
structure hX(prog:Program)(w:World)(A:Around)(s:Shared)(κ:SortKind)(a₀:Array Keyed)(ρ:Keyed->Int):Prop where
 lt:∀x y,x∈a₀.toList->y∈a₀.toList->∀(Q:Bool->Shared->Prop)(E:Ω),Q (decide (ρ x<ρ y)) s->wpAny (model prog w) A (keyLt' κ x.1 y.1) Q E s
structure B(κ:SortKind)(a₀:Array Keyed)(st:SortSt):Prop where
 perm:(arrOf st).Perm a₀
 kind:kindOf st=κ
 failed:failedOf st=none
def B.size{κ:SortKind}{a₀:Array Keyed}{st:SortSt}(h:B κ a₀ st):(arrOf st).size=a₀.size:=h.perm.size_eq
def B.setArr{κ:SortKind}{a₀:Array Keyed}{st:SortSt}(h:B κ a₀ st){xs:Array Keyed}(hp:xs.Perm (arrOf st)):B κ a₀ (setArr st xs):=⟨hp.trans h.perm,h.kind,h.failed⟩
def B.mem{κ:SortKind}{a₀:Array Keyed}{st:SortSt}(h:B κ a₀ st){p:Keyed}(hp:p∈(arrOf st).toList):p∈a₀.toList:=(Array.perm_iff_toList_perm.mp h.perm).mem_iff.mp hp
def FC{xs:Array Keyed}{i:Nat}(hi:i<xs.size):∃p,xs[i]?=some p/\p∈xs.toList:=⟨xs[i],getElem?_pos _ i hi,by simp⟩
structure Pre(lo:Nat)(st ab:SortSt):Prop where
 arr:∀k,k<lo->(arrOf ab)[k]?=(arrOf st)[k]?
 pend:pendingOf ab=pendingOf st
def Pre.refl{lo:Nat}{st:SortSt}:Pre lo st st:=⟨fun _ _=>rfl,rfl⟩
def Pre.trans{lo:Nat}{a b c:SortSt}(x:Pre lo a b)(y:Pre lo b c):Pre lo a c:=⟨fun k h=>(y.arr k h).trans (x.arr k h),y.pend.trans x.pend⟩
def Pre.mir{lo i j:Nat}{st:SortSt}(a:j<=(arrOf st).size)(hi:lo<=i):Pre lo st (setArr st (mirror (arrOf st) i j ((j-i) / 2))):=
 ⟨fun k h=>by show(mirror _ _ _ _)[k]?=_;rw[getElem?_mirror_all a,if_neg ω],rfl⟩
def Pre.bub{lo src d:Nat}{st:SortSt}(a:src<(arrOf st).size)(hd:d<=src)(b:lo<=src-d):Pre lo st (setArr st (bubble (arrOf st) src d)):=
 ⟨fun k h=>by show(bubble _ _ _)[k]?=_;rw[getElem?_bubble a d hd,if_neg ω,if_neg ω],rfl⟩
section
variable{prog:Program}{w:World}{A:Around}{E:Ω}{s:Shared}{κ:SortKind}{a₀:Array Keyed}{ρ:Keyed->Int}
def Ki(C:hX prog w A s κ a₀ ρ){st:SortSt}(a:B κ a₀ st){x y:Keyed}(hx:x∈a₀.toList)(hy:y∈a₀.toList){Q:Option Bool->SortSt->Prop}(h:Q (some (decide (ρ x<ρ y))) st):wpS (model prog w) A E s (lt' x y) Q st:=by
 rw[lt'_eq];refine wpS_bind (wpS_get ?_);rw[a.kind];refine wpS_bind (wpS_lift (wpAny_attempt (C.lt x y hx hy _ _ ⟨rfl,?_⟩)));exact wpS_pure h
def FE{st:SortSt}{xs:Array Keyed}{i:Nat}{p:Keyed}(h:xs[i]?=some p){Q:Keyed->SortSt->Prop}(hq:Q p st):wpS (model prog w) A E s (elem' xs i) Q st:=by
 rw[elem'_eq,h];exact wpS_pure hq
def qj(C:hX prog w A s κ a₀ ρ){st:SortSt}(a:B κ a₀ st){i j:Nat}(hi:i<a₀.size)(c:j<a₀.size){Q:Option Bool->SortSt->Prop}(h:Q (some (decide (R ρ (arrOf st) i<R ρ (arrOf st) j))) st):wpS (model prog w) A E s (ltAt' i j) Q st:=by
 obtain⟨p,e1,b⟩:=FC (xs:=arrOf st) (i:=i) (by rw[a.size];exact hi);obtain⟨q,e2,m2⟩:=FC (xs:=arrOf st) (i:=j) (by rw[a.size];exact c);rw[ltAt'_eq];refine wpS_bind (wpS_get ?_);show wpS _ _ _ _ (do let x <-elem' (arrOf st) i;let y <-elem' (arrOf st) j;lt' x y) Q st;refine wpS_bind (FE e1 (wpS_bind (FE e2 (Ki C a (a.mem b) (a.mem m2) ?_))));rw[iM e1,iM e2] at h;exact h
def asc(lo a ad:Nat):StateT SortSt Sem AscSt:=
 forIn [a:ad] ((none,a):AscSt) fun _ __s=>do
  let __x <-ltAt' (lo+__s.snd) (lo+__s.snd-1)
  match __x with
  |some smaller=>if smaller=true then pure (ForInStep.done (none,__s.snd)) else pure (ForInStep.yield (none,__s.snd+1))
  |_=>pure (ForInStep.done (some none,__s.snd))
def tl3(lo n ad:Nat):StateT SortSt Sem (Option Nat):=do
 reverseSlice' lo (lo+n)
 let __s <-asc lo n ad
 match __s.fst with
 |some r=>pure r
 |none=>pure (some __s.snd)
def ym(lo n ad:Nat):StateT SortSt Sem DescSt:=
 forIn [n:ad] ((none,n,0):DescSt) fun _ __s=>do
  let __x <-ltAt' (lo+__s.snd.fst) (lo+__s.snd.fst-1)
  match __x with
  |some smaller=>
   if smaller=true then
    if __s.snd.snd>0 then do
     reverseSlice' (lo+__s.snd.fst-(__s.snd.snd+1)) (lo+__s.snd.fst)
     pure (ForInStep.yield (none,__s.snd.fst+1,0))
    else pure (ForInStep.yield (none,__s.snd.fst+1,0))
   else do
    let __x <-ltAt' (lo+__s.snd.fst-1) (lo+__s.snd.fst)
    match __x with
    |some larger=>
     if larger=true then pure (ForInStep.done (none,__s.snd.fst,__s.snd.snd))
     else pure (ForInStep.yield (none,__s.snd.fst+1,__s.snd.snd+1))
    |_=>pure (ForInStep.done (some none,__s.snd.fst,__s.snd.snd))
  |_=>pure (ForInStep.done (some none,__s.snd.fst,__s.snd.snd))
def qk(lo n ad:Nat):StateT SortSt Sem (Option Nat):=do
 liftM (rule "list.sort.descending-run")
 let __s <-ym lo (n+1) ad
 match __s.fst with
 |some r=>pure r
 |none=>
  if __s.snd.snd>0 then do
   reverseSlice' (lo+__s.snd.fst-(__s.snd.snd+1)) (lo+__s.snd.fst)
   tl3 lo __s.snd.fst ad
  else tl3 lo __s.snd.fst ad
def aY{b c:Type}{m:StateT SortSt Sem b}{f g:b->StateT SortSt Sem c}(h:∀a,f a=g a):(m >>= f)=(m >>= g):=by
 have e:f=g:=funext h;rw[e]
def Kj(lo ad:Nat):countRun' lo ad=(do
  let __s <-asc lo 1 ad
  match __s.fst with
  |some r=>pure r
  |none=>
   if(__s.snd==ad)=true then pure (some __s.snd)
   else if __s.snd>1 then do
    let __x <-ltAt' lo (lo+__s.snd-1)
    match __x with
    |some rose=>if rose=true then pure (some __s.snd) else do
      reverseSlice' lo (lo+__s.snd)
      qk lo __s.snd ad
    |_=>pure none
   else qk lo __s.snd ad):=by
 rw[countRun'_eq];unfold qk tl3 ym asc;refine aY fun e=>?_;obtain⟨r,n⟩:=e;cases r with
 |some r=>rfl
 |none=>
  dsimp only;split
  ·rfl
  ·split
   ·refine aY fun x=>?_
    cases x with
    |none=>rfl
    |some rose=>
     dsimp only;split
     ·rfl
     ·refine aY fun _r=>aY fun _u=>aY fun c=>?_
      obtain⟨r2,n2,f⟩:=c;cases r2 with
      |some r2=>rfl
      |none=>
       dsimp only;split
       ·refine aY fun _v=>aY fun _w=>aY fun a=>?_
        obtain⟨b,d⟩:=a;cases b<;>rfl
       ·refine aY fun _w=>aY fun a=>?_
        obtain⟨b,d⟩:=a;cases b<;>rfl
   ·refine aY fun _u=>aY fun c=>?_
    obtain⟨r2,n2,f⟩:=c;cases r2 with
    |some r2=>rfl
    |none=>
     dsimp only;split
     ·refine aY fun _v=>aY fun _w=>aY fun a=>?_
      obtain⟨b,d⟩:=a;cases b<;>rfl
     ·refine aY fun _w=>aY fun a=>?_
      obtain⟨b,d⟩:=a;cases b<;>rfl
def FF(C:hX prog w A s κ a₀ ρ){st:SortSt}{lo a ad:Nat}{Q:AscSt->SortSt->Prop}(z:lo+ad<=a₀.size)(D:1<=a)(q:a<=ad)(r:B κ a₀ st)(u:cu ρ (arrOf st) lo (lo+a))(h:∀n,a<=n->n<=ad->cu ρ (arrOf st) lo (lo+n)->(n=ad\/R ρ (arrOf st) (lo+n)<R ρ (arrOf st) (lo+n-1))->Q (none,n) st):wpS (model prog w) A E s (asc lo a ad) Q st:=by
 unfold asc;refine wpS_forRange (I:=fun x c ab=>ab=st/\c=(none,x)/\cu ρ (arrOf st) lo (lo+x)) ?step ?fin ⟨rfl,rfl,u⟩
 case fin=>
  rintro c ab ⟨rfl,rfl,d⟩;rw[show max a ad=ad from ω] at d ⊢;exact h ad q (Ad _) d (.inl rfl)
 case step=>
  rintro x c ab p y ⟨rfl,rfl,d⟩;dsimp only;refine wpS_bind (qj C r ω ω ?_)
  by_cases b:R ρ (arrOf ab) (lo+x)<R ρ (arrOf ab) (lo+x-1)
  ·simp only[b,decide_true,if_true]
   exact wpS_pure (h x p ω d (.inr b))
  ·simp only[b,decide_false,Bool.false_eq_true,if_false]
   refine wpS_pure ⟨rfl,rfl,fun i j l o v=>?_⟩
   by_cases f:j<lo+x
   ·exact d i j l o f
   ·have e:j=lo+x:=ω
    subst e
    by_cases g:i=lo+x
    ·subst g;exact Int.le_refl _
    ·exact Int.le_trans (d i (lo+x-1) l ω ω) (Int.not_lt.mp b)
def yn{st:SortSt}{i j:Nat}{Q:Unit->SortSt->Prop}(h:Q () (setArr st (mirror (arrOf st) i j ((j-i) / 2)))):wpS (model prog w) A E s (reverseSlice' i j) Q st:=by
 rw[reverseSlice'_eq];exact wpS_modify h
end
def Tl(τ:Keyed->Int)(xs:Array Keyed)(m:Nat):Prop:=∀i j,i<j->m<=j->j<xs.size->R τ xs i<=R τ xs j
def St(ρ τ:Keyed->Int)(xs:Array Keyed)(lo hi:Nat):Prop:=∀i j,lo<=i->i<j->j<hi->R ρ xs i=R ρ xs j->R τ xs i<=R τ xs j
def As(ρ τ:Keyed->Int)(xs:Array Keyed)(lo hi:Nat):Prop:=∀i j,lo<=i->i<j->j<hi->R ρ xs i=R ρ xs j->R τ xs j<=R τ xs i
def Tl.mono{τ:Keyed->Int}{xs:Array Keyed}{m n:Nat}(h:Tl τ xs m)(d:m<=n):Tl τ xs n:=fun i j a b c=>h i j a ω c
def Kk(xs:Array Keyed)(i j m:Nat):(mirror xs i j m).size=xs.size:=(mirror_perm xs i j m).size_eq
def Tl.mir{τ:Keyed->Int}{xs:Array Keyed}{a b m:Nat}(h:Tl τ xs m)(hb:b<=xs.size)(f:b<=m):Tl τ (mirror xs a b ((b-a) / 2)) m:=fun i j e d c=>by
 rw[Kk] at c;rw[zZ hb,zZ hb,if_neg (show ¬(a<=j/\j<b) from ω)];split
 ·exact h _ _ ω d c
 ·exact h _ _ e d c
section
variable{prog:Program}{w:World}{A:Around}{E:Ω}{s:Shared}{κ:SortKind}{a₀:Array Keyed}{ρ τ:Keyed->Int}
abbrev kR(κ:SortKind)(a₀:Array Keyed)(ρ τ:Keyed->Int)(lo ad:Nat)(st:SortSt)(Q:Option Nat->SortSt->Prop):Prop:=
 ∀m ab,B κ a₀ ab->Pre lo st ab->1<=m->m<=ad->cu ρ (arrOf ab) lo (lo+m)->St ρ τ (arrOf ab) lo (lo+m)->Tl τ (arrOf ab) (lo+m)->Q (some m) ab
def FG(C:hX prog w A s κ a₀ ρ){st g:SortSt}{lo n ad:Nat}{Q:Option Nat->SortSt->Prop}(v:lo+ad<=a₀.size)(h1:1<=n)(d:n<=ad)(l:B κ a₀ st)(x:Pre lo g st)(y:nj ρ (arrOf st) lo (lo+n))(z:As ρ τ (arrOf st) lo (lo+n))(D:Tl τ (arrOf st) (lo+n))(h:kR κ a₀ ρ τ lo ad g Q):wpS (model prog w) A E s (tl3 lo n ad) Q st:=by
 unfold tl3;have hsz:lo+n<=(arrOf st).size:=by rw[l.size];(first|lia|omega)
 refine wpS_bind (yn ?_);have c:B κ a₀ (setArr st (mirror (arrOf st) lo (lo+n) ((lo+n-lo) / 2))):=l.setArr (mirror_perm _ _ _ _);have a:Tl τ (arrOf (setArr st (mirror (arrOf st) lo (lo+n) ((lo+n-lo) / 2)))) (lo+n):=D.mir hsz (Ad _);refine wpS_bind (FF C v h1 d c ?_ fun m F o p _=>wpS_pure (h m _ c (x.trans (.mir hsz (Ad _))) ω o p (fun i j q f r u=>?_) (a.mono ω)))
 ·intro i j q f r
  show R ρ (mirror (arrOf st) lo (lo+n) ((lo+n-lo) / 2)) i<=R ρ (mirror (arrOf st) lo (lo+n) ((lo+n-lo) / 2)) j;rw[zZ hsz,zZ hsz,if_pos ω,if_pos ω];exact y _ _ ω ω ω
 ·by_cases e:lo+n<=j
  ·exact a i j f e (by rw[c.size];(first|lia|omega))
  ·have b:R ρ (mirror (arrOf st) lo (lo+n) ((lo+n-lo) / 2)) i=R ρ (mirror (arrOf st) lo (lo+n) ((lo+n-lo) / 2)) j:=u
   show R τ (mirror (arrOf st) lo (lo+n) ((lo+n-lo) / 2)) i<=R τ (mirror (arrOf st) lo (lo+n) ((lo+n-lo) / 2)) j;rw[zZ hsz,zZ hsz,if_pos ω,if_pos ω] at b;rw[zZ hsz,zZ hsz,if_pos ω,if_pos ω];exact z _ _ ω ω ω b.symm
structure Grp(ρ τ:Keyed->Int)(xs:Array Keyed)(lo x aJ:Nat):Prop where
 as:As ρ τ xs lo (lo+x-(aJ+1))
 inc:∀i j,lo+x-(aJ+1)<=i->i<j->j<lo+x->R τ xs i<=R τ xs j
 str:∀i,lo<=i->i<lo+x-(aJ+1)->R ρ xs (lo+x-1)<R ρ xs i
 tl:Tl τ xs (lo+x)
def Grp.turned{xs:Array Keyed}{lo x a:Nat}(g:Grp ρ τ xs lo x a)(hsz:lo+x<=xs.size)(hq:a+1<=x)(b:∀i,lo+x-(a+1)<=i->i<lo+x->R ρ xs i=R ρ xs (lo+x-1)):As ρ τ (mirror xs (lo+x-(a+1)) (lo+x) ((lo+x-(lo+x-(a+1))) / 2)) lo (lo+x):=fun i j e f h hr=>by
 rw[zF hsz b,zF hsz b] at hr;rw[zZ hsz,zZ hsz]
 by_cases c:j<lo+x-(a+1)
 ·rw[if_neg ω,if_neg ω];exact g.as i j e f c hr
 ·by_cases d:i<lo+x-(a+1)
  ·have:=g.str i e d
   rw[b j ω h] at hr;(first|lia|omega)
  ·rw[if_pos ω,if_pos ω]
   exact g.inc _ _ ω ω ω
def Grp.one{xs:Array Keyed}{lo x:Nat}(g:Grp ρ τ xs lo x 0):As ρ τ xs lo (lo+x):=fun i j c d e hr=>by
 by_cases b:j<lo+x-1
 ·exact g.as i j c d b hr
 ·have a:j=lo+x-1:=ω
  have:=g.str i c ω;rw[<-a] at this;(first|lia|omega)
def Kl(C:hX prog w A s κ a₀ ρ){st H:SortSt}{lo n ad:Nat}{Q:DescSt->SortSt->Prop}(X:lo+ad<=a₀.size)(h1:1<=n)(J:n<=ad)(S:B κ a₀ st)(T:Pre lo H st)(U:nj ρ (arrOf st) lo (lo+n))(hg:Grp ρ τ (arrOf st) lo n 0)(h:∀m d ab,B κ a₀ ab->Pre lo H ab->n<=m->m<=ad->nj ρ (arrOf ab) lo (lo+m)->d+1<=m->(∀i,lo+m-(d+1)<=i->i<lo+m->R ρ (arrOf ab) i=R ρ (arrOf ab) (lo+m-1))->Grp ρ τ (arrOf ab) lo m d->Q (none,m,d) ab):wpS (model prog w) A E s (ym lo n ad) Q st:=by
 unfold ym;refine wpS_forRange (I:=fun x c ab=>∃d,c=(none,x,d)/\B κ a₀ ab/\Pre lo H ab/\nj ρ (arrOf ab) lo (lo+x)/\d+1<=x/\
   (∀i,lo+x-(d+1)<=i->i<lo+x->R ρ (arrOf ab) i=R ρ (arrOf ab) (lo+x-1))/\Grp ρ τ (arrOf ab) lo x d) ?step ?fin ⟨0,rfl,S,T,U,ω,fun i h1 h2=>by congr 1;(first|lia|omega),hg⟩
 case fin=>
  rintro c ab ⟨d,rfl,q,D,r,hq,u,g⟩;rw[show max n ad=ad from ω] at r hq u g ⊢;exact h ad d ab q D J (Ad _) r hq u g
 case step=>
  rintro x c ab O W ⟨d,rfl,q,D,r,hq,u,g⟩;dsimp only;have hsz:lo+x<=(arrOf ab).size:=by rw[q.size];(first|lia|omega)
  refine wpS_bind (qj C q ω ω ?_)
  by_cases b:R ρ (arrOf ab) (lo+x)<R ρ (arrOf ab) (lo+x-1)
  ·simp only[b,decide_true,if_true]
   have f:∀xs:Array Keyed,(∀k,R ρ xs k=R ρ (arrOf ab) k)->nj ρ xs lo (lo+(x+1)):=by
    intro xs hk i j F G M;rw[hk,hk]
    by_cases p:j<lo+x
    ·exact r i j F G p
    ·have y:j=lo+x:=ω
     subst y
     by_cases z:i=lo+x
     ·subst z;exact Int.le_refl _
     ·exact Int.le_trans (Int.le_of_lt b) (r i (lo+x-1) F ω ω)
   have l:∀xs:Array Keyed,(∀k,R ρ xs k=R ρ (arrOf ab) k)->As ρ τ xs lo (lo+x)->Tl τ xs (lo+x)->Grp ρ τ xs lo (x+1) 0:=fun xs hk a t=>by
    refine⟨?_,fun i j h1 h2 N=>ω,fun i h1 h2=>?_,t.mono ω⟩
    ·rw[show lo+(x+1)-(0+1)=lo+x from ω];exact a
    ·rw[show lo+(x+1)-1=lo+x from ω,hk,hk]
     exact Int.lt_of_lt_of_le b (r i (lo+x-1) h1 ω ω)
   by_cases v:d>0
   ·rw[if_pos v]
    refine wpS_bind (yn (wpS_pure ⟨0,rfl,q.setArr (mirror_perm _ _ _ _),D.trans (.mir hsz ω),f _ (zF hsz u),ω,fun i h1 h2=>by congr 1;(first|lia|omega),l _ (zF hsz u) (g.turned hsz hq u) (g.tl.mir hsz (Ad _))⟩))
   ·rw[if_neg v]
    have P:d=0:=ω
    subst P;exact wpS_pure ⟨0,rfl,q,D,f _ (fun _=>rfl),ω,fun i h1 h2=>by congr 1;(first|lia|omega),l _ (fun _=>rfl) g.one g.tl⟩
  ·simp only[b,decide_false,Bool.false_eq_true,if_false]
   refine wpS_bind (qj C q ω ω ?_)
   by_cases e:R ρ (arrOf ab) (lo+x-1)<R ρ (arrOf ab) (lo+x)
   ·simp only[e,decide_true,if_true]
    exact wpS_pure (h x d ab q D O ω r hq u g)
   ·simp only[e,decide_false,Bool.false_eq_true,if_false]
    have o:R ρ (arrOf ab) (lo+x)=R ρ (arrOf ab) (lo+x-1):=ω
    refine wpS_pure ⟨d+1,rfl,q,D,fun i j F G M=>?_,ω,fun i h1 h2=>?_,?_⟩
    ·by_cases p:j<lo+x
     ·exact r i j F G p
     ·have y:j=lo+x:=ω
      subst y
      by_cases z:i=lo+x
      ·subst z;exact Int.le_refl _
      ·rw[o];exact r i (lo+x-1) F ω ω
    ·rw[show lo+(x+1)-1=lo+x from ω]
     by_cases L:i=lo+x
     ·subst L;rfl
     ·rw[o];exact u i ω ω
    ·have hb:lo+(x+1)-(d+1+1)=lo+x-(d+1):=ω
     refine⟨by rw[hb];exact g.as,fun i j h1 h2 N=>?_,fun i h1 h2=>?_,g.tl.mono ω⟩
     ·by_cases p:j<lo+x
      ·exact g.inc i j ω h2 p
      ·exact g.tl i j h2 ω (by rw[q.size];(first|lia|omega))
     ·rw[show lo+(x+1)-1=lo+x from ω,o]
      exact g.str i h1 ω
def FH(C:hX prog w A s κ a₀ ρ){st q:SortSt}{lo n ad:Nat}{Q:Option Nat->SortSt->Prop}(d:lo+ad<=a₀.size)(e:n+1<=ad)(y:B κ a₀ st)(z:Pre lo q st)(D:nj ρ (arrOf st) lo (lo+(n+1)))(hg:Grp ρ τ (arrOf st) lo (n+1) 0)(h:kR κ a₀ ρ τ lo ad q Q):wpS (model prog w) A E s (qk lo n ad) Q st:=by
 unfold qk;refine wpS_bind (wpS_lift (wpAny_rule ⟨rfl,?_⟩));refine wpS_bind (Kl C d ω e y z D hg fun m f ab b l F o p hq c g=>?_);dsimp only;have hsz:lo+m<=(arrOf ab).size:=by rw[b.size];(first|lia|omega)
 by_cases a:f>0
 ·rw[if_pos a]
  refine wpS_bind (yn (FG C d ω o (b.setArr (mirror_perm _ _ _ _)) (l.trans (.mir hsz ω)) ?_ (g.turned hsz hq c) (g.tl.mir hsz (Ad _)) h));intro i j r u v;show R ρ (mirror (arrOf ab) _ _ _) j<=R ρ (mirror (arrOf ab) _ _ _) i;rw[zF hsz c,zF hsz c];exact p i j r u v
 ·rw[if_neg a]
  have x:f=0:=ω
  subst x;exact FG C d ω o b l p g.one g.tl h
def Km(C:hX prog w A s κ a₀ ρ){st:SortSt}{lo ad:Nat}{Q:Option Nat->SortSt->Prop}(z:lo+ad<=a₀.size)(h1:1<=ad)(e:B κ a₀ st)(p:Tl τ (arrOf st) lo)(h:kR κ a₀ ρ τ lo ad st Q):wpS (model prog w) A E s (countRun' lo ad) Q st:=by
 rw[Kj];refine wpS_bind (FF C z (Ad 1) h1 e (fun i j b o q=>?_) fun n F G v I=>?_)
 ·have:i=j:=ω
  subst this;exact Int.le_refl _
 dsimp only;have H:St ρ τ (arrOf st) lo (lo+n):=fun i j b o q _=>p i j o ω (by rw[e.size];(first|lia|omega))
 by_cases g:n=ad
 ·rw[if_pos (by simpa using g)]
  exact wpS_pure (h n st e .refl F G v H (p.mono ω))
 ·rw[if_neg (by simpa using g)]
  have d:R ρ (arrOf st) (lo+n)<R ρ (arrOf st) (lo+n-1):=I.resolve_left g
  by_cases u:n>1
  ·rw[if_pos u]
   refine wpS_bind (qj C e ω ω ?_)
   by_cases c:R ρ (arrOf st) lo<R ρ (arrOf st) (lo+n-1)
   ·simp only[c,decide_true,if_true]
    exact wpS_pure (h n st e .refl F G v H (p.mono ω))
   ·simp only[c,decide_false,Bool.false_eq_true,if_false]
    have hsz:lo+n<=(arrOf st).size:=by rw[e.size];(first|lia|omega)
    have a:∀k,lo<=k->k<lo+n->R ρ (arrOf st) k=R ρ (arrOf st) (lo+n-1):=by
     intro k b hk;have a1:=v lo k ω b hk;have a2:=v k (lo+n-1) b ω ω;(first|lia|omega)
    refine wpS_bind (yn (FH C z ω (e.setArr (mirror_perm _ _ _ _)) (.mir hsz (Ad _)) ?_ ⟨?_,?_,?_,?_⟩ h))
    ·intro i j b o q
     show R ρ (mirror (arrOf st) _ _ _) j<=R ρ (mirror (arrOf st) _ _ _) i;rw[zF hsz a,zF hsz a]
     by_cases D:j<lo+n
     ·rw[a i ω ω,a j ω D];exact Int.le_refl _
     ·have x:j=lo+n:=ω
      subst x
      by_cases l:i=lo+n
      ·subst l;exact Int.le_refl _
      ·rw[a i ω ω];exact Int.le_of_lt d
    ·rw[show lo+(n+1)-(0+1)=lo+n from ω]
     intro i j b o q _;show R τ (mirror (arrOf st) _ _ _) j<=R τ (mirror (arrOf st) _ _ _) i;rw[zZ hsz,zZ hsz,if_pos ω,if_pos ω];exact p _ _ ω ω ω
    ·intro i j h1 h2 J;(first|lia|omega)
    ·intro i b hi
     show R ρ (mirror (arrOf st) _ _ _) _<R ρ (mirror (arrOf st) _ _ _) i;rw[zF hsz a,zF hsz a,show lo+(n+1)-1=lo+n from ω,a i b ω];exact d
    ·exact(p.mono (show lo<=lo+n from ω)).mir hsz (Ad _)|>.mono ω
  ·rw[if_neg u]
   have r:n=1:=ω
   subst r;refine FH C z ω e .refl ?_ ⟨?_,?_,?_,p.mono ω⟩ h
   ·intro i j b o q
    by_cases l:i=j
    ·subst l;exact Int.le_refl _
    ·have f:i=lo:=ω
     have y:j=lo+1:=ω
     subst f;subst y;exact Int.le_of_lt d
   ·intro i j b o q;(first|lia|omega)
   ·intro i j h1 h2 J;(first|lia|omega)
   ·intro i b hi
    have f:i=lo:=ω
    subst f;exact d
def Kn(C:hX prog w A s κ a₀ ρ){st:SortSt}{lo n ok:Nat}{Q:Bool->SortSt->Prop}(hn:lo+n<=a₀.size)(T:ok<=n)(wJ:1<=ok)(U:B κ a₀ st)(D:cu ρ (arrOf st) lo (lo+ok))(W:St ρ τ (arrOf st) lo (lo+ok))(X:Tl τ (arrOf st) (lo+ok))(h:∀ab,B κ a₀ ab->Pre lo st ab->cu ρ (arrOf ab) lo (lo+n)->St ρ τ (arrOf ab) lo (lo+n)->Q true ab):wpS (model prog w) A E s (binarySort' lo n ok) Q st:=by
 rw[binarySort'_eq];refine wpS_bind (wpS_mono (wpS_forRange (I:=fun k c ab=>c=(none,())/\B κ a₀ ab/\Pre lo st ab/\cu ρ (arrOf ab) lo (lo+min k n)/\St ρ τ (arrOf ab) lo (lo+min k n)/\Tl τ (arrOf ab) (lo+min k n))
  (Q:=fun c ab=>c=(none,())/\B κ a₀ ab/\Pre lo st ab/\cu ρ (arrOf ab) lo (lo+n)/\St ρ τ (arrOf ab) lo (lo+n)) ?step ?fin ?init) ?post)
 case post=>
  rintro c ab ⟨rfl,g,u,e,f⟩;exact wpS_pure (h ab g u e f)
 case init=>
  rw[show min (max ok 1) n=ok from ω];exact⟨rfl,U,.refl,D,W,X⟩
 case fin=>
  rintro c ab ⟨hc,g,u,e,f,_⟩;rw[show min (max (max ok 1) n) n=n from ω] at e f;exact⟨hc,g,u,e,f⟩
 case step=>
  rintro k c ab Y Z ⟨rfl,g,u,e,f,v⟩;rw[show min k n=k from ω] at e f v;have hk:lo+k<a₀.size:=ω
  refine wpS_bind (wpS_mono (wpS_forRange (I:=fun x c a=>a=ab/\∃l r,c=(none,l,r)/\l<=r/\r<=k/\r-l<=k-x/\
    (∀i,i<l->R ρ (arrOf ab) (lo+i)<=R ρ (arrOf ab) (lo+k))/\(∀i,r<=i->i<k->R ρ (arrOf ab) (lo+k)<R ρ (arrOf ab) (lo+i)))
   (Q:=fun c a=>a=ab/\∃l r,c=(none,l,r)/\l<=k/\
    (∀i,i<l->R ρ (arrOf ab) (lo+i)<=R ρ (arrOf ab) (lo+k))/\(∀i,l<=i->i<k->R ρ (arrOf ab) (lo+k)<R ρ (arrOf ab) (lo+i))) ?istep ?ifin ?iinit) ?ipost)
  case iinit=>exact⟨rfl,0,k,rfl,ω,ω,ω,fun i hi=>ω,fun i h1 h2=>ω⟩
  case ifin=>
   rintro c a ⟨rfl,l,r,rfl,O,F,P,p,q⟩;have:l=r:=ω
   subst this;exact⟨rfl,l,l,rfl,F,p,q⟩
  case istep=>
   rintro x c a _ yl ⟨rfl,l,r,rfl,O,F,P,p,q⟩;dsimp only
   by_cases y:l ≥ r
   ·rw[if_pos y]
    have:l=r:=ω
    subst this;exact wpS_pure ⟨rfl,l,l,rfl,F,p,q⟩
   ·rw[if_neg y]
    refine wpS_bind (qj C g hk ω ?_)
    by_cases d:R ρ (arrOf a) (lo+k)<R ρ (arrOf a) (lo+(l+r) / 2)
    ·simp only[d,decide_true,if_true]
     refine wpS_pure ⟨rfl,l,(l+r) / 2,rfl,ω,ω,ω,p,fun i h1 h2=>?_⟩;exact Int.lt_of_lt_of_le d (e _ _ ω ω ω)
    ·simp only[d,decide_false,Bool.false_eq_true,if_false]
     refine wpS_pure ⟨rfl,(l+r) / 2+1,r,rfl,ω,ω,ω,fun i h1=>?_,q⟩;exact Int.le_trans (e (lo+i) (lo+(l+r) / 2) ω ω ω) (Int.not_lt.mp d)
  case ipost=>
   rintro c a ⟨rfl,l,r,rfl,yo,p,q⟩;show wpS _ _ _ _ (do moveDown' (lo+k) (lo+l);pure (ForInStep.yield (none,()))) _ _;rw[moveDown'_eq];have o:lo+k<(arrOf a).size:=by rw[g.size];exact hk
   have S:∀i,lo<=i->i<lo+l->R ρ (arrOf a) i<=R ρ (arrOf a) (lo+k):=fun i h1 h2=>by
    have:=p (i-lo) ω;rwa [show lo+(i-lo)=i from ω] at this
   have L:∀i,lo+l<=i->i<lo+k->R ρ (arrOf a) (lo+k)<R ρ (arrOf a) i:=fun i h1 h2=>by
    have:=q (i-lo) ω ω;rwa [show lo+(i-lo)=i from ω] at this
   refine wpS_bind (wpS_modify (wpS_pure ⟨rfl,g.setArr (bubble_perm _ _ _),u.trans (.bub o ω ω),?_,?_,?_⟩))
   ·rw[show min (k+1) n=k+1 from ω]
    intro i j M z J;show R ρ (bubble (arrOf a) (lo+k) (lo+k-(lo+l))) i<=R ρ (bubble (arrOf a) (lo+k) (lo+k-(lo+l))) j;rw[nk o ω,nk o ω,show lo+k-(lo+k-(lo+l))=lo+l from ω]
    repeat' split
    all_goals first
     |(exfalso;(first|lia|omega))
     |exact Int.le_refl _
     |exact S _ ω ω
     |exact Int.le_of_lt (L _ ω ω)
     |exact e _ _ ω ω ω
   ·rw[show min (k+1) n=k+1 from ω]
    intro i j M z J N;have b:R ρ (bubble (arrOf a) (lo+k) (lo+k-(lo+l))) i=R ρ (bubble (arrOf a) (lo+k) (lo+k-(lo+l))) j:=N;show R τ (bubble (arrOf a) (lo+k) (lo+k-(lo+l))) i<=R τ (bubble (arrOf a) (lo+k) (lo+k-(lo+l))) j;rw[nk o ω,nk o ω,show lo+k-(lo+k-(lo+l))=lo+l from ω] at b ⊢
    by_cases i1:i=lo+l
    ·rw[if_pos i1,if_neg ω,if_pos ω] at b
     have:=L (j-1) ω ω;(first|lia|omega)
    ·by_cases i2:lo+l<i
     ·rw[if_neg i1,if_pos ω,if_neg ω,if_pos ω] at b ⊢
      exact f _ _ ω ω ω b
     ·by_cases H:j=lo+l
      ·rw[if_neg i1,if_neg ω,if_pos H] at b ⊢
       exact v _ _ ω ω ω
      ·by_cases j2:lo+l<j
       ·rw[if_neg i1,if_neg ω,if_neg H,if_pos ω] at b ⊢
        exact f _ _ ω ω ω b
       ·rw[if_neg i1,if_neg ω,if_neg H,if_neg ω] at b ⊢
        exact f _ _ ω ω ω b
   ·rw[show min (k+1) n=k+1 from ω]
    intro i j z J D;have G:j<(arrOf a).size:=by
     have:=(bubble_perm (arrOf a) (lo+k) (lo+k-(lo+l))).size_eq;have yI:j<(bubble (arrOf a) (lo+k) (lo+k-(lo+l))).size:=D;(first|lia|omega)
    show R τ (bubble (arrOf a) (lo+k) (lo+k-(lo+l))) i<=R τ (bubble (arrOf a) (lo+k) (lo+k-(lo+l))) j;rw[nk o ω,nk o ω,show lo+k-(lo+k-(lo+l))=lo+l from ω,if_neg (show ¬j=lo+l from ω),if_neg (show ¬(lo+l<j/\j<=lo+k) from ω)];split
    ·exact v _ _ ω ω G
    ·split
     ·exact v _ _ ω ω G
     ·exact v _ _ z ω G
def Ko(C:hX prog w A s κ a₀ ρ){st:SortSt}{Q:Unit->SortSt->Prop}(G:B κ a₀ st)(hp:pendingOf st=#[])(h1:1<=a₀.size)(W:a₀.size<64)(X:Tl τ (arrOf st) 0)(h:∀ab,B κ a₀ ab->cu ρ (arrOf ab) 0 a₀.size->St ρ τ (arrOf ab) 0 a₀.size->Q () ab):wpS (model prog w) A E s sortRuns' Q st:=by
 rw[sortRuns'_eq];refine wpS_bind (wpS_get ?_);dsimp only;have T:minRun' a₀.size a₀.size 0=a₀.size:=by
  obtain⟨f,O⟩:∃f,a₀.size=f+1:=⟨a₀.size-1,ω⟩;have:minRun' (f+1) a₀.size 0=a₀.size:=by rw[minRun'_succ,if_pos W];rfl
  rwa [<-O] at this
 simp only[G.size,T];refine wpS_bind (wpS_mono (wpS_forRange
  (I:=fun x c ab=>(x=0/\c=(none,0)/\B κ a₀ ab/\pendingOf ab=#[]/\Tl τ (arrOf ab) 0)\/(1<=x/\c=(none,a₀.size)/\B κ a₀ ab/\(pendingOf ab).size<=1/\cu ρ (arrOf ab) 0 a₀.size/\St ρ τ (arrOf ab) 0 a₀.size))
  (Q:=fun c ab=>c=(none,a₀.size)/\B κ a₀ ab/\(pendingOf ab).size<=1/\cu ρ (arrOf ab) 0 a₀.size/\St ρ τ (arrOf ab) 0 a₀.size) ?step ?fin (.inl ⟨rfl,rfl,G,hp,X⟩)) ?post)
 case fin=>
  rintro c ab (⟨hx,_,_⟩|⟨_,hc,o⟩)
  ·(first|lia|omega)
  ·exact⟨hc,o⟩
 case step=>
  rintro x c ab _ hx (⟨rfl,rfl,r,e,u⟩|⟨Y,rfl,o⟩)
  ·dsimp only
   rw[if_neg ω];simp only[Nat.sub_zero,Nat.min_self];refine wpS_bind (Km C ω ω r u fun m i v P2 H m2 j l J=>?_);dsimp only;have tl:∀a,B κ a₀ a->pendingOf a=#[]->cu ρ (arrOf a) 0 a₀.size->St ρ τ (arrOf a) 0 a₀.size->B κ a₀ (setPending a ((pendingOf a).push (0,a₀.size,0)))/\(pendingOf (setPending a ((pendingOf a).push (0,a₀.size,0)))).size<=1/\cu ρ (arrOf (setPending a ((pendingOf a).push (0,a₀.size,0)))) 0 a₀.size/\St ρ τ (arrOf (setPending a ((pendingOf a).push (0,a₀.size,0)))) 0 a₀.size:=
    fun a b p q L=>⟨⟨b.perm,b.kind,b.failed⟩,by show((pendingOf a).push _).size<=1;rw[p];exact Ad 1,q,L⟩
   by_cases g:m<a₀.size
   ·rw[if_pos g]
    refine wpS_bind (wpS_lift (wpAny_rule ⟨rfl,?_⟩));refine wpS_bind (Kn C ω m2 H v j l J fun a M P3 y z=>?_);simp only[Bool.not_true,Bool.false_eq_true,if_false];refine wpS_bind (wpS_get ?_);have D:pendingOf a=#[]:=by rw[P3.pend,P2.pend];exact e
    have hb:(pendingOf a).back?=none:=by rw[D];rfl
    rw[hb];dsimp only;simp only[Nat.zero_add] at y z ⊢;exact wpS_bind (wpS_modify (wpS_pure (.inr ⟨ω,rfl,tl a M D y z⟩)))
   ·rw[if_neg g]
    have U:m=a₀.size:=ω
    subst U;refine wpS_bind (wpS_get ?_);have F:pendingOf i=#[]:=by rw[P2.pend];exact e
    have hb:(pendingOf i).back?=none:=by rw[F];rfl
    rw[hb];dsimp only;simp only[Nat.zero_add] at j l ⊢;exact wpS_bind (wpS_modify (wpS_pure (.inr ⟨ω,rfl,tl i v F j l⟩)))
  ·dsimp only
   rw[if_pos (Ad _)];exact wpS_pure ⟨rfl,o⟩
 case post=>
  rintro c ab ⟨rfl,r,P,S,ss⟩;dsimp only;refine wpS_bind (wpS_mono (wpS_forRange (I:=fun _ c d=>d=ab/\c=(none,())) (Q:=fun c d=>d=ab/\c=(none,())) ?_ (fun _ _ N=>N) ⟨rfl,rfl⟩) ?_)
  ·rintro x c d _ _ ⟨rfl,rfl⟩
   refine wpS_bind (wpS_get ?_);rw[if_pos P];exact wpS_pure ⟨rfl,rfl⟩
  ·rintro c d ⟨rfl,rfl⟩
   exact wpS_pure (h _ r S ss)
end
section
variable{prog:Program}{w:World}{A:Around}{E:Ω}{s:Shared}{κ:SortKind}{a₀:Array Keyed}{ρ:Keyed->Int}
def Kq(C:hX prog w A s κ a₀ ρ){st:SortSt}{Q:Unit->SortSt->Prop}(c:B κ a₀ st)(hp:pendingOf st=#[])(h1:1<=a₀.size)(d:a₀.size<64)(h:∀ab,B κ a₀ ab->cu ρ (arrOf ab) 0 a₀.size->Q () ab):wpS (model prog w) A E s sortRuns' Q st:=
 Ko (τ:=fun _=>0) C c hp h1 d (fun i j _ _ _=>by unfold R;split<;>split<;>exact Int.le_refl _) fun ab b a _=>h ab b a
end
end Tim
end
section
namespace cu
open PySem PyProof.Rows HT
def FI:∀a:List Int,lexLt a a=false
 |[]=>rfl
 |x::a=>by rw[pV,if_pos rfl];exact FI a
def C':∀{a b c:List Int},lexLt a b=true->lexLt b c=true->lexLt a c=true
 |[],[],_,h,_=>by cases h
 |[],_::_,[],_,h=>by cases h
 |[],_::_,_::_,_,_=>rfl
 |_::_,[],_,h,_=>by cases h
 |_::_,_::_,[],_,h=>by cases h
 |x::a,y::b,z::c,h1,h2=>by
  rw[pV] at h1 h2 ⊢
  by_cases e1:x=y
  ·rw[if_pos e1] at h1
   by_cases e2:y=z
   ·rw[if_pos e2] at h2
    rw[if_pos (e1.trans e2)];exact C' h1 h2
   ·rw[if_neg e2] at h2
    rw[if_neg ω];have:=of_decide_eq_true h2;exact decide_eq_true ω
  ·rw[if_neg e1] at h1
   have d:=of_decide_eq_true h1
   by_cases e2:y=z
   ·rw[if_neg ω]
    exact decide_eq_true ω
   ·rw[if_neg e2] at h2
    have e:=of_decide_eq_true h2;rw[if_neg ω];exact decide_eq_true ω
def FJ:∀{a b:List Int},lexLt a b=false->lexLt b a=false->a=b
 |[],[],_,_=>rfl
 |[],_::_,h,_=>by cases h
 |_::_,[],_,h=>by cases h
 |x::a,y::b,h1,h2=>by
  rw[pV] at h1 h2
  by_cases e:x=y
  ·subst e
   rw[if_pos rfl] at h1 h2;rw[FJ h1 h2]
  ·rw[if_neg e] at h1
   rw[if_neg (Ne.symm e)] at h2;have:=of_decide_eq_false h1;have:=of_decide_eq_false h2;(first|lia|omega)
def rk(ls:Ξ)(l:List Int):Int:=((ls.filter fun m=>lexLt m l).length:Nat)
def FK{ls:Ξ}{l m:List Int}(f:l∈ls)(g:m∈ls):decide (rk ls l<rk ls m)=lexLt l m:=by
 have mono:∀{a b:List Int},(∀x,lexLt x a=true->lexLt x b=true)->∀k:Ξ,(k.filter fun x=>lexLt x a).length<=(k.filter fun x=>lexLt x b).length:=by
  intro a b d k
  induction k with
  |nil=>exact Ad _
  |cons x k ih=>
   rw[List.filter_cons,List.filter_cons]
   by_cases q:lexLt x a=true
   ·rw[if_pos q,if_pos (d x q),AI,AI];(first|lia|omega)
   ·rw[if_neg q]
    split
    ·rw[AI];(first|lia|omega)
    ·exact ih
 have c:∀{a b:List Int},(∀x,lexLt x a=true->lexLt x b=true)->lexLt a b=true->∀k:Ξ,a∈k->(k.filter fun x=>lexLt x a).length<(k.filter fun x=>lexLt x b).length:=by
  intro a b d h k
  induction k with
  |nil=>intro q;cases q
  |cons x k ih=>
   intro hk;rw[List.filter_cons,List.filter_cons];rcases List.mem_cons.mp hk with e|e
   ·subst e
    rw[if_neg (by rw[FI];exact AE),if_pos h,AI];have:=mono d k;(first|lia|omega)
   ·have:=ih e
    by_cases q:lexLt x a=true
    ·rw[if_pos q,if_pos (d x q),AI,AI];(first|lia|omega)
    ·rw[if_neg q]
     split
     ·rw[AI];(first|lia|omega)
     ·exact this
 unfold rk;cases q:lexLt l m with
 |true=>
  have:=c (a:=l) (b:=m) (fun x hx=>C' hx q) q ls f;exact decide_eq_true ω
 |false=>
  have:=mono (a:=m) (b:=l) (fun x hx=>by
   cases z:lexLt x l with
   |true=>rfl
   |false=>
    cases z2:lexLt l x with
    |true=>rw[C' z2 hx] at q;cases q
    |false=>rw[FJ z z2] at hx;rw[hx] at q;cases q) ls
  exact decide_eq_false ω
structure By(prog:Program)(w:World)(A:Around)(good:Heap->Prop)(us:List Value)(ls:Ξ):Prop where
 len:us.length=ls.length
 fn:∀(i j:Nat) u l m,us[i]?=some u->us[j]?=some u->ls[i]?=some l->ls[j]?=some m->l=m
 ask:2<=us.length->∃κ:SortKind,(∀(s:Shared)(Q:SortKind->Shared->Prop)(E:Ω),good s.heap->Q κ s->wpAny (model prog w) A (keyKind' us.toArray) Q E s)/\
  ∀(i j:Nat) u v l m,us[i]?=some u->us[j]?=some v->ls[i]?=some l->ls[j]?=some m->∀(s:Shared)(Q:Bool->Shared->Prop)(E:Ω),good s.heap->Q (lexLt l m) s->wpAny (model prog w) A (keyLt' κ u v) Q E s
open Classical in
noncomputable def nn(us:List Value)(ls:Ξ)(u:Value):List Int:=if h:∃l,∃i:Nat,us[i]?=some u/\ls[i]?=some l then h.choose else []
def qC{us:List Value}{ls:Ξ}(fn:∀(i j:Nat) u l m,us[i]?=some u->us[j]?=some u->ls[i]?=some l->ls[j]?=some m->l=m){i:Nat}{u:Value}{l:List Int}(h1:us[i]?=some u)(h2:ls[i]?=some l):nn us ls u=l:=by
 unfold nn;have h:∃l,∃i:Nat,us[i]?=some u/\ls[i]?=some l:=⟨l,i,h1,h2⟩;rw[dif_pos h];obtain⟨j,e1,e2⟩:=h.choose_spec;exact fn j i u _ l e1 h1 e2 h2
noncomputable def nq(us:List Value)(ls:Ξ)(p:Keyed):Int:=rk ls (nn us ls p.1)
section
variable{prog:Program}{w:World}{A:Around}{E:Ω}{s:Shared}{good:Heap->Prop}{us vs:List Value}{ls:Ξ}
def yu(h:us.length=vs.length){p:Keyed}(hp:p∈(us.toArray.zip vs.toArray).toList):∃i:Nat,us[i]?=some p.1/\vs[i]?=some p.2:=by
 have e:(us.toArray.zip vs.toArray).toList=us.zip vs:=by simp
 rw[e] at hp;obtain⟨i,hi,e2⟩:=List.mem_iff_getElem.mp hp;rw[List.getElem_zip] at e2;rw[List.length_zip] at hi;refine⟨i,?_,?_⟩
 ·rw[Ac ω,<-e2]
 ·rw[Ac ω,<-e2]
def Kr(B:By prog w A good us ls)(c:us.length=vs.length)(hg:good s.heap){κ:SortKind}(h2:2<=us.length)(g:us.length<64)(hk:∀(i j:Nat) u v l m,us[i]?=some u->us[j]?=some v->ls[i]?=some l->ls[j]?=some m->∀(s:Shared)(Q:Bool->Shared->Prop)(E:Ω),good s.heap->Q (lexLt l m) s->wpAny (model prog w) A (keyLt' κ u v) Q E s){Q:Unit->SortSt->Prop}(h:∀ab,(arrOf ab).Perm (us.toArray.zip vs.toArray)->failedOf ab=none->Tim.cu (nq us ls) (arrOf ab) 0 vs.length->Q () ab):wpS (model prog w) A E s sortRuns' Q (SortSt.mk' κ (us.toArray.zip vs.toArray) #[] 7 none):=by
 have hz:(us.toArray.zip vs.toArray).size=vs.length:=by simp;(first|lia|omega)
 refine Tim.Kq (κ:=κ) (a₀:=us.toArray.zip vs.toArray) (ρ:=nq us ls) ⟨fun x y hx hy e f hq=>?_⟩ ⟨Array.Perm.refl _,rfl,rfl⟩ rfl (by rw[hz];(first|lia|omega)) (by rw[hz];(first|lia|omega)) fun ab b d=>h ab b.perm b.failed (by rw[<-hz];exact d);obtain⟨i,e1,_⟩:=yu c hx;obtain⟨j,e2,_⟩:=yu c hy;have hi:i<ls.length:=by rw[<-B.len];exact(List.getElem?_eq_some_iff.mp e1).1
 have a:j<ls.length:=by rw[<-B.len];exact(List.getElem?_eq_some_iff.mp e2).1
 have f1:ls[i]?=some ls[i]:=Ac hi;have f2:ls[j]?=some ls[j]:=Ac a;refine hk i j _ _ _ _ e1 e2 f1 f2 s e f hg ?_;unfold nq at hq;rw[qC B.fn e1 f1,qC B.fn e2 f2,FK (Ay hi) (Ay a)] at hq;exact hq
def cY{a b:Type}:∀(l:List a)(m:List b)(i:Nat),(l.zip m)[i]?=(l[i]?).bind fun x=>(m[i]?).map fun y=>(x,y)
 |[],m,i=>by simp
 |x::l,[],i=>by cases h:(x::l)[i]?<;>simp
 |x::l,y::m,0=>rfl
 |x::l,y::m,i+1=>by
  rw[List.zip_cons_cons,List.getElem?_cons_succ,List.getElem?_cons_succ,List.getElem?_cons_succ];exact cY l m i
def Ks(B:By prog w A good us ls)(l:us.length=vs.length){xs:Array Keyed}(hp:xs.Perm (us.toArray.zip vs.toArray))(r:Tim.cu (nq us ls) xs 0 vs.length):∃ps:List (List Int×Value),ps.Perm (ls.zip vs)/\xs.toList.map (·.2)=ps.map (·.2)/\ps.Pairwise fun(a b:List Int×Value)=>HT.lexLt b.1 a.1=false:=by
 have pl:xs.toList.Perm (us.zip vs):=by
  have:=Array.perm_iff_toList_perm.mp hp
  simpa using this
 refine⟨xs.toList.map fun p=>(nn us ls p.1,p.2),?_,by rw[AS];rfl,?_⟩
 ·have e:(us.zip vs).map (fun p:Keyed=>(nn us ls p.1,p.2))=ls.zip vs:=by
   apply List.ext_getElem?;intro i;rw[Aj,cY,cY];cases e1:us[i]? with
   |none=>
    have:ls[i]?=none:=List.getElem?_eq_none (by rw[<-B.len];exact List.getElem?_eq_none_iff.mp e1);rw[this];rfl
   |some u=>
    have hi:i<ls.length:=by rw[<-B.len];exact(List.getElem?_eq_some_iff.mp e1).1
    have f1:ls[i]?=some ls[i]:=Ac hi;rw[f1];cases e2:vs[i]? with
    |none=>rfl
    |some v=>
     show some (nn us ls u,v)=some (ls[i],v);rw[qC B.fn e1 f1]
  rw[<-e];exact pl.map _
 ·rw[List.pairwise_map,List.pairwise_iff_getElem]
  intro i j hi h o;have hsz:xs.size=vs.length:=by
   have:=pl.length_eq;rw[Array.length_toList,List.length_zip] at this;(first|lia|omega)
  rw[Array.length_toList] at hi h;have q:=r i j (Aw _) (Nat.le_of_lt o) ω;have a1:xs[i]?=some xs[i]:=getElem?_pos xs i hi;have a2:xs[j]?=some xs[j]:=getElem?_pos xs j h;rw[Tim.iM a1,Tim.iM a2] at q;simp only[Array.getElem_toList];obtain⟨f,g1,_⟩:=yu l (p:=xs[i]) (by
   have:=pl.mem_iff.mp (show xs[i]∈xs.toList by simp)
   simpa using this)
  obtain⟨g,g2,_⟩:=yu l (p:=xs[j]) (by
   have:=pl.mem_iff.mp (show xs[j]∈xs.toList by simp)
   simpa using this)
  have c:f<ls.length:=by rw[<-B.len];exact(List.getElem?_eq_some_iff.mp g1).1
  have d:g<ls.length:=by rw[<-B.len];exact(List.getElem?_eq_some_iff.mp g2).1
  have f1:ls[f]?=some ls[f]:=Ac c;have f2:ls[g]?=some ls[g]:=Ac d;unfold nq at q;rw[qC B.fn g1 f1,qC B.fn g2 f2] at q ⊢;have:=FK (ls:=ls) (Ay d) (Ay c);rw[<-this];exact decide_eq_false ω
end
end cu
end
section
namespace cu
open PySem PyProof.Rows PySem.W
section
variable{prog:Program}{w:World}{A:Around}{E:Ω}{s:Shared}{good:Heap->Prop}{us vs:List Value}{ls:Ξ}
def Kt{ns:List Int}(hi:IntsAre us ns):By prog w A (fun _=>True) us (ns.map fun n=>[n]):=by
 have d:=hi.length;have at_:∀(i:Nat) u l,us[i]?=some u->(ns.map fun n=>[n])[i]?=some l->∃n t,u=.int n t/\l=[n]:=fun i u l h1 h2=>by
  obtain⟨t,e⟩:=IntsAre.int_at hi i u h1;rw[Aj] at h2;cases e2:ns[i]? with
  |none=>rw[e2] at h2;cases h2
  |some n=>
   rw[e2] at h2;have e3:ns.getD i 0=n:=by rw[Ab,e2];rfl
   rw[e3] at e;exact⟨n,t,e,(AW h2).symm⟩
 refine⟨by rw[Aa,d],fun i j u l m h1 h2 b c=>?_,fun h2=>⟨oneType',fun s Q E _ hq=>?_,fun i j u v l m h1 h2 b c s Q E _ hq=>?_⟩⟩
 ·obtain⟨n,t,e1,rfl⟩:=at_ i u l h1 b
  obtain⟨a,t',e2,rfl⟩:=at_ j u m h2 c;rw[e1] at e2;cases e2
  rfl
 ·match us,hi,h2 with
  |[],_,h2=>simp at h2
  |[_],_,h2=>simp at h2
  |v₁::v₂::rest,hi,_=>
   rw[keyKind_ints hi];exact Ao hq
 ·obtain⟨n,t,rfl,rfl⟩:=at_ i u l h1 b
  obtain⟨a,t',rfl,rfl⟩:=at_ j v m h2 c;refine kat_lt_int ?_;have:HT.lexLt [n] [a]=decide (n<a):=by
   rw[HT.pV]
   by_cases e:n=a
   ·rw[if_pos e,HT.JA];exact(decide_eq_false ω).symm
   ·rw[if_neg e]
  rw[this] at hq;exact hq
def IsPr(h:Heap)(u:Value)(l:List Int):Prop:=∃(a b:Addr)(n:Int)(t:Tok)(c:List Value)(ps:List Int),u=.ref a/\l=n::ps/\IsTup h a #[.int n t,.ref b]/\IsTup h b c.toArray/\IntsAre c ps
def IsTup.inj{h:Heap}{a:Addr}{xs ys:Array Value}(h1:IsTup h a xs)(h2:IsTup h a ys):xs=ys:=by
 obtain⟨o,e,_,n,d⟩:=h1;obtain⟨o',b,_,c,d'⟩:=h2;rw[e] at b;cases b;rw[d] at d';injection d'
def IntsAre.inj{vs:List Value}{ns ms:List Int}(h:IntsAre vs ns)(g:IntsAre vs ms):ns=ms:=by
 induction h generalizing ms with
 |nil=>cases g;rfl
 |cons n t h ih=>cases g with|cons _ _ h'=>rw[ih h']
def IsPr.inj{h:Heap}{u:Value}{l m:List Int}(h1:IsPr h u l)(h2:IsPr h u m):l=m:=by
 obtain⟨a,b,n,t,c,ps,rfl,rfl,d,f,i1⟩:=h1;obtain⟨a',b',o,t',its',p,e,rfl,g,i,j⟩:=h2;cases e;have:=cu.IsTup.inj d g;cases this;have e2:=cu.IsTup.inj f i;have e3:c=its':=by simpa using e2
 subst e3;rw[IntsAre.inj i1 j]
end
def Out(ls:Ξ)(vs out:List Value):Prop:=∃ps:List (List Int×Value),ps.Perm (ls.zip vs)/\out=ps.map (·.2)/\ps.Pairwise fun(a b:List Int×Value)=>HT.lexLt b.1 a.1=false
section
variable{prog:Program}{w:World}{A:Around}{E:Ω}{s:Shared}{good:Heap->Prop}{us vs:List Value}{ls:Ξ}
def Ku(a:ls.length=vs.length)(b:us.length=vs.length)(h2:vs.length<2):Out ls vs ((us.toArray.zip vs.toArray).map (·.2)).toList:=by
 have e:((us.toArray.zip vs.toArray).map (·.2)).toList=vs:=by
  rw[Array.toList_map,show(us.toArray.zip vs.toArray).toList=us.zip vs by simp,List.map_snd_zip ω]
 rw[e];refine⟨ls.zip vs,List.Perm.refl _,by rw[List.map_snd_zip ω],?_⟩;have hz:(ls.zip vs).length<2:=by rw[List.length_zip];(first|lia|omega)
 match ls.zip vs,hz with
 |[],_=>exact List.Pairwise.nil
 |[x],_=>simp
 |_::_::_,h=>simp only[AI] at h;(first|lia|omega)
def Kv(B:By prog w A good us ls)(b:us.length=vs.length)(f:vs.length<64)(hg:good s.heap){P:PySem.Fin->Shared->Prop}{G:Unit×SortSt->Sem PySem.Fin}(h:∀ab,Out ls vs ((arrOf ab).map (·.2)).toList->(arrOf ab).size=vs.length->failedOf ab=none->wpAny (model prog w) A (G (PUnit.unit,ab)) P E s):wpAny (model prog w) A (if vs.toArray.size<2 then(pure general' >>= fun kind=>(if vs.toArray.size<2 then pure () else sortRuns').run (SortSt.mk' kind (us.toArray.zip vs.toArray) #[] 7 none) >>= G)
   else(keyKind' us.toArray >>= fun kind=>(if vs.toArray.size<2 then pure () else sortRuns').run (SortSt.mk' kind (us.toArray.zip vs.toArray) #[] 7 none) >>= G)) P E s:=by
 have a:(us.toArray.zip vs.toArray).size=vs.length:=by rw[Array.size_zip,Av,Av];(first|lia|omega)
 by_cases h2:vs.toArray.size<2
 ·rw[if_pos h2]
  refine Af (Ao ?_);rw[if_pos h2];rw[StateT.run_pure];refine Af (Ao ?_)
  try dsimp only
  rw[Av] at h2;exact h (SortSt.mk' general' (us.toArray.zip vs.toArray) #[] 7 none) (Ku (by rw[<-B.len];exact b) b h2) a rfl
 ·rw[if_neg h2,if_neg h2]
  rw[Av] at h2;obtain⟨κ,k1,k2⟩:=B.ask ω;refine Af (k1 s _ E hg ?_);refine Af (wpAny_mono (Kr (Q:=fun _ ab=>(arrOf ab).Perm (us.toArray.zip vs.toArray)/\failedOf ab=none/\Tim.cu (nq us ls) (arrOf ab) 0 vs.length) B b hg ω ω k2 fun ab a1 a2 a3=>⟨a1,a2,a3⟩) ?_ fun _ _ e=>e);rintro⟨⟨⟩,ab⟩ s' ⟨rfl,hp,c,d⟩
  try dsimp only
  exact h ab (by
   obtain⟨ps,a1,a2,a3⟩:=Ks B b hp d;exact⟨ps,a1,by rw[Array.toList_map];exact a2,a3⟩) (by rw[hp.size_eq];exact a) c
def Kw{a:Addr}{n:Nat}{P:PySem.Fin->Shared->Prop}(c:s.heap.get? a=some (seqObj "list" vs.toArray n))(B:By prog w A good vs ls)(hg:∀h',(∀b o,b≠a->s.heap.get? b=some o->h'.get? b=some o)->good h')(hz:vs.length<=sizeLine)(j:vs.length<64)(h:∀out:Array Value,Out ls vs out.toList->P (.done (.ret .none)) {s with heap:=sortedHeap s.heap a vs out}):wpAny (model prog w) A (Builtin.«list.sort» ⟨[.ref a],[]⟩) P E s:=by
 rw[list_sort_plain];have f:a<s⁻¹:=Aq c;refine Af (listItems_at c rfl ?_);refine Af (listUpdate_at c rfl ?_ (by rw[Av];exact hz) (Aw _));obtain⟨e1,d⟩:∃e1,(s.heap.update a (Obj.mapSeq fun _=>#[])).get? a=some (seqObj "list" #[] e1):=⟨_,get?_update_seq c (fun _=>#[])⟩;refine Af (seqEpoch_at d rfl ?_);refine Af (wpAny_newTuple ?_ (by show vs.length<=_;exact hz));refine Af (wpAny_newList ?_ (Aw _));refine wpAny_holding ?_;have g:(((s.heap.update a (Obj.mapSeq fun _=>#[])).push (seqObj "tuple" vs.toArray 0)).push (seqObj "list" #[] 0)).get? a=some (seqObj "list" #[] e1):=by
  rw[Heap.get?_push_ne _ _ _ (by rw[size_push',Heap.size_update];exact AB (Nat.lt_succ_of_lt f)),Heap.get?_push_ne _ _ _ (by rw[Heap.size_update];exact AB f)];exact d
 show wpAny (model prog w) A _ P E {s with heap:=((s.heap.update a (Obj.mapSeq fun _=>#[])).push (seqObj "tuple" vs.toArray 0)).push (seqObj "list" #[] 0)};dsimp only;refine Kv (s:={s with heap:=((s.heap.update a (Obj.mapSeq fun _=>#[])).push (seqObj "tuple" vs.toArray 0)).push (seqObj "list" #[] 0)}) B rfl j (hg _ fun b o hb e=>Ai _ (Ai _ (by rw[Heap.get?_update_ne _ _ _ _ hb];exact e))) fun ab c hsz i=>?_;dsimp only;refine Af (seqEpoch_at g rfl ?_);refine Af (listUpdate_at g rfl ?_ (Aw _) (Ae (Nat.le_of_eq ((Array.size_map ..).trans hsz)) (Nat.le_succ_of_le hz)));rw[i];simp only[bne_self_eq_false,Bool.false_eq_true,if_false];exact Ao (h _ c)
end
end cu
end
section
namespace L2
open PySem PySem.Spec PyProof.Rows
def gx(N N':List Str)(ah:List (Option Nat))(scope:Scope):Bool:=decide (ah.length=N'.length)&&(ah.zip N').all fun p=>match p.1 with
 |none=>true
 |some j=>decide (N[j]?=some p.2)&&decide (scope.names.lookup p.2=some .free)
def Da{N N':List Str}{ah:List (Option Nat)}{scope:Scope}(h:gx N N' ah scope=true):kQ N N' ah scope:=by
 unfold gx at h;rw[Bool.and_eq_true,decide_eq_true_eq,Bh] at h;refine⟨h.1,fun i j e=>?_⟩;have hi:i<ah.length:=(List.getElem?_eq_some_iff.mp e).1;have e2:N'[i]?=some N'[i]:=Ac (by rw[<-h.1];exact hi);have:=h.2 (some j,N'[i]) (List.mem_iff_getElem?.mpr ⟨i,by rw[cu.cY,e,e2];rfl⟩);simp only[Bool.and_eq_true,decide_eq_true_eq] at this;exact⟨N'[i],e2,this.1,this.2⟩
section
variable{X:Cx}{scope:Scope}{ah:List (Option Nat)}{tg iter aO:Expr}{aD:List Expr}{wi:TI}{g:TG}{tc:TT}{te:TE}{pos:Pos}
def zr(N N':List Str)(ah:List (Option Nat))(hi:PI X tg iter wi)(hg:∀a C s₀ H₀ ex,PG (dO X scope N' a C s₀ H₀ ex) tg g)(c:∀a C s₀ H₀ ex,fO (dO X scope N' a C s₀ H₀ ex) aD tc)(d:∀a C s₀ H₀ ex,PE (dO X scope N' a C s₀ H₀ ex) aO te)(hc:X.calm=true:=by rfl)(hk:scope.kind=.function:=by rfl)(e:∀y∈scope.names,y.2≠.cell:=by decide +kernel)(f:∀y∈scope.names,y.2=.free->scope.names.lookup y.1=some .free:=by decide +kernel)(h:∀y∈scope.names,y.2=.local->scope.names.lookup y.1=some .local:=by decide +kernel)(hfr:∀y∈scope.names,y.2=.free->X.env.kindOf y.1=some .cell\/X.env.kindOf y.1=some .free)(i:X.N=N:=by rfl)(b:gx N N' ah scope=true:=by decide +kernel)(j:∀x,foldedSetIterable iter X.env x=pure x:=by intro _;rfl):PE X (.ListComp aO [⟨tg,iter,aD,0⟩] scope pos) (gw wi ah g tc te):=
 J6 hc hk e f h hfr (Da (by rw[i];exact b)) hi hg c d j
end
def bE{env:Env}{scope:Scope}(h:scope.names.all (fun y=>decide (y.2≠.free))=true):∀y∈scope.names,y.2=.free->env.kindOf y.1=some .cell\/env.kindOf y.1=some .free:=fun y hy e=>
 absurd e (of_decide_eq_true (List.all_eq_true.mp h y hy))
def bB{env:Env}{scope:Scope}(sc:Scope)(h:scope.names.all (fun y=>decide (y.2≠.free)|| decide (sc.names.lookup y.1=some .cell)|| decide (sc.names.lookup y.1=some .free))=true)(a:env.scope=sc:=by rfl):∀y∈scope.names,y.2=.free->env.kindOf y.1=some .cell\/env.kindOf y.1=some .free:=fun y hy e=>by
 subst a;have:=List.all_eq_true.mp h y hy;simp only[Bool.or_eq_true,decide_eq_true_eq] at this;rcases this with (q|q)|q
 ·exact absurd e q
 ·exact .inl q
 ·exact .inr q
def ba(l:List Str)(h:l.Nodup:=by decide +kernel):l.Nodup:=h
def fB{te:TE}{σ:St}{H:Hp}{P:VK}{S:Hp->Prop}(h:te σ H P):bC σ H fun b a=>if b=true then te σ a P else S a:=by
 show if true=true then te σ H P else S H;rw[if_pos rfl];exact h
def cA{i:Nat}{v:V}{te:TE}{σ:St}{H:Hp}{P:St->VK}{S:St->Hp->Prop}(h:te (σ.set i (some v)) H (P (σ.set i (some v)))):zS i v σ H fun a d=>bC a d fun b c=>if b=true then te a c (P a) else S a c:=fB (S:=S (σ.set i (some v))) h
def zt{J:It}{g:TG}{tc:TT}{te:TE}{σ:St}{H1:Hp}{Q:VK}{D:Addr}(h:cz J g tc te σ H1 D Q):cz J g tc te σ H1 D Q:=h
end L2
end
section
namespace K28
open PySem L2
def top(i:Nat):Stmt:=PySem.Challenge.pw_seamwright_k28_whole_steps_stay.main.body.getD i (.Pass ⟨0,0,0,0⟩)
end K28
end
section
namespace L2
open PySem PySem.Spec PyProof.Rows
section
variable{X:Cx}{scope:Scope}{ah:List (Option Nat)}{tg iter aO:Expr}{aD:List Expr}{wi:TI}{g:TG}{tc:TT}{te:TE}{pos:Pos}
def Kx(N N':List Str)(ah:List (Option Nat))(hi:PI X tg iter wi)(hg:∀a C s₀ H₀ ex,PG (cxD X scope N' a C s₀ H₀ ex) tg g)(c:∀a C s₀ H₀ ex,fO (cxD X scope N' a C s₀ H₀ ex) aD tc)(d:∀a C s₀ H₀ ex,PE (cxD X scope N' a C s₀ H₀ ex) aO te)(hc:X.calm=true:=by rfl)(hk:scope.kind=.function:=by rfl)(e:∀y∈scope.names,y.2=.cell->scope.names.lookup y.1=some .cell:=by decide +kernel)(f:∀y∈scope.names,y.2=.free->scope.names.lookup y.1=some .free:=by decide +kernel)(h:∀y∈scope.names,y.2=.local->scope.names.lookup y.1=some .local:=by decide +kernel)(hfr:∀y∈scope.names,y.2=.free->X.env.kindOf y.1=some .cell\/X.env.kindOf y.1=some .free)(i:X.N=N:=by rfl)(b:gx N N' ah scope=true:=by decide +kernel)(j:∀x,foldedSetIterable iter X.env x=pure x:=by intro _;rfl):PE X (.ListComp aO [⟨tg,iter,aD,0⟩] scope pos) (gw wi ah g tc te):=
 Kh hc hk e f h hfr (Da (by rw[i];exact b)) hi hg c d j
end
def Ky{env env0:Env}{scope a:Scope}(c:env.scope=relabel a env0)(h:scope.names.all (fun y=>decide (y.2≠.free)|| decide (a.names.lookup y.1=some .cell)|| decide (a.names.lookup y.1=some .free))=true):∀y∈scope.names,y.2=.free->env.kindOf y.1=some .cell\/env.kindOf y.1=some .free:=by
 intro y hy e;have:=List.all_eq_true.mp h y hy;simp only[Bool.or_eq_true,decide_eq_true_eq] at this;have b:a.names.lookup y.1=some .free\/a.names.lookup y.1=some .cell:=by
  rcases this with (q|q)|q
  ·exact absurd e q
  ·exact .inr q
  ·exact .inl q
 have:=C3 (scope:=a) (env:=env0) b;unfold Env.kindOf;rw[c];rcases this with q|q
 ·exact .inr q
 ·exact .inl q
section
variable{X:Cx}{scope:Scope}{N':List Str}{ah:List (Option Nat)}{tg iter aO:Expr}{aD:List Expr}{wi:TI}{g:TG}{tc:TT}{te:TE}{pos:Pos}
def Kz{i:Nat}{x:Str}{aE E:Pos}(hc:X.calm=true)(hk:scope.kind=.function)(G:∀y∈scope.names,y.2=.cell->scope.names.lookup y.1=some .cell)(Q:∀y∈scope.names,y.2=.free->scope.names.lookup y.1=some .free)(S:∀y∈scope.names,y.2=.local->scope.names.lookup y.1=some .local)(hfr:∀y∈scope.names,y.2=.free->X.env.kindOf y.1=some .cell\/X.env.kindOf y.1=some .free)(j:kQ X.N N' ah scope)(hi:PI X tg iter wi)(hg:∀d C s₀ H₀ ex,PG (cxD X scope N' d C s₀ H₀ ex) tg g)(T:∀d C s₀ H₀ ex,fO (cxD X scope N' d C s₀ H₀ ex) aD tc)(U:∀d C s₀ H₀ ex,PE (cxD X scope N' d C s₀ H₀ ex) aO te)(W:∀x,foldedSetIterable iter X.env x=pure x)(Y:X.N.Nodup)(r:X.N[i]?=some x)(hx:Loc X.env.scope x)(Z:X.fn x=true\/X.env.scope.names.lookup x=some .local)(iq:swapsWith (.ListComp aO [⟨tg,iter,aD,0⟩] scope pos) (some (.Name x aE)) E.line X.env=pure true):PS X (.Assign [.Name x aE] (.ListComp aO [⟨tg,iter,aD,0⟩] scope pos) E) (ge (gw wi ah g tc te) (zS i)):=by
 intro aa s σ H D I h;rw[exec_Assign_Name_used _ _ _ _ iq];refine Af (wpAny_standAt (Af ?_));show wpAny _ X.A (do let _ <-comprehension (.ListComp aO [⟨tg,iter,aD,0⟩] scope pos) scope X.env _ (newList []) (firstAsync [⟨tg,iter,aD,0⟩]) (firstIter [⟨tg,iter,aD,0⟩] X.env) (some (assign (.Name x aE) X.env))) _ _ s;refine Af (wpAny_mono (C5 (use:=some (assign (.Name x aE) X.env)) (R:=fun _ s'=>SP X aa D .next s') hc hk G Q S hfr j hi hg T U W I h fun F C H' w f L q=>?_) (fun _ s' hq=>Ao (Ao hq)) fun _ _ e=>e);show wpAny _ X.A (assign (.Name x aE) X.env (.ref F)) _ _ w;refine wpAny_assign_Name (EE (v:=.ref F) (L.back w.heap (Heap.SameBut.refl _ _)) Y r hx rfl (fun J I5 ⟨a,p,M⟩=>?_) Z);have P:C≠a:=by
  rcases M with e|e
  ·rw[e];exact L.nl
  ·exact fun z=>L.nc x a e z.symm
 obtain⟨m,O⟩:=L.ns;refine⟨m,O.sameBut p P,fun h' l=>⟨_,H',?_,q⟩⟩;refine I5.call' (s':={J with heap:=h'}) (ch:=[C]) rfl ⟨fun b o q n hb hx=>?_,fun b o q n hb hx=>?_,fun b o q n hx=>n,fun b o q hx=>?_,fun b xs q=>q,fun b o u q=>q,fun b ps q=>⟨#[],by simpa using q⟩⟩ ?_ I5.bare fun b hb=>?_
 ·exact(l.2 b (by simpa using hx)).trans q
 ·exact⟨o.slots,(l.2 b (by simpa using hx)).trans q⟩
 ·exact⟨o,(l.2 b (by simpa using hx)).trans q⟩
 ·intro b u e
  refine(I5.hok b u e).stay (fun c v hc q=>(l.2 c ?_).trans q) (fun _ q=>q) fun _ _ q=>q;rintro rfl;rcases hc with z|z
  ·rw[<-z,L.no] at e;cases e
  ·rw[L.no] at z;cases z
 ·have e:b=C:=by simpa using hb
  subst e;exact⟨.inr L.far,L.nl,L.nc,L.np⟩
def KA{i:Nat}{x:Str}{aE f:Pos}(hc:X.calm=true)(hk:scope.kind=.function)(c:∀y∈scope.names,y.2≠.cell)(h:∀y∈scope.names,y.2=.free->scope.names.lookup y.1=some .free)(j:∀y∈scope.names,y.2=.local->scope.names.lookup y.1=some .local)(hfr:∀y∈scope.names,y.2=.free->X.env.kindOf y.1=some .cell\/X.env.kindOf y.1=some .free)(b:kQ X.N N' ah scope)(hi:PI X tg iter wi)(hg:∀a C s₀ H₀ ex,PG (dO X scope N' a C s₀ H₀ ex) tg g)(l:∀a C s₀ H₀ ex,fO (dO X scope N' a C s₀ H₀ ex) aD tc)(o:∀a C s₀ H₀ ex,PE (dO X scope N' a C s₀ H₀ ex) aO te)(p:∀x,foldedSetIterable iter X.env x=pure x)(q:X.N.Nodup)(d:X.N[i]?=some x)(hx:Loc X.env.scope x)(r:X.fn x=true\/X.env.scope.names.lookup x=some .local)(s:swapsWith (.ListComp aO [⟨tg,iter,aD,0⟩] scope pos) (some (.Name x aE)) f.line X.env=pure true):PS X (.Assign [.Name x aE] (.ListComp aO [⟨tg,iter,aD,0⟩] scope pos) f) (ge (gw wi ah g tc te) (zS i)):=
 Kz hc hk (fun y hy e=>absurd e (c y hy)) h j hfr b hi (fun a C s₀ H₀ ex=>nf (X:=X) (N':=N') c a C s₀ H₀ ex▸hg a C s₀ H₀ ex) (fun a C s₀ H₀ ex=>nf (X:=X) (N':=N') c a C s₀ H₀ ex▸l a C s₀ H₀ ex) (fun a C s₀ H₀ ex=>nf (X:=X) (N':=N') c a C s₀ H₀ ex▸o a C s₀ H₀ ex) p q d hx r s
end
section
variable{X:Cx}{scope:Scope}{ah:List (Option Nat)}{tg iter aO:Expr}{aD:List Expr}{wi:TI}{g:TG}{tc:TT}{te:TE}{pos:Pos}
def kS{i:Nat}{x:Str}{aE d:Pos}(e:X.N.Nodup)(c:X.N[i]?=some x)(hx:Loc X.env.scope x)(N N':List Str)(ah:List (Option Nat))(hi:PI X tg iter wi)(hg:∀a C s₀ H₀ ex,PG (dO X scope N' a C s₀ H₀ ex) tg g)(f:∀a C s₀ H₀ ex,fO (dO X scope N' a C s₀ H₀ ex) aD tc)(h:∀a C s₀ H₀ ex,PE (dO X scope N' a C s₀ H₀ ex) aO te)(hc:X.calm=true:=by rfl)(hk:scope.kind=.function:=by rfl)(j:∀y∈scope.names,y.2≠.cell:=by decide +kernel)(l:∀y∈scope.names,y.2=.free->scope.names.lookup y.1=some .free:=by decide +kernel)(o:∀y∈scope.names,y.2=.local->scope.names.lookup y.1=some .local:=by decide +kernel)(hfr:∀y∈scope.names,y.2=.free->X.env.kindOf y.1=some .cell\/X.env.kindOf y.1=some .free)(p:X.N=N:=by rfl)(b:gx N N' ah scope=true:=by decide +kernel)(q:∀x,foldedSetIterable iter X.env x=pure x:=by intro _;rfl)(r:X.fn x=true\/X.env.scope.names.lookup x=some .local:=by first|exact .inl rfl|exact .inr rfl|assumption)(s:swapsWith (.ListComp aO [⟨tg,iter,aD,0⟩] scope pos) (some (.Name x aE)) d.line X.env=pure true:=by rfl):PS X (.Assign [.Name x aE] (.ListComp aO [⟨tg,iter,aD,0⟩] scope pos) d) (ge (gw wi ah g tc te) (zS i)):=
 KA hc hk j l o hfr (Da (by rw[p];exact b)) hi hg f h q e c hx r s
end
end L2
end
section
namespace K28
open PySem L2
abbrev qH:Stmt:=top 7
abbrev kT:Stmt:=top 8
abbrev qO:Stmt:=top 9
def dF:Bk "len"=some (.builtin "len"):=δ
def qS:Bk "all"=some (.builtin "all"):=δ
abbrev Rws(H:Hp)(rs:List Addr)(tb:Ξ):Prop:=Paired (fun a ns=>H a=some (.lst (ns.map V.int))) rs tb
def wid(tb:Ξ):Nat:=(tb[0]?.map List.length).getD 0
def b5(tb:Ξ):Bool:=decide (tb.length<=40)&&decide (wid tb<=40)&&tb.all fun r=>decide (r.length=wid tb)
def Rws.same{H H2:Hp}{rs:List Addr}{tb:Ξ}(h:Rws H rs tb)(s:Same H H2):Rws H2 rs tb:=Paired.mapP h fun _ _ e=>s _ _ e
def Rws.len{H:Hp}{rs:List Addr}{tb:Ξ}(h:Rws H rs tb):rs.length=tb.length:=by
 induction h with
 |nil=>rfl
 |cons _ _ ih=>rw[AI,AI,ih]
def Rws.get{H:Hp}{rs:List Addr}{tb:Ξ}(h:Rws H rs tb):∀{j:Nat}{a:Addr},rs[j]?=some a->∃ns,tb[j]?=some ns/\H a=some (.lst (ns.map V.int)):=by
 induction h with
 |nil=>intro j a e;simp at e
 |cons r t ih=>
  intro j a e;cases j with
  |zero=>simp at e;subst e;exact⟨_,rfl,r⟩
  |succ j=>simpa using ih (by simpa using e)
def zx{n:Nat}(h:n<=100000):n<=sizeLine:=by rw[sizeLine_eq];(first|lia|omega)
def take_snoc{a:Type}{l:List a}{i:Nat}{x:a}(h:l[i]?=some x):l.take (i+1)=l.take i++[x]:=by rw[List.take_add_one,h];rfl
abbrev Db(K:Ah):List V->Hp->VK->Prop:=fun xs H Q=>∃p ys,xs=[.ref p]/\(SqL K H p ys\/SqT K H p ys)/\Q (.int ys.length) H
def jT{b:List Addr}{i:Nat}{x:V}(h:(b.map V.ref)[i]?=some x):∃a,b[i]?=some a/\x=.ref a:=by
 rw[Aj] at h;cases e:b[i]? with
 |none=>rw[e] at h;cases h
 |some a=>rw[e] at h;cases h;exact⟨a,rfl,rfl⟩
section
variable{P:Program}{w:World}{K:Ah}{mg:Str->Option Value}{base:Heap}
def Dc{H2:Hp}{L D:Addr}{rs:List Addr}{tb:Ξ}{Q:VK}{f:Type}{mkV:f->V}{g:List Int->f}{te:TE}{c:List (Option V)}(u:∀(o:Addr)(os:List Int)(H:Hp)(R:VK),Same H2 H->H o=some (.lst (os.map V.int))->os∈tb->(∀H',Same H H'->R (mkV (g os)) H')->te (some (.ref o)::c) H R)(w:SqL K H2 L (rs.map V.ref))(h:Rws H2 rs tb)(hz:tb.length<=1000)(i:H2 D=none)(k:∀b,Same H2 b->b D=some (.lst ((tb.map g).map mkV))->Q (.ref D) b):cz (eO K L) (zS 0) bC te (none::c) H2 D Q:=by
 have r:=h.len;refine jS (xs:=rs.map V.ref) (fun j σ ys b=>∃(v:Option V),σ=v::c/\Same H2 b/\b D=some (.lst ys)/\ys=((tb.take j).map g).map mkV) ?_ ?_ ?_ ?_
 ·exact⟨none,rfl,Same.new i,zb,rfl⟩
 ·rintro j σ ys b ⟨v,rfl,sm,a,rfl⟩
  exact sm.seq w
 ·rintro j σ ys b x hx l hy ⟨v,rfl,sm,a,rfl⟩
  obtain⟨o,p,rfl⟩:=jT hx;obtain⟨os,e,q⟩:=h.get p;have s:(rs.map V.ref).length<=sizeLine:=by rw[Aa];exact zx (by lia)
  refine cA ?_;refine u o os b _ sm (sm _ _ q) (Al e) fun y d=>bI s l hy (d _ _ a) ⟨_,rfl,(sm.trans d).then i,zb,?_⟩;rw[take_snoc e,Ap,Ap]
  rfl
 ·rintro σ ys b ⟨v,rfl,sm,a,rfl⟩
  rw[Aa,r,Ar (Ad _)] at a;exact k b sm a
def nv(K:Ah):Sp:=fun vs H Q _=>∃L rs tb,vs=[.ref L]/\SqL K H L (rs.map V.ref)/\Rws H rs tb/\Q (.int (wid tb)) H
def KB:zo ["table"] ["table"] (zf kT):=⟨rfl,rfl,rfl,δ,rfl,δ,δ⟩
def Dd{f:Addr}{fd:FuncData}(F:Fun K "width_of" "width_of" kT f fd)(bl:mg "len"=none):am P w K mg base ar 1 f fd ["table"] (nv K):=by
 refine F.ok KB (fun vs H Q E h=>?_) (fun l A outer s H vs Q E hr h=>?_)
 ·obtain⟨L,rs,tb,rfl,_⟩:=h;rfl
 ·obtain⟨L,rs,tb,rfl,c,d,k⟩:=h
  refine⟨_,zh (zB (wl (zA jI (zv zn rfl bl dF (za (pv 0) zc)) ze (ao _)) (zv zn rfl bl dF (za (zw zq (pv 0) ze (fun _ _=>rfl)) zc)) ze)),?_⟩;refine⟨_,rfl,L,_,rfl,.inl c,_,_,rfl,rfl,_,rfl,?_⟩;have i:=d.len;refine dw (fun h1=>?_) (fun h1=>?_)
  ·cases rs with
   |nil=>have:=of_decide_eq_true h1;simp at this
   |cons a r=>
    obtain⟨ns,e,g⟩:=d.get (j:=0) rfl;refine⟨_,rfl,L,_,_,_,rfl,rfl,c,zj (j:=0) rfl,a,_,rfl,.inl (SqL.of g),?_⟩;have:wid tb=ns.length:=by unfold wid;rw[e];rfl
    rw[this] at k;rw[Aa];exact k
  ·cases rs with
   |cons a r=>have:=of_decide_eq_false (Bool.eq_false_iff.mpr h1);simp at this
   |nil=>
    cases tb with
    |nil=>exact k
    |cons a b=>cases i
def FM(K:Ah):Sp:=fun vs H Q _=>∃L rs tb,vs=[.ref L]/\SqL K H L (rs.map V.ref)/\Rws H rs tb/\tb.length<=1000/\∀H',Same H H'->Q (.bl (b5 tb)) H'
def KC:zo ["table"] ["table"] (zf qH):=⟨rfl,rfl,rfl,δ,rfl,δ,δ⟩
abbrev De(K:Ah):TE:=bT EO (m_ (Db K) (cy (ap 0) ca)) (hV (nv K) [] E0 (cy (ap 1) ca))
def KD{f d:Addr}{fd j:FuncData}(F:Fun K "is_table" "is_table" qH f fd)(bl:mg "len"=none)(J:mg "all"=none){tr tc:Tok}(M:mg "MOST_ROWS"=some (.int 40 tr))(N:mg "MOST_COLUMNS"=some (.int 40 tc))(Fw:Fun K "width_of" "width_of" kT d j)(p:Binds K j ["table"] [])(q:mg "width_of"=some (.ref d)):am P w K mg base ar 2 f fd ["table"] (FM K):=by
 have u:am P w K mg base ar 1 d j ["table"] (nv K):=Dd Fw bl;refine F.ok KC (fun vs H Q E h=>?_) (fun S A outer s H vs Q E hr h=>?_)
 ·obtain⟨L,rs,tb,rfl,_⟩:=h;rfl
 ·obtain⟨L,rs,tb,rfl,a,b,hz,k⟩:=h
  refine⟨_,zd (c3 (PW.pt (Ct (zA jI (zv zn rfl bl dF (za (pv 0) zc)) (Cq (v:=.int 40) rfl M ⟨_,rfl⟩) (ao _))
    (Cs (zA jI (zg u hr rfl q Fw.kp p .nil af (za (pv 0) zc)) (Cq (v:=.int 40) rfl N ⟨_,rfl⟩) (ao _))))) (zh (zB mQ)) zT)
   (zh (zB (zv (p_ rfl) rfl J qS (za (zr ["table"] ["row","table"] [none,some 0] (zG (pv 0)) (fun l C s₀ H₀ ex=>zl (i:=0) (ba ["row","table"]) rfl (Or.inl rfl)) (fun l C s₀ H₀ ex=>zu)
    (fun l C s₀ H₀ ex=>m5 gs (zv zn rfl bl dF (za (pv 0) zc)) (zg u hr rfl q Fw.kp p .nil af (za (pv 1) zc)) (ao _)) (te:=De K) (hfr:=bB (zf qH) δ)) zc)))),?_⟩
  have I:=b.len;refine⟨_,rfl,L,_,rfl,.inl a,_,_,rfl,rfl,_,rfl,?_⟩;rw[Aa,I]
  by_cases c1:40<tb.length
  ·rw[decide_eq_true (show(40:Int)<(tb.length:Int) from ω)]
   refine aW (aW ?_);have:b5 tb=false:=by unfold b5;rw[decide_eq_false ω];rfl
   rw[this] at k;exact k H (Same.refl H)
  rw[decide_eq_false (show ¬(40:Int)<(tb.length:Int) from ω)];refine aQ ⟨_,rfl,L,rs,tb,rfl,a,b,_,_,rfl,rfl,_,rfl,?_⟩
  by_cases T:40<wid tb
  ·rw[decide_eq_true (show(40:Int)<(wid tb:Int) from ω)]
   refine aW ?_;have:b5 tb=false:=by unfold b5;rw[decide_eq_false (show ¬wid tb<=40 from ω),Bool.and_false];rfl
   rw[this] at k;exact k H (Same.refl H)
  rw[decide_eq_false (show ¬(40:Int)<(wid tb:Int) from ω)];refine aQ ⟨_,rfl,L,rfl,⟨_,a⟩,fun D x=>?_⟩;refine zt (Dc (mkV:=V.bl) (g:=fun r=>decide (r.length=wid tb)) (fun o os H' R sm y _ z=>?_) a b hz x fun O G c=>?_)
  ·refine⟨_,rfl,o,_,rfl,.inl (SqL.of y),_,rfl,L,rs,tb,rfl,sm.seq a,b.same sm,rfl,?_⟩
   rw[Aa];have:=z H' (Same.refl H');rw[show decide (V.int (os.length:Int)=V.int (wid tb:Int))=decide (os.length=wid tb) from by rw[Bool.eq_iff_iff];simp;(first|lia|omega)];exact this
  ·refine⟨D,_,rfl,SqL.of c,?_⟩
   have e:b5 tb=(tb.map fun r=>decide (r.length=wid tb)).all id:=by
    unfold b5;rw[decide_eq_true (show tb.length<=40 from ω),decide_eq_true (show wid tb<=40 from ω),List.all_map];rfl
   rw[e] at k;exact k O G
end
abbrev q_:Stmt:=top 10
abbrev nD:Stmt:=top 11
abbrev gz:Stmt:=top 12
section
variable{P:Program}{w:World}{K:Ah}{mg:Str->Option Value}{base:Heap}
def KF:zo ["table"] ["table"] (zf qO):=⟨rfl,rfl,rfl,δ,rfl,δ,δ⟩
end
def Rws.upd{H:Hp}{ds:List Addr}{tb:Ξ}{D:Addr}{o:HO}(h:Rws H ds tb):(∀d∈ds,d≠D)->Rws (upd H D o) ds tb:=by
 induction h with
 |nil=>intro _;exact .nil
 |cons r t ih=>intro n;exact .cons (by rw[ag (n _ (AC))];exact r) (ih fun d hd=>n d (AG _ hd))
def Rws.snoc{H:Hp}{ds:List Addr}{tb:Ξ}{d:Addr}{ns:List Int}(h:Rws H ds tb)(e:H d=some (.lst (ns.map V.int))):Rws H (ds++[d]) (tb++[ns]):=by
 induction h with
 |nil=>exact .cons e .nil
 |cons r t ih=>exact .cons r ih
def Rws.there{H:Hp}{ds:List Addr}{tb:Ξ}(h:Rws H ds tb):∀d∈ds,H d≠none:=by
 induction h with
 |nil=>intro d hd;cases hd
 |cons r t ih=>
  intro d hd;rcases List.mem_cons.mp hd with rfl|hd
  ·rw[r];simp
  ·exact ih d hd
section
variable{P:Program}{w:World}{K:Ah}{mg:Str->Option Value}{base:Heap}
def Dh{H2 c p:Hp}{D d:Addr}{ds:List Addr}{l:Ξ}{ns:List Int}(sm:Same H2 c)(hr:Rws c ds l)(s:ds.Nodup)(u:∀e∈ds,H2 e=none/\e≠D)(v:Same c p)(hd:c d=none)(j:c D≠none)(w:p d=some (.lst (ns.map V.int))){o:HO}:Rws (L2.upd p D o) (ds++[d]) (l++[ns])/\(ds++[d]).Nodup/\∀e∈ds++[d],H2 e=none/\e≠D:=by
 have g:H2 d=none:=by
  cases q:H2 d with
  |none=>rfl
  |some o=>rw[sm _ _ q] at hd;cases hd
 have i:d≠D:=fun z=>j (z▸hd);have all:∀e∈ds++[d],H2 e=none/\e≠D:=fun e f=>by
  rcases List.mem_append.mp f with h|h
  ·exact u e h
  ·obtain rfl:e=d:=by simpa using h
   exact⟨g,i⟩
 refine⟨((hr.same v).snoc w).upd fun e f=>(all e f).2,?_,all⟩;rw[List.nodup_append];refine⟨s,by simp,fun a r b hb=>?_⟩;obtain rfl:b=d:=by simpa using hb
 intro z;exact hr.there a r (z▸hd)
def k4{H2:Hp}{L D:Addr}{rs:List Addr}{tb:Ξ}{Q:VK}{g:List Int->List Int}{te:TE}{c:List (Option V)}(A:∀(o:Addr)(os:List Int)(H:Hp)(R:VK),Same H2 H->H o=some (.lst (os.map V.int))->os∈tb->(∀d H',Same H H'->H d=none->H' d=some (.lst ((g os).map V.int))->R (.ref d) H')->te (some (.ref o)::c) H R)(C:SqL K H2 L (rs.map V.ref))(l:Rws H2 rs tb)(hz:tb.length<=1000)(p:H2 D=none)(k:∀a ds,Same H2 a->a D=some (.lst (ds.map V.ref))->Rws a ds (tb.map g)->ds.Nodup->(∀d∈ds,H2 d=none/\d≠D)->Q (.ref D) a):cz (eO K L) (zS 0) bC te (none::c) H2 D Q:=by
 have y:=l.len;refine jS (xs:=rs.map V.ref) (fun j σ ys a=>∃(v:Option V)(ds:List Addr),σ=v::c/\Same H2 a/\a D=some (.lst ys)/\ys=ds.map V.ref/\Rws a ds ((tb.take j).map g)/\ds.Nodup/\∀d∈ds,H2 d=none/\d≠D) ?_ ?_ ?_ ?_
 ·exact⟨none,[],rfl,Same.new p,zb,rfl,.nil,.nil,fun d hd=>by cases hd⟩
 ·rintro j σ ys a ⟨v,ds,rfl,sm,_⟩
  exact sm.seq C
 ·rintro j σ ys a x hx r hy ⟨v,ds,rfl,sm,b,rfl,hr,f,h⟩
  obtain⟨o,s,rfl⟩:=jT hx;obtain⟨os,i,u⟩:=l.get s;have z:(rs.map V.ref).length<=sizeLine:=by rw[Aa];exact zx ω
  refine cA ?_;refine A o os a _ sm (sm _ _ u) (Al i) fun d E e hd q=>?_;obtain⟨r1,r2,w⟩:=Dh (D:=D) (o:=.lst (ds.map V.ref++[.ref d])) sm hr f h e hd (by rw[b];simp) q;refine bI z r hy (e _ _ b) ⟨_,ds++[d],rfl,(sm.trans e).then p,zb,by simp,?_,r2,w⟩;rw[take_snoc i,Ap];exact r1
 ·rintro σ ys a ⟨v,ds,rfl,sm,b,rfl,hr,f,h⟩
  rw[Aa,y,Ar (Ad _)] at hr;exact k a ds sm b hr f h
def Di{H2:Hp}{D:Addr}{n:Nat}{Q:VK}{g:Nat->List Int}{te:TE}{c:List (Option V)}(s:∀(j:Nat)(H:Hp)(R:VK),j<n->Same H2 H->(∀d H',Same H H'->H d=none->H' d=some (.lst ((g j).map V.int))->R (.ref d) H')->te (some (.int j)::c) H R)(hz:n<=1000)(p:H2 D=none)(k:∀a ds,Same H2 a->a D=some (.lst (ds.map V.ref))->Rws a ds ((Ag n).map g)->ds.Nodup->(∀d∈ds,H2 d=none/\d≠D)->Q (.ref D) a):cz (fK 0 n) (zS 0) bC te (none::c) H2 D Q:=by
 refine qb (fun j σ ys a=>∃(v:Option V)(ds:List Addr),σ=v::c/\Same H2 a/\a D=some (.lst ys)/\ys=ds.map V.ref/\Rws a ds (((Ag n).take j).map g)/\ds.Nodup/\∀d∈ds,H2 d=none/\d≠D) ?_ ?_ ?_
 ·exact⟨none,[],rfl,Same.new p,zb,rfl,.nil,.nil,fun d hd=>by cases hd⟩
 ·rintro j σ ys a h hy ⟨v,ds,rfl,sm,b,rfl,hr,i,l⟩
  have e:(Ag n)[j]?=some j:=AR h;refine cA ?_;rw[show(0:Int)+((j:Nat):Int)=((j:Nat):Int) from ω];refine s j a _ h sm fun d u f hd q=>?_;obtain⟨r1,r2,r⟩:=Dh (D:=D) (o:=.lst (ds.map V.ref++[.ref d])) sm hr i l f hd (by rw[b];simp) q;refine bI (zx ω) h hy (f _ _ b) ⟨_,ds++[d],rfl,(sm.trans f).then p,zb,by simp,?_,r2,r⟩;rw[take_snoc e,Ap];exact r1
 ·rintro σ ys a ⟨v,ds,rfl,sm,b,rfl,hr,i,l⟩
  rw[Ar (by simp)] at hr;exact k a ds sm b hr i l
def colAt(tb:Ξ)(k:Nat):List Int:=tb.map fun r=>r.getD k 0
def Dl(K:Ah):Sp:=fun vs H Q _=>∃L rs tb,∃k:Nat,vs=[.ref L,.int k]/\SqL K H L (rs.map V.ref)/\Rws H rs tb/\tb.length<=1000/\(∀r∈tb,k<r.length)/\∀D H',Same H H'->H D=none->H' D=some (.lst ((colAt tb k).map V.int))->Q (.ref D) H'
def KG:zo ["table","k"] ["table","k"] (zf gz):=⟨rfl,rfl,rfl,δ,rfl,δ,δ⟩
def KH{f:Addr}{fd:FuncData}(F:Fun K "column_of" "column_of" gz f fd):am P w K mg base ar 1 f fd ["table","k"] (Dl K):=by
 refine F.ok KG (fun vs H Q E h=>?_) (fun z A outer s H vs Q E hr h=>?_)
 ·obtain⟨L,rs,tb,i,rfl,_⟩:=h;rfl
 ·obtain⟨L,rs,tb,i,rfl,e,x,hz,hi,k⟩:=h
  refine⟨_,zh (zB (zr ["table","k"] ["row","k"] [none,some 1] (zG (pv 0)) (fun c C s₀ H₀ ex=>zl (i:=0) (ba ["row","k"]) rfl (Or.inl rfl)) (fun c C s₀ H₀ ex=>zu)
   (fun c C s₀ H₀ ex=>zw zq (pv 0) (pv 1) (fun _ _=>rfl)) (te:=bT (e8 K) (ap 0) (ap 1)) (hfr:=bB (zf gz) δ))),?_⟩
  refine⟨_,rfl,L,rfl,⟨_,e⟩,fun D d=>?_⟩;refine zt (Dc (mkV:=V.int) (g:=fun r=>r.getD i 0) (fun o os H' R sm l p q=>?_) e x hz d fun y u b=>k D y u d b);have a:=hi os p;refine⟨_,rfl,_,rfl,o,_,_,_,rfl,rfl,SqL.of l,zj (j:=i) (v:=V.int (os.getD i 0)) ?_,q H' (Same.refl H')⟩;rw[Aj,Ac a,Ab,Ac a]
  rfl
end
def turn(tb:Ξ):Ξ:=(Ag (wid tb)).map (colAt tb)
def fU{tb:Ξ}(h:b5 tb=true):tb.length<=40/\wid tb<=40/\∀r∈tb,r.length=wid tb:=by
 unfold b5 at h;simp only[Bool.and_eq_true,decide_eq_true_eq,Bh] at h;exact⟨h.1.1,h.1.2,h.2⟩
section
variable{P:Program}{w:World}{K:Ah}{mg:Str->Option Value}{base:Heap}
def ri(H:Hp)(Q:VK)(tb:Ξ):Prop:=∀D H' ds,Same H H'->H D=none->H' D=some (.lst (ds.map V.ref))->Rws H' ds tb->ds.Nodup->(∀d∈ds,H d=none/\d≠D)->Q (.ref D) H'
def Dm(K:Ah):Sp:=fun vs H Q _=>∃L rs tb,∃n:Nat,vs=[.ref L,.int n]/\SqL K H L (rs.map V.ref)/\Rws H rs tb/\tb.length<=1000/\n<=1000/\(∀r∈tb,n<=r.length)/\ri H Q ((Ag n).map (colAt tb))
def KI:zo ["table","width"] ["table","width"] (zf nD):=⟨rfl,rfl,rfl,δ,rfl,δ,δ⟩
def KJ{f c:Addr}{fd e:FuncData}(F:Fun K "columns_to" "columns_to" nD f fd)(M:mg "range"=none)(Fc:Fun K "column_of" "column_of" gz c e)(N:Binds K e ["table","k"] [])(O:mg "column_of"=some (.ref c)):am P w K mg base ar 2 f fd ["table","width"] (Dm K):=by
 have U:am P w K mg base ar 1 c e ["table","k"] (Dl K):=KH Fc;refine F.ok KI (fun vs H Q E h=>?_) (fun W A outer s H vs Q E hr h=>?_)
 ·obtain⟨L,rs,tb,n,rfl,_⟩:=h;rfl
 ·obtain⟨L,rs,tb,n,rfl,G,I,hz,p,J,k⟩:=h
  refine⟨_,zh (zB (zr ["table","width"] ["k","table"] [none,some 0] (iA rfl M (za (pv 1) zc)) (fun l C s₀ H₀ ex=>zl (i:=0) (ba ["k","table"]) rfl (Or.inl rfl)) (fun l C s₀ H₀ ex=>zu)
   (fun l C s₀ H₀ ex=>zg U hr rfl O Fc.kp N .nil af (za (pv 1) (za (pv 0) zc))) (te:=hV (Dl K) [] E0 (cy (ap 1) (cy (ap 0) ca))) (hfr:=bB (zf nD) δ))),?_⟩
  refine⟨_,rfl,_,rfl,ω,ω,fun D o=>?_⟩;refine Di (n:=n) (g:=colAt tb) (fun j H' R q sm u=>⟨_,rfl,_,rfl,L,rs,tb,j,rfl,sm.seq G,I.same sm,ω,fun r hr=>At q (J r hr),fun d S v hd x=>u d S v hd x⟩) ω o fun T ds y a b z p=>k D T ds y o a b z p
def Dn(K:Ah):Sp:=fun vs H Q _=>∃L rs tb,vs=[.ref L]/\SqL K H L (rs.map V.ref)/\Rws H rs tb/\b5 tb=true/\ri H Q (turn tb)
def KL:zo ["table"] ["table"] (zf q_):=⟨rfl,rfl,rfl,δ,rfl,δ,δ⟩
def KM{f b c:Addr}{fd d e:FuncData}(F:Fun K "columns_of" "columns_of" q_ f fd)(bl:mg "len"=none)(Fc:Fun K "columns_to" "columns_to" nD b d)(o:Binds K d ["table","width"] [])(p:mg "columns_to"=some (.ref b))(x:am P w K mg base ar 2 b d ["table","width"] (Dm K))(Fw:Fun K "width_of" "width_of" kT c e)(q:Binds K e ["table"] [])(u:mg "width_of"=some (.ref c)):am P w K mg base ar 3 f fd ["table"] (Dn K):=by
 have v:am P w K mg base ar 1 c e ["table"] (nv K):=Dd Fw bl;refine F.ok KL (fun vs H Q E h=>?_) (fun y A outer s H vs Q E hr h=>?_)
 ·obtain⟨L,rs,tb,rfl,_⟩:=h;rfl
 ·obtain⟨L,rs,tb,rfl,g,i,j,k⟩:=h
  obtain⟨z,C,l⟩:=fU j;have a:Room 1 _:=hr.mono ξ;refine⟨_,zh (zB (zg x hr rfl p Fc.kp o .nil af (za (pv 0) (za (zg v a rfl u Fw.kp q .nil af (za (pv 0) zc)) zc)))),?_⟩;exact⟨_,rfl,_,rfl,L,rs,tb,rfl,g,i,L,rs,tb,wid tb,rfl,g,i,ω,ω,fun r hr=>by rw[l r hr];exact Ad _,k⟩
end
end K28
end
section
namespace L2
open PySem PySem.Spec PyProof.Rows
def dz(K:Ah)(a b:Addr):It:=
 ⟨fun i H=>∃xs ys,SqL K H a xs/\SqL K H b ys/\i<min xs.length ys.length,
  fun i H v H'=>∃p x y,v=.ref p/\H p=none/\H'=upd H p (.tup [x,y])/\(∀xs,SqL K H a xs->xs[i]?=some x)/\∀ys,SqL K H b ys->ys[i]?=some y,
  fun i H=>∃xs ys,SqL K H a xs/\SqL K H b ys/\i=min xs.length ys.length⟩
def KN{P:Program}{w:World}{K:Ah}{aM:List Expr}{k:Nat}{pos:Pos}(C D z TI TO i1 i2:Addr)(hd:TI≠z/\TO≠z/\TI≠TO/\TI≠i1/\TI≠i2/\z≠i1/\z≠i2/\TO≠i1/\TO≠i2/\i1≠i2):Turn P w K (.Tuple aM k pos) (dz K C D) [z,TI,TO,i1,i2] z (fun i h=>IsZip h z TI TO .none/\IsPair h TI (.ref i1) (.ref i2)/\(∃a b,IsPair h TO a b)/\h.IsListIter i1 C i/\h.IsListIter i2 D i):=by
 obtain⟨d1,d2,d3,d4,d5,d6,d7,d8,d9,O⟩:=hd;refine C7 (wr:=[z,TO,i1,i2]) (by simp) (fun i h st b hb=>?_) (fun i h h' st c=>?_) (fun b hb=>?_) (fun X hP hw hK hc i aa s σ H I N st iQ=>?_) fun A i s Q E st h=>wpAny_pyIter_zip st.1 h
 ·obtain⟨a1,a2,⟨a,b',a3⟩,⟨o4,a4,_,F⟩,⟨o5,a5,_,e5⟩⟩:=st
  simp at hb;rcases hb with rfl|rfl|rfl|rfl|rfl
  ·exact⟨_,a1,fun v z=>by cases z⟩
  ·exact⟨_,a2,fun v z=>by cases z⟩
  ·exact⟨_,a3,fun v z=>by cases z⟩
  ·exact⟨_,a4,fun v z=>by rw[F] at z;cases z⟩
  ·exact⟨_,a5,fun v z=>by rw[e5] at z;cases z⟩
 ·obtain⟨a1,a2,⟨a,b',a3⟩,a4,a5⟩:=st
  exact⟨c z (by simp) _ a1,c TI (by simp) _ a2,⟨a,b',c TO (by simp) _ a3⟩,a4.at fun o e=>c i1 (by simp) o e,a5.at fun o e=>c i2 (by simp) o e⟩
 ·simp at hb ⊢
  rcases hb with rfl|rfl|rfl|rfl<;>simp
 ·subst hP hw hK
  have hd:∃xs ys,SqL X.K H C xs/\SqL X.K H D ys:=by
   rcases iQ with ⟨xs,ys,a,b,_⟩|⟨xs,ys,a,b,_⟩
   ·exact⟨xs,ys,a,b⟩
   ·exact⟨xs,ys,a,b⟩
  obtain⟨xs,ys,d,l⟩:=hd;obtain⟨us,r1,p1,_⟩:=I.list d;obtain⟨S,r2,p2,_⟩:=I.list l;have T:=r1.length;have U:=r2.length;have W:=I.ok.hd hc;obtain⟨a1,a2,a3,a4,a5⟩:=st;have f:=fun b hb=>C6 I (N b hb) d;have G:=fun b hb=>C6 I (N b hb) l;have AP:Zp.Apart z TI TO i1 i2 [i1,C] [i2,D]:=by
   refine⟨?_,?_,?_,?_,by simp,by simp,?_,?_,d1,d2,d3,d4,d5⟩
   ·simp;exact⟨d6,(f z (by simp)).symm⟩
   ·simp;exact⟨d7,(G z (by simp)).symm⟩
   ·simp;exact⟨d8,(f TO (by simp)).symm⟩
   ·simp;exact⟨d9,(G TO (by simp)).symm⟩
   ·simp;exact⟨O,(G i1 (by simp)).symm⟩
   ·simp;exact⟨O.symm,(f i2 (by simp)).symm⟩
  have WZ:=Zp.Fx (prog:=X.prog) (w:=X.w) (A:=X.A) (Draws.list (A:=X.A.in1) W i1 C (f i1 (by simp)) us.toArray) (Draws.list (A:=X.A.in1) W i2 D (G i2 (by simp)) S.toArray) AP;refine⟨_,_,_,_,_,WZ,⟨a1,a2,a3,⟨a4,p1.isList⟩,⟨a5,p2.isList⟩⟩,fun j h st=>⟨st.1,st.2.1,st.2.2.1,st.2.2.2.1.1,st.2.2.2.2.1⟩,fun g=>?_,fun g=>?_⟩
  ·obtain⟨q,r,J,L,hi⟩:=g
   have e1:=I.list_inj J d;have e2:=I.list_inj L l;subst e1 e2;refine⟨by simpa[<-T,<-U] using hi,fun aI hp=>?_⟩;obtain⟨x,y,px,py,rfl⟩:=hp;have iG:us[i]?=some x:=by simpa using px
   have M:S[i]?=some y:=by simpa using py
   have lx:i<q.length:=by lia
   have ly:i<r.length:=by lia
   have Y:q[i]?=some q[i]:=by simp[lx]
   have Z:r[i]?=some r[i]:=by simp[ly]
   obtain⟨u,e3,ru⟩:=r1.get Y;obtain⟨u',F,eI⟩:=r2.get Z;rw[iG] at e3;cases e3;rw[M] at F;cases F;refine⟨[q[i],r[i]],.cons ru (.cons eI .nil),cV,fun p hp=>⟨p,_,_,rfl,hp,rfl,fun zs hz=>?_,fun zs hz=>?_⟩⟩
   ·rw[I.list_inj hz d];exact Y
   ·rw[I.list_inj hz l];exact Z
  ·obtain⟨q,r,J,L,hi⟩:=g
   have e1:=I.list_inj J d;have e2:=I.list_inj L l;subst e1 e2
   simpa[<-T,<-U] using hi
def KO(b e:Addr)(xs ys:Array Value):Meets (Builtin.«zip.__new__» ⟨[.type "zip",.ref b,.ref e],[]⟩) (fun _ R s=>s.heap.IsList b xs/\s.heap.IsList e ys/\
   ∀h',IsZip h' (s⁻¹+4) (s⁻¹+2) (s⁻¹+3) .none->IsPair h' (s⁻¹+2) (.ref s⁻¹) (.ref (s⁻¹+1))->
   IsPair h' (s⁻¹+3) .none .none->h'.IsListIter s⁻¹ b 0->h'.IsListIter (s⁻¹+1) e 0->
   (∀c o,s.heap.get? c=some o->h'.get? c=some o)->R (.ok (.ret (.ref (s⁻¹+4)))) {s with heap:=h'}):=
 .of_wp fun prog w A R s h=>by
  obtain⟨hp,g,d,tk,os⟩:=s;obtain⟨f,i,h⟩:=h;have p:=sub_zip;have j:Heap.IsList (Shared.heap ⟨hp,g,d,tk,os⟩) b xs:=f;have l:Heap.IsList (Shared.heap ⟨hp.push {cls:=.type "list_iterator",data:=.fields #[.ref b,.int 0 0]},g,d,tk,os⟩) e ys:=Heap.IsList.push i _
  wp_walk using wpAny_pyIter_list j,wpAny_pyIter_list l
  refine⟨_,rfl,?_⟩;dsimp only at h ⊢;have a:∀(h:Heap)(o:Obj),(h.push o).objs.size=h.objs.size+1:=fun h o=>Heap.size_push ..;simp only[a,Nat.add_assoc,Nat.reduceAdd];refine h _ ?_ ?_ ?_ ?_ ?_ fun c o x=>Ai _ (Ai _ (Ai _ (Ai _ (Ai _ x))))
  ·exact Heap.get?_push_at (by simp only[a]) rfl
  ·exact Ai _ (Ai _ (Heap.get?_push_at (by simp only[a]) rfl))
  ·exact Ai _ (Heap.get?_push_at (by simp only[a]) rfl)
  ·exact⟨_,Ai _ (Ai _ (Ai _ (Ai _ (AM _ rfl)))),rfl,rfl⟩
  ·exact⟨_,Ai _ (Ai _ (Ai _ (Heap.get?_push_at (by simp only[a]) rfl))),rfl,rfl⟩
section
variable{X:Cx}{aM:List Expr}{k:Nat}{cF:Pos}
def KP(K:Ah)(ta:TA):TI:=fun σ H R=>ta σ H fun vs H1=>∃a b,vs=[.ref a,.ref b]/\(∃xs,SqL K H1 a xs)/\(∃ys,SqL K H1 b ys)/\R (dz K a b) H1
def nE{a b:Expr}{ta:TA}{p pos:Pos}(hg:Gl X "zip")(A:X.mg "zip"=none)(C:Bk "zip"=some (.type "zip"))(D:PA X [a,b] ta)(E:starEach [a,b] X.env=[(false,eval a X.env),(false,eval b X.env)]:=by rfl)(j:starEach [b] X.env=[(false,eval b X.env)]:=by rfl):PI X (.Tuple aM k cF) (.Call (.Name "zip" p) [a,b] [] pos) (KP X.K ta):=by
 intro aa s σ H R I h;refine Call_ (jx I hg A C (PyProof.Rows.callWith_type1 (aR (D pos aa s σ H _ I h) fun us c ⟨vs,H1,I1,r1,d⟩=>?_) (by rw[E,j]) (by rw[j];rfl)));obtain⟨f,g,e,⟨xs,d⟩,⟨ys,o⟩,q⟩:=d;subst e;obtain⟨u,u',rfl,r,v⟩:=vals2 r1;cases r;cases v;obtain⟨w,_,x,_⟩:=I1.list d;obtain⟨y,_,p2,_⟩:=I1.list o;refine callType_new F.called_zip ξ (F.typeCall_zip_2 _ _) (F.newCall_zip_2 _ _) (fun obj=>F.args_object_init_3 obj _ _) F.entry_zip_new (KO f g w.toArray y.toArray) ⟨x.isList,p2.isList,fun h' a1 a2 a3 a4 a5 l=>?_⟩;refine⟨⟨_,a1,rfl⟩,wpAny_pyIter_zip a1 ?_⟩;have G:Inv X aa σ H1 {c with heap:=h'}:=I1.kept (t':=c.toks) l;refine⟨c⁻¹+4,[c⁻¹+4,c⁻¹+2,c⁻¹+3,c⁻¹,c⁻¹+1],_,_,H1,rfl,G,KN f g _ _ _ _ _ (by refine⟨?_,?_,?_,?_,?_,?_,?_,?_,?_,?_⟩<;>(intro z;have J:(_:Nat)=_:=z;lia)),⟨a1,a2,⟨_,_,a3⟩,a4,a5⟩,fun b hb=>?_,q⟩;have i:c⁻¹<=b:=by
  simp only[List.mem_cons,List.not_mem_nil,or_false] at hb;rcases hb with rfl|rfl|rfl|rfl|rfl
  ·exact A6 _ _
  ·exact A6 _ _
  ·exact A6 _ _
  ·exact Ad _
  ·exact A6 _ _
 exact I1.fpOk i (I1.hok.fresh i)
end
section
variable{K:Ah}{a:Addr}{xs:List V}{g:TG}{tc:TT}{te:TE}{σ:St}{H1:Hp}{Q:VK}{D:Addr}
def Do{e f:Addr}{ys:List V}(a:Nat->St->List V->Hp->Prop)(q:a 0 σ [] (upd H1 D (.lst [])))(c:∀i σ zs H,a i σ zs H->SqL K H e xs/\SqL K H f ys)(r:∀i σ zs H p x y,xs[i]?=some x->ys[i]?=some y->i<min xs.length ys.length->zs.length<=i->a i σ zs H->H p=none->g (.ref p) σ (upd H p (.tup [x,y])) fun d s=>tc d s fun b h=>if b=true then te d h (e_ (min xs.length ys.length) a D i d) else dm (min xs.length ys.length) a i d h)(hd:∀σ zs H,a (min xs.length ys.length) σ zs H->Q (.ref D) H):cz (dz K e f) g tc te σ H1 D Q:=by
 refine p' (min xs.length ys.length) a q (fun σ zs H p=>⟨xs,ys,(c _ _ _ _ p).1,(c _ _ _ _ p).2,rfl⟩) (fun i σ zs H hi p=>⟨xs,ys,(c _ _ _ _ p).1,(c _ _ _ _ p).2,hi⟩) (fun i σ zs H v H' hi hy p y=>?_) hd;obtain⟨pp,x,j,rfl,hp,rfl,l,o⟩:=y;exact r i σ zs H pp x j (l xs (c _ _ _ _ p).1) (o ys (c _ _ _ _ p).2) hi hy p hp
end
def eR(i j:Int):Prop:=∃m n:Nat,i.natAbs<2 ^ m/\j.natAbs<2 ^ n/\m+n<=134217728
def FN(i j:Int):Prop:=0<j/\j.natAbs<2 ^ 9000
section
variable{X:Cx}
def yv:cx X (binaryOp .Mult) (rI eR fun i j=>.int (i*j)):=m4 fun i j _ _ _ _ _ hc q=>by
 obtain⟨m,n,h1,h2,a⟩:=hc;exact mul_int q (IntMulOk.of_le (intBits_le_iff.mpr h1) (intBits_le_iff.mpr h2) a)
def Dp:cx X (binaryOp .FloorDiv) (rI FN fun i j=>.int (i / j)):=m4 fun i j _ _ _ _ _ hc q=>by
 have h1:(0:Int)<j:=hc.1;refine floordiv_int ω (by rw[Int.fdiv_eq_ediv_of_nonneg i ω];exact q) (.inl (PyProof.noPylong_of_log2 ?_));have a:j.natAbs≠0:=ω
 exact(Nat.log2_lt a).mpr hc.2
end
end L2
namespace K28
open PySem L2
abbrev jW:Stmt:=top 32
abbrev ro:Stmt:=top 35
def fY{ns:List Int}{i:Nat}{x:V}(h:(ns.map V.int)[i]?=some x):∃n,ns[i]?=some n/\x=.int n:=by
 rw[Aj] at h;cases e:ns[i]? with
 |none=>rw[e] at h;cases h
 |some a=>rw[e] at h;cases h;exact⟨a,rfl,rfl⟩
def k5:Bk "zip"=some (.type "zip"):=δ
def c4(rn:List Int)(q:Int)(on:List Int):List Int:=AD (fun a b=>a-q*b) rn on
def bA(p:Int)(rn:List Int)(q:Int)(on:List Int):List Int:=AD (fun a b=>p*a+q*b) rn on
def nF(H:Hp)(Q:VK)(ns:List Int):Prop:=∀D H',Same H H'->H D=none->H' D=some (.lst (ns.map V.int))->Q (.ref D) H'
section
variable{P:Program}{w:World}{K:Ah}{mg:Str->Option Value}{base:Heap}
def Dq{H2:Hp}{r o D:Addr}{rn on:List Int}{f:Int->Int->Int}{te:TE}{c:List (Option V)}{Q:VK}(v:∀(a b:Int)(H:Hp)(R:VK),a∈rn->b∈on->R (.int (f a b)) H->te (some (.int a)::some (.int b)::c) H R)(h1:H2 r=some (.lst (rn.map V.int)))(h2:H2 o=some (.lst (on.map V.int)))(n2:on.length<=1000)(s:H2 D=none)(k:∀d,Same H2 d->d D=some (.lst ((AD f rn on).map V.int))->Q (.ref D) d):cz (dz K r o) (ci K 2 (cv (zS 0) (cv (zS 1) cf))) bC te (none::none::c) H2 D Q:=by
 refine Do (K:=K) (xs:=rn.map V.int) (ys:=on.map V.int) (fun i σ zs d=>∃j l,σ=j::l::c/\Same H2 d/\d D=some (.lst zs)/\zs=((AD f rn on).take i).map V.int)
  ⟨none,none,rfl,Same.new s,zb,rfl⟩ (fun i σ zs d ⟨_,_,_,sm,_⟩=>⟨SqL.of (sm _ _ h1),SqL.of (sm _ _ h2)⟩) ?_ ?_
 ·rintro i σ zs d u w x e1 e2 hi hz ⟨j,l,rfl,h,e,rfl⟩ g
  obtain⟨p,g1,rfl⟩:=fY e1;obtain⟨q,g2,rfl⟩:=fY e2;refine⟨u,_,rfl,SqT.of zb,rfl,_,_,rfl,_,_,rfl,rfl,fB ?_⟩;refine v p q _ _ (Al g1) (Al g2) (bI (Ae (Nat.min_le_right _ _) (by rw[Aa];exact zx ω)) hi hz (by rw[ag (zk e g)];exact e) ⟨_,_,rfl,?_,zb,?_⟩)
  ·exact(h.then (h.free g)).then s
  ·have e3:(AD f rn on)[i]?=some (f p q):=by rw[List.getElem?_zipWith,g1,g2]
   rw[take_snoc e3,Ap];rfl
 ·rintro σ zs d ⟨j,l,rfl,h,e,rfl⟩
  refine k d h ?_;rw[e,Ar (by simp)]
def rq:Sp:=fun vs H Q _=>∃r o rn on q,vs=[.ref r,.int q,.ref o]/\H r=some (.lst (rn.map V.int))/\H o=some (.lst (on.map V.int))/\on.length<=1000/\(∀x∈on,eR q x)/\nF H Q (c4 rn q on)
def KQ:zo ["row","often","other"] ["row","often","other"] (zf jW):=⟨rfl,rfl,rfl,δ,rfl,δ,δ⟩
def KR{f:Addr}{fd:FuncData}(F:Fun K "less" "less" jW f fd)(v:mg "zip"=none):am P w K mg base ar 1 f fd ["row","often","other"] rq:=by
 refine F.ok KQ (fun vs H Q E h=>?_) (fun y A outer s H vs Q E hr h=>?_)
 ·obtain⟨r,o,rn,on,q,rfl,_⟩:=h;rfl
 ·obtain⟨r,o,rn,on,q,rfl,h1,h2,n2,u,k⟩:=h
  refine⟨_,zh (zB (zr ["row","often","other"] ["number","taken","often"] [none,none,some 1] (nE rfl v k5 (za (pv 0) (za (pv 2) zc)))
   (fun d C s₀ H₀ ex=>hJ rfl (zK (zl (i:=0) (ba ["number","taken","often"]) rfl (Or.inl rfl)) (zK (zl (i:=1) (ba ["number","taken","often"]) rfl (Or.inl rfl)) hH))) (fun d C s₀ H₀ ex=>zu)
   (fun d C s₀ H₀ ex=>zD eX (pv 0) (zD yv (pv 2) (pv 1))) (te:=bT (eP fun i j=>.int (i-j)) (ap 0) (bT (rI eR fun i j=>.int (i*j)) (ap 2) (ap 1))) (hfr:=bB (zf jW) δ) (g:=ci K 2 (cv (zS 0) (cv (zS 1) cf))))),?_⟩
  refine⟨_,rfl,_,rfl,r,o,rfl,⟨_,SqL.of h1⟩,⟨_,SqL.of h2⟩,fun D e=>?_⟩;refine zt (Dq (f:=fun a b=>a-q*b) (fun a b H' R _ hb l=>?_) h1 h2 n2 e fun x p c=>k D x p e c);exact⟨_,rfl,_,rfl,_,rfl,_,_,rfl,rfl,u b hb,_,_,rfl,rfl,l⟩
def FO:Sp:=fun vs H Q _=>∃r o rn on p q,vs=[.int p,.ref r,.int q,.ref o]/\H r=some (.lst (rn.map V.int))/\H o=some (.lst (on.map V.int))/\on.length<=1000/\(∀x∈rn,eR p x)/\(∀x∈on,eR q x)/\nF H Q (bA p rn q on)
def KS:zo ["often","row","other_often","other"] ["often","row","other_often","other"] (zf ro):=⟨rfl,rfl,rfl,δ,rfl,δ,δ⟩
def KU{f:Addr}{fd:FuncData}(F:Fun K "mix_of_two" "mix_of_two" ro f fd)(z:mg "zip"=none):am P w K mg base ar 1 f fd ["often","row","other_often","other"] FO:=by
 refine F.ok KS (fun vs H Q E h=>?_) (fun I A outer s H vs Q E hr h=>?_)
 ·obtain⟨r,o,rn,on,p,q,rfl,_⟩:=h;rfl
 ·obtain⟨r,o,rn,on,p,q,rfl,h1,h2,n2,x,y,k⟩:=h
  refine⟨_,zh (zB (zr ["often","row","other_often","other"] ["number","beside","often","other_often"] [none,none,some 0,some 2] (nE rfl z k5 (za (pv 1) (za (pv 3) zc)))
   (fun d C s₀ H₀ ex=>hJ rfl (zK (zl (i:=0) (ba ["number","beside","often","other_often"]) rfl (Or.inl rfl)) (zK (zl (i:=1) (ba ["number","beside","often","other_often"]) rfl (Or.inl rfl)) hH))) (fun d C s₀ H₀ ex=>zu)
   (fun d C s₀ H₀ ex=>zD dW (zD yv (pv 2) (pv 0)) (zD yv (pv 3) (pv 1))) (te:=bT (eP fun i j=>.int (i+j)) (bT (rI eR fun i j=>.int (i*j)) (ap 2) (ap 0)) (bT (rI eR fun i j=>.int (i*j)) (ap 3) (ap 1))) (hfr:=bB (zf ro) δ) (g:=ci K 2 (cv (zS 0) (cv (zS 1) cf))))),?_⟩
  refine⟨_,rfl,_,rfl,r,o,rfl,⟨_,SqL.of h1⟩,⟨_,SqL.of h2⟩,fun D e=>?_⟩;refine zt (Dq (f:=fun a b=>p*a+q*b) (fun a b H' R l hb u=>?_) h1 h2 n2 e fun G v c=>k D G v e c);exact⟨_,rfl,_,rfl,_,_,rfl,rfl,x a l,_,rfl,_,rfl,_,_,rfl,rfl,y b hb,_,_,rfl,rfl,u⟩
end
end K28
end
section
namespace Tb
abbrev Vc:=Nat->Int
def cmb:List Int->List Vc->Vc
 |a::c,v::L=>fun u=>a*v u+cmb c L u
 |_,_=>fun _=>0
def allv(p:Nat):Nat->Ξ
 |0=>[[]]
 |n+1=>(allv p n).flatMap fun c=>(Ag p).map fun a:Nat=>(a:Int)::c
def yB(p:Nat):∀n,(allv p n).length=p ^ n
 |0=>rfl
 |n+1=>by
  have:∀l:Ξ,(l.flatMap fun c=>(Ag p).map fun a:Nat=>(a:Int)::c).length=l.length*p:=by
   intro l
   induction l with
   |nil=>simp
   |cons c l ih=>rw[List.flatMap_cons,AK,Aa,AZ,ih,AI,Nat.add_mul];(first|lia|omega)
  show(((allv p n).flatMap fun c=>(Ag p).map fun a:Nat=>(a:Int)::c)).length=_;rw[this,yB p n,Nat.pow_succ]
def k7{p:Nat}:∀{n:Nat}{c:List Int},c∈allv p n↔c.length=n/\∀x∈c,0<=x/\x<(p:Int)
 |0,c=>by
  show c∈[[]]↔_;rw[List.mem_singleton];constructor
  ·rintro rfl;exact⟨rfl,fun x hx=>nomatch hx⟩
  ·intro h;exact AH h.1
 |n+1,c=>by
  show c∈(allv p n).flatMap (fun c=>(Ag p).map fun a:Nat=>(a:Int)::c)↔_;rw[List.mem_flatMap];constructor
  ·rintro⟨d,hd,h⟩
   obtain⟨a,b,rfl⟩:=List.mem_map.mp h;obtain⟨h1,h2⟩:=k7.mp hd;have:=List.mem_range.mp b;refine⟨by rw[AI,h1],fun x hx=>?_⟩;rcases List.mem_cons.mp hx with rfl|hx
   ·(first|lia|omega)
   ·exact h2 x hx
  ·rintro⟨h1,h2⟩
   cases c with
   |nil=>simp at h1
   |cons a d=>
    have b:=h2 a (.head _);refine⟨d,k7.mpr ⟨by simpa using h1,fun x hx=>h2 x (.tail _ hx)⟩,List.mem_map.mpr ⟨a.toNat,List.mem_range.mpr ω,?_⟩⟩;rw[Int.toNat_of_nonneg b.1]
def FP(p:Nat):∀n,(allv p n).Nodup
 |0=>by simp[allv]
 |n+1=>by
  show((allv p n).flatMap fun c=>(Ag p).map fun a:Nat=>(a:Int)::c).Pairwise (·≠·);rw[List.pairwise_flatMap];refine⟨fun c _=>?_,(FP p n).imp fun{a b} h x hx y hy e=>?_⟩
  ·rw[List.pairwise_map]
   exact List.nodup_range.imp fun h e=>h (by injection e with e;(first|lia|omega))
  ·obtain⟨i,_,rfl⟩:=List.mem_map.mp hx
   obtain⟨j,_,rfl⟩:=List.mem_map.mp hy;injection e with _ e
   exact h e
def ez{g h:Type}(f:g->h):∀(l:List g)(m:List h),l.Nodup->(∀x∈l,f x∈m)->m.length<l.length->∃x∈l,∃y∈l,x≠y/\f x=f y:=by
 intro l m i d j;apply AJ;intro no;have inj:∀x∈l,∀y∈l,f x=f y->x=y:=fun x hx y hy e=>AJ fun ne=>no ⟨x,hx,y,hy,ne,e⟩;have c:(l.map f).Nodup:=by
  clear d j no
  induction l with
  |nil=>exact List.nodup_nil
  |cons a l ih=>
   rw[AY,List.nodup_cons];obtain⟨h1,h2⟩:=List.nodup_cons.mp i;refine⟨fun z=>?_,ih h2 fun x hx y hy=>inj x (.tail _ hx) y (.tail _ hy)⟩;obtain⟨b,hb,e⟩:=List.mem_map.mp z;exact h1 (inj b (.tail _ hb) a (.head _) e▸hb)
 have:=c.length_le_of_subset (l₂:=m) fun y hy=>by
  obtain⟨x,hx,rfl⟩:=List.mem_map.mp hy;exact d x hx
 rw[Aa] at this;(first|lia|omega)
def yU:∀(c d:List Int)(L:List Vc),c.length=L.length->d.length=L.length->∀u,cmb (AD (fun a b=>a-b) c d) L u=cmb c L u-cmb d L u
 |c,d,[],h1,h2,u=>by rw[AH h1,AH h2];rfl
 |[],_,_::_,h1,_,_=>by simp at h1
 |_::_,[],_::_,_,h2,_=>by simp at h2
 |a::c,b::d,v::L,h1,h2,u=>by
  show(a-b)*v u+cmb _ L u=a*v u+cmb c L u-(b*v u+cmb d L u);rw[yU c d L (by simpa using h1) (by simpa using h2),Int.sub_mul];(first|lia|omega)
def gM(k m:Int):∀(c d:List Int)(L:List Vc),c.length=L.length->d.length=L.length->∀u,cmb (AD (fun a b=>k*a+m*b) c d) L u=k*cmb c L u+m*cmb d L u
 |c,d,[],h1,h2,u=>by rw[AH h1,AH h2];show(0:Int)=k*0+m*0;(first|lia|omega)
 |[],_,_::_,h1,_,_=>by simp at h1
 |_::_,[],_::_,_,h2,_=>by simp at h2
 |a::c,b::d,v::L,h1,h2,u=>by
  show(k*a+m*b)*v u+cmb _ L u=k*(a*v u+cmb c L u)+m*(b*v u+cmb d L u);rw[gM k m c d L (by simpa using h1) (by simpa using h2),Int.add_mul,Int.mul_add,Int.mul_add,AT,AT];(first|lia|omega)
def yV:∀(n:Nat)(L:List Vc)(u:Nat),cmb (An n 0) L u=0
 |0,_,_=>rfl
 |n+1,[],_=>rfl
 |n+1,v::L,u=>by show 0*v u+cmb (An n 0) L u=0;rw[yV n L u];(first|lia|omega)
def rv{M X:Nat}{u:Nat}:∀(c:List Int)(L:List Vc),(∀x∈c,x.natAbs<=X)->(∀v∈L,(v u).natAbs<=M)->(cmb c L u).natAbs<=L.length*(X*M)
 |[],[],_,_=>by show(0:Int).natAbs<=_;simp
 |[],_::_,_,_=>by show(0:Int).natAbs<=_;simp
 |_::_,[],_,_=>by show(0:Int).natAbs<=_;simp
 |a::c,v::L,h1,h2=>by
  have b:=rv (u:=u) c L (fun x hx=>h1 x (.tail _ hx)) fun w hw=>h2 w (.tail _ hw);have d:(a*v u).natAbs<=X*M:=by rw[AF];exact AO (h1 a (.head _)) (h2 v (.head _))
  show(a*v u+cmb c L u).natAbs<=(L.length+1)*(X*M);have:=Int.natAbs_add_le (a*v u) (cmb c L u);rw[Nat.add_mul];(first|lia|omega)
def Inj(R:List Vc)(P:List Nat):Prop:=∀c:List Int,c.length=R.length->(∀p∈P,cmb c R p=0)->∀x∈c,x=0
def eH{R:List Vc}{P:List Nat}{M:Nat}(C:1<=M)(r:∀v∈R,∀p∈P,(v p).natAbs<=M)(s:P.length<R.length):∃c:List Int,c.length=R.length/\(∃x∈c,x≠0)/\(∀p∈P,cmb c R p=0)/\∀x∈c,x.natAbs<=(2*R.length*M) ^ P.length:=by
 let j:=R.length
 let X:=(2*j*M) ^ P.length
 have w:1<=j:=by show 1<=R.length;(first|lia|omega)
 have A:1<=2*j*M:=Nat.one_le_iff_ne_zero.mpr (by intro z;rcases Nat.mul_eq_zero.mp z with z|z<;>(first|lia|omega));have q:∀c∈allv (X+1) j,P.map (fun p=>cmb c R p+(j*(X*M):Nat))∈allv (2*(j*(X*M))+1) P.length:=fun c hc=>by
  obtain⟨h1,h2⟩:=k7.mp hc;refine k7.mpr ⟨Aa _,fun x hx=>?_⟩;obtain⟨p,hp,rfl⟩:=List.mem_map.mp hx;have:=rv (u:=p) (X:=X) (M:=M) c R (fun x hx=>by have:=h2 x hx;(first|lia|omega)) fun v h=>r v h p hp;have e:R.length*(X*M)=j*(X*M):=rfl;rw[e] at this;generalize j*(X*M)=N at this ⊢;(first|lia|omega)
 have cnt:(allv (2*(j*(X*M))+1) P.length).length<(allv (X+1) j).length:=by
  rw[yB,yB];have e1:2*(j*(X*M))+1<=(2*j*M)*(X+1):=by
   have:2*(j*(X*M))=(2*j*M)*X:=by rw[AN 2 j M,AN 2 (j*M) X,AN j M X,Nat.mul_comm M X]
   rw[this,Nat.mul_add];(first|lia|omega)
  calc (2*(j*(X*M))+1) ^ P.length<=((2*j*M)*(X+1)) ^ P.length:=Nat.pow_le_pow_left e1 _
   _=X*(X+1) ^ P.length:=Nat.mul_pow _ _ _
   _<(X+1)*(X+1) ^ P.length:=Nat.mul_lt_mul_of_pos_right (Nat.lt_succ_self _) (Nat.pow_pos (Nat.succ_pos _))
   _=(X+1) ^ (P.length+1):=by rw[Nat.pow_succ,Nat.mul_comm]
   _<=(X+1) ^ j:=Ax (Nat.succ_pos _) s
 obtain⟨x,hx,y,hy,ne,e⟩:=ez _ _ _ (FP (X+1) j) q cnt;obtain⟨x1,x2⟩:=k7.mp hx;obtain⟨d,o⟩:=k7.mp hy;have hz:(AD (fun a b=>a-b) x y).length=R.length:=by rw[Az,x1,d];exact Nat.min_self _
 refine⟨AD (fun a b=>a-b) x y,hz,?_,fun p hp=>?_,fun z hz=>?_⟩
 ·apply AJ
  intro no;apply ne;refine AV (by rw[x1,d]) fun i h1 h2=>?_;have hi:i<(AD (fun a b=>a-b) x y).length:=by rw[Az];(first|lia|omega)
  have:=AJ fun nz=>no ⟨(AD (fun a b=>a-b) x y)[i],Ay hi,nz⟩;rw[AX] at this;(first|lia|omega)
 ·rw[yU x y R (by rw[x1]) (by rw[d])]
  obtain⟨i,hi,rfl⟩:=A5 hp;have:=congrArg (fun l=>l[i]?) e;simp only[Aj,Ac hi,Option.map_some,Option.some.injEq] at this;(first|lia|omega)
 ·obtain⟨i,hi,rfl⟩:=A5 hz
  rw[AX];rw[Az] at hi;have f:i<x.length:=ω
  have g:i<y.length:=ω
  have a1:=x2 _ (Ay f);have a2:=o _ (Ay g);show(x[i]-y[i]).natAbs<=X;(first|lia|omega)
def FQ{R:List Vc}{P:List Nat}{M:Nat}(g:1<=M)(h:∀v∈R,∀p∈P,(v p).natAbs<=M)(i:P.length=R.length)(j:P.Nodup)(hi:Inj R P){p:Nat}(hp:p∈P):∃c:List Int,c.length=R.length/\cmb c R p≠0/\(∀q∈P,q≠p->cmb c R q=0)/\∀x∈c,x.natAbs<=(2*R.length*M) ^ (R.length-1):=by
 have a:(P.erase p).length=R.length-1:=by rw[List.length_erase_of_mem hp,i]
 have d:1<=P.length:=List.length_pos_of_mem hp;obtain⟨c,h1,⟨x,hx,nx⟩,h2,b⟩:=eH (P:=P.erase p) g (fun v f q hq=>h v f q (List.mem_of_mem_erase hq)) ω;rw[a] at b;have hz:∀q∈P,q≠p->cmb c R q=0:=fun q hq ne=>h2 q ((List.mem_erase_of_ne ne).mpr hq);refine⟨c,h1,fun z=>nx ?_,hz,b⟩;refine hi c h1 (fun q hq=>?_) x hx
 by_cases e:q=p
 ·rw[e];exact z
 ·exact hz q hq e
end Tb
end
section
namespace Tb
def FR{f:Int->Int->Int}{c d:List Int}{x:Int}(h:x∈AD f c d):∃a∈c,∃b∈d,x=f a b:=by
 obtain⟨i,hi,rfl⟩:=A5 h;rw[Az] at hi;exact⟨c[i]'ω,Ay _,d[i]'ω,Ay _,AX ..⟩
def Dr{x:Int}(h:x≠0):1<=x.natAbs:=ω
def clear{R:List Vc}{P:List Nat}{M V:Nat}{v:Vc}(i:1<=M)(j:∀v∈R,∀p∈P,(v p).natAbs<=M)(l:P.length=R.length)(o:P.Nodup)(hi:Inj R P)(r:∀p∈P,(v p).natAbs<=V):∀Q:List Nat,Q.Nodup->(∀q∈Q,q∈P)->∃(D:Int)(s:List Int),D≠0/\s.length=R.length/\(∀q∈Q,cmb s R q=D*v q)/\(∀q∈P,q∉Q->cmb s R q=0)/\∀x∈s,x.natAbs<=D.natAbs*(Q.length*(V*(2*R.length*M) ^ (R.length-1)))
 |[],_,_=>⟨1,An R.length 0,ξ,A7,(fun q hq=>nomatch hq),fun q _ _=>yV _ _ _,fun x hx=>by rw[(List.mem_replicate.mp hx).2];simp⟩
 |p::Q,hn,hs=>by
  obtain⟨n1,n2⟩:=List.nodup_cons.mp hn;obtain⟨D,s,u,e,e1,e2,b⟩:=clear i j l o hi r Q n2 fun q hq=>hs q (.tail _ hq);have hp:=hs p (.head _);obtain⟨c,f,g,h,w⟩:=FQ i j l o hi hp;refine⟨D*cmb c R p,AD (fun a b=>cmb c R p*a+(D*v p)*b) s c,Int.mul_ne_zero u g,by rw[Az];(first|lia|omega),fun q hq=>?_,fun q hq d=>?_,fun x hx=>?_⟩
  ·rw[gM _ _ s c R e f]
   rcases List.mem_cons.mp hq with rfl|hq
   ·rw[e2 q hp n1,Ba,Int.zero_add,Int.mul_right_comm]
   ·rw[e1 q hq,h q (hs q (.tail _ hq)) (fun z=>n1 (z▸hq)),Ba,Int.add_zero,Int.mul_left_comm,AT]
  ·rw[gM _ _ s c R e f,e2 q hq (fun z=>d (.tail _ z)),h q hq (fun z=>d (z▸.head _)),Ba,Ba];rfl
  ·obtain⟨a,y,b',A,rfl⟩:=FR hx
   have h1:=b a y;have h2:=w b' A;have C:=r p hp;generalize (2*R.length*M) ^ (R.length-1)=X at h1 h2 ⊢;have k:=Dr g;generalize cmb c R p=E at k ⊢;have F:(E*a).natAbs<=E.natAbs*(D.natAbs*(Q.length*(V*X))):=by rw[AF];exact Ak _ h1
   have G:(D*v p*b').natAbs<=D.natAbs*(V*X):=by
    rw[AF,AF,AN];exact Ak _ (AO C h2)
   have H:=Int.natAbs_add_le (E*a) (D*v p*b');have I:D.natAbs*(V*X)<=E.natAbs*(D.natAbs*(V*X)):=Nat.le_mul_of_pos_left _ k;have J:(D*E).natAbs*((Q.length+1)*(V*X))=E.natAbs*(D.natAbs*(Q.length*(V*X)))+E.natAbs*(D.natAbs*(V*X)):=by
    rw[AF,Nat.add_mul,Nat.one_mul,Nat.mul_add,Nat.mul_comm D.natAbs E.natAbs,AN,AN]
   show _<=(D*E).natAbs*((Q.length+1)*(V*X));rw[J];exact Ae H (Nat.add_le_add F (Ae G I))
def rx{R:List Vc}{P:List Nat}{M V:Nat}{c:List Int}(r:1<=M)(u:∀v∈R,∀p∈P,(v p).natAbs<=M)(e:P.length=R.length)(f:P.Nodup)(hi:Inj R P)(hc:c.length=R.length)(w:∀p∈P,(cmb c R p).natAbs<=V):∀x∈c,x.natAbs<=R.length*(V*(2*R.length*M) ^ (R.length-1)):=by
 obtain⟨D,s,g,h,e1,_,b⟩:=clear r u e f hi w P f fun q hq=>hq;have hz:=hi (AD (fun a b=>D*a+(-1)*b) c s) (by rw[Az];(first|lia|omega)) fun p hp=>by
  rw[gM _ _ c s R hc h,e1 p hp];(first|lia|omega)
 intro x hx;obtain⟨i,j,rfl⟩:=A5 hx;have l:i<s.length:=ω
 have d:i<(AD (fun a b=>D*a+(-1)*b) c s).length:=by rw[Az];(first|lia|omega)
 have o:=hz _ (Ay d);rw[AX] at o;have h1:=b _ (Ay l);have h2:s[i]=D*c[i]:=ω
 rw[h2,AF,e] at h1;exact Nat.le_of_mul_le_mul_left h1 (Dr g)
end Tb
end
section
namespace Tb
def Rep(R:List Vc)(C:Nat)(v:Vc):Prop:=∃c:List Int,c.length=R.length/\(∀u,v u=cmb c R u)/\∀x∈c,x.natAbs<=C
section
variable{R:List Vc}{C D:Nat}{v w:Vc}
def Rep.mono(h:Rep R C v)(hc:C<=D):Rep R D v:=let ⟨c,h1,h2,h3⟩:=h;⟨c,h1,h2,fun x hx=>Ae (h3 x hx) hc⟩
def Rep.eq(h:Rep R C v)(e:∀u,w u=v u):Rep R C w:=let ⟨c,h1,h2,h3⟩:=h;⟨c,h1,fun u=>(e u).trans (h2 u),h3⟩
def Rep.lin{k m:Int}{A B:Nat}(g:Rep R C v)(hw:Rep R D w)(hk:k.natAbs<=A)(h:m.natAbs<=B):Rep R (A*C+B*D) fun u=>k*v u+m*w u:=by
 obtain⟨c,h1,h2,e⟩:=g;obtain⟨d,g1,g2,g3⟩:=hw;refine⟨AD (fun a b=>k*a+m*b) c d,by rw[Az];(first|lia|omega),fun u=>?_,fun x hx=>?_⟩
 ·show k*v u+m*w u=_
  rw[gM k m c d R h1 g1,h2,g2]
 ·obtain⟨a,f,b,hb,rfl⟩:=FR hx
  have i:(k*a).natAbs<=A*C:=by rw[AF];exact AO hk (e a f)
  have j:(m*b).natAbs<=B*D:=by rw[AF];exact AO h (g3 b hb)
  have:=Int.natAbs_add_le (k*a) (m*b);(first|lia|omega)
def Rep.sub{m:Int}{B:Nat}(a:Rep R C v)(hw:Rep R D w)(b:m.natAbs<=B):Rep R (C+B*D) fun u=>v u-m*w u:=
 ((a.lin (k:=1) (m:=-m) hw (A:=1) (B:=B) ξ (by rw[Int.natAbs_neg];exact b)).mono ω).eq fun u=>by rw[Int.one_mul,Int.neg_mul];(first|lia|omega)
def Rep.le(h:Rep R C v){M u:Nat}(b:∀r∈R,(r u).natAbs<=M):(v u).natAbs<=R.length*(C*M):=by
 obtain⟨c,h1,h2,a⟩:=h;rw[h2];exact rv c R a b
end
def step(f:Nat->Vc)(p:Nat)(l:Vc):Vc:=fun u=>l u-l p / f p p*f p u
def aX(f:Nat->Vc):List Nat->Vc->Vc
 |[],l=>l
 |p::ps,l=>aX f ps (step f p l)
structure Ech(P:List Nat)(f:Nat->Vc):Prop where
 z:∀p∈P,∀i,i<p->f p i=0
 pos:∀p∈P,0<f p p
section
variable{f:Nat->Vc}
def Ech.sub{P Q:List Nat}(h:Ech P f)(a:∀q∈Q,q∈P):Ech Q f:=⟨fun p hp=>h.z p (a p hp),fun p hp=>h.pos p (a p hp)⟩
def FT{P:List Nat}{p i:Nat}{l:Vc}(h:Ech P f)(hp:p∈P)(hi:i<p):step f p l i=l i:=by
 unfold step;rw[h.z p hp i hi,Ba,Int.sub_zero]
def step_at{P:List Nat}{p:Nat}{l:Vc}(h:Ech P f)(hp:p∈P):0<=step f p l p/\step f p l p<f p p:=by
 have a:=h.pos p hp;have e:step f p l p=l p%f p p:=by
  unfold step;have:=Int.emod_add_mul_ediv (l p) (f p p);rw[Be] at this;(first|lia|omega)
 rw[e];exact⟨Int.emod_nonneg _ ω,Int.emod_lt_of_pos _ a⟩
def yW:∀{ps:List Nat}{l:Vc}{i:Nat},Ech ps f->(∀p∈ps,i<p)->aX f ps l i=l i
 |[],_,_,_,_=>rfl
 |p::ps,l,i,h,hi=>by
  show aX f ps (step f p l) i=l i;rw[yW (h.sub fun q hq=>.tail _ hq) (fun q hq=>hi q (.tail _ hq)),FT h (.head _) (hi p (.head _))]
def FU:∀{ps:List Nat}{l:Vc}{t:Nat},Ech ps f->(∀i,i<t->l i=0)->∀i,i<t->aX f ps l i=0
 |[],_,_,_,hz,i,hi=>hz i hi
 |p::ps,l,t,h,hz,i,hi=>by
  refine FU (h.sub fun q hq=>.tail _ hq) (t:=t) (fun i hi=>?_) i hi
  by_cases hp:i<p
  ·rw[FT h (.head _) hp];exact hz i hi
  ·unfold step
   rw[hz i hi,hz p ω];simp
def y':∀{ps:List Nat}{l:Vc},Ech ps f->ps.Pairwise (·<·)->∀p∈ps,0<=aX f ps l p/\aX f ps l p<f p p
 |p::ps,l,h,hs,q,hq=>by
  rw[A9] at hs;have h':Ech ps f:=h.sub fun q hq=>.tail _ hq;rcases List.mem_cons.mp hq with rfl|hq
  ·show 0<=aX f ps (step f q l) q/\aX f ps (step f q l) q<f q q
   rw[yW h' (fun r hr=>hs.1 r hr)];exact step_at h (.head _)
  ·exact y' h' hs.2 q hq
def k8{R:List Vc}{P:List Nat}{CF VF:Nat}(d:∀p∈P,Rep R CF (f p))(g:∀p∈P,∀q∈P,(f p q).natAbs<=VF)(a:∀p∈P,0<f p p):∀(ps:List Nat){l:Vc}{C V:Nat},(∀p∈ps,p∈P)->Rep R C l->(∀q∈P,(l q).natAbs<=V)->Rep R (C+ps.length*(V*(1+VF) ^ ps.length*CF)) (aX f ps l)/\∀q∈P,(aX f ps l q).natAbs<=V*(1+VF) ^ ps.length
 |[],l,C,V,_,hr,hv=>⟨hr.mono ω,fun q hq=>by show(l q).natAbs<=V*(1+VF) ^ 0;rw[Nat.pow_zero,Nat.mul_one];exact hv q hq⟩
 |p::ps,l,C,V,hs,hr,hv=>by
  have hp:=hs p (.head _);have i:=a p hp;have c:(l p / f p p).natAbs<=V:=by
   refine Ae ?_ (hv p hp);have:(l p / f p p).natAbs<=(l p).natAbs:=by
    have:=Int.natAbs_ediv_le_natAbs (l p) (f p p);exact this
   exact this
  have r1:Rep R (C+V*CF) (step f p l):=hr.sub (d p hp) c;have h:∀q∈P,(step f p l q).natAbs<=V*(1+VF):=fun q hq=>by
   have j:=hv q hq;have o:(l p / f p p*f p q).natAbs<=V*VF:=by rw[AF];exact AO c (g p hp q hq)
   have r:(step f p l q).natAbs<=(l q).natAbs+(l p / f p p*f p q).natAbs:=by unfold step;(first|lia|omega)
   rw[Nat.mul_add,Nat.mul_one];(first|lia|omega)
  obtain⟨r2,b⟩:=k8 d g a ps (fun q hq=>hs q (.tail _ hq)) r1 h;have e:V*(1+VF)*(1+VF) ^ ps.length=V*(1+VF) ^ (ps.length+1):=by rw[Nat.pow_succ,AN,Nat.mul_comm (1+VF)]
  rw[e] at r2 b;refine⟨r2.mono ?_,b⟩;show C+V*CF+ps.length*(V*(1+VF) ^ (ps.length+1)*CF)<=C+(ps.length+1)*(V*(1+VF) ^ (ps.length+1)*CF);have k1:V*1<=V*(1+VF) ^ (ps.length+1):=Ak _ (Nat.pow_pos ω);have k2:V*CF<=V*(1+VF) ^ (ps.length+1)*CF:=Am _ ω;rw[Nat.add_mul];(first|lia|omega)
end
end Tb
end
section
namespace Tb
def Sp(R:List Vc)(v:Vc):Prop:=∃c:List Int,c.length=R.length/\∀u,v u=cmb c R u
section
variable{R S:List Vc}{v w:Vc}
def Rep.sp{C:Nat}(h:Rep R C v):Sp R v:=let ⟨c,h1,h2,_⟩:=h;⟨c,h1,h2⟩
def Sp.eq(h:Sp R v)(e:∀u,w u=v u):Sp R w:=let ⟨c,h1,h2⟩:=h;⟨c,h1,fun u=>(e u).trans (h2 u)⟩
def Sp.zero:Sp R fun _=>0:=⟨An R.length 0,A7,fun u=>(yV _ _ _).symm⟩
def Sp.lin(e:Sp R v)(hw:Sp R w)(k m:Int):Sp R fun u=>k*v u+m*w u:=by
 obtain⟨c,h1,h2⟩:=e;obtain⟨d,g1,g2⟩:=hw;refine⟨AD (fun a b=>k*a+m*b) c d,by rw[Az];(first|lia|omega),fun u=>?_⟩;show k*v u+m*w u=_;rw[gM k m c d R h1 g1,h2,g2]
def Sp.sub(a:Sp R v)(hw:Sp R w)(m:Int):Sp R fun u=>v u-m*w u:=(a.lin hw 1 (-m)).eq fun u=>by rw[Int.one_mul,Int.neg_mul];(first|lia|omega)
def Rep.mem:∀{R:List Vc}{v:Vc},v∈R->Rep R 1 v
 |r::R,v,h=>by
  rcases List.mem_cons.mp h with rfl|h
  ·exact⟨1::An R.length 0,by simp,fun u=>by show v u=1*v u+cmb (An R.length 0) R u;rw[yV];(first|lia|omega),fun x hx=>by
    rcases List.mem_cons.mp hx with rfl|hx
    ·decide
    ·rw[(List.mem_replicate.mp hx).2];decide⟩
  ·obtain⟨c,h1,h2,a⟩:=Rep.mem h
   exact⟨0::c,by simp[h1],fun u=>by show v u=0*r u+cmb c R u;rw[h2];(first|lia|omega),fun x hx=>by
    rcases List.mem_cons.mp hx with rfl|hx
    ·decide
    ·exact a x hx⟩
def Sp.mem(h:v∈R):Sp R v:=(Rep.mem h).sp
def Sp.cmb:∀(c:List Int)(S:List Vc),(∀s∈S,Sp R s)->Sp R (Tb.cmb c S)
 |[],[],_=>Sp.zero
 |[],_::_,_=>Sp.zero
 |_::_,[],_=>Sp.zero
 |a::c,s::S,h=>((h s (.head _)).lin (Sp.cmb c S fun w hw=>h w (.tail _ hw)) a 1).eq fun u=>by show a*s u+Tb.cmb c S u=_;(first|lia|omega)
def Sp.trans(h:Sp S v)(a:∀s∈S,Sp R s):Sp R v:=by
 obtain⟨c,_,h2⟩:=h;exact(Sp.cmb c S a).eq h2
def iN(R:List Vc):Prop:=∀c:List Int,c.length=R.length->(∀u,cmb c R u=0)->∀x∈c,x=0
def zO{u:Nat}:∀(c:List Int)(L:List Vc),(∀v∈L,v u=0)->cmb c L u=0
 |[],[],_=>rfl
 |[],_::_,_=>rfl
 |_::_,[],_=>rfl
 |a::c,v::L,h=>by
  show a*v u+cmb c L u=0;rw[h v (.head _),zO c L fun w hw=>h w (.tail _ hw),Ba];rfl
end
section
variable{f:Nat->Vc}
def Ds:∀{P:List Nat},Ech P f->P.Pairwise (·<·)->∀c:List Int,c.length=P.length->(∀p∈P,cmb c (P.map f) p=0)->∀x∈c,x=0
 |[],_,_,c,hl,_,x,hx=>by rw[AH hl] at hx;cases hx
 |p::P,h,hs,[],hl,_,x,hx=>by cases hx
 |p::P,h,hs,a::c,hl,hz,x,hx=>by
  rw[A9] at hs;have b:=hz p (.head _);have e:cmb (a::c) ((p::P).map f) p=a*f p p:=by
   show a*f p p+cmb c (P.map f) p=a*f p p;rw[zO c (P.map f) fun v d=>by
    obtain⟨q,hq,rfl⟩:=List.mem_map.mp d;exact h.z q (.tail _ hq) p (hs.1 q hq)]
   (first|lia|omega)
  rw[e] at b;have hp:=h.pos p (.head _);have g:a=0:=by
   rcases Int.mul_eq_zero.mp b with z|z
   ·exact z
   ·(first|lia|omega)
  subst g;rcases List.mem_cons.mp hx with rfl|hx
  ·rfl
  ·refine Ds (h.sub fun q hq=>.tail _ hq) hs.2 c (by simpa using hl) (fun q hq=>?_) x hx
   have:=hz q (.tail _ hq);have e:cmb (0::c) ((p::P).map f) q=0*f p q+cmb c (P.map f) q:=rfl;rw[e] at this;(first|lia|omega)
def la:∀(c:List Int)(L:List Vc)(u:Nat),(∀x∈c,x=0)->cmb c L u=0
 |[],[],_,_=>rfl
 |[],_::_,_,_=>rfl
 |_::_,[],_,_=>rfl
 |a::c,v::L,u,h=>by show a*v u+cmb c L u=0;rw[h a (.head _),la c L u fun x hx=>h x (.tail _ hx)];(first|lia|omega)
def Bq{R:List Vc}{P:List Nat}(hi:iN R)(h:Ech P f)(b:P.Pairwise (·<·))(e:∀r∈R,Sp (P.map f) r):Inj R P:=fun c hc hz=>by
 obtain⟨d,h1,h2⟩:=Sp.cmb c R e;have a:=Ds h b d (by simpa using h1) fun p hp=>by rw[<-h2];exact hz p hp
 exact hi c hc fun u=>by rw[h2];exact la d _ u a
def j5:∀{P:List Nat}{p:Nat}{w:Vc},Ech P f->P.Pairwise (·<·)->p∈P->Sp (P.map f) w->(∀q∈P,q<p->w q=0)->f p p ∣ w p
 |[],_,_,_,_,hp,_,_=>nomatch hp
 |q::P,p,w,h,hs,hp,⟨c,hc,e⟩,hz=>by
  cases c with
  |nil=>simp at hc
  |cons a c=>
   rw[A9] at hs;have eq:w q=a*f q q:=by
    rw[e];show a*f q q+cmb c (P.map f) q=a*f q q;rw[zO c (P.map f) fun v g=>by
     obtain⟨r,hr,rfl⟩:=List.mem_map.mp g;exact h.z r (.tail _ hr) q (hs.1 r hr)]
    (first|lia|omega)
   rcases List.mem_cons.mp hp with rfl|hp
   ·exact⟨a,by rw[eq,Be]⟩
   ·have hq:=hz q (.head _) (hs.1 p hp)
    rw[eq] at hq;have d:=h.pos q (.head _);have i:a=0:=by
     rcases Int.mul_eq_zero.mp hq with z|z
     ·exact z
     ·(first|lia|omega)
    refine j5 (h.sub fun q hq=>.tail _ hq) hs.2 hp ⟨c,by simpa using hc,fun u=>?_⟩ fun r hr b=>hz r (.tail _ hr) b;rw[e];show a*f q u+cmb c (P.map f) u=_;rw[i];(first|lia|omega)
def KW{R:List Vc}{P:List Nat}{M:Nat}(l:1<=M)(hi:iN R)(h:Ech P f)(b:P.Pairwise (·<·))(d:∀r∈R,Sp (P.map f) r)(o:P.length=R.length)(hb:∀r∈R,∀p∈P,(r p).natAbs<=M){p:Nat}(hp:p∈P):(f p p).natAbs<=R.length*((2*R.length*M) ^ (R.length-1)*M):=by
 have j:P.Nodup:=b.imp fun h=>AB h;obtain⟨c,s,e,g,i⟩:=FQ l hb o j (Bq hi h b d) hp;have hd:=j5 h b hp (Sp.cmb c R d) fun q hq a=>g q hq (AB a);have:=Nat.le_of_dvd (Dr e) (Int.natAbs_dvd_natAbs.mpr hd);exact Ae this (rv c R i fun r hr=>hb r hr p hp)
end
end Tb
end
section
namespace Tb
structure GI(x y:Int)(t0 t1 t2 l0 l1 l2:Int):Prop where
 t:t0=t1*x+t2*y
 l:l0=l1*x+l2*y
 det:t1*l2-t2*l1=1\/t1*l2-t2*l1=-1
 tp:0<t0
 lp:0<=l0
 s1:(0<=t1/\l1<=0)\/(t1<=0/\0<=l1)
 s2:(0<=t2/\l2<=0)\/(t2<=0/\0<=l2)
 m1:l1.natAbs*t0.natAbs+t1.natAbs*l0.natAbs=y.natAbs
 m2:l2.natAbs*t0.natAbs+t2.natAbs*l0.natAbs=x.natAbs
 b1:t1.natAbs<=y.natAbs
 b2:t2.natAbs<=x.natAbs
def GI.start{x y:Int}(hx:0<x)(hy:0<y):GI x y x 1 0 y 0 1:=
 ⟨ω,ω,ω,hx,ω,.inl ⟨ω,ω⟩,.inr ⟨ω,ω⟩,by simp,by simp,ω,ω⟩
def FV{a b q:Int}(hq:0<=q)(h:(0<=a/\b<=0)\/(a<=0/\0<=b)):(a-q*b).natAbs=a.natAbs+q.natAbs*b.natAbs:=by
 have e:(q*b).natAbs=q.natAbs*b.natAbs:=AF ..;rcases h with ⟨h1,h2⟩|⟨h1,h2⟩
 ·have:q*b<=0:=Int.mul_nonpos_of_nonneg_of_nonpos hq h2
  (first|lia|omega)
 ·have:0<=q*b:=Int.mul_nonneg hq h2
  (first|lia|omega)
def GI.next{x y f r s c i j:Int}(g:GI x y f r s c i j)(h:c≠0):GI x y c i j (f-f / c*c) (r-f / c*i) (s-f / c*j)/\f-f / c*c<c:=by
 have p:0<c:=by have:=g.lp;(first|lia|omega)
 have o:0<=f / c:=Int.ediv_nonneg (Int.le_of_lt g.tp) g.lp;have em:f-f / c*c=f%c:=by have:=Int.emod_add_mul_ediv f c;rw[Be] at this;(first|lia|omega)
 have v:0<=f%c:=Int.emod_nonneg _ h;have w:f%c<c:=Int.emod_lt_of_pos _ p;have k1:=FV o g.s1;have k2:=FV o g.s2;have u:∀{a b n:Nat},b*f.natAbs+a*c.natAbs=n->(a+(f / c).natAbs*b)*c.natAbs+b*(f-f / c*c).natAbs=n:=fun{a b n} e=>by
  have e1:(f-f / c*c).natAbs+(f / c).natAbs*c.natAbs=f.natAbs:=by
   have:(f / c*c).natAbs=(f / c).natAbs*c.natAbs:=AF ..;have:0<=f / c*c:=Int.mul_nonneg o g.lp;have:=g.tp;(first|lia|omega)
  rw[<-e,<-e1,Nat.add_mul,Nat.mul_add,AN,Nat.mul_left_comm b];(first|lia|omega)
 refine⟨⟨g.l,?_,?_,p,ω,?_,?_,?_,?_,?_,?_⟩,ω⟩
 ·have e1:=g.t
  have e2:=g.l;generalize f / c=q;rw[Int.sub_mul,Int.sub_mul,AT,AT];have:q*c=q*(i*x)+q*(j*y):=by rw[e2,Int.mul_add]
  (first|lia|omega)
 ·have d:=g.det
  generalize f / c=q;rw[Int.mul_sub,Int.mul_sub,Int.mul_left_comm i q j,Int.mul_left_comm j q i,Be j i,Be i s,Be j r];(first|lia|omega)
 ·rcases g.s1 with ⟨h1,h2⟩|⟨h1,h2⟩
  ·have:f / c*i<=0:=Int.mul_nonpos_of_nonneg_of_nonpos o h2
   exact .inr ⟨h2,ω⟩
  ·have:0<=f / c*i:=Int.mul_nonneg o h2
   exact .inl ⟨h2,ω⟩
 ·rcases g.s2 with ⟨h1,h2⟩|⟨h1,h2⟩
  ·have:f / c*j<=0:=Int.mul_nonpos_of_nonneg_of_nonpos o h2
   exact .inr ⟨h2,ω⟩
  ·have:0<=f / c*j:=Int.mul_nonneg o h2
   exact .inl ⟨h2,ω⟩
 ·rw[k1];exact u g.m1
 ·rw[k2];exact u g.m2
 ·have:=g.m1
  have h1:i.natAbs*1<=i.natAbs*f.natAbs:=Ak _ (by have:=g.tp;(first|lia|omega));(first|lia|omega)
 ·have:=g.m2
  have h1:j.natAbs*1<=j.natAbs*f.natAbs:=Ak _ (by have:=g.tp;(first|lia|omega));(first|lia|omega)
def GI.le{x y c d e f a b:Int}(g:GI x y c d e f a b):a.natAbs<=y.natAbs/\b.natAbs<=x.natAbs:=by
 have h1:a.natAbs*1<=a.natAbs*c.natAbs:=Ak _ (by have:=g.tp;(first|lia|omega));have h2:b.natAbs*1<=b.natAbs*c.natAbs:=Ak _ (by have:=g.tp;(first|lia|omega));have:=g.m1;have:=g.m2;(first|lia|omega)
end Tb
end
section
namespace K28
open PySem L2
abbrev Br:Stmt:=top 33
section
variable{P:Program}{w:World}{K:Ah}{mg:Str->Option Value}{base:Heap}
def FW:Sp:=fun vs H Q _=>∃(r:Addr)(rn:List Int)(k:Nat),vs=[.ref r]/\H r=some (.lst (rn.map V.int))/\(∀i,i<k->rn[i]?=some 0)/\(∃x,rn[k]?=some x/\x≠0)/\Q (.int k) H
def Dt:zo ["row","place"] ["row"] (zf Br):=⟨rfl,rfl,rfl,δ,rfl,δ,δ⟩
def KY{f:Addr}{fd:FuncData}(F:Fun K "first_place" "first_place" Br f fd):am P w K mg base ar 1 f fd ["row"] FW:=by
 refine F.ok Dt (fun vs H Q E h=>?_) (fun o A outer s H vs Q E hr h=>?_)
 ·obtain⟨r,rn,k,rfl,_⟩:=h;rfl
 ·obtain⟨r,rn,k,rfl,h1,g,⟨x,hx,l⟩,hq⟩:=h
  refine⟨_,zd (zp (i:=1) Dt.nd rfl (Or.inl rfl) ze)
   (zd (ws PassesOwn.never (zA gs (zw zq (pv 0) (pv 1) (fun _ _=>rfl)) ze (ao _))
    (zh (zp (i:=1) Dt.nd rfl (Or.inl rfl) (zD dW (pv 1) ze))))
   (zh (zB (pv 1)))),?_⟩
  refine⟨fun n σ a=>∃i:Nat,n=k-i/\i<=k/\σ=[some (.ref r),some (.int i)]/\a=H,⟨_,0,rfl,ω,rfl,rfl⟩,?_⟩;rintro n σ a ⟨i,rfl,hi,rfl,rfl⟩;obtain⟨y,hy,e⟩:∃y,rn[i]?=some y/\(y=0↔i<k):=by
   rcases Bb i k with c|c
   ·exact⟨0,g i c,by simp[c]⟩
   ·have:i=k:=ω
    subst this;exact⟨x,hx,by simp[l]⟩
  refine⟨_,rfl,_,rfl,r,_,_,_,rfl,rfl,SqL.of h1,zj (j:=i) (v:=V.int y) (by rw[Aj,hy];rfl),rfl,_,rfl,?_⟩
  by_cases c:i<k
  ·rw[show decide (V.int y=V.int 0)=true by rw[e.mpr c];rfl]
   refine aW ⟨fun b H'=>∃d,d<k-i/\∃i:Nat,d=k-i/\i<=k/\b=[some (.ref r),some (.int i)]/\H'=a,fun b H' h=>h,?_⟩;exact⟨_,rfl,_,_,rfl,rfl,k-(i+1),ω,i+1,rfl,ω,rfl,rfl⟩
  ·rw[show decide (V.int y=V.int 0)=false from decide_eq_false fun z=>c (e.mp (by injection z))]
   have:i=k:=ω
   subst this;exact aQ ⟨_,rfl,hq⟩
end
end K28
end
section
namespace K28
open PySem L2
abbrev ry:Stmt:=top 34
def KZ:Bk "tuple"=some (.type "tuple"):=δ
section
variable{P:Program}{w:World}{K:Ah}{mg:Str->Option Value}{base:Heap}
def K0{H2:Hp}{r o D:Addr}{rn on:List Int}{f:Int->Int->Int}{te:TE}{c:List (Option V)}{Q:VK}(v:∀(a b:Int)(H:Hp)(R:VK),a∈rn->b∈on->R (.int (f a b)) H->te (some (.int a)::some (.int b)::c) H R)(h1:H2 r=some (.tup (rn.map V.int)))(h2:H2 o=some (.tup (on.map V.int)))(n2:on.length<=1000)(s:H2 D=none)(k:∀d,Same H2 d->d D=some (.lst ((AD f rn on).map V.int))->Q (.ref D) d):cz (x_ K r o) (ci K 2 (cv (zS 0) (cv (zS 1) cf))) bC te (none::none::c) H2 D Q:=by
 refine Kf (K:=K) (xs:=rn.map V.int) (ys:=on.map V.int) (fun i σ zs d=>∃j l,σ=j::l::c/\Same H2 d/\d D=some (.lst zs)/\zs=((AD f rn on).take i).map V.int)
  ⟨none,none,rfl,Same.new s,zb,rfl⟩ (fun i σ zs d ⟨_,_,_,sm,_⟩=>⟨SqT.of (sm _ _ h1),SqT.of (sm _ _ h2)⟩) ?_ ?_
 ·rintro i σ zs d u w x e1 e2 hi hz ⟨j,l,rfl,h,e,rfl⟩ g
  obtain⟨p,g1,rfl⟩:=fY e1;obtain⟨q,g2,rfl⟩:=fY e2;refine⟨u,_,rfl,SqT.of zb,rfl,_,_,rfl,_,_,rfl,rfl,fB ?_⟩;refine v p q _ _ (Al g1) (Al g2) (bI (Ae (Nat.min_le_right _ _) (by rw[Aa];exact zx ω)) hi hz (by rw[ag (zk e g)];exact e) ⟨_,_,rfl,?_,zb,?_⟩)
  ·exact(h.then (h.free g)).then s
  ·have e3:(AD f rn on)[i]?=some (f p q):=by rw[List.getElem?_zipWith,g1,g2]
   rw[take_snoc e3,Ap];rfl
 ·rintro σ zs d ⟨j,l,rfl,h,e,rfl⟩
  refine k d h ?_;rw[e,Ar (by simp)]
abbrev Tr(H:Hp)(p:Addr)(a b c:Int):Prop:=H p=some (.tup [.int a,.int b,.int c])
def FX:Sp:=fun vs H Q _=>∃x y:Int,vs=[.int x,.int y]/\0<x/\0<y/\x.natAbs<2 ^ 9000/\y.natAbs<2 ^ 9000/\
 ∀r p q H' a b c d e,Same H H'->H' r=some (.tup [.ref p,.ref q])->Tr H' p a b c->Tr H' q 0 d e->Tb.GI x y a b c 0 d e->Q (.ref r) H'
def lf:zo ["one","other","told","left","often","rest"] ["one","other"] (zf ry):=⟨rfl,rfl,rfl,δ,rfl,δ,δ⟩
def K2{f:Addr}{fd:FuncData}(F:Fun K "divisor_pair" "divisor_pair" ry f fd)(bz:mg "zip"=none)(bt:mg "tuple"=none):am P w K mg base ar 1 f fd ["one","other"] FX:=by
 refine F.ok lf (fun vs H Q E h=>?_) (fun ai A outer s H vs Q E hr h=>?_)
 ·obtain⟨x,y,rfl,_⟩:=h;rfl
 ·obtain⟨x,y,rfl,x0,y0,Z,yb,k⟩:=h
  refine⟨_,zd (zp (i:=2) lf.nd rfl (Or.inl rfl) (gt (za (pv 0) (za ze (za ze zc)))))
   (zd (zp (i:=3) lf.nd rfl (Or.inl rfl) (gt (za (pv 1) (za ze (za ze zc)))))
   (zd (ws PassesOwn.never (zA iJ (zw zL (pv 3) ze (fun _ _=>rfl)) ze (ao _))
    (zd (zp (i:=4) lf.nd rfl (Or.inr rfl) (zD Dp (zw zL (pv 2) ze (fun _ _=>rfl)) (zw zL (pv 3) ze (fun _ _=>rfl))))
    (zd (zp (i:=5) lf.nd rfl (Or.inl rfl) (zY JH rfl bt KZ (za (zr ["one","other","told","left","often","rest"] ["high","low","often"] [none,none,some 4] (Kc rfl bz k5 (za (pv 2) (za (pv 3) zc)))
     (fun U C s₀ H₀ ex=>hJ rfl (zK (zl (i:=0) (ba ["high","low","often"]) rfl (Or.inl rfl)) (zK (zl (i:=1) (ba ["high","low","often"]) rfl (Or.inl rfl)) hH))) (fun U C s₀ H₀ ex=>zu)
     (fun U C s₀ H₀ ex=>zD eX (pv 0) (zD yv (pv 2) (pv 1))) (te:=bT (eP fun i j=>.int (i-j)) (ap 0) (bT (rI eR fun i j=>.int (i*j)) (ap 2) (ap 1))) (hfr:=bB (zf ry) δ) (g:=ci K 2 (cv (zS 0) (cv (zS 1) cf)))) zc)))
    (zd (zp (i:=2) lf.nd rfl (Or.inl rfl) (pv 3))
    (zh (zp (i:=3) lf.nd rfl (Or.inl rfl) (pv 5)))))))
   (zh (zB (gt (za (pv 2) (za (pv 3) zc))))))),?_⟩
  refine⟨_,rfl,zx (show 3<=100000 from ξ),fun T v=>⟨_,rfl,zx (show 3<=100000 from ξ),fun L l=>?_⟩⟩;have pQ:T≠L:=zk zb l;refine⟨fun n σ M=>∃(T L:Addr)(e r u d p q:Int)(G I:Option V),n=d.natAbs/\σ=[some (.int x),some (.int y),some (.ref T),some (.ref L),G,I]/\Same H M/\Tr M T e r u/\Tr M L d p q/\Tb.GI x y e r u d p q/\e.natAbs<2 ^ 9000/\d.natAbs<2 ^ 9000,
   ⟨_,T,L,x,1,0,y,0,1,none,none,rfl,rfl,(Same.new v).trans (Same.new l),(by show upd _ L _ T=_;rw[ag pQ];exact zb),zb,Tb.GI.start x0 y0,Z,yb⟩,?_⟩
  clear l pQ;clear v T L;rintro n σ M ⟨T,L,e,r,u,d,p,q,G,I,rfl,rfl,sm,v,l,g,tb,J⟩;refine⟨_,rfl,L,_,_,_,rfl,rfl,SqT.of l,zj (j:=0) rfl,rfl,_,rfl,?_⟩
  by_cases c:d=0
  ·rw[show(!decide (V.int d=V.int 0))=false by rw[c];rfl]
   subst c;refine aQ ⟨_,rfl,_,rfl,zx (show 2<=100000 from ξ),fun R O=>?_⟩;have S:=Same.new (o:=.tup [.ref T,.ref L]) O;exact k R T L _ e r u p q (sm.trans S) zb (S _ _ v) (S _ _ l) g
  ·rw[show(!decide (V.int d=V.int 0))=true by rw[decide_eq_false (fun z=>c (by injection z))];rfl]
   obtain⟨g2,lt⟩:=g.next c;have tO:0<d:=by have:=g.lp;(first|lia|omega)
   have q0:0<=e / d:=Int.ediv_nonneg (Int.le_of_lt g.tp) g.lp;have xj:(e / d).natAbs<=e.natAbs:=Int.natAbs_ediv_le_natAbs _ _;have jG:=g.le;refine aW ⟨fun W H'=>∃Y,Y<d.natAbs/\∃(T L:Addr)(e r u d p q:Int)(G I:Option V),Y=d.natAbs/\W=[some (.int x),some (.int y),some (.ref T),some (.ref L),G,I]/\Same H H'/\Tr H' T e r u/\Tr H' L d p q/\Tb.GI x y e r u d p q/\e.natAbs<2 ^ 9000/\d.natAbs<2 ^ 9000,fun W H' h=>h,?_⟩;refine⟨_,rfl,T,_,_,_,rfl,rfl,SqT.of v,zj (j:=0) rfl,_,rfl,L,_,_,_,rfl,rfl,SqT.of l,zj (j:=0) rfl,_,_,rfl,rfl,⟨tO,J⟩,?_⟩;refine⟨_,rfl,_,rfl,T,L,rfl,⟨_,SqT.of v⟩,⟨_,SqT.of l⟩,fun D hD=>zt (K0 (rn:=[e,r,u]) (on:=[d,p,q]) (f:=fun a b=>a-e / d*b) (fun a b H' R _ hb O=>?_) v l (by simp) hD fun H4 X bG=>?_)⟩
   ·refine⟨_,rfl,_,rfl,_,rfl,_,_,rfl,rfl,⟨9000,9000,Au xj tb,?_,ξ⟩,_,_,rfl,rfl,O⟩
    simp at hb;rcases hb with rfl|rfl|rfl
    ·exact J
    ·exact Au jG.1 yb
    ·exact Au jG.2 Z
   ·refine⟨D,_,rfl,.inl ⟨SqL.of bG,fun N hN=>?_⟩⟩
    have s5:=Same.new (o:=.tup (([e-e / d*d,r-e / d*p,u-e / d*q]:List Int).map V.int)) hN;refine⟨_,rfl,_,rfl,(e-e / d*d).natAbs,by have:=g2.lp;(first|lia|omega),L,N,d,p,q,_,_,_,_,_,rfl,rfl,(sm.trans X).trans s5,(X.trans s5) _ _ l,zb,g2,J,?_⟩;have:=g2.lp;exact Nat.lt_trans ω J
end
end K28
end
section
namespace STb
open PySem PySem.SetTable PyProof.Rows cu PySem.W
section
variable{prog:Program}{w:World}{A:Around}{E:Ω}{s:Shared}{S:Addr}
def K3{T:String}{r d:Addr}{n:Nat}{P:Nat->Value->Prop}{j:Heap->Prop}{R:List Value->Shared->Prop}(K:KdlSrc prog w T r d n P j)(p:A.handled=none)(i:j s.heap)(u:n<=sizeLine)(h:∀(h':Heap)(tk:Nat)(acc:Array Value),s⁻¹<=h'.objs.size->(∀b o,s.heap.get? b=some o->h'.get? b=some o)->ItemsOf P acc n->R acc.toList {s with heap:=h',toks:=tk}):wpAny (model prog w) A (collect (.ref r)) R E s:=by
 obtain⟨hr,hd⟩:=K.there _ i;unfold collect;refine Af (wpAny_runValue (codeAny_builtin entry_proto_collect' ?_));rw[Around.under_plainId PySem.F.plain_proto_collect _];show wpAny _ A.in1 (do again (.builtin "list.__iadd__" ⟨[<-newList [],.ref r],[]⟩)) _ _ s;refine Af (wpAny_newObj_type (Ao ⟨plainId_quiet PySem.F.plain_list_iadd _,codeAny_builtin entry_list_iadd' ?_⟩));rw[Around.under_plainId PySem.F.plain_list_iadd _];show wpAny _ A.in1 (Builtin.List.listExtendWith (.ref s⁻¹) (.ref r) (.ref s⁻¹)) _ _ _;have fin:∀(h':Heap)(tk:Nat)(acc:Array Value)(c:Nat),(∀b o,s.heap.get? b=some o->h'.get? b=some o)->h'.get? s⁻¹=some {cls:=.type "list",dict:=none,data:=.seq acc c,slots:=#[]}->ItemsOf P acc n->
   wpAny (model prog w) A (do match (<-load s⁻¹).data with
    |.seq xs _=>pure xs.toList
    |_=>unsupported "internal:collect") R E {s with heap:=h',toks:=tk}:=fun h' tk acc c hk a g=>Af (wpAny_load a (Ao (h h' tk acc (Nat.le_of_lt (Aq a)) hk g)))
 refine wpAny_mono (kdl_extend (A:=A) (s:={s with heap:=s.heap.push {cls:=.type "list",data:=.seq ([]:List Value).toArray}})
  (R:=fun q s'=>∃h' tk acc c,q=Except.ok (Flow.ret (.ref s⁻¹))/\s'={s with heap:=h',toks:=tk}/\(∀b o,s.heap.get? b=some o->h'.get? b=some o)/\h'.get? s⁻¹=some {cls:=.type "list",dict:=none,data:=.seq acc c,slots:=#[]}/\ItemsOf P acc n)
  K p (K.keep _ _ i fun b _ o e=>Ai _ e) s⁻¹ (Nat.ne_of_gt hr) (Nat.ne_of_gt hd) (.ref s⁻¹) 0 (AM _ rfl)
  (fun h' tk acc c hk a g=>⟨h',tk,acc,c,rfl,rfl,fun b o e=>hk b o (AB (Aq e)) (Ai _ e),a,g⟩) u) (fun f s' x=>?_) fun e s' x=>?_
 ·cases f with
  |done f=>
   obtain⟨h',tk,acc,c,e,rfl,hk,a,g⟩:=x;cases e;exact fin h' tk acc c hk a g
  |again c₁=>
   refine⟨x.1,codeAny_mono x.2 fun q v y=>?_⟩;obtain⟨h',tk,acc,c,rfl,rfl,hk,a,g⟩:=y;exact fin h' tk acc c hk a g
 ·obtain⟨_,_,_,_,l,_⟩:=x
  cases l
end
end STb
namespace L2
open PySem PySem.Spec PyProof.Rows
section
variable{X:Cx}
def K4{ns:List Int}{a:List Value}{out:List Value}(hi:IntsAre a ns)(d:cu.Out (ns.map fun n=>[n]) a out):∃ms:List Int,Vals (ms.map V.int) out/\ms.Perm ns/\ms.Pairwise (·<=·):=by
 obtain⟨ps,hp,d,f⟩:=d;have j:a.length=ns.length:=hi.length;have all:∀p∈ps,∃n t,p.1=[n]/\p.2=Value.int n t:=fun p b=>by
  obtain⟨i,e⟩:=List.mem_iff_getElem?.mp (hp.mem_iff.mp b);rw[cu.cY,Aj] at e;cases e1:ns[i]? with
  |none=>rw[e1] at e;simp at e
  |some n=>
   obtain⟨t,e2⟩:=hi.get i n e1;rw[e1,e2] at e;simp only[Option.map_some,Option.bind_some,Option.some.injEq] at e;subst e;exact⟨n,t,rfl,rfl⟩
 have g:∀ps:List (List Int×Value),(∀p∈ps,∃n t,p.1=[n]/\p.2=Value.int n t)->Vals ((ps.map fun p=>p.1.headD 0).map V.int) (ps.map (·.2)):=by
  intro ps
  induction ps with
  |nil=>intro _;exact .nil
  |cons p ps ih=>
   intro h;obtain⟨n,t,e1,e2⟩:=h p AC;refine .cons ?_ (ih fun q hq=>h q (AG _ hq));show RelV (V.int (p.1.headD 0)) p.2;rw[e1,e2];exact⟨t,rfl⟩
 refine⟨ps.map fun p=>p.1.headD 0,by rw[d];exact g ps all,?_,?_⟩
 ·have h1:=hp.map (fun p:List Int×Value=>p.1.headD 0)
  have e:((ns.map fun n=>[n]).zip a).map (fun p:List Int×Value=>p.1.headD 0)=ns:=by
   rw[show(fun p:List Int×Value=>p.1.headD 0)=(fun l:List Int=>l.headD 0) ∘ Prod.fst from rfl,<-AS,List.map_fst_zip (by rw[Aa];lia),AS];exact List.map_id' ns
  rw[e] at h1;exact h1
 ·rw[List.pairwise_map]
  refine f.imp_of_mem fun{p q} h1 h2 c=>?_;obtain⟨n,t,e1,_⟩:=all p h1;obtain⟨m,t',e2,_⟩:=all q h2;rw[e1,e2,HT.pV] at c;rw[e1,e2];show n<=m
  by_cases e:m=n
  ·lia
  ·rw[if_neg e] at c
   have:=of_decide_eq_false c
   lia
end
end L2
end
section
namespace STb
open PySem PySem.SetTable PyProof.Rows cu PySem.W
section
variable{prog:Program}{w:World}{A:Around}{E:Ω}{s:Shared}
def K5{T:String}{r d:Addr}{n:Nat}{P:Nat->Value->Prop}{l:Heap->Prop}{ns:List Int}{Q:Ω}(K:KdlSrc prog w T r d n P l)(u:A.handled=none)(f:l s.heap)(v:n<64)(hi:∀acc:Array Value,ItemsOf P acc n->IntsAre acc.toList ns)(h:∀(D:Addr)(h':Heap)(tk e:Nat)(j:List Value)(out:Array Value),s⁻¹<=D->(∀b o,s.heap.get? b=some o->h'.get? b=some o)->h'.get? D=some (seqObj "list" out e)->IntsAre j ns->Out (ns.map fun n=>[n]) j out.toList->Q (.ref D) {s with heap:=h',toks:=tk}):wpAny (model prog w) A (call (.builtin "sorted") [.ref r]) Q E s:=by
 refine Calls.call_function_entry kind_sorted plain_sorted entry_sorted (args_sorted1 _) ?_;unfold Builtin.«sorted»;refine Af (m:=checkCount "sorted" 1 1 _) (Ao ?_);refine Af (K3 (A:=A.in1) K u f (by rw[sizeLine_eq];(first|lia|omega)) fun h' tk acc a hk g=>?_);have hi:=hi acc g;have i:acc.toList.length=n:=by rw[Array.length_toList];exact g.1
 refine Af (wpAny_newList ?_ (by rw[i,sizeLine_eq];(first|lia|omega)));have c:(h'.push (seqObj "list" acc.toList.toArray 0)).get? h'.objs.size=some (seqObj "list" acc.toList.toArray 0):=AM _ rfl;refine Af (wpAny_holding (wpAny_call_entry slot_list_sort ⟨_,c,rfl⟩ entry_list_sort (Kw (s:={s with heap:=h'.push (seqObj "list" acc.toList.toArray 0),toks:=tk}) (good:=fun _=>True) c (Kt hi) (fun _ _=>trivial) (by rw[i,sizeLine_eq];(first|lia|omega)) ω fun out p=>⟨_,rfl,?_⟩) (args_list_sort _)));obtain⟨e,q⟩:=sortedHeap_at (out:=out) c;refine Ao ⟨_,rfl,h h'.objs.size _ tk e acc.toList out a (fun b o e=>?_) q hi p⟩;have hb:b<h'.objs.size:=Aq (hk b o e);rw[sortedHeap_old (AB hb) (by rw[size_push'];exact Nat.lt_succ_of_lt hb)];exact Ai _ (hk b o e)
end
end STb
namespace L2
open PySem PySem.Spec PyProof.Rows
section
variable{X:Cx}
abbrev dZ(ps:List (Int×V)):HO:=.dK (ps.map fun p=>(Sum.inl p.1,p.2))
def ints_of{ps:List (Int×V)}:∀{m:List (Key×Value)}{a:List Value},KV (ps.map fun p=>((Sum.inl p.1:Key),p.2)) m->a.length=m.length->(∀(i:Nat) v,a[i]?=some v->∃k x,m[i]?=some (k,x)/\(dR X.prog X.w).is k v=true)->IntsAre a (ps.map (·.1)):=by
 induction ps with
 |nil=>
  intro m a q h1 _;cases q;cases a with
  |nil=>exact .nil
  |cons _ _=>simp at h1
 |cons p ps ih=>
  intro m a q h1 h2;cases q with
  |@cons _ q' _ qs hq t=>
   cases a with
   |nil=>simp at h1
   |cons v a=>
    obtain⟨k,x,g1,g2⟩:=h2 0 v rfl;simp only[List.getElem?_cons_zero,Option.some.injEq] at g1;have hk:(Sum.inl p.1:Key)=k:=by rw[g1] at hq;exact hq.1
    subst hk;obtain⟨t',e2⟩:∃t',v=Value.int p.1 t':=Kg g2;subst e2;exact .cons _ _ (ih t (by simpa using h1) fun i v e=>by simpa using h2 (i+1) v (by simpa using e))
def rV(hc:X.calm=true):kD X (.builtin "sorted") (fun xs H Q=>∃a ps,xs=[.ref a]/\H a=some (dZ ps)/\ps.length<64/\∀(D:Addr)(ms:List Int),ms.Perm (ps.map (·.1))->ms.Pairwise (·<=·)->H D=none->Q (.ref D) (upd H D (.lst (ms.map V.int)))):=by
 intro aa s σ H xs us Q I r h;obtain⟨a,ps,rfl,hq,hz,q⟩:=h;obtain⟨u,rfl,l⟩:=vals1 r;cases l;obtain⟨z,y,vs,rel,dd⟩:=Fd I.hok hq;obtain⟨ep,dd⟩:=dd.dictAt;have C:ps.length=vs.length:=by simpa using rel.length
 refine STb.K5 (ns:=ps.map (·.1)) (PySem.W.kdl_dict (knd:=dR X.prog X.w) (kvs:=vs) (ep:=ep) y) (I.ok.hd hc) dd ω (fun acc it=>ints_of (X:=X) rel (by simpa using it.1) fun i v e=>it.2 i v (by simpa using e)) fun D h' tk e A out c f g hi j=>?_;obtain⟨ks,p,d,x⟩:=K4 hi j;have hk:ks.length=ps.length:=by simpa using d.length_eq
 refine⟨.ref D,_,I.laid (o:=.lst (ks.map V.int)) (fun b u e=>f b u e) c (show zak X.prog X.w _ _ _ (.lst (ks.map V.int)) from⟨by rw[Aa,sizeLine_eq];(first|lia|omega),out.toList,e,p,by simpa using g⟩),rfl,q _ _ d x (I.hok.fresh c)⟩
end
end L2
end
section
namespace L2
open PySem PySem.Spec PyProof.Rows
section
variable{X:Cx}
def K6{kvs:List (Key×V)}(c:(kvs.map (·.1)).Nodup){k:Key}{v:V}(h:(k,v)∈kvs):b4 kvs k=some v:=by
 unfold b4
 induction kvs with
 |nil=>cases h
 |cons a r ih=>
  rw[AY,List.nodup_cons] at c;rcases List.mem_cons.mp h with e|e
  ·subst e
   simp
  ·have b:a.1≠k:=fun z=>c.1 (by rw[z];exact List.mem_map_of_mem (f:=(·.1)) e)
   rw[List.find?_cons_of_neg (by simpa using b)];exact ih c.2 e
def K7{kvs:List (Key×V)}{k:Key}(h:∀a∈kvs,a.1≠k):b4 kvs k=none:=by
 unfold b4;rw[List.find?_eq_none.mpr fun a hk=>by simpa using h a hk]
 rfl
end
end L2
end
section
namespace K28
open PySem L2
abbrev iR:Stmt:=top 31
abbrev ea(es:List (Nat×Addr)):List (Int×V):=es.map fun e=>((e.1:Int),V.ref e.2)
structure Fnd(H:Hp)(a:Addr)(es:List (Nat×Addr))(fr:Nat->List Int):Prop where
 at_:H a=some (dZ (ea es))
 nd:(es.map (·.1)).Nodup
 rows:∀e∈es,H e.2=some (.lst ((fr e.1).map V.int))
def Fnd.same{H H':Hp}{a:Addr}{es:List (Nat×Addr)}{fr:Nat->List Int}(h:Fnd H a es fr)(s:Same H H'):Fnd H' a es fr:=⟨s _ _ h.at_,h.nd,fun e b=>s _ _ (h.rows e b)⟩
def K8{c d:Type}{f:c->d}{l:List c}(g:∀a b,f a=f b->a=b)(h:l.Nodup):(l.map f).Nodup:=by
 rw[List.Nodup,List.pairwise_map];exact h.imp fun n e=>n (g _ _ e)
def Fnd.get{H:Hp}{a:Addr}{es:List (Nat×Addr)}{fr:Nat->List Int}(h:Fnd H a es fr){p:Nat}(hp:p∈es.map (·.1)):∃d,(p,d)∈es/\DGet H a (.int p) (some (.ref d))/\H d=some (.lst ((fr p).map V.int)):=by
 obtain⟨e,c,rfl⟩:=List.mem_map.mp hp;refine⟨e.2,c,?_,h.rows e c⟩;have:=DGet.k (k:=Sum.inl (e.1:Int)) h.at_;rw[K6 (v:=V.ref e.2) ?_ ?_] at this
 ·exact this
 ·have e2:((ea es).map fun p=>((Sum.inl p.1:Key),p.2)).map (·.1)=(es.map (·.1)).map fun n:Nat=>(Sum.inl (n:Int):Key):=by simp[ea,Function.comp_def]
  rw[e2];exact K8 (fun a b z=>by injection z with z;(first|lia|omega)) h.nd
 ·exact List.mem_map.mpr ⟨((e.1:Int),V.ref e.2),List.mem_map.mpr ⟨e,c,rfl⟩,rfl⟩
def cR(fr:Nat->List Int)(l:List Int)(p:Nat):List Int:=c4 l (l.getD p 0 / (fr p).getD p 0) (fr p)
def au(fr:Nat->List Int)(rn:List Int)(ps:List Nat):List Int:=ps.foldl (cR fr) rn
structure j8(fr:Nat->List Int)(W:Nat)(rn:List Int)(ps:List Nat):Prop where
 len:rn.length=W
 most:W<=1000
 row:∀p∈ps,p<W/\(fr p).length=W/\FN 0 ((fr p).getD p 0)
 mul:∀i p,ps[i]?=some p->∀x∈fr p,eR ((au fr rn (ps.take i)).getD p 0 / (fr p).getD p 0) x
def Du{fr:Nat->List Int}{l:List Int}{p W:Nat}(h:l.length=W)(h2:(fr p).length=W):(cR fr l p).length=W:=by
 unfold cR c4;rw[Az];(first|lia|omega)
def nM{fr:Nat->List Int}{W:Nat}:∀{ps:List Nat}{rn:List Int},rn.length=W->(∀p∈ps,(fr p).length=W)->(au fr rn ps).length=W
 |[],_,h,_=>h
 |p::ps,rn,h,h2=>nM (ps:=ps) (Du h (h2 p (AC ..))) fun q hq=>h2 q (AG _ hq)
def Bs{fr:Nat->List Int}{rn:List Int}{ps:List Nat}{i p:Nat}(h:ps[i]?=some p):au fr rn (ps.take (i+1))=cR fr (au fr rn (ps.take i)) p:=by
 rw[take_snoc h];unfold au;rw[List.foldl_append];rfl
def Dv{l on:List Int}(h:l.length=on.length):c4 l 0 on=l:=by
 unfold c4;refine AV (by rw[Az];(first|lia|omega)) fun i h1 h2=>?_;rw[AX];(first|lia|omega)
section
variable{P:Program}{w:World}{K:Ah}{mg:Str->Option Value}{base:Heap}
def FY:Sp:=fun vs H Q _=>∃(r a pl:Addr)(rn:List Int)(es:List (Nat×Addr))(fr:Nat->List Int)(ps:List Nat)(W:Nat),vs=[.ref r,.ref a,.ref pl]/\H r=some (.lst (rn.map V.int))/\Fnd H a es fr/\H pl=some (.lst (ps.map fun p:Nat=>V.int (p:Int)))/\
 (∀p∈ps,p∈es.map (·.1))/\j8 fr W rn ps/\∀D H',Same H H'->H' D=some (.lst ((au fr rn ps).map V.int))->Q (.ref D) H'
def r_:zo ["row","found","places","left","place","often"] ["row","found","places"] (zf iR):=⟨rfl,rfl,rfl,δ,rfl,δ,δ⟩
def K9{f o:Addr}{fd u:FuncData}(F:Fun K "reduced" "reduced" iR f fd)(Fl:Fun K "less" "less" jW o u)(bl:Binds K u ["row","often","other"] [])(N:mg "less"=some (.ref o))(Gl:am P w K mg base ar 1 o u ["row","often","other"] rq):am P w K mg base ar 2 f fd ["row","found","places"] FY:=by
 refine F.ok r_ (fun vs H Q E h=>?_) (fun O A outer s H vs Q E hr h=>?_)
 ·obtain⟨r,a,pl,rn,es,fr,ps,W,rfl,_⟩:=h;rfl
 ·obtain⟨r,a,pl,rn,es,fr,ps,W,rfl,h1,J,b,L,ok,k⟩:=h
  have C:=xT hr;refine⟨_,zd (zp (i:=3) r_.nd rfl (Or.inl rfl) (pv 0))
   (zd (iD PassesOwn.never rfl (zG (pv 2)) (zl (i:=4) r_.nd rfl (Or.inl rfl))
    (zd (zp (i:=5) r_.nd rfl (Or.inl rfl) (zD Dp (zw zq (pv 3) (pv 4) (fun _ _=>rfl)) (zw zq (kI C (pv 1) (pv 4) (fun _ _=>rfl)) (pv 4) (fun _ _=>rfl))))
    (zh (c3 (zA iJ (pv 5) ze (ao _))
     (zh (zp (i:=3) r_.nd rfl (Or.inl rfl) (zg Gl hr rfl N Fl.kp bl .nil af (za (pv 3) (za (pv 5) (za (kI C (pv 1) (pv 4) (fun _ _=>rfl)) zc)))))) zT))))
   (zh (zB (pv 3)))),?_⟩
  refine⟨_,rfl,_,rfl,pl,rfl,⟨_,SqL.of b⟩,pK (K:=K) (a:=pl) (xs:=ps.map fun p:Nat=>V.int (p:Int)) (fun i σ H2=>∃(d:Addr)(j l:Option V),σ=[some (.ref r),some (.ref a),some (.ref pl),some (.ref d),j,l]/\Same H H2/\H2 d=some (.lst ((au fr rn (ps.take i)).map V.int)))
   ⟨r,none,none,rfl,Same.refl H,h1⟩ (fun i σ H2 _ ⟨_,_,_,_,sm,_⟩=>SqL.of (sm _ _ b)) ?_ ?_⟩
  ·rintro i x σ H2 hx ⟨d,j,l,rfl,sm,hd⟩
   obtain⟨p,hp,rfl⟩:∃p,ps[i]?=some p/\x=V.int (p:Int):=by
    rw[Aj] at hx;cases e:ps[i]? with
    |none=>rw[e] at hx;cases hx
    |some p=>rw[e] at hx;cases hx;exact⟨p,rfl,rfl⟩
   have G:=Al hp;obtain⟨S,T,M⟩:=ok.row p G;obtain⟨c,hc,v,y⟩:=(J.same sm).get (L p G);have U:(au fr rn (ps.take i)).length=W:=nM ok.len fun q hq=>(ok.row q (List.mem_of_mem_take hq)).2.1;have g1:((au fr rn (ps.take i)).map V.int)[p]?=some (V.int ((au fr rn (ps.take i)).getD p 0)):=by
    rw[Aj,Ab,Ac ω];rfl
   have g2:((fr p).map V.int)[p]?=some (V.int ((fr p).getD p 0)):=by
    rw[Aj,Ab,Ac ω];rfl
   refine⟨_,rfl,_,rfl,d,_,_,_,rfl,rfl,SqL.of hd,zj g1,_,rfl,_,rfl,a,_,rfl,v,_,rfl,c,_,_,_,rfl,rfl,SqL.of y,zj g2,_,_,rfl,rfl,M,?_⟩;refine⟨_,rfl,rfl,_,rfl,?_⟩
   by_cases z:(au fr rn (ps.take i)).getD p 0 / (fr p).getD p 0=0
   ·rw[show(!decide (V.int ((au fr rn (ps.take i)).getD p 0 / (fr p).getD p 0)=V.int 0))=false by rw[z];rfl]
    refine aQ ⟨d,_,_,rfl,sm,?_⟩;rw[Bs hp,cR,z,Dv ω];exact hd
   ·rw[show(!decide (V.int ((au fr rn (ps.take i)).getD p 0 / (fr p).getD p 0)=V.int 0))=true by rw[decide_eq_false (fun e=>z (by injection e))];rfl]
    refine aW ⟨_,rfl,_,rfl,_,rfl,_,rfl,a,_,rfl,v,d,c,_,_,_,rfl,hd,y,by have:=ok.most;(first|lia|omega),ok.mul i p hp,fun D X I _ g=>?_⟩;refine⟨D,_,_,rfl,sm.trans I,?_⟩;rw[Bs hp];exact g
  ·rintro σ H2 ⟨d,j,l,rfl,sm,hd⟩
   rw[Aa,Ar (Ad _)] at hd;exact⟨_,rfl,k d H2 sm hd⟩
end
abbrev iS:Stmt:=top 37
def sA:Bk "sorted"=some (.builtin "sorted"):=δ
structure Pls(es:List (Nat×Addr))(ps:List Nat):Prop where
 pm:ps.Perm (es.map (·.1))
 so:ps.Pairwise (·<=·)
def Pls.ints{es:List (Nat×Addr)}{ps:List Nat}(h:Pls es ps){ms:List Int}(h1:ms.Perm ((ea es).map (·.1)))(h2:ms.Pairwise (·<=·)):ms.map V.int=ps.map fun p:Nat=>V.int (p:Int):=by
 have e:ms=ps.map fun p:Nat=>(p:Int):=by
  refine List.Perm.eq_of_pairwise (le:=(·<=·)) (fun a b _ _ x y=>Int.le_antisymm x y) h2 ?_ (h1.trans ?_)
  ·rw[List.pairwise_map];exact h.so.imp fun z=>ω
  ·have:(ea es).map (·.1)=(es.map (·.1)).map fun p:Nat=>(p:Int):=by simp[ea,Function.comp_def]
   rw[this];exact(h.pm.map _).symm
 rw[e,AS];rfl
def Pls.len{es:List (Nat×Addr)}{ps:List Nat}(h:Pls es ps):ps.length=es.length:=by rw[h.pm.length_eq,Aa]
def shrL(fr:Nat->List Int):List Int->List Nat->List Int
 |_,[]=>[]
 |l,p::ps=>(l.getD p 0 / (fr p).getD p 0)::shrL fr (cR fr l p) ps
def FZ{fr:Nat->List Int}:∀{ps:List Nat}{rn:List Int}{i p:Nat},ps[i]?=some p->(shrL fr rn ps)[i]?=some ((au fr rn (ps.take i)).getD p 0 / (fr p).getD p 0)
 |[],_,_,_,h=>by simp at h
 |q::ps,rn,0,p,h=>by simp at h;subst h;rfl
 |q::ps,rn,i+1,p,h=>by
  have:=FZ (fr:=fr) (ps:=ps) (rn:=cR fr rn q) (i:=i) (p:=p) (by simpa using h)
  simpa[shrL,au] using this
def sC{fr:Nat->List Int}:∀{ps:List Nat}{rn:List Int},(shrL fr rn ps).length=ps.length
 |[],_=>rfl
 |q::ps,rn=>by simp[shrL,sC (ps:=ps)]
section
variable{P:Program}{w:World}{K:Ah}{mg:Str->Option Value}{base:Heap}
def Dw:Sp:=fun vs H Q _=>∃(r a:Addr)(rn:List Int)(es:List (Nat×Addr))(fr:Nat->List Int)(ps:List Nat)(W:Nat),vs=[.ref r,.ref a]/\H r=some (.lst (rn.map V.int))/\Fnd H a es fr/\Pls es ps/\es.length<64/\j8 fr W rn ps/\nF H Q (shrL fr rn ps)
def nU:zo ["row","found","told","left","place","often"] ["row","found"] (zf iS):=⟨rfl,rfl,rfl,δ,rfl,δ,δ⟩
def K_{f N:Addr}{fd O:FuncData}(F:Fun K "shares_of" "shares_of" iS f fd)(bs:mg "sorted"=none)(Fl:Fun K "less" "less" jW N O)(bl:Binds K O ["row","often","other"] [])(ml:mg "less"=some (.ref N))(Gl:am P w K mg base ar 1 N O ["row","often","other"] rq):am P w K mg base ar 2 f fd ["row","found"] Dw:=by
 refine F.ok nU (fun vs H Q E h=>?_) (fun ai A outer s H vs Q E hr h=>?_)
 ·obtain⟨r,a,rn,es,fr,ps,W,rfl,_⟩:=h;rfl
 ·obtain⟨r,a,rn,es,fr,ps,W,rfl,h1,u,pls,eF,ok,k⟩:=h
  have X:=xT hr;refine⟨_,zd (zp (i:=2) nU.nd rfl (Or.inl rfl) (ek zc))
   (zd (zp (i:=3) nU.nd rfl (Or.inl rfl) (pv 0))
   (zd (iD PassesOwn.never rfl (zG (zv (rV rfl) rfl bs sA (za (pv 1) zc))) (zl (i:=4) nU.nd rfl (Or.inl rfl))
    (zd (zp (i:=5) nU.nd rfl (Or.inl rfl) (zD Dp (zw zq (pv 3) (pv 4) (fun _ _=>rfl)) (zw zq (kI X (pv 1) (pv 4) (fun _ _=>rfl)) (pv 4) (fun _ _=>rfl))))
    (zd (kw (CS PySem.F.plainAttrs_list PySem.F.slot_list_append PySem.F.type_list_append E7 (pv 2) (za (pv 5) zc)))
    (zh (c3 (zA iJ (pv 5) ze (ao _))
     (zh (zp (i:=3) nU.nd rfl (Or.inl rfl) (zg Gl hr rfl ml Fl.kp bl .nil af (za (pv 3) (za (pv 5) (za (kI X (pv 1) (pv 4) (fun _ _=>rfl)) zc)))))) zT)))))
   (zh (zB (pv 2))))),?_⟩
  refine⟨ξ,fun T l=>⟨_,rfl,_,rfl,a,ea es,rfl,?_,(by simpa using eF),fun j ms pm so S=>⟨j,rfl,⟨_,SqL.of zb⟩,?_⟩⟩⟩
  ·have:a≠T:=zk u.at_ l
   rw[ag this];exact u.at_
  rw[pls.ints pm so];have Y:T≠j:=zk zb S;have Z:Same H (upd (upd H T (.lst [])) j (.lst (ps.map fun p:Nat=>V.int (p:Int)))):=(Same.new l).trans (Same.new S);have yS:=pls.len;refine pK (K:=K) (a:=j) (xs:=ps.map fun p:Nat=>V.int (p:Int)) (fun i σ H2=>∃(d:Addr)(C G:Option V),σ=[some (.ref r),some (.ref a),some (.ref T),some (.ref d),C,G]/\Same H H2/\H2 j=some (.lst (ps.map fun p:Nat=>V.int (p:Int)))/\H2 T=some (.lst (((shrL fr rn ps).take i).map V.int))/\H2 d=some (.lst ((au fr rn (ps.take i)).map V.int))/\d≠T)
   ⟨r,none,none,rfl,Z,zb,by rw[ag Y];exact zb,Z _ _ h1,zk h1 l⟩ (fun i σ H2 _ ⟨_,_,_,_,_,h,_⟩=>SqL.of h) ?_ ?_
  ·rintro i x σ H2 hx ⟨d,C,G,rfl,sm,U,o,hd,I⟩
   obtain⟨p,hp,rfl⟩:∃p,ps[i]?=some p/\x=V.int (p:Int):=by
    rw[Aj] at hx;cases e:ps[i]? with
    |none=>rw[e] at hx;cases hx
    |some p=>rw[e] at hx;cases hx;exact⟨p,rfl,rfl⟩
   have gl:=Al hp;obtain⟨pW,fW,cd⟩:=ok.row p gl;have oZ:p∈es.map (·.1):=pls.pm.mem_iff.mp gl;obtain⟨c,hc,J,L⟩:=(u.same sm).get oZ;have ax:(au fr rn (ps.take i)).length=W:=nM ok.len fun q hq=>(ok.row q (List.mem_of_mem_take hq)).2.1;have g1:((au fr rn (ps.take i)).map V.int)[p]?=some (V.int ((au fr rn (ps.take i)).getD p 0)):=by
    rw[Aj,Ab,Ac ω];rfl
   have g2:((fr p).map V.int)[p]?=some (V.int ((fr p).getD p 0)):=by
    rw[Aj,Ab,Ac ω];rfl
   have g3:=FZ (fr:=fr) (rn:=rn) hp;refine⟨_,rfl,_,rfl,d,_,_,_,rfl,rfl,SqL.of hd,zj g1,_,rfl,_,rfl,a,_,rfl,J,_,rfl,c,_,_,_,rfl,rfl,SqL.of L,zj g2,_,_,rfl,rfl,cd,?_⟩;refine⟨_,rfl,.inl ⟨rfl,_,SqL.of o⟩,_,rfl,T,_,_,rfl,rfl,o,by rw[sizeLine_eq,Aa,List.length_take,sC];(first|lia|omega),?_⟩;have e4:((shrL fr rn ps).take i).map V.int++[V.int ((au fr rn (ps.take i)).getD p 0 / (fr p).getD p 0)]=((shrL fr rn ps).take (i+1)).map V.int:=by rw[take_snoc g3,Ap];rfl
   rw[e4];have v:Same H (upd H2 T (.lst (((shrL fr rn ps).take (i+1)).map V.int))):=sm.then l;have M:upd H2 T (.lst (((shrL fr rn ps).take (i+1)).map V.int)) j=some (.lst (ps.map fun p:Nat=>V.int (p:Int))):=by rw[ag Y.symm];exact U
   have g:upd H2 T (.lst (((shrL fr rn ps).take (i+1)).map V.int)) d=some (.lst ((au fr rn (ps.take i)).map V.int)):=by rw[ag I];exact hd
   have b:upd H2 T (.lst (((shrL fr rn ps).take (i+1)).map V.int)) T=some (.lst (((shrL fr rn ps).take (i+1)).map V.int)):=zb;generalize upd H2 T (.lst (((shrL fr rn ps).take (i+1)).map V.int))=H3 at v M g b ⊢;refine⟨_,rfl,rfl,_,rfl,?_⟩
   by_cases z:(au fr rn (ps.take i)).getD p 0 / (fr p).getD p 0=0
   ·rw[show(!decide (V.int ((au fr rn (ps.take i)).getD p 0 / (fr p).getD p 0)=V.int 0))=false by rw[z];rfl]
    refine aQ ⟨d,_,_,rfl,v,M,b,?_,I⟩;rw[Bs hp,cR,z,Dv ω];exact g
   ·rw[show(!decide (V.int ((au fr rn (ps.take i)).getD p 0 / (fr p).getD p 0)=V.int 0))=true by rw[decide_eq_false (fun e=>z (by injection e))];rfl]
    obtain⟨c,hc,J,L⟩:=(u.same v).get oZ;refine aW ⟨_,rfl,_,rfl,_,rfl,_,rfl,a,_,rfl,J,d,c,_,_,_,rfl,g,L,by have:=ok.most;(first|lia|omega),ok.mul i p hp,fun D H4 y hD bG=>?_⟩;refine⟨D,_,_,rfl,v.trans y,y _ _ M,y _ _ b,?_,(zk b hD).symm⟩;rw[Bs hp];exact bG
  ·rintro σ H2 ⟨d,C,G,rfl,sm,U,o,hd,I⟩
   rw[Aa,Ar (by rw[sC];exact Ad _)] at o;exact⟨_,rfl,k T H2 sm l o⟩
end
end K28
end
section
namespace Tb
def cC(N X B:Nat):Nat:=N*(B*X)
def cW(N B:Nat):Nat:=2*B*B*(1+2*B*B) ^ N
def cG(N B:Nat):Nat:=2*B*(1+N*cW N B)
def cK(N M X B:Nat):Nat:=1+cC N X B+N*(M*(1+B) ^ N*cC N X B)
def n7{a b:Nat}(c:1<=a)(hb:1<=b):1<=a*b:=Nat.mul_pos c hb
def Bu{N B:Nat}(a:1<=B):1<=cG N B:=n7 (n7 ξ a) ω
def Rep.more{R:List Vc}{C:Nat}{v r:Vc}(h:Rep R C v):Rep (R++[r]) C v:=by
 obtain⟨c,h1,h2,e⟩:=h;have d:∀(c:List Int)(R:List Vc),c.length=R.length->∀u,cmb (c++[0]) (R++[r]) u=cmb c R u:=by
  intro c
  induction c with
  |nil=>intro R b u;rw[AH b.symm];show 0*r u+0=0;(first|lia|omega)
  |cons a c ih=>
   intro R b u;cases R with
   |nil=>simp at b
   |cons s R=>show a*s u+cmb (c++[0]) (R++[r]) u=a*s u+cmb c R u;rw[ih R (by simpa using b)]
 refine⟨c++[0],by simp[h1],fun u=>by rw[d c R h1,h2],fun x hx=>?_⟩;rcases List.mem_append.mp hx with h|h
 ·exact e x h
 ·rw[List.mem_singleton.mp h];exact Aw _
def Sp.more{R:List Vc}{v:Vc}(h:Sp R v)(S:List Vc)(a:∀r∈R,r∈S):Sp S v:=h.trans fun r hr=>Sp.mem (a r hr)
def Sp.redu{f:Nat->Vc}{S:List Vc}:∀(ps:List Nat){l:Vc},(∀p∈ps,Sp S (f p))->(Sp S l↔Sp S (aX f ps l))
 |[],_,_=>Iff.rfl
 |p::ps,l,h=>by
  refine Iff.trans ?_ (Sp.redu ps fun q hq=>h q (.tail _ hq));exact⟨fun a=>a.sub (h p (.head _)) _,fun a=>(a.sub (h p (.head _)) (-(l p / f p p))).eq fun u=>by unfold step;rw[Int.neg_mul];(first|lia|omega)⟩
structure TS(N M X B:Nat)(R:List Vc)(P:List Nat)(f:Nat->Vc)(l:Vc)(t:Nat):Prop where
 ech:Ech P f
 srt:P.Pairwise (·<·)
 len:P.length+1=R.length
 few:R.length<=N
 fr:∀p∈P,Rep R (cK N M X B*cG N B ^ (P.filter fun p=>decide (p<t)).length) (f p)
 lr:Rep R (cK N M X B*cG N B ^ (P.filter fun p=>decide (p<t)).length) l
 gen:∀r∈R,Sp (P.map f++[l]) r
 low:∀i,i<t->l i=0
 red:∀p∈P,0<=l p/\l p<f p p
 piv:∀p∈P,(f p p).natAbs<=B
 fv:∀p∈P,∀q∈P,(f p q).natAbs<=2*B*B
 fo:∀p∈P,t<=p->∀q∈P,(f p q).natAbs<=B
def put(f:Nat->Vc)(p:Nat)(v:Vc):Nat->Vc:=fun q=>if q=p then v else f q
def zQ{f:Nat->Vc}{p:Nat}{v:Vc}:put f p v p=v:=if_pos rfl
def dn{f:Nat->Vc}{p q:Nat}{v:Vc}(h:q≠p):put f p v q=f q:=if_neg h
def mix(a:Int)(v:Vc)(b:Int)(w:Vc):Vc:=fun u=>a*v u+b*w u
def TS.next{N M X B:Nat}{R:List Vc}{P:List Nat}{f:Nat->Vc}{l:Vc}{t p:Nat}{g a b c d:Int}(hB:1<=B)(T:TS N M X B R P f l t)(hp:p∈P)(A:∀i,i<p->l i=0)(oB:l p≠0)(jB:t<=p)(G:GI (f p p) (l p) g a b 0 c d):TS N M X B R P (put f p (mix a (f p) b l)) (aX (put f p (mix a (f p) b l)) P (mix c (f p) d l)) (p+1)/\Ech P (put f p (mix a (f p) b l)):=by
 have hG:=Bu (N:=N) hB;have x0:=T.ech.pos p hp;obtain⟨r0,r1⟩:=T.red p hp;have L:=T.piv p hp;obtain⟨c1,c2⟩:=G.le;have a1:a.natAbs<=B:=Ae G.b1 ω;have O:b.natAbs<=B:=Ae G.b2 L;have c1:c.natAbs<=B:=Ae c1 ω;have d1:d.natAbs<=B:=Ae c2 L;have lq:∀q∈P,(l q).natAbs<=B:=fun q hq=>by have:=T.red q hq;have:=T.piv q hq;(first|lia|omega)
 have fp:=T.fo p hp jB;have S:∀{a b:Int},a.natAbs<=B->b.natAbs<=B->∀q∈P,(mix a (f p) b l q).natAbs<=2*B*B:=fun{a b} H hb q hq=>by
  have t1:(a*f p q).natAbs<=B*B:=by rw[AF];exact AO H (fp q hq)
  have t2:(b*l q).natAbs<=B*B:=by rw[AF];exact AO hb (lq q hq)
  have t3:=Int.natAbs_add_le (a*f p q) (b*l q);show(a*f p q+b*l q).natAbs<=_;rw[AN];generalize B*B=Y at t1 t2 ⊢;(first|lia|omega)
 have C:mix a (f p) b l p=g:=by show a*f p p+b*l p=g;exact G.t.symm
 have g1:=G.tp;have jG:g.natAbs<=B:=by
  have U:=G.m2;rw[Int.natAbs_zero,Nat.mul_zero,Nat.add_zero] at U;rcases Nat.eq_zero_or_pos d.natAbs with z|z
  ·rw[z,Nat.zero_mul] at U;(first|lia|omega)
  ·have:1*g.natAbs<=d.natAbs*g.natAbs:=Am _ z
   (first|lia|omega)
 have j:Ech P (put f p (mix a (f p) b l)):=by
  refine⟨fun q hq i hi=>?_,fun q hq=>?_⟩
  ·by_cases e:q=p
   ·subst e;rw[zQ];show a*f q i+b*l i=0;rw[T.ech.z q hq i hi,A i hi];(first|lia|omega)
   ·rw[dn e];exact T.ech.z q hq i hi
  ·by_cases e:q=p
   ·subst e;rw[zQ,C];exact g1
   ·rw[dn e];exact T.ech.pos q hq
 refine⟨?_,j⟩;have D:P.length<=N:=by have:=T.len;have:=T.few;(first|lia|omega)
 generalize hK:cK N M X B*cG N B ^ (P.filter fun p=>decide (p<t)).length=K;have fr:=T.fr;have W:=T.lr;rw[hK] at fr W;have mr:∀{a b:Int},a.natAbs<=B->b.natAbs<=B->Rep R (2*B*K) (mix a (f p) b l):=fun{a b} H hb=>((fr p hp).lin W H hb).mono (by rw[AN];(first|lia|omega));have kl:K<=2*B*K:=Nat.le_mul_of_pos_left _ ω;have di:∀q∈P,Rep R (2*B*K) (put f p (mix a (f p) b l) q):=fun q hq=>by
  by_cases e:q=p
  ·subst e;rw[zQ];exact mr a1 O
  ·rw[dn e];exact(fr q hq).mono kl
 have E:∀q∈P,∀r∈P,(put f p (mix a (f p) b l) q r).natAbs<=2*B*B:=fun q hq r hr=>by
  by_cases e:q=p
  ·subst e;rw[zQ];exact S a1 O r hr
  ·rw[dn e];exact T.fv q hq r hr
 obtain⟨kx,yr⟩:=k8 di E j.pos P (fun q hq=>hq) (mr c1 d1) (S c1 d1);have cnt:(P.filter fun q=>decide (q<t)).length+1<=(P.filter fun q=>decide (q<p+1)).length:=by
  have h1:(P.filter fun q=>decide (q<t))++[p] ⊆ P.filter fun q=>decide (q<p+1):=fun q hq=>by
   rcases List.mem_append.mp hq with h|h
   ·obtain⟨h1,h2⟩:=List.mem_filter.mp h
    have:=of_decide_eq_true h2;exact List.mem_filter.mpr ⟨h1,decide_eq_true ω⟩
   ·rw[List.mem_singleton.mp h];exact List.mem_filter.mpr ⟨hp,decide_eq_true ω⟩
  have nd:P.Nodup:=T.srt.imp fun h=>AB h;have J:((P.filter fun q=>decide (q<t))++[p]).Nodup:=by
   rw[List.nodup_append];refine⟨nd.filter _,by simp,fun x hx y hy=>?_⟩;rw[List.mem_singleton.mp hy];have:=of_decide_eq_true (List.mem_filter.mp hx).2;(first|lia|omega)
  have:=J.length_le_of_subset h1
  simpa using this
 have o:2*B*K+P.length*(2*B*B*(1+2*B*B) ^ P.length*(2*B*K))<=cG N B*K:=by
  unfold cG cW;have h1:(1+2*B*B) ^ P.length<=(1+2*B*B) ^ N:=Ax ω D;generalize 2*B*B=Y at h1 ⊢;have h2:P.length*(Y*(1+Y) ^ P.length*(2*B*K))<=N*(Y*(1+Y) ^ N*(2*B*K)):=AO D (Am _ (Ak _ h1));refine Ae (Nat.add_le_add_left h2 _) (Nat.le_of_eq ?_);generalize Y*(1+Y) ^ N=Z;generalize 2*B=Q;rw[Nat.mul_add,Nat.mul_one,Nat.add_mul,<-AN N Z,Nat.mul_comm Q (N*Z),AN (N*Z)]
 have v:cG N B*K<=cK N M X B*cG N B ^ (P.filter fun q=>decide (q<p+1)).length:=by
  rw[<-hK,Nat.mul_left_comm,<-Nat.pow_succ'];exact Ak _ (Ax hG cnt)
 have two:2*B*K<=cG N B*K:=Ae (A6 _ _) o;have F:=G.det;refine⟨j,T.srt,T.len,T.few,fun q hq=>(di q hq).mono (Ae two v),kx.mono (Ae o v),fun r hr=>?_,?_,fun q hq=>y' j T.srt q hq,fun q hq=>?_,E,fun q hq hlt r hr=>?_⟩
 ·-- eN old rows out of eN new ones
  have S1:∀q∈P,Sp (P.map (put f p (mix a (f p) b l))++[aX (put f p (mix a (f p) b l)) P (mix c (f p) d l)]) (put f p (mix a (f p) b l) q):=fun q hq=>Sp.mem (List.mem_append_left _ (List.mem_map.mpr ⟨q,hq,rfl⟩));have S2:=(Sp.redu P (l:=mix c (f p) d l) S1).mpr (Sp.mem (AA _ (List.mem_singleton.mpr rfl)));have Sp1:=S1 p hp;rw[zQ] at Sp1;have ef:∀{x y z w:Int},(a*d-b*c=1\/a*d-b*c=-1)->∀u,x=(a*d-b*c)*d->y=(a*d-b*c)*(-b)->x*mix a (f p) b l u+y*mix c (f p) d l u=f p u:=fun{x y z w} hd u ex I=>by
   subst ex I;show(a*d-b*c)*d*(a*f p u+b*l u)+(a*d-b*c)*(-b)*(c*f p u+d*l u)=f p u;have e:(a*d-b*c)*d*(a*f p u+b*l u)+(a*d-b*c)*(-b)*(c*f p u+d*l u)=(a*d-b*c)*(a*d-b*c)*f p u:=by
    rw[AT,AT,AT,<-Int.mul_add]
    congr 1
    rw[Int.mul_add,Int.mul_add,Int.neg_mul,Int.neg_mul,<-AT,<-AT,<-AT,<-AT,Int.sub_mul,Be d a,Be d b];(first|lia|omega)
   rw[e];rcases hd with h|h<;>rw[h]<;>(first|lia|omega)
  have el:∀{x y:Int},(a*d-b*c=1\/a*d-b*c=-1)->∀u,x=(a*d-b*c)*(-c)->y=(a*d-b*c)*a->x*mix a (f p) b l u+y*mix c (f p) d l u=l u:=fun{x y} hd u ex I=>by
   subst ex I;show(a*d-b*c)*(-c)*(a*f p u+b*l u)+(a*d-b*c)*a*(c*f p u+d*l u)=l u;have e:(a*d-b*c)*(-c)*(a*f p u+b*l u)+(a*d-b*c)*a*(c*f p u+d*l u)=(a*d-b*c)*(a*d-b*c)*l u:=by
    rw[AT,AT,AT,<-Int.mul_add]
    congr 1
    rw[Int.mul_add,Int.mul_add,Int.neg_mul,Int.neg_mul,<-AT,<-AT,<-AT,<-AT,Int.sub_mul,Be c a,Be c b];(first|lia|omega)
   rw[e];rcases hd with h|h<;>rw[h]<;>(first|lia|omega)
  have Sf:=(Sp1.lin S2 ((a*d-b*c)*d) ((a*d-b*c)*(-b))).eq (w:=f p) fun u=>(ef (z:=0) (w:=0) F u rfl rfl).symm;have Sl:=(Sp1.lin S2 ((a*d-b*c)*(-c)) ((a*d-b*c)*a)).eq (w:=l) fun u=>(el F u rfl rfl).symm;refine(T.gen r hr).trans fun s hs=>?_;rcases List.mem_append.mp hs with h|h
  ·obtain⟨q,hq,rfl⟩:=List.mem_map.mp h
   by_cases e:q=p
   ·subst e;exact Sf
   ·have:=S1 q hq
    rw[dn e] at this;exact this
  ·rw[List.mem_singleton.mp h];exact Sl
 ·refine FU j fun i hi=>?_
  show c*f p i+d*l i=0
  by_cases e:i=p
  ·subst e;exact G.l.symm
  ·rw[T.ech.z p hp i ω,A i ω];(first|lia|omega)
 ·by_cases e:q=p
  ·subst e;rw[zQ,C];exact jG
  ·rw[dn e];exact T.piv q hq
 ·rw[dn (show q≠p from ω)];exact T.fo q hq ω r hr
def ins(q:Nat):List Nat->List Nat
 |[]=>[q]
 |p::P=>if q<p then q::p::P else p::ins q P
def mem_ins{q x:Nat}:∀{P:List Nat},x∈ins q P↔x=q\/x∈P
 |[]=>by simp[ins]
 |p::P=>by
  unfold ins;split
  ·simp
  ·rw[List.mem_cons,mem_ins,List.mem_cons]
   constructor
   ·rintro(h|h|h)
    ·exact .inr (.inl h)
    ·exact .inl h
    ·exact .inr (.inr h)
   ·rintro(h|h|h)
    ·exact .inr (.inl h)
    ·exact .inl h
    ·exact .inr (.inr h)
def n_{q:Nat}:∀{P:List Nat},(ins q P).length=P.length+1
 |[]=>rfl
 |p::P=>by unfold ins;split<;>simp[n_]
def F0{q:Nat}:∀{P:List Nat},P.Pairwise (·<·)->q∉P->(ins q P).Pairwise (·<·)
 |[],_,_=>by simp[ins]
 |p::P,h,hn=>by
  rw[A9] at h;unfold ins;split
  ·rename_i hlt
   rw[A9,A9];refine⟨fun x hx=>?_,h⟩;rcases List.mem_cons.mp hx with rfl|hx
   ·exact hlt
   ·exact Nat.lt_trans hlt (h.1 x hx)
  ·rename_i hlt
   rw[A9];refine⟨fun x hx=>?_,F0 h.2 fun z=>hn (.tail _ z)⟩;rcases mem_ins.mp hx with rfl|hx
   ·have:x≠p:=fun z=>hn (z▸.head _)
    (first|lia|omega)
   ·exact h.1 x hx
def aZ(f:Nat->Vc):List Nat->Nat->Vc
 |[]=>f
 |p::ps=>put (aZ f ps) p (aX (aZ f ps) ps (f p))
section
variable{f:Nat->Vc}
def F_:∀{ps:List Nat}{q:Nat},q∉ps->aZ f ps q=f q
 |[],_,_=>rfl
 |p::ps,q,h=>by
  show put (aZ f ps) p _ q=f q;rw[dn (show q≠p from fun z=>h (by rw[z];exact .head _)),F_ fun z=>h (.tail _ z)]
def oe{p q:Nat}{ps:List Nat}(h:q≠p):aZ f (p::ps) q=aZ f ps q:=dn h
def sH{p:Nat}{ps:List Nat}:aZ f (p::ps) p=aX (aZ f ps) ps (f p):=zQ
def Dx:∀{ps:List Nat},Ech ps f->ps.Pairwise (·<·)->Ech ps (aZ f ps)/\∀p∈ps,aZ f ps p p=f p p
 |[],_,_=>⟨⟨(fun p hp=>nomatch hp),(fun p hp=>nomatch hp)⟩,fun p hp=>nomatch hp⟩
 |p::ps,h,hs=>by
  rw[A9] at hs;obtain⟨e1,e2⟩:=Dx (h.sub fun q hq=>.tail _ hq) hs.2;have ne:∀q∈ps,q≠p:=fun q hq=>Ne.symm (AB (hs.1 q hq));have hd:aZ f (p::ps) p p=f p p:=by rw[sH,yW e1 fun q hq=>hs.1 q hq]
  have tl:∀q∈ps,aZ f (p::ps) q q=f q q:=fun q hq=>by rw[oe (ne q hq)];exact e2 q hq
  refine⟨⟨fun q hq i hi=>?_,fun q hq=>?_⟩,fun q hq=>?_⟩
  ·rcases List.mem_cons.mp hq with rfl|hq
   ·rw[sH,yW e1 fun r hr=>Nat.lt_trans hi (hs.1 r hr)];exact h.z q (.head _) i hi
   ·rw[oe (ne q hq)];exact e1.z q hq i hi
  ·rcases List.mem_cons.mp hq with rfl|hq
   ·rw[hd];exact h.pos q (.head _)
   ·rw[tl q hq];exact h.pos q (.tail _ hq)
  ·rcases List.mem_cons.mp hq with rfl|hq
   ·exact hd
   ·exact tl q hq
def Dy:∀{ps:List Nat},Ech ps f->ps.Pairwise (·<·)->∀p∈ps,∀q∈ps,p<q->0<=aZ f ps p q/\aZ f ps p q<aZ f ps q q
 |p::ps,h,hs,r,hr,q,hq,hlt=>by
  rw[A9] at hs;have h':Ech ps f:=h.sub fun q hq=>.tail _ hq;obtain⟨e1,e2⟩:=Dx h' hs.2;have ne:∀q∈ps,q≠p:=fun q hq=>Ne.symm (AB (hs.1 q hq));have a:q∈ps:=by
   rcases List.mem_cons.mp hq with rfl|hq
   ·rcases List.mem_cons.mp hr with rfl|hr
    ·(first|lia|omega)
    ·have:=hs.1 r hr;(first|lia|omega)
   ·exact hq
  rw[oe (ne q a)];rcases List.mem_cons.mp hr with rfl|hr
  ·rw[sH];exact y' e1 hs.2 q a
  ·rw[oe (ne r hr)];exact Dy h' hs.2 r hr q a hlt
def F':∀{ps:List Nat}{S:List Vc},ps.Nodup->(∀p∈ps,Sp S (aZ f ps p))->∀p∈ps,Sp S (f p)
 |p::ps,S,nd,h,q,hq=>by
  obtain⟨n1,n2⟩:=List.nodup_cons.mp nd;have ne:∀q∈ps,q≠p:=fun q hq z=>n1 (z▸hq);have a:∀q∈ps,Sp S (aZ f ps q):=fun q hq=>by have:=h q (.tail _ hq);rwa [oe (ne q hq)] at this
  rcases List.mem_cons.mp hq with rfl|hq
  ·have:=h q (.head _)
   rw[sH] at this;exact(Sp.redu ps a).mpr this
  ·exact F' n2 a q hq
def Ga:∀{ps:List Nat}{S:List Vc},ps.Nodup->(∀p∈ps,Sp S (f p))->∀p∈ps,Sp S (aZ f ps p)
 |p::ps,S,nd,h,q,hq=>by
  obtain⟨n1,n2⟩:=List.nodup_cons.mp nd;have a:=Ga (S:=S) n2 fun q hq=>h q (.tail _ hq);rcases List.mem_cons.mp hq with rfl|hq
  ·rw[sH];exact(Sp.redu ps a).mp (h q (.head _))
  ·rw[oe (show q≠p from fun z=>n1 (z▸hq))];exact a q hq
end
structure FS(N M X B:Nat)(R:List Vc)(P:List Nat)(f:Nat->Vc):Prop where
 ech:Ech P f
 srt:P.Pairwise (·<·)
 len:P.length=R.length
 few:R.length<=N
 fr:∀p∈P,Rep R (cC N X B) (f p)
 gen:∀r∈R,Sp (P.map f) r
 red:∀p∈P,∀q∈P,p<q->0<=f p q/\f p q<f q q
 piv:∀p∈P,(f p p).natAbs<=B
def FS.start{N M X B:Nat}{f:Nat->Vc}:FS N M X B [] [] f:=
 ⟨⟨(fun p hp=>nomatch hp),(fun p hp=>nomatch hp)⟩,.nil,rfl,Aw _,(fun p hp=>nomatch hp),(fun p hp=>nomatch hp),(fun p hp=>nomatch hp),(fun p hp=>nomatch hp)⟩
def FS.fv{N M X B:Nat}{R:List Vc}{P:List Nat}{f:Nat->Vc}(F:FS N M X B R P f):∀p∈P,∀q∈P,(f p q).natAbs<=B:=fun p hp q hq=>by
 rcases Nat.lt_trichotomy p q with h|h|h
 ·have:=F.red p hp q hq h;have:=F.piv q hq;(first|lia|omega)
 ·subst h;exact F.piv p hp
 ·rw[F.ech.z p hp q h];exact Aw _
def FS.take{N M X B:Nat}{R:List Vc}{P:List Nat}{f:Nat->Vc}{r:Vc}(l:1<=B)(F:FS N M X B R P f)(b:R.length<N)(hr:∀p∈P,(r p).natAbs<=M):TS N M X B (R++[r]) P f (aX f P r) 0:=by
 have a:P.length<=N:=by have:=F.len;(first|lia|omega)
 have c:(P.filter fun p=>decide (p<0)).length=0:=by rw[List.filter_eq_nil_iff.mpr];rfl;intro p _;simp
 obtain⟨e,o⟩:=k8 (R:=R++[r]) (fun p hp=>(F.fr p hp).more) F.fv F.ech.pos P (fun q hq=>hq) (Rep.mem (AA R (List.mem_singleton.mpr rfl))) hr;have g:1+P.length*(M*(1+B) ^ P.length*cC N X B)<=cK N M X B:=by
  unfold cK;have h1:(1+B) ^ P.length<=(1+B) ^ N:=Ax ω a;have:=AO a (Am (cC N X B) (Ak M h1));(first|lia|omega)
 have j:cC N X B<=cK N M X B:=by unfold cK;(first|lia|omega)
 refine⟨F.ech,F.srt,by rw[AK,F.len];rfl,by rw[AK];exact b,fun p hp=>?_,?_,fun s d=>?_,(fun i hi=>absurd hi (Nat.not_lt_zero _)),fun p hp=>y' F.ech F.srt p hp,F.piv,fun p hp q hq=>?_,fun p hp _ q hq=>F.fv p hp q hq⟩
 ·rw[c,Nat.pow_zero,Nat.mul_one];exact(F.fr p hp).more.mono j
 ·rw[c,Nat.pow_zero,Nat.mul_one];exact e.mono g
 ·rcases List.mem_append.mp d with h|h
  ·exact(F.gen s h).more _ fun x hx=>List.mem_append_left _ hx
  ·rw[List.mem_singleton.mp h]
   exact(Sp.redu P fun q hq=>Sp.mem (List.mem_append_left _ (List.mem_map.mpr ⟨q,hq,rfl⟩))).mpr (Sp.mem (AA _ (List.mem_singleton.mpr rfl)))
 ·refine Ae (F.fv p hp q hq) ?_
  rw[AN];have:B*1<=B*B:=Ak _ l;(first|lia|omega)
def cM(N M X B:Nat):Nat:=cK N M X B*cG N B ^ N
def cE(N M X B:Nat):Nat:=cM N M X B+N*(N*(cM N M X B*M)*(1+B) ^ N*cC N X B)
def up(l:Vc)(q:Nat):Vc:=if 0<l q then l else fun u=>-l u
def Rep.neg{R:List Vc}{C:Nat}{v:Vc}(h:Rep R C v):Rep R C fun u=>-v u:=
 ((h.lin h (k:=-1) (m:=0) (A:=1) (B:=0) ξ ξ).mono ω).eq fun u=>ω
def Sp.neg{R:List Vc}{v:Vc}(h:Sp R v):Sp R fun u=>-v u:=(h.lin h (-1) 0).eq fun u=>ω
structure Bd(N M X B:Nat)(R:List Vc):Prop where
 ind:iN R
 bd:∀(P:List Nat)(f:Nat->Vc),Ech P f->P.Pairwise (·<·)->(∀r∈R,Sp (P.map f) r)->(∀p∈P,Sp R (f p))->P.length=R.length->(∀p∈P,(f p p).natAbs<=B)/\(∀r∈R,∀p∈P,(r p).natAbs<=M)/\∀(c:List Int)(V:Nat),c.length=R.length->(∀p∈P,(cmb c R p).natAbs<=V)->∀x∈c,x.natAbs<=N*(V*X)
structure QS(N M X B:Nat)(R:List Vc)(P:List Nat)(f:Nat->Vc):Prop where
 ech:Ech P f
 srt:P.Pairwise (·<·)
 len:P.length=R.length
 few:R.length<=N
 fr:∀p∈P,Rep R (cM N M X B) (f p)
 gen:∀r∈R,Sp (P.map f) r
section
variable{N M X B:Nat}{R:List Vc}{P:List Nat}{f:Nat->Vc}
def TS.cnt{l:Vc}{t:Nat}(T:TS N M X B R P f l t)(a:1<=B):cK N M X B*cG N B ^ (P.filter fun p=>decide (p<t)).length<=cM N M X B:=
 Ak _ (Ax (Bu a) (Ae (List.length_filter_le _ _) (by have:=T.len;have:=T.few;(first|lia|omega))))
def TS.full{l:Vc}{t q:Nat}(e:1<=B)(T:TS N M X B R P f l t)(hq:q∉P)(a:∀i,i<q->l i=0)(g:l q≠0):QS N M X B R (ins q P) (put f q (up l q)):=by
 have ne:∀p∈P,p≠q:=fun p hp z=>hq (z▸hp);have hc:=T.cnt e;have up1:0<up l q q:=by
  unfold up;split
  ·assumption
  ·show 0 < -l q
   (first|lia|omega)
 have b:∀i,i<q->up l q i=0:=fun i hi=>by
  have:=a i hi;unfold up;split
  ·exact this
  ·show -l i=0
   (first|lia|omega)
 have c:Rep R (cM N M X B) (up l q):=by
  unfold up;split
  ·exact T.lr.mono hc
  ·exact(T.lr.mono hc).neg
 refine⟨⟨fun p hp i hi=>?_,fun p hp=>?_⟩,F0 T.srt hq,by rw[n_,T.len],T.few,fun p hp=>?_,fun r hr=>(T.gen r hr).trans fun s d=>?_⟩
 ·rcases mem_ins.mp hp with rfl|hp
  ·rw[zQ];exact b i hi
  ·rw[dn (ne p hp)];exact T.ech.z p hp i hi
 ·rcases mem_ins.mp hp with rfl|hp
  ·rw[zQ];exact up1
  ·rw[dn (ne p hp)];exact T.ech.pos p hp
 ·rcases mem_ins.mp hp with rfl|hp
  ·rw[zQ];exact c
  ·rw[dn (ne p hp)];exact(T.fr p hp).mono hc
 ·rcases List.mem_append.mp d with h|h
  ·obtain⟨p,hp,rfl⟩:=List.mem_map.mp h
   exact Sp.mem (List.mem_map.mpr ⟨p,mem_ins.mpr (.inr hp),dn (ne p hp)⟩)
  ·rw[List.mem_singleton.mp h]
   have:Sp ((ins q P).map (put f q (up l q))) (up l q):=Sp.mem (List.mem_map.mpr ⟨q,mem_ins.mpr (.inl rfl),zQ⟩);unfold up at this ⊢;split at this
   ·rename_i h;rw[if_pos h];exact this
   ·rename_i h;rw[if_neg h];exact this.neg.eq fun u=>by show l u=-(-l u);(first|lia|omega)
def QS.bd(D:Bd N M X B R)(S:QS N M X B R P f):(∀p∈P,(f p p).natAbs<=B)/\(∀r∈R,∀p∈P,(r p).natAbs<=M)/\∀(c:List Int)(V:Nat),c.length=R.length->(∀p∈P,(cmb c R p).natAbs<=V)->∀x∈c,x.natAbs<=N*(V*X):=
 D.bd P f S.ech S.srt S.gen (fun p hp=>(S.fr p hp).sp) S.len
def QS.tail(j:1<=B)(D:Bd N M X B R)(S:QS N M X B R P f){pre ps:List Nat}(e:P=pre++ps):Ech ps (aZ f ps)/\(∀p∈ps,∀q∈P,(aZ f ps p q).natAbs<=B)/\∀p∈ps,Rep R (cC N X B) (aZ f ps p):=by
 have g:∀p∈ps,p∈P:=fun p hp=>by rw[e];exact AA _ hp
 have a:=S.srt;rw[e,List.pairwise_append] at a;have h':Ech ps f:=S.ech.sub g;obtain⟨e1,e2⟩:=Dx h' a.2.1;obtain⟨pv,hb,i⟩:=S.bd D;have bd:∀p∈ps,∀q∈P,(aZ f ps p q).natAbs<=B:=fun p hp q hq=>by
  rcases Nat.lt_trichotomy p q with h|h|h
  ·have b:q∈ps:=by
    rw[e] at hq;rcases List.mem_append.mp hq with z|z
    ·have:=a.2.2 q z p hp;(first|lia|omega)
    ·exact z
   have h1:=Dy h' a.2.1 p hp q b h;rw[e2 q b] at h1;have:=pv q hq;(first|lia|omega)
  ·subst h;rw[e2 p hp];exact pv p hq
  ·rw[e1.z p hp q h];exact Aw _
 refine⟨e1,bd,fun p hp=>?_⟩;have sp:Sp R (aZ f ps p):=Ga (a.2.1.imp fun h=>AB h) (fun q hq=>(S.fr q (g q hq)).sp) p hp;obtain⟨c,d,e⟩:=sp;exact⟨c,d,e,i c B d fun q hq=>by rw[<-e];exact bd p hp q hq⟩
def QS.met(o:1<=B)(D:Bd N M X B R)(S:QS N M X B R P f){pre ps:List Nat}{p:Nat}(e:P=pre++p::ps)(i:Nat):Rep R (cE N M X B) (aX (aZ f ps) (ps.take i) (f p)):=by
 have d:P=(pre++[p])++ps:=by rw[e];simp
 obtain⟨e1,bd,l⟩:=S.tail o D d;obtain⟨_,hb,_⟩:=S.bd D;have hp:p∈P:=by rw[e];simp
 have V:∀q∈ps,(f p q).natAbs<=N*(cM N M X B*M):=fun q hq=>by
  have g:q∈P:=by rw[d];exact AA _ hq
  exact Ae ((S.fr p hp).le fun r hr=>hb r hr q g) (Am _ S.few)
 have c:(ps.take i).length<=N:=by
  have h1:=congrArg List.length d;rw[AK,S.len] at h1;have:=S.few;rw[List.length_take];(first|lia|omega)
 obtain⟨r,_⟩:=k8 (P:=ps) l (fun a h b j=>bd a h b (by rw[d];exact AA _ j)) e1.pos (ps.take i) (fun q hq=>List.mem_of_mem_take hq) (S.fr p hp) V;refine r.mono ?_;unfold cE;have h1:(1+B) ^ (ps.take i).length<=(1+B) ^ N:=Ax ω c;exact Nat.add_le_add_left (AO c (Am _ (Ak _ h1))) _
def QS.done(d:1<=B)(D:Bd N M X B R)(S:QS N M X B R P f):FS N M X B R P (aZ f P):=by
 obtain⟨e1,bd,b⟩:=S.tail d D (pre:=[]) (ps:=P) rfl;have c:P.Nodup:=S.srt.imp fun h=>AB h;refine⟨e1,S.srt,S.len,S.few,b,fun r hr=>(S.gen r hr).trans fun s a=>?_,Dy S.ech S.srt,fun p hp=>bd p hp p hp⟩;obtain⟨p,hp,rfl⟩:=List.mem_map.mp a;exact F' c (fun q hq=>Sp.mem (List.mem_map.mpr ⟨q,hq,rfl⟩)) p hp
end
end Tb
end
section
namespace K28
open PySem L2
def vc(l:List Int):Tb.Vc:=fun i=>l.getD i 0
def vF(fr:Nat->List Int):Nat->Tb.Vc:=fun p=>vc (fr p)
def sK{f:Int->Int->Int}(a:f 0 0=0){l on:List Int}(h:l.length=on.length):vc (AD f l on)=fun u=>f (vc l u) (vc on u):=by
 funext u
 unfold vc;rw[Ab,Ab,Ab,List.getElem?_zipWith];rcases Bb u l.length with c|c
 ·rw[Ac c,Ac (h▸c)];rfl
 ·rw[List.getElem?_eq_none c,List.getElem?_eq_none (h▸c)];exact a.symm
def Gd{fr:Nat->List Int}{l:List Int}{p:Nat}(h:l.length=(fr p).length):vc (cR fr l p)=Tb.step (vF fr) p (vc l):=by
 unfold cR c4;rw[sK (by simp) h]
 rfl
def oj{fr:Nat->List Int}{W:Nat}:∀{ps:List Nat}{rn:List Int},rn.length=W->(∀p∈ps,(fr p).length=W)->vc (au fr rn ps)=Tb.aX (vF fr) ps (vc rn)
 |[],_,_,_=>rfl
 |p::ps,rn,h,h2=>by
  have hp:=h2 p (AC ..);show vc (au fr (cR fr rn p) ps)=Tb.aX (vF fr) ps (Tb.step (vF fr) p (vc rn));rw[oj (ps:=ps) (Du h hp) fun q hq=>h2 q (AG _ hq),Gd ω]
def Gg{a b:Int}{l on:List Int}(h:l.length=on.length):vc (bA a l b on)=Tb.mix a (vc l) b (vc on):=by
 unfold bA;rw[sK (by simp) h]
 rfl
def Gh{l:List Int}:vc (l.map fun x=>-x)=fun u=>-vc l u:=by
 funext u
 unfold vc;rw[Ab,Ab,Aj];cases l[u]?<;>simp
def bK(fr:Nat->List Int)(p:Nat)(l:List Int):Nat->List Int:=fun q=>if q=p then l else fr q
def Dz{fr:Nat->List Int}{p:Nat}{l:List Int}:vF (bK fr p l)=Tb.put (vF fr) p (vc l):=by
 funext q
 unfold vF bK Tb.put;split<;>rfl
def Bv{l:List Int}{x:Int}(h:x∈l):∃i,i<l.length/\vc l i=x:=by
 obtain⟨i,hi,e⟩:=List.mem_iff_getElem.mp h;exact⟨i,hi,by unfold vc;rw[Ab,Ac hi];exact e⟩
def h5{l:List Int}{i:Nat}(h:l.length<=i):vc l i=0:=by unfold vc;rw[Ab,List.getElem?_eq_none h];rfl
def Gj{l:List Int}(h:∃u,vc l u≠0):∃k,k<l.length/\(∀i,i<k->l[i]?=some 0)/\(∃x,l[k]?=some x/\x≠0)/\(∀i,i<k->vc l i=0)/\vc l k≠0:=by
 classical
 induction l with
 |nil=>obtain⟨u,a⟩:=h;exact absurd (h5 (Aw u)) a
 |cons x l ih=>
  by_cases c:x=0
  ·obtain⟨u,a⟩:=h
   cases u with
   |zero=>exact absurd (show vc (x::l) 0=0 from c) a
   |succ u=>
    obtain⟨k,h1,h2,⟨y,b,d⟩,e,f⟩:=ih ⟨u,by simpa[vc] using a⟩;refine⟨k+1,by simpa using h1,fun i hi=>?_,⟨y,by simpa using b,d⟩,fun i hi=>?_,by simpa[vc] using f⟩
    ·cases i with
     |zero=>simp[c]
     |succ i=>simpa using h2 i ω
    ·cases i with
     |zero=>exact c
     |succ i=>simpa[vc] using e i ω
  ·exact⟨0,by simp,fun i hi=>ω,⟨x,rfl,c⟩,fun i hi=>ω,c⟩
def Gn:∃n:Nat,n=67108864:=⟨_,rfl⟩
noncomputable def bt:Nat:=Classical.choose Gn
def lj:bt=67108864:=Classical.choose_spec Gn
noncomputable def big:Nat:=2 ^ bt
def Bw{i j:Int}(h1:i.natAbs<big)(h2:j.natAbs<big):eR i j:=⟨bt,bt,h1,h2,by have:=lj;(first|lia|omega)⟩
def Gq{a b:Int}:(a / b).natAbs<=a.natAbs:=Int.natAbs_ediv_le_natAbs _ _
structure Wid(W:Nat)(P:List Nat)(fr:Nat->List Int):Prop where
 most:W<=1000
 row:∀p∈P,p<W/\(fr p).length=W
def Wid.sub{W:Nat}{P Q:List Nat}{fr:Nat->List Int}(h:Wid W P fr)(a:∀p∈Q,p∈P):Wid W Q fr:=⟨h.most,fun p hp=>h.row p (a p hp)⟩
def Wid.put{W:Nat}{P:List Nat}{fr:Nat->List Int}{p:Nat}{l:List Int}(h:Wid W P fr)(a:l.length=W):Wid W P (bK fr p l):=⟨h.most,fun q hq=>⟨(h.row q hq).1,by unfold bK;split;exact a;exact(h.row q hq).2⟩⟩
def K'{R:List Tb.Vc}{P ps:List Nat}{fr:Nat->List Int}{W C CF V VF N Y:Nat}{rn:List Int}(j:∀r∈R,∀u,(r u).natAbs<=Y)(d:R.length<=N)(l:∀p∈P,Tb.Rep R CF (vF fr p))(w:∀p∈P,∀q∈P,(vF fr p q).natAbs<=VF)(a:∀p∈P,0<vF fr p p)(g:∀p∈P,(vF fr p p).natAbs<2 ^ 9000)(f:Wid W P fr)(o:rn.length=W)(hr:Tb.Rep R C (vc rn))(y:∀q∈P,(vc rn q).natAbs<=V)(c:∀p∈ps,p∈P)(z:N*((C+ps.length*(V*(1+VF) ^ ps.length*CF))*Y)<big)(A:N*(CF*Y)<big):j8 fr W rn ps:=by
 refine⟨o,f.most,fun p hp=>⟨(f.row p (c p hp)).1,(f.row p (c p hp)).2,a p (c p hp),g p (c p hp)⟩,fun i p hp x hx=>?_⟩;have s:=Al hp;have v:=c p s;refine Bw (Au Gq ?_) ?_
 ·obtain⟨r1,_⟩:=Tb.k8 l w a (ps.take i) (fun q hq=>c q (List.mem_of_mem_take hq)) hr y
  have e:=oj (fr:=fr) (W:=W) (ps:=ps.take i) (rn:=rn) o fun q hq=>(f.row q (c q (List.mem_of_mem_take hq))).2;rw[<-e] at r1;have b:=r1.le (u:=p) fun r hr=>j r hr p;refine Au (Ae b (AO d (Am _ ?_))) z;have h:(ps.take i).length<=ps.length:=by rw[List.length_take];(first|lia|omega)
  refine Nat.add_le_add_left (AO h (Am _ (Ak _ (Ax ω h)))) _
 ·obtain⟨u,_,rfl⟩:=Bv hx
  exact Au (Ae ((l p v).le (u:=u) fun r hr=>j r hr u) (Am _ d)) A
def cb(es:List (Nat×Addr))(p:Nat)(d:Addr):List (Nat×Addr):=if p∈es.map (·.1) then es.map fun e=>if e.1=p then(p,d) else e else es++[(p,d)]
def Bx{es:List (Nat×Addr)}{p:Nat}{d:Addr}:(cb es p d).map (·.1)=if p∈es.map (·.1) then es.map (·.1) else es.map (·.1)++[p]:=by
 unfold cb;split
 ·rw[AS]
  refine A8 fun e _=>?_;simp only[Function.comp];split<;>simp_all
 ·simp
def putE_mem{es:List (Nat×Addr)}{p:Nat}{d:Addr}{e:Nat×Addr}(h:e∈cb es p d):e=(p,d)\/(e∈es/\e.1≠p):=by
 unfold cb at h;split at h
 ·obtain⟨x,hx,rfl⟩:=List.mem_map.mp h
  split
  ·exact .inl rfl
  ·exact .inr ⟨hx,by assumption⟩
 ·rename_i hp
  rcases List.mem_append.mp h with h|h
  ·exact .inr ⟨h,fun z=>hp (z▸List.mem_map.mpr ⟨e,h,rfl⟩)⟩
  ·exact .inl (by simpa using h)
def La{es:List (Nat×Addr)}{p:Nat}{d:Addr}:putK ((ea es).map fun p=>((Sum.inl p.1:Key),p.2)) (Sum.inl (p:Int)) (.ref d)=(ea (cb es p d)).map fun p=>((Sum.inl p.1:Key),p.2):=by
 have b:∀e:Nat×Addr,((Sum.inl (e.1:Int):Key)=Sum.inl (p:Int))↔e.1=p:=by
  intro e;constructor
  ·intro z
   have:((e.1:Int))=p:=by injection z
   (first|lia|omega)
  ·intro z;rw[z]
 have e1:(((ea es).map fun p=>((Sum.inl p.1:Key),p.2)).any fun f=>decide (f.1=Sum.inl (p:Int)))=decide (p∈es.map (·.1)):=by
  rw[Bool.eq_iff_iff,List.any_eq_true,decide_eq_true_iff,List.mem_map];constructor
  ·rintro⟨x,hx,hk⟩
   rw[AS] at hx;obtain⟨e,a,rfl⟩:=List.mem_map.mp hx;exact⟨e,a,(b e).mp (of_decide_eq_true hk)⟩
  ·rintro⟨e,a,rfl⟩
   refine⟨(Sum.inl (e.1:Int),V.ref e.2),?_,by simp⟩;rw[AS];exact List.mem_map.mpr ⟨e,a,rfl⟩
 unfold putK cb;rw[e1]
 by_cases c:p∈es.map (·.1)
 ·rw[if_pos (decide_eq_true c),if_pos c]
  unfold ea;rw[AS,AS,AS,AS];refine A8 fun e _=>?_;show(if(Sum.inl (e.1:Int):Key)=Sum.inl (p:Int) then _ else _)=_
  by_cases z:e.1=p
  ·rw[if_pos ((b e).mpr z)]
   simp only[Function.comp,if_pos z];rw[z]
  ·rw[if_neg fun q=>z ((b e).mp q)]
   simp only[Function.comp,if_neg z]
 ·rw[if_neg (by simpa using c),if_neg c]
  simp[ea]
def Fnd.put{H H2:Hp}{a d:Addr}{es:List (Nat×Addr)}{fr:Nat->List Int}{p:Nat}{l:List Int}(h:Fnd H a es fr)(hd:H d=some (.lst (l.map V.int)))(g:es.length<1000):∃H2,DPut H a (.int p) (.ref d) H2/\Fnd H2 a (cb es p d) (bK fr p l)/\∀b,b≠a->H2 b=H b:=by
 have hp:=DPut.k (k:=Sum.inl (p:Int)) (v:=V.ref d) h.at_ (by rw[sizeLine_eq];simp;(first|lia|omega));refine⟨_,hp,⟨?_,?_,?_⟩,fun b hb=>ag hb⟩
 ·rw[zb,La]
 ·rw[Bx]
  split
  ·exact h.nd
  ·rename_i hn
   rw[List.nodup_append];refine⟨h.nd,by simp,fun x hx y hy=>?_⟩;have:y=p:=by simpa using hy
   subst this;exact fun z=>hn (z▸hx)
 ·intro e c
  have ne:∀b,(∃xs,H b=some (.lst xs))->b≠a:=fun b ⟨xs,hb⟩ z=>by rw[z,h.at_] at hb;cases hb
  rcases putE_mem c with rfl|⟨c,f⟩
  ·rw[ag (ne d ⟨_,hd⟩),hd];unfold bK;rw[if_pos rfl]
  ·rw[ag (ne e.2 ⟨_,h.rows e c⟩),h.rows e c];unfold bK;rw[if_neg f]
end K28
end
section
namespace Tb
def sX(N M:Nat):Nat:=(2*N*M) ^ N
def sB(N M:Nat):Nat:=N*(sX N M*M)
def Gv{N M j:Nat}(a:1<=N)(b:1<=M)(c:j<=N):(2*j*M) ^ (j-1)<=sX N M:=by
 have h1:2*j*M<=2*N*M:=Am _ (Ak _ c);exact Ae (Nat.pow_le_pow_left h1 _) (Ax (n7 (n7 ξ a) b) ω)
def Lb{N M:Nat}{R:List Vc}(i:1<=N)(b:1<=M)(hi:iN R)(a:R.length<=N)(hb:∀r∈R,∀u,(r u).natAbs<=M):Bd N M (sX N M) (sB N M) R:=by
 refine⟨hi,fun P f h d e l g=>⟨fun p hp=>?_,fun r hr p _=>hb r hr p,fun c V hc j x hx=>?_⟩⟩
 ·refine Ae (KW b hi h d e g (fun r hr p _=>hb r hr p) hp) ?_
  exact AO a (Am _ (Gv i b a))
 ·refine Ae (rx b (fun r hr p _=>hb r hr p) g (d.imp fun h=>AB h) (Bq hi h d e) hc j x hx) ?_
  exact AO a (Ak _ (Gv i b a))
def shr(f:Nat->Vc):List Nat->Vc->List Int
 |[],_=>[]
 |p::ps,l=>l p / f p p::shr f ps (step f p l)
section
variable{f:Nat->Vc}
def DA:∀(ps:List Nat)(l:Vc),(shr f ps l).length=ps.length
 |[],_=>rfl
 |p::ps,l=>by show(shr f ps (step f p l)).length+1=ps.length+1;rw[DA ps]
def DB:∀{ps:List Nat}{l:Vc},Ech ps f->ps.Pairwise (·<·)->Sp (ps.map f) l->∀u,l u=cmb (shr f ps l) (ps.map f) u
 |[],l,_,_,⟨c,hc,e⟩,u=>by rw[e];cases c with|nil=>rfl|cons _ _=>simp at hc
 |p::ps,l,h,hs,⟨c,hc,e⟩,u=>by
  cases c with
  |nil=>simp at hc
  |cons a c=>
   rw[A9] at hs;have h':Ech ps f:=h.sub fun q hq=>.tail _ hq;have hp:=h.pos p (.head _);have ep:l p=a*f p p:=by
    rw[e];show a*f p p+cmb c (ps.map f) p=a*f p p;rw[zO c (ps.map f) fun v b=>by
     obtain⟨r,hr,rfl⟩:=List.mem_map.mp b;exact h.z r (.tail _ hr) p (hs.1 r hr)]
    (first|lia|omega)
   have d:l p / f p p=a:=by rw[ep];exact Int.mul_ediv_cancel a ω
   have sp:Sp (ps.map f) (step f p l):=⟨c,by simpa using hc,fun u=>by
    unfold step;rw[d,e];show a*f p u+cmb c (ps.map f) u-a*f p u=_;(first|lia|omega)⟩
   have g:=DB h' hs.2 sp u;show l u=l p / f p p*f p u+cmb (shr f ps (step f p l)) (ps.map f) u;rw[<-g];unfold step;(first|lia|omega)
def Lc{P:List Nat}{VF:Nat}(c:∀p∈P,∀q∈P,(f p q).natAbs<=VF)(a:∀p∈P,0<f p p):∀(ps:List Nat){l:Vc}{V:Nat},(∀p∈ps,p∈P)->(∀q∈P,(l q).natAbs<=V)->∀x∈shr f ps l,x.natAbs<=V*(1+VF) ^ ps.length
 |[],_,_,_,_,x,hx=>nomatch hx
 |p::ps,l,V,hs,hv,x,hx=>by
  have hp:=hs p (.head _);have b:(l p / f p p).natAbs<=V:=Ae (Int.natAbs_ediv_le_natAbs (l p) (f p p)) (hv p hp);rcases List.mem_cons.mp hx with rfl|hx
  ·refine Ae b (Nat.le_mul_of_pos_right _ (Nat.pow_pos ω))
  ·have d:∀q∈P,(step f p l q).natAbs<=V*(1+VF):=fun q hq=>by
    have e:=hv q hq;have g:(l p / f p p*f p q).natAbs<=V*VF:=by rw[AF];exact AO b (c p hp q hq)
    have h:(step f p l q).natAbs<=(l q).natAbs+(l p / f p p*f p q).natAbs:=by unfold step;(first|lia|omega)
    rw[Nat.mul_add,Nat.mul_one];(first|lia|omega)
   have:=Lc c a ps (fun q hq=>hs q (.tail _ hq)) d x hx
   rwa [AN,Nat.mul_comm (1+VF),<-Nat.pow_succ] at this
end
def dl(s t:Nat):Int:=if s=t then 1 else 0
structure Dual(k:Nat)(U Bc:List Vc):Prop where
 lu:U.length=k
 lb:Bc.length=k
 d:∀s t,s<k->t<k->cmb (Bc.map fun b=>b s) U t=dl s t
def Gx{t:Nat}:∀(c:List Int)(A B:List Vc),A.length=B.length->(∀(i:Nat) a b,A[i]?=some a->B[i]?=some b->a t=b t)->cmb c A t=cmb c B t
 |[],[],[],_,_=>rfl
 |[],_::_,_::_,_,_=>rfl
 |_::_,[],[],_,_=>rfl
 |x::c,a::A,b::B,hl,h=>by
  show x*a t+cmb c A t=x*b t+cmb c B t;rw[h 0 a b rfl rfl,Gx c A B (by simpa using hl) fun i a b h1 h2=>h (i+1) a b (by simpa using h1) (by simpa using h2)]
 |[],[],_::_,hl,_=>by simp at hl
 |[],_::_,[],hl,_=>by simp at hl
 |_::_,[],_::_,hl,_=>by simp at hl
 |_::_,_::_,[],hl,_=>by simp at hl
def range_getD(row:List Int):(Ag row.length).map (fun j=>row.getD j 0)=row:=by
 apply AV
 ·simp
 ·intro i h1 h2;simp at h1;simp[h2]
def Gy{U:List Vc}{k s t:Nat}(hk:U.length=k):∀(sh:Ξ)(Bc:List Vc),(∀row∈sh,row.length=k)->
  cmb ((Ag k).map fun j=>cmb (sh.map fun row=>row.getD j 0) Bc s) U t=cmb (Bc.map fun b=>b s) (sh.map fun row=>cmb row U) t
 |[],Bc,_=>by
  have e:((Ag k).map fun j=>cmb (([]:Ξ).map fun row=>row.getD j 0) Bc s)=(Ag k).map fun _=>0:=A8 fun j _=>by cases Bc<;>rfl
  rw[e,la _ _ _ (fun x hx=>by obtain⟨_,_,rfl⟩:=List.mem_map.mp hx;rfl)];cases Bc<;>rfl
 |row::sh,[],h=>by
  have e:((Ag k).map fun j=>cmb ((row::sh).map fun row=>row.getD j 0) [] s)=(Ag k).map fun _=>0:=A8 fun j _=>rfl;rw[e,la _ _ _ (fun x hx=>by obtain⟨_,_,rfl⟩:=List.mem_map.mp hx;rfl)]
  rfl
 |row::sh,b::Bc,h=>by
  have a:=Gy (s:=s) (t:=t) hk sh Bc fun r hr=>h r (.tail _ hr);have hr:=h row (.head _);have e:((Ag k).map fun j=>cmb ((row::sh).map fun row=>row.getD j 0) (b::Bc) s)=AD (fun x y=>b s*x+1*y) row ((Ag k).map fun j=>cmb (sh.map fun row=>row.getD j 0) Bc s):=by
   apply AV
   ·rw[Az,Aa,Aa,AZ,hr,Nat.min_self]
   ·intro i h1 h2
    rw[Aa,AZ] at h1;rw[AX,AU,AU,A4];show row.getD i 0*b s+cmb (sh.map fun row=>row.getD i 0) Bc s=_;rw[Ab,Ac ω,Be];show b s*row[i]+_=_;(first|lia|omega)
  rw[e,gM _ _ _ _ U ω (by rw[Aa,AZ,hk]),a];show _=b s*cmb row U t+cmb (Bc.map fun b=>b s) (sh.map fun row=>cmb row U) t;(first|lia|omega)
def Dual.next{k:Nat}{U Bc V:List Vc}{sh:Ξ}(D:Dual k U Bc)(e:V.length=k)(ls:sh.length=k)(g:∀row∈sh,row.length=k)(h:∀(i:Nat) u row t,U[i]?=some u->sh[i]?=some row->t<k->u t=cmb row V t):Dual k V ((Ag k).map fun j=>fun s=>cmb (sh.map fun row=>row.getD j 0) Bc s):=by
 refine⟨e,by simp,fun s t f c=>?_⟩;rw[AS];show cmb ((Ag k).map fun j=>cmb (sh.map fun row=>row.getD j 0) Bc s) V t=dl s t;rw[Gy e sh Bc g,<-D.d s t f c];refine Gx _ _ _ (by rw[Aa,ls,D.lu]) fun i a b h1 h2=>?_;rw[Aj] at h1;obtain⟨row,hr,rfl⟩:=Option.map_eq_some_iff.mp h1;exact(h i b row t h2 hr c).symm
def dot:Nat->Vc->Vc->Int
 |0,_,_=>0
 |k+1,a,b=>dot k a b+a k*b k
def Bz{k:Nat}{a a' b:Vc}{x y:Int}:dot k (fun u=>x*a u+y*a' u) b=x*dot k a b+y*dot k a' b:=by
 induction k with
 |zero=>show(0:Int)=x*0+y*0;(first|lia|omega)
 |succ k ih=>
  show dot k _ b+(x*a k+y*a' k)*b k=x*(dot k a b+a k*b k)+y*(dot k a' b+a' k*b k);rw[ih,Int.add_mul,Int.mul_add,Int.mul_add,AT,AT];(first|lia|omega)
def zH{k:Nat}{a b:Vc}(h:∀t,t<k->a t=0):dot k a b=0:=by
 induction k with
 |zero=>rfl
 |succ k ih=>show dot k a b+a k*b k=0;rw[ih fun t c=>h t ω,h k ω];(first|lia|omega)
def zm{k:Nat}{a a' b:Vc}(h:∀t,t<k->a t=a' t):dot k a b=dot k a' b:=by
 induction k with
 |zero=>rfl
 |succ k ih=>show dot k a b+a k*b k=dot k a' b+a' k*b k;rw[ih fun t c=>h t ω,h k ω]
def Gz{k:Nat}{b:Vc}:∀(c:List Int)(L:List Vc),dot k (cmb c L) b=cmb c (L.map fun l=>fun _=>dot k l b) 0
 |[],[]=>zH fun _ _=>rfl
 |[],_::_=>zH fun _ _=>rfl
 |_::_,[]=>zH fun _ _=>rfl
 |x::c,l::L=>by
  show dot k (fun u=>x*l u+cmb c L u) b=x*dot k l b+cmb c (L.map fun l=>fun _=>dot k l b) 0;rw[<-Gz c L];have:=Bz (k:=k) (a:=l) (a':=cmb c L) (b:=b) (x:=x) (y:=1);rw[Int.one_mul] at this;rw[<-this];exact zm fun t _=>ω
def GA{U:List Vc}{t:Nat}:∀(k:Nat)(x:Vc)(Bc:List Vc),Bc.length=U.length->cmb (Bc.map fun b=>dot k x b) U t=dot k x (fun s=>cmb (Bc.map fun b=>b s) U t)
 |0,x,Bc,_=>la _ _ _ fun y hy=>by obtain⟨_,_,rfl⟩:=List.mem_map.mp hy;rfl
 |k+1,x,Bc,hl=>by
  show cmb (Bc.map fun b=>dot k x b+x k*b k) U t=dot k x (fun s=>cmb (Bc.map fun b=>b s) U t)+x k*cmb (Bc.map fun b=>b k) U t;rw[<-GA k x Bc hl];have:=gM 1 (x k) (Bc.map fun b=>dot k x b) (Bc.map fun b=>b k) U (by rw[Aa,hl]) (by rw[Aa,hl]) t;rw[Int.one_mul] at this;rw[<-this]
  congr 1
  apply AV
  ·simp
  ·intro i h1 h2;simp
def BB{k:Nat}{x:Vc}{t:Nat}(b:t<k):dot k x (fun s=>dl s t)=x t:=by
 induction k with
 |zero=>(first|lia|omega)
 |succ k ih=>
  show dot k x _+x k*dl k t=x t
  by_cases e:t=k
  ·subst e
   have:dot t x (fun s=>dl s t)=0:=by
    have z:∀j,j<=t->dot j x (fun s=>dl s t)=0:=by
     intro j
     induction j with
     |zero=>intro _;rfl
     |succ j ih=>intro a;show dot j x _+x j*dl j t=0;rw[ih ω];unfold dl;rw[if_neg ω];(first|lia|omega)
    exact z t (Ad _)
   rw[this];unfold dl;rw[if_pos rfl];(first|lia|omega)
  ·rw[ih ω];unfold dl;rw[if_neg ω];(first|lia|omega)
def zi{k:Nat}{a b b':Vc}(h:∀t,t<k->b t=b' t):dot k a b=dot k a b':=by
 induction k with
 |zero=>rfl
 |succ k ih=>show dot k a b+a k*b k=dot k a b'+a k*b' k;rw[ih fun t c=>h t ω,h k ω]
structure Both(k:Nat)(U Bc:List Vc):Prop where
 a:Dual k U Bc
 b:∀(i j:Nat) u c,U[i]?=some u->Bc[j]?=some c->dot k u c=dl i j
def Ld{k:Nat}{U Bc:List Vc}(D:Dual k U Bc)(hi:∀c:List Int,c.length=k->(∀t,t<k->cmb c U t=0)->∀x∈c,x=0):Both k U Bc:=by
 refine⟨D,fun i j u c o hc=>?_⟩;have q:i<k:=by rw[<-D.lu];exact(List.getElem?_eq_some_iff.mp o).1
 have l:j<k:=by rw[<-D.lb];exact(List.getElem?_eq_some_iff.mp hc).1
 have h1:∀t,t<k->cmb (Bc.map fun b=>dot k u b) U t=u t:=fun t f=>by
  rw[GA k u Bc (by rw[D.lb,D.lu]),zi fun s p=>D.d s t p f];exact BB f
 have h2:∀t,t<k->cmb ((Ag k).map fun s=>dl i s) U t=u t:=fun t f=>by
  have:∀(n:Nat)(V:List Vc),V.length=n->∀(i:Nat) v,V[i]?=some v->∀t,cmb ((Ag n).map fun s=>dl i s) V t=v t:=by
   intro n
   induction n with
   |zero=>intro V g i v h;rw[AH g] at h;simp at h
   |succ n ih=>
    intro V g i v h t;cases V with
    |nil=>simp at g
    |cons w V=>
     rw[List.range_succ_eq_map,AY,AS];show dl i 0*w t+cmb ((Ag n).map fun s=>dl i (s+1)) V t=v t;cases i with
     |zero=>
      have e:v=w:=by simpa using h.symm
      rw[la _ _ _ (fun x hx=>by obtain⟨s,_,rfl⟩:=List.mem_map.mp hx;exact if_neg ω),e];show(1:Int)*w t+0=w t;(first|lia|omega)
     |succ i=>
      have:=ih V (by simpa using g) i v (by simpa using h) t;rw[show(fun s=>dl (i+1) (s+1))=(fun s=>dl i s) from funext fun s=>by unfold dl;simp];rw[this];show(0:Int)*w t+v t=v t;(first|lia|omega)
  exact this k U D.lu i u o t
 have hz:=hi (AD (fun a b=>a-b) (Bc.map fun b=>dot k u b) ((Ag k).map fun s=>dl i s)) (by rw[Az,Aa,Aa,AZ,D.lb,Nat.min_self]) fun t f=>by
  rw[yU _ _ U (by rw[Aa,D.lb,D.lu]) (by rw[Aa,AZ,D.lu]),h1 t f,h2 t f];(first|lia|omega)
 have g:j<(AD (fun a b=>a-b) (Bc.map fun b=>dot k u b) ((Ag k).map fun s=>dl i s)).length:=by rw[Az,Aa,Aa,AZ,D.lb,Nat.min_self];exact l
 have:=hz _ (Ay g);rw[AX,AU,AU,A4] at this;have e:Bc[j]'(by rw[D.lb];exact l)=c:=(List.getElem?_eq_some_iff.mp hc).2;rw[e] at this;(first|lia|omega)
def Both.free{k w:Nat}{R Bc:List Vc}(D:Both k (R.map fun r=>fun t=>r (w+t)) Bc){c:List Int}(hc:c.length=R.length)(hz:∀t,t<k->cmb c R (w+t)=0):∀x∈c,x=0:=by
 have I:R.length=k:=by have:=D.a.lu;rwa [Aa] at this
 have G:∀(c:List Int)(R:List Vc)(t:Nat),cmb c R (w+t)=cmb c (R.map fun r=>fun t=>r (w+t)) t:=by
  intro c
  induction c with
  |nil=>intro R t;cases R<;>rfl
  |cons a c ih=>intro R t;cases R with
   |nil=>rfl
   |cons r R=>show a*r (w+t)+cmb c R (w+t)=a*r (w+t)+_;rw[ih]
 intro x hx;obtain⟨j,y,rfl⟩:=A5 hx;have p:j<Bc.length:=by rw[D.a.lb];(first|lia|omega)
 have A:dot k (cmb c (R.map fun r=>fun t=>r (w+t))) Bc[j]=0:=zH fun t E=>by rw[<-G];exact hz t E
 rw[Gz] at A;have H:∀(c:List Int)(U:List Vc)(d:Nat),c.length=U.length->(∀(i:Nat) u,U[i]?=some u->dot k u Bc[j]=dl (d+i) j)->∀(y:d<=j)(h:j-d<c.length),cmb c (U.map fun l=>fun _=>dot k l Bc[j]) 0=c[j-d]:=by
  intro c
  induction c with
  |nil=>intro U d _ _ _ h;simp at h
  |cons a c ih=>
   intro U d q s y h;cases U with
   |nil=>simp at q
   |cons u U=>
    show a*dot k u Bc[j]+cmb c (U.map fun l=>fun _=>dot k l Bc[j]) 0=_;have g:=s 0 u rfl;rw[g];have C:∀(i:Nat) v,U[i]?=some v->dot k v Bc[j]=dl (d+1+i) j:=fun i v f=>by rw[s (i+1) v (by simpa using f)];congr 1;(first|lia|omega)
    by_cases e:d=j
    ·subst e
     have z:cmb c (U.map fun l=>fun _=>dot k l Bc[d]) 0=0:=zO _ _ fun v f=>by
      obtain⟨l,F,rfl⟩:=List.mem_map.mp f;obtain⟨i,o,rfl⟩:=A5 F;show dot k U[i] Bc[d]=0;rw[C i _ (Ac o)];unfold dl;rw[if_neg ω]
     rw[z];have:d-d=0:=Nat.sub_self _;simp only[this,List.getElem_cons_zero];unfold dl;rw[if_pos ω];(first|lia|omega)
    ·have:=ih U (d+1) (by simpa using q) C ω (by simp at h;(first|lia|omega))
     rw[this];have e2:j-d=(j-(d+1))+1:=ω
     simp only[e2,List.getElem_cons_succ];unfold dl;rw[if_neg ω];(first|lia|omega)
 have:=H c (R.map fun r=>fun t=>r (w+t)) 0 (by rw[Aa,hc]) (fun i u g=>by rw[Nat.zero_add];exact D.b i j u Bc[j] g (Ac p)) (Aw _) ω;rw[A] at this;exact this.symm
def allb:List Nat->Ξ
 |[]=>[[]]
 |t::ts=>(allb ts).flatMap fun c=>(Ag t).map fun a:Nat=>(a:Int)::c
def pr:List Nat->Nat
 |[]=>1
 |t::ts=>t*pr ts
def j_:∀b,(allb b).length=pr b
 |[]=>rfl
 |t::b=>by
  have:∀l:Ξ,(l.flatMap fun c=>(Ag t).map fun a:Nat=>(a:Int)::c).length=t*l.length:=by
   intro l
   induction l with
   |nil=>simp
   |cons c l ih=>rw[List.flatMap_cons,AK,Aa,AZ,ih,AI,Nat.mul_add];(first|lia|omega)
  show((allb b).flatMap _).length=_;rw[this,j_ b];rfl
def iT:∀{b:List Nat}{c:List Int},c∈allb b↔c.length=b.length/\∀(i:Nat) x t,c[i]?=some x->b[i]?=some t->0<=x/\x<(t:Int)
 |[],c=>by
  show c∈[[]]↔_;rw[List.mem_singleton];constructor
  ·rintro rfl;exact⟨rfl,fun i x t h=>by simp at h⟩
  ·intro h;exact AH h.1
 |t::b,c=>by
  show c∈(allb b).flatMap (fun c=>(Ag t).map fun a:Nat=>(a:Int)::c)↔_;rw[List.mem_flatMap];constructor
  ·rintro⟨d,hd,h⟩
   obtain⟨a,f,rfl⟩:=List.mem_map.mp h;obtain⟨h1,h2⟩:=iT.mp hd;have:=List.mem_range.mp f;refine⟨by rw[AI,h1,AI],fun i x t' hx e=>?_⟩;cases i with
   |zero=>simp at hx e;(first|lia|omega)
   |succ i=>exact h2 i x t' (by simpa using hx) (by simpa using e)
  ·rintro⟨h1,h2⟩
   cases c with
   |nil=>simp at h1
   |cons a d=>
    have f:=h2 0 a t rfl rfl;refine⟨d,iT.mpr ⟨by simpa using h1,fun i x t' hx e=>h2 (i+1) x t' (by simpa using hx) (by simpa using e)⟩,List.mem_map.mpr ⟨a.toNat,List.mem_range.mpr ω,?_⟩⟩;rw[Int.toNat_of_nonneg f.1]
def ol:∀d,(allb d).Nodup
 |[]=>by simp[allb]
 |t::d=>by
  show((allb d).flatMap fun c=>(Ag t).map fun a:Nat=>(a:Int)::c).Pairwise (·≠·);rw[List.pairwise_flatMap];refine⟨fun c _=>?_,(ol d).imp fun{a b} h x hx y hy e=>?_⟩
  ·rw[List.pairwise_map]
   exact List.nodup_range.imp fun h e=>h (by injection e with e;(first|lia|omega))
  ·obtain⟨i,_,rfl⟩:=List.mem_map.mp hx
   obtain⟨j,_,rfl⟩:=List.mem_map.mp hy;injection e with _ e
   exact h e
def DC{a b:Type}{f:a->b}{l:List a}{m:List b}(c:l.Nodup)(d:∀x∈l,f x∈m)(inj:∀x∈l,∀y∈l,f x=f y->x=y):l.length<=m.length:=by
 rcases Bb m.length l.length with h|h
 ·obtain⟨x,hx,y,hy,ne,e⟩:=ez f l m c d h
  exact absurd (inj x hx y hy e) ne
 ·exact h
def vl(c:List Int):Vc:=fun j=>c.getD j 0
def lst(k:Nat)(x:Vc):List Int:=(Ag k).map x
def GB{k i:Nat}{x:Vc}(h:i<k):(lst k x)[i]?=some (x i):=by unfold lst;rw[Aj,AR h];rfl
def ie{k:Nat}{x:Vc}:(lst k x).length=k:=by unfold lst;simp
def Le{k:Nat}{x y:Vc}:lst k x=lst k y↔∀j,j<k->x j=y j:=by
 constructor
 ·intro h j a
  have:=congrArg (·[j]?) h;simp only[GB a] at this;exact AW this
 ·intro h
  exact A8 fun j a=>h j (List.mem_range.mp a)
def au(L:Nat->Vc):Nat->Vc->Vc
 |0,x=>x
 |k+1,x=>au L k (fun u=>x u-x k / L k k*L k u)
def SL(L:Nat->Vc)(k:Nat)(x:Vc):Prop:=∃c:Vc,∀j,j<k->x j=cmb (lst k c) ((Ag k).map L) j
section
variable{L f:Nat->Vc}{r:Nat}{Λ:Vc->Prop}
structure Lt(Λ:Vc->Prop):Prop where
 z:Λ fun _=>0
 s:∀{v w:Vc}(m:Int),Λ v->Λ w->Λ fun u=>v u-m*w u
def Lt.cmb(T:Lt Λ):∀(c:List Int)(S:List Vc),(∀s∈S,Λ s)->Λ (Tb.cmb c S)
 |[],[],_=>T.z
 |[],_::_,_=>T.z
 |_::_,[],_=>T.z
 |a::c,s::S,h=>by
  have:=T.s (-a) (Lt.cmb T c S fun w hw=>h w (.tail _ hw)) (h s (.head _));have e:(fun u=>Tb.cmb c S u - -a*s u)=Tb.cmb (a::c) (s::S):=funext fun u=>by show Tb.cmb c S u - -a*s u=a*s u+Tb.cmb c S u;rw[Int.neg_mul];(first|lia|omega)
  rw[e] at this;exact this
structure Two(Λ:Vc->Prop)(r:Nat)(L f:Nat->Vc):Prop where
 lt:Lt Λ
 li:∀i,i<r->Λ (L i)
 lp:∀i,i<r->0<L i i
 lz:∀i j,i<j->j<r->L i j=0
 fi:∀i,i<r->Λ (f i)
 fp:∀i,i<r->0<f i i
 fz:∀i j,i<r->j<i->f i j=0
 ld:∀v i,Λ v->i<r->(∀j,j<i->v j=0)->f i i ∣ v i
def GC(T:Two Λ r L f):∀(k:Nat)(x:Vc)(j:Nat),k<=j->j<r->au L k x j=x j
 |0,_,_,_,_=>rfl
 |k+1,x,j,hk,hj=>by
  show au L k _ j=x j;rw[GC T k _ j ω hj,T.lz k j ω hj];(first|lia|omega)
def GD(T:Two Λ r L f):∀(k:Nat)(x:Vc),k<=r->∀i,i<k->0<=au L k x i/\au L k x i<L i i
 |k+1,x,hk,i,hi=>by
  by_cases e:i=k
  ·subst e
   show 0<=au L i _ i/\au L i _ i<L i i;rw[GC T i _ i (Ad _) ω];have a:=T.lp i ω;have em:x i-x i / L i i*L i i=x i%L i i:=by have:=Int.emod_add_mul_ediv (x i) (L i i);rw[Be] at this;(first|lia|omega)
   rw[em];exact⟨Int.emod_nonneg _ ω,Int.emod_lt_of_pos _ a⟩
  ·exact GD T k _ ω i ω
def DD:∀(k:Nat)(x:Vc),∃c:Vc,∀u,x u-au L k x u=cmb (lst k c) ((Ag k).map L) u
 |0,x=>⟨fun _=>0,fun u=>by show x u-x u=0;(first|lia|omega)⟩
 |k+1,x=>by
  obtain⟨c,hc⟩:=DD k (fun u=>x u-x k / L k k*L k u);refine⟨fun i=>if i=k then x k / L k k else c i,fun u=>?_⟩;have e1:lst (k+1) (fun i=>if i=k then x k / L k k else c i)=lst k c++[x k / L k k]:=by
   unfold lst;rw[List.range_succ,Ap]
   congr 1
   ·exact A8 fun i hi=>if_neg (AB (List.mem_range.mp hi))
   ·show [if k=k then _ else _]=_;rw[if_pos rfl]
  have e:∀(c:List Int)(S:List Vc)(a:Int)(v:Vc),c.length=S.length->cmb (c++[a]) (S++[v]) u=cmb c S u+a*v u:=by
   intro c
   induction c with
   |nil=>intro S a v d;rw[AH d.symm];show a*v u+0=0+a*v u;(first|lia|omega)
   |cons b c ih=>intro S a v d;cases S with
    |nil=>simp at d
    |cons s S=>show b*s u+cmb (c++[a]) (S++[v]) u=b*s u+cmb c S u+a*v u;rw[ih S a v (by simpa using d)];(first|lia|omega)
  rw[e1,List.range_succ,Ap,AY,List.map_nil,e _ _ _ _ (by rw[ie];simp),<-hc u];show x u-au L k _ u=_;(first|lia|omega)
def Two.small(T:Two Λ r L f){v:Vc}{k:Nat}(hk:k<=r)(b:Λ v)(h:∀j,j<k->(v j).natAbs<(f j j).natAbs):∀j,j<k->v j=0:=by
 intro j
 induction j using Nat.strongRecOn with
 |_ j ih=>
  intro a;obtain⟨m,e⟩:=T.ld v j b ω fun i hi=>ih i hi ω;have:=h j a;rw[e,AF] at this;rcases Nat.eq_zero_or_pos m.natAbs with z|z
  ·rw[e,Int.natAbs_eq_zero.mp z,Ba]
  ·have:(f j j).natAbs*1<=(f j j).natAbs*m.natAbs:=Ak _ z
   (first|lia|omega)
def tn(g:Nat->Vc)(k:Nat):List Nat:=(Ag k).map fun i=>(g i i).toNat
def BC{a:Nat->Vc}{k:Nat}{x:List Int}(h:x∈allb (tn a k)):x.length=k/\∀j,j<k->0<=vl x j/\vl x j<((a j j).toNat:Int):=by
 obtain⟨h1,h2⟩:=iT.mp h;unfold tn at h1 h2;rw[Aa,AZ] at h1;refine⟨h1,fun j b=>?_⟩;have e:x[j]?=some (x[j]'ω):=Ac ω;have:=h2 j _ _ e (by rw[Aj,AR b];rfl);unfold vl;rw[Ab,e];exact this
def GE{x y:List Int}{k:Nat}(hx:x.length=k)(hy:y.length=k)(h:∀j,j<k->vl x j=vl y j):x=y:=by
 refine AV ω fun i h1 h2=>?_;have:=h i ω;unfold vl at this;rw[Ab,Ab,Ac h1,Ac h2] at this;exact this
def GF(T:Two Λ r L f){k:Nat}(hk:k<=r)(x:Vc):lst k (au L k x)∈allb (tn L k):=by
 refine iT.mpr ⟨by unfold tn;rw[ie];simp,fun i z t hz a=>?_⟩;have hi:i<k:=by have:=(List.getElem?_eq_some_iff.mp hz).1;rwa [ie] at this
 rw[GB hi] at hz;obtain rfl:=AW hz;unfold tn at a;rw[Aj,AR hi] at a;obtain rfl:=AW a;have:=GD T k x hk i hi;have:=T.lp i ω;show 0<=au L k x i/\au L k x i<((L i i).toNat:Int);(first|lia|omega)
def GG(T:Two Λ r L f){k:Nat}(hk:k<=r){x y:Vc}(h:lst k (au L k x)=lst k (au L k y)):∃v,Λ v/\SL L k v/\∀j,j<k->v j=x j-y j:=by
 obtain⟨c,hc⟩:=DD (L:=L) k x;obtain⟨d,hd⟩:=DD (L:=L) k y;have g:∀s∈(Ag k).map L,Λ s:=fun s a=>by
  obtain⟨i,hi,rfl⟩:=List.mem_map.mp a;exact T.li i (At (List.mem_range.mp hi) hk)
 have e:∀u,cmb (lst k fun i=>c i-d i) ((Ag k).map L) u=cmb (lst k c) ((Ag k).map L) u-cmb (lst k d) ((Ag k).map L) u:=fun u=>by
  rw[<-yU _ _ _ (by rw[ie];simp) (by rw[ie];simp)]
  congr 1
  apply AV
  ·simp[ie]
  ·intro i h1 h2;simp only[lst,AU,A4,AX]
 refine⟨cmb (lst k fun i=>c i-d i) ((Ag k).map L),T.lt.cmb _ _ g,⟨_,fun j _=>rfl⟩,fun j b=>?_⟩;rw[e,<-hc j,<-hd j,Le.mp h j b];(first|lia|omega)
def DE(T:Two Λ r L f){k:Nat}(hk:k<=r):pr (tn f k)<=pr (tn L k):=by
 rw[<-j_,<-j_];refine DC (f:=fun x=>lst k (au L k (vl x))) (ol _) (fun x _=>GF T hk _) fun x hx y hy e=>?_;obtain⟨v,c,_,b⟩:=GG T hk e;obtain⟨d,g⟩:=BC hx;obtain⟨h,i⟩:=BC hy;have z:=T.small hk c fun j a=>by
  have h1:=g j a;have h2:=i j a
  have l:=T.fp j ω;rw[b j a];(first|lia|omega)
 exact GE d h fun j a=>by have:=z j a;rw[b j a] at this;(first|lia|omega)
def half_lt(T:Two Λ r L f){k:Nat}(hk:k<=r){w:Vc}(hw:Λ w)(D:¬SL L k w):2*pr (tn f k)<=pr (tn L k):=by
 have eq:2*pr (tn f k)=((allb (tn f k)).map (fun x=>(false,x))++(allb (tn f k)).map (fun x=>(true,x))).length:=by rw[AK,Aa,Aa,j_];(first|lia|omega)
 rw[eq,<-j_]
 let g:Bool×List Int->Vc:=fun p=>if p.1=true then fun u=>vl p.2 u+w u else vl p.2
 have mem:∀p∈(allb (tn f k)).map (fun x=>(false,x))++(allb (tn f k)).map (fun x=>(true,x)),p.2∈allb (tn f k):=fun p hp=>by
  rcases List.mem_append.mp hp with h|h<;>(obtain⟨x,hx,rfl⟩:=List.mem_map.mp h;exact hx)
 refine DC (f:=fun p=>lst k (au L k (g p))) ?_ (fun p _=>GF T hk _) fun p hp q hq e=>?_
 ·rw[List.nodup_append]
  refine⟨?_,?_,fun x hx y hy=>?_⟩
  ·exact List.Pairwise.map _ (fun a b(h:a≠b) e=>h (by injection e)) (ol _)
  ·exact List.Pairwise.map _ (fun a b(h:a≠b) e=>h (by injection e)) (ol _)
  ·obtain⟨_,_,rfl⟩:=List.mem_map.mp hx
   obtain⟨_,_,rfl⟩:=List.mem_map.mp hy;intro z;injection z with z;cases z
 ·obtain⟨v,o,sv,l⟩:=GG T hk e
  obtain⟨a,x⟩:=p;obtain⟨b,y⟩:=q;obtain⟨F,G⟩:=BC (show x∈_ from mem _ hp);obtain⟨H,I⟩:=BC (show y∈_ from mem _ hq);have fin:∀{v':Vc},Λ v'->(∀j,j<k->v' j=vl x j-vl y j)->x=y:=fun{v'} E C=>by
   have z:=T.small hk E fun j d=>by
    have h1:=G j d;have h2:=I j d
    have J:=T.fp j ω;rw[C j d];(first|lia|omega)
   exact GE F H fun j d=>by have:=z j d;rw[C j d] at this;(first|lia|omega)
  cases a with
  |false=>
   cases b with
   |false=>rw[fin o fun j d=>by rw[l j d];rfl]
   |true=>
    exfalso
    have A:=fin (T.lt.s (-1) o hw) fun j d=>by rw[l j d];show vl x j-(vl y j+w j) - -1*w j=_;(first|lia|omega)
    subst A;obtain⟨c,hc⟩:=sv;apply D;refine⟨fun i=>-c i,fun j d=>?_⟩;have h1:=l j d;have h2:=hc j d;have e2:cmb (lst k fun i=>-c i) ((Ag k).map L) j=-cmb (lst k c) ((Ag k).map L) j:=by
     have:=gM (-1) 0 (lst k c) (lst k c) ((Ag k).map L) (by rw[ie];simp) (by rw[ie];simp) j;rw[show(-1:Int)*cmb (lst k c) ((Ag k).map L) j+0*cmb (lst k c) ((Ag k).map L) j=-cmb (lst k c) ((Ag k).map L) j from ω] at this;rw[<-this]
     congr 1
     apply AV
     ·simp[ie]
     ·intro i h1 h2;simp only[lst,AU,A4,AX];(first|lia|omega)
    rw[e2,<-h2,h1];show w j=-(vl x j-(vl x j+w j));(first|lia|omega)
  |true=>
   cases b with
   |true=>rw[fin o fun j d=>by rw[l j d];show vl x j+w j-(vl y j+w j)=_;(first|lia|omega)]
   |false=>
    exfalso
    have A:=fin (T.lt.s 1 o hw) fun j d=>by rw[l j d];show vl x j+w j-vl y j-1*w j=_;(first|lia|omega)
    subst A;obtain⟨c,hc⟩:=sv;exact D ⟨c,fun j d=>by rw[<-hc j d,l j d];show w j=vl x j+w j-vl x j;(first|lia|omega)⟩
def GH{j k:Nat}{c:Vc}(h:∀i,i<k->L i j=0):cmb (lst k c) ((Ag k).map L) j=0:=
 zO _ _ fun v a=>by
  obtain⟨i,hi,rfl⟩:=List.mem_map.mp a;exact h i (List.mem_range.mp hi)
def GJ(u k:Nat)(c:Vc):cmb (lst (k+1) c) ((Ag (k+1)).map L) u=cmb (lst k c) ((Ag k).map L) u+c k*L k u:=by
 have f:∀(c:List Int)(S:List Vc)(a:Int)(v:Vc),c.length=S.length->cmb (c++[a]) (S++[v]) u=cmb c S u+a*v u:=by
  intro c
  induction c with
  |nil=>intro S a v d;rw[AH d.symm];show a*v u+0=0+a*v u;(first|lia|omega)
  |cons b c ih=>intro S a v d;cases S with
   |nil=>simp at d
   |cons s S=>show b*s u+cmb (c++[a]) (S++[v]) u=b*s u+cmb c S u+a*v u;rw[ih S a v (by simpa using d)];(first|lia|omega)
 have e:lst (k+1) c=lst k c++[c k]:=by unfold lst;rw[List.range_succ,Ap];rfl
 rw[e,List.range_succ,Ap,AY,List.map_nil,f _ _ _ _ (by rw[ie];simp)]
def diag(T:Two Λ r L f)(o:∀i j,i<j->j<r->0<=f i j/\f i j<f j j)(b:∀k,k<=r->∀w,Λ w->SL L k w)(i:Nat)(hi:i<r):f i i=L i i/\(∀j,j<r->j≠i->f i j=0):=by
 obtain⟨c,hc⟩:=b i ω (L i) (T.li i hi);have u:∀s∈(Ag i).map L,Λ s:=fun s q=>by
  obtain⟨t,a,rfl⟩:=List.mem_map.mp q;exact T.li t (Nat.lt_trans (List.mem_range.mp a) hi)
 have hw:=T.lt.s 1 (T.li i hi) (T.lt.cmb (lst i c) _ u);have w1:∀j,j<i->L i j-1*cmb (lst i c) ((Ag i).map L) j=0:=fun j g=>by have:=hc j g;(first|lia|omega)
 have w2:∀j,i<=j->j<r->cmb (lst i c) ((Ag i).map L) j=0:=fun j h1 h2=>GH fun t a=>T.lz t j ω h2;have d1:=T.ld _ i hw hi w1;have v:=T.lp i hi;have x:=T.fp i hi;obtain⟨d,hd⟩:=b (i+1) ω (f i) (T.fi i hi);have e1:=hd i ω;rw[GJ,GH fun t a=>T.lz t i a hi] at e1;have d2:L i i ∣ f i i:=⟨d i,by rw[e1,Be];(first|lia|omega)⟩;have wi:L i i-1*cmb (lst i c) ((Ag i).map L) i=L i i:=by rw[w2 i (Ad _) hi];(first|lia|omega)
 have l:f i i ∣ L i i:=by
  have this:f i i ∣ L i i-1*cmb (lst i c) ((Ag i).map L) i:=d1;rw[wi] at this;exact this
 have p:f i i=L i i:=Int.le_antisymm (Int.le_of_dvd v l) (Int.le_of_dvd x d2);refine⟨p,fun j g ne=>?_⟩;have y:=T.lt.s 1 (T.fi i hi) hw;have:=T.small (Ad r) y (fun t a=>?_) j g
 ·rcases Bb j i with h|h
  ·exact T.fz i j hi h
  ·have e:L i j=0:=T.lz i j ω g
   have e2:=w2 j ω g;have:f i j-1*(L i j-1*cmb (lst i c) ((Ag i).map L) j)=0:=this;rw[e,e2] at this;(first|lia|omega)
 ·have z:=T.fp t a
  show(f i t-1*(L i t-1*cmb (lst i c) ((Ag i).map L) t)).natAbs<(f t t).natAbs;rcases Nat.lt_trichotomy t i with h|h|h
  ·have e1:=w1 t h
   rw[T.fz i t hi h,e1];(first|lia|omega)
  ·subst h;rw[wi,p];(first|lia|omega)
  ·have e:L i t=0:=T.lz i t h a
   have e2:=w2 t ω a;have e3:=o i t h a;rw[e,e2];(first|lia|omega)
def sR(T:Two Λ r L f)(a:∀i j,i<j->j<r->0<=f i j/\f i j<f j j):(∃k,k<=r/\2*pr (tn f k)<=pr (tn L k))\/∀i,i<r->f i i=L i i/\∀j,j<r->j≠i->f i j=0:=by
 by_cases h:∀k,k<=r->∀w,Λ w->SL L k w
 ·exact .inr fun i hi=>diag T a h i hi
 ·obtain⟨k,h⟩:=Classical.not_forall.mp h
  obtain⟨hk,h⟩:=Classical.not_imp.mp h;obtain⟨w,h⟩:=Classical.not_forall.mp h;obtain⟨hw,h⟩:=Classical.not_imp.mp h;exact .inl ⟨k,hk,half_lt T hk hw h⟩
end
def Lf{R:List Vc}{P:List Nat}{f:Nat->Vc}(h:Ech P f)(c:P.Pairwise (·<·))(d:∀r∈R,Sp (P.map f) r){w:Vc}(hw:Sp R w)(hb:∀p∈P,(w p).natAbs<(f p p).natAbs):∀p∈P,w p=0:=by
 have b:=hw.trans d;intro p
 induction p using Nat.strongRecOn with
 |_ p ih=>
  intro hp;obtain⟨m,e⟩:=j5 h c hp b fun q hq a=>ih q a hq;have:=hb p hp;rw[e,AF] at this;rcases Nat.eq_zero_or_pos m.natAbs with z|z
  ·rw[e,Int.natAbs_eq_zero.mp z,Ba]
  ·have:(f p p).natAbs*1<=(f p p).natAbs*m.natAbs:=Ak _ z
   (first|lia|omega)
def near{R:List Vc}{P:List Nat}{M:Nat}(l:1<=M)(d:∀v∈R,∀p∈P,(v p).natAbs<=M)(f:P.length=R.length)(e:P.Nodup)(hi:Inj R P)(v:Vc):∃q:List Int,q.length=R.length/\∀p∈P,(v p-cmb q R p).natAbs<=R.length*M:=by
 obtain⟨V,j⟩:∃V,∀p∈P,(v p).natAbs<=V:=by
  clear d f e hi
  induction P with
  |nil=>exact⟨0,fun p hp=>nomatch hp⟩
  |cons p P ih=>
   obtain⟨V,h⟩:=ih;exact⟨V+(v p).natAbs,fun q hq=>by rcases List.mem_cons.mp hq with rfl|hq;(first|lia|omega);have:=h q hq;(first|lia|omega)⟩
 obtain⟨D,s,c,a,e1,_,_⟩:=clear l d f e hi j P e fun q hq=>hq;have fin:∀(D:Int)(s:List Int),0<D->s.length=R.length->(∀p∈P,cmb s R p=D*v p)->∃q:List Int,q.length=R.length/\∀p∈P,(v p-cmb q R p).natAbs<=R.length*M:=fun D s c a e1=>by
  refine⟨s.map (· / D),by rw[Aa,a],fun p hp=>?_⟩;have e2:cmb (s.map (·%D)) R p=cmb s R p-D*cmb (s.map (· / D)) R p:=by
   have:=gM 1 (-D) s (s.map (· / D)) R a (by rw[Aa,a]) p;rw[Int.one_mul,Int.neg_mul] at this;rw[show cmb s R p-D*cmb (s.map (· / D)) R p=cmb s R p+-(D*cmb (s.map (· / D)) R p) from ω,<-this]
   congr 1
   apply AV
   ·simp
   ·intro i h1 h2
    simp only[AU,AX];have:=Int.emod_add_mul_ediv (s[i]'(by simpa using h1)) D;rw[Int.one_mul,Int.neg_mul];(first|lia|omega)
  have b:=rv (u:=p) (X:=D.natAbs) (M:=M) (s.map (·%D)) R (fun x hx=>by
   obtain⟨y,_,rfl⟩:=List.mem_map.mp hx;have h1:=Int.emod_nonneg y (show D≠0 from ω);have h2:=Int.emod_lt_of_pos y c;(first|lia|omega)) fun v g=>d v g p hp
  rw[e2,e1 p hp,<-Int.mul_sub,AF,Nat.mul_left_comm] at b;exact Nat.le_of_mul_le_mul_left b ω
 rcases Int.lt_trichotomy D 0 with h|h|h
 ·refine fin (-D) (s.map fun x=>-x) ω (by rw[Aa,a]) fun p hp=>?_
  have:=gM (-1) 0 s s R a a p;rw[show(-1:Int)*cmb s R p+0*cmb s R p=-cmb s R p from ω,e1 p hp] at this;rw[Int.neg_mul,<-this]
  congr 1
  apply AV
  ·simp
  ·intro i h1 h2;simp only[AU,AX];(first|lia|omega)
 ·exact absurd h c
 ·exact fin D s h a e1
def Lg{R:List Vc}{P:List Nat}{f:Nat->Vc}{M:Nat}(G:1<=M)(hi:iN R)(h:Ech P f)(j:P.Pairwise (·<·))(v:∀r∈R,Sp (P.map f) r)(l:P.length=R.length)(hb:∀r∈R,∀p∈P,(r p).natAbs<=M):pr (P.map fun p=>(f p p).toNat)<=(2*(R.length*M)+1) ^ R.length:=by
 have q:P.Nodup:=j.imp fun h=>AB h;have inj:=Bq hi h j v;have b:=fun x:List Int=>near G hb l q inj fun u=>x.getD (P.idxOf u) 0;rw[<-l,<-yB,<-j_];have g:∀(x:List Int)(i:Nat)(hi:i<P.length),x.getD (P.idxOf P[i]) 0=x.getD i 0:=fun x i hi=>by rw[q.idxOf_getElem i hi]
 refine DC (f:=fun x=>P.map fun p=>x.getD (P.idxOf p) 0-cmb (Classical.choose (b x)) R p+((P.length*M:Nat):Int)) (ol _) (fun x hx=>?_) fun x hx y hy e=>?_
 ·refine k7.mpr ⟨Aa _,fun z hz=>?_⟩
  obtain⟨p,hp,rfl⟩:=List.mem_map.mp hz;have:=(Classical.choose_spec (b x)).2 p hp;rw[show P.length*M=R.length*M by rw[l]];generalize cmb (Classical.choose (b x)) R p=z at this ⊢;generalize R.length*M=A at this ⊢;(first|lia|omega)
 ·obtain⟨d,c⟩:=iT.mp hx
  obtain⟨o,w⟩:=iT.mp hy;rw[Aa] at d o;obtain⟨C,_⟩:=Classical.choose_spec (b x);obtain⟨D,_⟩:=Classical.choose_spec (b y);have sp:Sp R fun u=>cmb (Classical.choose (b x)) R u-1*cmb (Classical.choose (b y)) R u:=(show Sp R (cmb (Classical.choose (b x)) R) from⟨_,C,fun _=>rfl⟩).sub ⟨_,D,fun _=>rfl⟩ 1;have s:∀p∈P,cmb (Classical.choose (b x)) R p-1*cmb (Classical.choose (b y)) R p=x.getD (P.idxOf p) 0-y.getD (P.idxOf p) 0:=fun p hp=>by
   have:=(List.map_inj_left.mp e) p hp;(first|lia|omega)
  have bd:∀(x:List Int),(∀(i:Nat) z t,x[i]?=some z->(P.map fun p=>(f p p).toNat)[i]?=some t->0<=z/\z<(t:Int))->x.length=P.length->∀p∈P,0<=x.getD (P.idxOf p) 0/\x.getD (P.idxOf p) 0<((f p p).toNat:Int):=fun x c d p hp=>by
   obtain⟨i,a,rfl⟩:=A5 hp;rw[g x i a,Ab,Ac ω];exact c i _ _ (Ac ω) (by rw[Aj,Ac a];rfl)
  have z:=Lf h j v sp fun p hp=>by
   have h1:=bd x c d p hp;have h2:=bd y w o p hp
   have H:=h.pos p hp;have E:=s p hp;show(cmb (Classical.choose (b x)) R p-1*cmb (Classical.choose (b y)) R p).natAbs<_;rw[E];(first|lia|omega)
  refine AV ω fun i h1 h2=>?_;have a:i<P.length:=ω
  have:=z P[i] (Ay a);have e2:=s P[i] (Ay a);rw[g x i a,g y i a,Ab,Ab,Ac h1,Ac h2] at e2;have F:cmb (Classical.choose (b x)) R P[i]-1*cmb (Classical.choose (b y)) R P[i]=0:=this;rw[F] at e2;show x[i]=y[i];have e3:(some x[i]).getD 0=x[i]:=rfl;have I:(some y[i]).getD 0=y[i]:=rfl;(first|lia|omega)
def sm(ρ:Nat->Vc)(c:Nat->Int):Nat->Nat->Int
 |0,_=>0
 |j+1,u=>sm ρ c j u+c j*ρ j u
def BD{ρ:Nat->Vc}{c:Vc}(u:Nat):∀j,cmb (lst j c) ((Ag j).map ρ) u=sm ρ c j u
 |0=>rfl
 |j+1=>by rw[GJ,BD u j];rfl
def GK(c:List Int):lst c.length (vl c)=c:=range_getD c
def tf{ρ:Nat->Vc}{c:Vc}{u:Nat}:∀j,(∀i,i<j->c i*ρ i u=0)->sm ρ c j u=0
 |0,_=>rfl
 |j+1,h=>by show sm ρ c j u+c j*ρ j u=0;rw[tf j fun i hi=>h i ω,h j ω];rfl
def ti{ρ:Nat->Vc}{c:Vc}{u:Nat}:∀(n j:Nat),(∀i,j<=i->i<j+n->c i*ρ i u=0)->sm ρ c (j+n) u=sm ρ c j u
 |0,_,_=>rfl
 |n+1,j,h=>by show sm ρ c (j+n) u+c (j+n)*ρ (j+n) u=_;rw[ti n j fun i h1 h2=>h i h1 ω,h (j+n) ω ω];(first|lia|omega)
def sd(ρ:Nat->Vc)(c:Nat->Int)(m:Nat):Nat->Nat->Int
 |0,_=>0
 |n+1,u=>sd ρ c m n u+c (m-1-n)*ρ (m-1-n) u
def GL{ρ:Nat->Vc}{c:Vc}{m u:Nat}:∀n,n<=m->sm ρ c m u=sm ρ c (m-n) u+sd ρ c m n u
 |0,_=>by show _=sm ρ c m u+0;(first|lia|omega)
 |n+1,h=>by
  rw[GL n ω];have e:m-n=(m-1-n)+1:=ω
  have e2:m-(n+1)=m-1-n:=ω
  rw[e,e2];show sm ρ c (m-1-n) u+c (m-1-n)*ρ (m-1-n) u+sd ρ c m n u=sm ρ c (m-1-n) u+(sd ρ c m n u+c (m-1-n)*ρ (m-1-n) u);(first|lia|omega)
structure Tri(k r w M g:Nat)(ρ:Nat->Vc)(Q:Nat->Nat):Prop where
 g1:1<=g
 rk:r<=k
 rw:r<=w
 qs:∀a b,a<b->b<k-r->Q a<Q b
 qw:∀a,a<k-r->w<=Q a
 tp:∀i,i<r->0<ρ i i
 tz:∀i j,i<r->i<j->j<w->ρ i j=0
 tl:∀i j,i<r->j<i->(ρ i j).natAbs<=(ρ i i).natAbs
 tq:∀i a,i<r->a<k-r->(ρ i (Q a)).natAbs<=g*(ρ (r+a) (Q a)).natAbs
 kz:∀a u,a<k-r->u<Q a->ρ (r+a) u=0
 kp:∀a,a<k-r->0<ρ (r+a) (Q a)
 kq:∀a b,a<b->b<k-r->0<=ρ (r+a) (Q b)/\ρ (r+a) (Q b)<ρ (r+b) (Q b)
 tm:∀i,i<r->(ρ i i).natAbs<=M
 km:∀a,a<k-r->g*(ρ (r+a) (Q a)).natAbs<=M
section
variable{k r w M g:Nat}{ρ:Nat->Vc}{Q:Nat->Nat}
def Tri.low(T:Tri k r w M g ρ Q){a u:Nat}(b:a<k-r)(c:u<w):ρ (r+a) u=0:=T.kz a u b (At c (T.qw a b))
def sa(ρ:Nat->Vc)(c:Nat->Int)(m:Nat):Nat->Nat
 |0=>0
 |n+1=>sa ρ c m n+(c (m-1-n)).natAbs*(ρ (m-1-n) (m-1-n)).natAbs
def Tri.top_le(T:Tri k r w M g ρ Q){c:Vc}{m V:Nat}(j:m<=r)(f:∀i,i<m->(sm ρ c m i).natAbs<=V):∀n,n<=m->sa ρ c m n+V<=V*2 ^ n
 |0,_=>by show 0+V<=V*1;(first|lia|omega)
 |n+1,h=>by
  have d:=Tri.top_le T j f n ω;have hi:m-1-n<m:=ω
  have o:(sd ρ c m n (m-1-n)).natAbs<=sa ρ c m n:=by
   have:∀a,a<=n->(sd ρ c m a (m-1-n)).natAbs<=sa ρ c m a:=by
    intro a
    induction a with
    |zero=>intro _;exact Ad 0
    |succ a d=>
     intro l;have h1:=d ω;have h2:=T.tl (m-1-a) (m-1-n) ω ω;have p:(c (m-1-a)*ρ (m-1-a) (m-1-n)).natAbs<=(c (m-1-a)).natAbs*(ρ (m-1-a) (m-1-a)).natAbs:=by rw[AF];exact Ak _ h2
     have q:=Int.natAbs_add_le (sd ρ c m a (m-1-n)) (c (m-1-a)*ρ (m-1-a) (m-1-n));show(sd ρ c m a (m-1-n)+c (m-1-a)*ρ (m-1-a) (m-1-n)).natAbs<=sa ρ c m a+_;(first|lia|omega)
   exact this n (Ad _)
  have e:sm ρ c m (m-1-n)=c (m-1-n)*ρ (m-1-n) (m-1-n)+sd ρ c m n (m-1-n):=by
   rw[GL n ω,show m-n=(m-1-n)+1 from ω];show sm ρ c (m-1-n) (m-1-n)+_+_=_;rw[tf (m-1-n) fun i b=>by rw[T.tz i (m-1-n) ω b (by have:=T.rw;(first|lia|omega)),Ba]];(first|lia|omega)
  have s:=f (m-1-n) hi;have u:(c (m-1-n)).natAbs*(ρ (m-1-n) (m-1-n)).natAbs<=V+sa ρ c m n:=by
   rw[<-AF];(first|lia|omega)
  show sa ρ c m n+(c (m-1-n)).natAbs*(ρ (m-1-n) (m-1-n)).natAbs+V<=V*2 ^ (n+1);rw[Nat.pow_succ,<-AN];(first|lia|omega)
def sc(c:Nat->Int):Nat->Nat
 |0=>0
 |n+1=>sc c n+(c n).natAbs
def Lh{c:Vc}{n i:Nat}(h:i<n):(c i).natAbs<=sc c n:=by
 induction n with
 |zero=>(first|lia|omega)
 |succ n ih=>
  show _<=sc c n+(c n).natAbs
  by_cases e:i=n
  ·subst e;(first|lia|omega)
  ·have:=ih ω;(first|lia|omega)
def Tri.top_sum(T:Tri k r w M g ρ Q){c:Vc}{m V:Nat}(a:m<=r)(b:∀i,i<m->(sm ρ c m i).natAbs<=V):sc c m+V<=V*2 ^ m:=by
 have h1:=T.top_le a b m (Ad _);have h2:∀n,n<=m->sc c m<=sc c (m-n)+sa ρ c m n:=by
  intro n
  induction n with
  |zero=>intro _;exact Ad _
  |succ n ih=>
   intro d;have:=ih ω;have hp:=T.tp (m-1-n) ω;rw[show m-n=(m-1-n)+1 from ω] at this;rw[show m-(n+1)=m-1-n from ω];have e:(c (m-1-n)).natAbs*1<=(c (m-1-n)).natAbs*(ρ (m-1-n) (m-1-n)).natAbs:=Ak _ ω;show sc c m<=sc c (m-1-n)+(sa ρ c m n+_);have f:sc c (m-1-n+1)=sc c (m-1-n)+(c (m-1-n)).natAbs:=rfl;(first|lia|omega)
 have:=h2 m (Ad _);rw[Nat.sub_self] at this;have:sc c 0=0:=rfl;(first|lia|omega)
def GM{c:Vc}{u K:Nat}:∀n,(∀i,i<n->(ρ i u).natAbs<=K)->(sm ρ c n u).natAbs<=K*sc c n
 |0,_=>Aw _
 |n+1,h=>by
  have h1:=GM (c:=c) n fun i hi=>h i ω;have h2:(c n*ρ n u).natAbs<=K*(c n).natAbs:=by rw[AF,Nat.mul_comm];exact Am _ (h n ω)
  have a:=Int.natAbs_add_le (sm ρ c n u) (c n*ρ n u);show(sm ρ c n u+c n*ρ n u).natAbs<=K*(sc c n+(c n).natAbs);rw[Nat.mul_add];(first|lia|omega)
def Tri.all_sum(T:Tri k r w M g ρ Q){c:Vc}{V:Nat}:∀n,n<=k-r->(∀i,i<r->(sm ρ c (r+n) i).natAbs<=V)->(∀a,a<n->(sm ρ c (r+n) (Q a)).natAbs<=V)->sc c (r+n)+V<=V*2 ^ r*(1+g) ^ n:=by
 intro n;have base:∀n,n<=k-r->(∀i,i<r->(sm ρ c (r+n) i).natAbs<=V)->sc c r+V<=V*2 ^ r:=fun n h d=>T.top_sum (Ad r) fun i hi=>by
  have:=d i hi
  rwa [ti n r fun j h1 h2=>by
   have:=T.low (a:=j-r) (u:=i) ω (by have:=T.rw;(first|lia|omega));rw[show r+(j-r)=j from ω] at this;rw[this,Ba]] at this
 intro h d hq;have hb:=base n h d;have:∀b,b<=n->sc c (r+b)+V<=V*2 ^ r*(1+g) ^ b:=by
  intro b
  induction b with
  |zero=>intro _;rw[Nat.pow_zero,Nat.mul_one];exact hb
  |succ b ih=>
   intro p;have h1:=ih ω;have hp:=T.kp b ω;have e:sm ρ c (r+n) (Q b)=sm ρ c (r+b) (Q b)+c (r+b)*ρ (r+b) (Q b):=by
    have:=ti (ρ:=ρ) (c:=c) (u:=Q b) (n-(b+1)) (r+(b+1)) fun j h1 h2=>by
     have:=T.kz (j-r) (Q b) ω (T.qs b (j-r) ω ω);rw[show r+(j-r)=j from ω] at this;rw[this,Ba]
    rw[show r+(b+1)+(n-(b+1))=r+n from ω] at this;rw[this];rfl
   have h2:(sm ρ c (r+b) (Q b)).natAbs<=(g*(ρ (r+b) (Q b)).natAbs)*sc c (r+b):=GM (r+b) fun i hi=>by
    by_cases f:i<r
    ·exact T.tq i b f ω
    ·have:=T.kq (i-r) b ω ω
     rw[show r+(i-r)=i from ω] at this;have:1*(ρ (r+b) (Q b)).natAbs<=g*(ρ (r+b) (Q b)).natAbs:=Am _ T.g1;(first|lia|omega)
   have q:=hq b ω;have o:(c (r+b)).natAbs*(ρ (r+b) (Q b)).natAbs<=V+(g*(ρ (r+b) (Q b)).natAbs)*sc c (r+b):=by
    rw[<-AF];(first|lia|omega)
   generalize hκ:(ρ (r+b) (Q b)).natAbs=κ at h2 o;have l:1<=κ:=ω
   have s:(c (r+b)).natAbs<=V+g*sc c (r+b):=by
    have:κ*(c (r+b)).natAbs<=κ*(V+g*sc c (r+b)):=by
     rw[Nat.mul_add,Nat.mul_comm κ (c (r+b)).natAbs,<-AN,Nat.mul_comm κ g];have:V<=κ*V:=Nat.le_mul_of_pos_left _ l;(first|lia|omega)
    exact Nat.le_of_mul_le_mul_left this l
   show sc c (r+b)+(c (r+b)).natAbs+V<=V*2 ^ r*(1+g) ^ (b+1);rw[Nat.pow_succ,<-AN];have v:(sc c (r+b)+V)*(1+g)<=V*2 ^ r*(1+g) ^ b*(1+g):=Am _ h1;have x:(sc c (r+b)+V)*(1+g)=sc c (r+b)+V+(g*sc c (r+b)+g*V):=by rw[Nat.mul_add,Nat.mul_one,Nat.mul_comm _ g,Nat.mul_add]
   have y:1*V<=g*V:=Am _ T.g1;(first|lia|omega)
 exact this n (Ad _)
end
def tj:∀(a b:List Nat),pr (a++b)=pr a*pr b
 |[],b=>by show pr b=1*pr b;(first|lia|omega)
 |t::a,b=>by show t*pr (a++b)=t*pr a*pr b;rw[tj a b,AN]
def GN(g:Nat->Vc)(k:Nat):tn g (k+1)=tn g k++[(g k k).toNat]:=by unfold tn;rw[List.range_succ,Ap];rfl
def oo{g:Nat->Vc}:∀{k:Nat},(∀i,i<k->0<g i i)->1<=pr (tn g k)
 |0,_=>Ad _
 |k+1,h=>by
  rw[GN,tj];have h1:=oo (k:=k) fun i hi=>h i ω;have h2:=h k ω;exact n7 h1 (by show 1<=(g k k).toNat*1;(first|lia|omega))
def DF{g:Nat->Vc}{k:Nat}(h:∀i,i<k+1->0<g i i):(g k k).toNat<=pr (tn g (k+1)):=by
 rw[GN,tj];have:=oo (k:=k) fun i hi=>h i ω;show _<=pr (tn g k)*((g k k).toNat*1);rw[Nat.mul_one];exact Nat.le_mul_of_pos_left _ this
section
variable{k r w M g:Nat}{ρ:Nat->Vc}{Q:Nat->Nat}
def pl(r j:Nat)(Q:Nat->Nat):List Nat:=Ag (min j r)++(Ag (j-r)).map Q
def GO{j:Nat}:(pl r j Q).length=j:=by unfold pl;rw[AK,AZ,Aa,AZ];(first|lia|omega)
def Tri.sum_le(T:Tri k r w M g ρ Q){j V:Nat}{c:Vc}(e:j<=k)(b:∀p∈pl r j Q,(sm ρ c j p).natAbs<=V):sc c j+V<=V*(1+g) ^ j:=by
 rcases Bb j r with h|h
 ·have:=T.top_sum (m:=j) ω fun i hi=>b i (List.mem_append_left _ (List.mem_range.mpr ω))
  have g2:2 ^ j<=(1+g) ^ j:=Nat.pow_le_pow_left (by have:=T.g1;(first|lia|omega)) _;exact Ae this (Ak _ g2)
 ·have:=T.all_sum (c:=c) (V:=V) (j-r) ω (fun i hi=>?_) fun a d=>?_
  ·rw[show r+(j-r)=j from ω] at this
   have g2:2 ^ r<=(1+g) ^ r:=Nat.pow_le_pow_left (by have:=T.g1;(first|lia|omega)) _;have g3:V*2 ^ r*(1+g) ^ (j-r)<=V*(1+g) ^ r*(1+g) ^ (j-r):=Am _ (Ak _ g2);rw[AN V ((1+g) ^ r),<-Nat.pow_add,show r+(j-r)=j from ω] at g3;exact Ae this g3
  ·rw[show r+(j-r)=j from ω]
   exact b i (List.mem_append_left _ (List.mem_range.mpr ω))
  ·rw[show r+(j-r)=j from ω]
   exact b (Q a) (AA _ (List.mem_map.mpr ⟨a,List.mem_range.mpr d,rfl⟩))
def Tri.lead(T:Tri k r w M g ρ Q){j p:Nat}{c:Vc}(H:j<=k)(hz:∀u,u<p->sm ρ c j u=0)(hp:sm ρ c j p≠0):p∈pl r j Q:=by
 by_cases C:∃i,i<min j r/\c i≠0
 ·-- eN f row of eN slope that stands there
  have f:∀m,m<=min j r->(∃i,i<m/\c i≠0)->∃i,i<m/\c i≠0/\∀d,i<d->d<m->c d=0:=by
   intro m
   induction m with
   |zero=>rintro _ ⟨i,hi,_⟩;(first|lia|omega)
   |succ m ih=>
    rintro G ⟨i,hi,hc⟩
    by_cases e:c m=0
    ·obtain⟨d,h1,h2,q⟩:=ih ω ⟨i,by rcases Bb i m with h|h;exact h;exact absurd (show c i=0 by rw[show i=m from ω];exact e) hc,hc⟩
     exact⟨d,ω,h2,fun y D E=>by by_cases e2:y=m;rw[e2];exact e;exact q y D ω⟩
    ·exact⟨m,ω,e,fun d h1 h2=>ω⟩
  obtain⟨i,hi,hc,s⟩:=f _ (Ad _) C;have v:i<r:=ω
  have e:sm ρ c j i=c i*ρ i i:=by
   have h1:=ti (ρ:=ρ) (c:=c) (u:=i) (j-(i+1)) (i+1) fun d h1 h2=>by
    by_cases h:d<r
    ·rw[s d ω ω,Int.zero_mul]
    ·have:=T.low (a:=d-r) (u:=i) ω (by have:=T.rw;(first|lia|omega))
     rw[show r+(d-r)=d from ω] at this;rw[this,Ba]
   rw[show i+1+(j-(i+1))=j from ω] at h1;rw[h1];show sm ρ c i i+c i*ρ i i=_;rw[tf i fun d l=>by rw[T.tz d i ω l (by have:=T.rw;(first|lia|omega)),Ba]];(first|lia|omega)
  have x:sm ρ c j i≠0:=by rw[e];exact Int.mul_ne_zero hc (by have:=T.tp i v;(first|lia|omega))
  have:p<=i:=by
   rcases Bb i p with h|h
   ·exact absurd (hz i h) x
   ·exact h
  exact List.mem_append_left _ (List.mem_range.mpr ω)
 ·have A:∀i,i<min j r->c i=0:=fun i hi=>AJ fun z=>C ⟨i,hi,z⟩
  have first:∀n,(∃a,a<n/\c (r+a)≠0)->∃a,a<n/\c (r+a)≠0/\∀b,b<a->c (r+b)=0:=by
   intro n
   induction n with
   |zero=>rintro⟨a,o,_⟩;(first|lia|omega)
   |succ n ih=>
    rintro⟨a,o,hc⟩
    by_cases h:∃a,a<n/\c (r+a)≠0
    ·obtain⟨a',h1,h2,q⟩:=ih h
     exact⟨a',ω,h2,q⟩
    ·exact⟨a,o,hc,fun b hb=>AJ fun z=>h ⟨b,ω,z⟩⟩
  have ex:∃a,a<j-r/\c (r+a)≠0:=AJ fun no=>hp (tf j fun i hi=>by
   by_cases h:i<r
   ·rw[A i ω,Int.zero_mul]
   ·have:c (r+(i-r))=0:=AJ fun z=>no ⟨i-r,ω,z⟩
    rw[show r+(i-r)=i from ω] at this;rw[this,Int.zero_mul])
  obtain⟨a,o,hc,s⟩:=first _ ex;have e:∀u,u<=Q a->sm ρ c j u=c (r+a)*ρ (r+a) u:=fun u F=>by
   have h1:=ti (ρ:=ρ) (c:=c) (u:=u) (j-(r+a+1)) (r+a+1) fun d h1 h2=>by
    have:=T.kz (d-r) u ω (by have:=T.qs a (d-r) ω ω;(first|lia|omega));rw[show r+(d-r)=d from ω] at this;rw[this,Ba]
   rw[show r+a+1+(j-(r+a+1))=j from ω] at h1;rw[h1];show sm ρ c (r+a) u+c (r+a)*ρ (r+a) u=_;rw[tf (r+a) fun d l=>by
    by_cases h:d<r
    ·rw[A d ω,Int.zero_mul]
    ·have:=s (d-r) ω
     rw[show r+(d-r)=d from ω] at this;rw[this,Int.zero_mul]]
   (first|lia|omega)
  have hk:=T.kp a ω;have e1:p=Q a:=by
   rcases Nat.lt_trichotomy p (Q a) with h|h|h
   ·exact absurd (by rw[e p ω,T.kz a p ω h,Ba]) hp
   ·exact h
   ·exact absurd (by rw[<-e (Q a) (Ad _)];exact hz (Q a) h) (Int.mul_ne_zero hc (show ρ (r+a) (Q a)≠0 from ω))
  rw[e1];exact AA _ (List.mem_map.mpr ⟨a,List.mem_range.mpr o,rfl⟩)
def Tri.rows_le(T:Tri k r w M g ρ Q){j i p:Nat}(l:j<=k)(hi:i<j)(hp:p∈pl r j Q):(ρ i p).natAbs<=M:=by
 rcases List.mem_append.mp hp with h|h
 ·have h:=List.mem_range.mp h
  by_cases b:i<r
  ·have:=T.tm i b
   rcases Nat.lt_trichotomy p i with g|g|g
   ·have:=T.tl i p b g;(first|lia|omega)
   ·subst g;exact this
   ·rw[T.tz i p b g (by have:=T.rw;(first|lia|omega))];exact Aw _
  ·have:=T.low (a:=i-r) (u:=p) ω (by have:=T.rw;(first|lia|omega))
   rw[show r+(i-r)=i from ω] at this;rw[this];exact Aw _
 ·obtain⟨a,c,rfl⟩:=List.mem_map.mp h
  have c:=List.mem_range.mp c;have d:=T.km a ω;have f:1*(ρ (r+a) (Q a)).natAbs<=g*(ρ (r+a) (Q a)).natAbs:=Am _ T.g1
  by_cases b:i<r
  ·have:=T.tq i a b ω;(first|lia|omega)
  ·rcases Nat.lt_trichotomy (i-r) a with g'|g'|g'
   ·have:=T.kq (i-r) a g' ω
    rw[show r+(i-r)=i from ω] at this;(first|lia|omega)
   ·have e:ρ i (Q a)=ρ (r+a) (Q a):=by rw[<-g',show r+(i-r)=i from ω]
    rw[e];(first|lia|omega)
   ·have:=T.kz (i-r) (Q a) ω (T.qs a (i-r) g' ω)
    rw[show r+(i-r)=i from ω] at this;rw[this];exact Aw _
def GP(T:Tri k r w M g ρ Q){N B:Nat}(U:∀a,a<k-r->(ρ (r+a) (Q a)).natAbs<=B)(W:∀m,m<=r->pr (tn ρ m)<=B)(hk:k<=N){j:Nat}(E:j<=k):Bd N M ((1+g) ^ N) B ((Ag j).map ρ):=by
 have l:((Ag j).map ρ).length=j:=by simp
 have C:∀(c:List Int),c.length=j->∀u,cmb c ((Ag j).map ρ) u=sm ρ (vl c) j u:=fun c hc u=>by
  have:=BD (ρ:=ρ) (c:=vl c) u j;rw[<-hc,GK] at this;rw[<-hc];exact this
 have small:∀(c:List Int)(V:Nat),c.length=j->(∀p∈pl r j Q,(cmb c ((Ag j).map ρ) p).natAbs<=V)->∀x∈c,x.natAbs<=V*(1+g) ^ j:=fun c V hc b x hx=>by
  have h1:=T.sum_le (c:=vl c) E fun p hp=>by rw[<-C c hc];exact b p hp
  obtain⟨i,hi,rfl⟩:=A5 hx;have h2:=Lh (c:=vl c) (n:=j) (i:=i) ω;have e:vl c i=c[i]:=by unfold vl;rw[Ab,Ac hi];rfl
  rw[e] at h2;(first|lia|omega)
 have ind:iN ((Ag j).map ρ):=fun c hc hz x hx=>by
  have:=small c 0 (by rw[hc,l]) (fun p _=>by rw[hz];exact Ad 0) x hx;(first|lia|omega)
 refine⟨ind,fun P f h o F G I=>?_⟩;rw[l] at I;have O:P.Nodup:=o.imp fun h=>AB h;have sub:∀p∈P,p∈pl r j Q:=fun p hp=>by
  obtain⟨c,hc,e⟩:=G p hp;rw[l] at hc;refine T.lead (c:=vl c) E (fun u J=>?_) ?_
  ·rw[<-C c hc,<-e];exact h.z p hp u J
  ·rw[<-C c hc,<-e];have:=h.pos p hp;(first|lia|omega)
 have d:∀p∈pl r j Q,p∈P:=fun p hp=>AJ fun z=>by
  have D:(p::P).Nodup:=List.nodup_cons.mpr ⟨z,O⟩;have:=D.length_le_of_subset (l₂:=pl r j Q) fun x hx=>by
   rcases List.mem_cons.mp hx with rfl|hx
   ·exact hp
   ·exact sub x hx
  rw[GO,AI] at this;(first|lia|omega)
 refine⟨fun p hp=>?_,fun s L p hp=>?_,fun c V hc b x hx=>?_⟩
 ·rcases List.mem_append.mp (sub p hp) with hg|hg
  ·have hg:=List.mem_range.mp hg
   have two:Two (Sp ((Ag j).map ρ)) (min j r) ρ f:=by
    have inP:∀i,i<min j r->i∈P:=fun i hi=>d i (List.mem_append_left _ (List.mem_range.mpr hi));refine⟨⟨Sp.zero,fun m b hw=>b.sub hw m⟩,fun i hi=>Sp.mem (List.mem_map.mpr ⟨i,List.mem_range.mpr ω,rfl⟩),fun i hi=>T.tp i ω,fun i y h1 h2=>T.tz i y ω h1 (by have:=T.rw;(first|lia|omega)),fun i hi=>G i (inP i hi),fun i hi=>h.pos i (inP i hi),fun i y hi A=>h.z i (inP i hi) y A,fun v i b hi hz=>?_⟩;exact j5 h o (inP i hi) (b.trans F) fun q _ hq=>hz q hq
   have h1:=DE two (k:=p+1) ω;have h2:=DF (g:=f) (k:=p) fun i hi=>two.fp i ω;have X:=W (p+1) ω;have Y:=h.pos p hp;(first|lia|omega)
  ·obtain⟨a,H,rfl⟩:=List.mem_map.mp hg
   have H:=List.mem_range.mp H;have sp:Sp (P.map f) (ρ (r+a)):=F _ (List.mem_map.mpr ⟨r+a,List.mem_range.mpr ω,rfl⟩);have hd:=j5 h o hp sp fun q _ hq=>T.kz a q ω hq;have Z:=T.kp a ω;have:=Nat.le_of_dvd ω (Int.natAbs_dvd_natAbs.mpr hd);have:=U a ω;(first|lia|omega)
 ·obtain⟨i,hi,rfl⟩:=List.mem_map.mp L
  exact T.rows_le E (List.mem_range.mp hi) (sub p hp)
 ·rw[l] at hc
  refine Ae (small c V hc (fun p hp=>b p (d p hp)) x hx) ?_;have h1:(1+g) ^ j<=(1+g) ^ N:=Ax ω ω;have h2:V*(1+g) ^ j<=V*(1+g) ^ N:=Ak _ h1;have S:1<=N:=by
   have:0<c.length:=List.length_pos_of_mem hx;(first|lia|omega)
  exact Ae h2 (Nat.le_mul_of_pos_left _ S)
end
section
variable{k r w M g N X B:Nat}{ρ f:Nat->Vc}{Q:Nat->Nat}{P:List Nat}
def Li{l m:List Nat}(h1:l.Pairwise (·<·))(h2:m.Pairwise (·<·))(h:∀x,x∈l↔x∈m):l=m:=
 List.Perm.eq_of_pairwise (le:=fun a b=>a<=b) (fun a b _ _ g1 g2=>Nat.le_antisymm g1 g2) (h1.imp fun h=>Nat.le_of_lt h) (h2.imp fun h=>Nat.le_of_lt h) ((List.perm_ext_iff_of_nodup (h1.imp fun h=>ω) (h2.imp fun h=>ω)).mpr h)
def Tri.pl_srt(T:Tri k r w M g ρ Q){j:Nat}(d:j<=k):(pl r j Q).Pairwise (·<·):=by
 unfold pl;rw[List.pairwise_append,List.pairwise_map];refine⟨List.pairwise_lt_range,List.pairwise_lt_range.imp_of_mem fun{a b} c hb h=>T.qs a b h (by have:=List.mem_range.mp hb;(first|lia|omega)),fun x hx y hy=>?_⟩;obtain⟨a,c,rfl⟩:=List.mem_map.mp hy;have:=List.mem_range.mp hx;have:=List.mem_range.mp c;have:=T.qw a ω;have:=T.rw;(first|lia|omega)
def Tri.places(T:Tri k r w M g ρ Q){j:Nat}(d:j<=k)(h:Ech P f)(i:P.Pairwise (·<·))(o:∀p∈P,Sp ((Ag j).map ρ) (f p))(q:P.length=j):P=pl r j Q:=by
 have sub:∀p∈P,p∈pl r j Q:=fun p hp=>by
  obtain⟨c,hc,e⟩:=o p hp;have hc:c.length=j:=by simpa using hc
  have b:∀u,cmb c ((Ag j).map ρ) u=sm ρ (vl c) j u:=fun u=>by
   have:=BD (ρ:=ρ) (c:=vl c) u j;rw[<-hc,GK] at this;rw[<-hc];exact this
  refine T.lead (c:=vl c) d (fun u l=>?_) ?_
  ·rw[<-b,<-e];exact h.z p hp u l
  ·rw[<-b,<-e];have:=h.pos p hp;(first|lia|omega)
 refine Li i (T.pl_srt d) fun x=>⟨sub x,fun hx=>AJ fun z=>?_⟩;have a:(x::P).Nodup:=List.nodup_cons.mpr ⟨z,i.imp fun h=>AB h⟩;have:=a.length_le_of_subset (l₂:=pl r j Q) fun y hy=>by
  rcases List.mem_cons.mp hy with rfl|hy
  ·exact hx
  ·exact sub y hy
 rw[GO,AI] at this;(first|lia|omega)
structure GQ(k r w:Nat)(ρ f:Nat->Vc)(Q:Nat->Nat):Prop where
 fi:∀i,i<r->Sp ((Ag k).map ρ) (f i)
 fq:∀a,a<k-r->Sp ((Ag k).map ρ) (f (Q a))
 fz:∀i u,i<r->u<i->f i u=0
 fp:∀i,i<r->0<f i i
 fr:∀i j,i<j->j<r->0<=f i j/\f i j<f j j
 fo:∀i u,i<r->r<=u->u<w->f i u=0
 qz:∀a u,a<k-r->u<Q a->f (Q a) u=0
 qp:∀a,a<k-r->0<f (Q a) (Q a)
 qr:∀a b,a<b->b<k-r->0<=f (Q a) (Q b)/\f (Q a) (Q b)<f (Q b) (Q b)
 ir:∀i a,i<r->a<k-r->0<=f i (Q a)/\f i (Q a)<f (Q a) (Q a)
 qd:∀a,a<k-r->(f (Q a) (Q a)).natAbs<=(ρ (r+a) (Q a)).natAbs
 le:∀m,m<=r->pr (tn f m)<=pr (tn ρ m)
 hv:(∃m,m<=r/\2*pr (tn f m)<=pr (tn ρ m))\/∀i,i<r->f i i=ρ i i/\∀j,j<r->j≠i->f i j=0
def Tri.round(T:Tri k r w M g ρ Q)(F:FS N M X B ((Ag k).map ρ) P f):P=pl r k Q/\GQ k r w ρ f Q:=by
 have E:((Ag k).map ρ).length=k:=by simp
 have G:P.length=k:=by rw[F.len,E]
 have sp:∀p∈P,Sp ((Ag k).map ρ) (f p):=fun p hp=>(F.fr p hp).sp;have e:=T.places (Ad k) F.ech F.srt sp G;have rk:=T.rk;have i1:∀i,i<r->i∈P:=fun i hi=>by rw[e];exact List.mem_append_left _ (List.mem_range.mpr ω)
 have i2:∀a,a<k-r->Q a∈P:=fun a d=>by rw[e];exact AA _ (List.mem_map.mpr ⟨a,List.mem_range.mpr d,rfl⟩)
 have two:Two (Sp ((Ag k).map ρ)) r ρ f:=by
  refine⟨⟨Sp.zero,fun m l hw=>l.sub hw m⟩,fun i hi=>Sp.mem (List.mem_map.mpr ⟨i,List.mem_range.mpr ω,rfl⟩),fun i hi=>T.tp i hi,fun i s h1 h2=>T.tz i s ω h1 (by have:=T.rw;(first|lia|omega)),fun i hi=>sp i (i1 i hi),fun i hi=>F.ech.pos i (i1 i hi),fun i s hi x=>F.ech.z i (i1 i hi) s x,fun v i l hi hz=>?_⟩;exact j5 F.ech F.srt (i1 i hi) (l.trans F.gen) fun q _ hq=>hz q hq
 have o:∀i j,i<j->j<r->0<=f i j/\f i j<f j j:=fun i j h1 h2=>F.red i (i1 i ω) j (i1 j h2) h1;refine⟨e,fun i hi=>sp i (i1 i hi),fun a d=>sp _ (i2 a d),fun i u hi y=>F.ech.z i (i1 i hi) u y,fun i hi=>F.ech.pos i (i1 i hi),o,fun i u hi h1 h2=>?_,fun a u d y=>F.ech.z _ (i2 a d) u y,fun a d=>F.ech.pos _ (i2 a d),fun a b h1 h2=>F.red _ (i2 a ω) _ (i2 b h2) (T.qs a b h1 h2),fun i a hi d=>F.red i (i1 i hi) _ (i2 a d) (by have:=T.qw a d;have:=T.rw;(first|lia|omega)),fun a d=>?_,fun m C=>DE two C,sR two o⟩
 ·obtain⟨c,hc,D⟩:=sp i (i1 i hi)
  rw[D];refine zO _ _ fun v l=>?_;obtain⟨j,A,rfl⟩:=List.mem_map.mp l;have A:=List.mem_range.mp A
  by_cases h:j<r
  ·exact T.tz j u h ω h2
  ·have:=T.low (a:=j-r) (u:=u) ω h2
   rwa [show r+(j-r)=j from ω] at this
 ·have hd:=j5 F.ech F.srt (i2 a d) (F.gen (ρ (r+a)) (List.mem_map.mpr ⟨r+a,List.mem_range.mpr ω,rfl⟩)) fun q _ hq=>T.kz a q d hq
  have:=T.kp a d;exact Nat.le_of_dvd ω (Int.natAbs_dvd_natAbs.mpr hd)
end
def Lj{f:Nat->Vc}{P:List Nat}{V:Nat}(h:Ech P f)(I:P.Pairwise (·<·))(F:∀p∈P,∀q∈P,p<q->0<=f p q/\f p q<f q q){l:Vc}(i:Sp (P.map f) l)(w:∀p∈P,(l p).natAbs<=V*(f p p).natAbs):∀x∈shr f P l,x.natAbs<=V*2 ^ P.length:=by
 have e:=DB h I i;generalize ha:shr f P l=a at e;have O:a.length=P.length:=by rw[<-ha,DA]
 have C:∀(P1 P2:List Nat)(a1 a2:List Int)(S:Nat),P=P1++P2->a=a1++a2->a1.length=P1.length->(∀x∈a1,x.natAbs<=S)->(∀p∈P2,(cmb a1 (P1.map f) p).natAbs<=S*(f p p).natAbs)->V+S<=V*2 ^ P1.length->∀x∈a2,x.natAbs<=V*2 ^ P.length:=by
  intro P1 P2
  induction P2 generalizing P1 with
  |nil=>
   intro a1 a2 S b o r _ _ _ x hx;have:a2.length=0:=by have:=congrArg List.length o;have h2:=congrArg List.length b;rw[AK] at this h2;simp at h2;(first|lia|omega)
   rw[AH this] at hx;cases hx
  |cons p P2 ih=>
   intro a1 a2 S b o r J G N x hx;cases a2 with
   |nil=>cases hx
   |cons y a2=>
    have hp:p∈P:=by rw[b];simp
    have g:=I;rw[b,List.pairwise_append,A9] at g;have j:∀(c d:List Int)(A D:List Vc)(u:Nat),c.length=A.length->cmb (c++d) (A++D) u=cmb c A u+cmb d D u:=by
     intro c
     induction c with
     |nil=>intro d A D u i;rw[AH i.symm];show cmb d D u=0+cmb d D u;(first|lia|omega)
     |cons z c ih=>intro d A D u i;cases A with
      |nil=>simp at i
      |cons s A=>show z*s u+cmb (c++d) (A++D) u=z*s u+cmb c A u+cmb d D u;rw[ih d A D u (by simpa using i)];(first|lia|omega)
    have ep:l p=cmb a1 (P1.map f) p+y*f p p:=by
     rw[e,o,b,Ap,j _ _ _ _ _ (by rw[Aa,r])];show cmb a1 (P1.map f) p+(y*f p p+cmb a2 (P2.map f) p)=_;rw[zO a2 (P2.map f) fun v w=>by
      obtain⟨q,hq,rfl⟩:=List.mem_map.mp w;exact h.z q (by rw[b];simp[hq]) p (g.2.1.1 q hq)]
     (first|lia|omega)
    have H:=h.pos p hp;have hy:y.natAbs<=V+S:=by
     have L:=w p hp;have M:=G p (.head _);have E:y.natAbs*(f p p).natAbs<=V*(f p p).natAbs+S*(f p p).natAbs:=by rw[<-AF];(first|lia|omega)
     rw[<-Nat.add_mul] at E;exact Nat.le_of_mul_le_mul_right E ω
    have mono:V*2 ^ P1.length<=V*2 ^ P.length:=Ak _ (Ax ξ (by rw[b];simp));rcases List.mem_cons.mp hx with rfl|hx
    ·(first|lia|omega)
    ·refine ih (P1++[p]) (a1++[y]) a2 (V+S+S) (by rw[b];simp) (by rw[o];simp) (by simp[r]) (fun z hz=>?_) (fun q hq=>?_) (by rw[AK,List.length_singleton,Nat.pow_succ,<-AN];(first|lia|omega)) x hx
     ·rcases List.mem_append.mp hz with hz|hz
      ·have:=J z hz;(first|lia|omega)
      ·rw[List.mem_singleton.mp hz];(first|lia|omega)
     ·rw[Ap,j _ _ _ _ _ (by rw[Aa,r])]
      have L:=G q (.tail _ hq);have Q:=F p hp q (by rw[b];simp[hq]) (g.2.1.1 q hq);have M:(y*f p q).natAbs<=(V+S)*(f q q).natAbs:=by rw[AF];exact AO hy ω
      have E:=Int.natAbs_add_le (cmb a1 (P1.map f) q) (y*f p q);show(cmb a1 (P1.map f) q+(y*f p q+0)).natAbs<=(V+S+S)*(f q q).natAbs;rw[Int.add_zero,Nat.add_mul (V+S) S];(first|lia|omega)
 exact C [] P [] a 0 rfl rfl rfl (fun x hx=>nomatch hx) (fun p _=>Aw _) (by simp)
def glue(m:Nat)(S W:Nat->Vc):Nat->Vc:=fun i u=>if u<m then S i u else W i (u-m)
def zW{m:Nat}{S W:Nat->Vc}{i u:Nat}(h:u<m):glue m S W i u=S i u:=if_pos h
def eV{m:Nat}{S W:Nat->Vc}{i t:Nat}:glue m S W i (m+t)=W i t:=by unfold glue;rw[if_neg ω,Nat.add_sub_cancel_left]
def tl(n:Nat)(W:Nat->Vc):List Vc:=(Ag n).map W
def DG{m:Nat}:∀(c:List Int)(L:List Vc)(t:Nat),cmb c L (m+t)=cmb c (L.map fun l=>fun t=>l (m+t)) t
 |[],[],_=>rfl
 |[],_::_,_=>rfl
 |_::_,[],_=>rfl
 |a::c,l::L,t=>by show a*l (m+t)+cmb c L (m+t)=a*l (m+t)+_;rw[DG c L t]
section
variable{n m N M X B:Nat}{S W f:Nat->Vc}{P:List Nat}{Bc:List Vc}
def lE(n:Nat)(sh:Ξ)(Bc:List Vc):List Vc:=(Ag n).map fun j=>fun s=>cmb (sh.map fun row=>row.getD j 0) Bc s
def wt:(tl n (glue m S W)).map (fun r=>fun t=>r (m+t))=tl n W:=by
 unfold tl;rw[AS];exact A8 fun i _=>funext fun t=>eV
def BE(F:FS N M X B (tl n (glue m S W)) P f)(D:Both n (tl n W) Bc):Both n (P.map fun p=>fun t=>f p (m+t)) (lE n ((tl n (glue m S W)).map fun r=>shr f P r) Bc):=by
 have o:(tl n (glue m S W)).length=n:=by unfold tl;simp
 have g:P.length=n:=by rw[F.len,o]
 have v:=Dual.next (V:=P.map fun p=>fun t=>f p (m+t)) (sh:=(tl n (glue m S W)).map fun r=>shr f P r) D.a (by rw[Aa,g]) (by rw[Aa,o]) (fun row hr=>by
  obtain⟨r,_,rfl⟩:=List.mem_map.mp hr;rw[DA,g]) fun i u row t e hr h=>by
   unfold tl at e hr;rw[Aj] at e hr;obtain⟨j,b,rfl⟩:=Option.map_eq_some_iff.mp e;rw[Aj,b] at hr;obtain rfl:=AW hr;have w:glue m S W j∈tl n (glue m S W):=List.mem_map.mpr ⟨j,Al b,rfl⟩;have:=DB F.ech F.srt (F.gen _ w) (m+t);rw[eV,DG,AS] at this;exact this
 refine Ld v fun c hc hz x hx=>?_;have D':Both n ((tl n (glue m S W)).map fun r=>fun t=>r (m+t)) Bc:=by rw[wt];exact D
 obtain⟨d,hd,l⟩:Sp (tl n (glue m S W)) (cmb c (P.map f)):=Sp.cmb c _ fun s q=>by
  obtain⟨p,hp,rfl⟩:=List.mem_map.mp q;exact(F.fr p hp).sp
 have y:=D'.free hd fun t h=>by
  rw[<-l,DG,AS];exact hz t h
 exact Ds F.ech F.srt c (by rw[hc,g]) (fun p _=>by rw[l];exact la d _ _ y) x hx
def Lk(F:FS N M X B (tl n (glue m S W)) P f){A:Nat}(a:∀i t,i<n->(W i t).natAbs<=A):∀p∈P,∀t,(f p (m+t)).natAbs<=N*(cC N X B*A):=fun p hp t=>by
 have:=(F.fr p hp).le (u:=m+t) (M:=A) fun r hr=>by
  obtain⟨i,hi,rfl⟩:=List.mem_map.mp hr;rw[eV];exact a i t (List.mem_range.mp hi)
 exact Ae this (Am _ F.few)
def Sp.ind{R:List Vc}{v:Vc}(C:Vc->Prop)(d:C fun _=>0)(i:∀(a:Int)(x y:Vc),C x->C y->C fun u=>a*x u+y u)(b:∀r∈R,C r)(h:Sp R v):C v:=by
 obtain⟨c,_,e⟩:=h;have:∀(c:List Int)(R:List Vc),(∀r∈R,C r)->C (Tb.cmb c R):=by
  intro c
  induction c with
  |nil=>intro R _;cases R<;>exact d
  |cons a c ih=>intro R b;cases R with
   |nil=>exact d
   |cons r R=>exact i a r (Tb.cmb c R) (b r (.head _)) (ih R fun s f=>b s (.tail _ f))
 have g:=this c R b
 rwa [<-funext e] at g
end
def tF{k:Nat}{a b b':Vc}{x:Int}:dot k a (fun u=>x*b u+b' u)=x*dot k a b+dot k a b':=by
 induction k with
 |zero=>show(0:Int)=x*0+0;(first|lia|omega)
 |succ k ih=>
  show dot k a _+a k*(x*b k+b' k)=x*(dot k a b+a k*b k)+(dot k a b'+a k*b' k);rw[ih,Int.mul_add,Int.mul_add,Int.mul_left_comm];(first|lia|omega)
def aP(k w:Nat)(A:Nat->Vc)(x y:Vc):Int:=dot k x fun s=>dot w (A s) y
def GR{k w:Nat}{A:Nat->Vc}{a:Int}{x x' y:Vc}:aP k w A (fun u=>a*x u+x' u) y=a*aP k w A x y+aP k w A x' y:=by
 unfold aP;have:=Bz (k:=k) (a:=x) (a':=x') (b:=fun s=>dot w (A s) y) (x:=a) (y:=1);rw[Int.one_mul] at this;rw[<-this];exact zm fun t _=>ω
def Ll{k w:Nat}{A:Nat->Vc}{a:Int}{x y b:Vc}:aP k w A x (fun u=>a*y u+b u)=a*aP k w A x y+aP k w A x b:=by
 unfold aP;rw[<-tF];exact zi fun s _=>by show dot w (A s) (fun u=>a*y u+b u)=a*dot w (A s) y+dot w (A s) b;exact tF
def GS{k w:Nat}{A:Nat->Vc}{y:Vc}:aP k w A (fun _=>0) y=0:=zH fun _ _=>rfl
def Lm{k w:Nat}{A:Nat->Vc}{x:Vc}:aP k w A x (fun _=>0)=0:=by
 unfold aP;have:∀k,dot k x (fun s=>dot w (A s) fun _=>0)=0:=by
  intro k
  induction k with
  |zero=>rfl
  |succ k ih=>
   have z:dot w (A k) (fun _=>0)=0:=by
    have:∀w,dot w (A k) (fun _=>0)=0:=by intro w;induction w with|zero=>rfl|succ w ih=>show dot w (A k) _+A k w*0=0;rw[ih];(first|lia|omega)
    exact this w
   show dot k x _+x k*dot w (A k) (fun _=>0)=0;rw[ih,z];(first|lia|omega)
 exact this k
def GT{k w N M X B:Nat}{A T U V f:Nat->Vc}{P:List Nat}(F:FS N M X B (tl k (glue w (fun i u=>T u i) U)) P f)(c:∀u i,u<w->i<k->T u i=aP k w A (U i) (V u)):∀p∈P,∀u,u<w->f p u=aP k w A (fun t=>f p (w+t)) (V u):=fun p hp u b=>by
 refine Sp.ind (C:=fun v=>v u=aP k w A (fun t=>v (w+t)) (V u)) GS.symm (fun a x y hx hy=>?_) (fun r hr=>?_) (F.fr p hp).sp
 ·show a*x u+y u=aP k w A (fun t=>a*x (w+t)+y (w+t)) (V u)
  rw[GR,<-hx,<-hy]
 ·obtain⟨i,hi,rfl⟩:=List.mem_map.mp hr
  show glue w (fun i u=>T u i) U i u=aP k w A (fun t=>glue w (fun i u=>T u i) U i (w+t)) (V u);rw[zW b,show(fun t=>glue w (fun i u=>T u i) U i (w+t))=U i from funext fun t=>eV];exact c u i b (List.mem_range.mp hi)
def GU{k w N M X B:Nat}{A T U V f:Nat->Vc}{P:List Nat}(F:FS N M X B (tl w (glue k (fun u i=>T i u) V)) P f)(c:∀i u,i<k->u<w->T i u=aP k w A (U i) (V u)):∀p∈P,∀i,i<k->f p i=aP k w A (U i) (fun t=>f p (k+t)):=fun p hp i hi=>by
 refine Sp.ind (C:=fun v=>v i=aP k w A (U i) (fun t=>v (k+t))) Lm.symm (fun a x y hx hy=>?_) (fun r hr=>?_) (F.fr p hp).sp
 ·show a*x i+y i=aP k w A (U i) (fun t=>a*x (k+t)+y (k+t))
  rw[Ll,<-hx,<-hy]
 ·obtain⟨u,b,rfl⟩:=List.mem_map.mp hr
  show glue k (fun u i=>T i u) V u i=aP k w A (U i) (fun t=>glue k (fun u i=>T i u) V u (k+t));rw[zW hi,show(fun t=>glue k (fun u i=>T i u) V u (k+t))=V u from funext fun t=>eV];exact c i u hi (List.mem_range.mp b)
structure Ker(n r g b:Nat)(W:Nat->Vc)(Q:Nat->Nat):Prop where
 qs:∀a c,a<c->c<n-r->Q a<Q c
 kz:∀a u,a<n-r->u<Q a->W (r+a) u=0
 kp:∀a,a<n-r->0<W (r+a) (Q a)
 kq:∀a c,a<c->c<n-r->0<=W (r+a) (Q c)/\W (r+a) (Q c)<W (r+c) (Q c)
 tq:∀i a,i<r->a<n-r->(W i (Q a)).natAbs<=g*(W (r+a) (Q a)).natAbs
 km:∀a,a<n-r->(W (r+a) (Q a)).natAbs<=b
structure DH(n r m:Nat)(S:Nat->Vc):Prop where
 tp:∀i,i<r->0<S i i
 tz:∀i j,i<r->i<j->j<m->S i j=0
 tl:∀i j,i<r->j<i->(S i j).natAbs<=(S i i).natAbs
 z:∀i u,r<=i->i<n->u<m->S i u=0
section
variable{n r m g b M:Nat}{S W:Nat->Vc}{Q:Nat->Nat}
def GV(l:r<=n)(o:r<=m)(hg:1<=g)(H:DH n r m S)(K:Ker n r g b W Q)(hb:g*b<=M)(p:∀i,i<r->(S i i).natAbs<=M):Tri n r m M g (glue m S W) (fun a=>m+Q a):=by
 refine⟨hg,l,o,fun a c h1 h2=>by have:=K.qs a c h1 h2;show m+Q a<m+Q c;(first|lia|omega),fun a _=>A6 _ _,fun i hi=>by rw[zW ω];exact H.tp i hi,fun i j hi h1 h2=>by rw[zW h2];exact H.tz i j hi h1 h2,fun i j hi e=>by rw[zW ω,zW ω];exact H.tl i j hi e,fun i a hi d=>by rw[eV,eV];exact K.tq i a hi d,fun a u d f=>?_,fun a d=>by rw[eV];exact K.kp a d,fun a c h1 h2=>by rw[eV,eV];exact K.kq a c h1 h2,fun i hi=>by rw[zW ω];exact p i hi,fun a d=>by rw[eV];exact Ae (Ak _ (K.km a d)) hb⟩
 by_cases h:u<m
 ·rw[zW h];exact H.z (r+a) u ω ω h
 ·rw[show u=m+(u-m) from ω,eV]
  exact K.kz a _ d (by have:u<m+Q a:=f;(first|lia|omega))
end
def pls(r m:Nat)(Q:Nat->Nat)(i:Nat):Nat:=if i<r then i else m+Q (i-r)
def gO{r m:Nat}{Q:Nat->Nat}{i:Nat}(h:i<r):pls r m Q i=i:=if_pos h
def j'{r m:Nat}{Q:Nat->Nat}{a:Nat}:pls r m Q (r+a)=m+Q a:=by unfold pls;rw[if_neg ω,Nat.add_sub_cancel_left]
def DI{r m n:Nat}{Q:Nat->Nat}(h:r<=n):pl r n (fun a=>m+Q a)=(Ag n).map (pls r m Q):=by
 unfold pl;rw[Nat.min_eq_right h];apply AV
 ·simp;(first|lia|omega)
 ·intro i h1 h2
  rw[AU,A4]
  by_cases hi:i<r
  ·rw[List.getElem_append_left (by simpa using hi),A4,gO hi]
  ·rw[List.getElem_append_right (by simp;(first|lia|omega)),AU,A4,AZ]
   unfold pls;rw[if_neg hi]
section
variable{n r m g b M N X B:Nat}{S W f:Nat->Vc}{Q:Nat->Nat}{P:List Nat}
def GW(p:r<=n)(q:r<=m)(K:Ker n r g b W Q)(R:GQ n r m (glue m S W) f (fun a=>m+Q a)):Ker n r 1 b (fun i t=>f (pls r m Q i) (m+t)) Q/\(∀i,i<r->0<f (pls r m Q i) i)/\(∀i j,i<r->j<i->f (pls r m Q i) j=0)/\(∀i j,i<j->j<r->0<=f (pls r m Q i) j/\f (pls r m Q i) j<f (pls r m Q j) j)/\(∀i u,i<n->u<m->(r<=i\/r<=u)->f (pls r m Q i) u=0):=by
 refine⟨⟨K.qs,fun a u d l=>?_,fun a d=>?_,fun a c h1 h2=>?_,fun i a hi d=>?_,fun a d=>?_⟩,fun i hi=>?_,fun i j hi o=>?_,fun i j h1 h2=>?_,fun i u hi l h=>?_⟩
 ·show f (pls r m Q (r+a)) (m+u)=0
  rw[j'];exact R.qz a (m+u) d (by show m+u<m+Q a;(first|lia|omega))
 ·show 0<f (pls r m Q (r+a)) (m+Q a)
  rw[j'];exact R.qp a d
 ·show 0<=f (pls r m Q (r+a)) (m+Q c)/\f (pls r m Q (r+a)) (m+Q c)<f (pls r m Q (r+c)) (m+Q c)
  rw[j',j'];exact R.qr a c h1 h2
 ·show(f (pls r m Q i) (m+Q a)).natAbs<=1*(f (pls r m Q (r+a)) (m+Q a)).natAbs
  rw[gO hi,j'];have:=R.ir i a hi d;have this:0<=f i (m+Q a)/\f i (m+Q a)<f (m+Q a) (m+Q a):=this;(first|lia|omega)
 ·show(f (pls r m Q (r+a)) (m+Q a)).natAbs<=b
  rw[j'];have h1:=R.qd a d;have h1:(f (m+Q a) (m+Q a)).natAbs<=(glue m S W (r+a) (m+Q a)).natAbs:=h1;rw[eV] at h1;exact Ae h1 (K.km a d)
 ·rw[gO hi];exact R.fp i hi
 ·rw[gO hi];exact R.fz i j hi o
 ·rw[gO (show i<r from ω),gO h2];exact R.fr i j h1 h2
 ·by_cases e:i<r
  ·rw[gO e];exact R.fo i u e ω l
  ·rw[show i=r+(i-r) from ω,j']
   exact R.qz (i-r) u ω (by show u<m+Q (i-r);(first|lia|omega))
end
def ii{g g':Nat->Vc}{k:Nat}(h:∀i,i<k->g i i=g' i i):tn g k=tn g' k:=by
 unfold tn;exact A8 fun i hi=>by rw[h i (List.mem_range.mp hi)]
structure LI(A:Nat->Vc)(k w r D bU bV g:Nat)(T U V:Nat->Vc)(Bn Bf:List Vc)(QU QV:Nat->Nat):Prop where
 rk:r<=k
 rw:r<=w
 g1:1<=g
 bl:∀u i,u<w->i<k->T u i=aP k w A (U i) (V u)
 bu:Both k (tl k U) Bn
 bv:Both w (tl w V) Bf
 ku:Ker k r g bU U QU
 kv:Ker w r 1 bV V QV
 tp:∀u,u<r->0<T u u
 tz:∀u i,u<r->i<u->T u i=0
 tr:∀u i,u<i->i<r->0<=T u i/\T u i<T i i
 to:∀u i,u<w->i<k->(r<=u\/r<=i)->T u i=0
 pd:∀m,m<=r->pr (tn T m)<=D
structure LM(A:Nat->Vc)(k w r D bU bV g:Nat)(S U V:Nat->Vc)(Bn Bf:List Vc)(QU QV:Nat->Nat):Prop where
 rk:r<=k
 rw:r<=w
 g1:1<=g
 bl:∀i u,i<k->u<w->S i u=aP k w A (U i) (V u)
 bu:Both k (tl k U) Bn
 bv:Both w (tl w V) Bf
 ku:Ker k r g bU U QU
 kv:Ker w r 1 bV V QV
 sl:DH w r k (fun u i=>S i u)
 pd:∀m,m<=r->pr (tn S m)<=D
section
variable{A T U V S f:Nat->Vc}{k w r D bU bV g M N X B:Nat}{Bn Bf:List Vc}{QU QV:Nat->Nat}{P:List Nat}
def LI.slp(I:LI A k w r D bU bV g T U V Bn Bf QU QV):DH k r w (fun i u=>T u i):=
 ⟨I.tp,fun i j hi h1 h2=>by
  by_cases h:j<r
  ·exact I.tz j i h h1
  ·exact I.to j i h2 (by have:=I.rk;(first|lia|omega)) (.inl ω),fun i j hi a=>by have:=I.tr j i a hi;show(T j i).natAbs<=(T i i).natAbs;(first|lia|omega),fun i u h1 h2 b=>I.to u i b h2 (.inr h1)⟩
def LI.diag_le(I:LI A k w r D bU bV g T U V Bn Bf QU QV){i:Nat}(hi:i<r):(T i i).natAbs<=D:=by
 have h1:=DF (g:=T) (k:=i) fun j a=>I.tp j ω;have h2:=I.pd (i+1) ω;have b:=I.tp i hi;(first|lia|omega)
def LI.near_tri(I:LI A k w r D bU bV g T U V Bn Bf QU QV)(b:g*bU<=M)(c:D<=M):Tri k r w M g (glue w (fun i u=>T u i) U) (fun a=>w+QU a):=
 GV I.rk I.rw I.g1 I.slp I.ku b fun i hi=>Ae (I.diag_le hi) c
def DJ(I:LI A k w r D bU bV g T U V Bn Bf QU QV){m:Nat}(a:m<=r):tn (glue w (fun i u=>T u i) U) m=tn T m:=ii fun i hi=>by rw[zW (by have:=I.rw;(first|lia|omega))]
def LI.near_done(I:LI A k w r D bU bV g T U V Bn Bf QU QV)(Tr:Tri k r w M g (glue w (fun i u=>T u i) U) (fun a=>w+QU a))(F:FS N M X B (tl k (glue w (fun i u=>T u i) U)) P f):P=(Ag k).map (pls r w QU)/\LM A k w r D bU bV 1 (fun i=>f (pls r w QU i)) (fun i t=>f (pls r w QU i) (w+t)) V (lE k ((tl k (glue w (fun i u=>T u i) U)).map fun r=>shr f P r) Bn) Bf QU QV/\ (∀m,m<=r->pr (tn (fun i=>f (pls r w QU i)) m)<=pr (tn T m))/\((∃m,m<=r/\2*pr (tn (fun i=>f (pls r w QU i)) m)<=pr (tn T m))\/∀i,i<r->f (pls r w QU i) i=T i i/\∀j,j<r->j≠i->f (pls r w QU i) j=0):=by
 obtain⟨d,R⟩:=Tr.round F;rw[DI I.rk] at d;obtain⟨s,n1,n2,v,l⟩:=GW I.rk I.rw I.ku R;have o:∀m,m<=r->tn (fun i=>f (pls r w QU i)) m=tn f m:=fun m b=>ii fun i hi=>by show f (pls r w QU i) i=f i i;rw[gO ω]
 have le:∀m,m<=r->pr (tn (fun i=>f (pls r w QU i)) m)<=pr (tn T m):=fun m b=>by rw[o m b,<-DJ I b];exact R.le m b
 refine⟨d,⟨I.rk,I.rw,Ad 1,fun i u hi c=>?_,?_,I.bv,s,I.kv,⟨n1,fun u i c h1 h2=>?_,fun u i c hi=>?_,fun u i h1 h2 q=>?_⟩,fun m b=>Ae (le m b) (I.pd m b)⟩,le,?_⟩
 ·exact GT F I.bl _ (by rw[d];exact List.mem_map.mpr ⟨i,List.mem_range.mpr hi,rfl⟩) u c
 ·have:=BE F I.bu
  have e:(P.map fun p=>fun t=>f p (w+t))=tl k (fun i t=>f (pls r w QU i) (w+t)):=by rw[d,AS];rfl
  rw[e] at this;exact this
 ·show f (pls r w QU i) u=0
  by_cases h:i<r
  ·exact n2 i u h h1
  ·exact l i u h2 (by have:=I.rw;(first|lia|omega)) (.inl ω)
 ·show(f (pls r w QU i) u).natAbs<=(f (pls r w QU u) u).natAbs
  have:=v i u hi c;(first|lia|omega)
 ·exact l i u q h2 (.inr h1)
 ·rcases R.hv with ⟨m,b,h⟩|h
  ·exact .inl ⟨m,b,by rw[o m b,<-DJ I b];exact h⟩
  ·refine .inr fun i hi=>?_
   obtain⟨h1,h2⟩:=h i hi;rw[zW (by have:=I.rw;(first|lia|omega))] at h1;rw[gO hi];exact⟨h1,h2⟩
def LM.diag_le(I:LM A k w r D bU bV g S U V Bn Bf QU QV){i:Nat}(hi:i<r):(S i i).natAbs<=D:=by
 have h1:=DF (g:=S) (k:=i) fun j b=>I.sl.tp j ω;have h2:=I.pd (i+1) ω;have a:=I.sl.tp i hi;have a:0<S i i:=a;(first|lia|omega)
def LM.far_tri(I:LM A k w r D bU bV g S U V Bn Bf QU QV)(c:bV<=M)(b:D<=M):Tri w r k M 1 (glue k (fun u i=>S i u) V) (fun a=>k+QV a):=
 GV I.rw I.rk (Ad 1) I.sl I.kv ω fun i hi=>Ae (I.diag_le hi) b
def LM.far_done(I:LM A k w r D bU bV g S U V Bn Bf QU QV)(Tr:Tri w r k M 1 (glue k (fun u i=>S i u) V) (fun a=>k+QV a))(F:FS N M X B (tl w (glue k (fun u i=>S i u) V)) P f):P=(Ag w).map (pls r k QV)/\LI A k w r D bU bV g (fun u=>f (pls r k QV u)) U (fun u t=>f (pls r k QV u) (k+t)) Bn (lE w ((tl w (glue k (fun u i=>S i u) V)).map fun r=>shr f P r) Bf) QU QV/\ (∀m,m<=r->pr (tn (fun u=>f (pls r k QV u)) m)<=pr (tn S m))/\((∃m,m<=r/\2*pr (tn (fun u=>f (pls r k QV u)) m)<=pr (tn S m))\/∀i,i<r->f (pls r k QV i) i=S i i/\∀j,j<r->j≠i->f (pls r k QV i) j=0):=by
 obtain⟨c,R⟩:=Tr.round F;rw[DI I.rw] at c;obtain⟨q,n1,n2,s,v⟩:=GW I.rw I.rk I.kv R;have d:∀m,m<=r->tn (glue k (fun u i=>S i u) V) m=tn S m:=fun m b=>ii fun i hi=>by rw[zW (by have:=I.rk;(first|lia|omega))]
 have l:∀m,m<=r->tn (fun u=>f (pls r k QV u)) m=tn f m:=fun m b=>ii fun i hi=>by show f (pls r k QV i) i=f i i;rw[gO ω]
 have le:∀m,m<=r->pr (tn (fun u=>f (pls r k QV u)) m)<=pr (tn S m):=fun m b=>by rw[l m b,<-d m b];exact R.le m b
 refine⟨c,⟨I.rk,I.rw,I.g1,fun u i o hi=>?_,I.bu,?_,I.ku,q,n1,n2,s,v,fun m b=>Ae (le m b) (I.pd m b)⟩,le,?_⟩
 ·exact GU F I.bl _ (by rw[c];exact List.mem_map.mpr ⟨u,List.mem_range.mpr o,rfl⟩) i hi
 ·have:=BE F I.bv
  have e:(P.map fun p=>fun t=>f p (k+t))=tl w (fun u t=>f (pls r k QV u) (k+t)):=by rw[c,AS];rfl
  rw[e] at this;exact this
 ·rcases R.hv with ⟨m,b,h⟩|h
  ·exact .inl ⟨m,b,by rw[l m b,<-d m b];exact h⟩
  ·refine .inr fun i hi=>?_
   obtain⟨h1,h2⟩:=h i hi;rw[zW (by have:=I.rk;(first|lia|omega))] at h1;rw[gO hi];exact⟨h1,h2⟩
end
def GX{U:Nat->Vc}{c:Vc}{i j t:Nat}(ne:i≠j):∀k,sm (put U i fun t=>U i t+U j t) (fun a=>if a=j then c j-c i else c a) k t=sm U c k t+(if i<k then c i*U j t else 0)-(if j<k then c i*U j t else 0)
 |0=>by show(0:Int)=0+(if i<0 then _ else 0)-(if j<0 then _ else 0);rw[if_neg ω,if_neg ω];rfl
 |k+1=>by
  show sm _ _ k t+(if k=j then c j-c i else c k)*put U i (fun t=>U i t+U j t) k t=sm U c k t+c k*U k t+_-_;rw[GX ne k]
  by_cases e1:k=i
  ·subst e1
   rw[if_neg (show ¬k<k from ω),if_neg ne,zQ,if_pos (show k<k+1 from ω),Int.mul_add]
   by_cases h:j<k
   ·rw[if_pos h,if_pos (show j<k+1 from ω)];(first|lia|omega)
   ·rw[if_neg h,if_neg (show ¬j<k+1 from ω)];(first|lia|omega)
  ·rw[dn e1]
   by_cases e2:k=j
   ·subst e2
    rw[if_pos rfl,if_neg (show ¬k<k from ω),if_pos (show k<k+1 from ω),Int.sub_mul]
    by_cases h:i<k
    ·rw[if_pos h,if_pos (show i<k+1 from ω)];(first|lia|omega)
    ·rw[if_neg h,if_neg (show ¬i<k+1 from ω)];(first|lia|omega)
   ·rw[if_neg e2]
    have a1:(if i<k then c i*U j t else 0)=(if i<k+1 then c i*U j t else 0):=by
     by_cases h:i<k
     ·rw[if_pos h,if_pos ω]
     ·rw[if_neg h,if_neg ω]
    have a2:(if j<k then c i*U j t else 0)=(if j<k+1 then c i*U j t else 0):=by
     by_cases h:j<k
     ·rw[if_pos h,if_pos ω]
     ·rw[if_neg h,if_neg ω]
    rw[a1,a2];(first|lia|omega)
def BF{n i:Nat}{W:Nat->Vc}(h:i<n):(tl n W)[i]?=some (W i):=by unfold tl;rw[Aj,AR h];rfl
def ij{n:Nat}{W:Nat->Vc}:(tl n W).length=n:=by unfold tl;simp
def BG{k:Nat}{U C:Nat->Vc}:Both k (tl k U) (tl k C)↔(∀s t,s<k->t<k->sm U (fun a=>C a s) k t=dl s t)/\∀i j,i<k->j<k->dot k (U i) (C j)=dl i j:=by
 have e:∀s t,cmb ((tl k C).map fun b=>b s) (tl k U) t=sm U (fun a=>C a s) k t:=fun s t=>by
  have:=BD (ρ:=U) (c:=fun a=>C a s) t k;rw[<-this];unfold tl lst;rw[AS];rfl
 constructor
 ·intro D
  exact⟨fun s t g h=>by rw[<-e];exact D.a.d s t g h,fun i j hi f=>D.b i j _ _ (BF hi) (BF f)⟩
 ·rintro⟨h1,h2⟩
  refine⟨⟨ij,ij,fun s t g h=>by rw[e];exact h1 s t g h⟩,fun i j u c l hc=>?_⟩;have hi:i<k:=by have:=(List.getElem?_eq_some_iff.mp l).1;rwa [ij] at this
  have f:j<k:=by have:=(List.getElem?_eq_some_iff.mp hc).1;rwa [ij] at this
  rw[BF hi] at l;rw[BF f] at hc;cases l;cases hc;exact h2 i j hi f
def Both.add{k:Nat}{U C:Nat->Vc}(D:Both k (tl k U) (tl k C)){i j:Nat}(hi:i<k)(p:j<k)(ne:i≠j):Both k (tl k (put U i fun t=>U i t+U j t)) (tl k (put C j fun s=>C j s-C i s)):=by
 rw[BG] at D ⊢;obtain⟨h1,h2⟩:=D;refine⟨fun s t q r=>?_,fun a b d hb=>?_⟩
 ·have e:(fun a=>put C j (fun s=>C j s-C i s) a s)=fun a=>if a=j then C j s-C i s else C a s:=funext fun a=>by
   unfold put
   by_cases h:a=j
   ·rw[if_pos h,if_pos h]
   ·rw[if_neg h,if_neg h]
  rw[e];have:=GX (U:=U) (c:=fun a=>C a s) (t:=t) ne k;rw[this,if_pos hi,if_pos p,h1 s t q r];(first|lia|omega)
 ·-- by eN two rows
  have l:∀{x:Vc},dot k (fun t=>U i t+U j t) x=dot k (U i) x+dot k (U j) x:=fun{x}=>by
   have:=Bz (k:=k) (a:=U i) (a':=U j) (b:=x) (x:=1) (y:=1);rw[Int.one_mul,Int.one_mul] at this;rw[<-this];exact zm fun t _=>ω
  have f:∀{x:Vc},dot k x (fun s=>C j s-C i s)=dot k x (C j)-dot k x (C i):=fun{x}=>by
   have:=tF (k:=k) (a:=x) (b:=C i) (b':=C j) (x:=-1);rw[show dot k x (C j)-dot k x (C i)=-1*dot k x (C i)+dot k x (C j) from ω,<-this];exact zi fun t _=>ω
  by_cases o:a=i
  ·subst o
   rw[zQ]
   by_cases g:b=j
   ·subst g
    rw[zQ,l,f,f,h2 a b d hb,h2 a a d d,h2 b b hb hb,h2 b a hb d];unfold dl;rw[if_neg ne,if_pos rfl,if_pos rfl,if_neg (Ne.symm ne)];(first|lia|omega)
   ·rw[dn g,l,h2 a b d hb,h2 j b p hb]
    unfold dl;rw[if_neg (show ¬j=b from fun z=>g z.symm)];(first|lia|omega)
  ·rw[dn o]
   by_cases g:b=j
   ·subst g
    rw[zQ,f,h2 a b d hb,h2 a i d hi];unfold dl;rw[if_neg o];(first|lia|omega)
   ·rw[dn g,h2 a b d hb]
def Ln{A S U V f:Nat->Vc}{k w r D bU bV g M N X B:Nat}{Bn Bf:List Vc}{QU QV:Nat->Nat}{P:List Nat}(I:LM A k w r D bU bV g S U V Bn Bf QU QV)(Tr:Tri w r k M 1 (glue k (fun u i=>S i u) V) (fun a=>k+QV a))(F:FS N M X B (tl w (glue k (fun u i=>S i u) V)) P f)(h:∀i,i<r->f (pls r k QV i) i=S i i/\∀j,j<r->j≠i->f (pls r k QV i) j=0){i u:Nat}(hi:i<r)(q:u<r):S i i ∣ S i u:=by
 obtain⟨l,R⟩:=Tr.round F;have o:glue k (fun u i=>S i u) V u∈tl w (glue k (fun u i=>S i u) V):=List.mem_map.mpr ⟨u,List.mem_range.mpr (by have:=I.rw;(first|lia|omega)),rfl⟩;have sp:=F.gen _ o;have e:glue k (fun u i=>S i u) V u i=S i u:=zW (by have:=I.rk;(first|lia|omega));rw[<-e];refine Sp.ind (C:=fun v=>S i i ∣ v i) (Int.dvd_zero _) (fun a x y hx hy=>Int.dvd_add (Int.dvd_trans hx (Int.dvd_mul_left a _)) hy) (fun v d=>?_) sp;obtain⟨p,hp,rfl⟩:=List.mem_map.mp d;rw[l,DI I.rw] at hp;obtain⟨j,c,rfl⟩:=List.mem_map.mp hp;have c:=List.mem_range.mp c
 by_cases b:j<r
 ·by_cases e2:i=j
  ·subst e2;rw[(h i hi).1];exact Int.dvd_refl _
  ·rw[(h j b).2 i hi e2];exact Int.dvd_zero _
 ·rw[show j=r+(j-r) from ω,j']
  rw[R.qz (j-r) i ω (by show i<k+QV (j-r);have:=I.rk;(first|lia|omega))];exact Int.dvd_zero _
def b_(U:Nat->Vc)(r:Nat):Nat->Nat->Vc
 |0=>U
 |n+1=>put (b_ U r n) (r-2-n) fun t=>b_ U r n (r-2-n) t+b_ U r n (r-1-n) t
def fZ(C:Nat->Vc)(r:Nat):Nat->Nat->Vc
 |0=>C
 |n+1=>put (fZ C r n) (r-1-n) fun s=>fZ C r n (r-1-n) s-fZ C r n (r-2-n) s
def ss(U:Nat->Vc)(r:Nat):Nat->Nat->Vc
 |0,_=>fun _=>0
 |n+1,i=>fun t=>U i t+ss U r n (i+1) t
section
variable{U C:Nat->Vc}{r k:Nat}
def DK:∀(n:Nat),n+1<=r->∀i,b_ U r n i=if r-1-n<=i/\i<r then ss U r (r-i) i else U i
 |0,h,i=>by
  show U i=_
  by_cases e:i=r-1
  ·rw[if_pos ω,show r-i=1 from ω]
   exact funext fun t=>by show U i t=U i t+0;(first|lia|omega)
  ·rw[if_neg ω]
 |n+1,h,i=>by
  have a:=DK n ω;show put (b_ U r n) (r-2-n) (fun t=>b_ U r n (r-2-n) t+b_ U r n (r-1-n) t) i=_
  by_cases e:i=r-2-n
  ·rw[e,zQ,if_pos ω,a (r-2-n),a (r-1-n),if_neg ω,if_pos ω]
   have e1:r-(r-2-n)=n+1+1:=ω
   have e2:r-(r-1-n)=n+1:=ω
   rw[e1,e2];exact funext fun t=>by
    show U (r-2-n) t+ss U r (n+1) (r-1-n) t=U (r-2-n) t+ss U r (n+1) (r-2-n+1) t;rw[show r-2-n+1=r-1-n from ω]
  ·rw[dn e,a i]
   by_cases h2:r-1-n<=i/\i<r
   ·rw[if_pos h2,if_pos ω]
   ·rw[if_neg h2,if_neg ω]
def iY(h:1<=r)(i:Nat):b_ U r (r-1) i=if i<r then ss U r (r-i) i else U i:=by
 rw[DK (r-1) ω i]
 by_cases e:i<r
 ·rw[if_pos ω,if_pos e]
 ·rw[if_neg ω,if_neg e]
def GY(hr:r<=k)(D:Both k (tl k U) (tl k C)):∀n,n+1<=r->Both k (tl k (b_ U r n)) (tl k (fZ C r n))
 |0,_=>D
 |n+1,h=>(GY hr D n ω).add (i:=r-2-n) (j:=r-1-n) ω ω ω
def DL{u K:Nat}:∀(n i:Nat),(∀j,i<=j->j<i+n->(U j u).natAbs<=K)->(ss U r n i u).natAbs<=n*K
 |0,_,_=>Aw _
 |n+1,i,h=>by
  have h1:=DL (u:=u) n (i+1) fun j h1 h2=>h j ω ω;have h2:=h i (Ad _) ω;have a:=Int.natAbs_add_le (U i u) (ss U r n (i+1) u);show(U i u+ss U r n (i+1) u).natAbs<=(n+1)*K;rw[Nat.add_mul];(first|lia|omega)
def GZ{w:Nat}{A:Nat->Vc}{y:Vc}:∀(n i:Nat),aP k w A (ss U r n i) y=ss (fun i _=>aP k w A (U i) y) r n i 0
 |0,_=>GS
 |n+1,i=>by
  show aP k w A (fun t=>U i t+ss U r n (i+1) t) y=aP k w A (U i) y+ss (fun i _=>aP k w A (U i) y) r n (i+1) 0;rw[<-GZ n (i+1)];have:=GR (k:=k) (w:=w) (A:=A) (a:=1) (x:=U i) (x':=ss U r n (i+1)) (y:=y);rw[Int.one_mul] at this;rw[<-this]
  congr 1
  exact funext fun t=>ω
def DM{c:Nat->Int}{u:Nat}:∀(n i:Nat),(∀j,i<=j->j<i+n->j≠u->c j=0)->ss (fun i _=>c i) r n i 0=if i<=u/\u<i+n then c u else 0
 |0,i,_=>by show(0:Int)=_;rw[if_neg ω]
 |n+1,i,h=>by
  show c i+ss (fun i _=>c i) r n (i+1) 0=_;rw[DM n (i+1) fun j h1 h2 a=>h j ω ω a]
  by_cases e:i=u
  ·subst e;rw[if_neg ω,if_pos ω];(first|lia|omega)
  ·rw[h i (Ad _) ω e]
   by_cases h2:i+1<=u/\u<i+1+n
   ·rw[if_pos h2,if_pos ω];(first|lia|omega)
   ·rw[if_neg h2,if_neg ω];(first|lia|omega)
end
section
variable{A T U V:Nat->Vc}{k w r D bU bV g:Nat}{Bn Bf:List Vc}{QU QV:Nat->Nat}{C:Nat->Vc}
def LI.slid(I:LI A k w r D bU bV g T U V (tl k C) Bf QU QV)(hr:1<=r)(hd:∀u i,u<r->i<r->u≠i->T u i=0):LM A k w r D bU bV (r*g) (fun i u=>aP k w A (b_ U r (r-1) i) (V u)) (b_ U r (r-1)) V (tl k (fZ C r (r-1))) Bf QU QV/\∀i u,i<k->u<w->aP k w A (b_ U r (r-1) i) (V u)=if i<=u/\u<r then T u u else 0:=by
 have rk:=I.rk;have q:=I.rw;have val:∀i u,i<k->u<w->aP k w A (b_ U r (r-1) i) (V u)=if i<=u/\u<r then T u u else 0:=fun i u hi b=>by
  rw[iY hr]
  by_cases h:i<r
  ·rw[if_pos h,GZ]
   have e:ss (fun i _=>aP k w A (U i) (V u)) r (r-i) i 0=ss (fun i _=>if i<k then T u i else aP k w A (U i) (V u)) r (r-i) i 0:=by
    congr 1
    exact funext fun j=>funext fun _=>by
     by_cases l:j<k
     ·rw[if_pos l,I.bl u j b l]
     ·rw[if_neg l]
   rw[e,DM (u:=u) (r-i) i fun j h1 h2 f=>by
    rw[if_pos ω]
    by_cases o:u<r
    ·exact hd u j o ω (Ne.symm f)
    ·exact I.to u j b ω (.inl ω)]
   by_cases h2:i<=u/\u<r
   ·rw[if_pos ω,if_pos h2,if_pos ω]
   ·rw[if_neg ω,if_neg h2]
  ·rw[if_neg h,if_neg ω,<-I.bl u i b hi]
   exact I.to u i b hi (.inr ω)
 have dg:∀i,i<r->aP k w A (b_ U r (r-1) i) (V i)=T i i:=fun i hi=>by rw[val i i ω ω,if_pos ⟨Ad _,hi⟩]
 refine⟨⟨rk,q,Nat.mul_pos hr I.g1,fun i u _ _=>rfl,GY rk I.bu (r-1) ω,I.bv,⟨I.ku.qs,fun a u d b=>?_,fun a d=>?_,fun a c h1 h2=>?_,fun i a hi d=>?_,fun a d=>?_⟩,I.kv,⟨fun u b=>?_,fun u i b h1 h2=>?_,fun u i b hi=>?_,fun u i h1 h2 f=>?_⟩,fun m p=>?_⟩,val⟩
 ·rw[iY hr,if_neg ω];exact I.ku.kz a u d b
 ·rw[iY hr,if_neg ω];exact I.ku.kp a d
 ·rw[iY hr,iY hr,if_neg ω,if_neg ω];exact I.ku.kq a c h1 h2
 ·rw[iY hr,iY hr,if_pos hi,if_neg ω]
  have:=DL (U:=U) (r:=r) (u:=QU a) (K:=g*(U (r+a) (QU a)).natAbs) (r-i) i fun j h1 h2=>I.ku.tq j a ω d;refine Ae this ?_;rw[AN];exact Am _ ω
 ·rw[iY hr,if_neg ω];exact I.ku.km a d
 ·show 0<aP k w A (b_ U r (r-1) u) (V u)
  rw[dg u b];exact I.tp u b
 ·show aP k w A (b_ U r (r-1) i) (V u)=0
  rw[val i u h2 ω,if_neg ω]
 ·show(aP k w A (b_ U r (r-1) i) (V u)).natAbs<=(aP k w A (b_ U r (r-1) u) (V u)).natAbs
  rw[dg u b,val i u ω ω,if_pos ω];exact Ad _
 ·show aP k w A (b_ U r (r-1) i) (V u)=0
  rw[val i u f h2,if_neg ω]
 ·have e:tn (fun i u=>aP k w A (b_ U r (r-1) i) (V u)) m=tn T m:=ii fun i hi=>dg i ω
  rw[e];exact I.pd m p
end
def G0{f:Nat->Vc}:∀{P:List Nat}{v:Vc}{p:Nat},Ech P f->P.Pairwise (·<·)->Sp (P.map f) v->(∀u,u<p->v u=0)->v p≠0->p∈P
 |[],v,p,_,_,⟨c,hc,e⟩,_,hp=>by
  refine absurd ?_ hp;rw[e];cases c<;>rfl
 |q::P,v,p,h,hs,⟨c,hc,e⟩,hz,hp=>by
  cases c with
  |nil=>simp at hc
  |cons a c=>
   rw[A9] at hs;have eq:v q=a*f q q:=by
    rw[e];show a*f q q+cmb c (P.map f) q=a*f q q;rw[zO c (P.map f) fun v i=>by
     obtain⟨r,hr,rfl⟩:=List.mem_map.mp i;exact h.z r (.tail _ hr) q (hs.1 r hr)]
    (first|lia|omega)
   have b:=h.pos q (.head _)
   by_cases d:a=0
   ·refine .tail _ (G0 (v:=v) (h.sub fun r hr=>.tail _ hr) hs.2 ⟨c,by simpa using hc,fun u=>?_⟩ hz hp)
    rw[e];show a*f q u+cmb c (P.map f) u=_;rw[d];(first|lia|omega)
   ·have hq:v q≠0:=by rw[eq];exact Int.mul_ne_zero d ω
    have h1:p<=q:=by
     rcases Bb q p with g|g
     ·exact absurd (hz q g) hq
     ·exact g
    have h2:q<=p:=by
     rcases Bb p q with g|g
     ·refine absurd ?_ hp
      rw[e];refine zO _ _ fun x hx=>?_;obtain⟨r,hr,rfl⟩:=List.mem_map.mp hx;rcases List.mem_cons.mp hr with rfl|hr
      ·exact h.z r (.head _) p g
      ·exact h.z r (.tail _ hr) p (by have:=hs.1 r hr;(first|lia|omega))
     ·exact g
    rw[show p=q from ω];exact .head _
def alone{Λ:Vc->Prop}{L:Nat->Vc}{r k:Nat}(T:Lt Λ)(hk:r<=k)(p:∀i,i<r->Λ (L i))(q:∀i,i<r->0<L i i)(u:∀i j,i<r->i<j->j<k->L i j=0):∀j,j<r->∃v,Λ v/\v j≠0/\∀i,i<k->i≠j->v i=0:=by
 intro j
 induction j using Nat.strongRecOn with
 |_ j ih=>
  intro a;have step:∀n,n<=j->∃v,Λ v/\v j≠0/\(∀i,i<n->v i=0)/\∀i,j<i->i<k->v i=0:=by
   intro n
   induction n with
   |zero=>intro _;exact⟨L j,p j a,by have:=q j a;(first|lia|omega),fun i hi=>absurd hi (Nat.not_lt_zero _),fun i h1 h2=>u j i a h1 h2⟩
   |succ n ihn=>
    intro w;obtain⟨v,b,c,d,f⟩:=ihn ω;obtain⟨x,x1,x2,g⟩:=ih n ω ω;have l:=T.s (-(x n)) T.z b;have o:=T.s (v n) l x1;refine⟨_,o,?_,fun i hi=>?_,fun i h1 h2=>?_⟩
    ·show(0 - -(x n)*v j)-v n*x j≠0
     rw[g j ω ω,Int.neg_mul];have:=Int.mul_ne_zero x2 c;(first|lia|omega)
    ·show(0 - -(x n)*v i)-v n*x i=0
     rw[Int.neg_mul]
     by_cases e:i=n
     ·subst e;rw[Be (x i)];(first|lia|omega)
     ·rw[d i ω,g i ω e];(first|lia|omega)
    ·show(0 - -(x n)*v i)-v n*x i=0
     rw[f i h1 h2,g i h2 ω];(first|lia|omega)
  obtain⟨v,b,c,d,f⟩:=step j (Ad _);refine⟨v,b,c,fun i hi ne=>?_⟩;rcases Bb i j with h|h
  ·exact d i h
  ·exact f i ω hi
def un:Nat->Vc:=fun i t=>dl i t
def i0{k i:Nat}{g:Vc}(h:i<k):dot k (un i) g=g i:=by
 have:∀n,n<=k->dot n (un i) g=if i<n then g i else 0:=by
  intro n
  induction n with
  |zero=>intro _;rw[if_neg ω];rfl
  |succ n ih=>
   intro a;show dot n (un i) g+dl i n*g n=_;rw[ih ω]
   by_cases e:i=n
   ·subst e;rw[if_neg ω,if_pos ω];unfold dl;rw[if_pos rfl];(first|lia|omega)
   ·unfold dl
    rw[if_neg e]
    by_cases h2:i<n
    ·rw[if_pos h2,if_pos ω];(first|lia|omega)
    ·rw[if_neg h2,if_neg ω];(first|lia|omega)
 rw[this k (Ad _),if_pos h]
def DN(k:Nat):Both k (tl k un) (tl k un):=by
 rw[BG];refine⟨fun s t b c=>?_,fun i j hi d=>?_⟩
 ·have:∀n,n<=k->sm un (fun a=>un a s) n t=if s<n then dl s t else 0:=by
   intro n
   induction n with
   |zero=>intro _;rw[if_neg ω];rfl
   |succ n ih=>
    intro f;show sm un (fun a=>un a s) n t+dl n s*dl n t=_;rw[ih ω]
    by_cases e:n=s
    ·subst e;rw[if_neg ω,if_pos ω];unfold dl;rw[if_pos rfl];(first|lia|omega)
    ·have z:dl n s=0:=by unfold dl;rw[if_neg e]
     rw[z]
     by_cases h2:s<n
     ·rw[if_pos h2,if_pos ω];(first|lia|omega)
     ·rw[if_neg h2,if_neg ω];(first|lia|omega)
  rw[this k (Ad _),if_pos b]
 ·rw[i0 hi]
  show dl j i=dl i j;unfold dl
  by_cases e:i=j
  ·rw[if_pos e,if_pos e.symm]
  ·rw[if_neg e,if_neg (fun z=>e z.symm)]
def DO{k w i u:Nat}{A:Nat->Vc}(hi:i<k)(a:u<w):aP k w A (un i) (un u)=A i u:=by
 unfold aP;rw[i0 hi];have:dot w (A i) (un u)=dot w (A i) (fun s=>dl s u):=zi fun t _=>by
  show dl u t=dl t u;unfold dl
  by_cases e:u=t
  ·rw[if_pos e,if_pos e.symm]
  ·rw[if_neg e,if_neg (fun z=>e z.symm)]
 rw[this];exact BB a
def pp(P:List Nat)(i:Nat):Nat:=P.getD i 0
section
variable{P:List Nat}{n:Nat}
def ow(a:P.length=n){i:Nat}(h:i<n):pp P i∈P:=by unfold pp;rw[Ab,Ac ω];exact Ay _
def Lo(a:P.length=n){p:Nat}(h:p∈P):∃i,i<n/\pp P i=p:=by
 obtain⟨i,hi,rfl⟩:=A5 h;exact⟨i,ω,by unfold pp;rw[Ab,Ac hi];rfl⟩
def gR(b:P.length=n)(a:P.Pairwise (·<·)){i j:Nat}(h:i<j)(c:j<n):pp P i<pp P j:=by
 unfold pp;rw[Ab,Ab,Ac ω,Ac ω];exact List.pairwise_iff_getElem.mp a i j ω ω h
def DP(a:P.length=n):P=(Ag n).map (pp P):=by
 apply AV
 ·simp[a]
 ·intro i h1 h2
  rw[AU,A4];unfold pp;rw[Ab,Ac h1];rfl
def cut(m:Nat)(P:List Nat):Nat:=(P.filter fun p=>decide (p<m)).length
def DQ(d:P.Pairwise (·<·)){m:Nat}(f:P.length=n):cut m P<=n/\(∀i,i<cut m P->pp P i<m)/\∀i,cut m P<=i->i<n->m<=pp P i:=by
 have:∀P:List Nat,P.Pairwise (·<·)->cut m P<=P.length/\(∀i,i<cut m P->pp P i<m)/\∀i,cut m P<=i->i<P.length->m<=pp P i:=by
  intro P
  induction P with
  |nil=>intro _;exact⟨Ad _,fun i hi=>absurd hi (Nat.not_lt_zero _),fun i _ hi=>absurd hi (Nat.not_lt_zero _)⟩
  |cons p P ih=>
   intro d;rw[A9] at d;obtain⟨a,b,c⟩:=ih d.2
   by_cases h:p<m
   ·have e:cut m (p::P)=cut m P+1:=by unfold cut;rw[List.filter_cons,if_pos (decide_eq_true h)];rfl
    rw[e,AI];refine⟨ω,fun i hi=>?_,fun i h1 h2=>?_⟩
    ·cases i with
     |zero=>exact h
     |succ i=>exact b i ω
    ·cases i with
     |zero=>(first|lia|omega)
     |succ i=>exact c i ω ω
   ·have e:cut m (p::P)=0:=by
     unfold cut;rw[List.filter_cons,if_neg (by simpa using h),List.filter_eq_nil_iff.mpr fun q hq=>?_]
     ·rfl
     ·have:=d.1 q hq
      simp;(first|lia|omega)
    rw[e];refine⟨Aw _,fun i hi=>absurd hi (Nat.not_lt_zero _),fun i _ h2=>?_⟩;cases i with
    |zero=>exact Nat.le_of_not_lt h
    |succ i=>
     rw[AI] at h2;have:pp P i∈P:=ow rfl ω;have:=d.1 _ this;show m<=pp P i;(first|lia|omega)
 have h:=this P d;rw[f] at h;exact h
end
def Lp(a b:List Nat)(h:∀t∈b,1<=t):pr a<=pr (a++b):=by
 rw[tj];have:1<=pr b:=by
  clear a
  induction b with
  |nil=>exact Ad _
  |cons t b ih=>exact n7 (h t (.head _)) (ih fun x hx=>h x (.tail _ hx))
 exact Nat.le_mul_of_pos_right _ this
section
variable{k w N M X B:Nat}{A f:Nat->Vc}{P:List Nat}
structure N0(A:Nat->Vc)(k w r b:Nat)(S U:Nat->Vc)(Bn:List Vc)(Q q:Nat->Nat):Prop where
 rk:r<=k
 rw:r<=w
 bl:∀i u,i<k->u<w->S i u=aP k w A (U i) (un u)
 bu:Both k (tl k U) Bn
 ku:Ker k r 1 b U Q
 z:∀i u,r<=i->i<k->u<w->S i u=0
 qw:∀i,i<r->q i<w
 ql:∀i j,i<j->j<r->q i<q j
 sz:∀i u,i<r->u<q i->S i u=0
 sp:∀i,i<r->0<S i (q i)
def Lq(F:FS N M X B (tl k (glue w A un)) P f):N0 A k w (cut w P) B (fun i=>f (pp P i)) (fun i t=>f (pp P i) (w+t)) (lE k ((tl k (glue w A un)).map fun r=>shr f P r) (tl k un)) (fun a=>pp P (cut w P+a)-w) (pp P):=by
 have g:P.length=k:=by rw[F.len];exact ij
 obtain⟨c1,o,l⟩:=DQ (m:=w) F.srt g;have b:∀{i},i<k->pp P i∈P:=fun hi=>ow g hi;have q:∀i,i<k->i<=pp P i:=by
  intro i
  induction i with
  |zero=>intro _;exact Aw _
  |succ i ih=>intro hi;have:=ih ω;have:=gR g F.srt (show i<i+1 from ω) hi;(first|lia|omega)
 have hw:cut w P<=w:=by
  rcases Nat.eq_zero_or_pos (cut w P) with z|z
  ·(first|lia|omega)
  ·have h1:=o (cut w P-1) ω
   have h2:=q (cut w P-1) ω;(first|lia|omega)
 have hq:∀a,a<k-cut w P->w+(pp P (cut w P+a)-w)=pp P (cut w P+a):=fun a h=>by have:=l (cut w P+a) ω ω;(first|lia|omega)
 refine⟨c1,hw,fun i u hi d=>?_,?_,⟨fun a c h1 h2=>?_,fun a u h d=>?_,fun a h=>?_,fun a c h1 h2=>?_,fun i a hi h=>?_,fun a h=>?_⟩,fun i u h1 h2 s=>F.ech.z _ (b h2) u (by have:=l i h1 h2;(first|lia|omega)),o,fun i j h1 h2=>gR g F.srt h1 ω,fun i u hi d=>F.ech.z _ (b ω) u d,fun i hi=>F.ech.pos _ (b ω)⟩
 ·refine GT (T:=fun u i=>A i u) (U:=un) (V:=un) F (fun u i d hi=>(DO hi d).symm) _ (b hi) u d
 ·have:=BE F (DN k)
  have e:(P.map fun p=>fun t=>f p (w+t))=tl k (fun i t=>f (pp P i) (w+t)):=by
   have:=DP g
   conv=>lhs;rw[this]
   rw[AS];rfl
  rw[e] at this;exact this
 ·have:=gR g F.srt (show cut w P+a<cut w P+c from ω) ω
  have:=l (cut w P+a) ω ω;show pp P (cut w P+a)-w<pp P (cut w P+c)-w;(first|lia|omega)
 ·have d:u<pp P (cut w P+a)-w:=d
  exact F.ech.z _ (b ω) (w+u) ω
 ·show 0<f (pp P (cut w P+a)) (w+(pp P (cut w P+a)-w))
  rw[hq a h];exact F.ech.pos _ (b ω)
 ·show 0<=f (pp P (cut w P+a)) (w+(pp P (cut w P+c)-w))/\f (pp P (cut w P+a)) (w+(pp P (cut w P+c)-w))<f (pp P (cut w P+c)) (w+(pp P (cut w P+c)-w))
  rw[hq c h2];exact F.red _ (b ω) _ (b ω) (gR g F.srt ω ω)
 ·show(f (pp P i) (w+(pp P (cut w P+a)-w))).natAbs<=1*(f (pp P (cut w P+a)) (w+(pp P (cut w P+a)-w))).natAbs
  rw[hq a h];have:=F.red _ (b (show i<k from ω)) _ (b (show cut w P+a<k from ω)) (gR g F.srt ω ω);(first|lia|omega)
 ·show(f (pp P (cut w P+a)) (w+(pp P (cut w P+a)-w))).natAbs<=B
  rw[hq a h];exact F.piv _ (b ω)
def Lr(g:1<=M)(hi:iN (tl k (glue w A un)))(hb:∀r∈tl k (glue w A un),∀u,(r u).natAbs<=M)(F:FS N M X B (tl k (glue w A un)) P f):∀m,m<=cut w P->pr ((Ag m).map fun i=>(f (pp P i) (pp P i)).toNat)<=(2*(k*M)+1) ^ k:=fun m j=>by
 have b:P.length=k:=by rw[F.len];exact ij
 obtain⟨c1,_,_⟩:=DQ (m:=w) F.srt b;have h:=Lg g hi F.ech F.srt F.gen F.len fun r hr p _=>hb r hr p;rw[ij] at h;have e:(P.map fun p=>(f p p).toNat)=((Ag m).map fun i=>(f (pp P i) (pp P i)).toNat)++((Ag (k-m)).map fun a=>(f (pp P (m+a)) (pp P (m+a))).toNat):=by
  have:=DP b
  conv=>lhs;rw[this]
  rw[AS];apply AV
  ·simp;(first|lia|omega)
  ·intro i h1 h2
   rw[AU,A4]
   by_cases hi:i<m
   ·rw[List.getElem_append_left (by simpa using hi),AU,A4];rfl
   ·rw[List.getElem_append_right (by simp;(first|lia|omega)),AU,A4,Aa,AZ,show m+(i-m)=i from ω];rfl
 rw[e] at h;refine Ae (Lp _ _ fun t d=>?_) h;obtain⟨a,c,rfl⟩:=List.mem_map.mp d;have c:=List.mem_range.mp c;have:=F.ech.pos _ (ow b (show m+a<k from ω));(first|lia|omega)
def Ls{r b D Z M2 X2 B2:Nat}{S U f2:Nat->Vc}{Bn:List Vc}{Q q:Nat->Nat}{P2:List Nat}(I:N0 A k w r b S U Bn Q q)(X:∀m,m<=r->pr ((Ag m).map fun i=>(S i (q i)).toNat)<=D)(F:FS Z M2 X2 B2 (tl w (glue k (fun u i=>S i u) un)) P2 f2):cut k P2=r/\(∀i,i<r->pp P2 i=i)/\LI A k w r D b B2 1 (fun u=>f2 (pp P2 u)) U (fun u t=>f2 (pp P2 u) (k+t)) Bn (lE w ((tl w (glue k (fun u i=>S i u) un)).map fun r=>shr f2 P2 r) (tl w un)) Q (fun a=>pp P2 (r+a)-k):=by
 have rk:=I.rk;have l:P2.length=w:=by rw[F.len];exact ij
 obtain⟨c1,M,C⟩:=DQ (m:=k) F.srt l;have d:∀{i},i<w->pp P2 i∈P2:=fun hi=>ow l hi;have sp:∀p∈P2,Sp (tl w (glue k (fun u i=>S i u) un)) (f2 p):=fun p hp=>(F.fr p hp).sp;have row:∀u,u<w->Sp (tl w (glue k (fun u i=>S i u) un)) (glue k (fun u i=>S i u) un u):=fun u f=>Sp.mem (List.mem_map.mpr ⟨u,List.mem_range.mpr f,rfl⟩);have zero:∀v,Sp (tl w (glue k (fun u i=>S i u) un)) v->∀i,r<=i->i<k->v i=0:=fun v y i h1 h2=>by
  obtain⟨c,_,e⟩:=y;rw[e];refine zO _ _ fun x hx=>?_;obtain⟨u,f,rfl⟩:=List.mem_map.mp hx;rw[zW h2];exact I.z i u h1 h2 (List.mem_range.mp f)
 have H:∀i j,i<r->i<j->j<k->glue k (fun u i=>S i u) un (q i) j=0:=fun i j hi h1 h2=>by
  rw[zW h2]
  by_cases h:j<r
  ·exact I.sz j (q i) h (I.ql i j h1 h)
  ·exact I.z j (q i) ω h2 (I.qw i hi)
 have lt:Lt (Sp (tl w (glue k (fun u i=>S i u) un))):=⟨Sp.zero,fun m y hw=>y.sub hw m⟩;have J:∀i,i<r->0<glue k (fun u i=>S i u) un (q i) i:=fun i hi=>by rw[zW ω];exact I.sp i hi
 have inP:∀j,j<r->j∈P2:=fun j s=>by
  obtain⟨v,N,O,P⟩:=alone (L:=fun i=>glue k (fun u i=>S i u) un (q i)) lt rk (fun i hi=>row _ (I.qw i hi)) J H j s;exact G0 F.ech F.srt (N.trans F.gen) (fun u f=>P u ω ω) O
 have lo:∀p∈P2,p<k->p<r:=fun p hp h=>by
  rcases Bb p r with g|g
  ·exact g
  ·have:=zero _ (sp p hp) p g h
   have:=F.ech.pos p hp;(first|lia|omega)
 have two:∀i,i<r->i<w/\pp P2 i=i:=by
  intro i
  induction i using Nat.strongRecOn with
  |_ i ih=>
   intro hi;obtain⟨j,s,e⟩:=Lo l (inP i hi);have h1:i<=j:=by
    rcases Bb j i with g|g
    ·have:=(ih j g ω).2;(first|lia|omega)
    ·exact g
   have h2:j<=i:=by
    rcases Bb i j with g|g
    ·have E:=gR l F.srt g s
     rw[e] at E;obtain⟨_,e2⟩:=ih (pp P2 i) E ω;rcases Nat.lt_trichotomy (pp P2 i) i with g2|g2|g2
     ·have:=gR l F.srt g2 ω;(first|lia|omega)
     ·(first|lia|omega)
     ·(first|lia|omega)
    ·exact g
   have:j=i:=ω
   subst this;exact⟨s,e⟩
 have W:cut k P2=r:=by
  rcases Nat.lt_trichotomy (cut k P2) r with g|g|g
  ·have:=C (cut k P2) (Ad _) (two _ g).1
   rw[(two _ g).2] at this;(first|lia|omega)
  ·exact g
  ·have h1:=M r g
   have h2:=lo _ (d ω) h1;have E:r<=pp P2 r:=by
    rcases Nat.eq_zero_or_pos r with z|z
    ·(first|lia|omega)
    ·have:=gR l F.srt (show r-1<r from ω) ω
     rw[(two (r-1) ω).2] at this;(first|lia|omega)
   (first|lia|omega)
 have hq:∀a,a<w-r->k+(pp P2 (r+a)-k)=pp P2 (r+a):=fun a o=>by have:=C (r+a) ω ω;(first|lia|omega)
 refine⟨W,fun i hi=>(two i hi).2,I.rk,I.rw,Ad 1,fun u i f hi=>?_,I.bu,?_,I.ku,⟨fun a c h1 h2=>?_,fun a u o f=>?_,fun a o=>?_,fun a c h1 h2=>?_,fun i a hi o=>?_,fun a o=>?_⟩,fun u f=>?_,fun u i f hi=>?_,fun u i h1 h2=>?_,fun u i f hi h=>?_,fun m G=>?_⟩
 ·exact GU (T:=S) (U:=U) (V:=un) F I.bl _ (d f) i hi
 ·have:=BE F (DN w)
  have e:(P2.map fun p=>fun t=>f2 p (k+t))=tl w (fun u t=>f2 (pp P2 u) (k+t)):=by
   have:=DP l
   conv=>lhs;rw[this]
   rw[AS];rfl
  rw[e] at this;exact this
 ·have:=gR l F.srt (show r+a<r+c from ω) ω
  have:=C (r+a) ω ω;show pp P2 (r+a)-k<pp P2 (r+c)-k;(first|lia|omega)
 ·have f:u<pp P2 (r+a)-k:=f
  exact F.ech.z _ (d ω) (k+u) ω
 ·show 0<f2 (pp P2 (r+a)) (k+(pp P2 (r+a)-k))
  rw[hq a o];exact F.ech.pos _ (d ω)
 ·show 0<=f2 (pp P2 (r+a)) (k+(pp P2 (r+c)-k))/\f2 (pp P2 (r+a)) (k+(pp P2 (r+c)-k))<f2 (pp P2 (r+c)) (k+(pp P2 (r+c)-k))
  rw[hq c h2];exact F.red _ (d ω) _ (d ω) (gR l F.srt ω ω)
 ·show(f2 (pp P2 i) (k+(pp P2 (r+a)-k))).natAbs<=1*(f2 (pp P2 (r+a)) (k+(pp P2 (r+a)-k))).natAbs
  rw[hq a o];have:=F.red _ (d (show i<w from ω)) _ (d (show r+a<w from ω)) (gR l F.srt ω ω);(first|lia|omega)
 ·show(f2 (pp P2 (r+a)) (k+(pp P2 (r+a)-k))).natAbs<=B2
  rw[hq a o];exact F.piv _ (d ω)
 ·show 0<f2 (pp P2 u) u
  rw[(two u f).2];exact F.ech.pos u (inP u f)
 ·show f2 (pp P2 u) i=0
  rw[(two u f).2];exact F.ech.z u (inP u f) i hi
 ·show 0<=f2 (pp P2 u) i/\f2 (pp P2 u) i<f2 (pp P2 i) i
  rw[(two u ω).2,(two i h2).2];exact F.red u (inP u ω) i (inP i h2) h1
 ·show f2 (pp P2 u) i=0
  by_cases Y:u<r
  ·exact zero _ (sp _ (d f)) i ω hi
  ·exact F.ech.z _ (d f) i (by have:=C u ω f;(first|lia|omega))
 ·have T:Two (Sp (tl w (glue k (fun u i=>S i u) un))) r (fun i=>glue k (fun u i=>S i u) un (q i)) f2:=
   ⟨lt,fun i hi=>row _ (I.qw i hi),J,fun i j h1 h2=>H i j ω h1 ω,fun i hi=>sp i (inP i hi),fun i hi=>F.ech.pos i (inP i hi),fun i j hi s=>F.ech.z i (inP i hi) j s,fun v i y hi hz=>j5 F.ech F.srt (inP i hi) (y.trans F.gen) fun p _ hp=>hz p hp⟩
  have e1:tn (fun u=>f2 (pp P2 u)) m=tn f2 m:=ii fun i hi=>by show f2 (pp P2 i) i=f2 i i;rw[(two i ω).2]
  have e2:tn (fun i=>glue k (fun u i=>S i u) un (q i)) m=(Ag m).map fun i=>(S i (q i)).toNat:=by
   unfold tn;exact A8 fun i hi=>by
    show(glue k (fun u i=>S i u) un (q i) i).toNat=_;rw[zW (by have:=List.mem_range.mp hi;(first|lia|omega))]
  rw[e1];have:=DE T G;rw[e2] at this;exact Ae this (X m G)
end
def mu(T:Nat->Vc):Nat->Nat
 |0=>0
 |r+1=>mu T r+Nat.log2 (pr (tn T (r+1)))
def DR{a b:Nat}(c:1<=a)(h:a<=b):a.log2<=b.log2:=by
 rcases Bb b.log2 a.log2 with g|g
 ·have h1:=(Nat.log2_lt (show b≠0 from ω)).mp g
  have h2:=Nat.log2_self_le (show a≠0 from ω);(first|lia|omega)
 ·exact g
def Lu{a b:Nat}(c:1<=a)(h:2*a<=b):a.log2+1<=b.log2:=by
 rcases Bb b.log2 (a.log2+1) with g|g
 ·have h1:=(Nat.log2_lt (show b≠0 from ω)).mp g
  have h2:=Nat.log2_self_le (show a≠0 from ω);rw[Nat.pow_succ] at h1;(first|lia|omega)
 ·exact g
def DS{T T':Nat->Vc}:∀r,(∀i,i<r->0<T' i i)->(∀m,m<=r->pr (tn T' m)<=pr (tn T m))->mu T' r<=mu T r
 |0,_,_=>Ad _
 |r+1,hp,h=>by
  have h1:=DS r (fun i hi=>hp i ω) fun m a=>h m ω;have h2:=DR (oo (k:=r+1) hp) (h (r+1) (Ad _));show mu T' r+_<=mu T r+_;(first|lia|omega)
def DT{T T':Nat->Vc}:∀r,(∀i,i<r->0<T' i i)->(∀m,m<=r->pr (tn T' m)<=pr (tn T m))->(∃m,m<=r/\2*pr (tn T' m)<=pr (tn T m))->mu T' r+1<=mu T r
 |0,_,_,⟨m,b,h⟩=>by
  have:m=0:=ω
  subst this;have h:2*1<=1:=h;(first|lia|omega)
 |r+1,hp,h,⟨m,b,hh⟩=>by
  have a:∀i,i<r->0<T' i i:=fun i hi=>hp i ω;show mu T' r+_+1<=mu T r+_
  by_cases e:m=r+1
  ·subst e
   have h1:=DS (T:=T) r a fun m b=>h m ω;have h2:=Lu (oo (k:=r+1) hp) hh;(first|lia|omega)
  ·have h1:=DT r a (fun m b=>h m ω) ⟨m,ω,hh⟩
   have h2:=DR (oo (k:=r+1) hp) (h (r+1) (Ad _));(first|lia|omega)
def G1{T:Nat->Vc}{D:Nat}:∀r,(∀i,i<r->0<T i i)->(∀m,m<=r->pr (tn T m)<=D)->mu T r<=r*D.log2
 |0,_,_=>Aw _
 |r+1,hp,h=>by
  have h1:=G1 r (fun i hi=>hp i ω) fun m a=>h m ω;have h2:=DR (oo (k:=r+1) hp) (h (r+1) (Ad _));show mu T r+_<=(r+1)*D.log2;rw[Nat.add_mul];(first|lia|omega)
def Dg(r:Nat)(T:Nat->Vc):Prop:=∀u i,u<r->i<r->u≠i->T u i=0
open Classical in
noncomputable def ms(r:Nat)(T:Nat->Vc):Nat:=2*mu T r+if Dg r T then 0 else 1
section
variable{A T U V f1 f2:Nat->Vc}{k w r D bU bV g M N X B M2 X2 B2:Nat}{Bn Bf:List Vc}{QU QV:Nat->Nat}{P1 P2:List Nat}
def Lv(I:LI A k w r D bU bV g T U V Bn Bf QU QV)(hd:¬Dg r T)(Tr:Tri k r w M g (glue w (fun i u=>T u i) U) (fun a=>w+QU a))(l:FS N M X B (tl k (glue w (fun i u=>T u i) U)) P1 f1)(j:Tri w r k M2 1 (glue k (fun u i=>f1 (pls r w QU i) u) V) (fun a=>k+QV a))(o:FS N M2 X2 B2 (tl w (glue k (fun u i=>f1 (pls r w QU i) u) V)) P2 f2):ms r (fun u=>f2 (pls r k QV u))<ms r T:=by
 obtain⟨_,L,c,h1⟩:=I.near_done Tr l;obtain⟨_,J,f,h2⟩:=L.far_done j o;have le:=fun m b=>Ae (f m b) (c m b);unfold ms;rw[if_neg hd]
 by_cases d:∃m,m<=r/\2*pr (tn (fun u=>f2 (pls r k QV u)) m)<=pr (tn T m)
 ·have:=DT r J.tp le d
  split<;>(first|lia|omega)
 ·have:=DS r J.tp le
  have dg:Dg r (fun u=>f2 (pls r k QV u)):=by
   rcases h2 with ⟨m,b,h⟩|h
   ·exact absurd ⟨m,b,Ae h (c m b)⟩ d
   ·exact fun u i e hi ne=>(h u e).2 i hi (Ne.symm ne)
  rw[if_pos dg];(first|lia|omega)
def Lw{C:Nat->Vc}(I:LI A k w r D bU bV g T U V (tl k C) Bf QU QV)(hr:1<=r)(hd:Dg r T)(l:¬∀i,i+1<r->T i i ∣ T (i+1) (i+1))(c:Tri w r k M2 1 (glue k (fun u i=>aP k w A (b_ U r (r-1) i) (V u)) V) (fun a=>k+QV a))(d:FS N M2 X2 B2 (tl w (glue k (fun u i=>aP k w A (b_ U r (r-1) i) (V u)) V)) P2 f2):ms r (fun u=>f2 (pls r k QV u))<ms r T:=by
 obtain⟨L,val⟩:=I.slid hr hd;obtain⟨_,J,f,h2⟩:=L.far_done c d;have rk:=I.rk;have o:=I.rw;have e:∀m,m<=r->tn (fun i u=>aP k w A (b_ U r (r-1) i) (V u)) m=tn T m:=fun m b=>ii fun i hi=>by
  show aP k w A (b_ U r (r-1) i) (V i)=T i i;rw[val i i ω ω,if_pos ⟨Ad _,ω⟩]
 have le:∀m,m<=r->pr (tn (fun u=>f2 (pls r k QV u)) m)<=pr (tn T m):=fun m b=>by rw[<-e m b];exact f m b
 unfold ms;rw[if_pos hd];have j:∃m,m<=r/\2*pr (tn (fun u=>f2 (pls r k QV u)) m)<=pr (tn T m):=by
  rcases h2 with ⟨m,b,h⟩|h
  ·exact⟨m,b,by rw[<-e m b];exact h⟩
  ·refine absurd (fun i hi=>?_) l
   have:=Ln L c d h (i:=i) (u:=i+1) ω ω;have this:aP k w A (b_ U r (r-1) i) (V i) ∣ aP k w A (b_ U r (r-1) i) (V (i+1)):=this
   rwa [val i i ω ω,val i (i+1) ω ω,if_pos ⟨Ad _,ω⟩,if_pos ⟨ω,ω⟩] at this
 have:=DT r J.tp le j;split<;>(first|lia|omega)
end
section
variable{N M X B:Nat}{R:List Vc}{P:List Nat}{f:Nat->Vc}{l:Vc}
def ox:cM N M X B<=cE N M X B:=A6 _ _
def DU(a:1<=B):cK N M X B<=cM N M X B:=Nat.le_mul_of_pos_right _ (Nat.pow_pos (Bu a))
def FS.mid{r:Vc}(c:1<=B)(F:FS N M X B R P f)(d:R.length<N)(hr:∀p∈P,(r p).natAbs<=M)(i:Nat):Rep (R++[r]) (cE N M X B) (aX f (P.take i) r):=by
 have a:(P.take i).length<=N:=by have:=F.len;rw[List.length_take];(first|lia|omega)
 obtain⟨b,_⟩:=k8 (R:=R++[r]) (fun p hp=>(F.fr p hp).more) F.fv F.ech.pos (P.take i) (fun q hq=>List.mem_of_mem_take hq) (Rep.mem (AA R (List.mem_singleton.mpr rfl))) hr;refine b.mono (Ae ?_ (Ae (DU c) ox));unfold cK;have h1:(1+B) ^ (P.take i).length<=(1+B) ^ N:=Ax ω a;have h2:(P.take i).length*(M*(1+B) ^ (P.take i).length*cC N X B)<=N*(M*(1+B) ^ N*cC N X B):=AO a (Am _ (Ak _ h1));(first|lia|omega)
structure Mid(N M X B:Nat)(R:List Vc)(P:List Nat)(f:Nat->Vc)(m:Vc)(a b c d:Int):Prop where
 ech:Ech P f
 fr:∀q∈P,Rep R (cE N M X B) (f q)
 piv:∀q∈P,(f q q).natAbs<=B
 met:∀i,Rep R (cE N M X B) (aX f (P.take i) m)
 a1:a.natAbs<=B
 b1:b.natAbs<=B
 c1:c.natAbs<=B
 d1:d.natAbs<=B
def TS.mid{t p:Nat}{g a b c d:Int}(C:1<=B)(T:TS N M X B R P f l t)(hp:p∈P)(s:∀i,i<p->l i=0)(oB:l p≠0)(D:t<=p)(G:GI (f p p) (l p) g a b 0 c d):Mid N M X B R P (put f p (mix a (f p) b l)) (mix c (f p) d l) a b c d:=by
 obtain⟨T2,o⟩:=T.next C hp s oB D G;have H:=Bu (N:=N) C;obtain⟨r0,r1⟩:=T.red p hp;have w:=T.piv p hp;obtain⟨c1,E⟩:=G.le;have a1:a.natAbs<=B:=Ae G.b1 ω;have x:b.natAbs<=B:=Ae G.b2 w;have c1:c.natAbs<=B:=Ae c1 ω;have d1:d.natAbs<=B:=Ae E w;have I:∀q∈P,(l q).natAbs<=B:=fun q hq=>by have:=T.red q hq;have:=T.piv q hq;(first|lia|omega)
 have J:=T.fo p hp D;have L:∀{a b:Int},a.natAbs<=B->b.natAbs<=B->∀q∈P,(mix a (f p) b l q).natAbs<=2*B*B:=fun{a b} u hb q hq=>by
  have O:(a*f p q).natAbs<=B*B:=by rw[AF];exact AO u (J q hq)
  have S:(b*l q).natAbs<=B*B:=by rw[AF];exact AO hb (I q hq)
  have t3:=Int.natAbs_add_le (a*f p q) (b*l q);show(a*f p q+b*l q).natAbs<=_;rw[AN];generalize B*B=Y at O S ⊢;(first|lia|omega)
 have U:P.length<=N:=by have:=T.len;have:=T.few;(first|lia|omega)
 have cnt:(P.filter fun q=>decide (q<t)).length+1<=N:=by
  have h1:=T.len;have h2:=T.few;have:=List.length_filter_le (fun q=>decide (q<t)) P;(first|lia|omega)
 generalize hK:cK N M X B*cG N B ^ (P.filter fun p=>decide (p<t)).length=K;have fr:=T.fr;have y:=T.lr;rw[hK] at fr y;have z:∀{a b:Int},a.natAbs<=B->b.natAbs<=B->Rep R (2*B*K) (mix a (f p) b l):=fun{a b} u hb=>((fr p hp).lin y u hb).mono (by rw[AN];(first|lia|omega));have W:K<=2*B*K:=Nat.le_mul_of_pos_left _ ω;have A:∀q∈P,Rep R (2*B*K) (put f p (mix a (f p) b l) q):=fun q hq=>by
  by_cases e:q=p
  ·subst e;rw[zQ];exact z a1 x
  ·rw[dn e];exact(fr q hq).mono W
 have h:∀n,n<=N->2*B*K+n*(2*B*B*(1+2*B*B) ^ n*(2*B*K))<=cG N B*K:=fun n v=>by
  unfold cG cW;have h1:(1+2*B*B) ^ n<=(1+2*B*B) ^ N:=Ax ω v;generalize 2*B*B=Y at h1 ⊢;have h2:n*(Y*(1+Y) ^ n*(2*B*K))<=N*(Y*(1+Y) ^ N*(2*B*K)):=AO v (Am _ (Ak _ h1));refine Ae (Nat.add_le_add_left h2 _) (Nat.le_of_eq ?_);generalize Y*(1+Y) ^ N=Z;generalize 2*B=Q;rw[Nat.mul_add,Nat.mul_one,Nat.add_mul,<-AN N Z,Nat.mul_comm Q (N*Z),AN (N*Z)]
 have j:cG N B*K<=cE N M X B:=by
  refine Ae ?_ ox;rw[<-hK,Nat.mul_left_comm,<-Nat.pow_succ'];exact Ak _ (Ax H cnt)
 have two:2*B*K<=cG N B*K:=Ae (A6 _ _) (h 0 ω);refine⟨o,fun q hq=>(A q hq).mono (Ae two j),T2.piv,fun i=>?_,a1,x,c1,d1⟩;have hi:(P.take i).length<=N:=by rw[List.length_take];(first|lia|omega)
 obtain⟨F,_⟩:=k8 A (fun q hq r hr=>T2.fv q hq r hr) o.pos (P.take i) (fun q hq=>List.mem_of_mem_take hq) (z c1 d1) (L c1 d1);exact F.mono (Ae (h _ hi) j)
def TS.rep{t:Nat}(a:1<=B)(T:TS N M X B R P f l t):(∀p∈P,Rep R (cE N M X B) (f p))/\Rep R (cE N M X B) l:=
 ⟨fun p hp=>(T.fr p hp).mono (Ae (T.cnt a) ox),T.lr.mono (Ae (T.cnt a) ox)⟩
end
def TS.nz{N M X B Y t:Nat}{R:List Vc}{P:List Nat}{f:Nat->Vc}{l:Vc}(T:TS N M X B R P f l t)(hi:iN R)(hb:∀r∈R,∀u,(r u).natAbs<=Y):∃u,l u≠0:=by
 refine AJ fun no=>?_;have z:∀u,l u=0:=fun u=>AJ fun h=>no ⟨u,h⟩;have e:∀r∈R,Sp (P.map f) r:=fun r hr=>(T.gen r hr).trans fun s a=>by
  rcases List.mem_append.mp a with h|h
  ·exact Sp.mem h
  ·rw[List.mem_singleton.mp h];exact Sp.zero.eq z
 obtain⟨c,h1,⟨x,hx,d⟩,h2,_⟩:=eH (M:=Y+1) ω (fun v b p _=>Nat.le_succ_of_le (hb v b p)) (show P.length<R.length by have:=T.len;(first|lia|omega));exact d (Bq hi T.ech T.srt e c h1 h2 x hx)
end Tb
end
section
namespace L2
open PySem PySem.Spec PyProof.Rows
def oA(hi:Int)(n:Nat):It:=⟨fun i _=>i<n,fun i H x H'=>H'=H/\x=.int (hi-i),fun i _=>n<=i⟩
def Lx{P:Program}{w:World}{K:Ah}{tg:Expr}(it:Addr)(lo:Int)(n:Nat):Turn P w K tg (oA lo n) [it] it (fun i h=>IsRangeIter h it (lo+(i:Nat)*(-1)) ((n:Int)-(i:Nat)) (-1)) where
 mem:=by simp
 obj:=fun i h st b hb=>by
  have e:b=it:=by simpa using hb
  subst e;exact⟨_,st,fun v z=>by
   have u:Data.fields _=Data.cell v:=z;cases u⟩
 keep:=fun i h h' st k=>k it (by simp) _ st
 item:=by
  intro X c hw d hc i aa s σ H E I a st hg;subst c hw d;obtain⟨f,f1,f2,g,j,l⟩:=a it (by simp);have W:=Walks.range (prog:=X.prog) (w:=X.w) (I.ok.hd hc) it lo (-1) n;refine W.item i s _ _ hg st fun v h' tk p ab q=>?_;obtain⟨t,rfl⟩:=p;have x:Inv X aa σ H {s with heap:=h',toks:=tk}:=I.turned (fun b o hb e=>q b o (by simpa using hb) e) f f1 g j l;refine⟨_,rfl,CA (s:={s with heap:=h',toks:=tk}) (n:="range_iterator") ab rfl rfl ξ ⟨.int (lo-i),H,x,⟨t,?_⟩,⟨rfl,rfl⟩,ab,fun b hb=>(a b hb).1⟩⟩;rw[show lo+(i:Int)*(-1)=lo-i from ω]
 done:=by
  intro X c hw d hc i aa s σ H E I a st hg;subst c hw d;obtain⟨f,f1,f2,g,j,l⟩:=a it (by simp);exact wpAny_pyNext_range_end (I.ok.hd hc) st (by have:n<=i:=hg;(first|lia|omega)) fun h' r=>⟨rfl,I.turned (t':=s.toks) (fun b o hb e=>r b o hb e) f f1 g j l⟩
 self:=fun _ _ _ _ _ st h=>wpAny_pyIter_rangeiter st h
section
variable{X:Cx}{tg:Expr}
def Ly{aa:Ψ}{σ:St}{H:Hp}{s:Shared}{R:It->Hp->Prop}{E:Ω}{lo hi:Int}{t u v:Tok}{tk:Nat}(I:Inv X aa σ H s)(h1:-(2 ^ 62)<=lo)(h2:lo<2 ^ 62)(a:-(2 ^ 62)<=hi)(c:hi<2 ^ 62)(q:R (oA lo (lo-hi).toNat) H):wpAny (model X.prog X.w) X.A (pyIter (.ref s⁻¹)) (Cz X aa σ tg R) E {s with heap:=s.heap.push {cls:=.type "range",data:=.fields #[.int lo t,.int hi u,.int (-1) v]},toks:=tk}:=by
 refine wpAny_pyIter_range (IsRange.new ..) (PySem.W.small_down h1 h2 a c) ?_;have I1:Inv X aa σ H {s with heap:=s.heap.push {cls:=.type "range",data:=.fields #[.int lo t,.int hi u,.int (-1) v]},toks:=tk}:=I.kept fun b o e=>Ai _ e;refine⟨(s.heap.push {cls:=.type "range",data:=.fields #[.int lo t,.int hi u,.int (-1) v]}).objs.size,[(s.heap.push {cls:=.type "range",data:=.fields #[.int lo t,.int hi u,.int (-1) v]}).objs.size],_,_,H,rfl,
  I1.kept (t':=tk) fun b o e=>Ai _ e,Lx _ lo (lo-hi).toNat,?_,fun b hb=>?_,q⟩
 ·have e1:lo+((0:Nat):Int)*(-1)=lo:=by simp
  have e2:(((lo-hi).toNat:Nat):Int)-((0:Nat):Int)=Builtin.Range.rangeSize lo hi (-1):=by rw[PySem.W.rangeSize_downNat];(first|lia|omega)
  show IsRangeIter _ _ (lo+((0:Nat):Int)*(-1)) ((((lo-hi).toNat:Nat):Int)-((0:Nat):Int)) (-1);rw[e1,e2];exact AM _ rfl
 ·have e:b=(s.heap.push {cls:=.type "range",data:=.fields #[.int lo t,.int hi u,.int (-1) v]}).objs.size:=by simpa using hb
  subst e;exact I1.fpOk (Ad _) (I1.hok.fresh (Ad _))
def Lz(ta:TA):TI:=fun σ H R=>ta σ H fun vs H1=>∃i j:Int,vs=[.int i,.int j,.int (-1)]/\(-(2 ^ 62)<=i/\i<2 ^ 62/\-(2 ^ 62)<=j/\j<2 ^ 62)/\R (oA i (i-j).toNat) H1
def G2{a b c:Expr}{ta:TA}{p pos:Pos}(hg:Gl X "range")(u:X.mg "range"=none)(v:PA X [a,b,c] ta)(w:starEach [a,b,c] X.env=[(false,eval a X.env),(false,eval b X.env),(false,eval c X.env)]:=by rfl)(f:starEach [b,c] X.env=[(false,eval b X.env),(false,eval c X.env)]:=by rfl):PI X tg (.Call (.Name "range" p) [a,b,c] [] pos) (Lz ta):=by
 intro aa s σ H R I h;refine Call_ (jx I hg u boot_range (PyProof.Rows.callWith_type1 (aR (v pos aa s σ H _ I h) fun us y ⟨vs,H1,x,r1,d⟩=>?_) (by rw[w,f]) (by rw[f];rfl)));obtain⟨i,j,e,⟨d,g,l,o⟩,q⟩:=d;subst e;cases r1 with
 |cons r rr=>
  cases rr with
  |cons r' rr=>
   cases rr with
   |cons r'' rr=>
    cases rr;obtain⟨t,rfl⟩:=r;obtain⟨t',rfl⟩:=r';obtain⟨z,rfl⟩:=r'';exact call_range_3 ξ (Ly x d g l o q) (.inl (PyProof.noPylong_of_log2 δ))
end
def G3{hi:Int}{n:Nat}{g:TG}{tb:TS}{D:Ends}{σ:St}{H:Hp}(b:Nat->St->Hp->Prop)(j:b 0 σ H)(l:∀i σ H,i<n->b i σ H->g (.int (hi-i)) σ H fun c H2=>tb {D with nx:=b (i+1),ct:=b (i+1),bk:=D.nx} c H2)(hd:∀σ H,b n σ H->D.nx σ H):∃W:Nat->Nat->St->Hp->Prop,(∃m,W 0 m σ H)/\∀i m σ H,W i m σ H->
   ((oA hi n).stop i H/\D.nx σ H)\/((oA hi n).go i H/\∃N:St->Hp->Prop,(∀d H',N d H'->∃f,f<m/\W (i+1) f d H')/\∀x H',(oA hi n).yld i H x H'->g x σ H' fun c H2=>tb {D with nx:=N,ct:=N,bk:=D.nx} c H2):=by
 refine⟨fun i m σ H=>m=n-i/\i<=n/\b i σ H,⟨n,by simp,Aw _,j⟩,?_⟩;rintro i m σ H ⟨rfl,hi,p⟩
 by_cases a:i<n
 ·refine .inr ⟨a,b (i+1),fun d H' h=>⟨n-(i+1),ω,rfl,a,h⟩,fun x H' y=>?_⟩
  obtain⟨e,y⟩:=y;subst e y;exact l i σ _ a p
 ·have e:i=n:=ω
  subst e;exact .inl ⟨Ad _,hd σ H p⟩
end L2
end
section
namespace K28
open PySem L2
abbrev BH:Stmt:=top 30
def G4:Bk "len"=some (.builtin "len"):=δ
def DW{R:List Tb.Vc}{ps:List Nat}{fr:Nat->List Int}{W CE N Y:Nat}{rn:List Int}(f:∀r∈R,∀u,(r u).natAbs<=Y)(a:R.length<=N)(j:∀p∈ps,Tb.Rep R CE (vF fr p))(b:∀p∈ps,0<vF fr p p)(e:∀p∈ps,(vF fr p p).natAbs<2 ^ 9000)(d:Wid W ps fr)(g:rn.length=W)(met:∀i,Tb.Rep R CE (Tb.aX (vF fr) (ps.take i) (vc rn)))(c:N*(CE*Y)<big):j8 fr W rn ps:=by
 refine⟨g,d.most,fun p hp=>⟨(d.row p hp).1,(d.row p hp).2,b p hp,e p hp⟩,fun i p hp x hx=>?_⟩;have h:=Al hp;refine Bw (Au Gq ?_) ?_
 ·have r1:=met i
  rw[<-oj (fr:=fr) (W:=W) (ps:=ps.take i) (rn:=rn) g fun q hq=>(d.row q (List.mem_of_mem_take hq)).2] at r1;exact Au (Ae (r1.le (u:=p) fun r hr=>f r hr p) (Am _ a)) c
 ·obtain⟨u,_,rfl⟩:=Bv hx
  exact Au (Ae ((j p h).le (u:=u) fun r hr=>f r hr u) (Am _ a)) c
structure G5(N M X B Y:Nat)(R:List Tb.Vc):Prop where
 hB:1<=B
 piv:B<2 ^ 9000
 lim:N*(Tb.cE N M X B*Y)<big
 hR:∀r∈R,∀u,(r u).natAbs<=Y
 few:N<64
 bd:Tb.Bd N M X B R
def Fnd.no{H:Hp}{a:Addr}{es:List (Nat×Addr)}{fr:Nat->List Int}(h:Fnd H a es fr){p:Nat}(hp:p∉es.map (·.1)):DGet H a (.int p) none:=by
 have:=DGet.k (k:=Sum.inl (p:Int)) h.at_;rw[K7 ?_] at this
 ·exact this
 ·intro f b z
  rw[AS] at b;obtain⟨e,c,rfl⟩:=List.mem_map.mp b;have d:(Sum.inl (e.1:Int):Key)=Sum.inl (p:Int):=z;have:(e.1:Int)=p:=by injection d
  exact hp (List.mem_map.mpr ⟨e,c,ω⟩)
def fD{l:List Int}{p:Nat}(h:p<l.length):(l.map V.int)[p]?=some (V.int (vc l p)):=by
 unfold vc;rw[Aj,Ab,Ac h];rfl
def Fra(a:Addr)(H H':Hp):Prop:=∀b o,b≠a->H b=some o->H' b=some o
def Fra.trans{a:Addr}{H H1 H2:Hp}(h:Fra a H H1)(h2:Fra a H1 H2):Fra a H H2:=fun b o hb e=>h2 b o hb (h b o hb e)
def Fra.of{a:Addr}{H H1:Hp}(h:Same H H1):Fra a H H1:=fun b o _ e=>h b o e
def lJ(xs:List V)(n:Nat):dL xs (some (n:Int)) none=xs.drop n:=by
 unfold dL;rw[HT.EZ,HT.EY];rcases Nat.le_total n xs.length with h|h
 ·rw[Nat.min_eq_left h,Ar (by simp)]
 ·rw[Nat.min_eq_right h,List.drop_eq_nil_of_le (Ad _),List.drop_eq_nil_of_le h,List.take_nil]
def gS(l:List Int)(q:Nat):List Int:=if 0<vc l q then l else l.map fun x=>-x
def LA{l:List Int}{q:Nat}:vc (gS l q)=Tb.up (vc l) q:=by
 unfold gS Tb.up;split
 ·rfl
 ·exact Gh
def LB{l:List Int}{q:Nat}:(gS l q).length=l.length:=by unfold gS;split;rfl;simp
def G6{q:Nat}:∀{P:List Nat},(Tb.ins q P).Perm (P++[q])
 |[]=>.refl _
 |p::P=>by
  unfold Tb.ins;split
  ·exact(List.perm_append_singleton q (p::P)).symm
  ·exact(G6 (P:=P)).cons p
def share{c:Bool}{A B:Prop}{C S:Addr->Hp->Prop}(h2:(∀u H,S u H->C u H)->¬c=true->B)(h1:(∀u H,S u H->C u H)->c=true->A)(fin:∀u H,S u H->C u H):if c=true then A else B:=by
 split
 ·exact h1 fin (by assumption)
 ·exact h2 fin (by assumption)
structure Bt(a d:Addr)(q W N M X B:Nat)(R:List Tb.Vc)(P:List Nat)(H0 H:Hp)(ln:List Int)(es:List (Nat×Addr))(fr:Nat->List Int)(t:Nat):Prop where
 fra:Fra a H0 H
 fnd:Fnd H a es fr
 pls:Pls es P
 wid:Wid W P fr
 at_:H d=some (.lst (ln.map V.int))
 len:ln.length=W
 ts:Tb.TS N M X B R P (vF fr) (vc ln) t
 tq:t<=q
 qW:q<W
 low:∀i,i<q->vc ln i=0
 nz:vc ln q≠0
def DX{H:Hp}{a b:Addr}{es:List (Nat×Addr)}{fr:Nat->List Int}{xs:List V}(h:Fnd H a es fr)(hb:H b=some (.lst xs)):b≠a:=fun z=>by rw[z,h.at_] at hb;cases hb
section
variable{P:Program}{w:World}{K:Ah}{mg:Str->Option Value}{base:Heap}
def G7:Sp:=fun vs H Q _=>∃(a r:Addr)(rn:List Int)(es:List (Nat×Addr))(fr:Nat->List Int)(P:List Nat)(N M X B Y W:Nat)(R:List Tb.Vc),vs=[.ref a,.ref r]/\H r=some (.lst (rn.map V.int))/\Fnd H a es fr/\Pls es P/\Wid W P fr/\rn.length=W/\
 Tb.FS N M X B R P (vF fr)/\R.length<N/\(∀p∈P,(vc rn p).natAbs<=M)/\G5 N M X B Y (R++[vc rn])/\
 ∀H' d b c,Fra a H H'->Fnd H' a d b->Pls d c->Wid W c b->Tb.FS N M X B (R++[vc rn]) c (vF b)->Q .non H'
def i6:zo ["found","row","left","place","top","pair","places","k"] ["found","row"] (zf BH):=⟨rfl,rfl,rfl,δ,rfl,δ,δ⟩
def LC{f fr ff fp fm:Addr}{fd dJ kg cP cS:FuncData}(F:Fun K "take_in" "take_in" BH f fd)(bs:mg "sorted"=none)(bg:mg "range"=none)(bn:mg "len"=none)(Fr:Fun K "reduced" "reduced" iR fr dJ)(br:Binds K dJ ["row","found","places"] [])(mr:mg "reduced"=some (.ref fr))(Gr:am P w K mg base ar 2 fr dJ ["row","found","places"] FY)(Ff:Fun K "first_place" "first_place" Br ff kg)(bf:Binds K kg ["row"] [])(mf:mg "first_place"=some (.ref ff))(Gf:am P w K mg base ar 1 ff kg ["row"] FW)(Fp:Fun K "divisor_pair" "divisor_pair" ry fp cP)(bp:Binds K cP ["one","other"] [])(mp:mg "divisor_pair"=some (.ref fp))(Gp:am P w K mg base ar 1 fp cP ["one","other"] FX)(Fm:Fun K "mix_of_two" "mix_of_two" ro fm cS)(bm:Binds K cS ["often","row","other_often","other"] [])(mm:mg "mix_of_two"=some (.ref fm))(Gm:am P w K mg base ar 1 fm cS ["often","row","other_often","other"] FO):am P w K mg base ar 3 f fd ["found","row"] G7:=by
 refine F.ok i6 (fun vs H Q E h=>?_) (fun ai A outer s H vs Q E hr h=>?_)
 ·obtain⟨a,r,rn,es,fr,PP,N,M,X,B,Y,W,R,rfl,_⟩:=h;rfl
 ·obtain⟨a,r,rn,es,fR,PP,N,M,X,B,Y,W,R,rfl,h1,hF,hP,hW,hn,FS,hlt,hM,L,k⟩:=h
  have hu:=xT hr;have hr1:Room 1 _:=hr.mono ξ;refine⟨_,zd (zp (i:=2) i6.nd rfl (Or.inl rfl) (zg Gr hr rfl mr Fr.kp br .nil af (za (pv 1) (za (pv 0) (za (zv (rV rfl) rfl bs sA (za (pv 0) zc)) zc)))))
   (zd (zp (i:=3) i6.nd rfl (Or.inl rfl) (zg Gf hr1 rfl mf Ff.kp bf .nil af (za (pv 2) zc)))
   (zd (ws PassesOwn.never (Jg (JS hu (pv 3) (pv 0)) (by with_unfolding_all rfl))
    (zd (zp (i:=4) i6.nd rfl (Or.inl rfl) (kI hu (pv 0) (pv 3) (fun _ _=>rfl)))
    (zd (zp (i:=5) i6.nd rfl (Or.inl rfl) (zg Gp hr1 rfl mp Fp.kp bp .nil af (za (zw zq (pv 4) (pv 3) (fun _ _=>rfl)) (za (zw zq (pv 2) (pv 3) (fun _ _=>rfl)) zc))))
    (zd (C0 hu (pv 0) (pv 3) (zg Gm hr1 rfl mm Fm.kp bm .nil af (za (zw zL (zw zL (pv 5) ze (fun _ _=>rfl)) ze (fun _ _=>rfl)) (za (pv 4) (za (zw zL (zw zL (pv 5) ze (fun _ _=>rfl)) ze (fun _ _=>rfl)) (za (pv 2) zc))))) rfl)
    (zd (zp (i:=2) i6.nd rfl (Or.inl rfl) (zg Gr hr rfl mr Fr.kp br .nil af (za (zg Gm hr1 rfl mm Fm.kp bm .nil af (za (zw zL (zw zL (pv 5) ze (fun _ _=>rfl)) ze (fun _ _=>rfl)) (za (pv 4) (za (zw zL (zw zL (pv 5) ze (fun _ _=>rfl)) ze (fun _ _=>rfl)) (za (pv 2) zc))))) (za (pv 0) (za (zv (rV rfl) rfl bs sA (za (pv 0) zc)) zc)))))
    (zh (zp (i:=3) i6.nd rfl (Or.inl rfl) (zg Gf hr1 rfl mf Ff.kp bf .nil af (za (pv 2) zc)))))))))
   (zd (C0 hu (pv 0) (pv 3) (wl (zA jI (zw zq (pv 2) (pv 3) (fun _ _=>rfl)) ze (ao _)) (pv 2)
    (zr ["found","row","left","place","top","pair","places","k"] ["number"] [none] (zG (pv 2)) (fun cl C s₀ H₀ ex=>zl (i:=0) (ba ["number"]) rfl (Or.inl rfl)) (fun cl C s₀ H₀ ex=>zu) (fun cl C s₀ H₀ ex=>jC jF (pv 0)) (te:=EN (rU fun i=>.int (-i)) (ap 0)) (hfr:=bE δ))) rfl)
   (zd (zp (i:=6) i6.nd rfl (Or.inl rfl) (zv (rV rfl) rfl bs sA (za (pv 0) zc)))
   (zh (iD PassesOwn.never rfl (G2 rfl bg (za (zD eX (zv zn rfl bn G4 (za (pv 6) zc)) ze) (za (jC jF ze) (za (jC jF ze) zc)))) (zl (i:=7) i6.nd rfl (Or.inl rfl))
    (zh (C0 hu (pv 0) (zw zq (pv 6) (pv 7) (fun _ _=>rfl)) (zg Gr hr rfl mr Fr.kp br .nil af (za (kI hu (pv 0) (zw zq (pv 6) (pv 7) (fun _ _=>rfl)) (fun _ _=>rfl)) (za (pv 0) (za (xl xn (pv 6) (xk (zD dW (pv 7) ze)) xa) zc)))) rfl)))))))),?_⟩
  have z64:es.length<64:=by have:=hP.len;have:=FS.len;have:=L.few;(first|lia|omega)
  have T0:=FS.take L.hB hlt hM;have d_:(R++[vc rn]).length<=N:=by rw[AK];exact hlt
  have pv:∀{x:Nat},x<=B->x<2 ^ 9000:=fun h=>Au h L.piv;have pJ:j8 fR W rn PP:=DW L.hR d_ (fun p hp=>(T0.rep L.hB).1 p hp) FS.ech.pos (fun p hp=>pv (FS.piv p hp)) hW hn (fun i=>FS.mid L.hB hlt hM i) L.lim;refine⟨_,rfl,_,rfl,_,rfl,a,ea es,rfl,hF.at_,(by simpa using z64),fun PL ms pm so dN=>?_⟩;rw[hP.ints pm so];have sP:=Same.new (o:=.lst (PP.map fun p:Nat=>V.int (p:Int))) dN;refine⟨r,a,PL,rn,es,fR,PP,W,rfl,sP _ _ h1,hF.same sP,zb,fun p hp=>hP.pm.mem_iff.mp hp,pJ,fun d H1 s1 hd=>?_⟩;have e0:vc (au fR rn PP)=Tb.aX (vF fR) PP (vc rn):=oj hn fun p hp=>(hW.row p hp).2;rw[<-e0] at T0;have l0:(au fR rn PP).length=W:=nM hn fun p hp=>(hW.row p hp).2;obtain⟨q,q1,q2,q3,q4,q5⟩:=Gj (T0.nz L.bd.ind L.hR);refine⟨_,rfl,d,au fR rn PP,q,rfl,hd,q2,q3,?_⟩;have B0:Bt a d q W N M X B (R++[vc rn]) PP H H1 (au fR rn PP) es fR 0:=⟨.of (sP.trans s1),hF.same (sP.trans s1),hP,hW,hd,l0,T0,Aw _,ω,q4,q5⟩;refine⟨fun n σ H3=>∃(d:Addr)(q:Nat)(I:List Int)(es:List (Nat×Addr))(fr:Nat->List Int)(t:Nat)(v4 v5:Option V),n=W-q/\σ=[some (.ref a),some (.ref r),some (.ref d),some (.int q),v4,v5,none,none]/\Bt a d q W N M X B (R++[vc rn]) PP H H3 I es fr t,
   ⟨_,d,q,_,es,fR,0,none,none,rfl,rfl,B0⟩,?_⟩
  clear B0 q5 q4 q3 q2 q1 l0 e0 hd s1 sP dN so pm pJ T0;clear d q H1 PL ms;rintro n σ H3 ⟨d,q,I,es,fr,t,v4,v5,rfl,rfl,T⟩
  by_cases hq:q∈PP
  ·obtain⟨c,hc,gc,aH⟩:=T.fnd.get (T.pls.pm.mem_iff.mp hq)
   refine⟨_,rfl,_,rfl,a,_,rfl,gc,_,rfl,?_⟩;have rW:=T.wid.row q hq;have rz:=T.len;have mW:=T.wid.most;have x0:0<vF fr q q:=T.ts.ech.pos q hq;obtain⟨x5,y1⟩:=T.ts.red q hq;have y0:0<vc I q:=by have:=T.nz;(first|lia|omega)
   have xb:(vF fr q q).natAbs<2 ^ 9000:=pv (T.ts.piv q hq);have yb:(vc I q).natAbs<2 ^ 9000:=Au ω xb;have z64:es.length<64:=by have:=T.pls.len;have:=FS.len;have:=L.few;(first|lia|omega)
   have hqe:q∈es.map (·.1):=T.pls.pm.mem_iff.mp hq;refine aW ⟨fun ae H'=>∃n',n'<W-q/\∃(d:Addr)(q:Nat)(I:List Int)(es:List (Nat×Addr))(fr:Nat->List Int)(t:Nat)(v4 v5:Option V),n'=W-q/\ae=[some (.ref a),some (.ref r),some (.ref d),some (.int q),v4,v5,none,none]/\Bt a d q W N M X B (R++[vc rn]) PP H H' I es fr t,fun ae H' h=>h,?_⟩;refine⟨_,rfl,_,rfl,a,_,rfl,gc,?_⟩;refine⟨_,rfl,_,rfl,c,_,_,_,rfl,rfl,SqL.of aH,zj (fD ω),_,rfl,_,rfl,d,_,_,_,rfl,rfl,SqL.of T.at_,zj (fD ω),vF fr q q,vc I q,rfl,x0,y0,xb,yb,fun r0 p1 p2 H4 g a1 b1 c1 d1 s4 i5 oq eL G=>?_⟩;have Mi:=T.ts.mid L.hB hq T.low T.nz T.tq G;obtain⟨T2,_⟩:=T.ts.next L.hB hq T.low T.nz T.tq G;have rp:=T.ts.rep L.hB;have ent:∀{l:List Int},Tb.Rep (R++[vc rn]) (Tb.cE N M X B) (vc l)->∀x∈l,x.natAbs<big:=fun h x hx=>by
    obtain⟨u,_,rfl⟩:=Bv hx;exact Au (Ae (h.le (u:=u) fun r hr=>L.hR r hr u) (Am _ d_)) L.lim
   have Z:∀{k:Int},k.natAbs<=B->∀{x:Int},x.natAbs<big->eR k x:=by
    intro k hk x hx;exact⟨9000,bt,pv hk,hx,by have:=lj;(first|lia|omega)⟩
   have er:=ent (rp.1 q hq);have el:=ent rp.2;refine⟨_,rfl,r0,_,_,_,rfl,rfl,SqT.of i5,zj (j:=0) rfl,p1,_,_,_,rfl,rfl,SqT.of oq,zj (j:=1) rfl,_,rfl,_,rfl,r0,_,_,_,rfl,rfl,SqT.of i5,zj (j:=0) rfl,p1,_,_,_,rfl,rfl,SqT.of oq,zj (j:=2) rfl,_,rfl,c,d,_,_,_,_,rfl,s4 _ _ aH,s4 _ _ T.at_,ω,fun x hx=>Z Mi.a1 (er x hx),fun x hx=>Z Mi.b1 (el x hx),fun e H5 s5 yG he=>?_⟩;have F5:=T.fnd.same (s4.trans s5);obtain⟨H6,dp,F6,o6⟩:=F5.put (H2:=H5) (p:=q) he ω;refine⟨_,rfl,_,rfl,a,H6,rfl,dp,?_⟩;have oM:=(T.fnd.same s4).at_;have keep:∀b o,b≠a->H4 b=some o->H6 b=some o:=fun b o hb e=>by rw[o6 b hb];exact s5 _ _ e
   have nr0:r0≠a:=fun z=>by rw[z,oM] at i5;cases i5
   have np2:p2≠a:=fun z=>by have h:=eL;unfold Tr at h;rw[z,oM] at h;cases h
   have nc:c≠a:=DX T.fnd aH;have nd:d≠a:=DX T.fnd T.at_;have jo:=keep _ _ nr0 i5;have pj:=keep _ _ np2 eL;refine⟨_,rfl,r0,_,_,_,rfl,rfl,SqT.of jo,zj (j:=1) rfl,p2,_,_,_,rfl,rfl,SqT.of pj,zj (j:=1) rfl,_,rfl,_,rfl,r0,_,_,_,rfl,rfl,SqT.of jo,zj (j:=1) rfl,p2,_,_,_,rfl,rfl,SqT.of pj,zj (j:=2) rfl,_,rfl,c,d,_,_,_,_,rfl,keep _ _ nc (s4 _ _ aH),keep _ _ nd (s4 _ _ T.at_),ω,fun x hx=>Z Mi.c1 (er x hx),fun x hx=>Z Mi.d1 (el x hx),fun m H7 s7 gK hm=>?_⟩;have eB:Pls (cb es q e) PP:=⟨by rw[Bx,if_pos hqe];exact T.pls.pm,T.pls.so⟩;have my:(cb es q e).length<64:=by have:=eB.len;have:=T.pls.len;(first|lia|omega)
   refine⟨_,rfl,_,rfl,a,ea (cb es q e),rfl,(F6.same s7).at_,(by simpa using my),fun PL ms pm so dN=>?_⟩;rw[eB.ints pm so];have sP:=Same.new (o:=.lst (PP.map fun p:Nat=>V.int (p:Int))) dN;have W2:Wid W PP (bK fr q (bA a1 (fr q) b1 I)):=T.wid.put (by unfold bA;rw[Az];(first|lia|omega));have lm:(bA c1 (fr q) d1 I).length=W:=by unfold bA;rw[Az];(first|lia|omega)
   have ef:vF (bK fr q (bA a1 (fr q) b1 I))=Tb.put (vF fr) q (Tb.mix a1 (vF fr q) b1 (vc I)):=by rw[Dz,Gg ω];rfl
   have em:vc (bA c1 (fr q) d1 I)=Tb.mix c1 (vF fr q) d1 (vc I):=by rw[Gg ω];rfl
   rw[<-ef,<-em] at Mi T2;have uO:j8 (bK fr q (bA a1 (fr q) b1 I)) W (bA c1 (fr q) d1 I) PP:=DW L.hR d_ Mi.fr Mi.ech.pos (fun p hp=>pv (Mi.piv p hp)) W2 lm Mi.met L.lim;refine⟨m,a,PL,_,cb es q e,bK fr q (bA a1 (fr q) b1 I),PP,W,rfl,sP _ _ hm,(F6.same s7).same sP,zb,fun p hp=>eB.pm.mem_iff.mp hp,uO,fun d2 H9 s9 eD=>?_⟩;rw[<-oj (W:=W) lm fun p hp=>(W2.row p hp).2] at T2;obtain⟨q',q1,q2,q3,q4,q5⟩:=Gj (T2.nz L.bd.ind L.hR);have l9:(au (bK fr q (bA a1 (fr q) b1 I)) (bA c1 (fr q) d1 I) PP).length=W:=nM lm fun p hp=>(W2.row p hp).2;have qq:q+1<=q':=Nat.le_of_not_lt fun h=>q5 (T2.low q' h);refine⟨_,rfl,d2,_,q',rfl,eD,q2,q3,?_⟩;refine⟨W-q',ω,d2,q',_,cb es q e,bK fr q (bA a1 (fr q) b1 I),q+1,_,_,rfl,rfl,⟨?_,((F6.same s7).same sP).same s9,eB,W2,eD,l9,T2,qq,ω,q4,q5⟩⟩;exact T.fra.trans ((Fra.of s4).trans ((show Fra a H4 H6 from keep).trans (.of ((s7.trans sP).trans s9))))
  ·refine⟨_,rfl,_,rfl,a,_,rfl,T.fnd.no (fun h=>hq (T.pls.pm.mem_iff.mpr h)),_,rfl,?_⟩
   have rz:=T.len;have mW:=T.wid.most;refine aQ ⟨_,rfl,_,rfl,d,_,_,_,rfl,rfl,SqL.of T.at_,zj (fD (by have:=T.qW;(first|lia|omega))),_,_,rfl,rfl,_,rfl,?_⟩;apply share (S:=fun u H4=>Same H3 H4/\H4 u=some (.lst ((gS I q).map V.int)))
   ·intro fin hc
    refine⟨_,rfl,d,rfl,⟨_,SqL.of T.at_⟩,fun D hD=>zt (jS (xs:=I.map V.int) (fun j σ ys H4=>∃v,σ=[v]/\Same H3 H4/\H4 D=some (.lst ys)/\ys=((I.take j).map fun x=>-x).map V.int) ⟨none,rfl,Same.new hD,zb,rfl⟩ ?_ ?_ ?_)⟩
    ·rintro j σ ys H4 ⟨v,rfl,sm,_⟩
     exact SqL.of (sm _ _ T.at_)
    ·rintro j σ ys H4 x hx hj hy ⟨v,rfl,sm,bG,rfl⟩
     obtain⟨y,gy,rfl⟩:=fY hx;refine cA ⟨_,rfl,_,rfl,bI (by rw[Aa];exact zx ω) hj hy bG ⟨_,rfl,sm.then hD,zb,?_⟩⟩;rw[take_snoc gy,Ap,Ap];rfl
    ·rintro σ ys H4 ⟨v,rfl,sm,bG,rfl⟩
     refine fin D H4 ⟨sm,?_⟩;rw[bG,Aa,Ar (Ad _)];unfold gS;rw[if_neg fun h=>hc (decide_eq_true h)]
   ·intro fin hc
    refine⟨_,rfl,fin d H3 ⟨Same.refl _,?_⟩⟩;unfold gS;rw[if_pos (of_decide_eq_true hc)];exact T.at_
   ·rintro u H4 ⟨s4,kM⟩
    have S0:=T.ts.full L.hB hq T.low T.nz;have hqe:q∉es.map (·.1):=fun h=>hq (T.pls.pm.mem_iff.mpr h);have F4:=T.fnd.same s4;have y9:=T.pls.len;have zP:=FS.len;have zN:=L.few;obtain⟨H5,dp,F5,o5⟩:=F4.put (H2:=H4) (p:=q) kM ω;refine⟨_,rfl,_,rfl,a,H5,rfl,dp,?_⟩;have lu:(gS I q).length=W:=by rw[LB];exact T.len
    have ef:vF (bK fr q (gS I q))=Tb.put (vF fr) q (Tb.up (vc I) q):=by rw[Dz,LA]
    rw[<-ef] at S0;have du:Pls (cb es q u) (Tb.ins q PP):=⟨by rw[Bx,if_neg hqe];exact G6.trans (T.pls.pm.append_right [q]),S0.srt.imp fun h=>Nat.le_of_lt h⟩;have gi:Wid W (Tb.ins q PP) (bK fr q (gS I q)):=by
     refine⟨mW,fun p hp=>?_⟩;unfold bK;rcases Tb.mem_ins.mp hp with rfl|h
     ·rw[if_pos rfl];exact⟨T.qW,lu⟩
     ·have:p≠q:=fun z=>hq (z▸h)
      rw[if_neg this];exact T.wid.row p h
    have fra5:Fra a H H5:=T.fra.trans ((Fra.of s4).trans fun b o hb e=>by rw[o5 b hb];exact e);have lQ:(Tb.ins q PP).length=PP.length+1:=Tb.n_;clear o5 dp F4 kM s4 ef;generalize bK fr q (gS I q)=f0 at S0 F5 gi;generalize cb es q u=es0 at F5 du;generalize Tb.ins q PP=QQ at S0 du gi lQ;refine⟨_,rfl,a,ea es0,rfl,F5.at_,(by have:=du.len;simp;(first|lia|omega)),fun PL ms pm so dN=>?_⟩;rw[du.ints pm so];have sP:=Same.new (o:=.lst (QQ.map fun p:Nat=>V.int (p:Int))) dN;refine⟨_,rfl,PL,_,rfl,.inl (SqL.of zb),_,_,rfl,rfl,_,rfl,_,rfl,_,_,rfl,⟨by rw[Aa];(first|lia|omega),by rw[Aa];(first|lia|omega),ω,ω⟩,?_⟩;have ig:(((QQ.map fun p:Nat=>V.int (p:Int)).length:Nat):Int)=(QQ.length:Int):=by rw[Aa]
    refine G3 (fun i σ H6=>∃(es:List (Nat×Addr))(fr:Nat->List Int)(v7:Option V),σ=[some (.ref a),some (.ref r),some (.ref d),some (.int q),v4,v5,some (.ref PL),v7]/\Fra a H H6/\Fnd H6 a es fr/\Pls es QQ/\Wid W QQ fr/\H6 PL=some (.lst (QQ.map fun p:Nat=>V.int (p:Int)))/\vF fr=Tb.aZ (vF f0) (QQ.drop (QQ.length-i)))
     ⟨es0,f0,none,rfl,fra5.trans (.of sP),F5.same sP,du,gi,zb,by rw[Nat.sub_zero,List.drop_length];rfl⟩ ?_ ?_
    ·rintro i σ H6 hi ⟨jQ,f6,v7,rfl,gj,F6,cp,bZ,c7,hv⟩
     have hiQ:i<QQ.length:=ω
     obtain⟨O,jX⟩:∃O,O=QQ.length-1-i:=⟨_,rfl⟩;have jf:O<QQ.length:=ω
     rw[show(((QQ.map fun p:Nat=>V.int (p:Int)).length:Nat):Int)-1-((i:Nat):Int)=((O:Nat):Int) by rw[ig];(first|lia|omega)];have gk:(QQ.map fun p:Nat=>V.int (p:Int))[O]?=some (V.int ((QQ[O]:Nat):Int)):=by rw[Aj,Ac jf];rfl
     have eQ:QQ=QQ.take O++QQ[O]::QQ.drop (O+1):=by rw[<-List.drop_eq_getElem_cons jf,List.take_append_drop]
     have ed:QQ.drop (QQ.length-i)=QQ.drop (O+1):=by rw[show QQ.length-i=O+1 from ω]
     have ed2:QQ.drop (QQ.length-(i+1))=QQ[O]::QQ.drop (O+1):=by rw[show QQ.length-(i+1)=O from ω];exact List.drop_eq_getElem_cons jf
     rw[ed] at hv;rw[ed2];have gA:QQ[O]∈QQ:=Ay jf;have sub:∀p∈QQ.drop (O+1),p∈QQ:=fun p hp=>List.mem_of_mem_drop hp;generalize i7:QQ.drop (O+1)=ps at eQ hv ed ed2 sub ⊢;generalize QQ[O]=p at gk eQ ed2 gA ⊢;have uK:p∉ps:=fun h=>by
      have s:=S0.srt;rw[eQ,List.pairwise_append] at s;exact Nat.lt_irrefl p ((List.pairwise_cons.mp s.2.1).1 p h)
     obtain⟨e1,bd,rp⟩:=S0.tail L.hB L.bd (pre:=QQ.take O++[p]) (ps:=ps) (by rw[List.append_assoc];exact eQ);have cc:Tb.cC N X B<=Tb.cE N M X B:=Ae (by unfold Tb.cK;(first|lia|omega)) (Ae (Tb.DU L.hB) Tb.ox);have p9:vc (f6 p)=vF f0 p:=by
      have:vF f6 p=vF f0 p:=by rw[hv,Tb.F_ uK]
      exact this
     have ok6:j8 f6 W (f6 p) ps:=by
      refine DW (CE:=Tb.cE N M X B) L.hR d_ (fun U J=>?_) (fun U J=>?_) (fun U J=>?_) (bZ.sub sub) (bZ.row p gA).2 (fun j=>?_) L.lim
      ·rw[hv];exact(rp U J).mono cc
      ·rw[hv];exact e1.pos U J
      ·rw[hv];exact pv (bd U J U (sub U J))
      ·rw[hv,p9];exact S0.met L.hB L.bd eQ j
     obtain⟨c,hc,gc,aH⟩:=F6.get (cp.pm.mem_iff.mp gA);refine⟨_,rfl,_,rfl,_,rfl,PL,_,_,_,rfl,rfl,SqL.of c7,zj gk,a,_,rfl,gc,_,rfl,_,rfl,_,rfl,_,_,rfl,rfl,_,rfl,PL,_,rfl,SqL.of c7,fun SL sN=>?_⟩;rw[show((O:Nat):Int)+1=((O+1:Nat):Int) from ω,lJ,<-List.map_drop,i7];have sS:=Same.new (o:=.lst (ps.map fun p:Nat=>V.int (p:Int))) sN;refine⟨c,a,SL,f6 p,jQ,f6,ps,W,rfl,sS _ _ aH,F6.same sS,zb,fun U J=>cp.pm.mem_iff.mp (sub U J),ok6,fun D H8 s8 l8=>?_⟩;have z6:=cp.len;obtain⟨H9,dp,F9,o9⟩:=((F6.same sS).same s8).put (H2:=H8) (p:=p) l8 ω;have uR:PL≠a:=DX F6 c7;refine⟨_,rfl,_,rfl,_,rfl,PL,_,_,_,rfl,rfl,SqL.of ((sS.trans s8) _ _ c7),zj gk,a,H9,rfl,dp,cb jQ p D,bK f6 p (au f6 (f6 p) ps),_,rfl,?_,F9,⟨?_,cp.so⟩,?_,?_,?_⟩
     ·exact gj.trans ((Fra.of (sS.trans s8)).trans fun b o hb e=>by rw[o9 b hb];exact e)
     ·rw[Bx,if_pos (cp.pm.mem_iff.mp gA)];exact cp.pm
     ·exact bZ.put (nM (bZ.row p gA).2 fun U J=>(bZ.row U (sub U J)).2)
     ·rw[o9 PL uR];exact(sS.trans s8) _ _ c7
     ·rw[Dz,oj (bZ.row p gA).2 (fun U J=>(bZ.row U (sub U J)).2),hv,p9];rfl
    ·rintro σ H6 ⟨jQ,f6,v7,rfl,gj,F6,cp,bZ,c7,hv⟩
     rw[show QQ.length-((((QQ.map fun p:Nat=>V.int (p:Int)).length:Nat):Int)-1 - -1).toNat=0 by rw[ig];(first|lia|omega),List.drop_zero] at hv;refine k H6 jQ f6 QQ gj F6 cp bZ ?_;rw[hv];exact S0.done L.hB L.bd
end
abbrev i8:Stmt:=top 29
section
variable{P:Program}{w:World}{K:Ah}{mg:Str->Option Value}{base:Heap}
structure G8(N M X B Y W:Nat)(tb:Ξ):Prop where
 most:W<=1000
 few:tb.length<=N
 len:∀r∈tb,r.length=W
 lim:∀i,i<tb.length->G5 N M X B Y ((tb.take (i+1)).map vc)
 row:∀i r,tb[i]?=some r->∀Q f,Tb.FS N M X B ((tb.take i).map vc) Q f->∀p∈Q,(vc r p).natAbs<=M
def G9:Sp:=fun vs H Q _=>∃(L:Addr)(rs:List Addr)(tb:Ξ)(N M X B Y W:Nat),vs=[.ref L]/\H L=some (.lst (rs.map V.ref))/\Rws H rs tb/\G8 N M X B Y W tb/\
 ∀a H' es fr P,Same H H'->H a=none->Fnd H' a es fr->Pls es P->Wid W P fr->Tb.FS N M X B (tb.map vc) P (vF fr)->Q (.ref a) H'
def DY:zo ["rows","found","row"] ["rows"] (zf i8):=⟨rfl,rfl,rfl,δ,rfl,δ,δ⟩
def Fra.same{a:Addr}{H H1 H2:Hp}{o:HO}(h:Fra a H1 H2)(e:H1=upd H a o)(c:H a=none):Same H H2:=fun b v hb=>by
 have n:b≠a:=fun z=>by rw[z,c] at hb;cases hb
 exact h b v n (by rw[e,ag n];exact hb)
def LD{f q:Addr}{fd r:FuncData}(F:Fun K "echelon_of" "echelon_of" i8 f fd)(Ft:Fun K "take_in" "take_in" BH q r)(bt:Binds K r ["found","row"] [])(mt:mg "take_in"=some (.ref q))(Gt:am P w K mg base ar 3 q r ["found","row"] G7):am P w K mg base ar 4 f fd ["rows"] G9:=by
 refine F.ok DY (fun vs H Q E h=>?_) (fun ai A outer s H vs Q E hr h=>?_)
 ·obtain⟨L,rs,tb,N,M,X,B,Y,W,rfl,_⟩:=h;rfl
 ·obtain⟨L,rs,tb,N,M,X,B,Y,W,rfl,v,y,ok,k⟩:=h
  refine⟨_,zd (zp (i:=1) DY.nd rfl (Or.inl rfl) JV)
   (zd (iD PassesOwn.never rfl (zG (pv 0)) (zl (i:=2) DY.nd rfl (Or.inl rfl))
    (zh (kw (zg Gt hr rfl mt Ft.kp bt .nil af (za (pv 1) (za (pv 2) zc))))))
   (zh (zB (pv 1)))),?_⟩
  refine fun a d=>⟨_,rfl,L,rfl,⟨_,SqL.of (Same.new d _ _ v)⟩,pK (K:=K) (a:=L) (xs:=rs.map V.ref) (fun i σ H2=>∃(j:Option V)(es:List (Nat×Addr))(fr:Nat->List Int)(c:List Nat),σ=[some (.ref L),some (.ref a),j]/\Fra a (upd H a (.dK [])) H2/\Fnd H2 a es fr/\Pls es c/\Wid W c fr/\Tb.FS N M X B ((tb.take i).map vc) c (vF fr))
   ⟨none,[],fun _=>[],[],rfl,fun _ _ _ e=>e,⟨zb,List.nodup_nil,fun e C=>nomatch C⟩,⟨.refl _,.nil⟩,⟨ok.most,fun p hp=>nomatch hp⟩,Tb.FS.start⟩ (fun i σ H2 _ ⟨_,_,_,_,_,b,_⟩=>SqL.of ((b.same rfl d) _ _ v)) ?_ ?_⟩
  ·rintro i x σ H2 hx ⟨j,es,fr,c,rfl,b,u,pls,l,FS⟩
   obtain⟨o,T,rfl⟩:=jT hx;obtain⟨rn,g,U⟩:=y.get T;have hi:i<tb.length:=(List.getElem?_eq_some_iff.mp g).1;have z:=ok.lim i hi;rw[take_snoc g,Ap] at z;have Z:=ok.few;refine⟨_,rfl,_,rfl,a,o,rn,es,fr,c,N,M,X,B,Y,W,_,rfl,(b.same rfl d) _ _ U,u,pls,l,ok.len rn (Al g),FS,by rw[Aa,List.length_take];(first|lia|omega),ok.row i rn g c (vF fr) FS,z,fun H3 D G P3 I F3 J O S=>?_⟩;refine⟨_,D,G,P3,rfl,b.trans I,F3,J,O,?_⟩;rw[take_snoc g,Ap];exact S
  ·rintro σ H2 ⟨j,es,fr,c,rfl,b,u,pls,l,FS⟩
   have bJ:=y.len;rw[Aa,bJ,Ar (Ad _)] at FS;exact⟨_,rfl,k a H2 es fr c (b.same rfl d) d u pls l FS⟩
end
end K28
end
section
namespace L2
open PySem PySem.Spec PyProof.Rows
def LF{K:Ah}{c d:Addr}{xs ys:List V}{g:TG}{tb:TS}{D:Ends}{σ:St}{H:Hp}(a:Nat->St->Hp->Prop)(v:a 0 σ H)(w:∀i σ H,a i σ H->SqL K H c xs/\SqL K H d ys)(z:∀i x y p σ H,xs[i]?=some x->ys[i]?=some y->H p=none->a i σ H->g (.ref p) σ (upd H p (.tup [x,y])) fun f H2=>tb {D with nx:=a (i+1),ct:=a (i+1),bk:=D.nx} f H2)(hd:∀σ H,a (min xs.length ys.length) σ H->D.nx σ H):∃W:Nat->Nat->St->Hp->Prop,(∃m,W 0 m σ H)/\∀i m σ H,W i m σ H->
   ((dz K c d).stop i H/\D.nx σ H)\/((dz K c d).go i H/\∃N:St->Hp->Prop,(∀h H',N h H'->∃o,o<m/\W (i+1) o h H')/\∀x H',(dz K c d).yld i H x H'->g x σ H' fun f H2=>tb {D with nx:=N,ct:=N,bk:=D.nx} f H2):=by
 refine⟨fun i m σ H=>m=min xs.length ys.length-i/\i<=min xs.length ys.length/\a i σ H,⟨_,rfl,Aw _,v⟩,?_⟩;rintro i m σ H ⟨rfl,hi,p⟩;obtain⟨j,l⟩:=w i σ H p
 by_cases b:i<min xs.length ys.length
 ·refine .inr ⟨⟨xs,ys,j,l,b⟩,a (i+1),fun h H' q=>⟨_,ω,rfl,b,q⟩,fun x H' y=>?_⟩
  obtain⟨pp,x,r,rfl,hp,rfl,s,u⟩:=y;exact z i x r pp σ H (s xs j) (u ys l) hp p
 ·have e:i=min xs.length ys.length:=ω
  subst e;exact .inl ⟨⟨xs,ys,j,l,rfl⟩,hd σ H p⟩
end L2
namespace K28
open PySem L2
abbrev i9:Stmt:=top 36
def ce(l:List Int)(x:Int×List Int):List Int:=c4 l (-x.1) x.2
def fE(w:Nat)(ns:List Int)(tb:Ξ):List Int:=(ns.zip tb).foldl ce (An w 0)
def G_{l:List Int}{x:Int×List Int}{w:Nat}(h:l.length=w)(h2:x.2.length=w):(ce l x).length=w:=by unfold ce c4;rw[Az];(first|lia|omega)
def LG{l row:List Int}(h:l.length=row.length):ce l (0,row)=l:=Dv h
def DZ{w:Nat}:∀{zs:List (Int×List Int)}{l:List Int},l.length=w->(∀z∈zs,z.2.length=w)->(zs.foldl ce l).length=w
 |[],_,h,_=>h
 |z::zs,l,h,h2=>DZ (zs:=zs) (G_ h (h2 z (AC ..))) fun y hy=>h2 y (AG _ hy)
section
variable{P:Program}{w:World}{K:Ah}{mg:Str->Option Value}{base:Heap}
def D0:Sp:=fun vs H Q _=>∃(a L:Addr)(ns:List Int)(rs:List Addr)(tb:Ξ),vs=[.ref a,.ref L]/\H a=some (.lst (ns.map V.int))/\H L=some (.lst (rs.map V.ref))/\Rws H rs tb/\wid tb<=1000/\(∀r∈tb,r.length=wid tb)/\
 (∀z∈ns.zip tb,∀x∈z.2,eR (-z.1) x)/\nF H Q (fE (wid tb) ns tb)
def tH:zo ["numbers","rows","told","often","row"] ["numbers","rows"] (zf i9):=⟨rfl,rfl,rfl,δ,rfl,δ,δ⟩
def LJ{f v C:Addr}{fd G I:FuncData}(F:Fun K "mix_of" "mix_of" i9 f fd)(bz:mg "zip"=none)(Fw:Fun K "width_of" "width_of" kT v G)(bw:Binds K G ["table"] [])(mw:mg "width_of"=some (.ref v))(Gw:am P w K mg base ar 1 v G ["table"] (nv K))(Fl:Fun K "less" "less" jW C I)(bl:Binds K I ["row","often","other"] [])(ml:mg "less"=some (.ref C))(Gl:am P w K mg base ar 1 C I ["row","often","other"] rq):am P w K mg base ar 2 f fd ["numbers","rows"] D0:=by
 refine F.ok tH (fun vs H Q E h=>?_) (fun ai A outer s H vs Q E hr h=>?_)
 ·obtain⟨a,L,ns,rs,tb,rfl,_⟩:=h;rfl
 ·obtain⟨a,L,ns,rs,tb,rfl,M,c,g,hw,N,hm,k⟩:=h
  refine⟨_,zd (zp (i:=2) tH.nd rfl (Or.inl rfl) (zD CU (ek (za ze zc)) (zg Gw hr rfl mw Fw.kp bw .nil af (za (pv 1) zc))))
   (zd (iD PassesOwn.never rfl (nE rfl bz k5 (za (pv 0) (za (pv 1) zc))) (hJ rfl (zK (zl (i:=3) tH.nd rfl (Or.inl rfl)) (zK (zl (i:=4) tH.nd rfl (Or.inl rfl)) hH)))
    (zh (c3 (zA iJ (pv 3) ze (ao _))
     (zh (zp (i:=2) tH.nd rfl (Or.inl rfl) (zg Gl hr rfl ml Fl.kp bl .nil af (za (pv 2) (za (jC jF (pv 3)) (za (pv 4) zc)))))) zT)))
   (zh (zB (pv 2)))),?_⟩
  refine⟨ξ,fun Z U=>?_⟩;have b:=Same.new (o:=.lst [.int 0]) U;refine⟨_,rfl,L,rs,tb,rfl,SqL.of (b _ _ c),g.same b,Z,_,_,rfl,rfl,zb,ω,ω,(by rw[sizeLine_eq];simp;(first|lia|omega)),fun T J=>?_⟩;have sT:=Same.new (o:=.lst (An ((wid tb:Nat):Int).toNat [V.int 0]).flatten) J;have r:=b.trans sT;have eG:H T=none:=b.free J;have eT:(An ((wid tb:Nat):Int).toNat [V.int 0]).flatten=(An (wid tb) (0:Int)).map V.int:=by
   rw[Bj,List.map_replicate];generalize wid tb=n
   induction n with
   |zero=>rfl
   |succ n ih=>rw[List.replicate_succ,List.flatten_cons,ih,List.replicate_succ];rfl
  have bJ:=g.len;refine⟨_,rfl,_,rfl,a,L,rfl,⟨_,SqL.of (r _ _ M)⟩,⟨_,SqL.of (r _ _ c)⟩,LF (K:=K) (xs:=ns.map V.int) (ys:=rs.map V.ref) (fun i σ H2=>∃(d:Addr)(j l:Option V),σ=[some (.ref a),some (.ref L),some (.ref d),j,l]/\Same H H2/\H d=none/\H2 d=some (.lst ((((ns.zip tb).take i).foldl ce (An (wid tb) 0)).map V.int)))
   ⟨T,none,none,rfl,r,eG,by rw[zb,eT];rfl⟩ (fun i σ H2 ⟨_,_,_,_,sm,_⟩=>⟨SqL.of (sm _ _ M),SqL.of (sm _ _ c)⟩) ?_ ?_⟩
  ·rintro i x y p σ H2 hx hy hp ⟨d,j,l,rfl,sm,q,hd⟩
   obtain⟨n,gn,rfl⟩:=fY hx;obtain⟨o,eo,rfl⟩:=jT hy;obtain⟨row,O,ho⟩:=g.get eo;have u:(ns.zip tb)[i]?=some (n,row):=by rw[List.getElem?_zip_eq_some];exact⟨gn,O⟩
   have S:∀z∈ns.zip tb,z.2.length=wid tb:=fun z hz=>N z.2 (List.of_mem_zip hz).2;have ll:(((ns.zip tb).take i).foldl ce (An (wid tb) 0)).length=wid tb:=DZ (by simp) fun z hz=>S z (List.mem_of_mem_take hz);have sp:=Same.new (o:=.tup [V.int n,V.ref o]) hp;have e2:((ns.zip tb).take (i+1)).foldl ce (An (wid tb) 0)=ce (((ns.zip tb).take i).foldl ce (An (wid tb) 0)) (n,row):=by rw[take_snoc u,List.foldl_append];rfl
   refine⟨p,_,rfl,SqT.of zb,rfl,_,_,rfl,_,_,rfl,rfl,_,rfl,rfl,_,rfl,?_⟩
   by_cases z:n=0
   ·rw[show(!decide (V.int n=V.int 0))=false by rw[z];rfl]
    refine aQ ⟨d,_,_,rfl,sm.trans sp,q,?_⟩;rw[e2,z,LG (by rw[ll];exact(S _ (Al u)).symm)];have h:=sp _ _ hd;rw[z] at h;exact h
   ·rw[show(!decide (V.int n=V.int 0))=true by rw[decide_eq_false (fun e=>z (by injection e))];rfl]
    refine aW ⟨_,rfl,_,rfl,_,rfl,_,rfl,d,o,_,row,-n,rfl,sp _ _ hd,sp _ _ (sm _ _ ho),by rw[N row (Al O)];exact hw,fun x hx=>hm _ (Al u) x hx,fun D H4 W X Y=>?_⟩;refine⟨D,_,_,rfl,(sm.trans sp).trans W,(sm.trans sp).free X,?_⟩;rw[e2];exact Y
  ·rintro σ H2 ⟨d,j,l,rfl,sm,q,hd⟩
   refine⟨_,rfl,k d H2 sm q ?_⟩;rw[hd,Ar (by rw[List.length_zip,Aa,Aa,bJ];exact Ad _)]
   rfl
end
end K28
end
section
namespace K28
open PySem L2
abbrev tI:Stmt:=top 18
def bL(ns:List Int)(k w:Nat):List Int:=if k<ns.length then(An w (0:Int)).set k (ns.getD k 0) else An w 0
def LK{w:Nat}:(An ((w:Nat):Int).toNat [V.int 0]).flatten=(An w (0:Int)).map V.int:=by
 rw[Bj,List.map_replicate]
 induction w with
 |zero=>rfl
 |succ n ih=>rw[List.replicate_succ,List.flatten_cons,ih,List.replicate_succ];rfl
section
variable{P:Program}{w:World}{K:Ah}{mg:Str->Option Value}{base:Heap}
def tK:Sp:=fun vs H Q _=>∃(a:Addr)(ns:List Int)(b c:Nat),vs=[.ref a,.int b,.int c]/\H a=some (.lst (ns.map V.int))/\c<=1000/\(b<ns.length->b<c)/\nF H Q (bL ns b c)
def G':zo ["numbers","k","width","row"] ["numbers","k","width"] (zf tI):=⟨rfl,rfl,rfl,δ,rfl,δ,δ⟩
def LN{f:Addr}{fd:FuncData}(F:Fun K "slope_row" "slope_row" tI f fd)(x:mg "len"=none):am P w K mg base ar 1 f fd ["numbers","k","width"] tK:=by
 refine F.ok G' (fun vs H Q E h=>?_) (fun y A outer s H vs Q E hr h=>?_)
 ·obtain⟨a,ns,b,j,rfl,_⟩:=h;rfl
 ·obtain⟨a,ns,b,j,rfl,l,hw,hk,k⟩:=h
  refine⟨_,zd (zp (i:=3) G'.nd rfl (Or.inl rfl) (zD CU (ek (za ze zc)) (pv 2)))
   (zd (c3 (zA CI (pv 1) (zv zn rfl x G4 (za (pv 0) zc)) (ao _))
    (zh (gg (zw zq (pv 0) (pv 1) (fun _ _=>rfl)) (fJ (pv 3) (pv 1) set_list))) zT)
   (zh (zB (pv 3)))),?_⟩
  refine⟨ξ,fun Z q=>?_⟩;have p:=Same.new (o:=.lst [.int 0]) q;refine⟨_,rfl,Z,_,_,rfl,rfl,zb,ω,ω,(by rw[sizeLine_eq];simp;(first|lia|omega)),fun T g=>?_⟩;rw[LK];have r:=Same.new (o:=.lst ((An j (0:Int)).map V.int)) g;have d:=p.trans r;have e:H T=none:=p.free g;refine⟨_,rfl,_,rfl,a,_,rfl,.inl (SqL.of (d _ _ l)),_,_,rfl,rfl,_,rfl,?_⟩;rw[Aa]
  by_cases c:b<ns.length
  ·rw[decide_eq_true (show((b:Nat):Int)<((ns.length:Nat):Int) from ω)]
   have u:=hk c;have v:(ns.map V.int)[b]?=some (V.int (ns.getD b 0)):=fD c;refine aW ⟨_,rfl,_,rfl,a,_,_,_,rfl,rfl,SqL.of (d _ _ l),zj v,_,rfl,_,rfl,T,_,_,b,rfl,rfl,zb,?_,?_⟩
   ·unfold fN
    rw[Aa,A7];simp[u]
   ·refine⟨_,rfl,k T _ (d.then e) e ?_⟩
    unfold bL;rw[if_pos c,zb,List.map_set]
  ·rw[decide_eq_false (show ¬((b:Nat):Int)<((ns.length:Nat):Int) from ω)]
   refine aQ ⟨_,rfl,k T _ d e ?_⟩;unfold bL;rw[if_neg c,zb]
end
end K28
end
section
namespace K28
open PySem L2
abbrev tM:Stmt:=top 17
abbrev BI:Stmt:=top 25
def slpT(ns:List Int)(n w:Nat):Ξ:=(Ag n).map fun k=>bL ns k w
section
variable{P:Program}{w:World}{K:Ah}{mg:Str->Option Value}{base:Heap}
def Hf:Sp:=fun vs H Q _=>∃(a:Addr)(ns:List Int)(n b:Nat),vs=[.ref a,.int n,.int b]/\H a=some (.lst (ns.map V.int))/\n<=1000/\b<=1000/\(∀k,k<n->k<ns.length->k<b)/\ri H Q (slpT ns n b)
def LO:zo ["numbers","size","width"] ["numbers","size","width"] (zf tM):=⟨rfl,rfl,rfl,δ,rfl,δ,δ⟩
def LP{f fs:Addr}{fd l:FuncData}(F:Fun K "on_slope" "on_slope" tM f fd)(I:mg "range"=none)(Fs:Fun K "slope_row" "slope_row" tI fs l)(bs:Binds K l ["numbers","k","width"] [])(ms:mg "slope_row"=some (.ref fs))(M:am P w K mg base ar 1 fs l ["numbers","k","width"] tK):am P w K mg base ar 2 f fd ["numbers","size","width"] Hf:=by
 refine F.ok LO (fun vs H Q E h=>?_) (fun N A outer s H vs Q E hr h=>?_)
 ·obtain⟨a,ns,n,e,rfl,_⟩:=h;rfl
 ·obtain⟨a,ns,n,e,rfl,G,q,hw,hk,k⟩:=h
  refine⟨_,zh (zB (zr ["numbers","size","width"] ["k","numbers","width"] [none,some 0,some 2] (iA rfl I (za (pv 1) zc)) (fun o C s₀ H₀ ex=>zl (i:=0) (ba ["k","numbers","width"]) rfl (Or.inl rfl)) (fun o C s₀ H₀ ex=>zu)
   (fun o C s₀ H₀ ex=>zg M hr rfl ms Fs.kp bs .nil af (za (pv 1) (za (pv 0) (za (pv 2) zc)))) (te:=hV tK [] E0 (cy (ap 1) (cy (ap 0) (cy (ap 2) ca)))) (hfr:=bB (zf tM) δ))),?_⟩
  refine⟨_,rfl,_,rfl,ω,ω,fun D p=>?_⟩;refine Di (n:=n) (g:=fun k=>bL ns k e) (fun j H' R r sm u=>⟨_,rfl,_,rfl,_,rfl,a,ns,j,e,rfl,sm _ _ G,hw,hk j r,fun d J v hd x=>u d J v hd x⟩) ω p fun L ds y b c z q=>k D L ds y p b c z q
def unT(n:Nat):Ξ:=slpT (An n 1) n n
def Hh:Sp:=fun vs H Q _=>∃n:Nat,vs=[.int n]/\n<=1000/\ri H Q (unT n)
def LQ:zo ["size"] ["size"] (zf BI):=⟨rfl,rfl,rfl,δ,rfl,δ,δ⟩
def LR{w:Nat}:(An ((w:Nat):Int).toNat [V.int 1]).flatten=(An w (1:Int)).map V.int:=by
 rw[Bj,List.map_replicate]
 induction w with
 |zero=>rfl
 |succ n ih=>rw[List.replicate_succ,List.flatten_cons,ih,List.replicate_succ];rfl
def LU{f fs:Addr}{fd c:FuncData}(F:Fun K "unit" "unit" BI f fd)(Fs:Fun K "on_slope" "on_slope" tM fs c)(bs:Binds K c ["numbers","size","width"] [])(ms:mg "on_slope"=some (.ref fs))(u:am P w K mg base ar 2 fs c ["numbers","size","width"] Hf):am P w K mg base ar 3 f fd ["size"] Hh:=by
 refine F.ok LQ (fun vs H Q E h=>?_) (fun v A outer s H vs Q E hr h=>?_)
 ·obtain⟨n,rfl,_⟩:=h;rfl
 ·obtain⟨n,rfl,e,k⟩:=h
  refine⟨_,zh (zB (zg u hr rfl ms Fs.kp bs .nil af (za (zD CU (ek (za ze zc)) (pv 0)) (za (pv 0) (za (pv 0) zc))))),?_⟩;refine⟨ξ,fun Z g=>?_⟩;have q:=Same.new (o:=.lst [.int 1]) g;refine⟨_,rfl,Z,_,_,rfl,rfl,zb,ω,ω,(by rw[sizeLine_eq];simp;(first|lia|omega)),fun T i=>?_⟩;rw[LR];have r:=Same.new (o:=.lst ((An n (1:Int)).map V.int)) i;have b:=q.trans r;refine⟨_,rfl,_,rfl,T,_,n,n,rfl,zb,e,e,fun k hk _=>hk,fun D H' ds sm j l hr p a=>?_⟩;exact k D H' ds (b.trans sm) (b.free j) l hr p fun d hd=>⟨b.free (a d hd).1,(a d hd).2⟩
end
end K28
end
section
namespace K28
open PySem L2
section
variable{P:Program}{w:World}{K:Ah}{mg:Str->Option Value}{base:Heap}
def LV{H2:Hp}{w L2 D:Addr}{rs ss:List Addr}{tb ub:Ξ}{Q:VK}{g:List Int->List Int->List Int}{te:TE}{c:List (Option V)}(I:∀(o u:Addr)(os us:List Int)(H:Hp)(R:VK),Same H2 H->H o=some (.lst (os.map V.int))->H u=some (.lst (us.map V.int))->os∈tb->us∈ub->(∀d H',Same H H'->H d=none->H' d=some (.lst ((g os us).map V.int))->R (.ref d) H')->te (some (.ref o)::some (.ref u)::c) H R)(h1:H2 w=some (.lst (rs.map V.ref)))(h2:H2 L2=some (.lst (ss.map V.ref)))(r:Rws H2 rs tb)(s:Rws H2 ss ub)(hz:ub.length<=1000)(v:H2 D=none)(k:∀a ds,Same H2 a->a D=some (.lst (ds.map V.ref))->Rws a ds (AD g tb ub)->ds.Nodup->(∀d∈ds,H2 d=none/\d≠D)->Q (.ref D) a):cz (dz K w L2) (ci K 2 (cv (zS 0) (cv (zS 1) cf))) bC te (none::none::c) H2 D Q:=by
 have F:=r.len;have G:=s.len;refine Do (K:=K) (xs:=rs.map V.ref) (ys:=ss.map V.ref) (fun i σ zs a=>∃(h j:Option V)(ds:List Addr),σ=h::j::c/\Same H2 a/\a D=some (.lst zs)/\zs=ds.map V.ref/\Rws a ds ((AD g tb ub).take i)/\ds.Nodup/\∀d∈ds,H2 d=none/\d≠D)
  ⟨none,none,[],rfl,Same.new v,zb,rfl,.nil,.nil,fun d hd=>nomatch hd⟩ (fun i σ zs a ⟨_,_,_,_,sm,_⟩=>⟨SqL.of (sm _ _ h1),SqL.of (sm _ _ h2)⟩) ?_ ?_
 ·rintro i σ zs a y J L e1 e2 hi z ⟨h,j,ds,rfl,e,b,rfl,hr,l,p⟩ q
  obtain⟨o,g1,rfl⟩:=jT e1;obtain⟨u,g2,rfl⟩:=jT e2;obtain⟨os,f1,A⟩:=r.get g1;obtain⟨us,f2,C⟩:=s.get g2;have sp:=Same.new (o:=.tup [V.ref o,V.ref u]) q;refine⟨y,_,rfl,SqT.of zb,rfl,_,_,rfl,_,_,rfl,rfl,fB ?_⟩;refine I o u os us _ _ (e.trans sp) (sp _ _ (e _ _ A)) (sp _ _ (e _ _ C)) (Al f1) (Al f2) fun d M f hd x=>?_;obtain⟨r1,r2,E⟩:=Dh (D:=D) (o:=.lst (ds.map V.ref++[.ref d])) (e.trans sp) (hr.same sp) l p f hd (by rw[sp _ _ b];simp) x;refine bI (Ae (Nat.min_le_right _ _) (by rw[Aa];exact zx ω)) hi z ((sp.trans f) _ _ b) ⟨_,_,ds++[d],rfl,((e.trans sp).trans f).then v,zb,by simp,?_,r2,E⟩;have e3:(AD g tb ub)[i]?=some (g os us):=by rw[List.getElem?_zipWith,f1,f2]
  rw[take_snoc e3];exact r1
 ·rintro σ zs a ⟨h,j,ds,rfl,e,b,rfl,hr,l,p⟩
  rw[Ar (by simp[F,G])] at hr;exact k a ds e b hr l p
end
end K28
end
section
namespace K28
open PySem L2
abbrev BJ:Stmt:=top 16
def eK(ns:List Int)(m:Int):Bool:=!decide (m<(ns.length:Int))&&(ns.all fun x=>decide (0<x))&&(AD (fun a b=>decide (b%a=0)) ns (ns.drop 1)).all id
section
variable{P:Program}{w:World}{K:Ah}{mg:Str->Option Value}{base:Heap}
def LW{H2:Hp}{L D:Addr}{ns:List Int}{Q:VK}{f:Int->Bool}{te:TE}{c:List (Option V)}(h:∀(x:Int)(H:Hp)(R:VK),x∈ns->R (.bl (f x)) H->te (some (.int x)::c) H R)(i:H2 L=some (.lst (ns.map V.int)))(hz:ns.length<=1000)(e:H2 D=none)(k:∀b,Same H2 b->b D=some (.lst ((ns.map f).map V.bl))->Q (.ref D) b):cz (eO K L) (zS 0) bC te (none::c) H2 D Q:=by
 refine jS (xs:=ns.map V.int) (fun j σ ys b=>∃(v:Option V),σ=v::c/\Same H2 b/\b D=some (.lst ys)/\ys=((ns.take j).map f).map V.bl) ⟨none,rfl,Same.new e,zb,rfl⟩ ?_ ?_ ?_
 ·rintro j σ ys b ⟨v,rfl,sm,a,rfl⟩
  exact SqL.of (sm _ _ i)
 ·rintro j σ ys b x hx g hy ⟨v,rfl,sm,a,rfl⟩
  obtain⟨y,d,rfl⟩:=fY hx;refine cA (h y b _ (Al d) (bI (by rw[Aa];exact zx ω) g hy a ⟨_,rfl,sm.then e,zb,?_⟩));rw[take_snoc d,Ap,Ap];rfl
 ·rintro σ ys b ⟨v,rfl,sm,a,rfl⟩
  rw[Aa,Ar (Ad _)] at a;exact k b sm a
def LX{H2:Hp}{r o D:Addr}{rn on:List Int}{f:Int->Int->Bool}{te:TE}{c:List (Option V)}{Q:VK}(v:∀(a b:Int)(H:Hp)(R:VK),a∈rn->b∈on->R (.bl (f a b)) H->te (some (.int a)::some (.int b)::c) H R)(h1:H2 r=some (.lst (rn.map V.int)))(h2:H2 o=some (.lst (on.map V.int)))(n2:on.length<=1000)(s:H2 D=none)(k:∀d,Same H2 d->d D=some (.lst ((AD f rn on).map V.bl))->Q (.ref D) d):cz (dz K r o) (ci K 2 (cv (zS 0) (cv (zS 1) cf))) bC te (none::none::c) H2 D Q:=by
 refine Do (K:=K) (xs:=rn.map V.int) (ys:=on.map V.int) (fun i σ zs d=>∃j l,σ=j::l::c/\Same H2 d/\d D=some (.lst zs)/\zs=((AD f rn on).take i).map V.bl)
  ⟨none,none,rfl,Same.new s,zb,rfl⟩ (fun i σ zs d ⟨_,_,_,sm,_⟩=>⟨SqL.of (sm _ _ h1),SqL.of (sm _ _ h2)⟩) ?_ ?_
 ·rintro i σ zs d u w x e1 e2 hi hz ⟨j,l,rfl,h,e,rfl⟩ g
  obtain⟨p,g1,rfl⟩:=fY e1;obtain⟨q,g2,rfl⟩:=fY e2;refine⟨u,_,rfl,SqT.of zb,rfl,_,_,rfl,_,_,rfl,rfl,fB ?_⟩;refine v p q _ _ (Al g1) (Al g2) (bI (Ae (Nat.min_le_right _ _) (by rw[Aa];exact zx ω)) hi hz (by rw[ag (zk e g)];exact e) ⟨_,_,rfl,?_,zb,?_⟩)
  ·exact(h.then (h.free g)).then s
  ·have e3:(AD f rn on)[i]?=some (f p q):=by rw[List.getElem?_zipWith,g1,g2]
   rw[take_snoc e3,Ap];rfl
 ·rintro σ zs d ⟨j,l,rfl,h,e,rfl⟩
  refine k d h ?_;rw[e,Ar (by simp)]
end
end K28
end
section
namespace K28
open PySem L2
section
variable{P:Program}{w:World}{K:Ah}{mg:Str->Option Value}{base:Heap}
def Hj:Sp:=fun vs H Q _=>∃(L:Addr)(ns:List Int)(m:Int),vs=[.ref L,.int m]/\H L=some (.lst (ns.map V.int))/\ns.length<=1000/\∀H',Same H H'->Q (.bl (eK ns m)) H'
def LY:zo ["steps","most"] ["steps","most"] (zf BJ):=⟨rfl,rfl,rfl,δ,rfl,δ,δ⟩
def LZ{f:Addr}{fd:FuncData}(F:Fun K "are_steps" "are_steps" BJ f fd)(bl:mg "len"=none)(v:mg "all"=none)(N:mg "zip"=none):am P w K mg base ar 1 f fd ["steps","most"] Hj:=by
 refine F.ok LY (fun vs H Q E h=>?_) (fun W A outer s H vs Q E hr h=>?_)
 ·obtain⟨L,ns,m,rfl,_⟩:=h;rfl
 ·obtain⟨L,ns,m,rfl,j,hz,k⟩:=h
  refine⟨_,zd (c3 (PW.pt (Ct (zA jI (zv zn rfl bl dF (za (pv 0) zc)) (pv 1) (ao _))
    (Cs (wh (ph (zv (p_ rfl) rfl v qS (za (zr ["steps","most"] ["step"] [none] (zG (pv 0)) (fun l C s₀ H₀ ex=>zl (i:=0) (ba ["step"]) rfl (Or.inl rfl)) (fun l C s₀ H₀ ex=>zu)
     (fun l C s₀ H₀ ex=>m5 jI (pv 0) ze (ao _)) (hfr:=bE δ)) zc))))))) (zh (zB mQ)) zT)
   (zh (zB (zv (p_ rfl) rfl v qS (za (zr ["steps","most"] ["low","high"] [none,none] (nE rfl N k5 (za (pv 0) (za (xl xn (pv 0) (xk ze) xa) zc)))
    (fun l C s₀ H₀ ex=>hJ rfl (zK (zl (i:=0) (ba ["low","high"]) rfl (Or.inl rfl)) (zK (zl (i:=1) (ba ["low","high"]) rfl (Or.inl rfl)) hH))) (fun l C s₀ H₀ ex=>zu)
    (fun l C s₀ H₀ ex=>m5 gs (zD iI (pv 1) (pv 0)) ze (ao _)) (hfr:=bE δ) (g:=ci K 2 (cv (zS 0) (cv (zS 1) cf)))) zc)))),?_⟩
  refine⟨_,rfl,L,_,rfl,.inl (SqL.of j),_,rfl,_,_,rfl,rfl,_,rfl,?_⟩;rw[Aa]
  by_cases c:m<(ns.length:Int)
  ·rw[decide_eq_true c]
   refine aW (aW ?_);have:eK ns m=false:=by unfold eK;rw[decide_eq_true c];rfl
   rw[this] at k;exact k H (Same.refl H)
  rw[decide_eq_false c];refine aQ ⟨_,rfl,L,rfl,⟨_,SqL.of j⟩,fun D y=>zt (LW (f:=fun x=>decide (0<x)) (fun x H' R _ q=>⟨_,rfl,_,_,rfl,rfl,q⟩) j hz y fun O p r=>⟨D,_,rfl,SqL.of r,_,rfl,?_⟩)⟩
  by_cases d:(ns.map fun x=>decide (0<x)).all id=true
  ·rw[d]
   refine aQ ⟨_,rfl,_,rfl,_,rfl,L,_,rfl,SqL.of (p _ _ j),fun S z=>?_⟩;rw[show(some (1:Int))=some ((1:Nat):Int) from rfl,lJ,<-List.map_drop];have u:=Same.new (o:=.lst ((ns.drop 1).map V.int)) z;have pos:∀x∈ns,0<x:=fun x hx=>by
    rw[List.all_map,Bh] at d;exact of_decide_eq_true (d x hx)
   refine⟨L,S,rfl,⟨_,SqL.of ((p.trans u) _ _ j)⟩,⟨_,SqL.of zb⟩,fun T G=>zt (LX (f:=fun a b=>decide (b%a=0)) (fun a b H' R I hb q=>?_) ((p.trans u) _ _ j) zb (by rw[List.length_drop];(first|lia|omega)) G fun U J M=>⟨T,_,rfl,SqL.of M,?_⟩)⟩
   ·refine⟨_,rfl,_,rfl,_,_,rfl,rfl,pos a I,rfl,?_⟩
    rw[show decide (V.int (b%a)=V.int 0)=decide (b%a=0) from by rw[Bool.eq_iff_iff];simp];exact q
   ·have e:eK ns m=(AD (fun a b=>decide (b%a=0)) ns (ns.drop 1)).all id:=by
     unfold eK;rw[List.all_map] at d;rw[decide_eq_false c,show(ns.all fun x=>decide (0<x))=true from d];rfl
    rw[e] at k;exact k U ((p.trans u).trans J)
  ·rw[Bool.eq_false_iff.mpr d]
   refine aW ?_;have:eK ns m=false:=by
    unfold eK;rw[List.all_map] at d;rw[show(ns.all fun x=>decide (0<x))=false from Bool.eq_false_iff.mpr d,Bool.and_false];rfl
   rw[this] at k;exact k O p
end
end K28
end
section
namespace K28
open PySem L2
abbrev dE:Stmt:=top 28
def L0(xs:List V)(n:Nat):dL xs none (some (n:Int))=xs.take n:=by
 unfold dL;rw[HT.EY,HT.EZ,List.drop_zero,Nat.sub_zero];rcases Nat.le_total n xs.length with h|h
 ·rw[Nat.min_eq_left h]
 ·rw[Nat.min_eq_right h,Ar (Ad _),Ar h]
structure NT(H H':Hp)(a:Addr)(ds:List Addr)(tb:Ξ):Prop where
 at_:H' a=some (.lst (ds.map V.ref))
 rows:Rws H' ds tb
 nd:ds.Nodup
 na:H a=none
 nw:∀d∈ds,H d=none/\d≠a
def NT.same{H H' H2:Hp}{a:Addr}{ds:List Addr}{tb:Ξ}(h:NT H H' a ds tb)(s:Same H' H2):NT H H2 a ds tb:=⟨s _ _ h.at_,h.rows.same s,h.nd,h.na,h.nw⟩
def NT.old{H0 H H':Hp}{a:Addr}{ds:List Addr}{tb:Ξ}(h:NT H H' a ds tb)(s:Same H0 H):NT H0 H' a ds tb:=⟨h.at_,h.rows,h.nd,s.free h.na,fun d hd=>⟨s.free (h.nw d hd).1,(h.nw d hd).2⟩⟩
def cat(tb ub:Ξ):Ξ:=AD (·++·) tb ub
def io(n:Nat)(sh a:Ξ):Ξ:=(Ag n).map fun j=>fE n (colAt sh j) a
structure Hk(N M X B Y m n:Nat)(tb ub bc:Ξ):Prop where
 l1:tb.length=n
 l2:ub.length=n
 l3:bc.length=n
 w1:∀r∈tb,r.length=m
 w3:∀r∈bc,r.length=n
 n64:n<=40
 m64:m<=500
 w2:∀r∈ub,r.length=n
 ech:G8 N M X B Y (m+n) (cat tb ub)
 shr:∀P fr,Tb.FS N M X B ((cat tb ub).map vc) P (vF fr)->Wid (m+n) P fr->∀r∈cat tb ub,j8 fr (m+n) r P
 mul:∀P fr,Tb.FS N M X B ((cat tb ub).map vc) P (vF fr)->Wid (m+n) P fr->∀r∈cat tb ub,∀x∈shrL fr r P,∀row∈bc,∀y∈row,eR (-x) y
section
variable{P:Program}{w:World}{K:Ah}{mg:Str->Option Value}{base:Heap}
def Hl:Sp:=fun vs H Q _=>∃(t a b c:Addr)(f g h:List Addr)(tb ub d:Ξ)(N M X B Y m n:Nat),vs=[.ref t,.int m]/\H t=some (.tup [.ref a,.ref b,.ref c])/\H a=some (.lst (f.map V.ref))/\H b=some (.lst (g.map V.ref))/\H c=some (.lst (h.map V.ref))/\Rws H f tb/\Rws H g ub/\Rws H h d/\Hk N M X B Y m n tb ub d/\
 ∀P fr t' a' b' e i j l H',Tb.FS N M X B ((cat tb ub).map vc) P (vF fr)->Wid (m+n) P fr->Same H H'->H' t'=some (.tup [.ref a',.ref b',.ref e])->NT H H' a' i (P.map fun p=>(fr p).take m)->NT H H' b' j (P.map fun p=>(fr p).drop m)->NT H H' e l (io n ((cat tb ub).map fun r=>shrL fr r P) d)->Q (.ref t') H'
def tR:zo ["side","width","rows","found","fresh","shares"] ["side","width"] (zf dE):=⟨rfl,rfl,rfl,δ,rfl,δ,δ⟩
def L1{H2:Hp}{L D a:Addr}{es:List (Nat×Addr)}{fr:Nat->List Int}{ps:List Nat}{Q:VK}{te:TE}{c:List (Option V)}(l:Fnd H2 a es fr)(E:∀p∈ps,p∈es.map (·.1))(F:∀(p:Nat)(d:Addr)(H:Hp)(R:VK),Same H2 H->DGet H a (.int p) (some (.ref d))->R (.ref d) H->te (some (.int p)::c) H R)(G:H2 L=some (.lst (ps.map fun p:Nat=>V.int (p:Int))))(hz:ps.length<=1000)(g:H2 D=none)(k:∀b ds,Same H2 b->b D=some (.lst (ds.map V.ref))->Rws b ds (ps.map fr)->Q (.ref D) b):cz (eO K L) (zS 0) bC te (none::c) H2 D Q:=by
 refine jS (xs:=ps.map fun p:Nat=>V.int (p:Int)) (fun j σ ys b=>∃(v:Option V)(ds:List Addr),σ=v::c/\Same H2 b/\b D=some (.lst ys)/\ys=ds.map V.ref/\Rws b ds ((ps.take j).map fr)) ⟨none,[],rfl,Same.new g,zb,rfl,.nil⟩ ?_ ?_ ?_
 ·rintro j σ ys b ⟨v,ds,rfl,sm,f,rfl,_⟩
  exact SqL.of (sm _ _ G)
 ·rintro j σ ys b x hx s hy ⟨v,ds,rfl,sm,f,rfl,hr⟩
  obtain⟨p,hp,rfl⟩:∃p,ps[j]?=some p/\x=V.int (p:Int):=by
   rw[Aj] at hx;cases e:ps[j]? with
   |none=>rw[e] at hx;cases hx
   |some p=>rw[e] at hx;cases hx;exact⟨p,rfl,rfl⟩
  obtain⟨d,hd,u,w⟩:=(l.same sm).get (E p (Al hp));refine cA (F p d b _ sm u (bI (by rw[Aa];exact zx ω) s hy f ⟨_,ds++[d],rfl,sm.then g,zb,by simp,?_⟩));rw[take_snoc hp,Ap];have A:∀e∈ds++[d],e≠D:=fun e r z=>by
   subst z;rcases List.mem_append.mp r with h|h
   ·obtain⟨i,hi⟩:=List.mem_iff_getElem?.mp h
    obtain⟨ns,e1,e2⟩:=hr.get hi;rw[f] at e2;have e2:=AW e2;injection e2 with e2
    have C:ds.length≠0:=fun z=>by rw[List.length_eq_zero_iff.mp z] at h;cases h
    cases ds with
    |nil=>cases h
    |cons q ds=>cases ns with
     |nil=>cases e2
     |cons n ns=>rw[AY,AY] at e2;cases e2
   ·obtain rfl:e=d:=by simpa using h
    obtain⟨_,y⟩:∃o,H2 e=some o:=⟨_,l.rows _ hd⟩;rw[y] at g;cases g
  exact((hr.snoc w).upd A)
 ·rintro σ ys b ⟨v,ds,rfl,sm,f,rfl,hr⟩
  rw[Aa,Ar (Ad _)] at hr;exact k b ds sm f hr
def L3{f fe fc fm fs:Addr}{fd lF bR cS aB:FuncData}(F:Fun K "straightened" "straightened" dE f fd)(bz:mg "zip"=none)(bs:mg "sorted"=none)(Fe:Fun K "echelon_of" "echelon_of" i8 fe lF)(be:Binds K lF ["rows"] [])(me:mg "echelon_of"=some (.ref fe))(Ge:am P w K mg base ar 4 fe lF ["rows"] G9)(Fc:Fun K "columns_of" "columns_of" q_ fc bR)(bc:Binds K bR ["table"] [])(mc:mg "columns_of"=some (.ref fc))(Gc:am P w K mg base ar 3 fc bR ["table"] (Dn K))(Fm:Fun K "mix_of" "mix_of" i9 fm cS)(bm:Binds K cS ["numbers","rows"] [])(mm:mg "mix_of"=some (.ref fm))(Gm:am P w K mg base ar 2 fm cS ["numbers","rows"] D0)(Fs:Fun K "shares_of" "shares_of" iS fs aB)(bh:Binds K aB ["row","found"] [])(ms:mg "shares_of"=some (.ref fs))(Gs:am P w K mg base ar 2 fs aB ["row","found"] Dw):am P w K mg base ar 5 f fd ["side","width"] Hl:=by
 refine F.ok tR (fun vs H Q E h=>?_) (fun ai A outer s H vs Q E hr h=>?_)
 ·obtain⟨t,a,b,c,da,db,dc,tb,ub,bb,N,M,X,B,Y,m,n,rfl,_⟩:=h;rfl
 ·obtain⟨t,a,b,c,da,db,dc,tb,ub,bb,N,M,X,B,Y,m,n,rfl,ht,ha,hb,hc,ra,rb,rc,ok,k⟩:=h
  have hu:=xT hr;have hr3:Room 3 _:=hr.mono ξ;have de:Room 2 _:=hr.mono ξ;refine⟨_,zd (kS (i:=2) tR.nd rfl (Or.inl rfl) ["side","width","rows","found","fresh","shares"] ["row","turn"] [none,none] (nE rfl bz k5 (za (zw zL (pv 0) ze (fun _ _=>rfl)) (za (zw zL (pv 0) ze (fun _ _=>rfl)) zc)))
    (fun v C s₀ H₀ ex=>hJ rfl (zK (zl (i:=0) (ba ["row","turn"]) rfl (Or.inl rfl)) (zK (zl (i:=1) (ba ["row","turn"]) rfl (Or.inl rfl)) hH))) (fun v C s₀ H₀ ex=>zu)
    (fun v C s₀ H₀ ex=>zD xy (pv 0) (pv 1)) (te:=bT iL (ap 0) (ap 1)) (hfr:=bE δ) (g:=ci K 2 (cv (zS 0) (cv (zS 1) cf))))
   (zd (zp (i:=3) tR.nd rfl (Or.inr rfl) (zg Ge hr rfl me Fe.kp be .nil af (za (pv 2) zc)))
   (zd (kS (i:=4) tR.nd rfl (Or.inl rfl) ["side","width","rows","found","fresh","shares"] ["place","found"] [none,some 3] (zG (zv (rV rfl) rfl bs sA (za (pv 3) zc))) (fun v C s₀ H₀ ex=>zl (i:=0) (ba ["place","found"]) rfl (Or.inl rfl)) (fun v C s₀ H₀ ex=>zu)
    (fun v C s₀ H₀ ex=>kI hu (pv 1) (pv 0) (fun _ _=>rfl)) (hfr:=bB (zf dE) δ))
   (zd (kS (i:=5) tR.nd rfl (Or.inl rfl) ["side","width","rows","found","fresh","shares"] ["row","found"] [none,some 3] (zG (pv 2)) (fun v C s₀ H₀ ex=>zl (i:=0) (ba ["row","found"]) rfl (Or.inl rfl)) (fun v C s₀ H₀ ex=>zu)
    (fun v C s₀ H₀ ex=>zg Gs de rfl ms Fs.kp bh .nil af (za (pv 0) (za (pv 1) zc))) (te:=hV Dw [] E0 (cy (ap 0) (cy (ap 1) ca))) (hfr:=bB (zf dE) δ))
   (zh (zB (gt (za
    (zr ["side","width","rows","found","fresh","shares"] ["row","width"] [none,some 1] (zG (pv 4)) (fun v C s₀ H₀ ex=>zl (i:=0) (ba ["row","width"]) rfl (Or.inl rfl)) (fun v C s₀ H₀ ex=>zu)
     (fun v C s₀ H₀ ex=>xl xn (pv 0) xa (xk (pv 1))) (te:=CP (kH K) (ap 0) CN (CO (ap 1))) (hfr:=bB (zf dE) δ))
    (za (zr ["side","width","rows","found","fresh","shares"] ["row","width"] [none,some 1] (zG (pv 4)) (fun v C s₀ H₀ ex=>zl (i:=0) (ba ["row","width"]) rfl (Or.inl rfl)) (fun v C s₀ H₀ ex=>zu)
     (fun v C s₀ H₀ ex=>xl xn (pv 0) (xk (pv 1)) xa) (te:=CP (kH K) (ap 0) (CO (ap 1)) CN) (hfr:=bB (zf dE) δ))
    (za (zr ["side","width","rows","found","fresh","shares"] ["numbers","side"] [none,some 0] (zG (zg Gc hr3 rfl mc Fc.kp bc .nil af (za (pv 5) zc))) (fun v C s₀ H₀ ex=>zl (i:=0) (ba ["numbers","side"]) rfl (Or.inl rfl)) (fun v C s₀ H₀ ex=>zu)
     (fun v C s₀ H₀ ex=>zg Gm de rfl mm Fm.kp bm .nil af (za (pv 0) (za (zw zL (pv 1) ze (fun _ _=>rfl)) zc))) (te:=hV D0 [] E0 (cy (ap 0) (cy (bT (p0 K) (ap 1) (tC (.int 2))) ca))) (hfr:=bB (zf dE) δ)) zc))))))))),?_⟩
  refine⟨_,rfl,t,_,_,_,rfl,rfl,SqT.of ht,zj (j:=0) rfl,_,rfl,t,_,_,_,rfl,rfl,SqT.of ht,zj (j:=1) rfl,a,b,rfl,⟨_,SqL.of ha⟩,⟨_,SqL.of hb⟩,fun R hR=>zt (LV (g:=fun x y=>x++y) (fun o u os us H' R sm G lY gv eC hk=>?_) ha hb ra rb (by have:=ok.l2;have:=ok.n64;(first|lia|omega)) hR fun H1 rs s1 lh I _ _=>?_)⟩
  ·refine⟨_,rfl,_,rfl,o,u,_,_,rfl,rfl,G,lY,?_,fun p hp=>?_⟩
   ·rw[Aa,Aa,ok.w1 os gv,ok.w2 us eC,sizeLine_eq];have:=ok.n64;have:=ok.m64;(first|lia|omega)
   ·rw[<-Ap]
    exact hk p _ (Same.new hp) hp zb
  have I:Rws H1 rs (cat tb ub):=I;refine⟨_,rfl,R,rs,cat tb ub,N,M,X,B,Y,m+n,rfl,lh,I,ok.ech,fun a1 H2 es fr PP s2 kP F2 jy kF FS=>?_⟩;have lc:(cat tb ub).length=n:=by unfold cat;rw[Az,ok.l1,ok.l2,Nat.min_self]
  have lP:PP.length=n:=by rw[FS.len,Aa,lc]
  have le:es.length<64:=by have:=jy.len;have:=ok.n64;(first|lia|omega)
  refine⟨_,rfl,a1,ea es,rfl,F2.at_,(by simpa using le),fun PL ms pm so dN=>?_⟩;rw[jy.ints pm so];have lL:=Same.new (o:=.lst (PP.map fun p:Nat=>V.int (p:Int))) dN;refine⟨PL,rfl,⟨_,SqL.of zb⟩,fun FD vq=>zt (L1 (F2.same lL) (fun p hp=>jy.pm.mem_iff.mp hp) (fun p d H' R sm gd hk=>⟨_,rfl,_,rfl,a1,_,rfl,gd,hk⟩) zb (by have:=ok.n64;(first|lia|omega)) vq fun H3 fs s3 eJ pC=>?_)⟩;have jL:=(s2.trans lL).trans s3;have F3:=(F2.same lL).same s3;refine⟨_,rfl,R,rfl,⟨_,SqL.of (jL _ _ lh)⟩,fun SD tw=>zt (k4 (g:=fun r=>shrL fr r PP) (fun o os H' R' sm G W hk=>?_) (SqL.of (jL _ _ lh)) (I.same jL) (by rw[lc];have:=ok.n64;(first|lia|omega)) tw fun H4 ss J nG vQ _ _=>?_)⟩
  ·exact⟨_,rfl,_,rfl,o,a1,os,es,fr,PP,m+n,rfl,G,F3.same sm,jy,le,ok.shr PP fr FS kF os W,hk⟩
  have cQ:=(s1.trans jL).trans J;refine⟨_,rfl,FD,rfl,⟨_,SqL.of (J _ _ eJ)⟩,fun A1 pR=>zt (k4 (g:=fun r=>r.take m) (fun o os H' R' sm G W hk=>?_) (SqL.of (J _ _ eJ)) (pC.same J) (by rw[Aa,lP];have:=ok.n64;(first|lia|omega)) pR fun H5 d5 S vY r5 n5 w5=>?_)⟩
  ·refine⟨_,rfl,_,rfl,_,rfl,o,_,rfl,SqL.of G,fun q hq=>?_⟩
   rw[L0,<-List.map_take];exact hk q _ (Same.new hq) hq zb
  refine⟨_,rfl,FD,rfl,⟨_,SqL.of ((J.trans S) _ _ eJ)⟩,fun A2 oY=>zt (k4 (g:=fun r=>r.drop m) (fun o os H' R' sm G W hk=>?_) (SqL.of ((J.trans S) _ _ eJ)) (pC.same (J.trans S)) (by rw[Aa,lP];have:=ok.n64;(first|lia|omega)) oY fun H6 d6 s6 rZ r6 n6 w6=>?_)⟩
  ·refine⟨_,rfl,_,rfl,_,rfl,o,_,rfl,SqL.of G,fun q hq=>?_⟩
   rw[lJ,<-List.map_drop];exact hk q _ (Same.new hq) hq zb
  have gZ:=S.trans s6;have gq:=cQ.trans gZ;have im:((cat tb ub).map fun r=>shrL fr r PP).length=n:=by rw[Aa,lc]
  have L:∀r∈(cat tb ub).map (fun r=>shrL fr r PP),r.length=n:=fun r hr=>by
   obtain⟨q,_,rfl⟩:=List.mem_map.mp hr;rw[sC,lP]
  have D:wid ((cat tb ub).map fun r=>shrL fr r PP)=n:=by
   cases e:(cat tb ub).map (fun r=>shrL fr r PP) with
   |nil=>rw[e] at im;exact im
   |cons x l=>rw[e] at L;exact L x (AC ..)
  have tsh:b5 ((cat tb ub).map fun r=>shrL fr r PP)=true:=by
   unfold b5;rw[D,im,decide_eq_true ok.n64];simp only[Bool.and_self,Bool.true_and,Bh];exact fun r hr=>decide_eq_true (L r hr)
  refine⟨_,rfl,SD,ss,_,rfl,SqL.of (gZ _ _ nG),vQ.same gZ,tsh,fun CD H7 cs Z xS iW o_ _ _=>⟨CD,rfl,⟨_,SqL.of iW⟩,fun A3 oU=>?_⟩⟩;have iO:=gq.trans Z;have et:turn ((cat tb ub).map fun r=>shrL fr r PP)=(Ag n).map (colAt ((cat tb ub).map fun r=>shrL fr r PP)):=by unfold turn;rw[D]
  rw[et] at o_;have vJ:∀r∈bb,r.length=wid bb:=fun r hr=>by
   cases e:bb with
   |nil=>rw[e] at hr;cases hr
   |cons x l=>rw[ok.w3 r hr];exact(ok.w3 x (by rw[e];exact AC ..)).symm
  have wb:wid bb=n:=by
   cases e:bb with
   |nil=>have:=ok.l3;rw[e] at this;exact this
   |cons x l=>exact ok.w3 x (by rw[e];exact AC ..)
  refine zt (k4 (g:=fun ns=>fE n ns bb) (fun o os H' R' sm G W hk=>?_) (SqL.of iW) o_ (by rw[Aa,AZ];have:=ok.n64;(first|lia|omega)) oU fun H8 d8 s8 qE r8 n8 w8=>?_)
  ·have kO:=iO.trans sm
   refine⟨_,rfl,_,rfl,t,_,_,_,rfl,rfl,SqT.of (kO _ _ ht),zj (j:=2) rfl,o,c,os,dc,bb,rfl,G,kO _ _ hc,rc.same kO,by rw[wb];have:=ok.n64;(first|lia|omega),vJ,fun z hz y hy=>?_,by rw[wb];exact hk⟩;obtain⟨z1,z2⟩:=List.of_mem_zip hz;obtain⟨j,hj,rfl⟩:=List.mem_map.mp W;have z1:z.1∈((cat tb ub).map fun r=>shrL fr r PP).map fun r=>r.getD j 0:=z1;obtain⟨sr,vj,e1⟩:=List.mem_map.mp z1;obtain⟨r,hr,rfl⟩:=List.mem_map.mp vj;refine ok.mul PP fr FS kF r hr z.1 ?_ z.2 z2 y hy;have hj:=List.mem_range.mp hj;have wE:j<(shrL fr r PP).length:=by rw[sC,lP];exact hj
   rw[<-e1,Ab,Ac wE];exact Ay _
  ·have nZ:=(s6.trans Z).trans s8
   have qg:=Z.trans s8;have U:∀{x},H4 x=none->H x=none:=fun h=>cQ.free h;refine⟨by show 3<=sizeLine;decide,fun T hT=>?_⟩;have O:=Same.new (o:=.tup [V.ref A1,V.ref A2,V.ref A3]) hT;rw[AS] at r5 r6 r8;refine k PP fr T A1 A2 A3 d5 d6 d8 _ FS kF ((iO.trans s8).trans O) zb ⟨O _ _ (nZ _ _ vY),(r5.same nZ).same O,n5,U pR,fun d hd=>⟨U (w5 d hd).1,(w5 d hd).2⟩⟩ ⟨O _ _ (qg _ _ rZ),(r6.same qg).same O,n6,U (S.free oY),fun d hd=>⟨U (S.free (w6 d hd).1),(w6 d hd).2⟩⟩ ⟨O _ _ qE,r8.same O,n8,U (gZ.free (Z.free oU)),fun d hd=>⟨U (gZ.free (Z.free (w8 d hd).1)),(w8 d hd).2⟩⟩
end
end K28
end
section
namespace K28
open PySem L2
abbrev BK:Stmt:=top 38
def rowAt(tb:Ξ)(i:Nat):List Int:=tb.getD i []
def slT(tb:Ξ)(r:Nat):Nat->Ξ
 |0=>tb
 |n+1=>(slT tb r n).set (r-2-n) (c4 (rowAt (slT tb r n) (r-2-n)) (-1) (rowAt (slT tb r n) (r-1-n)))
def slB(tb:Ξ)(r:Nat):Nat->Ξ
 |0=>tb
 |n+1=>(slB tb r n).set (r-1-n) (c4 (rowAt (slB tb r n) (r-1-n)) 1 (rowAt (slB tb r n) (r-2-n)))
def lN{tb:Ξ}{r:Nat}:∀n,(slT tb r n).length=tb.length
 |0=>rfl
 |n+1=>by show List.length (List.set _ _ _)=_;rw[List.length_set];exact lN n
def t5{tb:Ξ}{r:Nat}:∀n,(slB tb r n).length=tb.length
 |0=>rfl
 |n+1=>by show List.length (List.set _ _ _)=_;rw[List.length_set];exact t5 n
structure Wk(H0:Hp)(Z:List Addr)(H:Hp)(R:Addr)(rs:List Addr)(tb:Ξ):Prop where
 at_:H R=some (.lst (rs.map V.ref))
 rows:Rws H rs tb
 nd:rs.Nodup
 nw:∀d∈rs,H0 d=none/\∀z∈Z,d≠z
section
variable{H0 H H':Hp}{Z:List Addr}{R R':Addr}{rs:List Addr}{tb:Ξ}
def Wk.same(h:Wk H0 Z H R rs tb)(s:Same H H'):Wk H0 Z H' R rs tb:=⟨s _ _ h.at_,h.rows.same s,h.nd,h.nw⟩
def Wk.get(h:Wk H0 Z H R rs tb){i:Nat}(hi:i<tb.length):∃d,rs[i]?=some d/\(rs.map V.ref)[i]?=some (V.ref d)/\H d=some (.lst ((rowAt tb i).map V.int)):=by
 have a:=h.rows.len;obtain⟨ns,e1,e2⟩:=h.rows.get (Ac (show i<rs.length from ω));refine⟨rs[i]'ω,Ac _,by rw[Aj,Ac (show i<rs.length from ω)];rfl,?_⟩;unfold rowAt;rw[Ab,e1];exact e2
def Wk.other(h:Wk H0 Z H R' rs tb)(hz:R∈Z)(ne:R'≠R){o:HO}:Wk H0 Z (upd H R o) R' rs tb:=⟨by rw[ag ne];exact h.at_,h.rows.upd fun d hd=>(h.nw d hd).2 R hz,h.nd,h.nw⟩
def L4{l:List Addr}{i:Nat}{d:Addr}(h:l.Nodup)(hd:d∉l):(l.set i d).Nodup:=by
 rw[List.Nodup,List.pairwise_iff_getElem];intro a b e hb g;rw[List.length_set] at e hb;have f:∀c(hc:c<l.length),l[c]≠d:=fun c hc z=>hd (z▸Ay hc);rw[List.getElem_set,List.getElem_set];have:=List.pairwise_iff_getElem.mp h a b e hb g;split
 ·split
  ·(first|lia|omega)
  ·exact(f b hb).symm
 ·split
  ·exact f a e
  ·exact this
def L5{H:Hp}{rs:List Addr}{tb:Ξ}{d:Addr}{ns:List Int}(h:Rws H rs tb)(e:H d=some (.lst (ns.map V.int))):∀i,Rws H (rs.set i d) (tb.set i ns):=by
 induction h with
 |nil=>intro i;exact .nil
 |cons r t ih=>intro i;cases i with
  |zero=>exact .cons e t
  |succ i=>exact .cons r (ih i)
def Wk.put(h:Wk H0 Z H R rs tb)(b:Same H0 H')(s:Same H H'){d:Addr}{ns:List Int}{H2:Hp}(c:Same H' H2)(hd:H' d=none)(e:H2 d=some (.lst (ns.map V.int)))(hz:R∈Z)(f:∀z∈Z,H' z≠none)(i:Nat):Wk H0 Z (upd H2 R (.lst ((rs.map V.ref).set i (.ref d)))) R (rs.set i d) (tb.set i ns):=by
 have a:d∉rs:=fun z=>(h.same s).rows.there d z hd;have nz:∀z∈Z,d≠z:=fun z hz e=>f z hz (e▸hd);refine⟨by rw[zb,List.map_set],?_,L4 h.nd a,fun x hx=>?_⟩
 ·refine(L5 ((h.rows.same s).same c) e i).upd fun x hx=>?_
  rcases AL hx with hx|rfl
  ·exact(h.nw x hx).2 R hz
  ·exact nz R hz
 ·rcases AL hx with hx|rfl
  ·exact h.nw x hx
  ·exact⟨b.free hd,nz⟩
end
def Sml(tb:Ξ):Prop:=∀r∈tb,r.length<=1000/\∀x∈r,x.natAbs<big
def L6:(1:Int).natAbs<big:=by
 unfold big;exact Nat.one_lt_two_pow (by have:=lj;(first|lia|omega))
def Sml.at{tb:Ξ}(h:Sml tb){i:Nat}(hi:i<tb.length):(rowAt tb i).length<=1000/\∀x∈rowAt tb i,x.natAbs<big:=by
 refine h _ ?_;unfold rowAt;rw[Ab,Ac hi];exact Ay _
section
variable{P:Program}{w:World}{K:Ah}{mg:Str->Option Value}{base:Heap}
def Hm:Sp:=fun vs H Q _=>∃(H0:Hp)(t a b c:Addr)(h i l:List Addr)(tb ub bb:Ξ)(n r:Nat),vs=[.ref t,.int r]/\H t=some (.tup [.ref a,.ref b,.ref c])/\Same H0 H/\NT H0 H a h tb/\NT H0 H b i ub/\NT H0 H c l bb/\tb.length=n/\ub.length=n/\bb.length=n/\1<=r/\r<=n/\n<=1000/\
 (∀j,j<r->Sml (slT tb r j)/\Sml (slT ub r j)/\Sml (slB bb r j))/\
 ∀t' a' b' d e f g H',Same H H'->H' t'=some (.tup [.ref a',.ref b',.ref d])->NT H0 H' a' e (slT tb r (r-1))->NT H0 H' b' f (slT ub r (r-1))->NT H0 H' d g (slB bb r (r-1))->Q (.ref t') H'
def t7:zo ["side","count","rows","turn","back","k"] ["side","count"] (zf BK):=⟨rfl,rfl,rfl,δ,rfl,δ,δ⟩
def D3:Bk "list"=some (.type "list"):=δ
def L7{f fl:Addr}{fd bX:FuncData}(F:Fun K "slid" "slid" BK f fd)(bg:mg "range"=none)(bs:mg "list"=none)(Fl:Fun K "less" "less" jW fl bX)(bl:Binds K bX ["row","often","other"] [])(ml:mg "less"=some (.ref fl))(Gl:am P w K mg base ar 1 fl bX ["row","often","other"] rq):am P w K mg base ar 2 f fd ["side","count"] Hm:=by
 refine F.ok t7 (fun vs H Q E h=>?_) (fun ai A outer s H vs Q E hr h=>?_)
 ·obtain⟨H0,t,a,b,c,da,db,dc,tb,ub,bb,n,r,rfl,_⟩:=h;rfl
 ·obtain⟨H0,t,a,b,c,da,db,dc,tb,ub,bb,n,r,rfl,ht,s0,na,nb,nc,l1,l2,l3,r1,rn,n9,s_,k⟩:=h
  refine⟨_,zd (zp (i:=2) t7.nd rfl (Or.inl rfl) (zY zM rfl bs D3 (za (zw zL (pv 0) ze (fun _ _=>rfl)) zc)))
   (zd (zp (i:=3) t7.nd rfl (Or.inl rfl) (zY zM rfl bs D3 (za (zw zL (pv 0) ze (fun _ _=>rfl)) zc)))
   (zd (zp (i:=4) t7.nd rfl (Or.inl rfl) (zY zM rfl bs D3 (za (zw zL (pv 0) ze (fun _ _=>rfl)) zc)))
   (zd (iD PassesOwn.never rfl (G2 rfl bg (za (zD eX (pv 1) ze) (za ze (za (jC jF ze) zc)))) (zl (i:=5) t7.nd rfl (Or.inl rfl))
    (zd (gg (zg Gl hr rfl ml Fl.kp bl .nil af (za (zw zq (pv 2) (zD eX (pv 5) ze) (fun _ _=>rfl)) (za (jC jF ze) (za (zw zq (pv 2) (pv 5) (fun _ _=>rfl)) zc)))) (fJ (pv 2) (zD eX (pv 5) ze) set_list))
    (zd (gg (zg Gl hr rfl ml Fl.kp bl .nil af (za (zw zq (pv 3) (zD eX (pv 5) ze) (fun _ _=>rfl)) (za (jC jF ze) (za (zw zq (pv 3) (pv 5) (fun _ _=>rfl)) zc)))) (fJ (pv 3) (zD eX (pv 5) ze) set_list))
    (zh (gg (zg Gl hr rfl ml Fl.kp bl .nil af (za (zw zq (pv 4) (pv 5) (fun _ _=>rfl)) (za ze (za (zw zq (pv 4) (zD eX (pv 5) ze) (fun _ _=>rfl)) zc)))) (fJ (pv 4) (pv 5) set_list))))))
   (zh (zB (gt (za (pv 2) (za (pv 3) (za (pv 4) zc))))))))),?_⟩
  refine⟨_,rfl,t,_,_,_,rfl,rfl,SqT.of ht,zj (j:=0) rfl,a,_,rfl,.inl (SqL.of na.at_),fun R hR=>?_⟩;have I:=Same.new (o:=.lst (da.map V.ref)) hR;refine⟨_,rfl,t,_,_,_,rfl,rfl,SqT.of (I _ _ ht),zj (j:=1) rfl,b,_,rfl,.inl (SqL.of (I _ _ nb.at_)),fun T hT=>?_⟩;have M:=Same.new (o:=.lst (db.map V.ref)) hT;refine⟨_,rfl,t,_,_,_,rfl,rfl,SqT.of ((I.trans M) _ _ ht),zj (j:=2) rfl,c,_,rfl,.inl (SqL.of ((I.trans M) _ _ nc.at_)),fun B hB=>?_⟩;have sB:=Same.new (o:=.lst (dc.map V.ref)) hB;have sZ:=(I.trans M).trans sB;have qc:R≠T:=zk zb hT;have oK:T≠B:=zk zb hB;have oy:R≠B:=zk (M _ _ zb) hB;have eG:H T=none:=I.free hT;have ng:H B=none:=(I.trans M).free hB;have W0:∀{x:Addr}{dx:List Addr}{tx:Ξ}{Y:Addr}{H2:Hp},NT H0 H x dx tx->Same H H2->H2 Y=some (.lst (dx.map V.ref))->Wk H0 [R,T,B] H2 Y dx tx:=fun{x dx tx Y H2} n s e=>
   ⟨e,n.rows.same s,n.nd,fun d hd=>⟨(n.nw d hd).1,fun z hz q=>by
    have y:=n.rows.there d hd;rw[q] at y;simp at hz;rcases hz with rfl|rfl|rfl
    ·exact y hR
    ·exact y eG
    ·exact y ng⟩⟩
  have en:(((r:Nat):Int)-1-0).toNat=r-1:=ω
  refine⟨_,rfl,_,_,rfl,rfl,_,rfl,_,_,rfl,⟨ω,ω,ω,ω⟩,?_⟩;rw[en];refine G3 (fun i σ H2=>∃(v5:Option V)(rs v bs:List Addr),σ=[some (.ref t),some (.int r),some (.ref R),some (.ref T),some (.ref B),v5]/\Same H H2/\Wk H0 [R,T,B] H2 R rs (slT tb r i)/\Wk H0 [R,T,B] H2 T v (slT ub r i)/\Wk H0 [R,T,B] H2 B bs (slB bb r i))
   ⟨none,da,db,dc,rfl,sZ,W0 na sZ ((M.trans sB) _ _ zb),W0 nb sZ (sB _ _ zb),W0 nc sZ zb⟩ ?_ ?_
  ·rintro i σ H2 hi ⟨v5,rs,v,bs,rfl,sm,u,wT,wB⟩
   obtain⟨g,jX⟩:∃g,g=r-2-i:=⟨_,rfl⟩;have e1:((r:Nat):Int)-1-((i:Nat):Int)=((g+1:Nat):Int):=ω
   have e2:((g+1:Nat):Int)-1=((g:Nat):Int):=ω
   have J:r-1-i=g+1:=ω
   obtain⟨gB,vO,ay⟩:=s_ i ω;have lR:(slT tb r i).length=n:=by rw[lN,l1]
   have lT:(slT ub r i).length=n:=by rw[lN,l2]
   have lB:(slB bb r i).length=n:=by rw[t5,l3]
   have p:∀{q:Int}{x:Int},q.natAbs<=1->x.natAbs<big->eR q x:=fun hq hx=>Bw (Au hq L6) hx;have ix:∀{l:List Addr}{j:Nat},j<l.length->fN (l.map V.ref).length ((j:Nat):Int)=some j:=fun{l j} h=>by unfold fN;rw[Aa];simp[h]
   have Zin:∀{L:Hp},Same H2 L->∀z∈[R,T,B],L z≠none:=fun{L} s z hz=>by
    simp at hz;rcases hz with rfl|rfl|rfl
    ·rw[s _ _ u.at_];simp
    ·rw[s _ _ wT.at_];simp
    ·rw[s _ _ wB.at_];simp
   obtain⟨d1,g1,U,h1⟩:=u.get (i:=g) ω;obtain⟨d2,g2,W,h2⟩:=u.get (i:=g+1) ω;rw[e1];have G:=gB.at (i:=g+1) ω;refine⟨_,rfl,_,rfl,_,_,rfl,rfl,R,_,_,_,rfl,rfl,SqL.of u.at_,by rw[e2];exact zj U,_,rfl,_,rfl,_,rfl,R,_,_,_,rfl,rfl,SqL.of u.at_,zj W,d1,d2,_,_,-1,rfl,h1,h2,G.1,fun x hx=>p ξ (G.2 x hx),fun X L N hD3 e3=>?_⟩;refine⟨_,rfl,_,rfl,_,_,rfl,rfl,R,_,_,g,rfl,rfl,N _ _ u.at_,by rw[e2];exact ix (by have:=u.rows.len;(first|lia|omega)),?_⟩;have md:=u.put (s0.trans sm) (Same.refl H2) N hD3 e3 (by simp) (Zin (Same.refl H2)) g;have cT:Same H (upd L R (.lst ((rs.map V.ref).set g (.ref X)))):=(sm.trans N).then hR;have C:=(wT.same N).other (R:=R) (by simp) (Ne.symm qc) (o:=.lst ((rs.map V.ref).set g (.ref X)));have kh:=(wB.same N).other (R:=R) (by simp) (Ne.symm oy) (o:=.lst ((rs.map V.ref).set g (.ref X)));have Z3:∀z∈[R,T,B],(upd L R (.lst ((rs.map V.ref).set g (.ref X)))) z≠none:=fun z hz=>by
    simp at hz;rcases hz with rfl|rfl|rfl
    ·rw[zb];simp
    ·rw[C.at_];simp
    ·rw[kh.at_];simp
   have et1:(slT tb r i).set g (c4 (rowAt (slT tb r i) g) (-1) (rowAt (slT tb r i) (g+1)))=slT tb r (i+1):=by
    show _=(slT tb r i).set (r-2-i) (c4 (rowAt (slT tb r i) (r-2-i)) (-1) (rowAt (slT tb r i) (r-1-i)));rw[<-jX,J]
   rw[et1] at md;generalize upd L R (.lst ((rs.map V.ref).set g (.ref X)))=H4 at md cT C kh Z3 ⊢;obtain⟨d1,g1,U,h1⟩:=C.get (i:=g) ω;obtain⟨d2,g2,W,h2⟩:=C.get (i:=g+1) ω;have G:=vO.at (i:=g+1) ω;refine⟨_,rfl,_,rfl,_,_,rfl,rfl,T,_,_,_,rfl,rfl,SqL.of C.at_,by rw[e2];exact zj U,_,rfl,_,rfl,_,rfl,T,_,_,_,rfl,rfl,SqL.of C.at_,zj W,d1,d2,_,_,-1,rfl,h1,h2,G.1,fun x hx=>p ξ (G.2 x hx),fun Z H5 O eU e5=>?_⟩;refine⟨_,rfl,_,rfl,_,_,rfl,rfl,T,_,_,g,rfl,rfl,O _ _ C.at_,by rw[e2];exact ix (by have:=C.rows.len;(first|lia|omega)),?_⟩;have mF:=C.put (s0.trans cT) (Same.refl H4) O eU e5 (by simp) Z3 g;have iH:Same H (upd H5 T (.lst ((v.map V.ref).set g (.ref Z)))):=(cT.trans O).then eG;have nC:=(md.same O).other (R:=T) (by simp) qc (o:=.lst ((v.map V.ref).set g (.ref Z)));have D:=(kh.same O).other (R:=T) (by simp) (Ne.symm oK) (o:=.lst ((v.map V.ref).set g (.ref Z)));have Z5:∀z∈[R,T,B],(upd H5 T (.lst ((v.map V.ref).set g (.ref Z)))) z≠none:=fun z hz=>by
    simp at hz;rcases hz with rfl|rfl|rfl
    ·rw[nC.at_];simp
    ·rw[zb];simp
    ·rw[D.at_];simp
   have et2:(slT ub r i).set g (c4 (rowAt (slT ub r i) g) (-1) (rowAt (slT ub r i) (g+1)))=slT ub r (i+1):=by
    show _=(slT ub r i).set (r-2-i) (c4 (rowAt (slT ub r i) (r-2-i)) (-1) (rowAt (slT ub r i) (r-1-i)));rw[<-jX,J]
   rw[et2] at mF;generalize upd H5 T (.lst ((v.map V.ref).set g (.ref Z)))=H6 at nC iH mF D Z5 ⊢;obtain⟨d1,g1,U,h1⟩:=D.get (i:=g+1) ω;obtain⟨d2,g2,W,h2⟩:=D.get (i:=g) ω;have G:=ay.at (i:=g) ω;refine⟨_,rfl,_,rfl,B,_,_,_,rfl,rfl,SqL.of D.at_,zj U,_,rfl,_,rfl,_,_,rfl,rfl,B,_,_,_,rfl,rfl,SqL.of D.at_,by rw[e2];exact zj W,d1,d2,_,_,1,rfl,h1,h2,G.1,fun x hx=>p ξ (G.2 x hx),fun D7 H7 S iB e7=>?_⟩;refine⟨_,rfl,_,rfl,B,_,_,g+1,rfl,rfl,S _ _ D.at_,ix (by have:=D.rows.len;(first|lia|omega)),?_⟩;have qm:=D.put (s0.trans iH) (Same.refl H6) S iB e7 (by simp) Z5 (g+1);have tW:=(nC.same S).other (R:=B) (by simp) oy (o:=.lst ((bs.map V.ref).set (g+1) (.ref D7)));have qx:=(mF.same S).other (R:=B) (by simp) oK (o:=.lst ((bs.map V.ref).set (g+1) (.ref D7)));have sU:(slB bb r i).set (g+1) (c4 (rowAt (slB bb r i) (g+1)) 1 (rowAt (slB bb r i) g))=slB bb r (i+1):=by
    show _=(slB bb r i).set (r-1-i) (c4 (rowAt (slB bb r i) (r-1-i)) 1 (rowAt (slB bb r i) (r-2-i)));rw[<-jX,J]
   rw[sU] at qm;exact⟨_,_,_,_,rfl,(iH.trans S).then ng,tW,qx,qm⟩
  ·rintro σ H2 ⟨v5,rs,v,bs,rfl,sm,u,wT,wB⟩
   refine⟨_,rfl,_,rfl,_,rfl,by show 3<=sizeLine;decide,fun t' ht'=>?_⟩;have nB:=Same.new (o:=.tup [V.ref R,V.ref T,V.ref B]) ht';have nt:∀{Y:Addr}{ds:List Addr}{tx:Ξ},Wk H0 [R,T,B] H2 Y ds tx->H Y=none->Y∈[R,T,B]->NT H0 (upd H2 t' (.tup [V.ref R,V.ref T,V.ref B])) Y ds tx:=fun{Y ds tx} h hy hz=>
    ⟨nB _ _ h.at_,h.rows.same nB,h.nd,s0.free hy,fun d hd=>⟨(h.nw d hd).1,(h.nw d hd).2 Y hz⟩⟩
   exact k t' R T B rs v bs _ (sm.trans nB) zb (nt u hR (by simp)) (nt wT eG (by simp)) (nt wB ng (by simp))
end
end K28
end
section
namespace L2
open PySem PySem.Spec PyProof.Rows
section
variable{X:Cx}
def Hn{aa:Ψ}{σ:St}{H:Hp}{s:Shared}{l:Addr}{ns:List Int}(I:Inv X aa σ H s)(c:SqL X.K H l (ns.map V.int)):∃a,Reads s.heap (.ref l) (.list (ns.map PyData.int)) a:=by
 obtain⟨d,r,p,_⟩:=I.list c;obtain⟨o,b,hc,n,hd⟩:=p.isList;exact⟨_,.list b hc hd ((PySem.W.ke_carried (intsAre_of r)).reads s.heap)⟩
def lX(ns:List Int):SeqAt.shaped (.list (ns.map PyData.int))=true:=by
 simp[SeqAt.shaped,PyData.canLay0,PySem.W.ke_canLayAll0,PyData.depth,PySem.W.ke_depthAll]
def Ho(ns:List Int):(Shape.list .int).has (.list (ns.map PyData.int))=true:=by simp[Shape.has]
def ug(K:Ah):R2:=fun x y H Q=>∃l m ns ms,x=.ref l/\y=.ref m/\SqL K H l (List.map V.int ns)/\SqL K H m (List.map V.int ms)/\Q (.bl (decide (ns=ms))) H
def L8(e:X.A.units+64<cLine):cx X (compareOp .Eq) (ug X.K):=by
 intro aa s σ H x y v u Q I a b h;obtain⟨l,m,ns,ms,rfl,rfl,c,d,q⟩:=h;cases a;cases b;obtain⟨a1,r1⟩:=Hn I c;obtain⟨a2,r2⟩:=Hn I d;refine eq_dataH_same r1 r2 (lX _) (lX _) e (SeqAt.noMix_of_shape (.list .int) rfl _ _ (Ho _) (Ho _)) ?_;rw[show same (.list (ns.map PyData.int)) (.list (ms.map PyData.int))=decide (ns=ms) from by simp only[same];exact PySem.W.ke_sameAll ns ms];exact⟨.bl _,H,I,rfl,q⟩
end
end L2
end
section
namespace K28
open PySem L2
abbrev ur:Stmt:=top 26
abbrev uu:Stmt:=top 27
abbrev BL:Stmt:=top 24
def Hq:Bk "enumerate"=some (.type "enumerate"):=δ
def i_{a:Type}(p:Nat->List Int->Bool)(g:Nat->List Int->a)(l:List (List Int×Nat)):List a:=(l.filter fun q=>p q.2 q.1).map fun q=>g q.2 q.1
section
variable{P:Program}{w:World}{K:Ah}{mg:Str->Option Value}{base:Heap}
def Hr{H2:Hp}{L D:Addr}{rs:List Addr}{tb:Ξ}{Q:VK}{A:Type}{mkV:A->V}{p:Nat->List Int->Bool}{g:Nat->List Int->A}{tc:TT}{te:TE}{c:List (Option V)}(M:∀(i:Nat)(o:Addr)(os:List Int)(H:Hp)(R:VK)(S:Hp->Prop),Same H2 H->H o=some (.lst (os.map V.int))->os∈tb->(p i os=true->∀H',Same H H'->R (mkV (g i os)) H')->(p i os=false->S H)->tc (some (.int i)::some (.ref o)::c) H fun b u=>if b=true then te (some (.int i)::some (.ref o)::c) u R else S u)(s:SqL K H2 L (rs.map V.ref))(C:Rws H2 rs tb)(hz:tb.length<=1000)(E:H2 D=none)(k:∀f,Same H2 f->f D=some (.lst ((i_ p g tb.zipIdx).map mkV))->Q (.ref D) f):cz (C9 K L) (ci K 2 (cv (zS 0) (cv (zS 1) cf))) tc te (none::none::c) H2 D Q:=by
 have z:=C.len;refine p' tb.length (fun j σ ys f=>∃(l q:Option V),σ=l::q::c/\Same H2 f/\f D=some (.lst ys)/\ys=(i_ p g (tb.zipIdx.take j)).map mkV) ?_ ?_ ?_ ?_ ?_
 ·exact⟨none,none,rfl,Same.new E,zb,rfl⟩
 ·rintro σ ys f ⟨l,q,rfl,sm,d,rfl⟩
  exact⟨_,sm.seq s,by rw[Aa,z]⟩
 ·rintro i σ ys f hi ⟨l,q,rfl,sm,d,rfl⟩
  exact⟨_,sm.seq s,by rw[Aa,z];exact hi⟩
 ·rintro i σ ys f x H' hi hy ⟨l,q,rfl,sm,d,rfl⟩ ⟨pp,y,rfl,F,rfl,G⟩
  have J:=G _ (sm.seq s);obtain⟨a,I,rfl⟩:=jT J;obtain⟨r,w,hr⟩:=C.get I;have h:=Same.new (o:=.tup [.int i,.ref a]) F;have e:tb.zipIdx[i]?=some (r,i):=by rw[List.getElem?_zipIdx,w];simp
  refine⟨pp,_,rfl,SqT.of zb,rfl,_,_,rfl,_,_,rfl,rfl,?_⟩;refine M i a r _ _ _ (sm.trans h) ((sm.trans h) _ _ hr) (Al w) (fun hp u v=>?_) (fun hp=>?_)
  ·refine bI (zx ω) hi hy ((h.trans v) _ _ d) ⟨_,_,rfl,((sm.trans h).trans v).then E,zb,?_⟩
   rw[take_snoc e];unfold i_;rw[List.filter_append,Ap,Ap];simp[hp]
  ·refine jM hi hy ⟨_,_,rfl,sm.trans h,h _ _ d,?_⟩
   rw[take_snoc e];unfold i_;rw[List.filter_append];simp[hp]
 ·rintro σ ys f ⟨l,q,rfl,sm,d,rfl⟩
  rw[Ar (by simp)] at d;exact k f sm d
def df(tb:Ξ):Bool:=(i_ (fun _ _=>true) (fun k r=>decide (r=bL r k r.length)) tb.zipIdx).all id
def D4:Sp:=fun vs H Q _=>∃L rs tb,vs=[.ref L]/\H L=some (.lst (rs.map V.ref))/\Rws H rs tb/\tb.length<=1000/\(∀r∈tb,r.length<=1000)/\∀H',Same H H'->Q (.bl (df tb)) H'
def L9:zo ["table"] ["table"] (zf ur):=⟨rfl,rfl,rfl,δ,rfl,δ,δ⟩
def L_{f fs:Addr}{fd c:FuncData}(F:Fun K "is_on_slope" "is_on_slope" ur f fd)(G:mg "all"=none)(be:mg "enumerate"=none)(bl:mg "len"=none)(Fs:Fun K "slope_row" "slope_row" tI fs c)(bs:Binds K c ["numbers","k","width"] [])(ms:mg "slope_row"=some (.ref fs))(N:am P w K mg base ar 1 fs c ["numbers","k","width"] tK):am P w K mg base ar 2 f fd ["table"] D4:=by
 refine F.ok L9 (fun vs H Q E h=>?_) (fun O A outer s H vs Q E hr h=>?_)
 ·obtain⟨L,rs,tb,rfl,_⟩:=h;rfl
 ·obtain⟨L,rs,tb,rfl,j,y,hz,hw,k⟩:=h
  have z:=hr.units;refine⟨_,zh (zB (zv (p_ rfl) rfl G qS (za (zr ["table"] ["k","row"] [none,none] (FA rfl be Hq (za (pv 0) zc))
   (fun d C s₀ H₀ ex=>hJ rfl (zK (zl (i:=0) (ba ["k","row"]) rfl (Or.inl rfl)) (zK (zl (i:=1) (ba ["k","row"]) rfl (Or.inl rfl)) hH))) (fun d C s₀ H₀ ex=>zu)
   (fun d C s₀ H₀ ex=>m5 (L8 z) (pv 1) (zg N hr rfl ms Fs.kp bs .nil af (za (pv 1) (za (pv 0) (za (zv zn rfl bl dF (za (pv 1) zc)) zc)))) (ao _))
   (te:=bT (ug K) (ap 1) (hV tK [] E0 (cy (ap 1) (cy (ap 0) (cy (m_ (Db K) (cy (ap 1) ca)) ca))))) (hfr:=bE δ) (g:=ci K 2 (cv (zS 0) (cv (zS 1) cf)))) zc))),?_⟩
  refine⟨_,rfl,L,rfl,⟨_,SqL.of j⟩,fun D l=>zt (Hr (mkV:=V.bl) (p:=fun _ _=>true) (g:=fun k r=>decide (r=bL r k r.length)) (fun i o os H' R S sm a q u T=>fB ?_) (SqL.of j) y hz l fun I v b=>⟨D,_,rfl,SqL.of b,k I v⟩)⟩;refine⟨_,rfl,_,rfl,_,rfl,_,rfl,o,_,rfl,.inl (SqL.of a),o,os,i,os.length,by rw[Aa];rfl,a,hw os q,fun h=>h,fun J M e U x=>?_⟩;exact⟨o,J,os,_,rfl,rfl,SqL.of (e _ _ a),SqL.of x,u rfl M e⟩
def ck(tb:Ξ):List Int:=i_ (fun k r=>decide (k<r.length)&&decide (vc r k≠0)) (fun k r=>vc r k) tb.zipIdx
def D6:Sp:=fun vs H Q _=>∃L rs tb,vs=[.ref L]/\H L=some (.lst (rs.map V.ref))/\Rws H rs tb/\tb.length<=1000/\nF H Q (ck tb)
def L':zo ["table"] ["table"] (zf uu):=⟨rfl,rfl,rfl,δ,rfl,δ,δ⟩
def Ma{f:Addr}{fd:FuncData}(F:Fun K "slope_of" "slope_of" uu f fd)(be:mg "enumerate"=none)(bl:mg "len"=none):am P w K mg base ar 1 f fd ["table"] D6:=by
 refine F.ok L' (fun vs H Q E h=>?_) (fun G A outer s H vs Q E hr h=>?_)
 ·obtain⟨L,rs,tb,rfl,_⟩:=h;rfl
 ·obtain⟨L,rs,tb,rfl,u,y,hz,k⟩:=h
  refine⟨_,zh (zB (zr ["table"] ["k","row"] [none,none] (FA rfl be Hq (za (pv 0) zc))
   (fun d C s₀ H₀ ex=>hJ rfl (zK (zl (i:=0) (ba ["k","row"]) rfl (Or.inl rfl)) (zK (zl (i:=1) (ba ["k","row"]) rfl (Or.inl rfl)) hH)))
   (fun d C s₀ H₀ ex=>Fq (PW.pt (mX (zA CI (pv 0) (zv zn rfl bl dF (za (pv 1) zc)) (ao _)) (mU (zA iJ (zw zq (pv 1) (pv 0) (fun _ _=>rfl)) ze (ao _))))))
   (fun d C s₀ H₀ ex=>zw zq (pv 1) (pv 0) (fun _ _=>rfl)) (te:=bT (e8 K) (ap 1) (ap 0)) (tc:=pu (wR (bT (eP fun i j=>.bl (decide (i<j))) (ap 0) (m_ (Db K) (cy (ap 1) ca)))) (wR (bT wz (bT (e8 K) (ap 1) (ap 0)) (tC (.int 0))))) (hfr:=bE δ) (g:=ci K 2 (cv (zS 0) (cv (zS 1) cf))))),?_⟩
  refine⟨_,rfl,L,rfl,⟨_,SqL.of u⟩,fun D l=>zt (Hr (mkV:=V.int) (p:=fun k r=>decide (k<r.length)&&decide (vc r k≠0)) (g:=fun k r=>vc r k) (fun i o os H' R S sm b I v q=>?_) (SqL.of u) y hz l fun z x c=>k D z x l c)⟩;refine⟨_,rfl,_,rfl,o,_,rfl,.inl (SqL.of b),_,_,rfl,rfl,_,rfl,?_⟩;rw[Aa]
  by_cases c1:i<os.length
  ·rw[decide_eq_true (show((i:Nat):Int)<((os.length:Nat):Int) from ω)]
   refine aW ⟨_,rfl,_,rfl,o,_,_,_,rfl,rfl,SqL.of b,zj (fD c1),rfl,_,rfl,?_⟩
   by_cases a:vc os i=0
   ·rw[show(!decide (V.int (vc os i)=V.int 0))=false by rw[a];rfl]
    exact aQ (q (by rw[a];simp))
   ·rw[show(!decide (V.int (vc os i)=V.int 0))=true by rw[decide_eq_false (fun e=>a (by injection e))];rfl]
    exact aW ⟨_,rfl,_,rfl,o,_,_,_,rfl,rfl,SqL.of b,zj (fD c1),v (by simp[c1,a]) H' (Same.refl H')⟩
  ·rw[decide_eq_false (show ¬((i:Nat):Int)<((os.length:Nat):Int) from ω)]
   exact aQ (aQ (q (by simp[c1])))
def cU(tb:Ξ):Bool:=df tb&&eK (ck tb) tb.length
def Hs:Sp:=fun vs H Q _=>∃L rs tb,vs=[.ref L]/\H L=some (.lst (rs.map V.ref))/\Rws H rs tb/\tb.length<=1000/\(∀r∈tb,r.length<=1000)/\∀H',Same H H'->Q (.bl (cU tb)) H'
def Mb:zo ["table"] ["table"] (zf BL):=⟨rfl,rfl,rfl,δ,rfl,δ,δ⟩
def Mc{tb:Ξ}:(ck tb).length<=tb.length:=by
 unfold ck i_;rw[Aa];exact Ae (List.length_filter_le _ _) (by simp)
def Md{f fo fs fa:Addr}{fd i j l:FuncData}(F:Fun K "is_in_steps" "is_in_steps" BL f fd)(bl:mg "len"=none)(Fo:Fun K "is_on_slope" "is_on_slope" ur fo i)(r:Binds K i ["table"] [])(u:mg "is_on_slope"=some (.ref fo))(z:am P w K mg base ar 2 fo i ["table"] D4)(Fs:Fun K "slope_of" "slope_of" uu fs j)(bs:Binds K j ["table"] [])(ms:mg "slope_of"=some (.ref fs))(C:am P w K mg base ar 1 fs j ["table"] D6)(Fa:Fun K "are_steps" "are_steps" BJ fa l)(v:Binds K l ["steps","most"] [])(x:mg "are_steps"=some (.ref fa))(G:am P w K mg base ar 1 fa l ["steps","most"] Hj):am P w K mg base ar 3 f fd ["table"] Hs:=by
 refine F.ok Mb (fun vs H Q E h=>?_) (fun I A outer s H vs Q E hr h=>?_)
 ·obtain⟨L,rs,tb,rfl,_⟩:=h;rfl
 ·obtain⟨L,rs,tb,rfl,d,g,hz,hw,k⟩:=h
  have b:Room 1 _:=hr.mono ξ;refine⟨_,zh (zB (EI (zg z hr rfl u Fo.kp r .nil af (za (pv 0) zc)) (EH (zg G b rfl x Fa.kp v .nil af (za (zg C b rfl ms Fs.kp bs .nil af (za (pv 0) zc)) (za (zv zn rfl bl dF (za (pv 0) zc)) zc)))))),?_⟩;refine⟨_,rfl,L,rs,tb,rfl,d,g,hz,hw,fun H1 a=>⟨_,rfl,?_⟩⟩;have q:=g.len;cases c:df tb with
  |false=>
   have e:cU tb=false:=by unfold cU;rw[c];rfl
   rw[e] at k;exact aQ (k H1 a)
  |true=>
   refine aW ⟨_,rfl,L,rs,tb,rfl,a _ _ d,g.same a,hz,fun D H2 o J e2=>⟨_,rfl,L,_,rfl,.inl (SqL.of ((a.trans o) _ _ d)),D,ck tb,_,rfl,e2,Ae Mc hz,fun y p=>?_⟩⟩;have e:cU tb=eK (ck tb) (tb.length:Int):=by unfold cU;rw[c];rfl
   rw[e] at k;rw[Aa,q];exact k y ((a.trans o).trans p)
end
end K28
end
section
namespace Tb
def Bd.mono{N M X B M' d i:Nat}{R:List Vc}(h:Bd N M X B R)(q:M<=M')(u:X<=d)(v:B<=i):Bd N M' d i R:=
 ⟨h.ind,fun P f e s r g l=>by
  obtain⟨a,b,c⟩:=h.bd P f e s r g l;exact⟨fun p hp=>Ae (a p hp) v,fun r hr p hp=>Ae (b r hr p hp) q,fun j V hc o x hx=>Ae (c j V hc o x hx) (Ak _ (Ak _ u))⟩⟩
def Tri.row{k r w M g N X B:Nat}{ρ f:Nat->Vc}{Q:Nat->Nat}{P:List Nat}(T:Tri k r w M g ρ Q){i:Nat}(hi:i<k)(F:FS N M X B ((Ag i).map ρ) P f):∀p∈P,(ρ i p).natAbs<=M:=fun p hp=>by
 have e:=T.places ω F.ech F.srt (fun p hp=>(F.fr p hp).sp) (by rw[F.len];simp);rw[e] at hp;refine T.rows_le (j:=i+1) ω ω ?_;unfold pl at hp ⊢;rcases List.mem_append.mp hp with h|h
 ·exact List.mem_append_left _ (List.mem_range.mpr (by have:=List.mem_range.mp h;(first|lia|omega)))
 ·obtain⟨a,b,rfl⟩:=List.mem_map.mp h
  exact AA _ (List.mem_map.mpr ⟨a,List.mem_range.mpr (by have:=List.mem_range.mp b;(first|lia|omega)),rfl⟩)
def xW(N b:Nat):Nat:=1+2*b+(2+2*b)*N
def xK(N n m x b:Nat):Nat:=2+(n+(m+(b+1)*N+(n+(b+x))))
def xE(N n m x b:Nat):Nat:=1+(n+(n+(xK N n m x b+(2+b+n+xW N b)*N+m)+(b+1)*N+(n+(b+x))))
def pw{a b:Nat}(h:a<=b):2 ^ a<=2 ^ b:=Ax ξ h
def zy{x y a b:Nat}(h1:x<=2 ^ a)(h2:y<=2 ^ b):x*y<=2 ^ (a+b):=by rw[Nat.pow_add];exact AO h1 h2
def Me{b:Nat}:1+2 ^ b<=2 ^ (b+1):=by have:=AQ (n:=b);rw[Nat.pow_succ];(first|lia|omega)
def BM{x y a:Nat}(h1:x<=2 ^ a)(h2:y<=2 ^ a):x+y<=2 ^ (1+a):=by rw[Nat.add_comm 1,Nat.pow_succ];(first|lia|omega)
section
variable{N n m x b:Nat}
def l4(a:N<=2 ^ n):cC N (2 ^ x) (2 ^ b)<=2 ^ (n+(b+x)):=zy a (zy (Ad _) (Ad _))
def i':(1+2 ^ b) ^ N<=2 ^ ((b+1)*N):=by rw[Nat.pow_mul];exact Nat.pow_le_pow_left Me _
def Mf:cW N (2 ^ b)<=2 ^ xW N b:=by
 unfold cW xW;have e:2*2 ^ b*2 ^ b=2 ^ (1+2*b):=by
  have h:2*b=b+b:=ω
  rw[h,Nat.pow_add,Nat.pow_add,Nat.pow_one,AN]
 rw[e];refine zy (Ad _) ?_;have:=i' (N:=N) (b:=1+2*b)
 rwa [show 1+2*b+1=2+2*b from ω] at this
def Mg(h1:1<=N)(c:N<=2 ^ n):cG N (2 ^ b)<=2 ^ (2+b+n+xW N b):=by
 unfold cG;have h2:2*2 ^ b<=2 ^ (1+b):=by rw[Nat.pow_add];exact Ad _
 have a:1+N*cW N (2 ^ b)<=2 ^ (1+(n+xW N b)):=BM (AQ) (zy c Mf);have:=zy h2 a
 rwa [show 1+b+(1+(n+xW N b))=2+b+n+xW N b from ω] at this
def Mh(a:N<=2 ^ n):cK N (2 ^ m) (2 ^ x) (2 ^ b)<=2 ^ xK N n m x b:=by
 unfold cK xK;have h1:=l4 (x:=x) (b:=b) a;have h2:N*(2 ^ m*(1+2 ^ b) ^ N*cC N (2 ^ x) (2 ^ b))<=2 ^ (n+(m+(b+1)*N+(n+(b+x)))):=zy a (zy (zy (Ad _) i') h1);have c:1+cC N (2 ^ x) (2 ^ b)<=2 ^ (1+(n+(m+(b+1)*N+(n+(b+x))))):=BM AQ (Ae h1 (pw ω));have:=BM c (Ae h2 (pw (Nat.le_add_left _ 1)))
 rwa [<-Nat.add_assoc] at this
def Mj(h1:1<=N)(a:N<=2 ^ n):cE N (2 ^ m) (2 ^ x) (2 ^ b)<=2 ^ xE N n m x b:=by
 have c:cM N (2 ^ m) (2 ^ x) (2 ^ b)<=2 ^ (xK N n m x b+(2+b+n+xW N b)*N):=by
  unfold cM;refine zy (Mh a) ?_;rw[Nat.pow_mul];exact Nat.pow_le_pow_left (Mg h1 a) _
 unfold cE xE;refine BM (Ae c (pw ω)) ?_;exact zy a (zy (zy (zy a (zy c (Ad _))) i') (l4 a))
def Mk{e x' b':Nat}(h1:m<=e)(h2:x<=x')(f:b<=b'):xE N n m x b<=xE N n e x' b':=by
 unfold xE xK xW;have a:(b+1)*N<=(b'+1)*N:=Am _ ω;have c:(2+2*b)*N<=(2+2*b')*N:=Am _ ω;have d:(2+b+n+(1+2*b+(2+2*b)*N))*N<=(2+b'+n+(1+2*b'+(2+2*b')*N))*N:=Am _ ω;(first|lia|omega)
end
section
variable{A T U V T' U' V':Nat->Vc}{k w r D bU bV g:Nat}{Bn Bf:List Vc}{QU QV:Nat->Nat}
def iu{n:Nat}{W W':Nat->Vc}(h:∀i,i<n->W i=W' i):tl n W=tl n W':=A8 fun i hi=>h i (List.mem_range.mp hi)
def Ker.cg{n b:Nat}{W W':Nat->Vc}{Q:Nat->Nat}(hr:r<=n)(K:Ker n r g b W Q)(h:∀i,i<n->W i=W' i):Ker n r g b W' Q:=
 ⟨K.qs,fun a u d e=>by rw[<-h _ ω];exact K.kz a u d e,fun a d=>by rw[<-h _ ω];exact K.kp a d,fun a c h1 h2=>by rw[<-h _ ω,<-h _ ω];exact K.kq a c h1 h2,fun i a hi d=>by rw[<-h i ω,<-h _ ω];exact K.tq i a hi d,fun a d=>by rw[<-h _ ω];exact K.km a d⟩
def LI.cg(I:LI A k w r D bU bV g T U V Bn Bf QU QV)(b:∀u i,u<w->i<k->T u i=T' u i)(c:∀i,i<k->U i=U' i)(d:∀u,u<w->V u=V' u):LI A k w r D bU bV g T' U' V' Bn Bf QU QV:=by
 have rk:=I.rk;have e:=I.rw;refine⟨rk,e,I.g1,fun u i a hi=>?_,?_,?_,I.ku.cg rk c,I.kv.cg e d,fun u a=>?_,fun u i a hi=>?_,fun u i h1 h2=>?_,fun u i a hi h=>?_,fun m f=>?_⟩
 ·rw[<-b u i a hi,<-c i hi,<-d u a];exact I.bl u i a hi
 ·rw[<-iu c];exact I.bu
 ·rw[<-iu d];exact I.bv
 ·rw[<-b u u ω ω];exact I.tp u a
 ·rw[<-b u i ω ω];exact I.tz u i a hi
 ·rw[<-b u i ω ω,<-b i i ω ω];exact I.tr u i h1 h2
 ·rw[<-b u i a hi];exact I.to u i a hi h
 ·rw[<-ii fun i hi=>b i i ω ω];exact I.pd m f
def LI.small(I:LI A k w r D bU bV g T U V Bn Bf QU QV){u i:Nat}(a:u<w)(hi:i<k):(T u i).natAbs<=D:=by
 have rk:=I.rk;have b:=I.rw
 by_cases h:r<=u\/r<=i
 ·rw[I.to u i a hi h];exact Aw _
 ·rcases Nat.lt_trichotomy u i with g|g|g
  ·have:=I.tr u i g ω
   have:=I.diag_le (i:=i) ω;(first|lia|omega)
  ·subst g;exact I.diag_le ω
  ·rw[I.tz u i ω g];exact Aw _
def LM.small{S:Nat->Vc}(I:LM A k w r D bU bV g S U V Bn Bf QU QV){u i:Nat}(a:u<w)(hi:i<k):(S i u).natAbs<=D:=by
 have rk:=I.rk;have b:=I.rw
 by_cases h:r<=u
 ·have:=I.sl.z u i h a hi
  have this:S i u=0:=this;rw[this];exact Aw _
 ·rcases Nat.lt_trichotomy u i with g|g|g
  ·have this:S i u=0:=I.sl.tz u i ω g hi
   rw[this];exact Aw _
  ·subst g;exact I.diag_le ω
  ·have this:(S i u).natAbs<=(S u u).natAbs:=I.sl.tl u i ω g
   exact Ae this (I.diag_le ω)
def Dg.cg(h:Dg r T)(rk:r<=k)(rw:r<=w)(b:∀u i,u<w->i<k->T u i=T' u i):Dg r T':=fun u i a hi ne=>by rw[<-b u i ω ω];exact h u i a hi ne
def Ht:∀r,(∀i,i<r->T i i=T' i i)->mu T r=mu T' r
 |0,_=>rfl
 |r+1,h=>by
  show mu T r+_=mu T' r+_;rw[Ht r fun i hi=>h i ω,ii fun i hi=>h i hi]
def Ml(h:∀u i,u<r->i<r->T u i=T' u i):ms r T=ms r T':=by
 unfold ms;rw[Ht r fun i hi=>h i i hi hi];have:Dg r T↔Dg r T':=⟨fun d u i a hi ne=>by rw[<-h u i a hi];exact d u i a hi ne,fun d u i a hi ne=>by rw[h u i a hi];exact d u i a hi ne⟩
 by_cases c:Dg r T
 ·rw[if_pos c,if_pos (this.mp c)]
 ·rw[if_neg c,if_neg fun z=>c (this.mpr z)]
end
end Tb
end
section
namespace K28
open PySem L2
def fn(tb:Ξ):Nat->Tb.Vc:=fun i=>vc (rowAt tb i)
def zC{tb:Ξ}{i:Nat}{r:List Int}(h:tb[i]?=some r):rowAt tb i=r:=by unfold rowAt;rw[Ab,h];rfl
def zI{tb:Ξ}{i:Nat}(h:i<tb.length):rowAt tb i∈tb:=by rw[zC (Ac h)];exact Ay _
def uE{tb:Ξ}{i:Nat}(h:tb.length<=i):rowAt tb i=[]:=by unfold rowAt;rw[Ab,List.getElem?_eq_none h];rfl
def BN{tb:Ξ}{r:List Int}(h:r∈tb):∃i,i<tb.length/\rowAt tb i=r:=by
 obtain⟨i,hi,rfl⟩:=A5 h;exact⟨i,hi,zC (Ac hi)⟩
def ja{l:List Int}{u:Nat}(h:u<l.length):vc l u=l[u]:=by unfold vc;rw[Ab,Ac h];rfl
def D8{a b:List Int}{m u:Nat}(h:a.length=m):vc (a++b) u=if u<m then vc a u else vc b (u-m):=by
 unfold vc;rw[Ab,Ab,Ab]
 by_cases c:u<m
 ·rw[if_pos c,List.getElem?_append_left ω]
 ·rw[if_neg c,List.getElem?_append_right ω,h]
def Mm{a:List Int}{m u:Nat}:vc (a.take m) u=if u<m then vc a u else 0:=by
 unfold vc;rw[Ab,Ab,List.getElem?_take];split<;>rfl
def Mn{a:List Int}{m u:Nat}:vc (a.drop m) u=vc a (m+u):=by
 unfold vc;rw[Ab,Ab,List.getElem?_drop]
def Hu{tb:Ξ}{n:Nat}(h:tb.length=n):tb.map vc=Tb.tl n (fn tb):=by
 unfold Tb.tl;apply AV
 ·simp[h]
 ·intro i h1 h2
  rw[AU,AU,A4];show _=vc (rowAt tb i);rw[Aa] at h1;rw[zC (Ac h1)]
section
variable{tb ub:Ξ}{m n:Nat}
def l5(a:tb.length=n)(b:ub.length=n):(cat tb ub).length=n:=by unfold cat;rw[Az,a,b,Nat.min_self]
def Hv(a:tb.length=n)(b:ub.length=n){i:Nat}(hi:i<n):rowAt (cat tb ub) i=rowAt tb i++rowAt ub i:=by
 have h1:=Ac (show i<tb.length from ω);have h2:=Ac (show i<ub.length from ω);rw[zC h1,zC h2];refine zC ?_;unfold cat;rw[List.getElem?_zipWith,h1,h2]
def D9(a:tb.length=n)(b:ub.length=n)(w1:∀r∈tb,r.length=m){i:Nat}(hi:i<n):fn (cat tb ub) i=Tb.glue m (fn tb) (fn ub) i:=funext fun u=>by
 unfold fn Tb.glue;rw[Hv a b hi,D8 (w1 _ (zI ω))]
def BO(a:tb.length=n)(b:ub.length=n)(w1:∀r∈tb,r.length=m):(cat tb ub).map vc=Tb.tl n (Tb.glue m (fn tb) (fn ub)):=by
 rw[Hu (l5 a b)];exact Tb.iu fun i hi=>D9 a b w1 hi
def Mo{ρ:Nat->Tb.Vc}{i:Nat}(h:i<=n):(Tb.tl n ρ).take i=Tb.tl i ρ:=by
 unfold Tb.tl;rw[<-List.map_take,List.take_range,Nat.min_eq_left h]
def Hw(a:tb.length=n)(b:ub.length=n)(w1:∀r∈tb,r.length=m){i:Nat}(hi:i<=n):((cat tb ub).take i).map vc=Tb.tl i (Tb.glue m (fn tb) (fn ub)):=by
 rw[List.map_take,BO a b w1,Mo hi]
end
def D_{fr:Nat->List Int}{W:Nat}:∀{ps:List Nat}{rn:List Int},rn.length=W->(∀p∈ps,(fr p).length=W)->shrL fr rn ps=Tb.shr (vF fr) ps (vc rn)
 |[],_,_,_=>rfl
 |p::ps,rn,h,h2=>by
  have hp:=h2 p (AC ..);show _::shrL fr (cR fr rn p) ps=_::Tb.shr (vF fr) ps (Tb.step (vF fr) p (vc rn));rw[D_ (ps:=ps) (Du h hp) fun q hq=>h2 q (AG _ hq),Gd ω]
  rfl
structure Side(N M X B Y m n:Nat)(tb ub bb:Ξ):Prop where
 l1:tb.length=n
 l2:ub.length=n
 l3:bb.length=n
 w1:∀r∈tb,r.length=m
 w2:∀r∈ub,r.length=n
 w3:∀r∈bb,r.length=n
 n40:n<=40
 m40:m<=40
 nN:n<=N
 N1:1<=N
 N64:N<64
 bd:∀j,j<=n->Tb.Bd N M X B (Tb.tl j (Tb.glue m (fn tb) (fn ub)))
 row:∀i,i<n->∀P f,Tb.FS N M X B (Tb.tl i (Tb.glue m (fn tb) (fn ub))) P f->∀p∈P,(Tb.glue m (fn tb) (fn ub) i p).natAbs<=M
 hY:∀i,i<n->∀u,(Tb.glue m (fn tb) (fn ub) i u).natAbs<=Y
 B1:1<=B
 X1:1<=X
 Y1:1<=Y
 piv:B<2 ^ 9000
 lim:N*(Tb.cE N M X B*Y)<big
 bk:∀r∈bb,∀x∈r,x.natAbs<big
section
variable{N M X B Y m n:Nat}{tb ub bb:Ξ}
def Side.lenW(S:Side N M X B Y m n tb ub bb):∀r∈cat tb ub,r.length=m+n:=fun r hr=>by
 obtain⟨i,hi,rfl⟩:=BN hr;rw[l5 S.l1 S.l2] at hi;rw[Hv S.l1 S.l2 hi,AK,S.w1 _ (zI (by rw[S.l1];exact hi)),S.w2 _ (zI (by rw[S.l2];exact hi))]
def Side.mem(S:Side N M X B Y m n tb ub bb):∀r∈cat tb ub,∃i,i<n/\vc r=Tb.glue m (fn tb) (fn ub) i:=fun r hr=>by
 obtain⟨i,hi,rfl⟩:=BN hr;rw[l5 S.l1 S.l2] at hi;exact⟨i,hi,D9 S.l1 S.l2 S.w1 hi⟩
def Side.cC1(S:Side N M X B Y m n tb ub bb):1<=Tb.cC N X B:=Nat.mul_pos S.N1 (Nat.mul_pos S.B1 S.X1)
def Side.cK_le(S:Side N M X B Y m n tb ub bb):N*(Tb.cK N M X B*Y)<big:=
 Au (Ak _ (Am _ (Ae (Tb.DU S.B1) Tb.ox))) S.lim
def Side.at(S:Side N M X B Y m n tb ub bb){P:List Nat}{f:Nat->Tb.Vc}(F:Tb.FS N M X B ((cat tb ub).map vc) P f):∀r∈cat tb ub,∀p∈P,(vc r p).natAbs<=M:=by
 rw[BO S.l1 S.l2 S.w1] at F;have h:=((S.bd n (Ad _)).bd P f F.ech F.srt F.gen (fun p hp=>(F.fr p hp).sp) F.len).2.1;intro r hr p hp;refine h (vc r) ?_ p hp;obtain⟨i,hi,e⟩:=S.mem r hr;rw[e];exact List.mem_map.mpr ⟨i,List.mem_range.mpr hi,rfl⟩
def Mp{R:List Tb.Vc}{P:List Nat}{f:Nat->Tb.Vc}(F:Tb.FS N M X B R P f):∀p∈P,∀q∈P,(f p q).natAbs<=B:=fun p hp q hq=>by
 rcases Nat.lt_trichotomy p q with h|h|h
 ·have:=F.red p hp q hq h
  have:=F.piv q hq;(first|lia|omega)
 ·subst h;exact F.piv p hp
 ·rw[F.ech.z p hp q h];exact Aw _
def Side.shr_le(S:Side N M X B Y m n tb ub bb){P:List Nat}{fr:Nat->List Int}(F:Tb.FS N M X B ((cat tb ub).map vc) P (vF fr))(b:Wid (m+n) P fr):∀r∈cat tb ub,∀x∈shrL fr r P,x.natAbs<=M*2 ^ n:=by
 intro r hr x hx;rw[D_ (S.lenW r hr) fun p hp=>(b.row p hp).2] at hx;have a:P.length=n:=by rw[F.len,Aa,l5 S.l1 S.l2]
 have:=Tb.Lj F.ech F.srt F.red (F.gen (vc r) (List.mem_map.mpr ⟨r,hr,rfl⟩)) (V:=M) (fun p hp=>Ae (S.at F r hr p hp) (Nat.le_mul_of_pos_right _ (by have:=F.ech.pos p hp;(first|lia|omega)))) x hx
 rwa [a] at this
def Side.ok(S:Side N M X B Y m n tb ub bb):Hk N M X B Y m n tb ub bb:=by
 have a:=l5 S.l1 S.l2;have l:∀r∈(cat tb ub).map vc,∀u,(r u).natAbs<=Y:=fun r hr u=>by
  obtain⟨q,hq,rfl⟩:=List.mem_map.mp hr;obtain⟨i,hi,e⟩:=S.mem q hq;rw[e];exact S.hY i hi u
 refine⟨S.l1,S.l2,S.l3,S.w1,S.w3,S.n40,by have:=S.m40;(first|lia|omega),S.w2,⟨by have:=S.m40;have:=S.n40;(first|lia|omega),by rw[a];exact S.nN,S.lenW,fun i hi=>?_,fun i r hr P f F p hp=>?_⟩,fun P fr F b r hr=>?_,fun P fr F b r hr x hx row g y hy=>?_⟩
 ·rw[a] at hi
  rw[Hw S.l1 S.l2 S.w1 ω];refine⟨S.B1,S.piv,S.lim,fun r hr u=>?_,S.N64,S.bd (i+1) ω⟩;obtain⟨j,h,rfl⟩:=List.mem_map.mp hr;exact S.hY j (by have:=List.mem_range.mp h;(first|lia|omega)) u
 ·have hi:i<n:=by have:=(List.getElem?_eq_some_iff.mp hr).1;rwa [a] at this
  rw[Hw S.l1 S.l2 S.w1 ω] at F;have:=S.row i hi P f F p hp
  rwa [<-D9 S.l1 S.l2 S.w1 hi,fn,zC hr] at this
 ·have d:P.length=n:=by rw[F.len,Aa,a]
  have c:((cat tb ub).map vc).length<=N:=by rw[Aa,a];exact S.nN
  have e1:1+P.length*(M*(1+B) ^ P.length*Tb.cC N X B)<=Tb.cK N M X B:=by
   unfold Tb.cK;have:P.length*(M*(1+B) ^ P.length*Tb.cC N X B)<=N*(M*(1+B) ^ N*Tb.cC N X B):=AO (by rw[d];exact S.nN) (Am _ (Ak _ (Ax ω (by rw[d];exact S.nN))));(first|lia|omega)
  refine K' (C:=1) (CF:=Tb.cC N X B) (V:=M) (VF:=B) l c F.fr (Mp F) F.ech.pos (fun p hp=>Au (F.piv p hp) S.piv) b (S.lenW r hr) (Tb.Rep.mem (List.mem_map.mpr ⟨r,hr,rfl⟩)) (fun q hq=>S.at F r hr q hq) (fun p hp=>hp) ?_ ?_
  ·exact Au (Ak _ (Am _ e1)) S.cK_le
  ·refine Au (Ak _ (Am _ ?_)) S.cK_le
   unfold Tb.cK;(first|lia|omega)
 ·have h1:=S.shr_le F b r hr x hx
  refine Bw ?_ (S.bk row g y hy);rw[Int.natAbs_neg];refine Au h1 (Au ?_ S.cK_le);have a1:2 ^ n<=(1+B) ^ N:=Ae (Nat.pow_le_pow_left (by have:=S.B1;(first|lia|omega)) _) (Ax ω S.nN);have a2:M*2 ^ n<=M*(1+B) ^ N*Tb.cC N X B:=Ae (Ak _ a1) (Nat.le_mul_of_pos_right _ S.cC1);have a3:M*2 ^ n<=Tb.cK N M X B:=by
   unfold Tb.cK;have:=Nat.le_mul_of_pos_left (M*(1+B) ^ N*Tb.cC N X B) S.N1;(first|lia|omega)
  exact Ae a3 (Ae (Nat.le_mul_of_pos_right _ S.Y1) (Nat.le_mul_of_pos_left _ S.N1))
end
def Hx{w:Nat}:∀{ns:List Int}{tb:Ξ}{l:List Int},l.length=w->(∀r∈tb,r.length=w)->∀u,vc ((ns.zip tb).foldl ce l) u=vc l u+Tb.cmb ns (tb.map vc) u
 |[],tb,l,_,_,u=>by cases tb<;>(show vc l u=vc l u+0;(first|lia|omega))
 |_::_,[],l,_,_,u=>by show vc l u=vc l u+0;(first|lia|omega)
 |x::ns,r::tb,l,hl,h,u=>by
  have hr:=h r (AC ..);show vc ((ns.zip tb).foldl ce (ce l (x,r))) u=vc l u+(x*vc r u+Tb.cmb ns (tb.map vc) u);rw[Hx (G_ hl hr) (fun r hr=>h r (AG _ hr)) u];have:vc (ce l (x,r)) u=vc l u - -x*vc r u:=by
   unfold ce c4;rw[sK (by simp) (show l.length=r.length from ω)]
  rw[this,Int.neg_mul];(first|lia|omega)
def BP{w u:Nat}:vc (An w 0) u=0:=by
 unfold vc;rw[Ab,List.getElem?_replicate];split<;>rfl
def Mq{w:Nat}{ns:List Int}{tb:Ξ}(h:∀r∈tb,r.length=w):vc (fE w ns tb)=Tb.cmb ns (tb.map vc):=funext fun u=>by
 unfold fE;rw[Hx (A7) h u,BP];(first|lia|omega)
def Mr{w:Nat}{ns:List Int}{tb:Ξ}(h:∀r∈tb,r.length=w):(fE w ns tb).length=w:=
 DZ A7 fun z hz=>h z.2 (List.of_mem_zip hz).2
def Ent(tb:Ξ)(K:Nat):Prop:=∀i u,(fn tb i u).natAbs<=K
def Ent.mem{tb:Ξ}{K:Nat}(h:Ent tb K):∀r∈tb,∀x∈r,x.natAbs<=K:=fun r hr x hx=>by
 obtain⟨i,_,rfl⟩:=BN hr;obtain⟨u,_,rfl⟩:=Bv hx;exact h i u
def Ent.mono{tb:Ξ}{K a:Nat}(h:Ent tb K)(hk:K<=a):Ent tb a:=fun i u=>Ae (h i u) hk
def oF{tb:Ξ}{K n:Nat}(a:tb.length=n)(h:∀i,i<n->∀u,(fn tb i u).natAbs<=K):Ent tb K:=fun i u=>by
 by_cases c:i<n
 ·exact h i c u
 ·unfold fn
  rw[uE ω];exact Aw _
def Hy{P:List Nat}{g:Nat->List Int}{i:Nat}(h:i<P.length):rowAt (P.map g) i=g (Tb.pp P i):=by
 refine zC ?_;unfold Tb.pp;rw[Aj,Ab,Ac h]
 rfl
def oG{n:Nat}{g:Nat->List Int}{i:Nat}(h:i<n):rowAt ((Ag n).map g) i=g i:=zC (by rw[Aj,AR h];rfl)
def zV{n:Nat}{T:Ξ}{i:Nat}(h:i<n)(u:Nat):fn ((Ag n).map (colAt T)) i u=fn T u i:=by
 unfold fn;rw[oG h]
 by_cases c:u<T.length
 ·rw[zC (Ac c)]
  unfold colAt;show List.getD _ _ _=_;rw[Ab,Aj,Ac c]
  rfl
 ·rw[uE ω]
  show List.getD _ _ _=_;unfold colAt;rw[Ab,Aj,List.getElem?_eq_none ω]
  rfl
def zR{n:Nat}{T:Ξ}:((Ag n).map (colAt T)).length=n:=by simp
def fF{n w:Nat}{T:Ξ}(h:T.length=w):∀r∈(Ag n).map (colAt T),r.length=w:=fun r hr=>by
 obtain⟨j,_,rfl⟩:=List.mem_map.mp hr;unfold colAt;rw[Aa,h]
def oH{n i:Nat}(h:i<n):fn (unT n) i=Tb.un i:=funext fun t=>by
 unfold fn unT slpT;rw[oG h];unfold bL Tb.un Tb.dl vc;rw[A7,if_pos h,Ab,List.getElem?_set,Ab,List.getElem?_replicate,if_pos h]
 by_cases c:i=t
 ·rw[if_pos c,if_pos c,A7,if_pos h];rfl
 ·rw[if_neg c,if_neg c,List.getElem?_replicate]
  split<;>rfl
def BQ{n:Nat}:(unT n).length=n:=by unfold unT slpT;simp
def l7{n:Nat}:∀r∈unT n,r.length=n:=fun r hr=>by
 unfold unT slpT at hr;obtain⟨j,_,rfl⟩:=List.mem_map.mp hr;unfold bL;split<;>simp
section
variable{N M X B Y m n:Nat}{tb ub bb:Ξ}{P:List Nat}{fr:Nat->List Int}
structure Done(N M X B m n:Nat)(tb ub bb:Ξ)(P:List Nat)(fr:Nat->List Int)(aG cm jP:Ξ):Prop where
 fs:Tb.FS N M X B (Tb.tl n (Tb.glue m (fn tb) (fn ub))) P (vF fr)
 lP:P.length=n
 l1:aG.length=n
 l2:cm.length=n
 l3:jP.length=n
 w1:∀r∈aG,r.length=m
 w2:∀r∈cm,r.length=n
 w3:∀r∈jP,r.length=n
 f1:∀i u,i<n->u<m->fn aG i u=vF fr (Tb.pp P i) u
 f2:∀i,i<n->fn cm i=fun t=>vF fr (Tb.pp P i) (m+t)
 f3:Tb.tl n (fn jP)=Tb.lE n ((Tb.tl n (Tb.glue m (fn tb) (fn ub))).map fun r=>Tb.shr (vF fr) P r) (Tb.tl n (fn bb))
 e2:∀{a:Nat},Ent ub a->Ent cm (N*(Tb.cC N X B*a))
 e3:∀{b:Nat},Ent bb b->Ent jP (N*(M*2 ^ N*b))
def Side.done(S:Side N M X B Y m n tb ub bb)(F:Tb.FS N M X B ((cat tb ub).map vc) P (vF fr))(f:Wid (m+n) P fr):Done N M X B m n tb ub bb P fr (P.map fun p=>(fr p).take m) (P.map fun p=>(fr p).drop m) (io n ((cat tb ub).map fun r=>shrL fr r P) bb):=by
 have z:=S.shr_le F f;have g:=F;rw[BO S.l1 S.l2 S.w1] at g;have d:P.length=n:=by rw[F.len,Aa,l5 S.l1 S.l2]
 have f2:∀i,i<n->fn (P.map fun p=>(fr p).drop m) i=fun t=>vF fr (Tb.pp P i) (m+t):=fun i hi=>funext fun t=>by
  unfold fn;rw[Hy ω,Mn]
  rfl
 have h:(io n ((cat tb ub).map fun r=>shrL fr r P) bb).length=n:=by unfold io;simp
 have l:∀j,j<n->fn (io n ((cat tb ub).map fun r=>shrL fr r P) bb) j=Tb.cmb (colAt ((cat tb ub).map fun r=>shrL fr r P) j) (bb.map vc):=fun j c=>by
  unfold fn io;rw[oG c,Mq S.w3]
 refine⟨g,d,by rw[Aa,d],by rw[Aa,d],h,fun r hr=>?_,fun r hr=>?_,fun r hr=>?_,fun i u hi o=>?_,f2,?_,fun{a} q=>?_,fun{b} hb=>?_⟩
 ·obtain⟨p,hp,rfl⟩:=List.mem_map.mp hr
  rw[List.length_take,(f.row p hp).2];(first|lia|omega)
 ·obtain⟨p,hp,rfl⟩:=List.mem_map.mp hr
  rw[List.length_drop,(f.row p hp).2];(first|lia|omega)
 ·unfold io at hr
  obtain⟨j,_,rfl⟩:=List.mem_map.mp hr;exact Mr S.w3
 ·unfold fn
  rw[Hy ω,Mm,if_pos o]
  rfl
 ·have e:Tb.tl n (fn (io n ((cat tb ub).map fun r=>shrL fr r P) bb))=(Ag n).map fun j=>Tb.cmb (colAt ((cat tb ub).map fun r=>shrL fr r P) j) (bb.map vc):=A8 fun j c=>l j (List.mem_range.mp c)
  rw[e];unfold Tb.lE;refine A8 fun j _=>funext fun s=>?_;rw[Hu S.l3];have e2:(Tb.tl n (Tb.glue m (fn tb) (fn ub))).map (fun r=>Tb.shr (vF fr) P r)=(cat tb ub).map fun r=>shrL fr r P:=by
   rw[<-BO S.l1 S.l2 S.w1,AS];exact A8 fun r hr=>(D_ (S.lenW r hr) fun p hp=>(f.row p hp).2).symm
  rw[e2]
  rfl
 ·refine oF (n:=n) (by rw[Aa,d]) fun i hi u=>?_
  rw[f2 i hi];exact Tb.Lk g (fun i t hi=>q i t) _ (Tb.ow d hi) u
 ·refine oF h fun j c u=>?_
  rw[l j c];have A:(colAt ((cat tb ub).map fun r=>shrL fr r P) j).length=(bb.map vc).length:=by unfold colAt;rw[Aa,Aa,Aa,l5 S.l1 S.l2,S.l3]
  have C:Tb.Rep (bb.map vc) (M*2 ^ n) (Tb.cmb (colAt ((cat tb ub).map fun r=>shrL fr r P) j) (bb.map vc)):=by
   refine⟨_,A,fun u=>rfl,fun x hx=>?_⟩;unfold colAt at hx;rw[AS] at hx;obtain⟨r,hr,rfl⟩:=List.mem_map.mp hx;show((shrL fr r P).getD j 0).natAbs<=_;rw[Ab];cases e:(shrL fr r P)[j]? with
   |none=>exact Aw _
   |some y=>exact z r hr y (Al e)
  have:=C.le (u:=u) (M:=b) fun v w=>by
   obtain⟨r,hr,rfl⟩:=List.mem_map.mp w;obtain⟨i,_,rfl⟩:=BN hr;exact hb i u
  refine Ae this (AO (by rw[Aa,S.l3];exact S.nN) (Am _ (Ak _ (Tb.pw S.nN))))
end
end K28
end
section
namespace Tb
def Ker.mono{n r g g' b:Nat}{W:Nat->Vc}{Q:Nat->Nat}(K:Ker n r g b W Q)(h:g<=g'):Ker n r g' b W Q:=⟨K.qs,K.kz,K.kp,K.kq,fun i a hi c=>Ae (K.tq i a hi c) (Am _ h),K.km⟩
def LM.mono{A S U V:Nat->Vc}{k w r D bU bV g g':Nat}{Bn Bf:List Vc}{QU QV:Nat->Nat}(I:LM A k w r D bU bV g S U V Bn Bf QU QV)(h:g<=g'):LM A k w r D bU bV g' S U V Bn Bf QU QV:=⟨I.rk,I.rw,Ae I.g1 h,I.bl,I.bu,I.bv,I.ku.mono h,I.kv,I.sl,I.pd⟩
end Tb
namespace K28
open PySem L2
def x1(N n m:Nat):Nat:=(1+n+m)*N
def dd(N n m:Nat):Nat:=(2+n+m)*N
def be(N n m:Nat):Nat:=n+m+dd N n m
def m2(N n m:Nat):Nat:=2*n+be N n m+x1 N n m+m
def x2(N n m:Nat):Nat:=(1+n+m2 N n m)*N
def ga(N n m:Nat):Nat:=n+x2 N n m+m2 N n m
def Tm(N n m:Nat):Nat:=2*(N*dd N n m)+1
def kp(N n m:Nat):Nat:=ga N n m+(n+1)*N+2*n+1
def k0(N n m:Nat):Nat:=2*n+ga N n m+x2 N n m+m2 N n m+N+m
structure Good(N n m:Nat):Prop where
 N1:1<=N
 N40:N<=40
 Nn:N<=2 ^ n
 piv:ga N n m<9000
 m9:m<=900
 lim:n+Tb.xE N n (n*Tm N n m+ga N n m) ((n*Tm N n m+1)*N+x2 N n m) (ga N n m)+(k0 N n m+kp N n m*(Tm N n m+1))<67107860
def Hz{a b:Nat}(h:a<=2 ^ b)(hb:b<67108864):a<big:=by
 unfold big;exact Au h (Nat.pow_lt_pow_right ξ (by rw[lj];exact hb))
noncomputable def low:Nat:=2 ^ (bt-1000)
def HA{a b:Nat}(h:a<=2 ^ b)(hb:b<67107864):a<low:=by
 unfold low;exact Au h (Nat.pow_lt_pow_right ξ (by rw[lj];exact hb))
def Ea{a b:Nat}(h:a<=2 ^ b)(hb:b<67107863):a+1000<low:=by
 obtain⟨c,hc,hd⟩:∃c,bt-1000=c+1/\c=67107863:=⟨bt-1001,by rw[lj],by rw[lj]⟩;have h1:a<2 ^ c:=Au h (Nat.pow_lt_pow_right ξ ω);have h2:2 ^ 10<=2 ^ c:=Ax ξ ω;unfold low;rw[hc,Nat.pow_succ];have d:(2:Nat) ^ 10=1024:=ξ
 rw[d] at h2;generalize (2:Nat) ^ c=z at *;(first|lia|omega)
def HB{a:Nat}(h:a<low):a<big:=by
 unfold low at h;unfold big;exact At h (Ax ξ (Nat.sub_le _ _))
section
variable{N n m:Nat}
def gT(G:Good N n m):be N n m<=m2 N n m/\m2 N n m<=x2 N n m/\x2 N n m<=ga N n m/\dd N n m<=be N n m/\be N n m<=ga N n m/\x1 N n m<=m2 N n m:=by
 have h:m2 N n m<=x2 N n m:=by
  unfold x2;have:(1+n+m2 N n m)*1<=(1+n+m2 N n m)*N:=Ak _ G.N1;(first|lia|omega)
 unfold m2 at h ⊢;unfold ga be m2 at *;(first|lia|omega)
def Good.cE(G:Good N n m){M X B Y mu x y t:Nat}(c:∃b,B=2 ^ b/\b<=ga N n m)(d:M=2 ^ mu)(e:X=2 ^ x)(f:Y=2 ^ y)(g:t<=Tm N n m+1)(h1:mu<=n*Tm N n m+ga N n m)(h2:x<=(n*Tm N n m+1)*N+x2 N n m)(h:y<=k0 N n m+kp N n m*t):N*(Tb.cE N M X B*Y)<big:=by
 obtain⟨b,rfl,hb⟩:=c;subst d e f;have i:y<=k0 N n m+kp N n m*(Tm N n m+1):=Ae h (Nat.add_le_add_left (Ak _ g) _);have j:=Tb.Mk (N:=N) (n:=n) h1 h2 hb;have a:=G.lim;have a:n+Tb.xE N n (n*Tm N n m+ga N n m) ((n*Tm N n m+1)*N+x2 N n m) (ga N n m)+(k0 N n m+kp N n m*(Tm N n m+1))<67107860:=a;refine Hz (Tb.zy G.Nn (Tb.zy (Tb.Mj G.N1 G.Nn) (Ad _))) ?_;(first|lia|omega)
def Good.entL(G:Good N n m){tb:Ξ}{y t:Nat}(h:Ent tb (2 ^ y))(a:t<=Tm N n m+1)(b:y<=k0 N n m+kp N n m*t):∀r∈tb,∀x∈r,x.natAbs<low:=fun r hr x hx=>by
 have c:y<=k0 N n m+kp N n m*(Tm N n m+1):=Ae b (Nat.add_le_add_left (Ak _ a) _);have d:n+Tb.xE N n (n*Tm N n m+ga N n m) ((n*Tm N n m+1)*N+x2 N n m) (ga N n m)+(k0 N n m+kp N n m*(Tm N n m+1))<67107860:=G.lim;exact HA (h.mem r hr x hx) ω
def Good.entM(G:Good N n m){tb:Ξ}{y t:Nat}(h:Ent tb (2 ^ y))(a:t<=Tm N n m+1)(b:y<=k0 N n m+kp N n m*t):∀r∈tb,∀x∈r,x.natAbs+1000<low:=fun r hr x hx=>by
 have c:y<=k0 N n m+kp N n m*(Tm N n m+1):=Ae b (Nat.add_le_add_left (Ak _ a) _);have d:=G.lim;exact Ea (h.mem r hr x hx) ω
def Good.ent(G:Good N n m){tb:Ξ}{y t:Nat}(h:Ent tb (2 ^ y))(a:t<=Tm N n m+1)(b:y<=k0 N n m+kp N n m*t):∀r∈tb,∀x∈r,x.natAbs<big:=fun r hr x hx=>HB (G.entL h a b r hr x hx)
structure LS(N n m t e:Nat)(A:Nat->Tb.Vc)(k w r:Nat)(T U Bn V Bf:Ξ)(QU QV:Nat->Nat):Prop where
 kN:k<=N
 wN:w<=N
 lT:T.length=w
 lU:U.length=k
 lB:Bn.length=k
 lV:V.length=w
 lC:Bf.length=w
 wT:∀r∈T,r.length=k
 wU:∀r∈U,r.length=k
 wB:∀r∈Bn,r.length=k
 wV:∀r∈V,r.length=w
 wC:∀r∈Bf,r.length=w
 li:Tb.LI A k w r (2 ^ dd N n m) (2 ^ be N n m) (2 ^ ga N n m) (2 ^ e) (fn T) (fn U) (fn V) (Tb.tl k (fn Bn)) (Tb.tl w (fn Bf)) QU QV
 te:e<=n*t
 tm:t+Tb.ms r (fn T)<=Tm N n m
 eu:∃u,Ent U (2 ^ u)/\u+N*e<=k0 N n m+kp N n m*t
 eb:∃b,Ent Bn (2 ^ b)/\b+e<=k0 N n m+kp N n m*t
 ev:Ent V (2 ^ (k0 N n m+kp N n m*t))
 ec:Ent Bf (2 ^ (k0 N n m+kp N n m*t))
structure LH(N n m t e:Nat)(A:Nat->Tb.Vc)(k w r:Nat)(T S U Bn V Bf:Ξ)(S0 U0:Nat->Tb.Vc)(QU QV:Nat->Nat):Prop where
 kN:k<=N
 wN:w<=N
 lS:S.length=k
 lU:U.length=k
 lB:Bn.length=k
 lV:V.length=w
 lC:Bf.length=w
 wS:∀r∈S,r.length=w
 wU:∀r∈U,r.length=k
 wB:∀r∈Bn,r.length=k
 wV:∀r∈V,r.length=w
 wC:∀r∈Bf,r.length=w
 lm:Tb.LM A k w r (2 ^ dd N n m) (2 ^ be N n m) (2 ^ ga N n m) (2 ^ e) S0 U0 (fn V) (Tb.tl k (fn Bn)) (Tb.tl w (fn Bf)) QU QV
 hS:∀i u,i<k->u<w->fn S i u=S0 i u
 hU:∀i,i<k->U0 i=fn U i
 ms:∀{M2 X2 B2:Nat}{P2:List Nat}{f2:Nat->Tb.Vc},Tb.Tri w r k M2 1 (Tb.glue k (fun u i=>S0 i u) (fn V)) (fun a=>k+QV a)->Tb.FS N M2 X2 B2 (Tb.tl w (Tb.glue k (fun u i=>S0 i u) (fn V))) P2 f2->Tb.ms r (fun u=>f2 (Tb.pls r k QV u))<Tb.ms r (fn T)
 te:e<=n*(t+1)
 tm:t+Tb.ms r (fn T)<=Tm N n m
 eu:∃u,Ent U (2 ^ u)/\u+N*e<=k0 N n m+kp N n m*(t+1)
 eb:∃b,Ent Bn (2 ^ b)/\b+e<=k0 N n m+kp N n m*(t+1)
 ev:Ent V (2 ^ (k0 N n m+kp N n m*t))
 ec:Ent Bf (2 ^ (k0 N n m+kp N n m*t))
def BR{q:Nat}{S a W W':Nat->Tb.Vc}{i:Nat}(h1:∀u,u<q->S i u=a i u)(h2:W i=W' i):Tb.glue q S W i=Tb.glue q a W' i:=funext fun u=>by
 unfold Tb.glue
 by_cases c:u<q
 ·rw[if_pos c,if_pos c,h1 u c]
 ·rw[if_neg c,if_neg c,h2]
def BS{q:Nat}{S W:Nat->Tb.Vc}{i K:Nat}(h1:∀u,u<q->(S i u).natAbs<=K)(h2:∀t,(W i t).natAbs<=K)(u:Nat):(Tb.glue q S W i u).natAbs<=K:=by
 unfold Tb.glue
 by_cases c:u<q
 ·rw[if_pos c];exact h1 u c
 ·rw[if_neg c];exact h2 _
variable{t e k w r:Nat}{A:Nat->Tb.Vc}{T S U Bn V Bf:Ξ}{QU QV:Nat->Nat}{S0 U0:Nat->Tb.Vc}
def LH.rho(L:LH N n m t e A k w r T S U Bn V Bf S0 U0 QU QV){i:Nat}(hi:i<w):Tb.glue k (fn ((Ag w).map (colAt S))) (fn V) i=Tb.glue k (fun u i=>S0 i u) (fn V) i:=
 BR (fun u a=>by rw[zV hi];exact L.hS u i a hi) rfl
def LH.tl(L:LH N n m t e A k w r T S U Bn V Bf S0 U0 QU QV){j:Nat}(a:j<=w):Tb.tl j (Tb.glue k (fn ((Ag w).map (colAt S))) (fn V))=Tb.tl j (Tb.glue k (fun u i=>S0 i u) (fn V)):=Tb.iu fun i hi=>L.rho ω
def LH.tri(G:Good N n m)(L:LH N n m t e A k w r T S U Bn V Bf S0 U0 QU QV):Tb.Tri w r k (2 ^ ga N n m) 1 (Tb.glue k (fun u i=>S0 i u) (fn V)) (fun a=>k+QV a):=by
 have h:=gT G;exact L.lm.far_tri (Ad _) (Tb.pw ω)
def LH.side(G:Good N n m)(L:LH N n m t e A k w r T S U Bn V Bf S0 U0 QU QV):Side N (2 ^ ga N n m) (2 ^ N) (2 ^ ga N n m) (2 ^ (k0 N n m+kp N n m*t)) k w ((Ag w).map (colAt S)) V Bf:=by
 have h:=gT G;have T2:=L.tri G;have g:=G.N40;have l:=L.tm;have o:=L.wN;refine⟨zR,L.lV,L.lC,fF L.lS,L.wV,L.wC,ω,by have:=L.kN;(first|lia|omega),L.wN,G.N1,ω,fun j b=>?_,fun i hi P f F p hp=>?_,fun i hi u=>?_,AQ,AQ,AQ,Nat.pow_lt_pow_right ξ G.piv,?_,?_⟩
 ·rw[L.tl b]
  refine(Tb.GP T2 (B:=2 ^ ga N n m) (N:=N) (fun a c=>?_) (fun q hq=>?_) L.wN b).mono (Ad _) (by show(1+1) ^ N<=2 ^ N;exact Ad _) (Ad _)
  ·have:=T2.km a c;(first|lia|omega)
  ·rw[Tb.ii (g':=S0) fun i hi=>by rw[Tb.zW (by have:=L.lm.rk;(first|lia|omega))]]
   exact Ae (L.lm.pd q hq) (Tb.pw ω)
 ·rw[L.tl ω] at F
  rw[L.rho hi];exact T2.row hi F p hp
 ·rw[L.rho hi]
  refine BS (fun u d=>Ae (L.lm.small (u:=i) (i:=u) hi d) (Tb.pw ?_)) (fun s=>L.ev i s) u;unfold k0;(first|lia|omega)
 ·exact G.cE ⟨_,rfl,Ad _⟩ rfl rfl rfl (t:=t) ω ω (by have:1*N<=(n*Tm N n m+1)*N:=Am _ ω;(first|lia|omega)) (Ad _)
 ·exact G.ent (t:=t) L.ec ω (Ad _)
def jc:k0 N n m+kp N n m*(t+1)=k0 N n m+kp N n m*t+kp N n m:=by rw[Nat.mul_add,Nat.mul_one];(first|lia|omega)
def LH.next(G:Good N n m)(L:LH N n m t e A k w r T S U Bn V Bf S0 U0 QU QV){P:List Nat}{fr:Nat->List Int}{T' V' h:Ξ}(D:Done N (2 ^ ga N n m) (2 ^ N) (2 ^ ga N n m) k w ((Ag w).map (colAt S)) V Bf P fr T' V' h):LS N n m (t+1) e A k w r T' U Bn V' h QU QV:=by
 have j:=L.tri G;have F:=D.fs;rw[L.tl (Ad _)] at F;obtain⟨l,J,_,_⟩:=L.lm.far_done j F;have p:=L.ms j F;have d:∀i,i<w->Tb.pp P i=Tb.pls r k QV i:=fun i hi=>by
  unfold Tb.pp;rw[l,Ab,Aj,AR hi];rfl
 have f:∀u i,u<w->i<k->vF fr (Tb.pls r k QV u) i=fn T' u i:=fun u i c hi=>by rw[D.f1 u i c hi,d u c]
 have rk:=J.rk;have q:=J.rw;have g:=D.f3;rw[L.tl (Ad _)] at g;have o:∀a b:Nat,2*n+ga N n m+N<=kp N n m:=fun _ _=>by unfold kp;rw[Nat.add_mul];(first|lia|omega)
 have h1:=o 0 0;refine⟨L.kN,L.wN,D.l1,L.lU,L.lB,D.l2,D.l3,D.w1,L.wU,L.wB,D.w2,D.w3,?_,L.te,?_,L.eu,L.eb,?_,?_⟩
 ·rw[<-g] at J
  exact J.cg f L.hU fun u c=>by rw[D.f2 u c,d u c]
 ·rw[<-Tb.Ml (T:=fun u=>vF fr (Tb.pls r k QV u)) fun u i c hi=>f u i ω ω]
  have:=L.tm;(first|lia|omega)
 ·refine(D.e2 L.ev).mono ?_
  rw[jc];refine Ae (Tb.zy G.Nn (Tb.zy (Tb.l4 G.Nn) (Ad _))) (Tb.pw ?_);(first|lia|omega)
 ·refine(D.e3 L.ec).mono ?_
  rw[jc];refine Ae (Tb.zy G.Nn (Tb.zy (Tb.zy (Ad _) (Ad _)) (Ad _))) (Tb.pw ?_);(first|lia|omega)
end
end K28
end
section
namespace Tb
def HC{U:Nat->Vc}{r u:Nat}:∀(n i:Nat),ss U r n i u=ss (fun i _=>U i u) r n i 0
 |0,_=>rfl
 |n+1,i=>by show U i u+ss U r n (i+1) u=U i u+_;rw[HC n (i+1)]
def HD{C:Nat->Vc}{r:Nat}:∀(n:Nat),n+1<=r->∀i,fZ C r n i=if r-n<=i/\i<r then(fun s=>C i s-C (i-1) s) else C i
 |0,h,i=>by show C i=_;rw[if_neg ω]
 |n+1,h,i=>by
  have a:=HD (C:=C) (r:=r) n ω;show put (fZ C r n) (r-1-n) (fun s=>fZ C r n (r-1-n) s-fZ C r n (r-2-n) s) i=_
  by_cases e:i=r-1-n
  ·rw[e,zQ,if_pos ω,a (r-1-n),a (r-2-n),if_neg ω,if_neg ω,show r-1-n-1=r-2-n from ω]
  ·rw[dn e,a i]
   by_cases h2:r-n<=i/\i<r
   ·rw[if_pos h2,if_pos ω]
   ·rw[if_neg h2,if_neg ω]
end Tb
namespace K28
open PySem L2
def HE{tb:Ξ}{j i:Nat}{x:List Int}(h:j<tb.length):rowAt (tb.set j x) i=if i=j then x else rowAt tb i:=by
 unfold rowAt;rw[Ab,Ab,List.getElem?_set]
 by_cases c:i=j
 ·rw[if_pos c.symm,if_pos c,if_pos h];rfl
 ·rw[if_neg (Ne.symm c),if_neg c]
def HF{a b:List Int}{q:Int}(h:a.length=b.length):vc (c4 a q b)=fun u=>vc a u-q*vc b u:=by unfold c4;rw[sK (by simp) h]
def HG{a b:List Int}{q:Int}(h:a.length=b.length):(c4 a q b).length=a.length:=by unfold c4;rw[Az];(first|lia|omega)
section
variable{tb:Ξ}{r W:Nat}
def oO(hr:r<=tb.length)(hw:∀x∈tb,x.length=W):∀n,n+1<=r->∀x∈slT tb r n,x.length=W
 |0,_,x,hx=>hw x hx
 |n+1,h,x,hx=>by
  have a:=oO hr hw n ω;have b:=lN (tb:=tb) (r:=r) n;rcases AL hx with hx|rfl
  ·exact a x hx
  ·rw[HG (by rw[a _ (zI ω),a _ (zI ω)])]
   exact a _ (zI ω)
def BU(hr:r<=tb.length)(hw:∀x∈tb,x.length=W):∀n,n+1<=r->∀x∈slB tb r n,x.length=W
 |0,_,x,hx=>hw x hx
 |n+1,h,x,hx=>by
  have a:=BU hr hw n ω;have b:=t5 (tb:=tb) (r:=r) n;rcases AL hx with hx|rfl
  ·exact a x hx
  ·rw[HG (by rw[a _ (zI ω),a _ (zI ω)])]
   exact a _ (zI ω)
def BV(hr:r<=tb.length)(hw:∀x∈tb,x.length=W):∀n,n+1<=r->fn (slT tb r n)=Tb.b_ (fn tb) r n
 |0,_=>rfl
 |n+1,h=>by
  have b:=BV hr hw n ω;have a:=oO hr hw n ω;have d:=lN (tb:=tb) (r:=r) n
  funext i
  show vc (rowAt ((slT tb r n).set (r-2-n) _) i)=Tb.put (Tb.b_ (fn tb) r n) (r-2-n) _ i;rw[HE ω,<-b];unfold Tb.put
  by_cases c:i=r-2-n
  ·rw[if_pos c,if_pos c,HF (by rw[a _ (zI ω),a _ (zI ω)])]
   funext u
   show vc _ u - -1*vc _ u=vc _ u+vc _ u;(first|lia|omega)
  ·rw[if_neg c,if_neg c];rfl
def Eb(hr:r<=tb.length)(hw:∀x∈tb,x.length=W):∀n,n+1<=r->fn (slB tb r n)=Tb.fZ (fn tb) r n
 |0,_=>rfl
 |n+1,h=>by
  have b:=Eb hr hw n ω;have a:=BU hr hw n ω;have d:=t5 (tb:=tb) (r:=r) n
  funext i
  show vc (rowAt ((slB tb r n).set (r-1-n) _) i)=Tb.put (Tb.fZ (fn tb) r n) (r-1-n) _ i;rw[HE ω,<-b];unfold Tb.put
  by_cases c:i=r-1-n
  ·rw[if_pos c,if_pos c,HF (by rw[a _ (zI ω),a _ (zI ω)])]
   funext u
   show vc _ u-1*vc _ u=vc _ u-vc _ u;(first|lia|omega)
  ·rw[if_neg c,if_neg c];rfl
def Ec(hr:r<=tb.length)(hw:∀x∈tb,x.length=W){K n:Nat}(h:n+1<=r)(a:Ent tb K):Ent (slT tb r n) (r*K):=fun i u=>by
 rw[BV hr hw n h,Tb.DK n h];split
 ·exact Ae (Tb.DL (K:=K) (r-i) i fun j _ _=>a j u) (Am _ ω)
 ·exact Ae (a i u) (Nat.le_mul_of_pos_left _ ω)
def HH(hr:r<=tb.length)(hw:∀x∈tb,x.length=W){K n:Nat}(h:n+1<=r)(a:Ent tb K):Ent (slB tb r n) (2*K):=fun i u=>by
 rw[Eb hr hw n h,Tb.HD n h];split
 ·have h1:=a i u
  have h2:=a (i-1) u;show(fn tb i u-fn tb (i-1) u).natAbs<=_;(first|lia|omega)
 ·have:=a i u;(first|lia|omega)
end
section
variable{N n m t e k w r:Nat}{A:Nat->Tb.Vc}{T U Bn V Bf:Ξ}{QU QV:Nat->Nat}
def LS.rho(L:LS N n m t e A k w r T U Bn V Bf QU QV){i:Nat}(hi:i<k):Tb.glue w (fn ((Ag k).map (colAt T))) (fn U) i=Tb.glue w (fun i u=>fn T u i) (fn U) i:=BR (fun u a=>zV hi u) rfl
def LS.tl(L:LS N n m t e A k w r T U Bn V Bf QU QV){j:Nat}(a:j<=k):Tb.tl j (Tb.glue w (fn ((Ag k).map (colAt T))) (fn U))=Tb.tl j (Tb.glue w (fun i u=>fn T u i) (fn U)):=Tb.iu fun i hi=>L.rho ω
def LS.tri(G:Good N n m)(L:LS N n m t e A k w r T U Bn V Bf QU QV):Tb.Tri k r w (2 ^ (e+be N n m)) (2 ^ e) (Tb.glue w (fun i u=>fn T u i) (fn U)) (fun a=>w+QU a):=by
 have h:=gT G;exact L.li.near_tri (by rw[Nat.pow_add];exact Ad _) (Tb.pw ω)
def LS.tT(L:LS N n m t e A k w r T U Bn V Bf QU QV):t<=Tm N n m:=by have:=L.tm;(first|lia|omega)
def LS.eT(L:LS N n m t e A k w r T U Bn V Bf QU QV):e<=n*Tm N n m:=Ae L.te (Ak _ L.tT)
def LS.side(G:Good N n m)(L:LS N n m t e A k w r T U Bn V Bf QU QV):Side N (2 ^ (e+be N n m)) (2 ^ ((e+1)*N)) (2 ^ be N n m) (2 ^ (k0 N n m+kp N n m*t)) w k ((Ag k).map (colAt T)) U Bn:=by
 have h:=gT G;have T1:=L.tri G;have o:=G.N40;have tT:=L.tT;have eT:=L.eT;obtain⟨v,g,x⟩:=L.eu;obtain⟨y,l,z⟩:=L.eb;refine⟨zR,L.lU,L.lB,fF L.lT,L.wU,L.wB,by have:=L.kN;(first|lia|omega),by have:=L.wN;(first|lia|omega),L.kN,G.N1,ω,fun j b=>?_,fun i hi P f F p hp=>?_,fun i hi u=>?_,AQ,AQ,AQ,Nat.pow_lt_pow_right ξ (by have:=G.piv;(first|lia|omega)),?_,?_⟩
 ·rw[L.tl b]
  refine(Tb.GP T1 (B:=2 ^ be N n m) (N:=N) (fun a c=>?_) (fun q hq=>?_) L.kN b).mono (Ad _) Tb.i' (Ad _)
  ·show(Tb.glue w (fun i u=>fn T u i) (fn U) (r+a) (w+QU a)).natAbs<=_
   rw[Tb.eV];exact L.li.ku.km a c
  ·rw[Tb.DJ L.li hq]
   exact Ae (L.li.pd q hq) (Tb.pw ω)
 ·rw[L.tl ω] at F
  rw[L.rho hi];exact T1.row hi F p hp
 ·rw[L.rho hi]
  refine BS (fun u d=>Ae (L.li.small (u:=u) (i:=i) d hi) (Tb.pw ?_)) (fun s=>Ae (g i s) (Tb.pw ω)) u;unfold k0;(first|lia|omega)
 ·refine G.cE ⟨_,rfl,ω⟩ rfl rfl rfl (t:=t) ω ω ?_ (Ad _)
  have:(e+1)*N<=(n*Tm N n m+1)*N:=Am _ ω;(first|lia|omega)
 ·exact G.ent (t:=t) l ω ω
def LS.near(G:Good N n m)(L:LS N n m t e A k w r T U Bn V Bf QU QV)(hd:¬Tb.Dg r (fn T)){P:List Nat}{fr:Nat->List Int}{f U' c:Ξ}(D:Done N (2 ^ (e+be N n m)) (2 ^ ((e+1)*N)) (2 ^ be N n m) w k ((Ag k).map (colAt T)) U Bn P fr f U' c):LH N n m t 0 A k w r T f U' c V Bf (fun i=>vF fr (Tb.pls r w QU i)) (fun i s=>vF fr (Tb.pls r w QU i) (w+s)) QU QV:=by
 have d:=L.tri G;have F:=D.fs;rw[L.tl (Ad _)] at F;obtain⟨l,J,_,_⟩:=L.li.near_done d F;have a:∀i,i<k->Tb.pp P i=Tb.pls r w QU i:=fun i hi=>by
  unfold Tb.pp;rw[l,Ab,Aj,AR hi];rfl
 have b:=D.f3;rw[L.tl (Ad _)] at b;rw[<-b] at J;have h:=gT G;have hk:2*n+be N n m+N<=kp N n m:=by unfold kp;rw[Nat.add_mul];(first|lia|omega)
 obtain⟨v,o,x⟩:=L.eu;obtain⟨y,p,z⟩:=L.eb;refine⟨L.kN,L.wN,D.l1,D.l2,D.l3,L.lV,L.lC,D.w1,D.w2,D.w3,L.wV,L.wC,J,fun i u hi g=>by rw[D.f1 i u hi g,a i hi],fun i hi=>by rw[D.f2 i hi,a i hi],fun j q=>Tb.Lv L.li hd d F j q,Aw _,L.tm,⟨_,(D.e2 o).mono (Tb.zy G.Nn (Tb.zy (Tb.l4 G.Nn) (Ad _))),?_⟩,⟨_,(D.e3 p).mono (Tb.zy G.Nn (Tb.zy (Tb.zy (Ad _) (Ad _)) (Ad _))),?_⟩,L.ev,L.ec⟩
 ·rw[jc,Nat.add_mul,Nat.mul_comm e N];(first|lia|omega)
 ·rw[jc];(first|lia|omega)
def LS.slSml(G:Good N n m)(L:LS N n m t e A k w r T U Bn V Bf QU QV):∀j,j<r->Sml (slT ((Ag k).map (colAt T)) r j)/\Sml (slT U r j)/\Sml (slB Bn r j):=fun j g=>by
 have h:=gT G;have rk:=L.li.rk;have s:=L.kN;have f:=G.N40;have tT:=L.tT;have rn:r<=2 ^ n:=Ae ω G.Nn;obtain⟨l,a,o⟩:=L.eu;obtain⟨p,b,q⟩:=L.eb;have hk:n+1<=kp N n m:=by unfold kp;(first|lia|omega)
 have c:be N n m<=k0 N n m:=by unfold k0;(first|lia|omega)
 have eT:Ent ((Ag k).map (colAt T)) (2 ^ be N n m):=oF zR fun i hi u=>by
  rw[zV hi]
  by_cases d:u<w
  ·exact Ae (L.li.small d hi) (Tb.pw ω)
  ·unfold fn
   rw[uE (by rw[L.lT];(first|lia|omega))];exact Aw _
 have e1:=Ec (n:=j) (r:=r) (by rw[zR];exact rk) (fF (n:=k) L.lT) ω eT;have e2:=Ec (n:=j) (r:=r) (by rw[L.lU];exact rk) L.wU ω a;have e3:=HH (n:=j) (r:=r) (by rw[L.lB];exact rk) L.wB ω b;refine⟨fun x hx=>⟨?_,G.ent (t:=t+1) (e1.mono (Tb.zy rn (Ad _))) ω (by rw[jc];(first|lia|omega)) x hx⟩,fun x hx=>⟨?_,G.ent (t:=t+1) (e2.mono (Tb.zy rn (Ad _))) ω (by rw[jc];(first|lia|omega)) x hx⟩,fun x hx=>⟨?_,G.ent (t:=t+1) (e3.mono (Tb.zy (show 2<=2 ^ 1 from ξ) (Ad _))) ω (by rw[jc];(first|lia|omega)) x hx⟩⟩
 ·rw[oO (by rw[zR];exact rk) (fF (n:=k) L.lT) j ω x hx];have:=L.wN;(first|lia|omega)
 ·rw[oO (by rw[L.lU];exact rk) L.wU j ω x hx];(first|lia|omega)
 ·rw[BU (by rw[L.lB];exact rk) L.wB j ω x hx];(first|lia|omega)
def LS.slid(G:Good N n m)(L:LS N n m t e A k w r T U Bn V Bf QU QV)(hr:1<=r)(hd:Tb.Dg r (fn T))(o:¬∀i,i+1<r->fn T i i ∣ fn T (i+1) (i+1)):LH N n m t (e+n) A k w r T (slT ((Ag k).map (colAt T)) r (r-1)) (slT U r (r-1)) (slB Bn r (r-1)) V Bf (fun i u=>Tb.aP k w A (Tb.b_ (fn U) r (r-1) i) (fn V u)) (Tb.b_ (fn U) r (r-1)) QU QV:=by
 have rk:=L.li.rk;have y:=L.li.rw;obtain⟨J,val⟩:=L.li.slid hr hd;have rn:r<=2 ^ n:=Ae rk (Ae L.kN G.Nn);have J:=J.mono (g':=2 ^ (e+n)) (by rw[Nat.pow_add,Nat.mul_comm];exact Ak _ rn);obtain⟨q,h,s⟩:=L.eu;obtain⟨v,l,x⟩:=L.eb;have hk:n+N*n+N<=kp N n m/\n+1<=kp N n m:=by unfold kp;rw[Nat.add_mul,Nat.mul_comm n N];(first|lia|omega)
 have e1:fn (slT U r (r-1))=Tb.b_ (fn U) r (r-1):=BV (by rw[L.lU];exact rk) L.wU (r-1) ω;have e2:fn (slB Bn r (r-1))=Tb.fZ (fn Bn) r (r-1):=Eb (by rw[L.lB];exact rk) L.wB (r-1) ω;rw[<-e2] at J;refine⟨L.kN,L.wN,by rw[lN];exact zR,by rw[lN];exact L.lU,by rw[t5];exact L.lB,L.lV,L.lC,oO (by rw[zR];exact rk) (fF (n:=k) L.lT) _ ω,oO (by rw[L.lU];exact rk) L.wU _ ω,BU (by rw[L.lB];exact rk) L.wB _ ω,L.wV,L.wC,J,fun i u hi a=>?_,fun i hi=>by rw[e1],fun d p=>Tb.Lw L.li hr hd o d p,?_,L.tm,⟨_,(Ec (n:=r-1) (by rw[L.lU];exact rk) L.wU ω h).mono (Tb.zy rn (Ad _)),?_⟩,⟨_,(HH (n:=r-1) (by rw[L.lB];exact rk) L.wB ω l).mono (Tb.zy (show 2<=2 ^ 1 from ξ) (Ad _)),?_⟩,L.ev,L.ec⟩
 ·have e3:fn (slT ((Ag k).map (colAt T)) r (r-1))=Tb.b_ (fn ((Ag k).map (colAt T))) r (r-1):=BV (by rw[zR];exact rk) (fF (n:=k) L.lT) (r-1) ω
  rw[e3,val i u hi a,Tb.iY hr];have zero:∀j,j<k->j≠u->fn T u j=0:=fun j f ne=>by
   by_cases c:u<r/\j<r
   ·exact hd u j c.1 c.2 (Ne.symm ne)
   ·exact L.li.to u j a f ω
  by_cases c:i<r
  ·rw[if_pos c,Tb.HC,Tb.DM (u:=u) (r-i) i fun j h1 h2 g=>by rw[zV (show j<k from ω)];exact zero j ω g]
   by_cases b:i<=u/\u<r
   ·rw[if_pos ω,if_pos b,zV ω]
   ·rw[if_neg ω,if_neg b]
  ·rw[if_neg c,if_neg ω,zV hi]
   exact L.li.to u i a hi (.inr ω)
 ·rw[Nat.mul_add,Nat.mul_one];have:=L.te;(first|lia|omega)
 ·rw[jc,Nat.mul_add];(first|lia|omega)
 ·rw[jc];(first|lia|omega)
end
end K28
end
section
namespace Tb
def HI{w j:Nat}{A:Nat->Vc}:iN (tl j (glue w A un)):=fun c hc hz=>by
 have D:Both j ((tl j (glue w A un)).map fun r=>fun t=>r (w+t)) (tl j un):=by rw[wt];exact DN j
 exact D.free hc fun t _=>hz _
def HJ{N n m:Nat}(a:N<=2 ^ n):sX N (2 ^ m)<=2 ^ ((1+n+m)*N):=by
 unfold sX;rw[Nat.pow_mul];refine Nat.pow_le_pow_left (zy (zy (show 2<=2 ^ 1 from ξ) a) (Ad _)) _
def Ms{N n m:Nat}(a:N<=2 ^ n):sB N (2 ^ m)<=2 ^ (n+((1+n+m)*N+m)):=zy a (zy (HJ a) (Ad _))
def Ed{i t:Nat}:(un i t).natAbs<=1:=by unfold un dl;split<;>decide
end Tb
namespace K28
open PySem L2
def uF{n:Nat}:Ent (unT n) (2 ^ 0):=oF BQ fun i hi u=>by rw[oH hi];exact Tb.Ed
section
variable{N n m k w:Nat}{tb:Ξ}
def BW{q j i:Nat}{S:Ξ}(hi:i<j):Tb.glue q (fn S) (fn (unT j)) i=Tb.glue q (fn S) Tb.un i:=BR (fun _ _=>rfl) (oH hi)
def ka(G:Good N n m){mu x b:Nat}(v:mu<=m2 N n m)(hx:(1+n+mu)*N<=x)(y:x<=x2 N n m)(hb:n+(x+mu)<=b)(d:b<=ga N n m)(g:k<=N)(z:w<=N)(l:tb.length=k)(hw:∀r∈tb,r.length=w)(o:Ent tb (2 ^ mu)):Side N (2 ^ mu) (2 ^ x) (2 ^ b) (2 ^ mu) w k tb (unT k) (unT k):=by
 have h:=gT G;have q:=G.N40;have le:∀i,i<k->∀u,(Tb.glue w (fn tb) (fn (unT k)) i u).natAbs<=2 ^ mu:=fun i hi u=>by
  rw[BW hi];exact BS (fun u _=>o i u) (fun s=>Ae Tb.Ed AQ) u
 have e:∀{j},j<=k->Tb.tl j (Tb.glue w (fn tb) (fn (unT k)))=Tb.tl j (Tb.glue w (fn tb) Tb.un):=fun{j} a=>Tb.iu fun i hi=>BW ω;have c:m2 N n m<=k0 N n m:=by unfold k0;(first|lia|omega)
 refine⟨l,BQ,BQ,hw,l7,l7,ω,ω,g,G.N1,ω,fun j a=>?_,fun i hi P f F p hp=>le i hi p,le,AQ,AQ,AQ,Nat.pow_lt_pow_right ξ (by have:=G.piv;(first|lia|omega)),?_,?_⟩
 ·rw[e a]
  refine(Tb.Lb G.N1 AQ Tb.HI (by rw[Tb.ij];(first|lia|omega)) fun r hr u=>?_).mono (Ad _) (Ae (Tb.HJ G.Nn) (Tb.pw hx)) (Ae (Tb.Ms G.Nn) (Tb.pw ω));obtain⟨i,hi,rfl⟩:=List.mem_map.mp hr;have hi:=List.mem_range.mp hi;rw[<-BW (show i<k from ω)];exact le i ω u
 ·exact G.cE ⟨_,rfl,d⟩ rfl rfl rfl (t:=0) ω ω ω ω
 ·exact G.ent (t:=0) (uF) ω ω
def HK(G:Good N n m):m<=m2 N n m/\(1+n+m)*N<=x1 N n m/\x1 N n m<=x2 N n m/\n+(x1 N n m+m)<=be N n m/\be N n m<=ga N n m/\(1+n+m2 N n m)*N<=x2 N n m/\n+(x2 N n m+m2 N n m)<=ga N n m:=by
 have h:=gT G;have h1:x1 N n m<=dd N n m:=Am _ ω;have h2:x1 N n m=(1+n+m)*N:=rfl;have a:x2 N n m=(1+n+m2 N n m)*N:=rfl;have b:ga N n m=n+x2 N n m+m2 N n m:=rfl;have c:be N n m=n+m+dd N n m:=rfl;have d:m2 N n m=2*n+be N n m+x1 N n m+m:=rfl;(first|lia|omega)
def uI(G:Good N n m)(a:k<=N)(b:w<=N)(l:tb.length=k)(hw:∀r∈tb,r.length=w)(c:Ent tb (2 ^ m)):Side N (2 ^ m) (2 ^ x1 N n m) (2 ^ be N n m) (2 ^ m) w k tb (unT k) (unT k):=by
 have h:=HK G;exact ka G h.1 h.2.1 h.2.2.1 h.2.2.2.1 h.2.2.2.2.1 a b l hw c
variable{P P2:List Nat}{fr gG:Nat->List Int}{S U Bn T V Bf:Ξ}
def Mt(G:Good N n m)(l:tb.length=k)(hw:∀r∈tb,r.length=w)(b:Ent tb (2 ^ m))(c:k<=N)(D:Done N (2 ^ m) (2 ^ x1 N n m) (2 ^ be N n m) w k tb (unT k) (unT k) P fr S U Bn):Ent ((Ag w).map (colAt S)) (2 ^ m2 N n m):=by
 refine oF zR fun u a i=>?_;rw[zV a]
 by_cases hi:i<k
 ·rw[D.f1 i u hi a]
  have:=(D.fs.fr (Tb.pp P i) (Tb.ow D.lP hi)).le (u:=u) (M:=2 ^ m) fun r hr=>by
   obtain⟨j,d,rfl⟩:=List.mem_map.mp hr;rw[Tb.zW a];exact b j u
  refine Ae this ?_;rw[Tb.ij];refine Ae (Am _ c) (Ae (Tb.zy G.Nn (Tb.zy (Tb.l4 G.Nn) (Ad _))) (Tb.pw ?_));unfold m2;(first|lia|omega)
 ·unfold fn
  rw[uE (by rw[D.l1];(first|lia|omega))];exact Aw _
def uP(G:Good N n m)(l:tb.length=k)(hw:∀r∈tb,r.length=w)(b:Ent tb (2 ^ m))(a:k<=N)(c:w<=N)(D:Done N (2 ^ m) (2 ^ x1 N n m) (2 ^ be N n m) w k tb (unT k) (unT k) P fr S U Bn):Side N (2 ^ m2 N n m) (2 ^ x2 N n m) (2 ^ ga N n m) (2 ^ m2 N n m) k w ((Ag w).map (colAt S)) (unT w) (unT w):=by
 have h:=HK G;exact ka G (Ad _) h.2.2.2.2.2.1 (Ad _) h.2.2.2.2.2.2 (Ad _) c a zR (fF D.l1) (Mt G l hw b a D)
def Mu(G:Good N n m)(l:tb.length=k)(hw:∀r∈tb,r.length=w)(h:Ent tb (2 ^ m))(b:k<=N)(j:w<=N)(D:Done N (2 ^ m) (2 ^ x1 N n m) (2 ^ be N n m) w k tb (unT k) (unT k) P fr S U Bn)(D2:Done N (2 ^ m2 N n m) (2 ^ x2 N n m) (2 ^ ga N n m) k w ((Ag w).map (colAt S)) (unT w) (unT w) P2 gG T V Bf):∃r QU QV,LS N n m 0 0 (fn tb) k w r T U Bn V Bf QU QV:=by
 have hb:=gT G;have e1:Tb.tl k (Tb.glue w (fn tb) (fn (unT k)))=Tb.tl k (Tb.glue w (fn tb) Tb.un):=Tb.iu fun i hi=>BW hi;have F:=D.fs;rw[e1] at F;have I:=Tb.Lq F;have f:=Tb.Lr AQ Tb.HI (fun r hr u=>?_) F
 ·have e2:Tb.tl w (Tb.glue k (fn ((Ag w).map (colAt S))) (fn (unT w)))=Tb.tl w (Tb.glue k (fun u i=>vF fr (Tb.pp P i) u) Tb.un):=Tb.iu fun u a=>BR (fun i hi=>by rw[zV a];exact D.f1 i u hi a) (oH a)
  have e:=D2.fs;rw[e2] at e;have g:(2*(k*2 ^ m)+1) ^ k<=2 ^ dd N n m:=by
   unfold dd;rw[Nat.pow_mul];have h1:2*(k*2 ^ m)+1<=2 ^ (2+n+m):=by
    have a1:k*2 ^ m<=2 ^ (n+m):=Tb.zy (Ae b G.Nn) (Ad _);have a2:2 ^ (2+n+m)=4*2 ^ (n+m):=by rw[Nat.add_assoc,Nat.pow_add]
    have a3:=AQ (n:=n+m);(first|lia|omega)
   exact Ae (Nat.pow_le_pow_left h1 _) (Ax AQ b)
  obtain⟨o,pr,J⟩:=Tb.Ls I (D:=2 ^ dd N n m) (fun q hq=>Ae (f q hq) g) e;have c:=D.f3;rw[e1,Tb.iu (W:=fn (unT k)) (W':=Tb.un) fun i hi=>oH hi] at c;have d:=D2.f3;rw[e2,Tb.iu (W:=fn (unT w)) (W':=Tb.un) fun i hi=>oH hi] at d;rw[<-c,<-d] at J;have p:k0 N n m=2*n+ga N n m+x2 N n m+m2 N n m+N+m:=rfl;have rk:=J.rk;have J2:=J.cg (T':=fn T) (U':=fn U) (V':=fn V) (fun u i a hi=>(D2.f1 u i a hi).symm) (fun i hi=>(D.f2 i hi).symm) fun u a=>(D2.f2 u a).symm;refine⟨_,_,_,b,j,D2.l1,D.l2,D.l3,D2.l2,D2.l3,D2.w1,D.w2,D.w3,D2.w2,D2.w3,J2,Aw _,?_,⟨_,(D.e2 uF).mono (Tb.zy G.Nn (Tb.zy (Tb.l4 G.Nn) (Ad _))),?_⟩,⟨_,(D.e3 uF).mono (Tb.zy G.Nn (Tb.zy (Tb.zy (Ad _) (Ad _)) (Ad _))),?_⟩,(D2.e2 uF).mono (Ae (Tb.zy G.Nn (Tb.zy (Tb.l4 G.Nn) (Ad _))) (Tb.pw ?_)),(D2.e3 uF).mono (Ae (Tb.zy G.Nn (Tb.zy (Tb.zy (Ad _) (Ad _)) (Ad _))) (Tb.pw ?_))⟩
  ·have h1:=Tb.G1 (T:=fn T) (D:=2 ^ dd N n m) (Tb.cut w P) J2.tp J2.pd
   rw[Nat.log2_two_pow] at h1;have h2:Tb.cut w P*dd N n m<=N*dd N n m:=Am _ ω;unfold Tb.ms Tm;split<;>(first|lia|omega)
  ·(first|lia|omega)
  ·(first|lia|omega)
  ·(first|lia|omega)
  ·(first|lia|omega)
 ·obtain⟨i,hi,rfl⟩:=List.mem_map.mp hr
  exact BS (fun u _=>h i u) (fun s=>Ae Tb.Ed AQ) u
end
end K28
end
section
namespace K28
open PySem L2
def Mv{tb:Ξ}:tb.zipIdx=(Ag tb.length).map fun i=>(rowAt tb i,i):=by
 apply AV
 ·simp
 ·intro i h1 h2
  rw[List.length_zipIdx] at h1;rw[AU,A4,List.getElem_zipIdx,zC (Ac h1)];simp
def HL{a:Type}{p:Nat->List Int->Bool}{g:Nat->List Int->a}{tb:Ξ}:i_ p g tb.zipIdx=((Ag tb.length).filter fun i=>p i (rowAt tb i)).map fun i=>g i (rowAt tb i):=by
 unfold i_;rw[Mv,List.filter_map,AS]
 rfl
def HM{l:List Int}{k u:Nat}(a:u≠k):vc (bL l k l.length) u=0:=by
 unfold bL;split
 ·unfold vc
  rw[Ab,List.getElem?_set,if_neg (Ne.symm a),List.getElem?_replicate];split<;>rfl
 ·exact BP
def HN{l:List Int}{k w:Nat}:(bL l k w).length=w:=by unfold bL;split<;>simp
def HP{a b:List Int}(h:a.length=b.length)(c:∀u,u<a.length->vc a u=vc b u):a=b:=by
 apply AV h;intro i h1 h2;have:=c i h1
 rwa [ja h1,ja h2] at this
def HQ{l:List Int}{k:Nat}:l=bL l k l.length↔∀u,u≠k->vc l u=0:=by
 constructor
 ·intro h u a
  rw[h];exact HM (l:=l) a
 ·intro h
  refine HP HN.symm fun u a=>?_
  by_cases c:u=k
  ·subst c
   unfold bL;rw[if_pos a];unfold vc;rw[Ab,Ab,List.getElem?_set,if_pos rfl,A7,if_pos a]
   rfl
  ·rw[h u c,HM c]
def Mw{tb:Ξ}:df tb=true↔∀i,i<tb.length->∀u,u≠i->fn tb i u=0:=by
 unfold df;rw[HL,List.all_map,Bh];constructor
 ·intro h i hi u a
  have:=h i (List.mem_filter.mpr ⟨List.mem_range.mpr hi,rfl⟩);have this:decide (rowAt tb i=bL (rowAt tb i) i (rowAt tb i).length)=true:=this;exact HQ.mp (of_decide_eq_true this) u a
 ·intro h i hi
  have hi:=List.mem_range.mp (List.mem_filter.mp hi).1;exact decide_eq_true (HQ.mpr (h i hi))
def Mx{r w:Nat}(h:r<=w):(Ag w).filter (fun i=>decide (i<r))=Ag r:=by
 have e:Ag w=Ag r++(Ag (w-r)).map (r+·):=by rw[<-List.range_add];congr 1;(first|lia|omega)
 rw[e,List.filter_append];have h1:(Ag r).filter (fun i=>decide (i<r))=Ag r:=List.filter_eq_self.mpr fun i hi=>decide_eq_true (List.mem_range.mp hi);have h2:((Ag (w-r)).map (r+·)).filter (fun i=>decide (i<r))=[]:=List.filter_eq_nil_iff.mpr fun i hi=>by
  obtain⟨j,_,rfl⟩:=List.mem_map.mp hi;simp
 rw[h1,h2,List.append_nil]
def dg(r:Nat)(T:Ξ):List Int:=(Ag r).map fun i=>fn T i i
def BX{r u:Nat}{g:Nat->Int}(h:u<r):vc ((Ag r).map g) u=g u:=by
 unfold vc;rw[Ab,Aj,AR h];rfl
section
variable{N n m t e k w r:Nat}{A:Nat->Tb.Vc}{T U Bn V Bf:Ξ}{QU QV:Nat->Nat}
def LS.onSl(L:LS N n m t e A k w r T U Bn V Bf QU QV):df T=true↔Tb.Dg r (fn T):=by
 have rk:=L.li.rk;have d:=L.li.rw;rw[Mw,L.lT];constructor
 ·intro h u i a hi ne
  exact h u ω i (Ne.symm ne)
 ·intro h u a i ne
  by_cases c:i<k
  ·by_cases b:u<r/\i<r
   ·exact h u i b.1 b.2 (Ne.symm ne)
   ·exact L.li.to u i a c ω
  ·unfold fn
   exact h5 (by rw[L.wT _ (zI (by rw[L.lT];exact a))];(first|lia|omega))
def LS.slOf(L:LS N n m t e A k w r T U Bn V Bf QU QV):ck T=dg r T:=by
 have rk:=L.li.rk;have a:=L.li.rw;unfold K28.ck;rw[HL,L.lT];have e:(Ag w).filter (fun i=>decide (i<(rowAt T i).length)&&decide (vc (rowAt T i) i≠0))=(Ag w).filter fun i=>decide (i<r):=List.filter_congr fun i hi=>by
  have hi:=List.mem_range.mp hi;have b:(rowAt T i).length=k:=L.wT _ (zI (by rw[L.lT];exact hi));rw[b,Bool.eq_iff_iff,Bool.and_eq_true,decide_eq_true_eq,decide_eq_true_eq,decide_eq_true_eq];constructor
  ·rintro⟨h1,h2⟩
   refine AJ fun c=>h2 ?_;exact L.li.to i i hi h1 ω
  ·intro h
   exact⟨ω,by have:0<vc (rowAt T i) i:=L.li.tp i h;(first|lia|omega)⟩
 rw[e,Mx a]
 rfl
def LS.inSt(L:LS N n m t e A k w r T U Bn V Bf QU QV):cU T=true↔Tb.Dg r (fn T)/\∀i,i+1<r->fn T i i ∣ fn T (i+1) (i+1):=by
 have c:=L.li.rw;unfold K28.cU;rw[Bool.and_eq_true,L.onSl,L.slOf,L.lT];refine and_congr_right fun _=>?_;unfold eK;have ld:(dg r T).length=r:=by unfold dg;simp
 have h1:(!decide ((w:Int)<((dg r T).length:Int)))=true:=by rw[ld];simp;(first|lia|omega)
 have h2:(dg r T).all (fun x=>decide (0<x))=true:=by
  rw[Bh];intro x hx;obtain⟨i,hi,rfl⟩:=List.mem_map.mp hx;exact decide_eq_true (L.li.tp i (List.mem_range.mp hi))
 rw[h1,h2,Bool.true_and,Bool.true_and,Bh];constructor
 ·intro h i hi
  have g:(AD (fun a b=>decide (b%a=0)) (dg r T) ((dg r T).drop 1))[i]?=some (decide (fn T (i+1) (i+1)%fn T i i=0)):=by
   rw[List.getElem?_zipWith,List.getElem?_drop];unfold dg;rw[Aj,Aj,AR ω,AR ω,Nat.add_comm 1 i]
   rfl
  have:=h _ (Al g);exact Int.dvd_of_emod_eq_zero (of_decide_eq_true this)
 ·intro h x hx
  obtain⟨i,hi,rfl⟩:=A5 hx;rw[Az,List.length_drop,ld] at hi;rw[AX,List.getElem_drop];unfold dg;rw[AU,AU,A4,A4];have:=h i ω;rw[Nat.add_comm 1 i];exact decide_eq_true (Int.emod_eq_zero_of_dvd this)
end
structure Pap(k w:Nat)(A:Nat->Tb.Vc)(u ub v vb:Ξ)(st:List Int):Prop where
 lu:u.length=k
 lub:ub.length=k
 lv:v.length=w
 lvb:vb.length=w
 wu:∀r∈u,r.length=k
 wub:∀r∈ub,r.length=k
 wv:∀r∈v,r.length=w
 wvb:∀r∈vb,r.length=w
 mu:∀r∈u,∀x∈r,x.natAbs+1000<low
 mub:∀r∈ub,∀x∈r,x.natAbs+1000<low
 mv:∀r∈v,∀x∈r,x.natAbs+1000<low
 mvb:∀r∈vb,∀x∈r,x.natAbs+1000<low
 u1:∀i j,i<k->j<k->Tb.dot k (fn u i) (fun s=>fn ub s j)=Tb.dl i j
 u2:∀i j,i<k->j<k->Tb.dot k (fn ub i) (fun s=>fn u s j)=Tb.dl i j
 v1:∀i j,i<w->j<w->Tb.dot w (fn v i) (fun s=>fn vb s j)=Tb.dl i j
 v2:∀i j,i<w->j<w->Tb.dot w (fn vb i) (fun s=>fn v s j)=Tb.dl i j
 sk:st.length<=k
 sw:st.length<=w
 sp:∀x∈st,0<x
 sd:∀i,i+1<st.length->vc st i ∣ vc st (i+1)
 s9:∀x∈st,x.natAbs<2 ^ 9000
 sb:∀x∈st,x.natAbs<big
 pr:∀i j,i<k->j<w->Tb.aP k w A (fn u i) (fun s=>fn v s j)=if i=j/\i<st.length then vc st i else 0
def Pap.sub{k w:Nat}{A:Nat->Tb.Vc}{u ub v vb:Ξ}{st:List Int}(p:Pap k w A u ub v vb st):∀r∈ub,∀x∈r,x.natAbs<low:=fun r hr x hx=>Au (A6 _ _) (p.mub r hr x hx)
def Pap.sv{k w:Nat}{A:Nat->Tb.Vc}{u ub v vb:Ξ}{st:List Int}(p:Pap k w A u ub v vb st):∀r∈v,∀x∈r,x.natAbs<low:=fun r hr x hx=>Au (A6 _ _) (p.mv r hr x hx)
def Ee{ρ:Nat->Tb.Vc}{c:Nat->Int}{u:Nat}:∀k,Tb.sm ρ c k u=Tb.dot k c (fun a=>ρ a u)
 |0=>rfl
 |k+1=>by show Tb.sm ρ c k u+c k*ρ k u=Tb.dot k c _+c k*ρ k u;rw[Ee k]
def Ef{a b:Tb.Vc}:∀k,Tb.dot k a b=Tb.dot k b a
 |0=>rfl
 |k+1=>by show Tb.dot k a b+a k*b k=Tb.dot k b a+b k*a k;rw[Ef k,Be]
def BY{i j:Nat}:Tb.dl i j=Tb.dl j i:=by
 unfold Tb.dl
 by_cases c:i=j
 ·rw[if_pos c,if_pos c.symm]
 ·rw[if_neg c,if_neg (Ne.symm c)]
def HR{T:Ξ}{K q:Nat}(h:Ent T K):Ent ((Ag q).map (colAt T)) K:=oF zR fun i hi u=>by rw[zV hi];exact h u i
section
variable{N n m t e k w r:Nat}{A:Nat->Tb.Vc}{T U Bn V Bf:Ξ}{QU QV:Nat->Nat}
def LS.pap(G:Good N n m)(L:LS N n m t e A k w r T U Bn V Bf QU QV)(h:K28.cU T=true):Pap k w A U ((Ag k).map (colAt Bn)) ((Ag w).map (colAt V)) Bf (K28.ck T):=by
 obtain⟨hd,f⟩:=L.inSt.mp h;have tT:=L.tT;have rk:=L.li.rk;have E:=L.li.rw;obtain⟨y,g,z⟩:=L.eu;obtain⟨C,l,D⟩:=L.eb;obtain⟨o,p2⟩:=Tb.BG.mp L.li.bu;obtain⟨p,v⟩:=Tb.BG.mp L.li.bv;have ld:(dg r T).length=r:=by unfold dg;simp
 rw[L.slOf];refine⟨L.lU,zR,zR,L.lC,L.wU,fF L.lB,fF L.lV,L.wC,G.entM (t:=t) g ω ω,G.entM (t:=t) (HR l) ω ω,G.entM (t:=t) (HR L.ev) ω ω,G.entM (t:=t) L.ec ω ω,fun i j hi a=>?_,fun i j hi a=>?_,fun i j hi a=>?_,fun i j hi a=>?_,ω,ω,fun x hx=>?_,fun i hi=>?_,fun x hx=>?_,fun x hx=>?_,fun i j hi a=>?_⟩
 ·rw[<-p2 i j hi a]
  exact Tb.zi fun s b=>zV b j
 ·have:=o i j hi a
  rw[Ee] at this;rw[<-this];exact Tb.zm fun s _=>zV hi s
 ·have:=p j i a hi
  rw[Ee,Ef,BY] at this;rw[<-this];exact Tb.zm fun s _=>zV hi s
 ·rw[BY,<-v j i a hi,Ef]
  exact Tb.zm fun s b=>zV b j
 ·obtain⟨i,hi,rfl⟩:=List.mem_map.mp hx
  exact L.li.tp i (List.mem_range.mp hi)
 ·rw[ld] at hi
  have:=f i hi;unfold dg;rw[BX ω,BX hi];exact this
 ·obtain⟨i,hi,rfl⟩:=List.mem_map.mp hx
  have hi:=List.mem_range.mp hi;have h1:=L.li.small (u:=i) (i:=i) ω ω;have h2:=gT G;have F:=G.piv;exact Au h1 (Nat.pow_lt_pow_right ξ ω)
 ·obtain⟨i,hi,rfl⟩:=List.mem_map.mp hx
  have hi:=List.mem_range.mp hi;have h1:=L.li.small (u:=i) (i:=i) ω ω;have I:=G.lim;have h2:=gT G;have H:k0 N n m=2*n+ga N n m+x2 N n m+m2 N n m+N+m:=rfl;exact Hz h1 ω
 ·rw[ld]
  have e1:Tb.aP k w A (fn U i) (fun s=>fn ((Ag w).map (colAt V)) s j)=Tb.aP k w A (fn U i) (fn V j):=by
   unfold Tb.aP;exact Tb.zi fun s _=>Tb.zi fun q hq=>zV hq j
  rw[e1,<-L.li.bl j i a hi]
  by_cases c:i=j/\i<r
  ·rw[if_pos c,<-c.1]
   unfold dg;rw[BX c.2]
  ·rw[if_neg c]
   by_cases d:j<r/\i<r
   ·exact hd j i d.1 d.2 ω
   ·exact L.li.to j i a hi ω
end
end K28
end
section
namespace K28
open PySem L2
abbrev BZ:Stmt:=top 23
def Dj(x y:List Addr):Prop:=∀a∈x,∀b∈y,a≠b
def NT.there{H H':Hp}{a:Addr}{ds:List Addr}{tb:Ξ}(h:NT H H' a ds tb):∀z∈a::ds,H' z≠none:=fun z hz=>by
 rcases List.mem_cons.mp hz with rfl|hz
 ·rw[h.at_];simp
 ·exact h.rows.there z hz
def NT.new{H H':Hp}{a:Addr}{ds:List Addr}{tb:Ξ}(h:NT H H' a ds tb):∀z∈a::ds,H z=none:=fun z hz=>by
 rcases List.mem_cons.mp hz with rfl|hz
 ·exact h.na
 ·exact(h.nw z hz).1
def gY{x y:List Addr}{H:Hp}(h1:∀z∈x,H z≠none)(h2:∀z∈y,H z=none):Dj x y:=fun a c b hb e=>h1 a c (e▸h2 b hb)
def HS{tb:Ξ}{k:Nat}(l:tb.length=k)(hw:∀r∈tb,r.length=k)(hk:k<=40):b5 tb=true/\turn tb=(Ag k).map (colAt tb)/\wid tb=k:=by
 have e:wid tb=k:=by
  cases c:tb with
  |nil=>rw[c] at l;exact l
  |cons x r=>exact hw x (by rw[c];exact AC ..)
 refine⟨?_,by unfold turn;rw[e],e⟩;unfold b5;rw[e,l,decide_eq_true hk];simp only[Bool.and_self,Bool.true_and,Bh];exact fun r hr=>decide_eq_true (hw r hr)
structure PapH(H H':Hp)(p:Addr)(u ub v vb:Ξ)(st:List Int)(a1 a2 a3 a4 a5:Addr)(d1 d2 d3 d4:List Addr):Prop where
 at_:H' p=some (.tup [.ref a1,.ref a2,.ref a3,.ref a4,.ref a5])
 n1:NT H H' a1 d1 u
 n2:NT H H' a2 d2 ub
 n3:NT H H' a3 d3 v
 n4:NT H H' a4 d4 vb
 n5:H' a5=some (.lst (st.map V.int))
 na:H a5=none
 j12:Dj (a1::d1) (a2::d2)
 j13:Dj (a1::d1) (a3::d3)
 j14:Dj (a1::d1) (a4::d4)
 j15:Dj (a1::d1) [a5]
 j23:Dj (a2::d2) (a3::d3)
 j24:Dj (a4::d4) (a2::d2)
 j25:Dj (a2::d2) [a5]
 j34:Dj (a4::d4) (a3::d3)
 j35:Dj (a3::d3) [a5]
 j45:Dj (a4::d4) [a5]
structure oQ(N n m k w:Nat)(tb:Ξ):Prop where
 good:Good N n m
 l:tb.length=k
 wd:∀r∈tb,r.length=w
 ent:Ent tb (2 ^ m)
 kN:k<=N
 wN:w<=N
def HU(H:Hp)(Q:VK)(k w:Nat)(A:Nat->Tb.Vc):Prop:=∀H' p u ub v vb st a1 a2 a3 a4 a5 d1 d2 d3 d4,Same H H'->PapH H H' p u ub v vb st a1 a2 a3 a4 a5 d1 d2 d3 d4->Pap k w A u ub v vb st->Q (.ref p) H'
section
variable{P:Program}{w:World}{K:Ah}{mg:Str->Option Value}{base:Heap}
def HV:Sp:=fun vs H Q _=>∃(L:Addr)(rs:List Addr)(tb:Ξ)(N n m k w:Nat),vs=[.ref L,.int w]/\H L=some (.lst (rs.map V.ref))/\Rws H rs tb/\oQ N n m k w tb/\HU H Q k w (fn tb)
def ma:zo ["table","width","size","near","far"] ["table","width"] (zf BZ):=⟨rfl,rfl,rfl,δ,rfl,δ,δ⟩
def Mz{f fs fu fc fk fi fo fp fl:Addr}{fd aB l_ bR fG mR dC cP bX:FuncData}(F:Fun K "paper_of" "paper_of" BZ f fd)(bl:mg "len"=none)(Fs:Fun K "straightened" "straightened" dE fs aB)(bs:Binds K aB ["side","width"] [])(ms:mg "straightened"=some (.ref fs))(Gs:am P w K mg base ar 5 fs aB ["side","width"] Hl)(Fu:Fun K "unit" "unit" BI fu l_)(bu:Binds K l_ ["size"] [])(mu:mg "unit"=some (.ref fu))(Gu:am P w K mg base ar 3 fu l_ ["size"] Hh)(Fc:Fun K "columns_to" "columns_to" nD fc bR)(bc:Binds K bR ["table","width"] [])(mc:mg "columns_to"=some (.ref fc))(Gc:am P w K mg base ar 2 fc bR ["table","width"] (Dm K))(Fk:Fun K "columns_of" "columns_of" q_ fk fG)(bk:Binds K fG ["table"] [])(mk:mg "columns_of"=some (.ref fk))(Gk:am P w K mg base ar 3 fk fG ["table"] (Dn K))(Fi:Fun K "is_in_steps" "is_in_steps" BL fi mR)(bi:Binds K mR ["table"] [])(mi:mg "is_in_steps"=some (.ref fi))(Gi:am P w K mg base ar 3 fi mR ["table"] Hs)(Fo:Fun K "is_on_slope" "is_on_slope" ur fo dC)(bo:Binds K dC ["table"] [])(mo:mg "is_on_slope"=some (.ref fo))(Go:am P w K mg base ar 2 fo dC ["table"] D4)(Fp:Fun K "slope_of" "slope_of" uu fp cP)(bp:Binds K cP ["table"] [])(mp:mg "slope_of"=some (.ref fp))(Gp:am P w K mg base ar 1 fp cP ["table"] D6)(Fl:Fun K "slid" "slid" BK fl bX)(bd:Binds K bX ["side","count"] [])(ml:mg "slid"=some (.ref fl))(Gl:am P w K mg base ar 2 fl bX ["side","count"] Hm):am P w K mg base ar 6 f fd ["table","width"] HV:=by
 refine F.ok ma (fun vs H Q E h=>?_) (fun ai A outer s H vs Q E hr h=>?_)
 ·obtain⟨L,rs,tb,N,n,m,k,d,rfl,_⟩:=h;rfl
 ·obtain⟨L,rs,tb,N,n,m,k,d,rfl,hL,hT,ok,kk⟩:=h
  have M:Room 3 _:=hr.mono ξ;have de:Room 2 _:=hr.mono ξ;have hr1:Room 1 _:=hr.mono ξ;refine⟨_,zd (zp (i:=2) ma.nd rfl (Or.inl rfl) (zv zn rfl bl dF (za (pv 0) zc)))
   (zd (zp (i:=3) ma.nd rfl (Or.inl rfl) (zg Gs hr rfl ms Fs.kp bs .nil af (za (gt (za (pv 0) (za (zg Gu M rfl mu Fu.kp bu .nil af (za (pv 2) zc)) (za (zg Gu M rfl mu Fu.kp bu .nil af (za (pv 2) zc)) zc)))) (za (pv 1) zc))))
   (zd (zp (i:=4) ma.nd rfl (Or.inl rfl) (zg Gs hr rfl ms Fs.kp bs .nil af (za (gt (za (zg Gc de rfl mc Fc.kp bc .nil af (za (zw zL (pv 3) ze (fun _ _=>rfl)) (za (pv 1) zc))) (za (zg Gu M rfl mu Fu.kp bu .nil af (za (pv 1) zc)) (za (zg Gu M rfl mu Fu.kp bu .nil af (za (pv 1) zc)) zc)))) (za (pv 2) zc))))
   (zd (ws PassesOwn.never (wh (ph (zg Gi M rfl mi Fi.kp bi .nil af (za (zw zL (pv 4) ze (fun _ _=>rfl)) zc))))
    (zd (zp (i:=3) ma.nd rfl (Or.inl rfl) (gt (za (zg Gc de rfl mc Fc.kp bc .nil af (za (zw zL (pv 4) ze (fun _ _=>rfl)) (za (pv 2) zc))) (za (zw zL (pv 3) ze (fun _ _=>rfl)) (za (zw zL (pv 3) ze (fun _ _=>rfl)) zc)))))
    (zd (zp (i:=3) ma.nd rfl (Or.inl rfl) (wl (ph (zg Go de rfl mo Fo.kp bo .nil af (za (zw zL (pv 4) ze (fun _ _=>rfl)) zc)))
     (zg Gl de rfl ml Fl.kp bd .nil af (za (pv 3) (za (zv zn rfl bl dF (za (zg Gp hr1 rfl mp Fp.kp bp .nil af (za (zw zL (pv 4) ze (fun _ _=>rfl)) zc)) zc)) zc)))
     (zg Gs hr rfl ms Fs.kp bs .nil af (za (pv 3) (za (pv 1) zc)))))
    (zh (zp (i:=4) ma.nd rfl (Or.inl rfl) (zg Gs hr rfl ms Fs.kp bs .nil af (za (gt (za (zg Gc de rfl mc Fc.kp bc .nil af (za (zw zL (pv 3) ze (fun _ _=>rfl)) (za (pv 1) zc))) (za (zw zL (pv 4) ze (fun _ _=>rfl)) (za (zw zL (pv 4) ze (fun _ _=>rfl)) zc)))) (za (pv 2) zc))))))))
   (zh (zB (gt (za (zw zL (pv 3) ze (fun _ _=>rfl)) (za (zg Gk M rfl mk Fk.kp bk .nil af (za (zw zL (pv 3) ze (fun _ _=>rfl)) zc)) (za (zg Gk M rfl mk Fk.kp bk .nil af (za (zw zL (pv 4) ze (fun _ _=>rfl)) zc)) (za (zw zL (pv 4) ze (fun _ _=>rfl)) (za (zg Gp hr1 rfl mp Fp.kp bp .nil af (za (zw zL (pv 4) ze (fun _ _=>rfl)) zc)) zc))))))))))),?_⟩
  have bJ:=hT.len;have G:=ok.good;have N40:=G.N40;have kN:=ok.kN;have wN:=ok.wN;refine⟨_,rfl,L,_,rfl,.inl (SqL.of hL),?_⟩;rw[Aa,bJ,ok.l];refine⟨_,rfl,_,rfl,k,rfl,ω,fun u1 H1 qI s1 yL j0 uD yT yq=>⟨_,rfl,k,rfl,ω,fun u2 H2 qT s2 yw lO u8 xD x8=>⟨by show 3<=sizeLine;decide,fun t1 j7=>⟨_,rfl,?_⟩⟩⟩⟩;have sq:=Same.new (o:=.tup [V.ref L,V.ref u1,V.ref u2]) j7;have S1:=uI G ok.kN ok.wN ok.l ok.wd ok.ent;refine⟨t1,L,u1,u2,rs,qI,qT,tb,unT k,unT k,_,_,_,_,_,d,k,rfl,zb,((s1.trans s2).trans sq) _ _ hL,(s2.trans sq) _ _ j0,sq _ _ lO,hT.same ((s1.trans s2).trans sq),uD.same (s2.trans sq),u8.same sq,S1.ok,fun P1 jU tn an v I rT W ej H3 F1 W1 s3 X i4 b y=>?_⟩;have D1:=S1.done F1 W1;have cT:=((s1.trans s2).trans sq).trans s3;have i4:=i4.old ((s1.trans s2).trans sq);have b:=b.old ((s1.trans s2).trans sq);have y:=y.old ((s1.trans s2).trans sq);generalize (P1.map fun p=>(jU p).take d)=S at D1 i4;generalize (P1.map fun p=>(jU p).drop d)=U at D1 b;generalize io k ((cat tb (unT k)).map fun r=>shrL jU r P1) (unT k)=Bn at D1 y;refine⟨_,rfl,tn,_,_,_,rfl,rfl,SqT.of X,zj (j:=0) rfl,_,rfl,an,rT,S,d,rfl,SqL.of i4.at_,i4.rows,by rw[D1.l1];(first|lia|omega),ω,fun r hr=>Nat.le_of_eq (D1.w1 r hr).symm,fun c1 H4 ib s4 qo fX kX ot nJ=>?_⟩;refine⟨_,rfl,d,rfl,ω,fun u3 H5 qR s5 yN mD uT xQ y7=>⟨_,rfl,d,rfl,ω,fun u4 H6 rh s6 kM kZ t9 Bo x9=>⟨by show 3<=sizeLine;decide,fun t2 kW=>⟨_,rfl,?_⟩⟩⟩⟩;have Z:=Same.new (o:=.tup [V.ref c1,V.ref u3,V.ref u4]) kW;have S2:=uP G ok.l ok.wd ok.ent ok.kN ok.wN D1;have gQ:=((s4.trans s5).trans s6).trans Z;refine⟨t2,c1,u3,u4,ib,qR,rh,_,unT d,unT d,_,_,_,_,_,k,d,rfl,zb,((s5.trans s6).trans Z) _ _ fX,(s6.trans Z) _ _ mD,Z _ _ kZ,kX.same ((s5.trans s6).trans Z),uT.same (s6.trans Z),t9.same Z,S2.ok,fun P2 gG D O bf J dA fh dy H7 F2 W2 s7 u c C g=>?_⟩;have D2:=S2.done F2 W2;obtain⟨r,QU,QV,LL⟩:=Mu G ok.l ok.wd ok.ent ok.kN ok.wN D1 D2;have iV:=gQ.trans s7;have iO:=cT.trans iV;have jj:Dj (v::W) (J::dy):=gY (b.same gQ).there g.new;have c:=c.old (cT.trans gQ);have C:=C.old (cT.trans gQ);have g:=g.old (cT.trans gQ);have b:=b.same iV;have y:=y.same iV;have X:=iV _ _ X;generalize (P2.map fun p=>(gG p).take k)=T at D2 c LL;generalize (P2.map fun p=>(gG p).drop k)=V at D2 C LL;generalize io d ((cat ((Ag d).map (colAt S)) (unT d)).map fun r=>shrL gG r P2) (unT d)=Bf at D2 g LL;refine⟨fun q σ H8=>∃(t e:Nat)(T U Bn V Bf:Ξ)(QU QV:Nat->Nat)(tn an v I D O bf J:Addr)(W ej dA fh dy:List Addr),q=Tm N n m-t/\σ=[some (.ref L),some (.int d),some (.int k),some (.ref tn),some (.ref D)]/\Same H H8/\H8 tn=some (.tup [.ref an,.ref v,.ref I])/\H8 D=some (.tup [.ref O,.ref bf,.ref J])/\NT H H8 v W U/\NT H H8 I ej Bn/\NT H H8 O dA T/\NT H H8 bf fh V/\NT H H8 J dy Bf/\Dj (v::W) (J::dy)/\LS N n m t e (fn tb) k d r T U Bn V Bf QU QV,
   ⟨_,0,0,T,U,Bn,V,Bf,QU,QV,tn,an,v,I,D,O,bf,J,W,ej,dA,fh,dy,rfl,rfl,iO,X,u,b,y,c,C,g,jj,LL⟩,?_⟩
  clear LL jj g C c D2 u iO iV S2 gQ Z D1 S1 X y b;rintro q σ H8 ⟨t,e,T,U,Bn,V,Bf,QU,QV,tn,an,v,I,D,O,bf,J,W,ej,dA,fh,dy,rfl,rfl,s8,X,u,b,y,c,C,g,jj,LL⟩;have iz:T.length<=1000:=by rw[LL.lT];(first|lia|omega)
  have wT9:∀x∈T,x.length<=1000:=fun x hx=>by rw[LL.wT x hx];(first|lia|omega)
  refine⟨_,rfl,D,_,_,_,rfl,rfl,SqT.of u,zj (j:=0) rfl,O,dA,T,rfl,c.at_,c.rows,iz,wT9,fun H9 a=>⟨_,rfl,?_⟩⟩;have X:=a _ _ X;have u:=a _ _ u;have b:=b.same a;have y:=y.same a;have c:=c.same a;have C:=C.same a;have g:=g.same a;have a:=s8.trans a;clear s8;cases dX:cU T with
  |true=>
   refine aQ ?_;obtain⟨i1,i2,_⟩:=HS LL.lB LL.wB ω;obtain⟨j1,j2,_⟩:=HS LL.lV LL.wV ω;refine⟨_,rfl,tn,_,_,_,rfl,rfl,SqT.of X,zj (j:=1) rfl,_,rfl,tn,_,_,_,rfl,rfl,SqT.of X,zj (j:=2) rfl,I,ej,Bn,rfl,SqL.of y.at_,y.rows,i1,fun a2 Ha d2 sa h_ lZ oD uj uA=>?_⟩;rw[i2] at oD;refine⟨_,rfl,D,_,_,_,rfl,rfl,SqT.of (sa _ _ u),zj (j:=1) rfl,bf,fh,V,rfl,SqL.of (sa _ _ C.at_),C.rows.same sa,j1,fun a3 Hb d3 Y tV kU pI vy wX=>?_⟩;rw[j2] at pI;have fC:=sa.trans Y;refine⟨_,rfl,D,_,_,_,rfl,rfl,SqT.of (fC _ _ u),zj (j:=2) rfl,_,rfl,D,_,_,_,rfl,rfl,SqT.of (fC _ _ u),zj (j:=0) rfl,O,dA,T,rfl,fC _ _ c.at_,c.rows.same fC,iz,fun a5 Hc sc p6 lA=>⟨by show 5<=sizeLine;decide,fun p hp=>?_⟩⟩;have sp:=Same.new (o:=.tup [.ref v,.ref a2,.ref a3,.ref J,.ref a5]) hp;have n2:NT H9 Ha a2 d2 _:=⟨lZ,oD,uj,h_,uA⟩;have n3:NT Ha Hb a3 d3 _:=⟨kU,pI,vy,tV,wX⟩;have lD:=fC.trans sc;have e5:∀z∈[a5],Hb z=none:=fun z hz=>by rw[List.mem_singleton.mp hz];exact p6
   refine kk _ p _ _ _ _ _ v a2 a3 J a5 W d2 d3 dy ((a.trans lD).trans sp) ⟨zb,(b.same lD).same sp,((n2.same (Y.trans sc)).same sp).old a,((n3.same sc).same sp).old (a.trans sa),(g.same lD).same sp,sp _ _ lA,a.free (fC.free p6),gY b.there n2.new,gY (b.same sa).there n3.new,jj,gY (b.same fC).there e5,gY n2.there n3.new,gY g.there n2.new,gY (n2.same Y).there e5,gY (g.same sa).there n3.new,gY n3.there e5,gY (g.same fC).there e5⟩ (LL.pap G dX)
  |false=>
   refine aW ⟨fun ae H'=>∃q,q<Tm N n m-t/\∃(t e:Nat)(T U Bn V Bf:Ξ)(QU QV:Nat->Nat)(tn an v I D O bf J:Addr)(W ej dA fh dy:List Addr),q=Tm N n m-t/\ae=[some (.ref L),some (.int d),some (.int k),some (.ref tn),some (.ref D)]/\Same H H'/\H' tn=some (.tup [.ref an,.ref v,.ref I])/\H' D=some (.tup [.ref O,.ref bf,.ref J])/\NT H H' v W U/\NT H H' I ej Bn/\NT H H' O dA T/\NT H H' bf fh V/\NT H H' J dy Bf/\Dj (v::W) (J::dy)/\LS N n m t e (fn tb) k d r T U Bn V Bf QU QV,fun ae H' h=>h,?_⟩;refine⟨_,rfl,D,_,_,_,rfl,rfl,SqT.of u,zj (j:=0) rfl,_,rfl,O,dA,T,k,rfl,SqL.of c.at_,c.rows,iz,ω,fun x hx=>Nat.le_of_eq (LL.wT x hx).symm,fun c1 Ha ib sa qo fX kX ot nJ=>?_⟩;refine⟨_,rfl,tn,_,_,_,rfl,rfl,SqT.of (sa _ _ X),zj (j:=1) rfl,_,rfl,tn,_,_,_,rfl,rfl,SqT.of (sa _ _ X),zj (j:=2) rfl,by show 3<=sizeLine;decide,fun t1 j7=>?_⟩;have sq:=Same.new (o:=.tup [.ref c1,.ref v,.ref I]) j7;have dt:upd Ha t1 (.tup [.ref c1,.ref v,.ref I]) t1=some (.tup [.ref c1,.ref v,.ref I]):=zb;have cq:NT H9 Ha c1 ib _:=⟨fX,kX,ot,qo,nJ⟩;have cq:=(cq.same sq).old a;have Y:=sa.trans sq;generalize upd Ha t1 (.tup [.ref c1,.ref v,.ref I])=Hb at dt cq Y ⊢;have u:=Y _ _ u;have b:=b.same Y;have y:=y.same Y;have c:=c.same Y;have C:=C.same Y;have g:=g.same Y;have a:=a.trans Y;refine⟨_,rfl,D,_,_,_,rfl,rfl,SqT.of u,zj (j:=0) rfl,O,dA,T,rfl,c.at_,c.rows,iz,wT9,fun Hd sd=>⟨_,rfl,?_⟩⟩;have u:=sd _ _ u;have dt:=sd _ _ dt;have cq:=cq.same sd;have b:=b.same sd;have y:=y.same sd;have c:=c.same sd;have C:=C.same sd;have g:=g.same sd;have a:=a.trans sd;have jb:¬(Tb.Dg r (fn T)/\∀i,i+1<r->fn T i i ∣ fn T (i+1) (i+1)):=fun h=>by have:=LL.inSt.mpr h;rw[dX] at this;cases this
   apply share (S:=fun fA He=>∃(e':Nat)(S' U' fP:Ξ)(S0 U0:Nat->Tb.Vc)(a' b' c':Addr)(dM dH dB:List Addr),Same Hd He/\He fA=some (.tup [.ref a',.ref b',.ref c'])/\NT H He a' dM S'/\NT H He b' dH U'/\NT H He c' dB fP/\LH N n m t e' (fn tb) k d r T S' U' fP V Bf S0 U0 QU QV)
   ·intro fin hc
    have hd:¬Tb.Dg r (fn T):=fun h=>hc (LL.onSl.mpr h);have S1:=LL.side G;refine⟨_,rfl,_,rfl,t1,c1,v,I,ib,W,ej,_,U,Bn,_,_,_,_,_,d,k,rfl,dt,cq.at_,b.at_,y.at_,cq.rows,b.rows,y.rows,S1.ok,fun P1 jU fA a' b' c' dM dH dB He F1 W1 se c8 gC gu ia=>fin fA He ?_⟩;exact⟨0,_,_,_,_,_,a',b',c',dM,dH,dB,se,c8,gC.old a,gu.old a,ia.old a,LL.near G hd (S1.done F1 W1)⟩
   ·intro fin hc
    have hd:Tb.Dg r (fn T):=LL.onSl.mp hc;have hn:¬∀i,i+1<r->fn T i i ∣ fn T (i+1) (i+1):=fun h=>jb ⟨hd,h⟩;have hr1:1<=r:=by
     rcases Nat.eq_zero_or_pos r with z|z
     ·exact absurd (fun i hi=>ω) hn
     ·exact z
    refine⟨_,rfl,_,rfl,D,_,_,_,rfl,rfl,SqT.of u,zj (j:=0) rfl,O,dA,T,rfl,c.at_,c.rows,iz,fun D5 H5 s5 eU e5=>⟨D5,_,rfl,.inl (SqL.of e5),?_⟩⟩;have qF:(K28.ck T).length=r:=by rw[LL.slOf];unfold dg;simp
    rw[Aa,qF];refine⟨H,t1,c1,v,I,ib,W,ej,_,U,Bn,k,r,rfl,s5 _ _ dt,a.trans s5,cq.same s5,b.same s5,y.same s5,zR,LL.lU,LL.lB,hr1,LL.li.rk,ω,LL.slSml G,fun fA a' b' c' dM dH dB He se c8 gC gu ia=>fin fA He ?_⟩;exact⟨_,_,_,_,_,_,a',b',c',dM,dH,dB,s5.trans se,c8,gC,gu,ia,LL.slid G hr1 hd hn⟩
   ·rintro fA He ⟨e',S',U',fP,S0,U0,a',b',c',dM,dH,dB,se,c8,gC,gu,ia,LH⟩
    have u:=se _ _ u;have C:=C.same se;have g:=g.same se;have a:=a.trans se;refine⟨_,rfl,fA,_,_,_,rfl,rfl,SqT.of c8,zj (j:=0) rfl,_,rfl,a',dM,S',d,rfl,SqL.of gC.at_,gC.rows,by rw[LH.lS];(first|lia|omega),ω,fun x hx=>Nat.le_of_eq (LH.wS x hx).symm,fun c2 Hg tu sg om mT vN xJ yy=>?_⟩;refine⟨_,rfl,D,_,_,_,rfl,rfl,SqT.of (sg _ _ u),zj (j:=1) rfl,_,rfl,D,_,_,_,rfl,rfl,SqT.of (sg _ _ u),zj (j:=2) rfl,by show 3<=sizeLine;decide,fun t2 kW=>?_⟩;have Z:=Same.new (o:=.tup [.ref c2,.ref bf,.ref J]) kW;have sh:=sg.trans Z;have S2:=LH.side G;refine⟨_,rfl,t2,c2,bf,J,tu,fh,dy,_,V,Bf,_,_,_,_,_,k,d,rfl,zb,Z _ _ mT,sh _ _ C.at_,sh _ _ g.at_,vN.same Z,C.rows.same sh,g.rows.same sh,S2.ok,fun P2 gG ux vm wa rK j4 mj mS Hi F2 W2 si ke l6 lK gW=>?_⟩;have D2:=S2.done F2 W2;have L2:=LH.next G D2;have s0:=a.trans sh;have tm:=L2.tm;exact⟨_,ω,t+1,e',_,U',fP,_,_,QU,QV,fA,a',b',c',ux,vm,wa,rK,dH,dB,j4,mj,mS,rfl,rfl,s0.trans si,(sh.trans si) _ _ c8,ke,gu.same (sh.trans si),ia.same (sh.trans si),l6.old s0,lK.old s0,gW.old s0,gY (gu.same sh).there gW.new,L2⟩
end
end K28
end
section
namespace Tb
def MA{k:Nat}{a b:Vc}{q:Int}(h:∀t,t<k->q ∣ b t):q ∣ dot k a b:=by
 induction k with
 |zero=>exact Int.dvd_zero _
 |succ k ih=>exact Int.dvd_add (ih fun t c=>h t ω) (Int.dvd_trans (h k ω) (Int.dvd_mul_left _ _))
def Eg{k:Nat}{x c:Vc}{Z:Nat->Vc}{e:Vc}:∀n,dot n (fun j=>dot k x (fun l=>c l*Z l j)) e=dot k x (fun l=>c l*dot n (Z l) e)
 |0=>by
  show(0:Int)=dot k x (fun l=>c l*0);have:∀k,dot k x (fun l=>c l*0)=0:=fun k=>by
   induction k with
   |zero=>rfl
   |succ k ih=>show dot k x _+x k*(c k*0)=0;rw[ih];simp
  rw[this]
 |n+1=>by
  show dot n _ e+dot k x (fun l=>c l*Z l n)*e n=dot k x (fun l=>c l*(dot n (Z l) e+Z l n*e n));rw[Eg n,Be _ (e n),Int.add_comm,<-tF];exact zi fun l _=>by
   show e n*(c l*Z l n)+c l*dot n (Z l) e=c l*(dot n (Z l) e+Z l n*e n);rw[Int.mul_add,Be (e n),AT,Int.add_comm]
def Eh{n i:Nat}{s:Int}{e:Vc}(hi:i<n):dot n (fun j=>if i=j then s else 0) e=s*e i:=by
 have:∀m,m<=n->dot m (fun j=>if i=j then s else 0) e=if i<m then s*e i else 0:=by
  intro m
  induction m with
  |zero=>intro _;rw[if_neg ω];rfl
  |succ m ih=>
   intro b;show dot m _ e+(if i=m then s else 0)*e m=_;rw[ih ω]
   by_cases c:i=m
   ·subst c;rw[if_neg ω,if_pos rfl,if_pos ω];(first|lia|omega)
   ·rw[if_neg c]
    by_cases a:i<m
    ·rw[if_pos a,if_pos ω];(first|lia|omega)
    ·rw[if_neg a,if_neg ω];(first|lia|omega)
 rw[this n (Ad _),if_pos hi]
def MB{n:Nat}{z a b:Vc}:dot n z (fun j=>a j-b j)=dot n z a-dot n z b:=by
 have:=tF (k:=n) (a:=z) (b:=b) (b':=a) (x:=-1);rw[show dot n z a-dot n z b=-1*dot n z b+dot n z a from ω,<-this];exact zi fun t _=>ω
def bq(q:Nat)(s:Int):Nat:=q / Nat.gcd s.natAbs q
def B3{q:Nat}{s:Int}:Nat.gcd s.natAbs q*bq q s=q:=Nat.mul_div_cancel' (Nat.gcd_dvd_right _ _)
def B4{q:Nat}{s:Int}(hq:1<=q):1<=bq q s:=by
 rcases Nat.eq_zero_or_pos (bq q s) with z|z
 ·have:=B3 (q:=q) (s:=s);rw[z] at this;(first|lia|omega)
 ·exact z
def MC{q:Nat}{s:Int}(hq:1<=q)(h:¬(q:Int) ∣ s):2<=bq q s:=by
 have h1:=B4 (s:=s) hq;rcases Bb (bq q s) 2 with c|c
 ·have e:=B3 (q:=q) (s:=s)
  rw[show bq q s=1 from ω,Nat.mul_one] at e;refine absurd ?_ h;have:=Nat.gcd_dvd_left s.natAbs q;rw[e] at this;exact Int.ofNat_dvd_left.mpr this
 ·exact c
def MD{q:Nat}{s y:Int}(h:(bq q s:Int) ∣ y):(q:Int) ∣ s*y:=by
 obtain⟨f,rfl⟩:=h;obtain⟨i,j⟩:=Nat.gcd_dvd_left s.natAbs q;have e:=B3 (q:=q) (s:=s);have hd:((Nat.gcd s.natAbs q:Nat):Int) ∣ s:=Int.ofNat_dvd_left.mpr (Nat.gcd_dvd_left _ _);obtain⟨c,d⟩:=hd;refine⟨c*f,?_⟩;have a:(q:Int)=(Nat.gcd s.natAbs q:Nat)*(bq q s:Nat):=by rw[<-Int.natCast_mul,e]
 clear j i e;generalize ((Nat.gcd s.natAbs q:Nat):Int)=g at d a;generalize ((bq q s:Nat):Int)=b at a ⊢;rw[a,d,AT,AT,Int.mul_left_comm c]
def ME{q:Nat}{s e:Int}(hq:1<=q)(h:(q:Int) ∣ s*e):(bq q s:Int) ∣ e:=by
 have h1:q ∣ s.natAbs*e.natAbs:=by rw[<-AF];exact Int.ofNat_dvd_left.mp h
 have a:0<Nat.gcd s.natAbs q:=Nat.gcd_pos_of_pos_right _ hq;have b:Nat.Coprime (bq q s) (s.natAbs / Nat.gcd s.natAbs q):=(Nat.coprime_div_gcd_div_gcd a).symm;have es:s.natAbs=Nat.gcd s.natAbs q*(s.natAbs / Nat.gcd s.natAbs q):=(Nat.mul_div_cancel' (Nat.gcd_dvd_left _ _)).symm;have h2:Nat.gcd s.natAbs q*bq q s ∣ Nat.gcd s.natAbs q*((s.natAbs / Nat.gcd s.natAbs q)*e.natAbs):=by
  rw[B3,<-AN,<-es];exact h1
 have c:bq q s ∣ (s.natAbs / Nat.gcd s.natAbs q)*e.natAbs:=Nat.dvd_of_mul_dvd_mul_left a h2;exact Int.ofNat_dvd_left.mpr (b.dvd_of_dvd_mul_left c)
def HX:∀{l:List Nat},(∀x∈l,1<=x)->1<=pr l
 |[],_=>Ad _
 |t::l,h=>Nat.mul_pos (h t (.head _)) (HX fun x hx=>h x (.tail _ hx))
def HY{k w i q:Nat}{s s':Nat->Int}{X Z:Nat->Vc}(E:∀a j,a<k->j<w->dot k (X a) (fun l=>s' l*Z l j)=if a=j then s a else 0)(hk:i<k)(hw:i<w)(hq:1<=q)(F:∀l,i<=l->l<k->(q:Int) ∣ s' l)(G:∀j,j<i->s j=s' j):(q:Int) ∣ s i:=by
 refine AJ fun no=>?_;have A:=MC hq no
 let g:List Int->List Int:=fun c=>(Ag i).map fun l=>dot (i+1) (Z l) (vl c)%(bq q (s l):Int)
 have big:(allb ((Ag i).map fun j=>bq q (s j))).length<(allb ((Ag (i+1)).map fun j=>bq q (s j))).length:=by
  rw[j_,j_,List.range_succ,Ap,tj];have:=HX (l:=(Ag i).map fun j=>bq q (s j)) fun x hx=>by
   obtain⟨j,_,rfl⟩:=List.mem_map.mp hx;exact B4 hq
  show _<_*(bq q (s i)*1);rw[Nat.mul_one];have h2:pr ((Ag i).map fun j=>bq q (s j))*2<=pr ((Ag i).map fun j=>bq q (s j))*bq q (s i):=Ak _ A;(first|lia|omega)
 obtain⟨c,hc,d,hd,ne,e⟩:=ez g _ _ (ol _) (fun c _=>iT.mpr ⟨by simp[g],fun l x t hx b=>by
  simp only[g,Aj] at hx b
  by_cases f:l<i
  ·rw[AR f] at hx b
   simp at hx b;subst hx b;have:(0:Int)<(bq q (s l):Int):=by have:=B4 (s:=s l) hq;(first|lia|omega)
   exact⟨Int.emod_nonneg _ ω,Int.emod_lt_of_pos _ this⟩
  ·rw[List.getElem?_eq_none (by simpa using f)] at hx;cases hx⟩) big
 obtain⟨v,y⟩:=iT.mp hc;obtain⟨ld,bd⟩:=iT.mp hd;rw[Aa,AZ] at v ld;have o:∀a,a<=i->(q:Int) ∣ s a*(vl c a-vl d a):=fun a H=>by
  have h1:dot (i+1) (fun j=>dot k (X a) (fun l=>s' l*Z l j)) (fun j=>vl c j-vl d j)=s a*(vl c a-vl d a):=by
   rw[<-Eh (n:=i+1) (e:=fun j=>vl c j-vl d j) (show a<i+1 from ω)];exact zm fun j I=>E a j ω ω
  rw[<-h1,Eg];refine MA fun l f=>?_;rcases Bb l i with c1|c1
  ·rw[<-G l c1]
   refine MD ?_;rw[MB];have e2:dot (i+1) (Z l) (vl c)%(bq q (s l):Int)=dot (i+1) (Z l) (vl d)%(bq q (s l):Int):=by
    have:=congrArg (fun x:List Int=>x[l]?) e;simp only[g,Aj,AR c1] at this;exact AW this
   exact Int.dvd_of_emod_eq_zero (by rw[Int.sub_emod,e2];simp)
  ·exact Int.dvd_trans (F l c1 f) (Int.dvd_mul_right _ _)
 refine ne (AV ω fun a h1 h2=>?_);have r:=ME hq (o a ω);have C:vl c a=c[a]:=by unfold vl;rw[Ab,Ac h1];rfl
 have p:vl d a=d[a]:=by unfold vl;rw[Ab,Ac h2];rfl
 rw[C,p] at r;have u:((Ag (i+1)).map fun j=>bq q (s j))[a]?=some (bq q (s a)):=by rw[Aj,AR ω];rfl
 have r1:=y a _ _ (Ac h1) u;have r2:=bd a _ _ (Ac h2) u;obtain⟨z,hz⟩:=r;have J:=B4 (s:=s a) hq;have D:z=0:=by
  rcases Int.lt_trichotomy z 0 with h|h|h
  ·have:(bq q (s a):Int)*z<=(bq q (s a):Int)*(-1):=Int.mul_le_mul_of_nonneg_left ω ω
   (first|lia|omega)
  ·exact h
  ·have:(bq q (s a):Int)*1<=(bq q (s a):Int)*z:=Int.mul_le_mul_of_nonneg_left ω ω
   (first|lia|omega)
 rw[D,Ba] at hz;(first|lia|omega)
def MF{k w:Nat}{s s':Nat->Int}{X Z u v:Nat->Vc}(g:∀a j,a<k->j<w->dot k (X a) (fun l=>s' l*Z l j)=if a=j then s a else 0)(r:∀a j,a<k->j<w->dot k (u a) (fun l=>s l*v l j)=if a=j then s' a else 0)(f:∀i,0<=s i)(d:∀i,0<=s' i)(hd:∀i l,i<=l->l<k->s i ∣ s l)(e:∀i l,i<=l->l<k->s' i ∣ s' l):∀i,i<k->i<w->s i=s' i:=by
 intro i
 induction i using Nat.strongRecOn with
 |_ i ih=>
  intro hk hw;have go:∀{s s':Nat->Int}{X Z:Nat->Vc},(∀a j,a<k->j<w->dot k (X a) (fun l=>s' l*Z l j)=if a=j then s a else 0)->(∀i,0<=s i)->(∀i,0<=s' i)->(∀i l,i<=l->l<k->s' i ∣ s' l)->(∀j,j<i->s j=s' j)->s' i ∣ s i:=by
   intro s s' X Z g f d e o
   by_cases z:s' i=0
   ·have p:∀l,i<=l->l<k->s' l=0:=fun l h1 h2=>by
     have:=e i l h1 h2;rw[z] at this;exact Int.zero_dvd.mp this
    have hb:=f i;have:=HY (q:=(s i).toNat+1) g hk hw ω (fun l h1 h2=>by rw[p l h1 h2];exact Int.dvd_zero _) o;rw[z];refine Int.zero_dvd.mpr ?_;rcases Int.lt_or_le 0 (s i) with c|c
    ·have:=Int.le_of_dvd c this
     (first|lia|omega)
    ·(first|lia|omega)
   ·have hp:=d i
    have:=HY (q:=(s' i).toNat) g hk hw ω (fun l h1 h2=>by rw[Int.toNat_of_nonneg hp];exact e i l h1 h2) o
    rwa [Int.toNat_of_nonneg hp] at this
  have a:=go g f d e fun j h=>ih j h ω ω;have b:=go r d f hd fun j h=>(ih j h ω ω).symm;exact Int.dvd_antisymm (f i) (d i) b a
def iv{n k:Nat}{x y:Vc}{B:Nat->Vc}:dot n (fun l=>dot k x (fun s=>B s l)) y=dot k x (fun s=>dot n (B s) y):=by
 have:=Eg (k:=k) (x:=x) (c:=fun _=>1) (Z:=B) (e:=y) n;have e1:dot n (fun j=>dot k x (fun l=>(1:Int)*B l j)) y=dot n (fun l=>dot k x (fun s=>B s l)) y:=zm fun t _=>zi fun s _=>Int.one_mul _;have e2:dot k x (fun l=>(1:Int)*dot n (B l) y)=dot k x (fun s=>dot n (B s) y):=zi fun s _=>Int.one_mul _;rw[<-e1,this,e2]
def zE{a b:Vc}:∀k,dot k a b=dot k b a
 |0=>rfl
 |k+1=>by show dot k a b+a k*b k=dot k b a+b k*a k;rw[zE k,Be]
def Ei{k w n:Nat}{A U:Nat->Vc}{X y:Vc}:aP k w A (fun t=>dot n X (fun l=>U l t)) y=dot n X (fun l=>aP k w A (U l) y):=by
 unfold aP;exact iv
def B5{k w n:Nat}{A V:Nat->Vc}{x Z:Vc}:aP k w A x (fun t=>dot n Z (fun l=>V l t))=dot n Z (fun l=>aP k w A x (V l)):=by
 unfold aP;have e:dot k x (fun s=>dot w (A s) (fun t=>dot n Z (fun l=>V l t)))=dot k x (fun s=>dot n (fun l=>dot w (A s) (V l)) Z):=zi fun s _=>by
  rw[zE w,iv,zE n];exact zm fun l _=>zE w
 rw[e,<-iv,zE n]
end Tb
end
section
namespace K28
open PySem L2
def HZ{n:Nat}{x:Tb.Vc}{B U:Nat->Tb.Vc}(h:∀i j,i<n->j<n->Tb.dot n (B i) (fun s=>U s j)=Tb.dl i j){t:Nat}(a:t<n):Tb.dot n (fun l=>Tb.dot n x (fun s=>B s l)) (fun l=>U l t)=x t:=by
 rw[Tb.iv,<-Tb.BB (k:=n) (x:=x) a];exact Tb.zi fun s b=>h s t b a
def H_{k w:Nat}{A A':Nat->Tb.Vc}{x x' y a:Tb.Vc}(d:∀s t,s<k->t<w->A s t=A' s t)(hx:∀t,t<k->x t=x' t)(hy:∀t,t<w->y t=a t):Tb.aP k w A x y=Tb.aP k w A' x' a:=by
 unfold Tb.aP;rw[Tb.zm hx];exact Tb.zi fun s b=>by
  rw[Tb.zi hy];exact Tb.zm fun t c=>d s t b c
def Pap.zero{k w:Nat}{A:Nat->Tb.Vc}{u ub v vb:Ξ}{st:List Int}(p:Pap k w A u ub v vb st){i:Nat}(h:st.length<=i):vc st i=0:=h5 h
def Pap.pr'{k w:Nat}{A:Nat->Tb.Vc}{u ub v vb:Ξ}{st:List Int}(p:Pap k w A u ub v vb st){i j:Nat}(hi:i<k)(b:j<w):Tb.aP k w A (fn u i) (fun s=>fn v s j)=if i=j then vc st i else 0:=by
 rw[p.pr i j hi b]
 by_cases c:i=j
 ·by_cases a:i<st.length
  ·rw[if_pos ⟨c,a⟩,if_pos c]
  ·rw[if_neg (fun h=>a h.2),if_pos c,h5 ω]
 ·rw[if_neg (fun h=>c h.1),if_neg c]
def Pap.via{k w:Nat}{A A' R C:Nat->Tb.Vc}{u ub v vb u' cm v' cB:Ξ}{st ab:List Int}(p:Pap k w A u ub v vb st)(d:Pap k w A' u' cm v' cB ab)(h:∀s t,s<k->t<w->A s t=Tb.aP k w A' (R s) (C t)):∃X Z:Nat->Tb.Vc,∀a j,a<k->j<w->Tb.dot k (X a) (fun l=>vc ab l*Z l j)=if a=j then vc st a else 0:=by
 refine⟨fun a l=>Tb.dot k (fun t=>Tb.dot k (fn u a) (fun s=>R s t)) (fun s=>fn cm s l),fun l j=>Tb.dot w (fun t=>Tb.dot w (fun s=>fn v s j) (fun s=>C s t)) (fun s=>fn cB l s),fun a j f e=>?_⟩;rw[<-p.pr' f e];have e1:Tb.aP k w A (fn u a) (fun s=>fn v s j)=Tb.aP k w A' (fun t=>Tb.dot k (fn u a) (fun s=>R s t)) (fun t=>Tb.dot w (fun s=>fn v s j) (fun s=>C s t)):=by
  rw[Tb.Ei];unfold Tb.aP;refine Tb.zi fun s g=>?_;have:=Tb.B5 (k:=k) (w:=w) (n:=w) (A:=A') (V:=C) (x:=R s) (Z:=fun s=>fn v s j);unfold Tb.aP at this;rw[this,Tb.zE w];exact Tb.zi fun t b=>h s t g b
 rw[e1];show Tb.dot k (fun l=>Tb.dot k (fun t=>Tb.dot k (fn u a) (fun s=>R s t)) (fun s=>fn cm s l)) (fun l=>vc ab l*Tb.dot w (fun t=>Tb.dot w (fun s=>fn v s j) (fun s=>C s t)) (fun s=>fn cB l s))=_;generalize hx:(fun t=>Tb.dot k (fn u a) (fun s=>R s t))=x;generalize hy:(fun t=>Tb.dot w (fun s=>fn v s j) (fun s=>C s t))=y;have e2:Tb.aP k w A' x y=Tb.aP k w A' (fun t=>Tb.dot k (fun l=>Tb.dot k x (fun s=>fn cm s l)) (fun l=>fn u' l t)) y:=H_ (fun _ _ _ _=>rfl) (fun t b=>(HZ d.u2 b).symm) fun _ _=>rfl;rw[e2,Tb.Ei];refine Tb.zi fun l o=>?_;have e3:Tb.aP k w A' (fn u' l) y=Tb.aP k w A' (fn u' l) (fun t=>Tb.dot w (fun m=>Tb.dot w y (fun s=>fn cB m s)) (fun m=>fn v' t m)):=H_ (fun _ _ _ _=>rfl) (fun _ _=>rfl) fun t b=>by
  have:=HZ (n:=w) (x:=y) (B:=fun s m=>fn cB m s) (U:=fun m t=>fn v' t m) (fun i j hi e=>by
   rw[BY,<-d.v1 j i e hi,Tb.zE]) b
  exact this.symm
 rw[e3];have r:=Tb.B5 (k:=k) (w:=w) (n:=w) (A:=A') (V:=fun m t=>fn v' t m) (x:=fn u' l) (Z:=fun m=>Tb.dot w y (fun s=>fn cB m s));rw[r];show _=Tb.dot w _ _;have z:Tb.dot w (fun m=>Tb.dot w y (fun s=>fn cB m s)) (fun m=>Tb.aP k w A' (fn u' l) (fun t=>fn v' t m))=Tb.dot w (fun m=>if l=m then vc ab l else 0) (fun m=>Tb.dot w y (fun s=>fn cB m s)):=by
  rw[Tb.zE w];exact Tb.zm fun m q=>d.pr' o q
 rw[z]
 by_cases c:l<w
 ·rw[Tb.Eh c]
 ·rw[Tb.zH fun t b=>if_neg ω,h5 (by have:=d.sw;(first|lia|omega))]
  simp
def Ia{st:List Int}(hd:∀i,i+1<st.length->vc st i ∣ vc st (i+1)):∀n i,vc st i ∣ vc st (i+n)
 |0,i=>Int.dvd_refl _
 |n+1,i=>by
  have a:=Ia hd n i
  by_cases c:i+n+1<st.length
  ·exact Int.dvd_trans a (hd (i+n) c)
  ·rw[h5 (show st.length<=i+(n+1) from ω)];exact Int.dvd_zero _
def Pap.steps{k w:Nat}{A A' R C R' r:Nat->Tb.Vc}{u ub v vb u' cm v' cB:Ξ}{st ab:List Int}(p:Pap k w A u ub v vb st)(d:Pap k w A' u' cm v' cB ab)(h:∀s t,s<k->t<w->A s t=Tb.aP k w A' (R s) (C t))(h':∀s t,s<k->t<w->A' s t=Tb.aP k w A (R' s) (r t)):st=ab:=by
 obtain⟨X,Z,j⟩:=p.via d h;obtain⟨E,F,o⟩:=d.via p h';have e:∀{st:List Int},(∀x∈st,0<x)->∀i,0<=vc st i:=fun{st} h i=>by
  by_cases c:i<st.length
  ·rw[ja c];exact Int.le_of_lt (h _ (Ay c))
  ·rw[h5 ω];exact Int.le_refl _
 have f:∀{st:List Int},(∀i,i+1<st.length->vc st i ∣ vc st (i+1))->∀i l,i<=l->l<k->vc st i ∣ vc st l:=fun{st} h i l h1 _=>by
  have:=Ia h (l-i) i
  rwa [show i+(l-i)=l from ω] at this
 have eq:=Tb.MF j o (e p.sp) (e d.sp) (f p.sd) (f d.sd);have one:∀{st ab:List Int},(∀x∈st,0<x)->st.length<=k->st.length<=w->(∀i,i<k->i<w->vc st i=vc ab i)->st.length<=ab.length:=fun{st ab} h1 h2 y g=>by
  rcases Bb ab.length st.length with c|c
  ·have q:=g ab.length ω ω
   rw[h5 (Ad _),ja c] at q;have:=h1 _ (Ay c);(first|lia|omega)
  ·exact c
 have z:=one p.sp p.sk p.sw eq;have D:=one d.sp d.sk d.sw fun i a b=>(eq i a b).symm;exact HP ω fun i hi=>eq i (by have:=p.sk;(first|lia|omega)) (by have:=p.sw;(first|lia|omega))
end K28
end
section
namespace L2
open PySem PySem.Spec PyProof.Rows
mutual
inductive DV(K:Ah)(H:Hp):V->PyData->Prop where
 |bl (b:Bool):DV K H (.bl b) (.bool b)
 |int (i:Int):DV K H (.int i) (.int i)
 |str (z:Str):DV K H (.str z) (.str z)
 |lst {l:Addr} {xs:List V} {ds:List PyData} (h:SqL K H l xs) (t:DVs K H xs ds):DV K H (.ref l) (.list ds)
inductive DVs(K:Ah)(H:Hp):List V->List PyData->Prop where
 |nil:DVs K H [] []
 |cons {x:V} {d:PyData} {xs:List V} {ds:List PyData} (h:DV K H x d) (t:DVs K H xs ds):DVs K H (x::xs) (d::ds)
end
section
variable{X:Cx}{aa:Ψ}{σ:St}{H:Hp}{s:Shared}
mutual
def DV.reads(I:Inv X aa σ H s):∀{x:V}{d:PyData}{u:Value},DV X.K H x d->RelV x u->∃a,Reads s.heap u d a
 |_,_,_,.bl b,r=>by cases r;exact⟨_,.bool b⟩
 |_,_,_,.int i,r=>by obtain⟨t,rfl⟩:=r;exact⟨_,.int i t⟩
 |_,_,_,.str z,r=>by obtain⟨t,rfl⟩:=r;exact⟨_,.str z t⟩
 |_,_,_,.lst h t,r=>by
  cases r;obtain⟨f,c,p,_⟩:=I.list h;obtain⟨o,e,hc,n,hd⟩:=p.isList;obtain⟨a,q⟩:=DVs.reads I t c;exact⟨_,.list e hc hd (by simpa using q)⟩
def DVs.reads(I:Inv X aa σ H s):∀{xs:List V}{ds:List PyData}{us:List Value},DVs X.K H xs ds->Vals xs us->∃c,ReadsAll s.heap us ds c
 |_,_,_,.nil,.nil=>⟨_,.nil⟩
 |_,_,_,.cons h t,.cons r rs=>by
  obtain⟨a,q⟩:=DV.reads I h r;obtain⟨b,d⟩:=DVs.reads I t rs;exact⟨_,.cons q d⟩
end
end
def fH(neg:Bool)(K:Ah):R2:=fun x y H Q=>∃d e,DV K H x d/\DV K H y e/\SeqAt.shaped d=true/\SeqAt.shaped e=true/\SeqAt.noMix d e=true/\Q (.bl (if neg then !same d e else same d e)) H
section
variable{X:Cx}
def Ib(g:X.A.units+64<cLine):cx X (compareOp .Eq) (fH false X.K):=by
 intro aa s σ H x y v u Q I a b h;obtain⟨d,e,h1,h2,c,f,nm,q⟩:=h;obtain⟨a1,r1⟩:=h1.reads I a;obtain⟨a2,r2⟩:=h2.reads I b;exact eq_dataH_same r1 r2 c f g nm ⟨.bl _,H,I,rfl,q⟩
def oR(g:X.A.units+64<cLine):cx X (compareOp .NotEq) (fH true X.K):=by
 intro aa s σ H x y v u Q I a b h;obtain⟨d,e,h1,h2,c,f,nm,q⟩:=h;obtain⟨a1,r1⟩:=h1.reads I a;obtain⟨a2,r2⟩:=h2.reads I b;exact ne_dataH_same r1 r2 c f g nm ⟨.bl _,H,I,rfl,q⟩
end
abbrev dh(ns:List Int):PyData:=.list (ns.map PyData.int)
abbrev cZ(tb:Ξ):PyData:=.list (tb.map dh)
abbrev iw(ts:List Ξ):PyData:=.list (ts.map cZ)
def Ej(ns ms:List Int):same (dh ns) (dh ms)=decide (ns=ms):=by simp only[same];exact PySem.W.ke_sameAll ns ms
def Ie:∀a b:Ξ,sameAll (a.map dh) (b.map dh)=decide (a=b)
 |[],[]=>by simp[sameAll]
 |[],_::_=>by simp[sameAll]
 |_::_,[]=>by simp[sameAll]
 |a::r,b::t=>by
  simp only[AY,sameAll,Ej];rw[Ie r t]
  by_cases h:a=b<;>by_cases h':r=t<;>simp[h,h']
def Ek(a b:Ξ):same (cZ a) (cZ b)=decide (a=b):=by simp only[same];exact Ie a b
def Ig:∀a b:List Ξ,sameAll (a.map cZ) (b.map cZ)=decide (a=b)
 |[],[]=>by simp[sameAll]
 |[],_::_=>by simp[sameAll]
 |_::_,[]=>by simp[sameAll]
 |a::r,b::t=>by
  simp only[AY,sameAll,Ek];rw[Ig r t]
  by_cases h:a=b<;>by_cases h':r=t<;>simp[h,h']
def MG(a b:List Ξ):same (iw a) (iw b)=decide (a=b):=by simp only[same];exact Ig a b
def Ih(ns:List Int):PyData.canLayAll0 (ns.map PyData.int)=true:=by simp[PySem.W.ke_canLayAll0]
def El:∀tb:Ξ,PyData.canLayAll0 (tb.map dh)=true
 |[]=>rfl
 |a::r=>by rw[AY,PyData.canLayAll0,El r,dh,PyData.canLay0,Ih];rfl
def Ii:∀b:List Ξ,PyData.canLayAll0 (b.map cZ)=true
 |[]=>rfl
 |a::r=>by rw[AY,PyData.canLayAll0,Ii r,cZ,PyData.canLay0,El];rfl
def Em:∀tb:Ξ,PyData.depthAll (tb.map dh)<=2
 |[]=>Aw _
 |a::r=>by
  have e:PyData.depth (dh a)<=2:=by simp[PyData.depth,PySem.W.ke_depthAll]
  rw[AY,PyData.depthAll];exact Nat.max_le.mpr ⟨e,Em r⟩
def Ij:∀b:List Ξ,PyData.depthAll (b.map cZ)<=3
 |[]=>Aw _
 |a::r=>by
  have e:PyData.depth (cZ a)<=3:=by
   have:=Em a;rw[cZ,PyData.depth];(first|lia|omega)
  rw[AY,PyData.depthAll];exact Nat.max_le.mpr ⟨e,Ij r⟩
def B6(tb:Ξ):SeqAt.shaped (cZ tb)=true:=by
 have:=Em tb;have e:PyData.depth (cZ tb)<=64:=by rw[cZ,PyData.depth];(first|lia|omega)
 unfold SeqAt.shaped;rw[decide_eq_true e,cZ,PyData.canLay0,El]
 rfl
def Ik(a:List Ξ):SeqAt.shaped (iw a)=true:=by
 have:=Ij a;have e:PyData.depth (iw a)<=64:=by rw[iw,PyData.depth];(first|lia|omega)
 unfold SeqAt.shaped;rw[decide_eq_true e,iw,PyData.canLay0,Ii]
 rfl
def Il(a b:List Int):SeqAt.noMix (dh a) (dh b)=true:=SeqAt.noMix_of_shape (.list .int) rfl _ _ (by simp[Shape.has]) (by simp[Shape.has])
def Im(a b:Ξ):SeqAt.noMix (cZ a) (cZ b)=true:=SeqAt.noMix_of_shape (.list (.list .int)) rfl _ _ (by simp[Shape.has]) (by simp[Shape.has])
def MH(a b:List Ξ):SeqAt.noMix (iw a) (iw b)=true:=SeqAt.noMix_of_shape (.list (.list (.list .int))) rfl _ _ (by simp[Shape.has]) (by simp[Shape.has])
def Io{K:Ah}{H:Hp}:∀ns:List Int,DVs K H (ns.map V.int) (ns.map PyData.int)
 |[]=>.nil
 |n::r=>.cons (.int n) (Io r)
def uQ{K:Ah}{H:Hp}{l:Addr}{ns:List Int}(h:SqL K H l (ns.map V.int)):DV K H (.ref l) (dh ns):=.lst h (Io ns)
end L2
end
section
namespace K28
open PySem L2
abbrev B7:Stmt:=top 15
abbrev oS:Stmt:=top 19
abbrev B8:Stmt:=top 20
def MI{K:Ah}{H:Hp}{rs:List Addr}{tb:Ξ}(h:Rws H rs tb):DVs K H (rs.map V.ref) (tb.map dh):=by
 induction h with
 |nil=>exact .nil
 |cons r t ih=>exact .cons (uQ (SqL.of r)) ih
def oT{K:Ah}{H:Hp}{L:Addr}{rs:List Addr}{tb:Ξ}(a:SqL K H L (rs.map V.ref))(h:Rws H rs tb):DV K H (.ref L) (cZ tb):=.lst a (MI h)
def MJ(tb:Ξ):Prop:=∀r∈tb,∀x∈r,x.natAbs<big
def En{tb:Ξ}:(turn tb).length=wid tb:=by unfold turn;simp
def Ip{tb:Ξ}:∀r∈turn tb,r.length=tb.length:=fun r hr=>by
 unfold turn at hr;obtain⟨j,_,rfl⟩:=List.mem_map.mp hr;unfold colAt;simp
section
variable{P:Program}{w:World}{K:Ah}{mg:Str->Option Value}{base:Heap}
def Eo(K:Ah):Sp:=fun vs H Q _=>∃L rs tb,vs=[.ref L]/\SqL K H L (rs.map V.ref)/\Rws H rs tb/\b5 tb=true/\∀H',Same H H'->Q .non H'
def MK{f a:Addr}{fd b:FuncData}(F:Fun K "must_be_table" "must_be_table" qO f fd)(Ft:Fun K "is_table" "is_table" qH a b)(bt:Binds K b ["table"] [])(mt:mg "is_table"=some (.ref a))(i:am P w K mg base ar 2 a b ["table"] (FM K)):am P w K mg base ar 3 f fd ["table"] (Eo K):=by
 refine F.ok KF (fun vs H Q E h=>?_) (fun j A outer s H vs Q E hr h=>?_)
 ·obtain⟨L,rs,tb,rfl,_⟩:=h;rfl
 ·obtain⟨L,rs,tb,rfl,e,g,c,k⟩:=h
  refine⟨_,zh (c3 (wh (ph (zg i hr rfl mt Ft.kp bt .nil af (za (pv 0) zc)))) EJ zT),?_⟩;refine⟨_,rfl,L,rs,tb,rfl,e,g,by have:=(fU c).1;(first|lia|omega),fun H1 d=>⟨_,rfl,?_⟩⟩;rw[c];exact aQ (k H1 d)
def Iq(K:Ah):Sp:=fun vs H Q _=>∃(L:Addr)(rs:List Addr)(tb:Ξ)(N n m:Nat),vs=[.ref L]/\H L=some (.lst (rs.map V.ref))/\Rws H rs tb/\b5 tb=true/\oQ N n m tb.length (wid tb) tb/\HU H Q tb.length (wid tb) (fn tb)
def ML:zo ["table"] ["table"] (zf B7):=⟨rfl,rfl,rfl,δ,rfl,δ,δ⟩
def PapH.old{H0 H H':Hp}{p:Addr}{u ub v vb:Ξ}{st:List Int}{a1 a2 a3 a4 a5:Addr}{d1 d2 d3 d4:List Addr}(h:PapH H H' p u ub v vb st a1 a2 a3 a4 a5 d1 d2 d3 d4)(s:Same H0 H):PapH H0 H' p u ub v vb st a1 a2 a3 a4 a5 d1 d2 d3 d4:=
 ⟨h.at_,h.n1.old s,h.n2.old s,h.n3.old s,h.n4.old s,h.n5,s.free h.na,h.j12,h.j13,h.j14,h.j15,h.j23,h.j24,h.j25,h.j34,h.j35,h.j45⟩
def PapH.same{H H' H2:Hp}{p:Addr}{u ub v vb:Ξ}{st:List Int}{a1 a2 a3 a4 a5:Addr}{d1 d2 d3 d4:List Addr}(h:PapH H H' p u ub v vb st a1 a2 a3 a4 a5 d1 d2 d3 d4)(s:Same H' H2):PapH H H2 p u ub v vb st a1 a2 a3 a4 a5 d1 d2 d3 d4:=
 ⟨s _ _ h.at_,h.n1.same s,h.n2.same s,h.n3.same s,h.n4.same s,s _ _ h.n5,h.na,h.j12,h.j13,h.j14,h.j15,h.j23,h.j24,h.j25,h.j34,h.j35,h.j45⟩
def MM{f g i j:Addr}{fd l o q:FuncData}(F:Fun K "stepped" "stepped" B7 f fd)(Fm:Fun K "must_be_table" "must_be_table" qO g l)(z:Binds K l ["table"] [])(C:mg "must_be_table"=some (.ref g))(M:am P w K mg base ar 3 g l ["table"] (Eo K))(Fp:Fun K "paper_of" "paper_of" BZ i o)(D:Binds K o ["table","width"] [])(G:mg "paper_of"=some (.ref i))(O:am P w K mg base ar 6 i o ["table","width"] HV)(Fw:Fun K "width_of" "width_of" kT j q)(I:Binds K q ["table"] [])(J:mg "width_of"=some (.ref j))(S:am P w K mg base ar 1 j q ["table"] (nv K)):am P w K mg base ar 7 f fd ["table"] (Iq K):=by
 refine F.ok ML (fun vs H Q E h=>?_) (fun T A outer s H vs Q E hr h=>?_)
 ·obtain⟨L,rs,tb,N,n,m,rfl,_⟩:=h;rfl
 ·obtain⟨L,rs,tb,N,n,m,rfl,b,c,it,ok,y⟩:=h
  have d:Room 3 _:=hr.mono ξ;have e:Room 1 _:=hr.mono ξ;refine⟨_,zd (kw (zg M d rfl C Fm.kp z .nil af (za (pv 0) zc))) (zh (zB (zg O hr rfl G Fp.kp D .nil af (za (pv 0) (za (zg S e rfl J Fw.kp I .nil af (za (pv 0) zc)) zc))))),?_⟩;refine⟨_,rfl,L,rs,tb,rfl,SqL.of b,c,it,fun H1 a=>⟨_,rfl,_,rfl,L,rs,tb,rfl,SqL.of (a _ _ b),c.same a,L,rs,tb,N,n,m,_,_,rfl,a _ _ b,c.same a,ok,?_⟩⟩;intro H' p u ub v vb st a1 a2 a3 a4 a5 d1 d2 d3 d4 r x pp;exact y H' p u ub v vb st a1 a2 a3 a4 a5 d1 d2 d3 d4 (a.trans r) (x.old a) pp
def B_(K:Ah):Sp:=fun vs H Q _=>∃(L:Addr)(rs:List Addr)(tb:Ξ)(N n m:Nat),vs=[.ref L]/\H L=some (.lst (rs.map V.ref))/\Rws H rs tb/\b5 tb=true/\oQ N n m tb.length (wid tb) tb/\
 ∀a H' u ub v vb st,Same H H'->H a=none->H' a=some (.lst (st.map V.int))->Pap tb.length (wid tb) (fn tb) u ub v vb st->Q (.ref a) H'
def MN:zo ["table"] ["table"] (zf oS):=⟨rfl,rfl,rfl,δ,rfl,δ,δ⟩
def MO{f fs:Addr}{fd b:FuncData}(F:Fun K "steps_of" "steps_of" oS f fd)(Fs:Fun K "stepped" "stepped" B7 fs b)(bs:Binds K b ["table"] [])(ms:mg "stepped"=some (.ref fs))(i:am P w K mg base ar 7 fs b ["table"] (Iq K)):am P w K mg base ar 8 f fd ["table"] (B_ K):=by
 refine F.ok MN (fun vs H Q E h=>?_) (fun l A outer s H vs Q E hr h=>?_)
 ·obtain⟨L,rs,tb,N,n,m,rfl,_⟩:=h;rfl
 ·obtain⟨L,rs,tb,N,n,m,rfl,d,e,it,ok,g⟩:=h
  refine⟨_,zh (zB (zw zL (zg i hr rfl ms Fs.kp bs .nil af (za (pv 0) zc)) ze (fun _ _=>rfl))),?_⟩;refine⟨_,rfl,L,rs,tb,N,n,m,rfl,d,e,it,ok,?_⟩;intro H' p u ub v vb st a1 a2 a3 a4 a5 d1 d2 d3 d4 c a pp;exact⟨p,_,_,_,rfl,rfl,SqT.of a.at_,zj (j:=4) rfl,g a5 H' u ub v vb st c a.na a.n5 pp⟩
def Ir(K:Ah):Sp:=fun vs H Q _=>∃(L:Addr)(rs:List Addr)(tb:Ξ)(N n m:Nat),vs=[.ref L]/\H L=some (.lst (rs.map V.ref))/\Rws H rs tb/\b5 tb=true/\oQ N n m tb.length (wid tb) tb/\
 ∀H' u ub v vb st,Same H H'->Pap tb.length (wid tb) (fn tb) u ub v vb st->Q (.int st.length) H'
def MP:zo ["table"] ["table"] (zf B8):=⟨rfl,rfl,rfl,δ,rfl,δ,δ⟩
def MQ{f fs:Addr}{fd b:FuncData}(F:Fun K "rank" "rank" B8 f fd)(bl:mg "len"=none)(Fs:Fun K "steps_of" "steps_of" oS fs b)(bs:Binds K b ["table"] [])(ms:mg "steps_of"=some (.ref fs))(j:am P w K mg base ar 8 fs b ["table"] (B_ K)):am P w K mg base ar 9 f fd ["table"] (Ir K):=by
 refine F.ok MP (fun vs H Q E h=>?_) (fun l A outer s H vs Q E hr h=>?_)
 ·obtain⟨L,rs,tb,N,n,m,rfl,_⟩:=h;rfl
 ·obtain⟨L,rs,tb,N,n,m,rfl,e,g,it,ok,i⟩:=h
  refine⟨_,zh (zB (zv zn rfl bl dF (za (zg j hr rfl ms Fs.kp bs .nil af (za (pv 0) zc)) zc))),?_⟩;refine⟨_,rfl,L,rs,tb,N,n,m,rfl,e,g,it,ok,fun a H' u ub v vb st c _ d pp=>⟨a,_,rfl,.inl (SqL.of d),?_⟩⟩;rw[Aa];exact i H' u ub v vb st c pp
end
def SmL(tb:Ξ):Prop:=∀r∈tb,∀x∈r,x.natAbs<low
def SmL.big{tb:Ξ}(h:SmL tb):MJ tb:=fun r hr x hx=>HB (h r hr x hx)
def Sm9(tb:Ξ):Prop:=∀r∈tb,∀x∈r,x.natAbs<=2 ^ 900
def Sm9.low{tb:Ξ}(h:Sm9 tb):SmL tb:=fun r hr x hx=>HA (h r hr x hx) ξ
abbrev B':Stmt:=top 40
abbrev ji:Stmt:=top 41
abbrev kb:Stmt:=top 42
structure jl(mg:Str->Option Value):Prop where
 len:mg "len"=none
 all:mg "all"=none
 zip:mg "zip"=none
 sum:mg "sum"=none
 range:mg "range"=none
 list:mg "list"=none
 int:mg "int"=none
 bool:mg "bool"=none
 isinstance:mg "isinstance"=none
 max:mg "max"=none
def Is(x y:Int):Prop:=0<=x/\(y=0\/(y=1/\x<4294967296))
def zU(H:Hp)(p:Addr):Prop:=∃x y,H p=some (.lst [.int x,.int y])/\Is x y
def zJ(p:Addr)(H H':Hp):Prop:=∀b o,b≠p->H b=some o->H' b=some o
def zJ.trans{p:Addr}{H H1 H2:Hp}(a:zJ p H H1)(b:zJ p H1 H2):zJ p H H2:=fun c o hc e=>b c o hc (a c o hc e)
def zJ.of{p:Addr}{H H1:Hp}(a:Same H H1):zJ p H H1:=fun c o _ e=>a c o e
def zJ.free{p:Addr}{H H':Hp}(e:zJ p H H')(hb:zU H p)(b:zU H' p){l:Addr}(h:H' l=none):H l=none:=by
 cases q:H l with
 |none=>rfl
 |some o=>
  obtain⟨x,y,e1,_⟩:=b;have a:l≠p:=fun z=>by rw[z,e1] at h;cases h
  rw[e l o a q] at h;cases h
def zU.same{H H':Hp}{p:Addr}(b:zU H p)(e:Same H H'):zU H' p:=let ⟨x,y,h,o⟩:=b;⟨x,y,e _ _ h,o⟩
def zU.ne{H:Hp}{p l:Addr}{c:List Addr}(b:zU H p)(h:H l=some (.lst (c.map V.ref))):l≠p:=by
 obtain⟨x,y,e,_⟩:=b;refine Cp h e fun z=>?_;injection z with z
 cases c with
 |nil=>cases z
 |cons a r=>rw[AY] at z;cases z
def zU.net{H:Hp}{p t:Addr}{xs:List V}(b:zU H p)(h:H t=some (.tup xs)):t≠p:=by
 obtain⟨x,y,e,_⟩:=b;exact Cp h e (by intro z;cases z)
def zJ.tp{p:Addr}{H H':Hp}{a:Addr}{ps:List Int}(e:zJ p H H')(b:zU H p)(h:Tp H a ps):Tp H' a ps:=e _ _ (b.net h) h
def zJ.then{p:Addr}{H H1:Hp}{a:Addr}{o:HO}(e:zJ p H H1)(h:H a=none):zJ p H (L2.upd H1 a o):=fun b u hb q=>by rw[ag (zk q h)];exact e b u hb q
def zU.upd{H:Hp}{p l:Addr}{o:HO}(b:zU H p)(h:l≠p):zU (L2.upd H l o) p:=let ⟨x,y,e,k⟩:=b;⟨x,y,by rw[ag h.symm];exact e,k⟩
def zU.new{H:Hp}{p l:Addr}{o:HO}(b:zU H p)(h:H l=none):zU (L2.upd H l o) p:=b.same (Same.new h)
section
variable{P:Program}{w:World}{K:Ah}{mg:Str->Option Value}{base:Heap}
def Iu(K:Ah):Sp:=fun vs H Q _=>∃(l:Addr)(ns:List Int)(j:Nat),vs=[.ref l,.int j]/\SqL K H l (ns.map V.int)/\∀n,Q (.int n) H
def MR:zo ["script","k"] ["script","k"] (zf B'):=⟨rfl,rfl,rfl,δ,rfl,δ,δ⟩
def MS{f:Addr}{fd:FuncData}(F:Fun K "_law_cell_at" "_law_cell_at" B' f fd)(B:jl mg):am P w K mg base ar 1 f fd ["script","k"] (Iu K):=by
 refine F.ok MR (fun vs H Q E h=>?_) (fun c A outer s H vs Q E hr h=>?_)
 ·obtain⟨l,ns,j,rfl,_⟩:=h;rfl
 ·obtain⟨l,ns,j,rfl,a,k⟩:=h
  refine⟨_,zd (c3 (zA CI (pv 1) (zv zn rfl B.len dF (za (pv 0) zc)) (ao _)) (zh (zB (zw zq (pv 0) (pv 1) (fun _ _=>rfl)))) zT) (zh (zB ze)),?_⟩;refine⟨_,rfl,_,rfl,l,_,rfl,.inl a,_,_,rfl,rfl,_,rfl,?_⟩;refine dw (fun h1=>?_) (fun h1=>?_)
  ·have b:j<ns.length:=by have:=of_decide_eq_true h1;simp at this;(first|lia|omega)
   exact⟨_,rfl,_,rfl,l,_,_,_,rfl,rfl,a,zj (j:=j) (v:=.int ns[j]) (by rw[Aj,Ac b];rfl),k _⟩
  ·exact k 0
def Iv:Sp:=fun vs H Q _=>∃n,vs=[.int n]/\∀p x y,H p=none->Is x y->Q (.ref p) (upd H p (.lst [.int x,.int y]))
def MT:zo ["cell"] ["cell"] (zf ji):=⟨rfl,rfl,rfl,δ,rfl,δ,δ⟩
def MU{f:Addr}{fd:FuncData}(F:Fun K "_law_box" "_law_box" ji f fd):am P w K mg base ar 1 f fd ["cell"] Iv:=by
 refine F.ok MT (fun vs H Q E h=>?_) (fun b A outer s H vs Q E hr h=>?_)
 ·obtain⟨n,rfl,_⟩:=h;rfl
 ·obtain⟨n,rfl,k⟩:=h
  refine⟨_,zd (c3 (zA Ju (pv 0) (zD CH ze ze) (ao _)) (zh (zB (ek (za (zD eX (pv 0) (zD CH ze ze)) (za ze zc))))) zT)
   (zh (zB (ek (za (zD iI (zD dW (zD jD (zD iI (pv 0) (zD CH ze ze)) ze) ze) ze) (za ze zc))))),?_⟩
  have hc:pO 10 18:=⟨ξ,ξ,ξ⟩;have a:(10:Int) ^ (18:Int).toNat=1000000000000000000:=ξ
  refine⟨_,rfl,_,_,rfl,rfl,hc,_,_,rfl,rfl,_,rfl,?_⟩;refine dw (fun h1=>?_) (fun h1=>?_)
  ·refine⟨_,rfl,_,_,rfl,rfl,hc,_,_,rfl,rfl,zx (by simp),fun p hp=>k p _ 0 hp ⟨?_,.inl rfl⟩⟩
   have:=of_decide_eq_true h1
   lia
  ·refine⟨_,rfl,_,_,rfl,rfl,hc,_,_,rfl,rfl,(by show(0:Int)<10 ^ (18:Int).toNat;rw[a];decide),_,_,rfl,rfl,.inr ⟨ξ,ξ⟩,_,_,rfl,rfl,_,_,rfl,rfl,(by show(0:Int)<2147483629;decide),zx (by simp),fun p hp=>k p _ 1 hp ⟨?_,.inr ⟨rfl,?_⟩⟩⟩
   ·exact Int.emod_nonneg _ ξ
   ·have:=Int.emod_lt_of_pos (n%10 ^ (18:Int).toNat*69621+7001) (show(0:Int)<2147483629 from ξ)
    lia
def mx:Sp:=fun vs H Q _=>∃p m,vs=[.ref p,.int m]/\zU H p/\0<m/\m<1073741824/\∀r H',0<=r->r<m->zJ p H H'->zU H' p->Q (.int r) H'
def Ep:zo ["box","most","found","mixed"] ["box","most"] (zf kb):=⟨rfl,rfl,rfl,δ,rfl,δ,δ⟩
def u9{f:Addr}{fd:FuncData}(F:Fun K "_law_take" "_law_take" kb f fd):am P w K mg base ar 1 f fd ["box","most"] mx:=by
 refine F.ok Ep (fun vs H Q E h=>?_) (fun J A outer s H vs Q E hr h=>?_)
 ·obtain⟨p,m,rfl,_⟩:=h;rfl
 ·obtain⟨p,m,rfl,⟨x,y,hp,d,g⟩,a,D,k⟩:=h
  refine⟨_,zd (c3 (zA gs (zw zq (pv 0) ze (fun _ _=>rfl)) ze (ao _))
    (zd (zp (i:=2) Ep.nd rfl (Or.inl rfl) (zD iI (zw zq (pv 0) ze (fun _ _=>rfl)) (pv 1)))
    (zd (gg (zD CG (zw zq (pv 0) ze (fun _ _=>rfl)) (pv 1)) (fJ (pv 0) ze set_list))
    (zh (zB (pv 2))))) zT)
   (zd (zp (i:=3) Ep.nd rfl (Or.inl rfl) (zD iI (zD dW (zD dW (zD jD (zw zq (pv 0) ze (fun _ _=>rfl)) (zw zq (pv 0) ze (fun _ _=>rfl))) (zD jD ze (zw zq (pv 0) ze (fun _ _=>rfl)))) ze) ze))
   (zd (gg (zD iI (zD dW (zD dW (zD jD (pv 3) (pv 3)) (zD jD ze (pv 3))) ze) ze) (fJ (pv 0) ze set_list))
   (zh (zB (zD iI (zD CG (zw zq (pv 0) ze (fun _ _=>rfl)) ze) (pv 1)))))),?_⟩
  have c:atI ([.int x,.int y]:List V) 0=some (.int x):=zj (j:=0) rfl;have a1:atI ([.int x,.int y]:List V) 1=some (.int y):=zj (j:=1) rfl;refine⟨_,rfl,p,_,_,_,rfl,rfl,SqL.of hp,a1,rfl,_,rfl,?_⟩;refine dw (fun h1=>?_) (fun h1=>?_)
  ·refine⟨_,rfl,p,_,_,_,rfl,rfl,SqL.of hp,c,_,rfl,_,_,rfl,rfl,a,?_⟩
   refine⟨_,rfl,p,_,_,_,rfl,rfl,SqL.of hp,c,_,rfl,_,_,rfl,rfl,⟨a,D⟩,_,rfl,p,_,_,0,rfl,rfl,hp,rfl,?_⟩;refine⟨_,rfl,k (x%m) _ (Int.emod_nonneg _ (by lia)) (Int.emod_lt_of_pos _ a) (fun b o hb e=>by rw[ag hb];exact e) ⟨x / m,y,zb,Int.ediv_nonneg d (by lia),?_⟩⟩;rcases g with q|⟨q,hx⟩
   ·exact .inl q
   ·refine .inr ⟨q,Int.lt_of_le_of_lt (Int.ediv_le_self _ d) hx⟩
  ·have hy:y=1/\x<4294967296:=by
    rcases g with q|q
    ·exact absurd (by subst q;rfl) h1
    ·exact q
   obtain⟨rfl,hx⟩:=hy;have hb:CMul x x:=.inl ⟨by lia,by lia⟩;refine⟨_,rfl,p,_,_,_,rfl,rfl,SqL.of hp,c,_,rfl,p,_,_,_,rfl,rfl,SqL.of hp,c,_,_,rfl,rfl,hb,_,rfl,p,_,_,_,rfl,rfl,SqL.of hp,c,_,_,rfl,rfl,.inl ⟨ξ,ξ⟩,_,_,rfl,rfl,_,_,rfl,rfl,_,_,rfl,rfl,(by show(0:Int)<2147483647;decide),?_⟩;have G:=Int.emod_nonneg (x*x+39373*x+12345) (show(2147483647:Int)≠0 from ξ);have I:=Int.emod_lt_of_pos (x*x+39373*x+12345) (show(0:Int)<2147483647 from ξ);obtain⟨z,l⟩:∃z,z=(x*x+39373*x+12345)%2147483647:=⟨_,rfl⟩;rw[<-l] at G I;show pA _ _ _ ([some (.ref p),some (.int m),none,some (.int ((x*x+39373*x+12345)%2147483647))]:St) H;rw[<-l];refine⟨_,rfl,_,rfl,_,_,rfl,rfl,.inl ⟨by lia,by lia⟩,_,rfl,_,_,rfl,rfl,.inl ⟨ξ,ξ⟩,_,_,rfl,rfl,_,_,rfl,rfl,_,_,rfl,rfl,(by show(0:Int)<2147483587;decide),_,rfl,p,_,_,0,rfl,rfl,hp,rfl,?_⟩;have v:=Int.emod_nonneg (z*z+16807*z+7) (show(2147483587:Int)≠0 from ξ);have g1:=Int.emod_lt_of_pos (z*z+16807*z+7) (show(0:Int)<2147483587 from ξ);obtain⟨u,r⟩:∃u,u=(z*z+16807*z+7)%2147483587:=⟨_,rfl⟩;rw[<-r] at v g1;have C:upd H p (.lst [.int ((z*z+16807*z+7)%2147483587),.int 1]) p=some (.lst [.int u,.int 1]):=by rw[r];exact zb
   refine⟨_,rfl,p,_,_,_,rfl,rfl,SqL.of C,zj (j:=0) rfl,_,_,rfl,rfl,⟨ξ,ξ⟩,_,rfl,_,_,rfl,rfl,a,?_⟩;exact k _ _ (Int.emod_nonneg _ (by lia)) (Int.emod_lt_of_pos _ a) (fun b o hb e=>by rw[ag hb];exact e) ⟨u,1,C,v,.inr ⟨rfl,by lia⟩⟩
end
abbrev g0:Stmt:=top 43
abbrev jp:Stmt:=top 44
section
variable{P:Program}{w:World}{K:Ah}{mg:Str->Option Value}{base:Heap}
def Bnd(m:Int)(ns:List Int):Prop:=∀n∈ns,-m<=n/\n<=m
def Er:Sp:=fun vs H Q _=>∃(p:Addr)(c:Nat)(a:Int),vs=[.ref p,.int c,.int a]/\zU H p/\c<=1000/\0<a/\a<1073741824/\∀D H' ns,zJ p H H'->zU H' p->H D=none->H' D=some (.lst (ns.map V.int))->ns.length=c->Bnd a ns->Q (.ref D) H'
def MV:zo ["box","columns","wide"] ["box","columns","wide"] (zf g0):=⟨rfl,rfl,rfl,δ,rfl,δ,δ⟩
def Iw{f G:Addr}{fd I:FuncData}(F:Fun K "_law_row" "_law_row" g0 f fd)(B:jl mg)(Ft:Fun K "_law_take" "_law_take" kb G I)(bt:Binds K I ["box","most"] [])(mt:mg "_law_take"=some (.ref G)):am P w K mg base ar 2 f fd ["box","columns","wide"] Er:=by
 have T:am P w K mg base ar 1 G I ["box","most"] mx:=u9 Ft;refine F.ok MV (fun vs H Q E h=>?_) (fun U A outer s H vs Q E hr h=>?_)
 ·obtain⟨p,c,d,rfl,_⟩:=h;rfl
 ·obtain⟨p,c,d,rfl,hb,hc,O,w1,k⟩:=h
  refine⟨_,zh (zB (zr ["box","columns","wide"] ["place","box","wide"] [none,some 0,some 2] (iA rfl B.range (za (pv 1) zc)) (fun J C s₀ H₀ ex=>zl (i:=0) (ba ["place","box","wide"]) rfl (Or.inl rfl)) (fun J C s₀ H₀ ex=>zu)
   (fun J C s₀ H₀ ex=>zD eX (zg T hr rfl mt Ft.kp bt .nil af (za (pv 1) (za (pv 2) zc))) (zD CG (pv 2) ze)) (te:=bT (eP fun i j=>.int (i-j)) (hV mx [] E0 (cy (ap 1) (cy (ap 2) ca))) (bT (rI pN fun i j=>.int (i / j)) (ap 2) (tC (.int 2)))) (hfr:=bB (zf g0) δ))),?_⟩
  refine⟨_,rfl,_,rfl,ω,ω,fun D l=>?_⟩;have M:D≠p:=fun z=>by obtain⟨x,y,e,_⟩:=hb;rw[<-z,l] at e;cases e
  refine zt (qb (fun j σ ys g=>∃(v:Option V)(ns:List Int),σ=[v,some (.ref p),some (.int d)]/\zJ p H g/\zU g p/\g D=some (.lst ys)/\ys=ns.map V.int/\ns.length=j/\Bnd d ns) ?_ ?_ ?_)
  ·exact⟨none,[],rfl,.of (Same.new l),hb.new l,zb,rfl,rfl,fun n o=>by cases o⟩
  ·rintro j σ ys g S hy ⟨v,ns,rfl,q,a,b,rfl,u,bd⟩
   refine cA ?_;refine⟨_,rfl,_,rfl,p,d,rfl,a,O,w1,fun r X W r1 L N=>⟨_,rfl,_,_,rfl,rfl,⟨ξ,ξ⟩,_,_,rfl,rfl,?_⟩⟩;refine bI (zx ω) S hy (L _ _ M b) ⟨_,ns++[r-d / 2],rfl,(q.trans L).then l,N.upd M,zb,by simp,by simp[u],fun n o=>?_⟩;rcases List.mem_append.mp o with h|h
   ·exact bd n h
   ·obtain rfl:n=r-d / 2:=by simpa using h
    (first|lia|omega)
  ·rintro σ ys g ⟨v,ns,rfl,q,a,b,rfl,u,bd⟩
   exact k D g ns q a l b u bd
end
def Rws.sameB{p:Addr}{H H':Hp}{ds:List Addr}{tb:Ξ}(h:Rws H ds tb)(s:zJ p H H'):(∀d∈ds,d≠p)->Rws H' ds tb:=by
 induction h with
 |nil=>intro _;exact .nil
 |cons r t ih=>intro n;exact .cons (s _ _ (n _ (AC)) r) (ih fun d hd=>n d (AG _ hd))
def Rws.set{H:Hp}{ds:List Addr}{tb:Ξ}{d:Addr}{ns:List Int}(h:Rws H ds tb)(e:H d=some (.lst (ns.map V.int))):∀i:Nat,Rws H (ds.set i d) (tb.set i ns):=by
 induction h with
 |nil=>intro i;exact .nil
 |cons r t ih=>
  intro i;cases i with
  |zero=>exact .cons e t
  |succ i=>exact .cons r (ih i)
section
variable{P:Program}{w:World}{K:Ah}{mg:Str->Option Value}{base:Heap}
def MW{p D:Addr}{H2:Hp}{n:Nat}{Q:VK}{Pr:List Int->Prop}{te:TE}{c:List (Option V)}(hb:zU H2 p)(L:∀(j:Nat)(H:Hp)(R:VK),zJ p H2 H->zU H p->(∀d H' ns,zJ p H H'->zU H' p->H d=none->H' d=some (.lst (ns.map V.int))->Pr ns->R (.ref d) H')->te (some (.int j)::c) H R)(hz:n<=1000)(q:H2 D=none)(k:∀a ds tb,zJ p H2 a->zU a p->a D=some (.lst (ds.map V.ref))->Rws a ds tb->tb.length=n->(∀r∈tb,Pr r)->(∀d∈ds,H2 d=none/\d≠D)->Q (.ref D) a):cz (fK 0 n) (zS 0) bC te (none::c) H2 D Q:=by
 have l:∀d,H2 d=none->d≠p:=fun d e z=>by obtain⟨x,y,A,_⟩:=hb;rw[<-z,e] at A;cases A
 have C:=l D q;refine qb (fun j σ ys a=>∃(v:Option V)(ds:List Addr)(tb:Ξ),σ=v::c/\zJ p H2 a/\zU a p/\a D=some (.lst ys)/\ys=ds.map V.ref/\Rws a ds tb/\tb.length=j/\(∀r∈tb,Pr r)/\∀d∈ds,H2 d=none/\d≠D) ?_ ?_ ?_
 ·exact⟨none,[],[],rfl,.of (Same.new q),hb.new q,zb,rfl,.nil,rfl,(fun d hd=>by cases hd),fun d hd=>by cases hd⟩
 ·rintro j σ ys a I hy ⟨v,ds,tb,rfl,i,b,f,rfl,hr,u,hp,o⟩
  refine cA ?_;rw[show(0:Int)+((j:Nat):Int)=((j:Nat):Int) from ω];refine L j a _ i b fun d M ns s E hd F pr=>?_;have J:H2 d=none:=i.free hb b hd;have w:d≠D:=fun z=>by rw[z,f] at hd;cases hd
  have all:∀e∈ds++[d],H2 e=none/\e≠D:=fun e g=>by
   rcases List.mem_append.mp g with h|h
   ·exact o e h
   ·obtain rfl:e=d:=by simpa using h
    exact⟨J,w⟩
  refine bI (zx ω) I hy (s _ _ C f) ⟨_,ds++[d],tb++[ns],rfl,(i.trans s).then q,E.upd C,zb,by simp,?_,by simp[u],fun r G=>?_,all⟩
  ·exact((hr.sameB s fun e g=>l e (o e g).1).snoc F).upd fun e g=>(all e g).2
  ·rcases List.mem_append.mp G with h|h
   ·exact hp r h
   ·obtain rfl:r=ns:=by simpa using h
    exact pr
 ·rintro σ ys a ⟨v,ds,tb,rfl,i,b,f,rfl,hr,u,hp,o⟩
  exact k a ds tb i b f hr u hp o
abbrev mz:TE:=bT (rI CMul fun i j=>.int (i*j)) (ap 1) (ap 0)
def Ix{R D:Addr}{H2:Hp}{ns:List Int}{o:Int}{Q:VK}(e:-(2 ^ 64)<o/\o<2 ^ 64)(f:H2 R=some (.lst (ns.map V.int)))(hz:ns.length<=1000)(c:H2 D=none)(k:∀a,Same H2 a->a D=some (.lst ((ns.map (o*·)).map V.int))->Q (.ref D) a):cz (eO K R) (zS 0) bC mz [none,some (.int o)] H2 D Q:=by
 refine jS (xs:=ns.map V.int) (fun j σ ys a=>∃(v:Option V),σ=[v,some (.int o)]/\Same H2 a/\a D=some (.lst ys)/\ys=((ns.take j).map (o*·)).map V.int) ?_ ?_ ?_ ?_
 ·exact⟨none,rfl,Same.new c,zb,rfl⟩
 ·rintro j σ ys a ⟨v,rfl,sm,_⟩
  exact SqL.of (sm _ _ f)
 ·rintro j σ ys a x hx d hy ⟨v,rfl,sm,b,rfl⟩
  obtain⟨q,g,rfl⟩:=fY hx;refine cA ?_;refine⟨_,rfl,_,rfl,_,_,rfl,rfl,.inl e,bI (by rw[Aa];exact zx ω) d hy b ⟨_,rfl,sm.then c,zb,?_⟩⟩;rw[take_snoc g,Ap,Ap]
  rfl
 ·rintro σ ys a ⟨v,rfl,sm,b,rfl⟩
  rw[Aa,Ar (Ad _)] at b;exact k a sm b
end
def TabB(H0:Hp)(p F:Addr)(c n:Nat)(m:Int)(H':Hp):Prop:=∃ds tb,zJ p H0 H'/\zU H' p/\H' F=some (.lst (ds.map V.ref))/\Rws H' ds tb/\tb.length=n/\(∀r∈tb,r.length=c/\Bnd m r)/\(∀d∈ds,H0 d=none/\d≠F)/\H0 F=none
def ei{H:Hp}{p d:Addr}(hb:zU H p)(e:H d=none):d≠p:=fun z=>by obtain⟨x,y,a,_⟩:=hb;rw[<-z,e] at a;cases a
def TabB.draw{H0 H' a:Hp}{p F:Addr}{c n:Nat}{m:Int}(hb:zU H0 p)(h:TabB H0 p F c n m H')(s:zJ p H' a)(b:zU a p):TabB H0 p F c n m a:=by
 obtain⟨ds,tb,g,_,i,hr,j,hp,e,f⟩:=h;exact⟨ds,tb,g.trans s,b,s _ _ (ei hb f) i,hr.sameB s fun d hd=>ei hb (e d hd).1,j,hp,e,f⟩
def Bnd.mono{m a:Int}{ns:List Int}(h:Bnd m ns)(c:m<=a):Bnd a ns:=fun n b=>by have:=h n b;(first|lia|omega)
def Bnd.times{m k o:Int}{ns:List Int}(h:Bnd m ns)(d:0<=m)(h1:-k<=o)(h2:o<=k):Bnd (k*m) (ns.map (o*·)):=fun n c=>by
 obtain⟨q,hq,rfl⟩:=List.mem_map.mp c;obtain⟨e,f⟩:=h q hq;have hk:0<=k:=ω
 have e1:o.natAbs<=k.natAbs:=ω
 have e2:q.natAbs<=m.natAbs:=ω
 have e3:(o*q).natAbs<=(k*m).natAbs:=by rw[AF,AF];exact AO e1 e2
 have g:0<=k*m:=Int.mul_nonneg hk d;show -(k*m)<=o*q/\o*q<=k*m;generalize o*q=a at *;generalize k*m=b at *;(first|lia|omega)
def TabB.put{H0 H' q:Hp}{p F D:Addr}{c n:Nat}{m g:Int}{ds:List Addr}{tb:Ξ}{i:Nat}{ns:List Int}(hb:zU H0 p)(s:zJ p H0 H')(u:zU H' p)(A:H' F=some (.lst (ds.map V.ref)))(hr:Rws H' ds tb)(C:tb.length=n)(hp:∀r∈tb,r.length=c/\Bnd m r)(E:∀d∈ds,H0 d=none/\d≠F)(j:H0 F=none)(l:H' D=none)(sm:Same H' q)(e:q D=some (.lst (ns.map V.int)))(G:ns.length=c)(H:Bnd g ns)(I:m<=g):TabB H0 p F c n g (L2.upd q F (.lst ((ds.map V.ref).set i (.ref D)))):=by
 have x:=ei hb j;have y:D≠F:=fun z=>by rw[z,A] at l;cases l
 have f:H0 D=none:=s.free hb u l;have mem:∀d∈ds.set i D,H0 d=none/\d≠F:=fun d hd=>by
  rcases AL hd with h|h
  ·exact E d h
  ·rw[h];exact⟨f,y⟩
 refine⟨ds.set i D,tb.set i ns,fun b o v a=>?_,(u.same sm).upd x,?_,((hr.same sm).set e i).upd fun d hd=>(mem d hd).2,by simp[C],fun r w=>?_,mem,j⟩
 ·rw[ag (fun z=>by rw[z,j] at a;cases a)]
  exact sm _ _ (s b o v a)
 ·rw[zb,List.map_set]
 ·rcases AL w with h|h
  ·exact⟨(hp r h).1,(hp r h).2.mono I⟩
  ·rw[h];exact⟨G,H⟩
def mC{n:Nat}{k:Int}(a:0<=k)(h1:k<n):fN n k=some k.toNat:=by unfold fN;rw[if_pos a,if_pos h1]
def Iy{a:Type}{xs:List a}{k:Int}{v:a}(b:0<=k)(h1:k<xs.length)(e:xs[k.toNat]?=some v):atI xs k=some v:=by unfold atI;rw[mC b h1];exact e
section
variable{P:Program}{w:World}{K:Ah}{mg:Str->Option Value}{base:Heap}
def Iz:Sp:=fun vs H Q _=>∃(p:Addr)(q:Nat),vs=[.ref p,.int q]/\q<=6/\zU H p/\∀F H' c n,c<=q->n<=q->TabB H p F c n 1000 H'->Q (.ref F) H'
def iy:zo ["box","most","rows","columns","wide","found","one","other","often"] ["box","most"] (zf jp):=⟨rfl,rfl,rfl,δ,rfl,δ,δ⟩
def MX{f ft fr:Addr}{fd aS dJ:FuncData}(F:Fun K "_law_table" "_law_table" jp f fd)(B:jl mg)(Ft:Fun K "_law_take" "_law_take" kb ft aS)(bt:Binds K aS ["box","most"] [])(mt:mg "_law_take"=some (.ref ft))(Fr:Fun K "_law_row" "_law_row" g0 fr dJ)(br:Binds K dJ ["box","columns","wide"] [])(mr:mg "_law_row"=some (.ref fr)):am P w K mg base ar 3 f fd ["box","most"] Iz:=by
 have z:am P w K mg base ar 1 ft aS ["box","most"] mx:=u9 Ft;have Gr:am P w K mg base ar 2 fr dJ ["box","columns","wide"] Er:=Iw Fr B Ft bt mt;refine F.ok iy (fun vs H Q E h=>?_) (fun ai A outer s H vs Q E hr h=>?_)
 ·obtain⟨p,q,rfl,_⟩:=h;rfl
 ·obtain⟨p,q,rfl,z_,hb,k⟩:=h
  have a:Room 1 _:=hr.mono ξ;have ny:∃tt,PSs (b3 ar P w K mg base ["box","most","rows","columns","wide","found","one","other","often"] "_law_table" (zf jp) f ai A outer s H E).nox (List.drop 5 (zX jp)) tt/\∀(e:Addr)(n c:Nat)(x4 v6 v7 v8:Option V)(H':Hp),n<=q->c<=q->TabB H p e c n 122 H'->
    tt {nx:=fun _ H'=>Q .non H',rt:=Q} [some (.ref p),some (.int q),some (.int n),some (.int c),x4,some (.ref e),v6,v7,v8] H':=by
   refine⟨_,(zd (c3 (PW.pt (mX (zA jI (pv 2) ze (ao _)) (mU (zA gs (zg z a rfl mt Ft.kp bt .nil af (za (pv 0) (za ze zc))) ze (ao _)))))
    (zd (zp (i:=6) iy.nd rfl (Or.inl rfl) (zg z a rfl mt Ft.kp bt .nil af (za (pv 0) (za (pv 2) zc))))
    (zd (zp (i:=8) iy.nd rfl (Or.inr rfl) (zD dW ze (zg z a rfl mt Ft.kp bt .nil af (za (pv 0) (za ze zc)))))
    (zh (gg (zr ["box","most","rows","columns","wide","found","one","other","often"] ["number","often"] [none,some 8] (zG (zw zq (pv 5) (pv 6) (fun _ _=>rfl))) (fun I C s₀ H₀ ex=>zl (i:=0) (ba ["number","often"]) rfl (Or.inl rfl)) (fun I C s₀ H₀ ex=>zu)
     (fun I C s₀ H₀ ex=>zD jD (pv 1) (pv 0)) (te:=mz) (hfr:=bB (zf jp) δ)) (fJ (pv 5) (pv 6) set_list))))) zT)
    (zh (zB (pv 5)))),?_⟩
   intro e n c x4 v6 v7 v8 H' hn hc T;have bD:zU H' p:=by obtain⟨_,_,_,b,_⟩:=T;exact b
   refine⟨_,rfl,_,_,rfl,rfl,_,rfl,?_⟩
   by_cases c1:0<n
   ·rw[decide_eq_true (show(0:Int)<(n:Int) from ω)]
    refine aW ⟨_,rfl,p,_,rfl,bD,ξ,ξ,fun u H1 u0 u1 dj Y=>⟨rfl,_,rfl,?_⟩⟩;have T1:=T.draw hb dj Y;refine dw (fun _=>?_) (fun _=>?_)
    ·refine⟨_,rfl,_,rfl,p,_,rfl,Y,ω,ω,fun i H2 Z i1 dU S=>?_⟩
     refine⟨_,rfl,p,_,rfl,S,ξ,ξ,fun o H3 o0 o1 fg l=>⟨_,_,rfl,rfl,?_⟩⟩;obtain⟨ds,tb,L,M,y,x,G,hp,g,N⟩:=(T1.draw hb dU S).draw hb fg l;have iP:=x.len;have hi:i.toNat<ds.length:=ω
     obtain⟨ns,en,X⟩:=x.get (Ac hi);have O:=Al en;refine⟨_,rfl,_,rfl,e,_,_,_,rfl,rfl,SqL.of y,Iy (v:=.ref ds[i.toNat]) Z (by rw[Aa];(first|lia|omega)) (by rw[Aj,Ac hi];rfl),_,rfl,⟨_,SqL.of X⟩,fun D U=>?_⟩;refine zt (Ix (o:=1+o) ⟨ω,ω⟩ X (by rw[(hp ns O).1];(first|lia|omega)) U fun H4 aV bG=>?_);refine⟨_,rfl,_,rfl,e,_,_,i.toNat,rfl,rfl,aV _ _ y,mC Z (by rw[Aa];(first|lia|omega)),?_⟩;refine⟨_,rfl,k e _ c n hc hn ?_⟩;exact TabB.put hb L M y x G hp g N U aV bG (by rw[Aa];exact(hp ns O).1) (((hp ns O).2.times (k:=6) ω ω ω).mono ω) ω
    ·obtain⟨ds,tb,L,M,y,x,G,hp,g,N⟩:=T1
     exact⟨_,rfl,k e _ c n hc hn ⟨ds,tb,L,M,y,x,G,fun r J=>⟨(hp r J).1,(hp r J).2.mono ω⟩,g,N⟩⟩
   ·rw[decide_eq_false (show ¬(0:Int)<(n:Int) from ω)]
    refine aQ (aQ ?_);obtain⟨ds,tb,L,M,y,x,G,hp,g,N⟩:=T;exact⟨_,rfl,k e _ c n hc hn ⟨ds,tb,L,M,y,x,G,fun r J=>⟨(hp r J).1,(hp r J).2.mono ω⟩,g,N⟩⟩
  obtain⟨tt,ht,kt⟩:=ny;refine⟨_,zd (zp (i:=2) iy.nd rfl (Or.inl rfl) (zg z a rfl mt Ft.kp bt .nil af (za (pv 0) (za (zD dW (pv 1) ze) zc))))
   (zd (zp (i:=3) iy.nd rfl (Or.inr rfl) (zg z a rfl mt Ft.kp bt .nil af (za (pv 0) (za (zD dW (pv 1) ze) zc))))
   (zd (zp (i:=4) iy.nd rfl (Or.inr rfl) (zw zq (ek (za ze (za ze (za ze (za ze zc))))) (zg z a rfl mt Ft.kp bt .nil af (za (pv 0) (za ze zc))) (fun _ _=>rfl)))
   (zd (kS (i:=5) iy.nd rfl (Or.inl rfl) ["box","most","rows","columns","wide","found","one","other","often"] ["row","box","columns","wide"] [none,some 0,some 3,some 4] (iA rfl B.range (za (pv 2) zc)) (fun I C s₀ H₀ ex=>zl (i:=0) (ba ["row","box","columns","wide"]) rfl (Or.inl rfl)) (fun I C s₀ H₀ ex=>zu)
    (fun I C s₀ H₀ ex=>zg Gr hr rfl mr Fr.kp br .nil af (za (pv 1) (za (pv 2) (za (pv 3) zc)))) (te:=hV Er [] E0 (cy (ap 1) (cy (ap 2) (cy (ap 3) ca)))) (hfr:=bB (zf jp) δ))
   (zd (c3 (PW.pt (mX (zA jI (pv 2) ze (ao _)) (mU (zA gs (zg z a rfl mt Ft.kp bt .nil af (za (pv 0) (za ze zc))) ze (ao _)))))
    (zd (zp (i:=6) iy.nd rfl (Or.inl rfl) (zg z a rfl mt Ft.kp bt .nil af (za (pv 0) (za (pv 2) zc))))
    (zd (zp (i:=7) iy.nd rfl (Or.inl rfl) (zg z a rfl mt Ft.kp bt .nil af (za (pv 0) (za (pv 2) zc))))
    (zd (zp (i:=8) iy.nd rfl (Or.inr rfl) (zD eX (zg z a rfl mt Ft.kp bt .nil af (za (pv 0) (za ze zc))) ze))
    (zh (gg (zr ["box","most","rows","columns","wide","found","one","other","often"] ["number","often"] [none,some 8] (zG (zw zq (pv 5) (pv 7) (fun _ _=>rfl))) (fun I C s₀ H₀ ex=>zl (i:=0) (ba ["number","often"]) rfl (Or.inl rfl)) (fun I C s₀ H₀ ex=>zu)
     (fun I C s₀ H₀ ex=>zD jD (pv 1) (pv 0)) (te:=mz) (hfr:=bB (zf jp) δ)) (fJ (pv 5) (pv 6) set_list)))))) zT)
   ht)))),?_⟩
  refine⟨_,rfl,_,rfl,_,_,rfl,rfl,p,_,rfl,hb,ω,ω,fun n H1 n0 n1 dj Y=>?_⟩;refine⟨_,rfl,_,rfl,_,_,rfl,rfl,p,_,rfl,Y,ω,ω,fun c H2 c0 c1 dU S=>?_⟩;refine⟨ξ,fun q hq=>⟨_,rfl,p,_,rfl,S.new hq,ξ,ξ,fun v H3 v0 v1 fg l=>?_⟩⟩;obtain⟨n,rfl⟩:∃m:Nat,n=(m:Int):=⟨n.toNat,ω⟩;obtain⟨c,rfl⟩:∃m:Nat,c=(m:Int):=⟨c.toNat,ω⟩;obtain⟨W,ew,w0,w1⟩:∃W:Int,atI [V.int 3,.int 5,.int 13,.int 61] v=some (.int W)/\0<W/\W<=61:=by
   have:v=0\/v=1\/v=2\/v=3:=ω
   rcases this with rfl|rfl|rfl|rfl
   ·exact⟨3,rfl,ξ,ξ⟩
   ·exact⟨5,rfl,ξ,ξ⟩
   ·exact⟨13,rfl,ξ,ξ⟩
   ·exact⟨61,rfl,ξ,ξ⟩
  refine⟨q,_,_,_,rfl,rfl,SqL.of (fg _ _ (ei S hq) zb),ew,?_⟩;have S3:zJ p H H3:=((dj.trans dU).trans (.of (Same.new hq))).trans fg;refine⟨_,rfl,_,rfl,ω,ω,fun e y=>?_⟩;refine zt (MW (p:=p) (n:=n) (Pr:=fun ns=>ns.length=c/\Bnd 61 ns) l (fun j H' R L bD hR=>⟨_,rfl,_,rfl,_,rfl,p,c,W,rfl,bD,ω,w0,ω,fun d H4 ns bH bP hd e4 G bd=>hR d H4 ns bH bP hd e4 ⟨G,bd.mono w1⟩⟩) ω y fun H4 ds tb bH bP qU gP ju uZ jz=>?_);have T4:TabB H p e c n 61 H4:=⟨ds,tb,S3.trans bH,bP,qU,gP,ju,uZ,fun d hd=>⟨S3.free hb l (jz d hd).1,(jz d hd).2⟩,S3.free hb l y⟩;have up:∀H',TabB H p e c n 61 H'->TabB H p e c n 122 H':=fun H' ⟨ds,tb,a1,a2,a3,a4,a5,a6,a7,a8⟩=>⟨ds,tb,a1,a2,a3,a4,a5,fun r J=>⟨(a6 r J).1,(a6 r J).2.mono ω⟩,a7,a8⟩;refine⟨_,rfl,_,_,rfl,rfl,_,rfl,?_⟩
  by_cases c1':1<n
  ·rw[decide_eq_true (show(1:Int)<(n:Int) from ω)]
   refine aW ⟨_,rfl,p,_,rfl,bP,ξ,ξ,fun u H5 u0 u1 fV dS=>⟨rfl,_,rfl,?_⟩⟩;have T5:=T4.draw hb fV dS;refine dw (fun _=>?_) (fun _=>?_)
   ·refine⟨_,rfl,_,rfl,p,_,rfl,dS,ω,ω,fun i H6 Z i1 w4 jY=>?_⟩
    refine⟨_,rfl,_,rfl,p,_,rfl,jY,ω,ω,fun o H7 o0 o1 xq jE=>?_⟩;refine⟨_,rfl,p,_,rfl,jE,ξ,ξ,fun t H8 t0 t1 mq oJ=>⟨_,_,rfl,rfl,?_⟩⟩;obtain⟨ds,tb,L,M,mL,x,G,hp,g,N⟩:=((T5.draw hb w4 jY).draw hb xq jE).draw hb mq oJ;have iP:=x.len;have hi:o.toNat<ds.length:=ω
    obtain⟨ns,en,X⟩:=x.get (Ac hi);have O:=Al en;refine⟨_,rfl,_,rfl,e,_,_,_,rfl,rfl,SqL.of mL,Iy (v:=.ref ds[o.toNat]) o0 (by rw[Aa];(first|lia|omega)) (by rw[Aj,Ac hi];rfl),_,rfl,⟨_,SqL.of X⟩,fun D U=>?_⟩;refine zt (Ix (o:=t-2) ⟨ω,ω⟩ X (by rw[(hp ns O).1];(first|lia|omega)) U fun H9 nT uJ=>?_);refine⟨_,rfl,_,rfl,e,_,_,i.toNat,rfl,rfl,nT _ _ mL,mC Z (by rw[Aa];(first|lia|omega)),?_⟩;exact kt e n c _ _ _ _ _ ω ω (TabB.put hb L M mL x G hp g N U nT uJ (by rw[Aa];exact(hp ns O).1) (((hp ns O).2.times (k:=2) ω ω ω).mono ω) ω)
   ·exact kt e n c _ _ _ _ _ ω ω (up _ T5)
  ·rw[decide_eq_false (show ¬(1:Int)<(n:Int) from ω)]
   exact aQ (aQ (kt e n c _ _ _ _ _ ω ω (up _ T4)))
end
abbrev oW:Stmt:=top 45
def mE:Bk "list"=some (.type "list"):=δ
section
variable{P:Program}{w:World}{K:Ah}{mg:Str->Option Value}{base:Heap}
def vp(K:Ah):Sp:=fun vs H Q _=>∃L rs tb,vs=[.ref L]/\SqL K H L (rs.map V.ref)/\Rws H rs tb/\∀H',Same H H'->Q (.int (wid tb)) H'
def MY:zo ["table"] ["table"] (zf oW):=⟨rfl,rfl,rfl,δ,rfl,δ,δ⟩
def IA{f:Addr}{fd:FuncData}(F:Fun K "_law_wide" "_law_wide" oW f fd)(B:jl mg):am P w K mg base ar 1 f fd ["table"] (vp K):=by
 refine F.ok MY (fun vs H Q E h=>?_) (fun o A outer s H vs Q E hr h=>?_)
 ·obtain⟨L,rs,tb,rfl,_⟩:=h;rfl
 ·obtain⟨L,rs,tb,rfl,c,b,k⟩:=h
  have i:=hr.units;refine⟨_,zh (zB (wl (zA (oR i) (pv 0) (ek zc) (ao _)) (zv zn rfl B.len dF (za (zw zq (pv 0) ze (fun _ _=>rfl)) zc)) ze)),?_⟩;refine⟨_,rfl,ξ,fun p hp=>?_⟩;have sm:Same H (upd H p (.lst [])):=Same.new hp;refine⟨cZ tb,cZ [],oT (sm.seq c) (b.same sm),oT (rs:=[]) (SqL.of zb) .nil,B6 _,B6 _,Im _ _,_,rfl,?_⟩;rw[if_pos rfl,Ek];have l:=b.len;cases tb with
  |nil=>
   rw[show(!decide (([]:Ξ)=[]))=false from rfl];exact aQ (k _ sm)
  |cons r t=>
   rw[show(!decide ((r::t:Ξ)=[]))=true from by simp];cases rs with
   |nil=>cases l
   |cons a as=>
    obtain⟨ns,e,g⟩:=b.get (j:=0) rfl;refine aW ⟨_,rfl,L,_,_,_,rfl,rfl,sm.seq c,zj (j:=0) rfl,a,_,rfl,.inl (SqL.of (sm _ _ g)),?_⟩;have:wid (r::t)=ns.length:=by unfold wid;rw[e];rfl
    have d:=k _ sm;rw[this] at d;rw[Aa];exact d
end
def IB{n:Nat}(h:n<=100000):n<sizeLine:=by rw[sizeLine_eq];(first|lia|omega)
def Es(st:List Int)(i j:Nat):Int:=if i=j/\i<st.length then vc st i else 0
def IC(F:Ξ)(st:List Int)(k w:Nat):Bool:=(Ag k).all fun i=>(Ag w).all fun j=>decide (fn F i j=Es st i j)
def mH{tb:Ξ}{w:Nat}(h:∀r∈tb,r.length=w)(a:tb.length=0->w=0):wid tb=w:=by
 cases e:tb with
 |nil=>rw[e] at a;exact(a rfl).symm
 |cons x l=>exact h x (by rw[e];exact AC ..)
section
variable{P:Program}{w:World}{K:Ah}{mg:Str->Option Value}{base:Heap}
def MZ{H2:Hp}{L D:Addr}{ns:List Int}{Q:VK}{p:Int->Bool}{tc:TT}{c:List (Option V)}(h:∀(x:Int)(H:Hp)(R:Bool->Hp->Prop),x∈ns->R (p x) H->tc (some (.int x)::c) H R)(i:H2 L=some (.lst (ns.map V.int)))(hz:ns.length<=1000)(f:H2 D=none)(k:∀b,Same H2 b->b D=some (.lst ((ns.filter p).map V.int))->Q (.ref D) b):cz (eO K L) (zS 0) tc (ap 0) (none::c) H2 D Q:=by
 refine jS (xs:=ns.map V.int) (fun j σ ys b=>∃(v:Option V),σ=v::c/\Same H2 b/\b D=some (.lst ys)/\ys=((ns.take j).filter p).map V.int) ⟨none,rfl,Same.new f,zb,rfl⟩ ?_ ?_ ?_
 ·rintro j σ ys b ⟨v,rfl,sm,a,rfl⟩
  exact SqL.of (sm _ _ i)
 ·rintro j σ ys b x hx e hy ⟨v,rfl,sm,a,rfl⟩
  obtain⟨y,d,rfl⟩:=fY hx;have g:(ns.map V.int).length<=sizeLine:=by rw[Aa];exact zx ω
  refine h y b _ (Al d) ?_;cases hp:p y with
  |true=>
   refine aW ⟨_,rfl,bI g e hy a ⟨_,rfl,sm.then f,zb,?_⟩⟩;rw[take_snoc d,List.filter_append,Ap];simp[hp]
  |false=>
   refine aQ (jM e hy ⟨_,rfl,sm,a,?_⟩);rw[take_snoc d,List.filter_append];simp[hp]
 ·rintro σ ys b ⟨v,rfl,sm,a,rfl⟩
  rw[Aa,Ar (Ad _)] at a;exact k b sm a
end
def Rws.updAt{H:Hp}{ds:List Addr}{tb:Ξ}{d:Addr}{ns:List Int}(h:Rws H ds tb):∀i:Nat,ds.Nodup->ds[i]?=some d->Rws (L2.upd H d (.lst (ns.map V.int))) ds (tb.set i ns):=by
 induction h with
 |nil=>intro i _ e;simp at e
 |cons r t ih=>
  intro i a e;obtain⟨n1,n2⟩:=List.nodup_cons.mp a;cases i with
  |zero=>
   simp at e;subst e;exact .cons zb (Rws.upd t fun x hx z=>n1 (z▸hx))
  |succ i=>
   rw[List.getElem?_cons_succ] at e;exact .cons (by rw[ag (fun z=>n1 (by rw[z];exact Al e))];exact r) (ih i n2 e)
def fo{e:Type}(a b c d:e):Nat->e
 |0=>a
 |1=>b
 |2=>c
 |_=>d
def M0{i:Nat}(h:i<4):i=0\/i=1\/i=2\/i=3:=ω
def Dj.symm{x y:List Addr}(h:Dj x y):Dj y x:=fun a c b hb e=>h b hb a c e.symm
section
variable{H H':Hp}{p:Addr}{u ub v vb:Ξ}{st:List Int}{a1 a2 a3 a4 a5:Addr}{d1 d2 d3 d4:List Addr}
def PapH.nt(h:PapH H H' p u ub v vb st a1 a2 a3 a4 a5 d1 d2 d3 d4)(i:Nat)(hi:i<4):NT H H' (fo a1 a2 a3 a4 i) (fo d1 d2 d3 d4 i) (fo u ub v vb i):=by
 obtain rfl|rfl|rfl|rfl:=M0 hi
 ·exact h.n1
 ·exact h.n2
 ·exact h.n3
 ·exact h.n4
end
section
variable{P:Program}{w:World}{K:Ah}{mg:Str->Option Value}{base:Heap}
abbrev M3(K:Ah):List V->Hp->VK->Prop:=fun xs H Q=>∃p ys,xs=[.ref p]/\(SqL K H p ys\/SqT K H p ys)/\∀l,H l=none->Q (.ref l) (upd H l (.lst ys))
abbrev kd(K:Ah):TE:=m_ (M3 K) (cy (ap 0) ca)
def mJ{H2:Hp}{L D:Addr}{rs:List Addr}{tb:Ξ}{Q:VK}{c:List (Option V)}(b:SqL K H2 L (rs.map V.ref))(p:Rws H2 rs tb)(hz:tb.length<=1000)(q:H2 D=none)(k:∀a ds,Same H2 a->a D=some (.lst (ds.map V.ref))->Rws a ds tb->ds.Nodup->(∀d∈ds,H2 d=none/\d≠D)->Q (.ref D) a):cz (eO K L) (zS 0) bC (kd K) (none::c) H2 D Q:=by
 refine k4 (g:=fun r=>r) (fun o os H R sm f s h=>⟨_,rfl,o,_,rfl,.inl (SqL.of f),fun l b=>h l _ (Same.new b) b zb⟩) b p hz q fun a ds sm e hr i j=>?_;rw[List.map_id'] at hr;exact k a ds sm e hr i j
end
def vr{a b:Tb.Vc}:∀n,Tb.dot (n+1) a b=a 0*b 0+Tb.dot n (fun u=>a (u+1)) (fun u=>b (u+1))
 |0=>by show(0:Int)+a 0*b 0=a 0*b 0+0;(first|lia|omega)
 |n+1=>by
  show Tb.dot (n+1) a b+a (n+1)*b (n+1)=a 0*b 0+(Tb.dot n _ _+a (n+1)*b (n+1));rw[vr n];(first|lia|omega)
def M4{st:List Int}{m:Int}(h1:(st.length:Int)<=m)(h2:∀x∈st,0<x)(d:∀i,i+1<st.length->vc st i ∣ vc st (i+1)):eK st m=true:=by
 unfold eK;rw[decide_eq_false ω,List.all_eq_true.mpr fun x hx=>decide_eq_true (h2 x hx)];show(AD (fun a b=>decide (b%a=0)) st (st.drop 1)).all id=true;rw[Bh];intro x hx;obtain⟨i,hi,rfl⟩:=A5 hx;have c:i+1<st.length:=by rw[Az,List.length_drop] at hi;(first|lia|omega)
 rw[AX,List.getElem_drop];have:=d i c;rw[ja ω,ja c] at this;refine decide_eq_true ?_;have e:st[1+i]'ω=st[i+1]:=by congr 1;(first|lia|omega)
 rw[e];exact Int.emod_eq_zero_of_dvd this
def M5{st:List Int}{k w i j:Nat}(hi:i<k)(a:j<w):fn (slpT st k w) i j=if i=j/\i<st.length then vc st i else 0:=by
 unfold fn slpT;rw[oG hi];unfold bL vc
 by_cases c:i<st.length
 ·rw[if_pos c,Ab,List.getElem?_set]
  by_cases d:i=j
  ·rw[if_pos d,if_pos (show i<(An w (0:Int)).length by rw[A7];(first|lia|omega)),if_pos (And.intro d c)];rfl
  ·rw[if_neg d,if_neg fun h=>d h.1,List.getElem?_replicate,if_pos a];rfl
 ·rw[if_neg c,if_neg fun h=>c h.2,Ab,List.getElem?_replicate,if_pos a];rfl
def M6{st:List Int}{k w:Nat}:∀r∈slpT st k w,r.length=w:=fun r hr=>by
 unfold slpT at hr;obtain⟨i,_,rfl⟩:=List.mem_map.mp hr;exact HN
section
variable{k w:Nat}{tb u ub v vb:Ξ}{st:List Int}
end
def g_:Good 6 3 10:=⟨ξ,ξ,ξ,ξ,ξ,ξ⟩
def M7{tb:Ξ}{m:Int}{q:Nat}(h:∀r∈tb,Bnd m r)(a:m<=(2 ^ q:Nat)):Ent tb (2 ^ q):=fun i u=>by
 unfold fn
 by_cases c:i<tb.length
 ·have hr:=h _ (zI c)
  by_cases d:u<(rowAt tb i).length
  ·rw[ja d]
   have:=hr _ (Ay d);(first|lia|omega)
  ·rw[h5 ω];exact Aw _
 ·rw[uE ω];exact Aw _
def o8(tb:Ξ):Prop:=∃N n m,oQ N n m tb.length (wid tb) tb
def mM{tb:Ξ}{N n m c:Nat}{b:Int}(g:Good N n m)(hr:∀r∈tb,r.length=c/\Bnd b r)(f:tb.length<=N)(hc:c<=N)(hb:b<=(2 ^ m:Nat)):b5 tb=true/\o8 tb/\Sm9 tb:=by
 have i:=g.N40;have a:(∀r∈tb,r.length=wid tb)/\wid tb<=N:=by
  cases e:tb with
  |nil=>exact⟨fun r hr=>(by cases hr),Aw _⟩
  |cons x l=>
   rw[e] at hr;have e1:wid (x::l)=x.length:=rfl;rw[e1,(hr x (AC ..)).1];exact⟨fun r h=>(hr r h).1,hc⟩
 have d:=M7 (fun r h=>(hr r h).2) hb;refine⟨?_,⟨N,n,m,g,rfl,a.1,d,f,a.2⟩,fun r hr x hx=>Ae (d.mem r hr x hx) (Ax ξ g.m9)⟩;unfold b5;rw[decide_eq_true (show tb.length<=40 from ω),decide_eq_true (show wid tb<=40 from ω)];simp only[Bool.and_self,Bool.true_and,Bh];exact fun r h=>decide_eq_true (a.1 r h)
end K28
end
section
namespace Tb
def vr{a b:Vc}:∀n,dot (n+1) a b=a 0*b 0+dot n (fun u=>a (u+1)) (fun u=>b (u+1))
 |0=>by show(0:Int)+a 0*b 0=a 0*b 0+0;(first|lia|omega)
 |n+1=>by
  show dot (n+1) a b+a (n+1)*b (n+1)=a 0*b 0+(dot n _ _+a (n+1)*b (n+1));rw[vr n];(first|lia|omega)
def IF{p:Nat}:∀(L:List Vc)(c:List Int),c.length=L.length->cmb c L p=dot L.length (fun i=>c.getD i 0) (fun i=>(L.getD i fun _=>0) p)
 |[],[],_=>rfl
 |v::L,a::c,h=>by
  rw[AI,vr];show a*v p+cmb c L p=_;rw[IF L c (Nat.succ.inj h)]
  rfl
def kj(U:Nat->Vc):Nat->Nat->Nat
 |0,_=>1
 |i+1,n=>kj U i n+dotA (U i) n
where dotA (v:Vc):Nat->Nat
 |0=>0
 |n+1=>dotA v n+(v n).natAbs
def IG{v:Vc}:∀{n t:Nat},t<n->(v t).natAbs<=kj.dotA v n
 |n+1,t,h=>by
  show _<=kj.dotA v n+(v n).natAbs
  by_cases c:t=n
  ·rw[c];(first|lia|omega)
  ·have:=IG (v:=v) (n:=n) (t:=t) ω
   (first|lia|omega)
def IH{U:Nat->Vc}{n t:Nat}(a:t<n):∀{k i:Nat},i<k->(U i t).natAbs<=kj U k n
 |k+1,i,h=>by
  show _<=kj U k n+kj.dotA (U k) n
  by_cases c:i=k
  ·rw[c]
   have:=IG (v:=U k) a;(first|lia|omega)
  ·have:=IH (U:=U) a (k:=k) (i:=i) ω
   (first|lia|omega)
def II{U:Nat->Vc}{n:Nat}:∀k,1<=kj U k n
 |0=>Ad _
 |k+1=>Ae (II k) (A6 _ _)
def Eqv(k w:Nat)(A A':Nat->Vc):Prop:=∃R C:Nat->Vc,∀s t,s<k->t<w->A s t=aP k w A' (R s) (C t)
def M8{k i:Nat}{g:Vc}(h:i<k):dot k g (un i)=g i:=by rw[zE,i0 h]
def Eqv.refl{k w:Nat}{A:Nat->Vc}:Eqv k w A A:=⟨un,un,fun s t a b=>(DO a b).symm⟩
def Eqv.trans{k w:Nat}{A B C:Nat->Vc}(h:Eqv k w A B)(g:Eqv k w B C):Eqv k w A C:=by
 obtain⟨R,S,h⟩:=h;obtain⟨R',c,g⟩:=g;refine⟨fun s a=>dot k (R s) (fun i=>R' i a),fun t b=>dot w (S t) (fun j=>c j b),fun s t d f=>?_⟩;rw[h s t d f,Ei];unfold aP;refine zi fun i hi=>?_;have e:dot w (B i) (S t)=dot w (S t) (fun j=>aP k w C (R' i) (c j)):=by
  rw[zE];exact zi fun j l=>g i j hi l
 rw[e,<-B5 (V:=fun j b=>c j b)]
 rfl
def Eqv.rows{k w:Nat}{A A':Nat->Vc}{R:Nat->Vc}(h:∀s t,s<k->t<w->A s t=dot k (R s) (fun a=>A' a t)):Eqv k w A A':=
 ⟨R,un,fun s t c b=>by
  rw[h s t c b];unfold aP;exact zi fun a _=>(M8 b).symm⟩
def Eqv.at_{k w:Nat}{A A':Nat->Vc}{σ τ:Nat->Nat}(a:∀s,s<k->σ s<k)(b:∀t,t<w->τ t<w)(h:∀s t,s<k->t<w->A s t=A' (σ s) (τ t)):Eqv k w A A':=
 ⟨fun s=>un (σ s),fun t=>un (τ t),fun s t h1 h2=>by rw[DO (a s h1) (b t h2)];exact h s t h1 h2⟩
def IJ{k w:Nat}{A:Nat->Vc}{x y:Vc}:aP w k (fun i j=>A j i) y x=aP k w A x y:=by
 unfold aP;have e:dot w y (fun s=>dot k (fun j=>A j s) x)=dot w (fun s=>dot k x (fun j=>A j s)) y:=by
  rw[zE];exact zm fun s _=>zE k
 rw[e,iv]
def Eqv.tr{k w:Nat}{A A':Nat->Vc}(h:Eqv k w A A'):Eqv w k (fun i j=>A j i) (fun i j=>A' j i):=by
 obtain⟨R,S,h⟩:=h;exact⟨S,R,fun s t a b=>by rw[IJ];exact h t s b a⟩
def Eqv.set{k w a:Nat}{A:Nat->Vc}{r:Vc}{R:Vc}(e:a<k)(h:∀t,t<w->r t=dot k R (fun i=>A i t)):Eqv k w (fun s=>if s=a then r else A s) A:=
 .rows (R:=fun s=>if s=a then R else un s) fun s t b d=>by
  by_cases c:s=a
  ·simp only[if_pos c];exact h t d
  ·simp only[if_neg c];exact(i0 (g:=fun a=>A a t) b).symm
def Cc{k a b:Nat}{x y:Int}{g:Vc}(c:a<k)(hb:b<k):dot k (fun i=>x*un a i+y*un b i) g=x*g a+y*g b:=by rw[Bz,i0 c,i0 hb]
def Eqv.congr{k w:Nat}{A B A' c:Nat->Vc}(h:Eqv k w A B)(h1:∀s t,s<k->t<w->A' s t=A s t)(h2:∀s t,s<k->t<w->B s t=c s t):Eqv k w A' c:=by
 obtain⟨R,C,h⟩:=h;refine⟨R,C,fun s t a b=>?_⟩;rw[h1 s t a b,h s t a b];unfold aP;exact zi fun i hi=>zm fun j d=>h2 i j hi d
def M9{k w a b:Nat}{A B:Nat->Vc}{q:Int}(e:a<k)(hb:b<k)(g:a≠b)(h:∀s t,s<k->t<w->B s t=if s=a then A a t+q*A b t else A s t):Eqv k w B A/\Eqv k w A B:=by
 constructor
 ·refine(Eqv.set (A:=A) (r:=fun t=>A a t+q*A b t) (R:=fun i=>1*un a i+q*un b i) e fun t d=>?_).congr (fun s t f d=>?_) fun _ _ _ _=>rfl
  ·rw[Cc e hb];(first|lia|omega)
  ·rw[h s t f d]
   by_cases c:s=a
   ·rw[if_pos c,if_pos c]
   ·rw[if_neg c,if_neg c]
 ·refine(Eqv.set (A:=B) (r:=fun t=>A a t) (R:=fun i=>1*un a i+(-q)*un b i) e fun t d=>?_).congr (fun s t f d=>?_) fun _ _ _ _=>rfl
  ·rw[Cc e hb,h a t e d,h b t hb d,if_pos rfl,if_neg (Ne.symm g)]
   rw[Int.neg_mul];(first|lia|omega)
  ·by_cases c:s=a
   ·rw[if_pos c,c]
   ·rw[if_neg c,h s t f d,if_neg c]
def M_{k w a:Nat}{A B:Nat->Vc}(b:a<k)(h:∀s t,s<k->t<w->B s t=if s=a then -A a t else A s t):Eqv k w B A/\Eqv k w A B:=by
 constructor
 ·refine(Eqv.set (A:=A) (r:=fun t=>-A a t) (R:=fun i=>(-1)*un a i+0*un a i) b fun t d=>?_).congr (fun s t e d=>?_) fun _ _ _ _=>rfl
  ·rw[Cc b b];(first|lia|omega)
  ·rw[h s t e d]
   by_cases c:s=a
   ·rw[if_pos c,if_pos c]
   ·rw[if_neg c,if_neg c]
 ·refine(Eqv.set (A:=B) (r:=fun t=>A a t) (R:=fun i=>(-1)*un a i+0*un a i) b fun t d=>?_).congr (fun s t e d=>?_) fun _ _ _ _=>rfl
  ·rw[Cc b b,h a t b d,if_pos rfl];(first|lia|omega)
  ·by_cases c:s=a
   ·rw[if_pos c,c]
   ·rw[if_neg c,h s t e d,if_neg c]
def Na{k w a b:Nat}{A B:Nat->Vc}(l:a<k)(hb:b<k)(h:∀s t,s<k->t<w->B s t=if s=a then A b t else if s=b then A a t else A s t):Eqv k w B A/\Eqv k w A B:=by
 let σ:Nat->Nat:=fun s=>if s=a then b else if s=b then a else s
 have g:∀s,s<k->σ s<k:=fun s j=>by
  show(if s=a then b else if s=b then a else s)<k
  by_cases c:s=a
  ·rw[if_pos c];exact hb
  ·rw[if_neg c]
   by_cases d:s=b
   ·rw[if_pos d];exact l
   ·rw[if_neg d];exact j
 have e:∀s t,s<k->t<w->B s t=A (σ s) t:=fun s t j f=>by
  rw[h s t j f];show _=A (if s=a then b else if s=b then a else s) t
  by_cases c:s=a
  ·rw[if_pos c,if_pos c]
  ·rw[if_neg c,if_neg c]
   by_cases d:s=b
   ·rw[if_pos d,if_pos d]
   ·rw[if_neg d,if_neg d]
 have i:∀s,σ (σ s)=s:=fun s=>by
  show(if(if s=a then b else if s=b then a else s)=a then b else if(if s=a then b else if s=b then a else s)=b then a else(if s=a then b else if s=b then a else s))=s
  by_cases c:s=a
  ·simp only[if_pos c]
   by_cases d:b=a
   ·rw[if_pos d,d,c]
   ·rw[if_neg d,if_pos trivial,c]
  ·simp only[if_neg c]
   by_cases d:s=b
   ·simp only[if_pos d,if_pos];exact d.symm
   ·simp only[if_neg d,if_neg c]
 exact⟨.at_ g (fun t f=>f) e,.at_ g (fun t f=>f) fun s t j f=>by rw[e (σ s) t (g s j) f,i]⟩
def pad(k w:Nat)(A:Nat->Vc):Nat->Vc:=fun i j=>if i<k/\j<w then A i j else 0
def a9(k:Nat)(U:Nat->Vc):Nat->Vc:=fun i j=>if i<k/\j<k then U i j else dl i j
def inP(n p i:Nat):Nat:=if i<p then i else if i=p then n else i-1
def Cd(n p i:Nat):Nat:=if i=n then p else if i<p then i else i+1
def IK{n p i:Nat}(hp:p<=n)(h:i<n+1):inP n p i<n+1:=by
 unfold inP
 by_cases c:i<p
 ·rw[if_pos c];exact h
 ·rw[if_neg c]
  by_cases d:i=p
  ·rw[if_pos d];(first|lia|omega)
  ·rw[if_neg d];(first|lia|omega)
def Ce{n p i:Nat}(hp:p<=n)(h:i<n+1):Cd n p i<n+1:=by
 unfold Cd
 by_cases c:i=n
 ·rw[if_pos c];(first|lia|omega)
 ·rw[if_neg c]
  by_cases d:i<p
  ·rw[if_pos d];exact h
  ·rw[if_neg d];(first|lia|omega)
def IL{n p i:Nat}(hp:p<=n)(h:i<n+1):inP n p (Cd n p i)=i:=by
 unfold inP Cd
 by_cases c:i=n
 ·rw[if_pos c,if_neg (Nat.lt_irrefl p),if_pos rfl,c]
 ·rw[if_neg c]
  by_cases d:i<p
  ·rw[if_pos d,if_pos d]
  ·rw[if_neg d,if_neg ω,if_neg ω];(first|lia|omega)
def Nb{k w p q:Nat}{A B:Nat->Vc}(hp:p<=k)(hq:q<=w)(h:∀s t,s<k+1->t<w+1->B s t=A (inP k p s) (inP w q t)):Eqv (k+1) (w+1) B A/\Eqv (k+1) (w+1) A B:=
 ⟨.at_ (fun s a=>IK hp a) (fun t b=>IK hq b) h,.at_ (fun s a=>Ce hp a) (fun t b=>Ce hq b) fun s t a b=>by
  rw[h _ _ (Ce hp a) (Ce hq b),IL hp a,IL hq b]⟩
def Ev{w q:Nat}{a c:Vc}{X:Nat->Vc}:dot w a (fun t=>dot q c (fun j=>X j t))=dot q c (fun j=>dot w a (X j)):=by
 rw[zE,iv (B:=X)];exact zi fun j _=>zE w
def IM{k w q m:Nat}{W X F:Nat->Vc}(r:∀j,j<q->∀i,i<k->dot w (W i) (X j)=0)(ind:∀c:Vc,(∀t,t<w->dot q c (fun j=>X j t)=0)->∀j,j<q->c j=0)(s:∀x:Vc,(∀i,i<k->dot w (W i) x=0)->(∀i,i<m->dot w (F i) x=0)->∀t,t<w->x t=0):q<=m:=by
 refine AJ fun no=>?_;have b:m<q:=ω
 let Y:Nat->Vc:=fun j i=>dot w (F i) (X j)
 let R:List Vc:=(Ag q).map Y
 have d:R.length=q:=by simp[R]
 have l:∀i,i<q->(R.getD i fun _=>0)=Y i:=fun i hi=>by
  simp only[R];rw[Ab,Aj,AR hi]
  rfl
 obtain⟨c,g,⟨x,hx,h⟩,hz,_⟩:=eH (R:=R) (P:=Ag m) (M:=kj Y q m) (II _) (fun v e p hp=>by
  have hp:=List.mem_range.mp hp;obtain⟨i,hi,rfl⟩:=List.mem_map.mp e;exact IH hp (List.mem_range.mp hi)) (by rw[AZ,d];exact b)
 let a:Vc:=fun i=>c.getD i 0
 have eq:∀p,p<m->dot q a (fun j=>Y j p)=0:=fun p hp=>by
  have:=hz p (List.mem_range.mpr hp);rw[IF R c g,d] at this;rw[<-this];exact zi fun i hi=>by rw[l i hi]
 have z:∀t,t<w->dot q a (fun j=>X j t)=0:=by
  refine s (fun t=>dot q a (fun j=>X j t)) (fun i hi=>?_) fun i hi=>?_
  ·rw[Ev,zE]
   exact zH fun j f=>r j f i hi
  ·rw[Ev];exact eq i hi
 have all:=ind a z;obtain⟨i,hi,rfl⟩:=A5 hx;have o:a i=c[i]:=by show c.getD i 0=_;rw[Ab,Ac hi];rfl
 exact h (by rw[<-o];exact all i ω)
structure Kp(k w r:Nat)(W V VB:Nat->Vc):Prop where
 rw:r<=w
 v1:∀i j,i<w->j<w->dot w (V i) (fun s=>VB s j)=dl i j
 v2:∀i j,i<w->j<w->dot w (VB i) (fun s=>V s j)=dl i j
 ker:∀x:Vc,(∀i,i<k->dot w (W i) x=0)↔∀j,j<r->dot w (VB j) x=0
def Kp.in_{k w r:Nat}{W V VB:Nat->Vc}(h:Kp k w r W V VB){j:Nat}(a:j<w)(hr:r<=j):∀i,i<k->dot w (W i) (fun t=>V t j)=0:=
 (h.ker _).mpr fun i hi=>by
  rw[h.v2 i j (by have:=h.rw;(first|lia|omega)) a];unfold dl;rw[if_neg ω]
def Kp.out{k w r:Nat}{W V VB:Nat->Vc}(h:Kp k w r W V VB){x:Vc}(hk:∀i,i<k->dot w (W i) x=0)(f:∀i,i<w-r->dot w (VB (r+i)) x=0):∀t,t<w->x t=0:=fun t a=>by
 have all:∀j,j<w->dot w (VB j) x=0:=fun j g=>by
  by_cases c:j<r
  ·exact(h.ker x).mp hk j c
  ·have:=f (j-r) ω
   rwa [show r+(j-r)=j from ω] at this
 have e:x t=dot w (V t) (fun s=>dot w (VB s) x):=by
  rw[<-iv (B:=VB),zm (a':=fun l=>dl t l) (fun l b=>h.v1 t l a b)];exact(i0 a).symm
 rw[e,zE];exact zH fun s d=>all s d
def Kp.ind{k w r:Nat}{W V VB:Nat->Vc}(h:Kp k w r W V VB){c:Vc}(hz:∀t,t<w->dot (w-r) c (fun j=>V t (r+j))=0):∀j,j<w-r->c j=0:=fun j a=>by
 have e:dot w (VB (r+j)) (fun t=>dot (w-r) c (fun i=>V t (r+i)))=0:=by
  rw[zE];exact zH hz
 rw[Ev (X:=fun i t=>V t (r+i))] at e;rw[zi (b':=fun i=>dl i j) (fun i hi=>by
  rw[h.v2 (r+j) (r+i) ω ω];unfold dl
  by_cases z:i=j
  ·rw[if_pos z,if_pos ω]
  ·rw[if_neg z,if_neg ω])] at e
 rwa [BB a] at e
def f_(k1 w1:Nat)(A B:Nat->Vc):Nat->Vc:=fun i j=>if i<k1 then(if j<w1 then A i j else 0) else(if j<w1 then 0 else B (i-k1) (j-w1))
def Ew{w1:Nat}{a b:Vc}:∀w2,dot (w1+w2) a b=dot w1 a b+dot w2 (fun t=>a (w1+t)) (fun t=>b (w1+t))
 |0=>by show dot w1 a b=dot w1 a b+0;(first|lia|omega)
 |n+1=>by
  show dot (w1+n) a b+a (w1+n)*b (w1+n)=dot w1 a b+(dot n _ _+a (w1+n)*b (w1+n));rw[Ew n];(first|lia|omega)
def Ex{w1 w2:Nat}{a b:Vc}(h:∀t,t<w2->a (w1+t)=0):dot (w1+w2) a b=dot w1 a b:=by rw[Ew,zH h];(first|lia|omega)
def Ey{w1 w2:Nat}{a b:Vc}(h:∀t,t<w1->a t=0):dot (w1+w2) a b=dot w2 (fun t=>a (w1+t)) (fun t=>b (w1+t)):=by rw[Ew,zH h];(first|lia|omega)
section
variable{k1 w1 r1 k2 w2 r2 r:Nat}{A V1 B1 B V2 B2 V VB:Nat->Vc}
def Ez{x:Vc}:(∀i,i<k1+k2->dot (w1+w2) (f_ k1 w1 A B i) x=0)↔(∀i,i<k1->dot w1 (A i) x=0)/\∀i,i<k2->dot w2 (B i) (fun t=>x (w1+t))=0:=by
 have b:∀i,i<k1->dot (w1+w2) (f_ k1 w1 A B i) x=dot w1 (A i) x:=fun i hi=>by
  rw[Ex fun t _=>by unfold f_;rw[if_pos hi,if_neg ω]];exact zm fun t a=>by unfold f_;rw[if_pos hi,if_pos a]
 have d:∀i,dot (w1+w2) (f_ k1 w1 A B (k1+i)) x=dot w2 (B i) (fun t=>x (w1+t)):=fun i=>by
  rw[Ey fun t a=>by unfold f_;rw[if_neg ω,if_pos a]];exact zm fun t a=>by unfold f_;rw[if_neg ω,if_neg ω,Nat.add_sub_cancel_left,Nat.add_sub_cancel_left]
 constructor
 ·intro h
  exact⟨fun i hi=>by rw[<-b i hi];exact h i ω,fun i hi=>by rw[<-d i];exact h (k1+i) ω⟩
 ·rintro⟨h1,h2⟩ i hi
  by_cases c:i<k1
  ·rw[b i c];exact h1 i c
  ·have:=d (i-k1)
   rw[show k1+(i-k1)=i from ω] at this;rw[this];exact h2 _ ω
def Nc(h1:Kp k1 w1 r1 A V1 B1)(h2:Kp k2 w2 r2 B V2 B2)(h:Kp (k1+k2) (w1+w2) r (f_ k1 w1 A B) V VB):r=r1+r2:=by
 have s:=h1.rw;have u:=h2.rw;have le:=h.rw;have d1:(w1+w2)-r<=(w1-r1)+(w2-r2):=by
  refine IM (k:=k1+k2) (w:=w1+w2) (W:=f_ k1 w1 A B) (X:=fun j t=>V t (r+j)) (F:=fun i t=>if i<w1-r1 then(if t<w1 then B1 (r1+i) t else 0) else(if t<w1 then 0 else B2 (r2+(i-(w1-r1))) (t-w1))) (fun j b i hi=>h.in_ ω ω i hi) (fun c hc=>h.ind hc) fun x hk d=>?_;obtain⟨f,g⟩:=Ez.mp hk;have l:=h1.out f fun i hi=>by
   have:=d i ω;rw[Ex fun t _=>by rw[if_pos hi,if_neg ω]] at this;rw[<-this];exact zm fun t a=>by rw[if_pos hi,if_pos a]
  have o:=h2.out g fun i hi=>by
   have:=d ((w1-r1)+i) ω;rw[Ey fun t a=>by rw[if_neg ω,if_pos a]] at this;rw[<-this];exact zm fun t a=>by rw[if_neg ω,if_neg ω,Nat.add_sub_cancel_left,Nat.add_sub_cancel_left]
  intro t a
  by_cases c:t<w1
  ·exact l t c
  ·have:=o (t-w1) ω
   rwa [show w1+(t-w1)=t from ω] at this
 have d2:(w1-r1)+(w2-r2)<=(w1+w2)-r:=by
  refine IM (k:=k1+k2) (w:=w1+w2) (W:=f_ k1 w1 A B) (X:=fun j t=>if j<w1-r1 then(if t<w1 then V1 t (r1+j) else 0) else(if t<w1 then 0 else V2 (t-w1) (r2+(j-(w1-r1))))) (F:=fun i=>VB (r+i)) (fun j b=>?_) (fun c hc=>?_) fun x hk d=>h.out hk d
  ·by_cases e:j<w1-r1
   ·refine Ez.mpr ⟨fun i hi=>?_,fun i hi=>?_⟩
    ·rw[<-h1.in_ (j:=r1+j) ω ω i hi]
     exact zi fun t a=>by rw[if_pos e,if_pos a]
    ·rw[zE]
     exact zH fun t a=>by rw[if_pos e,if_neg ω]
   ·refine Ez.mpr ⟨fun i hi=>?_,fun i hi=>?_⟩
    ·rw[zE]
     exact zH fun t a=>by rw[if_neg e,if_pos a]
    ·rw[<-h2.in_ (j:=r2+(j-(w1-r1))) ω ω i hi]
     exact zi fun t a=>by rw[if_neg e,if_neg ω,Nat.add_sub_cancel_left]
  ·have p:∀j,j<w1-r1->c j=0:=h1.ind fun t a=>by
    have:=hc t ω;rw[zE,Ex fun j _=>by rw[if_neg ω,if_pos a]] at this;rw[<-this,zE];exact zm fun j b=>by rw[if_pos b,if_pos a]
   have q:∀j,j<w2-r2->c ((w1-r1)+j)=0:=h2.ind (c:=fun j=>c ((w1-r1)+j)) fun t a=>by
    have:=hc (w1+t) ω;rw[zE,Ey fun j b=>by rw[if_pos b,if_neg ω]] at this;rw[<-this,zE];exact zm fun j b=>by rw[if_neg ω,if_neg ω,Nat.add_sub_cancel_left,Nat.add_sub_cancel_left]
   intro j b
   by_cases z:j<w1-r1
   ·exact p j z
   ·have:=q (j-(w1-r1)) ω
    rwa [show(w1-r1)+(j-(w1-r1))=j from ω] at this
 (first|lia|omega)
end
end Tb
end
section
namespace K28
open PySem L2
section
variable{k w:Nat}{A:Nat->Tb.Vc}{u ub v vb:Ξ}{st:List Int}
abbrev tT(n:Nat)(T:Ξ):Ξ:=(Ag n).map (colAt T)
def Cf{n:Nat}{T:Ξ}{r:List Int}{x:Int}(h:∀r∈T,∀x∈r,x.natAbs+1000<low)(hr:r∈tT n T)(hx:x∈r):x.natAbs+1000<low:=by
 obtain⟨j,_,rfl⟩:=List.mem_map.mp hr;unfold colAt at hx;obtain⟨q,hq,rfl⟩:=List.mem_map.mp hx;rw[Ab];cases e:q[j]? with
 |none=>
  have:=Ea (a:=0) (b:=0) (Aw _) ξ;exact this
 |some y=>exact h q hq y (Al e)
def Cg{n:Nat}{U B:Ξ}(h:∀i j,i<n->j<n->Tb.dot n (fn B i) (fun s=>fn U s j)=Tb.dl i j):∀i j,i<n->j<n->Tb.dot n (fn (tT n U) i) (fun s=>fn (tT n B) s j)=Tb.dl i j:=fun i j hi a=>by
 have e:=h j i a hi;rw[Tb.zE] at e;have d:Tb.dl j i=Tb.dl i j:=BY;rw[<-d,<-e];rw[Tb.zm (a':=fun s=>fn U s i) (fun s _=>zV hi s)];exact Tb.zi fun s b=>zV b j
def Pap.tr(p:Pap k w A u ub v vb st):Pap w k (fun i j=>A j i) (tT w v) (tT w vb) (tT k u) (tT k ub) st:=by
 refine⟨zR,zR,zR,zR,fF p.lv,fF p.lvb,fF p.lu,fF p.lub,fun r hr x hx=>Cf p.mv hr hx,fun r hr x hx=>Cf p.mvb hr hx,fun r hr x hx=>Cf p.mu hr hx,fun r hr x hx=>Cf p.mub hr hx,Cg p.v2,Cg p.v1,Cg p.u2,Cg p.u1,p.sw,p.sk,p.sp,p.sd,p.s9,p.sb,fun i j hi a=>?_⟩;have e1:Tb.aP w k (fun i j=>A j i) (fn (tT w v) i) (fun s=>fn (tT k u) s j)=Tb.aP w k (fun i j=>A j i) (fun s=>fn v s i) (fn u j):=by
  unfold Tb.aP;rw[Tb.zm (a':=fun s=>fn v s i) (fun s _=>zV hi s)];exact Tb.zi fun s _=>Tb.zi fun t b=>zV b j
 rw[e1,Tb.IJ,p.pr j i a hi]
 by_cases c:i=j
 ·rw[c]
 ·rw[if_neg fun h=>c h.1.symm,if_neg fun h=>c h.1]
def Pap.kp(p:Pap k w A u ub v vb st):Tb.Kp k w st.length A (fn v) (fn vb):=by
 have inj:∀{f g:Tb.Vc},(∀i,i<k->Tb.dot k (fn u i) f=Tb.dot k (fn u i) g)->∀i,i<k->f i=g i:=fun{f g} h=>by
  have e:∀(f:Tb.Vc) i,i<k->f i=Tb.dot k (fn ub i) (fun s=>Tb.dot k (fn u s) f):=fun f i hi=>by
   rw[<-Tb.iv,Tb.zm (a':=fun l=>Tb.dl i l) (fun l o=>p.u2 i l hi o)];exact(Tb.i0 hi).symm
  intro i hi;rw[e f i hi,e g i hi];exact Tb.zi fun s q=>h s q
 have r:∀x:Tb.Vc,∀i,i<k->Tb.dot k (fn u i) (fun s=>Tb.dot w (A s) x)=vc st i*(if i<w then Tb.dot w (fn vb i) x else 0):=fun x i hi=>by
  have hx:∀t,t<w->x t=Tb.dot w (fn v t) (fun s=>Tb.dot w (fn vb s) x):=fun t d=>by
   rw[<-Tb.iv,Tb.zm (a':=fun l=>Tb.dl t l) (fun l o=>p.v1 t l d o)];exact(Tb.i0 d).symm
  have e1:Tb.dot k (fn u i) (fun s=>Tb.dot w (A s) x)=Tb.aP k w A (fn u i) (fun t=>Tb.dot w (fun s=>Tb.dot w (fn vb s) x) (fun l=>fn v t l)):=by
   unfold Tb.aP;refine Tb.zi fun s _=>Tb.zi fun t d=>?_;rw[Tb.zE (a:=fun s=>Tb.dot w (fn vb s) x)];exact hx t d
  rw[e1,Tb.B5 (V:=fun l t=>fn v t l),Tb.zi (b':=fun j=>if i=j then vc st i else 0) (fun j b=>p.pr' hi b),Tb.zE]
  by_cases c:i<w
  ·rw[Tb.Eh c,if_pos c]
  ·rw[if_neg c,Ba]
   exact Tb.zH fun t d=>by rw[if_neg ω]
 refine⟨p.sw,p.v1,p.v2,fun x=>⟨fun h j b=>?_,fun h=>?_⟩⟩
 ·have hk:j<k:=At b p.sk
  have e:=r x j hk;rw[Tb.zE,Tb.zH fun s q=>h s q,if_pos (At b p.sw)] at e;rcases Int.mul_eq_zero.mp e.symm with z|z
  ·rw[ja b] at z
   have:=p.sp _ (Ay b);(first|lia|omega)
  ·exact z
 ·refine inj (g:=fun _=>0) fun i hi=>?_
  have z:Tb.dot k (fn u i) (fun _=>0)=0:=by rw[Tb.zE];exact Tb.zH fun _ _=>rfl
  rw[z,r x i hi]
  by_cases c:i<st.length
  ·rw[if_pos (At c p.sw),h i c,Ba]
  ·rw[h5 ω,Int.zero_mul]
abbrev pT(n:Nat)(U:Ξ):Ξ:=(Ag (n+1)).map fun i=>(Ag (n+1)).map fun j=>Tb.a9 n (fn U) i j
def pa{n:Nat}{U:Ξ}{i j:Nat}(hi:i<n+1)(a:j<n+1):fn (pT n U) i j=Tb.a9 n (fn U) i j:=by
 show vc (rowAt (pT n U) i) j=_;rw[oG hi,BX a]
def jr{n:Nat}{U:Ξ}:∀r∈pT n U,r.length=n+1:=fun r hr=>by
 obtain⟨i,_,rfl⟩:=List.mem_map.mp hr;simp
def js{n:Nat}{U:Ξ}(l:U.length=n)(hw:∀r∈U,r.length=n)(h:∀r∈U,∀x∈r,x.natAbs+1000<low):∀r∈pT n U,∀x∈r,x.natAbs+1000<low:=fun r hr x hx=>by
 obtain⟨i,_,rfl⟩:=List.mem_map.mp hr;obtain⟨j,_,rfl⟩:=List.mem_map.mp hx;unfold Tb.a9
 by_cases c:i<n/\j<n
 ·rw[if_pos c]
  have d:=zI (show i<U.length from ω);unfold fn;rw[ja (by rw[hw _ d];exact c.2)];exact h _ d _ (Ay _)
 ·rw[if_neg c]
  unfold Tb.dl;have:=Ea (a:=1) (b:=0) (Ad _) ξ;split
  ·exact this
  ·exact Au ξ this
def Nd{n:Nat}{U B:Nat->Tb.Vc}(h:∀i j,i<n->j<n->Tb.dot n (U i) (fun s=>B s j)=Tb.dl i j):∀i j,i<n+1->j<n+1->Tb.dot (n+1) (Tb.a9 n U i) (fun s=>Tb.a9 n B s j)=Tb.dl i j:=fun i j hi l=>by
 show Tb.dot n (Tb.a9 n U i) (fun s=>Tb.a9 n B s j)+Tb.a9 n U i n*Tb.a9 n B n j=_;have f:Tb.a9 n U i n=Tb.dl i n:=by unfold Tb.a9;rw[if_neg ω]
 have em:Tb.a9 n B n j=Tb.dl n j:=by unfold Tb.a9;rw[if_neg ω]
 rw[f,em]
 by_cases c:i<n
 ·have d1:Tb.dl i n=0:=by unfold Tb.dl;rw[if_neg ω]
  rw[d1,Int.zero_mul,Int.add_zero]
  by_cases e:j<n
  ·rw[<-h i j c e,Tb.zm (a':=U i) (fun t a=>by unfold Tb.a9;rw[if_pos ⟨c,a⟩])]
   exact Tb.zi fun s b=>by unfold Tb.a9;rw[if_pos ⟨b,e⟩]
  ·have d2:Tb.dl i j=0:=by unfold Tb.dl;rw[if_neg ω]
   rw[d2,Tb.zE];exact Tb.zH fun s b=>by unfold Tb.a9;rw[if_neg ω];unfold Tb.dl;rw[if_neg ω]
 ·have g:i=n:=ω
  subst g;have z:Tb.dot i (Tb.a9 i U i) (fun s=>Tb.a9 i B s j)=0:=Tb.zH fun t a=>by unfold Tb.a9;rw[if_neg ω];unfold Tb.dl;rw[if_neg ω]
  rw[z];have d:Tb.dl i i=1:=by unfold Tb.dl;rw[if_pos rfl]
  rw[d];(first|lia|omega)
def Ch{n:Nat}{U B:Ξ}(h:∀i j,i<n->j<n->Tb.dot n (fn U i) (fun s=>fn B s j)=Tb.dl i j):∀i j,i<n+1->j<n+1->Tb.dot (n+1) (fn (pT n U) i) (fun s=>fn (pT n B) s j)=Tb.dl i j:=fun i j hi a=>by
 rw[<-Nd h i j hi a,Tb.zm (a':=Tb.a9 n (fn U) i) (fun t b=>pa hi b)];exact Tb.zi fun s c=>pa c a
def Pap.pad(p:Pap k w A u ub v vb st):Pap (k+1) (w+1) (Tb.pad k w A) (pT k u) (pT k ub) (pT w v) (pT w vb) st:=by
 refine⟨by simp,by simp,by simp,by simp,jr,jr,jr,jr,js p.lu p.wu p.mu,js p.lub p.wub p.mub,js p.lv p.wv p.mv,js p.lvb p.wvb p.mvb,Ch p.u1,Ch p.u2,Ch p.v1,Ch p.v2,Nat.le_succ_of_le p.sk,Nat.le_succ_of_le p.sw,p.sp,p.sd,p.s9,p.sb,fun i j hi b=>?_⟩;have row:∀s,Tb.dot (w+1) (Tb.pad k w A s) (fun t=>fn (pT w v) t j)=if s<k/\j<w then Tb.dot w (A s) (fun t=>fn v t j) else 0:=fun s=>by
  show Tb.dot w (Tb.pad k w A s) _+Tb.pad k w A s w*_=_;have f:Tb.pad k w A s w=0:=by unfold Tb.pad;rw[if_neg ω]
  rw[f,Int.zero_mul,Int.add_zero]
  by_cases c:s<k
  ·by_cases d:j<w
   ·rw[if_pos ⟨c,d⟩,Tb.zm (a':=A s) (fun t a=>by unfold Tb.pad;rw[if_pos ⟨c,a⟩])]
    exact Tb.zi fun t a=>by rw[pa ω b];unfold Tb.a9;rw[if_pos ⟨a,d⟩]
   ·rw[if_neg fun z=>d z.2,Tb.zE]
    exact Tb.zH fun t a=>by rw[pa ω b];unfold Tb.a9;rw[if_neg ω];unfold Tb.dl;rw[if_neg ω]
  ·rw[if_neg fun z=>c z.1]
   exact Tb.zH fun t a=>by unfold Tb.pad;rw[if_neg ω]
 unfold Tb.aP;rw[Tb.zi (b':=fun s=>if s<k/\j<w then Tb.dot w (A s) (fun t=>fn v t j) else 0) (fun s _=>row s)];show Tb.dot k _ _+_*(if k<k/\j<w then _ else 0)=_;rw[if_neg ω,Ba,Int.add_zero];have g:=p.sk;have h:=p.sw
 by_cases d:j<w
 ·by_cases c:i<k
  ·rw[<-p.pr i j c d]
   unfold Tb.aP;rw[Tb.zm (a':=fn u i) (fun t a=>by rw[pa hi ω];unfold Tb.a9;rw[if_pos ⟨c,a⟩])];exact Tb.zi fun s e=>by rw[if_pos ⟨e,d⟩]
  ·rw[if_neg ω]
   exact Tb.zH fun t a=>by rw[pa hi ω];unfold Tb.a9;rw[if_neg ω];unfold Tb.dl;rw[if_neg ω]
 ·rw[if_neg ω,Tb.zE]
  exact Tb.zH fun s _=>by rw[if_neg ω]
end
abbrev vt:Stmt:=top 46
section
variable{P:Program}{w:World}{K:Ah}{mg:Str->Option Value}{base:Heap}
abbrev Nf(K:Ah):TE:=gw (EK K (ap 1)) [none,some 0] (zS 0) bC (bT (e8 K) (ap 0) (ap 1))
def IN(K:Ah):Sp:=fun vs H Q _=>∃L rs tb,vs=[.ref L]/\SqL K H L (rs.map V.ref)/\Rws H rs tb/\b5 tb=true/\∀H1,Same H H1->ri H1 Q (turn tb)
def Ng:zo ["table"] ["table"] (zf vt):=⟨rfl,rfl,rfl,δ,rfl,δ,δ⟩
def Nh{f q:Addr}{fd u:FuncData}(F:Fun K "_law_over" "_law_over" vt f fd)(B:jl mg)(Fw:Fun K "_law_wide" "_law_wide" oW q u)(bw:Binds K u ["table"] [])(mw:mg "_law_wide"=some (.ref q)):am P w K mg base ar 2 f fd ["table"] (IN K):=by
 have Gw:am P w K mg base ar 1 q u ["table"] (vp K):=IA Fw B;refine F.ok Ng (fun vs H Q E h=>?_) (fun ai A outer s H vs Q E hr h=>?_)
 ·obtain⟨L,rs,tb,rfl,_⟩:=h;rfl
 ·obtain⟨L,rs,tb,rfl,l,I,Y,k⟩:=h
  obtain⟨t1,t2,Z⟩:=fU Y;refine⟨_,zh (zB (Kx ["table"] ["place","table"] [none,some 0] (iA rfl B.range (za (zg Gw hr rfl mw Fw.kp bw .nil af (za (pv 0) zc)) zc)) (fun a C s₀ H₀ ex=>zl (i:=0) (ba ["place","table"]) rfl (Or.inr rfl)) (fun a C s₀ H₀ ex=>zu)
   (fun a C s₀ H₀ ex=>zr ["place","table"] ["row","place"] [none,some 0] (zG (pv 1)) (fun a C s₀ H₀ ex=>zl (i:=0) (ba ["row","place"]) rfl (Or.inl rfl)) (fun a C s₀ H₀ ex=>zu)
    (fun a C s₀ H₀ ex=>zw zq (pv 0) (pv 1) (fun _ _=>rfl)) (hfr:=Ky rfl δ) (te:=bT (e8 K) (ap 0) (ap 1)))
   (hfr:=bB (zf vt) δ) (te:=Nf K))),?_⟩
  refine⟨_,rfl,L,rs,tb,rfl,l,I,fun H1 x=>⟨_,rfl,ω,ω,fun D y=>?_⟩⟩;refine zt (Di (n:=wid tb) (g:=colAt tb) (fun j H' R J sm M=>?_) ω y fun H3 ds N d e O S=>k H1 x D H3 ds N y d e O S);have p:=x.trans sm;refine⟨_,rfl,L,rfl,⟨_,p.seq l⟩,fun D' z=>?_⟩;refine zt (Dc (mkV:=V.int) (g:=fun r=>r.getD j 0) (fun o os c R4 G T U W=>?_) (p.seq l) (I.same p) ω z fun c G X=>M D' c G z X);have b:j<os.length:=by rw[Z os U];exact J
  refine⟨_,rfl,_,rfl,o,_,_,_,rfl,rfl,SqL.of T,zj (j:=j) (v:=V.int (os.getD j 0)) ?_,W c (Same.refl c)⟩;rw[Aj,Ac b,Ab,Ac b]
  rfl
end
abbrev vu:Stmt:=top 21
abbrev vv:Stmt:=top 22
def kG{a b:Int}:decide (V.int a=V.int b)=decide (a=b):=by rw[Bool.eq_iff_iff];simp
def isP(n:Int):Bool:=decide (2<=n)&&decide (n<=100)&&(Ag (n-2).toNat).all fun i=>!decide (n%(2+(i:Int))=0)
section
variable{P:Program}{w:World}{K:Ah}{mg:Str->Option Value}{base:Heap}
def IP:Sp:=fun vs H Q _=>∃n:Int,vs=[.int n]/\∀H',Same H H'->Q (.bl (isP n)) H'
def Ni:zo ["number"] ["number"] (zf vv):=⟨rfl,rfl,rfl,δ,rfl,δ,δ⟩
def Nj{H2:Hp}{D:Addr}{n:Nat}{Q:VK}{g:Nat->Bool}{te:TE}{c:List (Option V)}{lo:Int}(h:∀(j:Nat)(H:Hp)(R:VK),R (.bl (g j)) H->te (some (.int (lo+j))::c) H R)(hz:n<=1000)(f:H2 D=none)(k:∀a,Same H2 a->a D=some (.lst (((Ag n).map g).map V.bl))->Q (.ref D) a):cz (fK lo n) (zS 0) bC te (none::c) H2 D Q:=by
 refine qb (fun j σ ys a=>∃(v:Option V),σ=v::c/\Same H2 a/\a D=some (.lst ys)/\ys=(((Ag n).take j).map g).map V.bl) ⟨none,rfl,Same.new f,zb,rfl⟩ ?_ ?_
 ·rintro j σ ys a d hy ⟨v,rfl,sm,b,rfl⟩
  have e:(Ag n)[j]?=some j:=AR d;refine cA (h j a _ (bI (zx ω) d hy b ⟨_,rfl,sm.then f,zb,?_⟩));rw[take_snoc e,Ap,Ap]
  rfl
 ·rintro σ ys a ⟨v,rfl,sm,b,rfl⟩
  rw[Ar (by simp)] at b;exact k a sm b
def Nk{f:Addr}{fd:FuncData}{tp:Tok}(F:Fun K "is_prime" "is_prime" vv f fd)(q:mg "all"=none)(r:mg "range"=none)(u:mg "LAST_PRIME"=some (.int 100 tp)):am P w K mg base ar 1 f fd ["number"] IP:=by
 refine F.ok Ni (fun vs H Q E h=>?_) (fun y A outer s H vs Q E hr h=>?_)
 ·obtain⟨n,rfl,_⟩:=h;rfl
 ·obtain⟨n,rfl,k⟩:=h
  refine⟨_,zh (zB (EI (Jw ES ES ze (pv 0) (Cq (v:=.int 100) rfl u ⟨_,rfl⟩)) (EH (zv (p_ rfl) rfl q qS (za (zr ["number"] ["k","number"] [none,some 0] (Jq rfl r (za ze (za (pv 0) zc))) (fun d C s₀ H₀ ex=>zl (i:=0) (ba ["k","number"]) rfl (Or.inl rfl)) (fun d C s₀ H₀ ex=>zu)
   (fun d C s₀ H₀ ex=>m5 iJ (zD iI (pv 1) (pv 0)) ze (ao _)) (te:=bT wz (bT (rI (fun _ j=>0<j) fun i j=>.int (i%j)) (ap 1) (ap 0)) (tC (.int 0))) (hfr:=bB (zf vv) δ)) zc))))),?_⟩
  have fin:isP n=false->Q (.bl false) H:=fun e=>by
   have:=k H (Same.refl _)
   rwa [e] at this
  refine⟨_,rfl,_,_,rfl,rfl,_,rfl,?_⟩
  by_cases c:2<=n
  rotate_left
  ·rw[decide_eq_false c]
   exact aQ ⟨_,rfl,aQ (fin (by unfold isP;rw[decide_eq_false c];rfl))⟩
  rw[decide_eq_true c];refine aW ⟨_,_,rfl,rfl,_,rfl,?_⟩
  by_cases a:n<=100
  rotate_left
  ·rw[decide_eq_false a]
   exact aQ (fin (by unfold isP;rw[decide_eq_false a,Bool.and_false];rfl))
  rw[decide_eq_true a];refine aW ⟨_,rfl,_,_,rfl,⟨ω,ω,ω,ω⟩,fun D l=>?_⟩;refine zt (Nj (lo:=2) (n:=(n-2).toNat) (g:=fun i=>!decide (n%(2+(i:Int))=0)) (fun j H' R o=>⟨_,rfl,_,rfl,_,_,rfl,rfl,(show(0:Int)<2+(j:Int) from ω),rfl,?_⟩) ω l fun x p b=>⟨D,_,rfl,SqL.of b,?_⟩)
  ·rw[kG];exact o
  ·have:=k x p
   have e:isP n=((Ag (n-2).toNat).map fun i:Nat=>!decide (n%(2+(i:Int))=0)).all id:=by
    unfold isP;rw[decide_eq_true c,decide_eq_true a,List.all_map];rfl
   rwa [e] at this
def IQ(K:Ah):Sp:=fun vs H Q _=>∃(L:Addr)(rs:List Addr)(tb:Ξ)(N n m:Nat)(q:Int),vs=[.ref L,.int q]/\H L=some (.lst (rs.map V.ref))/\Rws H rs tb/\b5 tb=true/\oQ N n m tb.length (wid tb) tb/\isP q=true/\
 ∀H' u ub v vb st,Same H H'->Pap tb.length (wid tb) (fn tb) u ub v vb st->Q (.int ((st.filter fun x=>!decide (x%q=0)).length:Nat)) H'
def Nl:zo ["table","prime"] ["table","prime"] (zf vu):=⟨rfl,rfl,rfl,δ,rfl,δ,δ⟩
def Nm{f e g fs:Addr}{fd l o r:FuncData}(F:Fun K "rank_by" "rank_by" vu f fd)(bl:mg "len"=none)(Fm:Fun K "must_be_table" "must_be_table" qO e l)(Y:Binds K l ["table"] [])(Z:mg "must_be_table"=some (.ref e))(Gm:am P w K mg base ar 3 e l ["table"] (Eo K))(Fp:Fun K "is_prime" "is_prime" vv g o)(bp:Binds K o ["number"] [])(mp:mg "is_prime"=some (.ref g))(Gp:am P w K mg base ar 1 g o ["number"] IP)(Fs:Fun K "steps_of" "steps_of" oS fs r)(bs:Binds K r ["table"] [])(ms:mg "steps_of"=some (.ref fs))(Gs:am P w K mg base ar 8 fs r ["table"] (B_ K)):am P w K mg base ar 9 f fd ["table","prime"] (IQ K):=by
 refine F.ok Nl (fun vs H Q E h=>?_) (fun ai A outer s H vs Q E hr h=>?_)
 ·obtain⟨L,rs,tb,N,n,m,q,rfl,_⟩:=h;rfl
 ·obtain⟨L,rs,tb,N,n,m,q,rfl,G,I,it,ok,J,k⟩:=h
  have b:Room 1 _:=hr.mono ξ;have c:Room 3 _:=hr.mono ξ;have n2:2<=q:=by
   have h:=J;unfold isP at h;rw[Bool.and_eq_true,Bool.and_eq_true] at h;exact of_decide_eq_true h.1.1
  refine⟨_,zd (kw (zg Gm c rfl Z Fm.kp Y .nil af (za (pv 0) zc)))
   (zd (c3 (wh (ph (zg Gp b rfl mp Fp.kp bp .nil af (za (pv 1) zc)))) EJ zT)
   (zh (zB (zv zn rfl bl dF (za (zr ["table","prime"] ["step","prime"] [none,some 1] (zG (zg Gs hr rfl ms Fs.kp bs .nil af (za (pv 0) zc))) (fun y C s₀ H₀ ex=>zl (i:=0) (ba ["step","prime"]) rfl (Or.inl rfl))
    (fun y C s₀ H₀ ex=>Fq (zA iJ (zD iI (pv 0) (pv 1)) ze (ao _))) (fun y C s₀ H₀ ex=>pv 0) (tc:=wR (bT wz (bT (rI (fun _ j=>0<j) fun i j=>.int (i%j)) (ap 0) (ap 1)) (tC (.int 0)))) (hfr:=bB (zf vu) δ)) zc))))),?_⟩
  refine⟨_,rfl,L,rs,tb,rfl,SqL.of G,I,it,fun H1 M=>⟨_,rfl,q,rfl,fun H2 O=>⟨_,rfl,?_⟩⟩⟩;rw[J];have d:=M.trans O;obtain⟨t1,t2,t3⟩:=fU it;refine aQ ⟨_,rfl,L,rs,tb,N,n,m,rfl,d _ _ G,I.same d,it,ok,fun a H3 u ub v vb st S _ z pp=>⟨a,rfl,⟨_,SqL.of z⟩,fun D T=>?_⟩⟩;refine zt (MZ (p:=fun x=>!decide (x%q=0)) (fun x H' R _ U=>⟨_,rfl,_,rfl,_,_,rfl,rfl,(show(0:Int)<q from ω),rfl,_,rfl,?_⟩) z (by have:=pp.sk;(first|lia|omega)) T fun H4 W X=>⟨D,_,rfl,.inl (SqL.of X),?_⟩)
  ·rw[kG];exact U
  ·rw[Aa]
   exact k H4 u ub v vb st (d.trans (S.trans W)) pp
end
abbrev hA:Stmt:=top 47
def zby(p O:Addr)(H H':Hp):Prop:=∀b o,b≠p->b≠O->H b=some o->H' b=some o
def zby.draw{p O:Addr}{H H1 H2:Hp}(h:zby p O H H1)(s:zJ p H1 H2):zby p O H H2:=fun b o h1 h2 e=>s b o h1 (h b o h1 h2 e)
def zby.same{p O:Addr}{H H1 H2:Hp}(h:zby p O H H1)(s:Same H1 H2):zby p O H H2:=h.draw (.of s)
def zby.put{p O:Addr}{H H1:Hp}{o:HO}(h:zby p O H H1):zby p O H (L2.upd H1 O o):=fun b u h1 h2 e=>by rw[ag h2];exact h b u h1 h2 e
def zby.trans{p O:Addr}{H H1 H2:Hp}(h:zby p O H H1)(g:zby p O H1 H2):zby p O H H2:=fun b o h1 h2 e=>g b o h1 h2 (h b o h1 h2 e)
def Ci{tb:Ξ}{i s t:Nat}{ns:List Int}(hi:i<tb.length):fn (tb.set i ns) s t=if s=i then vc ns t else fn tb s t:=by
 unfold fn rowAt;rw[Ab,List.getElem?_set]
 by_cases c:s=i
 ·rw[if_pos c,if_pos c.symm,if_pos ω];rfl
 ·rw[if_neg c,if_neg (Ne.symm c),Ab]
structure Trn(H0 H:Hp)(p O:Addr)(k w:Nat)(A:Nat->Tb.Vc)(M:Int)(rs:List Addr)(tb:Ξ):Prop where
 kp:zby p O H0 H
 bx:zU H p
 at_:H O=some (.lst (rs.map V.ref))
 rw:Rws H rs tb
 nr:∀d∈rs,d≠p/\d≠O
 l:tb.length=k
 wd:∀r∈tb,r.length=w/\Bnd M r
 e1:Tb.Eqv k w (fn tb) A
 e2:Tb.Eqv k w A (fn tb)
section
variable{H0 H H':Hp}{p O:Addr}{k w:Nat}{A:Nat->Tb.Vc}{M:Int}{rs:List Addr}{tb:Ξ}
def Trn.draw(h:Trn H0 H p O k w A M rs tb)(hp:O≠p)(s:zJ p H H')(b:zU H' p):Trn H0 H' p O k w A M rs tb:=⟨h.kp.draw s,b,s _ _ hp h.at_,h.rw.sameB s fun d hd=>(h.nr d hd).1,h.nr,h.l,h.wd,h.e1,h.e2⟩
def Trn.same(h:Trn H0 H p O k w A M rs tb)(hp:O≠p)(s:Same H H'):Trn H0 H' p O k w A M rs tb:=h.draw hp (.of s) (h.bx.same s)
def Trn.mono{M':Int}(h:Trn H0 H p O k w A M rs tb)(a:M<=M'):Trn H0 H p O k w A M' rs tb:=⟨h.kp,h.bx,h.at_,h.rw,h.nr,h.l,fun r hr=>⟨(h.wd r hr).1,(h.wd r hr).2.mono a⟩,h.e1,h.e2⟩
def Trn.row(t:Trn H0 H p O k w A M rs tb){i:Nat}(hi:i<k):∃d ns,rs[i]?=some d/\tb[i]?=some ns/\H d=some (.lst (ns.map V.int))/\ns.length=w/\Bnd M ns/\∀u,fn tb i u=vc ns u:=by
 have e:=t.rw.len;have f:=t.l;obtain⟨d,b⟩:∃d,rs[i]?=some d:=⟨_,Ac (show i<rs.length from ω)⟩;obtain⟨ns,a,c⟩:=t.rw.get b;exact⟨d,ns,b,a,c,(t.wd ns (Al a)).1,(t.wd ns (Al a)).2,fun u=>by unfold fn;rw[zC a]⟩
def Trn.put{M':Int}{i:Nat}{D:Addr}{ns:List Int}(h:Trn H0 H p O k w A M rs tb)(hp:O≠p)(b:H D=some (.lst (ns.map V.int)))(c:D≠p/\D≠O)(hi:i<k)(e:M<=M')(f:ns.length=w)(g:Bnd M' ns)(g1:Tb.Eqv k w (fn (tb.set i ns)) (fn tb))(g2:Tb.Eqv k w (fn tb) (fn (tb.set i ns))):Trn H0 (L2.upd H O (.lst ((rs.map V.ref).set i (.ref D)))) p O k w A M' (rs.set i D) (tb.set i ns):=by
 have a:∀d∈rs.set i D,d≠p/\d≠O:=fun d hd=>by
  rcases AL hd with z|z
  ·exact h.nr d z
  ·rw[z];exact c
 refine⟨h.kp.put,h.bx.upd hp,by rw[zb,List.map_set],(h.rw.set b i).upd fun d hd=>(a d hd).2,a,by rw[List.length_set];exact h.l,fun r hr=>?_,g1.trans h.e1,h.e2.trans g2⟩;rcases AL hr with z|z
 ·exact⟨(h.wd r z).1,(h.wd r z).2.mono e⟩
 ·rw[z];exact⟨f,g⟩
end
section
variable{P:Program}{w:World}{K:Ah}{mg:Str->Option Value}{base:Heap}
def No{H2:Hp}{L D:Addr}{ns:List Int}{Q:VK}{f:Int->Int}{te:TE}{c:List (Option V)}(h:∀(x:Int)(H:Hp)(R:VK),x∈ns->R (.int (f x)) H->te (some (.int x)::c) H R)(i:H2 L=some (.lst (ns.map V.int)))(hz:ns.length<=1000)(d:H2 D=none)(k:∀a,Same H2 a->a D=some (.lst ((ns.map f).map V.int))->Q (.ref D) a):cz (eO K L) (zS 0) bC te (none::c) H2 D Q:=by
 refine jS (xs:=ns.map V.int) (fun j σ ys a=>∃(v:Option V),σ=v::c/\Same H2 a/\a D=some (.lst ys)/\ys=((ns.take j).map f).map V.int) ⟨none,rfl,Same.new d,zb,rfl⟩ ?_ ?_ ?_
 ·rintro j σ ys a ⟨v,rfl,sm,_⟩
  exact SqL.of (sm _ _ i)
 ·rintro j σ ys a x hx e hy ⟨v,rfl,sm,b,rfl⟩
  obtain⟨q,g,rfl⟩:=fY hx;refine cA (h q a _ (Al g) (bI (by rw[Aa];exact zx ω) e hy b ⟨_,rfl,sm.then d,zb,?_⟩));rw[take_snoc g,Ap,Ap]
  rfl
 ·rintro σ ys a ⟨v,rfl,sm,b,rfl⟩
  rw[Aa,Ar (Ad _)] at b;exact k a sm b
abbrev pc:List Str:=["box","table","way","one","other","often"]
def IR:Sp:=fun vs H Q _=>∃(p O:Addr)(k w:Nat)(M:Int)(rs:List Addr)(tb:Ξ)(A:Nat->Tb.Vc),vs=[.ref p,.ref O]/\Trn H H p O k w A M rs tb/\O≠p/\1<=k/\k<=40/\w<=40/\0<=M/\M<=4611686018427387904/\∀H' a b,Trn H H' p O k w A (4*M) a b->Q .non H'
def vw:zo pc ["box","table"] (zf hA):=⟨rfl,rfl,rfl,δ,rfl,δ,δ⟩
def Np{f ft:Addr}{fd aS:FuncData}(F:Fun K "_law_once" "_law_once" hA f fd)(B:jl mg)(Ft:Fun K "_law_take" "_law_take" kb ft aS)(bt:Binds K aS ["box","most"] [])(mt:mg "_law_take"=some (.ref ft)):am P w K mg base ar 2 f fd ["box","table"] IR:=by
 have Gt:am P w K mg base ar 1 ft aS ["box","most"] mx:=u9 Ft;refine F.ok vw (fun vs H Q E h=>?_) (fun ai A outer s H vs Q E hr h=>?_)
 ·obtain⟨p,O,k,w,M,rs,tb,A,rfl,_⟩:=h;rfl
 ·obtain⟨p,O,k,wd,M,rs,tb,A0,rfl,tr,U,k1,yx,yK,m0,mB,fin⟩:=h
  have T6:∃T,PSs (b3 ar P w K mg base pc "_law_once" (zf hA) f ai A outer s H E).nox (List.drop 6 (zX hA)) T/\∀(I:Int)(one:Nat)(v4 v5:Option V)(L:List Addr)(S:Ξ)(H':Hp),one<k->Trn H H' p O k wd A0 (4*M) L S->
    T {nx:=fun _ H'=>Q .non H',rt:=Q} [some (.ref p),some (.ref O),some (.int I),some (.int one),v4,v5] H':=by
   refine⟨_,zh (c3 (zA gs (pv 2) ze (ao _)) (zh (gg (zr pc ["number"] [none] (zG (zw zq (pv 1) (pv 3) (fun _ _=>rfl))) (fun cl C s₀ H₀ ex=>zl (i:=0) (ba ["number"]) rfl (Or.inl rfl)) (fun cl C s₀ H₀ ex=>zu) (fun cl C s₀ H₀ ex=>jC jF (pv 0)) (hfr:=bE δ)) (fJ (pv 1) (pv 3) set_list))) zT),?_⟩;intro I one v4 v5 L S H1 J t;refine⟨_,rfl,rfl,_,rfl,dw (fun _=>?_) (fun _=>fin H1 L S t)⟩;obtain⟨d,ns,ed,en,hd,ln,bn,fe⟩:=t.row J;have gE:(L.map V.ref)[one]?=some (V.ref d):=by rw[Aj,ed];rfl
   refine⟨_,rfl,_,rfl,O,_,_,_,rfl,rfl,SqL.of t.at_,zj (v:=V.ref d) gE,d,rfl,⟨_,SqL.of hd⟩,fun D W=>?_⟩;refine zt (No (f:=fun x=>-x) (fun x H' R _ hR=>⟨_,rfl,_,rfl,hR⟩) hd ω W fun H2 Z eh=>?_);have N:=t.same U Z;have lrs:L.length=k:=by rw[t.rw.len,t.l]
   refine⟨_,rfl,_,rfl,O,_,_,one,rfl,rfl,N.at_,mC ω (by rw[Aa];(first|lia|omega)),?_⟩;have lt:=t.l;have Y:=Tb.M_ (k:=k) (w:=wd) (A:=fn S) (B:=fn (S.set one (ns.map fun x=>-x))) J fun s u _ _=>by
    rw[Ci ω]
    by_cases c:s=one
    ·rw[if_pos c,if_pos c,Gh,fe u]
    ·rw[if_neg c,if_neg c]
   exact fin _ _ _ (N.put U eh ⟨ei t.bx W,fun e=>by rw[e,t.at_] at W;cases W⟩ J (Int.le_refl _) (by rw[Aa];exact ln) (fun x hx=>by
    obtain⟨y,hy,rfl⟩:=List.mem_map.mp hx;have:=bn y hy;(first|lia|omega)) Y.1 Y.2)
  have T5:∃T,PSs (b3 ar P w K mg base pc "_law_once" (zf hA) f ai A outer s H E).nox (List.drop 5 (zX hA)) T/\∀(I G:Int)(one other:Nat)(L:List Addr)(S:Ξ)(H':Hp),one<k->other<k->-3<=G->G<=3->Trn H H' p O k wd A0 M L S->
    T {nx:=fun _ H'=>Q .non H',rt:=Q} [some (.ref p),some (.ref O),some (.int I),some (.int one),some (.int other),some (.int G)] H':=by
   obtain⟨T,gU,X⟩:=T6;refine⟨_,zd (c3 (PW.pt (mX (zA gs (pv 2) ze (ao _)) (mU (zA iJ (pv 3) (pv 4) (ao _)))))
    (zh (gg (zr pc ["left","right","often"] [none,none,some 5] (nE rfl B.zip k5 (za (zw zq (pv 1) (pv 3) (fun _ _=>rfl)) (za (zw zq (pv 1) (pv 4) (fun _ _=>rfl)) zc)))
     (fun cl C s₀ H₀ ex=>hJ rfl (zK (zl (i:=0) (ba ["left","right","often"]) rfl (Or.inl rfl)) (zK (zl (i:=1) (ba ["left","right","often"]) rfl (Or.inl rfl)) hH))) (fun cl C s₀ H₀ ex=>zu)
     (fun cl C s₀ H₀ ex=>zD dW (pv 0) (zD jD (pv 2) (pv 1))) (te:=bT (eP fun i j=>.int (i+j)) (ap 0) (bT (rI CMul fun i j=>.int (i*j)) (ap 2) (ap 1))) (hfr:=bB (zf hA) δ) (g:=ci K 2 (cv (zS 0) (cv (zS 1) cf)))) (fJ (pv 1) (pv 3) set_list))) zT) gU,?_⟩
   intro I G one other L S H1 J gb o1 o2 t;have t4:=t.mono (M':=4*M) ω;refine⟨_,rfl,rfl,_,rfl,?_⟩;cases cw:decide (V.int I=V.int 1) with
   |false=>exact aQ (aQ (X I one _ _ L S H1 J t4))
   |true=>
    refine aW ⟨_,rfl,_,rfl,rfl,_,rfl,?_⟩;rw[kG]
    by_cases c:(one:Int)=(other:Int)
    ·rw[decide_eq_true c]
     exact aQ (X I one _ _ L S H1 J t4)
    ·rw[decide_eq_false c]
     have hne:one≠other:=ω
     obtain⟨d,ns,ed,en,hd,ln,bn,fe⟩:=t.row J;obtain⟨e,ms,ee,em,he,lm,bm,fm⟩:=t.row gb;have gE:(L.map V.ref)[one]?=some (V.ref d):=by rw[Aj,ed];rfl
     have gF:(L.map V.ref)[other]?=some (V.ref e):=by rw[Aj,ee];rfl
     refine aW ⟨_,rfl,_,rfl,O,_,_,_,rfl,rfl,SqL.of t.at_,zj (v:=V.ref d) gE,_,rfl,_,rfl,O,_,_,_,rfl,rfl,SqL.of t.at_,zj (v:=V.ref e) gF,d,e,rfl,⟨_,SqL.of hd⟩,⟨_,SqL.of he⟩,fun D W=>?_⟩;refine zt (Dq (f:=fun a b=>a+G*b) (fun a b H' R _ _ hR=>⟨_,rfl,_,rfl,_,rfl,_,_,rfl,rfl,.inl ⟨ω,ω⟩,_,_,rfl,rfl,hR⟩) hd he ω W fun H2 Z eh=>?_);have N:=t.same U Z;have lrs:L.length=k:=by rw[t.rw.len,t.l]
     refine⟨_,rfl,_,rfl,O,_,_,one,rfl,rfl,N.at_,mC ω (by rw[Aa];(first|lia|omega)),?_⟩;have lt:=t.l;have Y:=Tb.M9 (k:=k) (w:=wd) (A:=fn S) (B:=fn (S.set one (AD (fun a b=>a+G*b) ns ms))) (q:=G) J gb hne fun s u _ _=>by
      rw[Ci ω]
      by_cases c:s=one
      ·rw[if_pos c,if_pos c,sK (by simp) ω,fe u,fm u]
      ·rw[if_neg c,if_neg c]
     refine X I one _ _ _ _ _ J (N.put (M':=4*M) U eh ⟨ei t.bx W,fun e=>by rw[e,t.at_] at W;cases W⟩ J ω (by rw[Az];(first|lia|omega)) (fun x hx=>?_) Y.1 Y.2);obtain⟨j,hj,rfl⟩:=A5 hx;rw[Az] at hj;rw[AX];have b1:=bn _ (Ay (show j<ns.length from ω));have b2:=bm _ (Ay (show j<ms.length from ω));generalize ns[j]'ω=a at *;generalize ms[j]'ω=b at *;have:G=-3\/G=-2\/G=-1\/G=0\/G=1\/G=2\/G=3:=ω
     rcases this with rfl|rfl|rfl|rfl|rfl|rfl|rfl<;>(first|lia|omega)
  have T4:∃T,PSs (b3 ar P w K mg base pc "_law_once" (zf hA) f ai A outer s H E).nox (List.drop 4 (zX hA)) T/\∀(I G:Int)(one other:Nat)(H':Hp),one<k->other<k->-3<=G->G<=3->Trn H H' p O k wd A0 M rs tb->
    T {nx:=fun _ H'=>Q .non H',rt:=Q} [some (.ref p),some (.ref O),some (.int I),some (.int one),some (.int other),some (.int G)] H':=by
   obtain⟨T,gU,X⟩:=T5;refine⟨_,zd (c3 (zA gs (pv 2) ze (ao _)) (zh (gg (gt (za (zw zq (pv 1) (pv 4) (fun _ _=>rfl)) (za (zw zq (pv 1) (pv 3) (fun _ _=>rfl)) zc))) (hJ rfl (zK (fJ (pv 1) (pv 3) set_list) (zK (fJ (pv 1) (pv 4) set_list) hH))))) zT) gU,?_⟩;intro I G one other H1 J gb o1 o2 t;refine⟨_,rfl,rfl,_,rfl,dw (fun _=>?_) (fun _=>X I G one other rs tb H1 J gb o1 o2 t)⟩;obtain⟨d,ns,ed,en,hd,ln,bn,fe⟩:=t.row J;obtain⟨e,ms,ee,em,he,lm,bm,fm⟩:=t.row gb;have gE:(rs.map V.ref)[one]?=some (V.ref d):=by rw[Aj,ed];rfl
   have gF:(rs.map V.ref)[other]?=some (V.ref e):=by rw[Aj,ee];rfl
   have lrs:rs.length=k:=by rw[t.rw.len,t.l]
   have lt:=t.l;refine⟨_,rfl,_,rfl,O,_,_,_,rfl,rfl,SqL.of t.at_,zj (v:=V.ref e) gF,_,rfl,_,rfl,O,_,_,_,rfl,rfl,SqL.of t.at_,zj (v:=V.ref d) gE,zx (by simp),fun q hq=>?_⟩;have Z:=Same.new (o:=.tup [.ref e,.ref d]) hq;have N:=t.same U Z;refine⟨q,_,rfl,SqT.of zb,rfl,_,_,rfl,⟨_,rfl,_,rfl,O,_,_,one,rfl,rfl,N.at_,mC ω (by rw[Aa];(first|lia|omega)),?_⟩⟩;refine⟨_,_,rfl,⟨_,rfl,_,rfl,O,_,_,other,rfl,rfl,zb,mC ω (by rw[List.length_set,Aa];(first|lia|omega)),?_⟩⟩;refine⟨rfl,?_⟩;have e2:∀(Ha:Hp)(x y:HO),upd (upd Ha O x) O y=upd Ha O y:=fun Ha x y=>by
    funext b
    unfold upd;split<;>rfl
   rw[e2];have o7:=t.nr e (Al ee);have p8:=t.nr d (Al ed);have Y:=Tb.Na (k:=k) (w:=wd) (A:=fn tb) (B:=fn ((tb.set one ms).set other ns)) J gb fun s u _ _=>by
    rw[Ci (by rw[List.length_set];(first|lia|omega)),Ci ω]
    by_cases c:s=other
    ·rw[if_pos c]
     by_cases z:s=one
     ·rw[if_pos z,<-fe u]
      have zz:one=other:=ω
      rw[zz]
     ·rw[if_neg z,if_pos c,fe u]
    ·rw[if_neg c]
     by_cases z:s=one
     ·rw[if_pos z,if_pos z,fm u]
     ·rw[if_neg z,if_neg z,if_neg c]
   refine X I G one other ((rs.set one e).set other d) ((tb.set one ms).set other ns) _ J gb o1 o2 ⟨N.kp.put,N.bx.upd U,by rw[zb,List.map_set,List.map_set],((N.rw.set (Z _ _ he) one).set (Z _ _ hd) other).upd fun x hx=>?_,fun x hx=>?_,by rw[List.length_set,List.length_set];exact lt,fun r hr=>?_,Y.1.trans t.e1,t.e2.trans Y.2⟩
   ·rcases AL hx with z|z
    ·rcases AL z with z|z
     ·exact(t.nr x z).2
     ·rw[z];exact o7.2
    ·rw[z];exact p8.2
   ·rcases AL hx with z|z
    ·rcases AL z with z|z
     ·exact t.nr x z
     ·rw[z];exact o7
    ·rw[z];exact p8
   ·rcases AL hr with z|z
    ·rcases AL z with z|z
     ·exact t.wd r z
     ·rw[z];exact⟨lm,bm⟩
    ·rw[z];exact⟨ln,bn⟩
  obtain⟨T,gU,X⟩:=T4;have lrs:rs.length=k:=by rw[tr.rw.len,tr.l]
  refine⟨_,zd (zp (i:=2) vw.nd rfl (Or.inl rfl) (zg Gt hr rfl mt Ft.kp bt .nil af (za (pv 0) (za ze zc))))
   (zd (zp (i:=3) vw.nd rfl (Or.inl rfl) (zg Gt hr rfl mt Ft.kp bt .nil af (za (pv 0) (za (zv zn rfl B.len dF (za (pv 1) zc)) zc))))
   (zd (zp (i:=4) vw.nd rfl (Or.inl rfl) (zg Gt hr rfl mt Ft.kp bt .nil af (za (pv 0) (za (zv zn rfl B.len dF (za (pv 1) zc)) zc))))
   (zd (zp (i:=5) vw.nd rfl (Or.inr rfl) (zD eX (zg Gt hr rfl mt Ft.kp bt .nil af (za (pv 0) (za ze zc))) ze)) gU))),?_⟩
  refine⟨_,rfl,p,_,rfl,tr.bx,ξ,ξ,fun I H1 _ _ dj dq=>?_⟩;have t1:=tr.draw U dj dq;refine⟨_,rfl,_,rfl,O,_,rfl,.inl (SqL.of t1.at_),p,_,rfl,dq,by rw[Aa];(first|lia|omega),by rw[Aa];(first|lia|omega),fun one H2 a0 a1 dU cL=>?_⟩;have N:=t1.draw U dU cL;refine⟨_,rfl,_,rfl,O,_,rfl,.inl (SqL.of N.at_),p,_,rfl,cL,by rw[Aa];(first|lia|omega),by rw[Aa];(first|lia|omega),fun oX H3 b0 b1 fg hb3=>?_⟩;have t3:=N.draw U fg hb3;refine⟨_,rfl,p,_,rfl,hb3,ξ,ξ,fun of H4 c0 c1 bH bP=>⟨_,_,rfl,rfl,?_⟩⟩;have t4:=t3.draw U bH bP;rw[Aa] at a1 b1;obtain⟨i,rfl⟩:∃i:Nat,one=(i:Int):=⟨one.toNat,ω⟩;obtain⟨j,rfl⟩:∃j:Nat,oX=(j:Int):=⟨oX.toNat,ω⟩;exact X I (of-3) i j H4 ω ω ω ω t4
end
abbrev Cj:Stmt:=top 48
def cn{b:Type}(l:List b)(a:Nat)(x:b):List b:=l.take a++x::l.drop a
def CK{b:Type}{l:List b}{a t:Nat}{x:b}(g:a<=l.length):(cn l a x)[t]?=if t<a then l[t]? else if t=a then some x else l[t-1]?:=by
 unfold cn;have f:(l.take a).length=a:=by rw[List.length_take];(first|lia|omega)
 by_cases c:t<a
 ·rw[if_pos c,List.getElem?_append_left ω,List.getElem?_take_of_lt c]
 ·rw[if_neg c,List.getElem?_append_right ω,f]
  by_cases d:t=a
  ·rw[if_pos d,d,Nat.sub_self];rfl
  ·rw[if_neg d]
   obtain⟨n,e⟩:∃n,t-a=n+1:=⟨t-a-1,ω⟩;rw[e,List.getElem?_cons_succ,List.getElem?_drop]
   congr 1;(first|lia|omega)
def Nq{r:List Int}{a t:Nat}(b:a<=r.length):vc (cn r a 0) t=if t<a then vc r t else if t=a then 0 else vc r (t-1):=by
 unfold vc;rw[Ab,CK b]
 by_cases c:t<a
 ·rw[if_pos c,if_pos c,Ab]
 ·rw[if_neg c,if_neg c]
  by_cases d:t=a
  ·rw[if_pos d,if_pos d];rfl
  ·rw[if_neg d,if_neg d,Ab]
def n_{b:Type}{l:List b}{a:Nat}{x:b}(c:a<=l.length):(cn l a x).length=l.length+1:=by
 unfold cn;rw[AK,AI,List.length_take,List.length_drop];(first|lia|omega)
def ins_mem{b:Type}{l:List b}{a:Nat}{x y:b}(h:y∈cn l a x):y=x\/y∈l:=by
 unfold cn at h;rcases List.mem_append.mp h with z|z
 ·exact .inr (List.mem_of_mem_take z)
 ·rcases List.mem_cons.mp z with z|z
  ·exact .inl z
  ·exact .inr (List.mem_of_mem_drop z)
def nou(tb:Ξ)(w a b:Nat):Ξ:=cn (tb.map fun r=>cn r a 0) b (An (w+1) 0)
def Nr{tb:Ξ}{w a b:Nat}(hw:∀r∈tb,r.length=w)(h:a<=w)(hb:b<=tb.length){s t:Nat}(j:s<tb.length+1)(l:t<w+1):fn (nou tb w a b) s t=Tb.pad tb.length w (fn tb) (Tb.inP tb.length b s) (Tb.inP w a t):=by
 have row:∀i,i<tb.length->vc (((tb.map fun r=>cn r a 0)[i]?).getD []) t=Tb.pad tb.length w (fn tb) i (Tb.inP w a t):=fun i hi=>by
  rw[Aj,Ac hi];show vc (cn tb[i] a 0) t=_;have g:=hw _ (Ay hi);rw[Nq ω];have f:∀u,fn tb i u=vc tb[i] u:=fun u=>by unfold fn;rw[zC (Ac hi)]
  unfold Tb.pad Tb.inP
  by_cases c:t<a
  ·rw[if_pos c,if_pos c,if_pos ⟨hi,ω⟩,f]
  ·rw[if_neg c,if_neg c]
   by_cases d:t=a
   ·rw[if_pos d,if_pos d,if_neg ω]
   ·rw[if_neg d,if_neg d,if_pos ⟨hi,ω⟩,f]
 unfold fn rowAt nou;rw[Ab,CK (by rw[Aa];exact hb)]
 by_cases c:s<b
 ·rw[if_pos c,row s ω]
  have e:Tb.inP tb.length b s=s:=by unfold Tb.inP;rw[if_pos c]
  rw[e];rfl
 ·rw[if_neg c]
  by_cases d:s=b
  ·rw[if_pos d]
   have e:Tb.inP tb.length b s=tb.length:=by unfold Tb.inP;rw[if_neg c,if_pos d]
   rw[e];show vc (An (w+1) 0) t=_;rw[BP];unfold Tb.pad;rw[if_neg ω]
  ·rw[if_neg d,row (s-1) ω]
   have e:Tb.inP tb.length b s=s-1:=by unfold Tb.inP;rw[if_neg c,if_neg d]
   rw[e];rfl
def Nt{tb:Ξ}{w a b:Nat}(hw:∀r∈tb,r.length=w)(c:a<=w):∀r∈nou tb w a b,r.length=w+1:=fun r hr=>by
 rcases ins_mem hr with z|z
 ·rw[z];simp
 ·obtain⟨q,hq,rfl⟩:=List.mem_map.mp z
  rw[n_ (by rw[hw q hq];exact c),hw q hq]
def Nu{tb:Ξ}{w a b:Nat}{M:Int}(h:∀r∈tb,Bnd M r)(c:0<=M):∀r∈nou tb w a b,Bnd M r:=fun r hr x hx=>by
 rcases ins_mem hr with z|z
 ·rw[z] at hx
  rw[List.eq_of_mem_replicate hx];(first|lia|omega)
 ·obtain⟨q,hq,rfl⟩:=List.mem_map.mp z
  rcases ins_mem hx with z|z
  ·rw[z];(first|lia|omega)
  ·exact h q hq x z
def Rws.app'{H:Hp}{ds es:List Addr}{tb ub:Ξ}(h:Rws H ds tb)(g:Rws H es ub):Rws H (ds++es) (tb++ub):=by
 induction h with
 |nil=>exact g
 |cons r t ih=>exact .cons r ih
def Rws.take'{H:Hp}{ds:List Addr}{tb:Ξ}(h:Rws H ds tb):∀n:Nat,Rws H (ds.take n) (tb.take n):=by
 induction h with
 |nil=>intro n;rw[List.take_nil,List.take_nil];exact .nil
 |cons r t ih=>
  intro n;cases n with
  |zero=>exact .nil
  |succ n=>exact .cons r (ih n)
def Rws.drop'{H:Hp}{ds:List Addr}{tb:Ξ}(h:Rws H ds tb):∀n:Nat,Rws H (ds.drop n) (tb.drop n):=by
 induction h with
 |nil=>intro n;rw[List.drop_nil,List.drop_nil];exact .nil
 |cons r t ih=>
  intro n;cases n with
  |zero=>exact .cons r t
  |succ n=>exact ih n
section
variable{P:Program}{w:World}{K:Ah}{mg:Str->Option Value}{base:Heap}
def EA{H2:Hp}{D:Addr}{n:Nat}{z:Int}{Q:VK}{c:List (Option V)}(hz:n<=1000)(d:H2 D=none)(k:∀a,Same H2 a->a D=some (.lst ((An n z).map V.int))->Q (.ref D) a):cz (fK 0 n) (zS 0) bC (tC (.int z)) (none::c) H2 D Q:=by
 refine qb (fun j σ ys a=>∃(v:Option V),σ=v::c/\Same H2 a/\a D=some (.lst ys)/\ys=(An j z).map V.int) ⟨none,rfl,Same.new d,zb,rfl⟩ ?_ ?_
 ·rintro j σ ys a e hy ⟨v,rfl,sm,b,rfl⟩
  refine cA ?_;refine(bI (zx ω) e hy b ⟨_,rfl,sm.then d,zb,?_⟩);rw[List.replicate_succ',Ap];rfl
 ·rintro σ ys a ⟨v,rfl,sm,b,rfl⟩
  exact k a sm b
abbrev EB:List Str:=["box","table","found","at","row"]
def IS:Sp:=fun vs H Q _=>∃(p L:Addr)(rs:List Addr)(tb:Ξ),vs=[.ref p,.ref L]/\zU H p/\H L=some (.lst (rs.map V.ref))/\Rws H rs tb/\b5 tb=true/\L≠p/\(∀d∈rs,d≠p)/\tb.length<=30/\wid tb<=30/\
 ∀F H' es a b,zJ p H H'->zU H' p->H' F=some (.lst (es.map V.ref))->Rws H' es (nou tb (wid tb) a b)->a<=wid tb->b<=tb.length->Q (.ref F) H'
def Ck:zo EB ["box","table"] (zf Cj):=⟨rfl,rfl,rfl,δ,rfl,δ,δ⟩
def Nv{f ft fw:Addr}{fd aS aT:FuncData}(F:Fun K "_law_with_noughts" "_law_with_noughts" Cj f fd)(B:jl mg)(Ft:Fun K "_law_take" "_law_take" kb ft aS)(bt:Binds K aS ["box","most"] [])(mt:mg "_law_take"=some (.ref ft))(Fw:Fun K "_law_wide" "_law_wide" oW fw aT)(bw:Binds K aT ["table"] [])(mw:mg "_law_wide"=some (.ref fw))(Gw:am P w K mg base ar 1 fw aT ["table"] (vp K)):am P w K mg base ar 2 f fd ["box","table"] IS:=by
 have Gt:am P w K mg base ar 1 ft aS ["box","most"] mx:=u9 Ft;refine F.ok Ck (fun vs H Q E h=>?_) (fun ai A outer s H vs Q E hr h=>?_)
 ·obtain⟨p,L,rs,tb,rfl,_⟩:=h;rfl
 ·obtain⟨p,L,rs,tb,rfl,hb,J,X,it,nL,nr,xX,yR,k⟩:=h
  obtain⟨t1,t2,t3⟩:=fU it;refine⟨_,zd (kS (i:=2) Ck.nd rfl (Or.inl rfl) EB ["row"] [none] (zG (pv 1)) (fun q C s₀ H₀ ex=>zl (i:=0) (ba ["row"]) rfl (Or.inl rfl)) (fun q C s₀ H₀ ex=>zu) (fun q C s₀ H₀ ex=>zY zM rfl B.list mE (za (pv 0) zc)) (te:=kd K) (hfr:=bE δ))
   (zd (zp (i:=3) Ck.nd rfl (Or.inl rfl) (zg Gt hr rfl mt Ft.kp bt .nil af (za (pv 0) (za (zD dW (zg Gw hr rfl mw Fw.kp bw .nil af (za (pv 1) zc)) ze) zc))))
   (zd (iD PassesOwn.never rfl (zG (pv 2)) (zl (i:=4) Ck.nd rfl (Or.inl rfl))
    (zh (kw (CS PySem.F.plainAttrs_list PySem.F.slot_list_insert PySem.F.type_list_insert FB (pv 4) (za (pv 3) (za ze zc))))))
   (zd (kw (CS PySem.F.plainAttrs_list PySem.F.slot_list_insert PySem.F.type_list_insert FB (pv 2) (za (zg Gt hr rfl mt Ft.kp bt .nil af (za (pv 0) (za (zD dW (zv zn rfl B.len dF (za (pv 2) zc)) ze) zc)))
    (za (zr EB ["place"] [none] (iA rfl B.range (za (zD dW (zg Gw hr rfl mw Fw.kp bw .nil af (za (pv 1) zc)) ze) zc)) (fun q C s₀ H₀ ex=>zl (i:=0) (ba ["place"]) rfl (Or.inl rfl)) (fun q C s₀ H₀ ex=>zu) (fun q C s₀ H₀ ex=>ze) (te:=tC (.int 0)) (hfr:=bE δ)) zc))))
   (zh (zB (pv 2)))))),?_⟩
  refine⟨_,rfl,L,rfl,⟨_,SqL.of J⟩,fun D S=>zt (mJ (SqL.of J) X ω S fun H1 ds G jH ik rF I=>?_)⟩;have ld:=ik.len;refine⟨_,rfl,_,rfl,L,rs,tb,rfl,SqL.of (G _ _ J),X.same G,fun H2 s2=>⟨_,_,rfl,rfl,p,_,rfl,hb.same (G.trans s2),ω,ω,fun az H3 a0 a1 fg T=>?_⟩⟩;obtain⟨a,rfl⟩:∃a:Nat,az=(a:Int):=⟨az.toNat,ω⟩;have aw:a<=wid tb:=ω
  have g:zJ p H1 H3:=(zJ.of s2).trans fg;have dp:∀d∈ds,d≠p:=fun d hd=>ei hb (I d hd).1;have O:D≠p:=ei hb S;have qX:zJ p H H3:=(zJ.of G).trans g;refine⟨_,rfl,D,rfl,⟨_,SqL.of (g _ _ O jH)⟩,pK (K:=K) (a:=D) (xs:=ds.map V.ref) (fun i σ o=>∃(W:Option V)(l:Ξ),σ=[some (.ref p),some (.ref L),some (.ref D),some (.int a),W]/\zJ p H o/\zU o p/\o D=some (.lst (ds.map V.ref))/\Rws o ds l/\l.length=tb.length/\∀j,l[j]?=if j<i then(tb[j]?).map (fun r=>cn r a 0) else tb[j]?)
   ⟨none,tb,rfl,qX,T,g _ _ O jH,ik.sameB g dp,rfl,fun j=>by rw[if_neg (Nat.not_lt_zero _)]⟩ (fun i σ o _ ⟨_,_,_,_,_,e,_⟩=>SqL.of e) ?_ ?_⟩
  ·rintro i x σ o hx ⟨W,l,rfl,v,Y,y,M,ju,all⟩
   obtain⟨d,N,rfl⟩:=jT hx;obtain⟨rn,er,hd⟩:=M.get N;have kr:tb[i]?=some rn:=by rw[<-er,all i,if_neg (Nat.lt_irrefl _)]
   have lr:=t3 rn (Al kr);have hi:i<tb.length:=(List.getElem?_eq_some_iff.mp kr).1;obtain⟨d0,dD⟩:=I d (Al N);refine⟨_,rfl,.inl ⟨rfl,_,SqL.of hd⟩,_,rfl,d,_,_,_,rfl,rfl,hd,ω,by rw[Aa];(first|lia|omega),IB (by rw[Aa];(first|lia|omega)),?_⟩;rw[Bj a,<-List.map_take,<-List.map_drop,show(V.int 0::(rn.drop a).map V.int)=(0::rn.drop a).map V.int from rfl,<-Ap];refine⟨_,l.set i (cn rn a 0),rfl,v.then d0,Y.upd (dp d (Al N)),by rw[ag dD.symm];exact y,M.updAt i rF N,by rw[List.length_set];exact ju,fun j=>?_⟩;rw[List.getElem?_set]
   by_cases c:i=j
   ·subst c
    rw[if_pos rfl,if_pos ω,if_pos ω,kr];rfl
   ·rw[if_neg c,all j]
    by_cases d:j<i
    ·rw[if_pos d,if_pos ω]
    ·rw[if_neg d,if_neg ω]
  ·rintro σ o ⟨W,l,rfl,v,Y,y,M,ju,all⟩
   have e4:l=tb.map fun r=>cn r a 0:=by
    refine List.ext_getElem? fun j=>?_;rw[all j,Aj,Aa]
    by_cases c:j<ds.length
    ·rw[if_pos c]
    ·rw[if_neg c,List.getElem?_eq_none ω];rfl
   subst e4;have rN:=v _ _ nL J;have sJ:=X.sameB v nr;refine⟨_,rfl,.inl ⟨rfl,_,SqL.of y⟩,_,rfl,_,rfl,D,_,rfl,.inl (SqL.of y),_,_,rfl,rfl,p,_,rfl,Y,by rw[Aa];(first|lia|omega),by rw[Aa];(first|lia|omega),fun bz H5 b0 b1 u dS=>?_⟩;rw[Aa] at b1;obtain⟨b,rfl⟩:∃b:Nat,bz=(b:Int):=⟨bz.toNat,ω⟩;refine⟨_,rfl,L,rs,tb,rfl,SqL.of (u _ _ nL rN),sJ.sameB u nr,fun H6 s6=>⟨_,_,rfl,rfl,_,rfl,ω,ω,fun Z U=>?_⟩⟩;rw[show((wid tb:Int)+1).toNat=wid tb+1 from ω];refine zt (EA ω U fun H7 s7 rM=>?_);have jk:=s6 _ _ (u _ _ O y);have iB:=s7 _ _ jk;refine⟨D,_,_,_,rfl,rfl,iB,ω,by rw[Aa];(first|lia|omega),IB (by rw[Aa];(first|lia|omega)),?_⟩;rw[Bj b,<-List.map_take,<-List.map_drop,<-AY (f:=V.ref),<-Ap];have j6:=s6.trans s7;have r7:=(M.sameB u dp).same j6;have su:Z≠D:=fun e=>by rw[e,jk] at U;cases U
   refine⟨_,rfl,k D _ (ds.take b++Z::ds.drop b) a b (((v.trans u).trans (.of j6)).then S) ((dS.same j6).upd O) zb ?_ aw ω⟩;refine((r7.take' b).app' (.cons rM (r7.drop' b))).upd fun x hx=>?_;rcases List.mem_append.mp hx with z|z
   ·exact(I x (List.mem_of_mem_take z)).2
   ·rcases List.mem_cons.mp z with z|z
    ·rw[z];exact su
    ·exact(I x (List.mem_of_mem_drop z)).2
end
def vz:Good 7 3 10:=⟨ξ,ξ,ξ,ξ,ξ,ξ⟩
def vC:Good 9 4 10:=⟨ξ,ξ,ξ,ξ,ξ,ξ⟩
def hC:Good 6 3 22:=⟨ξ,ξ,ξ,ξ,ξ,ξ⟩
section
variable{k w:Nat}{A A':Nat->Tb.Vc}{u ub v vb u' cm v' cB:Ξ}{st ab:List Int}
def Pap.eqv(p:Pap k w A u ub v vb st)(a:Pap k w A' u' cm v' cB ab)(h1:Tb.Eqv k w A A')(h2:Tb.Eqv k w A' A):st=ab:=by
 obtain⟨R,C,h1⟩:=h1;obtain⟨R',b,h2⟩:=h2;exact p.steps a h1 h2
end
def Rel(k w:Nat)(A:Nat->Tb.Vc)(a b:Nat)(A':Nat->Tb.Vc):Prop:=(a=k/\b=w/\A'=A)\/(a=w/\b=k/\A'=fun i j=>A j i)
def Rel.tr{k w b c:Nat}{A A':Nat->Tb.Vc}(h:Rel k w A b c A'):Rel k w A c b (fun i j=>A' j i):=by
 rcases h with ⟨h1,h2,a⟩|⟨h1,h2,a⟩
 ·exact .inr ⟨h2,h1,by rw[a]⟩
 ·exact .inl ⟨h2,h1,by rw[a]⟩
def Pap.rel{k w a b:Nat}{A A':Nat->Tb.Vc}{tb u ub v vb u' cm v' cB:Ξ}{st ab:List Int}(p:Pap k w A u ub v vb st)(r:Rel k w A a b A')(c:Pap a b (fn tb) u' cm v' cB ab)(h1:Tb.Eqv a b (fn tb) A')(h2:Tb.Eqv a b A' (fn tb)):st=ab:=by
 rcases r with ⟨e1,e2,e3⟩|⟨e1,e2,e3⟩
 ·subst e1 e2 e3
  exact p.eqv c h2 h1
 ·subst e1 e2 e3
  exact p.tr.eqv c h2 h1
def IT{tb:Ξ}{i u:Nat}(h:i<wid tb):fn (turn tb) i u=fn tb u i:=by unfold turn;exact zV h u
def Pap.nou{tb u ub v vb u' cm v' cB:Ξ}{st ab:List Int}{a b:Nat}(p:Pap tb.length (wid tb) (fn tb) u ub v vb st)(hw:∀r∈tb,r.length=wid tb)(c:a<=wid tb)(hb:b<=tb.length)(f:Pap (tb.length+1) (wid tb+1) (fn (nou tb (wid tb) a b)) u' cm v' cB ab):st=ab:=by
 have g:=Tb.Nb (k:=tb.length) (w:=wid tb) (p:=b) (q:=a) (A:=Tb.pad tb.length (wid tb) (fn tb)) (B:=fn (K28.nou tb (wid tb) a b)) hb c fun s t d e=>Nr hw c hb d e;exact p.pad.eqv f g.2 g.1
def wid2(tb a:Ξ)(w1 w2:Nat):Ξ:=(tb.map fun r=>r++An w2 0)++a.map fun r=>An w1 0++r
def Nw{tb a:Ξ}{w1 w2:Nat}(h1:∀r∈tb,r.length=w1)(h2:∀r∈a,r.length=w2){i j:Nat}(hi:i<tb.length+a.length):fn (wid2 tb a w1 w2) i j=Tb.f_ tb.length w1 (fn tb) (fn a) i j:=by
 have rep:∀n u,vc (An n 0) u=0:=fun n u=>BP;unfold Tb.f_
 by_cases c:i<tb.length
 ·rw[if_pos c]
  have e:rowAt (wid2 tb a w1 w2) i=tb[i]++An w2 0:=zC (by
   unfold wid2;rw[List.getElem?_append_left (by rw[Aa];exact c),Aj,Ac c];rfl)
  unfold fn;rw[e,zC (Ac c),D8 (h1 _ (Ay c)),rep]
 ·rw[if_neg c]
  have b:i-tb.length<a.length:=ω
  have e:rowAt (wid2 tb a w1 w2) i=An w1 0++a[i-tb.length]:=zC (by
   unfold wid2;rw[List.getElem?_append_right (by rw[Aa];(first|lia|omega)),Aa,Aj,Ac b];rfl)
  unfold fn;rw[e,zC (Ac b),D8 (m:=w1) (by simp),rep]
def Nx{k w r:Nat}{W W' V VB:Nat->Tb.Vc}(h:Tb.Kp k w r W V VB)(e:∀i t,i<k->t<w->W i t=W' i t):Tb.Kp k w r W' V VB:=by
 refine⟨h.rw,h.v1,h.v2,fun x=>?_⟩;rw[<-h.ker x];constructor
 ·intro z i hi
  rw[<-z i hi];exact Tb.zm fun t a=>e i t hi a
 ·intro z i hi
  rw[<-z i hi];exact Tb.zm fun t a=>(e i t hi a).symm
def Pap.wide{tb a u ub v vb d e f g h j l o:Ξ}{st b c:List Int}(p:Pap tb.length (wid tb) (fn tb) u ub v vb st)(p2:Pap a.length (wid a) (fn a) d e f g b)(h1:∀r∈tb,r.length=wid tb)(h2:∀r∈a,r.length=wid a)(q:Pap (tb.length+a.length) (wid tb+wid a) (fn (wid2 tb a (wid tb) (wid a))) h j l o c):c.length=st.length+b.length:=
 Tb.Nc p.kp p2.kp (Nx q.kp fun i t hi _=>Nw h1 h2 hi)
def Ny{tb a:Ξ}{w1 w2:Nat}(h1:∀r∈tb,r.length=w1)(h2:∀r∈a,r.length=w2):∀r∈wid2 tb a w1 w2,r.length=w1+w2:=fun r hr=>by
 rcases List.mem_append.mp hr with z|z
 ·obtain⟨q,hq,rfl⟩:=List.mem_map.mp z
  rw[AK,h1 q hq,A7]
 ·obtain⟨q,hq,rfl⟩:=List.mem_map.mp z
  rw[AK,h2 q hq,A7]
def Nz{tb a:Ξ}{w1 w2:Nat}{M:Int}(h1:∀r∈tb,Bnd M r)(h2:∀r∈a,Bnd M r)(b:0<=M):∀r∈wid2 tb a w1 w2,Bnd M r:=fun r hr x hx=>by
 rcases List.mem_append.mp hr with z|z
 ·obtain⟨q,hq,rfl⟩:=List.mem_map.mp z
  rcases List.mem_append.mp hx with y|y
  ·exact h1 q hq x y
  ·rw[List.eq_of_mem_replicate y];(first|lia|omega)
 ·obtain⟨q,hq,rfl⟩:=List.mem_map.mp z
  rcases List.mem_append.mp hx with y|y
  ·rw[List.eq_of_mem_replicate y];(first|lia|omega)
  ·exact h2 q hq x y
abbrev bQ:Stmt:=top 49
abbrev eM:List Str:=["script","box","table","due","other","turn","prime","second","wide"]
def lX(ns:List Int):SeqAt.shaped (dh ns)=true:=by
 have e:PyData.depth (dh ns)<=64:=by
  have:PyData.depth (dh ns)<=2:=by simp[PyData.depth,PySem.W.ke_depthAll]
  (first|lia|omega)
 unfold SeqAt.shaped;rw[decide_eq_true e,dh,PyData.canLay0,Ih]
 rfl
def SqL.far{K:Ah}{H H':Hp}{a p:Addr}{xs:List V}{o:HO}(h:L2.SqL K H a xs)(hp:H p=none)(s:zJ p (L2.upd H p o) H'):L2.SqL K H' a xs:=by
 rcases h with (h|⟨u,h⟩)|h
 ·exact .inl (.inl (s _ _ (zk h hp) ((Same.new hp) _ _ h)))
 ·exact .inl (.inr ⟨u,s _ _ (zk h hp) ((Same.new hp) _ _ h)⟩)
 ·exact .inr h
def NA{H H':Hp}{p:Addr}{o:HO}(hp:H p=none)(s:zJ p (L2.upd H p o) H'):Same H H':=fun b o' e=>s b o' (zk e hp) ((Same.new hp) _ _ e)
structure Tbl(H:Hp)(p L:Addr)(rs:List Addr)(tb:Ξ):Prop where
 at_:H L=some (.lst (rs.map V.ref))
 rw:Rws H rs tb
 nL:L≠p
 nr:∀d∈rs,d≠p
def Tbl.draw{H H':Hp}{p L:Addr}{rs:List Addr}{tb:Ξ}(h:Tbl H p L rs tb)(s:zJ p H H'):Tbl H' p L rs tb:=⟨s _ _ h.nL h.at_,h.rw.sameB s h.nr,h.nL,h.nr⟩
def Tbl.same{H H':Hp}{p L:Addr}{rs:List Addr}{tb:Ξ}(h:Tbl H p L rs tb)(s:Same H H'):Tbl H' p L rs tb:=h.draw (.of s)
def IU{tb:Ξ}{c n:Nat}{m:Int}(h:∀r∈tb,r.length=c/\Bnd m r)(hc:c<=n):wid tb<=n:=by
 cases e:tb with
 |nil=>exact Aw _
 |cons r l=>
  rw[e] at h;show r.length<=n;rw[(h r (AC ..)).1];exact hc
def NB{tb:Ξ}{M:Int}(h:∀r∈tb,Bnd M r)(a:0<=M):∀r∈turn tb,Bnd M r:=fun r hr x hx=>by
 unfold turn at hr;obtain⟨j,_,rfl⟩:=List.mem_map.mp hr;unfold colAt at hx;obtain⟨q,hq,rfl⟩:=List.mem_map.mp hx;rw[Ab];cases e:q[j]? with
 |none=>exact⟨by show -M<=0;(first|lia|omega),a⟩
 |some y=>exact h q hq y (Al e)
section
variable{P:Program}{w:World}{K:Ah}{mg:Str->Option Value}{base:Heap}
def Cm{H:Hp}{W q:Addr}{ds:List Addr}{tb:Ξ}{Z:VK}{neg:Bool}(a:H W=some (.lst (ds.map V.ref)))(hr:Rws H ds tb)(hq:H q=none)(k:Z (.bl (if neg then !decide (tb=[]) else decide (tb=[]))) (upd H q (.lst []))):fH neg K (.ref W) (.ref q) (upd H q (.lst [])) Z:=by
 refine⟨cZ tb,cZ [],oT (SqL.of (by rw[ag (zk a hq)];exact a)) (hr.same (Same.new hq)),oT (rs:=[]) (SqL.of zb) .nil,B6 _,B6 _,Im _ _,?_⟩;rw[Ek];exact k
def NC{H:Hp}{W q:Addr}{a:List Int}{Z:VK}(b:H W=some (.lst (a.map V.int)))(hq:H q=none)(k:Z (.bl (!decide (a=[]))) (upd H q (.lst []))):fH true K (.ref W) (.ref q) (upd H q (.lst [])) Z:=by
 refine⟨dh a,dh [],uQ (SqL.of (by rw[ag (zk b hq)];exact b)),uQ (SqL.of zb),lX _,lX _,Il _ _,?_⟩;rw[if_pos rfl,Ej];exact k
def IV{H:Hp}{a b:Addr}{st:List Int}{Z:VK}(c:H a=some (.lst (st.map V.int)))(hb:H b=some (.lst (st.map V.int)))(k:Z (.bl false) H):fH true K (.ref a) (.ref b) H Z:=by
 refine⟨dh st,dh st,uQ (SqL.of c),uQ (SqL.of hb),lX _,lX _,Il _ _,?_⟩;rw[if_pos rfl,Ej,decide_eq_true rfl];exact k
def Cn(K:Ah):Sp:=fun vs H Q _=>∃(a:Addr)(ns:List Int),vs=[.ref a]/\SqL K H a (ns.map V.int)/\ns.length<=63/\∀H',Q (.bl true) H'
def hE:zo eM ["script"] (zf bQ):=⟨rfl,rfl,rfl,δ,rfl,δ,δ⟩
abbrev tZ(K:Ah)(i:Nat):TE:=gw (EM (cy (hV (vp K) [] E0 (cy (ap i) ca)) ca)) [none] (zS 0) bC (tC (.int 0))
def ND{f fc fb ft nI fw fs fk fr fo kc mZ:Addr}{fd bR lw aS gf aT aB fG dJ dC fL fQ:FuncData}(F:Fun K "law" "law" bQ f fd)(B:jl mg)(Fc:Fun K "_law_cell_at" "_law_cell_at" B' fc bR)(bc:Binds K bR ["script","k"] [])(mc:mg "_law_cell_at"=some (.ref fc))(Fb:Fun K "_law_box" "_law_box" ji fb lw)(bb:Binds K lw ["cell"] [])(mb:mg "_law_box"=some (.ref fb))(Ft:Fun K "_law_take" "_law_take" kb ft aS)(bt:Binds K aS ["box","most"] [])(mt:mg "_law_take"=some (.ref ft))(Ftb:Fun K "_law_table" "_law_table" jp nI gf)(nW:Binds K gf ["box","most"] [])(pP:mg "_law_table"=some (.ref nI))(jq:am P w K mg base ar 3 nI gf ["box","most"] Iz)(Fw:Fun K "_law_wide" "_law_wide" oW fw aT)(bw:Binds K aT ["table"] [])(mw:mg "_law_wide"=some (.ref fw))(Gw:am P w K mg base ar 1 fw aT ["table"] (vp K))(Fs:Fun K "steps_of" "steps_of" oS fs aB)(bs:Binds K aB ["table"] [])(ms:mg "steps_of"=some (.ref fs))(Gs:am P w K mg base ar 8 fs aB ["table"] (B_ K))(Fk:Fun K "rank" "rank" B8 fk fG)(bk:Binds K fG ["table"] [])(mk:mg "rank"=some (.ref fk))(Gk:am P w K mg base ar 9 fk fG ["table"] (Ir K))(Fr:Fun K "rank_by" "rank_by" vu fr dJ)(br:Binds K dJ ["table","prime"] [])(mr:mg "rank_by"=some (.ref fr))(Gr:am P w K mg base ar 9 fr dJ ["table","prime"] (IQ K))(Fo:Fun K "_law_over" "_law_over" vt fo dC)(bo:Binds K dC ["table"] [])(mo:mg "_law_over"=some (.ref fo))(Go:am P w K mg base ar 2 fo dC ["table"] (IN K))(Fon:Fun K "_law_once" "_law_once" hA kc fL)(qQ:Binds K fL ["box","table"] [])(qB:mg "_law_once"=some (.ref kc))(nH:am P w K mg base ar 2 kc fL ["box","table"] IR)(Fno:Fun K "_law_with_noughts" "_law_with_noughts" Cj mZ fQ)(rE:Binds K fQ ["box","table"] [])(w9:mg "_law_with_noughts"=some (.ref mZ))(j9:am P w K mg base ar 2 mZ fQ ["box","table"] IS):am P w K mg base ar 10 f fd ["script"] (Cn K):=by
 have Gc:am P w K mg base ar 1 fc bR ["script","k"] (Iu K):=MS Fc B;have Gb:am P w K mg base ar 1 fb lw ["cell"] Iv:=MU Fb;have Gt:am P w K mg base ar 1 ft aS ["box","most"] mx:=u9 Ft;refine F.ok hE (fun vs H Q E h=>?_) (fun ai A outer s H vs Q E hr h=>?_)
 ·obtain⟨a,ns,rfl,_⟩:=h;rfl
 ·obtain⟨a,ns,rfl,hs,hn,k⟩:=h
  have a_:=hr.units;have T:Room 1 _:=hr.mono ξ;have de:Room 2 _:=hr.mono ξ;have hr3:Room 3 _:=hr.mono ξ;have kJ:Room 8 _:=hr.mono ξ;have T9:∃Y,PSs (b3 ar P w K mg base eM "law" (zf bQ) f ai A outer s H E).nox (List.drop 9 (zX bQ)) Y/\∀(p L S G:Addr)(rs c6:List Addr)(tb I u ub v vb:Ξ)(st:List Int)(v4 M v6:Option V)(H':Hp),
    H' L=some (.lst (rs.map V.ref))->Rws H' rs tb->b5 tb=true->H' S=some (.lst (c6.map V.ref))->Rws H' c6 I->b5 I=true->tb.length<=6->wid tb<=6->I.length<=3->wid I<=3->(∀r∈tb,Bnd 1000 r)->(∀r∈I,Bnd 1000 r)->Pap tb.length (wid tb) (fn tb) u ub v vb st->H' G=some (.lst (st.map V.int))->
    Y {nx:=fun _ H'=>Q .non H',rt:=Q} [some (.ref a),some (.ref p),some (.ref L),some (.ref G),v4,M,v6,some (.ref S),none] H':=by
   refine⟨_,zd (kS (i:=8) hE.nd rfl (Or.inl rfl) eM ["row","second"] [none,some 7] (zG (pv 2)) (fun J C s₀ H₀ ex=>zl (i:=0) (ba ["row","second"]) rfl (Or.inl rfl)) (fun J C s₀ H₀ ex=>zu)
     (fun J C s₀ H₀ ex=>zD xy (pv 0) (zr ["row","second"] ["place"] [none] (iA rfl B.range (za (zg Gw T rfl mw Fw.kp bw .nil af (za (pv 1) zc)) zc)) (fun J C s₀ H₀ ex=>zl (i:=0) (ba ["place"]) rfl (Or.inl rfl)) (fun J C s₀ H₀ ex=>zu) (fun J C s₀ H₀ ex=>ze) (te:=tC (.int 0)) (hfr:=bE δ)))
     (te:=bT iL (ap 0) (tZ K 1)) (hfr:=bB (zf bQ) δ))
    (zd (zp (i:=8) hE.nd rfl (Or.inl rfl) (zD xy (pv 8) (zr eM ["row","table"] [none,some 2] (zG (pv 7)) (fun J C s₀ H₀ ex=>zl (i:=0) (ba ["row","table"]) rfl (Or.inl rfl)) (fun J C s₀ H₀ ex=>zu)
     (fun J C s₀ H₀ ex=>zD xy (zr ["row","table"] ["place"] [none] (iA rfl B.range (za (zg Gw T rfl mw Fw.kp bw .nil af (za (pv 1) zc)) zc)) (fun J C s₀ H₀ ex=>zl (i:=0) (ba ["place"]) rfl (Or.inl rfl)) (fun J C s₀ H₀ ex=>zu) (fun J C s₀ H₀ ex=>ze) (te:=tC (.int 0)) (hfr:=bE δ)) (pv 0))
     (te:=bT iL (tZ K 1) (ap 0)) (hfr:=bB (zf bQ) δ))))
    (zd (c3 (PW.pt (Ct (zA (Ib a_) (pv 2) (ek zc) (ao _)) (Cs (zA (Ib a_) (pv 7) (ek zc) (ao _))))) (zh (zB mQ)) zT)
    (zh (zB (m5 gs (zg Gk hr rfl mk Fk.kp bk .nil af (za (pv 8) zc)) (zD dW (zv zn rfl B.len dF (za (pv 3) zc)) (zg Gk hr rfl mk Fk.kp bk .nil af (za (zr eM ["row"] [none] (zG (pv 7)) (fun J C s₀ H₀ ex=>zl (i:=0) (ba ["row"]) rfl (Or.inl rfl)) (fun J C s₀ H₀ ex=>zu) (fun J C s₀ H₀ ex=>zY zM rfl B.list mE (za (pv 0) zc)) (te:=kd K) (hfr:=bE δ)) zc))) (ao _)))))),?_⟩
   intro p L S G rs c6 tb I u ub v vb st v4 M v6 H0 hL hT it hS jO rG k6 w6 k3 w3 b1 b2 pp cD;obtain⟨t1,t2,t3⟩:=fU it;obtain⟨x1,x2,x3⟩:=fU rG;refine⟨_,rfl,L,rfl,⟨_,SqL.of hL⟩,fun D hD=>zt (k4 (g:=fun r=>r++An (wid I) 0) (fun o os H' R sm ho hm hR=>?_) (SqL.of hL) hT ω hD fun H1 ds s1 jH ik _ _=>?_)⟩
   ·refine⟨_,rfl,_,rfl,S,c6,I,rfl,SqL.of (sm _ _ hS),jO.same sm,fun H2 s2=>⟨_,rfl,ω,ω,fun Z hZ=>zt (EA ω hZ fun H3 N ic=>?_)⟩⟩
    rw[Bj] at ic;have lo:=t3 os hm;refine⟨o,Z,_,_,rfl,rfl,N _ _ (s2 _ _ ho),ic,zx (by simp;(first|lia|omega)),fun q hq=>?_⟩;rw[<-Ap];exact hR q _ ((s2.trans N).trans (Same.new hq)) (s2.free (N.free hq)) zb
   refine⟨_,rfl,_,rfl,S,rfl,⟨_,SqL.of (s1 _ _ hS)⟩,fun D2 eh=>zt (k4 (g:=fun r=>An (wid tb) 0++r) (fun o os H' R sm ho hm hR=>?_) (SqL.of (s1 _ _ hS)) (jO.same s1) ω eh fun H2 fy s2 ko eD _ _=>?_)⟩
   ·refine⟨_,rfl,L,rs,tb,rfl,SqL.of (sm _ _ (s1 _ _ hL)),(hT.same s1).same sm,fun H2 s2=>⟨_,rfl,ω,ω,fun Z hZ=>zt (EA ω hZ fun H3 N ic=>?_)⟩⟩
    rw[Bj] at ic;have lo:=x3 os hm;refine⟨_,rfl,Z,o,_,_,rfl,rfl,ic,N _ _ (s2 _ _ ho),zx (by simp;(first|lia|omega)),fun q hq=>?_⟩;rw[<-Ap];exact hR q _ ((s2.trans N).trans (Same.new hq)) (s2.free (N.free hq)) zb
   have vH:=ik.len;have rd:=eD.len;rw[Aa] at vH rd;refine⟨D,D2,_,_,rfl,rfl,s2 _ _ jH,ko,zx (by simp;(first|lia|omega)),fun W hW=>?_⟩;rw[<-Ap];have N:=Same.new (o:=.lst ((ds++fy).map V.ref)) hW;have rW:Rws (upd H2 W (.lst ((ds++fy).map V.ref))) (ds++fy) (wid2 tb I (wid tb) (wid I)):=((ik.same s2).same N).app' (eD.same N);have cT:=s1.trans (s2.trans N);generalize hHW:upd H2 W (.lst ((ds++fy).map V.ref))=HW at N rW cT;have eW:HW W=some (.lst ((ds++fy).map V.ref)):=by rw[<-hHW];exact zb
   refine⟨_,rfl,ξ,fun q hq=>Cm (cT _ _ hL) (hT.same cT) hq ⟨_,rfl,?_⟩⟩
   by_cases e:tb=[]
   ·rw[if_neg ξ,decide_eq_true e]
    exact aW (aW (k _))
   rw[if_neg ξ,decide_eq_false e];have s4:=cT.trans (Same.new (o:=.lst []) hq);refine aQ ⟨_,rfl,ξ,fun q2 iF=>Cm (s4 _ _ hS) (jO.same s4) iF ⟨_,rfl,?_⟩⟩
   by_cases e2:I=[]
   ·rw[if_neg ξ,decide_eq_true e2]
    exact aW (k _)
   rw[if_neg ξ,decide_eq_false e2];have s5:=(Same.new (o:=.lst []) hq).trans (Same.new (o:=.lst []) iF);have iH:=cT.trans s5;have pY:=Ny (w1:=wid tb) (w2:=wid I) t3 x3;have dS:=Nz (w1:=wid tb) (w2:=wid I) b1 b2 ξ;have lW:(wid2 tb I (wid tb) (wid I)).length=tb.length+I.length:=by unfold wid2;simp
   have wW:wid (wid2 tb I (wid tb) (wid I))=wid tb+wid I:=mH pY fun z=>by
    rw[lW] at z;have:=List.length_pos_iff.mpr e;(first|lia|omega)
   obtain⟨i1,⟨gN,gn,gm,ok⟩,i3⟩:=mM vC (b:=1000) (fun r hr=>⟨pY r hr,dS r hr⟩) ω (show wid tb+wid I<=9 from ω) ξ;refine aQ ⟨_,rfl,W,ds++fy,_,gN,gn,gm,rfl,s5 _ _ eW,rW.same s5,i1,ok,fun H6 u3 nS v3 qh aU s6 pF=>?_⟩;rw[lW,wW] at pF;have gq:=iH.trans s6;refine⟨_,rfl,G,_,rfl,.inl (SqL.of (gq _ _ cD)),_,rfl,S,rfl,⟨_,SqL.of (gq _ _ hS)⟩,fun D5 eU=>zt (mJ (SqL.of (gq _ _ hS)) (jO.same gq) ω eU fun H7 es s7 iB sW _ _=>?_)⟩;obtain⟨j1,⟨kN,kn,km,vR⟩,j3⟩:=mM g_ (tb:=I) (b:=1000) (fun r hr=>⟨x3 r hr,b2 r hr⟩) ω (show wid I<=6 from ω) ξ;refine⟨D5,es,I,kN,kn,km,rfl,iB,sW,j1,vR,fun H8 u4 Bp xR yC vn s8 u6=>⟨_,_,rfl,rfl,rfl,?_⟩⟩;rw[Aa,kG,decide_eq_true (show(aU.length:Int)=(st.length:Int)+(vn.length:Int) by have:=pp.wide u6 t3 x3 pF;(first|lia|omega))];exact k _
  obtain⟨y8,kA,rf⟩:=T9;have T8:∃Y,PSs (b3 ar P w K mg base eM "law" (zf bQ) f ai A outer s H E).nox (List.drop 8 (zX bQ)) Y/\∀(p L G:Addr)(rs:List Addr)(tb u ub v vb:Ξ)(st:List Int)(v4 M v6:Option V)(H':Hp),
    SqL K H' a (ns.map V.int)->H' L=some (.lst (rs.map V.ref))->Rws H' rs tb->b5 tb=true->tb.length<=6->wid tb<=6->(∀r∈tb,Bnd 1000 r)->Pap tb.length (wid tb) (fn tb) u ub v vb st->H' G=some (.lst (st.map V.int))->
    Y {nx:=fun _ H'=>Q .non H',rt:=Q} [some (.ref a),some (.ref p),some (.ref L),some (.ref G),v4,M,v6,none,none] H':=by
   refine⟨_,zd (zp (i:=7) hE.nd rfl (Or.inr rfl) (zg jq hr3 rfl pP Ftb.kp nW .nil af (za (zg Gb T rfl mb Fb.kp bb .nil af (za (zg Gc T rfl mc Fc.kp bc .nil af (za (pv 0) (za ze zc))) zc)) (za ze zc)))) kA,?_⟩;intro p L G rs tb u ub v vb st v4 M v6 H0 dY hL hT it k6 w6 b1 pp cD;refine⟨_,rfl,a,ns,1,rfl,dY,fun n2=>⟨n2,rfl,fun p2 x2 y2 eL kK=>?_⟩⟩;have jE:zU (upd H0 p2 (.lst [.int x2,.int y2])) p2:=⟨x2,y2,zb,kK⟩;refine⟨p2,3,rfl,ξ,jE,fun L2 H8 c2 m2 om eC T2=>?_⟩;obtain⟨fy,I,mq,oJ,wn,ki,oC,fT,xf,yZ⟩:=T2;have mY:=NA eL mq;have g:=mM g_ fT ω ω ξ;exact rf p L L2 G rs fy tb I u ub v vb st v4 M v6 H8 (mY _ _ hL) (hT.same mY) it wn ki g.1 k6 w6 ω (IU fT om) b1 (fun r hr=>(fT r hr).2) pp (mY _ _ cD)
  obtain⟨xN,nA,pi⟩:=T8;have T7:∃Y,PSs (b3 ar P w K mg base eM "law" (zf bQ) f ai A outer s H E).nox (List.drop 7 (zX bQ)) Y/\∀(p L G:Addr)(rs:List Addr)(tb u ub v vb:Ξ)(st:List Int)(v4 M v6:Option V)(H':Hp),
    zU H' p->(∀X,zJ p H' X->SqL K X a (ns.map V.int))->Tbl H' p L rs tb->b5 tb=true->tb.length<=6->wid tb<=6->(∀r∈tb,Bnd 1000 r)->Pap tb.length (wid tb) (fn tb) u ub v vb st->H' G=some (.lst (st.map V.int))->G≠p->
    Y {nx:=fun _ H'=>Q .non H',rt:=Q} [some (.ref a),some (.ref p),some (.ref L),some (.ref G),v4,M,v6,none,none] H':=by
   refine⟨_,zd (c3 (PW.pt (mX (zA (oR a_) (pv 2) (ek zc) (ao _)) (mU (zA (oR a_) (zg Gs kJ rfl ms Fs.kp bs .nil af (za (zg j9 de rfl w9 Fno.kp rE .nil af (za (pv 1) (za (pv 2) zc))) zc)) (pv 3) (ao _))))) (zh (zB mQ)) zT) nA,?_⟩;intro p L G rs tb u ub v vb st v4 M v6 H0 hb dY tl it k6 w6 b1 pp cD eE;obtain⟨t1,t2,t3⟩:=fU it;refine⟨_,rfl,ξ,fun q hq=>Cm tl.at_ tl.rw hq ⟨_,rfl,?_⟩⟩;have sq:=Same.new (o:=.lst []) hq
   by_cases e:tb=[]
   ·rw[if_pos rfl,decide_eq_true e]
    exact aQ (aQ (pi p L G rs tb u ub v vb st v4 M v6 _ (dY _ (.of sq)) (sq _ _ tl.at_) (tl.rw.same sq) it k6 w6 b1 pp (sq _ _ cD)))
   rw[if_pos rfl,decide_eq_false e];have ip:=tl.same sq;refine aW ⟨_,rfl,_,rfl,p,L,rs,tb,rfl,hb.same sq,ip.at_,ip.rw,it,ip.nL,ip.nr,ω,ω,fun F1 H2 es a1 jh dU cL rj l' kP iU=>?_⟩;have lM:=ip.draw dU;have SB2:zJ p H0 H2:=(zJ.of sq).trans dU;have nw:=Nt (a:=a1) (b:=jh) t3 kP;have nb:=Nu (w:=wid tb) (a:=a1) (b:=jh) b1 ξ;have nl:(nou tb (wid tb) a1 jh).length=tb.length+1:=by unfold nou;rw[n_ (by rw[Aa];exact iU),Aa]
   have nwd:wid (nou tb (wid tb) a1 jh)=wid tb+1:=mH nw fun z=>ω
   obtain⟨i1,⟨gN,gn,gm,ok⟩,i3⟩:=mM vz (b:=1000) (fun r hr=>⟨nw r hr,nb r hr⟩) ω (show wid tb+1<=7 from ω) ξ;refine⟨F1,es,_,gN,gn,gm,rfl,rj,l',i1,ok,fun a2 H3 u2 jA v2 jZ cJ N gH h_ gI=>?_⟩;rw[nl,nwd] at gI;have rX:=pp.nou t3 kP iU gI;subst rX;have tl3:=lM.same N;have lg:zJ p H0 H3:=SB2.trans (.of N);exact⟨_,rfl,IV h_ (lg _ _ eE cD) ⟨_,rfl,aQ ((pi p L G rs tb u ub v vb st v4 M v6 _ (dY _ lg) tl3.at_ tl3.rw it k6 w6 b1 pp (lg _ _ eE cD)))⟩⟩
  obtain⟨A_,kY,sF⟩:=T7;have T6:∃Y,PSs (b3 ar P w K mg base eM "law" (zf bQ) f ai A outer s H E).nox (List.drop 6 (zX bQ)) Y/\∀(p L O G:Addr)(rs aN:List Addr)(tb U u ub v vb:Ξ)(st:List Int)(M:Option V)(H':Hp),
    zU H' p->(∀X,zJ p H' X->SqL K X a (ns.map V.int))->Tbl H' p L rs tb->b5 tb=true->o8 tb->tb.length<=6->wid tb<=6->(∀r∈tb,Bnd 1000 r)->Pap tb.length (wid tb) (fn tb) u ub v vb st->H' G=some (.lst (st.map V.int))->G≠p->
    H' O=some (.lst (aN.map V.ref))->Rws H' aN U->b5 U=true->o8 U->(∀u ub v vb ab,Pap U.length (wid U) (fn U) u ub v vb ab->st=ab)->
    Y {nx:=fun _ H'=>Q .non H',rt:=Q} [some (.ref a),some (.ref p),some (.ref L),some (.ref G),some (.ref O),M,none,none,none] H':=by
   refine⟨_,zd (iD PassesOwn.never rfl (zG (ek (za ze (za ze (za ze zc))))) (zl (i:=6) hE.nd rfl (Or.inl rfl))
    (zh (c3 (zA iJ (zg Gr hr rfl mr Fr.kp br .nil af (za (zr eM ["row"] [none] (zG (pv 4)) (fun J C s₀ H₀ ex=>zl (i:=0) (ba ["row"]) rfl (Or.inl rfl)) (fun J C s₀ H₀ ex=>zu) (fun J C s₀ H₀ ex=>zY zM rfl B.list mE (za (pv 0) zc)) (te:=kd K) (hfr:=bE δ)) (za (pv 6) zc)))
     (zg Gr hr rfl mr Fr.kp br .nil af (za (zr eM ["row"] [none] (zG (pv 2)) (fun J C s₀ H₀ ex=>zl (i:=0) (ba ["row"]) rfl (Or.inl rfl)) (fun J C s₀ H₀ ex=>zu) (fun J C s₀ H₀ ex=>zY zM rfl B.list mE (za (pv 0) zc)) (te:=kd K) (hfr:=bE δ)) (za (pv 6) zc))) (ao _)) (zh (zB mQ)) zT))) kY,?_⟩
   intro p L O G rs aN tb U u ub v vb st M H0 hb dY tl it ⟨gN,gn,gm,ok⟩ k6 w6 b1 pp cD eE hO hR gJ ⟨jN,jn,jm,ok'⟩ hP;obtain⟨t1,t2,t3⟩:=fU it;obtain⟨x1,x2,x3⟩:=fU gJ;refine⟨zx (by simp),fun q hq=>⟨q,rfl,⟨_,SqL.of zb⟩,pK (K:=K) (a:=q) (xs:=[.int 2,.int 3,.int 5]) (fun i σ H2=>∃v6:Option V,σ=[some (.ref a),some (.ref p),some (.ref L),some (.ref G),some (.ref O),M,v6,none,none]/\Same H0 H2/\H2 q=some (.lst [.int 2,.int 3,.int 5]))
    ⟨none,rfl,Same.new hq,zb⟩ (fun i σ H2 _ ⟨_,_,_,e⟩=>SqL.of e) ?_ ?_⟩⟩
   ·rintro i x σ H2 hx ⟨v6,rfl,sm,eq⟩
    obtain⟨pr,rfl,gD⟩:∃pr:Int,x=.int pr/\isP pr=true:=by
     have:=Al hx;simp only[List.mem_cons,List.not_mem_nil,or_false] at this;rcases this with rfl|rfl|rfl
     ·exact⟨2,rfl,δ⟩
     ·exact⟨3,rfl,δ⟩
     ·exact⟨5,rfl,δ⟩
    refine⟨_,rfl,O,rfl,⟨_,SqL.of (sm _ _ hO)⟩,fun D hD=>zt (mJ (SqL.of (sm _ _ hO)) (hR.same sm) ω hD fun H3 es N hD3 hd3 _ _=>?_)⟩;refine⟨_,rfl,D,es,U,jN,jn,jm,pr,rfl,hD3,hd3,gJ,ok',gD,fun H4 u1 uX v1 rm sf s4 jv=>?_⟩;have cQ:=sm.trans (N.trans s4);refine⟨_,rfl,L,rfl,⟨_,SqL.of (cQ _ _ tl.at_)⟩,fun D2 eh=>zt (mJ (SqL.of (cQ _ _ tl.at_)) (tl.rw.same cQ) ω eh fun H5 lI s5 eU nu _ _=>?_)⟩;refine⟨_,rfl,D2,lI,tb,gN,gn,gm,pr,rfl,eU,nu,it,ok,gD,fun H6 u2 jA v2 jZ cJ s6 gI=>?_⟩;have e1:=hP _ _ _ _ _ jv;have e2:=pp.eqv gI .refl .refl;subst e1 e2;refine⟨rfl,_,rfl,?_⟩;rw[decide_eq_true rfl];exact aQ ⟨_,rfl,cQ.trans (s5.trans s6),(N.trans (s4.trans (s5.trans s6))) _ _ eq⟩
   ·rintro σ H2 ⟨v6,rfl,sm,eq⟩
    exact sF p L G rs tb u ub v vb st _ _ _ H2 (hb.same sm) (fun X s=>dY X ((zJ.of sm).trans s)) (tl.same sm) it k6 w6 b1 pp (sm _ _ cD) eE
  obtain⟨yz,lH,xp⟩:=T6;have T5:∃Y,PSs (b3 ar P w K mg base eM "law" (zf bQ) f ai A outer s H E).nox (List.drop 5 (zX bQ)) Y/\∀(p L O G:Addr)(rs aN:List Addr)(tb U u ub v vb:Ξ)(st:List Int)(M:Option V)(H':Hp),
    zU H' p->(∀X,zJ p H' X->SqL K X a (ns.map V.int))->Tbl H' p L rs tb->b5 tb=true->o8 tb->tb.length<=6->wid tb<=6->(∀r∈tb,Bnd 1000 r)->Pap tb.length (wid tb) (fn tb) u ub v vb st->H' G=some (.lst (st.map V.int))->G≠p->
    H' O=some (.lst (aN.map V.ref))->Rws H' aN U->b5 U=true->o8 U->(∀u ub v vb ab,Pap U.length (wid U) (fn U) u ub v vb ab->st=ab)->
    Y {nx:=fun _ H'=>Q .non H',rt:=Q} [some (.ref a),some (.ref p),some (.ref L),some (.ref G),some (.ref O),M,none,none,none] H':=by
   refine⟨_,zd (c3 (zA (oR a_) (zg Gs kJ rfl ms Fs.kp bs .nil af (za (zr eM ["row"] [none] (zG (pv 4)) (fun J C s₀ H₀ ex=>zl (i:=0) (ba ["row"]) rfl (Or.inl rfl)) (fun J C s₀ H₀ ex=>zu) (fun J C s₀ H₀ ex=>zY zM rfl B.list mE (za (pv 0) zc)) (te:=kd K) (hfr:=bE δ)) zc)) (pv 3) (ao _)) (zh (zB mQ)) zT) lH,?_⟩;intro p L O G rs aN tb U u ub v vb st M H0 hb dY tl it ht k6 w6 b1 pp cD eE hO hR gJ ⟨jN,jn,jm,ok'⟩ hP;obtain⟨x1,x2,x3⟩:=fU gJ;refine⟨_,rfl,O,rfl,⟨_,SqL.of hO⟩,fun D hD=>zt (mJ (SqL.of hO) hR ω hD fun H3 es N hD3 hd3 _ _=>?_)⟩;refine⟨D,es,U,jN,jn,jm,rfl,hD3,hd3,gJ,ok',fun a2 H4 u2 jA v2 jZ cJ s4 gH h_ gI=>?_⟩;have e1:=hP _ _ _ _ _ gI;subst e1;have cQ:=N.trans s4;exact⟨_,rfl,IV h_ (cQ _ _ cD) ⟨_,rfl,aQ (xp p L O G rs aN tb U u ub v vb st M H4 (hb.same cQ) (fun X s=>dY X ((zJ.of cQ).trans s)) (tl.same cQ) it ht k6 w6 b1 pp (cQ _ _ cD) eE (cQ _ _ hO) (hR.same cQ) gJ ⟨jN,jn,jm,ok'⟩ hP)⟩⟩
  obtain⟨yO,kB,rJ⟩:=T5;have T4:∃Y,PSs (b3 ar P w K mg base eM "law" (zf bQ) f ai A outer s H E).nox (List.drop 4 (zX bQ)) Y/\∀(p L O G:Addr)(rs aN:List Addr)(tb u ub v vb:Ξ)(st:List Int)(Hb H':Hp),
    zU Hb p->(∀X,zJ p Hb X->SqL K X a (ns.map V.int))->Tbl Hb p L rs tb->b5 tb=true->o8 tb->tb.length<=6->wid tb<=6->(∀r∈tb,Bnd 1000 r)->Pap tb.length (wid tb) (fn tb) u ub v vb st->Hb G=some (.lst (st.map V.int))->G≠p->
    Same Hb H'->Hb O=none->H' O=some (.lst (aN.map V.ref))->Rws H' aN tb->(∀d∈aN,Hb d=none/\d≠O)->
    Y {nx:=fun _ H'=>Q .non H',rt:=Q} [some (.ref a),some (.ref p),some (.ref L),some (.ref G),some (.ref O),none,none,none,none] H':=by
   refine⟨_,zd (iD PassesOwn.never rfl (iA rfl B.range (za (zg Gt T rfl mt Ft.kp bt .nil af (za (pv 1) (za ze zc))) zc)) (zl (i:=5) hE.nd rfl (Or.inl rfl))
    (zh (c3 (PW.pt (mX (zA (oR a_) (pv 4) (ek zc) (ao _)) (mU (zA (oR a_) (zw zq (pv 4) ze (fun _ _=>rfl)) (ek zc) (ao _)))))
     (zd (kw (zg nH de rfl qB Fon.kp qQ .nil af (za (pv 1) (za (pv 4) zc))))
     (zh (c3 (zA gs (zg Gt T rfl mt Ft.kp bt .nil af (za (pv 1) (za ze zc))) ze (ao _)) (zh (zp (i:=4) hE.nd rfl (Or.inl rfl) (zg Go de rfl mo Fo.kp bo .nil af (za (pv 4) zc)))) zT))) zT))) kB,?_⟩
   intro p L O G rs aN tb u ub v vb st Hb H0 hb dY tl it ht k6 w6 b1 pp cD eE pS nV hO hR nr;obtain⟨t1,t2,t3⟩:=fU it;refine⟨_,rfl,p,_,rfl,hb.same pS,ξ,ξ,fun z H1 z0 z1 dj dq=>?_⟩;obtain⟨m,rfl⟩:=Int.eq_ofNat_of_zero_le z0;have S1:zJ p Hb H1:=(zJ.of pS).trans dj;have nO:O≠p:=ei hb nV;have np:∀d∈aN,d≠p:=fun d hd=>ei hb (nr d hd).1;refine⟨_,rfl,ω,ω,?_⟩;refine Js (lo:=0) (n:=m) (fun i σ H2=>∃(M:Option V)(O2:Addr)(c6:List Addr)(I:Ξ)(k2 w2:Nat)(A2:Nat->Tb.Vc),σ=[some (.ref a),some (.ref p),some (.ref L),some (.ref G),some (.ref O2),M,none,none,none]/\zJ p Hb H2/\Hb O2=none/\Trn H2 H2 p O2 k2 w2 A2 (1000*((4 ^ i:Nat):Int)) c6 I/\wid I=w2/\Rel tb.length (wid tb) (fn tb) k2 w2 A2)
    ⟨none,O,aN,tb,tb.length,wid tb,fn tb,rfl,S1,nV,⟨fun _ _ _ _ e=>e,dq,dj _ _ nO hO,hR.sameB dj np,fun d hd=>⟨np d hd,(nr d hd).2⟩,rfl,fun r hr=>⟨t3 r hr,(b1 r hr).mono ξ⟩,.refl,.refl⟩,rfl,.inl ⟨rfl,rfl,rfl⟩⟩ ?_ ?_
   ·rintro i σ H2 hi ⟨M,O2,c6,I,k2,w2,A2,rfl,S2,f2,tr,wd,rl⟩
    have nO2:O2≠p:=ei hb f2;have hk2:k2<=6/\w2<=6:=by rcases rl with ⟨e1,e2,_⟩|⟨e1,e2,_⟩<;>(first|lia|omega)
    have p4:(4 ^ i:Nat)<=4096:=Ae (Ax ξ (show i<=6 from ω)) ξ;have p1:0<(4 ^ i:Nat):=Nat.pow_pos ξ;have e4:(1000*((4 ^ (i+1):Nat):Int))=4*(1000*((4 ^ i:Nat):Int)):=by rw[Nat.pow_succ];(first|lia|omega)
    have l2:=tr.l;refine⟨_,rfl,ξ,fun q hq=>Cm tr.at_ tr.rw hq ⟨_,rfl,?_⟩⟩;have sq:=Same.new (o:=.lst []) hq;have c9:=tr.same nO2 sq;have Sq:=S2.trans (.of sq)
    by_cases e:I=[]
    ·rw[if_pos rfl,decide_eq_true e]
     exact aQ (aQ ⟨_,O2,c6,I,k2,w2,A2,rfl,Sq,f2,⟨fun _ _ _ _ e=>e,c9.bx,c9.at_,c9.rw,c9.nr,c9.l,fun r hr=>⟨(c9.wd r hr).1,(c9.wd r hr).2.mono ω⟩,c9.e1,c9.e2⟩,wd,rl⟩)
    rw[if_pos rfl,decide_eq_false e];have kp:=List.length_pos_iff.mpr e;obtain⟨d,os,ed,eo,hd,lo,yF,_⟩:=c9.row (i:=0) ω;refine aW ⟨_,rfl,O2,_,_,_,rfl,rfl,SqL.of c9.at_,zj (j:=0) (v:=V.ref d) (by rw[Aj,ed];rfl),ξ,fun q2 iF=>NC hd iF ⟨_,rfl,?_⟩⟩;have cH:=Same.new (o:=.lst []) iF;have cr:=c9.same nO2 cH;have qe:=Sq.trans (.of cH)
    by_cases e':os=[]
    ·rw[decide_eq_true e']
     exact aQ ⟨_,O2,c6,I,k2,w2,A2,rfl,qe,f2,⟨fun _ _ _ _ e=>e,cr.bx,cr.at_,cr.rw,cr.nr,cr.l,fun r hr=>⟨(cr.wd r hr).1,(cr.wd r hr).2.mono ω⟩,cr.e1,cr.e2⟩,wd,rl⟩
    rw[decide_eq_false e'];have wp:=List.length_pos_iff.mpr e';have k_:Trn _ _ p O2 k2 w2 A2 (1000*((4 ^ i:Nat):Int)) c6 I:=⟨fun _ _ _ _ e=>e,cr.bx,cr.at_,cr.rw,cr.nr,cr.l,cr.wd,cr.e1,cr.e2⟩;refine aW ⟨_,rfl,_,rfl,p,O2,k2,w2,_,c6,I,A2,rfl,k_,nO2,ω,ω,ω,ω,ω,fun H3 oi jt iZ=>?_⟩;have S3:zJ p Hb H3:=fun b o je eb=>iZ.kp b o je (zk eb f2) (qe b o je eb);have l3:=iZ.l;have jd:wid jt=w2:=mH (fun r hr=>(iZ.wd r hr).1) fun z=>ω
    refine⟨_,rfl,p,_,rfl,iZ.bx,ξ,ξ,fun z2 H4 _ _ bH bP=>⟨rfl,_,rfl,?_⟩⟩;have cI:=iZ.draw nO2 bH bP;have S4:=S3.trans bH;refine dw (fun _=>?_) (fun _=>?_)
    ·have g:=mM hC (b:=4096000*1) (fun r hr=>⟨(cI.wd r hr).1,(cI.wd r hr).2.mono (by rw[<-e4];have:(4 ^ (i+1):Nat)<=4096:=Ae (Ax ξ (show i+1<=6 from ω)) ξ;(first|lia|omega))⟩) ω hk2.2 ξ
     refine⟨_,rfl,O2,oi,jt,rfl,SqL.of cI.at_,cI.rw,g.1,fun H5 s5 D H6 ds s6 hD jk jo y_ n6=>?_⟩;have S5:=S4.trans (.of s5);have S6:=S5.trans (.of s6);have dS:=bP.same s5;have jY:=dS.same s6;have fr:∀d,H5 d=none->Hb d=none:=fun d hd=>S5.free hb dS hd;refine⟨_,D,ds,turn jt,w2,k2,fun i j=>A2 j i,rfl,S6,fr D hD,⟨fun _ _ _ _ e=>e,jY,jk,jo,fun d hd=>⟨ei dS (n6 d hd).1,(n6 d hd).2⟩,by rw[En];exact jd,fun r hr=>⟨by rw[Ip r hr];exact l3,by rw[e4];exact NB (fun r hr=>(cI.wd r hr).2) ω r hr⟩,?_,?_⟩,mH (fun r hr=>by rw[Ip r hr];exact l3) fun z=>by rw[En] at z;(first|lia|omega),rl.tr⟩
     ·exact cI.e1.tr.congr (fun s t hs ht=>IT ω) (fun _ _ _ _=>rfl)
     ·exact cI.e2.tr.congr (fun _ _ _ _=>rfl) (fun s t hs ht=>(IT ω).symm)
    ·exact⟨_,O2,oi,jt,k2,w2,A2,rfl,S4,f2,⟨fun _ _ _ _ e=>e,cI.bx,cI.at_,cI.rw,cI.nr,cI.l,fun r hr=>by rw[e4];exact cI.wd r hr,cI.e1,cI.e2⟩,jd,rl⟩
   ·rintro σ H2 ⟨M,O2,c6,I,k2,w2,A2,rfl,S2,f2,tr,wd,rl⟩
    have hk2:k2<=6/\w2<=6:=by rcases rl with ⟨e1,e2,_⟩|⟨e1,e2,_⟩<;>(first|lia|omega)
    have l2:=tr.l;have p4:(4 ^ m:Nat)<=4096:=Ae (Ax ξ (show m<=6 from ω)) ξ;have g:=mM hC (b:=4096000*1) (fun r hr=>⟨(tr.wd r hr).1,(tr.wd r hr).2.mono ω⟩) ω hk2.2 ξ;refine rJ p L O2 G rs c6 tb I u ub v vb st _ H2 tr.bx (fun X s=>dY X (S2.trans s)) (tl.draw S2) it ht k6 w6 b1 pp (S2 _ _ eE cD) eE tr.at_ tr.rw g.1 g.2.1 (fun u1 uX v1 rm sf jv=>?_);rw[l2,wd] at jv;exact pp.rel rl jv tr.e1 tr.e2
  obtain⟨xz,kf,qM⟩:=T4;refine⟨_,zd (zp (i:=1) hE.nd rfl (Or.inl rfl) (zg Gb T rfl mb Fb.kp bb .nil af (za (zg Gc T rfl mc Fc.kp bc .nil af (za (pv 0) (za ze zc))) zc)))
   (zd (zp (i:=2) hE.nd rfl (Or.inr rfl) (zg jq hr3 rfl pP Ftb.kp nW .nil af (za (pv 1) (za (zw zq (ek (za ze (za ze (za ze (za ze (za ze (za ze (za ze (za ze zc))))))))) (zg Gt T rfl mt Ft.kp bt .nil af (za (pv 1) (za ze zc))) (fun _ _=>rfl)) zc))))
   (zd (zp (i:=3) hE.nd rfl (Or.inl rfl) (zg Gs kJ rfl ms Fs.kp bs .nil af (za (zr eM ["row"] [none] (zG (pv 2)) (fun J C s₀ H₀ ex=>zl (i:=0) (ba ["row"]) rfl (Or.inl rfl)) (fun J C s₀ H₀ ex=>zu) (fun J C s₀ H₀ ex=>zY zM rfl B.list mE (za (pv 0) zc)) (te:=kd K) (hfr:=bE δ)) zc)))
   (zd (kS (i:=4) hE.nd rfl (Or.inl rfl) eM ["row"] [none] (zG (pv 2)) (fun J C s₀ H₀ ex=>zl (i:=0) (ba ["row"]) rfl (Or.inl rfl)) (fun J C s₀ H₀ ex=>zu) (fun J C s₀ H₀ ex=>zY zM rfl B.list mE (za (pv 0) zc)) (te:=kd K) (hfr:=bE δ)) kf))),?_⟩
  refine⟨_,rfl,a,ns,0,rfl,hs,fun n1=>⟨n1,rfl,fun p x y hp sQ=>?_⟩⟩;have dq:zU (upd H p (.lst [.int x,.int y])) p:=⟨x,y,zb,sQ⟩;refine⟨_,rfl,zx (by simp),fun q hq=>⟨_,rfl,p,_,rfl,dq.new hq,ξ,ξ,fun z H1 z0 z1 dj cL=>?_⟩⟩;have t_:zJ p (upd H p (.lst [.int x,.int y])) (upd (upd H p (.lst [.int x,.int y])) q (.lst [.int 4,.int 4,.int 4,.int 4,.int 4,.int 4,.int 4,.int 6])):=.of (Same.new hq);obtain⟨g,eg,g6⟩:∃g:Nat,atI [V.int 4,.int 4,.int 4,.int 4,.int 4,.int 4,.int 4,.int 6] z=some (.int g)/\g<=6:=by
   have:z=0\/z=1\/z=2\/z=3\/z=4\/z=5\/z=6\/z=7:=ω
   rcases this with rfl|rfl|rfl|rfl|rfl|rfl|rfl|rfl
   all_goals first|exact⟨4,rfl,ξ⟩|exact⟨6,rfl,ξ⟩
  have hpq:q≠p:=ei dq hq;refine⟨q,_,_,_,rfl,rfl,SqL.of (dj _ _ hpq zb),eg,p,g,rfl,g6,cL,fun L H2 c n hc eA T1=>?_⟩;obtain⟨ds,tb,dU,hb3,hF,cX,hl,gD,wg,h0⟩:=T1;have qy:L≠p:=ei cL h0;have dp:∀d∈ds,d≠p:=fun d hd=>ei cL (wg d hd).1;have tk:=mM g_ gD ω ω ξ;obtain⟨i1,⟨gN,gn,gm,i2⟩,i3⟩:=tk;have SB2:zJ p (upd H p (.lst [.int x,.int y])) H2:=t_.trans (dj.trans dU);refine⟨_,rfl,L,rfl,⟨_,SqL.of hF⟩,fun D hD=>zt (mJ (SqL.of hF) cX ω hD fun H3 es N hD3 hd3 _ _=>?_)⟩;refine⟨D,es,tb,gN,gn,gm,rfl,hD3,hd3,i1,i2,fun G H4 u ub v vb st s4 jz cD pp=>?_⟩;have jw:=N.trans s4;have bP:=hb3.same jw;have ni:=hb3.same N;have tl:Tbl H4 p L ds tb:=⟨jw _ _ hF,cX.same jw,qy,dp⟩;have SB4:zJ p (upd H p (.lst [.int x,.int y])) H4:=SB2.trans (.of jw);refine⟨_,rfl,L,rfl,⟨_,SqL.of tl.at_⟩,fun O hO=>zt (mJ (SqL.of tl.at_) tl.rw ω hO fun H5 lI s5 vS nu _ n5=>?_)⟩;exact qM p L O G ds lI tb u ub v vb st H4 H5 bP (fun X s=>SqL.far hs hp (SB4.trans s)) tl i1 ⟨gN,gn,gm,i2⟩ ω (IU gD ω) (fun r hr=>(gD r hr).2) pp cD (ei ni jz) s5 hO vS nu n5
end
end K28
end
section
namespace L2
open PySem PySem.Spec PyProof.Rows
section
variable{P:Program}{w:World}{K:Ah}{mg:Str->Option Value}{base:Heap}{CX:eY}{k:Nat}{f:Addr}{fd:FuncData}{x:Str}{st:Stmt}{ps:List Str}{sp sq:Sp}
structure Df(K:Ah)(x:Str)(st:Stmt)(f:Addr):Prop where
 ex:∃fd,Fun K x x st f fd
 a:PySem.W.nsIn K mainGlobals x=some (some (.ref f))
def EC{i:Value}{j g:Option Addr}{h:Array (Option Value)}{kV d e b ct:Value}(a:PySem.W.nsIn K mainGlobals x=some (some (.ref f)))(l:K.lookup f=some ⟨i,j,.func (PySem.W.fnOf x x (zbQ st) (zX st) (zf st) .none kV d e g b ct),h⟩)(c:PySem.W.codeIn K b x=true)(k:PySem.W.keepIn K (.ref f)=true):Df K x st f:=⟨⟨_,J1 l c k⟩,a⟩
structure Nn(K:Ah)(x:Str)(v:Option Value):Prop where
 e:PySem.W.nsIn K mainGlobals x=some v
abbrev BA(x:Str)(st:Stmt)(us:List Value)(r:List (Str×Value)):Prop:=∀(kV bj pm:Value)(an:Option Addr)(ai ct:Value),bindArgs (PySem.W.fnOf x x (zbQ st) (zX st) (zf st) .none kV bj pm an ai ct) ⟨us,[]⟩=pure r
variable{h:Heap}(X:K.In h)(G:h.Ns mainGlobals mg)
include X G
theorem Nn.m{v:Value}(n:Nn K x (some v)):mg x=some v:=PySem.W.mg_of X G n.e
theorem Nn.n(n:Nn K x none):mg x=none:=PySem.W.mg_none_of X G n.e
theorem Df.m(D:Df K x st f):mg x=some (.ref f):=PySem.W.mg_of X G D.a
theorem Df.g1(D:Df K x st f)(p:Str)(hb:∀a,BA x st [a] [(p,a)]:=by exact fun _ _ _ _ _ _ _=>rfl):∃fd,Fun K x x st f fd/\Binds K fd [p] []/\mg x=some (.ref f):=by
 obtain⟨⟨fd,F⟩,a⟩:=D;refine⟨fd,F,F.binds fun _ _ _ _ _ _ us b=>?_,PySem.W.mg_of X G a⟩
 match us,b with
 |[a],_=>exact hb a _ _ _ _ _ _
theorem Df.g2(D:Df K x st f)(p q:Str)(hb:∀a b,BA x st [a,b] [(p,a),(q,b)]:=by exact fun _ _ _ _ _ _ _ _=>rfl):∃fd,Fun K x x st f fd/\Binds K fd [p,q] []/\mg x=some (.ref f):=by
 obtain⟨⟨fd,F⟩,a⟩:=D;refine⟨fd,F,F.binds fun _ _ _ _ _ _ us c=>?_,PySem.W.mg_of X G a⟩
 match us,c with
 |[a,b],_=>exact hb a b _ _ _ _ _ _
theorem Df.g3(D:Df K x st f)(p q r:Str)(hb:∀a b c,BA x st [a,b,c] [(p,a),(q,b),(r,c)]:=by exact fun _ _ _ _ _ _ _ _ _=>rfl):∃fd,Fun K x x st f fd/\Binds K fd [p,q,r] []/\mg x=some (.ref f):=by
 obtain⟨⟨fd,F⟩,a⟩:=D;refine⟨fd,F,F.binds fun _ _ _ _ _ _ us d=>?_,PySem.W.mg_of X G a⟩
 match us,d with
 |[a,b,c],_=>exact hb a b c _ _ _ _ _ _
theorem Df.g4(D:Df K x st f)(p q r s:Str)(hb:∀a b c d,BA x st [a,b,c,d] [(p,a),(q,b),(r,c),(s,d)]:=by exact fun _ _ _ _ _ _ _ _ _ _=>rfl):∃fd,Fun K x x st f fd/\Binds K fd [p,q,r,s] []/\mg x=some (.ref f):=by
 obtain⟨⟨fd,F⟩,a⟩:=D;refine⟨fd,F,F.binds fun _ _ _ _ _ _ us e=>?_,PySem.W.mg_of X G a⟩
 match us,e with
 |[a,b,c,d],_=>exact hb a b c d _ _ _ _ _ _
omit X G
end
end L2
end
section
namespace K28
open PySem L2
def NE{l:PySem.W.OpenLaw}{w:World}{K:Ah}{h:Heap}{mg:Str->Option Value}{fa f1 f2 f3 f4 f5 f6 f7 f8 f9 rY ui uk qu t8 vV xh xi vi vM w_ qD vG vd qN qP qt qY sO tU u_ wk tY sn uB xr rC re ue wA tG :Addr}{tr tc tp:Tok}(X:K.In h)(G:h.Ns mainGlobals mg)(vh:mg "law"=some (.ref fa))(d1:Df K "is_table" qH f1)(d2:Df K "width_of" kT f2)(d3:Df K "must_be_table" qO f3)(d4:Df K "columns_of" q_ f4)(d5:Df K "columns_to" nD f5)(d6:Df K "column_of" gz f6)(d7:Df K "stepped" B7 f7)(d8:Df K "are_steps" BJ f8)(d9:Df K "on_slope" tM f9)(fI:Df K "slope_row" tI rY)(uq:Df K "steps_of" oS ui)(qJ:Df K "rank" B8 uk)(uH:Df K "paper_of" BZ qu)(wq:Df K "is_in_steps" BL t8)(ud:Df K "unit" BI vV)(sL:Df K "is_on_slope" ur xh)(sx:Df K "slope_of" uu xi)(sj:Df K "straightened" dE vi)(uG:Df K "echelon_of" i8 vM)(vf:Df K "take_in" BH w_)(uv:Df K "reduced" iR qD)(uS:Df K "less" jW vG)(tD:Df K "first_place" Br vd)(q8:Df K "divisor_pair" ry qN)(vK:Df K "mix_of_two" ro qP)(wD:Df K "mix_of" i9 qt)(t6:Df K "shares_of" iS qY)(qA:Df K "slid" BK sO)(wO:Df K "rank_by" vu tU)(vg:Df K "is_prime" vv u_)(wZ:Df K "_law_cell_at" B' wk)(ua:Df K "_law_box" ji tY)(vP:Df K "_law_take" kb sn)(qv:Df K "_law_row" g0 uB)(wc:Df K "_law_table" jp xr)(rR:Df K "_law_wide" oW rC)(uU:Df K "_law_over" vt re)(uy:Df K "_law_once" hA ue)(sD:Df K "_law_with_noughts" Cj wA)(qa:Df K "law" bQ tG)(gr:Nn K "MOST_ROWS" (some (.int 40 tr)))(gc:Nn K "MOST_COLUMNS" (some (.int 40 tc)))(gp:Nn K "LAST_PRIME" (some (.int 100 tp)))(z1:Nn K "len" none)(z2:Nn K "all" none)(z3:Nn K "zip" none)(z4:Nn K "sum" none)(z5:Nn K "range" none)(z6:Nn K "list" none)(z7:Nn K "int" none)(z8:Nn K "bool" none)(z9:Nn K "isinstance" none)(xu:Nn K "max" none)(rB:Nn K "sorted" none)(sy:Nn K "tuple" none)(uz:Nn K "enumerate" none)(ul:Nn K "min" none):∃fd:FuncData,(∀(s:Shared)(v:Value),BindsTo s fd ⟨[v],[]⟩ [("script",v)])/\∀base:Heap,K.In base->base.Ns mainGlobals mg->am l.prog w K mg base ar 10 fa fd ["script"] (Cn K):=by
 cases vh.symm.trans (qa.m X G);have B:jl mg:=⟨z1.n X G,z2.n X G,z3.n X G,z4.n X G,z5.n X G,z6.n X G,z7.n X G,z8.n X G,z9.n X G,xu.n X G⟩;obtain⟨g1,F1,b1,m1⟩:=d1.g1 X G "table";obtain⟨g2,e,f,m2⟩:=d2.g1 X G "table";obtain⟨g3,E,I,J⟩:=d3.g1 X G "table";obtain⟨g4,F,L,M⟩:=d4.g1 X G "table";obtain⟨g5,H,N,O⟩:=d5.g2 X G "table" "width";obtain⟨g6,F6,b6,m6⟩:=d6.g2 X G "table" "k";obtain⟨g7,F7,b7,m7⟩:=d7.g1 X G "table";obtain⟨g8,F8,b8,m8⟩:=d8.g2 X G "steps" "most";obtain⟨g9,F9,b9,m9⟩:=d9.g3 X G "numbers" "size" "width";obtain⟨yH,q,Q,S⟩:=fI.g3 X G "numbers" "k" "width";obtain⟨Bm,g,r,u⟩:=uq.g1 X G "table";obtain⟨y6,T,wF,um⟩:=qJ.g1 X G "table";obtain⟨ye,U,wL,qV⟩:=uH.g2 X G "table" "width";obtain⟨yM,Y,sV,vD⟩:=wq.g1 X G "table";obtain⟨yi,Z,xm,v9⟩:=ud.g1 X G "size";obtain⟨xF,x,oh,oz⟩:=sL.g1 X G "table";obtain⟨yA,y,pM,nX⟩:=sx.g1 X G "table";obtain⟨y3,nQ,qK,tE⟩:=sj.g2 X G "side" "width";obtain⟨yQ,qi,sY,xg⟩:=uG.g1 X G "rows";obtain⟨x6,ou,sE,vA⟩:=vf.g2 X G "found" "row";obtain⟨y4,nR,sM,wG⟩:=uv.g3 X G "row" "found" "places";obtain⟨xO,a,i,j⟩:=uS.g3 X G "row" "often" "other";obtain⟨yd,og,ve,wx⟩:=tD.g1 X G "row";obtain⟨yk,pD,uw,v_⟩:=q8.g2 X G "one" "other";obtain⟨yp,pE,va,uh⟩:=vK.g4 X G "often" "row" "other_often" "other";obtain⟨yc,oE,wK,wm⟩:=wD.g2 X G "numbers" "rows";obtain⟨yf,pq,q9,tN⟩:=t6.g2 X G "row" "found";obtain⟨xx,pz,tX,uf⟩:=qA.g2 X G "side" "count";obtain⟨yE,pZ,wj,rA⟩:=wO.g2 X G "table" "prime";obtain⟨yD,pf,vI,r9⟩:=vg.g1 X G "number";obtain⟨xH,we,ut,wP⟩:=wZ.g2 X G "script" "k";obtain⟨xZ,sI,wI,rH⟩:=ua.g1 X G "cell";obtain⟨yg,b,c,d⟩:=vP.g2 X G "box" "most";obtain⟨yh,pG,xt,uo⟩:=qv.g3 X G "box" "columns" "wide";obtain⟨yt,nP,uL,u7⟩:=wc.g2 X G "box" "most";obtain⟨yX,o,z,A⟩:=rR.g1 X G "table";obtain⟨yY,p5,vW,vB⟩:=uU.g1 X G "table";obtain⟨yJ,pb,vT,wM⟩:=uy.g2 X G "box" "table";obtain⟨yj,pk,rL,wY⟩:=sD.g2 X G "box" "table";obtain⟨⟨gL,FL⟩,_⟩:=qa;refine⟨gL,?_,fun base _ _=>?_⟩
 ·obtain⟨_,_,_,_,_,_,_,_,_,rfl,_,_⟩:=FL.ex;exact fun s v=>.of_eq rfl
 have C:=rB.n X G;have rS:=sy.n X G;have oP:=uz.n X G;have yP:=ul.n X G;have nr:=gr.m X G;have nc:=gc.m X G;have Gw:=Dd (P:=l.prog) (w:=w) (mg:=mg) (base:=base) e B.len;have Gi:=KD (P:=l.prog) (w:=w) (mg:=mg) (base:=base) F1 B.len B.all nr nc e f m2;have Gm:=MK E F1 b1 m1 Gi;have pX:=KJ (P:=l.prog) (w:=w) (mg:=mg) (base:=base) H B.range F6 b6 m6;have Gc:=KM F B.len H N O pX e f m2;have p:=KR (P:=l.prog) (w:=w) (mg:=mg) (base:=base) a B.zip;have uY:=KU (P:=l.prog) (w:=w) (mg:=mg) (base:=base) pE B.zip;have vo:=KY (P:=l.prog) (w:=w) (mg:=mg) (base:=base) og;have qZ:=K2 (P:=l.prog) (w:=w) (mg:=mg) (base:=base) pD B.zip rS;have vE:=K9 nR a i j p;have rQ:=K_ pq C a i j p;have uN:=LC ou C B.range B.len nR sM wG vE og ve wx vo pD uw v_ qZ pE va uh uY;have rg:=LD qi ou sE vA uN;have tS:=LJ oE B.zip e f m2 Gw a i j p;have nK:=LN (P:=l.prog) (w:=w) (mg:=mg) (base:=base) q B.len;have tJ:=LP F9 B.range q Q S nK;have Gu:=LU Z F9 b9 m9 tJ;have wH:=LZ (P:=l.prog) (w:=w) (mg:=mg) (base:=base) F8 B.len B.all B.zip;have wf:=L3 nQ B.zip C qi sY xg rg F L M Gc oE wK wm tS pq q9 tN rQ;have rP:=L7 pz B.range B.list a i j p;have oI:=L_ x B.all oP B.len q Q S nK;have oN:=Ma (P:=l.prog) (w:=w) (mg:=mg) (base:=base) y oP B.len;have tL:=Md Y B.len x oh oz oI y pM nX oN F8 b8 m8 wH;have uM:=Mz U B.len nQ qK tE wf Z xm v9 Gu H N O pX F L M Gc Y sV vD tL x oh oz oI y pM nX oN pz tX uf rP;have uc:=MM F7 E I J Gm U wL qV uM e f m2 Gw;have D:=MO g F7 b7 m7 uc;have u5:=MQ T B.len g r u D;have xC:=Iw (P:=l.prog) (w:=w) (mg:=mg) (base:=base) pG B b c d;have jq:=MX (P:=l.prog) (w:=w) (mg:=mg) (base:=base) nP B b c d pG xt uo;have oV:=IA (P:=l.prog) (w:=w) (mg:=mg) (base:=base) o B;have uW:=Nk (P:=l.prog) (w:=w) (mg:=mg) (base:=base) pf B.all B.range (gp.m X G);have qL:=Nm pZ B.len E I J Gm pf vI r9 uW g r u D;have xo:=Nh (P:=l.prog) (w:=w) (mg:=mg) (base:=base) p5 B o z A;have nH:=Np (P:=l.prog) (w:=w) (mg:=mg) (base:=base) pb B b c d;have j9:=Nv pk B b c d o z A oV;exact ND FL B we ut wP sI wI rH b c d nP uL u7 jq o z A oV g r u D T wF um u5 pZ wj rA qL p5 vW vB xo pb vT wM nH pk rL wY j9
def walk{l:PySem.W.OpenLaw}{q:Program}{g:List Str}{p:(Str->Option Value)->Heap->Prop}{b:World->Heap->Prop}{d:DefRec}{K:Params->Ah}(i:l.most=some 63)(j:d.params.defaults=[])(o:∀(w:World)(h:Heap),b w h->(K w.params).In h)(F:∀(w:World)(mg:Str->Option Value)(fa:Addr)(h:Heap),(K w.params).In h->h.Ns mainGlobals mg->mg d.name=some (.ref fa)->
   ∃fd:FuncData,(∀(s:Shared)(u:Value),BindsTo s fd ⟨[u],[]⟩ [("script",u)])/\∀base:Heap,(K w.params).In base->base.Ns mainGlobals mg->am l.prog w (K w.params) mg base ar 10 fa fd ["script"] (Cn (K w.params))):
  PySem.W.WalkO q g p b l.row.toRowW d [] (fun f vs=>PySem.call f vs):=
 L2.Fj (n:=63) (k:=10) (x:="script") (CX:=fun _=>ar) (sp:=fun w=>Cn (K w.params)) i ξ j ⟨rfl,ξ,ξ⟩ o F (fun _ _ a ns c _ e=>⟨a,ns,rfl,e,c,fun _=>rfl⟩) fun _ _ _ _ _ z=>z
end K28
open PySem PySem.W PyProof.Rows
structure PySem.W.Fast:Prop where
 (tw10318400879639427111 tw10345813281883505855 tw10391179111846081178 tw10484833317777054096 tw10531377654522802403 tw10541198804987142883 tw10560494669676731766 tw10813047507356002428 tw10949710382981305221 tw11039275987547648123 tw11062224035804071212 tw11085546257691742100 tw11123425140042911355 tw11138183826089349652 tw11424587692042385832 tw11485192402369088749 tw11668270746062318786 tw11975927961837574905 tw12025972596093386213 tw12037689873204093436 tw12083899081267014169 tw12100775438571799623 tw1226396301084427914 tw12488998430042136290 tw12635826012960800970 tw12708634039058546671 tw12726081699308884099 tw12776127020129899874 tw12849376522429227155 tw12892286213959275039 tw1292655929260621931 tw13081187401838606087 tw13156095947514227581 tw13336362209017181884 tw13387302733613742120 tw13476429596568935984 tw13488400893620698300 tw13651091406082426946 tw13699245144530140924 tw13723106674648011115 tw13762072406763063871 tw13768009870878947054 tw13770729738706264514 tw13787416071971582113 tw13849877329078725749 tw13963668488210741996 tw13964720148609565186 tw13992982386298311202 tw14224976816964397652 tw14225953148870414207 tw1422976634018971838 tw14323054459538008922 tw14325752553037754279 tw14420224110083553066 tw14513415707894223219 tw145156548933827136 tw14673875367862443753 tw14786446949253098900 tw1484661606388915283 tw14869114202885626686 tw14891727039443858278 tw14966828832085597228 tw15049515812104269191 tw15086190534508405085 tw15117752595561030007 tw15185189158256087941 tw15233646970658469264 tw15246079393832509467 tw15269403539175868077 tw15352966293519823028 tw15585371617384753046 tw15753505944176795176 tw15777488439839131533 tw1580785240117646487 tw15943056812204035457 tw16016567863154177611 tw16106829648099270400 tw16187975578297418257 tw16304101484164646931 tw1631002525602587629 tw16346299895484802410 tw16567057915511995179 tw16619099732615738941 tw166805258265802627 tw16710614515297808320 tw16724615549601310163 tw16888095214030781097 tw17003221523687508153 tw17066443580650986383 tw17125548764865184847 tw17144308211542197179 tw17247525023507524877 tw1724896269287331937 tw17280429309467906359 tw17330182694688062645 tw17386136013945016925 tw17410339336306043939 tw17426132458730990837 tw17446081380691986113 tw17544554885636234164 tw17581708101049385759 tw1769660131025798070 tw1782966171219948075 tw17867947410375773816 tw17917718347588698498 tw17960340014400959426 tw18004092123759797872 tw18076686798961432491 tw18102104847330669180 tw18235097525846229324 tw18340445674217357993 tw18351264870129574906 tw18372547028280463855 tw18420591549379650625 tw1871849862434419377 tw1939018066758870035 tw1942262358728447607 tw195779971390347041 tw2017986841582604390 tw2019024972190087778 tw2023258347891205659 tw202400519096389948 tw2070119123207867 tw2078625873948631224 tw2159718284497973556 tw2198055904975177163 tw2211141966151403106 tw2323053166057603710 tw264366308820041397 tw2654888495684840673 tw2659108245169746006 tw2743221912439813511 tw2749703865314288506 tw2812736065024377461 tw2886500573707437400 tw2895178981581749652 tw2945054293430995108 tw2955378012027228092 tw3036899881305342582 tw3138744948224780399 tw3209182119496524231 tw3403263299979290141 tw3462109666177392288 tw3467826552896106991 tw3526476264383041633 tw3559299798147249907 tw3571932014251790508 tw3603309278462348690 tw3669318836643096875 tw3685252551720416400 tw378075898669497190 tw3790828421138925302 tw3847466908005434820 tw3866302288878130318 tw3892433978812011268 tw3970235309696834679 tw4006649689219127620 tw4063650176696989558 tw4116189297142738825 tw4189758436446438457 tw4220539204511652919 tw4326910721763635516 tw4463449905207304663 tw4474973401363050713 tw4480256401984352434 tw4515967946272507847 tw4544406362790775189 tw4614887471774613675 tw465129956179191287 tw4655770162432908068 tw4793992427195027574 tw4848283034760457768 tw485008107345318216 tw4863810046137888996 tw4968575828878948072 tw5007045796488474083 tw5017278036430702410 tw5116119696916811520 tw5180404601499816435 tw5298806142276726358 tw5451016000962637720 tw5467456965053300832 tw54870533339099127 tw5502377996856073649 tw5602228795679583128 tw5808589803845504178 tw5809576916145842549 tw5959607860721714607 tw6043755365917762362 tw6068619694897359260 tw6115650466786026516 tw6155986666599423416 tw6162851559765369123 tw6291090935850593175 tw6296178538276072761 tw6320843967443419420 tw6328904127419144209 tw6347941193190985117 tw6419455993506927712 tw643416845777136368 tw6467629555971783743 tw6514723978792945158 tw6517843680461922829 tw656729720838788705 tw6580308672846825290 tw6799878358240575396 tw6862260472778495070 tw6905678532984106952 tw70675551582688183 tw7089156780751614970 tw7104422760966680935 tw7216353500741960348 tw7255069526634587425 tw7435746506143326010 tw749107318630028018 tw7543796750415629238 tw7550115525815677210 tw7662762687292363018 tw7833083306477542503 tw8056250964235025002 tw8162855543553483904 tw8194396768117239997 tw8214012655459524094 tw8236678019245718048 tw8332390461432640889 tw8404651000555798828 tw8506953105617744658 tw852910745480287687 tw8561242763233877 tw8607588152868818684 tw864382773559200163 tw865518584874629759 tw8675266689122606081 tw8687993271248960310 tw872675363614441784 tw8752646319666830090 tw8805893684055956109 tw8916938261353840985 tw8939666273239396542 tw8967157361742941562 tw8979962504292404023 tw9023764107283852073 tw9044799008073962833 tw9099542910515881957 tw9099953142995907498 tw9111402849294782213 tw9129273092694210165 tw9140244625505548324 tw9183200757247499715 tw9218014177789710095 tw923159576143361534 tw9327600674736352496 tw940929088650435069 tw9437912084050227074 tw9468689478643530947 tw949912634640362476 tw9536966392024967019 tw9591536760758299507 tw9660272992544970721 tw9690656877263858455 tw9692442505651319496 tw9750952417486112627 tw9892871515560457340 tw997179133808621596 tw9985851318870594546:True)
set_option maxRecDepth 100000 in
set_option maxHeartbeats 0 in
theorem PySem.Challenge.cw_seamwright_k28_whole_steps_stay_holds : PySem.Challenge.rw_seamwright_k28_whole_steps_stay.Holds := by
 w_on; o_law; k_head; (case hw=>w_witness2)
 k_fill
 refine K28.walk (l:=PySem.Challenge.rw_seamwright_k28_whole_steps_stay) rfl rfl (fun w h Y=>PySem.W.kIn_of Y) ?F
 case F=>
  intro w mg fa h KX G fS;refine' K28.NE KX G fS ?_ ?_ ?_ ?_ ?_ ?_ ?_ ?_ ?_ ?_ ?_ ?_ ?_ ?_ ?_ ?_ ?_ ?_ ?_ ?_ ?_ ?_ ?_ ?_ ?_ ?_ ?_ ?_ ?_ ?_ ?_ ?_ ?_ ?_ ?_ ?_ ?_ ?_ ?_ ?_ ?_ ?_ ?_ ?_ ?_ ?_ ?_ ?_ ?_ ?_ ?_ ?_ ?_ ?_ ?_ ?_ ?_
  all_goals try first | refine' L2.EC ?_ ?_ ?_ ?_ | refine' L2.Nn.mk ?_
  all_goals try first | k_is | kit_is | k_exc
#print axioms PySem.Challenge.cw_seamwright_k28_whole_steps_stay_holds
end
