import PyProof.Rows.All
import Wide.All
import OpenK.AllK
import Wide.FinOn
import Lean
import PyProof.EqAt
import PyProof.EqKinds
import PyProof.TupleCall
import PyProof.StationsW
import PyProof.ExcClass3
import OpenK.KOwn
import PyProof.ExcArgsOwn
import KE.KListMore
import KE.KIntText
import KE.KEqDat
import PyProof.MinMaxWalk
import PyProof.SumAny
import PyProof.Rows.SortRuns
import KE.KSortKey
import PyProof.Rows.CallKwBuiltin
import PySem.SetTable
import PyProof.Rows.SetFrom
import PyProof.TupleKey
import PyProof.IsRules
import KE.KRevIter
import PyProof.ListRange
import PyProof.TupleOfGen
import PyProof.CollectIter
import PySem.Challenge.RW_seamwright_k26_whole_leaves
import PyProof.FactsAll.set_2
import PyProof.FactsAll.subtypes_5
import KE.KDictList
import KE.KDictSum
import KE.KDictLaws
import PyProof.Rows.Range3
import KE.KStateDown
open List renaming getElem?_eq_getElem->Aa,length_map->Ab,getD_eq_getElem?_getD->Ac,range->Af,getElem?_map->Aj,mem_of_getElem?->Am,getElem_mem->Ao,replicate->Ar,take_of_length_le->Av,map_append->Aw,mem_append_right->Ax,zipWith->AA,length_zipWith->AE,size_toArray->AG,getElem?_range->AH,mem_cons_self->AI,eq_nil_of_length_eq_zero->AK,length_cons->AL,mem_cons_of_mem->AM,getElem_of_mem->AN,map_map->AT,length_range->AU,mem_append_left->AV,getElem_map->AW,ext_getElem->AZ,getElem_zipWith->A0,length_append->A6,getElem_range->A9,map_congr_left->Ba,map_cons->Bb,all_eq_true->Be,pairwise_cons->Bg,lookup_cons->Bm
open Nat renaming le_refl->Ad,le_trans->Ae,mul_le_mul_right->Ak,mul_le_mul_left->Al,zero_le->Ap,lt_of_le_of_lt->At,lt_of_lt_of_le->Ay,ne_of_lt->Az,pow_le_pow_right->AC,one_le_two_pow->AF,mul_assoc->AQ,mul_le_mul->AR,le_add_right->A7,pow_le_pow_left->Bh,lt_trichotomy->Bj,lt_or_ge->Bk
open PySem renaming wpAny_bind->Ag,wpAny_pure->Aq,bootBuiltins->A8
open PySem.W renaming Frag->Ah
open PySem.Heap renaming get?_push_of_some->Ai,lt_size->Au,get?_push_size->AO
open Int renaming natAbs_mul->AB,mul_assoc->AS,mul_zero->AX,mul_comm->A5,mul_add->Bi
open Classical renaming byContradiction->AD
open Bool renaming false_ne_true->AJ
open Option.some renaming inj->AY
open PySem.PassesOwn renaming never->A4
open PySem.NameKind renaming free->Bo
open PyProof.Rows renaming take_snoc->Bp
set_option linter.all false
set_option Elab.async false
set_option maxRecDepth 100000
set_option maxHeartbeats 4000000
def δ{p:Prop}(h:p:=by decide +kernel):p:=h
def ω{p:Prop}(h:p:=by (first|lia|omega)):p:=h
def ξ{p:Prop}(h:p:=by decide):p:=h
abbrev Ω:=PySem.Value->PySem.Shared->Prop
abbrev Ξ:=List (List Int)
abbrev Ψ:=List (PySem.Addr×PySem.Obj)
local macro_rules|`($s⁻¹)=>`(($s).heap.objs.size)
section
namespace L2
open PySem PySem.Spec PyProof.Rows
abbrev Key:=Sum Int Str
def pP:Key->Value->Bool
 |.inl k,v=>Value.isInt k v
 |.inr x,v=>Value.isStrOf x v
def Fh(w:World):Key->Int
 |.inl k=>hashInt k
 |.inr x=>hashStr w x
def aL:∀{k:Key}{v:Value},pP k v=true->(∃i t,k=Sum.inl i/\v=Value.int i t)\/(∃x t,k=Sum.inr x/\v=Value.str x t)
 |.inl i,v,h=>by
  obtain⟨t,e⟩:=Value.isInt_shape (k:=i) (v:=v) h;exact .inl ⟨i,t,rfl,e⟩
 |.inr x,v,h=>by
  obtain⟨t,e⟩:=Value.isStrOf_shape (x:=x) (v:=v) h;exact .inr ⟨x,t,rfl,e⟩
def L8(i:Int)(t:Tok):pP (.inl i) (.int i t)=true:=by simp[pP,Value.isInt]
def L9(x:Str)(t:Tok):pP (.inr x) (.str x t)=true:=by simp[pP,Value.isStrOf]
def L_(a b:Int):decide ((Sum.inl a:Key)=Sum.inl b)=(a==b):=by
 by_cases e:a=b
 ·subst e;simp
 ·have h:¬(Sum.inl a:Key)=Sum.inl b:=fun q=>e (Sum.inl.inj q)
  rw[decide_eq_false h];exact(beq_eq_false_iff_ne.mpr e).symm
def L'(a b:Str):decide ((Sum.inr a:Key)=Sum.inr b)=decide (a=b):=by
 by_cases e:a=b
 ·subst e;simp
 ·have h:¬(Sum.inr a:Key)=Sum.inr b:=fun q=>e (Sum.inr.inj q)
  rw[decide_eq_false h,decide_eq_false e]
def Ma(a:Int)(b:Str):decide ((Sum.inl a:Key)=Sum.inr b)=false:=decide_eq_false (fun q=>nomatch q)
def Mb(a:Str)(b:Int):decide ((Sum.inr a:Key)=Sum.inl b)=false:=decide_eq_false (fun q=>nomatch q)
def eP(prog:Program)(w:World):PySem.KeyKind prog w Key where
 is:=pP
 hash:=Fh w
 inj:=fun v a b c hb=>by
  rcases aL c with ⟨i,t,rfl,rfl⟩|⟨x,t,rfl,rfl⟩
  ·rcases aL hb with ⟨j,u,rfl,e⟩|⟨y,u,rfl,e⟩
   ·injection e with e1 _;rw[e1]
   ·exact nomatch e
  ·rcases aL hb with ⟨j,u,rfl,e⟩|⟨y,u,rfl,e⟩
   ·exact nomatch e
   ·injection e with e1 _;rw[e1]
 byValue:=fun k v h=>by
  rcases aL h with ⟨i,t,rfl,rfl⟩|⟨x,t,rfl,rfl⟩<;>rfl
 pyHash:=fun hv h=>by
  rcases aL hv with ⟨i,t,rfl,rfl⟩|⟨x,t,rfl,rfl⟩
  ·exact wpAny_pyHash_int h
  ·exact wpAny_pyHash_str h
 eqBool:=fun d hv h=>by
  rcases aL d with ⟨i,t,rfl,rfl⟩|⟨x,t,rfl,rfl⟩
  ·rcases aL hv with ⟨j,u,rfl,rfl⟩|⟨y,u,rfl,rfl⟩
   ·rw[L_] at h;exact wpAny_eqBool_int h
   ·rw[Ma] at h;exact SeqAt.EqAt.int_str i t y u _ _ _ _ h
  ·rcases aL hv with ⟨j,u,rfl,rfl⟩|⟨y,u,rfl,rfl⟩
   ·rw[Mb] at h;exact SeqAt.EqAt.str_int x t j u _ _ _ _ h
   ·rw[L'] at h;exact wpAny_eqBool_str h
 «strs»:=fun k x t v h=>by
  rcases aL h with ⟨i,u,rfl,e⟩|⟨y,u,rfl,e⟩
  ·exact nomatch e
  ·injection e with e1 _
   subst e1;cases v<;>rfl
def Mc(prog:Program)(w:World)(i:Int)(t:Tok):(eP prog w).is (.inl i) (.int i t)=true:=L8 i t
def Md(prog:Program)(w:World)(x:Str)(t:Tok):(eP prog w).is (.inr x) (.str x t)=true:=L9 x t
inductive V where
 |non|bl (b:Bool)|int (i:Int)|str (x:Str)|byt (b:Array UInt8)|flt (b:UInt64)|ref (a:Addr)|ty (n:String)
 deriving DecidableEq
def RelV:V->Value->Prop
 |.non,u=>u=Value.none
 |.bl b,u=>u=Value.bool b
 |.int i,u=>∃t,u=Value.int i t
 |.str x,u=>∃t,u=Value.str x t
 |.byt b,u=>∃t,u=Value.bytes b t
 |.flt b,u=>∃t,u=Value.float b t
 |.ref a,u=>u=Value.ref a
 |.ty n,u=>u=Value.type n
abbrev Vals:List V->List Value->Prop:=Paired RelV
def Vals.length{xs:List V}{us:List Value}(r:Vals xs us):xs.length=us.length:=Paired.length r
def Vals.get:∀{xs:List V}{us:List Value}{i:Nat}{x:V},Vals xs us->xs[i]?=some x->∃u,us[i]?=some u/\RelV x u
 |_,_,_,_,.nil,e=>by simp at e
 |_,_,0,_,.cons r _,e=>by simp at e;subst e;exact⟨_,rfl,r⟩
 |_,_,i+1,x,.cons _ t,e=>by
  obtain⟨u,h1,h2⟩:=Vals.get (i:=i) (x:=x) t (by simpa using e);exact⟨u,by simpa using h1,h2⟩
def Vals.set{x:V}{u:Value}(r:RelV x u):∀{xs:List V}{us:List Value}(i:Nat),Vals xs us->Vals (xs.set i x) (us.set i u)
 |_,_,_,.nil=>.nil
 |_,_,0,.cons _ t=>.cons r t
 |_,_,i+1,.cons q t=>.cons q (Vals.set r i t)
def Vals.append{xs ys:List V}{us ws:List Value}(h:Vals xs us)(g:Vals ys ws):Vals (xs++ys) (us++ws):=by
 induction h with
 |nil=>exact g
 |cons r _ ih=>exact .cons r ih
def Vals.take:∀{xs:List V}{us:List Value}(n:Nat),Vals xs us->Vals (xs.take n) (us.take n)
 |_,_,0,_=>.nil
 |_,_,_+1,.nil=>.nil
 |_,_,n+1,.cons r t=>.cons r (Vals.take n t)
def Vals.drop:∀{xs:List V}{us:List Value}(n:Nat),Vals xs us->Vals (xs.drop n) (us.drop n)
 |_,_,0,r=>r
 |_,_,_+1,.nil=>.nil
 |_,_,n+1,.cons _ t=>Vals.drop n t
def RelO:Option V->Option Value->Prop
 |some v,some u=>RelV v u
 |none,none=>True
 |_,_=>False
def KV{κ:Type}:List (κ×V)->List (κ×Value)->Prop:=Paired fun(p:κ×V)(q:κ×Value)=>p.1=q.1/\RelV p.2 q.2
def kV:Key->V
 |.inl i=>.int i
 |.inr x=>.str x
inductive HO where
 |lst (xs:List V)
 |tup (xs:List V)
 |dK (kvs:List (Key×V))|dT (kvs:List (List Key×V))
 |set (S:Int->Bool) (n:Nat)
 |ins (C dx:Addr) (fs:List (Str×V))
 |own (x:Addr)
 |xd (fs:List (Str×V))
 |met (f x:Addr)
 |rng (lo hi:Int)
 |frz (o:Obj) (u:HO)
 |tbl (ps:Array Value)
 |ext (φ:Heap->Prop)
abbrev Hp:=Addr->Option HO
def upd(H:Hp)(a:Addr)(o:HO):Hp:=fun b=>if b=a then some o else H b
def af{H:Hp}{a:Addr}{o:HO}:upd H a o a=some o:=by unfold upd;rw[if_pos rfl]
def am{H:Hp}{a b:Addr}{o:HO}(h:b≠a):upd H a o b=H b:=by unfold upd;rw[if_neg h]
def Fj{H:Hp}{a b:Addr}{o u:HO}(h:H a=some o)(h':H b=some u)(d:o≠u):a≠b:=by
 intro e;subst e;rw[h] at h';exact d (AY h')
def zl{H:Hp}{a b:Addr}{o:HO}(h:H a=some o)(h':H b=none):a≠b:=by
 intro e;subst e;rw[h] at h';cases h'
section
variable(P:Program)(w:World)
def zak(H:Hp)(h:Heap)(a:Addr):HO->Prop
 |.lst xs=>xs.length<=sizeLine/\∃(b:List Value)(n:Nat),Vals xs b/\h.get? a=some {cls:=.type "list",data:=.seq b.toArray n}
 |.tup xs=>xs.length<=sizeLine/\∃b:List Value,Vals xs b/\IsTup h a b.toArray
 |.dK kvs=>kvs.length<=sizeLine/\(a==sysModules)=false/\∃vs,KV kvs vs/\h.DictOf (eP P w) a vs
 |.dT kvs=>kvs.length<=sizeLine/\(a==sysModules)=false/\∃xs:List (List Key×Addr×Value),
   Paired (fun(p:List Key×V)(q:List Key×Addr×Value)=>p.1=q.1/\H q.2.1=some (.tup (p.1.map kV))/\RelV p.2 q.2.2) kvs xs/\
   ∃o es ep,h.get? a=some o/\o.ExactDict/\o.data=.dict es ep/\es.toList=xs.map (entryOfKey (tupleKind (eP P w)))/\(xs.map (·.1)).Nodup
 |.set S n=>h.SetOf (intKind P w) a S n
 |.ins C dx fs=>H dx=some (.own a)/\fs.length<=1000/\dx≠a/\h.get? a=some (PySem.W.instObj C dx)/\
   ∃mA,h.Ns1 dx mA/\(∀f,RelO (fs.lookup f) (mA f))/\PySem.Within mA (fs.map (·.1))
 |.own _=>∃o,h.get? a=some o
 |.xd fs=>∃mA,h.Ns1 a mA/\∀f,RelO (fs.lookup f) (mA f)
 |.rng lo hi=>∃t u v,h.get? a=some {cls:=.type "range",data:=.fields #[.int lo t,.int hi u,.int 1 v]}
 |.frz o u=>h.get? a=some o/\zak H h a u
 |.tbl ps=>h.get? a=some {cls:=.none,data:=.fields ps}
 |.met f x=>h.get? a=some (PySem.W.methodObj (.ref f) (.ref x))
 |.ext φ=>φ h/\(∃o,h.get? a=some o)/\∀h1 h2:Heap,φ h1->(∀o,h1.get? a=some o->h2.get? a=some o)->φ h2
def HOk(H:Hp)(h:Heap):Prop:=∀a o,H a=some o->zak P w H h a o
end
section
variable{P:Program}{w:World}{H H':Hp}{h h':Heap}{a:Addr}{o:HO}
def zak.lt(x:zak P w H h a o):a<h.objs.size:=by
 cases o with
 |lst xs=>obtain⟨_,_,_,_,e⟩:=x;exact Au e
 |tup xs=>obtain⟨_,_,_,p⟩:=x;exact p.lt
 |dK kvs=>obtain⟨_,_,_,_,o,_,_,e,_⟩:=x;exact Au e
 |dT kvs=>obtain⟨_,_,_,_,o,_,_,e,_⟩:=x;exact Au e
 |set S n=>obtain⟨o,_,_,_,e,_⟩:=x;exact Au e
 |ins C dx fs=>obtain⟨_,_,_,e,_⟩:=x;exact Au e
 |own y=>obtain⟨_,e⟩:=x;exact Au e
 |xd fs=>obtain⟨_,⟨_,_,_,e,_⟩,_⟩:=x;exact Au e
 |rng lo hi=>obtain⟨_,_,_,e⟩:=x;exact Au e
 |frz ob u=>obtain⟨e,_⟩:=x;exact Au e
 |tbl ps=>exact Au (show h.get? a=some _ from x)
 |met f y=>exact Au (show h.get? a=some _ from x)
 |ext φ=>obtain⟨_,⟨_,e⟩,_⟩:=x;exact Au e
def Paired.mapP{c d:Type}{F G:c->d->Prop}{e:List c}{l₂:List d}(h:Paired F e l₂)(f:∀a b,F a b->G a b):Paired G e l₂:=by
 induction h with
 |nil=>exact .nil
 |cons r _ ih=>exact .cons (f _ _ r) ih
def zak.stay(x:zak P w H h a o)(k:∀b u,(b=a\/H b=some (.own a))->h.get? b=some u->h'.get? b=some u)(l:∀b,H b=some (.own a)->H' b=some (.own a))(s:∀b xs,H b=some (.tup xs)->H' b=some (.tup xs)):zak P w H' h' a o:=by
 induction o with
 |lst xs=>obtain⟨z,i,n,r,e⟩:=x;exact⟨z,i,n,r,k _ _ (.inl rfl) e⟩
 |tup xs=>obtain⟨z,i,r,g,e,c⟩:=x;exact⟨z,i,r,g,k _ _ (.inl rfl) e,c⟩
 |dK kvs=>obtain⟨z,y,vs,r,g,es,ep,e,c⟩:=x;exact⟨z,y,vs,r,g,es,ep,k _ _ (.inl rfl) e,c⟩
 |dT kvs=>
  obtain⟨z,y,xs,r,g,es,ep,e,c⟩:=x;exact⟨z,y,xs,Paired.mapP r fun p q z=>⟨z.1,s _ _ z.2.1,z.2.2⟩,g,es,ep,k _ _ (.inl rfl) e,c⟩
 |set S n=>obtain⟨g,es,ep,t,e,c⟩:=x;exact⟨g,es,ep,t,k _ _ (.inl rfl) e,c⟩
 |ins C dx fs=>
  obtain⟨d,z,ne,e,mA,⟨j,es,ep,e2,c⟩,r⟩:=x;exact⟨l _ d,z,ne,k _ _ (.inl rfl) e,mA,⟨j,es,ep,k _ _ (.inr d) e2,c⟩,r⟩
 |own y=>obtain⟨g,e⟩:=x;exact⟨g,k _ _ (.inl rfl) e⟩
 |xd fs=>obtain⟨mA,⟨j,es,ep,e,c⟩,r⟩:=x;exact⟨mA,⟨j,es,ep,k _ _ (.inl rfl) e,c⟩,r⟩
 |rng lo hi=>obtain⟨t,u,v,e⟩:=x;exact⟨t,u,v,k _ _ (.inl rfl) e⟩
 |frz g u ih=>obtain⟨e,q⟩:=x;exact⟨k _ _ (.inl rfl) e,ih q⟩
 |tbl ps=>
  have e:h.get? a=some {cls:=.none,data:=.fields ps}:=x;show h'.get? a=some {cls:=.none,data:=.fields ps};exact k a _ (.inl rfl) e
 |met f y=>
  have e:h.get? a=some (PySem.W.methodObj (.ref f) (.ref y)):=x;show h'.get? a=some (PySem.W.methodObj (.ref f) (.ref y));exact k a _ (.inl rfl) e
 |ext φ=>obtain⟨p,⟨o,e⟩,st⟩:=x;exact⟨st _ _ p fun o q=>k _ _ (.inl rfl) q,⟨o,k _ _ (.inl rfl) e⟩,st⟩
def HOk.lt(x:HOk P w H h)(e:H a=some o):a<h.objs.size:=(x a o e).lt
def HOk.fresh(x:HOk P w H h)(e:h.objs.size<=a):H a=none:=by
 cases q:H a with
 |none=>rfl
 |some u=>exact absurd (Ay (x.lt q) e) (Nat.lt_irrefl _)
def HOk.kept(x:HOk P w H h)(k:∀b u,h.get? b=some u->h'.get? b=some u):HOk P w H h':=fun a o e=>
 (x a o e).stay (fun b u _ q=>k b u q) (fun _ q=>q) fun _ _ q=>q
def HOk.laid(x:HOk P w H h)(k:∀b u,h.get? b=some u->h'.get? b=some u)(hp:h.objs.size<=a)(new:zak P w (upd H a o) h' a o):HOk P w (upd H a o) h':=fun b u e=>by
 have d:=x.fresh hp
 by_cases hb:b=a
 ·subst hb;rw[af] at e;cases e;exact new
 ·rw[am hb] at e
  exact(x b u e).stay (fun c v _ q=>k c v q) (fun c q=>by rw[am (zl q d)];exact q) fun c xs q=>by rw[am (zl q d)];exact q
end
def Rd(H:Hp)(a:Addr)(u:HO):Prop:=H a=some u\/∃o,H a=some (.frz o u)
def Rd.of{H:Hp}{a:Addr}{u:HO}(h:H a=some u):Rd H a u:=.inl h
def Rd.ok{P:Program}{w:World}{H:Hp}{h:Heap}{a:Addr}{u:HO}(r:Rd H a u)(x:HOk P w H h):zak P w H h a u:=by
 rcases r with r|⟨o,r⟩
 ·exact x a u r
 ·obtain⟨_,q⟩:=x a _ r
  exact q
def ug:Option HO->Prop
 |some (.lst _)=>True
 |some (.dK _)=>True
 |some (.dT _)=>True
 |some (.set _ _)=>True
 |some (.ins _ _ _)=>True
 |some (.ext _)=>True
 |_=>False
section
variable{P:Program}{w:World}{H:Hp}{h h':Heap}{x e:Addr}{o':HO}
def HOk.write(ok:HOk P w H h)(mu:ug (H x))(g:e=x\/H e=some (.own x))(k:∀b u,b≠e->h.get? b=some u->h'.get? b=some u)(j:∃u,h'.get? e=some u)(new:zak P w (upd H x o') h' x o'):HOk P w (upd H x o') h':=fun b u q=>by
 have d:∀c y,H c=some (.own y)->c≠x:=fun c y r z=>by subst z;rw[r] at mu;exact mu
 have f:∀c xs,H c=some (.tup xs)->c≠x:=fun c xs r z=>by subst z;rw[r] at mu;exact mu
 by_cases hb:b=x
 ·subst hb;rw[af] at q;cases q;exact new
 ·rw[am hb] at q
  by_cases a:b=e
  ·have i:H b=some (.own x):=by
    rcases g with z|z
    ·exact absurd (a.trans z) hb
    ·rw[a];exact z
   rw[q] at i;cases i;obtain⟨v,hv⟩:=j;exact⟨v,by rw[a];exact hv⟩
  ·refine(ok b u q).stay (fun c v hc r=>k c v ?_ r) (fun c r=>by rw[am (d c b r)];exact r) fun c xs r=>by rw[am (f c xs r)];exact r
   rcases hc with rfl|hc
   ·exact a
   ·rintro rfl
    rcases g with z|z
    ·exact d c b hc z
    ·rw[hc] at z;cases z;exact hb rfl
end
structure Un(fs ex:List Addr)(H H':Hp)(h h':Heap):Prop where
 keep:∀b o,h.get? b=some o->H b=none->b∉fs->b∉ex->h'.get? b=some o
 slot:∀b o,h.get? b=some o->H b=none->b∈fs->b∉ex->∃sl,h'.get? b=some {o with slots:=sl}
 free:∀b o,h.get? b=some o->H b=none->b∉ex->H' b=none
 there:∀b o,h.get? b=some o->b∉ex->∃o',h'.get? b=some o'
 tups:∀b xs,H b=some (.tup xs)->H' b=some (.tup xs)
 frzs:∀b o u,H b=some (.frz o u)->H' b=some (.frz o u)
 tbls:∀b ps,H b=some (.tbl ps)->∃more,H' b=some (.tbl (ps++more))
section
variable{fs vt ex Dd:List Addr}{H H1 H2:Hp}{h h1 h2 h':Heap}{a x e:Addr}{o:HO}
def Un.any(u:Un fs ex H H1 h h1){b:Addr}{a:Obj}(q:h.get? b=some a)(n:H b=none)(hx:b∉ex):∃c,h1.get? b=some {a with slots:=c}:=by
 by_cases hb:b∈fs
 ·exact u.slot b a q n hb hx
 ·exact⟨a.slots,u.keep b a q n hb hx⟩
def Un.kept(k:∀b u,h.get? b=some u->h'.get? b=some u):Un fs ex H H h h':=
 ⟨fun b a q _ _ _=>k b a q,fun b a q _ _ _=>⟨a.slots,k b a q⟩,fun _ _ _ n _=>n,fun b a q _=>⟨a,k b a q⟩,fun _ _ q=>q,fun _ _ _ q=>q,fun _ ps q=>⟨#[],by rw[q];simp⟩⟩
def Un.refl:Un fs ex H H h h:=Un.kept fun _ _ q=>q
def Un.laid(k:∀b u,h.get? b=some u->h'.get? b=some u)(hp:h.objs.size<=a)(c:H a=none):Un fs ex H (upd H a o) h h' where
 keep:=fun b u q _ _ _=>k b u q
 slot:=fun b u q _ _ _=>⟨u.slots,k b u q⟩
 free:=fun b u q n _=>by rw[am (Az (Ay (Au q) hp))];exact n
 there:=fun b u q _=>⟨u,k b u q⟩
 tups:=fun b xs q=>by rw[am (zl q c)];exact q
 frzs:=fun b u xs q=>by rw[am (zl q c)];exact q
 tbls:=fun b ps q=>⟨#[],by rw[am (zl q c),q];simp⟩
def Un.write(mu:ug (H x))(d:e=x\/H e=some (.own x))(k:∀b u,b≠e->h.get? b=some u->h'.get? b=some u)(f:∃u,h'.get? e=some u):Un fs ex H (upd H x o) h h':=by
 have hx:∀b,H b=none->b≠x:=fun b n z=>by subst z;rw[n] at mu;exact mu
 have hb:∀b,H b=none->b≠e:=fun b n z=>by
  subst z;rcases d with r|r
  ·exact hx b n r
  ·rw[n] at r;cases r
 have c:∀b u,H b=some u->¬ug (some u)->b≠x:=fun b u q nm z=>by subst z;rw[q] at mu;exact nm mu
 refine⟨fun b u q n _ _=>k b u (hb b n) q,fun b u q n _ _=>⟨u.slots,k b u (hb b n) q⟩,fun b u q n _=>by rw[am (hx b n)];exact n,fun b u q _=>?_,
  fun b xs q=>by rw[am (c b _ q fun z=>z)];exact q,fun b u xs q=>by rw[am (c b _ q fun z=>z)];exact q,fun b ps q=>⟨#[],by rw[am (c b _ q fun z=>z),q];simp⟩⟩
 by_cases a:b=e
 ·subst a;exact f
 ·exact⟨u,k b u a q⟩
end
def Dz(h:Heap)(H:Hp):List Addr:=(Af h.objs.size).filter fun a=>(H a).isSome
def dN(h:Heap)(H:Hp):Heap:=PySem.W.hideAll h (Dz h H)
def Me(h:Heap)(H:Hp):(dN h H).objs.size=h.objs.size:=PySem.W.hideAll_size _ _
def Mf{h:Heap}{H:Hp}{b:Addr}{o:Obj}(e:h.get? b=some o)(n:H b=none):(dN h H).get? b=some o:=
 PySem.W.hideAll_get _ e fun a=>by
  have q:(H b).isSome=true:=(List.mem_filter.mp a).2;rw[n] at q;simp at q
def Mg{h:Heap}{H:Hp}{b:Addr}{o:Obj}(e:(dN h H).get? b=some o):h.get? b=some o/\H b=none:=by
 have a:h.get? b=some o:=PySem.W.of_hideAll (Dz h H) e;refine⟨a,?_⟩;cases q:H b with
 |none=>rfl
 |some x=>
  have c:b∈Dz h H:=List.mem_filter.mpr ⟨List.mem_range.mpr (Au a),by simp[q]⟩;have z:(dN h H).get? b=none:=PySem.W.hideAll_none (Dz h H) c;rw[z] at e;cases e
structure Mod(K:Ah)(mg:Str->Option Value)(base:Heap):Prop where
 kin:K.In base
 glob:base.Ns mainGlobals mg
 blt:∃mb,base.Ns builtinsNs mb/\∀x:Str,x≠"__name__"->mb x=A8 x
 nolimit:base.NoLimit
structure Cx where
 prog:Program
 w:World
 K:Ah
 mg:Str->Option Value
 base:Heap
 A:Around
 N:List Str
 s₀:Shared
 H₀:Hp
 env:Env
 outer:List Env
 stack:List Env
 ex:List Addr
 fn:Str->Bool
 calm:Bool
 pn:Ψ
 xe:Ω
def frs(l:List Env):List Addr:=l.filterMap (·.frame)
abbrev Cx.fs(X:Cx):List Addr:=frs X.outer
def DA(sc:Scope)(x:Str):Prop:=sc.names.lookup x=some .local\/sc.names.lookup x=some .cell\/sc.names.lookup x=some .free
def Loc(sc:Scope)(x:Str):Prop:=sc.names.lookup x=some .local\/sc.names.lookup x=some .cell
def Look(env:Env)(h:Heap)(m:Str->Option Value)(x:Str)(u:Value):Prop:=
 (env.kindOf x=some .local/\m x=some u)\/((env.kindOf x=some .cell\/env.kindOf x=some .free)/\∃c,env.cells.lookup x=some c/\h.IsCell c (some u))
structure Cx.Ok(X:Cx):Prop where
 mod:Mod X.K X.mg X.base
 kind:X.env.scope.kind=.function
 glob:X.env.globals=mainGlobals
 blt:X.env.builtins=builtinsNs
 above:X.s₀⁻¹<=X.env.locals
 inj:∀x y c,X.env.cells.lookup x=some c->X.env.cells.lookup y=some c->x=y
 has:∀x,(X.env.kindOf x=some .cell\/X.env.kindOf x=some .free)->∃c,X.env.cells.lookup x=some c
 cab:∀x c,X.fn x=true->X.env.cells.lookup x=some c->X.s₀⁻¹<=c
 hd:X.calm=true->X.A.handled=none
 frames:X.A.frames=some X.stack
 stk:X.stack=X.outer\/(X.stack=X.env::X.outer/\X.env.frame=some X.env.locals)
 exf:∀b∈X.ex,b≠X.env.locals/\∀x c,X.env.cells.lookup x=some c->c≠b
 bs:∀b o,X.base.get? b=some o->X.s₀.heap.get? b=some o/\X.H₀ b=none
 bsz:X.base.objs.size<=X.s₀⁻¹
 noex:∀b o,X.base.get? b=some o->b∉X.ex
 exfs:∀b∈X.ex,b∉X.fs
 funs:X.s₀.heap.FunFrames X.base X.outer
 frf:∀b∈X.fs,X.H₀ b=none
structure Inv(X:Cx)(aa:Ψ)(σ:List (Option V))(H:Hp)(s:Shared):Prop where
 ok:X.Ok
 os:s.os=X.s₀.os
 bare:AllBare s.gens
 base:Un X.fs X.ex X.H₀ H X.s₀.heap s.heap
 loc:∃m,s.heap.Ns X.env.locals m/\∀(i:Nat)(x:Str)(v:V),X.N[i]?=some x->σ[i]?=some (some v)->DA X.env.scope x->∃u,RelV v u/\Look X.env s.heap m x u
 cell:∀x c,X.env.cells.lookup x=some c->∃v,s.heap.IsCell c v
 free:H X.env.locals=none
 freeC:∀x c,X.env.cells.lookup x=some c->H c=none
 pin:∀p∈X.pn++aa,s.heap.get? p.1=some p.2/\H p.1=none/\p.1≠X.env.locals/\p.1∉X.fs/\∀v,p.2.data≠.cell v
 hok:HOk X.prog X.w H s.heap
 len:σ.length=X.N.length
section
variable{X:Cx}{aa:Ψ}{σ:List (Option V)}{H H':Hp}{s:Shared}{h':Heap}
def Cx.Ok.nofr(ok:X.Ok){b:Addr}{o:Obj}(e:X.base.get? b=some o):b∉X.fs:=fun hb=>by
 have:=(ok.funs.mem hb).1;rw[e] at this;cases this
def Inv.bs(I:Inv X aa σ H s):∀b o,X.base.get? b=some o->s.heap.get? b=some o/\H b=none:=fun b o e=>
 ⟨I.base.keep b o (I.ok.bs b o e).1 (I.ok.bs b o e).2 (I.ok.nofr e) (I.ok.noex b o e),I.base.free b o (I.ok.bs b o e).1 (I.ok.bs b o e).2 (I.ok.noex b o e)⟩
def Inv.bk(I:Inv X aa σ H s):∀b o,X.base.get? b=some o->s.heap.get? b=some o:=fun b o e=>(I.bs b o e).1
def Inv.mod(I:Inv X aa σ H s):Mod X.K X.mg X.base:=I.ok.mod
def Inv.kIn(I:Inv X aa σ H s):X.K.In s.heap:=I.ok.mod.kin.keeps I.bk
def Inv.nolimit(I:Inv X aa σ H s):s.heap.NoLimit:=I.ok.mod.nolimit.keeps I.bk
def Inv.lt(I:Inv X aa σ H s):X.env.locals<s⁻¹:=let ⟨_,hn,_⟩:=I.loc;hn.lt
def Inv.sz(I:Inv X aa σ H s):X.s₀⁻¹<=s⁻¹:=Ae I.ok.above (Nat.le_of_lt I.lt)
def Inv.nofs(I:Inv X aa σ H s){a:Addr}(h:s⁻¹<=a):a∉X.fs:=fun hb=>by
 obtain⟨_,o,b,_⟩:=I.ok.funs.mem hb;exact absurd (Ay (Au b) (Ae I.sz h)) (Nat.lt_irrefl _)
def Inv.cne(I:Inv X aa σ H s):∀x c,X.env.cells.lookup x=some c->c≠X.env.locals:=fun x c e z=>by
 obtain⟨v,o,b,hd⟩:=I.cell x c e;obtain⟨m,⟨o',es,ep,d,a,_⟩,_⟩:=I.loc;rw[z,d] at b;cases b;rw[a] at hd;cases hd
def Inv.funs(I:Inv X aa σ H s):s.heap.FunFrames X.base X.outer:=by
 have all:∀(l:List Env),(∀b∈frs l,b∈X.fs)->X.s₀.heap.FunFrames X.base l->s.heap.FunFrames X.base l:=by
  intro l
  induction l with
  |nil=>intro _ _;trivial
  |cons env r ih=>
   intro d f;obtain⟨hk,⟨L,o,a,g,h,hd⟩,hr⟩:=f;have c:L∈X.fs:=d L (by unfold frs;rw[List.filterMap_cons,a];exact AI);obtain⟨i,e⟩:=I.base.slot L o h (I.ok.frf L c) c fun z=>I.ok.exfs L z c;exact⟨hk,⟨L,_,a,g,e,hd⟩,ih (fun b hb=>d b (by unfold frs;rw[List.filterMap_cons,a];exact AM _ hb)) hr⟩
 exact all X.outer (fun _ hb=>hb) I.ok.funs
def Inv.stack(I:Inv X aa σ H s):s.heap.FunFrames X.base X.stack:=by
 rcases I.ok.stk with e|⟨e,a⟩
 ·rw[e];exact I.funs
 ·rw[e]
  obtain⟨m,b,_⟩:=I.loc;refine .cons (by rw[I.ok.kind];decide) a b ?_ I.funs;exact Heap.get?_none_of_le (Ae I.ok.bsz I.ok.above)
def Inv.stkSub(I:Inv X aa σ H s):∀b∈frs X.stack,b∈X.env.locals::X.fs:=fun b hb=>by
 rcases I.ok.stk with e|⟨e,a⟩
 ·rw[e] at hb;exact AM _ hb
 ·rw[e] at hb
  unfold frs at hb;rw[List.filterMap_cons,a] at hb;exact hb
def Inv.stkFree(I:Inv X aa σ H s):∀b∈frs X.stack,H b=none:=fun b hb=>by
 rcases List.mem_cons.mp (I.stkSub b hb) with e|hb
 ·rw[e];exact I.free
 ·obtain⟨_,o,a,_⟩:=I.ok.funs.mem hb
  exact I.base.free b o a (I.ok.frf b hb) fun z=>I.ok.exfs b z hb
def Inv.step{g':Array GenState}{t':Nat}{d':Drawn}{ch:List Addr}(I:Inv X aa σ H s)(h:∀b∈ch,(b∈X.ex\/X.s₀⁻¹<=b)/\b≠X.env.locals/\(∀x c,X.env.cells.lookup x=some c->c≠b)/\∀p∈X.pn++aa,p.1≠b)(keep:∀b o,b≠X.env.locals->b∉X.fs->b∉ch->s.heap.get? b=some o->H b=none->h'.get? b=some o)(slot:∀b o,b≠X.env.locals->b∈X.fs->b∉ch->s.heap.get? b=some o->H b=none->∃A,h'.get? b=some {o with slots:=A})(free:∀b o,b∉ch->s.heap.get? b=some o->H b=none->H' b=none)(there:∀b o,b∉ch->s.heap.get? b=some o->∃o',h'.get? b=some o')(tups:∀b xs,H b=some (.tup xs)->H' b=some (.tup xs))(frzs:∀b o u,H b=some (.frz o u)->H' b=some (.frz o u))(tbls:∀b ps,H b=some (.tbl ps)->∃more,H' b=some (.tbl (ps++more)))(ns:∀m,s.heap.Ns X.env.locals m->h'.Ns X.env.locals m)(C:HOk X.prog X.w H' h')(hg:AllBare g'):Inv X aa σ H' {s with heap:=h',gens:=g',drawn:=d',toks:=t'}:=by
 have j:∀b o,X.s₀.heap.get? b=some o->b≠X.env.locals:=fun b o e=>Az (Ay (Au e) I.ok.above);have y:∀b o,X.s₀.heap.get? b=some o->b∉X.ex->b∉ch:=fun b o e hx hb=>by
  rcases(h b hb).1 with z|z
  ·exact hx z
  ·exact absurd (Ay (Au e) z) (Nat.lt_irrefl _)
 have a:∀x c,X.env.cells.lookup x=some c->∀v,s.heap.IsCell c v->h'.IsCell c v:=fun x c e v ⟨o,g,hd⟩=>by
  have f:c∉ch:=fun z=>(h c z).2.2.1 x c e rfl
  by_cases hc:c∈X.fs
  ·obtain⟨A,q⟩:=slot c o (I.cne x c e) hc f g (I.freeC x c e)
   exact⟨_,q,hd⟩
  ·exact⟨o,keep c o (I.cne x c e) hc f g (I.freeC x c e),hd⟩
 refine⟨I.ok,I.os,hg,⟨fun b o e n hb hx=>?_,fun b o e n hb hx=>?_,fun b o e n hx=>?_,fun b o e hx=>?_,fun b xs e=>tups b xs (I.base.tups b xs e),fun b o xs e=>frzs b o xs (I.base.frzs b o xs e),fun b ps e=>?_⟩,?_,fun x c e=>?_,?_,fun x c e=>?_,fun p hp=>?_,C,I.len⟩
 ·exact keep b o (j b o e) hb (y b o e hx) (I.base.keep b o e n hb hx) (I.base.free b o e n hx)
 ·obtain⟨A,e1⟩:=I.base.slot b o e n hb hx
  obtain⟨E,e2⟩:=slot b _ (j b o e) hb (y b o e hx) e1 (I.base.free b o e n hx);exact⟨E,e2⟩
 ·obtain⟨o',e1⟩:=I.base.there b o e hx
  exact free b o' (y b o e hx) e1 (I.base.free b o e n hx)
 ·obtain⟨o',e1⟩:=I.base.there b o e hx
  exact there b o' (y b o e hx) e1
 ·obtain⟨F,e1⟩:=I.base.tbls b ps e
  obtain⟨m2,e2⟩:=tbls b _ e1;exact⟨F++m2,by rw[e2,Array.append_assoc]⟩
 ·obtain⟨m,G,J⟩:=I.loc
  refine⟨m,ns m G,fun i x v e1 e2 e3=>?_⟩;obtain⟨u,r,l⟩:=J i x v e1 e2 e3;refine⟨u,r,?_⟩;rcases l with l|⟨k,c,e,z⟩
  ·exact .inl l
  ·exact .inr ⟨k,c,e,a x c e _ z⟩
 ·obtain⟨v,z⟩:=I.cell x c e
  exact⟨v,a x c e v z⟩
 ·obtain⟨m,⟨o,_,_,g,_⟩,_⟩:=I.loc
  exact free _ o (fun z=>(h _ z).2.1 rfl) g I.free
 ·obtain⟨v,o,g,hd⟩:=I.cell x c e
  exact free c o (fun z=>(h c z).2.2.1 x c e rfl) g (I.freeC x c e)
 ·obtain⟨e,n,ne,D,d⟩:=I.pin p hp
  have f:p.1∉ch:=fun z=>(h p.1 z).2.2.2 p hp rfl;exact⟨keep p.1 p.2 ne D f e n,free p.1 p.2 f e n,ne,D,d⟩
def Inv.un{t':Nat}(I:Inv X aa σ H s)(u:Un X.fs [] H H' s.heap h')(a:HOk X.prog X.w H' h'):Inv X aa σ H' {s with heap:=h',toks:=t'}:=by
 obtain⟨m,⟨o,es,ep,c,r⟩,_⟩:=id I.loc;obtain⟨p,g⟩:=u.any c I.free (by simp);exact I.step (g':=s.gens) (d':=s.drawn) (ch:=[]) (fun _ z=>nomatch z) (fun b o _ hb _ e n=>u.keep b o e n hb (by simp)) (fun b o _ hb _ e n=>u.slot b o e n hb (by simp)) (fun b o _ e n=>u.free b o e n (by simp)) (fun b o _ e=>u.there b o e (by simp)) u.tups u.frzs u.tbls (fun l f=>by
  obtain⟨o',h,i,d,j⟩:=f;rw[c] at d;cases d;exact⟨_,h,i,g,j⟩) a I.bare
def Inv.call{g':Array GenState}{t':Nat}{d':Drawn}{ch:List Addr}(I:Inv X aa σ H s)(u:Un (frs X.stack) ch H H' s.heap h')(d:HOk X.prog X.w H' h')(hg:AllBare g')(h:∀b∈ch,(b∈X.ex\/X.s₀⁻¹<=b)/\b≠X.env.locals/\(∀x c,X.env.cells.lookup x=some c->c≠b)/\∀p∈X.pn++aa,p.1≠b):Inv X aa σ H' {s with heap:=h',gens:=g',drawn:=d',toks:=t'}:=by
 obtain⟨m,⟨o,es,ep,f,r⟩,_⟩:=id I.loc;obtain⟨y,a⟩:=u.any f I.free fun z=>(h _ z).2.1 rfl;exact I.step (ch:=ch) h (fun b o a hb hc e n=>u.keep b o e n (fun z=>(List.mem_cons.mp (I.stkSub b z)).elim a hb) hc) (fun b o _ _ hc e n=>u.any e n hc) (fun b o hc e n=>u.free b o e n hc) (fun b o hc e=>u.there b o e hc) u.tups u.frzs u.tbls (fun v i=>by
  obtain⟨o',j,l,g,q⟩:=i;rw[f] at g;cases g;exact⟨_,j,l,a,q⟩) d hg
def Inv.turned{t':Nat}{it:Addr}(I:Inv X aa σ H s)(k:∀b o,b≠it->s.heap.get? b=some o->h'.get? b=some o)(h:H it=none)(d:it≠X.env.locals)(h1:it∈X.ex\/X.s₀⁻¹<=it)(h2:∀x c,X.env.cells.lookup x=some c->c≠it)(i:∀p∈X.pn++aa,p.1≠it):Inv X aa σ H {s with heap:=h',toks:=t'}:=by
 have a:∀b u,H b=some u->b≠it:=fun b u e z=>by rw[z,h] at e;cases e
 refine I.step (g':=s.gens) (d':=s.drawn) (ch:=[it]) (fun b hb=>?_) (fun b o _ _ hc e _=>k b o (fun z=>hc (by simp[z])) e) (fun b o _ _ hc e _=>⟨o.slots,k b o (fun z=>hc (by simp[z])) e⟩) (fun _ _ _ _ n=>n)
  (fun b o hc e=>⟨o,k b o (fun z=>hc (by simp[z])) e⟩) (fun _ _ e=>e) (fun _ _ _ e=>e) (fun b ps e=>⟨#[],by rw[e];simp⟩) (fun m f=>?_) (fun b u e=>?_) I.bare
 ·have e:b=it:=by simpa using hb
  subst e;exact⟨h1,d,h2,i⟩
 ·obtain⟨o,es,ep,g,r⟩:=f
  exact⟨o,es,ep,k _ o (Ne.symm d) g,r⟩
 ·refine(I.hok b u e).stay (fun c v hc q=>k c v ?_ q) (fun _ q=>q) fun _ _ q=>q
  rcases hc with z|z
  ·rw[z];exact a b u e
  ·exact a c _ z
def Inv.tok(I:Inv X aa σ H s)(t:Nat):Inv X aa σ H {s with toks:=t}:=I.un (h':=s.heap) (t':=t) Un.refl I.hok
def Inv.kept{t':Nat}(I:Inv X aa σ H s)(k:∀b u,s.heap.get? b=some u->h'.get? b=some u):Inv X aa σ H {s with heap:=h',toks:=t'}:=I.un (Un.kept k) (I.hok.kept k)
def Inv.laid{a:Addr}{o:HO}{t':Nat}(I:Inv X aa σ H s)(k:∀b u,s.heap.get? b=some u->h'.get? b=some u)(hp:s⁻¹<=a)(new:zak X.prog X.w (upd H a o) h' a o):Inv X aa σ (upd H a o) {s with heap:=h',toks:=t'}:=I.un (Un.laid k hp (I.hok.fresh hp)) (I.hok.laid k hp new)
def Inv.write{x e:Addr}{o:HO}{t':Nat}(I:Inv X aa σ H s)(mu:ug (H x))(a:e=x\/H e=some (.own x))(k:∀b u,b≠e->s.heap.get? b=some u->h'.get? b=some u)(c:∃u,h'.get? e=some u)(new:zak X.prog X.w (upd H x o) h' x o):Inv X aa σ (upd H x o) {s with heap:=h',toks:=t'}:=I.un (Un.write mu a k c) (I.hok.write mu a k c new)
def Inv.pins_of{a:Ψ}(I:Inv X aa σ H s)(h:∀p∈a,s.heap.get? p.1=some p.2/\H p.1=none/\p.1≠X.env.locals/\p.1∉X.fs/\∀v,p.2.data≠.cell v):Inv X a σ H s:=
 ⟨I.ok,I.os,I.bare,I.base,I.loc,I.cell,I.free,I.freeC,fun p hp=>(List.mem_append.mp hp).elim (fun z=>I.pin p (AV _ z)) (h p),I.hok,I.len⟩
def Ir{N:List Str}(c:N.Nodup){i j:Nat}{x:Str}(a:N[i]?=some x)(b:N[j]?=some x):i=j:=by
 obtain⟨h1,e1⟩:=List.getElem?_eq_some_iff.mp a;obtain⟨h2,e2⟩:=List.getElem?_eq_some_iff.mp b;exact(List.getElem_inj c).mp (e1.trans e2.symm)
def Is{M:Model}{A:Around}{E:Ω}{i:Nat}{x:Str}{v:V}{u:Value}{Q:Unit->Shared->Prop}(I:Inv X aa σ H s)(hN:X.N.Nodup)(hi:X.N[i]?=some x)(hx:Loc X.env.scope x)(r:RelV v u)(h:∀s',Inv X aa (σ.set i (some v)) H s'->(∃a,Heap.SameBut a s.heap s'.heap/\(a=X.env.locals\/X.env.cells.lookup x=some a))->Q () s')(hf:X.fn x=true\/X.env.scope.names.lookup x=some .local:=by first|exact .inl rfl|exact .inr rfl|assumption):wpAny M A (storeName X.env x u) Q E s:=by
 obtain⟨m,J,W⟩:=id I.loc;have jW:(X.env.scope.kind==.class|| (X.env.scope.kind==.module&&X.env.locals != X.env.globals))=false:=by rw[I.ok.kind];rfl
 have g:i<σ.length:=by rw[I.len];exact(List.getElem?_eq_some_iff.mp hi).1
 have cne:=I.cne;have cN:∀{a:Addr}{h':Heap},(∃o,s.heap.get? a=some o/\H a=none)->Heap.SameBut a s.heap h'->HOk X.prog X.w H h':=fun{a h'} ha f b ob e=>by
  obtain⟨_,_,Y⟩:=ha;refine(I.hok b ob e).stay (fun c D hc q=>(f.2 c ?_).trans q) (fun _ q=>q) fun _ _ q=>q;rintro rfl;rcases hc with rfl|hc
  ·rw[Y] at e;cases e
  ·rw[Y] at hc;cases hc
 rcases hx with hk|hk
 ·refine wpAny_storeName_local hk J (fun h' ej f=>?_) jW
  obtain⟨oL,_,_,gZ,_⟩:=id J;refine h _ ⟨I.ok,I.os,I.bare,⟨fun b o e n hb hx=>?_,fun b o e n hb hx=>?_,I.base.free,fun b o e hx=>?_,I.base.tups,I.base.frzs,I.base.tbls⟩,⟨_,ej,fun j y G e1 e2 e3=>?_⟩,fun y c e=>?_,I.free,I.freeC,fun p hp=>?_,cN ⟨oL,gZ,I.free⟩ f,by simpa using I.len⟩ ⟨_,f,.inl rfl⟩
  ·exact(f.2 b (Az (Ay (Au e) I.ok.above))).trans (I.base.keep b o e n hb hx)
  ·obtain⟨L,e1⟩:=I.base.slot b o e n hb hx
   exact⟨L,(f.2 b (Az (Ay (Au e) I.ok.above))).trans e1⟩
  ·obtain⟨o',e1⟩:=I.base.there b o e hx
   exact⟨o',(f.2 b (Az (Ay (Au e) I.ok.above))).trans e1⟩
  ·by_cases l:j=i
   ·subst l
    rw[hi] at e1;cases e1;rw[List.getElem?_set_self g] at e2;cases e2;exact⟨u,r,.inl ⟨hk,by simp⟩⟩
   ·rw[List.getElem?_set_ne (Ne.symm l)] at e2
    obtain⟨O,P,q⟩:=W j y G e1 e2 e3;refine⟨O,P,?_⟩;rcases q with ⟨k,e⟩|⟨k,c,e,z⟩
    ·refine .inl ⟨k,?_⟩
     have:y≠x:=fun e=>l (Ir hN e1 (e▸hi));simp[this,e]
    ·exact .inr ⟨k,c,e,z.sameBut f (cne y c e)⟩
  ·obtain⟨D,z⟩:=I.cell y c e
   exact⟨D,z.sameBut f (cne y c e)⟩
  ·obtain⟨e,n,ne,S,d⟩:=I.pin p hp
   exact⟨(f.2 p.1 ne).trans e,n,ne,S,d⟩
 ·have T:X.fn x=true:=by
   rcases hf with z|z
   ·exact z
   ·rw[z] at hk;cases hk
  obtain⟨c,hc⟩:=I.ok.has x (.inl hk);obtain⟨D,z⟩:=I.cell x c hc;refine wpAny_storeName_cell I.ok.kind hk hc z (fun h' U f=>?_);obtain⟨Z,oy,k_⟩:=id z;refine h {s with heap:=h'} ⟨I.ok,I.os,I.bare,⟨fun b o e n hb hx=>?_,fun b o e n hb hx=>?_,I.base.free,fun b o e hx=>?_,I.base.tups,I.base.frzs,I.base.tbls⟩,⟨m,J.sameBut f (Ne.symm (cne x c hc)),fun j y G e1 e2 e3=>?_⟩,fun y F e=>?_,I.free,I.freeC,fun p hp=>?_,cN ⟨Z,oy,I.freeC x c hc⟩ f,by simpa using I.len⟩ ⟨c,f,.inr hc⟩
  ·exact(f.2 b (Az (Ay (Au e) (I.ok.cab x c T hc)))).trans (I.base.keep b o e n hb hx)
  ·obtain⟨L,e1⟩:=I.base.slot b o e n hb hx
   exact⟨L,(f.2 b (Az (Ay (Au e) (I.ok.cab x c T hc)))).trans e1⟩
  ·obtain⟨o',e1⟩:=I.base.there b o e hx
   exact⟨o',(f.2 b (Az (Ay (Au e) (I.ok.cab x c T hc)))).trans e1⟩
  ·by_cases l:j=i
   ·subst l
    rw[hi] at e1;cases e1;rw[List.getElem?_set_self g] at e2;cases e2;exact⟨u,r,.inr ⟨.inl hk,c,hc,U⟩⟩
   ·rw[List.getElem?_set_ne (Ne.symm l)] at e2
    obtain⟨O,P,q⟩:=W j y G e1 e2 e3;refine⟨O,P,?_⟩;rcases q with q|⟨k,F,e,z'⟩
    ·exact .inl q
    ·refine .inr ⟨k,F,e,z'.sameBut f ?_⟩
     rintro rfl;exact l (Ir hN e1 (I.ok.inj _ _ _ e hc▸hi))
  ·by_cases C:F=c
   ·subst C;exact⟨_,U⟩
   ·obtain⟨w2,z2⟩:=I.cell y F e
    exact⟨w2,z2.sameBut f C⟩
  ·obtain⟨e,n,ne,S,d⟩:=I.pin p hp
   refine⟨(f.2 p.1 ?_).trans e,n,ne,S,d⟩;intro q;rw[q,oy] at e;have q':Z=p.2:=AY e;exact d D (by rw[<-q'];exact k_)
def DB{M:Model}{A:Around}{E:Ω}{i:Nat}{x:Str}{v:V}{u:Value}{Q:Unit->Shared->Prop}(I:Inv X aa σ H s)(a:X.N.Nodup)(hi:X.N[i]?=some x)(hx:Loc X.env.scope x)(r:RelV v u)(h:∀s',Inv X aa (σ.set i (some v)) H s'->Q () s')(b:X.fn x=true\/X.env.scope.names.lookup x=some .local:=by first|exact .inl rfl|exact .inr rfl|assumption):wpAny M A (storeName X.env x u) Q E s:=
 Is I a hi hx r (fun s' c _=>h s' c) b
def Inv.call'{s':Shared}{ch:List Addr}(I:Inv X aa σ H s)(d:s'.os=s.os)(u:Un (frs X.stack) ch H H' s.heap s'.heap)(a:HOk X.prog X.w H' s'.heap)(hg:AllBare s'.gens)(f:∀b∈ch,(b∈X.ex\/X.s₀⁻¹<=b)/\b≠X.env.locals/\(∀x c,X.env.cells.lookup x=some c->c≠b)/\∀p∈X.pn++aa,p.1≠b):Inv X aa σ H' s':=by
 obtain⟨h',g',d',t',o'⟩:=s';have e:o'=s.os:=d;subst e;exact I.call (g':=g') (t':=t') (d':=d') u a hg f
end
abbrev XK:=Value->Option Addr->Hp->Prop
abbrev St:=List (Option V)
abbrev VK:=V->Hp->Prop
abbrev TE:=St->Hp->VK->Prop
abbrev TT:=St->Hp->(Bool->Hp->Prop)->Prop
abbrev TA:=St->Hp->(List V->Hp->Prop)->Prop
structure Ends where
 nx:St->Hp->Prop
 rt:VK
 bk:St->Hp->Prop:=fun _ _=>False
 ct:St->Hp->Prop:=fun _ _=>False
abbrev TS:=Ends->St->Hp->Prop
def EP(X:Cx)(aa:Ψ)(σ:St)(Q:VK)(u:Value)(s':Shared):Prop:=∃v H',Inv X aa σ H' s'/\RelV v u/\Q v H'
def TP(X:Cx)(aa:Ψ)(σ:St)(Q:Bool->Hp->Prop)(b:Bool)(s':Shared):Prop:=∃H',Inv X aa σ H' s'/\Q b H'
def AP(X:Cx)(aa:Ψ)(σ:St)(Q:List V->Hp->Prop)(us:List Value)(s':Shared):Prop:=∃vs H',Inv X aa σ H' s'/\Vals vs us/\Q vs H'
def SP(X:Cx)(aa:Ψ)(D:Ends)(f:Flow)(s':Shared):Prop:=
 match f with
 |.next=>∃ad H',Inv X aa ad H' s'/\D.nx ad H'
 |.brk=>∃ad H',Inv X aa ad H' s'/\D.bk ad H'
 |.cont=>∃ad H',Inv X aa ad H' s'/\D.ct ad H'
 |.ret u=>∃v ad H',Inv X aa ad H' s'/\RelV v u/\D.rt v H'
def PE(X:Cx)(e:Expr)(t:TE):Prop:=
 ∀(aa:Ψ)(s:Shared)(σ:St)(H:Hp)(Q:VK),Inv X aa σ H s->t σ H Q->wpAny (model X.prog X.w) X.A (eval e X.env) (EP X aa σ Q) X.xe s
def PT(X:Cx)(e:Expr)(t:TT):Prop:=
 ∀(aa:Ψ)(s:Shared)(σ:St)(H:Hp)(Q:Bool->Hp->Prop),Inv X aa σ H s->t σ H Q->wpAny (model X.prog X.w) X.A (isTrue e X.env (eval e X.env)) (TP X aa σ Q) X.xe s
def PW(X:Cx)(e:Expr)(t:TT):Prop:=
 ∀(a:Sem Value)(aa:Ψ)(s:Shared)(σ:St)(H:Hp)(Q:Bool->Hp->Prop),Inv X aa σ H s->t σ H Q->wpAny (model X.prog X.w) X.A (isTrue e X.env a) (TP X aa σ Q) X.xe s
def PW.pt{X:Cx}{e:Expr}{t:TT}(h:PW X e t):PT X e t:=h _
def PA(X:Cx)(es:List Expr)(t:TA):Prop:=
 ∀(pos:Pos)(aa:Ψ)(s:Shared)(σ:St)(H:Hp)(Q:List V->Hp->Prop),Inv X aa σ H s->t σ H Q->wpAny (model X.prog X.w) X.A (spliced (backTo pos (starEach es X.env))) (AP X aa σ Q) X.xe s
def PS(X:Cx)(st:Stmt)(t:TS):Prop:=
 ∀(aa:Ψ)(s:Shared)(σ:St)(H:Hp)(D:Ends),Inv X aa σ H s->t D σ H->wpAny (model X.prog X.w) X.A (exec st X.env) (SP X aa D) X.xe s
def PSs(X:Cx)(st:List Stmt)(t:TS):Prop:=
 ∀(aa:Ψ)(s:Shared)(σ:St)(H:Hp)(D:Ends),Inv X aa σ H s->t D σ H->wpAny (model X.prog X.w) X.A (execs st X.env) (SP X aa D) X.xe s
def aR{b:Type}{t:Sem b}{Q c:b->Shared->Prop}{M:Model}{A:Around}{E:Ω}{s:Shared}(h:wpAny M A t Q E s)(d:∀a s,Q a s->c a s):wpAny M A t c E s:=wpAny_mono h d fun _ _ x=>x
section
variable{X:Cx}
def ar(i:Nat):TE:=fun σ H Q=>∃v,σ[i]?=some (some v)/\Q v H
def tC(v:V):TE:=fun _ H Q=>Q v H
def Mh{i:Nat}{x:Str}{pos:Pos}(g:X.N[i]?=some x)(hv:DA X.env.scope x)(hd:(x==("__debug__":Str))=false:=by decide)(j:(x==("__classdict__":Str))=false:=by decide):PE X (.Name x pos) (ar i):=by
 intro aa s σ H Q I h;obtain⟨v,e,h⟩:=h;obtain⟨m,b,d⟩:=I.loc;obtain⟨u,r,l⟩:=d i x v g e hv;have fin:EP X aa σ Q u s:=⟨v,H,I,r,h⟩;rcases l with ⟨hk,f⟩|⟨hk,c,hc,a⟩
 ·exact wpAny_Name (wpAny_loadName_local I.ok.kind hk b f fin) hd
 ·rcases hk with hk|hk
  ·exact wpAny_Name (wpAny_loadName_cell I.ok.kind hk hc a fin) hd
  ·exact wpAny_Name (wpAny_loadName_free I.ok.kind hk hc a fin j) hd
def zd{i j pos}:PE X (.Constant (.int i) j pos) (tC (.int i)):=fun _ _ _ H _ I h=>wpAny_Constant_int ⟨.int i,H,I.tok _,⟨_,rfl⟩,h⟩
def jx{b j pos}:PE X (.Constant (.bool b) j pos) (tC (.bl b)):=fun _ _ _ H _ I h=>Constant_bool ⟨.bl b,H,I,rfl,h⟩
def Iu{j pos}:PE X (.Constant .none j pos) (tC .non):=fun _ _ _ H _ I h=>Constant_none ⟨.non,H,I,rfl,h⟩
def Fn{x j pos}:PE X (.Constant (.str x) j pos) (tC (.str x)):=fun _ _ _ H _ I h=>Calls.Constant_str ⟨.str x,H,I.tok _,⟨_,rfl⟩,h⟩
def Gl(X:Cx)(x:Str):Prop:=X.env.kindOf x=some .globalImplicit
def Iv{E:Ω}{aa:Ψ}{s:Shared}{σ:St}{H:Hp}{x:Str}{u:Value}{pos:Pos}{Q:Ω}(I:Inv X aa σ H s)(hg:Gl X x)(a:X.mg x=some u)(h:Q u s)(hd:(x==("__debug__":Str))=false:=by decide):wpAny (model X.prog X.w) X.A (eval (.Name x pos) X.env) Q E s:=
 Calls.Name_function_global I.ok.kind hg (Calls.loadGlobal_global (by rw[I.ok.glob];exact I.mod.glob.keeps I.bk) a h) hd
def kQ{E:Ω}{aa:Ψ}{s:Shared}{σ:St}{H:Hp}{x:Str}{u:Value}{pos:Pos}{Q:Ω}(I:Inv X aa σ H s)(hg:Gl X x)(a:X.mg x=none)(hv:A8 x=some u)(h:Q u s)(b:x≠"__name__":=by decide)(hd:(x==("__debug__":Str))=false:=by decide):wpAny (model X.prog X.w) X.A (eval (.Name x pos) X.env) Q E s:=by
 obtain⟨c,h1,h2⟩:=I.mod.blt;exact Calls.Name_function_global I.ok.kind hg (Calls.loadGlobal_builtin (by rw[I.ok.glob];exact I.mod.glob.keeps I.bk) a (by rw[I.ok.blt];exact h1.keeps I.bk) ((h2 x b).trans hv) h) hd
def Iw{x:Str}{v:V}{u:Value}{pos:Pos}(hg:Gl X x)(a:X.mg x=some u)(r:RelV v u)(hd:(x==("__debug__":Str))=false:=by decide):PE X (.Name x pos) (tC v):=
 fun _ _ _ H _ I h=>Iv I hg a ⟨v,H,I,r,h⟩ hd
def DC{x:Str}{v:V}{u:Value}{pos:Pos}(hg:Gl X x)(a:X.mg x=none)(hv:A8 x=some u)(r:RelV v u)(b:x≠"__name__":=by decide)(hd:(x==("__debug__":Str))=false:=by decide):PE X (.Name x pos) (tC v):=
 fun _ _ _ H _ I h=>kQ I hg a hv ⟨v,H,I,r,h⟩ b hd
variable{a b:Expr}{ta tb:TE}{pos:Pos}
def PC(X:Cx)(e:CmpOp)(a b:Expr)(t:TE):Prop:=
 ∀(aa:Ψ)(s:Shared)(σ:St)(H:Hp)(Q:VK),Inv X aa σ H s->t σ H Q->
  wpAny (model X.prog X.w) X.A (eval a X.env) (fun v c=>wpAny (model X.prog X.w) X.A (eval b X.env) (fun u d=>wpAny (model X.prog X.w) X.A (compareOp e v u) (EP X aa σ Q) X.xe d) X.xe c) X.xe s
def ic(b:Expr){a:CmpOp}(h:a≠.In)(h2:a≠.NotIn):behindInMarks a b=false:=by
 have e1:(a==CmpOp.In)=false:=by cases a<;>first|rfl|exact absurd rfl h
 have e2:(a==CmpOp.NotIn)=false:=by cases a<;>first|rfl|exact absurd rfl h2
 cases b<;>simp[behindInMarks,e1,e2]
def tB(t:TE):TT:=fun σ H Q=>t σ H fun x H1=>∃c,x=.bl c/\Q c H1
def Mj{e:CmpOp}{t:TE}(h:PC X e a b t)(h1:behindInMarks e b=false:=by first|exact ic _ ξ ξ|rfl):PT X (.Compare a [e] [b] pos) (tB t):=by
 intro aa s σ H Q I hw;refine wpAny_isTrue_Compare1 (aR (h aa s σ H _ I hw) fun v i h1=>aR h1 fun u j h2=>aR h2 fun c l ⟨x,H1,g,r1,f⟩=>?_) h1;obtain⟨d,rfl,q⟩:=f;cases r1;exact wpAny_truthy_bool ⟨H1,g,q⟩
def pV{e:Expr}{t:TE}(h:PE X e t)(c:∀a,isTrue e X.env a=(do let v <-a;standAt e.pos;holding [v] (truthy v)):=by intro _;rfl):PT X e (tB t):=by
 intro aa s σ H Q I hw;refine isTrue_plain (aR (h aa s σ H _ I hw) fun v g ⟨x,H1,f,r1,b⟩=>?_) (c _);obtain⟨d,rfl,q⟩:=b;cases r1;exact wpAny_truthy_bool ⟨H1,f,q⟩
variable{tA ju:TT}{rest:List Expr}
def uy(t u:TT):TT:=fun σ H Q=>t σ H fun c H1=>if c=true then u σ H1 Q else Q false H1
def Mk(t u:TT):TT:=fun σ H Q=>t σ H fun c H1=>if c=true then Q true H1 else u σ H1 Q
def Fq(t:TT):TT:=fun σ H Q=>t σ H fun c H1=>Q (!c) H1
def Fv(b:PT X a tA):PW X (.BoolOp .And [a] pos) tA:=by
 intro d aa s σ H Q I h;refine isTrue_and (aR (b aa s σ H Q I h) fun c f e=>?_);cases c with
 |true=>exact isTrue_and_nil e
 |false=>exact e
def DD(b:PT X a tA):PW X (.BoolOp .Or [a] pos) tA:=by
 intro d aa s σ H Q I h;refine isTrue_or (aR (b aa s σ H Q I h) fun c f e=>?_);cases c with
 |false=>exact isTrue_or_nil e
 |true=>exact e
def Fx(i:PT X a tA)(hb:PW X (.BoolOp .And (b::rest) pos) ju):PW X (.BoolOp .And (a::b::rest) pos) (uy tA ju):=by
 intro f aa s σ H Q I h;refine isTrue_and (aR (i aa s σ H _ I h) fun c g ⟨H1,e,d⟩=>?_);cases c with
 |true=>exact hb f aa g σ H1 Q e d
 |false=>exact⟨H1,e,d⟩
def DE(i:PT X a tA)(hb:PW X (.BoolOp .Or (b::rest) pos) ju):PW X (.BoolOp .Or (a::b::rest) pos) (Mk tA ju):=by
 intro f aa s σ H Q I h;refine isTrue_or (aR (i aa s σ H _ I h) fun c g ⟨H1,e,d⟩=>?_);cases c with
 |true=>exact⟨H1,e,d⟩
 |false=>exact hb f aa g σ H1 Q e d
def uz(b:PT X a tA):PT X (.UnaryOp .Not a pos) (Fq tA):=by
 intro aa s σ H Q I h;exact isTrue_not (b aa s σ H (fun c H1=>Q (!c) H1) I h)
def Ml(ta tb:TE):TE:=fun σ H Q=>ta σ H fun x H1=>∃c,x=.bl c/\if c=true then tb σ H1 Q else Q (.bl false) H1
def Mm(ta:TE):TE:=fun σ H Q=>ta σ H fun x H1=>∃c,x=.bl c/\Q (.bl (!c)) H1
def DF{op}{t:TE}(h:PE X a t):PE X (.BoolOp op [a] pos) t:=fun aa s σ H Q I hw=>BoolOp_one (h aa s σ H Q I hw)
def DG(g:PE X a ta)(hb:PE X (.BoolOp .And (b::rest) pos) tb):PE X (.BoolOp .And (a::b::rest) pos) (Ml ta tb):=by
 intro aa s σ H Q I h;refine BoolOp_and (aR (g aa s σ H _ I h) fun v f ⟨x,H1,e,r1,d⟩=>?_);obtain⟨c,rfl,d⟩:=d;cases r1;refine wpAny_truthy_bool ?_;cases c with
 |true=>exact hb aa f σ H1 Q e d
 |false=>exact⟨.bl false,H1,e,rfl,d⟩
def Mn(d:PE X a ta):PE X (.UnaryOp .Not a pos) (Mm ta):=by
 intro aa s σ H Q I h;refine UnaryOp_ (aR (d aa s σ H _ I h) fun v f ⟨x,H1,e,r1,b⟩=>?_);obtain⟨c,rfl,b⟩:=b;cases r1;exact not_of (wpAny_truthy_bool ⟨.bl (!c),H1,e,rfl,b⟩)
def Mo(t:TT)(ta tb:TE):TE:=fun σ H Q=>t σ H fun c H1=>if c=true then ta σ H1 Q else tb σ H1 Q
def p4{c:Expr}(hc:PT X c tA)(i:PE X a ta)(hb:PE X b tb):PE X (.IfExp c a b pos) (Mo tA ta tb):=by
 intro aa s σ H Q I h;refine wpAny_IfExp (aR (hc aa s σ H _ I h) fun d e ⟨H1,g,f⟩=>?_);cases d with
 |true=>exact i aa e σ H1 Q g f
 |false=>exact hb aa e σ H1 Q g f
end
def SqL(K:Ah)(H:Hp)(a:Addr)(xs:List V):Prop:=
 Rd H a (.lst xs) \/
  ∃(o:Obj)(b:Array Value)(n:Nat),K.lookup a=some o/\o.cls=.type "list"/\o.dict=none/\o.data=.seq b n/\b.size<=sizeLine/\Vals xs b.toList
def SqT(K:Ah)(H:Hp)(a:Addr)(xs:List V):Prop:=
 Rd H a (.tup xs) \/
  ∃(o:Obj)(b:Array Value)(n:Nat),K.lookup a=some o/\o.cls=.type "tuple"/\o.data=.seq b n/\b.size<=sizeLine/\Vals xs b.toList
def Fy:Value->Option V
 |.none=>some .non
 |.bool b=>some (.bl b)
 |.int i _=>some (.int i)
 |.str x _=>some (.str x)
 |.bytes b _=>some (.byt b)
 |.float b _=>some (.flt b)
 |.ref a=>some (.ref a)
 |.type n=>some (.ty n)
 |_=>none
def RelV.abs{x:V}{u:Value}(r:RelV x u):Fy u=some x:=by
 cases x with
 |non=>cases r;rfl
 |bl _=>cases r;rfl
 |int _=>obtain⟨t,rfl⟩:=r;rfl
 |str _=>obtain⟨t,rfl⟩:=r;rfl
 |byt _=>obtain⟨t,rfl⟩:=r;rfl
 |flt _=>obtain⟨t,rfl⟩:=r;rfl
 |ref _=>cases r;rfl
 |ty _=>cases r;rfl
def RelV.inj{x y:V}{u:Value}(r:RelV x u)(q:RelV y u):x=y:=AY (r.abs.symm.trans q.abs)
def Vals.inj{xs ys:List V}{us:List Value}(h:Vals xs us)(g:Vals ys us):xs=ys:=by
 induction h generalizing ys with
 |nil=>cases g;rfl
 |cons r t ih=>cases g with|cons r' t'=>rw[r.inj r',ih t']
section
variable{X:Cx}{aa:Ψ}{σ:St}{H:Hp}{s:Shared}{a:Addr}{xs ys:List V}
def SqL.of{K:Ah}(h:H a=some (.lst xs)):SqL K H a xs:=.inl (.inl h)
def SqT.of{K:Ah}(h:H a=some (.tup xs)):SqT K H a xs:=.inl (.inl h)
def Inv.list(I:Inv X aa σ H s)(h:SqL X.K H a xs):∃b:List Value,Vals xs b/\PlainL s.heap a b.toArray/\xs.length<=sizeLine:=by
 rcases h with h|⟨o,b,n,hk,hc,hd,c,hz,r⟩
 ·obtain⟨z,b,n,r,e⟩:=h.ok I.hok
  exact⟨b,r,⟨_,n,e,rfl,rfl,rfl⟩,z⟩
 ·refine⟨b.toList,r,⟨o,n,I.kIn a o hk,hc,hd,by simpa using c⟩,?_⟩
  have e:=r.length;simp only[Array.length_toList] at e;(first|lia|omega)
def Inv.tuple(I:Inv X aa σ H s)(h:SqT X.K H a xs):∃b:List Value,Vals xs b/\IsTup s.heap a b.toArray/\xs.length<=sizeLine:=by
 rcases h with h|⟨o,b,n,hk,hc,c,hz,r⟩
 ·obtain⟨z,b,r,p⟩:=h.ok I.hok
  exact⟨b,r,p,z⟩
 ·refine⟨b.toList,r,⟨o,I.kIn a o hk,hc,n,by simpa using c⟩,?_⟩
  have e:=r.length;simp only[Array.length_toList] at e;(first|lia|omega)
def Inv.list_inj(I:Inv X aa σ H s)(h:SqL X.K H a xs)(h':SqL X.K H a ys):xs=ys:=by
 obtain⟨c,r,⟨o,n,e,_,_,d⟩,_⟩:=I.list h;obtain⟨its',f,⟨o',g,b,_,_,d'⟩,_⟩:=I.list h';rw[e] at b;cases b;rw[d] at d';injection d' with d1 _
 have:c=its':=by simpa using congrArg Array.toList d1
 subst this;exact r.inj f
def Inv.tuple_inj(I:Inv X aa σ H s)(h:SqT X.K H a xs)(h':SqT X.K H a ys):xs=ys:=by
 obtain⟨c,r,⟨o,e,_,n,d⟩,_⟩:=I.tuple h;obtain⟨its',f,⟨o',b,_,g,d'⟩,_⟩:=I.tuple h';rw[e] at b;cases b;rw[d] at d';injection d' with d1 _
 have:c=its':=by simpa using congrArg Array.toList d1
 subst this;exact r.inj f
end
abbrev Cx.wish(X:Cx)(E:Ω):Cx:={X with xe:=E}
abbrev Cx.nox(X:Cx):Cx:=X.wish fun _ _=>False
def Cx.Ok.wish{X:Cx}(ok:X.Ok)(E:Ω):(X.wish E).Ok:=
 ⟨ok.mod,ok.kind,ok.glob,ok.blt,ok.above,ok.inj,ok.has,ok.cab,ok.hd,ok.frames,ok.stk,ok.exf,ok.bs,ok.bsz,ok.noex,ok.exfs,ok.funs,ok.frf⟩
def Cx.Ok.unwish{X:Cx}{E:Ω}(ok:(X.wish E).Ok):X.Ok:=
 ⟨ok.mod,ok.kind,ok.glob,ok.blt,ok.above,ok.inj,ok.has,ok.cab,ok.hd,ok.frames,ok.stk,ok.exf,ok.bs,ok.bsz,ok.noex,ok.exfs,ok.funs,ok.frf⟩
section
variable{X:Cx}{aa:Ψ}{σ:St}{H:Hp}{s:Shared}{E:Ω}
def Inv.wish(I:Inv X aa σ H s)(E:Ω):Inv (X.wish E) aa σ H s:=⟨I.ok.wish E,I.os,I.bare,I.base,I.loc,I.cell,I.free,I.freeC,I.pin,I.hok,I.len⟩
def Inv.unwish(I:Inv (X.wish E) aa σ H s):Inv X aa σ H s:=⟨I.ok.unwish,I.os,I.bare,I.base,I.loc,I.cell,I.free,I.freeC,I.pin,I.hok,I.len⟩
def SP.unwish{D:Ends}{f:Flow}{s':Shared}(h:SP (X.wish E) aa D f s'):SP X aa D f s':=by
 cases f with
 |next=>obtain⟨ad,H',I,q⟩:=h;exact⟨ad,H',I.unwish,q⟩
 |brk=>obtain⟨ad,H',I,q⟩:=h;exact⟨ad,H',I.unwish,q⟩
 |cont=>obtain⟨ad,H',I,q⟩:=h;exact⟨ad,H',I.unwish,q⟩
 |ret u=>obtain⟨v,ad,H',I,r,q⟩:=h;exact⟨v,ad,H',I.unwish,r,q⟩
def PSs.nox{st:List Stmt}{t:TS}(h:PSs X.nox st t):PSs X st t:=fun aa s σ H D I hw=>
 wpAny_mono (h aa s σ H D (I.wish _) hw) (fun _ _ q=>q.unwish) fun _ _ z=>False.elim z
end
section
variable{X:Cx}{st:Stmt}{rest:List Stmt}{t u:TS}{e:Expr}{te:TE}{pos:Pos}
def Mp:TS:=fun D σ H=>D.nx σ H
def uG(t u:TS):TS:=fun D σ H=>t {D with nx:=u D} σ H
def zR:PSs X [] Mp:=fun _ _ σ H _ I h=>wpAny_execs_nil ⟨σ,H,I,h⟩
def zc(h1:PS X st t)(h2:PSs X rest u):PSs X (st::rest) (uG t u):=by
 intro aa s σ H D I h;refine wpAny_execs_cons (aR (h1 aa s σ H {D with nx:=u D} I h) fun f a q=>?_);cases f with
 |next=>
  obtain⟨ad,H',b,q⟩:=q;exact h2 aa a ad H' D b q
 |ret v=>exact q
 |brk=>exact q
 |cont=>exact q
def zh(h1:PS X st t):PSs X [st] t:=by
 intro aa s σ H D I h;refine wpAny_execs_cons (aR (h1 aa s σ H D I h) fun f a q=>?_);cases f with
 |next=>exact wpAny_execs_nil q
 |ret v=>exact q
 |brk=>exact q
 |cont=>exact q
def Inv.quiet{aa:Ψ}{σ:St}{H:Hp}{s:Shared}(I:Inv X aa σ H s):interactive X.env=false:=by simp[interactive,I.ok.kind]
def Mq(te:TE):TS:=fun D σ H=>te σ H fun _ H1=>D.nx σ H1
def kT(b:PE X e te)(c:swapsWith e none pos.line X.env=pure false:=by rfl):PS X (.Expr e pos) (Mq te):=by
 intro aa s σ H D I h;exact wpAny_Expr_any (aR (b aa s σ H _ I h) fun v f ⟨x,H1,d,r1,a⟩=>⟨σ,H1,d,a⟩) I.quiet c
def Fz(te:TE):TS:=fun D σ H=>te σ H D.rt
def zq(b:PE X e te):PS X (.Return (some e) pos) (Fz te):=by
 intro aa s σ H D I h;exact wpAny_Return_some (aR (b aa s σ H _ I h) fun v d ⟨x,H1,c,r1,a⟩=>⟨x,σ,H1,c,r1,a⟩)
def FA(c:TT)(t u:TS):TS:=fun D σ H=>c σ H fun b H1=>if b=true then t D σ H1 else u D σ H1
def cF{c:Expr}{a b:List Stmt}{tc:TT}(hc:PT X c tc)(i:PSs X a t)(hb:PSs X b u):PS X (.If c a b pos) (FA tc t u):=by
 intro aa s σ H D I h;refine wpAny_If (aR (hc aa s σ H _ I h) fun d e ⟨H1,g,f⟩=>?_);cases d with
 |true=>exact i aa e σ H1 D g f
 |false=>exact hb aa e σ H1 D g f
def Mr:TS:=fun _ _ _=>False
def Ix{a:List Stmt}:PSs X a Mr:=fun _ _ _ _ _ _ h=>h.elim
end
abbrev TG:=V->St->Hp->(St->Hp->Prop)->Prop
abbrev mh:=List V->St->Hp->(St->Hp->Prop)->Prop
def PG(X:Cx)(a:Expr)(t:TG):Prop:=
 ∀(aa:Ψ)(s:Shared)(σ:St)(H:Hp)(v:V)(u:Value)(Q:St->Hp->Prop),Inv X aa σ H s->RelV v u->t v σ H Q->
  wpAny (model X.prog X.w) X.A (assign a X.env u) (fun _ s'=>∃ad H',Inv X aa ad H' s'/\Q ad H') X.xe s
def DH(X:Cx)(a:List Expr)(t:mh):Prop:=
 ∀(aa:Ψ)(s:Shared)(σ:St)(H:Hp)(vs:List V)(us:List Value)(Q:St->Hp->Prop),Inv X aa σ H s->Vals vs us->t vs σ H Q->
  wpAny (model X.prog X.w) X.A (assignInOrder ((assignEach a X.env).map (·.2)) us) (fun _ s'=>∃ad H',Inv X aa ad H' s'/\Q ad H') X.xe s
abbrev mx:=V->V->V->Hp->(Hp->Prop)->Prop
def uH(X:Cx)(t:mx):Prop:=
 ∀(aa:Ψ)(s:Shared)(σ:St)(H:Hp)(o i v:V)(a b u:Value)(Q:Hp->Prop),Inv X aa σ H s->RelV o a->RelV i b->RelV v u->t o i v H Q->
  wpAny (model X.prog X.w) X.A (setItem a b u) (fun _ s'=>∃H',Inv X aa σ H' s'/\Q H') X.xe s
section
variable{X:Cx}{pos:Pos}
def zT(i:Nat):TG:=fun v σ H Q=>Q (σ.set i (some v)) H
def zk{i:Nat}{x:Str}(a:X.N.Nodup)(hi:X.N[i]?=some x)(hx:Loc X.env.scope x)(b:X.fn x=true\/X.env.scope.names.lookup x=some .local:=by first|exact .inl rfl|exact .inr rfl|assumption):PG X (.Name x pos) (zT i):=by
 intro aa s σ H v u Q I r h;exact wpAny_assign_Name (DB I a hi hx r (fun s' c=>⟨_,H,c,h⟩) b)
def b3:mh:=fun vs σ H Q=>vs=[]/\Q σ H
def cf(t:TG)(u:mh):mh:=fun vs σ H Q=>∃v r,vs=v::r/\t v σ H fun ad H'=>u r ad H' Q
def gW:DH X [] b3:=by
 intro aa s σ H vs us Q I r h;obtain⟨e,h⟩:=h;subst e;cases r;exact assignInOrder_nil ⟨σ,H,I,h⟩
def zH{e:Expr}{es:List Expr}{t:TG}{u:mh}(h1:PG X e t)(h2:DH X es u)(d:(assignEach (e::es) X.env).map (·.2)=assign e X.env::(assignEach es X.env).map (·.2):=by rfl):DH X (e::es) (cf t u):=by
 intro aa s σ H vs us Q I r h;obtain⟨v,g,e1,h⟩:=h;subst e1;cases r with
 |cons r rr=>
  rw[d];refine assignInOrder_cons (aR (h1 aa s σ H _ _ _ I r h) fun _ a ⟨b,H1,f,c⟩=>?_);exact h2 aa a b H1 _ _ Q f rr c
def b6(K:Ah)(n:Nat)(t:mh):TG:=fun v σ H Q=>∃a xs,v=.ref a/\SqT K H a xs/\xs.length=n/\t xs σ H Q
def gX{es:List Expr}{k:Nat}{t:mh}{n:Nat}(hc:X.calm=true)(h:DH X es t)(g:(assignEach es X.env).length=n:=by rfl)(i:(assignEach es X.env).findIdx? (·.1)=none:=by rfl):PG X (.Tuple es k pos) (b6 X.K n t):=by
 intro aa s σ H v u Q I r hw;obtain⟨a,xs,e1,hq,d,hw⟩:=hw;subst e1;cases r;obtain⟨l,c,f,hz⟩:=I.tuple hq;refine assign_Tuple_tuple (I.ok.hd hc) f (by simp[g,<-d,c.length]) i fun h' hx=>?_;have j:Inv X aa σ H {s with heap:=h'}:=I.kept (t':=s.toks) fun b o e=>hx b o (Az (Au e)) e;exact h aa _ σ H xs _ Q j (by simpa using c) hw
def FB(to a:TE)(t:mx):TG:=fun v σ H Q=>to σ H fun o H1=>a σ H1 fun i H2=>t o i v H2 fun b=>Q σ b
def ig{o i:Expr}{to c:TE}{t:mx}(l:PE X o to)(hi:PE X i c)(p:uH X t)(q:∀v,assign (.Subscript o i pos) X.env v=(do
   let a <-holding [v] (eval o X.env)
   let b <-holding [v,a] (eval i X.env)
   standAt pos
   holding [v,a,b] (setItem a b v)
   release [v,a,b] []):=by intro _;rfl):PG X (.Subscript o i pos) (FB to c t):=by
 intro aa s σ H v u Q I r h;rw[q];refine Ag (wpAny_holding (aR (l aa s σ H _ I h) fun a d ⟨x,H1,w,r1,e⟩=>?_));refine Ag (wpAny_holding (aR (hi aa d σ H1 _ w e) fun b f ⟨y,H2,z,r2,g⟩=>?_));refine Ag (wpAny_standAt (Ag (wpAny_holding (aR (p aa f σ H2 x y v a b u _ z r1 r2 r g) fun _ D ⟨A,C,j⟩=>?_))));exact wpAny_release ⟨σ,A,C,j⟩
def ik(te:TE)(g:TG):TS:=fun D σ H=>te σ H fun x H1=>g x σ H1 D.nx
def iv{tg e:Expr}{te:TE}{g:TG}(c:PE X e te)(hg:PG X tg g)(d:swapsWithSole [tg] e pos.line X.env=pure false:=by rfl)(hw:swappedStores [tg] e X.env=pure none:=by rfl)(h1:(assignEach [tg] X.env).map (·.2)=[assign tg X.env]:=by rfl):PS X (.Assign [tg] e pos) (ik te g):=by
 intro aa s σ H D I h;refine wpAny_Assign_stores (aR (c aa s σ H _ I h) fun v a ⟨x,H1,f,r1,b⟩=>?_) d hw;rw[h1];exact aR (hg aa a σ H1 x v _ f r1 b) fun _ i q=>q
def zp{i:Nat}{x:Str}{e:Expr}{te:TE}{az:Pos}(b:X.N.Nodup)(hi:X.N[i]?=some x)(hx:Loc X.env.scope x)(c:PE X e te)(d:swapsWith e (some (.Name x az)) pos.line X.env=pure false:=by rfl)(f:X.fn x=true\/X.env.scope.names.lookup x=some .local:=by first|exact .inl rfl|exact .inr rfl|assumption):PS X (.Assign [.Name x az] e pos) (ik te (zT i)):=by
 intro aa s σ H D I h;refine wpAny_Assign_Name (aR (c aa s σ H _ I h) fun v l ⟨y,H1,g,r1,a⟩=>?_) d;exact DB g b hi hx r1 (fun o j=>⟨_,H1,j,a⟩) f
def FC(i j:Nat)(ta:TA):TS:=fun D σ H=>ta σ H fun vs H1=>∃v w,vs=[v,w]/\D.nx ((σ.set i (some v)).set j (some w)) H1
def Ms{i j:Nat}{x y:Str}{a b:Expr}{ta:TA}{l r pt:Pos}{kt k2 pt2}(hc:X.calm=true)(u:X.N.Nodup)(hi:X.N[i]?=some x)(G:X.N[j]?=some y)(J:i≠j)(hx:X.env.scope.names.lookup x=some .local)(hy:X.env.scope.names.lookup y=some .local)(L:PA X [a,b] ta)(hw:swappedStores [.Tuple [.Name x l,.Name y r] kt pt] (.Tuple [a,b] k2 pt2) X.env=pure (some [x,y]))(M:swapsWithSole [.Tuple [.Name x l,.Name y r] kt pt] (.Tuple [a,b] k2 pt2) pos.line X.env=pure false:=by rfl):PS X (.Assign [.Tuple [.Name x l,.Name y r] kt pt] (.Tuple [a,b] k2 pt2) pos) (FC i j ta):=by
 intro aa s σ H D I h;rw[exec_Assign_arm];refine Ag (wpAny_standAt ?_);rw[M];refine Ag (Aq ?_);rw[if_neg ξ];refine Ag (Tuple_ (aR (L _ aa s σ H _ I h) fun us c ⟨vs,H1,I1,r1,g⟩=>?_));obtain⟨v,w,e1,g⟩:=g;subst e1;obtain⟨d,f,rfl,E,F⟩:∃d f,us=[d,f]/\RelV v d/\RelV w f:=by
  cases r1 with
  |cons p q=>
   cases q with
   |cons p' q'=>
    cases q';exact⟨_,_,rfl,p,p'⟩
 refine wpAny_newObj_type ?_ (by show 2<=sizeLine;decide);have I2:Inv X aa σ H1 {c with heap:=c.heap.push {cls:=.type "tuple",data:=.seq [d,f].toArray}}:=I1.kept (t':=c.toks) fun b o e=>Ai _ e;rw[hw];refine Ag (Aq ?_);show wpAny (model X.prog X.w) X.A (do rule "assign.swapped-stores";let items <-unpackItems (.ref c⁻¹) 2 none;assignInOrder [fun v=>bindName X.env y v,fun v=>bindName X.env x v] items.reverse;pure Flow.next) _ _ _;refine Ag (wpAny_rule (Ag (unpackItems_tuple (items:=#[d,f]) (I.ok.hd hc) (IsTup.new c.heap _) fun h' C=>?_)));have P:=I2.kept (h':=h') (t':=c.toks) fun b o e=>C b o (Az (Au e)) e;show wpAny _ _ (assignInOrder [fun v=>bindName X.env y v,fun v=>bindName X.env x v] [f,d] >>= fun _=>pure Flow.next) _ _ _;refine Ag (assignInOrder_cons (wpAny_bindName (DB P u G (.inl hy) F (fun Q O=>?_) (.inr hy))));refine assignInOrder_cons (wpAny_bindName (DB O u hi (.inl hx) E (fun S z=>assignInOrder_nil (Aq ?_)) (.inr hx)));rw[List.set_comm _ _ (Ne.symm J)] at z;exact⟨_,H1,z,g⟩
def Mt(c:TT)(tb:TS):TS:=fun D σ H=>∃W:Nat->St->Hp->Prop,(∃m,W m σ H)/\∀m σ H,W m σ H->
 c σ H fun b H1=>if b=true then ∃N:St->Hp->Prop,(∀ad H',N ad H'->∃a,a<m/\W a ad H')/\tb {D with nx:=N,ct:=N,bk:=D.nx} σ H1 else D.nx σ H1
def uK{c:Expr}{u:List Stmt}{tc:TT}{tb:TS}(hp:PassesOwn (model X.prog X.w) X.A X.env X.xe)(hc:PT X c tc)(hb:PSs X u tb):PS X (.While c u [] pos) (Mt tc tb):=by
 intro aa s σ H D I h;obtain⟨W,⟨z,C⟩,turn⟩:=h;refine wpAny_While (codeAny_whileLoop (fun n s'=>∃ad H',Inv X aa ad H' s'/\W n ad H') ?_ z ⟨σ,H,I,C⟩);rintro n E ⟨i,H1,F,w1⟩;refine wpAny_passesOwn hp (aR (hc aa E i H1 _ F (turn n i H1 w1)) fun b y ⟨H2,x,e⟩=>?_);cases b with
 |true=>
  obtain⟨N,r,e⟩:=e;rw[if_pos rfl];refine wpAny_passesOwn hp (aR (hb aa y i H2 _ x e) fun f G g=>?_);cases f with
  |next=>
   obtain⟨a,d,q,j⟩:=g;obtain⟨l,o,p⟩:=r a d j;exact⟨l,o,a,d,q,p⟩
  |cont=>
   obtain⟨a,d,q,j⟩:=g;obtain⟨l,o,p⟩:=r a d j;exact⟨l,o,a,d,q,p⟩
  |brk=>exact g
  |ret v=>exact g
 |false=>
  rw[if_neg AJ];exact wpAny_execs_nil ⟨i,H2,x,e⟩
end
structure It where
 go:Nat->Hp->Prop
 yld:Nat->Hp->V->Hp->Prop
 stop:Nat->Hp->Prop
def ck(X:Cx)(aa:Ψ)(H:Hp)(b:Addr):Prop:=
 H b=none/\b≠X.env.locals/\b∉X.fs/\(b∈X.ex\/X.s₀⁻¹<=b)/\(∀x c,X.env.cells.lookup x=some c->c≠b)/\∀p∈X.pn++aa,p.1≠b
def Inv.fpOk{X:Cx}{aa:Ψ}{σ:St}{H H':Hp}{s:Shared}{b:Addr}(I:Inv X aa σ H s)(hb:s⁻¹<=b)(a:H' b=none):ck X aa H' b:=by
 refine⟨a,Nat.ne_of_gt (Ay I.lt hb),I.nofs hb,.inr (Ae I.sz hb),fun x c e z=>?_,fun p hp z=>?_⟩
 ·obtain⟨v,q⟩:=I.cell x c e
  exact absurd (Ay q.lt (by rw[z];exact hb)) (Nat.lt_irrefl _)
 ·exact absurd (Ay (Au (I.pin p hp).1) (by rw[z];exact hb)) (Nat.lt_irrefl _)
structure Turn(P:Program)(w:World)(K:Ah)(tg:Expr)(J:It)(fp:List Addr)(it:Addr)(tn:Nat->Heap->Prop):Prop where
 mem:it∈fp
 obj:∀i h,tn i h->∀b∈fp,∃o,h.get? b=some o/\∀v,o.data≠.cell v
 keep:∀i h h',tn i h->(∀b∈fp,∀o,h.get? b=some o->h'.get? b=some o)->tn i h'
 item:∀(X:Cx),X.prog=P->X.w=w->X.K=K->X.calm=true->∀(i:Nat)(aa:Ψ)(s:Shared)(σ:St)(H:Hp)(E:Ω),Inv X aa σ H s->(∀b∈fp,ck X aa H b)->tn i s.heap->J.go i H->
  wpAny (model P w) X.A (pyNext (.ref it)) (fun r s1=>∃u,r=some u/\
   wpAny (model P w) X.A (letOwnedTupleGo tg (.ref it) u) (fun _ s2=>∃x H',Inv X aa σ H' s2/\RelV x u/\J.yld i H x H'/\tn (i+1) s2.heap/\∀b∈fp,H' b=none) E s1) E s
 done:∀(X:Cx),X.prog=P->X.w=w->X.K=K->X.calm=true->∀(i:Nat)(aa:Ψ)(s:Shared)(σ:St)(H:Hp)(E:Ω),Inv X aa σ H s->(∀b∈fp,ck X aa H b)->tn i s.heap->J.stop i H->
  wpAny (model P w) X.A (pyNext (.ref it)) (fun r s1=>r=none/\Inv X aa σ H s1) E s
 self:∀(A:Around)(i:Nat)(s:Shared)(Q:Ω)(E:Ω),tn i s.heap->Q (.ref it) s->wpAny (model P w) A (pyIter (.ref it)) Q E s
abbrev TI:=St->Hp->(It->Hp->Prop)->Prop
def FE(X:Cx)(aa:Ψ)(σ:St)(tg:Expr)(R:It->Hp->Prop)(d:Value)(c:Shared):Prop:=
 ∃(it:Addr)(a:List Addr)(tn:Nat->Heap->Prop)(J:It)(H':Hp),d=.ref it/\Inv X aa σ H' c/\Turn X.prog X.w X.K tg J a it tn/\tn 0 c.heap/\(∀b∈a,ck X aa H' b)/\R J H'
def PI(X:Cx)(tg iter:Expr)(wi:TI):Prop:=
 ∀(aa:Ψ)(s:Shared)(σ:St)(H:Hp)(R:It->Hp->Prop),Inv X aa σ H s->wi σ H R->
  wpAny (model X.prog X.w) X.A (eval iter X.env) (fun v a=>wpAny (model X.prog X.w) X.A (pyIter v) (FE X aa σ tg R) X.xe a) X.xe s
def FF{M:Model}{A:Around}{E:Ω}{s:Shared}{tg:Expr}{it:Addr}{u:Value}{o:Obj}{n:String}{vs:Array Value}{Q:Unit->Shared->Prop}(b:s.heap.get? it=some o)(hc:o.cls=.type n)(hd:o.data=.fields vs)(c:["enumerate","zip","dict_itemiterator","dict_reverseitemiterator","odict_iterator","itertools.zip_longest","itertools.pairwise"].contains n=false)(a:Q () s):wpAny M A (letOwnedTupleGo tg (.ref it) u) Q E s:=by
 unfold letOwnedTupleGo;cases tg<;>first
  |exact Aq a
  |(cases u<;>first
    |exact Aq a
    |(refine Ag (wpAny_load b ?_);rw[hc,hd];show wpAny M A (if(["enumerate","zip","dict_itemiterator","dict_reverseitemiterator","odict_iterator","itertools.zip_longest","itertools.pairwise"].contains n&&vs[0]?==some (rawInt _))=true then _ else _) Q E s;rw[if_neg (by intro h;rw[c,Bool.false_and] at h;cases h)];exact Aq a))
def eU(K:Ah)(a:Addr):It:=
 ⟨fun i H=>∃xs x,SqL K H a xs/\xs[i]?=some x,fun i H x H'=>H'=H/\∀xs,SqL K H a xs->xs[i]?=some x,fun i H=>∃xs,SqL K H a xs/\xs.length<=i⟩
def i0(lo:Int)(n:Nat):It:=⟨fun i _=>i<n,fun i H x H'=>H'=H/\x=.int (lo+i),fun i _=>n<=i⟩
def uZ{P:Program}{w:World}{K:Ah}{tg:Expr}(a it:Addr):Turn P w K tg (eU K a) [it] it (fun i h=>h.IsListIter it a i) where
 mem:=by simp
 obj:=fun i h st b hb=>by
  have e:b=it:=by simpa using hb
  subst e;obtain⟨o,e,c,d⟩:=st;exact⟨o,e,fun v z=>by rw[d] at z;cases z⟩
 keep:=fun i h h' st k=>st.at fun o e=>k it (by simp) o e
 item:=by
  intro X g hw j hc i aa s σ H E I f st hg;subst g hw j;obtain⟨xs,x,hq,hx⟩:=hg;obtain⟨G,l,p,hz⟩:=I.list hq;obtain⟨u,J,L⟩:=l.get hx;obtain⟨q,f1,f2,r,y,A⟩:=f it (by simp);refine wpAny_pyNext_list_item st p.isList (x:=u) (by simpa using J) fun h' C D=>?_;have M:Inv X aa σ H {s with heap:=h'}:=I.turned (t':=s.toks) (fun b o hb e=>(D.2 b hb).trans e) q f1 r y A;obtain⟨o,e,c,d⟩:=id C;exact⟨u,rfl,FF (s:={s with heap:=h'}) e c d ξ ⟨x,H,M,L,⟨rfl,fun ys hy=>by rw[I.list_inj hy hq];exact hx⟩,C,fun b hb=>(f b hb).1⟩⟩
 done:=by
  intro X g hw j hc i aa s σ H E I f st hg;subst g hw j;obtain⟨xs,hq,hx⟩:=hg;obtain⟨G,l,p,hz⟩:=I.list hq;obtain⟨q,f1,f2,r,y,A⟩:=f it (by simp);have N:=l.length;exact wpAny_pyNext_list_end (I.ok.hd hc) st p.isList (by simp;(first|lia|omega)) fun h' F=>⟨rfl,I.turned (t':=s.toks) (fun b o hb e=>F b o hb e) q f1 r y A⟩
 self:=fun _ _ _ _ _ st h=>wpAny_pyIter_listiter st h
def Mu{P:Program}{w:World}{K:Ah}{tg:Expr}(it:Addr)(lo:Int)(n:Nat):Turn P w K tg (i0 lo n) [it] it (fun i h=>IsRangeIter h it (lo+(i:Nat)*1) ((n:Int)-(i:Nat)) 1) where
 mem:=by simp
 obj:=fun i h st b hb=>by
  have e:b=it:=by simpa using hb
  subst e;exact⟨_,st,fun v z=>by
   have u:Data.fields _=Data.cell v:=z;cases u⟩
 keep:=fun i h h' st k=>k it (by simp) _ st
 item:=by
  intro X c hw d hc i aa s σ H E I a st hg;subst c hw d;obtain⟨f,f1,f2,g,j,l⟩:=a it (by simp);have W:=Walks.range (prog:=X.prog) (w:=X.w) (I.ok.hd hc) it lo 1 n;refine W.item i s _ _ hg st fun v h' tk hv p q=>?_;obtain⟨t,rfl⟩:=hv;have x:Inv X aa σ H {s with heap:=h',toks:=tk}:=I.turned (fun b o hb e=>q b o (by simpa using hb) e) f f1 g j l;refine⟨_,rfl,FF (s:={s with heap:=h',toks:=tk}) (n:="range_iterator") p rfl rfl ξ ⟨.int (lo+i),H,x,⟨t,?_⟩,⟨rfl,rfl⟩,p,fun b hb=>(a b hb).1⟩⟩;rw[Int.mul_one]
 done:=by
  intro X c hw d hc i aa s σ H E I a st hg;subst c hw d;obtain⟨f,f1,f2,g,j,l⟩:=a it (by simp);exact wpAny_pyNext_range_end (I.ok.hd hc) st (by have:n<=i:=hg;(first|lia|omega)) fun h' r=>⟨rfl,I.turned (t':=s.toks) (fun b o hb e=>r b o hb e) f f1 g j l⟩
 self:=fun _ _ _ _ _ st h=>wpAny_pyIter_rangeiter st h
section
variable{X:Cx}{tg:Expr}
def Mv(K:Ah)(tl:TE):TI:=fun σ H R=>tl σ H fun x H1=>∃a,x=.ref a/\(∃xs,SqL K H1 a xs)/\R (eU K a) H1
def zM{l:Expr}{tl:TE}(f:PE X l tl):PI X tg l (Mv X.K tl):=by
 intro aa s σ H R I h;refine aR (f aa s σ H _ I h) fun v c ⟨x,H1,I1,r1,d⟩=>?_;obtain⟨a,e,⟨xs,hq⟩,q⟩:=d;subst e;cases r1;obtain⟨g,i,p,hz⟩:=I1.list hq;refine wpAny_pyIter_list p.isList ?_;refine⟨c⁻¹,[c⁻¹],_,_,H1,rfl,I1.kept (t':=c.toks) fun b o e=>Ai _ e,uZ a _,⟨_,AO _ rfl,rfl,rfl⟩,fun b hb=>?_,q⟩;have e:b=c⁻¹:=by simpa using hb
 subst e;exact I1.fpOk (Ad _) (I1.hok.fresh (Ad _))
def Mw{aa:Ψ}{σ:St}{H:Hp}{s:Shared}{R:It->Hp->Prop}{E:Ω}{lo hi:Int}{t u v:Tok}{tk:Nat}(I:Inv X aa σ H s)(h1:-(2 ^ 62)<=lo)(h2:lo<2 ^ 62)(a:-(2 ^ 62)<=hi)(c:hi<2 ^ 62)(q:R (i0 lo (hi-lo).toNat) H):wpAny (model X.prog X.w) X.A (pyIter (.ref s⁻¹)) (FE X aa σ tg R) E {s with heap:=s.heap.push {cls:=.type "range",data:=.fields #[.int lo t,.int hi u,.int 1 v]},toks:=tk}:=by
 refine wpAny_pyIter_range (IsRange.new ..) (small_one h1 h2 a c) ?_;have I1:Inv X aa σ H {s with heap:=s.heap.push {cls:=.type "range",data:=.fields #[.int lo t,.int hi u,.int 1 v]},toks:=tk}:=I.kept fun b o e=>Ai _ e;refine⟨(s.heap.push {cls:=.type "range",data:=.fields #[.int lo t,.int hi u,.int 1 v]}).objs.size,[(s.heap.push {cls:=.type "range",data:=.fields #[.int lo t,.int hi u,.int 1 v]}).objs.size],_,_,H,rfl,
  I1.kept (t':=tk) fun b o e=>Ai _ e,Mu _ lo (hi-lo).toNat,?_,fun b hb=>?_,q⟩
 ·have e1:lo+((0:Nat):Int)*1=lo:=by simp
  have e2:(((hi-lo).toNat:Nat):Int)-((0:Nat):Int)=Builtin.Range.rangeSize lo hi 1:=by rw[rangeSize_one];split<;>(first|lia|omega)
  show IsRangeIter _ _ (lo+((0:Nat):Int)*1) ((((hi-lo).toNat:Nat):Int)-((0:Nat):Int)) 1;rw[e1,e2];exact AO _ rfl
 ·have e:b=(s.heap.push {cls:=.type "range",data:=.fields #[.int lo t,.int hi u,.int 1 v]}).objs.size:=by simpa using hb
  subst e;exact I1.fpOk (Ad _) (I1.hok.fresh (Ad _))
def Iy(ta:TA):TI:=fun σ H R=>ta σ H fun vs H1=>∃j:Int,vs=[.int j]/\-(2 ^ 62)<=j/\j<2 ^ 62/\R (i0 0 j.toNat) H1
def iw{a:Expr}{ta:TA}{p pos:Pos}(hg:Gl X "range")(d:X.mg "range"=none)(f:PA X [a] ta)(g:starEach [a] X.env=[(false,eval a X.env)]:=by rfl):PI X tg (.Call (.Name "range" p) [a] [] pos) (Iy ta):=by
 intro aa s σ H R I h;refine Call_ (kQ I hg d boot_range (PyProof.Rows.callWith_type1 (aR (f pos aa s σ H _ I h) fun us l ⟨vs,H1,i,r1,b⟩=>?_) g rfl));obtain⟨j,e,b,c,q⟩:=b;subst e;cases r1 with
 |cons r rr=>
  cases rr;obtain⟨t,rfl⟩:=r;exact call_range_1 (Mw i ω ω b c (by simpa using q))
def FG(wi:TI)(g:TG)(tb:TS):TS:=fun D σ H=>wi σ H fun J H1=>∃W:Nat->Nat->St->Hp->Prop,(∃m,W 0 m σ H1)/\∀i m σ H,W i m σ H->
 (J.stop i H/\D.nx σ H)\/(J.go i H/\∃N:St->Hp->Prop,(∀ad H',N ad H'->∃a,a<m/\W (i+1) a ad H')/\∀x H',J.yld i H x H'->g x σ H' fun b H2=>tb {D with nx:=N,ct:=N,bk:=D.nx} b H2)
def u7(a:List Addr)(h:Heap):Ψ:=a.filterMap fun b=>(h.get? b).map fun o=>(b,o)
def DI{a:List Addr}{h:Heap}{b:Addr}{o:Obj}(hb:b∈a)(e:h.get? b=some o):(b,o)∈u7 a h:=List.mem_filterMap.mpr ⟨b,hb,by rw[e];rfl⟩
def Mx{a:List Addr}{h:Heap}{p:Addr×Obj}(hp:p∈u7 a h):p.1∈a/\h.get? p.1=some p.2:=by
 obtain⟨b,hb,e⟩:=List.mem_filterMap.mp hp;cases q:h.get? b with
 |none=>rw[q] at e;cases e
 |some o=>
  rw[q] at e;have c:(b,o)=p:=AY e;subst c;exact⟨hb,q⟩
def Inv.pinned{aa:Ψ}{σ:St}{H:Hp}{s:Shared}{a:List Addr}(I:Inv X aa σ H s)(g:∀b∈a,ck X aa H b)(h:∀b∈a,∃o,s.heap.get? b=some o/\∀v,o.data≠.cell v):Inv X (aa++u7 a s.heap) σ H s:=
 I.pins_of fun p hp=>(List.mem_append.mp hp).elim (fun z=>I.pin p (Ax _ z)) fun z=>by
  obtain⟨hb,e⟩:=Mx z;obtain⟨f,f1,f2,_⟩:=g p.1 hb;obtain⟨o,c,d⟩:=h p.1 hb;rw[e] at c;cases c;exact⟨e,f,f1,f2,d⟩
def Inv.unpinned{aa pl:Ψ}{σ:St}{H:Hp}{s:Shared}(I:Inv X (aa++pl) σ H s):Inv X aa σ H s:=I.pins_of fun p hp=>I.pin p (Ax _ (AV _ hp))
def eX{iter:Expr}{P:List Stmt}{wi:TI}{g:TG}{tb:TS}{pos:Pos}(hp:PassesOwn (model X.prog X.w) X.A X.env X.xe)(hc:X.calm=true)(hi:PI X tg iter wi)(hg:PG X tg g)(hb:PSs X P tb)(hs:∀x,foldedSetIterable iter X.env x=pure x:=by intro _;rfl):PS X (.For tg iter P [] pos) (FG wi g tb):=by
 intro aa s σ H D I h;refine wpAny_For (aR (hi aa s σ H _ I h) fun v s1 h1=>aR h1 fun lD s2 h2=>?_) hs;obtain⟨it,y,tn,J,H2,e,I2,T,dH,f2,W,⟨m0,w0⟩,turn⟩:=h2;subst e;have c:∀{H':Hp},(∀b∈y,H' b=none)->∀b∈y,ck X aa H' b:=fun U b hb=>⟨U b hb,(f2 b hb).2⟩;refine codeAny_forLoop_any (fun n s'=>∃i ad H',Inv X aa ad H' s'/\tn i s'.heap/\(∀b∈y,H' b=none)/\W i n ad H') ?_ m0 ⟨0,σ,H2,I2,dH,fun b hb=>(f2 b hb).1,w0⟩;rintro n L ⟨i,z,C,S,M,O,w3⟩;rcases turn i n z C w3 with ⟨stop,qn⟩|⟨go,N,hN,step⟩
 ·refine wpAny_passesOwn hp (aR (T.done X rfl rfl rfl hc i aa L z C X.xe S (c O) M stop) fun r Y ⟨hr,I4⟩=>?_)
  subst hr;exact wpAny_execs_nil ⟨z,C,I4,qn⟩
 ·refine wpAny_passesOwn hp (aR (T.item X rfl rfl rfl hc i aa L z C X.xe S (c O) M go) fun r Y ⟨u,hr,Z⟩=>?_)
  subst hr;refine wpAny_passesOwn hp (aR Z fun _ G ⟨x,Q,I5,r5,y5,p,E⟩=>?_);have nh:=I5.pinned (c E) (T.obj _ _ p);refine wpAny_passesOwn hp (aR (hg _ G z Q x u _ nh r5 (step x Q y5)) fun _ s6 ⟨iV,H6,I6,q6⟩=>?_);refine wpAny_passesOwn hp (aR (hb _ s6 iV H6 _ I6 q6) fun f F l=>?_);have again:∀{a:St}{j:Hp},Inv X (aa++u7 y G.heap) a j F->N a j->∃m,m<n/\∃i ad H',Inv X aa ad H' F/\tn i F.heap/\(∀b∈y,H' b=none)/\W i m ad H':=fun{a j} I7 q=>by
   obtain⟨m',hm,w7⟩:=hN a j q;refine⟨m',hm,i+1,a,j,I7.unpinned,T.keep _ _ _ p fun b hb o e=>(I7.pin (b,o) (Ax _ (Ax _ (DI hb e)))).1,fun b hb=>?_,w7⟩;obtain⟨o,e,d⟩:=T.obj _ _ p b hb;exact(I7.pin (b,o) (Ax _ (Ax _ (DI hb e)))).2.1
  cases f with
  |next=>obtain⟨a,j,I7,q⟩:=l;exact again I7 q
  |cont=>obtain⟨a,j,I7,q⟩:=l;exact again I7 q
  |brk=>obtain⟨a,j,I7,l⟩:=l;exact⟨a,j,I7.unpinned,l⟩
  |ret v=>obtain⟨x7,a,j,I7,r7,l⟩:=l;exact⟨x7,a,j,I7.unpinned,r7,l⟩
end
def my{K:Ah}{a:Addr}{xs:List V}{g:TG}{tb:TS}{D:Ends}{σ:St}{H:Hp}(b:Nat->St->Hp->Prop)(j:b 0 σ H)(l:∀i σ H,i<=xs.length->b i σ H->SqL K H a xs)(o:∀i x σ H,xs[i]?=some x->b i σ H->g x σ H fun d H2=>tb {D with nx:=b (i+1),ct:=b (i+1),bk:=D.nx} d H2)(hd:∀σ H,b xs.length σ H->D.nx σ H):∃W:Nat->Nat->St->Hp->Prop,(∃m,W 0 m σ H)/\∀i m σ H,W i m σ H->
   ((eU K a).stop i H/\D.nx σ H)\/((eU K a).go i H/\∃N:St->Hp->Prop,(∀ad H',N ad H'->∃f,f<m/\W (i+1) f ad H')/\∀x H',(eU K a).yld i H x H'->g x σ H' fun d H2=>tb {D with nx:=N,ct:=N,bk:=D.nx} d H2):=by
 refine⟨fun i m σ H=>m=xs.length-i/\i<=xs.length/\b i σ H,⟨xs.length,by simp,Ap _,j⟩,?_⟩;rintro i m σ H ⟨rfl,hi,p⟩;have q:=l i σ H hi p
 by_cases c:i<xs.length
 ·refine .inr ⟨⟨xs,xs[i],q,by simp[c]⟩,b (i+1),fun ad H' h=>⟨xs.length-(i+1),ω,rfl,c,h⟩,fun x H' y=>?_⟩
  obtain⟨e,y⟩:=y;subst e;exact o i x σ _ (y xs q) p
 ·have e:i=xs.length:=ω
  subst e;exact .inl ⟨⟨xs,q,Ad _⟩,hd σ H p⟩
def DJ{lo:Int}{n:Nat}{g:TG}{tb:TS}{D:Ends}{σ:St}{H:Hp}(b:Nat->St->Hp->Prop)(h:b 0 σ H)(j:∀i σ H,i<n->b i σ H->g (.int (lo+i)) σ H fun c H2=>tb {D with nx:=b (i+1),ct:=b (i+1),bk:=D.nx} c H2)(hd:∀σ H,b n σ H->D.nx σ H):∃W:Nat->Nat->St->Hp->Prop,(∃m,W 0 m σ H)/\∀i m σ H,W i m σ H->
   ((i0 lo n).stop i H/\D.nx σ H)\/((i0 lo n).go i H/\∃N:St->Hp->Prop,(∀ad H',N ad H'->∃d,d<m/\W (i+1) d ad H')/\∀x H',(i0 lo n).yld i H x H'->g x σ H' fun c H2=>tb {D with nx:=N,ct:=N,bk:=D.nx} c H2):=by
 refine⟨fun i m σ H=>m=n-i/\i<=n/\b i σ H,⟨n,by simp,Ap _,h⟩,?_⟩;rintro i m σ H ⟨rfl,hi,p⟩
 by_cases a:i<n
 ·refine .inr ⟨a,b (i+1),fun ad H' f=>⟨n-(i+1),ω,rfl,a,f⟩,fun x H' y=>?_⟩
  obtain⟨e,y⟩:=y;subst e y;exact j i σ _ a p
 ·have e:i=n:=ω
  subst e;exact .inl ⟨Ad _,hd σ H p⟩
abbrev R2:=V->V->Hp->VK->Prop
def cI(X:Cx)(f:Value->Value->Sem Value)(r:R2):Prop:=
 ∀(aa:Ψ)(s:Shared)(σ:St)(H:Hp)(x y:V)(v u:Value)(Q:VK),Inv X aa σ H s->RelV x v->RelV y u->r x y H Q->
  wpAny (model X.prog X.w) X.A (f v u) (EP X aa σ Q) X.xe s
def FH(X:Cx)(f:Value->Sem Value)(r:V->Hp->VK->Prop):Prop:=
 ∀(aa:Ψ)(s:Shared)(σ:St)(H:Hp)(x:V)(v:Value)(Q:VK),Inv X aa σ H s->RelV x v->r x H Q->
  wpAny (model X.prog X.w) X.A (f v) (EP X aa σ Q) X.xe s
def f'(X:Cx)(f:Value)(r:List V->Hp->VK->Prop):Prop:=
 ∀(aa:Ψ)(s:Shared)(σ:St)(H:Hp)(xs:List V)(us:List Value)(Q:VK),Inv X aa σ H s->Vals xs us->r xs H Q->
  wpAny (model X.prog X.w) X.A (call f us) (EP X aa σ Q) X.xe s
def cn(r:R2)(ta tb:TE):TE:=fun σ H Q=>ta σ H fun x H1=>tb σ H1 fun y H2=>r x y H2 Q
def Iz(r:V->Hp->VK->Prop)(ta:TE):TE:=fun σ H Q=>ta σ H fun x H1=>r x H1 Q
def rI(C:Int->Int->Prop)(g:Int->Int->V):R2:=fun x y H Q=>∃i j,x=.int i/\y=.int j/\C i j/\Q (g i j) H
def g0(g:Int->Int->V):R2:=fun x y H Q=>∃i j,x=.int i/\y=.int j/\Q (g i j) H
def rU(g:Int->V):V->Hp->VK->Prop:=fun x H Q=>∃i,x=.int i/\Q (g i) H
section
variable{X:Cx}{a b c:Expr}{ta tb tc:TE}{pos:Pos}
def mC(l:PE X a ta)(hb:PE X b tb){aa:Ψ}{s:Shared}{σ:St}{H:Hp}{R:V->V->Hp->Prop}(I:Inv X aa σ H s)(h:ta σ H fun x H1=>tb σ H1 fun y H2=>R x y H2){Q:Ω}{f:Value->Value->Sem Value}(o:∀v u c x y H2,Inv X aa σ H2 c->RelV x v->RelV y u->R x y H2->wpAny (model X.prog X.w) X.A (f v u) Q X.xe c):wpAny (model X.prog X.w) X.A (eval a X.env) (fun v d=>wpAny (model X.prog X.w) X.A (eval b X.env) (fun u e=>wpAny (model X.prog X.w) X.A (f v u) Q X.xe e) X.xe d) X.xe s:=by
 refine aR (l aa s σ H _ I h) fun v g ⟨x,H1,p,r1,i⟩=>?_;refine aR (hb aa g σ H1 _ p i) fun u c ⟨y,H2,q,r2,j⟩=>?_;exact o v u c x y H2 q r1 r2 j
def zA{c:Operator}{r:R2}(g:cI X (binaryOp c) r)(i:PE X a ta)(hb:PE X b tb):PE X (.BinOp a c b pos) (cn r ta tb):=by
 intro aa s σ H Q I h;exact wpAny_BinOp (mC i hb I h fun v u d x y H2 j e f q=>g aa d σ H2 x y v u Q j e f q)
def mJ{b:UnaryOp}{r:V->Hp->VK->Prop}(e:FH X (unaryOp b) r)(f:PE X a ta):PE X (.UnaryOp b a pos) (Iz r ta):=by
 intro aa s σ H Q I h;exact UnaryOp_ (aR (f aa s σ H _ I h) fun v c ⟨x,H1,g,r1,d⟩=>e aa c σ H1 x v Q g r1 d)
def p7{f:Value->Value->Sem Value}{C:Int->Int->Prop}{g:Int->Int->Int}(rule:∀(i j:Int)(t u:Tok)(s:Shared)(Q:Ω)(E:Ω),C i j->Q (.int (g i j) s.toks) {s with toks:=s.toks+1}->wpAny (model X.prog X.w) X.A (f (.int i t) (.int j u)) Q E s):cI X f (rI C fun i j=>.int (g i j)):=by
 intro aa s σ H x y v u Q I a b h;obtain⟨i,j,rfl,rfl,hc,q⟩:=h;obtain⟨t,rfl⟩:=a;obtain⟨t',rfl⟩:=b;exact rule i j t t' s _ _ hc ⟨.int (g i j),H,I.tok _,⟨_,rfl⟩,q⟩
def vr{f:Value->Value->Sem Value}{g:Int->Int->Int}(rule:∀(i j:Int)(t u:Tok)(s:Shared)(Q:Ω)(E:Ω),Q (.int (g i j) s.toks) {s with toks:=s.toks+1}->wpAny (model X.prog X.w) X.A (f (.int i t) (.int j u)) Q E s):cI X f (g0 fun i j=>.int (g i j)):=by
 intro aa s σ H x y v u Q I a b h;obtain⟨i,j,rfl,rfl,q⟩:=h;obtain⟨t,rfl⟩:=a;obtain⟨t',rfl⟩:=b;exact rule i j t t' s _ _ ⟨.int (g i j),H,I.tok _,⟨_,rfl⟩,q⟩
def mM{f:Value->Value->Sem Value}{g:Int->Int->Bool}(rule:∀(i j:Int)(t u:Tok)(s:Shared)(Q:Ω)(E:Ω),Q (.bool (g i j)) s->wpAny (model X.prog X.w) X.A (f (.int i t) (.int j u)) Q E s):cI X f (g0 fun i j=>.bl (g i j)):=by
 intro aa s σ H x y v u Q I a b h;obtain⟨i,j,rfl,rfl,q⟩:=h;obtain⟨t,rfl⟩:=a;obtain⟨t',rfl⟩:=b;exact rule i j t t' s _ _ ⟨.bl (g i j),H,I,rfl,q⟩
def vu(i j:Int):Prop:=0<j/\j<1073741824
def vv(i j:Int):Prop:=0<=j/\j<=1000000/\i.natAbs<2 ^ 64
def CMul(i j:Int):Prop:=(-(2 ^ 64)<i/\i<2 ^ 64)\/(-(2 ^ 64)<j/\j<2 ^ 64)
def CMul.ok{i j:Int}(h:CMul i j):IntMulOk i j:=by
 rcases h with ⟨h1,h2⟩|⟨h1,h2⟩
 ·exact .of_left (intBits_le_64 h1 h2)
 ·exact .of_right (intBits_le_64 h1 h2)
def dP:cI X (binaryOp .Add) (g0 fun i j=>.int (i+j)):=vr fun _ _ _ _ _ _ _ q=>add_int q
def eR:cI X (binaryOp .Sub) (g0 fun i j=>.int (i-j)):=vr fun _ _ _ _ _ _ _ q=>sub_int q
def jy:cI X (binaryOp .Mult) (rI CMul fun i j=>.int (i*j)):=p7 fun _ _ _ _ _ _ _ hc q=>mul_int q hc.ok
def FI:cI X (binaryOp .FloorDiv) (rI vu fun i j=>.int (i / j)):=p7 fun i j _ _ _ _ _ hc q=>by
 have h1:(0:Int)<j:=hc.1;have h2:j<1073741824:=hc.2;exact floordiv_int ω (by rw[Int.fdiv_eq_ediv_of_nonneg i ω];exact q) (.inl (PyProof.noPylong_small ω))
def jz:cI X (binaryOp .Mod) (rI (fun _ j=>0<j) fun i j=>.int (i%j)):=p7 fun i j _ _ _ _ _ hc q=>by
 have h1:(0:Int)<j:=hc;exact mod_int' ω (by rw[Int.fmod_eq_emod_of_nonneg i ω];exact q)
def FJ:cI X (binaryOp .Pow) (rI vv fun i j=>.int (i ^ j.toNat)):=p7 fun _ _ _ _ _ _ _ hc q=>pow_int_small hc.1 hc.2.1 hc.2.2 q
def Mz{f:Value->Sem Value}{g:Int->Int}(rule:∀(i:Int)(t:Tok)(s:Shared)(Q:Ω)(E:Ω),Q (.int (g i) s.toks) {s with toks:=s.toks+1}->wpAny (model X.prog X.w) X.A (f (.int i t)) Q E s):FH X f (rU fun i=>.int (g i)):=by
 intro aa s σ H x v Q I a h;obtain⟨i,rfl,q⟩:=h;obtain⟨t,rfl⟩:=a;exact rule i t s _ _ ⟨.int (g i),H,I.tok _,⟨_,rfl⟩,q⟩
def mN:FH X (unaryOp .USub) (rU fun i=>.int (-i)):=Mz fun _ _ _ _ _ q=>neg_int q
end
def vA:V->V->Bool
 |.non,.non=>true|.non,.int _=>true|.int _,.non=>true|.non,.bl _=>true|.bl _,.non=>true|.non,.str _=>true|.str _,.non=>true
 |.int _,.int _=>true|.bl _,.bl _=>true|.str _,.str _=>true|.byt _,.byt _=>true
 |.int _,.str _=>true|.str _,.int _=>true|.bl _,.str _=>true|.str _,.bl _=>true
 |_,_=>false
def IA:R2:=fun x y H Q=>vA x y=true/\Q (.bl (decide (x=y))) H
def FK:R2:=fun x y H Q=>vA x y=true/\Q (.bl (!decide (x=y))) H
def i4{i j:Int}:decide (V.int i=V.int j)=(i==j):=by
 rw[Bool.eq_iff_iff];simp
def iy{i j:Bool}:decide (V.bl i=V.bl j)=(i==j):=by
 rw[Bool.eq_iff_iff];simp
def IB{i j:Str}:decide (V.str i=V.str j)=(i==j):=by
 rw[Bool.eq_iff_iff];simp
def IC{i j:Array UInt8}:decide (V.byt i=V.byt j)=(i.toList==j.toList):=by
 rw[Bool.eq_iff_iff];cases i;cases j;simp
section
variable{X:Cx}{a b c:Expr}{ta tb tc:TE}{pos:Pos}
def aJ{aa:Ψ}{σ:St}{H:Hp}{s:Shared}{Q:VK}{k a:Bool}(I:Inv X aa σ H s)(q:Q (.bl k) H)(e:k=a):EP X aa σ Q (.bool a) s:=by
 subst e;exact⟨.bl k,H,I,rfl,q⟩
def hH:cI X (compareOp .Eq) IA:=by
 intro aa s σ H x y v u Q I c a h;obtain⟨b,q⟩:=h;cases x with
 |non=>
  cases c;cases y with
  |non=>cases a;exact PySem.EqNone.eq_none_none (aJ I q (by simp))
  |bl j=>cases a;exact PySem.EqNone.eq_none_bool (aJ I q (by simp))
  |int j=>obtain⟨t',rfl⟩:=a;exact PySem.EqNone.eq_none_int (aJ I q (by simp))
  |str j=>obtain⟨t',rfl⟩:=a;exact PySem.EqNone.eq_none_str (aJ I q (by simp))
  |_=>exact absurd (show false=true from b) AJ
 |bl i=>
  cases c;cases y with
  |non=>cases a;exact PySem.EqNone.eq_bool_none (aJ I q (by simp))
  |bl j=>cases a;exact eq_bool (aJ I q iy)
  |str j=>obtain⟨t',rfl⟩:=a;exact PySem.EqMixed.eq_bool_str (aJ I q (by simp))
  |_=>exact absurd (show false=true from b) AJ
 |int i=>
  obtain⟨t,rfl⟩:=c;cases y with
  |non=>cases a;exact PySem.EqNone.eq_int_none (aJ I q (by simp))
  |int j=>obtain⟨t',rfl⟩:=a;exact eq_int (aJ I q i4)
  |str j=>obtain⟨t',rfl⟩:=a;exact PySem.EqMixed.eq_int_str (aJ I q (by simp))
  |_=>exact absurd (show false=true from b) AJ
 |str i=>
  obtain⟨t,rfl⟩:=c;cases y with
  |non=>cases a;exact PySem.EqNone.eq_str_none (aJ I q (by simp))
  |bl j=>cases a;exact PySem.EqMixed.eq_str_bool (aJ I q (by simp))
  |int j=>obtain⟨t',rfl⟩:=a;exact PySem.EqMixed.eq_str_int (aJ I q (by simp))
  |str j=>obtain⟨t',rfl⟩:=a;exact eq_str (aJ I q IB)
  |_=>exact absurd (show false=true from b) AJ
 |byt i=>
  obtain⟨t,rfl⟩:=c;cases y with
  |byt j=>obtain⟨t',rfl⟩:=a;exact PySem.W.eq_bytes (aJ I q IC)
  |_=>exact absurd (show false=true from b) AJ
 |_=>cases y<;>exact absurd (show false=true from b) AJ
def gf:cI X (compareOp .NotEq) FK:=by
 intro aa s σ H x y v u Q I c a h;obtain⟨b,q⟩:=h;cases x with
 |non=>
  cases c;cases y with
  |non=>cases a;exact PySem.EqNone.ne_none_none (aJ I q (by simp))
  |bl j=>cases a;exact PySem.EqNone.ne_none_bool (aJ I q (by simp))
  |int j=>obtain⟨t',rfl⟩:=a;exact PySem.EqNone.ne_none_int (aJ I q (by simp))
  |str j=>obtain⟨t',rfl⟩:=a;exact PySem.EqNone.ne_none_str (aJ I q (by simp))
  |_=>exact absurd (show false=true from b) AJ
 |bl i=>
  cases c;cases y with
  |non=>cases a;exact PySem.EqNone.ne_bool_none (aJ I q (by simp))
  |bl j=>cases a;exact ne_bool (aJ I q (congrArg not iy))
  |str j=>obtain⟨t',rfl⟩:=a;exact PySem.EqMixed.ne_bool_str (aJ I q (by simp))
  |_=>exact absurd (show false=true from b) AJ
 |int i=>
  obtain⟨t,rfl⟩:=c;cases y with
  |non=>cases a;exact PySem.EqNone.ne_int_none (aJ I q (by simp))
  |int j=>obtain⟨t',rfl⟩:=a;exact ne_int (aJ I q (congrArg not i4))
  |str j=>obtain⟨t',rfl⟩:=a;exact PySem.EqMixed.ne_int_str (aJ I q (by simp))
  |_=>exact absurd (show false=true from b) AJ
 |str i=>
  obtain⟨t,rfl⟩:=c;cases y with
  |non=>cases a;exact PySem.EqNone.ne_str_none (aJ I q (by simp))
  |bl j=>cases a;exact PySem.EqMixed.ne_str_bool (aJ I q (by simp))
  |int j=>obtain⟨t',rfl⟩:=a;exact PySem.EqMixed.ne_str_int (aJ I q (by simp))
  |str j=>obtain⟨t',rfl⟩:=a;exact ne_str (aJ I q (congrArg not IB))
  |_=>exact absurd (show false=true from b) AJ
 |byt i=>
  obtain⟨t,rfl⟩:=c;cases y with
  |byt j=>obtain⟨t',rfl⟩:=a;exact PySem.W.ne_bytes (aJ I q (congrArg not IC))
  |_=>exact absurd (show false=true from b) AJ
 |_=>cases y<;>exact absurd (show false=true from b) AJ
def DK:cI X (compareOp .Lt) (g0 fun i j=>.bl (decide (i<j))):=mM fun _ _ _ _ _ _ _ q=>lt_int q
def jA:cI X (compareOp .Gt) (g0 fun i j=>.bl (decide (j<i))):=mM fun _ _ _ _ _ _ _ q=>gt_int q
def MA:cI X (compareOp .GtE) (g0 fun i j=>.bl (decide (j<=i))):=mM fun _ _ _ _ _ _ _ q=>ge_int q
def MB:cI X (compareOp .IsNot) (fun x y H Q=>y=.non/\Q (.bl (!decide (x=.non))) H):=by
 intro aa s σ H x y v u Q I a b h;obtain⟨rfl,q⟩:=h;cases b;refine isnot_none_gen (aJ I q ?_);cases x<;>first
  |(cases a;rfl)
  |(obtain⟨t,rfl⟩:=a;rfl)
def ap(b:Expr){a:CmpOp}(h:a≠.In:=by decide)(h2:a≠.NotIn:=by decide):behindInMarks a b=false:=by
 have e1:(a==CmpOp.In)=false:=by cases a<;>first|rfl|exact absurd rfl h
 have e2:(a==CmpOp.NotIn)=false:=by cases a<;>first|rfl|exact absurd rfl h2
 cases b<;>simp[behindInMarks,e1,e2]
def mP{c:CmpOp}{r:R2}(g:cI X (compareOp c) r)(i:PE X a ta)(hb:PE X b tb)(j:behindInMarks c b=false):PE X (.Compare a [c] [b] pos) (cn r ta tb):=by
 intro aa s σ H Q I h;exact wpAny_Compare1 (mC i hb I h fun v u d x y H2 l e f q=>g aa d σ H2 x y v u Q l e f q) j
def DL(t:TE):TT:=fun σ H Q=>t σ H fun x H'=>∃k,x=.bl k/\Q k H'
def zy{d:CmpOp}{r:R2}(p:cI X (compareOp d) r)(q:PE X a ta)(hb:PE X b tb)(w:behindInMarks d b=false):PT X (.Compare a [d] [b] pos) (DL (cn r ta tb)):=by
 intro aa s σ H Q I h;refine wpAny_isTrue_Compare1 (aR (q aa s σ H _ I h) fun v f ⟨x,H1,A,r1,g⟩=>aR (hb aa f σ H1 _ A g) fun u i ⟨y,H2,C,r2,j⟩=>
  aR (p aa i σ H2 x y v u _ C r1 r2 j) fun c F ⟨z,D,E,l,k,e,o⟩=>?_) w
 subst e;cases l;exact wpAny_truthy_bool ⟨D,E,o⟩
def dU:(sizeLine:Nat)<2 ^ 63:=by rw[sizeLine_eq];decide
def vals1{x:V}{us:List Value}(r:Vals [x] us):∃u,us=[u]/\RelV x u:=by
 cases r with
 |cons r1 r2=>cases r2;exact⟨_,rfl,r1⟩
def vals2{x y:V}{us:List Value}(r:Vals [x,y] us):∃u a,us=[u,a]/\RelV x u/\RelV y a:=by
 cases r with
 |cons r1 r2=>
  cases r2 with
  |cons r3 r4=>cases r4;exact⟨_,_,rfl,r1,r3⟩
def ID:f' X (.builtin "abs") (fun xs H Q=>∃i,xs=[.int i]/\Q (.int (if i<0 then -i else i)) H):=by
 intro aa s σ H xs us Q I r h;obtain⟨i,rfl,q⟩:=h;obtain⟨u,rfl,t,rfl⟩:=vals1 r;exact call_abs_int fun u tk=>⟨.int (if i<0 then -i else i),H,I.tok _,⟨_,rfl⟩,q⟩
def MC(hc:X.calm=true):f' X (.builtin "max") (fun xs H Q=>∃i j,xs=[.int i,.int j]/\Q (.int (if j>i then j else i)) H):=by
 intro aa s σ H xs us Q I r h;obtain⟨i,j,rfl,q⟩:=h;obtain⟨u,b,rfl,⟨t,rfl⟩,⟨t',rfl⟩⟩:=vals2 r;refine max_two_ints (I.ok.hd hc) fun h' tk k=>⟨_,H,I.kept k,?_,q⟩
 by_cases a:j>i
 ·rw[if_pos a,if_pos a];exact⟨_,rfl⟩
 ·rw[if_neg a,if_neg a];exact⟨_,rfl⟩
end
structure ObjM(h:Heap)(x dx C:Addr)(mA:Str->Option Value):Prop where
 obj:h.get? x=some (PySem.W.instObj C dx)
 ns:h.Ns1 dx mA
 ne:dx≠x
def MD{h:Heap}{dx:Addr}{mA:Str->Option Value}(n:h.Ns1 dx mA):∃b,h.get? dx=some b/\∀name,PySem.W.lookIn name b=some (mA name):=by
 obtain⟨o,es,ep,c,hd,hk,_,d⟩:=n;refine⟨o,c,fun name=>?_⟩;have e:=d name;unfold nsFind findBy at e;rw[<-Array.find?_toList] at e;unfold PySem.W.lookIn;rw[hd];dsimp only;split
 ·rename_i y q
  rw[q] at e;exact congrArg some e
 ·rename_i q
  rw[q] at e;have a:es.toList.any (·.refKey)=false:=by
   rw[List.any_eq_false];intro y hy;obtain⟨z,t,f⟩:=hk y (Array.mem_toList_iff.mp hy);simp[DictEntry.refKey,f]
  have a':¬es.toList.any (·.refKey)=true:=by rw[a];exact AJ
  rw[if_neg a'];exact congrArg some e
def ObjM.look{h:Heap}{x dx C:Addr}{mA:Str->Option Value}(I:ObjM h x dx C mA):∃a,PySem.W.InstAt h x (PySem.W.instObj C dx) C (some a)/\∀name,PySem.W.lookIn name a=some (mA name):=
 let ⟨a,ho,hl⟩:=MD I.ns
 ⟨a,⟨I.obj,rfl,rfl,ho⟩,hl⟩
def RelO.some_of{v:V}{o:Option Value}(r:RelO (some v) o):∃u,o=some u/\RelV v u:=by
 cases o with
 |none=>exact(show False from r).elim
 |some u=>exact⟨u,rfl,r⟩
section
variable{P:Program}{w:World}{H H':Hp}{h h':Heap}{a C dx:Addr}{fs vt:List (Str×V)}
def ME(b:HOk P w H h)(e:H a=some (.ins C dx fs)):∃mA,ObjM h a dx C mA/\(∀f,RelO (fs.lookup f) (mA f))/\PySem.Within mA (fs.map (·.1))/\fs.length<=1000/\H dx=some (.own a):=by
 obtain⟨d,z,ne,c,mA,n,r,q⟩:=(show zak P w H h a (.ins C dx fs) from b a _ e);exact⟨mA,⟨c,n,ne⟩,r,q,z,d⟩
end
structure Cls(K:Ah)(C:Addr):Prop where
 pg:PySem.W.plainGet K C Str.empty=true
 hd:PySem.W.hasDictIn K C=true
 po:PySem.W.plainOver K C=true
 sa:PySem.W.findIn K (.ref C) "__setattr__"=some (some (.builtin "object.__setattr__"))
def Cls.get{K:Ah}{C:Addr}(c:Cls K C)(f:Str):PySem.W.plainGet K C f=true:=c.pg
section
variable{X:Cx}{aa:Ψ}{σ:St}{H:Hp}{s:Shared}{A:Around}{E:Ω}{Q:Ω}{c:Value}{b:Bool}
inductive cO(K:Ah)(H:Hp):V->Value->Prop where
 |non:cO K H .non (.type "NoneType")
 |bl (x:Bool):cO K H (.bl x) (.type "bool")
 |int (i:Int):cO K H (.int i) (.type "int")
 |str (x:Str):cO K H (.str x) (.type "str")
 |flt (x:UInt64):cO K H (.flt x) (.type "float")
 |lst {a:Addr} {xs:List V} (e:H a=some (.lst xs)):cO K H (.ref a) (.type "list")
 |frz {a:Addr} {o:Obj} {xs:List V} (e:H a=some (.frz o (.lst xs))):cO K H (.ref a) (.type "list")
 |tup {a:Addr} {xs:List V} (e:H a=some (.tup xs)):cO K H (.ref a) (.type "tuple")
 |dK {a:Addr} {kvs:List (Key×V)} (e:H a=some (.dK kvs)):cO K H (.ref a) (.type "dict")
 |dT {a:Addr} {kvs:List (List Key×V)} (e:H a=some (.dT kvs)):cO K H (.ref a) (.type "dict")
 |ins {a C dx:Addr} {fs:List (Str×V)} (e:H a=some (.ins C dx fs)) (cl:Cls K C) (ha:PySem.W.findIn K (.ref C) "__class__"=some (some (.builtin "object.__class__")))
   (hn:PySem.W.specialIn K (.builtin "object.__class__") "__get__"=some (some (.builtin "getset_descriptor.__get__"))) (jh:PySem.W.takesIn K (.builtin "object.__class__")=some true)
   (hm:PySem.W.mroIn K C (.type "object")=some true):cO K H (.ref a) (.ref C)
def FM{x:V}{u t:Value}(I:Inv X aa σ H s)(d:RelV x u)(ty:cO X.K H x t)(e:PySem.W.kitOne X.K t c=some b)(h:∀tk,Q (.bool b) {s with toks:=tk}):wpAny (model X.prog X.w) A (call (.builtin "isinstance") [u,c]) Q E s:=by
 cases ty with
 |non=>cases(show u=Value.none from d);exact PySem.W.kia_one PySem.W.kitx_none I.kIn True.intro e (fun z=>nomatch z) h
 |bl y=>cases(show u=Value.bool y from d);exact PySem.W.kia_one PySem.W.kitx_bool I.kIn True.intro e (fun z=>nomatch z) h
 |int i=>obtain⟨t,q⟩:=(show ∃t,u=Value.int i t from d);cases q;exact PySem.W.kia_one PySem.W.kitx_int I.kIn True.intro e (fun z=>nomatch z) h
 |str y=>obtain⟨t,q⟩:=(show ∃t,u=Value.str y t from d);cases q;exact PySem.W.kia_one PySem.W.kitx_str I.kIn True.intro e (fun z=>nomatch z) h
 |flt y=>obtain⟨t,q⟩:=(show ∃t,u=Value.float y t from d);cases q;exact PySem.W.kia_one PySem.W.kitx_float I.kIn True.intro e (fun z=>nomatch z) h
 |@lst a xs ea=>
  cases(show u=Value.ref a from d);obtain⟨_,_,n,_,h1⟩:=(show zak X.prog X.w H s.heap a (.lst xs) from I.hok a _ ea);exact PySem.W.kia_one PySem.W.kitx_list I.kIn ⟨_,h1,rfl⟩ e (fun z=>nomatch z) h
 |@frz a ob xs ea=>
  cases(show u=Value.ref a from d);obtain⟨_,_,_,n,_,h1⟩:=(show zak X.prog X.w H s.heap a (.frz ob (.lst xs)) from I.hok a _ ea);exact PySem.W.kia_one PySem.W.kitx_list I.kIn ⟨_,h1,rfl⟩ e (fun z=>nomatch z) h
 |@tup a xs ea=>
  cases(show u=Value.ref a from d);obtain⟨_,_,_,p⟩:=(show zak X.prog X.w H s.heap a (.tup xs) from I.hok a _ ea);obtain⟨o,h1,h2,_⟩:=p;exact PySem.W.kia_one PySem.W.kitx_tuple I.kIn ⟨o,h1,h2⟩ e (fun z=>nomatch z) h
 |@dK a kvs ea=>
  cases(show u=Value.ref a from d);obtain⟨_,_,vs,_,p⟩:=(show zak X.prog X.w H s.heap a (.dK kvs) from I.hok a _ ea);obtain⟨o,es,ep,h1,h2,_⟩:=p;exact PySem.W.kia_one PySem.W.kitx_dict I.kIn ⟨o,h1,h2.1⟩ e (fun z=>nomatch z) h
 |@dT a kvs ea=>
  cases(show u=Value.ref a from d);obtain⟨_,_,xs,_,o,es,ep,h1,h2,_⟩:=(show zak X.prog X.w H s.heap a (.dT kvs) from I.hok a _ ea);exact PySem.W.kia_one PySem.W.kitx_dict I.kIn ⟨o,h1,h2.1⟩ e (fun z=>nomatch z) h
 |@ins a C dx fs ea cl ha hn jh hm=>
  cases(show u=Value.ref a from d);obtain⟨mA,O,_⟩:=ME I.hok ea;obtain⟨f,J,_⟩:=O.look;exact PySem.W.kia_one (PySem.W.kitx_own (cl.get _) cl.hd ha hn jh hm) I.kIn J e (fun z=>nomatch z) h
end
structure Room(k:Nat)(A:Around):Prop where
 hd:A.handled=none
 dp:A.depth+3*k+5<recursionLimit
 un:A.units+16*k+200<cLine
def Room.mono{j k:Nat}{A:Around}(r:Room k A)(h:j<=k):Room j A:=⟨r.hd,by have:=r.dp;(first|lia|omega),by have:=r.un;(first|lia|omega)⟩
def Room.deeper{k:Nat}{A:Around}(r:Room (k+1) A)(env:Env):Room k (A.deeper env):=
 ⟨r.hd,by have:=r.dp;show A.depth+1+3*k+5<_;(first|lia|omega),by have:=r.un;show A.units+3+16*k+200<_;(first|lia|omega)⟩
def Room.in1{k:Nat}{A:Around}(r:Room (k+1) A):Room k A.in1:=
 ⟨r.hd,by have:=r.dp;show A.depth+3*k+5<_;(first|lia|omega),by have:=r.un;show A.units+1+16*k+200<_;(first|lia|omega)⟩
def Room.depth{k:Nat}{A:Around}(r:Room k A):A.depth<recursionLimit:=by have:=r.dp;(first|lia|omega)
def Room.units{k:Nat}{A:Around}(r:Room k A):A.units+64<cLine:=by have:=r.un;(first|lia|omega)
def bE:TA:=fun _ H Q=>Q [] H
def b_(ta:TE)(a:TA):TA:=fun σ H Q=>ta σ H fun x H1=>a σ H1 fun xs H2=>Q (x::xs) H2
section
variable{X:Cx}{e:Expr}{es:List Expr}{te:TE}{t:TA}{pos:Pos}
def zb:PA X [] bE:=fun _ _ _ _ H Q I h=>Calls.spliced_nil ⟨[],H,I,.nil,h⟩
def za(d:PE X e te)(hr:PA X es t)(f:starEach (e::es) X.env=(false,eval e X.env)::starEach es X.env:=by rfl):PA X (e::es) (b_ te t):=by
 intro pos aa s σ H Q I h;rw[f];show wpAny _ _ (spliced ((false,eval e X.env)::backTo pos (starEach es X.env))) _ _ s;refine Calls.spliced_cons (aR (d aa s σ H _ I h) fun u a ⟨x,H1,g,r1,b⟩=>?_);exact aR (hr pos aa a σ H1 _ g b) fun us j ⟨xs,H2,i,r2,c⟩=>⟨x::xs,H2,i,.cons r1 r2,c⟩
def FN(t:TA):TE:=fun σ H Q=>t σ H fun xs H1=>xs.length<=sizeLine/\∀p,H1 p=none->Q (.ref p) (upd H1 p (.tup xs))
def FO(t:TA):TE:=fun σ H Q=>t σ H fun xs H1=>xs.length<=sizeLine/\∀p,H1 p=none->Q (.ref p) (upd H1 p (.lst xs))
def hJ{x1}(h:PA X es t):PE X (.Tuple es x1 pos) (FN t):=by
 intro aa s σ H Q I hq;refine wpAny_Tuple_spliced (aR (h pos aa s σ H _ I hq) fun us a ⟨xs,H1,I1,r,z,q⟩=>⟨by rw[<-r.length];exact z,?_⟩);have c:H1 a⁻¹=none:=I1.hok.fresh (Ad _);refine⟨.ref a⁻¹,upd H1 a⁻¹ (.tup xs),I1.laid (t':=a.toks) (fun b u e=>Ai _ e) (Ad _) ?_,rfl,q _ c⟩;exact⟨z,us,r,⟨_,AO _ rfl,rfl,_,rfl⟩⟩
def iz(h:PA X es t):PE X (.List es pos) (FO t):=by
 intro aa s σ H Q I hq;refine wpAny_List_spliced (aR (h pos aa s σ H _ I hq) fun us a ⟨xs,H1,I1,r,z,q⟩=>⟨by rw[<-r.length];exact z,?_⟩);have c:H1 a⁻¹=none:=I1.hok.fresh (Ad _);refine⟨.ref a⁻¹,upd H1 a⁻¹ (.lst xs),I1.laid (t':=a.toks) (fun b u e=>Ai _ e) (Ad _) ?_,rfl,q _ c⟩;exact⟨z,us,0,r,AO _ rfl⟩
end
abbrev Sp:=List V->Hp->VK->XK->Prop
abbrev gh:=List Env->Hp->Shared->XK->Ω
structure Env0(P:Program)(w:World)(K:Ah)(mg:Str->Option Value)(base:Heap)(A:Around)(outer:List Env)(s:Shared)(H:Hp):Prop where
 frames:A.frames=some outer
 mod:Mod K mg base
 bs:∀b o,base.get? b=some o->s.heap.get? b=some o/\H b=none
 bsz:base.objs.size<=s⁻¹
 funs:s.heap.FunFrames base outer
 frf:∀b∈frs outer,H b=none
 hok:HOk P w H s.heap
 bare:AllBare s.gens
def CE(outer:List Env)(P:Program)(w:World)(H:Hp)(s:Shared)(Q:VK)(u:Value)(s':Shared):Prop:=
 ∃v H',s'.os=s.os/\AllBare s'.gens/\Un (frs outer) [] H H' s.heap s'.heap/\HOk P w H' s'.heap/\RelV v u/\Q v H'
def CR(CX:gh)(outer:List Env)(P:Program)(w:World)(H:Hp)(s:Shared)(Q:VK)(E:XK)(r:Result)(s':Shared):Prop:=
 match r with
 |.ok (.ret u)=>CE outer P w H s Q u s'
 |.ok _=>False
 |.error e=>CX outer H s E e s'
structure al(P:Program)(w:World)(K:Ah)(mg:Str->Option Value)(base:Heap)(CX:gh)(k:Nat)(f:Addr)(fd:FuncData)(ps:List Str)(sp:Sp):Prop where
 len:∀vs H Q E,sp vs H Q E->vs.length=ps.length
 run:∀(A:Around)(outer:List Env)(s:Shared)(H:Hp)(args:Args)(us:List Value)(vs:List V)(Q:VK)(E:XK),Room k A->Env0 P w K mg base A outer s H->BindsTo s fd args (ps.zip us)->Vals vs us->sp vs H Q E->
  codeAny (model P w) A (.call (.ref f) args) (CR CX outer P w H s Q E) s
def Env0.in1{P:Program}{w:World}{K:Ah}{mg:Str->Option Value}{base:Heap}{A:Around}{outer:List Env}{s:Shared}{H:Hp}(e:Env0 P w K mg base A outer s H):Env0 P w K mg base A.in1 outer s H:=⟨e.frames,e.mod,e.bs,e.bsz,e.funs,e.frf,e.hok,e.bare⟩
section
variable{X:Cx}{aa:Ψ}{σ:St}{H:Hp}{s s':Shared}
def Inv.env0(I:Inv X aa σ H s):Env0 X.prog X.w X.K X.mg X.base X.A X.stack s H:=
 ⟨I.ok.frames,I.ok.mod,I.bs,Ae I.ok.bsz I.sz,I.stack,I.stkFree,I.hok,I.bare⟩
def Inv.after{Q:VK}{u:Value}(I:Inv X aa σ H s)(h:CE X.stack X.prog X.w H s Q u s'):EP X aa σ Q u s':=by
 obtain⟨v,H',os,a,un,c,r,q⟩:=h;obtain⟨e,g,d,t,f⟩:=s';obtain rfl:f=s.os:=os;exact⟨v,H',I.call (h':=e) (g':=g) (d':=d) (t':=t) (ch:=[]) un c a (fun b z=>absurd z (by simp)),r,q⟩
end
def gp(sp:Sp)(eY:List V)(E:XK)(t:TA):TE:=fun σ H Q=>t σ H fun vs H1=>sp (vs++eY) H1 Q E
def Binds(K:Ah)(fd:FuncData)(ps:List Str)(ds:List Value):Prop:=
 ∀(s:Shared)(us:List Value),K.In s.heap->(us++ds).length=ps.length->BindsTo s fd ⟨us,[]⟩ (ps.zip (us++ds))
def Binds.all{K:Ah}{fd:FuncData}{ps:List Str}(h:∀us:List Value,us.length=ps.length->bindArgs fd ⟨us,[]⟩=pure (ps.zip us)):Binds K fd ps []:=fun s us _ a=>by
 rw[List.append_nil] at a ⊢;exact .of_eq (h us a)
def fg(CX:gh)(X:Cx)(E:XK):Prop:=∀(aa:Ψ)(σ:St)(H:Hp)(s:Shared)(e:Value)(s':Shared),Inv X aa σ H s->CX X.stack H s E e s'->X.xe e s'
section
variable{X:Cx}{CX:gh}{k:Nat}{f C:Addr}{fd:FuncData}{ps:List Str}{sp:Sp}{eY:List V}{ds:List Value}{E:XK}{x m:Str}{p pos bL:Pos}{e o:Expr}{es:List Expr}{ta:TE}{t:TA}
def MF{aa:Ψ}{σ:St}{H:Hp}{s:Shared}{Q:VK}{us:List Value}{vs:List V}(F:al X.prog X.w X.K X.mg X.base CX k f fd ps sp)(hr:Room k X.A)(hb:Binds X.K fd ps ds)(hd:Vals eY ds)(hx:fg CX X E)(I:Inv X aa σ H s)(r:Vals vs us)(h:sp (vs++eY) H Q E):wpAny (model X.prog X.w) X.A (call (.ref f) us) (EP X aa σ Q) X.xe s:=by
 have r2:Vals (vs++eY) (us++ds):=r.append hd;have a:(us++ds).length=ps.length:=by rw[<-r2.length];exact F.len _ _ _ _ h
 refine wpAny_call (codeAny_mono (F.run X.A X.stack s H ⟨us,[]⟩ (us++ds) (vs++eY) Q E hr I.env0 (hb s us I.kIn a) r2 h) fun r s' hq=>?_);cases r with
 |error e=>exact hx aa σ H s e s' I hq
 |ok fl=>
  cases fl with
  |ret u=>exact I.after hq
  |next=>exact False.elim hq
  |brk=>exact False.elim hq
  |cont=>exact False.elim hq
def ze(F:al X.prog X.w X.K X.mg X.base CX k f fd ps sp)(hr:Room k X.A)(hg:Gl X x)(b:X.mg x=some (.ref f))(hk:PySem.W.keepIn X.K (.ref f)=true)(hb:Binds X.K fd ps ds)(hd:Vals eY ds)(hx:fg CX X E)(c:PA X (e::es) t)(d:(x==("__debug__":Str))=false:=by decide)(g:starEach (e::es) X.env=(false,eval e X.env)::starEach es X.env:=by rfl)(a:(backTo pos (starEach es X.env)).any (·.1)=false:=by rfl):PE X (.Call (.Name x p) (e::es) [] pos) (gp sp eY E t):=by
 intro aa s σ H Q I h;refine wpAny_Call_Name_kw (Iv I hg b ?_ d);refine PySem.W.callWith_K (h₀:=X.base) I.ok.mod.kin hk (aR (c pos aa s σ H _ I h) fun us i ⟨vs,H1,I1,r,q⟩=>⟨I1.kIn,?_⟩) g a;exact MF F hr hb hd hx I1 r q
end
structure zo(N P:List Str)(sc:Scope):Prop where
 kind:sc.kind=.function
 co:sc.isCoroutine=false
 gen:sc.isGenerator=false
 nd:N.Nodup
 pre:N.take P.length=P
 par:∀x∈P,sc.names.lookup x=some .local\/sc.names.lookup x=some .cell
 nofree:∀y∈sc.names,y.2≠.free
def IE{kindOf:Str->Option NameKind}{x:Str}:∀{binds:List (Str×Value)}{m:Str->Option Value},(∀v,(x,v)∉binds)->bindL kindOf binds m x=m x
 |[],_,_=>rfl
 |(n,v)::r,m,h=>by
  unfold bindL;rw[IE fun w hw=>h w (AM _ hw)];split
  ·have:x≠n:=by rintro rfl;exact h v AI
   simp[this]
  ·rfl
def IF{kindOf:Str->Option NameKind}{x:Str}:∀{binds:List (Str×Value)}{m:Str->Option Value},(∀v,(x,v)∉binds)->bindC kindOf binds m x=m x
 |[],_,_=>rfl
 |(n,v)::r,m,h=>by
  unfold bindC;rw[IF fun w hw=>h w (AM _ hw)];split
  ·rfl
  ·have:x≠n:=by rintro rfl;exact h v AI
   simp[this]
def IG{kindOf:Str->Option NameKind}{x:Str}{v:Value}:∀{P:List Str}{vs:List Value}{i:Nat}{m:Str->Option Value},P.Nodup->P[i]?=some x->vs[i]?=some v->kindOf x=some .local->
  bindL kindOf (P.zip vs) m x=some v
 |[],_,_,_,_,h,_,_=>by simp at h
 |_::_,[],_,_,_,_,h,_=>by simp at h
 |p::P,w::vs,0,m,nd,h1,h2,hk=>by
  simp at h1 h2;subst h1;subst h2;show bindL kindOf ((p,w)::P.zip vs) m p=_;unfold bindL;rw[IE fun v hv=>(List.nodup_cons.mp nd).1 (List.of_mem_zip hv).1,if_pos hk];simp
 |p::P,w::vs,i+1,m,nd,h1,h2,hk=>by
  show bindL kindOf ((p,w)::P.zip vs) m x=_;unfold bindL;exact IG (i:=i) (List.nodup_cons.mp nd).2 (by simpa using h1) (by simpa using h2) hk
def IH{kindOf:Str->Option NameKind}{x:Str}{v:Value}:∀{P:List Str}{vs:List Value}{i:Nat}{m:Str->Option Value},P.Nodup->P[i]?=some x->vs[i]?=some v->kindOf x≠some .local->
  bindC kindOf (P.zip vs) m x=some v
 |[],_,_,_,_,h,_,_=>by simp at h
 |_::_,[],_,_,_,_,h,_=>by simp at h
 |p::P,w::vs,0,m,nd,h1,h2,hk=>by
  simp at h1 h2;subst h1;subst h2;show bindC kindOf ((p,w)::P.zip vs) m p=_;unfold bindC;rw[IF fun v hv=>(List.nodup_cons.mp nd).1 (List.of_mem_zip hv).1,if_neg hk];simp
 |p::P,w::vs,i+1,m,nd,h1,h2,hk=>by
  show bindC kindOf ((p,w)::P.zip vs) m x=_;unfold bindC;exact IH (i:=i) (List.nodup_cons.mp nd).2 (by simpa using h1) (by simpa using h2) hk
def start(N:List Str)(vs:List V):St:=vs.map some++Ar (N.length-vs.length) none
def de(CX:gh)(P:Program)(w:World)(K:Ah)(mg:Str->Option Value)(base:Heap)(N:List Str)(a:Str)(scope:Scope)(f:Addr)(b:Value)(A:Around)(outer:List Env)(s:Shared)(H:Hp)(E:XK):Cx where
 prog:=P
 w:=w
 K:=K
 mg:=mg
 base:=base
 A:=A.deeper (envOfC a scope s⁻¹ f b)
 N:=N
 s₀:=s
 H₀:=H
 env:=envOfC a scope s⁻¹ f b
 outer:=outer
 stack:=envOfC a scope s⁻¹ f b::outer
 ex:=[]
 calm:=true
 fn:=fun _=>true
 pn:=[]
 xe:=fun e s'=>wpAny (model P w) (A.deeper (envOfC a scope s⁻¹ f b)) (leaving (envOfC a scope s⁻¹ f b) e) (fun _ c=>CX outer H s E e c) (fun d c=>CX outer H s E d c) s'
def II{sc:Scope}{n:Nat}{x:Str}(h:sc.names.lookup x=some .cell):∃c,(cellsFrom n sc.names []).lookup x=some c:=by
 have q:=PySem.W.cellsFrom_some sc.names n [] (.inl h);exact Option.isSome_iff_exists.mp q
def MG{CX:gh}{P:Program}{w:World}{K:Ah}{mg:Str->Option Value}{base:Heap}{N ps:List Str}{j:Str}{scope:Scope}{f:Addr}{l:Value}{A:Around}{outer:List Env}{s D:Shared}{H:Hp}{E:XK}{us:List Value}{vs:List V}(S:zo N ps scope)(hd:A.handled=none)(d:Env0 P w K mg base A outer s H)(L:vs.length=ps.length)(r:Vals vs us)(x:InCallC s s⁻¹ (bindL (envOfC j scope s⁻¹ f l).kindOf (ps.zip us) fun _=>none) (cellsFrom (s⁻¹+1) scope.names []) (bindC (envOfC j scope s⁻¹ f l).kindOf (ps.zip us) fun _=>none) D):Inv (de CX P w K mg base N j scope f l A outer s H E) [] (start N vs) H D:=by
 have G:ps.length<=N.length:=by have:=congrArg List.length S.pre;rw[List.length_take] at this;(first|lia|omega)
 obtain⟨h1,tk,rfl,hk⟩:=x.done;have o:∀b:Addr,b∉(de CX P w K mg base N j scope f l A outer s H E).ex:=fun b z=>absurd (show b∈([]:List Addr) from z) (by simp);refine⟨⟨d.mod,S.kind,rfl,rfl,Ad _,fun y z c h1 h2=>?_,fun y hy=>?_,fun y c _ h=>?_,fun _=>hd,Around.frames_deeper d.frames,.inr ⟨rfl,rfl⟩,fun b z=>absurd z (o b),d.bs,d.bsz,fun b _ _=>o b,fun b z=>absurd z (o b),d.funs,d.frf⟩,
  rfl,d.bare,Un.kept hk,⟨_,x.toInCall.ns,fun i y v h1 h2 J=>?_⟩,fun y c h=>⟨_,x.cell y c h⟩,d.hok.fresh (Ad _),fun y c h=>?_,fun p hp=>absurd (show p∈([]:Ψ) from hp) (by simp),d.hok.kept hk,?_⟩
 ·exact name_of_addr x.apart (PySem.mem_of_lookup h1) (PySem.mem_of_lookup h2)
 ·have hy:scope.names.lookup y=some .cell\/scope.names.lookup y=some .free:=hy
  rcases hy with hy|hy
  ·exact II hy
  ·exact absurd rfl (S.nofree _ (PySem.mem_of_lookup hy))
 ·exact Nat.le_of_lt (x.above y c (PySem.mem_of_lookup h))
 ·have hi:i<vs.length:=by
   unfold start at h2
   by_cases hi:i<vs.length
   ·exact hi
   ·rw[List.getElem?_append_right (by simpa using hi)] at h2
    rw[List.getElem?_replicate] at h2;split at h2<;>cases h2
  have I:vs[i]?=some v:=by
   unfold start at h2;rw[List.getElem?_append_left (by simpa using hi),Aj] at h2;cases e:vs[i]? with
   |none=>rw[e] at h2;cases h2
   |some a=>rw[e] at h2;cases h2;rfl
  obtain⟨u,C,F⟩:=r.get I;have hp:ps[i]?=some y:=by
   rw[<-S.pre,List.getElem?_take_of_lt ω];exact h1
  have g:ps.Nodup:=by rw[<-S.pre];exact S.nd.sublist (List.take_sublist _ _)
  refine⟨u,F,?_⟩;rcases S.par y (Am hp) with k|k
  ·exact .inl ⟨k,IG g hp C k⟩
  ·obtain⟨c,e⟩:=II (n:=s⁻¹+1) k
   refine .inr ⟨.inl k,c,e,?_⟩;have q:=x.cell y c e;rw[IH g hp C (by show scope.names.lookup y≠_;rw[k];decide)] at q;exact q
 ·exact d.hok.fresh (Nat.le_of_lt (x.above y c (PySem.mem_of_lookup h)))
 ·unfold start
  show _=N.length;rw[A6,Ab,List.length_replicate];(first|lia|omega)
def MH{CX:gh}{P:Program}{w:World}{K:Ah}{mg:Str->Option Value}{base:Heap}{k:Nat}{f:Addr}{name a:Str}{l:Arguments}{h:List Stmt}{scope:Scope}{p kV z C c ct oc:Value}{D od:Option Addr}{M:Array (Option Value)}{N ps:List Str}{sp:Sp}(lk:K.lookup f=some ⟨oc,od,.func (PySem.W.fnOf name a l h scope p kV z C D c ct),M⟩)(O:PySem.W.codeIn K c a=true)(S:zo N ps scope)(len:∀vs H Q E,sp vs H Q E->vs.length=ps.length)(dI:∀(A:Around)(outer:List Env)(s:Shared)(H:Hp)(vs:List V)(Q:VK)(E:XK),Room k (A.deeper (envOfC a scope s⁻¹ f c))->sp vs H Q E->
   ∃t,PSs (de CX P w K mg base N a scope f c A outer s H E) h t/\t {nx:=fun _ H'=>Q .non H',rt:=Q} (start N vs) H):
  al P w K mg base CX (k+1) f (PySem.W.fnOf name a l h scope p kV z C D c ct) ps sp:=by
 refine⟨len,fun A outer s H args us vs Q E hr g hb r F=>?_⟩;have Y:=len _ _ _ _ F;have L:K.In s.heap:=g.mod.kin.keeps fun b o e=>(g.bs b o e).1;have j:s.heap.NoLimit:=g.mod.nolimit.keeps fun b o e=>(g.bs b o e).1;have Z:∀y∈ps.zip us,scope.names.lookup y.1=some .local\/(scope.names.lookup y.1=some .cell/\((cellsFrom (s⁻¹+1) scope.names []).lookup y.1).isSome=true):=fun⟨n,v⟩ hy=>by
  rcases S.par n (List.of_mem_zip hy).1 with q|q
  ·exact .inl q
  ·exact .inr ⟨q,PySem.W.cellsFrom_some _ _ _ (.inl q)⟩
 refine codeAny_call_function hr.depth (L _ _ lk) rfl S.co S.gen rfl (PySem.W.codeRec_of L O) (hb _ _ _ _ ?_);refine wpAny_newFunctionEnv_cells S.kind Z fun env T G x=>?_;subst T;refine⟨j.keeps x.toInCall.keep,codeAny_func ?_⟩;obtain⟨t,X,hq⟩:=dI A outer s H vs Q E (hr.deeper _) F;have I:Inv (de CX P w K mg base N a scope f c A outer s H E) [] (start N vs) H G:=MG S hr.hd g Y r x;refine wpAny_mono (X [] G (start N vs) H _ I hq) (fun U s' d=>?_) fun e s' d=>d;have fin:∀{ad:St}{H':Hp}{v:V}{u:Value},Inv (de CX P w K mg base N a scope f c A outer s H E) [] ad H' s'->RelV v u->Q v H'->CE outer P w H s Q u s':=
  fun{ad H' v u} J i q=>⟨v,H',J.os,J.bare,J.base,J.hok,i,q⟩
 cases U with
 |ret u=>
  obtain⟨v,ad,H',J,i,q⟩:=d;exact fin J i q
 |next=>
  obtain⟨ad,H',J,q⟩:=d;exact fin (v:=V.non) (u:=Value.none) J rfl q
 |brk=>
  obtain⟨_,_,_,q⟩:=d;exact False.elim q
 |cont=>
  obtain⟨_,_,_,q⟩:=d;exact False.elim q
section
variable{X:Cx}{x:Str}{p pos:Pos}{e:Expr}{es:List Expr}{t:TA}{id T:String}{r:List V->Hp->VK->Prop}
def mR(r:List V->Hp->VK->Prop)(t:TA):TE:=fun σ H Q=>t σ H fun vs H1=>r vs H1 Q
def zn(hc:f' X (.builtin id) r)(hg:Gl X x)(d:X.mg x=none)(hv:A8 x=some (.builtin id))(f:PA X (e::es) t)(g:x≠"__name__":=by decide)(i:(x==("__debug__":Str))=false:=by decide)
  (j:starEach (e::es) X.env=(false,eval e X.env)::starEach es X.env:=by rfl) (a:(backTo pos (starEach es X.env)).any (·.1)=false:=by rfl):PE X (.Call (.Name x p) (e::es) [] pos) (mR r t):=by
 intro aa s σ H Q I h;refine wpAny_Call_Name_kw (kQ I hg d hv ?_ g i);exact PyProof.Rows.callWith_builtin1 (aR (f pos aa s σ H _ I h) fun us b ⟨vs,H1,l,r1,c⟩=>hc aa b σ H1 vs us Q l r1 c) j a
def i6(hc:f' X (.type T) r)(hg:Gl X x)(d:X.mg x=none)(hv:A8 x=some (.type T))(f:PA X (e::es) t)(g:x≠"__name__":=by decide)(i:(x==("__debug__":Str))=false:=by decide)
  (j:starEach (e::es) X.env=(false,eval e X.env)::starEach es X.env:=by rfl) (a:(backTo pos (starEach es X.env)).any (·.1)=false:=by rfl):PE X (.Call (.Name x p) (e::es) [] pos) (mR r t):=by
 intro aa s σ H Q I h;refine wpAny_Call_Name_kw (kQ I hg d hv ?_ g i);exact PyProof.Rows.callWith_type1 (aR (f pos aa s σ H _ I h) fun us b ⟨vs,H1,l,r1,c⟩=>hc aa b σ H1 vs us Q l r1 c) j a
end
end L2
namespace HT
open PySem PyProof.Rows
def lexLt:List Int->List Int->Bool
 |[],[]=>false
 |[],_::_=>true
 |_::_,[]=>false
 |x::xs,y::ys=>if x=y then lexLt xs ys else decide (x<y)
def vB(x y:Int)(xs ys:List Int):lexLt (x::xs) (y::ys)=if x=y then lexLt xs ys else decide (x<y):=rfl
def MI:lexLt [] []=false:=rfl
section
open PySem.SeqAt
open PySem.AutoSeq1 (wpAny_loadPart')
open PySem.MeetsSeq PySem.MeetsSeq2 PySem.MeetsSeq3
end
section
variable{prog:Program}{w:World}{A:Around}{E:Ω}{s:Shared}
def ey(n d:Nat):Option Int->Nat
 |none=>d
 |some v=>if v<0 then(v+(n:Int)).toNat else min v.toNat n
def IJ(n d:Nat):ey n d none=d:=rfl
def IK(n d k:Nat):ey n d (some (k:Int))=min k n:=by
 show(if(k:Int)<0 then((k:Int)+(n:Int)).toNat else min (k:Int).toNat n)=min k n;rw[if_neg ω,Int.toNat_natCast]
end
end HT
namespace L2
open PySem PySem.Spec PyProof.Rows
abbrev TO:=St->Hp->(Option Int->Hp->Prop)->Prop
def PO(X:Cx)(e:Option Expr)(t:TO):Prop:=
 ∀(aa:Ψ)(s:Shared)(σ:St)(H:Hp)(Q:Option Int->Hp->Prop),Inv X aa σ H s->t σ H Q->
  wpAny (model X.prog X.w) X.A (evalPart e X.env) (fun u s'=>∃o H',Inv X aa σ H' s'/\IsPart u o/\Q o H') X.xe s
def FP:TO:=fun _ H Q=>Q none H
def FQ(t:TE):TO:=fun σ H Q=>t σ H fun x H1=>∃i,x=.int i/\Q (some i) H1
def intsAre_of{ns:List Int}:∀{us:List Value},Vals (ns.map V.int) us->IntsAre us ns:=by
 induction ns with
 |nil=>intro us r;rw[List.map_nil] at r;cases r;exact .nil
 |cons n ns ih=>
  intro us r;rw[Bb] at r;cases r with
  |cons r1 r2=>
   obtain⟨t,e⟩:=r1;subst e;exact .cons n t (ih r2)
section
variable{X:Cx}{e:Expr}{te:TE}{lo hi:Option Expr}{tl th:TO}{pos p2:Pos}
def mU:PO X none FP:=by
 intro aa s σ H Q I h;rw[evalPart_none];exact Aq ⟨none,H,I,.none,h⟩
def m6(h:PE X e te):PO X (some e) (FQ te):=by
 intro aa s σ H Q I hw;rw[evalPart_some];refine aR (h aa s σ H _ I hw) fun u c ⟨x,H1,b,r1,a⟩=>?_;obtain⟨i,rfl,q⟩:=a;obtain⟨t,rfl⟩:=r1;exact⟨some i,H1,b,.int i t,q⟩
def IL(X:Cx)(r:V->Option Int->Option Int->Hp->VK->Prop):Prop:=
 ∀(aa:Ψ)(s:Shared)(σ:St)(H:Hp)(x:V)(v vl a:Value)(lo hi:Option Int)(b:Addr)(Q:VK),Inv X aa σ H s->RelV x v->s.heap.IsSliceOf b vl a .none->IsPart vl lo->IsPart a hi->r x lo hi H Q->
  ∃T id,typeLookup (.type T) "__getitem__"=pure (some (.builtin id))/\s.TypeIs v T/\wpAny (model X.prog X.w) X.A (getItem v (.ref b)) (EP X aa σ Q) X.xe s
def FR(r:V->Option Int->Option Int->Hp->VK->Prop)(te:TE)(tl th:TO):TE:=fun σ H Q=>te σ H fun x H1=>tl σ H1 fun l H2=>th σ H2 fun u a=>r x l u a Q
def m7{r:V->Option Int->Option Int->Hp->VK->Prop}(hr:IL X r)(C:PE X e te)(D:PO X lo tl)(E:PO X hi th):PE X (.Subscript e (.Slice lo hi none p2) pos) (FR r te tl th):=by
 intro aa s σ H Q I h;refine Subscript_ (aR (C aa s σ H _ I h) fun v f ⟨x,H1,F,r1,g⟩=>?_);refine wpAny_Slice (aR (D aa f σ H1 _ F g) fun vl i ⟨l,H2,G,pl,j⟩=>aR (E aa i σ H2 _ G j) fun c a ⟨u,d,I3,o,p⟩=>?_);rw[evalPart_none];refine Aq ?_;have J:Inv X aa σ d {a with heap:=a.heap.push {cls:=.type "slice",data:=.fields #[vl,c,.none]}}:=I3.kept (t':=a.toks) fun b L q=>Ai _ q;obtain⟨T,id,y,z,hg⟩:=hr aa {a with heap:=a.heap.push {cls:=.type "slice",data:=.fields #[vl,c,.none]}} σ d x v vl c l u a⁻¹ Q J r1 (Heap.IsSliceOf.new ..) pl o p;show wpAny (model X.prog X.w) X.A (subscriptTail e (.Slice lo hi none p2) v (.ref a⁻¹)) (EP X aa σ Q) X.xe {a with heap:=a.heap.push {cls:=.type "slice",data:=.fields #[vl,c,.none]}};exact tail_any (ops:=[.ref a⁻¹,v]) z y hg (by with_unfolding_all rfl)
def ez(xs:List V)(lo hi:Option Int):List V:=(xs.drop (HT.ey xs.length 0 lo)).take (HT.ey xs.length xs.length hi-HT.ey xs.length 0 lo)
def MJ(xs:List V)(lo hi:Option Int):(ez xs lo hi).length<=xs.length:=by
 unfold ez;rw[List.length_take,List.length_drop];(first|lia|omega)
end
def hO(n:Nat)(i:Int):Option Nat:=if 0<=i then(if i<n then some i.toNat else none) else if -(n:Int)<=i then some (i+n).toNat else none
def atI{a:Type}(xs:List a)(i:Int):Option a:=(hO xs.length i).bind fun j=>xs[j]?
def IM{n:Nat}{i:Int}{j:Nat}(h:hO n i=some j):seqIndex? i n=some j/\j<n/\-(n:Int)<=i/\i<n:=by
 unfold hO at h
 by_cases a:0<=i
 ·rw[if_pos a] at h
  by_cases h1:i<n
  ·rw[if_pos h1] at h
   have e:i.toNat=j:=AY h;exact⟨by rw[seqIndex_of a h1,e],ω,ω,h1⟩
  ·rw[if_neg h1] at h;cases h
 ·rw[if_neg a] at h
  by_cases h1:-(n:Int)<=i
  ·rw[if_pos h1] at h
   have e:(i+n).toNat=j:=AY h;exact⟨by rw[seqIndex_neg ω h1,e],ω,h1,ω⟩
  ·rw[if_neg h1] at h;cases h
def IN{a:Type}{xs:List a}{i:Int}{v:a}(h:atI xs i=some v):∃j,seqIndex? i xs.length=some j/\xs[j]?=some v/\j<xs.length/\-(xs.length:Int)<=i/\i<xs.length:=by
 unfold atI at h;cases e:hO xs.length i with
 |none=>rw[e] at h;cases h
 |some j=>
  rw[e] at h;obtain⟨h1,h2,b,c⟩:=IM e;exact⟨j,h1,h,h2,b,c⟩
def zj{a:Type}{xs:List a}{j:Nat}{v:a}(h:xs[j]?=some v):atI xs (j:Int)=some v:=by
 have b:j<xs.length:=(List.getElem?_eq_some_iff.mp h).1;have e:hO xs.length (j:Int)=some j:=by
  unfold hO;rw[if_pos ω,if_pos ω];simp
 unfold atI;rw[e];exact h
def MK(b:Expr):Prop:=∀o i,subscripted b false o i=operate [o,i] (getItem o i)
def FT(X:Cx)(r:R2):Prop:=
 ∀(ax slice:Expr)(aa:Ψ)(s:Shared)(σ:St)(H:Hp)(x y:V)(v u:Value)(Q:VK),Inv X aa σ H s->RelV x v->RelV y u->r x y H Q->
  subscripted slice false v u=operate [v,u] (getItem v u)->wpAny (model X.prog X.w) X.A (subscriptTail ax slice v u) (EP X aa σ Q) X.xe s
def IP(X:Cx)(id:String)(r:V->List V->Hp->VK->Prop):Prop:=
 ∀(aa:Ψ)(s:Shared)(σ:St)(H:Hp)(x:V)(xs:List V)(v:Value)(us:List Value)(Q:VK),Inv X aa σ H s->RelV x v->Vals xs us->r x xs H Q->
  wpAny (model X.prog X.w) X.A (call (.builtin id) (v::us)) (EP X aa σ Q) X.xe s
section
variable{X:Cx}{a b:Expr}{ta tb:TE}{pos:Pos}
def zx{r:R2}(hr:FT X r)(f:PE X a ta)(hb:PE X b tb)(g:MK b):PE X (.Subscript a b pos) (cn r ta tb):=by
 intro aa s σ H Q I h;exact Subscript_ (mC f hb I h fun v u c x y H2 i d e q=>hr a b aa c σ H2 x y v u Q i d e q (g _ _))
def iA(K:Ah):R2:=fun x y H Q=>∃p xs i v,x=.ref p/\y=.int i/\SqL K H p xs/\atI xs i=some v/\Q v H
def vE(K:Ah):R2:=fun x y H Q=>∃p xs i v,x=.ref p/\y=.int i/\SqT K H p xs/\atI xs i=some v/\Q v H
def zt:FT X (iA X.K):=by
 intro ax slice aa s σ H x y v u Q I e f h b;obtain⟨p,xs,i,z,rfl,rfl,hq,g,q⟩:=h;cases e;obtain⟨t,rfl⟩:=f;obtain⟨l,r,pl,hz⟩:=I.list hq;obtain⟨j,h1,h2,E,o,A⟩:=IN g;obtain⟨w,c,C⟩:=r.get h2;have D:=r.length;have F:=dU;have fin:EP X aa σ Q w s:=⟨z,H,I,C,q⟩
 by_cases d:0<=i
 ·have a:i.toNat=j:=by
   rw[seqIndex_of d A] at h1;exact AY h1
  exact item_listR pl.isList d ω (by rw[a];simpa using c) fin b
 ·have a:(i+(l.toArray.size:Int)).toNat=j:=by
   rw[seqIndex_neg ω o] at h1;rw[AG,<-D];exact AY h1
  exact subscriptTail_builtinR (x:=w) pl.isList.typeIs slot_list_getitem.lookup
   (wpAny_getItem_list_neg (Q:=fun r s'=>r=w/\EP X aa σ Q r s') pl.isList ω (by rw[AG]<;>(first|lia|omega)) ω (by rw[a];simpa using c) ⟨rfl,fin⟩) b
def zK:FT X (vE X.K):=by
 intro ax slice aa s σ H x y v u Q I a b h c;obtain⟨p,xs,i,z,rfl,rfl,hq,d,q⟩:=h;cases a;obtain⟨t,rfl⟩:=b;obtain⟨l,r,pl,hz⟩:=I.tuple hq;obtain⟨j,h1,h2,o,A,C⟩:=IN d;obtain⟨w,e,f⟩:=r.get h2;have g:=r.length;have D:=dU;have fin:EP X aa σ Q w s:=⟨z,H,I,f,q⟩;exact subscriptTail_builtinR (x:=w) pl.typeIs slot_tuple_getitem.lookup
  (getItem_tuple (j:=j) (Q:=fun r s'=>r=w/\EP X aa σ Q r s') pl ω ω (by rw[AG,<-g];exact h1) (by simpa using e) ⟨rfl,fin⟩) c
def ML(a:List Value)(n j:Nat)(u:Value):Obj.mapSeq (·.setIfInBounds j u) {cls:=.type "list",data:=.seq a.toArray n}={cls:=.type "list",data:=.seq (a.set j u).toArray n}:=by
 simp[Obj.mapSeq]
def Inv.lst{aa:Ψ}{σ:St}{H:Hp}{s:Shared}{p:Addr}{xs:List V}(I:Inv X aa σ H s)(h:H p=some (.lst xs)):∃(a:List Value)(n:Nat),Vals xs a/\s.heap.get? p=some {cls:=.type "list",data:=.seq a.toArray n}/\xs.length<=sizeLine:=by
 obtain⟨z,a,n,r,e⟩:=I.hok p _ h;exact⟨a,n,r,e,z⟩
def Inv.lstUpd{aa:Ψ}{σ:St}{H:Hp}{s:Shared}{p:Addr}{xs ys:List V}{c its':List Value}{n a:Nat}{f:Obj->Obj}(I:Inv X aa σ H s)(h:H p=some (.lst xs))(g:s.heap.get? p=some {cls:=.type "list",data:=.seq c.toArray n})(d:f {cls:=.type "list",data:=.seq c.toArray n}={cls:=.type "list",data:=.seq its'.toArray a})(r:Vals ys its')(hz:ys.length<=sizeLine)(t:Nat):Inv X aa σ (upd H p (.lst ys)) {s with heap:=s.heap.update p f,toks:=t}:=by
 have e:(s.heap.update p f).get? p=some {cls:=.type "list",data:=.seq its'.toArray a}:=by
  rw[Heap.get?_update_self f g (by rw[d]<;>rfl),d]
 refine I.write (x:=p) (e:=p) (by rw[h];trivial) (.inl rfl) (fun b u hb q=>(Heap.get?_update_other _ _ (Ne.symm hb)).trans q) ⟨_,e⟩ ?_;exact⟨hz,its',a,r,e⟩
def MM:V->V->V->Hp->(Hp->Prop)->Prop:=fun o i v H Q=>∃p xs k j,o=.ref p/\i=.int k/\H p=some (.lst xs)/\hO xs.length k=some j/\Q (upd H p (.lst (xs.set j v)))
def set_list:uH X MM:=by
 intro aa s σ H o i v z A u Q I l w x h;obtain⟨p,xs,k,j,rfl,rfl,hp,y,q⟩:=h;cases l;obtain⟨t,rfl⟩:=w;obtain⟨c,n,r,a,hz⟩:=I.lst hp;obtain⟨h1,h2,d,e⟩:=IM y;have b:=r.length;have C:=dU;have g:Inv X aa σ (upd H p (.lst (xs.set j v))) {s with heap:=s.heap.update p (Obj.mapSeq (·.setIfInBounds j u))}:=
  I.lstUpd hp a (ML c n j u) (r.set x j) (by rw[List.length_set];exact hz) s.toks
 by_cases f:0<=k
 ·have hk:k.toNat=j:=by
   rw[seqIndex_of f e] at h1;exact AY h1
  exact PySem.W.ki_setAt a f ω (by rw[AG,<-b];exact e) (by rw[hk];exact⟨_,g,q⟩)
 ·have hk:(k+(c.toArray.size:Int)).toNat=j:=by
   rw[seqIndex_neg ω d] at h1;rw[AG,<-b];exact AY h1
  exact PySem.W.ki_setBack a ω (by rw[AG,<-b];exact d) ω (by rw[hk];exact⟨_,g,q⟩)
def MN(lo hi:Option Int)(n:Nat):(sliceBounds lo hi none n).1=((HT.ey n 0 lo:Nat):Int)/\(sliceBounds lo hi none n).2.1=((HT.ey n n hi:Nat):Int)/\(sliceBounds lo hi none n).2.2=1:=by
 refine⟨?_,?_,rfl⟩
 ·cases lo with
  |none=>simp[sliceBounds,HT.ey]
  |some i=>
   simp only[sliceBounds,HT.ey,Option.getD_none,show(1:Int)>0 from ξ,if_true]
   by_cases h:i<0
   ·simp only[h,if_true]<;>(first|lia|omega)
   ·simp only[h,if_false]<;>(first|lia|omega)
 ·cases hi with
  |none=>simp[sliceBounds,HT.ey]
  |some i=>
   simp only[sliceBounds,HT.ey,Option.getD_none,show(1:Int)>0 from ξ,if_true]
   by_cases h:i<0
   ·simp only[h,if_true]<;>(first|lia|omega)
   ·simp only[h,if_false]<;>(first|lia|omega)
def MO(a:List Value)(lo hi:Option Int):slicePick a.toArray lo hi none=((a.drop (HT.ey a.length 0 lo)).take (HT.ey a.length a.length hi-HT.ey a.length 0 lo)).toArray:=by
 obtain⟨h1,h2,b⟩:=MN lo hi a.toArray.size;unfold slicePick;rw[h1,h2,b];simp only[sliceRange_one,pick_run,AG]<;>rfl
def m_(K:Ah):V->Option Int->Option Int->Hp->VK->Prop:=fun x lo hi H Q=>∃a xs,x=.ref a/\SqL K H a xs/\∀p,H p=none->Q (.ref p) (upd H p (.lst (ez xs lo hi)))
def nf:IL X (m_ X.K):=by
 intro aa s σ H x v vl i lo hi j Q I d e pl f h;obtain⟨a,xs,rfl,hx,q⟩:=h;cases d;obtain⟨p,r,c,hz⟩:=I.list hx;have g:=r.length;refine⟨"list",_,slot_list_getitem.lookup,c.isList.typeIs,?_⟩;refine wpAny_getItem_list_slice c.isList e pl f .none (by simp) ?_ (by rw[AG]<;>(first|lia|omega));rw[MO,<-g];refine⟨.ref s⁻¹,_,I.laid (t':=s.toks) (o:=.lst (ez xs lo hi)) (fun b l q=>Ai _ q) (Ad _) ?_,rfl,q _ (I.hok.fresh (Ad _))⟩;exact⟨Ae (MJ xs lo hi) hz,_,0,(r.drop (HT.ey xs.length 0 lo)).take (HT.ey xs.length xs.length hi-HT.ey xs.length 0 lo),AO _ rfl⟩
def zm:f' X (.builtin "len") (fun xs H Q=>∃p ys,xs=[.ref p]/\(SqL X.K H p ys\/SqT X.K H p ys)/\Q (.int ys.length) H):=by
 intro aa s σ H xs us Q I r h;obtain⟨p,ys,rfl,hq,q⟩:=h;obtain⟨u,rfl,c⟩:=vals1 r;cases c;have e:=dU;rcases hq with hq|hq
 ·obtain⟨d,a,pl,hz⟩:=I.list hq
  have b:=a.length;exact Calls.call_len_list pl.isList (by simp only[AG]<;>(first|lia|omega)) ⟨.int ys.length,H,I.tok _,⟨s.toks+1,by rw[AG,b]⟩,q⟩
 ·obtain⟨d,a,pl,hz⟩:=I.tuple hq
  have b:=a.length;exact len_tuple pl (by simp only[AG]<;>(first|lia|omega)) ⟨.int ys.length,H,I.tok _,⟨s.toks+1,by rw[AG,b]⟩,q⟩
def zV:f' X (.type "list") (fun xs H Q=>∃p ys,xs=[.ref p]/\(SqL X.K H p ys\/SqT X.K H p ys)/\∀l,H l=none->Q (.ref l) (upd H l (.lst ys))):=by
 intro aa s σ H xs us Q I r h;obtain⟨p,ys,rfl,hq,q⟩:=h;obtain⟨u,rfl,g⟩:=vals1 r;cases g;have fin:∀(a:List Value),Vals ys a->ys.length<=sizeLine->∀(h':Heap)(d:Nat),(∀b o',s.heap.get? b=some o'->h'.get? b=some o')->
   h'.get? s⁻¹=some {cls:=.type "list",dict:=none,data:=.seq a.toArray d,slots:=#[]}->EP X aa σ Q (.ref s⁻¹) {s with heap:=h'}:=fun a c hz h' d kp e=>
  ⟨.ref s⁻¹,_,I.laid (t':=s.toks) kp (Ad _) (show zak X.prog X.w _ h' _ (.lst ys) from⟨hz,a,d,c,e⟩),rfl,q _ (I.hok.fresh (Ad _))⟩
 rcases hq with hq|hq
 ·obtain⟨a,c,pl,hz⟩:=I.list hq
  have i:=c.length;obtain⟨o,f,hc,n,hd⟩:=pl.isList;exact call_list_seq p (.inl rfl) f hc hd (fun h' d kp e=>fin a c hz h' d kp e) (by simp only[AG]<;>(first|lia|omega))
 ·obtain⟨a,c,pl,hz⟩:=I.tuple hq
  have i:=c.length;obtain⟨o,f,hc,n,hd⟩:=pl;exact call_list_seq p (.inr rfl) f hc hd (fun h' d kp e=>fin a c hz h' d kp e) (by simp only[AG]<;>(first|lia|omega))
def MP:f' X (.type "tuple") (fun xs H Q=>∃p ys,xs=[.ref p]/\((SqL X.K H p ys/\∀l,H l=none->Q (.ref l) (upd H l (.tup ys)))\/(SqT X.K H p ys/\Q (.ref p) H))):=by
 intro aa s σ H xs us Q I r h;obtain⟨p,ys,rfl,h⟩:=h;obtain⟨u,rfl,d⟩:=vals1 r;cases d;rcases h with ⟨hq,q⟩|⟨hq,q⟩
 ·obtain⟨a,c,pl,hz⟩:=I.list hq
  have g:=c.length;refine call_tuple_list pl.isList (fun h' kp=>?_) (by simp only[AG]<;>(first|lia|omega));have I1:Inv X aa σ H {s with heap:=h'}:=I.kept (t':=s.toks) kp;have f:Inv X aa σ (upd H h'.objs.size (.tup ys)) {s with heap:=h'.push {cls:=.type "tuple",data:=.seq a.toArray}}:=
   I1.laid (t':=s.toks) (fun b o e=>Ai _ e) (Ad _) (show zak X.prog X.w _ _ _ (.tup ys) from⟨hz,a,c,IsTup.new _ _⟩)
  exact⟨.ref h'.objs.size,_,f,rfl,q _ (I1.hok.fresh (Ad _))⟩
 ·obtain⟨a,c,pl,hz⟩:=I.tuple hq
  exact call_tuple_same pl ⟨.ref p,H,I,rfl,q⟩
def IQ(K:Ah)(T:String)(x:V)(H:Hp):Prop:=match x with
 |.str _=>T="str"
 |.int _=>T="int"
 |.ref p=>(T="list"/\∃xs,SqL K H p xs)\/(T="tuple"/\∃o,K.lookup p=some o/\o.cls=.type "tuple"/\o.dict=none) \/
   (T="dict"/\((∃kvs,H p=some (.dK kvs))\/∃kvs,H p=some (.dT kvs)))\/(T="set"/\∃S n,H p=some (.set S n))
 |_=>False
def MQ{aa:Ψ}{σ:St}{H:Hp}{s:Shared}{T:String}{x:V}{v:Value}(I:Inv X aa σ H s)(r:RelV x v)(ty:IQ X.K T x H):s.TypeIs v T/\∀a,v=.ref a->∃b,s.heap.get? a=some b/\b.dict=none:=by
 cases x with
 |str z=>
  obtain⟨t,rfl⟩:=r;cases(show T="str" from ty);exact⟨typeIs_str s z t,fun _ e=>nomatch e⟩
 |int i=>
  obtain⟨t,rfl⟩:=r;cases(show T="int" from ty);exact⟨typeIs_int s i t,fun _ e=>nomatch e⟩
 |ref p=>
  cases r;rcases ty with ⟨rfl,xs,hq⟩|⟨rfl,o,hk,hc,hd⟩|⟨rfl,hk⟩|⟨rfl,S,n,hk⟩
  ·obtain⟨d,_,pl,_⟩:=I.list hq
   refine⟨pl.isList.typeIs,fun a e=>?_⟩;cases e;obtain⟨o,n,e,c,hd,_⟩:=pl;exact⟨o,e,hd⟩
  ·refine⟨⟨o,I.kIn p o hk,hc⟩,fun a e=>?_⟩
   cases e;exact⟨o,I.kIn _ o hk,hd⟩
  ·have z:∃o,s.heap.get? p=some o/\o.ExactDict:=by
    rcases hk with ⟨kvs,hk⟩|⟨kvs,hk⟩
    ·obtain⟨_,_,_,_,o,_,_,e,ex,_⟩:=I.hok p _ hk
     exact⟨o,e,ex⟩
    ·obtain⟨_,_,_,_,o,_,_,e,ex,_⟩:=I.hok p _ hk
     exact⟨o,e,ex⟩
   obtain⟨o,e,ex⟩:=z;refine⟨⟨o,e,ex.1⟩,fun a e2=>?_⟩;cases e2;exact⟨o,e,ex.2.1⟩
  ·obtain⟨o,_,_,_,e,ex,_⟩:=I.hok p _ hk
   refine⟨⟨o,e,ex.1⟩,fun a e2=>?_⟩;cases e2;exact⟨o,e,ex.2.1⟩
 |_=>exact False.elim ty
def MR(K:Ah)(T:String)(r:V->List V->Hp->VK->Prop)(to:TE)(t:TA):TE:=fun σ H Q=>to σ H fun x H1=>IQ K T x H1/\t σ H1 fun xs H2=>r x xs H2 Q
variable{o e:Expr}{es:List Expr}{to:TE}{t:TA}{name:Str}{bL ay:Pos}{T id:String}{r:V->List V->Hp->VK->Prop}
def FU(j:PlainAttrs T)(slot:Slot T name id)(l:typeOf (.builtin id)=pure (.type "method_descriptor"))(p:IP X id r)(q:PE X o to)(u:PA X (e::es) t)(w:attributeBase o name X.env (eval o X.env)=eval o X.env:=by rfl)
  (y:((backTo ay (starEach (e::es) X.env)).all (fun x=>!x.1)&&(backToKw ay (keywordEach [] X.env)).all (fun x=>x.1.isSome)
   && decide ((e::es).length+([]:List Keyword).length+(if([]:List Keyword).isEmpty then 0 else 1)<30))=true:=by rfl)
  (z:(bL.endLine==ay.line)=true:=by rfl) (A:starEach (e::es) X.env=(false,eval e X.env)::starEach es X.env:=by rfl) (C:(backTo ay (starEach es X.env)).any (·.1)=false:=by rfl) :
  PE X (.Call (.Attribute o name bL) (e::es) [] ay) (MR X.K T r to t):=by
 intro aa s σ H Q I h;refine wpAny_Call_method_late w y z rfl (aR (q aa s σ H _ I h) fun v d ⟨x,H1,c,r1,ty,f⟩=>?_);obtain⟨h1,h2⟩:=MQ c r1 ty;refine⟨T,id,j,slot,l,h1,h2,?_⟩;have b:=u ay aa d σ H1 _ c f;rw[A] at b ⊢;refine Calls.callWith_builtin (by show(false|| (backTo ay (starEach es X.env)).any (·.1))=false;rw[C]<;>rfl) (Calls.evalArgs_plain ?_);exact aR b fun us g ⟨vs,H2,D,r2,i⟩=>p aa g σ H2 x vs v us Q D r1 r2 i
end
def MS(X:Cx)(id:String)(r:V->List V->Hp->VK->Prop):Prop:=
 ∀(aa:Ψ)(s:Shared)(σ:St)(H:Hp)(x:V)(xs:List V)(v:Value)(us:List Value)(Q:VK),Inv X aa σ H s->RelV x v->Vals xs us->r x xs H Q->
  wpAny (model X.prog X.w) X.A (call (.builtin id) (v::us)) (EP X aa σ Q) X.xe s
def Vals.one{x:V}{us:List Value}(h:Vals [x] us):∃u,us=[u]/\RelV x u:=by
 cases h with|cons r t=>cases t;exact⟨_,rfl,r⟩
def Vals.two{x y:V}{us:List Value}(h:Vals [x,y] us):∃u v,us=[u,v]/\RelV x u/\RelV y v:=by
 cases h with|cons r t=>obtain⟨v,rfl,q⟩:=Vals.one t;exact⟨_,_,rfl,r,q⟩
def Vals.zero:∀{us:List Value},Vals [] us->us=[]
 |_,.nil=>rfl
def Vals.eraseIdx:∀{xs:List V}{us:List Value}(i:Nat),Vals xs us->Vals (xs.eraseIdx i) (us.eraseIdx i)
 |_,_,_,.nil=>.nil
 |_,_,0,.cons _ t=>t
 |_,_,i+1,.cons r t=>.cons r (Vals.eraseIdx i t)
def Vals.reverse{xs:List V}{us:List Value}(h:Vals xs us):Vals xs.reverse us.reverse:=by
 induction h with
 |nil=>exact .nil
 |cons r t ih=>rw[List.reverse_cons,List.reverse_cons];exact Vals.append ih (.cons r .nil)
def Vals.rep{xs:List V}{us:List Value}(h:Vals xs us):∀k:Nat,Vals (Ar k xs).flatten (Ar k us).flatten
 |0=>.nil
 |k+1=>by
  rw[List.replicate_succ,List.replicate_succ,List.flatten_cons,List.flatten_cons];exact Vals.append h (Vals.rep h k)
def foldl_rep(a:List Value):∀(k:Nat)(acc:List Value),
  List.foldl (fun x1 x2=>x1++x2) acc.toArray (Ar k a.toArray)=(acc++(Ar k a).flatten).toArray
 |0,acc=>by simp
 |k+1,acc=>by
  have e:acc.toArray++a.toArray=(acc++a).toArray:=by simp
  have e2:(acc++a)++(Ar k a).flatten=acc++(Ar (k+1) a).flatten:=by
   rw[List.replicate_succ,List.flatten_cons,List.append_assoc]
  rw[<-e2,<-foldl_rep a k (acc++a),<-e,List.replicate_succ,List.foldl_cons]
section
variable{X:Cx}{aa:Ψ}{σ:St}{H:Hp}{s:Shared}{l b:Addr}{xs ys zs:List V}
def Inv.lset{a its':List Value}{n:Nat}{f:Array Value->Array Value}{t':Nat}(I:Inv X aa σ H s)(c:H l=some (.lst xs))(e:s.heap.get? l=some {cls:=.type "list",data:=.seq a.toArray n})(d:f a.toArray=its'.toArray)(hv:Vals ys its')(hz:ys.length<=sizeLine):Inv X aa σ (upd H l (.lst ys)) {s with heap:=s.heap.update l (Obj.mapSeq f),toks:=t'}:=by
 have q:=PySem.IsL.update e f;rw[d] at q;refine I.write (x:=l) (e:=l) (by rw[c];exact trivial) (.inl rfl) (fun b' u hb b=>(Heap.get?_update_other s.heap (Obj.mapSeq f) (Ne.symm hb)).trans b) ⟨_,q⟩ ?_;exact⟨hz,its',_,hv,q⟩
def Inv.lnew{a:List Value}{t':Nat}(I:Inv X aa σ H s)(hv:Vals ys a)(hz:ys.length<=sizeLine):Inv X aa σ (upd H s⁻¹ (.lst ys)) {s with heap:=s.heap.push {cls:=.type "list",data:=.seq a.toArray},toks:=t'}:=
 I.laid (fun _ _ q=>Ai _ q) (Ad _) ⟨hz,a,0,hv,AO _ rfl⟩
def Inv.fresh(I:Inv X aa σ H s):H s⁻¹=none:=I.hok.fresh (Ad _)
def Inv.lstM(I:Inv X aa σ H s)(b:H l=some (.lst xs)):xs.length<=sizeLine/\∃(a:List Value)(n:Nat),Vals xs a/\xs.length=a.length/\s.heap.get? l=some {cls:=.type "list",data:=.seq a.toArray n}:=by
 obtain⟨z,a,n,r,e⟩:=I.hok l _ b;exact⟨z,a,n,r,r.length,e⟩
def MT{n:Nat}(h:n<=sizeLine):Builtin.List.listTooLong n=false:=by
 unfold Builtin.List.listTooLong;exact decide_eq_false ω
end
section
variable{X:Cx}
def zme:V->List V->Hp->VK->Prop:=fun x vs H Q=>∃l xs y,x=.ref l/\vs=[y]/\H l=some (.lst xs)/\xs.length<sizeLine/\Q .non (upd H l (.lst (xs++[y])))
def DM:MS X "list.append" zme:=by
 intro aa s σ H x vs v us Q I c d h;obtain⟨l,xs,y,rfl,rfl,a,hz,q⟩:=h;cases c;obtain⟨u,rfl,f⟩:=d.one;obtain⟨z,b,n,r,g,e⟩:=I.lstM a;refine call_meets F.slot_list_append ⟨_,e,rfl⟩ F.entry_list_append (F.args_list_append_2 _ _) (PySem.list_append l b.toArray n u (by rw[AG];(first|lia|omega))) ⟨e,?_⟩;refine⟨.non,_,I.lset (its':=b++[u]) a e (by simp) (r.append (.cons f .nil)) ?_,rfl,q⟩;rw[A6,List.length_singleton];(first|lia|omega)
def vP:R2:=fun x y H Q=>∃l b xs zs,x=.ref l/\y=.ref b/\H l=some (.lst xs)/\H b=some (.lst zs)/\xs.length+zs.length<=sizeLine/\∀p,H p=none->Q (.ref p) (upd H p (.lst (xs++zs)))
def MU:cI X (binaryOp .Add) vP:=by
 intro aa s σ H x y v u Q I d f h;obtain⟨l,b,xs,zs,rfl,rfl,g,i,hz,q⟩:=h;cases d;cases f;obtain⟨z,a,n,r,o,e⟩:=I.lstM g;obtain⟨p,c,n2,r2,w,e2⟩:=I.lstM i;refine PySem.P.add_list e e2 ?_ (by rw[AG,AG];(first|lia|omega));have j:a.toArray++c.toArray=(a++c).toArray:=by simp
 rw[j];exact⟨.ref _,_,I.lnew (t':=s.toks) (r.append r2) (by rw[A6];(first|lia|omega)),rfl,q _ I.fresh⟩
def FV:R2:=fun x y H Q=>∃l k xs,x=.ref l/\y=.int k/\H l=some (.lst xs)/\-(2 ^ 63)<=k/\k<2 ^ 63/\xs.length*k.toNat<=sizeLine/\
 ∀p,H p=none->Q (.ref p) (upd H p (.lst (Ar k.toNat xs).flatten))
def len_rep{a:Type}(xs:List a)(k:Nat):(Ar k xs).flatten.length=k*xs.length:=by
 induction k with
 |zero=>simp
 |succ k ih=>rw[List.replicate_succ,List.flatten_cons,A6,ih,Nat.succ_mul,Nat.add_comm]
def FW:cI X (binaryOp .Mult) FV:=by
 intro aa s σ H x y v u Q I i j h;obtain⟨l,k,xs,rfl,rfl,o,h1,h2,hz,q⟩:=h;cases i;obtain⟨t,rfl⟩:=j;obtain⟨z,b,n,r,p,e⟩:=I.lstM o;have w:b.toArray.size*k.toNat<=sizeLine:=by rw[AG,<-p];exact hz
 have d:¬b.toArray.size*k.toNat>(2 ^ 63-1) / 8:=by
  have:(sizeLine:Nat)<=(2 ^ 63-1) / 8:=ξ
  (first|lia|omega)
 have f:¬(!Builtin.List.listFitsIndex k)=true:=by
  rw[fitsIndex_both h1 h2];exact AJ
 have c:¬Builtin.List.listTooLong (b.toArray.size*k.toNat)=true:=by
  rw[MT w];exact AJ
 have g:List.foldl (fun x1 x2=>x1++x2) #[] (Ar (if b.toArray.isEmpty=true then 0 else k.toNat) b.toArray)=(Ar k.toNat b).flatten.toArray:=by
  have A:∀m:Nat,List.foldl (fun x1 x2=>x1++x2) #[] (Ar m b.toArray)=(Ar m b).flatten.toArray:=fun m=>by
   have:=foldl_rep b m [];rw[List.nil_append] at this;exact this
  rw[A];cases b with
  |nil=>simp
  |cons a r'=>rw[if_neg (by simp)]
 refine wpAny_binaryOp_repeat_ref (T:="list") (U:="int") ξ ⟨_,e,rfl⟩ (fun s'=>typeIs_int s' k t) noFill_list_mul F.fills_int_mul F.slot_int_rmul repeat_list F.slot_int_index.lookup
  (call_meets F.slot_int_rmul (typeIs_int s k t) F.entry_int_rmul (F.args_int_rmul_2 _ _) (int___rmul___int_list k t l b.toArray n)
   ⟨e,rfl,⟨_,e,rfl⟩,call_meets F.slot_list_mul ⟨_,e,rfl⟩ F.entry_list_mul (F.args_list_mul_2 _ _) (AutoListH.list___mul___list_int_3 l b.toArray n k t f d c) ⟨e,?_⟩⟩)
 rw[g];exact⟨.ref _,_,I.lnew (t':=s.toks) (r.rep k.toNat) (by rw[len_rep,Nat.mul_comm];exact hz),rfl,q _ I.fresh⟩
end
section
variable{prog:Program}{w:World}{A:Around}{E:Ω}{s:Shared}
set_option maxRecDepth 100000 in
end
section
variable{κ:Type}[DecidableEq κ]
def b7(kvs:List (κ×V))(k:κ):Option V:=(kvs.find? fun a=>decide (a.1=k)).map (·.2)
def putK(kvs:List (κ×V))(k:κ)(v:V):List (κ×V):=
 if(kvs.any fun a=>decide (a.1=k))=true then kvs.map (fun a=>if a.1=k then(a.1,v) else a) else kvs++[(k,v)]
def FX{p:κ×V}{r:List (κ×V)}{k:κ}(e:p.1=k):b7 (p::r) k=some p.2:=by simp[b7,List.find?_cons,e]
def FY{p:κ×V}{r:List (κ×V)}{k:κ}(e:¬p.1=k):b7 (p::r) k=b7 r k:=by simp[b7,List.find?_cons,e]
def IR(k:κ):∀kvs:List (κ×V),(kvs.any fun a=>decide (a.1=k))=(b7 kvs k).isSome
 |[]=>rfl
 |p::r=>by
  rw[List.any_cons]
  by_cases e:p.1=k
  ·simp only[FX e,decide_eq_true e,Bool.true_or,Option.isSome_some]
  ·rw[FY e,decide_eq_false e,Bool.false_or];exact IR k r
def IS(kvs:List (κ×V))(k:κ)(v:V):(putK kvs k v).length<=kvs.length+1:=by
 unfold putK;split
 ·rw[Ab];(first|lia|omega)
 ·rw[A6,AL,List.length_nil];(first|lia|omega)
def RelO.isSome_eq{o:Option V}{u:Option Value}(r:RelO o u):o.isSome=u.isSome:=by
 cases o with
 |none=>cases u with
  |none=>rfl
  |some _=>exact(show False from r).elim
 |some _=>cases u with
  |none=>exact(show False from r).elim
  |some _=>rfl
def KV.val{kvs:List (κ×V)}{vs:List (κ×Value)}(r:KV kvs vs)(k:κ):RelO (b7 kvs k) (valueAt vs k):=by
 unfold KV at r
 induction r with
 |nil=>exact True.intro
 |@cons p q ps a h t d=>
  obtain⟨h1,h2⟩:=h
  by_cases e:p.1=k
  ·have c:q.1=k:=h1.symm.trans e
   have b:valueAt (q::a) k=some q.2:=by simp[valueAt,List.find?_cons,c]
   rw[FX e,b];exact h2
  ·have c:¬q.1=k:=fun z=>e (h1.trans z)
   have b:valueAt (q::a) k=valueAt a k:=by simp[valueAt,List.find?_cons,c]
   rw[FY e,b];exact d
def KV.any{kvs:List (κ×V)}{vs:List (κ×Value)}(r:KV kvs vs)(k:κ):(kvs.any fun a=>decide (a.1=k))=vs.any fun a=>decide (a.1=k):=by
 unfold KV at r
 induction r with
 |nil=>rfl
 |cons h t ih=>rw[List.any_cons,List.any_cons,ih,h.1]
def KV.repl{kvs:List (κ×V)}{vs:List (κ×Value)}(r:KV kvs vs)(k:κ){y:V}{u:Value}(b:RelV y u):KV (kvs.map fun a=>if a.1=k then(a.1,y) else a) (vs.map fun a=>if a.1=k then(a.1,u) else a):=by
 unfold KV at r ⊢
 induction r with
 |nil=>exact .nil
 |@cons p q ps qs h t ih=>
  rw[Bb,Bb];refine .cons ?_ ih;obtain⟨h1,h2⟩:=h
  by_cases e:p.1=k
  ·rw[if_pos e,if_pos (h1.symm.trans e)];exact⟨h1,b⟩
  ·rw[if_neg e,if_neg (fun z=>e (h1.trans z))];exact⟨h1,h2⟩
def KV.put{kvs:List (κ×V)}{vs:List (κ×Value)}(r:KV kvs vs)(k:κ){y:V}{u:Value}(a:RelV y u):KV (putK kvs k y) (stored vs k u):=by
 unfold putK stored;rw[r.any k]
 by_cases e:(vs.any fun b=>decide (b.1=k))=true
 ·rw[if_pos e,if_pos e];exact r.repl k a
 ·rw[if_neg e,if_neg e];exact Paired.snoc r ⟨rfl,a⟩
def KV.length{kvs:List (κ×V)}{vs:List (κ×Value)}(r:KV kvs vs):kvs.length=vs.length:=Paired.length r
end
def DN{P:Program}{w:World}{k:Key}{u:Value}(r:RelV (kV k) u):(eP P w).is k u=true:=by
 cases k with
 |inl i=>obtain⟨t,e⟩:=(show ∃t,u=Value.int i t from r);subst e;exact Mc P w i t
 |inr x=>obtain⟨t,e⟩:=(show ∃t,u=Value.str x t from r);subst e;exact Md P w x t
def IT{P:Program}{w:World}:∀{ks:List Key}{us:List Value},Vals (ks.map kV) us->ItemsAre (eP P w) ks us
 |[],_,r=>by rw[List.map_nil] at r;cases r;exact .nil
 |k::ks,_,r=>by
  rw[Bb] at r;cases r with
  |cons h t=>exact .cons (DN h) (IT t)
abbrev KT(H:Hp):List (List Key×V)->List (List Key×Addr×Value)->Prop:=Paired fun p q=>p.1=q.1/\H q.2.1=some (.tup (p.1.map kV))/\RelV p.2 q.2.2
def KT.val{H:Hp}{kvs:List (List Key×V)}{xs:List (List Key×Addr×Value)}(r:KT H kvs xs)(k:List Key):RelO (b7 kvs k) ((atKey xs k).map (·.2)):=by
 induction r with
 |nil=>exact True.intro
 |@cons p q ps a h t d=>
  obtain⟨h1,_,h2⟩:=h
  by_cases e:p.1=k
  ·have c:q.1=k:=h1.symm.trans e
   have b:atKey (q::a) k=some q.2:=by simp[atKey,List.find?_cons,c]
   rw[FX e,b];exact h2
  ·have c:¬q.1=k:=fun z=>e (h1.trans z)
   have b:atKey (q::a) k=atKey a k:=by simp[atKey,List.find?_cons,c]
   rw[FY e,b];exact d
def KT.repl{H:Hp}{kvs:List (List Key×V)}{xs:List (List Key×Addr×Value)}(r:KT H kvs xs)(k:List Key){y:V}{u:Value}(c:RelV y u):KT H (kvs.map fun a=>if a.1=k then(a.1,y) else a) (xs.map (putAt k u)):=by
 induction r with
 |nil=>exact .nil
 |@cons p q ps qs h t ih=>
  rw[Bb,Bb];refine .cons ?_ ih;obtain⟨h1,h2,b⟩:=h;unfold putAt
  by_cases e:p.1=k
  ·rw[if_pos e,if_pos (h1.symm.trans e)];exact⟨h1,h2,c⟩
  ·rw[if_neg e,if_neg (fun z=>e (h1.trans z))];exact⟨h1,h2,b⟩
def KT.put{H:Hp}{kvs:List (List Key×V)}{xs:List (List Key×Addr×Value)}(r:KT H kvs xs)(k:List Key){b:Addr}{y:V}{u:Value}(hb:H b=some (.tup (k.map kV)))(a:RelV y u):KT H (putK kvs k y) (storedH xs k b u):=by
 have e:(kvs.any fun c=>decide (c.1=k))=(atKey xs k).isSome:=by
  rw[IR,(r.val k).isSome_eq,Option.isSome_map]
 unfold putK storedH;rw[e]
 by_cases q:(atKey xs k).isSome=true
 ·rw[if_pos q,if_pos q];exact r.repl k a
 ·rw[if_neg q,if_neg q];exact Paired.snoc r ⟨rfl,hb,a⟩
def KT.keeps{H H':Hp}{kvs:List (List Key×V)}{xs:List (List Key×Addr×Value)}(r:KT H kvs xs)(a:∀b ys,H b=some (.tup ys)->H' b=some (.tup ys)):KT H' kvs xs:=
 Paired.mapP r fun _ _ z=>⟨z.1,a _ _ z.2.1,z.2.2⟩
section
variable{P:Program}{w:World}{H:Hp}{h:Heap}{a:Addr}
def IU{u:HO}(ok:HOk P w H h)(e:Rd H a u):zak P w H h a u:=e.ok ok
def DO{kvs:List (Key×V)}(ok:HOk P w H h)(e:Rd H a (.dK kvs)):kvs.length<=sizeLine/\(a==sysModules)=false/\∃vs,KV kvs vs/\h.DictOf (eP P w) a vs:=
 show zak P w H h a (.dK kvs) from IU ok e
def IV{kvs:List (Key×V)}(ok:HOk P w H h)(e:H a=some (.dK kvs)):kvs.length<=sizeLine/\(a==sysModules)=false/\∃vs,KV kvs vs/\h.DictOf (eP P w) a vs:=DO ok (.inl e)
def DP{ks:List Key}(ok:HOk P w H h)(e:H a=some (.tup (ks.map kV))):(tupleKind (eP P w)).is h ks a:=by
 obtain⟨_,b,r,o,h1,h2,n,c⟩:=(show zak P w H h a (.tup (ks.map kV)) from ok a _ e);exact⟨o,b.toArray,n,h1,h2,c,by simpa using IT r⟩
def DQ{kvs:List (List Key×V)}(ok:HOk P w H h)(e:Rd H a (.dT kvs)):kvs.length<=sizeLine/\(a==sysModules)=false/\
  ∃xs,KT H kvs xs/\h.DictOfH (tupleKind (eP P w)) a xs:=by
 obtain⟨z,y,xs,r,o,es,ep,h1,h2,b,c,d⟩:=(show zak P w H h a (.dT kvs) from IU ok e);refine⟨z,y,xs,r,o,es,ep,h1,h2,b,c,fun x hx=>?_,d⟩;have all:∀{l:List (List Key×V)}{m:List (List Key×Addr×Value)},KT H l m->∀x∈m,(tupleKind (eP P w)).is h x.1 x.2.1:=by
  intro l m q
  induction q with
  |nil=>intro x hx;exact nomatch hx
  |@cons p q ps qs hq t ih=>
   intro x hx;rcases List.mem_cons.mp hx with e|hx
   ·subst e
    exact DP ok (by rw[<-hq.1];exact hq.2.1)
   ·exact ih x hx
 exact all r x hx
def MV{kvs:List (List Key×V)}(ok:HOk P w H h)(e:H a=some (.dT kvs)):kvs.length<=sizeLine/\(a==sysModules)=false/\
  ∃xs,KT H kvs xs/\h.DictOfH (tupleKind (eP P w)) a xs:=DQ ok (.inl e)
end
def DGet(H:Hp)(a:Addr)(y:V)(r:Option V):Prop:=
 (∃kvs k,Rd H a (.dK kvs)/\y=kV k/\r=b7 kvs k)\/∃kvs k b,Rd H a (.dT kvs)/\y=.ref b/\H b=some (.tup (k.map kV))/\r=b7 kvs k
def DPut(H:Hp)(a:Addr)(y v:V)(H':Hp):Prop:=
 (∃kvs k,H a=some (.dK kvs)/\y=kV k/\kvs.length<sizeLine/\H'=upd H a (.dK (putK kvs k v))) \/
 ∃kvs k b,H a=some (.dT kvs)/\y=.ref b/\H b=some (.tup (k.map kV))/\kvs.length<sizeLine/\H'=upd H a (.dT (putK kvs k v))
def DGet.k{H:Hp}{a:Addr}{kvs:List (Key×V)}{k:Key}(e:H a=some (.dK kvs)):DGet H a (kV k) (b7 kvs k):=.inl ⟨kvs,k,.inl e,rfl,rfl⟩
def DGet.t{H:Hp}{a b:Addr}{kvs:List (List Key×V)}{k:List Key}(e:H a=some (.dT kvs))(c:H b=some (.tup (k.map kV))):DGet H a (.ref b) (b7 kvs k):=.inr ⟨kvs,k,b,.inl e,rfl,c,rfl⟩
def DPut.k{H:Hp}{a:Addr}{kvs:List (Key×V)}{k:Key}{v:V}(e:H a=some (.dK kvs))(b:kvs.length<sizeLine):DPut H a (kV k) v (upd H a (.dK (putK kvs k v))):=.inl ⟨kvs,k,e,rfl,b,rfl⟩
def DPut.t{H:Hp}{a b:Addr}{kvs:List (List Key×V)}{k:List Key}{v:V}(e:H a=some (.dT kvs))(c:H b=some (.tup (k.map kV)))(d:kvs.length<sizeLine):DPut H a (.ref b) v (upd H a (.dT (putK kvs k v))):=.inr ⟨kvs,k,b,e,rfl,c,d,rfl⟩
section
variable{X:Cx}{aa:Ψ}{σ:St}{H:Hp}{s:Shared}{a:Addr}{y v:V}{u r:Value}{o:Option V}{A:Around}{E:Ω}
def Inv.big(I:Inv X aa σ H s):sysModules<s⁻¹:=by
 have h:mainGlobals<s⁻¹:=(I.mod.glob.keeps I.bk).lt;exact Nat.lt_trans ξ h
def MW{Q:Ω}(x:A.units+1<cLine)(I:Inv X aa σ H s)(g:DGet H a y (some v))(j:RelV y u)(h:∀c s',Inv X aa σ H s'->RelV v c->Q c s'):wpAny (model X.prog X.w) A (getItem (.ref a) u) Q E s:=by
 rcases g with ⟨kvs,k,e,d,l⟩|⟨kvs,k,b,e,d,q,l⟩
 ·subst d
  obtain⟨z,hd,vs,f,dd⟩:=DO I.hok e;obtain⟨c,hw,i⟩:=RelO.some_of (v:=v) (o:=valueAt vs k) (by rw[l];exact f.val k);exact wpAny_getItem_of (DN j) dd.mapOf hw (h c _ (I.tok _) i)
 ·subst d
  cases(show u=Value.ref b from j);obtain⟨z,hd,xs,f,dd⟩:=DQ I.hok e;obtain⟨c,hw,i⟩:=RelO.some_of (v:=v) (o:=(atKey xs k).map (·.2)) (by rw[l];exact f.val k);obtain⟨p,hp,r⟩:=Option.map_eq_some_iff.mp hw;refine wpAny_getItem_heap (tupleKind_room_in1 x) (DP I.hok q) dd hp ?_;rw[r];exact h c _ (I.tok _) i
def FZ{Q:Ω}(j:A.units+1<cLine)(I:Inv X aa σ H s)(g:DGet H a y o)(f:RelV y u)(h:∀s',Inv X aa σ H s'->Q (.bool o.isSome) s'):wpAny (model X.prog X.w) A (compareOp .In u (.ref a)) Q E s:=by
 rcases g with ⟨kvs,k,e,c,l⟩|⟨kvs,k,b,e,c,i,l⟩
 ·subst c
  obtain⟨z,hd,vs,d,dd⟩:=DO I.hok e;refine wpAny_in_of (DN f) hd dd.mapOf ?_;rw[<-(d.val k).isSome_eq,<-l];exact h _ (I.tok _)
 ·subst c
  cases(show u=Value.ref b from f);obtain⟨z,hd,xs,d,dd⟩:=DQ I.hok e;refine wpAny_in_heap (tupleKind_room_in1 j) (DP I.hok i) hd dd ?_;have q:=(d.val k).isSome_eq;rw[Option.isSome_map] at q;rw[<-q,<-l];exact h _ (I.tok _)
def IW{h':Heap}{t':Nat}{c:HO}(I:Inv X aa σ H s)(mu:ug (H a))(d:Heap.SameBut a s.heap h')(f:∃q,h'.get? a=some q)(new:zak X.prog X.w (upd H a c) h' a c):Inv X aa σ (upd H a c) {s with heap:=h',toks:=t'}:=
 I.write (x:=a) (e:=a) mu (.inl rfl) (fun b q hb z=>(d.2 b hb).trans z) f new
def dk_new{P:Program}{w:World}{H':Hp}{h':Heap}{kvs:List (Key×V)}{vs:List (Key×Value)}(z:kvs.length<=sizeLine)(hd:(a==sysModules)=false)(b:KV kvs vs)(dd:h'.DictOf (eP P w) a vs):zak P w H' h' a (.dK kvs):=⟨z,hd,vs,b,dd⟩
def MX{H':Hp}{Q:Unit->Shared->Prop}(N:A.units+1<cLine)(I:Inv X aa σ H s)(g:DPut H a y v H')(F:RelV y u)(x:RelV v r)(h:∀s',Inv X aa σ H' s'->Q () s'):wpAny (model X.prog X.w) A (setItem (.ref a) u r) Q E s:=by
 rcases g with ⟨kvs,k,e,o,l,p⟩|⟨kvs,k,b,e,o,C,l,p⟩
 ·subst o p
  obtain⟨z,hd,vs,d,dd⟩:=IV I.hok e;have hz:vs.length<=sizeLine:=by rw[<-d.length];exact z
  have j:(putK kvs k v).length<=sizeLine:=by have:=IS kvs k v;(first|lia|omega)
  refine wpAny_setItem_pairs (hsz:=hz) (DN F) dd fun h' f i=>h _ ?_;have G:∃q,h'.get? a=some q:=let ⟨q,_,_,hq,_⟩:=f;⟨q,hq⟩;exact IW I (by rw[e];exact True.intro) i G (dk_new j hd (d.put k x) f)
 ·subst o p
  cases(show u=Value.ref b from F);obtain⟨z,hd,xs,d,dd⟩:=MV I.hok e;have hz:xs.length<=sizeLine:=by rw[<-Paired.length d];exact z
  have j:(putK kvs k v).length<=sizeLine:=by have:=IS kvs k v;(first|lia|omega)
  refine wpAny_setItem_heap (hsz:=hz) (tupleKind_room_in1 N) (DP I.hok C) dd fun h' f i=>h _ ?_;obtain⟨q,es,ep,hq,h2,J,L,_,M⟩:=f;refine IW I (by rw[e];exact True.intro) i ⟨q,hq⟩ ⟨j,hd,_,(d.put k C x).keeps fun c ys D=>?_,q,es,ep,hq,h2,J,L,M⟩;rw[am (Fj D e (fun z=>nomatch z))];exact D
end
def vT(i:Expr):Prop:=∀a b,subscripted i false a b=operate [a,b] (getItem a b)
def MY{prog:Program}{w:World}{A:Around}{E:Ω}{s:Shared}{env:Env}{ax slice:Expr}{pos:Pos}{T id:String}{Q:Ω}(j:typeLookup (.type T) "__getitem__"=pure (some (.builtin id)))(l:vT slice)(h:wpAny (model prog w) A (eval ax env) (fun o c=>wpAny (model prog w) A (eval slice env) (fun i a=>a.TypeIs o T/\wpAny (model prog w) A (getItem o i) Q E a) E c) E s):wpAny (model prog w) A (eval (.Subscript ax slice pos) env) Q E s:=by
 refine Subscript_ (wpAny_mono h (fun o c f=>wpAny_mono f (fun i a b=>?_) fun _ _ x=>x) fun _ _ x=>x);obtain⟨e,b⟩:=b;unfold subscriptTail;refine Ag ?_;rw[getitemInPython_of_ne e.not_modules];refine Ag (wpAny_specialOf e j ?_);have fin:wpAny (model prog w) A (subscripted slice false o i) (fun r d=>wpAny (model prog w) A (letTemporaryGo ax o r >>= fun _=>pure r) Q E d) E a:=by
  rw[l o i];exact wpAny_operating (wpAny_mono b (fun r d g=>Ag (wpAny_letTemporaryGo (Aq g))) fun _ _ x=>x)
 first
  |exact Aq (Ag fin)
  |exact Ag (Aq (Ag fin))
  |exact Ag fin
def MZ{X:Cx}{aa:Ψ}{σ:St}{H:Hp}{s:Shared}{a:Addr}{y:V}{o:Option V}(I:Inv X aa σ H s)(g:DGet H a y o):s.TypeIs (.ref a) "dict":=by
 rcases g with ⟨kvs,k,e,_,_⟩|⟨kvs,k,b,e,_,_,_⟩
 ·obtain⟨_,_,vs,_,dd⟩:=DO I.hok e
  exact dd.typeIs
 ·obtain⟨_,_,xs,_,dd⟩:=DQ I.hok e
  exact dd.typeIs
def M0(td ty:TE):TE:=fun σ H Q=>td σ H fun x H1=>ty σ H1 fun y H2=>∃a v,x=.ref a/\DGet H2 a y (some v)/\Q v H2
def F0(ty td:TE):TE:=fun σ H Q=>ty σ H fun y H1=>td σ H1 fun x H2=>∃a o,x=.ref a/\DGet H2 a y o/\Q (.bl o.isSome) H2
def M3(td ty tv:TE):TS:=fun D σ H=>tv σ H fun v H1=>td σ H1 fun x H2=>ty σ H2 fun y c=>∃a b,x=.ref a/\DPut c a y v b/\D.nx σ b
section
variable{X:Cx}{o i e ax:Expr}{pos az cB:Pos}{td ty tv:TE}
def nq(p:X.A.units+1<cLine)(q:PE X o td)(hi:PE X i ty)(r:vT i):PE X (.Subscript o i pos) (M0 td ty):=by
 intro aa s σ H Q I h;refine MY PySem.F.slot_dict_getitem.lookup r (aR (q aa s σ H _ I h) fun u c ⟨x,H1,w,d,e⟩=>aR (hi aa c σ H1 _ w e) fun C D ⟨y,H2,b,f,a,v,ex,g,j⟩=>?_);subst ex;obtain rfl:u=Value.ref a:=d;exact⟨MZ b g,MW p b g f fun E G z l=>⟨v,H2,z,l,j⟩⟩
def M4(l:X.A.units+1<cLine)(hi:PE X i ty)(p:PE X o td):PC X .In i o (F0 ty td):=by
 intro aa s σ H Q I h;refine aR (hi aa s σ H _ I h) fun w b ⟨y,H1,q,c,d⟩=>aR (p aa b σ H1 _ q d) fun u z ⟨x,H2,r,e,a,f,ex,g,j⟩=>?_;subst ex;obtain rfl:u=Value.ref a:=e;exact FZ l r g c fun C v=>⟨.bl f.isSome,H2,v,rfl,j⟩
def F7(q:X.A.units+1<cLine)(w:PE X o td)(hi:PE X i ty)(hv:PE X ax tv)(z:swapsWith ax (some (.Subscript o i az)) pos.line X.env=pure false):PS X (.Assign [.Subscript o i az] ax pos) (M3 td ty tv):=by
 intro aa s σ H D I h;refine wpAny_Assign_Subscript (aR (hv aa s σ H _ I h) fun r b ⟨v,H1,C,c,d⟩=>aR (w aa b σ H1 _ C d) fun u e ⟨x,H2,E,f,j⟩=>aR (hi aa e σ H2 _ E j) fun L M ⟨y,O,F,l,a,G,ex,g,p⟩=>?_) z;subst ex;obtain rfl:u=Value.ref a:=f;exact MX q F g l c fun N J=>⟨σ,G,J,p⟩
end
def M5{P:Program}{w:World}{H:Hp}(h:Heap)(hb:sysModules<h.objs.size):zak P w H (h.push {cls:=.type "dict",data:=.dict #[]}) h.objs.size (.dK []):=
 ⟨Ap _,beq_eq_false_iff_ne.mpr (Ne.symm (Az hb)),[],.nil,Heap.DictOf.new h⟩
def M6:TE:=fun _ H Q=>∀p,H p=none->Q (.ref p) (upd H p (.dK []))
section
variable{X:Cx}{pos:Pos}
def M7:PE X (.Dict [] [] pos) M6:=fun aa s σ H Q I h=>
 wpAny_Dict_empty ⟨.ref s⁻¹,_,I.laid (a:=s⁻¹) (o:=.dK []) (t':=s.toks) (fun _ _ q=>Ai _ q) (Ad _) (M5 s.heap I.big),rfl,h _ (I.hok.fresh (Ad _))⟩
end
structure M1(X:Cx)(o:Expr)(m:Str)(bL:Pos)(e:Expr)(ay:Pos):Prop where
 base:attributeBase o m X.env (eval o X.env)=eval o X.env
 few:((backTo ay (starEach [e] X.env)).all (fun x=>!x.1)&&(backToKw ay (keywordEach [] X.env)).all (fun x=>x.1.isSome)
  && decide (([e]:List Expr).length+([]:List Keyword).length+(if([]:List Keyword).isEmpty then 0 else 1)<30))=true
 line:(bL.endLine==ay.line)=true
 trees:backTo ay (starEach [e] X.env)=[(false,eval e X.env)]
structure M2(X:Cx)(o:Expr)(m:Str)(bL:Pos)(e f:Expr)(ay:Pos):Prop where
 base:attributeBase o m X.env (eval o X.env)=eval o X.env
 few:((backTo ay (starEach [e,f] X.env)).all (fun x=>!x.1)&&(backToKw ay (keywordEach [] X.env)).all (fun x=>x.1.isSome)
  && decide (([e,f]:List Expr).length+([]:List Keyword).length+(if([]:List Keyword).isEmpty then 0 else 1)<30))=true
 line:(bL.endLine==ay.line)=true
 trees:backTo ay (starEach [e,f] X.env)=[(false,eval e X.env),(false,eval f X.env)]
def IsD(H:Hp)(a:Addr):Prop:=(∃kvs,Rd H a (.dK kvs))\/∃kvs,Rd H a (.dT kvs)
end L2
namespace Att
open PySem PySem.W PySem.Calls PyProof.Rows
def M8{P:Params}{h:Heap}:∀(ns:List Int)(vs:List Value),WellAll P h vs (ns.map WData.int)->IntsAre vs ns:=by
 intro ns
 induction ns with
 |nil=>
  intro vs w;rw[List.map_nil] at w;cases w;exact .nil
 |cons n ns ih=>
  intro vs w;rw[Bb] at w;cases w with
  |cons a b=>
   cases a;exact .cons _ _ (ih _ b)
def M9{l:OpenLaw}{n:Nat}(p:l.most=some n){P:Params}{h:Heap}{args:List WData}{f:List Value}(g:l.row.toRowW.claim.pre args=true)(s:WellAll P h f args):∃a vs ns,f=[Value.ref a]/\args=[WData.list (ns.map WData.int)]/\h.get? a=some {cls:=.type "list",data:=.seq vs.toArray}/\IntsAre vs ns/\ns.length<=n:=by
 have e:WShape.hasAll [] args [.list .int]=true:=(pre_splitW g).1;have hc:l.pre.holds [] {args:=args}=true:=(pre_splitW g).2;obtain⟨d,r,rfl,h1,h2⟩:=hasAllW_cons e;obtain rfl:=hasAllW_nil h2;obtain⟨xs,rfl,i⟩:=hasW_list h1;obtain⟨ns,rfl⟩:=items_int i;have j:ns.length<=n:=by
  unfold OpenLaw.pre at hc;have b:(WTm.not (.lt (.lit (.int (n:Int))) (.len (.arg 0)))).holds [] {args:=[.list (ns.map .int)]}=true:=by
   have b:=(holds_andW hc).1;rw[p] at b;exact b
  have c:=condW_of b (w_not (w_lt w_lit (w_len_list (w_arg rfl))));rw[Ab] at c;refine Nat.le_of_not_lt fun q=>?_;have o:(n:Int)<((ns.length:Nat):Int):=ω
  first
   |(rw[decide_eq_true o] at c;exact absurd c ξ)
   |(simp at c;(first|lia|omega))
 cases s with
 |cons w1 w2=>
  cases w2;cases w1 with
  |list ho hall=>exact⟨_,_,ns,rfl,rfl,ho,M8 ns _ hall,j⟩
def M_(l:OpenLaw)(args:List WData):l.row.toRowW.claim.post args (.bool true) args=true:=
 postW_of (r:=l.row.toRowW) (X:=(true==true))
  (show WShape.has [] (.bool true) .bool=true by first|rfl|decide|simp[WShape.has,WShape.arms,WShape.armsAll])
  (show(WTm.eq .res (.lit (.bool true))).value [] {args:=args,res:=some (.bool true),after:=args}=some (.bool (true==true)) from w_eq_bool (w_res rfl) w_lit) rfl
def M'{l:OpenLaw}{n:Nat}{q:Program}{j:List Str}{p:(Str->Option Value)->Heap->Prop}{s:World->Heap->Prop}{d:DefRec}(J:l.most=some n)(L:d.params.defaults=[])(call:∀(w:World)(s₀ b:Shared)(mg e:Str->Option Value)(fa:Addr)(o:Obj)(g c h:Value)(a:Addr)(vs:List Value)(ns:List Int),
   Ground q j [] p w s₀ mg e b.heap->s w b.heap->
   b.heap.get? fa=some o->o.data=.func (docDef d.name d.params d.body d.scope g c h)->b.heap.CodeRec c d.name->mg d.name=some (.ref fa)->
   b.heap.get? a=some {cls:=.type "list",data:=.seq vs.toArray}->IntsAre vs ns->ns.length<=n->b.gens=#[]->
   codeAny (model l.prog w) callerA (.call (.ref fa) ⟨[.ref a],[]⟩) (fun r s'=>r=.ok (.ret (.bool true))/\OldK b.heap s'.heap/\s'.os=b.os/\AllBare s'.gens) b):
  WalkO q j p s l.row.toRowW d [] (fun f vs=>PySem.call f vs):=by
 intro w s₀ b mg e G Y fa o g c h u kV v hd x i y hg args M N z O Q A P;obtain rfl:u=.none:=Dflts.none i L;obtain rfl:kV=.none:=Dflts.noKw i;obtain⟨a,vs,ns,rfl,rfl,D,E,F⟩:=M9 J z A;refine enter_call (codeAny_mono (call w s₀ b mg e fa o g c h a vs ns G Y v (fd_plain hd) x y D E F hg) fun r s' hq=>?_);obtain⟨rfl,h2,H,I⟩:=hq;exact⟨.inl ⟨.bool true,.bool true,[],rfl,fun _=>rfl,.bool true,M_ l _,fun _=>⟨List.Pairwise.nil,fun _ C=>(nomatch C)⟩⟩,h2,H,I⟩
end Att
namespace L2
open PySem PySem.Spec PyProof.Rows
def IX:∀{vs:List Value}{ns:List Int},IntsAre vs ns->Vals (ns.map V.int) vs
 |_,_,.nil=>.nil
 |_,_,.cons n t h=>.cons ⟨t,rfl⟩ (IX h)
def nu(H:Hp):Prop:=∀b,H b=none\/∃o xs,H b=some (.frz o (.lst xs))
def Na{P:Program}{w:World}{K:Ah}{mg y:Str->Option Value}{CX:gh}{k:Nat}{fa a:Addr}{fd:FuncData}{x:Str}{sp:Sp}{c:Shared}{vs:List Value}{ns:List Int}(M:K.In c.heap)(J:c.heap.Ns mainGlobals mg)(hb:c.heap.Ns builtinsNs y)(dQ:∀x:Str,x≠"__name__"->y x=A8 x)(kJ:c.heap.NoLimit)(hg:c.gens=#[])(l:c.heap.get? a=some {cls:=.type "list",data:=.seq vs.toArray})(hi:IntsAre vs ns)(L:ns.length<=sizeLine)(hr:Room k callerA)(F:∀base:Heap,K.In base->base.Ns mainGlobals mg->al P w K mg base CX k fa fd [x] sp)(iZ:∀(s:Shared)(u:Value),BindsTo s fd ⟨[u],[]⟩ [(x,u)])(eJ:∀H:Hp,nu H->SqL K H a (ns.map V.int)->sp [.ref a] H (fun v _=>v=.bl true) fun _ _ _=>False)(lX:∀H e s',CX [] H c (fun _ _ _=>False) e s'->False):codeAny (model P w) callerA (.call (.ref fa) ⟨[.ref a],[]⟩) (fun r s'=>r=.ok (.ret (.bool true))/\OldK c.heap s'.heap/\s'.os=c.os/\AllBare s'.gens) c:=by
 have D:=IX hi;have U:=hi.length;have E:∀H:Hp,nu H->SqL K H a (ns.map V.int)->HOk P w H c.heap->(∀b,H b≠none->b=a)->(H a≠none->K.lookup a=none)->
   codeAny (model P w) callerA (.call (.ref fa) ⟨[.ref a],[]⟩) (fun r s'=>r=.ok (.ret (.bool true))/\OldK c.heap s'.heap/\s'.os=c.os/\AllBare s'.gens) c:=by
  intro H A N g C O;have G:∀{b:Addr}{o:Obj},c.heap.get? b=some o->H b=none->(dN c.heap H).get? b=some o:=fun e n=>Mf e n;have W:∀{b:Addr}{o:Obj}{es:Array DictEntry}{ep:Nat},c.heap.get? b=some o->o.data=.dict es ep->H b=none:=fun{b o es ep} e d=>by
   cases q:H b with
   |none=>rfl
   |some u=>
    have p:b=a:=C b (by rw[q];simp);subst p;rw[l] at e;cases e;have d':Data.seq vs.toArray _=Data.dict es ep:=d;cases d'
  have f:∀{b:Addr}{m:Str->Option Value},c.heap.Ns b m->(dN c.heap H).Ns b m:=fun{b m} ⟨o,es,ep,e,d,r⟩=>⟨o,es,ep,G e (W e d),d,r⟩;have I:K.In (dN c.heap H):=fun b o e=>G (M b o e) (by
   cases q:H b with
   |none=>rfl
   |some u=>
    have p:b=a:=C b (by rw[q];simp);subst p;rw[O (by rw[q];simp)] at e;cases e)
  have X:Mod K mg (dN c.heap H):=⟨I,f J,⟨y,f hb,dQ⟩,let ⟨mc,h1,h2⟩:=kJ;⟨mc,f h1,h2⟩⟩;have Y:Env0 P w K mg (dN c.heap H) callerA [] c H:=⟨rfl,X,fun b o e=>Mg e,Nat.le_of_eq (Me _ _),trivial,fun b hb=>absurd (show b∈([]:List Addr) from hb) (by simp),g,.of_eq hg⟩;refine codeAny_mono ((F _ I (f J)).run callerA [] c H ⟨[.ref a],[]⟩ [.ref a] [.ref a] _ _ hr Y (iZ c (.ref a)) (.cons rfl .nil) (eJ H A N)) fun r s' h=>?_;cases r with
  |error e=>exact(lX H e s' h).elim
  |ok fl=>
   cases fl with
   |next=>exact False.elim h
   |brk=>exact False.elim h
   |cont=>exact False.elim h
   |ret u=>
    obtain⟨v,H',os,i,un,Q,S,q⟩:=h;have Z:v=.bl true:=q;subst Z;obtain rfl:u=Value.bool true:=S;refine⟨rfl,OldK.of_keep fun b o e=>?_,os,i⟩;cases q:H b with
    |none=>exact un.keep b o e q (by intro z;exact absurd (show b∈([]:List Addr) from z) (by simp)) (by simp)
    |some u=>
     rcases A b with z|⟨T,xs,z⟩
     ·rw[q] at z;cases z
     ·have z2:=un.frzs b T _ z
      obtain⟨e1,_⟩:=g b _ z;obtain⟨e2,_⟩:=Q b _ z2;rw[e] at e1;cases e1;exact e2
 cases hk:K.lookup a with
 |some o=>
  have e:=M a o hk;rw[l] at e;cases e;refine E (fun _=>none) (fun _=>.inl rfl) (.inr ⟨_,vs.toArray,_,hk,rfl,rfl,rfl,by rw[AG,U];exact L,by simpa using D⟩) (fun b u z=>by have j:(none:Option HO)=some u:=z;cases j) (fun b z=>absurd rfl z) fun z=>absurd rfl z
 |none=>
  refine E (fun b=>if b=a then some (.frz {cls:=.type "list",data:=.seq vs.toArray} (.lst (ns.map V.int))) else none) (fun b=>?_) (.inl (.inr ⟨{cls:=.type "list",data:=.seq vs.toArray},if_pos rfl⟩)) (fun b u z=>?_) (fun b z=>?_) fun _=>hk
  ·by_cases hb:b=a
   ·exact .inr ⟨_,_,if_pos hb⟩
   ·exact .inl (if_neg hb)
  ·by_cases hb:b=a
   ·have j:=(if_pos hb).symm.trans z
    cases j;subst hb;exact⟨l,by rw[Ab];exact L,vs,_,D,l⟩
   ·have j:=(if_neg hb).symm.trans z
    cases j
  ·by_cases hb:b=a
   ·exact hb
   ·exact absurd (if_neg hb) z
def IY{l:PySem.W.OpenLaw}{n k:Nat}{q:Program}{E:List Str}{P:(Str->Option Value)->Heap->Prop}{j:World->Heap->Prop}{d:DefRec}{K:Params->Ah}{CX:World->gh}{sp:World->Sp}{x:Str}(I:l.most=some n)(J:n<=sizeLine)(L:d.params.defaults=[])(hr:Room k callerA)(M:∀(w:World)(h:Heap),j w h->(K w.params).In h)(F:∀(w:World)(mg:Str->Option Value)(fa:Addr)(h:Heap),(K w.params).In h->h.Ns mainGlobals mg->mg d.name=some (.ref fa)->
   ∃fd:FuncData,(∀(s:Shared)(u:Value),BindsTo s fd ⟨[u],[]⟩ [(x,u)])/\
    ∀base:Heap,(K w.params).In base->base.Ns mainGlobals mg->al l.prog w (K w.params) mg base (CX w) k fa fd [x] (sp w))
  (N:∀(w:World)(H:Hp)(a:Addr)(ns:List Int),ns.length<=n->nu H->SqL (K w.params) H a (ns.map V.int)->sp w [.ref a] H (fun v _=>v=.bl true) fun _ _ _=>False)
  (O:∀(w:World)(H:Hp)(s:Shared)(e:Value)(s':Shared),CX w [] H s (fun _ _ _=>False) e s'->False) :
  PySem.W.WalkO q E P j l.row.toRowW d [] (fun f vs=>PySem.call f vs):=by
 refine Att.M' I L fun w s₀ p mg Q fa o S U X a vs ns G Y Z hd cV r y z c hg=>?_;have i:=M w _ Y;obtain⟨fd,hb,D⟩:=F w mg fa _ i G.T.g r;exact Na i G.T.g G.T.b G.T.builtins G.T.nolimit hg y z (Ae c J) hr D hb (fun H A C=>N w H a ns c A C) fun H e s'=>O w H p e s'
end L2
/- THE LAST THEOREM (shape;LID,My.* are yours):
  My.Adr: a structure of dX addresses that your layer names (classes,functions);My.Txt K t: a structure (Prop) of dX equations over K;
  My.txt_mk:{K} {implicit addresses ..} (e1:nsIn K mainGlobals "law"=some (some (.ref f))) (e2:K.lookup f=some ⟨oc,od,.func (fnOf "law" "law" cJ bj scope dV kV aW pm an ah ct),sl⟩) (e3:codeIn K ah "law"=true) ..:∃t,My.Txt K t
set_option maxRecDepth 100000 in
set_option maxHeartbeats 0 in
theorem PySem.Challenge.cw_LID_holds:PySem.Challenge.rw_LID.Holds := by
 w_on;o_law;k_head;(case hw=>w_witness2)
 k_fill
 refine L2.IY (l:=PySem.Challenge.rw_LID) (n:=63) (k:=40) (x:="script") (CX:=fun w=>..) (sp:=fun _=>My.sp_law) rfl ξ rfl ⟨rfl,ξ,ξ⟩ (fun w h Y=>PySem.W.kIn_of Y) ?F ?S ?C
 case F=>
  intro w mg fa h f G g;have T:∃t,My.Txt (L2.KOf f) t:=by
   dsimp only[L2.KOf]                          -- K must stand as «<heap const> w.params» for k_is
   refine' My.txt_mk ?e1 ?e2 ?e3 ..
   (case e1 => PySem.W.k_is)                    -- in e order: a name -> ac address -> ac object -> ac parts
   (case e2=>PySem.W.k_is)
   ..
  obtain⟨t,T⟩:=T;have i:=g.symm.trans (PySem.W.mg_of f G T.law);cases i                                       -- fa is e law's own address
  exact⟨_,fun s u => .of_eq rfl,fun base c d => My.law_fn T c d⟩     -- if «.of_eq rfl» comes too early: refine' ⟨_,?b,fun base c d => My.law_fn T c d⟩;exact fun s u => .of_eq rfl
 case S=>exact fun w H a ns j o p=>..
 case C=>exact ..
(e tactic k_is has no namespace: write k_is) -/
namespace L2
open PySem PySem.Spec PyProof.Rows
def zce(s:Stmt):Arguments:=match s with
 |.FunctionDef _ a _ _ _ _ _ _ _ _=>a
 |_=>{posonlyargs:=[],args:=[],vararg:=none,kwonlyargs:=[],kw_defaults:=[],kwarg:=none,defaults:=[]}
def zaA(s:Stmt):List Stmt:=match s with
 |.FunctionDef _ _ b _ _ _ _ _ _ _=>b
 |_=>[]
def zf(s:Stmt):Scope:=match s with
 |.FunctionDef _ _ _ _ _ _ sc _ _ _=>sc
 |_=>{kind:=.function,names:=[],isGenerator:=false,isCoroutine:=false}
abbrev aG:gh:=fun _ _ _ _ _ _=>False
abbrev E0:XK:=fun _ _ _=>False
def ag{X:Cx}:fg aG X E0:=fun _ _ _ _ _ _ _ h=>h.elim
structure Fun(K:Ah)(x aj:Str)(st:Stmt)(f:Addr)(fd:FuncData):Prop where
 ex:∃(oc:Value)(od:Option Addr)(kV aW pm:Value)(an:Option Addr)(ah ct:Value)(dO:Array (Option Value)),
  fd=PySem.W.fnOf x aj (zce st) (zaA st) (zf st) .none kV aW pm an ah ct/\K.lookup f=some ⟨oc,od,.func fd,dO⟩/\PySem.W.codeIn K ah aj=true
 kp:PySem.W.keepIn K (.ref f)=true
section
variable{P:Program}{w:World}{K:Ah}{mg:Str->Option Value}{base:Heap}
def Fun.ok{x b:Str}{st:Stmt}{f:Addr}{fd:FuncData}{N ps:List Str}{k:Nat}{sp:Sp}(F:Fun K x b st f fd)(S:zo N ps (zf st))(len:∀vs H Q E,sp vs H Q E->vs.length=ps.length)(e:∀(a:Value)(A:Around)(outer:List Env)(s:Shared)(H:Hp)(vs:List V)(Q:VK)(E:XK),Room k (A.deeper (envOfC b (zf st) s⁻¹ f a))->sp vs H Q E->
   ∃t,PSs (de aG P w K mg base N b (zf st) f a A outer s H E).nox (zaA st) t/\t {nx:=fun _ H'=>Q .non H',rt:=Q} (start N vs) H):al P w K mg base aG (k+1) f fd ps sp:=by
 obtain⟨g,i,kV,j,l,o,a,ct,p,rfl,lk,d⟩:=F.ex;refine MH lk d S len fun A outer s H vs Q E hr c=>?_;obtain⟨t,h,q⟩:=e a A outer s H vs Q E hr c;exact⟨t,h.nox,q⟩
def Fun.binds{x e:Str}{st:Stmt}{f:Addr}{fd:FuncData}{ps:List Str}(F:Fun K x e st f fd)(h:∀(kV a b:Value)(c:Option Addr)(d ct:Value)(us:List Value),us.length=ps.length->bindArgs (PySem.W.fnOf x e (zce st) (zaA st) (zf st) .none kV a b c d ct) ⟨us,[]⟩=pure (ps.zip us)):Binds K fd ps []:=by
 obtain⟨g,i,kV,a,b,c,d,ct,j,rfl,lk,l⟩:=F.ex;exact .all (h kV a b c d ct)
def Nb{x a:Str}{st:Stmt}{f:Addr}{i:Value}{j g:Option Addr}{h:Array (Option Value)}{kV d e b ct:Value}(l:K.lookup f=some ⟨i,j,.func (PySem.W.fnOf x a (zce st) (zaA st) (zf st) .none kV d e g b ct),h⟩)(c:PySem.W.codeIn K b a=true)(k:PySem.W.keepIn K (.ref f)=true):Fun K x a st f (PySem.W.fnOf x a (zce st) (zaA st) (zf st) .none kV d e g b ct):=⟨⟨i,j,kV,d,e,g,b,ct,h,rfl,l,c⟩,k⟩
end
def DR{A:Around}{k:Nat}(hr:Room k A):A.units+1<cLine:=At (Nat.add_le_add_left (by decide:1<=64) _) hr.units
section
variable{X:Cx}
def pv(i:Nat){x:Str}{pos:Pos}(a:X.N[i]?=some x:=by rfl)(hv:DA X.env.scope x:=by first|exact Or.inl rfl|exact Or.inr (Or.inl rfl)|exact Or.inr (Or.inr rfl))(hd:(x==("__debug__":Str))=false:=by decide)
  (b:(x==("__classdict__":Str))=false:=by decide):PE X (.Name x pos) (ar i):=Mh a hv hd b
end
def aP{A B:Prop}(h:B):if false=true then A else B:=by
 rw[if_neg AJ];exact h
def aV{A B:Prop}(h:A):if true=true then A else B:=by
 rw[if_pos rfl];exact h
def eA{c A B:Prop}[Decidable c](h1:c->A)(h2:¬c->B):if c then A else B:=by
 by_cases h:c
 ·rw[if_pos h]
  exact h1 h
 ·rw[if_neg h]
  exact h2 h
def Same(H H':Hp):Prop:=∀b o,H b=some o->H' b=some o
def Same.refl(H:Hp):Same H H:=fun _ _ h=>h
def Same.trans{H H1 H2:Hp}(a:Same H H1)(b:Same H1 H2):Same H H2:=fun c o h=>b c o (a c o h)
def Same.free{H H':Hp}(e:Same H H'){l:Addr}(h:H' l=Option.none):H l=Option.none:=by
 cases q:H l with
 |none=>rfl
 |some o=>
  rw[e l o q] at h;cases h
def Same.seq{K:Ah}{H H':Hp}{a:Addr}{xs:List V}(e:Same H H')(h:SqL K H a xs):SqL K H' a xs:=by
 rcases h with (h|⟨o,h⟩)|h
 ·exact .inl (.inl (e _ _ h))
 ·exact .inl (.inr ⟨o,e _ _ h⟩)
 ·exact .inr h
def clOf(cells:List (Str×Addr)):List (Str×NameKind)->List (Str×Addr)->List (Str×Addr)
 |[],acc=>acc
 |(n,k)::r,acc=>if(k==.free)=true then clOf cells r ((n,(cells.lookup n).getD 0)::acc) else clOf cells r acc
def IZ{env:Env}:∀(names:List (Str×NameKind))(acc:List (Str×Addr)),(∀x∈names,x.2=.free->∃c,env.cells.lookup x.1=some c)-> (forIn names acc fun x(r:List (Str×Addr))=>if(x.2==.free)=true then do let c <-cellOf env x.1;pure (ForInStep.yield ((x.1,c)::r)) else pure (ForInStep.yield r):Sem (List (Str×Addr)))=pure (clOf env.cells names acc)
 |[],acc,_=>rfl
 |(n,k)::r,acc,h=>by
  rw[List.forIn_cons];have d:=fun a=>IZ (env:=env) r a fun x hx=>h x (AM _ hx);unfold clOf
  by_cases hk:(k==Bo)=true
  ·have b:k=.free:=by cases k<;>first|rfl|cases hk
   obtain⟨c,hc⟩:=h (n,k) AI b;simp only[hk,if_true];unfold cellOf;rw[hc];simp only[pure_bind,Option.getD_some];exact d _
  ·simp only[hk,Bool.false_eq_true,if_false,pure_bind]
   exact d _
def Nc{scope:Scope}{env:Env}(h:∀x∈scope.names,x.2=.free->∃c,env.cells.lookup x.1=some c):closureFor scope env=pure (clOf env.cells scope.names []):=by
 rw[<-IZ scope.names [] h];unfold closureFor;simp
def F_{x:Str}{c:Addr}:∀{l:List (Str×Addr)},(x,c)∈l->∃d,l.lookup x=some d
 |[],h=>nomatch h
 |(y,d)::l,h=>by
  rw[Bm]
  by_cases e:x=y
  ·subst e;exact⟨d,by simp⟩
  ·have hb:(x==y)=false:=by simpa using e
   rw[hb];rcases List.mem_cons.mp h with q|q
   ·cases q;exact absurd rfl e
   ·exact F_ q
def DS{cells:List (Str×Addr)}{x:Str}:∀{names:List (Str×NameKind)}{acc:List (Str×Addr)},((x,Bo)∈names\/∃c,(x,c)∈acc)->∃c,(x,c)∈clOf cells names acc
 |[],acc,h=>h.elim (fun q=>nomatch q) id
 |(n,k)::r,acc,h=>by
  unfold clOf
  by_cases hk:(k==Bo)=true
  ·rw[if_pos hk]
   refine DS ?_;rcases h with h|⟨c,h⟩
   ·rcases List.mem_cons.mp h with q|q
    ·cases q;exact .inr ⟨_,AI⟩
    ·exact .inl q
   ·exact .inr ⟨c,AM _ h⟩
  ·rw[if_neg hk]
   refine DS ?_;rcases h with h|h
   ·rcases List.mem_cons.mp h with q|q
    ·cases q;exact absurd rfl hk
    ·exact .inl q
   ·exact .inr h
def eC(X:Cx)(scope:Scope)(N:List Str)(a:List (Str×Addr))(C:Addr)(s₀:Shared)(H₀:Hp)(ex:List Addr):Cx where
 prog:=X.prog
 w:=X.w
 K:=X.K
 mg:=X.mg
 base:=X.base
 A:=X.A
 N:=N
 s₀:=s₀
 H₀:=H₀
 env:=compEnvC scope a C X.env
 outer:=X.stack
 stack:=X.stack
 ex:=ex
 fn:=fun _=>false
 calm:=X.calm
 pn:=X.pn
 xe:=fun _ _=>False
def i8(X:Cx)(aD:List Expr)(t:TT):Prop:=
 ∀(aa:Ψ)(s:Shared)(σ:St)(H:Hp)(Q:Bool->Hp->Prop),Inv X aa σ H s->t σ H Q->
  wpAny (model X.prog X.w) X.A (forIn aD true fun c r=>if r=true then do let ok <-isTrue c X.env (eval c X.env);pure (ForInStep.yield ok) else pure (ForInStep.yield r)) (TP X aa σ Q) X.xe s
def bJ:TT:=fun _ H Q=>Q true H
def zC{X:Cx}:i8 X [] bJ:=fun _ _ _ H _ I h=>wpAny_tests_nil ⟨H,I,h⟩
def I0{X:Cx}{c:Expr}{t:TT}(h:PT X c t):i8 X [c] t:=fun aa s σ H Q I hw=>wpAny_tests_one (h aa s σ H Q I hw)
def vY(ai:List (Option Nat))(σ:St):St:=ai.map fun c=>match c with
 |none=>none
 |some j=>(σ[j]?).getD none
def cP(J:It)(g:TG)(tc:TT)(te:TE)(σ:St)(H1:Hp)(D:Addr)(Q:VK):Prop:=
 ∃W:Nat->Nat->St->Hp->Prop,(∃m,W 0 m σ (upd H1 D (.lst [])))/\
 ∀i m d H2,W i m d H2->(J.stop i H2/\Q (.ref D) H2)\/(J.go i H2/\∀x h,J.yld i H2 x h->g x d h fun c j=>tc c j fun b e=>
  if b=true then te c e fun y f=>∃ys a,f D=some (.lst ys)/\ys.length<sizeLine/\a<m/\W (i+1) a c (upd f D (.lst (ys++[y])))
  else ∃a,a<m/\W (i+1) a c e)
def kX(wi:TI)(ai:List (Option Nat))(g:TG)(tc:TT)(te:TE):TE:=fun σ H Q=>wi σ H fun J H1=>∀D,H1 D=none->cP J g tc te (vY ai σ) H1 D Q
def p8(N N':List Str)(ai:List (Option Nat))(scope:Scope):Prop:=
 ai.length=N'.length/\∀i j:Nat,ai[i]?=some (some j)->∃x:Str,N'[i]?=some x/\N[j]?=some x/\scope.names.lookup x=some .free
def DT{cells:List (Str×Addr)}{x:Str}{c:Addr}:∀{names:List (Str×NameKind)}{acc:List (Str×Addr)},(∀y∈names,y.2=.free->∃d,cells.lookup y.1=some d)->(∀p∈acc,False)->(x,c)∈clOf cells names acc->cells.lookup x=some c/\(x,Bo)∈names:=by
 have i:∀{names:List (Str×NameKind)}{acc:List (Str×Addr)},(∀y∈names,y.2=.free->∃d,cells.lookup y.1=some d)->(x,c)∈clOf cells names acc->(x,c)∈acc\/(cells.lookup x=some c/\(x,Bo)∈names):=by
  intro names
  induction names with
  |nil=>intro acc _ h;exact .inl h
  |cons y r j=>
   intro acc e h;obtain⟨n,k⟩:=y;unfold clOf at h;have l:∀y∈r,y.2=.free->∃d,cells.lookup y.1=some d:=fun y hy=>e y (AM _ hy)
   by_cases hk:(k==Bo)=true
   ·have a:k=.free:=by cases k<;>first|rfl|cases hk
    obtain⟨d,hd⟩:=e (n,k) AI a;rw[if_pos hk] at h;rcases j l h with q|⟨f,g⟩
    ·rcases List.mem_cons.mp q with q|q
     ·refine .inr ⟨?_,?_⟩
      ·have b:cells.lookup n=some d:=hd
       rw[b] at q;cases q;exact b
      ·cases q
       rw[a];exact AI
     ·exact .inl q
    ·exact .inr ⟨f,AM _ g⟩
   ·rw[if_neg hk] at h
    rcases j l h with q|⟨f,g⟩
    ·exact .inl q
    ·exact .inr ⟨f,AM _ g⟩
 intro names acc e o h;rcases i e h with q|q
 ·exact(o _ q).elim
 ·exact q
def cf_mem:∀(names:List (Str×NameKind))(h:Heap)(acc:List (Str×Addr))(x:Str)(c:Addr),(x,c)∈cellsFrom h.objs.size names acc->(x,c)∈acc\/((x,NameKind.cell)∈names/\h.objs.size<=c/\(pushCells h names).IsCell c none)
 |[],h,acc,x,c,a=>.inl a
 |(n,k)::r,h,acc,x,c,a=>by
  rw[cellsFrom.eq_2] at a;have ep:pushCells h ((n,k)::r)=if(k==NameKind.cell)=true then pushCells (h.push {cls:=Value.type "cell",data:=Data.cell none}) r else pushCells h r:=rfl
  by_cases hk:(k==NameKind.cell)=true
  ·have f:k=.cell:=by cases k<;>first|rfl|cases hk
   rw[if_pos hk] at a;rw[ep,if_pos hk];have es:(h.push {cls:=Value.type "cell",data:=Data.cell none}).objs.size=h.objs.size+1:=Heap.size_push ..;rw[<-es] at a;rcases cf_mem r _ _ x c a with q|⟨d,b,e⟩
   ·rcases List.mem_cons.mp q with q|q
    ·cases q
     refine .inr ⟨by rw[f];exact AI,Ad _,_,pushCells_keeps r _ _ _ (AO _ rfl),rfl⟩
    ·exact .inl q
   ·rw[es] at b
    exact .inr ⟨AM _ d,Nat.le_of_succ_le b,e⟩
  ·rw[if_neg hk] at a
   rw[ep,if_neg hk];rcases cf_mem r h acc x c a with q|⟨d,b,e⟩
   ·exact .inl q
   ·exact .inr ⟨AM _ d,b,e⟩
def F':∀(names:List (Str×NameKind))(n:Nat)(acc:List (Str×Addr)),(∀x y c,(x,c)∈acc->(y,c)∈acc->x=y)->(∀p∈acc,p.2<n)->∀x y c,(x,c)∈cellsFrom n names acc->(y,c)∈cellsFrom n names acc->x=y
 |[],n,acc,hi,_,x,y,c,h1,h2=>hi x y c h1 h2
 |(m,k)::r,n,acc,hi,hl,x,y,c,h1,h2=>by
  rw[cellsFrom.eq_2] at h1 h2
  by_cases hk:(k==NameKind.cell)=true
  ·rw[if_pos hk] at h1 h2
   refine F' r (n+1) ((m,n)::acc) (fun x y c p q=>?_) (fun p hp=>?_) x y c h1 h2
   ·rcases List.mem_cons.mp p with p|p<;>rcases List.mem_cons.mp q with q|q
    ·cases p;cases q;rfl
    ·cases p
     have:n<n:=hl _ q;(first|lia|omega)
    ·cases q
     have:n<n:=hl _ p;(first|lia|omega)
    ·exact hi x y c p q
   ·rcases List.mem_cons.mp hp with rfl|hp
    ·exact Nat.lt_succ_self _
    ·exact Nat.lt_succ_of_lt (hl p hp)
  ·rw[if_neg hk] at h1 h2
   exact F' r n acc hi hl x y c h1 h2
def Nd{M:Model}{A:Around}{E:Ω}{s:Shared}{scope:Scope}{g:Addr}{a:List (Str×Addr)}{i:Str}{env:Env}{Q:Env->Shared->Prop}(h:∀d:Heap,(d.Ns s⁻¹ fun _=>none)->(∀b o,s.heap.get? b=some o->d.get? b=some o)->
   (∀x c,(x,c)∈cellsFrom (s⁻¹+1) scope.names a->(x,c)∈a\/((x,NameKind.cell)∈scope.names/\s⁻¹+1<=c/\d.IsCell c none))->
   Q (newEnv scope s⁻¹ g (cellsFrom (s⁻¹+1) scope.names a) i none .none (some env) builtinsNs) {s with heap:=d}):
  wpAny M A (newFunctionEnv scope g a [] i none Value.none (some env)) Q E s:=by
 unfold newFunctionEnv;refine Ag (wpAny_alloc ?_);refine Ag (wpAny_layCells _ (fun name kind cells=>rfl) scope.names a _ _ ?_);have es:(s.heap.push {cls:=Value.type "dict",data:=Data.dict #[]}).objs.size=s⁻¹+1:=Heap.size_push ..;have:=h (pushCells (s.heap.push {cls:=Value.type "dict",data:=Data.dict #[]}) scope.names) ((Heap.Ns.new s.heap (.type "dict")).keeps fun b o e=>pushCells_keeps _ _ _ _ e) (fun b o e=>pushCells_keeps _ _ _ _ (Ai _ e)) (fun x c f=>by
  rw[<-es] at f ⊢;exact cf_mem scope.names _ a x c f)
 show wpAny M A _ _ _ _;refine Ag (Aq ?_);refine Aq ?_;rw[<-es] at this;exact this
def cxD(X:Cx)(scope:Scope)(N:List Str)(a:List (Str×Addr))(C:Addr)(s₀:Shared)(H₀:Hp)(ex:List Addr):Cx:={eC X scope N a C s₀ H₀ ex with fn:=fun x=>decide (scope.names.lookup x=some .cell)}
section
variable{X:Cx}{scope:Scope}{N':List Str}{ai:List (Option Nat)}{tg iter aU:Expr}{aD:List Expr}{wi:TI}{g:TG}{tc:TT}{te:TE}{pos:Pos}
def I_{scope:Scope}{env:Env}{x:Str}:∀{names:List (Str×NameKind)},(names.lookup x=some .free\/names.lookup x=some .cell)-> ((names.map fun(n,k)=>if(k==Bo&&env.scope.kind==.function&&env.kindOf n==some .cell) then(n,NameKind.cell) else(n,k)).lookup x=some .free \/
   (names.map fun(n,k)=>if(k==Bo&&env.scope.kind==.function&&env.kindOf n==some .cell) then(n,NameKind.cell) else(n,k)).lookup x=some .cell)
 |[],h=>by simp at h
 |(n,k)::r,h=>by
  have a:=@I_ scope env x r;show List.lookup x ((if(k==Bo&&env.scope.kind==.function&&env.kindOf n==some .cell)=true then(n,NameKind.cell) else(n,k))::_)=_\/List.lookup x ((if(k==Bo&&env.scope.kind==.function&&env.kindOf n==some .cell)=true then(n,NameKind.cell) else(n,k))::_)=_;cases hx:x==n with
  |true=>
   simp only[Bm,hx] at h
   by_cases hc:(k==Bo&&env.scope.kind==.function&&env.kindOf n==some .cell)=true
   ·rw[if_pos hc];simp[Bm,hx]
   ·rw[if_neg hc];simp only[Bm,hx];exact h
  |false=>
   simp only[Bm,hx] at h
   by_cases hc:(k==Bo&&env.scope.kind==.function&&env.kindOf n==some .cell)=true
   ·rw[if_pos hc];simp only[Bm,hx];exact a h
   ·rw[if_neg hc];simp only[Bm,hx];exact a h
def Ga{env:Env}{x:Str}{kd:NameKind}:∀{names:List (Str×NameKind)},(names.map fun(n,k)=>if(k==Bo&&env.scope.kind==.function&&env.kindOf n==some .cell) then(n,NameKind.cell) else(n,k)).lookup x=some kd->
  ∃a,names.lookup x=some a/\(kd=a\/(a=.free/\kd=.cell))
 |[],h=>by simp at h
 |(n,k)::r,h=>by
  have b:=@Ga env x kd r;have h':List.lookup x ((if(k==Bo&&env.scope.kind==.function&&env.kindOf n==some .cell)=true then(n,NameKind.cell) else(n,k))::_)=some kd:=h;cases hx:x==n with
  |true=>
   simp only[Bm,hx]
   by_cases hc:(k==Bo&&env.scope.kind==.function&&env.kindOf n==some .cell)=true
   ·rw[if_pos hc] at h'
    simp only[Bm,hx] at h';cases h';have hk:k=.free:=by
     rw[Bool.and_eq_true,Bool.and_eq_true] at hc;cases k<;>first|rfl|exact absurd hc.1.1 ξ
    exact⟨k,rfl,.inr ⟨hk,rfl⟩⟩
   ·rw[if_neg hc] at h'
    simp only[Bm,hx] at h';cases h';exact⟨_,rfl,.inl rfl⟩
  |false=>
   simp only[Bm,hx]
   by_cases hc:(k==Bo&&env.scope.kind==.function&&env.kindOf n==some .cell)=true
   ·rw[if_pos hc] at h';simp only[Bm,hx] at h';exact b h'
   ·rw[if_neg hc] at h';simp only[Bm,hx] at h';exact b h'
structure Left(X:Cx)(aa:Ψ)(σ:St)(H':Hp)(s4:Shared)(C:Addr):Prop where
 ns:∃m,s4.heap.Ns C m
 far:X.s₀⁻¹<=C
 nl:C≠X.env.locals
 nc:∀x c,X.env.cells.lookup x=some c->c≠C
 np:∀p∈X.pn++aa,p.1≠C
 no:H' C=none
 back:∀h',Heap.SameBut C s4.heap h'->Inv X aa σ H' {s4 with heap:=h'}
def Ja{use:Option (Value->Sem Unit)}{R:Ω}{pp:Pos}(hc:X.calm=true)(hk:scope.kind=.function)(cD:∀y∈scope.names,y.2=.cell->scope.names.lookup y.1=some .cell)(aq:∀y∈scope.names,y.2=.free->scope.names.lookup y.1=some .free)(av:∀y∈scope.names,y.2=.local->scope.names.lookup y.1=some .local)(hfr:∀y∈scope.names,y.2=.free->X.env.kindOf y.1=some .cell\/X.env.kindOf y.1=some .free)(hcap:p8 X.N N' ai scope)(hi:PI X tg iter wi)(hg:∀cl C s₀ H₀ ex,PG (cxD X scope N' cl C s₀ H₀ ex) tg g)(ht:∀cl C s₀ H₀ ex,i8 (cxD X scope N' cl C s₀ H₀ ex) aD tc)(he:∀cl C s₀ H₀ ex,PE (cxD X scope N' cl C s₀ H₀ ex) aU te)(hs:∀x,foldedSetIterable iter X.env x=pure x){aa:Ψ}{s:Shared}{σ:St}{H:Hp}{Q:VK}(I:Inv X aa σ H s)(h:kX wi ai g tc te σ H Q)(fin:∀(D C:Addr)(H':Hp)(O:Shared)(f:Flow),Left X aa σ H' O C->Q (.ref D) H'->compPost (model X.prog X.w) X.A X.xe use R (.ref D) C (.ok f) O):wpAny (model X.prog X.w) X.A (comprehension (.ListComp aU [⟨tg,iter,aD,0⟩] scope pos) scope X.env pp (newList []) (firstAsync [⟨tg,iter,aD,0⟩]) (firstIter [⟨tg,iter,aD,0⟩] X.env) use) R X.xe s:=by
 have P:∀y∈scope.names,y.2=.free->∃c,X.env.cells.lookup y.1=some c:=fun y hy e=>I.ok.has y.1 (hfr y hy e);refine wpAny_comprehension_free (use:=use) rfl hs (Nc P) hk av ?_;refine aR (hi aa s σ H _ I h) fun xv s1 h1=>aR h1 fun lD M h2=>?_;obtain⟨it,L,tn,J,H2,e,I2,T,dH,f2,q⟩:=h2;subst e;have jn:H2 M⁻¹=none:=I2.hok.fresh (Ad _);obtain⟨W,⟨m0,w0⟩,turn⟩:=q M⁻¹ jn;refine wpAny_newObj_type (Nd fun aH cw bT bY=>?_);dsimp only at cw bT bY ⊢;generalize hD:M⁻¹=D at *;obtain⟨l,e3⟩:∃l:Shared,l={M with heap:=M.heap.push {cls:=.type "list",dict:=none,data:=.seq ([]:List Value).toArray}}:=⟨_,rfl⟩;have h3:l.heap=M.heap.push {cls:=.type "list",dict:=none,data:=.seq ([]:List Value).toArray}:=by rw[e3]
 rw[<-h3] at cw bT bY ⊢;have S:l⁻¹=D+1:=by rw[h3,Heap.size_push,hD]
 have I3:Inv X aa σ (upd H2 D (.lst [])) l:=by
  rw[e3,<-hD];exact I2.lnew (t':=M.toks) (ys:=[]) .nil (Ap _)
 obtain⟨Xc,E⟩:∃Xc,Xc=cxD X scope N' (cellsFrom (l⁻¹+1) scope.names (clOf X.env.cells scope.names [])) l⁻¹ l (upd H2 D (.lst [])) L:=⟨_,rfl⟩;have yo:PG Xc tg g:=by rw[E];exact hg _ _ _ _ _
 have ht':i8 Xc aD tc:=by rw[E];exact ht _ _ _ _ _
 have he':PE Xc aU te:=by rw[E];exact he _ _ _ _ _
 have xP:Xc.prog=X.prog:=by rw[E];rfl
 have xw:Xc.w=X.w:=by rw[E];rfl
 have xK:Xc.K=X.K:=by rw[E];rfl
 have xA:Xc.A=X.A:=by rw[E];rfl
 have xc:Xc.calm=true:=by rw[E];exact hc
 have xe:Xc.env=compEnvC scope (cellsFrom (l⁻¹+1) scope.names (clOf X.env.cells scope.names [])) l⁻¹ X.env:=by rw[E];rfl
 have xE:Xc.xe=fun _ _=>False:=by rw[E];rfl
 have G:∀x c,(cellsFrom (l⁻¹+1) scope.names (clOf X.env.cells scope.names [])).lookup x=some c->(X.env.cells.lookup x=some c/\scope.names.lookup x=some .free)\/(scope.names.lookup x=some .cell/\l⁻¹+1<=c/\aH.IsCell c none):=fun x c e=>by
  rcases bY x c (PySem.mem_of_lookup e) with q|⟨q1,q2,q3⟩
  ·obtain⟨q4,q5⟩:=DT P (fun p hp=>absurd hp (by simp)) q
   exact .inl ⟨q4,aq _ q5 rfl⟩
  ·exact .inr ⟨cD _ q1 rfl,q2,q3⟩
 have hlow:∀p∈clOf X.env.cells scope.names [],p.2<l⁻¹+1:=fun p hp=>by
  obtain⟨q4,_⟩:=DT P (fun p hp=>absurd hp (by simp)) (x:=p.1) (c:=p.2) hp;obtain⟨v,o,ho,_⟩:=I3.cell p.1 p.2 q4;exact Nat.lt_succ_of_lt (Au ho)
 have U:∀b∈L,b≠D/\b<D:=fun b hb=>by
  obtain⟨ob,eb,_⟩:=T.obj 0 _ dH b hb;have:=Au eb;rw[hD] at this;exact⟨Az this,this⟩
 have hfs:∀b∈frs X.stack,b<D:=fun b hb=>by
  obtain⟨_,ob,eb,_⟩:=I2.stack.mem hb;have:=Au eb;rw[hD] at this;exact this
 have F:∀b o,l.heap.get? b=some o->aH.get? b=some o:=bT;have vH:(upd H2 D (.lst [])) l⁻¹=none:=I3.hok.fresh (Ad _);have Ic:Inv Xc aa (vY ai σ) (upd H2 D (.lst [])) {l with heap:=aH}:=by
  have okc:Xc.Ok:=by
   rw[E];refine⟨I.ok.mod,hk,I.ok.glob,I.ok.blt,Ad _,fun x y c a b=>F' scope.names _ _ (fun x y c p q=>I.ok.inj x y c (DT P (fun p hp=>absurd hp (by simp)) p).1 (DT P (fun p hp=>absurd hp (by simp)) q).1) hlow x y c (PySem.mem_of_lookup a) (PySem.mem_of_lookup b),fun x hx=>?_,(fun x c a e=>by
    rcases G x c e with ⟨_,q⟩|⟨_,q,_⟩
    ·have a':=of_decide_eq_true a
     rw[q] at a';cases a'
    ·exact Nat.le_of_succ_le q),I.ok.hd,I.ok.frames,.inl rfl,fun b hb=>⟨?_,fun x c e=>?_⟩,fun b o e=>?_,?_,fun b o e z=>?_,fun b hb z=>?_,?_,fun b hb=>?_⟩
   ·have jJ:(relabel scope X.env).names.lookup x=some .cell\/(relabel scope X.env).names.lookup x=some .free:=hx
    have key:∃Z,scope.names.lookup x=some Z/\(Z=.free\/Z=.cell):=by
     rcases jJ with q|q
     ·obtain⟨Z,e1,e2⟩:=Ga q
      rcases e2 with e2|⟨e2,_⟩
      ·exact⟨Z,e1,.inr e2.symm⟩
      ·exact⟨Z,e1,.inl e2⟩
     ·obtain⟨Z,e1,e2⟩:=Ga q
      rcases e2 with e2|⟨e2,_⟩
      ·exact⟨Z,e1,.inl e2.symm⟩
      ·exact⟨Z,e1,.inl e2⟩
    obtain⟨Z,e1,e2⟩:=key;have hm:=PySem.mem_of_lookup e1;rcases e2 with rfl|rfl
    ·obtain⟨c,gF⟩:=DS (cells:=X.env.cells) (acc:=[]) (.inl hm)
     obtain⟨d,hd⟩:=F_ gF;exact Option.isSome_iff_exists.mp (PySem.W.cellsFrom_some scope.names (l⁻¹+1) _ (.inr (by rw[hd];rfl)))
    ·exact Option.isSome_iff_exists.mp (PySem.W.cellsFrom_some scope.names (l⁻¹+1) _ (.inl e1))
   ·show b≠l⁻¹
    exact Az (by rw[S];exact Nat.lt_succ_of_lt (U b hb).2)
   ·rcases G x c e with ⟨q,_⟩|⟨_,q,_⟩
    ·exact(f2 b hb).2.2.2.2.1 x c q
    ·have h1:b<l⁻¹+1:=by rw[S];exact Nat.lt_succ_of_lt (Nat.lt_succ_of_lt (U b hb).2)
     exact Nat.ne_of_gt (Ay h1 q)
   ·exact I3.bs b o e
   ·exact Ae I.ok.bsz I3.sz
   ·obtain⟨f,_,_,fx,_,_⟩:=f2 b z
    rcases fx with fx|fx
    ·exact I.ok.noex b o e fx
    ·have:=Ay (Au e) I.ok.bsz
     (first|lia|omega)
   ·rcases List.mem_cons.mp (I2.stkSub b z) with r|r
    ·exact(f2 b hb).2.1 r
    ·exact(f2 b hb).2.2.1 r
   ·exact I3.stack
   ·exact I3.stkFree b hb
  refine⟨okc,(by rw[E];rfl),I3.bare,?_,?_,fun x c e=>?_,?_,fun x c e=>?_,fun p hp=>?_,?_,?_⟩
  ·rw[E]
   exact Un.kept F
  ·rw[xe]
   refine⟨_,cw,fun i x v e1 e2 e3=>?_⟩;obtain⟨c1,c2⟩:=hcap;unfold vY at e2;rw[Aj] at e2;cases e4:ai[i]? with
   |none=>rw[e4] at e2;cases e2
   |some cc=>
    rw[e4] at e2;cases cc with
    |none=>cases e2
    |some j=>
     obtain⟨y,d1,d2,d3⟩:=c2 i j e4;have e1':N'[i]?=some x:=by rw[E] at e1;exact e1
     rw[d1] at e1';have yn:y=x:=AY e1';subst yn;have e5:σ[j]?=some (some v):=by
      simp only[Option.map_some,Option.some.injEq] at e2;cases e6:σ[j]? with
      |none=>rw[e6] at e2;cases e2
      |some ov=>rw[e6] at e2;simp only[Option.getD_some] at e2;rw[e2]
     have hm:=PySem.mem_of_lookup d3;have wK:DA X.env.scope y:=by
      rcases hfr _ hm rfl with q|q
      ·exact .inr (.inl q)
      ·exact .inr (.inr q)
     obtain⟨m,_,hl⟩:=I3.loc;obtain⟨u,ru,lk⟩:=hl j y v d2 e5 wK;refine⟨u,ru,?_⟩;have re:∃c,X.env.cells.lookup y=some c/\l.heap.IsCell c (some u):=by
      rcases lk with ⟨k1,_⟩|⟨_,c,k2,k3⟩
      ·rcases hfr _ hm rfl with q|q
       ·rw[k1] at q;cases q
       ·rw[k1] at q;cases q
      ·exact⟨c,k2,k3⟩
     obtain⟨c,k2,k3⟩:=re;obtain⟨d,hd'⟩:=DS (cells:=X.env.cells) (acc:=[]) (.inl hm);obtain⟨d',gG⟩:=F_ hd';obtain⟨d2,hd3⟩:=Option.isSome_iff_exists.mp (PySem.W.cellsFrom_some scope.names (l⁻¹+1) (clOf X.env.cells scope.names []) (x:=y) (.inr (by rw[gG];rfl)));have:c=d2:=by
      rcases G y d2 hd3 with ⟨q,_⟩|⟨q,_⟩
      ·rw[k2] at q
       exact AY q
      ·rw[d3] at q;cases q
     subst this;refine .inr ⟨?_,c,hd3,k3.keeps F⟩;have rl:=I_ (scope:=scope) (env:=X.env) (x:=y) (names:=scope.names) (.inl d3);rcases rl with q|q
     ·exact .inr q
     ·exact .inl q
  ·rw[xe] at e
   rcases G x c e with ⟨q,_⟩|⟨_,_,q⟩
   ·obtain⟨v,k3⟩:=I3.cell x c q
    exact⟨v,k3.keeps F⟩
   ·exact⟨_,q⟩
  ·rw[xe];exact vH
  ·rw[xe] at e
   rcases G x c e with ⟨q,_⟩|⟨_,q,_⟩
   ·exact I3.freeC x c q
   ·exact I3.hok.fresh (Nat.le_of_succ_le q)
  ·have hp':p∈X.pn++aa:=by rw[E] at hp;exact hp
   obtain⟨a1,a2,a3,a4,a5⟩:=I3.pin p hp';refine⟨F _ _ a1,a2,?_,?_,a5⟩
   ·rw[xe]
    show p.1≠l⁻¹;exact Az (Au a1)
   ·rw[E]
    intro z;rcases List.mem_cons.mp (I3.stkSub p.1 z) with r|r
    ·exact a3 r
    ·exact a4 r
  ·rw[xP,xw]
   exact I3.hok.kept F
  ·unfold vY
   rw[Ab,hcap.1,E]
   rfl
 have leave:∀{ad:St}{H':Hp}{O:Shared}{h':Heap},Inv Xc aa ad H' O->Heap.SameBut l⁻¹ O.heap h'->Inv X aa σ H' {O with heap:=h'}:=fun{ad H' O h'} I4 ak=>by
  have hlt:∀b o,M.heap.get? b=some o->b≠D/\b≠l⁻¹:=fun b o e=>by
   have hb:=Au e;rw[hD] at hb;exact⟨Az hb,Az (by rw[S];exact Nat.lt_succ_of_lt hb)⟩
  have up3:∀b o,M.heap.get? b=some o->l.heap.get? b=some o:=fun b o e=>by rw[h3];exact Ai _ e
  have base:Un (frs X.stack) L (upd H2 D (.lst [])) H' l.heap O.heap:=by
   have:=I4.base;rw[E] at this;exact this
  have hCn:H' l⁻¹=none:=by
   have:=I4.free;rw[xe] at this;exact this
  have os4:O.os=M.os:=by
   have:=I4.os;rw[E] at this;rw[this];show l.os=M.os;rw[e3]
  refine I2.call' (s':={O with heap:=h'}) (ch:=L) os4 ⟨fun b o q n hb hx=>?_,fun b o q n hb hx=>?_,fun b o q n hx=>?_,fun b o q hx=>?_,fun b xs q=>?_,fun b o u q=>?_,fun b ps q=>?_⟩ ?_ I4.bare fun b hb=>?_
  ·obtain⟨n1,n2⟩:=hlt b o q
   exact(ak.2 b n2).trans (base.keep b o (up3 b o q) (by rw[am n1];exact n) hb hx)
  ·obtain⟨n1,n2⟩:=hlt b o q
   obtain⟨sl,e⟩:=base.slot b o (up3 b o q) (by rw[am n1];exact n) hb hx;exact⟨sl,(ak.2 b n2).trans e⟩
  ·obtain⟨n1,n2⟩:=hlt b o q
   exact base.free b o (up3 b o q) (by rw[am n1];exact n) hx
  ·obtain⟨n1,n2⟩:=hlt b o q
   obtain⟨o',e⟩:=base.there b o (up3 b o q) hx;exact⟨o',(ak.2 b n2).trans e⟩
  ·exact base.tups b xs (by rw[am (zl q jn)];exact q)
  ·exact base.frzs b o u (by rw[am (zl q jn)];exact q)
  ·exact base.tbls b ps (by rw[am (zl q jn)];exact q)
  ·intro b u e
   have pZ:=I4.hok b u e;rw[xP,xw] at pZ;refine pZ.stay (fun c v hc q=>(ak.2 c ?_).trans q) (fun _ q=>q) fun _ _ q=>q;rintro rfl;rcases hc with z|z
   ·rw[<-z,hCn] at e;cases e
   ·rw[hCn] at z;cases z
  ·obtain⟨f0,f1,f3,f4,f5,f6⟩:=f2 b hb
   exact⟨f4,f1,f5,f6⟩
 have Y:∀{H':Hp},(∀b∈L,H' b=none)->∀b∈L,ck Xc aa H' b:=fun{H'} hn b hb=>by
  obtain⟨f0,f1,f3,f4,f5,f6⟩:=f2 b hb;refine⟨hn b hb,?_,?_,.inl (by rw[E];exact hb),fun x c e=>?_,fun p hp=>?_⟩
  ·rw[xe]
   show b≠l⁻¹;exact Az (by rw[S];exact Nat.lt_succ_of_lt (U b hb).2)
  ·rw[E]
   intro z;rcases List.mem_cons.mp (I2.stkSub b z) with r|r
   ·exact f1 r
   ·exact f3 r
  ·rw[xe] at e
   rcases G x c e with ⟨q,_⟩|⟨_,q,_⟩
   ·exact f5 x c q
   ·have h1:b<l⁻¹+1:=by rw[S];exact Nat.lt_succ_of_lt (Nat.lt_succ_of_lt (U b hb).2)
    exact Nat.ne_of_gt (Ay h1 q)
  ·rw[E] at hp
   exact f6 p hp
 subst E;have g_:∀n s',(∃i ad H',Inv (cxD X scope N' (cellsFrom (l⁻¹+1) scope.names (clOf X.env.cells scope.names [])) l⁻¹ l (upd H2 D (.lst [])) L) aa ad H' s'/\tn i s'.heap/\(∀b∈L,H' b=none)/\W i n ad H')->
   codeAny (model X.prog X.w) X.A (.compLoop (.ListComp aU [⟨tg,iter,aD,0⟩] scope pos) 0 (.ref it) (.ref D) (compEnvC scope (cellsFrom (l⁻¹+1) scope.names (clOf X.env.cells scope.names [])) l⁻¹ X.env)) (compPost (model X.prog X.w) X.A X.xe use R (.ref D) l⁻¹) s':=by
  intro n0 B4 xO;refine codeAny_loop rfl (fun n s'=>∃i ad H',Inv (cxD X scope N' (cellsFrom (l⁻¹+1) scope.names (clOf X.env.cells scope.names [])) l⁻¹ l (upd H2 D (.lst [])) L) aa ad H' s'/\tn i s'.heap/\(∀b∈L,H' b=none)/\W i n ad H') (fun n s' hI=>?_) n0 xO;obtain⟨i,ad,H',I',ab,dh,w'⟩:=hI;show wpAny _ X.A ((compTurn (.ListComp aU [⟨tg,iter,aD,0⟩] scope pos) 0 (.ref it) (.ref D) (compEnvC scope (cellsFrom (l⁻¹+1) scope.names (clOf X.env.cells scope.names [])) l⁻¹ X.env)).onRaise (fun x=>do noteFrame x (compEnvC scope (cellsFrom (l⁻¹+1) scope.names (clOf X.env.cells scope.names [])) l⁻¹ X.env);theTreesLotGoes x)) _ _ s';refine wpAny_noted ?_;rw[compTurn_list];refine Ag (wpAny_standAt (Ag ?_));rcases turn i n ad H' w' with ⟨stop,qn⟩|⟨go,step⟩
  ·refine aR (T.done (cxD X scope N' (cellsFrom (l⁻¹+1) scope.names (clOf X.env.cells scope.names [])) l⁻¹ l (upd H2 D (.lst [])) L) rfl rfl rfl hc i aa s' ad H' _ I' (Y dh) ab stop) fun r O ⟨hr,I4⟩=>?_
   subst hr;refine Aq ?_;obtain⟨m,hn,_⟩:=id I4.loc;refine fin D _ H' O _ ⟨⟨m,hn⟩,I3.sz,fun e=>?_,fun x c e=>?_,fun p hp=>Az (Au (I3.pin p hp).1),I4.free,fun h' ak=>leave I4 ak⟩ qn
   ·obtain⟨m3,jv,_⟩:=I3.loc
    obtain⟨o3,_,_,kj,_⟩:=jv;exact absurd e.symm (Az (Au kj))
   ·obtain⟨v,hv⟩:=I3.cell x c e
    obtain⟨o3,kj,_⟩:=hv;exact Az (Au kj)
  ·refine aR (T.item (cxD X scope N' (cellsFrom (l⁻¹+1) scope.names (clOf X.env.cells scope.names [])) l⁻¹ l (upd H2 D (.lst [])) L) rfl rfl rfl hc i aa s' ad H' _ I' (Y dh) ab go) fun r O ⟨u,hr,h4⟩=>?_
   subst hr;refine Ag (aR h4 fun _ s5 ⟨x,H5,I5,r5,y5,st5,fr5⟩=>?_);have nh:=I5.pinned (Y fr5) (T.obj _ _ st5);refine Ag (wpAny_mono (yo _ s5 ad H5 x u _ nh r5 (step x H5 y5)) (fun _ s6 h6=>?_) fun _ _ z=>z.elim);obtain⟨iV,H6,I6,q6⟩:=h6;refine Ag (wpAny_mono (ht' _ s6 iV H6 _ I6 q6) (fun ok s7 h7=>?_) fun _ _ z=>z.elim);obtain⟨H7,I7,q7⟩:=h7;have again:∀{jk:St}{H8:Hp}{s8:Shared}{m':Nat},Inv (cxD X scope N' (cellsFrom (l⁻¹+1) scope.names (clOf X.env.cells scope.names [])) l⁻¹ l (upd H2 D (.lst [])) L) (aa++u7 L s5.heap) jk H8 s8->m'<n->W (i+1) m' jk H8->
     ∃m,m<n/\∃i ad H',Inv (cxD X scope N' (cellsFrom (l⁻¹+1) scope.names (clOf X.env.cells scope.names [])) l⁻¹ l (upd H2 D (.lst [])) L) aa ad H' s8/\tn i s8.heap/\(∀b∈L,H' b=none)/\W i m ad H':=fun{jk H8 s8 m'} I8 hm w8=>by
    refine⟨m',hm,i+1,jk,H8,I8.unpinned,T.keep _ _ _ st5 fun b hb o e=>(I8.pin (b,o) (Ax _ (Ax _ (DI hb e)))).1,fun b hb=>?_,w8⟩;obtain⟨o,e,d⟩:=T.obj _ _ st5 b hb;exact(I8.pin (b,o) (Ax _ (Ax _ (DI hb e)))).2.1
   cases ok with
   |false=>
    obtain⟨m',hm,w7⟩:=q7;exact Aq ⟨rfl,again I7 hm w7⟩
   |true=>
    refine Ag (Ag (wpAny_mono (he' _ s7 iV H7 _ I7 q7) (fun v s8 h8=>?_) fun _ _ z=>z.elim));obtain⟨y,H8,I8,r8,ys,m',mX,vN,uf,w8⟩:=h8;refine Ag (wpAny_mono (DM (X:=cxD X scope N' (cellsFrom (l⁻¹+1) scope.names (clOf X.env.cells scope.names [])) l⁻¹ l (upd H2 D (.lst [])) L) _ s8 iV H8 (.ref D) [y] (.ref D) [v] (fun _ H9=>H9=upd H8 D (.lst (ys++[y]))) I8 rfl (.cons r8 .nil) ⟨D,ys,y,rfl,rfl,mX,vN,rfl⟩) (fun _ s9 h9=>?_) fun _ _ z=>z.elim);obtain⟨_,H9,I9,_,e9⟩:=h9;subst e9;exact Aq (Aq ⟨rfl,again I9 uf w8⟩)
 have start:∃i ad H',Inv (cxD X scope N' (cellsFrom (l⁻¹+1) scope.names (clOf X.env.cells scope.names [])) l⁻¹ l (upd H2 D (.lst [])) L) aa ad H' {l with heap:=aH}/\tn i ({l with heap:=aH}:Shared).heap/\(∀b∈L,H' b=none)/\W i m0 ad H':=by
  refine⟨0,vY ai σ,upd H2 D (.lst []),Ic,T.keep 0 _ _ dH fun b hb o e=>F b o (by rw[h3];exact Ai _ e),fun b hb=>?_,w0⟩;rw[am (U b hb).1];exact(f2 b hb).1
 have es:({M with heap:=aH}:Shared)={l with heap:=aH}:=by rw[e3]
 show codeAny (model X.prog X.w) X.A _ _ ({M with heap:=aH}:Shared);rw[es];refine codeAny_compStart_list (g_ m0 _ start) (T.self _ 0 _ _ _ ?_ (g_ m0 _ start));exact T.keep 0 _ _ dH fun b hb o e=>F b o (by rw[h3];exact Ai _ e)
def p9(b:∀y∈scope.names,y.2≠.cell)(a:List (Str×Addr))(C:Addr)(s₀:Shared)(H₀:Hp)(ex:List Addr):eC X scope N' a C s₀ H₀ ex=cxD X scope N' a C s₀ H₀ ex:=by
 unfold cxD;have:(fun x=>decide (scope.names.lookup x=some NameKind.cell))=fun _=>false:=by
  funext x
  exact decide_eq_false fun e=>b _ (PySem.mem_of_lookup e) rfl
 rw[this]
 rfl
def Nf{use:Option (Value->Sem Unit)}{R:Ω}{pp:Pos}(hc:X.calm=true)(hk:scope.kind=.function)(c:∀y∈scope.names,y.2≠.cell)(i:∀y∈scope.names,y.2=.free->scope.names.lookup y.1=some .free)(j:∀y∈scope.names,y.2=.local->scope.names.lookup y.1=some .local)(hfr:∀y∈scope.names,y.2=.free->X.env.kindOf y.1=some .cell\/X.env.kindOf y.1=some .free)(b:p8 X.N N' ai scope)(hi:PI X tg iter wi)(hg:∀a C s₀ H₀ ex,PG (eC X scope N' a C s₀ H₀ ex) tg g)(l:∀a C s₀ H₀ ex,i8 (eC X scope N' a C s₀ H₀ ex) aD tc)(o:∀a C s₀ H₀ ex,PE (eC X scope N' a C s₀ H₀ ex) aU te)(p:∀x,foldedSetIterable iter X.env x=pure x){aa:Ψ}{s:Shared}{σ:St}{H:Hp}{Q:VK}(I:Inv X aa σ H s)(h:kX wi ai g tc te σ H Q)(fin:∀(D C:Addr)(H':Hp)(d:Shared)(f:Flow),Left X aa σ H' d C->Q (.ref D) H'->compPost (model X.prog X.w) X.A X.xe use R (.ref D) C (.ok f) d):wpAny (model X.prog X.w) X.A (comprehension (.ListComp aU [⟨tg,iter,aD,0⟩] scope pos) scope X.env pp (newList []) (firstAsync [⟨tg,iter,aD,0⟩]) (firstIter [⟨tg,iter,aD,0⟩] X.env) use) R X.xe s:=
 Ja hc hk (fun y hy e=>absurd e (c y hy)) i j hfr b hi (fun a C s₀ H₀ ex=>p9 (X:=X) (N':=N') c a C s₀ H₀ ex▸hg a C s₀ H₀ ex) (fun a C s₀ H₀ ex=>p9 (X:=X) (N':=N') c a C s₀ H₀ ex▸l a C s₀ H₀ ex) (fun a C s₀ H₀ ex=>p9 (X:=X) (N':=N') c a C s₀ H₀ ex▸o a C s₀ H₀ ex) p I h fin
def Ng(hc:X.calm=true)(hk:scope.kind=.function)(c:∀y∈scope.names,y.2≠.cell)(i:∀y∈scope.names,y.2=.free->scope.names.lookup y.1=some .free)(j:∀y∈scope.names,y.2=.local->scope.names.lookup y.1=some .local)(hfr:∀y∈scope.names,y.2=.free->X.env.kindOf y.1=some .cell\/X.env.kindOf y.1=some .free)(b:p8 X.N N' ai scope)(hi:PI X tg iter wi)(hg:∀a C s₀ H₀ ex,PG (eC X scope N' a C s₀ H₀ ex) tg g)(l:∀a C s₀ H₀ ex,i8 (eC X scope N' a C s₀ H₀ ex) aD tc)(o:∀a C s₀ H₀ ex,PE (eC X scope N' a C s₀ H₀ ex) aU te)(p:∀x,foldedSetIterable iter X.env x=pure x:=by intro _;rfl):PE X (.ListComp aU [⟨tg,iter,aD,0⟩] scope pos) (kX wi ai g tc te):=by
 intro aa s σ H Q I h;rw[eval_ListComp];refine Nf (use:=none) hc hk c i j hfr b hi hg l o p I h fun D C H' r f L q=>?_;obtain⟨m,e⟩:=L.ns;exact⟨m,e,fun h' d=>⟨.ref D,H',L.back h' d,rfl,q⟩⟩
end
end L2
end
section
namespace Zp
open PySem PySem.Spec PyProof.Rows
section
variable{prog:Program}{w:World}{A:Around}{E:Ω}{s:Shared}
def Nh{it t:Addr}{i:Nat}{items:Array Value}{x:Value}{Q:Ω}(b:s.heap.IsTupleIter it t i)(e:s.heap.IsTuple t items)(hx:items[i]?=some x)(f:∀h',h'.IsTupleIter it t (i+1)->Heap.SameBut it s.heap h'->Q x {s with heap:=h'}):wpAny (model prog w) A (Builtin.SmallTypes.nextOf (.ref it)) Q E s:=by
 obtain⟨o,a,hc,hd⟩:=id b;obtain⟨g,c,_,h,d⟩:=e;unfold Builtin.SmallTypes.nextOf;refine Ag (wpAny_callSpecial?_slot (name:=Str.ofString "__next__") b.typeIs F.slot_tuple_iterator_next (wpAny_call_entry F.slot_tuple_iterator_next b.typeIs F.entry_tuple_iterator_next ?_ (F.args_tuple_iterator_next_1 _)));show wpAny _ _ (field (.ref it) 0 >>= _) _ _ s;refine Ag (wpAny_field a hd (x:=.ref t) rfl ?_);show wpAny _ _ (if(Value.ref t==Value.none)=true then _ else _) _ _ s;rw[if_neg (show ¬((Value.ref t==Value.none)=true) from AJ)];show wpAny _ _ (field (.ref it) 1 >>= _) _ _ s;refine Ag (wpAny_field a hd (x:=.int i 0) rfl ?_);show wpAny _ _ (seqItems? (.ref t) >>= _) _ _ s;refine Ag (wpAny_seqItems c d ?_);simp only[Int.toNat_natCast,hx];refine Ag (wpAny_setField a hd (by simp) (Aq ⟨x,rfl,Aq (f _ ?_ (Heap.SameBut.update ..))⟩));exact⟨_,Heap.get?_update_self _ a (Obj.isFreed_of_fields (Obj.data_mapFields hd _)),(Obj.cls_mapFields ..).trans hc,by
  rw[Obj.data_mapFields hd];simp[rawInt]⟩
def Ni{it t:Addr}{i:Nat}{items:Array Value}{Q:Ω}(d:A.handled=none)(c:s.heap.IsTupleIter it t i)(h:s.heap.IsTuple t items)(hx:items[i]?=none)(j:∀h' e,Heap.ExtBut it s.heap h'->(∃o,h'.get? e=some o/\o.cls=.type "StopIteration")->E (.ref e) {s with heap:=h'}):wpAny (model prog w) A (Builtin.SmallTypes.nextOf (.ref it)) Q E s:=by
 obtain⟨o,b,hc,hd⟩:=id c;obtain⟨l,f,_,p,g⟩:=h;unfold Builtin.SmallTypes.nextOf;refine Ag (wpAny_callSpecial?_slot (name:=Str.ofString "__next__") c.typeIs F.slot_tuple_iterator_next (wpAny_call_entry F.slot_tuple_iterator_next c.typeIs F.entry_tuple_iterator_next ?_ (F.args_tuple_iterator_next_1 _)));show wpAny _ _ (field (.ref it) 0 >>= _) _ _ s;refine Ag (wpAny_field b hd (x:=.ref t) rfl ?_);show wpAny _ _ (if(Value.ref t==Value.none)=true then _ else _) _ _ s;rw[if_neg (show ¬((Value.ref t==Value.none)=true) from AJ)];show wpAny _ _ (field (.ref it) 1 >>= _) _ _ s;refine Ag (wpAny_field b hd (x:=.int i 0) rfl ?_);show wpAny _ _ (seqItems? (.ref t) >>= _) _ _ s;refine Ag (wpAny_seqItems f g ?_);simp only[Int.toNat_natCast,hx];refine Ag (wpAny_rule (Ag (wpAny_setField b hd (by simp) ?_)));show wpAny _ _ (newExc (.type "StopIteration") [] >>= _) _ _ _;refine Ag ?_;simp only[newExc,newTuple];refine Ag (wpAny_newObj_type ?_ (by size_fits));refine Ag (m:=firstArgMember _ _) (wpAny_of_eq (a:=Value.none) (by first|rfl|(simp only[firstArgMember];rfl)) ?_);refine wpAny_newObj_type ?_ (by size_fits);simp only[raiseNew];refine Ag (wpAny_handled ?_)
 first|rw[show A.in1.handled=none from d]|rw[d]
 refine Ag (Aq (wpAny_throw ?_));exact j _ _ (((Heap.SameBut.update ..).extBut.push _).push _) ⟨_,AO _ rfl,rfl⟩
end
def Nj{h h':Heap}{a:Addr}{items:Array Value}(x:h.IsTuple a items)(e:∀o,h.get? a=some o->h'.get? a=some o):h'.IsTuple a items:=let ⟨o,ho,r⟩:=x;⟨o,e o ho,r⟩
def Jb{prog:Program}{w:World}{A:Around}(g:A.handled=none)(it t:Addr)(a:t≠it)(items:Array Value):Draws prog w A it [it,t] items.size (fun i v=>items[i]?=some v) (fun i h=>h.IsTupleIter it t i/\h.IsTuple t items) where
 live:=fun _ _ st=>let ⟨o,ho,_⟩:=st.1;⟨o,ho⟩
 frame:=fun _ _ _ st hk=>⟨st.1.at fun o e=>hk it (by simp) o e,Nj st.2 fun o e=>hk t (by simp) o e⟩
 item:=fun i s Q E hi st c=>by
  refine Nh st.1 st.2 (x:=items[i]) (by simp[hi]) fun h' d b=>?_;exact c _ h' s.toks (by simp[hi]) ⟨d,st.2.extBut b.extBut a⟩ b
 done:=fun s Q E st f=>Ni g st.1 st.2 (by simp) f
structure Apart(z TI TO i1 i2:Addr)(bM bX:List Addr):Prop where
 z1:z∉bM
 z2:z∉bX
 o1:TO∉bM
 o2:TO∉bX
 m1:i1∈bM
 m2:i2∈bX
 x12:i1∉bX
 x21:i2∉bM
 TIz:TI≠z
 TOz:TO≠z
 TITO:TI≠TO
 TIi1:TI≠i1
 TIi2:TI≠i2
section
variable{prog:Program}{w:World}{A:Around}{E:Ω}{s:Shared}{z TI TO i1 i2:Addr}{bM bX:List Addr}{n1 n2 i:Nat}{P1 P2:Nat->Value->Prop}{S1 S2:Nat->Heap->Prop}{a b:Value}
def Nk{Q:Ω}(D1:Draws prog w A i1 bM n1 P1 S1)(D2:Draws prog w A i2 bX n2 P2 S2)(D:Apart z TI TO i1 i2 bM bX)(hz:IsZip s.heap z TI TO .none)(di:IsPair s.heap TI (.ref i1) (.ref i2))(c7:IsPair s.heap TO a b)(h1:S1 i s.heap)(h2:S2 i s.heap)(l1:i<n1)(l2:i<n2)(hQ:∀x y h' tk,P1 i x->P2 i y->IsZip h' z TI TO (rawInt s⁻¹)->IsPair h' TO x y->S1 (i+1) h'->S2 (i+1) h'->IsPair h' s⁻¹ x y->h'.objs.size=s⁻¹+1->
   (∀c o,c≠z->c≠TO->c≠i1->c≠i2->s.heap.get? c=some o->h'.get? c=some o)->Q (.ref s⁻¹) {s with heap:=h',toks:=tk}):
  wpAny (model prog w) A (Builtin.«zip.__next__» ⟨[.ref z],[]⟩) (fun fin s'=>∃v,fin=.done (.ret v)/\Q v s') E s:=by
 have f:∀c∈bM,c≠z:=fun c hc e=>D.z1 (e▸hc);have L:∀c∈bX,c≠z:=fun c hc e=>D.z2 (e▸hc);have M:∀c∈bM,c≠TO:=fun c hc e=>D.o1 (e▸hc);have N:∀c∈bX,c≠TO:=fun c hc e=>D.o2 (e▸hc);have kK:∀c∈bX,c≠i1:=fun c hc e=>D.x12 (e▸hc);have rV:∀c∈bM,c≠i2:=fun c hc e=>D.x21 (e▸hc);have jg:i1≠z:=f _ D.m1;have nk:i2≠z:=L _ D.m2;have fE:TO≠i1:=(M _ D.m1).symm;have l8:TO≠i2:=(N _ D.m2).symm;show wpAny _ _ (field (.ref z) 2 >>= _) _ _ _;refine Ag (wpAny_field hz rfl (x:=.bool false) rfl ?_);show wpAny _ _ (field (.ref z) 3 >>= _) _ _ _;refine Ag (wpAny_field hz rfl (x:=.ref TI) rfl ?_);refine Ag (wpAny_seqItems di rfl ?_);show wpAny _ _ (Builtin.SmallTypes.ownedTupleIsFree (.ref z) >>= _) _ _ _;refine Ag ?_;unfold Builtin.SmallTypes.ownedTupleIsFree;refine Ag (wpAny_field hz rfl (x:=.none) rfl (Aq ?_));simp only[if_true];refine Ag (wpAny_rule ?_);refine Ag (wpAny_field hz rfl (x:=.ref TO) rfl ?_);refine Ag (wpAny_setField_rec hz (by simp) fun g1 u k1=>?_);replace u:IsZip g1 z TI TO .ellipsis:=u;refine Ag ?_;simp only[List.zipIdx_cons,List.zipIdx_nil,List.forIn_cons,List.forIn_nil];refine Ag (Ag (wpAny_onRaise ?_));show wpAny _ _ (Builtin.SmallTypes.nextOf (.ref i1) >>= _) _ _ _;refine Ag (D1.item i _ _ _ l1 (D1.frame _ _ _ h1 fun c hc o e=>k1.extBut c o (f c hc) e) fun x g2 sJ X Y k2=>Aq ?_);have O:IsPair g2 TO a b:=k2.extBut _ _ fE (k1.extBut _ _ D.TOz c7);refine Ag (wpAny_seqItems O rfl ?_);refine Ag (wpAny_updateSeq_pair O fun g3 C g=>?_);replace C:IsPair g3 TO x b:=C;refine Ag (wpAny_letGo (Aq ?_));refine Ag (Ag (wpAny_onRaise ?_));show wpAny _ _ (Builtin.SmallTypes.nextOf (.ref i2) >>= _) _ _ _;refine Ag (D2.item i _ _ _ l2 (D2.frame _ _ _ h2 fun c hc o e=>g.extBut c o (N c hc) (k2.extBut c o (kK c hc) (k1.extBut c o (L c hc) e))) fun y g4 Dm Z s4 h=>Aq ?_);have P:IsPair g4 TO x b:=h.extBut _ _ l8 C;refine Ag (wpAny_seqItems P rfl ?_);refine Ag (wpAny_updateSeq_pair P fun d p j=>?_);replace p:IsPair d TO x y:=p;refine Ag (wpAny_letGo (Aq (Aq ?_)));refine Ag (wpAny_seqItems p rfl ?_);refine Ag (wpAny_newTuple ?_);have hsz:d.objs.size=s⁻¹:=by rw[j.1,h.1,g.1,k2.1,k1.1]
 have S:IsZip d z TI TO .ellipsis:=j.extBut _ _ D.TOz.symm (h.extBut _ _ nk.symm (g.extBut _ _ D.TOz.symm (k2.extBut _ _ jg.symm u)));have kk:∀c o,c≠z->c≠TO->c≠i1->c≠i2->s.heap.get? c=some o->d.get? c=some o:=fun c o c1 q F G e=>
  j.extBut _ _ q (h.extBut _ _ G (g.extBut _ _ q (k2.extBut _ _ F (k1.extBut _ _ c1 e))))
 have d1:S1 (i+1) d:=D1.frame _ _ _ Y fun c hc o e=>j.extBut c o (M c hc) (h.extBut c o (rV c hc) (g.extBut c o (M c hc) e));have d2:S2 (i+1) d:=D2.frame _ _ _ s4 fun c hc o e=>j.extBut c o (N c hc) e;have T:z<d.objs.size:=Au S;have e1:∀c∈bM,∀o,d.get? c=some o->c<d.objs.size:=fun c _ o e=>Au e;show wpAny _ _ (Builtin.SmallTypes.ownedTupleHandOut (.ref z) (.ref d.objs.size) >>= _) _ _ _;refine Ag ?_;unfold Builtin.SmallTypes.ownedTupleHandOut;have z6:IsZip (d.push {cls:=.type "tuple",data:=.seq #[x,y]}) z TI TO .ellipsis:=Ai _ S;refine Ag (wpAny_setField_rec z6 (by simp) fun g7 H I=>?_);replace H:IsZip g7 z TI TO (rawInt d.objs.size):=H;refine wpAny_setField_rec H (by simp) fun l r J=>?_;replace r:IsZip l z TI TO (rawInt d.objs.size):=r;have up:∀c o,c≠z->d.get? c=some o->l.get? c=some o:=fun c o c1 e=>J.extBut _ _ c1 (I.extBut _ _ c1 (Ai _ e));have W:IsPair l d.objs.size x y:=J.extBut _ _ (Nat.ne_of_gt T) (I.extBut _ _ (Nat.ne_of_gt T) (AO _ rfl));have U:l.objs.size=d.objs.size+1:=by rw[J.1,I.1,Heap.size_push]
 rw[hsz] at r W U;refine Aq ⟨_,rfl,?_⟩;show Q (.ref d.objs.size) _;rw[hsz];exact hQ x y l _ X Z r (up _ _ D.TOz p) (D1.frame _ _ _ d1 fun c hc o e=>up c o (f c hc) e) (D2.frame _ _ _ d2 fun c hc o e=>up c o (L c hc) e) W U fun c o c1 q F G e=>up c o c1 (kk c o c1 q F G e)
def Nl{Q:Fin->Shared->Prop}(D1:Draws prog w A i1 bM n1 P1 S1)(D2:Draws prog w A i2 bX n2 P2 S2)(D:Apart z TI TO i1 i2 bM bX)(hz:IsZip s.heap z TI TO .none)(Y:IsPair s.heap TI (.ref i1) (.ref i2))(Z:IsPair s.heap TO a b)(h1:S1 i s.heap)(h2:S2 i s.heap)(O:i=n1\/(i<n1/\i=n2))(J:∀h' e tk,(∀c o,c≠z->c≠TO->c≠i1->c≠i2->s.heap.get? c=some o->h'.get? c=some o)->(∃o,h'.get? e=some o/\o.cls=.type "StopIteration")->E (.ref e) {s with heap:=h',toks:=tk}):wpAny (model prog w) A (Builtin.«zip.__next__» ⟨[.ref z],[]⟩) Q E s:=by
 have h:∀c∈bM,c≠z:=fun c hc e=>D.z1 (e▸hc);have C:∀c∈bX,c≠z:=fun c hc e=>D.z2 (e▸hc);have S:∀c∈bM,c≠TO:=fun c hc e=>D.o1 (e▸hc);have T:∀c∈bX,c≠TO:=fun c hc e=>D.o2 (e▸hc);have U:∀c∈bX,c≠i1:=fun c hc e=>D.x12 (e▸hc);have F:i1≠z:=h _ D.m1;have W:i2≠z:=C _ D.m2;have X:TO≠i1:=(S _ D.m1).symm;show wpAny _ _ (field (.ref z) 2 >>= _) _ _ _;refine Ag (wpAny_field hz rfl (x:=.bool false) rfl ?_);show wpAny _ _ (field (.ref z) 3 >>= _) _ _ _;refine Ag (wpAny_field hz rfl (x:=.ref TI) rfl ?_);refine Ag (wpAny_seqItems Y rfl ?_);show wpAny _ _ (Builtin.SmallTypes.ownedTupleIsFree (.ref z) >>= _) _ _ _;refine Ag ?_;unfold Builtin.SmallTypes.ownedTupleIsFree;refine Ag (wpAny_field hz rfl (x:=.none) rfl (Aq ?_));simp only[if_true];refine Ag (wpAny_rule ?_);refine Ag (wpAny_field hz rfl (x:=.ref TO) rfl ?_);refine Ag (wpAny_setField_rec hz (by simp) fun g1 j k1=>?_);replace j:IsZip g1 z TI TO .ellipsis:=j;refine Ag ?_;simp only[List.zipIdx_cons,List.zipIdx_nil,List.forIn_cons,List.forIn_nil];refine Ag (Ag (wpAny_onRaise ?_));have f1:=D1.frame _ _ _ h1 fun c hc o e=>k1.extBut c o (h c hc) e;rcases O with q|⟨P,q⟩
 ·show wpAny _ _ (Builtin.SmallTypes.nextOf (.ref i1) >>= _) _ _ _
  refine Ag (D1.done _ _ _ (q▸f1) fun g2 e k2 l=>?_);obtain⟨r,d,g⟩:=l;have G:IsZip g2 z TI TO .ellipsis:=k2 _ _ F.symm j;have u:e≠z:=fun x=>by subst x;rw[G] at d;cases d;simp at g
  refine wpAny_setField_rec G (by simp) fun g3 _ f=>J g3 e _ (fun c o c1 _ p _ x=>f.extBut _ _ c1 (k2 _ _ p (k1.extBut _ _ c1 x))) ⟨r,f.extBut _ _ u d,g⟩
 ·show wpAny _ _ (Builtin.SmallTypes.nextOf (.ref i1) >>= _) _ _ _
  refine Ag (D1.item i _ _ _ P f1 fun x g2 sJ px s2 k2=>Aq ?_);have H:IsPair g2 TO a b:=k2.extBut _ _ X (k1.extBut _ _ D.TOz Z);refine Ag (wpAny_seqItems H rfl ?_);refine Ag (wpAny_updateSeq_pair H fun g3 t3 f=>?_);refine Ag (wpAny_letGo (Aq ?_));refine Ag (Ag (wpAny_onRaise ?_));have f2:S2 i g3:=D2.frame _ _ _ h2 fun c hc o e=>f.extBut c o (T c hc) (k2.extBut c o (U c hc) (k1.extBut c o (C c hc) e));show wpAny _ _ (Builtin.SmallTypes.nextOf (.ref i2) >>= _) _ _ _;refine Ag (D2.done _ _ _ (q▸f2) fun g4 e v l=>?_);obtain⟨r,d,g⟩:=l;have I:IsZip g4 z TI TO .ellipsis:=v _ _ W.symm (f.extBut _ _ D.TOz.symm (k2.extBut _ _ F.symm j));have u:e≠z:=fun x=>by subst x;rw[I] at d;cases d;simp at g
  refine wpAny_setField_rec I (by simp) fun L _ y=>J L e _ (fun c o c1 M p N x=>y.extBut _ _ c1 (v _ _ N (f.extBut _ _ M (k2.extBut _ _ p (k1.extBut _ _ c1 x))))) ⟨r,y.extBut _ _ u d,g⟩
end
def Jc{prog:Program}{w:World}{A:Around}{z TI TO i1 i2:Addr}{bM bX:List Addr}{n1 n2:Nat}{P1 P2:Nat->Value->Prop}{S1 S2:Nat->Heap->Prop}(D1:Draws prog w A.in1 i1 bM n1 P1 S1)(D2:Draws prog w A.in1 i2 bX n2 P2 S2)(D:Apart z TI TO i1 i2 bM bX):WalksT prog w A z (z::TI::TO::(bM++bX)) [z,TO,i1,i2] (min n1 n2) (fun i u=>∃x y,P1 i x/\P2 i y/\u=#[x,y])
   (fun i h=>IsZip h z TI TO .none/\IsPair h TI (.ref i1) (.ref i2)/\(∃a b,IsPair h TO a b)/\S1 i h/\S2 i h)
   (fun i T h=>IsZip h z TI TO (rawInt T)/\IsPair h TI (.ref i1) (.ref i2)/\(∃a b,IsPair h TO a b)/\S1 (i+1) h/\S2 (i+1) h/\T≠z/\T≠TO/\T≠i1/\T≠i2) where
 sub:=fun c hc=>by
  simp at hc ⊢;rcases hc with rfl|rfl|rfl|rfl
  ·simp
  ·simp
  ·exact .inr (.inr (.inr (.inl D.m1)))
  ·exact .inr (.inr (.inr (.inr D.m2)))
 frame:=fun i h h' j hk=>by
  obtain⟨hz,f,⟨a,b,g⟩,h1,h2⟩:=j;exact⟨hk z (by simp) _ hz,hk TI (by simp) _ f,⟨a,b,hk TO (by simp) _ g⟩,D1.frame _ _ _ h1 fun c hc o e=>hk c (by simp[hc]) o e,D2.frame _ _ _ h2 fun c hc o e=>hk c (by simp[hc]) o e⟩
 item:=fun i s Q E hi j l=>by
  obtain⟨hz,f,⟨a,b,g⟩,h1,h2⟩:=j;have d:s.TypeIs (.ref z) "zip":=⟨_,hz,rfl⟩;unfold pyNext;refine Ag (wpAny_attempt (wpAny_callSpecial?_slot (name:=Str.ofString "__next__") d F.slot_zip_next (wpAny_call_entry F.slot_zip_next d F.entry_zip_next
   (Nk D1 D2 D hz f g h1 h2 (Ay hi (Nat.min_le_left ..)) (Ay hi (Nat.min_le_right ..)) fun x y h' tk v C a1 a2 a3 a4 a5 U hk=>Aq ?_) (F.args_zip_next_1 _))))
  have lt:∀{c o},s.heap.get? c=some o->s⁻¹≠c:=fun e=>Nat.ne_of_gt (Au e);obtain⟨W,I⟩:=D1.live _ _ h1;obtain⟨X,J⟩:=D2.live _ _ h2;exact l s⁻¹ #[x,y] h' tk ⟨_,_,v,C,rfl⟩ (Ad _) ⟨_,a5,rfl,_,rfl⟩ ⟨a1,hk _ _ D.TIz D.TITO D.TIi1 D.TIi2 f,⟨_,_,a2⟩,a3,a4,lt hz,lt g,lt I,lt J⟩
   fun c o hc e=>hk c o (fun x=>hc (by simp[x])) (fun x=>hc (by simp[x])) (fun x=>hc (by simp[x])) (fun x=>hc (by simp[x])) e
 go:=fun aE k pos i T s Q E r l=>by
  obtain⟨hz,f,⟨a,b,g⟩,h1,h2,_⟩:=r;refine wpAny_letOwnedTupleGo_zip hz fun h' G p=>l h' ⟨G,p.extBut _ _ D.TIz f,⟨a,b,p.extBut _ _ D.TOz g⟩,
   D1.frame _ _ _ h1 fun c hc o e=>p.extBut c o (fun q=>D.z1 (q▸hc)) e,D2.frame _ _ _ h2 fun c hc o e=>p.extBut c o (fun q=>D.z2 (q▸hc)) e⟩ fun c o hc e=>p.extBut _ _ (fun x=>hc (by simp[x])) e
 apart:=fun i T h r d=>by
  obtain⟨_,_,_,_,_,L,M,N,O⟩:=r;simp at d;rcases d with rfl|rfl|rfl|rfl
  ·exact L rfl
  ·exact M rfl
  ·exact N rfl
  ·exact O rfl
 done:=fun s Q E j l=>by
  obtain⟨hz,f,⟨a,b,g⟩,h1,h2⟩:=j;have d:s.TypeIs (.ref z) "zip":=⟨_,hz,rfl⟩;have S:min n1 n2=n1\/(min n1 n2<n1/\min n1 n2=n2):=ω
  unfold pyNext;refine Ag (wpAny_attempt (wpAny_callSpecial?_slot (name:=Str.ofString "__next__") d F.slot_zip_next
   (wpAny_call_entry F.slot_zip_next d F.entry_zip_next (Nl D1 D2 D hz f g h1 h2 S fun h' e tk hk H=>?_) (F.args_zip_next_1 _))))
  obtain⟨o,P,hc⟩:=H;refine Ag (wpAny_isInstance (T:="StopIteration") (b:=true) ⟨o,P,hc⟩ isSubtype_stop ?_);exact Aq (l _ tk fun c o hc e=>hk c o (fun x=>hc (by simp[x])) (fun x=>hc (by simp[x])) (fun x=>hc (by simp[x])) (fun x=>hc (by simp[x])) e)
 self:=fun i s Q E j l=>wpAny_pyIter_zip j.1 l
end Zp
end
section
namespace L2
open PySem PySem.Spec PyProof.Rows
section
variable{X:Cx}{aa:Ψ}{σ:St}{H:Hp}{s:Shared}{h':Heap}
def Inv.turneds{t':Nat}{ch:List Addr}(I:Inv X aa σ H s)(d:∀b∈ch,ck X aa H b)(k:∀b o,b∉ch->s.heap.get? b=some o->h'.get? b=some o):Inv X aa σ H {s with heap:=h',toks:=t'}:=by
 have a:∀b u,H b=some u->b∉ch:=fun b u e z=>by have:=(d b z).1;rw[this] at e;cases e
 refine I.step (g':=s.gens) (d':=s.drawn) (ch:=ch) (fun b hb=>?_) (fun b o _ _ hc e _=>k b o hc e) (fun b o _ _ hc e _=>⟨o.slots,k b o hc e⟩) (fun _ _ _ _ n=>n)
  (fun b o hc e=>⟨o,k b o hc e⟩) (fun _ _ e=>e) (fun _ _ _ e=>e) (fun b ps e=>⟨#[],by rw[e];simp⟩) (fun m f=>?_) (fun b u e=>?_) I.bare
 ·obtain⟨l,f1,f2,g,h,i⟩:=d b hb
  exact⟨g,f1,h,i⟩
 ·obtain⟨o,es,ep,j,r⟩:=f
  exact⟨o,es,ep,k _ o (fun z=>(d _ z).2.1 rfl) j,r⟩
 ·refine(I.hok b u e).stay (fun c v hc q=>k c v ?_ q) (fun _ q=>q) fun _ _ q=>q
  rcases hc with z|z
  ·rw[z];exact a b u e
  ·exact a c _ z
def Inv.adopt{a:Addr}{o:HO}(I:Inv X aa σ H s)(d:H a=none)(h1:X.s₀⁻¹<=a)(h2:a≠X.env.locals)(g:∀x c,X.env.cells.lookup x=some c->c≠a)(h:∀p∈X.pn++aa,p.1≠a)(new:zak X.prog X.w (upd H a o) s.heap a o):Inv X aa σ (upd H a o) s:=by
 refine I.step (h':=s.heap) (g':=s.gens) (t':=s.toks) (d':=s.drawn) (ch:=[a]) (fun b hb=>?_) (fun b o _ _ hc e _=>e) (fun b o _ _ hc e _=>⟨o.slots,e⟩) (fun b o hc e n=>?_)
  (fun b o hc e=>⟨o,e⟩) (fun b xs e=>?_) (fun b o u e=>?_) (fun b ps e=>⟨#[],?_⟩) (fun m f=>f) (fun b u e=>?_) I.bare
 ·have e:b=a:=by simpa using hb
  subst e;exact⟨.inr h1,h2,g,h⟩
 ·rw[am (fun z=>hc (by simp[z]))];exact n
 ·rw[am (zl e d)];exact e
 ·rw[am (zl e d)];exact e
 ·rw[am (zl e d),e];simp
 ·by_cases hb:b=a
  ·subst hb;rw[af] at e;cases e;exact new
  ·rw[am hb] at e
   exact(I.hok b u e).stay (fun _ _ _ q=>q) (fun c q=>by rw[am (zl q d)];exact q) fun c xs q=>by rw[am (zl q d)];exact q
def Inv.grown{t':Nat}{ch:List Addr}{a:Addr}{o:HO}(I:Inv X aa σ H s)(f:∀b∈ch,ck X aa H b)(k:∀b o,b∉ch->s.heap.get? b=some o->h'.get? b=some o)(hp:s⁻¹<=a)(new:zak X.prog X.w (upd H a o) h' a o):Inv X aa σ (upd H a o) {s with heap:=h',toks:=t'}:=by
 have I1:Inv X aa σ H {s with heap:=h',toks:=t'}:=I.turneds f k;obtain⟨c,f1,f2,g,d,e⟩:=I.fpOk hp (I.hok.fresh hp);exact I1.adopt c (Ae I.sz hp) f1 d e new
def Jd{b t:Addr}{o:Obj}(I:Inv X aa σ H s)(f:ck X aa H b)(hk:X.K.lookup t=some o):t≠b:=by
 intro z;subst z;have e:=I.ok.mod.kin t o hk;rcases f.2.2.2.1 with q|q
 ·exact I.ok.noex t o e q
 ·exact absurd (Ay (Au (I.ok.bs t o e).1) q) (Nat.lt_irrefl _)
def Je{b t:Addr}{xs:List V}(I:Inv X aa σ H s)(f:ck X aa H b)(h:SqT X.K H t xs):t≠b:=by
 rcases h with (h|⟨o,h⟩)|⟨o,_,_,hk,_⟩
 ·exact zl h f.1
 ·exact zl h f.1
 ·exact Jd I f hk
def Gd{b t:Addr}{xs:List V}(I:Inv X aa σ H s)(f:ck X aa H b)(h:SqL X.K H t xs):t≠b:=by
 rcases h with (h|⟨o,h⟩)|⟨o,_,_,hk,_⟩
 ·exact zl h f.1
 ·exact zl h f.1
 ·exact Jd I f hk
end
def Gh{P:Program}{w:World}{K:Ah}{J:It}{a wr:List Addr}{it:Addr}{tn:Nat->Heap->Prop}{aE:List Expr}{k:Nat}{pos:Pos}(mem:it∈a)(obj:∀i h,tn i h->∀b∈a,∃o,h.get? b=some o/\∀v,o.data≠.cell v)(keep:∀i h h',tn i h->(∀b∈a,∀o,h.get? b=some o->h'.get? b=some o)->tn i h')(hw:∀b∈wr,b∈a)(W:∀(X:Cx),X.prog=P->X.w=w->X.K=K->X.calm=true->∀(i:Nat)(aa:Ψ)(s:Shared)(σ:St)(H:Hp),Inv X aa σ H s->(∀b∈a,ck X aa H b)->tn i s.heap->(J.go i H\/J.stop i H)->
   ∃(z:List Addr)(n:Nat)(x:Nat->Array Value->Prop)(S:Nat->Heap->Prop)(Mid:Nat->Addr->Heap->Prop),WalksT P w X.A it z wr n x S Mid/\S i s.heap/\(∀j h,S j h->tn j h)/\
    (J.go i H->i<n/\∀d,x i d->∃xs:List V,Vals xs d.toList/\xs.length<=sizeLine/\∀p,H p=none->J.yld i H (.ref p) (upd H p (.tup xs)))/\(J.stop i H->i=n))
  (self:∀(A:Around)(i:Nat)(s:Shared)(Q:Ω)(E:Ω),tn i s.heap->Q (.ref it) s->wpAny (model P w) A (pyIter (.ref it)) Q E s) :
  Turn P w K (.Tuple aE k pos) J a it tn where
 mem:=mem
 obj:=obj
 keep:=keep
 item:=by
  intro X f l r hc i aa s σ H E I c st hg;obtain⟨z,n,x,S,Mid,WT,C,D,g,_⟩:=W X f l r hc i aa s σ H I c st (.inl hg);obtain⟨hi,hv⟩:=g hg;subst f l r;refine WT.item i s _ _ hi C fun T d h' tk hp y F G hk=>⟨.ref T,rfl,?_⟩;obtain⟨xs,O,hz,hy⟩:=hv d hp;have I1:Inv X aa σ (upd H T (.tup xs)) {s with heap:=h',toks:=tk}:=I.grown (ch:=wr) (fun b hb=>c b (hw b hb)) hk y (show zak X.prog X.w _ h' T (.tup xs) from⟨hz,d.toList,O,by have q:IsTup h' T d:=F;simpa using q⟩);have Y:∀b∈a,b≠T:=fun b hb=>by
   obtain⟨o,e,_⟩:=obj i _ st b hb;exact Az (Ay (Au e) y)
  have u:∀b∈a,ck X aa (upd H T (.tup xs)) b:=fun b hb=>by
   obtain⟨U,fr⟩:=c b hb;exact⟨by rw[am (Y b hb)];exact U,fr⟩
  refine WT.go aE k pos i T _ _ _ G fun L M N=>?_;have Z:Inv X aa σ (upd H T (.tup xs)) {s with heap:=L,toks:=tk}:=I1.turneds (s:={s with heap:=h',toks:=tk}) (t':=tk) (ch:=wr) (fun b hb=>u b (hw b hb)) N;exact⟨.ref T,_,Z,rfl,hy T (I.hok.fresh y),D _ _ M,fun b hb=>(u b hb).1⟩
 done:=by
  intro X f l r hc i aa s σ H E I c st hg;obtain⟨z,n,x,S,Mid,WT,C,D,_,g⟩:=W X f l r hc i aa s σ H I c st (.inr hg);subst f l r;have e:=g hg;subst e;exact WT.done s _ _ C fun h' tk hk=>⟨rfl,I.turneds (ch:=wr) (fun b hb=>c b (hw b hb)) hk⟩
 self:=self
def DU(K:Ah)(a b:Addr):It:=
 ⟨fun i H=>∃xs ys,SqT K H a xs/\SqT K H b ys/\i<min xs.length ys.length,
  fun i H v H'=>∃p x y,v=.ref p/\H p=none/\H'=upd H p (.tup [x,y])/\(∀xs,SqT K H a xs->xs[i]?=some x)/\∀ys,SqT K H b ys->ys[i]?=some y,
  fun i H=>∃xs ys,SqT K H a xs/\SqT K H b ys/\i=min xs.length ys.length⟩
def df:(2:Nat)<=sizeLine:=by rw[sizeLine_eq];decide
def Nm{P:Program}{w:World}{K:Ah}{aE:List Expr}{k:Nat}{pos:Pos}(C D z TI TO i1 i2:Addr)(hd:TI≠z/\TO≠z/\TI≠TO/\TI≠i1/\TI≠i2/\z≠i1/\z≠i2/\TO≠i1/\TO≠i2/\i1≠i2):Turn P w K (.Tuple aE k pos) (DU K C D) [z,TI,TO,i1,i2] z (fun i h=>IsZip h z TI TO .none/\IsPair h TI (.ref i1) (.ref i2)/\(∃a b,IsPair h TO a b)/\h.IsTupleIter i1 C i/\h.IsTupleIter i2 D i):=by
 obtain⟨d1,d2,d3,d4,d5,d6,d7,d8,d9,O⟩:=hd;refine Gh (wr:=[z,TO,i1,i2]) (by simp) (fun i h st b hb=>?_) (fun i h h' st c=>?_) (fun b hb=>?_) (fun X Z hw hK hc i aa s σ H I N st iJ=>?_) fun A i s Q E st h=>wpAny_pyIter_zip st.1 h
 ·obtain⟨a1,a2,⟨a,b',a3⟩,⟨o4,a4,_,F⟩,⟨o5,a5,_,e5⟩⟩:=st
  simp at hb;rcases hb with rfl|rfl|rfl|rfl|rfl
  ·exact⟨_,a1,fun v z=>by cases z⟩
  ·exact⟨_,a2,fun v z=>by cases z⟩
  ·exact⟨_,a3,fun v z=>by cases z⟩
  ·exact⟨_,a4,fun v z=>by rw[F] at z;cases z⟩
  ·exact⟨_,a5,fun v z=>by rw[e5] at z;cases z⟩
 ·obtain⟨a1,a2,⟨a,b',a3⟩,a4,a5⟩:=st
  exact⟨c z (by simp) _ a1,c TI (by simp) _ a2,⟨a,b',c TO (by simp) _ a3⟩,a4.at fun o e=>c i1 (by simp) o e,a5.at fun o e=>c i2 (by simp) o e⟩
 ·simp at hb ⊢
  rcases hb with rfl|rfl|rfl|rfl<;>simp
 ·subst Z hw hK
  have hd:∃xs ys,SqT X.K H C xs/\SqT X.K H D ys:=by
   rcases iJ with ⟨xs,ys,a,b,_⟩|⟨xs,ys,a,b,_⟩
   ·exact⟨xs,ys,a,b⟩
   ·exact⟨xs,ys,a,b⟩
  obtain⟨xs,ys,d,l⟩:=hd;obtain⟨us,r1,p1,_⟩:=I.tuple d;obtain⟨ws,r2,p2,_⟩:=I.tuple l;have S:=r1.length;have T:=r2.length;have U:=I.ok.hd hc;obtain⟨a1,a2,a3,a4,a5⟩:=st;have f:=fun b hb=>Je I (N b hb) d;have G:=fun b hb=>Je I (N b hb) l;have AP:Zp.Apart z TI TO i1 i2 [i1,C] [i2,D]:=by
   refine⟨?_,?_,?_,?_,by simp,by simp,?_,?_,d1,d2,d3,d4,d5⟩
   ·simp;exact⟨d6,(f z (by simp)).symm⟩
   ·simp;exact⟨d7,(G z (by simp)).symm⟩
   ·simp;exact⟨d8,(f TO (by simp)).symm⟩
   ·simp;exact⟨d9,(G TO (by simp)).symm⟩
   ·simp;exact⟨O,(G i1 (by simp)).symm⟩
   ·simp;exact⟨O.symm,(f i2 (by simp)).symm⟩
  have WZ:=Zp.Jc (prog:=X.prog) (w:=X.w) (A:=X.A) (Zp.Jb (A:=X.A.in1) U i1 C (f i1 (by simp)) us.toArray) (Zp.Jb (A:=X.A.in1) U i2 D (G i2 (by simp)) ws.toArray) AP;refine⟨_,_,_,_,_,WZ,⟨a1,a2,a3,⟨a4,p1⟩,⟨a5,p2⟩⟩,fun j h st=>⟨st.1,st.2.1,st.2.2.1,st.2.2.2.1.1,st.2.2.2.2.1⟩,fun g=>?_,fun g=>?_⟩
  ·obtain⟨q,r,J,L,hi⟩:=g
   have e1:=I.tuple_inj J d;have e2:=I.tuple_inj L l;subst e1 e2;refine⟨by simpa[<-S,<-T] using hi,fun aB hp=>?_⟩;obtain⟨x,y,px,py,rfl⟩:=hp;have iY:us[i]?=some x:=by simpa using px
   have M:ws[i]?=some y:=by simpa using py
   have lx:i<q.length:=ω
   have ly:i<r.length:=ω
   have W:q[i]?=some q[i]:=by simp[lx]
   have Y:r[i]?=some r[i]:=by simp[ly]
   obtain⟨u,e3,ru⟩:=r1.get W;obtain⟨u',F,cU⟩:=r2.get Y;rw[iY] at e3;cases e3;rw[M] at F;cases F;refine⟨[q[i],r[i]],.cons ru (.cons cU .nil),df,fun p hp=>⟨p,_,_,rfl,hp,rfl,fun zs hz=>?_,fun zs hz=>?_⟩⟩
   ·rw[I.tuple_inj hz d];exact W
   ·rw[I.tuple_inj hz l];exact Y
  ·obtain⟨q,r,J,L,hi⟩:=g
   have e1:=I.tuple_inj J d;have e2:=I.tuple_inj L l;subst e1 e2
   simpa[<-S,<-T] using hi
def No(b e:Addr)(xs ys:Array Value):Meets (Builtin.«zip.__new__» ⟨[.type "zip",.ref b,.ref e],[]⟩) (fun _ R s=>s.heap.IsTuple b xs/\s.heap.IsTuple e ys/\
   ∀h',IsZip h' (s⁻¹+4) (s⁻¹+2) (s⁻¹+3) .none->IsPair h' (s⁻¹+2) (.ref s⁻¹) (.ref (s⁻¹+1))->
   IsPair h' (s⁻¹+3) .none .none->h'.IsTupleIter s⁻¹ b 0->h'.IsTupleIter (s⁻¹+1) e 0->
   (∀c o,s.heap.get? c=some o->h'.get? c=some o)->R (.ok (.ret (.ref (s⁻¹+4)))) {s with heap:=h'}):=
 .of_wp fun prog w A R s h=>by
  obtain⟨hp,g,d,tk,os⟩:=s;obtain⟨f,i,h⟩:=h;have p:=sub_zip;have j:Heap.IsTuple (Shared.heap ⟨hp,g,d,tk,os⟩) b xs:=f;have l:Heap.IsTuple (Shared.heap ⟨hp.push {cls:=.type "tuple_iterator",data:=.fields #[.ref b,.int 0 0]},g,d,tk,os⟩) e ys:=Heap.IsTuple.push i _
  wp_walk using wpAny_pyIter_tuple j,wpAny_pyIter_tuple l
  refine⟨_,rfl,?_⟩;dsimp only at h ⊢;have a:∀(h:Heap)(o:Obj),(h.push o).objs.size=h.objs.size+1:=fun h o=>Heap.size_push ..;simp only[a,Nat.add_assoc,Nat.reduceAdd];refine h _ ?_ ?_ ?_ ?_ ?_ fun c o x=>Ai _ (Ai _ (Ai _ (Ai _ (Ai _ x))))
  ·exact Heap.get?_push_at (by simp only[a]) rfl
  ·exact Ai _ (Ai _ (Heap.get?_push_at (by simp only[a]) rfl))
  ·exact Ai _ (Heap.get?_push_at (by simp only[a]) rfl)
  ·exact⟨_,Ai _ (Ai _ (Ai _ (Ai _ (AO _ rfl)))),rfl,rfl⟩
  ·exact⟨_,Ai _ (Ai _ (Ai _ (Heap.get?_push_at (by simp only[a]) rfl))),rfl,rfl⟩
section
variable{X:Cx}{aE:List Expr}{k:Nat}{cB:Pos}
def Gj(K:Ah)(ta:TA):TI:=fun σ H R=>ta σ H fun vs H1=>∃a b,vs=[.ref a,.ref b]/\(∃xs,SqT K H1 a xs)/\(∃ys,SqT K H1 b ys)/\R (DU K a b) H1
def Np{a b:Expr}{ta:TA}{p pos:Pos}(hg:Gl X "zip")(A:X.mg "zip"=none)(hv:A8 "zip"=some (.type "zip"))(C:PA X [a,b] ta)(D:starEach [a,b] X.env=[(false,eval a X.env),(false,eval b X.env)]:=by rfl)(j:starEach [b] X.env=[(false,eval b X.env)]:=by rfl):PI X (.Tuple aE k cB) (.Call (.Name "zip" p) [a,b] [] pos) (Gj X.K ta):=by
 intro aa s σ H R I h;refine Call_ (kQ I hg A hv (PyProof.Rows.callWith_type1 (aR (C pos aa s σ H _ I h) fun us c ⟨vs,H1,I1,r1,d⟩=>?_) (by rw[D,j]) (by rw[j];rfl)));obtain⟨f,g,e,⟨xs,d⟩,⟨ys,o⟩,q⟩:=d;subst e;obtain⟨u,G,rfl,r,v⟩:=vals2 r1;cases r;cases v;obtain⟨w,_,x,_⟩:=I1.tuple d;obtain⟨y,_,p2,_⟩:=I1.tuple o;refine callType_new F.called_zip ξ (F.typeCall_zip_2 _ _) (F.newCall_zip_2 _ _) (fun obj=>F.args_object_init_3 obj _ _) F.entry_zip_new (No f g w.toArray y.toArray) ⟨x,p2,fun h' a1 a2 a3 a4 a5 l=>?_⟩;refine⟨⟨_,a1,rfl⟩,wpAny_pyIter_zip a1 ?_⟩;have E:Inv X aa σ H1 {c with heap:=h'}:=I1.kept (t':=c.toks) l;refine⟨c⁻¹+4,[c⁻¹+4,c⁻¹+2,c⁻¹+3,c⁻¹,c⁻¹+1],_,_,H1,rfl,E,Nm f g _ _ _ _ _ (by refine⟨?_,?_,?_,?_,?_,?_,?_,?_,?_,?_⟩<;>(intro z;have J:(_:Nat)=_:=z;(first|lia|omega))),⟨a1,a2,⟨_,_,a3⟩,a4,a5⟩,fun b hb=>?_,q⟩;have i:c⁻¹<=b:=by
  simp only[List.mem_cons,List.not_mem_nil,or_false] at hb;rcases hb with rfl|rfl|rfl|rfl|rfl
  ·exact A7 _ _
  ·exact A7 _ _
  ·exact A7 _ _
  ·exact Ad _
  ·exact A7 _ _
 exact I1.fpOk i (I1.hok.fresh i)
end
def qb(K:Ah)(a:Addr):It:=
 ⟨fun i H=>∃xs,SqL K H a xs/\i<xs.length,
  fun i H v H'=>∃p x,v=.ref p/\H p=none/\H'=upd H p (.tup [.int i,x])/\∀xs,SqL K H a xs->xs[i]?=some x,
  fun i H=>∃xs,SqL K H a xs/\i=xs.length⟩
def Nq{P:Program}{w:World}{K:Ah}{aE:List Expr}{k:Nat}{pos:Pos}(a e it:Addr)(hd:e≠it):Turn P w K (.Tuple aE k pos) (qb K a) [e,it] e (fun i h=>(∃old,IsEnum h e it i old)/\h.IsListIter it a i):=by
 refine Gh (wr:=[e,it]) (by simp) (fun i h st b hb=>?_) (fun i h h' st y=>?_) (fun b hb=>hb) (fun X F hw G hc i aa s σ H I J st L=>?_) fun A i s Q E st h=>?_
 ·obtain⟨⟨old,a1⟩,⟨Z,a4,_,M⟩⟩:=st
  simp at hb;rcases hb with rfl|rfl
  ·exact⟨_,a1,fun v z=>by cases z⟩
  ·exact⟨_,a4,fun v z=>by rw[M] at z;cases z⟩
 ·obtain⟨⟨old,a1⟩,a4⟩:=st
  exact⟨⟨old,y e (by simp) _ a1⟩,a4.at fun o q=>y it (by simp) o q⟩
 ·subst F hw G
  have r:∃xs,SqL X.K H a xs:=by
   rcases L with ⟨xs,q,_⟩|⟨xs,q,_⟩
   ·exact⟨xs,q⟩
   ·exact⟨xs,q⟩
  obtain⟨xs,c⟩:=r;obtain⟨us,r1,N,_⟩:=I.list c;have C:=r1.length;have T:=I.ok.hd hc;obtain⟨a1,a4⟩:=st;have f:=fun b hb=>Gd I (J b hb) c;have W:=WalksT.enumerateD (prog:=X.prog) (w:=X.w) (A:=X.A) (Draws.list (A:=X.A.in1) T it a (f it (by simp)) us.toArray) e hd (by simp;exact⟨hd,(f e (by simp)).symm⟩) (by simp);refine⟨_,_,_,_,_,W,⟨a1,a4,N.isList⟩,fun j h st=>⟨st.1,st.2.1⟩,fun g=>?_,fun g=>?_⟩
  ·obtain⟨d,l,hi⟩:=g
   have e1:=I.list_inj l c;subst e1;refine⟨by simpa[<-C] using hi,fun Y hp=>?_⟩;obtain⟨t,x,O,rfl⟩:=hp;have U:us[i]?=some x:=by simpa using O
   have D:d[i]?=some d[i]:=by simp[hi]
   obtain⟨u,e3,S⟩:=r1.get D;rw[U] at e3;cases e3;refine⟨[.int i,d[i]],.cons ⟨_,rfl⟩ (.cons S .nil),df,fun p hp=>⟨p,_,rfl,hp,rfl,fun zs hz=>?_⟩⟩;rw[I.list_inj hz c];exact D
  ·obtain⟨d,l,hi⟩:=g
   have e1:=I.list_inj l c;subst e1
   simpa[<-C] using hi
 ·obtain⟨⟨old,a1⟩,_⟩:=st
  exact wpAny_pyIter_enum a1 h
section
variable{X:Cx}{aE:List Expr}{k:Nat}{cB:Pos}
def Nr(K:Ah)(ta:TA):TI:=fun σ H R=>ta σ H fun vs H1=>∃a,vs=[.ref a]/\(∃xs,SqL K H1 a xs)/\R (qb K a) H1
def Gn{a:Expr}{ta:TA}{p pos:Pos}(hg:Gl X "enumerate")(l:X.mg "enumerate"=none)(hv:A8 "enumerate"=some (.type "enumerate"))(o:PA X [a] ta)(r:starEach [a] X.env=[(false,eval a X.env)]:=by rfl):PI X (.Tuple aE k cB) (.Call (.Name "enumerate" p) [a] [] pos) (Nr X.K ta):=by
 intro aa s σ H R I h;refine Call_ (kQ I hg l hv (PyProof.Rows.callWith_type1 (aR (o pos aa s σ H _ I h) fun us c ⟨vs,H1,I1,r1,d⟩=>?_) r rfl));obtain⟨a',e,⟨xs,d⟩,q⟩:=d;subst e;obtain⟨u,rfl,i⟩:=vals1 r1;cases i;obtain⟨w,_,j,_⟩:=I1.list d;refine call_enumerate_list j.isList fun h' a1 a2 a3 g=>?_;refine wpAny_pyIter_enum a1 ?_;have v:Inv X aa σ H1 {c with heap:=h'}:=I1.kept (t':=c.toks) g;refine⟨c⁻¹+1,[c⁻¹+1,c⁻¹],_,_,H1,rfl,v,Nq a' _ _ (by intro z;have x:(_:Nat)=_:=z;(first|lia|omega)),⟨⟨_,a1⟩,a2⟩,fun b hb=>?_,q⟩;have f:c⁻¹<=b:=by
  simp only[List.mem_cons,List.not_mem_nil,or_false] at hb;rcases hb with rfl|rfl
  ·exact A7 _ _
  ·exact Ad _
 exact I1.fpOk f (I1.hok.fresh f)
def Nt{K:Ah}{a:Addr}{xs:List V}{g:TG}{tb:TS}{D:Ends}{σ:St}{H:Hp}(b:Nat->St->Hp->Prop)(j:b 0 σ H)(l:∀i σ H,i<=xs.length->b i σ H->SqL K H a xs)(o:∀i x p σ H,xs[i]?=some x->b i σ H->H p=none->g (.ref p) σ (upd H p (.tup [.int i,x])) fun d H2=>tb {D with nx:=b (i+1),ct:=b (i+1),bk:=D.nx} d H2)(hd:∀σ H,b xs.length σ H->D.nx σ H):∃W:Nat->Nat->St->Hp->Prop,(∃m,W 0 m σ H)/\∀i m σ H,W i m σ H->
   ((qb K a).stop i H/\D.nx σ H)\/((qb K a).go i H/\∃N:St->Hp->Prop,(∀ad H',N ad H'->∃f,f<m/\W (i+1) f ad H')/\∀x H',(qb K a).yld i H x H'->g x σ H' fun d H2=>tb {D with nx:=N,ct:=N,bk:=D.nx} d H2):=by
 refine⟨fun i m σ H=>m=xs.length-i/\i<=xs.length/\b i σ H,⟨xs.length,by simp,Ap _,j⟩,?_⟩;rintro i m σ H ⟨rfl,hi,p⟩;have q:=l i σ H hi p
 by_cases c:i<xs.length
 ·refine .inr ⟨⟨xs,q,c⟩,b (i+1),fun ad H' h=>⟨xs.length-(i+1),ω,rfl,c,h⟩,fun x H' y=>?_⟩
  obtain⟨pp,x',rfl,hp,rfl,y⟩:=y;exact o i x' pp σ _ (y xs q) p hp
 ·have e:i=xs.length:=ω
  subst e;exact .inl ⟨⟨xs,q,rfl⟩,hd σ H p⟩
def eD:∀{bs:List Bool}{us:List Value},Vals (bs.map V.bl) us->LSm.BoolsAre us bs
 |[],_,.nil=>.nil
 |b::bs,_,.cons r t=>by cases r;exact .cons b (eD t)
def qh(hc:X.calm=true):f' X (.builtin "all") (fun xs H Q=>∃(l:Addr)(bs:List Bool),xs=[.ref l]/\SqL X.K H l (bs.map V.bl)/\Q (.bl (bs.all id)) H):=by
 intro aa s σ H xs us Q I r h;obtain⟨l,bs,rfl,hq,q⟩:=h;obtain⟨u,rfl,j⟩:=vals1 r;cases j;obtain⟨a,r1,o,_⟩:=I.list hq;have p:=I.ok.hd hc;have c:=o.isList;have hb:=eD r1;have d:l<s⁻¹:=by obtain⟨_,e,_⟩:=c;exact Au e
 refine call_all_walk (wpAny_pyIter_list c ?_);refine⟨s⁻¹,[s⁻¹,l],[s⁻¹],a.toArray.size,_,_,fun i=>(bs[i]?).getD true,rfl,Walks.list (A:=X.A.in1) p _ l (Az d) a.toArray,
  ⟨⟨_,AO _ rfl,rfl,rfl⟩,c.push _⟩,fun i v s' w x g f=>?_,fun h' tk hk=>?_⟩
 ·obtain⟨b,e,rfl⟩:=hb.get i v (by simpa using g)
  simp only[e,Option.getD_some] at f;exact wpAny_truthy_bool f
 ·have e:((Af a.toArray.size).all fun i=>(bs[i]?).getD true)=bs.all id:=by
   rw[AG,hb.length];exact LSm.range_all bs
  rw[e];exact⟨.bl _,H,I.kept (LSm.kept_iter hk),rfl,q⟩
end
section
variable{K:Ah}{a:Addr}{xs:List V}{g:TG}{tc:TT}{te:TE}{σ:St}{H1:Hp}{Q:VK}{D:Addr}
def Gq(n:Nat)(a:Nat->St->List V->Hp->Prop)(i m:Nat)(σ:St)(H:Hp):Prop:=m=n-i/\i<=n/\∃ys,ys.length<=i/\a i σ ys H
def gt(n:Nat)(d:Nat->St->List V->Hp->Prop)(D:Addr)(i:Nat)(c:St):VK:=fun y b=>∃ys a,b D=some (.lst ys)/\ys.length<sizeLine/\a<n-i/\Gq n d (i+1) a c (upd b D (.lst (ys++[y])))
def dD(n:Nat)(c:Nat->St->List V->Hp->Prop)(i:Nat)(b:St)(d:Hp):Prop:=∃a,a<n-i/\Gq n c (i+1) a b d
def bK{n:Nat}{c:Nat->St->List V->Hp->Prop}{i:Nat}{b:St}{ys:List V}{y:V}{a:Hp}(d:n<=sizeLine)(hi:i<n)(f:ys.length<=i)(e:a D=some (.lst ys))(p:c (i+1) b (ys++[y]) (upd a D (.lst (ys++[y])))):gt n c D i b y a:=
 ⟨ys,n-(i+1),e,ω,ω,rfl,hi,ys++[y],by simp;(first|lia|omega),p⟩
def k4{n:Nat}{b:Nat->St->List V->Hp->Prop}{i:Nat}{a:St}{ys:List V}{c:Hp}(hi:i<n)(d:ys.length<=i)(p:b (i+1) a ys c):dD n b i a c:=
 ⟨n-(i+1),ω,rfl,hi,ys,ω,p⟩
def wa{J:It}(n:Nat)(a:Nat->St->List V->Hp->Prop)(l:a 0 σ [] (upd H1 D (.lst [])))(o:∀σ ys H,a n σ ys H->J.stop n H)(q:∀i σ ys H,i<n->a i σ ys H->J.go i H)(r:∀i σ ys H x H',i<n->ys.length<=i->a i σ ys H->J.yld i H x H'->g x σ H' fun d s=>tc d s fun b h=>if b=true then te d h (gt n a D i d) else dD n a i d h)(hd:∀σ ys H,a n σ ys H->Q (.ref D) H):cP J g tc te σ H1 D Q:=by
 refine⟨Gq n a,⟨n,by simp,Ap _,[],Ad _,l⟩,?_⟩;rintro i m f H2 ⟨rfl,hi,ys,j,p⟩
 by_cases c:i<n
 ·exact .inr ⟨q i f ys H2 c p,fun x u y=>r i f ys H2 x u c j p y⟩
 ·have e:i=n:=ω
  subst e;exact .inl ⟨o f ys H2 p,hd f ys H2 p⟩
def jB(c:Nat->St->List V->Hp->Prop)(j:c 0 σ [] (upd H1 D (.lst [])))(f:∀i σ ys H,c i σ ys H->SqL K H a xs)(l:∀i σ ys H x,xs[i]?=some x->i<xs.length->ys.length<=i->c i σ ys H->g x σ H fun d o=>tc d o fun b h=>if b=true then te d h (gt xs.length c D i d) else dD xs.length c i d h)(hd:∀σ ys H,c xs.length σ ys H->Q (.ref D) H):cP (eU K a) g tc te σ H1 D Q:=by
 refine wa xs.length c j (fun σ ys H p=>⟨xs,f _ _ _ _ p,Ad _⟩) (fun i σ ys H hi p=>⟨xs,xs[i],f _ _ _ _ p,by simp[hi]⟩) (fun i σ ys H x H' hi hy p y=>?_) hd;obtain⟨e,y⟩:=y;subst e;exact l i σ ys _ x (y xs (f _ _ _ _ p)) hi hy p
def DW{lo:Int}{n:Nat}(a:Nat->St->List V->Hp->Prop)(f:a 0 σ [] (upd H1 D (.lst [])))(h:∀i σ ys H,i<n->ys.length<=i->a i σ ys H->g (.int (lo+i)) σ H fun c j=>tc c j fun b d=>if b=true then te c d (gt n a D i c) else dD n a i c d)(hd:∀σ ys H,a n σ ys H->Q (.ref D) H):cP (i0 lo n) g tc te σ H1 D Q:=by
 refine wa n a f (fun σ ys H p=>Ad _) (fun i σ ys H hi p=>hi) (fun i σ ys H x H' hi hy p y=>?_) hd;obtain⟨e,y⟩:=y;subst e y;exact h i σ ys _ hi hy p
def Nu{e f:Addr}{ys:List V}(a:Nat->St->List V->Hp->Prop)(q:a 0 σ [] (upd H1 D (.lst [])))(c:∀i σ zs H,a i σ zs H->SqT K H e xs/\SqT K H f ys)(r:∀i σ zs H p x y,xs[i]?=some x->ys[i]?=some y->i<min xs.length ys.length->zs.length<=i->a i σ zs H->H p=none->g (.ref p) σ (upd H p (.tup [x,y])) fun d s=>tc d s fun b h=>if b=true then te d h (gt (min xs.length ys.length) a D i d) else dD (min xs.length ys.length) a i d h)(hd:∀σ zs H,a (min xs.length ys.length) σ zs H->Q (.ref D) H):cP (DU K e f) g tc te σ H1 D Q:=by
 refine wa (min xs.length ys.length) a q (fun σ zs H p=>⟨xs,ys,(c _ _ _ _ p).1,(c _ _ _ _ p).2,rfl⟩) (fun i σ zs H hi p=>⟨xs,ys,(c _ _ _ _ p).1,(c _ _ _ _ p).2,hi⟩) (fun i σ zs H v H' hi hy p y=>?_) hd;obtain⟨pp,x,j,rfl,hp,rfl,l,o⟩:=y;exact r i σ zs H pp x j (l xs (c _ _ _ _ p).1) (o ys (c _ _ _ _ p).2) hi hy p hp
end
end L2
end
section
namespace Dk
open PySem PySem.Spec PyProof.Rows
def IsD(h:Heap)(d:Addr)(es:Array DictEntry)(ep:Nat):Prop:=∃o,h.get? d=some o/\o.ExactDict/\o.data=.dict es ep
def IsD.at{h h':Heap}{d:Addr}{es:Array DictEntry}{ep:Nat}(x:IsD h d es ep)(k:∀o,h.get? d=some o->h'.get? d=some o):IsD h' d es ep:=let ⟨o,ho,r⟩:=x;⟨o,k o ho,r⟩
def IsD.lt{h:Heap}{d:Addr}{es:Array DictEntry}{ep:Nat}(x:IsD h d es ep):d<h.objs.size:=let ⟨_,ho,_⟩:=x;Au ho
section
variable{prog:Program}{w:World}{A:Around}{E:Ω}{s:Shared}{it d:Addr}{i ep:Nat}{es:Array DictEntry}
def IsD.typeIs(x:IsD s.heap d es ep):s.TypeIs (.ref d) "dict":=let ⟨o,ho,r⟩:=x;⟨o,ho,r.1.1⟩
def iter{Q:Ω}(hd:(d==sysModules)=false)(e:IsD s.heap d es ep)(f:Q (.ref s⁻¹) {s with heap:=s.heap.push {cls:=.type "dict_keyiterator",data:=.fields #[.ref d,.int 0 0,.int es.size 0,.int ep 0]}}):wpAny (model prog w) A (pyIter (.ref d)) Q E s:=by
 have a:=e.typeIs;obtain⟨o,b,hc,c⟩:=id e;refine wpAny_pyIter_slot a PySem.F.slot_dict_iter (wpAny_call_entry PySem.F.slot_dict_iter a PySem.F.entry_dict_iter ?_ (PySem.F.args_dict_iter_1 _));unfold Builtin.«dict.__iter__»;refine Ag ?_;unfold Builtin.Dict.dictSlotNone;refine Ag (wpAny_notOrdered_dict a ?_);show wpAny _ _ (pure (Value.ref d)) _ _ s;refine Aq ?_;show wpAny _ _ (Builtin.Dict.showsAll d >>= _) _ _ s;unfold Builtin.Dict.showsAll;rw[if_neg (by rw[hd];exact AJ)];refine Ag (Aq ?_);refine Ag (wpAny_dictEntries b c ?_);refine Ag (wpAny_dictEpoch b c ?_);refine Ag (wpAny_newObj_type (Aq ⟨_,rfl,"dict_keyiterator",_,⟨_,AO _ rfl,rfl⟩,PySem.F.slot_dict_keyiterator_next.lookup,?_⟩))
 simpa[rawInt] using f
def item{Q:Option Value->Shared->Prop}(a:s.heap.IsKeyIter it d i es.size ep)(h:IsD s.heap d es ep)(hx:i<es.size)(j:∀h',h'.IsKeyIter it d (i+1) es.size ep->Heap.SameBut it s.heap h'->Q (some es[i].key) {s with heap:=h'}):wpAny (model prog w) A (pyNext (.ref it)) Q E s:=by
 obtain⟨o,b,hc,hd⟩:=id a;obtain⟨l,c,p,e⟩:=id h;unfold pyNext;refine Ag (wpAny_attempt (wpAny_callSpecial?_slot (name:=Str.ofString "__next__") a.typeIs PySem.F.slot_dict_keyiterator_next
  (wpAny_call_entry PySem.F.slot_dict_keyiterator_next a.typeIs PySem.F.entry_dict_keyiterator_next ?_ (PySem.F.args_dict_keyiterator_next_1 _))))
 refine Ag (Aq ?_);refine Ag ?_;refine Ag ?_
 first|refine Ag (wpAny_typeNameOfWhole_keyiter a.typeIs (Aq ?_))|refine Ag (wpAny_typeNameOf_keyiter a.typeIs (Aq ?_))
 refine Ag (wpAny_fieldsOf b hd ?_);have g:Builtin.Dict_items.ownsTuple "dict_keyiterator"=false:=ξ
 simp only[g,Bool.false_eq_true,if_false];show wpAny _ _ (if(Value.ref d==Value.none)=true then _ else _) _ _ s;rw[if_neg (show ¬((Value.ref d==Value.none)=true) from AJ)];refine Ag (Aq ?_);refine Ag (wpAny_dictEntries c e ?_);rw[if_neg (by simp)];refine Ag (Aq ?_);refine Ag (wpAny_dictEpoch c e ?_);rw[if_neg (by simp)];refine Aq ?_;simp only[show ¬((i:Int)<0) from ω,if_false,Int.toNat_natCast,Array.getElem?_eq_getElem hx];refine Ag ?_
 first|refine Ag (wpAny_typeNameOfWhole_keyiter a.typeIs (Aq ?_))|refine Ag (wpAny_typeNameOf_keyiter a.typeIs (Aq ?_))
 refine Ag (wpAny_isOneOf_keyiter a.typeIs ?_);show wpAny _ _ (setField (.ref it) 1 (rawInt ((i:Int)+1)) >>= _) _ _ s;refine Ag (wpAny_setField b hd (by simp) ?_);have f:(s.heap.update it (Obj.mapFields (·.setIfInBounds 1 (rawInt ((i:Int)+1))))).IsKeyIter it d (i+1) es.size ep:=
  ⟨_,Heap.get?_update_self _ b (Obj.isFreed_of_fields (Obj.data_mapFields hd _)),(Obj.cls_mapFields ..).trans hc,by rw[Obj.data_mapFields hd];simp[rawInt]⟩
 refine Ag (wpAny_holding ?_);refine Ag (wpAny_isOneOf_keyiter (s:={s with heap:=s.heap.update it (Obj.mapFields (·.setIfInBounds 1 (rawInt ((i:Int)+1))))}) f.typeIs ?_);show wpAny _ _ (pure es[i].key) _ _ _;exact Aq (Aq ⟨_,rfl,Aq (j _ f (Heap.SameBut.update ..))⟩)
def done{Q:Option Value->Shared->Prop}(i:A.handled=none)(c:s.heap.IsKeyIter it d es.size es.size ep)(j:IsD s.heap d es ep)(l:∀h',Heap.ExtBut it s.heap h'->Q none {s with heap:=h'}):wpAny (model prog w) A (pyNext (.ref it)) Q E s:=by
 obtain⟨o,e,hc,hd⟩:=id c;obtain⟨p,f,q,g⟩:=id j;unfold pyNext;refine Ag (wpAny_attempt (wpAny_callSpecial?_slot (name:=Str.ofString "__next__") c.typeIs PySem.F.slot_dict_keyiterator_next
  (wpAny_call_entry PySem.F.slot_dict_keyiterator_next c.typeIs PySem.F.entry_dict_keyiterator_next ?_ (PySem.F.args_dict_keyiterator_next_1 _))))
 refine Ag (Aq ?_);refine Ag ?_;refine Ag ?_
 first|refine Ag (wpAny_typeNameOfWhole_keyiter c.typeIs (Aq ?_))|refine Ag (wpAny_typeNameOf_keyiter c.typeIs (Aq ?_))
 refine Ag (wpAny_fieldsOf e hd ?_);have h:Builtin.Dict_items.ownsTuple "dict_keyiterator"=false:=ξ
 simp only[h,Bool.false_eq_true,if_false];show wpAny _ _ (if(Value.ref d==Value.none)=true then _ else _) _ _ s;rw[if_neg (show ¬((Value.ref d==Value.none)=true) from AJ)];refine Ag (Aq ?_);refine Ag (wpAny_dictEntries f g ?_);rw[if_neg (by simp)];refine Ag (Aq ?_);refine Ag (wpAny_dictEpoch f g ?_);rw[if_neg (by simp)];refine Aq ?_;simp only[show ¬((es.size:Int)<0) from ω,if_false,Int.toNat_natCast,Array.getElem?_eq_none (Ad es.size)];refine Ag ?_
 first|refine Ag (wpAny_typeNameOfWhole_keyiter c.typeIs (Aq ?_))|refine Ag (wpAny_typeNameOf_keyiter c.typeIs (Aq ?_))
 show wpAny _ _ (setField (.ref it) 0 .none >>= _) _ _ s;refine Ag (wpAny_setField e hd (by simp) ?_);show wpAny _ _ (newExc (.type "StopIteration") [] >>= _) _ _ _;refine Ag ?_;simp only[newExc,newTuple];refine Ag (wpAny_newObj_type ?_ (by size_fits));refine Ag (m:=firstArgMember _ _) (wpAny_of_eq (a:=Value.none) (by first|rfl|(simp only[firstArgMember];rfl)) ?_);refine wpAny_newObj_type ?_ (by size_fits);simp only[raiseNew];refine Ag (wpAny_handled ?_);rw[show A.in1.handled=none from i];refine Ag (Aq (wpAny_throw ?_));refine Ag (wpAny_isInstance (T:="StopIteration") (b:=true) ⟨_,AO _ rfl,rfl⟩ isSubtype_stop ?_);exact Aq (l _ (((Heap.SameBut.update ..).extBut.push _).push _))
def walks(l:A.handled=none)(I d:Addr)(c:d≠I)(es:Array DictEntry)(ep:Nat):Walks prog w A I [I,d] [I] es.size (fun i v=>∃e,es[i]?=some e/\v=e.key) (fun i h=>h.IsKeyIter I d i es.size ep/\IsD h d es ep) where
 sub:=fun b hb=>by simp at hb ⊢;exact .inl hb
 frame:=fun i h h' st k=>⟨let ⟨o,ho,r⟩:=st.1;⟨o,k I (by simp) o ho,r⟩,st.2.at fun o e=>k d (by simp) o e⟩
 item:=fun i s Q E hi st a=>item st.1 st.2 hi fun h' g f=>a _ h' s.toks ⟨es[i],by simp[hi],rfl⟩ ⟨g,st.2.at fun o e=>(f.2 d c).trans e⟩ fun b o hb e=>(f.2 b (fun z=>hb (by simp[z]))).trans e
 done:=fun s Q E st a=>done l st.1 st.2 fun h' j=>a h' s.toks fun b o hb e=>j b o (fun z=>hb (by simp[z])) e
 self:=fun i s Q E st a=>wpAny_pyIter_keyiter st.1 a
def src(lo:(d==sysModules)=false):PySem.W.KdlSrc prog w "dict" d d es.size (fun i v=>∃e,es[i]?=some e/\v=e.key) (fun h=>IsD h d es ep) where
 type:=fun _ a=>a.typeIs
 there:=fun _ a=>⟨a.lt,a.lt⟩
 keep:=fun _ _ a hk=>a.at fun o e=>hk d (.inl rfl) o e
 notList:=ξ
 notTuple:=ξ
 hint:=fun _ _ _ _ a hq=>PySem.W.kdl_hint_dict a.typeIs hq
 iter:=fun _ s b a=>⟨_,_,(fun _ _ hq=>iter lo a hq),walks b _ d (Az a.lt) es ep,⟨⟨_,AO _ rfl,rfl,rfl⟩,a.at fun o e=>Ai _ e⟩⟩
end
end Dk
namespace L2
open PySem PySem.Spec PyProof.Rows
section
variable{X:Cx}
def Nv{P:Program}{w:World}{k:Key}{u:Value}(h:(eP P w).is k u=true):RelV (kV k) u:=by
 rcases aL h with ⟨i,t,rfl,rfl⟩|⟨x,t,rfl,rfl⟩
 ·exact⟨t,rfl⟩
 ·exact⟨t,rfl⟩
end
end L2
end
section
namespace L2
open PySem PySem.Spec PyProof.Rows
def Tp(H:Hp)(a:Addr)(ps:List Int):Prop:=H a=some (.tup (ps.map V.int))
abbrev Tps(H:Hp)(as:List Addr)(bZ:Ξ):Prop:=Paired (fun a ps=>Tp H a ps) as bZ
def Same.tp{H H':Hp}{a:Addr}{ps:List Int}(e:Same H H')(h:Tp H a ps):Tp H' a ps:=e _ _ h
def Same.new{H:Hp}{a:Addr}{o:HO}(h:H a=none):Same H (upd H a o):=fun b u e=>by rw[am (zl e h)];exact e
def Same.then{H H1:Hp}{a:Addr}{o:HO}(e:Same H H1)(h:H a=none):Same H (upd H1 a o):=fun b u q=>by rw[am (zl q h)];exact e b u q
def Tps.length{H:Hp}{a:List Addr}{b:Ξ}(h:Tps H a b):a.length=b.length:=Paired.length h
def Tps.get{H:Hp}:∀{b:List Addr}{c:Ξ}{i:Nat}{a:Addr},Tps H b c->b[i]?=some a->∃ps,c[i]?=some ps/\Tp H a ps
 |_,_,_,_,.nil,e=>by simp at e
 |_,_,0,_,.cons r _,e=>by simp at e;subst e;exact⟨_,rfl,r⟩
 |_,_,i+1,a,.cons _ t,e=>by
  obtain⟨u,h1,h2⟩:=Tps.get (i:=i) (a:=a) t (by simpa using e);exact⟨u,by simpa using h1,h2⟩
def Tps.snoc{H:Hp}{b:List Addr}{c:Ξ}{a:Addr}{ps:List Int}(h:Tps H b c)(q:Tp H a ps):Tps H (b++[a]) (c++[ps]):=by
 induction h with
 |nil=>exact .cons q .nil
 |cons r t ih=>exact .cons r ih
def Tps.append{H:Hp}{a bs:List Addr}{b c:Ξ}(h:Tps H a b)(q:Tps H bs c):Tps H (a++bs) (b++c):=by
 induction h with
 |nil=>exact q
 |cons r t ih=>exact .cons r ih
def Tps.take{H:Hp}:∀{a:List Addr}{b:Ξ}(n:Nat),Tps H a b->Tps H (a.take n) (b.take n)
 |_,_,0,_=>.nil
 |_,_,_+1,.nil=>.nil
 |_,_,n+1,.cons r t=>.cons r (Tps.take n t)
def Tps.drop{H:Hp}:∀{a:List Addr}{b:Ξ}(n:Nat),Tps H a b->Tps H (a.drop n) (b.drop n)
 |_,_,0,r=>r
 |_,_,_+1,.nil=>.nil
 |_,_,n+1,.cons _ t=>Tps.drop n t
section
variable{X:Cx}
def Nw:f' X (.builtin "isinstance") (fun xs H Q=>∃n,xs=[.int n,.ty "int"]/\Q (.bl true) H):=by
 intro aa s σ H xs us Q I r h;obtain⟨n,rfl,q⟩:=h;obtain⟨u,c,rfl,a,b⟩:=vals2 r;cases b;exact FM I a (.int n) (by first|rfl|kernel_rfl|decide +kernel) fun tk=>⟨.bl true,H,I.tok _,rfl,q⟩
def Nx:f' X (.builtin "isinstance") (fun xs H Q=>∃n,xs=[.int n,.ty "bool"]/\Q (.bl false) H):=by
 intro aa s σ H xs us Q I r h;obtain⟨n,rfl,q⟩:=h;obtain⟨u,c,rfl,a,b⟩:=vals2 r;cases b;exact FM I a (.int n) (by first|rfl|kernel_rfl|decide +kernel) fun tk=>⟨.bl false,H,I.tok _,rfl,q⟩
def Jf:f' X (.builtin "isinstance") (fun xs H Q=>∃a ys,xs=[.ref a,.ty "list"]/\H a=some (.lst ys)/\Q (.bl true) H):=by
 intro aa s σ H xs us Q I r h;obtain⟨a,ys,rfl,b,q⟩:=h;obtain⟨u,e,rfl,c,d⟩:=vals2 r;cases d;exact FM I c (.lst b) (by first|rfl|kernel_rfl|decide +kernel) fun tk=>⟨.bl true,H,I.tok _,rfl,q⟩
def Jg(ns:List Int):∀k,k<=ns.length->preSum (fun i=>(ns[i]?).getD 0) k=(ns.take k).sum
 |0,_=>by simp[preSum]
 |k+1,h=>by
  have a:=Jg ns k ω;have e:ns[k]?=some ns[k]:=Aa ω;show preSum (fun i=>(ns[i]?).getD 0) k+(ns[k]?).getD 0=_;rw[a,List.take_add_one,e,List.sum_append];simp
def ints_get{ns:List Int}{a:List Value}(r:Vals (ns.map V.int) a){i:Nat}{v:Value}(h:a[i]?=some v):∃n t,ns[i]?=some n/\v=.int n t:=by
 have d:a.length=ns.length:=by rw[<-r.length,Ab]
 have hi:i<ns.length:=by rw[<-d];exact(List.getElem?_eq_some_iff.mp h).1
 have e:ns[i]?=some ns[i]:=Aa hi;obtain⟨u,b,c⟩:=r.get (show(ns.map V.int)[i]?=some (V.int ns[i]) by rw[Aj,e];rfl);rw[h] at b;obtain rfl:=AY b;obtain⟨t,rfl⟩:=c;exact⟨_,t,e,rfl⟩
def Jh(hc:X.calm=true):f' X (.builtin "sum") (fun xs H Q=>∃(l:Addr)(ns:List Int),xs=[.ref l]/\SqL X.K H l (ns.map V.int)/\Q (.int ns.sum) H):=by
 intro aa s σ H xs us Q I r h;obtain⟨l,ns,rfl,hq,q⟩:=h;obtain⟨u,rfl,p⟩:=vals1 r;cases p;obtain⟨a,r1,w,_⟩:=I.list hq;have x:=I.ok.hd hc;have d:=w.isList;have c:l<s⁻¹:=by obtain⟨_,e,_⟩:=d;exact Au e
 have y:a.length=ns.length:=by rw[<-r1.length,Ab]
 refine call_sum_walkAnyS (wpAny_pyIter_list d ?_);refine⟨s⁻¹,[s⁻¹,l],[s⁻¹],_,a.toArray.size,_,_,fun i=>(ns[i]?).getD 0,rfl,(Walks.list (A:=X.A.in1) x _ l (Az c) a.toArray).toS,
  ⟨⟨_,AO _ rfl,rfl,rfl⟩,d.push _⟩,fun b hb=>?_,fun i v g=>?_,fun s' t' f=>?_⟩
 ·have z:b<=s⁻¹:=by
   simp only[List.mem_cons,List.not_mem_nil,or_false] at hb;rcases hb with rfl|rfl
   ·exact Ad _
   ·exact Nat.le_of_lt c
  exact At z (Au (AO _ rfl))
 ·obtain⟨n,t,e,rfl⟩:=ints_get r1 (show a[i]?=some v by simpa using g)
  exact⟨t,by simp only[e,Option.getD_some]⟩
 ·have e:preSum (fun i=>(ns[i]?).getD 0) a.toArray.size=ns.sum:=by
   rw[AG,y,Jg ns _ (Ad _),Av (Ad _)]
  rw[e,Moved.eq_with f];exact⟨.int _,H,I.kept (LSm.kept_iter fun b o hb j=>f.heap b o hb j),⟨_,rfl⟩,q⟩
end
end L2
end
section
namespace Tim
open PySem PyProof.Rows
def R(ρ:Keyed->Int)(xs:Array Keyed)(i:Nat):Int:=match xs[i]? with
 |some p=>ρ p
 |none=>0
def wc{ρ:Keyed->Int}{xs ys:Array Keyed}{i j:Nat}(h:xs[i]?=ys[j]?):R ρ xs i=R ρ ys j:=by unfold R;rw[h]
def jE{ρ:Keyed->Int}{xs:Array Keyed}{i:Nat}{p:Keyed}(h:xs[i]?=some p):R ρ xs i=ρ p:=by unfold R;rw[h]
def cu(ρ:Keyed->Int)(xs:Array Keyed)(lo hi:Nat):Prop:=∀i j,lo<=i->i<=j->j<hi->R ρ xs i<=R ρ xs j
def qo(ρ:Keyed->Int)(xs:Array Keyed)(lo hi:Nat):Prop:=∀i j,lo<=i->i<=j->j<hi->R ρ xs j<=R ρ xs i
def gx{ρ:Keyed->Int}{xs:Array Keyed}{i j:Nat}(a:j<=xs.size)(k:Nat):R ρ (mirror xs i j ((j-i) / 2)) k=if i<=k/\k<j then R ρ xs (i+j-1-k) else R ρ xs k:=by
 have e:=getElem?_mirror_all (i:=i) a k
 by_cases h1:i<=k/\k<j
 ·rw[if_pos h1] at e ⊢;exact wc e
 ·rw[if_neg h1] at e ⊢;exact wc e
def zJ{ρ:Keyed->Int}{xs:Array Keyed}{i j:Nat}(b:j<=xs.size)(a:∀k,i<=k->k<j->R ρ xs k=R ρ xs (j-1))(k:Nat):R ρ (mirror xs i j ((j-i) / 2)) k=R ρ xs k:=by
 rw[gx b];split
 ·rw[a _ ω ω,a k ω ω]
 ·rfl
def qx{ρ:Keyed->Int}{xs:Array Keyed}{src d:Nat}(a:src<xs.size)(hd:d<=src)(k:Nat):R ρ (bubble xs src d) k=if k=src-d then R ρ xs src else if src-d<k/\k<=src then R ρ xs (k-1) else R ρ xs k:=by
 have e:=getElem?_bubble a d hd k
 by_cases h1:k=src-d
 ·rw[if_pos h1] at e ⊢;exact wc e
 ·rw[if_neg h1] at e ⊢
  by_cases h2:src-d<k/\k<=src
  ·rw[if_pos h2] at e ⊢;exact wc e
  ·rw[if_neg h2] at e ⊢;exact wc e
structure i9(prog:Program)(w:World)(A:Around)(s:Shared)(κ:SortKind)(a₀:Array Keyed)(ρ:Keyed->Int):Prop where
 lt:∀x y,x∈a₀.toList->y∈a₀.toList->∀(Q:Bool->Shared->Prop)(E:Ω),Q (decide (ρ x<ρ y)) s->wpAny (model prog w) A (keyLt' κ x.1 y.1) Q E s
structure B(κ:SortKind)(a₀:Array Keyed)(st:SortSt):Prop where
 perm:(arrOf st).Perm a₀
 kind:kindOf st=κ
 failed:failedOf st=none
def B.size{κ:SortKind}{a₀:Array Keyed}{st:SortSt}(h:B κ a₀ st):(arrOf st).size=a₀.size:=h.perm.size_eq
def B.setArr{κ:SortKind}{a₀:Array Keyed}{st:SortSt}(h:B κ a₀ st){xs:Array Keyed}(hp:xs.Perm (arrOf st)):B κ a₀ (setArr st xs):=⟨hp.trans h.perm,h.kind,h.failed⟩
def B.mem{κ:SortKind}{a₀:Array Keyed}{st:SortSt}(h:B κ a₀ st){p:Keyed}(hp:p∈(arrOf st).toList):p∈a₀.toList:=(Array.perm_iff_toList_perm.mp h.perm).mem_iff.mp hp
def Ji{xs:Array Keyed}{i:Nat}(hi:i<xs.size):∃p,xs[i]?=some p/\p∈xs.toList:=⟨xs[i],getElem?_pos _ i hi,by simp⟩
structure Pre(lo:Nat)(st ab:SortSt):Prop where
 arr:∀k,k<lo->(arrOf ab)[k]?=(arrOf st)[k]?
 pend:pendingOf ab=pendingOf st
def Pre.refl{lo:Nat}{st:SortSt}:Pre lo st st:=⟨fun _ _=>rfl,rfl⟩
def Pre.trans{lo:Nat}{a b c:SortSt}(x:Pre lo a b)(y:Pre lo b c):Pre lo a c:=⟨fun k h=>(y.arr k h).trans (x.arr k h),y.pend.trans x.pend⟩
def Pre.mir{lo i j:Nat}{st:SortSt}(a:j<=(arrOf st).size)(hi:lo<=i):Pre lo st (setArr st (mirror (arrOf st) i j ((j-i) / 2))):=
 ⟨fun k h=>by show(mirror _ _ _ _)[k]?=_;rw[getElem?_mirror_all a,if_neg ω],rfl⟩
def Pre.bub{lo src d:Nat}{st:SortSt}(a:src<(arrOf st).size)(hd:d<=src)(b:lo<=src-d):Pre lo st (setArr st (bubble (arrOf st) src d)):=
 ⟨fun k h=>by show(bubble _ _ _)[k]?=_;rw[getElem?_bubble a d hd,if_neg ω,if_neg ω],rfl⟩
section
variable{prog:Program}{w:World}{A:Around}{E:Ω}{s:Shared}{κ:SortKind}{a₀:Array Keyed}{ρ:Keyed->Int}
def Ny(C:i9 prog w A s κ a₀ ρ){st:SortSt}(a:B κ a₀ st){x y:Keyed}(hx:x∈a₀.toList)(hy:y∈a₀.toList){Q:Option Bool->SortSt->Prop}(h:Q (some (decide (ρ x<ρ y))) st):wpS (model prog w) A E s (lt' x y) Q st:=by
 rw[lt'_eq];refine wpS_bind (wpS_get ?_);rw[a.kind];refine wpS_bind (wpS_lift (wpAny_attempt (C.lt x y hx hy _ _ ⟨rfl,?_⟩)));exact wpS_pure h
def Jj{st:SortSt}{xs:Array Keyed}{i:Nat}{p:Keyed}(h:xs[i]?=some p){Q:Keyed->SortSt->Prop}(hq:Q p st):wpS (model prog w) A E s (elem' xs i) Q st:=by
 rw[elem'_eq,h];exact wpS_pure hq
def wf(C:i9 prog w A s κ a₀ ρ){st:SortSt}(a:B κ a₀ st){i j:Nat}(hi:i<a₀.size)(c:j<a₀.size){Q:Option Bool->SortSt->Prop}(h:Q (some (decide (R ρ (arrOf st) i<R ρ (arrOf st) j))) st):wpS (model prog w) A E s (ltAt' i j) Q st:=by
 obtain⟨p,e1,b⟩:=Ji (xs:=arrOf st) (i:=i) (by rw[a.size];exact hi);obtain⟨q,e2,m2⟩:=Ji (xs:=arrOf st) (i:=j) (by rw[a.size];exact c);rw[ltAt'_eq];refine wpS_bind (wpS_get ?_);show wpS _ _ _ _ (do let x <-elem' (arrOf st) i;let y <-elem' (arrOf st) j;lt' x y) Q st;refine wpS_bind (Jj e1 (wpS_bind (Jj e2 (Ny C a (a.mem b) (a.mem m2) ?_))));rw[jE e1,jE e2] at h;exact h
def asc(lo a b:Nat):StateT SortSt Sem AscSt:=
 forIn [a:b] ((none,a):AscSt) fun _ __s=>do
  let __x <-ltAt' (lo+__s.snd) (lo+__s.snd-1)
  match __x with
  |some smaller=>if smaller=true then pure (ForInStep.done (none,__s.snd)) else pure (ForInStep.yield (none,__s.snd+1))
  |_=>pure (ForInStep.done (some none,__s.snd))
def wh(lo n a:Nat):StateT SortSt Sem (Option Nat):=do
 reverseSlice' lo (lo+n)
 let __s <-asc lo n a
 match __s.fst with
 |some r=>pure r
 |none=>pure (some __s.snd)
def DX(lo n a:Nat):StateT SortSt Sem DescSt:=
 forIn [n:a] ((none,n,0):DescSt) fun _ __s=>do
  let __x <-ltAt' (lo+__s.snd.fst) (lo+__s.snd.fst-1)
  match __x with
  |some smaller=>
   if smaller=true then
    if __s.snd.snd>0 then do
     reverseSlice' (lo+__s.snd.fst-(__s.snd.snd+1)) (lo+__s.snd.fst)
     pure (ForInStep.yield (none,__s.snd.fst+1,0))
    else pure (ForInStep.yield (none,__s.snd.fst+1,0))
   else do
    let __x <-ltAt' (lo+__s.snd.fst-1) (lo+__s.snd.fst)
    match __x with
    |some larger=>
     if larger=true then pure (ForInStep.done (none,__s.snd.fst,__s.snd.snd))
     else pure (ForInStep.yield (none,__s.snd.fst+1,__s.snd.snd+1))
    |_=>pure (ForInStep.done (some none,__s.snd.fst,__s.snd.snd))
  |_=>pure (ForInStep.done (some none,__s.snd.fst,__s.snd.snd))
def wj(lo n a:Nat):StateT SortSt Sem (Option Nat):=do
 liftM (rule "list.sort.descending-run")
 let __s <-DX lo (n+1) a
 match __s.fst with
 |some r=>pure r
 |none=>
  if __s.snd.snd>0 then do
   reverseSlice' (lo+__s.snd.fst-(__s.snd.snd+1)) (lo+__s.snd.fst)
   wh lo __s.snd.fst a
  else wh lo __s.snd.fst a
def aZ{b c:Type}{m:StateT SortSt Sem b}{f g:b->StateT SortSt Sem c}(h:∀a,f a=g a):(m >>= f)=(m >>= g):=by
 have e:f=g:=funext h;rw[e]
def Nz(lo c:Nat):countRun' lo c=(do
  let __s <-asc lo 1 c
  match __s.fst with
  |some r=>pure r
  |none=>
   if(__s.snd==c)=true then pure (some __s.snd)
   else if __s.snd>1 then do
    let __x <-ltAt' lo (lo+__s.snd-1)
    match __x with
    |some rose=>if rose=true then pure (some __s.snd) else do
      reverseSlice' lo (lo+__s.snd)
      wj lo __s.snd c
    |_=>pure none
   else wj lo __s.snd c):=by
 rw[countRun'_eq];unfold wj wh DX asc;refine aZ fun f=>?_;obtain⟨r,n⟩:=f;cases r with
 |some r=>rfl
 |none=>
  dsimp only;split
  ·rfl
  ·split
   ·refine aZ fun x=>?_
    cases x with
    |none=>rfl
    |some rose=>
     dsimp only;split
     ·rfl
     ·refine aZ fun _r=>aZ fun _u=>aZ fun d=>?_
      obtain⟨r2,n2,g⟩:=d;cases r2 with
      |some r2=>rfl
      |none=>
       dsimp only;split
       ·refine aZ fun _v=>aZ fun _w=>aZ fun a=>?_
        obtain⟨b,e⟩:=a;cases b<;>rfl
       ·refine aZ fun _w=>aZ fun a=>?_
        obtain⟨b,e⟩:=a;cases b<;>rfl
   ·refine aZ fun _u=>aZ fun d=>?_
    obtain⟨r2,n2,g⟩:=d;cases r2 with
    |some r2=>rfl
    |none=>
     dsimp only;split
     ·refine aZ fun _v=>aZ fun _w=>aZ fun a=>?_
      obtain⟨b,e⟩:=a;cases b<;>rfl
     ·refine aZ fun _w=>aZ fun a=>?_
      obtain⟨b,e⟩:=a;cases b<;>rfl
def Jk(C:i9 prog w A s κ a₀ ρ){st:SortSt}{lo a d:Nat}{Q:AscSt->SortSt->Prop}(F:lo+d<=a₀.size)(G:1<=a)(u:a<=d)(v:B κ a₀ st)(y:cu ρ (arrOf st) lo (lo+a))(h:∀n,a<=n->n<=d->cu ρ (arrOf st) lo (lo+n)->(n=d\/R ρ (arrOf st) (lo+n)<R ρ (arrOf st) (lo+n-1))->Q (none,n) st):wpS (model prog w) A E s (asc lo a d) Q st:=by
 unfold asc;refine wpS_forRange (I:=fun x c f=>f=st/\c=(none,x)/\cu ρ (arrOf st) lo (lo+x)) ?step ?fin ⟨rfl,rfl,y⟩
 case fin=>
  rintro c f ⟨rfl,rfl,e⟩;rw[show max a d=d from ω] at e ⊢;exact h d u (Ad _) e (.inl rfl)
 case step=>
  rintro x c f r D ⟨rfl,rfl,e⟩;dsimp only;refine wpS_bind (wf C v ω ω ?_)
  by_cases b:R ρ (arrOf f) (lo+x)<R ρ (arrOf f) (lo+x-1)
  ·simp only[b,decide_true,if_true]
   exact wpS_pure (h x r ω e (.inr b))
  ·simp only[b,decide_false,Bool.false_eq_true,if_false]
   refine wpS_pure ⟨rfl,rfl,fun i j p q z=>?_⟩
   by_cases l:j<lo+x
   ·exact e i j p q l
   ·have g:j=lo+x:=ω
    subst g
    by_cases o:i=lo+x
    ·subst o;exact Int.le_refl _
    ·exact Int.le_trans (e i (lo+x-1) p ω ω) (Int.not_lt.mp b)
def DY{st:SortSt}{i j:Nat}{Q:Unit->SortSt->Prop}(h:Q () (setArr st (mirror (arrOf st) i j ((j-i) / 2)))):wpS (model prog w) A E s (reverseSlice' i j) Q st:=by
 rw[reverseSlice'_eq];exact wpS_modify h
end
def Tl(τ:Keyed->Int)(xs:Array Keyed)(m:Nat):Prop:=∀i j,i<j->m<=j->j<xs.size->R τ xs i<=R τ xs j
def St(ρ τ:Keyed->Int)(xs:Array Keyed)(lo hi:Nat):Prop:=∀i j,lo<=i->i<j->j<hi->R ρ xs i=R ρ xs j->R τ xs i<=R τ xs j
def As(ρ τ:Keyed->Int)(xs:Array Keyed)(lo hi:Nat):Prop:=∀i j,lo<=i->i<j->j<hi->R ρ xs i=R ρ xs j->R τ xs j<=R τ xs i
def Tl.mono{τ:Keyed->Int}{xs:Array Keyed}{m n:Nat}(h:Tl τ xs m)(d:m<=n):Tl τ xs n:=fun i j a b c=>h i j a ω c
def NA(xs:Array Keyed)(i j m:Nat):(mirror xs i j m).size=xs.size:=(mirror_perm xs i j m).size_eq
def Tl.mir{τ:Keyed->Int}{xs:Array Keyed}{a b m:Nat}(h:Tl τ xs m)(hb:b<=xs.size)(f:b<=m):Tl τ (mirror xs a b ((b-a) / 2)) m:=fun i j e d c=>by
 rw[NA] at c;rw[gx hb,gx hb,if_neg (show ¬(a<=j/\j<b) from ω)];split
 ·exact h _ _ ω d c
 ·exact h _ _ e d c
section
variable{prog:Program}{w:World}{A:Around}{E:Ω}{s:Shared}{κ:SortKind}{a₀:Array Keyed}{ρ τ:Keyed->Int}
abbrev nB(κ:SortKind)(a₀:Array Keyed)(ρ τ:Keyed->Int)(lo ae:Nat)(st:SortSt)(Q:Option Nat->SortSt->Prop):Prop:=
 ∀m ab,B κ a₀ ab->Pre lo st ab->1<=m->m<=ae->cu ρ (arrOf ab) lo (lo+m)->St ρ τ (arrOf ab) lo (lo+m)->Tl τ (arrOf ab) (lo+m)->Q (some m) ab
def Jl(C:i9 prog w A s κ a₀ ρ){st l:SortSt}{lo n c:Nat}{Q:Option Nat->SortSt->Prop}(x:lo+c<=a₀.size)(h1:1<=n)(e:n<=c)(o:B κ a₀ st)(y:Pre lo l st)(z:qo ρ (arrOf st) lo (lo+n))(D:As ρ τ (arrOf st) lo (lo+n))(F:Tl τ (arrOf st) (lo+n))(h:nB κ a₀ ρ τ lo c l Q):wpS (model prog w) A E s (wh lo n c) Q st:=by
 unfold wh;have hsz:lo+n<=(arrOf st).size:=by rw[o.size];(first|lia|omega)
 refine wpS_bind (DY ?_);have d:B κ a₀ (setArr st (mirror (arrOf st) lo (lo+n) ((lo+n-lo) / 2))):=o.setArr (mirror_perm _ _ _ _);have a:Tl τ (arrOf (setArr st (mirror (arrOf st) lo (lo+n) ((lo+n-lo) / 2)))) (lo+n):=F.mir hsz (Ad _);refine wpS_bind (Jk C x h1 e d ?_ fun m G p q _=>wpS_pure (h m _ d (y.trans (.mir hsz (Ad _))) ω p q (fun i j r g u v=>?_) (a.mono ω)))
 ·intro i j r g u
  show R ρ (mirror (arrOf st) lo (lo+n) ((lo+n-lo) / 2)) i<=R ρ (mirror (arrOf st) lo (lo+n) ((lo+n-lo) / 2)) j;rw[gx hsz,gx hsz,if_pos ω,if_pos ω];exact z _ _ ω ω ω
 ·by_cases f:lo+n<=j
  ·exact a i j g f (by rw[d.size];(first|lia|omega))
  ·have b:R ρ (mirror (arrOf st) lo (lo+n) ((lo+n-lo) / 2)) i=R ρ (mirror (arrOf st) lo (lo+n) ((lo+n-lo) / 2)) j:=v
   show R τ (mirror (arrOf st) lo (lo+n) ((lo+n-lo) / 2)) i<=R τ (mirror (arrOf st) lo (lo+n) ((lo+n-lo) / 2)) j;rw[gx hsz,gx hsz,if_pos ω,if_pos ω] at b;rw[gx hsz,gx hsz,if_pos ω,if_pos ω];exact D _ _ ω ω ω b.symm
structure Grp(ρ τ:Keyed->Int)(xs:Array Keyed)(lo x aC:Nat):Prop where
 as:As ρ τ xs lo (lo+x-(aC+1))
 inc:∀i j,lo+x-(aC+1)<=i->i<j->j<lo+x->R τ xs i<=R τ xs j
 str:∀i,lo<=i->i<lo+x-(aC+1)->R ρ xs (lo+x-1)<R ρ xs i
 tl:Tl τ xs (lo+x)
def Grp.turned{xs:Array Keyed}{lo x a:Nat}(g:Grp ρ τ xs lo x a)(hsz:lo+x<=xs.size)(hq:a+1<=x)(b:∀i,lo+x-(a+1)<=i->i<lo+x->R ρ xs i=R ρ xs (lo+x-1)):As ρ τ (mirror xs (lo+x-(a+1)) (lo+x) ((lo+x-(lo+x-(a+1))) / 2)) lo (lo+x):=fun i j e f h hr=>by
 rw[zJ hsz b,zJ hsz b] at hr;rw[gx hsz,gx hsz]
 by_cases c:j<lo+x-(a+1)
 ·rw[if_neg ω,if_neg ω];exact g.as i j e f c hr
 ·by_cases d:i<lo+x-(a+1)
  ·have:=g.str i e d
   rw[b j ω h] at hr;(first|lia|omega)
  ·rw[if_pos ω,if_pos ω]
   exact g.inc _ _ ω ω ω
def Grp.one{xs:Array Keyed}{lo x:Nat}(g:Grp ρ τ xs lo x 0):As ρ τ xs lo (lo+x):=fun i j c d e hr=>by
 by_cases b:j<lo+x-1
 ·exact g.as i j c d b hr
 ·have a:j=lo+x-1:=ω
  have:=g.str i c ω;rw[<-a] at this;(first|lia|omega)
def NB(C:i9 prog w A s κ a₀ ρ){st L:SortSt}{lo n D:Nat}{Q:DescSt->SortSt->Prop}(Z:lo+D<=a₀.size)(h1:1<=n)(M:n<=D)(U:B κ a₀ st)(W:Pre lo L st)(X:qo ρ (arrOf st) lo (lo+n))(hg:Grp ρ τ (arrOf st) lo n 0)(h:∀m e b,B κ a₀ b->Pre lo L b->n<=m->m<=D->qo ρ (arrOf b) lo (lo+m)->e+1<=m->(∀i,lo+m-(e+1)<=i->i<lo+m->R ρ (arrOf b) i=R ρ (arrOf b) (lo+m-1))->Grp ρ τ (arrOf b) lo m e->Q (none,m,e) b):wpS (model prog w) A E s (DX lo n D) Q st:=by
 unfold DX;refine wpS_forRange (I:=fun x c b=>∃e,c=(none,x,e)/\B κ a₀ b/\Pre lo L b/\qo ρ (arrOf b) lo (lo+x)/\e+1<=x/\
   (∀i,lo+x-(e+1)<=i->i<lo+x->R ρ (arrOf b) i=R ρ (arrOf b) (lo+x-1))/\Grp ρ τ (arrOf b) lo x e) ?step ?fin ⟨0,rfl,U,W,X,ω,fun i h1 h2=>by congr 1;(first|lia|omega),hg⟩
 case fin=>
  rintro c b ⟨e,rfl,r,G,u,hq,v,g⟩;rw[show max n D=D from ω] at u hq v g ⊢;exact h D e b r G M (Ad _) u hq v g
 case step=>
  rintro x c b S Y ⟨e,rfl,r,G,u,hq,v,g⟩;dsimp only;have hsz:lo+x<=(arrOf b).size:=by rw[r.size];(first|lia|omega)
  refine wpS_bind (wf C r ω ω ?_)
  by_cases d:R ρ (arrOf b) (lo+x)<R ρ (arrOf b) (lo+x-1)
  ·simp only[d,decide_true,if_true]
   have l:∀xs:Array Keyed,(∀k,R ρ xs k=R ρ (arrOf b) k)->qo ρ xs lo (lo+(x+1)):=by
    intro xs hk i j H J O;rw[hk,hk]
    by_cases q:j<lo+x
    ·exact u i j H J q
    ·have z:j=lo+x:=ω
     subst z
     by_cases F:i=lo+x
     ·subst F;exact Int.le_refl _
     ·exact Int.le_trans (Int.le_of_lt d) (u i (lo+x-1) H ω ω)
   have o:∀xs:Array Keyed,(∀k,R ρ xs k=R ρ (arrOf b) k)->As ρ τ xs lo (lo+x)->Tl τ xs (lo+x)->Grp ρ τ xs lo (x+1) 0:=fun xs hk a t=>by
    refine⟨?_,fun i j h1 h2 P=>ω,fun i h1 h2=>?_,t.mono ω⟩
    ·rw[show lo+(x+1)-(0+1)=lo+x from ω];exact a
    ·rw[show lo+(x+1)-1=lo+x from ω,hk,hk]
     exact Int.lt_of_lt_of_le d (u i (lo+x-1) h1 ω ω)
   by_cases y:e>0
   ·rw[if_pos y]
    refine wpS_bind (DY (wpS_pure ⟨0,rfl,r.setArr (mirror_perm _ _ _ _),G.trans (.mir hsz ω),l _ (zJ hsz v),ω,fun i h1 h2=>by congr 1;(first|lia|omega),o _ (zJ hsz v) (g.turned hsz hq v) (g.tl.mir hsz (Ad _))⟩))
   ·rw[if_neg y]
    have T:e=0:=ω
    subst T;exact wpS_pure ⟨0,rfl,r,G,l _ (fun _=>rfl),ω,fun i h1 h2=>by congr 1;(first|lia|omega),o _ (fun _=>rfl) g.one g.tl⟩
  ·simp only[d,decide_false,Bool.false_eq_true,if_false]
   refine wpS_bind (wf C r ω ω ?_)
   by_cases f:R ρ (arrOf b) (lo+x-1)<R ρ (arrOf b) (lo+x)
   ·simp only[f,decide_true,if_true]
    exact wpS_pure (h x e b r G S ω u hq v g)
   ·simp only[f,decide_false,Bool.false_eq_true,if_false]
    have p:R ρ (arrOf b) (lo+x)=R ρ (arrOf b) (lo+x-1):=ω
    refine wpS_pure ⟨e+1,rfl,r,G,fun i j H J O=>?_,ω,fun i h1 h2=>?_,?_⟩
    ·by_cases q:j<lo+x
     ·exact u i j H J q
     ·have z:j=lo+x:=ω
      subst z
      by_cases F:i=lo+x
      ·subst F;exact Int.le_refl _
      ·rw[p];exact u i (lo+x-1) H ω ω
    ·rw[show lo+(x+1)-1=lo+x from ω]
     by_cases N:i=lo+x
     ·subst N;rfl
     ·rw[p];exact v i ω ω
    ·have hb:lo+(x+1)-(e+1+1)=lo+x-(e+1):=ω
     refine⟨by rw[hb];exact g.as,fun i j h1 h2 P=>?_,fun i h1 h2=>?_,g.tl.mono ω⟩
     ·by_cases q:j<lo+x
      ·exact g.inc i j ω h2 q
      ·exact g.tl i j h2 ω (by rw[r.size];(first|lia|omega))
     ·rw[show lo+(x+1)-1=lo+x from ω,p]
      exact g.str i h1 ω
def Jm(C:i9 prog w A s κ a₀ ρ){st u:SortSt}{lo n b:Nat}{Q:Option Nat->SortSt->Prop}(f:lo+b<=a₀.size)(l:n+1<=b)(D:B κ a₀ st)(F:Pre lo u st)(G:qo ρ (arrOf st) lo (lo+(n+1)))(hg:Grp ρ τ (arrOf st) lo (n+1) 0)(h:nB κ a₀ ρ τ lo b u Q):wpS (model prog w) A E s (wj lo n b) Q st:=by
 unfold wj;refine wpS_bind (wpS_lift (wpAny_rule ⟨rfl,?_⟩));refine wpS_bind (NB C f ω l D F G hg fun m o c d p H q r hq e g=>?_);dsimp only;have hsz:lo+m<=(arrOf c).size:=by rw[d.size];(first|lia|omega)
 by_cases a:o>0
 ·rw[if_pos a]
  refine wpS_bind (DY (Jl C f ω q (d.setArr (mirror_perm _ _ _ _)) (p.trans (.mir hsz ω)) ?_ (g.turned hsz hq e) (g.tl.mir hsz (Ad _)) h));intro i j v x y;show R ρ (mirror (arrOf c) _ _ _) j<=R ρ (mirror (arrOf c) _ _ _) i;rw[zJ hsz e,zJ hsz e];exact r i j v x y
 ·rw[if_neg a]
  have z:o=0:=ω
  subst z;exact Jl C f ω q d p r g.one g.tl h
def NC(C:i9 prog w A s κ a₀ ρ){st:SortSt}{lo u:Nat}{Q:Option Nat->SortSt->Prop}(D:lo+u<=a₀.size)(h1:1<=u)(e:B κ a₀ st)(p:Tl τ (arrOf st) lo)(h:nB κ a₀ ρ τ lo u st Q):wpS (model prog w) A E s (countRun' lo u) Q st:=by
 rw[Nz];refine wpS_bind (Jk C D (Ad 1) h1 e (fun i j b o q=>?_) fun n G H x J=>?_)
 ·have:i=j:=ω
  subst this;exact Int.le_refl _
 dsimp only;have I:St ρ τ (arrOf st) lo (lo+n):=fun i j b o q _=>p i j o ω (by rw[e.size];(first|lia|omega))
 by_cases g:n=u
 ·rw[if_pos (by simpa using g)]
  exact wpS_pure (h n st e .refl G H x I (p.mono ω))
 ·rw[if_neg (by simpa using g)]
  have d:R ρ (arrOf st) (lo+n)<R ρ (arrOf st) (lo+n-1):=J.resolve_left g
  by_cases v:n>1
  ·rw[if_pos v]
   refine wpS_bind (wf C e ω ω ?_)
   by_cases c:R ρ (arrOf st) lo<R ρ (arrOf st) (lo+n-1)
   ·simp only[c,decide_true,if_true]
    exact wpS_pure (h n st e .refl G H x I (p.mono ω))
   ·simp only[c,decide_false,Bool.false_eq_true,if_false]
    have hsz:lo+n<=(arrOf st).size:=by rw[e.size];(first|lia|omega)
    have a:∀k,lo<=k->k<lo+n->R ρ (arrOf st) k=R ρ (arrOf st) (lo+n-1):=by
     intro k b hk;have a1:=x lo k ω b hk;have a2:=x k (lo+n-1) b ω ω;(first|lia|omega)
    refine wpS_bind (DY (Jm C D ω (e.setArr (mirror_perm _ _ _ _)) (.mir hsz (Ad _)) ?_ ⟨?_,?_,?_,?_⟩ h))
    ·intro i j b o q
     show R ρ (mirror (arrOf st) _ _ _) j<=R ρ (mirror (arrOf st) _ _ _) i;rw[zJ hsz a,zJ hsz a]
     by_cases F:j<lo+n
     ·rw[a i ω ω,a j ω F];exact Int.le_refl _
     ·have y:j=lo+n:=ω
      subst y
      by_cases l:i=lo+n
      ·subst l;exact Int.le_refl _
      ·rw[a i ω ω];exact Int.le_of_lt d
    ·rw[show lo+(n+1)-(0+1)=lo+n from ω]
     intro i j b o q _;show R τ (mirror (arrOf st) _ _ _) j<=R τ (mirror (arrOf st) _ _ _) i;rw[gx hsz,gx hsz,if_pos ω,if_pos ω];exact p _ _ ω ω ω
    ·intro i j h1 h2 L;(first|lia|omega)
    ·intro i b hi
     show R ρ (mirror (arrOf st) _ _ _) _<R ρ (mirror (arrOf st) _ _ _) i;rw[zJ hsz a,zJ hsz a,show lo+(n+1)-1=lo+n from ω,a i b ω];exact d
    ·exact(p.mono (show lo<=lo+n from ω)).mir hsz (Ad _)|>.mono ω
  ·rw[if_neg v]
   have r:n=1:=ω
   subst r;refine Jm C D ω e .refl ?_ ⟨?_,?_,?_,p.mono ω⟩ h
   ·intro i j b o q
    by_cases l:i=j
    ·subst l;exact Int.le_refl _
    ·have f:i=lo:=ω
     have z:j=lo+1:=ω
     subst f;subst z;exact Int.le_of_lt d
   ·intro i j b o q;(first|lia|omega)
   ·intro i j h1 h2 L;(first|lia|omega)
   ·intro i b hi
    have f:i=lo:=ω
    subst f;exact d
def ND(C:i9 prog w A s κ a₀ ρ){st:SortSt}{lo n ok:Nat}{Q:Bool->SortSt->Prop}(Z:lo+n<=a₀.size)(U:ok<=n)(um:1<=ok)(W:B κ a₀ st)(F:cu ρ (arrOf st) lo (lo+ok))(X:St ρ τ (arrOf st) lo (lo+ok))(Y:Tl τ (arrOf st) (lo+ok))(h:∀a,B κ a₀ a->Pre lo st a->cu ρ (arrOf a) lo (lo+n)->St ρ τ (arrOf a) lo (lo+n)->Q true a):wpS (model prog w) A E s (binarySort' lo n ok) Q st:=by
 rw[binarySort'_eq];refine wpS_bind (wpS_mono (wpS_forRange (I:=fun k c a=>c=(none,())/\B κ a₀ a/\Pre lo st a/\cu ρ (arrOf a) lo (lo+min k n)/\St ρ τ (arrOf a) lo (lo+min k n)/\Tl τ (arrOf a) (lo+min k n))
  (Q:=fun c a=>c=(none,())/\B κ a₀ a/\Pre lo st a/\cu ρ (arrOf a) lo (lo+n)/\St ρ τ (arrOf a) lo (lo+n)) ?step ?fin ?init) ?post)
 case post=>
  rintro c a ⟨rfl,o,v,f,g⟩;exact wpS_pure (h a o v f g)
 case init=>
  rw[show min (max ok 1) n=ok from ω];exact⟨rfl,W,.refl,F,X,Y⟩
 case fin=>
  rintro c a ⟨hc,o,v,f,g,_⟩;rw[show min (max (max ok 1) n) n=n from ω] at f g;exact⟨hc,o,v,f,g⟩
 case step=>
  rintro k c a Ci B8 ⟨rfl,o,v,f,g,y⟩;rw[show min k n=k from ω] at f g y;have hk:lo+k<a₀.size:=ω
  refine wpS_bind (wpS_mono (wpS_forRange (I:=fun x c b=>b=a/\∃l r,c=(none,l,r)/\l<=r/\r<=k/\r-l<=k-x/\
    (∀i,i<l->R ρ (arrOf a) (lo+i)<=R ρ (arrOf a) (lo+k))/\(∀i,r<=i->i<k->R ρ (arrOf a) (lo+k)<R ρ (arrOf a) (lo+i)))
   (Q:=fun c b=>b=a/\∃l r,c=(none,l,r)/\l<=k/\
    (∀i,i<l->R ρ (arrOf a) (lo+i)<=R ρ (arrOf a) (lo+k))/\(∀i,l<=i->i<k->R ρ (arrOf a) (lo+k)<R ρ (arrOf a) (lo+i))) ?istep ?ifin ?iinit) ?ipost)
  case iinit=>exact⟨rfl,0,k,rfl,ω,ω,ω,fun i hi=>ω,fun i h1 h2=>ω⟩
  case ifin=>
   rintro c b ⟨rfl,l,r,rfl,P,G,S,q,u⟩;have:l=r:=ω
   subst this;exact⟨rfl,l,l,rfl,G,q,u⟩
  case istep=>
   rintro x c b _ Cd ⟨rfl,l,r,rfl,P,G,S,q,u⟩;dsimp only
   by_cases z:l ≥ r
   ·rw[if_pos z]
    have:l=r:=ω
    subst this;exact wpS_pure ⟨rfl,l,l,rfl,G,q,u⟩
   ·rw[if_neg z]
    refine wpS_bind (wf C o hk ω ?_)
    by_cases e:R ρ (arrOf b) (lo+k)<R ρ (arrOf b) (lo+(l+r) / 2)
    ·simp only[e,decide_true,if_true]
     refine wpS_pure ⟨rfl,l,(l+r) / 2,rfl,ω,ω,ω,q,fun i h1 h2=>?_⟩;exact Int.lt_of_lt_of_le e (f _ _ ω ω ω)
    ·simp only[e,decide_false,Bool.false_eq_true,if_false]
     refine wpS_pure ⟨rfl,(l+r) / 2+1,r,rfl,ω,ω,ω,fun i h1=>?_,u⟩;exact Int.le_trans (f (lo+i) (lo+(l+r) / 2) ω ω ω) (Int.not_lt.mp e)
  case ipost=>
   rintro c b ⟨rfl,l,r,rfl,CW,q,u⟩;show wpS _ _ _ _ (do moveDown' (lo+k) (lo+l);pure (ForInStep.yield (none,()))) _ _;rw[moveDown'_eq];have p:lo+k<(arrOf b).size:=by rw[o.size];exact hk
   have T:∀i,lo<=i->i<lo+l->R ρ (arrOf b) i<=R ρ (arrOf b) (lo+k):=fun i h1 h2=>by
    have:=q (i-lo) ω;rwa [show lo+(i-lo)=i from ω] at this
   have M:∀i,lo+l<=i->i<lo+k->R ρ (arrOf b) (lo+k)<R ρ (arrOf b) i:=fun i h1 h2=>by
    have:=u (i-lo) ω ω;rwa [show lo+(i-lo)=i from ω] at this
   refine wpS_bind (wpS_modify (wpS_pure ⟨rfl,o.setArr (bubble_perm _ _ _),v.trans (.bub p ω ω),?_,?_,?_⟩))
   ·rw[show min (k+1) n=k+1 from ω]
    intro i j N D L;show R ρ (bubble (arrOf b) (lo+k) (lo+k-(lo+l))) i<=R ρ (bubble (arrOf b) (lo+k) (lo+k-(lo+l))) j;rw[qx p ω,qx p ω,show lo+k-(lo+k-(lo+l))=lo+l from ω]
    repeat' split
    all_goals first
     |(exfalso;(first|lia|omega))
     |exact Int.le_refl _
     |exact T _ ω ω
     |exact Int.le_of_lt (M _ ω ω)
     |exact f _ _ ω ω ω
   ·rw[show min (k+1) n=k+1 from ω]
    intro i j N D L O;have d:R ρ (bubble (arrOf b) (lo+k) (lo+k-(lo+l))) i=R ρ (bubble (arrOf b) (lo+k) (lo+k-(lo+l))) j:=O;show R τ (bubble (arrOf b) (lo+k) (lo+k-(lo+l))) i<=R τ (bubble (arrOf b) (lo+k) (lo+k-(lo+l))) j;rw[qx p ω,qx p ω,show lo+k-(lo+k-(lo+l))=lo+l from ω] at d ⊢
    by_cases i1:i=lo+l
    ·rw[if_pos i1,if_neg ω,if_pos ω] at d
     have:=M (j-1) ω ω;(first|lia|omega)
    ·by_cases i2:lo+l<i
     ·rw[if_neg i1,if_pos ω,if_neg ω,if_pos ω] at d ⊢
      exact g _ _ ω ω ω d
     ·by_cases J:j=lo+l
      ·rw[if_neg i1,if_neg ω,if_pos J] at d ⊢
       exact y _ _ ω ω ω
      ·by_cases j2:lo+l<j
       ·rw[if_neg i1,if_neg ω,if_neg J,if_pos ω] at d ⊢
        exact g _ _ ω ω ω d
       ·rw[if_neg i1,if_neg ω,if_neg J,if_neg ω] at d ⊢
        exact g _ _ ω ω ω d
   ·rw[show min (k+1) n=k+1 from ω]
    intro i j D L F;have H:j<(arrOf b).size:=by
     have:=(bubble_perm (arrOf b) (lo+k) (lo+k-(lo+l))).size_eq;have Cf:j<(bubble (arrOf b) (lo+k) (lo+k-(lo+l))).size:=F;(first|lia|omega)
    show R τ (bubble (arrOf b) (lo+k) (lo+k-(lo+l))) i<=R τ (bubble (arrOf b) (lo+k) (lo+k-(lo+l))) j;rw[qx p ω,qx p ω,show lo+k-(lo+k-(lo+l))=lo+l from ω,if_neg (show ¬j=lo+l from ω),if_neg (show ¬(lo+l<j/\j<=lo+k) from ω)];split
    ·exact y _ _ ω ω H
    ·split
     ·exact y _ _ ω ω H
     ·exact y _ _ D ω H
def NE(C:i9 prog w A s κ a₀ ρ){st:SortSt}{Q:Unit->SortSt->Prop}(H:B κ a₀ st)(hp:pendingOf st=#[])(h1:1<=a₀.size)(X:a₀.size<64)(Y:Tl τ (arrOf st) 0)(h:∀a,B κ a₀ a->cu ρ (arrOf a) 0 a₀.size->St ρ τ (arrOf a) 0 a₀.size->Q () a):wpS (model prog w) A E s sortRuns' Q st:=by
 rw[sortRuns'_eq];refine wpS_bind (wpS_get ?_);dsimp only;have U:minRun' a₀.size a₀.size 0=a₀.size:=by
  obtain⟨f,P⟩:∃f,a₀.size=f+1:=⟨a₀.size-1,ω⟩;have:minRun' (f+1) a₀.size 0=a₀.size:=by rw[minRun'_succ,if_pos X];rfl
  rwa [<-P] at this
 simp only[H.size,U];refine wpS_bind (wpS_mono (wpS_forRange
  (I:=fun x c a=>(x=0/\c=(none,0)/\B κ a₀ a/\pendingOf a=#[]/\Tl τ (arrOf a) 0)\/(1<=x/\c=(none,a₀.size)/\B κ a₀ a/\(pendingOf a).size<=1/\cu ρ (arrOf a) 0 a₀.size/\St ρ τ (arrOf a) 0 a₀.size))
  (Q:=fun c a=>c=(none,a₀.size)/\B κ a₀ a/\(pendingOf a).size<=1/\cu ρ (arrOf a) 0 a₀.size/\St ρ τ (arrOf a) 0 a₀.size) ?step ?fin (.inl ⟨rfl,rfl,H,hp,Y⟩)) ?post)
 case fin=>
  rintro c a (⟨hx,_,_⟩|⟨_,hc,r⟩)
  ·(first|lia|omega)
  ·exact⟨hc,r⟩
 case step=>
  rintro x c a _ hx (⟨rfl,rfl,u,g,v⟩|⟨Z,rfl,r⟩)
  ·dsimp only
   rw[if_neg ω];simp only[Nat.sub_zero,Nat.min_self];refine wpS_bind (NC C ω ω u v fun m j y P2 J m2 l o L=>?_);dsimp only;have tl:∀d,B κ a₀ d->pendingOf d=#[]->cu ρ (arrOf d) 0 a₀.size->St ρ τ (arrOf d) 0 a₀.size->B κ a₀ (setPending d ((pendingOf d).push (0,a₀.size,0)))/\(pendingOf (setPending d ((pendingOf d).push (0,a₀.size,0)))).size<=1/\cu ρ (arrOf (setPending d ((pendingOf d).push (0,a₀.size,0)))) 0 a₀.size/\St ρ τ (arrOf (setPending d ((pendingOf d).push (0,a₀.size,0)))) 0 a₀.size:=
    fun d b p q M=>⟨⟨b.perm,b.kind,b.failed⟩,by show((pendingOf d).push _).size<=1;rw[p];exact Ad 1,q,M⟩
   by_cases i:m<a₀.size
   ·rw[if_pos i]
    refine wpS_bind (wpS_lift (wpAny_rule ⟨rfl,?_⟩));refine wpS_bind (ND C ω m2 J y l o L fun d N P3 z D=>?_);simp only[Bool.not_true,Bool.false_eq_true,if_false];refine wpS_bind (wpS_get ?_);have F:pendingOf d=#[]:=by rw[P3.pend,P2.pend];exact g
    have hb:(pendingOf d).back?=none:=by rw[F];rfl
    rw[hb];dsimp only;simp only[Nat.zero_add] at z D ⊢;exact wpS_bind (wpS_modify (wpS_pure (.inr ⟨ω,rfl,tl d N F z D⟩)))
   ·rw[if_neg i]
    have W:m=a₀.size:=ω
    subst W;refine wpS_bind (wpS_get ?_);have G:pendingOf j=#[]:=by rw[P2.pend];exact g
    have hb:(pendingOf j).back?=none:=by rw[G];rfl
    rw[hb];dsimp only;simp only[Nat.zero_add] at l o ⊢;exact wpS_bind (wpS_modify (wpS_pure (.inr ⟨ω,rfl,tl j y G l o⟩)))
  ·dsimp only
   rw[if_pos (Ad _)];exact wpS_pure ⟨rfl,r⟩
 case post=>
  rintro c a ⟨rfl,u,S,T,ss⟩;dsimp only;refine wpS_bind (wpS_mono (wpS_forRange (I:=fun _ c e=>e=a/\c=(none,())) (Q:=fun c e=>e=a/\c=(none,())) ?_ (fun _ _ O=>O) ⟨rfl,rfl⟩) ?_)
  ·rintro x c e _ _ ⟨rfl,rfl⟩
   refine wpS_bind (wpS_get ?_);rw[if_pos S];exact wpS_pure ⟨rfl,rfl⟩
  ·rintro c e ⟨rfl,rfl⟩
   exact wpS_pure (h _ u T ss)
end
section
variable{prog:Program}{w:World}{A:Around}{E:Ω}{s:Shared}{κ:SortKind}{a₀:Array Keyed}{ρ:Keyed->Int}
def NF(C:i9 prog w A s κ a₀ ρ){st:SortSt}{Q:Unit->SortSt->Prop}(d:B κ a₀ st)(hp:pendingOf st=#[])(h1:1<=a₀.size)(e:a₀.size<64)(h:∀a,B κ a₀ a->cu ρ (arrOf a) 0 a₀.size->Q () a):wpS (model prog w) A E s sortRuns' Q st:=
 NE (τ:=fun _=>0) C d hp h1 e (fun i j _ _ _=>by unfold R;split<;>split<;>exact Int.le_refl _) fun a b c _=>h a b c
end
end Tim
end
section
namespace cu
open PySem PyProof.Rows HT
def Jn:∀a:List Int,lexLt a a=false
 |[]=>rfl
 |x::a=>by rw[vB,if_pos rfl];exact Jn a
def Gv:∀{a b c:List Int},lexLt a b=true->lexLt b c=true->lexLt a c=true
 |[],[],_,h,_=>by cases h
 |[],_::_,[],_,h=>by cases h
 |[],_::_,_::_,_,_=>rfl
 |_::_,[],_,h,_=>by cases h
 |_::_,_::_,[],_,h=>by cases h
 |x::a,y::b,z::c,h1,h2=>by
  rw[vB] at h1 h2 ⊢
  by_cases e1:x=y
  ·rw[if_pos e1] at h1
   by_cases e2:y=z
   ·rw[if_pos e2] at h2
    rw[if_pos (e1.trans e2)];exact Gv h1 h2
   ·rw[if_neg e2] at h2
    rw[if_neg ω];have:=of_decide_eq_true h2;exact decide_eq_true ω
  ·rw[if_neg e1] at h1
   have d:=of_decide_eq_true h1
   by_cases e2:y=z
   ·rw[if_neg ω]
    exact decide_eq_true ω
   ·rw[if_neg e2] at h2
    have e:=of_decide_eq_true h2;rw[if_neg ω];exact decide_eq_true ω
def Jo:∀{a b:List Int},lexLt a b=false->lexLt b a=false->a=b
 |[],[],_,_=>rfl
 |[],_::_,h,_=>by cases h
 |_::_,[],_,h=>by cases h
 |x::a,y::b,h1,h2=>by
  rw[vB] at h1 h2
  by_cases e:x=y
  ·subst e
   rw[if_pos rfl] at h1 h2;rw[Jo h1 h2]
  ·rw[if_neg e] at h1
   rw[if_neg (Ne.symm e)] at h2;have:=of_decide_eq_false h1;have:=of_decide_eq_false h2;(first|lia|omega)
def rk(ls:Ξ)(l:List Int):Int:=((ls.filter fun m=>lexLt m l).length:Nat)
def Jp{ls:Ξ}{l m:List Int}(f:l∈ls)(g:m∈ls):decide (rk ls l<rk ls m)=lexLt l m:=by
 have mono:∀{a b:List Int},(∀x,lexLt x a=true->lexLt x b=true)->∀k:Ξ,(k.filter fun x=>lexLt x a).length<=(k.filter fun x=>lexLt x b).length:=by
  intro a b d k
  induction k with
  |nil=>exact Ad _
  |cons x k ih=>
   rw[List.filter_cons,List.filter_cons]
   by_cases q:lexLt x a=true
   ·rw[if_pos q,if_pos (d x q),AL,AL];(first|lia|omega)
   ·rw[if_neg q]
    split
    ·rw[AL];(first|lia|omega)
    ·exact ih
 have c:∀{a b:List Int},(∀x,lexLt x a=true->lexLt x b=true)->lexLt a b=true->∀k:Ξ,a∈k->(k.filter fun x=>lexLt x a).length<(k.filter fun x=>lexLt x b).length:=by
  intro a b d h k
  induction k with
  |nil=>intro q;cases q
  |cons x k ih=>
   intro hk;rw[List.filter_cons,List.filter_cons];rcases List.mem_cons.mp hk with e|e
   ·subst e
    rw[if_neg (by rw[Jn];exact AJ),if_pos h,AL];have:=mono d k;(first|lia|omega)
   ·have:=ih e
    by_cases q:lexLt x a=true
    ·rw[if_pos q,if_pos (d x q),AL,AL];(first|lia|omega)
    ·rw[if_neg q]
     split
     ·rw[AL];(first|lia|omega)
     ·exact this
 unfold rk;cases q:lexLt l m with
 |true=>
  have:=c (a:=l) (b:=m) (fun x hx=>Gv hx q) q ls f;exact decide_eq_true ω
 |false=>
  have:=mono (a:=m) (b:=l) (fun x hx=>by
   cases z:lexLt x l with
   |true=>rfl
   |false=>
    cases z2:lexLt l x with
    |true=>rw[Gv z2 hx] at q;cases q
    |false=>rw[Jo z z2] at hx;rw[hx] at q;cases q) ls
  exact decide_eq_false ω
structure By(prog:Program)(w:World)(A:Around)(good:Heap->Prop)(us:List Value)(ls:Ξ):Prop where
 len:us.length=ls.length
 fn:∀(i j:Nat) u l m,us[i]?=some u->us[j]?=some u->ls[i]?=some l->ls[j]?=some m->l=m
 ask:2<=us.length->∃κ:SortKind,(∀(s:Shared)(Q:SortKind->Shared->Prop)(E:Ω),good s.heap->Q κ s->wpAny (model prog w) A (keyKind' us.toArray) Q E s)/\
  ∀(i j:Nat) u v l m,us[i]?=some u->us[j]?=some v->ls[i]?=some l->ls[j]?=some m->∀(s:Shared)(Q:Bool->Shared->Prop)(E:Ω),good s.heap->Q (lexLt l m) s->wpAny (model prog w) A (keyLt' κ u v) Q E s
open Classical in
noncomputable def qy(us:List Value)(ls:Ξ)(u:Value):List Int:=if h:∃l,∃i:Nat,us[i]?=some u/\ls[i]?=some l then h.choose else []
def wo{us:List Value}{ls:Ξ}(fn:∀(i j:Nat) u l m,us[i]?=some u->us[j]?=some u->ls[i]?=some l->ls[j]?=some m->l=m){i:Nat}{u:Value}{l:List Int}(h1:us[i]?=some u)(h2:ls[i]?=some l):qy us ls u=l:=by
 unfold qy;have h:∃l,∃i:Nat,us[i]?=some u/\ls[i]?=some l:=⟨l,i,h1,h2⟩;rw[dif_pos h];obtain⟨j,e1,e2⟩:=h.choose_spec;exact fn j i u _ l e1 h1 e2 h2
noncomputable def qB(us:List Value)(ls:Ξ)(p:Keyed):Int:=rk ls (qy us ls p.1)
section
variable{prog:Program}{w:World}{A:Around}{E:Ω}{s:Shared}{good:Heap->Prop}{us vs:List Value}{ls:Ξ}
def DZ(h:us.length=vs.length){p:Keyed}(hp:p∈(us.toArray.zip vs.toArray).toList):∃i:Nat,us[i]?=some p.1/\vs[i]?=some p.2:=by
 have e:(us.toArray.zip vs.toArray).toList=us.zip vs:=by simp
 rw[e] at hp;obtain⟨i,hi,e2⟩:=List.mem_iff_getElem.mp hp;rw[List.getElem_zip] at e2;rw[List.length_zip] at hi;refine⟨i,?_,?_⟩
 ·rw[Aa ω,<-e2]
 ·rw[Aa ω,<-e2]
def NG(B:By prog w A good us ls)(d:us.length=vs.length)(hg:good s.heap){κ:SortKind}(h2:2<=us.length)(o:us.length<64)(hk:∀(i j:Nat) u v l m,us[i]?=some u->us[j]?=some v->ls[i]?=some l->ls[j]?=some m->∀(s:Shared)(Q:Bool->Shared->Prop)(E:Ω),good s.heap->Q (lexLt l m) s->wpAny (model prog w) A (keyLt' κ u v) Q E s){Q:Unit->SortSt->Prop}(h:∀a,(arrOf a).Perm (us.toArray.zip vs.toArray)->failedOf a=none->Tim.cu (qB us ls) (arrOf a) 0 vs.length->Q () a):wpS (model prog w) A E s sortRuns' Q (SortSt.mk' κ (us.toArray.zip vs.toArray) #[] 7 none):=by
 have hz:(us.toArray.zip vs.toArray).size=vs.length:=by simp;(first|lia|omega)
 refine Tim.NF (κ:=κ) (a₀:=us.toArray.zip vs.toArray) (ρ:=qB us ls) ⟨fun x y hx hy f g hq=>?_⟩ ⟨Array.Perm.refl _,rfl,rfl⟩ rfl (by rw[hz];(first|lia|omega)) (by rw[hz];(first|lia|omega)) fun a b e=>h a b.perm b.failed (by rw[<-hz];exact e);obtain⟨i,e1,_⟩:=DZ d hx;obtain⟨j,e2,_⟩:=DZ d hy;have hi:i<ls.length:=by rw[<-B.len];exact(List.getElem?_eq_some_iff.mp e1).1
 have c:j<ls.length:=by rw[<-B.len];exact(List.getElem?_eq_some_iff.mp e2).1
 have f1:ls[i]?=some ls[i]:=Aa hi;have f2:ls[j]?=some ls[j]:=Aa c;refine hk i j _ _ _ _ e1 e2 f1 f2 s f g hg ?_;unfold qB at hq;rw[wo B.fn e1 f1,wo B.fn e2 f2,Jp (Ao hi) (Ao c)] at hq;exact hq
def dk{a b:Type}:∀(l:List a)(m:List b)(i:Nat),(l.zip m)[i]?=(l[i]?).bind fun x=>(m[i]?).map fun y=>(x,y)
 |[],m,i=>by simp
 |x::l,[],i=>by cases h:(x::l)[i]?<;>simp
 |x::l,y::m,0=>rfl
 |x::l,y::m,i+1=>by
  rw[List.zip_cons_cons,List.getElem?_cons_succ,List.getElem?_cons_succ,List.getElem?_cons_succ];exact dk l m i
def NH(B:By prog w A good us ls)(l:us.length=vs.length){xs:Array Keyed}(hp:xs.Perm (us.toArray.zip vs.toArray))(r:Tim.cu (qB us ls) xs 0 vs.length):∃ps:List (List Int×Value),ps.Perm (ls.zip vs)/\xs.toList.map (·.2)=ps.map (·.2)/\ps.Pairwise fun(a b:List Int×Value)=>HT.lexLt b.1 a.1=false:=by
 have pl:xs.toList.Perm (us.zip vs):=by
  have:=Array.perm_iff_toList_perm.mp hp
  simpa using this
 refine⟨xs.toList.map fun p=>(qy us ls p.1,p.2),?_,by rw[AT];rfl,?_⟩
 ·have e:(us.zip vs).map (fun p:Keyed=>(qy us ls p.1,p.2))=ls.zip vs:=by
   apply List.ext_getElem?;intro i;rw[Aj,dk,dk];cases e1:us[i]? with
   |none=>
    have:ls[i]?=none:=List.getElem?_eq_none (by rw[<-B.len];exact List.getElem?_eq_none_iff.mp e1);rw[this];rfl
   |some u=>
    have hi:i<ls.length:=by rw[<-B.len];exact(List.getElem?_eq_some_iff.mp e1).1
    have f1:ls[i]?=some ls[i]:=Aa hi;rw[f1];cases e2:vs[i]? with
    |none=>rfl
    |some v=>
     show some (qy us ls u,v)=some (ls[i],v);rw[wo B.fn e1 f1]
  rw[<-e];exact pl.map _
 ·rw[List.pairwise_map,List.pairwise_iff_getElem]
  intro i j hi h o;have hsz:xs.size=vs.length:=by
   have:=pl.length_eq;rw[Array.length_toList,List.length_zip] at this;(first|lia|omega)
  rw[Array.length_toList] at hi h;have q:=r i j (Ap _) (Nat.le_of_lt o) ω;have a1:xs[i]?=some xs[i]:=getElem?_pos xs i hi;have a2:xs[j]?=some xs[j]:=getElem?_pos xs j h;rw[Tim.jE a1,Tim.jE a2] at q;simp only[Array.getElem_toList];obtain⟨f,g1,_⟩:=DZ l (p:=xs[i]) (by
   have:=pl.mem_iff.mp (show xs[i]∈xs.toList by simp)
   simpa using this)
  obtain⟨g,g2,_⟩:=DZ l (p:=xs[j]) (by
   have:=pl.mem_iff.mp (show xs[j]∈xs.toList by simp)
   simpa using this)
  have c:f<ls.length:=by rw[<-B.len];exact(List.getElem?_eq_some_iff.mp g1).1
  have d:g<ls.length:=by rw[<-B.len];exact(List.getElem?_eq_some_iff.mp g2).1
  have f1:ls[f]?=some ls[f]:=Aa c;have f2:ls[g]?=some ls[g]:=Aa d;unfold qB at q;rw[wo B.fn g1 f1,wo B.fn g2 f2] at q ⊢;have:=Jp (ls:=ls) (Ao d) (Ao c);rw[<-this];exact decide_eq_false ω
end
end cu
end
section
namespace cu
open PySem PyProof.Rows PySem.W
section
variable{prog:Program}{w:World}{A:Around}{E:Ω}{s:Shared}{good:Heap->Prop}{us vs:List Value}{ls:Ξ}
def NI{ns:List Int}(hi:IntsAre us ns):By prog w A (fun _=>True) us (ns.map fun n=>[n]):=by
 have f:=hi.length;have a:∀(i:Nat) u l,us[i]?=some u->(ns.map fun n=>[n])[i]?=some l->∃n t,u=.int n t/\l=[n]:=fun i u l h1 h2=>by
  obtain⟨t,e⟩:=IntsAre.int_at hi i u h1;rw[Aj] at h2;cases e2:ns[i]? with
  |none=>rw[e2] at h2;cases h2
  |some n=>
   rw[e2] at h2;have e3:ns.getD i 0=n:=by rw[Ac,e2];rfl
   rw[e3] at e;exact⟨n,t,e,(AY h2).symm⟩
 refine⟨by rw[Ab,f],fun i j u l m h1 h2 c d=>?_,fun h2=>⟨oneType',fun s Q E _ hq=>?_,fun i j u v l m h1 h2 c d s Q E _ hq=>?_⟩⟩
 ·obtain⟨n,t,e1,rfl⟩:=a i u l h1 c
  obtain⟨b,t',e2,rfl⟩:=a j u m h2 d;rw[e1] at e2;cases e2
  rfl
 ·match us,hi,h2 with
  |[],_,h2=>simp at h2
  |[_],_,h2=>simp at h2
  |v₁::v₂::rest,hi,_=>
   rw[keyKind_ints hi];exact Aq hq
 ·obtain⟨n,t,rfl,rfl⟩:=a i u l h1 c
  obtain⟨b,t',rfl,rfl⟩:=a j v m h2 d;refine kat_lt_int ?_;have:HT.lexLt [n] [b]=decide (n<b):=by
   rw[HT.vB]
   by_cases e:n=b
   ·rw[if_pos e,HT.MI];exact(decide_eq_false ω).symm
   ·rw[if_neg e]
  rw[this] at hq;exact hq
def IsPr(h:Heap)(u:Value)(l:List Int):Prop:=∃(a b:Addr)(n:Int)(t:Tok)(c:List Value)(ps:List Int),u=.ref a/\l=n::ps/\IsTup h a #[.int n t,.ref b]/\IsTup h b c.toArray/\IntsAre c ps
def IsTup.inj{h:Heap}{a:Addr}{xs ys:Array Value}(h1:IsTup h a xs)(h2:IsTup h a ys):xs=ys:=by
 obtain⟨o,e,_,n,d⟩:=h1;obtain⟨o',b,_,c,d'⟩:=h2;rw[e] at b;cases b;rw[d] at d';injection d'
def IntsAre.inj{vs:List Value}{ns ms:List Int}(h:IntsAre vs ns)(g:IntsAre vs ms):ns=ms:=by
 induction h generalizing ms with
 |nil=>cases g;rfl
 |cons n t h ih=>cases g with|cons _ _ h'=>rw[ih h']
def IsPr.inj{h:Heap}{u:Value}{l m:List Int}(h1:IsPr h u l)(h2:IsPr h u m):l=m:=by
 obtain⟨a,b,n,t,c,ps,rfl,rfl,d,f,i1⟩:=h1;obtain⟨a',b',o,t',its',p,e,rfl,g,i,j⟩:=h2;cases e;have:=cu.IsTup.inj d g;cases this;have e2:=cu.IsTup.inj f i;have e3:c=its':=by simpa using e2
 subst e3;rw[IntsAre.inj i1 j]
end
def Out(ls:Ξ)(vs out:List Value):Prop:=∃ps:List (List Int×Value),ps.Perm (ls.zip vs)/\out=ps.map (·.2)/\ps.Pairwise fun(a b:List Int×Value)=>HT.lexLt b.1 a.1=false
section
variable{prog:Program}{w:World}{A:Around}{E:Ω}{s:Shared}{good:Heap->Prop}{us vs:List Value}{ls:Ξ}
def NJ(a:ls.length=vs.length)(b:us.length=vs.length)(h2:vs.length<2):Out ls vs ((us.toArray.zip vs.toArray).map (·.2)).toList:=by
 have e:((us.toArray.zip vs.toArray).map (·.2)).toList=vs:=by
  rw[Array.toList_map,show(us.toArray.zip vs.toArray).toList=us.zip vs by simp,List.map_snd_zip ω]
 rw[e];refine⟨ls.zip vs,List.Perm.refl _,by rw[List.map_snd_zip ω],?_⟩;have hz:(ls.zip vs).length<2:=by rw[List.length_zip];(first|lia|omega)
 match ls.zip vs,hz with
 |[],_=>exact List.Pairwise.nil
 |[x],_=>simp
 |_::_::_,h=>simp only[AL] at h;(first|lia|omega)
def NK(B:By prog w A good us ls)(c:us.length=vs.length)(g:vs.length<64)(hg:good s.heap){P:PySem.Fin->Shared->Prop}{G:Unit×SortSt->Sem PySem.Fin}(h:∀a,Out ls vs ((arrOf a).map (·.2)).toList->(arrOf a).size=vs.length->failedOf a=none->wpAny (model prog w) A (G (PUnit.unit,a)) P E s):wpAny (model prog w) A (if vs.toArray.size<2 then(pure general' >>= fun kind=>(if vs.toArray.size<2 then pure () else sortRuns').run (SortSt.mk' kind (us.toArray.zip vs.toArray) #[] 7 none) >>= G)
   else(keyKind' us.toArray >>= fun kind=>(if vs.toArray.size<2 then pure () else sortRuns').run (SortSt.mk' kind (us.toArray.zip vs.toArray) #[] 7 none) >>= G)) P E s:=by
 have b:(us.toArray.zip vs.toArray).size=vs.length:=by rw[Array.size_zip,AG,AG];(first|lia|omega)
 by_cases h2:vs.toArray.size<2
 ·rw[if_pos h2]
  refine Ag (Aq ?_);rw[if_pos h2];rw[StateT.run_pure];refine Ag (Aq ?_)
  try dsimp only
  rw[AG] at h2;exact h (SortSt.mk' general' (us.toArray.zip vs.toArray) #[] 7 none) (NJ (by rw[<-B.len];exact c) c h2) b rfl
 ·rw[if_neg h2,if_neg h2]
  rw[AG] at h2;obtain⟨κ,k1,k2⟩:=B.ask ω;refine Ag (k1 s _ E hg ?_);refine Ag (wpAny_mono (NG (Q:=fun _ a=>(arrOf a).Perm (us.toArray.zip vs.toArray)/\failedOf a=none/\Tim.cu (qB us ls) (arrOf a) 0 vs.length) B c hg ω ω k2 fun a a1 a2 a3=>⟨a1,a2,a3⟩) ?_ fun _ _ e=>e);rintro⟨⟨⟩,a⟩ s' ⟨rfl,hp,d,f⟩
  try dsimp only
  exact h a (by
   obtain⟨ps,a1,a2,a3⟩:=NH B c hp f;exact⟨ps,a1,by rw[Array.toList_map];exact a2,a3⟩) (by rw[hp.size_eq];exact b) d
def NL{a:Addr}{n:Nat}{P:PySem.Fin->Shared->Prop}(c:s.heap.get? a=some (seqObj "list" vs.toArray n))(B:By prog w A good vs ls)(hg:∀h',(∀b o,b≠a->s.heap.get? b=some o->h'.get? b=some o)->good h')(hz:vs.length<=sizeLine)(j:vs.length<64)(h:∀out:Array Value,Out ls vs out.toList->P (.done (.ret .none)) {s with heap:=sortedHeap s.heap a vs out}):wpAny (model prog w) A (Builtin.«list.sort» ⟨[.ref a],[]⟩) P E s:=by
 rw[list_sort_plain];have f:a<s⁻¹:=Au c;refine Ag (listItems_at c rfl ?_);refine Ag (listUpdate_at c rfl ?_ (by rw[AG];exact hz) (Ap _));obtain⟨e1,d⟩:∃e1,(s.heap.update a (Obj.mapSeq fun _=>#[])).get? a=some (seqObj "list" #[] e1):=⟨_,get?_update_seq c (fun _=>#[])⟩;refine Ag (seqEpoch_at d rfl ?_);refine Ag (wpAny_newTuple ?_ (by show vs.length<=_;exact hz));refine Ag (wpAny_newList ?_ (Ap _));refine wpAny_holding ?_;have g:(((s.heap.update a (Obj.mapSeq fun _=>#[])).push (seqObj "tuple" vs.toArray 0)).push (seqObj "list" #[] 0)).get? a=some (seqObj "list" #[] e1):=by
  rw[Heap.get?_push_ne _ _ _ (by rw[size_push',Heap.size_update];exact Az (Nat.lt_succ_of_lt f)),Heap.get?_push_ne _ _ _ (by rw[Heap.size_update];exact Az f)];exact d
 show wpAny (model prog w) A _ P E {s with heap:=((s.heap.update a (Obj.mapSeq fun _=>#[])).push (seqObj "tuple" vs.toArray 0)).push (seqObj "list" #[] 0)};dsimp only;refine NK (s:={s with heap:=((s.heap.update a (Obj.mapSeq fun _=>#[])).push (seqObj "tuple" vs.toArray 0)).push (seqObj "list" #[] 0)}) B rfl j (hg _ fun b o hb e=>Ai _ (Ai _ (by rw[Heap.get?_update_ne _ _ _ _ hb];exact e))) fun l c hsz i=>?_;dsimp only;refine Ag (seqEpoch_at g rfl ?_);refine Ag (listUpdate_at g rfl ?_ (Ap _) (Ae (Nat.le_of_eq ((Array.size_map ..).trans hsz)) (Nat.le_succ_of_le hz)));rw[i];simp only[bne_self_eq_false,Bool.false_eq_true,if_false];exact Aq (h _ c)
end
end cu
end
section
namespace L2
open PySem PySem.Spec PyProof.Rows
def jF(N N':List Str)(ai:List (Option Nat))(scope:Scope):Bool:=decide (ai.length=N'.length)&&(ai.zip N').all fun p=>match p.1 with
 |none=>true
 |some j=>decide (N[j]?=some p.2)&&decide (scope.names.lookup p.2=some .free)
def Jq{N N':List Str}{ai:List (Option Nat)}{scope:Scope}(h:jF N N' ai scope=true):p8 N N' ai scope:=by
 unfold jF at h;rw[Bool.and_eq_true,decide_eq_true_eq,Be] at h;refine⟨h.1,fun i j e=>?_⟩;have hi:i<ai.length:=(List.getElem?_eq_some_iff.mp e).1;have e2:N'[i]?=some N'[i]:=Aa (by rw[<-h.1];exact hi);have:=h.2 (some j,N'[i]) (List.mem_iff_getElem?.mpr ⟨i,by rw[cu.dk,e,e2];rfl⟩);simp only[Bool.and_eq_true,decide_eq_true_eq] at this;exact⟨N'[i],e2,this.1,this.2⟩
section
variable{X:Cx}{scope:Scope}{ai:List (Option Nat)}{tg iter aU:Expr}{aD:List Expr}{wi:TI}{g:TG}{tc:TT}{te:TE}{pos:Pos}
def zD(N N':List Str)(ai:List (Option Nat))(hi:PI X tg iter wi)(hg:∀a C s₀ H₀ ex,PG (eC X scope N' a C s₀ H₀ ex) tg g)(c:∀a C s₀ H₀ ex,i8 (eC X scope N' a C s₀ H₀ ex) aD tc)(d:∀a C s₀ H₀ ex,PE (eC X scope N' a C s₀ H₀ ex) aU te)(hc:X.calm=true:=by rfl)(hk:scope.kind=.function:=by rfl)(e:∀y∈scope.names,y.2≠.cell:=by decide +kernel)(f:∀y∈scope.names,y.2=.free->scope.names.lookup y.1=some .free:=by decide +kernel)(h:∀y∈scope.names,y.2=.local->scope.names.lookup y.1=some .local:=by decide +kernel)(hfr:∀y∈scope.names,y.2=.free->X.env.kindOf y.1=some .cell\/X.env.kindOf y.1=some .free)(i:X.N=N:=by rfl)(b:jF N N' ai scope=true:=by decide +kernel)(j:∀x,foldedSetIterable iter X.env x=pure x:=by intro _;rfl):PE X (.ListComp aU [⟨tg,iter,aD,0⟩] scope pos) (kX wi ai g tc te):=
 Ng hc hk e f h hfr (Jq (by rw[i];exact b)) hi hg c d j
end
def bC{env:Env}{scope:Scope}(h:scope.names.all (fun y=>decide (y.2≠.free))=true):∀y∈scope.names,y.2=.free->env.kindOf y.1=some .cell\/env.kindOf y.1=some .free:=fun y hy e=>
 absurd e (of_decide_eq_true (List.all_eq_true.mp h y hy))
def bD{env:Env}{scope:Scope}(sc:Scope)(h:scope.names.all (fun y=>decide (y.2≠.free)|| decide (sc.names.lookup y.1=some .cell)|| decide (sc.names.lookup y.1=some .free))=true)(a:env.scope=sc:=by rfl):∀y∈scope.names,y.2=.free->env.kindOf y.1=some .cell\/env.kindOf y.1=some .free:=fun y hy e=>by
 subst a;have:=List.all_eq_true.mp h y hy;simp only[Bool.or_eq_true,decide_eq_true_eq] at this;rcases this with (q|q)|q
 ·exact absurd e q
 ·exact .inl q
 ·exact .inr q
def a9(l:List Str)(h:l.Nodup:=by decide +kernel):l.Nodup:=h
def gz{te:TE}{σ:St}{H:Hp}{P:VK}{S:Hp->Prop}(h:te σ H P):bJ σ H fun b a=>if b=true then te σ a P else S a:=by
 show if true=true then te σ H P else S H;rw[if_pos rfl];exact h
def cQ{i:Nat}{v:V}{te:TE}{σ:St}{H:Hp}{P:St->VK}{S:St->Hp->Prop}(h:te (σ.set i (some v)) H (P (σ.set i (some v)))):zT i v σ H fun a d=>bJ a d fun b c=>if b=true then te a c (P a) else S a c:=gz (S:=S (σ.set i (some v))) h
def zB{J:It}{g:TG}{tc:TT}{te:TE}{σ:St}{H1:Hp}{Q:VK}{D:Addr}(h:cP J g tc te σ H1 D Q):cP J g tc te σ H1 D Q:=h
end L2
end
section
namespace K26
open PySem L2
def top(i:Nat):Stmt:=PySem.Challenge.pw_seamwright_k26_whole_leaves.main.body.getD i (.Pass ⟨0,0,0,0⟩)
end K26
end
section
namespace L2
open PySem PySem.Spec PyProof.Rows
section
variable{X:Cx}{scope:Scope}{N':List Str}{ai:List (Option Nat)}{tg iter aU:Expr}{aD:List Expr}{wi:TI}{g:TG}{tc:TT}{te:TE}{pos:Pos}
def NM{i:Nat}{x:Str}{az E:Pos}(hc:X.calm=true)(hk:scope.kind=.function)(G:∀y∈scope.names,y.2=.cell->scope.names.lookup y.1=some .cell)(Q:∀y∈scope.names,y.2=.free->scope.names.lookup y.1=some .free)(S:∀y∈scope.names,y.2=.local->scope.names.lookup y.1=some .local)(hfr:∀y∈scope.names,y.2=.free->X.env.kindOf y.1=some .cell\/X.env.kindOf y.1=some .free)(j:p8 X.N N' ai scope)(hi:PI X tg iter wi)(hg:∀d C s₀ H₀ ex,PG (cxD X scope N' d C s₀ H₀ ex) tg g)(T:∀d C s₀ H₀ ex,i8 (cxD X scope N' d C s₀ H₀ ex) aD tc)(U:∀d C s₀ H₀ ex,PE (cxD X scope N' d C s₀ H₀ ex) aU te)(W:∀x,foldedSetIterable iter X.env x=pure x)(Y:X.N.Nodup)(r:X.N[i]?=some x)(hx:Loc X.env.scope x)(Z:X.fn x=true\/X.env.scope.names.lookup x=some .local)(io:swapsWith (.ListComp aU [⟨tg,iter,aD,0⟩] scope pos) (some (.Name x az)) E.line X.env=pure true):PS X (.Assign [.Name x az] (.ListComp aU [⟨tg,iter,aD,0⟩] scope pos) E) (ik (kX wi ai g tc te) (zT i)):=by
 intro aa s σ H D I h;rw[exec_Assign_Name_used _ _ _ _ io];refine Ag (wpAny_standAt (Ag ?_));show wpAny _ X.A (do let _ <-comprehension (.ListComp aU [⟨tg,iter,aD,0⟩] scope pos) scope X.env _ (newList []) (firstAsync [⟨tg,iter,aD,0⟩]) (firstIter [⟨tg,iter,aD,0⟩] X.env) (some (assign (.Name x az) X.env))) _ _ s;refine Ag (wpAny_mono (Ja (use:=some (assign (.Name x az) X.env)) (R:=fun _ s'=>SP X aa D .next s') hc hk G Q S hfr j hi hg T U W I h fun F C H' w f L q=>?_) (fun _ s' hq=>Aq (Aq hq)) fun _ _ e=>e);show wpAny _ X.A (assign (.Name x az) X.env (.ref F)) _ _ w;refine wpAny_assign_Name (Is (v:=.ref F) (L.back w.heap (Heap.SameBut.refl _ _)) Y r hx rfl (fun J I5 ⟨a,p,M⟩=>?_) Z);have P:C≠a:=by
  rcases M with e|e
  ·rw[e];exact L.nl
  ·exact fun z=>L.nc x a e z.symm
 obtain⟨m,O⟩:=L.ns;refine⟨m,O.sameBut p P,fun h' l=>⟨_,H',?_,q⟩⟩;refine I5.call' (s':={J with heap:=h'}) (ch:=[C]) rfl ⟨fun b o q n hb hx=>?_,fun b o q n hb hx=>?_,fun b o q n hx=>n,fun b o q hx=>?_,fun b xs q=>q,fun b o u q=>q,fun b ps q=>⟨#[],by simpa using q⟩⟩ ?_ I5.bare fun b hb=>?_
 ·exact(l.2 b (by simpa using hx)).trans q
 ·exact⟨o.slots,(l.2 b (by simpa using hx)).trans q⟩
 ·exact⟨o,(l.2 b (by simpa using hx)).trans q⟩
 ·intro b u e
  refine(I5.hok b u e).stay (fun c v hc q=>(l.2 c ?_).trans q) (fun _ q=>q) fun _ _ q=>q;rintro rfl;rcases hc with z|z
  ·rw[<-z,L.no] at e;cases e
  ·rw[L.no] at z;cases z
 ·have e:b=C:=by simpa using hb
  subst e;exact⟨.inr L.far,L.nl,L.nc,L.np⟩
def NN{i:Nat}{x:Str}{az f:Pos}(hc:X.calm=true)(hk:scope.kind=.function)(c:∀y∈scope.names,y.2≠.cell)(h:∀y∈scope.names,y.2=.free->scope.names.lookup y.1=some .free)(j:∀y∈scope.names,y.2=.local->scope.names.lookup y.1=some .local)(hfr:∀y∈scope.names,y.2=.free->X.env.kindOf y.1=some .cell\/X.env.kindOf y.1=some .free)(b:p8 X.N N' ai scope)(hi:PI X tg iter wi)(hg:∀a C s₀ H₀ ex,PG (eC X scope N' a C s₀ H₀ ex) tg g)(l:∀a C s₀ H₀ ex,i8 (eC X scope N' a C s₀ H₀ ex) aD tc)(o:∀a C s₀ H₀ ex,PE (eC X scope N' a C s₀ H₀ ex) aU te)(p:∀x,foldedSetIterable iter X.env x=pure x)(q:X.N.Nodup)(d:X.N[i]?=some x)(hx:Loc X.env.scope x)(r:X.fn x=true\/X.env.scope.names.lookup x=some .local)(s:swapsWith (.ListComp aU [⟨tg,iter,aD,0⟩] scope pos) (some (.Name x az)) f.line X.env=pure true):PS X (.Assign [.Name x az] (.ListComp aU [⟨tg,iter,aD,0⟩] scope pos) f) (ik (kX wi ai g tc te) (zT i)):=
 NM hc hk (fun y hy e=>absurd e (c y hy)) h j hfr b hi (fun a C s₀ H₀ ex=>p9 (X:=X) (N':=N') c a C s₀ H₀ ex▸hg a C s₀ H₀ ex) (fun a C s₀ H₀ ex=>p9 (X:=X) (N':=N') c a C s₀ H₀ ex▸l a C s₀ H₀ ex) (fun a C s₀ H₀ ex=>p9 (X:=X) (N':=N') c a C s₀ H₀ ex▸o a C s₀ H₀ ex) p q d hx r s
end
section
variable{X:Cx}{scope:Scope}{ai:List (Option Nat)}{tg iter aU:Expr}{aD:List Expr}{wi:TI}{g:TG}{tc:TT}{te:TE}{pos:Pos}
def i'{i:Nat}{x:Str}{az d:Pos}(e:X.N.Nodup)(c:X.N[i]?=some x)(hx:Loc X.env.scope x)(N N':List Str)(ai:List (Option Nat))(hi:PI X tg iter wi)(hg:∀a C s₀ H₀ ex,PG (eC X scope N' a C s₀ H₀ ex) tg g)(f:∀a C s₀ H₀ ex,i8 (eC X scope N' a C s₀ H₀ ex) aD tc)(h:∀a C s₀ H₀ ex,PE (eC X scope N' a C s₀ H₀ ex) aU te)(hc:X.calm=true:=by rfl)(hk:scope.kind=.function:=by rfl)(j:∀y∈scope.names,y.2≠.cell:=by decide +kernel)(l:∀y∈scope.names,y.2=.free->scope.names.lookup y.1=some .free:=by decide +kernel)(o:∀y∈scope.names,y.2=.local->scope.names.lookup y.1=some .local:=by decide +kernel)(hfr:∀y∈scope.names,y.2=.free->X.env.kindOf y.1=some .cell\/X.env.kindOf y.1=some .free)(p:X.N=N:=by rfl)(b:jF N N' ai scope=true:=by decide +kernel)(q:∀x,foldedSetIterable iter X.env x=pure x:=by intro _;rfl)(r:X.fn x=true\/X.env.scope.names.lookup x=some .local:=by first|exact .inl rfl|exact .inr rfl|assumption)(s:swapsWith (.ListComp aU [⟨tg,iter,aD,0⟩] scope pos) (some (.Name x az)) d.line X.env=pure true:=by rfl):PS X (.Assign [.Name x az] (.ListComp aU [⟨tg,iter,aD,0⟩] scope pos) d) (ik (kX wi ai g tc te) (zT i)):=
 NN hc hk j l o hfr (Jq (by rw[p];exact b)) hi hg f h q e c hx r s
end
end L2
end
section
namespace K26
open PySem L2
abbrev wp:Stmt:=top 7
abbrev k5:Stmt:=top 8
abbrev qD:Stmt:=top 9
def dt:A8 "len"=some (.builtin "len"):=δ
def qG:A8 "all"=some (.builtin "all"):=δ
abbrev Rws(H:Hp)(rs:List Addr)(tb:Ξ):Prop:=Paired (fun a ns=>H a=some (.lst (ns.map V.int))) rs tb
def wid(tb:Ξ):Nat:=(tb[0]?.map List.length).getD 0
def bW(tb:Ξ):Bool:=decide (tb.length<=40)&&decide (wid tb<=40)&&tb.all fun r=>decide (r.length=wid tb)
def Rws.same{H H2:Hp}{rs:List Addr}{tb:Ξ}(h:Rws H rs tb)(s:Same H H2):Rws H2 rs tb:=Paired.mapP h fun _ _ e=>s _ _ e
def Rws.len{H:Hp}{rs:List Addr}{tb:Ξ}(h:Rws H rs tb):rs.length=tb.length:=by
 induction h with
 |nil=>rfl
 |cons _ _ ih=>rw[AL,AL,ih]
def Rws.get{H:Hp}{rs:List Addr}{tb:Ξ}(h:Rws H rs tb):∀{j:Nat}{a:Addr},rs[j]?=some a->∃ns,tb[j]?=some ns/\H a=some (.lst (ns.map V.int)):=by
 induction h with
 |nil=>intro j a e;simp at e
 |cons r t ih=>
  intro j a e;cases j with
  |zero=>simp at e;subst e;exact⟨_,rfl,r⟩
  |succ j=>simpa using ih (by simpa using e)
def zE{n:Nat}(h:n<=100000):n<=sizeLine:=by rw[sizeLine_eq];(first|lia|omega)
def Bp{a:Type}{l:List a}{i:Nat}{x:a}(h:l[i]?=some x):l.take (i+1)=l.take i++[x]:=by rw[List.take_add_one,h];rfl
abbrev Gx(K:Ah):List V->Hp->VK->Prop:=fun xs H Q=>∃p ys,xs=[.ref p]/\(SqL K H p ys\/SqT K H p ys)/\Q (.int ys.length) H
def ja{b:List Addr}{i:Nat}{x:V}(h:(b.map V.ref)[i]?=some x):∃a,b[i]?=some a/\x=.ref a:=by
 rw[Aj] at h;cases e:b[i]? with
 |none=>rw[e] at h;cases h
 |some a=>rw[e] at h;cases h;exact⟨a,rfl,rfl⟩
section
variable{P:Program}{w:World}{K:Ah}{mg:Str->Option Value}{base:Heap}
def D0{H2:Hp}{L D:Addr}{rs:List Addr}{tb:Ξ}{Q:VK}{f:Type}{mkV:f->V}{g:List Int->f}{te:TE}{c:List (Option V)}(u:∀(o:Addr)(os:List Int)(H:Hp)(R:VK),Same H2 H->H o=some (.lst (os.map V.int))->os∈tb->(∀H',Same H H'->R (mkV (g os)) H')->te (some (.ref o)::c) H R)(w:SqL K H2 L (rs.map V.ref))(h:Rws H2 rs tb)(hz:tb.length<=1000)(i:H2 D=none)(k:∀b,Same H2 b->b D=some (.lst ((tb.map g).map mkV))->Q (.ref D) b):cP (eU K L) (zT 0) bJ te (none::c) H2 D Q:=by
 have r:=h.len;refine jB (xs:=rs.map V.ref) (fun j σ ys b=>∃(v:Option V),σ=v::c/\Same H2 b/\b D=some (.lst ys)/\ys=((tb.take j).map g).map mkV) ?_ ?_ ?_ ?_
 ·exact⟨none,rfl,Same.new i,af,rfl⟩
 ·rintro j σ ys b ⟨v,rfl,sm,a,rfl⟩
  exact sm.seq w
 ·rintro j σ ys b x hx l hy ⟨v,rfl,sm,a,rfl⟩
  obtain⟨o,p,rfl⟩:=ja hx;obtain⟨os,e,q⟩:=h.get p;have s:(rs.map V.ref).length<=sizeLine:=by rw[Ab];exact zE (by lia)
  refine cQ ?_;refine u o os b _ sm (sm _ _ q) (Am e) fun y d=>bK s l hy (d _ _ a) ⟨_,rfl,(sm.trans d).then i,af,?_⟩;rw[Bp e,Aw,Aw]
  rfl
 ·rintro σ ys b ⟨v,rfl,sm,a,rfl⟩
  rw[Ab,r,Av (Ad _)] at a;exact k b sm a
def nD(K:Ah):Sp:=fun vs H Q _=>∃L rs tb,vs=[.ref L]/\SqL K H L (rs.map V.ref)/\Rws H rs tb/\Q (.int (wid tb)) H
def NO:zo ["table"] ["table"] (zf k5):=⟨rfl,rfl,rfl,δ,rfl,δ,δ⟩
def Gy{f:Addr}{fd:FuncData}(F:Fun K "width_of" "width_of" k5 f fd)(bl:mg "len"=none):al P w K mg base aG 1 f fd ["table"] (nD K):=by
 refine F.ok NO (fun vs H Q E h=>?_) (fun l A outer s H vs Q E hr h=>?_)
 ·obtain⟨L,rs,tb,rfl,_⟩:=h;rfl
 ·obtain⟨L,rs,tb,rfl,c,d,k⟩:=h
  refine⟨_,zh (zq (p4 (zy jA (zn zm rfl bl dt (za (pv 0) zb)) zd (ap _)) (zn zm rfl bl dt (za (zx zt (pv 0) zd (fun _ _=>rfl)) zb)) zd)),?_⟩;refine⟨_,rfl,L,_,rfl,.inl c,_,_,rfl,rfl,_,rfl,?_⟩;have i:=d.len;refine eA (fun h1=>?_) (fun h1=>?_)
  ·cases rs with
   |nil=>have:=of_decide_eq_true h1;simp at this
   |cons a r=>
    obtain⟨ns,e,g⟩:=d.get (j:=0) rfl;refine⟨_,rfl,L,_,_,_,rfl,rfl,c,zj (j:=0) rfl,a,_,rfl,.inl (SqL.of g),?_⟩;have:wid tb=ns.length:=by unfold wid;rw[e];rfl
    rw[this] at k;rw[Ab];exact k
  ·cases rs with
   |cons a r=>have:=of_decide_eq_false (Bool.eq_false_iff.mpr h1);simp at this
   |nil=>
    cases tb with
    |nil=>exact k
    |cons a b=>cases i
def Jr(K:Ah):Sp:=fun vs H Q _=>∃L rs tb,vs=[.ref L]/\SqL K H L (rs.map V.ref)/\Rws H rs tb/\tb.length<=1000/\∀H',Same H H'->Q (.bl (bW tb)) H'
def NP:zo ["table"] ["table"] (zf wp):=⟨rfl,rfl,rfl,δ,rfl,δ,δ⟩
abbrev Gz(K:Ah):TE:=cn IA (mR (Gx K) (b_ (ar 0) bE)) (gp (nD K) [] E0 (b_ (ar 1) bE))
def NQ{f d:Addr}{fd j:FuncData}(F:Fun K "is_table" "is_table" wp f fd)(bl:mg "len"=none)(J:mg "all"=none){M tc:Tok}(N:mg "MOST_ROWS"=some (.int 40 M))(O:mg "MOST_COLUMNS"=some (.int 40 tc))(Fw:Fun K "width_of" "width_of" k5 d j)(p:Binds K j ["table"] [])(q:mg "width_of"=some (.ref d)):al P w K mg base aG 2 f fd ["table"] (Jr K):=by
 have u:al P w K mg base aG 1 d j ["table"] (nD K):=Gy Fw bl;refine F.ok NP (fun vs H Q E h=>?_) (fun T A outer s H vs Q E hr h=>?_)
 ·obtain⟨L,rs,tb,rfl,_⟩:=h;rfl
 ·obtain⟨L,rs,tb,rfl,a,b,hz,k⟩:=h
  refine⟨_,zc (cF (PW.pt (DE (zy jA (zn zm rfl bl dt (za (pv 0) zb)) (Iw (v:=.int 40) rfl N ⟨_,rfl⟩) (ap _))
    (DD (zy jA (ze u hr rfl q Fw.kp p .nil ag (za (pv 0) zb)) (Iw (v:=.int 40) rfl O ⟨_,rfl⟩) (ap _))))) (zh (zq jx)) zR)
   (zh (zq (zn (qh rfl) rfl J qG (za (zD ["table"] ["row","table"] [none,some 0] (zM (pv 0)) (fun l C s₀ H₀ ex=>zk (i:=0) (a9 ["row","table"]) rfl (Or.inl rfl)) (fun l C s₀ H₀ ex=>zC)
    (fun l C s₀ H₀ ex=>mP hH (zn zm rfl bl dt (za (pv 0) zb)) (ze u hr rfl q Fw.kp p .nil ag (za (pv 1) zb)) (ap _)) (te:=Gz K) (hfr:=bD (zf wp) δ)) zb)))),?_⟩
  have I:=b.len;refine⟨_,rfl,L,_,rfl,.inl a,_,_,rfl,rfl,_,rfl,?_⟩;rw[Ab,I]
  by_cases c1:40<tb.length
  ·rw[decide_eq_true (show(40:Int)<(tb.length:Int) from ω)]
   refine aV (aV ?_);have:bW tb=false:=by unfold bW;rw[decide_eq_false ω];rfl
   rw[this] at k;exact k H (Same.refl H)
  rw[decide_eq_false (show ¬(40:Int)<(tb.length:Int) from ω)];refine aP ⟨_,rfl,L,rs,tb,rfl,a,b,_,_,rfl,rfl,_,rfl,?_⟩
  by_cases U:40<wid tb
  ·rw[decide_eq_true (show(40:Int)<(wid tb:Int) from ω)]
   refine aV ?_;have:bW tb=false:=by unfold bW;rw[decide_eq_false (show ¬wid tb<=40 from ω),Bool.and_false];rfl
   rw[this] at k;exact k H (Same.refl H)
  rw[decide_eq_false (show ¬(40:Int)<(wid tb:Int) from ω)];refine aP ⟨_,rfl,L,rfl,⟨_,a⟩,fun D x=>?_⟩;refine zB (D0 (mkV:=V.bl) (g:=fun r=>decide (r.length=wid tb)) (fun o os H' R sm y _ z=>?_) a b hz x fun S G c=>?_)
  ·refine⟨_,rfl,o,_,rfl,.inl (SqL.of y),_,rfl,L,rs,tb,rfl,sm.seq a,b.same sm,rfl,?_⟩
   rw[Ab];have:=z H' (Same.refl H');rw[show decide (V.int (os.length:Int)=V.int (wid tb:Int))=decide (os.length=wid tb) from by rw[Bool.eq_iff_iff];simp;(first|lia|omega)];exact this
  ·refine⟨D,_,rfl,SqL.of c,?_⟩
   have e:bW tb=(tb.map fun r=>decide (r.length=wid tb)).all id:=by
    unfold bW;rw[decide_eq_true (show tb.length<=40 from ω),decide_eq_true (show wid tb<=40 from ω),List.all_map];rfl
   rw[e] at k;exact k S G
end
abbrev wt:Stmt:=top 10
abbrev D3:Stmt:=top 11
abbrev nH:Stmt:=top 13
abbrev qL:Stmt:=top 14
abbrev iB:Stmt:=top 15
section
variable{P:Program}{w:World}{K:Ah}{mg:Str->Option Value}{base:Heap}
def NR:zo ["table"] ["table"] (zf qD):=⟨rfl,rfl,rfl,δ,rfl,δ,δ⟩
end
def Rws.upd{H:Hp}{ds:List Addr}{tb:Ξ}{D:Addr}{o:HO}(h:Rws H ds tb):(∀d∈ds,d≠D)->Rws (upd H D o) ds tb:=by
 induction h with
 |nil=>intro _;exact .nil
 |cons r t ih=>intro n;exact .cons (by rw[am (n _ (AI))];exact r) (ih fun d hd=>n d (AM _ hd))
def Rws.snoc{H:Hp}{ds:List Addr}{tb:Ξ}{d:Addr}{ns:List Int}(h:Rws H ds tb)(e:H d=some (.lst (ns.map V.int))):Rws H (ds++[d]) (tb++[ns]):=by
 induction h with
 |nil=>exact .cons e .nil
 |cons r t ih=>exact .cons r ih
def Rws.there{H:Hp}{ds:List Addr}{tb:Ξ}(h:Rws H ds tb):∀d∈ds,H d≠none:=by
 induction h with
 |nil=>intro d hd;cases hd
 |cons r t ih=>
  intro d hd;rcases List.mem_cons.mp hd with rfl|hd
  ·rw[r];simp
  ·exact ih d hd
section
variable{P:Program}{w:World}{K:Ah}{mg:Str->Option Value}{base:Heap}
def GA{H2 c p:Hp}{D d:Addr}{ds:List Addr}{l:Ξ}{ns:List Int}(sm:Same H2 c)(hr:Rws c ds l)(s:ds.Nodup)(u:∀e∈ds,H2 e=none/\e≠D)(v:Same c p)(hd:c d=none)(j:c D≠none)(w:p d=some (.lst (ns.map V.int))){o:HO}:Rws (L2.upd p D o) (ds++[d]) (l++[ns])/\(ds++[d]).Nodup/\∀e∈ds++[d],H2 e=none/\e≠D:=by
 have g:H2 d=none:=by
  cases q:H2 d with
  |none=>rfl
  |some o=>rw[sm _ _ q] at hd;cases hd
 have i:d≠D:=fun z=>j (z▸hd);have all:∀e∈ds++[d],H2 e=none/\e≠D:=fun e f=>by
  rcases List.mem_append.mp f with h|h
  ·exact u e h
  ·obtain rfl:e=d:=by simpa using h
   exact⟨g,i⟩
 refine⟨((hr.same v).snoc w).upd fun e f=>(all e f).2,?_,all⟩;rw[List.nodup_append];refine⟨s,by simp,fun a r b hb=>?_⟩;obtain rfl:b=d:=by simpa using hb
 intro z;exact hr.there a r (z▸hd)
def ww{H2:Hp}{L D:Addr}{rs:List Addr}{tb:Ξ}{Q:VK}{g:List Int->List Int}{te:TE}{c:List (Option V)}(A:∀(o:Addr)(os:List Int)(H:Hp)(R:VK),Same H2 H->H o=some (.lst (os.map V.int))->os∈tb->(∀d H',Same H H'->H d=none->H' d=some (.lst ((g os).map V.int))->R (.ref d) H')->te (some (.ref o)::c) H R)(C:SqL K H2 L (rs.map V.ref))(l:Rws H2 rs tb)(hz:tb.length<=1000)(p:H2 D=none)(k:∀a ds,Same H2 a->a D=some (.lst (ds.map V.ref))->Rws a ds (tb.map g)->ds.Nodup->(∀d∈ds,H2 d=none/\d≠D)->Q (.ref D) a):cP (eU K L) (zT 0) bJ te (none::c) H2 D Q:=by
 have y:=l.len;refine jB (xs:=rs.map V.ref) (fun j σ ys a=>∃(v:Option V)(ds:List Addr),σ=v::c/\Same H2 a/\a D=some (.lst ys)/\ys=ds.map V.ref/\Rws a ds ((tb.take j).map g)/\ds.Nodup/\∀d∈ds,H2 d=none/\d≠D) ?_ ?_ ?_ ?_
 ·exact⟨none,[],rfl,Same.new p,af,rfl,.nil,.nil,fun d hd=>by cases hd⟩
 ·rintro j σ ys a ⟨v,ds,rfl,sm,_⟩
  exact sm.seq C
 ·rintro j σ ys a x hx r hy ⟨v,ds,rfl,sm,b,rfl,hr,f,h⟩
  obtain⟨o,s,rfl⟩:=ja hx;obtain⟨os,i,u⟩:=l.get s;have z:(rs.map V.ref).length<=sizeLine:=by rw[Ab];exact zE ω
  refine cQ ?_;refine A o os a _ sm (sm _ _ u) (Am i) fun d E e hd q=>?_;obtain⟨r1,r2,w⟩:=GA (D:=D) (o:=.lst (ds.map V.ref++[.ref d])) sm hr f h e hd (by rw[b];simp) q;refine bK z r hy (e _ _ b) ⟨_,ds++[d],rfl,(sm.trans e).then p,af,by simp,?_,r2,w⟩;rw[Bp i,Aw];exact r1
 ·rintro σ ys a ⟨v,ds,rfl,sm,b,rfl,hr,f,h⟩
  rw[Ab,y,Av (Ad _)] at hr;exact k a ds sm b hr f h
def GB{H2:Hp}{D:Addr}{n:Nat}{Q:VK}{g:Nat->List Int}{te:TE}{c:List (Option V)}(s:∀(j:Nat)(H:Hp)(R:VK),j<n->Same H2 H->(∀d H',Same H H'->H d=none->H' d=some (.lst ((g j).map V.int))->R (.ref d) H')->te (some (.int j)::c) H R)(hz:n<=1000)(p:H2 D=none)(k:∀a ds,Same H2 a->a D=some (.lst (ds.map V.ref))->Rws a ds ((Af n).map g)->ds.Nodup->(∀d∈ds,H2 d=none/\d≠D)->Q (.ref D) a):cP (i0 0 n) (zT 0) bJ te (none::c) H2 D Q:=by
 refine DW (fun j σ ys a=>∃(v:Option V)(ds:List Addr),σ=v::c/\Same H2 a/\a D=some (.lst ys)/\ys=ds.map V.ref/\Rws a ds (((Af n).take j).map g)/\ds.Nodup/\∀d∈ds,H2 d=none/\d≠D) ?_ ?_ ?_
 ·exact⟨none,[],rfl,Same.new p,af,rfl,.nil,.nil,fun d hd=>by cases hd⟩
 ·rintro j σ ys a h hy ⟨v,ds,rfl,sm,b,rfl,hr,i,l⟩
  have e:(Af n)[j]?=some j:=AH h;refine cQ ?_;rw[show(0:Int)+((j:Nat):Int)=((j:Nat):Int) from ω];refine s j a _ h sm fun d u f hd q=>?_;obtain⟨r1,r2,r⟩:=GA (D:=D) (o:=.lst (ds.map V.ref++[.ref d])) sm hr i l f hd (by rw[b];simp) q;refine bK (zE ω) h hy (f _ _ b) ⟨_,ds++[d],rfl,(sm.trans f).then p,af,by simp,?_,r2,r⟩;rw[Bp e,Aw];exact r1
 ·rintro σ ys a ⟨v,ds,rfl,sm,b,rfl,hr,i,l⟩
  rw[Av (by simp)] at hr;exact k a ds sm b hr i l
def colAt(tb:Ξ)(k:Nat):List Int:=tb.map fun r=>r.getD k 0
def GC(K:Ah):Sp:=fun vs H Q _=>∃L rs tb,∃k:Nat,vs=[.ref L,.int k]/\SqL K H L (rs.map V.ref)/\Rws H rs tb/\tb.length<=1000/\(∀r∈tb,k<r.length)/\∀D H',Same H H'->H D=none->H' D=some (.lst ((colAt tb k).map V.int))->Q (.ref D) H'
def NS:zo ["table","k"] ["table","k"] (zf iB):=⟨rfl,rfl,rfl,δ,rfl,δ,δ⟩
def NU{f:Addr}{fd:FuncData}(F:Fun K "column_of" "column_of" iB f fd):al P w K mg base aG 1 f fd ["table","k"] (GC K):=by
 refine F.ok NS (fun vs H Q E h=>?_) (fun z A outer s H vs Q E hr h=>?_)
 ·obtain⟨L,rs,tb,i,rfl,_⟩:=h;rfl
 ·obtain⟨L,rs,tb,i,rfl,e,x,hz,hi,k⟩:=h
  refine⟨_,zh (zq (zD ["table","k"] ["row","k"] [none,some 1] (zM (pv 0)) (fun c C s₀ H₀ ex=>zk (i:=0) (a9 ["row","k"]) rfl (Or.inl rfl)) (fun c C s₀ H₀ ex=>zC)
   (fun c C s₀ H₀ ex=>zx zt (pv 0) (pv 1) (fun _ _=>rfl)) (te:=cn (iA K) (ar 0) (ar 1)) (hfr:=bD (zf iB) δ))),?_⟩
  refine⟨_,rfl,L,rfl,⟨_,e⟩,fun D d=>?_⟩;refine zB (D0 (mkV:=V.int) (g:=fun r=>r.getD i 0) (fun o os H' R sm l p q=>?_) e x hz d fun y u b=>k D y u d b);have a:=hi os p;refine⟨_,rfl,_,rfl,o,_,_,_,rfl,rfl,SqL.of l,zj (j:=i) (v:=V.int (os.getD i 0)) ?_,q H' (Same.refl H')⟩;rw[Aj,Aa a,Ac,Aa a]
  rfl
end
def turn(tb:Ξ):Ξ:=(Af (wid tb)).map (colAt tb)
def qM{tb:Ξ}(h:bW tb=true):tb.length<=40/\wid tb<=40/\∀r∈tb,r.length=wid tb:=by
 unfold bW at h;simp only[Bool.and_eq_true,decide_eq_true_eq,Be] at h;exact⟨h.1.1,h.1.2,h.2⟩
section
variable{P:Program}{w:World}{K:Ah}{mg:Str->Option Value}{base:Heap}
def wx(H:Hp)(Q:VK)(tb:Ξ):Prop:=∀D H' ds,Same H H'->H D=none->H' D=some (.lst (ds.map V.ref))->Rws H' ds tb->ds.Nodup->(∀d∈ds,H d=none/\d≠D)->Q (.ref D) H'
def GD(K:Ah):Sp:=fun vs H Q _=>∃L rs tb,∃n:Nat,vs=[.ref L,.int n]/\SqL K H L (rs.map V.ref)/\Rws H rs tb/\tb.length<=1000/\n<=1000/\(∀r∈tb,n<=r.length)/\wx H Q ((Af n).map (colAt tb))
def NV:zo ["table","width"] ["table","width"] (zf qL):=⟨rfl,rfl,rfl,δ,rfl,δ,δ⟩
def NW{f c:Addr}{fd e:FuncData}(F:Fun K "columns_to" "columns_to" qL f fd)(M:mg "range"=none)(Fc:Fun K "column_of" "column_of" iB c e)(N:Binds K e ["table","k"] [])(O:mg "column_of"=some (.ref c)):al P w K mg base aG 2 f fd ["table","width"] (GD K):=by
 have U:al P w K mg base aG 1 c e ["table","k"] (GC K):=NU Fc;refine F.ok NV (fun vs H Q E h=>?_) (fun W A outer s H vs Q E hr h=>?_)
 ·obtain⟨L,rs,tb,n,rfl,_⟩:=h;rfl
 ·obtain⟨L,rs,tb,n,rfl,G,I,hz,p,J,k⟩:=h
  refine⟨_,zh (zq (zD ["table","width"] ["k","table"] [none,some 0] (iw rfl M (za (pv 1) zb)) (fun l C s₀ H₀ ex=>zk (i:=0) (a9 ["k","table"]) rfl (Or.inl rfl)) (fun l C s₀ H₀ ex=>zC)
   (fun l C s₀ H₀ ex=>ze U hr rfl O Fc.kp N .nil ag (za (pv 1) (za (pv 0) zb))) (te:=gp (GC K) [] E0 (b_ (ar 1) (b_ (ar 0) bE))) (hfr:=bD (zf qL) δ))),?_⟩
  refine⟨_,rfl,_,rfl,ω,ω,fun D o=>?_⟩;refine GB (n:=n) (g:=colAt tb) (fun j H' R q sm u=>⟨_,rfl,_,rfl,L,rs,tb,j,rfl,sm.seq G,I.same sm,ω,fun r hr=>Ay q (J r hr),fun d S v hd x=>u d S v hd x⟩) ω o fun T ds y a b z p=>k D T ds y o a b z p
def wR(K:Ah):Sp:=fun vs H Q _=>∃L rs tb,vs=[.ref L]/\SqL K H L (rs.map V.ref)/\Rws H rs tb/\bW tb=true/\wx H Q (turn tb)
def NX:zo ["table"] ["table"] (zf nH):=⟨rfl,rfl,rfl,δ,rfl,δ,δ⟩
def NY{f b c:Addr}{fd d e:FuncData}(F:Fun K "columns_of" "columns_of" nH f fd)(bl:mg "len"=none)(Fc:Fun K "columns_to" "columns_to" qL b d)(o:Binds K d ["table","width"] [])(p:mg "columns_to"=some (.ref b))(x:al P w K mg base aG 2 b d ["table","width"] (GD K))(Fw:Fun K "width_of" "width_of" k5 c e)(q:Binds K e ["table"] [])(u:mg "width_of"=some (.ref c)):al P w K mg base aG 3 f fd ["table"] (wR K):=by
 have v:al P w K mg base aG 1 c e ["table"] (nD K):=Gy Fw bl;refine F.ok NX (fun vs H Q E h=>?_) (fun y A outer s H vs Q E hr h=>?_)
 ·obtain⟨L,rs,tb,rfl,_⟩:=h;rfl
 ·obtain⟨L,rs,tb,rfl,g,i,j,k⟩:=h
  obtain⟨z,C,l⟩:=qM j;have a:Room 1 _:=hr.mono ξ;refine⟨_,zh (zq (ze x hr rfl p Fc.kp o .nil ag (za (pv 0) (za (ze v a rfl u Fw.kp q .nil ag (za (pv 0) zb)) zb)))),?_⟩;exact⟨_,rfl,_,rfl,L,rs,tb,rfl,g,i,L,rs,tb,wid tb,rfl,g,i,ω,ω,fun r hr=>by rw[l r hr];exact Ad _,k⟩
end
end K26
end
section
namespace L2
open PySem PySem.Spec PyProof.Rows
def d0(K:Ah)(a b:Addr):It:=
 ⟨fun i H=>∃xs ys,SqL K H a xs/\SqL K H b ys/\i<min xs.length ys.length,
  fun i H v H'=>∃p x y,v=.ref p/\H p=none/\H'=upd H p (.tup [x,y])/\(∀xs,SqL K H a xs->xs[i]?=some x)/\∀ys,SqL K H b ys->ys[i]?=some y,
  fun i H=>∃xs ys,SqL K H a xs/\SqL K H b ys/\i=min xs.length ys.length⟩
def NZ{P:Program}{w:World}{K:Ah}{aE:List Expr}{k:Nat}{pos:Pos}(C D z TI TO i1 i2:Addr)(hd:TI≠z/\TO≠z/\TI≠TO/\TI≠i1/\TI≠i2/\z≠i1/\z≠i2/\TO≠i1/\TO≠i2/\i1≠i2):Turn P w K (.Tuple aE k pos) (d0 K C D) [z,TI,TO,i1,i2] z (fun i h=>IsZip h z TI TO .none/\IsPair h TI (.ref i1) (.ref i2)/\(∃a b,IsPair h TO a b)/\h.IsListIter i1 C i/\h.IsListIter i2 D i):=by
 obtain⟨d1,d2,d3,d4,d5,d6,d7,d8,d9,O⟩:=hd;refine Gh (wr:=[z,TO,i1,i2]) (by simp) (fun i h st b hb=>?_) (fun i h h' st c=>?_) (fun b hb=>?_) (fun X Z hw hK hc i aa s σ H I N st iJ=>?_) fun A i s Q E st h=>wpAny_pyIter_zip st.1 h
 ·obtain⟨a1,a2,⟨a,b',a3⟩,⟨o4,a4,_,F⟩,⟨o5,a5,_,e5⟩⟩:=st
  simp at hb;rcases hb with rfl|rfl|rfl|rfl|rfl
  ·exact⟨_,a1,fun v z=>by cases z⟩
  ·exact⟨_,a2,fun v z=>by cases z⟩
  ·exact⟨_,a3,fun v z=>by cases z⟩
  ·exact⟨_,a4,fun v z=>by rw[F] at z;cases z⟩
  ·exact⟨_,a5,fun v z=>by rw[e5] at z;cases z⟩
 ·obtain⟨a1,a2,⟨a,b',a3⟩,a4,a5⟩:=st
  exact⟨c z (by simp) _ a1,c TI (by simp) _ a2,⟨a,b',c TO (by simp) _ a3⟩,a4.at fun o e=>c i1 (by simp) o e,a5.at fun o e=>c i2 (by simp) o e⟩
 ·simp at hb ⊢
  rcases hb with rfl|rfl|rfl|rfl<;>simp
 ·subst Z hw hK
  have hd:∃xs ys,SqL X.K H C xs/\SqL X.K H D ys:=by
   rcases iJ with ⟨xs,ys,a,b,_⟩|⟨xs,ys,a,b,_⟩
   ·exact⟨xs,ys,a,b⟩
   ·exact⟨xs,ys,a,b⟩
  obtain⟨xs,ys,d,l⟩:=hd;obtain⟨us,r1,p1,_⟩:=I.list d;obtain⟨ws,r2,p2,_⟩:=I.list l;have S:=r1.length;have T:=r2.length;have U:=I.ok.hd hc;obtain⟨a1,a2,a3,a4,a5⟩:=st;have f:=fun b hb=>Gd I (N b hb) d;have G:=fun b hb=>Gd I (N b hb) l;have AP:Zp.Apart z TI TO i1 i2 [i1,C] [i2,D]:=by
   refine⟨?_,?_,?_,?_,by simp,by simp,?_,?_,d1,d2,d3,d4,d5⟩
   ·simp;exact⟨d6,(f z (by simp)).symm⟩
   ·simp;exact⟨d7,(G z (by simp)).symm⟩
   ·simp;exact⟨d8,(f TO (by simp)).symm⟩
   ·simp;exact⟨d9,(G TO (by simp)).symm⟩
   ·simp;exact⟨O,(G i1 (by simp)).symm⟩
   ·simp;exact⟨O.symm,(f i2 (by simp)).symm⟩
  have WZ:=Zp.Jc (prog:=X.prog) (w:=X.w) (A:=X.A) (Draws.list (A:=X.A.in1) U i1 C (f i1 (by simp)) us.toArray) (Draws.list (A:=X.A.in1) U i2 D (G i2 (by simp)) ws.toArray) AP;refine⟨_,_,_,_,_,WZ,⟨a1,a2,a3,⟨a4,p1.isList⟩,⟨a5,p2.isList⟩⟩,fun j h st=>⟨st.1,st.2.1,st.2.2.1,st.2.2.2.1.1,st.2.2.2.2.1⟩,fun g=>?_,fun g=>?_⟩
  ·obtain⟨q,r,J,L,hi⟩:=g
   have e1:=I.list_inj J d;have e2:=I.list_inj L l;subst e1 e2;refine⟨by simpa[<-S,<-T] using hi,fun aB hp=>?_⟩;obtain⟨x,y,px,py,rfl⟩:=hp;have iY:us[i]?=some x:=by simpa using px
   have M:ws[i]?=some y:=by simpa using py
   have lx:i<q.length:=by lia
   have ly:i<r.length:=by lia
   have W:q[i]?=some q[i]:=by simp[lx]
   have Y:r[i]?=some r[i]:=by simp[ly]
   obtain⟨u,e3,ru⟩:=r1.get W;obtain⟨u',F,cU⟩:=r2.get Y;rw[iY] at e3;cases e3;rw[M] at F;cases F;refine⟨[q[i],r[i]],.cons ru (.cons cU .nil),df,fun p hp=>⟨p,_,_,rfl,hp,rfl,fun zs hz=>?_,fun zs hz=>?_⟩⟩
   ·rw[I.list_inj hz d];exact W
   ·rw[I.list_inj hz l];exact Y
  ·obtain⟨q,r,J,L,hi⟩:=g
   have e1:=I.list_inj J d;have e2:=I.list_inj L l;subst e1 e2
   simpa[<-S,<-T] using hi
def N3(b e:Addr)(xs ys:Array Value):Meets (Builtin.«zip.__new__» ⟨[.type "zip",.ref b,.ref e],[]⟩) (fun _ R s=>s.heap.IsList b xs/\s.heap.IsList e ys/\
   ∀h',IsZip h' (s⁻¹+4) (s⁻¹+2) (s⁻¹+3) .none->IsPair h' (s⁻¹+2) (.ref s⁻¹) (.ref (s⁻¹+1))->
   IsPair h' (s⁻¹+3) .none .none->h'.IsListIter s⁻¹ b 0->h'.IsListIter (s⁻¹+1) e 0->
   (∀c o,s.heap.get? c=some o->h'.get? c=some o)->R (.ok (.ret (.ref (s⁻¹+4)))) {s with heap:=h'}):=
 .of_wp fun prog w A R s h=>by
  obtain⟨hp,g,d,tk,os⟩:=s;obtain⟨f,i,h⟩:=h;have p:=sub_zip;have j:Heap.IsList (Shared.heap ⟨hp,g,d,tk,os⟩) b xs:=f;have l:Heap.IsList (Shared.heap ⟨hp.push {cls:=.type "list_iterator",data:=.fields #[.ref b,.int 0 0]},g,d,tk,os⟩) e ys:=Heap.IsList.push i _
  wp_walk using wpAny_pyIter_list j,wpAny_pyIter_list l
  refine⟨_,rfl,?_⟩;dsimp only at h ⊢;have a:∀(h:Heap)(o:Obj),(h.push o).objs.size=h.objs.size+1:=fun h o=>Heap.size_push ..;simp only[a,Nat.add_assoc,Nat.reduceAdd];refine h _ ?_ ?_ ?_ ?_ ?_ fun c o x=>Ai _ (Ai _ (Ai _ (Ai _ (Ai _ x))))
  ·exact Heap.get?_push_at (by simp only[a]) rfl
  ·exact Ai _ (Ai _ (Heap.get?_push_at (by simp only[a]) rfl))
  ·exact Ai _ (Heap.get?_push_at (by simp only[a]) rfl)
  ·exact⟨_,Ai _ (Ai _ (Ai _ (Ai _ (AO _ rfl)))),rfl,rfl⟩
  ·exact⟨_,Ai _ (Ai _ (Ai _ (Heap.get?_push_at (by simp only[a]) rfl))),rfl,rfl⟩
section
variable{X:Cx}{aE:List Expr}{k:Nat}{cB:Pos}
def N4(K:Ah)(ta:TA):TI:=fun σ H R=>ta σ H fun vs H1=>∃a b,vs=[.ref a,.ref b]/\(∃xs,SqL K H1 a xs)/\(∃ys,SqL K H1 b ys)/\R (d0 K a b) H1
def k7{a b:Expr}{ta:TA}{p pos:Pos}(hg:Gl X "zip")(A:X.mg "zip"=none)(hv:A8 "zip"=some (.type "zip"))(C:PA X [a,b] ta)(D:starEach [a,b] X.env=[(false,eval a X.env),(false,eval b X.env)]:=by rfl)(j:starEach [b] X.env=[(false,eval b X.env)]:=by rfl):PI X (.Tuple aE k cB) (.Call (.Name "zip" p) [a,b] [] pos) (N4 X.K ta):=by
 intro aa s σ H R I h;refine Call_ (kQ I hg A hv (PyProof.Rows.callWith_type1 (aR (C pos aa s σ H _ I h) fun us c ⟨vs,H1,I1,r1,d⟩=>?_) (by rw[D,j]) (by rw[j];rfl)));obtain⟨f,g,e,⟨xs,d⟩,⟨ys,o⟩,q⟩:=d;subst e;obtain⟨u,G,rfl,r,v⟩:=vals2 r1;cases r;cases v;obtain⟨w,_,x,_⟩:=I1.list d;obtain⟨y,_,p2,_⟩:=I1.list o;refine callType_new F.called_zip ξ (F.typeCall_zip_2 _ _) (F.newCall_zip_2 _ _) (fun obj=>F.args_object_init_3 obj _ _) F.entry_zip_new (N3 f g w.toArray y.toArray) ⟨x.isList,p2.isList,fun h' a1 a2 a3 a4 a5 l=>?_⟩;refine⟨⟨_,a1,rfl⟩,wpAny_pyIter_zip a1 ?_⟩;have E:Inv X aa σ H1 {c with heap:=h'}:=I1.kept (t':=c.toks) l;refine⟨c⁻¹+4,[c⁻¹+4,c⁻¹+2,c⁻¹+3,c⁻¹,c⁻¹+1],_,_,H1,rfl,E,NZ f g _ _ _ _ _ (by refine⟨?_,?_,?_,?_,?_,?_,?_,?_,?_,?_⟩<;>(intro z;have J:(_:Nat)=_:=z;lia)),⟨a1,a2,⟨_,_,a3⟩,a4,a5⟩,fun b hb=>?_,q⟩;have i:c⁻¹<=b:=by
  simp only[List.mem_cons,List.not_mem_nil,or_false] at hb;rcases hb with rfl|rfl|rfl|rfl|rfl
  ·exact A7 _ _
  ·exact A7 _ _
  ·exact A7 _ _
  ·exact Ad _
  ·exact A7 _ _
 exact I1.fpOk i (I1.hok.fresh i)
end
section
variable{K:Ah}{a:Addr}{xs:List V}{g:TG}{tc:TT}{te:TE}{σ:St}{H1:Hp}{Q:VK}{D:Addr}
def GE{e f:Addr}{ys:List V}(a:Nat->St->List V->Hp->Prop)(q:a 0 σ [] (upd H1 D (.lst [])))(c:∀i σ zs H,a i σ zs H->SqL K H e xs/\SqL K H f ys)(r:∀i σ zs H p x y,xs[i]?=some x->ys[i]?=some y->i<min xs.length ys.length->zs.length<=i->a i σ zs H->H p=none->g (.ref p) σ (upd H p (.tup [x,y])) fun d s=>tc d s fun b h=>if b=true then te d h (gt (min xs.length ys.length) a D i d) else dD (min xs.length ys.length) a i d h)(hd:∀σ zs H,a (min xs.length ys.length) σ zs H->Q (.ref D) H):cP (d0 K e f) g tc te σ H1 D Q:=by
 refine wa (min xs.length ys.length) a q (fun σ zs H p=>⟨xs,ys,(c _ _ _ _ p).1,(c _ _ _ _ p).2,rfl⟩) (fun i σ zs H hi p=>⟨xs,ys,(c _ _ _ _ p).1,(c _ _ _ _ p).2,hi⟩) (fun i σ zs H v H' hi hy p y=>?_) hd;obtain⟨pp,x,j,rfl,hp,rfl,l,o⟩:=y;exact r i σ zs H pp x j (l xs (c _ _ _ _ p).1) (o ys (c _ _ _ _ p).2) hi hy p hp
end
def eH(i j:Int):Prop:=∃m n:Nat,i.natAbs<2 ^ m/\j.natAbs<2 ^ n/\m+n<=134217728
def D4(i j:Int):Prop:=0<j/\j.natAbs<2 ^ 9000
section
variable{X:Cx}
def qO:cI X (binaryOp .Mult) (rI eH fun i j=>.int (i*j)):=p7 fun i j _ _ _ _ _ hc q=>by
 obtain⟨m,n,h1,h2,a⟩:=hc;exact mul_int q (IntMulOk.of_le (intBits_le_iff.mpr h1) (intBits_le_iff.mpr h2) a)
def xk:cI X (binaryOp .FloorDiv) (rI D4 fun i j=>.int (i / j)):=p7 fun i j _ _ _ _ _ hc q=>by
 have h1:(0:Int)<j:=hc.1;refine floordiv_int ω (by rw[Int.fdiv_eq_ediv_of_nonneg i ω];exact q) (.inl (PyProof.noPylong_of_log2 ?_));have a:j.natAbs≠0:=ω
 exact(Nat.log2_lt a).mpr hc.2
end
end L2
namespace K26
open PySem L2
abbrev k8:Stmt:=top 32
abbrev xn:Stmt:=top 35
def fh{ns:List Int}{i:Nat}{x:V}(h:(ns.map V.int)[i]?=some x):∃n,ns[i]?=some n/\x=.int n:=by
 rw[Aj] at h;cases e:ns[i]? with
 |none=>rw[e] at h;cases h
 |some a=>rw[e] at h;cases h;exact⟨a,rfl,rfl⟩
def jK:A8 "zip"=some (.type "zip"):=δ
def dz(rn:List Int)(q:Int)(on:List Int):List Int:=AA (fun a b=>a-q*b) rn on
def ba(p:Int)(rn:List Int)(q:Int)(on:List Int):List Int:=AA (fun a b=>p*a+q*b) rn on
def nJ(H:Hp)(Q:VK)(ns:List Int):Prop:=∀D H',Same H H'->H D=none->H' D=some (.lst (ns.map V.int))->Q (.ref D) H'
section
variable{P:Program}{w:World}{K:Ah}{mg:Str->Option Value}{base:Heap}
def xo{H2:Hp}{r o D:Addr}{rn on:List Int}{f:Int->Int->Int}{te:TE}{c:List (Option V)}{Q:VK}(v:∀(a b:Int)(H:Hp)(R:VK),a∈rn->b∈on->R (.int (f a b)) H->te (some (.int a)::some (.int b)::c) H R)(h1:H2 r=some (.lst (rn.map V.int)))(h2:H2 o=some (.lst (on.map V.int)))(n2:on.length<=1000)(s:H2 D=none)(k:∀d,Same H2 d->d D=some (.lst ((AA f rn on).map V.int))->Q (.ref D) d):cP (d0 K r o) (b6 K 2 (cf (zT 0) (cf (zT 1) b3))) bJ te (none::none::c) H2 D Q:=by
 refine GE (K:=K) (xs:=rn.map V.int) (ys:=on.map V.int) (fun i σ zs d=>∃j l,σ=j::l::c/\Same H2 d/\d D=some (.lst zs)/\zs=((AA f rn on).take i).map V.int)
  ⟨none,none,rfl,Same.new s,af,rfl⟩ (fun i σ zs d ⟨_,_,_,sm,_⟩=>⟨SqL.of (sm _ _ h1),SqL.of (sm _ _ h2)⟩) ?_ ?_
 ·rintro i σ zs d u w x e1 e2 hi hz ⟨j,l,rfl,h,e,rfl⟩ g
  obtain⟨p,g1,rfl⟩:=fh e1;obtain⟨q,g2,rfl⟩:=fh e2;refine⟨u,_,rfl,SqT.of af,rfl,_,_,rfl,_,_,rfl,rfl,gz ?_⟩;refine v p q _ _ (Am g1) (Am g2) (bK (Ae (Nat.min_le_right _ _) (by rw[Ab];exact zE ω)) hi hz (by rw[am (zl e g)];exact e) ⟨_,_,rfl,?_,af,?_⟩)
  ·exact(h.then (h.free g)).then s
  ·have e3:(AA f rn on)[i]?=some (f p q):=by rw[List.getElem?_zipWith,g1,g2]
   rw[Bp e3,Aw];rfl
 ·rintro σ zs d ⟨j,l,rfl,h,e,rfl⟩
  refine k d h ?_;rw[e,Av (by simp)]
def xq:Sp:=fun vs H Q _=>∃r o rn on q,vs=[.ref r,.int q,.ref o]/\H r=some (.lst (rn.map V.int))/\H o=some (.lst (on.map V.int))/\on.length<=1000/\(∀x∈on,eH q x)/\nJ H Q (dz rn q on)
def N5:zo ["row","often","other"] ["row","often","other"] (zf k8):=⟨rfl,rfl,rfl,δ,rfl,δ,δ⟩
def N6{f:Addr}{fd:FuncData}(F:Fun K "less" "less" k8 f fd)(v:mg "zip"=none):al P w K mg base aG 1 f fd ["row","often","other"] xq:=by
 refine F.ok N5 (fun vs H Q E h=>?_) (fun y A outer s H vs Q E hr h=>?_)
 ·obtain⟨r,o,rn,on,q,rfl,_⟩:=h;rfl
 ·obtain⟨r,o,rn,on,q,rfl,h1,h2,n2,u,k⟩:=h
  refine⟨_,zh (zq (zD ["row","often","other"] ["number","taken","often"] [none,none,some 1] (k7 rfl v jK (za (pv 0) (za (pv 2) zb)))
   (fun d C s₀ H₀ ex=>gX rfl (zH (zk (i:=0) (a9 ["number","taken","often"]) rfl (Or.inl rfl)) (zH (zk (i:=1) (a9 ["number","taken","often"]) rfl (Or.inl rfl)) gW))) (fun d C s₀ H₀ ex=>zC)
   (fun d C s₀ H₀ ex=>zA eR (pv 0) (zA qO (pv 2) (pv 1))) (te:=cn (g0 fun i j=>.int (i-j)) (ar 0) (cn (rI eH fun i j=>.int (i*j)) (ar 2) (ar 1))) (hfr:=bD (zf k8) δ) (g:=b6 K 2 (cf (zT 0) (cf (zT 1) b3))))),?_⟩
  refine⟨_,rfl,_,rfl,r,o,rfl,⟨_,SqL.of h1⟩,⟨_,SqL.of h2⟩,fun D e=>?_⟩;refine zB (xo (f:=fun a b=>a-q*b) (fun a b H' R _ hb l=>?_) h1 h2 n2 e fun x p c=>k D x p e c);exact⟨_,rfl,_,rfl,_,rfl,_,_,rfl,rfl,u b hb,_,_,rfl,rfl,l⟩
def Js:Sp:=fun vs H Q _=>∃r o rn on p q,vs=[.int p,.ref r,.int q,.ref o]/\H r=some (.lst (rn.map V.int))/\H o=some (.lst (on.map V.int))/\on.length<=1000/\(∀x∈rn,eH p x)/\(∀x∈on,eH q x)/\nJ H Q (ba p rn q on)
def N7:zo ["often","row","other_often","other"] ["often","row","other_often","other"] (zf xn):=⟨rfl,rfl,rfl,δ,rfl,δ,δ⟩
def N8{f:Addr}{fd:FuncData}(F:Fun K "mix_of_two" "mix_of_two" xn f fd)(z:mg "zip"=none):al P w K mg base aG 1 f fd ["often","row","other_often","other"] Js:=by
 refine F.ok N7 (fun vs H Q E h=>?_) (fun I A outer s H vs Q E hr h=>?_)
 ·obtain⟨r,o,rn,on,p,q,rfl,_⟩:=h;rfl
 ·obtain⟨r,o,rn,on,p,q,rfl,h1,h2,n2,x,y,k⟩:=h
  refine⟨_,zh (zq (zD ["often","row","other_often","other"] ["number","beside","often","other_often"] [none,none,some 0,some 2] (k7 rfl z jK (za (pv 1) (za (pv 3) zb)))
   (fun d C s₀ H₀ ex=>gX rfl (zH (zk (i:=0) (a9 ["number","beside","often","other_often"]) rfl (Or.inl rfl)) (zH (zk (i:=1) (a9 ["number","beside","often","other_often"]) rfl (Or.inl rfl)) gW))) (fun d C s₀ H₀ ex=>zC)
   (fun d C s₀ H₀ ex=>zA dP (zA qO (pv 2) (pv 0)) (zA qO (pv 3) (pv 1))) (te:=cn (g0 fun i j=>.int (i+j)) (cn (rI eH fun i j=>.int (i*j)) (ar 2) (ar 0)) (cn (rI eH fun i j=>.int (i*j)) (ar 3) (ar 1))) (hfr:=bD (zf xn) δ) (g:=b6 K 2 (cf (zT 0) (cf (zT 1) b3))))),?_⟩
  refine⟨_,rfl,_,rfl,r,o,rfl,⟨_,SqL.of h1⟩,⟨_,SqL.of h2⟩,fun D e=>?_⟩;refine zB (xo (f:=fun a b=>p*a+q*b) (fun a b H' R l hb u=>?_) h1 h2 n2 e fun G v c=>k D G v e c);exact⟨_,rfl,_,rfl,_,_,rfl,rfl,x a l,_,rfl,_,rfl,_,_,rfl,rfl,y b hb,_,_,rfl,rfl,u⟩
end
end K26
end
section
namespace Tb
abbrev Vc:=Nat->Int
def cmb:List Int->List Vc->Vc
 |a::c,v::L=>fun u=>a*v u+cmb c L u
 |_,_=>fun _=>0
def allv(p:Nat):Nat->Ξ
 |0=>[[]]
 |n+1=>(allv p n).flatMap fun c=>(Af p).map fun a:Nat=>(a:Int)::c
def D6(p:Nat):∀n,(allv p n).length=p ^ n
 |0=>rfl
 |n+1=>by
  have:∀l:Ξ,(l.flatMap fun c=>(Af p).map fun a:Nat=>(a:Int)::c).length=l.length*p:=by
   intro l
   induction l with
   |nil=>simp
   |cons c l ih=>rw[List.flatMap_cons,A6,Ab,AU,ih,AL,Nat.add_mul];(first|lia|omega)
  show(((allv p n).flatMap fun c=>(Af p).map fun a:Nat=>(a:Int)::c)).length=_;rw[this,D6 p n,Nat.pow_succ]
def nR{p:Nat}:∀{n:Nat}{c:List Int},c∈allv p n↔c.length=n/\∀x∈c,0<=x/\x<(p:Int)
 |0,c=>by
  show c∈[[]]↔_;rw[List.mem_singleton];constructor
  ·rintro rfl;exact⟨rfl,fun x hx=>nomatch hx⟩
  ·intro h;exact AK h.1
 |n+1,c=>by
  show c∈(allv p n).flatMap (fun c=>(Af p).map fun a:Nat=>(a:Int)::c)↔_;rw[List.mem_flatMap];constructor
  ·rintro⟨d,hd,h⟩
   obtain⟨a,b,rfl⟩:=List.mem_map.mp h;obtain⟨h1,h2⟩:=nR.mp hd;have:=List.mem_range.mp b;refine⟨by rw[AL,h1],fun x hx=>?_⟩;rcases List.mem_cons.mp hx with rfl|hx
   ·(first|lia|omega)
   ·exact h2 x hx
  ·rintro⟨h1,h2⟩
   cases c with
   |nil=>simp at h1
   |cons a d=>
    have b:=h2 a (.head _);refine⟨d,nR.mpr ⟨by simpa using h1,fun x hx=>h2 x (.tail _ hx)⟩,List.mem_map.mpr ⟨a.toNat,List.mem_range.mpr ω,?_⟩⟩;rw[Int.toNat_of_nonneg b.1]
def Jt(p:Nat):∀n,(allv p n).Nodup
 |0=>by simp[allv]
 |n+1=>by
  show((allv p n).flatMap fun c=>(Af p).map fun a:Nat=>(a:Int)::c).Pairwise (·≠·);rw[List.pairwise_flatMap];refine⟨fun c _=>?_,(Jt p n).imp fun{a b} h x hx y hy e=>?_⟩
  ·rw[List.pairwise_map]
   exact List.nodup_range.imp fun h e=>h (by injection e with e;(first|lia|omega))
  ·obtain⟨i,_,rfl⟩:=List.mem_map.mp hx
   obtain⟨j,_,rfl⟩:=List.mem_map.mp hy;injection e with _ e
   exact h e
def fC{g h:Type}(f:g->h):∀(l:List g)(m:List h),l.Nodup->(∀x∈l,f x∈m)->m.length<l.length->∃x∈l,∃y∈l,x≠y/\f x=f y:=by
 intro l m i d j;apply AD;intro no;have inj:∀x∈l,∀y∈l,f x=f y->x=y:=fun x hx y hy e=>AD fun ne=>no ⟨x,hx,y,hy,ne,e⟩;have c:(l.map f).Nodup:=by
  clear d j no
  induction l with
  |nil=>exact List.nodup_nil
  |cons a l ih=>
   rw[Bb,List.nodup_cons];obtain⟨h1,h2⟩:=List.nodup_cons.mp i;refine⟨fun z=>?_,ih h2 fun x hx y hy=>inj x (.tail _ hx) y (.tail _ hy)⟩;obtain⟨b,hb,e⟩:=List.mem_map.mp z;exact h1 (inj b (.tail _ hb) a (.head _) e▸hb)
 have:=c.length_le_of_subset (l₂:=m) fun y hy=>by
  obtain⟨x,hx,rfl⟩:=List.mem_map.mp hy;exact d x hx
 rw[Ab] at this;(first|lia|omega)
def D8:∀(c d:List Int)(L:List Vc),c.length=L.length->d.length=L.length->∀u,cmb (AA (fun a b=>a-b) c d) L u=cmb c L u-cmb d L u
 |c,d,[],h1,h2,u=>by rw[AK h1,AK h2];rfl
 |[],_,_::_,h1,_,_=>by simp at h1
 |_::_,[],_::_,_,h2,_=>by simp at h2
 |a::c,b::d,v::L,h1,h2,u=>by
  show(a-b)*v u+cmb _ L u=a*v u+cmb c L u-(b*v u+cmb d L u);rw[D8 c d L (by simpa using h1) (by simpa using h2),Int.sub_mul];(first|lia|omega)
def fN(k m:Int):∀(c d:List Int)(L:List Vc),c.length=L.length->d.length=L.length->∀u,cmb (AA (fun a b=>k*a+m*b) c d) L u=k*cmb c L u+m*cmb d L u
 |c,d,[],h1,h2,u=>by rw[AK h1,AK h2];show(0:Int)=k*0+m*0;(first|lia|omega)
 |[],_,_::_,h1,_,_=>by simp at h1
 |_::_,[],_::_,_,h2,_=>by simp at h2
 |a::c,b::d,v::L,h1,h2,u=>by
  show(k*a+m*b)*v u+cmb _ L u=k*(a*v u+cmb c L u)+m*(b*v u+cmb d L u);rw[fN k m c d L (by simpa using h1) (by simpa using h2),Int.add_mul,Bi,Bi,AS,AS];(first|lia|omega)
def qP:∀(n:Nat)(L:List Vc)(u:Nat),cmb (Ar n 0) L u=0
 |0,_,_=>rfl
 |n+1,[],_=>rfl
 |n+1,v::L,u=>by show 0*v u+cmb (Ar n 0) L u=0;rw[qP n L u];(first|lia|omega)
def ri{M X:Nat}{u:Nat}:∀(c:List Int)(L:List Vc),(∀x∈c,x.natAbs<=X)->(∀v∈L,(v u).natAbs<=M)->(cmb c L u).natAbs<=L.length*(X*M)
 |[],[],_,_=>by show(0:Int).natAbs<=_;simp
 |[],_::_,_,_=>by show(0:Int).natAbs<=_;simp
 |_::_,[],_,_=>by show(0:Int).natAbs<=_;simp
 |a::c,v::L,h1,h2=>by
  have b:=ri (u:=u) c L (fun x hx=>h1 x (.tail _ hx)) fun w hw=>h2 w (.tail _ hw);have d:(a*v u).natAbs<=X*M:=by rw[AB];exact AR (h1 a (.head _)) (h2 v (.head _))
  show(a*v u+cmb c L u).natAbs<=(L.length+1)*(X*M);have:=Int.natAbs_add_le (a*v u) (cmb c L u);rw[Nat.add_mul];(first|lia|omega)
def Inj(R:List Vc)(P:List Nat):Prop:=∀c:List Int,c.length=R.length->(∀p∈P,cmb c R p=0)->∀x∈c,x=0
def cy{R:List Vc}{P:List Nat}{M:Nat}(A:1<=M)(q:∀v∈R,∀p∈P,(v p).natAbs<=M)(r:P.length<R.length):∃c:List Int,c.length=R.length/\(∃x∈c,x≠0)/\(∀p∈P,cmb c R p=0)/\∀x∈c,x.natAbs<=(2*R.length*M) ^ P.length:=by
 let j:=R.length
 let X:=(2*j*M) ^ P.length
 have s:1<=j:=by show 1<=R.length;(first|lia|omega)
 have w:1<=2*j*M:=Nat.one_le_iff_ne_zero.mpr (by intro z;rcases Nat.mul_eq_zero.mp z with z|z<;>(first|lia|omega));have o:∀c∈allv (X+1) j,P.map (fun p=>cmb c R p+(j*(X*M):Nat))∈allv (2*(j*(X*M))+1) P.length:=fun c hc=>by
  obtain⟨h1,h2⟩:=nR.mp hc;refine nR.mpr ⟨Ab _,fun x hx=>?_⟩;obtain⟨p,hp,rfl⟩:=List.mem_map.mp hx;have:=ri (u:=p) (X:=X) (M:=M) c R (fun x hx=>by have:=h2 x hx;(first|lia|omega)) fun v hv=>q v hv p hp;have e:R.length*(X*M)=j*(X*M):=rfl;rw[e] at this;generalize j*(X*M)=N at this ⊢;(first|lia|omega)
 have cnt:(allv (2*(j*(X*M))+1) P.length).length<(allv (X+1) j).length:=by
  rw[D6,D6];have e1:2*(j*(X*M))+1<=(2*j*M)*(X+1):=by
   have:2*(j*(X*M))=(2*j*M)*X:=by rw[AQ 2 j M,AQ 2 (j*M) X,AQ j M X,Nat.mul_comm M X]
   rw[this,Nat.mul_add];(first|lia|omega)
  calc (2*(j*(X*M))+1) ^ P.length<=((2*j*M)*(X+1)) ^ P.length:=Bh e1 _
   _=X*(X+1) ^ P.length:=Nat.mul_pow _ _ _
   _<(X+1)*(X+1) ^ P.length:=Nat.mul_lt_mul_of_pos_right (Nat.lt_succ_self _) (Nat.pow_pos (Nat.succ_pos _))
   _=(X+1) ^ (P.length+1):=by rw[Nat.pow_succ,Nat.mul_comm]
   _<=(X+1) ^ j:=AC (Nat.succ_pos _) r
 obtain⟨x,hx,y,hy,ne,e⟩:=fC _ _ _ (Jt (X+1) j) o cnt;obtain⟨x1,x2⟩:=nR.mp hx;obtain⟨d,h⟩:=nR.mp hy;have hz:(AA (fun a b=>a-b) x y).length=R.length:=by rw[AE,x1,d];exact Nat.min_self _
 refine⟨AA (fun a b=>a-b) x y,hz,?_,fun p hp=>?_,fun z hz=>?_⟩
 ·apply AD
  intro no;apply ne;refine AZ (by rw[x1,d]) fun i h1 h2=>?_;have hi:i<(AA (fun a b=>a-b) x y).length:=by rw[AE];(first|lia|omega)
  have:=AD fun nz=>no ⟨(AA (fun a b=>a-b) x y)[i],Ao hi,nz⟩;rw[A0] at this;(first|lia|omega)
 ·rw[D8 x y R (by rw[x1]) (by rw[d])]
  obtain⟨i,hi,rfl⟩:=AN hp;have:=congrArg (fun l=>l[i]?) e;simp only[Aj,Aa hi,Option.map_some,Option.some.injEq] at this;(first|lia|omega)
 ·obtain⟨i,hi,rfl⟩:=AN hz
  rw[A0];rw[AE] at hi;have f:i<x.length:=ω
  have g:i<y.length:=ω
  have a1:=x2 _ (Ao f);have a2:=h _ (Ao g);show(x[i]-y[i]).natAbs<=X;(first|lia|omega)
def GF{R:List Vc}{P:List Nat}{M:Nat}(f:1<=M)(g:∀v∈R,∀p∈P,(v p).natAbs<=M)(h:P.length=R.length)(i:P.Nodup)(hi:Inj R P){p:Nat}(hp:p∈P):∃c:List Int,c.length=R.length/\cmb c R p≠0/\(∀q∈P,q≠p->cmb c R q=0)/\∀x∈c,x.natAbs<=(2*R.length*M) ^ (R.length-1):=by
 have a:(P.erase p).length=R.length-1:=by rw[List.length_erase_of_mem hp,h]
 have d:1<=P.length:=List.length_pos_of_mem hp;obtain⟨c,h1,⟨x,hx,nx⟩,h2,b⟩:=cy (P:=P.erase p) f (fun v hv q hq=>g v hv q (List.mem_of_mem_erase hq)) ω;rw[a] at b;have hz:∀q∈P,q≠p->cmb c R q=0:=fun q hq ne=>h2 q ((List.mem_erase_of_ne ne).mpr hq);refine⟨c,h1,fun z=>nx ?_,hz,b⟩;refine hi c h1 (fun q hq=>?_) x hx
 by_cases e:q=p
 ·rw[e];exact z
 ·exact hz q hq e
end Tb
end
section
namespace Tb
def GG{f:Int->Int->Int}{c d:List Int}{x:Int}(h:x∈AA f c d):∃a∈c,∃b∈d,x=f a b:=by
 obtain⟨i,hi,rfl⟩:=AN h;rw[AE] at hi;exact⟨c[i]'ω,Ao _,d[i]'ω,Ao _,A0 ..⟩
def k'{x:Int}(h:x≠0):1<=x.natAbs:=ω
def clear{R:List Vc}{P:List Nat}{M V:Nat}{v:Vc}(h:1<=M)(i:∀v∈R,∀p∈P,(v p).natAbs<=M)(j:P.length=R.length)(l:P.Nodup)(hi:Inj R P)(hv:∀p∈P,(v p).natAbs<=V):∀Q:List Nat,Q.Nodup->(∀q∈Q,q∈P)->∃(D:Int)(s:List Int),D≠0/\s.length=R.length/\(∀q∈Q,cmb s R q=D*v q)/\(∀q∈P,q∉Q->cmb s R q=0)/\∀x∈s,x.natAbs<=D.natAbs*(Q.length*(V*(2*R.length*M) ^ (R.length-1)))
 |[],_,_=>⟨1,Ar R.length 0,ξ,List.length_replicate,(fun q hq=>nomatch hq),fun q _ _=>qP _ _ _,fun x hx=>by rw[(List.mem_replicate.mp hx).2];simp⟩
 |p::Q,hn,hs=>by
  obtain⟨n1,n2⟩:=List.nodup_cons.mp hn;obtain⟨D,s,o,e,e1,e2,b⟩:=clear h i j l hi hv Q n2 fun q hq=>hs q (.tail _ hq);have hp:=hs p (.head _);obtain⟨c,f,c0,g,r⟩:=GF h i j l hi hp;refine⟨D*cmb c R p,AA (fun a b=>cmb c R p*a+(D*v p)*b) s c,Int.mul_ne_zero o c0,by rw[AE];(first|lia|omega),fun q hq=>?_,fun q hq d=>?_,fun x hx=>?_⟩
  ·rw[fN _ _ s c R e f]
   rcases List.mem_cons.mp hq with rfl|hq
   ·rw[e2 q hp n1,AX,Int.zero_add,Int.mul_right_comm]
   ·rw[e1 q hq,g q (hs q (.tail _ hq)) (fun z=>n1 (z▸hq)),AX,Int.add_zero,Int.mul_left_comm,AS]
  ·rw[fN _ _ s c R e f,e2 q hq (fun z=>d (.tail _ z)),g q hq (fun z=>d (z▸.head _)),AX,AX];rfl
  ·obtain⟨a,u,b',w,rfl⟩:=GG hx
   have h1:=b a u;have h2:=r b' w;have y:=hv p hp;generalize (2*R.length*M) ^ (R.length-1)=X at h1 h2 ⊢;have k:=k' c0;generalize cmb c R p=E at k ⊢;have A:(E*a).natAbs<=E.natAbs*(D.natAbs*(Q.length*(V*X))):=by rw[AB];exact Al _ h1
   have C:(D*v p*b').natAbs<=D.natAbs*(V*X):=by
    rw[AB,AB,AQ];exact Al _ (AR y h2)
   have F:=Int.natAbs_add_le (E*a) (D*v p*b');have G:D.natAbs*(V*X)<=E.natAbs*(D.natAbs*(V*X)):=Nat.le_mul_of_pos_left _ k;have H:(D*E).natAbs*((Q.length+1)*(V*X))=E.natAbs*(D.natAbs*(Q.length*(V*X)))+E.natAbs*(D.natAbs*(V*X)):=by
    rw[AB,Nat.add_mul,Nat.one_mul,Nat.mul_add,Nat.mul_comm D.natAbs E.natAbs,AQ,AQ]
   show _<=(D*E).natAbs*((Q.length+1)*(V*X));rw[H];exact Ae F (Nat.add_le_add A (Ae C G))
def xy{R:List Vc}{P:List Nat}{M V:Nat}{c:List Int}(r:1<=M)(u:∀v∈R,∀p∈P,(v p).natAbs<=M)(e:P.length=R.length)(f:P.Nodup)(hi:Inj R P)(hc:c.length=R.length)(hv:∀p∈P,(cmb c R p).natAbs<=V):∀x∈c,x.natAbs<=R.length*(V*(2*R.length*M) ^ (R.length-1)):=by
 obtain⟨D,s,g,h,e1,_,b⟩:=clear r u e f hi hv P f fun q hq=>hq;have hz:=hi (AA (fun a b=>D*a+(-1)*b) c s) (by rw[AE];(first|lia|omega)) fun p hp=>by
  rw[fN _ _ c s R hc h,e1 p hp];(first|lia|omega)
 intro x hx;obtain⟨i,j,rfl⟩:=AN hx;have l:i<s.length:=ω
 have d:i<(AA (fun a b=>D*a+(-1)*b) c s).length:=by rw[AE];(first|lia|omega)
 have o:=hz _ (Ao d);rw[A0] at o;have h1:=b _ (Ao l);have h2:s[i]=D*c[i]:=ω
 rw[h2,AB,e] at h1;exact Nat.le_of_mul_le_mul_left h1 (k' g)
end Tb
end
section
namespace Tb
def Rep(R:List Vc)(C:Nat)(v:Vc):Prop:=∃c:List Int,c.length=R.length/\(∀u,v u=cmb c R u)/\∀x∈c,x.natAbs<=C
section
variable{R:List Vc}{C D:Nat}{v w:Vc}
def Rep.mono(h:Rep R C v)(hc:C<=D):Rep R D v:=let ⟨c,h1,h2,h3⟩:=h;⟨c,h1,h2,fun x hx=>Ae (h3 x hx) hc⟩
def Rep.eq(h:Rep R C v)(e:∀u,w u=v u):Rep R C w:=let ⟨c,h1,h2,h3⟩:=h;⟨c,h1,fun u=>(e u).trans (h2 u),h3⟩
def Rep.lin{k m:Int}{A B:Nat}(hv:Rep R C v)(hw:Rep R D w)(hk:k.natAbs<=A)(g:m.natAbs<=B):Rep R (A*C+B*D) fun u=>k*v u+m*w u:=by
 obtain⟨c,h1,h2,e⟩:=hv;obtain⟨d,g1,g2,g3⟩:=hw;refine⟨AA (fun a b=>k*a+m*b) c d,by rw[AE];(first|lia|omega),fun u=>?_,fun x hx=>?_⟩
 ·show k*v u+m*w u=_
  rw[fN k m c d R h1 g1,h2,g2]
 ·obtain⟨a,f,b,hb,rfl⟩:=GG hx
  have h:(k*a).natAbs<=A*C:=by rw[AB];exact AR hk (e a f)
  have i:(m*b).natAbs<=B*D:=by rw[AB];exact AR g (g3 b hb)
  have:=Int.natAbs_add_le (k*a) (m*b);(first|lia|omega)
def Rep.sub{m:Int}{B:Nat}(hv:Rep R C v)(hw:Rep R D w)(a:m.natAbs<=B):Rep R (C+B*D) fun u=>v u-m*w u:=
 ((hv.lin (k:=1) (m:=-m) hw (A:=1) (B:=B) ξ (by rw[Int.natAbs_neg];exact a)).mono ω).eq fun u=>by rw[Int.one_mul,Int.neg_mul];(first|lia|omega)
def Rep.le(h:Rep R C v){M u:Nat}(b:∀r∈R,(r u).natAbs<=M):(v u).natAbs<=R.length*(C*M):=by
 obtain⟨c,h1,h2,a⟩:=h;rw[h2];exact ri c R a b
end
def step(f:Nat->Vc)(p:Nat)(l:Vc):Vc:=fun u=>l u-l p / f p p*f p u
def aY(f:Nat->Vc):List Nat->Vc->Vc
 |[],l=>l
 |p::ps,l=>aY f ps (step f p l)
structure Ech(P:List Nat)(f:Nat->Vc):Prop where
 z:∀p∈P,∀i,i<p->f p i=0
 pos:∀p∈P,0<f p p
section
variable{f:Nat->Vc}
def Ech.sub{P Q:List Nat}(h:Ech P f)(a:∀q∈Q,q∈P):Ech Q f:=⟨fun p hp=>h.z p (a p hp),fun p hp=>h.pos p (a p hp)⟩
def Ju{P:List Nat}{p i:Nat}{l:Vc}(h:Ech P f)(hp:p∈P)(hi:i<p):step f p l i=l i:=by
 unfold step;rw[h.z p hp i hi,AX,Int.sub_zero]
def step_at{P:List Nat}{p:Nat}{l:Vc}(h:Ech P f)(hp:p∈P):0<=step f p l p/\step f p l p<f p p:=by
 have a:=h.pos p hp;have e:step f p l p=l p%f p p:=by
  unfold step;have:=Int.emod_add_mul_ediv (l p) (f p p);rw[A5] at this;(first|lia|omega)
 rw[e];exact⟨Int.emod_nonneg _ ω,Int.emod_lt_of_pos _ a⟩
def D9:∀{ps:List Nat}{l:Vc}{i:Nat},Ech ps f->(∀p∈ps,i<p)->aY f ps l i=l i
 |[],_,_,_,_=>rfl
 |p::ps,l,i,h,hi=>by
  show aY f ps (step f p l) i=l i;rw[D9 (h.sub fun q hq=>.tail _ hq) (fun q hq=>hi q (.tail _ hq)),Ju h (.head _) (hi p (.head _))]
def Jv:∀{ps:List Nat}{l:Vc}{t:Nat},Ech ps f->(∀i,i<t->l i=0)->∀i,i<t->aY f ps l i=0
 |[],_,_,_,hz,i,hi=>hz i hi
 |p::ps,l,t,h,hz,i,hi=>by
  refine Jv (h.sub fun q hq=>.tail _ hq) (t:=t) (fun i hi=>?_) i hi
  by_cases hp:i<p
  ·rw[Ju h (.head _) hp];exact hz i hi
  ·unfold step
   rw[hz i hi,hz p ω];simp
def D_:∀{ps:List Nat}{l:Vc},Ech ps f->ps.Pairwise (·<·)->∀p∈ps,0<=aY f ps l p/\aY f ps l p<f p p
 |p::ps,l,h,hs,q,hq=>by
  rw[Bg] at hs;have h':Ech ps f:=h.sub fun q hq=>.tail _ hq;rcases List.mem_cons.mp hq with rfl|hq
  ·show 0<=aY f ps (step f q l) q/\aY f ps (step f q l) q<f q q
   rw[D9 h' (fun r hr=>hs.1 r hr)];exact step_at h (.head _)
  ·exact D_ h' hs.2 q hq
def nZ{R:List Vc}{P:List Nat}{CF VF:Nat}(d:∀p∈P,Rep R CF (f p))(g:∀p∈P,∀q∈P,(f p q).natAbs<=VF)(a:∀p∈P,0<f p p):∀(ps:List Nat){l:Vc}{C V:Nat},(∀p∈ps,p∈P)->Rep R C l->(∀q∈P,(l q).natAbs<=V)->Rep R (C+ps.length*(V*(1+VF) ^ ps.length*CF)) (aY f ps l)/\∀q∈P,(aY f ps l q).natAbs<=V*(1+VF) ^ ps.length
 |[],l,C,V,_,hr,hv=>⟨hr.mono ω,fun q hq=>by show(l q).natAbs<=V*(1+VF) ^ 0;rw[Nat.pow_zero,Nat.mul_one];exact hv q hq⟩
 |p::ps,l,C,V,hs,hr,hv=>by
  have hp:=hs p (.head _);have i:=a p hp;have c:(l p / f p p).natAbs<=V:=by
   refine Ae ?_ (hv p hp);have:(l p / f p p).natAbs<=(l p).natAbs:=by
    have:=Int.natAbs_ediv_le_natAbs (l p) (f p p);exact this
   exact this
  have r1:Rep R (C+V*CF) (step f p l):=hr.sub (d p hp) c;have h:∀q∈P,(step f p l q).natAbs<=V*(1+VF):=fun q hq=>by
   have j:=hv q hq;have o:(l p / f p p*f p q).natAbs<=V*VF:=by rw[AB];exact AR c (g p hp q hq)
   have r:(step f p l q).natAbs<=(l q).natAbs+(l p / f p p*f p q).natAbs:=by unfold step;(first|lia|omega)
   rw[Nat.mul_add,Nat.mul_one];(first|lia|omega)
  obtain⟨r2,b⟩:=nZ d g a ps (fun q hq=>hs q (.tail _ hq)) r1 h;have e:V*(1+VF)*(1+VF) ^ ps.length=V*(1+VF) ^ (ps.length+1):=by rw[Nat.pow_succ,AQ,Nat.mul_comm (1+VF)]
  rw[e] at r2 b;refine⟨r2.mono ?_,b⟩;show C+V*CF+ps.length*(V*(1+VF) ^ (ps.length+1)*CF)<=C+(ps.length+1)*(V*(1+VF) ^ (ps.length+1)*CF);have k1:V*1<=V*(1+VF) ^ (ps.length+1):=Al _ (Nat.pow_pos ω);have k2:V*CF<=V*(1+VF) ^ (ps.length+1)*CF:=Ak _ ω;rw[Nat.add_mul];(first|lia|omega)
end
end Tb
end
section
namespace Tb
def Sp(R:List Vc)(v:Vc):Prop:=∃c:List Int,c.length=R.length/\∀u,v u=cmb c R u
section
variable{R S:List Vc}{v w:Vc}
def Rep.sp{C:Nat}(h:Rep R C v):Sp R v:=let ⟨c,h1,h2,_⟩:=h;⟨c,h1,h2⟩
def Sp.eq(h:Sp R v)(e:∀u,w u=v u):Sp R w:=let ⟨c,h1,h2⟩:=h;⟨c,h1,fun u=>(e u).trans (h2 u)⟩
def Sp.zero:Sp R fun _=>0:=⟨Ar R.length 0,List.length_replicate,fun u=>(qP _ _ _).symm⟩
def Sp.lin(hv:Sp R v)(hw:Sp R w)(k m:Int):Sp R fun u=>k*v u+m*w u:=by
 obtain⟨c,h1,h2⟩:=hv;obtain⟨d,g1,g2⟩:=hw;refine⟨AA (fun a b=>k*a+m*b) c d,by rw[AE];(first|lia|omega),fun u=>?_⟩;show k*v u+m*w u=_;rw[fN k m c d R h1 g1,h2,g2]
def Sp.sub(hv:Sp R v)(hw:Sp R w)(m:Int):Sp R fun u=>v u-m*w u:=(hv.lin hw 1 (-m)).eq fun u=>by rw[Int.one_mul,Int.neg_mul];(first|lia|omega)
def Rep.mem:∀{R:List Vc}{v:Vc},v∈R->Rep R 1 v
 |r::R,v,h=>by
  rcases List.mem_cons.mp h with rfl|h
  ·exact⟨1::Ar R.length 0,by simp,fun u=>by show v u=1*v u+cmb (Ar R.length 0) R u;rw[qP];(first|lia|omega),fun x hx=>by
    rcases List.mem_cons.mp hx with rfl|hx
    ·decide
    ·rw[(List.mem_replicate.mp hx).2];decide⟩
  ·obtain⟨c,h1,h2,a⟩:=Rep.mem h
   exact⟨0::c,by simp[h1],fun u=>by show v u=0*r u+cmb c R u;rw[h2];(first|lia|omega),fun x hx=>by
    rcases List.mem_cons.mp hx with rfl|hx
    ·decide
    ·exact a x hx⟩
def Sp.mem(h:v∈R):Sp R v:=(Rep.mem h).sp
def Sp.cmb:∀(c:List Int)(S:List Vc),(∀s∈S,Sp R s)->Sp R (Tb.cmb c S)
 |[],[],_=>Sp.zero
 |[],_::_,_=>Sp.zero
 |_::_,[],_=>Sp.zero
 |a::c,s::S,h=>((h s (.head _)).lin (Sp.cmb c S fun w hw=>h w (.tail _ hw)) a 1).eq fun u=>by show a*s u+Tb.cmb c S u=_;(first|lia|omega)
def Sp.trans(h:Sp S v)(a:∀s∈S,Sp R s):Sp R v:=by
 obtain⟨c,_,h2⟩:=h;exact(Sp.cmb c S a).eq h2
def iC(R:List Vc):Prop:=∀c:List Int,c.length=R.length->(∀u,cmb c R u=0)->∀x∈c,x=0
def zQ{u:Nat}:∀(c:List Int)(L:List Vc),(∀v∈L,v u=0)->cmb c L u=0
 |[],[],_=>rfl
 |[],_::_,_=>rfl
 |_::_,[],_=>rfl
 |a::c,v::L,h=>by
  show a*v u+cmb c L u=0;rw[h v (.head _),zQ c L fun w hw=>h w (.tail _ hw),AX];rfl
end
section
variable{f:Nat->Vc}
def GH:∀{P:List Nat},Ech P f->P.Pairwise (·<·)->∀c:List Int,c.length=P.length->(∀p∈P,cmb c (P.map f) p=0)->∀x∈c,x=0
 |[],_,_,c,hl,_,x,hx=>by rw[AK hl] at hx;cases hx
 |p::P,h,hs,[],hl,_,x,hx=>by cases hx
 |p::P,h,hs,a::c,hl,hz,x,hx=>by
  rw[Bg] at hs;have b:=hz p (.head _);have e:cmb (a::c) ((p::P).map f) p=a*f p p:=by
   show a*f p p+cmb c (P.map f) p=a*f p p;rw[zQ c (P.map f) fun v hv=>by
    obtain⟨q,hq,rfl⟩:=List.mem_map.mp hv;exact h.z q (.tail _ hq) p (hs.1 q hq)]
   (first|lia|omega)
  rw[e] at b;have hp:=h.pos p (.head _);have d:a=0:=by
   rcases Int.mul_eq_zero.mp b with z|z
   ·exact z
   ·(first|lia|omega)
  subst d;rcases List.mem_cons.mp hx with rfl|hx
  ·rfl
  ·refine GH (h.sub fun q hq=>.tail _ hq) hs.2 c (by simpa using hl) (fun q hq=>?_) x hx
   have:=hz q (.tail _ hq);have e:cmb (0::c) ((p::P).map f) q=0*f p q+cmb c (P.map f) q:=rfl;rw[e] at this;(first|lia|omega)
def n7:∀(c:List Int)(L:List Vc)(u:Nat),(∀x∈c,x=0)->cmb c L u=0
 |[],[],_,_=>rfl
 |[],_::_,_,_=>rfl
 |_::_,[],_,_=>rfl
 |a::c,v::L,u,h=>by show a*v u+cmb c L u=0;rw[h a (.head _),n7 c L u fun x hx=>h x (.tail _ hx)];(first|lia|omega)
def ro{R:List Vc}{P:List Nat}(hi:iC R)(h:Ech P f)(b:P.Pairwise (·<·))(e:∀r∈R,Sp (P.map f) r):Inj R P:=fun c hc hz=>by
 obtain⟨d,h1,h2⟩:=Sp.cmb c R e;have a:=GH h b d (by simpa using h1) fun p hp=>by rw[<-h2];exact hz p hp
 exact hi c hc fun u=>by rw[h2];exact n7 d _ u a
def jM:∀{P:List Nat}{p:Nat}{w:Vc},Ech P f->P.Pairwise (·<·)->p∈P->Sp (P.map f) w->(∀q∈P,q<p->w q=0)->f p p ∣ w p
 |[],_,_,_,_,hp,_,_=>nomatch hp
 |q::P,p,w,h,hs,hp,⟨c,hc,e⟩,hz=>by
  cases c with
  |nil=>simp at hc
  |cons a c=>
   rw[Bg] at hs;have eq:w q=a*f q q:=by
    rw[e];show a*f q q+cmb c (P.map f) q=a*f q q;rw[zQ c (P.map f) fun v hv=>by
     obtain⟨r,hr,rfl⟩:=List.mem_map.mp hv;exact h.z r (.tail _ hr) q (hs.1 r hr)]
    (first|lia|omega)
   rcases List.mem_cons.mp hp with rfl|hp
   ·exact⟨a,by rw[eq,A5]⟩
   ·have hq:=hz q (.head _) (hs.1 p hp)
    rw[eq] at hq;have d:=h.pos q (.head _);have g:a=0:=by
     rcases Int.mul_eq_zero.mp hq with z|z
     ·exact z
     ·(first|lia|omega)
    refine jM (h.sub fun q hq=>.tail _ hq) hs.2 hp ⟨c,by simpa using hc,fun u=>?_⟩ fun r hr b=>hz r (.tail _ hr) b;rw[e];show a*f q u+cmb c (P.map f) u=_;rw[g];(first|lia|omega)
def N9{R:List Vc}{P:List Nat}{M:Nat}(j:1<=M)(hi:iC R)(h:Ech P f)(b:P.Pairwise (·<·))(d:∀r∈R,Sp (P.map f) r)(l:P.length=R.length)(hb:∀r∈R,∀p∈P,(r p).natAbs<=M){p:Nat}(hp:p∈P):(f p p).natAbs<=R.length*((2*R.length*M) ^ (R.length-1)*M):=by
 have i:P.Nodup:=b.imp fun h=>Az h;obtain⟨c,o,c0,e,g⟩:=GF j hb l i (ro hi h b d) hp;have hd:=jM h b hp (Sp.cmb c R d) fun q hq a=>e q hq (Az a);have:=Nat.le_of_dvd (k' c0) (Int.natAbs_dvd_natAbs.mpr hd);exact Ae this (ri c R g fun r hr=>hb r hr p hp)
end
end Tb
end
section
namespace Tb
structure GI(x y:Int)(t0 t1 t2 l0 l1 l2:Int):Prop where
 t:t0=t1*x+t2*y
 l:l0=l1*x+l2*y
 det:t1*l2-t2*l1=1\/t1*l2-t2*l1=-1
 tp:0<t0
 lp:0<=l0
 s1:(0<=t1/\l1<=0)\/(t1<=0/\0<=l1)
 s2:(0<=t2/\l2<=0)\/(t2<=0/\0<=l2)
 m1:l1.natAbs*t0.natAbs+t1.natAbs*l0.natAbs=y.natAbs
 m2:l2.natAbs*t0.natAbs+t2.natAbs*l0.natAbs=x.natAbs
 b1:t1.natAbs<=y.natAbs
 b2:t2.natAbs<=x.natAbs
def GI.start{x y:Int}(hx:0<x)(hy:0<y):GI x y x 1 0 y 0 1:=
 ⟨ω,ω,ω,hx,ω,.inl ⟨ω,ω⟩,.inr ⟨ω,ω⟩,by simp,by simp,ω,ω⟩
def Jw{a b q:Int}(hq:0<=q)(h:(0<=a/\b<=0)\/(a<=0/\0<=b)):(a-q*b).natAbs=a.natAbs+q.natAbs*b.natAbs:=by
 have e:(q*b).natAbs=q.natAbs*b.natAbs:=AB ..;rcases h with ⟨h1,h2⟩|⟨h1,h2⟩
 ·have:q*b<=0:=Int.mul_nonpos_of_nonneg_of_nonpos hq h2
  (first|lia|omega)
 ·have:0<=q*b:=Int.mul_nonneg hq h2
  (first|lia|omega)
def GI.next{x y t0 p r c f i:Int}(g:GI x y t0 p r c f i)(h:c≠0):GI x y c f i (t0-t0 / c*c) (p-t0 / c*f) (r-t0 / c*i)/\t0-t0 / c*c<c:=by
 have o:0<c:=by have:=g.lp;(first|lia|omega)
 have j:0<=t0 / c:=Int.ediv_nonneg (Int.le_of_lt g.tp) g.lp;have em:t0-t0 / c*c=t0%c:=by have:=Int.emod_add_mul_ediv t0 c;rw[A5] at this;(first|lia|omega)
 have u:0<=t0%c:=Int.emod_nonneg _ h;have v:t0%c<c:=Int.emod_lt_of_pos _ o;have k1:=Jw j g.s1;have k2:=Jw j g.s2;have s:∀{a b n:Nat},b*t0.natAbs+a*c.natAbs=n->(a+(t0 / c).natAbs*b)*c.natAbs+b*(t0-t0 / c*c).natAbs=n:=fun{a b n} e=>by
  have e1:(t0-t0 / c*c).natAbs+(t0 / c).natAbs*c.natAbs=t0.natAbs:=by
   have:(t0 / c*c).natAbs=(t0 / c).natAbs*c.natAbs:=AB ..;have:0<=t0 / c*c:=Int.mul_nonneg j g.lp;have:=g.tp;(first|lia|omega)
  rw[<-e,<-e1,Nat.add_mul,Nat.mul_add,AQ,Nat.mul_left_comm b];(first|lia|omega)
 refine⟨⟨g.l,?_,?_,o,ω,?_,?_,?_,?_,?_,?_⟩,ω⟩
 ·have e1:=g.t
  have e2:=g.l;generalize t0 / c=q;rw[Int.sub_mul,Int.sub_mul,AS,AS];have:q*c=q*(f*x)+q*(i*y):=by rw[e2,Bi]
  (first|lia|omega)
 ·have d:=g.det
  generalize t0 / c=q;rw[Int.mul_sub,Int.mul_sub,Int.mul_left_comm f q i,Int.mul_left_comm i q f,A5 i f,A5 f r,A5 i p];(first|lia|omega)
 ·rcases g.s1 with ⟨h1,h2⟩|⟨h1,h2⟩
  ·have:t0 / c*f<=0:=Int.mul_nonpos_of_nonneg_of_nonpos j h2
   exact .inr ⟨h2,ω⟩
  ·have:0<=t0 / c*f:=Int.mul_nonneg j h2
   exact .inl ⟨h2,ω⟩
 ·rcases g.s2 with ⟨h1,h2⟩|⟨h1,h2⟩
  ·have:t0 / c*i<=0:=Int.mul_nonpos_of_nonneg_of_nonpos j h2
   exact .inr ⟨h2,ω⟩
  ·have:0<=t0 / c*i:=Int.mul_nonneg j h2
   exact .inl ⟨h2,ω⟩
 ·rw[k1];exact s g.m1
 ·rw[k2];exact s g.m2
 ·have:=g.m1
  have h1:f.natAbs*1<=f.natAbs*t0.natAbs:=Al _ (by have:=g.tp;(first|lia|omega));(first|lia|omega)
 ·have:=g.m2
  have h1:i.natAbs*1<=i.natAbs*t0.natAbs:=Al _ (by have:=g.tp;(first|lia|omega));(first|lia|omega)
def GI.le{x y t0 c d e a b:Int}(g:GI x y t0 c d e a b):a.natAbs<=y.natAbs/\b.natAbs<=x.natAbs:=by
 have h1:a.natAbs*1<=a.natAbs*t0.natAbs:=Al _ (by have:=g.tp;(first|lia|omega));have h2:b.natAbs*1<=b.natAbs*t0.natAbs:=Al _ (by have:=g.tp;(first|lia|omega));have:=g.m1;have:=g.m2;(first|lia|omega)
end Tb
end
section
namespace K26
open PySem L2
abbrev Ea:Stmt:=top 33
section
variable{P:Program}{w:World}{K:Ah}{mg:Str->Option Value}{base:Heap}
def Jx:Sp:=fun vs H Q _=>∃(r:Addr)(rn:List Int)(k:Nat),vs=[.ref r]/\H r=some (.lst (rn.map V.int))/\(∀i,i<k->rn[i]?=some 0)/\(∃x,rn[k]?=some x/\x≠0)/\Q (.int k) H
def GJ:zo ["row","place"] ["row"] (zf Ea):=⟨rfl,rfl,rfl,δ,rfl,δ,δ⟩
def N_{f:Addr}{fd:FuncData}(F:Fun K "first_place" "first_place" Ea f fd):al P w K mg base aG 1 f fd ["row"] Jx:=by
 refine F.ok GJ (fun vs H Q E h=>?_) (fun l A outer s H vs Q E hr h=>?_)
 ·obtain⟨r,rn,k,rfl,_⟩:=h;rfl
 ·obtain⟨r,rn,k,rfl,h1,e,⟨x,hx,g⟩,hq⟩:=h
  refine⟨_,zc (zp (i:=1) GJ.nd rfl (Or.inl rfl) zd)
   (zc (uK A4 (zy hH (zx zt (pv 0) (pv 1) (fun _ _=>rfl)) zd (ap _))
    (zh (zp (i:=1) GJ.nd rfl (Or.inl rfl) (zA dP (pv 1) zd))))
   (zh (zq (pv 1)))),?_⟩
  refine⟨fun n σ a=>∃i:Nat,n=k-i/\i<=k/\σ=[some (.ref r),some (.int i)]/\a=H,⟨_,0,rfl,ω,rfl,rfl⟩,?_⟩;rintro n σ a ⟨i,rfl,hi,rfl,rfl⟩;obtain⟨y,hy,d⟩:∃y,rn[i]?=some y/\(y=0↔i<k):=by
   rcases Bk i k with c|c
   ·exact⟨0,e i c,by simp[c]⟩
   ·have:i=k:=ω
    subst this;exact⟨x,hx,by simp[g]⟩
  refine⟨_,rfl,_,rfl,r,_,_,_,rfl,rfl,SqL.of h1,zj (j:=i) (v:=V.int y) (by rw[Aj,hy];rfl),rfl,_,rfl,?_⟩
  by_cases c:i<k
  ·rw[show decide (V.int y=V.int 0)=true by rw[d.mpr c];rfl]
   refine aV ⟨fun ad H'=>∃b,b<k-i/\∃i:Nat,b=k-i/\i<=k/\ad=[some (.ref r),some (.int i)]/\H'=a,fun ad H' h=>h,?_⟩;exact⟨_,rfl,_,_,rfl,rfl,k-(i+1),ω,i+1,rfl,ω,rfl,rfl⟩
  ·rw[show decide (V.int y=V.int 0)=false from decide_eq_false fun z=>c (d.mp (by injection z))]
   have:i=k:=ω
   subst this;exact aP ⟨_,rfl,hq⟩
end
end K26
end
section
namespace K26
open PySem L2
abbrev xB:Stmt:=top 34
def Oa:A8 "tuple"=some (.type "tuple"):=δ
section
variable{P:Program}{w:World}{K:Ah}{mg:Str->Option Value}{base:Heap}
def Ob{H2:Hp}{r o D:Addr}{rn on:List Int}{f:Int->Int->Int}{te:TE}{c:List (Option V)}{Q:VK}(v:∀(a b:Int)(H:Hp)(R:VK),a∈rn->b∈on->R (.int (f a b)) H->te (some (.int a)::some (.int b)::c) H R)(h1:H2 r=some (.tup (rn.map V.int)))(h2:H2 o=some (.tup (on.map V.int)))(n2:on.length<=1000)(s:H2 D=none)(k:∀d,Same H2 d->d D=some (.lst ((AA f rn on).map V.int))->Q (.ref D) d):cP (DU K r o) (b6 K 2 (cf (zT 0) (cf (zT 1) b3))) bJ te (none::none::c) H2 D Q:=by
 refine Nu (K:=K) (xs:=rn.map V.int) (ys:=on.map V.int) (fun i σ zs d=>∃j l,σ=j::l::c/\Same H2 d/\d D=some (.lst zs)/\zs=((AA f rn on).take i).map V.int)
  ⟨none,none,rfl,Same.new s,af,rfl⟩ (fun i σ zs d ⟨_,_,_,sm,_⟩=>⟨SqT.of (sm _ _ h1),SqT.of (sm _ _ h2)⟩) ?_ ?_
 ·rintro i σ zs d u w x e1 e2 hi hz ⟨j,l,rfl,h,e,rfl⟩ g
  obtain⟨p,g1,rfl⟩:=fh e1;obtain⟨q,g2,rfl⟩:=fh e2;refine⟨u,_,rfl,SqT.of af,rfl,_,_,rfl,_,_,rfl,rfl,gz ?_⟩;refine v p q _ _ (Am g1) (Am g2) (bK (Ae (Nat.min_le_right _ _) (by rw[Ab];exact zE ω)) hi hz (by rw[am (zl e g)];exact e) ⟨_,_,rfl,?_,af,?_⟩)
  ·exact(h.then (h.free g)).then s
  ·have e3:(AA f rn on)[i]?=some (f p q):=by rw[List.getElem?_zipWith,g1,g2]
   rw[Bp e3,Aw];rfl
 ·rintro σ zs d ⟨j,l,rfl,h,e,rfl⟩
  refine k d h ?_;rw[e,Av (by simp)]
abbrev Tr(H:Hp)(p:Addr)(a b c:Int):Prop:=H p=some (.tup [.int a,.int b,.int c])
def Jy:Sp:=fun vs H Q _=>∃x y:Int,vs=[.int x,.int y]/\0<x/\0<y/\x.natAbs<2 ^ 9000/\y.natAbs<2 ^ 9000/\
 ∀r p q H' t0 a b c d,Same H H'->H' r=some (.tup [.ref p,.ref q])->Tr H' p t0 a b->Tr H' q 0 c d->Tb.GI x y t0 a b 0 c d->Q (.ref r) H'
def oe:zo ["one","other","told","left","often","rest"] ["one","other"] (zf xB):=⟨rfl,rfl,rfl,δ,rfl,δ,δ⟩
def Oc{f:Addr}{fd:FuncData}(F:Fun K "divisor_pair" "divisor_pair" xB f fd)(bz:mg "zip"=none)(bt:mg "tuple"=none):al P w K mg base aG 1 f fd ["one","other"] Jy:=by
 refine F.ok oe (fun vs H Q E h=>?_) (fun ah A outer s H vs Q E hr h=>?_)
 ·obtain⟨x,y,rfl,_⟩:=h;rfl
 ·obtain⟨x,y,rfl,x0,y0,xb,X,k⟩:=h
  refine⟨_,zc (zp (i:=2) oe.nd rfl (Or.inl rfl) (hJ (za (pv 0) (za zd (za zd zb)))))
   (zc (zp (i:=3) oe.nd rfl (Or.inl rfl) (hJ (za (pv 1) (za zd (za zd zb)))))
   (zc (uK A4 (zy gf (zx zK (pv 3) zd (fun _ _=>rfl)) zd (ap _))
    (zc (zp (i:=4) oe.nd rfl (Or.inr rfl) (zA xk (zx zK (pv 2) zd (fun _ _=>rfl)) (zx zK (pv 3) zd (fun _ _=>rfl))))
    (zc (zp (i:=5) oe.nd rfl (Or.inl rfl) (i6 MP rfl bt Oa (za (zD ["one","other","told","left","often","rest"] ["high","low","often"] [none,none,some 4] (Np rfl bz jK (za (pv 2) (za (pv 3) zb)))
     (fun S C s₀ H₀ ex=>gX rfl (zH (zk (i:=0) (a9 ["high","low","often"]) rfl (Or.inl rfl)) (zH (zk (i:=1) (a9 ["high","low","often"]) rfl (Or.inl rfl)) gW))) (fun S C s₀ H₀ ex=>zC)
     (fun S C s₀ H₀ ex=>zA eR (pv 0) (zA qO (pv 2) (pv 1))) (te:=cn (g0 fun i j=>.int (i-j)) (ar 0) (cn (rI eH fun i j=>.int (i*j)) (ar 2) (ar 1))) (hfr:=bD (zf xB) δ) (g:=b6 K 2 (cf (zT 0) (cf (zT 1) b3)))) zb)))
    (zc (zp (i:=2) oe.nd rfl (Or.inl rfl) (pv 3))
    (zh (zp (i:=3) oe.nd rfl (Or.inl rfl) (pv 5)))))))
   (zh (zq (hJ (za (pv 2) (za (pv 3) zb))))))),?_⟩
  refine⟨_,rfl,zE (show 3<=100000 from ξ),fun T u=>⟨_,rfl,zE (show 3<=100000 from ξ),fun L e=>?_⟩⟩;have Y:T≠L:=zl af e;refine⟨fun n σ J=>∃(T L:Addr)(t0 q r d l p:Int)(v G:Option V),n=d.natAbs/\σ=[some (.int x),some (.int y),some (.ref T),some (.ref L),v,G]/\Same H J/\Tr J T t0 q r/\Tr J L d l p/\Tb.GI x y t0 q r d l p/\t0.natAbs<2 ^ 9000/\d.natAbs<2 ^ 9000,
   ⟨_,T,L,x,1,0,y,0,1,none,none,rfl,rfl,(Same.new u).trans (Same.new e),(by show upd _ L _ T=_;rw[am Y];exact af),af,Tb.GI.start x0 y0,xb,X⟩,?_⟩
  clear e Y;clear u T L;rintro n σ J ⟨T,L,t0,q,r,d,l,p,v,G,rfl,rfl,sm,u,e,g,tb,I⟩;refine⟨_,rfl,L,_,_,_,rfl,rfl,SqT.of e,zj (j:=0) rfl,rfl,_,rfl,?_⟩
  by_cases c:d=0
  ·rw[show(!decide (V.int d=V.int 0))=false by rw[c];rfl]
   subst c;refine aP ⟨_,rfl,_,rfl,zE (show 2<=100000 from ξ),fun R M=>?_⟩;have O:=Same.new (o:=.tup [.ref T,.ref L]) M;exact k R T L _ t0 q r l p (sm.trans O) af (O _ _ u) (O _ _ e) g
  ·rw[show(!decide (V.int d=V.int 0))=true by rw[decide_eq_false (fun z=>c (by injection z))];rfl]
   obtain⟨g2,lt⟩:=g.next c;have wP:0<d:=by have:=g.lp;(first|lia|omega)
   have q0:0<=t0 / d:=Int.ediv_nonneg (Int.le_of_lt g.tp) g.lp;have yE:(t0 / d).natAbs<=t0.natAbs:=Int.natAbs_ediv_le_natAbs _ _;have Z:=g.le;refine aV ⟨fun ad H'=>∃W,W<d.natAbs/\∃(T L:Addr)(t0 q r d l p:Int)(v G:Option V),W=d.natAbs/\ad=[some (.int x),some (.int y),some (.ref T),some (.ref L),v,G]/\Same H H'/\Tr H' T t0 q r/\Tr H' L d l p/\Tb.GI x y t0 q r d l p/\t0.natAbs<2 ^ 9000/\d.natAbs<2 ^ 9000,fun ad H' h=>h,?_⟩;refine⟨_,rfl,T,_,_,_,rfl,rfl,SqT.of u,zj (j:=0) rfl,_,rfl,L,_,_,_,rfl,rfl,SqT.of e,zj (j:=0) rfl,_,_,rfl,rfl,⟨wP,I⟩,?_⟩;refine⟨_,rfl,_,rfl,T,L,rfl,⟨_,SqT.of u⟩,⟨_,SqT.of e⟩,fun D hD=>zB (Ob (rn:=[t0,q,r]) (on:=[d,l,p]) (f:=fun a b=>a-t0 / d*b) (fun a b H' R _ hb M=>?_) u e (by simp) hD fun H4 U aT=>?_)⟩
   ·refine⟨_,rfl,_,rfl,_,rfl,_,_,rfl,rfl,⟨9000,9000,At yE tb,?_,ξ⟩,_,_,rfl,rfl,M⟩
    simp at hb;rcases hb with rfl|rfl|rfl
    ·exact I
    ·exact At Z.1 X
    ·exact At Z.2 xb
   ·refine⟨D,_,rfl,.inl ⟨SqL.of aT,fun N hN=>?_⟩⟩
    have s5:=Same.new (o:=.tup (([t0-t0 / d*d,q-t0 / d*l,r-t0 / d*p]:List Int).map V.int)) hN;refine⟨_,rfl,_,rfl,(t0-t0 / d*d).natAbs,by have:=g2.lp;(first|lia|omega),L,N,d,l,p,_,_,_,_,_,rfl,rfl,(sm.trans U).trans s5,(U.trans s5) _ _ e,af,g2,I,?_⟩;have:=g2.lp;exact Nat.lt_trans ω I
end
end K26
end
section
namespace STb
open PySem PySem.SetTable PyProof.Rows cu PySem.W
section
variable{prog:Program}{w:World}{A:Around}{E:Ω}{s:Shared}{S:Addr}
def Od{T:String}{r d:Addr}{n:Nat}{P:Nat->Value->Prop}{j:Heap->Prop}{R:List Value->Shared->Prop}(K:KdlSrc prog w T r d n P j)(p:A.handled=none)(i:j s.heap)(u:n<=sizeLine)(h:∀(h':Heap)(tk:Nat)(acc:Array Value),s⁻¹<=h'.objs.size->(∀b o,s.heap.get? b=some o->h'.get? b=some o)->ItemsOf P acc n->R acc.toList {s with heap:=h',toks:=tk}):wpAny (model prog w) A (collect (.ref r)) R E s:=by
 obtain⟨hr,hd⟩:=K.there _ i;unfold collect;refine Ag (wpAny_runValue (codeAny_builtin entry_proto_collect' ?_));rw[Around.under_plainId PySem.F.plain_proto_collect _];show wpAny _ A.in1 (do again (.builtin "list.__iadd__" ⟨[<-newList [],.ref r],[]⟩)) _ _ s;refine Ag (wpAny_newObj_type (Aq ⟨plainId_quiet PySem.F.plain_list_iadd _,codeAny_builtin entry_list_iadd' ?_⟩));rw[Around.under_plainId PySem.F.plain_list_iadd _];show wpAny _ A.in1 (Builtin.List.listExtendWith (.ref s⁻¹) (.ref r) (.ref s⁻¹)) _ _ _;have fin:∀(h':Heap)(tk:Nat)(acc:Array Value)(c:Nat),(∀b o,s.heap.get? b=some o->h'.get? b=some o)->h'.get? s⁻¹=some {cls:=.type "list",dict:=none,data:=.seq acc c,slots:=#[]}->ItemsOf P acc n->
   wpAny (model prog w) A (do match (<-load s⁻¹).data with
    |.seq xs _=>pure xs.toList
    |_=>unsupported "internal:collect") R E {s with heap:=h',toks:=tk}:=fun h' tk acc c hk a g=>Ag (wpAny_load a (Aq (h h' tk acc (Nat.le_of_lt (Au a)) hk g)))
 refine wpAny_mono (kdl_extend (A:=A) (s:={s with heap:=s.heap.push {cls:=.type "list",data:=.seq ([]:List Value).toArray}})
  (R:=fun q s'=>∃h' tk acc c,q=Except.ok (Flow.ret (.ref s⁻¹))/\s'={s with heap:=h',toks:=tk}/\(∀b o,s.heap.get? b=some o->h'.get? b=some o)/\h'.get? s⁻¹=some {cls:=.type "list",dict:=none,data:=.seq acc c,slots:=#[]}/\ItemsOf P acc n)
  K p (K.keep _ _ i fun b _ o e=>Ai _ e) s⁻¹ (Nat.ne_of_gt hr) (Nat.ne_of_gt hd) (.ref s⁻¹) 0 (AO _ rfl)
  (fun h' tk acc c hk a g=>⟨h',tk,acc,c,rfl,rfl,fun b o e=>hk b o (Az (Au e)) (Ai _ e),a,g⟩) u) (fun f s' x=>?_) fun e s' x=>?_
 ·cases f with
  |done f=>
   obtain⟨h',tk,acc,c,e,rfl,hk,a,g⟩:=x;cases e;exact fin h' tk acc c hk a g
  |again c₁=>
   refine⟨x.1,codeAny_mono x.2 fun q v y=>?_⟩;obtain⟨h',tk,acc,c,rfl,rfl,hk,a,g⟩:=y;exact fin h' tk acc c hk a g
 ·obtain⟨_,_,_,_,l,_⟩:=x
  cases l
end
end STb
namespace L2
open PySem PySem.Spec PyProof.Rows
section
variable{X:Cx}
def Oe{ns:List Int}{a:List Value}{out:List Value}(hi:IntsAre a ns)(d:cu.Out (ns.map fun n=>[n]) a out):∃ms:List Int,Vals (ms.map V.int) out/\ms.Perm ns/\ms.Pairwise (·<=·):=by
 obtain⟨ps,hp,d,f⟩:=d;have j:a.length=ns.length:=hi.length;have all:∀p∈ps,∃n t,p.1=[n]/\p.2=Value.int n t:=fun p b=>by
  obtain⟨i,e⟩:=List.mem_iff_getElem?.mp (hp.mem_iff.mp b);rw[cu.dk,Aj] at e;cases e1:ns[i]? with
  |none=>rw[e1] at e;simp at e
  |some n=>
   obtain⟨t,e2⟩:=hi.get i n e1;rw[e1,e2] at e;simp only[Option.map_some,Option.bind_some,Option.some.injEq] at e;subst e;exact⟨n,t,rfl,rfl⟩
 have g:∀ps:List (List Int×Value),(∀p∈ps,∃n t,p.1=[n]/\p.2=Value.int n t)->Vals ((ps.map fun p=>p.1.headD 0).map V.int) (ps.map (·.2)):=by
  intro ps
  induction ps with
  |nil=>intro _;exact .nil
  |cons p ps ih=>
   intro h;obtain⟨n,t,e1,e2⟩:=h p AI;refine .cons ?_ (ih fun q hq=>h q (AM _ hq));show RelV (V.int (p.1.headD 0)) p.2;rw[e1,e2];exact⟨t,rfl⟩
 refine⟨ps.map fun p=>p.1.headD 0,by rw[d];exact g ps all,?_,?_⟩
 ·have h1:=hp.map (fun p:List Int×Value=>p.1.headD 0)
  have e:((ns.map fun n=>[n]).zip a).map (fun p:List Int×Value=>p.1.headD 0)=ns:=by
   rw[show(fun p:List Int×Value=>p.1.headD 0)=(fun l:List Int=>l.headD 0) ∘ Prod.fst from rfl,<-AT,List.map_fst_zip (by rw[Ab];lia),AT];exact List.map_id' ns
  rw[e] at h1;exact h1
 ·rw[List.pairwise_map]
  refine f.imp_of_mem fun{p q} h1 h2 c=>?_;obtain⟨n,t,e1,_⟩:=all p h1;obtain⟨m,t',e2,_⟩:=all q h2;rw[e1,e2,HT.vB] at c;rw[e1,e2];show n<=m
  by_cases e:m=n
  ·lia
  ·rw[if_neg e] at c
   have:=of_decide_eq_false c
   lia
end
end L2
end
section
namespace STb
open PySem PySem.SetTable PyProof.Rows cu PySem.W
section
variable{prog:Program}{w:World}{A:Around}{E:Ω}{s:Shared}
def Of{T:String}{r d:Addr}{n:Nat}{P:Nat->Value->Prop}{l:Heap->Prop}{ns:List Int}{Q:Ω}(K:KdlSrc prog w T r d n P l)(u:A.handled=none)(f:l s.heap)(v:n<64)(hi:∀acc:Array Value,ItemsOf P acc n->IntsAre acc.toList ns)(h:∀(D:Addr)(h':Heap)(tk e:Nat)(j:List Value)(out:Array Value),s⁻¹<=D->(∀b o,s.heap.get? b=some o->h'.get? b=some o)->h'.get? D=some (seqObj "list" out e)->IntsAre j ns->Out (ns.map fun n=>[n]) j out.toList->Q (.ref D) {s with heap:=h',toks:=tk}):wpAny (model prog w) A (call (.builtin "sorted") [.ref r]) Q E s:=by
 refine Calls.call_function_entry kind_sorted plain_sorted entry_sorted (args_sorted1 _) ?_;unfold Builtin.«sorted»;refine Ag (m:=checkCount "sorted" 1 1 _) (Aq ?_);refine Ag (Od (A:=A.in1) K u f (by rw[sizeLine_eq];(first|lia|omega)) fun h' tk acc a hk g=>?_);have hi:=hi acc g;have i:acc.toList.length=n:=by rw[Array.length_toList];exact g.1
 refine Ag (wpAny_newList ?_ (by rw[i,sizeLine_eq];(first|lia|omega)));have c:(h'.push (seqObj "list" acc.toList.toArray 0)).get? h'.objs.size=some (seqObj "list" acc.toList.toArray 0):=AO _ rfl;refine Ag (wpAny_holding (wpAny_call_entry slot_list_sort ⟨_,c,rfl⟩ entry_list_sort (NL (s:={s with heap:=h'.push (seqObj "list" acc.toList.toArray 0),toks:=tk}) (good:=fun _=>True) c (NI hi) (fun _ _=>trivial) (by rw[i,sizeLine_eq];(first|lia|omega)) ω fun out p=>⟨_,rfl,?_⟩) (args_list_sort _)));obtain⟨e,q⟩:=sortedHeap_at (out:=out) c;refine Aq ⟨_,rfl,h h'.objs.size _ tk e acc.toList out a (fun b o e=>?_) q hi p⟩;have hb:b<h'.objs.size:=Au (hk b o e);rw[sortedHeap_old (Az hb) (by rw[size_push'];exact Nat.lt_succ_of_lt hb)];exact Ai _ (hk b o e)
end
end STb
namespace L2
open PySem PySem.Spec PyProof.Rows
section
variable{X:Cx}
abbrev dZ(ps:List (Int×V)):HO:=.dK (ps.map fun p=>(Sum.inl p.1,p.2))
def ints_of{ps:List (Int×V)}:∀{m:List (Key×Value)}{a:List Value},KV (ps.map fun p=>((Sum.inl p.1:Key),p.2)) m->a.length=m.length->(∀(i:Nat) v,a[i]?=some v->∃k x,m[i]?=some (k,x)/\(eP X.prog X.w).is k v=true)->IntsAre a (ps.map (·.1)):=by
 induction ps with
 |nil=>
  intro m a q h1 _;cases q;cases a with
  |nil=>exact .nil
  |cons _ _=>simp at h1
 |cons p ps ih=>
  intro m a q h1 h2;cases q with
  |@cons _ q' _ qs hq t=>
   cases a with
   |nil=>simp at h1
   |cons v a=>
    obtain⟨k,x,g1,g2⟩:=h2 0 v rfl;simp only[List.getElem?_cons_zero,Option.some.injEq] at g1;have hk:(Sum.inl p.1:Key)=k:=by rw[g1] at hq;exact hq.1
    subst hk;obtain⟨t',e2⟩:∃t',v=Value.int p.1 t':=Nv g2;subst e2;exact .cons _ _ (ih t (by simpa using h1) fun i v e=>by simpa using h2 (i+1) v (by simpa using e))
def xG(hc:X.calm=true):f' X (.builtin "sorted") (fun xs H Q=>∃a ps,xs=[.ref a]/\H a=some (dZ ps)/\ps.length<64/\∀(D:Addr)(ms:List Int),ms.Perm (ps.map (·.1))->ms.Pairwise (·<=·)->H D=none->Q (.ref D) (upd H D (.lst (ms.map V.int)))):=by
 intro aa s σ H xs us Q I r h;obtain⟨a,ps,rfl,hq,hz,q⟩:=h;obtain⟨u,rfl,p⟩:=vals1 r;cases p;obtain⟨z,y,vs,d,dd⟩:=IV I.hok hq;obtain⟨ep,dd⟩:=dd.dictAt;have E:ps.length=vs.length:=by simpa using d.length
 refine STb.Of (ns:=ps.map (·.1)) (PySem.W.kdl_dict (knd:=eP X.prog X.w) (kvs:=vs) (ep:=ep) y) (I.ok.hd hc) dd ω (fun acc it=>ints_of (X:=X) d (by simpa using it.1) fun i v e=>it.2 i v (by simpa using e)) fun D h' tk e C out c g j hi l=>?_;obtain⟨ks,x,f,A⟩:=Oe hi l;have hk:ks.length=ps.length:=by simpa using f.length_eq
 refine⟨.ref D,_,I.laid (o:=.lst (ks.map V.int)) (fun b u e=>g b u e) c (show zak X.prog X.w _ _ _ (.lst (ks.map V.int)) from⟨by rw[Ab,sizeLine_eq];(first|lia|omega),out.toList,e,x,by simpa using j⟩),rfl,q _ _ f A (I.hok.fresh c)⟩
end
end L2
end
section
namespace L2
open PySem PySem.Spec PyProof.Rows
section
variable{X:Cx}
def Og{kvs:List (Key×V)}(c:(kvs.map (·.1)).Nodup){k:Key}{v:V}(h:(k,v)∈kvs):b7 kvs k=some v:=by
 unfold b7
 induction kvs with
 |nil=>cases h
 |cons a r ih=>
  rw[Bb,List.nodup_cons] at c;rcases List.mem_cons.mp h with e|e
  ·subst e
   simp
  ·have b:a.1≠k:=fun z=>c.1 (by rw[z];exact List.mem_map_of_mem (f:=(·.1)) e)
   rw[List.find?_cons_of_neg (by simpa using b)];exact ih c.2 e
def Oh{kvs:List (Key×V)}{k:Key}(h:∀a∈kvs,a.1≠k):b7 kvs k=none:=by
 unfold b7;rw[List.find?_eq_none.mpr fun a hk=>by simpa using h a hk]
 rfl
end
end L2
end
section
namespace K26
open PySem L2
abbrev jQ:Stmt:=top 31
abbrev eS(es:List (Nat×Addr)):List (Int×V):=es.map fun e=>((e.1:Int),V.ref e.2)
structure Fnd(H:Hp)(a:Addr)(es:List (Nat×Addr))(fr:Nat->List Int):Prop where
 at_:H a=some (dZ (eS es))
 nd:(es.map (·.1)).Nodup
 rows:∀e∈es,H e.2=some (.lst ((fr e.1).map V.int))
def Fnd.same{H H':Hp}{a:Addr}{es:List (Nat×Addr)}{fr:Nat->List Int}(h:Fnd H a es fr)(s:Same H H'):Fnd H' a es fr:=⟨s _ _ h.at_,h.nd,fun e b=>s _ _ (h.rows e b)⟩
def Oi{c d:Type}{f:c->d}{l:List c}(g:∀a b,f a=f b->a=b)(h:l.Nodup):(l.map f).Nodup:=by
 rw[List.Nodup,List.pairwise_map];exact h.imp fun n e=>n (g _ _ e)
def Fnd.get{H:Hp}{a:Addr}{es:List (Nat×Addr)}{fr:Nat->List Int}(h:Fnd H a es fr){p:Nat}(hp:p∈es.map (·.1)):∃d,(p,d)∈es/\DGet H a (.int p) (some (.ref d))/\H d=some (.lst ((fr p).map V.int)):=by
 obtain⟨e,c,rfl⟩:=List.mem_map.mp hp;refine⟨e.2,c,?_,h.rows e c⟩;have:=DGet.k (k:=Sum.inl (e.1:Int)) h.at_;rw[Og (v:=V.ref e.2) ?_ ?_] at this
 ·exact this
 ·have e2:((eS es).map fun p=>((Sum.inl p.1:Key),p.2)).map (·.1)=(es.map (·.1)).map fun n:Nat=>(Sum.inl (n:Int):Key):=by simp[eS,Function.comp_def]
  rw[e2];exact Oi (fun a b z=>by injection z with z;(first|lia|omega)) h.nd
 ·exact List.mem_map.mpr ⟨((e.1:Int),V.ref e.2),List.mem_map.mpr ⟨e,c,rfl⟩,rfl⟩
def cY(fr:Nat->List Int)(l:List Int)(p:Nat):List Int:=dz l (l.getD p 0 / (fr p).getD p 0) (fr p)
def aK(fr:Nat->List Int)(rn:List Int)(ps:List Nat):List Int:=ps.foldl (cY fr) rn
structure la(fr:Nat->List Int)(W:Nat)(rn:List Int)(ps:List Nat):Prop where
 len:rn.length=W
 most:W<=1000
 row:∀p∈ps,p<W/\(fr p).length=W/\D4 0 ((fr p).getD p 0)
 mul:∀i p,ps[i]?=some p->∀x∈fr p,eH ((aK fr rn (ps.take i)).getD p 0 / (fr p).getD p 0) x
def GK{fr:Nat->List Int}{l:List Int}{p W:Nat}(h:l.length=W)(h2:(fr p).length=W):(cY fr l p).length=W:=by
 unfold cY dz;rw[AE];(first|lia|omega)
def rq{fr:Nat->List Int}{W:Nat}:∀{ps:List Nat}{rn:List Int},rn.length=W->(∀p∈ps,(fr p).length=W)->(aK fr rn ps).length=W
 |[],_,h,_=>h
 |p::ps,rn,h,h2=>rq (ps:=ps) (GK h (h2 p (AI ..))) fun q hq=>h2 q (AM _ hq)
def Eb{fr:Nat->List Int}{rn:List Int}{ps:List Nat}{i p:Nat}(h:ps[i]?=some p):aK fr rn (ps.take (i+1))=cY fr (aK fr rn (ps.take i)) p:=by
 rw[Bp h];unfold aK;rw[List.foldl_append];rfl
def GL{l on:List Int}(h:l.length=on.length):dz l 0 on=l:=by
 unfold dz;refine AZ (by rw[AE];(first|lia|omega)) fun i h1 h2=>?_;rw[A0];(first|lia|omega)
section
variable{P:Program}{w:World}{K:Ah}{mg:Str->Option Value}{base:Heap}
def Jz:Sp:=fun vs H Q _=>∃(r a pl:Addr)(rn:List Int)(es:List (Nat×Addr))(fr:Nat->List Int)(ps:List Nat)(W:Nat),vs=[.ref r,.ref a,.ref pl]/\H r=some (.lst (rn.map V.int))/\Fnd H a es fr/\H pl=some (.lst (ps.map fun p:Nat=>V.int (p:Int)))/\
 (∀p∈ps,p∈es.map (·.1))/\la fr W rn ps/\∀D H',Same H H'->H' D=some (.lst ((aK fr rn ps).map V.int))->Q (.ref D) H'
def xV:zo ["row","found","places","left","place","often"] ["row","found","places"] (zf jQ):=⟨rfl,rfl,rfl,δ,rfl,δ,δ⟩
def Oj{f o:Addr}{fd u:FuncData}(F:Fun K "reduced" "reduced" jQ f fd)(Fl:Fun K "less" "less" k8 o u)(bl:Binds K u ["row","often","other"] [])(N:mg "less"=some (.ref o))(Gl:al P w K mg base aG 1 o u ["row","often","other"] xq):al P w K mg base aG 2 f fd ["row","found","places"] Jz:=by
 refine F.ok xV (fun vs H Q E h=>?_) (fun O A outer s H vs Q E hr h=>?_)
 ·obtain⟨r,a,pl,rn,es,fr,ps,W,rfl,_⟩:=h;rfl
 ·obtain⟨r,a,pl,rn,es,fr,ps,W,rfl,h1,J,b,L,ok,k⟩:=h
  have C:=DR hr;refine⟨_,zc (zp (i:=3) xV.nd rfl (Or.inl rfl) (pv 0))
   (zc (eX A4 rfl (zM (pv 2)) (zk (i:=4) xV.nd rfl (Or.inl rfl))
    (zc (zp (i:=5) xV.nd rfl (Or.inl rfl) (zA xk (zx zt (pv 3) (pv 4) (fun _ _=>rfl)) (zx zt (nq C (pv 1) (pv 4) (fun _ _=>rfl)) (pv 4) (fun _ _=>rfl))))
    (zh (cF (zy gf (pv 5) zd (ap _))
     (zh (zp (i:=3) xV.nd rfl (Or.inl rfl) (ze Gl hr rfl N Fl.kp bl .nil ag (za (pv 3) (za (pv 5) (za (nq C (pv 1) (pv 4) (fun _ _=>rfl)) zb)))))) zR))))
   (zh (zq (pv 3)))),?_⟩
  refine⟨_,rfl,_,rfl,pl,rfl,⟨_,SqL.of b⟩,my (K:=K) (a:=pl) (xs:=ps.map fun p:Nat=>V.int (p:Int)) (fun i σ H2=>∃(d:Addr)(j l:Option V),σ=[some (.ref r),some (.ref a),some (.ref pl),some (.ref d),j,l]/\Same H H2/\H2 d=some (.lst ((aK fr rn (ps.take i)).map V.int)))
   ⟨r,none,none,rfl,Same.refl H,h1⟩ (fun i σ H2 _ ⟨_,_,_,_,sm,_⟩=>SqL.of (sm _ _ b)) ?_ ?_⟩
  ·rintro i x σ H2 hx ⟨d,j,l,rfl,sm,hd⟩
   obtain⟨p,hp,rfl⟩:∃p,ps[i]?=some p/\x=V.int (p:Int):=by
    rw[Aj] at hx;cases e:ps[i]? with
    |none=>rw[e] at hx;cases hx
    |some p=>rw[e] at hx;cases hx;exact⟨p,rfl,rfl⟩
   have G:=Am hp;obtain⟨S,T,M⟩:=ok.row p G;obtain⟨c,hc,v,y⟩:=(J.same sm).get (L p G);have U:(aK fr rn (ps.take i)).length=W:=rq ok.len fun q hq=>(ok.row q (List.mem_of_mem_take hq)).2.1;have g1:((aK fr rn (ps.take i)).map V.int)[p]?=some (V.int ((aK fr rn (ps.take i)).getD p 0)):=by
    rw[Aj,Ac,Aa ω];rfl
   have g2:((fr p).map V.int)[p]?=some (V.int ((fr p).getD p 0)):=by
    rw[Aj,Ac,Aa ω];rfl
   refine⟨_,rfl,_,rfl,d,_,_,_,rfl,rfl,SqL.of hd,zj g1,_,rfl,_,rfl,a,_,rfl,v,_,rfl,c,_,_,_,rfl,rfl,SqL.of y,zj g2,_,_,rfl,rfl,M,?_⟩;refine⟨_,rfl,rfl,_,rfl,?_⟩
   by_cases z:(aK fr rn (ps.take i)).getD p 0 / (fr p).getD p 0=0
   ·rw[show(!decide (V.int ((aK fr rn (ps.take i)).getD p 0 / (fr p).getD p 0)=V.int 0))=false by rw[z];rfl]
    refine aP ⟨d,_,_,rfl,sm,?_⟩;rw[Eb hp,cY,z,GL ω];exact hd
   ·rw[show(!decide (V.int ((aK fr rn (ps.take i)).getD p 0 / (fr p).getD p 0)=V.int 0))=true by rw[decide_eq_false (fun e=>z (by injection e))];rfl]
    refine aV ⟨_,rfl,_,rfl,_,rfl,_,rfl,a,_,rfl,v,d,c,_,_,_,rfl,hd,y,by have:=ok.most;(first|lia|omega),ok.mul i p hp,fun D X I _ g=>?_⟩;refine⟨D,_,_,rfl,sm.trans I,?_⟩;rw[Eb hp];exact g
  ·rintro σ H2 ⟨d,j,l,rfl,sm,hd⟩
   rw[Ab,Av (Ad _)] at hd;exact⟨_,rfl,k d H2 sm hd⟩
end
abbrev jU:Stmt:=top 37
def yf:A8 "sorted"=some (.builtin "sorted"):=δ
structure Pls(es:List (Nat×Addr))(ps:List Nat):Prop where
 pm:ps.Perm (es.map (·.1))
 so:ps.Pairwise (·<=·)
def Pls.ints{es:List (Nat×Addr)}{ps:List Nat}(h:Pls es ps){ms:List Int}(h1:ms.Perm ((eS es).map (·.1)))(h2:ms.Pairwise (·<=·)):ms.map V.int=ps.map fun p:Nat=>V.int (p:Int):=by
 have e:ms=ps.map fun p:Nat=>(p:Int):=by
  refine List.Perm.eq_of_pairwise (le:=(·<=·)) (fun a b _ _ x y=>Int.le_antisymm x y) h2 ?_ (h1.trans ?_)
  ·rw[List.pairwise_map];exact h.so.imp fun z=>ω
  ·have:(eS es).map (·.1)=(es.map (·.1)).map fun p:Nat=>(p:Int):=by simp[eS,Function.comp_def]
   rw[this];exact(h.pm.map _).symm
 rw[e,AT];rfl
def Pls.len{es:List (Nat×Addr)}{ps:List Nat}(h:Pls es ps):ps.length=es.length:=by rw[h.pm.length_eq,Ab]
def shrL(fr:Nat->List Int):List Int->List Nat->List Int
 |_,[]=>[]
 |l,p::ps=>(l.getD p 0 / (fr p).getD p 0)::shrL fr (cY fr l p) ps
def JA{fr:Nat->List Int}:∀{ps:List Nat}{rn:List Int}{i p:Nat},ps[i]?=some p->(shrL fr rn ps)[i]?=some ((aK fr rn (ps.take i)).getD p 0 / (fr p).getD p 0)
 |[],_,_,_,h=>by simp at h
 |q::ps,rn,0,p,h=>by simp at h;subst h;rfl
 |q::ps,rn,i+1,p,h=>by
  have:=JA (fr:=fr) (ps:=ps) (rn:=cY fr rn q) (i:=i) (p:=p) (by simpa using h)
  simpa[shrL,aK] using this
def yl{fr:Nat->List Int}:∀{ps:List Nat}{rn:List Int},(shrL fr rn ps).length=ps.length
 |[],_=>rfl
 |q::ps,rn=>by simp[shrL,yl (ps:=ps)]
section
variable{P:Program}{w:World}{K:Ah}{mg:Str->Option Value}{base:Heap}
def GM:Sp:=fun vs H Q _=>∃(r a:Addr)(rn:List Int)(es:List (Nat×Addr))(fr:Nat->List Int)(ps:List Nat)(W:Nat),vs=[.ref r,.ref a]/\H r=some (.lst (rn.map V.int))/\Fnd H a es fr/\Pls es ps/\es.length<64/\la fr W rn ps/\nJ H Q (shrL fr rn ps)
def rv:zo ["row","found","told","left","place","often"] ["row","found"] (zf jU):=⟨rfl,rfl,rfl,δ,rfl,δ,δ⟩
def Ol{f N:Addr}{fd O:FuncData}(F:Fun K "shares_of" "shares_of" jU f fd)(bs:mg "sorted"=none)(Fl:Fun K "less" "less" k8 N O)(bl:Binds K O ["row","often","other"] [])(ml:mg "less"=some (.ref N))(Gl:al P w K mg base aG 1 N O ["row","often","other"] xq):al P w K mg base aG 2 f fd ["row","found"] GM:=by
 refine F.ok rv (fun vs H Q E h=>?_) (fun ah A outer s H vs Q E hr h=>?_)
 ·obtain⟨r,a,rn,es,fr,ps,W,rfl,_⟩:=h;rfl
 ·obtain⟨r,a,rn,es,fr,ps,W,rfl,h1,u,pls,d_,ok,k⟩:=h
  have X:=DR hr;refine⟨_,zc (zp (i:=2) rv.nd rfl (Or.inl rfl) (iz zb))
   (zc (zp (i:=3) rv.nd rfl (Or.inl rfl) (pv 0))
   (zc (eX A4 rfl (zM (zn (xG rfl) rfl bs yf (za (pv 1) zb))) (zk (i:=4) rv.nd rfl (Or.inl rfl))
    (zc (zp (i:=5) rv.nd rfl (Or.inl rfl) (zA xk (zx zt (pv 3) (pv 4) (fun _ _=>rfl)) (zx zt (nq X (pv 1) (pv 4) (fun _ _=>rfl)) (pv 4) (fun _ _=>rfl))))
    (zc (kT (FU PySem.F.plainAttrs_list PySem.F.slot_list_append PySem.F.type_list_append DM (pv 2) (za (pv 5) zb)))
    (zh (cF (zy gf (pv 5) zd (ap _))
     (zh (zp (i:=3) rv.nd rfl (Or.inl rfl) (ze Gl hr rfl ml Fl.kp bl .nil ag (za (pv 3) (za (pv 5) (za (nq X (pv 1) (pv 4) (fun _ _=>rfl)) zb)))))) zR)))))
   (zh (zq (pv 2))))),?_⟩
  refine⟨ξ,fun T l=>⟨_,rfl,_,rfl,a,eS es,rfl,?_,(by simpa using d_),fun j ms pm so S=>⟨j,rfl,⟨_,SqL.of af⟩,?_⟩⟩⟩
  ·have:a≠T:=zl u.at_ l
   rw[am this];exact u.at_
  rw[pls.ints pm so];have Y:T≠j:=zl af S;have Z:Same H (upd (upd H T (.lst [])) j (.lst (ps.map fun p:Nat=>V.int (p:Int)))):=(Same.new l).trans (Same.new S);have CO:=pls.len;refine my (K:=K) (a:=j) (xs:=ps.map fun p:Nat=>V.int (p:Int)) (fun i σ H2=>∃(d:Addr)(C G:Option V),σ=[some (.ref r),some (.ref a),some (.ref T),some (.ref d),C,G]/\Same H H2/\H2 j=some (.lst (ps.map fun p:Nat=>V.int (p:Int)))/\H2 T=some (.lst (((shrL fr rn ps).take i).map V.int))/\H2 d=some (.lst ((aK fr rn (ps.take i)).map V.int))/\d≠T)
   ⟨r,none,none,rfl,Z,af,by rw[am Y];exact af,Z _ _ h1,zl h1 l⟩ (fun i σ H2 _ ⟨_,_,_,_,_,h,_⟩=>SqL.of h) ?_ ?_
  ·rintro i x σ H2 hx ⟨d,C,G,rfl,sm,U,o,hd,I⟩
   obtain⟨p,hp,rfl⟩:∃p,ps[i]?=some p/\x=V.int (p:Int):=by
    rw[Aj] at hx;cases e:ps[i]? with
    |none=>rw[e] at hx;cases hx
    |some p=>rw[e] at hx;cases hx;exact⟨p,rfl,rfl⟩
   have f_:=Am hp;obtain⟨pW,fW,cd⟩:=ok.row p f_;have ou:p∈es.map (·.1):=pls.pm.mem_iff.mp f_;obtain⟨c,hc,J,L⟩:=(u.same sm).get ou;have au:(aK fr rn (ps.take i)).length=W:=rq ok.len fun q hq=>(ok.row q (List.mem_of_mem_take hq)).2.1;have g1:((aK fr rn (ps.take i)).map V.int)[p]?=some (V.int ((aK fr rn (ps.take i)).getD p 0)):=by
    rw[Aj,Ac,Aa ω];rfl
   have g2:((fr p).map V.int)[p]?=some (V.int ((fr p).getD p 0)):=by
    rw[Aj,Ac,Aa ω];rfl
   have g3:=JA (fr:=fr) (rn:=rn) hp;refine⟨_,rfl,_,rfl,d,_,_,_,rfl,rfl,SqL.of hd,zj g1,_,rfl,_,rfl,a,_,rfl,J,_,rfl,c,_,_,_,rfl,rfl,SqL.of L,zj g2,_,_,rfl,rfl,cd,?_⟩;refine⟨_,rfl,.inl ⟨rfl,_,SqL.of o⟩,_,rfl,T,_,_,rfl,rfl,o,by rw[sizeLine_eq,Ab,List.length_take,yl];(first|lia|omega),?_⟩;have e4:((shrL fr rn ps).take i).map V.int++[V.int ((aK fr rn (ps.take i)).getD p 0 / (fr p).getD p 0)]=((shrL fr rn ps).take (i+1)).map V.int:=by rw[Bp g3,Aw];rfl
   rw[e4];have v:Same H (upd H2 T (.lst (((shrL fr rn ps).take (i+1)).map V.int))):=sm.then l;have M:upd H2 T (.lst (((shrL fr rn ps).take (i+1)).map V.int)) j=some (.lst (ps.map fun p:Nat=>V.int (p:Int))):=by rw[am Y.symm];exact U
   have g:upd H2 T (.lst (((shrL fr rn ps).take (i+1)).map V.int)) d=some (.lst ((aK fr rn (ps.take i)).map V.int)):=by rw[am I];exact hd
   have b:upd H2 T (.lst (((shrL fr rn ps).take (i+1)).map V.int)) T=some (.lst (((shrL fr rn ps).take (i+1)).map V.int)):=af;generalize upd H2 T (.lst (((shrL fr rn ps).take (i+1)).map V.int))=H3 at v M g b ⊢;refine⟨_,rfl,rfl,_,rfl,?_⟩
   by_cases z:(aK fr rn (ps.take i)).getD p 0 / (fr p).getD p 0=0
   ·rw[show(!decide (V.int ((aK fr rn (ps.take i)).getD p 0 / (fr p).getD p 0)=V.int 0))=false by rw[z];rfl]
    refine aP ⟨d,_,_,rfl,v,M,b,?_,I⟩;rw[Eb hp,cY,z,GL ω];exact g
   ·rw[show(!decide (V.int ((aK fr rn (ps.take i)).getD p 0 / (fr p).getD p 0)=V.int 0))=true by rw[decide_eq_false (fun e=>z (by injection e))];rfl]
    obtain⟨c,hc,J,L⟩:=(u.same v).get ou;refine aV ⟨_,rfl,_,rfl,_,rfl,_,rfl,a,_,rfl,J,d,c,_,_,_,rfl,g,L,by have:=ok.most;(first|lia|omega),ok.mul i p hp,fun D H4 y hD aT=>?_⟩;refine⟨D,_,_,rfl,v.trans y,y _ _ M,y _ _ b,?_,(zl b hD).symm⟩;rw[Eb hp];exact aT
  ·rintro σ H2 ⟨d,C,G,rfl,sm,U,o,hd,I⟩
   rw[Ab,Av (by rw[yl];exact Ad _)] at o;exact⟨_,rfl,k T H2 sm l o⟩
end
end K26
end
section
namespace Tb
def cC(N X B:Nat):Nat:=N*(B*X)
def cW(N B:Nat):Nat:=2*B*B*(1+2*B*B) ^ N
def cG(N B:Nat):Nat:=2*B*(1+N*cW N B)
def cK(N M X B:Nat):Nat:=1+cC N X B+N*(M*(1+B) ^ N*cC N X B)
def jd{a b:Nat}(c:1<=a)(hb:1<=b):1<=a*b:=Nat.mul_pos c hb
def Ec{N B:Nat}(a:1<=B):1<=cG N B:=jd (jd ξ a) ω
def Rep.more{R:List Vc}{C:Nat}{v r:Vc}(h:Rep R C v):Rep (R++[r]) C v:=by
 obtain⟨c,h1,h2,e⟩:=h;have d:∀(c:List Int)(R:List Vc),c.length=R.length->∀u,cmb (c++[0]) (R++[r]) u=cmb c R u:=by
  intro c
  induction c with
  |nil=>intro R b u;rw[AK b.symm];show 0*r u+0=0;(first|lia|omega)
  |cons a c ih=>
   intro R b u;cases R with
   |nil=>simp at b
   |cons s R=>show a*s u+cmb (c++[0]) (R++[r]) u=a*s u+cmb c R u;rw[ih R (by simpa using b)]
 refine⟨c++[0],by simp[h1],fun u=>by rw[d c R h1,h2],fun x hx=>?_⟩;rcases List.mem_append.mp hx with h|h
 ·exact e x h
 ·rw[List.mem_singleton.mp h];exact Ap _
def Sp.more{R:List Vc}{v:Vc}(h:Sp R v)(S:List Vc)(a:∀r∈R,r∈S):Sp S v:=h.trans fun r hr=>Sp.mem (a r hr)
def Sp.redu{f:Nat->Vc}{S:List Vc}:∀(ps:List Nat){l:Vc},(∀p∈ps,Sp S (f p))->(Sp S l↔Sp S (aY f ps l))
 |[],_,_=>Iff.rfl
 |p::ps,l,h=>by
  refine Iff.trans ?_ (Sp.redu ps fun q hq=>h q (.tail _ hq));exact⟨fun a=>a.sub (h p (.head _)) _,fun a=>(a.sub (h p (.head _)) (-(l p / f p p))).eq fun u=>by unfold step;rw[Int.neg_mul];(first|lia|omega)⟩
structure TS(N M X B:Nat)(R:List Vc)(P:List Nat)(f:Nat->Vc)(l:Vc)(t:Nat):Prop where
 ech:Ech P f
 srt:P.Pairwise (·<·)
 len:P.length+1=R.length
 few:R.length<=N
 fr:∀p∈P,Rep R (cK N M X B*cG N B ^ (P.filter fun p=>decide (p<t)).length) (f p)
 lr:Rep R (cK N M X B*cG N B ^ (P.filter fun p=>decide (p<t)).length) l
 gen:∀r∈R,Sp (P.map f++[l]) r
 low:∀i,i<t->l i=0
 red:∀p∈P,0<=l p/\l p<f p p
 piv:∀p∈P,(f p p).natAbs<=B
 fv:∀p∈P,∀q∈P,(f p q).natAbs<=2*B*B
 fo:∀p∈P,t<=p->∀q∈P,(f p q).natAbs<=B
def put(f:Nat->Vc)(p:Nat)(v:Vc):Nat->Vc:=fun q=>if q=p then v else f q
def zU{f:Nat->Vc}{p:Nat}{v:Vc}:put f p v p=v:=if_pos rfl
def dG{f:Nat->Vc}{p q:Nat}{v:Vc}(h:q≠p):put f p v q=f q:=if_neg h
def mix(a:Int)(v:Vc)(b:Int)(w:Vc):Vc:=fun u=>a*v u+b*w u
def TS.next{N M X B:Nat}{R:List Vc}{P:List Nat}{f:Nat->Vc}{l:Vc}{t p:Nat}{g a b c d:Int}(hB:1<=B)(T:TS N M X B R P f l t)(hp:p∈P)(A:∀i,i<p->l i=0)(nU:l p≠0)(ji:t<=p)(G:GI (f p p) (l p) g a b 0 c d):TS N M X B R P (put f p (mix a (f p) b l)) (aY (put f p (mix a (f p) b l)) P (mix c (f p) d l)) (p+1)/\Ech P (put f p (mix a (f p) b l)):=by
 have hG:=Ec (N:=N) hB;have x0:=T.ech.pos p hp;obtain⟨r0,r1⟩:=T.red p hp;have L:=T.piv p hp;obtain⟨c1,c2⟩:=G.le;have a1:a.natAbs<=B:=Ae G.b1 ω;have O:b.natAbs<=B:=Ae G.b2 L;have c1:c.natAbs<=B:=Ae c1 ω;have d1:d.natAbs<=B:=Ae c2 L;have lq:∀q∈P,(l q).natAbs<=B:=fun q hq=>by have:=T.red q hq;have:=T.piv q hq;(first|lia|omega)
 have fp:=T.fo p hp ji;have S:∀{a b:Int},a.natAbs<=B->b.natAbs<=B->∀q∈P,(mix a (f p) b l q).natAbs<=2*B*B:=fun{a b} H hb q hq=>by
  have t1:(a*f p q).natAbs<=B*B:=by rw[AB];exact AR H (fp q hq)
  have t2:(b*l q).natAbs<=B*B:=by rw[AB];exact AR hb (lq q hq)
  have t3:=Int.natAbs_add_le (a*f p q) (b*l q);show(a*f p q+b*l q).natAbs<=_;rw[AQ];generalize B*B=Y at t1 t2 ⊢;(first|lia|omega)
 have C:mix a (f p) b l p=g:=by show a*f p p+b*l p=g;exact G.t.symm
 have g1:=G.tp;have jC:g.natAbs<=B:=by
  have U:=G.m2;rw[Int.natAbs_zero,Nat.mul_zero,Nat.add_zero] at U;rcases Nat.eq_zero_or_pos d.natAbs with z|z
  ·rw[z,Nat.zero_mul] at U;(first|lia|omega)
  ·have:1*g.natAbs<=d.natAbs*g.natAbs:=Ak _ z
   (first|lia|omega)
 have j:Ech P (put f p (mix a (f p) b l)):=by
  refine⟨fun q hq i hi=>?_,fun q hq=>?_⟩
  ·by_cases e:q=p
   ·subst e;rw[zU];show a*f q i+b*l i=0;rw[T.ech.z q hq i hi,A i hi];(first|lia|omega)
   ·rw[dG e];exact T.ech.z q hq i hi
  ·by_cases e:q=p
   ·subst e;rw[zU,C];exact g1
   ·rw[dG e];exact T.ech.pos q hq
 refine⟨?_,j⟩;have D:P.length<=N:=by have:=T.len;have:=T.few;(first|lia|omega)
 generalize hK:cK N M X B*cG N B ^ (P.filter fun p=>decide (p<t)).length=K;have fr:=T.fr;have W:=T.lr;rw[hK] at fr W;have mr:∀{a b:Int},a.natAbs<=B->b.natAbs<=B->Rep R (2*B*K) (mix a (f p) b l):=fun{a b} H hb=>((fr p hp).lin W H hb).mono (by rw[AQ];(first|lia|omega));have kl:K<=2*B*K:=Nat.le_mul_of_pos_left _ ω;have dh:∀q∈P,Rep R (2*B*K) (put f p (mix a (f p) b l) q):=fun q hq=>by
  by_cases e:q=p
  ·subst e;rw[zU];exact mr a1 O
  ·rw[dG e];exact(fr q hq).mono kl
 have E:∀q∈P,∀r∈P,(put f p (mix a (f p) b l) q r).natAbs<=2*B*B:=fun q hq r hr=>by
  by_cases e:q=p
  ·subst e;rw[zU];exact S a1 O r hr
  ·rw[dG e];exact T.fv q hq r hr
 obtain⟨lO,BU⟩:=nZ dh E j.pos P (fun q hq=>hq) (mr c1 d1) (S c1 d1);have cnt:(P.filter fun q=>decide (q<t)).length+1<=(P.filter fun q=>decide (q<p+1)).length:=by
  have h1:(P.filter fun q=>decide (q<t))++[p] ⊆ P.filter fun q=>decide (q<p+1):=fun q hq=>by
   rcases List.mem_append.mp hq with h|h
   ·obtain⟨h1,h2⟩:=List.mem_filter.mp h
    have:=of_decide_eq_true h2;exact List.mem_filter.mpr ⟨h1,decide_eq_true ω⟩
   ·rw[List.mem_singleton.mp h];exact List.mem_filter.mpr ⟨hp,decide_eq_true ω⟩
  have nd:P.Nodup:=T.srt.imp fun h=>Az h;have J:((P.filter fun q=>decide (q<t))++[p]).Nodup:=by
   rw[List.nodup_append];refine⟨nd.filter _,by simp,fun x hx y hy=>?_⟩;rw[List.mem_singleton.mp hy];have:=of_decide_eq_true (List.mem_filter.mp hx).2;(first|lia|omega)
  have:=J.length_le_of_subset h1
  simpa using this
 have o:2*B*K+P.length*(2*B*B*(1+2*B*B) ^ P.length*(2*B*K))<=cG N B*K:=by
  unfold cG cW;have h1:(1+2*B*B) ^ P.length<=(1+2*B*B) ^ N:=AC ω D;generalize 2*B*B=Y at h1 ⊢;have h2:P.length*(Y*(1+Y) ^ P.length*(2*B*K))<=N*(Y*(1+Y) ^ N*(2*B*K)):=AR D (Ak _ (Al _ h1));refine Ae (Nat.add_le_add_left h2 _) (Nat.le_of_eq ?_);generalize Y*(1+Y) ^ N=Z;generalize 2*B=Q;rw[Nat.mul_add,Nat.mul_one,Nat.add_mul,<-AQ N Z,Nat.mul_comm Q (N*Z),AQ (N*Z)]
 have v:cG N B*K<=cK N M X B*cG N B ^ (P.filter fun q=>decide (q<p+1)).length:=by
  rw[<-hK,Nat.mul_left_comm,<-Nat.pow_succ'];exact Al _ (AC hG cnt)
 have two:2*B*K<=cG N B*K:=Ae (A7 _ _) o;have F:=G.det;refine⟨j,T.srt,T.len,T.few,fun q hq=>(dh q hq).mono (Ae two v),lO.mono (Ae o v),fun r hr=>?_,?_,fun q hq=>D_ j T.srt q hq,fun q hq=>?_,E,fun q hq hlt r hr=>?_⟩
 ·-- dX old rows out of dX new ones
  have S1:∀q∈P,Sp (P.map (put f p (mix a (f p) b l))++[aY (put f p (mix a (f p) b l)) P (mix c (f p) d l)]) (put f p (mix a (f p) b l) q):=fun q hq=>Sp.mem (AV _ (List.mem_map.mpr ⟨q,hq,rfl⟩));have S2:=(Sp.redu P (l:=mix c (f p) d l) S1).mpr (Sp.mem (Ax _ (List.mem_singleton.mpr rfl)));have Sp1:=S1 p hp;rw[zU] at Sp1;have ef:∀{x y z w:Int},(a*d-b*c=1\/a*d-b*c=-1)->∀u,x=(a*d-b*c)*d->y=(a*d-b*c)*(-b)->x*mix a (f p) b l u+y*mix c (f p) d l u=f p u:=fun{x y z w} hd u ex I=>by
   subst ex I;show(a*d-b*c)*d*(a*f p u+b*l u)+(a*d-b*c)*(-b)*(c*f p u+d*l u)=f p u;have e:(a*d-b*c)*d*(a*f p u+b*l u)+(a*d-b*c)*(-b)*(c*f p u+d*l u)=(a*d-b*c)*(a*d-b*c)*f p u:=by
    rw[AS,AS,AS,<-Bi]
    congr 1
    rw[Bi,Bi,Int.neg_mul,Int.neg_mul,<-AS,<-AS,<-AS,<-AS,Int.sub_mul,A5 d a,A5 d b];(first|lia|omega)
   rw[e];rcases hd with h|h<;>rw[h]<;>(first|lia|omega)
  have el:∀{x y:Int},(a*d-b*c=1\/a*d-b*c=-1)->∀u,x=(a*d-b*c)*(-c)->y=(a*d-b*c)*a->x*mix a (f p) b l u+y*mix c (f p) d l u=l u:=fun{x y} hd u ex I=>by
   subst ex I;show(a*d-b*c)*(-c)*(a*f p u+b*l u)+(a*d-b*c)*a*(c*f p u+d*l u)=l u;have e:(a*d-b*c)*(-c)*(a*f p u+b*l u)+(a*d-b*c)*a*(c*f p u+d*l u)=(a*d-b*c)*(a*d-b*c)*l u:=by
    rw[AS,AS,AS,<-Bi]
    congr 1
    rw[Bi,Bi,Int.neg_mul,Int.neg_mul,<-AS,<-AS,<-AS,<-AS,Int.sub_mul,A5 c a,A5 c b];(first|lia|omega)
   rw[e];rcases hd with h|h<;>rw[h]<;>(first|lia|omega)
  have Sf:=(Sp1.lin S2 ((a*d-b*c)*d) ((a*d-b*c)*(-b))).eq (w:=f p) fun u=>(ef (z:=0) (w:=0) F u rfl rfl).symm;have Sl:=(Sp1.lin S2 ((a*d-b*c)*(-c)) ((a*d-b*c)*a)).eq (w:=l) fun u=>(el F u rfl rfl).symm;refine(T.gen r hr).trans fun s hs=>?_;rcases List.mem_append.mp hs with h|h
  ·obtain⟨q,hq,rfl⟩:=List.mem_map.mp h
   by_cases e:q=p
   ·subst e;exact Sf
   ·have:=S1 q hq
    rw[dG e] at this;exact this
  ·rw[List.mem_singleton.mp h];exact Sl
 ·refine Jv j fun i hi=>?_
  show c*f p i+d*l i=0
  by_cases e:i=p
  ·subst e;exact G.l.symm
  ·rw[T.ech.z p hp i ω,A i ω];(first|lia|omega)
 ·by_cases e:q=p
  ·subst e;rw[zU,C];exact jC
  ·rw[dG e];exact T.piv q hq
 ·rw[dG (show q≠p from ω)];exact T.fo q hq ω r hr
def ins(q:Nat):List Nat->List Nat
 |[]=>[q]
 |p::P=>if q<p then q::p::P else p::ins q P
def mem_ins{q x:Nat}:∀{P:List Nat},x∈ins q P↔x=q\/x∈P
 |[]=>by simp[ins]
 |p::P=>by
  unfold ins;split
  ·simp
  ·rw[List.mem_cons,mem_ins,List.mem_cons]
   constructor
   ·rintro(h|h|h)
    ·exact .inr (.inl h)
    ·exact .inl h
    ·exact .inr (.inr h)
   ·rintro(h|h|h)
    ·exact .inr (.inl h)
    ·exact .inl h
    ·exact .inr (.inr h)
def GN{q:Nat}:∀{P:List Nat},(ins q P).length=P.length+1
 |[]=>rfl
 |p::P=>by unfold ins;split<;>simp[GN]
def JB{q:Nat}:∀{P:List Nat},P.Pairwise (·<·)->q∉P->(ins q P).Pairwise (·<·)
 |[],_,_=>by simp[ins]
 |p::P,h,hn=>by
  rw[Bg] at h;unfold ins;split
  ·rename_i hlt
   rw[Bg,Bg];refine⟨fun x hx=>?_,h⟩;rcases List.mem_cons.mp hx with rfl|hx
   ·exact hlt
   ·exact Nat.lt_trans hlt (h.1 x hx)
  ·rename_i hlt
   rw[Bg];refine⟨fun x hx=>?_,JB h.2 fun z=>hn (.tail _ z)⟩;rcases mem_ins.mp hx with rfl|hx
   ·have:x≠p:=fun z=>hn (z▸.head _)
    (first|lia|omega)
   ·exact h.1 x hx
def a0(f:Nat->Vc):List Nat->Nat->Vc
 |[]=>f
 |p::ps=>put (a0 f ps) p (aY (a0 f ps) ps (f p))
section
variable{f:Nat->Vc}
def JC:∀{ps:List Nat}{q:Nat},q∉ps->a0 f ps q=f q
 |[],_,_=>rfl
 |p::ps,q,h=>by
  show put (a0 f ps) p _ q=f q;rw[dG (show q≠p from fun z=>h (by rw[z];exact .head _)),JC fun z=>h (.tail _ z)]
def rx{p q:Nat}{ps:List Nat}(h:q≠p):a0 f (p::ps) q=a0 f ps q:=dG h
def yr{p:Nat}{ps:List Nat}:a0 f (p::ps) p=aY (a0 f ps) ps (f p):=zU
def GO:∀{ps:List Nat},Ech ps f->ps.Pairwise (·<·)->Ech ps (a0 f ps)/\∀p∈ps,a0 f ps p p=f p p
 |[],_,_=>⟨⟨(fun p hp=>nomatch hp),(fun p hp=>nomatch hp)⟩,fun p hp=>nomatch hp⟩
 |p::ps,h,hs=>by
  rw[Bg] at hs;obtain⟨e1,e2⟩:=GO (h.sub fun q hq=>.tail _ hq) hs.2;have ne:∀q∈ps,q≠p:=fun q hq=>Ne.symm (Az (hs.1 q hq));have hd:a0 f (p::ps) p p=f p p:=by rw[yr,D9 e1 fun q hq=>hs.1 q hq]
  have tl:∀q∈ps,a0 f (p::ps) q q=f q q:=fun q hq=>by rw[rx (ne q hq)];exact e2 q hq
  refine⟨⟨fun q hq i hi=>?_,fun q hq=>?_⟩,fun q hq=>?_⟩
  ·rcases List.mem_cons.mp hq with rfl|hq
   ·rw[yr,D9 e1 fun r hr=>Nat.lt_trans hi (hs.1 r hr)];exact h.z q (.head _) i hi
   ·rw[rx (ne q hq)];exact e1.z q hq i hi
  ·rcases List.mem_cons.mp hq with rfl|hq
   ·rw[hd];exact h.pos q (.head _)
   ·rw[tl q hq];exact h.pos q (.tail _ hq)
  ·rcases List.mem_cons.mp hq with rfl|hq
   ·exact hd
   ·exact tl q hq
def GP:∀{ps:List Nat},Ech ps f->ps.Pairwise (·<·)->∀p∈ps,∀q∈ps,p<q->0<=a0 f ps p q/\a0 f ps p q<a0 f ps q q
 |p::ps,h,hs,r,hr,q,hq,hlt=>by
  rw[Bg] at hs;have h':Ech ps f:=h.sub fun q hq=>.tail _ hq;obtain⟨e1,e2⟩:=GO h' hs.2;have ne:∀q∈ps,q≠p:=fun q hq=>Ne.symm (Az (hs.1 q hq));have a:q∈ps:=by
   rcases List.mem_cons.mp hq with rfl|hq
   ·rcases List.mem_cons.mp hr with rfl|hr
    ·(first|lia|omega)
    ·have:=hs.1 r hr;(first|lia|omega)
   ·exact hq
  rw[rx (ne q a)];rcases List.mem_cons.mp hr with rfl|hr
  ·rw[yr];exact D_ e1 hs.2 q a
  ·rw[rx (ne r hr)];exact GP h' hs.2 r hr q a hlt
def JD:∀{ps:List Nat}{S:List Vc},ps.Nodup->(∀p∈ps,Sp S (a0 f ps p))->∀p∈ps,Sp S (f p)
 |p::ps,S,nd,h,q,hq=>by
  obtain⟨n1,n2⟩:=List.nodup_cons.mp nd;have ne:∀q∈ps,q≠p:=fun q hq z=>n1 (z▸hq);have a:∀q∈ps,Sp S (a0 f ps q):=fun q hq=>by have:=h q (.tail _ hq);rwa [rx (ne q hq)] at this
  rcases List.mem_cons.mp hq with rfl|hq
  ·have:=h q (.head _)
   rw[yr] at this;exact(Sp.redu ps a).mpr this
  ·exact JD n2 a q hq
def JE:∀{ps:List Nat}{S:List Vc},ps.Nodup->(∀p∈ps,Sp S (f p))->∀p∈ps,Sp S (a0 f ps p)
 |p::ps,S,nd,h,q,hq=>by
  obtain⟨n1,n2⟩:=List.nodup_cons.mp nd;have a:=JE (S:=S) n2 fun q hq=>h q (.tail _ hq);rcases List.mem_cons.mp hq with rfl|hq
  ·rw[yr];exact(Sp.redu ps a).mp (h q (.head _))
  ·rw[rx (show q≠p from fun z=>n1 (z▸hq))];exact a q hq
end
structure FS(N M X B:Nat)(R:List Vc)(P:List Nat)(f:Nat->Vc):Prop where
 ech:Ech P f
 srt:P.Pairwise (·<·)
 len:P.length=R.length
 few:R.length<=N
 fr:∀p∈P,Rep R (cC N X B) (f p)
 gen:∀r∈R,Sp (P.map f) r
 red:∀p∈P,∀q∈P,p<q->0<=f p q/\f p q<f q q
 piv:∀p∈P,(f p p).natAbs<=B
def FS.start{N M X B:Nat}{f:Nat->Vc}:FS N M X B [] [] f:=
 ⟨⟨(fun p hp=>nomatch hp),(fun p hp=>nomatch hp)⟩,.nil,rfl,Ap _,(fun p hp=>nomatch hp),(fun p hp=>nomatch hp),(fun p hp=>nomatch hp),(fun p hp=>nomatch hp)⟩
def FS.fv{N M X B:Nat}{R:List Vc}{P:List Nat}{f:Nat->Vc}(F:FS N M X B R P f):∀p∈P,∀q∈P,(f p q).natAbs<=B:=fun p hp q hq=>by
 rcases Bj p q with h|h|h
 ·have:=F.red p hp q hq h;have:=F.piv q hq;(first|lia|omega)
 ·subst h;exact F.piv p hp
 ·rw[F.ech.z p hp q h];exact Ap _
def FS.take{N M X B:Nat}{R:List Vc}{P:List Nat}{f:Nat->Vc}{r:Vc}(l:1<=B)(F:FS N M X B R P f)(b:R.length<N)(hr:∀p∈P,(r p).natAbs<=M):TS N M X B (R++[r]) P f (aY f P r) 0:=by
 have a:P.length<=N:=by have:=F.len;(first|lia|omega)
 have c:(P.filter fun p=>decide (p<0)).length=0:=by rw[List.filter_eq_nil_iff.mpr];rfl;intro p _;simp
 obtain⟨e,o⟩:=nZ (R:=R++[r]) (fun p hp=>(F.fr p hp).more) F.fv F.ech.pos P (fun q hq=>hq) (Rep.mem (Ax R (List.mem_singleton.mpr rfl))) hr;have g:1+P.length*(M*(1+B) ^ P.length*cC N X B)<=cK N M X B:=by
  unfold cK;have h1:(1+B) ^ P.length<=(1+B) ^ N:=AC ω a;have:=AR a (Ak (cC N X B) (Al M h1));(first|lia|omega)
 have j:cC N X B<=cK N M X B:=by unfold cK;(first|lia|omega)
 refine⟨F.ech,F.srt,by rw[A6,F.len];rfl,by rw[A6];exact b,fun p hp=>?_,?_,fun s d=>?_,(fun i hi=>absurd hi (Nat.not_lt_zero _)),fun p hp=>D_ F.ech F.srt p hp,F.piv,fun p hp q hq=>?_,fun p hp _ q hq=>F.fv p hp q hq⟩
 ·rw[c,Nat.pow_zero,Nat.mul_one];exact(F.fr p hp).more.mono j
 ·rw[c,Nat.pow_zero,Nat.mul_one];exact e.mono g
 ·rcases List.mem_append.mp d with h|h
  ·exact(F.gen s h).more _ fun x hx=>AV _ hx
  ·rw[List.mem_singleton.mp h]
   exact(Sp.redu P fun q hq=>Sp.mem (AV _ (List.mem_map.mpr ⟨q,hq,rfl⟩))).mpr (Sp.mem (Ax _ (List.mem_singleton.mpr rfl)))
 ·refine Ae (F.fv p hp q hq) ?_
  rw[AQ];have:B*1<=B*B:=Al _ l;(first|lia|omega)
def cM(N M X B:Nat):Nat:=cK N M X B*cG N B ^ N
def cE(N M X B:Nat):Nat:=cM N M X B+N*(N*(cM N M X B*M)*(1+B) ^ N*cC N X B)
def up(l:Vc)(q:Nat):Vc:=if 0<l q then l else fun u=>-l u
def Rep.neg{R:List Vc}{C:Nat}{v:Vc}(h:Rep R C v):Rep R C fun u=>-v u:=
 ((h.lin h (k:=-1) (m:=0) (A:=1) (B:=0) ξ ξ).mono ω).eq fun u=>ω
def Sp.neg{R:List Vc}{v:Vc}(h:Sp R v):Sp R fun u=>-v u:=(h.lin h (-1) 0).eq fun u=>ω
structure Bd(N M X B:Nat)(R:List Vc):Prop where
 ind:iC R
 bd:∀(P:List Nat)(f:Nat->Vc),Ech P f->P.Pairwise (·<·)->(∀r∈R,Sp (P.map f) r)->(∀p∈P,Sp R (f p))->P.length=R.length->(∀p∈P,(f p p).natAbs<=B)/\(∀r∈R,∀p∈P,(r p).natAbs<=M)/\∀(c:List Int)(V:Nat),c.length=R.length->(∀p∈P,(cmb c R p).natAbs<=V)->∀x∈c,x.natAbs<=N*(V*X)
structure QS(N M X B:Nat)(R:List Vc)(P:List Nat)(f:Nat->Vc):Prop where
 ech:Ech P f
 srt:P.Pairwise (·<·)
 len:P.length=R.length
 few:R.length<=N
 fr:∀p∈P,Rep R (cM N M X B) (f p)
 gen:∀r∈R,Sp (P.map f) r
section
variable{N M X B:Nat}{R:List Vc}{P:List Nat}{f:Nat->Vc}
def TS.cnt{l:Vc}{t:Nat}(T:TS N M X B R P f l t)(a:1<=B):cK N M X B*cG N B ^ (P.filter fun p=>decide (p<t)).length<=cM N M X B:=
 Al _ (AC (Ec a) (Ae (List.length_filter_le _ _) (by have:=T.len;have:=T.few;(first|lia|omega))))
def TS.full{l:Vc}{t q:Nat}(e:1<=B)(T:TS N M X B R P f l t)(hq:q∉P)(a:∀i,i<q->l i=0)(g:l q≠0):QS N M X B R (ins q P) (put f q (up l q)):=by
 have ne:∀p∈P,p≠q:=fun p hp z=>hq (z▸hp);have hc:=T.cnt e;have up1:0<up l q q:=by
  unfold up;split
  ·assumption
  ·show 0 < -l q
   (first|lia|omega)
 have b:∀i,i<q->up l q i=0:=fun i hi=>by
  have:=a i hi;unfold up;split
  ·exact this
  ·show -l i=0
   (first|lia|omega)
 have c:Rep R (cM N M X B) (up l q):=by
  unfold up;split
  ·exact T.lr.mono hc
  ·exact(T.lr.mono hc).neg
 refine⟨⟨fun p hp i hi=>?_,fun p hp=>?_⟩,JB T.srt hq,by rw[GN,T.len],T.few,fun p hp=>?_,fun r hr=>(T.gen r hr).trans fun s d=>?_⟩
 ·rcases mem_ins.mp hp with rfl|hp
  ·rw[zU];exact b i hi
  ·rw[dG (ne p hp)];exact T.ech.z p hp i hi
 ·rcases mem_ins.mp hp with rfl|hp
  ·rw[zU];exact up1
  ·rw[dG (ne p hp)];exact T.ech.pos p hp
 ·rcases mem_ins.mp hp with rfl|hp
  ·rw[zU];exact c
  ·rw[dG (ne p hp)];exact(T.fr p hp).mono hc
 ·rcases List.mem_append.mp d with h|h
  ·obtain⟨p,hp,rfl⟩:=List.mem_map.mp h
   exact Sp.mem (List.mem_map.mpr ⟨p,mem_ins.mpr (.inr hp),dG (ne p hp)⟩)
  ·rw[List.mem_singleton.mp h]
   have:Sp ((ins q P).map (put f q (up l q))) (up l q):=Sp.mem (List.mem_map.mpr ⟨q,mem_ins.mpr (.inl rfl),zU⟩);unfold up at this ⊢;split at this
   ·rename_i h;rw[if_pos h];exact this
   ·rename_i h;rw[if_neg h];exact this.neg.eq fun u=>by show l u=-(-l u);(first|lia|omega)
def QS.bd(D:Bd N M X B R)(S:QS N M X B R P f):(∀p∈P,(f p p).natAbs<=B)/\(∀r∈R,∀p∈P,(r p).natAbs<=M)/\∀(c:List Int)(V:Nat),c.length=R.length->(∀p∈P,(cmb c R p).natAbs<=V)->∀x∈c,x.natAbs<=N*(V*X):=
 D.bd P f S.ech S.srt S.gen (fun p hp=>(S.fr p hp).sp) S.len
def QS.tail(j:1<=B)(D:Bd N M X B R)(S:QS N M X B R P f){pre ps:List Nat}(e:P=pre++ps):Ech ps (a0 f ps)/\(∀p∈ps,∀q∈P,(a0 f ps p q).natAbs<=B)/\∀p∈ps,Rep R (cC N X B) (a0 f ps p):=by
 have g:∀p∈ps,p∈P:=fun p hp=>by rw[e];exact Ax _ hp
 have a:=S.srt;rw[e,List.pairwise_append] at a;have h':Ech ps f:=S.ech.sub g;obtain⟨e1,e2⟩:=GO h' a.2.1;obtain⟨pv,hb,i⟩:=S.bd D;have bd:∀p∈ps,∀q∈P,(a0 f ps p q).natAbs<=B:=fun p hp q hq=>by
  rcases Bj p q with h|h|h
  ·have b:q∈ps:=by
    rw[e] at hq;rcases List.mem_append.mp hq with z|z
    ·have:=a.2.2 q z p hp;(first|lia|omega)
    ·exact z
   have h1:=GP h' a.2.1 p hp q b h;rw[e2 q b] at h1;have:=pv q hq;(first|lia|omega)
  ·subst h;rw[e2 p hp];exact pv p hq
  ·rw[e1.z p hp q h];exact Ap _
 refine⟨e1,bd,fun p hp=>?_⟩;have sp:Sp R (a0 f ps p):=JE (a.2.1.imp fun h=>Az h) (fun q hq=>(S.fr q (g q hq)).sp) p hp;obtain⟨c,d,e⟩:=sp;exact⟨c,d,e,i c B d fun q hq=>by rw[<-e];exact bd p hp q hq⟩
def QS.met(o:1<=B)(D:Bd N M X B R)(S:QS N M X B R P f){pre ps:List Nat}{p:Nat}(e:P=pre++p::ps)(i:Nat):Rep R (cE N M X B) (aY (a0 f ps) (ps.take i) (f p)):=by
 have d:P=(pre++[p])++ps:=by rw[e];simp
 obtain⟨e1,bd,l⟩:=S.tail o D d;obtain⟨_,hb,_⟩:=S.bd D;have hp:p∈P:=by rw[e];simp
 have V:∀q∈ps,(f p q).natAbs<=N*(cM N M X B*M):=fun q hq=>by
  have g:q∈P:=by rw[d];exact Ax _ hq
  exact Ae ((S.fr p hp).le fun r hr=>hb r hr q g) (Ak _ S.few)
 have c:(ps.take i).length<=N:=by
  have h1:=congrArg List.length d;rw[A6,S.len] at h1;have:=S.few;rw[List.length_take];(first|lia|omega)
 obtain⟨r,_⟩:=nZ (P:=ps) l (fun a h b j=>bd a h b (by rw[d];exact Ax _ j)) e1.pos (ps.take i) (fun q hq=>List.mem_of_mem_take hq) (S.fr p hp) V;refine r.mono ?_;unfold cE;have h1:(1+B) ^ (ps.take i).length<=(1+B) ^ N:=AC ω c;exact Nat.add_le_add_left (AR c (Ak _ (Al _ h1))) _
def QS.done(d:1<=B)(D:Bd N M X B R)(S:QS N M X B R P f):FS N M X B R P (a0 f P):=by
 obtain⟨e1,bd,b⟩:=S.tail d D (pre:=[]) (ps:=P) rfl;have c:P.Nodup:=S.srt.imp fun h=>Az h;refine⟨e1,S.srt,S.len,S.few,b,fun r hr=>(S.gen r hr).trans fun s a=>?_,GP S.ech S.srt,fun p hp=>bd p hp p hp⟩;obtain⟨p,hp,rfl⟩:=List.mem_map.mp a;exact JD c (fun q hq=>Sp.mem (List.mem_map.mpr ⟨q,hq,rfl⟩)) p hp
end
end Tb
end
section
namespace K26
open PySem L2
def vc(l:List Int):Tb.Vc:=fun i=>l.getD i 0
def vF(fr:Nat->List Int):Nat->Tb.Vc:=fun p=>vc (fr p)
def Ed{f:Int->Int->Int}(a:f 0 0=0){l on:List Int}(h:l.length=on.length):vc (AA f l on)=fun u=>f (vc l u) (vc on u):=by
 funext u
 unfold vc;rw[Ac,Ac,Ac,List.getElem?_zipWith];rcases Bk u l.length with c|c
 ·rw[Aa c,Aa (h▸c)];rfl
 ·rw[List.getElem?_eq_none c,List.getElem?_eq_none (h▸c)];exact a.symm
def JF{fr:Nat->List Int}{l:List Int}{p:Nat}(h:l.length=(fr p).length):vc (cY fr l p)=Tb.step (vF fr) p (vc l):=by
 unfold cY dz;rw[Ed (by simp) h]
 rfl
def ry{fr:Nat->List Int}{W:Nat}:∀{ps:List Nat}{rn:List Int},rn.length=W->(∀p∈ps,(fr p).length=W)->vc (aK fr rn ps)=Tb.aY (vF fr) ps (vc rn)
 |[],_,_,_=>rfl
 |p::ps,rn,h,h2=>by
  have hp:=h2 p (AI ..);show vc (aK fr (cY fr rn p) ps)=Tb.aY (vF fr) ps (Tb.step (vF fr) p (vc rn));rw[ry (ps:=ps) (GK h hp) fun q hq=>h2 q (AM _ hq),JF ω]
def JG{a b:Int}{l on:List Int}(h:l.length=on.length):vc (ba a l b on)=Tb.mix a (vc l) b (vc on):=by
 unfold ba;rw[Ed (by simp) h]
 rfl
def Om{l:List Int}:vc (l.map fun x=>-x)=fun u=>-vc l u:=by
 funext u
 unfold vc;rw[Ac,Ac,Aj];cases l[u]?<;>simp
def bR(fr:Nat->List Int)(p:Nat)(l:List Int):Nat->List Int:=fun q=>if q=p then l else fr q
def GQ{fr:Nat->List Int}{p:Nat}{l:List Int}:vF (bR fr p l)=Tb.put (vF fr) p (vc l):=by
 funext q
 unfold vF bR Tb.put;split<;>rfl
def Ee{l:List Int}{x:Int}(h:x∈l):∃i,i<l.length/\vc l i=x:=by
 obtain⟨i,hi,e⟩:=List.mem_iff_getElem.mp h;exact⟨i,hi,by unfold vc;rw[Ac,Aa hi];exact e⟩
def eL{l:List Int}{i:Nat}(h:l.length<=i):vc l i=0:=by unfold vc;rw[Ac,List.getElem?_eq_none h];rfl
def JH{l:List Int}(h:∃u,vc l u≠0):∃k,k<l.length/\(∀i,i<k->l[i]?=some 0)/\(∃x,l[k]?=some x/\x≠0)/\(∀i,i<k->vc l i=0)/\vc l k≠0:=by
 classical
 induction l with
 |nil=>obtain⟨u,a⟩:=h;exact absurd (eL (Ap u)) a
 |cons x l ih=>
  by_cases c:x=0
  ·obtain⟨u,a⟩:=h
   cases u with
   |zero=>exact absurd (show vc (x::l) 0=0 from c) a
   |succ u=>
    obtain⟨k,h1,h2,⟨y,b,d⟩,e,f⟩:=ih ⟨u,by simpa[vc] using a⟩;refine⟨k+1,by simpa using h1,fun i hi=>?_,⟨y,by simpa using b,d⟩,fun i hi=>?_,by simpa[vc] using f⟩
    ·cases i with
     |zero=>simp[c]
     |succ i=>simpa using h2 i ω
    ·cases i with
     |zero=>exact c
     |succ i=>simpa[vc] using e i ω
  ·exact⟨0,by simp,fun i hi=>ω,⟨x,rfl,c⟩,fun i hi=>ω,c⟩
def JI:∃n:Nat,n=67108864:=⟨_,rfl⟩
noncomputable def bt:Nat:=Classical.choose JI
def lf:bt=67108864:=Classical.choose_spec JI
noncomputable def big:Nat:=2 ^ bt
def oj{i j:Int}(h1:i.natAbs<big)(h2:j.natAbs<big):eH i j:=⟨bt,bt,h1,h2,by have:=lf;(first|lia|omega)⟩
def GR{a b:Int}:(a / b).natAbs<=a.natAbs:=Int.natAbs_ediv_le_natAbs _ _
structure Wid(W:Nat)(P:List Nat)(fr:Nat->List Int):Prop where
 most:W<=1000
 row:∀p∈P,p<W/\(fr p).length=W
def Wid.sub{W:Nat}{P Q:List Nat}{fr:Nat->List Int}(h:Wid W P fr)(a:∀p∈Q,p∈P):Wid W Q fr:=⟨h.most,fun p hp=>h.row p (a p hp)⟩
def Wid.put{W:Nat}{P:List Nat}{fr:Nat->List Int}{p:Nat}{l:List Int}(h:Wid W P fr)(a:l.length=W):Wid W P (bR fr p l):=⟨h.most,fun q hq=>⟨(h.row q hq).1,by unfold bR;split;exact a;exact(h.row q hq).2⟩⟩
def On{R:List Tb.Vc}{P ps:List Nat}{fr:Nat->List Int}{W C CF V VF N Y:Nat}{rn:List Int}(j:∀r∈R,∀u,(r u).natAbs<=Y)(d:R.length<=N)(l:∀p∈P,Tb.Rep R CF (vF fr p))(w:∀p∈P,∀q∈P,(vF fr p q).natAbs<=VF)(a:∀p∈P,0<vF fr p p)(g:∀p∈P,(vF fr p p).natAbs<2 ^ 9000)(f:Wid W P fr)(o:rn.length=W)(hr:Tb.Rep R C (vc rn))(hv:∀q∈P,(vc rn q).natAbs<=V)(c:∀p∈ps,p∈P)(y:N*((C+ps.length*(V*(1+VF) ^ ps.length*CF))*Y)<big)(z:N*(CF*Y)<big):la fr W rn ps:=by
 refine⟨o,f.most,fun p hp=>⟨(f.row p (c p hp)).1,(f.row p (c p hp)).2,a p (c p hp),g p (c p hp)⟩,fun i p hp x hx=>?_⟩;have s:=Am hp;have v:=c p s;refine oj (At GR ?_) ?_
 ·obtain⟨r1,_⟩:=Tb.nZ l w a (ps.take i) (fun q hq=>c q (List.mem_of_mem_take hq)) hr hv
  have e:=ry (fr:=fr) (W:=W) (ps:=ps.take i) (rn:=rn) o fun q hq=>(f.row q (c q (List.mem_of_mem_take hq))).2;rw[<-e] at r1;have b:=r1.le (u:=p) fun r hr=>j r hr p;refine At (Ae b (AR d (Ak _ ?_))) y;have h:(ps.take i).length<=ps.length:=by rw[List.length_take];(first|lia|omega)
  refine Nat.add_le_add_left (AR h (Ak _ (Al _ (AC ω h)))) _
 ·obtain⟨u,_,rfl⟩:=Ee hx
  exact At (Ae ((l p v).le (u:=u) fun r hr=>j r hr u) (Ak _ d)) z
def ci(es:List (Nat×Addr))(p:Nat)(d:Addr):List (Nat×Addr):=if p∈es.map (·.1) then es.map fun e=>if e.1=p then(p,d) else e else es++[(p,d)]
def Ef{es:List (Nat×Addr)}{p:Nat}{d:Addr}:(ci es p d).map (·.1)=if p∈es.map (·.1) then es.map (·.1) else es.map (·.1)++[p]:=by
 unfold ci;split
 ·rw[AT]
  refine Ba fun e _=>?_;simp only[Function.comp];split<;>simp_all
 ·simp
def putE_mem{es:List (Nat×Addr)}{p:Nat}{d:Addr}{e:Nat×Addr}(h:e∈ci es p d):e=(p,d)\/(e∈es/\e.1≠p):=by
 unfold ci at h;split at h
 ·obtain⟨x,hx,rfl⟩:=List.mem_map.mp h
  split
  ·exact .inl rfl
  ·exact .inr ⟨hx,by assumption⟩
 ·rename_i hp
  rcases List.mem_append.mp h with h|h
  ·exact .inr ⟨h,fun z=>hp (z▸List.mem_map.mpr ⟨e,h,rfl⟩)⟩
  ·exact .inl (by simpa using h)
def Oo{es:List (Nat×Addr)}{p:Nat}{d:Addr}:putK ((eS es).map fun p=>((Sum.inl p.1:Key),p.2)) (Sum.inl (p:Int)) (.ref d)=(eS (ci es p d)).map fun p=>((Sum.inl p.1:Key),p.2):=by
 have b:∀e:Nat×Addr,((Sum.inl (e.1:Int):Key)=Sum.inl (p:Int))↔e.1=p:=by
  intro e;constructor
  ·intro z
   have:((e.1:Int))=p:=by injection z
   (first|lia|omega)
  ·intro z;rw[z]
 have e1:(((eS es).map fun p=>((Sum.inl p.1:Key),p.2)).any fun f=>decide (f.1=Sum.inl (p:Int)))=decide (p∈es.map (·.1)):=by
  rw[Bool.eq_iff_iff,List.any_eq_true,decide_eq_true_iff,List.mem_map];constructor
  ·rintro⟨x,hx,hk⟩
   rw[AT] at hx;obtain⟨e,a,rfl⟩:=List.mem_map.mp hx;exact⟨e,a,(b e).mp (of_decide_eq_true hk)⟩
  ·rintro⟨e,a,rfl⟩
   refine⟨(Sum.inl (e.1:Int),V.ref e.2),?_,by simp⟩;rw[AT];exact List.mem_map.mpr ⟨e,a,rfl⟩
 unfold putK ci;rw[e1]
 by_cases c:p∈es.map (·.1)
 ·rw[if_pos (decide_eq_true c),if_pos c]
  unfold eS;rw[AT,AT,AT,AT];refine Ba fun e _=>?_;show(if(Sum.inl (e.1:Int):Key)=Sum.inl (p:Int) then _ else _)=_
  by_cases z:e.1=p
  ·rw[if_pos ((b e).mpr z)]
   simp only[Function.comp,if_pos z];rw[z]
  ·rw[if_neg fun q=>z ((b e).mp q)]
   simp only[Function.comp,if_neg z]
 ·rw[if_neg (by simpa using c),if_neg c]
  simp[eS]
def Fnd.put{H H2:Hp}{a d:Addr}{es:List (Nat×Addr)}{fr:Nat->List Int}{p:Nat}{l:List Int}(h:Fnd H a es fr)(hd:H d=some (.lst (l.map V.int)))(g:es.length<1000):∃H2,DPut H a (.int p) (.ref d) H2/\Fnd H2 a (ci es p d) (bR fr p l)/\∀b,b≠a->H2 b=H b:=by
 have hp:=DPut.k (k:=Sum.inl (p:Int)) (v:=V.ref d) h.at_ (by rw[sizeLine_eq];simp;(first|lia|omega));refine⟨_,hp,⟨?_,?_,?_⟩,fun b hb=>am hb⟩
 ·rw[af,Oo]
 ·rw[Ef]
  split
  ·exact h.nd
  ·rename_i hn
   rw[List.nodup_append];refine⟨h.nd,by simp,fun x hx y hy=>?_⟩;have:y=p:=by simpa using hy
   subst this;exact fun z=>hn (z▸hx)
 ·intro e c
  have ne:∀b,(∃xs,H b=some (.lst xs))->b≠a:=fun b ⟨xs,hb⟩ z=>by rw[z,h.at_] at hb;cases hb
  rcases putE_mem c with rfl|⟨c,f⟩
  ·rw[am (ne d ⟨_,hd⟩),hd];unfold bR;rw[if_pos rfl]
  ·rw[am (ne e.2 ⟨_,h.rows e c⟩),h.rows e c];unfold bR;rw[if_neg f]
end K26
end
section
namespace Tb
def sX(N M:Nat):Nat:=(2*N*M) ^ N
def sB(N M:Nat):Nat:=N*(sX N M*M)
def JJ{N M j:Nat}(a:1<=N)(b:1<=M)(c:j<=N):(2*j*M) ^ (j-1)<=sX N M:=by
 have h1:2*j*M<=2*N*M:=Ak _ (Al _ c);exact Ae (Bh h1 _) (AC (jd (jd ξ a) b) ω)
def Op{N M:Nat}{R:List Vc}(i:1<=N)(b:1<=M)(hi:iC R)(a:R.length<=N)(hb:∀r∈R,∀u,(r u).natAbs<=M):Bd N M (sX N M) (sB N M) R:=by
 refine⟨hi,fun P f h d e j g=>⟨fun p hp=>?_,fun r hr p _=>hb r hr p,fun c V hc hv x hx=>?_⟩⟩
 ·refine Ae (N9 b hi h d e g (fun r hr p _=>hb r hr p) hp) ?_
  exact AR a (Ak _ (JJ i b a))
 ·refine Ae (xy b (fun r hr p _=>hb r hr p) g (d.imp fun h=>Az h) (ro hi h d e) hc hv x hx) ?_
  exact AR a (Al _ (JJ i b a))
def shr(f:Nat->Vc):List Nat->Vc->List Int
 |[],_=>[]
 |p::ps,l=>l p / f p p::shr f ps (step f p l)
section
variable{f:Nat->Vc}
def GS:∀(ps:List Nat)(l:Vc),(shr f ps l).length=ps.length
 |[],_=>rfl
 |p::ps,l=>by show(shr f ps (step f p l)).length+1=ps.length+1;rw[GS ps]
def GT:∀{ps:List Nat}{l:Vc},Ech ps f->ps.Pairwise (·<·)->Sp (ps.map f) l->∀u,l u=cmb (shr f ps l) (ps.map f) u
 |[],l,_,_,⟨c,hc,e⟩,u=>by rw[e];cases c with|nil=>rfl|cons _ _=>simp at hc
 |p::ps,l,h,hs,⟨c,hc,e⟩,u=>by
  cases c with
  |nil=>simp at hc
  |cons a c=>
   rw[Bg] at hs;have h':Ech ps f:=h.sub fun q hq=>.tail _ hq;have hp:=h.pos p (.head _);have ep:l p=a*f p p:=by
    rw[e];show a*f p p+cmb c (ps.map f) p=a*f p p;rw[zQ c (ps.map f) fun v hv=>by
     obtain⟨r,hr,rfl⟩:=List.mem_map.mp hv;exact h.z r (.tail _ hr) p (hs.1 r hr)]
    (first|lia|omega)
   have b:l p / f p p=a:=by rw[ep];exact Int.mul_ediv_cancel a ω
   have sp:Sp (ps.map f) (step f p l):=⟨c,by simpa using hc,fun u=>by
    unfold step;rw[b,e];show a*f p u+cmb c (ps.map f) u-a*f p u=_;(first|lia|omega)⟩
   have d:=GT h' hs.2 sp u;show l u=l p / f p p*f p u+cmb (shr f ps (step f p l)) (ps.map f) u;rw[<-d];unfold step;(first|lia|omega)
def Oq{P:List Nat}{VF:Nat}(c:∀p∈P,∀q∈P,(f p q).natAbs<=VF)(a:∀p∈P,0<f p p):∀(ps:List Nat){l:Vc}{V:Nat},(∀p∈ps,p∈P)->(∀q∈P,(l q).natAbs<=V)->∀x∈shr f ps l,x.natAbs<=V*(1+VF) ^ ps.length
 |[],_,_,_,_,x,hx=>nomatch hx
 |p::ps,l,V,hs,hv,x,hx=>by
  have hp:=hs p (.head _);have b:(l p / f p p).natAbs<=V:=Ae (Int.natAbs_ediv_le_natAbs (l p) (f p p)) (hv p hp);rcases List.mem_cons.mp hx with rfl|hx
  ·refine Ae b (Nat.le_mul_of_pos_right _ (Nat.pow_pos ω))
  ·have d:∀q∈P,(step f p l q).natAbs<=V*(1+VF):=fun q hq=>by
    have e:=hv q hq;have g:(l p / f p p*f p q).natAbs<=V*VF:=by rw[AB];exact AR b (c p hp q hq)
    have h:(step f p l q).natAbs<=(l q).natAbs+(l p / f p p*f p q).natAbs:=by unfold step;(first|lia|omega)
    rw[Nat.mul_add,Nat.mul_one];(first|lia|omega)
   have:=Oq c a ps (fun q hq=>hs q (.tail _ hq)) d x hx
   rwa [AQ,Nat.mul_comm (1+VF),<-Nat.pow_succ] at this
end
def dl(s t:Nat):Int:=if s=t then 1 else 0
structure Dual(k:Nat)(U Bc:List Vc):Prop where
 lu:U.length=k
 lb:Bc.length=k
 d:∀s t,s<k->t<k->cmb (Bc.map fun b=>b s) U t=dl s t
def JK{t:Nat}:∀(c:List Int)(A B:List Vc),A.length=B.length->(∀(i:Nat) a b,A[i]?=some a->B[i]?=some b->a t=b t)->cmb c A t=cmb c B t
 |[],[],[],_,_=>rfl
 |[],_::_,_::_,_,_=>rfl
 |_::_,[],[],_,_=>rfl
 |x::c,a::A,b::B,hl,h=>by
  show x*a t+cmb c A t=x*b t+cmb c B t;rw[h 0 a b rfl rfl,JK c A B (by simpa using hl) fun i a b h1 h2=>h (i+1) a b (by simpa using h1) (by simpa using h2)]
 |[],[],_::_,hl,_=>by simp at hl
 |[],_::_,[],hl,_=>by simp at hl
 |_::_,[],_::_,hl,_=>by simp at hl
 |_::_,_::_,[],hl,_=>by simp at hl
def range_getD(row:List Int):(Af row.length).map (fun j=>row.getD j 0)=row:=by
 apply AZ
 ·simp
 ·intro i h1 h2;simp at h1;simp[h2]
def JL{U:List Vc}{k s t:Nat}(hk:U.length=k):∀(sh:Ξ)(Bc:List Vc),(∀row∈sh,row.length=k)->
  cmb ((Af k).map fun j=>cmb (sh.map fun row=>row.getD j 0) Bc s) U t=cmb (Bc.map fun b=>b s) (sh.map fun row=>cmb row U) t
 |[],Bc,_=>by
  have e:((Af k).map fun j=>cmb (([]:Ξ).map fun row=>row.getD j 0) Bc s)=(Af k).map fun _=>0:=Ba fun j _=>by cases Bc<;>rfl
  rw[e,n7 _ _ _ (fun x hx=>by obtain⟨_,_,rfl⟩:=List.mem_map.mp hx;rfl)];cases Bc<;>rfl
 |row::sh,[],h=>by
  have e:((Af k).map fun j=>cmb ((row::sh).map fun row=>row.getD j 0) [] s)=(Af k).map fun _=>0:=Ba fun j _=>rfl;rw[e,n7 _ _ _ (fun x hx=>by obtain⟨_,_,rfl⟩:=List.mem_map.mp hx;rfl)]
  rfl
 |row::sh,b::Bc,h=>by
  have a:=JL (s:=s) (t:=t) hk sh Bc fun r hr=>h r (.tail _ hr);have hr:=h row (.head _);have e:((Af k).map fun j=>cmb ((row::sh).map fun row=>row.getD j 0) (b::Bc) s)=AA (fun x y=>b s*x+1*y) row ((Af k).map fun j=>cmb (sh.map fun row=>row.getD j 0) Bc s):=by
   apply AZ
   ·rw[AE,Ab,Ab,AU,hr,Nat.min_self]
   ·intro i h1 h2
    rw[Ab,AU] at h1;rw[A0,AW,AW,A9];show row.getD i 0*b s+cmb (sh.map fun row=>row.getD i 0) Bc s=_;rw[Ac,Aa ω,A5];show b s*row[i]+_=_;(first|lia|omega)
  rw[e,fN _ _ _ _ U ω (by rw[Ab,AU,hk]),a];show _=b s*cmb row U t+cmb (Bc.map fun b=>b s) (sh.map fun row=>cmb row U) t;(first|lia|omega)
def Dual.next{k:Nat}{U Bc V:List Vc}{sh:Ξ}(D:Dual k U Bc)(e:V.length=k)(ls:sh.length=k)(g:∀row∈sh,row.length=k)(h:∀(i:Nat) u row t,U[i]?=some u->sh[i]?=some row->t<k->u t=cmb row V t):Dual k V ((Af k).map fun j=>fun s=>cmb (sh.map fun row=>row.getD j 0) Bc s):=by
 refine⟨e,by simp,fun s t f c=>?_⟩;rw[AT];show cmb ((Af k).map fun j=>cmb (sh.map fun row=>row.getD j 0) Bc s) V t=dl s t;rw[JL e sh Bc g,<-D.d s t f c];refine JK _ _ _ (by rw[Ab,ls,D.lu]) fun i a b h1 h2=>?_;rw[Aj] at h1;obtain⟨row,hr,rfl⟩:=Option.map_eq_some_iff.mp h1;exact(h i b row t h2 hr c).symm
def dot:Nat->Vc->Vc->Int
 |0,_,_=>0
 |k+1,a,b=>dot k a b+a k*b k
def rH{k:Nat}{a a' b:Vc}{x y:Int}:dot k (fun u=>x*a u+y*a' u) b=x*dot k a b+y*dot k a' b:=by
 induction k with
 |zero=>show(0:Int)=x*0+y*0;(first|lia|omega)
 |succ k ih=>
  show dot k _ b+(x*a k+y*a' k)*b k=x*(dot k a b+a k*b k)+y*(dot k a' b+a' k*b k);rw[ih,Int.add_mul,Bi,Bi,AS,AS];(first|lia|omega)
def zL{k:Nat}{a b:Vc}(h:∀t,t<k->a t=0):dot k a b=0:=by
 induction k with
 |zero=>rfl
 |succ k ih=>show dot k a b+a k*b k=0;rw[ih fun t c=>h t ω,h k ω];(first|lia|omega)
def zF{k:Nat}{a a' b:Vc}(h:∀t,t<k->a t=a' t):dot k a b=dot k a' b:=by
 induction k with
 |zero=>rfl
 |succ k ih=>show dot k a b+a k*b k=dot k a' b+a' k*b k;rw[ih fun t c=>h t ω,h k ω]
def GU{k:Nat}{b:Vc}:∀(c:List Int)(L:List Vc),dot k (cmb c L) b=cmb c (L.map fun l=>fun _=>dot k l b) 0
 |[],[]=>zL fun _ _=>rfl
 |[],_::_=>zL fun _ _=>rfl
 |_::_,[]=>zL fun _ _=>rfl
 |x::c,l::L=>by
  show dot k (fun u=>x*l u+cmb c L u) b=x*dot k l b+cmb c (L.map fun l=>fun _=>dot k l b) 0;rw[<-GU c L];have:=rH (k:=k) (a:=l) (a':=cmb c L) (b:=b) (x:=x) (y:=1);rw[Int.one_mul] at this;rw[<-this];exact zF fun t _=>ω
def GV{U:List Vc}{t:Nat}:∀(k:Nat)(x:Vc)(Bc:List Vc),Bc.length=U.length->cmb (Bc.map fun b=>dot k x b) U t=dot k x (fun s=>cmb (Bc.map fun b=>b s) U t)
 |0,x,Bc,_=>n7 _ _ _ fun y hy=>by obtain⟨_,_,rfl⟩:=List.mem_map.mp hy;rfl
 |k+1,x,Bc,hl=>by
  show cmb (Bc.map fun b=>dot k x b+x k*b k) U t=dot k x (fun s=>cmb (Bc.map fun b=>b s) U t)+x k*cmb (Bc.map fun b=>b k) U t;rw[<-GV k x Bc hl];have:=fN 1 (x k) (Bc.map fun b=>dot k x b) (Bc.map fun b=>b k) U (by rw[Ab,hl]) (by rw[Ab,hl]) t;rw[Int.one_mul] at this;rw[<-this]
  congr 1
  apply AZ
  ·simp
  ·intro i h1 h2;simp
def jX{k:Nat}{x:Vc}{t:Nat}(b:t<k):dot k x (fun s=>dl s t)=x t:=by
 induction k with
 |zero=>(first|lia|omega)
 |succ k ih=>
  show dot k x _+x k*dl k t=x t
  by_cases e:t=k
  ·subst e
   have:dot t x (fun s=>dl s t)=0:=by
    have z:∀j,j<=t->dot j x (fun s=>dl s t)=0:=by
     intro j
     induction j with
     |zero=>intro _;rfl
     |succ j ih=>intro a;show dot j x _+x j*dl j t=0;rw[ih ω];unfold dl;rw[if_neg ω];(first|lia|omega)
    exact z t (Ad _)
   rw[this];unfold dl;rw[if_pos rfl];(first|lia|omega)
  ·rw[ih ω];unfold dl;rw[if_neg ω];(first|lia|omega)
def zi{k:Nat}{a b b':Vc}(h:∀t,t<k->b t=b' t):dot k a b=dot k a b':=by
 induction k with
 |zero=>rfl
 |succ k ih=>show dot k a b+a k*b k=dot k a b'+a k*b' k;rw[ih fun t c=>h t ω,h k ω]
structure Both(k:Nat)(U Bc:List Vc):Prop where
 a:Dual k U Bc
 b:∀(i j:Nat) u c,U[i]?=some u->Bc[j]?=some c->dot k u c=dl i j
def Os{k:Nat}{U Bc:List Vc}(D:Dual k U Bc)(hi:∀c:List Int,c.length=k->(∀t,t<k->cmb c U t=0)->∀x∈c,x=0):Both k U Bc:=by
 refine⟨D,fun i j u c o hc=>?_⟩;have q:i<k:=by rw[<-D.lu];exact(List.getElem?_eq_some_iff.mp o).1
 have l:j<k:=by rw[<-D.lb];exact(List.getElem?_eq_some_iff.mp hc).1
 have h1:∀t,t<k->cmb (Bc.map fun b=>dot k u b) U t=u t:=fun t f=>by
  rw[GV k u Bc (by rw[D.lb,D.lu]),zi fun s p=>D.d s t p f];exact jX f
 have h2:∀t,t<k->cmb ((Af k).map fun s=>dl i s) U t=u t:=fun t f=>by
  have:∀(n:Nat)(V:List Vc),V.length=n->∀(i:Nat) v,V[i]?=some v->∀t,cmb ((Af n).map fun s=>dl i s) V t=v t:=by
   intro n
   induction n with
   |zero=>intro V g i v h;rw[AK g] at h;simp at h
   |succ n ih=>
    intro V g i v h t;cases V with
    |nil=>simp at g
    |cons w V=>
     rw[List.range_succ_eq_map,Bb,AT];show dl i 0*w t+cmb ((Af n).map fun s=>dl i (s+1)) V t=v t;cases i with
     |zero=>
      have e:v=w:=by simpa using h.symm
      rw[n7 _ _ _ (fun x hx=>by obtain⟨s,_,rfl⟩:=List.mem_map.mp hx;exact if_neg ω),e];show(1:Int)*w t+0=w t;(first|lia|omega)
     |succ i=>
      have:=ih V (by simpa using g) i v (by simpa using h) t;rw[show(fun s=>dl (i+1) (s+1))=(fun s=>dl i s) from funext fun s=>by unfold dl;simp];rw[this];show(0:Int)*w t+v t=v t;(first|lia|omega)
  exact this k U D.lu i u o t
 have hz:=hi (AA (fun a b=>a-b) (Bc.map fun b=>dot k u b) ((Af k).map fun s=>dl i s)) (by rw[AE,Ab,Ab,AU,D.lb,Nat.min_self]) fun t f=>by
  rw[D8 _ _ U (by rw[Ab,D.lb,D.lu]) (by rw[Ab,AU,D.lu]),h1 t f,h2 t f];(first|lia|omega)
 have g:j<(AA (fun a b=>a-b) (Bc.map fun b=>dot k u b) ((Af k).map fun s=>dl i s)).length:=by rw[AE,Ab,Ab,AU,D.lb,Nat.min_self];exact l
 have:=hz _ (Ao g);rw[A0,AW,AW,A9] at this;have e:Bc[j]'(by rw[D.lb];exact l)=c:=(List.getElem?_eq_some_iff.mp hc).2;rw[e] at this;(first|lia|omega)
def Both.free{k w:Nat}{R Bc:List Vc}(D:Both k (R.map fun r=>fun t=>r (w+t)) Bc){c:List Int}(hc:c.length=R.length)(hz:∀t,t<k->cmb c R (w+t)=0):∀x∈c,x=0:=by
 have H:R.length=k:=by have:=D.a.lu;rwa [Ab] at this
 have F:∀(c:List Int)(R:List Vc)(t:Nat),cmb c R (w+t)=cmb c (R.map fun r=>fun t=>r (w+t)) t:=by
  intro c
  induction c with
  |nil=>intro R t;cases R<;>rfl
  |cons a c ih=>intro R t;cases R with
   |nil=>rfl
   |cons r R=>show a*r (w+t)+cmb c R (w+t)=a*r (w+t)+_;rw[ih]
 intro x hx;obtain⟨j,s,rfl⟩:=AN hx;have o:j<Bc.length:=by rw[D.a.lb];(first|lia|omega)
 have y:dot k (cmb c (R.map fun r=>fun t=>r (w+t))) Bc[j]=0:=zL fun t C=>by rw[<-F];exact hz t C
 rw[GU] at y;have G:∀(c:List Int)(U:List Vc)(d:Nat),c.length=U.length->(∀(i:Nat) u,U[i]?=some u->dot k u Bc[j]=dl (d+i) j)->∀(s:d<=j)(h:j-d<c.length),cmb c (U.map fun l=>fun _=>dot k l Bc[j]) 0=c[j-d]:=by
  intro c
  induction c with
  |nil=>intro U d _ _ _ h;simp at h
  |cons a c ih=>
   intro U d p q s h;cases U with
   |nil=>simp at p
   |cons u U=>
    show a*dot k u Bc[j]+cmb c (U.map fun l=>fun _=>dot k l Bc[j]) 0=_;have f:=q 0 u rfl;rw[f];have A:∀(i:Nat) v,U[i]?=some v->dot k v Bc[j]=dl (d+1+i) j:=fun i v hv=>by rw[q (i+1) v (by simpa using hv)];congr 1;(first|lia|omega)
    by_cases e:d=j
    ·subst e
     have z:cmb c (U.map fun l=>fun _=>dot k l Bc[d]) 0=0:=zQ _ _ fun v hv=>by
      obtain⟨l,E,rfl⟩:=List.mem_map.mp hv;obtain⟨i,g,rfl⟩:=AN E;show dot k U[i] Bc[d]=0;rw[A i _ (Aa g)];unfold dl;rw[if_neg ω]
     rw[z];have:d-d=0:=Nat.sub_self _;simp only[this,List.getElem_cons_zero];unfold dl;rw[if_pos ω];(first|lia|omega)
    ·have:=ih U (d+1) (by simpa using p) A ω (by simp at h;(first|lia|omega))
     rw[this];have e2:j-d=(j-(d+1))+1:=ω
     simp only[e2,List.getElem_cons_succ];unfold dl;rw[if_neg ω];(first|lia|omega)
 have:=G c (R.map fun r=>fun t=>r (w+t)) 0 (by rw[Ab,hc]) (fun i u f=>by rw[Nat.zero_add];exact D.b i j u Bc[j] f (Aa o)) (Ap _) ω;rw[y] at this;exact this.symm
def allb:List Nat->Ξ
 |[]=>[[]]
 |t::ts=>(allb ts).flatMap fun c=>(Af t).map fun a:Nat=>(a:Int)::c
def pr:List Nat->Nat
 |[]=>1
 |t::ts=>t*pr ts
def lg:∀b,(allb b).length=pr b
 |[]=>rfl
 |t::b=>by
  have:∀l:Ξ,(l.flatMap fun c=>(Af t).map fun a:Nat=>(a:Int)::c).length=t*l.length:=by
   intro l
   induction l with
   |nil=>simp
   |cons c l ih=>rw[List.flatMap_cons,A6,Ab,AU,ih,AL,Nat.mul_add];(first|lia|omega)
  show((allb b).flatMap _).length=_;rw[this,lg b];rfl
def j0:∀{b:List Nat}{c:List Int},c∈allb b↔c.length=b.length/\∀(i:Nat) x t,c[i]?=some x->b[i]?=some t->0<=x/\x<(t:Int)
 |[],c=>by
  show c∈[[]]↔_;rw[List.mem_singleton];constructor
  ·rintro rfl;exact⟨rfl,fun i x t h=>by simp at h⟩
  ·intro h;exact AK h.1
 |t::b,c=>by
  show c∈(allb b).flatMap (fun c=>(Af t).map fun a:Nat=>(a:Int)::c)↔_;rw[List.mem_flatMap];constructor
  ·rintro⟨d,hd,h⟩
   obtain⟨a,f,rfl⟩:=List.mem_map.mp h;obtain⟨h1,h2⟩:=j0.mp hd;have:=List.mem_range.mp f;refine⟨by rw[AL,h1,AL],fun i x t' hx e=>?_⟩;cases i with
   |zero=>simp at hx e;(first|lia|omega)
   |succ i=>exact h2 i x t' (by simpa using hx) (by simpa using e)
  ·rintro⟨h1,h2⟩
   cases c with
   |nil=>simp at h1
   |cons a d=>
    have f:=h2 0 a t rfl rfl;refine⟨d,j0.mpr ⟨by simpa using h1,fun i x t' hx e=>h2 (i+1) x t' (by simpa using hx) (by simpa using e)⟩,List.mem_map.mpr ⟨a.toNat,List.mem_range.mpr ω,?_⟩⟩;rw[Int.toNat_of_nonneg f.1]
def sI:∀d,(allb d).Nodup
 |[]=>by simp[allb]
 |t::d=>by
  show((allb d).flatMap fun c=>(Af t).map fun a:Nat=>(a:Int)::c).Pairwise (·≠·);rw[List.pairwise_flatMap];refine⟨fun c _=>?_,(sI d).imp fun{a b} h x hx y hy e=>?_⟩
  ·rw[List.pairwise_map]
   exact List.nodup_range.imp fun h e=>h (by injection e with e;(first|lia|omega))
  ·obtain⟨i,_,rfl⟩:=List.mem_map.mp hx
   obtain⟨j,_,rfl⟩:=List.mem_map.mp hy;injection e with _ e
   exact h e
def GW{a b:Type}{f:a->b}{l:List a}{m:List b}(c:l.Nodup)(d:∀x∈l,f x∈m)(inj:∀x∈l,∀y∈l,f x=f y->x=y):l.length<=m.length:=by
 rcases Bk m.length l.length with h|h
 ·obtain⟨x,hx,y,hy,ne,e⟩:=fC f l m c d h
  exact absurd (inj x hx y hy e) ne
 ·exact h
def vl(c:List Int):Vc:=fun j=>c.getD j 0
def lst(k:Nat)(x:Vc):List Int:=(Af k).map x
def GX{k i:Nat}{x:Vc}(h:i<k):(lst k x)[i]?=some (x i):=by unfold lst;rw[Aj,AH h];rfl
def hV{k:Nat}{x:Vc}:(lst k x).length=k:=by unfold lst;simp
def Ot{k:Nat}{x y:Vc}:lst k x=lst k y↔∀j,j<k->x j=y j:=by
 constructor
 ·intro h j a
  have:=congrArg (·[j]?) h;simp only[GX a] at this;exact AY this
 ·intro h
  exact Ba fun j a=>h j (List.mem_range.mp a)
def aK(L:Nat->Vc):Nat->Vc->Vc
 |0,x=>x
 |k+1,x=>aK L k (fun u=>x u-x k / L k k*L k u)
def SL(L:Nat->Vc)(k:Nat)(x:Vc):Prop:=∃c:Vc,∀j,j<k->x j=cmb (lst k c) ((Af k).map L) j
section
variable{L f:Nat->Vc}{r:Nat}{Λ:Vc->Prop}
structure Lt(Λ:Vc->Prop):Prop where
 z:Λ fun _=>0
 s:∀{v w:Vc}(m:Int),Λ v->Λ w->Λ fun u=>v u-m*w u
def Lt.cmb(T:Lt Λ):∀(c:List Int)(S:List Vc),(∀s∈S,Λ s)->Λ (Tb.cmb c S)
 |[],[],_=>T.z
 |[],_::_,_=>T.z
 |_::_,[],_=>T.z
 |a::c,s::S,h=>by
  have:=T.s (-a) (Lt.cmb T c S fun w hw=>h w (.tail _ hw)) (h s (.head _));have e:(fun u=>Tb.cmb c S u - -a*s u)=Tb.cmb (a::c) (s::S):=funext fun u=>by show Tb.cmb c S u - -a*s u=a*s u+Tb.cmb c S u;rw[Int.neg_mul];(first|lia|omega)
  rw[e] at this;exact this
structure Two(Λ:Vc->Prop)(r:Nat)(L f:Nat->Vc):Prop where
 lt:Lt Λ
 li:∀i,i<r->Λ (L i)
 lp:∀i,i<r->0<L i i
 lz:∀i j,i<j->j<r->L i j=0
 fi:∀i,i<r->Λ (f i)
 fp:∀i,i<r->0<f i i
 fz:∀i j,i<r->j<i->f i j=0
 ld:∀v i,Λ v->i<r->(∀j,j<i->v j=0)->f i i ∣ v i
def JM(T:Two Λ r L f):∀(k:Nat)(x:Vc)(j:Nat),k<=j->j<r->aK L k x j=x j
 |0,_,_,_,_=>rfl
 |k+1,x,j,hk,hj=>by
  show aK L k _ j=x j;rw[JM T k _ j ω hj,T.lz k j ω hj];(first|lia|omega)
def JN(T:Two Λ r L f):∀(k:Nat)(x:Vc),k<=r->∀i,i<k->0<=aK L k x i/\aK L k x i<L i i
 |k+1,x,hk,i,hi=>by
  by_cases e:i=k
  ·subst e
   show 0<=aK L i _ i/\aK L i _ i<L i i;rw[JM T i _ i (Ad _) ω];have a:=T.lp i ω;have em:x i-x i / L i i*L i i=x i%L i i:=by have:=Int.emod_add_mul_ediv (x i) (L i i);rw[A5] at this;(first|lia|omega)
   rw[em];exact⟨Int.emod_nonneg _ ω,Int.emod_lt_of_pos _ a⟩
  ·exact JN T k _ ω i ω
def GY:∀(k:Nat)(x:Vc),∃c:Vc,∀u,x u-aK L k x u=cmb (lst k c) ((Af k).map L) u
 |0,x=>⟨fun _=>0,fun u=>by show x u-x u=0;(first|lia|omega)⟩
 |k+1,x=>by
  obtain⟨c,hc⟩:=GY k (fun u=>x u-x k / L k k*L k u);refine⟨fun i=>if i=k then x k / L k k else c i,fun u=>?_⟩;have e1:lst (k+1) (fun i=>if i=k then x k / L k k else c i)=lst k c++[x k / L k k]:=by
   unfold lst;rw[List.range_succ,Aw]
   congr 1
   ·exact Ba fun i hi=>if_neg (Az (List.mem_range.mp hi))
   ·show [if k=k then _ else _]=_;rw[if_pos rfl]
  have e:∀(c:List Int)(S:List Vc)(a:Int)(v:Vc),c.length=S.length->cmb (c++[a]) (S++[v]) u=cmb c S u+a*v u:=by
   intro c
   induction c with
   |nil=>intro S a v d;rw[AK d.symm];show a*v u+0=0+a*v u;(first|lia|omega)
   |cons b c ih=>intro S a v d;cases S with
    |nil=>simp at d
    |cons s S=>show b*s u+cmb (c++[a]) (S++[v]) u=b*s u+cmb c S u+a*v u;rw[ih S a v (by simpa using d)];(first|lia|omega)
  rw[e1,List.range_succ,Aw,Bb,List.map_nil,e _ _ _ _ (by rw[hV];simp),<-hc u];show x u-aK L k _ u=_;(first|lia|omega)
def Two.small(T:Two Λ r L f){v:Vc}{k:Nat}(hk:k<=r)(hv:Λ v)(h:∀j,j<k->(v j).natAbs<(f j j).natAbs):∀j,j<k->v j=0:=by
 intro j
 induction j using Nat.strongRecOn with
 |_ j ih=>
  intro a;obtain⟨m,e⟩:=T.ld v j hv ω fun i hi=>ih i hi ω;have:=h j a;rw[e,AB] at this;rcases Nat.eq_zero_or_pos m.natAbs with z|z
  ·rw[e,Int.natAbs_eq_zero.mp z,AX]
  ·have:(f j j).natAbs*1<=(f j j).natAbs*m.natAbs:=Al _ z
   (first|lia|omega)
def tn(g:Nat->Vc)(k:Nat):List Nat:=(Af k).map fun i=>(g i i).toNat
def Eg{a:Nat->Vc}{k:Nat}{x:List Int}(h:x∈allb (tn a k)):x.length=k/\∀j,j<k->0<=vl x j/\vl x j<((a j j).toNat:Int):=by
 obtain⟨h1,h2⟩:=j0.mp h;unfold tn at h1 h2;rw[Ab,AU] at h1;refine⟨h1,fun j b=>?_⟩;have e:x[j]?=some (x[j]'ω):=Aa ω;have:=h2 j _ _ e (by rw[Aj,AH b];rfl);unfold vl;rw[Ac,e];exact this
def JO{x y:List Int}{k:Nat}(hx:x.length=k)(hy:y.length=k)(h:∀j,j<k->vl x j=vl y j):x=y:=by
 refine AZ ω fun i h1 h2=>?_;have:=h i ω;unfold vl at this;rw[Ac,Ac,Aa h1,Aa h2] at this;exact this
def JP(T:Two Λ r L f){k:Nat}(hk:k<=r)(x:Vc):lst k (aK L k x)∈allb (tn L k):=by
 refine j0.mpr ⟨by unfold tn;rw[hV];simp,fun i z t hz a=>?_⟩;have hi:i<k:=by have:=(List.getElem?_eq_some_iff.mp hz).1;rwa [hV] at this
 rw[GX hi] at hz;obtain rfl:=AY hz;unfold tn at a;rw[Aj,AH hi] at a;obtain rfl:=AY a;have:=JN T k x hk i hi;have:=T.lp i ω;show 0<=aK L k x i/\aK L k x i<((L i i).toNat:Int);(first|lia|omega)
def JQ(T:Two Λ r L f){k:Nat}(hk:k<=r){x y:Vc}(h:lst k (aK L k x)=lst k (aK L k y)):∃v,Λ v/\SL L k v/\∀j,j<k->v j=x j-y j:=by
 obtain⟨c,hc⟩:=GY (L:=L) k x;obtain⟨d,hd⟩:=GY (L:=L) k y;have g:∀s∈(Af k).map L,Λ s:=fun s a=>by
  obtain⟨i,hi,rfl⟩:=List.mem_map.mp a;exact T.li i (Ay (List.mem_range.mp hi) hk)
 have e:∀u,cmb (lst k fun i=>c i-d i) ((Af k).map L) u=cmb (lst k c) ((Af k).map L) u-cmb (lst k d) ((Af k).map L) u:=fun u=>by
  rw[<-D8 _ _ _ (by rw[hV];simp) (by rw[hV];simp)]
  congr 1
  apply AZ
  ·simp[hV]
  ·intro i h1 h2;simp only[lst,AW,A9,A0]
 refine⟨cmb (lst k fun i=>c i-d i) ((Af k).map L),T.lt.cmb _ _ g,⟨_,fun j _=>rfl⟩,fun j b=>?_⟩;rw[e,<-hc j,<-hd j,Ot.mp h j b];(first|lia|omega)
def GZ(T:Two Λ r L f){k:Nat}(hk:k<=r):pr (tn f k)<=pr (tn L k):=by
 rw[<-lg,<-lg];refine GW (f:=fun x=>lst k (aK L k (vl x))) (sI _) (fun x _=>JP T hk _) fun x hx y hy e=>?_;obtain⟨v,hv,_,b⟩:=JQ T hk e;obtain⟨c,d⟩:=Eg hx;obtain⟨g,h⟩:=Eg hy;have z:=T.small hk hv fun j a=>by
  have h1:=d j a;have h2:=h j a
  have i:=T.fp j ω;rw[b j a];(first|lia|omega)
 exact JO c g fun j a=>by have:=z j a;rw[b j a] at this;(first|lia|omega)
def half_lt(T:Two Λ r L f){k:Nat}(hk:k<=r){w:Vc}(hw:Λ w)(D:¬SL L k w):2*pr (tn f k)<=pr (tn L k):=by
 have eq:2*pr (tn f k)=((allb (tn f k)).map (fun x=>(false,x))++(allb (tn f k)).map (fun x=>(true,x))).length:=by rw[A6,Ab,Ab,lg];(first|lia|omega)
 rw[eq,<-lg]
 let g:Bool×List Int->Vc:=fun p=>if p.1=true then fun u=>vl p.2 u+w u else vl p.2
 have mem:∀p∈(allb (tn f k)).map (fun x=>(false,x))++(allb (tn f k)).map (fun x=>(true,x)),p.2∈allb (tn f k):=fun p hp=>by
  rcases List.mem_append.mp hp with h|h<;>(obtain⟨x,hx,rfl⟩:=List.mem_map.mp h;exact hx)
 refine GW (f:=fun p=>lst k (aK L k (g p))) ?_ (fun p _=>JP T hk _) fun p hp q hq e=>?_
 ·rw[List.nodup_append]
  refine⟨?_,?_,fun x hx y hy=>?_⟩
  ·exact List.Pairwise.map _ (fun a b(h:a≠b) e=>h (by injection e)) (sI _)
  ·exact List.Pairwise.map _ (fun a b(h:a≠b) e=>h (by injection e)) (sI _)
  ·obtain⟨_,_,rfl⟩:=List.mem_map.mp hx
   obtain⟨_,_,rfl⟩:=List.mem_map.mp hy;intro z;injection z with z;cases z
 ·obtain⟨v,hv,sv,l⟩:=JQ T hk e
  obtain⟨a,x⟩:=p;obtain⟨b,y⟩:=q;obtain⟨F,G⟩:=Eg (show x∈_ from mem _ hp);obtain⟨H,I⟩:=Eg (show y∈_ from mem _ hq);have fin:∀{o:Vc},Λ o->(∀j,j<k->o j=vl x j-vl y j)->x=y:=fun{o} E C=>by
   have z:=T.small hk E fun j d=>by
    have h1:=G j d;have h2:=I j d
    have J:=T.fp j ω;rw[C j d];(first|lia|omega)
   exact JO F H fun j d=>by have:=z j d;rw[C j d] at this;(first|lia|omega)
  cases a with
  |false=>
   cases b with
   |false=>rw[fin hv fun j d=>by rw[l j d];rfl]
   |true=>
    exfalso
    have A:=fin (T.lt.s (-1) hv hw) fun j d=>by rw[l j d];show vl x j-(vl y j+w j) - -1*w j=_;(first|lia|omega)
    subst A;obtain⟨c,hc⟩:=sv;apply D;refine⟨fun i=>-c i,fun j d=>?_⟩;have h1:=l j d;have h2:=hc j d;have e2:cmb (lst k fun i=>-c i) ((Af k).map L) j=-cmb (lst k c) ((Af k).map L) j:=by
     have:=fN (-1) 0 (lst k c) (lst k c) ((Af k).map L) (by rw[hV];simp) (by rw[hV];simp) j;rw[show(-1:Int)*cmb (lst k c) ((Af k).map L) j+0*cmb (lst k c) ((Af k).map L) j=-cmb (lst k c) ((Af k).map L) j from ω] at this;rw[<-this]
     congr 1
     apply AZ
     ·simp[hV]
     ·intro i h1 h2;simp only[lst,AW,A9,A0];(first|lia|omega)
    rw[e2,<-h2,h1];show w j=-(vl x j-(vl x j+w j));(first|lia|omega)
  |true=>
   cases b with
   |true=>rw[fin hv fun j d=>by rw[l j d];show vl x j+w j-(vl y j+w j)=_;(first|lia|omega)]
   |false=>
    exfalso
    have A:=fin (T.lt.s 1 hv hw) fun j d=>by rw[l j d];show vl x j+w j-vl y j-1*w j=_;(first|lia|omega)
    subst A;obtain⟨c,hc⟩:=sv;exact D ⟨c,fun j d=>by rw[<-hc j d,l j d];show w j=vl x j+w j-vl x j;(first|lia|omega)⟩
def JR{j k:Nat}{c:Vc}(h:∀i,i<k->L i j=0):cmb (lst k c) ((Af k).map L) j=0:=
 zQ _ _ fun v hv=>by
  obtain⟨i,hi,rfl⟩:=List.mem_map.mp hv;exact h i (List.mem_range.mp hi)
def JS(u k:Nat)(c:Vc):cmb (lst (k+1) c) ((Af (k+1)).map L) u=cmb (lst k c) ((Af k).map L) u+c k*L k u:=by
 have f:∀(c:List Int)(S:List Vc)(a:Int)(v:Vc),c.length=S.length->cmb (c++[a]) (S++[v]) u=cmb c S u+a*v u:=by
  intro c
  induction c with
  |nil=>intro S a v d;rw[AK d.symm];show a*v u+0=0+a*v u;(first|lia|omega)
  |cons b c ih=>intro S a v d;cases S with
   |nil=>simp at d
   |cons s S=>show b*s u+cmb (c++[a]) (S++[v]) u=b*s u+cmb c S u+a*v u;rw[ih S a v (by simpa using d)];(first|lia|omega)
 have e:lst (k+1) c=lst k c++[c k]:=by unfold lst;rw[List.range_succ,Aw];rfl
 rw[e,List.range_succ,Aw,Bb,List.map_nil,f _ _ _ _ (by rw[hV];simp)]
def diag(T:Two Λ r L f)(o:∀i j,i<j->j<r->0<=f i j/\f i j<f j j)(b:∀k,k<=r->∀w,Λ w->SL L k w)(i:Nat)(hi:i<r):f i i=L i i/\(∀j,j<r->j≠i->f i j=0):=by
 obtain⟨c,hc⟩:=b i ω (L i) (T.li i hi);have u:∀s∈(Af i).map L,Λ s:=fun s q=>by
  obtain⟨t,a,rfl⟩:=List.mem_map.mp q;exact T.li t (Nat.lt_trans (List.mem_range.mp a) hi)
 have hw:=T.lt.s 1 (T.li i hi) (T.lt.cmb (lst i c) _ u);have w1:∀j,j<i->L i j-1*cmb (lst i c) ((Af i).map L) j=0:=fun j g=>by have:=hc j g;(first|lia|omega)
 have w2:∀j,i<=j->j<r->cmb (lst i c) ((Af i).map L) j=0:=fun j h1 h2=>JR fun t a=>T.lz t j ω h2;have d1:=T.ld _ i hw hi w1;have v:=T.lp i hi;have x:=T.fp i hi;obtain⟨d,hd⟩:=b (i+1) ω (f i) (T.fi i hi);have e1:=hd i ω;rw[JS,JR fun t a=>T.lz t i a hi] at e1;have d2:L i i ∣ f i i:=⟨d i,by rw[e1,A5];(first|lia|omega)⟩;have wi:L i i-1*cmb (lst i c) ((Af i).map L) i=L i i:=by rw[w2 i (Ad _) hi];(first|lia|omega)
 have l:f i i ∣ L i i:=by
  have this:f i i ∣ L i i-1*cmb (lst i c) ((Af i).map L) i:=d1;rw[wi] at this;exact this
 have p:f i i=L i i:=Int.le_antisymm (Int.le_of_dvd v l) (Int.le_of_dvd x d2);refine⟨p,fun j g ne=>?_⟩;have hv:=T.lt.s 1 (T.fi i hi) hw;have:=T.small (Ad r) hv (fun t a=>?_) j g
 ·rcases Bk j i with h|h
  ·exact T.fz i j hi h
  ·have e:L i j=0:=T.lz i j ω g
   have e2:=w2 j ω g;have:f i j-1*(L i j-1*cmb (lst i c) ((Af i).map L) j)=0:=this;rw[e,e2] at this;(first|lia|omega)
 ·have y:=T.fp t a
  show(f i t-1*(L i t-1*cmb (lst i c) ((Af i).map L) t)).natAbs<(f t t).natAbs;rcases Bj t i with h|h|h
  ·have e1:=w1 t h
   rw[T.fz i t hi h,e1];(first|lia|omega)
  ·subst h;rw[wi,p];(first|lia|omega)
  ·have e:L i t=0:=T.lz i t h a
   have e2:=w2 t ω a;have e3:=o i t h a;rw[e,e2];(first|lia|omega)
def yu(T:Two Λ r L f)(a:∀i j,i<j->j<r->0<=f i j/\f i j<f j j):(∃k,k<=r/\2*pr (tn f k)<=pr (tn L k))\/∀i,i<r->f i i=L i i/\∀j,j<r->j≠i->f i j=0:=by
 by_cases h:∀k,k<=r->∀w,Λ w->SL L k w
 ·exact .inr fun i hi=>diag T a h i hi
 ·obtain⟨k,h⟩:=Classical.not_forall.mp h
  obtain⟨hk,h⟩:=Classical.not_imp.mp h;obtain⟨w,h⟩:=Classical.not_forall.mp h;obtain⟨hw,h⟩:=Classical.not_imp.mp h;exact .inl ⟨k,hk,half_lt T hk hw h⟩
end
def Ou{R:List Vc}{P:List Nat}{f:Nat->Vc}(h:Ech P f)(c:P.Pairwise (·<·))(d:∀r∈R,Sp (P.map f) r){w:Vc}(hw:Sp R w)(hb:∀p∈P,(w p).natAbs<(f p p).natAbs):∀p∈P,w p=0:=by
 have b:=hw.trans d;intro p
 induction p using Nat.strongRecOn with
 |_ p ih=>
  intro hp;obtain⟨m,e⟩:=jM h c hp b fun q hq a=>ih q a hq;have:=hb p hp;rw[e,AB] at this;rcases Nat.eq_zero_or_pos m.natAbs with z|z
  ·rw[e,Int.natAbs_eq_zero.mp z,AX]
  ·have:(f p p).natAbs*1<=(f p p).natAbs*m.natAbs:=Al _ z
   (first|lia|omega)
def near{R:List Vc}{P:List Nat}{M:Nat}(j:1<=M)(d:∀v∈R,∀p∈P,(v p).natAbs<=M)(f:P.length=R.length)(e:P.Nodup)(hi:Inj R P)(v:Vc):∃q:List Int,q.length=R.length/\∀p∈P,(v p-cmb q R p).natAbs<=R.length*M:=by
 obtain⟨V,g⟩:∃V,∀p∈P,(v p).natAbs<=V:=by
  clear d f e hi
  induction P with
  |nil=>exact⟨0,fun p hp=>nomatch hp⟩
  |cons p P ih=>
   obtain⟨V,h⟩:=ih;exact⟨V+(v p).natAbs,fun q hq=>by rcases List.mem_cons.mp hq with rfl|hq;(first|lia|omega);have:=h q hq;(first|lia|omega)⟩
 obtain⟨D,s,c,a,e1,_,_⟩:=clear j d f e hi g P e fun q hq=>hq;have fin:∀(D:Int)(s:List Int),0<D->s.length=R.length->(∀p∈P,cmb s R p=D*v p)->∃q:List Int,q.length=R.length/\∀p∈P,(v p-cmb q R p).natAbs<=R.length*M:=fun D s c a e1=>by
  refine⟨s.map (· / D),by rw[Ab,a],fun p hp=>?_⟩;have e2:cmb (s.map (·%D)) R p=cmb s R p-D*cmb (s.map (· / D)) R p:=by
   have:=fN 1 (-D) s (s.map (· / D)) R a (by rw[Ab,a]) p;rw[Int.one_mul,Int.neg_mul] at this;rw[show cmb s R p-D*cmb (s.map (· / D)) R p=cmb s R p+-(D*cmb (s.map (· / D)) R p) from ω,<-this]
   congr 1
   apply AZ
   ·simp
   ·intro i h1 h2
    simp only[AW,A0];have:=Int.emod_add_mul_ediv (s[i]'(by simpa using h1)) D;rw[Int.one_mul,Int.neg_mul];(first|lia|omega)
  have b:=ri (u:=p) (X:=D.natAbs) (M:=M) (s.map (·%D)) R (fun x hx=>by
   obtain⟨y,_,rfl⟩:=List.mem_map.mp hx;have h1:=Int.emod_nonneg y (show D≠0 from ω);have h2:=Int.emod_lt_of_pos y c;(first|lia|omega)) fun v hv=>d v hv p hp
  rw[e2,e1 p hp,<-Int.mul_sub,AB,Nat.mul_left_comm] at b;exact Nat.le_of_mul_le_mul_left b ω
 rcases Int.lt_trichotomy D 0 with h|h|h
 ·refine fin (-D) (s.map fun x=>-x) ω (by rw[Ab,a]) fun p hp=>?_
  have:=fN (-1) 0 s s R a a p;rw[show(-1:Int)*cmb s R p+0*cmb s R p=-cmb s R p from ω,e1 p hp] at this;rw[Int.neg_mul,<-this]
  congr 1
  apply AZ
  ·simp
  ·intro i h1 h2;simp only[AW,A0];(first|lia|omega)
 ·exact absurd h c
 ·exact fin D s h a e1
def Ov{R:List Vc}{P:List Nat}{f:Nat->Vc}{M:Nat}(G:1<=M)(hi:iC R)(h:Ech P f)(j:P.Pairwise (·<·))(v:∀r∈R,Sp (P.map f) r)(l:P.length=R.length)(hb:∀r∈R,∀p∈P,(r p).natAbs<=M):pr (P.map fun p=>(f p p).toNat)<=(2*(R.length*M)+1) ^ R.length:=by
 have q:P.Nodup:=j.imp fun h=>Az h;have inj:=ro hi h j v;have b:=fun x:List Int=>near G hb l q inj fun u=>x.getD (P.idxOf u) 0;rw[<-l,<-D6,<-lg];have g:∀(x:List Int)(i:Nat)(hi:i<P.length),x.getD (P.idxOf P[i]) 0=x.getD i 0:=fun x i hi=>by rw[q.idxOf_getElem i hi]
 refine GW (f:=fun x=>P.map fun p=>x.getD (P.idxOf p) 0-cmb (Classical.choose (b x)) R p+((P.length*M:Nat):Int)) (sI _) (fun x hx=>?_) fun x hx y hy e=>?_
 ·refine nR.mpr ⟨Ab _,fun z hz=>?_⟩
  obtain⟨p,hp,rfl⟩:=List.mem_map.mp hz;have:=(Classical.choose_spec (b x)).2 p hp;rw[show P.length*M=R.length*M by rw[l]];generalize cmb (Classical.choose (b x)) R p=z at this ⊢;generalize R.length*M=A at this ⊢;(first|lia|omega)
 ·obtain⟨d,c⟩:=j0.mp hx
  obtain⟨o,w⟩:=j0.mp hy;rw[Ab] at d o;obtain⟨C,_⟩:=Classical.choose_spec (b x);obtain⟨D,_⟩:=Classical.choose_spec (b y);have sp:Sp R fun u=>cmb (Classical.choose (b x)) R u-1*cmb (Classical.choose (b y)) R u:=(show Sp R (cmb (Classical.choose (b x)) R) from⟨_,C,fun _=>rfl⟩).sub ⟨_,D,fun _=>rfl⟩ 1;have s:∀p∈P,cmb (Classical.choose (b x)) R p-1*cmb (Classical.choose (b y)) R p=x.getD (P.idxOf p) 0-y.getD (P.idxOf p) 0:=fun p hp=>by
   have:=(List.map_inj_left.mp e) p hp;(first|lia|omega)
  have bd:∀(x:List Int),(∀(i:Nat) z t,x[i]?=some z->(P.map fun p=>(f p p).toNat)[i]?=some t->0<=z/\z<(t:Int))->x.length=P.length->∀p∈P,0<=x.getD (P.idxOf p) 0/\x.getD (P.idxOf p) 0<((f p p).toNat:Int):=fun x c d p hp=>by
   obtain⟨i,a,rfl⟩:=AN hp;rw[g x i a,Ac,Aa ω];exact c i _ _ (Aa ω) (by rw[Aj,Aa a];rfl)
  have z:=Ou h j v sp fun p hp=>by
   have h1:=bd x c d p hp;have h2:=bd y w o p hp
   have H:=h.pos p hp;have E:=s p hp;show(cmb (Classical.choose (b x)) R p-1*cmb (Classical.choose (b y)) R p).natAbs<_;rw[E];(first|lia|omega)
  refine AZ ω fun i h1 h2=>?_;have a:i<P.length:=ω
  have:=z P[i] (Ao a);have e2:=s P[i] (Ao a);rw[g x i a,g y i a,Ac,Ac,Aa h1,Aa h2] at e2;have F:cmb (Classical.choose (b x)) R P[i]-1*cmb (Classical.choose (b y)) R P[i]=0:=this;rw[F] at e2;show x[i]=y[i];have e3:(some x[i]).getD 0=x[i]:=rfl;have I:(some y[i]).getD 0=y[i]:=rfl;(first|lia|omega)
def sm(ρ:Nat->Vc)(c:Nat->Int):Nat->Nat->Int
 |0,_=>0
 |j+1,u=>sm ρ c j u+c j*ρ j u
def Eh{ρ:Nat->Vc}{c:Vc}(u:Nat):∀j,cmb (lst j c) ((Af j).map ρ) u=sm ρ c j u
 |0=>rfl
 |j+1=>by rw[JS,Eh u j];rfl
def JT(c:List Int):lst c.length (vl c)=c:=range_getD c
def yz{ρ:Nat->Vc}{c:Vc}{u:Nat}:∀j,(∀i,i<j->c i*ρ i u=0)->sm ρ c j u=0
 |0,_=>rfl
 |j+1,h=>by show sm ρ c j u+c j*ρ j u=0;rw[yz j fun i hi=>h i ω,h j ω];rfl
def yH{ρ:Nat->Vc}{c:Vc}{u:Nat}:∀(n j:Nat),(∀i,j<=i->i<j+n->c i*ρ i u=0)->sm ρ c (j+n) u=sm ρ c j u
 |0,_,_=>rfl
 |n+1,j,h=>by show sm ρ c (j+n) u+c (j+n)*ρ (j+n) u=_;rw[yH n j fun i h1 h2=>h i h1 ω,h (j+n) ω ω];(first|lia|omega)
def sd(ρ:Nat->Vc)(c:Nat->Int)(m:Nat):Nat->Nat->Int
 |0,_=>0
 |n+1,u=>sd ρ c m n u+c (m-1-n)*ρ (m-1-n) u
def JU{ρ:Nat->Vc}{c:Vc}{m u:Nat}:∀n,n<=m->sm ρ c m u=sm ρ c (m-n) u+sd ρ c m n u
 |0,_=>by show _=sm ρ c m u+0;(first|lia|omega)
 |n+1,h=>by
  rw[JU n ω];have e:m-n=(m-1-n)+1:=ω
  have e2:m-(n+1)=m-1-n:=ω
  rw[e,e2];show sm ρ c (m-1-n) u+c (m-1-n)*ρ (m-1-n) u+sd ρ c m n u=sm ρ c (m-1-n) u+(sd ρ c m n u+c (m-1-n)*ρ (m-1-n) u);(first|lia|omega)
structure Tri(k r w M g:Nat)(ρ:Nat->Vc)(Q:Nat->Nat):Prop where
 g1:1<=g
 rk:r<=k
 rw:r<=w
 qs:∀a b,a<b->b<k-r->Q a<Q b
 qw:∀a,a<k-r->w<=Q a
 tp:∀i,i<r->0<ρ i i
 tz:∀i j,i<r->i<j->j<w->ρ i j=0
 tl:∀i j,i<r->j<i->(ρ i j).natAbs<=(ρ i i).natAbs
 tq:∀i a,i<r->a<k-r->(ρ i (Q a)).natAbs<=g*(ρ (r+a) (Q a)).natAbs
 kz:∀a u,a<k-r->u<Q a->ρ (r+a) u=0
 kp:∀a,a<k-r->0<ρ (r+a) (Q a)
 kq:∀a b,a<b->b<k-r->0<=ρ (r+a) (Q b)/\ρ (r+a) (Q b)<ρ (r+b) (Q b)
 tm:∀i,i<r->(ρ i i).natAbs<=M
 km:∀a,a<k-r->g*(ρ (r+a) (Q a)).natAbs<=M
section
variable{k r w M g:Nat}{ρ:Nat->Vc}{Q:Nat->Nat}
def Tri.low(T:Tri k r w M g ρ Q){a u:Nat}(b:a<k-r)(c:u<w):ρ (r+a) u=0:=T.kz a u b (Ay c (T.qw a b))
def sa(ρ:Nat->Vc)(c:Nat->Int)(m:Nat):Nat->Nat
 |0=>0
 |n+1=>sa ρ c m n+(c (m-1-n)).natAbs*(ρ (m-1-n) (m-1-n)).natAbs
def Tri.top_le(T:Tri k r w M g ρ Q){c:Vc}{m V:Nat}(f:m<=r)(hv:∀i,i<m->(sm ρ c m i).natAbs<=V):∀n,n<=m->sa ρ c m n+V<=V*2 ^ n
 |0,_=>by show 0+V<=V*1;(first|lia|omega)
 |n+1,h=>by
  have d:=Tri.top_le T f hv n ω;have hi:m-1-n<m:=ω
  have l:(sd ρ c m n (m-1-n)).natAbs<=sa ρ c m n:=by
   have:∀a,a<=n->(sd ρ c m a (m-1-n)).natAbs<=sa ρ c m a:=by
    intro a
    induction a with
    |zero=>intro _;exact Ad 0
    |succ a d=>
     intro j;have h1:=d ω;have h2:=T.tl (m-1-a) (m-1-n) ω ω;have o:(c (m-1-a)*ρ (m-1-a) (m-1-n)).natAbs<=(c (m-1-a)).natAbs*(ρ (m-1-a) (m-1-a)).natAbs:=by rw[AB];exact Al _ h2
     have p:=Int.natAbs_add_le (sd ρ c m a (m-1-n)) (c (m-1-a)*ρ (m-1-a) (m-1-n));show(sd ρ c m a (m-1-n)+c (m-1-a)*ρ (m-1-a) (m-1-n)).natAbs<=sa ρ c m a+_;(first|lia|omega)
   exact this n (Ad _)
  have e:sm ρ c m (m-1-n)=c (m-1-n)*ρ (m-1-n) (m-1-n)+sd ρ c m n (m-1-n):=by
   rw[JU n ω,show m-n=(m-1-n)+1 from ω];show sm ρ c (m-1-n) (m-1-n)+_+_=_;rw[yz (m-1-n) fun i b=>by rw[T.tz i (m-1-n) ω b (by have:=T.rw;(first|lia|omega)),AX]];(first|lia|omega)
  have q:=hv (m-1-n) hi;have s:(c (m-1-n)).natAbs*(ρ (m-1-n) (m-1-n)).natAbs<=V+sa ρ c m n:=by
   rw[<-AB];(first|lia|omega)
  show sa ρ c m n+(c (m-1-n)).natAbs*(ρ (m-1-n) (m-1-n)).natAbs+V<=V*2 ^ (n+1);rw[Nat.pow_succ,<-AQ];(first|lia|omega)
def sc(c:Nat->Int):Nat->Nat
 |0=>0
 |n+1=>sc c n+(c n).natAbs
def Ow{c:Vc}{n i:Nat}(h:i<n):(c i).natAbs<=sc c n:=by
 induction n with
 |zero=>(first|lia|omega)
 |succ n ih=>
  show _<=sc c n+(c n).natAbs
  by_cases e:i=n
  ·subst e;(first|lia|omega)
  ·have:=ih ω;(first|lia|omega)
def Tri.top_sum(T:Tri k r w M g ρ Q){c:Vc}{m V:Nat}(a:m<=r)(hv:∀i,i<m->(sm ρ c m i).natAbs<=V):sc c m+V<=V*2 ^ m:=by
 have h1:=T.top_le a hv m (Ad _);have h2:∀n,n<=m->sc c m<=sc c (m-n)+sa ρ c m n:=by
  intro n
  induction n with
  |zero=>intro _;exact Ad _
  |succ n ih=>
   intro b;have:=ih ω;have hp:=T.tp (m-1-n) ω;rw[show m-n=(m-1-n)+1 from ω] at this;rw[show m-(n+1)=m-1-n from ω];have d:(c (m-1-n)).natAbs*1<=(c (m-1-n)).natAbs*(ρ (m-1-n) (m-1-n)).natAbs:=Al _ ω;show sc c m<=sc c (m-1-n)+(sa ρ c m n+_);have e:sc c (m-1-n+1)=sc c (m-1-n)+(c (m-1-n)).natAbs:=rfl;(first|lia|omega)
 have:=h2 m (Ad _);rw[Nat.sub_self] at this;have:sc c 0=0:=rfl;(first|lia|omega)
def JV{c:Vc}{u K:Nat}:∀n,(∀i,i<n->(ρ i u).natAbs<=K)->(sm ρ c n u).natAbs<=K*sc c n
 |0,_=>Ap _
 |n+1,h=>by
  have h1:=JV (c:=c) n fun i hi=>h i ω;have h2:(c n*ρ n u).natAbs<=K*(c n).natAbs:=by rw[AB,Nat.mul_comm];exact Ak _ (h n ω)
  have a:=Int.natAbs_add_le (sm ρ c n u) (c n*ρ n u);show(sm ρ c n u+c n*ρ n u).natAbs<=K*(sc c n+(c n).natAbs);rw[Nat.mul_add];(first|lia|omega)
def Tri.all_sum(T:Tri k r w M g ρ Q){c:Vc}{V:Nat}:∀n,n<=k-r->(∀i,i<r->(sm ρ c (r+n) i).natAbs<=V)->(∀a,a<n->(sm ρ c (r+n) (Q a)).natAbs<=V)->sc c (r+n)+V<=V*2 ^ r*(1+g) ^ n:=by
 intro n;have base:∀n,n<=k-r->(∀i,i<r->(sm ρ c (r+n) i).natAbs<=V)->sc c r+V<=V*2 ^ r:=fun n f hv=>T.top_sum (Ad r) fun i hi=>by
  have:=hv i hi
  rwa [yH n r fun j h1 h2=>by
   have:=T.low (a:=j-r) (u:=i) ω (by have:=T.rw;(first|lia|omega));rw[show r+(j-r)=j from ω] at this;rw[this,AX]] at this
 intro f hv hq;have hb:=base n f hv;have:∀b,b<=n->sc c (r+b)+V<=V*2 ^ r*(1+g) ^ b:=by
  intro b
  induction b with
  |zero=>intro _;rw[Nat.pow_zero,Nat.mul_one];exact hb
  |succ b ih=>
   intro o;have h1:=ih ω;have hp:=T.kp b ω;have e:sm ρ c (r+n) (Q b)=sm ρ c (r+b) (Q b)+c (r+b)*ρ (r+b) (Q b):=by
    have:=yH (ρ:=ρ) (c:=c) (u:=Q b) (n-(b+1)) (r+(b+1)) fun j h1 h2=>by
     have:=T.kz (j-r) (Q b) ω (T.qs b (j-r) ω ω);rw[show r+(j-r)=j from ω] at this;rw[this,AX]
    rw[show r+(b+1)+(n-(b+1))=r+n from ω] at this;rw[this];rfl
   have h2:(sm ρ c (r+b) (Q b)).natAbs<=(g*(ρ (r+b) (Q b)).natAbs)*sc c (r+b):=JV (r+b) fun i hi=>by
    by_cases d:i<r
    ·exact T.tq i b d ω
    ·have:=T.kq (i-r) b ω ω
     rw[show r+(i-r)=i from ω] at this;have:1*(ρ (r+b) (Q b)).natAbs<=g*(ρ (r+b) (Q b)).natAbs:=Ak _ T.g1;(first|lia|omega)
   have p:=hq b ω;have l:(c (r+b)).natAbs*(ρ (r+b) (Q b)).natAbs<=V+(g*(ρ (r+b) (Q b)).natAbs)*sc c (r+b):=by
    rw[<-AB];(first|lia|omega)
   generalize hκ:(ρ (r+b) (Q b)).natAbs=κ at h2 l;have h:1<=κ:=ω
   have q:(c (r+b)).natAbs<=V+g*sc c (r+b):=by
    have:κ*(c (r+b)).natAbs<=κ*(V+g*sc c (r+b)):=by
     rw[Nat.mul_add,Nat.mul_comm κ (c (r+b)).natAbs,<-AQ,Nat.mul_comm κ g];have:V<=κ*V:=Nat.le_mul_of_pos_left _ h;(first|lia|omega)
    exact Nat.le_of_mul_le_mul_left this h
   show sc c (r+b)+(c (r+b)).natAbs+V<=V*2 ^ r*(1+g) ^ (b+1);rw[Nat.pow_succ,<-AQ];have s:(sc c (r+b)+V)*(1+g)<=V*2 ^ r*(1+g) ^ b*(1+g):=Ak _ h1;have v:(sc c (r+b)+V)*(1+g)=sc c (r+b)+V+(g*sc c (r+b)+g*V):=by rw[Nat.mul_add,Nat.mul_one,Nat.mul_comm _ g,Nat.mul_add]
   have x:1*V<=g*V:=Ak _ T.g1;(first|lia|omega)
 exact this n (Ad _)
end
def sL:∀(a b:List Nat),pr (a++b)=pr a*pr b
 |[],b=>by show pr b=1*pr b;(first|lia|omega)
 |t::a,b=>by show t*pr (a++b)=t*pr a*pr b;rw[sL a b,AQ]
def G0(g:Nat->Vc)(k:Nat):tn g (k+1)=tn g k++[(g k k).toNat]:=by unfold tn;rw[List.range_succ,Aw];rfl
def sR{g:Nat->Vc}:∀{k:Nat},(∀i,i<k->0<g i i)->1<=pr (tn g k)
 |0,_=>Ad _
 |k+1,h=>by
  rw[G0,sL];have h1:=sR (k:=k) fun i hi=>h i ω;have h2:=h k ω;exact jd h1 (by show 1<=(g k k).toNat*1;(first|lia|omega))
def G1{g:Nat->Vc}{k:Nat}(h:∀i,i<k+1->0<g i i):(g k k).toNat<=pr (tn g (k+1)):=by
 rw[G0,sL];have:=sR (k:=k) fun i hi=>h i ω;show _<=pr (tn g k)*((g k k).toNat*1);rw[Nat.mul_one];exact Nat.le_mul_of_pos_left _ this
section
variable{k r w M g:Nat}{ρ:Nat->Vc}{Q:Nat->Nat}
def pl(r j:Nat)(Q:Nat->Nat):List Nat:=Af (min j r)++(Af (j-r)).map Q
def JW{j:Nat}:(pl r j Q).length=j:=by unfold pl;rw[A6,AU,Ab,AU];(first|lia|omega)
def Tri.sum_le(T:Tri k r w M g ρ Q){j V:Nat}{c:Vc}(d:j<=k)(hv:∀p∈pl r j Q,(sm ρ c j p).natAbs<=V):sc c j+V<=V*(1+g) ^ j:=by
 rcases Bk j r with h|h
 ·have:=T.top_sum (m:=j) ω fun i hi=>hv i (AV _ (List.mem_range.mpr ω))
  have g2:2 ^ j<=(1+g) ^ j:=Bh (by have:=T.g1;(first|lia|omega)) _;exact Ae this (Al _ g2)
 ·have:=T.all_sum (c:=c) (V:=V) (j-r) ω (fun i hi=>?_) fun a b=>?_
  ·rw[show r+(j-r)=j from ω] at this
   have g2:2 ^ r<=(1+g) ^ r:=Bh (by have:=T.g1;(first|lia|omega)) _;have g3:V*2 ^ r*(1+g) ^ (j-r)<=V*(1+g) ^ r*(1+g) ^ (j-r):=Ak _ (Al _ g2);rw[AQ V ((1+g) ^ r),<-Nat.pow_add,show r+(j-r)=j from ω] at g3;exact Ae this g3
  ·rw[show r+(j-r)=j from ω]
   exact hv i (AV _ (List.mem_range.mpr ω))
  ·rw[show r+(j-r)=j from ω]
   exact hv (Q a) (Ax _ (List.mem_map.mpr ⟨a,List.mem_range.mpr b,rfl⟩))
def Tri.lead(T:Tri k r w M g ρ Q){j p:Nat}{c:Vc}(H:j<=k)(hz:∀u,u<p->sm ρ c j u=0)(hp:sm ρ c j p≠0):p∈pl r j Q:=by
 by_cases C:∃i,i<min j r/\c i≠0
 ·-- dX f row of dX slope that stands there
  have f:∀m,m<=min j r->(∃i,i<m/\c i≠0)->∃i,i<m/\c i≠0/\∀d,i<d->d<m->c d=0:=by
   intro m
   induction m with
   |zero=>rintro _ ⟨i,hi,_⟩;(first|lia|omega)
   |succ m ih=>
    rintro G ⟨i,hi,hc⟩
    by_cases e:c m=0
    ·obtain⟨d,h1,h2,q⟩:=ih ω ⟨i,by rcases Bk i m with h|h;exact h;exact absurd (show c i=0 by rw[show i=m from ω];exact e) hc,hc⟩
     exact⟨d,ω,h2,fun y D E=>by by_cases e2:y=m;rw[e2];exact e;exact q y D ω⟩
    ·exact⟨m,ω,e,fun d h1 h2=>ω⟩
  obtain⟨i,hi,hc,s⟩:=f _ (Ad _) C;have v:i<r:=ω
  have e:sm ρ c j i=c i*ρ i i:=by
   have h1:=yH (ρ:=ρ) (c:=c) (u:=i) (j-(i+1)) (i+1) fun d h1 h2=>by
    by_cases h:d<r
    ·rw[s d ω ω,Int.zero_mul]
    ·have:=T.low (a:=d-r) (u:=i) ω (by have:=T.rw;(first|lia|omega))
     rw[show r+(d-r)=d from ω] at this;rw[this,AX]
   rw[show i+1+(j-(i+1))=j from ω] at h1;rw[h1];show sm ρ c i i+c i*ρ i i=_;rw[yz i fun d l=>by rw[T.tz d i ω l (by have:=T.rw;(first|lia|omega)),AX]];(first|lia|omega)
  have x:sm ρ c j i≠0:=by rw[e];exact Int.mul_ne_zero hc (by have:=T.tp i v;(first|lia|omega))
  have:p<=i:=by
   rcases Bk i p with h|h
   ·exact absurd (hz i h) x
   ·exact h
  exact AV _ (List.mem_range.mpr ω)
 ·have A:∀i,i<min j r->c i=0:=fun i hi=>AD fun z=>C ⟨i,hi,z⟩
  have first:∀n,(∃a,a<n/\c (r+a)≠0)->∃a,a<n/\c (r+a)≠0/\∀b,b<a->c (r+b)=0:=by
   intro n
   induction n with
   |zero=>rintro⟨a,o,_⟩;(first|lia|omega)
   |succ n ih=>
    rintro⟨a,o,hc⟩
    by_cases h:∃a,a<n/\c (r+a)≠0
    ·obtain⟨a',h1,h2,q⟩:=ih h
     exact⟨a',ω,h2,q⟩
    ·exact⟨a,o,hc,fun b hb=>AD fun z=>h ⟨b,ω,z⟩⟩
  have ex:∃a,a<j-r/\c (r+a)≠0:=AD fun no=>hp (yz j fun i hi=>by
   by_cases h:i<r
   ·rw[A i ω,Int.zero_mul]
   ·have:c (r+(i-r))=0:=AD fun z=>no ⟨i-r,ω,z⟩
    rw[show r+(i-r)=i from ω] at this;rw[this,Int.zero_mul])
  obtain⟨a,o,hc,s⟩:=first _ ex;have e:∀u,u<=Q a->sm ρ c j u=c (r+a)*ρ (r+a) u:=fun u F=>by
   have h1:=yH (ρ:=ρ) (c:=c) (u:=u) (j-(r+a+1)) (r+a+1) fun d h1 h2=>by
    have:=T.kz (d-r) u ω (by have:=T.qs a (d-r) ω ω;(first|lia|omega));rw[show r+(d-r)=d from ω] at this;rw[this,AX]
   rw[show r+a+1+(j-(r+a+1))=j from ω] at h1;rw[h1];show sm ρ c (r+a) u+c (r+a)*ρ (r+a) u=_;rw[yz (r+a) fun d l=>by
    by_cases h:d<r
    ·rw[A d ω,Int.zero_mul]
    ·have:=s (d-r) ω
     rw[show r+(d-r)=d from ω] at this;rw[this,Int.zero_mul]]
   (first|lia|omega)
  have hk:=T.kp a ω;have e1:p=Q a:=by
   rcases Bj p (Q a) with h|h|h
   ·exact absurd (by rw[e p ω,T.kz a p ω h,AX]) hp
   ·exact h
   ·exact absurd (by rw[<-e (Q a) (Ad _)];exact hz (Q a) h) (Int.mul_ne_zero hc (show ρ (r+a) (Q a)≠0 from ω))
  rw[e1];exact Ax _ (List.mem_map.mpr ⟨a,List.mem_range.mpr o,rfl⟩)
def Tri.rows_le(T:Tri k r w M g ρ Q){j i p:Nat}(l:j<=k)(hi:i<j)(hp:p∈pl r j Q):(ρ i p).natAbs<=M:=by
 rcases List.mem_append.mp hp with h|h
 ·have h:=List.mem_range.mp h
  by_cases b:i<r
  ·have:=T.tm i b
   rcases Bj p i with g|g|g
   ·have:=T.tl i p b g;(first|lia|omega)
   ·subst g;exact this
   ·rw[T.tz i p b g (by have:=T.rw;(first|lia|omega))];exact Ap _
  ·have:=T.low (a:=i-r) (u:=p) ω (by have:=T.rw;(first|lia|omega))
   rw[show r+(i-r)=i from ω] at this;rw[this];exact Ap _
 ·obtain⟨a,c,rfl⟩:=List.mem_map.mp h
  have c:=List.mem_range.mp c;have d:=T.km a ω;have f:1*(ρ (r+a) (Q a)).natAbs<=g*(ρ (r+a) (Q a)).natAbs:=Ak _ T.g1
  by_cases b:i<r
  ·have:=T.tq i a b ω;(first|lia|omega)
  ·rcases Bj (i-r) a with g'|g'|g'
   ·have:=T.kq (i-r) a g' ω
    rw[show r+(i-r)=i from ω] at this;(first|lia|omega)
   ·have e:ρ i (Q a)=ρ (r+a) (Q a):=by rw[<-g',show r+(i-r)=i from ω]
    rw[e];(first|lia|omega)
   ·have:=T.kz (i-r) (Q a) ω (T.qs a (i-r) g' ω)
    rw[show r+(i-r)=i from ω] at this;rw[this];exact Ap _
def G2(T:Tri k r w M g ρ Q){N B:Nat}(W:∀a,a<k-r->(ρ (r+a) (Q a)).natAbs<=B)(X:∀m,m<=r->pr (tn ρ m)<=B)(hk:k<=N){j:Nat}(E:j<=k):Bd N M ((1+g) ^ N) B ((Af j).map ρ):=by
 have l:((Af j).map ρ).length=j:=by simp
 have C:∀(c:List Int),c.length=j->∀u,cmb c ((Af j).map ρ) u=sm ρ (vl c) j u:=fun c hc u=>by
  have:=Eh (ρ:=ρ) (c:=vl c) u j;rw[<-hc,JT] at this;rw[<-hc];exact this
 have small:∀(c:List Int)(V:Nat),c.length=j->(∀p∈pl r j Q,(cmb c ((Af j).map ρ) p).natAbs<=V)->∀x∈c,x.natAbs<=V*(1+g) ^ j:=fun c V hc hv x hx=>by
  have h1:=T.sum_le (c:=vl c) E fun p hp=>by rw[<-C c hc];exact hv p hp
  obtain⟨i,hi,rfl⟩:=AN hx;have h2:=Ow (c:=vl c) (n:=j) (i:=i) ω;have e:vl c i=c[i]:=by unfold vl;rw[Ac,Aa hi];rfl
  rw[e] at h2;(first|lia|omega)
 have ind:iC ((Af j).map ρ):=fun c hc hz x hx=>by
  have:=small c 0 (by rw[hc,l]) (fun p _=>by rw[hz];exact Ad 0) x hx;(first|lia|omega)
 refine⟨ind,fun P f h o F G I=>?_⟩;rw[l] at I;have O:P.Nodup:=o.imp fun h=>Az h;have sub:∀p∈P,p∈pl r j Q:=fun p hp=>by
  obtain⟨c,hc,e⟩:=G p hp;rw[l] at hc;refine T.lead (c:=vl c) E (fun u J=>?_) ?_
  ·rw[<-C c hc,<-e];exact h.z p hp u J
  ·rw[<-C c hc,<-e];have:=h.pos p hp;(first|lia|omega)
 have d:∀p∈pl r j Q,p∈P:=fun p hp=>AD fun z=>by
  have D:(p::P).Nodup:=List.nodup_cons.mpr ⟨z,O⟩;have:=D.length_le_of_subset (l₂:=pl r j Q) fun x hx=>by
   rcases List.mem_cons.mp hx with rfl|hx
   ·exact hp
   ·exact sub x hx
  rw[JW,AL] at this;(first|lia|omega)
 refine⟨fun p hp=>?_,fun s L p hp=>?_,fun c V hc hv x hx=>?_⟩
 ·rcases List.mem_append.mp (sub p hp) with hg|hg
  ·have hg:=List.mem_range.mp hg
   have two:Two (Sp ((Af j).map ρ)) (min j r) ρ f:=by
    have b:∀i,i<min j r->i∈P:=fun i hi=>d i (AV _ (List.mem_range.mpr hi));refine⟨⟨Sp.zero,fun m hv hw=>hv.sub hw m⟩,fun i hi=>Sp.mem (List.mem_map.mpr ⟨i,List.mem_range.mpr ω,rfl⟩),fun i hi=>T.tp i ω,fun i y h1 h2=>T.tz i y ω h1 (by have:=T.rw;(first|lia|omega)),fun i hi=>G i (b i hi),fun i hi=>h.pos i (b i hi),fun i y hi A=>h.z i (b i hi) y A,fun v i hv hi hz=>?_⟩;exact jM h o (b i hi) (hv.trans F) fun q _ hq=>hz q hq
   have h1:=GZ two (k:=p+1) ω;have h2:=G1 (g:=f) (k:=p) fun i hi=>two.fp i ω;have Y:=X (p+1) ω;have Z:=h.pos p hp;(first|lia|omega)
  ·obtain⟨a,H,rfl⟩:=List.mem_map.mp hg
   have H:=List.mem_range.mp H;have sp:Sp (P.map f) (ρ (r+a)):=F _ (List.mem_map.mpr ⟨r+a,List.mem_range.mpr ω,rfl⟩);have hd:=jM h o hp sp fun q _ hq=>T.kz a q ω hq;have S:=T.kp a ω;have:=Nat.le_of_dvd ω (Int.natAbs_dvd_natAbs.mpr hd);have:=W a ω;(first|lia|omega)
 ·obtain⟨i,hi,rfl⟩:=List.mem_map.mp L
  exact T.rows_le E (List.mem_range.mp hi) (sub p hp)
 ·rw[l] at hc
  refine Ae (small c V hc (fun p hp=>hv p (d p hp)) x hx) ?_;have h1:(1+g) ^ j<=(1+g) ^ N:=AC ω ω;have h2:V*(1+g) ^ j<=V*(1+g) ^ N:=Al _ h1;have U:1<=N:=by
   have:0<c.length:=List.length_pos_of_mem hx;(first|lia|omega)
  exact Ae h2 (Nat.le_mul_of_pos_left _ U)
end
section
variable{k r w M g N X B:Nat}{ρ f:Nat->Vc}{Q:Nat->Nat}{P:List Nat}
def Ox{l m:List Nat}(h1:l.Pairwise (·<·))(h2:m.Pairwise (·<·))(h:∀x,x∈l↔x∈m):l=m:=
 List.Perm.eq_of_pairwise (le:=fun a b=>a<=b) (fun a b _ _ g1 g2=>Nat.le_antisymm g1 g2) (h1.imp fun h=>Nat.le_of_lt h) (h2.imp fun h=>Nat.le_of_lt h) ((List.perm_ext_iff_of_nodup (h1.imp fun h=>ω) (h2.imp fun h=>ω)).mpr h)
def Tri.pl_srt(T:Tri k r w M g ρ Q){j:Nat}(d:j<=k):(pl r j Q).Pairwise (·<·):=by
 unfold pl;rw[List.pairwise_append,List.pairwise_map];refine⟨List.pairwise_lt_range,List.pairwise_lt_range.imp_of_mem fun{a b} c hb h=>T.qs a b h (by have:=List.mem_range.mp hb;(first|lia|omega)),fun x hx y hy=>?_⟩;obtain⟨a,c,rfl⟩:=List.mem_map.mp hy;have:=List.mem_range.mp hx;have:=List.mem_range.mp c;have:=T.qw a ω;have:=T.rw;(first|lia|omega)
def Tri.places(T:Tri k r w M g ρ Q){j:Nat}(d:j<=k)(h:Ech P f)(i:P.Pairwise (·<·))(o:∀p∈P,Sp ((Af j).map ρ) (f p))(q:P.length=j):P=pl r j Q:=by
 have sub:∀p∈P,p∈pl r j Q:=fun p hp=>by
  obtain⟨c,hc,e⟩:=o p hp;have hc:c.length=j:=by simpa using hc
  have b:∀u,cmb c ((Af j).map ρ) u=sm ρ (vl c) j u:=fun u=>by
   have:=Eh (ρ:=ρ) (c:=vl c) u j;rw[<-hc,JT] at this;rw[<-hc];exact this
  refine T.lead (c:=vl c) d (fun u l=>?_) ?_
  ·rw[<-b,<-e];exact h.z p hp u l
  ·rw[<-b,<-e];have:=h.pos p hp;(first|lia|omega)
 refine Ox i (T.pl_srt d) fun x=>⟨sub x,fun hx=>AD fun z=>?_⟩;have a:(x::P).Nodup:=List.nodup_cons.mpr ⟨z,i.imp fun h=>Az h⟩;have:=a.length_le_of_subset (l₂:=pl r j Q) fun y hy=>by
  rcases List.mem_cons.mp hy with rfl|hy
  ·exact hx
  ·exact sub y hy
 rw[JW,AL] at this;(first|lia|omega)
structure JX(k r w:Nat)(ρ f:Nat->Vc)(Q:Nat->Nat):Prop where
 fi:∀i,i<r->Sp ((Af k).map ρ) (f i)
 fq:∀a,a<k-r->Sp ((Af k).map ρ) (f (Q a))
 fz:∀i u,i<r->u<i->f i u=0
 fp:∀i,i<r->0<f i i
 fr:∀i j,i<j->j<r->0<=f i j/\f i j<f j j
 fo:∀i u,i<r->r<=u->u<w->f i u=0
 qz:∀a u,a<k-r->u<Q a->f (Q a) u=0
 qp:∀a,a<k-r->0<f (Q a) (Q a)
 qr:∀a b,a<b->b<k-r->0<=f (Q a) (Q b)/\f (Q a) (Q b)<f (Q b) (Q b)
 ir:∀i a,i<r->a<k-r->0<=f i (Q a)/\f i (Q a)<f (Q a) (Q a)
 qd:∀a,a<k-r->(f (Q a) (Q a)).natAbs<=(ρ (r+a) (Q a)).natAbs
 le:∀m,m<=r->pr (tn f m)<=pr (tn ρ m)
 hv:(∃m,m<=r/\2*pr (tn f m)<=pr (tn ρ m))\/∀i,i<r->f i i=ρ i i/\∀j,j<r->j≠i->f i j=0
def Tri.round(T:Tri k r w M g ρ Q)(F:FS N M X B ((Af k).map ρ) P f):P=pl r k Q/\JX k r w ρ f Q:=by
 have D:((Af k).map ρ).length=k:=by simp
 have E:P.length=k:=by rw[F.len,D]
 have sp:∀p∈P,Sp ((Af k).map ρ) (f p):=fun p hp=>(F.fr p hp).sp;have e:=T.places (Ad k) F.ech F.srt sp E;have rk:=T.rk;have i1:∀i,i<r->i∈P:=fun i hi=>by rw[e];exact AV _ (List.mem_range.mpr ω)
 have i2:∀a,a<k-r->Q a∈P:=fun a d=>by rw[e];exact Ax _ (List.mem_map.mpr ⟨a,List.mem_range.mpr d,rfl⟩)
 have two:Two (Sp ((Af k).map ρ)) r ρ f:=by
  refine⟨⟨Sp.zero,fun m hv hw=>hv.sub hw m⟩,fun i hi=>Sp.mem (List.mem_map.mpr ⟨i,List.mem_range.mpr ω,rfl⟩),fun i hi=>T.tp i hi,fun i o h1 h2=>T.tz i o ω h1 (by have:=T.rw;(first|lia|omega)),fun i hi=>sp i (i1 i hi),fun i hi=>F.ech.pos i (i1 i hi),fun i o hi s=>F.ech.z i (i1 i hi) o s,fun v i hv hi hz=>?_⟩;exact jM F.ech F.srt (i1 i hi) (hv.trans F.gen) fun q _ hq=>hz q hq
 have l:∀i j,i<j->j<r->0<=f i j/\f i j<f j j:=fun i j h1 h2=>F.red i (i1 i ω) j (i1 j h2) h1;refine⟨e,fun i hi=>sp i (i1 i hi),fun a d=>sp _ (i2 a d),fun i u hi x=>F.ech.z i (i1 i hi) u x,fun i hi=>F.ech.pos i (i1 i hi),l,fun i u hi h1 h2=>?_,fun a u d x=>F.ech.z _ (i2 a d) u x,fun a d=>F.ech.pos _ (i2 a d),fun a b h1 h2=>F.red _ (i2 a ω) _ (i2 b h2) (T.qs a b h1 h2),fun i a hi d=>F.red i (i1 i hi) _ (i2 a d) (by have:=T.qw a d;have:=T.rw;(first|lia|omega)),fun a d=>?_,fun m A=>GZ two A,yu two l⟩
 ·obtain⟨c,hc,C⟩:=sp i (i1 i hi)
  rw[C];refine zQ _ _ fun v hv=>?_;obtain⟨j,y,rfl⟩:=List.mem_map.mp hv;have y:=List.mem_range.mp y
  by_cases h:j<r
  ·exact T.tz j u h ω h2
  ·have:=T.low (a:=j-r) (u:=u) ω h2
   rwa [show r+(j-r)=j from ω] at this
 ·have hd:=jM F.ech F.srt (i2 a d) (F.gen (ρ (r+a)) (List.mem_map.mpr ⟨r+a,List.mem_range.mpr ω,rfl⟩)) fun q _ hq=>T.kz a q d hq
  have:=T.kp a d;exact Nat.le_of_dvd ω (Int.natAbs_dvd_natAbs.mpr hd)
end
def Oy{f:Nat->Vc}{P:List Nat}{V:Nat}(h:Ech P f)(H:P.Pairwise (·<·))(E:∀p∈P,∀q∈P,p<q->0<=f p q/\f p q<f q q){l:Vc}(i:Sp (P.map f) l)(hv:∀p∈P,(l p).natAbs<=V*(f p p).natAbs):∀x∈shr f P l,x.natAbs<=V*2 ^ P.length:=by
 have e:=GT h H i;generalize ha:shr f P l=a at e;have N:a.length=P.length:=by rw[<-ha,GS]
 have w:∀(P1 P2:List Nat)(a1 a2:List Int)(S:Nat),P=P1++P2->a=a1++a2->a1.length=P1.length->(∀x∈a1,x.natAbs<=S)->(∀p∈P2,(cmb a1 (P1.map f) p).natAbs<=S*(f p p).natAbs)->V+S<=V*2 ^ P1.length->∀x∈a2,x.natAbs<=V*2 ^ P.length:=by
  intro P1 P2
  induction P2 generalizing P1 with
  |nil=>
   intro a1 a2 S b o r _ _ _ x hx;have:a2.length=0:=by have:=congrArg List.length o;have h2:=congrArg List.length b;rw[A6] at this h2;simp at h2;(first|lia|omega)
   rw[AK this] at hx;cases hx
  |cons p P2 ih=>
   intro a1 a2 S b o r I F M x hx;cases a2 with
   |nil=>cases hx
   |cons y a2=>
    have hp:p∈P:=by rw[b];simp
    have g:=H;rw[b,List.pairwise_append,Bg] at g;have j:∀(c d:List Int)(A D:List Vc)(u:Nat),c.length=A.length->cmb (c++d) (A++D) u=cmb c A u+cmb d D u:=by
     intro c
     induction c with
     |nil=>intro d A D u i;rw[AK i.symm];show cmb d D u=0+cmb d D u;(first|lia|omega)
     |cons z c ih=>intro d A D u i;cases A with
      |nil=>simp at i
      |cons s A=>show z*s u+cmb (c++d) (A++D) u=z*s u+cmb c A u+cmb d D u;rw[ih d A D u (by simpa using i)];(first|lia|omega)
    have ep:l p=cmb a1 (P1.map f) p+y*f p p:=by
     rw[e,o,b,Aw,j _ _ _ _ _ (by rw[Ab,r])];show cmb a1 (P1.map f) p+(y*f p p+cmb a2 (P2.map f) p)=_;rw[zQ a2 (P2.map f) fun v hv=>by
      obtain⟨q,hq,rfl⟩:=List.mem_map.mp hv;exact h.z q (by rw[b];simp[hq]) p (g.2.1.1 q hq)]
     (first|lia|omega)
    have G:=h.pos p hp;have hy:y.natAbs<=V+S:=by
     have J:=hv p hp;have L:=F p (.head _);have C:y.natAbs*(f p p).natAbs<=V*(f p p).natAbs+S*(f p p).natAbs:=by rw[<-AB];(first|lia|omega)
     rw[<-Nat.add_mul] at C;exact Nat.le_of_mul_le_mul_right C ω
    have mono:V*2 ^ P1.length<=V*2 ^ P.length:=Al _ (AC ξ (by rw[b];simp));rcases List.mem_cons.mp hx with rfl|hx
    ·(first|lia|omega)
    ·refine ih (P1++[p]) (a1++[y]) a2 (V+S+S) (by rw[b];simp) (by rw[o];simp) (by simp[r]) (fun z hz=>?_) (fun q hq=>?_) (by rw[A6,List.length_singleton,Nat.pow_succ,<-AQ];(first|lia|omega)) x hx
     ·rcases List.mem_append.mp hz with hz|hz
      ·have:=I z hz;(first|lia|omega)
      ·rw[List.mem_singleton.mp hz];(first|lia|omega)
     ·rw[Aw,j _ _ _ _ _ (by rw[Ab,r])]
      have J:=F q (.tail _ hq);have O:=E p hp q (by rw[b];simp[hq]) (g.2.1.1 q hq);have L:(y*f p q).natAbs<=(V+S)*(f q q).natAbs:=by rw[AB];exact AR hy ω
      have C:=Int.natAbs_add_le (cmb a1 (P1.map f) q) (y*f p q);show(cmb a1 (P1.map f) q+(y*f p q+0)).natAbs<=(V+S+S)*(f q q).natAbs;rw[Int.add_zero,Nat.add_mul (V+S) S];(first|lia|omega)
 exact w [] P [] a 0 rfl rfl rfl (fun x hx=>nomatch hx) (fun p _=>Ap _) (by simp)
def glue(m:Nat)(S W:Nat->Vc):Nat->Vc:=fun i u=>if u<m then S i u else W i (u-m)
def zO{m:Nat}{S W:Nat->Vc}{i u:Nat}(h:u<m):glue m S W i u=S i u:=if_pos h
def zW{m:Nat}{S W:Nat->Vc}{i t:Nat}:glue m S W i (m+t)=W i t:=by unfold glue;rw[if_neg ω,Nat.add_sub_cancel_left]
def tl(n:Nat)(W:Nat->Vc):List Vc:=(Af n).map W
def G3{m:Nat}:∀(c:List Int)(L:List Vc)(t:Nat),cmb c L (m+t)=cmb c (L.map fun l=>fun t=>l (m+t)) t
 |[],[],_=>rfl
 |[],_::_,_=>rfl
 |_::_,[],_=>rfl
 |a::c,l::L,t=>by show a*l (m+t)+cmb c L (m+t)=a*l (m+t)+_;rw[G3 c L t]
section
variable{n m N M X B:Nat}{S W f:Nat->Vc}{P:List Nat}{Bc:List Vc}
def ol(n:Nat)(sh:Ξ)(Bc:List Vc):List Vc:=(Af n).map fun j=>fun s=>cmb (sh.map fun row=>row.getD j 0) Bc s
def uZ:(tl n (glue m S W)).map (fun r=>fun t=>r (m+t))=tl n W:=by
 unfold tl;rw[AT];exact Ba fun i _=>funext fun t=>zW
def Ei(F:FS N M X B (tl n (glue m S W)) P f)(D:Both n (tl n W) Bc):Both n (P.map fun p=>fun t=>f p (m+t)) (ol n ((tl n (glue m S W)).map fun r=>shr f P r) Bc):=by
 have o:(tl n (glue m S W)).length=n:=by unfold tl;simp
 have g:P.length=n:=by rw[F.len,o]
 have v:=Dual.next (V:=P.map fun p=>fun t=>f p (m+t)) (sh:=(tl n (glue m S W)).map fun r=>shr f P r) D.a (by rw[Ab,g]) (by rw[Ab,o]) (fun row hr=>by
  obtain⟨r,_,rfl⟩:=List.mem_map.mp hr;rw[GS,g]) fun i u row t e hr h=>by
   unfold tl at e hr;rw[Aj] at e hr;obtain⟨j,b,rfl⟩:=Option.map_eq_some_iff.mp e;rw[Aj,b] at hr;obtain rfl:=AY hr;have w:glue m S W j∈tl n (glue m S W):=List.mem_map.mpr ⟨j,Am b,rfl⟩;have:=GT F.ech F.srt (F.gen _ w) (m+t);rw[zW,G3,AT] at this;exact this
 refine Os v fun c hc hz x hx=>?_;have D':Both n ((tl n (glue m S W)).map fun r=>fun t=>r (m+t)) Bc:=by rw[uZ];exact D
 obtain⟨d,hd,l⟩:Sp (tl n (glue m S W)) (cmb c (P.map f)):=Sp.cmb c _ fun s q=>by
  obtain⟨p,hp,rfl⟩:=List.mem_map.mp q;exact(F.fr p hp).sp
 have y:=D'.free hd fun t h=>by
  rw[<-l,G3,AT];exact hz t h
 exact GH F.ech F.srt c (by rw[hc,g]) (fun p _=>by rw[l];exact n7 d _ _ y) x hx
def Oz(F:FS N M X B (tl n (glue m S W)) P f){A:Nat}(a:∀i t,i<n->(W i t).natAbs<=A):∀p∈P,∀t,(f p (m+t)).natAbs<=N*(cC N X B*A):=fun p hp t=>by
 have:=(F.fr p hp).le (u:=m+t) (M:=A) fun r hr=>by
  obtain⟨i,hi,rfl⟩:=List.mem_map.mp hr;rw[zW];exact a i t (List.mem_range.mp hi)
 exact Ae this (Ak _ F.few)
def Sp.ind{R:List Vc}{v:Vc}(C:Vc->Prop)(d:C fun _=>0)(g:∀(a:Int)(x y:Vc),C x->C y->C fun u=>a*x u+y u)(b:∀r∈R,C r)(h:Sp R v):C v:=by
 obtain⟨c,_,e⟩:=h;have:∀(c:List Int)(R:List Vc),(∀r∈R,C r)->C (Tb.cmb c R):=by
  intro c
  induction c with
  |nil=>intro R _;cases R<;>exact d
  |cons a c ih=>intro R b;cases R with
   |nil=>exact d
   |cons r R=>exact g a r (Tb.cmb c R) (b r (.head _)) (ih R fun s f=>b s (.tail _ f))
 have hv:=this c R b
 rwa [<-funext e] at hv
end
def je{k:Nat}{a b b':Vc}{x:Int}:dot k a (fun u=>x*b u+b' u)=x*dot k a b+dot k a b':=by
 induction k with
 |zero=>show(0:Int)=x*0+0;(first|lia|omega)
 |succ k ih=>
  show dot k a _+a k*(x*b k+b' k)=x*(dot k a b+a k*b k)+(dot k a b'+a k*b' k);rw[ih,Bi,Bi,Int.mul_left_comm];(first|lia|omega)
def aM(k w:Nat)(A:Nat->Vc)(x y:Vc):Int:=dot k x fun s=>dot w (A s) y
def JY{k w:Nat}{A:Nat->Vc}{a:Int}{x x' y:Vc}:aM k w A (fun u=>a*x u+x' u) y=a*aM k w A x y+aM k w A x' y:=by
 unfold aM;have:=rH (k:=k) (a:=x) (a':=x') (b:=fun s=>dot w (A s) y) (x:=a) (y:=1);rw[Int.one_mul] at this;rw[<-this];exact zF fun t _=>ω
def OA{k w:Nat}{A:Nat->Vc}{a:Int}{x y b:Vc}:aM k w A x (fun u=>a*y u+b u)=a*aM k w A x y+aM k w A x b:=by
 unfold aM;rw[<-je];exact zi fun s _=>by show dot w (A s) (fun u=>a*y u+b u)=a*dot w (A s) y+dot w (A s) b;exact je
def JZ{k w:Nat}{A:Nat->Vc}{y:Vc}:aM k w A (fun _=>0) y=0:=zL fun _ _=>rfl
def OB{k w:Nat}{A:Nat->Vc}{x:Vc}:aM k w A x (fun _=>0)=0:=by
 unfold aM;have:∀k,dot k x (fun s=>dot w (A s) fun _=>0)=0:=by
  intro k
  induction k with
  |zero=>rfl
  |succ k ih=>
   have z:dot w (A k) (fun _=>0)=0:=by
    have:∀w,dot w (A k) (fun _=>0)=0:=by intro w;induction w with|zero=>rfl|succ w ih=>show dot w (A k) _+A k w*0=0;rw[ih];(first|lia|omega)
    exact this w
   show dot k x _+x k*dot w (A k) (fun _=>0)=0;rw[ih,z];(first|lia|omega)
 exact this k
def J0{k w N M X B:Nat}{A T U V f:Nat->Vc}{P:List Nat}(F:FS N M X B (tl k (glue w (fun i u=>T u i) U)) P f)(c:∀u i,u<w->i<k->T u i=aM k w A (U i) (V u)):∀p∈P,∀u,u<w->f p u=aM k w A (fun t=>f p (w+t)) (V u):=fun p hp u b=>by
 refine Sp.ind (C:=fun v=>v u=aM k w A (fun t=>v (w+t)) (V u)) JZ.symm (fun a x y hx hy=>?_) (fun r hr=>?_) (F.fr p hp).sp
 ·show a*x u+y u=aM k w A (fun t=>a*x (w+t)+y (w+t)) (V u)
  rw[JY,<-hx,<-hy]
 ·obtain⟨i,hi,rfl⟩:=List.mem_map.mp hr
  show glue w (fun i u=>T u i) U i u=aM k w A (fun t=>glue w (fun i u=>T u i) U i (w+t)) (V u);rw[zO b,show(fun t=>glue w (fun i u=>T u i) U i (w+t))=U i from funext fun t=>zW];exact c u i b (List.mem_range.mp hi)
def J1{k w N M X B:Nat}{A T U V f:Nat->Vc}{P:List Nat}(F:FS N M X B (tl w (glue k (fun u i=>T i u) V)) P f)(c:∀i u,i<k->u<w->T i u=aM k w A (U i) (V u)):∀p∈P,∀i,i<k->f p i=aM k w A (U i) (fun t=>f p (k+t)):=fun p hp i hi=>by
 refine Sp.ind (C:=fun v=>v i=aM k w A (U i) (fun t=>v (k+t))) OB.symm (fun a x y hx hy=>?_) (fun r hr=>?_) (F.fr p hp).sp
 ·show a*x i+y i=aM k w A (U i) (fun t=>a*x (k+t)+y (k+t))
  rw[OA,<-hx,<-hy]
 ·obtain⟨u,b,rfl⟩:=List.mem_map.mp hr
  show glue k (fun u i=>T i u) V u i=aM k w A (U i) (fun t=>glue k (fun u i=>T i u) V u (k+t));rw[zO hi,show(fun t=>glue k (fun u i=>T i u) V u (k+t))=V u from funext fun t=>zW];exact c i u hi (List.mem_range.mp b)
structure Ker(n r g b:Nat)(W:Nat->Vc)(Q:Nat->Nat):Prop where
 qs:∀a c,a<c->c<n-r->Q a<Q c
 kz:∀a u,a<n-r->u<Q a->W (r+a) u=0
 kp:∀a,a<n-r->0<W (r+a) (Q a)
 kq:∀a c,a<c->c<n-r->0<=W (r+a) (Q c)/\W (r+a) (Q c)<W (r+c) (Q c)
 tq:∀i a,i<r->a<n-r->(W i (Q a)).natAbs<=g*(W (r+a) (Q a)).natAbs
 km:∀a,a<n-r->(W (r+a) (Q a)).natAbs<=b
structure G4(n r m:Nat)(S:Nat->Vc):Prop where
 tp:∀i,i<r->0<S i i
 tz:∀i j,i<r->i<j->j<m->S i j=0
 tl:∀i j,i<r->j<i->(S i j).natAbs<=(S i i).natAbs
 z:∀i u,r<=i->i<n->u<m->S i u=0
section
variable{n r m g b M:Nat}{S W:Nat->Vc}{Q:Nat->Nat}
def J4(l:r<=n)(o:r<=m)(hg:1<=g)(H:G4 n r m S)(K:Ker n r g b W Q)(hb:g*b<=M)(p:∀i,i<r->(S i i).natAbs<=M):Tri n r m M g (glue m S W) (fun a=>m+Q a):=by
 refine⟨hg,l,o,fun a c h1 h2=>by have:=K.qs a c h1 h2;show m+Q a<m+Q c;(first|lia|omega),fun a _=>A7 _ _,fun i hi=>by rw[zO ω];exact H.tp i hi,fun i j hi h1 h2=>by rw[zO h2];exact H.tz i j hi h1 h2,fun i j hi e=>by rw[zO ω,zO ω];exact H.tl i j hi e,fun i a hi d=>by rw[zW,zW];exact K.tq i a hi d,fun a u d f=>?_,fun a d=>by rw[zW];exact K.kp a d,fun a c h1 h2=>by rw[zW,zW];exact K.kq a c h1 h2,fun i hi=>by rw[zO ω];exact p i hi,fun a d=>by rw[zW];exact Ae (Al _ (K.km a d)) hb⟩
 by_cases h:u<m
 ·rw[zO h];exact H.z (r+a) u ω ω h
 ·rw[show u=m+(u-m) from ω,zW]
  exact K.kz a _ d (by have:u<m+Q a:=f;(first|lia|omega))
end
def pls(r m:Nat)(Q:Nat->Nat)(i:Nat):Nat:=if i<r then i else m+Q (i-r)
def iG{r m:Nat}{Q:Nat->Nat}{i:Nat}(h:i<r):pls r m Q i=i:=if_pos h
def lj{r m:Nat}{Q:Nat->Nat}{a:Nat}:pls r m Q (r+a)=m+Q a:=by unfold pls;rw[if_neg ω,Nat.add_sub_cancel_left]
def G5{r m n:Nat}{Q:Nat->Nat}(h:r<=n):pl r n (fun a=>m+Q a)=(Af n).map (pls r m Q):=by
 unfold pl;rw[Nat.min_eq_right h];apply AZ
 ·simp;(first|lia|omega)
 ·intro i h1 h2
  rw[AW,A9]
  by_cases hi:i<r
  ·rw[List.getElem_append_left (by simpa using hi),A9,iG hi]
  ·rw[List.getElem_append_right (by simp;(first|lia|omega)),AW,A9,AU]
   unfold pls;rw[if_neg hi]
section
variable{n r m g b M N X B:Nat}{S W f:Nat->Vc}{Q:Nat->Nat}{P:List Nat}
def J5(p:r<=n)(q:r<=m)(K:Ker n r g b W Q)(R:JX n r m (glue m S W) f (fun a=>m+Q a)):Ker n r 1 b (fun i t=>f (pls r m Q i) (m+t)) Q/\(∀i,i<r->0<f (pls r m Q i) i)/\(∀i j,i<r->j<i->f (pls r m Q i) j=0)/\(∀i j,i<j->j<r->0<=f (pls r m Q i) j/\f (pls r m Q i) j<f (pls r m Q j) j)/\(∀i u,i<n->u<m->(r<=i\/r<=u)->f (pls r m Q i) u=0):=by
 refine⟨⟨K.qs,fun a u d l=>?_,fun a d=>?_,fun a c h1 h2=>?_,fun i a hi d=>?_,fun a d=>?_⟩,fun i hi=>?_,fun i j hi o=>?_,fun i j h1 h2=>?_,fun i u hi l h=>?_⟩
 ·show f (pls r m Q (r+a)) (m+u)=0
  rw[lj];exact R.qz a (m+u) d (by show m+u<m+Q a;(first|lia|omega))
 ·show 0<f (pls r m Q (r+a)) (m+Q a)
  rw[lj];exact R.qp a d
 ·show 0<=f (pls r m Q (r+a)) (m+Q c)/\f (pls r m Q (r+a)) (m+Q c)<f (pls r m Q (r+c)) (m+Q c)
  rw[lj,lj];exact R.qr a c h1 h2
 ·show(f (pls r m Q i) (m+Q a)).natAbs<=1*(f (pls r m Q (r+a)) (m+Q a)).natAbs
  rw[iG hi,lj];have:=R.ir i a hi d;have this:0<=f i (m+Q a)/\f i (m+Q a)<f (m+Q a) (m+Q a):=this;(first|lia|omega)
 ·show(f (pls r m Q (r+a)) (m+Q a)).natAbs<=b
  rw[lj];have h1:=R.qd a d;have h1:(f (m+Q a) (m+Q a)).natAbs<=(glue m S W (r+a) (m+Q a)).natAbs:=h1;rw[zW] at h1;exact Ae h1 (K.km a d)
 ·rw[iG hi];exact R.fp i hi
 ·rw[iG hi];exact R.fz i j hi o
 ·rw[iG (show i<r from ω),iG h2];exact R.fr i j h1 h2
 ·by_cases e:i<r
  ·rw[iG e];exact R.fo i u e ω l
  ·rw[show i=r+(i-r) from ω,lj]
   exact R.qz (i-r) u ω (by show u<m+Q (i-r);(first|lia|omega))
end
def jf{g g':Nat->Vc}{k:Nat}(h:∀i,i<k->g i i=g' i i):tn g k=tn g' k:=by
 unfold tn;exact Ba fun i hi=>by rw[h i (List.mem_range.mp hi)]
structure LI(A:Nat->Vc)(k w r D bU bV g:Nat)(T U V:Nat->Vc)(Bn Bf:List Vc)(QU QV:Nat->Nat):Prop where
 rk:r<=k
 rw:r<=w
 g1:1<=g
 bl:∀u i,u<w->i<k->T u i=aM k w A (U i) (V u)
 bu:Both k (tl k U) Bn
 bv:Both w (tl w V) Bf
 ku:Ker k r g bU U QU
 kv:Ker w r 1 bV V QV
 tp:∀u,u<r->0<T u u
 tz:∀u i,u<r->i<u->T u i=0
 tr:∀u i,u<i->i<r->0<=T u i/\T u i<T i i
 to:∀u i,u<w->i<k->(r<=u\/r<=i)->T u i=0
 pd:∀m,m<=r->pr (tn T m)<=D
structure LM(A:Nat->Vc)(k w r D bU bV g:Nat)(S U V:Nat->Vc)(Bn Bf:List Vc)(QU QV:Nat->Nat):Prop where
 rk:r<=k
 rw:r<=w
 g1:1<=g
 bl:∀i u,i<k->u<w->S i u=aM k w A (U i) (V u)
 bu:Both k (tl k U) Bn
 bv:Both w (tl w V) Bf
 ku:Ker k r g bU U QU
 kv:Ker w r 1 bV V QV
 sl:G4 w r k (fun u i=>S i u)
 pd:∀m,m<=r->pr (tn S m)<=D
section
variable{A T U V S f:Nat->Vc}{k w r D bU bV g M N X B:Nat}{Bn Bf:List Vc}{QU QV:Nat->Nat}{P:List Nat}
def LI.slp(I:LI A k w r D bU bV g T U V Bn Bf QU QV):G4 k r w (fun i u=>T u i):=
 ⟨I.tp,fun i j hi h1 h2=>by
  by_cases h:j<r
  ·exact I.tz j i h h1
  ·exact I.to j i h2 (by have:=I.rk;(first|lia|omega)) (.inl ω),fun i j hi a=>by have:=I.tr j i a hi;show(T j i).natAbs<=(T i i).natAbs;(first|lia|omega),fun i u h1 h2 b=>I.to u i b h2 (.inr h1)⟩
def LI.diag_le(I:LI A k w r D bU bV g T U V Bn Bf QU QV){i:Nat}(hi:i<r):(T i i).natAbs<=D:=by
 have h1:=G1 (g:=T) (k:=i) fun j a=>I.tp j ω;have h2:=I.pd (i+1) ω;have b:=I.tp i hi;(first|lia|omega)
def LI.near_tri(I:LI A k w r D bU bV g T U V Bn Bf QU QV)(b:g*bU<=M)(c:D<=M):Tri k r w M g (glue w (fun i u=>T u i) U) (fun a=>w+QU a):=
 J4 I.rk I.rw I.g1 I.slp I.ku b fun i hi=>Ae (I.diag_le hi) c
def G6(I:LI A k w r D bU bV g T U V Bn Bf QU QV){m:Nat}(a:m<=r):tn (glue w (fun i u=>T u i) U) m=tn T m:=jf fun i hi=>by rw[zO (by have:=I.rw;(first|lia|omega))]
def LI.near_done(I:LI A k w r D bU bV g T U V Bn Bf QU QV)(Tr:Tri k r w M g (glue w (fun i u=>T u i) U) (fun a=>w+QU a))(F:FS N M X B (tl k (glue w (fun i u=>T u i) U)) P f):P=(Af k).map (pls r w QU)/\LM A k w r D bU bV 1 (fun i=>f (pls r w QU i)) (fun i t=>f (pls r w QU i) (w+t)) V (ol k ((tl k (glue w (fun i u=>T u i) U)).map fun r=>shr f P r) Bn) Bf QU QV/\ (∀m,m<=r->pr (tn (fun i=>f (pls r w QU i)) m)<=pr (tn T m))/\((∃m,m<=r/\2*pr (tn (fun i=>f (pls r w QU i)) m)<=pr (tn T m))\/∀i,i<r->f (pls r w QU i) i=T i i/\∀j,j<r->j≠i->f (pls r w QU i) j=0):=by
 obtain⟨d,R⟩:=Tr.round F;rw[G5 I.rk] at d;obtain⟨s,n1,n2,v,l⟩:=J5 I.rk I.rw I.ku R;have o:∀m,m<=r->tn (fun i=>f (pls r w QU i)) m=tn f m:=fun m b=>jf fun i hi=>by show f (pls r w QU i) i=f i i;rw[iG ω]
 have le:∀m,m<=r->pr (tn (fun i=>f (pls r w QU i)) m)<=pr (tn T m):=fun m b=>by rw[o m b,<-G6 I b];exact R.le m b
 refine⟨d,⟨I.rk,I.rw,Ad 1,fun i u hi c=>?_,?_,I.bv,s,I.kv,⟨n1,fun u i c h1 h2=>?_,fun u i c hi=>?_,fun u i h1 h2 q=>?_⟩,fun m b=>Ae (le m b) (I.pd m b)⟩,le,?_⟩
 ·exact J0 F I.bl _ (by rw[d];exact List.mem_map.mpr ⟨i,List.mem_range.mpr hi,rfl⟩) u c
 ·have:=Ei F I.bu
  have e:(P.map fun p=>fun t=>f p (w+t))=tl k (fun i t=>f (pls r w QU i) (w+t)):=by rw[d,AT];rfl
  rw[e] at this;exact this
 ·show f (pls r w QU i) u=0
  by_cases h:i<r
  ·exact n2 i u h h1
  ·exact l i u h2 (by have:=I.rw;(first|lia|omega)) (.inl ω)
 ·show(f (pls r w QU i) u).natAbs<=(f (pls r w QU u) u).natAbs
  have:=v i u hi c;(first|lia|omega)
 ·exact l i u q h2 (.inr h1)
 ·rcases R.hv with ⟨m,b,h⟩|h
  ·exact .inl ⟨m,b,by rw[o m b,<-G6 I b];exact h⟩
  ·refine .inr fun i hi=>?_
   obtain⟨h1,h2⟩:=h i hi;rw[zO (by have:=I.rw;(first|lia|omega))] at h1;rw[iG hi];exact⟨h1,h2⟩
def LM.diag_le(I:LM A k w r D bU bV g S U V Bn Bf QU QV){i:Nat}(hi:i<r):(S i i).natAbs<=D:=by
 have h1:=G1 (g:=S) (k:=i) fun j b=>I.sl.tp j ω;have h2:=I.pd (i+1) ω;have a:=I.sl.tp i hi;have a:0<S i i:=a;(first|lia|omega)
def LM.far_tri(I:LM A k w r D bU bV g S U V Bn Bf QU QV)(c:bV<=M)(b:D<=M):Tri w r k M 1 (glue k (fun u i=>S i u) V) (fun a=>k+QV a):=
 J4 I.rw I.rk (Ad 1) I.sl I.kv ω fun i hi=>Ae (I.diag_le hi) b
def LM.far_done(I:LM A k w r D bU bV g S U V Bn Bf QU QV)(Tr:Tri w r k M 1 (glue k (fun u i=>S i u) V) (fun a=>k+QV a))(F:FS N M X B (tl w (glue k (fun u i=>S i u) V)) P f):P=(Af w).map (pls r k QV)/\LI A k w r D bU bV g (fun u=>f (pls r k QV u)) U (fun u t=>f (pls r k QV u) (k+t)) Bn (ol w ((tl w (glue k (fun u i=>S i u) V)).map fun r=>shr f P r) Bf) QU QV/\ (∀m,m<=r->pr (tn (fun u=>f (pls r k QV u)) m)<=pr (tn S m))/\((∃m,m<=r/\2*pr (tn (fun u=>f (pls r k QV u)) m)<=pr (tn S m))\/∀i,i<r->f (pls r k QV i) i=S i i/\∀j,j<r->j≠i->f (pls r k QV i) j=0):=by
 obtain⟨c,R⟩:=Tr.round F;rw[G5 I.rw] at c;obtain⟨q,n1,n2,s,v⟩:=J5 I.rw I.rk I.kv R;have d:∀m,m<=r->tn (glue k (fun u i=>S i u) V) m=tn S m:=fun m b=>jf fun i hi=>by rw[zO (by have:=I.rk;(first|lia|omega))]
 have l:∀m,m<=r->tn (fun u=>f (pls r k QV u)) m=tn f m:=fun m b=>jf fun i hi=>by show f (pls r k QV i) i=f i i;rw[iG ω]
 have le:∀m,m<=r->pr (tn (fun u=>f (pls r k QV u)) m)<=pr (tn S m):=fun m b=>by rw[l m b,<-d m b];exact R.le m b
 refine⟨c,⟨I.rk,I.rw,I.g1,fun u i o hi=>?_,I.bu,?_,I.ku,q,n1,n2,s,v,fun m b=>Ae (le m b) (I.pd m b)⟩,le,?_⟩
 ·exact J1 F I.bl _ (by rw[c];exact List.mem_map.mpr ⟨u,List.mem_range.mpr o,rfl⟩) i hi
 ·have:=Ei F I.bv
  have e:(P.map fun p=>fun t=>f p (k+t))=tl w (fun u t=>f (pls r k QV u) (k+t)):=by rw[c,AT];rfl
  rw[e] at this;exact this
 ·rcases R.hv with ⟨m,b,h⟩|h
  ·exact .inl ⟨m,b,by rw[l m b,<-d m b];exact h⟩
  ·refine .inr fun i hi=>?_
   obtain⟨h1,h2⟩:=h i hi;rw[zO (by have:=I.rk;(first|lia|omega))] at h1;rw[iG hi];exact⟨h1,h2⟩
end
def J6{U:Nat->Vc}{c:Vc}{i j t:Nat}(ne:i≠j):∀k,sm (put U i fun t=>U i t+U j t) (fun a=>if a=j then c j-c i else c a) k t=sm U c k t+(if i<k then c i*U j t else 0)-(if j<k then c i*U j t else 0)
 |0=>by show(0:Int)=0+(if i<0 then _ else 0)-(if j<0 then _ else 0);rw[if_neg ω,if_neg ω];rfl
 |k+1=>by
  show sm _ _ k t+(if k=j then c j-c i else c k)*put U i (fun t=>U i t+U j t) k t=sm U c k t+c k*U k t+_-_;rw[J6 ne k]
  by_cases e1:k=i
  ·subst e1
   rw[if_neg (show ¬k<k from ω),if_neg ne,zU,if_pos (show k<k+1 from ω),Bi]
   by_cases h:j<k
   ·rw[if_pos h,if_pos (show j<k+1 from ω)];(first|lia|omega)
   ·rw[if_neg h,if_neg (show ¬j<k+1 from ω)];(first|lia|omega)
  ·rw[dG e1]
   by_cases e2:k=j
   ·subst e2
    rw[if_pos rfl,if_neg (show ¬k<k from ω),if_pos (show k<k+1 from ω),Int.sub_mul]
    by_cases h:i<k
    ·rw[if_pos h,if_pos (show i<k+1 from ω)];(first|lia|omega)
    ·rw[if_neg h,if_neg (show ¬i<k+1 from ω)];(first|lia|omega)
   ·rw[if_neg e2]
    have a1:(if i<k then c i*U j t else 0)=(if i<k+1 then c i*U j t else 0):=by
     by_cases h:i<k
     ·rw[if_pos h,if_pos ω]
     ·rw[if_neg h,if_neg ω]
    have a2:(if j<k then c i*U j t else 0)=(if j<k+1 then c i*U j t else 0):=by
     by_cases h:j<k
     ·rw[if_pos h,if_pos ω]
     ·rw[if_neg h,if_neg ω]
    rw[a1,a2];(first|lia|omega)
def Ej{n i:Nat}{W:Nat->Vc}(h:i<n):(tl n W)[i]?=some (W i):=by unfold tl;rw[Aj,AH h];rfl
def jl{n:Nat}{W:Nat->Vc}:(tl n W).length=n:=by unfold tl;simp
def Ek{k:Nat}{U C:Nat->Vc}:Both k (tl k U) (tl k C)↔(∀s t,s<k->t<k->sm U (fun a=>C a s) k t=dl s t)/\∀i j,i<k->j<k->dot k (U i) (C j)=dl i j:=by
 have e:∀s t,cmb ((tl k C).map fun b=>b s) (tl k U) t=sm U (fun a=>C a s) k t:=fun s t=>by
  have:=Eh (ρ:=U) (c:=fun a=>C a s) t k;rw[<-this];unfold tl lst;rw[AT];rfl
 constructor
 ·intro D
  exact⟨fun s t g h=>by rw[<-e];exact D.a.d s t g h,fun i j hi f=>D.b i j _ _ (Ej hi) (Ej f)⟩
 ·rintro⟨h1,h2⟩
  refine⟨⟨jl,jl,fun s t g h=>by rw[e];exact h1 s t g h⟩,fun i j u c l hc=>?_⟩;have hi:i<k:=by have:=(List.getElem?_eq_some_iff.mp l).1;rwa [jl] at this
  have f:j<k:=by have:=(List.getElem?_eq_some_iff.mp hc).1;rwa [jl] at this
  rw[Ej hi] at l;rw[Ej f] at hc;cases l;cases hc;exact h2 i j hi f
def Both.add{k:Nat}{U C:Nat->Vc}(D:Both k (tl k U) (tl k C)){i j:Nat}(hi:i<k)(p:j<k)(ne:i≠j):Both k (tl k (put U i fun t=>U i t+U j t)) (tl k (put C j fun s=>C j s-C i s)):=by
 rw[Ek] at D ⊢;obtain⟨h1,h2⟩:=D;refine⟨fun s t q r=>?_,fun a b d hb=>?_⟩
 ·have e:(fun a=>put C j (fun s=>C j s-C i s) a s)=fun a=>if a=j then C j s-C i s else C a s:=funext fun a=>by
   unfold put
   by_cases h:a=j
   ·rw[if_pos h,if_pos h]
   ·rw[if_neg h,if_neg h]
  rw[e];have:=J6 (U:=U) (c:=fun a=>C a s) (t:=t) ne k;rw[this,if_pos hi,if_pos p,h1 s t q r];(first|lia|omega)
 ·-- by dX two rows
  have l:∀{x:Vc},dot k (fun t=>U i t+U j t) x=dot k (U i) x+dot k (U j) x:=fun{x}=>by
   have:=rH (k:=k) (a:=U i) (a':=U j) (b:=x) (x:=1) (y:=1);rw[Int.one_mul,Int.one_mul] at this;rw[<-this];exact zF fun t _=>ω
  have f:∀{x:Vc},dot k x (fun s=>C j s-C i s)=dot k x (C j)-dot k x (C i):=fun{x}=>by
   have:=je (k:=k) (a:=x) (b:=C i) (b':=C j) (x:=-1);rw[show dot k x (C j)-dot k x (C i)=-1*dot k x (C i)+dot k x (C j) from ω,<-this];exact zi fun t _=>ω
  by_cases o:a=i
  ·subst o
   rw[zU]
   by_cases g:b=j
   ·subst g
    rw[zU,l,f,f,h2 a b d hb,h2 a a d d,h2 b b hb hb,h2 b a hb d];unfold dl;rw[if_neg ne,if_pos rfl,if_pos rfl,if_neg (Ne.symm ne)];(first|lia|omega)
   ·rw[dG g,l,h2 a b d hb,h2 j b p hb]
    unfold dl;rw[if_neg (show ¬j=b from fun z=>g z.symm)];(first|lia|omega)
  ·rw[dG o]
   by_cases g:b=j
   ·subst g
    rw[zU,f,h2 a b d hb,h2 a i d hi];unfold dl;rw[if_neg o];(first|lia|omega)
   ·rw[dG g,h2 a b d hb]
def OC{A S U V f:Nat->Vc}{k w r D bU bV g M N X B:Nat}{Bn Bf:List Vc}{QU QV:Nat->Nat}{P:List Nat}(I:LM A k w r D bU bV g S U V Bn Bf QU QV)(Tr:Tri w r k M 1 (glue k (fun u i=>S i u) V) (fun a=>k+QV a))(F:FS N M X B (tl w (glue k (fun u i=>S i u) V)) P f)(h:∀i,i<r->f (pls r k QV i) i=S i i/\∀j,j<r->j≠i->f (pls r k QV i) j=0){i u:Nat}(hi:i<r)(o:u<r):S i i ∣ S i u:=by
 obtain⟨d,R⟩:=Tr.round F;have l:glue k (fun u i=>S i u) V u∈tl w (glue k (fun u i=>S i u) V):=List.mem_map.mpr ⟨u,List.mem_range.mpr (by have:=I.rw;(first|lia|omega)),rfl⟩;have sp:=F.gen _ l;have e:glue k (fun u i=>S i u) V u i=S i u:=zO (by have:=I.rk;(first|lia|omega));rw[<-e];refine Sp.ind (C:=fun v=>S i i ∣ v i) (Int.dvd_zero _) (fun a x y hx hy=>Int.dvd_add (Int.dvd_trans hx (Int.dvd_mul_left a _)) hy) (fun v hv=>?_) sp;obtain⟨p,hp,rfl⟩:=List.mem_map.mp hv;rw[d,G5 I.rw] at hp;obtain⟨j,c,rfl⟩:=List.mem_map.mp hp;have c:=List.mem_range.mp c
 by_cases b:j<r
 ·by_cases e2:i=j
  ·subst e2;rw[(h i hi).1];exact Int.dvd_refl _
  ·rw[(h j b).2 i hi e2];exact Int.dvd_zero _
 ·rw[show j=r+(j-r) from ω,lj]
  rw[R.qz (j-r) i ω (by show i<k+QV (j-r);have:=I.rk;(first|lia|omega))];exact Int.dvd_zero _
def ce(U:Nat->Vc)(r:Nat):Nat->Nat->Vc
 |0=>U
 |n+1=>put (ce U r n) (r-2-n) fun t=>ce U r n (r-2-n) t+ce U r n (r-1-n) t
def h_(C:Nat->Vc)(r:Nat):Nat->Nat->Vc
 |0=>C
 |n+1=>put (h_ C r n) (r-1-n) fun s=>h_ C r n (r-1-n) s-h_ C r n (r-2-n) s
def ss(U:Nat->Vc)(r:Nat):Nat->Nat->Vc
 |0,_=>fun _=>0
 |n+1,i=>fun t=>U i t+ss U r n (i+1) t
section
variable{U C:Nat->Vc}{r k:Nat}
def G7:∀(n:Nat),n+1<=r->∀i,ce U r n i=if r-1-n<=i/\i<r then ss U r (r-i) i else U i
 |0,h,i=>by
  show U i=_
  by_cases e:i=r-1
  ·rw[if_pos ω,show r-i=1 from ω]
   exact funext fun t=>by show U i t=U i t+0;(first|lia|omega)
  ·rw[if_neg ω]
 |n+1,h,i=>by
  have a:=G7 n ω;show put (ce U r n) (r-2-n) (fun t=>ce U r n (r-2-n) t+ce U r n (r-1-n) t) i=_
  by_cases e:i=r-2-n
  ·rw[e,zU,if_pos ω,a (r-2-n),a (r-1-n),if_neg ω,if_pos ω]
   have e1:r-(r-2-n)=n+1+1:=ω
   have e2:r-(r-1-n)=n+1:=ω
   rw[e1,e2];exact funext fun t=>by
    show U (r-2-n) t+ss U r (n+1) (r-1-n) t=U (r-2-n) t+ss U r (n+1) (r-2-n+1) t;rw[show r-2-n+1=r-1-n from ω]
  ·rw[dG e,a i]
   by_cases h2:r-1-n<=i/\i<r
   ·rw[if_pos h2,if_pos ω]
   ·rw[if_neg h2,if_neg ω]
def j5(h:1<=r)(i:Nat):ce U r (r-1) i=if i<r then ss U r (r-i) i else U i:=by
 rw[G7 (r-1) ω i]
 by_cases e:i<r
 ·rw[if_pos ω,if_pos e]
 ·rw[if_neg ω,if_neg e]
def J7(hr:r<=k)(D:Both k (tl k U) (tl k C)):∀n,n+1<=r->Both k (tl k (ce U r n)) (tl k (h_ C r n))
 |0,_=>D
 |n+1,h=>(J7 hr D n ω).add (i:=r-2-n) (j:=r-1-n) ω ω ω
def G8{u K:Nat}:∀(n i:Nat),(∀j,i<=j->j<i+n->(U j u).natAbs<=K)->(ss U r n i u).natAbs<=n*K
 |0,_,_=>Ap _
 |n+1,i,h=>by
  have h1:=G8 (u:=u) n (i+1) fun j h1 h2=>h j ω ω;have h2:=h i (Ad _) ω;have a:=Int.natAbs_add_le (U i u) (ss U r n (i+1) u);show(U i u+ss U r n (i+1) u).natAbs<=(n+1)*K;rw[Nat.add_mul];(first|lia|omega)
def J8{w:Nat}{A:Nat->Vc}{y:Vc}:∀(n i:Nat),aM k w A (ss U r n i) y=ss (fun i _=>aM k w A (U i) y) r n i 0
 |0,_=>JZ
 |n+1,i=>by
  show aM k w A (fun t=>U i t+ss U r n (i+1) t) y=aM k w A (U i) y+ss (fun i _=>aM k w A (U i) y) r n (i+1) 0;rw[<-J8 n (i+1)];have:=JY (k:=k) (w:=w) (A:=A) (a:=1) (x:=U i) (x':=ss U r n (i+1)) (y:=y);rw[Int.one_mul] at this;rw[<-this]
  congr 1
  exact funext fun t=>ω
def G9{c:Nat->Int}{u:Nat}:∀(n i:Nat),(∀j,i<=j->j<i+n->j≠u->c j=0)->ss (fun i _=>c i) r n i 0=if i<=u/\u<i+n then c u else 0
 |0,i,_=>by show(0:Int)=_;rw[if_neg ω]
 |n+1,i,h=>by
  show c i+ss (fun i _=>c i) r n (i+1) 0=_;rw[G9 n (i+1) fun j h1 h2 a=>h j ω ω a]
  by_cases e:i=u
  ·subst e;rw[if_neg ω,if_pos ω];(first|lia|omega)
  ·rw[h i (Ad _) ω e]
   by_cases h2:i+1<=u/\u<i+1+n
   ·rw[if_pos h2,if_pos ω];(first|lia|omega)
   ·rw[if_neg h2,if_neg ω];(first|lia|omega)
end
section
variable{A T U V:Nat->Vc}{k w r D bU bV g:Nat}{Bn Bf:List Vc}{QU QV:Nat->Nat}{C:Nat->Vc}
def LI.slid(I:LI A k w r D bU bV g T U V (tl k C) Bf QU QV)(hr:1<=r)(hd:∀u i,u<r->i<r->u≠i->T u i=0):LM A k w r D bU bV (r*g) (fun i u=>aM k w A (ce U r (r-1) i) (V u)) (ce U r (r-1)) V (tl k (h_ C r (r-1))) Bf QU QV/\∀i u,i<k->u<w->aM k w A (ce U r (r-1) i) (V u)=if i<=u/\u<r then T u u else 0:=by
 have rk:=I.rk;have q:=I.rw;have val:∀i u,i<k->u<w->aM k w A (ce U r (r-1) i) (V u)=if i<=u/\u<r then T u u else 0:=fun i u hi b=>by
  rw[j5 hr]
  by_cases h:i<r
  ·rw[if_pos h,J8]
   have e:ss (fun i _=>aM k w A (U i) (V u)) r (r-i) i 0=ss (fun i _=>if i<k then T u i else aM k w A (U i) (V u)) r (r-i) i 0:=by
    congr 1
    exact funext fun j=>funext fun _=>by
     by_cases l:j<k
     ·rw[if_pos l,I.bl u j b l]
     ·rw[if_neg l]
   rw[e,G9 (u:=u) (r-i) i fun j h1 h2 f=>by
    rw[if_pos ω]
    by_cases o:u<r
    ·exact hd u j o ω (Ne.symm f)
    ·exact I.to u j b ω (.inl ω)]
   by_cases h2:i<=u/\u<r
   ·rw[if_pos ω,if_pos h2,if_pos ω]
   ·rw[if_neg ω,if_neg h2]
  ·rw[if_neg h,if_neg ω,<-I.bl u i b hi]
   exact I.to u i b hi (.inr ω)
 have dg:∀i,i<r->aM k w A (ce U r (r-1) i) (V i)=T i i:=fun i hi=>by rw[val i i ω ω,if_pos ⟨Ad _,hi⟩]
 refine⟨⟨rk,q,Nat.mul_pos hr I.g1,fun i u _ _=>rfl,J7 rk I.bu (r-1) ω,I.bv,⟨I.ku.qs,fun a u d b=>?_,fun a d=>?_,fun a c h1 h2=>?_,fun i a hi d=>?_,fun a d=>?_⟩,I.kv,⟨fun u b=>?_,fun u i b h1 h2=>?_,fun u i b hi=>?_,fun u i h1 h2 f=>?_⟩,fun m p=>?_⟩,val⟩
 ·rw[j5 hr,if_neg ω];exact I.ku.kz a u d b
 ·rw[j5 hr,if_neg ω];exact I.ku.kp a d
 ·rw[j5 hr,j5 hr,if_neg ω,if_neg ω];exact I.ku.kq a c h1 h2
 ·rw[j5 hr,j5 hr,if_pos hi,if_neg ω]
  have:=G8 (U:=U) (r:=r) (u:=QU a) (K:=g*(U (r+a) (QU a)).natAbs) (r-i) i fun j h1 h2=>I.ku.tq j a ω d;refine Ae this ?_;rw[AQ];exact Ak _ ω
 ·rw[j5 hr,if_neg ω];exact I.ku.km a d
 ·show 0<aM k w A (ce U r (r-1) u) (V u)
  rw[dg u b];exact I.tp u b
 ·show aM k w A (ce U r (r-1) i) (V u)=0
  rw[val i u h2 ω,if_neg ω]
 ·show(aM k w A (ce U r (r-1) i) (V u)).natAbs<=(aM k w A (ce U r (r-1) u) (V u)).natAbs
  rw[dg u b,val i u ω ω,if_pos ω];exact Ad _
 ·show aM k w A (ce U r (r-1) i) (V u)=0
  rw[val i u f h2,if_neg ω]
 ·have e:tn (fun i u=>aM k w A (ce U r (r-1) i) (V u)) m=tn T m:=jf fun i hi=>dg i ω
  rw[e];exact I.pd m p
end
def G_{f:Nat->Vc}:∀{P:List Nat}{v:Vc}{p:Nat},Ech P f->P.Pairwise (·<·)->Sp (P.map f) v->(∀u,u<p->v u=0)->v p≠0->p∈P
 |[],v,p,_,_,⟨c,hc,e⟩,_,hp=>by
  refine absurd ?_ hp;rw[e];cases c<;>rfl
 |q::P,v,p,h,hs,⟨c,hc,e⟩,hz,hp=>by
  cases c with
  |nil=>simp at hc
  |cons a c=>
   rw[Bg] at hs;have eq:v q=a*f q q:=by
    rw[e];show a*f q q+cmb c (P.map f) q=a*f q q;rw[zQ c (P.map f) fun v hv=>by
     obtain⟨r,hr,rfl⟩:=List.mem_map.mp hv;exact h.z r (.tail _ hr) q (hs.1 r hr)]
    (first|lia|omega)
   have b:=h.pos q (.head _)
   by_cases d:a=0
   ·refine .tail _ (G_ (v:=v) (h.sub fun r hr=>.tail _ hr) hs.2 ⟨c,by simpa using hc,fun u=>?_⟩ hz hp)
    rw[e];show a*f q u+cmb c (P.map f) u=_;rw[d];(first|lia|omega)
   ·have hq:v q≠0:=by rw[eq];exact Int.mul_ne_zero d ω
    have h1:p<=q:=by
     rcases Bk q p with g|g
     ·exact absurd (hz q g) hq
     ·exact g
    have h2:q<=p:=by
     rcases Bk p q with g|g
     ·refine absurd ?_ hp
      rw[e];refine zQ _ _ fun x hx=>?_;obtain⟨r,hr,rfl⟩:=List.mem_map.mp hx;rcases List.mem_cons.mp hr with rfl|hr
      ·exact h.z r (.head _) p g
      ·exact h.z r (.tail _ hr) p (by have:=hs.1 r hr;(first|lia|omega))
     ·exact g
    rw[show p=q from ω];exact .head _
def alone{Λ:Vc->Prop}{L:Nat->Vc}{r k:Nat}(T:Lt Λ)(hk:r<=k)(p:∀i,i<r->Λ (L i))(lp:∀i,i<r->0<L i i)(q:∀i j,i<r->i<j->j<k->L i j=0):∀j,j<r->∃v,Λ v/\v j≠0/\∀i,i<k->i≠j->v i=0:=by
 intro j
 induction j using Nat.strongRecOn with
 |_ j ih=>
  intro a;have step:∀n,n<=j->∃v,Λ v/\v j≠0/\(∀i,i<n->v i=0)/\∀i,j<i->i<k->v i=0:=by
   intro n
   induction n with
   |zero=>intro _;exact⟨L j,p j a,by have:=lp j a;(first|lia|omega),fun i hi=>absurd hi (Nat.not_lt_zero _),fun i h1 h2=>q j i a h1 h2⟩
   |succ n ihn=>
    intro u;obtain⟨v,b,c,d,f⟩:=ihn ω;obtain⟨x,x1,x2,g⟩:=ih n ω ω;have l:=T.s (-(x n)) T.z b;have o:=T.s (v n) l x1;refine⟨_,o,?_,fun i hi=>?_,fun i h1 h2=>?_⟩
    ·show(0 - -(x n)*v j)-v n*x j≠0
     rw[g j ω ω,Int.neg_mul];have:=Int.mul_ne_zero x2 c;(first|lia|omega)
    ·show(0 - -(x n)*v i)-v n*x i=0
     rw[Int.neg_mul]
     by_cases e:i=n
     ·subst e;rw[A5 (x i)];(first|lia|omega)
     ·rw[d i ω,g i ω e];(first|lia|omega)
    ·show(0 - -(x n)*v i)-v n*x i=0
     rw[f i h1 h2,g i h2 ω];(first|lia|omega)
  obtain⟨v,b,c,d,f⟩:=step j (Ad _);refine⟨v,b,c,fun i hi ne=>?_⟩;rcases Bk i j with h|h
  ·exact d i h
  ·exact f i ω hi
def un:Nat->Vc:=fun i t=>dl i t
def oq{k i:Nat}{g:Vc}(h:i<k):dot k (un i) g=g i:=by
 have:∀n,n<=k->dot n (un i) g=if i<n then g i else 0:=by
  intro n
  induction n with
  |zero=>intro _;rw[if_neg ω];rfl
  |succ n ih=>
   intro a;show dot n (un i) g+dl i n*g n=_;rw[ih ω]
   by_cases e:i=n
   ·subst e;rw[if_neg ω,if_pos ω];unfold dl;rw[if_pos rfl];(first|lia|omega)
   ·unfold dl
    rw[if_neg e]
    by_cases h2:i<n
    ·rw[if_pos h2,if_pos ω];(first|lia|omega)
    ·rw[if_neg h2,if_neg ω];(first|lia|omega)
 rw[this k (Ad _),if_pos h]
def El(k:Nat):Both k (tl k un) (tl k un):=by
 rw[Ek];refine⟨fun s t b c=>?_,fun i j hi d=>?_⟩
 ·have:∀n,n<=k->sm un (fun a=>un a s) n t=if s<n then dl s t else 0:=by
   intro n
   induction n with
   |zero=>intro _;rw[if_neg ω];rfl
   |succ n ih=>
    intro f;show sm un (fun a=>un a s) n t+dl n s*dl n t=_;rw[ih ω]
    by_cases e:n=s
    ·subst e;rw[if_neg ω,if_pos ω];unfold dl;rw[if_pos rfl];(first|lia|omega)
    ·have z:dl n s=0:=by unfold dl;rw[if_neg e]
     rw[z]
     by_cases h2:s<n
     ·rw[if_pos h2,if_pos ω];(first|lia|omega)
     ·rw[if_neg h2,if_neg ω];(first|lia|omega)
  rw[this k (Ad _),if_pos b]
 ·rw[oq hi]
  show dl j i=dl i j;unfold dl
  by_cases e:i=j
  ·rw[if_pos e,if_pos e.symm]
  ·rw[if_neg e,if_neg (fun z=>e z.symm)]
def G'{k w i u:Nat}{A:Nat->Vc}(hi:i<k)(a:u<w):aM k w A (un i) (un u)=A i u:=by
 unfold aM;rw[oq hi];have:dot w (A i) (un u)=dot w (A i) (fun s=>dl s u):=zi fun t _=>by
  show dl u t=dl t u;unfold dl
  by_cases e:u=t
  ·rw[if_pos e,if_pos e.symm]
  ·rw[if_neg e,if_neg (fun z=>e z.symm)]
 rw[this];exact jX a
def pp(P:List Nat)(i:Nat):Nat:=P.getD i 0
section
variable{P:List Nat}{n:Nat}
def sW(a:P.length=n){i:Nat}(h:i<n):pp P i∈P:=by unfold pp;rw[Ac,Aa ω];exact Ao _
def OD(a:P.length=n){p:Nat}(h:p∈P):∃i,i<n/\pp P i=p:=by
 obtain⟨i,hi,rfl⟩:=AN h;exact⟨i,ω,by unfold pp;rw[Ac,Aa hi];rfl⟩
def iH(b:P.length=n)(a:P.Pairwise (·<·)){i j:Nat}(h:i<j)(c:j<n):pp P i<pp P j:=by
 unfold pp;rw[Ac,Ac,Aa ω,Aa ω];exact List.pairwise_iff_getElem.mp a i j ω ω h
def Hf(a:P.length=n):P=(Af n).map (pp P):=by
 apply AZ
 ·simp[a]
 ·intro i h1 h2
  rw[AW,A9];unfold pp;rw[Ac,Aa h1];rfl
def cut(m:Nat)(P:List Nat):Nat:=(P.filter fun p=>decide (p<m)).length
def Hh(d:P.Pairwise (·<·)){m:Nat}(f:P.length=n):cut m P<=n/\(∀i,i<cut m P->pp P i<m)/\∀i,cut m P<=i->i<n->m<=pp P i:=by
 have:∀P:List Nat,P.Pairwise (·<·)->cut m P<=P.length/\(∀i,i<cut m P->pp P i<m)/\∀i,cut m P<=i->i<P.length->m<=pp P i:=by
  intro P
  induction P with
  |nil=>intro _;exact⟨Ad _,fun i hi=>absurd hi (Nat.not_lt_zero _),fun i _ hi=>absurd hi (Nat.not_lt_zero _)⟩
  |cons p P ih=>
   intro d;rw[Bg] at d;obtain⟨a,b,c⟩:=ih d.2
   by_cases h:p<m
   ·have e:cut m (p::P)=cut m P+1:=by unfold cut;rw[List.filter_cons,if_pos (decide_eq_true h)];rfl
    rw[e,AL];refine⟨ω,fun i hi=>?_,fun i h1 h2=>?_⟩
    ·cases i with
     |zero=>exact h
     |succ i=>exact b i ω
    ·cases i with
     |zero=>(first|lia|omega)
     |succ i=>exact c i ω ω
   ·have e:cut m (p::P)=0:=by
     unfold cut;rw[List.filter_cons,if_neg (by simpa using h),List.filter_eq_nil_iff.mpr fun q hq=>?_]
     ·rfl
     ·have:=d.1 q hq
      simp;(first|lia|omega)
    rw[e];refine⟨Ap _,fun i hi=>absurd hi (Nat.not_lt_zero _),fun i _ h2=>?_⟩;cases i with
    |zero=>exact Nat.le_of_not_lt h
    |succ i=>
     rw[AL] at h2;have:pp P i∈P:=sW rfl ω;have:=d.1 _ this;show m<=pp P i;(first|lia|omega)
 have h:=this P d;rw[f] at h;exact h
end
def OE(a b:List Nat)(h:∀t∈b,1<=t):pr a<=pr (a++b):=by
 rw[sL];have:1<=pr b:=by
  clear a
  induction b with
  |nil=>exact Ad _
  |cons t b ih=>exact jd (h t (.head _)) (ih fun x hx=>h x (.tail _ hx))
 exact Nat.le_mul_of_pos_right _ this
section
variable{k w N M X B:Nat}{A f:Nat->Vc}{P:List Nat}
structure N0(A:Nat->Vc)(k w r b:Nat)(S U:Nat->Vc)(Bn:List Vc)(Q q:Nat->Nat):Prop where
 rk:r<=k
 rw:r<=w
 bl:∀i u,i<k->u<w->S i u=aM k w A (U i) (un u)
 bu:Both k (tl k U) Bn
 ku:Ker k r 1 b U Q
 z:∀i u,r<=i->i<k->u<w->S i u=0
 qw:∀i,i<r->q i<w
 ql:∀i j,i<j->j<r->q i<q j
 sz:∀i u,i<r->u<q i->S i u=0
 sp:∀i,i<r->0<S i (q i)
def J9(F:FS N M X B (tl k (glue w A un)) P f):N0 A k w (cut w P) B (fun i=>f (pp P i)) (fun i t=>f (pp P i) (w+t)) (ol k ((tl k (glue w A un)).map fun r=>shr f P r) (tl k un)) (fun a=>pp P (cut w P+a)-w) (pp P):=by
 have g:P.length=k:=by rw[F.len];exact jl
 obtain⟨c1,o,l⟩:=Hh (m:=w) F.srt g;have b:∀{i},i<k->pp P i∈P:=fun hi=>sW g hi;have q:∀i,i<k->i<=pp P i:=by
  intro i
  induction i with
  |zero=>intro _;exact Ap _
  |succ i ih=>intro hi;have:=ih ω;have:=iH g F.srt (show i<i+1 from ω) hi;(first|lia|omega)
 have hw:cut w P<=w:=by
  rcases Nat.eq_zero_or_pos (cut w P) with z|z
  ·(first|lia|omega)
  ·have h1:=o (cut w P-1) ω
   have h2:=q (cut w P-1) ω;(first|lia|omega)
 have hq:∀a,a<k-cut w P->w+(pp P (cut w P+a)-w)=pp P (cut w P+a):=fun a h=>by have:=l (cut w P+a) ω ω;(first|lia|omega)
 refine⟨c1,hw,fun i u hi d=>?_,?_,⟨fun a c h1 h2=>?_,fun a u h d=>?_,fun a h=>?_,fun a c h1 h2=>?_,fun i a hi h=>?_,fun a h=>?_⟩,fun i u h1 h2 s=>F.ech.z _ (b h2) u (by have:=l i h1 h2;(first|lia|omega)),o,fun i j h1 h2=>iH g F.srt h1 ω,fun i u hi d=>F.ech.z _ (b ω) u d,fun i hi=>F.ech.pos _ (b ω)⟩
 ·refine J0 (T:=fun u i=>A i u) (U:=un) (V:=un) F (fun u i d hi=>(G' hi d).symm) _ (b hi) u d
 ·have:=Ei F (El k)
  have e:(P.map fun p=>fun t=>f p (w+t))=tl k (fun i t=>f (pp P i) (w+t)):=by
   have:=Hf g
   conv=>lhs;rw[this]
   rw[AT];rfl
  rw[e] at this;exact this
 ·have:=iH g F.srt (show cut w P+a<cut w P+c from ω) ω
  have:=l (cut w P+a) ω ω;show pp P (cut w P+a)-w<pp P (cut w P+c)-w;(first|lia|omega)
 ·have d:u<pp P (cut w P+a)-w:=d
  exact F.ech.z _ (b ω) (w+u) ω
 ·show 0<f (pp P (cut w P+a)) (w+(pp P (cut w P+a)-w))
  rw[hq a h];exact F.ech.pos _ (b ω)
 ·show 0<=f (pp P (cut w P+a)) (w+(pp P (cut w P+c)-w))/\f (pp P (cut w P+a)) (w+(pp P (cut w P+c)-w))<f (pp P (cut w P+c)) (w+(pp P (cut w P+c)-w))
  rw[hq c h2];exact F.red _ (b ω) _ (b ω) (iH g F.srt ω ω)
 ·show(f (pp P i) (w+(pp P (cut w P+a)-w))).natAbs<=1*(f (pp P (cut w P+a)) (w+(pp P (cut w P+a)-w))).natAbs
  rw[hq a h];have:=F.red _ (b (show i<k from ω)) _ (b (show cut w P+a<k from ω)) (iH g F.srt ω ω);(first|lia|omega)
 ·show(f (pp P (cut w P+a)) (w+(pp P (cut w P+a)-w))).natAbs<=B
  rw[hq a h];exact F.piv _ (b ω)
def OF(g:1<=M)(hi:iC (tl k (glue w A un)))(hb:∀r∈tl k (glue w A un),∀u,(r u).natAbs<=M)(F:FS N M X B (tl k (glue w A un)) P f):∀m,m<=cut w P->pr ((Af m).map fun i=>(f (pp P i) (pp P i)).toNat)<=(2*(k*M)+1) ^ k:=fun m j=>by
 have b:P.length=k:=by rw[F.len];exact jl
 obtain⟨c1,_,_⟩:=Hh (m:=w) F.srt b;have h:=Ov g hi F.ech F.srt F.gen F.len fun r hr p _=>hb r hr p;rw[jl] at h;have e:(P.map fun p=>(f p p).toNat)=((Af m).map fun i=>(f (pp P i) (pp P i)).toNat)++((Af (k-m)).map fun a=>(f (pp P (m+a)) (pp P (m+a))).toNat):=by
  have:=Hf b
  conv=>lhs;rw[this]
  rw[AT];apply AZ
  ·simp;(first|lia|omega)
  ·intro i h1 h2
   rw[AW,A9]
   by_cases hi:i<m
   ·rw[List.getElem_append_left (by simpa using hi),AW,A9];rfl
   ·rw[List.getElem_append_right (by simp;(first|lia|omega)),AW,A9,Ab,AU,show m+(i-m)=i from ω];rfl
 rw[e] at h;refine Ae (OE _ _ fun t d=>?_) h;obtain⟨a,c,rfl⟩:=List.mem_map.mp d;have c:=List.mem_range.mp c;have:=F.ech.pos _ (sW b (show m+a<k from ω));(first|lia|omega)
def OG{r b D Y M2 X2 B2:Nat}{S U f2:Nat->Vc}{Bn:List Vc}{Q q:Nat->Nat}{P2:List Nat}(I:N0 A k w r b S U Bn Q q)(W:∀m,m<=r->pr ((Af m).map fun i=>(S i (q i)).toNat)<=D)(F:FS Y M2 X2 B2 (tl w (glue k (fun u i=>S i u) un)) P2 f2):cut k P2=r/\(∀i,i<r->pp P2 i=i)/\LI A k w r D b B2 1 (fun u=>f2 (pp P2 u)) U (fun u t=>f2 (pp P2 u) (k+t)) Bn (ol w ((tl w (glue k (fun u i=>S i u) un)).map fun r=>shr f2 P2 r) (tl w un)) Q (fun a=>pp P2 (r+a)-k):=by
 have rk:=I.rk;have o:P2.length=w:=by rw[F.len];exact jl
 obtain⟨c1,J,C⟩:=Hh (m:=k) F.srt o;have d:∀{i},i<w->pp P2 i∈P2:=fun hi=>sW o hi;have sp:∀p∈P2,Sp (tl w (glue k (fun u i=>S i u) un)) (f2 p):=fun p hp=>(F.fr p hp).sp;have row:∀u,u<w->Sp (tl w (glue k (fun u i=>S i u) un)) (glue k (fun u i=>S i u) un u):=fun u f=>Sp.mem (List.mem_map.mpr ⟨u,List.mem_range.mpr f,rfl⟩);have zero:∀v,Sp (tl w (glue k (fun u i=>S i u) un)) v->∀i,r<=i->i<k->v i=0:=fun v hv i h1 h2=>by
  obtain⟨c,_,e⟩:=hv;rw[e];refine zQ _ _ fun x hx=>?_;obtain⟨u,f,rfl⟩:=List.mem_map.mp hx;rw[zO h2];exact I.z i u h1 h2 (List.mem_range.mp f)
 have H:∀i j,i<r->i<j->j<k->glue k (fun u i=>S i u) un (q i) j=0:=fun i j hi h1 h2=>by
  rw[zO h2]
  by_cases h:j<r
  ·exact I.sz j (q i) h (I.ql i j h1 h)
  ·exact I.z j (q i) ω h2 (I.qw i hi)
 have lt:Lt (Sp (tl w (glue k (fun u i=>S i u) un))):=⟨Sp.zero,fun m hv hw=>hv.sub hw m⟩;have lp:∀i,i<r->0<glue k (fun u i=>S i u) un (q i) i:=fun i hi=>by rw[zO ω];exact I.sp i hi
 have l:∀j,j<r->j∈P2:=fun j y=>by
  obtain⟨v,M,N,O⟩:=alone (L:=fun i=>glue k (fun u i=>S i u) un (q i)) lt rk (fun i hi=>row _ (I.qw i hi)) lp H j y;exact G_ F.ech F.srt (M.trans F.gen) (fun u f=>O u ω ω) N
 have lo:∀p∈P2,p<k->p<r:=fun p hp h=>by
  rcases Bk p r with g|g
  ·exact g
  ·have:=zero _ (sp p hp) p g h
   have:=F.ech.pos p hp;(first|lia|omega)
 have two:∀i,i<r->i<w/\pp P2 i=i:=by
  intro i
  induction i using Nat.strongRecOn with
  |_ i ih=>
   intro hi;obtain⟨j,y,e⟩:=OD o (l i hi);have h1:i<=j:=by
    rcases Bk j i with g|g
    ·have:=(ih j g ω).2;(first|lia|omega)
    ·exact g
   have h2:j<=i:=by
    rcases Bk i j with g|g
    ·have E:=iH o F.srt g y
     rw[e] at E;obtain⟨_,e2⟩:=ih (pp P2 i) E ω;rcases Bj (pp P2 i) i with g2|g2|g2
     ·have:=iH o F.srt g2 ω;(first|lia|omega)
     ·(first|lia|omega)
     ·(first|lia|omega)
    ·exact g
   have:j=i:=ω
   subst this;exact⟨y,e⟩
 have P:cut k P2=r:=by
  rcases Bj (cut k P2) r with g|g|g
  ·have:=C (cut k P2) (Ad _) (two _ g).1
   rw[(two _ g).2] at this;(first|lia|omega)
  ·exact g
  ·have h1:=J r g
   have h2:=lo _ (d ω) h1;have E:r<=pp P2 r:=by
    rcases Nat.eq_zero_or_pos r with z|z
    ·(first|lia|omega)
    ·have:=iH o F.srt (show r-1<r from ω) ω
     rw[(two (r-1) ω).2] at this;(first|lia|omega)
   (first|lia|omega)
 have hq:∀a,a<w-r->k+(pp P2 (r+a)-k)=pp P2 (r+a):=fun a s=>by have:=C (r+a) ω ω;(first|lia|omega)
 refine⟨P,fun i hi=>(two i hi).2,I.rk,I.rw,Ad 1,fun u i f hi=>?_,I.bu,?_,I.ku,⟨fun a c h1 h2=>?_,fun a u s f=>?_,fun a s=>?_,fun a c h1 h2=>?_,fun i a hi s=>?_,fun a s=>?_⟩,fun u f=>?_,fun u i f hi=>?_,fun u i h1 h2=>?_,fun u i f hi h=>?_,fun m G=>?_⟩
 ·exact J1 (T:=S) (U:=U) (V:=un) F I.bl _ (d f) i hi
 ·have:=Ei F (El w)
  have e:(P2.map fun p=>fun t=>f2 p (k+t))=tl w (fun u t=>f2 (pp P2 u) (k+t)):=by
   have:=Hf o
   conv=>lhs;rw[this]
   rw[AT];rfl
  rw[e] at this;exact this
 ·have:=iH o F.srt (show r+a<r+c from ω) ω
  have:=C (r+a) ω ω;show pp P2 (r+a)-k<pp P2 (r+c)-k;(first|lia|omega)
 ·have f:u<pp P2 (r+a)-k:=f
  exact F.ech.z _ (d ω) (k+u) ω
 ·show 0<f2 (pp P2 (r+a)) (k+(pp P2 (r+a)-k))
  rw[hq a s];exact F.ech.pos _ (d ω)
 ·show 0<=f2 (pp P2 (r+a)) (k+(pp P2 (r+c)-k))/\f2 (pp P2 (r+a)) (k+(pp P2 (r+c)-k))<f2 (pp P2 (r+c)) (k+(pp P2 (r+c)-k))
  rw[hq c h2];exact F.red _ (d ω) _ (d ω) (iH o F.srt ω ω)
 ·show(f2 (pp P2 i) (k+(pp P2 (r+a)-k))).natAbs<=1*(f2 (pp P2 (r+a)) (k+(pp P2 (r+a)-k))).natAbs
  rw[hq a s];have:=F.red _ (d (show i<w from ω)) _ (d (show r+a<w from ω)) (iH o F.srt ω ω);(first|lia|omega)
 ·show(f2 (pp P2 (r+a)) (k+(pp P2 (r+a)-k))).natAbs<=B2
  rw[hq a s];exact F.piv _ (d ω)
 ·show 0<f2 (pp P2 u) u
  rw[(two u f).2];exact F.ech.pos u (l u f)
 ·show f2 (pp P2 u) i=0
  rw[(two u f).2];exact F.ech.z u (l u f) i hi
 ·show 0<=f2 (pp P2 u) i/\f2 (pp P2 u) i<f2 (pp P2 i) i
  rw[(two u ω).2,(two i h2).2];exact F.red u (l u ω) i (l i h2) h1
 ·show f2 (pp P2 u) i=0
  by_cases X:u<r
  ·exact zero _ (sp _ (d f)) i ω hi
  ·exact F.ech.z _ (d f) i (by have:=C u ω f;(first|lia|omega))
 ·have T:Two (Sp (tl w (glue k (fun u i=>S i u) un))) r (fun i=>glue k (fun u i=>S i u) un (q i)) f2:=
   ⟨lt,fun i hi=>row _ (I.qw i hi),lp,fun i j h1 h2=>H i j ω h1 ω,fun i hi=>sp i (l i hi),fun i hi=>F.ech.pos i (l i hi),fun i j hi y=>F.ech.z i (l i hi) j y,fun v i hv hi hz=>jM F.ech F.srt (l i hi) (hv.trans F.gen) fun p _ hp=>hz p hp⟩
  have e1:tn (fun u=>f2 (pp P2 u)) m=tn f2 m:=jf fun i hi=>by show f2 (pp P2 i) i=f2 i i;rw[(two i ω).2]
  have e2:tn (fun i=>glue k (fun u i=>S i u) un (q i)) m=(Af m).map fun i=>(S i (q i)).toNat:=by
   unfold tn;exact Ba fun i hi=>by
    show(glue k (fun u i=>S i u) un (q i) i).toNat=_;rw[zO (by have:=List.mem_range.mp hi;(first|lia|omega))]
  rw[e1];have:=GZ T G;rw[e2] at this;exact Ae this (W m G)
end
def mu(T:Nat->Vc):Nat->Nat
 |0=>0
 |r+1=>mu T r+Nat.log2 (pr (tn T (r+1)))
def Hj{a b:Nat}(c:1<=a)(h:a<=b):a.log2<=b.log2:=by
 rcases Bk b.log2 a.log2 with g|g
 ·have h1:=(Nat.log2_lt (show b≠0 from ω)).mp g
  have h2:=Nat.log2_self_le (show a≠0 from ω);(first|lia|omega)
 ·exact g
def OH{a b:Nat}(c:1<=a)(h:2*a<=b):a.log2+1<=b.log2:=by
 rcases Bk b.log2 (a.log2+1) with g|g
 ·have h1:=(Nat.log2_lt (show b≠0 from ω)).mp g
  have h2:=Nat.log2_self_le (show a≠0 from ω);rw[Nat.pow_succ] at h1;(first|lia|omega)
 ·exact g
def Hk{T T':Nat->Vc}:∀r,(∀i,i<r->0<T' i i)->(∀m,m<=r->pr (tn T' m)<=pr (tn T m))->mu T' r<=mu T r
 |0,_,_=>Ad _
 |r+1,hp,h=>by
  have h1:=Hk r (fun i hi=>hp i ω) fun m a=>h m ω;have h2:=Hj (sR (k:=r+1) hp) (h (r+1) (Ad _));show mu T' r+_<=mu T r+_;(first|lia|omega)
def Hl{T T':Nat->Vc}:∀r,(∀i,i<r->0<T' i i)->(∀m,m<=r->pr (tn T' m)<=pr (tn T m))->(∃m,m<=r/\2*pr (tn T' m)<=pr (tn T m))->mu T' r+1<=mu T r
 |0,_,_,⟨m,b,h⟩=>by
  have:m=0:=ω
  subst this;have h:2*1<=1:=h;(first|lia|omega)
 |r+1,hp,h,⟨m,b,hh⟩=>by
  have a:∀i,i<r->0<T' i i:=fun i hi=>hp i ω;show mu T' r+_+1<=mu T r+_
  by_cases e:m=r+1
  ·subst e
   have h1:=Hk (T:=T) r a fun m b=>h m ω;have h2:=OH (sR (k:=r+1) hp) hh;(first|lia|omega)
  ·have h1:=Hl r a (fun m b=>h m ω) ⟨m,ω,hh⟩
   have h2:=Hj (sR (k:=r+1) hp) (h (r+1) (Ad _));(first|lia|omega)
def J_{T:Nat->Vc}{D:Nat}:∀r,(∀i,i<r->0<T i i)->(∀m,m<=r->pr (tn T m)<=D)->mu T r<=r*D.log2
 |0,_,_=>Ap _
 |r+1,hp,h=>by
  have h1:=J_ r (fun i hi=>hp i ω) fun m a=>h m ω;have h2:=Hj (sR (k:=r+1) hp) (h (r+1) (Ad _));show mu T r+_<=(r+1)*D.log2;rw[Nat.add_mul];(first|lia|omega)
def Dg(r:Nat)(T:Nat->Vc):Prop:=∀u i,u<r->i<r->u≠i->T u i=0
open Classical in
noncomputable def ms(r:Nat)(T:Nat->Vc):Nat:=2*mu T r+if Dg r T then 0 else 1
section
variable{A T U V f1 f2:Nat->Vc}{k w r D bU bV g M N X B M2 X2 B2:Nat}{Bn Bf:List Vc}{QU QV:Nat->Nat}{P1 P2:List Nat}
def OI(I:LI A k w r D bU bV g T U V Bn Bf QU QV)(hd:¬Dg r T)(Tr:Tri k r w M g (glue w (fun i u=>T u i) U) (fun a=>w+QU a))(l:FS N M X B (tl k (glue w (fun i u=>T u i) U)) P1 f1)(j:Tri w r k M2 1 (glue k (fun u i=>f1 (pls r w QU i) u) V) (fun a=>k+QV a))(o:FS N M2 X2 B2 (tl w (glue k (fun u i=>f1 (pls r w QU i) u) V)) P2 f2):ms r (fun u=>f2 (pls r k QV u))<ms r T:=by
 obtain⟨_,L,c,h1⟩:=I.near_done Tr l;obtain⟨_,J,f,h2⟩:=L.far_done j o;have le:=fun m b=>Ae (f m b) (c m b);unfold ms;rw[if_neg hd]
 by_cases d:∃m,m<=r/\2*pr (tn (fun u=>f2 (pls r k QV u)) m)<=pr (tn T m)
 ·have:=Hl r J.tp le d
  split<;>(first|lia|omega)
 ·have:=Hk r J.tp le
  have dg:Dg r (fun u=>f2 (pls r k QV u)):=by
   rcases h2 with ⟨m,b,h⟩|h
   ·exact absurd ⟨m,b,Ae h (c m b)⟩ d
   ·exact fun u i e hi ne=>(h u e).2 i hi (Ne.symm ne)
  rw[if_pos dg];(first|lia|omega)
def OJ{C:Nat->Vc}(I:LI A k w r D bU bV g T U V (tl k C) Bf QU QV)(hr:1<=r)(hd:Dg r T)(l:¬∀i,i+1<r->T i i ∣ T (i+1) (i+1))(c:Tri w r k M2 1 (glue k (fun u i=>aM k w A (ce U r (r-1) i) (V u)) V) (fun a=>k+QV a))(d:FS N M2 X2 B2 (tl w (glue k (fun u i=>aM k w A (ce U r (r-1) i) (V u)) V)) P2 f2):ms r (fun u=>f2 (pls r k QV u))<ms r T:=by
 obtain⟨L,val⟩:=I.slid hr hd;obtain⟨_,J,f,h2⟩:=L.far_done c d;have rk:=I.rk;have o:=I.rw;have e:∀m,m<=r->tn (fun i u=>aM k w A (ce U r (r-1) i) (V u)) m=tn T m:=fun m b=>jf fun i hi=>by
  show aM k w A (ce U r (r-1) i) (V i)=T i i;rw[val i i ω ω,if_pos ⟨Ad _,ω⟩]
 have le:∀m,m<=r->pr (tn (fun u=>f2 (pls r k QV u)) m)<=pr (tn T m):=fun m b=>by rw[<-e m b];exact f m b
 unfold ms;rw[if_pos hd];have j:∃m,m<=r/\2*pr (tn (fun u=>f2 (pls r k QV u)) m)<=pr (tn T m):=by
  rcases h2 with ⟨m,b,h⟩|h
  ·exact⟨m,b,by rw[<-e m b];exact h⟩
  ·refine absurd (fun i hi=>?_) l
   have:=OC L c d h (i:=i) (u:=i+1) ω ω;have this:aM k w A (ce U r (r-1) i) (V i) ∣ aM k w A (ce U r (r-1) i) (V (i+1)):=this
   rwa [val i i ω ω,val i (i+1) ω ω,if_pos ⟨Ad _,ω⟩,if_pos ⟨ω,ω⟩] at this
 have:=Hl r J.tp le j;split<;>(first|lia|omega)
end
section
variable{N M X B:Nat}{R:List Vc}{P:List Nat}{f:Nat->Vc}{l:Vc}
def tf:cM N M X B<=cE N M X B:=A7 _ _
def Hm(a:1<=B):cK N M X B<=cM N M X B:=Nat.le_mul_of_pos_right _ (Nat.pow_pos (Ec a))
def FS.mid{r:Vc}(c:1<=B)(F:FS N M X B R P f)(d:R.length<N)(hr:∀p∈P,(r p).natAbs<=M)(i:Nat):Rep (R++[r]) (cE N M X B) (aY f (P.take i) r):=by
 have a:(P.take i).length<=N:=by have:=F.len;rw[List.length_take];(first|lia|omega)
 obtain⟨b,_⟩:=nZ (R:=R++[r]) (fun p hp=>(F.fr p hp).more) F.fv F.ech.pos (P.take i) (fun q hq=>List.mem_of_mem_take hq) (Rep.mem (Ax R (List.mem_singleton.mpr rfl))) hr;refine b.mono (Ae ?_ (Ae (Hm c) tf));unfold cK;have h1:(1+B) ^ (P.take i).length<=(1+B) ^ N:=AC ω a;have h2:(P.take i).length*(M*(1+B) ^ (P.take i).length*cC N X B)<=N*(M*(1+B) ^ N*cC N X B):=AR a (Ak _ (Al _ h1));(first|lia|omega)
structure Mid(N M X B:Nat)(R:List Vc)(P:List Nat)(f:Nat->Vc)(m:Vc)(a b c d:Int):Prop where
 ech:Ech P f
 fr:∀q∈P,Rep R (cE N M X B) (f q)
 piv:∀q∈P,(f q q).natAbs<=B
 met:∀i,Rep R (cE N M X B) (aY f (P.take i) m)
 a1:a.natAbs<=B
 b1:b.natAbs<=B
 c1:c.natAbs<=B
 d1:d.natAbs<=B
def TS.mid{t p:Nat}{g a b c d:Int}(C:1<=B)(T:TS N M X B R P f l t)(hp:p∈P)(s:∀i,i<p->l i=0)(nU:l p≠0)(D:t<=p)(G:GI (f p p) (l p) g a b 0 c d):Mid N M X B R P (put f p (mix a (f p) b l)) (mix c (f p) d l) a b c d:=by
 obtain⟨T2,o⟩:=T.next C hp s nU D G;have H:=Ec (N:=N) C;obtain⟨r0,r1⟩:=T.red p hp;have w:=T.piv p hp;obtain⟨c1,E⟩:=G.le;have a1:a.natAbs<=B:=Ae G.b1 ω;have x:b.natAbs<=B:=Ae G.b2 w;have c1:c.natAbs<=B:=Ae c1 ω;have d1:d.natAbs<=B:=Ae E w;have I:∀q∈P,(l q).natAbs<=B:=fun q hq=>by have:=T.red q hq;have:=T.piv q hq;(first|lia|omega)
 have J:=T.fo p hp D;have L:∀{a b:Int},a.natAbs<=B->b.natAbs<=B->∀q∈P,(mix a (f p) b l q).natAbs<=2*B*B:=fun{a b} u hb q hq=>by
  have O:(a*f p q).natAbs<=B*B:=by rw[AB];exact AR u (J q hq)
  have S:(b*l q).natAbs<=B*B:=by rw[AB];exact AR hb (I q hq)
  have t3:=Int.natAbs_add_le (a*f p q) (b*l q);show(a*f p q+b*l q).natAbs<=_;rw[AQ];generalize B*B=Y at O S ⊢;(first|lia|omega)
 have U:P.length<=N:=by have:=T.len;have:=T.few;(first|lia|omega)
 have cnt:(P.filter fun q=>decide (q<t)).length+1<=N:=by
  have h1:=T.len;have h2:=T.few;have:=List.length_filter_le (fun q=>decide (q<t)) P;(first|lia|omega)
 generalize hK:cK N M X B*cG N B ^ (P.filter fun p=>decide (p<t)).length=K;have fr:=T.fr;have y:=T.lr;rw[hK] at fr y;have z:∀{a b:Int},a.natAbs<=B->b.natAbs<=B->Rep R (2*B*K) (mix a (f p) b l):=fun{a b} u hb=>((fr p hp).lin y u hb).mono (by rw[AQ];(first|lia|omega));have W:K<=2*B*K:=Nat.le_mul_of_pos_left _ ω;have A:∀q∈P,Rep R (2*B*K) (put f p (mix a (f p) b l) q):=fun q hq=>by
  by_cases e:q=p
  ·subst e;rw[zU];exact z a1 x
  ·rw[dG e];exact(fr q hq).mono W
 have h:∀n,n<=N->2*B*K+n*(2*B*B*(1+2*B*B) ^ n*(2*B*K))<=cG N B*K:=fun n v=>by
  unfold cG cW;have h1:(1+2*B*B) ^ n<=(1+2*B*B) ^ N:=AC ω v;generalize 2*B*B=Y at h1 ⊢;have h2:n*(Y*(1+Y) ^ n*(2*B*K))<=N*(Y*(1+Y) ^ N*(2*B*K)):=AR v (Ak _ (Al _ h1));refine Ae (Nat.add_le_add_left h2 _) (Nat.le_of_eq ?_);generalize Y*(1+Y) ^ N=Z;generalize 2*B=Q;rw[Nat.mul_add,Nat.mul_one,Nat.add_mul,<-AQ N Z,Nat.mul_comm Q (N*Z),AQ (N*Z)]
 have j:cG N B*K<=cE N M X B:=by
  refine Ae ?_ tf;rw[<-hK,Nat.mul_left_comm,<-Nat.pow_succ'];exact Al _ (AC H cnt)
 have two:2*B*K<=cG N B*K:=Ae (A7 _ _) (h 0 ω);refine⟨o,fun q hq=>(A q hq).mono (Ae two j),T2.piv,fun i=>?_,a1,x,c1,d1⟩;have hi:(P.take i).length<=N:=by rw[List.length_take];(first|lia|omega)
 obtain⟨F,_⟩:=nZ A (fun q hq r hr=>T2.fv q hq r hr) o.pos (P.take i) (fun q hq=>List.mem_of_mem_take hq) (z c1 d1) (L c1 d1);exact F.mono (Ae (h _ hi) j)
def TS.rep{t:Nat}(a:1<=B)(T:TS N M X B R P f l t):(∀p∈P,Rep R (cE N M X B) (f p))/\Rep R (cE N M X B) l:=
 ⟨fun p hp=>(T.fr p hp).mono (Ae (T.cnt a) tf),T.lr.mono (Ae (T.cnt a) tf)⟩
end
def TS.nz{N M X B Y t:Nat}{R:List Vc}{P:List Nat}{f:Nat->Vc}{l:Vc}(T:TS N M X B R P f l t)(hi:iC R)(hb:∀r∈R,∀u,(r u).natAbs<=Y):∃u,l u≠0:=by
 refine AD fun no=>?_;have z:∀u,l u=0:=fun u=>AD fun h=>no ⟨u,h⟩;have d:∀r∈R,Sp (P.map f) r:=fun r hr=>(T.gen r hr).trans fun s a=>by
  rcases List.mem_append.mp a with h|h
  ·exact Sp.mem h
  ·rw[List.mem_singleton.mp h];exact Sp.zero.eq z
 obtain⟨c,h1,⟨x,hx,b⟩,h2,_⟩:=cy (M:=Y+1) ω (fun v hv p _=>Nat.le_succ_of_le (hb v hv p)) (show P.length<R.length by have:=T.len;(first|lia|omega));exact b (ro hi T.ech T.srt d c h1 h2 x hx)
end Tb
end
section
namespace L2
open PySem PySem.Spec PyProof.Rows
def tG(hi:Int)(n:Nat):It:=⟨fun i _=>i<n,fun i H x H'=>H'=H/\x=.int (hi-i),fun i _=>n<=i⟩
def OK{P:Program}{w:World}{K:Ah}{tg:Expr}(it:Addr)(lo:Int)(n:Nat):Turn P w K tg (tG lo n) [it] it (fun i h=>IsRangeIter h it (lo+(i:Nat)*(-1)) ((n:Int)-(i:Nat)) (-1)) where
 mem:=by simp
 obj:=fun i h st b hb=>by
  have e:b=it:=by simpa using hb
  subst e;exact⟨_,st,fun v z=>by
   have u:Data.fields _=Data.cell v:=z;cases u⟩
 keep:=fun i h h' st k=>k it (by simp) _ st
 item:=by
  intro X c hw d hc i aa s σ H E I a st hg;subst c hw d;obtain⟨f,f1,f2,g,j,l⟩:=a it (by simp);have W:=Walks.range (prog:=X.prog) (w:=X.w) (I.ok.hd hc) it lo (-1) n;refine W.item i s _ _ hg st fun v h' tk hv p q=>?_;obtain⟨t,rfl⟩:=hv;have x:Inv X aa σ H {s with heap:=h',toks:=tk}:=I.turned (fun b o hb e=>q b o (by simpa using hb) e) f f1 g j l;refine⟨_,rfl,FF (s:={s with heap:=h',toks:=tk}) (n:="range_iterator") p rfl rfl ξ ⟨.int (lo-i),H,x,⟨t,?_⟩,⟨rfl,rfl⟩,p,fun b hb=>(a b hb).1⟩⟩;rw[show lo+(i:Int)*(-1)=lo-i from ω]
 done:=by
  intro X c hw d hc i aa s σ H E I a st hg;subst c hw d;obtain⟨f,f1,f2,g,j,l⟩:=a it (by simp);exact wpAny_pyNext_range_end (I.ok.hd hc) st (by have:n<=i:=hg;(first|lia|omega)) fun h' r=>⟨rfl,I.turned (t':=s.toks) (fun b o hb e=>r b o hb e) f f1 g j l⟩
 self:=fun _ _ _ _ _ st h=>wpAny_pyIter_rangeiter st h
section
variable{X:Cx}{tg:Expr}
def OL{aa:Ψ}{σ:St}{H:Hp}{s:Shared}{R:It->Hp->Prop}{E:Ω}{lo hi:Int}{t u v:Tok}{tk:Nat}(I:Inv X aa σ H s)(h1:-(2 ^ 62)<=lo)(h2:lo<2 ^ 62)(a:-(2 ^ 62)<=hi)(c:hi<2 ^ 62)(q:R (tG lo (lo-hi).toNat) H):wpAny (model X.prog X.w) X.A (pyIter (.ref s⁻¹)) (FE X aa σ tg R) E {s with heap:=s.heap.push {cls:=.type "range",data:=.fields #[.int lo t,.int hi u,.int (-1) v]},toks:=tk}:=by
 refine wpAny_pyIter_range (IsRange.new ..) (PySem.W.small_down h1 h2 a c) ?_;have I1:Inv X aa σ H {s with heap:=s.heap.push {cls:=.type "range",data:=.fields #[.int lo t,.int hi u,.int (-1) v]},toks:=tk}:=I.kept fun b o e=>Ai _ e;refine⟨(s.heap.push {cls:=.type "range",data:=.fields #[.int lo t,.int hi u,.int (-1) v]}).objs.size,[(s.heap.push {cls:=.type "range",data:=.fields #[.int lo t,.int hi u,.int (-1) v]}).objs.size],_,_,H,rfl,
  I1.kept (t':=tk) fun b o e=>Ai _ e,OK _ lo (lo-hi).toNat,?_,fun b hb=>?_,q⟩
 ·have e1:lo+((0:Nat):Int)*(-1)=lo:=by simp
  have e2:(((lo-hi).toNat:Nat):Int)-((0:Nat):Int)=Builtin.Range.rangeSize lo hi (-1):=by rw[PySem.W.rangeSize_downNat];(first|lia|omega)
  show IsRangeIter _ _ (lo+((0:Nat):Int)*(-1)) ((((lo-hi).toNat:Nat):Int)-((0:Nat):Int)) (-1);rw[e1,e2];exact AO _ rfl
 ·have e:b=(s.heap.push {cls:=.type "range",data:=.fields #[.int lo t,.int hi u,.int (-1) v]}).objs.size:=by simpa using hb
  subst e;exact I1.fpOk (Ad _) (I1.hok.fresh (Ad _))
def OM(ta:TA):TI:=fun σ H R=>ta σ H fun vs H1=>∃i j:Int,vs=[.int i,.int j,.int (-1)]/\(-(2 ^ 62)<=i/\i<2 ^ 62/\-(2 ^ 62)<=j/\j<2 ^ 62)/\R (tG i (i-j).toNat) H1
def J'{a b c:Expr}{ta:TA}{p pos:Pos}(hg:Gl X "range")(u:X.mg "range"=none)(v:PA X [a,b,c] ta)(w:starEach [a,b,c] X.env=[(false,eval a X.env),(false,eval b X.env),(false,eval c X.env)]:=by rfl)(f:starEach [b,c] X.env=[(false,eval b X.env),(false,eval c X.env)]:=by rfl):PI X tg (.Call (.Name "range" p) [a,b,c] [] pos) (OM ta):=by
 intro aa s σ H R I h;refine Call_ (kQ I hg u boot_range (PyProof.Rows.callWith_type1 (aR (v pos aa s σ H _ I h) fun us y ⟨vs,H1,x,r1,d⟩=>?_) (by rw[w,f]) (by rw[f];rfl)));obtain⟨i,j,e,⟨d,g,l,o⟩,q⟩:=d;subst e;cases r1 with
 |cons r rr=>
  cases rr with
  |cons r' rr=>
   cases rr with
   |cons r'' rr=>
    cases rr;obtain⟨t,rfl⟩:=r;obtain⟨t',rfl⟩:=r';obtain⟨z,rfl⟩:=r'';exact call_range_3 ξ (OL x d g l o q) (.inl (PyProof.noPylong_of_log2 δ))
end
def Ka{hi:Int}{n:Nat}{g:TG}{tb:TS}{D:Ends}{σ:St}{H:Hp}(b:Nat->St->Hp->Prop)(h:b 0 σ H)(j:∀i σ H,i<n->b i σ H->g (.int (hi-i)) σ H fun c H2=>tb {D with nx:=b (i+1),ct:=b (i+1),bk:=D.nx} c H2)(hd:∀σ H,b n σ H->D.nx σ H):∃W:Nat->Nat->St->Hp->Prop,(∃m,W 0 m σ H)/\∀i m σ H,W i m σ H->
   ((tG hi n).stop i H/\D.nx σ H)\/((tG hi n).go i H/\∃N:St->Hp->Prop,(∀ad H',N ad H'->∃d,d<m/\W (i+1) d ad H')/\∀x H',(tG hi n).yld i H x H'->g x σ H' fun c H2=>tb {D with nx:=N,ct:=N,bk:=D.nx} c H2):=by
 refine⟨fun i m σ H=>m=n-i/\i<=n/\b i σ H,⟨n,by simp,Ap _,h⟩,?_⟩;rintro i m σ H ⟨rfl,hi,p⟩
 by_cases a:i<n
 ·refine .inr ⟨a,b (i+1),fun ad H' f=>⟨n-(i+1),ω,rfl,a,f⟩,fun x H' y=>?_⟩
  obtain⟨e,y⟩:=y;subst e y;exact j i σ _ a p
 ·have e:i=n:=ω
  subst e;exact .inl ⟨Ad _,hd σ H p⟩
end L2
end
section
namespace K26
open PySem L2
abbrev Em:Stmt:=top 30
def Kb:A8 "len"=some (.builtin "len"):=δ
def Hn{R:List Tb.Vc}{ps:List Nat}{fr:Nat->List Int}{W CE N Y:Nat}{rn:List Int}(f:∀r∈R,∀u,(r u).natAbs<=Y)(a:R.length<=N)(j:∀p∈ps,Tb.Rep R CE (vF fr p))(b:∀p∈ps,0<vF fr p p)(e:∀p∈ps,(vF fr p p).natAbs<2 ^ 9000)(d:Wid W ps fr)(g:rn.length=W)(met:∀i,Tb.Rep R CE (Tb.aY (vF fr) (ps.take i) (vc rn)))(c:N*(CE*Y)<big):la fr W rn ps:=by
 refine⟨g,d.most,fun p hp=>⟨(d.row p hp).1,(d.row p hp).2,b p hp,e p hp⟩,fun i p hp x hx=>?_⟩;have h:=Am hp;refine oj (At GR ?_) ?_
 ·have r1:=met i
  rw[<-ry (fr:=fr) (W:=W) (ps:=ps.take i) (rn:=rn) g fun q hq=>(d.row q (List.mem_of_mem_take hq)).2] at r1;exact At (Ae (r1.le (u:=p) fun r hr=>f r hr p) (Ak _ a)) c
 ·obtain⟨u,_,rfl⟩:=Ee hx
  exact At (Ae ((j p h).le (u:=u) fun r hr=>f r hr u) (Ak _ a)) c
structure Kc(N M X B Y:Nat)(R:List Tb.Vc):Prop where
 hB:1<=B
 piv:B<2 ^ 9000
 lim:N*(Tb.cE N M X B*Y)<big
 hR:∀r∈R,∀u,(r u).natAbs<=Y
 few:N<64
 bd:Tb.Bd N M X B R
def Fnd.no{H:Hp}{a:Addr}{es:List (Nat×Addr)}{fr:Nat->List Int}(h:Fnd H a es fr){p:Nat}(hp:p∉es.map (·.1)):DGet H a (.int p) none:=by
 have:=DGet.k (k:=Sum.inl (p:Int)) h.at_;rw[Oh ?_] at this
 ·exact this
 ·intro f b z
  rw[AT] at b;obtain⟨e,c,rfl⟩:=List.mem_map.mp b;have d:(Sum.inl (e.1:Int):Key)=Sum.inl (p:Int):=z;have:(e.1:Int)=p:=by injection d
  exact hp (List.mem_map.mpr ⟨e,c,ω⟩)
def fF{l:List Int}{p:Nat}(h:p<l.length):(l.map V.int)[p]?=some (V.int (vc l p)):=by
 unfold vc;rw[Aj,Ac,Aa h];rfl
def Fra(a:Addr)(H H':Hp):Prop:=∀b o,b≠a->H b=some o->H' b=some o
def Fra.trans{a:Addr}{H H1 H2:Hp}(h:Fra a H H1)(h2:Fra a H1 H2):Fra a H H2:=fun b o hb e=>h2 b o hb (h b o hb e)
def Fra.of{a:Addr}{H H1:Hp}(h:Same H H1):Fra a H H1:=fun b o _ e=>h b o e
def gD(xs:List V)(n:Nat):ez xs (some (n:Int)) none=xs.drop n:=by
 unfold ez;rw[HT.IK,HT.IJ];rcases Nat.le_total n xs.length with h|h
 ·rw[Nat.min_eq_left h,Av (by simp)]
 ·rw[Nat.min_eq_right h,List.drop_eq_nil_of_le (Ad _),List.drop_eq_nil_of_le h,List.take_nil]
def iI(l:List Int)(q:Nat):List Int:=if 0<vc l q then l else l.map fun x=>-x
def ON{l:List Int}{q:Nat}:vc (iI l q)=Tb.up (vc l) q:=by
 unfold iI Tb.up;split
 ·rfl
 ·exact Om
def OO{l:List Int}{q:Nat}:(iI l q).length=l.length:=by unfold iI;split;rfl;simp
def Kd{q:Nat}:∀{P:List Nat},(Tb.ins q P).Perm (P++[q])
 |[]=>.refl _
 |p::P=>by
  unfold Tb.ins;split
  ·exact(List.perm_append_singleton q (p::P)).symm
  ·exact(Kd (P:=P)).cons p
def share{c:Bool}{A B:Prop}{C S:Addr->Hp->Prop}(h2:(∀u H,S u H->C u H)->¬c=true->B)(h1:(∀u H,S u H->C u H)->c=true->A)(fin:∀u H,S u H->C u H):if c=true then A else B:=by
 split
 ·exact h1 fin (by assumption)
 ·exact h2 fin (by assumption)
structure Bt(a d:Addr)(q W N M X B:Nat)(R:List Tb.Vc)(P:List Nat)(H0 H:Hp)(ln:List Int)(es:List (Nat×Addr))(fr:Nat->List Int)(t:Nat):Prop where
 fra:Fra a H0 H
 fnd:Fnd H a es fr
 pls:Pls es P
 wid:Wid W P fr
 at_:H d=some (.lst (ln.map V.int))
 len:ln.length=W
 ts:Tb.TS N M X B R P (vF fr) (vc ln) t
 tq:t<=q
 qW:q<W
 low:∀i,i<q->vc ln i=0
 nz:vc ln q≠0
def Ho{H:Hp}{a b:Addr}{es:List (Nat×Addr)}{fr:Nat->List Int}{xs:List V}(h:Fnd H a es fr)(hb:H b=some (.lst xs)):b≠a:=fun z=>by rw[z,h.at_] at hb;cases hb
section
variable{P:Program}{w:World}{K:Ah}{mg:Str->Option Value}{base:Heap}
def Ke:Sp:=fun vs H Q _=>∃(a r:Addr)(rn:List Int)(es:List (Nat×Addr))(fr:Nat->List Int)(P:List Nat)(N M X B Y W:Nat)(R:List Tb.Vc),vs=[.ref a,.ref r]/\H r=some (.lst (rn.map V.int))/\Fnd H a es fr/\Pls es P/\Wid W P fr/\rn.length=W/\
 Tb.FS N M X B R P (vF fr)/\R.length<N/\(∀p∈P,(vc rn p).natAbs<=M)/\Kc N M X B Y (R++[vc rn])/\
 ∀H' d b c,Fra a H H'->Fnd H' a d b->Pls d c->Wid W c b->Tb.FS N M X B (R++[vc rn]) c (vF b)->Q .non H'
def j8:zo ["found","row","left","place","top","pair","places","k"] ["found","row"] (zf Em):=⟨rfl,rfl,rfl,δ,rfl,δ,δ⟩
def OP{f fr ff fp fm:Addr}{fd ca kZ cL bQ:FuncData}(F:Fun K "take_in" "take_in" Em f fd)(bs:mg "sorted"=none)(bg:mg "range"=none)(bn:mg "len"=none)(Fr:Fun K "reduced" "reduced" jQ fr ca)(br:Binds K ca ["row","found","places"] [])(mr:mg "reduced"=some (.ref fr))(Gr:al P w K mg base aG 2 fr ca ["row","found","places"] Jz)(Ff:Fun K "first_place" "first_place" Ea ff kZ)(bf:Binds K kZ ["row"] [])(mf:mg "first_place"=some (.ref ff))(Gf:al P w K mg base aG 1 ff kZ ["row"] Jx)(Fp:Fun K "divisor_pair" "divisor_pair" xB fp cL)(bp:Binds K cL ["one","other"] [])(mp:mg "divisor_pair"=some (.ref fp))(Gp:al P w K mg base aG 1 fp cL ["one","other"] Jy)(Fm:Fun K "mix_of_two" "mix_of_two" xn fm bQ)(bm:Binds K bQ ["often","row","other_often","other"] [])(mm:mg "mix_of_two"=some (.ref fm))(Gm:al P w K mg base aG 1 fm bQ ["often","row","other_often","other"] Js):al P w K mg base aG 3 f fd ["found","row"] Ke:=by
 refine F.ok j8 (fun vs H Q E h=>?_) (fun ah A outer s H vs Q E hr h=>?_)
 ·obtain⟨a,r,rn,es,fr,PP,N,M,X,B,Y,W,R,rfl,_⟩:=h;rfl
 ·obtain⟨a,r,rn,es,fR,PP,N,M,X,B,Y,W,R,rfl,h1,hF,hP,hW,hn,FS,hlt,hM,L,k⟩:=h
  have hu:=DR hr;have hr1:Room 1 _:=hr.mono ξ;refine⟨_,zc (zp (i:=2) j8.nd rfl (Or.inl rfl) (ze Gr hr rfl mr Fr.kp br .nil ag (za (pv 1) (za (pv 0) (za (zn (xG rfl) rfl bs yf (za (pv 0) zb)) zb)))))
   (zc (zp (i:=3) j8.nd rfl (Or.inl rfl) (ze Gf hr1 rfl mf Ff.kp bf .nil ag (za (pv 2) zb)))
   (zc (uK A4 (Mj (M4 hu (pv 3) (pv 0)) (by with_unfolding_all rfl))
    (zc (zp (i:=4) j8.nd rfl (Or.inl rfl) (nq hu (pv 0) (pv 3) (fun _ _=>rfl)))
    (zc (zp (i:=5) j8.nd rfl (Or.inl rfl) (ze Gp hr1 rfl mp Fp.kp bp .nil ag (za (zx zt (pv 4) (pv 3) (fun _ _=>rfl)) (za (zx zt (pv 2) (pv 3) (fun _ _=>rfl)) zb))))
    (zc (F7 hu (pv 0) (pv 3) (ze Gm hr1 rfl mm Fm.kp bm .nil ag (za (zx zK (zx zK (pv 5) zd (fun _ _=>rfl)) zd (fun _ _=>rfl)) (za (pv 4) (za (zx zK (zx zK (pv 5) zd (fun _ _=>rfl)) zd (fun _ _=>rfl)) (za (pv 2) zb))))) rfl)
    (zc (zp (i:=2) j8.nd rfl (Or.inl rfl) (ze Gr hr rfl mr Fr.kp br .nil ag (za (ze Gm hr1 rfl mm Fm.kp bm .nil ag (za (zx zK (zx zK (pv 5) zd (fun _ _=>rfl)) zd (fun _ _=>rfl)) (za (pv 4) (za (zx zK (zx zK (pv 5) zd (fun _ _=>rfl)) zd (fun _ _=>rfl)) (za (pv 2) zb))))) (za (pv 0) (za (zn (xG rfl) rfl bs yf (za (pv 0) zb)) zb)))))
    (zh (zp (i:=3) j8.nd rfl (Or.inl rfl) (ze Gf hr1 rfl mf Ff.kp bf .nil ag (za (pv 2) zb)))))))))
   (zc (F7 hu (pv 0) (pv 3) (p4 (zy jA (zx zt (pv 2) (pv 3) (fun _ _=>rfl)) zd (ap _)) (pv 2)
    (zD ["found","row","left","place","top","pair","places","k"] ["number"] [none] (zM (pv 2)) (fun cl C s₀ H₀ ex=>zk (i:=0) (a9 ["number"]) rfl (Or.inl rfl)) (fun cl C s₀ H₀ ex=>zC) (fun cl C s₀ H₀ ex=>mJ mN (pv 0)) (te:=Iz (rU fun i=>.int (-i)) (ar 0)) (hfr:=bC δ))) rfl)
   (zc (zp (i:=6) j8.nd rfl (Or.inl rfl) (zn (xG rfl) rfl bs yf (za (pv 0) zb)))
   (zh (eX A4 rfl (J' rfl bg (za (zA eR (zn zm rfl bn Kb (za (pv 6) zb)) zd) (za (mJ mN zd) (za (mJ mN zd) zb)))) (zk (i:=7) j8.nd rfl (Or.inl rfl))
    (zh (F7 hu (pv 0) (zx zt (pv 6) (pv 7) (fun _ _=>rfl)) (ze Gr hr rfl mr Fr.kp br .nil ag (za (nq hu (pv 0) (zx zt (pv 6) (pv 7) (fun _ _=>rfl)) (fun _ _=>rfl)) (za (pv 0) (za (m7 nf (pv 6) (m6 (zA dP (pv 7) zd)) mU) zb)))) rfl)))))))),?_⟩
  have z64:es.length<64:=by have:=hP.len;have:=FS.len;have:=L.few;(first|lia|omega)
  have T0:=FS.take L.hB hlt hM;have eE:(R++[vc rn]).length<=N:=by rw[A6];exact hlt
  have pv:∀{x:Nat},x<=B->x<2 ^ 9000:=fun h=>At h L.piv;have oY:la fR W rn PP:=Hn L.hR eE (fun p hp=>(T0.rep L.hB).1 p hp) FS.ech.pos (fun p hp=>pv (FS.piv p hp)) hW hn (fun i=>FS.mid L.hB hlt hM i) L.lim;refine⟨_,rfl,_,rfl,_,rfl,a,eS es,rfl,hF.at_,(by simpa using z64),fun PL ms pm so dF=>?_⟩;rw[hP.ints pm so];have sP:=Same.new (o:=.lst (PP.map fun p:Nat=>V.int (p:Int))) dF;refine⟨r,a,PL,rn,es,fR,PP,W,rfl,sP _ _ h1,hF.same sP,af,fun p hp=>hP.pm.mem_iff.mp hp,oY,fun d H1 s1 hd=>?_⟩;have e0:vc (aK fR rn PP)=Tb.aY (vF fR) PP (vc rn):=ry hn fun p hp=>(hW.row p hp).2;rw[<-e0] at T0;have l0:(aK fR rn PP).length=W:=rq hn fun p hp=>(hW.row p hp).2;obtain⟨q,q1,q2,q3,q4,q5⟩:=JH (T0.nz L.bd.ind L.hR);refine⟨_,rfl,d,aK fR rn PP,q,rfl,hd,q2,q3,?_⟩;have B0:Bt a d q W N M X B (R++[vc rn]) PP H H1 (aK fR rn PP) es fR 0:=⟨.of (sP.trans s1),hF.same (sP.trans s1),hP,hW,hd,l0,T0,Ap _,ω,q4,q5⟩;refine⟨fun n σ H3=>∃(d:Addr)(q:Nat)(I:List Int)(es:List (Nat×Addr))(fr:Nat->List Int)(t:Nat)(v4 v5:Option V),n=W-q/\σ=[some (.ref a),some (.ref r),some (.ref d),some (.int q),v4,v5,none,none]/\Bt a d q W N M X B (R++[vc rn]) PP H H3 I es fr t,
   ⟨_,d,q,_,es,fR,0,none,none,rfl,rfl,B0⟩,?_⟩
  clear B0 q5 q4 q3 q2 q1 l0 e0 hd s1 sP dF so pm oY T0;clear d q H1 PL ms;rintro n σ H3 ⟨d,q,I,es,fr,t,v4,v5,rfl,rfl,T⟩
  by_cases hq:q∈PP
  ·obtain⟨c,hc,gc,aA⟩:=T.fnd.get (T.pls.pm.mem_iff.mp hq)
   refine⟨_,rfl,_,rfl,a,_,rfl,gc,_,rfl,?_⟩;have rW:=T.wid.row q hq;have qT:=T.len;have mW:=T.wid.most;have x0:0<vF fr q q:=T.ts.ech.pos q hq;obtain⟨B6,y1⟩:=T.ts.red q hq;have y0:0<vc I q:=by have:=T.nz;(first|lia|omega)
   have xb:(vF fr q q).natAbs<2 ^ 9000:=pv (T.ts.piv q hq);have yb:(vc I q).natAbs<2 ^ 9000:=At ω xb;have z64:es.length<64:=by have:=T.pls.len;have:=FS.len;have:=L.few;(first|lia|omega)
   have hqe:q∈es.map (·.1):=T.pls.pm.mem_iff.mp hq;refine aV ⟨fun ad H'=>∃n',n'<W-q/\∃(d:Addr)(q:Nat)(I:List Int)(es:List (Nat×Addr))(fr:Nat->List Int)(t:Nat)(v4 v5:Option V),n'=W-q/\ad=[some (.ref a),some (.ref r),some (.ref d),some (.int q),v4,v5,none,none]/\Bt a d q W N M X B (R++[vc rn]) PP H H' I es fr t,fun ad H' h=>h,?_⟩;refine⟨_,rfl,_,rfl,a,_,rfl,gc,?_⟩;refine⟨_,rfl,_,rfl,c,_,_,_,rfl,rfl,SqL.of aA,zj (fF ω),_,rfl,_,rfl,d,_,_,_,rfl,rfl,SqL.of T.at_,zj (fF ω),vF fr q q,vc I q,rfl,x0,y0,xb,yb,fun r0 p1 p2 H4 g a1 b1 c1 d1 s4 i7 c_ fG G=>?_⟩;have Mi:=T.ts.mid L.hB hq T.low T.nz T.tq G;obtain⟨T2,_⟩:=T.ts.next L.hB hq T.low T.nz T.tq G;have rp:=T.ts.rep L.hB;have ent:∀{l:List Int},Tb.Rep (R++[vc rn]) (Tb.cE N M X B) (vc l)->∀x∈l,x.natAbs<big:=fun h x hx=>by
    obtain⟨u,_,rfl⟩:=Ee hx;exact At (Ae (h.le (u:=u) fun r hr=>L.hR r hr u) (Ak _ eE)) L.lim
   have Z:∀{k:Int},k.natAbs<=B->∀{x:Int},x.natAbs<big->eH k x:=by
    intro k hk x hx;exact⟨9000,bt,pv hk,hx,by have:=lf;(first|lia|omega)⟩
   have er:=ent (rp.1 q hq);have el:=ent rp.2;refine⟨_,rfl,r0,_,_,_,rfl,rfl,SqT.of i7,zj (j:=0) rfl,p1,_,_,_,rfl,rfl,SqT.of c_,zj (j:=1) rfl,_,rfl,_,rfl,r0,_,_,_,rfl,rfl,SqT.of i7,zj (j:=0) rfl,p1,_,_,_,rfl,rfl,SqT.of c_,zj (j:=2) rfl,_,rfl,c,d,_,_,_,_,rfl,s4 _ _ aA,s4 _ _ T.at_,ω,fun x hx=>Z Mi.a1 (er x hx),fun x hx=>Z Mi.b1 (el x hx),fun e H5 s5 Cb he=>?_⟩;have F5:=T.fnd.same (s4.trans s5);obtain⟨H6,dp,F6,o6⟩:=F5.put (H2:=H5) (p:=q) he ω;refine⟨_,rfl,_,rfl,a,H6,rfl,dp,?_⟩;have nO:=(T.fnd.same s4).at_;have keep:∀b o,b≠a->H4 b=some o->H6 b=some o:=fun b o hb e=>by rw[o6 b hb];exact s5 _ _ e
   have nr0:r0≠a:=fun z=>by rw[z,nO] at i7;cases i7
   have np2:p2≠a:=fun z=>by have h:=fG;unfold Tr at h;rw[z,nO] at h;cases h
   have nc:c≠a:=Ho T.fnd aA;have nd:d≠a:=Ho T.fnd T.at_;have qu:=keep _ _ nr0 i7;have oH:=keep _ _ np2 fG;refine⟨_,rfl,r0,_,_,_,rfl,rfl,SqT.of qu,zj (j:=1) rfl,p2,_,_,_,rfl,rfl,SqT.of oH,zj (j:=1) rfl,_,rfl,_,rfl,r0,_,_,_,rfl,rfl,SqT.of qu,zj (j:=1) rfl,p2,_,_,_,rfl,rfl,SqT.of oH,zj (j:=2) rfl,_,rfl,c,d,_,_,_,_,rfl,keep _ _ nc (s4 _ _ aA),keep _ _ nd (s4 _ _ T.at_),ω,fun x hx=>Z Mi.c1 (er x hx),fun x hx=>Z Mi.d1 (el x hx),fun m H7 s7 gA hm=>?_⟩;have eG:Pls (ci es q e) PP:=⟨by rw[Ef,if_pos hqe];exact T.pls.pm,T.pls.so⟩;have kf:(ci es q e).length<64:=by have:=eG.len;have:=T.pls.len;(first|lia|omega)
   refine⟨_,rfl,_,rfl,a,eS (ci es q e),rfl,(F6.same s7).at_,(by simpa using kf),fun PL ms pm so dF=>?_⟩;rw[eG.ints pm so];have sP:=Same.new (o:=.lst (PP.map fun p:Nat=>V.int (p:Int))) dF;have W2:Wid W PP (bR fr q (ba a1 (fr q) b1 I)):=T.wid.put (by unfold ba;rw[AE];(first|lia|omega));have lm:(ba c1 (fr q) d1 I).length=W:=by unfold ba;rw[AE];(first|lia|omega)
   have ef:vF (bR fr q (ba a1 (fr q) b1 I))=Tb.put (vF fr) q (Tb.mix a1 (vF fr q) b1 (vc I)):=by rw[GQ,JG ω];rfl
   have em:vc (ba c1 (fr q) d1 I)=Tb.mix c1 (vF fr q) d1 (vc I):=by rw[JG ω];rfl
   rw[<-ef,<-em] at Mi T2;have sY:la (bR fr q (ba a1 (fr q) b1 I)) W (ba c1 (fr q) d1 I) PP:=Hn L.hR eE Mi.fr Mi.ech.pos (fun p hp=>pv (Mi.piv p hp)) W2 lm Mi.met L.lim;refine⟨m,a,PL,_,ci es q e,bR fr q (ba a1 (fr q) b1 I),PP,W,rfl,sP _ _ hm,(F6.same s7).same sP,af,fun p hp=>eG.pm.mem_iff.mp hp,sY,fun d2 H9 s9 gG=>?_⟩;rw[<-ry (W:=W) lm fun p hp=>(W2.row p hp).2] at T2;obtain⟨q',q1,q2,q3,q4,q5⟩:=JH (T2.nz L.bd.ind L.hR);have l9:(aK (bR fr q (ba a1 (fr q) b1 I)) (ba c1 (fr q) d1 I) PP).length=W:=rq lm fun p hp=>(W2.row p hp).2;have qq:q+1<=q':=Nat.le_of_not_lt fun h=>q5 (T2.low q' h);refine⟨_,rfl,d2,_,q',rfl,gG,q2,q3,?_⟩;refine⟨W-q',ω,d2,q',_,ci es q e,bR fr q (ba a1 (fr q) b1 I),q+1,_,_,rfl,rfl,⟨?_,((F6.same s7).same sP).same s9,eG,W2,gG,l9,T2,qq,ω,q4,q5⟩⟩;exact T.fra.trans ((Fra.of s4).trans ((show Fra a H4 H6 from keep).trans (.of ((s7.trans sP).trans s9))))
  ·refine⟨_,rfl,_,rfl,a,_,rfl,T.fnd.no (fun h=>hq (T.pls.pm.mem_iff.mpr h)),_,rfl,?_⟩
   have qT:=T.len;have mW:=T.wid.most;refine aP ⟨_,rfl,_,rfl,d,_,_,_,rfl,rfl,SqL.of T.at_,zj (fF (by have:=T.qW;(first|lia|omega))),_,_,rfl,rfl,_,rfl,?_⟩;apply share (S:=fun u H4=>Same H3 H4/\H4 u=some (.lst ((iI I q).map V.int)))
   ·intro fin hc
    refine⟨_,rfl,d,rfl,⟨_,SqL.of T.at_⟩,fun D hD=>zB (jB (xs:=I.map V.int) (fun j σ ys H4=>∃v,σ=[v]/\Same H3 H4/\H4 D=some (.lst ys)/\ys=((I.take j).map fun x=>-x).map V.int) ⟨none,rfl,Same.new hD,af,rfl⟩ ?_ ?_ ?_)⟩
    ·rintro j σ ys H4 ⟨v,rfl,sm,_⟩
     exact SqL.of (sm _ _ T.at_)
    ·rintro j σ ys H4 x hx hj hy ⟨v,rfl,sm,aT,rfl⟩
     obtain⟨y,gy,rfl⟩:=fh hx;refine cQ ⟨_,rfl,_,rfl,bK (by rw[Ab];exact zE ω) hj hy aT ⟨_,rfl,sm.then hD,af,?_⟩⟩;rw[Bp gy,Aw,Aw];rfl
    ·rintro σ ys H4 ⟨v,rfl,sm,aT,rfl⟩
     refine fin D H4 ⟨sm,?_⟩;rw[aT,Ab,Av (Ad _)];unfold iI;rw[if_neg fun h=>hc (decide_eq_true h)]
   ·intro fin hc
    refine⟨_,rfl,fin d H3 ⟨Same.refl _,?_⟩⟩;unfold iI;rw[if_pos (of_decide_eq_true hc)];exact T.at_
   ·rintro u H4 ⟨s4,kR⟩
    have S0:=T.ts.full L.hB hq T.low T.nz;have hqe:q∉es.map (·.1):=fun h=>hq (T.pls.pm.mem_iff.mpr h);have F4:=T.fnd.same s4;have Dc:=T.pls.len;have zP:=FS.len;have zN:=L.few;obtain⟨H5,dp,F5,o5⟩:=F4.put (H2:=H4) (p:=q) kR ω;refine⟨_,rfl,_,rfl,a,H5,rfl,dp,?_⟩;have lu:(iI I q).length=W:=by rw[OO];exact T.len
    have ef:vF (bR fr q (iI I q))=Tb.put (vF fr) q (Tb.up (vc I) q):=by rw[GQ,ON]
    rw[<-ef] at S0;have dq:Pls (ci es q u) (Tb.ins q PP):=⟨by rw[Ef,if_neg hqe];exact Kd.trans (T.pls.pm.append_right [q]),S0.srt.imp fun h=>Nat.le_of_lt h⟩;have fD:Wid W (Tb.ins q PP) (bR fr q (iI I q)):=by
     refine⟨mW,fun p hp=>?_⟩;unfold bR;rcases Tb.mem_ins.mp hp with rfl|h
     ·rw[if_pos rfl];exact⟨T.qW,lu⟩
     ·have:p≠q:=fun z=>hq (z▸h)
      rw[if_neg this];exact T.wid.row p h
    have fra5:Fra a H H5:=T.fra.trans ((Fra.of s4).trans fun b o hb e=>by rw[o5 b hb];exact e);have lQ:(Tb.ins q PP).length=PP.length+1:=Tb.GN;clear o5 dp F4 kR s4 ef;generalize bR fr q (iI I q)=f0 at S0 F5 fD;generalize ci es q u=es0 at F5 dq;generalize Tb.ins q PP=QQ at S0 dq fD lQ;refine⟨_,rfl,a,eS es0,rfl,F5.at_,(by have:=dq.len;simp;(first|lia|omega)),fun PL ms pm so dF=>?_⟩;rw[dq.ints pm so];have sP:=Same.new (o:=.lst (QQ.map fun p:Nat=>V.int (p:Int))) dF;refine⟨_,rfl,PL,_,rfl,.inl (SqL.of af),_,_,rfl,rfl,_,rfl,_,rfl,_,_,rfl,⟨by rw[Ab];(first|lia|omega),by rw[Ab];(first|lia|omega),ω,ω⟩,?_⟩;have iS:(((QQ.map fun p:Nat=>V.int (p:Int)).length:Nat):Int)=(QQ.length:Int):=by rw[Ab]
    refine Ka (fun i σ H6=>∃(es:List (Nat×Addr))(fr:Nat->List Int)(v7:Option V),σ=[some (.ref a),some (.ref r),some (.ref d),some (.int q),v4,v5,some (.ref PL),v7]/\Fra a H H6/\Fnd H6 a es fr/\Pls es QQ/\Wid W QQ fr/\H6 PL=some (.lst (QQ.map fun p:Nat=>V.int (p:Int)))/\vF fr=Tb.a0 (vF f0) (QQ.drop (QQ.length-i)))
     ⟨es0,f0,none,rfl,fra5.trans (.of sP),F5.same sP,dq,fD,af,by rw[Nat.sub_zero,List.drop_length];rfl⟩ ?_ ?_
    ·rintro i σ H6 hi ⟨jD,f6,v7,rfl,fS,F6,cr,bO,cT,hv⟩
     have hiQ:i<QQ.length:=ω
     obtain⟨O,jb⟩:∃O,O=QQ.length-1-i:=⟨_,rfl⟩;have jm:O<QQ.length:=ω
     rw[show(((QQ.map fun p:Nat=>V.int (p:Int)).length:Nat):Int)-1-((i:Nat):Int)=((O:Nat):Int) by rw[iS];(first|lia|omega)];have gk:(QQ.map fun p:Nat=>V.int (p:Int))[O]?=some (V.int ((QQ[O]:Nat):Int)):=by rw[Aj,Aa jm];rfl
     have eQ:QQ=QQ.take O++QQ[O]::QQ.drop (O+1):=by rw[<-List.drop_eq_getElem_cons jm,List.take_append_drop]
     have ed:QQ.drop (QQ.length-i)=QQ.drop (O+1):=by rw[show QQ.length-i=O+1 from ω]
     have ed2:QQ.drop (QQ.length-(i+1))=QQ[O]::QQ.drop (O+1):=by rw[show QQ.length-(i+1)=O from ω];exact List.drop_eq_getElem_cons jm
     rw[ed] at hv;rw[ed2];have gE:QQ[O]∈QQ:=Ao jm;have sub:∀p∈QQ.drop (O+1),p∈QQ:=fun p hp=>List.mem_of_mem_drop hp;generalize im:QQ.drop (O+1)=ps at eQ hv ed ed2 sub ⊢;generalize QQ[O]=p at gk eQ ed2 gE ⊢;have qR:p∉ps:=fun h=>by
      have s:=S0.srt;rw[eQ,List.pairwise_append] at s;exact Nat.lt_irrefl p ((List.pairwise_cons.mp s.2.1).1 p h)
     obtain⟨e1,bd,rp⟩:=S0.tail L.hB L.bd (pre:=QQ.take O++[p]) (ps:=ps) (by rw[List.append_assoc];exact eQ);have cc:Tb.cC N X B<=Tb.cE N M X B:=Ae (by unfold Tb.cK;(first|lia|omega)) (Ae (Tb.Hm L.hB) Tb.tf);have nK:vc (f6 p)=vF f0 p:=by
      have:vF f6 p=vF f0 p:=by rw[hv,Tb.JC qR]
      exact this
     have ok6:la f6 W (f6 p) ps:=by
      refine Hn (CE:=Tb.cE N M X B) L.hR eE (fun U J=>?_) (fun U J=>?_) (fun U J=>?_) (bO.sub sub) (bO.row p gE).2 (fun j=>?_) L.lim
      ·rw[hv];exact(rp U J).mono cc
      ·rw[hv];exact e1.pos U J
      ·rw[hv];exact pv (bd U J U (sub U J))
      ·rw[hv,nK];exact S0.met L.hB L.bd eQ j
     obtain⟨c,hc,gc,aA⟩:=F6.get (cr.pm.mem_iff.mp gE);refine⟨_,rfl,_,rfl,_,rfl,PL,_,_,_,rfl,rfl,SqL.of cT,zj gk,a,_,rfl,gc,_,rfl,_,rfl,_,rfl,_,_,rfl,rfl,_,rfl,PL,_,rfl,SqL.of cT,fun SL tF=>?_⟩;rw[show((O:Nat):Int)+1=((O+1:Nat):Int) from ω,gD,<-List.map_drop,im];have sS:=Same.new (o:=.lst (ps.map fun p:Nat=>V.int (p:Int))) tF;refine⟨c,a,SL,f6 p,jD,f6,ps,W,rfl,sS _ _ aA,F6.same sS,af,fun U J=>cr.pm.mem_iff.mp (sub U J),ok6,fun D H8 s8 mX=>?_⟩;have z6:=cr.len;obtain⟨H9,dp,F9,o9⟩:=((F6.same sS).same s8).put (H2:=H8) (p:=p) mX ω;have yk:PL≠a:=Ho F6 cT;refine⟨_,rfl,_,rfl,_,rfl,PL,_,_,_,rfl,rfl,SqL.of ((sS.trans s8) _ _ cT),zj gk,a,H9,rfl,dp,ci jD p D,bR f6 p (aK f6 (f6 p) ps),_,rfl,?_,F9,⟨?_,cr.so⟩,?_,?_,?_⟩
     ·exact fS.trans ((Fra.of (sS.trans s8)).trans fun b o hb e=>by rw[o9 b hb];exact e)
     ·rw[Ef,if_pos (cr.pm.mem_iff.mp gE)];exact cr.pm
     ·exact bO.put (rq (bO.row p gE).2 fun U J=>(bO.row U (sub U J)).2)
     ·rw[o9 PL yk];exact(sS.trans s8) _ _ cT
     ·rw[GQ,ry (bO.row p gE).2 (fun U J=>(bO.row U (sub U J)).2),hv,nK];rfl
    ·rintro σ H6 ⟨jD,f6,v7,rfl,fS,F6,cr,bO,cT,hv⟩
     rw[show QQ.length-((((QQ.map fun p:Nat=>V.int (p:Int)).length:Nat):Int)-1 - -1).toNat=0 by rw[iS];(first|lia|omega),List.drop_zero] at hv;refine k H6 jD f6 QQ fS F6 cr bO ?_;rw[hv];exact S0.done L.hB L.bd
end
abbrev j9:Stmt:=top 29
section
variable{P:Program}{w:World}{K:Ah}{mg:Str->Option Value}{base:Heap}
structure Kf(N M X B Y W:Nat)(tb:Ξ):Prop where
 most:W<=1000
 few:tb.length<=N
 len:∀r∈tb,r.length=W
 lim:∀i,i<tb.length->Kc N M X B Y ((tb.take (i+1)).map vc)
 row:∀i r,tb[i]?=some r->∀Q f,Tb.FS N M X B ((tb.take i).map vc) Q f->∀p∈Q,(vc r p).natAbs<=M
def Kg:Sp:=fun vs H Q _=>∃(L:Addr)(rs:List Addr)(tb:Ξ)(N M X B Y W:Nat),vs=[.ref L]/\H L=some (.lst (rs.map V.ref))/\Rws H rs tb/\Kf N M X B Y W tb/\
 ∀a H' es fr P,Same H H'->H a=none->Fnd H' a es fr->Pls es P->Wid W P fr->Tb.FS N M X B (tb.map vc) P (vF fr)->Q (.ref a) H'
def Hr:zo ["rows","found","row"] ["rows"] (zf j9):=⟨rfl,rfl,rfl,δ,rfl,δ,δ⟩
def Fra.same{a:Addr}{H H1 H2:Hp}{o:HO}(h:Fra a H1 H2)(e:H1=upd H a o)(c:H a=none):Same H H2:=fun b v hb=>by
 have n:b≠a:=fun z=>by rw[z,c] at hb;cases hb
 exact h b v n (by rw[e,am n];exact hb)
def OQ{f q:Addr}{fd r:FuncData}(F:Fun K "echelon_of" "echelon_of" j9 f fd)(Ft:Fun K "take_in" "take_in" Em q r)(bt:Binds K r ["found","row"] [])(mt:mg "take_in"=some (.ref q))(Gt:al P w K mg base aG 3 q r ["found","row"] Ke):al P w K mg base aG 4 f fd ["rows"] Kg:=by
 refine F.ok Hr (fun vs H Q E h=>?_) (fun ah A outer s H vs Q E hr h=>?_)
 ·obtain⟨L,rs,tb,N,M,X,B,Y,W,rfl,_⟩:=h;rfl
 ·obtain⟨L,rs,tb,N,M,X,B,Y,W,rfl,v,y,ok,k⟩:=h
  refine⟨_,zc (zp (i:=1) Hr.nd rfl (Or.inl rfl) M7)
   (zc (eX A4 rfl (zM (pv 0)) (zk (i:=2) Hr.nd rfl (Or.inl rfl))
    (zh (kT (ze Gt hr rfl mt Ft.kp bt .nil ag (za (pv 1) (za (pv 2) zb))))))
   (zh (zq (pv 1)))),?_⟩
  refine fun a d=>⟨_,rfl,L,rfl,⟨_,SqL.of (Same.new d _ _ v)⟩,my (K:=K) (a:=L) (xs:=rs.map V.ref) (fun i σ H2=>∃(j:Option V)(es:List (Nat×Addr))(fr:Nat->List Int)(c:List Nat),σ=[some (.ref L),some (.ref a),j]/\Fra a (upd H a (.dK [])) H2/\Fnd H2 a es fr/\Pls es c/\Wid W c fr/\Tb.FS N M X B ((tb.take i).map vc) c (vF fr))
   ⟨none,[],fun _=>[],[],rfl,fun _ _ _ e=>e,⟨af,List.nodup_nil,fun e C=>nomatch C⟩,⟨.refl _,.nil⟩,⟨ok.most,fun p hp=>nomatch hp⟩,Tb.FS.start⟩ (fun i σ H2 _ ⟨_,_,_,_,_,b,_⟩=>SqL.of ((b.same rfl d) _ _ v)) ?_ ?_⟩
  ·rintro i x σ H2 hx ⟨j,es,fr,c,rfl,b,u,pls,l,FS⟩
   obtain⟨o,T,rfl⟩:=ja hx;obtain⟨rn,g,U⟩:=y.get T;have hi:i<tb.length:=(List.getElem?_eq_some_iff.mp g).1;have z:=ok.lim i hi;rw[Bp g,Aw] at z;have Z:=ok.few;refine⟨_,rfl,_,rfl,a,o,rn,es,fr,c,N,M,X,B,Y,W,_,rfl,(b.same rfl d) _ _ U,u,pls,l,ok.len rn (Am g),FS,by rw[Ab,List.length_take];(first|lia|omega),ok.row i rn g c (vF fr) FS,z,fun H3 D G P3 I F3 J O S=>?_⟩;refine⟨_,D,G,P3,rfl,b.trans I,F3,J,O,?_⟩;rw[Bp g,Aw];exact S
  ·rintro σ H2 ⟨j,es,fr,c,rfl,b,u,pls,l,FS⟩
   have bG:=y.len;rw[Ab,bG,Av (Ad _)] at FS;exact⟨_,rfl,k a H2 es fr c (b.same rfl d) d u pls l FS⟩
end
end K26
end
section
namespace L2
open PySem PySem.Spec PyProof.Rows
def OR{K:Ah}{c d:Addr}{xs ys:List V}{g:TG}{tb:TS}{D:Ends}{σ:St}{H:Hp}(a:Nat->St->Hp->Prop)(u:a 0 σ H)(v:∀i σ H,a i σ H->SqL K H c xs/\SqL K H d ys)(w:∀i x y p σ H,xs[i]?=some x->ys[i]?=some y->H p=none->a i σ H->g (.ref p) σ (upd H p (.tup [x,y])) fun f H2=>tb {D with nx:=a (i+1),ct:=a (i+1),bk:=D.nx} f H2)(hd:∀σ H,a (min xs.length ys.length) σ H->D.nx σ H):∃W:Nat->Nat->St->Hp->Prop,(∃m,W 0 m σ H)/\∀i m σ H,W i m σ H->
   ((d0 K c d).stop i H/\D.nx σ H)\/((d0 K c d).go i H/\∃N:St->Hp->Prop,(∀ad H',N ad H'->∃l,l<m/\W (i+1) l ad H')/\∀x H',(d0 K c d).yld i H x H'->g x σ H' fun f H2=>tb {D with nx:=N,ct:=N,bk:=D.nx} f H2):=by
 refine⟨fun i m σ H=>m=min xs.length ys.length-i/\i<=min xs.length ys.length/\a i σ H,⟨_,rfl,Ap _,u⟩,?_⟩;rintro i m σ H ⟨rfl,hi,p⟩;obtain⟨h,j⟩:=v i σ H p
 by_cases b:i<min xs.length ys.length
 ·refine .inr ⟨⟨xs,ys,h,j,b⟩,a (i+1),fun ad H' o=>⟨_,ω,rfl,b,o⟩,fun x H' y=>?_⟩
  obtain⟨pp,x,q,rfl,hp,rfl,r,s⟩:=y;exact w i x q pp σ H (r xs h) (s ys j) hp p
 ·have e:i=min xs.length ys.length:=ω
  subst e;exact .inl ⟨⟨xs,ys,h,j,rfl⟩,hd σ H p⟩
end L2
namespace K26
open PySem L2
abbrev j':Stmt:=top 36
def cj(l:List Int)(x:Int×List Int):List Int:=dz l (-x.1) x.2
def gH(w:Nat)(ns:List Int)(tb:Ξ):List Int:=(ns.zip tb).foldl cj (Ar w 0)
def Kh{l:List Int}{x:Int×List Int}{w:Nat}(h:l.length=w)(h2:x.2.length=w):(cj l x).length=w:=by unfold cj dz;rw[AE];(first|lia|omega)
def OS{l row:List Int}(h:l.length=row.length):cj l (0,row)=l:=GL h
def Hs{w:Nat}:∀{zs:List (Int×List Int)}{l:List Int},l.length=w->(∀z∈zs,z.2.length=w)->(zs.foldl cj l).length=w
 |[],_,h,_=>h
 |z::zs,l,h,h2=>Hs (zs:=zs) (Kh h (h2 z (AI ..))) fun y hy=>h2 y (AM _ hy)
section
variable{P:Program}{w:World}{K:Ah}{mg:Str->Option Value}{base:Heap}
def Ht:Sp:=fun vs H Q _=>∃(a L:Addr)(ns:List Int)(rs:List Addr)(tb:Ξ),vs=[.ref a,.ref L]/\H a=some (.lst (ns.map V.int))/\H L=some (.lst (rs.map V.ref))/\Rws H rs tb/\wid tb<=1000/\(∀r∈tb,r.length=wid tb)/\
 (∀z∈ns.zip tb,∀x∈z.2,eH (-z.1) x)/\nJ H Q (gH (wid tb) ns tb)
def yL:zo ["numbers","rows","told","often","row"] ["numbers","rows"] (zf j'):=⟨rfl,rfl,rfl,δ,rfl,δ,δ⟩
def OT{f v C:Addr}{fd G I:FuncData}(F:Fun K "mix_of" "mix_of" j' f fd)(bz:mg "zip"=none)(Fw:Fun K "width_of" "width_of" k5 v G)(bw:Binds K G ["table"] [])(mw:mg "width_of"=some (.ref v))(Gw:al P w K mg base aG 1 v G ["table"] (nD K))(Fl:Fun K "less" "less" k8 C I)(bl:Binds K I ["row","often","other"] [])(ml:mg "less"=some (.ref C))(Gl:al P w K mg base aG 1 C I ["row","often","other"] xq):al P w K mg base aG 2 f fd ["numbers","rows"] Ht:=by
 refine F.ok yL (fun vs H Q E h=>?_) (fun ah A outer s H vs Q E hr h=>?_)
 ·obtain⟨a,L,ns,rs,tb,rfl,_⟩:=h;rfl
 ·obtain⟨a,L,ns,rs,tb,rfl,M,c,g,hw,N,hm,k⟩:=h
  refine⟨_,zc (zp (i:=2) yL.nd rfl (Or.inl rfl) (zA FW (iz (za zd zb)) (ze Gw hr rfl mw Fw.kp bw .nil ag (za (pv 1) zb))))
   (zc (eX A4 rfl (k7 rfl bz jK (za (pv 0) (za (pv 1) zb))) (gX rfl (zH (zk (i:=3) yL.nd rfl (Or.inl rfl)) (zH (zk (i:=4) yL.nd rfl (Or.inl rfl)) gW)))
    (zh (cF (zy gf (pv 3) zd (ap _))
     (zh (zp (i:=2) yL.nd rfl (Or.inl rfl) (ze Gl hr rfl ml Fl.kp bl .nil ag (za (pv 2) (za (mJ mN (pv 3)) (za (pv 4) zb)))))) zR)))
   (zh (zq (pv 2)))),?_⟩
  refine⟨ξ,fun Z U=>?_⟩;have b:=Same.new (o:=.lst [.int 0]) U;refine⟨_,rfl,L,rs,tb,rfl,SqL.of (b _ _ c),g.same b,Z,_,_,rfl,rfl,af,ω,ω,(by rw[sizeLine_eq];simp;(first|lia|omega)),fun T J=>?_⟩;have sT:=Same.new (o:=.lst (Ar ((wid tb:Nat):Int).toNat [V.int 0]).flatten) J;have r:=b.trans sT;have dS:H T=none:=b.free J;have eT:(Ar ((wid tb:Nat):Int).toNat [V.int 0]).flatten=(Ar (wid tb) (0:Int)).map V.int:=by
   rw[Int.toNat_natCast,List.map_replicate];generalize wid tb=n
   induction n with
   |zero=>rfl
   |succ n ih=>rw[List.replicate_succ,List.flatten_cons,ih,List.replicate_succ];rfl
  have bG:=g.len;refine⟨_,rfl,_,rfl,a,L,rfl,⟨_,SqL.of (r _ _ M)⟩,⟨_,SqL.of (r _ _ c)⟩,OR (K:=K) (xs:=ns.map V.int) (ys:=rs.map V.ref) (fun i σ H2=>∃(d:Addr)(j l:Option V),σ=[some (.ref a),some (.ref L),some (.ref d),j,l]/\Same H H2/\H d=none/\H2 d=some (.lst ((((ns.zip tb).take i).foldl cj (Ar (wid tb) 0)).map V.int)))
   ⟨T,none,none,rfl,r,dS,by rw[af,eT];rfl⟩ (fun i σ H2 ⟨_,_,_,_,sm,_⟩=>⟨SqL.of (sm _ _ M),SqL.of (sm _ _ c)⟩) ?_ ?_⟩
  ·rintro i x y p σ H2 hx hy hp ⟨d,j,l,rfl,sm,q,hd⟩
   obtain⟨n,gn,rfl⟩:=fh hx;obtain⟨o,eo,rfl⟩:=ja hy;obtain⟨row,O,ho⟩:=g.get eo;have u:(ns.zip tb)[i]?=some (n,row):=by rw[List.getElem?_zip_eq_some];exact⟨gn,O⟩
   have S:∀z∈ns.zip tb,z.2.length=wid tb:=fun z hz=>N z.2 (List.of_mem_zip hz).2;have ll:(((ns.zip tb).take i).foldl cj (Ar (wid tb) 0)).length=wid tb:=Hs (by simp) fun z hz=>S z (List.mem_of_mem_take hz);have sp:=Same.new (o:=.tup [V.int n,V.ref o]) hp;have e2:((ns.zip tb).take (i+1)).foldl cj (Ar (wid tb) 0)=cj (((ns.zip tb).take i).foldl cj (Ar (wid tb) 0)) (n,row):=by rw[Bp u,List.foldl_append];rfl
   refine⟨p,_,rfl,SqT.of af,rfl,_,_,rfl,_,_,rfl,rfl,_,rfl,rfl,_,rfl,?_⟩
   by_cases z:n=0
   ·rw[show(!decide (V.int n=V.int 0))=false by rw[z];rfl]
    refine aP ⟨d,_,_,rfl,sm.trans sp,q,?_⟩;rw[e2,z,OS (by rw[ll];exact(S _ (Am u)).symm)];have h:=sp _ _ hd;rw[z] at h;exact h
   ·rw[show(!decide (V.int n=V.int 0))=true by rw[decide_eq_false (fun e=>z (by injection e))];rfl]
    refine aV ⟨_,rfl,_,rfl,_,rfl,_,rfl,d,o,_,row,-n,rfl,sp _ _ hd,sp _ _ (sm _ _ ho),by rw[N row (Am O)];exact hw,fun x hx=>hm _ (Am u) x hx,fun D H4 W X Y=>?_⟩;refine⟨D,_,_,rfl,(sm.trans sp).trans W,(sm.trans sp).free X,?_⟩;rw[e2];exact Y
  ·rintro σ H2 ⟨d,j,l,rfl,sm,q,hd⟩
   refine⟨_,rfl,k d H2 sm q ?_⟩;rw[hd,Av (by rw[List.length_zip,Ab,Ab,bG];exact Ad _)]
   rfl
end
end K26
end
section
namespace K26
open PySem L2
abbrev yQ:Stmt:=top 20
def b0(ns:List Int)(k w:Nat):List Int:=if k<ns.length then(Ar w (0:Int)).set k (ns.getD k 0) else Ar w 0
def OU{w:Nat}:(Ar ((w:Nat):Int).toNat [V.int 0]).flatten=(Ar w (0:Int)).map V.int:=by
 rw[Int.toNat_natCast,List.map_replicate]
 induction w with
 |zero=>rfl
 |succ n ih=>rw[List.replicate_succ,List.flatten_cons,ih,List.replicate_succ];rfl
section
variable{P:Program}{w:World}{K:Ah}{mg:Str->Option Value}{base:Heap}
def yW:Sp:=fun vs H Q _=>∃(a:Addr)(ns:List Int)(b c:Nat),vs=[.ref a,.int b,.int c]/\H a=some (.lst (ns.map V.int))/\c<=1000/\(b<ns.length->b<c)/\nJ H Q (b0 ns b c)
def Ki:zo ["numbers","k","width","row"] ["numbers","k","width"] (zf yQ):=⟨rfl,rfl,rfl,δ,rfl,δ,δ⟩
def OV{f:Addr}{fd:FuncData}(F:Fun K "slope_row" "slope_row" yQ f fd)(x:mg "len"=none):al P w K mg base aG 1 f fd ["numbers","k","width"] yW:=by
 refine F.ok Ki (fun vs H Q E h=>?_) (fun y A outer s H vs Q E hr h=>?_)
 ·obtain⟨a,ns,b,j,rfl,_⟩:=h;rfl
 ·obtain⟨a,ns,b,j,rfl,l,hw,hk,k⟩:=h
  refine⟨_,zc (zp (i:=3) Ki.nd rfl (Or.inl rfl) (zA FW (iz (za zd zb)) (pv 2)))
   (zc (cF (zy DK (pv 1) (zn zm rfl x Kb (za (pv 0) zb)) (ap _))
    (zh (iv (zx zt (pv 0) (pv 1) (fun _ _=>rfl)) (ig (pv 3) (pv 1) set_list))) zR)
   (zh (zq (pv 3)))),?_⟩
  refine⟨ξ,fun Z q=>?_⟩;have p:=Same.new (o:=.lst [.int 0]) q;refine⟨_,rfl,Z,_,_,rfl,rfl,af,ω,ω,(by rw[sizeLine_eq];simp;(first|lia|omega)),fun T g=>?_⟩;rw[OU];have r:=Same.new (o:=.lst ((Ar j (0:Int)).map V.int)) g;have d:=p.trans r;have e:H T=none:=p.free g;refine⟨_,rfl,_,rfl,a,_,rfl,.inl (SqL.of (d _ _ l)),_,_,rfl,rfl,_,rfl,?_⟩;rw[Ab]
  by_cases c:b<ns.length
  ·rw[decide_eq_true (show((b:Nat):Int)<((ns.length:Nat):Int) from ω)]
   have u:=hk c;have v:(ns.map V.int)[b]?=some (V.int (ns.getD b 0)):=fF c;refine aV ⟨_,rfl,_,rfl,a,_,_,_,rfl,rfl,SqL.of (d _ _ l),zj v,_,rfl,_,rfl,T,_,_,b,rfl,rfl,af,?_,?_⟩
   ·unfold hO
    rw[Ab,List.length_replicate];simp[u]
   ·refine⟨_,rfl,k T _ (d.then e) e ?_⟩
    unfold b0;rw[if_pos c,af,List.map_set]
  ·rw[decide_eq_false (show ¬((b:Nat):Int)<((ns.length:Nat):Int) from ω)]
   refine aP ⟨_,rfl,k T _ d e ?_⟩;unfold b0;rw[if_neg c,af]
end
end K26
end
section
namespace K26
open PySem L2
abbrev y2:Stmt:=top 19
abbrev Eo:Stmt:=top 25
def slpT(ns:List Int)(n w:Nat):Ξ:=(Af n).map fun k=>b0 ns k w
section
variable{P:Program}{w:World}{K:Ah}{mg:Str->Option Value}{base:Heap}
def Kj:Sp:=fun vs H Q _=>∃(a:Addr)(ns:List Int)(n b:Nat),vs=[.ref a,.int n,.int b]/\H a=some (.lst (ns.map V.int))/\n<=1000/\b<=1000/\(∀k,k<n->k<ns.length->k<b)/\wx H Q (slpT ns n b)
def OW:zo ["numbers","size","width"] ["numbers","size","width"] (zf y2):=⟨rfl,rfl,rfl,δ,rfl,δ,δ⟩
def OX{f fs:Addr}{fd l:FuncData}(F:Fun K "on_slope" "on_slope" y2 f fd)(I:mg "range"=none)(Fs:Fun K "slope_row" "slope_row" yQ fs l)(bs:Binds K l ["numbers","k","width"] [])(ms:mg "slope_row"=some (.ref fs))(M:al P w K mg base aG 1 fs l ["numbers","k","width"] yW):al P w K mg base aG 2 f fd ["numbers","size","width"] Kj:=by
 refine F.ok OW (fun vs H Q E h=>?_) (fun N A outer s H vs Q E hr h=>?_)
 ·obtain⟨a,ns,n,e,rfl,_⟩:=h;rfl
 ·obtain⟨a,ns,n,e,rfl,G,q,hw,hk,k⟩:=h
  refine⟨_,zh (zq (zD ["numbers","size","width"] ["k","numbers","width"] [none,some 0,some 2] (iw rfl I (za (pv 1) zb)) (fun o C s₀ H₀ ex=>zk (i:=0) (a9 ["k","numbers","width"]) rfl (Or.inl rfl)) (fun o C s₀ H₀ ex=>zC)
   (fun o C s₀ H₀ ex=>ze M hr rfl ms Fs.kp bs .nil ag (za (pv 1) (za (pv 0) (za (pv 2) zb)))) (te:=gp yW [] E0 (b_ (ar 1) (b_ (ar 0) (b_ (ar 2) bE)))) (hfr:=bD (zf y2) δ))),?_⟩
  refine⟨_,rfl,_,rfl,ω,ω,fun D p=>?_⟩;refine GB (n:=n) (g:=fun k=>b0 ns k e) (fun j H' R r sm u=>⟨_,rfl,_,rfl,_,rfl,a,ns,j,e,rfl,sm _ _ G,hw,hk j r,fun d J v hd x=>u d J v hd x⟩) ω p fun L ds y b c z q=>k D L ds y p b c z q
def unT(n:Nat):Ξ:=slpT (Ar n 1) n n
def Kk:Sp:=fun vs H Q _=>∃n:Nat,vs=[.int n]/\n<=1000/\wx H Q (unT n)
def OY:zo ["size"] ["size"] (zf Eo):=⟨rfl,rfl,rfl,δ,rfl,δ,δ⟩
def OZ{w:Nat}:(Ar ((w:Nat):Int).toNat [V.int 1]).flatten=(Ar w (1:Int)).map V.int:=by
 rw[Int.toNat_natCast,List.map_replicate]
 induction w with
 |zero=>rfl
 |succ n ih=>rw[List.replicate_succ,List.flatten_cons,ih,List.replicate_succ];rfl
def O0{f fs:Addr}{fd c:FuncData}(F:Fun K "unit" "unit" Eo f fd)(Fs:Fun K "on_slope" "on_slope" y2 fs c)(bs:Binds K c ["numbers","size","width"] [])(ms:mg "on_slope"=some (.ref fs))(u:al P w K mg base aG 2 fs c ["numbers","size","width"] Kj):al P w K mg base aG 3 f fd ["size"] Kk:=by
 refine F.ok OY (fun vs H Q E h=>?_) (fun v A outer s H vs Q E hr h=>?_)
 ·obtain⟨n,rfl,_⟩:=h;rfl
 ·obtain⟨n,rfl,e,k⟩:=h
  refine⟨_,zh (zq (ze u hr rfl ms Fs.kp bs .nil ag (za (zA FW (iz (za zd zb)) (pv 0)) (za (pv 0) (za (pv 0) zb))))),?_⟩;refine⟨ξ,fun Z g=>?_⟩;have q:=Same.new (o:=.lst [.int 1]) g;refine⟨_,rfl,Z,_,_,rfl,rfl,af,ω,ω,(by rw[sizeLine_eq];simp;(first|lia|omega)),fun T i=>?_⟩;rw[OZ];have r:=Same.new (o:=.lst ((Ar n (1:Int)).map V.int)) i;have b:=q.trans r;refine⟨_,rfl,_,rfl,T,_,n,n,rfl,af,e,e,fun k hk _=>hk,fun D H' ds sm j l hr p a=>?_⟩;exact k D H' ds (b.trans sm) (b.free j) l hr p fun d hd=>⟨b.free (a d hd).1,(a d hd).2⟩
end
end K26
end
section
namespace K26
open PySem L2
def dot(r c:List Int):Int:=(AA (·*·) r c).sum
def MulOk(r c:List Int):Prop:=∀x∈r,∀y∈c,eH x y
def Kl:A8 "sum"=some (.builtin "sum"):=δ
section
variable{P:Program}{w:World}{K:Ah}{mg:Str->Option Value}{base:Heap}
def Hu:Sp:=fun vs H Q _=>∃r c rn a,vs=[.ref r,.ref c]/\H r=some (.lst (rn.map V.int))/\H c=some (.lst (a.map V.int))/\a.length<=1000/\MulOk rn a/\∀H',Same H H'->Q (.int (dot rn a)) H'
def O1:zo ["row","column"] ["row","column"] (zf D3):=⟨rfl,rfl,rfl,δ,rfl,δ,δ⟩
def O2{f:Addr}{fd:FuncData}(F:Fun K "sum_by" "sum_by" D3 f fd)(v:mg "zip"=none)(bs:mg "sum"=none):al P w K mg base aG 1 f fd ["row","column"] Hu:=by
 refine F.ok O1 (fun vs H Q E h=>?_) (fun y A outer s H vs Q E hr h=>?_)
 ·obtain⟨r,c,rn,l,rfl,_⟩:=h;rfl
 ·obtain⟨r,c,rn,l,rfl,h1,h2,n2,sm,k⟩:=h
  refine⟨_,zh (zq (zn (Jh rfl) rfl bs Kl (za (zD ["row","column"] ["number","other"] [none,none] (k7 rfl v jK (za (pv 0) (za (pv 1) zb)))
   (fun e C s₀ H₀ ex=>gX rfl (zH (zk (i:=0) (a9 ["number","other"]) rfl (Or.inl rfl)) (zH (zk (i:=1) (a9 ["number","other"]) rfl (Or.inl rfl)) gW))) (fun e C s₀ H₀ ex=>zC)
   (fun e C s₀ H₀ ex=>zA qO (pv 0) (pv 1)) (te:=cn (rI eH fun i j=>.int (i*j)) (ar 0) (ar 1)) (hfr:=bC δ) (g:=b6 K 2 (cf (zT 0) (cf (zT 1) b3)))) zb))),?_⟩
  refine⟨_,rfl,_,rfl,r,c,rfl,⟨_,SqL.of h1⟩,⟨_,SqL.of h2⟩,fun D o=>?_⟩;refine zB (xo (f:=fun a b=>a*b) (fun a b H' R p hb q=>⟨_,rfl,_,rfl,_,_,rfl,rfl,sm a p b hb,q⟩) h1 h2 n2 o fun x u d=>⟨D,AA (·*·) rn l,rfl,SqL.of d,k x u⟩)
def Km(K:Ah):Sp:=fun vs H Q _=>∃r C rn b a,vs=[.ref r,.ref C]/\H r=some (.lst (rn.map V.int))/\H C=some (.lst (b.map V.ref))/\Rws H b a/\a.length<=1000/\(∀c∈a,c.length<=1000/\MulOk rn c)/\nJ H Q (a.map (dot rn))
def O3:zo ["row","columns"] ["row","columns"] (zf wt):=⟨rfl,rfl,rfl,δ,rfl,δ,δ⟩
def O4{f fs:Addr}{fd b:FuncData}(F:Fun K "row_by" "row_by" wt f fd)(Fs:Fun K "sum_by" "sum_by" D3 fs b)(bs:Binds K b ["row","column"] [])(ms:mg "sum_by"=some (.ref fs))(L:al P w K mg base aG 1 fs b ["row","column"] Hu):al P w K mg base aG 2 f fd ["row","columns"] (Km K):=by
 refine F.ok O3 (fun vs H Q E h=>?_) (fun M A outer s H vs Q E hr h=>?_)
 ·obtain⟨r,C,rn,x,y,rfl,_⟩:=h;rfl
 ·obtain⟨r,C,rn,x,y,rfl,z,j,G,n2,l,k⟩:=h
  refine⟨_,zh (zq (zD ["row","columns"] ["column","row"] [none,some 0] (zM (pv 1)) (fun c C s₀ H₀ ex=>zk (i:=0) (a9 ["column","row"]) rfl (Or.inl rfl)) (fun c C s₀ H₀ ex=>zC)
   (fun c C s₀ H₀ ex=>ze L hr rfl ms Fs.kp bs .nil ag (za (pv 1) (za (pv 0) zb))) (te:=gp Hu [] E0 (b_ (ar 1) (b_ (ar 0) bE))) (hfr:=bD (zf wt) δ))),?_⟩
  refine⟨_,rfl,C,rfl,⟨_,SqL.of j⟩,fun D d=>?_⟩;refine zB (D0 (mkV:=V.int) (g:=dot rn) (fun o os H' R sm p e q=>⟨_,rfl,_,rfl,r,o,rn,os,rfl,sm _ _ z,p,(l os e).1,(l os e).2,fun I u=>q I u⟩) (SqL.of j) G ω d fun J v a=>k D J v d a)
end
end K26
end
section
namespace K26
open PySem L2
section
variable{P:Program}{w:World}{K:Ah}{mg:Str->Option Value}{base:Heap}
def O5{H2:Hp}{w L2 D:Addr}{rs ss:List Addr}{tb ub:Ξ}{Q:VK}{g:List Int->List Int->List Int}{te:TE}{c:List (Option V)}(I:∀(o u:Addr)(os us:List Int)(H:Hp)(R:VK),Same H2 H->H o=some (.lst (os.map V.int))->H u=some (.lst (us.map V.int))->os∈tb->us∈ub->(∀d H',Same H H'->H d=none->H' d=some (.lst ((g os us).map V.int))->R (.ref d) H')->te (some (.ref o)::some (.ref u)::c) H R)(h1:H2 w=some (.lst (rs.map V.ref)))(h2:H2 L2=some (.lst (ss.map V.ref)))(r:Rws H2 rs tb)(s:Rws H2 ss ub)(hz:ub.length<=1000)(v:H2 D=none)(k:∀a ds,Same H2 a->a D=some (.lst (ds.map V.ref))->Rws a ds (AA g tb ub)->ds.Nodup->(∀d∈ds,H2 d=none/\d≠D)->Q (.ref D) a):cP (d0 K w L2) (b6 K 2 (cf (zT 0) (cf (zT 1) b3))) bJ te (none::none::c) H2 D Q:=by
 have F:=r.len;have G:=s.len;refine GE (K:=K) (xs:=rs.map V.ref) (ys:=ss.map V.ref) (fun i σ zs a=>∃(h j:Option V)(ds:List Addr),σ=h::j::c/\Same H2 a/\a D=some (.lst zs)/\zs=ds.map V.ref/\Rws a ds ((AA g tb ub).take i)/\ds.Nodup/\∀d∈ds,H2 d=none/\d≠D)
  ⟨none,none,[],rfl,Same.new v,af,rfl,.nil,.nil,fun d hd=>nomatch hd⟩ (fun i σ zs a ⟨_,_,_,_,sm,_⟩=>⟨SqL.of (sm _ _ h1),SqL.of (sm _ _ h2)⟩) ?_ ?_
 ·rintro i σ zs a y J L e1 e2 hi z ⟨h,j,ds,rfl,e,b,rfl,hr,l,p⟩ q
  obtain⟨o,g1,rfl⟩:=ja e1;obtain⟨u,g2,rfl⟩:=ja e2;obtain⟨os,f1,A⟩:=r.get g1;obtain⟨us,f2,C⟩:=s.get g2;have sp:=Same.new (o:=.tup [V.ref o,V.ref u]) q;refine⟨y,_,rfl,SqT.of af,rfl,_,_,rfl,_,_,rfl,rfl,gz ?_⟩;refine I o u os us _ _ (e.trans sp) (sp _ _ (e _ _ A)) (sp _ _ (e _ _ C)) (Am f1) (Am f2) fun d M f hd x=>?_;obtain⟨r1,r2,E⟩:=GA (D:=D) (o:=.lst (ds.map V.ref++[.ref d])) (e.trans sp) (hr.same sp) l p f hd (by rw[sp _ _ b];simp) x;refine bK (Ae (Nat.min_le_right _ _) (by rw[Ab];exact zE ω)) hi z ((sp.trans f) _ _ b) ⟨_,_,ds++[d],rfl,((e.trans sp).trans f).then v,af,by simp,?_,r2,E⟩;have e3:(AA g tb ub)[i]?=some (g os us):=by rw[List.getElem?_zipWith,f1,f2]
  rw[Bp e3];exact r1
 ·rintro σ zs a ⟨h,j,ds,rfl,e,b,rfl,hr,l,p⟩
  rw[Av (by simp[F,G])] at hr;exact k a ds e b hr l p
end
end K26
end
section
namespace K26
open PySem L2
abbrev Ep:Stmt:=top 18
def fI(ns:List Int)(m:Int):Bool:=!decide (m<(ns.length:Int))&&(ns.all fun x=>decide (0<x))&&(AA (fun a b=>decide (b%a=0)) ns (ns.drop 1)).all id
section
variable{P:Program}{w:World}{K:Ah}{mg:Str->Option Value}{base:Heap}
def O6{H2:Hp}{L D:Addr}{ns:List Int}{Q:VK}{f:Int->Bool}{te:TE}{c:List (Option V)}(h:∀(x:Int)(H:Hp)(R:VK),x∈ns->R (.bl (f x)) H->te (some (.int x)::c) H R)(i:H2 L=some (.lst (ns.map V.int)))(hz:ns.length<=1000)(e:H2 D=none)(k:∀b,Same H2 b->b D=some (.lst ((ns.map f).map V.bl))->Q (.ref D) b):cP (eU K L) (zT 0) bJ te (none::c) H2 D Q:=by
 refine jB (xs:=ns.map V.int) (fun j σ ys b=>∃(v:Option V),σ=v::c/\Same H2 b/\b D=some (.lst ys)/\ys=((ns.take j).map f).map V.bl) ⟨none,rfl,Same.new e,af,rfl⟩ ?_ ?_ ?_
 ·rintro j σ ys b ⟨v,rfl,sm,a,rfl⟩
  exact SqL.of (sm _ _ i)
 ·rintro j σ ys b x hx g hy ⟨v,rfl,sm,a,rfl⟩
  obtain⟨y,d,rfl⟩:=fh hx;refine cQ (h y b _ (Am d) (bK (by rw[Ab];exact zE ω) g hy a ⟨_,rfl,sm.then e,af,?_⟩));rw[Bp d,Aw,Aw];rfl
 ·rintro σ ys b ⟨v,rfl,sm,a,rfl⟩
  rw[Ab,Av (Ad _)] at a;exact k b sm a
def O7{H2:Hp}{r o D:Addr}{rn on:List Int}{f:Int->Int->Bool}{te:TE}{c:List (Option V)}{Q:VK}(v:∀(a b:Int)(H:Hp)(R:VK),a∈rn->b∈on->R (.bl (f a b)) H->te (some (.int a)::some (.int b)::c) H R)(h1:H2 r=some (.lst (rn.map V.int)))(h2:H2 o=some (.lst (on.map V.int)))(n2:on.length<=1000)(s:H2 D=none)(k:∀d,Same H2 d->d D=some (.lst ((AA f rn on).map V.bl))->Q (.ref D) d):cP (d0 K r o) (b6 K 2 (cf (zT 0) (cf (zT 1) b3))) bJ te (none::none::c) H2 D Q:=by
 refine GE (K:=K) (xs:=rn.map V.int) (ys:=on.map V.int) (fun i σ zs d=>∃j l,σ=j::l::c/\Same H2 d/\d D=some (.lst zs)/\zs=((AA f rn on).take i).map V.bl)
  ⟨none,none,rfl,Same.new s,af,rfl⟩ (fun i σ zs d ⟨_,_,_,sm,_⟩=>⟨SqL.of (sm _ _ h1),SqL.of (sm _ _ h2)⟩) ?_ ?_
 ·rintro i σ zs d u w x e1 e2 hi hz ⟨j,l,rfl,h,e,rfl⟩ g
  obtain⟨p,g1,rfl⟩:=fh e1;obtain⟨q,g2,rfl⟩:=fh e2;refine⟨u,_,rfl,SqT.of af,rfl,_,_,rfl,_,_,rfl,rfl,gz ?_⟩;refine v p q _ _ (Am g1) (Am g2) (bK (Ae (Nat.min_le_right _ _) (by rw[Ab];exact zE ω)) hi hz (by rw[am (zl e g)];exact e) ⟨_,_,rfl,?_,af,?_⟩)
  ·exact(h.then (h.free g)).then s
  ·have e3:(AA f rn on)[i]?=some (f p q):=by rw[List.getElem?_zipWith,g1,g2]
   rw[Bp e3,Aw];rfl
 ·rintro σ zs d ⟨j,l,rfl,h,e,rfl⟩
  refine k d h ?_;rw[e,Av (by simp)]
end
end K26
end
section
namespace K26
open PySem L2
section
variable{P:Program}{w:World}{K:Ah}{mg:Str->Option Value}{base:Heap}
def Kn:Sp:=fun vs H Q _=>∃(L:Addr)(ns:List Int)(m:Int),vs=[.ref L,.int m]/\H L=some (.lst (ns.map V.int))/\ns.length<=1000/\∀H',Same H H'->Q (.bl (fI ns m)) H'
def O8:zo ["steps","most"] ["steps","most"] (zf Ep):=⟨rfl,rfl,rfl,δ,rfl,δ,δ⟩
def O9{f:Addr}{fd:FuncData}(F:Fun K "are_steps" "are_steps" Ep f fd)(bl:mg "len"=none)(v:mg "all"=none)(N:mg "zip"=none):al P w K mg base aG 1 f fd ["steps","most"] Kn:=by
 refine F.ok O8 (fun vs H Q E h=>?_) (fun W A outer s H vs Q E hr h=>?_)
 ·obtain⟨L,ns,m,rfl,_⟩:=h;rfl
 ·obtain⟨L,ns,m,rfl,j,hz,k⟩:=h
  refine⟨_,zc (cF (PW.pt (DE (zy jA (zn zm rfl bl dt (za (pv 0) zb)) (pv 1) (ap _))
    (DD (uz (pV (zn (qh rfl) rfl v qG (za (zD ["steps","most"] ["step"] [none] (zM (pv 0)) (fun l C s₀ H₀ ex=>zk (i:=0) (a9 ["step"]) rfl (Or.inl rfl)) (fun l C s₀ H₀ ex=>zC)
     (fun l C s₀ H₀ ex=>mP jA (pv 0) zd (ap _)) (hfr:=bC δ)) zb))))))) (zh (zq jx)) zR)
   (zh (zq (zn (qh rfl) rfl v qG (za (zD ["steps","most"] ["low","high"] [none,none] (k7 rfl N jK (za (pv 0) (za (m7 nf (pv 0) (m6 zd) mU) zb)))
    (fun l C s₀ H₀ ex=>gX rfl (zH (zk (i:=0) (a9 ["low","high"]) rfl (Or.inl rfl)) (zH (zk (i:=1) (a9 ["low","high"]) rfl (Or.inl rfl)) gW))) (fun l C s₀ H₀ ex=>zC)
    (fun l C s₀ H₀ ex=>mP hH (zA jz (pv 1) (pv 0)) zd (ap _)) (hfr:=bC δ) (g:=b6 K 2 (cf (zT 0) (cf (zT 1) b3)))) zb)))),?_⟩
  refine⟨_,rfl,L,_,rfl,.inl (SqL.of j),_,rfl,_,_,rfl,rfl,_,rfl,?_⟩;rw[Ab]
  by_cases c:m<(ns.length:Int)
  ·rw[decide_eq_true c]
   refine aV (aV ?_);have:fI ns m=false:=by unfold fI;rw[decide_eq_true c];rfl
   rw[this] at k;exact k H (Same.refl H)
  rw[decide_eq_false c];refine aP ⟨_,rfl,L,rfl,⟨_,SqL.of j⟩,fun D y=>zB (O6 (f:=fun x=>decide (0<x)) (fun x H' R _ q=>⟨_,rfl,_,_,rfl,rfl,q⟩) j hz y fun O p r=>⟨D,_,rfl,SqL.of r,_,rfl,?_⟩)⟩
  by_cases d:(ns.map fun x=>decide (0<x)).all id=true
  ·rw[d]
   refine aP ⟨_,rfl,_,rfl,_,rfl,L,_,rfl,SqL.of (p _ _ j),fun S z=>?_⟩;rw[show(some (1:Int))=some ((1:Nat):Int) from rfl,gD,<-List.map_drop];have u:=Same.new (o:=.lst ((ns.drop 1).map V.int)) z;have pos:∀x∈ns,0<x:=fun x hx=>by
    rw[List.all_map,Be] at d;exact of_decide_eq_true (d x hx)
   refine⟨L,S,rfl,⟨_,SqL.of ((p.trans u) _ _ j)⟩,⟨_,SqL.of af⟩,fun T G=>zB (O7 (f:=fun a b=>decide (b%a=0)) (fun a b H' R I hb q=>?_) ((p.trans u) _ _ j) af (by rw[List.length_drop];(first|lia|omega)) G fun U J M=>⟨T,_,rfl,SqL.of M,?_⟩)⟩
   ·refine⟨_,rfl,_,rfl,_,_,rfl,rfl,pos a I,rfl,?_⟩
    rw[show decide (V.int (b%a)=V.int 0)=decide (b%a=0) from by rw[Bool.eq_iff_iff];simp];exact q
   ·have e:fI ns m=(AA (fun a b=>decide (b%a=0)) ns (ns.drop 1)).all id:=by
     unfold fI;rw[List.all_map] at d;rw[decide_eq_false c,show(ns.all fun x=>decide (0<x))=true from d];rfl
    rw[e] at k;exact k U ((p.trans u).trans J)
  ·rw[Bool.eq_false_iff.mpr d]
   refine aV ?_;have:fI ns m=false:=by
    unfold fI;rw[List.all_map] at d;rw[show(ns.all fun x=>decide (0<x))=false from Bool.eq_false_iff.mpr d,Bool.and_false];rfl
   rw[this] at k;exact k O p
end
end K26
end
section
namespace K26
open PySem L2
abbrev ek:Stmt:=top 28
def O_(xs:List V)(n:Nat):ez xs none (some (n:Int))=xs.take n:=by
 unfold ez;rw[HT.IJ,HT.IK,List.drop_zero,Nat.sub_zero];rcases Nat.le_total n xs.length with h|h
 ·rw[Nat.min_eq_left h]
 ·rw[Nat.min_eq_right h,Av (Ad _),Av h]
structure NT(H H':Hp)(a:Addr)(ds:List Addr)(tb:Ξ):Prop where
 at_:H' a=some (.lst (ds.map V.ref))
 rows:Rws H' ds tb
 nd:ds.Nodup
 na:H a=none
 nw:∀d∈ds,H d=none/\d≠a
def NT.same{H H' H2:Hp}{a:Addr}{ds:List Addr}{tb:Ξ}(h:NT H H' a ds tb)(s:Same H' H2):NT H H2 a ds tb:=⟨s _ _ h.at_,h.rows.same s,h.nd,h.na,h.nw⟩
def NT.old{H0 H H':Hp}{a:Addr}{ds:List Addr}{tb:Ξ}(h:NT H H' a ds tb)(s:Same H0 H):NT H0 H' a ds tb:=⟨h.at_,h.rows,h.nd,s.free h.na,fun d hd=>⟨s.free (h.nw d hd).1,(h.nw d hd).2⟩⟩
def cat(tb ub:Ξ):Ξ:=AA (·++·) tb ub
def jp(n:Nat)(sh a:Ξ):Ξ:=(Af n).map fun j=>gH n (colAt sh j) a
structure Ko(N M X B Y m n:Nat)(tb ub bc:Ξ):Prop where
 l1:tb.length=n
 l2:ub.length=n
 l3:bc.length=n
 w1:∀r∈tb,r.length=m
 w3:∀r∈bc,r.length=n
 n64:n<=40
 m64:m<=500
 w2:∀r∈ub,r.length=n
 ech:Kf N M X B Y (m+n) (cat tb ub)
 shr:∀P fr,Tb.FS N M X B ((cat tb ub).map vc) P (vF fr)->Wid (m+n) P fr->∀r∈cat tb ub,la fr (m+n) r P
 mul:∀P fr,Tb.FS N M X B ((cat tb ub).map vc) P (vF fr)->Wid (m+n) P fr->∀r∈cat tb ub,∀x∈shrL fr r P,∀row∈bc,∀y∈row,eH (-x) y
section
variable{P:Program}{w:World}{K:Ah}{mg:Str->Option Value}{base:Heap}
def Kq:Sp:=fun vs H Q _=>∃(t a b c:Addr)(f g h:List Addr)(tb ub d:Ξ)(N M X B Y m n:Nat),vs=[.ref t,.int m]/\H t=some (.tup [.ref a,.ref b,.ref c])/\H a=some (.lst (f.map V.ref))/\H b=some (.lst (g.map V.ref))/\H c=some (.lst (h.map V.ref))/\Rws H f tb/\Rws H g ub/\Rws H h d/\Ko N M X B Y m n tb ub d/\
 ∀P fr t' a' b' e i j l H',Tb.FS N M X B ((cat tb ub).map vc) P (vF fr)->Wid (m+n) P fr->Same H H'->H' t'=some (.tup [.ref a',.ref b',.ref e])->NT H H' a' i (P.map fun p=>(fr p).take m)->NT H H' b' j (P.map fun p=>(fr p).drop m)->NT H H' e l (jp n ((cat tb ub).map fun r=>shrL fr r P) d)->Q (.ref t') H'
def y3:zo ["side","width","rows","found","fresh","shares"] ["side","width"] (zf ek):=⟨rfl,rfl,rfl,δ,rfl,δ,δ⟩
def O'{H2:Hp}{L D a:Addr}{es:List (Nat×Addr)}{fr:Nat->List Int}{ps:List Nat}{Q:VK}{te:TE}{c:List (Option V)}(l:Fnd H2 a es fr)(E:∀p∈ps,p∈es.map (·.1))(F:∀(p:Nat)(d:Addr)(H:Hp)(R:VK),Same H2 H->DGet H a (.int p) (some (.ref d))->R (.ref d) H->te (some (.int p)::c) H R)(G:H2 L=some (.lst (ps.map fun p:Nat=>V.int (p:Int))))(hz:ps.length<=1000)(g:H2 D=none)(k:∀b ds,Same H2 b->b D=some (.lst (ds.map V.ref))->Rws b ds (ps.map fr)->Q (.ref D) b):cP (eU K L) (zT 0) bJ te (none::c) H2 D Q:=by
 refine jB (xs:=ps.map fun p:Nat=>V.int (p:Int)) (fun j σ ys b=>∃(v:Option V)(ds:List Addr),σ=v::c/\Same H2 b/\b D=some (.lst ys)/\ys=ds.map V.ref/\Rws b ds ((ps.take j).map fr)) ⟨none,[],rfl,Same.new g,af,rfl,.nil⟩ ?_ ?_ ?_
 ·rintro j σ ys b ⟨v,ds,rfl,sm,f,rfl,_⟩
  exact SqL.of (sm _ _ G)
 ·rintro j σ ys b x hx s hy ⟨v,ds,rfl,sm,f,rfl,hr⟩
  obtain⟨p,hp,rfl⟩:∃p,ps[j]?=some p/\x=V.int (p:Int):=by
   rw[Aj] at hx;cases e:ps[j]? with
   |none=>rw[e] at hx;cases hx
   |some p=>rw[e] at hx;cases hx;exact⟨p,rfl,rfl⟩
  obtain⟨d,hd,u,w⟩:=(l.same sm).get (E p (Am hp));refine cQ (F p d b _ sm u (bK (by rw[Ab];exact zE ω) s hy f ⟨_,ds++[d],rfl,sm.then g,af,by simp,?_⟩));rw[Bp hp,Aw];have A:∀e∈ds++[d],e≠D:=fun e r z=>by
   subst z;rcases List.mem_append.mp r with h|h
   ·obtain⟨i,hi⟩:=List.mem_iff_getElem?.mp h
    obtain⟨ns,e1,e2⟩:=hr.get hi;rw[f] at e2;have e2:=AY e2;injection e2 with e2
    have C:ds.length≠0:=fun z=>by rw[List.length_eq_zero_iff.mp z] at h;cases h
    cases ds with
    |nil=>cases h
    |cons q ds=>cases ns with
     |nil=>cases e2
     |cons n ns=>rw[Bb,Bb] at e2;cases e2
   ·obtain rfl:e=d:=by simpa using h
    obtain⟨_,y⟩:∃o,H2 e=some o:=⟨_,l.rows _ hd⟩;rw[y] at g;cases g
  exact((hr.snoc w).upd A)
 ·rintro σ ys b ⟨v,ds,rfl,sm,f,rfl,hr⟩
  rw[Ab,Av (Ad _)] at hr;exact k b ds sm f hr
def Pa{f fe fc fm fs:Addr}{fd mE aO bQ aw:FuncData}(F:Fun K "straightened" "straightened" ek f fd)(bz:mg "zip"=none)(bs:mg "sorted"=none)(Fe:Fun K "echelon_of" "echelon_of" j9 fe mE)(be:Binds K mE ["rows"] [])(me:mg "echelon_of"=some (.ref fe))(Ge:al P w K mg base aG 4 fe mE ["rows"] Kg)(Fc:Fun K "columns_of" "columns_of" nH fc aO)(bc:Binds K aO ["table"] [])(mc:mg "columns_of"=some (.ref fc))(Gc:al P w K mg base aG 3 fc aO ["table"] (wR K))(Fm:Fun K "mix_of" "mix_of" j' fm bQ)(bm:Binds K bQ ["numbers","rows"] [])(mm:mg "mix_of"=some (.ref fm))(Gm:al P w K mg base aG 2 fm bQ ["numbers","rows"] Ht)(Fs:Fun K "shares_of" "shares_of" jU fs aw)(bh:Binds K aw ["row","found"] [])(ms:mg "shares_of"=some (.ref fs))(Gs:al P w K mg base aG 2 fs aw ["row","found"] GM):al P w K mg base aG 5 f fd ["side","width"] Kq:=by
 refine F.ok y3 (fun vs H Q E h=>?_) (fun ah A outer s H vs Q E hr h=>?_)
 ·obtain⟨t,a,b,c,da,db,dc,tb,ub,bb,N,M,X,B,Y,m,n,rfl,_⟩:=h;rfl
 ·obtain⟨t,a,b,c,da,db,dc,tb,ub,bb,N,M,X,B,Y,m,n,rfl,ht,ha,hb,hc,ra,rb,rc,ok,k⟩:=h
  have hu:=DR hr;have hr3:Room 3 _:=hr.mono ξ;have dj:Room 2 _:=hr.mono ξ;refine⟨_,zc (i' (i:=2) y3.nd rfl (Or.inl rfl) ["side","width","rows","found","fresh","shares"] ["row","turn"] [none,none] (k7 rfl bz jK (za (zx zK (pv 0) zd (fun _ _=>rfl)) (za (zx zK (pv 0) zd (fun _ _=>rfl)) zb)))
    (fun v C s₀ H₀ ex=>gX rfl (zH (zk (i:=0) (a9 ["row","turn"]) rfl (Or.inl rfl)) (zH (zk (i:=1) (a9 ["row","turn"]) rfl (Or.inl rfl)) gW))) (fun v C s₀ H₀ ex=>zC)
    (fun v C s₀ H₀ ex=>zA MU (pv 0) (pv 1)) (te:=cn vP (ar 0) (ar 1)) (hfr:=bC δ) (g:=b6 K 2 (cf (zT 0) (cf (zT 1) b3))))
   (zc (zp (i:=3) y3.nd rfl (Or.inr rfl) (ze Ge hr rfl me Fe.kp be .nil ag (za (pv 2) zb)))
   (zc (i' (i:=4) y3.nd rfl (Or.inl rfl) ["side","width","rows","found","fresh","shares"] ["place","found"] [none,some 3] (zM (zn (xG rfl) rfl bs yf (za (pv 3) zb))) (fun v C s₀ H₀ ex=>zk (i:=0) (a9 ["place","found"]) rfl (Or.inl rfl)) (fun v C s₀ H₀ ex=>zC)
    (fun v C s₀ H₀ ex=>nq hu (pv 1) (pv 0) (fun _ _=>rfl)) (hfr:=bD (zf ek) δ))
   (zc (i' (i:=5) y3.nd rfl (Or.inl rfl) ["side","width","rows","found","fresh","shares"] ["row","found"] [none,some 3] (zM (pv 2)) (fun v C s₀ H₀ ex=>zk (i:=0) (a9 ["row","found"]) rfl (Or.inl rfl)) (fun v C s₀ H₀ ex=>zC)
    (fun v C s₀ H₀ ex=>ze Gs dj rfl ms Fs.kp bh .nil ag (za (pv 0) (za (pv 1) zb))) (te:=gp GM [] E0 (b_ (ar 0) (b_ (ar 1) bE))) (hfr:=bD (zf ek) δ))
   (zh (zq (hJ (za
    (zD ["side","width","rows","found","fresh","shares"] ["row","width"] [none,some 1] (zM (pv 4)) (fun v C s₀ H₀ ex=>zk (i:=0) (a9 ["row","width"]) rfl (Or.inl rfl)) (fun v C s₀ H₀ ex=>zC)
     (fun v C s₀ H₀ ex=>m7 nf (pv 0) mU (m6 (pv 1))) (te:=FR (m_ K) (ar 0) FP (FQ (ar 1))) (hfr:=bD (zf ek) δ))
    (za (zD ["side","width","rows","found","fresh","shares"] ["row","width"] [none,some 1] (zM (pv 4)) (fun v C s₀ H₀ ex=>zk (i:=0) (a9 ["row","width"]) rfl (Or.inl rfl)) (fun v C s₀ H₀ ex=>zC)
     (fun v C s₀ H₀ ex=>m7 nf (pv 0) (m6 (pv 1)) mU) (te:=FR (m_ K) (ar 0) (FQ (ar 1)) FP) (hfr:=bD (zf ek) δ))
    (za (zD ["side","width","rows","found","fresh","shares"] ["numbers","side"] [none,some 0] (zM (ze Gc hr3 rfl mc Fc.kp bc .nil ag (za (pv 5) zb))) (fun v C s₀ H₀ ex=>zk (i:=0) (a9 ["numbers","side"]) rfl (Or.inl rfl)) (fun v C s₀ H₀ ex=>zC)
     (fun v C s₀ H₀ ex=>ze Gm dj rfl mm Fm.kp bm .nil ag (za (pv 0) (za (zx zK (pv 1) zd (fun _ _=>rfl)) zb))) (te:=gp Ht [] E0 (b_ (ar 0) (b_ (cn (vE K) (ar 1) (tC (.int 2))) bE))) (hfr:=bD (zf ek) δ)) zb))))))))),?_⟩
  refine⟨_,rfl,t,_,_,_,rfl,rfl,SqT.of ht,zj (j:=0) rfl,_,rfl,t,_,_,_,rfl,rfl,SqT.of ht,zj (j:=1) rfl,a,b,rfl,⟨_,SqL.of ha⟩,⟨_,SqL.of hb⟩,fun R hR=>zB (O5 (g:=fun x y=>x++y) (fun o u os us H' R sm G lK gR eK hk=>?_) ha hb ra rb (by have:=ok.l2;have:=ok.n64;(first|lia|omega)) hR fun H1 rs s1 jN I _ _=>?_)⟩
  ·refine⟨_,rfl,_,rfl,o,u,_,_,rfl,rfl,G,lK,?_,fun p hp=>?_⟩
   ·rw[Ab,Ab,ok.w1 os gR,ok.w2 us eK,sizeLine_eq];have:=ok.n64;have:=ok.m64;(first|lia|omega)
   ·rw[<-Aw]
    exact hk p _ (Same.new hp) hp af
  have I:Rws H1 rs (cat tb ub):=I;refine⟨_,rfl,R,rs,cat tb ub,N,M,X,B,Y,m+n,rfl,jN,I,ok.ech,fun a1 H2 es fr PP s2 CB F2 jo ng FS=>?_⟩;have lc:(cat tb ub).length=n:=by unfold cat;rw[AE,ok.l1,ok.l2,Nat.min_self]
  have lP:PP.length=n:=by rw[FS.len,Ab,lc]
  have le:es.length<64:=by have:=jo.len;have:=ok.n64;(first|lia|omega)
  refine⟨_,rfl,a1,eS es,rfl,F2.at_,(by simpa using le),fun PL ms pm so dF=>?_⟩;rw[jo.ints pm so];have jS:=Same.new (o:=.lst (PP.map fun p:Nat=>V.int (p:Int))) dF;refine⟨PL,rfl,⟨_,SqL.of af⟩,fun FD rB=>zB (O' (F2.same jS) (fun p hp=>jo.pm.mem_iff.mp hp) (fun p d H' R sm gd hk=>⟨_,rfl,_,rfl,a1,_,rfl,gd,hk⟩) af (by have:=ok.n64;(first|lia|omega)) rB fun H3 fs s3 eB oR=>?_)⟩;have a_:=(s2.trans jS).trans s3;have F3:=(F2.same jS).same s3;refine⟨_,rfl,R,rfl,⟨_,SqL.of (a_ _ _ jN)⟩,fun SD sK=>zB (ww (g:=fun r=>shrL fr r PP) (fun o os H' R' sm G W hk=>?_) (SqL.of (a_ _ _ jN)) (I.same a_) (by rw[lc];have:=ok.n64;(first|lia|omega)) sK fun H4 ss J jL rm _ _=>?_)⟩
  ·exact⟨_,rfl,_,rfl,o,a1,os,es,fr,PP,m+n,rfl,G,F3.same sm,jo,le,ok.shr PP fr FS ng os W,hk⟩
  have p_:=(s1.trans a_).trans J;refine⟨_,rfl,FD,rfl,⟨_,SqL.of (J _ _ eB)⟩,fun A1 qm=>zB (ww (g:=fun r=>r.take m) (fun o os H' R' sm G W hk=>?_) (SqL.of (J _ _ eB)) (oR.same J) (by rw[Ab,lP];have:=ok.n64;(first|lia|omega)) qm fun H5 d5 S xZ r5 n5 w5=>?_)⟩
  ·refine⟨_,rfl,_,rfl,_,rfl,o,_,rfl,SqL.of G,fun q hq=>?_⟩
   rw[O_,<-List.map_take];exact hk q _ (Same.new hq) hq af
  refine⟨_,rfl,FD,rfl,⟨_,SqL.of ((J.trans S) _ _ eB)⟩,fun A2 ox=>zB (ww (g:=fun r=>r.drop m) (fun o os H' R' sm G W hk=>?_) (SqL.of ((J.trans S) _ _ eB)) (oR.same (J.trans S)) (by rw[Ab,lP];have:=ok.n64;(first|lia|omega)) ox fun H6 d6 s6 BD r6 n6 w6=>?_)⟩
  ·refine⟨_,rfl,_,rfl,_,rfl,o,_,rfl,SqL.of G,fun q hq=>?_⟩
   rw[gD,<-List.map_drop];exact hk q _ (Same.new hq) hq af
  have cm:=S.trans s6;have u_:=p_.trans cm;have iE:((cat tb ub).map fun r=>shrL fr r PP).length=n:=by rw[Ab,lc]
  have L:∀r∈(cat tb ub).map (fun r=>shrL fr r PP),r.length=n:=fun r hr=>by
   obtain⟨q,_,rfl⟩:=List.mem_map.mp hr;rw[yl,lP]
  have D:wid ((cat tb ub).map fun r=>shrL fr r PP)=n:=by
   cases e:(cat tb ub).map (fun r=>shrL fr r PP) with
   |nil=>rw[e] at iE;exact iE
   |cons x l=>rw[e] at L;exact L x (AI ..)
  have tsh:bW ((cat tb ub).map fun r=>shrL fr r PP)=true:=by
   unfold bW;rw[D,iE,decide_eq_true ok.n64];simp only[Bool.and_self,Bool.true_and,Be];exact fun r hr=>decide_eq_true (L r hr)
  refine⟨_,rfl,SD,ss,_,rfl,SqL.of (cm _ _ jL),rm.same cm,tsh,fun CD H7 cs Z C4 gY qC _ _=>⟨CD,rfl,⟨_,SqL.of gY⟩,fun A3 pj=>?_⟩⟩;have iW:=u_.trans Z;have et:turn ((cat tb ub).map fun r=>shrL fr r PP)=(Af n).map (colAt ((cat tb ub).map fun r=>shrL fr r PP)):=by unfold turn;rw[D]
  rw[et] at qC;have vf:∀r∈bb,r.length=wid bb:=fun r hr=>by
   cases e:bb with
   |nil=>rw[e] at hr;cases hr
   |cons x l=>rw[ok.w3 r hr];exact(ok.w3 x (by rw[e];exact AI ..)).symm
  have wb:wid bb=n:=by
   cases e:bb with
   |nil=>have:=ok.l3;rw[e] at this;exact this
   |cons x l=>exact ok.w3 x (by rw[e];exact AI ..)
  refine zB (ww (g:=fun ns=>gH n ns bb) (fun o os H' R' sm G W hk=>?_) (SqL.of gY) qC (by rw[Ab,AU];have:=ok.n64;(first|lia|omega)) pj fun H8 d8 s8 qU r8 n8 w8=>?_)
  ·have jY:=iW.trans sm
   refine⟨_,rfl,_,rfl,t,_,_,_,rfl,rfl,SqT.of (jY _ _ ht),zj (j:=2) rfl,o,c,os,dc,bb,rfl,G,jY _ _ hc,rc.same jY,by rw[wb];have:=ok.n64;(first|lia|omega),vf,fun z hz y hy=>?_,by rw[wb];exact hk⟩;obtain⟨z1,z2⟩:=List.of_mem_zip hz;obtain⟨j,hj,rfl⟩:=List.mem_map.mp W;have z1:z.1∈((cat tb ub).map fun r=>shrL fr r PP).map fun r=>r.getD j 0:=z1;obtain⟨sr,vQ,e1⟩:=List.mem_map.mp z1;obtain⟨r,hr,rfl⟩:=List.mem_map.mp vQ;refine ok.mul PP fr FS ng r hr z.1 ?_ z.2 z2 y hy;have hj:=List.mem_range.mp hj;have yC:j<(shrL fr r PP).length:=by rw[yl,lP];exact hj
   rw[<-e1,Ac,Aa yC];exact Ao _
  ·have oS:=(s6.trans Z).trans s8
   have pY:=Z.trans s8;have U:∀{x},H4 x=none->H x=none:=fun h=>p_.free h;refine⟨by show 3<=sizeLine;decide,fun T hT=>?_⟩;have O:=Same.new (o:=.tup [V.ref A1,V.ref A2,V.ref A3]) hT;rw[AT] at r5 r6 r8;refine k PP fr T A1 A2 A3 d5 d6 d8 _ FS ng ((iW.trans s8).trans O) af ⟨O _ _ (oS _ _ xZ),(r5.same oS).same O,n5,U qm,fun d hd=>⟨U (w5 d hd).1,(w5 d hd).2⟩⟩ ⟨O _ _ (pY _ _ BD),(r6.same pY).same O,n6,U (S.free ox),fun d hd=>⟨U (S.free (w6 d hd).1),(w6 d hd).2⟩⟩ ⟨O _ _ qU,r8.same O,n8,U (cm.free (Z.free pj)),fun d hd=>⟨U (cm.free (Z.free (w8 d hd).1)),(w8 d hd).2⟩⟩
end
end K26
end
section
namespace K26
open PySem L2
abbrev Er:Stmt:=top 38
def rowAt(tb:Ξ)(i:Nat):List Int:=tb.getD i []
def slT(tb:Ξ)(r:Nat):Nat->Ξ
 |0=>tb
 |n+1=>(slT tb r n).set (r-2-n) (dz (rowAt (slT tb r n) (r-2-n)) (-1) (rowAt (slT tb r n) (r-1-n)))
def slB(tb:Ξ)(r:Nat):Nat->Ξ
 |0=>tb
 |n+1=>(slB tb r n).set (r-1-n) (dz (rowAt (slB tb r n) (r-1-n)) 1 (rowAt (slB tb r n) (r-2-n)))
def ot{tb:Ξ}{r:Nat}:∀n,(slT tb r n).length=tb.length
 |0=>rfl
 |n+1=>by show List.length (List.set _ _ _)=_;rw[List.length_set];exact ot n
def y8{tb:Ξ}{r:Nat}:∀n,(slB tb r n).length=tb.length
 |0=>rfl
 |n+1=>by show List.length (List.set _ _ _)=_;rw[List.length_set];exact y8 n
structure Wk(H0:Hp)(Z:List Addr)(H:Hp)(R:Addr)(rs:List Addr)(tb:Ξ):Prop where
 at_:H R=some (.lst (rs.map V.ref))
 rows:Rws H rs tb
 nd:rs.Nodup
 nw:∀d∈rs,H0 d=none/\∀z∈Z,d≠z
section
variable{H0 H H':Hp}{Z:List Addr}{R R':Addr}{rs:List Addr}{tb:Ξ}
def Wk.same(h:Wk H0 Z H R rs tb)(s:Same H H'):Wk H0 Z H' R rs tb:=⟨s _ _ h.at_,h.rows.same s,h.nd,h.nw⟩
def Wk.get(h:Wk H0 Z H R rs tb){i:Nat}(hi:i<tb.length):∃d,rs[i]?=some d/\(rs.map V.ref)[i]?=some (V.ref d)/\H d=some (.lst ((rowAt tb i).map V.int)):=by
 have a:=h.rows.len;obtain⟨ns,e1,e2⟩:=h.rows.get (Aa (show i<rs.length from ω));refine⟨rs[i]'ω,Aa _,by rw[Aj,Aa (show i<rs.length from ω)];rfl,?_⟩;unfold rowAt;rw[Ac,e1];exact e2
def Wk.other(h:Wk H0 Z H R' rs tb)(hz:R∈Z)(ne:R'≠R){o:HO}:Wk H0 Z (upd H R o) R' rs tb:=⟨by rw[am ne];exact h.at_,h.rows.upd fun d hd=>(h.nw d hd).2 R hz,h.nd,h.nw⟩
def Pb{l:List Addr}{i:Nat}{d:Addr}(h:l.Nodup)(hd:d∉l):(l.set i d).Nodup:=by
 rw[List.Nodup,List.pairwise_iff_getElem];intro a b e hb g;rw[List.length_set] at e hb;have f:∀c(hc:c<l.length),l[c]≠d:=fun c hc z=>hd (z▸Ao hc);rw[List.getElem_set,List.getElem_set];have:=List.pairwise_iff_getElem.mp h a b e hb g;split
 ·split
  ·(first|lia|omega)
  ·exact(f b hb).symm
 ·split
  ·exact f a e
  ·exact this
def Pc{H:Hp}{rs:List Addr}{tb:Ξ}{d:Addr}{ns:List Int}(h:Rws H rs tb)(e:H d=some (.lst (ns.map V.int))):∀i,Rws H (rs.set i d) (tb.set i ns):=by
 induction h with
 |nil=>intro i;exact .nil
 |cons r t ih=>intro i;cases i with
  |zero=>exact .cons e t
  |succ i=>exact .cons r (ih i)
def Wk.put(h:Wk H0 Z H R rs tb)(b:Same H0 H')(s:Same H H'){d:Addr}{ns:List Int}{H2:Hp}(c:Same H' H2)(hd:H' d=none)(e:H2 d=some (.lst (ns.map V.int)))(hz:R∈Z)(f:∀z∈Z,H' z≠none)(i:Nat):Wk H0 Z (upd H2 R (.lst ((rs.map V.ref).set i (.ref d)))) R (rs.set i d) (tb.set i ns):=by
 have a:d∉rs:=fun z=>(h.same s).rows.there d z hd;have nz:∀z∈Z,d≠z:=fun z hz e=>f z hz (e▸hd);refine⟨by rw[af,List.map_set],?_,Pb h.nd a,fun x hx=>?_⟩
 ·refine(Pc ((h.rows.same s).same c) e i).upd fun x hx=>?_
  rcases List.mem_or_eq_of_mem_set hx with hx|rfl
  ·exact(h.nw x hx).2 R hz
  ·exact nz R hz
 ·rcases List.mem_or_eq_of_mem_set hx with hx|rfl
  ·exact h.nw x hx
  ·exact⟨b.free hd,nz⟩
end
def Sml(tb:Ξ):Prop:=∀r∈tb,r.length<=1000/\∀x∈r,x.natAbs<big
def Pd:(1:Int).natAbs<big:=by
 unfold big;exact Nat.one_lt_two_pow (by have:=lf;(first|lia|omega))
def Sml.at{tb:Ξ}(h:Sml tb){i:Nat}(hi:i<tb.length):(rowAt tb i).length<=1000/\∀x∈rowAt tb i,x.natAbs<big:=by
 refine h _ ?_;unfold rowAt;rw[Ac,Aa hi];exact Ao _
section
variable{P:Program}{w:World}{K:Ah}{mg:Str->Option Value}{base:Heap}
def Kr:Sp:=fun vs H Q _=>∃(H0:Hp)(t a b c:Addr)(h i l:List Addr)(tb ub bb:Ξ)(n r:Nat),vs=[.ref t,.int r]/\H t=some (.tup [.ref a,.ref b,.ref c])/\Same H0 H/\NT H0 H a h tb/\NT H0 H b i ub/\NT H0 H c l bb/\tb.length=n/\ub.length=n/\bb.length=n/\1<=r/\r<=n/\n<=1000/\
 (∀j,j<r->Sml (slT tb r j)/\Sml (slT ub r j)/\Sml (slB bb r j))/\
 ∀t' a' b' d e f g H',Same H H'->H' t'=some (.tup [.ref a',.ref b',.ref d])->NT H0 H' a' e (slT tb r (r-1))->NT H0 H' b' f (slT ub r (r-1))->NT H0 H' d g (slB bb r (r-1))->Q (.ref t') H'
def y9:zo ["side","count","rows","turn","back","k"] ["side","count"] (zf Er):=⟨rfl,rfl,rfl,δ,rfl,δ,δ⟩
def Hv:A8 "list"=some (.type "list"):=δ
def Pe{f fl:Addr}{fd aX:FuncData}(F:Fun K "slid" "slid" Er f fd)(bg:mg "range"=none)(bs:mg "list"=none)(Fl:Fun K "less" "less" k8 fl aX)(bl:Binds K aX ["row","often","other"] [])(ml:mg "less"=some (.ref fl))(Gl:al P w K mg base aG 1 fl aX ["row","often","other"] xq):al P w K mg base aG 2 f fd ["side","count"] Kr:=by
 refine F.ok y9 (fun vs H Q E h=>?_) (fun ah A outer s H vs Q E hr h=>?_)
 ·obtain⟨H0,t,a,b,c,da,db,dc,tb,ub,bb,n,r,rfl,_⟩:=h;rfl
 ·obtain⟨H0,t,a,b,c,da,db,dc,tb,ub,bb,n,r,rfl,ht,s0,na,nb,nc,l1,l2,l3,r1,rn,n9,uV,k⟩:=h
  refine⟨_,zc (zp (i:=2) y9.nd rfl (Or.inl rfl) (i6 zV rfl bs Hv (za (zx zK (pv 0) zd (fun _ _=>rfl)) zb)))
   (zc (zp (i:=3) y9.nd rfl (Or.inl rfl) (i6 zV rfl bs Hv (za (zx zK (pv 0) zd (fun _ _=>rfl)) zb)))
   (zc (zp (i:=4) y9.nd rfl (Or.inl rfl) (i6 zV rfl bs Hv (za (zx zK (pv 0) zd (fun _ _=>rfl)) zb)))
   (zc (eX A4 rfl (J' rfl bg (za (zA eR (pv 1) zd) (za zd (za (mJ mN zd) zb)))) (zk (i:=5) y9.nd rfl (Or.inl rfl))
    (zc (iv (ze Gl hr rfl ml Fl.kp bl .nil ag (za (zx zt (pv 2) (zA eR (pv 5) zd) (fun _ _=>rfl)) (za (mJ mN zd) (za (zx zt (pv 2) (pv 5) (fun _ _=>rfl)) zb)))) (ig (pv 2) (zA eR (pv 5) zd) set_list))
    (zc (iv (ze Gl hr rfl ml Fl.kp bl .nil ag (za (zx zt (pv 3) (zA eR (pv 5) zd) (fun _ _=>rfl)) (za (mJ mN zd) (za (zx zt (pv 3) (pv 5) (fun _ _=>rfl)) zb)))) (ig (pv 3) (zA eR (pv 5) zd) set_list))
    (zh (iv (ze Gl hr rfl ml Fl.kp bl .nil ag (za (zx zt (pv 4) (pv 5) (fun _ _=>rfl)) (za zd (za (zx zt (pv 4) (zA eR (pv 5) zd) (fun _ _=>rfl)) zb)))) (ig (pv 4) (pv 5) set_list))))))
   (zh (zq (hJ (za (pv 2) (za (pv 3) (za (pv 4) zb))))))))),?_⟩
  refine⟨_,rfl,t,_,_,_,rfl,rfl,SqT.of ht,zj (j:=0) rfl,a,_,rfl,.inl (SqL.of na.at_),fun R hR=>?_⟩;have I:=Same.new (o:=.lst (da.map V.ref)) hR;refine⟨_,rfl,t,_,_,_,rfl,rfl,SqT.of (I _ _ ht),zj (j:=1) rfl,b,_,rfl,.inl (SqL.of (I _ _ nb.at_)),fun T hT=>?_⟩;have M:=Same.new (o:=.lst (db.map V.ref)) hT;refine⟨_,rfl,t,_,_,_,rfl,rfl,SqT.of ((I.trans M) _ _ ht),zj (j:=2) rfl,c,_,rfl,.inl (SqL.of ((I.trans M) _ _ nc.at_)),fun B hB=>?_⟩;have sB:=Same.new (o:=.lst (dc.map V.ref)) hB;have sZ:=(I.trans M).trans sB;have nP:R≠T:=zl af hT;have pB:T≠B:=zl af hB;have o_:R≠B:=zl (M _ _ af) hB;have dS:H T=none:=I.free hT;have kP:H B=none:=(I.trans M).free hB;have W0:∀{x:Addr}{dx:List Addr}{tx:Ξ}{Y:Addr}{H2:Hp},NT H0 H x dx tx->Same H H2->H2 Y=some (.lst (dx.map V.ref))->Wk H0 [R,T,B] H2 Y dx tx:=fun{x dx tx Y H2} n s e=>
   ⟨e,n.rows.same s,n.nd,fun d hd=>⟨(n.nw d hd).1,fun z hz q=>by
    have y:=n.rows.there d hd;rw[q] at y;simp at hz;rcases hz with rfl|rfl|rfl
    ·exact y hR
    ·exact y dS
    ·exact y kP⟩⟩
  have en:(((r:Nat):Int)-1-0).toNat=r-1:=ω
  refine⟨_,rfl,_,_,rfl,rfl,_,rfl,_,_,rfl,⟨ω,ω,ω,ω⟩,?_⟩;rw[en];refine Ka (fun i σ H2=>∃(v5:Option V)(rs v bs:List Addr),σ=[some (.ref t),some (.int r),some (.ref R),some (.ref T),some (.ref B),v5]/\Same H H2/\Wk H0 [R,T,B] H2 R rs (slT tb r i)/\Wk H0 [R,T,B] H2 T v (slT ub r i)/\Wk H0 [R,T,B] H2 B bs (slB bb r i))
   ⟨none,da,db,dc,rfl,sZ,W0 na sZ ((M.trans sB) _ _ af),W0 nb sZ (sB _ _ af),W0 nc sZ af⟩ ?_ ?_
  ·rintro i σ H2 hi ⟨v5,rs,v,bs,rfl,sm,u,wT,wB⟩
   obtain⟨g,jb⟩:∃g,g=r-2-i:=⟨_,rfl⟩;have e1:((r:Nat):Int)-1-((i:Nat):Int)=((g+1:Nat):Int):=ω
   have e2:((g+1:Nat):Int)-1=((g:Nat):Int):=ω
   have J:r-1-i=g+1:=ω
   obtain⟨lG,yw,ao⟩:=uV i ω;have lR:(slT tb r i).length=n:=by rw[ot,l1]
   have lT:(slT ub r i).length=n:=by rw[ot,l2]
   have lB:(slB bb r i).length=n:=by rw[y8,l3]
   have p:∀{q:Int}{x:Int},q.natAbs<=1->x.natAbs<big->eH q x:=fun hq hx=>oj (At hq Pd) hx;have ix:∀{l:List Addr}{j:Nat},j<l.length->hO (l.map V.ref).length ((j:Nat):Int)=some j:=fun{l j} h=>by unfold hO;rw[Ab];simp[h]
   have Zin:∀{L:Hp},Same H2 L->∀z∈[R,T,B],L z≠none:=fun{L} s z hz=>by
    simp at hz;rcases hz with rfl|rfl|rfl
    ·rw[s _ _ u.at_];simp
    ·rw[s _ _ wT.at_];simp
    ·rw[s _ _ wB.at_];simp
   obtain⟨d1,g1,U,h1⟩:=u.get (i:=g) ω;obtain⟨d2,g2,W,h2⟩:=u.get (i:=g+1) ω;rw[e1];have G:=lG.at (i:=g+1) ω;refine⟨_,rfl,_,rfl,_,_,rfl,rfl,R,_,_,_,rfl,rfl,SqL.of u.at_,by rw[e2];exact zj U,_,rfl,_,rfl,_,rfl,R,_,_,_,rfl,rfl,SqL.of u.at_,zj W,d1,d2,_,_,-1,rfl,h1,h2,G.1,fun x hx=>p ξ (G.2 x hx),fun X L N hD3 e3=>?_⟩;refine⟨_,rfl,_,rfl,_,_,rfl,rfl,R,_,_,g,rfl,rfl,N _ _ u.at_,by rw[e2];exact ix (by have:=u.rows.len;(first|lia|omega)),?_⟩;have jR:=u.put (s0.trans sm) (Same.refl H2) N hD3 e3 (by simp) (Zin (Same.refl H2)) g;have eM:Same H (upd L R (.lst ((rs.map V.ref).set g (.ref X)))):=(sm.trans N).then hR;have C:=(wT.same N).other (R:=R) (by simp) (Ne.symm nP) (o:=.lst ((rs.map V.ref).set g (.ref X)));have l':=(wB.same N).other (R:=R) (by simp) (Ne.symm o_) (o:=.lst ((rs.map V.ref).set g (.ref X)));have Z3:∀z∈[R,T,B],(upd L R (.lst ((rs.map V.ref).set g (.ref X)))) z≠none:=fun z hz=>by
    simp at hz;rcases hz with rfl|rfl|rfl
    ·rw[af];simp
    ·rw[C.at_];simp
    ·rw[l'.at_];simp
   have et1:(slT tb r i).set g (dz (rowAt (slT tb r i) g) (-1) (rowAt (slT tb r i) (g+1)))=slT tb r (i+1):=by
    show _=(slT tb r i).set (r-2-i) (dz (rowAt (slT tb r i) (r-2-i)) (-1) (rowAt (slT tb r i) (r-1-i)));rw[<-jb,J]
   rw[et1] at jR;generalize upd L R (.lst ((rs.map V.ref).set g (.ref X)))=H4 at jR eM C l' Z3 ⊢;obtain⟨d1,g1,U,h1⟩:=C.get (i:=g) ω;obtain⟨d2,g2,W,h2⟩:=C.get (i:=g+1) ω;have G:=yw.at (i:=g+1) ω;refine⟨_,rfl,_,rfl,_,_,rfl,rfl,T,_,_,_,rfl,rfl,SqL.of C.at_,by rw[e2];exact zj U,_,rfl,_,rfl,_,rfl,T,_,_,_,rfl,rfl,SqL.of C.at_,zj W,d1,d2,_,_,-1,rfl,h1,h2,G.1,fun x hx=>p ξ (G.2 x hx),fun Z H5 O c5 e5=>?_⟩;refine⟨_,rfl,_,rfl,_,_,rfl,rfl,T,_,_,g,rfl,rfl,O _ _ C.at_,by rw[e2];exact ix (by have:=C.rows.len;(first|lia|omega)),?_⟩;have k9:=C.put (s0.trans eM) (Same.refl H4) O c5 e5 (by simp) Z3 g;have mD:Same H (upd H5 T (.lst ((v.map V.ref).set g (.ref Z)))):=(eM.trans O).then dS;have j6:=(jR.same O).other (R:=T) (by simp) nP (o:=.lst ((v.map V.ref).set g (.ref Z)));have D:=(l'.same O).other (R:=T) (by simp) (Ne.symm pB) (o:=.lst ((v.map V.ref).set g (.ref Z)));have Z5:∀z∈[R,T,B],(upd H5 T (.lst ((v.map V.ref).set g (.ref Z)))) z≠none:=fun z hz=>by
    simp at hz;rcases hz with rfl|rfl|rfl
    ·rw[j6.at_];simp
    ·rw[af];simp
    ·rw[D.at_];simp
   have et2:(slT ub r i).set g (dz (rowAt (slT ub r i) g) (-1) (rowAt (slT ub r i) (g+1)))=slT ub r (i+1):=by
    show _=(slT ub r i).set (r-2-i) (dz (rowAt (slT ub r i) (r-2-i)) (-1) (rowAt (slT ub r i) (r-1-i)));rw[<-jb,J]
   rw[et2] at k9;generalize upd H5 T (.lst ((v.map V.ref).set g (.ref Z)))=H6 at j6 mD k9 D Z5 ⊢;obtain⟨d1,g1,U,h1⟩:=D.get (i:=g+1) ω;obtain⟨d2,g2,W,h2⟩:=D.get (i:=g) ω;have G:=ao.at (i:=g) ω;refine⟨_,rfl,_,rfl,B,_,_,_,rfl,rfl,SqL.of D.at_,zj U,_,rfl,_,rfl,_,_,rfl,rfl,B,_,_,_,rfl,rfl,SqL.of D.at_,by rw[e2];exact zj W,d1,d2,_,_,1,rfl,h1,h2,G.1,fun x hx=>p ξ (G.2 x hx),fun D7 H7 S dW e7=>?_⟩;refine⟨_,rfl,_,rfl,B,_,_,g+1,rfl,rfl,S _ _ D.at_,ix (by have:=D.rows.len;(first|lia|omega)),?_⟩;have nY:=D.put (s0.trans mD) (Same.refl H6) S dW e7 (by simp) Z5 (g+1);have r_:=(j6.same S).other (R:=B) (by simp) o_ (o:=.lst ((bs.map V.ref).set (g+1) (.ref D7)));have xQ:=(k9.same S).other (R:=B) (by simp) pB (o:=.lst ((bs.map V.ref).set (g+1) (.ref D7)));have yj:(slB bb r i).set (g+1) (dz (rowAt (slB bb r i) (g+1)) 1 (rowAt (slB bb r i) g))=slB bb r (i+1):=by
    show _=(slB bb r i).set (r-1-i) (dz (rowAt (slB bb r i) (r-1-i)) 1 (rowAt (slB bb r i) (r-2-i)));rw[<-jb,J]
   rw[yj] at nY;exact⟨_,_,_,_,rfl,(mD.trans S).then kP,r_,xQ,nY⟩
  ·rintro σ H2 ⟨v5,rs,v,bs,rfl,sm,u,wT,wB⟩
   refine⟨_,rfl,_,rfl,_,rfl,by show 3<=sizeLine;decide,fun t' ht'=>?_⟩;have mI:=Same.new (o:=.tup [V.ref R,V.ref T,V.ref B]) ht';have nt:∀{Y:Addr}{ds:List Addr}{tx:Ξ},Wk H0 [R,T,B] H2 Y ds tx->H Y=none->Y∈[R,T,B]->NT H0 (upd H2 t' (.tup [V.ref R,V.ref T,V.ref B])) Y ds tx:=fun{Y ds tx} h hy hz=>
    ⟨mI _ _ h.at_,h.rows.same mI,h.nd,s0.free hy,fun d hd=>⟨(h.nw d hd).1,(h.nw d hd).2 Y hz⟩⟩
   exact k t' R T B rs v bs _ (sm.trans mI) af (nt u hR (by simp)) (nt wT dS (by simp)) (nt wB kP (by simp))
end
end K26
end
section
namespace L2
open PySem PySem.Spec PyProof.Rows
section
variable{X:Cx}
def Ks{aa:Ψ}{σ:St}{H:Hp}{s:Shared}{l:Addr}{ns:List Int}(I:Inv X aa σ H s)(c:SqL X.K H l (ns.map V.int)):∃a,Reads s.heap (.ref l) (.list (ns.map PyData.int)) a:=by
 obtain⟨d,r,p,_⟩:=I.list c;obtain⟨o,b,hc,n,hd⟩:=p.isList;exact⟨_,.list b hc hd ((PySem.W.ke_carried (intsAre_of r)).reads s.heap)⟩
def Kt(ns:List Int):SeqAt.shaped (.list (ns.map PyData.int))=true:=by
 simp[SeqAt.shaped,PyData.canLay0,PySem.W.ke_canLayAll0,PyData.depth,PySem.W.ke_depthAll]
def Ku(ns:List Int):(Shape.list .int).has (.list (ns.map PyData.int))=true:=by simp[Shape.has]
def y'(K:Ah):R2:=fun x y H Q=>∃l m ns ms,x=.ref l/\y=.ref m/\SqL K H l (List.map V.int ns)/\SqL K H m (List.map V.int ms)/\Q (.bl (decide (ns=ms))) H
def Pf(e:X.A.units+64<cLine):cI X (compareOp .Eq) (y' X.K):=by
 intro aa s σ H x y v u Q I a b h;obtain⟨l,m,ns,ms,rfl,rfl,c,d,q⟩:=h;cases a;cases b;obtain⟨a1,r1⟩:=Ks I c;obtain⟨a2,r2⟩:=Ks I d;refine eq_dataH_same r1 r2 (Kt _) (Kt _) e (SeqAt.noMix_of_shape (.list .int) rfl _ _ (Ku _) (Ku _)) ?_;rw[show same (.list (ns.map PyData.int)) (.list (ms.map PyData.int))=decide (ns=ms) from by simp only[same];exact PySem.W.ke_sameAll ns ms];exact⟨.bl _,H,I,rfl,q⟩
end
end L2
end
section
namespace K26
open PySem L2
abbrev zz:Stmt:=top 26
abbrev A':Stmt:=top 27
abbrev Es:Stmt:=top 24
def Hw:A8 "enumerate"=some (.type "enumerate"):=δ
def ka{a:Type}(p:Nat->List Int->Bool)(g:Nat->List Int->a)(l:List (List Int×Nat)):List a:=(l.filter fun q=>p q.2 q.1).map fun q=>g q.2 q.1
section
variable{P:Program}{w:World}{K:Ah}{mg:Str->Option Value}{base:Heap}
def Kv{H2:Hp}{L D:Addr}{rs:List Addr}{tb:Ξ}{Q:VK}{A:Type}{mkV:A->V}{p:Nat->List Int->Bool}{g:Nat->List Int->A}{tc:TT}{te:TE}{c:List (Option V)}(M:∀(i:Nat)(o:Addr)(os:List Int)(H:Hp)(R:VK)(S:Hp->Prop),Same H2 H->H o=some (.lst (os.map V.int))->os∈tb->(p i os=true->∀H',Same H H'->R (mkV (g i os)) H')->(p i os=false->S H)->tc (some (.int i)::some (.ref o)::c) H fun b u=>if b=true then te (some (.int i)::some (.ref o)::c) u R else S u)(s:SqL K H2 L (rs.map V.ref))(C:Rws H2 rs tb)(hz:tb.length<=1000)(E:H2 D=none)(k:∀f,Same H2 f->f D=some (.lst ((ka p g tb.zipIdx).map mkV))->Q (.ref D) f):cP (qb K L) (b6 K 2 (cf (zT 0) (cf (zT 1) b3))) tc te (none::none::c) H2 D Q:=by
 have z:=C.len;refine wa tb.length (fun j σ ys f=>∃(l q:Option V),σ=l::q::c/\Same H2 f/\f D=some (.lst ys)/\ys=(ka p g (tb.zipIdx.take j)).map mkV) ?_ ?_ ?_ ?_ ?_
 ·exact⟨none,none,rfl,Same.new E,af,rfl⟩
 ·rintro σ ys f ⟨l,q,rfl,sm,d,rfl⟩
  exact⟨_,sm.seq s,by rw[Ab,z]⟩
 ·rintro i σ ys f hi ⟨l,q,rfl,sm,d,rfl⟩
  exact⟨_,sm.seq s,by rw[Ab,z];exact hi⟩
 ·rintro i σ ys f x H' hi hy ⟨l,q,rfl,sm,d,rfl⟩ ⟨pp,y,rfl,F,rfl,G⟩
  have J:=G _ (sm.seq s);obtain⟨a,I,rfl⟩:=ja J;obtain⟨r,w,hr⟩:=C.get I;have h:=Same.new (o:=.tup [.int i,.ref a]) F;have e:tb.zipIdx[i]?=some (r,i):=by rw[List.getElem?_zipIdx,w];simp
  refine⟨pp,_,rfl,SqT.of af,rfl,_,_,rfl,_,_,rfl,rfl,?_⟩;refine M i a r _ _ _ (sm.trans h) ((sm.trans h) _ _ hr) (Am w) (fun hp u v=>?_) (fun hp=>?_)
  ·refine bK (zE ω) hi hy ((h.trans v) _ _ d) ⟨_,_,rfl,((sm.trans h).trans v).then E,af,?_⟩
   rw[Bp e];unfold ka;rw[List.filter_append,Aw,Aw];simp[hp]
  ·refine k4 hi hy ⟨_,_,rfl,sm.trans h,h _ _ d,?_⟩
   rw[Bp e];unfold ka;rw[List.filter_append];simp[hp]
 ·rintro σ ys f ⟨l,q,rfl,sm,d,rfl⟩
  rw[Av (by simp)] at d;exact k f sm d
def dB(tb:Ξ):Bool:=(ka (fun _ _=>true) (fun k r=>decide (r=b0 r k r.length)) tb.zipIdx).all id
def Hx:Sp:=fun vs H Q _=>∃L rs tb,vs=[.ref L]/\H L=some (.lst (rs.map V.ref))/\Rws H rs tb/\tb.length<=1000/\(∀r∈tb,r.length<=1000)/\∀H',Same H H'->Q (.bl (dB tb)) H'
def Pg:zo ["table"] ["table"] (zf zz):=⟨rfl,rfl,rfl,δ,rfl,δ,δ⟩
def Ph{f fs:Addr}{fd c:FuncData}(F:Fun K "is_on_slope" "is_on_slope" zz f fd)(G:mg "all"=none)(be:mg "enumerate"=none)(bl:mg "len"=none)(Fs:Fun K "slope_row" "slope_row" yQ fs c)(bs:Binds K c ["numbers","k","width"] [])(ms:mg "slope_row"=some (.ref fs))(N:al P w K mg base aG 1 fs c ["numbers","k","width"] yW):al P w K mg base aG 2 f fd ["table"] Hx:=by
 refine F.ok Pg (fun vs H Q E h=>?_) (fun O A outer s H vs Q E hr h=>?_)
 ·obtain⟨L,rs,tb,rfl,_⟩:=h;rfl
 ·obtain⟨L,rs,tb,rfl,j,y,hz,hw,k⟩:=h
  have z:=hr.units;refine⟨_,zh (zq (zn (qh rfl) rfl G qG (za (zD ["table"] ["k","row"] [none,none] (Gn rfl be Hw (za (pv 0) zb))
   (fun d C s₀ H₀ ex=>gX rfl (zH (zk (i:=0) (a9 ["k","row"]) rfl (Or.inl rfl)) (zH (zk (i:=1) (a9 ["k","row"]) rfl (Or.inl rfl)) gW))) (fun d C s₀ H₀ ex=>zC)
   (fun d C s₀ H₀ ex=>mP (Pf z) (pv 1) (ze N hr rfl ms Fs.kp bs .nil ag (za (pv 1) (za (pv 0) (za (zn zm rfl bl dt (za (pv 1) zb)) zb)))) (ap _))
   (te:=cn (y' K) (ar 1) (gp yW [] E0 (b_ (ar 1) (b_ (ar 0) (b_ (mR (Gx K) (b_ (ar 1) bE)) bE))))) (hfr:=bC δ) (g:=b6 K 2 (cf (zT 0) (cf (zT 1) b3)))) zb))),?_⟩
  refine⟨_,rfl,L,rfl,⟨_,SqL.of j⟩,fun D l=>zB (Kv (mkV:=V.bl) (p:=fun _ _=>true) (g:=fun k r=>decide (r=b0 r k r.length)) (fun i o os H' R S sm a q u T=>gz ?_) (SqL.of j) y hz l fun I v b=>⟨D,_,rfl,SqL.of b,k I v⟩)⟩;refine⟨_,rfl,_,rfl,_,rfl,_,rfl,o,_,rfl,.inl (SqL.of a),o,os,i,os.length,by rw[Ab];rfl,a,hw os q,fun h=>h,fun J M e U x=>?_⟩;exact⟨o,J,os,_,rfl,rfl,SqL.of (e _ _ a),SqL.of x,u rfl M e⟩
def cq(tb:Ξ):List Int:=ka (fun k r=>decide (k<r.length)&&decide (vc r k≠0)) (fun k r=>vc r k) tb.zipIdx
def Hy:Sp:=fun vs H Q _=>∃L rs tb,vs=[.ref L]/\H L=some (.lst (rs.map V.ref))/\Rws H rs tb/\tb.length<=1000/\nJ H Q (cq tb)
def Pi:zo ["table"] ["table"] (zf A'):=⟨rfl,rfl,rfl,δ,rfl,δ,δ⟩
def Pj{f:Addr}{fd:FuncData}(F:Fun K "slope_of" "slope_of" A' f fd)(be:mg "enumerate"=none)(bl:mg "len"=none):al P w K mg base aG 1 f fd ["table"] Hy:=by
 refine F.ok Pi (fun vs H Q E h=>?_) (fun G A outer s H vs Q E hr h=>?_)
 ·obtain⟨L,rs,tb,rfl,_⟩:=h;rfl
 ·obtain⟨L,rs,tb,rfl,u,y,hz,k⟩:=h
  refine⟨_,zh (zq (zD ["table"] ["k","row"] [none,none] (Gn rfl be Hw (za (pv 0) zb))
   (fun d C s₀ H₀ ex=>gX rfl (zH (zk (i:=0) (a9 ["k","row"]) rfl (Or.inl rfl)) (zH (zk (i:=1) (a9 ["k","row"]) rfl (Or.inl rfl)) gW)))
   (fun d C s₀ H₀ ex=>I0 (PW.pt (Fx (zy DK (pv 0) (zn zm rfl bl dt (za (pv 1) zb)) (ap _)) (Fv (zy gf (zx zt (pv 1) (pv 0) (fun _ _=>rfl)) zd (ap _))))))
   (fun d C s₀ H₀ ex=>zx zt (pv 1) (pv 0) (fun _ _=>rfl)) (te:=cn (iA K) (ar 1) (ar 0)) (tc:=uy (DL (cn (g0 fun i j=>.bl (decide (i<j))) (ar 0) (mR (Gx K) (b_ (ar 1) bE)))) (DL (cn FK (cn (iA K) (ar 1) (ar 0)) (tC (.int 0))))) (hfr:=bC δ) (g:=b6 K 2 (cf (zT 0) (cf (zT 1) b3))))),?_⟩
  refine⟨_,rfl,L,rfl,⟨_,SqL.of u⟩,fun D l=>zB (Kv (mkV:=V.int) (p:=fun k r=>decide (k<r.length)&&decide (vc r k≠0)) (g:=fun k r=>vc r k) (fun i o os H' R S sm b I v q=>?_) (SqL.of u) y hz l fun z x c=>k D z x l c)⟩;refine⟨_,rfl,_,rfl,o,_,rfl,.inl (SqL.of b),_,_,rfl,rfl,_,rfl,?_⟩;rw[Ab]
  by_cases c1:i<os.length
  ·rw[decide_eq_true (show((i:Nat):Int)<((os.length:Nat):Int) from ω)]
   refine aV ⟨_,rfl,_,rfl,o,_,_,_,rfl,rfl,SqL.of b,zj (fF c1),rfl,_,rfl,?_⟩
   by_cases a:vc os i=0
   ·rw[show(!decide (V.int (vc os i)=V.int 0))=false by rw[a];rfl]
    exact aP (q (by rw[a];simp))
   ·rw[show(!decide (V.int (vc os i)=V.int 0))=true by rw[decide_eq_false (fun e=>a (by injection e))];rfl]
    exact aV ⟨_,rfl,_,rfl,o,_,_,_,rfl,rfl,SqL.of b,zj (fF c1),v (by simp[c1,a]) H' (Same.refl H')⟩
  ·rw[decide_eq_false (show ¬((i:Nat):Int)<((os.length:Nat):Int) from ω)]
   exact aP (aP (q (by simp[c1])))
def cZ(tb:Ξ):Bool:=dB tb&&fI (cq tb) tb.length
def Kw:Sp:=fun vs H Q _=>∃L rs tb,vs=[.ref L]/\H L=some (.lst (rs.map V.ref))/\Rws H rs tb/\tb.length<=1000/\(∀r∈tb,r.length<=1000)/\∀H',Same H H'->Q (.bl (cZ tb)) H'
def Pk:zo ["table"] ["table"] (zf Es):=⟨rfl,rfl,rfl,δ,rfl,δ,δ⟩
def Pl{tb:Ξ}:(cq tb).length<=tb.length:=by
 unfold cq ka;rw[Ab];exact Ae (List.length_filter_le _ _) (by simp)
def Pm{f fo fs fa:Addr}{fd i j l:FuncData}(F:Fun K "is_in_steps" "is_in_steps" Es f fd)(bl:mg "len"=none)(Fo:Fun K "is_on_slope" "is_on_slope" zz fo i)(r:Binds K i ["table"] [])(u:mg "is_on_slope"=some (.ref fo))(z:al P w K mg base aG 2 fo i ["table"] Hx)(Fs:Fun K "slope_of" "slope_of" A' fs j)(bs:Binds K j ["table"] [])(ms:mg "slope_of"=some (.ref fs))(C:al P w K mg base aG 1 fs j ["table"] Hy)(Fa:Fun K "are_steps" "are_steps" Ep fa l)(v:Binds K l ["steps","most"] [])(x:mg "are_steps"=some (.ref fa))(G:al P w K mg base aG 1 fa l ["steps","most"] Kn):al P w K mg base aG 3 f fd ["table"] Kw:=by
 refine F.ok Pk (fun vs H Q E h=>?_) (fun I A outer s H vs Q E hr h=>?_)
 ·obtain⟨L,rs,tb,rfl,_⟩:=h;rfl
 ·obtain⟨L,rs,tb,rfl,d,g,hz,hw,k⟩:=h
  have b:Room 1 _:=hr.mono ξ;refine⟨_,zh (zq (DG (ze z hr rfl u Fo.kp r .nil ag (za (pv 0) zb)) (DF (ze G b rfl x Fa.kp v .nil ag (za (ze C b rfl ms Fs.kp bs .nil ag (za (pv 0) zb)) (za (zn zm rfl bl dt (za (pv 0) zb)) zb)))))),?_⟩;refine⟨_,rfl,L,rs,tb,rfl,d,g,hz,hw,fun H1 a=>⟨_,rfl,?_⟩⟩;have q:=g.len;cases c:dB tb with
  |false=>
   have e:cZ tb=false:=by unfold cZ;rw[c];rfl
   rw[e] at k;exact aP (k H1 a)
  |true=>
   refine aV ⟨_,rfl,L,rs,tb,rfl,a _ _ d,g.same a,hz,fun D H2 o J e2=>⟨_,rfl,L,_,rfl,.inl (SqL.of ((a.trans o) _ _ d)),D,cq tb,_,rfl,e2,Ae Pl hz,fun y p=>?_⟩⟩;have e:cZ tb=fI (cq tb) (tb.length:Int):=by unfold cZ;rw[c];rfl
   rw[e] at k;rw[Ab,q];exact k y ((a.trans o).trans p)
end
end K26
end
section
namespace Tb
def Bd.mono{N M X B d i j:Nat}{R:List Vc}(h:Bd N M X B R)(q:M<=d)(u:X<=i)(v:B<=j):Bd N d i j R:=
 ⟨h.ind,fun P f e s r g l=>by
  obtain⟨a,b,c⟩:=h.bd P f e s r g l;exact⟨fun p hp=>Ae (a p hp) v,fun r hr p hp=>Ae (b r hr p hp) q,fun o V hc hv x hx=>Ae (c o V hc hv x hx) (Al _ (Al _ u))⟩⟩
def Tri.row{k r w M g N X B:Nat}{ρ f:Nat->Vc}{Q:Nat->Nat}{P:List Nat}(T:Tri k r w M g ρ Q){i:Nat}(hi:i<k)(F:FS N M X B ((Af i).map ρ) P f):∀p∈P,(ρ i p).natAbs<=M:=fun p hp=>by
 have e:=T.places ω F.ech F.srt (fun p hp=>(F.fr p hp).sp) (by rw[F.len];simp);rw[e] at hp;refine T.rows_le (j:=i+1) ω ω ?_;unfold pl at hp ⊢;rcases List.mem_append.mp hp with h|h
 ·exact AV _ (List.mem_range.mpr (by have:=List.mem_range.mp h;(first|lia|omega)))
 ·obtain⟨a,b,rfl⟩:=List.mem_map.mp h
  exact Ax _ (List.mem_map.mpr ⟨a,List.mem_range.mpr (by have:=List.mem_range.mp b;(first|lia|omega)),rfl⟩)
def xW(N b:Nat):Nat:=1+2*b+(2+2*b)*N
def xK(N n m x b:Nat):Nat:=2+(n+(m+(b+1)*N+(n+(b+x))))
def xE(N n m x b:Nat):Nat:=1+(n+(n+(xK N n m x b+(2+b+n+xW N b)*N+m)+(b+1)*N+(n+(b+x))))
def pw{a b:Nat}(h:a<=b):2 ^ a<=2 ^ b:=AC ξ h
def zr{x y a b:Nat}(h1:x<=2 ^ a)(h2:y<=2 ^ b):x*y<=2 ^ (a+b):=by rw[Nat.pow_add];exact AR h1 h2
def Pn{b:Nat}:1+2 ^ b<=2 ^ (b+1):=by have:=AF (n:=b);rw[Nat.pow_succ];(first|lia|omega)
def Et{x y a:Nat}(h1:x<=2 ^ a)(h2:y<=2 ^ a):x+y<=2 ^ (1+a):=by rw[Nat.add_comm 1,Nat.pow_succ];(first|lia|omega)
section
variable{N n m x b:Nat}
def oA(a:N<=2 ^ n):cC N (2 ^ x) (2 ^ b)<=2 ^ (n+(b+x)):=zr a (zr (Ad _) (Ad _))
def kb:(1+2 ^ b) ^ N<=2 ^ ((b+1)*N):=by rw[Nat.pow_mul];exact Bh Pn _
def Po:cW N (2 ^ b)<=2 ^ xW N b:=by
 unfold cW xW;have e:2*2 ^ b*2 ^ b=2 ^ (1+2*b):=by
  have h:2*b=b+b:=ω
  rw[h,Nat.pow_add,Nat.pow_add,Nat.pow_one,AQ]
 rw[e];refine zr (Ad _) ?_;have:=kb (N:=N) (b:=1+2*b)
 rwa [show 1+2*b+1=2+2*b from ω] at this
def Pp(h1:1<=N)(c:N<=2 ^ n):cG N (2 ^ b)<=2 ^ (2+b+n+xW N b):=by
 unfold cG;have h2:2*2 ^ b<=2 ^ (1+b):=by rw[Nat.pow_add];exact Ad _
 have a:1+N*cW N (2 ^ b)<=2 ^ (1+(n+xW N b)):=Et (AF) (zr c Po);have:=zr h2 a
 rwa [show 1+b+(1+(n+xW N b))=2+b+n+xW N b from ω] at this
def Pq(a:N<=2 ^ n):cK N (2 ^ m) (2 ^ x) (2 ^ b)<=2 ^ xK N n m x b:=by
 unfold cK xK;have h1:=oA (x:=x) (b:=b) a;have h2:N*(2 ^ m*(1+2 ^ b) ^ N*cC N (2 ^ x) (2 ^ b))<=2 ^ (n+(m+(b+1)*N+(n+(b+x)))):=zr a (zr (zr (Ad _) kb) h1);have c:1+cC N (2 ^ x) (2 ^ b)<=2 ^ (1+(n+(m+(b+1)*N+(n+(b+x))))):=Et AF (Ae h1 (pw ω));have:=Et c (Ae h2 (pw (Nat.le_add_left _ 1)))
 rwa [<-Nat.add_assoc] at this
def Ps(h1:1<=N)(a:N<=2 ^ n):cE N (2 ^ m) (2 ^ x) (2 ^ b)<=2 ^ xE N n m x b:=by
 have c:cM N (2 ^ m) (2 ^ x) (2 ^ b)<=2 ^ (xK N n m x b+(2+b+n+xW N b)*N):=by
  unfold cM;refine zr (Pq a) ?_;rw[Nat.pow_mul];exact Bh (Pp h1 a) _
 unfold cE xE;refine Et (Ae c (pw ω)) ?_;exact zr a (zr (zr (zr a (zr c (Ad _))) kb) (oA a))
def Pt{e x' b':Nat}(h1:m<=e)(h2:x<=x')(f:b<=b'):xE N n m x b<=xE N n e x' b':=by
 unfold xE xK xW;have a:(b+1)*N<=(b'+1)*N:=Ak _ ω;have c:(2+2*b)*N<=(2+2*b')*N:=Ak _ ω;have d:(2+b+n+(1+2*b+(2+2*b)*N))*N<=(2+b'+n+(1+2*b'+(2+2*b')*N))*N:=Ak _ ω;(first|lia|omega)
end
section
variable{A T U V T' U' V':Nat->Vc}{k w r D bU bV g:Nat}{Bn Bf:List Vc}{QU QV:Nat->Nat}
def gK{n:Nat}{W W':Nat->Vc}(h:∀i,i<n->W i=W' i):tl n W=tl n W':=Ba fun i hi=>h i (List.mem_range.mp hi)
def Ker.cg{n b:Nat}{W W':Nat->Vc}{Q:Nat->Nat}(hr:r<=n)(K:Ker n r g b W Q)(h:∀i,i<n->W i=W' i):Ker n r g b W' Q:=
 ⟨K.qs,fun a u d e=>by rw[<-h _ ω];exact K.kz a u d e,fun a d=>by rw[<-h _ ω];exact K.kp a d,fun a c h1 h2=>by rw[<-h _ ω,<-h _ ω];exact K.kq a c h1 h2,fun i a hi d=>by rw[<-h i ω,<-h _ ω];exact K.tq i a hi d,fun a d=>by rw[<-h _ ω];exact K.km a d⟩
def LI.cg(I:LI A k w r D bU bV g T U V Bn Bf QU QV)(b:∀u i,u<w->i<k->T u i=T' u i)(c:∀i,i<k->U i=U' i)(d:∀u,u<w->V u=V' u):LI A k w r D bU bV g T' U' V' Bn Bf QU QV:=by
 have rk:=I.rk;have e:=I.rw;refine⟨rk,e,I.g1,fun u i a hi=>?_,?_,?_,I.ku.cg rk c,I.kv.cg e d,fun u a=>?_,fun u i a hi=>?_,fun u i h1 h2=>?_,fun u i a hi h=>?_,fun m f=>?_⟩
 ·rw[<-b u i a hi,<-c i hi,<-d u a];exact I.bl u i a hi
 ·rw[<-gK c];exact I.bu
 ·rw[<-gK d];exact I.bv
 ·rw[<-b u u ω ω];exact I.tp u a
 ·rw[<-b u i ω ω];exact I.tz u i a hi
 ·rw[<-b u i ω ω,<-b i i ω ω];exact I.tr u i h1 h2
 ·rw[<-b u i a hi];exact I.to u i a hi h
 ·rw[<-jf fun i hi=>b i i ω ω];exact I.pd m f
def LI.small(I:LI A k w r D bU bV g T U V Bn Bf QU QV){u i:Nat}(a:u<w)(hi:i<k):(T u i).natAbs<=D:=by
 have rk:=I.rk;have b:=I.rw
 by_cases h:r<=u\/r<=i
 ·rw[I.to u i a hi h];exact Ap _
 ·rcases Bj u i with g|g|g
  ·have:=I.tr u i g ω
   have:=I.diag_le (i:=i) ω;(first|lia|omega)
  ·subst g;exact I.diag_le ω
  ·rw[I.tz u i ω g];exact Ap _
def LM.small{S:Nat->Vc}(I:LM A k w r D bU bV g S U V Bn Bf QU QV){u i:Nat}(a:u<w)(hi:i<k):(S i u).natAbs<=D:=by
 have rk:=I.rk;have b:=I.rw
 by_cases h:r<=u
 ·have:=I.sl.z u i h a hi
  have this:S i u=0:=this;rw[this];exact Ap _
 ·rcases Bj u i with g|g|g
  ·have this:S i u=0:=I.sl.tz u i ω g hi
   rw[this];exact Ap _
  ·subst g;exact I.diag_le ω
  ·have this:(S i u).natAbs<=(S u u).natAbs:=I.sl.tl u i ω g
   exact Ae this (I.diag_le ω)
def Dg.cg(h:Dg r T)(rk:r<=k)(rw:r<=w)(b:∀u i,u<w->i<k->T u i=T' u i):Dg r T':=fun u i a hi ne=>by rw[<-b u i ω ω];exact h u i a hi ne
def Kx:∀r,(∀i,i<r->T i i=T' i i)->mu T r=mu T' r
 |0,_=>rfl
 |r+1,h=>by
  show mu T r+_=mu T' r+_;rw[Kx r fun i hi=>h i ω,jf fun i hi=>h i hi]
def Pu(h:∀u i,u<r->i<r->T u i=T' u i):ms r T=ms r T':=by
 unfold ms;rw[Kx r fun i hi=>h i i hi hi];have:Dg r T↔Dg r T':=⟨fun d u i a hi ne=>by rw[<-h u i a hi];exact d u i a hi ne,fun d u i a hi ne=>by rw[h u i a hi];exact d u i a hi ne⟩
 by_cases c:Dg r T
 ·rw[if_pos c,if_pos (this.mp c)]
 ·rw[if_neg c,if_neg fun z=>c (this.mpr z)]
end
end Tb
end
section
namespace K26
open PySem L2
def fn(tb:Ξ):Nat->Tb.Vc:=fun i=>vc (rowAt tb i)
def zw{tb:Ξ}{i:Nat}{r:List Int}(h:tb[i]?=some r):rowAt tb i=r:=by unfold rowAt;rw[Ac,h];rfl
def zG{tb:Ξ}{i:Nat}(h:i<tb.length):rowAt tb i∈tb:=by rw[zw (Aa h)];exact Ao _
def lE{tb:Ξ}{i:Nat}(h:tb.length<=i):rowAt tb i=[]:=by unfold rowAt;rw[Ac,List.getElem?_eq_none h];rfl
def Eu{tb:Ξ}{r:List Int}(h:r∈tb):∃i,i<tb.length/\rowAt tb i=r:=by
 obtain⟨i,hi,rfl⟩:=AN h;exact⟨i,hi,zw (Aa hi)⟩
def iK{l:List Int}{u:Nat}(h:u<l.length):vc l u=l[u]:=by unfold vc;rw[Ac,Aa h];rfl
def Pv{a b:List Int}{m u:Nat}(h:a.length=m):vc (a++b) u=if u<m then vc a u else vc b (u-m):=by
 unfold vc;rw[Ac,Ac,Ac]
 by_cases c:u<m
 ·rw[if_pos c,List.getElem?_append_left ω]
 ·rw[if_neg c,List.getElem?_append_right ω,h]
def Pw{a:List Int}{m u:Nat}:vc (a.take m) u=if u<m then vc a u else 0:=by
 unfold vc;rw[Ac,Ac,List.getElem?_take];split<;>rfl
def Px{a:List Int}{m u:Nat}:vc (a.drop m) u=vc a (m+u):=by
 unfold vc;rw[Ac,Ac,List.getElem?_drop]
def Ky{tb:Ξ}{n:Nat}(h:tb.length=n):tb.map vc=Tb.tl n (fn tb):=by
 unfold Tb.tl;apply AZ
 ·simp[h]
 ·intro i h1 h2
  rw[AW,AW,A9];show _=vc (rowAt tb i);rw[Ab] at h1;rw[zw (Aa h1)]
section
variable{tb ub:Ξ}{m n:Nat}
def oD(a:tb.length=n)(b:ub.length=n):(cat tb ub).length=n:=by unfold cat;rw[AE,a,b,Nat.min_self]
def Kz(a:tb.length=n)(b:ub.length=n){i:Nat}(hi:i<n):rowAt (cat tb ub) i=rowAt tb i++rowAt ub i:=by
 have h1:=Aa (show i<tb.length from ω);have h2:=Aa (show i<ub.length from ω);rw[zw h1,zw h2];refine zw ?_;unfold cat;rw[List.getElem?_zipWith,h1,h2]
def Hz(a:tb.length=n)(b:ub.length=n)(w1:∀r∈tb,r.length=m){i:Nat}(hi:i<n):fn (cat tb ub) i=Tb.glue m (fn tb) (fn ub) i:=funext fun u=>by
 unfold fn Tb.glue;rw[Kz a b hi,Pv (w1 _ (zG ω))]
def Ev(a:tb.length=n)(b:ub.length=n)(w1:∀r∈tb,r.length=m):(cat tb ub).map vc=Tb.tl n (Tb.glue m (fn tb) (fn ub)):=by
 rw[Ky (oD a b)];exact Tb.gK fun i hi=>Hz a b w1 hi
def Py{ρ:Nat->Tb.Vc}{i:Nat}(h:i<=n):(Tb.tl n ρ).take i=Tb.tl i ρ:=by
 unfold Tb.tl;rw[<-List.map_take,List.take_range,Nat.min_eq_left h]
def KA(a:tb.length=n)(b:ub.length=n)(w1:∀r∈tb,r.length=m){i:Nat}(hi:i<=n):((cat tb ub).take i).map vc=Tb.tl i (Tb.glue m (fn tb) (fn ub)):=by
 rw[List.map_take,Ev a b w1,Py hi]
end
def HA{fr:Nat->List Int}{W:Nat}:∀{ps:List Nat}{rn:List Int},rn.length=W->(∀p∈ps,(fr p).length=W)->shrL fr rn ps=Tb.shr (vF fr) ps (vc rn)
 |[],_,_,_=>rfl
 |p::ps,rn,h,h2=>by
  have hp:=h2 p (AI ..);show _::shrL fr (cY fr rn p) ps=_::Tb.shr (vF fr) ps (Tb.step (vF fr) p (vc rn));rw[HA (ps:=ps) (GK h hp) fun q hq=>h2 q (AM _ hq),JF ω]
  rfl
structure Side(N M X B Y m n:Nat)(tb ub bb:Ξ):Prop where
 l1:tb.length=n
 l2:ub.length=n
 l3:bb.length=n
 w1:∀r∈tb,r.length=m
 w2:∀r∈ub,r.length=n
 w3:∀r∈bb,r.length=n
 n40:n<=40
 m40:m<=40
 nN:n<=N
 N1:1<=N
 N64:N<64
 bd:∀j,j<=n->Tb.Bd N M X B (Tb.tl j (Tb.glue m (fn tb) (fn ub)))
 row:∀i,i<n->∀P f,Tb.FS N M X B (Tb.tl i (Tb.glue m (fn tb) (fn ub))) P f->∀p∈P,(Tb.glue m (fn tb) (fn ub) i p).natAbs<=M
 hY:∀i,i<n->∀u,(Tb.glue m (fn tb) (fn ub) i u).natAbs<=Y
 B1:1<=B
 X1:1<=X
 Y1:1<=Y
 piv:B<2 ^ 9000
 lim:N*(Tb.cE N M X B*Y)<big
 bk:∀r∈bb,∀x∈r,x.natAbs<big
section
variable{N M X B Y m n:Nat}{tb ub bb:Ξ}
def Side.lenW(S:Side N M X B Y m n tb ub bb):∀r∈cat tb ub,r.length=m+n:=fun r hr=>by
 obtain⟨i,hi,rfl⟩:=Eu hr;rw[oD S.l1 S.l2] at hi;rw[Kz S.l1 S.l2 hi,A6,S.w1 _ (zG (by rw[S.l1];exact hi)),S.w2 _ (zG (by rw[S.l2];exact hi))]
def Side.mem(S:Side N M X B Y m n tb ub bb):∀r∈cat tb ub,∃i,i<n/\vc r=Tb.glue m (fn tb) (fn ub) i:=fun r hr=>by
 obtain⟨i,hi,rfl⟩:=Eu hr;rw[oD S.l1 S.l2] at hi;exact⟨i,hi,Hz S.l1 S.l2 S.w1 hi⟩
def Side.cC1(S:Side N M X B Y m n tb ub bb):1<=Tb.cC N X B:=Nat.mul_pos S.N1 (Nat.mul_pos S.B1 S.X1)
def Side.cK_le(S:Side N M X B Y m n tb ub bb):N*(Tb.cK N M X B*Y)<big:=
 At (Al _ (Ak _ (Ae (Tb.Hm S.B1) Tb.tf))) S.lim
def Side.at(S:Side N M X B Y m n tb ub bb){P:List Nat}{f:Nat->Tb.Vc}(F:Tb.FS N M X B ((cat tb ub).map vc) P f):∀r∈cat tb ub,∀p∈P,(vc r p).natAbs<=M:=by
 rw[Ev S.l1 S.l2 S.w1] at F;have h:=((S.bd n (Ad _)).bd P f F.ech F.srt F.gen (fun p hp=>(F.fr p hp).sp) F.len).2.1;intro r hr p hp;refine h (vc r) ?_ p hp;obtain⟨i,hi,e⟩:=S.mem r hr;rw[e];exact List.mem_map.mpr ⟨i,List.mem_range.mpr hi,rfl⟩
def Pz{R:List Tb.Vc}{P:List Nat}{f:Nat->Tb.Vc}(F:Tb.FS N M X B R P f):∀p∈P,∀q∈P,(f p q).natAbs<=B:=fun p hp q hq=>by
 rcases Bj p q with h|h|h
 ·have:=F.red p hp q hq h
  have:=F.piv q hq;(first|lia|omega)
 ·subst h;exact F.piv p hp
 ·rw[F.ech.z p hp q h];exact Ap _
def Side.shr_le(S:Side N M X B Y m n tb ub bb){P:List Nat}{fr:Nat->List Int}(F:Tb.FS N M X B ((cat tb ub).map vc) P (vF fr))(b:Wid (m+n) P fr):∀r∈cat tb ub,∀x∈shrL fr r P,x.natAbs<=M*2 ^ n:=by
 intro r hr x hx;rw[HA (S.lenW r hr) fun p hp=>(b.row p hp).2] at hx;have a:P.length=n:=by rw[F.len,Ab,oD S.l1 S.l2]
 have:=Tb.Oy F.ech F.srt F.red (F.gen (vc r) (List.mem_map.mpr ⟨r,hr,rfl⟩)) (V:=M) (fun p hp=>Ae (S.at F r hr p hp) (Nat.le_mul_of_pos_right _ (by have:=F.ech.pos p hp;(first|lia|omega)))) x hx
 rwa [a] at this
def Side.ok(S:Side N M X B Y m n tb ub bb):Ko N M X B Y m n tb ub bb:=by
 have a:=oD S.l1 S.l2;have l:∀r∈(cat tb ub).map vc,∀u,(r u).natAbs<=Y:=fun r hr u=>by
  obtain⟨q,hq,rfl⟩:=List.mem_map.mp hr;obtain⟨i,hi,e⟩:=S.mem q hq;rw[e];exact S.hY i hi u
 refine⟨S.l1,S.l2,S.l3,S.w1,S.w3,S.n40,by have:=S.m40;(first|lia|omega),S.w2,⟨by have:=S.m40;have:=S.n40;(first|lia|omega),by rw[a];exact S.nN,S.lenW,fun i hi=>?_,fun i r hr P f F p hp=>?_⟩,fun P fr F b r hr=>?_,fun P fr F b r hr x hx row g y hy=>?_⟩
 ·rw[a] at hi
  rw[KA S.l1 S.l2 S.w1 ω];refine⟨S.B1,S.piv,S.lim,fun r hr u=>?_,S.N64,S.bd (i+1) ω⟩;obtain⟨j,h,rfl⟩:=List.mem_map.mp hr;exact S.hY j (by have:=List.mem_range.mp h;(first|lia|omega)) u
 ·have hi:i<n:=by have:=(List.getElem?_eq_some_iff.mp hr).1;rwa [a] at this
  rw[KA S.l1 S.l2 S.w1 ω] at F;have:=S.row i hi P f F p hp
  rwa [<-Hz S.l1 S.l2 S.w1 hi,fn,zw hr] at this
 ·have d:P.length=n:=by rw[F.len,Ab,a]
  have c:((cat tb ub).map vc).length<=N:=by rw[Ab,a];exact S.nN
  have e1:1+P.length*(M*(1+B) ^ P.length*Tb.cC N X B)<=Tb.cK N M X B:=by
   unfold Tb.cK;have:P.length*(M*(1+B) ^ P.length*Tb.cC N X B)<=N*(M*(1+B) ^ N*Tb.cC N X B):=AR (by rw[d];exact S.nN) (Ak _ (Al _ (AC ω (by rw[d];exact S.nN))));(first|lia|omega)
  refine On (C:=1) (CF:=Tb.cC N X B) (V:=M) (VF:=B) l c F.fr (Pz F) F.ech.pos (fun p hp=>At (F.piv p hp) S.piv) b (S.lenW r hr) (Tb.Rep.mem (List.mem_map.mpr ⟨r,hr,rfl⟩)) (fun q hq=>S.at F r hr q hq) (fun p hp=>hp) ?_ ?_
  ·exact At (Al _ (Ak _ e1)) S.cK_le
  ·refine At (Al _ (Ak _ ?_)) S.cK_le
   unfold Tb.cK;(first|lia|omega)
 ·have h1:=S.shr_le F b r hr x hx
  refine oj ?_ (S.bk row g y hy);rw[Int.natAbs_neg];refine At h1 (At ?_ S.cK_le);have a1:2 ^ n<=(1+B) ^ N:=Ae (Bh (by have:=S.B1;(first|lia|omega)) _) (AC ω S.nN);have a2:M*2 ^ n<=M*(1+B) ^ N*Tb.cC N X B:=Ae (Al _ a1) (Nat.le_mul_of_pos_right _ S.cC1);have a3:M*2 ^ n<=Tb.cK N M X B:=by
   unfold Tb.cK;have:=Nat.le_mul_of_pos_left (M*(1+B) ^ N*Tb.cC N X B) S.N1;(first|lia|omega)
  exact Ae a3 (Ae (Nat.le_mul_of_pos_right _ S.Y1) (Nat.le_mul_of_pos_left _ S.N1))
end
def KB{w:Nat}:∀{ns:List Int}{tb:Ξ}{l:List Int},l.length=w->(∀r∈tb,r.length=w)->∀u,vc ((ns.zip tb).foldl cj l) u=vc l u+Tb.cmb ns (tb.map vc) u
 |[],tb,l,_,_,u=>by cases tb<;>(show vc l u=vc l u+0;(first|lia|omega))
 |_::_,[],l,_,_,u=>by show vc l u=vc l u+0;(first|lia|omega)
 |x::ns,r::tb,l,hl,h,u=>by
  have hr:=h r (AI ..);show vc ((ns.zip tb).foldl cj (cj l (x,r))) u=vc l u+(x*vc r u+Tb.cmb ns (tb.map vc) u);rw[KB (Kh hl hr) (fun r hr=>h r (AM _ hr)) u];have:vc (cj l (x,r)) u=vc l u - -x*vc r u:=by
   unfold cj dz;rw[Ed (by simp) (show l.length=r.length from ω)]
  rw[this,Int.neg_mul];(first|lia|omega)
def KC{w u:Nat}:vc (Ar w 0) u=0:=by
 unfold vc;rw[Ac,List.getElem?_replicate];split<;>rfl
def PB{w:Nat}{ns:List Int}{tb:Ξ}(h:∀r∈tb,r.length=w):vc (gH w ns tb)=Tb.cmb ns (tb.map vc):=funext fun u=>by
 unfold gH;rw[KB (List.length_replicate) h u,KC];(first|lia|omega)
def PD{w:Nat}{ns:List Int}{tb:Ξ}(h:∀r∈tb,r.length=w):(gH w ns tb).length=w:=
 Hs List.length_replicate fun z hz=>h z.2 (List.of_mem_zip hz).2
def Ent(tb:Ξ)(K:Nat):Prop:=∀i u,(fn tb i u).natAbs<=K
def Ent.mem{tb:Ξ}{K:Nat}(h:Ent tb K):∀r∈tb,∀x∈r,x.natAbs<=K:=fun r hr x hx=>by
 obtain⟨i,_,rfl⟩:=Eu hr;obtain⟨u,_,rfl⟩:=Ee hx;exact h i u
def Ent.mono{tb:Ξ}{K a:Nat}(h:Ent tb K)(hk:K<=a):Ent tb a:=fun i u=>Ae (h i u) hk
def oE{tb:Ξ}{K n:Nat}(a:tb.length=n)(h:∀i,i<n->∀u,(fn tb i u).natAbs<=K):Ent tb K:=fun i u=>by
 by_cases c:i<n
 ·exact h i c u
 ·unfold fn
  rw[lE ω];exact Ap _
def KD{P:List Nat}{g:Nat->List Int}{i:Nat}(h:i<P.length):rowAt (P.map g) i=g (Tb.pp P i):=by
 refine zw ?_;unfold Tb.pp;rw[Aj,Ac,Aa h]
 rfl
def Bu{n:Nat}{g:Nat->List Int}{i:Nat}(h:i<n):rowAt ((Af n).map g) i=g i:=zw (by rw[Aj,AH h];rfl)
def zY{n:Nat}{T:Ξ}{i:Nat}(h:i<n)(u:Nat):fn ((Af n).map (colAt T)) i u=fn T u i:=by
 unfold fn;rw[Bu h]
 by_cases c:u<T.length
 ·rw[zw (Aa c)]
  unfold colAt;show List.getD _ _ _=_;rw[Ac,Aj,Aa c]
  rfl
 ·rw[lE ω]
  show List.getD _ _ _=_;unfold colAt;rw[Ac,Aj,List.getElem?_eq_none ω]
  rfl
def zX{n:Nat}{T:Ξ}:((Af n).map (colAt T)).length=n:=by simp
def kc{n w:Nat}{T:Ξ}(h:T.length=w):∀r∈(Af n).map (colAt T),r.length=w:=fun r hr=>by
 obtain⟨j,_,rfl⟩:=List.mem_map.mp hr;unfold colAt;rw[Ab,h]
def oU{n i:Nat}(h:i<n):fn (unT n) i=Tb.un i:=funext fun t=>by
 unfold fn unT slpT;rw[Bu h];unfold b0 Tb.un Tb.dl vc;rw[List.length_replicate,if_pos h,Ac,List.getElem?_set,Ac,List.getElem?_replicate,if_pos h]
 by_cases c:i=t
 ·rw[if_pos c,if_pos c,List.length_replicate,if_pos h];rfl
 ·rw[if_neg c,if_neg c,List.getElem?_replicate]
  split<;>rfl
def Ew{n:Nat}:(unT n).length=n:=by unfold unT slpT;simp
def oX{n:Nat}:∀r∈unT n,r.length=n:=fun r hr=>by
 unfold unT slpT at hr;obtain⟨j,_,rfl⟩:=List.mem_map.mp hr;unfold b0;split<;>simp
section
variable{N M X B Y m n:Nat}{tb ub bb:Ξ}{P:List Nat}{fr:Nat->List Int}
structure Done(N M X B m n:Nat)(tb ub bb:Ξ)(P:List Nat)(fr:Nat->List Int)(nF bF jc:Ξ):Prop where
 fs:Tb.FS N M X B (Tb.tl n (Tb.glue m (fn tb) (fn ub))) P (vF fr)
 lP:P.length=n
 l1:nF.length=n
 l2:bF.length=n
 l3:jc.length=n
 w1:∀r∈nF,r.length=m
 w2:∀r∈bF,r.length=n
 w3:∀r∈jc,r.length=n
 f1:∀i u,i<n->u<m->fn nF i u=vF fr (Tb.pp P i) u
 f2:∀i,i<n->fn bF i=fun t=>vF fr (Tb.pp P i) (m+t)
 f3:Tb.tl n (fn jc)=Tb.ol n ((Tb.tl n (Tb.glue m (fn tb) (fn ub))).map fun r=>Tb.shr (vF fr) P r) (Tb.tl n (fn bb))
 e2:∀{a:Nat},Ent ub a->Ent bF (N*(Tb.cC N X B*a))
 e3:∀{b:Nat},Ent bb b->Ent jc (N*(M*2 ^ N*b))
def Side.done(S:Side N M X B Y m n tb ub bb)(F:Tb.FS N M X B ((cat tb ub).map vc) P (vF fr))(f:Wid (m+n) P fr):Done N M X B m n tb ub bb P fr (P.map fun p=>(fr p).take m) (P.map fun p=>(fr p).drop m) (jp n ((cat tb ub).map fun r=>shrL fr r P) bb):=by
 have w:=S.shr_le F f;have g:=F;rw[Ev S.l1 S.l2 S.w1] at g;have d:P.length=n:=by rw[F.len,Ab,oD S.l1 S.l2]
 have f2:∀i,i<n->fn (P.map fun p=>(fr p).drop m) i=fun t=>vF fr (Tb.pp P i) (m+t):=fun i hi=>funext fun t=>by
  unfold fn;rw[KD ω,Px]
  rfl
 have h:(jp n ((cat tb ub).map fun r=>shrL fr r P) bb).length=n:=by unfold jp;simp
 have l:∀j,j<n->fn (jp n ((cat tb ub).map fun r=>shrL fr r P) bb) j=Tb.cmb (colAt ((cat tb ub).map fun r=>shrL fr r P) j) (bb.map vc):=fun j c=>by
  unfold fn jp;rw[Bu c,PB S.w3]
 refine⟨g,d,by rw[Ab,d],by rw[Ab,d],h,fun r hr=>?_,fun r hr=>?_,fun r hr=>?_,fun i u hi o=>?_,f2,?_,fun{a} q=>?_,fun{b} hb=>?_⟩
 ·obtain⟨p,hp,rfl⟩:=List.mem_map.mp hr
  rw[List.length_take,(f.row p hp).2];(first|lia|omega)
 ·obtain⟨p,hp,rfl⟩:=List.mem_map.mp hr
  rw[List.length_drop,(f.row p hp).2];(first|lia|omega)
 ·unfold jp at hr
  obtain⟨j,_,rfl⟩:=List.mem_map.mp hr;exact PD S.w3
 ·unfold fn
  rw[KD ω,Pw,if_pos o]
  rfl
 ·have e:Tb.tl n (fn (jp n ((cat tb ub).map fun r=>shrL fr r P) bb))=(Af n).map fun j=>Tb.cmb (colAt ((cat tb ub).map fun r=>shrL fr r P) j) (bb.map vc):=Ba fun j c=>l j (List.mem_range.mp c)
  rw[e];unfold Tb.ol;refine Ba fun j _=>funext fun s=>?_;rw[Ky S.l3];have e2:(Tb.tl n (Tb.glue m (fn tb) (fn ub))).map (fun r=>Tb.shr (vF fr) P r)=(cat tb ub).map fun r=>shrL fr r P:=by
   rw[<-Ev S.l1 S.l2 S.w1,AT];exact Ba fun r hr=>(HA (S.lenW r hr) fun p hp=>(f.row p hp).2).symm
  rw[e2]
  rfl
 ·refine oE (n:=n) (by rw[Ab,d]) fun i hi u=>?_
  rw[f2 i hi];exact Tb.Oz g (fun i t hi=>q i t) _ (Tb.sW d hi) u
 ·refine oE h fun j c u=>?_
  rw[l j c];have z:(colAt ((cat tb ub).map fun r=>shrL fr r P) j).length=(bb.map vc).length:=by unfold colAt;rw[Ab,Ab,Ab,oD S.l1 S.l2,S.l3]
  have A:Tb.Rep (bb.map vc) (M*2 ^ n) (Tb.cmb (colAt ((cat tb ub).map fun r=>shrL fr r P) j) (bb.map vc)):=by
   refine⟨_,z,fun u=>rfl,fun x hx=>?_⟩;unfold colAt at hx;rw[AT] at hx;obtain⟨r,hr,rfl⟩:=List.mem_map.mp hx;show((shrL fr r P).getD j 0).natAbs<=_;rw[Ac];cases e:(shrL fr r P)[j]? with
   |none=>exact Ap _
   |some y=>exact w r hr y (Am e)
  have:=A.le (u:=u) (M:=b) fun v hv=>by
   obtain⟨r,hr,rfl⟩:=List.mem_map.mp hv;obtain⟨i,_,rfl⟩:=Eu hr;exact hb i u
  refine Ae this (AR (by rw[Ab,S.l3];exact S.nN) (Ak _ (Al _ (Tb.pw S.nN))))
end
end K26
end
section
namespace Tb
def Ker.mono{n r g g' b:Nat}{W:Nat->Vc}{Q:Nat->Nat}(K:Ker n r g b W Q)(h:g<=g'):Ker n r g' b W Q:=⟨K.qs,K.kz,K.kp,K.kq,fun i a hi c=>Ae (K.tq i a hi c) (Ak _ h),K.km⟩
def LM.mono{A S U V:Nat->Vc}{k w r D bU bV g g':Nat}{Bn Bf:List Vc}{QU QV:Nat->Nat}(I:LM A k w r D bU bV g S U V Bn Bf QU QV)(h:g<=g'):LM A k w r D bU bV g' S U V Bn Bf QU QV:=⟨I.rk,I.rw,Ae I.g1 h,I.bl,I.bu,I.bv,I.ku.mono h,I.kv,I.sl,I.pd⟩
end Tb
namespace K26
open PySem L2
structure cx where
 m:Nat
 x:Nat
 d:Nat
 b:Nat
def x1(N n:Nat)(m:cx):Nat:=m.x
def dd(N n:Nat)(m:cx):Nat:=m.d
def be(N n:Nat)(m:cx):Nat:=m.b
def m2(N n:Nat)(m:cx):Nat:=2*n+be N n m+x1 N n m+m.m
def x2(N n:Nat)(m:cx):Nat:=m2 N n m+(2+2*n+m.m+N)*N
def ga(N n:Nat)(m:cx):Nat:=n+x2 N n m+m2 N n m
def Tm(N n:Nat)(m:cx):Nat:=2*(N*dd N n m)+1
def kp(N n:Nat)(m:cx):Nat:=ga N n m+(n+1)*N+2*n+1
def k0(N n:Nat)(m:cx):Nat:=2*n+ga N n m+x2 N n m+m2 N n m+N+m.m
structure Good(N n:Nat)(m:cx):Prop where
 N1:1<=N
 N40:N<=40
 Nn:N<=2 ^ n
 piv:ga N n m<9000
 m9:m.m<=900
 db:m.d<=m.b
 lim:n+Tb.xE N n (n*Tm N n m+ga N n m) ((n*Tm N n m+1)*N+x2 N n m) (ga N n m)+(k0 N n m+kp N n m*(Tm N n m+1))<67107860
def lF(N n q:Nat):cx:=⟨q,(1+n+q)*N,(2+n+q)*N,n+q+(2+n+q)*N⟩
def KF{a b:Nat}(h:a<=2 ^ b)(hb:b<67108864):a<big:=by
 unfold big;exact At h (Nat.pow_lt_pow_right ξ (by rw[lf];exact hb))
noncomputable def low:Nat:=2 ^ (bt-1000)
def Ex{a b:Nat}(h:a<=2 ^ b)(hb:b<67107864):a<low:=by
 unfold low;exact At h (Nat.pow_lt_pow_right ξ (by rw[lf];exact hb))
def KG{a b:Nat}(h:a<=2 ^ b)(hb:b<67107863):a+1000<low:=by
 obtain⟨c,hc,hd⟩:∃c,bt-1000=c+1/\c=67107863:=⟨bt-1001,by rw[lf],by rw[lf]⟩;have h1:a<2 ^ c:=At h (Nat.pow_lt_pow_right ξ ω);have h2:2 ^ 10<=2 ^ c:=AC ξ ω;unfold low;rw[hc,Nat.pow_succ];have d:(2:Nat) ^ 10=1024:=ξ
 rw[d] at h2;generalize (2:Nat) ^ c=z at *;(first|lia|omega)
def pa{a:Nat}(h:a<low):a<big:=by
 unfold low at h;unfold big;exact Ay h (AC ξ (Nat.sub_le _ _))
section
variable{N n:Nat}{m:cx}
def iL(G:Good N n m):be N n m<=m2 N n m/\m2 N n m<=x2 N n m/\x2 N n m<=ga N n m/\dd N n m<=be N n m/\be N n m<=ga N n m/\x1 N n m<=m2 N n m:=by
 have h:m2 N n m<=x2 N n m:=A7 _ _;have a:ga N n m=n+x2 N n m+m2 N n m:=rfl;have b:m2 N n m=2*n+be N n m+x1 N n m+m.m:=rfl;have c:dd N n m<=be N n m:=G.db;(first|lia|omega)
def Good.cE(G:Good N n m){M X B Y mu x y t:Nat}(c:∃b,B=2 ^ b/\b<=ga N n m)(d:M=2 ^ mu)(e:X=2 ^ x)(f:Y=2 ^ y)(g:t<=Tm N n m+1)(h1:mu<=n*Tm N n m+ga N n m)(h2:x<=(n*Tm N n m+1)*N+x2 N n m)(h:y<=k0 N n m+kp N n m*t):N*(Tb.cE N M X B*Y)<big:=by
 obtain⟨b,rfl,hb⟩:=c;subst d e f;have i:y<=k0 N n m+kp N n m*(Tm N n m+1):=Ae h (Nat.add_le_add_left (Al _ g) _);have j:=Tb.Pt (N:=N) (n:=n) h1 h2 hb;have a:=G.lim;have a:n+Tb.xE N n (n*Tm N n m+ga N n m) ((n*Tm N n m+1)*N+x2 N n m) (ga N n m)+(k0 N n m+kp N n m*(Tm N n m+1))<67107860:=a;refine KF (Tb.zr G.Nn (Tb.zr (Tb.Ps G.N1 G.Nn) (Ad _))) ?_;(first|lia|omega)
def Good.entL(G:Good N n m){tb:Ξ}{y t:Nat}(h:Ent tb (2 ^ y))(a:t<=Tm N n m+1)(b:y<=k0 N n m+kp N n m*t):∀r∈tb,∀x∈r,x.natAbs<low:=fun r hr x hx=>by
 have c:y<=k0 N n m+kp N n m*(Tm N n m+1):=Ae b (Nat.add_le_add_left (Al _ a) _);have d:n+Tb.xE N n (n*Tm N n m+ga N n m) ((n*Tm N n m+1)*N+x2 N n m) (ga N n m)+(k0 N n m+kp N n m*(Tm N n m+1))<67107860:=G.lim;exact Ex (h.mem r hr x hx) ω
def Good.entM(G:Good N n m){tb:Ξ}{y t:Nat}(h:Ent tb (2 ^ y))(a:t<=Tm N n m+1)(b:y<=k0 N n m+kp N n m*t):∀r∈tb,∀x∈r,x.natAbs+1000<low:=fun r hr x hx=>by
 have c:y<=k0 N n m+kp N n m*(Tm N n m+1):=Ae b (Nat.add_le_add_left (Al _ a) _);have d:=G.lim;exact KG (h.mem r hr x hx) ω
def Good.ent(G:Good N n m){tb:Ξ}{y t:Nat}(h:Ent tb (2 ^ y))(a:t<=Tm N n m+1)(b:y<=k0 N n m+kp N n m*t):∀r∈tb,∀x∈r,x.natAbs<big:=fun r hr x hx=>pa (G.entL h a b r hr x hx)
structure LS(N n:Nat)(m:cx)(t e:Nat)(A:Nat->Tb.Vc)(k w r:Nat)(T U Bn V Bf:Ξ)(QU QV:Nat->Nat):Prop where
 kN:k<=N
 wN:w<=N
 lT:T.length=w
 lU:U.length=k
 lB:Bn.length=k
 lV:V.length=w
 lC:Bf.length=w
 wT:∀r∈T,r.length=k
 wU:∀r∈U,r.length=k
 wB:∀r∈Bn,r.length=k
 wV:∀r∈V,r.length=w
 wC:∀r∈Bf,r.length=w
 li:Tb.LI A k w r (2 ^ dd N n m) (2 ^ be N n m) (2 ^ ga N n m) (2 ^ e) (fn T) (fn U) (fn V) (Tb.tl k (fn Bn)) (Tb.tl w (fn Bf)) QU QV
 te:e<=n*t
 tm:t+Tb.ms r (fn T)<=Tm N n m
 eu:∃u,Ent U (2 ^ u)/\u+N*e<=k0 N n m+kp N n m*t
 eb:∃b,Ent Bn (2 ^ b)/\b+e<=k0 N n m+kp N n m*t
 ev:Ent V (2 ^ (k0 N n m+kp N n m*t))
 ec:Ent Bf (2 ^ (k0 N n m+kp N n m*t))
structure LH(N n:Nat)(m:cx)(t e:Nat)(A:Nat->Tb.Vc)(k w r:Nat)(T S U Bn V Bf:Ξ)(S0 U0:Nat->Tb.Vc)(QU QV:Nat->Nat):Prop where
 kN:k<=N
 wN:w<=N
 lS:S.length=k
 lU:U.length=k
 lB:Bn.length=k
 lV:V.length=w
 lC:Bf.length=w
 wS:∀r∈S,r.length=w
 wU:∀r∈U,r.length=k
 wB:∀r∈Bn,r.length=k
 wV:∀r∈V,r.length=w
 wC:∀r∈Bf,r.length=w
 lm:Tb.LM A k w r (2 ^ dd N n m) (2 ^ be N n m) (2 ^ ga N n m) (2 ^ e) S0 U0 (fn V) (Tb.tl k (fn Bn)) (Tb.tl w (fn Bf)) QU QV
 hS:∀i u,i<k->u<w->fn S i u=S0 i u
 hU:∀i,i<k->U0 i=fn U i
 ms:∀{M2 X2 B2:Nat}{P2:List Nat}{f2:Nat->Tb.Vc},Tb.Tri w r k M2 1 (Tb.glue k (fun u i=>S0 i u) (fn V)) (fun a=>k+QV a)->Tb.FS N M2 X2 B2 (Tb.tl w (Tb.glue k (fun u i=>S0 i u) (fn V))) P2 f2->Tb.ms r (fun u=>f2 (Tb.pls r k QV u))<Tb.ms r (fn T)
 te:e<=n*(t+1)
 tm:t+Tb.ms r (fn T)<=Tm N n m
 eu:∃u,Ent U (2 ^ u)/\u+N*e<=k0 N n m+kp N n m*(t+1)
 eb:∃b,Ent Bn (2 ^ b)/\b+e<=k0 N n m+kp N n m*(t+1)
 ev:Ent V (2 ^ (k0 N n m+kp N n m*t))
 ec:Ent Bf (2 ^ (k0 N n m+kp N n m*t))
def BF{q:Nat}{S a W W':Nat->Tb.Vc}{i:Nat}(h1:∀u,u<q->S i u=a i u)(h2:W i=W' i):Tb.glue q S W i=Tb.glue q a W' i:=funext fun u=>by
 unfold Tb.glue
 by_cases c:u<q
 ·rw[if_pos c,if_pos c,h1 u c]
 ·rw[if_neg c,if_neg c,h2]
def BJ{q:Nat}{S W:Nat->Tb.Vc}{i K:Nat}(h1:∀u,u<q->(S i u).natAbs<=K)(h2:∀t,(W i t).natAbs<=K)(u:Nat):(Tb.glue q S W i u).natAbs<=K:=by
 unfold Tb.glue
 by_cases c:u<q
 ·rw[if_pos c];exact h1 u c
 ·rw[if_neg c];exact h2 _
variable{t e k w r:Nat}{A:Nat->Tb.Vc}{T S U Bn V Bf:Ξ}{QU QV:Nat->Nat}{S0 U0:Nat->Tb.Vc}
def LH.rho(L:LH N n m t e A k w r T S U Bn V Bf S0 U0 QU QV){i:Nat}(hi:i<w):Tb.glue k (fn ((Af w).map (colAt S))) (fn V) i=Tb.glue k (fun u i=>S0 i u) (fn V) i:=
 BF (fun u a=>by rw[zY hi];exact L.hS u i a hi) rfl
def LH.tl(L:LH N n m t e A k w r T S U Bn V Bf S0 U0 QU QV){j:Nat}(a:j<=w):Tb.tl j (Tb.glue k (fn ((Af w).map (colAt S))) (fn V))=Tb.tl j (Tb.glue k (fun u i=>S0 i u) (fn V)):=Tb.gK fun i hi=>L.rho ω
def LH.tri(G:Good N n m)(L:LH N n m t e A k w r T S U Bn V Bf S0 U0 QU QV):Tb.Tri w r k (2 ^ ga N n m) 1 (Tb.glue k (fun u i=>S0 i u) (fn V)) (fun a=>k+QV a):=by
 have h:=iL G;exact L.lm.far_tri (Ad _) (Tb.pw ω)
def LH.side(G:Good N n m)(L:LH N n m t e A k w r T S U Bn V Bf S0 U0 QU QV):Side N (2 ^ ga N n m) (2 ^ N) (2 ^ ga N n m) (2 ^ (k0 N n m+kp N n m*t)) k w ((Af w).map (colAt S)) V Bf:=by
 have h:=iL G;have T2:=L.tri G;have g:=G.N40;have l:=L.tm;have o:=L.wN;refine⟨zX,L.lV,L.lC,kc L.lS,L.wV,L.wC,ω,by have:=L.kN;(first|lia|omega),L.wN,G.N1,ω,fun j b=>?_,fun i hi P f F p hp=>?_,fun i hi u=>?_,AF,AF,AF,Nat.pow_lt_pow_right ξ G.piv,?_,?_⟩
 ·rw[L.tl b]
  refine(Tb.G2 T2 (B:=2 ^ ga N n m) (N:=N) (fun a c=>?_) (fun q hq=>?_) L.wN b).mono (Ad _) (by show(1+1) ^ N<=2 ^ N;exact Ad _) (Ad _)
  ·have:=T2.km a c;(first|lia|omega)
  ·rw[Tb.jf (g':=S0) fun i hi=>by rw[Tb.zO (by have:=L.lm.rk;(first|lia|omega))]]
   exact Ae (L.lm.pd q hq) (Tb.pw ω)
 ·rw[L.tl ω] at F
  rw[L.rho hi];exact T2.row hi F p hp
 ·rw[L.rho hi]
  refine BJ (fun u d=>Ae (L.lm.small (u:=i) (i:=u) hi d) (Tb.pw ?_)) (fun s=>L.ev i s) u;unfold k0;(first|lia|omega)
 ·exact G.cE ⟨_,rfl,Ad _⟩ rfl rfl rfl (t:=t) ω ω (by have:1*N<=(n*Tm N n m+1)*N:=Ak _ ω;(first|lia|omega)) (Ad _)
 ·exact G.ent (t:=t) L.ec ω (Ad _)
def kn:k0 N n m+kp N n m*(t+1)=k0 N n m+kp N n m*t+kp N n m:=by rw[Nat.mul_add,Nat.mul_one];(first|lia|omega)
def LH.next(G:Good N n m)(L:LH N n m t e A k w r T S U Bn V Bf S0 U0 QU QV){P:List Nat}{fr:Nat->List Int}{T' V' h:Ξ}(D:Done N (2 ^ ga N n m) (2 ^ N) (2 ^ ga N n m) k w ((Af w).map (colAt S)) V Bf P fr T' V' h):LS N n m (t+1) e A k w r T' U Bn V' h QU QV:=by
 have j:=L.tri G;have F:=D.fs;rw[L.tl (Ad _)] at F;obtain⟨l,J,_,_⟩:=L.lm.far_done j F;have p:=L.ms j F;have d:∀i,i<w->Tb.pp P i=Tb.pls r k QV i:=fun i hi=>by
  unfold Tb.pp;rw[l,Ac,Aj,AH hi];rfl
 have f:∀u i,u<w->i<k->vF fr (Tb.pls r k QV u) i=fn T' u i:=fun u i c hi=>by rw[D.f1 u i c hi,d u c]
 have rk:=J.rk;have q:=J.rw;have g:=D.f3;rw[L.tl (Ad _)] at g;have o:∀a b:Nat,2*n+ga N n m+N<=kp N n m:=fun _ _=>by unfold kp;rw[Nat.add_mul];(first|lia|omega)
 have h1:=o 0 0;refine⟨L.kN,L.wN,D.l1,L.lU,L.lB,D.l2,D.l3,D.w1,L.wU,L.wB,D.w2,D.w3,?_,L.te,?_,L.eu,L.eb,?_,?_⟩
 ·rw[<-g] at J
  exact J.cg f L.hU fun u c=>by rw[D.f2 u c,d u c]
 ·rw[<-Tb.Pu (T:=fun u=>vF fr (Tb.pls r k QV u)) fun u i c hi=>f u i ω ω]
  have:=L.tm;(first|lia|omega)
 ·refine(D.e2 L.ev).mono ?_
  rw[kn];refine Ae (Tb.zr G.Nn (Tb.zr (Tb.oA G.Nn) (Ad _))) (Tb.pw ?_);(first|lia|omega)
 ·refine(D.e3 L.ec).mono ?_
  rw[kn];refine Ae (Tb.zr G.Nn (Tb.zr (Tb.zr (Ad _) (Ad _)) (Ad _))) (Tb.pw ?_);(first|lia|omega)
end
end K26
end
section
namespace Tb
def KH{U:Nat->Vc}{r u:Nat}:∀(n i:Nat),ss U r n i u=ss (fun i _=>U i u) r n i 0
 |0,_=>rfl
 |n+1,i=>by show U i u+ss U r n (i+1) u=U i u+_;rw[KH n (i+1)]
def KI{C:Nat->Vc}{r:Nat}:∀(n:Nat),n+1<=r->∀i,h_ C r n i=if r-n<=i/\i<r then(fun s=>C i s-C (i-1) s) else C i
 |0,h,i=>by show C i=_;rw[if_neg ω]
 |n+1,h,i=>by
  have a:=KI (C:=C) (r:=r) n ω;show put (h_ C r n) (r-1-n) (fun s=>h_ C r n (r-1-n) s-h_ C r n (r-2-n) s) i=_
  by_cases e:i=r-1-n
  ·rw[e,zU,if_pos ω,a (r-1-n),a (r-2-n),if_neg ω,if_neg ω,show r-1-n-1=r-2-n from ω]
  ·rw[dG e,a i]
   by_cases h2:r-n<=i/\i<r
   ·rw[if_pos h2,if_pos ω]
   ·rw[if_neg h2,if_neg ω]
end Tb
namespace K26
open PySem L2
def KJ{tb:Ξ}{j i:Nat}{x:List Int}(h:j<tb.length):rowAt (tb.set j x) i=if i=j then x else rowAt tb i:=by
 unfold rowAt;rw[Ac,Ac,List.getElem?_set]
 by_cases c:i=j
 ·rw[if_pos c.symm,if_pos c,if_pos h];rfl
 ·rw[if_neg (Ne.symm c),if_neg c]
def KL{a b:List Int}{q:Int}(h:a.length=b.length):vc (dz a q b)=fun u=>vc a u-q*vc b u:=by unfold dz;rw[Ed (by simp) h]
def KM{a b:List Int}{q:Int}(h:a.length=b.length):(dz a q b).length=a.length:=by unfold dz;rw[AE];(first|lia|omega)
section
variable{tb:Ξ}{r W:Nat}
def tI(hr:r<=tb.length)(hw:∀x∈tb,x.length=W):∀n,n+1<=r->∀x∈slT tb r n,x.length=W
 |0,_,x,hx=>hw x hx
 |n+1,h,x,hx=>by
  have a:=tI hr hw n ω;have b:=ot (tb:=tb) (r:=r) n;rcases List.mem_or_eq_of_mem_set hx with hx|rfl
  ·exact a x hx
  ·rw[KM (by rw[a _ (zG ω),a _ (zG ω)])]
   exact a _ (zG ω)
def Ey(hr:r<=tb.length)(hw:∀x∈tb,x.length=W):∀n,n+1<=r->∀x∈slB tb r n,x.length=W
 |0,_,x,hx=>hw x hx
 |n+1,h,x,hx=>by
  have a:=Ey hr hw n ω;have b:=y8 (tb:=tb) (r:=r) n;rcases List.mem_or_eq_of_mem_set hx with hx|rfl
  ·exact a x hx
  ·rw[KM (by rw[a _ (zG ω),a _ (zG ω)])]
   exact a _ (zG ω)
def Ez(hr:r<=tb.length)(hw:∀x∈tb,x.length=W):∀n,n+1<=r->fn (slT tb r n)=Tb.ce (fn tb) r n
 |0,_=>rfl
 |n+1,h=>by
  have b:=Ez hr hw n ω;have a:=tI hr hw n ω;have d:=ot (tb:=tb) (r:=r) n
  funext i
  show vc (rowAt ((slT tb r n).set (r-2-n) _) i)=Tb.put (Tb.ce (fn tb) r n) (r-2-n) _ i;rw[KJ ω,<-b];unfold Tb.put
  by_cases c:i=r-2-n
  ·rw[if_pos c,if_pos c,KL (by rw[a _ (zG ω),a _ (zG ω)])]
   funext u
   show vc _ u - -1*vc _ u=vc _ u+vc _ u;(first|lia|omega)
  ·rw[if_neg c,if_neg c];rfl
def HB(hr:r<=tb.length)(hw:∀x∈tb,x.length=W):∀n,n+1<=r->fn (slB tb r n)=Tb.h_ (fn tb) r n
 |0,_=>rfl
 |n+1,h=>by
  have b:=HB hr hw n ω;have a:=Ey hr hw n ω;have d:=y8 (tb:=tb) (r:=r) n
  funext i
  show vc (rowAt ((slB tb r n).set (r-1-n) _) i)=Tb.put (Tb.h_ (fn tb) r n) (r-1-n) _ i;rw[KJ ω,<-b];unfold Tb.put
  by_cases c:i=r-1-n
  ·rw[if_pos c,if_pos c,KL (by rw[a _ (zG ω),a _ (zG ω)])]
   funext u
   show vc _ u-1*vc _ u=vc _ u-vc _ u;(first|lia|omega)
  ·rw[if_neg c,if_neg c];rfl
def HC(hr:r<=tb.length)(hw:∀x∈tb,x.length=W){K n:Nat}(h:n+1<=r)(a:Ent tb K):Ent (slT tb r n) (r*K):=fun i u=>by
 rw[Ez hr hw n h,Tb.G7 n h];split
 ·exact Ae (Tb.G8 (K:=K) (r-i) i fun j _ _=>a j u) (Ak _ ω)
 ·exact Ae (a i u) (Nat.le_mul_of_pos_left _ ω)
def KN(hr:r<=tb.length)(hw:∀x∈tb,x.length=W){K n:Nat}(h:n+1<=r)(a:Ent tb K):Ent (slB tb r n) (2*K):=fun i u=>by
 rw[HB hr hw n h,Tb.KI n h];split
 ·have h1:=a i u
  have h2:=a (i-1) u;show(fn tb i u-fn tb (i-1) u).natAbs<=_;(first|lia|omega)
 ·have:=a i u;(first|lia|omega)
end
section
variable{N n:Nat}{m:cx}{t e k w r:Nat}{A:Nat->Tb.Vc}{T U Bn V Bf:Ξ}{QU QV:Nat->Nat}
def LS.rho(L:LS N n m t e A k w r T U Bn V Bf QU QV){i:Nat}(hi:i<k):Tb.glue w (fn ((Af k).map (colAt T))) (fn U) i=Tb.glue w (fun i u=>fn T u i) (fn U) i:=BF (fun u a=>zY hi u) rfl
def LS.tl(L:LS N n m t e A k w r T U Bn V Bf QU QV){j:Nat}(a:j<=k):Tb.tl j (Tb.glue w (fn ((Af k).map (colAt T))) (fn U))=Tb.tl j (Tb.glue w (fun i u=>fn T u i) (fn U)):=Tb.gK fun i hi=>L.rho ω
def LS.tri(G:Good N n m)(L:LS N n m t e A k w r T U Bn V Bf QU QV):Tb.Tri k r w (2 ^ (e+be N n m)) (2 ^ e) (Tb.glue w (fun i u=>fn T u i) (fn U)) (fun a=>w+QU a):=by
 have h:=iL G;exact L.li.near_tri (by rw[Nat.pow_add];exact Ad _) (Tb.pw ω)
def LS.tT(L:LS N n m t e A k w r T U Bn V Bf QU QV):t<=Tm N n m:=by have:=L.tm;(first|lia|omega)
def LS.eT(L:LS N n m t e A k w r T U Bn V Bf QU QV):e<=n*Tm N n m:=Ae L.te (Al _ L.tT)
def LS.side(G:Good N n m)(L:LS N n m t e A k w r T U Bn V Bf QU QV):Side N (2 ^ (e+be N n m)) (2 ^ ((e+1)*N)) (2 ^ be N n m) (2 ^ (k0 N n m+kp N n m*t)) w k ((Af k).map (colAt T)) U Bn:=by
 have h:=iL G;have T1:=L.tri G;have o:=G.N40;have tT:=L.tT;have eT:=L.eT;obtain⟨v,g,x⟩:=L.eu;obtain⟨y,l,z⟩:=L.eb;refine⟨zX,L.lU,L.lB,kc L.lT,L.wU,L.wB,by have:=L.kN;(first|lia|omega),by have:=L.wN;(first|lia|omega),L.kN,G.N1,ω,fun j b=>?_,fun i hi P f F p hp=>?_,fun i hi u=>?_,AF,AF,AF,Nat.pow_lt_pow_right ξ (by have:=G.piv;(first|lia|omega)),?_,?_⟩
 ·rw[L.tl b]
  refine(Tb.G2 T1 (B:=2 ^ be N n m) (N:=N) (fun a c=>?_) (fun q hq=>?_) L.kN b).mono (Ad _) Tb.kb (Ad _)
  ·show(Tb.glue w (fun i u=>fn T u i) (fn U) (r+a) (w+QU a)).natAbs<=_
   rw[Tb.zW];exact L.li.ku.km a c
  ·rw[Tb.G6 L.li hq]
   exact Ae (L.li.pd q hq) (Tb.pw ω)
 ·rw[L.tl ω] at F
  rw[L.rho hi];exact T1.row hi F p hp
 ·rw[L.rho hi]
  refine BJ (fun u d=>Ae (L.li.small (u:=u) (i:=i) d hi) (Tb.pw ?_)) (fun s=>Ae (g i s) (Tb.pw ω)) u;unfold k0;(first|lia|omega)
 ·refine G.cE ⟨_,rfl,ω⟩ rfl rfl rfl (t:=t) ω ω ?_ (Ad _)
  have:(e+1)*N<=(n*Tm N n m+1)*N:=Ak _ ω;(first|lia|omega)
 ·exact G.ent (t:=t) l ω ω
def LS.near(G:Good N n m)(L:LS N n m t e A k w r T U Bn V Bf QU QV)(hd:¬Tb.Dg r (fn T)){P:List Nat}{fr:Nat->List Int}{f U' c:Ξ}(D:Done N (2 ^ (e+be N n m)) (2 ^ ((e+1)*N)) (2 ^ be N n m) w k ((Af k).map (colAt T)) U Bn P fr f U' c):LH N n m t 0 A k w r T f U' c V Bf (fun i=>vF fr (Tb.pls r w QU i)) (fun i s=>vF fr (Tb.pls r w QU i) (w+s)) QU QV:=by
 have d:=L.tri G;have F:=D.fs;rw[L.tl (Ad _)] at F;obtain⟨l,J,_,_⟩:=L.li.near_done d F;have a:∀i,i<k->Tb.pp P i=Tb.pls r w QU i:=fun i hi=>by
  unfold Tb.pp;rw[l,Ac,Aj,AH hi];rfl
 have b:=D.f3;rw[L.tl (Ad _)] at b;rw[<-b] at J;have h:=iL G;have hk:2*n+be N n m+N<=kp N n m:=by unfold kp;rw[Nat.add_mul];(first|lia|omega)
 obtain⟨v,o,x⟩:=L.eu;obtain⟨y,p,z⟩:=L.eb;refine⟨L.kN,L.wN,D.l1,D.l2,D.l3,L.lV,L.lC,D.w1,D.w2,D.w3,L.wV,L.wC,J,fun i u hi g=>by rw[D.f1 i u hi g,a i hi],fun i hi=>by rw[D.f2 i hi,a i hi],fun j q=>Tb.OI L.li hd d F j q,Ap _,L.tm,⟨_,(D.e2 o).mono (Tb.zr G.Nn (Tb.zr (Tb.oA G.Nn) (Ad _))),?_⟩,⟨_,(D.e3 p).mono (Tb.zr G.Nn (Tb.zr (Tb.zr (Ad _) (Ad _)) (Ad _))),?_⟩,L.ev,L.ec⟩
 ·rw[kn,Nat.add_mul,Nat.mul_comm e N];(first|lia|omega)
 ·rw[kn];(first|lia|omega)
def LS.slSml(G:Good N n m)(L:LS N n m t e A k w r T U Bn V Bf QU QV):∀j,j<r->Sml (slT ((Af k).map (colAt T)) r j)/\Sml (slT U r j)/\Sml (slB Bn r j):=fun j g=>by
 have h:=iL G;have rk:=L.li.rk;have s:=L.kN;have f:=G.N40;have tT:=L.tT;have rn:r<=2 ^ n:=Ae ω G.Nn;obtain⟨l,a,o⟩:=L.eu;obtain⟨p,b,q⟩:=L.eb;have hk:n+1<=kp N n m:=by unfold kp;(first|lia|omega)
 have c:be N n m<=k0 N n m:=by unfold k0;(first|lia|omega)
 have eT:Ent ((Af k).map (colAt T)) (2 ^ be N n m):=oE zX fun i hi u=>by
  rw[zY hi]
  by_cases d:u<w
  ·exact Ae (L.li.small d hi) (Tb.pw ω)
  ·unfold fn
   rw[lE (by rw[L.lT];(first|lia|omega))];exact Ap _
 have e1:=HC (n:=j) (r:=r) (by rw[zX];exact rk) (kc (n:=k) L.lT) ω eT;have e2:=HC (n:=j) (r:=r) (by rw[L.lU];exact rk) L.wU ω a;have e3:=KN (n:=j) (r:=r) (by rw[L.lB];exact rk) L.wB ω b;refine⟨fun x hx=>⟨?_,G.ent (t:=t+1) (e1.mono (Tb.zr rn (Ad _))) ω (by rw[kn];(first|lia|omega)) x hx⟩,fun x hx=>⟨?_,G.ent (t:=t+1) (e2.mono (Tb.zr rn (Ad _))) ω (by rw[kn];(first|lia|omega)) x hx⟩,fun x hx=>⟨?_,G.ent (t:=t+1) (e3.mono (Tb.zr (show 2<=2 ^ 1 from ξ) (Ad _))) ω (by rw[kn];(first|lia|omega)) x hx⟩⟩
 ·rw[tI (by rw[zX];exact rk) (kc (n:=k) L.lT) j ω x hx];have:=L.wN;(first|lia|omega)
 ·rw[tI (by rw[L.lU];exact rk) L.wU j ω x hx];(first|lia|omega)
 ·rw[Ey (by rw[L.lB];exact rk) L.wB j ω x hx];(first|lia|omega)
def LS.slid(G:Good N n m)(L:LS N n m t e A k w r T U Bn V Bf QU QV)(hr:1<=r)(hd:Tb.Dg r (fn T))(o:¬∀i,i+1<r->fn T i i ∣ fn T (i+1) (i+1)):LH N n m t (e+n) A k w r T (slT ((Af k).map (colAt T)) r (r-1)) (slT U r (r-1)) (slB Bn r (r-1)) V Bf (fun i u=>Tb.aM k w A (Tb.ce (fn U) r (r-1) i) (fn V u)) (Tb.ce (fn U) r (r-1)) QU QV:=by
 have rk:=L.li.rk;have y:=L.li.rw;obtain⟨J,val⟩:=L.li.slid hr hd;have rn:r<=2 ^ n:=Ae rk (Ae L.kN G.Nn);have J:=J.mono (g':=2 ^ (e+n)) (by rw[Nat.pow_add,Nat.mul_comm];exact Al _ rn);obtain⟨q,h,s⟩:=L.eu;obtain⟨v,l,x⟩:=L.eb;have hk:n+N*n+N<=kp N n m/\n+1<=kp N n m:=by unfold kp;rw[Nat.add_mul,Nat.mul_comm n N];(first|lia|omega)
 have e1:fn (slT U r (r-1))=Tb.ce (fn U) r (r-1):=Ez (by rw[L.lU];exact rk) L.wU (r-1) ω;have e2:fn (slB Bn r (r-1))=Tb.h_ (fn Bn) r (r-1):=HB (by rw[L.lB];exact rk) L.wB (r-1) ω;rw[<-e2] at J;refine⟨L.kN,L.wN,by rw[ot];exact zX,by rw[ot];exact L.lU,by rw[y8];exact L.lB,L.lV,L.lC,tI (by rw[zX];exact rk) (kc (n:=k) L.lT) _ ω,tI (by rw[L.lU];exact rk) L.wU _ ω,Ey (by rw[L.lB];exact rk) L.wB _ ω,L.wV,L.wC,J,fun i u hi a=>?_,fun i hi=>by rw[e1],fun d p=>Tb.OJ L.li hr hd o d p,?_,L.tm,⟨_,(HC (n:=r-1) (by rw[L.lU];exact rk) L.wU ω h).mono (Tb.zr rn (Ad _)),?_⟩,⟨_,(KN (n:=r-1) (by rw[L.lB];exact rk) L.wB ω l).mono (Tb.zr (show 2<=2 ^ 1 from ξ) (Ad _)),?_⟩,L.ev,L.ec⟩
 ·have e3:fn (slT ((Af k).map (colAt T)) r (r-1))=Tb.ce (fn ((Af k).map (colAt T))) r (r-1):=Ez (by rw[zX];exact rk) (kc (n:=k) L.lT) (r-1) ω
  rw[e3,val i u hi a,Tb.j5 hr];have zero:∀j,j<k->j≠u->fn T u j=0:=fun j f ne=>by
   by_cases c:u<r/\j<r
   ·exact hd u j c.1 c.2 (Ne.symm ne)
   ·exact L.li.to u j a f ω
  by_cases c:i<r
  ·rw[if_pos c,Tb.KH,Tb.G9 (u:=u) (r-i) i fun j h1 h2 g=>by rw[zY (show j<k from ω)];exact zero j ω g]
   by_cases b:i<=u/\u<r
   ·rw[if_pos ω,if_pos b,zY ω]
   ·rw[if_neg ω,if_neg b]
  ·rw[if_neg c,if_neg ω,zY hi]
   exact L.li.to u i a hi (.inr ω)
 ·rw[Nat.mul_add,Nat.mul_one];have:=L.te;(first|lia|omega)
 ·rw[kn,Nat.mul_add];(first|lia|omega)
 ·rw[kn];(first|lia|omega)
end
end K26
end
section
namespace Tb
def KO{k:Nat}{a b:Vc}{q:Int}(h:∀t,t<k->q ∣ b t):q ∣ dot k a b:=by
 induction k with
 |zero=>exact Int.dvd_zero _
 |succ k ih=>exact Int.dvd_add (ih fun t c=>h t ω) (Int.dvd_trans (h k ω) (Int.dvd_mul_left _ _))
def HD{k:Nat}{x c:Vc}{Z:Nat->Vc}{e:Vc}:∀n,dot n (fun j=>dot k x (fun l=>c l*Z l j)) e=dot k x (fun l=>c l*dot n (Z l) e)
 |0=>by
  show(0:Int)=dot k x (fun l=>c l*0);have:∀k,dot k x (fun l=>c l*0)=0:=fun k=>by
   induction k with
   |zero=>rfl
   |succ k ih=>show dot k x _+x k*(c k*0)=0;rw[ih];simp
  rw[this]
 |n+1=>by
  show dot n _ e+dot k x (fun l=>c l*Z l n)*e n=dot k x (fun l=>c l*(dot n (Z l) e+Z l n*e n));rw[HD n,A5 _ (e n),Int.add_comm,<-je];exact zi fun l _=>by
   show e n*(c l*Z l n)+c l*dot n (Z l) e=c l*(dot n (Z l) e+Z l n*e n);rw[Bi,A5 (e n),AS,Int.add_comm]
def HE{n i:Nat}{s:Int}{e:Vc}(hi:i<n):dot n (fun j=>if i=j then s else 0) e=s*e i:=by
 have:∀m,m<=n->dot m (fun j=>if i=j then s else 0) e=if i<m then s*e i else 0:=by
  intro m
  induction m with
  |zero=>intro _;rw[if_neg ω];rfl
  |succ m ih=>
   intro b;show dot m _ e+(if i=m then s else 0)*e m=_;rw[ih ω]
   by_cases c:i=m
   ·subst c;rw[if_neg ω,if_pos rfl,if_pos ω];(first|lia|omega)
   ·rw[if_neg c]
    by_cases a:i<m
    ·rw[if_pos a,if_pos ω];(first|lia|omega)
    ·rw[if_neg a,if_neg ω];(first|lia|omega)
 rw[this n (Ad _),if_pos hi]
def PF{n:Nat}{z a b:Vc}:dot n z (fun j=>a j-b j)=dot n z a-dot n z b:=by
 have:=je (k:=n) (a:=z) (b:=b) (b':=a) (x:=-1);rw[show dot n z a-dot n z b=-1*dot n z b+dot n z a from ω,<-this];exact zi fun t _=>ω
def bq(q:Nat)(s:Int):Nat:=q / Nat.gcd s.natAbs q
def EA{q:Nat}{s:Int}:Nat.gcd s.natAbs q*bq q s=q:=Nat.mul_div_cancel' (Nat.gcd_dvd_right _ _)
def EB{q:Nat}{s:Int}(hq:1<=q):1<=bq q s:=by
 rcases Nat.eq_zero_or_pos (bq q s) with z|z
 ·have:=EA (q:=q) (s:=s);rw[z] at this;(first|lia|omega)
 ·exact z
def PH{q:Nat}{s:Int}(hq:1<=q)(h:¬(q:Int) ∣ s):2<=bq q s:=by
 have h1:=EB (s:=s) hq;rcases Bk (bq q s) 2 with c|c
 ·have e:=EA (q:=q) (s:=s)
  rw[show bq q s=1 from ω,Nat.mul_one] at e;refine absurd ?_ h;have:=Nat.gcd_dvd_left s.natAbs q;rw[e] at this;exact Int.ofNat_dvd_left.mpr this
 ·exact c
def PJ{q:Nat}{s y:Int}(h:(bq q s:Int) ∣ y):(q:Int) ∣ s*y:=by
 obtain⟨f,rfl⟩:=h;obtain⟨i,j⟩:=Nat.gcd_dvd_left s.natAbs q;have e:=EA (q:=q) (s:=s);have hd:((Nat.gcd s.natAbs q:Nat):Int) ∣ s:=Int.ofNat_dvd_left.mpr (Nat.gcd_dvd_left _ _);obtain⟨c,d⟩:=hd;refine⟨c*f,?_⟩;have a:(q:Int)=(Nat.gcd s.natAbs q:Nat)*(bq q s:Nat):=by rw[<-Int.natCast_mul,e]
 clear j i e;generalize ((Nat.gcd s.natAbs q:Nat):Int)=g at d a;generalize ((bq q s:Nat):Int)=b at a ⊢;rw[a,d,AS,AS,Int.mul_left_comm c]
def PK{q:Nat}{s e:Int}(hq:1<=q)(h:(q:Int) ∣ s*e):(bq q s:Int) ∣ e:=by
 have h1:q ∣ s.natAbs*e.natAbs:=by rw[<-AB];exact Int.ofNat_dvd_left.mp h
 have a:0<Nat.gcd s.natAbs q:=Nat.gcd_pos_of_pos_right _ hq;have b:Nat.Coprime (bq q s) (s.natAbs / Nat.gcd s.natAbs q):=(Nat.coprime_div_gcd_div_gcd a).symm;have es:s.natAbs=Nat.gcd s.natAbs q*(s.natAbs / Nat.gcd s.natAbs q):=(Nat.mul_div_cancel' (Nat.gcd_dvd_left _ _)).symm;have h2:Nat.gcd s.natAbs q*bq q s ∣ Nat.gcd s.natAbs q*((s.natAbs / Nat.gcd s.natAbs q)*e.natAbs):=by
  rw[EA,<-AQ,<-es];exact h1
 have c:bq q s ∣ (s.natAbs / Nat.gcd s.natAbs q)*e.natAbs:=Nat.dvd_of_mul_dvd_mul_left a h2;exact Int.ofNat_dvd_left.mpr (b.dvd_of_dvd_mul_left c)
def KP:∀{l:List Nat},(∀x∈l,1<=x)->1<=pr l
 |[],_=>Ad _
 |t::l,h=>Nat.mul_pos (h t (.head _)) (KP fun x hx=>h x (.tail _ hx))
def KQ{k w i q:Nat}{s s':Nat->Int}{X Z:Nat->Vc}(E:∀a j,a<k->j<w->dot k (X a) (fun l=>s' l*Z l j)=if a=j then s a else 0)(hk:i<k)(hw:i<w)(hq:1<=q)(F:∀l,i<=l->l<k->(q:Int) ∣ s' l)(G:∀j,j<i->s j=s' j):(q:Int) ∣ s i:=by
 refine AD fun no=>?_;have A:=PH hq no
 let g:List Int->List Int:=fun c=>(Af i).map fun l=>dot (i+1) (Z l) (vl c)%(bq q (s l):Int)
 have big:(allb ((Af i).map fun j=>bq q (s j))).length<(allb ((Af (i+1)).map fun j=>bq q (s j))).length:=by
  rw[lg,lg,List.range_succ,Aw,sL];have:=KP (l:=(Af i).map fun j=>bq q (s j)) fun x hx=>by
   obtain⟨j,_,rfl⟩:=List.mem_map.mp hx;exact EB hq
  show _<_*(bq q (s i)*1);rw[Nat.mul_one];have h2:pr ((Af i).map fun j=>bq q (s j))*2<=pr ((Af i).map fun j=>bq q (s j))*bq q (s i):=Al _ A;(first|lia|omega)
 obtain⟨c,hc,d,hd,ne,e⟩:=fC g _ _ (sI _) (fun c _=>j0.mpr ⟨by simp[g],fun l x t hx b=>by
  simp only[g,Aj] at hx b
  by_cases f:l<i
  ·rw[AH f] at hx b
   simp at hx b;subst hx b;have:(0:Int)<(bq q (s l):Int):=by have:=EB (s:=s l) hq;(first|lia|omega)
   exact⟨Int.emod_nonneg _ ω,Int.emod_lt_of_pos _ this⟩
  ·rw[List.getElem?_eq_none (by simpa using f)] at hx;cases hx⟩) big
 obtain⟨v,y⟩:=j0.mp hc;obtain⟨ld,bd⟩:=j0.mp hd;rw[Ab,AU] at v ld;have o:∀a,a<=i->(q:Int) ∣ s a*(vl c a-vl d a):=fun a H=>by
  have h1:dot (i+1) (fun j=>dot k (X a) (fun l=>s' l*Z l j)) (fun j=>vl c j-vl d j)=s a*(vl c a-vl d a):=by
   rw[<-HE (n:=i+1) (e:=fun j=>vl c j-vl d j) (show a<i+1 from ω)];exact zF fun j I=>E a j ω ω
  rw[<-h1,HD];refine KO fun l f=>?_;rcases Bk l i with c1|c1
  ·rw[<-G l c1]
   refine PJ ?_;rw[PF];have e2:dot (i+1) (Z l) (vl c)%(bq q (s l):Int)=dot (i+1) (Z l) (vl d)%(bq q (s l):Int):=by
    have:=congrArg (fun x:List Int=>x[l]?) e;simp only[g,Aj,AH c1] at this;exact AY this
   exact Int.dvd_of_emod_eq_zero (by rw[Int.sub_emod,e2];simp)
  ·exact Int.dvd_trans (F l c1 f) (Int.dvd_mul_right _ _)
 refine ne (AZ ω fun a h1 h2=>?_);have r:=PK hq (o a ω);have C:vl c a=c[a]:=by unfold vl;rw[Ac,Aa h1];rfl
 have p:vl d a=d[a]:=by unfold vl;rw[Ac,Aa h2];rfl
 rw[C,p] at r;have u:((Af (i+1)).map fun j=>bq q (s j))[a]?=some (bq q (s a)):=by rw[Aj,AH ω];rfl
 have r1:=y a _ _ (Aa h1) u;have r2:=bd a _ _ (Aa h2) u;obtain⟨z,hz⟩:=r;have J:=EB (s:=s a) hq;have D:z=0:=by
  rcases Int.lt_trichotomy z 0 with h|h|h
  ·have:(bq q (s a):Int)*z<=(bq q (s a):Int)*(-1):=Int.mul_le_mul_of_nonneg_left ω ω
   (first|lia|omega)
  ·exact h
  ·have:(bq q (s a):Int)*1<=(bq q (s a):Int)*z:=Int.mul_le_mul_of_nonneg_left ω ω
   (first|lia|omega)
 rw[D,AX] at hz;(first|lia|omega)
def PM{k w:Nat}{s s':Nat->Int}{X Z u v:Nat->Vc}(h:∀a j,a<k->j<w->dot k (X a) (fun l=>s' l*Z l j)=if a=j then s a else 0)(r:∀a j,a<k->j<w->dot k (u a) (fun l=>s l*v l j)=if a=j then s' a else 0)(f:∀i,0<=s i)(d:∀i,0<=s' i)(hd:∀i l,i<=l->l<k->s i ∣ s l)(e:∀i l,i<=l->l<k->s' i ∣ s' l):∀i,i<k->i<w->s i=s' i:=by
 intro i
 induction i using Nat.strongRecOn with
 |_ i ih=>
  intro hk hw;have go:∀{s s':Nat->Int}{X Z:Nat->Vc},(∀a j,a<k->j<w->dot k (X a) (fun l=>s' l*Z l j)=if a=j then s a else 0)->(∀i,0<=s i)->(∀i,0<=s' i)->(∀i l,i<=l->l<k->s' i ∣ s' l)->(∀j,j<i->s j=s' j)->s' i ∣ s i:=by
   intro s s' X Z h f d e p
   by_cases z:s' i=0
   ·have g:∀l,i<=l->l<k->s' l=0:=fun l h1 h2=>by
     have:=e i l h1 h2;rw[z] at this;exact Int.zero_dvd.mp this
    have hb:=f i;have:=KQ (q:=(s i).toNat+1) h hk hw ω (fun l h1 h2=>by rw[g l h1 h2];exact Int.dvd_zero _) p;rw[z];refine Int.zero_dvd.mpr ?_;rcases Int.lt_or_le 0 (s i) with c|c
    ·have:=Int.le_of_dvd c this
     (first|lia|omega)
    ·(first|lia|omega)
   ·have hp:=d i
    have:=KQ (q:=(s' i).toNat) h hk hw ω (fun l h1 h2=>by rw[Int.toNat_of_nonneg hp];exact e i l h1 h2) p
    rwa [Int.toNat_of_nonneg hp] at this
  have a:=go h f d e fun j o=>ih j o ω ω;have b:=go r d f hd fun j o=>(ih j o ω ω).symm;exact Int.dvd_antisymm (f i) (d i) b a
def gM{n k:Nat}{x y:Vc}{B:Nat->Vc}:dot n (fun l=>dot k x (fun s=>B s l)) y=dot k x (fun s=>dot n (B s) y):=by
 have:=HD (k:=k) (x:=x) (c:=fun _=>1) (Z:=B) (e:=y) n;have e1:dot n (fun j=>dot k x (fun l=>(1:Int)*B l j)) y=dot n (fun l=>dot k x (fun s=>B s l)) y:=zF fun t _=>zi fun s _=>Int.one_mul _;have e2:dot k x (fun l=>(1:Int)*dot n (B l) y)=dot k x (fun s=>dot n (B s) y):=zi fun s _=>Int.one_mul _;rw[<-e1,this,e2]
def zI{a b:Vc}:∀k,dot k a b=dot k b a
 |0=>rfl
 |k+1=>by show dot k a b+a k*b k=dot k b a+b k*a k;rw[zI k,A5]
def KR{k w n:Nat}{A U:Nat->Vc}{X y:Vc}:aM k w A (fun t=>dot n X (fun l=>U l t)) y=dot n X (fun l=>aM k w A (U l) y):=by
 unfold aM;exact gM
def EC{k w n:Nat}{A V:Nat->Vc}{x Z:Vc}:aM k w A x (fun t=>dot n Z (fun l=>V l t))=dot n Z (fun l=>aM k w A x (V l)):=by
 unfold aM;have e:dot k x (fun s=>dot w (A s) (fun t=>dot n Z (fun l=>V l t)))=dot k x (fun s=>dot n (fun l=>dot w (A s) (V l)) Z):=zi fun s _=>by
  rw[zI w,gM,zI n];exact zF fun l _=>zI w
 rw[e,<-gM,zI n]
def BQ{a b:Vc}:∀n,dot (n+1) a b=a 0*b 0+dot n (fun u=>a (u+1)) (fun u=>b (u+1))
 |0=>by show(0:Int)+a 0*b 0=a 0*b 0+0;(first|lia|omega)
 |n+1=>by
  show dot (n+1) a b+a (n+1)*b (n+1)=a 0*b 0+(dot n _ _+a (n+1)*b (n+1));rw[BQ n];(first|lia|omega)
def ED{p:Nat}:∀(L:List Vc)(c:List Int),c.length=L.length->cmb c L p=dot L.length (fun i=>c.getD i 0) (fun i=>(L.getD i fun _=>0) p)
 |[],[],_=>rfl
 |v::L,a::c,h=>by
  rw[AL,BQ];show a*v p+cmb c L p=_;rw[ED L c (Nat.succ.inj h)]
  rfl
def ky(U:Nat->Vc):Nat->Nat->Nat
 |0,_=>1
 |i+1,n=>ky U i n+dotA (U i) n
where dotA (v:Vc):Nat->Nat
 |0=>0
 |n+1=>dotA v n+(v n).natAbs
def KS{v:Vc}:∀{n t:Nat},t<n->(v t).natAbs<=ky.dotA v n
 |n+1,t,h=>by
  show _<=ky.dotA v n+(v n).natAbs
  by_cases c:t=n
  ·rw[c];(first|lia|omega)
  ·have:=KS (v:=v) (n:=n) (t:=t) ω
   (first|lia|omega)
def HF{U:Nat->Vc}{n t:Nat}(a:t<n):∀{k i:Nat},i<k->(U i t).natAbs<=ky U k n
 |k+1,i,h=>by
  show _<=ky U k n+ky.dotA (U k) n
  by_cases c:i=k
  ·rw[c]
   have:=KS (v:=U k) a;(first|lia|omega)
  ·have:=HF (U:=U) a (k:=k) (i:=i) ω
   (first|lia|omega)
def EE{U:Nat->Vc}{n:Nat}:∀k,1<=ky U k n
 |0=>Ad _
 |k+1=>Ae (EE k) (A7 _ _)
def PN{n:Nat}{U B:Nat->Vc}(h:∀i j,i<n->j<n->dot n (U i) (fun s=>B s j)=dl i j):∀i j,i<n->j<n->dot n (B i) (fun s=>U s j)=dl i j:=by
 intro d f q r
 let R:List Vc:=(Af n).map U++[un d]
 have w:R.length=n+1:=by simp[R]
 have G:∀i,i<n->(R.getD i fun _=>0)=U i:=fun i hi=>by
  simp only[R];rw[Ac,List.getElem?_append_left (by simpa using hi),Aj,AH hi]
  rfl
 have H:(R.getD n fun _=>0)=un d:=by
  simp only[R];rw[Ac,List.getElem?_append_right (by simp)];simp
 obtain⟨c,E,⟨x,hx,u⟩,hz,_⟩:=cy (R:=R) (P:=Af n) (M:=ky U n n) (EE _) (fun v hv p hp=>by
  have hp:=List.mem_range.mp hp;rcases List.mem_append.mp hv with hv|hv
  ·obtain⟨i,hi,rfl⟩:=List.mem_map.mp hv
   exact HF hp (List.mem_range.mp hi)
  ·rw[List.mem_singleton.mp hv]
   refine Ae ?_ (EE n);unfold un dl;split<;>decide) (by rw[AU,w];(first|lia|omega))
 let a:Vc:=fun i=>c.getD i 0
 have eq:∀p,p<n->dot n a (fun i=>U i p)+a n*dl d p=0:=fun p hp=>by
  have:=hz p (List.mem_range.mpr hp);rw[ED R c E,w] at this;have e:dot (n+1) (fun i=>c.getD i 0) (fun i=>(R.getD i fun _=>0) p)=dot n a (fun i=>(R.getD i fun _=>0) p)+a n*(R.getD n fun _=>0) p:=rfl;rw[e,H] at this;rw[zi (b':=fun i=>U i p) (fun i hi=>by rw[G i hi])] at this;exact this
 have g:∀j,j<n->a j=-(a n*B d j):=fun j o=>by
  have e1:dot n (fun p=>dot n a (fun i=>U i p)+a n*dl d p) (fun p=>B p j)=0:=zL fun p hp=>eq p hp;have e2:dot n (fun p=>dot n a (fun i=>U i p)+a n*dl d p) (fun p=>B p j)=dot n (fun p=>dot n a (fun i=>U i p)) (fun p=>B p j)+a n*dot n (fun p=>dl d p) (fun p=>B p j):=by
   have:=rH (k:=n) (a:=fun p=>dot n a (fun i=>U i p)) (a':=fun p=>dl d p) (b:=fun p=>B p j) (x:=1) (y:=a n)
   simpa using this
  have e3:dot n (fun p=>dot n a (fun i=>U i p)) (fun p=>B p j)=a j:=by
   rw[gM (B:=U),zi (b':=fun s=>dl s j) (fun s C=>h s j C o),jX o]
  have I:dot n (fun p=>dl d p) (fun p=>B p j)=B d j:=oq q;rw[e2,e3,I] at e1;(first|lia|omega)
 have nz:a n≠0:=fun z=>by
  have l:∀j,j<n->a j=0:=fun j o=>by rw[g j o,z];simp
  obtain⟨i,hi,rfl⟩:=AN hx;have A:a i=c[i]:=by show c.getD i 0=_;rw[Ac,Aa hi];rfl
  by_cases L:i<n
  ·exact u (by rw[<-A];exact l i L)
  ·have:i=n:=ω
   subst this;exact u (by rw[<-A];exact z)
 have e:=eq f r;have J:dot n a (fun i=>U i f)=-(a n)*dot n (B d) (fun i=>U i f):=by
  have:=rH (k:=n) (a:=B d) (a':=fun _=>0) (b:=fun i=>U i f) (x:=-(a n)) (y:=0);simp only[Int.zero_mul,Int.add_zero] at this;rw[<-this];refine zF fun t D=>?_;rw[g t D];simp[Int.neg_mul]
 rw[J] at e;have F:a n*(dl d f-dot n (B d) (fun i=>U i f))=0:=by
  rw[Int.mul_sub];rw[Int.neg_mul] at e;(first|lia|omega)
 rcases Int.mul_eq_zero.mp F with z|z
 ·exact absurd z nz
 ·(first|lia|omega)
def BY{w q:Nat}{a c:Vc}{X:Nat->Vc}:dot w a (fun t=>dot q c (fun j=>X j t))=dot q c (fun j=>dot w a (X j)):=by
 rw[zI,gM (B:=X)];exact zi fun j _=>zI w
structure Kp(k w r:Nat)(W V VB:Nat->Vc):Prop where
 rw:r<=w
 v1:∀i j,i<w->j<w->dot w (V i) (fun s=>VB s j)=dl i j
 v2:∀i j,i<w->j<w->dot w (VB i) (fun s=>V s j)=dl i j
 ker:∀x:Vc,(∀i,i<k->dot w (W i) x=0)↔∀j,j<r->dot w (VB j) x=0
def Kp.out{k w r:Nat}{W V VB:Nat->Vc}(h:Kp k w r W V VB){x:Vc}(hk:∀i,i<k->dot w (W i) x=0)(f:∀i,i<w-r->dot w (VB (r+i)) x=0):∀t,t<w->x t=0:=fun t a=>by
 have all:∀j,j<w->dot w (VB j) x=0:=fun j g=>by
  by_cases c:j<r
  ·exact(h.ker x).mp hk j c
  ·have:=f (j-r) ω
   rwa [show r+(j-r)=j from ω] at this
 have e:x t=dot w (V t) (fun s=>dot w (VB s) x):=by
  rw[<-gM (B:=VB),zF (a':=fun l=>dl t l) (fun l b=>h.v1 t l a b)];exact(oq a).symm
 rw[e,zI];exact zL fun s d=>all s d
def Kp.ind{k w r:Nat}{W V VB:Nat->Vc}(h:Kp k w r W V VB){c:Vc}(hz:∀t,t<w->dot (w-r) c (fun j=>V t (r+j))=0):∀j,j<w-r->c j=0:=fun j a=>by
 have e:dot w (VB (r+j)) (fun t=>dot (w-r) c (fun i=>V t (r+i)))=0:=by
  rw[zI];exact zL hz
 rw[BY (X:=fun i t=>V t (r+i))] at e;rw[zi (b':=fun i=>dl i j) (fun i hi=>by
  rw[h.v2 (r+j) (r+i) ω ω];unfold dl
  by_cases z:i=j
  ·rw[if_pos z,if_pos ω]
  ·rw[if_neg z,if_neg ω])] at e
 rwa [jX a] at e
def KU{w1:Nat}{a b:Vc}:∀w2,dot (w1+w2) a b=dot w1 a b+dot w2 (fun t=>a (w1+t)) (fun t=>b (w1+t))
 |0=>by show dot w1 a b=dot w1 a b+0;(first|lia|omega)
 |n+1=>by
  show dot (w1+n) a b+a (w1+n)*b (w1+n)=dot w1 a b+(dot n _ _+a (w1+n)*b (w1+n));rw[KU n];(first|lia|omega)
def PQ{w1 w2:Nat}{a b:Vc}(h:∀t,t<w1->a t=0):dot (w1+w2) a b=dot w2 (fun t=>a (w1+t)) (fun t=>b (w1+t)):=by rw[KU,zL h];(first|lia|omega)
def HG(R:List Vc)(P:List Nat)(X:Nat):Prop:=∀p∈P,∃c:List Int,c.length=R.length/\cmb c R p≠0/\(∀q∈P,q≠p->cmb c R q=0)/\∀x∈c,x.natAbs<=X
def HH{R:List Vc}{P:List Nat}{X V:Nat}{v:Vc}(hv:∀p∈P,(v p).natAbs<=V):∀Q:List Nat,Q.Nodup->(∀q∈Q,q∈P/\∃c:List Int,c.length=R.length/\cmb c R q≠0/\(∀p∈P,p≠q->cmb c R p=0)/\∀x∈c,x.natAbs<=X)->∃(D:Int)(s:List Int),D≠0/\s.length=R.length/\(∀q∈Q,cmb s R q=D*v q)/\(∀q∈P,q∉Q->cmb s R q=0)/\∀x∈s,x.natAbs<=D.natAbs*(Q.length*(V*X))
 |[],_,_=>⟨1,Ar R.length 0,ξ,List.length_replicate,(fun q hq=>nomatch hq),fun q _ _=>qP _ _ _,fun x hx=>by rw[(List.mem_replicate.mp hx).2];simp⟩
 |p::Q,hn,hs=>by
  obtain⟨n1,n2⟩:=List.nodup_cons.mp hn;obtain⟨D,s,h,e,e1,e2,b⟩:=HH hv Q n2 fun q hq=>hs q (.tail _ hq);obtain⟨hp,c,f,c0,g,i⟩:=hs p (.head _);refine⟨D*cmb c R p,AA (fun a b=>cmb c R p*a+(D*v p)*b) s c,Int.mul_ne_zero h c0,by rw[AE];(first|lia|omega),fun q hq=>?_,fun q hq d=>?_,fun x hx=>?_⟩
  ·rw[fN _ _ s c R e f]
   rcases List.mem_cons.mp hq with rfl|hq
   ·rw[e2 q hp n1,AX,Int.zero_add,Int.mul_right_comm]
   ·rw[e1 q hq,g q (hs q (.tail _ hq)).1 (fun z=>n1 (z▸hq)),AX,Int.add_zero,Int.mul_left_comm,AS]
  ·rw[fN _ _ s c R e f,e2 q hq (fun z=>d (.tail _ z)),g q hq (fun z=>d (z▸.head _)),AX,AX];rfl
  ·obtain⟨a,j,b',l,rfl⟩:=GG hx
   have h1:=b a j;have h2:=i b' l;have o:=hv p hp;have k:=k' c0;generalize cmb c R p=E at k ⊢;have r:(E*a).natAbs<=E.natAbs*(D.natAbs*(Q.length*(V*X))):=by rw[AB];exact Al _ h1
   have u:(D*v p*b').natAbs<=D.natAbs*(V*X):=by
    rw[AB,AB,AQ];exact Al _ (AR o h2)
   have w:=Int.natAbs_add_le (E*a) (D*v p*b');have y:D.natAbs*(V*X)<=E.natAbs*(D.natAbs*(V*X)):=Nat.le_mul_of_pos_left _ k;have A:(D*E).natAbs*((Q.length+1)*(V*X))=E.natAbs*(D.natAbs*(Q.length*(V*X)))+E.natAbs*(D.natAbs*(V*X)):=by
    rw[AB,Nat.add_mul,Nat.one_mul,Nat.mul_add,Nat.mul_comm D.natAbs E.natAbs,AQ,AQ]
   show _<=(D*E).natAbs*((Q.length+1)*(V*X));rw[A];exact Ae w (Nat.add_le_add r (Ae u y))
def PR{R:List Vc}{P:List Nat}{X V:Nat}{c:List Int}(l:HG R P X)(o:P.length=R.length)(r:P.Nodup)(hi:Inj R P)(hc:c.length=R.length)(hv:∀p∈P,(cmb c R p).natAbs<=V):∀x∈c,x.natAbs<=R.length*(V*X):=by
 obtain⟨D,s,e,f,e1,_,b⟩:=HH hv P r fun q hq=>⟨hq,l q hq⟩;have hz:=hi (AA (fun a b=>D*a+(-1)*b) c s) (by rw[AE];(first|lia|omega)) fun p hp=>by
  rw[fN _ _ c s R hc f,e1 p hp];(first|lia|omega)
 intro x hx;obtain⟨i,g,rfl⟩:=AN hx;have h:i<s.length:=ω
 have d:i<(AA (fun a b=>D*a+(-1)*b) c s).length:=by rw[AE];(first|lia|omega)
 have j:=hz _ (Ao d);rw[A0] at j;have h1:=b _ (Ao h);have h2:s[i]=D*c[i]:=ω
 rw[h2,AB,o] at h1;exact Nat.le_of_mul_le_mul_left h1 (k' e)
def PU{N M X B:Nat}{R:List Vc}(hi:iC R)(b:R.length<=N)(hb:∀r∈R,∀u,(r u).natAbs<=M)(s:N*(X*M)<=B)(j:∀(P:List Nat)(f:Nat->Vc),Ech P f->P.Pairwise (·<·)->(∀r∈R,Sp (P.map f) r)->(∀p∈P,Sp R (f p))->P.length=R.length->HG R P X):Bd N M X B R:=by
 refine⟨hi,fun P f h a d i e=>⟨fun p hp=>?_,fun r hr p _=>hb r hr p,fun c V hc hv x hx=>?_⟩⟩
 ·obtain⟨c,v,c0,l,o⟩:=j P f h a d i e p hp
  have hd:=jM h a hp (Sp.cmb c R d) fun q hq g=>l q hq (Az g);have:=Nat.le_of_dvd (k' c0) (Int.natAbs_dvd_natAbs.mpr hd);exact Ae this (Ae (ri c R o fun r hr=>hb r hr p) (Ae (Ak _ b) s))
 ·exact Ae (PR (j P f h a d i e) e (a.imp fun h=>Az h) (ro hi h a d) hc hv x hx) (Ak _ b)
def B'{n M:Nat}{b:Nat->Vc}(l:1<=M):∀(T:List Nat),(∀s∈T,∀i,i<n->(b s i).natAbs<=M)->∃I:List Nat,(∀s∈I,s∈T)/\Inj (I.map b) (Af n)/\I.length<=n/\∀s∈T,∃(a:Int)(e:List Int),a≠0/\e.length=I.length/\∀i,i<n->a*b s i+cmb e (I.map b) i=0
 |[],_=>⟨[],(fun s h=>nomatch h),(fun c hc _ x hx=>by rw[AK hc] at hx;cases hx),Ap _,fun s h=>nomatch h⟩
 |s::T,hb=>by
  obtain⟨I,i1,i2,o,j⟩:=B' l T fun s h=>hb s (.tail _ h)
  by_cases c:Inj ((s::I).map b) (Af n)
  ·refine⟨s::I,fun x hx=>?_,c,?_,fun x hx=>?_⟩
   ·rcases List.mem_cons.mp hx with e|e
    ·rw[e];exact .head _
    ·exact .tail _ (i1 x e)
   ·refine AD fun no=>?_
    obtain⟨d,d1,⟨y,hy,g⟩,d2,_⟩:=cy (R:=(s::I).map b) (P:=Af n) l (fun v hv p hp=>by
     obtain⟨z,hz,rfl⟩:=List.mem_map.mp hv;refine hb z ?_ p (List.mem_range.mp hp);rcases List.mem_cons.mp hz with e|e
     ·rw[e];exact .head _
     ·exact .tail _ (i1 z e)) (by rw[Ab,AU];(first|lia|omega))
    exact g (c d d1 d2 y hy)
   ·rcases List.mem_cons.mp hx with e|e
    ·refine⟨1,(-1)::Ar I.length 0,ξ,by simp,fun i hi=>?_⟩
     rw[e];show 1*b s i+((-1)*b s i+cmb (Ar I.length 0) (I.map b) i)=0;rw[qP];(first|lia|omega)
    ·obtain⟨a,d,q,f,hd⟩:=j x e
     refine⟨a,0::d,q,by simp[f],fun i hi=>?_⟩;show a*b x i+(0*b s i+cmb d (I.map b) i)=0;have:=hd i hi;(first|lia|omega)
  ·refine⟨I,fun x hx=>.tail _ (i1 x hx),i2,o,fun x hx=>?_⟩
   rcases List.mem_cons.mp hx with e|e
   ·obtain⟨d,d1,d2,y,hy,g⟩:∃d:List Int,d.length=((s::I).map b).length/\(∀p∈Af n,cmb d ((s::I).map b) p=0)/\∃y∈d,y≠0:=by
     refine AD fun no=>c fun d d1 d2 y hy=>?_;exact AD fun g=>no ⟨d,d1,d2,y,hy,g⟩
    cases d with
    |nil=>simp at d1
    |cons a d=>
     have f:d.length=I.length:=by simpa using d1
     refine⟨a,d,fun z=>?_,f,fun i hi=>by rw[e];exact d2 i (List.mem_range.mpr hi)⟩;have r:=i2 d (by rw[Ab];exact f) fun p hp=>by
      have:=d2 p hp;have this:a*b s p+cmb d (I.map b) p=0:=this;rw[z] at this;(first|lia|omega)
     rcases List.mem_cons.mp hy with e|e
     ·exact g (e.trans z)
     ·exact g (r y e)
   ·exact j x e
def KW{t:Int}{a b:Nat->Int}:∀(e:List Int)(I:List Nat),cmb e (I.map fun s=>fun _=>a s+t*b s) 0=cmb e (I.map fun s=>fun _=>a s) 0+t*cmb e (I.map fun s=>fun _=>b s) 0
 |[],[]=>by show(0:Int)=0+t*0;(first|lia|omega)
 |[],_::_=>by show(0:Int)=0+t*0;(first|lia|omega)
 |_::_,[]=>by show(0:Int)=0+t*0;(first|lia|omega)
 |x::e,s::I=>by
  show x*(a s+t*b s)+cmb e _ 0=x*a s+cmb e _ 0+t*(x*b s+cmb e _ 0);rw[KW e I,Bi,Bi,Int.mul_left_comm];(first|lia|omega)
def small{L:List Vc}{g:Vc}{T:List Nat}{M:Nat}(o:1<=M)(D:∀l∈L,∀s∈T,(l s).natAbs<=M)(hg:∀s∈T,(g s).natAbs<=M)(hi:Inj L T){c0:List Int}{t0:Int}(S:c0.length=L.length)(U:t0≠0)(E:∀s∈T,cmb c0 L s+t0*g s=0):∃(c:List Int)(t:Int),c.length=L.length/\t≠0/\(∀s∈T,cmb c L s+t*g s=0)/\∀x∈c,x.natAbs<=(2*(L.length+1)*M) ^ L.length:=by
 let b:Nat->Vc:=fun s i=>(L.getD i fun _=>0) s
 obtain⟨I,i1,i2,F,H⟩:=B' (n:=L.length) (b:=b) o T fun s j i hi=>by
  show((L.getD i fun _=>0) s).natAbs<=M;rw[Ac,Aa hi];exact D _ (Ao hi) s j
 obtain⟨d,d1,⟨y,hy,q⟩,d2,d3⟩:=cy (R:=g::L) (P:=I) o (fun v hv p hp=>by
  rcases List.mem_cons.mp hv with e|e
  ·rw[e];exact hg p (i1 p hp)
  ·exact D v e p (i1 p hp)) (by rw[AL];(first|lia|omega))
 cases d with
 |nil=>simp at d1
 |cons t c=>
  have f:c.length=L.length:=by simpa using d1
  have u:∀(c:List Int),c.length=L.length->∀s,dot L.length (b s) (fun i=>c.getD i 0)=cmb c L s:=fun c f s=>by rw[ED L c f,zI]
  have w:∀(c:List Int),c.length=L.length->∀s(a:Int)(e:List Int),(∀i,i<L.length->a*b s i+cmb e (I.map b) i=0)->a*cmb c L s+cmb e (I.map fun s=>fun _=>cmb c L s) 0=0:=fun c f s a e h=>by
   have z:dot L.length (fun i=>a*b s i+1*cmb e (I.map b) i) (fun i=>c.getD i 0)=0:=zL fun i hi=>by have:=h i hi;(first|lia|omega)
   rw[rH,GU,u c f,AT] at z;have e2:(I.map ((fun l:Vc=>fun _:Nat=>dot L.length l fun i=>c.getD i 0) ∘ b))=I.map fun s=>fun _=>cmb c L s:=Ba fun s' _=>by show(fun _=>dot L.length (b s') fun i=>c.getD i 0)=_;rw[u c f]
   rw[e2] at z;(first|lia|omega)
  have all:∀s∈T,cmb c L s+t*g s=0:=fun s j=>by
   obtain⟨a,e,J,W,r⟩:=H s j;have X:=w c0 S s a e r;have w1:=w c f s a e r;have A:cmb e (I.map fun s=>fun _=>cmb c0 L s+t0*g s) 0=0:=zQ _ _ fun v hv=>by
    obtain⟨x,hx,rfl⟩:=List.mem_map.mp hv;exact E x (i1 x hx)
   have C:cmb e (I.map fun s=>fun _=>cmb c L s+t*g s) 0=0:=zQ _ _ fun v hv=>by
    obtain⟨x,hx,rfl⟩:=List.mem_map.mp hv;have:=d2 x hx;have this:t*g x+cmb c L x=0:=this;show cmb c L x+t*g x=0;(first|lia|omega)
   rw[KW] at A C;have O:=E s j;generalize cmb e (I.map fun s=>fun _=>g s) 0=G at A C;have k1:t0*(a*g s+G)=0:=by
    have e1:a*(cmb c0 L s+t0*g s)=0:=by rw[O,AX]
    rw[Bi,Int.mul_left_comm] at e1;rw[Bi];(first|lia|omega)
   have k2:a*g s+G=0:=by
    rcases Int.mul_eq_zero.mp k1 with z|z
    ·exact absurd z U
    ·exact z
   have N:a*(cmb c L s+t*g s)=0:=by
    have e1:t*(a*g s+G)=0:=by rw[k2,AX]
    rw[Bi] at e1;rw[Bi,Int.mul_left_comm];(first|lia|omega)
   rcases Int.mul_eq_zero.mp N with z|z
   ·exact absurd z J
   ·exact z
  refine⟨c,t,f,fun z=>?_,all,fun x hx=>?_⟩
  ·have Q:=hi c f fun s j=>by have:=all s j;rw[z] at this;(first|lia|omega)
   rcases List.mem_cons.mp hy with e|e
   ·exact q (e.trans z)
   ·exact q (Q y e)
  ·refine Ae (d3 x (.tail _ hx)) ?_
   rw[AL];exact AC (jd (jd ξ ω) o) F
section
variable{k j:Nat}{W S A U Bn:Nat->Vc}
def fJ{n:Nat}{W:Nat->Vc}:(tl n W).length=n:=by unfold tl;simp
def tK{c:List Int}{p:Nat}(hc:c.length=j):cmb c (tl j W) p=dot j (fun u=>c.getD u 0) (fun u=>W u p):=by
 rw[ED _ _ (by rw[hc,fJ]),fJ];refine zi fun u a=>?_;unfold tl;rw[Ac,Aj,AH a];rfl
def tL{c:List Int}{i:Nat}(hc:c.length=j)(hi:i<k):cmb c (tl j (glue k (fun u i=>W i u) un)) i=dot j (fun u=>c.getD u 0) (W i):=by
 rw[tK hc];exact zi fun u _=>zO hi
def HI{c:List Int}{p:Nat}(hc:c.length=j)(hp:k<=p):cmb c (tl j (glue k (fun u i=>W i u) un)) p=cmb c (tl j (glue k (fun u i=>S i u) un)) p:=by
 rw[tK hc,tK hc];refine zi fun u _=>?_;obtain⟨t,rfl⟩:∃t,p=k+t:=⟨p-k,ω⟩;rw[zW,zW]
def Ch{P:List Nat}{M M2:Nat}(H:1<=M)(jw:1<=M2)(hS:∀i u,i<k->u<j->S i u=dot k (U i) (fun s=>A s u))(hA:∀s u,s<k->u<j->A s u=dot k (fun i=>Bn i s) (fun i=>S i u))(I:∀i D,i<k->D<k->dot k (U i) (Bn D)=dl i D)(bA:∀s u,s<k->u<j->(A s u).natAbs<=M)(bB:∀i s,i<k->s<k->(Bn i s).natAbs<=M)(bS:∀r∈tl j (glue k (fun u i=>S i u) un),∀p∈P,(r p).natAbs<=M2)(C:P.length=j)(nd:P.Nodup)(hi:Inj (tl j (glue k (fun u i=>S i u) un)) P)(hz:∀i,i<k->i∉P->∀u,u<j->S i u=0):HG (tl j (glue k (fun u i=>S i u) un)) P ((2*(j+1)*M) ^ j):=by
 intro p hp;obtain⟨c0,T,J,L,_⟩:=GF jw bS (by rw[C,fJ]) nd hi hp;have z:c0.length=j:=by rw[T,fJ]
 let g:Vc:=fun s=>if s<k then -(if p<k then Bn p s else 0) else if s=p then -1 else 0
 have F:∀s,s<k->g s=-(if p<k then Bn p s else 0):=fun s h=>if_pos h;have G:∀s,k<=s->g s=if s=p then -1 else 0:=fun s h=>if_neg ω;have W:∀(c:List Int),c.length=j->∀s,s<k->cmb c (tl j (glue k (fun u s=>A s u) un)) s=dot k (fun i=>Bn i s) (fun i=>cmb c (tl j (glue k (fun u i=>S i u) un)) i):=fun c f s b=>by
  rw[tL f b,zi (b':=fun u=>dot k (fun i=>Bn i s) (fun i=>S i u)) fun u o=>hA s u b o,BY];exact zi fun i hi=>(tL f hi).symm
 have y:∀(c:List Int),c.length=j->∀i,i<k->cmb c (tl j (glue k (fun u i=>S i u) un)) i=dot k (U i) (fun s=>cmb c (tl j (glue k (fun u s=>A s u) un)) s):=fun c f i hi=>by
  rw[tL f hi,zi (b':=fun u=>dot k (U i) (fun s=>A s u)) fun u o=>hS i u hi o,BY];exact zi fun s b=>(tL f b).symm
 have O:∀i,i<k->cmb c0 (tl j (glue k (fun u i=>S i u) un)) i=if i=p then cmb c0 (tl j (glue k (fun u i=>S i u) un)) p else 0:=fun i w=>by
  by_cases e:i=p
  ·rw[if_pos e,e]
  ·rw[if_neg e]
   by_cases h:i∈P
   ·exact L i h e
   ·rw[tL z w,zI]
    exact zL fun u o=>hz i w h u o
 generalize hE:cmb c0 (tl j (glue k (fun u i=>S i u) un)) p=E at J O;have k1:∀l∈tl j (glue k (fun u s=>A s u) un),∀s∈Af k++P.filter (fun q=>decide (k<=q)),(l s).natAbs<=M:=fun l C s b=>by
  obtain⟨u,o,rfl⟩:=List.mem_map.mp C;have o:=List.mem_range.mp o
  by_cases hk:s<k
  ·rw[zO hk];exact bA s u hk o
  ·obtain⟨v,rfl⟩:∃v,s=k+v:=⟨s-k,ω⟩
   rw[zW];unfold un dl;split
   ·exact H
   ·exact Ap _
 have k2:∀s∈Af k++P.filter (fun q=>decide (k<=q)),(g s).natAbs<=M:=fun s b=>by
  by_cases hk:s<k
  ·rw[F s hk,Int.natAbs_neg]
   split
   ·exact bB p s (by assumption) hk
   ·exact Ap _
  ·rw[G s ω]
   split
   ·exact H
   ·exact Ap _
 have X:Inj (tl j (glue k (fun u s=>A s u) un)) (Af k++P.filter (fun q=>decide (k<=q))):=fun c hc h=>by
  rw[fJ] at hc;refine hi c (by rw[hc,fJ]) fun q hq=>?_
  by_cases hk:q<k
  ·rw[y c hc q hk,zI]
   exact zL fun s b=>h s (AV _ (List.mem_range.mpr b))
  ·rw[HI (S:=A) hc ω]
   exact h q (Ax _ (List.mem_filter.mpr ⟨hq,decide_eq_true ω⟩))
 have Y:∀s∈Af k++P.filter (fun q=>decide (k<=q)),cmb c0 (tl j (glue k (fun u s=>A s u) un)) s+E*g s=0:=fun s b=>by
  by_cases hk:s<k
  ·rw[W c0 z s hk,F s hk,zi (b':=fun i=>if i=p then E else 0) fun i hi=>O i hi]
   by_cases a:p<k
   ·have:dot k (fun i=>Bn i s) (fun i=>if i=p then E else 0)=Bn p s*E:=by
     have:=jX (x:=fun i=>Bn i s) a;rw[zi (b':=fun i=>E*dl i p+0) fun i _=>by unfold dl;split<;>(first|lia|omega),je,this,zI,zL fun _ _=>rfl,A5];(first|lia|omega)
    rw[this,if_pos a,Int.mul_neg,A5];(first|lia|omega)
   ·rw[zI,zL fun i hi=>if_neg ω,if_neg a];(first|lia|omega)
  ·have Z:s∈P:=by
    rcases List.mem_append.mp b with h|h
    ·have:=List.mem_range.mp h;(first|lia|omega)
    ·exact(List.mem_filter.mp h).1
   have d:k<=s:=ω
   rw[G s d,HI (S:=S) z d]
   by_cases e:s=p
   ·rw[if_pos e,e,hE];(first|lia|omega)
   ·rw[if_neg e,L s Z e];(first|lia|omega)
 obtain⟨c,t,f,nt,hc,N⟩:=small H k1 k2 X (by rw[z,fJ]) J Y;rw[fJ] at f N;have val:∀q∈P,cmb c (tl j (glue k (fun u i=>S i u) un)) q=if q=p then t else 0:=fun q hq=>by
  by_cases hk:q<k
  ·rw[y c f q hk,zi (b':=fun s=>t*(if p<k then Bn p s else 0)+0) fun s b=>by
    have:=hc s (AV _ (List.mem_range.mpr b));rw[F s b,Int.mul_neg] at this;(first|lia|omega),je]
   have Q:dot k (U q) (fun _=>(0:Int))=0:=by rw[zI];exact zL fun _ _=>rfl
   rw[Q]
   by_cases a:p<k
   ·simp only[if_pos a]
    rw[I q p hk a];unfold dl
    by_cases e:q=p
    ·rw[if_pos e,if_pos e];(first|lia|omega)
    ·rw[if_neg e,if_neg e];(first|lia|omega)
   ·simp only[if_neg a]
    rw[Q,if_neg ω];(first|lia|omega)
  ·have d:k<=q:=ω
   have:=hc q (Ax _ (List.mem_filter.mpr ⟨hq,decide_eq_true d⟩));rw[G q d] at this;rw[HI (S:=A) f d]
   by_cases e:q=p
   ·rw[if_pos e] at this ⊢;(first|lia|omega)
   ·rw[if_neg e] at this ⊢;(first|lia|omega)
 exact⟨c,by rw[f,fJ],by rw[val p hp,if_pos rfl];exact nt,fun q hq ne=>by rw[val q hq,if_neg ne],N⟩
def KY{w j:Nat}{A:Nat->Vc}:iC (tl j (glue w A un)):=fun c hc hz=>by
 have D:Both j ((tl j (glue w A un)).map fun r=>fun t=>r (w+t)) (tl j un):=by rw[uZ];exact El j
 exact D.free hc fun t _=>hz _
def PV{w r b N M M2 X B:Nat}{Bl:List Vc}{Q q:Nat->Nat}(I:N0 A k w r b S U Bl Q q)(hj:j<=w)(J:j<=N)(O:1<=M)(T:1<=M2)(bA:∀s u,s<k->u<w->(A s u).natAbs<=M)(bB:∀i s,i<k->s<k->((Bl.getD i fun _=>0) s).natAbs<=M)(bS:∀i u,i<k->u<w->(S i u).natAbs<=M2)(hX:(2*(N+1)*M) ^ N<=X)(hB:N*(X*M2)<=B):Bd N M2 X B (tl j (glue k (fun u i=>S i u) un)):=by
 have rk:=I.rk
 let Bn:Nat->Vc:=fun i=>Bl.getD i fun _=>0
 have G:∀i u,i<k->u<w->S i u=dot k (U i) (fun s=>A s u):=fun i u hi g=>by
  rw[I.bl i u hi g];exact zi fun s _=>by rw[zI,oq g]
 have o:∀i d,i<k->d<k->dot k (U i) (Bn d)=dl i d:=fun i d hi C=>by
  refine I.bu.b i d (U i) (Bn d) ?_ ?_
  ·unfold tl;rw[Aj,AH hi];rfl
  ·show Bl[d]?=some (Bl.getD d fun _=>0)
   rw[Ac,Aa (by rw[I.bu.a.lb];exact C)];rfl
 have bk:=PN (n:=k) (U:=U) (B:=fun s i=>Bn i s) o;have hA:∀s u,s<k->u<w->A s u=dot k (fun i=>Bn i s) (fun i=>S i u):=fun s u l g=>by
  rw[zi (b':=fun i=>dot k (U i) (fun s=>A s u)) fun i hi=>G i u hi g,<-gM (B:=U)];rw[zF (a':=un s) fun t W=>by exact bk s t l W,oq l]
 have H:∀x∈tl j (glue k (fun u i=>S i u) un),∀p,(x p).natAbs<=M2:=fun x hx p=>by
  obtain⟨u,g,rfl⟩:=List.mem_map.mp hx;have g:=List.mem_range.mp g
  by_cases hk:p<k
  ·rw[zO hk];exact bS p u hk ω
  ·obtain⟨v,rfl⟩:∃v,p=k+v:=⟨p-k,ω⟩
   rw[zW];unfold un dl;split
   ·exact T
   ·exact Ap _
 refine PU KY (by rw[fJ];exact J) H hB fun P f h l D hF E=>?_;rw[fJ] at E;have nd:P.Nodup:=l.imp fun h=>Az h;have hz:∀i,i<k->i∉P->∀u,u<j->S i u=0:=fun i hi Y u g=>by
  by_cases hr:i<r
  ·by_cases hq:q i<j
   ·refine absurd ?_ Y
    have row:∀u,u<j->Sp (tl j (glue k (fun u i=>S i u) un)) (glue k (fun u i=>S i u) un u):=fun u g=>Sp.mem (List.mem_map.mpr ⟨u,List.mem_range.mpr g,rfl⟩);have lt:Lt (Sp (tl j (glue k (fun u i=>S i u) un))):=⟨Sp.zero,fun m hv hw=>hv.sub hw m⟩;have ql:∀d,d<i+1->q d<j:=fun d h'=>by
     by_cases e:d=i
     ·rw[e];exact hq
     ·have:=I.ql d i ω hr;(first|lia|omega)
    obtain⟨v,Z,v2,v3⟩:=alone (L:=fun i=>glue k (fun u i=>S i u) un (q i)) lt (show i+1<=k from ω) (fun d h'=>row _ (ql d h')) (fun d h'=>by rw[zO ω];exact I.sp d ω) (fun i1 y h1 h2 F=>by
     rw[zO F]
     by_cases h:y<r
     ·exact I.sz y (q i1) h (I.ql i1 y h2 h)
     ·exact I.z y (q i1) ω F (I.qw i1 ω)) i ω
    exact G_ h l (Z.trans D) (fun u g=>v3 u ω ω) v2
   ·exact I.sz i u hr ω
  ·exact I.z i u ω hi ω
 have un:=Ch (Bn:=Bn) O T (fun i u hi g=>G i u hi ω) (fun s u l g=>hA s u l ω) o (fun s u l g=>bA s u l ω) bB (fun x hx p _=>H x hx p) E nd (ro KY h l D) hz;intro p hp;obtain⟨c,c1,c2,c3,c4⟩:=un p hp;refine⟨c,c1,c2,c3,fun x hx=>Ae (c4 x hx) (Ae ?_ hX)⟩;exact Ae (Bh (Ak _ (Al _ ω)) _) (AC (jd (jd ξ ω) O) J)
end
def tQ{z X:Vc}{i:Nat}:∀{w:Nat},i<w->(∀u,u<w->u≠i->z u*X u=0)->dot w z X=z i*X i
 |w+1,hi,h=>by
  show dot w z X+z w*X w=_
  by_cases e:i=w
  ·subst e
   have:∀n,n<=i->dot n z X=0:=by
    intro n
    induction n with
    |zero=>intro _;rfl
    |succ n ih=>intro a;show dot n z X+z n*X n=0;rw[ih ω,h n ω ω];rfl
   rw[this i (Ad _)];(first|lia|omega)
  ·rw[tQ (w:=w) ω (fun u b ne=>h u ω ne),h w ω (Ne.symm e)];(first|lia|omega)
section
variable{A T U V:Nat->Vc}{k w r D D' bU bV g:Nat}{Bn Bf:List Vc}{QU QV:Nat->Nat}
def LI.setD(I:LI A k w r D bU bV g T U V Bn Bf QU QV)(h:∀m,m<=r->pr (tn T m)<=D'):LI A k w r D' bU bV g T U V Bn Bf QU QV:=⟨I.rk,I.rw,I.g1,I.bl,I.bu,I.bv,I.ku,I.kv,I.tp,I.tz,I.tr,I.to,h⟩
def LI.one(I:LI A k w r D bU bV g T U V Bn Bf QU QV)(sur:∀y:Vc,∃c:Vc,∀s,s<k->dot w (A s) c=y s):∀i,i<r->T i i=1:=fun f l=>by
 have rk:=I.rk;have E:=I.rw;obtain⟨c,hc⟩:=sur (Bn.getD f fun _=>0);have q:∀i,i<k->dot k (U i) (Bn.getD f fun _=>0)=dl i f:=fun i hi=>by
  refine I.bu.b i f (U i) _ ?_ ?_
  ·unfold tl;rw[Aj,AH hi];rfl
  ·rw[Ac,Aa (by rw[I.bu.a.lb];(first|lia|omega))];rfl
 let z:Vc:=fun u=>(Bf.map fun b=>dot w c b).getD u 0
 have x:∀t,t<w->c t=dot w z (fun u=>V u t):=fun t o=>by
  have h1:=GV (U:=tl w V) (t:=t) w c Bf (by rw[I.bv.a.lb,fJ]);rw[zi fun s p=>I.bv.a.d s t p o,jX o] at h1;rw[<-h1,tK (by rw[Ab,I.bv.a.lb])]
 have eq:∀i,i<k->dot w z (fun u=>T u i)=dl i f:=fun i hi=>by
  rw[<-q i hi,<-zi (b:=fun s=>dot w (A s) c) fun s p=>hc s p];have e1:dot k (U i) (fun s=>dot w (A s) c)=aM k w A (U i) (fun t=>dot w z (fun u=>V u t)):=zi fun s _=>zi fun t o=>x t o;rw[e1,EC];exact zi fun u j=>I.bl u i j hi
 have v:∀u i,u<w->i<r->i<u->T u i=0:=fun u i j hi h=>by
  by_cases c:u<r
  ·exact I.tz u i c h
  ·exact I.to u i j ω ω
 have C:∀i,i<f->z i=0:=by
  intro i
  induction i using Nat.strongRecOn with
  |_ i ih=>
   intro hi;have h1:=eq i ω;rw[tQ (i:=i) ω fun u j ne=>?_] at h1
   ·unfold dl at h1
    rw[if_neg ω] at h1;have:=I.tp i ω;rcases Int.mul_eq_zero.mp h1 with e|e
    ·exact e
    ·(first|lia|omega)
   ·rcases Nat.lt_or_gt_of_ne ne with g|g
    ·rw[ih u g ω,Int.zero_mul]
    ·show z u*T u i=0;rw[v u i j ω g,AX]
 have h1:=eq f ω;rw[tQ (i:=f) ω fun u j ne=>?_] at h1
 ·unfold dl at h1
  rw[if_pos rfl] at h1;have:=I.tp f l;have hd:T f f ∣ 1:=⟨z f,by rw[<-h1,A5]⟩;exact Int.eq_one_of_dvd_one ω hd
 ·rcases Nat.lt_or_gt_of_ne ne with g|g
  ·rw[C u g,Int.zero_mul]
  ·show z u*T u f=0;rw[v u f j l g,AX]
def LI.pd1(I:LI A k w r D bU bV g T U V Bn Bf QU QV)(sur:∀y:Vc,∃c:Vc,∀s,s<k->dot w (A s) c=y s):∀m,m<=r->pr (tn T m)<=1:=fun m a=>by
 have:∀m,m<=r->pr (tn T m)=1:=by
  intro m
  induction m with
  |zero=>intro _;rfl
  |succ m ih=>
   intro a;rw[G0,sL,ih ω,I.one sur m ω];rfl
 rw[this m a];exact Ad _
end
def PX{k j u:Nat}{W:Nat->Vc}{c:List Int}(hc:c.length=j)(a:u<j):cmb c (tl j (glue k (fun u i=>W i u) un)) (k+u)=c.getD u 0:=by
 have e:dot j (fun v=>c.getD v 0) (fun v=>glue k (fun u i=>W i u) un v (k+u))=dot j (fun v=>c.getD v 0) (fun v=>dl v u):=zi fun s _=>zW;rw[tK hc,e,jX a]
def EF{w u:Nat}{x:Vc}(a:u<w):(lst w x).getD u 0=x u:=by rw[Ac,GX a];rfl
section
variable{k w n M:Nat}{A W:Nat->Vc}{Q:Nat->Nat}
def PY(hM:1<=M)(bA:∀s u,s<k->u<w->(A s u).natAbs<=M)(hk:∀a,a<n->∀s,s<k->dot w (A s) (W a)=0)(span:∀x:Vc,(∀s,s<k->dot w (A s) x=0)->∃d:Vc,∀t,t<w->x t=dot n d (fun a=>W a t))(I:∀a c,a<c->c<n->Q a<Q c)(F:∀a,a<n->Q a<w)(kz:∀a u,a<n->u<Q a->W a u=0)(kp:∀a,a<n->0<W a (Q a))(kq:∀a c,a<c->c<n->0<=W a (Q c)/\W a (Q c)<W c (Q c)):∀a,a<n->(W a (Q a)).natAbs<=(2*(w+1)*M) ^ w/\∀u,u<w->(W a u).natAbs<=n*((2*(w+1)*M) ^ w*(2*(w+1)*M) ^ w):=by
 have tri:∀(d:Vc)(m:Nat),m<=n->(∀c,c<m->dot n d (fun a=>W a (Q c))=0)->∀c,c<m->d c=0:=by
  intro d m hm h c
  induction c using Nat.strongRecOn with
  |_ c ih=>
   intro hc;have h1:=h c hc;rw[tQ (i:=c) ω fun a o ne=>?_] at h1
   ·have:=kp c ω
    rcases Int.mul_eq_zero.mp h1 with e|e
    ·exact e
    ·(first|lia|omega)
   ·rcases Nat.lt_or_gt_of_ne ne with g|g
    ·rw[ih a g ω,Int.zero_mul]
    ·show d a*W a (Q c)=0;rw[kz a (Q c) o (I c a g o),AX]
 have zero:∀x:Vc,(∀s,s<k->dot w (A s) x=0)->(∀c,c<n->x (Q c)=0)->∀t,t<w->x t=0:=fun x hx hq t ht=>by
  obtain⟨d,hd⟩:=span x hx;have J:=tri d n (Ad _) fun c hc=>by rw[<-hd _ (F c hc)];exact hq c hc
  rw[hd t ht];exact zL J
 have qi:∀a c,a<n->c<n->Q a=Q c->a=c:=fun a c o hc e=>by
  rcases Bj a c with g|g|g
  ·have:=I a c g hc;(first|lia|omega)
  ·exact g
  ·have:=I c a g o;(first|lia|omega)
 let L:List Vc:=tl w (glue k (fun u s=>A s u) un)
 have N:L.length=w:=fJ
 let T:List Nat:=Af k++(Af n).map fun c=>k+Q c
 have E:∀c,c<n->k+Q c∈T:=fun c hc=>Ax _ (List.mem_map.mpr ⟨c,List.mem_range.mpr hc,rfl⟩);have pI:∀p∈T,p<k\/∃c,c<n/\p=k+Q c:=fun p hp=>by
  rcases List.mem_append.mp hp with h|h
  ·exact .inl (List.mem_range.mp h)
  ·obtain⟨c,hc,rfl⟩:=List.mem_map.mp h
   exact .inr ⟨c,List.mem_range.mp hc,rfl⟩
 have j:∀(c:List Int) s,c.length=w->s<k->cmb c L s=dot w (A s) (fun u=>c.getD u 0):=fun c s hc r=>by rw[zI];exact tL hc r
 have f:∀(c:List Int) e,c.length=w->e<n->cmb c L (k+Q e)=c.getD (Q e) 0:=fun c e hc q=>PX hc (F e q);have inj:Inj L T:=fun c hc h=>by
  rw[N] at hc;have z:=zero (fun u=>c.getD u 0) (fun s r=>by rw[<-j c s hc r];exact h s (AV _ (List.mem_range.mpr r))) fun e q=>by
   have:=h _ (E e q)
   rwa [f c e hc q] at this
  intro x hx;obtain⟨i,hi,rfl⟩:=AN hx;have:=z i ω
  rwa [Ac,Aa hi] at this
 generalize hX:(2*(w+1)*M) ^ w=X;have iF:∀e,e<n->∃c:List Int,c.length=L.length/\cmb c L (k+Q e)≠0/\(∀p∈T,p≠k+Q e->cmb c L p=0)/\∀x∈c,x.natAbs<=X:=fun e q=>by
  obtain⟨d,d1,⟨y,hy,ny⟩,d2,_⟩:=cy (R:=tl n W) (P:=((Af n).filter fun c=>decide (c≠e)).map Q) (M:=ky W n w) (EE _) (fun v hv p hp=>by
   obtain⟨a,o,rfl⟩:=List.mem_map.mp hv;obtain⟨c,hc,rfl⟩:=List.mem_map.mp hp;exact HF (F c (List.mem_range.mp (List.mem_filter.mp hc).1)) (List.mem_range.mp o)) (by
   rw[Ab,fJ];have:((Af n).filter fun c=>decide (c≠e)).length<(Af n).length:=List.length_filter_lt_length_iff_exists.mpr ⟨e,List.mem_range.mpr q,by simp⟩
   rwa [AU] at this)
  rw[fJ] at d1
  let x0:Vc:=fun t=>dot n (fun a=>d.getD a 0) (fun a=>W a t)
  have ex:∀t,cmb d (tl n W) t=x0 t:=fun t=>tK d1;have ki:∀s,s<k->dot w (A s) x0=0:=fun s r=>by
   show dot w (A s) (fun t=>dot n (fun a=>d.getD a 0) (fun a=>W a t))=0;rw[BY,zI];exact zL fun a o=>hk a o s r
  have O:∀c,c<n->c≠e->x0 (Q c)=0:=fun c hc ne=>by
   rw[<-ex];exact d2 _ (List.mem_map.mpr ⟨c,List.mem_filter.mpr ⟨List.mem_range.mpr hc,decide_eq_true ne⟩,rfl⟩)
  have nz:x0 (Q e)≠0:=fun z=>ny (by
   have:=tri (fun a=>d.getD a 0) n (Ad _) fun c hc=>by
    by_cases g:c=e
    ·rw[g];exact z
    ·exact O c hc g
   obtain⟨i,hi,rfl⟩:=AN hy;have:=this i ω
   rwa [Ac,Aa hi] at this)
  have Z:(lst w x0).length=w:=hV;have xx:∀u,u<w->(lst w x0).getD u 0=x0 u:=fun u C=>EF C
  let g:Vc:=fun s=>if s=k+Q e then -1 else 0
  obtain⟨c,t,G,nt,hc,bc⟩:=small (L:=L) (g:=g) (T:=T) hM (fun l hl s r=>by
   obtain⟨u,C,rfl⟩:=List.mem_map.mp hl;have C:=List.mem_range.mp C
   by_cases h:s<k
   ·rw[zO h];exact bA s u h C
   ·obtain⟨v,rfl⟩:∃v,s=k+v:=⟨s-k,ω⟩
    rw[zW];unfold un dl;split
    ·exact hM
    ·exact Ap _) (fun s r=>by
   show(if s=k+Q e then(-1:Int) else 0).natAbs<=M;split
   ·exact hM
   ·exact Ap _) inj (c0:=lst w x0) (t0:=x0 (Q e)) (by rw[Z,N]) nz (fun s r=>by
   show cmb (lst w x0) L s+x0 (Q e)*(if s=k+Q e then -1 else 0)=0;rcases pI s r with h|⟨c,hc,rfl⟩
   ·rw[j _ s Z h,zi (b':=x0) fun u C=>xx u C,ki s h,if_neg ω];(first|lia|omega)
   ·rw[f _ c Z hc,xx _ (F c hc)]
    by_cases h:c=e
    ·rw[h,if_pos rfl];(first|lia|omega)
    ·rw[O c hc h,if_neg (fun z=>h (qi c e hc q ω))];(first|lia|omega))
  have gv:∀s,g s=if s=k+Q e then -1 else 0:=fun s=>rfl;refine⟨c,G,fun z=>nt ?_,fun p hp ne=>?_,fun x hx=>?_⟩
  ·have:=hc _ (E e q)
   rw[z,gv,if_pos rfl] at this;(first|lia|omega)
  ·have:=hc p hp
   rw[gv,if_neg ne] at this;(first|lia|omega)
  ·have:=bc x hx
   rwa [N,hX] at this
 have H:∀e,e<n->(W e (Q e)).natAbs<=X:=fun e q=>by
  obtain⟨c,G,c0,cz,cb⟩:=iF e q;rw[N] at G;have kr:∀s,s<k->dot w (A s) (fun u=>c.getD u 0)=0:=fun s r=>by
   rw[<-j c s G r];exact cz s (AV _ (List.mem_range.mpr r)) ω
  obtain⟨d,hd⟩:=span _ kr;have J:=tri d e ω fun S gF=>by
   rw[<-hd _ (F S ω),<-f c S G ω];exact cz _ (E S ω) (fun z=>by have:=I S e gF q;(first|lia|omega))
  have v:=hd _ (F e q);rw[tQ (i:=e) q fun a o ne=>?_] at v
  ·have e1:cmb c L (k+Q e)=d e*W e (Q e):=by rw[f c e G q];exact v
   have hdv:W e (Q e) ∣ cmb c L (k+Q e):=⟨d e,by rw[e1,A5]⟩;refine Ae (Nat.le_of_dvd (k' c0) (Int.natAbs_dvd_natAbs.mpr hdv)) ?_;rw[f c e G q,Ac,Aa (by rw[G];exact F e q)];exact cb _ (Ao _)
  ·rcases Nat.lt_or_gt_of_ne ne with g|g
   ·rw[J a g,Int.zero_mul]
   ·show d a*W a (Q e)=0;rw[kz a (Q e) o (I e a g o),AX]
 intro a o;refine⟨H a o,fun u C=>?_⟩;have lw:(lst w (W a)).length=w:=hV;have va:∀p∈T,(cmb (lst w (W a)) L p).natAbs<=X:=fun p hp=>by
  rcases pI p hp with h|⟨c,hc,rfl⟩
  ·rw[j _ p lw h,zi (b':=W a) fun u C=>EF C,hk a o p h];exact Ap _
  ·rw[f _ c lw hc,EF (F c hc)]
   rcases Bj a c with g|g|g
   ·have:=kq a c g hc;have:=H c hc;(first|lia|omega)
   ·rw[g];exact H c hc
   ·rw[kz a (Q c) o (I c a g o)];exact Ap _
 obtain⟨D,s,J,U,e1,e2,b⟩:=HH (R:=L) (v:=fun p=>cmb (lst w (W a)) L p) (X:=X) va ((Af n).map fun c=>k+Q c) (by
  unfold List.Nodup;rw[List.pairwise_map];refine List.pairwise_lt_range.imp_of_mem fun{x y} hx hy h=>?_;have:=I x y h (List.mem_range.mp hy);(first|lia|omega)) fun p hp=>by
   obtain⟨c,hc,rfl⟩:=List.mem_map.mp hp;exact⟨E c (List.mem_range.mp hc),iF c (List.mem_range.mp hc)⟩
 rw[N] at U;have y0:=zero (fun t=>D*W a t+(-1)*s.getD t 0) (fun s' Y=>by
  have h1:dot w (A s') (fun t=>D*W a t+(-1)*s.getD t 0)=D*dot w (A s') (W a)+dot w (A s') (fun t=>(-1)*s.getD t 0+0):=by
   rw[<-je];exact zi fun t _=>ω
  have z2:dot w (A s') (fun _=>(0:Int))=0:=by rw[zI];exact zL fun _ _=>rfl
  rw[h1,hk a o s' Y,je,z2,<-j s s' U Y,e2 s' (AV _ (List.mem_range.mpr Y)) (fun z=>by
   obtain⟨c,_,hc⟩:=List.mem_map.mp z;(first|lia|omega))]
  (first|lia|omega)) (fun c hc=>by
  have:=e1 (k+Q c) (List.mem_map.mpr ⟨c,List.mem_range.mpr hc,rfl⟩);have this:cmb s L (k+Q c)=D*cmb (lst w (W a)) L (k+Q c):=this;rw[f s c U hc,f _ c lw hc,EF (F c hc)] at this;show D*W a (Q c)+(-1)*s.getD (Q c) 0=0;(first|lia|omega)) u C
 have y0:D*W a u+(-1)*s.getD u 0=0:=y0;have es:s.getD u 0=D*W a u:=ω
 have bs:=b (s.getD u 0) (by rw[Ac,Aa (by rw[U];exact C)];exact Ao _);rw[es,AB,Ab,AU] at bs;exact Nat.le_of_mul_le_mul_left bs (k' J)
end
end Tb
end
section
namespace Tb
def KZ{w j:Nat}{A:Nat->Vc}:iC (tl j (glue w A un)):=fun c hc hz=>by
 have D:Both j ((tl j (glue w A un)).map fun r=>fun t=>r (w+t)) (tl j un):=by rw[uZ];exact El j
 exact D.free hc fun t _=>hz _
def K0{N n m:Nat}(a:N<=2 ^ n):sX N (2 ^ m)<=2 ^ ((1+n+m)*N):=by
 unfold sX;rw[Nat.pow_mul];refine Bh (zr (zr (show 2<=2 ^ 1 from ξ) a) (Ad _)) _
def PZ{N n m:Nat}(a:N<=2 ^ n):sB N (2 ^ m)<=2 ^ (n+((1+n+m)*N+m)):=zr a (zr (K0 a) (Ad _))
def EG{i t:Nat}:(un i t).natAbs<=1:=by unfold un dl;split<;>decide
end Tb
namespace K26
open PySem L2
def t4{n:Nat}:Ent (unT n) (2 ^ 0):=oE Ew fun i hi u=>by rw[oU hi];exact Tb.EG
section
variable{N n:Nat}{m:cx}{k w:Nat}{tb:Ξ}
def EH{q j i:Nat}{S:Ξ}(hi:i<j):Tb.glue q (fn S) (fn (unT j)) i=Tb.glue q (fn S) Tb.un i:=BF (fun _ _=>rfl) (oU hi)
def lH(G:Good N n m){mu x b:Nat}(y:mu<=m2 N n m)(z:x<=x2 N n m)(d:b<=ga N n m)(g:k<=N)(v:w<=N)(l:tb.length=k)(hw:∀r∈tb,r.length=w)(o:Ent tb (2 ^ mu))(bd:∀j,j<=k->Tb.Bd N (2 ^ mu) (2 ^ x) (2 ^ b) (Tb.tl j (Tb.glue w (fn tb) Tb.un))):Side N (2 ^ mu) (2 ^ x) (2 ^ b) (2 ^ mu) w k tb (unT k) (unT k):=by
 have h:=iL G;have q:=G.N40;have le:∀i,i<k->∀u,(Tb.glue w (fn tb) (fn (unT k)) i u).natAbs<=2 ^ mu:=fun i hi u=>by
  rw[EH hi];exact BJ (fun u _=>o i u) (fun s=>Ae Tb.EG AF) u
 have e:∀{j},j<=k->Tb.tl j (Tb.glue w (fn tb) (fn (unT k)))=Tb.tl j (Tb.glue w (fn tb) Tb.un):=fun{j} a=>Tb.gK fun i hi=>EH ω;have c:m2 N n m<=k0 N n m:=by unfold k0;(first|lia|omega)
 refine⟨l,Ew,Ew,hw,oX,oX,ω,ω,g,G.N1,ω,fun j a=>?_,fun i hi P f F p hp=>le i hi p,le,AF,AF,AF,Nat.pow_lt_pow_right ξ (by have:=G.piv;(first|lia|omega)),?_,?_⟩
 ·rw[e a];exact bd j a
 ·exact G.cE ⟨_,rfl,d⟩ rfl rfl rfl (t:=0) ω ω ω ω
 ·exact G.ent (t:=0) (t4) ω ω
def K2(G:Good N n m):m.m<=m2 N n m/\x1 N n m<=x2 N n m/\be N n m<=ga N n m/\(2+2*n+m.m+N)*N<=x2 N n m/\n+(x2 N n m+m2 N n m)<=ga N n m:=by
 have h:=iL G;have a:x2 N n m=m2 N n m+(2+2*n+m.m+N)*N:=rfl;have b:ga N n m=n+x2 N n m+m2 N n m:=rfl;have c:m2 N n m=2*n+be N n m+x1 N n m+m.m:=rfl;(first|lia|omega)
def Rb(N n:Nat)(m:cx)(k w:Nat)(tb:Ξ):Prop:=∀j,j<=k->Tb.Bd N (2 ^ m.m) (2 ^ x1 N n m) (2 ^ be N n m) (Tb.tl j (Tb.glue w (fn tb) Tb.un))
def Cj(G:Good N n m)(a:k<=N)(b:w<=N)(l:tb.length=k)(hw:∀r∈tb,r.length=w)(c:Ent tb (2 ^ m.m))(d:Rb N n m k w tb):Side N (2 ^ m.m) (2 ^ x1 N n m) (2 ^ be N n m) (2 ^ m.m) w k tb (unT k) (unT k):=by
 have h:=K2 G;exact lH G h.1 h.2.1 h.2.2.1 a b l hw c d
def K3{q:Nat}(b:1<=N)(Nn:N<=2 ^ n)(d:k<=N)(a:Ent tb (2 ^ q)):Rb N n (lF N n q) k w tb:=fun j c=>by
 refine(Tb.Op b AF Tb.KZ (by rw[Tb.jl];(first|lia|omega)) fun r hr u=>?_).mono (Ad _) (Ae (Tb.K0 Nn) (Tb.pw (Ad _))) (Ae (Tb.PZ Nn) (Tb.pw ?_))
 ·obtain⟨i,hi,rfl⟩:=List.mem_map.mp hr
  exact BJ (fun u _=>a i u) (fun s=>Ae Tb.EG AF) u
 ·show n+((1+n+q)*N+q)<=n+q+(2+n+q)*N
  have:(1+n+q)*N<=(2+n+q)*N:=Ak _ ω;(first|lia|omega)
variable{P P2:List Nat}{fr gI:Nat->List Int}{S U Bn T V Bf:Ξ}
def P0(G:Good N n m)(l:tb.length=k)(hw:∀r∈tb,r.length=w)(b:Ent tb (2 ^ m.m))(c:k<=N)(D:Done N (2 ^ m.m) (2 ^ x1 N n m) (2 ^ be N n m) w k tb (unT k) (unT k) P fr S U Bn):Ent ((Af w).map (colAt S)) (2 ^ m2 N n m):=by
 refine oE zX fun u a i=>?_;rw[zY a]
 by_cases hi:i<k
 ·rw[D.f1 i u hi a]
  have:=(D.fs.fr (Tb.pp P i) (Tb.sW D.lP hi)).le (u:=u) (M:=2 ^ m.m) fun r hr=>by
   obtain⟨j,d,rfl⟩:=List.mem_map.mp hr;rw[Tb.zO a];exact b j u
  refine Ae this ?_;rw[Tb.jl];refine Ae (Ak _ c) (Ae (Tb.zr G.Nn (Tb.zr (Tb.oA G.Nn) (Ad _))) (Tb.pw ?_));unfold m2;(first|lia|omega)
 ·unfold fn
  rw[lE (by rw[D.l1];(first|lia|omega))];exact Ap _
def CP(G:Good N n m)(l:tb.length=k)(hw:∀r∈tb,r.length=w)(d:Ent tb (2 ^ m.m))(e:k<=N)(o:w<=N)(D:Done N (2 ^ m.m) (2 ^ x1 N n m) (2 ^ be N n m) w k tb (unT k) (unT k) P fr S U Bn):Side N (2 ^ m2 N n m) (2 ^ x2 N n m) (2 ^ ga N n m) (2 ^ m2 N n m) k w ((Af w).map (colAt S)) (unT w) (unT w):=by
 have h:=K2 G;have b:=P0 G l hw d e D;have e1:Tb.tl k (Tb.glue w (fn tb) (fn (unT k)))=Tb.tl k (Tb.glue w (fn tb) Tb.un):=Tb.gK fun i hi=>EH hi;have F:=D.fs;rw[e1] at F;have I:=Tb.J9 F;have c:=D.f3;rw[e1,Tb.gK (W:=fn (unT k)) (W':=Tb.un) fun i hi=>oU hi] at c;rw[<-c] at I;have lo:(2:Nat) ^ m.m<=2 ^ (n+m.m+N):=Tb.pw ω;have e3:=(D.e3 t4).mono (Ae (Tb.zr G.Nn (Tb.zr (Tb.zr (Ad _) (Ad _)) (Ad _))) (Tb.pw (show n+(m.m+N+0)<=n+m.m+N from ω)));refine lH G (Ad _) (Ad _) (Ad _) o e zX (kc D.l1) b fun j f=>?_;have e2:Tb.tl j (Tb.glue k (fn ((Af w).map (colAt S))) Tb.un)=Tb.tl j (Tb.glue k (fun u i=>vF fr (Tb.pp P i) u) Tb.un):=Tb.gK fun u a=>BF (fun i hi=>by rw[zY ω];exact D.f1 i u hi ω) rfl;rw[e2];have g:N+1<=2 ^ (n+1):=by have:=G.Nn;have:=AF (n:=n);rw[Nat.pow_succ];(first|lia|omega)
 refine Tb.PV (M:=2 ^ (n+m.m+N)) I f ω AF AF (fun s u _ _=>Ae (d s u) lo) (fun i s hi p=>?_) (fun i u hi a=>?_) ?_ ?_
 ·have:((Tb.tl k (fn Bn)).getD i fun _=>0)=fn Bn i:=by
   unfold Tb.tl;rw[Ac,Aj,AH hi];rfl
  rw[this];exact e3 i s
 ·have:=b u i
  rw[zY a,D.f1 i u hi a] at this;exact this
 ·refine Ae (Bh (Tb.zr (Tb.zr (show 2<=2 ^ 1 from ξ) g) (Ad _)) _) ?_
  rw[<-Nat.pow_mul];refine Tb.pw (Ae (Ak _ ?_) h.2.2.2.1);(first|lia|omega)
 ·exact Ae (Tb.zr G.Nn (Tb.zr (Ad _) (Ad _))) (Tb.pw h.2.2.2.2)
def Sd(N n:Nat)(m:cx)(k w:Nat)(tb:Ξ):Prop:=(2*(k*2 ^ m.m)+1) ^ k<=2 ^ dd N n m\/∀y:Tb.Vc,∃c:Tb.Vc,∀s,s<k->Tb.dot w (fn tb s) c=y s
def K4{q:Nat}(Nn:N<=2 ^ n)(a:k<=N):Sd N n (lF N n q) k w tb:=by
 refine .inl ?_;show(2*(k*2 ^ q)+1) ^ k<=2 ^ ((2+n+q)*N);rw[Nat.pow_mul];have h1:2*(k*2 ^ q)+1<=2 ^ (2+n+q):=by
  have a1:k*2 ^ q<=2 ^ (n+q):=Tb.zr (Ae a Nn) (Ad _);have a2:2 ^ (2+n+q)=4*2 ^ (n+q):=by rw[Nat.add_assoc,Nat.pow_add]
  have a3:=AF (n:=n+q);(first|lia|omega)
 exact Ae (Bh h1 _) (AC AF a)
def P4(G:Good N n m)(l:tb.length=k)(hw:∀r∈tb,r.length=w)(f:Ent tb (2 ^ m.m))(g:k<=N)(j:w<=N)(D:Done N (2 ^ m.m) (2 ^ x1 N n m) (2 ^ be N n m) w k tb (unT k) (unT k) P fr S U Bn)(D2:Done N (2 ^ m2 N n m) (2 ^ x2 N n m) (2 ^ ga N n m) k w ((Af w).map (colAt S)) (unT w) (unT w) P2 gI T V Bf)(sp:Sd N n m k w tb):∃r QU QV,LS N n m 0 0 (fn tb) k w r T U Bn V Bf QU QV:=by
 have hb:=iL G;have e1:Tb.tl k (Tb.glue w (fn tb) (fn (unT k)))=Tb.tl k (Tb.glue w (fn tb) Tb.un):=Tb.gK fun i hi=>EH hi;have F:=D.fs;rw[e1] at F;have I:=Tb.J9 F;have e:=Tb.OF AF Tb.KZ (fun r hr u=>?_) F
 ·have e2:Tb.tl w (Tb.glue k (fn ((Af w).map (colAt S))) (fn (unT w)))=Tb.tl w (Tb.glue k (fun u i=>vF fr (Tb.pp P i) u) Tb.un):=Tb.gK fun u a=>BF (fun i hi=>by rw[zY a];exact D.f1 i u hi a) (oU a)
  have d:=D2.fs;rw[e2] at d;obtain⟨o,pr,J⟩:=Tb.OG I (D:=(2*(k*2 ^ m.m)+1) ^ k) e d;have b:=D.f3;rw[e1,Tb.gK (W:=fn (unT k)) (W':=Tb.un) fun i hi=>oU hi] at b;have c:=D2.f3;rw[e2,Tb.gK (W:=fn (unT w)) (W':=Tb.un) fun i hi=>oU hi] at c;rw[<-b,<-c] at J;have p:k0 N n m=2*n+ga N n m+x2 N n m+m2 N n m+N+m.m:=rfl;have rk:=J.rk;have J2:=J.cg (T':=fn T) (U':=fn U) (V':=fn V) (fun u i a hi=>(D2.f1 u i a hi).symm) (fun i hi=>(D.f2 i hi).symm) fun u a=>(D2.f2 u a).symm;have J3:=J2.setD (D':=2 ^ dd N n m) fun q hq=>by
   rcases sp with h|h
   ·exact Ae (J2.pd q hq) h
   ·exact Ae (J2.pd1 h q hq) AF
  refine⟨_,_,_,g,j,D2.l1,D.l2,D.l3,D2.l2,D2.l3,D2.w1,D.w2,D.w3,D2.w2,D2.w3,J3,Ap _,?_,⟨_,(D.e2 t4).mono (Tb.zr G.Nn (Tb.zr (Tb.oA G.Nn) (Ad _))),?_⟩,⟨_,(D.e3 t4).mono (Tb.zr G.Nn (Tb.zr (Tb.zr (Ad _) (Ad _)) (Ad _))),?_⟩,(D2.e2 t4).mono (Ae (Tb.zr G.Nn (Tb.zr (Tb.oA G.Nn) (Ad _))) (Tb.pw ?_)),(D2.e3 t4).mono (Ae (Tb.zr G.Nn (Tb.zr (Tb.zr (Ad _) (Ad _)) (Ad _))) (Tb.pw ?_))⟩
  ·have h1:=Tb.J_ (T:=fn T) (D:=2 ^ dd N n m) (Tb.cut w P) J3.tp J3.pd
   rw[Nat.log2_two_pow] at h1;have h2:Tb.cut w P*dd N n m<=N*dd N n m:=Ak _ ω;unfold Tb.ms Tm;split<;>(first|lia|omega)
  ·(first|lia|omega)
  ·(first|lia|omega)
  ·(first|lia|omega)
  ·(first|lia|omega)
 ·obtain⟨i,hi,rfl⟩:=List.mem_map.mp hr
  exact BJ (fun u _=>f i u) (fun s=>Ae Tb.EG AF) u
end
end K26
end
section
namespace K26
open PySem L2
def P5{tb:Ξ}:tb.zipIdx=(Af tb.length).map fun i=>(rowAt tb i,i):=by
 apply AZ
 ·simp
 ·intro i h1 h2
  rw[List.length_zipIdx] at h1;rw[AW,A9,List.getElem_zipIdx,zw (Aa h1)];simp
def K5{a:Type}{p:Nat->List Int->Bool}{g:Nat->List Int->a}{tb:Ξ}:ka p g tb.zipIdx=((Af tb.length).filter fun i=>p i (rowAt tb i)).map fun i=>g i (rowAt tb i):=by
 unfold ka;rw[P5,List.filter_map,AT]
 rfl
def K6{l:List Int}{k u:Nat}(a:u≠k):vc (b0 l k l.length) u=0:=by
 unfold b0;split
 ·unfold vc
  rw[Ac,List.getElem?_set,if_neg (Ne.symm a),List.getElem?_replicate];split<;>rfl
 ·exact KC
def K7{l:List Int}{k w:Nat}:(b0 l k w).length=w:=by unfold b0;split<;>simp
def HJ{a b:List Int}(h:a.length=b.length)(hv:∀u,u<a.length->vc a u=vc b u):a=b:=by
 apply AZ h;intro i h1 h2;have:=hv i h1
 rwa [iK h1,iK h2] at this
def K8{l:List Int}{k:Nat}:l=b0 l k l.length↔∀u,u≠k->vc l u=0:=by
 constructor
 ·intro h u a
  rw[h];exact K6 (l:=l) a
 ·intro h
  refine HJ K7.symm fun u a=>?_
  by_cases c:u=k
  ·subst c
   unfold b0;rw[if_pos a];unfold vc;rw[Ac,Ac,List.getElem?_set,if_pos rfl,List.length_replicate,if_pos a]
   rfl
  ·rw[h u c,K6 c]
def P6{tb:Ξ}:dB tb=true↔∀i,i<tb.length->∀u,u≠i->fn tb i u=0:=by
 unfold dB;rw[K5,List.all_map,Be];constructor
 ·intro h i hi u a
  have:=h i (List.mem_filter.mpr ⟨List.mem_range.mpr hi,rfl⟩);have this:decide (rowAt tb i=b0 (rowAt tb i) i (rowAt tb i).length)=true:=this;exact K8.mp (of_decide_eq_true this) u a
 ·intro h i hi
  have hi:=List.mem_range.mp (List.mem_filter.mp hi).1;exact decide_eq_true (K8.mpr (h i hi))
def P7{r w:Nat}(h:r<=w):(Af w).filter (fun i=>decide (i<r))=Af r:=by
 have e:Af w=Af r++(Af (w-r)).map (r+·):=by rw[<-List.range_add];congr 1;(first|lia|omega)
 rw[e,List.filter_append];have h1:(Af r).filter (fun i=>decide (i<r))=Af r:=List.filter_eq_self.mpr fun i hi=>decide_eq_true (List.mem_range.mp hi);have h2:((Af (w-r)).map (r+·)).filter (fun i=>decide (i<r))=[]:=List.filter_eq_nil_iff.mpr fun i hi=>by
  obtain⟨j,_,rfl⟩:=List.mem_map.mp hi;simp
 rw[h1,h2,List.append_nil]
def dg(r:Nat)(T:Ξ):List Int:=(Af r).map fun i=>fn T i i
def HK{r u:Nat}{g:Nat->Int}(h:u<r):vc ((Af r).map g) u=g u:=by
 unfold vc;rw[Ac,Aj,AH h];rfl
section
variable{N n:Nat}{m:cx}{t e k w r:Nat}{A:Nat->Tb.Vc}{T U Bn V Bf:Ξ}{QU QV:Nat->Nat}
def LS.onSl(L:LS N n m t e A k w r T U Bn V Bf QU QV):dB T=true↔Tb.Dg r (fn T):=by
 have rk:=L.li.rk;have d:=L.li.rw;rw[P6,L.lT];constructor
 ·intro h u i a hi ne
  exact h u ω i (Ne.symm ne)
 ·intro h u a i ne
  by_cases c:i<k
  ·by_cases b:u<r/\i<r
   ·exact h u i b.1 b.2 (Ne.symm ne)
   ·exact L.li.to u i a c ω
  ·unfold fn
   exact eL (by rw[L.wT _ (zG (by rw[L.lT];exact a))];(first|lia|omega))
def LS.slOf(L:LS N n m t e A k w r T U Bn V Bf QU QV):cq T=dg r T:=by
 have rk:=L.li.rk;have a:=L.li.rw;unfold K26.cq;rw[K5,L.lT];have e:(Af w).filter (fun i=>decide (i<(rowAt T i).length)&&decide (vc (rowAt T i) i≠0))=(Af w).filter fun i=>decide (i<r):=List.filter_congr fun i hi=>by
  have hi:=List.mem_range.mp hi;have b:(rowAt T i).length=k:=L.wT _ (zG (by rw[L.lT];exact hi));rw[b,Bool.eq_iff_iff,Bool.and_eq_true,decide_eq_true_eq,decide_eq_true_eq,decide_eq_true_eq];constructor
  ·rintro⟨h1,h2⟩
   refine AD fun c=>h2 ?_;exact L.li.to i i hi h1 ω
  ·intro h
   exact⟨ω,by have:0<vc (rowAt T i) i:=L.li.tp i h;(first|lia|omega)⟩
 rw[e,P7 a]
 rfl
def LS.inSt(L:LS N n m t e A k w r T U Bn V Bf QU QV):cZ T=true↔Tb.Dg r (fn T)/\∀i,i+1<r->fn T i i ∣ fn T (i+1) (i+1):=by
 have c:=L.li.rw;unfold K26.cZ;rw[Bool.and_eq_true,L.onSl,L.slOf,L.lT];refine and_congr_right fun _=>?_;unfold fI;have ld:(dg r T).length=r:=by unfold dg;simp
 have h1:(!decide ((w:Int)<((dg r T).length:Int)))=true:=by rw[ld];simp;(first|lia|omega)
 have h2:(dg r T).all (fun x=>decide (0<x))=true:=by
  rw[Be];intro x hx;obtain⟨i,hi,rfl⟩:=List.mem_map.mp hx;exact decide_eq_true (L.li.tp i (List.mem_range.mp hi))
 rw[h1,h2,Bool.true_and,Bool.true_and,Be];constructor
 ·intro h i hi
  have g:(AA (fun a b=>decide (b%a=0)) (dg r T) ((dg r T).drop 1))[i]?=some (decide (fn T (i+1) (i+1)%fn T i i=0)):=by
   rw[List.getElem?_zipWith,List.getElem?_drop];unfold dg;rw[Aj,Aj,AH ω,AH ω,Nat.add_comm 1 i]
   rfl
  have:=h _ (Am g);exact Int.dvd_of_emod_eq_zero (of_decide_eq_true this)
 ·intro h x hx
  obtain⟨i,hi,rfl⟩:=AN hx;rw[AE,List.length_drop,ld] at hi;rw[A0,List.getElem_drop];unfold dg;rw[AW,AW,A9,A9];have:=h i ω;rw[Nat.add_comm 1 i];exact decide_eq_true (Int.emod_eq_zero_of_dvd this)
end
structure Pap(k w:Nat)(A:Nat->Tb.Vc)(u ub v vb:Ξ)(st:List Int):Prop where
 lu:u.length=k
 lub:ub.length=k
 lv:v.length=w
 lvb:vb.length=w
 wu:∀r∈u,r.length=k
 wub:∀r∈ub,r.length=k
 wv:∀r∈v,r.length=w
 wvb:∀r∈vb,r.length=w
 mu:∀r∈u,∀x∈r,x.natAbs+1000<low
 mub:∀r∈ub,∀x∈r,x.natAbs+1000<low
 mv:∀r∈v,∀x∈r,x.natAbs+1000<low
 mvb:∀r∈vb,∀x∈r,x.natAbs+1000<low
 u1:∀i j,i<k->j<k->Tb.dot k (fn u i) (fun s=>fn ub s j)=Tb.dl i j
 u2:∀i j,i<k->j<k->Tb.dot k (fn ub i) (fun s=>fn u s j)=Tb.dl i j
 v1:∀i j,i<w->j<w->Tb.dot w (fn v i) (fun s=>fn vb s j)=Tb.dl i j
 v2:∀i j,i<w->j<w->Tb.dot w (fn vb i) (fun s=>fn v s j)=Tb.dl i j
 sk:st.length<=k
 sw:st.length<=w
 sp:∀x∈st,0<x
 sd:∀i,i+1<st.length->vc st i ∣ vc st (i+1)
 s9:∀x∈st,x.natAbs<2 ^ 9000
 sb:∀x∈st,x.natAbs<big
 pr:∀i j,i<k->j<w->Tb.aM k w A (fn u i) (fun s=>fn v s j)=if i=j/\i<st.length then vc st i else 0
 kv:∃(b:Nat)(Q:Nat->Nat),Tb.Ker w st.length 1 b (fun j t=>fn v t j) Q
def Pap.su{k w:Nat}{A:Nat->Tb.Vc}{u ub v vb:Ξ}{st:List Int}(p:Pap k w A u ub v vb st):∀r∈u,∀x∈r,x.natAbs<low:=fun r hr x hx=>At (A7 _ _) (p.mu r hr x hx)
def Pap.sub{k w:Nat}{A:Nat->Tb.Vc}{u ub v vb:Ξ}{st:List Int}(p:Pap k w A u ub v vb st):∀r∈ub,∀x∈r,x.natAbs<low:=fun r hr x hx=>At (A7 _ _) (p.mub r hr x hx)
def Pap.sv{k w:Nat}{A:Nat->Tb.Vc}{u ub v vb:Ξ}{st:List Int}(p:Pap k w A u ub v vb st):∀r∈v,∀x∈r,x.natAbs<low:=fun r hr x hx=>At (A7 _ _) (p.mv r hr x hx)
def HL{ρ:Nat->Tb.Vc}{c:Nat->Int}{u:Nat}:∀k,Tb.sm ρ c k u=Tb.dot k c (fun a=>ρ a u)
 |0=>rfl
 |k+1=>by show Tb.sm ρ c k u+c k*ρ k u=Tb.dot k c _+c k*ρ k u;rw[HL k]
def HM{a b:Tb.Vc}:∀k,Tb.dot k a b=Tb.dot k b a
 |0=>rfl
 |k+1=>by show Tb.dot k a b+a k*b k=Tb.dot k b a+b k*a k;rw[HM k,A5]
def HN{i j:Nat}:Tb.dl i j=Tb.dl j i:=by
 unfold Tb.dl
 by_cases c:i=j
 ·rw[if_pos c,if_pos c.symm]
 ·rw[if_neg c,if_neg (Ne.symm c)]
def HP{T:Ξ}{K q:Nat}(h:Ent T K):Ent ((Af q).map (colAt T)) K:=oE zX fun i hi u=>by rw[zY hi];exact h u i
section
variable{N n:Nat}{m:cx}{t e k w r:Nat}{A:Nat->Tb.Vc}{T U Bn V Bf:Ξ}{QU QV:Nat->Nat}
def LS.pap(G:Good N n m)(L:LS N n m t e A k w r T U Bn V Bf QU QV)(h:K26.cZ T=true):Pap k w A U ((Af k).map (colAt Bn)) ((Af w).map (colAt V)) Bf (K26.cq T):=by
 obtain⟨hd,hv⟩:=L.inSt.mp h;have tT:=L.tT;have rk:=L.li.rk;have v:=L.li.rw;obtain⟨y,f,z⟩:=L.eu;obtain⟨C,g,D⟩:=L.eb;obtain⟨l,p2⟩:=Tb.Ek.mp L.li.bu;obtain⟨o,p⟩:=Tb.Ek.mp L.li.bv;have ld:(dg r T).length=r:=by unfold dg;simp
 rw[L.slOf];refine⟨L.lU,zX,zX,L.lC,L.wU,kc L.lB,kc L.lV,L.wC,G.entM (t:=t) f ω ω,G.entM (t:=t) (HP g) ω ω,G.entM (t:=t) (HP L.ev) ω ω,G.entM (t:=t) L.ec ω ω,fun i j hi a=>?_,fun i j hi a=>?_,fun i j hi a=>?_,fun i j hi a=>?_,ω,ω,fun x hx=>?_,fun i hi=>?_,fun x hx=>?_,fun x hx=>?_,fun i j hi a=>?_,⟨2 ^ ga N n m,QV,?_⟩⟩
 ·rw[<-p2 i j hi a]
  exact Tb.zi fun s b=>zY b j
 ·have:=l i j hi a
  rw[HL] at this;rw[<-this];exact Tb.zF fun s _=>zY hi s
 ·have:=o j i a hi
  rw[HL,HM,HN] at this;rw[<-this];exact Tb.zF fun s _=>zY hi s
 ·rw[HN,<-p j i a hi,HM]
  exact Tb.zF fun s b=>zY b j
 ·obtain⟨i,hi,rfl⟩:=List.mem_map.mp hx
  exact L.li.tp i (List.mem_range.mp hi)
 ·rw[ld] at hi
  have:=hv i hi;unfold dg;rw[HK ω,HK hi];exact this
 ·obtain⟨i,hi,rfl⟩:=List.mem_map.mp hx
  have hi:=List.mem_range.mp hi;have h1:=L.li.small (u:=i) (i:=i) ω ω;have h2:=iL G;have E:=G.piv;exact At h1 (Nat.pow_lt_pow_right ξ ω)
 ·obtain⟨i,hi,rfl⟩:=List.mem_map.mp hx
  have hi:=List.mem_range.mp hi;have h1:=L.li.small (u:=i) (i:=i) ω ω;have H:=G.lim;have h2:=iL G;have F:k0 N n m=2*n+ga N n m+x2 N n m+m2 N n m+N+m.m:=rfl;exact KF h1 ω
 ·rw[ld]
  have e1:Tb.aM k w A (fn U i) (fun s=>fn ((Af w).map (colAt V)) s j)=Tb.aM k w A (fn U i) (fn V j):=by
   unfold Tb.aM;exact Tb.zi fun s _=>Tb.zi fun q hq=>zY hq j
  rw[e1,<-L.li.bl j i a hi]
  by_cases c:i=j/\i<r
  ·rw[if_pos c,<-c.1]
   unfold dg;rw[HK c.2]
  ·rw[if_neg c]
   by_cases d:j<r/\i<r
   ·exact hd j i d.1 d.2 ω
   ·exact L.li.to j i a hi ω
 ·rw[ld]
  refine L.li.kv.cg v fun j a=>funext fun t=>?_
  by_cases c:t<w
  ·exact(zY c j).symm
  ·have h1:fn V j t=0:=by unfold fn;exact eL (by rw[L.wV _ (zG (by rw[L.lV];exact a))];(first|lia|omega))
   have h2:fn ((Af w).map (colAt V)) t j=0:=by unfold fn;rw[lE (by rw[zX];(first|lia|omega))];rfl
   rw[h1,h2]
end
abbrev CV:Stmt:=top 23
def Dj(x y:List Addr):Prop:=∀a∈x,∀b∈y,a≠b
def NT.there{H H':Hp}{a:Addr}{ds:List Addr}{tb:Ξ}(h:NT H H' a ds tb):∀z∈a::ds,H' z≠none:=fun z hz=>by
 rcases List.mem_cons.mp hz with rfl|hz
 ·rw[h.at_];simp
 ·exact h.rows.there z hz
def NT.new{H H':Hp}{a:Addr}{ds:List Addr}{tb:Ξ}(h:NT H H' a ds tb):∀z∈a::ds,H z=none:=fun z hz=>by
 rcases List.mem_cons.mp hz with rfl|hz
 ·exact h.na
 ·exact(h.nw z hz).1
def iN{x y:List Addr}{H:Hp}(h1:∀z∈x,H z≠none)(h2:∀z∈y,H z=none):Dj x y:=fun a c b hb e=>h1 a c (e▸h2 b hb)
def HQ{tb:Ξ}{k:Nat}(l:tb.length=k)(hw:∀r∈tb,r.length=k)(hk:k<=40):bW tb=true/\turn tb=(Af k).map (colAt tb)/\wid tb=k:=by
 have e:wid tb=k:=by
  cases c:tb with
  |nil=>rw[c] at l;exact l
  |cons x r=>exact hw x (by rw[c];exact AI ..)
 refine⟨?_,by unfold turn;rw[e],e⟩;unfold bW;rw[e,l,decide_eq_true hk];simp only[Bool.and_self,Bool.true_and,Be];exact fun r hr=>decide_eq_true (hw r hr)
structure PapH(H H':Hp)(p:Addr)(u ub v vb:Ξ)(st:List Int)(a1 a2 a3 a4 a5:Addr)(d1 d2 d3 d4:List Addr):Prop where
 at_:H' p=some (.tup [.ref a1,.ref a2,.ref a3,.ref a4,.ref a5])
 n1:NT H H' a1 d1 u
 n2:NT H H' a2 d2 ub
 n3:NT H H' a3 d3 v
 n4:NT H H' a4 d4 vb
 n5:H' a5=some (.lst (st.map V.int))
 na:H a5=none
 j12:Dj (a1::d1) (a2::d2)
 j13:Dj (a1::d1) (a3::d3)
 j14:Dj (a1::d1) (a4::d4)
 j15:Dj (a1::d1) [a5]
 j23:Dj (a2::d2) (a3::d3)
 j24:Dj (a4::d4) (a2::d2)
 j25:Dj (a2::d2) [a5]
 j34:Dj (a4::d4) (a3::d3)
 j35:Dj (a3::d3) [a5]
 j45:Dj (a4::d4) [a5]
structure lI(N n:Nat)(m:cx)(k w:Nat)(tb:Ξ):Prop where
 good:Good N n m
 l:tb.length=k
 wd:∀r∈tb,r.length=w
 ent:Ent tb (2 ^ m.m)
 kN:k<=N
 wN:w<=N
 rb:Rb N n m k w tb
 sd:Sd N n m k w tb
def K9(H:Hp)(Q:VK)(k w:Nat)(A:Nat->Tb.Vc):Prop:=∀H' p u ub v vb st a1 a2 a3 a4 a5 d1 d2 d3 d4,Same H H'->PapH H H' p u ub v vb st a1 a2 a3 a4 a5 d1 d2 d3 d4->Pap k w A u ub v vb st->Q (.ref p) H'
section
variable{P:Program}{w:World}{K:Ah}{mg:Str->Option Value}{base:Heap}
def HR:Sp:=fun vs H Q _=>∃(L:Addr)(rs:List Addr)(tb:Ξ)(N n:Nat)(m:cx)(k w:Nat),vs=[.ref L,.int w]/\H L=some (.lst (rs.map V.ref))/\Rws H rs tb/\lI N n m k w tb/\K9 H Q k w (fn tb)
def pe:zo ["table","width","size","near","far"] ["table","width"] (zf CV):=⟨rfl,rfl,rfl,δ,rfl,δ,δ⟩
def P8{f fs fu fc fk fi fo fp fl:Addr}{fd aw mQ aO gw fV fy cL aX:FuncData}(F:Fun K "paper_of" "paper_of" CV f fd)(bl:mg "len"=none)(Fs:Fun K "straightened" "straightened" ek fs aw)(bs:Binds K aw ["side","width"] [])(ms:mg "straightened"=some (.ref fs))(Gs:al P w K mg base aG 5 fs aw ["side","width"] Kq)(Fu:Fun K "unit" "unit" Eo fu mQ)(bu:Binds K mQ ["size"] [])(mu:mg "unit"=some (.ref fu))(Gu:al P w K mg base aG 3 fu mQ ["size"] Kk)(Fc:Fun K "columns_to" "columns_to" qL fc aO)(bc:Binds K aO ["table","width"] [])(mc:mg "columns_to"=some (.ref fc))(Gc:al P w K mg base aG 2 fc aO ["table","width"] (GD K))(Fk:Fun K "columns_of" "columns_of" nH fk gw)(bk:Binds K gw ["table"] [])(mk:mg "columns_of"=some (.ref fk))(Gk:al P w K mg base aG 3 fk gw ["table"] (wR K))(Fi:Fun K "is_in_steps" "is_in_steps" Es fi fV)(bi:Binds K fV ["table"] [])(mi:mg "is_in_steps"=some (.ref fi))(Gi:al P w K mg base aG 3 fi fV ["table"] Kw)(Fo:Fun K "is_on_slope" "is_on_slope" zz fo fy)(bo:Binds K fy ["table"] [])(mo:mg "is_on_slope"=some (.ref fo))(Go:al P w K mg base aG 2 fo fy ["table"] Hx)(Fp:Fun K "slope_of" "slope_of" A' fp cL)(bp:Binds K cL ["table"] [])(mp:mg "slope_of"=some (.ref fp))(Gp:al P w K mg base aG 1 fp cL ["table"] Hy)(Fl:Fun K "slid" "slid" Er fl aX)(bd:Binds K aX ["side","count"] [])(ml:mg "slid"=some (.ref fl))(Gl:al P w K mg base aG 2 fl aX ["side","count"] Kr):al P w K mg base aG 6 f fd ["table","width"] HR:=by
 refine F.ok pe (fun vs H Q E h=>?_) (fun ah A outer s H vs Q E hr h=>?_)
 ·obtain⟨L,rs,tb,N,n,m,k,d,rfl,_⟩:=h;rfl
 ·obtain⟨L,rs,tb,N,n,m,k,d,rfl,hL,hT,ok,kk⟩:=h
  have M:Room 3 _:=hr.mono ξ;have dj:Room 2 _:=hr.mono ξ;have hr1:Room 1 _:=hr.mono ξ;refine⟨_,zc (zp (i:=2) pe.nd rfl (Or.inl rfl) (zn zm rfl bl dt (za (pv 0) zb)))
   (zc (zp (i:=3) pe.nd rfl (Or.inl rfl) (ze Gs hr rfl ms Fs.kp bs .nil ag (za (hJ (za (pv 0) (za (ze Gu M rfl mu Fu.kp bu .nil ag (za (pv 2) zb)) (za (ze Gu M rfl mu Fu.kp bu .nil ag (za (pv 2) zb)) zb)))) (za (pv 1) zb))))
   (zc (zp (i:=4) pe.nd rfl (Or.inl rfl) (ze Gs hr rfl ms Fs.kp bs .nil ag (za (hJ (za (ze Gc dj rfl mc Fc.kp bc .nil ag (za (zx zK (pv 3) zd (fun _ _=>rfl)) (za (pv 1) zb))) (za (ze Gu M rfl mu Fu.kp bu .nil ag (za (pv 1) zb)) (za (ze Gu M rfl mu Fu.kp bu .nil ag (za (pv 1) zb)) zb)))) (za (pv 2) zb))))
   (zc (uK A4 (uz (pV (ze Gi M rfl mi Fi.kp bi .nil ag (za (zx zK (pv 4) zd (fun _ _=>rfl)) zb))))
    (zc (zp (i:=3) pe.nd rfl (Or.inl rfl) (hJ (za (ze Gc dj rfl mc Fc.kp bc .nil ag (za (zx zK (pv 4) zd (fun _ _=>rfl)) (za (pv 2) zb))) (za (zx zK (pv 3) zd (fun _ _=>rfl)) (za (zx zK (pv 3) zd (fun _ _=>rfl)) zb)))))
    (zc (zp (i:=3) pe.nd rfl (Or.inl rfl) (p4 (pV (ze Go dj rfl mo Fo.kp bo .nil ag (za (zx zK (pv 4) zd (fun _ _=>rfl)) zb)))
     (ze Gl dj rfl ml Fl.kp bd .nil ag (za (pv 3) (za (zn zm rfl bl dt (za (ze Gp hr1 rfl mp Fp.kp bp .nil ag (za (zx zK (pv 4) zd (fun _ _=>rfl)) zb)) zb)) zb)))
     (ze Gs hr rfl ms Fs.kp bs .nil ag (za (pv 3) (za (pv 1) zb)))))
    (zh (zp (i:=4) pe.nd rfl (Or.inl rfl) (ze Gs hr rfl ms Fs.kp bs .nil ag (za (hJ (za (ze Gc dj rfl mc Fc.kp bc .nil ag (za (zx zK (pv 3) zd (fun _ _=>rfl)) (za (pv 1) zb))) (za (zx zK (pv 4) zd (fun _ _=>rfl)) (za (zx zK (pv 4) zd (fun _ _=>rfl)) zb)))) (za (pv 2) zb))))))))
   (zh (zq (hJ (za (zx zK (pv 3) zd (fun _ _=>rfl)) (za (ze Gk M rfl mk Fk.kp bk .nil ag (za (zx zK (pv 3) zd (fun _ _=>rfl)) zb)) (za (ze Gk M rfl mk Fk.kp bk .nil ag (za (zx zK (pv 4) zd (fun _ _=>rfl)) zb)) (za (zx zK (pv 4) zd (fun _ _=>rfl)) (za (ze Gp hr1 rfl mp Fp.kp bp .nil ag (za (zx zK (pv 4) zd (fun _ _=>rfl)) zb)) zb))))))))))),?_⟩
  have bG:=hT.len;have G:=ok.good;have N40:=G.N40;have kN:=ok.kN;have wN:=ok.wN;refine⟨_,rfl,L,_,rfl,.inl (SqL.of hL),?_⟩;rw[Ab,bG,ok.l];refine⟨_,rfl,_,rfl,k,rfl,ω,fun u1 H1 sU s1 CN kG uU BZ BN=>⟨_,rfl,k,rfl,ω,fun u2 H2 x8 s2 C6 mV yR Cn Dn=>⟨by show 3<=sizeLine;decide,fun t1 kh=>⟨_,rfl,?_⟩⟩⟩⟩;have sq:=Same.new (o:=.tup [V.ref L,V.ref u1,V.ref u2]) kh;have S1:=Cj G ok.kN ok.wN ok.l ok.wd ok.ent ok.rb;refine⟨t1,L,u1,u2,rs,sU,x8,tb,unT k,unT k,_,_,_,_,_,d,k,rfl,af,((s1.trans s2).trans sq) _ _ hL,(s2.trans sq) _ _ kG,sq _ _ mV,hT.same ((s1.trans s2).trans sq),uU.same (s2.trans sq),yR.same sq,S1.ok,fun P1 js tn an v I Br W dY H3 F1 W1 s3 X iQ b y=>?_⟩;have D1:=S1.done F1 W1;have eM:=((s1.trans s2).trans sq).trans s3;have iQ:=iQ.old ((s1.trans s2).trans sq);have b:=b.old ((s1.trans s2).trans sq);have y:=y.old ((s1.trans s2).trans sq);generalize (P1.map fun p=>(js p).take d)=S at D1 iQ;generalize (P1.map fun p=>(js p).drop d)=U at D1 b;generalize jp k ((cat tb (unT k)).map fun r=>shrL js r P1) (unT k)=Bn at D1 y;refine⟨_,rfl,tn,_,_,_,rfl,rfl,SqT.of X,zj (j:=0) rfl,_,rfl,an,Br,S,d,rfl,SqL.of iQ.at_,iQ.rows,by rw[D1.l1];(first|lia|omega),ω,fun r hr=>Nat.le_of_eq (D1.w1 r hr).symm,fun c1 H4 i_ s4 gO gq l_ oZ qe=>?_⟩;refine⟨_,rfl,d,rfl,ω,fun u3 H5 tu s5 CS mz sA B9 B7=>⟨_,rfl,d,rfl,ω,fun u4 H6 ue s6 kR mj wY CG CU=>⟨by show 3<=sizeLine;decide,fun t2 jT=>⟨_,rfl,?_⟩⟩⟩⟩;have Z:=Same.new (o:=.tup [V.ref c1,V.ref u3,V.ref u4]) jT;have S2:=CP G ok.l ok.wd ok.ent ok.kN ok.wN D1;have gB:=((s4.trans s5).trans s6).trans Z;refine⟨t2,c1,u3,u4,i_,tu,ue,_,unT d,unT d,_,_,_,_,_,k,d,rfl,af,((s5.trans s6).trans Z) _ _ gq,(s6.trans Z) _ _ mz,Z _ _ mj,l_.same ((s5.trans s6).trans Z),sA.same (s6.trans Z),wY.same Z,S2.ok,fun P2 gI D O bf J dC eW dm H7 F2 W2 s7 u c C g=>?_⟩;have D2:=S2.done F2 W2;obtain⟨r,QU,QV,LL⟩:=P4 G ok.l ok.wd ok.ent ok.kN ok.wN D1 D2 ok.sd;have iu:=gB.trans s7;have iW:=eM.trans iu;have jj:Dj (v::W) (J::dm):=iN (b.same gB).there g.new;have c:=c.old (eM.trans gB);have C:=C.old (eM.trans gB);have g:=g.old (eM.trans gB);have b:=b.same iu;have y:=y.same iu;have X:=iu _ _ X;generalize (P2.map fun p=>(gI p).take k)=T at D2 c LL;generalize (P2.map fun p=>(gI p).drop k)=V at D2 C LL;generalize jp d ((cat ((Af d).map (colAt S)) (unT d)).map fun r=>shrL gI r P2) (unT d)=Bf at D2 g LL;refine⟨fun q σ H8=>∃(t e:Nat)(T U Bn V Bf:Ξ)(QU QV:Nat->Nat)(tn an v I D O bf J:Addr)(W dY dC eW dm:List Addr),q=Tm N n m-t/\σ=[some (.ref L),some (.int d),some (.int k),some (.ref tn),some (.ref D)]/\Same H H8/\H8 tn=some (.tup [.ref an,.ref v,.ref I])/\H8 D=some (.tup [.ref O,.ref bf,.ref J])/\NT H H8 v W U/\NT H H8 I dY Bn/\NT H H8 O dC T/\NT H H8 bf eW V/\NT H H8 J dm Bf/\Dj (v::W) (J::dm)/\LS N n m t e (fn tb) k d r T U Bn V Bf QU QV,
   ⟨_,0,0,T,U,Bn,V,Bf,QU,QV,tn,an,v,I,D,O,bf,J,W,dY,dC,eW,dm,rfl,rfl,iW,X,u,b,y,c,C,g,jj,LL⟩,?_⟩
  clear LL jj g C c D2 u iW iu S2 gB Z D1 S1 X y b;rintro q σ H8 ⟨t,e,T,U,Bn,V,Bf,QU,QV,tn,an,v,I,D,O,bf,J,W,dY,dC,eW,dm,rfl,rfl,s8,X,u,b,y,c,C,g,jj,LL⟩;have ii:T.length<=1000:=by rw[LL.lT];(first|lia|omega)
  have wT9:∀x∈T,x.length<=1000:=fun x hx=>by rw[LL.wT x hx];(first|lia|omega)
  refine⟨_,rfl,D,_,_,_,rfl,rfl,SqT.of u,zj (j:=0) rfl,O,dC,T,rfl,c.at_,c.rows,ii,wT9,fun H9 a=>⟨_,rfl,?_⟩⟩;have X:=a _ _ X;have u:=a _ _ u;have b:=b.same a;have y:=y.same a;have c:=c.same a;have C:=C.same a;have g:=g.same a;have a:=s8.trans a;clear s8;cases dJ:cZ T with
  |true=>
   refine aP ?_;obtain⟨i1,i2,_⟩:=HQ LL.lB LL.wB ω;obtain⟨j1,j2,_⟩:=HQ LL.lV LL.wV ω;refine⟨_,rfl,tn,_,_,_,rfl,rfl,SqT.of X,zj (j:=1) rfl,_,rfl,tn,_,_,_,rfl,rfl,SqT.of X,zj (j:=2) rfl,I,dY,Bn,rfl,SqL.of y.at_,y.rows,i1,fun a2 Ha d2 sa yV kE oW rP xr=>?_⟩;rw[i2] at oW;refine⟨_,rfl,D,_,_,_,rfl,rfl,SqT.of (sa _ _ u),zj (j:=1) rfl,bf,eW,V,rfl,SqL.of (sa _ _ C.at_),C.rows.same sa,j1,fun a3 Hb d3 Y qQ mH pQ rX yF=>?_⟩;rw[j2] at pQ;have eZ:=sa.trans Y;refine⟨_,rfl,D,_,_,_,rfl,rfl,SqT.of (eZ _ _ u),zj (j:=2) rfl,_,rfl,D,_,_,_,rfl,rfl,SqT.of (eZ _ _ u),zj (j:=0) rfl,O,dC,T,rfl,eZ _ _ c.at_,c.rows.same eZ,ii,fun a5 Hc sc qK kW=>⟨by show 5<=sizeLine;decide,fun p hp=>?_⟩⟩;have sp:=Same.new (o:=.tup [.ref v,.ref a2,.ref a3,.ref J,.ref a5]) hp;have n2:NT H9 Ha a2 d2 _:=⟨kE,oW,rP,yV,xr⟩;have n3:NT Ha Hb a3 d3 _:=⟨mH,pQ,rX,qQ,yF⟩;have lh:=eZ.trans sc;have e5:∀z∈[a5],Hb z=none:=fun z hz=>by rw[List.mem_singleton.mp hz];exact qK
   refine kk _ p _ _ _ _ _ v a2 a3 J a5 W d2 d3 dm ((a.trans lh).trans sp) ⟨af,(b.same lh).same sp,((n2.same (Y.trans sc)).same sp).old a,((n3.same sc).same sp).old (a.trans sa),(g.same lh).same sp,sp _ _ kW,a.free (eZ.free qK),iN b.there n2.new,iN (b.same sa).there n3.new,jj,iN (b.same eZ).there e5,iN n2.there n3.new,iN g.there n2.new,iN (n2.same Y).there e5,iN (g.same sa).there n3.new,iN n3.there e5,iN (g.same eZ).there e5⟩ (LL.pap G dJ)
  |false=>
   refine aV ⟨fun ad H'=>∃q,q<Tm N n m-t/\∃(t e:Nat)(T U Bn V Bf:Ξ)(QU QV:Nat->Nat)(tn an v I D O bf J:Addr)(W dY dC eW dm:List Addr),q=Tm N n m-t/\ad=[some (.ref L),some (.int d),some (.int k),some (.ref tn),some (.ref D)]/\Same H H'/\H' tn=some (.tup [.ref an,.ref v,.ref I])/\H' D=some (.tup [.ref O,.ref bf,.ref J])/\NT H H' v W U/\NT H H' I dY Bn/\NT H H' O dC T/\NT H H' bf eW V/\NT H H' J dm Bf/\Dj (v::W) (J::dm)/\LS N n m t e (fn tb) k d r T U Bn V Bf QU QV,fun ad H' h=>h,?_⟩;refine⟨_,rfl,D,_,_,_,rfl,rfl,SqT.of u,zj (j:=0) rfl,_,rfl,O,dC,T,k,rfl,SqL.of c.at_,c.rows,ii,ω,fun x hx=>Nat.le_of_eq (LL.wT x hx).symm,fun c1 Ha i_ sa gO gq l_ oZ qe=>?_⟩;refine⟨_,rfl,tn,_,_,_,rfl,rfl,SqT.of (sa _ _ X),zj (j:=1) rfl,_,rfl,tn,_,_,_,rfl,rfl,SqT.of (sa _ _ X),zj (j:=2) rfl,by show 3<=sizeLine;decide,fun t1 kh=>?_⟩;have sq:=Same.new (o:=.tup [.ref c1,.ref v,.ref I]) kh;have dy:upd Ha t1 (.tup [.ref c1,.ref v,.ref I]) t1=some (.tup [.ref c1,.ref v,.ref I]):=af;have cp:NT H9 Ha c1 i_ _:=⟨gq,l_,oZ,gO,qe⟩;have cp:=(cp.same sq).old a;have Y:=sa.trans sq;generalize upd Ha t1 (.tup [.ref c1,.ref v,.ref I])=Hb at dy cp Y ⊢;have u:=Y _ _ u;have b:=b.same Y;have y:=y.same Y;have c:=c.same Y;have C:=C.same Y;have g:=g.same Y;have a:=a.trans Y;refine⟨_,rfl,D,_,_,_,rfl,rfl,SqT.of u,zj (j:=0) rfl,O,dC,T,rfl,c.at_,c.rows,ii,wT9,fun Hd sd=>⟨_,rfl,?_⟩⟩;have u:=sd _ _ u;have dy:=sd _ _ dy;have cp:=cp.same sd;have b:=b.same sd;have y:=y.same sd;have c:=c.same sd;have C:=C.same sd;have g:=g.same sd;have a:=a.trans sd;have ie:¬(Tb.Dg r (fn T)/\∀i,i+1<r->fn T i i ∣ fn T (i+1) (i+1)):=fun h=>by have:=LL.inSt.mpr h;rw[dJ] at this;cases this
   apply share (S:=fun eO He=>∃(e':Nat)(S' U' gu:Ξ)(S0 U0:Nat->Tb.Vc)(a' b' c':Addr)(du dA dE:List Addr),Same Hd He/\He eO=some (.tup [.ref a',.ref b',.ref c'])/\NT H He a' du S'/\NT H He b' dA U'/\NT H He c' dE gu/\LH N n m t e' (fn tb) k d r T S' U' gu V Bf S0 U0 QU QV)
   ·intro fin hc
    have hd:¬Tb.Dg r (fn T):=fun h=>hc (LL.onSl.mpr h);have S1:=LL.side G;refine⟨_,rfl,_,rfl,t1,c1,v,I,i_,W,dY,_,U,Bn,_,_,_,_,_,d,k,rfl,dy,cp.at_,b.at_,y.at_,cp.rows,b.rows,y.rows,S1.ok,fun P1 js eO a' b' c' du dA dE He F1 W1 se cX gS gQ iX=>fin eO He ?_⟩;exact⟨0,_,_,_,_,_,a',b',c',du,dA,dE,se,cX,gS.old a,gQ.old a,iX.old a,LL.near G hd (S1.done F1 W1)⟩
   ·intro fin hc
    have hd:Tb.Dg r (fn T):=LL.onSl.mp hc;have hn:¬∀i,i+1<r->fn T i i ∣ fn T (i+1) (i+1):=fun h=>ie ⟨hd,h⟩;have hr1:1<=r:=by
     rcases Nat.eq_zero_or_pos r with z|z
     ·exact absurd (fun i hi=>ω) hn
     ·exact z
    refine⟨_,rfl,_,rfl,D,_,_,_,rfl,rfl,SqT.of u,zj (j:=0) rfl,O,dC,T,rfl,c.at_,c.rows,ii,fun D5 H5 s5 c5 e5=>⟨D5,_,rfl,.inl (SqL.of e5),?_⟩⟩;have wW:(K26.cq T).length=r:=by rw[LL.slOf];unfold dg;simp
    rw[Ab,wW];refine⟨H,t1,c1,v,I,i_,W,dY,_,U,Bn,k,r,rfl,s5 _ _ dy,a.trans s5,cp.same s5,b.same s5,y.same s5,zX,LL.lU,LL.lB,hr1,LL.li.rk,ω,LL.slSml G,fun eO a' b' c' du dA dE He se cX gS gQ iX=>fin eO He ?_⟩;exact⟨_,_,_,_,_,_,a',b',c',du,dA,dE,s5.trans se,cX,gS,gQ,iX,LL.slid G hr1 hd hn⟩
   ·rintro eO He ⟨e',S',U',gu,S0,U0,a',b',c',du,dA,dE,se,cX,gS,gQ,iX,LH⟩
    have u:=se _ _ u;have C:=C.same se;have g:=g.same se;have a:=a.trans se;refine⟨_,rfl,eO,_,_,_,rfl,rfl,SqT.of cX,zj (j:=0) rfl,_,rfl,a',du,S',d,rfl,SqL.of gS.at_,gS.rows,by rw[LH.lS];(first|lia|omega),ω,fun x hx=>Nat.le_of_eq (LH.wS x hx).symm,fun c2 Hg uR sg sE nj wD CK CT=>?_⟩;refine⟨_,rfl,D,_,_,_,rfl,rfl,SqT.of (sg _ _ u),zj (j:=1) rfl,_,rfl,D,_,_,_,rfl,rfl,SqT.of (sg _ _ u),zj (j:=2) rfl,by show 3<=sizeLine;decide,fun t2 jT=>?_⟩;have Z:=Same.new (o:=.tup [.ref c2,.ref bf,.ref J]) jT;have sh:=sg.trans Z;have S2:=LH.side G;refine⟨_,rfl,t2,c2,bf,J,uR,eW,dm,_,V,Bf,_,_,_,_,_,k,d,rfl,af,Z _ _ nj,sh _ _ C.at_,sh _ _ g.at_,wD.same Z,C.rows.same sh,g.rows.same sh,S2.ok,fun P2 gI ve ye xz vS jV mL kH Hi F2 W2 si nC jP kA ip=>?_⟩;have D2:=S2.done F2 W2;have L2:=LH.next G D2;have s0:=a.trans sh;have tm:=L2.tm;exact⟨_,ω,t+1,e',_,U',gu,_,_,QU,QV,eO,a',b',c',ve,ye,xz,vS,dA,dE,jV,mL,kH,rfl,rfl,s0.trans si,(sh.trans si) _ _ cX,nC,gQ.same (sh.trans si),iX.same (sh.trans si),jP.old s0,kA.old s0,ip.old s0,iN (gQ.same sh).there ip.new,L2⟩
end
def K_{n:Nat}{x:Tb.Vc}{B U:Nat->Tb.Vc}(h:∀i j,i<n->j<n->Tb.dot n (B i) (fun s=>U s j)=Tb.dl i j){t:Nat}(a:t<n):Tb.dot n (fun l=>Tb.dot n x (fun s=>B s l)) (fun l=>U l t)=x t:=by
 rw[Tb.gM,<-Tb.jX (k:=n) (x:=x) a];exact Tb.zi fun s b=>h s t b a
def K'{k w:Nat}{A b:Nat->Tb.Vc}{x x' y a:Tb.Vc}(e:∀s t,s<k->t<w->A s t=b s t)(hx:∀t,t<k->x t=x' t)(hy:∀t,t<w->y t=a t):Tb.aM k w A x y=Tb.aM k w b x' a:=by
 unfold Tb.aM;rw[Tb.zF hx];exact Tb.zi fun s c=>by
  rw[Tb.zi hy];exact Tb.zF fun t d=>e s t c d
def Pap.zero{k w:Nat}{A:Nat->Tb.Vc}{u ub v vb:Ξ}{st:List Int}(p:Pap k w A u ub v vb st){i:Nat}(h:st.length<=i):vc st i=0:=eL h
def Pap.pr'{k w:Nat}{A:Nat->Tb.Vc}{u ub v vb:Ξ}{st:List Int}(p:Pap k w A u ub v vb st){i j:Nat}(hi:i<k)(b:j<w):Tb.aM k w A (fn u i) (fun s=>fn v s j)=if i=j then vc st i else 0:=by
 rw[p.pr i j hi b]
 by_cases c:i=j
 ·by_cases a:i<st.length
  ·rw[if_pos ⟨c,a⟩,if_pos c]
  ·rw[if_neg (fun h=>a h.2),if_pos c,eL ω]
 ·rw[if_neg (fun h=>c h.1),if_neg c]
def Pap.via{k w:Nat}{A b R C:Nat->Tb.Vc}{u ub v vb f o g d:Ξ}{st q:List Int}(p:Pap k w A u ub v vb st)(r:Pap k w b f o g d q)(h:∀s t,s<k->t<w->A s t=Tb.aM k w b (R s) (C t)):∃X Z:Nat->Tb.Vc,∀a j,a<k->j<w->Tb.dot k (X a) (fun l=>vc q l*Z l j)=if a=j then vc st a else 0:=by
 refine⟨fun a l=>Tb.dot k (fun t=>Tb.dot k (fn u a) (fun s=>R s t)) (fun s=>fn o s l),fun l j=>Tb.dot w (fun t=>Tb.dot w (fun s=>fn v s j) (fun s=>C s t)) (fun s=>fn d l s),fun a j D z=>?_⟩;rw[<-p.pr' D z];have e1:Tb.aM k w A (fn u a) (fun s=>fn v s j)=Tb.aM k w b (fun t=>Tb.dot k (fn u a) (fun s=>R s t)) (fun t=>Tb.dot w (fun s=>fn v s j) (fun s=>C s t)):=by
  rw[Tb.KR];unfold Tb.aM;refine Tb.zi fun s E=>?_;have:=Tb.EC (k:=k) (w:=w) (n:=w) (A:=b) (V:=C) (x:=R s) (Z:=fun s=>fn v s j);unfold Tb.aM at this;rw[this,Tb.zI w];exact Tb.zi fun t e=>h s t E e
 rw[e1];show Tb.dot k (fun l=>Tb.dot k (fun t=>Tb.dot k (fn u a) (fun s=>R s t)) (fun s=>fn o s l)) (fun l=>vc q l*Tb.dot w (fun t=>Tb.dot w (fun s=>fn v s j) (fun s=>C s t)) (fun s=>fn d l s))=_;generalize hx:(fun t=>Tb.dot k (fn u a) (fun s=>R s t))=x;generalize hy:(fun t=>Tb.dot w (fun s=>fn v s j) (fun s=>C s t))=y;have e2:Tb.aM k w b x y=Tb.aM k w b (fun t=>Tb.dot k (fun l=>Tb.dot k x (fun s=>fn o s l)) (fun l=>fn f l t)) y:=K' (fun _ _ _ _=>rfl) (fun t e=>(K_ r.u2 e).symm) fun _ _=>rfl;rw[e2,Tb.KR];refine Tb.zi fun l F=>?_;have e3:Tb.aM k w b (fn f l) y=Tb.aM k w b (fn f l) (fun t=>Tb.dot w (fun m=>Tb.dot w y (fun s=>fn d m s)) (fun m=>fn g t m)):=K' (fun _ _ _ _=>rfl) (fun _ _=>rfl) fun t e=>by
  have:=K_ (n:=w) (x:=y) (B:=fun s m=>fn d m s) (U:=fun m t=>fn g t m) (fun i j hi z=>by
   rw[HN,<-r.v1 j i z hi,Tb.zI]) e
  exact this.symm
 rw[e3];have H:=Tb.EC (k:=k) (w:=w) (n:=w) (A:=b) (V:=fun m t=>fn g t m) (x:=fn f l) (Z:=fun m=>Tb.dot w y (fun s=>fn d m s));rw[H];show _=Tb.dot w _ _;have I:Tb.dot w (fun m=>Tb.dot w y (fun s=>fn d m s)) (fun m=>Tb.aM k w b (fn f l) (fun t=>fn g t m))=Tb.dot w (fun m=>if l=m then vc q l else 0) (fun m=>Tb.dot w y (fun s=>fn d m s)):=by
  rw[Tb.zI w];exact Tb.zF fun m G=>r.pr' F G
 rw[I]
 by_cases c:l<w
 ·rw[Tb.HE c]
 ·rw[Tb.zL fun t e=>if_neg ω,eL (by have:=r.sw;(first|lia|omega))]
  simp
def La{st:List Int}(hd:∀i,i+1<st.length->vc st i ∣ vc st (i+1)):∀n i,vc st i ∣ vc st (i+n)
 |0,i=>Int.dvd_refl _
 |n+1,i=>by
  have a:=La hd n i
  by_cases c:i+n+1<st.length
  ·exact Int.dvd_trans a (hd (i+n) c)
  ·rw[eL (show st.length<=i+(n+1) from ω)];exact Int.dvd_zero _
def Pap.steps{k w:Nat}{A f R C R' C':Nat->Tb.Vc}{u ub v vb z D E F:Ξ}{st d:List Int}(p:Pap k w A u ub v vb st)(e:Pap k w f z D E F d)(h:∀s t,s<k->t<w->A s t=Tb.aM k w f (R s) (C t))(h':∀s t,s<k->t<w->f s t=Tb.aM k w A (R' s) (C' t)):st=d:=by
 obtain⟨X,Z,q⟩:=p.via e h;obtain⟨J,L,r⟩:=e.via p h';have g:∀{st:List Int},(∀x∈st,0<x)->∀i,0<=vc st i:=fun{st} h i=>by
  by_cases c:i<st.length
  ·rw[iK c];exact Int.le_of_lt (h _ (Ao c))
  ·rw[eL ω];exact Int.le_refl _
 have j:∀{st:List Int},(∀i,i+1<st.length->vc st i ∣ vc st (i+1))->∀i l,i<=l->l<k->vc st i ∣ vc st l:=fun{st} h i l h1 _=>by
  have:=La h (l-i) i
  rwa [show i+(l-i)=l from ω] at this
 have eq:=Tb.PM q r (g p.sp) (g e.sp) (j p.sd) (j e.sd);have one:∀{st d:List Int},(∀x∈st,0<x)->st.length<=k->st.length<=w->(∀i,i<k->i<w->vc st i=vc d i)->st.length<=d.length:=fun{st d} h1 h2 G o=>by
  rcases Bk d.length st.length with c|c
  ·have y:=o d.length ω ω
   rw[eL (Ad _),iK c] at y;have:=h1 _ (Ao c);(first|lia|omega)
  ·exact c
 have H:=one p.sp p.sk p.sw eq;have I:=one e.sp e.sk e.sw fun i a b=>(eq i a b).symm;exact HJ ω fun i hi=>eq i (by have:=p.sk;(first|lia|omega)) (by have:=p.sw;(first|lia|omega))
def Pap.uniq{k w:Nat}{A:Nat->Tb.Vc}{u ub v vb d e f g:Ξ}{st c:List Int}(p:Pap k w A u ub v vb st)(h:Pap k w A d e f g c):st=c:=
 p.steps h (R:=Tb.un) (C:=Tb.un) (R':=Tb.un) (C':=Tb.un) (fun s t a b=>(Tb.G' a b).symm) fun s t a b=>(Tb.G' a b).symm
end K26
end
section
namespace L2
open PySem PySem.Spec PyProof.Rows
mutual
inductive DV(K:Ah)(H:Hp):V->PyData->Prop where
 |bl (b:Bool):DV K H (.bl b) (.bool b)
 |int (i:Int):DV K H (.int i) (.int i)
 |str (z:Str):DV K H (.str z) (.str z)
 |lst {l:Addr} {xs:List V} {ds:List PyData} (h:SqL K H l xs) (t:DVs K H xs ds):DV K H (.ref l) (.list ds)
inductive DVs(K:Ah)(H:Hp):List V->List PyData->Prop where
 |nil:DVs K H [] []
 |cons {x:V} {d:PyData} {xs:List V} {ds:List PyData} (h:DV K H x d) (t:DVs K H xs ds):DVs K H (x::xs) (d::ds)
end
section
variable{X:Cx}{aa:Ψ}{σ:St}{H:Hp}{s:Shared}
mutual
def DV.reads(I:Inv X aa σ H s):∀{x:V}{d:PyData}{u:Value},DV X.K H x d->RelV x u->∃a,Reads s.heap u d a
 |_,_,_,.bl b,r=>by cases r;exact⟨_,.bool b⟩
 |_,_,_,.int i,r=>by obtain⟨t,rfl⟩:=r;exact⟨_,.int i t⟩
 |_,_,_,.str z,r=>by obtain⟨t,rfl⟩:=r;exact⟨_,.str z t⟩
 |_,_,_,.lst h t,r=>by
  cases r;obtain⟨f,c,p,_⟩:=I.list h;obtain⟨o,e,hc,n,hd⟩:=p.isList;obtain⟨a,q⟩:=DVs.reads I t c;exact⟨_,.list e hc hd (by simpa using q)⟩
def DVs.reads(I:Inv X aa σ H s):∀{xs:List V}{ds:List PyData}{us:List Value},DVs X.K H xs ds->Vals xs us->∃c,ReadsAll s.heap us ds c
 |_,_,_,.nil,.nil=>⟨_,.nil⟩
 |_,_,_,.cons h t,.cons r rs=>by
  obtain⟨a,q⟩:=DV.reads I h r;obtain⟨b,d⟩:=DVs.reads I t rs;exact⟨_,.cons q d⟩
end
end
def kB(neg:Bool)(K:Ah):R2:=fun x y H Q=>∃d e,DV K H x d/\DV K H y e/\SeqAt.shaped d=true/\SeqAt.shaped e=true/\SeqAt.noMix d e=true/\Q (.bl (if neg then !same d e else same d e)) H
section
variable{X:Cx}
def P9(g:X.A.units+64<cLine):cI X (compareOp .Eq) (kB false X.K):=by
 intro aa s σ H x y v u Q I a b h;obtain⟨d,e,h1,h2,c,f,nm,q⟩:=h;obtain⟨a1,r1⟩:=h1.reads I a;obtain⟨a2,r2⟩:=h2.reads I b;exact eq_dataH_same r1 r2 c f g nm ⟨.bl _,H,I,rfl,q⟩
def HS(g:X.A.units+64<cLine):cI X (compareOp .NotEq) (kB true X.K):=by
 intro aa s σ H x y v u Q I a b h;obtain⟨d,e,h1,h2,c,f,nm,q⟩:=h;obtain⟨a1,r1⟩:=h1.reads I a;obtain⟨a2,r2⟩:=h2.reads I b;exact ne_dataH_same r1 r2 c f g nm ⟨.bl _,H,I,rfl,q⟩
end
abbrev iO(ns:List Int):PyData:=.list (ns.map PyData.int)
abbrev dv(tb:Ξ):PyData:=.list (tb.map iO)
abbrev jq(ts:List Ξ):PyData:=.list (ts.map dv)
def P_(ns ms:List Int):same (iO ns) (iO ms)=decide (ns=ms):=by simp only[same];exact PySem.W.ke_sameAll ns ms
def Lb:∀a b:Ξ,sameAll (a.map iO) (b.map iO)=decide (a=b)
 |[],[]=>by simp[sameAll]
 |[],_::_=>by simp[sameAll]
 |_::_,[]=>by simp[sameAll]
 |a::r,b::t=>by
  simp only[Bb,sameAll,P_];rw[Lb r t]
  by_cases h:a=b<;>by_cases h':r=t<;>simp[h,h']
def HU(a b:Ξ):same (dv a) (dv b)=decide (a=b):=by simp only[same];exact Lb a b
def Lc:∀a b:List Ξ,sameAll (a.map dv) (b.map dv)=decide (a=b)
 |[],[]=>by simp[sameAll]
 |[],_::_=>by simp[sameAll]
 |_::_,[]=>by simp[sameAll]
 |a::r,b::t=>by
  simp only[Bb,sameAll,HU];rw[Lc r t]
  by_cases h:a=b<;>by_cases h':r=t<;>simp[h,h']
def P'(a b:List Ξ):same (jq a) (jq b)=decide (a=b):=by simp only[same];exact Lc a b
def Qa(ns:List Int):PyData.canLayAll0 (ns.map PyData.int)=true:=by simp[PySem.W.ke_canLayAll0]
def HV:∀tb:Ξ,PyData.canLayAll0 (tb.map iO)=true
 |[]=>rfl
 |a::r=>by rw[Bb,PyData.canLayAll0,HV r,iO,PyData.canLay0,Qa];rfl
def Ld:∀b:List Ξ,PyData.canLayAll0 (b.map dv)=true
 |[]=>rfl
 |a::r=>by rw[Bb,PyData.canLayAll0,Ld r,dv,PyData.canLay0,HV];rfl
def HW:∀tb:Ξ,PyData.depthAll (tb.map iO)<=2
 |[]=>Ap _
 |a::r=>by
  have e:PyData.depth (iO a)<=2:=by simp[PyData.depth,PySem.W.ke_depthAll]
  rw[Bb,PyData.depthAll];exact Nat.max_le.mpr ⟨e,HW r⟩
def Le:∀b:List Ξ,PyData.depthAll (b.map dv)<=3
 |[]=>Ap _
 |a::r=>by
  have e:PyData.depth (dv a)<=3:=by
   have:=HW a;rw[dv,PyData.depth];(first|lia|omega)
  rw[Bb,PyData.depthAll];exact Nat.max_le.mpr ⟨e,Le r⟩
def EI(tb:Ξ):SeqAt.shaped (dv tb)=true:=by
 have:=HW tb;have e:PyData.depth (dv tb)<=64:=by rw[dv,PyData.depth];(first|lia|omega)
 unfold SeqAt.shaped;rw[decide_eq_true e,dv,PyData.canLay0,HV]
 rfl
def Lf(a:List Ξ):SeqAt.shaped (jq a)=true:=by
 have:=Le a;have e:PyData.depth (jq a)<=64:=by rw[jq,PyData.depth];(first|lia|omega)
 unfold SeqAt.shaped;rw[decide_eq_true e,jq,PyData.canLay0,Ld]
 rfl
def Lg(a b:Ξ):SeqAt.noMix (dv a) (dv b)=true:=SeqAt.noMix_of_shape (.list (.list .int)) rfl _ _ (by simp[Shape.has]) (by simp[Shape.has])
def Qb(a b:List Ξ):SeqAt.noMix (jq a) (jq b)=true:=SeqAt.noMix_of_shape (.list (.list (.list .int))) rfl _ _ (by simp[Shape.has]) (by simp[Shape.has])
def Lh{K:Ah}{H:Hp}:∀ns:List Int,DVs K H (ns.map V.int) (ns.map PyData.int)
 |[]=>.nil
 |n::r=>.cons (.int n) (Lh r)
def Qc{K:Ah}{H:Hp}{l:Addr}{ns:List Int}(h:SqL K H l (ns.map V.int)):DV K H (.ref l) (iO ns):=.lst h (Lh ns)
end L2
end
section
namespace K26
open PySem L2
abbrev C3:Stmt:=top 17
abbrev EJ:Stmt:=top 21
abbrev EK:Stmt:=top 22
def Qd{K:Ah}{H:Hp}{rs:List Addr}{tb:Ξ}(h:Rws H rs tb):DVs K H (rs.map V.ref) (tb.map iO):=by
 induction h with
 |nil=>exact .nil
 |cons r t ih=>exact .cons (Qc (SqL.of r)) ih
def t5{K:Ah}{H:Hp}{L:Addr}{rs:List Addr}{tb:Ξ}(a:SqL K H L (rs.map V.ref))(h:Rws H rs tb):DV K H (.ref L) (dv tb):=.lst a (Qd h)
def mulT(u v:Ξ):Ξ:=u.map fun r=>(turn v).map (dot r)
def Qe(tb:Ξ):Prop:=∀r∈tb,∀x∈r,x.natAbs<big
def lL{tb:Ξ}:(turn tb).length=wid tb:=by unfold turn;simp
def Da{tb:Ξ}:∀r∈turn tb,r.length=tb.length:=fun r hr=>by
 unfold turn at hr;obtain⟨j,_,rfl⟩:=List.mem_map.mp hr;unfold colAt;simp
section
variable{P:Program}{w:World}{K:Ah}{mg:Str->Option Value}{base:Heap}
def EM(K:Ah):Sp:=fun vs H Q _=>∃L rs tb,vs=[.ref L]/\SqL K H L (rs.map V.ref)/\Rws H rs tb/\bW tb=true/\∀H',Same H H'->Q .non H'
def Qf{f a:Addr}{fd b:FuncData}(F:Fun K "must_be_table" "must_be_table" qD f fd)(Ft:Fun K "is_table" "is_table" wp a b)(bt:Binds K b ["table"] [])(mt:mg "is_table"=some (.ref a))(i:al P w K mg base aG 2 a b ["table"] (Jr K)):al P w K mg base aG 3 f fd ["table"] (EM K):=by
 refine F.ok NR (fun vs H Q E h=>?_) (fun j A outer s H vs Q E hr h=>?_)
 ·obtain⟨L,rs,tb,rfl,_⟩:=h;rfl
 ·obtain⟨L,rs,tb,rfl,e,g,c,k⟩:=h
  refine⟨_,zh (cF (uz (pV (ze i hr rfl mt Ft.kp bt .nil ag (za (pv 0) zb)))) Ix zR),?_⟩;refine⟨_,rfl,L,rs,tb,rfl,e,g,by have:=(qM c).1;(first|lia|omega),fun H1 d=>⟨_,rfl,?_⟩⟩;rw[c];exact aP (k H1 d)
def HX(K:Ah):Sp:=fun vs H Q _=>∃(L:Addr)(rs:List Addr)(tb:Ξ)(N n:Nat)(m:cx),vs=[.ref L]/\H L=some (.lst (rs.map V.ref))/\Rws H rs tb/\bW tb=true/\lI N n m tb.length (wid tb) tb/\K9 H Q tb.length (wid tb) (fn tb)
def Qg:zo ["table"] ["table"] (zf C3):=⟨rfl,rfl,rfl,δ,rfl,δ,δ⟩
def PapH.old{H0 H H':Hp}{p:Addr}{u ub v vb:Ξ}{st:List Int}{a1 a2 a3 a4 a5:Addr}{d1 d2 d3 d4:List Addr}(h:PapH H H' p u ub v vb st a1 a2 a3 a4 a5 d1 d2 d3 d4)(s:Same H0 H):PapH H0 H' p u ub v vb st a1 a2 a3 a4 a5 d1 d2 d3 d4:=
 ⟨h.at_,h.n1.old s,h.n2.old s,h.n3.old s,h.n4.old s,h.n5,s.free h.na,h.j12,h.j13,h.j14,h.j15,h.j23,h.j24,h.j25,h.j34,h.j35,h.j45⟩
def PapH.same{H H' H2:Hp}{p:Addr}{u ub v vb:Ξ}{st:List Int}{a1 a2 a3 a4 a5:Addr}{d1 d2 d3 d4:List Addr}(h:PapH H H' p u ub v vb st a1 a2 a3 a4 a5 d1 d2 d3 d4)(s:Same H' H2):PapH H H2 p u ub v vb st a1 a2 a3 a4 a5 d1 d2 d3 d4:=
 ⟨s _ _ h.at_,h.n1.same s,h.n2.same s,h.n3.same s,h.n4.same s,s _ _ h.n5,h.na,h.j12,h.j13,h.j14,h.j15,h.j23,h.j24,h.j25,h.j34,h.j35,h.j45⟩
def Qh{f g i j:Addr}{fd l o q:FuncData}(F:Fun K "stepped" "stepped" C3 f fd)(Fm:Fun K "must_be_table" "must_be_table" qD g l)(z:Binds K l ["table"] [])(C:mg "must_be_table"=some (.ref g))(M:al P w K mg base aG 3 g l ["table"] (EM K))(Fp:Fun K "paper_of" "paper_of" CV i o)(D:Binds K o ["table","width"] [])(G:mg "paper_of"=some (.ref i))(O:al P w K mg base aG 6 i o ["table","width"] HR)(Fw:Fun K "width_of" "width_of" k5 j q)(I:Binds K q ["table"] [])(J:mg "width_of"=some (.ref j))(S:al P w K mg base aG 1 j q ["table"] (nD K)):al P w K mg base aG 7 f fd ["table"] (HX K):=by
 refine F.ok Qg (fun vs H Q E h=>?_) (fun T A outer s H vs Q E hr h=>?_)
 ·obtain⟨L,rs,tb,N,n,m,rfl,_⟩:=h;rfl
 ·obtain⟨L,rs,tb,N,n,m,rfl,b,c,it,ok,y⟩:=h
  have d:Room 3 _:=hr.mono ξ;have e:Room 1 _:=hr.mono ξ;refine⟨_,zc (kT (ze M d rfl C Fm.kp z .nil ag (za (pv 0) zb))) (zh (zq (ze O hr rfl G Fp.kp D .nil ag (za (pv 0) (za (ze S e rfl J Fw.kp I .nil ag (za (pv 0) zb)) zb))))),?_⟩;refine⟨_,rfl,L,rs,tb,rfl,SqL.of b,c,it,fun H1 a=>⟨_,rfl,_,rfl,L,rs,tb,rfl,SqL.of (a _ _ b),c.same a,L,rs,tb,N,n,m,_,_,rfl,a _ _ b,c.same a,ok,?_⟩⟩;intro H' p u ub v vb st a1 a2 a3 a4 a5 d1 d2 d3 d4 r x pp;exact y H' p u ub v vb st a1 a2 a3 a4 a5 d1 d2 d3 d4 (a.trans r) (x.old a) pp
def Li(K:Ah):Sp:=fun vs H Q _=>∃(L:Addr)(rs:List Addr)(tb:Ξ)(N n:Nat)(m:cx),vs=[.ref L]/\H L=some (.lst (rs.map V.ref))/\Rws H rs tb/\bW tb=true/\lI N n m tb.length (wid tb) tb/\
 ∀a H' u ub v vb st,Same H H'->H a=none->H' a=some (.lst (st.map V.int))->Pap tb.length (wid tb) (fn tb) u ub v vb st->Q (.ref a) H'
def Qi:zo ["table"] ["table"] (zf EJ):=⟨rfl,rfl,rfl,δ,rfl,δ,δ⟩
def Qj{f fs:Addr}{fd b:FuncData}(F:Fun K "steps_of" "steps_of" EJ f fd)(Fs:Fun K "stepped" "stepped" C3 fs b)(bs:Binds K b ["table"] [])(ms:mg "stepped"=some (.ref fs))(i:al P w K mg base aG 7 fs b ["table"] (HX K)):al P w K mg base aG 8 f fd ["table"] (Li K):=by
 refine F.ok Qi (fun vs H Q E h=>?_) (fun l A outer s H vs Q E hr h=>?_)
 ·obtain⟨L,rs,tb,N,n,m,rfl,_⟩:=h;rfl
 ·obtain⟨L,rs,tb,N,n,m,rfl,d,e,it,ok,g⟩:=h
  refine⟨_,zh (zq (zx zK (ze i hr rfl ms Fs.kp bs .nil ag (za (pv 0) zb)) zd (fun _ _=>rfl))),?_⟩;refine⟨_,rfl,L,rs,tb,N,n,m,rfl,d,e,it,ok,?_⟩;intro H' p u ub v vb st a1 a2 a3 a4 a5 d1 d2 d3 d4 c a pp;exact⟨p,_,_,_,rfl,rfl,SqT.of a.at_,zj (j:=4) rfl,g a5 H' u ub v vb st c a.na a.n5 pp⟩
def Lj(K:Ah):Sp:=fun vs H Q _=>∃(L:Addr)(rs:List Addr)(tb:Ξ)(N n:Nat)(m:cx),vs=[.ref L]/\H L=some (.lst (rs.map V.ref))/\Rws H rs tb/\bW tb=true/\lI N n m tb.length (wid tb) tb/\
 ∀H' u ub v vb st,Same H H'->Pap tb.length (wid tb) (fn tb) u ub v vb st->Q (.int st.length) H'
def Qk:zo ["table"] ["table"] (zf EK):=⟨rfl,rfl,rfl,δ,rfl,δ,δ⟩
def Ql{f fs:Addr}{fd b:FuncData}(F:Fun K "rank" "rank" EK f fd)(bl:mg "len"=none)(Fs:Fun K "steps_of" "steps_of" EJ fs b)(bs:Binds K b ["table"] [])(ms:mg "steps_of"=some (.ref fs))(j:al P w K mg base aG 8 fs b ["table"] (Li K)):al P w K mg base aG 9 f fd ["table"] (Lj K):=by
 refine F.ok Qk (fun vs H Q E h=>?_) (fun l A outer s H vs Q E hr h=>?_)
 ·obtain⟨L,rs,tb,N,n,m,rfl,_⟩:=h;rfl
 ·obtain⟨L,rs,tb,N,n,m,rfl,e,g,it,ok,i⟩:=h
  refine⟨_,zh (zq (zn zm rfl bl dt (za (ze j hr rfl ms Fs.kp bs .nil ag (za (pv 0) zb)) zb))),?_⟩;refine⟨_,rfl,L,rs,tb,N,n,m,rfl,e,g,it,ok,fun a H' u ub v vb st c _ d pp=>⟨a,_,rfl,.inl (SqL.of d),?_⟩⟩;rw[Ab];exact i H' u ub v vb st c pp
end
def SmL(tb:Ξ):Prop:=∀r∈tb,∀x∈r,x.natAbs<low
def SmL.big{tb:Ξ}(h:SmL tb):Qe tb:=fun r hr x hx=>pa (h r hr x hx)
def Sm9(tb:Ξ):Prop:=∀r∈tb,∀x∈r,x.natAbs<=2 ^ 900
def Sm9.low{tb:Ξ}(h:Sm9 tb):SmL tb:=fun r hr x hx=>Ex (h r hr x hx) ξ
def Lk:∀{r c:List Int}{a b:Nat},(∀x∈r,x.natAbs<=a)->(∀y∈c,y.natAbs<=b)->(dot r c).natAbs<=c.length*(a*b)
 |[],c,a,b,_,_=>by unfold dot;exact Ap _
 |_::_,[],a,b,_,_=>by unfold dot;exact Ap _
 |x::r,y::c,a,b,h1,h2=>by
  have d:=Lk (r:=r) (c:=c) (fun z hz=>h1 z (.tail _ hz)) fun z hz=>h2 z (.tail _ hz);have e:dot (x::r) (y::c)=x*y+dot r c:=by unfold dot;rw[List.zipWith_cons_cons,List.sum_cons]
  have f:(x*y).natAbs<=a*b:=by rw[AB];exact AR (h1 x (.head _)) (h2 y (.head _))
  have g:=Int.natAbs_add_le (x*y) (dot r c);rw[e,AL,Nat.add_mul];(first|lia|omega)
def Qm{r c:List Int}(h1:∀x∈r,x.natAbs<low)(h2:∀y∈c,y.natAbs<=2 ^ 900)(hc:c.length<=40):(dot r c).natAbs<big:=by
 have h:=Lk (r:=r) (c:=c) (a:=2 ^ (bt-1000)) (b:=2 ^ 900) (fun x hx=>Nat.le_of_lt (h1 x hx)) h2;have e:c.length*(2 ^ (bt-1000)*2 ^ 900)<=2 ^ (6+(bt-1000+900)):=Tb.zr (Ae hc ξ) (Tb.zr (Ad _) (Ad _));unfold big;refine At (Ae h e) (Nat.pow_lt_pow_right ξ ?_);have:=lf;(first|lia|omega)
abbrev EN:Stmt:=top 47
abbrev kC:Stmt:=top 48
abbrev l7:Stmt:=top 49
structure iR(mg:Str->Option Value):Prop where
 len:mg "len"=none
 all:mg "all"=none
 zip:mg "zip"=none
 sum:mg "sum"=none
 range:mg "range"=none
 list:mg "list"=none
 int:mg "int"=none
 bool:mg "bool"=none
 isinstance:mg "isinstance"=none
 max:mg "max"=none
def Ll(x y:Int):Prop:=0<=x/\(y=0\/(y=1/\x<4294967296))
def zS(H:Hp)(p:Addr):Prop:=∃x y,H p=some (.lst [.int x,.int y])/\Ll x y
def zZ(p:Addr)(H H':Hp):Prop:=∀b o,b≠p->H b=some o->H' b=some o
def zZ.trans{p:Addr}{H H1 H2:Hp}(a:zZ p H H1)(b:zZ p H1 H2):zZ p H H2:=fun c o hc e=>b c o hc (a c o hc e)
def zZ.of{p:Addr}{H H1:Hp}(a:Same H H1):zZ p H H1:=fun c o _ e=>a c o e
def zZ.free{p:Addr}{H H':Hp}(e:zZ p H H')(hb:zS H p)(b:zS H' p){l:Addr}(h:H' l=none):H l=none:=by
 cases q:H l with
 |none=>rfl
 |some o=>
  obtain⟨x,y,e1,_⟩:=b;have a:l≠p:=fun z=>by rw[z,e1] at h;cases h
  rw[e l o a q] at h;cases h
def zS.same{H H':Hp}{p:Addr}(b:zS H p)(e:Same H H'):zS H' p:=let ⟨x,y,h,o⟩:=b;⟨x,y,e _ _ h,o⟩
def zS.ne{H:Hp}{p l:Addr}{c:List Addr}(b:zS H p)(h:H l=some (.lst (c.map V.ref))):l≠p:=by
 obtain⟨x,y,e,_⟩:=b;refine Fj h e fun z=>?_;injection z with z
 cases c with
 |nil=>cases z
 |cons a r=>rw[Bb] at z;cases z
def zS.net{H:Hp}{p t:Addr}{xs:List V}(b:zS H p)(h:H t=some (.tup xs)):t≠p:=by
 obtain⟨x,y,e,_⟩:=b;exact Fj h e (by intro z;cases z)
def zZ.tp{p:Addr}{H H':Hp}{a:Addr}{ps:List Int}(e:zZ p H H')(b:zS H p)(h:Tp H a ps):Tp H' a ps:=e _ _ (b.net h) h
def zZ.then{p:Addr}{H H1:Hp}{a:Addr}{o:HO}(e:zZ p H H1)(h:H a=none):zZ p H (L2.upd H1 a o):=fun b u hb q=>by rw[am (zl q h)];exact e b u hb q
def zS.upd{H:Hp}{p l:Addr}{o:HO}(b:zS H p)(h:l≠p):zS (L2.upd H l o) p:=let ⟨x,y,e,k⟩:=b;⟨x,y,by rw[am h.symm];exact e,k⟩
def zS.new{H:Hp}{p l:Addr}{o:HO}(b:zS H p)(h:H l=none):zS (L2.upd H l o) p:=b.same (Same.new h)
section
variable{P:Program}{w:World}{K:Ah}{mg:Str->Option Value}{base:Heap}
def Lm(K:Ah):Sp:=fun vs H Q _=>∃(l:Addr)(ns:List Int)(j:Nat),vs=[.ref l,.int j]/\SqL K H l (ns.map V.int)/\∀n,Q (.int n) H
def Qn:zo ["script","k"] ["script","k"] (zf EN):=⟨rfl,rfl,rfl,δ,rfl,δ,δ⟩
def Qo{f:Addr}{fd:FuncData}(F:Fun K "_law_cell_at" "_law_cell_at" EN f fd)(B:iR mg):al P w K mg base aG 1 f fd ["script","k"] (Lm K):=by
 refine F.ok Qn (fun vs H Q E h=>?_) (fun c A outer s H vs Q E hr h=>?_)
 ·obtain⟨l,ns,j,rfl,_⟩:=h;rfl
 ·obtain⟨l,ns,j,rfl,a,k⟩:=h
  refine⟨_,zc (cF (zy DK (pv 1) (zn zm rfl B.len dt (za (pv 0) zb)) (ap _)) (zh (zq (zx zt (pv 0) (pv 1) (fun _ _=>rfl)))) zR) (zh (zq zd)),?_⟩;refine⟨_,rfl,_,rfl,l,_,rfl,.inl a,_,_,rfl,rfl,_,rfl,?_⟩;refine eA (fun h1=>?_) (fun h1=>?_)
  ·have b:j<ns.length:=by have:=of_decide_eq_true h1;simp at this;(first|lia|omega)
   exact⟨_,rfl,_,rfl,l,_,_,_,rfl,rfl,a,zj (j:=j) (v:=.int ns[j]) (by rw[Aj,Aa b];rfl),k _⟩
  ·exact k 0
def Ln:Sp:=fun vs H Q _=>∃n,vs=[.int n]/\∀p x y,H p=none->Ll x y->Q (.ref p) (upd H p (.lst [.int x,.int y]))
def Qp:zo ["cell"] ["cell"] (zf kC):=⟨rfl,rfl,rfl,δ,rfl,δ,δ⟩
def Qq{f:Addr}{fd:FuncData}(F:Fun K "_law_box" "_law_box" kC f fd):al P w K mg base aG 1 f fd ["cell"] Ln:=by
 refine F.ok Qp (fun vs H Q E h=>?_) (fun b A outer s H vs Q E hr h=>?_)
 ·obtain⟨n,rfl,_⟩:=h;rfl
 ·obtain⟨n,rfl,k⟩:=h
  refine⟨_,zc (cF (zy MA (pv 0) (zA FJ zd zd) (ap _)) (zh (zq (iz (za (zA eR (pv 0) (zA FJ zd zd)) (za zd zb))))) zR)
   (zh (zq (iz (za (zA jz (zA dP (zA jy (zA jz (pv 0) (zA FJ zd zd)) zd) zd) zd) (za zd zb))))),?_⟩
  have hc:vv 10 18:=⟨ξ,ξ,ξ⟩;have a:(10:Int) ^ (18:Int).toNat=1000000000000000000:=ξ
  refine⟨_,rfl,_,_,rfl,rfl,hc,_,_,rfl,rfl,_,rfl,?_⟩;refine eA (fun h1=>?_) (fun h1=>?_)
  ·refine⟨_,rfl,_,_,rfl,rfl,hc,_,_,rfl,rfl,zE (by simp),fun p hp=>k p _ 0 hp ⟨?_,.inl rfl⟩⟩
   have:=of_decide_eq_true h1
   lia
  ·refine⟨_,rfl,_,_,rfl,rfl,hc,_,_,rfl,rfl,(by show(0:Int)<10 ^ (18:Int).toNat;rw[a];decide),_,_,rfl,rfl,.inr ⟨ξ,ξ⟩,_,_,rfl,rfl,_,_,rfl,rfl,(by show(0:Int)<2147483629;decide),zE (by simp),fun p hp=>k p _ 1 hp ⟨?_,.inr ⟨rfl,?_⟩⟩⟩
   ·exact Int.emod_nonneg _ ξ
   ·have:=Int.emod_lt_of_pos (n%10 ^ (18:Int).toNat*69621+7001) (show(0:Int)<2147483629 from ξ)
    lia
def pu:Sp:=fun vs H Q _=>∃p m,vs=[.ref p,.int m]/\zS H p/\0<m/\m<1073741824/\∀r H',0<=r->r<m->zZ p H H'->zS H' p->Q (.int r) H'
def HY:zo ["box","most","found","mixed"] ["box","most"] (zf l7):=⟨rfl,rfl,rfl,δ,rfl,δ,δ⟩
def Dl{f:Addr}{fd:FuncData}(F:Fun K "_law_take" "_law_take" l7 f fd):al P w K mg base aG 1 f fd ["box","most"] pu:=by
 refine F.ok HY (fun vs H Q E h=>?_) (fun J A outer s H vs Q E hr h=>?_)
 ·obtain⟨p,m,rfl,_⟩:=h;rfl
 ·obtain⟨p,m,rfl,⟨x,y,hp,d,g⟩,a,D,k⟩:=h
  refine⟨_,zc (cF (zy hH (zx zt (pv 0) zd (fun _ _=>rfl)) zd (ap _))
    (zc (zp (i:=2) HY.nd rfl (Or.inl rfl) (zA jz (zx zt (pv 0) zd (fun _ _=>rfl)) (pv 1)))
    (zc (iv (zA FI (zx zt (pv 0) zd (fun _ _=>rfl)) (pv 1)) (ig (pv 0) zd set_list))
    (zh (zq (pv 2))))) zR)
   (zc (zp (i:=3) HY.nd rfl (Or.inl rfl) (zA jz (zA dP (zA dP (zA jy (zx zt (pv 0) zd (fun _ _=>rfl)) (zx zt (pv 0) zd (fun _ _=>rfl))) (zA jy zd (zx zt (pv 0) zd (fun _ _=>rfl)))) zd) zd))
   (zc (iv (zA jz (zA dP (zA dP (zA jy (pv 3) (pv 3)) (zA jy zd (pv 3))) zd) zd) (ig (pv 0) zd set_list))
   (zh (zq (zA jz (zA FI (zx zt (pv 0) zd (fun _ _=>rfl)) zd) (pv 1)))))),?_⟩
  have c:atI ([.int x,.int y]:List V) 0=some (.int x):=zj (j:=0) rfl;have a1:atI ([.int x,.int y]:List V) 1=some (.int y):=zj (j:=1) rfl;refine⟨_,rfl,p,_,_,_,rfl,rfl,SqL.of hp,a1,rfl,_,rfl,?_⟩;refine eA (fun h1=>?_) (fun h1=>?_)
  ·refine⟨_,rfl,p,_,_,_,rfl,rfl,SqL.of hp,c,_,rfl,_,_,rfl,rfl,a,?_⟩
   refine⟨_,rfl,p,_,_,_,rfl,rfl,SqL.of hp,c,_,rfl,_,_,rfl,rfl,⟨a,D⟩,_,rfl,p,_,_,0,rfl,rfl,hp,rfl,?_⟩;refine⟨_,rfl,k (x%m) _ (Int.emod_nonneg _ (by lia)) (Int.emod_lt_of_pos _ a) (fun b o hb e=>by rw[am hb];exact e) ⟨x / m,y,af,Int.ediv_nonneg d (by lia),?_⟩⟩;rcases g with q|⟨q,hx⟩
   ·exact .inl q
   ·refine .inr ⟨q,Int.lt_of_le_of_lt (Int.ediv_le_self _ d) hx⟩
  ·have hy:y=1/\x<4294967296:=by
    rcases g with q|q
    ·exact absurd (by subst q;rfl) h1
    ·exact q
   obtain⟨rfl,hx⟩:=hy;have hb:CMul x x:=.inl ⟨by lia,by lia⟩;refine⟨_,rfl,p,_,_,_,rfl,rfl,SqL.of hp,c,_,rfl,p,_,_,_,rfl,rfl,SqL.of hp,c,_,_,rfl,rfl,hb,_,rfl,p,_,_,_,rfl,rfl,SqL.of hp,c,_,_,rfl,rfl,.inl ⟨ξ,ξ⟩,_,_,rfl,rfl,_,_,rfl,rfl,_,_,rfl,rfl,(by show(0:Int)<2147483647;decide),?_⟩;have G:=Int.emod_nonneg (x*x+39373*x+12345) (show(2147483647:Int)≠0 from ξ);have I:=Int.emod_lt_of_pos (x*x+39373*x+12345) (show(0:Int)<2147483647 from ξ);obtain⟨z,l⟩:∃z,z=(x*x+39373*x+12345)%2147483647:=⟨_,rfl⟩;rw[<-l] at G I;show uG _ _ _ ([some (.ref p),some (.int m),none,some (.int ((x*x+39373*x+12345)%2147483647))]:St) H;rw[<-l];refine⟨_,rfl,_,rfl,_,_,rfl,rfl,.inl ⟨by lia,by lia⟩,_,rfl,_,_,rfl,rfl,.inl ⟨ξ,ξ⟩,_,_,rfl,rfl,_,_,rfl,rfl,_,_,rfl,rfl,(by show(0:Int)<2147483587;decide),_,rfl,p,_,_,0,rfl,rfl,hp,rfl,?_⟩;have v:=Int.emod_nonneg (z*z+16807*z+7) (show(2147483587:Int)≠0 from ξ);have g1:=Int.emod_lt_of_pos (z*z+16807*z+7) (show(0:Int)<2147483587 from ξ);obtain⟨u,r⟩:∃u,u=(z*z+16807*z+7)%2147483587:=⟨_,rfl⟩;rw[<-r] at v g1;have C:upd H p (.lst [.int ((z*z+16807*z+7)%2147483587),.int 1]) p=some (.lst [.int u,.int 1]):=by rw[r];exact af
   refine⟨_,rfl,p,_,_,_,rfl,rfl,SqL.of C,zj (j:=0) rfl,_,_,rfl,rfl,⟨ξ,ξ⟩,_,rfl,_,_,rfl,rfl,a,?_⟩;exact k _ _ (Int.emod_nonneg _ (by lia)) (Int.emod_lt_of_pos _ a) (fun b o hb e=>by rw[am hb];exact e) ⟨u,1,C,v,.inr ⟨rfl,by lia⟩⟩
end
abbrev gP:Stmt:=top 50
abbrev kD:Stmt:=top 51
section
variable{P:Program}{w:World}{K:Ah}{mg:Str->Option Value}{base:Heap}
def Bnd(m:Int)(ns:List Int):Prop:=∀n∈ns,-m<=n/\n<=m
def EO:Sp:=fun vs H Q _=>∃(p:Addr)(c:Nat)(a:Int),vs=[.ref p,.int c,.int a]/\zS H p/\c<=1000/\0<a/\a<1073741824/\∀D H' ns,zZ p H H'->zS H' p->H D=none->H' D=some (.lst (ns.map V.int))->ns.length=c->Bnd a ns->Q (.ref D) H'
def Qr:zo ["box","columns","wide"] ["box","columns","wide"] (zf gP):=⟨rfl,rfl,rfl,δ,rfl,δ,δ⟩
def Lo{f G:Addr}{fd I:FuncData}(F:Fun K "_law_row" "_law_row" gP f fd)(B:iR mg)(Ft:Fun K "_law_take" "_law_take" l7 G I)(bt:Binds K I ["box","most"] [])(mt:mg "_law_take"=some (.ref G)):al P w K mg base aG 2 f fd ["box","columns","wide"] EO:=by
 have T:al P w K mg base aG 1 G I ["box","most"] pu:=Dl Ft;refine F.ok Qr (fun vs H Q E h=>?_) (fun U A outer s H vs Q E hr h=>?_)
 ·obtain⟨p,c,d,rfl,_⟩:=h;rfl
 ·obtain⟨p,c,d,rfl,hb,hc,O,w1,k⟩:=h
  refine⟨_,zh (zq (zD ["box","columns","wide"] ["place","box","wide"] [none,some 0,some 2] (iw rfl B.range (za (pv 1) zb)) (fun J C s₀ H₀ ex=>zk (i:=0) (a9 ["place","box","wide"]) rfl (Or.inl rfl)) (fun J C s₀ H₀ ex=>zC)
   (fun J C s₀ H₀ ex=>zA eR (ze T hr rfl mt Ft.kp bt .nil ag (za (pv 1) (za (pv 2) zb))) (zA FI (pv 2) zd)) (te:=cn (g0 fun i j=>.int (i-j)) (gp pu [] E0 (b_ (ar 1) (b_ (ar 2) bE))) (cn (rI vu fun i j=>.int (i / j)) (ar 2) (tC (.int 2)))) (hfr:=bD (zf gP) δ))),?_⟩
  refine⟨_,rfl,_,rfl,ω,ω,fun D l=>?_⟩;have M:D≠p:=fun z=>by obtain⟨x,y,e,_⟩:=hb;rw[<-z,l] at e;cases e
  refine zB (DW (fun j σ ys g=>∃(v:Option V)(ns:List Int),σ=[v,some (.ref p),some (.int d)]/\zZ p H g/\zS g p/\g D=some (.lst ys)/\ys=ns.map V.int/\ns.length=j/\Bnd d ns) ?_ ?_ ?_)
  ·exact⟨none,[],rfl,.of (Same.new l),hb.new l,af,rfl,rfl,fun n o=>by cases o⟩
  ·rintro j σ ys g S hy ⟨v,ns,rfl,q,a,b,rfl,u,bd⟩
   refine cQ ?_;refine⟨_,rfl,_,rfl,p,d,rfl,a,O,w1,fun r X W r1 L N=>⟨_,rfl,_,_,rfl,rfl,⟨ξ,ξ⟩,_,_,rfl,rfl,?_⟩⟩;refine bK (zE ω) S hy (L _ _ M b) ⟨_,ns++[r-d / 2],rfl,(q.trans L).then l,N.upd M,af,by simp,by simp[u],fun n o=>?_⟩;rcases List.mem_append.mp o with h|h
   ·exact bd n h
   ·obtain rfl:n=r-d / 2:=by simpa using h
    (first|lia|omega)
  ·rintro σ ys g ⟨v,ns,rfl,q,a,b,rfl,u,bd⟩
   exact k D g ns q a l b u bd
end
def Rws.sameB{p:Addr}{H H':Hp}{ds:List Addr}{tb:Ξ}(h:Rws H ds tb)(s:zZ p H H'):(∀d∈ds,d≠p)->Rws H' ds tb:=by
 induction h with
 |nil=>intro _;exact .nil
 |cons r t ih=>intro n;exact .cons (s _ _ (n _ (AI)) r) (ih fun d hd=>n d (AM _ hd))
def Rws.set{H:Hp}{ds:List Addr}{tb:Ξ}{d:Addr}{ns:List Int}(h:Rws H ds tb)(e:H d=some (.lst (ns.map V.int))):∀i:Nat,Rws H (ds.set i d) (tb.set i ns):=by
 induction h with
 |nil=>intro i;exact .nil
 |cons r t ih=>
  intro i;cases i with
  |zero=>exact .cons e t
  |succ i=>exact .cons r (ih i)
section
variable{P:Program}{w:World}{K:Ah}{mg:Str->Option Value}{base:Heap}
def Lp{p D:Addr}{H2:Hp}{n:Nat}{Q:VK}{Pr:List Int->Prop}{te:TE}{c:List (Option V)}(hb:zS H2 p)(L:∀(j:Nat)(H:Hp)(R:VK),zZ p H2 H->zS H p->(∀d H' ns,zZ p H H'->zS H' p->H d=none->H' d=some (.lst (ns.map V.int))->Pr ns->R (.ref d) H')->te (some (.int j)::c) H R)(hz:n<=1000)(q:H2 D=none)(k:∀a ds tb,zZ p H2 a->zS a p->a D=some (.lst (ds.map V.ref))->Rws a ds tb->tb.length=n->(∀r∈tb,Pr r)->(∀d∈ds,H2 d=none/\d≠D)->Q (.ref D) a):cP (i0 0 n) (zT 0) bJ te (none::c) H2 D Q:=by
 have l:∀d,H2 d=none->d≠p:=fun d e z=>by obtain⟨x,y,A,_⟩:=hb;rw[<-z,e] at A;cases A
 have C:=l D q;refine DW (fun j σ ys a=>∃(v:Option V)(ds:List Addr)(tb:Ξ),σ=v::c/\zZ p H2 a/\zS a p/\a D=some (.lst ys)/\ys=ds.map V.ref/\Rws a ds tb/\tb.length=j/\(∀r∈tb,Pr r)/\∀d∈ds,H2 d=none/\d≠D) ?_ ?_ ?_
 ·exact⟨none,[],[],rfl,.of (Same.new q),hb.new q,af,rfl,.nil,rfl,(fun d hd=>by cases hd),fun d hd=>by cases hd⟩
 ·rintro j σ ys a I hy ⟨v,ds,tb,rfl,i,b,f,rfl,hr,u,hp,o⟩
  refine cQ ?_;rw[show(0:Int)+((j:Nat):Int)=((j:Nat):Int) from ω];refine L j a _ i b fun d M ns s E hd F pr=>?_;have J:H2 d=none:=i.free hb b hd;have w:d≠D:=fun z=>by rw[z,f] at hd;cases hd
  have all:∀e∈ds++[d],H2 e=none/\e≠D:=fun e g=>by
   rcases List.mem_append.mp g with h|h
   ·exact o e h
   ·obtain rfl:e=d:=by simpa using h
    exact⟨J,w⟩
  refine bK (zE ω) I hy (s _ _ C f) ⟨_,ds++[d],tb++[ns],rfl,(i.trans s).then q,E.upd C,af,by simp,?_,by simp[u],fun r G=>?_,all⟩
  ·exact((hr.sameB s fun e g=>l e (o e g).1).snoc F).upd fun e g=>(all e g).2
  ·rcases List.mem_append.mp G with h|h
   ·exact hp r h
   ·obtain rfl:r=ns:=by simpa using h
    exact pr
 ·rintro σ ys a ⟨v,ds,tb,rfl,i,b,f,rfl,hr,u,hp,o⟩
  exact k a ds tb i b f hr u hp o
abbrev pA:TE:=cn (rI CMul fun i j=>.int (i*j)) (ar 1) (ar 0)
def Lq{R D:Addr}{H2:Hp}{ns:List Int}{o:Int}{Q:VK}(e:-(2 ^ 64)<o/\o<2 ^ 64)(f:H2 R=some (.lst (ns.map V.int)))(hz:ns.length<=1000)(c:H2 D=none)(k:∀a,Same H2 a->a D=some (.lst ((ns.map (o*·)).map V.int))->Q (.ref D) a):cP (eU K R) (zT 0) bJ pA [none,some (.int o)] H2 D Q:=by
 refine jB (xs:=ns.map V.int) (fun j σ ys a=>∃(v:Option V),σ=[v,some (.int o)]/\Same H2 a/\a D=some (.lst ys)/\ys=((ns.take j).map (o*·)).map V.int) ?_ ?_ ?_ ?_
 ·exact⟨none,rfl,Same.new c,af,rfl⟩
 ·rintro j σ ys a ⟨v,rfl,sm,_⟩
  exact SqL.of (sm _ _ f)
 ·rintro j σ ys a x hx d hy ⟨v,rfl,sm,b,rfl⟩
  obtain⟨q,g,rfl⟩:=fh hx;refine cQ ?_;refine⟨_,rfl,_,rfl,_,_,rfl,rfl,.inl e,bK (by rw[Ab];exact zE ω) d hy b ⟨_,rfl,sm.then c,af,?_⟩⟩;rw[Bp g,Aw,Aw]
  rfl
 ·rintro σ ys a ⟨v,rfl,sm,b,rfl⟩
  rw[Ab,Av (Ad _)] at b;exact k a sm b
end
def TabB(H0:Hp)(p F:Addr)(c n:Nat)(m:Int)(H':Hp):Prop:=∃ds tb,zZ p H0 H'/\zS H' p/\H' F=some (.lst (ds.map V.ref))/\Rws H' ds tb/\tb.length=n/\(∀r∈tb,r.length=c/\Bnd m r)/\(∀d∈ds,H0 d=none/\d≠F)/\H0 F=none
def eN{H:Hp}{p d:Addr}(hb:zS H p)(e:H d=none):d≠p:=fun z=>by obtain⟨x,y,a,_⟩:=hb;rw[<-z,e] at a;cases a
def TabB.draw{H0 H' a:Hp}{p F:Addr}{c n:Nat}{m:Int}(hb:zS H0 p)(h:TabB H0 p F c n m H')(s:zZ p H' a)(b:zS a p):TabB H0 p F c n m a:=by
 obtain⟨ds,tb,g,_,i,hr,j,hp,e,f⟩:=h;exact⟨ds,tb,g.trans s,b,s _ _ (eN hb f) i,hr.sameB s fun d hd=>eN hb (e d hd).1,j,hp,e,f⟩
def Bnd.mono{m a:Int}{ns:List Int}(h:Bnd m ns)(c:m<=a):Bnd a ns:=fun n b=>by have:=h n b;(first|lia|omega)
def Bnd.times{m k o:Int}{ns:List Int}(h:Bnd m ns)(d:0<=m)(h1:-k<=o)(h2:o<=k):Bnd (k*m) (ns.map (o*·)):=fun n c=>by
 obtain⟨q,hq,rfl⟩:=List.mem_map.mp c;obtain⟨e,f⟩:=h q hq;have hk:0<=k:=ω
 have e1:o.natAbs<=k.natAbs:=ω
 have e2:q.natAbs<=m.natAbs:=ω
 have e3:(o*q).natAbs<=(k*m).natAbs:=by rw[AB,AB];exact AR e1 e2
 have g:0<=k*m:=Int.mul_nonneg hk d;show -(k*m)<=o*q/\o*q<=k*m;generalize o*q=a at *;generalize k*m=b at *;(first|lia|omega)
def TabB.put{H0 H' q:Hp}{p F D:Addr}{c n:Nat}{m g:Int}{ds:List Addr}{tb:Ξ}{i:Nat}{ns:List Int}(hb:zS H0 p)(s:zZ p H0 H')(u:zS H' p)(y:H' F=some (.lst (ds.map V.ref)))(hr:Rws H' ds tb)(A:tb.length=n)(hp:∀r∈tb,r.length=c/\Bnd m r)(C:∀d∈ds,H0 d=none/\d≠F)(j:H0 F=none)(l:H' D=none)(sm:Same H' q)(e:q D=some (.lst (ns.map V.int)))(E:ns.length=c)(G:Bnd g ns)(H:m<=g):TabB H0 p F c n g (L2.upd q F (.lst ((ds.map V.ref).set i (.ref D)))):=by
 have I:=eN hb j;have x:D≠F:=fun z=>by rw[z,y] at l;cases l
 have f:H0 D=none:=s.free hb u l;have mem:∀d∈ds.set i D,H0 d=none/\d≠F:=fun d hd=>by
  rcases List.mem_or_eq_of_mem_set hd with h|h
  ·exact C d h
  ·rw[h];exact⟨f,x⟩
 refine⟨ds.set i D,tb.set i ns,fun b o v a=>?_,(u.same sm).upd I,?_,((hr.same sm).set e i).upd fun d hd=>(mem d hd).2,by simp[A],fun r w=>?_,mem,j⟩
 ·rw[am (fun z=>by rw[z,j] at a;cases a)]
  exact sm _ _ (s b o v a)
 ·rw[af,List.map_set]
 ·rcases List.mem_or_eq_of_mem_set w with h|h
  ·exact⟨(hp r h).1,(hp r h).2.mono H⟩
  ·rw[h];exact⟨E,G⟩
def t7{n:Nat}{k:Int}(a:0<=k)(h1:k<n):hO n k=some k.toNat:=by unfold hO;rw[if_pos a,if_pos h1]
def Lr{a:Type}{xs:List a}{k:Int}{v:a}(b:0<=k)(h1:k<xs.length)(e:xs[k.toNat]?=some v):atI xs k=some v:=by unfold atI;rw[t7 b h1];exact e
section
variable{P:Program}{w:World}{K:Ah}{mg:Str->Option Value}{base:Heap}
def Ls:Sp:=fun vs H Q _=>∃(p:Addr)(q:Nat),vs=[.ref p,.int q]/\q<=6/\zS H p/\∀F H' c n,c<=q->n<=q->TabB H p F c n 1000 H'->Q (.ref F) H'
def jr:zo ["box","most","rows","columns","wide","found","one","other","often"] ["box","most"] (zf kD):=⟨rfl,rfl,rfl,δ,rfl,δ,δ⟩
def Qs{f ft fr:Addr}{fd aF ca:FuncData}(F:Fun K "_law_table" "_law_table" kD f fd)(B:iR mg)(Ft:Fun K "_law_take" "_law_take" l7 ft aF)(bt:Binds K aF ["box","most"] [])(mt:mg "_law_take"=some (.ref ft))(Fr:Fun K "_law_row" "_law_row" gP fr ca)(br:Binds K ca ["box","columns","wide"] [])(mr:mg "_law_row"=some (.ref fr)):al P w K mg base aG 3 f fd ["box","most"] Ls:=by
 have z:al P w K mg base aG 1 ft aF ["box","most"] pu:=Dl Ft;have Gr:al P w K mg base aG 2 fr ca ["box","columns","wide"] EO:=Lo Fr B Ft bt mt;refine F.ok jr (fun vs H Q E h=>?_) (fun ah A outer s H vs Q E hr h=>?_)
 ·obtain⟨p,q,rfl,_⟩:=h;rfl
 ·obtain⟨p,q,rfl,CJ,hb,k⟩:=h
  have a:Room 1 _:=hr.mono ξ;have mq:∃tt,PSs (de aG P w K mg base ["box","most","rows","columns","wide","found","one","other","often"] "_law_table" (zf kD) f ah A outer s H E).nox (List.drop 5 (zaA kD)) tt/\∀(e:Addr)(n c:Nat)(x4 v6 v7 v8:Option V)(H':Hp),n<=q->c<=q->TabB H p e c n 122 H'->
    tt {nx:=fun _ H'=>Q .non H',rt:=Q} [some (.ref p),some (.int q),some (.int n),some (.int c),x4,some (.ref e),v6,v7,v8] H':=by
   refine⟨_,(zc (cF (PW.pt (Fx (zy jA (pv 2) zd (ap _)) (Fv (zy hH (ze z a rfl mt Ft.kp bt .nil ag (za (pv 0) (za zd zb))) zd (ap _)))))
    (zc (zp (i:=6) jr.nd rfl (Or.inl rfl) (ze z a rfl mt Ft.kp bt .nil ag (za (pv 0) (za (pv 2) zb))))
    (zc (zp (i:=8) jr.nd rfl (Or.inr rfl) (zA dP zd (ze z a rfl mt Ft.kp bt .nil ag (za (pv 0) (za zd zb)))))
    (zh (iv (zD ["box","most","rows","columns","wide","found","one","other","often"] ["number","often"] [none,some 8] (zM (zx zt (pv 5) (pv 6) (fun _ _=>rfl))) (fun I C s₀ H₀ ex=>zk (i:=0) (a9 ["number","often"]) rfl (Or.inl rfl)) (fun I C s₀ H₀ ex=>zC)
     (fun I C s₀ H₀ ex=>zA jy (pv 1) (pv 0)) (te:=pA) (hfr:=bD (zf kD) δ)) (ig (pv 5) (pv 6) set_list))))) zR)
    (zh (zq (pv 5)))),?_⟩
   intro e n c x4 v6 v7 v8 H' hn hc T;have aN:zS H' p:=by obtain⟨_,_,_,b,_⟩:=T;exact b
   refine⟨_,rfl,_,_,rfl,rfl,_,rfl,?_⟩
   by_cases c1:0<n
   ·rw[decide_eq_true (show(0:Int)<(n:Int) from ω)]
    refine aV ⟨_,rfl,p,_,rfl,aN,ξ,ξ,fun u H1 u0 u1 cS Y=>⟨rfl,_,rfl,?_⟩⟩;have T1:=T.draw hb cS Y;refine eA (fun _=>?_) (fun _=>?_)
    ·refine⟨_,rfl,_,rfl,p,_,rfl,Y,ω,ω,fun i H2 Z i1 eh S=>?_⟩
     refine⟨_,rfl,p,_,rfl,S,ξ,ξ,fun o H3 o0 o1 eV l=>⟨_,_,rfl,rfl,?_⟩⟩;obtain⟨ds,tb,L,M,y,x,G,hp,g,N⟩:=(T1.draw hb eh S).draw hb eV l;have gJ:=x.len;have hi:i.toNat<ds.length:=ω
     obtain⟨ns,en,X⟩:=x.get (Aa hi);have O:=Am en;refine⟨_,rfl,_,rfl,e,_,_,_,rfl,rfl,SqL.of y,Lr (v:=.ref ds[i.toNat]) Z (by rw[Ab];(first|lia|omega)) (by rw[Aj,Aa hi];rfl),_,rfl,⟨_,SqL.of X⟩,fun D U=>?_⟩;refine zB (Lq (o:=1+o) ⟨ω,ω⟩ X (by rw[(hp ns O).1];(first|lia|omega)) U fun H4 aQ aT=>?_);refine⟨_,rfl,_,rfl,e,_,_,i.toNat,rfl,rfl,aQ _ _ y,t7 Z (by rw[Ab];(first|lia|omega)),?_⟩;refine⟨_,rfl,k e _ c n hc hn ?_⟩;exact TabB.put hb L M y x G hp g N U aQ aT (by rw[Ab];exact(hp ns O).1) (((hp ns O).2.times (k:=6) ω ω ω).mono ω) ω
    ·obtain⟨ds,tb,L,M,y,x,G,hp,g,N⟩:=T1
     exact⟨_,rfl,k e _ c n hc hn ⟨ds,tb,L,M,y,x,G,fun r J=>⟨(hp r J).1,(hp r J).2.mono ω⟩,g,N⟩⟩
   ·rw[decide_eq_false (show ¬(0:Int)<(n:Int) from ω)]
    refine aP (aP ?_);obtain⟨ds,tb,L,M,y,x,G,hp,g,N⟩:=T;exact⟨_,rfl,k e _ c n hc hn ⟨ds,tb,L,M,y,x,G,fun r J=>⟨(hp r J).1,(hp r J).2.mono ω⟩,g,N⟩⟩
  obtain⟨tt,ht,kt⟩:=mq;refine⟨_,zc (zp (i:=2) jr.nd rfl (Or.inl rfl) (ze z a rfl mt Ft.kp bt .nil ag (za (pv 0) (za (zA dP (pv 1) zd) zb))))
   (zc (zp (i:=3) jr.nd rfl (Or.inr rfl) (ze z a rfl mt Ft.kp bt .nil ag (za (pv 0) (za (zA dP (pv 1) zd) zb))))
   (zc (zp (i:=4) jr.nd rfl (Or.inr rfl) (zx zt (iz (za zd (za zd (za zd (za zd zb))))) (ze z a rfl mt Ft.kp bt .nil ag (za (pv 0) (za zd zb))) (fun _ _=>rfl)))
   (zc (i' (i:=5) jr.nd rfl (Or.inl rfl) ["box","most","rows","columns","wide","found","one","other","often"] ["row","box","columns","wide"] [none,some 0,some 3,some 4] (iw rfl B.range (za (pv 2) zb)) (fun I C s₀ H₀ ex=>zk (i:=0) (a9 ["row","box","columns","wide"]) rfl (Or.inl rfl)) (fun I C s₀ H₀ ex=>zC)
    (fun I C s₀ H₀ ex=>ze Gr hr rfl mr Fr.kp br .nil ag (za (pv 1) (za (pv 2) (za (pv 3) zb)))) (te:=gp EO [] E0 (b_ (ar 1) (b_ (ar 2) (b_ (ar 3) bE)))) (hfr:=bD (zf kD) δ))
   (zc (cF (PW.pt (Fx (zy jA (pv 2) zd (ap _)) (Fv (zy hH (ze z a rfl mt Ft.kp bt .nil ag (za (pv 0) (za zd zb))) zd (ap _)))))
    (zc (zp (i:=6) jr.nd rfl (Or.inl rfl) (ze z a rfl mt Ft.kp bt .nil ag (za (pv 0) (za (pv 2) zb))))
    (zc (zp (i:=7) jr.nd rfl (Or.inl rfl) (ze z a rfl mt Ft.kp bt .nil ag (za (pv 0) (za (pv 2) zb))))
    (zc (zp (i:=8) jr.nd rfl (Or.inr rfl) (zA eR (ze z a rfl mt Ft.kp bt .nil ag (za (pv 0) (za zd zb))) zd))
    (zh (iv (zD ["box","most","rows","columns","wide","found","one","other","often"] ["number","often"] [none,some 8] (zM (zx zt (pv 5) (pv 7) (fun _ _=>rfl))) (fun I C s₀ H₀ ex=>zk (i:=0) (a9 ["number","often"]) rfl (Or.inl rfl)) (fun I C s₀ H₀ ex=>zC)
     (fun I C s₀ H₀ ex=>zA jy (pv 1) (pv 0)) (te:=pA) (hfr:=bD (zf kD) δ)) (ig (pv 5) (pv 6) set_list)))))) zR)
   ht)))),?_⟩
  refine⟨_,rfl,_,rfl,_,_,rfl,rfl,p,_,rfl,hb,ω,ω,fun n H1 n0 n1 cS Y=>?_⟩;refine⟨_,rfl,_,rfl,_,_,rfl,rfl,p,_,rfl,Y,ω,ω,fun c H2 c0 c1 eh S=>?_⟩;refine⟨ξ,fun q hq=>⟨_,rfl,p,_,rfl,S.new hq,ξ,ξ,fun v H3 v0 v1 eV l=>?_⟩⟩;obtain⟨n,rfl⟩:∃m:Nat,n=(m:Int):=⟨n.toNat,ω⟩;obtain⟨c,rfl⟩:∃m:Nat,c=(m:Int):=⟨c.toNat,ω⟩;obtain⟨W,ew,w0,w1⟩:∃W:Int,atI [V.int 3,.int 5,.int 13,.int 61] v=some (.int W)/\0<W/\W<=61:=by
   have:v=0\/v=1\/v=2\/v=3:=ω
   rcases this with rfl|rfl|rfl|rfl
   ·exact⟨3,rfl,ξ,ξ⟩
   ·exact⟨5,rfl,ξ,ξ⟩
   ·exact⟨13,rfl,ξ,ξ⟩
   ·exact⟨61,rfl,ξ,ξ⟩
  refine⟨q,_,_,_,rfl,rfl,SqL.of (eV _ _ (eN S hq) af),ew,?_⟩;have S3:zZ p H H3:=((cS.trans eh).trans (.of (Same.new hq))).trans eV;refine⟨_,rfl,_,rfl,ω,ω,fun e y=>?_⟩;refine zB (Lp (p:=p) (n:=n) (Pr:=fun ns=>ns.length=c/\Bnd 61 ns) l (fun j H' R L aN hR=>⟨_,rfl,_,rfl,_,rfl,p,c,W,rfl,aN,ω,w0,ω,fun d H4 ns bI bN hd e4 G bd=>hR d H4 ns bI bN hd e4 ⟨G,bd.mono w1⟩⟩) ω y fun H4 ds tb bI bN BC hr4 i5 iP qH=>?_);have T4:TabB H p e c n 61 H4:=⟨ds,tb,S3.trans bI,bN,BC,hr4,i5,iP,fun d hd=>⟨S3.free hb l (qH d hd).1,(qH d hd).2⟩,S3.free hb l y⟩;have up:∀H',TabB H p e c n 61 H'->TabB H p e c n 122 H':=fun H' ⟨ds,tb,a1,a2,a3,a4,a5,a6,a7,a8⟩=>⟨ds,tb,a1,a2,a3,a4,a5,fun r J=>⟨(a6 r J).1,(a6 r J).2.mono ω⟩,a7,a8⟩;refine⟨_,rfl,_,_,rfl,rfl,_,rfl,?_⟩
  by_cases c1':1<n
  ·rw[decide_eq_true (show(1:Int)<(n:Int) from ω)]
   refine aV ⟨_,rfl,p,_,rfl,bN,ξ,ξ,fun u H5 u0 u1 eI ee=>⟨rfl,_,rfl,?_⟩⟩;have T5:=T4.draw hb eI ee;refine eA (fun _=>?_) (fun _=>?_)
   ·refine⟨_,rfl,_,rfl,p,_,rfl,ee,ω,ω,fun i H6 Z i1 ij fj=>?_⟩
    refine⟨_,rfl,_,rfl,p,_,rfl,fj,ω,ω,fun o H7 o0 o1 mB fP=>?_⟩;refine⟨_,rfl,p,_,rfl,fP,ξ,ξ,fun t H8 t0 t1 wZ uv=>⟨_,_,rfl,rfl,?_⟩⟩;obtain⟨ds,tb,L,M,lA,x,G,hp,g,N⟩:=((T5.draw hb ij fj).draw hb mB fP).draw hb wZ uv;have gJ:=x.len;have hi:o.toNat<ds.length:=ω
    obtain⟨ns,en,X⟩:=x.get (Aa hi);have O:=Am en;refine⟨_,rfl,_,rfl,e,_,_,_,rfl,rfl,SqL.of lA,Lr (v:=.ref ds[o.toNat]) o0 (by rw[Ab];(first|lia|omega)) (by rw[Aj,Aa hi];rfl),_,rfl,⟨_,SqL.of X⟩,fun D U=>?_⟩;refine zB (Lq (o:=t-2) ⟨ω,ω⟩ X (by rw[(hp ns O).1];(first|lia|omega)) U fun H9 oM ge=>?_);refine⟨_,rfl,_,rfl,e,_,_,i.toNat,rfl,rfl,oM _ _ lA,t7 Z (by rw[Ab];(first|lia|omega)),?_⟩;exact kt e n c _ _ _ _ _ ω ω (TabB.put hb L M lA x G hp g N U oM ge (by rw[Ab];exact(hp ns O).1) (((hp ns O).2.times (k:=2) ω ω ω).mono ω) ω)
   ·exact kt e n c _ _ _ _ _ ω ω (up _ T5)
  ·rw[decide_eq_false (show ¬(1:Int)<(n:Int) from ω)]
   exact aP (aP (kt e n c _ _ _ _ _ ω ω (up _ T4)))
end
abbrev EQ:Stmt:=top 52
abbrev Dq:Stmt:=top 53
abbrev ER:Stmt:=top 54
abbrev ES:Stmt:=top 55
def Qt:A8 "int"=some (.type "int"):=δ
def Qu:A8 "bool"=some (.type "bool"):=δ
def ma:A8 "list"=some (.type "list"):=δ
section
variable{P:Program}{w:World}{K:Ah}{mg:Str->Option Value}{base:Heap}
def Lu(K:Ah):Sp:=fun vs H Q _=>∃L rs tb,vs=[.ref L]/\SqL K H L (rs.map V.ref)/\Rws H rs tb/\∀H',Same H H'->Q (.int (wid tb)) H'
def Qv:zo ["table"] ["table"] (zf EQ):=⟨rfl,rfl,rfl,δ,rfl,δ,δ⟩
def Qw{f:Addr}{fd:FuncData}(F:Fun K "_law_wide" "_law_wide" EQ f fd)(B:iR mg):al P w K mg base aG 1 f fd ["table"] (Lu K):=by
 refine F.ok Qv (fun vs H Q E h=>?_) (fun o A outer s H vs Q E hr h=>?_)
 ·obtain⟨L,rs,tb,rfl,_⟩:=h;rfl
 ·obtain⟨L,rs,tb,rfl,c,b,k⟩:=h
  have i:=hr.units;refine⟨_,zh (zq (p4 (zy (HS i) (pv 0) (iz zb) (ap _)) (zn zm rfl B.len dt (za (zx zt (pv 0) zd (fun _ _=>rfl)) zb)) zd)),?_⟩;refine⟨_,rfl,ξ,fun p hp=>?_⟩;have sm:Same H (upd H p (.lst [])):=Same.new hp;refine⟨dv tb,dv [],t5 (sm.seq c) (b.same sm),t5 (rs:=[]) (SqL.of af) .nil,EI _,EI _,Lg _ _,_,rfl,?_⟩;rw[if_pos rfl,HU];have l:=b.len;cases tb with
  |nil=>
   rw[show(!decide (([]:Ξ)=[]))=false from rfl];exact aP (k _ sm)
  |cons r t=>
   rw[show(!decide ((r::t:Ξ)=[]))=true from by simp];cases rs with
   |nil=>cases l
   |cons a as=>
    obtain⟨ns,e,g⟩:=b.get (j:=0) rfl;refine aV ⟨_,rfl,L,_,_,_,rfl,rfl,sm.seq c,zj (j:=0) rfl,a,_,rfl,.inl (SqL.of (sm _ _ g)),?_⟩;have:wid (r::t)=ns.length:=by unfold wid;rw[e];rfl
    have d:=k _ sm;rw[this] at d;rw[Ab];exact d
end
def ET:A8 "isinstance"=some (.builtin "isinstance"):=δ
def Lv{a:Type}(l:List a):(l.map fun _=>true).all id=true:=by rw[List.all_map,Be];exact fun _ _=>rfl
section
variable{P:Program}{w:World}{K:Ah}{mg:Str->Option Value}{base:Heap}
def HZ:Sp:=fun vs H Q _=>∃n:Int,vs=[.int n]/\Q (.bl true) H
def Qx:zo ["found"] ["found"] (zf Dq):=⟨rfl,rfl,rfl,δ,rfl,δ,δ⟩
def Qy{f:Addr}{fd:FuncData}(F:Fun K "_law_whole" "_law_whole" Dq f fd)(B:iR mg):al P w K mg base aG 1 f fd ["found"] HZ:=by
 refine F.ok Qx (fun vs H Q E h=>?_) (fun a A outer s H vs Q E hr h=>?_)
 ·obtain⟨n,rfl,_⟩:=h;rfl
 ·obtain⟨n,rfl,k⟩:=h
  refine⟨_,zh (zq (DG (zn Nw rfl B.isinstance ET (za (pv 0) (za (DC (v:=.ty "int") rfl B.int Qt rfl) zb))) (DF (Mn (zn Nx rfl B.isinstance ET (za (pv 0) (za (DC (v:=.ty "bool") rfl B.bool Qu rfl) zb))))))),?_⟩;exact⟨_,rfl,n,rfl,_,rfl,aV ⟨_,rfl,n,rfl,_,rfl,k⟩⟩
def Qz{H2:Hp}{l D:Addr}{ns:List Int}{Q:VK}{te:TE}(f:∀(n:Int)(H:Hp)(R:VK),R (.bl true) H->te [some (.int n)] H R)(g:H2 l=some (.lst (ns.map V.int)))(hz:ns.length<=1000)(c:H2 D=none)(k:∀a,Same H2 a->a D=some (.lst ((ns.map fun _=>true).map V.bl))->Q (.ref D) a):cP (eU K l) (zT 0) bJ te [none] H2 D Q:=by
 refine jB (xs:=ns.map V.int) (fun j σ ys a=>∃v:Option V,σ=[v]/\Same H2 a/\a D=some (.lst ys)/\ys=((ns.map fun _=>true).take j).map V.bl) ?_ ?_ ?_ ?_
 ·exact⟨none,rfl,Same.new c,af,rfl⟩
 ·rintro j σ ys a ⟨v,rfl,sm,_⟩
  exact SqL.of (sm _ _ g)
 ·rintro j σ ys a x hx d hy ⟨v,rfl,sm,b,rfl⟩
  obtain⟨q,eq,rfl⟩:=fh hx;have e:(ns.map fun _=>true)[j]?=some true:=by rw[Aj,eq];rfl
  refine cQ ?_;exact f q a _ (bK (by rw[Ab];exact zE ω) d hy b ⟨_,rfl,sm.then c,af,by rw[Bp e,Aw];rfl⟩)
 ·rintro σ ys a ⟨v,rfl,sm,b,rfl⟩
  rw[Av (by simp)] at b;exact k a sm b
def H_:Sp:=fun vs H Q _=>∃l ns,vs=[.ref l]/\H l=some (.lst (List.map V.int ns))/\ns.length<=1000/\∀H',Same H H'->Q (.bl true) H'
def QA:zo ["found"] ["found"] (zf ER):=⟨rfl,rfl,rfl,δ,rfl,δ,δ⟩
def Lx{f c:Addr}{fd d:FuncData}(F:Fun K "_law_row_like" "_law_row_like" ER f fd)(B:iR mg)(Fw:Fun K "_law_whole" "_law_whole" Dq c d)(o:Binds K d ["found"] [])(p:mg "_law_whole"=some (.ref c)):al P w K mg base aG 2 f fd ["found"] H_:=by
 have r:al P w K mg base aG 1 c d ["found"] HZ:=Qy Fw B;refine F.ok QA (fun vs H Q E h=>?_) (fun u A outer s H vs Q E hr h=>?_)
 ·obtain⟨l,ns,rfl,_⟩:=h;rfl
 ·obtain⟨l,ns,rfl,b,hz,k⟩:=h
  refine⟨_,zh (zq (DG (zn Jf rfl B.isinstance ET (za (pv 0) (za (DC (v:=.ty "list") rfl B.list ma rfl) zb))) (DF (zn (qh rfl) rfl B.all qG (za
   (zD ["found"] ["number"] [none] (zM (pv 0)) (fun e C s₀ H₀ ex=>zk (i:=0) (a9 ["number"]) rfl (Or.inl rfl)) (fun e C s₀ H₀ ex=>zC) (fun e C s₀ H₀ ex=>ze r hr rfl p Fw.kp o .nil ag (za (pv 0) zb)) (te:=gp HZ [] E0 (b_ (ar 0) bE)) (hfr:=bC δ)) zb))))),?_⟩
  refine⟨_,rfl,l,_,rfl,b,_,rfl,aV ⟨_,rfl,l,rfl,⟨_,SqL.of b⟩,fun D g=>?_⟩⟩;refine zB (Qz (fun n H R h=>⟨_,rfl,n,rfl,h⟩) b hz g fun q j a=>⟨D,_,rfl,SqL.of a,?_⟩);rw[Lv];exact k q j
def Ly:Sp:=fun vs H Q _=>∃L rs tb,vs=[.ref L]/\H L=some (.lst (rs.map V.ref))/\Rws H rs tb/\tb.length<=1000/\(∀r∈tb,r.length<=1000)/\∀H',Same H H'->Q (.bl true) H'
def QB:zo ["found"] ["found"] (zf ES):=⟨rfl,rfl,rfl,δ,rfl,δ,δ⟩
def QC{f fr e:Addr}{fd c j:FuncData}(F:Fun K "_law_table_like" "_law_table_like" ES f fd)(B:iR mg)(Fr:Fun K "_law_row_like" "_law_row_like" ER fr c)(G:Binds K c ["found"] [])(I:mg "_law_row_like"=some (.ref fr))(T:Fun K "_law_whole" "_law_whole" Dq e j)(J:Binds K j ["found"] [])(M:mg "_law_whole"=some (.ref e)):al P w K mg base aG 3 f fd ["found"] Ly:=by
 have S:al P w K mg base aG 2 fr c ["found"] H_:=Lx Fr B T J M;refine F.ok QB (fun vs H Q E h=>?_) (fun U A outer s H vs Q E hr h=>?_)
 ·obtain⟨L,rs,tb,rfl,_⟩:=h;rfl
 ·obtain⟨L,rs,tb,rfl,b,y,hz,z,k⟩:=h
  refine⟨_,zh (zq (DG (zn Jf rfl B.isinstance ET (za (pv 0) (za (DC (v:=.ty "list") rfl B.list ma rfl) zb))) (DF (zn (qh rfl) rfl B.all qG (za
   (zD ["found"] ["row"] [none] (zM (pv 0)) (fun d C s₀ H₀ ex=>zk (i:=0) (a9 ["row"]) rfl (Or.inl rfl)) (fun d C s₀ H₀ ex=>zC) (fun d C s₀ H₀ ex=>ze S hr rfl I Fr.kp G .nil ag (za (pv 0) zb)) (te:=gp H_ [] E0 (b_ (ar 0) bE)) (hfr:=bC δ)) zb))))),?_⟩
  refine⟨_,rfl,L,_,rfl,b,_,rfl,aV ⟨_,rfl,L,rfl,⟨_,SqL.of b⟩,fun D l=>?_⟩⟩;refine zB (D0 (mkV:=V.bl) (g:=fun _=>true) (fun o os H' R sm p q r=>⟨_,rfl,o,os,rfl,p,z os q,fun N u=>r N u⟩) (SqL.of b) y hz l fun O x a=>⟨D,_,rfl,SqL.of a,?_⟩);rw[Lv];exact k O x
end
def Lz{a b:Ξ}{k w:Nat}(f:a.length=k)(g:b.length=k)(d:∀r∈a,r.length=w)(e:∀r∈b,r.length=w)(h:∀i j,i<k->j<w->fn a i j=fn b i j):a=b:=by
 apply AZ ω;intro i h1 h2;have e1:=zw (Aa h1);have e2:=zw (Aa h2);refine HJ (by rw[d _ (Ao h1),e _ (Ao h2)]) fun j c=>?_;rw[d _ (Ao h1)] at c;have:=h i j ω c;unfold fn at this
 rwa [e1,e2] at this
section
variable{P:Program}{w:World}{K:Ah}{mg:Str->Option Value}{base:Heap}
def QD{H2:Hp}{D:Addr}{n:Nat}{Q:VK}{g:Nat->Int}{te:TE}{c:List (Option V)}(h:∀(j:Nat)(H:Hp)(R:VK),R (.int (g j)) H->te (some (.int j)::c) H R)(hz:n<=1000)(f:H2 D=none)(k:∀a,Same H2 a->a D=some (.lst (((Af n).map g).map V.int))->Q (.ref D) a):cP (i0 0 n) (zT 0) bJ te (none::c) H2 D Q:=by
 refine DW (fun j σ ys a=>∃(v:Option V),σ=v::c/\Same H2 a/\a D=some (.lst ys)/\ys=(((Af n).take j).map g).map V.int) ⟨none,rfl,Same.new f,af,rfl⟩ ?_ ?_
 ·rintro j σ ys a d hy ⟨v,rfl,sm,b,rfl⟩
  have e:(Af n)[j]?=some j:=AH d;refine cQ ?_;rw[show(0:Int)+((j:Nat):Int)=((j:Nat):Int) from ω];refine h j a _ (bK (zE ω) d hy b ⟨_,rfl,sm.then f,af,?_⟩);rw[Bp e,Aw,Aw]
  rfl
 ·rintro σ ys a ⟨v,rfl,sm,b,rfl⟩
  rw[Av (by simp)] at b;exact k a sm b
end
def Ib(st:List Int)(i j:Nat):Int:=if i=j/\i<st.length then vc st i else 0
def LA(F:Ξ)(st:List Int)(k w:Nat):Bool:=(Af k).all fun i=>(Af w).all fun j=>decide (fn F i j=Ib st i j)
def EU{u v:Ξ}:(mulT u v).length=u.length:=by unfold mulT;simp
def Ie{u v:Ξ}:∀r∈mulT u v,r.length=wid v:=fun r hr=>by
 unfold mulT at hr;obtain⟨q,_,rfl⟩:=List.mem_map.mp hr;rw[Ab,lL]
def gU{tb:Ξ}{w:Nat}(h:∀r∈tb,r.length=w)(a:tb.length=0->w=0):wid tb=w:=by
 cases e:tb with
 |nil=>rw[e] at a;exact(a rfl).symm
 |cons x l=>exact h x (by rw[e];exact AI ..)
def LC{tb:Ξ}{w:Nat}(h:∀r∈tb,r.length=w)(a:tb.length=0->w=0)(h1:tb.length<=40)(h2:w<=40):bW tb=true:=by
 unfold bW;rw[gU h a,decide_eq_true h1,decide_eq_true h2];simp only[Bool.and_self,Bool.true_and,Be];exact fun r hr=>decide_eq_true (h r hr)
section
variable{P:Program}{w:World}{K:Ah}{mg:Str->Option Value}{base:Heap}
def QE{H2:Hp}{L D:Addr}{ns:List Int}{Q:VK}{p:Int->Bool}{tc:TT}{c:List (Option V)}(h:∀(x:Int)(H:Hp)(R:Bool->Hp->Prop),x∈ns->R (p x) H->tc (some (.int x)::c) H R)(i:H2 L=some (.lst (ns.map V.int)))(hz:ns.length<=1000)(f:H2 D=none)(k:∀b,Same H2 b->b D=some (.lst ((ns.filter p).map V.int))->Q (.ref D) b):cP (eU K L) (zT 0) tc (ar 0) (none::c) H2 D Q:=by
 refine jB (xs:=ns.map V.int) (fun j σ ys b=>∃(v:Option V),σ=v::c/\Same H2 b/\b D=some (.lst ys)/\ys=((ns.take j).filter p).map V.int) ⟨none,rfl,Same.new f,af,rfl⟩ ?_ ?_ ?_
 ·rintro j σ ys b ⟨v,rfl,sm,a,rfl⟩
  exact SqL.of (sm _ _ i)
 ·rintro j σ ys b x hx e hy ⟨v,rfl,sm,a,rfl⟩
  obtain⟨y,d,rfl⟩:=fh hx;have g:(ns.map V.int).length<=sizeLine:=by rw[Ab];exact zE ω
  refine h y b _ (Am d) ?_;cases hp:p y with
  |true=>
   refine aV ⟨_,rfl,bK g e hy a ⟨_,rfl,sm.then f,af,?_⟩⟩;rw[Bp d,List.filter_append,Aw];simp[hp]
  |false=>
   refine aP (k4 e hy ⟨_,rfl,sm,a,?_⟩);rw[Bp d,List.filter_append];simp[hp]
 ·rintro σ ys b ⟨v,rfl,sm,a,rfl⟩
  rw[Ab,Av (Ad _)] at a;exact k b sm a
end
abbrev Dr:Stmt:=top 56
def Rws.updAt{H:Hp}{ds:List Addr}{tb:Ξ}{d:Addr}{ns:List Int}(h:Rws H ds tb):∀i:Nat,ds.Nodup->ds[i]?=some d->Rws (L2.upd H d (.lst (ns.map V.int))) ds (tb.set i ns):=by
 induction h with
 |nil=>intro i _ e;simp at e
 |cons r t ih=>
  intro i a e;obtain⟨n1,n2⟩:=List.nodup_cons.mp a;cases i with
  |zero=>
   simp at e;subst e;exact .cons af (Rws.upd t fun x hx z=>n1 (z▸hx))
  |succ i=>
   rw[List.getElem?_cons_succ] at e;exact .cons (by rw[am (fun z=>n1 (by rw[z];exact Am e))];exact r) (ih i n2 e)
section
variable{P:Program}{w:World}{K:Ah}{mg:Str->Option Value}{base:Heap}
abbrev Ds:List Str:=["box","least","more","rows","columns","found","row","k"]
def LD:Sp:=fun vs H Q _=>∃(p:Addr),vs=[.ref p,.int 10,.int 11]/\zS H p/\∀F H' c n,c<=20->n<=20->TabB H p F c n 2 H'->Q (.ref F) H'
def t8:zo Ds ["box","least","more"] (zf Dr):=⟨rfl,rfl,rfl,δ,rfl,δ,δ⟩
abbrev QF:TE:=kX (Iy (b_ (ar 1) bE)) [none] (zT 0) bJ (tC (.int 0))
def QG{f ft:Addr}{fd aF:FuncData}(F:Fun K "_law_wide_table" "_law_wide_table" Dr f fd)(B:iR mg)(Ft:Fun K "_law_take" "_law_take" l7 ft aF)(bt:Binds K aF ["box","most"] [])(mt:mg "_law_take"=some (.ref ft)):al P w K mg base aG 2 f fd ["box","least","more"] LD:=by
 have M:al P w K mg base aG 1 ft aF ["box","most"] pu:=Dl Ft;refine F.ok t8 (fun vs H Q E h=>?_) (fun ah A outer s H vs Q E hr h=>?_)
 ·obtain⟨p,rfl,_⟩:=h;rfl
 ·obtain⟨p,rfl,hb,k⟩:=h
  refine⟨_,zc (zp (i:=3) t8.nd rfl (Or.inl rfl) (zA dP (pv 1) (ze M hr rfl mt Ft.kp bt .nil ag (za (pv 0) (za (pv 2) zb)))))
   (zc (zp (i:=4) t8.nd rfl (Or.inr rfl) (zA dP (pv 1) (ze M hr rfl mt Ft.kp bt .nil ag (za (pv 0) (za (pv 2) zb)))))
   (zc (i' (i:=5) t8.nd rfl (Or.inl rfl) Ds ["row","columns"] [none,some 4] (iw rfl B.range (za (pv 3) zb)) (fun y C s₀ H₀ ex=>zk (i:=0) (a9 ["row","columns"]) rfl (Or.inl rfl)) (fun y C s₀ H₀ ex=>zC)
    (fun y C s₀ H₀ ex=>zD ["row","columns"] ["place"] [none] (iw rfl B.range (za (pv 1) zb)) (fun y C s₀ H₀ ex=>zk (i:=0) (a9 ["place"]) rfl (Or.inl rfl)) (fun y C s₀ H₀ ex=>zC) (fun y C s₀ H₀ ex=>zd) (hfr:=bC δ))
    (te:=QF) (hfr:=bD (zf Dr) δ))
   (zc (eX A4 rfl (zM (pv 5)) (zk (i:=6) t8.nd rfl (Or.inl rfl))
    (zh (eX A4 rfl (iw rfl B.range (za zd zb)) (zk (i:=7) t8.nd rfl (Or.inl rfl))
     (zh (iv (zA eR (ze M hr rfl mt Ft.kp bt .nil ag (za (pv 0) (za zd zb))) zd) (ig (pv 6) (ze M hr rfl mt Ft.kp bt .nil ag (za (pv 0) (za (pv 4) zb))) set_list))))))
   (zh (zq (pv 5)))))),?_⟩
  refine⟨_,rfl,_,rfl,_,rfl,p,_,rfl,hb,ξ,ξ,fun n H1 n0 n1 cS cR=>⟨_,_,rfl,rfl,?_⟩⟩;refine⟨_,rfl,_,rfl,_,rfl,p,_,rfl,cR,ξ,ξ,fun c H2 c0 c1 eh O=>⟨_,_,rfl,rfl,?_⟩⟩;obtain⟨n,rfl⟩:∃m:Nat,n=(m:Int):=⟨n.toNat,ω⟩;obtain⟨c,rfl⟩:∃m:Nat,c=(m:Int):=⟨c.toNat,ω⟩;dsimp only;rw[show(10:Int)+(n:Int)=((10+n:Nat):Int) from ω,show(10:Int)+(c:Int)=((10+c:Nat):Int) from ω];generalize hN:10+n=N;generalize hC:10+c=C;refine⟨_,rfl,_,rfl,ω,ω,fun D hD=>?_⟩;have fZ:=cS.trans eh;refine zB (GB (n:=N) (g:=fun _=>(Af C).map fun _=>(0:Int)) (fun j H' R hj sm S=>⟨_,rfl,_,rfl,ω,ω,fun D2 dL=>zB (QD (n:=C) (g:=fun _=>(0:Int)) (fun j b R S=>S) ω dL fun b s4 z=>S D2 b s4 dL z)⟩) ω hD fun H3 ds ao G I aS jv=>?_);have J:H D=none:=fZ.free hb O hD;have c6:=eN hb J;have dn:∀d∈ds,H d=none/\d≠D:=fun d hd=>⟨fZ.free hb O (jv d hd).1,(jv d hd).2⟩;have gJ:ds.length=N:=by rw[I.len];simp
  refine⟨_,rfl,D,rfl,⟨_,SqL.of G⟩,my (K:=K) (a:=D) (xs:=ds.map V.ref) (fun i σ b=>∃(T l:Option V)(tb:Ξ),σ=[some (.ref p),some (.int 10),some (.int 11),some (.int N),some (.int C),some (.ref D),T,l]/\zZ p H b/\zS b p/\b D=some (.lst (ds.map V.ref))/\Rws b ds tb/\tb.length=N/\∀r∈tb,r.length=C/\Bnd 2 r)
   ⟨none,none,_,rfl,fZ.trans (.of ao),O.same ao,G,I,by simp,fun r hr=>by
    obtain⟨_,_,rfl⟩:=List.mem_map.mp hr;exact⟨by simp,fun x hx=>by
     obtain⟨_,_,rfl⟩:=List.mem_map.mp hx;exact⟨ξ,ξ⟩⟩⟩ (fun i σ b _ ⟨_,_,_,_,_,_,e,_⟩=>SqL.of e) ?_ ?_⟩
  ·rintro i x σ b hx ⟨T,l,tb,rfl,U,W,z,o,X,Y⟩
   obtain⟨a,Z,rfl⟩:=ja hx;have ha:=dn a (Am Z);have sG:=eN hb ha.1;refine⟨_,rfl,ω,ξ,DJ (lo:=0) (n:=3) (fun j σ v=>∃(l:Option V)(tb:Ξ),σ=[some (.ref p),some (.int 10),some (.int 11),some (.int N),some (.int C),some (.ref D),some (.ref a),l]/\zZ p H v/\zS v p/\v D=some (.lst (ds.map V.ref))/\Rws v ds tb/\tb.length=N/\∀r∈tb,r.length=C/\Bnd 2 r)
    ⟨l,tb,rfl,U,W,z,o,X,Y⟩ ?_ ?_⟩
   ·rintro j σ v hj ⟨l,tb,rfl,eI,ee,c5,rj,rG,L⟩
    refine⟨_,rfl,p,_,rfl,ee,ξ,ξ,fun u H6 u0 u1 ij fj=>⟨_,_,rfl,rfl,?_⟩⟩;refine⟨_,rfl,_,rfl,_,rfl,p,_,rfl,fj,ω,ω,fun q H7 q0 q1 mB fP=>?_⟩;have fL:=ij.trans mB;have r7:=rj.sameB fL fun d hd=>eN hb (dn d hd).1;obtain⟨ns,en,dM⟩:=r7.get Z;have hm:=Am en;refine⟨a,_,q,q.toNat,rfl,rfl,dM,t7 q0 (by rw[Ab,(L ns hm).1];(first|lia|omega)),?_⟩;rw[<-List.map_set (f:=V.int)];refine⟨_,tb.set i (ns.set q.toNat (u-2)),rfl,(eI.trans fL).then ha.1,fP.upd sG,by rw[am ha.2.symm];exact fL _ _ c6 c5,r7.updAt i aS Z,by simp[rG],fun r cv=>?_⟩;rcases List.mem_or_eq_of_mem_set cv with h|h
    ·exact L r h
    ·rw[h]
     refine⟨by rw[List.length_set];exact(L ns hm).1,fun x hx=>?_⟩;rcases List.mem_or_eq_of_mem_set hx with h|h
     ·exact(L ns hm).2 x h
     ·rw[h];(first|lia|omega)
   ·rintro σ v ⟨l,tb,rfl,h⟩
    exact⟨_,_,tb,rfl,h⟩
  ·rintro σ b ⟨T,l,tb,rfl,U,W,z,o,X,Y⟩
   exact⟨_,rfl,k D b C N ω ω ⟨ds,tb,U,W,z,o,X,Y,dn,J⟩⟩
end
def fo{e:Type}(a b c d:e):Nat->e
 |0=>a
 |1=>b
 |2=>c
 |_=>d
def QH{i:Nat}(h:i<4):i=0\/i=1\/i=2\/i=3:=ω
def Dj.symm{x y:List Addr}(h:Dj x y):Dj y x:=fun a c b hb e=>h b hb a c e.symm
section
variable{H H':Hp}{p:Addr}{u ub v vb:Ξ}{st:List Int}{a1 a2 a3 a4 a5:Addr}{d1 d2 d3 d4:List Addr}
def PapH.nt(h:PapH H H' p u ub v vb st a1 a2 a3 a4 a5 d1 d2 d3 d4)(i:Nat)(hi:i<4):NT H H' (fo a1 a2 a3 a4 i) (fo d1 d2 d3 d4 i) (fo u ub v vb i):=by
 obtain rfl|rfl|rfl|rfl:=QH hi
 ·exact h.n1
 ·exact h.n2
 ·exact h.n3
 ·exact h.n4
end
section
variable{P:Program}{w:World}{K:Ah}{mg:Str->Option Value}{base:Heap}
abbrev QI(K:Ah):List V->Hp->VK->Prop:=fun xs H Q=>∃p ys,xs=[.ref p]/\(SqL K H p ys\/SqT K H p ys)/\∀l,H l=none->Q (.ref l) (upd H l (.lst ys))
abbrev Dt(K:Ah):TE:=mR (QI K) (b_ (ar 0) bE)
def EV{H2:Hp}{L D:Addr}{rs:List Addr}{tb:Ξ}{Q:VK}{c:List (Option V)}(b:SqL K H2 L (rs.map V.ref))(p:Rws H2 rs tb)(hz:tb.length<=1000)(q:H2 D=none)(k:∀a ds,Same H2 a->a D=some (.lst (ds.map V.ref))->Rws a ds tb->ds.Nodup->(∀d∈ds,H2 d=none/\d≠D)->Q (.ref D) a):cP (eU K L) (zT 0) bJ (Dt K) (none::c) H2 D Q:=by
 refine ww (g:=fun r=>r) (fun o os H R sm f s h=>⟨_,rfl,o,_,rfl,.inl (SqL.of f),fun l b=>h l _ (Same.new b) b af⟩) b p hz q fun a ds sm e hr i j=>?_;rw[List.map_id'] at hr;exact k a ds sm e hr i j
end
def BQ{a b:Tb.Vc}:∀n,Tb.dot (n+1) a b=a 0*b 0+Tb.dot n (fun u=>a (u+1)) (fun u=>b (u+1))
 |0=>by show(0:Int)+a 0*b 0=a 0*b 0+0;(first|lia|omega)
 |n+1=>by
  show Tb.dot (n+1) a b+a (n+1)*b (n+1)=a 0*b 0+(Tb.dot n _ _+a (n+1)*b (n+1));rw[BQ n];(first|lia|omega)
def t_:∀{r c:List Int},r.length=c.length->dot r c=Tb.dot r.length (vc r) (vc c)
 |[],[],_=>rfl
 |x::r,y::c,h=>by
  have e:dot (x::r) (y::c)=x*y+dot r c:=rfl;rw[e,t_ (Nat.succ.inj h),AL,BQ]
  rfl
def Ig{u v:Ξ}{i j:Nat}(hi:i<u.length)(a:j<wid v)(h:∀r∈u,r.length=v.length):fn (mulT u v) i j=Tb.dot v.length (fn u i) (fun s=>fn v s j):=by
 have e1:rowAt (mulT u v) i=(turn v).map (dot (rowAt u i)):=zw (by
  unfold mulT;rw[Aj,Aa hi,zw (Aa hi)];rfl)
 have b:(rowAt u i).length=v.length:=h _ (zG hi);have e2:vc ((turn v).map (dot (rowAt u i))) j=dot (rowAt u i) (colAt v j):=by
  unfold vc turn;rw[Ac,Aj,Aj,AH a];rfl
 show vc (rowAt (mulT u v) i) j=_;rw[e1,e2,t_ (by rw[b];unfold colAt;simp),b];refine Tb.zi fun s _=>?_;have:=zY (T:=v) a s;unfold fn at this;rw[Bu a] at this;exact this
def QJ{st:List Int}{m:Int}(h1:(st.length:Int)<=m)(h2:∀x∈st,0<x)(d:∀i,i+1<st.length->vc st i ∣ vc st (i+1)):fI st m=true:=by
 unfold fI;rw[decide_eq_false ω,List.all_eq_true.mpr fun x hx=>decide_eq_true (h2 x hx)];show(AA (fun a b=>decide (b%a=0)) st (st.drop 1)).all id=true;rw[Be];intro x hx;obtain⟨i,hi,rfl⟩:=AN hx;have c:i+1<st.length:=by rw[AE,List.length_drop] at hi;(first|lia|omega)
 rw[A0,List.getElem_drop];have:=d i c;rw[iK ω,iK c] at this;refine decide_eq_true ?_;have e:st[1+i]'ω=st[i+1]:=by congr 1;(first|lia|omega)
 rw[e];exact Int.emod_eq_zero_of_dvd this
def QK{st:List Int}{k w i j:Nat}(hi:i<k)(a:j<w):fn (slpT st k w) i j=if i=j/\i<st.length then vc st i else 0:=by
 unfold fn slpT;rw[Bu hi];unfold b0 vc
 by_cases c:i<st.length
 ·rw[if_pos c,Ac,List.getElem?_set]
  by_cases d:i=j
  ·rw[if_pos d,if_pos (show i<(Ar w (0:Int)).length by rw[List.length_replicate];(first|lia|omega)),if_pos (And.intro d c)];rfl
  ·rw[if_neg d,if_neg fun h=>d h.1,List.getElem?_replicate,if_pos a];rfl
 ·rw[if_neg c,if_neg fun h=>c h.2,Ac,List.getElem?_replicate,if_pos a];rfl
def QL{st:List Int}{k w:Nat}:∀r∈slpT st k w,r.length=w:=fun r hr=>by
 unfold slpT at hr;obtain⟨i,_,rfl⟩:=List.mem_map.mp hr;exact K7
def EW{u v:Ξ}{n:Nat}(d:u.length=n)(e:∀r∈u,r.length=n)(a:v.length=n)(f:∀r∈v,r.length=n)(h:∀i j,i<n->j<n->Tb.dot n (fn u i) (fun s=>fn v s j)=Tb.dl i j):mulT u v=unT n:=by
 have c:wid v=n:=gU f fun h=>ω
 refine Lz (by rw[EU,d]) Ew (fun r hr=>by rw[Ie r hr,c]) oX fun i j hi b=>?_;rw[Ig ω ω (by rw[a];exact e),a,h i j hi b,oU hi]
 rfl
section
variable{k w:Nat}{tb u ub v vb:Ξ}{st:List Int}
def Pap.prod(p:Pap k w (fn tb) u ub v vb st)(l:tb.length=k)(d:∀r∈tb,r.length=w)(hw:wid tb=w){i j:Nat}(hi:i<k)(b:j<w):fn (mulT (mulT u tb) v) i j=if i=j/\i<st.length then vc st i else 0:=by
 have c:wid v=w:=gU p.wv fun h=>by have:=p.lv;(first|lia|omega)
 rw[Ig (by rw[EU,p.lu];exact hi) ω (fun r hr=>by rw[Ie r hr,p.lv,hw]),p.lv];have e:∀t,t<w->fn (mulT u tb) i t=Tb.dot k (fn u i) (fun s=>fn tb s t):=fun t a=>by
  rw[Ig (by rw[p.lu];exact hi) ω (by rw[l];exact p.wu),l]
 rw[Tb.zF e,Tb.gM];exact p.pr i j hi b
end
def pE:Good 20 5 (lF 20 5 1):=⟨ξ,ξ,ξ,ξ,ξ,ξ,ξ⟩
def iT:Good 6 3 (lF 6 3 10):=⟨ξ,ξ,ξ,ξ,ξ,ξ,ξ⟩
def EX{tb:Ξ}{m:Int}{q:Nat}(h:∀r∈tb,Bnd m r)(a:m<=(2 ^ q:Nat)):Ent tb (2 ^ q):=fun i u=>by
 unfold fn
 by_cases c:i<tb.length
 ·have hr:=h _ (zG c)
  by_cases d:u<(rowAt tb i).length
  ·rw[iK d]
   have:=hr _ (Ao d);(first|lia|omega)
  ·rw[eL ω];exact Ap _
 ·rw[lE ω];exact Ap _
def jt(tb:Ξ):Prop:=∃N n m,lI N n m tb.length (wid tb) tb
def EY{tb:Ξ}{N n m c:Nat}{b:Int}(g:Good N n (lF N n m))(hr:∀r∈tb,r.length=c/\Bnd b r)(f:tb.length<=N)(hc:c<=N)(hb:b<=(2 ^ m:Nat)):bW tb=true/\jt tb/\Sm9 tb:=by
 have i:=g.N40;have a:(∀r∈tb,r.length=wid tb)/\wid tb<=N:=by
  cases e:tb with
  |nil=>exact⟨fun r hr=>(by cases hr),Ap _⟩
  |cons x l=>
   rw[e] at hr;have e1:wid (x::l)=x.length:=rfl;rw[e1,(hr x (AI ..)).1];exact⟨fun r h=>(hr r h).1,hc⟩
 have d:=EX (fun r h=>(hr r h).2) hb;refine⟨?_,⟨N,n,lF N n m,g,rfl,a.1,d,f,a.2,K3 g.N1 g.Nn f d,K4 g.Nn f⟩,fun r hr x hx=>Ae (d.mem r hr x hx) (AC ξ g.m9)⟩;unfold bW;rw[decide_eq_true (show tb.length<=40 from ω),decide_eq_true (show wid tb<=40 from ω)];simp only[Bool.and_self,Bool.true_and,Be];exact fun r h=>decide_eq_true (a.1 r h)
abbrev EZ:Stmt:=top 43
abbrev E1:Stmt:=top 41
def ia(t n:Int):Bool:=decide (t%n=0)
def QM{t:Int}:ia t 0=decide (t=0):=by unfold ia;rw[Int.emod_zero]
def i4{a b:Int}:decide (V.int a=V.int b)=decide (a=b):=by rw[Bool.eq_iff_iff];simp
section
variable{P:Program}{w:World}{K:Ah}{mg:Str->Option Value}{base:Heap}
def LF:Sp:=fun vs H Q _=>∃t n:Int,vs=[.int t,.int n]/\0<=n/\Q (.bl (ia t n)) H
def QN:zo ["total","number"] ["total","number"] (zf EZ):=⟨rfl,rfl,rfl,δ,rfl,δ,δ⟩
def QO{f:Addr}{fd:FuncData}(F:Fun K "is_so_many_times" "is_so_many_times" EZ f fd):al P w K mg base aG 1 f fd ["total","number"] LF:=by
 refine F.ok QN (fun vs H Q E h=>?_) (fun a A outer s H vs Q E hr h=>?_)
 ·obtain⟨t,n,rfl,_⟩:=h;rfl
 ·obtain⟨t,n,rfl,b,k⟩:=h
  refine⟨_,zh (zq (p4 (zy hH (pv 1) zd (ap _)) (mP hH (pv 0) zd (ap _)) (mP hH (zA jz (pv 0) (pv 1)) zd (ap _)))),?_⟩;refine⟨_,rfl,rfl,_,rfl,?_⟩;rw[i4]
  by_cases c:n=0
  ·rw[decide_eq_true c]
   rw[c,QM,<-i4] at k;exact aV ⟨_,rfl,rfl,k⟩
  ·rw[decide_eq_false c]
   unfold ia at k;rw[<-i4] at k;exact aP ⟨_,rfl,_,rfl,_,_,rfl,rfl,(show(0:Int)<n from ω),rfl,k⟩
def LG(K:Ah):Sp:=fun vs H Q _=>∃(L G:Addr)(rs:List Addr)(tb:Ξ)(g:List Int),vs=[.ref L,.ref G]/\H L=some (.lst (rs.map V.ref))/\Rws H rs tb/\bW tb=true/\H G=some (.lst (g.map V.int))/\g.length=tb.length/\∀H',Same H H'->Q .non H'
def QP:zo ["table","goal"] ["table","goal"] (zf E1):=⟨rfl,rfl,rfl,δ,rfl,δ,δ⟩
def QR{f b:Addr}{fd c:FuncData}(F:Fun K "must_have_goal" "must_have_goal" E1 f fd)(bl:mg "len"=none)(Ft:Fun K "must_be_table" "must_be_table" qD b c)(bt:Binds K c ["table"] [])(mt:mg "must_be_table"=some (.ref b))(l:al P w K mg base aG 3 b c ["table"] (EM K)):al P w K mg base aG 4 f fd ["table","goal"] (LG K):=by
 refine F.ok QP (fun vs H Q E h=>?_) (fun o A outer s H vs Q E hr h=>?_)
 ·obtain⟨L,G,rs,tb,g,rfl,_⟩:=h;rfl
 ·obtain⟨L,G,rs,tb,g,rfl,d,e,it,i,j,k⟩:=h
  refine⟨_,zc (kT (ze l hr rfl mt Ft.kp bt .nil ag (za (pv 0) zb))) (zh (cF (zy gf (zn zm rfl bl dt (za (pv 1) zb)) (zn zm rfl bl dt (za (pv 0) zb)) (ap _)) Ix zR)),?_⟩;refine⟨_,rfl,L,rs,tb,rfl,SqL.of d,e,it,fun H1 a=>⟨_,rfl,G,_,rfl,.inl (SqL.of (a _ _ i)),_,rfl,L,_,rfl,.inl (SqL.of (a _ _ d)),rfl,_,rfl,?_⟩⟩;rw[Ab,Ab,j,e.len,decide_eq_true rfl];exact aP (k H1 a)
end
abbrev E3:Stmt:=top 42
abbrev E4:Stmt:=top 40
def kF(a b:List Int):dot a b=dot b a:=by unfold dot;rw[List.zipWith_comm];congr 1;exact congrFun (congrFun (congrArg _ (funext fun x=>funext fun y=>A5 y x)) _) _
def Ih(u v:Ξ)(st g:List Int):List Int:=v.map (dot (AA (fun a b=>a / b) (u.map (dot g)) st))
def LJ(H:Hp)(Q:VK)(u v:Ξ)(st g:List Int):Prop:=∀(H':Hp)(p c:Addr),Same H H'->H p=none->H c=none->
 (∀k,k<u.length->H' p=some (.tup [.str "no",.ref c,.int (vc st k)])->H' c=some (.lst ((rowAt u k).map V.int))->ia (dot g (rowAt u k)) (vc st k)=false->Q (.ref p) H')/\
 (H' p=some (.tup [.str "yes",.ref c])->H' c=some (.lst ((Ih u v st g).map V.int))->(∀k,k<u.length->ia (dot g (rowAt u k)) (vc st k)=true)->Q (.ref p) H')
section
variable{P:Program}{w:World}{K:Ah}{mg:Str->Option Value}{base:Heap}
abbrev Du:List Str:=["paper","goal","left","steps","sums","k","total","number","often"]
def LK:Sp:=fun vs H Q _=>∃(p G a1 a2 a3 a4 a5:Addr)(d1 d3:List Addr)(u v:Ξ)(st g:List Int),vs=[.ref p,.ref G]/\H p=some (.tup [.ref a1,.ref a2,.ref a3,.ref a4,.ref a5])/\
 H a1=some (.lst (d1.map V.ref))/\H a3=some (.lst (d3.map V.ref))/\H a5=some (.lst (st.map V.int))/\Rws H d1 u/\Rws H d3 v/\H G=some (.lst (g.map V.int))/\u.length<=40/\v.length<=40/\(∀r∈u,r.length<=40)/\(∀r∈v,r.length<=40)/\g.length<=40/\st.length<=40/\SmL u/\SmL v/\(∀x∈g,x.natAbs<=2 ^ 900)/\(∀x∈st,0<x/\x.natAbs<2 ^ 9000)/\LJ H Q u v st g
def md:zo Du ["paper","goal"] (zf E3):=⟨rfl,rfl,rfl,δ,rfl,δ,δ⟩
def QT{f fr fi:Addr}{fd ca fV:FuncData}(F:Fun K "solved_by" "solved_by" E3 f fd)(bl:mg "len"=none)(bz:mg "zip"=none)(be:mg "enumerate"=none)(w4:mg "list"=none)(Fr:Fun K "row_by" "row_by" wt fr ca)(br:Binds K ca ["row","columns"] [])(mr:mg "row_by"=some (.ref fr))(Gr:al P w K mg base aG 2 fr ca ["row","columns"] (Km K))(Fi:Fun K "is_so_many_times" "is_so_many_times" EZ fi fV)(bi:Binds K fV ["total","number"] [])(mi:mg "is_so_many_times"=some (.ref fi))(Gi:al P w K mg base aG 1 fi fV ["total","number"] LF):al P w K mg base aG 3 f fd ["paper","goal"] LK:=by
 refine F.ok md (fun vs H Q E h=>?_) (fun ah A outer s H vs Q E hr h=>?_)
 ·obtain⟨p,G,a1,a2,a3,a4,a5,d1,d3,u,v,st,g,rfl,_⟩:=h;rfl
 ·obtain⟨p,G,a1,a2,a3,a4,a5,d1,d3,u,v,st,g,rfl,hp,h1,h3,N,r1,r3,hG,zu,zv,wu,wv,zg,Cs,su,sv,sg,ss,dR⟩:=h
  have hr1:Room 1 _:=hr.mono ξ;refine⟨_,zc (zp (i:=2) md.nd rfl (Or.inl rfl) (zx zK (pv 0) zd (fun _ _=>rfl)))
   (zc (zp (i:=3) md.nd rfl (Or.inl rfl) (zx zK (pv 0) zd (fun _ _=>rfl)))
   (zc (zp (i:=4) md.nd rfl (Or.inl rfl) (ze Gr hr rfl mr Fr.kp br .nil ag (za (pv 1) (za (pv 2) zb))))
   (zc (eX A4 rfl (Gn rfl be Hw (za (pv 4) zb)) (gX rfl (zH (zk (i:=5) md.nd rfl (Or.inl rfl)) (zH (zk (i:=6) md.nd rfl (Or.inl rfl)) gW)))
    (zc (zp (i:=7) md.nd rfl (Or.inl rfl) (p4 (zy DK (pv 5) (zn zm rfl bl dt (za (pv 3) zb)) (ap _)) (zx zt (pv 3) (pv 5) (fun _ _=>rfl)) zd))
    (zh (cF (uz (pV (ze Gi hr1 rfl mi Fi.kp bi .nil ag (za (pv 6) (za (pv 7) zb))))) (zh (zq (hJ (za Fn (za (i6 zV rfl w4 ma (za (zx zt (pv 2) (pv 5) (fun _ _=>rfl)) zb)) (za (pv 7) zb)))))) zR))))
   (zc (i' (i:=8) md.nd rfl (Or.inl rfl) Du ["total","step"] [none,none] (k7 rfl bz jK (za (pv 4) (za (pv 3) zb)))
    (fun cl C s₀ H₀ ex=>gX rfl (zH (zk (i:=0) (a9 ["total","step"]) rfl (Or.inl rfl)) (zH (zk (i:=1) (a9 ["total","step"]) rfl (Or.inl rfl)) gW))) (fun cl C s₀ H₀ ex=>zC)
    (fun cl C s₀ H₀ ex=>zA xk (pv 0) (pv 1)) (te:=cn (rI D4 fun i j=>.int (i / j)) (ar 0) (ar 1)) (hfr:=bC δ) (g:=b6 K 2 (cf (zT 0) (cf (zT 1) b3))))
   (zh (zq (hJ (za Fn (za (ze Gr hr rfl mr Fr.kp br .nil ag (za (pv 8) (za (zx zK (pv 0) zd (fun _ _=>rfl)) zb))) zb))))))))),?_⟩
  have gl:∀x∈g,x.natAbs<big:=fun x hx=>pa (Ex (sg x hx) ξ);have rJ:∀r∈u,(dot g r).natAbs<big:=fun r hr=>by
   rw[kF];exact Qm (su r hr) sg zg
  refine⟨_,rfl,p,_,_,_,rfl,rfl,SqT.of hp,zj (j:=0) rfl,_,rfl,p,_,_,_,rfl,rfl,SqT.of hp,zj (j:=4) rfl,?_⟩;refine⟨_,rfl,_,rfl,G,a1,g,d1,u,rfl,hG,h1,r1,ω,fun r hr=>⟨by have:=wu r hr;(first|lia|omega),fun x hx y hy=>oj (gl x hx) (pa (su r hr y hy))⟩,fun S H1 s1 hS L=>?_⟩;have lS:(u.map (dot g)).length=u.length:=Ab ..;refine⟨_,rfl,S,rfl,⟨_,SqL.of L⟩,Nt (K:=K) (a:=S) (xs:=(u.map (dot g)).map V.int) (fun i σ H2=>∃(X Y M:Option V),σ=[some (.ref p),some (.ref G),some (.ref a1),some (.ref a5),some (.ref S),X,Y,M,none]/\Same H1 H2/\∀k,k<i->ia (dot g (rowAt u k)) (vc st k)=true)
   ⟨none,none,none,rfl,Same.refl _,fun k hk=>absurd hk (Nat.not_lt_zero _)⟩ (fun i σ H2 _ ⟨_,_,_,_,sm,_⟩=>SqL.of (sm _ _ L)) ?_ ?_⟩
  ·rintro i x q σ H2 hx ⟨X,Y,M,rfl,sm,all⟩ hq
   obtain⟨t,et,rfl⟩:=fh hx;have hi:i<u.length:=by rw[<-lS];exact(List.getElem?_eq_some_iff.mp et).1
   have et2:t=dot g (rowAt u i):=by
    rw[Aj,Aa hi] at et;rw[zw (Aa hi)];exact(AY et).symm
   have I:Same H1 (upd H2 q (.tup [.int i,.int t])):=sm.then (sm.free hq);generalize hH3:upd H2 q (.tup [.int i,.int t])=J at I;have wM:J q=some (.tup [.int i,.int t]):=by rw[<-hH3];exact af
   have l:=s1.trans I;refine⟨q,_,rfl,SqT.of wM,rfl,_,_,rfl,_,_,rfl,rfl,?_⟩;have Bw:∀(Z:VK),Z (.int (vc st i)) J->(if decide ((i:Int)<(((st.map V.int).length:Nat):Int))=true then cn (iA K) (ar 3) (ar 5) [some (.ref p),some (.ref G),some (.ref a1),some (.ref a5),some (.ref S),some (.int i),some (.int t),M,none] J Z else Z (.int 0) J):=fun Z O=>by
    rw[Ab]
    by_cases c:i<st.length
    ·rw[decide_eq_true (show(i:Int)<((st.length:Nat):Int) from ω)]
     exact aV ⟨_,rfl,_,rfl,a5,_,_,_,rfl,rfl,SqL.of (l _ _ N),zj (fF c),O⟩
    ·rw[decide_eq_false (show ¬(i:Int)<((st.length:Nat):Int) from ω)]
     rw[eL ω] at O;exact aP O
   refine⟨_,rfl,_,rfl,a5,_,rfl,.inl (SqL.of (l _ _ N)),_,_,rfl,rfl,_,rfl,Bw _ ?_⟩;have nn:0<=vc st i:=by
    by_cases c:i<st.length
    ·rw[iK c];exact Int.le_of_lt (ss _ (Ao c)).1
    ·rw[eL ω];exact Int.le_refl _
   refine⟨_,rfl,_,rfl,t,vc st i,rfl,nn,_,rfl,?_⟩;rw[et2];cases c:ia (dot g (rowAt u i)) (vc st i) with
   |true=>
    refine aP ⟨_,_,_,rfl,I,fun k hk=>?_⟩
    by_cases e:k=i
    ·rw[e];exact c
    ·exact all k ω
   |false=>
    have ld:=r1.len;obtain⟨d,ed⟩:∃d,d1[i]?=some d:=⟨_,Aa (show i<d1.length from ω)⟩;obtain⟨rn,er,rK⟩:=r1.get ed;refine aV ⟨_,rfl,_,rfl,a1,_,_,_,rfl,rfl,SqL.of (l _ _ h1),zj (v:=V.ref d) (by rw[Aj,ed];rfl),d,_,rfl,.inl (SqL.of (l _ _ rK)),fun c1 T=>⟨_,rfl,zE (by simp),fun z o=>?_⟩⟩;have e1:rowAt u i=rn:=zw er;refine(dR _ z c1 (l.trans ((Same.new T).trans (Same.new o))) (l.free ((Same.new T).free o)) (l.free T)).1 i hi af ?_ c;rw[am (fun e:c1=z=>by rw[<-e,af] at o;cases o),af,e1]
  ·rintro σ H2 ⟨X,Y,M,rfl,sm,all⟩
   rw[Ab,lS] at all;have c8:=s1.trans sm;refine⟨_,rfl,_,rfl,S,a5,rfl,⟨_,SqL.of (sm _ _ L)⟩,⟨_,SqL.of (c8 _ _ N)⟩,fun D hD=>?_⟩;refine zB (xo (f:=fun a b=>a / b) (fun a b H' R ha hb U=>⟨_,rfl,_,rfl,_,_,rfl,rfl,⟨(ss b hb).1,(ss b hb).2⟩,U⟩) (sm _ _ L) (c8 _ _ N) ω hD fun J I W=>?_);have l:=c8.trans I;refine⟨_,rfl,_,rfl,p,_,_,_,rfl,rfl,SqT.of (l _ _ hp),zj (j:=2) rfl,D,a3,_,d3,v,rfl,W,l _ _ h3,r3.same l,ω,fun r hr=>⟨by have:=wv r hr;(first|lia|omega),fun x hx y hy=>oj ?_ (pa (sv r hr y hy))⟩,fun R H4 s4 U pz=>⟨zE (by simp),fun z o=>?_⟩⟩
   ·obtain⟨i,hi,rfl⟩:=AN hx
    rw[A0];refine At GR ?_;rw[AW];exact rJ _ (Ao _)
   ·refine(dR _ z R (l.trans (s4.trans (Same.new o))) (l.free (s4.free o)) (l.free U)).2 af ?_ all
    rw[am (fun e:R=z=>by rw[<-e,pz] at o;cases o)];exact pz
def Ii:Sp:=fun vs H Q _=>∃(L G:Addr)(rs:List Addr)(tb:Ξ)(g:List Int)(N n:Nat)(m:cx),vs=[.ref L,.ref G]/\H L=some (.lst (rs.map V.ref))/\Rws H rs tb/\bW tb=true/\lI N n m tb.length (wid tb) tb/\H G=some (.lst (g.map V.int))/\g.length=tb.length/\(∀x∈g,x.natAbs<=2 ^ 900)/\
 ∀u ub v vb st,Pap tb.length (wid tb) (fn tb) u ub v vb st->LJ H Q u v st g
def QW:zo ["table","goal"] ["table","goal"] (zf E4):=⟨rfl,rfl,rfl,δ,rfl,δ,δ⟩
def QX{f z C D I:Addr}{fd J M O S:FuncData}(F:Fun K "solved" "solved" E4 f fd)(Fm:Fun K "must_have_goal" "must_have_goal" E1 z J)(bm:Binds K J ["table","goal"] [])(mm:mg "must_have_goal"=some (.ref z))(Gm:al P w K mg base aG 4 z J ["table","goal"] (LG K))(Fb:Fun K "solved_by" "solved_by" E3 C M)(bb:Binds K M ["paper","goal"] [])(mb:mg "solved_by"=some (.ref C))(Gb:al P w K mg base aG 3 C M ["paper","goal"] LK)(Fp:Fun K "paper_of" "paper_of" CV D O)(bp:Binds K O ["table","width"] [])(mp:mg "paper_of"=some (.ref D))(Gp:al P w K mg base aG 6 D O ["table","width"] HR)(Fw:Fun K "width_of" "width_of" k5 I S)(bw:Binds K S ["table"] [])(mw:mg "width_of"=some (.ref I))(Gw:al P w K mg base aG 1 I S ["table"] (nD K)):al P w K mg base aG 7 f fd ["table","goal"] Ii:=by
 refine F.ok QW (fun vs H Q E h=>?_) (fun ah A outer s H vs Q E hr h=>?_)
 ·obtain⟨L,G,rs,tb,g,N,n,m,rfl,_⟩:=h;rfl
 ·obtain⟨L,G,rs,tb,g,N,n,m,rfl,e,i,it,ok,T,Y,Z,dR⟩:=h
  have l:Room 4 _:=hr.mono ξ;have o:Room 3 _:=hr.mono ξ;have y:Room 1 _:=hr.mono ξ;obtain⟨j,U,t3⟩:=qM it;refine⟨_,zc (kT (ze Gm l rfl mm Fm.kp bm .nil ag (za (pv 0) (za (pv 1) zb)))) (zh (zq (ze Gb o rfl mb Fb.kp bb .nil ag (za (ze Gp hr rfl mp Fp.kp bp .nil ag (za (pv 0) (za (ze Gw y rfl mw Fw.kp bw .nil ag (za (pv 0) zb)) zb))) (za (pv 1) zb))))),?_⟩;refine⟨_,rfl,_,rfl,L,G,rs,tb,g,rfl,e,i,it,T,Y,fun H1 b=>⟨_,rfl,_,rfl,L,rs,tb,rfl,SqL.of (b _ _ e),i.same b,L,rs,tb,N,n,m,_,_,rfl,b _ _ e,i.same b,ok,?_⟩⟩;intro H2 p u ub v vb st a1 a2 a3 a4 a5 d1 d2 d3 d4 W a pp;have d:=b.trans W;refine⟨_,rfl,p,G,a1,a2,a3,a4,a5,d1,d3,u,v,st,g,rfl,a.at_,a.n1.at_,a.n3.at_,a.n5,a.n1.rows,a.n3.rows,d _ _ T,by rw[pp.lu];exact j,by rw[pp.lv];exact U,fun r hr=>by rw[pp.wu r hr];exact j,fun r hr=>by rw[pp.wv r hr];exact U,ω,Ae pp.sk j,pp.su,pp.sv,Z,fun x hx=>⟨pp.sp x hx,pp.s9 x hx⟩,fun H' q c X hq hc=>?_⟩;exact dR u ub v vb st pp H' q c (d.trans X) (d.free hq) (d.free hc)
end
def QY:100000<low:=by
 have:=KG (a:=2 ^ 20) (b:=20) (Ad _) ξ;have e:(2:Nat) ^ 20=1048576:=ξ
 (first|lia|omega)
structure Sta(H:Hp)(p L G W:Addr)(rs:List Addr)(tb:Ξ)(g ws:List Int):Prop where
 bx:zS H p
 hL:H L=some (.lst (rs.map V.ref))
 hT:Rws H rs tb
 hG:H G=some (.lst (g.map V.int))
 hW:H W=some (.lst (ws.map V.int))
 nL:L≠W
 nG:G≠W
 nr:∀d∈rs,d≠W
 pL:L≠p
 pG:G≠p
 pW:W≠p
 pr:∀d∈rs,d≠p
section
variable{H H':Hp}{p L G W:Addr}{rs:List Addr}{tb:Ξ}{g ws:List Int}
def Sta.draw(h:Sta H p L G W rs tb g ws)(s:zZ p H H')(b:zS H' p):Sta H' p L G W rs tb g ws:=⟨b,s _ _ h.pL h.hL,h.hT.sameB s h.pr,s _ _ h.pG h.hG,s _ _ h.pW h.hW,h.nL,h.nG,h.nr,h.pL,h.pG,h.pW,h.pr⟩
def Sta.same(h:Sta H p L G W rs tb g ws)(s:Same H H'):Sta H' p L G W rs tb g ws:=h.draw (.of s) (h.bx.same s)
def Sta.set(h:Sta H p L G W rs tb g ws)(vs:List Int):Sta (L2.upd H W (.lst (vs.map V.int))) p L G W rs tb g vs:=
 ⟨h.bx.upd h.pW,by rw[am h.nL];exact h.hL,Rws.upd h.hT h.nr,by rw[am h.nG];exact h.hG,af,h.nL,h.nG,h.nr,h.pL,h.pG,h.pW,h.pr⟩
def Sta.other{c:Addr}{vs:List Int}(h:Sta H p L G W rs tb g ws)(s:zZ p H H')(b:zS H' p)(a:H c=none)(hv:H' c=some (.lst (vs.map V.int))):Sta H' p L G c rs tb g vs:=by
 have h2:=h.draw s b;refine⟨b,h2.hL,h2.hT,h2.hG,hv,fun e=>?_,fun e=>?_,fun d hd e=>Rws.there h.hT d hd (by rw[e];exact a),h.pL,h.pG,eN h.bx a,h.pr⟩
 ·rw[<-e,h.hL] at a;cases a
 ·rw[<-e,h.hG] at a;cases a
end
section
variable{k w:Nat}{A:Nat->Tb.Vc}{u ub v vb:Ξ}{st:List Int}
def E5{n i:Nat}{x:Tb.Vc}(h:i<n):Tb.dot n (fun l=>Tb.dl i l) x=x i:=Tb.oq h
def Pap.uinj(p:Pap k w A u ub v vb st){f g:Tb.Vc}(h:∀i,i<k->Tb.dot k (fn u i) f=Tb.dot k (fn u i) g):∀i,i<k->f i=g i:=by
 have e:∀(f:Tb.Vc) i,i<k->f i=Tb.dot k (fn ub i) (fun s=>Tb.dot k (fn u s) f):=fun f i hi=>by
  rw[<-Tb.gM,Tb.zF (a':=fun l=>Tb.dl i l) (fun l a=>p.u2 i l hi a),E5 hi]
 intro i hi;rw[e f i hi,e g i hi];exact Tb.zi fun s b=>h s b
def Pap.bv(p:Pap k w A u ub v vb st){z x:Tb.Vc}(hx:∀t,t<w->x t=Tb.dot w (fn v t) z){i:Nat}(hi:i<k):Tb.dot k (fn u i) (fun s=>Tb.dot w (A s) x)=Tb.dot w z (fun j=>if i=j then vc st i else 0):=by
 have e1:Tb.dot k (fn u i) (fun s=>Tb.dot w (A s) x)=Tb.aM k w A (fn u i) (fun t=>Tb.dot w z (fun l=>fn v t l)):=by
  unfold Tb.aM;exact Tb.zi fun s _=>Tb.zi fun t a=>by rw[hx t a,Tb.zI]
 rw[e1,Tb.EC (V:=fun l t=>fn v t l)];exact Tb.zi fun j b=>p.pr' hi b
def Pap.ask(p:Pap k w A u ub v vb st){x g:Tb.Vc}(h:∀i,i<k->Tb.dot w (A i) x=g i):∀i,i<k->vc st i ∣ Tb.dot k (fn u i) g:=fun i hi=>by
 have e:Tb.dot k (fn u i) g=Tb.dot k (fn u i) (fun s=>Tb.dot w (A s) x):=Tb.zi fun s b=>(h s b).symm;rw[e,p.bv (z:=fun s=>Tb.dot w (fn vb s) x) (fun t a=>?_) hi]
 ·refine Tb.KO fun t _=>?_
  by_cases c:i=t
  ·rw[if_pos c];exact Int.dvd_refl _
  ·rw[if_neg c];exact Int.dvd_zero _
 ·rw[<-Tb.gM,Tb.zF (a':=fun l=>Tb.dl t l) (fun l d=>p.v1 t l a d),E5 a]
def Pap.sol(p:Pap k w A u ub v vb st){g:Tb.Vc}(h:∀i,i<k->vc st i ∣ Tb.dot k (fn u i) g):∀i,i<k->Tb.dot w (A i) (fun t=>Tb.dot w (fn v t) (fun s=>Tb.dot k (fn u s) g / vc st s))=g i:=by
 refine p.uinj fun i hi=>?_;rw[p.bv (z:=fun s=>Tb.dot k (fn u s) g / vc st s) (fun t _=>rfl) hi,Tb.zI]
 by_cases c:i<st.length
 ·rw[Tb.HE (Ay c p.sw),A5]
  exact Int.ediv_mul_cancel (h i hi)
 ·have e:vc st i=0:=eL ω
  have:=h i hi;rw[e] at this;rw[Int.zero_dvd.mp this];refine Tb.zL fun t _=>?_;rw[e];split<;>rfl
def Pap.leaf(p:Pap k w A u ub v vb st){j:Nat}(a:j<w)(hr:st.length<=j):∀i,i<k->Tb.dot w (A i) (fun t=>fn v t j)=0:=by
 refine p.uinj (g:=fun _=>0) fun i hi=>?_;have e:=p.pr' hi a;unfold Tb.aM at e;rw[e,Tb.zI,Tb.zL fun _ _=>rfl]
 by_cases c:i=j
 ·rw[if_pos c,c];exact eL hr
 ·rw[if_neg c]
end
def ud(tb:Ξ)(y:List Int):List Int:=tb.map (dot y)
def Solv(tb:Ξ)(g:List Int):Prop:=∃x:Tb.Vc,∀i,i<tb.length->Tb.dot (wid tb) (fn tb i) x=vc g i
def LN{b:Type}{l:List b}{f:b->Int}{i:Nat}{a:b}(h:l[i]?=some a):vc (l.map f) i=f a:=by
 unfold vc;rw[Ac,Aj,h];rfl
def QZ{tb:Ξ}{y:List Int}(hw:∀r∈tb,r.length=wid tb)(hy:y.length=wid tb){i:Nat}(hi:i<tb.length):vc (ud tb y) i=Tb.dot (wid tb) (fn tb i) (vc y):=by
 unfold ud;rw[LN (Aa hi)];have a:=hw _ (Ao hi);rw[kF,t_ ω,a];unfold fn;rw[zw (Aa hi)]
def Solv.mix{tb:Ξ}{g o h:List Int}{c:Int}(hg:Solv tb g)(a:Solv tb o)(e:∀i,i<tb.length->vc h i=c*vc g i+vc o i):Solv tb h:=by
 obtain⟨x,hx⟩:=hg;obtain⟨y,hy⟩:=a;refine⟨fun t=>c*x t+y t,fun i hi=>?_⟩;rw[Tb.je,hx i hi,hy i hi,e i hi]
section
variable{tb u ub v vb:Ξ}{st g:List Int}
def Ij(p:Pap tb.length (wid tb) (fn tb) u ub v vb st)(b:g.length=tb.length){i:Nat}(hi:i<tb.length):dot g (rowAt u i)=Tb.dot tb.length (fn u i) (vc g):=by
 have a:=p.wu _ (zG (show i<u.length by rw[p.lu];exact hi));rw[kF,t_ ω,a]
 rfl
def LO{t n:Int}:ia t n=true↔n ∣ t:=by
 unfold ia;rw[decide_eq_true_iff];exact⟨Int.dvd_of_emod_eq_zero,Int.emod_eq_zero_of_dvd⟩
def Pap.yes(p:Pap tb.length (wid tb) (fn tb) u ub v vb st)(a:g.length=tb.length)(h:∀k,k<u.length->ia (dot g (rowAt u k)) (vc st k)=true):Solv tb g:=
 ⟨_,p.sol fun i hi=>by rw[<-Ij p a hi];exact LO.mp (h i (by rw[p.lu];exact hi))⟩
def Pap.no(p:Pap tb.length (wid tb) (fn tb) u ub v vb st)(b:g.length=tb.length){k:Nat}(hk:k<u.length)(h:ia (dot g (rowAt u k)) (vc st k)=false):¬Solv tb g:=fun⟨x,hx⟩=>by
 have a:k<tb.length:=by rw[<-p.lu];exact hk
 have:=p.ask hx k a;rw[<-Ij p b a,<-LO,h] at this;cases this
def Pap.worth(p:Pap tb.length (wid tb) (fn tb) u ub v vb st)(hw:∀r∈tb,r.length=wid tb){k:Nat}(hk:k<u.length){y:List Int}(hy:y.length=wid tb):vc st k ∣ dot (rowAt u k) (ud tb y):=by
 have a:k<tb.length:=by rw[<-p.lu];exact hk
 have b:(ud tb y).length=tb.length:=Ab ..;have:=p.ask (x:=vc y) (g:=vc (ud tb y)) (fun i hi=>(QZ hw hy hi).symm) k a
 rwa [<-Ij p b a,kF] at this
end
abbrev E6:Stmt:=top 44
abbrev E7:Stmt:=top 45
def Rws.drop{H:Hp}{ds:List Addr}{tb:Ξ}(h:Rws H ds tb):∀n:Nat,Rws H (ds.drop n) (tb.drop n):=by
 induction h with
 |nil=>intro n;rw[List.drop_nil,List.drop_nil];exact .nil
 |cons r t ih=>
  intro n;cases n with
  |zero=>exact .cons r t
  |succ n=>exact ih n
section
variable{P:Program}{w:World}{K:Ah}{mg:Str->Option Value}{base:Heap}
def LP(H:Hp)(Q:VK)(v:Ξ)(st:List Int):Prop:=∀D H' ds,Same H H'->H D=none->H' D=some (.lst (ds.map V.ref))->Rws H' ds ((turn v).drop st.length)->ds.Nodup->(∀d∈ds,H d=none/\d≠D)->Q (.ref D) H'
def LQ(K:Ah):Sp:=fun vs H Q _=>∃(p a1 a2 a3 a4 a5:Addr)(d3:List Addr)(v:Ξ)(st:List Int),vs=[.ref p]/\H p=some (.tup [.ref a1,.ref a2,.ref a3,.ref a4,.ref a5])/\H a3=some (.lst (d3.map V.ref))/\H a5=some (.lst (st.map V.int))/\Rws H d3 v/\bW v=true/\LP H Q v st
def Q0:zo ["paper"] ["paper"] (zf E7):=⟨rfl,rfl,rfl,δ,rfl,δ,δ⟩
def Q1{f b:Addr}{fd c:FuncData}(F:Fun K "leaves_of" "leaves_of" E7 f fd)(bl:mg "len"=none)(Fc:Fun K "columns_of" "columns_of" nH b c)(z:Binds K c ["table"] [])(C:mg "columns_of"=some (.ref b))(G:al P w K mg base aG 3 b c ["table"] (wR K)):al P w K mg base aG 4 f fd ["paper"] (LQ K):=by
 refine F.ok Q0 (fun vs H Q E h=>?_) (fun I A outer s H vs Q E hr h=>?_)
 ·obtain⟨p,a1,a2,a3,a4,a5,d3,v,st,rfl,_⟩:=h;rfl
 ·obtain⟨p,a1,a2,a3,a4,a5,d3,v,st,rfl,hp,r,u,x,y,k⟩:=h
  refine⟨_,zh (zq (m7 nf (ze G hr rfl C Fc.kp z .nil ag (za (zx zK (pv 0) zd (fun _ _=>rfl)) zb)) (m6 (zn zm rfl bl dt (za (zx zK (pv 0) zd (fun _ _=>rfl)) zb))) mU)),?_⟩;refine⟨_,rfl,p,_,_,_,rfl,rfl,SqT.of hp,zj (j:=2) rfl,a3,d3,v,rfl,SqL.of r,x,y,fun D H1 ds a J i g l o=>?_⟩;refine⟨_,rfl,p,_,_,_,rfl,rfl,SqT.of (a _ _ hp),zj (j:=4) rfl,a5,_,rfl,.inl (SqL.of (a _ _ u)),_,rfl,D,_,rfl,SqL.of i,fun q hq=>?_⟩;rw[Ab,gD,<-List.map_drop];exact k q _ (ds.drop st.length) (a.trans (Same.new hq)) (a.free hq) af ((g.drop st.length).same (Same.new hq)) (l.sublist (List.drop_sublist _ _)) fun d hd=>⟨(o d (List.mem_of_mem_drop hd)).1,fun e=>Rws.there g d (List.mem_of_mem_drop hd) (by rw[e];exact hq)⟩
def LR(K:Ah):Sp:=fun vs H Q _=>∃(L:Addr)(rs:List Addr)(tb:Ξ)(N n:Nat)(m:cx),vs=[.ref L]/\H L=some (.lst (rs.map V.ref))/\Rws H rs tb/\bW tb=true/\lI N n m tb.length (wid tb) tb/\∀u ub v vb st,Pap tb.length (wid tb) (fn tb) u ub v vb st->LP H Q v st
def Q2:zo ["table"] ["table"] (zf E6):=⟨rfl,rfl,rfl,δ,rfl,δ,δ⟩
def Q3{f e fs:Addr}{fd g i:FuncData}(F:Fun K "leaves" "leaves" E6 f fd)(Fl:Fun K "leaves_of" "leaves_of" E7 e g)(bl:Binds K g ["paper"] [])(G:mg "leaves_of"=some (.ref e))(Gl:al P w K mg base aG 4 e g ["paper"] (LQ K))(Fs:Fun K "stepped" "stepped" C3 fs i)(bs:Binds K i ["table"] [])(ms:mg "stepped"=some (.ref fs))(I:al P w K mg base aG 7 fs i ["table"] (HX K)):al P w K mg base aG 8 f fd ["table"] (LR K):=by
 refine F.ok Q2 (fun vs H Q E h=>?_) (fun J A outer s H vs Q E hr h=>?_)
 ·obtain⟨L,rs,tb,N,n,m,rfl,_⟩:=h;rfl
 ·obtain⟨L,rs,tb,N,n,m,rfl,y,z,it,ok,k⟩:=h
  have c:Room 4 _:=hr.mono ξ;obtain⟨M,C,O⟩:=qM it;refine⟨_,zh (zq (ze Gl c rfl G Fl.kp bl .nil ag (za (ze I hr rfl ms Fs.kp bs .nil ag (za (pv 0) zb)) zb))),?_⟩;refine⟨_,rfl,L,rs,tb,N,n,m,rfl,y,z,it,ok,?_⟩;intro H1 p u ub v vb st a1 a2 a3 a4 a5 d1 d2 d3 d4 b a pp;refine⟨p,a1,a2,a3,a4,a5,d3,v,st,rfl,a.at_,a.n3.at_,a.n5,a.n3.rows,(HQ pp.lv pp.wv C).1,fun D H' ds l o q r x j=>?_⟩;exact k u ub v vb st pp D H' ds (b.trans l) (b.free o) q r x fun d hd=>⟨b.free (j d hd).1,(j d hd).2⟩
def kd(b:Bool):Str:=if b then "yes" else "no"
def Ans(H H':Hp)(r:Addr)(tb:Ξ)(g:List Int)(b:Bool):Prop:=(b=true↔Solv tb g)/\H r=none/\∃rest:List V,H' r=some (.tup (.str (kd b)::rest))/\
 (b=false->∃c ws n,rest=[.ref c,.int n]/\H c=none/\H' c=some (.lst (ws.map V.int))/\ws.length=tb.length/\(∀x∈ws,x.natAbs<low)/\0<=n/\∀y:List Int,y.length=wid tb->n ∣ dot ws (ud tb y))
def Ans.same{H H' H2:Hp}{r:Addr}{tb:Ξ}{g:List Int}{b:Bool}(h:Ans H H' r tb g b)(s:Same H' H2):Ans H H2 r tb g b:=by
 obtain⟨h1,h2,rest,a,d⟩:=h;refine⟨h1,h2,rest,s _ _ a,fun e=>?_⟩;obtain⟨c,ws,n,e1,e2,e3,f⟩:=d e;exact⟨c,ws,n,e1,e2,s _ _ e3,f⟩
def Ans.draw{H H' H2:Hp}{p r:Addr}{tb:Ξ}{g:List Int}{b:Bool}(h:Ans H H' r tb g b)(hb:zS H p)(s:zZ p H' H2):Ans H H2 r tb g b:=by
 obtain⟨h1,h2,rest,a,d⟩:=h;refine⟨h1,h2,rest,s _ _ (eN hb h2) a,fun e=>?_⟩;obtain⟨c,ws,n,e1,e2,e3,f⟩:=d e;exact⟨c,ws,n,e1,e2,s _ _ (eN hb e2) e3,f⟩
def Ans.old{H0 H H':Hp}{r:Addr}{tb:Ξ}{g:List Int}{b:Bool}(h:Ans H H' r tb g b)(s:Same H0 H):Ans H0 H' r tb g b:=by
 obtain⟨h1,h2,rest,a,d⟩:=h;refine⟨h1,s.free h2,rest,a,fun e=>?_⟩;obtain⟨c,ws,n,e1,e2,e3,f⟩:=d e;exact⟨c,ws,n,e1,s.free e2,e3,f⟩
def Q4{H:Hp}{Q:VK}{E:XK}{L G:Addr}{rs:List Addr}{tb:Ξ}{g:List Int}(e:H L=some (.lst (rs.map V.ref)))(f:Rws H rs tb)(it:bW tb=true)(ok:jt tb)(h:H G=some (.lst (g.map V.int)))(d:g.length=tb.length)(i:∀x∈g,x.natAbs<=2 ^ 900)(k:∀H' r b,Same H H'->Ans H H' r tb g b->Q (.ref r) H'):Ii [.ref L,.ref G] H Q E:=by
 obtain⟨N,n,m,ok⟩:=ok;refine⟨L,G,rs,tb,g,N,n,m,rfl,e,f,it,ok,h,d,i,fun u ub v vb st pp H' r c s hr hc=>⟨fun j a e1 e2 e3=>?_,fun e1 e2 e3=>?_⟩⟩
 ·refine k H' r false s ⟨⟨(fun z=>by cases z),fun z=>absurd z (pp.no d a e3)⟩,hr,_,e1,fun _=>⟨c,rowAt u j,vc st j,rfl,hc,e2,by rw[pp.wu _ (zG a)],pp.su _ (zG a),?_,fun y hy=>pp.worth ok.wd a hy⟩⟩
  by_cases z:j<st.length
  ·rw[iK z];exact Int.le_of_lt (pp.sp _ (Ao z))
  ·rw[eL ω];exact Int.le_refl _
 ·exact k H' r true s ⟨⟨fun _=>pp.yes d e3,fun _=>rfl⟩,hr,_,e1,(fun z=>by cases z)⟩
end
def lvT(v:Ξ)(st:List Int):Ξ:=(turn v).drop st.length
def LU{t j:Nat}{v:Ξ}(h:v.length<=t):fn v t j=0:=by unfold fn;rw[lE h];rfl
section
variable{tb u ub v vb:Ξ}{st:List Int}
def LV(p:Pap tb.length (wid tb) (fn tb) u ub v vb st):wid v=wid tb:=gU p.wv fun h=>by rw[p.lv] at h;exact h
def pF(p:Pap tb.length (wid tb) (fn tb) u ub v vb st):(lvT v st).length=wid tb-st.length:=by unfold lvT;rw[List.length_drop,lL,LV p]
def Q5(p:Pap tb.length (wid tb) (fn tb) u ub v vb st){a:Nat}(b:a<wid tb-st.length):(lvT v st)[a]?=some (colAt v (st.length+a)):=by
 unfold lvT turn;rw[List.getElem?_drop,Aj,AH (by rw[LV p];(first|lia|omega))];rfl
def fM(p:Pap tb.length (wid tb) (fn tb) u ub v vb st):∀r∈lvT v st,r.length=wid tb:=fun r hr=>by
 have:=Da r (List.mem_of_mem_drop hr);rw[this,p.lv]
def pM(p:Pap tb.length (wid tb) (fn tb) u ub v vb st){a:Nat}(b:a<wid tb-st.length)(t:Nat):fn (lvT v st) a t=fn v t (st.length+a):=by
 unfold fn;rw[zw (Q5 p b)];unfold colAt
 by_cases c:t<v.length
 ·rw[LN (Aa c),zw (Aa c)];rfl
 ·rw[eL (by rw[Ab];(first|lia|omega)),lE ω];rfl
def Pap.span(p:Pap tb.length (wid tb) (fn tb) u ub v vb st){x:Tb.Vc}(hx:∀s,s<tb.length->Tb.dot (wid tb) (fn tb s) x=0):∃d:Tb.Vc,∀t,t<wid tb->x t=Tb.dot (wid tb-st.length) d (fun a=>fn v t (st.length+a)):=by
 have r:=p.sw;have ex:∀t,t<wid tb->x t=Tb.dot (wid tb) (fn v t) (fun s=>Tb.dot (wid tb) (fn vb s) x):=fun t c=>by
  rw[<-Tb.gM,Tb.zF (a':=fun l=>Tb.dl t l) (fun l f=>p.v1 t l c f),E5 c]
 have o:∀i,i<st.length->Tb.dot (wid tb) (fn vb i) x=0:=fun i hi=>by
  have h:=p.bv (z:=fun s=>Tb.dot (wid tb) (fn vb s) x) ex (i:=i) (Ay hi p.sk);have q:Tb.dot tb.length (fn u i) (fun s=>Tb.dot (wid tb) (fn tb s) x)=0:=by
   rw[Tb.zI];exact Tb.zL fun s g=>hx s g
  rw[q,Tb.tQ (i:=i) ω fun j _ ne=>by show _*(if i=j then vc st i else 0)=0;rw[if_neg (Ne.symm ne),AX]] at h;simp only[if_pos] at h;rcases Int.mul_eq_zero.mp h.symm with e|e
  ·exact e
  ·rw[iK hi] at e
   have:=p.sp _ (Ao hi);(first|lia|omega)
 refine⟨fun a=>Tb.dot (wid tb) (fn vb (st.length+a)) x,fun t c=>?_⟩;rw[ex t c,Tb.zI];have e:wid tb=st.length+(wid tb-st.length):=ω
 have:=Tb.PQ (w1:=st.length) (w2:=wid tb-st.length) (a:=fun s=>Tb.dot (wid tb) (fn vb s) x) (b:=fn v t) o;rw[<-e] at this;exact this
def Pap.sur(p:Pap tb.length (wid tb) (fn tb) u ub v vb st)(y:Tb.Vc):∃c:Tb.Vc,∀s,s<wid tb-st.length->Tb.dot (wid tb) (fn (lvT v st) s) c=y s:=by
 refine⟨fun t=>Tb.dot (wid tb-st.length) y (fun a=>fn vb (st.length+a) t),fun s b=>?_⟩;rw[Tb.BY,Tb.zi (b':=fun a=>Tb.dl a s) fun a d=>?_,Tb.jX b];rw[Tb.zF (a':=fun t=>fn v t (st.length+s)) fun t _=>pM p b t,Tb.zI,p.v2 (st.length+a) (st.length+s) ω ω];unfold Tb.dl
 by_cases c:a=s
 ·rw[if_pos c,if_pos ω]
 ·rw[if_neg c,if_neg ω]
def xb(N n q:Nat):Nat:=(2+n+q)*N
def lp(N n q:Nat):cx:=⟨n+2*xb N n q,N,0,xb N n q⟩
def LW(p:Pap tb.length (wid tb) (fn tb) u ub v vb st){N n q:Nat}(G:Good N n (lp N n q))(H:Ent tb (2 ^ q))(o:wid tb<=N):lI N n (lp N n q) (lvT v st).length (wid tb) (lvT v st)/\Ent (lvT v st) (2 ^ (n+2*xb N n q)):=by
 have I:=p.sw;obtain⟨b,Q,K⟩:=p.kv;have e:∀a,a<wid tb-st.length->Q a<wid tb:=fun a d=>by
  refine AD fun c=>?_;have h:=K.kp a d;have h:0<fn v (Q a) (st.length+a):=h;rw[LU (by rw[p.lv];(first|lia|omega))] at h;exact absurd h ξ
 have r:(2*(wid tb+1)*2 ^ q) ^ wid tb<=2 ^ xb N n q:=by
  have h1:wid tb+1<=2 ^ (n+1):=by have:=G.Nn;have:=AF (n:=n);rw[Nat.pow_succ];(first|lia|omega)
  refine Ae (Bh (Tb.zr (Tb.zr (show 2<=2 ^ 1 from ξ) h1) (Ad _)) _) ?_;rw[<-Nat.pow_mul];refine Tb.pw (Ae (Al _ o) (Ak _ ω))
 have sm:=Tb.PY (k:=tb.length) (w:=wid tb) (n:=wid tb-st.length) (M:=2 ^ q) (A:=fn tb) (W:=fun a t=>fn v t (st.length+a)) (Q:=Q) AF (fun s u _ _=>H s u) (fun a d s C=>p.leaf ω ω s C) (fun x hx=>p.span hx) K.qs e K.kz K.kp K.kq;have g:=pF p;have pv:∀a,a<wid tb-st.length->(fn (lvT v st) a (Q a)).natAbs<=2 ^ xb N n q:=fun a d=>by rw[pM p d];exact Ae (sm a d).1 r
 have ent:Ent (lvT v st) (2 ^ (n+2*xb N n q)):=oE g fun a d t=>by
  rw[pM p d]
  by_cases c:t<wid tb
  ·refine Ae ((sm a d).2 t c) ?_
   refine Ae (Tb.zr (Ae (Nat.sub_le _ _) (Ae o G.Nn)) (Tb.zr r r)) (Tb.pw ?_);(first|lia|omega)
  ·rw[LU (by rw[p.lv];(first|lia|omega))];exact Ap _
 have F:(lvT v st).length<=N:=by rw[g];(first|lia|omega)
 refine⟨⟨G,rfl,fM p,ent,F,o,fun j z=>?_,.inr fun y=>?_⟩,ent⟩
 ·rw[g] at z
  have T:Tb.Tri (wid tb-st.length) 0 0 (2 ^ (n+2*xb N n q)) 1 (Tb.glue (wid tb) (fn (lvT v st)) Tb.un) Q:=by
   have f:∀a c,a<wid tb-st.length->c<wid tb->Tb.glue (wid tb) (fn (lvT v st)) Tb.un (0+a) c=fn v c (st.length+a):=fun a c d hc=>by rw[Nat.zero_add,Tb.zO hc,pM p d]
   refine⟨Ad _,Ap _,Ad _,K.qs,fun a _=>Ap _,(fun i hi=>absurd hi (Nat.not_lt_zero _)),(fun i j hi=>absurd hi (Nat.not_lt_zero _)),(fun i j hi=>absurd hi (Nat.not_lt_zero _)),(fun i j hi=>absurd hi (Nat.not_lt_zero _)),fun a u d D=>?_,fun a d=>?_,fun a c h1 h2=>?_,(fun i hi=>absurd hi (Nat.not_lt_zero _)),fun a d=>?_⟩
   ·have:=e a d
    rw[f a u d ω];exact K.kz a u d D
   ·rw[f a _ d (e a d)];exact K.kp a d
   ·have l:c<wid tb-st.length:=h2
    rw[f a _ ω (e c l),f c _ l (e c l)];exact K.kq a c h1 l
   ·rw[f a _ d (e a d),<-pM p d,Nat.one_mul]
    exact Ae (pv a d) (Tb.pw ω)
  have:=Tb.G2 T (B:=2 ^ xb N n q) (N:=N) (fun a d=>by
   rw[Nat.zero_add,Tb.zO (e a d)];exact pv a d) (fun m E=>by
   rw[Nat.le_zero.mp E];exact AF) ω (j:=j) z
  exact this
 ·rw[g];exact p.sur y
def full{k w:Nat}{A:Nat->Tb.Vc}{u ub v vb:Ξ}{st:List Int}(p:Pap k w A u ub v vb st)(sur:∀y:Tb.Vc,∃c:Tb.Vc,∀s,s<k->Tb.dot w (A s) c=y s):st.length=k:=by
 refine AD fun c=>?_;have hi:st.length<k:=by have:=p.sk;(first|lia|omega)
 obtain⟨x,hx⟩:=sur fun s=>fn ub s st.length;have ex:∀t,t<w->x t=Tb.dot w (fn v t) (fun s=>Tb.dot w (fn vb s) x):=fun t a=>by
  rw[<-Tb.gM,Tb.zF (a':=fun l=>Tb.dl t l) (fun l b=>p.v1 t l a b),E5 a]
 have h:=p.bv (z:=fun s=>Tb.dot w (fn vb s) x) ex hi;rw[Tb.zi (b':=fun s=>fn ub s st.length) fun s d=>hx s d,p.u1 _ _ hi hi,Tb.zI,Tb.zL fun j _=>by
  by_cases c:st.length=j
  ·rw[if_pos c];exact eL (Ad _)
  ·rw[if_neg c]] at h
 unfold Tb.dl at h;rw[if_pos rfl] at h;exact absurd h ξ
end
def kI:Good 20 5 (lp 20 5 1):=⟨ξ,ξ,ξ,ξ,ξ,ξ,ξ⟩
def pN:Good 6 3 (lp 6 3 10):=⟨ξ,ξ,ξ,ξ,ξ,ξ,ξ⟩
def iU:Good 5 3 (lp 5 3 6):=⟨ξ,ξ,ξ,ξ,ξ,ξ,ξ⟩
def fQ:Good 5 3 (lF 5 3 113):=⟨ξ,ξ,ξ,ξ,ξ,ξ,ξ⟩
abbrev E8:Stmt:=top 57
def LX:A8 "abs"=some (.builtin "abs"):=δ
section
variable{P:Program}{w:World}{K:Ah}{mg:Str->Option Value}{base:Heap}
def LY:Sp:=fun vs H Q _=>∃x y:Int,vs=[.int x,.int y]/\∀H',Same H H'->Q (.int (Int.gcd x y:Nat)) H'
def E9:zo ["one","other"] ["one","other"] (zf E8):=⟨rfl,rfl,rfl,δ,rfl,δ,δ⟩
def LZ{x:Int}:(if x<0 then -x else x)=(x.natAbs:Int):=by split<;>(first|lia|omega)
def Q6{f:Addr}{fd:FuncData}(F:Fun K "_law_common" "_law_common" E8 f fd)(o:mg "abs"=none):al P w K mg base aG 1 f fd ["one","other"] LY:=by
 refine F.ok E9 (fun vs H Q E h=>?_) (fun p A outer s H vs Q E hr h=>?_)
 ·obtain⟨x,y,rfl,_⟩:=h;rfl
 ·obtain⟨x,y,rfl,k⟩:=h
  refine⟨_,zc (zp (i:=0) E9.nd rfl (Or.inl rfl) (zn ID rfl o LX (za (pv 0) zb)))
   (zc (zp (i:=1) E9.nd rfl (Or.inl rfl) (zn ID rfl o LX (za (pv 1) zb)))
   (zc (uK A4 (zy jA (pv 1) zd (ap _)) (zh (Ms (i:=0) (j:=1) rfl E9.nd rfl rfl ξ rfl rfl (za (pv 1) (za (zA jz (pv 0) (pv 1)) zb)) rfl)))
   (zh (zq (pv 0))))),?_⟩
  refine⟨_,rfl,x,rfl,_,rfl,y,rfl,?_⟩;rw[LZ,LZ];refine⟨fun n σ d=>∃(a b:Nat),n=b/\σ=[some (.int (a:Int)),some (.int (b:Int))]/\Same H d/\Nat.gcd a b=Int.gcd x y,⟨_,x.natAbs,y.natAbs,rfl,rfl,.refl _,rfl⟩,?_⟩;rintro n σ d ⟨a,b,rfl,rfl,sm,g⟩;refine⟨_,rfl,_,_,rfl,rfl,_,rfl,?_⟩
  by_cases c:0<n
  ·rw[decide_eq_true (show(0:Int)<(n:Int) from ω)]
   refine aV ⟨fun ad H'=>∃l,l<n/\∃(a b:Nat),l=b/\ad=[some (.int (a:Int)),some (.int (b:Int))]/\Same H H'/\Nat.gcd a b=Int.gcd x y,fun ad H' h=>h,?_⟩;refine⟨_,rfl,_,rfl,_,rfl,_,_,rfl,rfl,(show(0:Int)<(n:Int) from ω),_,_,rfl,a%n,Nat.mod_lt _ c,n,a%n,rfl,rfl,sm,?_⟩;rw[Nat.gcd_comm,<-g,Nat.gcd_comm a n,Nat.gcd_rec n a]
  ·rw[decide_eq_false (show ¬(0:Int)<(n:Int) from ω)]
   have e:n=0:=ω
   subst e;rw[Nat.gcd_zero_right] at g;refine aP ⟨_,rfl,?_⟩;rw[g];exact k d sm
end
abbrev E_:Stmt:=top 12
abbrev Dv:Stmt:=top 58
abbrev E':Stmt:=top 59
def Q7:A8 "max"=some (.builtin "max"):=δ
def Ik:∀{fs y:List Int}{i:Nat}{a:Int}(h1:i<fs.length)(h2:i<y.length),dot (fs.set i a) y=dot fs y+(a-fs[i])*y[i]
 |[],_,i,_,h,_=>absurd h (Nat.not_lt_zero _)
 |_::_,[],i,_,_,h=>absurd h (Nat.not_lt_zero _)
 |b::fs,z::y,0,a,_,_=>by
  show a*z+dot fs y=b*z+dot fs y+(a-b)*z;rw[Int.sub_mul];(first|lia|omega)
 |b::fs,z::y,i+1,a,h1,h2=>by
  show b*z+dot (fs.set i a) y=b*z+dot fs y+(a-fs[i]'(Nat.lt_of_succ_lt_succ h1))*y[i]'(Nat.lt_of_succ_lt_succ h2);rw[Ik (Nat.lt_of_succ_lt_succ h1) (Nat.lt_of_succ_lt_succ h2)];(first|lia|omega)
def L0:∀(fs y:List Int),(∀x∈fs,x=0)->dot fs y=0
 |[],y,_=>by cases y<;>rfl
 |_::_,[],_=>rfl
 |b::fs,z::y,h=>by
  show b*z+dot fs y=0;rw[h b (.head _),L0 fs y fun x hx=>h x (.tail _ hx)];(first|lia|omega)
def Q8{g d:Int}{B:Nat}(h1:g.natAbs<=B)(h2:d.natAbs<=B):((Int.gcd g d:Nat):Int).natAbs<=B:=by
 rw[Int.natAbs_natCast]
 by_cases c:g=0
 ·rw[c,Int.gcd_zero_left];exact h2
 ·exact Ae (Nat.le_of_dvd ω (Nat.gcd_dvd_left g.natAbs d.natAbs)) h1
section
variable{P:Program}{w:World}{K:Ah}{mg:Str->Option Value}{base:Heap}
def L1{H2:Hp}{L D:Addr}{ns:List Int}{Q:VK}{f:Int->Int}{te:TE}{c:List (Option V)}(h:∀(x:Int)(H:Hp)(R:VK),x∈ns->R (.int (f x)) H->te (some (.int x)::c) H R)(i:H2 L=some (.lst (ns.map V.int)))(hz:ns.length<=1000)(d:H2 D=none)(k:∀a,Same H2 a->a D=some (.lst ((ns.map f).map V.int))->Q (.ref D) a):cP (eU K L) (zT 0) bJ te (none::c) H2 D Q:=by
 refine jB (xs:=ns.map V.int) (fun j σ ys a=>∃(v:Option V),σ=v::c/\Same H2 a/\a D=some (.lst ys)/\ys=((ns.take j).map f).map V.int) ⟨none,rfl,Same.new d,af,rfl⟩ ?_ ?_ ?_
 ·rintro j σ ys a ⟨v,rfl,sm,_⟩
  exact SqL.of (sm _ _ i)
 ·rintro j σ ys a x hx e hy ⟨v,rfl,sm,b,rfl⟩
  obtain⟨q,g,rfl⟩:=fh hx;refine cQ (h q a _ (Am g) (bK (by rw[Ab];exact zE ω) e hy b ⟨_,rfl,sm.then d,af,?_⟩));rw[Bp g,Aw,Aw]
  rfl
 ·rintro σ ys a ⟨v,rfl,sm,b,rfl⟩
  rw[Ab,Av (Ad _)] at b;exact k a sm b
def L3:Sp:=fun vs H Q _=>∃(L:Addr)(rs:List Addr)(tb:Ξ),vs=[.ref L]/\H L=some (.lst (rs.map V.ref))/\Rws H rs tb/\bW tb=true/\wx H Q (turn tb)
def Q9:zo ["table"] ["table"] (zf E_):=⟨rfl,rfl,rfl,δ,rfl,δ,δ⟩
def Q_{f b c:Addr}{fd e g:FuncData}(F:Fun K "turned_over" "turned_over" E_ f fd)(Fm:Fun K "must_be_table" "must_be_table" qD b e)(v:Binds K e ["table"] [])(x:mg "must_be_table"=some (.ref b))(C:al P w K mg base aG 3 b e ["table"] (EM K))(Fc:Fun K "columns_of" "columns_of" nH c g)(y:Binds K g ["table"] [])(z:mg "columns_of"=some (.ref c))(G:al P w K mg base aG 3 c g ["table"] (wR K)):al P w K mg base aG 4 f fd ["table"] L3:=by
 refine F.ok Q9 (fun vs H Q E h=>?_) (fun I A outer s H vs Q E hr h=>?_)
 ·obtain⟨L,rs,tb,rfl,_⟩:=h;rfl
 ·obtain⟨L,rs,tb,rfl,j,l,it,k⟩:=h
  refine⟨_,zc (kT (ze C hr rfl x Fm.kp v .nil ag (za (pv 0) zb))) (zh (zq (ze G hr rfl z Fc.kp y .nil ag (za (pv 0) zb)))),?_⟩;exact⟨_,rfl,L,rs,tb,rfl,SqL.of j,l,it,fun H1 a=>⟨_,rfl,L,rs,tb,rfl,SqL.of (a _ _ j),l.same a,it,fun D H2 ds o p q r u i=>k D H2 ds (a.trans o) (a.free p) q r u fun d hd=>⟨a.free (i d hd).1,(i d hd).2⟩⟩⟩
abbrev Dw:List Str:=["box","size","found","joint","number"]
def L4:Sp:=fun vs H Q _=>∃(p:Addr)(sz:Nat),vs=[.ref p,.int sz]/\sz<=5/\zS H p/\∀(D:Addr)(H':Hp)(ys:List Int),zZ p H H'->zS H' p->H D=none->H' D=some (.lst (ys.map V.int))->ys.length=sz->(∀y∈ys,y.natAbs<=9)->Q (.ref D) H'
def Dx:zo Dw ["box","size"] (zf Dv):=⟨rfl,rfl,rfl,δ,rfl,δ,δ⟩
def Q'{f fr l:Addr}{fd o q:FuncData}(F:Fun K "_law_list" "_law_list" Dv f fd)(X:mg "max"=none)(Fr:Fun K "_law_row" "_law_row" gP fr o)(Y:Binds K o ["box","columns","wide"] [])(Z:mg "_law_row"=some (.ref fr))(Gr:al P w K mg base aG 2 fr o ["box","columns","wide"] EO)(Fg:Fun K "_law_common" "_law_common" E8 l q)(bg:Binds K q ["one","other"] [])(tJ:mg "_law_common"=some (.ref l))(Gg:al P w K mg base aG 1 l q ["one","other"] LY):al P w K mg base aG 3 f fd ["box","size"] L4:=by
 refine F.ok Dx (fun vs H Q E h=>?_) (fun ah A outer s H vs Q E hr h=>?_)
 ·obtain⟨p,sz,rfl,_⟩:=h;rfl
 ·obtain⟨p,sz,rfl,z5,hb,k⟩:=h
  have e:Room 1 _:=hr.mono ξ;refine⟨_,zc (zp (i:=2) Dx.nd rfl (Or.inl rfl) (ze Gr hr rfl Z Fr.kp Y .nil ag (za (pv 0) (za (pv 1) (za zd zb)))))
   (zc (zp (i:=3) Dx.nd rfl (Or.inr rfl) zd)
   (zc (eX A4 rfl (zM (pv 2)) (zk (i:=4) Dx.nd rfl (Or.inl rfl)) (zh (zp (i:=3) Dx.nd rfl (Or.inr rfl) (ze Gg e rfl tJ Fg.kp bg .nil ag (za (pv 3) (za (pv 4) zb))))))
   (zh (zq (zD Dw ["number","joint"] [none,some 3] (zM (pv 2)) (fun r C s₀ H₀ ex=>zk (i:=0) (a9 ["number","joint"]) rfl (Or.inl rfl)) (fun r C s₀ H₀ ex=>zC) (fun r C s₀ H₀ ex=>zA xk (pv 0) (zn (MC rfl) rfl X Q7 (za zd (za (pv 1) zb))))
    (te:=cn (rI D4 fun i j=>.int (i / j)) (ar 0) (mR (fun xs H Q=>∃i j,xs=[.int i,.int j]/\Q (.int (if j>i then j else i)) H) (b_ (tC (.int 1)) (b_ (ar 1) bE)))) (hfr:=bD (zf Dv) δ)))))),?_⟩
  refine⟨_,rfl,_,rfl,p,sz,9,rfl,hb,ω,ξ,ξ,fun D H1 ns u v hD b M N=>?_⟩;have I:∀x∈ns,x.natAbs<=9:=fun x hx=>by have:=N x hx;(first|lia|omega)
  refine⟨_,rfl,D,rfl,⟨_,SqL.of b⟩,my (K:=K) (a:=D) (xs:=ns.map V.int) (fun i σ H2=>∃(d:Option V)(g:Int),σ=[some (.ref p),some (.int sz),some (.ref D),some (.int g),d]/\Same H1 H2/\g.natAbs<=9/\0<=g)
   ⟨none,0,rfl,Same.refl _,ξ,ξ⟩ (fun i σ H2 _ ⟨_,_,_,sm,_⟩=>SqL.of (sm _ _ b)) ?_ ?_⟩
  ·rintro i x σ H2 hx ⟨d,g,rfl,sm,G,T⟩
   obtain⟨y,U,rfl⟩:=fh hx;exact⟨_,rfl,_,rfl,g,y,rfl,fun L c=>⟨_,_,rfl,sm.trans c,Q8 G (I y (Am U)),Int.natCast_nonneg _⟩⟩
  ·rintro σ H2 ⟨d,g,rfl,sm,G,T⟩
   have J:(1:Int)<=(if g>1 then g else 1)/\(if g>1 then g else 1).natAbs<=9:=by split<;>(first|lia|omega)
   refine⟨_,rfl,D,rfl,⟨_,SqL.of (sm _ _ b)⟩,fun E2 z=>zB (L1 (f:=fun x=>x / (if g>1 then g else 1)) (fun x H' R hx O=>⟨_,rfl,_,rfl,_,_,rfl,_,_,rfl,rfl,⟨by have:=J.1;show(0:Int)<(if g>1 then g else 1);(first|lia|omega),At J.2 (Ay (by decide:9<2 ^ 4) (AC ξ ξ))⟩,O⟩) (sm _ _ b) ω z fun L c S=>?_)⟩;have W:=u.trans ((zZ.of sm).trans (.of c));refine k E2 L _ W ((v.same sm).same c) ((u.trans (.of sm)).free hb (v.same sm) z) S (by rw[Ab];exact M) fun y hy=>?_;obtain⟨x,hx,rfl⟩:=List.mem_map.mp hy;exact Ae (Int.natAbs_ediv_le_natAbs _ _) (I x hx)
abbrev Dy:List Str:=["box","numbers","size","found","turn","one","other","often"]
def L5(y fs:List Int):Prop:=fs.length=y.length/\Bnd 36 fs/\dot fs y=0
def Il:Sp:=fun vs H Q _=>∃(p N:Addr)(y:List Int),vs=[.ref p,.ref N]/\zS H p/\H N=some (.lst (y.map V.int))/\N≠p/\1<=y.length/\y.length<=5/\(∀x∈y,x.natAbs<=9)/\∀(D:Addr)(H':Hp)(fs:List Int),zZ p H H'->zS H' p->H D=none->H' D=some (.lst (fs.map V.int))->L5 y fs->Q (.ref D) H'
def pO:zo Dy ["box","numbers"] (zf E'):=⟨rfl,rfl,rfl,δ,rfl,δ,δ⟩
def Ra{f Z:Addr}{fd aF:FuncData}(F:Fun K "_law_beside" "_law_beside" E' f fd)(B:iR mg)(Ft:Fun K "_law_take" "_law_take" l7 Z aF)(bt:Binds K aF ["box","most"] [])(mt:mg "_law_take"=some (.ref Z)):al P w K mg base aG 2 f fd ["box","numbers"] Il:=by
 have O:al P w K mg base aG 1 Z aF ["box","most"] pu:=Dl Ft;refine F.ok pO (fun vs H Q E h=>?_) (fun ah A outer s H vs Q E hr h=>?_)
 ·obtain⟨p,N,y,rfl,_⟩:=h;rfl
 ·obtain⟨p,N,y,rfl,hb,u,nN,y1,y5,b9,k⟩:=h
  refine⟨_,zc (zp (i:=2) pO.nd rfl (Or.inl rfl) (zn zm rfl B.len dt (za (pv 1) zb)))
   (zc (i' (i:=3) pO.nd rfl (Or.inl rfl) Dy ["number"] [none] (zM (pv 1)) (fun cl C s₀ H₀ ex=>zk (i:=0) (a9 ["number"]) rfl (Or.inl rfl)) (fun cl C s₀ H₀ ex=>zC) (fun cl C s₀ H₀ ex=>zd) (te:=tC (.int 0)) (hfr:=bC δ))
   (zc (eX A4 rfl (iw rfl B.range (za (zA dP zd (ze O hr rfl mt Ft.kp bt .nil ag (za (pv 0) (za zd zb)))) zb)) (zk (i:=4) pO.nd rfl (Or.inl rfl))
    (zc (zp (i:=5) pO.nd rfl (Or.inl rfl) (ze O hr rfl mt Ft.kp bt .nil ag (za (pv 0) (za (pv 2) zb))))
    (zc (zp (i:=6) pO.nd rfl (Or.inl rfl) (ze O hr rfl mt Ft.kp bt .nil ag (za (pv 0) (za (pv 2) zb))))
    (zc (zp (i:=7) pO.nd rfl (Or.inl rfl) (zA eR (ze O hr rfl mt Ft.kp bt .nil ag (za (pv 0) (za zd zb))) zd))
    (zh (cF (zy gf (pv 5) (pv 6) (ap _))
     (zc (iv (zA dP (zx zt (pv 3) (pv 5) (fun _ _=>rfl)) (zA jy (pv 7) (zx zt (pv 1) (pv 6) (fun _ _=>rfl)))) (ig (pv 3) (pv 5) set_list))
     (zh (iv (zA eR (zx zt (pv 3) (pv 6) (fun _ _=>rfl)) (zA jy (pv 7) (zx zt (pv 1) (pv 5) (fun _ _=>rfl)))) (ig (pv 3) (pv 6) set_list)))) zR))))))
   (zh (zq (pv 3))))),?_⟩
  refine⟨_,rfl,N,_,rfl,.inl (SqL.of u),?_⟩;rw[Ab];refine⟨_,rfl,N,rfl,⟨_,SqL.of u⟩,fun D r=>zB (L1 (f:=fun _=>0) (fun x H' R hx hR=>hR) u ω r fun H1 s1 e8=>?_)⟩;have J:=eN hb r;refine⟨_,rfl,p,_,rfl,hb.same s1,ξ,ξ,fun z H2 z0 z1 eh bH=>⟨_,_,rfl,rfl,_,rfl,ω,ω,?_⟩⟩;have S2:zZ p H H2:=(zZ.of s1).trans eh;refine DJ (lo:=0) (n:=(1+z).toNat) (fun i σ l=>∃(S T U W:Option V)(fs:List Int),σ=[some (.ref p),some (.ref N),some (.int y.length),some (.ref D),S,T,U,W]/\zZ p H l/\zS l p/\l D=some (.lst (fs.map V.int))/\fs.length=y.length/\(∀x∈fs,x.natAbs<=18*i)/\dot fs y=0)
   ⟨none,none,none,none,_,rfl,S2,bH,eh _ _ J e8,by rw[Ab],(fun x hx=>by obtain⟨_,_,rfl⟩:=List.mem_map.mp hx;decide),L0 _ _ fun x hx=>by obtain⟨_,_,rfl⟩:=List.mem_map.mp hx;rfl⟩ ?_ ?_
  ·rintro i σ l hi ⟨S,T,U,W,fs,rfl,S3,a,b,G,g,I⟩
   refine⟨_,rfl,_,rfl,p,_,rfl,a,ω,ω,fun o H4 o0 o1 bI bN=>?_⟩;refine⟨_,rfl,_,rfl,p,_,rfl,bN,ω,ω,fun e H5 e0 e1 eI ee=>?_⟩;refine⟨_,rfl,p,_,rfl,ee,ξ,ξ,fun q M q0 q1 ij fj=>⟨_,_,rfl,rfl,?_⟩⟩;have iD:=bI.trans (eI.trans ij);have S6:=S3.trans iD;have X:=iD _ _ J b;have x6:=S6 _ _ nN u;obtain⟨o,rfl⟩:=Int.eq_ofNat_of_zero_le o0;obtain⟨e,rfl⟩:=Int.eq_ofNat_of_zero_le e0;have L:o<y.length:=ω
   have d:e<y.length:=ω
   refine⟨_,rfl,_,rfl,rfl,_,rfl,?_⟩;rw[i4]
   by_cases c:(o:Int)=(e:Int)
   ·rw[decide_eq_true c]
    exact aP ⟨_,_,_,_,fs,rfl,S6,fj,X,G,fun x hx=>by have:=g x hx;(first|lia|omega),I⟩
   rw[decide_eq_false c];have hf:∀j(h:j<y.length),(fs.map V.int)[j]?=some (V.int (fs[j]'ω)):=fun j h=>by rw[Aj,Aa ω];rfl
   have hy:∀j(h:j<y.length),(y.map V.int)[j]?=some (V.int y[j]):=fun j h=>by rw[Aj,Aa h];rfl
   refine aV ⟨_,rfl,_,rfl,D,_,_,_,rfl,rfl,SqL.of X,zj (hf o L),_,rfl,_,rfl,_,rfl,N,_,_,_,rfl,rfl,SqL.of x6,zj (hy e d),_,_,rfl,rfl,.inl ⟨ω,ω⟩,_,_,rfl,rfl,?_⟩;refine⟨_,rfl,_,rfl,D,_,(o:Int),o,rfl,rfl,X,t7 ω (by rw[Ab];(first|lia|omega)),?_⟩;rw[<-List.map_set (f:=V.int)];have S7:zZ p H (upd M D (.lst ((fs.set o (fs[o]'ω+(q-2)*y[e])).map V.int))):=S6.then r;have fP:zS (upd M D (.lst ((fs.set o (fs[o]'ω+(q-2)*y[e])).map V.int))) p:=fj.upd J;have oO:=S7 _ _ nN u;have Y:upd M D (.lst ((fs.set o (fs[o]'ω+(q-2)*y[e])).map V.int)) D=some (.lst ((fs.set o (fs[o]'ω+(q-2)*y[e])).map V.int)):=af;generalize hH7:upd M D (.lst ((fs.set o (fs[o]'ω+(q-2)*y[e])).map V.int))=H7 at S7 fP oO Y ⊢;have gs:(fs.set o (fs[o]'ω+(q-2)*y[e]))[e]'(by rw[List.length_set];(first|lia|omega))=fs[e]'ω:=List.getElem_set_ne ω _;refine⟨_,rfl,_,rfl,D,_,_,_,rfl,rfl,SqL.of Y,zj (v:=V.int (fs[e]'ω)) (by rw[Aj,Aa (by rw[List.length_set];(first|lia|omega)),gs];rfl),_,rfl,_,rfl,_,rfl,N,_,_,_,rfl,rfl,SqL.of oO,zj (hy o L),_,_,rfl,rfl,.inl ⟨ω,ω⟩,_,_,rfl,rfl,?_⟩;refine⟨_,rfl,_,rfl,D,_,(e:Int),e,rfl,rfl,Y,t7 ω (by rw[Ab,List.length_set];(first|lia|omega)),?_⟩;rw[<-List.map_set (f:=V.int)];have bm:∀j(h:j<y.length),((q-2)*y[j]).natAbs<=18:=fun j h=>by
    rw[AB];exact Ae (AR (show(q-2).natAbs<=2 from ω) (b9 _ (Ao h))) ξ
   refine⟨_,_,_,_,_,rfl,S7.then r,fP.upd J,af,by rw[List.length_set,List.length_set];exact G,fun x hx=>?_,?_⟩
   ·have B1:=bm e d
    have B2:=bm o L;have F1:=g _ (Ao (show o<fs.length from ω));have F2:=g _ (Ao (show e<fs.length from ω));rcases List.mem_or_eq_of_mem_set hx with h|h
    ·rcases List.mem_or_eq_of_mem_set h with h|h
     ·have:=g x h;(first|lia|omega)
     ·rw[h];(first|lia|omega)
    ·rw[h];(first|lia|omega)
   ·rw[Ik (by rw[List.length_set];(first|lia|omega)) d,Ik ω L,I,gs]
    have x1:(q-2)*y[e]*y[o]=(q-2)*y[o]*y[e]:=by rw[AS,AS,A5 y[e]]
    have x2:(fs[o]'ω+(q-2)*y[e]-fs[o]'ω)*y[o]=(q-2)*y[e]*y[o]:=by congr 1;(first|lia|omega)
    have x3:(fs[e]'ω-(q-2)*y[o]-fs[e]'ω)*y[e]=-((q-2)*y[o]*y[e]):=by rw[<-Int.neg_mul];congr 1;(first|lia|omega)
    rw[x2,x3,x1];(first|lia|omega)
  ·rintro σ l ⟨S,T,U,W,fs,rfl,S3,a,b,G,g,I⟩
   refine⟨_,rfl,k D l fs S3 a r b ⟨G,fun x hx=>?_,I⟩⟩;have:=g x hx;(first|lia|omega)
end
abbrev c9:Stmt:=top 60
abbrev ib:List Str:=["script","box","table","numbers","handed","turn","found","leaf","row","kept","k"]
def SqL.far{K:Ah}{H H':Hp}{a p:Addr}{xs:List V}{o:HO}(h:L2.SqL K H a xs)(hp:H p=none)(s:zZ p (L2.upd H p o) H'):L2.SqL K H' a xs:=by
 rcases h with (h|⟨u,h⟩)|h
 ·exact .inl (.inl (s _ _ (zl h hp) ((Same.new hp) _ _ h)))
 ·exact .inl (.inr ⟨u,s _ _ (zl h hp) ((Same.new hp) _ _ h)⟩)
 ·exact .inr h
def kO(tb:Ξ):Prop:=∀u ub v vb st,Pap tb.length (wid tb) (fn tb) u ub v vb st->jt (lvT v st)/\bW (lvT v st)=true
def L6:bW []=true/\jt []:=by
 obtain⟨i1,i2,_⟩:=EY (tb:=[]) (c:=0) (b:=0) iT (fun r hr=>(by cases hr)) ξ ξ ξ;exact⟨i1,i2⟩
def Im{tb:Ξ}{N n q:Nat}(G:Good N n (lp N n q))(b:Ent tb (2 ^ q))(d:wid tb<=N):kO tb:=fun u ub v vb st p=>by
 have e:=G.N40
 by_cases c:lvT v st=[]
 ·rw[c];exact⟨L6.2,L6.1⟩
 ·have hp:=List.length_pos_iff.mpr c
  have a:wid (lvT v st)=wid tb:=gU (fM p) fun h=>ω
  obtain⟨ok,_⟩:=LW p G b d;refine⟨⟨N,n,lp N n q,by rw[a];exact ok⟩,LC (fM p) (fun h=>ω) ?_ ω⟩;have:=pF p;(first|lia|omega)
section
variable{tb u ub v vb:Ξ}{st:List Int}
def Rc(p:Pap tb.length (wid tb) (fn tb) u ub v vb st)(hw:∀r∈tb,r.length=wid tb):∀r∈tb,∀l∈lvT v st,dot r l=0:=fun r hr l c=>by
 obtain⟨q,hq,rfl⟩:=AN hr;obtain⟨a,b,rfl⟩:=AN c;have d:a<wid tb-st.length:=by rw[pF p] at b;exact b
 have e:=hw _ hr;have f:=fM p _ c;rw[t_ ω,e];have e1:=p.leaf (j:=st.length+a) ω ω q hq;unfold fn at e1;rw[zw (Aa hq)] at e1;rw[<-e1];refine Tb.zi fun t _=>?_;have:=pM p d t;unfold fn at this;rw[zw (Aa b)] at this;exact this
def Re(p:Pap tb.length (wid tb) (fn tb) u ub v vb st):∀l∈lvT v st,∀x∈l,x.natAbs<low:=fun l a x hx=>by
 have hc:=List.mem_of_mem_drop a;unfold turn at hc;obtain⟨j,_,rfl⟩:=List.mem_map.mp hc;unfold colAt at hx;obtain⟨r,hr,rfl⟩:=List.mem_map.mp hx
 by_cases c:j<r.length
 ·rw[Ac,Aa c]
  exact p.sv r hr _ (Ao c)
 ·rw[Ac,List.getElem?_eq_none ω]
  exact Nat.lt_trans ξ QY
def Rf(p:Pap tb.length (wid tb) (fn tb) u ub v vb st){y:List Int}(hy:∀s,s<tb.length->Tb.dot (wid tb) (fn tb s) (vc y)=0)(c:lvT v st≠[]):Solv (turn (lvT v st)) y:=by
 have hp:=List.length_pos_iff.mpr c;have f:=pF p;have b:wid (lvT v st)=wid tb:=gU (fM p) fun h=>ω
 obtain⟨d,hd⟩:=p.span hy;have g:wid (turn (lvT v st))=(lvT v st).length:=by
  refine gU Da fun h=>?_;rw[lL,b] at h;(first|lia|omega)
 refine⟨d,fun i hi=>?_⟩;rw[lL,b] at hi;rw[hd i hi,g,f,Tb.zI];refine Tb.zi fun a e=>?_;have:fn (turn (lvT v st)) i a=fn (lvT v st) a i:=by unfold turn;rw[b];exact zY hi a
 rw[this,pM p e]
def Rg(p:Pap tb.length (wid tb) (fn tb) u ub v vb st){y:List Int}(f:y.length=wid tb)(hy:∀s,s<tb.length->Tb.dot (wid tb) (fn tb s) (vc y)=0)(c:lvT v st=[]):∀x∈y,x=0:=fun x hx=>by
 obtain⟨t,b,rfl⟩:=AN hx;obtain⟨d,hd⟩:=p.span hy;have a:=pF p;rw[c] at a;have e:wid tb-st.length=0:=a.symm;have:=hd t ω;rw[e,iK b] at this;exact this
end
def zii(H:Hp)(a:V)(tb:Ξ):Prop:=a=.non\/∃(N:Addr)(y:List Int),a=.ref N/\H N=some (.lst (y.map V.int))/\y.length=wid tb/\(∀x∈y,x.natAbs<=9)/\(∀s,s<tb.length->Tb.dot (wid tb) (fn tb s) (vc y)=0)/\∀u ub v vb st,Pap tb.length (wid tb) (fn tb) u ub v vb st->lvT v st≠[]->jt (turn (lvT v st))/\bW (turn (lvT v st))=true
def zii.same{H H':Hp}{a:V}{tb:Ξ}(h:zii H a tb)(s:Same H H'):zii H' a tb:=by
 rcases h with h|⟨N,y,h1,h2,b⟩
 ·exact .inl h
 ·exact .inr ⟨N,y,h1,s _ _ h2,b⟩
def Rh{tb:Ξ}(g:Ent tb (2 ^ 6))(e:wid tb<=5):∀u ub v vb st,Pap tb.length (wid tb) (fn tb) u ub v vb st->lvT v st≠[]->jt (turn (lvT v st))/\bW (turn (lvT v st))=true:=fun u ub v vb st p c=>by
 have hp:=List.length_pos_iff.mpr c;have i:=pF p;have b:wid (lvT v st)=wid tb:=gU (fM p) fun h=>ω
 obtain⟨_,f⟩:=LW p iU g e;have eT:turn (lvT v st)=(Af (wid tb)).map (colAt (lvT v st)):=by unfold turn;rw[b]
 have a:Ent (turn (lvT v st)) (2 ^ 113):=by rw[eT];exact HP f
 have d:wid (turn (lvT v st))=(lvT v st).length:=by
  refine gU Da fun h=>?_;rw[lL,b] at h;(first|lia|omega)
 have lt:(turn (lvT v st)).length<=5:=by rw[lL,b];exact e
 refine⟨⟨5,3,lF 5 3 113,fQ,rfl,by rw[d];exact Da,a,lt,by rw[d];(first|lia|omega),K3 fQ.N1 fQ.Nn lt a,K4 fQ.Nn lt⟩,LC (w:=(lvT v st).length) Da (fun h=>?_) ω ω⟩;rw[lL,b] at h;(first|lia|omega)
section
variable{P:Program}{w:World}{K:Ah}{mg:Str->Option Value}{base:Heap}
structure Lw(H:Hp)(L Hd:Addr)(rs hs:List Addr)(tb:Ξ):Prop where
 hL:H L=some (.lst (rs.map V.ref))
 hT:Rws H rs tb
 hd:H Hd=some (.lst (hs.map V.ref))
 hr:Rws H hs tb
def Lw.same{H H':Hp}{L b:Addr}{rs a:List Addr}{tb:Ξ}(h:Lw H L b rs a tb)(s:Same H H'):Lw H' L b rs a tb:=⟨s _ _ h.hL,h.hT.same s,s _ _ h.hd,h.hr.same s⟩
def Io{neg:Bool}{H:Hp}{L M:Addr}{rs ms:List Addr}{tb ub:Ξ}{Z:VK}(h1:H L=some (.lst (rs.map V.ref)))(h2:Rws H rs tb)(g1:H M=some (.lst (ms.map V.ref)))(g2:Rws H ms ub)(k:Z (.bl (if neg then !decide (tb=ub) else decide (tb=ub))) H):kB neg K (.ref L) (.ref M) H Z:=by
 refine⟨dv tb,dv ub,t5 (SqL.of h1) h2,t5 (SqL.of g1) g2,EI _,EI _,Lg _ _,?_⟩;rw[HU];exact k
def Fd(K:Ah):Sp:=fun vs H Q _=>∃(a:Addr)(ns:List Int),vs=[.ref a]/\SqL K H a (ns.map V.int)/\ns.length<=63/\∀H',Q (.bl true) H'
def fU:zo ib ["script"] (zf c9):=⟨rfl,rfl,rfl,δ,rfl,δ,δ⟩
def Ip:List Stmt:=match (zaA c9).getD 6 (.Pass ⟨0,0,0,0⟩) with
 |.For _ _ b _ _=>b
 |_=>[]
def L7{tb:Ξ}{c n:Nat}{m:Int}(h:∀r∈tb,r.length=c/\Bnd m r)(hc:c<=n):wid tb<=n:=by
 cases e:tb with
 |nil=>exact Ap _
 |cons r l=>
  rw[e] at h;show r.length<=n;rw[(h r (AI ..)).1];exact hc
def Ri{f fc fb ft kS ke fw kY lY mZ kw fk fs k6:Addr}{fd aO gb aF fX fA aI fO fT fY fK gw aw fH:FuncData}(F:Fun K "law" "law" c9 f fd)(B:iR mg)(Fc:Fun K "_law_cell_at" "_law_cell_at" EN fc aO)(bc:Binds K aO ["script","k"] [])(mc:mg "_law_cell_at"=some (.ref fc))(Fb:Fun K "_law_box" "_law_box" kC fb gb)(bb:Binds K gb ["cell"] [])(mb:mg "_law_box"=some (.ref fb))(Ft:Fun K "_law_take" "_law_take" l7 ft aF)(bt:Binds K aF ["box","most"] [])(mt:mg "_law_take"=some (.ref ft))(Ftb:Fun K "_law_table" "_law_table" kD kS fX)(sx:Binds K fX ["box","most"] [])(y7:mg "_law_table"=some (.ref kS))(kL:al P w K mg base aG 3 kS fX ["box","most"] Ls)(Fwt:Fun K "_law_wide_table" "_law_wide_table" Dr ke fA)(ya:Binds K fA ["box","least","more"] [])(sC:mg "_law_wide_table"=some (.ref ke))(jI:al P w K mg base aG 2 ke fA ["box","least","more"] LD)(Fw:Fun K "_law_wide" "_law_wide" EQ fw aI)(bw:Binds K aI ["table"] [])(mw:mg "_law_wide"=some (.ref fw))(Gw:al P w K mg base aG 1 fw aI ["table"] (Lu K))(Fls:Fun K "_law_list" "_law_list" Dv kY fO)(xT:Binds K fO ["box","size"] [])(BB:mg "_law_list"=some (.ref kY))(mK:al P w K mg base aG 3 kY fO ["box","size"] L4)(Fbs:Fun K "_law_beside" "_law_beside" E' lY fT)(wA:Binds K fT ["box","numbers"] [])(rh:mg "_law_beside"=some (.ref lY))(kg:al P w K mg base aG 2 lY fT ["box","numbers"] Il)(Flv:Fun K "leaves" "leaves" E6 mZ fY)(x9:Binds K fY ["table"] [])(uT:mg "leaves"=some (.ref mZ))(jH:al P w K mg base aG 8 mZ fY ["table"] (LR K))(Ftl:Fun K "_law_table_like" "_law_table_like" ES kw fK)(vn:Binds K fK ["found"] [])(xL:mg "_law_table_like"=some (.ref kw))(lM:al P w K mg base aG 3 kw fK ["found"] Ly)(Fk:Fun K "rank" "rank" EK fk gw)(bk:Binds K gw ["table"] [])(mk:mg "rank"=some (.ref fk))(Gk:al P w K mg base aG 9 fk gw ["table"] (Lj K))(Fs:Fun K "solved" "solved" E4 fs aw)(bs:Binds K aw ["table","goal"] [])(ms:mg "solved"=some (.ref fs))(Gs:al P w K mg base aG 7 fs aw ["table","goal"] Ii)(Ftu:Fun K "turned_over" "turned_over" E_ k6 fH)(j7:Binds K fH ["table"] [])(Bv:mg "turned_over"=some (.ref k6))(j4:al P w K mg base aG 4 k6 fH ["table"] L3):al P w K mg base aG 10 f fd ["script"] (Fd K):=by
 have Gc:al P w K mg base aG 1 fc aO ["script","k"] (Lm K):=Qo Fc B;have Gb:al P w K mg base aG 1 fb gb ["cell"] Ln:=Qq Fb;have Gt:al P w K mg base aG 1 ft aF ["box","most"] pu:=Dl Ft;refine F.ok fU (fun vs H Q E h=>?_) (fun ah A outer s H vs Q E hr h=>?_)
 ·obtain⟨a,ns,rfl,_⟩:=h;rfl
 ·obtain⟨a,ns,rfl,hs,hn,k⟩:=h
  have cA:=hr.units;have M:Room 1 _:=hr.mono ξ;have dj:Room 2 _:=hr.mono ξ;have hr3:Room 3 _:=hr.mono ξ;have hr4:Room 4 _:=hr.mono ξ;have yT:Room 7 _:=hr.mono ξ;have sQ:Room 8 _:=hr.mono ξ;have TK:∃tt,PSs (de aG P w K mg base ib "law" (zf c9) f ah A outer s H E).nox (List.drop 5 Ip) tt/\∀(En:Ends)(p L W D:Addr)(J:V)(x5 T G v9 O:Option V)(ds:List Addr)(S:Ξ)(H0 H':Hp),
    Same H0 H'->H' D=some (.lst (ds.map V.ref))->Rws H' ds S->ds.Nodup->(∀d∈ds,H0 d=none/\d≠D)->H0 D=none->S.length<=40->(∀r∈S,r.length<=40)->
    (∀(T G v9 O:Option V)(dw:Hp),Same H0 dw->En.nx [some (.ref a),some (.ref p),some (.ref L),some J,some (.ref W),x5,some (.ref D),T,G,v9,O] dw)->
    tt En [some (.ref a),some (.ref p),some (.ref L),some J,some (.ref W),x5,some (.ref D),T,G,v9,O] H':=by
   refine⟨_,(zc (i' (i:=9) fU.nd rfl (Or.inl rfl) ib ["leaf"] [none] (zM (pv 6)) (fun I C s₀ H₀ ex=>zk (i:=0) (a9 ["leaf"]) rfl (Or.inl rfl)) (fun I C s₀ H₀ ex=>zC) (fun I C s₀ H₀ ex=>i6 zV rfl B.list ma (za (pv 0) zb)) (te:=Dt K) (hfr:=bC δ))
    (zc (eX A4 rfl (iw rfl B.range (za (zn zm rfl B.len dt (za (pv 6) zb)) zb)) (zk (i:=10) fU.nd rfl (Or.inl rfl))
     (zc (kT (FU PySem.F.plainAttrs_list PySem.F.slot_list_append PySem.F.type_list_append DM (zx zt (pv 6) (pv 10) (fun _ _=>rfl)) (za zd zb)))
     (zh (cF (zy (HS cA) (m7 nf (pv 6) (m6 (zA dP (pv 10) zd)) mU) (m7 nf (pv 9) (m6 (zA dP (pv 10) zd)) mU) (ap _)) (zh (zq jx)) zR))))
    (zh (kT (FU PySem.F.plainAttrs_list PySem.F.slot_list_append PySem.F.type_list_append DM (pv 6) (za (iz zb) zb)))))),?_⟩
   intro En p L W D J x5 T G v9 O ds S H0 H1 s1 hD rd nd eF hD0 lz lw kk;have oT:=rd.len;refine⟨_,rfl,D,rfl,⟨_,SqL.of hD⟩,fun Kp pU=>zB (EV (SqL.of hD) rd ω pU fun H2 es s2 jZ t9 _ gj=>?_)⟩;refine⟨_,rfl,D,_,rfl,.inl (SqL.of (s2 _ _ hD)),?_⟩;rw[Ab];have dK:∀d∈ds,d≠Kp/\∀e∈es,d≠e:=fun d hd=>by
    have ht:=Rws.there rd d hd;exact⟨fun z=>ht (by rw[z];exact pU),fun e he z=>ht (by rw[z];exact(gj e he).1)⟩
   refine⟨_,rfl,ω,ω,DJ (lo:=0) (n:=ds.length) (fun i σ X=>∃(O:Option V)(gg:Ξ),σ=[some (.ref a),some (.ref p),some (.ref L),some J,some (.ref W),x5,some (.ref D),T,G,some (.ref Kp),O]/\Same H0 X/\X D=some (.lst (ds.map V.ref))/\Rws X ds gg/\gg.length=S.length/\gg.drop i=S.drop i/\X Kp=some (.lst (es.map V.ref))/\Rws X es S)
    ⟨O,S,rfl,s1.trans s2,s2 _ _ hD,rd.same s2,rfl,rfl,jZ,t9⟩ ?_ ?_⟩
   ·rintro i σ X hi ⟨O,gg,rfl,s3,U,mY,lt,dr,pS,oP⟩
    rw[show(0:Int)+((i:Nat):Int)=((i:Nat):Int) from ω];obtain⟨d,ed⟩:∃d,ds[i]?=some d:=⟨_,Aa hi⟩;have hdm:=Am ed;obtain⟨ns,en,hd⟩:=mY.get ed;have e1:S[i]?=some ns:=by
     have h1:(gg.drop i)[0]?=some ns:=by rw[List.getElem?_drop];exact en
     rw[dr,List.getElem?_drop] at h1;exact h1
    have BL:=lw ns (Am e1);refine⟨_,rfl,_,rfl,D,_,_,_,rfl,rfl,SqL.of U,zj (v:=V.ref d) (by rw[Aj,ed];rfl),.inl ⟨rfl,_,SqL.of hd⟩,d,_,_,rfl,rfl,hd,by rw[sizeLine_eq,Ab];(first|lia|omega),?_⟩;have ea:ns.map V.int++[V.int 1]=(ns++[1]).map V.int:=by rw[Aw];rfl
    rw[ea];have s4:Same H0 (upd X d (.lst ((ns++[1]).map V.int))):=s3.then (eF d hdm).1;have aT:upd X d (.lst ((ns++[1]).map V.int)) D=some (.lst (ds.map V.ref)):=by rw[am (eF d hdm).2.symm];exact U
    have gT:=mY.updAt (ns:=ns++[1]) i nd ed;have j3:upd X d (.lst ((ns++[1]).map V.int)) Kp=some (.lst (es.map V.ref)):=by rw[am (dK d hdm).1.symm];exact pS
    have he4:Rws (upd X d (.lst ((ns++[1]).map V.int))) es S:=Rws.upd oP fun e he z=>(dK d hdm).2 e he z.symm;generalize upd X d (.lst ((ns++[1]).map V.int))=H4 at s4 aT gT j3 he4 ⊢;have e2:((i:Nat):Int)+1=((i+1:Nat):Int):=ω
    refine⟨_,rfl,_,rfl,_,_,rfl,rfl,_,rfl,D,_,rfl,SqL.of aT,fun q hq=>?_⟩;rw[e2,gD,<-List.map_drop];have Y:=Same.new (o:=.lst ((ds.drop (i+1)).map V.ref)) hq;have qa:upd H4 q (.lst ((ds.drop (i+1)).map V.ref)) q=some (.lst ((ds.drop (i+1)).map V.ref)):=af;generalize upd H4 q (.lst ((ds.drop (i+1)).map V.ref))=H5 at Y qa ⊢;refine⟨_,rfl,_,rfl,_,_,rfl,rfl,_,rfl,Kp,_,rfl,SqL.of (Y _ _ j3),fun q2 yd=>?_⟩;rw[e2,gD,<-List.map_drop];have s6:=Same.new (o:=.lst ((es.drop (i+1)).map V.ref)) yd;have cm:=Y.trans s6;refine Io (neg:=true) (s6 _ _ qa) ((gT.drop (i+1)).same cm) af ((he4.drop (i+1)).same cm) ⟨_,rfl,?_⟩;have e3:(gg.set i (ns++[1])).drop (i+1)=S.drop (i+1):=by
     rw[List.drop_set,if_pos ω];have:=congrArg (List.drop 1) dr
     rwa [List.drop_drop,List.drop_drop] at this
    rw[if_pos rfl,decide_eq_true e3];exact aP ⟨_,_,rfl,s4.trans cm,cm _ _ aT,gT.same cm,by rw[List.length_set];exact lt,e3,cm _ _ j3,he4.same cm⟩
   ·rintro σ X ⟨O,gg,rfl,s3,U,mY,lt,dr,pS,oP⟩
    refine⟨_,rfl,.inl ⟨rfl,_,SqL.of U⟩,ξ,fun q hq=>?_⟩;have sq:=Same.new (o:=.lst []) hq;refine⟨D,_,_,rfl,rfl,sq _ _ U,by rw[sizeLine_eq,Ab];(first|lia|omega),?_⟩;exact kk _ _ _ _ _ ((s3.trans sq).then hD0)
  obtain⟨tk,jh,kt⟩:=TK;have T6:∃tt,PSs (de aG P w K mg base ib "law" (zf c9) f ah A outer s H E).nox (List.drop 6 (zaA c9)) tt/\∀(p L W:Addr)(J:V)(rs ak:List Addr)(tb:Ξ)(H':Hp),
    Lw H' L W rs ak tb->bW tb=true->jt tb->(∀r∈tb,Bnd 1000 r)->kO tb->zii H' J tb->
    tt {nx:=fun _ H'=>Q .non H',rt:=Q} [some (.ref a),some (.ref p),some (.ref L),some J,some (.ref W),none,none,none,none,none,none] H':=by
   refine⟨_,zc (eX A4 rfl (iw rfl B.range (za zd zb)) (zk (i:=5) fU.nd rfl (Or.inl rfl))
    (zc (zp (i:=6) fU.nd rfl (Or.inl rfl) (ze jH sQ rfl uT Flv.kp x9 .nil ag (za (pv 4) zb)))
    (zc (cF (PW.pt (DE (uz (pV (ze lM hr3 rfl xL Ftl.kp vn .nil ag (za (pv 6) zb)))) (DD (zy (HS cA) (pv 4) (pv 2) (ap _))))) (zh (zq jx)) zR)
    (zc (eX A4 rfl (zM (pv 6)) (zk (i:=7) fU.nd rfl (Or.inl rfl))
     (zc (cF (zy gf (zn zm rfl B.len dt (za (pv 7) zb)) (ze Gw M rfl mw Fw.kp bw .nil ag (za (pv 2) zb)) (ap _)) (zh (zq jx)) zR)
     (zh (eX A4 rfl (zM (pv 2)) (zk (i:=8) fU.nd rfl (Or.inl rfl))
      (zh (cF (zy gf (zn (Jh rfl) rfl B.sum Kl (za (zD ib ["left","right"] [none,none] (k7 rfl B.zip jK (za (pv 8) (za (pv 7) zb)))
       (fun I C s₀ H₀ ex=>gX rfl (zH (zk (i:=0) (a9 ["left","right"]) rfl (Or.inl rfl)) (zH (zk (i:=1) (a9 ["left","right"]) rfl (Or.inl rfl)) gW))) (fun I C s₀ H₀ ex=>zC)
       (fun I C s₀ H₀ ex=>zA qO (pv 0) (pv 1)) (te:=cn (rI eH fun i j=>.int (i*j)) (ar 0) (ar 1)) (hfr:=bC δ) (g:=b6 K 2 (cf (zT 0) (cf (zT 1) b3)))) zb)) zd (ap _)) (zh (zq jx)) zR))))))
    (zc (cF (PW.pt (DE (zy gf (zn zm rfl B.len dt (za (pv 6) zb)) (zA eR (ze Gw M rfl mw Fw.kp bw .nil ag (za (pv 2) zb)) (ze Gk hr rfl mk Fk.kp bk .nil ag (za (pv 4) zb))) (ap _))
     (DD (zy gf (ze Gk hr rfl mk Fk.kp bk .nil ag (za (zD ib ["leaf"] [none] (zM (pv 6)) (fun I C s₀ H₀ ex=>zk (i:=0) (a9 ["leaf"]) rfl (Or.inl rfl)) (fun I C s₀ H₀ ex=>zC) (fun I C s₀ H₀ ex=>i6 zV rfl B.list ma (za (pv 0) zb)) (te:=Dt K) (hfr:=bC δ)) zb)) (zn zm rfl B.len dt (za (pv 6) zb)) (ap _))))) (zh (zq jx)) zR)
    (zc (cF (zy MB (pv 3) Iu (ap _))
     (zc (cF (zy (P9 cA) (pv 6) (iz zb) (ap _)) (zh (zq (mP hH (zn zm rfl B.len dt (za (zD ib ["number"] [none] (zM (pv 3)) (fun I C s₀ H₀ ex=>zk (i:=0) (a9 ["number"]) rfl (Or.inl rfl))
      (fun I C s₀ H₀ ex=>I0 (zy gf (pv 0) zd (ap _))) (fun I C s₀ H₀ ex=>pv 0) (tc:=DL (cn FK (ar 0) (tC (.int 0)))) (hfr:=bC δ)) zb)) zd (ap _)))) zR)
     (zh (cF (zy gf (zx zK (ze Gs yT rfl ms Fs.kp bs .nil ag (za (ze j4 hr4 rfl Bv Ftu.kp j7 .nil ag (za (zD ib ["leaf"] [none] (zM (pv 6)) (fun I C s₀ H₀ ex=>zk (i:=0) (a9 ["leaf"]) rfl (Or.inl rfl)) (fun I C s₀ H₀ ex=>zC) (fun I C s₀ H₀ ex=>i6 zV rfl B.list ma (za (pv 0) zb)) (te:=Dt K) (hfr:=bC δ)) zb)) (za (i6 zV rfl B.list ma (za (pv 3) zb)) zb))) zd (fun _ _=>rfl)) Fn (ap _)) (zh (zq jx)) zR))) zR)
    jh))))))
    (zh (zq jx)),?_⟩
   intro p L W J rs ak tb H0 xC it to b1 iM kU;obtain⟨t1,t2,t3⟩:=qM it;obtain⟨gN,gn,gm,ok⟩:=id to;refine⟨_,rfl,ξ,ξ,DJ (lo:=0) (n:=2) (fun i σ H2=>∃(v5 v6 T G v9 O:Option V),σ=[some (.ref a),some (.ref p),some (.ref L),some J,some (.ref W),v5,v6,T,G,v9,O]/\Same H0 H2) ⟨none,none,none,none,none,none,rfl,Same.refl _⟩ ?_ ?_⟩
   ·rintro i σ H2 hi ⟨v5,v6,T,G,v9,O,rfl,sm⟩
    have l2:=xC.same sm;refine⟨_,rfl,W,ak,tb,gN,gn,gm,rfl,l2.hd,l2.hr,it,ok,fun u ub v vb st pp D X ds s3 hD U rd nd eF=>?_⟩;obtain⟨qZ,lit⟩:=iM u ub v vb st pp;have e0:(turn v).drop st.length=lvT v st:=rfl;rw[e0] at rd;have ll:=pF pp;have lw:=fM pp;have mG:=Rc pp t3;have jO:=Re pp;have oT:=rd.len;have lz:(lvT v st).length<=40:=ω
    have full':∀u' bF v' bP ab,Pap (lvT v st).length (wid (lvT v st)) (fn (lvT v st)) u' bF v' bP ab->ab.length=(lvT v st).length:=fun u' bF v' bP ab p'=>by
     by_cases c:lvT v st=[]
     ·have:=p'.sk
      rw[c] at this ⊢;exact Nat.le_zero.mp this
     ·have hp:=List.length_pos_iff.mpr c
      have ew:wid (lvT v st)=wid tb:=gU lw fun h=>ω
      refine full p' fun y=>?_;obtain⟨c,hc⟩:=pp.sur y;exact⟨c,fun s hs=>by rw[ew];exact hc s ω⟩
    have n_:=fun(y:List Int)=>Rf pp (y:=y);have oo:=fun(y:List Int)=>Rg pp (y:=y);have nA:J=.non\/∃(N:Addr)(y:List Int),J=.ref N/\X N=some (.lst (y.map V.int))/\y.length=wid tb/\(∀x∈y,x.natAbs<=9)/\(lvT v st=[]->∀x∈y,x=0)/\(lvT v st≠[]->Solv (turn (lvT v st)) y/\jt (turn (lvT v st))/\bW (turn (lvT v st))=true):=by
     rcases(kU.same sm).same s3 with h|⟨N,y,h1,h2,h3,h4,h5,h6⟩
     ·exact .inl h
     ·exact .inr ⟨N,y,h1,h2,h3,h4,fun c=>oo y h3 h5 c,fun c=>⟨n_ y h5 c,h6 u ub v vb st pp c⟩⟩
    have rk:st.length<=wid tb:=pp.sw;have uq:∀u' bF v' bP ab,Pap tb.length (wid tb) (fn tb) u' bF v' bP ab->ab=st:=fun u' bF v' bP ab p'=>(pp.uniq p').symm;clear n_ oo pp e0;generalize lvT v st=S at *;have l3:=l2.same s3;refine⟨_,rfl,D,ds,S,rfl,U,rd,ω,fun r hr=>by rw[lw r hr];(first|lia|omega),fun H4 s4=>⟨_,rfl,aP ?_⟩⟩;have l4:=l3.same s4;refine⟨_,rfl,_,rfl,Io (neg:=true) l4.hd l4.hr l4.hL l4.hT ⟨_,rfl,?_⟩⟩;rw[if_pos rfl,decide_eq_true rfl];refine aP ?_;have aT:=s4 _ _ U;have gT:=rd.same s4;refine⟨_,rfl,D,rfl,⟨_,SqL.of aT⟩,my (K:=K) (a:=D) (xs:=ds.map V.ref) (fun _ σ H5=>∃(T G:Option V),σ=[some (.ref a),some (.ref p),some (.ref L),some J,some (.ref W),some (.int (0+(i:Int))),some (.ref D),T,G,v9,O]/\Same H4 H5)
     ⟨T,G,rfl,Same.refl _⟩ (fun i σ H5 _ ⟨_,_,_,Y⟩=>SqL.of (Y _ _ aT)) ?_ ?_⟩
    ·rintro j x σ H5 hx ⟨T,G,rfl,Y⟩
     obtain⟨d,ed,rfl⟩:=ja hx;obtain⟨l,el,hl⟩:=gT.get ed;have hm:=Am el;have l5:=l4.same Y;refine⟨_,rfl,d,_,rfl,.inl (SqL.of (Y _ _ hl)),_,rfl,L,rs,tb,rfl,SqL.of l5.hL,l5.hT,fun H6 s6=>⟨rfl,_,rfl,?_⟩⟩;rw[Ab,lw l hm,decide_eq_true rfl];have cm:=Y.trans s6;have l6:=l4.same cm;refine aP ⟨_,rfl,L,rfl,⟨_,SqL.of l6.hL⟩,my (K:=K) (a:=L) (xs:=rs.map V.ref) (fun _ σ H7=>∃(G:Option V),σ=[some (.ref a),some (.ref p),some (.ref L),some J,some (.ref W),some (.int (0+(i:Int))),some (.ref D),some (.ref d),G,v9,O]/\Same H6 H7)
      ⟨G,rfl,Same.refl _⟩ (fun i σ H7 _ ⟨_,_,s7⟩=>SqL.of (s7 _ _ l6.hL)) ?_ ?_⟩
     ·rintro q x σ H7 hx ⟨G,rfl,s7⟩
      obtain⟨o,eo,rfl⟩:=ja hx;obtain⟨r,er,ho⟩:=l6.hT.get eo;have qj:=Am er;have ow:=s7 _ _ ho;have nT:=(cm.trans s7) _ _ hl;refine⟨_,rfl,_,rfl,o,d,rfl,⟨_,SqL.of ow⟩,⟨_,SqL.of nT⟩,fun Z hZ=>?_⟩;refine zB (xo (f:=fun a b=>a*b) (fun x y H' R hx hy hR=>⟨_,rfl,_,rfl,_,_,rfl,rfl,oj (pa (Ex (b:=10) (by have:=b1 r qj x hx;have e:(2:Nat) ^ 10=1024:=ξ;(first|lia|omega)) ξ)) (pa (jO l hm y hy)),hR⟩) ow nT (by rw[lw l hm];(first|lia|omega)) hZ fun H8 s8 u9=>⟨Z,AA (·*·) r l,rfl,SqL.of u9,rfl,_,rfl,?_⟩);have e:(AA (·*·) r l).sum=0:=mG r qj l hm;rw[e,decide_eq_true rfl];exact aP ⟨_,rfl,s7.trans s8⟩
     ·rintro σ H7 ⟨G,rfl,s7⟩
      exact⟨_,_,rfl,cm.trans s7⟩
    rintro σ H5 ⟨T,G,rfl,Y⟩;have l5:=l4.same Y;have c5:=Y _ _ aT;have lZ:=gT.same Y;refine⟨_,rfl,D,_,rfl,.inl (SqL.of c5),_,rfl,L,rs,tb,rfl,SqL.of l5.hL,l5.hT,fun H6 s6=>?_⟩;have l6:=l5.same s6;refine⟨_,rfl,W,ak,tb,gN,gn,gm,rfl,l6.hd,l6.hr,it,ok,fun H7 u' bF v' bP ab s7 yA=>⟨_,_,rfl,rfl,rfl,_,rfl,?_⟩⟩;have es:=uq _ _ _ _ _ yA;subst es;rw[Ab,i4,decide_eq_true (show(ds.length:Int)=(wid tb:Int)-(ab.length:Int) from ω)];have kx:=s6.trans s7;have dW:=kx _ _ c5;have o7:=lZ.same kx;obtain⟨lN,ln,lm,nI⟩:=id qZ;refine aP ⟨_,rfl,D,rfl,⟨_,SqL.of dW⟩,fun C hC=>zB (EV (SqL.of dW) o7 ω hC fun H8 cs s8 tS y6 _ _=>?_)⟩;refine⟨C,cs,S,lN,ln,lm,rfl,tS,y6,lit,nI,fun H9 u2 BR v2 Dh dH s9 sD=>?_⟩;have mT:=s8.trans s9;have ge:=mT _ _ dW;have j_:=o7.same mT;refine⟨_,rfl,D,_,rfl,.inl (SqL.of ge),rfl,_,rfl,?_⟩;rw[Ab,i4,decide_eq_true (show((dH.length:Nat):Int)=((ds.length:Nat):Int) by rw[full' _ _ _ _ _ sD,oT])];refine aP ?_;have nE:=s4.trans (Y.trans (kx.trans mT));have l9:=l3.same nE;have il:=fun(En:Ends)(kk:∀(T G v9 O:Option V)(dw:Hp),Same H0 dw->En.nx [some (.ref a),some (.ref p),some (.ref L),some J,some (.ref W),some (.int (0+(i:Int))),some (.ref D),T,G,v9,O] dw)(pT:Hp)(sq:Same H9 pT)=>kt En p L W D J (some (.int (0+(i:Int)))) T G v9 O ds S H0 pT ((sm.trans (s3.trans nE)).trans sq) (sq _ _ ge) (j_.same sq) nd (fun d hd=>⟨sm.free (eF d hd).1,(eF d hd).2⟩) (sm.free hD) lz (fun r hr=>by rw[lw r hr];exact t2) kk;refine⟨_,rfl,rfl,_,rfl,?_⟩;rcases nA with rfl|⟨N,y,rfl,hN,ly,sy,z0,z1⟩
    ·rw[decide_eq_true rfl]
     refine aP (il _ ?_ H9 (Same.refl _));intro _ _ _ _ dw fB;exact⟨_,_,_,_,_,_,rfl,fB⟩
    rw[show decide (V.ref N=V.non)=false from rfl];have mO:=nE _ _ hN;refine aV ⟨_,rfl,ξ,fun q hq=>?_⟩;have sq:=Same.new (o:=.lst []) hq;refine Io (neg:=false) (rs:=ds) (ms:=[]) (sq _ _ ge) (j_.same sq) af .nil ⟨_,rfl,?_⟩;generalize upd H9 q (.lst [])=Hq at sq ⊢;rw[if_neg (show ¬(false=true) from ξ)]
    by_cases c:S=[]
    ·rw[decide_eq_true c]
     refine aV ⟨_,rfl,N,rfl,⟨_,SqL.of (sq _ _ mO)⟩,fun Z hZ=>zB (QE (p:=fun x=>!decide (x=0)) (fun x H' R hx hR=>⟨_,rfl,rfl,_,rfl,by rw[i4];exact hR⟩) (sq _ _ mO) ω hZ fun yM lJ mF=>⟨Z,_,rfl,.inl (SqL.of mF),rfl,?_⟩)⟩;have e:y.filter (fun x=>!decide (x=0))=[]:=List.filter_eq_nil_iff.mpr fun x hx=>by rw[z0 c x hx];decide
     rw[e];exact k _
    rw[decide_eq_false c];obtain⟨sv,tk,ti⟩:=z1 c;have hp:=List.length_pos_iff.mpr c;have ew:wid S=wid tb:=gU lw fun h=>ω
    refine aP ⟨_,rfl,D,rfl,⟨_,SqL.of (sq _ _ ge)⟩,fun C2 xt=>zB (EV (SqL.of (sq _ _ ge)) (j_.same sq) ω xt fun yM x_ lJ lW ni _ _=>?_)⟩;refine⟨C2,x_,S,rfl,lW,ni,lit,fun TT Cr ts qF _ tE xp _ _=>?_⟩;refine⟨_,rfl,N,_,rfl,.inl (SqL.of ((sq.trans (lJ.trans qF)) _ _ mO)),fun N2 xS=>?_⟩;have c8:=Same.new (o:=.lst (y.map V.int)) xS;refine Q4 (E:=E0) (c8 _ _ tE) (xp.same c8) ti tk af (by rw[lL,ew];exact ly) (fun x hx=>Ae (sy x hx) (Ae (by decide:9<=2 ^ 4) (AC ξ ξ))) fun uD r b a_ An=>?_;obtain⟨yb,_,rest,mn,_⟩:=An;have:b=true:=yb.mpr sv;subst this;refine⟨r,_,_,_,rfl,rfl,SqT.of mn,zj (j:=0) rfl,rfl,_,rfl,?_⟩;rw[show decide (V.str (kd true)=V.str "yes")=true from δ];refine aP (il _ ?_ uD (sq.trans (lJ.trans (qF.trans (c8.trans a_)))));intro _ _ _ _ dw fB;exact⟨_,_,_,_,_,_,rfl,fB⟩
   ·rintro σ H2 ⟨v5,v6,T,G,v9,O,rfl,sm⟩
    exact k _
  obtain⟨BH,nv,yU⟩:=T6;have T5:∃tt,PSs (de aG P w K mg base ib "law" (zf c9) f ah A outer s H E).nox (List.drop 5 (zaA c9)) tt/\∀(p L:Addr)(J:V)(rs:List Addr)(tb:Ξ)(H':Hp),
    H' L=some (.lst (rs.map V.ref))->Rws H' rs tb->bW tb=true->jt tb->(∀r∈tb,Bnd 1000 r)->kO tb->zii H' J tb->
    tt {nx:=fun _ H'=>Q .non H',rt:=Q} [some (.ref a),some (.ref p),some (.ref L),some J,none,none,none,none,none,none,none] H':=by
   refine⟨_,zc (i' (i:=4) fU.nd rfl (Or.inl rfl) ib ["row"] [none] (zM (pv 2)) (fun I C s₀ H₀ ex=>zk (i:=0) (a9 ["row"]) rfl (Or.inl rfl)) (fun I C s₀ H₀ ex=>zC) (fun I C s₀ H₀ ex=>i6 zV rfl B.list ma (za (pv 0) zb)) (te:=Dt K) (hfr:=bC δ)) nv,?_⟩;intro p L J rs tb H0 hL hT it to b1 iM kU;obtain⟨t1,t2,t3⟩:=qM it;refine⟨_,rfl,L,rfl,⟨_,SqL.of hL⟩,fun W rf=>zB (EV (SqL.of hL) hT ω rf fun H1 es s1 ko rZ _ _=>?_)⟩;exact yU p L W J rs es tb H1 ⟨s1 _ _ hL,hT.same s1,ko,rZ⟩ it to b1 iM (kU.same s1)
  obtain⟨BO,jG,og⟩:=T5;have T3:∃tt,PSs (de aG P w K mg base ib "law" (zf c9) f ah A outer s H E).nox (List.drop 3 (zaA c9)) tt/\∀(p L:Addr)(rs:List Addr)(tb:Ξ)(H':Hp),
    zS H' p->H' L=some (.lst (rs.map V.ref))->Rws H' rs tb->L≠p->(∀d∈rs,d≠p)->bW tb=true->jt tb->(∀r∈tb,Bnd 1000 r)->kO tb->
    tt {nx:=fun _ H'=>Q .non H',rt:=Q} [some (.ref a),some (.ref p),some (.ref L),none,none,none,none,none,none,none,none] H':=by
   refine⟨_,zc (zp (i:=3) fU.nd rfl (Or.inr rfl) Iu)
    (zc (cF (zy hH (ze Gt M rfl mt Ft.kp bt .nil ag (za (pv 1) (za zd zb))) zd (ap _))
     (zc (zp (i:=3) fU.nd rfl (Or.inr rfl) (ze mK hr3 rfl BB Fls.kp xT .nil ag (za (pv 1) (za (zA dP zd (ze Gt M rfl mt Ft.kp bt .nil ag (za (pv 1) (za zd zb)))) zb))))
     (zh (i' (i:=2) fU.nd rfl (Or.inl rfl) ib ["row","box","numbers"] [none,some 1,some 3] (iw rfl B.range (za (zA dP zd (ze Gt M rfl mt Ft.kp bt .nil ag (za (pv 1) (za zd zb)))) zb)) (fun I C s₀ H₀ ex=>zk (i:=0) (a9 ["row","box","numbers"]) rfl (Or.inl rfl)) (fun I C s₀ H₀ ex=>zC)
      (fun I C s₀ H₀ ex=>ze kg dj rfl rh Fbs.kp wA .nil ag (za (pv 1) (za (pv 2) zb))) (te:=gp Il [] E0 (b_ (ar 1) (b_ (ar 2) bE))) (hfr:=bD (zf c9) δ)))) zR) jG),?_⟩
   intro p L rs tb H0 hb hL hT nL nr it to b1 iM;refine⟨_,rfl,p,_,rfl,hb,ξ,ξ,fun z H1 _ _ cS cR=>⟨rfl,_,rfl,eA (fun _=>?_) (fun _=>?_)⟩⟩
   ·refine⟨_,rfl,_,rfl,p,_,rfl,cR,ξ,ξ,fun z2 H2 rE CL eh bH=>⟨_,_,rfl,rfl,?_⟩⟩
    obtain⟨m,rfl⟩:=Int.eq_ofNat_of_zero_le rE;refine⟨p,1+m,by show [V.ref p,V.int (1+(m:Int))]=_;rw[show(1:Int)+(m:Int)=((1+m:Nat):Int) from ω],ω,bH,fun N X ys eV hb3 hN yP ly sy=>?_⟩;have nN:=eN bH hN;refine⟨_,rfl,p,_,rfl,hb3,ξ,ξ,fun z3 H4 CZ Cz bI bN=>⟨_,_,rfl,rfl,_,rfl,ω,ω,fun D hD=>?_⟩⟩;have oB:=bI _ _ nN yP;refine zB (Lp (n:=(1+z3).toNat) (Pr:=L5 ys) bN (fun j H' R wl aN hR=>⟨_,rfl,_,rfl,p,N,ys,rfl,aN,wl _ _ nN oB,nN,ω,ω,sy,fun D2 H5 fs eI ee dL mS bs=>hR D2 H5 fs eI ee dL mS bs⟩) ω hD fun H5 ds iq eI ee c5 lZ CH gC _=>?_);have yI:1<=iq.length:=ω
    have ew:wid iq=ys.length:=gU (fun r hr=>(gC r hr).1) fun h=>ω
    obtain⟨i1,i2,i3⟩:=EY iT (tb:=iq) (c:=ys.length) (b:=36) (fun r hr=>⟨(gC r hr).1,(gC r hr).2.1⟩) ω ω ξ;have en:Ent iq (2 ^ 6):=EX (m:=36) (fun r hr=>(gC r hr).2.1) ξ;refine og p D (.ref N) ds iq H5 c5 lZ i1 i2 (fun r hr=>(gC r hr).2.1.mono ξ) (Im iU en ω) (.inr ⟨N,ys,rfl,eI _ _ nN oB,ew.symm,sy,fun s hs=>?_,Rh en ω⟩);have hr:=gC _ (Ao hs);have e:=hr.2.2;rw[t_ hr.1,hr.1] at e;rw[ew];unfold fn;rw[zw (Aa hs)];exact e
   ·exact og p L .non rs tb H1 (cS _ _ nL hL) (hT.sameB cS nr) it to b1 iM (.inl rfl)
  obtain⟨CM,kM,qJ⟩:=T3;refine⟨_,zc (zp (i:=1) fU.nd rfl (Or.inr rfl) (ze Gb M rfl mb Fb.kp bb .nil ag (za (ze Gc M rfl mc Fc.kp bc .nil ag (za (pv 0) (za zd zb))) zb)))
   (zc (zp (i:=2) fU.nd rfl (Or.inl rfl) (ze kL hr3 rfl y7 Ftb.kp sx .nil ag (za (pv 1) (za (zx zt (iz (za zd (za zd (za zd (za zd (za zd (za zd (za zd (za zd zb))))))))) (ze Gt M rfl mt Ft.kp bt .nil ag (za (pv 1) (za zd zb))) (fun _ _=>rfl)) zb))))
   (zc (cF (zy hH (ze Gt M rfl mt Ft.kp bt .nil ag (za (pv 1) (za zd zb))) zd (ap _)) (zh (zp (i:=2) fU.nd rfl (Or.inl rfl) (ze jI dj rfl sC Fwt.kp ya .nil ag (za (pv 1) (za zd (za zd zb)))))) zR) kM)),?_⟩
  refine⟨_,rfl,a,ns,0,rfl,hs,fun n1=>⟨n1,rfl,fun p x y hp vW=>?_⟩⟩;have cR:zS (upd H p (.lst [.int x,.int y])) p:=⟨x,y,af,vW⟩;refine⟨_,rfl,zE (by simp),fun q hq=>⟨_,rfl,p,_,rfl,cR.new hq,ξ,ξ,fun z H1 z0 z1 cS bH=>?_⟩⟩;obtain⟨g,eg,g6⟩:∃g:Nat,atI [V.int 4,.int 4,.int 4,.int 4,.int 4,.int 4,.int 4,.int 6] z=some (.int g)/\g<=6:=by
   have:z=0\/z=1\/z=2\/z=3\/z=4\/z=5\/z=6\/z=7:=ω
   rcases this with rfl|rfl|rfl|rfl|rfl|rfl|rfl|rfl
   all_goals first|exact⟨4,rfl,ξ⟩|exact⟨6,rfl,ξ⟩
  have hpq:q≠p:=eN cR hq;refine⟨q,_,_,_,rfl,rfl,SqL.of (cS _ _ hpq af),eg,p,g,rfl,g6,bH,fun L H2 c n hc ej T1=>?_⟩;refine⟨_,rfl,p,_,rfl,T1.choose_spec.choose_spec.2.1,ξ,ξ,fun z2 X _ _ eV hb3=>⟨rfl,_,rfl,eA (fun _=>?_) (fun _=>?_)⟩⟩
  ·refine⟨_,rfl,p,rfl,hb3,fun L2 H4 c2 n2 sE gj T2=>?_⟩
   obtain⟨ds,tb,bI,bN,hF,cH,hl,ei,eF,h0⟩:=T2;obtain⟨i1,i2,i3⟩:=EY pE ei ω ω ξ;exact qJ p L2 ds tb H4 bN hF cH (eN hb3 h0) (fun d hd=>eN hb3 (eF d hd).1) i1 i2 (fun r hr=>(ei r hr).2.mono ξ) (Im kI (EX (fun r hr=>(ei r hr).2) ξ) (L7 ei ω))
  ·obtain⟨ds,tb,bI,bN,hF,cH,hl,ei,eF,h0⟩:=T1
   obtain⟨i1,i2,i3⟩:=EY iT ei ω ω ξ;have nL:=eN bH h0;have nr:=fun d hd=>eN bH (eF d hd).1;exact qJ p L ds tb X hb3 (eV _ _ nL hF) (cH.sameB eV nr) nL nr i1 i2 (fun r hr=>(ei r hr).2) (Im pN (EX (fun r hr=>(ei r hr).2) ξ) (L7 ei ω))
end
end K26
end
section
namespace L2
open PySem PySem.Spec PyProof.Rows
section
variable{P:Program}{w:World}{K:Ah}{mg:Str->Option Value}{base:Heap}{CX:gh}{k:Nat}{f:Addr}{fd:FuncData}{x:Str}{st:Stmt}{ps:List Str}{sp sq:Sp}
structure Df(K:Ah)(x:Str)(st:Stmt)(f:Addr):Prop where
 ex:∃fd,Fun K x x st f fd
 a:PySem.W.nsIn K mainGlobals x=some (some (.ref f))
def Iq{i:Value}{j g:Option Addr}{h:Array (Option Value)}{kV d e b ct:Value}(a:PySem.W.nsIn K mainGlobals x=some (some (.ref f)))(l:K.lookup f=some ⟨i,j,.func (PySem.W.fnOf x x (zce st) (zaA st) (zf st) .none kV d e g b ct),h⟩)(c:PySem.W.codeIn K b x=true)(k:PySem.W.keepIn K (.ref f)=true):Df K x st f:=⟨⟨_,Nb l c k⟩,a⟩
structure Nn(K:Ah)(x:Str)(v:Option Value):Prop where
 e:PySem.W.nsIn K mainGlobals x=some v
abbrev BA(x:Str)(st:Stmt)(us:List Value)(r:List (Str×Value)):Prop:=∀(kV aW pm:Value)(an:Option Addr)(ah ct:Value),bindArgs (PySem.W.fnOf x x (zce st) (zaA st) (zf st) .none kV aW pm an ah ct) ⟨us,[]⟩=pure r
variable{h:Heap}(X:K.In h)(G:h.Ns mainGlobals mg)
include X G
theorem Nn.m{v:Value}(n:Nn K x (some v)):mg x=some v:=PySem.W.mg_of X G n.e
theorem Nn.n(n:Nn K x none):mg x=none:=PySem.W.mg_none_of X G n.e
theorem Df.m(D:Df K x st f):mg x=some (.ref f):=PySem.W.mg_of X G D.a
theorem Df.g1(D:Df K x st f)(p:Str)(hb:∀a,BA x st [a] [(p,a)]:=by exact fun _ _ _ _ _ _ _=>rfl):∃fd,Fun K x x st f fd/\Binds K fd [p] []/\mg x=some (.ref f):=by
 obtain⟨⟨fd,F⟩,a⟩:=D;refine⟨fd,F,F.binds fun _ _ _ _ _ _ us b=>?_,PySem.W.mg_of X G a⟩
 match us,b with
 |[a],_=>exact hb a _ _ _ _ _ _
theorem Df.g2(D:Df K x st f)(p q:Str)(hb:∀a b,BA x st [a,b] [(p,a),(q,b)]:=by exact fun _ _ _ _ _ _ _ _=>rfl):∃fd,Fun K x x st f fd/\Binds K fd [p,q] []/\mg x=some (.ref f):=by
 obtain⟨⟨fd,F⟩,a⟩:=D;refine⟨fd,F,F.binds fun _ _ _ _ _ _ us c=>?_,PySem.W.mg_of X G a⟩
 match us,c with
 |[a,b],_=>exact hb a b _ _ _ _ _ _
theorem Df.g3(D:Df K x st f)(p q r:Str)(hb:∀a b c,BA x st [a,b,c] [(p,a),(q,b),(r,c)]:=by exact fun _ _ _ _ _ _ _ _ _=>rfl):∃fd,Fun K x x st f fd/\Binds K fd [p,q,r] []/\mg x=some (.ref f):=by
 obtain⟨⟨fd,F⟩,a⟩:=D;refine⟨fd,F,F.binds fun _ _ _ _ _ _ us d=>?_,PySem.W.mg_of X G a⟩
 match us,d with
 |[a,b,c],_=>exact hb a b c _ _ _ _ _ _
theorem Df.g4(D:Df K x st f)(p q r s:Str)(hb:∀a b c d,BA x st [a,b,c,d] [(p,a),(q,b),(r,c),(s,d)]:=by exact fun _ _ _ _ _ _ _ _ _ _=>rfl):∃fd,Fun K x x st f fd/\Binds K fd [p,q,r,s] []/\mg x=some (.ref f):=by
 obtain⟨⟨fd,F⟩,a⟩:=D;refine⟨fd,F,F.binds fun _ _ _ _ _ _ us e=>?_,PySem.W.mg_of X G a⟩
 match us,e with
 |[a,b,c,d],_=>exact hb a b c d _ _ _ _ _ _
omit X G
end
end L2
end
section
namespace K26
open PySem L2
def Rj{l:PySem.W.OpenLaw}{w:World}{K:Ah}{h:Heap}{mg:Str->Option Value}{fa f1 f2 f3 f4 f5 f6 f7 f8 f9 uM xI ym xN uc vy uh tD r9 rO xX tH yg vm rL rD wO A_ xH ur vg Bq tZ rS wq xl uL sF xm Bz w_ qV wQ yy y_ xJ yD yY sN vd vC ut :Addr}{tr tc:Tok}(X:K.In h)(G:h.Ns mainGlobals mg)(xM:mg "law"=some (.ref fa))(d1:Df K "is_table" wp f1)(d2:Df K "width_of" k5 f2)(d3:Df K "must_be_table" qD f3)(d4:Df K "row_by" wt f4)(d5:Df K "sum_by" D3 f5)(d6:Df K "columns_of" nH f6)(d7:Df K "columns_to" qL f7)(d8:Df K "column_of" iB f8)(d9:Df K "stepped" C3 f9)(gi:Df K "are_steps" Ep uM)(ux:Df K "on_slope" y2 xI)(uF:Df K "slope_row" yQ ym)(uX:Df K "steps_of" EJ xN)(wk:Df K "rank" EK uc)(uQ:Df K "paper_of" CV vy)(yZ:Df K "is_in_steps" Es uh)(v_:Df K "unit" Eo tD)(uu:Df K "is_on_slope" zz r9)(sV:Df K "slope_of" A' rO)(uY:Df K "straightened" ek xX)(yX:Df K "echelon_of" j9 tH)(uI:Df K "take_in" Em yg)(xa:Df K "reduced" jQ vm)(wn:Df K "less" k8 rL)(wF:Df K "first_place" Ea rD)(sj:Df K "divisor_pair" xB wO)(uo:Df K "mix_of_two" xn A_)(yh:Df K "mix_of" j' xH)(rM:Df K "shares_of" jU ur)(uB:Df K "slid" Er vg)(vw:Df K "turned_over" E_ Bq)(yB:Df K "solved" E4 tZ)(tM:Df K "must_have_goal" E1 rS)(tR:Df K "solved_by" E3 wq)(uW:Df K "is_so_many_times" EZ xl)(vz:Df K "leaves" E6 uL)(sO:Df K "leaves_of" E7 sF)(y4:Df K "_law_cell_at" EN xm)(sf:Df K "_law_box" kC Bz)(xh:Df K "_law_take" l7 w_)(vh:Df K "_law_row" gP qV)(uP:Df K "_law_table" kD wQ)(qS:Df K "_law_wide" EQ yy)(vX:Df K "_law_whole" Dq y_)(yK:Df K "_law_row_like" ER xJ)(vK:Df K "_law_table_like" ES yD)(xj:Df K "_law_wide_table" Dr yY)(yv:Df K "_law_common" E8 sN)(yp:Df K "_law_list" Dv vd)(vD:Df K "_law_beside" E' vC)(oa:Df K "law" c9 ut)(gr:Nn K "MOST_ROWS" (some (.int 40 tr)))(gc:Nn K "MOST_COLUMNS" (some (.int 40 tc)))(z1:Nn K "len" none)(z2:Nn K "all" none)(z3:Nn K "zip" none)(z4:Nn K "sum" none)(z5:Nn K "range" none)(z6:Nn K "list" none)(z7:Nn K "int" none)(z8:Nn K "bool" none)(z9:Nn K "isinstance" none)(oN:Nn K "max" none)(wG:Nn K "sorted" none)(vk:Nn K "tuple" none)(xF:Nn K "enumerate" none)(sH:Nn K "min" none)(vZ:Nn K "abs" none):∃fd:FuncData,(∀(s:Shared)(v:Value),BindsTo s fd ⟨[v],[]⟩ [("script",v)])/\∀base:Heap,K.In base->base.Ns mainGlobals mg->al l.prog w K mg base aG 10 fa fd ["script"] (Fd K):=by
 cases xM.symm.trans (oa.m X G);have B:iR mg:=⟨z1.n X G,z2.n X G,z3.n X G,z4.n X G,z5.n X G,z6.n X G,z7.n X G,z8.n X G,z9.n X G,oN.n X G⟩;obtain⟨g1,F1,b1,m1⟩:=d1.g1 X G "table";obtain⟨g2,b,c,m2⟩:=d2.g1 X G "table";obtain⟨g3,r,x,y⟩:=d3.g1 X G "table";obtain⟨g4,F4,b4,m4⟩:=d4.g2 X G "row" "columns";obtain⟨g5,F5,b5,m5⟩:=d5.g2 X G "row" "column";obtain⟨g6,g,i,j⟩:=d6.g1 X G "table";obtain⟨g7,I,N,O⟩:=d7.g2 X G "table" "width";obtain⟨g8,F8,b8,m8⟩:=d8.g2 X G "table" "k";obtain⟨g9,J,Q,S⟩:=d9.g1 X G "table";obtain⟨Cg,T,z_,qX⟩:=gi.g2 X G "steps" "most";obtain⟨C9,U,rT,wL⟩:=ux.g3 X G "numbers" "size" "width";obtain⟨CI,z,Y,Z⟩:=uF.g3 X G "numbers" "k" "width";obtain⟨B_,oV,uJ,qY⟩:=uX.g1 X G "table";obtain⟨Ca,oK,Bx,tV⟩:=wk.g1 X G "table";obtain⟨Cu,A,oi,p6⟩:=uQ.g2 X G "table" "width";obtain⟨C0,nM,xU,yt⟩:=yZ.g1 X G "table";obtain⟨C8,qk,yS,vO⟩:=v_.g1 X G "size";obtain⟨Cp,C,pb,qg⟩:=uu.g1 X G "table";obtain⟨Cy,D,pf,nV⟩:=sV.g1 X G "table";obtain⟨B5,oC,xu,tw⟩:=uY.g2 X G "side" "width";obtain⟨C_,oF,BE,rF⟩:=yX.g1 X G "rows";obtain⟨C7,oh,yG,ua⟩:=uI.g2 X G "found" "row";obtain⟨C5,qc,xY,yN⟩:=xa.g3 X G "row" "found" "places";obtain⟨BG,d,o,p⟩:=wn.g3 X G "row" "often" "other";obtain⟨BP,qN,wH,yJ⟩:=wF.g1 X G "row";obtain⟨C1,pJ,vJ,u5⟩:=sj.g2 X G "one" "other";obtain⟨CC,oJ,xD,rY⟩:=uo.g4 X G "often" "row" "other_often" "other";obtain⟨BX,pD,wI,wX⟩:=yh.g2 X G "numbers" "rows";obtain⟨Cc,qf,rC,vL⟩:=rM.g2 X G "row" "found";obtain⟨BT,oz,Bs,tU⟩:=uB.g2 X G "side" "count";obtain⟨Dp,qI,sn,yO⟩:=vw.g1 X G "table";obtain⟨Di,nX,u6,wz⟩:=yB.g2 X G "table" "goal";obtain⟨CA,pi,vp,yi⟩:=tM.g2 X G "table" "goal";obtain⟨BI,nS,t6,vG⟩:=tR.g2 X G "paper" "goal";obtain⟨BK,nW,uk,yc⟩:=uW.g2 X G "total" "number";obtain⟨Co,oQ,we,wg⟩:=vz.g1 X G "table";obtain⟨Ce,pH,uN,vo⟩:=sO.g1 X G "paper";obtain⟨Cl,vU,vV,tY⟩:=y4.g2 X G "script" "k";obtain⟨B3,u8,uO,wm⟩:=sf.g1 X G "cell";obtain⟨BV,e,f,a⟩:=xh.g2 X G "box" "most";obtain⟨CY,E,p3,o8⟩:=vh.g3 X G "box" "columns" "wide";obtain⟨BW,pk,s_,vI⟩:=uP.g2 X G "box" "most";obtain⟨Ct,oI,uw,vi⟩:=qS.g1 X G "table";obtain⟨Cq,pq,pc,qv⟩:=vX.g1 X G "found";obtain⟨Cw,p0,sM,q_⟩:=yK.g1 X G "found";obtain⟨BS,qA,vj,q8⟩:=vK.g1 X G "found";obtain⟨BM,om,xf,rN⟩:=xj.g3 X G "box" "least" "more";obtain⟨Ck,pC,wE,xR⟩:=yv.g2 X G "one" "other";obtain⟨Db,p5,uC,vq⟩:=yp.g2 X G "box" "size";obtain⟨CQ,pK,uj,uS⟩:=vD.g2 X G "box" "numbers";obtain⟨⟨gL,FL⟩,_⟩:=oa;refine⟨gL,?_,fun base _ _=>?_⟩
 ·obtain⟨_,_,_,_,_,_,_,_,_,rfl,_,_⟩:=FL.ex;exact fun s v=>.of_eq rfl
 have F:=wG.n X G;have j7:=vk.n X G;have H:=xF.n X G;have Do:=sH.n X G;have nr:=gr.m X G;have nc:=gc.m X G;have L:=Gy (P:=l.prog) (w:=w) (mg:=mg) (base:=base) b B.len;have Gi:=NQ (P:=l.prog) (w:=w) (mg:=mg) (base:=base) F1 B.len B.all nr nc b c m2;have M:=Qf r F1 b1 m1 Gi;have nQ:=NW (P:=l.prog) (w:=w) (mg:=mg) (base:=base) I B.range F8 b8 m8;have u:=NY g B.len I N O nQ b c m2;have uE:=O2 (P:=l.prog) (w:=w) (mg:=mg) (base:=base) F5 B.zip B.sum;have wJ:=O4 F4 F5 b5 m5 uE;have q:=N6 (P:=l.prog) (w:=w) (mg:=mg) (base:=base) d B.zip;have yq:=N8 (P:=l.prog) (w:=w) (mg:=mg) (base:=base) oJ B.zip;have tj:=N_ (P:=l.prog) (w:=w) (mg:=mg) (base:=base) qN;have tO:=Oc (P:=l.prog) (w:=w) (mg:=mg) (base:=base) pJ B.zip j7;have rR:=Oj qc d o p q;have tN:=Ol qf F d o p q;have tP:=OP oh F B.range B.len qc xY yN rR qN wH yJ tj pJ vJ u5 tO oJ xD rY yq;have uA:=OQ oF oh yG ua tP;have vR:=OT pD B.zip b c m2 L d o p q;have qt:=OV (P:=l.prog) (w:=w) (mg:=mg) (base:=base) z B.len;have rQ:=OX U B.range z Y Z qt;have Gu:=O0 qk U rT wL rQ;have rz:=O9 (P:=l.prog) (w:=w) (mg:=mg) (base:=base) T B.len B.all B.zip;have yx:=Pa oC B.zip F oF BE rF uA g i j u pD wI wX vR qf rC vL tN;have xi:=Pe oz B.range B.list d o p q;have qE:=Ph C B.all H B.len z Y Z qt;have pR:=Pj (P:=l.prog) (w:=w) (mg:=mg) (base:=base) D H B.len;have rA:=Pm nM B.len C pb qg qE D pf nV pR T z_ qX rz;have pX:=P8 A B.len oC xu tw yx qk yS vO Gu I N O nQ g i j u nM xU yt rA C pb qg qE D pf nV pR oz Bs tU xi;have oG:=Qh J r x y M A oi p6 pX b c m2 L;have rg:=Qj oV J Q S oG;have vM:=Ql oK B.len oV uJ qY rg;have w9:=Lo (P:=l.prog) (w:=w) (mg:=mg) (base:=base) E B e f a;have kL:=Qs (P:=l.prog) (w:=w) (mg:=mg) (base:=base) pk B e f a E p3 o8;have wy:=Qw (P:=l.prog) (w:=w) (mg:=mg) (base:=base) oI B;have Cv:=Lx (P:=l.prog) (w:=w) (mg:=mg) (base:=base) p0 B pq pc qv;have lM:=QC (P:=l.prog) (w:=w) (mg:=mg) (base:=base) qA B p0 sM q_ pq pc qv;have jI:=QG (P:=l.prog) (w:=w) (mg:=mg) (base:=base) om B e f a;have q9:=QO (P:=l.prog) (w:=w) (mg:=mg) (base:=base) nW;have xg:=QR pi B.len r x y M;have vx:=QT nS B.len B.zip H B.list F4 b4 m4 wJ nW uk yc q9;have tW:=QX nX pi vp yi xg nS t6 vG vx A oi p6 pX b c m2 L;have ui:=Q1 pH B.len g i j u;have jH:=Q3 oQ pH uN vo ui J Q S oG;have j4:=Q_ qI r x y M g i j u;have ul:=Q6 (P:=l.prog) (w:=w) (mg:=mg) (base:=base) pC (vZ.n X G);have mK:=Q' p5 (oN.n X G) E p3 o8 w9 pC wE xR ul;have kg:=Ra (P:=l.prog) (w:=w) (mg:=mg) (base:=base) pK B e f a;exact Ri FL B vU vV tY u8 uO wm e f a pk s_ vI kL om xf rN jI oI uw vi wy p5 uC vq mK pK uj uS kg oQ we wg jH qA vj q8 lM oK Bx tV vM nX u6 wz tW qI sn yO j4
def walk{l:PySem.W.OpenLaw}{q:Program}{g:List Str}{p:(Str->Option Value)->Heap->Prop}{b:World->Heap->Prop}{d:DefRec}{K:Params->Ah}(i:l.most=some 63)(j:d.params.defaults=[])(o:∀(w:World)(h:Heap),b w h->(K w.params).In h)(F:∀(w:World)(mg:Str->Option Value)(fa:Addr)(h:Heap),(K w.params).In h->h.Ns mainGlobals mg->mg d.name=some (.ref fa)->
   ∃fd:FuncData,(∀(s:Shared)(u:Value),BindsTo s fd ⟨[u],[]⟩ [("script",u)])/\∀base:Heap,(K w.params).In base->base.Ns mainGlobals mg->al l.prog w (K w.params) mg base aG 10 fa fd ["script"] (Fd (K w.params))):
  PySem.W.WalkO q g p b l.row.toRowW d [] (fun f vs=>PySem.call f vs):=
 L2.IY (n:=63) (k:=10) (x:="script") (CX:=fun _=>aG) (sp:=fun w=>Fd (K w.params)) i ξ j ⟨rfl,ξ,ξ⟩ o F (fun _ _ a ns c _ e=>⟨a,ns,rfl,e,c,fun _=>rfl⟩) fun _ _ _ _ _ z=>z
end K26
open PySem PySem.W PyProof.Rows
structure PySem.W.Fast:Prop where
 (tw10004494560854019028 tw10059173399035392052 tw10068821040951795815 tw10121389087375599905 tw10124665283933243379 tw10172938832820396306 tw10185229831808345496 tw10186415979031225649 tw10242952896831877732 tw10303060433548442712 tw1039796376287071351 tw10443709231528249005 tw1046757497375139748 tw10597881647204890426 tw10619914493542161656 tw10658264303152416376 tw10673594439948721956 tw10718575821143467753 tw10891578751074895342 tw10928638091172824704 tw1097758487834760320 tw11008126809407131178 tw11038207692956682199 tw11043253233386799547 tw11094682852784044690 tw11136028681576919696 tw11264847305907427675 tw11326675763762536039 tw11392299987795957411 tw11438260561021694008 tw11495973290217755954 tw11510293341378501408 tw11521259292834573604 tw11570461296842028785 tw11658952657712800207 tw1167479238246281939 tw11750235412710244916 tw11877420423211709102 tw1199937764747600436 tw12029638425130894705 tw12062447197356944022 tw12074245095776894297 tw12108152921249105765 tw12114044543252184702 tw12262509998990369015 tw12291549003354610493 tw12321323515442779659 tw12398819631870005966 tw12408787970352034649 tw12525722529978010146 tw12589016060951837133 tw12594262355958240914 tw12606089178519432765 tw12664793451168224872 tw12682064112747836564 tw12744367686996524858 tw12748541752008483912 tw12750689658994528855 tw12800997836860462771 tw1280397810647344694 tw12956212574001045402 tw12981038708945285873 tw13026631026172933930 tw13040822486413051320 tw13114142438176249475 tw13251095196541591375 tw13307743572655247575 tw13320291379831476402 tw13348238034485751638 tw13355695533666827938 tw13412587129250407608 tw13417600256178785315 tw13470125526481082813 tw13511152401526748718 tw13612237094796720899 tw13711145254949294464 tw13780433532084838088 tw13813013328742853647 tw13836066474539389590 tw13857587528174120363 tw13914816251031419526 tw13987801670980384617 tw14026302970477736230 tw14050032161774608211 tw14143144758522030631 tw14146723977669945001 tw14187114378375784 tw14216898291353833550 tw14314979225699037451 tw14364962316098448357 tw14480845664356523600 tw14499177590716313152 tw14504782012349683035 tw14616239417291818451 tw14646349479565575360 tw14651156854018993007 tw14682794710747465400 tw1471345114511991686 tw1481052762024501841 tw14812635050832182288 tw14816109365552454522 tw14908373606497571659 tw14925782488537598983 tw14926492815918948023 tw14948539856317471212 tw14989654312462378362 tw15018011306729406816 tw15095661242366405049 tw15145111418716734077 tw15155415304437275218 tw15182788596625605797 tw15290126116576075872 tw1531383288942678249 tw15436674899907420023 tw15484384911396804788 tw15528690726650161694 tw15574210260141454346 tw15632657642197713825 tw15724337758065522604 tw15737235578301991987 tw15769194437012378252 tw15926556400859667977 tw15978046536086365633 tw16041935800473439150 tw16066923932846558001 tw16078477076327854275 tw16096918943071381897 tw16138733209439872873 tw16144502596862017569 tw16146240440472177105 tw16220990973703519567 tw16275055192210466497 tw16293229644087904025 tw16367651558245358783 tw16386940534144437291 tw16394074481026722476 tw16721726991022641088 tw16847326818142013116 tw16848432688080576093 tw16895583134022072637 tw17016536757160588718 tw17129737071168869832 tw17160108034596389798 tw17215906754077379367 tw1722264646916505462 tw17327351406636689338 tw17340223700150711560 tw17520952946690887167 tw17534366451219124275 tw17537502706458298481 tw17574739672477650901 tw17599891878746812269 tw17716865773253300764 tw17740214483888419872 tw1780562225514964912 tw17815767063916068975 tw17934836231062295438 tw17960514895146524004 tw17978964465008301457 tw17984339014019985847 tw1798862024711898482 tw18132064746985092233 tw18162146639702168034 tw18204315476395906620 tw18316637814858766194 tw1836965248313022019 tw1864480938877326412 tw1868546230108365394 tw1983935190531085438 tw2031740181518665710 tw2075201700073421302 tw2143898855754836835 tw224957864924150087 tw2267202985678892487 tw2318390623176533226 tw2327840743684276957 tw2334371733811607621 tw2427597571529100040 tw2534959620754837612 tw2588422313996250674 tw2591045374478707048 tw2622749801478668720 tw2637608975670694973 tw2677835347172770643 tw2766229299565063954 tw2822416154860042877 tw2830537017555621880 tw2835926889482616068 tw2862908265873735322 tw2984941690433326315 tw299131686127759409 tw3030513118557001472 tw3033234053325838914 tw3196849684524205616 tw3203911875639862226 tw3205051368083518415 tw3223646353439763893 tw3286033922584678135 tw3307915481297966399 tw3456303944711952483 tw36170434359048251 tw3638701340123700819 tw3658159025071111011 tw3716229001444659644 tw3751952850044784681 tw3753603572360471837 tw3806861343527996720 tw3822418477825488592 tw3893597586490232503 tw3959049378389428481 tw3975581930243753789 tw3987645684903451612 tw3990666719151901307 tw3993066971544692784 tw4029653721283169480 tw4051473545262220529 tw4130470929432786999 tw4175030556606429527 tw4176169174413260863 tw4196338023991888140 tw4265125067600534854 tw4329356524986398519 tw4337861164982515410 tw4356922245952539569 tw4358067295447907673 tw443576563654035158 tw4548386629069101853 tw4555177475977128699 tw4663087703186036844 tw4703499281329865106 tw4718703159402973447 tw4739950625876193401 tw4743850727912079210 tw4747641871498254885 tw4917721442446737326 tw4938700939038314777 tw5136554559986476237 tw5169532427935855876 tw5257913034697327788 tw5278907069171380034 tw5306047277035990336 tw5401424813781087732 tw5528471764895495689 tw5581417204194210301 tw5589333491849060252 tw5689169283383355941 tw5792692092747406541 tw5871095981534241449 tw5925204612932639500 tw5951123321662045629 tw6056484857815471868 tw6121649279417008833 tw6158755989577138004 tw6188819301157191907 tw6230302936946015253 tw6261596807007605912 tw6414888486919972356 tw6424990753507861063 tw6517111002542307459 tw6523137317177826854 tw6526304172033954955 tw6707811030434707628 tw6761816105825844040 tw6900561972448493009 tw6972337390747058743 tw7026707567204083500 tw706296621892045948 tw713888272947438390 tw7139161834851458248 tw7156773710892885000 tw7160723404336790031 tw7232468800778762033 tw7455519342283044569 tw7472667644519499952 tw7530785257976905869 tw7545830935528437445 tw7576368906293955550 tw7628462572198721959 tw7696866392506934686 tw7856487423203838224 tw7857986801910474865 tw7940967583291499617 tw795408250518931400 tw7976797608440835385 tw8024214514374992495 tw8084199959582415057 tw8103858295505503228 tw8168966670974092170 tw821233642285029864 tw8217922256280585847 tw8262873007652869282 tw8346163265595215828 tw8357040217852420178 tw8429443954868198294 tw8450966032568240970 tw8456962581422994614 tw8557209245490325949 tw856896154750637369 tw8569703425141374105 tw8571790935634105002 tw8674163618998733313 tw874028658602217299 tw8868436179221298044 tw8905977521213639868 tw8923175649316916053 tw8947494891253604818 tw8992887053408888306 tw9042906332571126558 tw904876478661434204 tw9075171758049987919 tw908666404505982131 tw9268931849439845571 tw9338765815802212715 tw9345457893817523632 tw9377818463449481455 tw9388944984545160987 tw9435864616207753276 tw9587944338030422183 tw9613636468243879792 tw9619941193083451423 tw9635970743018154526 tw9693165580246660164 tw9713459191961280186 tw9794206160090635674 tw9867312191780403914 tw9877403246250255071 tw9895028835905539883 tw9966025005405216372:True)
set_option maxRecDepth 100000 in
set_option maxHeartbeats 0 in
theorem PySem.Challenge.cw_seamwright_k26_whole_leaves_holds : PySem.Challenge.rw_seamwright_k26_whole_leaves.Holds := by
 w_on; o_law; k_head; (case hw=>w_witness2)
 k_fill
 refine K26.walk (l:=PySem.Challenge.rw_seamwright_k26_whole_leaves) rfl rfl (fun w h Y=>PySem.W.kIn_of Y) ?F
 case F=>
  intro w mg fa h KX G e_;refine' K26.Rj KX G e_ ?_ ?_ ?_ ?_ ?_ ?_ ?_ ?_ ?_ ?_ ?_ ?_ ?_ ?_ ?_ ?_ ?_ ?_ ?_ ?_ ?_ ?_ ?_ ?_ ?_ ?_ ?_ ?_ ?_ ?_ ?_ ?_ ?_ ?_ ?_ ?_ ?_ ?_ ?_ ?_ ?_ ?_ ?_ ?_ ?_ ?_ ?_ ?_ ?_ ?_ ?_ ?_ ?_ ?_ ?_ ?_ ?_ ?_ ?_ ?_ ?_ ?_ ?_ ?_ ?_ ?_ ?_ ?_
  all_goals try first | refine' L2.Iq ?_ ?_ ?_ ?_ | refine' L2.Nn.mk ?_
  all_goals try first | k_is | kit_is | k_exc
#print axioms PySem.Challenge.cw_seamwright_k26_whole_leaves_holds
end
