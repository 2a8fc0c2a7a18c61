import PyProof.Rows.All
import Wide.All
import OpenK.AllK
import Wide.FinOn
import Lean
import PyProof.EqAt
import PyProof.EqKinds
import PyProof.TupleCall
import PyProof.StationsW
import PyProof.ExcClass3
import OpenK.KOwn
import PyProof.ExcArgsOwn
import KE.KListMore
import KE.KIntText
import KE.KEqDat
import PyProof.MinMaxWalk
import PyProof.SumAny
import PyProof.Rows.SortRuns
import KE.KSortKey
import PyProof.Rows.CallKwBuiltin
import PySem.SetTable
import PyProof.Rows.SetFrom
import PyProof.TupleKey
import PyProof.IsRules
import KE.KRevIter
import PyProof.ListRange
import PyProof.TupleOfGen
import PyProof.CollectIter
import PySem.Challenge.RW_seamwright_k23_papers_judged
import PyProof.FactsAll.set_2
import PyProof.FactsAll.subtypes_5
import KE.KDictList
import KE.KDictSum
import KE.KDictLaws
import PyProof.Rows.Range3
import KE.KStateDown
open List renaming length_map->Aa,getElem?_eq_getElem->Ab,getD_eq_getElem?_getD->Ac,range->Ah,getElem?_map->Aj,mem_of_getElem?->Ak,mem_cons_of_mem->Ao,mem_cons_self->Aq,take_of_length_le->Ar,map_append->At,size_toArray->Au,replicate->Ay,zipWith->AA,getElem_mem->AB,mem_append_right->AF,length_zipWith->AG,length_cons->AH,eq_nil_of_length_eq_zero->AL,getElem?_range->AM,length_append->AN,map_map->AT,ext_getElem->AU,getElem_map->AW,map_cons->AX,all_eq_true->AZ,length_range->A9,getElem_range->Ba,map_congr_left->Bb,getElem_of_mem->Be,mem_of_mem_take->Bg,getElem_zipWith->Bh,pairwise_cons->Bi,length_take->Bo,lookup_cons->Bq
open Nat renaming le_refl->Ad,le_trans->Af,mul_le_mul_left->Al,mul_le_mul_right->Am,lt_of_le_of_lt->Av,pow_le_pow_right->Aw,zero_le->Az,ne_of_lt->AD,lt_of_lt_of_le->AE,mul_le_mul->AO,mul_assoc->AQ,one_le_two_pow->AS,le_add_right->AY,lt_or_ge->Bs
open PySem renaming wpAny_bind->Ae,wpAny_pure->An,bootBuiltins->A8
open PySem.W renaming Frag->Ag
open PySem.Heap renaming get?_push_of_some->Ai,lt_size->Ax,get?_push_size->AI
open Classical renaming byContradiction->AC
open Int renaming natAbs_mul->AJ,mul_assoc->AV,mul_comm->Bp
open Bool renaming false_ne_true->AK,and_eq_true->A7,eq_iff_iff->Bm
open Option.some renaming inj->AR
open PySem.PyData renaming depth->Bj
open PyProof.Rows renaming take_snoc->Bk
open PySem.PassesOwn renaming never->Bl
open PySem.NameKind renaming free->Br
set_option linter.all false
set_option Elab.async false
set_option maxRecDepth 100000
set_option maxHeartbeats 4000000
def δ{p:Prop}(h:p:=by decide +kernel):p:=h
def ω{p:Prop}(h:p:=by (first|lia|omega)):p:=h
def ξ{p:Prop}(h:p:=by decide):p:=h
abbrev Ω:=PySem.Value->PySem.Shared->Prop
abbrev Ξ:=List (List Int)
abbrev Ψ:=List (PySem.Addr×PySem.Obj)
local macro_rules|`($s⁻¹)=>`(($s).heap.objs.size)
section
namespace L2
open PySem PySem.Spec PyProof.Rows
abbrev Key:=Sum Int Str
def nU:Key->Value->Bool
 |.inl k,v=>Value.isInt k v
 |.inr x,v=>Value.isStrOf x v
def DP(w:World):Key->Int
 |.inl k=>hashInt k
 |.inr x=>hashStr w x
def aS:∀{k:Key}{v:Value},nU k v=true->(∃i t,k=Sum.inl i/\v=Value.int i t)\/(∃x t,k=Sum.inr x/\v=Value.str x t)
 |.inl i,v,h=>by
  obtain⟨t,e⟩:=Value.isInt_shape (k:=i) (v:=v) h;exact .inl ⟨i,t,rfl,e⟩
 |.inr x,v,h=>by
  obtain⟨t,e⟩:=Value.isStrOf_shape (x:=x) (v:=v) h;exact .inr ⟨x,t,rfl,e⟩
def Kz(i:Int)(t:Tok):nU (.inl i) (.int i t)=true:=by simp[nU,Value.isInt]
def KB(x:Str)(t:Tok):nU (.inr x) (.str x t)=true:=by simp[nU,Value.isStrOf]
def KC(a b:Int):decide ((Sum.inl a:Key)=Sum.inl b)=(a==b):=by
 by_cases e:a=b
 ·subst e;simp
 ·have h:¬(Sum.inl a:Key)=Sum.inl b:=fun q=>e (Sum.inl.inj q)
  rw[decide_eq_false h];exact(beq_eq_false_iff_ne.mpr e).symm
def KD(a b:Str):decide ((Sum.inr a:Key)=Sum.inr b)=decide (a=b):=by
 by_cases e:a=b
 ·subst e;simp
 ·have h:¬(Sum.inr a:Key)=Sum.inr b:=fun q=>e (Sum.inr.inj q)
  rw[decide_eq_false h,decide_eq_false e]
def KF(a:Int)(b:Str):decide ((Sum.inl a:Key)=Sum.inr b)=false:=decide_eq_false (fun q=>nomatch q)
def KG(a:Str)(b:Int):decide ((Sum.inr a:Key)=Sum.inl b)=false:=decide_eq_false (fun q=>nomatch q)
def eD(prog:Program)(w:World):PySem.KeyKind prog w Key where
 is:=nU
 hash:=DP w
 inj:=fun v a b c hb=>by
  rcases aS c with ⟨i,t,rfl,rfl⟩|⟨x,t,rfl,rfl⟩
  ·rcases aS hb with ⟨j,u,rfl,e⟩|⟨y,u,rfl,e⟩
   ·injection e with e1 _;rw[e1]
   ·exact nomatch e
  ·rcases aS hb with ⟨j,u,rfl,e⟩|⟨y,u,rfl,e⟩
   ·exact nomatch e
   ·injection e with e1 _;rw[e1]
 byValue:=fun k v h=>by
  rcases aS h with ⟨i,t,rfl,rfl⟩|⟨x,t,rfl,rfl⟩<;>rfl
 pyHash:=fun hv h=>by
  rcases aS hv with ⟨i,t,rfl,rfl⟩|⟨x,t,rfl,rfl⟩
  ·exact wpAny_pyHash_int h
  ·exact wpAny_pyHash_str h
 eqBool:=fun d hv h=>by
  rcases aS d with ⟨i,t,rfl,rfl⟩|⟨x,t,rfl,rfl⟩
  ·rcases aS hv with ⟨j,u,rfl,rfl⟩|⟨y,u,rfl,rfl⟩
   ·rw[KC] at h;exact wpAny_eqBool_int h
   ·rw[KF] at h;exact SeqAt.EqAt.int_str i t y u _ _ _ _ h
  ·rcases aS hv with ⟨j,u,rfl,rfl⟩|⟨y,u,rfl,rfl⟩
   ·rw[KG] at h;exact SeqAt.EqAt.str_int x t j u _ _ _ _ h
   ·rw[KD] at h;exact wpAny_eqBool_str h
 «strs»:=fun k x t v h=>by
  rcases aS h with ⟨i,u,rfl,e⟩|⟨y,u,rfl,e⟩
  ·exact nomatch e
  ·injection e with e1 _
   subst e1;cases v<;>rfl
def KH(prog:Program)(w:World)(i:Int)(t:Tok):(eD prog w).is (.inl i) (.int i t)=true:=Kz i t
def KI(prog:Program)(w:World)(x:Str)(t:Tok):(eD prog w).is (.inr x) (.str x t)=true:=KB x t
inductive V where
 |non|bl (b:Bool)|int (i:Int)|str (x:Str)|byt (b:Array UInt8)|flt (b:UInt64)|ref (a:Addr)|ty (n:String)
 deriving DecidableEq
def RelV:V->Value->Prop
 |.non,u=>u=Value.none
 |.bl b,u=>u=Value.bool b
 |.int i,u=>∃t,u=Value.int i t
 |.str x,u=>∃t,u=Value.str x t
 |.byt b,u=>∃t,u=Value.bytes b t
 |.flt b,u=>∃t,u=Value.float b t
 |.ref a,u=>u=Value.ref a
 |.ty n,u=>u=Value.type n
abbrev Vals:List V->List Value->Prop:=Paired RelV
def Vals.length{xs:List V}{us:List Value}(r:Vals xs us):xs.length=us.length:=Paired.length r
def Vals.get:∀{xs:List V}{us:List Value}{i:Nat}{x:V},Vals xs us->xs[i]?=some x->∃u,us[i]?=some u/\RelV x u
 |_,_,_,_,.nil,e=>by simp at e
 |_,_,0,_,.cons r _,e=>by simp at e;subst e;exact⟨_,rfl,r⟩
 |_,_,i+1,x,.cons _ t,e=>by
  obtain⟨u,h1,h2⟩:=Vals.get (i:=i) (x:=x) t (by simpa using e);exact⟨u,by simpa using h1,h2⟩
def Vals.set{x:V}{u:Value}(r:RelV x u):∀{xs:List V}{us:List Value}(i:Nat),Vals xs us->Vals (xs.set i x) (us.set i u)
 |_,_,_,.nil=>.nil
 |_,_,0,.cons _ t=>.cons r t
 |_,_,i+1,.cons q t=>.cons q (Vals.set r i t)
def Vals.append{xs ys:List V}{us a:List Value}(h:Vals xs us)(g:Vals ys a):Vals (xs++ys) (us++a):=by
 induction h with
 |nil=>exact g
 |cons r _ ih=>exact .cons r ih
def Vals.take:∀{xs:List V}{us:List Value}(n:Nat),Vals xs us->Vals (xs.take n) (us.take n)
 |_,_,0,_=>.nil
 |_,_,_+1,.nil=>.nil
 |_,_,n+1,.cons r t=>.cons r (Vals.take n t)
def Vals.drop:∀{xs:List V}{us:List Value}(n:Nat),Vals xs us->Vals (xs.drop n) (us.drop n)
 |_,_,0,r=>r
 |_,_,_+1,.nil=>.nil
 |_,_,n+1,.cons _ t=>Vals.drop n t
def RelO:Option V->Option Value->Prop
 |some v,some u=>RelV v u
 |none,none=>True
 |_,_=>False
def KV{κ:Type}:List (κ×V)->List (κ×Value)->Prop:=Paired fun(p:κ×V)(q:κ×Value)=>p.1=q.1/\RelV p.2 q.2
def kV:Key->V
 |.inl i=>.int i
 |.inr x=>.str x
inductive HO where
 |lst (xs:List V)
 |tup (xs:List V)
 |dK (kvs:List (Key×V))|dT (kvs:List (List Key×V))
 |set (S:Int->Bool) (n:Nat)
 |ins (C dx:Addr) (fs:List (Str×V))
 |own (x:Addr)
 |xd (fs:List (Str×V))
 |met (f x:Addr)
 |rng (lo hi:Int)
 |frz (o:Obj) (u:HO)
 |tbl (ps:Array Value)
 |ext (φ:Heap->Prop)
abbrev Hp:=Addr->Option HO
def upd(H:Hp)(a:Addr)(o:HO):Hp:=fun b=>if b=a then some o else H b
def zc{H:Hp}{a:Addr}{o:HO}:upd H a o a=some o:=by unfold upd;rw[if_pos rfl]
def af{H:Hp}{a b:Addr}{o:HO}(h:b≠a):upd H a o b=H b:=by unfold upd;rw[if_neg h]
def DQ{H:Hp}{a b:Addr}{o u:HO}(h:H a=some o)(h':H b=some u)(d:o≠u):a≠b:=by
 intro e;subst e;rw[h] at h';exact d (AR h')
def zk{H:Hp}{a b:Addr}{o:HO}(h:H a=some o)(h':H b=none):a≠b:=by
 intro e;subst e;rw[h] at h';cases h'
section
variable(P:Program)(w:World)
def zay(H:Hp)(h:Heap)(a:Addr):HO->Prop
 |.lst xs=>xs.length<=sizeLine/\∃(ad:List Value)(n:Nat),Vals xs ad/\h.get? a=some {cls:=.type "list",data:=.seq ad.toArray n}
 |.tup xs=>xs.length<=sizeLine/\∃ad:List Value,Vals xs ad/\IsTup h a ad.toArray
 |.dK kvs=>kvs.length<=sizeLine/\(a==sysModules)=false/\∃vs,KV kvs vs/\h.DictOf (eD P w) a vs
 |.dT kvs=>kvs.length<=sizeLine/\(a==sysModules)=false/\∃xs:List (List Key×Addr×Value),
   Paired (fun(p:List Key×V)(q:List Key×Addr×Value)=>p.1=q.1/\H q.2.1=some (.tup (p.1.map kV))/\RelV p.2 q.2.2) kvs xs/\
   ∃o es ep,h.get? a=some o/\o.ExactDict/\o.data=.dict es ep/\es.toList=xs.map (entryOfKey (tupleKind (eD P w)))/\(xs.map (·.1)).Nodup
 |.set S n=>h.SetOf (intKind P w) a S n
 |.ins C dx fs=>H dx=some (.own a)/\fs.length<=1000/\dx≠a/\h.get? a=some (PySem.W.instObj C dx)/\
   ∃mA,h.Ns1 dx mA/\(∀f,RelO (fs.lookup f) (mA f))/\PySem.Within mA (fs.map (·.1))
 |.own _=>∃o,h.get? a=some o
 |.xd fs=>∃mA,h.Ns1 a mA/\∀f,RelO (fs.lookup f) (mA f)
 |.rng lo hi=>∃t u v,h.get? a=some {cls:=.type "range",data:=.fields #[.int lo t,.int hi u,.int 1 v]}
 |.frz o u=>h.get? a=some o/\zay H h a u
 |.tbl ps=>h.get? a=some {cls:=.none,data:=.fields ps}
 |.met f x=>h.get? a=some (PySem.W.methodObj (.ref f) (.ref x))
 |.ext φ=>φ h/\(∃o,h.get? a=some o)/\∀h1 h2:Heap,φ h1->(∀o,h1.get? a=some o->h2.get? a=some o)->φ h2
def HOk(H:Hp)(h:Heap):Prop:=∀a o,H a=some o->zay P w H h a o
end
section
variable{P:Program}{w:World}{H H':Hp}{h h':Heap}{a:Addr}{o:HO}
def zay.lt(x:zay P w H h a o):a<h.objs.size:=by
 cases o with
 |lst xs=>obtain⟨_,_,_,_,e⟩:=x;exact Ax e
 |tup xs=>obtain⟨_,_,_,p⟩:=x;exact p.lt
 |dK kvs=>obtain⟨_,_,_,_,o,_,_,e,_⟩:=x;exact Ax e
 |dT kvs=>obtain⟨_,_,_,_,o,_,_,e,_⟩:=x;exact Ax e
 |set S n=>obtain⟨o,_,_,_,e,_⟩:=x;exact Ax e
 |ins C dx fs=>obtain⟨_,_,_,e,_⟩:=x;exact Ax e
 |own y=>obtain⟨_,e⟩:=x;exact Ax e
 |xd fs=>obtain⟨_,⟨_,_,_,e,_⟩,_⟩:=x;exact Ax e
 |rng lo hi=>obtain⟨_,_,_,e⟩:=x;exact Ax e
 |frz ob u=>obtain⟨e,_⟩:=x;exact Ax e
 |tbl ps=>exact Ax (show h.get? a=some _ from x)
 |met f y=>exact Ax (show h.get? a=some _ from x)
 |ext φ=>obtain⟨_,⟨_,e⟩,_⟩:=x;exact Ax e
def Paired.mapP{c d:Type}{F G:c->d->Prop}{e:List c}{l₂:List d}(h:Paired F e l₂)(f:∀a b,F a b->G a b):Paired G e l₂:=by
 induction h with
 |nil=>exact .nil
 |cons r _ ih=>exact .cons (f _ _ r) ih
def zay.stay(x:zay P w H h a o)(k:∀b u,(b=a\/H b=some (.own a))->h.get? b=some u->h'.get? b=some u)(j:∀b,H b=some (.own a)->H' b=some (.own a))(l:∀b xs,H b=some (.tup xs)->H' b=some (.tup xs)):zay P w H' h' a o:=by
 induction o with
 |lst xs=>obtain⟨z,ad,n,r,e⟩:=x;exact⟨z,ad,n,r,k _ _ (.inl rfl) e⟩
 |tup xs=>obtain⟨z,ad,r,g,e,c⟩:=x;exact⟨z,ad,r,g,k _ _ (.inl rfl) e,c⟩
 |dK kvs=>obtain⟨z,y,vs,r,g,es,ep,e,c⟩:=x;exact⟨z,y,vs,r,g,es,ep,k _ _ (.inl rfl) e,c⟩
 |dT kvs=>
  obtain⟨z,y,xs,r,g,es,ep,e,c⟩:=x;exact⟨z,y,xs,Paired.mapP r fun p q z=>⟨z.1,l _ _ z.2.1,z.2.2⟩,g,es,ep,k _ _ (.inl rfl) e,c⟩
 |set S n=>obtain⟨g,es,ep,t,e,c⟩:=x;exact⟨g,es,ep,t,k _ _ (.inl rfl) e,c⟩
 |ins C dx fs=>
  obtain⟨d,z,ne,e,mA,⟨i,es,ep,e2,c⟩,r⟩:=x;exact⟨j _ d,z,ne,k _ _ (.inl rfl) e,mA,⟨i,es,ep,k _ _ (.inr d) e2,c⟩,r⟩
 |own y=>obtain⟨g,e⟩:=x;exact⟨g,k _ _ (.inl rfl) e⟩
 |xd fs=>obtain⟨mA,⟨i,es,ep,e,c⟩,r⟩:=x;exact⟨mA,⟨i,es,ep,k _ _ (.inl rfl) e,c⟩,r⟩
 |rng lo hi=>obtain⟨t,u,v,e⟩:=x;exact⟨t,u,v,k _ _ (.inl rfl) e⟩
 |frz g u ih=>obtain⟨e,q⟩:=x;exact⟨k _ _ (.inl rfl) e,ih q⟩
 |tbl ps=>
  have e:h.get? a=some {cls:=.none,data:=.fields ps}:=x;show h'.get? a=some {cls:=.none,data:=.fields ps};exact k a _ (.inl rfl) e
 |met f y=>
  have e:h.get? a=some (PySem.W.methodObj (.ref f) (.ref y)):=x;show h'.get? a=some (PySem.W.methodObj (.ref f) (.ref y));exact k a _ (.inl rfl) e
 |ext φ=>obtain⟨p,⟨o,e⟩,st⟩:=x;exact⟨st _ _ p fun o q=>k _ _ (.inl rfl) q,⟨o,k _ _ (.inl rfl) e⟩,st⟩
def HOk.lt(x:HOk P w H h)(e:H a=some o):a<h.objs.size:=(x a o e).lt
def HOk.fresh(x:HOk P w H h)(e:h.objs.size<=a):H a=none:=by
 cases q:H a with
 |none=>rfl
 |some u=>exact absurd (AE (x.lt q) e) (Nat.lt_irrefl _)
def HOk.kept(x:HOk P w H h)(k:∀b u,h.get? b=some u->h'.get? b=some u):HOk P w H h':=fun a o e=>
 (x a o e).stay (fun b u _ q=>k b u q) (fun _ q=>q) fun _ _ q=>q
def HOk.laid(x:HOk P w H h)(k:∀b u,h.get? b=some u->h'.get? b=some u)(hp:h.objs.size<=a)(new:zay P w (upd H a o) h' a o):HOk P w (upd H a o) h':=fun b u e=>by
 have d:=x.fresh hp
 by_cases hb:b=a
 ·subst hb;rw[zc] at e;cases e;exact new
 ·rw[af hb] at e
  exact(x b u e).stay (fun c v _ q=>k c v q) (fun c q=>by rw[af (zk q d)];exact q) fun c xs q=>by rw[af (zk q d)];exact q
end
def Rd(H:Hp)(a:Addr)(u:HO):Prop:=H a=some u\/∃o,H a=some (.frz o u)
def Rd.of{H:Hp}{a:Addr}{u:HO}(h:H a=some u):Rd H a u:=.inl h
def Rd.ok{P:Program}{w:World}{H:Hp}{h:Heap}{a:Addr}{u:HO}(r:Rd H a u)(x:HOk P w H h):zay P w H h a u:=by
 rcases r with r|⟨o,r⟩
 ·exact x a u r
 ·obtain⟨_,q⟩:=x a _ r
  exact q
def qN:Option HO->Prop
 |some (.lst _)=>True
 |some (.dK _)=>True
 |some (.dT _)=>True
 |some (.set _ _)=>True
 |some (.ins _ _ _)=>True
 |some (.ext _)=>True
 |_=>False
section
variable{P:Program}{w:World}{H:Hp}{h h':Heap}{x e:Addr}{o':HO}
def HOk.write(ok:HOk P w H h)(mu:qN (H x))(g:e=x\/H e=some (.own x))(k:∀b u,b≠e->h.get? b=some u->h'.get? b=some u)(j:∃u,h'.get? e=some u)(new:zay P w (upd H x o') h' x o'):HOk P w (upd H x o') h':=fun b u q=>by
 have d:∀c y,H c=some (.own y)->c≠x:=fun c y r z=>by subst z;rw[r] at mu;exact mu
 have f:∀c xs,H c=some (.tup xs)->c≠x:=fun c xs r z=>by subst z;rw[r] at mu;exact mu
 by_cases hb:b=x
 ·subst hb;rw[zc] at q;cases q;exact new
 ·rw[af hb] at q
  by_cases a:b=e
  ·have i:H b=some (.own x):=by
    rcases g with z|z
    ·exact absurd (a.trans z) hb
    ·rw[a];exact z
   rw[q] at i;cases i;obtain⟨v,hv⟩:=j;exact⟨v,by rw[a];exact hv⟩
  ·refine(ok b u q).stay (fun c v hc r=>k c v ?_ r) (fun c r=>by rw[af (d c b r)];exact r) fun c xs r=>by rw[af (f c xs r)];exact r
   rcases hc with rfl|hc
   ·exact a
   ·rintro rfl
    rcases g with z|z
    ·exact d c b hc z
    ·rw[hc] at z;cases z;exact hb rfl
end
structure Un(fs ex:List Addr)(H H':Hp)(h h':Heap):Prop where
 keep:∀b o,h.get? b=some o->H b=none->b∉fs->b∉ex->h'.get? b=some o
 slot:∀b o,h.get? b=some o->H b=none->b∈fs->b∉ex->∃sl,h'.get? b=some {o with slots:=sl}
 free:∀b o,h.get? b=some o->H b=none->b∉ex->H' b=none
 there:∀b o,h.get? b=some o->b∉ex->∃o',h'.get? b=some o'
 tups:∀b xs,H b=some (.tup xs)->H' b=some (.tup xs)
 frzs:∀b o u,H b=some (.frz o u)->H' b=some (.frz o u)
 tbls:∀b ps,H b=some (.tbl ps)->∃more,H' b=some (.tbl (ps++more))
section
variable{fs yt ex yM:List Addr}{H H1 H2:Hp}{h h1 h2 h':Heap}{a x e:Addr}{o:HO}
def Un.any(u:Un fs ex H H1 h h1){b:Addr}{a:Obj}(q:h.get? b=some a)(n:H b=none)(hx:b∉ex):∃c,h1.get? b=some {a with slots:=c}:=by
 by_cases hb:b∈fs
 ·exact u.slot b a q n hb hx
 ·exact⟨a.slots,u.keep b a q n hb hx⟩
def Un.kept(k:∀b u,h.get? b=some u->h'.get? b=some u):Un fs ex H H h h':=
 ⟨fun b a q _ _ _=>k b a q,fun b a q _ _ _=>⟨a.slots,k b a q⟩,fun _ _ _ n _=>n,fun b a q _=>⟨a,k b a q⟩,fun _ _ q=>q,fun _ _ _ q=>q,fun _ ps q=>⟨#[],by rw[q];simp⟩⟩
def Un.refl:Un fs ex H H h h:=Un.kept fun _ _ q=>q
def Un.laid(k:∀b u,h.get? b=some u->h'.get? b=some u)(hp:h.objs.size<=a)(c:H a=none):Un fs ex H (upd H a o) h h' where
 keep:=fun b u q _ _ _=>k b u q
 slot:=fun b u q _ _ _=>⟨u.slots,k b u q⟩
 free:=fun b u q n _=>by rw[af (AD (AE (Ax q) hp))];exact n
 there:=fun b u q _=>⟨u,k b u q⟩
 tups:=fun b xs q=>by rw[af (zk q c)];exact q
 frzs:=fun b u xs q=>by rw[af (zk q c)];exact q
 tbls:=fun b ps q=>⟨#[],by rw[af (zk q c),q];simp⟩
def Un.write(mu:qN (H x))(d:e=x\/H e=some (.own x))(k:∀b u,b≠e->h.get? b=some u->h'.get? b=some u)(f:∃u,h'.get? e=some u):Un fs ex H (upd H x o) h h':=by
 have hx:∀b,H b=none->b≠x:=fun b n z=>by subst z;rw[n] at mu;exact mu
 have hb:∀b,H b=none->b≠e:=fun b n z=>by
  subst z;rcases d with r|r
  ·exact hx b n r
  ·rw[n] at r;cases r
 have c:∀b u,H b=some u->¬qN (some u)->b≠x:=fun b u q nm z=>by subst z;rw[q] at mu;exact nm mu
 refine⟨fun b u q n _ _=>k b u (hb b n) q,fun b u q n _ _=>⟨u.slots,k b u (hb b n) q⟩,fun b u q n _=>by rw[af (hx b n)];exact n,fun b u q _=>?_,
  fun b xs q=>by rw[af (c b _ q fun z=>z)];exact q,fun b u xs q=>by rw[af (c b _ q fun z=>z)];exact q,fun b ps q=>⟨#[],by rw[af (c b _ q fun z=>z),q];simp⟩⟩
 by_cases a:b=e
 ·subst a;exact f
 ·exact⟨u,k b u a q⟩
end
def BS(h:Heap)(H:Hp):List Addr:=(Ah h.objs.size).filter fun a=>(H a).isSome
def dN(h:Heap)(H:Hp):Heap:=PySem.W.hideAll h (BS h H)
def KJ(h:Heap)(H:Hp):(dN h H).objs.size=h.objs.size:=PySem.W.hideAll_size _ _
def KL{h:Heap}{H:Hp}{b:Addr}{o:Obj}(e:h.get? b=some o)(n:H b=none):(dN h H).get? b=some o:=
 PySem.W.hideAll_get _ e fun a=>by
  have q:(H b).isSome=true:=(List.mem_filter.mp a).2;rw[n] at q;simp at q
def KM{h:Heap}{H:Hp}{b:Addr}{o:Obj}(e:(dN h H).get? b=some o):h.get? b=some o/\H b=none:=by
 have e':h.get? b=some o:=PySem.W.of_hideAll (BS h H) e;refine⟨e',?_⟩;cases q:H b with
 |none=>rfl
 |some x=>
  have a:b∈BS h H:=List.mem_filter.mpr ⟨List.mem_range.mpr (Ax e'),by simp[q]⟩;have z:(dN h H).get? b=none:=PySem.W.hideAll_none (BS h H) a;rw[z] at e;cases e
structure Mod(K:Ag)(mg:Str->Option Value)(base:Heap):Prop where
 kin:K.In base
 glob:base.Ns mainGlobals mg
 blt:∃mb,base.Ns builtinsNs mb/\∀x:Str,x≠"__name__"->mb x=A8 x
 nolimit:base.NoLimit
structure Cx where
 prog:Program
 w:World
 K:Ag
 mg:Str->Option Value
 base:Heap
 A:Around
 N:List Str
 s₀:Shared
 H₀:Hp
 env:Env
 outer:List Env
 stack:List Env
 ex:List Addr
 fn:Str->Bool
 calm:Bool
 pn:Ψ
 xe:Ω
def frs(l:List Env):List Addr:=l.filterMap (·.frame)
abbrev Cx.fs(X:Cx):List Addr:=frs X.outer
def B6(sc:Scope)(x:Str):Prop:=sc.names.lookup x=some .local\/sc.names.lookup x=some .cell\/sc.names.lookup x=some .free
def Loc(sc:Scope)(x:Str):Prop:=sc.names.lookup x=some .local\/sc.names.lookup x=some .cell
def Look(env:Env)(h:Heap)(m:Str->Option Value)(x:Str)(u:Value):Prop:=
 (env.kindOf x=some .local/\m x=some u)\/((env.kindOf x=some .cell\/env.kindOf x=some .free)/\∃c,env.cells.lookup x=some c/\h.IsCell c (some u))
structure Cx.Ok(X:Cx):Prop where
 mod:Mod X.K X.mg X.base
 kind:X.env.scope.kind=.function
 glob:X.env.globals=mainGlobals
 blt:X.env.builtins=builtinsNs
 above:X.s₀⁻¹<=X.env.locals
 inj:∀x y c,X.env.cells.lookup x=some c->X.env.cells.lookup y=some c->x=y
 has:∀x,(X.env.kindOf x=some .cell\/X.env.kindOf x=some .free)->∃c,X.env.cells.lookup x=some c
 cab:∀x c,X.fn x=true->X.env.cells.lookup x=some c->X.s₀⁻¹<=c
 hd:X.calm=true->X.A.handled=none
 frames:X.A.frames=some X.stack
 stk:X.stack=X.outer\/(X.stack=X.env::X.outer/\X.env.frame=some X.env.locals)
 exf:∀b∈X.ex,b≠X.env.locals/\∀x c,X.env.cells.lookup x=some c->c≠b
 bs:∀b o,X.base.get? b=some o->X.s₀.heap.get? b=some o/\X.H₀ b=none
 bsz:X.base.objs.size<=X.s₀⁻¹
 noex:∀b o,X.base.get? b=some o->b∉X.ex
 exfs:∀b∈X.ex,b∉X.fs
 funs:X.s₀.heap.FunFrames X.base X.outer
 frf:∀b∈X.fs,X.H₀ b=none
structure Inv(X:Cx)(aa:Ψ)(σ:List (Option V))(H:Hp)(s:Shared):Prop where
 ok:X.Ok
 os:s.os=X.s₀.os
 bare:AllBare s.gens
 base:Un X.fs X.ex X.H₀ H X.s₀.heap s.heap
 loc:∃m,s.heap.Ns X.env.locals m/\∀(i:Nat)(x:Str)(v:V),X.N[i]?=some x->σ[i]?=some (some v)->B6 X.env.scope x->∃u,RelV v u/\Look X.env s.heap m x u
 cell:∀x c,X.env.cells.lookup x=some c->∃v,s.heap.IsCell c v
 free:H X.env.locals=none
 freeC:∀x c,X.env.cells.lookup x=some c->H c=none
 pin:∀p∈X.pn++aa,s.heap.get? p.1=some p.2/\H p.1=none/\p.1≠X.env.locals/\p.1∉X.fs/\∀v,p.2.data≠.cell v
 hok:HOk X.prog X.w H s.heap
 len:σ.length=X.N.length
section
variable{X:Cx}{aa:Ψ}{σ:List (Option V)}{H H':Hp}{s:Shared}{h':Heap}
def Cx.Ok.nofr(ok:X.Ok){b:Addr}{o:Obj}(e:X.base.get? b=some o):b∉X.fs:=fun hb=>by
 have:=(ok.funs.mem hb).1;rw[e] at this;cases this
def Inv.bs(I:Inv X aa σ H s):∀b o,X.base.get? b=some o->s.heap.get? b=some o/\H b=none:=fun b o e=>
 ⟨I.base.keep b o (I.ok.bs b o e).1 (I.ok.bs b o e).2 (I.ok.nofr e) (I.ok.noex b o e),I.base.free b o (I.ok.bs b o e).1 (I.ok.bs b o e).2 (I.ok.noex b o e)⟩
def Inv.bk(I:Inv X aa σ H s):∀b o,X.base.get? b=some o->s.heap.get? b=some o:=fun b o e=>(I.bs b o e).1
def Inv.mod(I:Inv X aa σ H s):Mod X.K X.mg X.base:=I.ok.mod
def Inv.kIn(I:Inv X aa σ H s):X.K.In s.heap:=I.ok.mod.kin.keeps I.bk
def Inv.nolimit(I:Inv X aa σ H s):s.heap.NoLimit:=I.ok.mod.nolimit.keeps I.bk
def Inv.lt(I:Inv X aa σ H s):X.env.locals<s⁻¹:=let ⟨_,hn,_⟩:=I.loc;hn.lt
def Inv.sz(I:Inv X aa σ H s):X.s₀⁻¹<=s⁻¹:=Af I.ok.above (Nat.le_of_lt I.lt)
def Inv.nofs(I:Inv X aa σ H s){a:Addr}(h:s⁻¹<=a):a∉X.fs:=fun hb=>by
 obtain⟨_,o,b,_⟩:=I.ok.funs.mem hb;exact absurd (AE (Ax b) (Af I.sz h)) (Nat.lt_irrefl _)
def Inv.cne(I:Inv X aa σ H s):∀x c,X.env.cells.lookup x=some c->c≠X.env.locals:=fun x c e z=>by
 obtain⟨v,o,b,hd⟩:=I.cell x c e;obtain⟨m,⟨o',es,ep,d,a,_⟩,_⟩:=I.loc;rw[z,d] at b;cases b;rw[a] at hd;cases hd
def Inv.funs(I:Inv X aa σ H s):s.heap.FunFrames X.base X.outer:=by
 have all:∀(l:List Env),(∀b∈frs l,b∈X.fs)->X.s₀.heap.FunFrames X.base l->s.heap.FunFrames X.base l:=by
  intro l
  induction l with
  |nil=>intro _ _;trivial
  |cons env r ih=>
   intro d f;obtain⟨hk,⟨L,o,a,g,h,hd⟩,hr⟩:=f;have c:L∈X.fs:=d L (by unfold frs;rw[List.filterMap_cons,a];exact Aq);obtain⟨i,e⟩:=I.base.slot L o h (I.ok.frf L c) c fun z=>I.ok.exfs L z c;exact⟨hk,⟨L,_,a,g,e,hd⟩,ih (fun b hb=>d b (by unfold frs;rw[List.filterMap_cons,a];exact Ao _ hb)) hr⟩
 exact all X.outer (fun _ hb=>hb) I.ok.funs
def Inv.stack(I:Inv X aa σ H s):s.heap.FunFrames X.base X.stack:=by
 rcases I.ok.stk with e|⟨e,a⟩
 ·rw[e];exact I.funs
 ·rw[e]
  obtain⟨m,b,_⟩:=I.loc;refine .cons (by rw[I.ok.kind];decide) a b ?_ I.funs;exact Heap.get?_none_of_le (Af I.ok.bsz I.ok.above)
def Inv.stkSub(I:Inv X aa σ H s):∀b∈frs X.stack,b∈X.env.locals::X.fs:=fun b hb=>by
 rcases I.ok.stk with e|⟨e,a⟩
 ·rw[e] at hb;exact Ao _ hb
 ·rw[e] at hb
  unfold frs at hb;rw[List.filterMap_cons,a] at hb;exact hb
def Inv.stkFree(I:Inv X aa σ H s):∀b∈frs X.stack,H b=none:=fun b hb=>by
 rcases List.mem_cons.mp (I.stkSub b hb) with e|hb
 ·rw[e];exact I.free
 ·obtain⟨_,o,a,_⟩:=I.ok.funs.mem hb
  exact I.base.free b o a (I.ok.frf b hb) fun z=>I.ok.exfs b z hb
def Inv.step{g':Array GenState}{t':Nat}{d':Drawn}{ch:List Addr}(I:Inv X aa σ H s)(h:∀b∈ch,(b∈X.ex\/X.s₀⁻¹<=b)/\b≠X.env.locals/\(∀x c,X.env.cells.lookup x=some c->c≠b)/\∀p∈X.pn++aa,p.1≠b)(keep:∀b o,b≠X.env.locals->b∉X.fs->b∉ch->s.heap.get? b=some o->H b=none->h'.get? b=some o)(slot:∀b o,b≠X.env.locals->b∈X.fs->b∉ch->s.heap.get? b=some o->H b=none->∃A,h'.get? b=some {o with slots:=A})(free:∀b o,b∉ch->s.heap.get? b=some o->H b=none->H' b=none)(there:∀b o,b∉ch->s.heap.get? b=some o->∃o',h'.get? b=some o')(tups:∀b xs,H b=some (.tup xs)->H' b=some (.tup xs))(frzs:∀b o u,H b=some (.frz o u)->H' b=some (.frz o u))(tbls:∀b ps,H b=some (.tbl ps)->∃more,H' b=some (.tbl (ps++more)))(ns:∀m,s.heap.Ns X.env.locals m->h'.Ns X.env.locals m)(C:HOk X.prog X.w H' h')(hg:AllBare g'):Inv X aa σ H' {s with heap:=h',gens:=g',drawn:=d',toks:=t'}:=by
 have j:∀b o,X.s₀.heap.get? b=some o->b≠X.env.locals:=fun b o e=>AD (AE (Ax e) I.ok.above);have y:∀b o,X.s₀.heap.get? b=some o->b∉X.ex->b∉ch:=fun b o e hx hb=>by
  rcases(h b hb).1 with z|z
  ·exact hx z
  ·exact absurd (AE (Ax e) z) (Nat.lt_irrefl _)
 have a:∀x c,X.env.cells.lookup x=some c->∀v,s.heap.IsCell c v->h'.IsCell c v:=fun x c e v ⟨o,g,hd⟩=>by
  have f:c∉ch:=fun z=>(h c z).2.2.1 x c e rfl
  by_cases hc:c∈X.fs
  ·obtain⟨A,q⟩:=slot c o (I.cne x c e) hc f g (I.freeC x c e)
   exact⟨_,q,hd⟩
  ·exact⟨o,keep c o (I.cne x c e) hc f g (I.freeC x c e),hd⟩
 refine⟨I.ok,I.os,hg,⟨fun b o e n hb hx=>?_,fun b o e n hb hx=>?_,fun b o e n hx=>?_,fun b o e hx=>?_,fun b xs e=>tups b xs (I.base.tups b xs e),fun b o xs e=>frzs b o xs (I.base.frzs b o xs e),fun b ps e=>?_⟩,?_,fun x c e=>?_,?_,fun x c e=>?_,fun p hp=>?_,C,I.len⟩
 ·exact keep b o (j b o e) hb (y b o e hx) (I.base.keep b o e n hb hx) (I.base.free b o e n hx)
 ·obtain⟨A,e1⟩:=I.base.slot b o e n hb hx
  obtain⟨E,e2⟩:=slot b _ (j b o e) hb (y b o e hx) e1 (I.base.free b o e n hx);exact⟨E,e2⟩
 ·obtain⟨o',e1⟩:=I.base.there b o e hx
  exact free b o' (y b o e hx) e1 (I.base.free b o e n hx)
 ·obtain⟨o',e1⟩:=I.base.there b o e hx
  exact there b o' (y b o e hx) e1
 ·obtain⟨F,e1⟩:=I.base.tbls b ps e
  obtain⟨m2,e2⟩:=tbls b _ e1;exact⟨F++m2,by rw[e2,Array.append_assoc]⟩
 ·obtain⟨m,G,J⟩:=I.loc
  refine⟨m,ns m G,fun i x v e1 e2 e3=>?_⟩;obtain⟨u,r,l⟩:=J i x v e1 e2 e3;refine⟨u,r,?_⟩;rcases l with l|⟨k,c,e,z⟩
  ·exact .inl l
  ·exact .inr ⟨k,c,e,a x c e _ z⟩
 ·obtain⟨v,z⟩:=I.cell x c e
  exact⟨v,a x c e v z⟩
 ·obtain⟨m,⟨o,_,_,g,_⟩,_⟩:=I.loc
  exact free _ o (fun z=>(h _ z).2.1 rfl) g I.free
 ·obtain⟨v,o,g,hd⟩:=I.cell x c e
  exact free c o (fun z=>(h c z).2.2.1 x c e rfl) g (I.freeC x c e)
 ·obtain⟨e,n,ne,D,d⟩:=I.pin p hp
  have f:p.1∉ch:=fun z=>(h p.1 z).2.2.2 p hp rfl;exact⟨keep p.1 p.2 ne D f e n,free p.1 p.2 f e n,ne,D,d⟩
def Inv.un{t':Nat}(I:Inv X aa σ H s)(u:Un X.fs [] H H' s.heap h')(a:HOk X.prog X.w H' h'):Inv X aa σ H' {s with heap:=h',toks:=t'}:=by
 obtain⟨m,⟨o,es,ep,c,r⟩,_⟩:=id I.loc;obtain⟨p,g⟩:=u.any c I.free (by simp);exact I.step (g':=s.gens) (d':=s.drawn) (ch:=[]) (fun _ z=>nomatch z) (fun b o _ hb _ e n=>u.keep b o e n hb (by simp)) (fun b o _ hb _ e n=>u.slot b o e n hb (by simp)) (fun b o _ e n=>u.free b o e n (by simp)) (fun b o _ e=>u.there b o e (by simp)) u.tups u.frzs u.tbls (fun l f=>by
  obtain⟨o',h,i,d,j⟩:=f;rw[c] at d;cases d;exact⟨_,h,i,g,j⟩) a I.bare
def Inv.call{g':Array GenState}{t':Nat}{d':Drawn}{ch:List Addr}(I:Inv X aa σ H s)(u:Un (frs X.stack) ch H H' s.heap h')(d:HOk X.prog X.w H' h')(hg:AllBare g')(h:∀b∈ch,(b∈X.ex\/X.s₀⁻¹<=b)/\b≠X.env.locals/\(∀x c,X.env.cells.lookup x=some c->c≠b)/\∀p∈X.pn++aa,p.1≠b):Inv X aa σ H' {s with heap:=h',gens:=g',drawn:=d',toks:=t'}:=by
 obtain⟨m,⟨o,es,ep,f,r⟩,_⟩:=id I.loc;obtain⟨y,a⟩:=u.any f I.free fun z=>(h _ z).2.1 rfl;exact I.step (ch:=ch) h (fun b o a hb hc e n=>u.keep b o e n (fun z=>(List.mem_cons.mp (I.stkSub b z)).elim a hb) hc) (fun b o _ _ hc e n=>u.any e n hc) (fun b o hc e n=>u.free b o e n hc) (fun b o hc e=>u.there b o e hc) u.tups u.frzs u.tbls (fun v i=>by
  obtain⟨o',j,l,g,q⟩:=i;rw[f] at g;cases g;exact⟨_,j,l,a,q⟩) d hg
def Inv.turned{t':Nat}{it:Addr}(I:Inv X aa σ H s)(k:∀b o,b≠it->s.heap.get? b=some o->h'.get? b=some o)(h:H it=none)(d:it≠X.env.locals)(h1:it∈X.ex\/X.s₀⁻¹<=it)(h2:∀x c,X.env.cells.lookup x=some c->c≠it)(i:∀p∈X.pn++aa,p.1≠it):Inv X aa σ H {s with heap:=h',toks:=t'}:=by
 have a:∀b u,H b=some u->b≠it:=fun b u e z=>by rw[z,h] at e;cases e
 refine I.step (g':=s.gens) (d':=s.drawn) (ch:=[it]) (fun b hb=>?_) (fun b o _ _ hc e _=>k b o (fun z=>hc (by simp[z])) e) (fun b o _ _ hc e _=>⟨o.slots,k b o (fun z=>hc (by simp[z])) e⟩) (fun _ _ _ _ n=>n)
  (fun b o hc e=>⟨o,k b o (fun z=>hc (by simp[z])) e⟩) (fun _ _ e=>e) (fun _ _ _ e=>e) (fun b ps e=>⟨#[],by rw[e];simp⟩) (fun m f=>?_) (fun b u e=>?_) I.bare
 ·have e:b=it:=by simpa using hb
  subst e;exact⟨h1,d,h2,i⟩
 ·obtain⟨o,es,ep,g,r⟩:=f
  exact⟨o,es,ep,k _ o (Ne.symm d) g,r⟩
 ·refine(I.hok b u e).stay (fun c v hc q=>k c v ?_ q) (fun _ q=>q) fun _ _ q=>q
  rcases hc with z|z
  ·rw[z];exact a b u e
  ·exact a c _ z
def Inv.tok(I:Inv X aa σ H s)(t:Nat):Inv X aa σ H {s with toks:=t}:=I.un (h':=s.heap) (t':=t) Un.refl I.hok
def Inv.kept{t':Nat}(I:Inv X aa σ H s)(k:∀b u,s.heap.get? b=some u->h'.get? b=some u):Inv X aa σ H {s with heap:=h',toks:=t'}:=I.un (Un.kept k) (I.hok.kept k)
def Inv.laid{a:Addr}{o:HO}{t':Nat}(I:Inv X aa σ H s)(k:∀b u,s.heap.get? b=some u->h'.get? b=some u)(hp:s⁻¹<=a)(new:zay X.prog X.w (upd H a o) h' a o):Inv X aa σ (upd H a o) {s with heap:=h',toks:=t'}:=I.un (Un.laid k hp (I.hok.fresh hp)) (I.hok.laid k hp new)
def Inv.write{x e:Addr}{o:HO}{t':Nat}(I:Inv X aa σ H s)(mu:qN (H x))(a:e=x\/H e=some (.own x))(k:∀b u,b≠e->s.heap.get? b=some u->h'.get? b=some u)(c:∃u,h'.get? e=some u)(new:zay X.prog X.w (upd H x o) h' x o):Inv X aa σ (upd H x o) {s with heap:=h',toks:=t'}:=I.un (Un.write mu a k c) (I.hok.write mu a k c new)
def Inv.pins_of{a:Ψ}(I:Inv X aa σ H s)(h:∀p∈a,s.heap.get? p.1=some p.2/\H p.1=none/\p.1≠X.env.locals/\p.1∉X.fs/\∀v,p.2.data≠.cell v):Inv X a σ H s:=
 ⟨I.ok,I.os,I.bare,I.base,I.loc,I.cell,I.free,I.freeC,fun p hp=>(List.mem_append.mp hp).elim (fun z=>I.pin p (List.mem_append_left _ z)) (h p),I.hok,I.len⟩
def GS{N:List Str}(c:N.Nodup){i j:Nat}{x:Str}(a:N[i]?=some x)(b:N[j]?=some x):i=j:=by
 obtain⟨h1,e1⟩:=List.getElem?_eq_some_iff.mp a;obtain⟨h2,e2⟩:=List.getElem?_eq_some_iff.mp b;exact(List.getElem_inj c).mp (e1.trans e2.symm)
def GT{M:Model}{A:Around}{E:Ω}{i:Nat}{x:Str}{v:V}{u:Value}{Q:Unit->Shared->Prop}(I:Inv X aa σ H s)(hN:X.N.Nodup)(hi:X.N[i]?=some x)(hx:Loc X.env.scope x)(r:RelV v u)(h:∀s',Inv X aa (σ.set i (some v)) H s'->(∃a,Heap.SameBut a s.heap s'.heap/\(a=X.env.locals\/X.env.cells.lookup x=some a))->Q () s')(hf:X.fn x=true\/X.env.scope.names.lookup x=some .local:=by first|exact .inl rfl|exact .inr rfl|assumption):wpAny M A (storeName X.env x u) Q E s:=by
 obtain⟨m,G,U⟩:=id I.loc;have mh:(X.env.scope.kind==.class|| (X.env.scope.kind==.module&&X.env.locals != X.env.globals))=false:=by rw[I.ok.kind];rfl
 have g:i<σ.length:=by rw[I.len];exact(List.getElem?_eq_some_iff.mp hi).1
 have cne:=I.cne;have c7:∀{a:Addr}{h':Heap},(∃o,s.heap.get? a=some o/\H a=none)->Heap.SameBut a s.heap h'->HOk X.prog X.w H h':=fun{a h'} ha f b ob e=>by
  obtain⟨_,_,W⟩:=ha;refine(I.hok b ob e).stay (fun c C hc q=>(f.2 c ?_).trans q) (fun _ q=>q) fun _ _ q=>q;rintro rfl;rcases hc with rfl|hc
  ·rw[W] at e;cases e
  ·rw[W] at hc;cases hc
 rcases hx with hk|hk
 ·refine wpAny_storeName_local hk G (fun h' fP f=>?_) mh
  obtain⟨oL,_,_,jp,_⟩:=id G;refine h _ ⟨I.ok,I.os,I.bare,⟨fun b o e n hb hx=>?_,fun b o e n hb hx=>?_,I.base.free,fun b o e hx=>?_,I.base.tups,I.base.frzs,I.base.tbls⟩,⟨_,fP,fun j y F e1 e2 e3=>?_⟩,fun y c e=>?_,I.free,I.freeC,fun p hp=>?_,c7 ⟨oL,jp,I.free⟩ f,by simpa using I.len⟩ ⟨_,f,.inl rfl⟩
  ·exact(f.2 b (AD (AE (Ax e) I.ok.above))).trans (I.base.keep b o e n hb hx)
  ·obtain⟨J,e1⟩:=I.base.slot b o e n hb hx
   exact⟨J,(f.2 b (AD (AE (Ax e) I.ok.above))).trans e1⟩
  ·obtain⟨o',e1⟩:=I.base.there b o e hx
   exact⟨o',(f.2 b (AD (AE (Ax e) I.ok.above))).trans e1⟩
  ·by_cases l:j=i
   ·subst l
    rw[hi] at e1;cases e1;rw[List.getElem?_set_self g] at e2;cases e2;exact⟨u,r,.inl ⟨hk,by simp⟩⟩
   ·rw[List.getElem?_set_ne (Ne.symm l)] at e2
    obtain⟨L,O,q⟩:=U j y F e1 e2 e3;refine⟨L,O,?_⟩;rcases q with ⟨k,e⟩|⟨k,c,e,z⟩
    ·refine .inl ⟨k,?_⟩
     have:y≠x:=fun e=>l (GS hN e1 (e▸hi));simp[this,e]
    ·exact .inr ⟨k,c,e,z.sameBut f (cne y c e)⟩
  ·obtain⟨C,z⟩:=I.cell y c e
   exact⟨C,z.sameBut f (cne y c e)⟩
  ·obtain⟨e,n,ne,P,d⟩:=I.pin p hp
   exact⟨(f.2 p.1 ne).trans e,n,ne,P,d⟩
 ·have S:X.fn x=true:=by
   rcases hf with z|z
   ·exact z
   ·rw[z] at hk;cases hk
  obtain⟨c,hc⟩:=I.ok.has x (.inl hk);obtain⟨C,z⟩:=I.cell x c hc;refine wpAny_storeName_cell I.ok.kind hk hc z (fun h' T f=>?_);obtain⟨Y,Z,mQ⟩:=id z;refine h {s with heap:=h'} ⟨I.ok,I.os,I.bare,⟨fun b o e n hb hx=>?_,fun b o e n hb hx=>?_,I.base.free,fun b o e hx=>?_,I.base.tups,I.base.frzs,I.base.tbls⟩,⟨m,G.sameBut f (Ne.symm (cne x c hc)),fun j y F e1 e2 e3=>?_⟩,fun y D e=>?_,I.free,I.freeC,fun p hp=>?_,c7 ⟨Y,Z,I.freeC x c hc⟩ f,by simpa using I.len⟩ ⟨c,f,.inr hc⟩
  ·exact(f.2 b (AD (AE (Ax e) (I.ok.cab x c S hc)))).trans (I.base.keep b o e n hb hx)
  ·obtain⟨J,e1⟩:=I.base.slot b o e n hb hx
   exact⟨J,(f.2 b (AD (AE (Ax e) (I.ok.cab x c S hc)))).trans e1⟩
  ·obtain⟨o',e1⟩:=I.base.there b o e hx
   exact⟨o',(f.2 b (AD (AE (Ax e) (I.ok.cab x c S hc)))).trans e1⟩
  ·by_cases l:j=i
   ·subst l
    rw[hi] at e1;cases e1;rw[List.getElem?_set_self g] at e2;cases e2;exact⟨u,r,.inr ⟨.inl hk,c,hc,T⟩⟩
   ·rw[List.getElem?_set_ne (Ne.symm l)] at e2
    obtain⟨L,O,q⟩:=U j y F e1 e2 e3;refine⟨L,O,?_⟩;rcases q with q|⟨k,D,e,z'⟩
    ·exact .inl q
    ·refine .inr ⟨k,D,e,z'.sameBut f ?_⟩
     rintro rfl;exact l (GS hN e1 (I.ok.inj _ _ _ e hc▸hi))
  ·by_cases fI:D=c
   ·subst fI;exact⟨_,T⟩
   ·obtain⟨w2,z2⟩:=I.cell y D e
    exact⟨w2,z2.sameBut f fI⟩
  ·obtain⟨e,n,ne,P,d⟩:=I.pin p hp
   refine⟨(f.2 p.1 ?_).trans e,n,ne,P,d⟩;intro q;rw[q,Z] at e;have q':Y=p.2:=AR e;exact d C (by rw[<-q'];exact mQ)
def GU{M:Model}{A:Around}{E:Ω}{i:Nat}{x:Str}{v:V}{u:Value}{Q:Unit->Shared->Prop}(I:Inv X aa σ H s)(a:X.N.Nodup)(hi:X.N[i]?=some x)(hx:Loc X.env.scope x)(r:RelV v u)(h:∀s',Inv X aa (σ.set i (some v)) H s'->Q () s')(b:X.fn x=true\/X.env.scope.names.lookup x=some .local:=by first|exact .inl rfl|exact .inr rfl|assumption):wpAny M A (storeName X.env x u) Q E s:=
 GT I a hi hx r (fun s' c _=>h s' c) b
def Inv.call'{s':Shared}{ch:List Addr}(I:Inv X aa σ H s)(d:s'.os=s.os)(u:Un (frs X.stack) ch H H' s.heap s'.heap)(a:HOk X.prog X.w H' s'.heap)(hg:AllBare s'.gens)(f:∀b∈ch,(b∈X.ex\/X.s₀⁻¹<=b)/\b≠X.env.locals/\(∀x c,X.env.cells.lookup x=some c->c≠b)/\∀p∈X.pn++aa,p.1≠b):Inv X aa σ H' s':=by
 obtain⟨h',g',d',t',o'⟩:=s';have e:o'=s.os:=d;subst e;exact I.call (g':=g') (t':=t') (d':=d') u a hg f
end
abbrev XK:=Value->Option Addr->Hp->Prop
abbrev St:=List (Option V)
abbrev VK:=V->Hp->Prop
abbrev TE:=St->Hp->VK->Prop
abbrev TT:=St->Hp->(Bool->Hp->Prop)->Prop
abbrev TA:=St->Hp->(List V->Hp->Prop)->Prop
structure Ends where
 nx:St->Hp->Prop
 rt:VK
 bk:St->Hp->Prop:=fun _ _=>False
 ct:St->Hp->Prop:=fun _ _=>False
abbrev TS:=Ends->St->Hp->Prop
def EP(X:Cx)(aa:Ψ)(σ:St)(Q:VK)(u:Value)(s':Shared):Prop:=∃v H',Inv X aa σ H' s'/\RelV v u/\Q v H'
def TP(X:Cx)(aa:Ψ)(σ:St)(Q:Bool->Hp->Prop)(b:Bool)(s':Shared):Prop:=∃H',Inv X aa σ H' s'/\Q b H'
def AP(X:Cx)(aa:Ψ)(σ:St)(Q:List V->Hp->Prop)(us:List Value)(s':Shared):Prop:=∃vs H',Inv X aa σ H' s'/\Vals vs us/\Q vs H'
def SP(X:Cx)(aa:Ψ)(D:Ends)(f:Flow)(s':Shared):Prop:=
 match f with
 |.next=>∃a H',Inv X aa a H' s'/\D.nx a H'
 |.brk=>∃a H',Inv X aa a H' s'/\D.bk a H'
 |.cont=>∃a H',Inv X aa a H' s'/\D.ct a H'
 |.ret u=>∃v a H',Inv X aa a H' s'/\RelV v u/\D.rt v H'
def PE(X:Cx)(e:Expr)(t:TE):Prop:=
 ∀(aa:Ψ)(s:Shared)(σ:St)(H:Hp)(Q:VK),Inv X aa σ H s->t σ H Q->wpAny (model X.prog X.w) X.A (eval e X.env) (EP X aa σ Q) X.xe s
def PT(X:Cx)(e:Expr)(t:TT):Prop:=
 ∀(aa:Ψ)(s:Shared)(σ:St)(H:Hp)(Q:Bool->Hp->Prop),Inv X aa σ H s->t σ H Q->wpAny (model X.prog X.w) X.A (isTrue e X.env (eval e X.env)) (TP X aa σ Q) X.xe s
def PW(X:Cx)(e:Expr)(t:TT):Prop:=
 ∀(a:Sem Value)(aa:Ψ)(s:Shared)(σ:St)(H:Hp)(Q:Bool->Hp->Prop),Inv X aa σ H s->t σ H Q->wpAny (model X.prog X.w) X.A (isTrue e X.env a) (TP X aa σ Q) X.xe s
def PW.pt{X:Cx}{e:Expr}{t:TT}(h:PW X e t):PT X e t:=h _
def PA(X:Cx)(es:List Expr)(t:TA):Prop:=
 ∀(pos:Pos)(aa:Ψ)(s:Shared)(σ:St)(H:Hp)(Q:List V->Hp->Prop),Inv X aa σ H s->t σ H Q->wpAny (model X.prog X.w) X.A (spliced (backTo pos (starEach es X.env))) (AP X aa σ Q) X.xe s
def PS(X:Cx)(st:Stmt)(t:TS):Prop:=
 ∀(aa:Ψ)(s:Shared)(σ:St)(H:Hp)(D:Ends),Inv X aa σ H s->t D σ H->wpAny (model X.prog X.w) X.A (exec st X.env) (SP X aa D) X.xe s
def PSs(X:Cx)(st:List Stmt)(t:TS):Prop:=
 ∀(aa:Ψ)(s:Shared)(σ:St)(H:Hp)(D:Ends),Inv X aa σ H s->t D σ H->wpAny (model X.prog X.w) X.A (execs st X.env) (SP X aa D) X.xe s
def aT{b:Type}{t:Sem b}{Q c:b->Shared->Prop}{M:Model}{A:Around}{E:Ω}{s:Shared}(h:wpAny M A t Q E s)(d:∀a s,Q a s->c a s):wpAny M A t c E s:=wpAny_mono h d fun _ _ x=>x
section
variable{X:Cx}
def av(i:Nat):TE:=fun σ H Q=>∃v,σ[i]?=some (some v)/\Q v H
def tC(v:V):TE:=fun _ H Q=>Q v H
def KN{i:Nat}{x:Str}{pos:Pos}(g:X.N[i]?=some x)(hv:B6 X.env.scope x)(hd:(x==("__debug__":Str))=false:=by decide)(j:(x==("__classdict__":Str))=false:=by decide):PE X (.Name x pos) (av i):=by
 intro aa s σ H Q I h;obtain⟨v,e,h⟩:=h;obtain⟨m,b,d⟩:=I.loc;obtain⟨u,r,l⟩:=d i x v g e hv;have fin:EP X aa σ Q u s:=⟨v,H,I,r,h⟩;rcases l with ⟨hk,f⟩|⟨hk,c,hc,a⟩
 ·exact wpAny_Name (wpAny_loadName_local I.ok.kind hk b f fin) hd
 ·rcases hk with hk|hk
  ·exact wpAny_Name (wpAny_loadName_cell I.ok.kind hk hc a fin) hd
  ·exact wpAny_Name (wpAny_loadName_free I.ok.kind hk hc a fin j) hd
def zd{i j pos}:PE X (.Constant (.int i) j pos) (tC (.int i)):=fun _ _ _ H _ I h=>wpAny_Constant_int ⟨.int i,H,I.tok _,⟨_,rfl⟩,h⟩
def fC{b j pos}:PE X (.Constant (.bool b) j pos) (tC (.bl b)):=fun _ _ _ H _ I h=>Constant_bool ⟨.bl b,H,I,rfl,h⟩
def Gl(X:Cx)(x:Str):Prop:=X.env.kindOf x=some .globalImplicit
def GV{E:Ω}{aa:Ψ}{s:Shared}{σ:St}{H:Hp}{x:Str}{u:Value}{pos:Pos}{Q:Ω}(I:Inv X aa σ H s)(hg:Gl X x)(a:X.mg x=some u)(h:Q u s)(hd:(x==("__debug__":Str))=false:=by decide):wpAny (model X.prog X.w) X.A (eval (.Name x pos) X.env) Q E s:=
 Calls.Name_function_global I.ok.kind hg (Calls.loadGlobal_global (by rw[I.ok.glob];exact I.mod.glob.keeps I.bk) a h) hd
def jl{E:Ω}{aa:Ψ}{s:Shared}{σ:St}{H:Hp}{x:Str}{u:Value}{pos:Pos}{Q:Ω}(I:Inv X aa σ H s)(hg:Gl X x)(a:X.mg x=none)(hv:A8 x=some u)(h:Q u s)(b:x≠"__name__":=by decide)(hd:(x==("__debug__":Str))=false:=by decide):wpAny (model X.prog X.w) X.A (eval (.Name x pos) X.env) Q E s:=by
 obtain⟨c,h1,h2⟩:=I.mod.blt;exact Calls.Name_function_global I.ok.kind hg (Calls.loadGlobal_builtin (by rw[I.ok.glob];exact I.mod.glob.keeps I.bk) a (by rw[I.ok.blt];exact h1.keeps I.bk) ((h2 x b).trans hv) h) hd
def GW{x:Str}{v:V}{u:Value}{pos:Pos}(hg:Gl X x)(a:X.mg x=some u)(r:RelV v u)(hd:(x==("__debug__":Str))=false:=by decide):PE X (.Name x pos) (tC v):=
 fun _ _ _ H _ I h=>GV I hg a ⟨v,H,I,r,h⟩ hd
def KO{x:Str}{v:V}{u:Value}{pos:Pos}(hg:Gl X x)(a:X.mg x=none)(hv:A8 x=some u)(r:RelV v u)(b:x≠"__name__":=by decide)(hd:(x==("__debug__":Str))=false:=by decide):PE X (.Name x pos) (tC v):=
 fun _ _ _ H _ I h=>jl I hg a hv ⟨v,H,I,r,h⟩ b hd
variable{a b:Expr}{ta tb:TE}{pos:Pos}
def PC(X:Cx)(e:CmpOp)(a b:Expr)(t:TE):Prop:=
 ∀(aa:Ψ)(s:Shared)(σ:St)(H:Hp)(Q:VK),Inv X aa σ H s->t σ H Q->
  wpAny (model X.prog X.w) X.A (eval a X.env) (fun v c=>wpAny (model X.prog X.w) X.A (eval b X.env) (fun u d=>wpAny (model X.prog X.w) X.A (compareOp e v u) (EP X aa σ Q) X.xe d) X.xe c) X.xe s
def gT(b:Expr){a:CmpOp}(h:a≠.In)(h2:a≠.NotIn):behindInMarks a b=false:=by
 have e1:(a==CmpOp.In)=false:=by cases a<;>first|rfl|exact absurd rfl h
 have e2:(a==CmpOp.NotIn)=false:=by cases a<;>first|rfl|exact absurd rfl h2
 cases b<;>simp[behindInMarks,e1,e2]
def tB(t:TE):TT:=fun σ H Q=>t σ H fun x H1=>∃c,x=.bl c/\Q c H1
def KP{e:CmpOp}{t:TE}(h:PC X e a b t)(h1:behindInMarks e b=false:=by first|exact gT _ ξ ξ|rfl):PT X (.Compare a [e] [b] pos) (tB t):=by
 intro aa s σ H Q I hw;refine wpAny_isTrue_Compare1 (aT (h aa s σ H _ I hw) fun v j h1=>aT h1 fun u l h2=>aT h2 fun c o ⟨x,H1,i,f,g⟩=>?_) h1;obtain⟨d,rfl,q⟩:=g;cases f;exact wpAny_truthy_bool ⟨H1,i,q⟩
def fG{e:Expr}{t:TE}(h:PE X e t)(f:∀a,isTrue e X.env a=(do let v <-a;standAt e.pos;holding [v] (truthy v)):=by intro _;rfl):PT X e (tB t):=by
 intro aa s σ H Q I hw;refine isTrue_plain (aT (h aa s σ H _ I hw) fun v i ⟨x,H1,g,b,c⟩=>?_) (f _);obtain⟨d,rfl,q⟩:=c;cases b;exact wpAny_truthy_bool ⟨H1,g,q⟩
variable{tA jt:TT}{rest:List Expr}
def ri(t u:TT):TT:=fun σ H Q=>t σ H fun c H1=>if c=true then u σ H1 Q else Q false H1
def KQ(t u:TT):TT:=fun σ H Q=>t σ H fun c H1=>if c=true then Q true H1 else u σ H1 Q
def DR(t:TT):TT:=fun σ H Q=>t σ H fun c H1=>Q (!c) H1
def jX(b:PT X a tA):PW X (.BoolOp .And [a] pos) tA:=by
 intro d aa s σ H Q I h;refine isTrue_and (aT (b aa s σ H Q I h) fun c f e=>?_);cases c with
 |true=>exact isTrue_and_nil e
 |false=>exact e
def nW(b:PT X a tA):PW X (.BoolOp .Or [a] pos) tA:=by
 intro d aa s σ H Q I h;refine isTrue_or (aT (b aa s σ H Q I h) fun c f e=>?_);cases c with
 |false=>exact isTrue_or_nil e
 |true=>exact e
def j0(i:PT X a tA)(hb:PW X (.BoolOp .And (b::rest) pos) jt):PW X (.BoolOp .And (a::b::rest) pos) (ri tA jt):=by
 intro f aa s σ H Q I h;refine isTrue_and (aT (i aa s σ H _ I h) fun c g ⟨H1,e,d⟩=>?_);cases c with
 |true=>exact hb f aa g σ H1 Q e d
 |false=>exact⟨H1,e,d⟩
def nY(i:PT X a tA)(hb:PW X (.BoolOp .Or (b::rest) pos) jt):PW X (.BoolOp .Or (a::b::rest) pos) (KQ tA jt):=by
 intro f aa s σ H Q I h;refine isTrue_or (aT (i aa s σ H _ I h) fun c g ⟨H1,e,d⟩=>?_);cases c with
 |true=>exact⟨H1,e,d⟩
 |false=>exact hb f aa g σ H1 Q e d
def gt(b:PT X a tA):PT X (.UnaryOp .Not a pos) (DR tA):=by
 intro aa s σ H Q I h;exact isTrue_not (b aa s σ H (fun c H1=>Q (!c) H1) I h)
def KR(ta tb:TE):TE:=fun σ H Q=>ta σ H fun x H1=>∃c,x=.bl c/\if c=true then tb σ H1 Q else Q (.bl false) H1
def rj{op}{t:TE}(h:PE X a t):PE X (.BoolOp op [a] pos) t:=fun aa s σ H Q I hw=>BoolOp_one (h aa s σ H Q I hw)
def rm(i:PE X a ta)(hb:PE X (.BoolOp .And (b::rest) pos) tb):PE X (.BoolOp .And (a::b::rest) pos) (KR ta tb):=by
 intro aa s σ H Q I h;refine BoolOp_and (aT (i aa s σ H _ I h) fun v f ⟨x,H1,e,g,d⟩=>?_);obtain⟨c,rfl,d⟩:=d;cases g;refine wpAny_truthy_bool ?_;cases c with
 |true=>exact hb aa f σ H1 Q e d
 |false=>exact⟨.bl false,H1,e,rfl,d⟩
def KS(t:TT)(ta tb:TE):TE:=fun σ H Q=>t σ H fun c H1=>if c=true then ta σ H1 Q else tb σ H1 Q
def n7{c:Expr}(hc:PT X c tA)(i:PE X a ta)(hb:PE X b tb):PE X (.IfExp c a b pos) (KS tA ta tb):=by
 intro aa s σ H Q I h;refine wpAny_IfExp (aT (hc aa s σ H _ I h) fun d e ⟨H1,g,f⟩=>?_);cases d with
 |true=>exact i aa e σ H1 Q g f
 |false=>exact hb aa e σ H1 Q g f
end
def SqL(K:Ag)(H:Hp)(a:Addr)(xs:List V):Prop:=
 Rd H a (.lst xs) \/
  ∃(o:Obj)(ad:Array Value)(n:Nat),K.lookup a=some o/\o.cls=.type "list"/\o.dict=none/\o.data=.seq ad n/\ad.size<=sizeLine/\Vals xs ad.toList
def SqT(K:Ag)(H:Hp)(a:Addr)(xs:List V):Prop:=
 Rd H a (.tup xs) \/
  ∃(o:Obj)(ad:Array Value)(n:Nat),K.lookup a=some o/\o.cls=.type "tuple"/\o.data=.seq ad n/\ad.size<=sizeLine/\Vals xs ad.toList
def DS:Value->Option V
 |.none=>some .non
 |.bool b=>some (.bl b)
 |.int i _=>some (.int i)
 |.str x _=>some (.str x)
 |.bytes b _=>some (.byt b)
 |.float b _=>some (.flt b)
 |.ref a=>some (.ref a)
 |.type n=>some (.ty n)
 |_=>none
def RelV.abs{x:V}{u:Value}(r:RelV x u):DS u=some x:=by
 cases x with
 |non=>cases r;rfl
 |bl _=>cases r;rfl
 |int _=>obtain⟨t,rfl⟩:=r;rfl
 |str _=>obtain⟨t,rfl⟩:=r;rfl
 |byt _=>obtain⟨t,rfl⟩:=r;rfl
 |flt _=>obtain⟨t,rfl⟩:=r;rfl
 |ref _=>cases r;rfl
 |ty _=>cases r;rfl
def RelV.inj{x y:V}{u:Value}(r:RelV x u)(q:RelV y u):x=y:=AR (r.abs.symm.trans q.abs)
def Vals.inj{xs ys:List V}{us:List Value}(h:Vals xs us)(g:Vals ys us):xs=ys:=by
 induction h generalizing ys with
 |nil=>cases g;rfl
 |cons r t ih=>cases g with|cons r' t'=>rw[r.inj r',ih t']
section
variable{X:Cx}{aa:Ψ}{σ:St}{H:Hp}{s:Shared}{a:Addr}{xs ys:List V}
def SqL.of{K:Ag}(h:H a=some (.lst xs)):SqL K H a xs:=.inl (.inl h)
def SqT.of{K:Ag}(h:H a=some (.tup xs)):SqT K H a xs:=.inl (.inl h)
def Inv.list(I:Inv X aa σ H s)(h:SqL X.K H a xs):∃ad:List Value,Vals xs ad/\PlainL s.heap a ad.toArray/\xs.length<=sizeLine:=by
 rcases h with h|⟨o,ad,n,hk,hc,hd,b,hz,r⟩
 ·obtain⟨z,ad,n,r,e⟩:=h.ok I.hok
  exact⟨ad,r,⟨_,n,e,rfl,rfl,rfl⟩,z⟩
 ·refine⟨ad.toList,r,⟨o,n,I.kIn a o hk,hc,hd,by simpa using b⟩,?_⟩
  have e:=r.length;simp only[Array.length_toList] at e;(first|lia|omega)
def Inv.tuple(I:Inv X aa σ H s)(h:SqT X.K H a xs):∃ad:List Value,Vals xs ad/\IsTup s.heap a ad.toArray/\xs.length<=sizeLine:=by
 rcases h with h|⟨o,ad,n,hk,hc,b,hz,r⟩
 ·obtain⟨z,ad,r,p⟩:=h.ok I.hok
  exact⟨ad,r,p,z⟩
 ·refine⟨ad.toList,r,⟨o,I.kIn a o hk,hc,n,by simpa using b⟩,?_⟩
  have e:=r.length;simp only[Array.length_toList] at e;(first|lia|omega)
def Inv.list_inj(I:Inv X aa σ H s)(h:SqL X.K H a xs)(h':SqL X.K H a ys):xs=ys:=by
 obtain⟨ad,r,⟨o,n,e,_,_,d⟩,_⟩:=I.list h;obtain⟨its',b,⟨o',c,e',_,_,d'⟩,_⟩:=I.list h';rw[e] at e';cases e';rw[d] at d';injection d' with d1 _
 have:ad=its':=by simpa using congrArg Array.toList d1
 subst this;exact r.inj b
def Inv.tuple_inj(I:Inv X aa σ H s)(h:SqT X.K H a xs)(h':SqT X.K H a ys):xs=ys:=by
 obtain⟨ad,r,⟨o,e,_,n,d⟩,_⟩:=I.tuple h;obtain⟨its',b,⟨o',e',_,c,d'⟩,_⟩:=I.tuple h';rw[e] at e';cases e';rw[d] at d';injection d' with d1 _
 have:ad=its':=by simpa using congrArg Array.toList d1
 subst this;exact r.inj b
end
abbrev Cx.wish(X:Cx)(E:Ω):Cx:={X with xe:=E}
abbrev Cx.nox(X:Cx):Cx:=X.wish fun _ _=>False
def Cx.Ok.wish{X:Cx}(ok:X.Ok)(E:Ω):(X.wish E).Ok:=
 ⟨ok.mod,ok.kind,ok.glob,ok.blt,ok.above,ok.inj,ok.has,ok.cab,ok.hd,ok.frames,ok.stk,ok.exf,ok.bs,ok.bsz,ok.noex,ok.exfs,ok.funs,ok.frf⟩
def Cx.Ok.unwish{X:Cx}{E:Ω}(ok:(X.wish E).Ok):X.Ok:=
 ⟨ok.mod,ok.kind,ok.glob,ok.blt,ok.above,ok.inj,ok.has,ok.cab,ok.hd,ok.frames,ok.stk,ok.exf,ok.bs,ok.bsz,ok.noex,ok.exfs,ok.funs,ok.frf⟩
section
variable{X:Cx}{aa:Ψ}{σ:St}{H:Hp}{s:Shared}{E:Ω}
def Inv.wish(I:Inv X aa σ H s)(E:Ω):Inv (X.wish E) aa σ H s:=⟨I.ok.wish E,I.os,I.bare,I.base,I.loc,I.cell,I.free,I.freeC,I.pin,I.hok,I.len⟩
def Inv.unwish(I:Inv (X.wish E) aa σ H s):Inv X aa σ H s:=⟨I.ok.unwish,I.os,I.bare,I.base,I.loc,I.cell,I.free,I.freeC,I.pin,I.hok,I.len⟩
def SP.unwish{D:Ends}{f:Flow}{s':Shared}(h:SP (X.wish E) aa D f s'):SP X aa D f s':=by
 cases f with
 |next=>obtain⟨a,H',I,q⟩:=h;exact⟨a,H',I.unwish,q⟩
 |brk=>obtain⟨a,H',I,q⟩:=h;exact⟨a,H',I.unwish,q⟩
 |cont=>obtain⟨a,H',I,q⟩:=h;exact⟨a,H',I.unwish,q⟩
 |ret u=>obtain⟨v,a,H',I,r,q⟩:=h;exact⟨v,a,H',I.unwish,r,q⟩
def PSs.nox{st:List Stmt}{t:TS}(h:PSs X.nox st t):PSs X st t:=fun aa s σ H D I hw=>
 wpAny_mono (h aa s σ H D (I.wish _) hw) (fun _ _ q=>q.unwish) fun _ _ z=>False.elim z
end
section
variable{X:Cx}{st:Stmt}{rest:List Stmt}{t u:TS}{e:Expr}{te:TE}{pos:Pos}
def KU:TS:=fun D σ H=>D.nx σ H
def ro(t u:TS):TS:=fun D σ H=>t {D with nx:=u D} σ H
def zJ:PSs X [] KU:=fun _ _ σ H _ I h=>wpAny_execs_nil ⟨σ,H,I,h⟩
def ze(h1:PS X st t)(h2:PSs X rest u):PSs X (st::rest) (ro t u):=by
 intro aa s σ H D I h;refine wpAny_execs_cons (aT (h1 aa s σ H {D with nx:=u D} I h) fun f a q=>?_);cases f with
 |next=>
  obtain⟨b,H',c,q⟩:=q;exact h2 aa a b H' D c q
 |ret v=>exact q
 |brk=>exact q
 |cont=>exact q
def zh(h1:PS X st t):PSs X [st] t:=by
 intro aa s σ H D I h;refine wpAny_execs_cons (aT (h1 aa s σ H D I h) fun f a q=>?_);cases f with
 |next=>exact wpAny_execs_nil q
 |ret v=>exact q
 |brk=>exact q
 |cont=>exact q
def Inv.quiet{aa:Ψ}{σ:St}{H:Hp}{s:Shared}(I:Inv X aa σ H s):interactive X.env=false:=by simp[interactive,I.ok.kind]
def KW(te:TE):TS:=fun D σ H=>te σ H fun _ H1=>D.nx σ H1
def iN(b:PE X e te)(c:swapsWith e none pos.line X.env=pure false:=by rfl):PS X (.Expr e pos) (KW te):=by
 intro aa s σ H D I h;exact wpAny_Expr_any (aT (b aa s σ H _ I h) fun v f ⟨x,H1,d,g,a⟩=>⟨σ,H1,d,a⟩) I.quiet c
def rq(te:TE):TS:=fun D σ H=>te σ H D.rt
def zr(c:PE X e te):PS X (.Return (some e) pos) (rq te):=by
 intro aa s σ H D I h;exact wpAny_Return_some (aT (c aa s σ H _ I h) fun v f ⟨x,H1,d,a,b⟩=>⟨x,σ,H1,d,a,b⟩)
def DT(c:TT)(t u:TS):TS:=fun D σ H=>c σ H fun b H1=>if b=true then t D σ H1 else u D σ H1
def cn{c:Expr}{a b:List Stmt}{tc:TT}(hc:PT X c tc)(i:PSs X a t)(hb:PSs X b u):PS X (.If c a b pos) (DT tc t u):=by
 intro aa s σ H D I h;refine wpAny_If (aT (hc aa s σ H _ I h) fun d e ⟨H1,g,f⟩=>?_);cases d with
 |true=>exact i aa e σ H1 D g f
 |false=>exact hb aa e σ H1 D g f
def KY:TS:=fun _ _ _=>False
def KZ{a:List Stmt}:PSs X a KY:=fun _ _ _ _ _ _ h=>h.elim
end
abbrev TG:=V->St->Hp->(St->Hp->Prop)->Prop
abbrev k8:=List V->St->Hp->(St->Hp->Prop)->Prop
def PG(X:Cx)(b:Expr)(t:TG):Prop:=
 ∀(aa:Ψ)(s:Shared)(σ:St)(H:Hp)(v:V)(u:Value)(Q:St->Hp->Prop),Inv X aa σ H s->RelV v u->t v σ H Q->
  wpAny (model X.prog X.w) X.A (assign b X.env u) (fun _ s'=>∃a H',Inv X aa a H' s'/\Q a H') X.xe s
def B8(X:Cx)(b:List Expr)(t:k8):Prop:=
 ∀(aa:Ψ)(s:Shared)(σ:St)(H:Hp)(vs:List V)(us:List Value)(Q:St->Hp->Prop),Inv X aa σ H s->Vals vs us->t vs σ H Q->
  wpAny (model X.prog X.w) X.A (assignInOrder ((assignEach b X.env).map (·.2)) us) (fun _ s'=>∃a H',Inv X aa a H' s'/\Q a H') X.xe s
abbrev k_:=V->V->V->Hp->(Hp->Prop)->Prop
def rv(X:Cx)(t:k_):Prop:=
 ∀(aa:Ψ)(s:Shared)(σ:St)(H:Hp)(o i v:V)(a b u:Value)(Q:Hp->Prop),Inv X aa σ H s->RelV o a->RelV i b->RelV v u->t o i v H Q->
  wpAny (model X.prog X.w) X.A (setItem a b u) (fun _ s'=>∃H',Inv X aa σ H' s'/\Q H') X.xe s
section
variable{X:Cx}{pos:Pos}
def zL(i:Nat):TG:=fun v σ H Q=>Q (σ.set i (some v)) H
def zl{i:Nat}{x:Str}(a:X.N.Nodup)(hi:X.N[i]?=some x)(hx:Loc X.env.scope x)(b:X.fn x=true\/X.env.scope.names.lookup x=some .local:=by first|exact .inl rfl|exact .inr rfl|assumption):PG X (.Name x pos) (zL i):=by
 intro aa s σ H v u Q I r h;exact wpAny_assign_Name (GU I a hi hx r (fun s' c=>⟨_,H,c,h⟩) b)
def cq:k8:=fun vs σ H Q=>vs=[]/\Q σ H
def cD(t:TG)(u:k8):k8:=fun vs σ H Q=>∃v r,vs=v::r/\t v σ H fun a H'=>u r a H' Q
def gU:B8 X [] cq:=by
 intro aa s σ H vs us Q I r h;obtain⟨e,h⟩:=h;subst e;cases r;exact assignInOrder_nil ⟨σ,H,I,h⟩
def zB{e:Expr}{es:List Expr}{t:TG}{u:k8}(h1:PG X e t)(h2:B8 X es u)(d:(assignEach (e::es) X.env).map (·.2)=assign e X.env::(assignEach es X.env).map (·.2):=by rfl):B8 X (e::es) (cD t u):=by
 intro aa s σ H vs us Q I r h;obtain⟨v,g,e1,h⟩:=h;subst e1;cases r with
 |cons r rr=>
  rw[d];refine assignInOrder_cons (aT (h1 aa s σ H _ _ _ I r h) fun _ a ⟨b,H1,f,c⟩=>?_);exact h2 aa a b H1 _ _ Q f rr c
def cr(K:Ag)(n:Nat)(t:k8):TG:=fun v σ H Q=>∃a xs,v=.ref a/\SqT K H a xs/\xs.length=n/\t xs σ H Q
def gZ{es:List Expr}{k:Nat}{t:k8}{n:Nat}(hc:X.calm=true)(h:B8 X es t)(g:(assignEach es X.env).length=n:=by rfl)(i:(assignEach es X.env).findIdx? (·.1)=none:=by rfl):PG X (.Tuple es k pos) (cr X.K n t):=by
 intro aa s σ H v u Q I r hw;obtain⟨a,xs,e1,hq,d,hw⟩:=hw;subst e1;cases r;obtain⟨ad,c,f,hz⟩:=I.tuple hq;refine assign_Tuple_tuple (I.ok.hd hc) f (by simp[g,<-d,c.length]) i fun h' hx=>?_;have j:Inv X aa σ H {s with heap:=h'}:=I.kept (t':=s.toks) fun b o e=>hx b o (AD (Ax e)) e;exact h aa _ σ H xs _ Q j (by simpa using c) hw
def DU(to a:TE)(t:k_):TG:=fun v σ H Q=>to σ H fun o H1=>a σ H1 fun i H2=>t o i v H2 fun b=>Q σ b
def gz{o i:Expr}{to c:TE}{t:k_}(q:PE X o to)(hi:PE X i c)(w:rv X t)(z:∀v,assign (.Subscript o i pos) X.env v=(do
   let a <-holding [v] (eval o X.env)
   let b <-holding [v,a] (eval i X.env)
   standAt pos
   holding [v,a,b] (setItem a b v)
   release [v,a,b] []):=by intro _;rfl):PG X (.Subscript o i pos) (DU to c t):=by
 intro aa s σ H v u Q I r h;rw[z];refine Ae (wpAny_holding (aT (q aa s σ H _ I h) fun a d ⟨x,H1,A,e,f⟩=>?_));refine Ae (wpAny_holding (aT (hi aa d σ H1 _ A f) fun b g ⟨y,H2,C,j,l⟩=>?_));refine Ae (wpAny_standAt (Ae (wpAny_holding (aT (w aa g σ H2 x y v a b u _ C e j r l) fun _ F ⟨D,E,p⟩=>?_))));exact wpAny_release ⟨σ,D,E,p⟩
def g0(te:TE)(g:TG):TS:=fun D σ H=>te σ H fun x H1=>g x σ H1 D.nx
def gB{tg e:Expr}{te:TE}{g:TG}(d:PE X e te)(hg:PG X tg g)(f:swapsWithSole [tg] e pos.line X.env=pure false:=by rfl)(hw:swappedStores [tg] e X.env=pure none:=by rfl)(h1:(assignEach [tg] X.env).map (·.2)=[assign tg X.env]:=by rfl):PS X (.Assign [tg] e pos) (g0 te g):=by
 intro aa s σ H D I h;refine wpAny_Assign_stores (aT (d aa s σ H _ I h) fun v a ⟨x,H1,i,b,c⟩=>?_) f hw;rw[h1];exact aT (hg aa a σ H1 x v _ i b c) fun _ j q=>q
def zq{i:Nat}{x:Str}{e:Expr}{te:TE}{aH:Pos}(c:X.N.Nodup)(hi:X.N[i]?=some x)(hx:Loc X.env.scope x)(d:PE X e te)(f:swapsWith e (some (.Name x aH)) pos.line X.env=pure false:=by rfl)(g:X.fn x=true\/X.env.scope.names.lookup x=some .local:=by first|exact .inl rfl|exact .inr rfl|assumption):PS X (.Assign [.Name x aH] e pos) (g0 te (zL i)):=by
 intro aa s σ H D I h;refine wpAny_Assign_Name (aT (d aa s σ H _ I h) fun v o ⟨y,H1,j,a,b⟩=>?_) f;exact GU j c hi hx a (fun p l=>⟨_,H1,l,b⟩) g
def K0(c:TT)(tb:TS):TS:=fun D σ H=>∃W:Nat->St->Hp->Prop,(∃m,W m σ H)/\∀m σ H,W m σ H->
 c σ H fun b H1=>if b=true then ∃N:St->Hp->Prop,(∀a H',N a H'->∃d,d<m/\W d a H')/\tb {D with nx:=N,ct:=N,bk:=D.nx} σ H1 else D.nx σ H1
def B'{c:Expr}{x:List Stmt}{tc:TT}{tb:TS}(hp:PassesOwn (model X.prog X.w) X.A X.env X.xe)(hc:PT X c tc)(hb:PSs X x tb):PS X (.While c x [] pos) (K0 tc tb):=by
 intro aa s σ H D I h;obtain⟨W,⟨C,E⟩,turn⟩:=h;refine wpAny_While (codeAny_whileLoop (fun n s'=>∃r H',Inv X aa r H' s'/\W n r H') ?_ C ⟨σ,H,I,E⟩);rintro n F ⟨i,H1,J,G⟩;refine wpAny_passesOwn hp (aT (hc aa F i H1 _ J (turn n i H1 G)) fun b z ⟨H2,y,e⟩=>?_);cases b with
 |true=>
  obtain⟨N,u,e⟩:=e;rw[if_pos rfl];refine wpAny_passesOwn hp (aT (hb aa z i H2 _ y e) fun f L g=>?_);cases f with
  |next=>
   obtain⟨a,d,q,j⟩:=g;obtain⟨l,o,p⟩:=u a d j;exact⟨l,o,a,d,q,p⟩
  |cont=>
   obtain⟨a,d,q,j⟩:=g;obtain⟨l,o,p⟩:=u a d j;exact⟨l,o,a,d,q,p⟩
  |brk=>exact g
  |ret v=>exact g
 |false=>
  rw[if_neg AK];exact wpAny_execs_nil ⟨i,H2,y,e⟩
end
structure It where
 go:Nat->Hp->Prop
 yld:Nat->Hp->V->Hp->Prop
 stop:Nat->Hp->Prop
def cv(X:Cx)(aa:Ψ)(H:Hp)(b:Addr):Prop:=
 H b=none/\b≠X.env.locals/\b∉X.fs/\(b∈X.ex\/X.s₀⁻¹<=b)/\(∀x c,X.env.cells.lookup x=some c->c≠b)/\∀p∈X.pn++aa,p.1≠b
def Inv.fpOk{X:Cx}{aa:Ψ}{σ:St}{H H':Hp}{s:Shared}{b:Addr}(I:Inv X aa σ H s)(hb:s⁻¹<=b)(a:H' b=none):cv X aa H' b:=by
 refine⟨a,Nat.ne_of_gt (AE I.lt hb),I.nofs hb,.inr (Af I.sz hb),fun x c e z=>?_,fun p hp z=>?_⟩
 ·obtain⟨v,q⟩:=I.cell x c e
  exact absurd (AE q.lt (by rw[z];exact hb)) (Nat.lt_irrefl _)
 ·exact absurd (AE (Ax (I.pin p hp).1) (by rw[z];exact hb)) (Nat.lt_irrefl _)
structure Turn(P:Program)(w:World)(K:Ag)(tg:Expr)(J:It)(fp:List Addr)(it:Addr)(tn:Nat->Heap->Prop):Prop where
 mem:it∈fp
 obj:∀i h,tn i h->∀b∈fp,∃o,h.get? b=some o/\∀v,o.data≠.cell v
 keep:∀i h h',tn i h->(∀b∈fp,∀o,h.get? b=some o->h'.get? b=some o)->tn i h'
 item:∀(X:Cx),X.prog=P->X.w=w->X.K=K->X.calm=true->∀(i:Nat)(aa:Ψ)(s:Shared)(σ:St)(H:Hp)(E:Ω),Inv X aa σ H s->(∀b∈fp,cv X aa H b)->tn i s.heap->J.go i H->
  wpAny (model P w) X.A (pyNext (.ref it)) (fun r s1=>∃u,r=some u/\
   wpAny (model P w) X.A (letOwnedTupleGo tg (.ref it) u) (fun _ s2=>∃x H',Inv X aa σ H' s2/\RelV x u/\J.yld i H x H'/\tn (i+1) s2.heap/\∀b∈fp,H' b=none) E s1) E s
 done:∀(X:Cx),X.prog=P->X.w=w->X.K=K->X.calm=true->∀(i:Nat)(aa:Ψ)(s:Shared)(σ:St)(H:Hp)(E:Ω),Inv X aa σ H s->(∀b∈fp,cv X aa H b)->tn i s.heap->J.stop i H->
  wpAny (model P w) X.A (pyNext (.ref it)) (fun r s1=>r=none/\Inv X aa σ H s1) E s
 self:∀(A:Around)(i:Nat)(s:Shared)(Q:Ω)(E:Ω),tn i s.heap->Q (.ref it) s->wpAny (model P w) A (pyIter (.ref it)) Q E s
abbrev TI:=St->Hp->(It->Hp->Prop)->Prop
def DW(X:Cx)(aa:Ψ)(σ:St)(tg:Expr)(R:It->Hp->Prop)(d:Value)(c:Shared):Prop:=
 ∃(it:Addr)(a:List Addr)(tn:Nat->Heap->Prop)(J:It)(H':Hp),d=.ref it/\Inv X aa σ H' c/\Turn X.prog X.w X.K tg J a it tn/\tn 0 c.heap/\(∀b∈a,cv X aa H' b)/\R J H'
def PI(X:Cx)(tg iter:Expr)(wi:TI):Prop:=
 ∀(aa:Ψ)(s:Shared)(σ:St)(H:Hp)(R:It->Hp->Prop),Inv X aa σ H s->wi σ H R->
  wpAny (model X.prog X.w) X.A (eval iter X.env) (fun v a=>wpAny (model X.prog X.w) X.A (pyIter v) (DW X aa σ tg R) X.xe a) X.xe s
def Cd{M:Model}{A:Around}{E:Ω}{s:Shared}{tg:Expr}{it:Addr}{u:Value}{o:Obj}{n:String}{vs:Array Value}{Q:Unit->Shared->Prop}(b:s.heap.get? it=some o)(hc:o.cls=.type n)(hd:o.data=.fields vs)(c:["enumerate","zip","dict_itemiterator","dict_reverseitemiterator","odict_iterator","itertools.zip_longest","itertools.pairwise"].contains n=false)(a:Q () s):wpAny M A (letOwnedTupleGo tg (.ref it) u) Q E s:=by
 unfold letOwnedTupleGo;cases tg<;>first
  |exact An a
  |(cases u<;>first
    |exact An a
    |(refine Ae (wpAny_load b ?_);rw[hc,hd];show wpAny M A (if(["enumerate","zip","dict_itemiterator","dict_reverseitemiterator","odict_iterator","itertools.zip_longest","itertools.pairwise"].contains n&&vs[0]?==some (rawInt _))=true then _ else _) Q E s;rw[if_neg (by intro h;rw[c,Bool.false_and] at h;cases h)];exact An a))
def fL(K:Ag)(a:Addr):It:=
 ⟨fun i H=>∃xs x,SqL K H a xs/\xs[i]?=some x,fun i H x H'=>H'=H/\∀xs,SqL K H a xs->xs[i]?=some x,fun i H=>∃xs,SqL K H a xs/\xs.length<=i⟩
def Ct(K:Ag)(a:Addr):It:=
 ⟨fun i H=>∃xs x,SqT K H a xs/\xs[i]?=some x,fun i H x H'=>H'=H/\∀xs,SqT K H a xs->xs[i]?=some x,fun i H=>∃xs,SqT K H a xs/\xs.length<=i⟩
def fO(lo:Int)(n:Nat):It:=⟨fun i _=>i<n,fun i H x H'=>H'=H/\x=.int (lo+i),fun i _=>n<=i⟩
def Cy{P:Program}{w:World}{K:Ag}{tg:Expr}(a it:Addr):Turn P w K tg (fL K a) [it] it (fun i h=>h.IsListIter it a i) where
 mem:=by simp
 obj:=fun i h st b hb=>by
  have e:b=it:=by simpa using hb
  subst e;obtain⟨o,e,c,d⟩:=st;exact⟨o,e,fun v z=>by rw[d] at z;cases z⟩
 keep:=fun i h h' st k=>st.at fun o e=>k it (by simp) o e
 item:=by
  intro X g hw j hc i aa s σ H E I f st hg;subst g hw j;obtain⟨xs,x,hq,hx⟩:=hg;obtain⟨ad,l,p,hz⟩:=I.list hq;obtain⟨u,G,J⟩:=l.get hx;obtain⟨q,f1,f2,r,y,A⟩:=f it (by simp);refine wpAny_pyNext_list_item st p.isList (x:=u) (by simpa using G) fun h' C D=>?_;have L:Inv X aa σ H {s with heap:=h'}:=I.turned (t':=s.toks) (fun b o hb e=>(D.2 b hb).trans e) q f1 r y A;obtain⟨o,e,c,d⟩:=id C;exact⟨u,rfl,Cd (s:={s with heap:=h'}) e c d ξ ⟨x,H,L,J,⟨rfl,fun ys hy=>by rw[I.list_inj hy hq];exact hx⟩,C,fun b hb=>(f b hb).1⟩⟩
 done:=by
  intro X g hw j hc i aa s σ H E I f st hg;subst g hw j;obtain⟨xs,hq,hx⟩:=hg;obtain⟨ad,l,p,hz⟩:=I.list hq;obtain⟨q,f1,f2,r,y,A⟩:=f it (by simp);have M:=l.length;exact wpAny_pyNext_list_end (I.ok.hd hc) st p.isList (by simp;(first|lia|omega)) fun h' F=>⟨rfl,I.turned (t':=s.toks) (fun b o hb e=>F b o hb e) q f1 r y A⟩
 self:=fun _ _ _ _ _ st h=>wpAny_pyIter_listiter st h
def K2{P:Program}{w:World}{K:Ag}{tg:Expr}(a it:Addr):Turn P w K tg (Ct K a) [it] it (fun i h=>h.IsTupleIter it a i) where
 mem:=by simp
 obj:=fun i h st b hb=>by
  have e:b=it:=by simpa using hb
  subst e;obtain⟨o,e,c,d⟩:=st;exact⟨o,e,fun v z=>by rw[d] at z;cases z⟩
 keep:=fun i h h' st k=>st.at fun o e=>k it (by simp) o e
 item:=by
  intro X g hw j hc i aa s σ H E I f st hg;subst g hw j;obtain⟨xs,x,hq,hx⟩:=hg;obtain⟨ad,l,p,hz⟩:=I.tuple hq;obtain⟨u,G,J⟩:=l.get hx;obtain⟨q,f1,f2,r,y,A⟩:=f it (by simp);refine wpAny_pyNext_tuple_item st (show s.heap.IsTuple a ad.toArray from p) (x:=u) (by simpa using G) fun h' C D=>?_;have L:Inv X aa σ H {s with heap:=h'}:=I.turned (t':=s.toks) (fun b o hb e=>(D.2 b hb).trans e) q f1 r y A;obtain⟨o,e,c,d⟩:=id C;exact⟨u,rfl,Cd (s:={s with heap:=h'}) e c d ξ ⟨x,H,L,J,⟨rfl,fun ys hy=>by rw[I.tuple_inj hy hq];exact hx⟩,C,fun b hb=>(f b hb).1⟩⟩
 done:=by
  intro X g hw j hc i aa s σ H E I f st hg;subst g hw j;obtain⟨xs,hq,hx⟩:=hg;obtain⟨ad,l,p,hz⟩:=I.tuple hq;obtain⟨q,f1,f2,r,y,A⟩:=f it (by simp);have M:=l.length;exact wpAny_pyNext_tuple_end (I.ok.hd hc) st (show s.heap.IsTuple a ad.toArray from p) (by simp;(first|lia|omega)) fun h' F=>⟨rfl,I.turned (t':=s.toks) (fun b o hb e=>F b o hb e) q f1 r y A⟩
 self:=fun _ _ _ _ _ st h=>wpAny_pyIter_tupleiter st h
def K3{P:Program}{w:World}{K:Ag}{tg:Expr}(it:Addr)(lo:Int)(n:Nat):Turn P w K tg (fO lo n) [it] it (fun i h=>IsRangeIter h it (lo+(i:Nat)*1) ((n:Int)-(i:Nat)) 1) where
 mem:=by simp
 obj:=fun i h st b hb=>by
  have e:b=it:=by simpa using hb
  subst e;exact⟨_,st,fun v z=>by
   have u:Data.fields _=Data.cell v:=z;cases u⟩
 keep:=fun i h h' st k=>k it (by simp) _ st
 item:=by
  intro X c hw d hc i aa s σ H E I a st hg;subst c hw d;obtain⟨f,f1,f2,g,j,l⟩:=a it (by simp);have W:=Walks.range (prog:=X.prog) (w:=X.w) (I.ok.hd hc) it lo 1 n;refine W.item i s _ _ hg st fun v h' tk hv p q=>?_;obtain⟨t,rfl⟩:=hv;have x:Inv X aa σ H {s with heap:=h',toks:=tk}:=I.turned (fun b o hb e=>q b o (by simpa using hb) e) f f1 g j l;refine⟨_,rfl,Cd (s:={s with heap:=h',toks:=tk}) (n:="range_iterator") p rfl rfl ξ ⟨.int (lo+i),H,x,⟨t,?_⟩,⟨rfl,rfl⟩,p,fun b hb=>(a b hb).1⟩⟩;rw[Int.mul_one]
 done:=by
  intro X c hw d hc i aa s σ H E I a st hg;subst c hw d;obtain⟨f,f1,f2,g,j,l⟩:=a it (by simp);exact wpAny_pyNext_range_end (I.ok.hd hc) st (by have:n<=i:=hg;(first|lia|omega)) fun h' r=>⟨rfl,I.turned (t':=s.toks) (fun b o hb e=>r b o hb e) f f1 g j l⟩
 self:=fun _ _ _ _ _ st h=>wpAny_pyIter_rangeiter st h
section
variable{X:Cx}{tg:Expr}
def GX(K:Ag)(tl:TE):TI:=fun σ H R=>tl σ H fun x H1=>∃a,x=.ref a/\(∃xs,SqL K H1 a xs)/\R (fL K a) H1
def DX(K:Ag)(tl:TE):TI:=fun σ H R=>tl σ H fun x H1=>∃a,x=.ref a/\(∃xs,SqT K H1 a xs)/\R (Ct K a) H1
def zI{l:Expr}{tl:TE}(g:PE X l tl):PI X tg l (GX X.K tl):=by
 intro aa s σ H R I h;refine aT (g aa s σ H _ I h) fun v c ⟨x,H1,I1,d,f⟩=>?_;obtain⟨a,e,⟨xs,hq⟩,q⟩:=f;subst e;cases d;obtain⟨ad,i,p,hz⟩:=I1.list hq;refine wpAny_pyIter_list p.isList ?_;refine⟨c⁻¹,[c⁻¹],_,_,H1,rfl,I1.kept (t':=c.toks) fun b o e=>Ai _ e,Cy a _,⟨_,AI _ rfl,rfl,rfl⟩,fun b hb=>?_,q⟩;have e:b=c⁻¹:=by simpa using hb
 subst e;exact I1.fpOk (Ad _) (I1.hok.fresh (Ad _))
def GY{l:Expr}{tl:TE}(g:PE X l tl):PI X tg l (DX X.K tl):=by
 intro aa s σ H R I h;refine aT (g aa s σ H _ I h) fun v c ⟨x,H1,I1,d,f⟩=>?_;obtain⟨a,e,⟨xs,hq⟩,q⟩:=f;subst e;cases d;obtain⟨ad,i,p,hz⟩:=I1.tuple hq;refine wpAny_pyIter_tuple (show c.heap.IsTuple a ad.toArray from p) ?_;refine⟨c⁻¹,[c⁻¹],_,_,H1,rfl,I1.kept (t':=c.toks) fun b o e=>Ai _ e,K2 a _,⟨_,AI _ rfl,rfl,rfl⟩,fun b hb=>?_,q⟩;have e:b=c⁻¹:=by simpa using hb
 subst e;exact I1.fpOk (Ad _) (I1.hok.fresh (Ad _))
def GZ{aa:Ψ}{σ:St}{H:Hp}{s:Shared}{R:It->Hp->Prop}{E:Ω}{lo hi:Int}{t u v:Tok}{tk:Nat}(I:Inv X aa σ H s)(h1:-(2 ^ 62)<=lo)(h2:lo<2 ^ 62)(a:-(2 ^ 62)<=hi)(c:hi<2 ^ 62)(q:R (fO lo (hi-lo).toNat) H):wpAny (model X.prog X.w) X.A (pyIter (.ref s⁻¹)) (DW X aa σ tg R) E {s with heap:=s.heap.push {cls:=.type "range",data:=.fields #[.int lo t,.int hi u,.int 1 v]},toks:=tk}:=by
 refine wpAny_pyIter_range (IsRange.new ..) (small_one h1 h2 a c) ?_;have I1:Inv X aa σ H {s with heap:=s.heap.push {cls:=.type "range",data:=.fields #[.int lo t,.int hi u,.int 1 v]},toks:=tk}:=I.kept fun b o e=>Ai _ e;refine⟨(s.heap.push {cls:=.type "range",data:=.fields #[.int lo t,.int hi u,.int 1 v]}).objs.size,[(s.heap.push {cls:=.type "range",data:=.fields #[.int lo t,.int hi u,.int 1 v]}).objs.size],_,_,H,rfl,
  I1.kept (t':=tk) fun b o e=>Ai _ e,K3 _ lo (hi-lo).toNat,?_,fun b hb=>?_,q⟩
 ·have e1:lo+((0:Nat):Int)*1=lo:=by simp
  have e2:(((hi-lo).toNat:Nat):Int)-((0:Nat):Int)=Builtin.Range.rangeSize lo hi 1:=by rw[rangeSize_one];split<;>(first|lia|omega)
  show IsRangeIter _ _ (lo+((0:Nat):Int)*1) ((((hi-lo).toNat:Nat):Int)-((0:Nat):Int)) 1;rw[e1,e2];exact AI _ rfl
 ·have e:b=(s.heap.push {cls:=.type "range",data:=.fields #[.int lo t,.int hi u,.int 1 v]}).objs.size:=by simpa using hb
  subst e;exact I1.fpOk (Ad _) (I1.hok.fresh (Ad _))
def G0(ta:TA):TI:=fun σ H R=>ta σ H fun vs H1=>∃j:Int,vs=[.int j]/\-(2 ^ 62)<=j/\j<2 ^ 62/\R (fO 0 j.toNat) H1
def K4(ta:TA):TI:=fun σ H R=>ta σ H fun vs H1=>∃i j:Int,vs=[.int i,.int j]/\(-(2 ^ 62)<=i/\i<2 ^ 62/\-(2 ^ 62)<=j/\j<2 ^ 62)/\R (fO i (j-i).toNat) H1
def g_{a:Expr}{ta:TA}{p pos:Pos}(hg:Gl X "range")(f:X.mg "range"=none)(g:PA X [a] ta)(i:starEach [a] X.env=[(false,eval a X.env)]:=by rfl):PI X tg (.Call (.Name "range" p) [a] [] pos) (G0 ta):=by
 intro aa s σ H R I h;refine Call_ (jl I hg f boot_range (PyProof.Rows.callWith_type1 (aT (g pos aa s σ H _ I h) fun us o ⟨vs,H1,l,c,b⟩=>?_) i rfl));obtain⟨j,e,b,d,q⟩:=b;subst e;cases c with
 |cons r rr=>
  cases rr;obtain⟨t,rfl⟩:=r;exact call_range_1 (GZ l ω ω b d (by simpa using q))
def K5{a b:Expr}{ta:TA}{p pos:Pos}(hg:Gl X "range")(u:X.mg "range"=none)(v:PA X [a,b] ta)(w:starEach [a,b] X.env=[(false,eval a X.env),(false,eval b X.env)]:=by rfl)(d:starEach [b] X.env=[(false,eval b X.env)]:=by rfl):PI X tg (.Call (.Name "range" p) [a,b] [] pos) (K4 ta):=by
 intro aa s σ H R I h;refine Call_ (jl I hg u boot_range (PyProof.Rows.callWith_type1 (aT (v pos aa s σ H _ I h) fun us y ⟨vs,H1,x,f,c⟩=>?_) (by rw[w,d]) (by rw[d];rfl)));obtain⟨i,j,e,⟨c,g,l,o⟩,q⟩:=c;subst e;cases f with
 |cons r rr=>
  cases rr with
  |cons r' rr=>
   cases rr;obtain⟨t,rfl⟩:=r;obtain⟨t',rfl⟩:=r';exact call_range_2 (GZ x c g l o q)
def DY(wi:TI)(g:TG)(tb:TS):TS:=fun D σ H=>wi σ H fun J H1=>∃W:Nat->Nat->St->Hp->Prop,(∃m,W 0 m σ H1)/\∀i m σ H,W i m σ H->
 (J.stop i H/\D.nx σ H)\/(J.go i H/\∃N:St->Hp->Prop,(∀a H',N a H'->∃b,b<m/\W (i+1) b a H')/\∀x H',J.yld i H x H'->g x σ H' fun c H2=>tb {D with nx:=N,ct:=N,bk:=D.nx} c H2)
def rx(a:List Addr)(h:Heap):Ψ:=a.filterMap fun b=>(h.get? b).map fun o=>(b,o)
def Cz{a:List Addr}{h:Heap}{b:Addr}{o:Obj}(hb:b∈a)(e:h.get? b=some o):(b,o)∈rx a h:=List.mem_filterMap.mpr ⟨b,hb,by rw[e];rfl⟩
def K6{a:List Addr}{h:Heap}{p:Addr×Obj}(hp:p∈rx a h):p.1∈a/\h.get? p.1=some p.2:=by
 obtain⟨b,hb,e⟩:=List.mem_filterMap.mp hp;cases q:h.get? b with
 |none=>rw[q] at e;cases e
 |some o=>
  rw[q] at e;have e':(b,o)=p:=AR e;subst e';exact⟨hb,q⟩
def Inv.pinned{aa:Ψ}{σ:St}{H:Hp}{s:Shared}{a:List Addr}(I:Inv X aa σ H s)(f:∀b∈a,cv X aa H b)(g:∀b∈a,∃o,s.heap.get? b=some o/\∀v,o.data≠.cell v):Inv X (aa++rx a s.heap) σ H s:=
 I.pins_of fun p hp=>(List.mem_append.mp hp).elim (fun z=>I.pin p (AF _ z)) fun z=>by
  obtain⟨hb,e⟩:=K6 z;obtain⟨c,f1,f2,_⟩:=f p.1 hb;obtain⟨o,e',d⟩:=g p.1 hb;rw[e] at e';cases e';exact⟨e,c,f1,f2,d⟩
def Inv.unpinned{aa pl:Ψ}{σ:St}{H:Hp}{s:Shared}(I:Inv X (aa++pl) σ H s):Inv X aa σ H s:=I.pins_of fun p hp=>I.pin p (AF _ (List.mem_append_left _ hp))
def hA{iter:Expr}{Q:List Stmt}{wi:TI}{g:TG}{tb:TS}{pos:Pos}(hp:PassesOwn (model X.prog X.w) X.A X.env X.xe)(hc:X.calm=true)(hi:PI X tg iter wi)(hg:PG X tg g)(hb:PSs X Q tb)(hs:∀x,foldedSetIterable iter X.env x=pure x:=by intro _;rfl):PS X (.For tg iter Q [] pos) (DY wi g tb):=by
 intro aa s σ H D I h;refine wpAny_For (aT (hi aa s σ H _ I h) fun v s1 h1=>aT h1 fun mP s2 h2=>?_) hs;obtain⟨it,y,tn,J,H2,e,I2,T,bH,f2,W,⟨m0,w0⟩,turn⟩:=h2;subst e;have c:∀{H':Hp},(∀b∈y,H' b=none)->∀b∈y,cv X aa H' b:=fun Y b hb=>⟨Y b hb,(f2 b hb).2⟩;refine codeAny_forLoop_any (fun n s'=>∃i z H',Inv X aa z H' s'/\tn i s'.heap/\(∀b∈y,H' b=none)/\W i n z H') ?_ m0 ⟨0,σ,H2,I2,bH,fun b hb=>(f2 b hb).1,w0⟩;rintro n M ⟨i,C,E,U,O,P,w3⟩;rcases turn i n C E w3 with ⟨stop,qn⟩|⟨go,N,hN,step⟩
 ·refine wpAny_passesOwn hp (aT (T.done X rfl rfl rfl hc i aa M C E X.xe U (c P) O stop) fun r Z ⟨hr,I4⟩=>?_)
  subst hr;exact wpAny_execs_nil ⟨C,E,I4,qn⟩
 ·refine wpAny_passesOwn hp (aT (T.item X rfl rfl rfl hc i aa M C E X.xe U (c P) O go) fun r Z ⟨u,hr,h4⟩=>?_)
  subst hr;refine wpAny_passesOwn hp (aT h4 fun _ L ⟨x,S,I5,r5,y5,p,F⟩=>?_);have kW:=I5.pinned (c F) (T.obj _ _ p);refine wpAny_passesOwn hp (aT (hg _ L C S x u _ kW r5 (step x S y5)) fun _ s6 ⟨jh,H6,I6,q6⟩=>?_);refine wpAny_passesOwn hp (aT (hb _ s6 jh H6 _ I6 q6) fun f G l=>?_);have again:∀{a:St}{j:Hp},Inv X (aa++rx y L.heap) a j G->N a j->∃m,m<n/\∃i z H',Inv X aa z H' G/\tn i G.heap/\(∀b∈y,H' b=none)/\W i m z H':=fun{a j} I7 q=>by
   obtain⟨m',hm,w7⟩:=hN a j q;refine⟨m',hm,i+1,a,j,I7.unpinned,T.keep _ _ _ p fun b hb o e=>(I7.pin (b,o) (AF _ (AF _ (Cz hb e)))).1,fun b hb=>?_,w7⟩;obtain⟨o,e,d⟩:=T.obj _ _ p b hb;exact(I7.pin (b,o) (AF _ (AF _ (Cz hb e)))).2.1
  cases f with
  |next=>obtain⟨a,j,I7,q⟩:=l;exact again I7 q
  |cont=>obtain⟨a,j,I7,q⟩:=l;exact again I7 q
  |brk=>obtain⟨a,j,I7,l⟩:=l;exact⟨a,j,I7.unpinned,l⟩
  |ret v=>obtain⟨x7,a,j,I7,r7,l⟩:=l;exact⟨x7,a,j,I7.unpinned,r7,l⟩
end
def CA{K:Ag}{a:Addr}{xs:List V}{g:TG}{tb:TS}{D:Ends}{σ:St}{H:Hp}(b:Nat->St->Hp->Prop)(l:b 0 σ H)(o:∀i σ H,i<=xs.length->b i σ H->SqL K H a xs)(r:∀i x σ H,xs[i]?=some x->b i σ H->g x σ H fun d H2=>tb {D with nx:=b (i+1),ct:=b (i+1),bk:=D.nx} d H2)(hd:∀σ H,b xs.length σ H->D.nx σ H):∃W:Nat->Nat->St->Hp->Prop,(∃m,W 0 m σ H)/\∀i m σ H,W i m σ H->
   ((fL K a).stop i H/\D.nx σ H)\/((fL K a).go i H/\∃N:St->Hp->Prop,(∀f H',N f H'->∃h,h<m/\W (i+1) h f H')/\∀x H',(fL K a).yld i H x H'->g x σ H' fun d H2=>tb {D with nx:=N,ct:=N,bk:=D.nx} d H2):=by
 refine⟨fun i m σ H=>m=xs.length-i/\i<=xs.length/\b i σ H,⟨xs.length,by simp,Az _,l⟩,?_⟩;rintro i m σ H ⟨rfl,hi,p⟩;have q:=o i σ H hi p
 by_cases c:i<xs.length
 ·refine .inr ⟨⟨xs,xs[i],q,by simp[c]⟩,b (i+1),fun f H' j=>⟨xs.length-(i+1),ω,rfl,c,j⟩,fun x H' y=>?_⟩
  obtain⟨e,y⟩:=y;subst e;exact r i x σ _ (y xs q) p
 ·have e:i=xs.length:=ω
  subst e;exact .inl ⟨⟨xs,q,Ad _⟩,hd σ H p⟩
def CB{lo:Int}{n:Nat}{g:TG}{tb:TS}{D:Ends}{σ:St}{H:Hp}(b:Nat->St->Hp->Prop)(j:b 0 σ H)(l:∀i σ H,i<n->b i σ H->g (.int (lo+i)) σ H fun c H2=>tb {D with nx:=b (i+1),ct:=b (i+1),bk:=D.nx} c H2)(hd:∀σ H,b n σ H->D.nx σ H):∃W:Nat->Nat->St->Hp->Prop,(∃m,W 0 m σ H)/\∀i m σ H,W i m σ H->
   ((fO lo n).stop i H/\D.nx σ H)\/((fO lo n).go i H/\∃N:St->Hp->Prop,(∀d H',N d H'->∃f,f<m/\W (i+1) f d H')/\∀x H',(fO lo n).yld i H x H'->g x σ H' fun c H2=>tb {D with nx:=N,ct:=N,bk:=D.nx} c H2):=by
 refine⟨fun i m σ H=>m=n-i/\i<=n/\b i σ H,⟨n,by simp,Az _,j⟩,?_⟩;rintro i m σ H ⟨rfl,hi,p⟩
 by_cases a:i<n
 ·refine .inr ⟨a,b (i+1),fun d H' h=>⟨n-(i+1),ω,rfl,a,h⟩,fun x H' y=>?_⟩
  obtain⟨e,y⟩:=y;subst e y;exact l i σ _ a p
 ·have e:i=n:=ω
  subst e;exact .inl ⟨Ad _,hd σ H p⟩
abbrev R2:=V->V->Hp->VK->Prop
def cI(X:Cx)(f:Value->Value->Sem Value)(r:R2):Prop:=
 ∀(aa:Ψ)(s:Shared)(σ:St)(H:Hp)(x y:V)(v u:Value)(Q:VK),Inv X aa σ H s->RelV x v->RelV y u->r x y H Q->
  wpAny (model X.prog X.w) X.A (f v u) (EP X aa σ Q) X.xe s
def DZ(X:Cx)(f:Value->Sem Value)(r:V->Hp->VK->Prop):Prop:=
 ∀(aa:Ψ)(s:Shared)(σ:St)(H:Hp)(x:V)(v:Value)(Q:VK),Inv X aa σ H s->RelV x v->r x H Q->
  wpAny (model X.prog X.w) X.A (f v) (EP X aa σ Q) X.xe s
def gD(X:Cx)(f:Value)(r:List V->Hp->VK->Prop):Prop:=
 ∀(aa:Ψ)(s:Shared)(σ:St)(H:Hp)(xs:List V)(us:List Value)(Q:VK),Inv X aa σ H s->Vals xs us->r xs H Q->
  wpAny (model X.prog X.w) X.A (call f us) (EP X aa σ Q) X.xe s
def bQ(r:R2)(ta tb:TE):TE:=fun σ H Q=>ta σ H fun x H1=>tb σ H1 fun y H2=>r x y H2 Q
def G1(r:V->Hp->VK->Prop)(ta:TE):TE:=fun σ H Q=>ta σ H fun x H1=>r x H1 Q
def rI(C:Int->Int->Prop)(g:Int->Int->V):R2:=fun x y H Q=>∃i j,x=.int i/\y=.int j/\C i j/\Q (g i j) H
def fS(g:Int->Int->V):R2:=fun x y H Q=>∃i j,x=.int i/\y=.int j/\Q (g i j) H
def rU(g:Int->V):V->Hp->VK->Prop:=fun x H Q=>∃i,x=.int i/\Q (g i) H
section
variable{X:Cx}{a b c:Expr}{ta tb tc:TE}{pos:Pos}
def la(p:PE X a ta)(hb:PE X b tb){aa:Ψ}{s:Shared}{σ:St}{H:Hp}{R:V->V->Hp->Prop}(I:Inv X aa σ H s)(h:ta σ H fun x H1=>tb σ H1 fun y H2=>R x y H2){Q:Ω}{f:Value->Value->Sem Value}(q:∀v u c x y H2,Inv X aa σ H2 c->RelV x v->RelV y u->R x y H2->wpAny (model X.prog X.w) X.A (f v u) Q X.xe c):wpAny (model X.prog X.w) X.A (eval a X.env) (fun v d=>wpAny (model X.prog X.w) X.A (eval b X.env) (fun u e=>wpAny (model X.prog X.w) X.A (f v u) Q X.xe e) X.xe d) X.xe s:=by
 refine aT (p aa s σ H _ I h) fun v g ⟨x,H1,r,i,j⟩=>?_;refine aT (hb aa g σ H1 _ r j) fun u c ⟨y,H2,z,l,o⟩=>?_;exact q v u c x y H2 z i l o
def zA{c:Operator}{r:R2}(g:cI X (binaryOp c) r)(i:PE X a ta)(hb:PE X b tb):PE X (.BinOp a c b pos) (bQ r ta tb):=by
 intro aa s σ H Q I h;exact wpAny_BinOp (la i hb I h fun v u d x y H2 j e f q=>g aa d σ H2 x y v u Q j e f q)
def j_{b:UnaryOp}{r:V->Hp->VK->Prop}(f:DZ X (unaryOp b) r)(g:PE X a ta):PE X (.UnaryOp b a pos) (G1 r ta):=by
 intro aa s σ H Q I h;exact UnaryOp_ (aT (g aa s σ H _ I h) fun v c ⟨x,H1,i,d,e⟩=>f aa c σ H1 x v Q i d e)
def oe{f:Value->Value->Sem Value}{C:Int->Int->Prop}{g:Int->Int->Int}(rule:∀(i j:Int)(t u:Tok)(s:Shared)(Q:Ω)(E:Ω),C i j->Q (.int (g i j) s.toks) {s with toks:=s.toks+1}->wpAny (model X.prog X.w) X.A (f (.int i t) (.int j u)) Q E s):cI X f (rI C fun i j=>.int (g i j)):=by
 intro aa s σ H x y v u Q I a b h;obtain⟨i,j,rfl,rfl,hc,q⟩:=h;obtain⟨t,rfl⟩:=a;obtain⟨t',rfl⟩:=b;exact rule i j t t' s _ _ hc ⟨.int (g i j),H,I.tok _,⟨_,rfl⟩,q⟩
def ry{f:Value->Value->Sem Value}{g:Int->Int->Int}(rule:∀(i j:Int)(t u:Tok)(s:Shared)(Q:Ω)(E:Ω),Q (.int (g i j) s.toks) {s with toks:=s.toks+1}->wpAny (model X.prog X.w) X.A (f (.int i t) (.int j u)) Q E s):cI X f (fS fun i j=>.int (g i j)):=by
 intro aa s σ H x y v u Q I a b h;obtain⟨i,j,rfl,rfl,q⟩:=h;obtain⟨t,rfl⟩:=a;obtain⟨t',rfl⟩:=b;exact rule i j t t' s _ _ ⟨.int (g i j),H,I.tok _,⟨_,rfl⟩,q⟩
def lh{f:Value->Value->Sem Value}{g:Int->Int->Bool}(rule:∀(i j:Int)(t u:Tok)(s:Shared)(Q:Ω)(E:Ω),Q (.bool (g i j)) s->wpAny (model X.prog X.w) X.A (f (.int i t) (.int j u)) Q E s):cI X f (fS fun i j=>.bl (g i j)):=by
 intro aa s σ H x y v u Q I a b h;obtain⟨i,j,rfl,rfl,q⟩:=h;obtain⟨t,rfl⟩:=a;obtain⟨t',rfl⟩:=b;exact rule i j t t' s _ _ ⟨.bl (g i j),H,I,rfl,q⟩
def rR(i j:Int):Prop:=0<j/\j<1073741824
def rS(i j:Int):Prop:=0<=j/\j<=1000000/\i.natAbs<2 ^ 64
def CMul(i j:Int):Prop:=(-(2 ^ 64)<i/\i<2 ^ 64)\/(-(2 ^ 64)<j/\j<2 ^ 64)
def CMul.ok{i j:Int}(h:CMul i j):IntMulOk i j:=by
 rcases h with ⟨h1,h2⟩|⟨h1,h2⟩
 ·exact .of_left (intBits_le_64 h1 h2)
 ·exact .of_right (intBits_le_64 h1 h2)
def fU:cI X (binaryOp .Add) (fS fun i j=>.int (i+j)):=ry fun _ _ _ _ _ _ _ q=>add_int q
def e8:cI X (binaryOp .Sub) (fS fun i j=>.int (i-j)):=ry fun _ _ _ _ _ _ _ q=>sub_int q
def lj:cI X (binaryOp .Mult) (rI CMul fun i j=>.int (i*j)):=oe fun _ _ _ _ _ _ _ hc q=>mul_int q hc.ok
def D8:cI X (binaryOp .FloorDiv) (rI rR fun i j=>.int (i / j)):=oe fun i j _ _ _ _ _ hc q=>by
 have h1:(0:Int)<j:=hc.1;have h2:j<1073741824:=hc.2;exact floordiv_int ω (by rw[Int.fdiv_eq_ediv_of_nonneg i ω];exact q) (.inl (PyProof.noPylong_small ω))
def j':cI X (binaryOp .Mod) (rI (fun _ j=>0<j) fun i j=>.int (i%j)):=oe fun i j _ _ _ _ _ hc q=>by
 have h1:(0:Int)<j:=hc;exact mod_int' ω (by rw[Int.fmod_eq_emod_of_nonneg i ω];exact q)
def D9:cI X (binaryOp .Pow) (rI rS fun i j=>.int (i ^ j.toNat)):=oe fun _ _ _ _ _ _ _ hc q=>pow_int_small hc.1 hc.2.1 hc.2.2 q
def K7{f:Value->Sem Value}{g:Int->Int}(rule:∀(i:Int)(t:Tok)(s:Shared)(Q:Ω)(E:Ω),Q (.int (g i) s.toks) {s with toks:=s.toks+1}->wpAny (model X.prog X.w) X.A (f (.int i t)) Q E s):DZ X f (rU fun i=>.int (g i)):=by
 intro aa s σ H x v Q I a h;obtain⟨i,rfl,q⟩:=h;obtain⟨t,rfl⟩:=a;exact rule i t s _ _ ⟨.int (g i),H,I.tok _,⟨_,rfl⟩,q⟩
def kb:DZ X (unaryOp .USub) (rU fun i=>.int (-i)):=K7 fun _ _ _ _ _ q=>neg_int q
end
def rT:V->V->Bool
 |.non,.non=>true|.non,.int _=>true|.int _,.non=>true|.non,.bl _=>true|.bl _,.non=>true|.non,.str _=>true|.str _,.non=>true
 |.int _,.int _=>true|.bl _,.bl _=>true|.str _,.str _=>true|.byt _,.byt _=>true
 |.int _,.str _=>true|.str _,.int _=>true|.bl _,.str _=>true|.str _,.bl _=>true
 |_,_=>false
def rX:R2:=fun x y H Q=>rT x y=true/\Q (.bl (decide (x=y))) H
def D_:R2:=fun x y H Q=>rT x y=true/\Q (.bl (!decide (x=y))) H
def lH{i j:Int}:decide (V.int i=V.int j)=(i==j):=by
 rw[Bm];simp
def hC{i j:Bool}:decide (V.bl i=V.bl j)=(i==j):=by
 rw[Bm];simp
def G2{i j:Str}:decide (V.str i=V.str j)=(i==j):=by
 rw[Bm];simp
def G3{i j:Array UInt8}:decide (V.byt i=V.byt j)=(i.toList==j.toList):=by
 rw[Bm];cases i;cases j;simp
section
variable{X:Cx}{a b c:Expr}{ta tb tc:TE}{pos:Pos}
def ax{aa:Ψ}{σ:St}{H:Hp}{s:Shared}{Q:VK}{k a:Bool}(I:Inv X aa σ H s)(q:Q (.bl k) H)(e:k=a):EP X aa σ Q (.bool a) s:=by
 subst e;exact⟨.bl k,H,I,rfl,q⟩
def dz:cI X (compareOp .Eq) rX:=by
 intro aa s σ H x y v u Q I c a h;obtain⟨b,q⟩:=h;cases x with
 |non=>
  cases c;cases y with
  |non=>cases a;exact PySem.EqNone.eq_none_none (ax I q (by simp))
  |bl j=>cases a;exact PySem.EqNone.eq_none_bool (ax I q (by simp))
  |int j=>obtain⟨t',rfl⟩:=a;exact PySem.EqNone.eq_none_int (ax I q (by simp))
  |str j=>obtain⟨t',rfl⟩:=a;exact PySem.EqNone.eq_none_str (ax I q (by simp))
  |_=>exact absurd (show false=true from b) AK
 |bl i=>
  cases c;cases y with
  |non=>cases a;exact PySem.EqNone.eq_bool_none (ax I q (by simp))
  |bl j=>cases a;exact eq_bool (ax I q hC)
  |str j=>obtain⟨t',rfl⟩:=a;exact PySem.EqMixed.eq_bool_str (ax I q (by simp))
  |_=>exact absurd (show false=true from b) AK
 |int i=>
  obtain⟨t,rfl⟩:=c;cases y with
  |non=>cases a;exact PySem.EqNone.eq_int_none (ax I q (by simp))
  |int j=>obtain⟨t',rfl⟩:=a;exact eq_int (ax I q lH)
  |str j=>obtain⟨t',rfl⟩:=a;exact PySem.EqMixed.eq_int_str (ax I q (by simp))
  |_=>exact absurd (show false=true from b) AK
 |str i=>
  obtain⟨t,rfl⟩:=c;cases y with
  |non=>cases a;exact PySem.EqNone.eq_str_none (ax I q (by simp))
  |bl j=>cases a;exact PySem.EqMixed.eq_str_bool (ax I q (by simp))
  |int j=>obtain⟨t',rfl⟩:=a;exact PySem.EqMixed.eq_str_int (ax I q (by simp))
  |str j=>obtain⟨t',rfl⟩:=a;exact eq_str (ax I q G2)
  |_=>exact absurd (show false=true from b) AK
 |byt i=>
  obtain⟨t,rfl⟩:=c;cases y with
  |byt j=>obtain⟨t',rfl⟩:=a;exact PySem.W.eq_bytes (ax I q G3)
  |_=>exact absurd (show false=true from b) AK
 |_=>cases y<;>exact absurd (show false=true from b) AK
def lJ:cI X (compareOp .NotEq) D_:=by
 intro aa s σ H x y v u Q I c a h;obtain⟨b,q⟩:=h;cases x with
 |non=>
  cases c;cases y with
  |non=>cases a;exact PySem.EqNone.ne_none_none (ax I q (by simp))
  |bl j=>cases a;exact PySem.EqNone.ne_none_bool (ax I q (by simp))
  |int j=>obtain⟨t',rfl⟩:=a;exact PySem.EqNone.ne_none_int (ax I q (by simp))
  |str j=>obtain⟨t',rfl⟩:=a;exact PySem.EqNone.ne_none_str (ax I q (by simp))
  |_=>exact absurd (show false=true from b) AK
 |bl i=>
  cases c;cases y with
  |non=>cases a;exact PySem.EqNone.ne_bool_none (ax I q (by simp))
  |bl j=>cases a;exact ne_bool (ax I q (congrArg not hC))
  |str j=>obtain⟨t',rfl⟩:=a;exact PySem.EqMixed.ne_bool_str (ax I q (by simp))
  |_=>exact absurd (show false=true from b) AK
 |int i=>
  obtain⟨t,rfl⟩:=c;cases y with
  |non=>cases a;exact PySem.EqNone.ne_int_none (ax I q (by simp))
  |int j=>obtain⟨t',rfl⟩:=a;exact ne_int (ax I q (congrArg not lH))
  |str j=>obtain⟨t',rfl⟩:=a;exact PySem.EqMixed.ne_int_str (ax I q (by simp))
  |_=>exact absurd (show false=true from b) AK
 |str i=>
  obtain⟨t,rfl⟩:=c;cases y with
  |non=>cases a;exact PySem.EqNone.ne_str_none (ax I q (by simp))
  |bl j=>cases a;exact PySem.EqMixed.ne_str_bool (ax I q (by simp))
  |int j=>obtain⟨t',rfl⟩:=a;exact PySem.EqMixed.ne_str_int (ax I q (by simp))
  |str j=>obtain⟨t',rfl⟩:=a;exact ne_str (ax I q (congrArg not G2))
  |_=>exact absurd (show false=true from b) AK
 |byt i=>
  obtain⟨t,rfl⟩:=c;cases y with
  |byt j=>obtain⟨t',rfl⟩:=a;exact PySem.W.ne_bytes (ax I q (congrArg not G3))
  |_=>exact absurd (show false=true from b) AK
 |_=>cases y<;>exact absurd (show false=true from b) AK
def sQ:cI X (compareOp .Lt) (fS fun i j=>.bl (decide (i<j))):=lh fun _ _ _ _ _ _ _ q=>lt_int q
def hH:cI X (compareOp .Gt) (fS fun i j=>.bl (decide (j<i))):=lh fun _ _ _ _ _ _ _ q=>gt_int q
def K8:cI X (compareOp .GtE) (fS fun i j=>.bl (decide (j<=i))):=lh fun _ _ _ _ _ _ _ q=>ge_int q
def ar(b:Expr){a:CmpOp}(h:a≠.In:=by decide)(h2:a≠.NotIn:=by decide):behindInMarks a b=false:=by
 have e1:(a==CmpOp.In)=false:=by cases a<;>first|rfl|exact absurd rfl h
 have e2:(a==CmpOp.NotIn)=false:=by cases a<;>first|rfl|exact absurd rfl h2
 cases b<;>simp[behindInMarks,e1,e2]
def e_{c:CmpOp}{r:R2}(g:cI X (compareOp c) r)(i:PE X a ta)(hb:PE X b tb)(j:behindInMarks c b=false):PE X (.Compare a [c] [b] pos) (bQ r ta tb):=by
 intro aa s σ H Q I h;exact wpAny_Compare1 (la i hb I h fun v u d x y H2 l e f q=>g aa d σ H2 x y v u Q l e f q) j
def CC(t:TE):TT:=fun σ H Q=>t σ H fun x H'=>∃k,x=.bl k/\Q k H'
def zt{d:CmpOp}{r:R2}(w:cI X (compareOp d) r)(A:PE X a ta)(hb:PE X b tb)(C:behindInMarks d b=false):PT X (.Compare a [d] [b] pos) (CC (bQ r ta tb)):=by
 intro aa s σ H Q I h;refine wpAny_isTrue_Compare1 (aT (A aa s σ H _ I h) fun v f ⟨x,H1,D,g,i⟩=>aT (hb aa f σ H1 _ D i) fun u j ⟨y,H2,E,l,o⟩=>
  aT (w aa j σ H2 x y v u _ E g l o) fun c J ⟨z,F,G,p,k,e,q⟩=>?_) C
 subst e;cases p;exact wpAny_truthy_bool ⟨F,G,q⟩
def dQ:(sizeLine:Nat)<2 ^ 63:=by rw[sizeLine_eq];decide
def vals1{x:V}{us:List Value}(r:Vals [x] us):∃u,us=[u]/\RelV x u:=by
 cases r with
 |cons r1 r2=>cases r2;exact⟨_,rfl,r1⟩
def vals2{x y:V}{us:List Value}(r:Vals [x,y] us):∃u a,us=[u,a]/\RelV x u/\RelV y a:=by
 cases r with
 |cons r1 r2=>
  cases r2 with
  |cons r3 r4=>cases r4;exact⟨_,_,rfl,r1,r3⟩
def K9(hc:X.calm=true):gD X (.builtin "max") (fun xs H Q=>∃i j,xs=[.int i,.int j]/\Q (.int (if j>i then j else i)) H):=by
 intro aa s σ H xs us Q I r h;obtain⟨i,j,rfl,q⟩:=h;obtain⟨u,b,rfl,⟨t,rfl⟩,⟨t',rfl⟩⟩:=vals2 r;refine max_two_ints (I.ok.hd hc) fun h' tk k=>⟨_,H,I.kept k,?_,q⟩
 by_cases a:j>i
 ·rw[if_pos a,if_pos a];exact⟨_,rfl⟩
 ·rw[if_neg a,if_neg a];exact⟨_,rfl⟩
def G4(hc:X.calm=true):gD X (.builtin "min") (fun xs H Q=>∃i j,xs=[.int i,.int j]/\Q (.int (if j<i then j else i)) H):=by
 intro aa s σ H xs us Q I r h;obtain⟨i,j,rfl,q⟩:=h;obtain⟨u,b,rfl,⟨t,rfl⟩,⟨t',rfl⟩⟩:=vals2 r;refine min_two_ints (I.ok.hd hc) fun h' tk k=>⟨_,H,I.kept k,?_,q⟩
 by_cases a:j<i
 ·rw[if_pos a,if_pos a];exact⟨_,rfl⟩
 ·rw[if_neg a,if_neg a];exact⟨_,rfl⟩
def K_:gD X (.type "int") (fun xs H Q=>(∃i,xs=[.int i]/\Q (.int i) H)\/∃k,xs=[.bl k]/\Q (.int (if k then 1 else 0)) H):=by
 intro aa s σ H xs us Q I r h;rcases h with ⟨i,rfl,q⟩|⟨k,rfl,q⟩
 ·obtain⟨u,rfl,t,rfl⟩:=vals1 r
  exact call_int_int ⟨.int i,H,I,⟨_,rfl⟩,q⟩
 ·obtain⟨u,rfl,a⟩:=vals1 r
  cases a;exact call_int_bool ⟨.int (if k then 1 else 0),H,I.tok _,⟨_,rfl⟩,q⟩
end
def RelO.some_of{v:V}{o:Option Value}(r:RelO (some v) o):∃u,o=some u/\RelV v u:=by
 cases o with
 |none=>exact(show False from r).elim
 |some u=>exact⟨u,rfl,r⟩
structure Cls(K:Ag)(C:Addr):Prop where
 pg:PySem.W.plainGet K C Str.empty=true
 hd:PySem.W.hasDictIn K C=true
 po:PySem.W.plainOver K C=true
 sa:PySem.W.findIn K (.ref C) "__setattr__"=some (some (.builtin "object.__setattr__"))
def Cls.get{K:Ag}{C:Addr}(c:Cls K C)(f:Str):PySem.W.plainGet K C f=true:=c.pg
structure Room(k:Nat)(A:Around):Prop where
 hd:A.handled=none
 dp:A.depth+3*k+5<recursionLimit
 un:A.units+16*k+200<cLine
def Room.mono{j k:Nat}{A:Around}(r:Room k A)(h:j<=k):Room j A:=⟨r.hd,by have:=r.dp;(first|lia|omega),by have:=r.un;(first|lia|omega)⟩
def Room.deeper{k:Nat}{A:Around}(r:Room (k+1) A)(env:Env):Room k (A.deeper env):=
 ⟨r.hd,by have:=r.dp;show A.depth+1+3*k+5<_;(first|lia|omega),by have:=r.un;show A.units+3+16*k+200<_;(first|lia|omega)⟩
def Room.in1{k:Nat}{A:Around}(r:Room (k+1) A):Room k A.in1:=
 ⟨r.hd,by have:=r.dp;show A.depth+3*k+5<_;(first|lia|omega),by have:=r.un;show A.units+1+16*k+200<_;(first|lia|omega)⟩
def Room.depth{k:Nat}{A:Around}(r:Room k A):A.depth<recursionLimit:=by have:=r.dp;(first|lia|omega)
def Room.units{k:Nat}{A:Around}(r:Room k A):A.units+64<cLine:=by have:=r.un;(first|lia|omega)
def bK:TA:=fun _ H Q=>Q [] H
def ca(ta:TE)(a:TA):TA:=fun σ H Q=>ta σ H fun x H1=>a σ H1 fun xs H2=>Q (x::xs) H2
section
variable{X:Cx}{e:Expr}{es:List Expr}{te:TE}{t:TA}{pos:Pos}
def zb:PA X [] bK:=fun _ _ _ _ H Q I h=>Calls.spliced_nil ⟨[],H,I,.nil,h⟩
def za(g:PE X e te)(hr:PA X es t)(i:starEach (e::es) X.env=(false,eval e X.env)::starEach es X.env:=by rfl):PA X (e::es) (ca te t):=by
 intro pos aa s σ H Q I h;rw[i];show wpAny _ _ (spliced ((false,eval e X.env)::backTo pos (starEach es X.env))) _ _ s;refine Calls.spliced_cons (aT (g aa s σ H _ I h) fun u a ⟨x,H1,j,b,c⟩=>?_);exact aT (hr pos aa a σ H1 _ j c) fun us o ⟨xs,H2,l,d,f⟩=>⟨x::xs,H2,l,.cons b d,f⟩
def Ea(t:TA):TE:=fun σ H Q=>t σ H fun xs H1=>xs.length<=sizeLine/\∀p,H1 p=none->Q (.ref p) (upd H1 p (.tup xs))
def Eb(t:TA):TE:=fun σ H Q=>t σ H fun xs H1=>xs.length<=sizeLine/\∀p,H1 p=none->Q (.ref p) (upd H1 p (.lst xs))
def hO{x1}(h:PA X es t):PE X (.Tuple es x1 pos) (Ea t):=by
 intro aa s σ H Q I hq;refine wpAny_Tuple_spliced (aT (h pos aa s σ H _ I hq) fun us a ⟨xs,H1,I1,r,z,q⟩=>⟨by rw[<-r.length];exact z,?_⟩);have c:H1 a⁻¹=none:=I1.hok.fresh (Ad _);refine⟨.ref a⁻¹,upd H1 a⁻¹ (.tup xs),I1.laid (t':=a.toks) (fun b u e=>Ai _ e) (Ad _) ?_,rfl,q _ c⟩;exact⟨z,us,r,⟨_,AI _ rfl,rfl,_,rfl⟩⟩
def dB(h:PA X es t):PE X (.List es pos) (Eb t):=by
 intro aa s σ H Q I hq;refine wpAny_List_spliced (aT (h pos aa s σ H _ I hq) fun us a ⟨xs,H1,I1,r,z,q⟩=>⟨by rw[<-r.length];exact z,?_⟩);have c:H1 a⁻¹=none:=I1.hok.fresh (Ad _);refine⟨.ref a⁻¹,upd H1 a⁻¹ (.lst xs),I1.laid (t':=a.toks) (fun b u e=>Ai _ e) (Ad _) ?_,rfl,q _ c⟩;exact⟨z,us,0,r,AI _ rfl⟩
end
abbrev Sp:=List V->Hp->VK->XK->Prop
abbrev fX:=List Env->Hp->Shared->XK->Ω
structure Env0(P:Program)(w:World)(K:Ag)(mg:Str->Option Value)(base:Heap)(A:Around)(outer:List Env)(s:Shared)(H:Hp):Prop where
 frames:A.frames=some outer
 mod:Mod K mg base
 bs:∀b o,base.get? b=some o->s.heap.get? b=some o/\H b=none
 bsz:base.objs.size<=s⁻¹
 funs:s.heap.FunFrames base outer
 frf:∀b∈frs outer,H b=none
 hok:HOk P w H s.heap
 bare:AllBare s.gens
def CE(outer:List Env)(P:Program)(w:World)(H:Hp)(s:Shared)(Q:VK)(u:Value)(s':Shared):Prop:=
 ∃v H',s'.os=s.os/\AllBare s'.gens/\Un (frs outer) [] H H' s.heap s'.heap/\HOk P w H' s'.heap/\RelV v u/\Q v H'
def CR(CX:fX)(outer:List Env)(P:Program)(w:World)(H:Hp)(s:Shared)(Q:VK)(E:XK)(r:Result)(s':Shared):Prop:=
 match r with
 |.ok (.ret u)=>CE outer P w H s Q u s'
 |.ok _=>False
 |.error e=>CX outer H s E e s'
structure ai(P:Program)(w:World)(K:Ag)(mg:Str->Option Value)(base:Heap)(CX:fX)(k:Nat)(f:Addr)(fd:FuncData)(ps:List Str)(sp:Sp):Prop where
 len:∀vs H Q E,sp vs H Q E->vs.length=ps.length
 run:∀(A:Around)(outer:List Env)(s:Shared)(H:Hp)(args:Args)(us:List Value)(vs:List V)(Q:VK)(E:XK),Room k A->Env0 P w K mg base A outer s H->BindsTo s fd args (ps.zip us)->Vals vs us->sp vs H Q E->
  codeAny (model P w) A (.call (.ref f) args) (CR CX outer P w H s Q E) s
def Env0.in1{P:Program}{w:World}{K:Ag}{mg:Str->Option Value}{base:Heap}{A:Around}{outer:List Env}{s:Shared}{H:Hp}(e:Env0 P w K mg base A outer s H):Env0 P w K mg base A.in1 outer s H:=⟨e.frames,e.mod,e.bs,e.bsz,e.funs,e.frf,e.hok,e.bare⟩
section
variable{X:Cx}{aa:Ψ}{σ:St}{H:Hp}{s s':Shared}
def Inv.env0(I:Inv X aa σ H s):Env0 X.prog X.w X.K X.mg X.base X.A X.stack s H:=
 ⟨I.ok.frames,I.ok.mod,I.bs,Af I.ok.bsz I.sz,I.stack,I.stkFree,I.hok,I.bare⟩
def Inv.after{Q:VK}{u:Value}(I:Inv X aa σ H s)(h:CE X.stack X.prog X.w H s Q u s'):EP X aa σ Q u s':=by
 obtain⟨v,H',os,a,un,c,r,q⟩:=h;obtain⟨e,g,d,t,f⟩:=s';obtain rfl:f=s.os:=os;exact⟨v,H',I.call (h':=e) (g':=g) (d':=d) (t':=t) (ch:=[]) un c a (fun b z=>absurd z (by simp)),r,q⟩
end
def hV(sp:Sp)(fN:List V)(E:XK)(t:TA):TE:=fun σ H Q=>t σ H fun vs H1=>sp (vs++fN) H1 Q E
def Binds(K:Ag)(fd:FuncData)(ps:List Str)(ds:List Value):Prop:=
 ∀(s:Shared)(us:List Value),K.In s.heap->(us++ds).length=ps.length->BindsTo s fd ⟨us,[]⟩ (ps.zip (us++ds))
def Binds.all{K:Ag}{fd:FuncData}{ps:List Str}(h:∀us:List Value,us.length=ps.length->bindArgs fd ⟨us,[]⟩=pure (ps.zip us)):Binds K fd ps []:=fun s us _ a=>by
 rw[List.append_nil] at a ⊢;exact .of_eq (h us a)
def eK(CX:fX)(X:Cx)(E:XK):Prop:=∀(aa:Ψ)(σ:St)(H:Hp)(s:Shared)(e:Value)(s':Shared),Inv X aa σ H s->CX X.stack H s E e s'->X.xe e s'
section
variable{X:Cx}{CX:fX}{k:Nat}{f C:Addr}{fd:FuncData}{ps:List Str}{sp:Sp}{fN:List V}{ds:List Value}{E:XK}{x m:Str}{p pos bD:Pos}{e o:Expr}{es:List Expr}{ta:TE}{t:TA}
def K'{aa:Ψ}{σ:St}{H:Hp}{s:Shared}{Q:VK}{us:List Value}{vs:List V}(F:ai X.prog X.w X.K X.mg X.base CX k f fd ps sp)(hr:Room k X.A)(hb:Binds X.K fd ps ds)(hd:Vals fN ds)(hx:eK CX X E)(I:Inv X aa σ H s)(r:Vals vs us)(h:sp (vs++fN) H Q E):wpAny (model X.prog X.w) X.A (call (.ref f) us) (EP X aa σ Q) X.xe s:=by
 have a:Vals (vs++fN) (us++ds):=r.append hd;have b:(us++ds).length=ps.length:=by rw[<-a.length];exact F.len _ _ _ _ h
 refine wpAny_call (codeAny_mono (F.run X.A X.stack s H ⟨us,[]⟩ (us++ds) (vs++fN) Q E hr I.env0 (hb s us I.kIn b) a h) fun r s' hq=>?_);cases r with
 |error e=>exact hx aa σ H s e s' I hq
 |ok fl=>
  cases fl with
  |ret u=>exact I.after hq
  |next=>exact False.elim hq
  |brk=>exact False.elim hq
  |cont=>exact False.elim hq
def zf(F:ai X.prog X.w X.K X.mg X.base CX k f fd ps sp)(hr:Room k X.A)(hg:Gl X x)(b:X.mg x=some (.ref f))(hk:PySem.W.keepIn X.K (.ref f)=true)(hb:Binds X.K fd ps ds)(hd:Vals fN ds)(hx:eK CX X E)(c:PA X (e::es) t)(d:(x==("__debug__":Str))=false:=by decide)(g:starEach (e::es) X.env=(false,eval e X.env)::starEach es X.env:=by rfl)(a:(backTo pos (starEach es X.env)).any (·.1)=false:=by rfl):PE X (.Call (.Name x p) (e::es) [] pos) (hV sp fN E t):=by
 intro aa s σ H Q I h;refine wpAny_Call_Name_kw (GV I hg b ?_ d);refine PySem.W.callWith_K (h₀:=X.base) I.ok.mod.kin hk (aT (c pos aa s σ H _ I h) fun us i ⟨vs,H1,I1,r,q⟩=>⟨I1.kIn,?_⟩) g a;exact K' F hr hb hd hx I1 r q
end
structure zp(N P:List Str)(sc:Scope):Prop where
 kind:sc.kind=.function
 co:sc.isCoroutine=false
 gen:sc.isGenerator=false
 nd:N.Nodup
 pre:N.take P.length=P
 par:∀x∈P,sc.names.lookup x=some .local\/sc.names.lookup x=some .cell
 nofree:∀y∈sc.names,y.2≠.free
def G5{kindOf:Str->Option NameKind}{x:Str}:∀{binds:List (Str×Value)}{m:Str->Option Value},(∀v,(x,v)∉binds)->bindL kindOf binds m x=m x
 |[],_,_=>rfl
 |(n,v)::r,m,h=>by
  unfold bindL;rw[G5 fun w hw=>h w (Ao _ hw)];split
  ·have:x≠n:=by rintro rfl;exact h v Aq
   simp[this]
  ·rfl
def G6{kindOf:Str->Option NameKind}{x:Str}:∀{binds:List (Str×Value)}{m:Str->Option Value},(∀v,(x,v)∉binds)->bindC kindOf binds m x=m x
 |[],_,_=>rfl
 |(n,v)::r,m,h=>by
  unfold bindC;rw[G6 fun w hw=>h w (Ao _ hw)];split
  ·rfl
  ·have:x≠n:=by rintro rfl;exact h v Aq
   simp[this]
def G7{kindOf:Str->Option NameKind}{x:Str}{v:Value}:∀{P:List Str}{vs:List Value}{i:Nat}{m:Str->Option Value},P.Nodup->P[i]?=some x->vs[i]?=some v->kindOf x=some .local->
  bindL kindOf (P.zip vs) m x=some v
 |[],_,_,_,_,h,_,_=>by simp at h
 |_::_,[],_,_,_,_,h,_=>by simp at h
 |p::P,w::vs,0,m,nd,h1,h2,hk=>by
  simp at h1 h2;subst h1;subst h2;show bindL kindOf ((p,w)::P.zip vs) m p=_;unfold bindL;rw[G5 fun v hv=>(List.nodup_cons.mp nd).1 (List.of_mem_zip hv).1,if_pos hk];simp
 |p::P,w::vs,i+1,m,nd,h1,h2,hk=>by
  show bindL kindOf ((p,w)::P.zip vs) m x=_;unfold bindL;exact G7 (i:=i) (List.nodup_cons.mp nd).2 (by simpa using h1) (by simpa using h2) hk
def G8{kindOf:Str->Option NameKind}{x:Str}{v:Value}:∀{P:List Str}{vs:List Value}{i:Nat}{m:Str->Option Value},P.Nodup->P[i]?=some x->vs[i]?=some v->kindOf x≠some .local->
  bindC kindOf (P.zip vs) m x=some v
 |[],_,_,_,_,h,_,_=>by simp at h
 |_::_,[],_,_,_,_,h,_=>by simp at h
 |p::P,w::vs,0,m,nd,h1,h2,hk=>by
  simp at h1 h2;subst h1;subst h2;show bindC kindOf ((p,w)::P.zip vs) m p=_;unfold bindC;rw[G6 fun v hv=>(List.nodup_cons.mp nd).1 (List.of_mem_zip hv).1,if_neg hk];simp
 |p::P,w::vs,i+1,m,nd,h1,h2,hk=>by
  show bindC kindOf ((p,w)::P.zip vs) m x=_;unfold bindC;exact G8 (i:=i) (List.nodup_cons.mp nd).2 (by simpa using h1) (by simpa using h2) hk
def start(N:List Str)(vs:List V):St:=vs.map some++Ay (N.length-vs.length) none
def cf(CX:fX)(P:Program)(w:World)(K:Ag)(mg:Str->Option Value)(base:Heap)(N:List Str)(a:Str)(scope:Scope)(f:Addr)(b:Value)(A:Around)(outer:List Env)(s:Shared)(H:Hp)(E:XK):Cx where
 prog:=P
 w:=w
 K:=K
 mg:=mg
 base:=base
 A:=A.deeper (envOfC a scope s⁻¹ f b)
 N:=N
 s₀:=s
 H₀:=H
 env:=envOfC a scope s⁻¹ f b
 outer:=outer
 stack:=envOfC a scope s⁻¹ f b::outer
 ex:=[]
 calm:=true
 fn:=fun _=>true
 pn:=[]
 xe:=fun e s'=>wpAny (model P w) (A.deeper (envOfC a scope s⁻¹ f b)) (leaving (envOfC a scope s⁻¹ f b) e) (fun _ c=>CX outer H s E e c) (fun e' c=>CX outer H s E e' c) s'
def G9{sc:Scope}{n:Nat}{x:Str}(h:sc.names.lookup x=some .cell):∃c,(cellsFrom n sc.names []).lookup x=some c:=by
 have q:=PySem.W.cellsFrom_some sc.names n [] (.inl h);exact Option.isSome_iff_exists.mp q
def La{CX:fX}{P:Program}{w:World}{K:Ag}{mg:Str->Option Value}{base:Heap}{N ps:List Str}{j:Str}{scope:Scope}{f:Addr}{l:Value}{A:Around}{outer:List Env}{s D:Shared}{H:Hp}{E:XK}{us:List Value}{vs:List V}(S:zp N ps scope)(hd:A.handled=none)(d:Env0 P w K mg base A outer s H)(L:vs.length=ps.length)(r:Vals vs us)(x:InCallC s s⁻¹ (bindL (envOfC j scope s⁻¹ f l).kindOf (ps.zip us) fun _=>none) (cellsFrom (s⁻¹+1) scope.names []) (bindC (envOfC j scope s⁻¹ f l).kindOf (ps.zip us) fun _=>none) D):Inv (cf CX P w K mg base N j scope f l A outer s H E) [] (start N vs) H D:=by
 have G:ps.length<=N.length:=by have:=congrArg List.length S.pre;rw[Bo] at this;(first|lia|omega)
 obtain⟨h1,tk,rfl,hk⟩:=x.done;have o:∀b:Addr,b∉(cf CX P w K mg base N j scope f l A outer s H E).ex:=fun b z=>absurd (show b∈([]:List Addr) from z) (by simp);refine⟨⟨d.mod,S.kind,rfl,rfl,Ad _,fun y z c h1 h2=>?_,fun y hy=>?_,fun y c _ h=>?_,fun _=>hd,Around.frames_deeper d.frames,.inr ⟨rfl,rfl⟩,fun b z=>absurd z (o b),d.bs,d.bsz,fun b _ _=>o b,fun b z=>absurd z (o b),d.funs,d.frf⟩,
  rfl,d.bare,Un.kept hk,⟨_,x.toInCall.ns,fun i y v h1 h2 J=>?_⟩,fun y c h=>⟨_,x.cell y c h⟩,d.hok.fresh (Ad _),fun y c h=>?_,fun p hp=>absurd (show p∈([]:Ψ) from hp) (by simp),d.hok.kept hk,?_⟩
 ·exact name_of_addr x.apart (PySem.mem_of_lookup h1) (PySem.mem_of_lookup h2)
 ·have hy:scope.names.lookup y=some .cell\/scope.names.lookup y=some .free:=hy
  rcases hy with hy|hy
  ·exact G9 hy
  ·exact absurd rfl (S.nofree _ (PySem.mem_of_lookup hy))
 ·exact Nat.le_of_lt (x.above y c (PySem.mem_of_lookup h))
 ·have hi:i<vs.length:=by
   unfold start at h2
   by_cases hi:i<vs.length
   ·exact hi
   ·rw[List.getElem?_append_right (by simpa using hi)] at h2
    rw[List.getElem?_replicate] at h2;split at h2<;>cases h2
  have I:vs[i]?=some v:=by
   unfold start at h2;rw[List.getElem?_append_left (by simpa using hi),Aj] at h2;cases e:vs[i]? with
   |none=>rw[e] at h2;cases h2
   |some a=>rw[e] at h2;cases h2;rfl
  obtain⟨u,C,F⟩:=r.get I;have hp:ps[i]?=some y:=by
   rw[<-S.pre,List.getElem?_take_of_lt ω];exact h1
  have g:ps.Nodup:=by rw[<-S.pre];exact S.nd.sublist (List.take_sublist _ _)
  refine⟨u,F,?_⟩;rcases S.par y (Ak hp) with k|k
  ·exact .inl ⟨k,G7 g hp C k⟩
  ·obtain⟨c,e⟩:=G9 (n:=s⁻¹+1) k
   refine .inr ⟨.inl k,c,e,?_⟩;have q:=x.cell y c e;rw[G8 g hp C (by show scope.names.lookup y≠_;rw[k];decide)] at q;exact q
 ·exact d.hok.fresh (Nat.le_of_lt (x.above y c (PySem.mem_of_lookup h)))
 ·unfold start
  show _=N.length;rw[AN,Aa,List.length_replicate];(first|lia|omega)
def Lb{CX:fX}{P:Program}{w:World}{K:Ag}{mg:Str->Option Value}{base:Heap}{k:Nat}{f:Addr}{name a:Str}{p:Arguments}{i:List Stmt}{scope:Scope}{z kV C D c ct oc:Value}{F od:Option Addr}{O:Array (Option Value)}{N ps:List Str}{sp:Sp}(lk:K.lookup f=some ⟨oc,od,.func (PySem.W.fnOf name a p i scope z kV C D F c ct),O⟩)(T:PySem.W.codeIn K c a=true)(S:zp N ps scope)(len:∀vs H Q E,sp vs H Q E->vs.length=ps.length)(dO:∀(A:Around)(outer:List Env)(s:Shared)(H:Hp)(vs:List V)(Q:VK)(E:XK),Room k (A.deeper (envOfC a scope s⁻¹ f c))->sp vs H Q E->
   ∃t,PSs (cf CX P w K mg base N a scope f c A outer s H E) i t/\t {nx:=fun _ H'=>Q .non H',rt:=Q} (start N vs) H):
  ai P w K mg base CX (k+1) f (PySem.W.fnOf name a p i scope z kV C D F c ct) ps sp:=by
 refine⟨len,fun A outer s H args us vs Q E hr g hb r G=>?_⟩;have Z:=len _ _ _ _ G;have M:K.In s.heap:=g.mod.kin.keeps fun b o e=>(g.bs b o e).1;have l:s.heap.NoLimit:=g.mod.nolimit.keeps fun b o e=>(g.bs b o e).1;have iD:∀y∈ps.zip us,scope.names.lookup y.1=some .local\/(scope.names.lookup y.1=some .cell/\((cellsFrom (s⁻¹+1) scope.names []).lookup y.1).isSome=true):=fun⟨n,v⟩ hy=>by
  rcases S.par n (List.of_mem_zip hy).1 with q|q
  ·exact .inl q
  ·exact .inr ⟨q,PySem.W.cellsFrom_some _ _ _ (.inl q)⟩
 refine codeAny_call_function hr.depth (M _ _ lk) rfl S.co S.gen rfl (PySem.W.codeRec_of M T) (hb _ _ _ _ ?_);refine wpAny_newFunctionEnv_cells S.kind iD fun env U L x=>?_;subst U;refine⟨l.keeps x.toInCall.keep,codeAny_func ?_⟩;obtain⟨t,Y,hq⟩:=dO A outer s H vs Q E (hr.deeper _) G;have I:Inv (cf CX P w K mg base N a scope f c A outer s H E) [] (start N vs) H L:=La S hr.hd g Z r x;refine wpAny_mono (Y [] L (start N vs) H _ I hq) (fun X s' d=>?_) fun e s' d=>d;have fin:∀{h:St}{H':Hp}{v:V}{u:Value},Inv (cf CX P w K mg base N a scope f c A outer s H E) [] h H' s'->RelV v u->Q v H'->CE outer P w H s Q u s':=
  fun{h H' v u} J j q=>⟨v,H',J.os,J.bare,J.base,J.hok,j,q⟩
 cases X with
 |ret u=>
  obtain⟨v,h,H',J,j,q⟩:=d;exact fin J j q
 |next=>
  obtain⟨h,H',J,q⟩:=d;exact fin (v:=V.non) (u:=Value.none) J rfl q
 |brk=>
  obtain⟨_,_,_,q⟩:=d;exact False.elim q
 |cont=>
  obtain⟨_,_,_,q⟩:=d;exact False.elim q
section
variable{X:Cx}{x:Str}{p pos:Pos}{e:Expr}{es:List Expr}{t:TA}{id T:String}{r:List V->Hp->VK->Prop}
def iR(r:List V->Hp->VK->Prop)(t:TA):TE:=fun σ H Q=>t σ H fun vs H1=>r vs H1 Q
def zm(hc:gD X (.builtin id) r)(hg:Gl X x)(f:X.mg x=none)(hv:A8 x=some (.builtin id))(g:PA X (e::es) t)(i:x≠"__name__":=by decide)(j:(x==("__debug__":Str))=false:=by decide)
  (l:starEach (e::es) X.env=(false,eval e X.env)::starEach es X.env:=by rfl) (a:(backTo pos (starEach es X.env)).any (·.1)=false:=by rfl):PE X (.Call (.Name x p) (e::es) [] pos) (iR r t):=by
 intro aa s σ H Q I h;refine wpAny_Call_Name_kw (jl I hg f hv ?_ i j);exact PyProof.Rows.callWith_builtin1 (aT (g pos aa s σ H _ I h) fun us b ⟨vs,H1,o,c,d⟩=>hc aa b σ H1 vs us Q o c d) l a
def zQ(hc:gD X (.type T) r)(hg:Gl X x)(f:X.mg x=none)(hv:A8 x=some (.type T))(g:PA X (e::es) t)(i:x≠"__name__":=by decide)(j:(x==("__debug__":Str))=false:=by decide)
  (l:starEach (e::es) X.env=(false,eval e X.env)::starEach es X.env:=by rfl) (a:(backTo pos (starEach es X.env)).any (·.1)=false:=by rfl):PE X (.Call (.Name x p) (e::es) [] pos) (iR r t):=by
 intro aa s σ H Q I h;refine wpAny_Call_Name_kw (jl I hg f hv ?_ i j);exact PyProof.Rows.callWith_type1 (aT (g pos aa s σ H _ I h) fun us b ⟨vs,H1,o,c,d⟩=>hc aa b σ H1 vs us Q o c d) l a
end
end L2
namespace HT
open PySem PyProof.Rows
def lexLt:List Int->List Int->Bool
 |[],[]=>false
 |[],_::_=>true
 |_::_,[]=>false
 |x::xs,y::ys=>if x=y then lexLt xs ys else decide (x<y)
def sR(x y:Int)(xs ys:List Int):lexLt (x::xs) (y::ys)=if x=y then lexLt xs ys else decide (x<y):=rfl
def Lc:lexLt [] []=false:=rfl
section
open PySem.SeqAt
open PySem.AutoSeq1 (wpAny_loadPart')
open PySem.MeetsSeq PySem.MeetsSeq2 PySem.MeetsSeq3
end
section
variable{prog:Program}{w:World}{A:Around}{E:Ω}{s:Shared}
def sIx(n d:Nat):Option Int->Nat
 |none=>d
 |some v=>if v<0 then(v+(n:Int)).toNat else min v.toNat n
def G_(n d:Nat):sIx n d none=d:=rfl
def G'(n d k:Nat):sIx n d (some (k:Int))=min k n:=by
 show(if(k:Int)<0 then((k:Int)+(n:Int)).toNat else min (k:Int).toNat n)=min k n;rw[if_neg ω,Int.toNat_natCast]
def Ld(n d:Nat)(hd:d<=n)(o:Option Int):sIx n d o<=n:=by
 cases o with
 |none=>exact hd
 |some v=>
  show(if v<0 then(v+(n:Int)).toNat else min v.toNat n)<=n
  by_cases hv:v<0
  ·rw[if_pos hv];(first|lia|omega)
  ·rw[if_neg hv];exact Nat.min_le_right _ _
def Hf(v:Int)(n d:Nat):(if v<0 then max (v+(n:Int)) 0 else min v (n:Int))=((sIx n d (some v):Nat):Int):=by
 show(if v<0 then max (v+(n:Int)) 0 else min v (n:Int))=(((if v<0 then(v+(n:Int)).toNat else min v.toNat n):Nat):Int)
 by_cases hv:v<0
 ·simp only[if_pos hv];(first|lia|omega)
 ·simp only[if_neg hv];(first|lia|omega)
def Le(lo hi:Option Int)(n:Nat):Builtin.Slice.sliceAdjust lo hi 1 (n:Int)=(((sIx n 0 lo:Nat):Int),((sIx n n hi:Nat):Int)):=by
 have h1:¬((1:Int)<0):=ω
 unfold Builtin.Slice.sliceAdjust;simp only[h1,if_false];refine Prod.ext ?_ ?_
 ·cases lo with
  |none=>rfl
  |some v=>exact Hf v n 0
 ·cases hi with
  |none=>rfl
  |some v=>exact Hf v n n
def Lf(i j:Nat):Builtin.Slice.slicePlaces (i:Int) (j:Int) 1=j-i:=by
 unfold Builtin.Slice.slicePlaces;have h1:(1:Int)>0:=ω
 simp only[h1,if_true,Int.ediv_one];split<;>(first|lia|omega)
def Hh{v:Value}{o:Option Int}{Q:Option Int->Shared->Prop}(p:IsPart v o)(h:Q o s):wpAny (model prog w) A (Builtin.Slice.slicePartIndex v) Q E s:=by
 cases p with
 |none=>exact slicePart_none h
 |int i t=>exact slicePart_int h
def Hj{d:Addr}{vl c:Value}{lo hi:Option Int}{n:Nat}{Q:Int×Int×Nat->Shared->Prop}(e:s.heap.IsSliceOf d vl c .none)(pl:IsPart vl lo)(f:IsPart c hi)(h:Q (((sIx n 0 lo:Nat):Int),1,sIx n n hi-sIx n 0 lo) s):wpAny (model prog w) A (Builtin.Slice.sliceApplied (.ref d) (pure (n:Int))) Q E s:=by
 obtain⟨os,a,g,b⟩:=id e;unfold Builtin.Slice.sliceApplied Builtin.Slice.sliceFields;refine Ae (Ae (wpAny_field a b (x:=vl) rfl (Ae (wpAny_field a b (x:=c) rfl (Ae (wpAny_field a b (x:=.none) rfl (An ?_)))))));refine Ae (slicePart_none ?_);show wpAny _ _ (if((1:Int)==0)=true then _ else _) _ _ s;rw[if_neg ξ];refine Ae (Hh pl (Ae (Hh f (Ae (An ?_)))));show wpAny _ _ (match Builtin.Slice.sliceAdjust lo hi 1 (n:Int) with|(lo,hi)=>pure (lo,(1:Int),Builtin.Slice.slicePlaces lo hi 1)) _ _ s;rw[Le lo hi n];show wpAny _ _ (pure (((sIx n 0 lo:Nat):Int),(1:Int),Builtin.Slice.slicePlaces ((sIx n 0 lo:Nat):Int) ((sIx n n hi:Nat):Int) 1)) _ _ s;rw[Lf];exact An h
def Lg(xs:Array Value)(i k:Nat):((Ah k).filterMap fun(m:Nat)=>xs[((i:Int)+(m:Int)*1).toNat]?).toArray=((xs.toList.drop i).take k).toArray:=by
 have e:(fun(m:Nat)=>xs[((i:Int)+(m:Int)*1).toNat]?)=fun m=>xs[i+m]?:=by
  funext m
  have:((i:Int)+(m:Int)*1).toNat=i+m:=ω
  rw[this]
 rw[e];have:=pick_run xs i k;rw[List.filterMap_map] at this;have e2:((fun x=>xs[x]?) ∘ fun x=>i+x)=fun m=>xs[i+m]?:=rfl;rw[e2] at this;rw[this]
def Lh{t d:Addr}{a:Array Value}{vl e:Value}{lo hi:Option Int}{Q:Ω}(c:IsTup s.heap t a)(f:s.heap.IsSliceOf d vl e .none)(pl:IsPart vl lo)(o:IsPart e hi)(hw:¬(sIx a.size 0 lo=0/\sIx a.size a.size hi=a.size))(h:Q (.ref s⁻¹) {s with heap:=s.heap.push {cls:=.type "tuple",data:=.seq ((a.toList.drop (sIx a.size 0 lo)).take (sIx a.size a.size hi-sIx a.size 0 lo)).toArray}})(hsz:a.size<=sizeLine):wpAny (model prog w) A (getItem (.ref t) (.ref d)) Q E s:=by
 have b:sizeOk (.seq ((a.toList.drop (sIx a.size 0 lo)).take (sIx a.size a.size hi-sIx a.size 0 lo)).toArray):=by
  show((a.toList.drop (sIx a.size 0 lo)).take (sIx a.size a.size hi-sIx a.size 0 lo)).toArray.size<=sizeLine;rw[Au,Bo,List.length_drop,Array.length_toList];(first|lia|omega)
 have r:sIx a.size a.size hi<=a.size:=Ld _ _ (Ad _) hi;obtain⟨os,g,i,p⟩:=id f;have j:s.TypeIs (.ref d) "slice":=⟨os,g,i⟩;unfold getItem
 try with_reducible refine wpAny_holding ?_
 first|refine Ae (An ?_)|skip
 refine Ae (wpAny_sequenceKey c.typeIs ξ ?_);refine Ae (wpAny_callSpecial?_slot (name:=Str.ofString "__getitem__") c.typeIs PyProof.Rows.slot_tuple_getitem
  (wpAny_call_entry PyProof.Rows.slot_tuple_getitem c.typeIs entry_tuple_getitem ?_ (args_tuple_getitem _ _)))
 show wpAny _ _ (Builtin.Tuple.tupleItemsOf (.ref t) >>= _) _ _ s;refine Ae (tupleItemsOf_ c ?_);refine Ae (wpAny_typeOf j ?_);rw[if_pos ξ];refine Ae (Hj f pl o ?_);have l:¬((((sIx a.size 0 lo:Nat):Int)==0&&(1:Int)==1&&(sIx a.size a.size hi-sIx a.size 0 lo)==a.size)=true):=by
  intro q;rw[A7,A7] at q;have u:((sIx a.size 0 lo:Nat):Int)=0:=eq_of_beq q.1.1;have v:sIx a.size a.size hi-sIx a.size 0 lo=a.size:=eq_of_beq q.2;exact hw ⟨ω,ω⟩
 show wpAny _ _ (if(((sIx a.size 0 lo:Nat):Int)==0&&(1:Int)==1&&(sIx a.size a.size hi-sIx a.size 0 lo)==a.size)=true then _ else _) _ _ s;rw[if_neg l,Lg]
 first
  |exact Ae (m:=Builtin.Tuple.tupleExact _) (wpAny_newObj_type (An ⟨_,rfl,An h⟩) b)
  |exact Ae (m:=Builtin.Tuple.tupleExact _) (wpAny_newObj_type (Ae (An (An ⟨_,rfl,An h⟩))) b)
  |exact Ae (Ae (m:=Builtin.Tuple.tupleExact _) (wpAny_newObj_type (An (An ⟨_,rfl,An h⟩)) b))
  |exact Ae (Ae (m:=Builtin.Tuple.tupleExact _) (wpAny_newObj_type (An ⟨_,rfl,An h⟩) b))
end
end HT
namespace L2
open PySem PySem.Spec PyProof.Rows
abbrev TO:=St->Hp->(Option Int->Hp->Prop)->Prop
def PO(X:Cx)(e:Option Expr)(t:TO):Prop:=
 ∀(aa:Ψ)(s:Shared)(σ:St)(H:Hp)(Q:Option Int->Hp->Prop),Inv X aa σ H s->t σ H Q->
  wpAny (model X.prog X.w) X.A (evalPart e X.env) (fun u s'=>∃o H',Inv X aa σ H' s'/\IsPart u o/\Q o H') X.xe s
def Ec:TO:=fun _ H Q=>Q none H
def Ed(t:TE):TO:=fun σ H Q=>t σ H fun x H1=>∃i,x=.int i/\Q (some i) H1
def intsAre_of{ns:List Int}:∀{us:List Value},Vals (ns.map V.int) us->IntsAre us ns:=by
 induction ns with
 |nil=>intro us r;rw[List.map_nil] at r;cases r;exact .nil
 |cons n ns ih=>
  intro us r;rw[AX] at r;cases r with
  |cons r1 r2=>
   obtain⟨t,e⟩:=r1;subst e;exact .cons n t (ih r2)
section
variable{X:Cx}{e:Expr}{te:TE}{lo hi:Option Expr}{tl th:TO}{pos p2:Pos}
def oh:PO X none Ec:=by
 intro aa s σ H Q I h;rw[evalPart_none];exact An ⟨none,H,I,.none,h⟩
def oj(h:PE X e te):PO X (some e) (Ed te):=by
 intro aa s σ H Q I hw;rw[evalPart_some];refine aT (h aa s σ H _ I hw) fun u d ⟨x,H1,c,a,b⟩=>?_;obtain⟨i,rfl,q⟩:=b;obtain⟨t,rfl⟩:=a;exact⟨some i,H1,c,.int i t,q⟩
def CG(X:Cx)(r:V->Option Int->Option Int->Hp->VK->Prop):Prop:=
 ∀(aa:Ψ)(s:Shared)(σ:St)(H:Hp)(x:V)(v vl a:Value)(lo hi:Option Int)(b:Addr)(Q:VK),Inv X aa σ H s->RelV x v->s.heap.IsSliceOf b vl a .none->IsPart vl lo->IsPart a hi->r x lo hi H Q->
  ∃T id,typeLookup (.type T) "__getitem__"=pure (some (.builtin id))/\s.TypeIs v T/\wpAny (model X.prog X.w) X.A (getItem v (.ref b)) (EP X aa σ Q) X.xe s
def Ee(r:V->Option Int->Option Int->Hp->VK->Prop)(te:TE)(tl th:TO):TE:=fun σ H Q=>te σ H fun x H1=>tl σ H1 fun l H2=>th σ H2 fun u a=>r x l u a Q
def ol{r:V->Option Int->Option Int->Hp->VK->Prop}(hr:CG X r)(D:PE X e te)(E:PO X lo tl)(F:PO X hi th):PE X (.Subscript e (.Slice lo hi none p2) pos) (Ee r te tl th):=by
 intro aa s σ H Q I h;refine Subscript_ (aT (D aa s σ H _ I h) fun v f ⟨x,H1,G,g,i⟩=>?_);refine wpAny_Slice (aT (E aa f σ H1 _ G i) fun vl j ⟨l,H2,J,pl,o⟩=>aT (F aa j σ H2 _ J o) fun c a ⟨u,d,I3,p,y⟩=>?_);rw[evalPart_none];refine An ?_;have L:Inv X aa σ d {a with heap:=a.heap.push {cls:=.type "slice",data:=.fields #[vl,c,.none]}}:=I3.kept (t':=a.toks) fun b M q=>Ai _ q;obtain⟨T,id,z,C,hg⟩:=hr aa {a with heap:=a.heap.push {cls:=.type "slice",data:=.fields #[vl,c,.none]}} σ d x v vl c l u a⁻¹ Q L g (Heap.IsSliceOf.new ..) pl p y;show wpAny (model X.prog X.w) X.A (subscriptTail e (.Slice lo hi none p2) v (.ref a⁻¹)) (EP X aa σ Q) X.xe {a with heap:=a.heap.push {cls:=.type "slice",data:=.fields #[vl,c,.none]}};exact tail_any (ops:=[.ref a⁻¹,v]) C z hg (by with_unfolding_all rfl)
def cJ(xs:List V)(lo hi:Option Int):List V:=(xs.drop (HT.sIx xs.length 0 lo)).take (HT.sIx xs.length xs.length hi-HT.sIx xs.length 0 lo)
def Hk(xs:List V)(lo hi:Option Int):(cJ xs lo hi).length<=xs.length:=by
 unfold cJ;rw[Bo,List.length_drop];(first|lia|omega)
def Ef(K:Ag):V->Option Int->Option Int->Hp->VK->Prop:=fun x lo hi H Q=>∃a xs,x=.ref a/\SqT K H a xs/\
 ¬(HT.sIx xs.length 0 lo=0/\HT.sIx xs.length xs.length hi=xs.length)/\∀p,H p=none->Q (.ref p) (upd H p (.tup (cJ xs lo hi)))
def Li:CG X (Ef X.K):=by
 intro aa s σ H x v vl i lo hi j Q I e f pl g h;obtain⟨a,xs,rfl,hx,hw,q⟩:=h;cases e;obtain⟨ad,r,d,hz⟩:=I.tuple hx;have c:ad.toArray.size=xs.length:=by rw[Au];exact r.length.symm
 refine⟨"tuple",_,PyProof.Rows.slot_tuple_getitem.lookup,d.typeIs,?_⟩;refine HT.Lh d f pl g (by rw[c];exact hw) ?_ (by rw[c];exact hz);rw[c];refine⟨.ref s⁻¹,_,I.laid (t':=s.toks) (o:=.tup (cJ xs lo hi)) (fun b l q=>Ai _ q) (Ad _) ?_,rfl,q _ (I.hok.fresh (Ad _))⟩;exact⟨Af (Hk xs lo hi) hz,_,(r.drop (HT.sIx xs.length 0 lo)).take (HT.sIx xs.length xs.length hi-HT.sIx xs.length 0 lo),IsTup.new _ _⟩
end
def gF(n:Nat)(i:Int):Option Nat:=if 0<=i then(if i<n then some i.toNat else none) else if -(n:Int)<=i then some (i+n).toNat else none
def atI{a:Type}(xs:List a)(i:Int):Option a:=(gF xs.length i).bind fun j=>xs[j]?
def Hl{n:Nat}{i:Int}{j:Nat}(h:gF n i=some j):seqIndex? i n=some j/\j<n/\-(n:Int)<=i/\i<n:=by
 unfold gF at h
 by_cases a:0<=i
 ·rw[if_pos a] at h
  by_cases h1:i<n
  ·rw[if_pos h1] at h
   have e:i.toNat=j:=AR h;exact⟨by rw[seqIndex_of a h1,e],ω,ω,h1⟩
  ·rw[if_neg h1] at h;cases h
 ·rw[if_neg a] at h
  by_cases h1:-(n:Int)<=i
  ·rw[if_pos h1] at h
   have e:(i+n).toNat=j:=AR h;exact⟨by rw[seqIndex_neg ω h1,e],ω,h1,ω⟩
  ·rw[if_neg h1] at h;cases h
def Hm{a:Type}{xs:List a}{i:Int}{v:a}(h:atI xs i=some v):∃j,seqIndex? i xs.length=some j/\xs[j]?=some v/\j<xs.length/\-(xs.length:Int)<=i/\i<xs.length:=by
 unfold atI at h;cases e:gF xs.length i with
 |none=>rw[e] at h;cases h
 |some j=>
  rw[e] at h;obtain⟨h1,h2,b,c⟩:=Hl e;exact⟨j,h1,h,h2,b,c⟩
def zi{a:Type}{xs:List a}{j:Nat}{v:a}(h:xs[j]?=some v):atI xs (j:Int)=some v:=by
 have b:j<xs.length:=(List.getElem?_eq_some_iff.mp h).1;have e:gF xs.length (j:Int)=some j:=by
  unfold gF;rw[if_pos ω,if_pos ω];simp
 unfold atI;rw[e];exact h
def Lj(b:Expr):Prop:=∀o i,subscripted b false o i=operate [o,i] (getItem o i)
def Eg(X:Cx)(r:R2):Prop:=
 ∀(aF slice:Expr)(aa:Ψ)(s:Shared)(σ:St)(H:Hp)(x y:V)(v u:Value)(Q:VK),Inv X aa σ H s->RelV x v->RelV y u->r x y H Q->
  subscripted slice false v u=operate [v,u] (getItem v u)->wpAny (model X.prog X.w) X.A (subscriptTail aF slice v u) (EP X aa σ Q) X.xe s
def Eh(X:Cx)(id:String)(r:V->List V->Hp->VK->Prop):Prop:=
 ∀(aa:Ψ)(s:Shared)(σ:St)(H:Hp)(x:V)(xs:List V)(v:Value)(us:List Value)(Q:VK),Inv X aa σ H s->RelV x v->Vals xs us->r x xs H Q->
  wpAny (model X.prog X.w) X.A (call (.builtin id) (v::us)) (EP X aa σ Q) X.xe s
section
variable{X:Cx}{a b:Expr}{ta tb:TE}{pos:Pos}
def zo{r:R2}(hr:Eg X r)(f:PE X a ta)(hb:PE X b tb)(g:Lj b):PE X (.Subscript a b pos) (bQ r ta tb):=by
 intro aa s σ H Q I h;exact Subscript_ (la f hb I h fun v u c x y H2 i d e q=>hr a b aa c σ H2 x y v u Q i d e q (g _ _))
def dW(K:Ag):R2:=fun x y H Q=>∃p xs i v,x=.ref p/\y=.int i/\SqL K H p xs/\atI xs i=some v/\Q v H
def tf(K:Ag):R2:=fun x y H Q=>∃p xs i v,x=.ref p/\y=.int i/\SqT K H p xs/\atI xs i=some v/\Q v H
def zn:Eg X (dW X.K):=by
 intro aF slice aa s σ H x y v u Q I e f h b;obtain⟨p,xs,i,z,rfl,rfl,hq,g,q⟩:=h;cases e;obtain⟨t,rfl⟩:=f;obtain⟨ad,r,pl,hz⟩:=I.list hq;obtain⟨j,h1,h2,D,l,o⟩:=Hm g;obtain⟨w,c,A⟩:=r.get h2;have C:=r.length;have E:=dQ;have fin:EP X aa σ Q w s:=⟨z,H,I,A,q⟩
 by_cases d:0<=i
 ·have a:i.toNat=j:=by
   rw[seqIndex_of d o] at h1;exact AR h1
  exact item_listR pl.isList d ω (by rw[a];simpa using c) fin b
 ·have a:(i+(ad.toArray.size:Int)).toNat=j:=by
   rw[seqIndex_neg ω l] at h1;rw[Au,<-C];exact AR h1
  exact subscriptTail_builtinR (x:=w) pl.isList.typeIs slot_list_getitem.lookup
   (wpAny_getItem_list_neg (Q:=fun r s'=>r=w/\EP X aa σ Q r s') pl.isList ω (by rw[Au]<;>(first|lia|omega)) ω (by rw[a];simpa using c) ⟨rfl,fin⟩) b
def zC:Eg X (tf X.K):=by
 intro aF slice aa s σ H x y v u Q I a b h c;obtain⟨p,xs,i,z,rfl,rfl,hq,d,q⟩:=h;cases a;obtain⟨t,rfl⟩:=b;obtain⟨ad,r,pl,hz⟩:=I.tuple hq;obtain⟨j,h1,h2,l,o,A⟩:=Hm d;obtain⟨w,e,f⟩:=r.get h2;have g:=r.length;have C:=dQ;have fin:EP X aa σ Q w s:=⟨z,H,I,f,q⟩;exact subscriptTail_builtinR (x:=w) pl.typeIs slot_tuple_getitem.lookup
  (getItem_tuple (j:=j) (Q:=fun r s'=>r=w/\EP X aa σ Q r s') pl ω ω (by rw[Au,<-g];exact h1) (by simpa using e) ⟨rfl,fin⟩) c
def Lk(ad:List Value)(n j:Nat)(u:Value):Obj.mapSeq (·.setIfInBounds j u) {cls:=.type "list",data:=.seq ad.toArray n}={cls:=.type "list",data:=.seq (ad.set j u).toArray n}:=by
 simp[Obj.mapSeq]
def Inv.lst{aa:Ψ}{σ:St}{H:Hp}{s:Shared}{p:Addr}{xs:List V}(I:Inv X aa σ H s)(h:H p=some (.lst xs)):∃(ad:List Value)(n:Nat),Vals xs ad/\s.heap.get? p=some {cls:=.type "list",data:=.seq ad.toArray n}/\xs.length<=sizeLine:=by
 obtain⟨z,ad,n,r,e⟩:=I.hok p _ h;exact⟨ad,n,r,e,z⟩
def Inv.lstUpd{aa:Ψ}{σ:St}{H:Hp}{s:Shared}{p:Addr}{xs ys:List V}{ad its':List Value}{n a:Nat}{f:Obj->Obj}(I:Inv X aa σ H s)(h:H p=some (.lst xs))(d:s.heap.get? p=some {cls:=.type "list",data:=.seq ad.toArray n})(c:f {cls:=.type "list",data:=.seq ad.toArray n}={cls:=.type "list",data:=.seq its'.toArray a})(r:Vals ys its')(hz:ys.length<=sizeLine)(t:Nat):Inv X aa σ (upd H p (.lst ys)) {s with heap:=s.heap.update p f,toks:=t}:=by
 have e:(s.heap.update p f).get? p=some {cls:=.type "list",data:=.seq its'.toArray a}:=by
  rw[Heap.get?_update_self f d (by rw[c]<;>rfl),c]
 refine I.write (x:=p) (e:=p) (by rw[h];trivial) (.inl rfl) (fun b u hb q=>(Heap.get?_update_other _ _ (Ne.symm hb)).trans q) ⟨_,e⟩ ?_;exact⟨hz,its',a,r,e⟩
def Ll:V->V->V->Hp->(Hp->Prop)->Prop:=fun o i v H Q=>∃p xs k j,o=.ref p/\i=.int k/\H p=some (.lst xs)/\gF xs.length k=some j/\Q (upd H p (.lst (xs.set j v)))
def set_list:rv X Ll:=by
 intro aa s σ H o i v y z u Q I g l w h;obtain⟨p,xs,k,j,rfl,rfl,hp,x,q⟩:=h;cases g;obtain⟨t,rfl⟩:=l;obtain⟨ad,n,r,a,hz⟩:=I.lst hp;obtain⟨h1,h2,c,d⟩:=Hl x;have b:=r.length;have A:=dQ;have f:Inv X aa σ (upd H p (.lst (xs.set j v))) {s with heap:=s.heap.update p (Obj.mapSeq (·.setIfInBounds j u))}:=
  I.lstUpd hp a (Lk ad n j u) (r.set w j) (by rw[List.length_set];exact hz) s.toks
 by_cases e:0<=k
 ·have hk:k.toNat=j:=by
   rw[seqIndex_of e d] at h1;exact AR h1
  exact PySem.W.ki_setAt a e ω (by rw[Au,<-b];exact d) (by rw[hk];exact⟨_,f,q⟩)
 ·have hk:(k+(ad.toArray.size:Int)).toNat=j:=by
   rw[seqIndex_neg ω c] at h1;rw[Au,<-b];exact AR h1
  exact PySem.W.ki_setBack a ω (by rw[Au,<-b];exact c) ω (by rw[hk];exact⟨_,f,q⟩)
def Lm(lo hi:Option Int)(n:Nat):(sliceBounds lo hi none n).1=((HT.sIx n 0 lo:Nat):Int)/\(sliceBounds lo hi none n).2.1=((HT.sIx n n hi:Nat):Int)/\(sliceBounds lo hi none n).2.2=1:=by
 refine⟨?_,?_,rfl⟩
 ·cases lo with
  |none=>simp[sliceBounds,HT.sIx]
  |some i=>
   simp only[sliceBounds,HT.sIx,Option.getD_none,show(1:Int)>0 from ξ,if_true]
   by_cases h:i<0
   ·simp only[h,if_true]<;>(first|lia|omega)
   ·simp only[h,if_false]<;>(first|lia|omega)
 ·cases hi with
  |none=>simp[sliceBounds,HT.sIx]
  |some i=>
   simp only[sliceBounds,HT.sIx,Option.getD_none,show(1:Int)>0 from ξ,if_true]
   by_cases h:i<0
   ·simp only[h,if_true]<;>(first|lia|omega)
   ·simp only[h,if_false]<;>(first|lia|omega)
def Ln(ad:List Value)(lo hi:Option Int):slicePick ad.toArray lo hi none=((ad.drop (HT.sIx ad.length 0 lo)).take (HT.sIx ad.length ad.length hi-HT.sIx ad.length 0 lo)).toArray:=by
 obtain⟨h1,h2,a⟩:=Lm lo hi ad.toArray.size;unfold slicePick;rw[h1,h2,a];simp only[sliceRange_one,pick_run,Au]<;>rfl
def lN(K:Ag):V->Option Int->Option Int->Hp->VK->Prop:=fun x lo hi H Q=>∃a xs,x=.ref a/\SqL K H a xs/\∀p,H p=none->Q (.ref p) (upd H p (.lst (cJ xs lo hi)))
def CH:CG X (lN X.K):=by
 intro aa s σ H x v vl i lo hi j Q I d e pl f h;obtain⟨a,xs,rfl,hx,q⟩:=h;cases d;obtain⟨ad,r,c,hz⟩:=I.list hx;have g:=r.length;refine⟨"list",_,slot_list_getitem.lookup,c.isList.typeIs,?_⟩;refine wpAny_getItem_list_slice c.isList e pl f .none (by simp) ?_ (by rw[Au]<;>(first|lia|omega));rw[Ln,<-g];refine⟨.ref s⁻¹,_,I.laid (t':=s.toks) (o:=.lst (cJ xs lo hi)) (fun b l q=>Ai _ q) (Ad _) ?_,rfl,q _ (I.hok.fresh (Ad _))⟩;exact⟨Af (Hk xs lo hi) hz,_,0,(r.drop (HT.sIx xs.length 0 lo)).take (HT.sIx xs.length xs.length hi-HT.sIx xs.length 0 lo),AI _ rfl⟩
def zj:gD X (.builtin "len") (fun xs H Q=>∃p ys,xs=[.ref p]/\(SqL X.K H p ys\/SqT X.K H p ys)/\Q (.int ys.length) H):=by
 intro aa s σ H xs us Q I r h;obtain⟨p,ys,rfl,hq,q⟩:=h;obtain⟨u,rfl,c⟩:=vals1 r;cases c;have d:=dQ;rcases hq with hq|hq
 ·obtain⟨ad,a,pl,hz⟩:=I.list hq
  have b:=a.length;exact Calls.call_len_list pl.isList (by simp only[Au]<;>(first|lia|omega)) ⟨.int ys.length,H,I.tok _,⟨s.toks+1,by rw[Au,b]⟩,q⟩
 ·obtain⟨ad,a,pl,hz⟩:=I.tuple hq
  have b:=a.length;exact len_tuple pl (by simp only[Au]<;>(first|lia|omega)) ⟨.int ys.length,H,I.tok _,⟨s.toks+1,by rw[Au,b]⟩,q⟩
def zK:gD X (.type "list") (fun xs H Q=>∃p ys,xs=[.ref p]/\(SqL X.K H p ys\/SqT X.K H p ys)/\∀l,H l=none->Q (.ref l) (upd H l (.lst ys))):=by
 intro aa s σ H xs us Q I r h;obtain⟨p,ys,rfl,hq,q⟩:=h;obtain⟨u,rfl,f⟩:=vals1 r;cases f;have fin:∀(ad:List Value),Vals ys ad->ys.length<=sizeLine->∀(h':Heap)(c:Nat),(∀b o',s.heap.get? b=some o'->h'.get? b=some o')->
   h'.get? s⁻¹=some {cls:=.type "list",dict:=none,data:=.seq ad.toArray c,slots:=#[]}->EP X aa σ Q (.ref s⁻¹) {s with heap:=h'}:=fun ad a hz h' c kp e=>
  ⟨.ref s⁻¹,_,I.laid (t':=s.toks) kp (Ad _) (show zay X.prog X.w _ h' _ (.lst ys) from⟨hz,ad,c,a,e⟩),rfl,q _ (I.hok.fresh (Ad _))⟩
 rcases hq with hq|hq
 ·obtain⟨ad,a,pl,hz⟩:=I.list hq
  have g:=a.length;obtain⟨o,d,hc,n,hd⟩:=pl.isList;exact call_list_seq p (.inl rfl) d hc hd (fun h' c kp e=>fin ad a hz h' c kp e) (by simp only[Au]<;>(first|lia|omega))
 ·obtain⟨ad,a,pl,hz⟩:=I.tuple hq
  have g:=a.length;obtain⟨o,d,hc,n,hd⟩:=pl;exact call_list_seq p (.inr rfl) d hc hd (fun h' c kp e=>fin ad a hz h' c kp e) (by simp only[Au]<;>(first|lia|omega))
def Ei:gD X (.type "tuple") (fun xs H Q=>∃p ys,xs=[.ref p]/\((SqL X.K H p ys/\∀l,H l=none->Q (.ref l) (upd H l (.tup ys)))\/(SqT X.K H p ys/\Q (.ref p) H))):=by
 intro aa s σ H xs us Q I r h;obtain⟨p,ys,rfl,h⟩:=h;obtain⟨u,rfl,c⟩:=vals1 r;cases c;rcases h with ⟨hq,q⟩|⟨hq,q⟩
 ·obtain⟨ad,a,pl,hz⟩:=I.list hq
  have f:=a.length;refine call_tuple_list pl.isList (fun h' kp=>?_) (by simp only[Au]<;>(first|lia|omega));have I1:Inv X aa σ H {s with heap:=h'}:=I.kept (t':=s.toks) kp;have d:Inv X aa σ (upd H h'.objs.size (.tup ys)) {s with heap:=h'.push {cls:=.type "tuple",data:=.seq ad.toArray}}:=
   I1.laid (t':=s.toks) (fun b o e=>Ai _ e) (Ad _) (show zay X.prog X.w _ _ _ (.tup ys) from⟨hz,ad,a,IsTup.new _ _⟩)
  exact⟨.ref h'.objs.size,_,d,rfl,q _ (I1.hok.fresh (Ad _))⟩
 ·obtain⟨ad,a,pl,hz⟩:=I.tuple hq
  exact call_tuple_same pl ⟨.ref p,H,I,rfl,q⟩
def Ej(K:Ag)(T:String)(x:V)(H:Hp):Prop:=match x with
 |.str _=>T="str"
 |.int _=>T="int"
 |.ref p=>(T="list"/\∃xs,SqL K H p xs)\/(T="tuple"/\∃o,K.lookup p=some o/\o.cls=.type "tuple"/\o.dict=none) \/
   (T="dict"/\((∃kvs,H p=some (.dK kvs))\/∃kvs,H p=some (.dT kvs)))\/(T="set"/\∃S n,H p=some (.set S n))
 |_=>False
def Hn{aa:Ψ}{σ:St}{H:Hp}{s:Shared}{T:String}{x:V}{v:Value}(I:Inv X aa σ H s)(r:RelV x v)(ty:Ej X.K T x H):s.TypeIs v T/\∀a,v=.ref a->∃b,s.heap.get? a=some b/\b.dict=none:=by
 cases x with
 |str z=>
  obtain⟨t,rfl⟩:=r;cases(show T="str" from ty);exact⟨typeIs_str s z t,fun _ e=>nomatch e⟩
 |int i=>
  obtain⟨t,rfl⟩:=r;cases(show T="int" from ty);exact⟨typeIs_int s i t,fun _ e=>nomatch e⟩
 |ref p=>
  cases r;rcases ty with ⟨rfl,xs,hq⟩|⟨rfl,o,hk,hc,hd⟩|⟨rfl,hk⟩|⟨rfl,S,n,hk⟩
  ·obtain⟨ad,_,pl,_⟩:=I.list hq
   refine⟨pl.isList.typeIs,fun a e=>?_⟩;cases e;obtain⟨o,n,e,c,hd,_⟩:=pl;exact⟨o,e,hd⟩
  ·refine⟨⟨o,I.kIn p o hk,hc⟩,fun a e=>?_⟩
   cases e;exact⟨o,I.kIn _ o hk,hd⟩
  ·have z:∃o,s.heap.get? p=some o/\o.ExactDict:=by
    rcases hk with ⟨kvs,hk⟩|⟨kvs,hk⟩
    ·obtain⟨_,_,_,_,o,_,_,e,ex,_⟩:=I.hok p _ hk
     exact⟨o,e,ex⟩
    ·obtain⟨_,_,_,_,o,_,_,e,ex,_⟩:=I.hok p _ hk
     exact⟨o,e,ex⟩
   obtain⟨o,e,ex⟩:=z;refine⟨⟨o,e,ex.1⟩,fun a e2=>?_⟩;cases e2;exact⟨o,e,ex.2.1⟩
  ·obtain⟨o,_,_,_,e,ex,_⟩:=I.hok p _ hk
   refine⟨⟨o,e,ex.1⟩,fun a e2=>?_⟩;cases e2;exact⟨o,e,ex.2.1⟩
 |_=>exact False.elim ty
def Ek(K:Ag)(T:String)(r:V->List V->Hp->VK->Prop)(to:TE):TE:=fun σ H Q=>to σ H fun x H1=>Ej K T x H1/\r x [] H1 Q
def Lo(K:Ag)(T:String)(r:V->List V->Hp->VK->Prop)(to:TE)(t:TA):TE:=fun σ H Q=>to σ H fun x H1=>Ej K T x H1/\t σ H1 fun xs H2=>r x xs H2 Q
variable{o e:Expr}{es:List Expr}{to:TE}{t:TA}{name:Str}{bD aC:Pos}{T id:String}{r:V->List V->Hp->VK->Prop}
def Lp(e:PlainAttrs T)(slot:Slot T name id)(f:typeOf (.builtin id)=pure (.type "method_descriptor"))(g:Eh X id r)(i:PE X o to)(j:attributeBase o name X.env (eval o X.env)=eval o X.env:=by rfl)(l:(bD.endLine==aC.line)=true:=by rfl):PE X (.Call (.Attribute o name bD) [] [] aC) (Ek X.K T r to):=by
 intro aa s σ H Q I h;refine wpAny_Call_method0_late j l (aT (i aa s σ H _ I h) fun v c ⟨x,H1,b,a,ty,d⟩=>?_);obtain⟨h1,h2⟩:=Hn b a ty;exact⟨T,id,e,slot,f,h1,h2,Calls.callWith_builtin rfl (PySem.evalArgs_none (g aa c σ H1 x [] v [] Q b a .nil d))⟩
def ot(p:PlainAttrs T)(slot:Slot T name id)(q:typeOf (.builtin id)=pure (.type "method_descriptor"))(u:Eh X id r)(w:PE X o to)(y:PA X (e::es) t)(z:attributeBase o name X.env (eval o X.env)=eval o X.env:=by rfl)
  (A:((backTo aC (starEach (e::es) X.env)).all (fun x=>!x.1)&&(backToKw aC (keywordEach [] X.env)).all (fun x=>x.1.isSome)
   && decide ((e::es).length+([]:List Keyword).length+(if([]:List Keyword).isEmpty then 0 else 1)<30))=true:=by rfl)
  (C:(bD.endLine==aC.line)=true:=by rfl) (D:starEach (e::es) X.env=(false,eval e X.env)::starEach es X.env:=by rfl) (E:(backTo aC (starEach es X.env)).any (·.1)=false:=by rfl) :
  PE X (.Call (.Attribute o name bD) (e::es) [] aC) (Lo X.K T r to t):=by
 intro aa s σ H Q I h;refine wpAny_Call_method_late z A C rfl (aT (w aa s σ H _ I h) fun v f ⟨x,H1,d,b,ty,g⟩=>?_);obtain⟨h1,h2⟩:=Hn d b ty;refine⟨T,id,p,slot,q,h1,h2,?_⟩;have c:=y aC aa f σ H1 _ d g;rw[D] at c ⊢;refine Calls.callWith_builtin (by show(false|| (backTo aC (starEach es X.env)).any (·.1))=false;rw[E]<;>rfl) (Calls.evalArgs_plain ?_);exact aT c fun us i ⟨vs,H2,F,j,l⟩=>u aa i σ H2 x vs v us Q F b j l
end
def CI(X:Cx)(id:String)(r:V->List V->Hp->VK->Prop):Prop:=
 ∀(aa:Ψ)(s:Shared)(σ:St)(H:Hp)(x:V)(xs:List V)(v:Value)(us:List Value)(Q:VK),Inv X aa σ H s->RelV x v->Vals xs us->r x xs H Q->
  wpAny (model X.prog X.w) X.A (call (.builtin id) (v::us)) (EP X aa σ Q) X.xe s
def Vals.one{x:V}{us:List Value}(h:Vals [x] us):∃u,us=[u]/\RelV x u:=by
 cases h with|cons r t=>cases t;exact⟨_,rfl,r⟩
def Vals.two{x y:V}{us:List Value}(h:Vals [x,y] us):∃u v,us=[u,v]/\RelV x u/\RelV y v:=by
 cases h with|cons r t=>obtain⟨v,rfl,q⟩:=Vals.one t;exact⟨_,_,rfl,r,q⟩
def Vals.zero:∀{us:List Value},Vals [] us->us=[]
 |_,.nil=>rfl
def Vals.eraseIdx:∀{xs:List V}{us:List Value}(i:Nat),Vals xs us->Vals (xs.eraseIdx i) (us.eraseIdx i)
 |_,_,_,.nil=>.nil
 |_,_,0,.cons _ t=>t
 |_,_,i+1,.cons r t=>.cons r (Vals.eraseIdx i t)
def Vals.reverse{xs:List V}{us:List Value}(h:Vals xs us):Vals xs.reverse us.reverse:=by
 induction h with
 |nil=>exact .nil
 |cons r t ih=>rw[List.reverse_cons,List.reverse_cons];exact Vals.append ih (.cons r .nil)
def Vals.rep{xs:List V}{us:List Value}(h:Vals xs us):∀k:Nat,Vals (Ay k xs).flatten (Ay k us).flatten
 |0=>.nil
 |k+1=>by
  rw[List.replicate_succ,List.replicate_succ,List.flatten_cons,List.flatten_cons];exact Vals.append h (Vals.rep h k)
def Ho{a:Type}:∀(l:List a)(i:Nat),(l.eraseIdx i).length<=l.length
 |[],_=>Ad _
 |_::_,0=>Nat.le_succ _
 |_::r,i+1=>Nat.succ_le_succ (Ho r i)
def foldl_rep(ad:List Value):∀(k:Nat)(acc:List Value),
  List.foldl (fun x1 x2=>x1++x2) acc.toArray (Ay k ad.toArray)=(acc++(Ay k ad).flatten).toArray
 |0,acc=>by simp
 |k+1,acc=>by
  have e:acc.toArray++ad.toArray=(acc++ad).toArray:=by simp
  have e2:(acc++ad)++(Ay k ad).flatten=acc++(Ay (k+1) ad).flatten:=by
   rw[List.replicate_succ,List.flatten_cons,List.append_assoc]
  rw[<-e2,<-foldl_rep ad k (acc++ad),<-e,List.replicate_succ,List.foldl_cons]
section
variable{X:Cx}{aa:Ψ}{σ:St}{H:Hp}{s:Shared}{l b:Addr}{xs ys zs:List V}
def Inv.lset{ad its':List Value}{n:Nat}{f:Array Value->Array Value}{t':Nat}(I:Inv X aa σ H s)(b:H l=some (.lst xs))(e:s.heap.get? l=some {cls:=.type "list",data:=.seq ad.toArray n})(c:f ad.toArray=its'.toArray)(hv:Vals ys its')(hz:ys.length<=sizeLine):Inv X aa σ (upd H l (.lst ys)) {s with heap:=s.heap.update l (Obj.mapSeq f),toks:=t'}:=by
 have q:=PySem.IsL.update e f;rw[c] at q;refine I.write (x:=l) (e:=l) (by rw[b];exact trivial) (.inl rfl) (fun b' u hb a=>(Heap.get?_update_other s.heap (Obj.mapSeq f) (Ne.symm hb)).trans a) ⟨_,q⟩ ?_;exact⟨hz,its',_,hv,q⟩
def Inv.lnew{ad:List Value}{t':Nat}(I:Inv X aa σ H s)(hv:Vals ys ad)(hz:ys.length<=sizeLine):Inv X aa σ (upd H s⁻¹ (.lst ys)) {s with heap:=s.heap.push {cls:=.type "list",data:=.seq ad.toArray},toks:=t'}:=
 I.laid (fun _ _ q=>Ai _ q) (Ad _) ⟨hz,ad,0,hv,AI _ rfl⟩
def Inv.fresh(I:Inv X aa σ H s):H s⁻¹=none:=I.hok.fresh (Ad _)
def Inv.lstM(I:Inv X aa σ H s)(a:H l=some (.lst xs)):xs.length<=sizeLine/\∃(ad:List Value)(n:Nat),Vals xs ad/\xs.length=ad.length/\s.heap.get? l=some {cls:=.type "list",data:=.seq ad.toArray n}:=by
 obtain⟨z,ad,n,r,e⟩:=I.hok l _ a;exact⟨z,ad,n,r,r.length,e⟩
def Lq{n:Nat}(h:n<=sizeLine):Builtin.List.listTooLong n=false:=by
 unfold Builtin.List.listTooLong;exact decide_eq_false ω
end
section
variable{X:Cx}
def zl0:V->List V->Hp->VK->Prop:=fun x vs H Q=>∃l xs y,x=.ref l/\vs=[y]/\H l=some (.lst xs)/\xs.length<sizeLine/\Q .non (upd H l (.lst (xs++[y])))
def ti:CI X "list.append" zl0:=by
 intro aa s σ H x vs v us Q I b c h;obtain⟨l,xs,y,rfl,rfl,a,hz,q⟩:=h;cases b;obtain⟨u,rfl,d⟩:=c.one;obtain⟨z,ad,n,r,f,e⟩:=I.lstM a;refine call_meets F.slot_list_append ⟨_,e,rfl⟩ F.entry_list_append (F.args_list_append_2 _ _) (PySem.list_append l ad.toArray n u (by rw[Au];(first|lia|omega))) ⟨e,?_⟩;refine⟨.non,_,I.lset (its':=ad++[u]) a e (by simp) (r.append (.cons d .nil)) ?_,rfl,q⟩;rw[AN,List.length_singleton];(first|lia|omega)
def zme:V->List V->Hp->VK->Prop:=fun x vs H Q=>∃l xs i k y,x=.ref l/\vs=[.int i]/\H l=some (.lst xs)/\-(2 ^ 63)<=i/\i<2 ^ 63/\seqIndex? i xs.length=some k/\xs[k]?=some y/\Q y (upd H l (.lst (xs.eraseIdx k)))
def Lr:CI X "list.pop" zme:=by
 intro aa s σ H x vs v us Q I b c h;obtain⟨l,xs,i,k,y,rfl,rfl,a,h1,h2,hk,hy,q⟩:=h;cases b;obtain⟨u,rfl,d⟩:=c.one;obtain⟨t,rfl⟩:=d;obtain⟨z,ad,n,r,f,e⟩:=I.lstM a;obtain⟨w,hw,g⟩:=r.get hy;refine call_meets F.slot_list_pop ⟨_,e,rfl⟩ F.entry_list_pop (F.args_list_pop_2 _ _)
  (MeetsSeq.list_pop_at l ad.toArray n i t k w (fitsIndex_both h1 h2) (by rw[Au,<-f];exact hk) (by rw[<-Array.getElem?_toList];exact hw) (by rw[Au];(first|lia|omega))) ⟨e,?_⟩
 refine⟨y,_,I.lset (its':=ad.eraseIdx k) a e ?_ (r.eraseIdx k) ?_,g,q⟩
 ·show ad.toArray.eraseIdxIfInBounds k=(ad.eraseIdx k).toArray
  rw[List.eraseIdxIfInBounds_toArray]
 ·have:=Ho xs k
  (first|lia|omega)
def zjx:V->List V->Hp->VK->Prop:=fun x vs H Q=>∃l xs,x=.ref l/\vs=[]/\H l=some (.lst xs)/\Q .non (upd H l (.lst xs.reverse))
def Ls:CI X "list.reverse" zjx:=by
 intro aa s σ H x vs v us Q I b c h;obtain⟨l,xs,rfl,rfl,a,q⟩:=h;cases b;have d:=c.zero;subst d;obtain⟨z,ad,n,r,f,e⟩:=I.lstM a;refine call_meets F.slot_list_reverse ⟨_,e,rfl⟩ F.entry_list_reverse (F.args_list_reverse_1 _) (AutoSeq1.list_reverse_list_0 l ad.toArray n (by rw[Au];(first|lia|omega))) ⟨e,?_⟩;refine⟨.non,_,I.lset (its':=ad.reverse) a e (by simp) r.reverse ?_,rfl,q⟩;rw[List.length_reverse];(first|lia|omega)
def tu:R2:=fun x y H Q=>∃l b xs zs,x=.ref l/\y=.ref b/\H l=some (.lst xs)/\H b=some (.lst zs)/\xs.length+zs.length<=sizeLine/\∀p,H p=none->Q (.ref p) (upd H p (.lst (xs++zs)))
def El:cI X (binaryOp .Add) tu:=by
 intro aa s σ H x y v u Q I c d h;obtain⟨l,b,xs,zs,rfl,rfl,f,g,hz,q⟩:=h;cases c;cases d;obtain⟨z,ad,n,r,o,e⟩:=I.lstM f;obtain⟨p,a,n2,i,w,e2⟩:=I.lstM g;refine PySem.P.add_list e e2 ?_ (by rw[Au,Au];(first|lia|omega));have j:ad.toArray++a.toArray=(ad++a).toArray:=by simp
 rw[j];exact⟨.ref _,_,I.lnew (t':=s.toks) (r.append i) (by rw[AN];(first|lia|omega)),rfl,q _ I.fresh⟩
def Em:R2:=fun x y H Q=>∃l k xs,x=.ref l/\y=.int k/\H l=some (.lst xs)/\-(2 ^ 63)<=k/\k<2 ^ 63/\xs.length*k.toNat<=sizeLine/\
 ∀p,H p=none->Q (.ref p) (upd H p (.lst (Ay k.toNat xs).flatten))
def len_rep{a:Type}(xs:List a)(k:Nat):(Ay k xs).flatten.length=k*xs.length:=by
 induction k with
 |zero=>simp
 |succ k ih=>rw[List.replicate_succ,List.flatten_cons,AN,ih,Nat.succ_mul,Nat.add_comm]
def Eo:cI X (binaryOp .Mult) Em:=by
 intro aa s σ H x y v u Q I g i h;obtain⟨l,k,xs,rfl,rfl,j,h1,h2,hz,q⟩:=h;cases g;obtain⟨t,rfl⟩:=i;obtain⟨z,ad,n,r,o,e⟩:=I.lstM j;have p:ad.toArray.size*k.toNat<=sizeLine:=by rw[Au,<-o];exact hz
 have c:¬ad.toArray.size*k.toNat>(2 ^ 63-1) / 8:=by
  have:(sizeLine:Nat)<=(2 ^ 63-1) / 8:=ξ
  (first|lia|omega)
 have d:¬(!Builtin.List.listFitsIndex k)=true:=by
  rw[fitsIndex_both h1 h2];exact AK
 have b:¬Builtin.List.listTooLong (ad.toArray.size*k.toNat)=true:=by
  rw[Lq p];exact AK
 have f:List.foldl (fun x1 x2=>x1++x2) #[] (Ay (if ad.toArray.isEmpty=true then 0 else k.toNat) ad.toArray)=(Ay k.toNat ad).flatten.toArray:=by
  have w:∀m:Nat,List.foldl (fun x1 x2=>x1++x2) #[] (Ay m ad.toArray)=(Ay m ad).flatten.toArray:=fun m=>by
   have:=foldl_rep ad m [];rw[List.nil_append] at this;exact this
  rw[w];cases ad with
  |nil=>simp
  |cons a r'=>rw[if_neg (by simp)]
 refine wpAny_binaryOp_repeat_ref (T:="list") (U:="int") ξ ⟨_,e,rfl⟩ (fun s'=>typeIs_int s' k t) noFill_list_mul F.fills_int_mul F.slot_int_rmul repeat_list F.slot_int_index.lookup
  (call_meets F.slot_int_rmul (typeIs_int s k t) F.entry_int_rmul (F.args_int_rmul_2 _ _) (int___rmul___int_list k t l ad.toArray n)
   ⟨e,rfl,⟨_,e,rfl⟩,call_meets F.slot_list_mul ⟨_,e,rfl⟩ F.entry_list_mul (F.args_list_mul_2 _ _) (AutoListH.list___mul___list_int_3 l ad.toArray n k t d c b) ⟨e,?_⟩⟩)
 rw[f];exact⟨.ref _,_,I.lnew (t':=s.toks) (r.rep k.toNat) (by rw[len_rep,Nat.mul_comm];exact hz),rfl,q _ I.fresh⟩
end
section
variable{prog:Program}{w:World}{A:Around}{E:Ω}{s:Shared}
set_option maxRecDepth 100000 in
end
section
variable{κ:Type}[DecidableEq κ]
def b4(kvs:List (κ×V))(k:κ):Option V:=(kvs.find? fun a=>decide (a.1=k)).map (·.2)
def putK(kvs:List (κ×V))(k:κ)(v:V):List (κ×V):=
 if(kvs.any fun a=>decide (a.1=k))=true then kvs.map (fun a=>if a.1=k then(a.1,v) else a) else kvs++[(k,v)]
def Ep{p:κ×V}{r:List (κ×V)}{k:κ}(e:p.1=k):b4 (p::r) k=some p.2:=by simp[b4,List.find?_cons,e]
def Er{p:κ×V}{r:List (κ×V)}{k:κ}(e:¬p.1=k):b4 (p::r) k=b4 r k:=by simp[b4,List.find?_cons,e]
def Hq(k:κ):∀kvs:List (κ×V),(kvs.any fun a=>decide (a.1=k))=(b4 kvs k).isSome
 |[]=>rfl
 |p::r=>by
  rw[List.any_cons]
  by_cases e:p.1=k
  ·simp only[Ep e,decide_eq_true e,Bool.true_or,Option.isSome_some]
  ·rw[Er e,decide_eq_false e,Bool.false_or];exact Hq k r
def Hr(kvs:List (κ×V))(k:κ)(v:V):(putK kvs k v).length<=kvs.length+1:=by
 unfold putK;split
 ·rw[Aa];(first|lia|omega)
 ·rw[AN,AH,List.length_nil];(first|lia|omega)
def RelO.isSome_eq{o:Option V}{u:Option Value}(r:RelO o u):o.isSome=u.isSome:=by
 cases o with
 |none=>cases u with
  |none=>rfl
  |some _=>exact(show False from r).elim
 |some _=>cases u with
  |none=>exact(show False from r).elim
  |some _=>rfl
def KV.val{kvs:List (κ×V)}{vs:List (κ×Value)}(r:KV kvs vs)(k:κ):RelO (b4 kvs k) (valueAt vs k):=by
 unfold KV at r
 induction r with
 |nil=>exact True.intro
 |@cons p q ps a h t c=>
  obtain⟨h1,h2⟩:=h
  by_cases e:p.1=k
  ·have e':q.1=k:=h1.symm.trans e
   have b:valueAt (q::a) k=some q.2:=by simp[valueAt,List.find?_cons,e']
   rw[Ep e,b];exact h2
  ·have e':¬q.1=k:=fun z=>e (h1.trans z)
   have b:valueAt (q::a) k=valueAt a k:=by simp[valueAt,List.find?_cons,e']
   rw[Er e,b];exact c
def KV.any{kvs:List (κ×V)}{vs:List (κ×Value)}(r:KV kvs vs)(k:κ):(kvs.any fun a=>decide (a.1=k))=vs.any fun a=>decide (a.1=k):=by
 unfold KV at r
 induction r with
 |nil=>rfl
 |cons h t ih=>rw[List.any_cons,List.any_cons,ih,h.1]
def KV.repl{kvs:List (κ×V)}{vs:List (κ×Value)}(r:KV kvs vs)(k:κ){y:V}{u:Value}(b:RelV y u):KV (kvs.map fun a=>if a.1=k then(a.1,y) else a) (vs.map fun a=>if a.1=k then(a.1,u) else a):=by
 unfold KV at r ⊢
 induction r with
 |nil=>exact .nil
 |@cons p q ps qs h t ih=>
  rw[AX,AX];refine .cons ?_ ih;obtain⟨h1,h2⟩:=h
  by_cases e:p.1=k
  ·rw[if_pos e,if_pos (h1.symm.trans e)];exact⟨h1,b⟩
  ·rw[if_neg e,if_neg (fun z=>e (h1.trans z))];exact⟨h1,h2⟩
def KV.put{kvs:List (κ×V)}{vs:List (κ×Value)}(r:KV kvs vs)(k:κ){y:V}{u:Value}(a:RelV y u):KV (putK kvs k y) (stored vs k u):=by
 unfold putK stored;rw[r.any k]
 by_cases e:(vs.any fun b=>decide (b.1=k))=true
 ·rw[if_pos e,if_pos e];exact r.repl k a
 ·rw[if_neg e,if_neg e];exact Paired.snoc r ⟨rfl,a⟩
def KV.length{kvs:List (κ×V)}{vs:List (κ×Value)}(r:KV kvs vs):kvs.length=vs.length:=Paired.length r
end
def CJ{P:Program}{w:World}{k:Key}{u:Value}(r:RelV (kV k) u):(eD P w).is k u=true:=by
 cases k with
 |inl i=>obtain⟨t,e⟩:=(show ∃t,u=Value.int i t from r);subst e;exact KH P w i t
 |inr x=>obtain⟨t,e⟩:=(show ∃t,u=Value.str x t from r);subst e;exact KI P w x t
def Hs{P:Program}{w:World}:∀{ks:List Key}{us:List Value},Vals (ks.map kV) us->ItemsAre (eD P w) ks us
 |[],_,r=>by rw[List.map_nil] at r;cases r;exact .nil
 |k::ks,_,r=>by
  rw[AX] at r;cases r with
  |cons h t=>exact .cons (CJ h) (Hs t)
abbrev KT(H:Hp):List (List Key×V)->List (List Key×Addr×Value)->Prop:=Paired fun p q=>p.1=q.1/\H q.2.1=some (.tup (p.1.map kV))/\RelV p.2 q.2.2
def KT.val{H:Hp}{kvs:List (List Key×V)}{xs:List (List Key×Addr×Value)}(r:KT H kvs xs)(k:List Key):RelO (b4 kvs k) ((atKey xs k).map (·.2)):=by
 induction r with
 |nil=>exact True.intro
 |@cons p q ps a h t c=>
  obtain⟨h1,_,h2⟩:=h
  by_cases e:p.1=k
  ·have e':q.1=k:=h1.symm.trans e
   have b:atKey (q::a) k=some q.2:=by simp[atKey,List.find?_cons,e']
   rw[Ep e,b];exact h2
  ·have e':¬q.1=k:=fun z=>e (h1.trans z)
   have b:atKey (q::a) k=atKey a k:=by simp[atKey,List.find?_cons,e']
   rw[Er e,b];exact c
def KT.repl{H:Hp}{kvs:List (List Key×V)}{xs:List (List Key×Addr×Value)}(r:KT H kvs xs)(k:List Key){y:V}{u:Value}(c:RelV y u):KT H (kvs.map fun a=>if a.1=k then(a.1,y) else a) (xs.map (putAt k u)):=by
 induction r with
 |nil=>exact .nil
 |@cons p q ps qs h t ih=>
  rw[AX,AX];refine .cons ?_ ih;obtain⟨h1,h2,b⟩:=h;unfold putAt
  by_cases e:p.1=k
  ·rw[if_pos e,if_pos (h1.symm.trans e)];exact⟨h1,h2,c⟩
  ·rw[if_neg e,if_neg (fun z=>e (h1.trans z))];exact⟨h1,h2,b⟩
def KT.put{H:Hp}{kvs:List (List Key×V)}{xs:List (List Key×Addr×Value)}(r:KT H kvs xs)(k:List Key){b:Addr}{y:V}{u:Value}(hb:H b=some (.tup (k.map kV)))(a:RelV y u):KT H (putK kvs k y) (storedH xs k b u):=by
 have e:(kvs.any fun c=>decide (c.1=k))=(atKey xs k).isSome:=by
  rw[Hq,(r.val k).isSome_eq,Option.isSome_map]
 unfold putK storedH;rw[e]
 by_cases q:(atKey xs k).isSome=true
 ·rw[if_pos q,if_pos q];exact r.repl k a
 ·rw[if_neg q,if_neg q];exact Paired.snoc r ⟨rfl,hb,a⟩
def KT.keeps{H H':Hp}{kvs:List (List Key×V)}{xs:List (List Key×Addr×Value)}(r:KT H kvs xs)(a:∀b ys,H b=some (.tup ys)->H' b=some (.tup ys)):KT H' kvs xs:=
 Paired.mapP r fun _ _ z=>⟨z.1,a _ _ z.2.1,z.2.2⟩
section
variable{P:Program}{w:World}{H:Hp}{h:Heap}{a:Addr}
def Ht{u:HO}(ok:HOk P w H h)(e:Rd H a u):zay P w H h a u:=e.ok ok
def CK{kvs:List (Key×V)}(ok:HOk P w H h)(e:Rd H a (.dK kvs)):kvs.length<=sizeLine/\(a==sysModules)=false/\∃vs,KV kvs vs/\h.DictOf (eD P w) a vs:=
 show zay P w H h a (.dK kvs) from Ht ok e
def Hu{kvs:List (Key×V)}(ok:HOk P w H h)(e:H a=some (.dK kvs)):kvs.length<=sizeLine/\(a==sysModules)=false/\∃vs,KV kvs vs/\h.DictOf (eD P w) a vs:=CK ok (.inl e)
def CL{ks:List Key}(ok:HOk P w H h)(e:H a=some (.tup (ks.map kV))):(tupleKind (eD P w)).is h ks a:=by
 obtain⟨_,ad,r,o,h1,h2,n,b⟩:=(show zay P w H h a (.tup (ks.map kV)) from ok a _ e);exact⟨o,ad.toArray,n,h1,h2,b,by simpa using Hs r⟩
def CM{kvs:List (List Key×V)}(ok:HOk P w H h)(e:Rd H a (.dT kvs)):kvs.length<=sizeLine/\(a==sysModules)=false/\
  ∃xs,KT H kvs xs/\h.DictOfH (tupleKind (eD P w)) a xs:=by
 obtain⟨z,y,xs,r,o,es,ep,h1,h2,b,c,d⟩:=(show zay P w H h a (.dT kvs) from Ht ok e);refine⟨z,y,xs,r,o,es,ep,h1,h2,b,c,fun x hx=>?_,d⟩;have all:∀{l:List (List Key×V)}{m:List (List Key×Addr×Value)},KT H l m->∀x∈m,(tupleKind (eD P w)).is h x.1 x.2.1:=by
  intro l m q
  induction q with
  |nil=>intro x hx;exact nomatch hx
  |@cons p q ps qs hq t ih=>
   intro x hx;rcases List.mem_cons.mp hx with e|hx
   ·subst e
    exact CL ok (by rw[<-hq.1];exact hq.2.1)
   ·exact ih x hx
 exact all r x hx
def Lu{kvs:List (List Key×V)}(ok:HOk P w H h)(e:H a=some (.dT kvs)):kvs.length<=sizeLine/\(a==sysModules)=false/\
  ∃xs,KT H kvs xs/\h.DictOfH (tupleKind (eD P w)) a xs:=CM ok (.inl e)
end
def DGet(H:Hp)(a:Addr)(y:V)(r:Option V):Prop:=
 (∃kvs k,Rd H a (.dK kvs)/\y=kV k/\r=b4 kvs k)\/∃kvs k b,Rd H a (.dT kvs)/\y=.ref b/\H b=some (.tup (k.map kV))/\r=b4 kvs k
def DPut(H:Hp)(a:Addr)(y v:V)(H':Hp):Prop:=
 (∃kvs k,H a=some (.dK kvs)/\y=kV k/\kvs.length<sizeLine/\H'=upd H a (.dK (putK kvs k v))) \/
 ∃kvs k b,H a=some (.dT kvs)/\y=.ref b/\H b=some (.tup (k.map kV))/\kvs.length<sizeLine/\H'=upd H a (.dT (putK kvs k v))
def DGet.k{H:Hp}{a:Addr}{kvs:List (Key×V)}{k:Key}(e:H a=some (.dK kvs)):DGet H a (kV k) (b4 kvs k):=.inl ⟨kvs,k,.inl e,rfl,rfl⟩
def DGet.t{H:Hp}{a b:Addr}{kvs:List (List Key×V)}{k:List Key}(e:H a=some (.dT kvs))(c:H b=some (.tup (k.map kV))):DGet H a (.ref b) (b4 kvs k):=.inr ⟨kvs,k,b,.inl e,rfl,c,rfl⟩
def DPut.k{H:Hp}{a:Addr}{kvs:List (Key×V)}{k:Key}{v:V}(e:H a=some (.dK kvs))(b:kvs.length<sizeLine):DPut H a (kV k) v (upd H a (.dK (putK kvs k v))):=.inl ⟨kvs,k,e,rfl,b,rfl⟩
def DPut.t{H:Hp}{a b:Addr}{kvs:List (List Key×V)}{k:List Key}{v:V}(e:H a=some (.dT kvs))(c:H b=some (.tup (k.map kV)))(d:kvs.length<sizeLine):DPut H a (.ref b) v (upd H a (.dT (putK kvs k v))):=.inr ⟨kvs,k,b,e,rfl,c,d,rfl⟩
section
variable{X:Cx}{aa:Ψ}{σ:St}{H:Hp}{s:Shared}{a:Addr}{y v:V}{u r:Value}{o:Option V}{A:Around}{E:Ω}
def Inv.big(I:Inv X aa σ H s):sysModules<s⁻¹:=by
 have h:mainGlobals<s⁻¹:=(I.mod.glob.keeps I.bk).lt;exact Nat.lt_trans ξ h
def Lv{Q:Ω}(x:A.units+1<cLine)(I:Inv X aa σ H s)(g:DGet H a y (some v))(j:RelV y u)(h:∀c s',Inv X aa σ H s'->RelV v c->Q c s'):wpAny (model X.prog X.w) A (getItem (.ref a) u) Q E s:=by
 rcases g with ⟨kvs,k,e,d,l⟩|⟨kvs,k,b,e,d,q,l⟩
 ·subst d
  obtain⟨z,hd,vs,f,dd⟩:=CK I.hok e;obtain⟨c,hw,i⟩:=RelO.some_of (v:=v) (o:=valueAt vs k) (by rw[l];exact f.val k);exact wpAny_getItem_of (CJ j) dd.mapOf hw (h c _ (I.tok _) i)
 ·subst d
  cases(show u=Value.ref b from j);obtain⟨z,hd,xs,f,dd⟩:=CM I.hok e;obtain⟨c,hw,i⟩:=RelO.some_of (v:=v) (o:=(atKey xs k).map (·.2)) (by rw[l];exact f.val k);obtain⟨p,hp,r⟩:=Option.map_eq_some_iff.mp hw;refine wpAny_getItem_heap (tupleKind_room_in1 x) (CL I.hok q) dd hp ?_;rw[r];exact h c _ (I.tok _) i
def Es{Q:Ω}(j:A.units+1<cLine)(I:Inv X aa σ H s)(g:DGet H a y o)(f:RelV y u)(h:∀s',Inv X aa σ H s'->Q (.bool o.isSome) s'):wpAny (model X.prog X.w) A (compareOp .In u (.ref a)) Q E s:=by
 rcases g with ⟨kvs,k,e,c,l⟩|⟨kvs,k,b,e,c,i,l⟩
 ·subst c
  obtain⟨z,hd,vs,d,dd⟩:=CK I.hok e;refine wpAny_in_of (CJ f) hd dd.mapOf ?_;rw[<-(d.val k).isSome_eq,<-l];exact h _ (I.tok _)
 ·subst c
  cases(show u=Value.ref b from f);obtain⟨z,hd,xs,d,dd⟩:=CM I.hok e;refine wpAny_in_heap (tupleKind_room_in1 j) (CL I.hok i) hd dd ?_;have q:=(d.val k).isSome_eq;rw[Option.isSome_map] at q;rw[<-q,<-l];exact h _ (I.tok _)
def Hv{h':Heap}{t':Nat}{c:HO}(I:Inv X aa σ H s)(mu:qN (H a))(d:Heap.SameBut a s.heap h')(f:∃q,h'.get? a=some q)(new:zay X.prog X.w (upd H a c) h' a c):Inv X aa σ (upd H a c) {s with heap:=h',toks:=t'}:=
 I.write (x:=a) (e:=a) mu (.inl rfl) (fun b q hb z=>(d.2 b hb).trans z) f new
def dk_new{P:Program}{w:World}{H':Hp}{h':Heap}{kvs:List (Key×V)}{vs:List (Key×Value)}(z:kvs.length<=sizeLine)(hd:(a==sysModules)=false)(b:KV kvs vs)(dd:h'.DictOf (eD P w) a vs):zay P w H' h' a (.dK kvs):=⟨z,hd,vs,b,dd⟩
def Lw{H':Hp}{Q:Unit->Shared->Prop}(N:A.units+1<cLine)(I:Inv X aa σ H s)(g:DPut H a y v H')(F:RelV y u)(x:RelV v r)(h:∀s',Inv X aa σ H' s'->Q () s'):wpAny (model X.prog X.w) A (setItem (.ref a) u r) Q E s:=by
 rcases g with ⟨kvs,k,e,o,l,p⟩|⟨kvs,k,b,e,o,C,l,p⟩
 ·subst o p
  obtain⟨z,hd,vs,d,dd⟩:=Hu I.hok e;have hz:vs.length<=sizeLine:=by rw[<-d.length];exact z
  have j:(putK kvs k v).length<=sizeLine:=by have:=Hr kvs k v;(first|lia|omega)
  refine wpAny_setItem_pairs (hsz:=hz) (CJ F) dd fun h' f i=>h _ ?_;have G:∃q,h'.get? a=some q:=let ⟨q,_,_,hq,_⟩:=f;⟨q,hq⟩;exact Hv I (by rw[e];exact True.intro) i G (dk_new j hd (d.put k x) f)
 ·subst o p
  cases(show u=Value.ref b from F);obtain⟨z,hd,xs,d,dd⟩:=Lu I.hok e;have hz:xs.length<=sizeLine:=by rw[<-Paired.length d];exact z
  have j:(putK kvs k v).length<=sizeLine:=by have:=Hr kvs k v;(first|lia|omega)
  refine wpAny_setItem_heap (hsz:=hz) (tupleKind_room_in1 N) (CL I.hok C) dd fun h' f i=>h _ ?_;obtain⟨q,es,ep,hq,h2,J,L,_,M⟩:=f;refine Hv I (by rw[e];exact True.intro) i ⟨q,hq⟩ ⟨j,hd,_,(d.put k C x).keeps fun c ys D=>?_,q,es,ep,hq,h2,J,L,M⟩;rw[af (DQ D e (fun z=>nomatch z))];exact D
end
def tO(i:Expr):Prop:=∀a b,subscripted i false a b=operate [a,b] (getItem a b)
def Lx{prog:Program}{w:World}{A:Around}{E:Ω}{s:Shared}{env:Env}{aF slice:Expr}{pos:Pos}{T id:String}{Q:Ω}(j:typeLookup (.type T) "__getitem__"=pure (some (.builtin id)))(l:tO slice)(h:wpAny (model prog w) A (eval aF env) (fun o c=>wpAny (model prog w) A (eval slice env) (fun i a=>a.TypeIs o T/\wpAny (model prog w) A (getItem o i) Q E a) E c) E s):wpAny (model prog w) A (eval (.Subscript aF slice pos) env) Q E s:=by
 refine Subscript_ (wpAny_mono h (fun o c f=>wpAny_mono f (fun i a b=>?_) fun _ _ x=>x) fun _ _ x=>x);obtain⟨e,b⟩:=b;unfold subscriptTail;refine Ae ?_;rw[getitemInPython_of_ne e.not_modules];refine Ae (wpAny_specialOf e j ?_);have fin:wpAny (model prog w) A (subscripted slice false o i) (fun r d=>wpAny (model prog w) A (letTemporaryGo aF o r >>= fun _=>pure r) Q E d) E a:=by
  rw[l o i];exact wpAny_operating (wpAny_mono b (fun r d g=>Ae (wpAny_letTemporaryGo (An g))) fun _ _ x=>x)
 first
  |exact An (Ae fin)
  |exact Ae (An (Ae fin))
  |exact Ae fin
def Ly{X:Cx}{aa:Ψ}{σ:St}{H:Hp}{s:Shared}{a:Addr}{y:V}{o:Option V}(I:Inv X aa σ H s)(g:DGet H a y o):s.TypeIs (.ref a) "dict":=by
 rcases g with ⟨kvs,k,e,_,_⟩|⟨kvs,k,b,e,_,_,_⟩
 ·obtain⟨_,_,vs,_,dd⟩:=CK I.hok e
  exact dd.typeIs
 ·obtain⟨_,_,xs,_,dd⟩:=CM I.hok e
  exact dd.typeIs
def Lz(td ty:TE):TE:=fun σ H Q=>td σ H fun x H1=>ty σ H1 fun y H2=>∃a v,x=.ref a/\DGet H2 a y (some v)/\Q v H2
def Et(ty td:TE):TE:=fun σ H Q=>ty σ H fun y H1=>td σ H1 fun x H2=>∃a o,x=.ref a/\DGet H2 a y o/\Q (.bl o.isSome) H2
def LA(td ty tv:TE):TS:=fun D σ H=>tv σ H fun v H1=>td σ H1 fun x H2=>ty σ H2 fun y c=>∃a b,x=.ref a/\DPut c a y v b/\D.nx σ b
section
variable{X:Cx}{o i e aF:Expr}{pos aH cV:Pos}{td ty tv:TE}
def lX(p:X.A.units+1<cLine)(q:PE X o td)(hi:PE X i ty)(r:tO i):PE X (.Subscript o i pos) (Lz td ty):=by
 intro aa s σ H Q I h;refine Lx PySem.F.slot_dict_getitem.lookup r (aT (q aa s σ H _ I h) fun u c ⟨x,H1,w,d,e⟩=>aT (hi aa c σ H1 _ w e) fun C D ⟨y,H2,b,f,a,v,ex,g,j⟩=>?_);subst ex;obtain rfl:u=Value.ref a:=d;exact⟨Ly b g,Lv p b g f fun E G z l=>⟨v,H2,z,l,j⟩⟩
def LB(l:X.A.units+1<cLine)(hi:PE X i ty)(p:PE X o td):PC X .In i o (Et ty td):=by
 intro aa s σ H Q I h;refine aT (hi aa s σ H _ I h) fun w b ⟨y,H1,q,c,d⟩=>aT (p aa b σ H1 _ q d) fun u z ⟨x,H2,r,e,a,f,ex,g,j⟩=>?_;subst ex;obtain rfl:u=Value.ref a:=e;exact Es l r g c fun C v=>⟨.bl f.isSome,H2,v,rfl,j⟩
def Eu(q:X.A.units+1<cLine)(w:PE X o td)(hi:PE X i ty)(hv:PE X aF tv)(z:swapsWith aF (some (.Subscript o i aH)) pos.line X.env=pure false):PS X (.Assign [.Subscript o i aH] aF pos) (LA td ty tv):=by
 intro aa s σ H D I h;refine wpAny_Assign_Subscript (aT (hv aa s σ H _ I h) fun r b ⟨v,H1,C,c,d⟩=>aT (w aa b σ H1 _ C d) fun u e ⟨x,H2,E,f,j⟩=>aT (hi aa e σ H2 _ E j) fun L M ⟨y,O,F,l,a,G,ex,g,p⟩=>?_) z;subst ex;obtain rfl:u=Value.ref a:=f;exact Lw q F g l c fun N J=>⟨σ,G,J,p⟩
end
def LC{P:Program}{w:World}{H:Hp}(h:Heap)(hb:sysModules<h.objs.size):zay P w H (h.push {cls:=.type "dict",data:=.dict #[]}) h.objs.size (.dK []):=
 ⟨Az _,beq_eq_false_iff_ne.mpr (Ne.symm (AD hb)),[],.nil,Heap.DictOf.new h⟩
def LD:TE:=fun _ H Q=>∀p,H p=none->Q (.ref p) (upd H p (.dK []))
section
variable{X:Cx}{pos:Pos}
def LF:PE X (.Dict [] [] pos) LD:=fun aa s σ H Q I h=>
 wpAny_Dict_empty ⟨.ref s⁻¹,_,I.laid (a:=s⁻¹) (o:=.dK []) (t':=s.toks) (fun _ _ q=>Ai _ q) (Ad _) (LC s.heap I.big),rfl,h _ (I.hok.fresh (Ad _))⟩
end
structure M1(X:Cx)(o:Expr)(m:Str)(bD:Pos)(e:Expr)(aC:Pos):Prop where
 base:attributeBase o m X.env (eval o X.env)=eval o X.env
 few:((backTo aC (starEach [e] X.env)).all (fun x=>!x.1)&&(backToKw aC (keywordEach [] X.env)).all (fun x=>x.1.isSome)
  && decide (([e]:List Expr).length+([]:List Keyword).length+(if([]:List Keyword).isEmpty then 0 else 1)<30))=true
 line:(bD.endLine==aC.line)=true
 trees:backTo aC (starEach [e] X.env)=[(false,eval e X.env)]
structure M2(X:Cx)(o:Expr)(m:Str)(bD:Pos)(e f:Expr)(aC:Pos):Prop where
 base:attributeBase o m X.env (eval o X.env)=eval o X.env
 few:((backTo aC (starEach [e,f] X.env)).all (fun x=>!x.1)&&(backToKw aC (keywordEach [] X.env)).all (fun x=>x.1.isSome)
  && decide (([e,f]:List Expr).length+([]:List Keyword).length+(if([]:List Keyword).isEmpty then 0 else 1)<30))=true
 line:(bD.endLine==aC.line)=true
 trees:backTo aC (starEach [e,f] X.env)=[(false,eval e X.env),(false,eval f X.env)]
def IsD(H:Hp)(a:Addr):Prop:=(∃kvs,Rd H a (.dK kvs))\/∃kvs,Rd H a (.dT kvs)
end L2
namespace Att
open PySem PySem.W PySem.Calls PyProof.Rows
def LG{P:Params}{h:Heap}:∀(ns:List Int)(vs:List Value),WellAll P h vs (ns.map WData.int)->IntsAre vs ns:=by
 intro ns
 induction ns with
 |nil=>
  intro vs w;rw[List.map_nil] at w;cases w;exact .nil
 |cons n ns ih=>
  intro vs w;rw[AX] at w;cases w with
  |cons a b=>
   cases a;exact .cons _ _ (ih _ b)
def LJ{l:OpenLaw}{n:Nat}(p:l.most=some n){P:Params}{h:Heap}{args:List WData}{f:List Value}(g:l.row.toRowW.claim.pre args=true)(s:WellAll P h f args):∃a vs ns,f=[Value.ref a]/\args=[WData.list (ns.map WData.int)]/\h.get? a=some {cls:=.type "list",data:=.seq vs.toArray}/\IntsAre vs ns/\ns.length<=n:=by
 have e:WShape.hasAll [] args [.list .int]=true:=(pre_splitW g).1;have hc:l.pre.holds [] {args:=args}=true:=(pre_splitW g).2;obtain⟨d,r,rfl,h1,h2⟩:=hasAllW_cons e;obtain rfl:=hasAllW_nil h2;obtain⟨xs,rfl,i⟩:=hasW_list h1;obtain⟨ns,rfl⟩:=items_int i;have j:ns.length<=n:=by
  unfold OpenLaw.pre at hc;have b:(WTm.not (.lt (.lit (.int (n:Int))) (.len (.arg 0)))).holds [] {args:=[.list (ns.map .int)]}=true:=by
   have b:=(holds_andW hc).1;rw[p] at b;exact b
  have c:=condW_of b (w_not (w_lt w_lit (w_len_list (w_arg rfl))));rw[Aa] at c;refine Nat.le_of_not_lt fun q=>?_;have o:(n:Int)<((ns.length:Nat):Int):=ω
  first
   |(rw[decide_eq_true o] at c;exact absurd c ξ)
   |(simp at c;(first|lia|omega))
 cases s with
 |cons w1 w2=>
  cases w2;cases w1 with
  |list ho hall=>exact⟨_,_,ns,rfl,rfl,ho,LG ns _ hall,j⟩
def LK(l:OpenLaw)(args:List WData):l.row.toRowW.claim.post args (.bool true) args=true:=
 postW_of (r:=l.row.toRowW) (X:=(true==true))
  (show WShape.has [] (.bool true) .bool=true by first|rfl|decide|simp[WShape.has,WShape.arms,WShape.armsAll])
  (show(WTm.eq .res (.lit (.bool true))).value [] {args:=args,res:=some (.bool true),after:=args}=some (.bool (true==true)) from w_eq_bool (w_res rfl) w_lit) rfl
def LN{l:OpenLaw}{n:Nat}{q:Program}{j:List Str}{p:(Str->Option Value)->Heap->Prop}{s:World->Heap->Prop}{d:DefRec}(J:l.most=some n)(L:d.params.defaults=[])(call:∀(w:World)(s₀ b:Shared)(mg e:Str->Option Value)(fa:Addr)(o:Obj)(g c h:Value)(a:Addr)(vs:List Value)(ns:List Int),
   Ground q j [] p w s₀ mg e b.heap->s w b.heap->
   b.heap.get? fa=some o->o.data=.func (docDef d.name d.params d.body d.scope g c h)->b.heap.CodeRec c d.name->mg d.name=some (.ref fa)->
   b.heap.get? a=some {cls:=.type "list",data:=.seq vs.toArray}->IntsAre vs ns->ns.length<=n->b.gens=#[]->
   codeAny (model l.prog w) callerA (.call (.ref fa) ⟨[.ref a],[]⟩) (fun r s'=>r=.ok (.ret (.bool true))/\OldK b.heap s'.heap/\s'.os=b.os/\AllBare s'.gens) b):
  WalkO q j p s l.row.toRowW d [] (fun f vs=>PySem.call f vs):=by
 intro w s₀ b mg e G Y fa o g c h u kV v hd x i y hg args M N z O Q A P;obtain rfl:u=.none:=Dflts.none i L;obtain rfl:kV=.none:=Dflts.noKw i;obtain⟨a,vs,ns,rfl,rfl,D,E,F⟩:=LJ J z A;refine enter_call (codeAny_mono (call w s₀ b mg e fa o g c h a vs ns G Y v (fd_plain hd) x y D E F hg) fun r s' hq=>?_);obtain⟨rfl,h2,H,I⟩:=hq;exact⟨.inl ⟨.bool true,.bool true,[],rfl,fun _=>rfl,.bool true,LK l _,fun _=>⟨List.Pairwise.nil,fun _ C=>(nomatch C)⟩⟩,h2,H,I⟩
end Att
namespace L2
open PySem PySem.Spec PyProof.Rows
def Hw:∀{vs:List Value}{ns:List Int},IntsAre vs ns->Vals (ns.map V.int) vs
 |_,_,.nil=>.nil
 |_,_,.cons n t h=>.cons ⟨t,rfl⟩ (Hw h)
def lY(H:Hp):Prop:=∀b,H b=none\/∃o xs,H b=some (.frz o (.lst xs))
def LO{P:Program}{w:World}{K:Ag}{mg p:Str->Option Value}{CX:fX}{k:Nat}{fa a:Addr}{fd:FuncData}{x:Str}{sp:Sp}{c:Shared}{vs:List Value}{ns:List Int}(L:K.In c.heap)(I:c.heap.Ns mainGlobals mg)(hb:c.heap.Ns builtinsNs p)(eG:∀x:Str,x≠"__name__"->p x=A8 x)(mU:c.heap.NoLimit)(hg:c.gens=#[])(l:c.heap.get? a=some {cls:=.type "list",data:=.seq vs.toArray})(hi:IntsAre vs ns)(J:ns.length<=sizeLine)(hr:Room k callerA)(F:∀base:Heap,K.In base->base.Ns mainGlobals mg->ai P w K mg base CX k fa fd [x] sp)(jb:∀(s:Shared)(u:Value),BindsTo s fd ⟨[u],[]⟩ [(x,u)])(fJ:∀H:Hp,lY H->SqL K H a (ns.map V.int)->sp [.ref a] H (fun v _=>v=.bl true) fun _ _ _=>False)(ky:∀H e s',CX [] H c (fun _ _ _=>False) e s'->False):codeAny (model P w) callerA (.call (.ref fa) ⟨[.ref a],[]⟩) (fun r s'=>r=.ok (.ret (.bool true))/\OldK c.heap s'.heap/\s'.os=c.os/\AllBare s'.gens) c:=by
 have C:=Hw hi;have T:=hi.length;have D:∀H:Hp,lY H->SqL K H a (ns.map V.int)->HOk P w H c.heap->(∀b,H b≠none->b=a)->(H a≠none->K.lookup a=none)->
   codeAny (model P w) callerA (.call (.ref fa) ⟨[.ref a],[]⟩) (fun r s'=>r=.ok (.ret (.bool true))/\OldK c.heap s'.heap/\s'.os=c.os/\AllBare s'.gens) c:=by
  intro H y M g A N;have E:∀{b:Addr}{o:Obj},c.heap.get? b=some o->H b=none->(dN c.heap H).get? b=some o:=fun e n=>KL e n;have U:∀{b:Addr}{o:Obj}{es:Array DictEntry}{ep:Nat},c.heap.get? b=some o->o.data=.dict es ep->H b=none:=fun{b o es ep} e d=>by
   cases q:H b with
   |none=>rfl
   |some u=>
    have e':b=a:=A b (by rw[q];simp);subst e';rw[l] at e;cases e;have d':Data.seq vs.toArray _=Data.dict es ep:=d;cases d'
  have f:∀{b:Addr}{m:Str->Option Value},c.heap.Ns b m->(dN c.heap H).Ns b m:=fun{b m} ⟨o,es,ep,e,d,r⟩=>⟨o,es,ep,E e (U e d),d,r⟩;have G:K.In (dN c.heap H):=fun b o e=>E (L b o e) (by
   cases q:H b with
   |none=>rfl
   |some u=>
    have e':b=a:=A b (by rw[q];simp);subst e';rw[N (by rw[q];simp)] at e;cases e)
  have W:Mod K mg (dN c.heap H):=⟨G,f I,⟨p,f hb,eG⟩,let ⟨mc,h1,h2⟩:=mU;⟨mc,f h1,h2⟩⟩;have X:Env0 P w K mg (dN c.heap H) callerA [] c H:=⟨rfl,W,fun b o e=>KM e,Nat.le_of_eq (KJ _ _),trivial,fun b hb=>absurd (show b∈([]:List Addr) from hb) (by simp),g,.of_eq hg⟩;refine codeAny_mono ((F _ G (f I)).run callerA [] c H ⟨[.ref a],[]⟩ [.ref a] [.ref a] _ _ hr X (jb c (.ref a)) (.cons rfl .nil) (fJ H y M)) fun r s' h=>?_;cases r with
  |error e=>exact(ky H e s' h).elim
  |ok fl=>
   cases fl with
   |next=>exact False.elim h
   |brk=>exact False.elim h
   |cont=>exact False.elim h
   |ret u=>
    obtain⟨v,H',os,i,un,O,Q,q⟩:=h;have Y:v=.bl true:=q;subst Y;obtain rfl:u=Value.bool true:=Q;refine⟨rfl,OldK.of_keep fun b o e=>?_,os,i⟩;cases q:H b with
    |none=>exact un.keep b o e q (by intro z;exact absurd (show b∈([]:List Addr) from z) (by simp)) (by simp)
    |some u=>
     rcases y b with z|⟨S,xs,z⟩
     ·rw[q] at z;cases z
     ·have Z:=un.frzs b S _ z
      obtain⟨e1,_⟩:=g b _ z;obtain⟨e2,_⟩:=O b _ Z;rw[e] at e1;cases e1;exact e2
 cases hk:K.lookup a with
 |some o=>
  have e:=L a o hk;rw[l] at e;cases e;refine D (fun _=>none) (fun _=>.inl rfl) (.inr ⟨_,vs.toArray,_,hk,rfl,rfl,rfl,by rw[Au,T];exact J,by simpa using C⟩) (fun b u z=>by have j:(none:Option HO)=some u:=z;cases j) (fun b z=>absurd rfl z) fun z=>absurd rfl z
 |none=>
  refine D (fun b=>if b=a then some (.frz {cls:=.type "list",data:=.seq vs.toArray} (.lst (ns.map V.int))) else none) (fun b=>?_) (.inl (.inr ⟨{cls:=.type "list",data:=.seq vs.toArray},if_pos rfl⟩)) (fun b u z=>?_) (fun b z=>?_) fun _=>hk
  ·by_cases hb:b=a
   ·exact .inr ⟨_,_,if_pos hb⟩
   ·exact .inl (if_neg hb)
  ·by_cases hb:b=a
   ·have j:=(if_pos hb).symm.trans z
    cases j;subst hb;exact⟨l,by rw[Aa];exact J,vs,_,C,l⟩
   ·have j:=(if_neg hb).symm.trans z
    cases j
  ·by_cases hb:b=a
   ·exact hb
   ·exact absurd (if_neg hb) z
def Hx{l:PySem.W.OpenLaw}{n k:Nat}{q:Program}{E:List Str}{P:(Str->Option Value)->Heap->Prop}{j:World->Heap->Prop}{d:DefRec}{K:Params->Ag}{CX:World->fX}{sp:World->Sp}{x:Str}(I:l.most=some n)(J:n<=sizeLine)(L:d.params.defaults=[])(hr:Room k callerA)(M:∀(w:World)(h:Heap),j w h->(K w.params).In h)(F:∀(w:World)(mg:Str->Option Value)(fa:Addr)(h:Heap),(K w.params).In h->h.Ns mainGlobals mg->mg d.name=some (.ref fa)->
   ∃fd:FuncData,(∀(s:Shared)(u:Value),BindsTo s fd ⟨[u],[]⟩ [(x,u)])/\
    ∀base:Heap,(K w.params).In base->base.Ns mainGlobals mg->ai l.prog w (K w.params) mg base (CX w) k fa fd [x] (sp w))
  (N:∀(w:World)(H:Hp)(a:Addr)(ns:List Int),ns.length<=n->lY H->SqL (K w.params) H a (ns.map V.int)->sp w [.ref a] H (fun v _=>v=.bl true) fun _ _ _=>False)
  (O:∀(w:World)(H:Hp)(s:Shared)(e:Value)(s':Shared),CX w [] H s (fun _ _ _=>False) e s'->False) :
  PySem.W.WalkO q E P j l.row.toRowW d [] (fun f vs=>PySem.call f vs):=by
 refine Att.LN I L fun w s₀ p mg Q fa o S U X a vs ns G Y Z hd dh r y z c hg=>?_;have i:=M w _ Y;obtain⟨fd,hb,D⟩:=F w mg fa _ i G.T.g r;exact LO i G.T.g G.T.b G.T.builtins G.T.nolimit hg y z (Af c J) hr D hb (fun H A C=>N w H a ns c A C) fun H e s'=>O w H p e s'
end L2
/- THE LAST THEOREM (shape;LID,My.* are yours):
  My.Adr: a structure of eS addresses that your layer names (classes,functions);My.Txt K t: a structure (Prop) of eS equations over K;
  My.txt_mk:{K} {implicit addresses ..} (e1:nsIn K mainGlobals "law"=some (some (.ref f))) (e2:K.lookup f=some ⟨oc,od,.func (fnOf "law" "law" cY bL scope dV kV bE pm an ak ct),sl⟩) (e3:codeIn K ak "law"=true) ..:∃t,My.Txt K t
set_option maxRecDepth 100000 in
set_option maxHeartbeats 0 in
theorem PySem.Challenge.cw_LID_holds:PySem.Challenge.rw_LID.Holds := by
 w_on;o_law;k_head;(case hw=>w_witness2)
 k_fill
 refine L2.Hx (l:=PySem.Challenge.rw_LID) (n:=63) (k:=40) (x:="script") (CX:=fun w=>..) (sp:=fun _=>My.sp_law) rfl ξ rfl ⟨rfl,ξ,ξ⟩ (fun w h Y=>PySem.W.kIn_of Y) ?F ?S ?C
 case F=>
  intro w mg fa h f G g;have T:∃t,My.Txt (L2.KOf f) t:=by
   dsimp only[L2.KOf]                          -- K must stand as «<heap const> w.params» for k_is
   refine' My.txt_mk ?e1 ?e2 ?e3 ..
   (case e1 => PySem.W.k_is)                    -- in e order: a name -> ad address -> ad object -> ad parts
   (case e2=>PySem.W.k_is)
   ..
  obtain⟨t,T⟩:=T;have i:=g.symm.trans (PySem.W.mg_of f G T.law);cases i                                       -- fa is e law's own address
  exact⟨_,fun s u => .of_eq rfl,fun base c d => My.law_fn T c d⟩     -- if «.of_eq rfl» comes too early: refine' ⟨_,?b,fun base c d => My.law_fn T c d⟩;exact fun s u => .of_eq rfl
 case S=>exact fun w H a ns j o p=>..
 case C=>exact ..
(e tactic k_is has no namespace: write k_is) -/
namespace L2
open PySem PySem.Spec PyProof.Rows
def zb2(s:Stmt):Arguments:=match s with
 |.FunctionDef _ a _ _ _ _ _ _ _ _=>a
 |_=>{posonlyargs:=[],args:=[],vararg:=none,kwonlyargs:=[],kw_defaults:=[],kwarg:=none,defaults:=[]}
def zag(s:Stmt):List Stmt:=match s with
 |.FunctionDef _ _ b _ _ _ _ _ _ _=>b
 |_=>[]
def zg(s:Stmt):Scope:=match s with
 |.FunctionDef _ _ _ _ _ _ sc _ _ _=>sc
 |_=>{kind:=.function,names:=[],isGenerator:=false,isCoroutine:=false}
abbrev aw:fX:=fun _ _ _ _ _ _=>False
abbrev E0:XK:=fun _ _ _=>False
def ac{X:Cx}:eK aw X E0:=fun _ _ _ _ _ _ _ h=>h.elim
structure Fun(K:Ag)(x al:Str)(st:Stmt)(f:Addr)(fd:FuncData):Prop where
 ex:∃(oc:Value)(od:Option Addr)(kV bE pm:Value)(an:Option Addr)(ak ct:Value)(eh:Array (Option Value)),
  fd=PySem.W.fnOf x al (zb2 st) (zag st) (zg st) .none kV bE pm an ak ct/\K.lookup f=some ⟨oc,od,.func fd,eh⟩/\PySem.W.codeIn K ak al=true
 kp:PySem.W.keepIn K (.ref f)=true
section
variable{P:Program}{w:World}{K:Ag}{mg:Str->Option Value}{base:Heap}
def Fun.ok{x b:Str}{st:Stmt}{f:Addr}{fd:FuncData}{N ps:List Str}{k:Nat}{sp:Sp}(F:Fun K x b st f fd)(S:zp N ps (zg st))(len:∀vs H Q E,sp vs H Q E->vs.length=ps.length)(e:∀(a:Value)(A:Around)(outer:List Env)(s:Shared)(H:Hp)(vs:List V)(Q:VK)(E:XK),Room k (A.deeper (envOfC b (zg st) s⁻¹ f a))->sp vs H Q E->
   ∃t,PSs (cf aw P w K mg base N b (zg st) f a A outer s H E).nox (zag st) t/\t {nx:=fun _ H'=>Q .non H',rt:=Q} (start N vs) H):ai P w K mg base aw (k+1) f fd ps sp:=by
 obtain⟨g,i,kV,j,l,o,a,ct,p,rfl,lk,d⟩:=F.ex;refine Lb lk d S len fun A outer s H vs Q E hr c=>?_;obtain⟨t,h,q⟩:=e a A outer s H vs Q E hr c;exact⟨t,h.nox,q⟩
def Fun.binds{x e:Str}{st:Stmt}{f:Addr}{fd:FuncData}{ps:List Str}(F:Fun K x e st f fd)(h:∀(kV a b:Value)(c:Option Addr)(d ct:Value)(us:List Value),us.length=ps.length->bindArgs (PySem.W.fnOf x e (zb2 st) (zag st) (zg st) .none kV a b c d ct) ⟨us,[]⟩=pure (ps.zip us)):Binds K fd ps []:=by
 obtain⟨g,i,kV,a,b,c,d,ct,j,rfl,lk,l⟩:=F.ex;exact .all (h kV a b c d ct)
def LP{x a:Str}{st:Stmt}{f:Addr}{i:Value}{j g:Option Addr}{h:Array (Option Value)}{kV d e b ct:Value}(l:K.lookup f=some ⟨i,j,.func (PySem.W.fnOf x a (zb2 st) (zag st) (zg st) .none kV d e g b ct),h⟩)(c:PySem.W.codeIn K b a=true)(k:PySem.W.keepIn K (.ref f)=true):Fun K x a st f (PySem.W.fnOf x a (zb2 st) (zag st) (zg st) .none kV d e g b ct):=⟨⟨i,j,kV,d,e,g,b,ct,h,rfl,l,c⟩,k⟩
end
def CN{A:Around}{k:Nat}(hr:Room k A):A.units+1<cLine:=Av (Nat.add_le_add_left (by decide:1<=64) _) hr.units
section
variable{X:Cx}
def pv(i:Nat){x:Str}{pos:Pos}(a:X.N[i]?=some x:=by rfl)(hv:B6 X.env.scope x:=by first|exact Or.inl rfl|exact Or.inr (Or.inl rfl)|exact Or.inr (Or.inr rfl))(hd:(x==("__debug__":Str))=false:=by decide)
  (b:(x==("__classdict__":Str))=false:=by decide):PE X (.Name x pos) (av i):=KN a hv hd b
end
def az{A B:Prop}(h:B):if false=true then A else B:=by
 rw[if_neg AK];exact h
def aA{A B:Prop}(h:A):if true=true then A else B:=by
 rw[if_pos rfl];exact h
def dE{c A B:Prop}[Decidable c](h1:c->A)(h2:¬c->B):if c then A else B:=by
 by_cases h:c
 ·rw[if_pos h]
  exact h1 h
 ·rw[if_neg h]
  exact h2 h
def Same(H H':Hp):Prop:=∀b o,H b=some o->H' b=some o
def Same.refl(H:Hp):Same H H:=fun _ _ h=>h
def Same.trans{H H1 H2:Hp}(a:Same H H1)(b:Same H1 H2):Same H H2:=fun c o h=>b c o (a c o h)
def Same.free{H H':Hp}(e:Same H H'){l:Addr}(h:H' l=Option.none):H l=Option.none:=by
 cases q:H l with
 |none=>rfl
 |some o=>
  rw[e l o q] at h;cases h
def Same.seq{K:Ag}{H H':Hp}{a:Addr}{xs:List V}(e:Same H H')(h:SqL K H a xs):SqL K H' a xs:=by
 rcases h with (h|⟨o,h⟩)|h
 ·exact .inl (.inl (e _ _ h))
 ·exact .inl (.inr ⟨o,e _ _ h⟩)
 ·exact .inr h
def clOf(cells:List (Str×Addr)):List (Str×NameKind)->List (Str×Addr)->List (Str×Addr)
 |[],acc=>acc
 |(n,k)::r,acc=>if(k==.free)=true then clOf cells r ((n,(cells.lookup n).getD 0)::acc) else clOf cells r acc
def Hy{env:Env}:∀(names:List (Str×NameKind))(acc:List (Str×Addr)),(∀x∈names,x.2=.free->∃c,env.cells.lookup x.1=some c)-> (forIn names acc fun x(r:List (Str×Addr))=>if(x.2==.free)=true then do let c <-cellOf env x.1;pure (ForInStep.yield ((x.1,c)::r)) else pure (ForInStep.yield r):Sem (List (Str×Addr)))=pure (clOf env.cells names acc)
 |[],acc,_=>rfl
 |(n,k)::r,acc,h=>by
  rw[List.forIn_cons];have b:=fun a=>Hy (env:=env) r a fun x hx=>h x (Ao _ hx);unfold clOf
  by_cases hk:(k==Br)=true
  ·have d:k=.free:=by cases k<;>first|rfl|cases hk
   obtain⟨c,hc⟩:=h (n,k) Aq d;simp only[hk,if_true];unfold cellOf;rw[hc];simp only[pure_bind,Option.getD_some];exact b _
  ·simp only[hk,Bool.false_eq_true,if_false,pure_bind]
   exact b _
def LQ{scope:Scope}{env:Env}(h:∀x∈scope.names,x.2=.free->∃c,env.cells.lookup x.1=some c):closureFor scope env=pure (clOf env.cells scope.names []):=by
 rw[<-Hy scope.names [] h];unfold closureFor;simp
def Ev{x:Str}{c:Addr}:∀{l:List (Str×Addr)},(x,c)∈l->∃d,l.lookup x=some d
 |[],h=>nomatch h
 |(y,d)::l,h=>by
  rw[Bq]
  by_cases e:x=y
  ·subst e;exact⟨d,by simp⟩
  ·have hb:(x==y)=false:=by simpa using e
   rw[hb];rcases List.mem_cons.mp h with q|q
   ·cases q;exact absurd rfl e
   ·exact Ev q
def CO{cells:List (Str×Addr)}{x:Str}:∀{names:List (Str×NameKind)}{acc:List (Str×Addr)},((x,Br)∈names\/∃c,(x,c)∈acc)->∃c,(x,c)∈clOf cells names acc
 |[],acc,h=>h.elim (fun q=>nomatch q) id
 |(n,k)::r,acc,h=>by
  unfold clOf
  by_cases hk:(k==Br)=true
  ·rw[if_pos hk]
   refine CO ?_;rcases h with h|⟨c,h⟩
   ·rcases List.mem_cons.mp h with q|q
    ·cases q;exact .inr ⟨_,Aq⟩
    ·exact .inl q
   ·exact .inr ⟨c,Ao _ h⟩
  ·rw[if_neg hk]
   refine CO ?_;rcases h with h|h
   ·rcases List.mem_cons.mp h with q|q
    ·cases q;exact absurd rfl hk
    ·exact .inl q
   ·exact .inr h
def eA(X:Cx)(scope:Scope)(N:List Str)(a:List (Str×Addr))(C:Addr)(s₀:Shared)(H₀:Hp)(ex:List Addr):Cx where
 prog:=X.prog
 w:=X.w
 K:=X.K
 mg:=X.mg
 base:=X.base
 A:=X.A
 N:=N
 s₀:=s₀
 H₀:=H₀
 env:=compEnvC scope a C X.env
 outer:=X.stack
 stack:=X.stack
 ex:=ex
 fn:=fun _=>false
 calm:=X.calm
 pn:=X.pn
 xe:=fun _ _=>False
def gG(X:Cx)(aG:List Expr)(t:TT):Prop:=
 ∀(aa:Ψ)(s:Shared)(σ:St)(H:Hp)(Q:Bool->Hp->Prop),Inv X aa σ H s->t σ H Q->
  wpAny (model X.prog X.w) X.A (forIn aG true fun c r=>if r=true then do let ok <-isTrue c X.env (eval c X.env);pure (ForInStep.yield ok) else pure (ForInStep.yield r)) (TP X aa σ Q) X.xe s
def bM:TT:=fun _ H Q=>Q true H
def zy{X:Cx}:gG X [] bM:=fun _ _ _ H _ I h=>wpAny_tests_nil ⟨H,I,h⟩
def Ew{X:Cx}{c:Expr}{t:TT}(h:PT X c t):gG X [c] t:=fun aa s σ H Q I hw=>wpAny_tests_one (h aa s σ H Q I hw)
def tY(aj:List (Option Nat))(σ:St):St:=aj.map fun c=>match c with
 |none=>none
 |some j=>(σ[j]?).getD none
def cH(J:It)(g:TG)(tc:TT)(te:TE)(σ:St)(H1:Hp)(D:Addr)(Q:VK):Prop:=
 ∃W:Nat->Nat->St->Hp->Prop,(∃m,W 0 m σ (upd H1 D (.lst [])))/\
 ∀i m d H2,W i m d H2->(J.stop i H2/\Q (.ref D) H2)\/(J.go i H2/\∀x h,J.yld i H2 x h->g x d h fun c j=>tc c j fun b e=>
  if b=true then te c e fun y f=>∃ys a,f D=some (.lst ys)/\ys.length<sizeLine/\a<m/\W (i+1) a c (upd f D (.lst (ys++[y])))
  else ∃a,a<m/\W (i+1) a c e)
def hX(wi:TI)(aj:List (Option Nat))(g:TG)(tc:TT)(te:TE):TE:=fun σ H Q=>wi σ H fun J H1=>∀D,H1 D=none->cH J g tc te (tY aj σ) H1 D Q
def lZ(N N':List Str)(aj:List (Option Nat))(scope:Scope):Prop:=
 aj.length=N'.length/\∀i j:Nat,aj[i]?=some (some j)->∃x:Str,N'[i]?=some x/\N[j]?=some x/\scope.names.lookup x=some .free
def CP{cells:List (Str×Addr)}{x:Str}{c:Addr}:∀{names:List (Str×NameKind)}{acc:List (Str×Addr)},(∀y∈names,y.2=.free->∃d,cells.lookup y.1=some d)->(∀p∈acc,False)->(x,c)∈clOf cells names acc->cells.lookup x=some c/\(x,Br)∈names:=by
 have g:∀{names:List (Str×NameKind)}{acc:List (Str×Addr)},(∀y∈names,y.2=.free->∃d,cells.lookup y.1=some d)->(x,c)∈clOf cells names acc->(x,c)∈acc\/(cells.lookup x=some c/\(x,Br)∈names):=by
  intro names
  induction names with
  |nil=>intro acc _ h;exact .inl h
  |cons y r i=>
   intro acc b h;obtain⟨n,k⟩:=y;unfold clOf at h;have j:∀y∈r,y.2=.free->∃d,cells.lookup y.1=some d:=fun y hy=>b y (Ao _ hy)
   by_cases hk:(k==Br)=true
   ·have l:k=.free:=by cases k<;>first|rfl|cases hk
    obtain⟨d,hd⟩:=b (n,k) Aq l;rw[if_pos hk] at h;rcases i j h with q|⟨e,f⟩
    ·rcases List.mem_cons.mp q with q|q
     ·refine .inr ⟨?_,?_⟩
      ·have a:cells.lookup n=some d:=hd
       rw[a] at q;cases q;exact a
      ·cases q
       rw[l];exact Aq
     ·exact .inl q
    ·exact .inr ⟨e,Ao _ f⟩
   ·rw[if_neg hk] at h
    rcases i j h with q|⟨e,f⟩
    ·exact .inl q
    ·exact .inr ⟨e,Ao _ f⟩
 intro names acc b o h;rcases g b h with q|q
 ·exact(o _ q).elim
 ·exact q
def cf_mem:∀(names:List (Str×NameKind))(h:Heap)(acc:List (Str×Addr))(x:Str)(c:Addr),(x,c)∈cellsFrom h.objs.size names acc->(x,c)∈acc\/((x,NameKind.cell)∈names/\h.objs.size<=c/\(pushCells h names).IsCell c none)
 |[],h,acc,x,c,a=>.inl a
 |(n,k)::r,h,acc,x,c,a=>by
  rw[cellsFrom.eq_2] at a;have ep:pushCells h ((n,k)::r)=if(k==NameKind.cell)=true then pushCells (h.push {cls:=Value.type "cell",data:=Data.cell none}) r else pushCells h r:=rfl
  by_cases hk:(k==NameKind.cell)=true
  ·have f:k=.cell:=by cases k<;>first|rfl|cases hk
   rw[if_pos hk] at a;rw[ep,if_pos hk];have es:(h.push {cls:=Value.type "cell",data:=Data.cell none}).objs.size=h.objs.size+1:=Heap.size_push ..;rw[<-es] at a;rcases cf_mem r _ _ x c a with q|⟨d,b,e⟩
   ·rcases List.mem_cons.mp q with q|q
    ·cases q
     refine .inr ⟨by rw[f];exact Aq,Ad _,_,pushCells_keeps r _ _ _ (AI _ rfl),rfl⟩
    ·exact .inl q
   ·rw[es] at b
    exact .inr ⟨Ao _ d,Nat.le_of_succ_le b,e⟩
  ·rw[if_neg hk] at a
   rw[ep,if_neg hk];rcases cf_mem r h acc x c a with q|⟨d,b,e⟩
   ·exact .inl q
   ·exact .inr ⟨Ao _ d,b,e⟩
def Ex:∀(names:List (Str×NameKind))(n:Nat)(acc:List (Str×Addr)),(∀x y c,(x,c)∈acc->(y,c)∈acc->x=y)->(∀p∈acc,p.2<n)->∀x y c,(x,c)∈cellsFrom n names acc->(y,c)∈cellsFrom n names acc->x=y
 |[],n,acc,hi,_,x,y,c,h1,h2=>hi x y c h1 h2
 |(m,k)::r,n,acc,hi,hl,x,y,c,h1,h2=>by
  rw[cellsFrom.eq_2] at h1 h2
  by_cases hk:(k==NameKind.cell)=true
  ·rw[if_pos hk] at h1 h2
   refine Ex r (n+1) ((m,n)::acc) (fun x y c p q=>?_) (fun p hp=>?_) x y c h1 h2
   ·rcases List.mem_cons.mp p with p|p<;>rcases List.mem_cons.mp q with q|q
    ·cases p;cases q;rfl
    ·cases p
     have:n<n:=hl _ q;(first|lia|omega)
    ·cases q
     have:n<n:=hl _ p;(first|lia|omega)
    ·exact hi x y c p q
   ·rcases List.mem_cons.mp hp with rfl|hp
    ·exact Nat.lt_succ_self _
    ·exact Nat.lt_succ_of_lt (hl p hp)
  ·rw[if_neg hk] at h1 h2
   exact Ex r n acc hi hl x y c h1 h2
def LR{M:Model}{A:Around}{E:Ω}{s:Shared}{scope:Scope}{g:Addr}{a:List (Str×Addr)}{i:Str}{env:Env}{Q:Env->Shared->Prop}(h:∀d:Heap,(d.Ns s⁻¹ fun _=>none)->(∀b o,s.heap.get? b=some o->d.get? b=some o)->
   (∀x c,(x,c)∈cellsFrom (s⁻¹+1) scope.names a->(x,c)∈a\/((x,NameKind.cell)∈scope.names/\s⁻¹+1<=c/\d.IsCell c none))->
   Q (newEnv scope s⁻¹ g (cellsFrom (s⁻¹+1) scope.names a) i none .none (some env) builtinsNs) {s with heap:=d}):
  wpAny M A (newFunctionEnv scope g a [] i none Value.none (some env)) Q E s:=by
 unfold newFunctionEnv;refine Ae (wpAny_alloc ?_);refine Ae (wpAny_layCells _ (fun name kind cells=>rfl) scope.names a _ _ ?_);have es:(s.heap.push {cls:=Value.type "dict",data:=Data.dict #[]}).objs.size=s⁻¹+1:=Heap.size_push ..;have:=h (pushCells (s.heap.push {cls:=Value.type "dict",data:=Data.dict #[]}) scope.names) ((Heap.Ns.new s.heap (.type "dict")).keeps fun b o e=>pushCells_keeps _ _ _ _ e) (fun b o e=>pushCells_keeps _ _ _ _ (Ai _ e)) (fun x c f=>by
  rw[<-es] at f ⊢;exact cf_mem scope.names _ a x c f)
 show wpAny M A _ _ _ _;refine Ae (An ?_);refine An ?_;rw[<-es] at this;exact this
def cxD(X:Cx)(scope:Scope)(N:List Str)(a:List (Str×Addr))(C:Addr)(s₀:Shared)(H₀:Hp)(ex:List Addr):Cx:={eA X scope N a C s₀ H₀ ex with fn:=fun x=>decide (scope.names.lookup x=some .cell)}
section
variable{X:Cx}{scope:Scope}{N':List Str}{aj:List (Option Nat)}{tg iter aR:Expr}{aG:List Expr}{wi:TI}{g:TG}{tc:TT}{te:TE}{pos:Pos}
def Ey{scope:Scope}{env:Env}{x:Str}:∀{names:List (Str×NameKind)},(names.lookup x=some .free\/names.lookup x=some .cell)-> ((names.map fun(n,k)=>if(k==Br&&env.scope.kind==.function&&env.kindOf n==some .cell) then(n,NameKind.cell) else(n,k)).lookup x=some .free \/
   (names.map fun(n,k)=>if(k==Br&&env.scope.kind==.function&&env.kindOf n==some .cell) then(n,NameKind.cell) else(n,k)).lookup x=some .cell)
 |[],h=>by simp at h
 |(n,k)::r,h=>by
  have a:=@Ey scope env x r;show List.lookup x ((if(k==Br&&env.scope.kind==.function&&env.kindOf n==some .cell)=true then(n,NameKind.cell) else(n,k))::_)=_\/List.lookup x ((if(k==Br&&env.scope.kind==.function&&env.kindOf n==some .cell)=true then(n,NameKind.cell) else(n,k))::_)=_;cases hx:x==n with
  |true=>
   simp only[Bq,hx] at h
   by_cases hc:(k==Br&&env.scope.kind==.function&&env.kindOf n==some .cell)=true
   ·rw[if_pos hc];simp[Bq,hx]
   ·rw[if_neg hc];simp only[Bq,hx];exact h
  |false=>
   simp only[Bq,hx] at h
   by_cases hc:(k==Br&&env.scope.kind==.function&&env.kindOf n==some .cell)=true
   ·rw[if_pos hc];simp only[Bq,hx];exact a h
   ·rw[if_neg hc];simp only[Bq,hx];exact a h
def Ez{env:Env}{x:Str}{a:NameKind}:∀{names:List (Str×NameKind)},(names.map fun(n,k)=>if(k==Br&&env.scope.kind==.function&&env.kindOf n==some .cell) then(n,NameKind.cell) else(n,k)).lookup x=some a->
  ∃b,names.lookup x=some b/\(a=b\/(b=.free/\a=.cell))
 |[],h=>by simp at h
 |(n,k)::r,h=>by
  have c:=@Ez env x a r;have h':List.lookup x ((if(k==Br&&env.scope.kind==.function&&env.kindOf n==some .cell)=true then(n,NameKind.cell) else(n,k))::_)=some a:=h;cases hx:x==n with
  |true=>
   simp only[Bq,hx]
   by_cases hc:(k==Br&&env.scope.kind==.function&&env.kindOf n==some .cell)=true
   ·rw[if_pos hc] at h'
    simp only[Bq,hx] at h';cases h';have hk:k=.free:=by
     rw[A7,A7] at hc;cases k<;>first|rfl|exact absurd hc.1.1 ξ
    exact⟨k,rfl,.inr ⟨hk,rfl⟩⟩
   ·rw[if_neg hc] at h'
    simp only[Bq,hx] at h';cases h';exact⟨_,rfl,.inl rfl⟩
  |false=>
   simp only[Bq,hx]
   by_cases hc:(k==Br&&env.scope.kind==.function&&env.kindOf n==some .cell)=true
   ·rw[if_pos hc] at h';simp only[Bq,hx] at h';exact c h'
   ·rw[if_neg hc] at h';simp only[Bq,hx] at h';exact c h'
structure Left(X:Cx)(aa:Ψ)(σ:St)(H':Hp)(s4:Shared)(C:Addr):Prop where
 ns:∃m,s4.heap.Ns C m
 far:X.s₀⁻¹<=C
 nl:C≠X.env.locals
 nc:∀x c,X.env.cells.lookup x=some c->c≠C
 np:∀p∈X.pn++aa,p.1≠C
 no:H' C=none
 back:∀h',Heap.SameBut C s4.heap h'->Inv X aa σ H' {s4 with heap:=h'}
def EA{use:Option (Value->Sem Unit)}{R:Ω}{pp:Pos}(hc:X.calm=true)(hk:scope.kind=.function)(aP:∀y∈scope.names,y.2=.cell->scope.names.lookup y.1=some .cell)(am:∀y∈scope.names,y.2=.free->scope.names.lookup y.1=some .free)(ao:∀y∈scope.names,y.2=.local->scope.names.lookup y.1=some .local)(hfr:∀y∈scope.names,y.2=.free->X.env.kindOf y.1=some .cell\/X.env.kindOf y.1=some .free)(hcap:lZ X.N N' aj scope)(hi:PI X tg iter wi)(hg:∀cl C s₀ H₀ ex,PG (cxD X scope N' cl C s₀ H₀ ex) tg g)(ht:∀cl C s₀ H₀ ex,gG (cxD X scope N' cl C s₀ H₀ ex) aG tc)(he:∀cl C s₀ H₀ ex,PE (cxD X scope N' cl C s₀ H₀ ex) aR te)(hs:∀x,foldedSetIterable iter X.env x=pure x){aa:Ψ}{s:Shared}{σ:St}{H:Hp}{Q:VK}(I:Inv X aa σ H s)(h:hX wi aj g tc te σ H Q)(fin:∀(D C:Addr)(H':Hp)(P:Shared)(f:Flow),Left X aa σ H' P C->Q (.ref D) H'->compPost (model X.prog X.w) X.A X.xe use R (.ref D) C (.ok f) P):wpAny (model X.prog X.w) X.A (comprehension (.ListComp aR [⟨tg,iter,aG,0⟩] scope pos) scope X.env pp (newList []) (firstAsync [⟨tg,iter,aG,0⟩]) (firstIter [⟨tg,iter,aG,0⟩] X.env) use) R X.xe s:=by
 have S:∀y∈scope.names,y.2=.free->∃c,X.env.cells.lookup y.1=some c:=fun y hy e=>I.ok.has y.1 (hfr y hy e);refine wpAny_comprehension_free (use:=use) rfl hs (LQ S) hk ao ?_;refine aT (hi aa s σ H _ I h) fun xv s1 h1=>aT h1 fun mP O h2=>?_;obtain⟨it,M,tn,J,H2,e,I2,T,bH,f2,q⟩:=h2;subst e;have j5:H2 O⁻¹=none:=I2.hok.fresh (Ad _);obtain⟨W,⟨m0,w0⟩,turn⟩:=q O⁻¹ j5;refine wpAny_newObj_type (LR fun aN cS bZ bT=>?_);dsimp only at cS bZ bT ⊢;generalize hD:O⁻¹=D at *;obtain⟨l,e3⟩:∃l:Shared,l={O with heap:=O.heap.push {cls:=.type "list",dict:=none,data:=.seq ([]:List Value).toArray}}:=⟨_,rfl⟩;have h3:l.heap=O.heap.push {cls:=.type "list",dict:=none,data:=.seq ([]:List Value).toArray}:=by rw[e3]
 rw[<-h3] at cS bZ bT ⊢;have U:l⁻¹=D+1:=by rw[h3,Heap.size_push,hD]
 have I3:Inv X aa σ (upd H2 D (.lst [])) l:=by
  rw[e3,<-hD];exact I2.lnew (t':=O.toks) (ys:=[]) .nil (Az _)
 obtain⟨Xc,E⟩:∃Xc,Xc=cxD X scope N' (cellsFrom (l⁻¹+1) scope.names (clOf X.env.cells scope.names [])) l⁻¹ l (upd H2 D (.lst [])) M:=⟨_,rfl⟩;have sG:PG Xc tg g:=by rw[E];exact hg _ _ _ _ _
 have ht':gG Xc aG tc:=by rw[E];exact ht _ _ _ _ _
 have he':PE Xc aR te:=by rw[E];exact he _ _ _ _ _
 have xP:Xc.prog=X.prog:=by rw[E];rfl
 have xw:Xc.w=X.w:=by rw[E];rfl
 have xK:Xc.K=X.K:=by rw[E];rfl
 have xA:Xc.A=X.A:=by rw[E];rfl
 have xc:Xc.calm=true:=by rw[E];exact hc
 have xe:Xc.env=compEnvC scope (cellsFrom (l⁻¹+1) scope.names (clOf X.env.cells scope.names [])) l⁻¹ X.env:=by rw[E];rfl
 have xE:Xc.xe=fun _ _=>False:=by rw[E];rfl
 have G:∀x c,(cellsFrom (l⁻¹+1) scope.names (clOf X.env.cells scope.names [])).lookup x=some c->(X.env.cells.lookup x=some c/\scope.names.lookup x=some .free)\/(scope.names.lookup x=some .cell/\l⁻¹+1<=c/\aN.IsCell c none):=fun x c e=>by
  rcases bT x c (PySem.mem_of_lookup e) with q|⟨q1,q2,q3⟩
  ·obtain⟨q4,q5⟩:=CP S (fun p hp=>absurd hp (by simp)) q
   exact .inl ⟨q4,am _ q5 rfl⟩
  ·exact .inr ⟨aP _ q1 rfl,q2,q3⟩
 have hlow:∀p∈clOf X.env.cells scope.names [],p.2<l⁻¹+1:=fun p hp=>by
  obtain⟨q4,_⟩:=CP S (fun p hp=>absurd hp (by simp)) (x:=p.1) (c:=p.2) hp;obtain⟨v,o,ho,_⟩:=I3.cell p.1 p.2 q4;exact Nat.lt_succ_of_lt (Ax ho)
 have Y:∀b∈M,b≠D/\b<D:=fun b hb=>by
  obtain⟨ob,eb,_⟩:=T.obj 0 _ bH b hb;have:=Ax eb;rw[hD] at this;exact⟨AD this,this⟩
 have hfs:∀b∈frs X.stack,b<D:=fun b hb=>by
  obtain⟨_,ob,eb,_⟩:=I2.stack.mem hb;have:=Ax eb;rw[hD] at this;exact this
 have F:∀b o,l.heap.get? b=some o->aN.get? b=some o:=bZ;have wk:(upd H2 D (.lst [])) l⁻¹=none:=I3.hok.fresh (Ad _);have Ic:Inv Xc aa (tY aj σ) (upd H2 D (.lst [])) {l with heap:=aN}:=by
  have okc:Xc.Ok:=by
   rw[E];refine⟨I.ok.mod,hk,I.ok.glob,I.ok.blt,Ad _,fun x y c a b=>Ex scope.names _ _ (fun x y c p q=>I.ok.inj x y c (CP S (fun p hp=>absurd hp (by simp)) p).1 (CP S (fun p hp=>absurd hp (by simp)) q).1) hlow x y c (PySem.mem_of_lookup a) (PySem.mem_of_lookup b),fun x hx=>?_,(fun x c a e=>by
    rcases G x c e with ⟨_,q⟩|⟨_,q,_⟩
    ·have a':=of_decide_eq_true a
     rw[q] at a';cases a'
    ·exact Nat.le_of_succ_le q),I.ok.hd,I.ok.frames,.inl rfl,fun b hb=>⟨?_,fun x c e=>?_⟩,fun b o e=>?_,?_,fun b o e z=>?_,fun b hb z=>?_,?_,fun b hb=>?_⟩
   ·have rA:(relabel scope X.env).names.lookup x=some .cell\/(relabel scope X.env).names.lookup x=some .free:=hx
    have key:∃k',scope.names.lookup x=some k'/\(k'=.free\/k'=.cell):=by
     rcases rA with q|q
     ·obtain⟨k',e1,e2⟩:=Ez q
      rcases e2 with e2|⟨e2,_⟩
      ·exact⟨k',e1,.inr e2.symm⟩
      ·exact⟨k',e1,.inl e2⟩
     ·obtain⟨k',e1,e2⟩:=Ez q
      rcases e2 with e2|⟨e2,_⟩
      ·exact⟨k',e1,.inl e2.symm⟩
      ·exact⟨k',e1,.inl e2⟩
    obtain⟨k',e1,e2⟩:=key;have hm:=PySem.mem_of_lookup e1;rcases e2 with rfl|rfl
    ·obtain⟨c,j4⟩:=CO (cells:=X.env.cells) (acc:=[]) (.inl hm)
     obtain⟨d,hd⟩:=Ev j4;exact Option.isSome_iff_exists.mp (PySem.W.cellsFrom_some scope.names (l⁻¹+1) _ (.inr (by rw[hd];rfl)))
    ·exact Option.isSome_iff_exists.mp (PySem.W.cellsFrom_some scope.names (l⁻¹+1) _ (.inl e1))
   ·show b≠l⁻¹
    exact AD (by rw[U];exact Nat.lt_succ_of_lt (Y b hb).2)
   ·rcases G x c e with ⟨q,_⟩|⟨_,q,_⟩
    ·exact(f2 b hb).2.2.2.2.1 x c q
    ·have h1:b<l⁻¹+1:=by rw[U];exact Nat.lt_succ_of_lt (Nat.lt_succ_of_lt (Y b hb).2)
     exact Nat.ne_of_gt (AE h1 q)
   ·exact I3.bs b o e
   ·exact Af I.ok.bsz I3.sz
   ·obtain⟨f,_,_,fx,_,_⟩:=f2 b z
    rcases fx with fx|fx
    ·exact I.ok.noex b o e fx
    ·have:=AE (Ax e) I.ok.bsz
     (first|lia|omega)
   ·rcases List.mem_cons.mp (I2.stkSub b z) with r|r
    ·exact(f2 b hb).2.1 r
    ·exact(f2 b hb).2.2.1 r
   ·exact I3.stack
   ·exact I3.stkFree b hb
  refine⟨okc,(by rw[E];rfl),I3.bare,?_,?_,fun x c e=>?_,?_,fun x c e=>?_,fun p hp=>?_,?_,?_⟩
  ·rw[E]
   exact Un.kept F
  ·rw[xe]
   refine⟨_,cS,fun i x v e1 e2 e3=>?_⟩;obtain⟨c1,c2⟩:=hcap;unfold tY at e2;rw[Aj] at e2;cases e4:aj[i]? with
   |none=>rw[e4] at e2;cases e2
   |some cc=>
    rw[e4] at e2;cases cc with
    |none=>cases e2
    |some j=>
     obtain⟨y,d1,d2,d3⟩:=c2 i j e4;have qM:N'[i]?=some x:=by rw[E] at e1;exact e1
     rw[d1] at qM;have uU:y=x:=AR qM;subst uU;have e5:σ[j]?=some (some v):=by
      simp only[Option.map_some,Option.some.injEq] at e2;cases e6:σ[j]? with
      |none=>rw[e6] at e2;cases e2
      |some ov=>rw[e6] at e2;simp only[Option.getD_some] at e2;rw[e2]
     have hm:=PySem.mem_of_lookup d3;have rh:B6 X.env.scope y:=by
      rcases hfr _ hm rfl with q|q
      ·exact .inr (.inl q)
      ·exact .inr (.inr q)
     obtain⟨m,_,hl⟩:=I3.loc;obtain⟨u,ru,lk⟩:=hl j y v d2 e5 rh;refine⟨u,ru,?_⟩;have vZ:∃c,X.env.cells.lookup y=some c/\l.heap.IsCell c (some u):=by
      rcases lk with ⟨k1,_⟩|⟨_,c,k2,k3⟩
      ·rcases hfr _ hm rfl with q|q
       ·rw[k1] at q;cases q
       ·rw[k1] at q;cases q
      ·exact⟨c,k2,k3⟩
     obtain⟨c,k2,k3⟩:=vZ;obtain⟨d,hd'⟩:=CO (cells:=X.env.cells) (acc:=[]) (.inl hm);obtain⟨d',h_⟩:=Ev hd';obtain⟨d2,hd3⟩:=Option.isSome_iff_exists.mp (PySem.W.cellsFrom_some scope.names (l⁻¹+1) (clOf X.env.cells scope.names []) (x:=y) (.inr (by rw[h_];rfl)));have:c=d2:=by
      rcases G y d2 hd3 with ⟨q,_⟩|⟨q,_⟩
      ·rw[k2] at q
       exact AR q
      ·rw[d3] at q;cases q
     subst this;refine .inr ⟨?_,c,hd3,k3.keeps F⟩;have rl:=Ey (scope:=scope) (env:=X.env) (x:=y) (names:=scope.names) (.inl d3);rcases rl with q|q
     ·exact .inr q
     ·exact .inl q
  ·rw[xe] at e
   rcases G x c e with ⟨q,_⟩|⟨_,_,q⟩
   ·obtain⟨v,k3⟩:=I3.cell x c q
    exact⟨v,k3.keeps F⟩
   ·exact⟨_,q⟩
  ·rw[xe];exact wk
  ·rw[xe] at e
   rcases G x c e with ⟨q,_⟩|⟨_,q,_⟩
   ·exact I3.freeC x c q
   ·exact I3.hok.fresh (Nat.le_of_succ_le q)
  ·have hp':p∈X.pn++aa:=by rw[E] at hp;exact hp
   obtain⟨a1,a2,a3,a4,a5⟩:=I3.pin p hp';refine⟨F _ _ a1,a2,?_,?_,a5⟩
   ·rw[xe]
    show p.1≠l⁻¹;exact AD (Ax a1)
   ·rw[E]
    intro z;rcases List.mem_cons.mp (I3.stkSub p.1 z) with r|r
    ·exact a3 r
    ·exact a4 r
  ·rw[xP,xw]
   exact I3.hok.kept F
  ·unfold tY
   rw[Aa,hcap.1,E]
   rfl
 have leave:∀{L:St}{H':Hp}{P:Shared}{h':Heap},Inv Xc aa L H' P->Heap.SameBut l⁻¹ P.heap h'->Inv X aa σ H' {P with heap:=h'}:=fun{L H' P h'} I4 ay=>by
  have hlt:∀b o,O.heap.get? b=some o->b≠D/\b≠l⁻¹:=fun b o e=>by
   have hb:=Ax e;rw[hD] at hb;exact⟨AD hb,AD (by rw[U];exact Nat.lt_succ_of_lt hb)⟩
  have up3:∀b o,O.heap.get? b=some o->l.heap.get? b=some o:=fun b o e=>by rw[h3];exact Ai _ e
  have base:Un (frs X.stack) M (upd H2 D (.lst [])) H' l.heap P.heap:=by
   have:=I4.base;rw[E] at this;exact this
  have hCn:H' l⁻¹=none:=by
   have:=I4.free;rw[xe] at this;exact this
  have os4:P.os=O.os:=by
   have:=I4.os;rw[E] at this;rw[this];show l.os=O.os;rw[e3]
  refine I2.call' (s':={P with heap:=h'}) (ch:=M) os4 ⟨fun b o q n hb hx=>?_,fun b o q n hb hx=>?_,fun b o q n hx=>?_,fun b o q hx=>?_,fun b xs q=>?_,fun b o u q=>?_,fun b ps q=>?_⟩ ?_ I4.bare fun b hb=>?_
  ·obtain⟨n1,n2⟩:=hlt b o q
   exact(ay.2 b n2).trans (base.keep b o (up3 b o q) (by rw[af n1];exact n) hb hx)
  ·obtain⟨n1,n2⟩:=hlt b o q
   obtain⟨sl,e⟩:=base.slot b o (up3 b o q) (by rw[af n1];exact n) hb hx;exact⟨sl,(ay.2 b n2).trans e⟩
  ·obtain⟨n1,n2⟩:=hlt b o q
   exact base.free b o (up3 b o q) (by rw[af n1];exact n) hx
  ·obtain⟨n1,n2⟩:=hlt b o q
   obtain⟨o',e⟩:=base.there b o (up3 b o q) hx;exact⟨o',(ay.2 b n2).trans e⟩
  ·exact base.tups b xs (by rw[af (zk q j5)];exact q)
  ·exact base.frzs b o u (by rw[af (zk q j5)];exact q)
  ·exact base.tbls b ps (by rw[af (zk q j5)];exact q)
  ·intro b u e
   have pX:=I4.hok b u e;rw[xP,xw] at pX;refine pX.stay (fun c v hc q=>(ay.2 c ?_).trans q) (fun _ q=>q) fun _ _ q=>q;rintro rfl;rcases hc with z|z
   ·rw[<-z,hCn] at e;cases e
   ·rw[hCn] at z;cases z
  ·obtain⟨f0,f1,f3,f4,f5,f6⟩:=f2 b hb
   exact⟨f4,f1,f5,f6⟩
 have Z:∀{H':Hp},(∀b∈M,H' b=none)->∀b∈M,cv Xc aa H' b:=fun{H'} hn b hb=>by
  obtain⟨f0,f1,f3,f4,f5,f6⟩:=f2 b hb;refine⟨hn b hb,?_,?_,.inl (by rw[E];exact hb),fun x c e=>?_,fun p hp=>?_⟩
  ·rw[xe]
   show b≠l⁻¹;exact AD (by rw[U];exact Nat.lt_succ_of_lt (Y b hb).2)
  ·rw[E]
   intro z;rcases List.mem_cons.mp (I2.stkSub b z) with r|r
   ·exact f1 r
   ·exact f3 r
  ·rw[xe] at e
   rcases G x c e with ⟨q,_⟩|⟨_,q,_⟩
   ·exact f5 x c q
   ·have h1:b<l⁻¹+1:=by rw[U];exact Nat.lt_succ_of_lt (Nat.lt_succ_of_lt (Y b hb).2)
    exact Nat.ne_of_gt (AE h1 q)
  ·rw[E] at hp
   exact f6 p hp
 subst E;have iO:∀n s',(∃i L H',Inv (cxD X scope N' (cellsFrom (l⁻¹+1) scope.names (clOf X.env.cells scope.names [])) l⁻¹ l (upd H2 D (.lst [])) M) aa L H' s'/\tn i s'.heap/\(∀b∈M,H' b=none)/\W i n L H')->
   codeAny (model X.prog X.w) X.A (.compLoop (.ListComp aR [⟨tg,iter,aG,0⟩] scope pos) 0 (.ref it) (.ref D) (compEnvC scope (cellsFrom (l⁻¹+1) scope.names (clOf X.env.cells scope.names [])) l⁻¹ X.env)) (compPost (model X.prog X.w) X.A X.xe use R (.ref D) l⁻¹) s':=by
  intro n0 yQ vG;refine codeAny_loop rfl (fun n s'=>∃i L H',Inv (cxD X scope N' (cellsFrom (l⁻¹+1) scope.names (clOf X.env.cells scope.names [])) l⁻¹ l (upd H2 D (.lst [])) M) aa L H' s'/\tn i s'.heap/\(∀b∈M,H' b=none)/\W i n L H') (fun n s' hI=>?_) n0 vG;obtain⟨i,L,H',I',ae,di,w'⟩:=hI;show wpAny _ X.A ((compTurn (.ListComp aR [⟨tg,iter,aG,0⟩] scope pos) 0 (.ref it) (.ref D) (compEnvC scope (cellsFrom (l⁻¹+1) scope.names (clOf X.env.cells scope.names [])) l⁻¹ X.env)).onRaise (fun x=>do noteFrame x (compEnvC scope (cellsFrom (l⁻¹+1) scope.names (clOf X.env.cells scope.names [])) l⁻¹ X.env);theTreesLotGoes x)) _ _ s';refine wpAny_noted ?_;rw[compTurn_list];refine Ae (wpAny_standAt (Ae ?_));rcases turn i n L H' w' with ⟨stop,qn⟩|⟨go,step⟩
  ·refine aT (T.done (cxD X scope N' (cellsFrom (l⁻¹+1) scope.names (clOf X.env.cells scope.names [])) l⁻¹ l (upd H2 D (.lst [])) M) rfl rfl rfl hc i aa s' L H' _ I' (Z di) ae stop) fun r P ⟨hr,I4⟩=>?_
   subst hr;refine An ?_;obtain⟨m,hn,_⟩:=id I4.loc;refine fin D _ H' P _ ⟨⟨m,hn⟩,I3.sz,fun e=>?_,fun x c e=>?_,fun p hp=>AD (Ax (I3.pin p hp).1),I4.free,fun h' ay=>leave I4 ay⟩ qn
   ·obtain⟨m3,r9,_⟩:=I3.loc
    obtain⟨o3,_,_,mJ,_⟩:=r9;exact absurd e.symm (AD (Ax mJ))
   ·obtain⟨v,hv⟩:=I3.cell x c e
    obtain⟨o3,mJ,_⟩:=hv;exact AD (Ax mJ)
  ·refine aT (T.item (cxD X scope N' (cellsFrom (l⁻¹+1) scope.names (clOf X.env.cells scope.names [])) l⁻¹ l (upd H2 D (.lst [])) M) rfl rfl rfl hc i aa s' L H' _ I' (Z di) ae go) fun r P ⟨u,hr,h4⟩=>?_
   subst hr;refine Ae (aT h4 fun _ s5 ⟨x,H5,I5,r5,y5,st5,fr5⟩=>?_);have kW:=I5.pinned (Z fr5) (T.obj _ _ st5);refine Ae (wpAny_mono (sG _ s5 L H5 x u _ kW r5 (step x H5 y5)) (fun _ s6 h6=>?_) fun _ _ z=>z.elim);obtain⟨jh,H6,I6,q6⟩:=h6;refine Ae (wpAny_mono (ht' _ s6 jh H6 _ I6 q6) (fun ok s7 h7=>?_) fun _ _ z=>z.elim);obtain⟨H7,I7,q7⟩:=h7;have again:∀{jR:St}{H8:Hp}{s8:Shared}{m':Nat},Inv (cxD X scope N' (cellsFrom (l⁻¹+1) scope.names (clOf X.env.cells scope.names [])) l⁻¹ l (upd H2 D (.lst [])) M) (aa++rx M s5.heap) jR H8 s8->m'<n->W (i+1) m' jR H8->
     ∃m,m<n/\∃i L H',Inv (cxD X scope N' (cellsFrom (l⁻¹+1) scope.names (clOf X.env.cells scope.names [])) l⁻¹ l (upd H2 D (.lst [])) M) aa L H' s8/\tn i s8.heap/\(∀b∈M,H' b=none)/\W i m L H':=fun{jR H8 s8 m'} I8 hm w8=>by
    refine⟨m',hm,i+1,jR,H8,I8.unpinned,T.keep _ _ _ st5 fun b hb o e=>(I8.pin (b,o) (AF _ (AF _ (Cz hb e)))).1,fun b hb=>?_,w8⟩;obtain⟨o,e,d⟩:=T.obj _ _ st5 b hb;exact(I8.pin (b,o) (AF _ (AF _ (Cz hb e)))).2.1
   cases ok with
   |false=>
    obtain⟨m',hm,w7⟩:=q7;exact An ⟨rfl,again I7 hm w7⟩
   |true=>
    refine Ae (Ae (wpAny_mono (he' _ s7 jh H7 _ I7 q7) (fun v s8 h8=>?_) fun _ _ z=>z.elim));obtain⟨y,H8,I8,r8,ys,m',nh,qu,yq,w8⟩:=h8;refine Ae (wpAny_mono (ti (X:=cxD X scope N' (cellsFrom (l⁻¹+1) scope.names (clOf X.env.cells scope.names [])) l⁻¹ l (upd H2 D (.lst [])) M) _ s8 jh H8 (.ref D) [y] (.ref D) [v] (fun _ H9=>H9=upd H8 D (.lst (ys++[y]))) I8 rfl (.cons r8 .nil) ⟨D,ys,y,rfl,rfl,nh,qu,rfl⟩) (fun _ s9 h9=>?_) fun _ _ z=>z.elim);obtain⟨_,H9,I9,_,e9⟩:=h9;subst e9;exact An (An ⟨rfl,again I9 yq w8⟩)
 have start:∃i L H',Inv (cxD X scope N' (cellsFrom (l⁻¹+1) scope.names (clOf X.env.cells scope.names [])) l⁻¹ l (upd H2 D (.lst [])) M) aa L H' {l with heap:=aN}/\tn i ({l with heap:=aN}:Shared).heap/\(∀b∈M,H' b=none)/\W i m0 L H':=by
  refine⟨0,tY aj σ,upd H2 D (.lst []),Ic,T.keep 0 _ _ bH fun b hb o e=>F b o (by rw[h3];exact Ai _ e),fun b hb=>?_,w0⟩;rw[af (Y b hb).1];exact(f2 b hb).1
 have es:({O with heap:=aN}:Shared)={l with heap:=aN}:=by rw[e3]
 show codeAny (model X.prog X.w) X.A _ _ ({O with heap:=aN}:Shared);rw[es];refine codeAny_compStart_list (iO m0 _ start) (T.self _ 0 _ _ _ ?_ (iO m0 _ start));exact T.keep 0 _ _ bH fun b hb o e=>F b o (by rw[h3];exact Ai _ e)
def ou(b:∀y∈scope.names,y.2≠.cell)(a:List (Str×Addr))(C:Addr)(s₀:Shared)(H₀:Hp)(ex:List Addr):eA X scope N' a C s₀ H₀ ex=cxD X scope N' a C s₀ H₀ ex:=by
 unfold cxD;have:(fun x=>decide (scope.names.lookup x=some NameKind.cell))=fun _=>false:=by
  funext x
  exact decide_eq_false fun e=>b _ (PySem.mem_of_lookup e) rfl
 rw[this]
 rfl
def LU{use:Option (Value->Sem Unit)}{R:Ω}{pp:Pos}(hc:X.calm=true)(hk:scope.kind=.function)(c:∀y∈scope.names,y.2≠.cell)(i:∀y∈scope.names,y.2=.free->scope.names.lookup y.1=some .free)(j:∀y∈scope.names,y.2=.local->scope.names.lookup y.1=some .local)(hfr:∀y∈scope.names,y.2=.free->X.env.kindOf y.1=some .cell\/X.env.kindOf y.1=some .free)(b:lZ X.N N' aj scope)(hi:PI X tg iter wi)(hg:∀a C s₀ H₀ ex,PG (eA X scope N' a C s₀ H₀ ex) tg g)(l:∀a C s₀ H₀ ex,gG (eA X scope N' a C s₀ H₀ ex) aG tc)(o:∀a C s₀ H₀ ex,PE (eA X scope N' a C s₀ H₀ ex) aR te)(p:∀x,foldedSetIterable iter X.env x=pure x){aa:Ψ}{s:Shared}{σ:St}{H:Hp}{Q:VK}(I:Inv X aa σ H s)(h:hX wi aj g tc te σ H Q)(fin:∀(D C:Addr)(H':Hp)(d:Shared)(f:Flow),Left X aa σ H' d C->Q (.ref D) H'->compPost (model X.prog X.w) X.A X.xe use R (.ref D) C (.ok f) d):wpAny (model X.prog X.w) X.A (comprehension (.ListComp aR [⟨tg,iter,aG,0⟩] scope pos) scope X.env pp (newList []) (firstAsync [⟨tg,iter,aG,0⟩]) (firstIter [⟨tg,iter,aG,0⟩] X.env) use) R X.xe s:=
 EA hc hk (fun y hy e=>absurd e (c y hy)) i j hfr b hi (fun a C s₀ H₀ ex=>ou (X:=X) (N':=N') c a C s₀ H₀ ex▸hg a C s₀ H₀ ex) (fun a C s₀ H₀ ex=>ou (X:=X) (N':=N') c a C s₀ H₀ ex▸l a C s₀ H₀ ex) (fun a C s₀ H₀ ex=>ou (X:=X) (N':=N') c a C s₀ H₀ ex▸o a C s₀ H₀ ex) p I h fin
def LV(hc:X.calm=true)(hk:scope.kind=.function)(c:∀y∈scope.names,y.2≠.cell)(i:∀y∈scope.names,y.2=.free->scope.names.lookup y.1=some .free)(j:∀y∈scope.names,y.2=.local->scope.names.lookup y.1=some .local)(hfr:∀y∈scope.names,y.2=.free->X.env.kindOf y.1=some .cell\/X.env.kindOf y.1=some .free)(b:lZ X.N N' aj scope)(hi:PI X tg iter wi)(hg:∀a C s₀ H₀ ex,PG (eA X scope N' a C s₀ H₀ ex) tg g)(l:∀a C s₀ H₀ ex,gG (eA X scope N' a C s₀ H₀ ex) aG tc)(o:∀a C s₀ H₀ ex,PE (eA X scope N' a C s₀ H₀ ex) aR te)(p:∀x,foldedSetIterable iter X.env x=pure x:=by intro _;rfl):PE X (.ListComp aR [⟨tg,iter,aG,0⟩] scope pos) (hX wi aj g tc te):=by
 intro aa s σ H Q I h;rw[eval_ListComp];refine LU (use:=none) hc hk c i j hfr b hi hg l o p I h fun D C H' r f L q=>?_;obtain⟨m,e⟩:=L.ns;exact⟨m,e,fun h' d=>⟨.ref D,H',L.back h' d,rfl,q⟩⟩
end
end L2
end
section
namespace Zp
open PySem PySem.Spec PyProof.Rows
section
variable{prog:Program}{w:World}{A:Around}{E:Ω}{s:Shared}
def LW{it t:Addr}{i:Nat}{c:Array Value}{x:Value}{Q:Ω}(b:s.heap.IsTupleIter it t i)(f:s.heap.IsTuple t c)(hx:c[i]?=some x)(g:∀h',h'.IsTupleIter it t (i+1)->Heap.SameBut it s.heap h'->Q x {s with heap:=h'}):wpAny (model prog w) A (Builtin.SmallTypes.nextOf (.ref it)) Q E s:=by
 obtain⟨o,a,hc,hd⟩:=id b;obtain⟨h,d,_,j,e⟩:=f;unfold Builtin.SmallTypes.nextOf;refine Ae (wpAny_callSpecial?_slot (name:=Str.ofString "__next__") b.typeIs F.slot_tuple_iterator_next (wpAny_call_entry F.slot_tuple_iterator_next b.typeIs F.entry_tuple_iterator_next ?_ (F.args_tuple_iterator_next_1 _)));show wpAny _ _ (field (.ref it) 0 >>= _) _ _ s;refine Ae (wpAny_field a hd (x:=.ref t) rfl ?_);show wpAny _ _ (if(Value.ref t==Value.none)=true then _ else _) _ _ s;rw[if_neg (show ¬((Value.ref t==Value.none)=true) from AK)];show wpAny _ _ (field (.ref it) 1 >>= _) _ _ s;refine Ae (wpAny_field a hd (x:=.int i 0) rfl ?_);show wpAny _ _ (seqItems? (.ref t) >>= _) _ _ s;refine Ae (wpAny_seqItems d e ?_);simp only[Int.toNat_natCast,hx];refine Ae (wpAny_setField a hd (by simp) (An ⟨x,rfl,An (g _ ?_ (Heap.SameBut.update ..))⟩));exact⟨_,Heap.get?_update_self _ a (Obj.isFreed_of_fields (Obj.data_mapFields hd _)),(Obj.cls_mapFields ..).trans hc,by
  rw[Obj.data_mapFields hd];simp[rawInt]⟩
def LX{it t:Addr}{i:Nat}{d:Array Value}{Q:Ω}(f:A.handled=none)(c:s.heap.IsTupleIter it t i)(j:s.heap.IsTuple t d)(hx:d[i]?=none)(l:∀h' e,Heap.ExtBut it s.heap h'->(∃o,h'.get? e=some o/\o.cls=.type "StopIteration")->E (.ref e) {s with heap:=h'}):wpAny (model prog w) A (Builtin.SmallTypes.nextOf (.ref it)) Q E s:=by
 obtain⟨o,b,hc,hd⟩:=id c;obtain⟨p,g,_,q,h⟩:=j;unfold Builtin.SmallTypes.nextOf;refine Ae (wpAny_callSpecial?_slot (name:=Str.ofString "__next__") c.typeIs F.slot_tuple_iterator_next (wpAny_call_entry F.slot_tuple_iterator_next c.typeIs F.entry_tuple_iterator_next ?_ (F.args_tuple_iterator_next_1 _)));show wpAny _ _ (field (.ref it) 0 >>= _) _ _ s;refine Ae (wpAny_field b hd (x:=.ref t) rfl ?_);show wpAny _ _ (if(Value.ref t==Value.none)=true then _ else _) _ _ s;rw[if_neg (show ¬((Value.ref t==Value.none)=true) from AK)];show wpAny _ _ (field (.ref it) 1 >>= _) _ _ s;refine Ae (wpAny_field b hd (x:=.int i 0) rfl ?_);show wpAny _ _ (seqItems? (.ref t) >>= _) _ _ s;refine Ae (wpAny_seqItems g h ?_);simp only[Int.toNat_natCast,hx];refine Ae (wpAny_rule (Ae (wpAny_setField b hd (by simp) ?_)));show wpAny _ _ (newExc (.type "StopIteration") [] >>= _) _ _ _;refine Ae ?_;simp only[newExc,newTuple];refine Ae (wpAny_newObj_type ?_ (by size_fits));refine Ae (m:=firstArgMember _ _) (wpAny_of_eq (a:=Value.none) (by first|rfl|(simp only[firstArgMember];rfl)) ?_);refine wpAny_newObj_type ?_ (by size_fits);simp only[raiseNew];refine Ae (wpAny_handled ?_)
 first|rw[show A.in1.handled=none from f]|rw[f]
 refine Ae (An (wpAny_throw ?_));exact l _ _ (((Heap.SameBut.update ..).extBut.push _).push _) ⟨_,AI _ rfl,rfl⟩
end
def LY{h h':Heap}{a:Addr}{b:Array Value}(x:h.IsTuple a b)(e:∀o,h.get? a=some o->h'.get? a=some o):h'.IsTuple a b:=let ⟨o,ho,r⟩:=x;⟨o,e o ho,r⟩
def Hz{prog:Program}{w:World}{A:Around}(j:A.handled=none)(it t:Addr)(b:t≠it)(a:Array Value):Draws prog w A it [it,t] a.size (fun i v=>a[i]?=some v) (fun i h=>h.IsTupleIter it t i/\h.IsTuple t a) where
 live:=fun _ _ st=>let ⟨o,ho,_⟩:=st.1;⟨o,ho⟩
 frame:=fun _ _ _ st hk=>⟨st.1.at fun o e=>hk it (by simp) o e,LY st.2 fun o e=>hk t (by simp) o e⟩
 item:=fun i s Q E hi st d=>by
  refine LW st.1 st.2 (x:=a[i]) (by simp[hi]) fun h' f c=>?_;exact d _ h' s.toks (by simp[hi]) ⟨f,st.2.extBut c.extBut b⟩ c
 done:=fun s Q E st g=>LX j st.1 st.2 (by simp) g
structure Apart(z TI TO i1 i2:Addr)(bS ce:List Addr):Prop where
 z1:z∉bS
 z2:z∉ce
 o1:TO∉bS
 o2:TO∉ce
 m1:i1∈bS
 m2:i2∈ce
 x12:i1∉ce
 x21:i2∉bS
 TIz:TI≠z
 TOz:TO≠z
 TITO:TI≠TO
 TIi1:TI≠i1
 TIi2:TI≠i2
section
variable{prog:Program}{w:World}{A:Around}{E:Ω}{s:Shared}{z TI TO i1 i2:Addr}{bS ce:List Addr}{n1 n2 i:Nat}{P1 P2:Nat->Value->Prop}{S1 S2:Nat->Heap->Prop}{a b:Value}
def LZ{Q:Ω}(D1:Draws prog w A i1 bS n1 P1 S1)(D2:Draws prog w A i2 ce n2 P2 S2)(D:Apart z TI TO i1 i2 bS ce)(hz:IsZip s.heap z TI TO .none)(dy:IsPair s.heap TI (.ref i1) (.ref i2))(du:IsPair s.heap TO a b)(h1:S1 i s.heap)(h2:S2 i s.heap)(l1:i<n1)(l2:i<n2)(hQ:∀x y h' tk,P1 i x->P2 i y->IsZip h' z TI TO (rawInt s⁻¹)->IsPair h' TO x y->S1 (i+1) h'->S2 (i+1) h'->IsPair h' s⁻¹ x y->h'.objs.size=s⁻¹+1->
   (∀c o,c≠z->c≠TO->c≠i1->c≠i2->s.heap.get? c=some o->h'.get? c=some o)->Q (.ref s⁻¹) {s with heap:=h',toks:=tk}):
  wpAny (model prog w) A (Builtin.«zip.__next__» ⟨[.ref z],[]⟩) (fun fin s'=>∃v,fin=.done (.ret v)/\Q v s') E s:=by
 have f:∀c∈bS,c≠z:=fun c hc e=>D.z1 (e▸hc);have N:∀c∈ce,c≠z:=fun c hc e=>D.z2 (e▸hc);have O:∀c∈bS,c≠TO:=fun c hc e=>D.o1 (e▸hc);have P:∀c∈ce,c≠TO:=fun c hc e=>D.o2 (e▸hc);have nR:∀c∈ce,c≠i1:=fun c hc e=>D.x12 (e▸hc);have sV:∀c∈bS,c≠i2:=fun c hc e=>D.x21 (e▸hc);have j6:i1≠z:=f _ D.m1;have lD:i2≠z:=N _ D.m2;have gP:TO≠i1:=(O _ D.m1).symm;have kO:TO≠i2:=(P _ D.m2).symm;show wpAny _ _ (field (.ref z) 2 >>= _) _ _ _;refine Ae (wpAny_field hz rfl (x:=.bool false) rfl ?_);show wpAny _ _ (field (.ref z) 3 >>= _) _ _ _;refine Ae (wpAny_field hz rfl (x:=.ref TI) rfl ?_);refine Ae (wpAny_seqItems dy rfl ?_);show wpAny _ _ (Builtin.SmallTypes.ownedTupleIsFree (.ref z) >>= _) _ _ _;refine Ae ?_;unfold Builtin.SmallTypes.ownedTupleIsFree;refine Ae (wpAny_field hz rfl (x:=.none) rfl (An ?_));simp only[if_true];refine Ae (wpAny_rule ?_);refine Ae (wpAny_field hz rfl (x:=.ref TO) rfl ?_);refine Ae (wpAny_setField_rec hz (by simp) fun g1 F g=>?_);replace F:IsZip g1 z TI TO .ellipsis:=F;refine Ae ?_;simp only[List.zipIdx_cons,List.zipIdx_nil,List.forIn_cons,List.forIn_nil];refine Ae (Ae (wpAny_onRaise ?_));show wpAny _ _ (Builtin.SmallTypes.nextOf (.ref i1) >>= _) _ _ _;refine Ae (D1.item i _ _ _ l1 (D1.frame _ _ _ h1 fun c hc o e=>g.extBut c o (f c hc) e) fun x g2 x6 Z s2 h=>An ?_);have S:IsPair g2 TO a b:=h.extBut _ _ gP (g.extBut _ _ D.TOz du);refine Ae (wpAny_seqItems S rfl ?_);refine Ae (wpAny_updateSeq_pair S fun g3 G j=>?_);replace G:IsPair g3 TO x b:=G;refine Ae (wpAny_letGo (An ?_));refine Ae (Ae (wpAny_onRaise ?_));show wpAny _ _ (Builtin.SmallTypes.nextOf (.ref i2) >>= _) _ _ _;refine Ae (D2.item i _ _ _ l2 (D2.frame _ _ _ h2 fun c hc o e=>j.extBut c o (P c hc) (h.extBut c o (nR c hc) (g.extBut c o (N c hc) e))) fun y g4 Ca py s4 l=>An ?_);have T:IsPair g4 TO x b:=l.extBut _ _ kO G;refine Ae (wpAny_seqItems T rfl ?_);refine Ae (wpAny_updateSeq_pair T fun d r p=>?_);replace r:IsPair d TO x y:=r;refine Ae (wpAny_letGo (An (An ?_)));refine Ae (wpAny_seqItems r rfl ?_);refine Ae (wpAny_newTuple ?_);have hsz:d.objs.size=s⁻¹:=by rw[p.1,l.1,j.1,h.1,g.1]
 have U:IsZip d z TI TO .ellipsis:=p.extBut _ _ D.TOz.symm (l.extBut _ _ lD.symm (j.extBut _ _ D.TOz.symm (h.extBut _ _ j6.symm F)));have kk:∀c o,c≠z->c≠TO->c≠i1->c≠i2->s.heap.get? c=some o->d.get? c=some o:=fun c o c1 u H I e=>
  p.extBut _ _ u (l.extBut _ _ I (j.extBut _ _ u (h.extBut _ _ H (g.extBut _ _ c1 e))))
 have d1:S1 (i+1) d:=D1.frame _ _ _ s2 fun c hc o e=>p.extBut c o (O c hc) (l.extBut c o (sV c hc) (j.extBut c o (O c hc) e));have d2:S2 (i+1) d:=D2.frame _ _ _ s4 fun c hc o e=>p.extBut c o (P c hc) e;have W:z<d.objs.size:=Ax U;have e1:∀c∈bS,∀o,d.get? c=some o->c<d.objs.size:=fun c _ o e=>Ax e;show wpAny _ _ (Builtin.SmallTypes.ownedTupleHandOut (.ref z) (.ref d.objs.size) >>= _) _ _ _;refine Ae ?_;unfold Builtin.SmallTypes.ownedTupleHandOut;have z6:IsZip (d.push {cls:=.type "tuple",data:=.seq #[x,y]}) z TI TO .ellipsis:=Ai _ U;refine Ae (wpAny_setField_rec z6 (by simp) fun g7 J L=>?_);replace J:IsZip g7 z TI TO (rawInt d.objs.size):=J;refine wpAny_setField_rec J (by simp) fun q C M=>?_;replace C:IsZip q z TI TO (rawInt d.objs.size):=C;have up:∀c o,c≠z->d.get? c=some o->q.get? c=some o:=fun c o c1 e=>M.extBut _ _ c1 (L.extBut _ _ c1 (Ai _ e));have Y:IsPair q d.objs.size x y:=M.extBut _ _ (Nat.ne_of_gt W) (L.extBut _ _ (Nat.ne_of_gt W) (AI _ rfl));have X:q.objs.size=d.objs.size+1:=by rw[M.1,L.1,Heap.size_push]
 rw[hsz] at C Y X;refine An ⟨_,rfl,?_⟩;show Q (.ref d.objs.size) _;rw[hsz];exact hQ x y q _ Z py C (up _ _ D.TOz r) (D1.frame _ _ _ d1 fun c hc o e=>up c o (f c hc) e) (D2.frame _ _ _ d2 fun c hc o e=>up c o (N c hc) e) Y X fun c o c1 u H I e=>up c o c1 (kk c o c1 u H I e)
def L0{Q:Fin->Shared->Prop}(D1:Draws prog w A i1 bS n1 P1 S1)(D2:Draws prog w A i2 ce n2 P2 S2)(D:Apart z TI TO i1 i2 bS ce)(hz:IsZip s.heap z TI TO .none)(dy:IsPair s.heap TI (.ref i1) (.ref i2))(du:IsPair s.heap TO a b)(h1:S1 i s.heap)(h2:S2 i s.heap)(S:i=n1\/(i<n1/\i=n2))(M:∀h' e tk,(∀c o,c≠z->c≠TO->c≠i1->c≠i2->s.heap.get? c=some o->h'.get? c=some o)->(∃o,h'.get? e=some o/\o.cls=.type "StopIteration")->E (.ref e) {s with heap:=h',toks:=tk}):wpAny (model prog w) A (Builtin.«zip.__next__» ⟨[.ref z],[]⟩) Q E s:=by
 have l:∀c∈bS,c≠z:=fun c hc e=>D.z1 (e▸hc);have G:∀c∈ce,c≠z:=fun c hc e=>D.z2 (e▸hc);have U:∀c∈bS,c≠TO:=fun c hc e=>D.o1 (e▸hc);have W:∀c∈ce,c≠TO:=fun c hc e=>D.o2 (e▸hc);have X:∀c∈ce,c≠i1:=fun c hc e=>D.x12 (e▸hc);have H:i1≠z:=l _ D.m1;have Y:i2≠z:=G _ D.m2;have Z:TO≠i1:=(U _ D.m1).symm;show wpAny _ _ (field (.ref z) 2 >>= _) _ _ _;refine Ae (wpAny_field hz rfl (x:=.bool false) rfl ?_);show wpAny _ _ (field (.ref z) 3 >>= _) _ _ _;refine Ae (wpAny_field hz rfl (x:=.ref TI) rfl ?_);refine Ae (wpAny_seqItems dy rfl ?_);show wpAny _ _ (Builtin.SmallTypes.ownedTupleIsFree (.ref z) >>= _) _ _ _;refine Ae ?_;unfold Builtin.SmallTypes.ownedTupleIsFree;refine Ae (wpAny_field hz rfl (x:=.none) rfl (An ?_));simp only[if_true];refine Ae (wpAny_rule ?_);refine Ae (wpAny_field hz rfl (x:=.ref TO) rfl ?_);refine Ae (wpAny_setField_rec hz (by simp) fun g1 p h=>?_);replace p:IsZip g1 z TI TO .ellipsis:=p;refine Ae ?_;simp only[List.zipIdx_cons,List.zipIdx_nil,List.forIn_cons,List.forIn_nil];refine Ae (Ae (wpAny_onRaise ?_));have f1:=D1.frame _ _ _ h1 fun c hc o e=>h.extBut c o (l c hc) e;rcases S with u|⟨T,u⟩
 ·show wpAny _ _ (Builtin.SmallTypes.nextOf (.ref i1) >>= _) _ _ _
  refine Ae (D1.done _ _ _ (u▸f1) fun g2 e d q=>?_);obtain⟨v,f,j⟩:=q;have I:IsZip g2 z TI TO .ellipsis:=d _ _ H.symm p;have y:e≠z:=fun x=>by subst x;rw[I] at f;cases f;simp at j
  refine wpAny_setField_rec I (by simp) fun g3 _ g=>M g3 e _ (fun c o c1 _ r _ x=>g.extBut _ _ c1 (d _ _ r (h.extBut _ _ c1 x))) ⟨v,g.extBut _ _ y f,j⟩
 ·show wpAny _ _ (Builtin.SmallTypes.nextOf (.ref i1) >>= _) _ _ _
  refine Ae (D1.item i _ _ _ T f1 fun x g2 x6 px s2 d=>An ?_);have J:IsPair g2 TO a b:=d.extBut _ _ Z (h.extBut _ _ D.TOz du);refine Ae (wpAny_seqItems J rfl ?_);refine Ae (wpAny_updateSeq_pair J fun g3 t3 g=>?_);refine Ae (wpAny_letGo (An ?_));refine Ae (Ae (wpAny_onRaise ?_));have f2:S2 i g3:=D2.frame _ _ _ h2 fun c hc o e=>g.extBut c o (W c hc) (d.extBut c o (X c hc) (h.extBut c o (G c hc) e));show wpAny _ _ (Builtin.SmallTypes.nextOf (.ref i2) >>= _) _ _ _;refine Ae (D2.done _ _ _ (u▸f2) fun g4 e C q=>?_);obtain⟨v,f,j⟩:=q;have L:IsZip g4 z TI TO .ellipsis:=C _ _ Y.symm (g.extBut _ _ D.TOz.symm (d.extBut _ _ H.symm p));have y:e≠z:=fun x=>by subst x;rw[L] at f;cases f;simp at j
  refine wpAny_setField_rec L (by simp) fun N _ F=>M N e _ (fun c o c1 O r P x=>F.extBut _ _ c1 (C _ _ P (g.extBut _ _ O (d.extBut _ _ r (h.extBut _ _ c1 x))))) ⟨v,F.extBut _ _ y f,j⟩
end
def HA{prog:Program}{w:World}{A:Around}{z TI TO i1 i2:Addr}{bS ce:List Addr}{n1 n2:Nat}{P1 P2:Nat->Value->Prop}{S1 S2:Nat->Heap->Prop}(D1:Draws prog w A.in1 i1 bS n1 P1 S1)(D2:Draws prog w A.in1 i2 ce n2 P2 S2)(D:Apart z TI TO i1 i2 bS ce):WalksT prog w A z (z::TI::TO::(bS++ce)) [z,TO,i1,i2] (min n1 n2) (fun i u=>∃x y,P1 i x/\P2 i y/\u=#[x,y])
   (fun i h=>IsZip h z TI TO .none/\IsPair h TI (.ref i1) (.ref i2)/\(∃a b,IsPair h TO a b)/\S1 i h/\S2 i h)
   (fun i T h=>IsZip h z TI TO (rawInt T)/\IsPair h TI (.ref i1) (.ref i2)/\(∃a b,IsPair h TO a b)/\S1 (i+1) h/\S2 (i+1) h/\T≠z/\T≠TO/\T≠i1/\T≠i2) where
 sub:=fun c hc=>by
  simp at hc ⊢;rcases hc with rfl|rfl|rfl|rfl
  ·simp
  ·simp
  ·exact .inr (.inr (.inr (.inl D.m1)))
  ·exact .inr (.inr (.inr (.inr D.m2)))
 frame:=fun i h h' j hk=>by
  obtain⟨hz,f,⟨a,b,g⟩,h1,h2⟩:=j;exact⟨hk z (by simp) _ hz,hk TI (by simp) _ f,⟨a,b,hk TO (by simp) _ g⟩,D1.frame _ _ _ h1 fun c hc o e=>hk c (by simp[hc]) o e,D2.frame _ _ _ h2 fun c hc o e=>hk c (by simp[hc]) o e⟩
 item:=fun i s Q E hi j l=>by
  obtain⟨hz,f,⟨a,b,g⟩,h1,h2⟩:=j;have d:s.TypeIs (.ref z) "zip":=⟨_,hz,rfl⟩;unfold pyNext;refine Ae (wpAny_attempt (wpAny_callSpecial?_slot (name:=Str.ofString "__next__") d F.slot_zip_next (wpAny_call_entry F.slot_zip_next d F.entry_zip_next
   (LZ D1 D2 D hz f g h1 h2 (AE hi (Nat.min_le_left ..)) (AE hi (Nat.min_le_right ..)) fun x y h' tk v C a1 a2 a3 a4 a5 U hk=>An ?_) (F.args_zip_next_1 _))))
  have lt:∀{c o},s.heap.get? c=some o->s⁻¹≠c:=fun e=>Nat.ne_of_gt (Ax e);obtain⟨W,I⟩:=D1.live _ _ h1;obtain⟨X,J⟩:=D2.live _ _ h2;exact l s⁻¹ #[x,y] h' tk ⟨_,_,v,C,rfl⟩ (Ad _) ⟨_,a5,rfl,_,rfl⟩ ⟨a1,hk _ _ D.TIz D.TITO D.TIi1 D.TIi2 f,⟨_,_,a2⟩,a3,a4,lt hz,lt g,lt I,lt J⟩
   fun c o hc e=>hk c o (fun x=>hc (by simp[x])) (fun x=>hc (by simp[x])) (fun x=>hc (by simp[x])) (fun x=>hc (by simp[x])) e
 go:=fun aO k pos i T s Q E r l=>by
  obtain⟨hz,f,⟨a,b,g⟩,h1,h2,_⟩:=r;refine wpAny_letOwnedTupleGo_zip hz fun h' G p=>l h' ⟨G,p.extBut _ _ D.TIz f,⟨a,b,p.extBut _ _ D.TOz g⟩,
   D1.frame _ _ _ h1 fun c hc o e=>p.extBut c o (fun q=>D.z1 (q▸hc)) e,D2.frame _ _ _ h2 fun c hc o e=>p.extBut c o (fun q=>D.z2 (q▸hc)) e⟩ fun c o hc e=>p.extBut _ _ (fun x=>hc (by simp[x])) e
 apart:=fun i T h r d=>by
  obtain⟨_,_,_,_,_,L,M,N,O⟩:=r;simp at d;rcases d with rfl|rfl|rfl|rfl
  ·exact L rfl
  ·exact M rfl
  ·exact N rfl
  ·exact O rfl
 done:=fun s Q E j l=>by
  obtain⟨hz,f,⟨a,b,g⟩,h1,h2⟩:=j;have d:s.TypeIs (.ref z) "zip":=⟨_,hz,rfl⟩;have S:min n1 n2=n1\/(min n1 n2<n1/\min n1 n2=n2):=ω
  unfold pyNext;refine Ae (wpAny_attempt (wpAny_callSpecial?_slot (name:=Str.ofString "__next__") d F.slot_zip_next
   (wpAny_call_entry F.slot_zip_next d F.entry_zip_next (L0 D1 D2 D hz f g h1 h2 S fun h' e tk hk H=>?_) (F.args_zip_next_1 _))))
  obtain⟨o,P,hc⟩:=H;refine Ae (wpAny_isInstance (T:="StopIteration") (b:=true) ⟨o,P,hc⟩ isSubtype_stop ?_);exact An (l _ tk fun c o hc e=>hk c o (fun x=>hc (by simp[x])) (fun x=>hc (by simp[x])) (fun x=>hc (by simp[x])) (fun x=>hc (by simp[x])) e)
 self:=fun i s Q E j l=>wpAny_pyIter_zip j.1 l
end Zp
end
section
namespace L2
open PySem PySem.Spec PyProof.Rows
section
variable{X:Cx}{aa:Ψ}{σ:St}{H:Hp}{s:Shared}{h':Heap}
def Inv.turneds{t':Nat}{ch:List Addr}(I:Inv X aa σ H s)(d:∀b∈ch,cv X aa H b)(k:∀b o,b∉ch->s.heap.get? b=some o->h'.get? b=some o):Inv X aa σ H {s with heap:=h',toks:=t'}:=by
 have a:∀b u,H b=some u->b∉ch:=fun b u e z=>by have:=(d b z).1;rw[this] at e;cases e
 refine I.step (g':=s.gens) (d':=s.drawn) (ch:=ch) (fun b hb=>?_) (fun b o _ _ hc e _=>k b o hc e) (fun b o _ _ hc e _=>⟨o.slots,k b o hc e⟩) (fun _ _ _ _ n=>n)
  (fun b o hc e=>⟨o,k b o hc e⟩) (fun _ _ e=>e) (fun _ _ _ e=>e) (fun b ps e=>⟨#[],by rw[e];simp⟩) (fun m f=>?_) (fun b u e=>?_) I.bare
 ·obtain⟨l,f1,f2,g,h,i⟩:=d b hb
  exact⟨g,f1,h,i⟩
 ·obtain⟨o,es,ep,j,r⟩:=f
  exact⟨o,es,ep,k _ o (fun z=>(d _ z).2.1 rfl) j,r⟩
 ·refine(I.hok b u e).stay (fun c v hc q=>k c v ?_ q) (fun _ q=>q) fun _ _ q=>q
  rcases hc with z|z
  ·rw[z];exact a b u e
  ·exact a c _ z
def Inv.adopt{a:Addr}{o:HO}(I:Inv X aa σ H s)(d:H a=none)(h1:X.s₀⁻¹<=a)(h2:a≠X.env.locals)(g:∀x c,X.env.cells.lookup x=some c->c≠a)(h:∀p∈X.pn++aa,p.1≠a)(new:zay X.prog X.w (upd H a o) s.heap a o):Inv X aa σ (upd H a o) s:=by
 refine I.step (h':=s.heap) (g':=s.gens) (t':=s.toks) (d':=s.drawn) (ch:=[a]) (fun b hb=>?_) (fun b o _ _ hc e _=>e) (fun b o _ _ hc e _=>⟨o.slots,e⟩) (fun b o hc e n=>?_)
  (fun b o hc e=>⟨o,e⟩) (fun b xs e=>?_) (fun b o u e=>?_) (fun b ps e=>⟨#[],?_⟩) (fun m f=>f) (fun b u e=>?_) I.bare
 ·have e:b=a:=by simpa using hb
  subst e;exact⟨.inr h1,h2,g,h⟩
 ·rw[af (fun z=>hc (by simp[z]))];exact n
 ·rw[af (zk e d)];exact e
 ·rw[af (zk e d)];exact e
 ·rw[af (zk e d),e];simp
 ·by_cases hb:b=a
  ·subst hb;rw[zc] at e;cases e;exact new
  ·rw[af hb] at e
   exact(I.hok b u e).stay (fun _ _ _ q=>q) (fun c q=>by rw[af (zk q d)];exact q) fun c xs q=>by rw[af (zk q d)];exact q
def Inv.grown{t':Nat}{ch:List Addr}{a:Addr}{o:HO}(I:Inv X aa σ H s)(f:∀b∈ch,cv X aa H b)(k:∀b o,b∉ch->s.heap.get? b=some o->h'.get? b=some o)(hp:s⁻¹<=a)(new:zay X.prog X.w (upd H a o) h' a o):Inv X aa σ (upd H a o) {s with heap:=h',toks:=t'}:=by
 have I1:Inv X aa σ H {s with heap:=h',toks:=t'}:=I.turneds f k;obtain⟨c,f1,f2,g,d,e⟩:=I.fpOk hp (I.hok.fresh hp);exact I1.adopt c (Af I.sz hp) f1 d e new
def HB{b t:Addr}{o:Obj}(I:Inv X aa σ H s)(f:cv X aa H b)(hk:X.K.lookup t=some o):t≠b:=by
 intro z;subst z;have e:=I.ok.mod.kin t o hk;rcases f.2.2.2.1 with q|q
 ·exact I.ok.noex t o e q
 ·exact absurd (AE (Ax (I.ok.bs t o e).1) q) (Nat.lt_irrefl _)
def HC{b t:Addr}{xs:List V}(I:Inv X aa σ H s)(f:cv X aa H b)(h:SqT X.K H t xs):t≠b:=by
 rcases h with (h|⟨o,h⟩)|⟨o,_,_,hk,_⟩
 ·exact zk h f.1
 ·exact zk h f.1
 ·exact HB I f hk
def EB{b t:Addr}{xs:List V}(I:Inv X aa σ H s)(f:cv X aa H b)(h:SqL X.K H t xs):t≠b:=by
 rcases h with (h|⟨o,h⟩)|⟨o,_,_,hk,_⟩
 ·exact zk h f.1
 ·exact zk h f.1
 ·exact HB I f hk
end
def EC{P:Program}{w:World}{K:Ag}{J:It}{a wr:List Addr}{it:Addr}{tn:Nat->Heap->Prop}{aO:List Expr}{k:Nat}{pos:Pos}(mem:it∈a)(obj:∀i h,tn i h->∀b∈a,∃o,h.get? b=some o/\∀v,o.data≠.cell v)(keep:∀i h h',tn i h->(∀b∈a,∀o,h.get? b=some o->h'.get? b=some o)->tn i h')(hw:∀b∈wr,b∈a)(W:∀(X:Cx),X.prog=P->X.w=w->X.K=K->X.calm=true->∀(i:Nat)(aa:Ψ)(s:Shared)(σ:St)(H:Hp),Inv X aa σ H s->(∀b∈a,cv X aa H b)->tn i s.heap->(J.go i H\/J.stop i H)->
   ∃(z:List Addr)(n:Nat)(x:Nat->Array Value->Prop)(S:Nat->Heap->Prop)(Mid:Nat->Addr->Heap->Prop),WalksT P w X.A it z wr n x S Mid/\S i s.heap/\(∀j h,S j h->tn j h)/\
    (J.go i H->i<n/\∀d,x i d->∃xs:List V,Vals xs d.toList/\xs.length<=sizeLine/\∀p,H p=none->J.yld i H (.ref p) (upd H p (.tup xs)))/\(J.stop i H->i=n))
  (self:∀(A:Around)(i:Nat)(s:Shared)(Q:Ω)(E:Ω),tn i s.heap->Q (.ref it) s->wpAny (model P w) A (pyIter (.ref it)) Q E s) :
  Turn P w K (.Tuple aO k pos) J a it tn where
 mem:=mem
 obj:=obj
 keep:=keep
 item:=by
  intro X f l r hc i aa s σ H E I c st hg;obtain⟨z,n,x,S,Mid,WT,C,D,g,_⟩:=W X f l r hc i aa s σ H I c st (.inl hg);obtain⟨hi,hv⟩:=g hg;subst f l r;refine WT.item i s _ _ hi C fun T d h' tk hp y F G hk=>⟨.ref T,rfl,?_⟩;obtain⟨xs,O,hz,hy⟩:=hv d hp;have I1:Inv X aa σ (upd H T (.tup xs)) {s with heap:=h',toks:=tk}:=I.grown (ch:=wr) (fun b hb=>c b (hw b hb)) hk y (show zay X.prog X.w _ h' T (.tup xs) from⟨hz,d.toList,O,by have q:IsTup h' T d:=F;simpa using q⟩);have Y:∀b∈a,b≠T:=fun b hb=>by
   obtain⟨o,e,_⟩:=obj i _ st b hb;exact AD (AE (Ax e) y)
  have u:∀b∈a,cv X aa (upd H T (.tup xs)) b:=fun b hb=>by
   obtain⟨U,fr⟩:=c b hb;exact⟨by rw[af (Y b hb)];exact U,fr⟩
  refine WT.go aO k pos i T _ _ _ G fun L M N=>?_;have Z:Inv X aa σ (upd H T (.tup xs)) {s with heap:=L,toks:=tk}:=I1.turneds (s:={s with heap:=h',toks:=tk}) (t':=tk) (ch:=wr) (fun b hb=>u b (hw b hb)) N;exact⟨.ref T,_,Z,rfl,hy T (I.hok.fresh y),D _ _ M,fun b hb=>(u b hb).1⟩
 done:=by
  intro X f l r hc i aa s σ H E I c st hg;obtain⟨z,n,x,S,Mid,WT,C,D,_,g⟩:=W X f l r hc i aa s σ H I c st (.inr hg);subst f l r;have e:=g hg;subst e;exact WT.done s _ _ C fun h' tk hk=>⟨rfl,I.turneds (ch:=wr) (fun b hb=>c b (hw b hb)) hk⟩
 self:=self
def CQ(K:Ag)(a b:Addr):It:=
 ⟨fun i H=>∃xs ys,SqT K H a xs/\SqT K H b ys/\i<min xs.length ys.length,
  fun i H v H'=>∃p x y,v=.ref p/\H p=none/\H'=upd H p (.tup [x,y])/\(∀xs,SqT K H a xs->xs[i]?=some x)/\∀ys,SqT K H b ys->ys[i]?=some y,
  fun i H=>∃xs ys,SqT K H a xs/\SqT K H b ys/\i=min xs.length ys.length⟩
def c_:(2:Nat)<=sizeLine:=by rw[sizeLine_eq];decide
def L1{P:Program}{w:World}{K:Ag}{aO:List Expr}{k:Nat}{pos:Pos}(C D z TI TO i1 i2:Addr)(hd:TI≠z/\TO≠z/\TI≠TO/\TI≠i1/\TI≠i2/\z≠i1/\z≠i2/\TO≠i1/\TO≠i2/\i1≠i2):Turn P w K (.Tuple aO k pos) (CQ K C D) [z,TI,TO,i1,i2] z (fun i h=>IsZip h z TI TO .none/\IsPair h TI (.ref i1) (.ref i2)/\(∃a b,IsPair h TO a b)/\h.IsTupleIter i1 C i/\h.IsTupleIter i2 D i):=by
 obtain⟨d1,d2,d3,d4,d5,d6,d7,d8,d9,O⟩:=hd;refine EC (wr:=[z,TO,i1,i2]) (by simp) (fun i h st b hb=>?_) (fun i h h' st c=>?_) (fun b hb=>?_) (fun X hP hw hK hc i aa s σ H I N st iK=>?_) fun A i s Q E st h=>wpAny_pyIter_zip st.1 h
 ·obtain⟨a1,a2,⟨a,b',a3⟩,⟨o4,a4,_,F⟩,⟨o5,a5,_,e5⟩⟩:=st
  simp at hb;rcases hb with rfl|rfl|rfl|rfl|rfl
  ·exact⟨_,a1,fun v z=>by cases z⟩
  ·exact⟨_,a2,fun v z=>by cases z⟩
  ·exact⟨_,a3,fun v z=>by cases z⟩
  ·exact⟨_,a4,fun v z=>by rw[F] at z;cases z⟩
  ·exact⟨_,a5,fun v z=>by rw[e5] at z;cases z⟩
 ·obtain⟨a1,a2,⟨a,b',a3⟩,a4,a5⟩:=st
  exact⟨c z (by simp) _ a1,c TI (by simp) _ a2,⟨a,b',c TO (by simp) _ a3⟩,a4.at fun o e=>c i1 (by simp) o e,a5.at fun o e=>c i2 (by simp) o e⟩
 ·simp at hb ⊢
  rcases hb with rfl|rfl|rfl|rfl<;>simp
 ·subst hP hw hK
  have hd:∃xs ys,SqT X.K H C xs/\SqT X.K H D ys:=by
   rcases iK with ⟨xs,ys,a,b,_⟩|⟨xs,ys,a,b,_⟩
   ·exact⟨xs,ys,a,b⟩
   ·exact⟨xs,ys,a,b⟩
  obtain⟨xs,ys,d,l⟩:=hd;obtain⟨us,S,p1,_⟩:=I.tuple d;obtain⟨T,U,p2,_⟩:=I.tuple l;have W:=S.length;have Y:=U.length;have Z:=I.ok.hd hc;obtain⟨a1,a2,a3,a4,a5⟩:=st;have f:=fun b hb=>HC I (N b hb) d;have G:=fun b hb=>HC I (N b hb) l;have AP:Zp.Apart z TI TO i1 i2 [i1,C] [i2,D]:=by
   refine⟨?_,?_,?_,?_,by simp,by simp,?_,?_,d1,d2,d3,d4,d5⟩
   ·simp;exact⟨d6,(f z (by simp)).symm⟩
   ·simp;exact⟨d7,(G z (by simp)).symm⟩
   ·simp;exact⟨d8,(f TO (by simp)).symm⟩
   ·simp;exact⟨d9,(G TO (by simp)).symm⟩
   ·simp;exact⟨O,(G i1 (by simp)).symm⟩
   ·simp;exact⟨O.symm,(f i2 (by simp)).symm⟩
  have WZ:=Zp.HA (prog:=X.prog) (w:=X.w) (A:=X.A) (Zp.Hz (A:=X.A.in1) Z i1 C (f i1 (by simp)) us.toArray) (Zp.Hz (A:=X.A.in1) Z i2 D (G i2 (by simp)) T.toArray) AP;refine⟨_,_,_,_,_,WZ,⟨a1,a2,a3,⟨a4,p1⟩,⟨a5,p2⟩⟩,fun j h st=>⟨st.1,st.2.1,st.2.2.1,st.2.2.2.1.1,st.2.2.2.2.1⟩,fun g=>?_,fun g=>?_⟩
  ·obtain⟨q,r,J,L,hi⟩:=g
   have e1:=I.tuple_inj J d;have e2:=I.tuple_inj L l;subst e1 e2;refine⟨by simpa[<-W,<-Y] using hi,fun aK hp=>?_⟩;obtain⟨x,y,px,py,rfl⟩:=hp;have jg:us[i]?=some x:=by simpa using px
   have M:T[i]?=some y:=by simpa using py
   have lx:i<q.length:=ω
   have ly:i<r.length:=ω
   have gx:q[i]?=some q[i]:=by simp[lx]
   have gy:r[i]?=some r[i]:=by simp[ly]
   obtain⟨u,e3,ru⟩:=S.get gx;obtain⟨u',F,dS⟩:=U.get gy;rw[jg] at e3;cases e3;rw[M] at F;cases F;refine⟨[q[i],r[i]],.cons ru (.cons dS .nil),c_,fun p hp=>⟨p,_,_,rfl,hp,rfl,fun zs hz=>?_,fun zs hz=>?_⟩⟩
   ·rw[I.tuple_inj hz d];exact gx
   ·rw[I.tuple_inj hz l];exact gy
  ·obtain⟨q,r,J,L,hi⟩:=g
   have e1:=I.tuple_inj J d;have e2:=I.tuple_inj L l;subst e1 e2
   simpa[<-W,<-Y] using hi
def L3(b e:Addr)(xs ys:Array Value):Meets (Builtin.«zip.__new__» ⟨[.type "zip",.ref b,.ref e],[]⟩) (fun _ R s=>s.heap.IsTuple b xs/\s.heap.IsTuple e ys/\
   ∀h',IsZip h' (s⁻¹+4) (s⁻¹+2) (s⁻¹+3) .none->IsPair h' (s⁻¹+2) (.ref s⁻¹) (.ref (s⁻¹+1))->
   IsPair h' (s⁻¹+3) .none .none->h'.IsTupleIter s⁻¹ b 0->h'.IsTupleIter (s⁻¹+1) e 0->
   (∀c o,s.heap.get? c=some o->h'.get? c=some o)->R (.ok (.ret (.ref (s⁻¹+4)))) {s with heap:=h'}):=
 .of_wp fun prog w A R s h=>by
  obtain⟨hp,g,d,tk,os⟩:=s;obtain⟨f,i,h⟩:=h;have p:=sub_zip;have j:Heap.IsTuple (Shared.heap ⟨hp,g,d,tk,os⟩) b xs:=f;have l:Heap.IsTuple (Shared.heap ⟨hp.push {cls:=.type "tuple_iterator",data:=.fields #[.ref b,.int 0 0]},g,d,tk,os⟩) e ys:=Heap.IsTuple.push i _
  wp_walk using wpAny_pyIter_tuple j,wpAny_pyIter_tuple l
  refine⟨_,rfl,?_⟩;dsimp only at h ⊢;have a:∀(h:Heap)(o:Obj),(h.push o).objs.size=h.objs.size+1:=fun h o=>Heap.size_push ..;simp only[a,Nat.add_assoc,Nat.reduceAdd];refine h _ ?_ ?_ ?_ ?_ ?_ fun c o x=>Ai _ (Ai _ (Ai _ (Ai _ (Ai _ x))))
  ·exact Heap.get?_push_at (by simp only[a]) rfl
  ·exact Ai _ (Ai _ (Heap.get?_push_at (by simp only[a]) rfl))
  ·exact Ai _ (Heap.get?_push_at (by simp only[a]) rfl)
  ·exact⟨_,Ai _ (Ai _ (Ai _ (Ai _ (AI _ rfl)))),rfl,rfl⟩
  ·exact⟨_,Ai _ (Ai _ (Ai _ (Heap.get?_push_at (by simp only[a]) rfl))),rfl,rfl⟩
section
variable{X:Cx}{aO:List Expr}{k:Nat}{cV:Pos}
def ED(K:Ag)(ta:TA):TI:=fun σ H R=>ta σ H fun vs H1=>∃a b,vs=[.ref a,.ref b]/\(∃xs,SqT K H1 a xs)/\(∃ys,SqT K H1 b ys)/\R (CQ K a b) H1
def L4{a b:Expr}{ta:TA}{p pos:Pos}(hg:Gl X "zip")(C:X.mg "zip"=none)(hv:A8 "zip"=some (.type "zip"))(D:PA X [a,b] ta)(E:starEach [a,b] X.env=[(false,eval a X.env),(false,eval b X.env)]:=by rfl)(j:starEach [b] X.env=[(false,eval b X.env)]:=by rfl):PI X (.Tuple aO k cV) (.Call (.Name "zip" p) [a,b] [] pos) (ED X.K ta):=by
 intro aa s σ H R I h;refine Call_ (jl I hg C hv (PyProof.Rows.callWith_type1 (aT (D pos aa s σ H _ I h) fun us c ⟨vs,H1,I1,l,d⟩=>?_) (by rw[E,j]) (by rw[j];rfl)));obtain⟨f,g,e,⟨xs,d⟩,⟨ys,r⟩,q⟩:=d;subst e;obtain⟨u,J,rfl,v,w⟩:=vals2 l;cases v;cases w;obtain⟨x,_,y,_⟩:=I1.tuple d;obtain⟨A,_,p2,_⟩:=I1.tuple r;refine callType_new F.called_zip ξ (F.typeCall_zip_2 _ _) (F.newCall_zip_2 _ _) (fun obj=>F.args_object_init_3 obj _ _) F.entry_zip_new (L3 f g x.toArray A.toArray) ⟨y,p2,fun h' a1 a2 a3 a4 a5 o=>?_⟩;refine⟨⟨_,a1,rfl⟩,wpAny_pyIter_zip a1 ?_⟩;have G:Inv X aa σ H1 {c with heap:=h'}:=I1.kept (t':=c.toks) o;refine⟨c⁻¹+4,[c⁻¹+4,c⁻¹+2,c⁻¹+3,c⁻¹,c⁻¹+1],_,_,H1,rfl,G,L1 f g _ _ _ _ _ (by refine⟨?_,?_,?_,?_,?_,?_,?_,?_,?_,?_⟩<;>(intro z;have L:(_:Nat)=_:=z;(first|lia|omega))),⟨a1,a2,⟨_,_,a3⟩,a4,a5⟩,fun b hb=>?_,q⟩;have i:c⁻¹<=b:=by
  simp only[List.mem_cons,List.not_mem_nil,or_false] at hb;rcases hb with rfl|rfl|rfl|rfl|rfl
  ·exact AY _ _
  ·exact AY _ _
  ·exact AY _ _
  ·exact Ad _
  ·exact AY _ _
 exact I1.fpOk i (I1.hok.fresh i)
end
def EE(K:Ag)(a:Addr):It:=
 ⟨fun i H=>∃xs,SqL K H a xs/\i<xs.length,
  fun i H v H'=>∃p x,v=.ref p/\H p=none/\H'=upd H p (.tup [.int i,x])/\∀xs,SqL K H a xs->xs[i]?=some x,
  fun i H=>∃xs,SqL K H a xs/\i=xs.length⟩
def L5{P:Program}{w:World}{K:Ag}{aO:List Expr}{k:Nat}{pos:Pos}(a e it:Addr)(hd:e≠it):Turn P w K (.Tuple aO k pos) (EE K a) [e,it] e (fun i h=>(∃old,IsEnum h e it i old)/\h.IsListIter it a i):=by
 refine EC (wr:=[e,it]) (by simp) (fun i h st b hb=>?_) (fun i h h' st y=>?_) (fun b hb=>hb) (fun X G hw J hc i aa s σ H I L st M=>?_) fun A i s Q E st h=>?_
 ·obtain⟨⟨old,a1⟩,⟨o4,a4,_,N⟩⟩:=st
  simp at hb;rcases hb with rfl|rfl
  ·exact⟨_,a1,fun v z=>by cases z⟩
  ·exact⟨_,a4,fun v z=>by rw[N] at z;cases z⟩
 ·obtain⟨⟨old,a1⟩,a4⟩:=st
  exact⟨⟨old,y e (by simp) _ a1⟩,a4.at fun o q=>y it (by simp) o q⟩
 ·subst G hw J
  have r:∃xs,SqL X.K H a xs:=by
   rcases M with ⟨xs,q,_⟩|⟨xs,q,_⟩
   ·exact⟨xs,q⟩
   ·exact⟨xs,q⟩
  obtain⟨xs,c⟩:=r;obtain⟨us,C,O,_⟩:=I.list c;have D:=C.length;have U:=I.ok.hd hc;obtain⟨a1,a4⟩:=st;have f:=fun b hb=>EB I (L b hb) c;have Y:=WalksT.enumerateD (prog:=X.prog) (w:=X.w) (A:=X.A) (Draws.list (A:=X.A.in1) U it a (f it (by simp)) us.toArray) e hd (by simp;exact⟨hd,(f e (by simp)).symm⟩) (by simp);refine⟨_,_,_,_,_,Y,⟨a1,a4,O.isList⟩,fun j h st=>⟨st.1,st.2.1⟩,fun g=>?_,fun g=>?_⟩
  ·obtain⟨d,l,hi⟩:=g
   have e1:=I.list_inj l c;subst e1;refine⟨by simpa[<-D] using hi,fun Z hp=>?_⟩;obtain⟨t,x,S,rfl⟩:=hp;have W:us[i]?=some x:=by simpa using S
   have F:d[i]?=some d[i]:=by simp[hi]
   obtain⟨u,e3,T⟩:=C.get F;rw[W] at e3;cases e3;refine⟨[.int i,d[i]],.cons ⟨_,rfl⟩ (.cons T .nil),c_,fun p hp=>⟨p,_,rfl,hp,rfl,fun zs hz=>?_⟩⟩;rw[I.list_inj hz c];exact F
  ·obtain⟨d,l,hi⟩:=g
   have e1:=I.list_inj l c;subst e1
   simpa[<-D] using hi
 ·obtain⟨⟨old,a1⟩,_⟩:=st
  exact wpAny_pyIter_enum a1 h
section
variable{X:Cx}{aO:List Expr}{k:Nat}{cV:Pos}
def L6(K:Ag)(ta:TA):TI:=fun σ H R=>ta σ H fun vs H1=>∃a,vs=[.ref a]/\(∃xs,SqL K H1 a xs)/\R (EE K a) H1
def HD{a:Expr}{ta:TA}{p pos:Pos}(hg:Gl X "enumerate")(o:X.mg "enumerate"=none)(hv:A8 "enumerate"=some (.type "enumerate"))(r:PA X [a] ta)(v:starEach [a] X.env=[(false,eval a X.env)]:=by rfl):PI X (.Tuple aO k cV) (.Call (.Name "enumerate" p) [a] [] pos) (L6 X.K ta):=by
 intro aa s σ H R I h;refine Call_ (jl I hg o hv (PyProof.Rows.callWith_type1 (aT (r pos aa s σ H _ I h) fun us c ⟨vs,H1,I1,g,d⟩=>?_) v rfl));obtain⟨a',e,⟨xs,d⟩,q⟩:=d;subst e;obtain⟨u,rfl,j⟩:=vals1 g;cases j;obtain⟨x,_,l,_⟩:=I1.list d;refine call_enumerate_list l.isList fun h' a1 a2 a3 i=>?_;refine wpAny_pyIter_enum a1 ?_;have w:Inv X aa σ H1 {c with heap:=h'}:=I1.kept (t':=c.toks) i;refine⟨c⁻¹+1,[c⁻¹+1,c⁻¹],_,_,H1,rfl,w,L5 a' _ _ (by intro z;have y:(_:Nat)=_:=z;(first|lia|omega)),⟨⟨_,a1⟩,a2⟩,fun b hb=>?_,q⟩;have f:c⁻¹<=b:=by
  simp only[List.mem_cons,List.not_mem_nil,or_false] at hb;rcases hb with rfl|rfl
  ·exact AY _ _
  ·exact Ad _
 exact I1.fpOk f (I1.hok.fresh f)
def eB:∀{bs:List Bool}{us:List Value},Vals (bs.map V.bl) us->LSm.BoolsAre us bs
 |[],_,.nil=>.nil
 |b::bs,_,.cons r t=>by cases r;exact .cons b (eB t)
def oG(hc:X.calm=true):gD X (.builtin "all") (fun xs H Q=>∃(l:Addr)(bs:List Bool),xs=[.ref l]/\SqL X.K H l (bs.map V.bl)/\Q (.bl (bs.all id)) H):=by
 intro aa s σ H xs us Q I r h;obtain⟨l,bs,rfl,hq,q⟩:=h;obtain⟨u,rfl,g⟩:=vals1 r;cases g;obtain⟨ad,j,o,_⟩:=I.list hq;have p:=I.ok.hd hc;have a:=o.isList;have hb:=eB j;have c:l<s⁻¹:=by obtain⟨_,e,_⟩:=a;exact Ax e
 refine call_all_walk (wpAny_pyIter_list a ?_);refine⟨s⁻¹,[s⁻¹,l],[s⁻¹],ad.toArray.size,_,_,fun i=>(bs[i]?).getD true,rfl,Walks.list (A:=X.A.in1) p _ l (AD c) ad.toArray,
  ⟨⟨_,AI _ rfl,rfl,rfl⟩,a.push _⟩,fun i v s' w x f d=>?_,fun h' tk hk=>?_⟩
 ·obtain⟨b,e,rfl⟩:=hb.get i v (by simpa using f)
  simp only[e,Option.getD_some] at d;exact wpAny_truthy_bool d
 ·have e:((Ah ad.toArray.size).all fun i=>(bs[i]?).getD true)=bs.all id:=by
   rw[Au,hb.length];exact LSm.range_all bs
  rw[e];exact⟨.bl _,H,I.kept (LSm.kept_iter hk),rfl,q⟩
end
section
variable{K:Ag}{a:Addr}{xs:List V}{g:TG}{tc:TT}{te:TE}{σ:St}{H1:Hp}{Q:VK}{D:Addr}
def EF(n:Nat)(a:Nat->St->List V->Hp->Prop)(i m:Nat)(σ:St)(H:Hp):Prop:=m=n-i/\i<=n/\∃ys,ys.length<=i/\a i σ ys H
def eL(n:Nat)(d:Nat->St->List V->Hp->Prop)(D:Addr)(i:Nat)(c:St):VK:=fun y b=>∃ys a,b D=some (.lst ys)/\ys.length<sizeLine/\a<n-i/\EF n d (i+1) a c (upd b D (.lst (ys++[y])))
def dk(n:Nat)(c:Nat->St->List V->Hp->Prop)(i:Nat)(b:St)(d:Hp):Prop:=∃a,a<n-i/\EF n c (i+1) a b d
def bN{n:Nat}{c:Nat->St->List V->Hp->Prop}{i:Nat}{b:St}{ys:List V}{y:V}{a:Hp}(d:n<=sizeLine)(hi:i<n)(f:ys.length<=i)(e:a D=some (.lst ys))(p:c (i+1) b (ys++[y]) (upd a D (.lst (ys++[y])))):eL n c D i b y a:=
 ⟨ys,n-(i+1),e,ω,ω,rfl,hi,ys++[y],by simp;(first|lia|omega),p⟩
def hZ{n:Nat}{b:Nat->St->List V->Hp->Prop}{i:Nat}{a:St}{ys:List V}{c:Hp}(hi:i<n)(d:ys.length<=i)(p:b (i+1) a ys c):dk n b i a c:=
 ⟨n-(i+1),ω,rfl,hi,ys,ω,p⟩
def oH{J:It}(n:Nat)(a:Nat->St->List V->Hp->Prop)(l:a 0 σ [] (upd H1 D (.lst [])))(o:∀σ ys H,a n σ ys H->J.stop n H)(q:∀i σ ys H,i<n->a i σ ys H->J.go i H)(r:∀i σ ys H x H',i<n->ys.length<=i->a i σ ys H->J.yld i H x H'->g x σ H' fun d s=>tc d s fun b h=>if b=true then te d h (eL n a D i d) else dk n a i d h)(hd:∀σ ys H,a n σ ys H->Q (.ref D) H):cH J g tc te σ H1 D Q:=by
 refine⟨EF n a,⟨n,by simp,Az _,[],Ad _,l⟩,?_⟩;rintro i m f H2 ⟨rfl,hi,ys,j,p⟩
 by_cases c:i<n
 ·exact .inr ⟨q i f ys H2 c p,fun x u y=>r i f ys H2 x u c j p y⟩
 ·have e:i=n:=ω
  subst e;exact .inl ⟨o f ys H2 p,hd f ys H2 p⟩
def l5(c:Nat->St->List V->Hp->Prop)(j:c 0 σ [] (upd H1 D (.lst [])))(f:∀i σ ys H,c i σ ys H->SqL K H a xs)(l:∀i σ ys H x,xs[i]?=some x->i<xs.length->ys.length<=i->c i σ ys H->g x σ H fun d o=>tc d o fun b h=>if b=true then te d h (eL xs.length c D i d) else dk xs.length c i d h)(hd:∀σ ys H,c xs.length σ ys H->Q (.ref D) H):cH (fL K a) g tc te σ H1 D Q:=by
 refine oH xs.length c j (fun σ ys H p=>⟨xs,f _ _ _ _ p,Ad _⟩) (fun i σ ys H hi p=>⟨xs,xs[i],f _ _ _ _ p,by simp[hi]⟩) (fun i σ ys H x H' hi hy p y=>?_) hd;obtain⟨e,y⟩:=y;subst e;exact l i σ ys _ x (y xs (f _ _ _ _ p)) hi hy p
def L7(c:Nat->St->List V->Hp->Prop)(j:c 0 σ [] (upd H1 D (.lst [])))(f:∀i σ ys H,c i σ ys H->SqT K H a xs)(l:∀i σ ys H x,xs[i]?=some x->i<xs.length->ys.length<=i->c i σ ys H->g x σ H fun d o=>tc d o fun b h=>if b=true then te d h (eL xs.length c D i d) else dk xs.length c i d h)(hd:∀σ ys H,c xs.length σ ys H->Q (.ref D) H):cH (Ct K a) g tc te σ H1 D Q:=by
 refine oH xs.length c j (fun σ ys H p=>⟨xs,f _ _ _ _ p,Ad _⟩) (fun i σ ys H hi p=>⟨xs,xs[i],f _ _ _ _ p,by simp[hi]⟩) (fun i σ ys H x H' hi hy p y=>?_) hd;obtain⟨e,y⟩:=y;subst e;exact l i σ ys _ x (y xs (f _ _ _ _ p)) hi hy p
def oI{lo:Int}{n:Nat}(a:Nat->St->List V->Hp->Prop)(f:a 0 σ [] (upd H1 D (.lst [])))(h:∀i σ ys H,i<n->ys.length<=i->a i σ ys H->g (.int (lo+i)) σ H fun c j=>tc c j fun b d=>if b=true then te c d (eL n a D i c) else dk n a i c d)(hd:∀σ ys H,a n σ ys H->Q (.ref D) H):cH (fO lo n) g tc te σ H1 D Q:=by
 refine oH n a f (fun σ ys H p=>Ad _) (fun i σ ys H hi p=>hi) (fun i σ ys H x H' hi hy p y=>?_) hd;obtain⟨e,y⟩:=y;subst e y;exact h i σ ys _ hi hy p
def L8{e f:Addr}{ys:List V}(a:Nat->St->List V->Hp->Prop)(q:a 0 σ [] (upd H1 D (.lst [])))(c:∀i σ zs H,a i σ zs H->SqT K H e xs/\SqT K H f ys)(r:∀i σ zs H p x y,xs[i]?=some x->ys[i]?=some y->i<min xs.length ys.length->zs.length<=i->a i σ zs H->H p=none->g (.ref p) σ (upd H p (.tup [x,y])) fun d s=>tc d s fun b h=>if b=true then te d h (eL (min xs.length ys.length) a D i d) else dk (min xs.length ys.length) a i d h)(hd:∀σ zs H,a (min xs.length ys.length) σ zs H->Q (.ref D) H):cH (CQ K e f) g tc te σ H1 D Q:=by
 refine oH (min xs.length ys.length) a q (fun σ zs H p=>⟨xs,ys,(c _ _ _ _ p).1,(c _ _ _ _ p).2,rfl⟩) (fun i σ zs H hi p=>⟨xs,ys,(c _ _ _ _ p).1,(c _ _ _ _ p).2,hi⟩) (fun i σ zs H v H' hi hy p y=>?_) hd;obtain⟨pp,x,j,rfl,hp,rfl,l,o⟩:=y;exact r i σ zs H pp x j (l xs (c _ _ _ _ p).1) (o ys (c _ _ _ _ p).2) hi hy p hp
end
end L2
end
section
namespace Dk
open PySem PySem.Spec PyProof.Rows
def IsD(h:Heap)(d:Addr)(es:Array DictEntry)(ep:Nat):Prop:=∃o,h.get? d=some o/\o.ExactDict/\o.data=.dict es ep
def IsD.at{h h':Heap}{d:Addr}{es:Array DictEntry}{ep:Nat}(x:IsD h d es ep)(k:∀o,h.get? d=some o->h'.get? d=some o):IsD h' d es ep:=let ⟨o,ho,r⟩:=x;⟨o,k o ho,r⟩
def IsD.lt{h:Heap}{d:Addr}{es:Array DictEntry}{ep:Nat}(x:IsD h d es ep):d<h.objs.size:=let ⟨_,ho,_⟩:=x;Ax ho
section
variable{prog:Program}{w:World}{A:Around}{E:Ω}{s:Shared}{it d:Addr}{i ep:Nat}{es:Array DictEntry}
def IsD.typeIs(x:IsD s.heap d es ep):s.TypeIs (.ref d) "dict":=let ⟨o,ho,r⟩:=x;⟨o,ho,r.1.1⟩
def iter{Q:Ω}(hd:(d==sysModules)=false)(e:IsD s.heap d es ep)(f:Q (.ref s⁻¹) {s with heap:=s.heap.push {cls:=.type "dict_keyiterator",data:=.fields #[.ref d,.int 0 0,.int es.size 0,.int ep 0]}}):wpAny (model prog w) A (pyIter (.ref d)) Q E s:=by
 have a:=e.typeIs;obtain⟨o,b,hc,c⟩:=id e;refine wpAny_pyIter_slot a PySem.F.slot_dict_iter (wpAny_call_entry PySem.F.slot_dict_iter a PySem.F.entry_dict_iter ?_ (PySem.F.args_dict_iter_1 _));unfold Builtin.«dict.__iter__»;refine Ae ?_;unfold Builtin.Dict.dictSlotNone;refine Ae (wpAny_notOrdered_dict a ?_);show wpAny _ _ (pure (Value.ref d)) _ _ s;refine An ?_;show wpAny _ _ (Builtin.Dict.showsAll d >>= _) _ _ s;unfold Builtin.Dict.showsAll;rw[if_neg (by rw[hd];exact AK)];refine Ae (An ?_);refine Ae (wpAny_dictEntries b c ?_);refine Ae (wpAny_dictEpoch b c ?_);refine Ae (wpAny_newObj_type (An ⟨_,rfl,"dict_keyiterator",_,⟨_,AI _ rfl,rfl⟩,PySem.F.slot_dict_keyiterator_next.lookup,?_⟩))
 simpa[rawInt] using f
def item{Q:Option Value->Shared->Prop}(a:s.heap.IsKeyIter it d i es.size ep)(h:IsD s.heap d es ep)(hx:i<es.size)(j:∀h',h'.IsKeyIter it d (i+1) es.size ep->Heap.SameBut it s.heap h'->Q (some es[i].key) {s with heap:=h'}):wpAny (model prog w) A (pyNext (.ref it)) Q E s:=by
 obtain⟨o,b,hc,hd⟩:=id a;obtain⟨l,c,p,e⟩:=id h;unfold pyNext;refine Ae (wpAny_attempt (wpAny_callSpecial?_slot (name:=Str.ofString "__next__") a.typeIs PySem.F.slot_dict_keyiterator_next
  (wpAny_call_entry PySem.F.slot_dict_keyiterator_next a.typeIs PySem.F.entry_dict_keyiterator_next ?_ (PySem.F.args_dict_keyiterator_next_1 _))))
 refine Ae (An ?_);refine Ae ?_;refine Ae ?_
 first|refine Ae (wpAny_typeNameOfWhole_keyiter a.typeIs (An ?_))|refine Ae (wpAny_typeNameOf_keyiter a.typeIs (An ?_))
 refine Ae (wpAny_fieldsOf b hd ?_);have g:Builtin.Dict_items.ownsTuple "dict_keyiterator"=false:=ξ
 simp only[g,Bool.false_eq_true,if_false];show wpAny _ _ (if(Value.ref d==Value.none)=true then _ else _) _ _ s;rw[if_neg (show ¬((Value.ref d==Value.none)=true) from AK)];refine Ae (An ?_);refine Ae (wpAny_dictEntries c e ?_);rw[if_neg (by simp)];refine Ae (An ?_);refine Ae (wpAny_dictEpoch c e ?_);rw[if_neg (by simp)];refine An ?_;simp only[show ¬((i:Int)<0) from ω,if_false,Int.toNat_natCast,Array.getElem?_eq_getElem hx];refine Ae ?_
 first|refine Ae (wpAny_typeNameOfWhole_keyiter a.typeIs (An ?_))|refine Ae (wpAny_typeNameOf_keyiter a.typeIs (An ?_))
 refine Ae (wpAny_isOneOf_keyiter a.typeIs ?_);show wpAny _ _ (setField (.ref it) 1 (rawInt ((i:Int)+1)) >>= _) _ _ s;refine Ae (wpAny_setField b hd (by simp) ?_);have f:(s.heap.update it (Obj.mapFields (·.setIfInBounds 1 (rawInt ((i:Int)+1))))).IsKeyIter it d (i+1) es.size ep:=
  ⟨_,Heap.get?_update_self _ b (Obj.isFreed_of_fields (Obj.data_mapFields hd _)),(Obj.cls_mapFields ..).trans hc,by rw[Obj.data_mapFields hd];simp[rawInt]⟩
 refine Ae (wpAny_holding ?_);refine Ae (wpAny_isOneOf_keyiter (s:={s with heap:=s.heap.update it (Obj.mapFields (·.setIfInBounds 1 (rawInt ((i:Int)+1))))}) f.typeIs ?_);show wpAny _ _ (pure es[i].key) _ _ _;exact An (An ⟨_,rfl,An (j _ f (Heap.SameBut.update ..))⟩)
def done{Q:Option Value->Shared->Prop}(i:A.handled=none)(c:s.heap.IsKeyIter it d es.size es.size ep)(j:IsD s.heap d es ep)(l:∀h',Heap.ExtBut it s.heap h'->Q none {s with heap:=h'}):wpAny (model prog w) A (pyNext (.ref it)) Q E s:=by
 obtain⟨o,e,hc,hd⟩:=id c;obtain⟨p,f,q,g⟩:=id j;unfold pyNext;refine Ae (wpAny_attempt (wpAny_callSpecial?_slot (name:=Str.ofString "__next__") c.typeIs PySem.F.slot_dict_keyiterator_next
  (wpAny_call_entry PySem.F.slot_dict_keyiterator_next c.typeIs PySem.F.entry_dict_keyiterator_next ?_ (PySem.F.args_dict_keyiterator_next_1 _))))
 refine Ae (An ?_);refine Ae ?_;refine Ae ?_
 first|refine Ae (wpAny_typeNameOfWhole_keyiter c.typeIs (An ?_))|refine Ae (wpAny_typeNameOf_keyiter c.typeIs (An ?_))
 refine Ae (wpAny_fieldsOf e hd ?_);have h:Builtin.Dict_items.ownsTuple "dict_keyiterator"=false:=ξ
 simp only[h,Bool.false_eq_true,if_false];show wpAny _ _ (if(Value.ref d==Value.none)=true then _ else _) _ _ s;rw[if_neg (show ¬((Value.ref d==Value.none)=true) from AK)];refine Ae (An ?_);refine Ae (wpAny_dictEntries f g ?_);rw[if_neg (by simp)];refine Ae (An ?_);refine Ae (wpAny_dictEpoch f g ?_);rw[if_neg (by simp)];refine An ?_;simp only[show ¬((es.size:Int)<0) from ω,if_false,Int.toNat_natCast,Array.getElem?_eq_none (Ad es.size)];refine Ae ?_
 first|refine Ae (wpAny_typeNameOfWhole_keyiter c.typeIs (An ?_))|refine Ae (wpAny_typeNameOf_keyiter c.typeIs (An ?_))
 show wpAny _ _ (setField (.ref it) 0 .none >>= _) _ _ s;refine Ae (wpAny_setField e hd (by simp) ?_);show wpAny _ _ (newExc (.type "StopIteration") [] >>= _) _ _ _;refine Ae ?_;simp only[newExc,newTuple];refine Ae (wpAny_newObj_type ?_ (by size_fits));refine Ae (m:=firstArgMember _ _) (wpAny_of_eq (a:=Value.none) (by first|rfl|(simp only[firstArgMember];rfl)) ?_);refine wpAny_newObj_type ?_ (by size_fits);simp only[raiseNew];refine Ae (wpAny_handled ?_);rw[show A.in1.handled=none from i];refine Ae (An (wpAny_throw ?_));refine Ae (wpAny_isInstance (T:="StopIteration") (b:=true) ⟨_,AI _ rfl,rfl⟩ isSubtype_stop ?_);exact An (l _ (((Heap.SameBut.update ..).extBut.push _).push _))
def walks(l:A.handled=none)(I d:Addr)(c:d≠I)(es:Array DictEntry)(ep:Nat):Walks prog w A I [I,d] [I] es.size (fun i v=>∃e,es[i]?=some e/\v=e.key) (fun i h=>h.IsKeyIter I d i es.size ep/\IsD h d es ep) where
 sub:=fun b hb=>by simp at hb ⊢;exact .inl hb
 frame:=fun i h h' st k=>⟨let ⟨o,ho,r⟩:=st.1;⟨o,k I (by simp) o ho,r⟩,st.2.at fun o e=>k d (by simp) o e⟩
 item:=fun i s Q E hi st a=>item st.1 st.2 hi fun h' g f=>a _ h' s.toks ⟨es[i],by simp[hi],rfl⟩ ⟨g,st.2.at fun o e=>(f.2 d c).trans e⟩ fun b o hb e=>(f.2 b (fun z=>hb (by simp[z]))).trans e
 done:=fun s Q E st a=>done l st.1 st.2 fun h' j=>a h' s.toks fun b o hb e=>j b o (fun z=>hb (by simp[z])) e
 self:=fun i s Q E st a=>wpAny_pyIter_keyiter st.1 a
def src(lo:(d==sysModules)=false):PySem.W.KdlSrc prog w "dict" d d es.size (fun i v=>∃e,es[i]?=some e/\v=e.key) (fun h=>IsD h d es ep) where
 type:=fun _ a=>a.typeIs
 there:=fun _ a=>⟨a.lt,a.lt⟩
 keep:=fun _ _ a hk=>a.at fun o e=>hk d (.inl rfl) o e
 notList:=ξ
 notTuple:=ξ
 hint:=fun _ _ _ _ a hq=>PySem.W.kdl_hint_dict a.typeIs hq
 iter:=fun _ s b a=>⟨_,_,(fun _ _ hq=>iter lo a hq),walks b _ d (AD a.lt) es ep,⟨⟨_,AI _ rfl,rfl,rfl⟩,a.at fun o e=>Ai _ e⟩⟩
end
end Dk
namespace L2
open PySem PySem.Spec PyProof.Rows
section
variable{X:Cx}
def L9{P:Program}{w:World}{k:Key}{u:Value}(h:(eD P w).is k u=true):RelV (kV k) u:=by
 rcases aS h with ⟨i,t,rfl,rfl⟩|⟨x,t,rfl,rfl⟩
 ·exact⟨t,rfl⟩
 ·exact⟨t,rfl⟩
end
end L2
end
section
namespace L2
open PySem PySem.Spec PyProof.Rows
def Tp(H:Hp)(a:Addr)(ps:List Int):Prop:=H a=some (.tup (ps.map V.int))
abbrev Tps(H:Hp)(as:List Addr)(bX:Ξ):Prop:=Paired (fun a ps=>Tp H a ps) as bX
def Same.tp{H H':Hp}{a:Addr}{ps:List Int}(e:Same H H')(h:Tp H a ps):Tp H' a ps:=e _ _ h
def Same.new{H:Hp}{a:Addr}{o:HO}(h:H a=none):Same H (upd H a o):=fun b u e=>by rw[af (zk e h)];exact e
def Same.then{H H1:Hp}{a:Addr}{o:HO}(e:Same H H1)(h:H a=none):Same H (upd H1 a o):=fun b u q=>by rw[af (zk q h)];exact e b u q
def Tps.length{H:Hp}{a:List Addr}{b:Ξ}(h:Tps H a b):a.length=b.length:=Paired.length h
def Tps.get{H:Hp}:∀{b:List Addr}{c:Ξ}{i:Nat}{a:Addr},Tps H b c->b[i]?=some a->∃ps,c[i]?=some ps/\Tp H a ps
 |_,_,_,_,.nil,e=>by simp at e
 |_,_,0,_,.cons r _,e=>by simp at e;subst e;exact⟨_,rfl,r⟩
 |_,_,i+1,a,.cons _ t,e=>by
  obtain⟨u,h1,h2⟩:=Tps.get (i:=i) (a:=a) t (by simpa using e);exact⟨u,by simpa using h1,h2⟩
def Tps.snoc{H:Hp}{b:List Addr}{c:Ξ}{a:Addr}{ps:List Int}(h:Tps H b c)(q:Tp H a ps):Tps H (b++[a]) (c++[ps]):=by
 induction h with
 |nil=>exact .cons q .nil
 |cons r t ih=>exact .cons r ih
def Tps.append{H:Hp}{a bs:List Addr}{b c:Ξ}(h:Tps H a b)(q:Tps H bs c):Tps H (a++bs) (b++c):=by
 induction h with
 |nil=>exact q
 |cons r t ih=>exact .cons r ih
def Tps.take{H:Hp}:∀{a:List Addr}{b:Ξ}(n:Nat),Tps H a b->Tps H (a.take n) (b.take n)
 |_,_,0,_=>.nil
 |_,_,_+1,.nil=>.nil
 |_,_,n+1,.cons r t=>.cons r (Tps.take n t)
def Tps.drop{H:Hp}:∀{a:List Addr}{b:Ξ}(n:Nat),Tps H a b->Tps H (a.drop n) (b.drop n)
 |_,_,0,r=>r
 |_,_,_+1,.nil=>.nil
 |_,_,n+1,.cons _ t=>Tps.drop n t
section
variable{X:Cx}
def zlG:V->List V->Hp->VK->Prop:=fun x vs H Q=>∃l xs i y,x=.ref l/\vs=[.int i,y]/\H l=some (.lst xs)/\0<=i/\i<=xs.length/\xs.length<sizeLine/\Q .non (upd H l (.lst (xs.take i.toNat++y::xs.drop i.toNat)))
def L_:CI X "list.insert" zlG:=by
 intro aa s σ H x vs v us Q I c d h;obtain⟨l,xs,i,y,rfl,rfl,a,p,hi,hz,q⟩:=h;cases c;obtain⟨u,b,rfl,f,g⟩:=d.two;obtain⟨t,rfl⟩:=f;obtain⟨z,ad,n,r,w,e⟩:=I.lstM a;have j:sizeLine<2 ^ 62:=by rw[sizeLine_eq];decide
 have o:Builtin.List.listFitsIndex i=true:=by
  unfold Builtin.List.listFitsIndex;simp only[A7,decide_eq_true_eq];constructor<;>(first|lia|omega)
 refine call_meets F.slot_list_insert ⟨_,e,rfl⟩ F.entry_list_insert (F.args_list_insert_3 _ _ _) (PySem.AutoSeq1.list_insert_list_int_val_1 l ad.toArray n i t b (by simp[o]) (by rw[Au];(first|lia|omega))) ⟨e,?_⟩;refine⟨.non,_,I.lset (its':=ad.take i.toNat++b::ad.drop i.toNat) (t':=s.toks) a e ?_ ((r.take _).append (.cons g (r.drop _))) ?_,rfl,q⟩
 ·have hk:(if i<0 then(i+(ad.toArray.size:Int)).toNat else min i.toNat ad.toArray.size)=i.toNat:=by
   rw[if_neg ω,Au];(first|lia|omega)
  dsimp only;rw[hk];simp;exact Ar (by rw[List.length_drop];exact Ad _)
 ·rw[AN,AH,Bo,List.length_drop]
  (first|lia|omega)
def L':gD X (.builtin "isinstance") (fun xs H Q=>∃b,xs=[.bl b,.ty "bool"]/\Q (.bl true) H):=by
 intro aa s σ H xs us Q I r h;obtain⟨b,rfl,q⟩:=h;obtain⟨u,d,rfl,a,c⟩:=vals2 r;cases a;cases c;exact call_isinstance_yes (Tx:="bool") (T:="bool") rfl (by first|rfl|kernel_rfl|(rw[typeOf];kernel_rfl)) (by rw[isSubtype_type];kernel_rfl) ⟨.bl true,H,I,rfl,q⟩
end
section
variable{X:Cx}{scope:Scope}{N':List Str}{aj:List (Option Nat)}{tg iter aR:Expr}{aG:List Expr}{wi:TI}{g:TG}{tc:TT}{te:TE}{pos:Pos}
def Ma(hc:X.calm=true)(hk:scope.kind=.function)(c:∀y∈scope.names,y.2=.cell->scope.names.lookup y.1=some .cell)(i:∀y∈scope.names,y.2=.free->scope.names.lookup y.1=some .free)(j:∀y∈scope.names,y.2=.local->scope.names.lookup y.1=some .local)(hfr:∀y∈scope.names,y.2=.free->X.env.kindOf y.1=some .cell\/X.env.kindOf y.1=some .free)(b:lZ X.N N' aj scope)(hi:PI X tg iter wi)(hg:∀a C s₀ H₀ ex,PG (cxD X scope N' a C s₀ H₀ ex) tg g)(l:∀a C s₀ H₀ ex,gG (cxD X scope N' a C s₀ H₀ ex) aG tc)(o:∀a C s₀ H₀ ex,PE (cxD X scope N' a C s₀ H₀ ex) aR te)(p:∀x,foldedSetIterable iter X.env x=pure x:=by intro _;rfl):PE X (.ListComp aR [⟨tg,iter,aG,0⟩] scope pos) (hX wi aj g tc te):=by
 intro aa s σ H Q I h;rw[eval_ListComp];refine EA (use:=none) hc hk c i j hfr b hi hg l o p I h fun D C H' r f L q=>?_;obtain⟨m,e⟩:=L.ns;exact⟨m,e,fun h' d=>⟨.ref D,H',L.back h' d,rfl,q⟩⟩
end
section
variable{X:Cx}
def HE(ns:List Int):∀k,k<=ns.length->preSum (fun i=>(ns[i]?).getD 0) k=(ns.take k).sum
 |0,_=>by simp[preSum]
 |k+1,h=>by
  have a:=HE ns k ω;have e:ns[k]?=some ns[k]:=Ab ω;show preSum (fun i=>(ns[i]?).getD 0) k+(ns[k]?).getD 0=_;rw[a,List.take_add_one,e,List.sum_append];simp
def ints_get{ns:List Int}{ad:List Value}(r:Vals (ns.map V.int) ad){i:Nat}{v:Value}(h:ad[i]?=some v):∃n t,ns[i]?=some n/\v=.int n t:=by
 have c:ad.length=ns.length:=by rw[<-r.length,Aa]
 have hi:i<ns.length:=by rw[<-c];exact(List.getElem?_eq_some_iff.mp h).1
 have e:ns[i]?=some ns[i]:=Ab hi;obtain⟨u,a,b⟩:=r.get (show(ns.map V.int)[i]?=some (V.int ns[i]) by rw[Aj,e];rfl);rw[h] at a;obtain rfl:=AR a;obtain⟨t,rfl⟩:=b;exact⟨_,t,e,rfl⟩
def HF(hc:X.calm=true):gD X (.builtin "sum") (fun xs H Q=>∃(l:Addr)(ns:List Int),xs=[.ref l]/\SqL X.K H l (ns.map V.int)/\Q (.int ns.sum) H):=by
 intro aa s σ H xs us Q I r h;obtain⟨l,ns,rfl,hq,q⟩:=h;obtain⟨u,rfl,p⟩:=vals1 r;cases p;obtain⟨ad,f,w,_⟩:=I.list hq;have x:=I.ok.hd hc;have c:=w.isList;have a:l<s⁻¹:=by obtain⟨_,e,_⟩:=c;exact Ax e
 have y:ad.length=ns.length:=by rw[<-f.length,Aa]
 refine call_sum_walkAnyS (wpAny_pyIter_list c ?_);refine⟨s⁻¹,[s⁻¹,l],[s⁻¹],_,ad.toArray.size,_,_,fun i=>(ns[i]?).getD 0,rfl,(Walks.list (A:=X.A.in1) x _ l (AD a) ad.toArray).toS,
  ⟨⟨_,AI _ rfl,rfl,rfl⟩,c.push _⟩,fun b hb=>?_,fun i v g=>?_,fun s' t' d=>?_⟩
 ·have z:b<=s⁻¹:=by
   simp only[List.mem_cons,List.not_mem_nil,or_false] at hb;rcases hb with rfl|rfl
   ·exact Ad _
   ·exact Nat.le_of_lt a
  exact Av z (Ax (AI _ rfl))
 ·obtain⟨n,t,e,rfl⟩:=ints_get f (show ad[i]?=some v by simpa using g)
  exact⟨t,by simp only[e,Option.getD_some]⟩
 ·have e:preSum (fun i=>(ns[i]?).getD 0) ad.toArray.size=ns.sum:=by
   rw[Au,y,HE ns _ (Ad _),Ar (Ad _)]
  rw[e,Moved.eq_with d];exact⟨.int _,H,I.kept (LSm.kept_iter fun b o hb j=>d.heap b o hb j),⟨_,rfl⟩,q⟩
end
end L2
end
section
namespace Tim
open PySem PyProof.Rows
def R(ρ:Keyed->Int)(xs:Array Keyed)(i:Nat):Int:=match xs[i]? with
 |some p=>ρ p
 |none=>0
def t4{ρ:Keyed->Int}{xs ys:Array Keyed}{i j:Nat}(h:xs[i]?=ys[j]?):R ρ xs i=R ρ ys j:=by unfold R;rw[h]
def jm{ρ:Keyed->Int}{xs:Array Keyed}{i:Nat}{p:Keyed}(h:xs[i]?=some p):R ρ xs i=ρ p:=by unfold R;rw[h]
def cz(ρ:Keyed->Int)(xs:Array Keyed)(lo hi:Nat):Prop:=∀i j,lo<=i->i<=j->j<hi->R ρ xs i<=R ρ xs j
def oK(ρ:Keyed->Int)(xs:Array Keyed)(lo hi:Nat):Prop:=∀i j,lo<=i->i<=j->j<hi->R ρ xs j<=R ρ xs i
def f'{ρ:Keyed->Int}{xs:Array Keyed}{i j:Nat}(a:j<=xs.size)(k:Nat):R ρ (mirror xs i j ((j-i) / 2)) k=if i<=k/\k<j then R ρ xs (i+j-1-k) else R ρ xs k:=by
 have e:=getElem?_mirror_all (i:=i) a k
 by_cases h1:i<=k/\k<j
 ·rw[if_pos h1] at e ⊢;exact t4 e
 ·rw[if_neg h1] at e ⊢;exact t4 e
def zD{ρ:Keyed->Int}{xs:Array Keyed}{i j:Nat}(b:j<=xs.size)(a:∀k,i<=k->k<j->R ρ xs k=R ρ xs (j-1))(k:Nat):R ρ (mirror xs i j ((j-i) / 2)) k=R ρ xs k:=by
 rw[f' b];split
 ·rw[a _ ω ω,a k ω ω]
 ·rfl
def oM{ρ:Keyed->Int}{xs:Array Keyed}{src d:Nat}(a:src<xs.size)(hd:d<=src)(k:Nat):R ρ (bubble xs src d) k=if k=src-d then R ρ xs src else if src-d<k/\k<=src then R ρ xs (k-1) else R ρ xs k:=by
 have e:=getElem?_bubble a d hd k
 by_cases h1:k=src-d
 ·rw[if_pos h1] at e ⊢;exact t4 e
 ·rw[if_neg h1] at e ⊢
  by_cases h2:src-d<k/\k<=src
  ·rw[if_pos h2] at e ⊢;exact t4 e
  ·rw[if_neg h2] at e ⊢;exact t4 e
structure iS(prog:Program)(w:World)(A:Around)(s:Shared)(κ:SortKind)(a₀:Array Keyed)(ρ:Keyed->Int):Prop where
 lt:∀x y,x∈a₀.toList->y∈a₀.toList->∀(Q:Bool->Shared->Prop)(E:Ω),Q (decide (ρ x<ρ y)) s->wpAny (model prog w) A (keyLt' κ x.1 y.1) Q E s
structure B(κ:SortKind)(a₀:Array Keyed)(st:SortSt):Prop where
 perm:(arrOf st).Perm a₀
 kind:kindOf st=κ
 failed:failedOf st=none
def B.size{κ:SortKind}{a₀:Array Keyed}{st:SortSt}(h:B κ a₀ st):(arrOf st).size=a₀.size:=h.perm.size_eq
def B.setArr{κ:SortKind}{a₀:Array Keyed}{st:SortSt}(h:B κ a₀ st){xs:Array Keyed}(hp:xs.Perm (arrOf st)):B κ a₀ (setArr st xs):=⟨hp.trans h.perm,h.kind,h.failed⟩
def B.mem{κ:SortKind}{a₀:Array Keyed}{st:SortSt}(h:B κ a₀ st){p:Keyed}(hp:p∈(arrOf st).toList):p∈a₀.toList:=(Array.perm_iff_toList_perm.mp h.perm).mem_iff.mp hp
def HG{xs:Array Keyed}{i:Nat}(hi:i<xs.size):∃p,xs[i]?=some p/\p∈xs.toList:=⟨xs[i],getElem?_pos _ i hi,by simp⟩
structure Pre(lo:Nat)(st ae:SortSt):Prop where
 arr:∀k,k<lo->(arrOf ae)[k]?=(arrOf st)[k]?
 pend:pendingOf ae=pendingOf st
def Pre.refl{lo:Nat}{st:SortSt}:Pre lo st st:=⟨fun _ _=>rfl,rfl⟩
def Pre.trans{lo:Nat}{a b c:SortSt}(x:Pre lo a b)(y:Pre lo b c):Pre lo a c:=⟨fun k h=>(y.arr k h).trans (x.arr k h),y.pend.trans x.pend⟩
def Pre.mir{lo i j:Nat}{st:SortSt}(a:j<=(arrOf st).size)(hi:lo<=i):Pre lo st (setArr st (mirror (arrOf st) i j ((j-i) / 2))):=
 ⟨fun k h=>by show(mirror _ _ _ _)[k]?=_;rw[getElem?_mirror_all a,if_neg ω],rfl⟩
def Pre.bub{lo src d:Nat}{st:SortSt}(a:src<(arrOf st).size)(hd:d<=src)(b:lo<=src-d):Pre lo st (setArr st (bubble (arrOf st) src d)):=
 ⟨fun k h=>by show(bubble _ _ _)[k]?=_;rw[getElem?_bubble a d hd,if_neg ω,if_neg ω],rfl⟩
section
variable{prog:Program}{w:World}{A:Around}{E:Ω}{s:Shared}{κ:SortKind}{a₀:Array Keyed}{ρ:Keyed->Int}
def Mb(C:iS prog w A s κ a₀ ρ){st:SortSt}(a:B κ a₀ st){x y:Keyed}(hx:x∈a₀.toList)(hy:y∈a₀.toList){Q:Option Bool->SortSt->Prop}(h:Q (some (decide (ρ x<ρ y))) st):wpS (model prog w) A E s (lt' x y) Q st:=by
 rw[lt'_eq];refine wpS_bind (wpS_get ?_);rw[a.kind];refine wpS_bind (wpS_lift (wpAny_attempt (C.lt x y hx hy _ _ ⟨rfl,?_⟩)));exact wpS_pure h
def HH{st:SortSt}{xs:Array Keyed}{i:Nat}{p:Keyed}(h:xs[i]?=some p){Q:Keyed->SortSt->Prop}(hq:Q p st):wpS (model prog w) A E s (elem' xs i) Q st:=by
 rw[elem'_eq,h];exact wpS_pure hq
def t8(C:iS prog w A s κ a₀ ρ){st:SortSt}(a:B κ a₀ st){i j:Nat}(hi:i<a₀.size)(c:j<a₀.size){Q:Option Bool->SortSt->Prop}(h:Q (some (decide (R ρ (arrOf st) i<R ρ (arrOf st) j))) st):wpS (model prog w) A E s (ltAt' i j) Q st:=by
 obtain⟨p,e1,b⟩:=HG (xs:=arrOf st) (i:=i) (by rw[a.size];exact hi);obtain⟨q,e2,m2⟩:=HG (xs:=arrOf st) (i:=j) (by rw[a.size];exact c);rw[ltAt'_eq];refine wpS_bind (wpS_get ?_);show wpS _ _ _ _ (do let x <-elem' (arrOf st) i;let y <-elem' (arrOf st) j;lt' x y) Q st;refine wpS_bind (HH e1 (wpS_bind (HH e2 (Mb C a (a.mem b) (a.mem m2) ?_))));rw[jm e1,jm e2] at h;exact h
def asc(lo a b:Nat):StateT SortSt Sem AscSt:=
 forIn [a:b] ((none,a):AscSt) fun _ __s=>do
  let __x <-ltAt' (lo+__s.snd) (lo+__s.snd-1)
  match __x with
  |some smaller=>if smaller=true then pure (ForInStep.done (none,__s.snd)) else pure (ForInStep.yield (none,__s.snd+1))
  |_=>pure (ForInStep.done (some none,__s.snd))
def ua(lo n a:Nat):StateT SortSt Sem (Option Nat):=do
 reverseSlice' lo (lo+n)
 let __s <-asc lo n a
 match __s.fst with
 |some r=>pure r
 |none=>pure (some __s.snd)
def CS(lo n a:Nat):StateT SortSt Sem DescSt:=
 forIn [n:a] ((none,n,0):DescSt) fun _ __s=>do
  let __x <-ltAt' (lo+__s.snd.fst) (lo+__s.snd.fst-1)
  match __x with
  |some smaller=>
   if smaller=true then
    if __s.snd.snd>0 then do
     reverseSlice' (lo+__s.snd.fst-(__s.snd.snd+1)) (lo+__s.snd.fst)
     pure (ForInStep.yield (none,__s.snd.fst+1,0))
    else pure (ForInStep.yield (none,__s.snd.fst+1,0))
   else do
    let __x <-ltAt' (lo+__s.snd.fst-1) (lo+__s.snd.fst)
    match __x with
    |some larger=>
     if larger=true then pure (ForInStep.done (none,__s.snd.fst,__s.snd.snd))
     else pure (ForInStep.yield (none,__s.snd.fst+1,__s.snd.snd+1))
    |_=>pure (ForInStep.done (some none,__s.snd.fst,__s.snd.snd))
  |_=>pure (ForInStep.done (some none,__s.snd.fst,__s.snd.snd))
def um(lo n a:Nat):StateT SortSt Sem (Option Nat):=do
 liftM (rule "list.sort.descending-run")
 let __s <-CS lo (n+1) a
 match __s.fst with
 |some r=>pure r
 |none=>
  if __s.snd.snd>0 then do
   reverseSlice' (lo+__s.snd.fst-(__s.snd.snd+1)) (lo+__s.snd.fst)
   ua lo __s.snd.fst a
  else ua lo __s.snd.fst a
def a9{b c:Type}{m:StateT SortSt Sem b}{f g:b->StateT SortSt Sem c}(h:∀a,f a=g a):(m >>= f)=(m >>= g):=by
 have e:f=g:=funext h;rw[e]
def Mc(lo d:Nat):countRun' lo d=(do
  let __s <-asc lo 1 d
  match __s.fst with
  |some r=>pure r
  |none=>
   if(__s.snd==d)=true then pure (some __s.snd)
   else if __s.snd>1 then do
    let __x <-ltAt' lo (lo+__s.snd-1)
    match __x with
    |some rose=>if rose=true then pure (some __s.snd) else do
      reverseSlice' lo (lo+__s.snd)
      um lo __s.snd d
    |_=>pure none
   else um lo __s.snd d):=by
 rw[countRun'_eq];unfold um ua CS asc;refine a9 fun g=>?_;obtain⟨r,n⟩:=g;cases r with
 |some r=>rfl
 |none=>
  dsimp only;split
  ·rfl
  ·split
   ·refine a9 fun x=>?_
    cases x with
    |none=>rfl
    |some rose=>
     dsimp only;split
     ·rfl
     ·refine a9 fun _r=>a9 fun _u=>a9 fun e=>?_
      obtain⟨c,n2,h⟩:=e;cases c with
      |some c=>rfl
      |none=>
       dsimp only;split
       ·refine a9 fun _v=>a9 fun _w=>a9 fun a=>?_
        obtain⟨b,f⟩:=a;cases b<;>rfl
       ·refine a9 fun _w=>a9 fun a=>?_
        obtain⟨b,f⟩:=a;cases b<;>rfl
   ·refine a9 fun _u=>a9 fun e=>?_
    obtain⟨c,n2,h⟩:=e;cases c with
    |some c=>rfl
    |none=>
     dsimp only;split
     ·refine a9 fun _v=>a9 fun _w=>a9 fun a=>?_
      obtain⟨b,f⟩:=a;cases b<;>rfl
     ·refine a9 fun _w=>a9 fun a=>?_
      obtain⟨b,f⟩:=a;cases b<;>rfl
def HI(C:iS prog w A s κ a₀ ρ){st:SortSt}{lo a d:Nat}{Q:AscSt->SortSt->Prop}(F:lo+d<=a₀.size)(G:1<=a)(u:a<=d)(v:B κ a₀ st)(y:cz ρ (arrOf st) lo (lo+a))(h:∀n,a<=n->n<=d->cz ρ (arrOf st) lo (lo+n)->(n=d\/R ρ (arrOf st) (lo+n)<R ρ (arrOf st) (lo+n-1))->Q (none,n) st):wpS (model prog w) A E s (asc lo a d) Q st:=by
 unfold asc;refine wpS_forRange (I:=fun x c f=>f=st/\c=(none,x)/\cz ρ (arrOf st) lo (lo+x)) ?step ?fin ⟨rfl,rfl,y⟩
 case fin=>
  rintro c f ⟨rfl,rfl,e⟩;rw[show max a d=d from ω] at e ⊢;exact h d u (Ad _) e (.inl rfl)
 case step=>
  rintro x c f r D ⟨rfl,rfl,e⟩;dsimp only;refine wpS_bind (t8 C v ω ω ?_)
  by_cases b:R ρ (arrOf f) (lo+x)<R ρ (arrOf f) (lo+x-1)
  ·simp only[b,decide_true,if_true]
   exact wpS_pure (h x r ω e (.inr b))
  ·simp only[b,decide_false,Bool.false_eq_true,if_false]
   refine wpS_pure ⟨rfl,rfl,fun i j p q z=>?_⟩
   by_cases l:j<lo+x
   ·exact e i j p q l
   ·have g:j=lo+x:=ω
    subst g
    by_cases o:i=lo+x
    ·subst o;exact Int.le_refl _
    ·exact Int.le_trans (e i (lo+x-1) p ω ω) (Int.not_lt.mp b)
def CT{st:SortSt}{i j:Nat}{Q:Unit->SortSt->Prop}(h:Q () (setArr st (mirror (arrOf st) i j ((j-i) / 2)))):wpS (model prog w) A E s (reverseSlice' i j) Q st:=by
 rw[reverseSlice'_eq];exact wpS_modify h
end
def Tl(τ:Keyed->Int)(xs:Array Keyed)(m:Nat):Prop:=∀i j,i<j->m<=j->j<xs.size->R τ xs i<=R τ xs j
def St(ρ τ:Keyed->Int)(xs:Array Keyed)(lo hi:Nat):Prop:=∀i j,lo<=i->i<j->j<hi->R ρ xs i=R ρ xs j->R τ xs i<=R τ xs j
def As(ρ τ:Keyed->Int)(xs:Array Keyed)(lo hi:Nat):Prop:=∀i j,lo<=i->i<j->j<hi->R ρ xs i=R ρ xs j->R τ xs j<=R τ xs i
def Tl.mono{τ:Keyed->Int}{xs:Array Keyed}{m n:Nat}(h:Tl τ xs m)(d:m<=n):Tl τ xs n:=fun i j a b c=>h i j a ω c
def Md(xs:Array Keyed)(i j m:Nat):(mirror xs i j m).size=xs.size:=(mirror_perm xs i j m).size_eq
def Tl.mir{τ:Keyed->Int}{xs:Array Keyed}{a b m:Nat}(h:Tl τ xs m)(hb:b<=xs.size)(f:b<=m):Tl τ (mirror xs a b ((b-a) / 2)) m:=fun i j e d c=>by
 rw[Md] at c;rw[f' hb,f' hb,if_neg (show ¬(a<=j/\j<b) from ω)];split
 ·exact h _ _ ω d c
 ·exact h _ _ e d c
section
variable{prog:Program}{w:World}{A:Around}{E:Ω}{s:Shared}{κ:SortKind}{a₀:Array Keyed}{ρ τ:Keyed->Int}
abbrev l7(κ:SortKind)(a₀:Array Keyed)(ρ τ:Keyed->Int)(lo ag:Nat)(st:SortSt)(Q:Option Nat->SortSt->Prop):Prop:=
 ∀m ae,B κ a₀ ae->Pre lo st ae->1<=m->m<=ag->cz ρ (arrOf ae) lo (lo+m)->St ρ τ (arrOf ae) lo (lo+m)->Tl τ (arrOf ae) (lo+m)->Q (some m) ae
def HJ(C:iS prog w A s κ a₀ ρ){st l:SortSt}{lo n c:Nat}{Q:Option Nat->SortSt->Prop}(x:lo+c<=a₀.size)(h1:1<=n)(e:n<=c)(o:B κ a₀ st)(y:Pre lo l st)(z:oK ρ (arrOf st) lo (lo+n))(D:As ρ τ (arrOf st) lo (lo+n))(F:Tl τ (arrOf st) (lo+n))(h:l7 κ a₀ ρ τ lo c l Q):wpS (model prog w) A E s (ua lo n c) Q st:=by
 unfold ua;have hsz:lo+n<=(arrOf st).size:=by rw[o.size];(first|lia|omega)
 refine wpS_bind (CT ?_);have d:B κ a₀ (setArr st (mirror (arrOf st) lo (lo+n) ((lo+n-lo) / 2))):=o.setArr (mirror_perm _ _ _ _);have a:Tl τ (arrOf (setArr st (mirror (arrOf st) lo (lo+n) ((lo+n-lo) / 2)))) (lo+n):=F.mir hsz (Ad _);refine wpS_bind (HI C x h1 e d ?_ fun m G p q _=>wpS_pure (h m _ d (y.trans (.mir hsz (Ad _))) ω p q (fun i j r g u v=>?_) (a.mono ω)))
 ·intro i j r g u
  show R ρ (mirror (arrOf st) lo (lo+n) ((lo+n-lo) / 2)) i<=R ρ (mirror (arrOf st) lo (lo+n) ((lo+n-lo) / 2)) j;rw[f' hsz,f' hsz,if_pos ω,if_pos ω];exact z _ _ ω ω ω
 ·by_cases f:lo+n<=j
  ·exact a i j g f (by rw[d.size];(first|lia|omega))
  ·have b:R ρ (mirror (arrOf st) lo (lo+n) ((lo+n-lo) / 2)) i=R ρ (mirror (arrOf st) lo (lo+n) ((lo+n-lo) / 2)) j:=v
   show R τ (mirror (arrOf st) lo (lo+n) ((lo+n-lo) / 2)) i<=R τ (mirror (arrOf st) lo (lo+n) ((lo+n-lo) / 2)) j;rw[f' hsz,f' hsz,if_pos ω,if_pos ω] at b;rw[f' hsz,f' hsz,if_pos ω,if_pos ω];exact D _ _ ω ω ω b.symm
structure Grp(ρ τ:Keyed->Int)(xs:Array Keyed)(lo x aM:Nat):Prop where
 as:As ρ τ xs lo (lo+x-(aM+1))
 inc:∀i j,lo+x-(aM+1)<=i->i<j->j<lo+x->R τ xs i<=R τ xs j
 str:∀i,lo<=i->i<lo+x-(aM+1)->R ρ xs (lo+x-1)<R ρ xs i
 tl:Tl τ xs (lo+x)
def Grp.turned{xs:Array Keyed}{lo x a:Nat}(g:Grp ρ τ xs lo x a)(hsz:lo+x<=xs.size)(hq:a+1<=x)(b:∀i,lo+x-(a+1)<=i->i<lo+x->R ρ xs i=R ρ xs (lo+x-1)):As ρ τ (mirror xs (lo+x-(a+1)) (lo+x) ((lo+x-(lo+x-(a+1))) / 2)) lo (lo+x):=fun i j e f h hr=>by
 rw[zD hsz b,zD hsz b] at hr;rw[f' hsz,f' hsz]
 by_cases c:j<lo+x-(a+1)
 ·rw[if_neg ω,if_neg ω];exact g.as i j e f c hr
 ·by_cases d:i<lo+x-(a+1)
  ·have:=g.str i e d
   rw[b j ω h] at hr;(first|lia|omega)
  ·rw[if_pos ω,if_pos ω]
   exact g.inc _ _ ω ω ω
def Grp.one{xs:Array Keyed}{lo x:Nat}(g:Grp ρ τ xs lo x 0):As ρ τ xs lo (lo+x):=fun i j c d e hr=>by
 by_cases b:j<lo+x-1
 ·exact g.as i j c d b hr
 ·have a:j=lo+x-1:=ω
  have:=g.str i c ω;rw[<-a] at this;(first|lia|omega)
def Me(C:iS prog w A s κ a₀ ρ){st L:SortSt}{lo n D:Nat}{Q:DescSt->SortSt->Prop}(Z:lo+D<=a₀.size)(h1:1<=n)(M:n<=D)(U:B κ a₀ st)(W:Pre lo L st)(X:oK ρ (arrOf st) lo (lo+n))(hg:Grp ρ τ (arrOf st) lo n 0)(h:∀m e b,B κ a₀ b->Pre lo L b->n<=m->m<=D->oK ρ (arrOf b) lo (lo+m)->e+1<=m->(∀i,lo+m-(e+1)<=i->i<lo+m->R ρ (arrOf b) i=R ρ (arrOf b) (lo+m-1))->Grp ρ τ (arrOf b) lo m e->Q (none,m,e) b):wpS (model prog w) A E s (CS lo n D) Q st:=by
 unfold CS;refine wpS_forRange (I:=fun x c b=>∃e,c=(none,x,e)/\B κ a₀ b/\Pre lo L b/\oK ρ (arrOf b) lo (lo+x)/\e+1<=x/\
   (∀i,lo+x-(e+1)<=i->i<lo+x->R ρ (arrOf b) i=R ρ (arrOf b) (lo+x-1))/\Grp ρ τ (arrOf b) lo x e) ?step ?fin ⟨0,rfl,U,W,X,ω,fun i h1 h2=>by congr 1;(first|lia|omega),hg⟩
 case fin=>
  rintro c b ⟨e,rfl,r,G,u,hq,v,g⟩;rw[show max n D=D from ω] at u hq v g ⊢;exact h D e b r G M (Ad _) u hq v g
 case step=>
  rintro x c b S Y ⟨e,rfl,r,G,u,hq,v,g⟩;dsimp only;have hsz:lo+x<=(arrOf b).size:=by rw[r.size];(first|lia|omega)
  refine wpS_bind (t8 C r ω ω ?_)
  by_cases d:R ρ (arrOf b) (lo+x)<R ρ (arrOf b) (lo+x-1)
  ·simp only[d,decide_true,if_true]
   have l:∀xs:Array Keyed,(∀k,R ρ xs k=R ρ (arrOf b) k)->oK ρ xs lo (lo+(x+1)):=by
    intro xs hk i j H J O;rw[hk,hk]
    by_cases q:j<lo+x
    ·exact u i j H J q
    ·have z:j=lo+x:=ω
     subst z
     by_cases F:i=lo+x
     ·subst F;exact Int.le_refl _
     ·exact Int.le_trans (Int.le_of_lt d) (u i (lo+x-1) H ω ω)
   have o:∀xs:Array Keyed,(∀k,R ρ xs k=R ρ (arrOf b) k)->As ρ τ xs lo (lo+x)->Tl τ xs (lo+x)->Grp ρ τ xs lo (x+1) 0:=fun xs hk a t=>by
    refine⟨?_,fun i j h1 h2 P=>ω,fun i h1 h2=>?_,t.mono ω⟩
    ·rw[show lo+(x+1)-(0+1)=lo+x from ω];exact a
    ·rw[show lo+(x+1)-1=lo+x from ω,hk,hk]
     exact Int.lt_of_lt_of_le d (u i (lo+x-1) h1 ω ω)
   by_cases y:e>0
   ·rw[if_pos y]
    refine wpS_bind (CT (wpS_pure ⟨0,rfl,r.setArr (mirror_perm _ _ _ _),G.trans (.mir hsz ω),l _ (zD hsz v),ω,fun i h1 h2=>by congr 1;(first|lia|omega),o _ (zD hsz v) (g.turned hsz hq v) (g.tl.mir hsz (Ad _))⟩))
   ·rw[if_neg y]
    have T:e=0:=ω
    subst T;exact wpS_pure ⟨0,rfl,r,G,l _ (fun _=>rfl),ω,fun i h1 h2=>by congr 1;(first|lia|omega),o _ (fun _=>rfl) g.one g.tl⟩
  ·simp only[d,decide_false,Bool.false_eq_true,if_false]
   refine wpS_bind (t8 C r ω ω ?_)
   by_cases f:R ρ (arrOf b) (lo+x-1)<R ρ (arrOf b) (lo+x)
   ·simp only[f,decide_true,if_true]
    exact wpS_pure (h x e b r G S ω u hq v g)
   ·simp only[f,decide_false,Bool.false_eq_true,if_false]
    have p:R ρ (arrOf b) (lo+x)=R ρ (arrOf b) (lo+x-1):=ω
    refine wpS_pure ⟨e+1,rfl,r,G,fun i j H J O=>?_,ω,fun i h1 h2=>?_,?_⟩
    ·by_cases q:j<lo+x
     ·exact u i j H J q
     ·have z:j=lo+x:=ω
      subst z
      by_cases F:i=lo+x
      ·subst F;exact Int.le_refl _
      ·rw[p];exact u i (lo+x-1) H ω ω
    ·rw[show lo+(x+1)-1=lo+x from ω]
     by_cases N:i=lo+x
     ·subst N;rfl
     ·rw[p];exact v i ω ω
    ·have hb:lo+(x+1)-(e+1+1)=lo+x-(e+1):=ω
     refine⟨by rw[hb];exact g.as,fun i j h1 h2 P=>?_,fun i h1 h2=>?_,g.tl.mono ω⟩
     ·by_cases q:j<lo+x
      ·exact g.inc i j ω h2 q
      ·exact g.tl i j h2 ω (by rw[r.size];(first|lia|omega))
     ·rw[show lo+(x+1)-1=lo+x from ω,p]
      exact g.str i h1 ω
def HK(C:iS prog w A s κ a₀ ρ){st u:SortSt}{lo n b:Nat}{Q:Option Nat->SortSt->Prop}(f:lo+b<=a₀.size)(l:n+1<=b)(D:B κ a₀ st)(F:Pre lo u st)(G:oK ρ (arrOf st) lo (lo+(n+1)))(hg:Grp ρ τ (arrOf st) lo (n+1) 0)(h:l7 κ a₀ ρ τ lo b u Q):wpS (model prog w) A E s (um lo n b) Q st:=by
 unfold um;refine wpS_bind (wpS_lift (wpAny_rule ⟨rfl,?_⟩));refine wpS_bind (Me C f ω l D F G hg fun m o c d p H q r hq e g=>?_);dsimp only;have hsz:lo+m<=(arrOf c).size:=by rw[d.size];(first|lia|omega)
 by_cases a:o>0
 ·rw[if_pos a]
  refine wpS_bind (CT (HJ C f ω q (d.setArr (mirror_perm _ _ _ _)) (p.trans (.mir hsz ω)) ?_ (g.turned hsz hq e) (g.tl.mir hsz (Ad _)) h));intro i j v x y;show R ρ (mirror (arrOf c) _ _ _) j<=R ρ (mirror (arrOf c) _ _ _) i;rw[zD hsz e,zD hsz e];exact r i j v x y
 ·rw[if_neg a]
  have z:o=0:=ω
  subst z;exact HJ C f ω q d p r g.one g.tl h
def Mf(C:iS prog w A s κ a₀ ρ){st:SortSt}{lo u:Nat}{Q:Option Nat->SortSt->Prop}(D:lo+u<=a₀.size)(h1:1<=u)(e:B κ a₀ st)(p:Tl τ (arrOf st) lo)(h:l7 κ a₀ ρ τ lo u st Q):wpS (model prog w) A E s (countRun' lo u) Q st:=by
 rw[Mc];refine wpS_bind (HI C D (Ad 1) h1 e (fun i j b o q=>?_) fun n G H x J=>?_)
 ·have:i=j:=ω
  subst this;exact Int.le_refl _
 dsimp only;have I:St ρ τ (arrOf st) lo (lo+n):=fun i j b o q _=>p i j o ω (by rw[e.size];(first|lia|omega))
 by_cases g:n=u
 ·rw[if_pos (by simpa using g)]
  exact wpS_pure (h n st e .refl G H x I (p.mono ω))
 ·rw[if_neg (by simpa using g)]
  have d:R ρ (arrOf st) (lo+n)<R ρ (arrOf st) (lo+n-1):=J.resolve_left g
  by_cases v:n>1
  ·rw[if_pos v]
   refine wpS_bind (t8 C e ω ω ?_)
   by_cases c:R ρ (arrOf st) lo<R ρ (arrOf st) (lo+n-1)
   ·simp only[c,decide_true,if_true]
    exact wpS_pure (h n st e .refl G H x I (p.mono ω))
   ·simp only[c,decide_false,Bool.false_eq_true,if_false]
    have hsz:lo+n<=(arrOf st).size:=by rw[e.size];(first|lia|omega)
    have a:∀k,lo<=k->k<lo+n->R ρ (arrOf st) k=R ρ (arrOf st) (lo+n-1):=by
     intro k b hk;have a1:=x lo k ω b hk;have a2:=x k (lo+n-1) b ω ω;(first|lia|omega)
    refine wpS_bind (CT (HK C D ω (e.setArr (mirror_perm _ _ _ _)) (.mir hsz (Ad _)) ?_ ⟨?_,?_,?_,?_⟩ h))
    ·intro i j b o q
     show R ρ (mirror (arrOf st) _ _ _) j<=R ρ (mirror (arrOf st) _ _ _) i;rw[zD hsz a,zD hsz a]
     by_cases F:j<lo+n
     ·rw[a i ω ω,a j ω F];exact Int.le_refl _
     ·have y:j=lo+n:=ω
      subst y
      by_cases l:i=lo+n
      ·subst l;exact Int.le_refl _
      ·rw[a i ω ω];exact Int.le_of_lt d
    ·rw[show lo+(n+1)-(0+1)=lo+n from ω]
     intro i j b o q _;show R τ (mirror (arrOf st) _ _ _) j<=R τ (mirror (arrOf st) _ _ _) i;rw[f' hsz,f' hsz,if_pos ω,if_pos ω];exact p _ _ ω ω ω
    ·intro i j h1 h2 L;(first|lia|omega)
    ·intro i b hi
     show R ρ (mirror (arrOf st) _ _ _) _<R ρ (mirror (arrOf st) _ _ _) i;rw[zD hsz a,zD hsz a,show lo+(n+1)-1=lo+n from ω,a i b ω];exact d
    ·exact(p.mono (show lo<=lo+n from ω)).mir hsz (Ad _)|>.mono ω
  ·rw[if_neg v]
   have r:n=1:=ω
   subst r;refine HK C D ω e .refl ?_ ⟨?_,?_,?_,p.mono ω⟩ h
   ·intro i j b o q
    by_cases l:i=j
    ·subst l;exact Int.le_refl _
    ·have f:i=lo:=ω
     have z:j=lo+1:=ω
     subst f;subst z;exact Int.le_of_lt d
   ·intro i j b o q;(first|lia|omega)
   ·intro i j h1 h2 L;(first|lia|omega)
   ·intro i b hi
    have f:i=lo:=ω
    subst f;exact d
def Mg(C:iS prog w A s κ a₀ ρ){st:SortSt}{lo n ok:Nat}{Q:Bool->SortSt->Prop}(Z:lo+n<=a₀.size)(U:ok<=n)(xO:1<=ok)(W:B κ a₀ st)(F:cz ρ (arrOf st) lo (lo+ok))(X:St ρ τ (arrOf st) lo (lo+ok))(Y:Tl τ (arrOf st) (lo+ok))(h:∀a,B κ a₀ a->Pre lo st a->cz ρ (arrOf a) lo (lo+n)->St ρ τ (arrOf a) lo (lo+n)->Q true a):wpS (model prog w) A E s (binarySort' lo n ok) Q st:=by
 rw[binarySort'_eq];refine wpS_bind (wpS_mono (wpS_forRange (I:=fun k c a=>c=(none,())/\B κ a₀ a/\Pre lo st a/\cz ρ (arrOf a) lo (lo+min k n)/\St ρ τ (arrOf a) lo (lo+min k n)/\Tl τ (arrOf a) (lo+min k n))
  (Q:=fun c a=>c=(none,())/\B κ a₀ a/\Pre lo st a/\cz ρ (arrOf a) lo (lo+n)/\St ρ τ (arrOf a) lo (lo+n)) ?step ?fin ?init) ?post)
 case post=>
  rintro c a ⟨rfl,o,v,f,g⟩;exact wpS_pure (h a o v f g)
 case init=>
  rw[show min (max ok 1) n=ok from ω];exact⟨rfl,W,.refl,F,X,Y⟩
 case fin=>
  rintro c a ⟨hc,o,v,f,g,_⟩;rw[show min (max (max ok 1) n) n=n from ω] at f g;exact⟨hc,o,v,f,g⟩
 case step=>
  rintro k c a B5 Bw ⟨rfl,o,v,f,g,y⟩;rw[show min k n=k from ω] at f g y;have hk:lo+k<a₀.size:=ω
  refine wpS_bind (wpS_mono (wpS_forRange (I:=fun x c b=>b=a/\∃l r,c=(none,l,r)/\l<=r/\r<=k/\r-l<=k-x/\
    (∀i,i<l->R ρ (arrOf a) (lo+i)<=R ρ (arrOf a) (lo+k))/\(∀i,r<=i->i<k->R ρ (arrOf a) (lo+k)<R ρ (arrOf a) (lo+i)))
   (Q:=fun c b=>b=a/\∃l r,c=(none,l,r)/\l<=k/\
    (∀i,i<l->R ρ (arrOf a) (lo+i)<=R ρ (arrOf a) (lo+k))/\(∀i,l<=i->i<k->R ρ (arrOf a) (lo+k)<R ρ (arrOf a) (lo+i))) ?istep ?ifin ?iinit) ?ipost)
  case iinit=>exact⟨rfl,0,k,rfl,ω,ω,ω,fun i hi=>ω,fun i h1 h2=>ω⟩
  case ifin=>
   rintro c b ⟨rfl,l,r,rfl,P,G,S,q,u⟩;have:l=r:=ω
   subst this;exact⟨rfl,l,l,rfl,G,q,u⟩
  case istep=>
   rintro x c b _ BO ⟨rfl,l,r,rfl,P,G,S,q,u⟩;dsimp only
   by_cases z:l ≥ r
   ·rw[if_pos z]
    have:l=r:=ω
    subst this;exact wpS_pure ⟨rfl,l,l,rfl,G,q,u⟩
   ·rw[if_neg z]
    refine wpS_bind (t8 C o hk ω ?_)
    by_cases e:R ρ (arrOf b) (lo+k)<R ρ (arrOf b) (lo+(l+r) / 2)
    ·simp only[e,decide_true,if_true]
     refine wpS_pure ⟨rfl,l,(l+r) / 2,rfl,ω,ω,ω,q,fun i h1 h2=>?_⟩;exact Int.lt_of_lt_of_le e (f _ _ ω ω ω)
    ·simp only[e,decide_false,Bool.false_eq_true,if_false]
     refine wpS_pure ⟨rfl,(l+r) / 2+1,r,rfl,ω,ω,ω,fun i h1=>?_,u⟩;exact Int.le_trans (f (lo+i) (lo+(l+r) / 2) ω ω ω) (Int.not_lt.mp e)
  case ipost=>
   rintro c b ⟨rfl,l,r,rfl,Ck,q,u⟩;show wpS _ _ _ _ (do moveDown' (lo+k) (lo+l);pure (ForInStep.yield (none,()))) _ _;rw[moveDown'_eq];have p:lo+k<(arrOf b).size:=by rw[o.size];exact hk
   have T:∀i,lo<=i->i<lo+l->R ρ (arrOf b) i<=R ρ (arrOf b) (lo+k):=fun i h1 h2=>by
    have:=q (i-lo) ω;rwa [show lo+(i-lo)=i from ω] at this
   have M:∀i,lo+l<=i->i<lo+k->R ρ (arrOf b) (lo+k)<R ρ (arrOf b) i:=fun i h1 h2=>by
    have:=u (i-lo) ω ω;rwa [show lo+(i-lo)=i from ω] at this
   refine wpS_bind (wpS_modify (wpS_pure ⟨rfl,o.setArr (bubble_perm _ _ _),v.trans (.bub p ω ω),?_,?_,?_⟩))
   ·rw[show min (k+1) n=k+1 from ω]
    intro i j N D L;show R ρ (bubble (arrOf b) (lo+k) (lo+k-(lo+l))) i<=R ρ (bubble (arrOf b) (lo+k) (lo+k-(lo+l))) j;rw[oM p ω,oM p ω,show lo+k-(lo+k-(lo+l))=lo+l from ω]
    repeat' split
    all_goals first
     |(exfalso;(first|lia|omega))
     |exact Int.le_refl _
     |exact T _ ω ω
     |exact Int.le_of_lt (M _ ω ω)
     |exact f _ _ ω ω ω
   ·rw[show min (k+1) n=k+1 from ω]
    intro i j N D L O;have d:R ρ (bubble (arrOf b) (lo+k) (lo+k-(lo+l))) i=R ρ (bubble (arrOf b) (lo+k) (lo+k-(lo+l))) j:=O;show R τ (bubble (arrOf b) (lo+k) (lo+k-(lo+l))) i<=R τ (bubble (arrOf b) (lo+k) (lo+k-(lo+l))) j;rw[oM p ω,oM p ω,show lo+k-(lo+k-(lo+l))=lo+l from ω] at d ⊢
    by_cases i1:i=lo+l
    ·rw[if_pos i1,if_neg ω,if_pos ω] at d
     have:=M (j-1) ω ω;(first|lia|omega)
    ·by_cases i2:lo+l<i
     ·rw[if_neg i1,if_pos ω,if_neg ω,if_pos ω] at d ⊢
      exact g _ _ ω ω ω d
     ·by_cases J:j=lo+l
      ·rw[if_neg i1,if_neg ω,if_pos J] at d ⊢
       exact y _ _ ω ω ω
      ·by_cases j2:lo+l<j
       ·rw[if_neg i1,if_neg ω,if_neg J,if_pos ω] at d ⊢
        exact g _ _ ω ω ω d
       ·rw[if_neg i1,if_neg ω,if_neg J,if_neg ω] at d ⊢
        exact g _ _ ω ω ω d
   ·rw[show min (k+1) n=k+1 from ω]
    intro i j D L F;have H:j<(arrOf b).size:=by
     have:=(bubble_perm (arrOf b) (lo+k) (lo+k-(lo+l))).size_eq;have Co:j<(bubble (arrOf b) (lo+k) (lo+k-(lo+l))).size:=F;(first|lia|omega)
    show R τ (bubble (arrOf b) (lo+k) (lo+k-(lo+l))) i<=R τ (bubble (arrOf b) (lo+k) (lo+k-(lo+l))) j;rw[oM p ω,oM p ω,show lo+k-(lo+k-(lo+l))=lo+l from ω,if_neg (show ¬j=lo+l from ω),if_neg (show ¬(lo+l<j/\j<=lo+k) from ω)];split
    ·exact y _ _ ω ω H
    ·split
     ·exact y _ _ ω ω H
     ·exact y _ _ D ω H
def Mh(C:iS prog w A s κ a₀ ρ){st:SortSt}{Q:Unit->SortSt->Prop}(H:B κ a₀ st)(hp:pendingOf st=#[])(h1:1<=a₀.size)(X:a₀.size<64)(Y:Tl τ (arrOf st) 0)(h:∀a,B κ a₀ a->cz ρ (arrOf a) 0 a₀.size->St ρ τ (arrOf a) 0 a₀.size->Q () a):wpS (model prog w) A E s sortRuns' Q st:=by
 rw[sortRuns'_eq];refine wpS_bind (wpS_get ?_);dsimp only;have U:minRun' a₀.size a₀.size 0=a₀.size:=by
  obtain⟨f,P⟩:∃f,a₀.size=f+1:=⟨a₀.size-1,ω⟩;have:minRun' (f+1) a₀.size 0=a₀.size:=by rw[minRun'_succ,if_pos X];rfl
  rwa [<-P] at this
 simp only[H.size,U];refine wpS_bind (wpS_mono (wpS_forRange
  (I:=fun x c a=>(x=0/\c=(none,0)/\B κ a₀ a/\pendingOf a=#[]/\Tl τ (arrOf a) 0)\/(1<=x/\c=(none,a₀.size)/\B κ a₀ a/\(pendingOf a).size<=1/\cz ρ (arrOf a) 0 a₀.size/\St ρ τ (arrOf a) 0 a₀.size))
  (Q:=fun c a=>c=(none,a₀.size)/\B κ a₀ a/\(pendingOf a).size<=1/\cz ρ (arrOf a) 0 a₀.size/\St ρ τ (arrOf a) 0 a₀.size) ?step ?fin (.inl ⟨rfl,rfl,H,hp,Y⟩)) ?post)
 case fin=>
  rintro c a (⟨hx,_,_⟩|⟨_,hc,r⟩)
  ·(first|lia|omega)
  ·exact⟨hc,r⟩
 case step=>
  rintro x c a _ hx (⟨rfl,rfl,u,g,v⟩|⟨Z,rfl,r⟩)
  ·dsimp only
   rw[if_neg ω];simp only[Nat.sub_zero,Nat.min_self];refine wpS_bind (Mf C ω ω u v fun m j y P2 J m2 l o L=>?_);dsimp only;have tl:∀d,B κ a₀ d->pendingOf d=#[]->cz ρ (arrOf d) 0 a₀.size->St ρ τ (arrOf d) 0 a₀.size->B κ a₀ (setPending d ((pendingOf d).push (0,a₀.size,0)))/\(pendingOf (setPending d ((pendingOf d).push (0,a₀.size,0)))).size<=1/\cz ρ (arrOf (setPending d ((pendingOf d).push (0,a₀.size,0)))) 0 a₀.size/\St ρ τ (arrOf (setPending d ((pendingOf d).push (0,a₀.size,0)))) 0 a₀.size:=
    fun d b p q M=>⟨⟨b.perm,b.kind,b.failed⟩,by show((pendingOf d).push _).size<=1;rw[p];exact Ad 1,q,M⟩
   by_cases i:m<a₀.size
   ·rw[if_pos i]
    refine wpS_bind (wpS_lift (wpAny_rule ⟨rfl,?_⟩));refine wpS_bind (Mg C ω m2 J y l o L fun d N P3 z D=>?_);simp only[Bool.not_true,Bool.false_eq_true,if_false];refine wpS_bind (wpS_get ?_);have F:pendingOf d=#[]:=by rw[P3.pend,P2.pend];exact g
    have hb:(pendingOf d).back?=none:=by rw[F];rfl
    rw[hb];dsimp only;simp only[Nat.zero_add] at z D ⊢;exact wpS_bind (wpS_modify (wpS_pure (.inr ⟨ω,rfl,tl d N F z D⟩)))
   ·rw[if_neg i]
    have W:m=a₀.size:=ω
    subst W;refine wpS_bind (wpS_get ?_);have G:pendingOf j=#[]:=by rw[P2.pend];exact g
    have hb:(pendingOf j).back?=none:=by rw[G];rfl
    rw[hb];dsimp only;simp only[Nat.zero_add] at l o ⊢;exact wpS_bind (wpS_modify (wpS_pure (.inr ⟨ω,rfl,tl j y G l o⟩)))
  ·dsimp only
   rw[if_pos (Ad _)];exact wpS_pure ⟨rfl,r⟩
 case post=>
  rintro c a ⟨rfl,u,S,T,ss⟩;dsimp only;refine wpS_bind (wpS_mono (wpS_forRange (I:=fun _ c e=>e=a/\c=(none,())) (Q:=fun c e=>e=a/\c=(none,())) ?_ (fun _ _ O=>O) ⟨rfl,rfl⟩) ?_)
  ·rintro x c e _ _ ⟨rfl,rfl⟩
   refine wpS_bind (wpS_get ?_);rw[if_pos S];exact wpS_pure ⟨rfl,rfl⟩
  ·rintro c e ⟨rfl,rfl⟩
   exact wpS_pure (h _ u T ss)
end
section
variable{prog:Program}{w:World}{A:Around}{E:Ω}{s:Shared}{κ:SortKind}{a₀:Array Keyed}{ρ:Keyed->Int}
def Mj(C:iS prog w A s κ a₀ ρ){st:SortSt}{Q:Unit->SortSt->Prop}(d:B κ a₀ st)(hp:pendingOf st=#[])(h1:1<=a₀.size)(e:a₀.size<64)(h:∀a,B κ a₀ a->cz ρ (arrOf a) 0 a₀.size->Q () a):wpS (model prog w) A E s sortRuns' Q st:=
 Mh (τ:=fun _=>0) C d hp h1 e (fun i j _ _ _=>by unfold R;split<;>split<;>exact Int.le_refl _) fun a b c _=>h a b c
end
end Tim
end
section
namespace cz
open PySem PyProof.Rows HT
def HL:∀a:List Int,lexLt a a=false
 |[]=>rfl
 |x::a=>by rw[sR,if_pos rfl];exact HL a
def EG:∀{a b c:List Int},lexLt a b=true->lexLt b c=true->lexLt a c=true
 |[],[],_,h,_=>by cases h
 |[],_::_,[],_,h=>by cases h
 |[],_::_,_::_,_,_=>rfl
 |_::_,[],_,h,_=>by cases h
 |_::_,_::_,[],_,h=>by cases h
 |x::a,y::b,z::c,h1,h2=>by
  rw[sR] at h1 h2 ⊢
  by_cases e1:x=y
  ·rw[if_pos e1] at h1
   by_cases e2:y=z
   ·rw[if_pos e2] at h2
    rw[if_pos (e1.trans e2)];exact EG h1 h2
   ·rw[if_neg e2] at h2
    rw[if_neg ω];have:=of_decide_eq_true h2;exact decide_eq_true ω
  ·rw[if_neg e1] at h1
   have d:=of_decide_eq_true h1
   by_cases e2:y=z
   ·rw[if_neg ω]
    exact decide_eq_true ω
   ·rw[if_neg e2] at h2
    have e:=of_decide_eq_true h2;rw[if_neg ω];exact decide_eq_true ω
def HM:∀{a b:List Int},lexLt a b=false->lexLt b a=false->a=b
 |[],[],_,_=>rfl
 |[],_::_,h,_=>by cases h
 |_::_,[],_,h=>by cases h
 |x::a,y::b,h1,h2=>by
  rw[sR] at h1 h2
  by_cases e:x=y
  ·subst e
   rw[if_pos rfl] at h1 h2;rw[HM h1 h2]
  ·rw[if_neg e] at h1
   rw[if_neg (Ne.symm e)] at h2;have:=of_decide_eq_false h1;have:=of_decide_eq_false h2;(first|lia|omega)
def rk(ls:Ξ)(l:List Int):Int:=((ls.filter fun m=>lexLt m l).length:Nat)
def HN{ls:Ξ}{l m:List Int}(f:l∈ls)(g:m∈ls):decide (rk ls l<rk ls m)=lexLt l m:=by
 have mono:∀{a b:List Int},(∀x,lexLt x a=true->lexLt x b=true)->∀k:Ξ,(k.filter fun x=>lexLt x a).length<=(k.filter fun x=>lexLt x b).length:=by
  intro a b d k
  induction k with
  |nil=>exact Ad _
  |cons x k ih=>
   rw[List.filter_cons,List.filter_cons]
   by_cases q:lexLt x a=true
   ·rw[if_pos q,if_pos (d x q),AH,AH];(first|lia|omega)
   ·rw[if_neg q]
    split
    ·rw[AH];(first|lia|omega)
    ·exact ih
 have c:∀{a b:List Int},(∀x,lexLt x a=true->lexLt x b=true)->lexLt a b=true->∀k:Ξ,a∈k->(k.filter fun x=>lexLt x a).length<(k.filter fun x=>lexLt x b).length:=by
  intro a b d h k
  induction k with
  |nil=>intro q;cases q
  |cons x k ih=>
   intro hk;rw[List.filter_cons,List.filter_cons];rcases List.mem_cons.mp hk with e|e
   ·subst e
    rw[if_neg (by rw[HL];exact AK),if_pos h,AH];have:=mono d k;(first|lia|omega)
   ·have:=ih e
    by_cases q:lexLt x a=true
    ·rw[if_pos q,if_pos (d x q),AH,AH];(first|lia|omega)
    ·rw[if_neg q]
     split
     ·rw[AH];(first|lia|omega)
     ·exact this
 unfold rk;cases q:lexLt l m with
 |true=>
  have:=c (a:=l) (b:=m) (fun x hx=>EG hx q) q ls f;exact decide_eq_true ω
 |false=>
  have:=mono (a:=m) (b:=l) (fun x hx=>by
   cases z:lexLt x l with
   |true=>rfl
   |false=>
    cases z2:lexLt l x with
    |true=>rw[EG z2 hx] at q;cases q
    |false=>rw[HM z z2] at hx;rw[hx] at q;cases q) ls
  exact decide_eq_false ω
structure By(prog:Program)(w:World)(A:Around)(good:Heap->Prop)(us:List Value)(ls:Ξ):Prop where
 len:us.length=ls.length
 fn:∀(i j:Nat) u l m,us[i]?=some u->us[j]?=some u->ls[i]?=some l->ls[j]?=some m->l=m
 ask:2<=us.length->∃κ:SortKind,(∀(s:Shared)(Q:SortKind->Shared->Prop)(E:Ω),good s.heap->Q κ s->wpAny (model prog w) A (keyKind' us.toArray) Q E s)/\
  ∀(i j:Nat) u v l m,us[i]?=some u->us[j]?=some v->ls[i]?=some l->ls[j]?=some m->∀(s:Shared)(Q:Bool->Shared->Prop)(E:Ω),good s.heap->Q (lexLt l m) s->wpAny (model prog w) A (keyLt' κ u v) Q E s
open Classical in
noncomputable def oY(us:List Value)(ls:Ξ)(u:Value):List Int:=if h:∃l,∃i:Nat,us[i]?=some u/\ls[i]?=some l then h.choose else []
def uq{us:List Value}{ls:Ξ}(fn:∀(i j:Nat) u l m,us[i]?=some u->us[j]?=some u->ls[i]?=some l->ls[j]?=some m->l=m){i:Nat}{u:Value}{l:List Int}(h1:us[i]?=some u)(h2:ls[i]?=some l):oY us ls u=l:=by
 unfold oY;have h:∃l,∃i:Nat,us[i]?=some u/\ls[i]?=some l:=⟨l,i,h1,h2⟩;rw[dif_pos h];obtain⟨j,e1,e2⟩:=h.choose_spec;exact fn j i u _ l e1 h1 e2 h2
noncomputable def o_(us:List Value)(ls:Ξ)(p:Keyed):Int:=rk ls (oY us ls p.1)
section
variable{prog:Program}{w:World}{A:Around}{E:Ω}{s:Shared}{good:Heap->Prop}{us vs:List Value}{ls:Ξ}
def CU(h:us.length=vs.length){p:Keyed}(hp:p∈(us.toArray.zip vs.toArray).toList):∃i:Nat,us[i]?=some p.1/\vs[i]?=some p.2:=by
 have e:(us.toArray.zip vs.toArray).toList=us.zip vs:=by simp
 rw[e] at hp;obtain⟨i,hi,e2⟩:=List.mem_iff_getElem.mp hp;rw[List.getElem_zip] at e2;rw[List.length_zip] at hi;refine⟨i,?_,?_⟩
 ·rw[Ab ω,<-e2]
 ·rw[Ab ω,<-e2]
def Mk(B:By prog w A good us ls)(d:us.length=vs.length)(hg:good s.heap){κ:SortKind}(h2:2<=us.length)(o:us.length<64)(hk:∀(i j:Nat) u v l m,us[i]?=some u->us[j]?=some v->ls[i]?=some l->ls[j]?=some m->∀(s:Shared)(Q:Bool->Shared->Prop)(E:Ω),good s.heap->Q (lexLt l m) s->wpAny (model prog w) A (keyLt' κ u v) Q E s){Q:Unit->SortSt->Prop}(h:∀a,(arrOf a).Perm (us.toArray.zip vs.toArray)->failedOf a=none->Tim.cz (o_ us ls) (arrOf a) 0 vs.length->Q () a):wpS (model prog w) A E s sortRuns' Q (SortSt.mk' κ (us.toArray.zip vs.toArray) #[] 7 none):=by
 have hz:(us.toArray.zip vs.toArray).size=vs.length:=by simp;(first|lia|omega)
 refine Tim.Mj (κ:=κ) (a₀:=us.toArray.zip vs.toArray) (ρ:=o_ us ls) ⟨fun x y hx hy f g hq=>?_⟩ ⟨Array.Perm.refl _,rfl,rfl⟩ rfl (by rw[hz];(first|lia|omega)) (by rw[hz];(first|lia|omega)) fun a b e=>h a b.perm b.failed (by rw[<-hz];exact e);obtain⟨i,e1,_⟩:=CU d hx;obtain⟨j,e2,_⟩:=CU d hy;have hi:i<ls.length:=by rw[<-B.len];exact(List.getElem?_eq_some_iff.mp e1).1
 have c:j<ls.length:=by rw[<-B.len];exact(List.getElem?_eq_some_iff.mp e2).1
 have f1:ls[i]?=some ls[i]:=Ab hi;have f2:ls[j]?=some ls[j]:=Ab c;refine hk i j _ _ _ _ e1 e2 f1 f2 s f g hg ?_;unfold o_ at hq;rw[uq B.fn e1 f1,uq B.fn e2 f2,HN (AB hi) (AB c)] at hq;exact hq
def dm{a b:Type}:∀(l:List a)(m:List b)(i:Nat),(l.zip m)[i]?=(l[i]?).bind fun x=>(m[i]?).map fun y=>(x,y)
 |[],m,i=>by simp
 |x::l,[],i=>by cases h:(x::l)[i]?<;>simp
 |x::l,y::m,0=>rfl
 |x::l,y::m,i+1=>by
  rw[List.zip_cons_cons,List.getElem?_cons_succ,List.getElem?_cons_succ,List.getElem?_cons_succ];exact dm l m i
def Ml(B:By prog w A good us ls)(l:us.length=vs.length){xs:Array Keyed}(hp:xs.Perm (us.toArray.zip vs.toArray))(r:Tim.cz (o_ us ls) xs 0 vs.length):∃ps:List (List Int×Value),ps.Perm (ls.zip vs)/\xs.toList.map (·.2)=ps.map (·.2)/\ps.Pairwise fun(a b:List Int×Value)=>HT.lexLt b.1 a.1=false:=by
 have pl:xs.toList.Perm (us.zip vs):=by
  have:=Array.perm_iff_toList_perm.mp hp
  simpa using this
 refine⟨xs.toList.map fun p=>(oY us ls p.1,p.2),?_,by rw[AT];rfl,?_⟩
 ·have e:(us.zip vs).map (fun p:Keyed=>(oY us ls p.1,p.2))=ls.zip vs:=by
   apply List.ext_getElem?;intro i;rw[Aj,dm,dm];cases e1:us[i]? with
   |none=>
    have:ls[i]?=none:=List.getElem?_eq_none (by rw[<-B.len];exact List.getElem?_eq_none_iff.mp e1);rw[this];rfl
   |some u=>
    have hi:i<ls.length:=by rw[<-B.len];exact(List.getElem?_eq_some_iff.mp e1).1
    have f1:ls[i]?=some ls[i]:=Ab hi;rw[f1];cases e2:vs[i]? with
    |none=>rfl
    |some v=>
     show some (oY us ls u,v)=some (ls[i],v);rw[uq B.fn e1 f1]
  rw[<-e];exact pl.map _
 ·rw[List.pairwise_map,List.pairwise_iff_getElem]
  intro i j hi h o;have hsz:xs.size=vs.length:=by
   have:=pl.length_eq;rw[Array.length_toList,List.length_zip] at this;(first|lia|omega)
  rw[Array.length_toList] at hi h;have q:=r i j (Az _) (Nat.le_of_lt o) ω;have a1:xs[i]?=some xs[i]:=getElem?_pos xs i hi;have a2:xs[j]?=some xs[j]:=getElem?_pos xs j h;rw[Tim.jm a1,Tim.jm a2] at q;simp only[Array.getElem_toList];obtain⟨f,g1,_⟩:=CU l (p:=xs[i]) (by
   have:=pl.mem_iff.mp (show xs[i]∈xs.toList by simp)
   simpa using this)
  obtain⟨g,g2,_⟩:=CU l (p:=xs[j]) (by
   have:=pl.mem_iff.mp (show xs[j]∈xs.toList by simp)
   simpa using this)
  have c:f<ls.length:=by rw[<-B.len];exact(List.getElem?_eq_some_iff.mp g1).1
  have d:g<ls.length:=by rw[<-B.len];exact(List.getElem?_eq_some_iff.mp g2).1
  have f1:ls[f]?=some ls[f]:=Ab c;have f2:ls[g]?=some ls[g]:=Ab d;unfold o_ at q;rw[uq B.fn g1 f1,uq B.fn g2 f2] at q ⊢;have:=HN (ls:=ls) (AB d) (AB c);rw[<-this];exact decide_eq_false ω
end
end cz
end
section
namespace cz
open PySem PyProof.Rows PySem.W
section
variable{prog:Program}{w:World}{A:Around}{E:Ω}{s:Shared}{good:Heap->Prop}{us vs:List Value}{ls:Ξ}
def Mm{ns:List Int}(hi:IntsAre us ns):By prog w A (fun _=>True) us (ns.map fun n=>[n]):=by
 have f:=hi.length;have a:∀(i:Nat) u l,us[i]?=some u->(ns.map fun n=>[n])[i]?=some l->∃n t,u=.int n t/\l=[n]:=fun i u l h1 h2=>by
  obtain⟨t,e⟩:=IntsAre.int_at hi i u h1;rw[Aj] at h2;cases e2:ns[i]? with
  |none=>rw[e2] at h2;cases h2
  |some n=>
   rw[e2] at h2;have e3:ns.getD i 0=n:=by rw[Ac,e2];rfl
   rw[e3] at e;exact⟨n,t,e,(AR h2).symm⟩
 refine⟨by rw[Aa,f],fun i j u l m h1 h2 c d=>?_,fun h2=>⟨oneType',fun s Q E _ hq=>?_,fun i j u v l m h1 h2 c d s Q E _ hq=>?_⟩⟩
 ·obtain⟨n,t,e1,rfl⟩:=a i u l h1 c
  obtain⟨b,t',e2,rfl⟩:=a j u m h2 d;rw[e1] at e2;cases e2
  rfl
 ·match us,hi,h2 with
  |[],_,h2=>simp at h2
  |[_],_,h2=>simp at h2
  |v₁::v₂::rest,hi,_=>
   rw[keyKind_ints hi];exact An hq
 ·obtain⟨n,t,rfl,rfl⟩:=a i u l h1 c
  obtain⟨b,t',rfl,rfl⟩:=a j v m h2 d;refine kat_lt_int ?_;have:HT.lexLt [n] [b]=decide (n<b):=by
   rw[HT.sR]
   by_cases e:n=b
   ·rw[if_pos e,HT.Lc];exact(decide_eq_false ω).symm
   ·rw[if_neg e]
  rw[this] at hq;exact hq
def IsPr(h:Heap)(u:Value)(l:List Int):Prop:=∃(a b:Addr)(n:Int)(t:Tok)(ad:List Value)(ps:List Int),u=.ref a/\l=n::ps/\IsTup h a #[.int n t,.ref b]/\IsTup h b ad.toArray/\IntsAre ad ps
def IsTup.inj{h:Heap}{a:Addr}{xs ys:Array Value}(h1:IsTup h a xs)(h2:IsTup h a ys):xs=ys:=by
 obtain⟨o,e,_,n,d⟩:=h1;obtain⟨o',e',_,b,d'⟩:=h2;rw[e] at e';cases e';rw[d] at d';injection d'
def IntsAre.inj{vs:List Value}{ns ms:List Int}(h:IntsAre vs ns)(g:IntsAre vs ms):ns=ms:=by
 induction h generalizing ms with
 |nil=>cases g;rfl
 |cons n t h ih=>cases g with|cons _ _ h'=>rw[ih h']
def IsPr.inj{h:Heap}{u:Value}{l m:List Int}(h1:IsPr h u l)(h2:IsPr h u m):l=m:=by
 obtain⟨a,b,n,t,ad,ps,rfl,rfl,c,d,i1⟩:=h1;obtain⟨a',b',j,t',its',o,e,rfl,f,g,i⟩:=h2;cases e;have:=cz.IsTup.inj c f;cases this;have e2:=cz.IsTup.inj d g;have e3:ad=its':=by simpa using e2
 subst e3;rw[IntsAre.inj i1 i]
end
def Out(ls:Ξ)(vs out:List Value):Prop:=∃ps:List (List Int×Value),ps.Perm (ls.zip vs)/\out=ps.map (·.2)/\ps.Pairwise fun(a b:List Int×Value)=>HT.lexLt b.1 a.1=false
section
variable{prog:Program}{w:World}{A:Around}{E:Ω}{s:Shared}{good:Heap->Prop}{us vs:List Value}{ls:Ξ}
def Mn(a:ls.length=vs.length)(b:us.length=vs.length)(h2:vs.length<2):Out ls vs ((us.toArray.zip vs.toArray).map (·.2)).toList:=by
 have e:((us.toArray.zip vs.toArray).map (·.2)).toList=vs:=by
  rw[Array.toList_map,show(us.toArray.zip vs.toArray).toList=us.zip vs by simp,List.map_snd_zip ω]
 rw[e];refine⟨ls.zip vs,List.Perm.refl _,by rw[List.map_snd_zip ω],?_⟩;have hz:(ls.zip vs).length<2:=by rw[List.length_zip];(first|lia|omega)
 match ls.zip vs,hz with
 |[],_=>exact List.Pairwise.nil
 |[x],_=>simp
 |_::_::_,h=>simp only[AH] at h;(first|lia|omega)
def Mo(B:By prog w A good us ls)(c:us.length=vs.length)(j:vs.length<64)(hg:good s.heap){P:PySem.Fin->Shared->Prop}{G:Unit×SortSt->Sem PySem.Fin}(h:∀a,Out ls vs ((arrOf a).map (·.2)).toList->(arrOf a).size=vs.length->failedOf a=none->wpAny (model prog w) A (G (PUnit.unit,a)) P E s):wpAny (model prog w) A (if vs.toArray.size<2 then(pure general' >>= fun kind=>(if vs.toArray.size<2 then pure () else sortRuns').run (SortSt.mk' kind (us.toArray.zip vs.toArray) #[] 7 none) >>= G)
   else(keyKind' us.toArray >>= fun kind=>(if vs.toArray.size<2 then pure () else sortRuns').run (SortSt.mk' kind (us.toArray.zip vs.toArray) #[] 7 none) >>= G)) P E s:=by
 have b:(us.toArray.zip vs.toArray).size=vs.length:=by rw[Array.size_zip,Au,Au];(first|lia|omega)
 by_cases h2:vs.toArray.size<2
 ·rw[if_pos h2]
  refine Ae (An ?_);rw[if_pos h2];rw[StateT.run_pure];refine Ae (An ?_)
  try dsimp only
  rw[Au] at h2;exact h (SortSt.mk' general' (us.toArray.zip vs.toArray) #[] 7 none) (Mn (by rw[<-B.len];exact c) c h2) b rfl
 ·rw[if_neg h2,if_neg h2]
  rw[Au] at h2;obtain⟨κ,d,f⟩:=B.ask ω;refine Ae (d s _ E hg ?_);refine Ae (wpAny_mono (Mk (Q:=fun _ a=>(arrOf a).Perm (us.toArray.zip vs.toArray)/\failedOf a=none/\Tim.cz (o_ us ls) (arrOf a) 0 vs.length) B c hg ω ω f fun a a1 a2 a3=>⟨a1,a2,a3⟩) ?_ fun _ _ e=>e);rintro⟨⟨⟩,a⟩ s' ⟨rfl,hp,g,i⟩
  try dsimp only
  exact h a (by
   obtain⟨ps,a1,a2,a3⟩:=Ml B c hp i;exact⟨ps,a1,by rw[Array.toList_map];exact a2,a3⟩) (by rw[hp.size_eq];exact b) g
def Mp{a:Addr}{n:Nat}{P:PySem.Fin->Shared->Prop}(c:s.heap.get? a=some (seqObj "list" vs.toArray n))(B:By prog w A good vs ls)(hg:∀h',(∀b o,b≠a->s.heap.get? b=some o->h'.get? b=some o)->good h')(hz:vs.length<=sizeLine)(j:vs.length<64)(h:∀out:Array Value,Out ls vs out.toList->P (.done (.ret .none)) {s with heap:=sortedHeap s.heap a vs out}):wpAny (model prog w) A (Builtin.«list.sort» ⟨[.ref a],[]⟩) P E s:=by
 rw[list_sort_plain];have f:a<s⁻¹:=Ax c;refine Ae (listItems_at c rfl ?_);refine Ae (listUpdate_at c rfl ?_ (by rw[Au];exact hz) (Az _));obtain⟨e1,d⟩:∃e1,(s.heap.update a (Obj.mapSeq fun _=>#[])).get? a=some (seqObj "list" #[] e1):=⟨_,get?_update_seq c (fun _=>#[])⟩;refine Ae (seqEpoch_at d rfl ?_);refine Ae (wpAny_newTuple ?_ (by show vs.length<=_;exact hz));refine Ae (wpAny_newList ?_ (Az _));refine wpAny_holding ?_;have g:(((s.heap.update a (Obj.mapSeq fun _=>#[])).push (seqObj "tuple" vs.toArray 0)).push (seqObj "list" #[] 0)).get? a=some (seqObj "list" #[] e1):=by
  rw[Heap.get?_push_ne _ _ _ (by rw[size_push',Heap.size_update];exact AD (Nat.lt_succ_of_lt f)),Heap.get?_push_ne _ _ _ (by rw[Heap.size_update];exact AD f)];exact d
 show wpAny (model prog w) A _ P E {s with heap:=((s.heap.update a (Obj.mapSeq fun _=>#[])).push (seqObj "tuple" vs.toArray 0)).push (seqObj "list" #[] 0)};dsimp only;refine Mo (s:={s with heap:=((s.heap.update a (Obj.mapSeq fun _=>#[])).push (seqObj "tuple" vs.toArray 0)).push (seqObj "list" #[] 0)}) B rfl j (hg _ fun b o hb e=>Ai _ (Ai _ (by rw[Heap.get?_update_ne _ _ _ _ hb];exact e))) fun l c hsz i=>?_;dsimp only;refine Ae (seqEpoch_at g rfl ?_);refine Ae (listUpdate_at g rfl ?_ (Az _) (Af (Nat.le_of_eq ((Array.size_map ..).trans hsz)) (Nat.le_succ_of_le hz)));rw[i];simp only[bne_self_eq_false,Bool.false_eq_true,if_false];exact An (h _ c)
end
end cz
end
section
namespace L2
open PySem PySem.Spec PyProof.Rows
def ia(N N':List Str)(aj:List (Option Nat))(scope:Scope):Bool:=decide (aj.length=N'.length)&&(aj.zip N').all fun p=>match p.1 with
 |none=>true
 |some j=>decide (N[j]?=some p.2)&&decide (scope.names.lookup p.2=some .free)
def EH{N N':List Str}{aj:List (Option Nat)}{scope:Scope}(h:ia N N' aj scope=true):lZ N N' aj scope:=by
 unfold ia at h;rw[A7,decide_eq_true_eq,AZ] at h;refine⟨h.1,fun i j e=>?_⟩;have hi:i<aj.length:=(List.getElem?_eq_some_iff.mp e).1;have e2:N'[i]?=some N'[i]:=Ab (by rw[<-h.1];exact hi);have:=h.2 (some j,N'[i]) (List.mem_iff_getElem?.mpr ⟨i,by rw[cz.dm,e,e2];rfl⟩);simp only[A7,decide_eq_true_eq] at this;exact⟨N'[i],e2,this.1,this.2⟩
section
variable{X:Cx}{scope:Scope}{aj:List (Option Nat)}{tg iter aR:Expr}{aG:List Expr}{wi:TI}{g:TG}{tc:TT}{te:TE}{pos:Pos}
def zu(N N':List Str)(aj:List (Option Nat))(hi:PI X tg iter wi)(hg:∀a C s₀ H₀ ex,PG (eA X scope N' a C s₀ H₀ ex) tg g)(c:∀a C s₀ H₀ ex,gG (eA X scope N' a C s₀ H₀ ex) aG tc)(d:∀a C s₀ H₀ ex,PE (eA X scope N' a C s₀ H₀ ex) aR te)(hc:X.calm=true:=by rfl)(hk:scope.kind=.function:=by rfl)(e:∀y∈scope.names,y.2≠.cell:=by decide +kernel)(f:∀y∈scope.names,y.2=.free->scope.names.lookup y.1=some .free:=by decide +kernel)(h:∀y∈scope.names,y.2=.local->scope.names.lookup y.1=some .local:=by decide +kernel)(hfr:∀y∈scope.names,y.2=.free->X.env.kindOf y.1=some .cell\/X.env.kindOf y.1=some .free)(i:X.N=N:=by rfl)(b:ia N N' aj scope=true:=by decide +kernel)(j:∀x,foldedSetIterable iter X.env x=pure x:=by intro _;rfl):PE X (.ListComp aR [⟨tg,iter,aG,0⟩] scope pos) (hX wi aj g tc te):=
 LV hc hk e f h hfr (EH (by rw[i];exact b)) hi hg c d j
end
def b7{env:Env}{scope:Scope}(h:scope.names.all (fun y=>decide (y.2≠.free))=true):∀y∈scope.names,y.2=.free->env.kindOf y.1=some .cell\/env.kindOf y.1=some .free:=fun y hy e=>
 absurd e (of_decide_eq_true (List.all_eq_true.mp h y hy))
def bB{env:Env}{scope:Scope}(sc:Scope)(h:scope.names.all (fun y=>decide (y.2≠.free)|| decide (sc.names.lookup y.1=some .cell)|| decide (sc.names.lookup y.1=some .free))=true)(a:env.scope=sc:=by rfl):∀y∈scope.names,y.2=.free->env.kindOf y.1=some .cell\/env.kindOf y.1=some .free:=fun y hy e=>by
 subst a;have:=List.all_eq_true.mp h y hy;simp only[Bool.or_eq_true,decide_eq_true_eq] at this;rcases this with (q|q)|q
 ·exact absurd e q
 ·exact .inl q
 ·exact .inr q
def bI(l:List Str)(h:l.Nodup:=by decide +kernel):l.Nodup:=h
def ge{te:TE}{σ:St}{H:Hp}{P:VK}{S:Hp->Prop}(h:te σ H P):bM σ H fun b a=>if b=true then te σ a P else S a:=by
 show if true=true then te σ H P else S H;rw[if_pos rfl];exact h
def cL{i:Nat}{v:V}{te:TE}{σ:St}{H:Hp}{P:St->VK}{S:St->Hp->Prop}(h:te (σ.set i (some v)) H (P (σ.set i (some v)))):zL i v σ H fun a d=>bM a d fun b c=>if b=true then te a c (P a) else S a c:=ge (S:=S (σ.set i (some v))) h
def zx{J:It}{g:TG}{tc:TT}{te:TE}{σ:St}{H1:Hp}{Q:VK}{D:Addr}(h:cH J g tc te σ H1 D Q):cH J g tc te σ H1 D Q:=h
end L2
end
section
namespace HT
open PySem PyProof.Rows
section
variable{prog:Program}{w:World}{A:Around}{E:Ω}{s:Shared}
def Mq{t c:Addr}{a:Array Value}{vl d:Value}{lo hi:Option Int}{Q:Ω}(b:IsTup s.heap t a)(e:s.heap.IsSliceOf c vl d .none)(pl:IsPart vl lo)(l:IsPart d hi)(hw:sIx a.size 0 lo=0/\sIx a.size a.size hi=a.size)(h:Q (.ref t) s):wpAny (model prog w) A (getItem (.ref t) (.ref c)) Q E s:=by
 obtain⟨os,f,g,o⟩:=id e;have i:s.TypeIs (.ref c) "slice":=⟨os,f,g⟩;obtain⟨p,r,q,nt,u⟩:=id b;unfold getItem
 try with_reducible refine wpAny_holding ?_
 first|refine Ae (An ?_)|skip
 refine Ae (wpAny_sequenceKey b.typeIs ξ ?_);refine Ae (wpAny_callSpecial?_slot (name:=Str.ofString "__getitem__") b.typeIs PyProof.Rows.slot_tuple_getitem
  (wpAny_call_entry PyProof.Rows.slot_tuple_getitem b.typeIs entry_tuple_getitem ?_ (args_tuple_getitem _ _)))
 show wpAny _ _ (Builtin.Tuple.tupleItemsOf (.ref t) >>= _) _ _ s;refine Ae (tupleItemsOf_ b ?_);refine Ae (wpAny_typeOf i ?_);rw[if_pos ξ];refine Ae (Hj e pl l ?_);have j:((((sIx a.size 0 lo:Nat):Int)==0&&(1:Int)==1&&(sIx a.size a.size hi-sIx a.size 0 lo)==a.size)=true):=by
  rw[hw.1,hw.2];simp
 show wpAny _ _ (if(((sIx a.size 0 lo:Nat):Int)==0&&(1:Int)==1&&(sIx a.size a.size hi-sIx a.size 0 lo)==a.size)=true then _ else _) _ _ s;rw[if_pos j];refine Ae ?_;unfold Builtin.Tuple.tupleIsExact;refine Ae (wpAny_typeOf b.typeIs (An ?_));rw[if_pos ξ];refine Ae (wpAny_rule ?_);exact An ⟨_,rfl,An h⟩
end
end HT
namespace L2
open PySem PySem.Spec PyProof.Rows
section
variable{X:Cx}
def EI:V->Option Int->Option Int->Hp->VK->Prop:=fun x lo hi H Q=>∃a xs,x=.ref a/\H a=some (.tup xs)/\∀p H',Same H H'->H' p=some (.tup (cJ xs lo hi))->Q (.ref p) H'
def HP:CG X EI:=by
 intro aa s σ H x v vl f lo hi g Q I b c pl d h;obtain⟨a,xs,rfl,hx,q⟩:=h
 by_cases hw:HT.sIx xs.length 0 lo=0/\HT.sIx xs.length xs.length hi=xs.length
 ·cases b
  obtain⟨ad,r,e,hz⟩:=I.tuple (SqT.of (K:=X.K) hx);have i:ad.toArray.size=xs.length:=by rw[Au];exact r.length.symm
  refine⟨"tuple",_,PyProof.Rows.slot_tuple_getitem.lookup,e.typeIs,HT.Mq e c pl d (by rw[i];exact hw) ⟨.ref a,H,I,rfl,q a H (Same.refl H) ?_⟩⟩;rw[hx];unfold cJ;rw[hw.1,hw.2,List.drop_zero,Nat.sub_zero,Ar (Ad _)]
 ·exact Li aa s σ H (.ref a) v vl f lo hi g Q I b c pl d ⟨a,xs,rfl,SqT.of hx,hw,fun p hp=>q p _ (Same.new hp) zc⟩
end
end L2
end
section
namespace K23
open PySem L2
def top(i:Nat):Stmt:=PySem.Challenge.pw_seamwright_k23_papers_judged.main.body.getD i (.Pass ⟨0,0,0,0⟩)
end K23
end
section
namespace L2
open PySem PySem.Spec PyProof.Rows
section
variable{X:Cx}{scope:Scope}{aj:List (Option Nat)}{tg iter aR:Expr}{aG:List Expr}{wi:TI}{g:TG}{tc:TT}{te:TE}{pos:Pos}
def Mr(N N':List Str)(aj:List (Option Nat))(hi:PI X tg iter wi)(hg:∀a C s₀ H₀ ex,PG (cxD X scope N' a C s₀ H₀ ex) tg g)(c:∀a C s₀ H₀ ex,gG (cxD X scope N' a C s₀ H₀ ex) aG tc)(d:∀a C s₀ H₀ ex,PE (cxD X scope N' a C s₀ H₀ ex) aR te)(hc:X.calm=true:=by rfl)(hk:scope.kind=.function:=by rfl)(e:∀y∈scope.names,y.2=.cell->scope.names.lookup y.1=some .cell:=by decide +kernel)(f:∀y∈scope.names,y.2=.free->scope.names.lookup y.1=some .free:=by decide +kernel)(h:∀y∈scope.names,y.2=.local->scope.names.lookup y.1=some .local:=by decide +kernel)(hfr:∀y∈scope.names,y.2=.free->X.env.kindOf y.1=some .cell\/X.env.kindOf y.1=some .free)(i:X.N=N:=by rfl)(b:ia N N' aj scope=true:=by decide +kernel)(j:∀x,foldedSetIterable iter X.env x=pure x:=by intro _;rfl):PE X (.ListComp aR [⟨tg,iter,aG,0⟩] scope pos) (hX wi aj g tc te):=
 Ma hc hk e f h hfr (EH (by rw[i];exact b)) hi hg c d j
end
def Ms{env env0:Env}{scope a:Scope}(c:env.scope=relabel a env0)(h:scope.names.all (fun y=>decide (y.2≠.free)|| decide (a.names.lookup y.1=some .cell)|| decide (a.names.lookup y.1=some .free))=true):∀y∈scope.names,y.2=.free->env.kindOf y.1=some .cell\/env.kindOf y.1=some .free:=by
 intro y hy e;have:=List.all_eq_true.mp h y hy;simp only[Bool.or_eq_true,decide_eq_true_eq] at this;have b:a.names.lookup y.1=some .free\/a.names.lookup y.1=some .cell:=by
  rcases this with (q|q)|q
  ·exact absurd e q
  ·exact .inr q
  ·exact .inl q
 have:=Ey (scope:=a) (env:=env0) b;unfold Env.kindOf;rw[c];rcases this with q|q
 ·exact .inr q
 ·exact .inl q
section
variable{X:Cx}{scope:Scope}{N':List Str}{aj:List (Option Nat)}{tg iter aR:Expr}{aG:List Expr}{wi:TI}{g:TG}{tc:TT}{te:TE}{pos:Pos}
def Mt{i:Nat}{x:Str}{aH E:Pos}(hc:X.calm=true)(hk:scope.kind=.function)(G:∀y∈scope.names,y.2=.cell->scope.names.lookup y.1=some .cell)(Q:∀y∈scope.names,y.2=.free->scope.names.lookup y.1=some .free)(S:∀y∈scope.names,y.2=.local->scope.names.lookup y.1=some .local)(hfr:∀y∈scope.names,y.2=.free->X.env.kindOf y.1=some .cell\/X.env.kindOf y.1=some .free)(j:lZ X.N N' aj scope)(hi:PI X tg iter wi)(hg:∀d C s₀ H₀ ex,PG (cxD X scope N' d C s₀ H₀ ex) tg g)(T:∀d C s₀ H₀ ex,gG (cxD X scope N' d C s₀ H₀ ex) aG tc)(U:∀d C s₀ H₀ ex,PE (cxD X scope N' d C s₀ H₀ ex) aR te)(W:∀x,foldedSetIterable iter X.env x=pure x)(Y:X.N.Nodup)(r:X.N[i]?=some x)(hx:Loc X.env.scope x)(Z:X.fn x=true\/X.env.scope.names.lookup x=some .local)(iV:swapsWith (.ListComp aR [⟨tg,iter,aG,0⟩] scope pos) (some (.Name x aH)) E.line X.env=pure true):PS X (.Assign [.Name x aH] (.ListComp aR [⟨tg,iter,aG,0⟩] scope pos) E) (g0 (hX wi aj g tc te) (zL i)):=by
 intro aa s σ H D I h;rw[exec_Assign_Name_used _ _ _ _ iV];refine Ae (wpAny_standAt (Ae ?_));show wpAny _ X.A (do let _ <-comprehension (.ListComp aR [⟨tg,iter,aG,0⟩] scope pos) scope X.env _ (newList []) (firstAsync [⟨tg,iter,aG,0⟩]) (firstIter [⟨tg,iter,aG,0⟩] X.env) (some (assign (.Name x aH) X.env))) _ _ s;refine Ae (wpAny_mono (EA (use:=some (assign (.Name x aH) X.env)) (R:=fun _ s'=>SP X aa D .next s') hc hk G Q S hfr j hi hg T U W I h fun F C H' w f L q=>?_) (fun _ s' hq=>An (An hq)) fun _ _ e=>e);show wpAny _ X.A (assign (.Name x aH) X.env (.ref F)) _ _ w;refine wpAny_assign_Name (GT (v:=.ref F) (L.back w.heap (Heap.SameBut.refl _ _)) Y r hx rfl (fun J I5 ⟨a,p,M⟩=>?_) Z);have P:C≠a:=by
  rcases M with e|e
  ·rw[e];exact L.nl
  ·exact fun z=>L.nc x a e z.symm
 obtain⟨m,O⟩:=L.ns;refine⟨m,O.sameBut p P,fun h' l=>⟨_,H',?_,q⟩⟩;refine I5.call' (s':={J with heap:=h'}) (ch:=[C]) rfl ⟨fun b o q n hb hx=>?_,fun b o q n hb hx=>?_,fun b o q n hx=>n,fun b o q hx=>?_,fun b xs q=>q,fun b o u q=>q,fun b ps q=>⟨#[],by simpa using q⟩⟩ ?_ I5.bare fun b hb=>?_
 ·exact(l.2 b (by simpa using hx)).trans q
 ·exact⟨o.slots,(l.2 b (by simpa using hx)).trans q⟩
 ·exact⟨o,(l.2 b (by simpa using hx)).trans q⟩
 ·intro b u e
  refine(I5.hok b u e).stay (fun c v hc q=>(l.2 c ?_).trans q) (fun _ q=>q) fun _ _ q=>q;rintro rfl;rcases hc with z|z
  ·rw[<-z,L.no] at e;cases e
  ·rw[L.no] at z;cases z
 ·have e:b=C:=by simpa using hb
  subst e;exact⟨.inr L.far,L.nl,L.nc,L.np⟩
def Mu{i:Nat}{x:Str}{aH f:Pos}(hc:X.calm=true)(hk:scope.kind=.function)(c:∀y∈scope.names,y.2≠.cell)(h:∀y∈scope.names,y.2=.free->scope.names.lookup y.1=some .free)(j:∀y∈scope.names,y.2=.local->scope.names.lookup y.1=some .local)(hfr:∀y∈scope.names,y.2=.free->X.env.kindOf y.1=some .cell\/X.env.kindOf y.1=some .free)(b:lZ X.N N' aj scope)(hi:PI X tg iter wi)(hg:∀a C s₀ H₀ ex,PG (eA X scope N' a C s₀ H₀ ex) tg g)(l:∀a C s₀ H₀ ex,gG (eA X scope N' a C s₀ H₀ ex) aG tc)(o:∀a C s₀ H₀ ex,PE (eA X scope N' a C s₀ H₀ ex) aR te)(p:∀x,foldedSetIterable iter X.env x=pure x)(q:X.N.Nodup)(d:X.N[i]?=some x)(hx:Loc X.env.scope x)(r:X.fn x=true\/X.env.scope.names.lookup x=some .local)(s:swapsWith (.ListComp aR [⟨tg,iter,aG,0⟩] scope pos) (some (.Name x aH)) f.line X.env=pure true):PS X (.Assign [.Name x aH] (.ListComp aR [⟨tg,iter,aG,0⟩] scope pos) f) (g0 (hX wi aj g tc te) (zL i)):=
 Mt hc hk (fun y hy e=>absurd e (c y hy)) h j hfr b hi (fun a C s₀ H₀ ex=>ou (X:=X) (N':=N') c a C s₀ H₀ ex▸hg a C s₀ H₀ ex) (fun a C s₀ H₀ ex=>ou (X:=X) (N':=N') c a C s₀ H₀ ex▸l a C s₀ H₀ ex) (fun a C s₀ H₀ ex=>ou (X:=X) (N':=N') c a C s₀ H₀ ex▸o a C s₀ H₀ ex) p q d hx r s
end
section
variable{X:Cx}{scope:Scope}{aj:List (Option Nat)}{tg iter aR:Expr}{aG:List Expr}{wi:TI}{g:TG}{tc:TT}{te:TE}{pos:Pos}
def CV{i:Nat}{x:Str}{aH d:Pos}(e:X.N.Nodup)(c:X.N[i]?=some x)(hx:Loc X.env.scope x)(N N':List Str)(aj:List (Option Nat))(hi:PI X tg iter wi)(hg:∀a C s₀ H₀ ex,PG (eA X scope N' a C s₀ H₀ ex) tg g)(f:∀a C s₀ H₀ ex,gG (eA X scope N' a C s₀ H₀ ex) aG tc)(h:∀a C s₀ H₀ ex,PE (eA X scope N' a C s₀ H₀ ex) aR te)(hc:X.calm=true:=by rfl)(hk:scope.kind=.function:=by rfl)(j:∀y∈scope.names,y.2≠.cell:=by decide +kernel)(l:∀y∈scope.names,y.2=.free->scope.names.lookup y.1=some .free:=by decide +kernel)(o:∀y∈scope.names,y.2=.local->scope.names.lookup y.1=some .local:=by decide +kernel)(hfr:∀y∈scope.names,y.2=.free->X.env.kindOf y.1=some .cell\/X.env.kindOf y.1=some .free)(p:X.N=N:=by rfl)(b:ia N N' aj scope=true:=by decide +kernel)(q:∀x,foldedSetIterable iter X.env x=pure x:=by intro _;rfl)(r:X.fn x=true\/X.env.scope.names.lookup x=some .local:=by first|exact .inl rfl|exact .inr rfl|assumption)(s:swapsWith (.ListComp aR [⟨tg,iter,aG,0⟩] scope pos) (some (.Name x aH)) d.line X.env=pure true:=by rfl):PS X (.Assign [.Name x aH] (.ListComp aR [⟨tg,iter,aG,0⟩] scope pos) d) (g0 (hX wi aj g tc te) (zL i)):=
 Mu hc hk j l o hfr (EH (by rw[p];exact b)) hi hg f h q e c hx r s
end
end L2
end
section
namespace K23
open PySem L2
abbrev uC:Stmt:=top 6
abbrev kc:Stmt:=top 7
abbrev uG:Stmt:=top 8
def cp:A8 "len"=some (.builtin "len"):=δ
def pa:A8 "all"=some (.builtin "all"):=δ
abbrev Rws(H:Hp)(rs:List Addr)(tb:Ξ):Prop:=Paired (fun a ns=>H a=some (.lst (ns.map V.int))) rs tb
def wid(tb:Ξ):Nat:=(tb[0]?.map List.length).getD 0
def cN(tb:Ξ):Bool:=decide (tb.length<=40)&&decide (wid tb<=40)&&tb.all fun r=>decide (r.length=wid tb)
def Rws.same{H H2:Hp}{rs:List Addr}{tb:Ξ}(h:Rws H rs tb)(s:Same H H2):Rws H2 rs tb:=Paired.mapP h fun _ _ e=>s _ _ e
def Rws.len{H:Hp}{rs:List Addr}{tb:Ξ}(h:Rws H rs tb):rs.length=tb.length:=by
 induction h with
 |nil=>rfl
 |cons _ _ ih=>rw[AH,AH,ih]
def Rws.get{H:Hp}{rs:List Addr}{tb:Ξ}(h:Rws H rs tb):∀{j:Nat}{a:Addr},rs[j]?=some a->∃ns,tb[j]?=some ns/\H a=some (.lst (ns.map V.int)):=by
 induction h with
 |nil=>intro j a e;simp at e
 |cons r t ih=>
  intro j a e;cases j with
  |zero=>simp at e;subst e;exact⟨_,rfl,r⟩
  |succ j=>simpa using ih (by simpa using e)
def zv{n:Nat}(h:n<=100000):n<=sizeLine:=by rw[sizeLine_eq];(first|lia|omega)
def Bk{a:Type}{l:List a}{i:Nat}{x:a}(h:l[i]?=some x):l.take (i+1)=l.take i++[x]:=by rw[List.take_add_one,h];rfl
abbrev CW(K:Ag):List V->Hp->VK->Prop:=fun xs H Q=>∃p ys,xs=[.ref p]/\(SqL K H p ys\/SqT K H p ys)/\Q (.int ys.length) H
def kd{b:List Addr}{i:Nat}{x:V}(h:(b.map V.ref)[i]?=some x):∃a,b[i]?=some a/\x=.ref a:=by
 rw[Aj] at h;cases e:b[i]? with
 |none=>rw[e] at h;cases h
 |some a=>rw[e] at h;cases h;exact⟨a,rfl,rfl⟩
section
variable{P:Program}{w:World}{K:Ag}{mg:Str->Option Value}{base:Heap}
def uL{H2:Hp}{L D:Addr}{rs:List Addr}{tb:Ξ}{Q:VK}{f:Type}{mkV:f->V}{g:List Int->f}{te:TE}{c:List (Option V)}(u:∀(o:Addr)(os:List Int)(H:Hp)(R:VK),Same H2 H->H o=some (.lst (os.map V.int))->os∈tb->(∀H',Same H H'->R (mkV (g os)) H')->te (some (.ref o)::c) H R)(w:SqL K H2 L (rs.map V.ref))(h:Rws H2 rs tb)(hz:tb.length<=1000)(i:H2 D=none)(k:∀b,Same H2 b->b D=some (.lst ((tb.map g).map mkV))->Q (.ref D) b):cH (fL K L) (zL 0) bM te (none::c) H2 D Q:=by
 have r:=h.len;refine l5 (xs:=rs.map V.ref) (fun j σ ys b=>∃(v:Option V),σ=v::c/\Same H2 b/\b D=some (.lst ys)/\ys=((tb.take j).map g).map mkV) ?_ ?_ ?_ ?_
 ·exact⟨none,rfl,Same.new i,zc,rfl⟩
 ·rintro j σ ys b ⟨v,rfl,sm,a,rfl⟩
  exact sm.seq w
 ·rintro j σ ys b x hx l hy ⟨v,rfl,sm,a,rfl⟩
  obtain⟨o,p,rfl⟩:=kd hx;obtain⟨os,e,q⟩:=h.get p;have s:(rs.map V.ref).length<=sizeLine:=by rw[Aa];exact zv (by lia)
  refine cL ?_;refine u o os b _ sm (sm _ _ q) (Ak e) fun y d=>bN s l hy (d _ _ a) ⟨_,rfl,(sm.trans d).then i,zc,?_⟩;rw[Bk e,At,At]
  rfl
 ·rintro σ ys b ⟨v,rfl,sm,a,rfl⟩
  rw[Aa,r,Ar (Ad _)] at a;exact k b sm a
def l'(K:Ag):Sp:=fun vs H Q _=>∃L rs tb,vs=[.ref L]/\SqL K H L (rs.map V.ref)/\Rws H rs tb/\Q (.int (wid tb)) H
def Mv:zp ["table"] ["table"] (zg kc):=⟨rfl,rfl,rfl,δ,rfl,δ,δ⟩
def EJ{f:Addr}{fd:FuncData}(F:Fun K "width_of" "width_of" kc f fd)(bl:mg "len"=none):ai P w K mg base aw 1 f fd ["table"] (l' K):=by
 refine F.ok Mv (fun vs H Q E h=>?_) (fun l A outer s H vs Q E hr h=>?_)
 ·obtain⟨L,rs,tb,rfl,_⟩:=h;rfl
 ·obtain⟨L,rs,tb,rfl,c,d,k⟩:=h
  refine⟨_,zh (zr (n7 (zt hH (zm zj rfl bl cp (za (pv 0) zb)) zd (ar _)) (zm zj rfl bl cp (za (zo zn (pv 0) zd (fun _ _=>rfl)) zb)) zd)),?_⟩;refine⟨_,rfl,L,_,rfl,.inl c,_,_,rfl,rfl,_,rfl,?_⟩;have i:=d.len;refine dE (fun h1=>?_) (fun h1=>?_)
  ·cases rs with
   |nil=>have:=of_decide_eq_true h1;simp at this
   |cons a r=>
    obtain⟨ns,e,g⟩:=d.get (j:=0) rfl;refine⟨_,rfl,L,_,_,_,rfl,rfl,c,zi (j:=0) rfl,a,_,rfl,.inl (SqL.of g),?_⟩;have:wid tb=ns.length:=by unfold wid;rw[e];rfl
    rw[this] at k;rw[Aa];exact k
  ·cases rs with
   |cons a r=>have:=of_decide_eq_false (Bool.eq_false_iff.mpr h1);simp at this
   |nil=>
    cases tb with
    |nil=>exact k
    |cons a b=>cases i
def HQ(K:Ag):Sp:=fun vs H Q _=>∃L rs tb,vs=[.ref L]/\SqL K H L (rs.map V.ref)/\Rws H rs tb/\tb.length<=1000/\∀H',Same H H'->Q (.bl (cN tb)) H'
def Mw:zp ["table"] ["table"] (zg uC):=⟨rfl,rfl,rfl,δ,rfl,δ,δ⟩
abbrev EK(K:Ag):TE:=bQ rX (iR (CW K) (ca (av 0) bK)) (hV (l' K) [] E0 (ca (av 1) bK))
def Mx{f d:Addr}{fd j:FuncData}(F:Fun K "is_table" "is_table" uC f fd)(bl:mg "len"=none)(J:mg "all"=none){M tc:Tok}(N:mg "MOST_ROWS"=some (.int 40 M))(O:mg "MOST_COLUMNS"=some (.int 40 tc))(Fw:Fun K "width_of" "width_of" kc d j)(p:Binds K j ["table"] [])(q:mg "width_of"=some (.ref d)):ai P w K mg base aw 2 f fd ["table"] (HQ K):=by
 have u:ai P w K mg base aw 1 d j ["table"] (l' K):=EJ Fw bl;refine F.ok Mw (fun vs H Q E h=>?_) (fun T A outer s H vs Q E hr h=>?_)
 ·obtain⟨L,rs,tb,rfl,_⟩:=h;rfl
 ·obtain⟨L,rs,tb,rfl,a,b,hz,k⟩:=h
  refine⟨_,ze (cn (PW.pt (nY (zt hH (zm zj rfl bl cp (za (pv 0) zb)) (GW (v:=.int 40) rfl N ⟨_,rfl⟩) (ar _))
    (nW (zt hH (zf u hr rfl q Fw.kp p .nil ac (za (pv 0) zb)) (GW (v:=.int 40) rfl O ⟨_,rfl⟩) (ar _))))) (zh (zr fC)) zJ)
   (zh (zr (zm (oG rfl) rfl J pa (za (zu ["table"] ["row","table"] [none,some 0] (zI (pv 0)) (fun l C s₀ H₀ ex=>zl (i:=0) (bI ["row","table"]) rfl (Or.inl rfl)) (fun l C s₀ H₀ ex=>zy)
    (fun l C s₀ H₀ ex=>e_ dz (zm zj rfl bl cp (za (pv 0) zb)) (zf u hr rfl q Fw.kp p .nil ac (za (pv 1) zb)) (ar _)) (te:=EK K) (hfr:=bB (zg uC) δ)) zb)))),?_⟩
  have I:=b.len;refine⟨_,rfl,L,_,rfl,.inl a,_,_,rfl,rfl,_,rfl,?_⟩;rw[Aa,I]
  by_cases c1:40<tb.length
  ·rw[decide_eq_true (show(40:Int)<(tb.length:Int) from ω)]
   refine aA (aA ?_);have:cN tb=false:=by unfold cN;rw[decide_eq_false ω];rfl
   rw[this] at k;exact k H (Same.refl H)
  rw[decide_eq_false (show ¬(40:Int)<(tb.length:Int) from ω)];refine az ⟨_,rfl,L,rs,tb,rfl,a,b,_,_,rfl,rfl,_,rfl,?_⟩
  by_cases U:40<wid tb
  ·rw[decide_eq_true (show(40:Int)<(wid tb:Int) from ω)]
   refine aA ?_;have:cN tb=false:=by unfold cN;rw[decide_eq_false (show ¬wid tb<=40 from ω),Bool.and_false];rfl
   rw[this] at k;exact k H (Same.refl H)
  rw[decide_eq_false (show ¬(40:Int)<(wid tb:Int) from ω)];refine az ⟨_,rfl,L,rfl,⟨_,a⟩,fun D x=>?_⟩;refine zx (uL (mkV:=V.bl) (g:=fun r=>decide (r.length=wid tb)) (fun o os H' R sm y _ z=>?_) a b hz x fun S G c=>?_)
  ·refine⟨_,rfl,o,_,rfl,.inl (SqL.of y),_,rfl,L,rs,tb,rfl,sm.seq a,b.same sm,rfl,?_⟩
   rw[Aa];have:=z H' (Same.refl H');rw[show decide (V.int (os.length:Int)=V.int (wid tb:Int))=decide (os.length=wid tb) from by rw[Bm];simp;(first|lia|omega)];exact this
  ·refine⟨D,_,rfl,SqL.of c,?_⟩
   have e:cN tb=(tb.map fun r=>decide (r.length=wid tb)).all id:=by
    unfold cN;rw[decide_eq_true (show tb.length<=40 from ω),decide_eq_true (show wid tb<=40 from ω),List.all_map];rfl
   rw[e] at k;exact k S G
end
abbrev pc:Stmt:=top 9
abbrev uR:Stmt:=top 10
abbrev CY:Stmt:=top 11
abbrev mx:Stmt:=top 12
abbrev pe:Stmt:=top 13
abbrev ic:Stmt:=top 14
section
variable{P:Program}{w:World}{K:Ag}{mg:Str->Option Value}{base:Heap}
def Mz:zp ["table"] ["table"] (zg uG):=⟨rfl,rfl,rfl,δ,rfl,δ,δ⟩
end
def Rws.upd{H:Hp}{ds:List Addr}{tb:Ξ}{D:Addr}{o:HO}(h:Rws H ds tb):(∀d∈ds,d≠D)->Rws (upd H D o) ds tb:=by
 induction h with
 |nil=>intro _;exact .nil
 |cons r t ih=>intro n;exact .cons (by rw[af (n _ (Aq))];exact r) (ih fun d hd=>n d (Ao _ hd))
def Rws.snoc{H:Hp}{ds:List Addr}{tb:Ξ}{d:Addr}{ns:List Int}(h:Rws H ds tb)(e:H d=some (.lst (ns.map V.int))):Rws H (ds++[d]) (tb++[ns]):=by
 induction h with
 |nil=>exact .cons e .nil
 |cons r t ih=>exact .cons r ih
def Rws.there{H:Hp}{ds:List Addr}{tb:Ξ}(h:Rws H ds tb):∀d∈ds,H d≠none:=by
 induction h with
 |nil=>intro d hd;cases hd
 |cons r t ih=>
  intro d hd;rcases List.mem_cons.mp hd with rfl|hd
  ·rw[r];simp
  ·exact ih d hd
section
variable{P:Program}{w:World}{K:Ag}{mg:Str->Option Value}{base:Heap}
def EL{H2 c p:Hp}{D d:Addr}{ds:List Addr}{l:Ξ}{ns:List Int}(sm:Same H2 c)(hr:Rws c ds l)(s:ds.Nodup)(u:∀e∈ds,H2 e=none/\e≠D)(v:Same c p)(hd:c d=none)(j:c D≠none)(w:p d=some (.lst (ns.map V.int))){o:HO}:Rws (L2.upd p D o) (ds++[d]) (l++[ns])/\(ds++[d]).Nodup/\∀e∈ds++[d],H2 e=none/\e≠D:=by
 have g:H2 d=none:=by
  cases q:H2 d with
  |none=>rfl
  |some o=>rw[sm _ _ q] at hd;cases hd
 have i:d≠D:=fun z=>j (z▸hd);have all:∀e∈ds++[d],H2 e=none/\e≠D:=fun e f=>by
  rcases List.mem_append.mp f with h|h
  ·exact u e h
  ·obtain rfl:e=d:=by simpa using h
   exact⟨g,i⟩
 refine⟨((hr.same v).snoc w).upd fun e f=>(all e f).2,?_,all⟩;rw[List.nodup_append];refine⟨s,by simp,fun a r b hb=>?_⟩;obtain rfl:b=d:=by simpa using hb
 intro z;exact hr.there a r (z▸hd)
def pf{H2:Hp}{L D:Addr}{rs:List Addr}{tb:Ξ}{Q:VK}{g:List Int->List Int}{te:TE}{c:List (Option V)}(E:∀(o:Addr)(os:List Int)(H:Hp)(R:VK),Same H2 H->H o=some (.lst (os.map V.int))->os∈tb->(∀d H',Same H H'->H d=none->H' d=some (.lst ((g os).map V.int))->R (.ref d) H')->te (some (.ref o)::c) H R)(F:SqL K H2 L (rs.map V.ref))(l:Rws H2 rs tb)(hz:tb.length<=1000)(p:H2 D=none)(k:∀a ds,Same H2 a->a D=some (.lst (ds.map V.ref))->Rws a ds (tb.map g)->ds.Nodup->(∀d∈ds,H2 d=none/\d≠D)->Q (.ref D) a):cH (fL K L) (zL 0) bM te (none::c) H2 D Q:=by
 have A:=l.len;refine l5 (xs:=rs.map V.ref) (fun j σ ys a=>∃(v:Option V)(ds:List Addr),σ=v::c/\Same H2 a/\a D=some (.lst ys)/\ys=ds.map V.ref/\Rws a ds ((tb.take j).map g)/\ds.Nodup/\∀d∈ds,H2 d=none/\d≠D) ?_ ?_ ?_ ?_
 ·exact⟨none,[],rfl,Same.new p,zc,rfl,.nil,.nil,fun d hd=>by cases hd⟩
 ·rintro j σ ys a ⟨v,ds,rfl,sm,_⟩
  exact sm.seq F
 ·rintro j σ ys a x hx r hy ⟨v,ds,rfl,sm,b,rfl,hr,f,h⟩
  obtain⟨o,s,rfl⟩:=kd hx;obtain⟨os,i,u⟩:=l.get s;have C:(rs.map V.ref).length<=sizeLine:=by rw[Aa];exact zv ω
  refine cL ?_;refine E o os a _ sm (sm _ _ u) (Ak i) fun d G e hd q=>?_;obtain⟨w,y,z⟩:=EL (D:=D) (o:=.lst (ds.map V.ref++[.ref d])) sm hr f h e hd (by rw[b];simp) q;refine bN C r hy (e _ _ b) ⟨_,ds++[d],rfl,(sm.trans e).then p,zc,by simp,?_,y,z⟩;rw[Bk i,At];exact w
 ·rintro σ ys a ⟨v,ds,rfl,sm,b,rfl,hr,f,h⟩
  rw[Aa,A,Ar (Ad _)] at hr;exact k a ds sm b hr f h
def EM{H2:Hp}{D:Addr}{n:Nat}{Q:VK}{g:Nat->List Int}{te:TE}{c:List (Option V)}(w:∀(j:Nat)(H:Hp)(R:VK),j<n->Same H2 H->(∀d H',Same H H'->H d=none->H' d=some (.lst ((g j).map V.int))->R (.ref d) H')->te (some (.int j)::c) H R)(hz:n<=1000)(p:H2 D=none)(k:∀a ds,Same H2 a->a D=some (.lst (ds.map V.ref))->Rws a ds ((Ah n).map g)->ds.Nodup->(∀d∈ds,H2 d=none/\d≠D)->Q (.ref D) a):cH (fO 0 n) (zL 0) bM te (none::c) H2 D Q:=by
 refine oI (fun j σ ys a=>∃(v:Option V)(ds:List Addr),σ=v::c/\Same H2 a/\a D=some (.lst ys)/\ys=ds.map V.ref/\Rws a ds (((Ah n).take j).map g)/\ds.Nodup/\∀d∈ds,H2 d=none/\d≠D) ?_ ?_ ?_
 ·exact⟨none,[],rfl,Same.new p,zc,rfl,.nil,.nil,fun d hd=>by cases hd⟩
 ·rintro j σ ys a h hy ⟨v,ds,rfl,sm,b,rfl,hr,i,l⟩
  have e:(Ah n)[j]?=some j:=AM h;refine cL ?_;rw[show(0:Int)+((j:Nat):Int)=((j:Nat):Int) from ω];refine w j a _ h sm fun d x f hd q=>?_;obtain⟨r,s,u⟩:=EL (D:=D) (o:=.lst (ds.map V.ref++[.ref d])) sm hr i l f hd (by rw[b];simp) q;refine bN (zv ω) h hy (f _ _ b) ⟨_,ds++[d],rfl,(sm.trans f).then p,zc,by simp,?_,s,u⟩;rw[Bk e,At];exact r
 ·rintro σ ys a ⟨v,ds,rfl,sm,b,rfl,hr,i,l⟩
  rw[Ar (by simp)] at hr;exact k a ds sm b hr i l
def colAt(tb:Ξ)(k:Nat):List Int:=tb.map fun r=>r.getD k 0
def EN(K:Ag):Sp:=fun vs H Q _=>∃L rs tb,∃k:Nat,vs=[.ref L,.int k]/\SqL K H L (rs.map V.ref)/\Rws H rs tb/\tb.length<=1000/\(∀r∈tb,k<r.length)/\∀D H',Same H H'->H D=none->H' D=some (.lst ((colAt tb k).map V.int))->Q (.ref D) H'
def MA:zp ["table","k"] ["table","k"] (zg ic):=⟨rfl,rfl,rfl,δ,rfl,δ,δ⟩
def MB{f:Addr}{fd:FuncData}(F:Fun K "column_of" "column_of" ic f fd):ai P w K mg base aw 1 f fd ["table","k"] (EN K):=by
 refine F.ok MA (fun vs H Q E h=>?_) (fun z A outer s H vs Q E hr h=>?_)
 ·obtain⟨L,rs,tb,i,rfl,_⟩:=h;rfl
 ·obtain⟨L,rs,tb,i,rfl,e,x,hz,hi,k⟩:=h
  refine⟨_,zh (zr (zu ["table","k"] ["row","k"] [none,some 1] (zI (pv 0)) (fun c C s₀ H₀ ex=>zl (i:=0) (bI ["row","k"]) rfl (Or.inl rfl)) (fun c C s₀ H₀ ex=>zy)
   (fun c C s₀ H₀ ex=>zo zn (pv 0) (pv 1) (fun _ _=>rfl)) (te:=bQ (dW K) (av 0) (av 1)) (hfr:=bB (zg ic) δ))),?_⟩
  refine⟨_,rfl,L,rfl,⟨_,e⟩,fun D d=>?_⟩;refine zx (uL (mkV:=V.int) (g:=fun r=>r.getD i 0) (fun o os H' R sm l p q=>?_) e x hz d fun y u b=>k D y u d b);have a:=hi os p;refine⟨_,rfl,_,rfl,o,_,_,_,rfl,rfl,SqL.of l,zi (j:=i) (v:=V.int (os.getD i 0)) ?_,q H' (Same.refl H')⟩;rw[Aj,Ab a,Ac,Ab a]
  rfl
end
def turn(tb:Ξ):Ξ:=(Ah (wid tb)).map (colAt tb)
def ke{tb:Ξ}(h:cN tb=true):tb.length<=40/\wid tb<=40/\∀r∈tb,r.length=wid tb:=by
 unfold cN at h;simp only[A7,decide_eq_true_eq,AZ] at h;exact⟨h.1.1,h.1.2,h.2⟩
section
variable{P:Program}{w:World}{K:Ag}{mg:Str->Option Value}{base:Heap}
def pi(H:Hp)(Q:VK)(tb:Ξ):Prop:=∀D H' ds,Same H H'->H D=none->H' D=some (.lst (ds.map V.ref))->Rws H' ds tb->ds.Nodup->(∀d∈ds,H d=none/\d≠D)->Q (.ref D) H'
def EO(K:Ag):Sp:=fun vs H Q _=>∃L rs tb,∃n:Nat,vs=[.ref L,.int n]/\SqL K H L (rs.map V.ref)/\Rws H rs tb/\tb.length<=1000/\n<=1000/\(∀r∈tb,n<=r.length)/\pi H Q ((Ah n).map (colAt tb))
def MC:zp ["table","width"] ["table","width"] (zg pe):=⟨rfl,rfl,rfl,δ,rfl,δ,δ⟩
def MD{f c:Addr}{fd e:FuncData}(F:Fun K "columns_to" "columns_to" pe f fd)(M:mg "range"=none)(Fc:Fun K "column_of" "column_of" ic c e)(N:Binds K e ["table","k"] [])(O:mg "column_of"=some (.ref c)):ai P w K mg base aw 2 f fd ["table","width"] (EO K):=by
 have U:ai P w K mg base aw 1 c e ["table","k"] (EN K):=MB Fc;refine F.ok MC (fun vs H Q E h=>?_) (fun W A outer s H vs Q E hr h=>?_)
 ·obtain⟨L,rs,tb,n,rfl,_⟩:=h;rfl
 ·obtain⟨L,rs,tb,n,rfl,G,I,hz,p,J,k⟩:=h
  refine⟨_,zh (zr (zu ["table","width"] ["k","table"] [none,some 0] (g_ rfl M (za (pv 1) zb)) (fun l C s₀ H₀ ex=>zl (i:=0) (bI ["k","table"]) rfl (Or.inl rfl)) (fun l C s₀ H₀ ex=>zy)
   (fun l C s₀ H₀ ex=>zf U hr rfl O Fc.kp N .nil ac (za (pv 1) (za (pv 0) zb))) (te:=hV (EN K) [] E0 (ca (av 1) (ca (av 0) bK))) (hfr:=bB (zg pe) δ))),?_⟩
  refine⟨_,rfl,_,rfl,ω,ω,fun D o=>?_⟩;refine EM (n:=n) (g:=colAt tb) (fun j H' R q sm u=>⟨_,rfl,_,rfl,L,rs,tb,j,rfl,sm.seq G,I.same sm,ω,fun r hr=>AE q (J r hr),fun d S v hd x=>u d S v hd x⟩) ω o fun T ds y a b z p=>k D T ds y o a b z p
def uT(K:Ag):Sp:=fun vs H Q _=>∃L rs tb,vs=[.ref L]/\SqL K H L (rs.map V.ref)/\Rws H rs tb/\cN tb=true/\pi H Q (turn tb)
def ME:zp ["table"] ["table"] (zg mx):=⟨rfl,rfl,rfl,δ,rfl,δ,δ⟩
def MF{f b c:Addr}{fd d e:FuncData}(F:Fun K "columns_of" "columns_of" mx f fd)(bl:mg "len"=none)(Fc:Fun K "columns_to" "columns_to" pe b d)(o:Binds K d ["table","width"] [])(p:mg "columns_to"=some (.ref b))(x:ai P w K mg base aw 2 b d ["table","width"] (EO K))(Fw:Fun K "width_of" "width_of" kc c e)(q:Binds K e ["table"] [])(u:mg "width_of"=some (.ref c)):ai P w K mg base aw 3 f fd ["table"] (uT K):=by
 have v:ai P w K mg base aw 1 c e ["table"] (l' K):=EJ Fw bl;refine F.ok ME (fun vs H Q E h=>?_) (fun y A outer s H vs Q E hr h=>?_)
 ·obtain⟨L,rs,tb,rfl,_⟩:=h;rfl
 ·obtain⟨L,rs,tb,rfl,g,i,j,k⟩:=h
  obtain⟨z,C,l⟩:=ke j;have a:Room 1 _:=hr.mono ξ;refine⟨_,zh (zr (zf x hr rfl p Fc.kp o .nil ac (za (pv 0) (za (zf v a rfl u Fw.kp q .nil ac (za (pv 0) zb)) zb)))),?_⟩;exact⟨_,rfl,_,rfl,L,rs,tb,rfl,g,i,L,rs,tb,wid tb,rfl,g,i,ω,ω,fun r hr=>by rw[l r hr];exact Ad _,k⟩
end
end K23
end
section
namespace L2
open PySem PySem.Spec PyProof.Rows
def d0(K:Ag)(a b:Addr):It:=
 ⟨fun i H=>∃xs ys,SqL K H a xs/\SqL K H b ys/\i<min xs.length ys.length,
  fun i H v H'=>∃p x y,v=.ref p/\H p=none/\H'=upd H p (.tup [x,y])/\(∀xs,SqL K H a xs->xs[i]?=some x)/\∀ys,SqL K H b ys->ys[i]?=some y,
  fun i H=>∃xs ys,SqL K H a xs/\SqL K H b ys/\i=min xs.length ys.length⟩
def MG{P:Program}{w:World}{K:Ag}{aO:List Expr}{k:Nat}{pos:Pos}(C D z TI TO i1 i2:Addr)(hd:TI≠z/\TO≠z/\TI≠TO/\TI≠i1/\TI≠i2/\z≠i1/\z≠i2/\TO≠i1/\TO≠i2/\i1≠i2):Turn P w K (.Tuple aO k pos) (d0 K C D) [z,TI,TO,i1,i2] z (fun i h=>IsZip h z TI TO .none/\IsPair h TI (.ref i1) (.ref i2)/\(∃a b,IsPair h TO a b)/\h.IsListIter i1 C i/\h.IsListIter i2 D i):=by
 obtain⟨d1,d2,d3,d4,d5,d6,d7,d8,d9,O⟩:=hd;refine EC (wr:=[z,TO,i1,i2]) (by simp) (fun i h st b hb=>?_) (fun i h h' st c=>?_) (fun b hb=>?_) (fun X hP hw hK hc i aa s σ H I N st iK=>?_) fun A i s Q E st h=>wpAny_pyIter_zip st.1 h
 ·obtain⟨a1,a2,⟨a,b',a3⟩,⟨o4,a4,_,F⟩,⟨o5,a5,_,e5⟩⟩:=st
  simp at hb;rcases hb with rfl|rfl|rfl|rfl|rfl
  ·exact⟨_,a1,fun v z=>by cases z⟩
  ·exact⟨_,a2,fun v z=>by cases z⟩
  ·exact⟨_,a3,fun v z=>by cases z⟩
  ·exact⟨_,a4,fun v z=>by rw[F] at z;cases z⟩
  ·exact⟨_,a5,fun v z=>by rw[e5] at z;cases z⟩
 ·obtain⟨a1,a2,⟨a,b',a3⟩,a4,a5⟩:=st
  exact⟨c z (by simp) _ a1,c TI (by simp) _ a2,⟨a,b',c TO (by simp) _ a3⟩,a4.at fun o e=>c i1 (by simp) o e,a5.at fun o e=>c i2 (by simp) o e⟩
 ·simp at hb ⊢
  rcases hb with rfl|rfl|rfl|rfl<;>simp
 ·subst hP hw hK
  have hd:∃xs ys,SqL X.K H C xs/\SqL X.K H D ys:=by
   rcases iK with ⟨xs,ys,a,b,_⟩|⟨xs,ys,a,b,_⟩
   ·exact⟨xs,ys,a,b⟩
   ·exact⟨xs,ys,a,b⟩
  obtain⟨xs,ys,d,l⟩:=hd;obtain⟨us,S,p1,_⟩:=I.list d;obtain⟨T,U,p2,_⟩:=I.list l;have W:=S.length;have Y:=U.length;have Z:=I.ok.hd hc;obtain⟨a1,a2,a3,a4,a5⟩:=st;have f:=fun b hb=>EB I (N b hb) d;have G:=fun b hb=>EB I (N b hb) l;have AP:Zp.Apart z TI TO i1 i2 [i1,C] [i2,D]:=by
   refine⟨?_,?_,?_,?_,by simp,by simp,?_,?_,d1,d2,d3,d4,d5⟩
   ·simp;exact⟨d6,(f z (by simp)).symm⟩
   ·simp;exact⟨d7,(G z (by simp)).symm⟩
   ·simp;exact⟨d8,(f TO (by simp)).symm⟩
   ·simp;exact⟨d9,(G TO (by simp)).symm⟩
   ·simp;exact⟨O,(G i1 (by simp)).symm⟩
   ·simp;exact⟨O.symm,(f i2 (by simp)).symm⟩
  have WZ:=Zp.HA (prog:=X.prog) (w:=X.w) (A:=X.A) (Draws.list (A:=X.A.in1) Z i1 C (f i1 (by simp)) us.toArray) (Draws.list (A:=X.A.in1) Z i2 D (G i2 (by simp)) T.toArray) AP;refine⟨_,_,_,_,_,WZ,⟨a1,a2,a3,⟨a4,p1.isList⟩,⟨a5,p2.isList⟩⟩,fun j h st=>⟨st.1,st.2.1,st.2.2.1,st.2.2.2.1.1,st.2.2.2.2.1⟩,fun g=>?_,fun g=>?_⟩
  ·obtain⟨q,r,J,L,hi⟩:=g
   have e1:=I.list_inj J d;have e2:=I.list_inj L l;subst e1 e2;refine⟨by simpa[<-W,<-Y] using hi,fun aK hp=>?_⟩;obtain⟨x,y,px,py,rfl⟩:=hp;have jg:us[i]?=some x:=by simpa using px
   have M:T[i]?=some y:=by simpa using py
   have lx:i<q.length:=by lia
   have ly:i<r.length:=by lia
   have gx:q[i]?=some q[i]:=by simp[lx]
   have gy:r[i]?=some r[i]:=by simp[ly]
   obtain⟨u,e3,ru⟩:=S.get gx;obtain⟨u',F,dS⟩:=U.get gy;rw[jg] at e3;cases e3;rw[M] at F;cases F;refine⟨[q[i],r[i]],.cons ru (.cons dS .nil),c_,fun p hp=>⟨p,_,_,rfl,hp,rfl,fun zs hz=>?_,fun zs hz=>?_⟩⟩
   ·rw[I.list_inj hz d];exact gx
   ·rw[I.list_inj hz l];exact gy
  ·obtain⟨q,r,J,L,hi⟩:=g
   have e1:=I.list_inj J d;have e2:=I.list_inj L l;subst e1 e2
   simpa[<-W,<-Y] using hi
def MH(b e:Addr)(xs ys:Array Value):Meets (Builtin.«zip.__new__» ⟨[.type "zip",.ref b,.ref e],[]⟩) (fun _ R s=>s.heap.IsList b xs/\s.heap.IsList e ys/\
   ∀h',IsZip h' (s⁻¹+4) (s⁻¹+2) (s⁻¹+3) .none->IsPair h' (s⁻¹+2) (.ref s⁻¹) (.ref (s⁻¹+1))->
   IsPair h' (s⁻¹+3) .none .none->h'.IsListIter s⁻¹ b 0->h'.IsListIter (s⁻¹+1) e 0->
   (∀c o,s.heap.get? c=some o->h'.get? c=some o)->R (.ok (.ret (.ref (s⁻¹+4)))) {s with heap:=h'}):=
 .of_wp fun prog w A R s h=>by
  obtain⟨hp,g,d,tk,os⟩:=s;obtain⟨f,i,h⟩:=h;have p:=sub_zip;have j:Heap.IsList (Shared.heap ⟨hp,g,d,tk,os⟩) b xs:=f;have l:Heap.IsList (Shared.heap ⟨hp.push {cls:=.type "list_iterator",data:=.fields #[.ref b,.int 0 0]},g,d,tk,os⟩) e ys:=Heap.IsList.push i _
  wp_walk using wpAny_pyIter_list j,wpAny_pyIter_list l
  refine⟨_,rfl,?_⟩;dsimp only at h ⊢;have a:∀(h:Heap)(o:Obj),(h.push o).objs.size=h.objs.size+1:=fun h o=>Heap.size_push ..;simp only[a,Nat.add_assoc,Nat.reduceAdd];refine h _ ?_ ?_ ?_ ?_ ?_ fun c o x=>Ai _ (Ai _ (Ai _ (Ai _ (Ai _ x))))
  ·exact Heap.get?_push_at (by simp only[a]) rfl
  ·exact Ai _ (Ai _ (Heap.get?_push_at (by simp only[a]) rfl))
  ·exact Ai _ (Heap.get?_push_at (by simp only[a]) rfl)
  ·exact⟨_,Ai _ (Ai _ (Ai _ (Ai _ (AI _ rfl)))),rfl,rfl⟩
  ·exact⟨_,Ai _ (Ai _ (Ai _ (Heap.get?_push_at (by simp only[a]) rfl))),rfl,rfl⟩
section
variable{X:Cx}{aO:List Expr}{k:Nat}{cV:Pos}
def MI(K:Ag)(ta:TA):TI:=fun σ H R=>ta σ H fun vs H1=>∃a b,vs=[.ref a,.ref b]/\(∃xs,SqL K H1 a xs)/\(∃ys,SqL K H1 b ys)/\R (d0 K a b) H1
def pq{a b:Expr}{ta:TA}{p pos:Pos}(hg:Gl X "zip")(C:X.mg "zip"=none)(hv:A8 "zip"=some (.type "zip"))(D:PA X [a,b] ta)(E:starEach [a,b] X.env=[(false,eval a X.env),(false,eval b X.env)]:=by rfl)(j:starEach [b] X.env=[(false,eval b X.env)]:=by rfl):PI X (.Tuple aO k cV) (.Call (.Name "zip" p) [a,b] [] pos) (MI X.K ta):=by
 intro aa s σ H R I h;refine Call_ (jl I hg C hv (PyProof.Rows.callWith_type1 (aT (D pos aa s σ H _ I h) fun us c ⟨vs,H1,I1,l,d⟩=>?_) (by rw[E,j]) (by rw[j];rfl)));obtain⟨f,g,e,⟨xs,d⟩,⟨ys,r⟩,q⟩:=d;subst e;obtain⟨u,J,rfl,v,w⟩:=vals2 l;cases v;cases w;obtain⟨x,_,y,_⟩:=I1.list d;obtain⟨A,_,p2,_⟩:=I1.list r;refine callType_new F.called_zip ξ (F.typeCall_zip_2 _ _) (F.newCall_zip_2 _ _) (fun obj=>F.args_object_init_3 obj _ _) F.entry_zip_new (MH f g x.toArray A.toArray) ⟨y.isList,p2.isList,fun h' a1 a2 a3 a4 a5 o=>?_⟩;refine⟨⟨_,a1,rfl⟩,wpAny_pyIter_zip a1 ?_⟩;have G:Inv X aa σ H1 {c with heap:=h'}:=I1.kept (t':=c.toks) o;refine⟨c⁻¹+4,[c⁻¹+4,c⁻¹+2,c⁻¹+3,c⁻¹,c⁻¹+1],_,_,H1,rfl,G,MG f g _ _ _ _ _ (by refine⟨?_,?_,?_,?_,?_,?_,?_,?_,?_,?_⟩<;>(intro z;have L:(_:Nat)=_:=z;lia)),⟨a1,a2,⟨_,_,a3⟩,a4,a5⟩,fun b hb=>?_,q⟩;have i:c⁻¹<=b:=by
  simp only[List.mem_cons,List.not_mem_nil,or_false] at hb;rcases hb with rfl|rfl|rfl|rfl|rfl
  ·exact AY _ _
  ·exact AY _ _
  ·exact AY _ _
  ·exact Ad _
  ·exact AY _ _
 exact I1.fpOk i (I1.hok.fresh i)
end
section
variable{K:Ag}{a:Addr}{xs:List V}{g:TG}{tc:TT}{te:TE}{σ:St}{H1:Hp}{Q:VK}{D:Addr}
def EQ{e f:Addr}{ys:List V}(a:Nat->St->List V->Hp->Prop)(q:a 0 σ [] (upd H1 D (.lst [])))(c:∀i σ zs H,a i σ zs H->SqL K H e xs/\SqL K H f ys)(r:∀i σ zs H p x y,xs[i]?=some x->ys[i]?=some y->i<min xs.length ys.length->zs.length<=i->a i σ zs H->H p=none->g (.ref p) σ (upd H p (.tup [x,y])) fun d s=>tc d s fun b h=>if b=true then te d h (eL (min xs.length ys.length) a D i d) else dk (min xs.length ys.length) a i d h)(hd:∀σ zs H,a (min xs.length ys.length) σ zs H->Q (.ref D) H):cH (d0 K e f) g tc te σ H1 D Q:=by
 refine oH (min xs.length ys.length) a q (fun σ zs H p=>⟨xs,ys,(c _ _ _ _ p).1,(c _ _ _ _ p).2,rfl⟩) (fun i σ zs H hi p=>⟨xs,ys,(c _ _ _ _ p).1,(c _ _ _ _ p).2,hi⟩) (fun i σ zs H v H' hi hy p y=>?_) hd;obtain⟨pp,x,j,rfl,hp,rfl,l,o⟩:=y;exact r i σ zs H pp x j (l xs (c _ _ _ _ p).1) (o ys (c _ _ _ _ p).2) hi hy p hp
end
def ey(i j:Int):Prop:=∃m n:Nat,i.natAbs<2 ^ m/\j.natAbs<2 ^ n/\m+n<=134217728
def HR(i j:Int):Prop:=0<j/\j.natAbs<2 ^ 9000
section
variable{X:Cx}
def my:cI X (binaryOp .Mult) (rI ey fun i j=>.int (i*j)):=oe fun i j _ _ _ _ _ hc q=>by
 obtain⟨m,n,h1,h2,a⟩:=hc;exact mul_int q (IntMulOk.of_le (intBits_le_iff.mpr h1) (intBits_le_iff.mpr h2) a)
def ER:cI X (binaryOp .FloorDiv) (rI HR fun i j=>.int (i / j)):=oe fun i j _ _ _ _ _ hc q=>by
 have h1:(0:Int)<j:=hc.1;refine floordiv_int ω (by rw[Int.fdiv_eq_ediv_of_nonneg i ω];exact q) (.inl (PyProof.noPylong_of_log2 ?_));have a:j.natAbs≠0:=ω
 exact(Nat.log2_lt a).mpr hc.2
end
end L2
namespace K23
open PySem L2
abbrev kh:Stmt:=top 32
abbrev u6:Stmt:=top 35
def ie{ns:List Int}{i:Nat}{x:V}(h:(ns.map V.int)[i]?=some x):∃n,ns[i]?=some n/\x=.int n:=by
 rw[Aj] at h;cases e:ns[i]? with
 |none=>rw[e] at h;cases h
 |some a=>rw[e] at h;cases h;exact⟨a,rfl,rfl⟩
def mD:A8 "zip"=some (.type "zip"):=δ
def dF(rn:List Int)(q:Int)(on:List Int):List Int:=AA (fun a b=>a-q*b) rn on
def bC(p:Int)(rn:List Int)(q:Int)(on:List Int):List Int:=AA (fun a b=>p*a+q*b) rn on
def mI(H:Hp)(Q:VK)(ns:List Int):Prop:=∀D H',Same H H'->H D=none->H' D=some (.lst (ns.map V.int))->Q (.ref D) H'
section
variable{P:Program}{w:World}{K:Ag}{mg:Str->Option Value}{base:Heap}
def ES{H2:Hp}{r o D:Addr}{rn on:List Int}{f:Int->Int->Int}{te:TE}{c:List (Option V)}{Q:VK}(v:∀(a b:Int)(H:Hp)(R:VK),a∈rn->b∈on->R (.int (f a b)) H->te (some (.int a)::some (.int b)::c) H R)(h1:H2 r=some (.lst (rn.map V.int)))(h2:H2 o=some (.lst (on.map V.int)))(n2:on.length<=1000)(s:H2 D=none)(k:∀d,Same H2 d->d D=some (.lst ((AA f rn on).map V.int))->Q (.ref D) d):cH (d0 K r o) (cr K 2 (cD (zL 0) (cD (zL 1) cq))) bM te (none::none::c) H2 D Q:=by
 refine EQ (K:=K) (xs:=rn.map V.int) (ys:=on.map V.int) (fun i σ zs d=>∃j l,σ=j::l::c/\Same H2 d/\d D=some (.lst zs)/\zs=((AA f rn on).take i).map V.int)
  ⟨none,none,rfl,Same.new s,zc,rfl⟩ (fun i σ zs d ⟨_,_,_,sm,_⟩=>⟨SqL.of (sm _ _ h1),SqL.of (sm _ _ h2)⟩) ?_ ?_
 ·rintro i σ zs d u w x e1 e2 hi hz ⟨j,l,rfl,h,e,rfl⟩ g
  obtain⟨p,g1,rfl⟩:=ie e1;obtain⟨q,g2,rfl⟩:=ie e2;refine⟨u,_,rfl,SqT.of zc,rfl,_,_,rfl,_,_,rfl,rfl,ge ?_⟩;refine v p q _ _ (Ak g1) (Ak g2) (bN (Af (Nat.min_le_right _ _) (by rw[Aa];exact zv ω)) hi hz (by rw[af (zk e g)];exact e) ⟨_,_,rfl,?_,zc,?_⟩)
  ·exact(h.then (h.free g)).then s
  ·have e3:(AA f rn on)[i]?=some (f p q):=by rw[List.getElem?_zipWith,g1,g2]
   rw[Bk e3,At];rfl
 ·rintro σ zs d ⟨j,l,rfl,h,e,rfl⟩
  refine k d h ?_;rw[e,Ar (by simp)]
def va:Sp:=fun vs H Q _=>∃r o rn on q,vs=[.ref r,.int q,.ref o]/\H r=some (.lst (rn.map V.int))/\H o=some (.lst (on.map V.int))/\on.length<=1000/\(∀x∈on,ey q x)/\mI H Q (dF rn q on)
def MJ:zp ["row","often","other"] ["row","often","other"] (zg kh):=⟨rfl,rfl,rfl,δ,rfl,δ,δ⟩
def MK{f:Addr}{fd:FuncData}(F:Fun K "less" "less" kh f fd)(v:mg "zip"=none):ai P w K mg base aw 1 f fd ["row","often","other"] va:=by
 refine F.ok MJ (fun vs H Q E h=>?_) (fun y A outer s H vs Q E hr h=>?_)
 ·obtain⟨r,o,rn,on,q,rfl,_⟩:=h;rfl
 ·obtain⟨r,o,rn,on,q,rfl,h1,h2,n2,u,k⟩:=h
  refine⟨_,zh (zr (zu ["row","often","other"] ["number","taken","often"] [none,none,some 1] (pq rfl v mD (za (pv 0) (za (pv 2) zb)))
   (fun d C s₀ H₀ ex=>gZ rfl (zB (zl (i:=0) (bI ["number","taken","often"]) rfl (Or.inl rfl)) (zB (zl (i:=1) (bI ["number","taken","often"]) rfl (Or.inl rfl)) gU))) (fun d C s₀ H₀ ex=>zy)
   (fun d C s₀ H₀ ex=>zA e8 (pv 0) (zA my (pv 2) (pv 1))) (te:=bQ (fS fun i j=>.int (i-j)) (av 0) (bQ (rI ey fun i j=>.int (i*j)) (av 2) (av 1))) (hfr:=bB (zg kh) δ) (g:=cr K 2 (cD (zL 0) (cD (zL 1) cq))))),?_⟩
  refine⟨_,rfl,_,rfl,r,o,rfl,⟨_,SqL.of h1⟩,⟨_,SqL.of h2⟩,fun D e=>?_⟩;refine zx (ES (f:=fun a b=>a-q*b) (fun a b H' R _ hb l=>?_) h1 h2 n2 e fun x p c=>k D x p e c);exact⟨_,rfl,_,rfl,_,rfl,_,_,rfl,rfl,u b hb,_,_,rfl,rfl,l⟩
def HS:Sp:=fun vs H Q _=>∃r o rn on p q,vs=[.int p,.ref r,.int q,.ref o]/\H r=some (.lst (rn.map V.int))/\H o=some (.lst (on.map V.int))/\on.length<=1000/\(∀x∈rn,ey p x)/\(∀x∈on,ey q x)/\mI H Q (bC p rn q on)
def ML:zp ["often","row","other_often","other"] ["often","row","other_often","other"] (zg u6):=⟨rfl,rfl,rfl,δ,rfl,δ,δ⟩
def MM{f:Addr}{fd:FuncData}(F:Fun K "mix_of_two" "mix_of_two" u6 f fd)(z:mg "zip"=none):ai P w K mg base aw 1 f fd ["often","row","other_often","other"] HS:=by
 refine F.ok ML (fun vs H Q E h=>?_) (fun I A outer s H vs Q E hr h=>?_)
 ·obtain⟨r,o,rn,on,p,q,rfl,_⟩:=h;rfl
 ·obtain⟨r,o,rn,on,p,q,rfl,h1,h2,n2,x,y,k⟩:=h
  refine⟨_,zh (zr (zu ["often","row","other_often","other"] ["number","beside","often","other_often"] [none,none,some 0,some 2] (pq rfl z mD (za (pv 1) (za (pv 3) zb)))
   (fun d C s₀ H₀ ex=>gZ rfl (zB (zl (i:=0) (bI ["number","beside","often","other_often"]) rfl (Or.inl rfl)) (zB (zl (i:=1) (bI ["number","beside","often","other_often"]) rfl (Or.inl rfl)) gU))) (fun d C s₀ H₀ ex=>zy)
   (fun d C s₀ H₀ ex=>zA fU (zA my (pv 2) (pv 0)) (zA my (pv 3) (pv 1))) (te:=bQ (fS fun i j=>.int (i+j)) (bQ (rI ey fun i j=>.int (i*j)) (av 2) (av 0)) (bQ (rI ey fun i j=>.int (i*j)) (av 3) (av 1))) (hfr:=bB (zg u6) δ) (g:=cr K 2 (cD (zL 0) (cD (zL 1) cq))))),?_⟩
  refine⟨_,rfl,_,rfl,r,o,rfl,⟨_,SqL.of h1⟩,⟨_,SqL.of h2⟩,fun D e=>?_⟩;refine zx (ES (f:=fun a b=>p*a+q*b) (fun a b H' R l hb u=>?_) h1 h2 n2 e fun G v c=>k D G v e c);exact⟨_,rfl,_,rfl,_,_,rfl,rfl,x a l,_,rfl,_,rfl,_,_,rfl,rfl,y b hb,_,_,rfl,rfl,u⟩
end
end K23
end
section
namespace Tb
abbrev Vc:=Nat->Int
def cmb:List Int->List Vc->Vc
 |a::c,v::L=>fun u=>a*v u+cmb c L u
 |_,_=>fun _=>0
def allv(p:Nat):Nat->Ξ
 |0=>[[]]
 |n+1=>(allv p n).flatMap fun c=>(Ah p).map fun a:Nat=>(a:Int)::c
def CZ(p:Nat):∀n,(allv p n).length=p ^ n
 |0=>rfl
 |n+1=>by
  have:∀l:Ξ,(l.flatMap fun c=>(Ah p).map fun a:Nat=>(a:Int)::c).length=l.length*p:=by
   intro l
   induction l with
   |nil=>simp
   |cons c l ih=>rw[List.flatMap_cons,AN,Aa,A9,ih,AH,Nat.add_mul];(first|lia|omega)
  show(((allv p n).flatMap fun c=>(Ah p).map fun a:Nat=>(a:Int)::c)).length=_;rw[this,CZ p n,Nat.pow_succ]
def mL{p:Nat}:∀{n:Nat}{c:List Int},c∈allv p n↔c.length=n/\∀x∈c,0<=x/\x<(p:Int)
 |0,c=>by
  show c∈[[]]↔_;rw[List.mem_singleton];constructor
  ·rintro rfl;exact⟨rfl,fun x hx=>nomatch hx⟩
  ·intro h;exact AL h.1
 |n+1,c=>by
  show c∈(allv p n).flatMap (fun c=>(Ah p).map fun a:Nat=>(a:Int)::c)↔_;rw[List.mem_flatMap];constructor
  ·rintro⟨d,hd,h⟩
   obtain⟨a,b,rfl⟩:=List.mem_map.mp h;obtain⟨h1,h2⟩:=mL.mp hd;have:=List.mem_range.mp b;refine⟨by rw[AH,h1],fun x hx=>?_⟩;rcases List.mem_cons.mp hx with rfl|hx
   ·(first|lia|omega)
   ·exact h2 x hx
  ·rintro⟨h1,h2⟩
   cases c with
   |nil=>simp at h1
   |cons a d=>
    have b:=h2 a (.head _);refine⟨d,mL.mpr ⟨by simpa using h1,fun x hx=>h2 x (.tail _ hx)⟩,List.mem_map.mpr ⟨a.toNat,List.mem_range.mpr ω,?_⟩⟩;rw[Int.toNat_of_nonneg b.1]
def HU(p:Nat):∀n,(allv p n).Nodup
 |0=>by simp[allv]
 |n+1=>by
  show((allv p n).flatMap fun c=>(Ah p).map fun a:Nat=>(a:Int)::c).Pairwise (·≠·);rw[List.pairwise_flatMap];refine⟨fun c _=>?_,(HU p n).imp fun{a b} h x hx y hy e=>?_⟩
  ·rw[List.pairwise_map]
   exact List.nodup_range.imp fun h e=>h (by injection e with e;(first|lia|omega))
  ·obtain⟨i,_,rfl⟩:=List.mem_map.mp hx
   obtain⟨j,_,rfl⟩:=List.mem_map.mp hy;injection e with _ e
   exact h e
def eO{g h:Type}(f:g->h):∀(l:List g)(m:List h),l.Nodup->(∀x∈l,f x∈m)->m.length<l.length->∃x∈l,∃y∈l,x≠y/\f x=f y:=by
 intro l m i d j;apply AC;intro no;have inj:∀x∈l,∀y∈l,f x=f y->x=y:=fun x hx y hy e=>AC fun ne=>no ⟨x,hx,y,hy,ne,e⟩;have c:(l.map f).Nodup:=by
  clear d j no
  induction l with
  |nil=>exact List.nodup_nil
  |cons a l ih=>
   rw[AX,List.nodup_cons];obtain⟨h1,h2⟩:=List.nodup_cons.mp i;refine⟨fun z=>?_,ih h2 fun x hx y hy=>inj x (.tail _ hx) y (.tail _ hy)⟩;obtain⟨b,hb,e⟩:=List.mem_map.mp z;exact h1 (inj b (.tail _ hb) a (.head _) e▸hb)
 have:=c.length_le_of_subset (l₂:=m) fun y hy=>by
  obtain⟨x,hx,rfl⟩:=List.mem_map.mp hy;exact d x hx
 rw[Aa] at this;(first|lia|omega)
def C0:∀(c d:List Int)(L:List Vc),c.length=L.length->d.length=L.length->∀u,cmb (AA (fun a b=>a-b) c d) L u=cmb c L u-cmb d L u
 |c,d,[],h1,h2,u=>by rw[AL h1,AL h2];rfl
 |[],_,_::_,h1,_,_=>by simp at h1
 |_::_,[],_::_,_,h2,_=>by simp at h2
 |a::c,b::d,v::L,h1,h2,u=>by
  show(a-b)*v u+cmb _ L u=a*v u+cmb c L u-(b*v u+cmb d L u);rw[C0 c d L (by simpa using h1) (by simpa using h2),Int.sub_mul];(first|lia|omega)
def ik(k m:Int):∀(c d:List Int)(L:List Vc),c.length=L.length->d.length=L.length->∀u,cmb (AA (fun a b=>k*a+m*b) c d) L u=k*cmb c L u+m*cmb d L u
 |c,d,[],h1,h2,u=>by rw[AL h1,AL h2];show(0:Int)=k*0+m*0;(first|lia|omega)
 |[],_,_::_,h1,_,_=>by simp at h1
 |_::_,[],_::_,_,h2,_=>by simp at h2
 |a::c,b::d,v::L,h1,h2,u=>by
  show(k*a+m*b)*v u+cmb _ L u=k*(a*v u+cmb c L u)+m*(b*v u+cmb d L u);rw[ik k m c d L (by simpa using h1) (by simpa using h2),Int.add_mul,Int.mul_add,Int.mul_add,AV,AV];(first|lia|omega)
def C1:∀(n:Nat)(L:List Vc)(u:Nat),cmb (Ay n 0) L u=0
 |0,_,_=>rfl
 |n+1,[],_=>rfl
 |n+1,v::L,u=>by show 0*v u+cmb (Ay n 0) L u=0;rw[C1 n L u];(first|lia|omega)
def vg{M X:Nat}{u:Nat}:∀(c:List Int)(L:List Vc),(∀x∈c,x.natAbs<=X)->(∀v∈L,(v u).natAbs<=M)->(cmb c L u).natAbs<=L.length*(X*M)
 |[],[],_,_=>by show(0:Int).natAbs<=_;simp
 |[],_::_,_,_=>by show(0:Int).natAbs<=_;simp
 |_::_,[],_,_=>by show(0:Int).natAbs<=_;simp
 |a::c,v::L,h1,h2=>by
  have b:=vg (u:=u) c L (fun x hx=>h1 x (.tail _ hx)) fun w hw=>h2 w (.tail _ hw);have d:(a*v u).natAbs<=X*M:=by rw[AJ];exact AO (h1 a (.head _)) (h2 v (.head _))
  show(a*v u+cmb c L u).natAbs<=(L.length+1)*(X*M);have:=Int.natAbs_add_le (a*v u) (cmb c L u);rw[Nat.add_mul];(first|lia|omega)
def Inj(R:List Vc)(P:List Nat):Prop:=∀c:List Int,c.length=R.length->(∀p∈P,cmb c R p=0)->∀x∈c,x=0
def eP{R:List Vc}{P:List Nat}{M:Nat}(A:1<=M)(q:∀v∈R,∀p∈P,(v p).natAbs<=M)(r:P.length<R.length):∃c:List Int,c.length=R.length/\(∃x∈c,x≠0)/\(∀p∈P,cmb c R p=0)/\∀x∈c,x.natAbs<=(2*R.length*M) ^ P.length:=by
 let j:=R.length
 let X:=(2*j*M) ^ P.length
 have s:1<=j:=by show 1<=R.length;(first|lia|omega)
 have w:1<=2*j*M:=Nat.one_le_iff_ne_zero.mpr (by intro z;rcases Nat.mul_eq_zero.mp z with z|z<;>(first|lia|omega));have o:∀c∈allv (X+1) j,P.map (fun p=>cmb c R p+(j*(X*M):Nat))∈allv (2*(j*(X*M))+1) P.length:=fun c hc=>by
  obtain⟨h1,h2⟩:=mL.mp hc;refine mL.mpr ⟨Aa _,fun x hx=>?_⟩;obtain⟨p,hp,rfl⟩:=List.mem_map.mp hx;have:=vg (u:=p) (X:=X) (M:=M) c R (fun x hx=>by have:=h2 x hx;(first|lia|omega)) fun v hv=>q v hv p hp;have e:R.length*(X*M)=j*(X*M):=rfl;rw[e] at this;generalize j*(X*M)=N at this ⊢;(first|lia|omega)
 have cnt:(allv (2*(j*(X*M))+1) P.length).length<(allv (X+1) j).length:=by
  rw[CZ,CZ];have e1:2*(j*(X*M))+1<=(2*j*M)*(X+1):=by
   have:2*(j*(X*M))=(2*j*M)*X:=by rw[AQ 2 j M,AQ 2 (j*M) X,AQ j M X,Nat.mul_comm M X]
   rw[this,Nat.mul_add];(first|lia|omega)
  calc (2*(j*(X*M))+1) ^ P.length<=((2*j*M)*(X+1)) ^ P.length:=Nat.pow_le_pow_left e1 _
   _=X*(X+1) ^ P.length:=Nat.mul_pow _ _ _
   _<(X+1)*(X+1) ^ P.length:=Nat.mul_lt_mul_of_pos_right (Nat.lt_succ_self _) (Nat.pow_pos (Nat.succ_pos _))
   _=(X+1) ^ (P.length+1):=by rw[Nat.pow_succ,Nat.mul_comm]
   _<=(X+1) ^ j:=Aw (Nat.succ_pos _) r
 obtain⟨x,hx,y,hy,ne,e⟩:=eO _ _ _ (HU (X+1) j) o cnt;obtain⟨x1,x2⟩:=mL.mp hx;obtain⟨d,h⟩:=mL.mp hy;have hz:(AA (fun a b=>a-b) x y).length=R.length:=by rw[AG,x1,d];exact Nat.min_self _
 refine⟨AA (fun a b=>a-b) x y,hz,?_,fun p hp=>?_,fun z hz=>?_⟩
 ·apply AC
  intro no;apply ne;refine AU (by rw[x1,d]) fun i h1 h2=>?_;have hi:i<(AA (fun a b=>a-b) x y).length:=by rw[AG];(first|lia|omega)
  have:=AC fun nz=>no ⟨(AA (fun a b=>a-b) x y)[i],AB hi,nz⟩;rw[Bh] at this;(first|lia|omega)
 ·rw[C0 x y R (by rw[x1]) (by rw[d])]
  obtain⟨i,hi,rfl⟩:=Be hp;have:=congrArg (fun l=>l[i]?) e;simp only[Aj,Ab hi,Option.map_some,Option.some.injEq] at this;(first|lia|omega)
 ·obtain⟨i,hi,rfl⟩:=Be hz
  rw[Bh];rw[AG] at hi;have f:i<x.length:=ω
  have g:i<y.length:=ω
  have a1:=x2 _ (AB f);have a2:=h _ (AB g);show(x[i]-y[i]).natAbs<=X;(first|lia|omega)
def HV{R:List Vc}{P:List Nat}{M:Nat}(f:1<=M)(g:∀v∈R,∀p∈P,(v p).natAbs<=M)(h:P.length=R.length)(i:P.Nodup)(hi:Inj R P){p:Nat}(hp:p∈P):∃c:List Int,c.length=R.length/\cmb c R p≠0/\(∀q∈P,q≠p->cmb c R q=0)/\∀x∈c,x.natAbs<=(2*R.length*M) ^ (R.length-1):=by
 have a:(P.erase p).length=R.length-1:=by rw[List.length_erase_of_mem hp,h]
 have d:1<=P.length:=List.length_pos_of_mem hp;obtain⟨c,h1,⟨x,hx,nx⟩,h2,b⟩:=eP (P:=P.erase p) f (fun v hv q hq=>g v hv q (List.mem_of_mem_erase hq)) ω;rw[a] at b;have hz:∀q∈P,q≠p->cmb c R q=0:=fun q hq ne=>h2 q ((List.mem_erase_of_ne ne).mpr hq);refine⟨c,h1,fun z=>nx ?_,hz,b⟩;refine hi c h1 (fun q hq=>?_) x hx
 by_cases e:q=p
 ·rw[e];exact z
 ·exact hz q hq e
end Tb
end
section
namespace Tb
def HW{f:Int->Int->Int}{c d:List Int}{x:Int}(h:x∈AA f c d):∃a∈c,∃b∈d,x=f a b:=by
 obtain⟨i,hi,rfl⟩:=Be h;rw[AG] at hi;exact⟨c[i]'ω,AB _,d[i]'ω,AB _,Bh ..⟩
def ET{x:Int}(h:x≠0):1<=x.natAbs:=ω
def clear{R:List Vc}{P:List Nat}{M V:Nat}{v:Vc}(i:1<=M)(j:∀v∈R,∀p∈P,(v p).natAbs<=M)(l:P.length=R.length)(o:P.Nodup)(hi:Inj R P)(hv:∀p∈P,(v p).natAbs<=V):∀Q:List Nat,Q.Nodup->(∀q∈Q,q∈P)->∃(D:Int)(s:List Int),D≠0/\s.length=R.length/\(∀q∈Q,cmb s R q=D*v q)/\(∀q∈P,q∉Q->cmb s R q=0)/\∀x∈s,x.natAbs<=D.natAbs*(Q.length*(V*(2*R.length*M) ^ (R.length-1)))
 |[],_,_=>⟨1,Ay R.length 0,ξ,List.length_replicate,(fun q hq=>nomatch hq),fun q _ _=>C1 _ _ _,fun x hx=>by rw[(List.mem_replicate.mp hx).2];simp⟩
 |p::Q,hn,hs=>by
  obtain⟨n1,n2⟩:=List.nodup_cons.mp hn;obtain⟨D,s,r,e,e1,e2,b⟩:=clear i j l o hi hv Q n2 fun q hq=>hs q (.tail _ hq);have hp:=hs p (.head _);obtain⟨c,f,g,h,u⟩:=HV i j l o hi hp;refine⟨D*cmb c R p,AA (fun a b=>cmb c R p*a+(D*v p)*b) s c,Int.mul_ne_zero r g,by rw[AG];(first|lia|omega),fun q hq=>?_,fun q hq d=>?_,fun x hx=>?_⟩
  ·rw[ik _ _ s c R e f]
   rcases List.mem_cons.mp hq with rfl|hq
   ·rw[e2 q hp n1,Int.mul_zero,Int.zero_add,Int.mul_right_comm]
   ·rw[e1 q hq,h q (hs q (.tail _ hq)) (fun z=>n1 (z▸hq)),Int.mul_zero,Int.add_zero,Int.mul_left_comm,AV]
  ·rw[ik _ _ s c R e f,e2 q hq (fun z=>d (.tail _ z)),h q hq (fun z=>d (z▸.head _)),Int.mul_zero,Int.mul_zero];rfl
  ·obtain⟨a,w,b',y,rfl⟩:=HW hx
   have h1:=b a w;have h2:=u b' y;have A:=hv p hp;generalize (2*R.length*M) ^ (R.length-1)=X at h1 h2 ⊢;have k:=ET g;generalize cmb c R p=E at k ⊢;have C:(E*a).natAbs<=E.natAbs*(D.natAbs*(Q.length*(V*X))):=by rw[AJ];exact Al _ h1
   have F:(D*v p*b').natAbs<=D.natAbs*(V*X):=by
    rw[AJ,AJ,AQ];exact Al _ (AO A h2)
   have G:=Int.natAbs_add_le (E*a) (D*v p*b');have H:D.natAbs*(V*X)<=E.natAbs*(D.natAbs*(V*X)):=Nat.le_mul_of_pos_left _ k;have I:(D*E).natAbs*((Q.length+1)*(V*X))=E.natAbs*(D.natAbs*(Q.length*(V*X)))+E.natAbs*(D.natAbs*(V*X)):=by
    rw[AJ,Nat.add_mul,Nat.one_mul,Nat.mul_add,Nat.mul_comm D.natAbs E.natAbs,AQ,AQ]
   show _<=(D*E).natAbs*((Q.length+1)*(V*X));rw[I];exact Af G (Nat.add_le_add C (Af F H))
def vh{R:List Vc}{P:List Nat}{M V:Nat}{c:List Int}(r:1<=M)(u:∀v∈R,∀p∈P,(v p).natAbs<=M)(e:P.length=R.length)(f:P.Nodup)(hi:Inj R P)(hc:c.length=R.length)(hv:∀p∈P,(cmb c R p).natAbs<=V):∀x∈c,x.natAbs<=R.length*(V*(2*R.length*M) ^ (R.length-1)):=by
 obtain⟨D,s,g,h,e1,_,b⟩:=clear r u e f hi hv P f fun q hq=>hq;have hz:=hi (AA (fun a b=>D*a+(-1)*b) c s) (by rw[AG];(first|lia|omega)) fun p hp=>by
  rw[ik _ _ c s R hc h,e1 p hp];(first|lia|omega)
 intro x hx;obtain⟨i,j,rfl⟩:=Be hx;have l:i<s.length:=ω
 have d:i<(AA (fun a b=>D*a+(-1)*b) c s).length:=by rw[AG];(first|lia|omega)
 have o:=hz _ (AB d);rw[Bh] at o;have h1:=b _ (AB l);have h2:s[i]=D*c[i]:=ω
 rw[h2,AJ,e] at h1;exact Nat.le_of_mul_le_mul_left h1 (ET g)
end Tb
end
section
namespace Tb
def Rep(R:List Vc)(C:Nat)(v:Vc):Prop:=∃c:List Int,c.length=R.length/\(∀u,v u=cmb c R u)/\∀x∈c,x.natAbs<=C
section
variable{R:List Vc}{C D:Nat}{v w:Vc}
def Rep.mono(h:Rep R C v)(hc:C<=D):Rep R D v:=let ⟨c,h1,h2,h3⟩:=h;⟨c,h1,h2,fun x hx=>Af (h3 x hx) hc⟩
def Rep.eq(h:Rep R C v)(e:∀u,w u=v u):Rep R C w:=let ⟨c,h1,h2,h3⟩:=h;⟨c,h1,fun u=>(e u).trans (h2 u),h3⟩
def Rep.lin{k m:Int}{A B:Nat}(hv:Rep R C v)(hw:Rep R D w)(hk:k.natAbs<=A)(g:m.natAbs<=B):Rep R (A*C+B*D) fun u=>k*v u+m*w u:=by
 obtain⟨c,h1,h2,e⟩:=hv;obtain⟨d,g1,g2,g3⟩:=hw;refine⟨AA (fun a b=>k*a+m*b) c d,by rw[AG];(first|lia|omega),fun u=>?_,fun x hx=>?_⟩
 ·show k*v u+m*w u=_
  rw[ik k m c d R h1 g1,h2,g2]
 ·obtain⟨a,f,b,hb,rfl⟩:=HW hx
  have h:(k*a).natAbs<=A*C:=by rw[AJ];exact AO hk (e a f)
  have i:(m*b).natAbs<=B*D:=by rw[AJ];exact AO g (g3 b hb)
  have:=Int.natAbs_add_le (k*a) (m*b);(first|lia|omega)
def Rep.sub{m:Int}{B:Nat}(hv:Rep R C v)(hw:Rep R D w)(a:m.natAbs<=B):Rep R (C+B*D) fun u=>v u-m*w u:=
 ((hv.lin (k:=1) (m:=-m) hw (A:=1) (B:=B) ξ (by rw[Int.natAbs_neg];exact a)).mono ω).eq fun u=>by rw[Int.one_mul,Int.neg_mul];(first|lia|omega)
def Rep.le(h:Rep R C v){M u:Nat}(b:∀r∈R,(r u).natAbs<=M):(v u).natAbs<=R.length*(C*M):=by
 obtain⟨c,h1,h2,a⟩:=h;rw[h2];exact vg c R a b
end
def step(f:Nat->Vc)(p:Nat)(l:Vc):Vc:=fun u=>l u-l p / f p p*f p u
def aX(f:Nat->Vc):List Nat->Vc->Vc
 |[],l=>l
 |p::ps,l=>aX f ps (step f p l)
structure Ech(P:List Nat)(f:Nat->Vc):Prop where
 z:∀p∈P,∀i,i<p->f p i=0
 pos:∀p∈P,0<f p p
section
variable{f:Nat->Vc}
def Ech.sub{P Q:List Nat}(h:Ech P f)(a:∀q∈Q,q∈P):Ech Q f:=⟨fun p hp=>h.z p (a p hp),fun p hp=>h.pos p (a p hp)⟩
def HX{P:List Nat}{p i:Nat}{l:Vc}(h:Ech P f)(hp:p∈P)(hi:i<p):step f p l i=l i:=by
 unfold step;rw[h.z p hp i hi,Int.mul_zero,Int.sub_zero]
def step_at{P:List Nat}{p:Nat}{l:Vc}(h:Ech P f)(hp:p∈P):0<=step f p l p/\step f p l p<f p p:=by
 have a:=h.pos p hp;have e:step f p l p=l p%f p p:=by
  unfold step;have:=Int.emod_add_mul_ediv (l p) (f p p);rw[Bp] at this;(first|lia|omega)
 rw[e];exact⟨Int.emod_nonneg _ ω,Int.emod_lt_of_pos _ a⟩
def C2:∀{ps:List Nat}{l:Vc}{i:Nat},Ech ps f->(∀p∈ps,i<p)->aX f ps l i=l i
 |[],_,_,_,_=>rfl
 |p::ps,l,i,h,hi=>by
  show aX f ps (step f p l) i=l i;rw[C2 (h.sub fun q hq=>.tail _ hq) (fun q hq=>hi q (.tail _ hq)),HX h (.head _) (hi p (.head _))]
def HY:∀{ps:List Nat}{l:Vc}{t:Nat},Ech ps f->(∀i,i<t->l i=0)->∀i,i<t->aX f ps l i=0
 |[],_,_,_,hz,i,hi=>hz i hi
 |p::ps,l,t,h,hz,i,hi=>by
  refine HY (h.sub fun q hq=>.tail _ hq) (t:=t) (fun i hi=>?_) i hi
  by_cases hp:i<p
  ·rw[HX h (.head _) hp];exact hz i hi
  ·unfold step
   rw[hz i hi,hz p ω];simp
def C3:∀{ps:List Nat}{l:Vc},Ech ps f->ps.Pairwise (·<·)->∀p∈ps,0<=aX f ps l p/\aX f ps l p<f p p
 |p::ps,l,h,hs,q,hq=>by
  rw[Bi] at hs;have h':Ech ps f:=h.sub fun q hq=>.tail _ hq;rcases List.mem_cons.mp hq with rfl|hq
  ·show 0<=aX f ps (step f q l) q/\aX f ps (step f q l) q<f q q
   rw[C2 h' (fun r hr=>hs.1 r hr)];exact step_at h (.head _)
  ·exact C3 h' hs.2 q hq
def mM{R:List Vc}{P:List Nat}{CF VF:Nat}(g:∀p∈P,Rep R CF (f p))(h:∀p∈P,∀q∈P,(f p q).natAbs<=VF)(a:∀p∈P,0<f p p):∀(ps:List Nat){l:Vc}{C V:Nat},(∀p∈ps,p∈P)->Rep R C l->(∀q∈P,(l q).natAbs<=V)->Rep R (C+ps.length*(V*(1+VF) ^ ps.length*CF)) (aX f ps l)/\∀q∈P,(aX f ps l q).natAbs<=V*(1+VF) ^ ps.length
 |[],l,C,V,_,hr,hv=>⟨hr.mono ω,fun q hq=>by show(l q).natAbs<=V*(1+VF) ^ 0;rw[Nat.pow_zero,Nat.mul_one];exact hv q hq⟩
 |p::ps,l,C,V,hs,hr,hv=>by
  have hp:=hs p (.head _);have o:=a p hp;have d:(l p / f p p).natAbs<=V:=by
   refine Af ?_ (hv p hp);have:(l p / f p p).natAbs<=(l p).natAbs:=by
    have:=Int.natAbs_ediv_le_natAbs (l p) (f p p);exact this
   exact this
  have i:Rep R (C+V*CF) (step f p l):=hr.sub (g p hp) d;have j:∀q∈P,(step f p l q).natAbs<=V*(1+VF):=fun q hq=>by
   have r:=hv q hq;have s:(l p / f p p*f p q).natAbs<=V*VF:=by rw[AJ];exact AO d (h p hp q hq)
   have u:(step f p l q).natAbs<=(l q).natAbs+(l p / f p p*f p q).natAbs:=by unfold step;(first|lia|omega)
   rw[Nat.mul_add,Nat.mul_one];(first|lia|omega)
  obtain⟨b,c⟩:=mM g h a ps (fun q hq=>hs q (.tail _ hq)) i j;have e:V*(1+VF)*(1+VF) ^ ps.length=V*(1+VF) ^ (ps.length+1):=by rw[Nat.pow_succ,AQ,Nat.mul_comm (1+VF)]
  rw[e] at b c;refine⟨b.mono ?_,c⟩;show C+V*CF+ps.length*(V*(1+VF) ^ (ps.length+1)*CF)<=C+(ps.length+1)*(V*(1+VF) ^ (ps.length+1)*CF);have v:V*1<=V*(1+VF) ^ (ps.length+1):=Al _ (Nat.pow_pos ω);have w:V*CF<=V*(1+VF) ^ (ps.length+1)*CF:=Am _ ω;rw[Nat.add_mul];(first|lia|omega)
end
end Tb
end
section
namespace Tb
def Sp(R:List Vc)(v:Vc):Prop:=∃c:List Int,c.length=R.length/\∀u,v u=cmb c R u
section
variable{R S:List Vc}{v w:Vc}
def Rep.sp{C:Nat}(h:Rep R C v):Sp R v:=let ⟨c,h1,h2,_⟩:=h;⟨c,h1,h2⟩
def Sp.eq(h:Sp R v)(e:∀u,w u=v u):Sp R w:=let ⟨c,h1,h2⟩:=h;⟨c,h1,fun u=>(e u).trans (h2 u)⟩
def Sp.zero:Sp R fun _=>0:=⟨Ay R.length 0,List.length_replicate,fun u=>(C1 _ _ _).symm⟩
def Sp.lin(hv:Sp R v)(hw:Sp R w)(k m:Int):Sp R fun u=>k*v u+m*w u:=by
 obtain⟨c,h1,h2⟩:=hv;obtain⟨d,g1,g2⟩:=hw;refine⟨AA (fun a b=>k*a+m*b) c d,by rw[AG];(first|lia|omega),fun u=>?_⟩;show k*v u+m*w u=_;rw[ik k m c d R h1 g1,h2,g2]
def Sp.sub(hv:Sp R v)(hw:Sp R w)(m:Int):Sp R fun u=>v u-m*w u:=(hv.lin hw 1 (-m)).eq fun u=>by rw[Int.one_mul,Int.neg_mul];(first|lia|omega)
def Rep.mem:∀{R:List Vc}{v:Vc},v∈R->Rep R 1 v
 |r::R,v,h=>by
  rcases List.mem_cons.mp h with rfl|h
  ·exact⟨1::Ay R.length 0,by simp,fun u=>by show v u=1*v u+cmb (Ay R.length 0) R u;rw[C1];(first|lia|omega),fun x hx=>by
    rcases List.mem_cons.mp hx with rfl|hx
    ·decide
    ·rw[(List.mem_replicate.mp hx).2];decide⟩
  ·obtain⟨c,h1,h2,a⟩:=Rep.mem h
   exact⟨0::c,by simp[h1],fun u=>by show v u=0*r u+cmb c R u;rw[h2];(first|lia|omega),fun x hx=>by
    rcases List.mem_cons.mp hx with rfl|hx
    ·decide
    ·exact a x hx⟩
def Sp.mem(h:v∈R):Sp R v:=(Rep.mem h).sp
def Sp.cmb:∀(c:List Int)(S:List Vc),(∀s∈S,Sp R s)->Sp R (Tb.cmb c S)
 |[],[],_=>Sp.zero
 |[],_::_,_=>Sp.zero
 |_::_,[],_=>Sp.zero
 |a::c,s::S,h=>((h s (.head _)).lin (Sp.cmb c S fun w hw=>h w (.tail _ hw)) a 1).eq fun u=>by show a*s u+Tb.cmb c S u=_;(first|lia|omega)
def Sp.trans(h:Sp S v)(a:∀s∈S,Sp R s):Sp R v:=by
 obtain⟨c,_,h2⟩:=h;exact(Sp.cmb c S a).eq h2
def jo(R:List Vc):Prop:=∀c:List Int,c.length=R.length->(∀u,cmb c R u=0)->∀x∈c,x=0
def zM{u:Nat}:∀(c:List Int)(L:List Vc),(∀v∈L,v u=0)->cmb c L u=0
 |[],[],_=>rfl
 |[],_::_,_=>rfl
 |_::_,[],_=>rfl
 |a::c,v::L,h=>by
  show a*v u+cmb c L u=0;rw[h v (.head _),zM c L fun w hw=>h w (.tail _ hw),Int.mul_zero];rfl
end
section
variable{f:Nat->Vc}
def EU:∀{P:List Nat},Ech P f->P.Pairwise (·<·)->∀c:List Int,c.length=P.length->(∀p∈P,cmb c (P.map f) p=0)->∀x∈c,x=0
 |[],_,_,c,hl,_,x,hx=>by rw[AL hl] at hx;cases hx
 |p::P,h,hs,[],hl,_,x,hx=>by cases hx
 |p::P,h,hs,a::c,hl,hz,x,hx=>by
  rw[Bi] at hs;have b:=hz p (.head _);have e:cmb (a::c) ((p::P).map f) p=a*f p p:=by
   show a*f p p+cmb c (P.map f) p=a*f p p;rw[zM c (P.map f) fun v hv=>by
    obtain⟨q,hq,rfl⟩:=List.mem_map.mp hv;exact h.z q (.tail _ hq) p (hs.1 q hq)]
   (first|lia|omega)
  rw[e] at b;have hp:=h.pos p (.head _);have d:a=0:=by
   rcases Int.mul_eq_zero.mp b with z|z
   ·exact z
   ·(first|lia|omega)
  subst d;rcases List.mem_cons.mp hx with rfl|hx
  ·rfl
  ·refine EU (h.sub fun q hq=>.tail _ hq) hs.2 c (by simpa using hl) (fun q hq=>?_) x hx
   have:=hz q (.tail _ hq);have e:cmb (0::c) ((p::P).map f) q=0*f p q+cmb c (P.map f) q:=rfl;rw[e] at this;(first|lia|omega)
def mY:∀(c:List Int)(L:List Vc)(u:Nat),(∀x∈c,x=0)->cmb c L u=0
 |[],[],_,_=>rfl
 |[],_::_,_,_=>rfl
 |_::_,[],_,_=>rfl
 |a::c,v::L,u,h=>by show a*v u+cmb c L u=0;rw[h a (.head _),mY c L u fun x hx=>h x (.tail _ hx)];(first|lia|omega)
def C4{R:List Vc}{P:List Nat}(hi:jo R)(h:Ech P f)(b:P.Pairwise (·<·))(e:∀r∈R,Sp (P.map f) r):Inj R P:=fun c hc hz=>by
 obtain⟨d,h1,h2⟩:=Sp.cmb c R e;have a:=EU h b d (by simpa using h1) fun p hp=>by rw[<-h2];exact hz p hp
 exact hi c hc fun u=>by rw[h2];exact mY d _ u a
def kj:∀{P:List Nat}{p:Nat}{w:Vc},Ech P f->P.Pairwise (·<·)->p∈P->Sp (P.map f) w->(∀q∈P,q<p->w q=0)->f p p ∣ w p
 |[],_,_,_,_,hp,_,_=>nomatch hp
 |q::P,p,w,h,hs,hp,⟨c,hc,e⟩,hz=>by
  cases c with
  |nil=>simp at hc
  |cons a c=>
   rw[Bi] at hs;have eq:w q=a*f q q:=by
    rw[e];show a*f q q+cmb c (P.map f) q=a*f q q;rw[zM c (P.map f) fun v hv=>by
     obtain⟨r,hr,rfl⟩:=List.mem_map.mp hv;exact h.z r (.tail _ hr) q (hs.1 r hr)]
    (first|lia|omega)
   rcases List.mem_cons.mp hp with rfl|hp
   ·exact⟨a,by rw[eq,Bp]⟩
   ·have hq:=hz q (.head _) (hs.1 p hp)
    rw[eq] at hq;have d:=h.pos q (.head _);have g:a=0:=by
     rcases Int.mul_eq_zero.mp hq with z|z
     ·exact z
     ·(first|lia|omega)
    refine kj (h.sub fun q hq=>.tail _ hq) hs.2 hp ⟨c,by simpa using hc,fun u=>?_⟩ fun r hr b=>hz r (.tail _ hr) b;rw[e];show a*f q u+cmb c (P.map f) u=_;rw[g];(first|lia|omega)
def MN{R:List Vc}{P:List Nat}{M:Nat}(l:1<=M)(hi:jo R)(h:Ech P f)(b:P.Pairwise (·<·))(d:∀r∈R,Sp (P.map f) r)(o:P.length=R.length)(hb:∀r∈R,∀p∈P,(r p).natAbs<=M){p:Nat}(hp:p∈P):(f p p).natAbs<=R.length*((2*R.length*M) ^ (R.length-1)*M):=by
 have j:P.Nodup:=b.imp fun h=>AD h;obtain⟨c,s,e,g,i⟩:=HV l hb o j (C4 hi h b d) hp;have hd:=kj h b hp (Sp.cmb c R d) fun q hq a=>g q hq (AD a);have:=Nat.le_of_dvd (ET e) (Int.natAbs_dvd_natAbs.mpr hd);exact Af this (vg c R i fun r hr=>hb r hr p hp)
end
end Tb
end
section
namespace Tb
structure GI(x y:Int)(t0 t1 t2 l0 l1 l2:Int):Prop where
 t:t0=t1*x+t2*y
 l:l0=l1*x+l2*y
 det:t1*l2-t2*l1=1\/t1*l2-t2*l1=-1
 tp:0<t0
 lp:0<=l0
 s1:(0<=t1/\l1<=0)\/(t1<=0/\0<=l1)
 s2:(0<=t2/\l2<=0)\/(t2<=0/\0<=l2)
 m1:l1.natAbs*t0.natAbs+t1.natAbs*l0.natAbs=y.natAbs
 m2:l2.natAbs*t0.natAbs+t2.natAbs*l0.natAbs=x.natAbs
 b1:t1.natAbs<=y.natAbs
 b2:t2.natAbs<=x.natAbs
def GI.start{x y:Int}(hx:0<x)(hy:0<y):GI x y x 1 0 y 0 1:=
 ⟨ω,ω,ω,hx,ω,.inl ⟨ω,ω⟩,.inr ⟨ω,ω⟩,by simp,by simp,ω,ω⟩
def HZ{a b q:Int}(hq:0<=q)(h:(0<=a/\b<=0)\/(a<=0/\0<=b)):(a-q*b).natAbs=a.natAbs+q.natAbs*b.natAbs:=by
 have e:(q*b).natAbs=q.natAbs*b.natAbs:=AJ ..;rcases h with ⟨h1,h2⟩|⟨h1,h2⟩
 ·have:q*b<=0:=Int.mul_nonpos_of_nonneg_of_nonpos hq h2
  (first|lia|omega)
 ·have:0<=q*b:=Int.mul_nonneg hq h2
  (first|lia|omega)
def GI.next{x y f r s c i j:Int}(g:GI x y f r s c i j)(h:c≠0):GI x y c i j (f-f / c*c) (r-f / c*i) (s-f / c*j)/\f-f / c*c<c:=by
 have p:0<c:=by have:=g.lp;(first|lia|omega)
 have o:0<=f / c:=Int.ediv_nonneg (Int.le_of_lt g.tp) g.lp;have em:f-f / c*c=f%c:=by have:=Int.emod_add_mul_ediv f c;rw[Bp] at this;(first|lia|omega)
 have z:0<=f%c:=Int.emod_nonneg _ h;have A:f%c<c:=Int.emod_lt_of_pos _ p;have v:=HZ o g.s1;have w:=HZ o g.s2;have u:∀{a b n:Nat},b*f.natAbs+a*c.natAbs=n->(a+(f / c).natAbs*b)*c.natAbs+b*(f-f / c*c).natAbs=n:=fun{a b n} e=>by
  have e1:(f-f / c*c).natAbs+(f / c).natAbs*c.natAbs=f.natAbs:=by
   have:(f / c*c).natAbs=(f / c).natAbs*c.natAbs:=AJ ..;have:0<=f / c*c:=Int.mul_nonneg o g.lp;have:=g.tp;(first|lia|omega)
  rw[<-e,<-e1,Nat.add_mul,Nat.mul_add,AQ,Nat.mul_left_comm b];(first|lia|omega)
 refine⟨⟨g.l,?_,?_,p,ω,?_,?_,?_,?_,?_,?_⟩,ω⟩
 ·have e1:=g.t
  have e2:=g.l;generalize f / c=q;rw[Int.sub_mul,Int.sub_mul,AV,AV];have:q*c=q*(i*x)+q*(j*y):=by rw[e2,Int.mul_add]
  (first|lia|omega)
 ·have d:=g.det
  generalize f / c=q;rw[Int.mul_sub,Int.mul_sub,Int.mul_left_comm i q j,Int.mul_left_comm j q i,Bp j i,Bp i s,Bp j r];(first|lia|omega)
 ·rcases g.s1 with ⟨h1,h2⟩|⟨h1,h2⟩
  ·have:f / c*i<=0:=Int.mul_nonpos_of_nonneg_of_nonpos o h2
   exact .inr ⟨h2,ω⟩
  ·have:0<=f / c*i:=Int.mul_nonneg o h2
   exact .inl ⟨h2,ω⟩
 ·rcases g.s2 with ⟨h1,h2⟩|⟨h1,h2⟩
  ·have:f / c*j<=0:=Int.mul_nonpos_of_nonneg_of_nonpos o h2
   exact .inr ⟨h2,ω⟩
  ·have:0<=f / c*j:=Int.mul_nonneg o h2
   exact .inl ⟨h2,ω⟩
 ·rw[v];exact u g.m1
 ·rw[w];exact u g.m2
 ·have:=g.m1
  have h1:i.natAbs*1<=i.natAbs*f.natAbs:=Al _ (by have:=g.tp;(first|lia|omega));(first|lia|omega)
 ·have:=g.m2
  have h1:j.natAbs*1<=j.natAbs*f.natAbs:=Al _ (by have:=g.tp;(first|lia|omega));(first|lia|omega)
def GI.le{x y c d e f a b:Int}(g:GI x y c d e f a b):a.natAbs<=y.natAbs/\b.natAbs<=x.natAbs:=by
 have h1:a.natAbs*1<=a.natAbs*c.natAbs:=Al _ (by have:=g.tp;(first|lia|omega));have h2:b.natAbs*1<=b.natAbs*c.natAbs:=Al _ (by have:=g.tp;(first|lia|omega));have:=g.m1;have:=g.m2;(first|lia|omega)
end Tb
end
section
namespace K23
open PySem L2
abbrev C5:Stmt:=top 33
section
variable{P:Program}{w:World}{K:Ag}{mg:Str->Option Value}{base:Heap}
def H_:Sp:=fun vs H Q _=>∃(r:Addr)(rn:List Int)(k:Nat),vs=[.ref r]/\H r=some (.lst (rn.map V.int))/\(∀i,i<k->rn[i]?=some 0)/\(∃x,rn[k]?=some x/\x≠0)/\Q (.int k) H
def EV:zp ["row","place"] ["row"] (zg C5):=⟨rfl,rfl,rfl,δ,rfl,δ,δ⟩
def MO{f:Addr}{fd:FuncData}(F:Fun K "first_place" "first_place" C5 f fd):ai P w K mg base aw 1 f fd ["row"] H_:=by
 refine F.ok EV (fun vs H Q E h=>?_) (fun o A outer s H vs Q E hr h=>?_)
 ·obtain⟨r,rn,k,rfl,_⟩:=h;rfl
 ·obtain⟨r,rn,k,rfl,h1,g,⟨x,hx,l⟩,hq⟩:=h
  refine⟨_,ze (zq (i:=1) EV.nd rfl (Or.inl rfl) zd)
   (ze (B' Bl (zt dz (zo zn (pv 0) (pv 1) (fun _ _=>rfl)) zd (ar _))
    (zh (zq (i:=1) EV.nd rfl (Or.inl rfl) (zA fU (pv 1) zd))))
   (zh (zr (pv 1)))),?_⟩
  refine⟨fun n σ a=>∃i:Nat,n=k-i/\i<=k/\σ=[some (.ref r),some (.int i)]/\a=H,⟨_,0,rfl,ω,rfl,rfl⟩,?_⟩;rintro n σ a ⟨i,rfl,hi,rfl,rfl⟩;obtain⟨y,hy,e⟩:∃y,rn[i]?=some y/\(y=0↔i<k):=by
   rcases Bs i k with c|c
   ·exact⟨0,g i c,by simp[c]⟩
   ·have:i=k:=ω
    subst this;exact⟨x,hx,by simp[l]⟩
  refine⟨_,rfl,_,rfl,r,_,_,_,rfl,rfl,SqL.of h1,zi (j:=i) (v:=V.int y) (by rw[Aj,hy];rfl),rfl,_,rfl,?_⟩
  by_cases c:i<k
  ·rw[show decide (V.int y=V.int 0)=true by rw[e.mpr c];rfl]
   refine aA ⟨fun b H'=>∃d,d<k-i/\∃i:Nat,d=k-i/\i<=k/\b=[some (.ref r),some (.int i)]/\H'=a,fun b H' h=>h,?_⟩;exact⟨_,rfl,_,_,rfl,rfl,k-(i+1),ω,i+1,rfl,ω,rfl,rfl⟩
  ·rw[show decide (V.int y=V.int 0)=false from decide_eq_false fun z=>c (e.mp (by injection z))]
   have:i=k:=ω
   subst this;exact az ⟨_,rfl,hq⟩
end
end K23
end
section
namespace K23
open PySem L2
abbrev vp:Stmt:=top 34
def EW:A8 "tuple"=some (.type "tuple"):=δ
section
variable{P:Program}{w:World}{K:Ag}{mg:Str->Option Value}{base:Heap}
def MP{H2:Hp}{r o D:Addr}{rn on:List Int}{f:Int->Int->Int}{te:TE}{c:List (Option V)}{Q:VK}(v:∀(a b:Int)(H:Hp)(R:VK),a∈rn->b∈on->R (.int (f a b)) H->te (some (.int a)::some (.int b)::c) H R)(h1:H2 r=some (.tup (rn.map V.int)))(h2:H2 o=some (.tup (on.map V.int)))(n2:on.length<=1000)(s:H2 D=none)(k:∀d,Same H2 d->d D=some (.lst ((AA f rn on).map V.int))->Q (.ref D) d):cH (CQ K r o) (cr K 2 (cD (zL 0) (cD (zL 1) cq))) bM te (none::none::c) H2 D Q:=by
 refine L8 (K:=K) (xs:=rn.map V.int) (ys:=on.map V.int) (fun i σ zs d=>∃j l,σ=j::l::c/\Same H2 d/\d D=some (.lst zs)/\zs=((AA f rn on).take i).map V.int)
  ⟨none,none,rfl,Same.new s,zc,rfl⟩ (fun i σ zs d ⟨_,_,_,sm,_⟩=>⟨SqT.of (sm _ _ h1),SqT.of (sm _ _ h2)⟩) ?_ ?_
 ·rintro i σ zs d u w x e1 e2 hi hz ⟨j,l,rfl,h,e,rfl⟩ g
  obtain⟨p,g1,rfl⟩:=ie e1;obtain⟨q,g2,rfl⟩:=ie e2;refine⟨u,_,rfl,SqT.of zc,rfl,_,_,rfl,_,_,rfl,rfl,ge ?_⟩;refine v p q _ _ (Ak g1) (Ak g2) (bN (Af (Nat.min_le_right _ _) (by rw[Aa];exact zv ω)) hi hz (by rw[af (zk e g)];exact e) ⟨_,_,rfl,?_,zc,?_⟩)
  ·exact(h.then (h.free g)).then s
  ·have e3:(AA f rn on)[i]?=some (f p q):=by rw[List.getElem?_zipWith,g1,g2]
   rw[Bk e3,At];rfl
 ·rintro σ zs d ⟨j,l,rfl,h,e,rfl⟩
  refine k d h ?_;rw[e,Ar (by simp)]
abbrev Tr(H:Hp)(p:Addr)(a b c:Int):Prop:=H p=some (.tup [.int a,.int b,.int c])
def Ia:Sp:=fun vs H Q _=>∃x y:Int,vs=[.int x,.int y]/\0<x/\0<y/\x.natAbs<2 ^ 9000/\y.natAbs<2 ^ 9000/\
 ∀r p q H' a b c d e,Same H H'->H' r=some (.tup [.ref p,.ref q])->Tr H' p a b c->Tr H' q 0 d e->Tb.GI x y a b c 0 d e->Q (.ref r) H'
def m4:zp ["one","other","told","left","often","rest"] ["one","other"] (zg vp):=⟨rfl,rfl,rfl,δ,rfl,δ,δ⟩
def MQ{f:Addr}{fd:FuncData}(F:Fun K "divisor_pair" "divisor_pair" vp f fd)(bz:mg "zip"=none)(bt:mg "tuple"=none):ai P w K mg base aw 1 f fd ["one","other"] Ia:=by
 refine F.ok m4 (fun vs H Q E h=>?_) (fun ak A outer s H vs Q E hr h=>?_)
 ·obtain⟨x,y,rfl,_⟩:=h;rfl
 ·obtain⟨x,y,rfl,x0,y0,Z,yb,k⟩:=h
  refine⟨_,ze (zq (i:=2) m4.nd rfl (Or.inl rfl) (hO (za (pv 0) (za zd (za zd zb)))))
   (ze (zq (i:=3) m4.nd rfl (Or.inl rfl) (hO (za (pv 1) (za zd (za zd zb)))))
   (ze (B' Bl (zt lJ (zo zC (pv 3) zd (fun _ _=>rfl)) zd (ar _))
    (ze (zq (i:=4) m4.nd rfl (Or.inr rfl) (zA ER (zo zC (pv 2) zd (fun _ _=>rfl)) (zo zC (pv 3) zd (fun _ _=>rfl))))
    (ze (zq (i:=5) m4.nd rfl (Or.inl rfl) (zQ Ei rfl bt EW (za (zu ["one","other","told","left","often","rest"] ["high","low","often"] [none,none,some 4] (L4 rfl bz mD (za (pv 2) (za (pv 3) zb)))
     (fun U C s₀ H₀ ex=>gZ rfl (zB (zl (i:=0) (bI ["high","low","often"]) rfl (Or.inl rfl)) (zB (zl (i:=1) (bI ["high","low","often"]) rfl (Or.inl rfl)) gU))) (fun U C s₀ H₀ ex=>zy)
     (fun U C s₀ H₀ ex=>zA e8 (pv 0) (zA my (pv 2) (pv 1))) (te:=bQ (fS fun i j=>.int (i-j)) (av 0) (bQ (rI ey fun i j=>.int (i*j)) (av 2) (av 1))) (hfr:=bB (zg vp) δ) (g:=cr K 2 (cD (zL 0) (cD (zL 1) cq)))) zb)))
    (ze (zq (i:=2) m4.nd rfl (Or.inl rfl) (pv 3))
    (zh (zq (i:=3) m4.nd rfl (Or.inl rfl) (pv 5)))))))
   (zh (zr (hO (za (pv 2) (za (pv 3) zb))))))),?_⟩
  refine⟨_,rfl,zv (show 3<=100000 from ξ),fun T v=>⟨_,rfl,zv (show 3<=100000 from ξ),fun L l=>?_⟩⟩;have oP:T≠L:=zk zc l;refine⟨fun n σ M=>∃(T L:Addr)(e r u d p q:Int)(G I:Option V),n=d.natAbs/\σ=[some (.int x),some (.int y),some (.ref T),some (.ref L),G,I]/\Same H M/\Tr M T e r u/\Tr M L d p q/\Tb.GI x y e r u d p q/\e.natAbs<2 ^ 9000/\d.natAbs<2 ^ 9000,
   ⟨_,T,L,x,1,0,y,0,1,none,none,rfl,rfl,(Same.new v).trans (Same.new l),(by show upd _ L _ T=_;rw[af oP];exact zc),zc,Tb.GI.start x0 y0,Z,yb⟩,?_⟩
  clear l oP;clear v T L;rintro n σ M ⟨T,L,e,r,u,d,p,q,G,I,rfl,rfl,sm,v,l,g,tb,J⟩;refine⟨_,rfl,L,_,_,_,rfl,rfl,SqT.of l,zi (j:=0) rfl,rfl,_,rfl,?_⟩
  by_cases c:d=0
  ·rw[show(!decide (V.int d=V.int 0))=false by rw[c];rfl]
   subst c;refine az ⟨_,rfl,_,rfl,zv (show 2<=100000 from ξ),fun R O=>?_⟩;have S:=Same.new (o:=.tup [.ref T,.ref L]) O;exact k R T L _ e r u p q (sm.trans S) zc (S _ _ v) (S _ _ l) g
  ·rw[show(!decide (V.int d=V.int 0))=true by rw[decide_eq_false (fun z=>c (by injection z))];rfl]
   obtain⟨g2,lt⟩:=g.next c;have xX:0<d:=by have:=g.lp;(first|lia|omega)
   have q0:0<=e / d:=Int.ediv_nonneg (Int.le_of_lt g.tp) g.lp;have vX:(e / d).natAbs<=e.natAbs:=Int.natAbs_ediv_le_natAbs _ _;have jI:=g.le;refine aA ⟨fun W H'=>∃Y,Y<d.natAbs/\∃(T L:Addr)(e r u d p q:Int)(G I:Option V),Y=d.natAbs/\W=[some (.int x),some (.int y),some (.ref T),some (.ref L),G,I]/\Same H H'/\Tr H' T e r u/\Tr H' L d p q/\Tb.GI x y e r u d p q/\e.natAbs<2 ^ 9000/\d.natAbs<2 ^ 9000,fun W H' h=>h,?_⟩;refine⟨_,rfl,T,_,_,_,rfl,rfl,SqT.of v,zi (j:=0) rfl,_,rfl,L,_,_,_,rfl,rfl,SqT.of l,zi (j:=0) rfl,_,_,rfl,rfl,⟨xX,J⟩,?_⟩;refine⟨_,rfl,_,rfl,T,L,rfl,⟨_,SqT.of v⟩,⟨_,SqT.of l⟩,fun D hD=>zx (MP (rn:=[e,r,u]) (on:=[d,p,q]) (f:=fun a b=>a-e / d*b) (fun a b H' R _ hb O=>?_) v l (by simp) hD fun H4 X b_=>?_)⟩
   ·refine⟨_,rfl,_,rfl,_,rfl,_,_,rfl,rfl,⟨9000,9000,Av vX tb,?_,ξ⟩,_,_,rfl,rfl,O⟩
    simp at hb;rcases hb with rfl|rfl|rfl
    ·exact J
    ·exact Av jI.1 yb
    ·exact Av jI.2 Z
   ·refine⟨D,_,rfl,.inl ⟨SqL.of b_,fun N hN=>?_⟩⟩
    have s5:=Same.new (o:=.tup (([e-e / d*d,r-e / d*p,u-e / d*q]:List Int).map V.int)) hN;refine⟨_,rfl,_,rfl,(e-e / d*d).natAbs,by have:=g2.lp;(first|lia|omega),L,N,d,p,q,_,_,_,_,_,rfl,rfl,(sm.trans X).trans s5,(X.trans s5) _ _ l,zc,g2,J,?_⟩;have:=g2.lp;exact Nat.lt_trans ω J
end
end K23
end
section
namespace STb
open PySem PySem.SetTable PyProof.Rows cz PySem.W
section
variable{prog:Program}{w:World}{A:Around}{E:Ω}{s:Shared}{S:Addr}
def MR{T:String}{r d:Addr}{n:Nat}{P:Nat->Value->Prop}{j:Heap->Prop}{R:List Value->Shared->Prop}(K:KdlSrc prog w T r d n P j)(l:A.handled=none)(i:j s.heap)(p:n<=sizeLine)(h:∀(h':Heap)(tk:Nat)(acc:Array Value),s⁻¹<=h'.objs.size->(∀b o,s.heap.get? b=some o->h'.get? b=some o)->ItemsOf P acc n->R acc.toList {s with heap:=h',toks:=tk}):wpAny (model prog w) A (collect (.ref r)) R E s:=by
 obtain⟨hr,hd⟩:=K.there _ i;unfold collect;refine Ae (wpAny_runValue (codeAny_builtin entry_proto_collect' ?_));rw[Around.under_plainId PySem.F.plain_proto_collect _];show wpAny _ A.in1 (do again (.builtin "list.__iadd__" ⟨[<-newList [],.ref r],[]⟩)) _ _ s;refine Ae (wpAny_newObj_type (An ⟨plainId_quiet PySem.F.plain_list_iadd _,codeAny_builtin entry_list_iadd' ?_⟩));rw[Around.under_plainId PySem.F.plain_list_iadd _];show wpAny _ A.in1 (Builtin.List.listExtendWith (.ref s⁻¹) (.ref r) (.ref s⁻¹)) _ _ _;have fin:∀(h':Heap)(tk:Nat)(acc:Array Value)(c:Nat),(∀b o,s.heap.get? b=some o->h'.get? b=some o)->h'.get? s⁻¹=some {cls:=.type "list",dict:=none,data:=.seq acc c,slots:=#[]}->ItemsOf P acc n->
   wpAny (model prog w) A (do match (<-load s⁻¹).data with
    |.seq xs _=>pure xs.toList
    |_=>unsupported "internal:collect") R E {s with heap:=h',toks:=tk}:=fun h' tk acc c hk a g=>Ae (wpAny_load a (An (h h' tk acc (Nat.le_of_lt (Ax a)) hk g)))
 refine wpAny_mono (kdl_extend (A:=A) (s:={s with heap:=s.heap.push {cls:=.type "list",data:=.seq ([]:List Value).toArray}})
  (R:=fun q s'=>∃h' tk acc c,q=Except.ok (Flow.ret (.ref s⁻¹))/\s'={s with heap:=h',toks:=tk}/\(∀b o,s.heap.get? b=some o->h'.get? b=some o)/\h'.get? s⁻¹=some {cls:=.type "list",dict:=none,data:=.seq acc c,slots:=#[]}/\ItemsOf P acc n)
  K l (K.keep _ _ i fun b _ o e=>Ai _ e) s⁻¹ (Nat.ne_of_gt hr) (Nat.ne_of_gt hd) (.ref s⁻¹) 0 (AI _ rfl)
  (fun h' tk acc c hk a g=>⟨h',tk,acc,c,rfl,rfl,fun b o e=>hk b o (AD (Ax e)) (Ai _ e),a,g⟩) p) (fun f s' x=>?_) fun e s' x=>?_
 ·cases f with
  |done f=>
   obtain⟨h',tk,acc,c,e,rfl,hk,a,g⟩:=x;cases e;exact fin h' tk acc c hk a g
  |again c₁=>
   refine⟨x.1,codeAny_mono x.2 fun q u y=>?_⟩;obtain⟨h',tk,acc,c,rfl,rfl,hk,a,g⟩:=y;exact fin h' tk acc c hk a g
 ·obtain⟨_,_,_,_,e',_⟩:=x
  cases e'
end
end STb
namespace L2
open PySem PySem.Spec PyProof.Rows
section
variable{X:Cx}
def MS{ns:List Int}{ad:List Value}{out:List Value}(hi:IntsAre ad ns)(c:cz.Out (ns.map fun n=>[n]) ad out):∃ms:List Int,Vals (ms.map V.int) out/\ms.Perm ns/\ms.Pairwise (·<=·):=by
 obtain⟨ps,hp,c,d⟩:=c;have g:ad.length=ns.length:=hi.length;have all:∀p∈ps,∃n t,p.1=[n]/\p.2=Value.int n t:=fun p a=>by
  obtain⟨i,e⟩:=List.mem_iff_getElem?.mp (hp.mem_iff.mp a);rw[cz.dm,Aj] at e;cases e1:ns[i]? with
  |none=>rw[e1] at e;simp at e
  |some n=>
   obtain⟨t,e2⟩:=hi.get i n e1;rw[e1,e2] at e;simp only[Option.map_some,Option.bind_some,Option.some.injEq] at e;subst e;exact⟨n,t,rfl,rfl⟩
 have f:∀ps:List (List Int×Value),(∀p∈ps,∃n t,p.1=[n]/\p.2=Value.int n t)->Vals ((ps.map fun p=>p.1.headD 0).map V.int) (ps.map (·.2)):=by
  intro ps
  induction ps with
  |nil=>intro _;exact .nil
  |cons p ps ih=>
   intro h;obtain⟨n,t,e1,e2⟩:=h p Aq;refine .cons ?_ (ih fun q hq=>h q (Ao _ hq));show RelV (V.int (p.1.headD 0)) p.2;rw[e1,e2];exact⟨t,rfl⟩
 refine⟨ps.map fun p=>p.1.headD 0,by rw[c];exact f ps all,?_,?_⟩
 ·have h1:=hp.map (fun p:List Int×Value=>p.1.headD 0)
  have e:((ns.map fun n=>[n]).zip ad).map (fun p:List Int×Value=>p.1.headD 0)=ns:=by
   rw[show(fun p:List Int×Value=>p.1.headD 0)=(fun l:List Int=>l.headD 0) ∘ Prod.fst from rfl,<-AT,List.map_fst_zip (by rw[Aa];lia),AT];exact List.map_id' ns
  rw[e] at h1;exact h1
 ·rw[List.pairwise_map]
  refine d.imp_of_mem fun{p q} h1 h2 b=>?_;obtain⟨n,t,e1,_⟩:=all p h1;obtain⟨m,t',e2,_⟩:=all q h2;rw[e1,e2,HT.sR] at b;rw[e1,e2];show n<=m
  by_cases e:m=n
  ·lia
  ·rw[if_neg e] at b
   have:=of_decide_eq_false b
   lia
end
end L2
end
section
namespace STb
open PySem PySem.SetTable PyProof.Rows cz PySem.W
section
variable{prog:Program}{w:World}{A:Around}{E:Ω}{s:Shared}
def MT{T:String}{r d:Addr}{n:Nat}{P:Nat->Value->Prop}{j:Heap->Prop}{ns:List Int}{Q:Ω}(K:KdlSrc prog w T r d n P j)(q:A.handled=none)(f:j s.heap)(u:n<64)(hi:∀acc:Array Value,ItemsOf P acc n->IntsAre acc.toList ns)(h:∀(D:Addr)(h':Heap)(tk e:Nat)(ad:List Value)(out:Array Value),s⁻¹<=D->(∀b o,s.heap.get? b=some o->h'.get? b=some o)->h'.get? D=some (seqObj "list" out e)->IntsAre ad ns->Out (ns.map fun n=>[n]) ad out.toList->Q (.ref D) {s with heap:=h',toks:=tk}):wpAny (model prog w) A (call (.builtin "sorted") [.ref r]) Q E s:=by
 refine Calls.call_function_entry kind_sorted plain_sorted entry_sorted (args_sorted1 _) ?_;unfold Builtin.«sorted»;refine Ae (m:=checkCount "sorted" 1 1 _) (An ?_);refine Ae (MR (A:=A.in1) K q f (by rw[sizeLine_eq];(first|lia|omega)) fun h' tk acc a hk g=>?_);have hi:=hi acc g;have i:acc.toList.length=n:=by rw[Array.length_toList];exact g.1
 refine Ae (wpAny_newList ?_ (by rw[i,sizeLine_eq];(first|lia|omega)));have c:(h'.push (seqObj "list" acc.toList.toArray 0)).get? h'.objs.size=some (seqObj "list" acc.toList.toArray 0):=AI _ rfl;refine Ae (wpAny_holding (wpAny_call_entry slot_list_sort ⟨_,c,rfl⟩ entry_list_sort (Mp (s:={s with heap:=h'.push (seqObj "list" acc.toList.toArray 0),toks:=tk}) (good:=fun _=>True) c (Mm hi) (fun _ _=>trivial) (by rw[i,sizeLine_eq];(first|lia|omega)) ω fun out l=>⟨_,rfl,?_⟩) (args_list_sort _)));obtain⟨e,p⟩:=sortedHeap_at (out:=out) c;refine An ⟨_,rfl,h h'.objs.size _ tk e acc.toList out a (fun b o e=>?_) p hi l⟩;have hb:b<h'.objs.size:=Ax (hk b o e);rw[sortedHeap_old (AD hb) (by rw[size_push'];exact Nat.lt_succ_of_lt hb)];exact Ai _ (hk b o e)
end
end STb
namespace L2
open PySem PySem.Spec PyProof.Rows
section
variable{X:Cx}
abbrev dZ(ps:List (Int×V)):HO:=.dK (ps.map fun p=>(Sum.inl p.1,p.2))
def ints_of{ps:List (Int×V)}:∀{m:List (Key×Value)}{a:List Value},KV (ps.map fun p=>((Sum.inl p.1:Key),p.2)) m->a.length=m.length->(∀(i:Nat) v,a[i]?=some v->∃k x,m[i]?=some (k,x)/\(eD X.prog X.w).is k v=true)->IntsAre a (ps.map (·.1)):=by
 induction ps with
 |nil=>
  intro m a q h1 _;cases q;cases a with
  |nil=>exact .nil
  |cons _ _=>simp at h1
 |cons p ps ih=>
  intro m a q h1 h2;cases q with
  |@cons _ q' _ qs hq t=>
   cases a with
   |nil=>simp at h1
   |cons v a=>
    obtain⟨k,x,g1,g2⟩:=h2 0 v rfl;simp only[List.getElem?_cons_zero,Option.some.injEq] at g1;have hk:(Sum.inl p.1:Key)=k:=by rw[g1] at hq;exact hq.1
    subst hk;obtain⟨t',e2⟩:∃t',v=Value.int p.1 t':=L9 g2;subst e2;exact .cons _ _ (ih t (by simpa using h1) fun i v e=>by simpa using h2 (i+1) v (by simpa using e))
def vr(hc:X.calm=true):gD X (.builtin "sorted") (fun xs H Q=>∃a ps,xs=[.ref a]/\H a=some (dZ ps)/\ps.length<64/\∀(D:Addr)(ms:List Int),ms.Perm (ps.map (·.1))->ms.Pairwise (·<=·)->H D=none->Q (.ref D) (upd H D (.lst (ms.map V.int)))):=by
 intro aa s σ H xs us Q I r h;obtain⟨a,ps,rfl,hq,hz,q⟩:=h;obtain⟨u,rfl,p⟩:=vals1 r;cases p;obtain⟨z,y,vs,d,dd⟩:=Hu I.hok hq;obtain⟨ep,dd⟩:=dd.dictAt;have C:ps.length=vs.length:=by simpa using d.length
 refine STb.MT (ns:=ps.map (·.1)) (PySem.W.kdl_dict (knd:=eD X.prog X.w) (kvs:=vs) (ep:=ep) y) (I.ok.hd hc) dd ω (fun acc it=>ints_of (X:=X) d (by simpa using it.1) fun i v e=>it.2 i v (by simpa using e)) fun D h' tk e ad out c g j hi l=>?_;obtain⟨ks,x,f,A⟩:=MS hi l;have hk:ks.length=ps.length:=by simpa using f.length_eq
 refine⟨.ref D,_,I.laid (o:=.lst (ks.map V.int)) (fun b u e=>g b u e) c (show zay X.prog X.w _ _ _ (.lst (ks.map V.int)) from⟨by rw[Aa,sizeLine_eq];(first|lia|omega),out.toList,e,x,by simpa using j⟩),rfl,q _ _ f A (I.hok.fresh c)⟩
end
end L2
end
section
namespace L2
open PySem PySem.Spec PyProof.Rows
section
variable{X:Cx}
def MU{kvs:List (Key×V)}(c:(kvs.map (·.1)).Nodup){k:Key}{v:V}(h:(k,v)∈kvs):b4 kvs k=some v:=by
 unfold b4
 induction kvs with
 |nil=>cases h
 |cons a r ih=>
  rw[AX,List.nodup_cons] at c;rcases List.mem_cons.mp h with e|e
  ·subst e
   simp
  ·have b:a.1≠k:=fun z=>c.1 (by rw[z];exact List.mem_map_of_mem (f:=(·.1)) e)
   rw[List.find?_cons_of_neg (by simpa using b)];exact ih c.2 e
def MV{kvs:List (Key×V)}{k:Key}(h:∀a∈kvs,a.1≠k):b4 kvs k=none:=by
 unfold b4;rw[List.find?_eq_none.mpr fun a hk=>by simpa using h a hk]
 rfl
end
end L2
end
section
namespace K23
open PySem L2
abbrev jq:Stmt:=top 31
abbrev eF(es:List (Nat×Addr)):List (Int×V):=es.map fun e=>((e.1:Int),V.ref e.2)
structure Fnd(H:Hp)(a:Addr)(es:List (Nat×Addr))(fr:Nat->List Int):Prop where
 at_:H a=some (dZ (eF es))
 nd:(es.map (·.1)).Nodup
 rows:∀e∈es,H e.2=some (.lst ((fr e.1).map V.int))
def Fnd.same{H H':Hp}{a:Addr}{es:List (Nat×Addr)}{fr:Nat->List Int}(h:Fnd H a es fr)(s:Same H H'):Fnd H' a es fr:=⟨s _ _ h.at_,h.nd,fun e b=>s _ _ (h.rows e b)⟩
def MW{c d:Type}{f:c->d}{l:List c}(g:∀a b,f a=f b->a=b)(h:l.Nodup):(l.map f).Nodup:=by
 rw[List.Nodup,List.pairwise_map];exact h.imp fun n e=>n (g _ _ e)
def Fnd.get{H:Hp}{a:Addr}{es:List (Nat×Addr)}{fr:Nat->List Int}(h:Fnd H a es fr){p:Nat}(hp:p∈es.map (·.1)):∃d,(p,d)∈es/\DGet H a (.int p) (some (.ref d))/\H d=some (.lst ((fr p).map V.int)):=by
 obtain⟨e,c,rfl⟩:=List.mem_map.mp hp;refine⟨e.2,c,?_,h.rows e c⟩;have:=DGet.k (k:=Sum.inl (e.1:Int)) h.at_;rw[MU (v:=V.ref e.2) ?_ ?_] at this
 ·exact this
 ·have e2:((eF es).map fun p=>((Sum.inl p.1:Key),p.2)).map (·.1)=(es.map (·.1)).map fun n:Nat=>(Sum.inl (n:Int):Key):=by simp[eF,Function.comp_def]
  rw[e2];exact MW (fun a b z=>by injection z with z;(first|lia|omega)) h.nd
 ·exact List.mem_map.mpr ⟨((e.1:Int),V.ref e.2),List.mem_map.mpr ⟨e,c,rfl⟩,rfl⟩
def cP(fr:Nat->List Int)(l:List Int)(p:Nat):List Int:=dF l (l.getD p 0 / (fr p).getD p 0) (fr p)
def aQ(fr:Nat->List Int)(rn:List Int)(ps:List Nat):List Int:=ps.foldl (cP fr) rn
structure kA(fr:Nat->List Int)(W:Nat)(rn:List Int)(ps:List Nat):Prop where
 len:rn.length=W
 most:W<=1000
 row:∀p∈ps,p<W/\(fr p).length=W/\HR 0 ((fr p).getD p 0)
 mul:∀i p,ps[i]?=some p->∀x∈fr p,ey ((aQ fr rn (ps.take i)).getD p 0 / (fr p).getD p 0) x
def EX{fr:Nat->List Int}{l:List Int}{p W:Nat}(h:l.length=W)(h2:(fr p).length=W):(cP fr l p).length=W:=by
 unfold cP dF;rw[AG];(first|lia|omega)
def pu{fr:Nat->List Int}{W:Nat}:∀{ps:List Nat}{rn:List Int},rn.length=W->(∀p∈ps,(fr p).length=W)->(aQ fr rn ps).length=W
 |[],_,h,_=>h
 |p::ps,rn,h,h2=>pu (ps:=ps) (EX h (h2 p (Aq ..))) fun q hq=>h2 q (Ao _ hq)
def C6{fr:Nat->List Int}{rn:List Int}{ps:List Nat}{i p:Nat}(h:ps[i]?=some p):aQ fr rn (ps.take (i+1))=cP fr (aQ fr rn (ps.take i)) p:=by
 rw[Bk h];unfold aQ;rw[List.foldl_append];rfl
def EY{l on:List Int}(h:l.length=on.length):dF l 0 on=l:=by
 unfold dF;refine AU (by rw[AG];(first|lia|omega)) fun i h1 h2=>?_;rw[Bh];(first|lia|omega)
section
variable{P:Program}{w:World}{K:Ag}{mg:Str->Option Value}{base:Heap}
def Ib:Sp:=fun vs H Q _=>∃(r a pl:Addr)(rn:List Int)(es:List (Nat×Addr))(fr:Nat->List Int)(ps:List Nat)(W:Nat),vs=[.ref r,.ref a,.ref pl]/\H r=some (.lst (rn.map V.int))/\Fnd H a es fr/\H pl=some (.lst (ps.map fun p:Nat=>V.int (p:Int)))/\
 (∀p∈ps,p∈es.map (·.1))/\kA fr W rn ps/\∀D H',Same H H'->H' D=some (.lst ((aQ fr rn ps).map V.int))->Q (.ref D) H'
def vu:zp ["row","found","places","left","place","often"] ["row","found","places"] (zg jq):=⟨rfl,rfl,rfl,δ,rfl,δ,δ⟩
def MX{f o:Addr}{fd u:FuncData}(F:Fun K "reduced" "reduced" jq f fd)(Fl:Fun K "less" "less" kh o u)(bl:Binds K u ["row","often","other"] [])(N:mg "less"=some (.ref o))(Gl:ai P w K mg base aw 1 o u ["row","often","other"] va):ai P w K mg base aw 2 f fd ["row","found","places"] Ib:=by
 refine F.ok vu (fun vs H Q E h=>?_) (fun O A outer s H vs Q E hr h=>?_)
 ·obtain⟨r,a,pl,rn,es,fr,ps,W,rfl,_⟩:=h;rfl
 ·obtain⟨r,a,pl,rn,es,fr,ps,W,rfl,h1,J,b,L,ok,k⟩:=h
  have C:=CN hr;refine⟨_,ze (zq (i:=3) vu.nd rfl (Or.inl rfl) (pv 0))
   (ze (hA Bl rfl (zI (pv 2)) (zl (i:=4) vu.nd rfl (Or.inl rfl))
    (ze (zq (i:=5) vu.nd rfl (Or.inl rfl) (zA ER (zo zn (pv 3) (pv 4) (fun _ _=>rfl)) (zo zn (lX C (pv 1) (pv 4) (fun _ _=>rfl)) (pv 4) (fun _ _=>rfl))))
    (zh (cn (zt lJ (pv 5) zd (ar _))
     (zh (zq (i:=3) vu.nd rfl (Or.inl rfl) (zf Gl hr rfl N Fl.kp bl .nil ac (za (pv 3) (za (pv 5) (za (lX C (pv 1) (pv 4) (fun _ _=>rfl)) zb)))))) zJ))))
   (zh (zr (pv 3)))),?_⟩
  refine⟨_,rfl,_,rfl,pl,rfl,⟨_,SqL.of b⟩,CA (K:=K) (a:=pl) (xs:=ps.map fun p:Nat=>V.int (p:Int)) (fun i σ H2=>∃(d:Addr)(j l:Option V),σ=[some (.ref r),some (.ref a),some (.ref pl),some (.ref d),j,l]/\Same H H2/\H2 d=some (.lst ((aQ fr rn (ps.take i)).map V.int)))
   ⟨r,none,none,rfl,Same.refl H,h1⟩ (fun i σ H2 _ ⟨_,_,_,_,sm,_⟩=>SqL.of (sm _ _ b)) ?_ ?_⟩
  ·rintro i x σ H2 hx ⟨d,j,l,rfl,sm,hd⟩
   obtain⟨p,hp,rfl⟩:∃p,ps[i]?=some p/\x=V.int (p:Int):=by
    rw[Aj] at hx;cases e:ps[i]? with
    |none=>rw[e] at hx;cases hx
    |some p=>rw[e] at hx;cases hx;exact⟨p,rfl,rfl⟩
   have G:=Ak hp;obtain⟨S,T,M⟩:=ok.row p G;obtain⟨c,hc,v,y⟩:=(J.same sm).get (L p G);have U:(aQ fr rn (ps.take i)).length=W:=pu ok.len fun q hq=>(ok.row q (Bg hq)).2.1;have g1:((aQ fr rn (ps.take i)).map V.int)[p]?=some (V.int ((aQ fr rn (ps.take i)).getD p 0)):=by
    rw[Aj,Ac,Ab ω];rfl
   have g2:((fr p).map V.int)[p]?=some (V.int ((fr p).getD p 0)):=by
    rw[Aj,Ac,Ab ω];rfl
   refine⟨_,rfl,_,rfl,d,_,_,_,rfl,rfl,SqL.of hd,zi g1,_,rfl,_,rfl,a,_,rfl,v,_,rfl,c,_,_,_,rfl,rfl,SqL.of y,zi g2,_,_,rfl,rfl,M,?_⟩;refine⟨_,rfl,rfl,_,rfl,?_⟩
   by_cases z:(aQ fr rn (ps.take i)).getD p 0 / (fr p).getD p 0=0
   ·rw[show(!decide (V.int ((aQ fr rn (ps.take i)).getD p 0 / (fr p).getD p 0)=V.int 0))=false by rw[z];rfl]
    refine az ⟨d,_,_,rfl,sm,?_⟩;rw[C6 hp,cP,z,EY ω];exact hd
   ·rw[show(!decide (V.int ((aQ fr rn (ps.take i)).getD p 0 / (fr p).getD p 0)=V.int 0))=true by rw[decide_eq_false (fun e=>z (by injection e))];rfl]
    refine aA ⟨_,rfl,_,rfl,_,rfl,_,rfl,a,_,rfl,v,d,c,_,_,_,rfl,hd,y,by have:=ok.most;(first|lia|omega),ok.mul i p hp,fun D X I _ g=>?_⟩;refine⟨D,_,_,rfl,sm.trans I,?_⟩;rw[C6 hp];exact g
  ·rintro σ H2 ⟨d,j,l,rfl,sm,hd⟩
   rw[Aa,Ar (Ad _)] at hd;exact⟨_,rfl,k d H2 sm hd⟩
end
abbrev jw:Stmt:=top 37
def vv:A8 "sorted"=some (.builtin "sorted"):=δ
structure Pls(es:List (Nat×Addr))(ps:List Nat):Prop where
 pm:ps.Perm (es.map (·.1))
 so:ps.Pairwise (·<=·)
def Pls.ints{es:List (Nat×Addr)}{ps:List Nat}(h:Pls es ps){ms:List Int}(h1:ms.Perm ((eF es).map (·.1)))(h2:ms.Pairwise (·<=·)):ms.map V.int=ps.map fun p:Nat=>V.int (p:Int):=by
 have e:ms=ps.map fun p:Nat=>(p:Int):=by
  refine List.Perm.eq_of_pairwise (le:=(·<=·)) (fun a b _ _ x y=>Int.le_antisymm x y) h2 ?_ (h1.trans ?_)
  ·rw[List.pairwise_map];exact h.so.imp fun z=>ω
  ·have:(eF es).map (·.1)=(es.map (·.1)).map fun p:Nat=>(p:Int):=by simp[eF,Function.comp_def]
   rw[this];exact(h.pm.map _).symm
 rw[e,AT];rfl
def Pls.len{es:List (Nat×Addr)}{ps:List Nat}(h:Pls es ps):ps.length=es.length:=by rw[h.pm.length_eq,Aa]
def shrL(fr:Nat->List Int):List Int->List Nat->List Int
 |_,[]=>[]
 |l,p::ps=>(l.getD p 0 / (fr p).getD p 0)::shrL fr (cP fr l p) ps
def Ie{fr:Nat->List Int}:∀{ps:List Nat}{rn:List Int}{i p:Nat},ps[i]?=some p->(shrL fr rn ps)[i]?=some ((aQ fr rn (ps.take i)).getD p 0 / (fr p).getD p 0)
 |[],_,_,_,h=>by simp at h
 |q::ps,rn,0,p,h=>by simp at h;subst h;rfl
 |q::ps,rn,i+1,p,h=>by
  have:=Ie (fr:=fr) (ps:=ps) (rn:=cP fr rn q) (i:=i) (p:=p) (by simpa using h)
  simpa[shrL,aQ] using this
def vz{fr:Nat->List Int}:∀{ps:List Nat}{rn:List Int},(shrL fr rn ps).length=ps.length
 |[],_=>rfl
 |q::ps,rn=>by simp[shrL,vz (ps:=ps)]
section
variable{P:Program}{w:World}{K:Ag}{mg:Str->Option Value}{base:Heap}
def EZ:Sp:=fun vs H Q _=>∃(r a:Addr)(rn:List Int)(es:List (Nat×Addr))(fr:Nat->List Int)(ps:List Nat)(W:Nat),vs=[.ref r,.ref a]/\H r=some (.lst (rn.map V.int))/\Fnd H a es fr/\Pls es ps/\es.length<64/\kA fr W rn ps/\mI H Q (shrL fr rn ps)
def pz:zp ["row","found","told","left","place","often"] ["row","found"] (zg jw):=⟨rfl,rfl,rfl,δ,rfl,δ,δ⟩
def MY{f N:Addr}{fd O:FuncData}(F:Fun K "shares_of" "shares_of" jw f fd)(bs:mg "sorted"=none)(Fl:Fun K "less" "less" kh N O)(bl:Binds K O ["row","often","other"] [])(ml:mg "less"=some (.ref N))(Gl:ai P w K mg base aw 1 N O ["row","often","other"] va):ai P w K mg base aw 2 f fd ["row","found"] EZ:=by
 refine F.ok pz (fun vs H Q E h=>?_) (fun ak A outer s H vs Q E hr h=>?_)
 ·obtain⟨r,a,rn,es,fr,ps,W,rfl,_⟩:=h;rfl
 ·obtain⟨r,a,rn,es,fr,ps,W,rfl,h1,u,pls,eY,ok,k⟩:=h
  have X:=CN hr;refine⟨_,ze (zq (i:=2) pz.nd rfl (Or.inl rfl) (dB zb))
   (ze (zq (i:=3) pz.nd rfl (Or.inl rfl) (pv 0))
   (ze (hA Bl rfl (zI (zm (vr rfl) rfl bs vv (za (pv 1) zb))) (zl (i:=4) pz.nd rfl (Or.inl rfl))
    (ze (zq (i:=5) pz.nd rfl (Or.inl rfl) (zA ER (zo zn (pv 3) (pv 4) (fun _ _=>rfl)) (zo zn (lX X (pv 1) (pv 4) (fun _ _=>rfl)) (pv 4) (fun _ _=>rfl))))
    (ze (iN (ot PySem.F.plainAttrs_list PySem.F.slot_list_append PySem.F.type_list_append ti (pv 2) (za (pv 5) zb)))
    (zh (cn (zt lJ (pv 5) zd (ar _))
     (zh (zq (i:=3) pz.nd rfl (Or.inl rfl) (zf Gl hr rfl ml Fl.kp bl .nil ac (za (pv 3) (za (pv 5) (za (lX X (pv 1) (pv 4) (fun _ _=>rfl)) zb)))))) zJ)))))
   (zh (zr (pv 2))))),?_⟩
  refine⟨ξ,fun T l=>⟨_,rfl,_,rfl,a,eF es,rfl,?_,(by simpa using eY),fun j ms pm so S=>⟨j,rfl,⟨_,SqL.of zc⟩,?_⟩⟩⟩
  ·have:a≠T:=zk u.at_ l
   rw[af this];exact u.at_
  rw[pls.ints pm so];have Y:T≠j:=zk zc S;have Z:Same H (upd (upd H T (.lst [])) j (.lst (ps.map fun p:Nat=>V.int (p:Int)))):=(Same.new l).trans (Same.new S);have yR:=pls.len;refine CA (K:=K) (a:=j) (xs:=ps.map fun p:Nat=>V.int (p:Int)) (fun i σ H2=>∃(d:Addr)(C G:Option V),σ=[some (.ref r),some (.ref a),some (.ref T),some (.ref d),C,G]/\Same H H2/\H2 j=some (.lst (ps.map fun p:Nat=>V.int (p:Int)))/\H2 T=some (.lst (((shrL fr rn ps).take i).map V.int))/\H2 d=some (.lst ((aQ fr rn (ps.take i)).map V.int))/\d≠T)
   ⟨r,none,none,rfl,Z,zc,by rw[af Y];exact zc,Z _ _ h1,zk h1 l⟩ (fun i σ H2 _ ⟨_,_,_,_,_,h,_⟩=>SqL.of h) ?_ ?_
  ·rintro i x σ H2 hx ⟨d,C,G,rfl,sm,U,o,hd,I⟩
   obtain⟨p,hp,rfl⟩:∃p,ps[i]?=some p/\x=V.int (p:Int):=by
    rw[Aj] at hx;cases e:ps[i]? with
    |none=>rw[e] at hx;cases hx
    |some p=>rw[e] at hx;cases hx;exact⟨p,rfl,rfl⟩
   have gb:=Ak hp;obtain⟨pW,fW,cd⟩:=ok.row p gb;have pJ:p∈es.map (·.1):=pls.pm.mem_iff.mp gb;obtain⟨c,hc,J,L⟩:=(u.same sm).get pJ;have au:(aQ fr rn (ps.take i)).length=W:=pu ok.len fun q hq=>(ok.row q (Bg hq)).2.1;have g1:((aQ fr rn (ps.take i)).map V.int)[p]?=some (V.int ((aQ fr rn (ps.take i)).getD p 0)):=by
    rw[Aj,Ac,Ab ω];rfl
   have g2:((fr p).map V.int)[p]?=some (V.int ((fr p).getD p 0)):=by
    rw[Aj,Ac,Ab ω];rfl
   have g3:=Ie (fr:=fr) (rn:=rn) hp;refine⟨_,rfl,_,rfl,d,_,_,_,rfl,rfl,SqL.of hd,zi g1,_,rfl,_,rfl,a,_,rfl,J,_,rfl,c,_,_,_,rfl,rfl,SqL.of L,zi g2,_,_,rfl,rfl,cd,?_⟩;refine⟨_,rfl,.inl ⟨rfl,_,SqL.of o⟩,_,rfl,T,_,_,rfl,rfl,o,by rw[sizeLine_eq,Aa,Bo,vz];(first|lia|omega),?_⟩;have e4:((shrL fr rn ps).take i).map V.int++[V.int ((aQ fr rn (ps.take i)).getD p 0 / (fr p).getD p 0)]=((shrL fr rn ps).take (i+1)).map V.int:=by rw[Bk g3,At];rfl
   rw[e4];have v:Same H (upd H2 T (.lst (((shrL fr rn ps).take (i+1)).map V.int))):=sm.then l;have M:upd H2 T (.lst (((shrL fr rn ps).take (i+1)).map V.int)) j=some (.lst (ps.map fun p:Nat=>V.int (p:Int))):=by rw[af Y.symm];exact U
   have g:upd H2 T (.lst (((shrL fr rn ps).take (i+1)).map V.int)) d=some (.lst ((aQ fr rn (ps.take i)).map V.int)):=by rw[af I];exact hd
   have b:upd H2 T (.lst (((shrL fr rn ps).take (i+1)).map V.int)) T=some (.lst (((shrL fr rn ps).take (i+1)).map V.int)):=zc;generalize upd H2 T (.lst (((shrL fr rn ps).take (i+1)).map V.int))=H3 at v M g b ⊢;refine⟨_,rfl,rfl,_,rfl,?_⟩
   by_cases z:(aQ fr rn (ps.take i)).getD p 0 / (fr p).getD p 0=0
   ·rw[show(!decide (V.int ((aQ fr rn (ps.take i)).getD p 0 / (fr p).getD p 0)=V.int 0))=false by rw[z];rfl]
    refine az ⟨d,_,_,rfl,v,M,b,?_,I⟩;rw[C6 hp,cP,z,EY ω];exact g
   ·rw[show(!decide (V.int ((aQ fr rn (ps.take i)).getD p 0 / (fr p).getD p 0)=V.int 0))=true by rw[decide_eq_false (fun e=>z (by injection e))];rfl]
    obtain⟨c,hc,J,L⟩:=(u.same v).get pJ;refine aA ⟨_,rfl,_,rfl,_,rfl,_,rfl,a,_,rfl,J,d,c,_,_,_,rfl,g,L,by have:=ok.most;(first|lia|omega),ok.mul i p hp,fun D H4 y hD b_=>?_⟩;refine⟨D,_,_,rfl,v.trans y,y _ _ M,y _ _ b,?_,(zk b hD).symm⟩;rw[C6 hp];exact b_
  ·rintro σ H2 ⟨d,C,G,rfl,sm,U,o,hd,I⟩
   rw[Aa,Ar (by rw[vz];exact Ad _)] at o;exact⟨_,rfl,k T H2 sm l o⟩
end
end K23
end
section
namespace Tb
def cC(N X B:Nat):Nat:=N*(B*X)
def cW(N B:Nat):Nat:=2*B*B*(1+2*B*B) ^ N
def cG(N B:Nat):Nat:=2*B*(1+N*cW N B)
def cK(N M X B:Nat):Nat:=1+cC N X B+N*(M*(1+B) ^ N*cC N X B)
def pI{a b:Nat}(c:1<=a)(hb:1<=b):1<=a*b:=Nat.mul_pos c hb
def C7{N B:Nat}(a:1<=B):1<=cG N B:=pI (pI ξ a) ω
def Rep.more{R:List Vc}{C:Nat}{v r:Vc}(h:Rep R C v):Rep (R++[r]) C v:=by
 obtain⟨c,h1,h2,d⟩:=h;have app:∀(c:List Int)(R:List Vc),c.length=R.length->∀u,cmb (c++[0]) (R++[r]) u=cmb c R u:=by
  intro c
  induction c with
  |nil=>intro R b u;rw[AL b.symm];show 0*r u+0=0;(first|lia|omega)
  |cons a c ih=>
   intro R b u;cases R with
   |nil=>simp at b
   |cons s R=>show a*s u+cmb (c++[0]) (R++[r]) u=a*s u+cmb c R u;rw[ih R (by simpa using b)]
 refine⟨c++[0],by simp[h1],fun u=>by rw[app c R h1,h2],fun x hx=>?_⟩;rcases List.mem_append.mp hx with h|h
 ·exact d x h
 ·rw[List.mem_singleton.mp h];exact Az _
def Sp.more{R:List Vc}{v:Vc}(h:Sp R v)(S:List Vc)(a:∀r∈R,r∈S):Sp S v:=h.trans fun r hr=>Sp.mem (a r hr)
def Sp.redu{f:Nat->Vc}{S:List Vc}:∀(ps:List Nat){l:Vc},(∀p∈ps,Sp S (f p))->(Sp S l↔Sp S (aX f ps l))
 |[],_,_=>Iff.rfl
 |p::ps,l,h=>by
  refine Iff.trans ?_ (Sp.redu ps fun q hq=>h q (.tail _ hq));exact⟨fun a=>a.sub (h p (.head _)) _,fun a=>(a.sub (h p (.head _)) (-(l p / f p p))).eq fun u=>by unfold step;rw[Int.neg_mul];(first|lia|omega)⟩
structure TS(N M X B:Nat)(R:List Vc)(P:List Nat)(f:Nat->Vc)(l:Vc)(t:Nat):Prop where
 ech:Ech P f
 srt:P.Pairwise (·<·)
 len:P.length+1=R.length
 few:R.length<=N
 fr:∀p∈P,Rep R (cK N M X B*cG N B ^ (P.filter fun p=>decide (p<t)).length) (f p)
 lr:Rep R (cK N M X B*cG N B ^ (P.filter fun p=>decide (p<t)).length) l
 gen:∀r∈R,Sp (P.map f++[l]) r
 low:∀i,i<t->l i=0
 red:∀p∈P,0<=l p/\l p<f p p
 piv:∀p∈P,(f p p).natAbs<=B
 fv:∀p∈P,∀q∈P,(f p q).natAbs<=2*B*B
 fo:∀p∈P,t<=p->∀q∈P,(f p q).natAbs<=B
def put(f:Nat->Vc)(p:Nat)(v:Vc):Nat->Vc:=fun q=>if q=p then v else f q
def zO{f:Nat->Vc}{p:Nat}{v:Vc}:put f p v p=v:=if_pos rfl
def dH{f:Nat->Vc}{p q:Nat}{v:Vc}(h:q≠p):put f p v q=f q:=if_neg h
def mix(a:Int)(v:Vc)(b:Int)(w:Vc):Vc:=fun u=>a*v u+b*w u
def TS.next{N M X B:Nat}{R:List Vc}{P:List Nat}{f:Nat->Vc}{l:Vc}{t p:Nat}{g a b c d:Int}(hB:1<=B)(T:TS N M X B R P f l t)(hp:p∈P)(A:∀i,i<p->l i=0)(ow:l p≠0)(jv:t<=p)(G:GI (f p p) (l p) g a b 0 c d):TS N M X B R P (put f p (mix a (f p) b l)) (aX (put f p (mix a (f p) b l)) P (mix c (f p) d l)) (p+1)/\Ech P (put f p (mix a (f p) b l)):=by
 have hG:=C7 (N:=N) hB;have x0:=T.ech.pos p hp;obtain⟨r0,r1⟩:=T.red p hp;have L:=T.piv p hp;obtain⟨c1,c2⟩:=G.le;have a1:a.natAbs<=B:=Af G.b1 ω;have O:b.natAbs<=B:=Af G.b2 L;have c1:c.natAbs<=B:=Af c1 ω;have d1:d.natAbs<=B:=Af c2 L;have lq:∀q∈P,(l q).natAbs<=B:=fun q hq=>by have:=T.red q hq;have:=T.piv q hq;(first|lia|omega)
 have fp:=T.fo p hp jv;have S:∀{a b:Int},a.natAbs<=B->b.natAbs<=B->∀q∈P,(mix a (f p) b l q).natAbs<=2*B*B:=fun{a b} H hb q hq=>by
  have t1:(a*f p q).natAbs<=B*B:=by rw[AJ];exact AO H (fp q hq)
  have t2:(b*l q).natAbs<=B*B:=by rw[AJ];exact AO hb (lq q hq)
  have t3:=Int.natAbs_add_le (a*f p q) (b*l q);show(a*f p q+b*l q).natAbs<=_;rw[AQ];generalize B*B=Y at t1 t2 ⊢;(first|lia|omega)
 have C:mix a (f p) b l p=g:=by show a*f p p+b*l p=g;exact G.t.symm
 have g1:=G.tp;have jI:g.natAbs<=B:=by
  have U:=G.m2;rw[Int.natAbs_zero,Nat.mul_zero,Nat.add_zero] at U;rcases Nat.eq_zero_or_pos d.natAbs with z|z
  ·rw[z,Nat.zero_mul] at U;(first|lia|omega)
  ·have:1*g.natAbs<=d.natAbs*g.natAbs:=Am _ z
   (first|lia|omega)
 have j:Ech P (put f p (mix a (f p) b l)):=by
  refine⟨fun q hq i hi=>?_,fun q hq=>?_⟩
  ·by_cases e:q=p
   ·subst e;rw[zO];show a*f q i+b*l i=0;rw[T.ech.z q hq i hi,A i hi];(first|lia|omega)
   ·rw[dH e];exact T.ech.z q hq i hi
  ·by_cases e:q=p
   ·subst e;rw[zO,C];exact g1
   ·rw[dH e];exact T.ech.pos q hq
 refine⟨?_,j⟩;have D:P.length<=N:=by have:=T.len;have:=T.few;(first|lia|omega)
 generalize hK:cK N M X B*cG N B ^ (P.filter fun p=>decide (p<t)).length=K;have fr:=T.fr;have W:=T.lr;rw[hK] at fr W;have mr:∀{a b:Int},a.natAbs<=B->b.natAbs<=B->Rep R (2*B*K) (mix a (f p) b l):=fun{a b} H hb=>((fr p hp).lin W H hb).mono (by rw[AQ];(first|lia|omega));have kl:K<=2*B*K:=Nat.le_mul_of_pos_left _ ω;have di:∀q∈P,Rep R (2*B*K) (put f p (mix a (f p) b l) q):=fun q hq=>by
  by_cases e:q=p
  ·subst e;rw[zO];exact mr a1 O
  ·rw[dH e];exact(fr q hq).mono kl
 have E:∀q∈P,∀r∈P,(put f p (mix a (f p) b l) q r).natAbs<=2*B*B:=fun q hq r hr=>by
  by_cases e:q=p
  ·subst e;rw[zO];exact S a1 O r hr
  ·rw[dH e];exact T.fv q hq r hr
 obtain⟨mG,Bx⟩:=mM di E j.pos P (fun q hq=>hq) (mr c1 d1) (S c1 d1);have cnt:(P.filter fun q=>decide (q<t)).length+1<=(P.filter fun q=>decide (q<p+1)).length:=by
  have h1:(P.filter fun q=>decide (q<t))++[p] ⊆ P.filter fun q=>decide (q<p+1):=fun q hq=>by
   rcases List.mem_append.mp hq with h|h
   ·obtain⟨h1,h2⟩:=List.mem_filter.mp h
    have:=of_decide_eq_true h2;exact List.mem_filter.mpr ⟨h1,decide_eq_true ω⟩
   ·rw[List.mem_singleton.mp h];exact List.mem_filter.mpr ⟨hp,decide_eq_true ω⟩
  have nd:P.Nodup:=T.srt.imp fun h=>AD h;have J:((P.filter fun q=>decide (q<t))++[p]).Nodup:=by
   rw[List.nodup_append];refine⟨nd.filter _,by simp,fun x hx y hy=>?_⟩;rw[List.mem_singleton.mp hy];have:=of_decide_eq_true (List.mem_filter.mp hx).2;(first|lia|omega)
  have:=J.length_le_of_subset h1
  simpa using this
 have o:2*B*K+P.length*(2*B*B*(1+2*B*B) ^ P.length*(2*B*K))<=cG N B*K:=by
  unfold cG cW;have h1:(1+2*B*B) ^ P.length<=(1+2*B*B) ^ N:=Aw ω D;generalize 2*B*B=Y at h1 ⊢;have h2:P.length*(Y*(1+Y) ^ P.length*(2*B*K))<=N*(Y*(1+Y) ^ N*(2*B*K)):=AO D (Am _ (Al _ h1));refine Af (Nat.add_le_add_left h2 _) (Nat.le_of_eq ?_);generalize Y*(1+Y) ^ N=Z;generalize 2*B=Q;rw[Nat.mul_add,Nat.mul_one,Nat.add_mul,<-AQ N Z,Nat.mul_comm Q (N*Z),AQ (N*Z)]
 have v:cG N B*K<=cK N M X B*cG N B ^ (P.filter fun q=>decide (q<p+1)).length:=by
  rw[<-hK,Nat.mul_left_comm,<-Nat.pow_succ'];exact Al _ (Aw hG cnt)
 have two:2*B*K<=cG N B*K:=Af (AY _ _) o;have F:=G.det;refine⟨j,T.srt,T.len,T.few,fun q hq=>(di q hq).mono (Af two v),mG.mono (Af o v),fun r hr=>?_,?_,fun q hq=>C3 j T.srt q hq,fun q hq=>?_,E,fun q hq hlt r hr=>?_⟩
 ·-- eS old rows out of eS new ones
  have S1:∀q∈P,Sp (P.map (put f p (mix a (f p) b l))++[aX (put f p (mix a (f p) b l)) P (mix c (f p) d l)]) (put f p (mix a (f p) b l) q):=fun q hq=>Sp.mem (List.mem_append_left _ (List.mem_map.mpr ⟨q,hq,rfl⟩));have S2:=(Sp.redu P (l:=mix c (f p) d l) S1).mpr (Sp.mem (AF _ (List.mem_singleton.mpr rfl)));have Sp1:=S1 p hp;rw[zO] at Sp1;have ef:∀{x y z w:Int},(a*d-b*c=1\/a*d-b*c=-1)->∀u,x=(a*d-b*c)*d->y=(a*d-b*c)*(-b)->x*mix a (f p) b l u+y*mix c (f p) d l u=f p u:=fun{x y z w} hd u ex I=>by
   subst ex I;show(a*d-b*c)*d*(a*f p u+b*l u)+(a*d-b*c)*(-b)*(c*f p u+d*l u)=f p u;have e:(a*d-b*c)*d*(a*f p u+b*l u)+(a*d-b*c)*(-b)*(c*f p u+d*l u)=(a*d-b*c)*(a*d-b*c)*f p u:=by
    rw[AV,AV,AV,<-Int.mul_add]
    congr 1
    rw[Int.mul_add,Int.mul_add,Int.neg_mul,Int.neg_mul,<-AV,<-AV,<-AV,<-AV,Int.sub_mul,Bp d a,Bp d b];(first|lia|omega)
   rw[e];rcases hd with h|h<;>rw[h]<;>(first|lia|omega)
  have el:∀{x y:Int},(a*d-b*c=1\/a*d-b*c=-1)->∀u,x=(a*d-b*c)*(-c)->y=(a*d-b*c)*a->x*mix a (f p) b l u+y*mix c (f p) d l u=l u:=fun{x y} hd u ex I=>by
   subst ex I;show(a*d-b*c)*(-c)*(a*f p u+b*l u)+(a*d-b*c)*a*(c*f p u+d*l u)=l u;have e:(a*d-b*c)*(-c)*(a*f p u+b*l u)+(a*d-b*c)*a*(c*f p u+d*l u)=(a*d-b*c)*(a*d-b*c)*l u:=by
    rw[AV,AV,AV,<-Int.mul_add]
    congr 1
    rw[Int.mul_add,Int.mul_add,Int.neg_mul,Int.neg_mul,<-AV,<-AV,<-AV,<-AV,Int.sub_mul,Bp c a,Bp c b];(first|lia|omega)
   rw[e];rcases hd with h|h<;>rw[h]<;>(first|lia|omega)
  have Sf:=(Sp1.lin S2 ((a*d-b*c)*d) ((a*d-b*c)*(-b))).eq (w:=f p) fun u=>(ef (z:=0) (w:=0) F u rfl rfl).symm;have Sl:=(Sp1.lin S2 ((a*d-b*c)*(-c)) ((a*d-b*c)*a)).eq (w:=l) fun u=>(el F u rfl rfl).symm;refine(T.gen r hr).trans fun s hs=>?_;rcases List.mem_append.mp hs with h|h
  ·obtain⟨q,hq,rfl⟩:=List.mem_map.mp h
   by_cases e:q=p
   ·subst e;exact Sf
   ·have:=S1 q hq
    rw[dH e] at this;exact this
  ·rw[List.mem_singleton.mp h];exact Sl
 ·refine HY j fun i hi=>?_
  show c*f p i+d*l i=0
  by_cases e:i=p
  ·subst e;exact G.l.symm
  ·rw[T.ech.z p hp i ω,A i ω];(first|lia|omega)
 ·by_cases e:q=p
  ·subst e;rw[zO,C];exact jI
  ·rw[dH e];exact T.piv q hq
 ·rw[dH (show q≠p from ω)];exact T.fo q hq ω r hr
def ins(q:Nat):List Nat->List Nat
 |[]=>[q]
 |p::P=>if q<p then q::p::P else p::ins q P
def mem_ins{q x:Nat}:∀{P:List Nat},x∈ins q P↔x=q\/x∈P
 |[]=>by simp[ins]
 |p::P=>by
  unfold ins;split
  ·simp
  ·rw[List.mem_cons,mem_ins,List.mem_cons]
   constructor
   ·rintro(h|h|h)
    ·exact .inr (.inl h)
    ·exact .inl h
    ·exact .inr (.inr h)
   ·rintro(h|h|h)
    ·exact .inr (.inl h)
    ·exact .inl h
    ·exact .inr (.inr h)
def E7{q:Nat}:∀{P:List Nat},(ins q P).length=P.length+1
 |[]=>rfl
 |p::P=>by unfold ins;split<;>simp[E7]
def Ig{q:Nat}:∀{P:List Nat},P.Pairwise (·<·)->q∉P->(ins q P).Pairwise (·<·)
 |[],_,_=>by simp[ins]
 |p::P,h,hn=>by
  rw[Bi] at h;unfold ins;split
  ·rename_i hlt
   rw[Bi,Bi];refine⟨fun x hx=>?_,h⟩;rcases List.mem_cons.mp hx with rfl|hx
   ·exact hlt
   ·exact Nat.lt_trans hlt (h.1 x hx)
  ·rename_i hlt
   rw[Bi];refine⟨fun x hx=>?_,Ig h.2 fun z=>hn (.tail _ z)⟩;rcases mem_ins.mp hx with rfl|hx
   ·have:x≠p:=fun z=>hn (z▸.head _)
    (first|lia|omega)
   ·exact h.1 x hx
def bA(f:Nat->Vc):List Nat->Nat->Vc
 |[]=>f
 |p::ps=>put (bA f ps) p (aX (bA f ps) ps (f p))
section
variable{f:Nat->Vc}
def Ih:∀{ps:List Nat}{q:Nat},q∉ps->bA f ps q=f q
 |[],_,_=>rfl
 |p::ps,q,h=>by
  show put (bA f ps) p _ q=f q;rw[dH (show q≠p from fun z=>h (by rw[z];exact .head _)),Ih fun z=>h (.tail _ z)]
def pM{p q:Nat}{ps:List Nat}(h:q≠p):bA f (p::ps) q=bA f ps q:=dH h
def vA{p:Nat}{ps:List Nat}:bA f (p::ps) p=aX (bA f ps) ps (f p):=zO
def E8:∀{ps:List Nat},Ech ps f->ps.Pairwise (·<·)->Ech ps (bA f ps)/\∀p∈ps,bA f ps p p=f p p
 |[],_,_=>⟨⟨(fun p hp=>nomatch hp),(fun p hp=>nomatch hp)⟩,fun p hp=>nomatch hp⟩
 |p::ps,h,hs=>by
  rw[Bi] at hs;obtain⟨e1,e2⟩:=E8 (h.sub fun q hq=>.tail _ hq) hs.2;have ne:∀q∈ps,q≠p:=fun q hq=>Ne.symm (AD (hs.1 q hq));have hd:bA f (p::ps) p p=f p p:=by rw[vA,C2 e1 fun q hq=>hs.1 q hq]
  have tl:∀q∈ps,bA f (p::ps) q q=f q q:=fun q hq=>by rw[pM (ne q hq)];exact e2 q hq
  refine⟨⟨fun q hq i hi=>?_,fun q hq=>?_⟩,fun q hq=>?_⟩
  ·rcases List.mem_cons.mp hq with rfl|hq
   ·rw[vA,C2 e1 fun r hr=>Nat.lt_trans hi (hs.1 r hr)];exact h.z q (.head _) i hi
   ·rw[pM (ne q hq)];exact e1.z q hq i hi
  ·rcases List.mem_cons.mp hq with rfl|hq
   ·rw[hd];exact h.pos q (.head _)
   ·rw[tl q hq];exact h.pos q (.tail _ hq)
  ·rcases List.mem_cons.mp hq with rfl|hq
   ·exact hd
   ·exact tl q hq
def E9:∀{ps:List Nat},Ech ps f->ps.Pairwise (·<·)->∀p∈ps,∀q∈ps,p<q->0<=bA f ps p q/\bA f ps p q<bA f ps q q
 |p::ps,h,hs,r,hr,q,hq,hlt=>by
  rw[Bi] at hs;have h':Ech ps f:=h.sub fun q hq=>.tail _ hq;obtain⟨e1,e2⟩:=E8 h' hs.2;have ne:∀q∈ps,q≠p:=fun q hq=>Ne.symm (AD (hs.1 q hq));have a:q∈ps:=by
   rcases List.mem_cons.mp hq with rfl|hq
   ·rcases List.mem_cons.mp hr with rfl|hr
    ·(first|lia|omega)
    ·have:=hs.1 r hr;(first|lia|omega)
   ·exact hq
  rw[pM (ne q a)];rcases List.mem_cons.mp hr with rfl|hr
  ·rw[vA];exact C3 e1 hs.2 q a
  ·rw[pM (ne r hr)];exact E9 h' hs.2 r hr q a hlt
def Ii:∀{ps:List Nat}{S:List Vc},ps.Nodup->(∀p∈ps,Sp S (bA f ps p))->∀p∈ps,Sp S (f p)
 |p::ps,S,nd,h,q,hq=>by
  obtain⟨n1,n2⟩:=List.nodup_cons.mp nd;have ne:∀q∈ps,q≠p:=fun q hq z=>n1 (z▸hq);have a:∀q∈ps,Sp S (bA f ps q):=fun q hq=>by have:=h q (.tail _ hq);rwa [pM (ne q hq)] at this
  rcases List.mem_cons.mp hq with rfl|hq
  ·have:=h q (.head _)
   rw[vA] at this;exact(Sp.redu ps a).mpr this
  ·exact Ii n2 a q hq
def Ij:∀{ps:List Nat}{S:List Vc},ps.Nodup->(∀p∈ps,Sp S (f p))->∀p∈ps,Sp S (bA f ps p)
 |p::ps,S,nd,h,q,hq=>by
  obtain⟨n1,n2⟩:=List.nodup_cons.mp nd;have a:=Ij (S:=S) n2 fun q hq=>h q (.tail _ hq);rcases List.mem_cons.mp hq with rfl|hq
  ·rw[vA];exact(Sp.redu ps a).mp (h q (.head _))
  ·rw[pM (show q≠p from fun z=>n1 (z▸hq))];exact a q hq
end
structure FS(N M X B:Nat)(R:List Vc)(P:List Nat)(f:Nat->Vc):Prop where
 ech:Ech P f
 srt:P.Pairwise (·<·)
 len:P.length=R.length
 few:R.length<=N
 fr:∀p∈P,Rep R (cC N X B) (f p)
 gen:∀r∈R,Sp (P.map f) r
 red:∀p∈P,∀q∈P,p<q->0<=f p q/\f p q<f q q
 piv:∀p∈P,(f p p).natAbs<=B
def FS.start{N M X B:Nat}{f:Nat->Vc}:FS N M X B [] [] f:=
 ⟨⟨(fun p hp=>nomatch hp),(fun p hp=>nomatch hp)⟩,.nil,rfl,Az _,(fun p hp=>nomatch hp),(fun p hp=>nomatch hp),(fun p hp=>nomatch hp),(fun p hp=>nomatch hp)⟩
def FS.fv{N M X B:Nat}{R:List Vc}{P:List Nat}{f:Nat->Vc}(F:FS N M X B R P f):∀p∈P,∀q∈P,(f p q).natAbs<=B:=fun p hp q hq=>by
 rcases Nat.lt_trichotomy p q with h|h|h
 ·have:=F.red p hp q hq h;have:=F.piv q hq;(first|lia|omega)
 ·subst h;exact F.piv p hp
 ·rw[F.ech.z p hp q h];exact Az _
def FS.take{N M X B:Nat}{R:List Vc}{P:List Nat}{f:Nat->Vc}{r:Vc}(l:1<=B)(F:FS N M X B R P f)(b:R.length<N)(hr:∀p∈P,(r p).natAbs<=M):TS N M X B (R++[r]) P f (aX f P r) 0:=by
 have a:P.length<=N:=by have:=F.len;(first|lia|omega)
 have c:(P.filter fun p=>decide (p<0)).length=0:=by rw[List.filter_eq_nil_iff.mpr];rfl;intro p _;simp
 obtain⟨e,o⟩:=mM (R:=R++[r]) (fun p hp=>(F.fr p hp).more) F.fv F.ech.pos P (fun q hq=>hq) (Rep.mem (AF R (List.mem_singleton.mpr rfl))) hr;have g:1+P.length*(M*(1+B) ^ P.length*cC N X B)<=cK N M X B:=by
  unfold cK;have h1:(1+B) ^ P.length<=(1+B) ^ N:=Aw ω a;have:=AO a (Am (cC N X B) (Al M h1));(first|lia|omega)
 have j:cC N X B<=cK N M X B:=by unfold cK;(first|lia|omega)
 refine⟨F.ech,F.srt,by rw[AN,F.len];rfl,by rw[AN];exact b,fun p hp=>?_,?_,fun s d=>?_,(fun i hi=>absurd hi (Nat.not_lt_zero _)),fun p hp=>C3 F.ech F.srt p hp,F.piv,fun p hp q hq=>?_,fun p hp _ q hq=>F.fv p hp q hq⟩
 ·rw[c,Nat.pow_zero,Nat.mul_one];exact(F.fr p hp).more.mono j
 ·rw[c,Nat.pow_zero,Nat.mul_one];exact e.mono g
 ·rcases List.mem_append.mp d with h|h
  ·exact(F.gen s h).more _ fun x hx=>List.mem_append_left _ hx
  ·rw[List.mem_singleton.mp h]
   exact(Sp.redu P fun q hq=>Sp.mem (List.mem_append_left _ (List.mem_map.mpr ⟨q,hq,rfl⟩))).mpr (Sp.mem (AF _ (List.mem_singleton.mpr rfl)))
 ·refine Af (F.fv p hp q hq) ?_
  rw[AQ];have:B*1<=B*B:=Al _ l;(first|lia|omega)
def cM(N M X B:Nat):Nat:=cK N M X B*cG N B ^ N
def cE(N M X B:Nat):Nat:=cM N M X B+N*(N*(cM N M X B*M)*(1+B) ^ N*cC N X B)
def up(l:Vc)(q:Nat):Vc:=if 0<l q then l else fun u=>-l u
def Rep.neg{R:List Vc}{C:Nat}{v:Vc}(h:Rep R C v):Rep R C fun u=>-v u:=
 ((h.lin h (k:=-1) (m:=0) (A:=1) (B:=0) ξ ξ).mono ω).eq fun u=>ω
def Sp.neg{R:List Vc}{v:Vc}(h:Sp R v):Sp R fun u=>-v u:=(h.lin h (-1) 0).eq fun u=>ω
structure Bd(N M X B:Nat)(R:List Vc):Prop where
 ind:jo R
 bd:∀(P:List Nat)(f:Nat->Vc),Ech P f->P.Pairwise (·<·)->(∀r∈R,Sp (P.map f) r)->(∀p∈P,Sp R (f p))->P.length=R.length->(∀p∈P,(f p p).natAbs<=B)/\(∀r∈R,∀p∈P,(r p).natAbs<=M)/\∀(c:List Int)(V:Nat),c.length=R.length->(∀p∈P,(cmb c R p).natAbs<=V)->∀x∈c,x.natAbs<=N*(V*X)
structure QS(N M X B:Nat)(R:List Vc)(P:List Nat)(f:Nat->Vc):Prop where
 ech:Ech P f
 srt:P.Pairwise (·<·)
 len:P.length=R.length
 few:R.length<=N
 fr:∀p∈P,Rep R (cM N M X B) (f p)
 gen:∀r∈R,Sp (P.map f) r
section
variable{N M X B:Nat}{R:List Vc}{P:List Nat}{f:Nat->Vc}
def TS.cnt{l:Vc}{t:Nat}(T:TS N M X B R P f l t)(a:1<=B):cK N M X B*cG N B ^ (P.filter fun p=>decide (p<t)).length<=cM N M X B:=
 Al _ (Aw (C7 a) (Af (List.length_filter_le _ _) (by have:=T.len;have:=T.few;(first|lia|omega))))
def TS.full{l:Vc}{t q:Nat}(e:1<=B)(T:TS N M X B R P f l t)(hq:q∉P)(a:∀i,i<q->l i=0)(g:l q≠0):QS N M X B R (ins q P) (put f q (up l q)):=by
 have ne:∀p∈P,p≠q:=fun p hp z=>hq (z▸hp);have hc:=T.cnt e;have up1:0<up l q q:=by
  unfold up;split
  ·assumption
  ·show 0 < -l q
   (first|lia|omega)
 have b:∀i,i<q->up l q i=0:=fun i hi=>by
  have:=a i hi;unfold up;split
  ·exact this
  ·show -l i=0
   (first|lia|omega)
 have c:Rep R (cM N M X B) (up l q):=by
  unfold up;split
  ·exact T.lr.mono hc
  ·exact(T.lr.mono hc).neg
 refine⟨⟨fun p hp i hi=>?_,fun p hp=>?_⟩,Ig T.srt hq,by rw[E7,T.len],T.few,fun p hp=>?_,fun r hr=>(T.gen r hr).trans fun s d=>?_⟩
 ·rcases mem_ins.mp hp with rfl|hp
  ·rw[zO];exact b i hi
  ·rw[dH (ne p hp)];exact T.ech.z p hp i hi
 ·rcases mem_ins.mp hp with rfl|hp
  ·rw[zO];exact up1
  ·rw[dH (ne p hp)];exact T.ech.pos p hp
 ·rcases mem_ins.mp hp with rfl|hp
  ·rw[zO];exact c
  ·rw[dH (ne p hp)];exact(T.fr p hp).mono hc
 ·rcases List.mem_append.mp d with h|h
  ·obtain⟨p,hp,rfl⟩:=List.mem_map.mp h
   exact Sp.mem (List.mem_map.mpr ⟨p,mem_ins.mpr (.inr hp),dH (ne p hp)⟩)
  ·rw[List.mem_singleton.mp h]
   have:Sp ((ins q P).map (put f q (up l q))) (up l q):=Sp.mem (List.mem_map.mpr ⟨q,mem_ins.mpr (.inl rfl),zO⟩);unfold up at this ⊢;split at this
   ·rename_i h;rw[if_pos h];exact this
   ·rename_i h;rw[if_neg h];exact this.neg.eq fun u=>by show l u=-(-l u);(first|lia|omega)
def QS.bd(D:Bd N M X B R)(S:QS N M X B R P f):(∀p∈P,(f p p).natAbs<=B)/\(∀r∈R,∀p∈P,(r p).natAbs<=M)/\∀(c:List Int)(V:Nat),c.length=R.length->(∀p∈P,(cmb c R p).natAbs<=V)->∀x∈c,x.natAbs<=N*(V*X):=
 D.bd P f S.ech S.srt S.gen (fun p hp=>(S.fr p hp).sp) S.len
def QS.tail(j:1<=B)(D:Bd N M X B R)(S:QS N M X B R P f){pre ps:List Nat}(e:P=pre++ps):Ech ps (bA f ps)/\(∀p∈ps,∀q∈P,(bA f ps p q).natAbs<=B)/\∀p∈ps,Rep R (cC N X B) (bA f ps p):=by
 have g:∀p∈ps,p∈P:=fun p hp=>by rw[e];exact AF _ hp
 have a:=S.srt;rw[e,List.pairwise_append] at a;have h':Ech ps f:=S.ech.sub g;obtain⟨e1,e2⟩:=E8 h' a.2.1;obtain⟨pv,hb,i⟩:=S.bd D;have bd:∀p∈ps,∀q∈P,(bA f ps p q).natAbs<=B:=fun p hp q hq=>by
  rcases Nat.lt_trichotomy p q with h|h|h
  ·have b:q∈ps:=by
    rw[e] at hq;rcases List.mem_append.mp hq with z|z
    ·have:=a.2.2 q z p hp;(first|lia|omega)
    ·exact z
   have h1:=E9 h' a.2.1 p hp q b h;rw[e2 q b] at h1;have:=pv q hq;(first|lia|omega)
  ·subst h;rw[e2 p hp];exact pv p hq
  ·rw[e1.z p hp q h];exact Az _
 refine⟨e1,bd,fun p hp=>?_⟩;have sp:Sp R (bA f ps p):=Ij (a.2.1.imp fun h=>AD h) (fun q hq=>(S.fr q (g q hq)).sp) p hp;obtain⟨c,d,e⟩:=sp;exact⟨c,d,e,i c B d fun q hq=>by rw[<-e];exact bd p hp q hq⟩
def QS.met(l:1<=B)(D:Bd N M X B R)(S:QS N M X B R P f){pre ps:List Nat}{p:Nat}(e:P=pre++p::ps)(i:Nat):Rep R (cE N M X B) (aX (bA f ps) (ps.take i) (f p)):=by
 have e':P=(pre++[p])++ps:=by rw[e];simp
 obtain⟨e1,bd,j⟩:=S.tail l D e';obtain⟨_,hb,_⟩:=S.bd D;have hp:p∈P:=by rw[e];simp
 have V:∀q∈ps,(f p q).natAbs<=N*(cM N M X B*M):=fun q hq=>by
  have d:q∈P:=by rw[e'];exact AF _ hq
  exact Af ((S.fr p hp).le fun r hr=>hb r hr q d) (Am _ S.few)
 have c:(ps.take i).length<=N:=by
  have h1:=congrArg List.length e';rw[AN,S.len] at h1;have:=S.few;rw[Bo];(first|lia|omega)
 obtain⟨r,_⟩:=mM (P:=ps) j (fun a g b h=>bd a g b (by rw[e'];exact AF _ h)) e1.pos (ps.take i) (fun q hq=>Bg hq) (S.fr p hp) V;refine r.mono ?_;unfold cE;have h1:(1+B) ^ (ps.take i).length<=(1+B) ^ N:=Aw ω c;exact Nat.add_le_add_left (AO c (Am _ (Al _ h1))) _
def QS.done(d:1<=B)(D:Bd N M X B R)(S:QS N M X B R P f):FS N M X B R P (bA f P):=by
 obtain⟨e1,bd,b⟩:=S.tail d D (pre:=[]) (ps:=P) rfl;have c:P.Nodup:=S.srt.imp fun h=>AD h;refine⟨e1,S.srt,S.len,S.few,b,fun r hr=>(S.gen r hr).trans fun s a=>?_,E9 S.ech S.srt,fun p hp=>bd p hp p hp⟩;obtain⟨p,hp,rfl⟩:=List.mem_map.mp a;exact Ii c (fun q hq=>Sp.mem (List.mem_map.mpr ⟨q,hq,rfl⟩)) p hp
end
end Tb
end
section
namespace K23
open PySem L2
def vc(l:List Int):Tb.Vc:=fun i=>l.getD i 0
def vF(fr:Nat->List Int):Nat->Tb.Vc:=fun p=>vc (fr p)
def C8{f:Int->Int->Int}(a:f 0 0=0){l on:List Int}(h:l.length=on.length):vc (AA f l on)=fun u=>f (vc l u) (vc on u):=by
 funext u
 unfold vc;rw[Ac,Ac,Ac,List.getElem?_zipWith];rcases Bs u l.length with c|c
 ·rw[Ab c,Ab (h▸c)];rfl
 ·rw[List.getElem?_eq_none c,List.getElem?_eq_none (h▸c)];exact a.symm
def Ik{fr:Nat->List Int}{l:List Int}{p:Nat}(h:l.length=(fr p).length):vc (cP fr l p)=Tb.step (vF fr) p (vc l):=by
 unfold cP dF;rw[C8 (by simp) h]
 rfl
def pO{fr:Nat->List Int}{W:Nat}:∀{ps:List Nat}{rn:List Int},rn.length=W->(∀p∈ps,(fr p).length=W)->vc (aQ fr rn ps)=Tb.aX (vF fr) ps (vc rn)
 |[],_,_,_=>rfl
 |p::ps,rn,h,h2=>by
  have hp:=h2 p (Aq ..);show vc (aQ fr (cP fr rn p) ps)=Tb.aX (vF fr) ps (Tb.step (vF fr) p (vc rn));rw[pO (ps:=ps) (EX h hp) fun q hq=>h2 q (Ao _ hq),Ik ω]
def Il{a b:Int}{l on:List Int}(h:l.length=on.length):vc (bC a l b on)=Tb.mix a (vc l) b (vc on):=by
 unfold bC;rw[C8 (by simp) h]
 rfl
def MZ{l:List Int}:vc (l.map fun x=>-x)=fun u=>-vc l u:=by
 funext u
 unfold vc;rw[Ac,Ac,Aj];cases l[u]?<;>simp
def bO(fr:Nat->List Int)(p:Nat)(l:List Int):Nat->List Int:=fun q=>if q=p then l else fr q
def E_{fr:Nat->List Int}{p:Nat}{l:List Int}:vF (bO fr p l)=Tb.put (vF fr) p (vc l):=by
 funext q
 unfold vF bO Tb.put;split<;>rfl
def C9{l:List Int}{x:Int}(h:x∈l):∃i,i<l.length/\vc l i=x:=by
 obtain⟨i,hi,e⟩:=List.mem_iff_getElem.mp h;exact⟨i,hi,by unfold vc;rw[Ac,Ab hi];exact e⟩
def E'{l:List Int}{i:Nat}(h:l.length<=i):vc l i=0:=by unfold vc;rw[Ac,List.getElem?_eq_none h];rfl
def Im{l:List Int}(h:∃u,vc l u≠0):∃k,k<l.length/\(∀i,i<k->l[i]?=some 0)/\(∃x,l[k]?=some x/\x≠0)/\(∀i,i<k->vc l i=0)/\vc l k≠0:=by
 classical
 induction l with
 |nil=>obtain⟨u,a⟩:=h;exact absurd (E' (Az u)) a
 |cons x l ih=>
  by_cases c:x=0
  ·obtain⟨u,a⟩:=h
   cases u with
   |zero=>exact absurd (show vc (x::l) 0=0 from c) a
   |succ u=>
    obtain⟨k,h1,h2,⟨y,b,d⟩,e,f⟩:=ih ⟨u,by simpa[vc] using a⟩;refine⟨k+1,by simpa using h1,fun i hi=>?_,⟨y,by simpa using b,d⟩,fun i hi=>?_,by simpa[vc] using f⟩
    ·cases i with
     |zero=>simp[c]
     |succ i=>simpa using h2 i ω
    ·cases i with
     |zero=>exact c
     |succ i=>simpa[vc] using e i ω
  ·exact⟨0,by simp,fun i hi=>ω,⟨x,rfl,c⟩,fun i hi=>ω,c⟩
def Io:∃n:Nat,n=67108864:=⟨_,rfl⟩
noncomputable def bt:Nat:=Classical.choose Io
def kD:bt=67108864:=Classical.choose_spec Io
noncomputable def big:Nat:=2 ^ bt
def gH{i j:Int}(h1:i.natAbs<big)(h2:j.natAbs<big):ey i j:=⟨bt,bt,h1,h2,by have:=kD;(first|lia|omega)⟩
def Ip{a b:Int}:(a / b).natAbs<=a.natAbs:=Int.natAbs_ediv_le_natAbs _ _
structure Wid(W:Nat)(P:List Nat)(fr:Nat->List Int):Prop where
 most:W<=1000
 row:∀p∈P,p<W/\(fr p).length=W
def Wid.sub{W:Nat}{P Q:List Nat}{fr:Nat->List Int}(h:Wid W P fr)(a:∀p∈Q,p∈P):Wid W Q fr:=⟨h.most,fun p hp=>h.row p (a p hp)⟩
def Wid.put{W:Nat}{P:List Nat}{fr:Nat->List Int}{p:Nat}{l:List Int}(h:Wid W P fr)(a:l.length=W):Wid W P (bO fr p l):=⟨h.most,fun q hq=>⟨(h.row q hq).1,by unfold bO;split;exact a;exact(h.row q hq).2⟩⟩
def M0{R:List Tb.Vc}{P ps:List Nat}{fr:Nat->List Int}{W C CF V VF N Y:Nat}{rn:List Int}(l:∀r∈R,∀u,(r u).natAbs<=Y)(d:R.length<=N)(o:∀p∈P,Tb.Rep R CF (vF fr p))(y:∀p∈P,∀q∈P,(vF fr p q).natAbs<=VF)(a:∀p∈P,0<vF fr p p)(g:∀p∈P,(vF fr p p).natAbs<2 ^ 9000)(f:Wid W P fr)(s:rn.length=W)(hr:Tb.Rep R C (vc rn))(hv:∀q∈P,(vc rn q).natAbs<=V)(c:∀p∈ps,p∈P)(z:N*((C+ps.length*(V*(1+VF) ^ ps.length*CF))*Y)<big)(A:N*(CF*Y)<big):kA fr W rn ps:=by
 refine⟨s,f.most,fun p hp=>⟨(f.row p (c p hp)).1,(f.row p (c p hp)).2,a p (c p hp),g p (c p hp)⟩,fun i p hp x hx=>?_⟩;have v:=Ak hp;have w:=c p v;refine gH (Av Ip ?_) ?_
 ·obtain⟨h,_⟩:=Tb.mM o y a (ps.take i) (fun q hq=>c q (Bg hq)) hr hv
  have e:=pO (fr:=fr) (W:=W) (ps:=ps.take i) (rn:=rn) s fun q hq=>(f.row q (c q (Bg hq))).2;rw[<-e] at h;have b:=h.le (u:=p) fun r hr=>l r hr p;refine Av (Af b (AO d (Am _ ?_))) z;have j:(ps.take i).length<=ps.length:=by rw[Bo];(first|lia|omega)
  refine Nat.add_le_add_left (AO j (Am _ (Al _ (Aw ω j)))) _
 ·obtain⟨u,_,rfl⟩:=C9 hx
  exact Av (Af ((o p w).le (u:=u) fun r hr=>l r hr u) (Am _ d)) A
def ci(es:List (Nat×Addr))(p:Nat)(d:Addr):List (Nat×Addr):=if p∈es.map (·.1) then es.map fun e=>if e.1=p then(p,d) else e else es++[(p,d)]
def C_{es:List (Nat×Addr)}{p:Nat}{d:Addr}:(ci es p d).map (·.1)=if p∈es.map (·.1) then es.map (·.1) else es.map (·.1)++[p]:=by
 unfold ci;split
 ·rw[AT]
  refine Bb fun e _=>?_;simp only[Function.comp];split<;>simp_all
 ·simp
def putE_mem{es:List (Nat×Addr)}{p:Nat}{d:Addr}{e:Nat×Addr}(h:e∈ci es p d):e=(p,d)\/(e∈es/\e.1≠p):=by
 unfold ci at h;split at h
 ·obtain⟨x,hx,rfl⟩:=List.mem_map.mp h
  split
  ·exact .inl rfl
  ·exact .inr ⟨hx,by assumption⟩
 ·rename_i hp
  rcases List.mem_append.mp h with h|h
  ·exact .inr ⟨h,fun z=>hp (z▸List.mem_map.mpr ⟨e,h,rfl⟩)⟩
  ·exact .inl (by simpa using h)
def M3{es:List (Nat×Addr)}{p:Nat}{d:Addr}:putK ((eF es).map fun p=>((Sum.inl p.1:Key),p.2)) (Sum.inl (p:Int)) (.ref d)=(eF (ci es p d)).map fun p=>((Sum.inl p.1:Key),p.2):=by
 have b:∀e:Nat×Addr,((Sum.inl (e.1:Int):Key)=Sum.inl (p:Int))↔e.1=p:=by
  intro e;constructor
  ·intro z
   have:((e.1:Int))=p:=by injection z
   (first|lia|omega)
  ·intro z;rw[z]
 have e1:(((eF es).map fun p=>((Sum.inl p.1:Key),p.2)).any fun f=>decide (f.1=Sum.inl (p:Int)))=decide (p∈es.map (·.1)):=by
  rw[Bm,List.any_eq_true,decide_eq_true_iff,List.mem_map];constructor
  ·rintro⟨x,hx,hk⟩
   rw[AT] at hx;obtain⟨e,a,rfl⟩:=List.mem_map.mp hx;exact⟨e,a,(b e).mp (of_decide_eq_true hk)⟩
  ·rintro⟨e,a,rfl⟩
   refine⟨(Sum.inl (e.1:Int),V.ref e.2),?_,by simp⟩;rw[AT];exact List.mem_map.mpr ⟨e,a,rfl⟩
 unfold putK ci;rw[e1]
 by_cases c:p∈es.map (·.1)
 ·rw[if_pos (decide_eq_true c),if_pos c]
  unfold eF;rw[AT,AT,AT,AT];refine Bb fun e _=>?_;show(if(Sum.inl (e.1:Int):Key)=Sum.inl (p:Int) then _ else _)=_
  by_cases z:e.1=p
  ·rw[if_pos ((b e).mpr z)]
   simp only[Function.comp,if_pos z];rw[z]
  ·rw[if_neg fun q=>z ((b e).mp q)]
   simp only[Function.comp,if_neg z]
 ·rw[if_neg (by simpa using c),if_neg c]
  simp[eF]
def Fnd.put{H H2:Hp}{a d:Addr}{es:List (Nat×Addr)}{fr:Nat->List Int}{p:Nat}{l:List Int}(h:Fnd H a es fr)(hd:H d=some (.lst (l.map V.int)))(g:es.length<1000):∃H2,DPut H a (.int p) (.ref d) H2/\Fnd H2 a (ci es p d) (bO fr p l)/\∀b,b≠a->H2 b=H b:=by
 have hp:=DPut.k (k:=Sum.inl (p:Int)) (v:=V.ref d) h.at_ (by rw[sizeLine_eq];simp;(first|lia|omega));refine⟨_,hp,⟨?_,?_,?_⟩,fun b hb=>af hb⟩
 ·rw[zc,M3]
 ·rw[C_]
  split
  ·exact h.nd
  ·rename_i hn
   rw[List.nodup_append];refine⟨h.nd,by simp,fun x hx y hy=>?_⟩;have:y=p:=by simpa using hy
   subst this;exact fun z=>hn (z▸hx)
 ·intro e c
  have ne:∀b,(∃xs,H b=some (.lst xs))->b≠a:=fun b ⟨xs,hb⟩ z=>by rw[z,h.at_] at hb;cases hb
  rcases putE_mem c with rfl|⟨c,f⟩
  ·rw[af (ne d ⟨_,hd⟩),hd];unfold bO;rw[if_pos rfl]
  ·rw[af (ne e.2 ⟨_,h.rows e c⟩),h.rows e c];unfold bO;rw[if_neg f]
end K23
end
section
namespace Tb
def sX(N M:Nat):Nat:=(2*N*M) ^ N
def sB(N M:Nat):Nat:=N*(sX N M*M)
def Iq{N M j:Nat}(a:1<=N)(b:1<=M)(c:j<=N):(2*j*M) ^ (j-1)<=sX N M:=by
 have h1:2*j*M<=2*N*M:=Am _ (Al _ c);exact Af (Nat.pow_le_pow_left h1 _) (Aw (pI (pI ξ a) b) ω)
def M4{N M:Nat}{R:List Vc}(i:1<=N)(b:1<=M)(hi:jo R)(a:R.length<=N)(hb:∀r∈R,∀u,(r u).natAbs<=M):Bd N M (sX N M) (sB N M) R:=by
 refine⟨hi,fun P f h d e j g=>⟨fun p hp=>?_,fun r hr p _=>hb r hr p,fun c V hc hv x hx=>?_⟩⟩
 ·refine Af (MN b hi h d e g (fun r hr p _=>hb r hr p) hp) ?_
  exact AO a (Am _ (Iq i b a))
 ·refine Af (vh b (fun r hr p _=>hb r hr p) g (d.imp fun h=>AD h) (C4 hi h d e) hc hv x hx) ?_
  exact AO a (Al _ (Iq i b a))
def shr(f:Nat->Vc):List Nat->Vc->List Int
 |[],_=>[]
 |p::ps,l=>l p / f p p::shr f ps (step f p l)
section
variable{f:Nat->Vc}
def Fg:∀(ps:List Nat)(l:Vc),(shr f ps l).length=ps.length
 |[],_=>rfl
 |p::ps,l=>by show(shr f ps (step f p l)).length+1=ps.length+1;rw[Fg ps]
def Fh:∀{ps:List Nat}{l:Vc},Ech ps f->ps.Pairwise (·<·)->Sp (ps.map f) l->∀u,l u=cmb (shr f ps l) (ps.map f) u
 |[],l,_,_,⟨c,hc,e⟩,u=>by rw[e];cases c with|nil=>rfl|cons _ _=>simp at hc
 |p::ps,l,h,hs,⟨c,hc,e⟩,u=>by
  cases c with
  |nil=>simp at hc
  |cons a c=>
   rw[Bi] at hs;have h':Ech ps f:=h.sub fun q hq=>.tail _ hq;have hp:=h.pos p (.head _);have ep:l p=a*f p p:=by
    rw[e];show a*f p p+cmb c (ps.map f) p=a*f p p;rw[zM c (ps.map f) fun v hv=>by
     obtain⟨r,hr,rfl⟩:=List.mem_map.mp hv;exact h.z r (.tail _ hr) p (hs.1 r hr)]
    (first|lia|omega)
   have b:l p / f p p=a:=by rw[ep];exact Int.mul_ediv_cancel a ω
   have sp:Sp (ps.map f) (step f p l):=⟨c,by simpa using hc,fun u=>by
    unfold step;rw[b,e];show a*f p u+cmb c (ps.map f) u-a*f p u=_;(first|lia|omega)⟩
   have d:=Fh h' hs.2 sp u;show l u=l p / f p p*f p u+cmb (shr f ps (step f p l)) (ps.map f) u;rw[<-d];unfold step;(first|lia|omega)
def M5{P:List Nat}{VF:Nat}(c:∀p∈P,∀q∈P,(f p q).natAbs<=VF)(a:∀p∈P,0<f p p):∀(ps:List Nat){l:Vc}{V:Nat},(∀p∈ps,p∈P)->(∀q∈P,(l q).natAbs<=V)->∀x∈shr f ps l,x.natAbs<=V*(1+VF) ^ ps.length
 |[],_,_,_,_,x,hx=>nomatch hx
 |p::ps,l,V,hs,hv,x,hx=>by
  have hp:=hs p (.head _);have b:(l p / f p p).natAbs<=V:=Af (Int.natAbs_ediv_le_natAbs (l p) (f p p)) (hv p hp);rcases List.mem_cons.mp hx with rfl|hx
  ·refine Af b (Nat.le_mul_of_pos_right _ (Nat.pow_pos ω))
  ·have d:∀q∈P,(step f p l q).natAbs<=V*(1+VF):=fun q hq=>by
    have e:=hv q hq;have g:(l p / f p p*f p q).natAbs<=V*VF:=by rw[AJ];exact AO b (c p hp q hq)
    have h:(step f p l q).natAbs<=(l q).natAbs+(l p / f p p*f p q).natAbs:=by unfold step;(first|lia|omega)
    rw[Nat.mul_add,Nat.mul_one];(first|lia|omega)
   have:=M5 c a ps (fun q hq=>hs q (.tail _ hq)) d x hx
   rwa [AQ,Nat.mul_comm (1+VF),<-Nat.pow_succ] at this
end
def dl(s t:Nat):Int:=if s=t then 1 else 0
structure Dual(k:Nat)(U Bc:List Vc):Prop where
 lu:U.length=k
 lb:Bc.length=k
 d:∀s t,s<k->t<k->cmb (Bc.map fun b=>b s) U t=dl s t
def Ir{t:Nat}:∀(c:List Int)(A B:List Vc),A.length=B.length->(∀(i:Nat) a b,A[i]?=some a->B[i]?=some b->a t=b t)->cmb c A t=cmb c B t
 |[],[],[],_,_=>rfl
 |[],_::_,_::_,_,_=>rfl
 |_::_,[],[],_,_=>rfl
 |x::c,a::A,b::B,hl,h=>by
  show x*a t+cmb c A t=x*b t+cmb c B t;rw[h 0 a b rfl rfl,Ir c A B (by simpa using hl) fun i a b h1 h2=>h (i+1) a b (by simpa using h1) (by simpa using h2)]
 |[],[],_::_,hl,_=>by simp at hl
 |[],_::_,[],hl,_=>by simp at hl
 |_::_,[],_::_,hl,_=>by simp at hl
 |_::_,_::_,[],hl,_=>by simp at hl
def range_getD(row:List Int):(Ah row.length).map (fun j=>row.getD j 0)=row:=by
 apply AU
 ·simp
 ·intro i h1 h2;simp at h1;simp[h2]
def Is{U:List Vc}{k s t:Nat}(hk:U.length=k):∀(sh:Ξ)(Bc:List Vc),(∀row∈sh,row.length=k)->
  cmb ((Ah k).map fun j=>cmb (sh.map fun row=>row.getD j 0) Bc s) U t=cmb (Bc.map fun b=>b s) (sh.map fun row=>cmb row U) t
 |[],Bc,_=>by
  have e:((Ah k).map fun j=>cmb (([]:Ξ).map fun row=>row.getD j 0) Bc s)=(Ah k).map fun _=>0:=Bb fun j _=>by cases Bc<;>rfl
  rw[e,mY _ _ _ (fun x hx=>by obtain⟨_,_,rfl⟩:=List.mem_map.mp hx;rfl)];cases Bc<;>rfl
 |row::sh,[],h=>by
  have e:((Ah k).map fun j=>cmb ((row::sh).map fun row=>row.getD j 0) [] s)=(Ah k).map fun _=>0:=Bb fun j _=>rfl;rw[e,mY _ _ _ (fun x hx=>by obtain⟨_,_,rfl⟩:=List.mem_map.mp hx;rfl)]
  rfl
 |row::sh,b::Bc,h=>by
  have a:=Is (s:=s) (t:=t) hk sh Bc fun r hr=>h r (.tail _ hr);have hr:=h row (.head _);have e:((Ah k).map fun j=>cmb ((row::sh).map fun row=>row.getD j 0) (b::Bc) s)=AA (fun x y=>b s*x+1*y) row ((Ah k).map fun j=>cmb (sh.map fun row=>row.getD j 0) Bc s):=by
   apply AU
   ·rw[AG,Aa,Aa,A9,hr,Nat.min_self]
   ·intro i h1 h2
    rw[Aa,A9] at h1;rw[Bh,AW,AW,Ba];show row.getD i 0*b s+cmb (sh.map fun row=>row.getD i 0) Bc s=_;rw[Ac,Ab ω,Bp];show b s*row[i]+_=_;(first|lia|omega)
  rw[e,ik _ _ _ _ U ω (by rw[Aa,A9,hk]),a];show _=b s*cmb row U t+cmb (Bc.map fun b=>b s) (sh.map fun row=>cmb row U) t;(first|lia|omega)
def Dual.next{k:Nat}{U Bc V:List Vc}{sh:Ξ}(D:Dual k U Bc)(e:V.length=k)(ls:sh.length=k)(g:∀row∈sh,row.length=k)(h:∀(i:Nat) u row t,U[i]?=some u->sh[i]?=some row->t<k->u t=cmb row V t):Dual k V ((Ah k).map fun j=>fun s=>cmb (sh.map fun row=>row.getD j 0) Bc s):=by
 refine⟨e,by simp,fun s t f c=>?_⟩;rw[AT];show cmb ((Ah k).map fun j=>cmb (sh.map fun row=>row.getD j 0) Bc s) V t=dl s t;rw[Is e sh Bc g,<-D.d s t f c];refine Ir _ _ _ (by rw[Aa,ls,D.lu]) fun i a b h1 h2=>?_;rw[Aj] at h1;obtain⟨row,hr,rfl⟩:=Option.map_eq_some_iff.mp h1;exact(h i b row t h2 hr c).symm
def dot:Nat->Vc->Vc->Int
 |0,_,_=>0
 |k+1,a,b=>dot k a b+a k*b k
def vB{k:Nat}{a a' b:Vc}{x y:Int}:dot k (fun u=>x*a u+y*a' u) b=x*dot k a b+y*dot k a' b:=by
 induction k with
 |zero=>show(0:Int)=x*0+y*0;(first|lia|omega)
 |succ k ih=>
  show dot k _ b+(x*a k+y*a' k)*b k=x*(dot k a b+a k*b k)+y*(dot k a' b+a' k*b k);rw[ih,Int.add_mul,Int.mul_add,Int.mul_add,AV,AV];(first|lia|omega)
def pQ{k:Nat}{a b:Vc}(h:∀t,t<k->a t=0):dot k a b=0:=by
 induction k with
 |zero=>rfl
 |succ k ih=>show dot k a b+a k*b k=0;rw[ih fun t c=>h t ω,h k ω];(first|lia|omega)
def iq{k:Nat}{a a' b:Vc}(h:∀t,t<k->a t=a' t):dot k a b=dot k a' b:=by
 induction k with
 |zero=>rfl
 |succ k ih=>show dot k a b+a k*b k=dot k a' b+a' k*b k;rw[ih fun t c=>h t ω,h k ω]
def Iu{k:Nat}{b:Vc}:∀(c:List Int)(L:List Vc),dot k (cmb c L) b=cmb c (L.map fun l=>fun _=>dot k l b) 0
 |[],[]=>pQ fun _ _=>rfl
 |[],_::_=>pQ fun _ _=>rfl
 |_::_,[]=>pQ fun _ _=>rfl
 |x::c,l::L=>by
  show dot k (fun u=>x*l u+cmb c L u) b=x*dot k l b+cmb c (L.map fun l=>fun _=>dot k l b) 0;rw[<-Iu c L];have:=vB (k:=k) (a:=l) (a':=cmb c L) (b:=b) (x:=x) (y:=1);rw[Int.one_mul] at this;rw[<-this];exact iq fun t _=>ω
def Iv{U:List Vc}{t:Nat}:∀(k:Nat)(x:Vc)(Bc:List Vc),Bc.length=U.length->cmb (Bc.map fun b=>dot k x b) U t=dot k x (fun s=>cmb (Bc.map fun b=>b s) U t)
 |0,x,Bc,_=>mY _ _ _ fun y hy=>by obtain⟨_,_,rfl⟩:=List.mem_map.mp hy;rfl
 |k+1,x,Bc,hl=>by
  show cmb (Bc.map fun b=>dot k x b+x k*b k) U t=dot k x (fun s=>cmb (Bc.map fun b=>b s) U t)+x k*cmb (Bc.map fun b=>b k) U t;rw[<-Iv k x Bc hl];have:=ik 1 (x k) (Bc.map fun b=>dot k x b) (Bc.map fun b=>b k) U (by rw[Aa,hl]) (by rw[Aa,hl]) t;rw[Int.one_mul] at this;rw[<-this]
  congr 1
  apply AU
  ·simp
  ·intro i h1 h2;simp
def Fj{k:Nat}{x:Vc}{t:Nat}(b:t<k):dot k x (fun s=>dl s t)=x t:=by
 induction k with
 |zero=>(first|lia|omega)
 |succ k ih=>
  show dot k x _+x k*dl k t=x t
  by_cases e:t=k
  ·subst e
   have:dot t x (fun s=>dl s t)=0:=by
    have z:∀j,j<=t->dot j x (fun s=>dl s t)=0:=by
     intro j
     induction j with
     |zero=>intro _;rfl
     |succ j ih=>intro a;show dot j x _+x j*dl j t=0;rw[ih ω];unfold dl;rw[if_neg ω];(first|lia|omega)
    exact z t (Ad _)
   rw[this];unfold dl;rw[if_pos rfl];(first|lia|omega)
  ·rw[ih ω];unfold dl;rw[if_neg ω];(first|lia|omega)
def zF{k:Nat}{a b b':Vc}(h:∀t,t<k->b t=b' t):dot k a b=dot k a b':=by
 induction k with
 |zero=>rfl
 |succ k ih=>show dot k a b+a k*b k=dot k a b'+a k*b' k;rw[ih fun t c=>h t ω,h k ω]
structure Both(k:Nat)(U Bc:List Vc):Prop where
 a:Dual k U Bc
 b:∀(i j:Nat) u c,U[i]?=some u->Bc[j]?=some c->dot k u c=dl i j
def M6{k:Nat}{U Bc:List Vc}(D:Dual k U Bc)(hi:∀c:List Int,c.length=k->(∀t,t<k->cmb c U t=0)->∀x∈c,x=0):Both k U Bc:=by
 refine⟨D,fun i j u c o hc=>?_⟩;have q:i<k:=by rw[<-D.lu];exact(List.getElem?_eq_some_iff.mp o).1
 have l:j<k:=by rw[<-D.lb];exact(List.getElem?_eq_some_iff.mp hc).1
 have h1:∀t,t<k->cmb (Bc.map fun b=>dot k u b) U t=u t:=fun t f=>by
  rw[Iv k u Bc (by rw[D.lb,D.lu]),zF fun s p=>D.d s t p f];exact Fj f
 have h2:∀t,t<k->cmb ((Ah k).map fun s=>dl i s) U t=u t:=fun t f=>by
  have:∀(n:Nat)(V:List Vc),V.length=n->∀(i:Nat) v,V[i]?=some v->∀t,cmb ((Ah n).map fun s=>dl i s) V t=v t:=by
   intro n
   induction n with
   |zero=>intro V g i v h;rw[AL g] at h;simp at h
   |succ n ih=>
    intro V g i v h t;cases V with
    |nil=>simp at g
    |cons w V=>
     rw[List.range_succ_eq_map,AX,AT];show dl i 0*w t+cmb ((Ah n).map fun s=>dl i (s+1)) V t=v t;cases i with
     |zero=>
      have e:v=w:=by simpa using h.symm
      rw[mY _ _ _ (fun x hx=>by obtain⟨s,_,rfl⟩:=List.mem_map.mp hx;exact if_neg ω),e];show(1:Int)*w t+0=w t;(first|lia|omega)
     |succ i=>
      have:=ih V (by simpa using g) i v (by simpa using h) t;rw[show(fun s=>dl (i+1) (s+1))=(fun s=>dl i s) from funext fun s=>by unfold dl;simp];rw[this];show(0:Int)*w t+v t=v t;(first|lia|omega)
  exact this k U D.lu i u o t
 have hz:=hi (AA (fun a b=>a-b) (Bc.map fun b=>dot k u b) ((Ah k).map fun s=>dl i s)) (by rw[AG,Aa,Aa,A9,D.lb,Nat.min_self]) fun t f=>by
  rw[C0 _ _ U (by rw[Aa,D.lb,D.lu]) (by rw[Aa,A9,D.lu]),h1 t f,h2 t f];(first|lia|omega)
 have g:j<(AA (fun a b=>a-b) (Bc.map fun b=>dot k u b) ((Ah k).map fun s=>dl i s)).length:=by rw[AG,Aa,Aa,A9,D.lb,Nat.min_self];exact l
 have:=hz _ (AB g);rw[Bh,AW,AW,Ba] at this;have e:Bc[j]'(by rw[D.lb];exact l)=c:=(List.getElem?_eq_some_iff.mp hc).2;rw[e] at this;(first|lia|omega)
def Both.free{k w:Nat}{R Bc:List Vc}(D:Both k (R.map fun r=>fun t=>r (w+t)) Bc){c:List Int}(hc:c.length=R.length)(hz:∀t,t<k->cmb c R (w+t)=0):∀x∈c,x=0:=by
 have H:R.length=k:=by have:=D.a.lu;rwa [Aa] at this
 have F:∀(c:List Int)(R:List Vc)(t:Nat),cmb c R (w+t)=cmb c (R.map fun r=>fun t=>r (w+t)) t:=by
  intro c
  induction c with
  |nil=>intro R t;cases R<;>rfl
  |cons a c ih=>intro R t;cases R with
   |nil=>rfl
   |cons r R=>show a*r (w+t)+cmb c R (w+t)=a*r (w+t)+_;rw[ih]
 intro x hx;obtain⟨j,s,rfl⟩:=Be hx;have o:j<Bc.length:=by rw[D.a.lb];(first|lia|omega)
 have y:dot k (cmb c (R.map fun r=>fun t=>r (w+t))) Bc[j]=0:=pQ fun t C=>by rw[<-F];exact hz t C
 rw[Iu] at y;have G:∀(c:List Int)(U:List Vc)(d:Nat),c.length=U.length->(∀(i:Nat) u,U[i]?=some u->dot k u Bc[j]=dl (d+i) j)->∀(s:d<=j)(h:j-d<c.length),cmb c (U.map fun l=>fun _=>dot k l Bc[j]) 0=c[j-d]:=by
  intro c
  induction c with
  |nil=>intro U d _ _ _ h;simp at h
  |cons a c ih=>
   intro U d p q s h;cases U with
   |nil=>simp at p
   |cons u U=>
    show a*dot k u Bc[j]+cmb c (U.map fun l=>fun _=>dot k l Bc[j]) 0=_;have f:=q 0 u rfl;rw[f];have A:∀(i:Nat) v,U[i]?=some v->dot k v Bc[j]=dl (d+1+i) j:=fun i v hv=>by rw[q (i+1) v (by simpa using hv)];congr 1;(first|lia|omega)
    by_cases e:d=j
    ·subst e
     have z:cmb c (U.map fun l=>fun _=>dot k l Bc[d]) 0=0:=zM _ _ fun v hv=>by
      obtain⟨l,E,rfl⟩:=List.mem_map.mp hv;obtain⟨i,g,rfl⟩:=Be E;show dot k U[i] Bc[d]=0;rw[A i _ (Ab g)];unfold dl;rw[if_neg ω]
     rw[z];have:d-d=0:=Nat.sub_self _;simp only[this,List.getElem_cons_zero];unfold dl;rw[if_pos ω];(first|lia|omega)
    ·have:=ih U (d+1) (by simpa using p) A ω (by simp at h;(first|lia|omega))
     rw[this];have e2:j-d=(j-(d+1))+1:=ω
     simp only[e2,List.getElem_cons_succ];unfold dl;rw[if_neg ω];(first|lia|omega)
 have:=G c (R.map fun r=>fun t=>r (w+t)) 0 (by rw[Aa,hc]) (fun i u f=>by rw[Nat.zero_add];exact D.b i j u Bc[j] f (Ab o)) (Az _) ω;rw[y] at this;exact this.symm
def allb:List Nat->Ξ
 |[]=>[[]]
 |t::ts=>(allb ts).flatMap fun c=>(Ah t).map fun a:Nat=>(a:Int)::c
def pr:List Nat->Nat
 |[]=>1
 |t::ts=>t*pr ts
def kE:∀b,(allb b).length=pr b
 |[]=>rfl
 |t::b=>by
  have:∀l:Ξ,(l.flatMap fun c=>(Ah t).map fun a:Nat=>(a:Int)::c).length=t*l.length:=by
   intro l
   induction l with
   |nil=>simp
   |cons c l ih=>rw[List.flatMap_cons,AN,Aa,A9,ih,AH,Nat.mul_add];(first|lia|omega)
  show((allb b).flatMap _).length=_;rw[this,kE b];rfl
def jy:∀{b:List Nat}{c:List Int},c∈allb b↔c.length=b.length/\∀(i:Nat) x t,c[i]?=some x->b[i]?=some t->0<=x/\x<(t:Int)
 |[],c=>by
  show c∈[[]]↔_;rw[List.mem_singleton];constructor
  ·rintro rfl;exact⟨rfl,fun i x t h=>by simp at h⟩
  ·intro h;exact AL h.1
 |t::b,c=>by
  show c∈(allb b).flatMap (fun c=>(Ah t).map fun a:Nat=>(a:Int)::c)↔_;rw[List.mem_flatMap];constructor
  ·rintro⟨d,hd,h⟩
   obtain⟨a,f,rfl⟩:=List.mem_map.mp h;obtain⟨h1,h2⟩:=jy.mp hd;have:=List.mem_range.mp f;refine⟨by rw[AH,h1,AH],fun i x t' hx e=>?_⟩;cases i with
   |zero=>simp at hx e;(first|lia|omega)
   |succ i=>exact h2 i x t' (by simpa using hx) (by simpa using e)
  ·rintro⟨h1,h2⟩
   cases c with
   |nil=>simp at h1
   |cons a d=>
    have f:=h2 0 a t rfl rfl;refine⟨d,jy.mpr ⟨by simpa using h1,fun i x t' hx e=>h2 (i+1) x t' (by simpa using hx) (by simpa using e)⟩,List.mem_map.mpr ⟨a.toNat,List.mem_range.mpr ω,?_⟩⟩;rw[Int.toNat_of_nonneg f.1]
def p4:∀d,(allb d).Nodup
 |[]=>by simp[allb]
 |t::d=>by
  show((allb d).flatMap fun c=>(Ah t).map fun a:Nat=>(a:Int)::c).Pairwise (·≠·);rw[List.pairwise_flatMap];refine⟨fun c _=>?_,(p4 d).imp fun{a b} h x hx y hy e=>?_⟩
  ·rw[List.pairwise_map]
   exact List.nodup_range.imp fun h e=>h (by injection e with e;(first|lia|omega))
  ·obtain⟨i,_,rfl⟩:=List.mem_map.mp hx
   obtain⟨j,_,rfl⟩:=List.mem_map.mp hy;injection e with _ e
   exact h e
def Fn{a b:Type}{f:a->b}{l:List a}{m:List b}(c:l.Nodup)(d:∀x∈l,f x∈m)(inj:∀x∈l,∀y∈l,f x=f y->x=y):l.length<=m.length:=by
 rcases Bs m.length l.length with h|h
 ·obtain⟨x,hx,y,hy,ne,e⟩:=eO f l m c d h
  exact absurd (inj x hx y hy e) ne
 ·exact h
def vl(c:List Int):Vc:=fun j=>c.getD j 0
def lst(k:Nat)(x:Vc):List Int:=(Ah k).map x
def Iw{k i:Nat}{x:Vc}(h:i<k):(lst k x)[i]?=some (x i):=by unfold lst;rw[Aj,AM h];rfl
def iU{k:Nat}{x:Vc}:(lst k x).length=k:=by unfold lst;simp
def M7{k:Nat}{x y:Vc}:lst k x=lst k y↔∀j,j<k->x j=y j:=by
 constructor
 ·intro h j a
  have:=congrArg (·[j]?) h;simp only[Iw a] at this;exact AR this
 ·intro h
  exact Bb fun j a=>h j (List.mem_range.mp a)
def aQ(L:Nat->Vc):Nat->Vc->Vc
 |0,x=>x
 |k+1,x=>aQ L k (fun u=>x u-x k / L k k*L k u)
def SL(L:Nat->Vc)(k:Nat)(x:Vc):Prop:=∃c:Vc,∀j,j<k->x j=cmb (lst k c) ((Ah k).map L) j
section
variable{L f:Nat->Vc}{r:Nat}{Λ:Vc->Prop}
structure Lt(Λ:Vc->Prop):Prop where
 z:Λ fun _=>0
 s:∀{v w:Vc}(m:Int),Λ v->Λ w->Λ fun u=>v u-m*w u
def Lt.cmb(T:Lt Λ):∀(c:List Int)(S:List Vc),(∀s∈S,Λ s)->Λ (Tb.cmb c S)
 |[],[],_=>T.z
 |[],_::_,_=>T.z
 |_::_,[],_=>T.z
 |a::c,s::S,h=>by
  have:=T.s (-a) (Lt.cmb T c S fun w hw=>h w (.tail _ hw)) (h s (.head _));have e:(fun u=>Tb.cmb c S u - -a*s u)=Tb.cmb (a::c) (s::S):=funext fun u=>by show Tb.cmb c S u - -a*s u=a*s u+Tb.cmb c S u;rw[Int.neg_mul];(first|lia|omega)
  rw[e] at this;exact this
structure Two(Λ:Vc->Prop)(r:Nat)(L f:Nat->Vc):Prop where
 lt:Lt Λ
 li:∀i,i<r->Λ (L i)
 lp:∀i,i<r->0<L i i
 lz:∀i j,i<j->j<r->L i j=0
 fi:∀i,i<r->Λ (f i)
 fp:∀i,i<r->0<f i i
 fz:∀i j,i<r->j<i->f i j=0
 ld:∀v i,Λ v->i<r->(∀j,j<i->v j=0)->f i i ∣ v i
def Ix(T:Two Λ r L f):∀(k:Nat)(x:Vc)(j:Nat),k<=j->j<r->aQ L k x j=x j
 |0,_,_,_,_=>rfl
 |k+1,x,j,hk,hj=>by
  show aQ L k _ j=x j;rw[Ix T k _ j ω hj,T.lz k j ω hj];(first|lia|omega)
def Iy(T:Two Λ r L f):∀(k:Nat)(x:Vc),k<=r->∀i,i<k->0<=aQ L k x i/\aQ L k x i<L i i
 |k+1,x,hk,i,hi=>by
  by_cases e:i=k
  ·subst e
   show 0<=aQ L i _ i/\aQ L i _ i<L i i;rw[Ix T i _ i (Ad _) ω];have a:=T.lp i ω;have em:x i-x i / L i i*L i i=x i%L i i:=by have:=Int.emod_add_mul_ediv (x i) (L i i);rw[Bp] at this;(first|lia|omega)
   rw[em];exact⟨Int.emod_nonneg _ ω,Int.emod_lt_of_pos _ a⟩
  ·exact Iy T k _ ω i ω
def Fq:∀(k:Nat)(x:Vc),∃c:Vc,∀u,x u-aQ L k x u=cmb (lst k c) ((Ah k).map L) u
 |0,x=>⟨fun _=>0,fun u=>by show x u-x u=0;(first|lia|omega)⟩
 |k+1,x=>by
  obtain⟨c,hc⟩:=Fq k (fun u=>x u-x k / L k k*L k u);refine⟨fun i=>if i=k then x k / L k k else c i,fun u=>?_⟩;have e1:lst (k+1) (fun i=>if i=k then x k / L k k else c i)=lst k c++[x k / L k k]:=by
   unfold lst;rw[List.range_succ,At]
   congr 1
   ·exact Bb fun i hi=>if_neg (AD (List.mem_range.mp hi))
   ·show [if k=k then _ else _]=_;rw[if_pos rfl]
  have app:∀(c:List Int)(S:List Vc)(a:Int)(v:Vc),c.length=S.length->cmb (c++[a]) (S++[v]) u=cmb c S u+a*v u:=by
   intro c
   induction c with
   |nil=>intro S a v d;rw[AL d.symm];show a*v u+0=0+a*v u;(first|lia|omega)
   |cons b c ih=>intro S a v d;cases S with
    |nil=>simp at d
    |cons s S=>show b*s u+cmb (c++[a]) (S++[v]) u=b*s u+cmb c S u+a*v u;rw[ih S a v (by simpa using d)];(first|lia|omega)
  rw[e1,List.range_succ,At,AX,List.map_nil,app _ _ _ _ (by rw[iU];simp),<-hc u];show x u-aQ L k _ u=_;(first|lia|omega)
def Two.small(T:Two Λ r L f){v:Vc}{k:Nat}(hk:k<=r)(hv:Λ v)(h:∀j,j<k->(v j).natAbs<(f j j).natAbs):∀j,j<k->v j=0:=by
 intro j
 induction j using Nat.strongRecOn with
 |_ j ih=>
  intro a;obtain⟨m,e⟩:=T.ld v j hv ω fun i hi=>ih i hi ω;have:=h j a;rw[e,AJ] at this;rcases Nat.eq_zero_or_pos m.natAbs with z|z
  ·rw[e,Int.natAbs_eq_zero.mp z,Int.mul_zero]
  ·have:(f j j).natAbs*1<=(f j j).natAbs*m.natAbs:=Al _ z
   (first|lia|omega)
def tn(g:Nat->Vc)(k:Nat):List Nat:=(Ah k).map fun i=>(g i i).toNat
def C'{a:Nat->Vc}{k:Nat}{x:List Int}(h:x∈allb (tn a k)):x.length=k/\∀j,j<k->0<=vl x j/\vl x j<((a j j).toNat:Int):=by
 obtain⟨h1,h2⟩:=jy.mp h;unfold tn at h1 h2;rw[Aa,A9] at h1;refine⟨h1,fun j b=>?_⟩;have e:x[j]?=some (x[j]'ω):=Ab ω;have:=h2 j _ _ e (by rw[Aj,AM b];rfl);unfold vl;rw[Ac,e];exact this
def Iz{x y:List Int}{k:Nat}(hx:x.length=k)(hy:y.length=k)(h:∀j,j<k->vl x j=vl y j):x=y:=by
 refine AU ω fun i h1 h2=>?_;have:=h i ω;unfold vl at this;rw[Ac,Ac,Ab h1,Ab h2] at this;exact this
def IA(T:Two Λ r L f){k:Nat}(hk:k<=r)(x:Vc):lst k (aQ L k x)∈allb (tn L k):=by
 refine jy.mpr ⟨by unfold tn;rw[iU];simp,fun i z t hz a=>?_⟩;have hi:i<k:=by have:=(List.getElem?_eq_some_iff.mp hz).1;rwa [iU] at this
 rw[Iw hi] at hz;obtain rfl:=AR hz;unfold tn at a;rw[Aj,AM hi] at a;obtain rfl:=AR a;have:=Iy T k x hk i hi;have:=T.lp i ω;show 0<=aQ L k x i/\aQ L k x i<((L i i).toNat:Int);(first|lia|omega)
def IB(T:Two Λ r L f){k:Nat}(hk:k<=r){x y:Vc}(h:lst k (aQ L k x)=lst k (aQ L k y)):∃v,Λ v/\SL L k v/\∀j,j<k->v j=x j-y j:=by
 obtain⟨c,hc⟩:=Fq (L:=L) k x;obtain⟨d,hd⟩:=Fq (L:=L) k y;have g:∀s∈(Ah k).map L,Λ s:=fun s a=>by
  obtain⟨i,hi,rfl⟩:=List.mem_map.mp a;exact T.li i (AE (List.mem_range.mp hi) hk)
 have e:∀u,cmb (lst k fun i=>c i-d i) ((Ah k).map L) u=cmb (lst k c) ((Ah k).map L) u-cmb (lst k d) ((Ah k).map L) u:=fun u=>by
  rw[<-C0 _ _ _ (by rw[iU];simp) (by rw[iU];simp)]
  congr 1
  apply AU
  ·simp[iU]
  ·intro i h1 h2;simp only[lst,AW,Ba,Bh]
 refine⟨cmb (lst k fun i=>c i-d i) ((Ah k).map L),T.lt.cmb _ _ g,⟨_,fun j _=>rfl⟩,fun j b=>?_⟩;rw[e,<-hc j,<-hd j,M7.mp h j b];(first|lia|omega)
def Fv(T:Two Λ r L f){k:Nat}(hk:k<=r):pr (tn f k)<=pr (tn L k):=by
 rw[<-kE,<-kE];refine Fn (f:=fun x=>lst k (aQ L k (vl x))) (p4 _) (fun x _=>IA T hk _) fun x hx y hy e=>?_;obtain⟨v,hv,_,b⟩:=IB T hk e;obtain⟨c,d⟩:=C' hx;obtain⟨g,h⟩:=C' hy;have z:=T.small hk hv fun j a=>by
  have h1:=d j a;have h2:=h j a
  have i:=T.fp j ω;rw[b j a];(first|lia|omega)
 exact Iz c g fun j a=>by have:=z j a;rw[b j a] at this;(first|lia|omega)
def half_lt(T:Two Λ r L f){k:Nat}(hk:k<=r){w:Vc}(hw:Λ w)(D:¬SL L k w):2*pr (tn f k)<=pr (tn L k):=by
 have eq:2*pr (tn f k)=((allb (tn f k)).map (fun x=>(false,x))++(allb (tn f k)).map (fun x=>(true,x))).length:=by rw[AN,Aa,Aa,kE];(first|lia|omega)
 rw[eq,<-kE]
 let g:Bool×List Int->Vc:=fun p=>if p.1=true then fun u=>vl p.2 u+w u else vl p.2
 have mem:∀p∈(allb (tn f k)).map (fun x=>(false,x))++(allb (tn f k)).map (fun x=>(true,x)),p.2∈allb (tn f k):=fun p hp=>by
  rcases List.mem_append.mp hp with h|h<;>(obtain⟨x,hx,rfl⟩:=List.mem_map.mp h;exact hx)
 refine Fn (f:=fun p=>lst k (aQ L k (g p))) ?_ (fun p _=>IA T hk _) fun p hp q hq e=>?_
 ·rw[List.nodup_append]
  refine⟨?_,?_,fun x hx y hy=>?_⟩
  ·exact List.Pairwise.map _ (fun a b(h:a≠b) e=>h (by injection e)) (p4 _)
  ·exact List.Pairwise.map _ (fun a b(h:a≠b) e=>h (by injection e)) (p4 _)
  ·obtain⟨_,_,rfl⟩:=List.mem_map.mp hx
   obtain⟨_,_,rfl⟩:=List.mem_map.mp hy;intro z;injection z with z;cases z
 ·obtain⟨v,hv,sv,l⟩:=IB T hk e
  obtain⟨a,x⟩:=p;obtain⟨b,y⟩:=q;obtain⟨F,G⟩:=C' (show x∈_ from mem _ hp);obtain⟨H,I⟩:=C' (show y∈_ from mem _ hq);have fin:∀{o:Vc},Λ o->(∀j,j<k->o j=vl x j-vl y j)->x=y:=fun{o} E C=>by
   have z:=T.small hk E fun j d=>by
    have h1:=G j d;have h2:=I j d
    have J:=T.fp j ω;rw[C j d];(first|lia|omega)
   exact Iz F H fun j d=>by have:=z j d;rw[C j d] at this;(first|lia|omega)
  cases a with
  |false=>
   cases b with
   |false=>rw[fin hv fun j d=>by rw[l j d];rfl]
   |true=>
    exfalso
    have A:=fin (T.lt.s (-1) hv hw) fun j d=>by rw[l j d];show vl x j-(vl y j+w j) - -1*w j=_;(first|lia|omega)
    subst A;obtain⟨c,hc⟩:=sv;apply D;refine⟨fun i=>-c i,fun j d=>?_⟩;have h1:=l j d;have h2:=hc j d;have e2:cmb (lst k fun i=>-c i) ((Ah k).map L) j=-cmb (lst k c) ((Ah k).map L) j:=by
     have:=ik (-1) 0 (lst k c) (lst k c) ((Ah k).map L) (by rw[iU];simp) (by rw[iU];simp) j;rw[show(-1:Int)*cmb (lst k c) ((Ah k).map L) j+0*cmb (lst k c) ((Ah k).map L) j=-cmb (lst k c) ((Ah k).map L) j from ω] at this;rw[<-this]
     congr 1
     apply AU
     ·simp[iU]
     ·intro i h1 h2;simp only[lst,AW,Ba,Bh];(first|lia|omega)
    rw[e2,<-h2,h1];show w j=-(vl x j-(vl x j+w j));(first|lia|omega)
  |true=>
   cases b with
   |true=>rw[fin hv fun j d=>by rw[l j d];show vl x j+w j-(vl y j+w j)=_;(first|lia|omega)]
   |false=>
    exfalso
    have A:=fin (T.lt.s 1 hv hw) fun j d=>by rw[l j d];show vl x j+w j-vl y j-1*w j=_;(first|lia|omega)
    subst A;obtain⟨c,hc⟩:=sv;exact D ⟨c,fun j d=>by rw[<-hc j d,l j d];show w j=vl x j+w j-vl x j;(first|lia|omega)⟩
def IC{j k:Nat}{c:Vc}(h:∀i,i<k->L i j=0):cmb (lst k c) ((Ah k).map L) j=0:=
 zM _ _ fun v hv=>by
  obtain⟨i,hi,rfl⟩:=List.mem_map.mp hv;exact h i (List.mem_range.mp hi)
def ID(u k:Nat)(c:Vc):cmb (lst (k+1) c) ((Ah (k+1)).map L) u=cmb (lst k c) ((Ah k).map L) u+c k*L k u:=by
 have app:∀(c:List Int)(S:List Vc)(a:Int)(v:Vc),c.length=S.length->cmb (c++[a]) (S++[v]) u=cmb c S u+a*v u:=by
  intro c
  induction c with
  |nil=>intro S a v d;rw[AL d.symm];show a*v u+0=0+a*v u;(first|lia|omega)
  |cons b c ih=>intro S a v d;cases S with
   |nil=>simp at d
   |cons s S=>show b*s u+cmb (c++[a]) (S++[v]) u=b*s u+cmb c S u+a*v u;rw[ih S a v (by simpa using d)];(first|lia|omega)
 have e:lst (k+1) c=lst k c++[c k]:=by unfold lst;rw[List.range_succ,At];rfl
 rw[e,List.range_succ,At,AX,List.map_nil,app _ _ _ _ (by rw[iU];simp)]
def diag(T:Two Λ r L f)(p:∀i j,i<j->j<r->0<=f i j/\f i j<f j j)(b:∀k,k<=r->∀w,Λ w->SL L k w)(i:Nat)(hi:i<r):f i i=L i i/\(∀j,j<r->j≠i->f i j=0):=by
 obtain⟨c,hc⟩:=b i ω (L i) (T.li i hi);have x:∀s∈(Ah i).map L,Λ s:=fun s v=>by
  obtain⟨t,a,rfl⟩:=List.mem_map.mp v;exact T.li t (Nat.lt_trans (List.mem_range.mp a) hi)
 have hw:=T.lt.s 1 (T.li i hi) (T.lt.cmb (lst i c) _ x);have q:∀j,j<i->L i j-1*cmb (lst i c) ((Ah i).map L) j=0:=fun j g=>by have:=hc j g;(first|lia|omega)
 have l:∀j,i<=j->j<r->cmb (lst i c) ((Ah i).map L) j=0:=fun j h1 h2=>IC fun t a=>T.lz t j ω h2;have d1:=T.ld _ i hw hi q;have y:=T.lp i hi;have z:=T.fp i hi;obtain⟨d,hd⟩:=b (i+1) ω (f i) (T.fi i hi);have e1:=hd i ω;rw[ID,IC fun t a=>T.lz t i a hi] at e1;have d2:L i i ∣ f i i:=⟨d i,by rw[e1,Bp];(first|lia|omega)⟩;have wi:L i i-1*cmb (lst i c) ((Ah i).map L) i=L i i:=by rw[l i (Ad _) hi];(first|lia|omega)
 have o:f i i ∣ L i i:=by
  have this:f i i ∣ L i i-1*cmb (lst i c) ((Ah i).map L) i:=d1;rw[wi] at this;exact this
 have u:f i i=L i i:=Int.le_antisymm (Int.le_of_dvd y o) (Int.le_of_dvd z d2);refine⟨u,fun j g ne=>?_⟩;have hv:=T.lt.s 1 (T.fi i hi) hw;have:=T.small (Ad r) hv (fun t a=>?_) j g
 ·rcases Bs j i with h|h
  ·exact T.fz i j hi h
  ·have e:L i j=0:=T.lz i j ω g
   have e2:=l j ω g;have:f i j-1*(L i j-1*cmb (lst i c) ((Ah i).map L) j)=0:=this;rw[e,e2] at this;(first|lia|omega)
 ·have A:=T.fp t a
  show(f i t-1*(L i t-1*cmb (lst i c) ((Ah i).map L) t)).natAbs<(f t t).natAbs;rcases Nat.lt_trichotomy t i with h|h|h
  ·have e1:=q t h
   rw[T.fz i t hi h,e1];(first|lia|omega)
  ·subst h;rw[wi,u];(first|lia|omega)
  ·have e:L i t=0:=T.lz i t h a
   have e2:=l t ω a;have e3:=p i t h a;rw[e,e2];(first|lia|omega)
def vH(T:Two Λ r L f)(a:∀i j,i<j->j<r->0<=f i j/\f i j<f j j):(∃k,k<=r/\2*pr (tn f k)<=pr (tn L k))\/∀i,i<r->f i i=L i i/\∀j,j<r->j≠i->f i j=0:=by
 by_cases h:∀k,k<=r->∀w,Λ w->SL L k w
 ·exact .inr fun i hi=>diag T a h i hi
 ·obtain⟨k,h⟩:=Classical.not_forall.mp h
  obtain⟨hk,h⟩:=Classical.not_imp.mp h;obtain⟨w,h⟩:=Classical.not_forall.mp h;obtain⟨hw,h⟩:=Classical.not_imp.mp h;exact .inl ⟨k,hk,half_lt T hk hw h⟩
end
def M8{R:List Vc}{P:List Nat}{f:Nat->Vc}(h:Ech P f)(b:P.Pairwise (·<·))(c:∀r∈R,Sp (P.map f) r){w:Vc}(hw:Sp R w)(hb:∀p∈P,(w p).natAbs<(f p p).natAbs):∀p∈P,w p=0:=by
 have sw:=hw.trans c;intro p
 induction p using Nat.strongRecOn with
 |_ p ih=>
  intro hp;obtain⟨m,e⟩:=kj h b hp sw fun q hq a=>ih q a hq;have:=hb p hp;rw[e,AJ] at this;rcases Nat.eq_zero_or_pos m.natAbs with z|z
  ·rw[e,Int.natAbs_eq_zero.mp z,Int.mul_zero]
  ·have:(f p p).natAbs*1<=(f p p).natAbs*m.natAbs:=Al _ z
   (first|lia|omega)
def near{R:List Vc}{P:List Nat}{M:Nat}(j:1<=M)(d:∀v∈R,∀p∈P,(v p).natAbs<=M)(f:P.length=R.length)(e:P.Nodup)(hi:Inj R P)(v:Vc):∃q:List Int,q.length=R.length/\∀p∈P,(v p-cmb q R p).natAbs<=R.length*M:=by
 obtain⟨V,g⟩:∃V,∀p∈P,(v p).natAbs<=V:=by
  clear d f e hi
  induction P with
  |nil=>exact⟨0,fun p hp=>nomatch hp⟩
  |cons p P ih=>
   obtain⟨V,h⟩:=ih;exact⟨V+(v p).natAbs,fun q hq=>by rcases List.mem_cons.mp hq with rfl|hq;(first|lia|omega);have:=h q hq;(first|lia|omega)⟩
 obtain⟨D,s,c,a,e1,_,_⟩:=clear j d f e hi g P e fun q hq=>hq;have fin:∀(D:Int)(s:List Int),0<D->s.length=R.length->(∀p∈P,cmb s R p=D*v p)->∃q:List Int,q.length=R.length/\∀p∈P,(v p-cmb q R p).natAbs<=R.length*M:=fun D s c a e1=>by
  refine⟨s.map (· / D),by rw[Aa,a],fun p hp=>?_⟩;have e2:cmb (s.map (·%D)) R p=cmb s R p-D*cmb (s.map (· / D)) R p:=by
   have:=ik 1 (-D) s (s.map (· / D)) R a (by rw[Aa,a]) p;rw[Int.one_mul,Int.neg_mul] at this;rw[show cmb s R p-D*cmb (s.map (· / D)) R p=cmb s R p+-(D*cmb (s.map (· / D)) R p) from ω,<-this]
   congr 1
   apply AU
   ·simp
   ·intro i h1 h2
    simp only[AW,Bh];have:=Int.emod_add_mul_ediv (s[i]'(by simpa using h1)) D;rw[Int.one_mul,Int.neg_mul];(first|lia|omega)
  have b:=vg (u:=p) (X:=D.natAbs) (M:=M) (s.map (·%D)) R (fun x hx=>by
   obtain⟨y,_,rfl⟩:=List.mem_map.mp hx;have h1:=Int.emod_nonneg y (show D≠0 from ω);have h2:=Int.emod_lt_of_pos y c;(first|lia|omega)) fun v hv=>d v hv p hp
  rw[e2,e1 p hp,<-Int.mul_sub,AJ,Nat.mul_left_comm] at b;exact Nat.le_of_mul_le_mul_left b ω
 rcases Int.lt_trichotomy D 0 with h|h|h
 ·refine fin (-D) (s.map fun x=>-x) ω (by rw[Aa,a]) fun p hp=>?_
  have:=ik (-1) 0 s s R a a p;rw[show(-1:Int)*cmb s R p+0*cmb s R p=-cmb s R p from ω,e1 p hp] at this;rw[Int.neg_mul,<-this]
  congr 1
  apply AU
  ·simp
  ·intro i h1 h2;simp only[AW,Bh];(first|lia|omega)
 ·exact absurd h c
 ·exact fin D s h a e1
def M9{R:List Vc}{P:List Nat}{f:Nat->Vc}{M:Nat}(G:1<=M)(hi:jo R)(h:Ech P f)(j:P.Pairwise (·<·))(v:∀r∈R,Sp (P.map f) r)(l:P.length=R.length)(hb:∀r∈R,∀p∈P,(r p).natAbs<=M):pr (P.map fun p=>(f p p).toNat)<=(2*(R.length*M)+1) ^ R.length:=by
 have q:P.Nodup:=j.imp fun h=>AD h;have inj:=C4 hi h j v;have b:=fun x:List Int=>near G hb l q inj fun u=>x.getD (P.idxOf u) 0;rw[<-l,<-CZ,<-kE];have g:∀(x:List Int)(i:Nat)(hi:i<P.length),x.getD (P.idxOf P[i]) 0=x.getD i 0:=fun x i hi=>by rw[q.idxOf_getElem i hi]
 refine Fn (f:=fun x=>P.map fun p=>x.getD (P.idxOf p) 0-cmb (Classical.choose (b x)) R p+((P.length*M:Nat):Int)) (p4 _) (fun x hx=>?_) fun x hx y hy e=>?_
 ·refine mL.mpr ⟨Aa _,fun z hz=>?_⟩
  obtain⟨p,hp,rfl⟩:=List.mem_map.mp hz;have:=(Classical.choose_spec (b x)).2 p hp;rw[show P.length*M=R.length*M by rw[l]];generalize cmb (Classical.choose (b x)) R p=z at this ⊢;generalize R.length*M=A at this ⊢;(first|lia|omega)
 ·obtain⟨d,c⟩:=jy.mp hx
  obtain⟨o,w⟩:=jy.mp hy;rw[Aa] at d o;obtain⟨C,_⟩:=Classical.choose_spec (b x);obtain⟨D,_⟩:=Classical.choose_spec (b y);have sp:Sp R fun u=>cmb (Classical.choose (b x)) R u-1*cmb (Classical.choose (b y)) R u:=(show Sp R (cmb (Classical.choose (b x)) R) from⟨_,C,fun _=>rfl⟩).sub ⟨_,D,fun _=>rfl⟩ 1;have s:∀p∈P,cmb (Classical.choose (b x)) R p-1*cmb (Classical.choose (b y)) R p=x.getD (P.idxOf p) 0-y.getD (P.idxOf p) 0:=fun p hp=>by
   have:=(List.map_inj_left.mp e) p hp;(first|lia|omega)
  have bd:∀(x:List Int),(∀(i:Nat) z t,x[i]?=some z->(P.map fun p=>(f p p).toNat)[i]?=some t->0<=z/\z<(t:Int))->x.length=P.length->∀p∈P,0<=x.getD (P.idxOf p) 0/\x.getD (P.idxOf p) 0<((f p p).toNat:Int):=fun x c d p hp=>by
   obtain⟨i,a,rfl⟩:=Be hp;rw[g x i a,Ac,Ab ω];exact c i _ _ (Ab ω) (by rw[Aj,Ab a];rfl)
  have z:=M8 h j v sp fun p hp=>by
   have h1:=bd x c d p hp;have h2:=bd y w o p hp
   have H:=h.pos p hp;have E:=s p hp;show(cmb (Classical.choose (b x)) R p-1*cmb (Classical.choose (b y)) R p).natAbs<_;rw[E];(first|lia|omega)
  refine AU ω fun i h1 h2=>?_;have a:i<P.length:=ω
  have:=z P[i] (AB a);have e2:=s P[i] (AB a);rw[g x i a,g y i a,Ac,Ac,Ab h1,Ab h2] at e2;have F:cmb (Classical.choose (b x)) R P[i]-1*cmb (Classical.choose (b y)) R P[i]=0:=this;rw[F] at e2;show x[i]=y[i];have e3:(some x[i]).getD 0=x[i]:=rfl;have I:(some y[i]).getD 0=y[i]:=rfl;(first|lia|omega)
def sm(ρ:Nat->Vc)(c:Nat->Int):Nat->Nat->Int
 |0,_=>0
 |j+1,u=>sm ρ c j u+c j*ρ j u
def Da{ρ:Nat->Vc}{c:Vc}(u:Nat):∀j,cmb (lst j c) ((Ah j).map ρ) u=sm ρ c j u
 |0=>rfl
 |j+1=>by rw[ID,Da u j];rfl
def IE(c:List Int):lst c.length (vl c)=c:=range_getD c
def vK{ρ:Nat->Vc}{c:Vc}{u:Nat}:∀j,(∀i,i<j->c i*ρ i u=0)->sm ρ c j u=0
 |0,_=>rfl
 |j+1,h=>by show sm ρ c j u+c j*ρ j u=0;rw[vK j fun i hi=>h i ω,h j ω];rfl
def v'{ρ:Nat->Vc}{c:Vc}{u:Nat}:∀(n j:Nat),(∀i,j<=i->i<j+n->c i*ρ i u=0)->sm ρ c (j+n) u=sm ρ c j u
 |0,_,_=>rfl
 |n+1,j,h=>by show sm ρ c (j+n) u+c (j+n)*ρ (j+n) u=_;rw[v' n j fun i h1 h2=>h i h1 ω,h (j+n) ω ω];(first|lia|omega)
def sd(ρ:Nat->Vc)(c:Nat->Int)(m:Nat):Nat->Nat->Int
 |0,_=>0
 |n+1,u=>sd ρ c m n u+c (m-1-n)*ρ (m-1-n) u
def IF{ρ:Nat->Vc}{c:Vc}{m u:Nat}:∀n,n<=m->sm ρ c m u=sm ρ c (m-n) u+sd ρ c m n u
 |0,_=>by show _=sm ρ c m u+0;(first|lia|omega)
 |n+1,h=>by
  rw[IF n ω];have e:m-n=(m-1-n)+1:=ω
  have e2:m-(n+1)=m-1-n:=ω
  rw[e,e2];show sm ρ c (m-1-n) u+c (m-1-n)*ρ (m-1-n) u+sd ρ c m n u=sm ρ c (m-1-n) u+(sd ρ c m n u+c (m-1-n)*ρ (m-1-n) u);(first|lia|omega)
structure Tri(k r w M g:Nat)(ρ:Nat->Vc)(Q:Nat->Nat):Prop where
 g1:1<=g
 rk:r<=k
 rw:r<=w
 qs:∀a b,a<b->b<k-r->Q a<Q b
 qw:∀a,a<k-r->w<=Q a
 tp:∀i,i<r->0<ρ i i
 tz:∀i j,i<r->i<j->j<w->ρ i j=0
 tl:∀i j,i<r->j<i->(ρ i j).natAbs<=(ρ i i).natAbs
 tq:∀i a,i<r->a<k-r->(ρ i (Q a)).natAbs<=g*(ρ (r+a) (Q a)).natAbs
 kz:∀a u,a<k-r->u<Q a->ρ (r+a) u=0
 kp:∀a,a<k-r->0<ρ (r+a) (Q a)
 kq:∀a b,a<b->b<k-r->0<=ρ (r+a) (Q b)/\ρ (r+a) (Q b)<ρ (r+b) (Q b)
 tm:∀i,i<r->(ρ i i).natAbs<=M
 km:∀a,a<k-r->g*(ρ (r+a) (Q a)).natAbs<=M
section
variable{k r w M g:Nat}{ρ:Nat->Vc}{Q:Nat->Nat}
def Tri.low(T:Tri k r w M g ρ Q){a u:Nat}(b:a<k-r)(c:u<w):ρ (r+a) u=0:=T.kz a u b (AE c (T.qw a b))
def sa(ρ:Nat->Vc)(c:Nat->Int)(m:Nat):Nat->Nat
 |0=>0
 |n+1=>sa ρ c m n+(c (m-1-n)).natAbs*(ρ (m-1-n) (m-1-n)).natAbs
def Tri.top_le(T:Tri k r w M g ρ Q){c:Vc}{m V:Nat}(f:m<=r)(hv:∀i,i<m->(sm ρ c m i).natAbs<=V):∀n,n<=m->sa ρ c m n+V<=V*2 ^ n
 |0,_=>by show 0+V<=V*1;(first|lia|omega)
 |n+1,h=>by
  have d:=Tri.top_le T f hv n ω;have hi:m-1-n<m:=ω
  have l:(sd ρ c m n (m-1-n)).natAbs<=sa ρ c m n:=by
   have:∀a,a<=n->(sd ρ c m a (m-1-n)).natAbs<=sa ρ c m a:=by
    intro a
    induction a with
    |zero=>intro _;exact Ad 0
    |succ a d=>
     intro j;have h1:=d ω;have h2:=T.tl (m-1-a) (m-1-n) ω ω;have o:(c (m-1-a)*ρ (m-1-a) (m-1-n)).natAbs<=(c (m-1-a)).natAbs*(ρ (m-1-a) (m-1-a)).natAbs:=by rw[AJ];exact Al _ h2
     have p:=Int.natAbs_add_le (sd ρ c m a (m-1-n)) (c (m-1-a)*ρ (m-1-a) (m-1-n));show(sd ρ c m a (m-1-n)+c (m-1-a)*ρ (m-1-a) (m-1-n)).natAbs<=sa ρ c m a+_;(first|lia|omega)
   exact this n (Ad _)
  have e:sm ρ c m (m-1-n)=c (m-1-n)*ρ (m-1-n) (m-1-n)+sd ρ c m n (m-1-n):=by
   rw[IF n ω,show m-n=(m-1-n)+1 from ω];show sm ρ c (m-1-n) (m-1-n)+_+_=_;rw[vK (m-1-n) fun i b=>by rw[T.tz i (m-1-n) ω b (by have:=T.rw;(first|lia|omega)),Int.mul_zero]];(first|lia|omega)
  have q:=hv (m-1-n) hi;have s:(c (m-1-n)).natAbs*(ρ (m-1-n) (m-1-n)).natAbs<=V+sa ρ c m n:=by
   rw[<-AJ];(first|lia|omega)
  show sa ρ c m n+(c (m-1-n)).natAbs*(ρ (m-1-n) (m-1-n)).natAbs+V<=V*2 ^ (n+1);rw[Nat.pow_succ,<-AQ];(first|lia|omega)
def sc(c:Nat->Int):Nat->Nat
 |0=>0
 |n+1=>sc c n+(c n).natAbs
def M_{c:Vc}{n i:Nat}(h:i<n):(c i).natAbs<=sc c n:=by
 induction n with
 |zero=>(first|lia|omega)
 |succ n ih=>
  show _<=sc c n+(c n).natAbs
  by_cases e:i=n
  ·subst e;(first|lia|omega)
  ·have:=ih ω;(first|lia|omega)
def Tri.top_sum(T:Tri k r w M g ρ Q){c:Vc}{m V:Nat}(a:m<=r)(hv:∀i,i<m->(sm ρ c m i).natAbs<=V):sc c m+V<=V*2 ^ m:=by
 have h1:=T.top_le a hv m (Ad _);have h2:∀n,n<=m->sc c m<=sc c (m-n)+sa ρ c m n:=by
  intro n
  induction n with
  |zero=>intro _;exact Ad _
  |succ n ih=>
   intro b;have:=ih ω;have hp:=T.tp (m-1-n) ω;rw[show m-n=(m-1-n)+1 from ω] at this;rw[show m-(n+1)=m-1-n from ω];have d:(c (m-1-n)).natAbs*1<=(c (m-1-n)).natAbs*(ρ (m-1-n) (m-1-n)).natAbs:=Al _ ω;show sc c m<=sc c (m-1-n)+(sa ρ c m n+_);have e:sc c (m-1-n+1)=sc c (m-1-n)+(c (m-1-n)).natAbs:=rfl;(first|lia|omega)
 have:=h2 m (Ad _);rw[Nat.sub_self] at this;have:sc c 0=0:=rfl;(first|lia|omega)
def IG{c:Vc}{u K:Nat}:∀n,(∀i,i<n->(ρ i u).natAbs<=K)->(sm ρ c n u).natAbs<=K*sc c n
 |0,_=>Az _
 |n+1,h=>by
  have h1:=IG (c:=c) n fun i hi=>h i ω;have h2:(c n*ρ n u).natAbs<=K*(c n).natAbs:=by rw[AJ,Nat.mul_comm];exact Am _ (h n ω)
  have a:=Int.natAbs_add_le (sm ρ c n u) (c n*ρ n u);show(sm ρ c n u+c n*ρ n u).natAbs<=K*(sc c n+(c n).natAbs);rw[Nat.mul_add];(first|lia|omega)
def Tri.all_sum(T:Tri k r w M g ρ Q){c:Vc}{V:Nat}:∀n,n<=k-r->(∀i,i<r->(sm ρ c (r+n) i).natAbs<=V)->(∀a,a<n->(sm ρ c (r+n) (Q a)).natAbs<=V)->sc c (r+n)+V<=V*2 ^ r*(1+g) ^ n:=by
 intro n;have base:∀n,n<=k-r->(∀i,i<r->(sm ρ c (r+n) i).natAbs<=V)->sc c r+V<=V*2 ^ r:=fun n f hv=>T.top_sum (Ad r) fun i hi=>by
  have:=hv i hi
  rwa [v' n r fun j h1 h2=>by
   have:=T.low (a:=j-r) (u:=i) ω (by have:=T.rw;(first|lia|omega));rw[show r+(j-r)=j from ω] at this;rw[this,Int.mul_zero]] at this
 intro f hv hq;have hb:=base n f hv;have:∀b,b<=n->sc c (r+b)+V<=V*2 ^ r*(1+g) ^ b:=by
  intro b
  induction b with
  |zero=>intro _;rw[Nat.pow_zero,Nat.mul_one];exact hb
  |succ b ih=>
   intro o;have h1:=ih ω;have hp:=T.kp b ω;have e:sm ρ c (r+n) (Q b)=sm ρ c (r+b) (Q b)+c (r+b)*ρ (r+b) (Q b):=by
    have:=v' (ρ:=ρ) (c:=c) (u:=Q b) (n-(b+1)) (r+(b+1)) fun j h1 h2=>by
     have:=T.kz (j-r) (Q b) ω (T.qs b (j-r) ω ω);rw[show r+(j-r)=j from ω] at this;rw[this,Int.mul_zero]
    rw[show r+(b+1)+(n-(b+1))=r+n from ω] at this;rw[this];rfl
   have h2:(sm ρ c (r+b) (Q b)).natAbs<=(g*(ρ (r+b) (Q b)).natAbs)*sc c (r+b):=IG (r+b) fun i hi=>by
    by_cases d:i<r
    ·exact T.tq i b d ω
    ·have:=T.kq (i-r) b ω ω
     rw[show r+(i-r)=i from ω] at this;have:1*(ρ (r+b) (Q b)).natAbs<=g*(ρ (r+b) (Q b)).natAbs:=Am _ T.g1;(first|lia|omega)
   have p:=hq b ω;have l:(c (r+b)).natAbs*(ρ (r+b) (Q b)).natAbs<=V+(g*(ρ (r+b) (Q b)).natAbs)*sc c (r+b):=by
    rw[<-AJ];(first|lia|omega)
   generalize hκ:(ρ (r+b) (Q b)).natAbs=κ at h2 l;have h:1<=κ:=ω
   have q:(c (r+b)).natAbs<=V+g*sc c (r+b):=by
    have:κ*(c (r+b)).natAbs<=κ*(V+g*sc c (r+b)):=by
     rw[Nat.mul_add,Nat.mul_comm κ (c (r+b)).natAbs,<-AQ,Nat.mul_comm κ g];have:V<=κ*V:=Nat.le_mul_of_pos_left _ h;(first|lia|omega)
    exact Nat.le_of_mul_le_mul_left this h
   show sc c (r+b)+(c (r+b)).natAbs+V<=V*2 ^ r*(1+g) ^ (b+1);rw[Nat.pow_succ,<-AQ];have s:(sc c (r+b)+V)*(1+g)<=V*2 ^ r*(1+g) ^ b*(1+g):=Am _ h1;have v:(sc c (r+b)+V)*(1+g)=sc c (r+b)+V+(g*sc c (r+b)+g*V):=by rw[Nat.mul_add,Nat.mul_one,Nat.mul_comm _ g,Nat.mul_add]
   have x:1*V<=g*V:=Am _ T.g1;(first|lia|omega)
 exact this n (Ad _)
end
def wa:∀(a b:List Nat),pr (a++b)=pr a*pr b
 |[],b=>by show pr b=1*pr b;(first|lia|omega)
 |t::a,b=>by show t*pr (a++b)=t*pr a*pr b;rw[wa a b,AQ]
def IH(g:Nat->Vc)(k:Nat):tn g (k+1)=tn g k++[(g k k).toNat]:=by unfold tn;rw[List.range_succ,At];rfl
def p6{g:Nat->Vc}:∀{k:Nat},(∀i,i<k->0<g i i)->1<=pr (tn g k)
 |0,_=>Ad _
 |k+1,h=>by
  rw[IH,wa];have h1:=p6 (k:=k) fun i hi=>h i ω;have h2:=h k ω;exact pI h1 (by show 1<=(g k k).toNat*1;(first|lia|omega))
def Fx{g:Nat->Vc}{k:Nat}(h:∀i,i<k+1->0<g i i):(g k k).toNat<=pr (tn g (k+1)):=by
 rw[IH,wa];have:=p6 (k:=k) fun i hi=>h i ω;show _<=pr (tn g k)*((g k k).toNat*1);rw[Nat.mul_one];exact Nat.le_mul_of_pos_left _ this
section
variable{k r w M g:Nat}{ρ:Nat->Vc}{Q:Nat->Nat}
def pl(r j:Nat)(Q:Nat->Nat):List Nat:=Ah (min j r)++(Ah (j-r)).map Q
def II{j:Nat}:(pl r j Q).length=j:=by unfold pl;rw[AN,A9,Aa,A9];(first|lia|omega)
def Tri.sum_le(T:Tri k r w M g ρ Q){j V:Nat}{c:Vc}(d:j<=k)(hv:∀p∈pl r j Q,(sm ρ c j p).natAbs<=V):sc c j+V<=V*(1+g) ^ j:=by
 rcases Bs j r with h|h
 ·have:=T.top_sum (m:=j) ω fun i hi=>hv i (List.mem_append_left _ (List.mem_range.mpr ω))
  have g2:2 ^ j<=(1+g) ^ j:=Nat.pow_le_pow_left (by have:=T.g1;(first|lia|omega)) _;exact Af this (Al _ g2)
 ·have:=T.all_sum (c:=c) (V:=V) (j-r) ω (fun i hi=>?_) fun a b=>?_
  ·rw[show r+(j-r)=j from ω] at this
   have g2:2 ^ r<=(1+g) ^ r:=Nat.pow_le_pow_left (by have:=T.g1;(first|lia|omega)) _;have g3:V*2 ^ r*(1+g) ^ (j-r)<=V*(1+g) ^ r*(1+g) ^ (j-r):=Am _ (Al _ g2);rw[AQ V ((1+g) ^ r),<-Nat.pow_add,show r+(j-r)=j from ω] at g3;exact Af this g3
  ·rw[show r+(j-r)=j from ω]
   exact hv i (List.mem_append_left _ (List.mem_range.mpr ω))
  ·rw[show r+(j-r)=j from ω]
   exact hv (Q a) (AF _ (List.mem_map.mpr ⟨a,List.mem_range.mpr b,rfl⟩))
def Tri.lead(T:Tri k r w M g ρ Q){j p:Nat}{c:Vc}(H:j<=k)(hz:∀u,u<p->sm ρ c j u=0)(hp:sm ρ c j p≠0):p∈pl r j Q:=by
 by_cases C:∃i,i<min j r/\c i≠0
 ·-- eS f row of eS slope that stands there
  have f:∀m,m<=min j r->(∃i,i<m/\c i≠0)->∃i,i<m/\c i≠0/\∀d,i<d->d<m->c d=0:=by
   intro m
   induction m with
   |zero=>rintro _ ⟨i,hi,_⟩;(first|lia|omega)
   |succ m ih=>
    rintro G ⟨i,hi,hc⟩
    by_cases e:c m=0
    ·obtain⟨d,h1,h2,q⟩:=ih ω ⟨i,by rcases Bs i m with h|h;exact h;exact absurd (show c i=0 by rw[show i=m from ω];exact e) hc,hc⟩
     exact⟨d,ω,h2,fun y D E=>by by_cases e2:y=m;rw[e2];exact e;exact q y D ω⟩
    ·exact⟨m,ω,e,fun d h1 h2=>ω⟩
  obtain⟨i,hi,hc,s⟩:=f _ (Ad _) C;have v:i<r:=ω
  have e:sm ρ c j i=c i*ρ i i:=by
   have h1:=v' (ρ:=ρ) (c:=c) (u:=i) (j-(i+1)) (i+1) fun d h1 h2=>by
    by_cases h:d<r
    ·rw[s d ω ω,Int.zero_mul]
    ·have:=T.low (a:=d-r) (u:=i) ω (by have:=T.rw;(first|lia|omega))
     rw[show r+(d-r)=d from ω] at this;rw[this,Int.mul_zero]
   rw[show i+1+(j-(i+1))=j from ω] at h1;rw[h1];show sm ρ c i i+c i*ρ i i=_;rw[vK i fun d l=>by rw[T.tz d i ω l (by have:=T.rw;(first|lia|omega)),Int.mul_zero]];(first|lia|omega)
  have x:sm ρ c j i≠0:=by rw[e];exact Int.mul_ne_zero hc (by have:=T.tp i v;(first|lia|omega))
  have:p<=i:=by
   rcases Bs i p with h|h
   ·exact absurd (hz i h) x
   ·exact h
  exact List.mem_append_left _ (List.mem_range.mpr ω)
 ·have A:∀i,i<min j r->c i=0:=fun i hi=>AC fun z=>C ⟨i,hi,z⟩
  have first:∀n,(∃a,a<n/\c (r+a)≠0)->∃a,a<n/\c (r+a)≠0/\∀b,b<a->c (r+b)=0:=by
   intro n
   induction n with
   |zero=>rintro⟨a,o,_⟩;(first|lia|omega)
   |succ n ih=>
    rintro⟨a,o,hc⟩
    by_cases h:∃a,a<n/\c (r+a)≠0
    ·obtain⟨a',h1,h2,q⟩:=ih h
     exact⟨a',ω,h2,q⟩
    ·exact⟨a,o,hc,fun b hb=>AC fun z=>h ⟨b,ω,z⟩⟩
  have ex:∃a,a<j-r/\c (r+a)≠0:=AC fun no=>hp (vK j fun i hi=>by
   by_cases h:i<r
   ·rw[A i ω,Int.zero_mul]
   ·have:c (r+(i-r))=0:=AC fun z=>no ⟨i-r,ω,z⟩
    rw[show r+(i-r)=i from ω] at this;rw[this,Int.zero_mul])
  obtain⟨a,o,hc,s⟩:=first _ ex;have e:∀u,u<=Q a->sm ρ c j u=c (r+a)*ρ (r+a) u:=fun u F=>by
   have h1:=v' (ρ:=ρ) (c:=c) (u:=u) (j-(r+a+1)) (r+a+1) fun d h1 h2=>by
    have:=T.kz (d-r) u ω (by have:=T.qs a (d-r) ω ω;(first|lia|omega));rw[show r+(d-r)=d from ω] at this;rw[this,Int.mul_zero]
   rw[show r+a+1+(j-(r+a+1))=j from ω] at h1;rw[h1];show sm ρ c (r+a) u+c (r+a)*ρ (r+a) u=_;rw[vK (r+a) fun d l=>by
    by_cases h:d<r
    ·rw[A d ω,Int.zero_mul]
    ·have:=s (d-r) ω
     rw[show r+(d-r)=d from ω] at this;rw[this,Int.zero_mul]]
   (first|lia|omega)
  have hk:=T.kp a ω;have e1:p=Q a:=by
   rcases Nat.lt_trichotomy p (Q a) with h|h|h
   ·exact absurd (by rw[e p ω,T.kz a p ω h,Int.mul_zero]) hp
   ·exact h
   ·exact absurd (by rw[<-e (Q a) (Ad _)];exact hz (Q a) h) (Int.mul_ne_zero hc (show ρ (r+a) (Q a)≠0 from ω))
  rw[e1];exact AF _ (List.mem_map.mpr ⟨a,List.mem_range.mpr o,rfl⟩)
def Tri.rows_le(T:Tri k r w M g ρ Q){j i p:Nat}(l:j<=k)(hi:i<j)(hp:p∈pl r j Q):(ρ i p).natAbs<=M:=by
 rcases List.mem_append.mp hp with h|h
 ·have h:=List.mem_range.mp h
  by_cases b:i<r
  ·have:=T.tm i b
   rcases Nat.lt_trichotomy p i with g|g|g
   ·have:=T.tl i p b g;(first|lia|omega)
   ·subst g;exact this
   ·rw[T.tz i p b g (by have:=T.rw;(first|lia|omega))];exact Az _
  ·have:=T.low (a:=i-r) (u:=p) ω (by have:=T.rw;(first|lia|omega))
   rw[show r+(i-r)=i from ω] at this;rw[this];exact Az _
 ·obtain⟨a,c,rfl⟩:=List.mem_map.mp h
  have c:=List.mem_range.mp c;have d:=T.km a ω;have f:1*(ρ (r+a) (Q a)).natAbs<=g*(ρ (r+a) (Q a)).natAbs:=Am _ T.g1
  by_cases b:i<r
  ·have:=T.tq i a b ω;(first|lia|omega)
  ·rcases Nat.lt_trichotomy (i-r) a with g'|g'|g'
   ·have:=T.kq (i-r) a g' ω
    rw[show r+(i-r)=i from ω] at this;(first|lia|omega)
   ·have e:ρ i (Q a)=ρ (r+a) (Q a):=by rw[<-g',show r+(i-r)=i from ω]
    rw[e];(first|lia|omega)
   ·have:=T.kz (i-r) (Q a) ω (T.qs a (i-r) g' ω)
    rw[show r+(i-r)=i from ω] at this;rw[this];exact Az _
def IJ(T:Tri k r w M g ρ Q){N B:Nat}(U:∀a,a<k-r->(ρ (r+a) (Q a)).natAbs<=B)(W:∀m,m<=r->pr (tn ρ m)<=B)(hk:k<=N){j:Nat}(E:j<=k):Bd N M ((1+g) ^ N) B ((Ah j).map ρ):=by
 have l:((Ah j).map ρ).length=j:=by simp
 have C:∀(c:List Int),c.length=j->∀u,cmb c ((Ah j).map ρ) u=sm ρ (vl c) j u:=fun c hc u=>by
  have:=Da (ρ:=ρ) (c:=vl c) u j;rw[<-hc,IE] at this;rw[<-hc];exact this
 have small:∀(c:List Int)(V:Nat),c.length=j->(∀p∈pl r j Q,(cmb c ((Ah j).map ρ) p).natAbs<=V)->∀x∈c,x.natAbs<=V*(1+g) ^ j:=fun c V hc hv x hx=>by
  have h1:=T.sum_le (c:=vl c) E fun p hp=>by rw[<-C c hc];exact hv p hp
  obtain⟨i,hi,rfl⟩:=Be hx;have h2:=M_ (c:=vl c) (n:=j) (i:=i) ω;have e:vl c i=c[i]:=by unfold vl;rw[Ac,Ab hi];rfl
  rw[e] at h2;(first|lia|omega)
 have ind:jo ((Ah j).map ρ):=fun c hc hz x hx=>by
  have:=small c 0 (by rw[hc,l]) (fun p _=>by rw[hz];exact Ad 0) x hx;(first|lia|omega)
 refine⟨ind,fun P f h o F G I=>?_⟩;rw[l] at I;have O:P.Nodup:=o.imp fun h=>AD h;have sub:∀p∈P,p∈pl r j Q:=fun p hp=>by
  obtain⟨c,hc,e⟩:=G p hp;rw[l] at hc;refine T.lead (c:=vl c) E (fun u J=>?_) ?_
  ·rw[<-C c hc,<-e];exact h.z p hp u J
  ·rw[<-C c hc,<-e];have:=h.pos p hp;(first|lia|omega)
 have d:∀p∈pl r j Q,p∈P:=fun p hp=>AC fun z=>by
  have D:(p::P).Nodup:=List.nodup_cons.mpr ⟨z,O⟩;have:=D.length_le_of_subset (l₂:=pl r j Q) fun x hx=>by
   rcases List.mem_cons.mp hx with rfl|hx
   ·exact hp
   ·exact sub x hx
  rw[II,AH] at this;(first|lia|omega)
 refine⟨fun p hp=>?_,fun s L p hp=>?_,fun c V hc hv x hx=>?_⟩
 ·rcases List.mem_append.mp (sub p hp) with hg|hg
  ·have hg:=List.mem_range.mp hg
   have two:Two (Sp ((Ah j).map ρ)) (min j r) ρ f:=by
    have b:∀i,i<min j r->i∈P:=fun i hi=>d i (List.mem_append_left _ (List.mem_range.mpr hi));refine⟨⟨Sp.zero,fun m hv hw=>hv.sub hw m⟩,fun i hi=>Sp.mem (List.mem_map.mpr ⟨i,List.mem_range.mpr ω,rfl⟩),fun i hi=>T.tp i ω,fun i y h1 h2=>T.tz i y ω h1 (by have:=T.rw;(first|lia|omega)),fun i hi=>G i (b i hi),fun i hi=>h.pos i (b i hi),fun i y hi A=>h.z i (b i hi) y A,fun v i hv hi hz=>?_⟩;exact kj h o (b i hi) (hv.trans F) fun q _ hq=>hz q hq
   have h1:=Fv two (k:=p+1) ω;have h2:=Fx (g:=f) (k:=p) fun i hi=>two.fp i ω;have X:=W (p+1) ω;have Y:=h.pos p hp;(first|lia|omega)
  ·obtain⟨a,H,rfl⟩:=List.mem_map.mp hg
   have H:=List.mem_range.mp H;have sp:Sp (P.map f) (ρ (r+a)):=F _ (List.mem_map.mpr ⟨r+a,List.mem_range.mpr ω,rfl⟩);have hd:=kj h o hp sp fun q _ hq=>T.kz a q ω hq;have Z:=T.kp a ω;have:=Nat.le_of_dvd ω (Int.natAbs_dvd_natAbs.mpr hd);have:=U a ω;(first|lia|omega)
 ·obtain⟨i,hi,rfl⟩:=List.mem_map.mp L
  exact T.rows_le E (List.mem_range.mp hi) (sub p hp)
 ·rw[l] at hc
  refine Af (small c V hc (fun p hp=>hv p (d p hp)) x hx) ?_;have h1:(1+g) ^ j<=(1+g) ^ N:=Aw ω ω;have h2:V*(1+g) ^ j<=V*(1+g) ^ N:=Al _ h1;have S:1<=N:=by
   have:0<c.length:=List.length_pos_of_mem hx;(first|lia|omega)
  exact Af h2 (Nat.le_mul_of_pos_left _ S)
end
section
variable{k r w M g N X B:Nat}{ρ f:Nat->Vc}{Q:Nat->Nat}{P:List Nat}
def M'{l m:List Nat}(h1:l.Pairwise (·<·))(h2:m.Pairwise (·<·))(h:∀x,x∈l↔x∈m):l=m:=
 List.Perm.eq_of_pairwise (le:=fun a b=>a<=b) (fun a b _ _ g1 g2=>Nat.le_antisymm g1 g2) (h1.imp fun h=>Nat.le_of_lt h) (h2.imp fun h=>Nat.le_of_lt h) ((List.perm_ext_iff_of_nodup (h1.imp fun h=>ω) (h2.imp fun h=>ω)).mpr h)
def Tri.pl_srt(T:Tri k r w M g ρ Q){j:Nat}(d:j<=k):(pl r j Q).Pairwise (·<·):=by
 unfold pl;rw[List.pairwise_append,List.pairwise_map];refine⟨List.pairwise_lt_range,List.pairwise_lt_range.imp_of_mem fun{a b} c hb h=>T.qs a b h (by have:=List.mem_range.mp hb;(first|lia|omega)),fun x hx y hy=>?_⟩;obtain⟨a,c,rfl⟩:=List.mem_map.mp hy;have:=List.mem_range.mp hx;have:=List.mem_range.mp c;have:=T.qw a ω;have:=T.rw;(first|lia|omega)
def Tri.places(T:Tri k r w M g ρ Q){j:Nat}(d:j<=k)(h:Ech P f)(i:P.Pairwise (·<·))(o:∀p∈P,Sp ((Ah j).map ρ) (f p))(q:P.length=j):P=pl r j Q:=by
 have sub:∀p∈P,p∈pl r j Q:=fun p hp=>by
  obtain⟨c,hc,e⟩:=o p hp;have hc:c.length=j:=by simpa using hc
  have b:∀u,cmb c ((Ah j).map ρ) u=sm ρ (vl c) j u:=fun u=>by
   have:=Da (ρ:=ρ) (c:=vl c) u j;rw[<-hc,IE] at this;rw[<-hc];exact this
  refine T.lead (c:=vl c) d (fun u l=>?_) ?_
  ·rw[<-b,<-e];exact h.z p hp u l
  ·rw[<-b,<-e];have:=h.pos p hp;(first|lia|omega)
 refine M' i (T.pl_srt d) fun x=>⟨sub x,fun hx=>AC fun z=>?_⟩;have a:(x::P).Nodup:=List.nodup_cons.mpr ⟨z,i.imp fun h=>AD h⟩;have:=a.length_le_of_subset (l₂:=pl r j Q) fun y hy=>by
  rcases List.mem_cons.mp hy with rfl|hy
  ·exact hx
  ·exact sub y hy
 rw[II,AH] at this;(first|lia|omega)
structure IK(k r w:Nat)(ρ f:Nat->Vc)(Q:Nat->Nat):Prop where
 fi:∀i,i<r->Sp ((Ah k).map ρ) (f i)
 fq:∀a,a<k-r->Sp ((Ah k).map ρ) (f (Q a))
 fz:∀i u,i<r->u<i->f i u=0
 fp:∀i,i<r->0<f i i
 fr:∀i j,i<j->j<r->0<=f i j/\f i j<f j j
 fo:∀i u,i<r->r<=u->u<w->f i u=0
 qz:∀a u,a<k-r->u<Q a->f (Q a) u=0
 qp:∀a,a<k-r->0<f (Q a) (Q a)
 qr:∀a b,a<b->b<k-r->0<=f (Q a) (Q b)/\f (Q a) (Q b)<f (Q b) (Q b)
 ir:∀i a,i<r->a<k-r->0<=f i (Q a)/\f i (Q a)<f (Q a) (Q a)
 qd:∀a,a<k-r->(f (Q a) (Q a)).natAbs<=(ρ (r+a) (Q a)).natAbs
 le:∀m,m<=r->pr (tn f m)<=pr (tn ρ m)
 hv:(∃m,m<=r/\2*pr (tn f m)<=pr (tn ρ m))\/∀i,i<r->f i i=ρ i i/\∀j,j<r->j≠i->f i j=0
def Tri.round(T:Tri k r w M g ρ Q)(F:FS N M X B ((Ah k).map ρ) P f):P=pl r k Q/\IK k r w ρ f Q:=by
 have D:((Ah k).map ρ).length=k:=by simp
 have E:P.length=k:=by rw[F.len,D]
 have sp:∀p∈P,Sp ((Ah k).map ρ) (f p):=fun p hp=>(F.fr p hp).sp;have e:=T.places (Ad k) F.ech F.srt sp E;have rk:=T.rk;have i1:∀i,i<r->i∈P:=fun i hi=>by rw[e];exact List.mem_append_left _ (List.mem_range.mpr ω)
 have i2:∀a,a<k-r->Q a∈P:=fun a d=>by rw[e];exact AF _ (List.mem_map.mpr ⟨a,List.mem_range.mpr d,rfl⟩)
 have two:Two (Sp ((Ah k).map ρ)) r ρ f:=by
  refine⟨⟨Sp.zero,fun m hv hw=>hv.sub hw m⟩,fun i hi=>Sp.mem (List.mem_map.mpr ⟨i,List.mem_range.mpr ω,rfl⟩),fun i hi=>T.tp i hi,fun i o h1 h2=>T.tz i o ω h1 (by have:=T.rw;(first|lia|omega)),fun i hi=>sp i (i1 i hi),fun i hi=>F.ech.pos i (i1 i hi),fun i o hi s=>F.ech.z i (i1 i hi) o s,fun v i hv hi hz=>?_⟩;exact kj F.ech F.srt (i1 i hi) (hv.trans F.gen) fun q _ hq=>hz q hq
 have l:∀i j,i<j->j<r->0<=f i j/\f i j<f j j:=fun i j h1 h2=>F.red i (i1 i ω) j (i1 j h2) h1;refine⟨e,fun i hi=>sp i (i1 i hi),fun a d=>sp _ (i2 a d),fun i u hi x=>F.ech.z i (i1 i hi) u x,fun i hi=>F.ech.pos i (i1 i hi),l,fun i u hi h1 h2=>?_,fun a u d x=>F.ech.z _ (i2 a d) u x,fun a d=>F.ech.pos _ (i2 a d),fun a b h1 h2=>F.red _ (i2 a ω) _ (i2 b h2) (T.qs a b h1 h2),fun i a hi d=>F.red i (i1 i hi) _ (i2 a d) (by have:=T.qw a d;have:=T.rw;(first|lia|omega)),fun a d=>?_,fun m A=>Fv two A,vH two l⟩
 ·obtain⟨c,hc,C⟩:=sp i (i1 i hi)
  rw[C];refine zM _ _ fun v hv=>?_;obtain⟨j,y,rfl⟩:=List.mem_map.mp hv;have y:=List.mem_range.mp y
  by_cases h:j<r
  ·exact T.tz j u h ω h2
  ·have:=T.low (a:=j-r) (u:=u) ω h2
   rwa [show r+(j-r)=j from ω] at this
 ·have hd:=kj F.ech F.srt (i2 a d) (F.gen (ρ (r+a)) (List.mem_map.mpr ⟨r+a,List.mem_range.mpr ω,rfl⟩)) fun q _ hq=>T.kz a q d hq
  have:=T.kp a d;exact Nat.le_of_dvd ω (Int.natAbs_dvd_natAbs.mpr hd)
end
def Na{f:Nat->Vc}{P:List Nat}{V:Nat}(h:Ech P f)(G:P.Pairwise (·<·))(C:∀p∈P,∀q∈P,p<q->0<=f p q/\f p q<f q q){l:Vc}(i:Sp (P.map f) l)(hv:∀p∈P,(l p).natAbs<=V*(f p p).natAbs):∀x∈shr f P l,x.natAbs<=V*2 ^ P.length:=by
 have e:=Fh h G i;generalize ha:shr f P l=a at e;have M:a.length=P.length:=by rw[<-ha,Fg]
 have r:∀(P1 P2:List Nat)(a1 a2:List Int)(S:Nat),P=P1++P2->a=a1++a2->a1.length=P1.length->(∀x∈a1,x.natAbs<=S)->(∀p∈P2,(cmb a1 (P1.map f) p).natAbs<=S*(f p p).natAbs)->V+S<=V*2 ^ P1.length->∀x∈a2,x.natAbs<=V*2 ^ P.length:=by
  intro P1 P2
  induction P2 generalizing P1 with
  |nil=>
   intro a1 a2 S b j o _ _ _ x hx;have:a2.length=0:=by have:=congrArg List.length j;have h2:=congrArg List.length b;rw[AN] at this h2;simp at h2;(first|lia|omega)
   rw[AL this] at hx;cases hx
  |cons p P2 ih=>
   intro a1 a2 S b j o H E L x hx;cases a2 with
   |nil=>cases hx
   |cons y a2=>
    have hp:p∈P:=by rw[b];simp
    have g:=G;rw[b,List.pairwise_append,Bi] at g;have app:∀(c d:List Int)(A D:List Vc)(u:Nat),c.length=A.length->cmb (c++d) (A++D) u=cmb c A u+cmb d D u:=by
     intro c
     induction c with
     |nil=>intro d A D u i;rw[AL i.symm];show cmb d D u=0+cmb d D u;(first|lia|omega)
     |cons z c ih=>intro d A D u i;cases A with
      |nil=>simp at i
      |cons s A=>show z*s u+cmb (c++d) (A++D) u=z*s u+cmb c A u+cmb d D u;rw[ih d A D u (by simpa using i)];(first|lia|omega)
    have ep:l p=cmb a1 (P1.map f) p+y*f p p:=by
     rw[e,j,b,At,app _ _ _ _ _ (by rw[Aa,o])];show cmb a1 (P1.map f) p+(y*f p p+cmb a2 (P2.map f) p)=_;rw[zM a2 (P2.map f) fun v hv=>by
      obtain⟨q,hq,rfl⟩:=List.mem_map.mp hv;exact h.z q (by rw[b];simp[hq]) p (g.2.1.1 q hq)]
     (first|lia|omega)
    have F:=h.pos p hp;have hy:y.natAbs<=V+S:=by
     have I:=hv p hp;have J:=E p (.head _);have w:y.natAbs*(f p p).natAbs<=V*(f p p).natAbs+S*(f p p).natAbs:=by rw[<-AJ];(first|lia|omega)
     rw[<-Nat.add_mul] at w;exact Nat.le_of_mul_le_mul_right w ω
    have mono:V*2 ^ P1.length<=V*2 ^ P.length:=Al _ (Aw ξ (by rw[b];simp));rcases List.mem_cons.mp hx with rfl|hx
    ·(first|lia|omega)
    ·refine ih (P1++[p]) (a1++[y]) a2 (V+S+S) (by rw[b];simp) (by rw[j];simp) (by simp[o]) (fun z hz=>?_) (fun q hq=>?_) (by rw[AN,List.length_singleton,Nat.pow_succ,<-AQ];(first|lia|omega)) x hx
     ·rcases List.mem_append.mp hz with hz|hz
      ·have:=H z hz;(first|lia|omega)
      ·rw[List.mem_singleton.mp hz];(first|lia|omega)
     ·rw[At,app _ _ _ _ _ (by rw[Aa,o])]
      have I:=E q (.tail _ hq);have N:=C p hp q (by rw[b];simp[hq]) (g.2.1.1 q hq);have J:(y*f p q).natAbs<=(V+S)*(f q q).natAbs:=by rw[AJ];exact AO hy ω
      have w:=Int.natAbs_add_le (cmb a1 (P1.map f) q) (y*f p q);show(cmb a1 (P1.map f) q+(y*f p q+0)).natAbs<=(V+S+S)*(f q q).natAbs;rw[Int.add_zero,Nat.add_mul (V+S) S];(first|lia|omega)
 exact r [] P [] a 0 rfl rfl rfl (fun x hx=>nomatch hx) (fun p _=>Az _) (by simp)
def glue(m:Nat)(S W:Nat->Vc):Nat->Vc:=fun i u=>if u<m then S i u else W i (u-m)
def zV{m:Nat}{S W:Nat->Vc}{i u:Nat}(h:u<m):glue m S W i u=S i u:=if_pos h
def fg{m:Nat}{S W:Nat->Vc}{i t:Nat}:glue m S W i (m+t)=W i t:=by unfold glue;rw[if_neg ω,Nat.add_sub_cancel_left]
def tl(n:Nat)(W:Nat->Vc):List Vc:=(Ah n).map W
def Fy{m:Nat}:∀(c:List Int)(L:List Vc)(t:Nat),cmb c L (m+t)=cmb c (L.map fun l=>fun t=>l (m+t)) t
 |[],[],_=>rfl
 |[],_::_,_=>rfl
 |_::_,[],_=>rfl
 |a::c,l::L,t=>by show a*l (m+t)+cmb c L (m+t)=a*l (m+t)+_;rw[Fy c L t]
section
variable{n m N M X B:Nat}{S W f:Nat->Vc}{P:List Nat}{Bc:List Vc}
def m7(n:Nat)(sh:Ξ)(Bc:List Vc):List Vc:=(Ah n).map fun j=>fun s=>cmb (sh.map fun row=>row.getD j 0) Bc s
def Cy:(tl n (glue m S W)).map (fun r=>fun t=>r (m+t))=tl n W:=by
 unfold tl;rw[AT];exact Bb fun i _=>funext fun t=>fg
def Db(F:FS N M X B (tl n (glue m S W)) P f)(D:Both n (tl n W) Bc):Both n (P.map fun p=>fun t=>f p (m+t)) (m7 n ((tl n (glue m S W)).map fun r=>shr f P r) Bc):=by
 have o:(tl n (glue m S W)).length=n:=by unfold tl;simp
 have g:P.length=n:=by rw[F.len,o]
 have v:=Dual.next (V:=P.map fun p=>fun t=>f p (m+t)) (sh:=(tl n (glue m S W)).map fun r=>shr f P r) D.a (by rw[Aa,g]) (by rw[Aa,o]) (fun row hr=>by
  obtain⟨r,_,rfl⟩:=List.mem_map.mp hr;rw[Fg,g]) fun i u row t e hr h=>by
   unfold tl at e hr;rw[Aj] at e hr;obtain⟨j,b,rfl⟩:=Option.map_eq_some_iff.mp e;rw[Aj,b] at hr;obtain rfl:=AR hr;have w:glue m S W j∈tl n (glue m S W):=List.mem_map.mpr ⟨j,Ak b,rfl⟩;have:=Fh F.ech F.srt (F.gen _ w) (m+t);rw[fg,Fy,AT] at this;exact this
 refine M6 v fun c hc hz x hx=>?_;have D':Both n ((tl n (glue m S W)).map fun r=>fun t=>r (m+t)) Bc:=by rw[Cy];exact D
 obtain⟨d,hd,l⟩:Sp (tl n (glue m S W)) (cmb c (P.map f)):=Sp.cmb c _ fun s q=>by
  obtain⟨p,hp,rfl⟩:=List.mem_map.mp q;exact(F.fr p hp).sp
 have y:=D'.free hd fun t h=>by
  rw[<-l,Fy,AT];exact hz t h
 exact EU F.ech F.srt c (by rw[hc,g]) (fun p _=>by rw[l];exact mY d _ _ y) x hx
def Nb(F:FS N M X B (tl n (glue m S W)) P f){A:Nat}(a:∀i t,i<n->(W i t).natAbs<=A):∀p∈P,∀t,(f p (m+t)).natAbs<=N*(cC N X B*A):=fun p hp t=>by
 have:=(F.fr p hp).le (u:=m+t) (M:=A) fun r hr=>by
  obtain⟨i,hi,rfl⟩:=List.mem_map.mp hr;rw[fg];exact a i t (List.mem_range.mp hi)
 exact Af this (Am _ F.few)
def Sp.ind{R:List Vc}{v:Vc}(C:Vc->Prop)(d:C fun _=>0)(g:∀(a:Int)(x y:Vc),C x->C y->C fun u=>a*x u+y u)(b:∀r∈R,C r)(h:Sp R v):C v:=by
 obtain⟨c,_,e⟩:=h;have:∀(c:List Int)(R:List Vc),(∀r∈R,C r)->C (Tb.cmb c R):=by
  intro c
  induction c with
  |nil=>intro R _;cases R<;>exact d
  |cons a c ih=>intro R b;cases R with
   |nil=>exact d
   |cons r R=>exact g a r (Tb.cmb c R) (b r (.head _)) (ih R fun s f=>b s (.tail _ f))
 have hv:=this c R b
 rwa [<-funext e] at hv
end
def wg{k:Nat}{a b b':Vc}{x:Int}:dot k a (fun u=>x*b u+b' u)=x*dot k a b+dot k a b':=by
 induction k with
 |zero=>show(0:Int)=x*0+0;(first|lia|omega)
 |succ k ih=>
  show dot k a _+a k*(x*b k+b' k)=x*(dot k a b+a k*b k)+(dot k a b'+a k*b' k);rw[ih,Int.mul_add,Int.mul_add,Int.mul_left_comm];(first|lia|omega)
def aV(k w:Nat)(A:Nat->Vc)(x y:Vc):Int:=dot k x fun s=>dot w (A s) y
def IL{k w:Nat}{A:Nat->Vc}{a:Int}{x x' y:Vc}:aV k w A (fun u=>a*x u+x' u) y=a*aV k w A x y+aV k w A x' y:=by
 unfold aV;have:=vB (k:=k) (a:=x) (a':=x') (b:=fun s=>dot w (A s) y) (x:=a) (y:=1);rw[Int.one_mul] at this;rw[<-this];exact iq fun t _=>ω
def Nc{k w:Nat}{A:Nat->Vc}{a:Int}{x y b:Vc}:aV k w A x (fun u=>a*y u+b u)=a*aV k w A x y+aV k w A x b:=by
 unfold aV;rw[<-wg];exact zF fun s _=>by show dot w (A s) (fun u=>a*y u+b u)=a*dot w (A s) y+dot w (A s) b;exact wg
def IM{k w:Nat}{A:Nat->Vc}{y:Vc}:aV k w A (fun _=>0) y=0:=pQ fun _ _=>rfl
def Nd{k w:Nat}{A:Nat->Vc}{x:Vc}:aV k w A x (fun _=>0)=0:=by
 unfold aV;have:∀k,dot k x (fun s=>dot w (A s) fun _=>0)=0:=by
  intro k
  induction k with
  |zero=>rfl
  |succ k ih=>
   have z:dot w (A k) (fun _=>0)=0:=by
    have:∀w,dot w (A k) (fun _=>0)=0:=by intro w;induction w with|zero=>rfl|succ w ih=>show dot w (A k) _+A k w*0=0;rw[ih];(first|lia|omega)
    exact this w
   show dot k x _+x k*dot w (A k) (fun _=>0)=0;rw[ih,z];(first|lia|omega)
 exact this k
def IN{k w N M X B:Nat}{A T U V f:Nat->Vc}{P:List Nat}(F:FS N M X B (tl k (glue w (fun i u=>T u i) U)) P f)(c:∀u i,u<w->i<k->T u i=aV k w A (U i) (V u)):∀p∈P,∀u,u<w->f p u=aV k w A (fun t=>f p (w+t)) (V u):=fun p hp u b=>by
 refine Sp.ind (C:=fun v=>v u=aV k w A (fun t=>v (w+t)) (V u)) IM.symm (fun a x y hx hy=>?_) (fun r hr=>?_) (F.fr p hp).sp
 ·show a*x u+y u=aV k w A (fun t=>a*x (w+t)+y (w+t)) (V u)
  rw[IL,<-hx,<-hy]
 ·obtain⟨i,hi,rfl⟩:=List.mem_map.mp hr
  show glue w (fun i u=>T u i) U i u=aV k w A (fun t=>glue w (fun i u=>T u i) U i (w+t)) (V u);rw[zV b,show(fun t=>glue w (fun i u=>T u i) U i (w+t))=U i from funext fun t=>fg];exact c u i b (List.mem_range.mp hi)
def IP{k w N M X B:Nat}{A T U V f:Nat->Vc}{P:List Nat}(F:FS N M X B (tl w (glue k (fun u i=>T i u) V)) P f)(c:∀i u,i<k->u<w->T i u=aV k w A (U i) (V u)):∀p∈P,∀i,i<k->f p i=aV k w A (U i) (fun t=>f p (k+t)):=fun p hp i hi=>by
 refine Sp.ind (C:=fun v=>v i=aV k w A (U i) (fun t=>v (k+t))) Nd.symm (fun a x y hx hy=>?_) (fun r hr=>?_) (F.fr p hp).sp
 ·show a*x i+y i=aV k w A (U i) (fun t=>a*x (k+t)+y (k+t))
  rw[Nc,<-hx,<-hy]
 ·obtain⟨u,b,rfl⟩:=List.mem_map.mp hr
  show glue k (fun u i=>T i u) V u i=aV k w A (U i) (fun t=>glue k (fun u i=>T i u) V u (k+t));rw[zV hi,show(fun t=>glue k (fun u i=>T i u) V u (k+t))=V u from funext fun t=>fg];exact c i u hi (List.mem_range.mp b)
structure Ker(n r g b:Nat)(W:Nat->Vc)(Q:Nat->Nat):Prop where
 qs:∀a c,a<c->c<n-r->Q a<Q c
 kz:∀a u,a<n-r->u<Q a->W (r+a) u=0
 kp:∀a,a<n-r->0<W (r+a) (Q a)
 kq:∀a c,a<c->c<n-r->0<=W (r+a) (Q c)/\W (r+a) (Q c)<W (r+c) (Q c)
 tq:∀i a,i<r->a<n-r->(W i (Q a)).natAbs<=g*(W (r+a) (Q a)).natAbs
 km:∀a,a<n-r->(W (r+a) (Q a)).natAbs<=b
structure Fz(n r m:Nat)(S:Nat->Vc):Prop where
 tp:∀i,i<r->0<S i i
 tz:∀i j,i<r->i<j->j<m->S i j=0
 tl:∀i j,i<r->j<i->(S i j).natAbs<=(S i i).natAbs
 z:∀i u,r<=i->i<n->u<m->S i u=0
section
variable{n r m g b M:Nat}{S W:Nat->Vc}{Q:Nat->Nat}
def IQ(l:r<=n)(o:r<=m)(hg:1<=g)(H:Fz n r m S)(K:Ker n r g b W Q)(hb:g*b<=M)(p:∀i,i<r->(S i i).natAbs<=M):Tri n r m M g (glue m S W) (fun a=>m+Q a):=by
 refine⟨hg,l,o,fun a c h1 h2=>by have:=K.qs a c h1 h2;show m+Q a<m+Q c;(first|lia|omega),fun a _=>AY _ _,fun i hi=>by rw[zV ω];exact H.tp i hi,fun i j hi h1 h2=>by rw[zV h2];exact H.tz i j hi h1 h2,fun i j hi e=>by rw[zV ω,zV ω];exact H.tl i j hi e,fun i a hi d=>by rw[fg,fg];exact K.tq i a hi d,fun a u d f=>?_,fun a d=>by rw[fg];exact K.kp a d,fun a c h1 h2=>by rw[fg,fg];exact K.kq a c h1 h2,fun i hi=>by rw[zV ω];exact p i hi,fun a d=>by rw[fg];exact Af (Al _ (K.km a d)) hb⟩
 by_cases h:u<m
 ·rw[zV h];exact H.z (r+a) u ω ω h
 ·rw[show u=m+(u-m) from ω,fg]
  exact K.kz a _ d (by have:u<m+Q a:=f;(first|lia|omega))
end
def pls(r m:Nat)(Q:Nat->Nat)(i:Nat):Nat:=if i<r then i else m+Q (i-r)
def iv{r m:Nat}{Q:Nat->Nat}{i:Nat}(h:i<r):pls r m Q i=i:=if_pos h
def kG{r m:Nat}{Q:Nat->Nat}{a:Nat}:pls r m Q (r+a)=m+Q a:=by unfold pls;rw[if_neg ω,Nat.add_sub_cancel_left]
def FA{r m n:Nat}{Q:Nat->Nat}(h:r<=n):pl r n (fun a=>m+Q a)=(Ah n).map (pls r m Q):=by
 unfold pl;rw[Nat.min_eq_right h];apply AU
 ·simp;(first|lia|omega)
 ·intro i h1 h2
  rw[AW,Ba]
  by_cases hi:i<r
  ·rw[List.getElem_append_left (by simpa using hi),Ba,iv hi]
  ·rw[List.getElem_append_right (by simp;(first|lia|omega)),AW,Ba,A9]
   unfold pls;rw[if_neg hi]
section
variable{n r m g b M N X B:Nat}{S W f:Nat->Vc}{Q:Nat->Nat}{P:List Nat}
def IR(p:r<=n)(q:r<=m)(K:Ker n r g b W Q)(R:IK n r m (glue m S W) f (fun a=>m+Q a)):Ker n r 1 b (fun i t=>f (pls r m Q i) (m+t)) Q/\(∀i,i<r->0<f (pls r m Q i) i)/\(∀i j,i<r->j<i->f (pls r m Q i) j=0)/\(∀i j,i<j->j<r->0<=f (pls r m Q i) j/\f (pls r m Q i) j<f (pls r m Q j) j)/\(∀i u,i<n->u<m->(r<=i\/r<=u)->f (pls r m Q i) u=0):=by
 refine⟨⟨K.qs,fun a u d l=>?_,fun a d=>?_,fun a c h1 h2=>?_,fun i a hi d=>?_,fun a d=>?_⟩,fun i hi=>?_,fun i j hi o=>?_,fun i j h1 h2=>?_,fun i u hi l h=>?_⟩
 ·show f (pls r m Q (r+a)) (m+u)=0
  rw[kG];exact R.qz a (m+u) d (by show m+u<m+Q a;(first|lia|omega))
 ·show 0<f (pls r m Q (r+a)) (m+Q a)
  rw[kG];exact R.qp a d
 ·show 0<=f (pls r m Q (r+a)) (m+Q c)/\f (pls r m Q (r+a)) (m+Q c)<f (pls r m Q (r+c)) (m+Q c)
  rw[kG,kG];exact R.qr a c h1 h2
 ·show(f (pls r m Q i) (m+Q a)).natAbs<=1*(f (pls r m Q (r+a)) (m+Q a)).natAbs
  rw[iv hi,kG];have:=R.ir i a hi d;have this:0<=f i (m+Q a)/\f i (m+Q a)<f (m+Q a) (m+Q a):=this;(first|lia|omega)
 ·show(f (pls r m Q (r+a)) (m+Q a)).natAbs<=b
  rw[kG];have h1:=R.qd a d;have h1:(f (m+Q a) (m+Q a)).natAbs<=(glue m S W (r+a) (m+Q a)).natAbs:=h1;rw[fg] at h1;exact Af h1 (K.km a d)
 ·rw[iv hi];exact R.fp i hi
 ·rw[iv hi];exact R.fz i j hi o
 ·rw[iv (show i<r from ω),iv h2];exact R.fr i j h1 h2
 ·by_cases e:i<r
  ·rw[iv e];exact R.fo i u e ω l
  ·rw[show i=r+(i-r) from ω,kG]
   exact R.qz (i-r) u ω (by show u<m+Q (i-r);(first|lia|omega))
end
def iW{g g':Nat->Vc}{k:Nat}(h:∀i,i<k->g i i=g' i i):tn g k=tn g' k:=by
 unfold tn;exact Bb fun i hi=>by rw[h i (List.mem_range.mp hi)]
structure LI(A:Nat->Vc)(k w r D bU bV g:Nat)(T U V:Nat->Vc)(Bn Bf:List Vc)(QU QV:Nat->Nat):Prop where
 rk:r<=k
 rw:r<=w
 g1:1<=g
 bl:∀u i,u<w->i<k->T u i=aV k w A (U i) (V u)
 bu:Both k (tl k U) Bn
 bv:Both w (tl w V) Bf
 ku:Ker k r g bU U QU
 kv:Ker w r 1 bV V QV
 tp:∀u,u<r->0<T u u
 tz:∀u i,u<r->i<u->T u i=0
 tr:∀u i,u<i->i<r->0<=T u i/\T u i<T i i
 to:∀u i,u<w->i<k->(r<=u\/r<=i)->T u i=0
 pd:∀m,m<=r->pr (tn T m)<=D
structure LM(A:Nat->Vc)(k w r D bU bV g:Nat)(S U V:Nat->Vc)(Bn Bf:List Vc)(QU QV:Nat->Nat):Prop where
 rk:r<=k
 rw:r<=w
 g1:1<=g
 bl:∀i u,i<k->u<w->S i u=aV k w A (U i) (V u)
 bu:Both k (tl k U) Bn
 bv:Both w (tl w V) Bf
 ku:Ker k r g bU U QU
 kv:Ker w r 1 bV V QV
 sl:Fz w r k (fun u i=>S i u)
 pd:∀m,m<=r->pr (tn S m)<=D
section
variable{A T U V S f:Nat->Vc}{k w r D bU bV g M N X B:Nat}{Bn Bf:List Vc}{QU QV:Nat->Nat}{P:List Nat}
def LI.slp(I:LI A k w r D bU bV g T U V Bn Bf QU QV):Fz k r w (fun i u=>T u i):=
 ⟨I.tp,fun i j hi h1 h2=>by
  by_cases h:j<r
  ·exact I.tz j i h h1
  ·exact I.to j i h2 (by have:=I.rk;(first|lia|omega)) (.inl ω),fun i j hi a=>by have:=I.tr j i a hi;show(T j i).natAbs<=(T i i).natAbs;(first|lia|omega),fun i u h1 h2 b=>I.to u i b h2 (.inr h1)⟩
def LI.diag_le(I:LI A k w r D bU bV g T U V Bn Bf QU QV){i:Nat}(hi:i<r):(T i i).natAbs<=D:=by
 have h1:=Fx (g:=T) (k:=i) fun j a=>I.tp j ω;have h2:=I.pd (i+1) ω;have b:=I.tp i hi;(first|lia|omega)
def LI.near_tri(I:LI A k w r D bU bV g T U V Bn Bf QU QV)(b:g*bU<=M)(c:D<=M):Tri k r w M g (glue w (fun i u=>T u i) U) (fun a=>w+QU a):=
 IQ I.rk I.rw I.g1 I.slp I.ku b fun i hi=>Af (I.diag_le hi) c
def FB(I:LI A k w r D bU bV g T U V Bn Bf QU QV){m:Nat}(a:m<=r):tn (glue w (fun i u=>T u i) U) m=tn T m:=iW fun i hi=>by rw[zV (by have:=I.rw;(first|lia|omega))]
def LI.near_done(I:LI A k w r D bU bV g T U V Bn Bf QU QV)(Tr:Tri k r w M g (glue w (fun i u=>T u i) U) (fun a=>w+QU a))(F:FS N M X B (tl k (glue w (fun i u=>T u i) U)) P f):P=(Ah k).map (pls r w QU)/\LM A k w r D bU bV 1 (fun i=>f (pls r w QU i)) (fun i t=>f (pls r w QU i) (w+t)) V (m7 k ((tl k (glue w (fun i u=>T u i) U)).map fun r=>shr f P r) Bn) Bf QU QV/\ (∀m,m<=r->pr (tn (fun i=>f (pls r w QU i)) m)<=pr (tn T m))/\((∃m,m<=r/\2*pr (tn (fun i=>f (pls r w QU i)) m)<=pr (tn T m))\/∀i,i<r->f (pls r w QU i) i=T i i/\∀j,j<r->j≠i->f (pls r w QU i) j=0):=by
 obtain⟨d,R⟩:=Tr.round F;rw[FA I.rk] at d;obtain⟨s,n1,n2,v,l⟩:=IR I.rk I.rw I.ku R;have o:∀m,m<=r->tn (fun i=>f (pls r w QU i)) m=tn f m:=fun m b=>iW fun i hi=>by show f (pls r w QU i) i=f i i;rw[iv ω]
 have le:∀m,m<=r->pr (tn (fun i=>f (pls r w QU i)) m)<=pr (tn T m):=fun m b=>by rw[o m b,<-FB I b];exact R.le m b
 refine⟨d,⟨I.rk,I.rw,Ad 1,fun i u hi c=>?_,?_,I.bv,s,I.kv,⟨n1,fun u i c h1 h2=>?_,fun u i c hi=>?_,fun u i h1 h2 q=>?_⟩,fun m b=>Af (le m b) (I.pd m b)⟩,le,?_⟩
 ·exact IN F I.bl _ (by rw[d];exact List.mem_map.mpr ⟨i,List.mem_range.mpr hi,rfl⟩) u c
 ·have:=Db F I.bu
  have e:(P.map fun p=>fun t=>f p (w+t))=tl k (fun i t=>f (pls r w QU i) (w+t)):=by rw[d,AT];rfl
  rw[e] at this;exact this
 ·show f (pls r w QU i) u=0
  by_cases h:i<r
  ·exact n2 i u h h1
  ·exact l i u h2 (by have:=I.rw;(first|lia|omega)) (.inl ω)
 ·show(f (pls r w QU i) u).natAbs<=(f (pls r w QU u) u).natAbs
  have:=v i u hi c;(first|lia|omega)
 ·exact l i u q h2 (.inr h1)
 ·rcases R.hv with ⟨m,b,h⟩|h
  ·exact .inl ⟨m,b,by rw[o m b,<-FB I b];exact h⟩
  ·refine .inr fun i hi=>?_
   obtain⟨h1,h2⟩:=h i hi;rw[zV (by have:=I.rw;(first|lia|omega))] at h1;rw[iv hi];exact⟨h1,h2⟩
def LM.diag_le(I:LM A k w r D bU bV g S U V Bn Bf QU QV){i:Nat}(hi:i<r):(S i i).natAbs<=D:=by
 have h1:=Fx (g:=S) (k:=i) fun j b=>I.sl.tp j ω;have h2:=I.pd (i+1) ω;have a:=I.sl.tp i hi;have a:0<S i i:=a;(first|lia|omega)
def LM.far_tri(I:LM A k w r D bU bV g S U V Bn Bf QU QV)(c:bV<=M)(b:D<=M):Tri w r k M 1 (glue k (fun u i=>S i u) V) (fun a=>k+QV a):=
 IQ I.rw I.rk (Ad 1) I.sl I.kv ω fun i hi=>Af (I.diag_le hi) b
def LM.far_done(I:LM A k w r D bU bV g S U V Bn Bf QU QV)(Tr:Tri w r k M 1 (glue k (fun u i=>S i u) V) (fun a=>k+QV a))(F:FS N M X B (tl w (glue k (fun u i=>S i u) V)) P f):P=(Ah w).map (pls r k QV)/\LI A k w r D bU bV g (fun u=>f (pls r k QV u)) U (fun u t=>f (pls r k QV u) (k+t)) Bn (m7 w ((tl w (glue k (fun u i=>S i u) V)).map fun r=>shr f P r) Bf) QU QV/\ (∀m,m<=r->pr (tn (fun u=>f (pls r k QV u)) m)<=pr (tn S m))/\((∃m,m<=r/\2*pr (tn (fun u=>f (pls r k QV u)) m)<=pr (tn S m))\/∀i,i<r->f (pls r k QV i) i=S i i/\∀j,j<r->j≠i->f (pls r k QV i) j=0):=by
 obtain⟨c,R⟩:=Tr.round F;rw[FA I.rw] at c;obtain⟨q,n1,n2,s,v⟩:=IR I.rw I.rk I.kv R;have d:∀m,m<=r->tn (glue k (fun u i=>S i u) V) m=tn S m:=fun m b=>iW fun i hi=>by rw[zV (by have:=I.rk;(first|lia|omega))]
 have l:∀m,m<=r->tn (fun u=>f (pls r k QV u)) m=tn f m:=fun m b=>iW fun i hi=>by show f (pls r k QV i) i=f i i;rw[iv ω]
 have le:∀m,m<=r->pr (tn (fun u=>f (pls r k QV u)) m)<=pr (tn S m):=fun m b=>by rw[l m b,<-d m b];exact R.le m b
 refine⟨c,⟨I.rk,I.rw,I.g1,fun u i o hi=>?_,I.bu,?_,I.ku,q,n1,n2,s,v,fun m b=>Af (le m b) (I.pd m b)⟩,le,?_⟩
 ·exact IP F I.bl _ (by rw[c];exact List.mem_map.mpr ⟨u,List.mem_range.mpr o,rfl⟩) i hi
 ·have:=Db F I.bv
  have e:(P.map fun p=>fun t=>f p (k+t))=tl w (fun u t=>f (pls r k QV u) (k+t)):=by rw[c,AT];rfl
  rw[e] at this;exact this
 ·rcases R.hv with ⟨m,b,h⟩|h
  ·exact .inl ⟨m,b,by rw[l m b,<-d m b];exact h⟩
  ·refine .inr fun i hi=>?_
   obtain⟨h1,h2⟩:=h i hi;rw[zV (by have:=I.rk;(first|lia|omega))] at h1;rw[iv hi];exact⟨h1,h2⟩
end
def IS{U:Nat->Vc}{c:Vc}{i j t:Nat}(ne:i≠j):∀k,sm (put U i fun t=>U i t+U j t) (fun a=>if a=j then c j-c i else c a) k t=sm U c k t+(if i<k then c i*U j t else 0)-(if j<k then c i*U j t else 0)
 |0=>by show(0:Int)=0+(if i<0 then _ else 0)-(if j<0 then _ else 0);rw[if_neg ω,if_neg ω];rfl
 |k+1=>by
  show sm _ _ k t+(if k=j then c j-c i else c k)*put U i (fun t=>U i t+U j t) k t=sm U c k t+c k*U k t+_-_;rw[IS ne k]
  by_cases e1:k=i
  ·subst e1
   rw[if_neg (show ¬k<k from ω),if_neg ne,zO,if_pos (show k<k+1 from ω),Int.mul_add]
   by_cases h:j<k
   ·rw[if_pos h,if_pos (show j<k+1 from ω)];(first|lia|omega)
   ·rw[if_neg h,if_neg (show ¬j<k+1 from ω)];(first|lia|omega)
  ·rw[dH e1]
   by_cases e2:k=j
   ·subst e2
    rw[if_pos rfl,if_neg (show ¬k<k from ω),if_pos (show k<k+1 from ω),Int.sub_mul]
    by_cases h:i<k
    ·rw[if_pos h,if_pos (show i<k+1 from ω)];(first|lia|omega)
    ·rw[if_neg h,if_neg (show ¬i<k+1 from ω)];(first|lia|omega)
   ·rw[if_neg e2]
    have a1:(if i<k then c i*U j t else 0)=(if i<k+1 then c i*U j t else 0):=by
     by_cases h:i<k
     ·rw[if_pos h,if_pos ω]
     ·rw[if_neg h,if_neg ω]
    have a2:(if j<k then c i*U j t else 0)=(if j<k+1 then c i*U j t else 0):=by
     by_cases h:j<k
     ·rw[if_pos h,if_pos ω]
     ·rw[if_neg h,if_neg ω]
    rw[a1,a2];(first|lia|omega)
def Dc{n i:Nat}{W:Nat->Vc}(h:i<n):(tl n W)[i]?=some (W i):=by unfold tl;rw[Aj,AM h];rfl
def i0{n:Nat}{W:Nat->Vc}:(tl n W).length=n:=by unfold tl;simp
def Dd{k:Nat}{U C:Nat->Vc}:Both k (tl k U) (tl k C)↔(∀s t,s<k->t<k->sm U (fun a=>C a s) k t=dl s t)/\∀i j,i<k->j<k->dot k (U i) (C j)=dl i j:=by
 have e:∀s t,cmb ((tl k C).map fun b=>b s) (tl k U) t=sm U (fun a=>C a s) k t:=fun s t=>by
  have:=Da (ρ:=U) (c:=fun a=>C a s) t k;rw[<-this];unfold tl lst;rw[AT];rfl
 constructor
 ·intro D
  exact⟨fun s t g h=>by rw[<-e];exact D.a.d s t g h,fun i j hi f=>D.b i j _ _ (Dc hi) (Dc f)⟩
 ·rintro⟨h1,h2⟩
  refine⟨⟨i0,i0,fun s t g h=>by rw[e];exact h1 s t g h⟩,fun i j u c l hc=>?_⟩;have hi:i<k:=by have:=(List.getElem?_eq_some_iff.mp l).1;rwa [i0] at this
  have f:j<k:=by have:=(List.getElem?_eq_some_iff.mp hc).1;rwa [i0] at this
  rw[Dc hi] at l;rw[Dc f] at hc;cases l;cases hc;exact h2 i j hi f
def Both.add{k:Nat}{U C:Nat->Vc}(D:Both k (tl k U) (tl k C)){i j:Nat}(hi:i<k)(p:j<k)(ne:i≠j):Both k (tl k (put U i fun t=>U i t+U j t)) (tl k (put C j fun s=>C j s-C i s)):=by
 rw[Dd] at D ⊢;obtain⟨h1,h2⟩:=D;refine⟨fun s t q r=>?_,fun a b d hb=>?_⟩
 ·have e:(fun a=>put C j (fun s=>C j s-C i s) a s)=fun a=>if a=j then C j s-C i s else C a s:=funext fun a=>by
   unfold put
   by_cases h:a=j
   ·rw[if_pos h,if_pos h]
   ·rw[if_neg h,if_neg h]
  rw[e];have:=IS (U:=U) (c:=fun a=>C a s) (t:=t) ne k;rw[this,if_pos hi,if_pos p,h1 s t q r];(first|lia|omega)
 ·-- by eS two rows
  have l:∀{x:Vc},dot k (fun t=>U i t+U j t) x=dot k (U i) x+dot k (U j) x:=fun{x}=>by
   have:=vB (k:=k) (a:=U i) (a':=U j) (b:=x) (x:=1) (y:=1);rw[Int.one_mul,Int.one_mul] at this;rw[<-this];exact iq fun t _=>ω
  have f:∀{x:Vc},dot k x (fun s=>C j s-C i s)=dot k x (C j)-dot k x (C i):=fun{x}=>by
   have:=wg (k:=k) (a:=x) (b:=C i) (b':=C j) (x:=-1);rw[show dot k x (C j)-dot k x (C i)=-1*dot k x (C i)+dot k x (C j) from ω,<-this];exact zF fun t _=>ω
  by_cases o:a=i
  ·subst o
   rw[zO]
   by_cases g:b=j
   ·subst g
    rw[zO,l,f,f,h2 a b d hb,h2 a a d d,h2 b b hb hb,h2 b a hb d];unfold dl;rw[if_neg ne,if_pos rfl,if_pos rfl,if_neg (Ne.symm ne)];(first|lia|omega)
   ·rw[dH g,l,h2 a b d hb,h2 j b p hb]
    unfold dl;rw[if_neg (show ¬j=b from fun z=>g z.symm)];(first|lia|omega)
  ·rw[dH o]
   by_cases g:b=j
   ·subst g
    rw[zO,f,h2 a b d hb,h2 a i d hi];unfold dl;rw[if_neg o];(first|lia|omega)
   ·rw[dH g,h2 a b d hb]
def Nf{A S U V f:Nat->Vc}{k w r D bU bV g M N X B:Nat}{Bn Bf:List Vc}{QU QV:Nat->Nat}{P:List Nat}(I:LM A k w r D bU bV g S U V Bn Bf QU QV)(Tr:Tri w r k M 1 (glue k (fun u i=>S i u) V) (fun a=>k+QV a))(F:FS N M X B (tl w (glue k (fun u i=>S i u) V)) P f)(h:∀i,i<r->f (pls r k QV i) i=S i i/\∀j,j<r->j≠i->f (pls r k QV i) j=0){i u:Nat}(hi:i<r)(o:u<r):S i i ∣ S i u:=by
 obtain⟨d,R⟩:=Tr.round F;have l:glue k (fun u i=>S i u) V u∈tl w (glue k (fun u i=>S i u) V):=List.mem_map.mpr ⟨u,List.mem_range.mpr (by have:=I.rw;(first|lia|omega)),rfl⟩;have sp:=F.gen _ l;have e:glue k (fun u i=>S i u) V u i=S i u:=zV (by have:=I.rk;(first|lia|omega));rw[<-e];refine Sp.ind (C:=fun v=>S i i ∣ v i) (Int.dvd_zero _) (fun a x y hx hy=>Int.dvd_add (Int.dvd_trans hx (Int.dvd_mul_left a _)) hy) (fun v hv=>?_) sp;obtain⟨p,hp,rfl⟩:=List.mem_map.mp hv;rw[d,FA I.rw] at hp;obtain⟨j,c,rfl⟩:=List.mem_map.mp hp;have c:=List.mem_range.mp c
 by_cases b:j<r
 ·by_cases e2:i=j
  ·subst e2;rw[(h i hi).1];exact Int.dvd_refl _
  ·rw[(h j b).2 i hi e2];exact Int.dvd_zero _
 ·rw[show j=r+(j-r) from ω,kG]
  rw[R.qz (j-r) i ω (by show i<k+QV (j-r);have:=I.rk;(first|lia|omega))];exact Int.dvd_zero _
def cb(U:Nat->Vc)(r:Nat):Nat->Nat->Vc
 |0=>U
 |n+1=>put (cb U r n) (r-2-n) fun t=>cb U r n (r-2-n) t+cb U r n (r-1-n) t
def gJ(C:Nat->Vc)(r:Nat):Nat->Nat->Vc
 |0=>C
 |n+1=>put (gJ C r n) (r-1-n) fun s=>gJ C r n (r-1-n) s-gJ C r n (r-2-n) s
def ss(U:Nat->Vc)(r:Nat):Nat->Nat->Vc
 |0,_=>fun _=>0
 |n+1,i=>fun t=>U i t+ss U r n (i+1) t
section
variable{U C:Nat->Vc}{r k:Nat}
def FC:∀(n:Nat),n+1<=r->∀i,cb U r n i=if r-1-n<=i/\i<r then ss U r (r-i) i else U i
 |0,h,i=>by
  show U i=_
  by_cases e:i=r-1
  ·rw[if_pos ω,show r-i=1 from ω]
   exact funext fun t=>by show U i t=U i t+0;(first|lia|omega)
  ·rw[if_neg ω]
 |n+1,h,i=>by
  have a:=FC n ω;show put (cb U r n) (r-2-n) (fun t=>cb U r n (r-2-n) t+cb U r n (r-1-n) t) i=_
  by_cases e:i=r-2-n
  ·rw[e,zO,if_pos ω,a (r-2-n),a (r-1-n),if_neg ω,if_pos ω]
   have e1:r-(r-2-n)=n+1+1:=ω
   have e2:r-(r-1-n)=n+1:=ω
   rw[e1,e2];exact funext fun t=>by
    show U (r-2-n) t+ss U r (n+1) (r-1-n) t=U (r-2-n) t+ss U r (n+1) (r-2-n+1) t;rw[show r-2-n+1=r-1-n from ω]
  ·rw[dH e,a i]
   by_cases h2:r-1-n<=i/\i<r
   ·rw[if_pos h2,if_pos ω]
   ·rw[if_neg h2,if_neg ω]
def jz(h:1<=r)(i:Nat):cb U r (r-1) i=if i<r then ss U r (r-i) i else U i:=by
 rw[FC (r-1) ω i]
 by_cases e:i<r
 ·rw[if_pos ω,if_pos e]
 ·rw[if_neg ω,if_neg e]
def IT(hr:r<=k)(D:Both k (tl k U) (tl k C)):∀n,n+1<=r->Both k (tl k (cb U r n)) (tl k (gJ C r n))
 |0,_=>D
 |n+1,h=>(IT hr D n ω).add (i:=r-2-n) (j:=r-1-n) ω ω ω
def FE{u K:Nat}:∀(n i:Nat),(∀j,i<=j->j<i+n->(U j u).natAbs<=K)->(ss U r n i u).natAbs<=n*K
 |0,_,_=>Az _
 |n+1,i,h=>by
  have h1:=FE (u:=u) n (i+1) fun j h1 h2=>h j ω ω;have h2:=h i (Ad _) ω;have a:=Int.natAbs_add_le (U i u) (ss U r n (i+1) u);show(U i u+ss U r n (i+1) u).natAbs<=(n+1)*K;rw[Nat.add_mul];(first|lia|omega)
def IU{w:Nat}{A:Nat->Vc}{y:Vc}:∀(n i:Nat),aV k w A (ss U r n i) y=ss (fun i _=>aV k w A (U i) y) r n i 0
 |0,_=>IM
 |n+1,i=>by
  show aV k w A (fun t=>U i t+ss U r n (i+1) t) y=aV k w A (U i) y+ss (fun i _=>aV k w A (U i) y) r n (i+1) 0;rw[<-IU n (i+1)];have:=IL (k:=k) (w:=w) (A:=A) (a:=1) (x:=U i) (x':=ss U r n (i+1)) (y:=y);rw[Int.one_mul] at this;rw[<-this]
  congr 1
  exact funext fun t=>ω
def FF{c:Nat->Int}{u:Nat}:∀(n i:Nat),(∀j,i<=j->j<i+n->j≠u->c j=0)->ss (fun i _=>c i) r n i 0=if i<=u/\u<i+n then c u else 0
 |0,i,_=>by show(0:Int)=_;rw[if_neg ω]
 |n+1,i,h=>by
  show c i+ss (fun i _=>c i) r n (i+1) 0=_;rw[FF n (i+1) fun j h1 h2 a=>h j ω ω a]
  by_cases e:i=u
  ·subst e;rw[if_neg ω,if_pos ω];(first|lia|omega)
  ·rw[h i (Ad _) ω e]
   by_cases h2:i+1<=u/\u<i+1+n
   ·rw[if_pos h2,if_pos ω];(first|lia|omega)
   ·rw[if_neg h2,if_neg ω];(first|lia|omega)
end
section
variable{A T U V:Nat->Vc}{k w r D bU bV g:Nat}{Bn Bf:List Vc}{QU QV:Nat->Nat}{C:Nat->Vc}
def LI.slid(I:LI A k w r D bU bV g T U V (tl k C) Bf QU QV)(hr:1<=r)(hd:∀u i,u<r->i<r->u≠i->T u i=0):LM A k w r D bU bV (r*g) (fun i u=>aV k w A (cb U r (r-1) i) (V u)) (cb U r (r-1)) V (tl k (gJ C r (r-1))) Bf QU QV/\∀i u,i<k->u<w->aV k w A (cb U r (r-1) i) (V u)=if i<=u/\u<r then T u u else 0:=by
 have rk:=I.rk;have q:=I.rw;have val:∀i u,i<k->u<w->aV k w A (cb U r (r-1) i) (V u)=if i<=u/\u<r then T u u else 0:=fun i u hi b=>by
  rw[jz hr]
  by_cases h:i<r
  ·rw[if_pos h,IU]
   have e:ss (fun i _=>aV k w A (U i) (V u)) r (r-i) i 0=ss (fun i _=>if i<k then T u i else aV k w A (U i) (V u)) r (r-i) i 0:=by
    congr 1
    exact funext fun j=>funext fun _=>by
     by_cases l:j<k
     ·rw[if_pos l,I.bl u j b l]
     ·rw[if_neg l]
   rw[e,FF (u:=u) (r-i) i fun j h1 h2 f=>by
    rw[if_pos ω]
    by_cases o:u<r
    ·exact hd u j o ω (Ne.symm f)
    ·exact I.to u j b ω (.inl ω)]
   by_cases h2:i<=u/\u<r
   ·rw[if_pos ω,if_pos h2,if_pos ω]
   ·rw[if_neg ω,if_neg h2]
  ·rw[if_neg h,if_neg ω,<-I.bl u i b hi]
   exact I.to u i b hi (.inr ω)
 have dg:∀i,i<r->aV k w A (cb U r (r-1) i) (V i)=T i i:=fun i hi=>by rw[val i i ω ω,if_pos ⟨Ad _,hi⟩]
 refine⟨⟨rk,q,Nat.mul_pos hr I.g1,fun i u _ _=>rfl,IT rk I.bu (r-1) ω,I.bv,⟨I.ku.qs,fun a u d b=>?_,fun a d=>?_,fun a c h1 h2=>?_,fun i a hi d=>?_,fun a d=>?_⟩,I.kv,⟨fun u b=>?_,fun u i b h1 h2=>?_,fun u i b hi=>?_,fun u i h1 h2 f=>?_⟩,fun m p=>?_⟩,val⟩
 ·rw[jz hr,if_neg ω];exact I.ku.kz a u d b
 ·rw[jz hr,if_neg ω];exact I.ku.kp a d
 ·rw[jz hr,jz hr,if_neg ω,if_neg ω];exact I.ku.kq a c h1 h2
 ·rw[jz hr,jz hr,if_pos hi,if_neg ω]
  have:=FE (U:=U) (r:=r) (u:=QU a) (K:=g*(U (r+a) (QU a)).natAbs) (r-i) i fun j h1 h2=>I.ku.tq j a ω d;refine Af this ?_;rw[AQ];exact Am _ ω
 ·rw[jz hr,if_neg ω];exact I.ku.km a d
 ·show 0<aV k w A (cb U r (r-1) u) (V u)
  rw[dg u b];exact I.tp u b
 ·show aV k w A (cb U r (r-1) i) (V u)=0
  rw[val i u h2 ω,if_neg ω]
 ·show(aV k w A (cb U r (r-1) i) (V u)).natAbs<=(aV k w A (cb U r (r-1) u) (V u)).natAbs
  rw[dg u b,val i u ω ω,if_pos ω];exact Ad _
 ·show aV k w A (cb U r (r-1) i) (V u)=0
  rw[val i u f h2,if_neg ω]
 ·have e:tn (fun i u=>aV k w A (cb U r (r-1) i) (V u)) m=tn T m:=iW fun i hi=>dg i ω
  rw[e];exact I.pd m p
end
def IV{f:Nat->Vc}:∀{P:List Nat}{v:Vc}{p:Nat},Ech P f->P.Pairwise (·<·)->Sp (P.map f) v->(∀u,u<p->v u=0)->v p≠0->p∈P
 |[],v,p,_,_,⟨c,hc,e⟩,_,hp=>by
  refine absurd ?_ hp;rw[e];cases c<;>rfl
 |q::P,v,p,h,hs,⟨c,hc,e⟩,hz,hp=>by
  cases c with
  |nil=>simp at hc
  |cons a c=>
   rw[Bi] at hs;have eq:v q=a*f q q:=by
    rw[e];show a*f q q+cmb c (P.map f) q=a*f q q;rw[zM c (P.map f) fun v hv=>by
     obtain⟨r,hr,rfl⟩:=List.mem_map.mp hv;exact h.z r (.tail _ hr) q (hs.1 r hr)]
    (first|lia|omega)
   have b:=h.pos q (.head _)
   by_cases d:a=0
   ·refine .tail _ (IV (v:=v) (h.sub fun r hr=>.tail _ hr) hs.2 ⟨c,by simpa using hc,fun u=>?_⟩ hz hp)
    rw[e];show a*f q u+cmb c (P.map f) u=_;rw[d];(first|lia|omega)
   ·have hq:v q≠0:=by rw[eq];exact Int.mul_ne_zero d ω
    have h1:p<=q:=by
     rcases Bs q p with g|g
     ·exact absurd (hz q g) hq
     ·exact g
    have h2:q<=p:=by
     rcases Bs p q with g|g
     ·refine absurd ?_ hp
      rw[e];refine zM _ _ fun x hx=>?_;obtain⟨r,hr,rfl⟩:=List.mem_map.mp hx;rcases List.mem_cons.mp hr with rfl|hr
      ·exact h.z r (.head _) p g
      ·exact h.z r (.tail _ hr) p (by have:=hs.1 r hr;(first|lia|omega))
     ·exact g
    rw[show p=q from ω];exact .head _
def alone{Λ:Vc->Prop}{L:Nat->Vc}{r k:Nat}(T:Lt Λ)(hk:r<=k)(p:∀i,i<r->Λ (L i))(q:∀i,i<r->0<L i i)(u:∀i j,i<r->i<j->j<k->L i j=0):∀j,j<r->∃v,Λ v/\v j≠0/\∀i,i<k->i≠j->v i=0:=by
 intro j
 induction j using Nat.strongRecOn with
 |_ j ih=>
  intro a;have step:∀n,n<=j->∃v,Λ v/\v j≠0/\(∀i,i<n->v i=0)/\∀i,j<i->i<k->v i=0:=by
   intro n
   induction n with
   |zero=>intro _;exact⟨L j,p j a,by have:=q j a;(first|lia|omega),fun i hi=>absurd hi (Nat.not_lt_zero _),fun i h1 h2=>u j i a h1 h2⟩
   |succ n ihn=>
    intro w;obtain⟨v,b,c,d,f⟩:=ihn ω;obtain⟨x,x1,x2,g⟩:=ih n ω ω;have l:=T.s (-(x n)) T.z b;have o:=T.s (v n) l x1;refine⟨_,o,?_,fun i hi=>?_,fun i h1 h2=>?_⟩
    ·show(0 - -(x n)*v j)-v n*x j≠0
     rw[g j ω ω,Int.neg_mul];have:=Int.mul_ne_zero x2 c;(first|lia|omega)
    ·show(0 - -(x n)*v i)-v n*x i=0
     rw[Int.neg_mul]
     by_cases e:i=n
     ·subst e;rw[Bp (x i)];(first|lia|omega)
     ·rw[d i ω,g i ω e];(first|lia|omega)
    ·show(0 - -(x n)*v i)-v n*x i=0
     rw[f i h1 h2,g i h2 ω];(first|lia|omega)
  obtain⟨v,b,c,d,f⟩:=step j (Ad _);refine⟨v,b,c,fun i hi ne=>?_⟩;rcases Bs i j with h|h
  ·exact d i h
  ·exact f i ω hi
def un:Nat->Vc:=fun i t=>dl i t
def FG{k i:Nat}{g:Vc}(h:i<k):dot k (un i) g=g i:=by
 have:∀n,n<=k->dot n (un i) g=if i<n then g i else 0:=by
  intro n
  induction n with
  |zero=>intro _;rw[if_neg ω];rfl
  |succ n ih=>
   intro a;show dot n (un i) g+dl i n*g n=_;rw[ih ω]
   by_cases e:i=n
   ·subst e;rw[if_neg ω,if_pos ω];unfold dl;rw[if_pos rfl];(first|lia|omega)
   ·unfold dl
    rw[if_neg e]
    by_cases h2:i<n
    ·rw[if_pos h2,if_pos ω];(first|lia|omega)
    ·rw[if_neg h2,if_neg ω];(first|lia|omega)
 rw[this k (Ad _),if_pos h]
def FH(k:Nat):Both k (tl k un) (tl k un):=by
 rw[Dd];refine⟨fun s t b c=>?_,fun i j hi d=>?_⟩
 ·have:∀n,n<=k->sm un (fun a=>un a s) n t=if s<n then dl s t else 0:=by
   intro n
   induction n with
   |zero=>intro _;rw[if_neg ω];rfl
   |succ n ih=>
    intro f;show sm un (fun a=>un a s) n t+dl n s*dl n t=_;rw[ih ω]
    by_cases e:n=s
    ·subst e;rw[if_neg ω,if_pos ω];unfold dl;rw[if_pos rfl];(first|lia|omega)
    ·have z:dl n s=0:=by unfold dl;rw[if_neg e]
     rw[z]
     by_cases h2:s<n
     ·rw[if_pos h2,if_pos ω];(first|lia|omega)
     ·rw[if_neg h2,if_neg ω];(first|lia|omega)
  rw[this k (Ad _),if_pos b]
 ·rw[FG hi]
  show dl j i=dl i j;unfold dl
  by_cases e:i=j
  ·rw[if_pos e,if_pos e.symm]
  ·rw[if_neg e,if_neg (fun z=>e z.symm)]
def Ng{k w i u:Nat}{A:Nat->Vc}(hi:i<k)(a:u<w):aV k w A (un i) (un u)=A i u:=by
 unfold aV;rw[FG hi];have:dot w (A i) (un u)=dot w (A i) (fun s=>dl s u):=zF fun t _=>by
  show dl u t=dl t u;unfold dl
  by_cases e:u=t
  ·rw[if_pos e,if_pos e.symm]
  ·rw[if_neg e,if_neg (fun z=>e z.symm)]
 rw[this];exact Fj a
def pp(P:List Nat)(i:Nat):Nat:=P.getD i 0
section
variable{P:List Nat}{n:Nat}
def p'(a:P.length=n){i:Nat}(h:i<n):pp P i∈P:=by unfold pp;rw[Ac,Ab ω];exact AB _
def Nh(a:P.length=n){p:Nat}(h:p∈P):∃i,i<n/\pp P i=p:=by
 obtain⟨i,hi,rfl⟩:=Be h;exact⟨i,ω,by unfold pp;rw[Ac,Ab hi];rfl⟩
def iw(b:P.length=n)(a:P.Pairwise (·<·)){i j:Nat}(h:i<j)(c:j<n):pp P i<pp P j:=by
 unfold pp;rw[Ac,Ac,Ab ω,Ab ω];exact List.pairwise_iff_getElem.mp a i j ω ω h
def FI(a:P.length=n):P=(Ah n).map (pp P):=by
 apply AU
 ·simp[a]
 ·intro i h1 h2
  rw[AW,Ba];unfold pp;rw[Ac,Ab h1];rfl
def cut(m:Nat)(P:List Nat):Nat:=(P.filter fun p=>decide (p<m)).length
def FJ(d:P.Pairwise (·<·)){m:Nat}(f:P.length=n):cut m P<=n/\(∀i,i<cut m P->pp P i<m)/\∀i,cut m P<=i->i<n->m<=pp P i:=by
 have:∀P:List Nat,P.Pairwise (·<·)->cut m P<=P.length/\(∀i,i<cut m P->pp P i<m)/\∀i,cut m P<=i->i<P.length->m<=pp P i:=by
  intro P
  induction P with
  |nil=>intro _;exact⟨Ad _,fun i hi=>absurd hi (Nat.not_lt_zero _),fun i _ hi=>absurd hi (Nat.not_lt_zero _)⟩
  |cons p P ih=>
   intro d;rw[Bi] at d;obtain⟨a,b,c⟩:=ih d.2
   by_cases h:p<m
   ·have e:cut m (p::P)=cut m P+1:=by unfold cut;rw[List.filter_cons,if_pos (decide_eq_true h)];rfl
    rw[e,AH];refine⟨ω,fun i hi=>?_,fun i h1 h2=>?_⟩
    ·cases i with
     |zero=>exact h
     |succ i=>exact b i ω
    ·cases i with
     |zero=>(first|lia|omega)
     |succ i=>exact c i ω ω
   ·have e:cut m (p::P)=0:=by
     unfold cut;rw[List.filter_cons,if_neg (by simpa using h),List.filter_eq_nil_iff.mpr fun q hq=>?_]
     ·rfl
     ·have:=d.1 q hq
      simp;(first|lia|omega)
    rw[e];refine⟨Az _,fun i hi=>absurd hi (Nat.not_lt_zero _),fun i _ h2=>?_⟩;cases i with
    |zero=>exact Nat.le_of_not_lt h
    |succ i=>
     rw[AH] at h2;have:pp P i∈P:=p' rfl ω;have:=d.1 _ this;show m<=pp P i;(first|lia|omega)
 have h:=this P d;rw[f] at h;exact h
end
def Ni(a b:List Nat)(h:∀t∈b,1<=t):pr a<=pr (a++b):=by
 rw[wa];have:1<=pr b:=by
  clear a
  induction b with
  |nil=>exact Ad _
  |cons t b ih=>exact pI (h t (.head _)) (ih fun x hx=>h x (.tail _ hx))
 exact Nat.le_mul_of_pos_right _ this
section
variable{k w N M X B:Nat}{A f:Nat->Vc}{P:List Nat}
structure N0(A:Nat->Vc)(k w r b:Nat)(S U:Nat->Vc)(Bn:List Vc)(Q q:Nat->Nat):Prop where
 rk:r<=k
 rw:r<=w
 bl:∀i u,i<k->u<w->S i u=aV k w A (U i) (un u)
 bu:Both k (tl k U) Bn
 ku:Ker k r 1 b U Q
 z:∀i u,r<=i->i<k->u<w->S i u=0
 qw:∀i,i<r->q i<w
 ql:∀i j,i<j->j<r->q i<q j
 sz:∀i u,i<r->u<q i->S i u=0
 sp:∀i,i<r->0<S i (q i)
def Nj(F:FS N M X B (tl k (glue w A un)) P f):N0 A k w (cut w P) B (fun i=>f (pp P i)) (fun i t=>f (pp P i) (w+t)) (m7 k ((tl k (glue w A un)).map fun r=>shr f P r) (tl k un)) (fun a=>pp P (cut w P+a)-w) (pp P):=by
 have g:P.length=k:=by rw[F.len];exact i0
 obtain⟨c1,o,l⟩:=FJ (m:=w) F.srt g;have b:∀{i},i<k->pp P i∈P:=fun hi=>p' g hi;have q:∀i,i<k->i<=pp P i:=by
  intro i
  induction i with
  |zero=>intro _;exact Az _
  |succ i ih=>intro hi;have:=ih ω;have:=iw g F.srt (show i<i+1 from ω) hi;(first|lia|omega)
 have hw:cut w P<=w:=by
  rcases Nat.eq_zero_or_pos (cut w P) with z|z
  ·(first|lia|omega)
  ·have h1:=o (cut w P-1) ω
   have h2:=q (cut w P-1) ω;(first|lia|omega)
 have hq:∀a,a<k-cut w P->w+(pp P (cut w P+a)-w)=pp P (cut w P+a):=fun a h=>by have:=l (cut w P+a) ω ω;(first|lia|omega)
 refine⟨c1,hw,fun i u hi d=>?_,?_,⟨fun a c h1 h2=>?_,fun a u h d=>?_,fun a h=>?_,fun a c h1 h2=>?_,fun i a hi h=>?_,fun a h=>?_⟩,fun i u h1 h2 s=>F.ech.z _ (b h2) u (by have:=l i h1 h2;(first|lia|omega)),o,fun i j h1 h2=>iw g F.srt h1 ω,fun i u hi d=>F.ech.z _ (b ω) u d,fun i hi=>F.ech.pos _ (b ω)⟩
 ·refine IN (T:=fun u i=>A i u) (U:=un) (V:=un) F (fun u i d hi=>(Ng hi d).symm) _ (b hi) u d
 ·have:=Db F (FH k)
  have e:(P.map fun p=>fun t=>f p (w+t))=tl k (fun i t=>f (pp P i) (w+t)):=by
   have:=FI g
   conv=>lhs;rw[this]
   rw[AT];rfl
  rw[e] at this;exact this
 ·have:=iw g F.srt (show cut w P+a<cut w P+c from ω) ω
  have:=l (cut w P+a) ω ω;show pp P (cut w P+a)-w<pp P (cut w P+c)-w;(first|lia|omega)
 ·have d:u<pp P (cut w P+a)-w:=d
  exact F.ech.z _ (b ω) (w+u) ω
 ·show 0<f (pp P (cut w P+a)) (w+(pp P (cut w P+a)-w))
  rw[hq a h];exact F.ech.pos _ (b ω)
 ·show 0<=f (pp P (cut w P+a)) (w+(pp P (cut w P+c)-w))/\f (pp P (cut w P+a)) (w+(pp P (cut w P+c)-w))<f (pp P (cut w P+c)) (w+(pp P (cut w P+c)-w))
  rw[hq c h2];exact F.red _ (b ω) _ (b ω) (iw g F.srt ω ω)
 ·show(f (pp P i) (w+(pp P (cut w P+a)-w))).natAbs<=1*(f (pp P (cut w P+a)) (w+(pp P (cut w P+a)-w))).natAbs
  rw[hq a h];have:=F.red _ (b (show i<k from ω)) _ (b (show cut w P+a<k from ω)) (iw g F.srt ω ω);(first|lia|omega)
 ·show(f (pp P (cut w P+a)) (w+(pp P (cut w P+a)-w))).natAbs<=B
  rw[hq a h];exact F.piv _ (b ω)
def Nk(g:1<=M)(hi:jo (tl k (glue w A un)))(hb:∀r∈tl k (glue w A un),∀u,(r u).natAbs<=M)(F:FS N M X B (tl k (glue w A un)) P f):∀m,m<=cut w P->pr ((Ah m).map fun i=>(f (pp P i) (pp P i)).toNat)<=(2*(k*M)+1) ^ k:=fun m j=>by
 have b:P.length=k:=by rw[F.len];exact i0
 obtain⟨c1,_,_⟩:=FJ (m:=w) F.srt b;have h:=M9 g hi F.ech F.srt F.gen F.len fun r hr p _=>hb r hr p;rw[i0] at h;have e:(P.map fun p=>(f p p).toNat)=((Ah m).map fun i=>(f (pp P i) (pp P i)).toNat)++((Ah (k-m)).map fun a=>(f (pp P (m+a)) (pp P (m+a))).toNat):=by
  have:=FI b
  conv=>lhs;rw[this]
  rw[AT];apply AU
  ·simp;(first|lia|omega)
  ·intro i h1 h2
   rw[AW,Ba]
   by_cases hi:i<m
   ·rw[List.getElem_append_left (by simpa using hi),AW,Ba];rfl
   ·rw[List.getElem_append_right (by simp;(first|lia|omega)),AW,Ba,Aa,A9,show m+(i-m)=i from ω];rfl
 rw[e] at h;refine Af (Ni _ _ fun t d=>?_) h;obtain⟨a,c,rfl⟩:=List.mem_map.mp d;have c:=List.mem_range.mp c;have:=F.ech.pos _ (p' b (show m+a<k from ω));(first|lia|omega)
def Nl{r b D Z M2 X2 B2:Nat}{S U f2:Nat->Vc}{Bn:List Vc}{Q q:Nat->Nat}{P2:List Nat}(I:N0 A k w r b S U Bn Q q)(X:∀m,m<=r->pr ((Ah m).map fun i=>(S i (q i)).toNat)<=D)(F:FS Z M2 X2 B2 (tl w (glue k (fun u i=>S i u) un)) P2 f2):cut k P2=r/\(∀i,i<r->pp P2 i=i)/\LI A k w r D b B2 1 (fun u=>f2 (pp P2 u)) U (fun u t=>f2 (pp P2 u) (k+t)) Bn (m7 w ((tl w (glue k (fun u i=>S i u) un)).map fun r=>shr f2 P2 r) (tl w un)) Q (fun a=>pp P2 (r+a)-k):=by
 have rk:=I.rk;have o:P2.length=w:=by rw[F.len];exact i0
 obtain⟨c1,M,C⟩:=FJ (m:=k) F.srt o;have d:∀{i},i<w->pp P2 i∈P2:=fun hi=>p' o hi;have sp:∀p∈P2,Sp (tl w (glue k (fun u i=>S i u) un)) (f2 p):=fun p hp=>(F.fr p hp).sp;have row:∀u,u<w->Sp (tl w (glue k (fun u i=>S i u) un)) (glue k (fun u i=>S i u) un u):=fun u f=>Sp.mem (List.mem_map.mpr ⟨u,List.mem_range.mpr f,rfl⟩);have zero:∀v,Sp (tl w (glue k (fun u i=>S i u) un)) v->∀i,r<=i->i<k->v i=0:=fun v hv i h1 h2=>by
  obtain⟨c,_,e⟩:=hv;rw[e];refine zM _ _ fun x hx=>?_;obtain⟨u,f,rfl⟩:=List.mem_map.mp hx;rw[zV h2];exact I.z i u h1 h2 (List.mem_range.mp f)
 have H:∀i j,i<r->i<j->j<k->glue k (fun u i=>S i u) un (q i) j=0:=fun i j hi h1 h2=>by
  rw[zV h2]
  by_cases h:j<r
  ·exact I.sz j (q i) h (I.ql i j h1 h)
  ·exact I.z j (q i) ω h2 (I.qw i hi)
 have lt:Lt (Sp (tl w (glue k (fun u i=>S i u) un))):=⟨Sp.zero,fun m hv hw=>hv.sub hw m⟩;have J:∀i,i<r->0<glue k (fun u i=>S i u) un (q i) i:=fun i hi=>by rw[zV ω];exact I.sp i hi
 have l:∀j,j<r->j∈P2:=fun j y=>by
  obtain⟨v,N,O,P⟩:=alone (L:=fun i=>glue k (fun u i=>S i u) un (q i)) lt rk (fun i hi=>row _ (I.qw i hi)) J H j y;exact IV F.ech F.srt (N.trans F.gen) (fun u f=>P u ω ω) O
 have lo:∀p∈P2,p<k->p<r:=fun p hp h=>by
  rcases Bs p r with g|g
  ·exact g
  ·have:=zero _ (sp p hp) p g h
   have:=F.ech.pos p hp;(first|lia|omega)
 have two:∀i,i<r->i<w/\pp P2 i=i:=by
  intro i
  induction i using Nat.strongRecOn with
  |_ i ih=>
   intro hi;obtain⟨j,y,e⟩:=Nh o (l i hi);have h1:i<=j:=by
    rcases Bs j i with g|g
    ·have:=(ih j g ω).2;(first|lia|omega)
    ·exact g
   have h2:j<=i:=by
    rcases Bs i j with g|g
    ·have E:=iw o F.srt g y
     rw[e] at E;obtain⟨_,e2⟩:=ih (pp P2 i) E ω;rcases Nat.lt_trichotomy (pp P2 i) i with g2|g2|g2
     ·have:=iw o F.srt g2 ω;(first|lia|omega)
     ·(first|lia|omega)
     ·(first|lia|omega)
    ·exact g
   have:j=i:=ω
   subst this;exact⟨y,e⟩
 have W:cut k P2=r:=by
  rcases Nat.lt_trichotomy (cut k P2) r with g|g|g
  ·have:=C (cut k P2) (Ad _) (two _ g).1
   rw[(two _ g).2] at this;(first|lia|omega)
  ·exact g
  ·have h1:=M r g
   have h2:=lo _ (d ω) h1;have E:r<=pp P2 r:=by
    rcases Nat.eq_zero_or_pos r with z|z
    ·(first|lia|omega)
    ·have:=iw o F.srt (show r-1<r from ω) ω
     rw[(two (r-1) ω).2] at this;(first|lia|omega)
   (first|lia|omega)
 have hq:∀a,a<w-r->k+(pp P2 (r+a)-k)=pp P2 (r+a):=fun a s=>by have:=C (r+a) ω ω;(first|lia|omega)
 refine⟨W,fun i hi=>(two i hi).2,I.rk,I.rw,Ad 1,fun u i f hi=>?_,I.bu,?_,I.ku,⟨fun a c h1 h2=>?_,fun a u s f=>?_,fun a s=>?_,fun a c h1 h2=>?_,fun i a hi s=>?_,fun a s=>?_⟩,fun u f=>?_,fun u i f hi=>?_,fun u i h1 h2=>?_,fun u i f hi h=>?_,fun m G=>?_⟩
 ·exact IP (T:=S) (U:=U) (V:=un) F I.bl _ (d f) i hi
 ·have:=Db F (FH w)
  have e:(P2.map fun p=>fun t=>f2 p (k+t))=tl w (fun u t=>f2 (pp P2 u) (k+t)):=by
   have:=FI o
   conv=>lhs;rw[this]
   rw[AT];rfl
  rw[e] at this;exact this
 ·have:=iw o F.srt (show r+a<r+c from ω) ω
  have:=C (r+a) ω ω;show pp P2 (r+a)-k<pp P2 (r+c)-k;(first|lia|omega)
 ·have f:u<pp P2 (r+a)-k:=f
  exact F.ech.z _ (d ω) (k+u) ω
 ·show 0<f2 (pp P2 (r+a)) (k+(pp P2 (r+a)-k))
  rw[hq a s];exact F.ech.pos _ (d ω)
 ·show 0<=f2 (pp P2 (r+a)) (k+(pp P2 (r+c)-k))/\f2 (pp P2 (r+a)) (k+(pp P2 (r+c)-k))<f2 (pp P2 (r+c)) (k+(pp P2 (r+c)-k))
  rw[hq c h2];exact F.red _ (d ω) _ (d ω) (iw o F.srt ω ω)
 ·show(f2 (pp P2 i) (k+(pp P2 (r+a)-k))).natAbs<=1*(f2 (pp P2 (r+a)) (k+(pp P2 (r+a)-k))).natAbs
  rw[hq a s];have:=F.red _ (d (show i<w from ω)) _ (d (show r+a<w from ω)) (iw o F.srt ω ω);(first|lia|omega)
 ·show(f2 (pp P2 (r+a)) (k+(pp P2 (r+a)-k))).natAbs<=B2
  rw[hq a s];exact F.piv _ (d ω)
 ·show 0<f2 (pp P2 u) u
  rw[(two u f).2];exact F.ech.pos u (l u f)
 ·show f2 (pp P2 u) i=0
  rw[(two u f).2];exact F.ech.z u (l u f) i hi
 ·show 0<=f2 (pp P2 u) i/\f2 (pp P2 u) i<f2 (pp P2 i) i
  rw[(two u ω).2,(two i h2).2];exact F.red u (l u ω) i (l i h2) h1
 ·show f2 (pp P2 u) i=0
  by_cases Y:u<r
  ·exact zero _ (sp _ (d f)) i ω hi
  ·exact F.ech.z _ (d f) i (by have:=C u ω f;(first|lia|omega))
 ·have T:Two (Sp (tl w (glue k (fun u i=>S i u) un))) r (fun i=>glue k (fun u i=>S i u) un (q i)) f2:=
   ⟨lt,fun i hi=>row _ (I.qw i hi),J,fun i j h1 h2=>H i j ω h1 ω,fun i hi=>sp i (l i hi),fun i hi=>F.ech.pos i (l i hi),fun i j hi y=>F.ech.z i (l i hi) j y,fun v i hv hi hz=>kj F.ech F.srt (l i hi) (hv.trans F.gen) fun p _ hp=>hz p hp⟩
  have e1:tn (fun u=>f2 (pp P2 u)) m=tn f2 m:=iW fun i hi=>by show f2 (pp P2 i) i=f2 i i;rw[(two i ω).2]
  have e2:tn (fun i=>glue k (fun u i=>S i u) un (q i)) m=(Ah m).map fun i=>(S i (q i)).toNat:=by
   unfold tn;exact Bb fun i hi=>by
    show(glue k (fun u i=>S i u) un (q i) i).toNat=_;rw[zV (by have:=List.mem_range.mp hi;(first|lia|omega))]
  rw[e1];have:=Fv T G;rw[e2] at this;exact Af this (X m G)
end
def mu(T:Nat->Vc):Nat->Nat
 |0=>0
 |r+1=>mu T r+Nat.log2 (pr (tn T (r+1)))
def FK{a b:Nat}(c:1<=a)(h:a<=b):a.log2<=b.log2:=by
 rcases Bs b.log2 a.log2 with g|g
 ·have h1:=(Nat.log2_lt (show b≠0 from ω)).mp g
  have h2:=Nat.log2_self_le (show a≠0 from ω);(first|lia|omega)
 ·exact g
def Nm{a b:Nat}(c:1<=a)(h:2*a<=b):a.log2+1<=b.log2:=by
 rcases Bs b.log2 (a.log2+1) with g|g
 ·have h1:=(Nat.log2_lt (show b≠0 from ω)).mp g
  have h2:=Nat.log2_self_le (show a≠0 from ω);rw[Nat.pow_succ] at h1;(first|lia|omega)
 ·exact g
def FM{T T':Nat->Vc}:∀r,(∀i,i<r->0<T' i i)->(∀m,m<=r->pr (tn T' m)<=pr (tn T m))->mu T' r<=mu T r
 |0,_,_=>Ad _
 |r+1,hp,h=>by
  have h1:=FM r (fun i hi=>hp i ω) fun m a=>h m ω;have h2:=FK (p6 (k:=r+1) hp) (h (r+1) (Ad _));show mu T' r+_<=mu T r+_;(first|lia|omega)
def FO{T T':Nat->Vc}:∀r,(∀i,i<r->0<T' i i)->(∀m,m<=r->pr (tn T' m)<=pr (tn T m))->(∃m,m<=r/\2*pr (tn T' m)<=pr (tn T m))->mu T' r+1<=mu T r
 |0,_,_,⟨m,b,h⟩=>by
  have:m=0:=ω
  subst this;have h:2*1<=1:=h;(first|lia|omega)
 |r+1,hp,h,⟨m,b,hh⟩=>by
  have a:∀i,i<r->0<T' i i:=fun i hi=>hp i ω;show mu T' r+_+1<=mu T r+_
  by_cases e:m=r+1
  ·subst e
   have h1:=FM (T:=T) r a fun m b=>h m ω;have h2:=Nm (p6 (k:=r+1) hp) hh;(first|lia|omega)
  ·have h1:=FO r a (fun m b=>h m ω) ⟨m,ω,hh⟩
   have h2:=FK (p6 (k:=r+1) hp) (h (r+1) (Ad _));(first|lia|omega)
def IW{T:Nat->Vc}{D:Nat}:∀r,(∀i,i<r->0<T i i)->(∀m,m<=r->pr (tn T m)<=D)->mu T r<=r*D.log2
 |0,_,_=>Az _
 |r+1,hp,h=>by
  have h1:=IW r (fun i hi=>hp i ω) fun m a=>h m ω;have h2:=FK (p6 (k:=r+1) hp) (h (r+1) (Ad _));show mu T r+_<=(r+1)*D.log2;rw[Nat.add_mul];(first|lia|omega)
def Dg(r:Nat)(T:Nat->Vc):Prop:=∀u i,u<r->i<r->u≠i->T u i=0
open Classical in
noncomputable def ms(r:Nat)(T:Nat->Vc):Nat:=2*mu T r+if Dg r T then 0 else 1
section
variable{A T U V f1 f2:Nat->Vc}{k w r D bU bV g M N X B M2 X2 B2:Nat}{Bn Bf:List Vc}{QU QV:Nat->Nat}{P1 P2:List Nat}
def No(I:LI A k w r D bU bV g T U V Bn Bf QU QV)(hd:¬Dg r T)(Tr:Tri k r w M g (glue w (fun i u=>T u i) U) (fun a=>w+QU a))(l:FS N M X B (tl k (glue w (fun i u=>T u i) U)) P1 f1)(j:Tri w r k M2 1 (glue k (fun u i=>f1 (pls r w QU i) u) V) (fun a=>k+QV a))(o:FS N M2 X2 B2 (tl w (glue k (fun u i=>f1 (pls r w QU i) u) V)) P2 f2):ms r (fun u=>f2 (pls r k QV u))<ms r T:=by
 obtain⟨_,L,c,h1⟩:=I.near_done Tr l;obtain⟨_,J,f,h2⟩:=L.far_done j o;have le:=fun m b=>Af (f m b) (c m b);unfold ms;rw[if_neg hd]
 by_cases d:∃m,m<=r/\2*pr (tn (fun u=>f2 (pls r k QV u)) m)<=pr (tn T m)
 ·have:=FO r J.tp le d
  split<;>(first|lia|omega)
 ·have:=FM r J.tp le
  have dg:Dg r (fun u=>f2 (pls r k QV u)):=by
   rcases h2 with ⟨m,b,h⟩|h
   ·exact absurd ⟨m,b,Af h (c m b)⟩ d
   ·exact fun u i e hi ne=>(h u e).2 i hi (Ne.symm ne)
  rw[if_pos dg];(first|lia|omega)
def Np{C:Nat->Vc}(I:LI A k w r D bU bV g T U V (tl k C) Bf QU QV)(hr:1<=r)(hd:Dg r T)(l:¬∀i,i+1<r->T i i ∣ T (i+1) (i+1))(c:Tri w r k M2 1 (glue k (fun u i=>aV k w A (cb U r (r-1) i) (V u)) V) (fun a=>k+QV a))(d:FS N M2 X2 B2 (tl w (glue k (fun u i=>aV k w A (cb U r (r-1) i) (V u)) V)) P2 f2):ms r (fun u=>f2 (pls r k QV u))<ms r T:=by
 obtain⟨L,val⟩:=I.slid hr hd;obtain⟨_,J,f,h2⟩:=L.far_done c d;have rk:=I.rk;have o:=I.rw;have e:∀m,m<=r->tn (fun i u=>aV k w A (cb U r (r-1) i) (V u)) m=tn T m:=fun m b=>iW fun i hi=>by
  show aV k w A (cb U r (r-1) i) (V i)=T i i;rw[val i i ω ω,if_pos ⟨Ad _,ω⟩]
 have le:∀m,m<=r->pr (tn (fun u=>f2 (pls r k QV u)) m)<=pr (tn T m):=fun m b=>by rw[<-e m b];exact f m b
 unfold ms;rw[if_pos hd];have j:∃m,m<=r/\2*pr (tn (fun u=>f2 (pls r k QV u)) m)<=pr (tn T m):=by
  rcases h2 with ⟨m,b,h⟩|h
  ·exact⟨m,b,by rw[<-e m b];exact h⟩
  ·refine absurd (fun i hi=>?_) l
   have:=Nf L c d h (i:=i) (u:=i+1) ω ω;have this:aV k w A (cb U r (r-1) i) (V i) ∣ aV k w A (cb U r (r-1) i) (V (i+1)):=this
   rwa [val i i ω ω,val i (i+1) ω ω,if_pos ⟨Ad _,ω⟩,if_pos ⟨ω,ω⟩] at this
 have:=FO r J.tp le j;split<;>(first|lia|omega)
end
section
variable{N M X B:Nat}{R:List Vc}{P:List Nat}{f:Nat->Vc}{l:Vc}
def qa:cM N M X B<=cE N M X B:=AY _ _
def FP(a:1<=B):cK N M X B<=cM N M X B:=Nat.le_mul_of_pos_right _ (Nat.pow_pos (C7 a))
def FS.mid{r:Vc}(c:1<=B)(F:FS N M X B R P f)(d:R.length<N)(hr:∀p∈P,(r p).natAbs<=M)(i:Nat):Rep (R++[r]) (cE N M X B) (aX f (P.take i) r):=by
 have a:(P.take i).length<=N:=by have:=F.len;rw[Bo];(first|lia|omega)
 obtain⟨b,_⟩:=mM (R:=R++[r]) (fun p hp=>(F.fr p hp).more) F.fv F.ech.pos (P.take i) (fun q hq=>Bg hq) (Rep.mem (AF R (List.mem_singleton.mpr rfl))) hr;refine b.mono (Af ?_ (Af (FP c) qa));unfold cK;have h1:(1+B) ^ (P.take i).length<=(1+B) ^ N:=Aw ω a;have h2:(P.take i).length*(M*(1+B) ^ (P.take i).length*cC N X B)<=N*(M*(1+B) ^ N*cC N X B):=AO a (Am _ (Al _ h1));(first|lia|omega)
structure Mid(N M X B:Nat)(R:List Vc)(P:List Nat)(f:Nat->Vc)(m:Vc)(a b c d:Int):Prop where
 ech:Ech P f
 fr:∀q∈P,Rep R (cE N M X B) (f q)
 piv:∀q∈P,(f q q).natAbs<=B
 met:∀i,Rep R (cE N M X B) (aX f (P.take i) m)
 a1:a.natAbs<=B
 b1:b.natAbs<=B
 c1:c.natAbs<=B
 d1:d.natAbs<=B
def TS.mid{t p:Nat}{g a b c d:Int}(C:1<=B)(T:TS N M X B R P f l t)(hp:p∈P)(s:∀i,i<p->l i=0)(ow:l p≠0)(D:t<=p)(G:GI (f p p) (l p) g a b 0 c d):Mid N M X B R P (put f p (mix a (f p) b l)) (mix c (f p) d l) a b c d:=by
 obtain⟨T2,o⟩:=T.next C hp s ow D G;have H:=C7 (N:=N) C;obtain⟨r0,r1⟩:=T.red p hp;have w:=T.piv p hp;obtain⟨c1,E⟩:=G.le;have a1:a.natAbs<=B:=Af G.b1 ω;have x:b.natAbs<=B:=Af G.b2 w;have c1:c.natAbs<=B:=Af c1 ω;have d1:d.natAbs<=B:=Af E w;have I:∀q∈P,(l q).natAbs<=B:=fun q hq=>by have:=T.red q hq;have:=T.piv q hq;(first|lia|omega)
 have J:=T.fo p hp D;have L:∀{a b:Int},a.natAbs<=B->b.natAbs<=B->∀q∈P,(mix a (f p) b l q).natAbs<=2*B*B:=fun{a b} u hb q hq=>by
  have O:(a*f p q).natAbs<=B*B:=by rw[AJ];exact AO u (J q hq)
  have S:(b*l q).natAbs<=B*B:=by rw[AJ];exact AO hb (I q hq)
  have t3:=Int.natAbs_add_le (a*f p q) (b*l q);show(a*f p q+b*l q).natAbs<=_;rw[AQ];generalize B*B=Y at O S ⊢;(first|lia|omega)
 have U:P.length<=N:=by have:=T.len;have:=T.few;(first|lia|omega)
 have cnt:(P.filter fun q=>decide (q<t)).length+1<=N:=by
  have h1:=T.len;have h2:=T.few;have:=List.length_filter_le (fun q=>decide (q<t)) P;(first|lia|omega)
 generalize hK:cK N M X B*cG N B ^ (P.filter fun p=>decide (p<t)).length=K;have fr:=T.fr;have y:=T.lr;rw[hK] at fr y;have z:∀{a b:Int},a.natAbs<=B->b.natAbs<=B->Rep R (2*B*K) (mix a (f p) b l):=fun{a b} u hb=>((fr p hp).lin y u hb).mono (by rw[AQ];(first|lia|omega));have W:K<=2*B*K:=Nat.le_mul_of_pos_left _ ω;have A:∀q∈P,Rep R (2*B*K) (put f p (mix a (f p) b l) q):=fun q hq=>by
  by_cases e:q=p
  ·subst e;rw[zO];exact z a1 x
  ·rw[dH e];exact(fr q hq).mono W
 have h:∀n,n<=N->2*B*K+n*(2*B*B*(1+2*B*B) ^ n*(2*B*K))<=cG N B*K:=fun n v=>by
  unfold cG cW;have h1:(1+2*B*B) ^ n<=(1+2*B*B) ^ N:=Aw ω v;generalize 2*B*B=Y at h1 ⊢;have h2:n*(Y*(1+Y) ^ n*(2*B*K))<=N*(Y*(1+Y) ^ N*(2*B*K)):=AO v (Am _ (Al _ h1));refine Af (Nat.add_le_add_left h2 _) (Nat.le_of_eq ?_);generalize Y*(1+Y) ^ N=Z;generalize 2*B=Q;rw[Nat.mul_add,Nat.mul_one,Nat.add_mul,<-AQ N Z,Nat.mul_comm Q (N*Z),AQ (N*Z)]
 have j:cG N B*K<=cE N M X B:=by
  refine Af ?_ qa;rw[<-hK,Nat.mul_left_comm,<-Nat.pow_succ'];exact Al _ (Aw H cnt)
 have two:2*B*K<=cG N B*K:=Af (AY _ _) (h 0 ω);refine⟨o,fun q hq=>(A q hq).mono (Af two j),T2.piv,fun i=>?_,a1,x,c1,d1⟩;have hi:(P.take i).length<=N:=by rw[Bo];(first|lia|omega)
 obtain⟨F,_⟩:=mM A (fun q hq r hr=>T2.fv q hq r hr) o.pos (P.take i) (fun q hq=>Bg hq) (z c1 d1) (L c1 d1);exact F.mono (Af (h _ hi) j)
def TS.rep{t:Nat}(a:1<=B)(T:TS N M X B R P f l t):(∀p∈P,Rep R (cE N M X B) (f p))/\Rep R (cE N M X B) l:=
 ⟨fun p hp=>(T.fr p hp).mono (Af (T.cnt a) qa),T.lr.mono (Af (T.cnt a) qa)⟩
end
def TS.nz{N M X B Y t:Nat}{R:List Vc}{P:List Nat}{f:Nat->Vc}{l:Vc}(T:TS N M X B R P f l t)(hi:jo R)(hb:∀r∈R,∀u,(r u).natAbs<=Y):∃u,l u≠0:=by
 refine AC fun no=>?_;have z:∀u,l u=0:=fun u=>AC fun h=>no ⟨u,h⟩;have d:∀r∈R,Sp (P.map f) r:=fun r hr=>(T.gen r hr).trans fun s a=>by
  rcases List.mem_append.mp a with h|h
  ·exact Sp.mem h
  ·rw[List.mem_singleton.mp h];exact Sp.zero.eq z
 obtain⟨c,h1,⟨x,hx,b⟩,h2,_⟩:=eP (M:=Y+1) ω (fun v hv p _=>Nat.le_succ_of_le (hb v hv p)) (show P.length<R.length by have:=T.len;(first|lia|omega));exact b (C4 hi T.ech T.srt d c h1 h2 x hx)
end Tb
end
section
namespace L2
open PySem PySem.Spec PyProof.Rows
def qe(hi:Int)(n:Nat):It:=⟨fun i _=>i<n,fun i H x H'=>H'=H/\x=.int (hi-i),fun i _=>n<=i⟩
def Nq{P:Program}{w:World}{K:Ag}{tg:Expr}(it:Addr)(lo:Int)(n:Nat):Turn P w K tg (qe lo n) [it] it (fun i h=>IsRangeIter h it (lo+(i:Nat)*(-1)) ((n:Int)-(i:Nat)) (-1)) where
 mem:=by simp
 obj:=fun i h st b hb=>by
  have e:b=it:=by simpa using hb
  subst e;exact⟨_,st,fun v z=>by
   have u:Data.fields _=Data.cell v:=z;cases u⟩
 keep:=fun i h h' st k=>k it (by simp) _ st
 item:=by
  intro X c hw d hc i aa s σ H E I a st hg;subst c hw d;obtain⟨f,f1,f2,g,j,l⟩:=a it (by simp);have W:=Walks.range (prog:=X.prog) (w:=X.w) (I.ok.hd hc) it lo (-1) n;refine W.item i s _ _ hg st fun v h' tk hv p q=>?_;obtain⟨t,rfl⟩:=hv;have x:Inv X aa σ H {s with heap:=h',toks:=tk}:=I.turned (fun b o hb e=>q b o (by simpa using hb) e) f f1 g j l;refine⟨_,rfl,Cd (s:={s with heap:=h',toks:=tk}) (n:="range_iterator") p rfl rfl ξ ⟨.int (lo-i),H,x,⟨t,?_⟩,⟨rfl,rfl⟩,p,fun b hb=>(a b hb).1⟩⟩;rw[show lo+(i:Int)*(-1)=lo-i from ω]
 done:=by
  intro X c hw d hc i aa s σ H E I a st hg;subst c hw d;obtain⟨f,f1,f2,g,j,l⟩:=a it (by simp);exact wpAny_pyNext_range_end (I.ok.hd hc) st (by have:n<=i:=hg;(first|lia|omega)) fun h' r=>⟨rfl,I.turned (t':=s.toks) (fun b o hb e=>r b o hb e) f f1 g j l⟩
 self:=fun _ _ _ _ _ st h=>wpAny_pyIter_rangeiter st h
section
variable{X:Cx}{tg:Expr}
def Nr{aa:Ψ}{σ:St}{H:Hp}{s:Shared}{R:It->Hp->Prop}{E:Ω}{lo hi:Int}{t u v:Tok}{tk:Nat}(I:Inv X aa σ H s)(h1:-(2 ^ 62)<=lo)(h2:lo<2 ^ 62)(a:-(2 ^ 62)<=hi)(c:hi<2 ^ 62)(q:R (qe lo (lo-hi).toNat) H):wpAny (model X.prog X.w) X.A (pyIter (.ref s⁻¹)) (DW X aa σ tg R) E {s with heap:=s.heap.push {cls:=.type "range",data:=.fields #[.int lo t,.int hi u,.int (-1) v]},toks:=tk}:=by
 refine wpAny_pyIter_range (IsRange.new ..) (PySem.W.small_down h1 h2 a c) ?_;have I1:Inv X aa σ H {s with heap:=s.heap.push {cls:=.type "range",data:=.fields #[.int lo t,.int hi u,.int (-1) v]},toks:=tk}:=I.kept fun b o e=>Ai _ e;refine⟨(s.heap.push {cls:=.type "range",data:=.fields #[.int lo t,.int hi u,.int (-1) v]}).objs.size,[(s.heap.push {cls:=.type "range",data:=.fields #[.int lo t,.int hi u,.int (-1) v]}).objs.size],_,_,H,rfl,
  I1.kept (t':=tk) fun b o e=>Ai _ e,Nq _ lo (lo-hi).toNat,?_,fun b hb=>?_,q⟩
 ·have e1:lo+((0:Nat):Int)*(-1)=lo:=by simp
  have e2:(((lo-hi).toNat:Nat):Int)-((0:Nat):Int)=Builtin.Range.rangeSize lo hi (-1):=by rw[PySem.W.rangeSize_downNat];(first|lia|omega)
  show IsRangeIter _ _ (lo+((0:Nat):Int)*(-1)) ((((lo-hi).toNat:Nat):Int)-((0:Nat):Int)) (-1);rw[e1,e2];exact AI _ rfl
 ·have e:b=(s.heap.push {cls:=.type "range",data:=.fields #[.int lo t,.int hi u,.int (-1) v]}).objs.size:=by simpa using hb
  subst e;exact I1.fpOk (Ad _) (I1.hok.fresh (Ad _))
def Nt(ta:TA):TI:=fun σ H R=>ta σ H fun vs H1=>∃i j:Int,vs=[.int i,.int j,.int (-1)]/\(-(2 ^ 62)<=i/\i<2 ^ 62/\-(2 ^ 62)<=j/\j<2 ^ 62)/\R (qe i (i-j).toNat) H1
def IX{a b c:Expr}{ta:TA}{p pos:Pos}(hg:Gl X "range")(v:X.mg "range"=none)(w:PA X [a,b,c] ta)(x:starEach [a,b,c] X.env=[(false,eval a X.env),(false,eval b X.env),(false,eval c X.env)]:=by rfl)(f:starEach [b,c] X.env=[(false,eval b X.env),(false,eval c X.env)]:=by rfl):PI X tg (.Call (.Name "range" p) [a,b,c] [] pos) (Nt ta):=by
 intro aa s σ H R I h;refine Call_ (jl I hg v boot_range (PyProof.Rows.callWith_type1 (aT (w pos aa s σ H _ I h) fun us z ⟨vs,H1,y,g,d⟩=>?_) (by rw[x,f]) (by rw[f];rfl)));obtain⟨i,j,e,⟨d,l,o,u⟩,q⟩:=d;subst e;cases g with
 |cons r rr=>
  cases rr with
  |cons r' rr=>
   cases rr with
   |cons r'' rr=>
    cases rr;obtain⟨t,rfl⟩:=r;obtain⟨t',rfl⟩:=r';obtain⟨A,rfl⟩:=r'';exact call_range_3 ξ (Nr y d l o u q) (.inl (PyProof.noPylong_of_log2 δ))
end
def IY{hi:Int}{n:Nat}{g:TG}{tb:TS}{D:Ends}{σ:St}{H:Hp}(b:Nat->St->Hp->Prop)(j:b 0 σ H)(l:∀i σ H,i<n->b i σ H->g (.int (hi-i)) σ H fun c H2=>tb {D with nx:=b (i+1),ct:=b (i+1),bk:=D.nx} c H2)(hd:∀σ H,b n σ H->D.nx σ H):∃W:Nat->Nat->St->Hp->Prop,(∃m,W 0 m σ H)/\∀i m σ H,W i m σ H->
   ((qe hi n).stop i H/\D.nx σ H)\/((qe hi n).go i H/\∃N:St->Hp->Prop,(∀d H',N d H'->∃f,f<m/\W (i+1) f d H')/\∀x H',(qe hi n).yld i H x H'->g x σ H' fun c H2=>tb {D with nx:=N,ct:=N,bk:=D.nx} c H2):=by
 refine⟨fun i m σ H=>m=n-i/\i<=n/\b i σ H,⟨n,by simp,Az _,j⟩,?_⟩;rintro i m σ H ⟨rfl,hi,p⟩
 by_cases a:i<n
 ·refine .inr ⟨a,b (i+1),fun d H' h=>⟨n-(i+1),ω,rfl,a,h⟩,fun x H' y=>?_⟩
  obtain⟨e,y⟩:=y;subst e y;exact l i σ _ a p
 ·have e:i=n:=ω
  subst e;exact .inl ⟨Ad _,hd σ H p⟩
end L2
end
section
namespace K23
open PySem L2
abbrev De:Stmt:=top 30
def IZ:A8 "len"=some (.builtin "len"):=δ
def FQ{R:List Tb.Vc}{ps:List Nat}{fr:Nat->List Int}{W CE N Y:Nat}{rn:List Int}(g:∀r∈R,∀u,(r u).natAbs<=Y)(a:R.length<=N)(l:∀p∈ps,Tb.Rep R CE (vF fr p))(b:∀p∈ps,0<vF fr p p)(e:∀p∈ps,(vF fr p p).natAbs<2 ^ 9000)(d:Wid W ps fr)(h:rn.length=W)(met:∀i,Tb.Rep R CE (Tb.aX (vF fr) (ps.take i) (vc rn)))(c:N*(CE*Y)<big):kA fr W rn ps:=by
 refine⟨h,d.most,fun p hp=>⟨(d.row p hp).1,(d.row p hp).2,b p hp,e p hp⟩,fun i p hp x hx=>?_⟩;have j:=Ak hp;refine gH (Av Ip ?_) ?_
 ·have f:=met i
  rw[<-pO (fr:=fr) (W:=W) (ps:=ps.take i) (rn:=rn) h fun q hq=>(d.row q (Bg hq)).2] at f;exact Av (Af (f.le (u:=p) fun r hr=>g r hr p) (Am _ a)) c
 ·obtain⟨u,_,rfl⟩:=C9 hx
  exact Av (Af ((l p j).le (u:=u) fun r hr=>g r hr u) (Am _ a)) c
structure I0(N M X B Y:Nat)(R:List Tb.Vc):Prop where
 hB:1<=B
 piv:B<2 ^ 9000
 lim:N*(Tb.cE N M X B*Y)<big
 hR:∀r∈R,∀u,(r u).natAbs<=Y
 few:N<64
 bd:Tb.Bd N M X B R
def Fnd.no{H:Hp}{a:Addr}{es:List (Nat×Addr)}{fr:Nat->List Int}(h:Fnd H a es fr){p:Nat}(hp:p∉es.map (·.1)):DGet H a (.int p) none:=by
 have:=DGet.k (k:=Sum.inl (p:Int)) h.at_;rw[MV ?_] at this
 ·exact this
 ·intro f b z
  rw[AT] at b;obtain⟨e,c,rfl⟩:=List.mem_map.mp b;have d:(Sum.inl (e.1:Int):Key)=Sum.inl (p:Int):=z;have:(e.1:Int)=p:=by injection d
  exact hp (List.mem_map.mpr ⟨e,c,ω⟩)
def b8{l:List Int}{p:Nat}(h:p<l.length):(l.map V.int)[p]?=some (V.int (vc l p)):=by
 unfold vc;rw[Aj,Ac,Ab h];rfl
def Fra(a:Addr)(H H':Hp):Prop:=∀b o,b≠a->H b=some o->H' b=some o
def Fra.trans{a:Addr}{H H1 H2:Hp}(h:Fra a H H1)(h2:Fra a H1 H2):Fra a H H2:=fun b o hb e=>h2 b o hb (h b o hb e)
def Fra.of{a:Addr}{H H1:Hp}(h:Same H H1):Fra a H H1:=fun b o _ e=>h b o e
def m8(xs:List V)(n:Nat):cJ xs (some (n:Int)) none=xs.drop n:=by
 unfold cJ;rw[HT.G',HT.G_];rcases Nat.le_total n xs.length with h|h
 ·rw[Nat.min_eq_left h,Ar (by simp)]
 ·rw[Nat.min_eq_right h,List.drop_eq_nil_of_le (Ad _),List.drop_eq_nil_of_le h,List.take_nil]
def iz(l:List Int)(q:Nat):List Int:=if 0<vc l q then l else l.map fun x=>-x
def Nu{l:List Int}{q:Nat}:vc (iz l q)=Tb.up (vc l) q:=by
 unfold iz Tb.up;split
 ·rfl
 ·exact MZ
def Nv{l:List Int}{q:Nat}:(iz l q).length=l.length:=by unfold iz;split;rfl;simp
def I_{q:Nat}:∀{P:List Nat},(Tb.ins q P).Perm (P++[q])
 |[]=>.refl _
 |p::P=>by
  unfold Tb.ins;split
  ·exact(List.perm_append_singleton q (p::P)).symm
  ·exact(I_ (P:=P)).cons p
def share{c:Bool}{A B:Prop}{C S:Addr->Hp->Prop}(h2:(∀u H,S u H->C u H)->¬c=true->B)(h1:(∀u H,S u H->C u H)->c=true->A)(fin:∀u H,S u H->C u H):if c=true then A else B:=by
 split
 ·exact h1 fin (by assumption)
 ·exact h2 fin (by assumption)
structure Bt(a d:Addr)(q W N M X B:Nat)(R:List Tb.Vc)(P:List Nat)(H0 H:Hp)(ln:List Int)(es:List (Nat×Addr))(fr:Nat->List Int)(t:Nat):Prop where
 fra:Fra a H0 H
 fnd:Fnd H a es fr
 pls:Pls es P
 wid:Wid W P fr
 at_:H d=some (.lst (ln.map V.int))
 len:ln.length=W
 ts:Tb.TS N M X B R P (vF fr) (vc ln) t
 tq:t<=q
 qW:q<W
 low:∀i,i<q->vc ln i=0
 nz:vc ln q≠0
def FR{H:Hp}{a b:Addr}{es:List (Nat×Addr)}{fr:Nat->List Int}{xs:List V}(h:Fnd H a es fr)(hb:H b=some (.lst xs)):b≠a:=fun z=>by rw[z,h.at_] at hb;cases hb
section
variable{P:Program}{w:World}{K:Ag}{mg:Str->Option Value}{base:Heap}
def Ja:Sp:=fun vs H Q _=>∃(a r:Addr)(rn:List Int)(es:List (Nat×Addr))(fr:Nat->List Int)(P:List Nat)(N M X B Y W:Nat)(R:List Tb.Vc),vs=[.ref a,.ref r]/\H r=some (.lst (rn.map V.int))/\Fnd H a es fr/\Pls es P/\Wid W P fr/\rn.length=W/\
 Tb.FS N M X B R P (vF fr)/\R.length<N/\(∀p∈P,(vc rn p).natAbs<=M)/\I0 N M X B Y (R++[vc rn])/\
 ∀H' d b c,Fra a H H'->Fnd H' a d b->Pls d c->Wid W c b->Tb.FS N M X B (R++[vc rn]) c (vF b)->Q .non H'
def jC:zp ["found","row","left","place","top","pair","places","k"] ["found","row"] (zg De):=⟨rfl,rfl,rfl,δ,rfl,δ,δ⟩
def Nw{f fr ff fp fm:Addr}{fd cj mn bF cO:FuncData}(F:Fun K "take_in" "take_in" De f fd)(bs:mg "sorted"=none)(bg:mg "range"=none)(bn:mg "len"=none)(Fr:Fun K "reduced" "reduced" jq fr cj)(br:Binds K cj ["row","found","places"] [])(mr:mg "reduced"=some (.ref fr))(Gr:ai P w K mg base aw 2 fr cj ["row","found","places"] Ib)(Ff:Fun K "first_place" "first_place" C5 ff mn)(bf:Binds K mn ["row"] [])(mf:mg "first_place"=some (.ref ff))(Gf:ai P w K mg base aw 1 ff mn ["row"] H_)(Fp:Fun K "divisor_pair" "divisor_pair" vp fp bF)(bp:Binds K bF ["one","other"] [])(mp:mg "divisor_pair"=some (.ref fp))(Gp:ai P w K mg base aw 1 fp bF ["one","other"] Ia)(Fm:Fun K "mix_of_two" "mix_of_two" u6 fm cO)(bm:Binds K cO ["often","row","other_often","other"] [])(mm:mg "mix_of_two"=some (.ref fm))(Gm:ai P w K mg base aw 1 fm cO ["often","row","other_often","other"] HS):ai P w K mg base aw 3 f fd ["found","row"] Ja:=by
 refine F.ok jC (fun vs H Q E h=>?_) (fun ak A outer s H vs Q E hr h=>?_)
 ·obtain⟨a,r,rn,es,fr,PP,N,M,X,B,Y,W,R,rfl,_⟩:=h;rfl
 ·obtain⟨a,r,rn,es,fR,PP,N,M,X,B,Y,W,R,rfl,h1,hF,hP,hW,hn,FS,hlt,hM,L,k⟩:=h
  have hu:=CN hr;have hr1:Room 1 _:=hr.mono ξ;refine⟨_,ze (zq (i:=2) jC.nd rfl (Or.inl rfl) (zf Gr hr rfl mr Fr.kp br .nil ac (za (pv 1) (za (pv 0) (za (zm (vr rfl) rfl bs vv (za (pv 0) zb)) zb)))))
   (ze (zq (i:=3) jC.nd rfl (Or.inl rfl) (zf Gf hr1 rfl mf Ff.kp bf .nil ac (za (pv 2) zb)))
   (ze (B' Bl (KP (LB hu (pv 3) (pv 0)) (by with_unfolding_all rfl))
    (ze (zq (i:=4) jC.nd rfl (Or.inl rfl) (lX hu (pv 0) (pv 3) (fun _ _=>rfl)))
    (ze (zq (i:=5) jC.nd rfl (Or.inl rfl) (zf Gp hr1 rfl mp Fp.kp bp .nil ac (za (zo zn (pv 4) (pv 3) (fun _ _=>rfl)) (za (zo zn (pv 2) (pv 3) (fun _ _=>rfl)) zb))))
    (ze (Eu hu (pv 0) (pv 3) (zf Gm hr1 rfl mm Fm.kp bm .nil ac (za (zo zC (zo zC (pv 5) zd (fun _ _=>rfl)) zd (fun _ _=>rfl)) (za (pv 4) (za (zo zC (zo zC (pv 5) zd (fun _ _=>rfl)) zd (fun _ _=>rfl)) (za (pv 2) zb))))) rfl)
    (ze (zq (i:=2) jC.nd rfl (Or.inl rfl) (zf Gr hr rfl mr Fr.kp br .nil ac (za (zf Gm hr1 rfl mm Fm.kp bm .nil ac (za (zo zC (zo zC (pv 5) zd (fun _ _=>rfl)) zd (fun _ _=>rfl)) (za (pv 4) (za (zo zC (zo zC (pv 5) zd (fun _ _=>rfl)) zd (fun _ _=>rfl)) (za (pv 2) zb))))) (za (pv 0) (za (zm (vr rfl) rfl bs vv (za (pv 0) zb)) zb)))))
    (zh (zq (i:=3) jC.nd rfl (Or.inl rfl) (zf Gf hr1 rfl mf Ff.kp bf .nil ac (za (pv 2) zb)))))))))
   (ze (Eu hu (pv 0) (pv 3) (n7 (zt hH (zo zn (pv 2) (pv 3) (fun _ _=>rfl)) zd (ar _)) (pv 2)
    (zu ["found","row","left","place","top","pair","places","k"] ["number"] [none] (zI (pv 2)) (fun cl C s₀ H₀ ex=>zl (i:=0) (bI ["number"]) rfl (Or.inl rfl)) (fun cl C s₀ H₀ ex=>zy) (fun cl C s₀ H₀ ex=>j_ kb (pv 0)) (te:=G1 (rU fun i=>.int (-i)) (av 0)) (hfr:=b7 δ))) rfl)
   (ze (zq (i:=6) jC.nd rfl (Or.inl rfl) (zm (vr rfl) rfl bs vv (za (pv 0) zb)))
   (zh (hA Bl rfl (IX rfl bg (za (zA e8 (zm zj rfl bn IZ (za (pv 6) zb)) zd) (za (j_ kb zd) (za (j_ kb zd) zb)))) (zl (i:=7) jC.nd rfl (Or.inl rfl))
    (zh (Eu hu (pv 0) (zo zn (pv 6) (pv 7) (fun _ _=>rfl)) (zf Gr hr rfl mr Fr.kp br .nil ac (za (lX hu (pv 0) (zo zn (pv 6) (pv 7) (fun _ _=>rfl)) (fun _ _=>rfl)) (za (pv 0) (za (ol CH (pv 6) (oj (zA fU (pv 7) zd)) oh) zb)))) rfl)))))))),?_⟩
  have z64:es.length<64:=by have:=hP.len;have:=FS.len;have:=L.few;(first|lia|omega)
  have T0:=FS.take L.hB hlt hM;have eC:(R++[vc rn]).length<=N:=by rw[AN];exact hlt
  have pv:∀{x:Nat},x<=B->x<2 ^ 9000:=fun h=>Av h L.piv;have qS:kA fR W rn PP:=FQ L.hR eC (fun p hp=>(T0.rep L.hB).1 p hp) FS.ech.pos (fun p hp=>pv (FS.piv p hp)) hW hn (fun i=>FS.mid L.hB hlt hM i) L.lim;refine⟨_,rfl,_,rfl,_,rfl,a,eF es,rfl,hF.at_,(by simpa using z64),fun PL ms pm so dD=>?_⟩;rw[hP.ints pm so];have sP:=Same.new (o:=.lst (PP.map fun p:Nat=>V.int (p:Int))) dD;refine⟨r,a,PL,rn,es,fR,PP,W,rfl,sP _ _ h1,hF.same sP,zc,fun p hp=>hP.pm.mem_iff.mp hp,qS,fun d H1 s1 hd=>?_⟩;have e0:vc (aQ fR rn PP)=Tb.aX (vF fR) PP (vc rn):=pO hn fun p hp=>(hW.row p hp).2;rw[<-e0] at T0;have l0:(aQ fR rn PP).length=W:=pu hn fun p hp=>(hW.row p hp).2;obtain⟨q,q1,q2,q3,q4,q5⟩:=Im (T0.nz L.bd.ind L.hR);refine⟨_,rfl,d,aQ fR rn PP,q,rfl,hd,q2,q3,?_⟩;have B0:Bt a d q W N M X B (R++[vc rn]) PP H H1 (aQ fR rn PP) es fR 0:=⟨.of (sP.trans s1),hF.same (sP.trans s1),hP,hW,hd,l0,T0,Az _,ω,q4,q5⟩;refine⟨fun n σ H3=>∃(d:Addr)(q:Nat)(I:List Int)(es:List (Nat×Addr))(fr:Nat->List Int)(t:Nat)(v4 v5:Option V),n=W-q/\σ=[some (.ref a),some (.ref r),some (.ref d),some (.int q),v4,v5,none,none]/\Bt a d q W N M X B (R++[vc rn]) PP H H3 I es fr t,
   ⟨_,d,q,_,es,fR,0,none,none,rfl,rfl,B0⟩,?_⟩
  clear B0 q5 q4 q3 q2 q1 l0 e0 hd s1 sP dD so pm qS T0;clear d q H1 PL ms;rintro n σ H3 ⟨d,q,I,es,fr,t,v4,v5,rfl,rfl,T⟩
  by_cases hq:q∈PP
  ·obtain⟨c,hc,gc,aE⟩:=T.fnd.get (T.pls.pm.mem_iff.mp hq)
   refine⟨_,rfl,_,rfl,a,_,rfl,gc,_,rfl,?_⟩;have rW:=T.wid.row q hq;have tU:=T.len;have mW:=T.wid.most;have x0:0<vF fr q q:=T.ts.ech.pos q hq;obtain⟨BB,y1⟩:=T.ts.red q hq;have y0:0<vc I q:=by have:=T.nz;(first|lia|omega)
   have xb:(vF fr q q).natAbs<2 ^ 9000:=pv (T.ts.piv q hq);have yb:(vc I q).natAbs<2 ^ 9000:=Av ω xb;have z64:es.length<64:=by have:=T.pls.len;have:=FS.len;have:=L.few;(first|lia|omega)
   have hqe:q∈es.map (·.1):=T.pls.pm.mem_iff.mp hq;refine aA ⟨fun ah H'=>∃n',n'<W-q/\∃(d:Addr)(q:Nat)(I:List Int)(es:List (Nat×Addr))(fr:Nat->List Int)(t:Nat)(v4 v5:Option V),n'=W-q/\ah=[some (.ref a),some (.ref r),some (.ref d),some (.int q),v4,v5,none,none]/\Bt a d q W N M X B (R++[vc rn]) PP H H' I es fr t,fun ah H' h=>h,?_⟩;refine⟨_,rfl,_,rfl,a,_,rfl,gc,?_⟩;refine⟨_,rfl,_,rfl,c,_,_,_,rfl,rfl,SqL.of aE,zi (b8 ω),_,rfl,_,rfl,d,_,_,_,rfl,rfl,SqL.of T.at_,zi (b8 ω),vF fr q q,vc I q,rfl,x0,y0,xb,yb,fun r0 p1 p2 H4 g a1 b1 c1 d1 s4 ja fj eJ G=>?_⟩;have Mi:=T.ts.mid L.hB hq T.low T.nz T.tq G;obtain⟨T2,_⟩:=T.ts.next L.hB hq T.low T.nz T.tq G;have rp:=T.ts.rep L.hB;have ent:∀{l:List Int},Tb.Rep (R++[vc rn]) (Tb.cE N M X B) (vc l)->∀x∈l,x.natAbs<big:=fun h x hx=>by
    obtain⟨u,_,rfl⟩:=C9 hx;exact Av (Af (h.le (u:=u) fun r hr=>L.hR r hr u) (Am _ eC)) L.lim
   have Z:∀{k:Int},k.natAbs<=B->∀{x:Int},x.natAbs<big->ey k x:=by
    intro k hk x hx;exact⟨9000,bt,pv hk,hx,by have:=kD;(first|lia|omega)⟩
   have er:=ent (rp.1 q hq);have el:=ent rp.2;refine⟨_,rfl,r0,_,_,_,rfl,rfl,SqT.of ja,zi (j:=0) rfl,p1,_,_,_,rfl,rfl,SqT.of fj,zi (j:=1) rfl,_,rfl,_,rfl,r0,_,_,_,rfl,rfl,SqT.of ja,zi (j:=0) rfl,p1,_,_,_,rfl,rfl,SqT.of fj,zi (j:=2) rfl,_,rfl,c,d,_,_,_,_,rfl,s4 _ _ aE,s4 _ _ T.at_,ω,fun x hx=>Z Mi.a1 (er x hx),fun x hx=>Z Mi.b1 (el x hx),fun e H5 s5 Cq he=>?_⟩;have F5:=T.fnd.same (s4.trans s5);obtain⟨H6,dp,F6,o6⟩:=F5.put (H2:=H5) (p:=q) he ω;refine⟨_,rfl,_,rfl,a,H6,rfl,dp,?_⟩;have oi:=(T.fnd.same s4).at_;have keep:∀b o,b≠a->H4 b=some o->H6 b=some o:=fun b o hb e=>by rw[o6 b hb];exact s5 _ _ e
   have nr0:r0≠a:=fun z=>by rw[z,oi] at ja;cases ja
   have np2:p2≠a:=fun z=>by have h:=eJ;unfold Tr at h;rw[z,oi] at h;cases h
   have nc:c≠a:=FR T.fnd aE;have nd:d≠a:=FR T.fnd T.at_;have oT:=keep _ _ nr0 ja;have oR:=keep _ _ np2 eJ;refine⟨_,rfl,r0,_,_,_,rfl,rfl,SqT.of oT,zi (j:=1) rfl,p2,_,_,_,rfl,rfl,SqT.of oR,zi (j:=1) rfl,_,rfl,_,rfl,r0,_,_,_,rfl,rfl,SqT.of oT,zi (j:=1) rfl,p2,_,_,_,rfl,rfl,SqT.of oR,zi (j:=2) rfl,_,rfl,c,d,_,_,_,_,rfl,keep _ _ nc (s4 _ _ aE),keep _ _ nd (s4 _ _ T.at_),ω,fun x hx=>Z Mi.c1 (er x hx),fun x hx=>Z Mi.d1 (el x hx),fun m H7 s7 gY hm=>?_⟩;have eV:Pls (ci es q e) PP:=⟨by rw[C_,if_pos hqe];exact T.pls.pm,T.pls.so⟩;have kr:(ci es q e).length<64:=by have:=eV.len;have:=T.pls.len;(first|lia|omega)
   refine⟨_,rfl,_,rfl,a,eF (ci es q e),rfl,(F6.same s7).at_,(by simpa using kr),fun PL ms pm so dD=>?_⟩;rw[eV.ints pm so];have sP:=Same.new (o:=.lst (PP.map fun p:Nat=>V.int (p:Int))) dD;have W2:Wid W PP (bO fr q (bC a1 (fr q) b1 I)):=T.wid.put (by unfold bC;rw[AG];(first|lia|omega));have lm:(bC c1 (fr q) d1 I).length=W:=by unfold bC;rw[AG];(first|lia|omega)
   have ef:vF (bO fr q (bC a1 (fr q) b1 I))=Tb.put (vF fr) q (Tb.mix a1 (vF fr q) b1 (vc I)):=by rw[E_,Il ω];rfl
   have em:vc (bC c1 (fr q) d1 I)=Tb.mix c1 (vF fr q) d1 (vc I):=by rw[Il ω];rfl
   rw[<-ef,<-em] at Mi T2;have rO:kA (bO fr q (bC a1 (fr q) b1 I)) W (bC c1 (fr q) d1 I) PP:=FQ L.hR eC Mi.fr Mi.ech.pos (fun p hp=>pv (Mi.piv p hp)) W2 lm Mi.met L.lim;refine⟨m,a,PL,_,ci es q e,bO fr q (bC a1 (fr q) b1 I),PP,W,rfl,sP _ _ hm,(F6.same s7).same sP,zc,fun p hp=>eV.pm.mem_iff.mp hp,rO,fun d2 H9 s9 h_=>?_⟩;rw[<-pO (W:=W) lm fun p hp=>(W2.row p hp).2] at T2;obtain⟨q',q1,q2,q3,q4,q5⟩:=Im (T2.nz L.bd.ind L.hR);have l9:(aQ (bO fr q (bC a1 (fr q) b1 I)) (bC c1 (fr q) d1 I) PP).length=W:=pu lm fun p hp=>(W2.row p hp).2;have qq:q+1<=q':=Nat.le_of_not_lt fun h=>q5 (T2.low q' h);refine⟨_,rfl,d2,_,q',rfl,h_,q2,q3,?_⟩;refine⟨W-q',ω,d2,q',_,ci es q e,bO fr q (bC a1 (fr q) b1 I),q+1,_,_,rfl,rfl,⟨?_,((F6.same s7).same sP).same s9,eV,W2,h_,l9,T2,qq,ω,q4,q5⟩⟩;exact T.fra.trans ((Fra.of s4).trans ((show Fra a H4 H6 from keep).trans (.of ((s7.trans sP).trans s9))))
  ·refine⟨_,rfl,_,rfl,a,_,rfl,T.fnd.no (fun h=>hq (T.pls.pm.mem_iff.mpr h)),_,rfl,?_⟩
   have tU:=T.len;have mW:=T.wid.most;refine az ⟨_,rfl,_,rfl,d,_,_,_,rfl,rfl,SqL.of T.at_,zi (b8 (by have:=T.qW;(first|lia|omega))),_,_,rfl,rfl,_,rfl,?_⟩;apply share (S:=fun u H4=>Same H3 H4/\H4 u=some (.lst ((iz I q).map V.int)))
   ·intro fin hc
    refine⟨_,rfl,d,rfl,⟨_,SqL.of T.at_⟩,fun D hD=>zx (l5 (xs:=I.map V.int) (fun j σ ys H4=>∃v,σ=[v]/\Same H3 H4/\H4 D=some (.lst ys)/\ys=((I.take j).map fun x=>-x).map V.int) ⟨none,rfl,Same.new hD,zc,rfl⟩ ?_ ?_ ?_)⟩
    ·rintro j σ ys H4 ⟨v,rfl,sm,_⟩
     exact SqL.of (sm _ _ T.at_)
    ·rintro j σ ys H4 x hx hj hy ⟨v,rfl,sm,b_,rfl⟩
     obtain⟨y,gy,rfl⟩:=ie hx;refine cL ⟨_,rfl,_,rfl,bN (by rw[Aa];exact zv ω) hj hy b_ ⟨_,rfl,sm.then hD,zc,?_⟩⟩;rw[Bk gy,At,At];rfl
    ·rintro σ ys H4 ⟨v,rfl,sm,b_,rfl⟩
     refine fin D H4 ⟨sm,?_⟩;rw[b_,Aa,Ar (Ad _)];unfold iz;rw[if_neg fun h=>hc (decide_eq_true h)]
   ·intro fin hc
    refine⟨_,rfl,fin d H3 ⟨Same.refl _,?_⟩⟩;unfold iz;rw[if_pos (of_decide_eq_true hc)];exact T.at_
   ·rintro u H4 ⟨s4,nE⟩
    have S0:=T.ts.full L.hB hq T.low T.nz;have hqe:q∉es.map (·.1):=fun h=>hq (T.pls.pm.mem_iff.mpr h);have F4:=T.fnd.same s4;have BC:=T.pls.len;have zP:=FS.len;have zN:=L.few;obtain⟨H5,dp,F5,o5⟩:=F4.put (H2:=H4) (p:=q) nE ω;refine⟨_,rfl,_,rfl,a,H5,rfl,dp,?_⟩;have lu:(iz I q).length=W:=by rw[Nv];exact T.len
    have ef:vF (bO fr q (iz I q))=Tb.put (vF fr) q (Tb.up (vc I) q):=by rw[E_,Nu]
    rw[<-ef] at S0;have dX:Pls (ci es q u) (Tb.ins q PP):=⟨by rw[C_,if_neg hqe];exact I_.trans (T.pls.pm.append_right [q]),S0.srt.imp fun h=>Nat.le_of_lt h⟩;have gO:Wid W (Tb.ins q PP) (bO fr q (iz I q)):=by
     refine⟨mW,fun p hp=>?_⟩;unfold bO;rcases Tb.mem_ins.mp hp with rfl|h
     ·rw[if_pos rfl];exact⟨T.qW,lu⟩
     ·have:p≠q:=fun z=>hq (z▸h)
      rw[if_neg this];exact T.wid.row p h
    have fra5:Fra a H H5:=T.fra.trans ((Fra.of s4).trans fun b o hb e=>by rw[o5 b hb];exact e);have lQ:(Tb.ins q PP).length=PP.length+1:=Tb.E7;clear o5 dp F4 nE s4 ef;generalize bO fr q (iz I q)=f0 at S0 F5 gO;generalize ci es q u=es0 at F5 dX;generalize Tb.ins q PP=QQ at S0 dX gO lQ;refine⟨_,rfl,a,eF es0,rfl,F5.at_,(by have:=dX.len;simp;(first|lia|omega)),fun PL ms pm so dD=>?_⟩;rw[dX.ints pm so];have sP:=Same.new (o:=.lst (QQ.map fun p:Nat=>V.int (p:Int))) dD;refine⟨_,rfl,PL,_,rfl,.inl (SqL.of zc),_,_,rfl,rfl,_,rfl,_,rfl,_,_,rfl,⟨by rw[Aa];(first|lia|omega),by rw[Aa];(first|lia|omega),ω,ω⟩,?_⟩;have i_:(((QQ.map fun p:Nat=>V.int (p:Int)).length:Nat):Int)=(QQ.length:Int):=by rw[Aa]
    refine IY (fun i σ H6=>∃(es:List (Nat×Addr))(fr:Nat->List Int)(v7:Option V),σ=[some (.ref a),some (.ref r),some (.ref d),some (.int q),v4,v5,some (.ref PL),v7]/\Fra a H H6/\Fnd H6 a es fr/\Pls es QQ/\Wid W QQ fr/\H6 PL=some (.lst (QQ.map fun p:Nat=>V.int (p:Int)))/\vF fr=Tb.bA (vF f0) (QQ.drop (QQ.length-i)))
     ⟨es0,f0,none,rfl,fra5.trans (.of sP),F5.same sP,dX,gO,zc,by rw[Nat.sub_zero,List.drop_length];rfl⟩ ?_ ?_
    ·rintro i σ H6 hi ⟨ju,f6,v7,rfl,gC,F6,cu,bR,df,hv⟩
     have hiQ:i<QQ.length:=ω
     obtain⟨O,j7⟩:∃O,O=QQ.length-1-i:=⟨_,rfl⟩;have j9:O<QQ.length:=ω
     rw[show(((QQ.map fun p:Nat=>V.int (p:Int)).length:Nat):Int)-1-((i:Nat):Int)=((O:Nat):Int) by rw[i_];(first|lia|omega)];have gk:(QQ.map fun p:Nat=>V.int (p:Int))[O]?=some (V.int ((QQ[O]:Nat):Int)):=by rw[Aj,Ab j9];rfl
     have eQ:QQ=QQ.take O++QQ[O]::QQ.drop (O+1):=by rw[<-List.drop_eq_getElem_cons j9,List.take_append_drop]
     have ed:QQ.drop (QQ.length-i)=QQ.drop (O+1):=by rw[show QQ.length-i=O+1 from ω]
     have ed2:QQ.drop (QQ.length-(i+1))=QQ[O]::QQ.drop (O+1):=by rw[show QQ.length-(i+1)=O from ω];exact List.drop_eq_getElem_cons j9
     rw[ed] at hv;rw[ed2];have ip:QQ[O]∈QQ:=AB j9;have sub:∀p∈QQ.drop (O+1),p∈QQ:=fun p hp=>List.mem_of_mem_drop hp;generalize iZ:QQ.drop (O+1)=ps at eQ hv ed ed2 sub ⊢;generalize QQ[O]=p at gk eQ ed2 ip ⊢;have rQ:p∉ps:=fun h=>by
      have s:=S0.srt;rw[eQ,List.pairwise_append] at s;exact Nat.lt_irrefl p ((List.pairwise_cons.mp s.2.1).1 p h)
     obtain⟨e1,bd,rp⟩:=S0.tail L.hB L.bd (pre:=QQ.take O++[p]) (ps:=ps) (by rw[List.append_assoc];exact eQ);have cc:Tb.cC N X B<=Tb.cE N M X B:=Af (by unfold Tb.cK;(first|lia|omega)) (Af (Tb.FP L.hB) Tb.qa);have oo:vc (f6 p)=vF f0 p:=by
      have:vF f6 p=vF f0 p:=by rw[hv,Tb.Ih rQ]
      exact this
     have ok6:kA f6 W (f6 p) ps:=by
      refine FQ (CE:=Tb.cE N M X B) L.hR eC (fun U J=>?_) (fun U J=>?_) (fun U J=>?_) (bR.sub sub) (bR.row p ip).2 (fun j=>?_) L.lim
      ·rw[hv];exact(rp U J).mono cc
      ·rw[hv];exact e1.pos U J
      ·rw[hv];exact pv (bd U J U (sub U J))
      ·rw[hv,oo];exact S0.met L.hB L.bd eQ j
     obtain⟨c,hc,gc,aE⟩:=F6.get (cu.pm.mem_iff.mp ip);refine⟨_,rfl,_,rfl,_,rfl,PL,_,_,_,rfl,rfl,SqL.of df,zi gk,a,_,rfl,gc,_,rfl,_,rfl,_,rfl,_,_,rfl,rfl,_,rfl,PL,_,rfl,SqL.of df,fun SL yp=>?_⟩;rw[show((O:Nat):Int)+1=((O+1:Nat):Int) from ω,m8,<-List.map_drop,iZ];have sS:=Same.new (o:=.lst (ps.map fun p:Nat=>V.int (p:Int))) yp;refine⟨c,a,SL,f6 p,ju,f6,ps,W,rfl,sS _ _ aE,F6.same sS,zc,fun U J=>cu.pm.mem_iff.mp (sub U J),ok6,fun D H8 s8 nh=>?_⟩;have z6:=cu.len;obtain⟨H9,dp,F9,o9⟩:=((F6.same sS).same s8).put (H2:=H8) (p:=p) nh ω;have uY:PL≠a:=FR F6 df;refine⟨_,rfl,_,rfl,_,rfl,PL,_,_,_,rfl,rfl,SqL.of ((sS.trans s8) _ _ df),zi gk,a,H9,rfl,dp,ci ju p D,bO f6 p (aQ f6 (f6 p) ps),_,rfl,?_,F9,⟨?_,cu.so⟩,?_,?_,?_⟩
     ·exact gC.trans ((Fra.of (sS.trans s8)).trans fun b o hb e=>by rw[o9 b hb];exact e)
     ·rw[C_,if_pos (cu.pm.mem_iff.mp ip)];exact cu.pm
     ·exact bR.put (pu (bR.row p ip).2 fun U J=>(bR.row U (sub U J)).2)
     ·rw[o9 PL uY];exact(sS.trans s8) _ _ df
     ·rw[E_,pO (bR.row p ip).2 (fun U J=>(bR.row U (sub U J)).2),hv,oo];rfl
    ·rintro σ H6 ⟨ju,f6,v7,rfl,gC,F6,cu,bR,df,hv⟩
     rw[show QQ.length-((((QQ.map fun p:Nat=>V.int (p:Int)).length:Nat):Int)-1 - -1).toNat=0 by rw[i_];(first|lia|omega),List.drop_zero] at hv;refine k H6 ju f6 QQ gC F6 cu bR ?_;rw[hv];exact S0.done L.hB L.bd
end
abbrev jD:Stmt:=top 29
section
variable{P:Program}{w:World}{K:Ag}{mg:Str->Option Value}{base:Heap}
structure Jb(N M X B Y W:Nat)(tb:Ξ):Prop where
 most:W<=1000
 few:tb.length<=N
 len:∀r∈tb,r.length=W
 lim:∀i,i<tb.length->I0 N M X B Y ((tb.take (i+1)).map vc)
 row:∀i r,tb[i]?=some r->∀Q f,Tb.FS N M X B ((tb.take i).map vc) Q f->∀p∈Q,(vc r p).natAbs<=M
def Jc:Sp:=fun vs H Q _=>∃(L:Addr)(rs:List Addr)(tb:Ξ)(N M X B Y W:Nat),vs=[.ref L]/\H L=some (.lst (rs.map V.ref))/\Rws H rs tb/\Jb N M X B Y W tb/\
 ∀a H' es fr P,Same H H'->H a=none->Fnd H' a es fr->Pls es P->Wid W P fr->Tb.FS N M X B (tb.map vc) P (vF fr)->Q (.ref a) H'
def FT:zp ["rows","found","row"] ["rows"] (zg jD):=⟨rfl,rfl,rfl,δ,rfl,δ,δ⟩
def Fra.same{a:Addr}{H H1 H2:Hp}{o:HO}(h:Fra a H1 H2)(e:H1=upd H a o)(c:H a=none):Same H H2:=fun b v hb=>by
 have n:b≠a:=fun z=>by rw[z,c] at hb;cases hb
 exact h b v n (by rw[e,af n];exact hb)
def Nx{f l:Addr}{fd q:FuncData}(F:Fun K "echelon_of" "echelon_of" jD f fd)(Ft:Fun K "take_in" "take_in" De l q)(bt:Binds K q ["found","row"] [])(mt:mg "take_in"=some (.ref l))(Gt:ai P w K mg base aw 3 l q ["found","row"] Ja):ai P w K mg base aw 4 f fd ["rows"] Jc:=by
 refine F.ok FT (fun vs H Q E h=>?_) (fun ak A outer s H vs Q E hr h=>?_)
 ·obtain⟨L,rs,tb,N,M,X,B,Y,W,rfl,_⟩:=h;rfl
 ·obtain⟨L,rs,tb,N,M,X,B,Y,W,rfl,u,v,ok,k⟩:=h
  refine⟨_,ze (zq (i:=1) FT.nd rfl (Or.inl rfl) LF)
   (ze (hA Bl rfl (zI (pv 0)) (zl (i:=2) FT.nd rfl (Or.inl rfl))
    (zh (iN (zf Gt hr rfl mt Ft.kp bt .nil ac (za (pv 1) (za (pv 2) zb))))))
   (zh (zr (pv 1)))),?_⟩
  refine fun a d=>⟨_,rfl,L,rfl,⟨_,SqL.of (Same.new d _ _ u)⟩,CA (K:=K) (a:=L) (xs:=rs.map V.ref) (fun i σ H2=>∃(g:Option V)(es:List (Nat×Addr))(fr:Nat->List Int)(c:List Nat),σ=[some (.ref L),some (.ref a),g]/\Fra a (upd H a (.dK [])) H2/\Fnd H2 a es fr/\Pls es c/\Wid W c fr/\Tb.FS N M X B ((tb.take i).map vc) c (vF fr))
   ⟨none,[],fun _=>[],[],rfl,fun _ _ _ e=>e,⟨zc,List.nodup_nil,fun e z=>nomatch z⟩,⟨.refl _,.nil⟩,⟨ok.most,fun p hp=>nomatch hp⟩,Tb.FS.start⟩ (fun i σ H2 _ ⟨_,_,_,_,_,b,_⟩=>SqL.of ((b.same rfl d) _ _ u)) ?_ ?_⟩
  ·rintro i x σ H2 hx ⟨g,es,fr,c,rfl,b,r,pls,j,FS⟩
   obtain⟨o,S,rfl⟩:=kd hx;obtain⟨rn,er,T⟩:=v.get S;have hi:i<tb.length:=(List.getElem?_eq_some_iff.mp er).1;have y:=ok.lim i hi;rw[Bk er,At] at y;have U:=ok.few;refine⟨_,rfl,_,rfl,a,o,rn,es,fr,c,N,M,X,B,Y,W,_,rfl,(b.same rfl d) _ _ T,r,pls,j,ok.len rn (Ak er),FS,by rw[Aa,Bo];(first|lia|omega),ok.row i rn er c (vF fr) FS,y,fun H3 C D P3 G F3 I J O=>?_⟩;refine⟨_,C,D,P3,rfl,b.trans G,F3,I,J,?_⟩;rw[Bk er,At];exact O
  ·rintro σ H2 ⟨g,es,fr,c,rfl,b,r,pls,j,FS⟩
   have Z:=v.len;rw[Aa,Z,Ar (Ad _)] at FS;exact⟨_,rfl,k a H2 es fr c (b.same rfl d) d r pls j FS⟩
end
end K23
end
section
namespace L2
open PySem PySem.Spec PyProof.Rows
def Ny{K:Ag}{c d:Addr}{xs ys:List V}{g:TG}{tb:TS}{D:Ends}{σ:St}{H:Hp}(a:Nat->St->Hp->Prop)(v:a 0 σ H)(w:∀i σ H,a i σ H->SqL K H c xs/\SqL K H d ys)(z:∀i x y p σ H,xs[i]?=some x->ys[i]?=some y->H p=none->a i σ H->g (.ref p) σ (upd H p (.tup [x,y])) fun f H2=>tb {D with nx:=a (i+1),ct:=a (i+1),bk:=D.nx} f H2)(hd:∀σ H,a (min xs.length ys.length) σ H->D.nx σ H):∃W:Nat->Nat->St->Hp->Prop,(∃m,W 0 m σ H)/\∀i m σ H,W i m σ H->
   ((d0 K c d).stop i H/\D.nx σ H)\/((d0 K c d).go i H/\∃N:St->Hp->Prop,(∀h H',N h H'->∃o,o<m/\W (i+1) o h H')/\∀x H',(d0 K c d).yld i H x H'->g x σ H' fun f H2=>tb {D with nx:=N,ct:=N,bk:=D.nx} f H2):=by
 refine⟨fun i m σ H=>m=min xs.length ys.length-i/\i<=min xs.length ys.length/\a i σ H,⟨_,rfl,Az _,v⟩,?_⟩;rintro i m σ H ⟨rfl,hi,p⟩;obtain⟨j,l⟩:=w i σ H p
 by_cases b:i<min xs.length ys.length
 ·refine .inr ⟨⟨xs,ys,j,l,b⟩,a (i+1),fun h H' q=>⟨_,ω,rfl,b,q⟩,fun x H' y=>?_⟩
  obtain⟨pp,x,r,rfl,hp,rfl,s,u⟩:=y;exact z i x r pp σ H (s xs j) (u ys l) hp p
 ·have e:i=min xs.length ys.length:=ω
  subst e;exact .inl ⟨⟨xs,ys,j,l,rfl⟩,hd σ H p⟩
end L2
namespace K23
open PySem L2
abbrev jG:Stmt:=top 36
def ck(l:List Int)(x:Int×List Int):List Int:=dF l (-x.1) x.2
def gf(w:Nat)(ns:List Int)(tb:Ξ):List Int:=(ns.zip tb).foldl ck (Ay w 0)
def Jd{l:List Int}{x:Int×List Int}{w:Nat}(h:l.length=w)(h2:x.2.length=w):(ck l x).length=w:=by unfold ck dF;rw[AG];(first|lia|omega)
def Nz{l row:List Int}(h:l.length=row.length):ck l (0,row)=l:=EY h
def FU{w:Nat}:∀{zs:List (Int×List Int)}{l:List Int},l.length=w->(∀z∈zs,z.2.length=w)->(zs.foldl ck l).length=w
 |[],_,h,_=>h
 |z::zs,l,h,h2=>FU (zs:=zs) (Jd h (h2 z (Aq ..))) fun y hy=>h2 y (Ao _ hy)
section
variable{P:Program}{w:World}{K:Ag}{mg:Str->Option Value}{base:Heap}
def FV:Sp:=fun vs H Q _=>∃(a L:Addr)(ns:List Int)(rs:List Addr)(tb:Ξ),vs=[.ref a,.ref L]/\H a=some (.lst (ns.map V.int))/\H L=some (.lst (rs.map V.ref))/\Rws H rs tb/\wid tb<=1000/\(∀r∈tb,r.length=wid tb)/\
 (∀z∈ns.zip tb,∀x∈z.2,ey (-z.1) x)/\mI H Q (gf (wid tb) ns tb)
def wh:zp ["numbers","rows","told","often","row"] ["numbers","rows"] (zg jG):=⟨rfl,rfl,rfl,δ,rfl,δ,δ⟩
def NA{f v C:Addr}{fd G I:FuncData}(F:Fun K "mix_of" "mix_of" jG f fd)(bz:mg "zip"=none)(Fw:Fun K "width_of" "width_of" kc v G)(bw:Binds K G ["table"] [])(mw:mg "width_of"=some (.ref v))(Gw:ai P w K mg base aw 1 v G ["table"] (l' K))(Fl:Fun K "less" "less" kh C I)(bl:Binds K I ["row","often","other"] [])(ml:mg "less"=some (.ref C))(Gl:ai P w K mg base aw 1 C I ["row","often","other"] va):ai P w K mg base aw 2 f fd ["numbers","rows"] FV:=by
 refine F.ok wh (fun vs H Q E h=>?_) (fun ak A outer s H vs Q E hr h=>?_)
 ·obtain⟨a,L,ns,rs,tb,rfl,_⟩:=h;rfl
 ·obtain⟨a,L,ns,rs,tb,rfl,M,c,g,hw,N,Y,k⟩:=h
  refine⟨_,ze (zq (i:=2) wh.nd rfl (Or.inl rfl) (zA Eo (dB (za zd zb)) (zf Gw hr rfl mw Fw.kp bw .nil ac (za (pv 1) zb))))
   (ze (hA Bl rfl (pq rfl bz mD (za (pv 0) (za (pv 1) zb))) (gZ rfl (zB (zl (i:=3) wh.nd rfl (Or.inl rfl)) (zB (zl (i:=4) wh.nd rfl (Or.inl rfl)) gU)))
    (zh (cn (zt lJ (pv 3) zd (ar _))
     (zh (zq (i:=2) wh.nd rfl (Or.inl rfl) (zf Gl hr rfl ml Fl.kp bl .nil ac (za (pv 2) (za (j_ kb (pv 3)) (za (pv 4) zb)))))) zJ)))
   (zh (zr (pv 2)))),?_⟩
  refine⟨ξ,fun Z S=>?_⟩;have b:=Same.new (o:=.lst [.int 0]) S;refine⟨_,rfl,L,rs,tb,rfl,SqL.of (b _ _ c),g.same b,Z,_,_,rfl,rfl,zc,ω,ω,(by rw[sizeLine_eq];simp;(first|lia|omega)),fun T J=>?_⟩;have sT:=Same.new (o:=.lst (Ay ((wid tb:Nat):Int).toNat [V.int 0]).flatten) J;have r:=b.trans sT;have eM:H T=none:=b.free J;have eT:(Ay ((wid tb:Nat):Int).toNat [V.int 0]).flatten=(Ay (wid tb) (0:Int)).map V.int:=by
   rw[Int.toNat_natCast,List.map_replicate];generalize wid tb=n
   induction n with
   |zero=>rfl
   |succ n ih=>rw[List.replicate_succ,List.flatten_cons,ih,List.replicate_succ];rfl
  have aL:=g.len;refine⟨_,rfl,_,rfl,a,L,rfl,⟨_,SqL.of (r _ _ M)⟩,⟨_,SqL.of (r _ _ c)⟩,Ny (K:=K) (xs:=ns.map V.int) (ys:=rs.map V.ref) (fun i σ H2=>∃(d:Addr)(j l:Option V),σ=[some (.ref a),some (.ref L),some (.ref d),j,l]/\Same H H2/\H d=none/\H2 d=some (.lst ((((ns.zip tb).take i).foldl ck (Ay (wid tb) 0)).map V.int)))
   ⟨T,none,none,rfl,r,eM,by rw[zc,eT];rfl⟩ (fun i σ H2 ⟨_,_,_,_,sm,_⟩=>⟨SqL.of (sm _ _ M),SqL.of (sm _ _ c)⟩) ?_ ?_⟩
  ·rintro i x y p σ H2 hx hy hp ⟨d,j,l,rfl,sm,q,hd⟩
   obtain⟨n,gn,rfl⟩:=ie hx;obtain⟨o,eo,rfl⟩:=kd hy;obtain⟨row,er,ho⟩:=g.get eo;have u:(ns.zip tb)[i]?=some (n,row):=by rw[List.getElem?_zip_eq_some];exact⟨gn,er⟩
   have O:∀z∈ns.zip tb,z.2.length=wid tb:=fun z hz=>N z.2 (List.of_mem_zip hz).2;have ll:(((ns.zip tb).take i).foldl ck (Ay (wid tb) 0)).length=wid tb:=FU (by simp) fun z hz=>O z (Bg hz);have sp:=Same.new (o:=.tup [V.int n,V.ref o]) hp;have e2:((ns.zip tb).take (i+1)).foldl ck (Ay (wid tb) 0)=ck (((ns.zip tb).take i).foldl ck (Ay (wid tb) 0)) (n,row):=by rw[Bk u,List.foldl_append];rfl
   refine⟨p,_,rfl,SqT.of zc,rfl,_,_,rfl,_,_,rfl,rfl,_,rfl,rfl,_,rfl,?_⟩
   by_cases z:n=0
   ·rw[show(!decide (V.int n=V.int 0))=false by rw[z];rfl]
    refine az ⟨d,_,_,rfl,sm.trans sp,q,?_⟩;rw[e2,z,Nz (by rw[ll];exact(O _ (Ak u)).symm)];have h:=sp _ _ hd;rw[z] at h;exact h
   ·rw[show(!decide (V.int n=V.int 0))=true by rw[decide_eq_false (fun e=>z (by injection e))];rfl]
    refine aA ⟨_,rfl,_,rfl,_,rfl,_,rfl,d,o,_,row,-n,rfl,sp _ _ hd,sp _ _ (sm _ _ ho),by rw[N row (Ak er)];exact hw,fun x hx=>Y _ (Ak u) x hx,fun D H4 U W X=>?_⟩;refine⟨D,_,_,rfl,(sm.trans sp).trans U,(sm.trans sp).free W,?_⟩;rw[e2];exact X
  ·rintro σ H2 ⟨d,j,l,rfl,sm,q,hd⟩
   refine⟨_,rfl,k d H2 sm q ?_⟩;rw[hd,Ar (by rw[List.length_zip,Aa,Aa,aL];exact Ad _)]
   rfl
end
end K23
end
section
namespace K23
open PySem L2
abbrev wj:Stmt:=top 22
def bY(ns:List Int)(k w:Nat):List Int:=if k<ns.length then(Ay w (0:Int)).set k (ns.getD k 0) else Ay w 0
def NB{w:Nat}:(Ay ((w:Nat):Int).toNat [V.int 0]).flatten=(Ay w (0:Int)).map V.int:=by
 rw[Int.toNat_natCast,List.map_replicate]
 induction w with
 |zero=>rfl
 |succ n ih=>rw[List.replicate_succ,List.flatten_cons,ih,List.replicate_succ];rfl
section
variable{P:Program}{w:World}{K:Ag}{mg:Str->Option Value}{base:Heap}
def wo:Sp:=fun vs H Q _=>∃(a:Addr)(ns:List Int)(b c:Nat),vs=[.ref a,.int b,.int c]/\H a=some (.lst (ns.map V.int))/\c<=1000/\(b<ns.length->b<c)/\mI H Q (bY ns b c)
def Je:zp ["numbers","k","width","row"] ["numbers","k","width"] (zg wj):=⟨rfl,rfl,rfl,δ,rfl,δ,δ⟩
def NC{f:Addr}{fd:FuncData}(F:Fun K "slope_row" "slope_row" wj f fd)(x:mg "len"=none):ai P w K mg base aw 1 f fd ["numbers","k","width"] wo:=by
 refine F.ok Je (fun vs H Q E h=>?_) (fun y A outer s H vs Q E hr h=>?_)
 ·obtain⟨a,ns,b,j,rfl,_⟩:=h;rfl
 ·obtain⟨a,ns,b,j,rfl,l,hw,hk,k⟩:=h
  refine⟨_,ze (zq (i:=3) Je.nd rfl (Or.inl rfl) (zA Eo (dB (za zd zb)) (pv 2)))
   (ze (cn (zt sQ (pv 1) (zm zj rfl x IZ (za (pv 0) zb)) (ar _))
    (zh (gB (zo zn (pv 0) (pv 1) (fun _ _=>rfl)) (gz (pv 3) (pv 1) set_list))) zJ)
   (zh (zr (pv 3)))),?_⟩
  refine⟨ξ,fun Z q=>?_⟩;have p:=Same.new (o:=.lst [.int 0]) q;refine⟨_,rfl,Z,_,_,rfl,rfl,zc,ω,ω,(by rw[sizeLine_eq];simp;(first|lia|omega)),fun T g=>?_⟩;rw[NB];have r:=Same.new (o:=.lst ((Ay j (0:Int)).map V.int)) g;have d:=p.trans r;have e:H T=none:=p.free g;refine⟨_,rfl,_,rfl,a,_,rfl,.inl (SqL.of (d _ _ l)),_,_,rfl,rfl,_,rfl,?_⟩;rw[Aa]
  by_cases c:b<ns.length
  ·rw[decide_eq_true (show((b:Nat):Int)<((ns.length:Nat):Int) from ω)]
   have u:=hk c;have v:(ns.map V.int)[b]?=some (V.int (ns.getD b 0)):=b8 c;refine aA ⟨_,rfl,_,rfl,a,_,_,_,rfl,rfl,SqL.of (d _ _ l),zi v,_,rfl,_,rfl,T,_,_,b,rfl,rfl,zc,?_,?_⟩
   ·unfold gF
    rw[Aa,List.length_replicate];simp[u]
   ·refine⟨_,rfl,k T _ (d.then e) e ?_⟩
    unfold bY;rw[if_pos c,zc,List.map_set]
  ·rw[decide_eq_false (show ¬((b:Nat):Int)<((ns.length:Nat):Int) from ω)]
   refine az ⟨_,rfl,k T _ d e ?_⟩;unfold bY;rw[if_neg c,zc]
end
end K23
end
section
namespace K23
open PySem L2
abbrev qg:Stmt:=top 21
abbrev ws:Stmt:=top 25
def slpT(ns:List Int)(n w:Nat):Ξ:=(Ah n).map fun k=>bY ns k w
section
variable{P:Program}{w:World}{K:Ag}{mg:Str->Option Value}{base:Heap}
def FW:Sp:=fun vs H Q _=>∃(a:Addr)(ns:List Int)(n b:Nat),vs=[.ref a,.int n,.int b]/\H a=some (.lst (ns.map V.int))/\n<=1000/\b<=1000/\(∀k,k<n->k<ns.length->k<b)/\pi H Q (slpT ns n b)
def ND:zp ["numbers","size","width"] ["numbers","size","width"] (zg qg):=⟨rfl,rfl,rfl,δ,rfl,δ,δ⟩
def NE{f fs:Addr}{fd l:FuncData}(F:Fun K "on_slope" "on_slope" qg f fd)(I:mg "range"=none)(Fs:Fun K "slope_row" "slope_row" wj fs l)(bs:Binds K l ["numbers","k","width"] [])(ms:mg "slope_row"=some (.ref fs))(M:ai P w K mg base aw 1 fs l ["numbers","k","width"] wo):ai P w K mg base aw 2 f fd ["numbers","size","width"] FW:=by
 refine F.ok ND (fun vs H Q E h=>?_) (fun N A outer s H vs Q E hr h=>?_)
 ·obtain⟨a,ns,n,e,rfl,_⟩:=h;rfl
 ·obtain⟨a,ns,n,e,rfl,G,q,hw,hk,k⟩:=h
  refine⟨_,zh (zr (zu ["numbers","size","width"] ["k","numbers","width"] [none,some 0,some 2] (g_ rfl I (za (pv 1) zb)) (fun o C s₀ H₀ ex=>zl (i:=0) (bI ["k","numbers","width"]) rfl (Or.inl rfl)) (fun o C s₀ H₀ ex=>zy)
   (fun o C s₀ H₀ ex=>zf M hr rfl ms Fs.kp bs .nil ac (za (pv 1) (za (pv 0) (za (pv 2) zb)))) (te:=hV wo [] E0 (ca (av 1) (ca (av 0) (ca (av 2) bK)))) (hfr:=bB (zg qg) δ))),?_⟩
  refine⟨_,rfl,_,rfl,ω,ω,fun D p=>?_⟩;refine EM (n:=n) (g:=fun k=>bY ns k e) (fun j H' R r sm u=>⟨_,rfl,_,rfl,_,rfl,a,ns,j,e,rfl,sm _ _ G,hw,hk j r,fun d J v hd x=>u d J v hd x⟩) ω p fun L ds y b c z q=>k D L ds y p b c z q
def unT(n:Nat):Ξ:=slpT (Ay n 1) n n
def FX:Sp:=fun vs H Q _=>∃n:Nat,vs=[.int n]/\n<=1000/\pi H Q (unT n)
def NF:zp ["size"] ["size"] (zg ws):=⟨rfl,rfl,rfl,δ,rfl,δ,δ⟩
def NG{w:Nat}:(Ay ((w:Nat):Int).toNat [V.int 1]).flatten=(Ay w (1:Int)).map V.int:=by
 rw[Int.toNat_natCast,List.map_replicate]
 induction w with
 |zero=>rfl
 |succ n ih=>rw[List.replicate_succ,List.flatten_cons,ih,List.replicate_succ];rfl
def NH{f fs:Addr}{fd c:FuncData}(F:Fun K "unit" "unit" ws f fd)(Fs:Fun K "on_slope" "on_slope" qg fs c)(bs:Binds K c ["numbers","size","width"] [])(ms:mg "on_slope"=some (.ref fs))(u:ai P w K mg base aw 2 fs c ["numbers","size","width"] FW):ai P w K mg base aw 3 f fd ["size"] FX:=by
 refine F.ok NF (fun vs H Q E h=>?_) (fun v A outer s H vs Q E hr h=>?_)
 ·obtain⟨n,rfl,_⟩:=h;rfl
 ·obtain⟨n,rfl,e,k⟩:=h
  refine⟨_,zh (zr (zf u hr rfl ms Fs.kp bs .nil ac (za (zA Eo (dB (za zd zb)) (pv 0)) (za (pv 0) (za (pv 0) zb))))),?_⟩;refine⟨ξ,fun Z g=>?_⟩;have q:=Same.new (o:=.lst [.int 1]) g;refine⟨_,rfl,Z,_,_,rfl,rfl,zc,ω,ω,(by rw[sizeLine_eq];simp;(first|lia|omega)),fun T i=>?_⟩;rw[NG];have r:=Same.new (o:=.lst ((Ay n (1:Int)).map V.int)) i;have b:=q.trans r;refine⟨_,rfl,_,rfl,T,_,n,n,rfl,zc,e,e,fun k hk _=>hk,fun D H' ds sm j l hr p a=>?_⟩;exact k D H' ds (b.trans sm) (b.free j) l hr p fun d hd=>⟨b.free (a d hd).1,(a d hd).2⟩
end
end K23
end
section
namespace K23
open PySem L2
def dot(r c:List Int):Int:=(AA (·*·) r c).sum
def MulOk(r c:List Int):Prop:=∀x∈r,∀y∈c,ey x y
def Jf:A8 "sum"=some (.builtin "sum"):=δ
section
variable{P:Program}{w:World}{K:Ag}{mg:Str->Option Value}{base:Heap}
def FY:Sp:=fun vs H Q _=>∃r c rn a,vs=[.ref r,.ref c]/\H r=some (.lst (rn.map V.int))/\H c=some (.lst (a.map V.int))/\a.length<=1000/\MulOk rn a/\∀H',Same H H'->Q (.int (dot rn a)) H'
def NI:zp ["row","column"] ["row","column"] (zg CY):=⟨rfl,rfl,rfl,δ,rfl,δ,δ⟩
def NJ{f:Addr}{fd:FuncData}(F:Fun K "sum_by" "sum_by" CY f fd)(v:mg "zip"=none)(bs:mg "sum"=none):ai P w K mg base aw 1 f fd ["row","column"] FY:=by
 refine F.ok NI (fun vs H Q E h=>?_) (fun y A outer s H vs Q E hr h=>?_)
 ·obtain⟨r,c,rn,l,rfl,_⟩:=h;rfl
 ·obtain⟨r,c,rn,l,rfl,h1,h2,n2,sm,k⟩:=h
  refine⟨_,zh (zr (zm (HF rfl) rfl bs Jf (za (zu ["row","column"] ["number","other"] [none,none] (pq rfl v mD (za (pv 0) (za (pv 1) zb)))
   (fun e C s₀ H₀ ex=>gZ rfl (zB (zl (i:=0) (bI ["number","other"]) rfl (Or.inl rfl)) (zB (zl (i:=1) (bI ["number","other"]) rfl (Or.inl rfl)) gU))) (fun e C s₀ H₀ ex=>zy)
   (fun e C s₀ H₀ ex=>zA my (pv 0) (pv 1)) (te:=bQ (rI ey fun i j=>.int (i*j)) (av 0) (av 1)) (hfr:=b7 δ) (g:=cr K 2 (cD (zL 0) (cD (zL 1) cq)))) zb))),?_⟩
  refine⟨_,rfl,_,rfl,r,c,rfl,⟨_,SqL.of h1⟩,⟨_,SqL.of h2⟩,fun D o=>?_⟩;refine zx (ES (f:=fun a b=>a*b) (fun a b H' R p hb q=>⟨_,rfl,_,rfl,_,_,rfl,rfl,sm a p b hb,q⟩) h1 h2 n2 o fun x u d=>⟨D,AA (·*·) rn l,rfl,SqL.of d,k x u⟩)
def FZ(K:Ag):Sp:=fun vs H Q _=>∃r C rn b a,vs=[.ref r,.ref C]/\H r=some (.lst (rn.map V.int))/\H C=some (.lst (b.map V.ref))/\Rws H b a/\a.length<=1000/\(∀c∈a,c.length<=1000/\MulOk rn c)/\mI H Q (a.map (dot rn))
def NK:zp ["row","columns"] ["row","columns"] (zg uR):=⟨rfl,rfl,rfl,δ,rfl,δ,δ⟩
def NL{f fs:Addr}{fd b:FuncData}(F:Fun K "row_by" "row_by" uR f fd)(Fs:Fun K "sum_by" "sum_by" CY fs b)(bs:Binds K b ["row","column"] [])(ms:mg "sum_by"=some (.ref fs))(L:ai P w K mg base aw 1 fs b ["row","column"] FY):ai P w K mg base aw 2 f fd ["row","columns"] (FZ K):=by
 refine F.ok NK (fun vs H Q E h=>?_) (fun M A outer s H vs Q E hr h=>?_)
 ·obtain⟨r,C,rn,x,y,rfl,_⟩:=h;rfl
 ·obtain⟨r,C,rn,x,y,rfl,z,j,G,n2,l,k⟩:=h
  refine⟨_,zh (zr (zu ["row","columns"] ["column","row"] [none,some 0] (zI (pv 1)) (fun c C s₀ H₀ ex=>zl (i:=0) (bI ["column","row"]) rfl (Or.inl rfl)) (fun c C s₀ H₀ ex=>zy)
   (fun c C s₀ H₀ ex=>zf L hr rfl ms Fs.kp bs .nil ac (za (pv 1) (za (pv 0) zb))) (te:=hV FY [] E0 (ca (av 1) (ca (av 0) bK))) (hfr:=bB (zg uR) δ))),?_⟩
  refine⟨_,rfl,C,rfl,⟨_,SqL.of j⟩,fun D d=>?_⟩;refine zx (uL (mkV:=V.int) (g:=dot rn) (fun o os H' R sm p e q=>⟨_,rfl,_,rfl,r,o,rn,os,rfl,sm _ _ z,p,(l os e).1,(l os e).2,fun I u=>q I u⟩) (SqL.of j) G ω d fun J v a=>k D J v d a)
def F0(K:Ag):Sp:=fun vs H Q _=>∃L C rs tb b a,vs=[.ref L,.ref C]/\H L=some (.lst (rs.map V.ref))/\H C=some (.lst (b.map V.ref))/\Rws H rs tb/\Rws H b a/\tb.length<=1000/\a.length<=1000/\(∀c∈a,c.length<=1000/\∀r∈tb,MulOk r c)/\pi H Q (tb.map fun r=>a.map (dot r))
def NM:zp ["table","columns"] ["table","columns"] (zg pc):=⟨rfl,rfl,rfl,δ,rfl,δ,δ⟩
def NN{f fr:Addr}{fd e:FuncData}(F:Fun K "rows_by" "rows_by" pc f fd)(Fr:Fun K "row_by" "row_by" uR fr e)(U:Binds K e ["row","columns"] [])(W:mg "row_by"=some (.ref fr))(Y:ai P w K mg base aw 2 fr e ["row","columns"] (FZ K)):ai P w K mg base aw 3 f fd ["table","columns"] (F0 K):=by
 refine F.ok NM (fun vs H Q E h=>?_) (fun Z A outer s H vs Q E hr h=>?_)
 ·obtain⟨L,C,rs,tb,q,b,rfl,_⟩:=h;rfl
 ·obtain⟨L,X,rs,tb,q,b,rfl,u,O,S,T,z1,n2,v,k⟩:=h
  refine⟨_,zh (zr (zu ["table","columns"] ["row","columns"] [none,some 1] (zI (pv 0)) (fun l C s₀ H₀ ex=>zl (i:=0) (bI ["row","columns"]) rfl (Or.inl rfl)) (fun l C s₀ H₀ ex=>zy)
    (fun l C s₀ H₀ ex=>zf Y hr rfl W Fr.kp U .nil ac (za (pv 0) (za (pv 1) zb))) (te:=hV (FZ K) [] E0 (ca (av 0) (ca (av 1) bK))) (hfr:=bB (zg pc) δ))),?_⟩
  refine⟨_,rfl,L,rfl,⟨_,SqL.of u⟩,fun D p=>?_⟩;refine zx (pf (g:=fun r=>b.map (dot r)) (fun o os H' R sm x y z=>⟨_,rfl,_,rfl,o,X,os,q,b,rfl,x,sm _ _ O,T.same sm,n2,fun c hc=>⟨(v c hc).1,(v c hc).2 os y⟩,fun d j a hd G=>z d j a hd G⟩)
    (SqL.of u) S ω p fun j ds a I J M N=>?_)
  exact k D j ds a p I J M N
end
end K23
end
section
namespace K23
open PySem L2
section
variable{P:Program}{w:World}{K:Ag}{mg:Str->Option Value}{base:Heap}
def NO{H2:Hp}{w L2 D:Addr}{rs ss:List Addr}{tb ub:Ξ}{Q:VK}{g:List Int->List Int->List Int}{te:TE}{c:List (Option V)}(L:∀(o u:Addr)(os us:List Int)(H:Hp)(R:VK),Same H2 H->H o=some (.lst (os.map V.int))->H u=some (.lst (us.map V.int))->os∈tb->us∈ub->(∀d H',Same H H'->H d=none->H' d=some (.lst ((g os us).map V.int))->R (.ref d) H')->te (some (.ref o)::some (.ref u)::c) H R)(h1:H2 w=some (.lst (rs.map V.ref)))(h2:H2 L2=some (.lst (ss.map V.ref)))(r:Rws H2 rs tb)(s:Rws H2 ss ub)(hz:ub.length<=1000)(v:H2 D=none)(k:∀a ds,Same H2 a->a D=some (.lst (ds.map V.ref))->Rws a ds (AA g tb ub)->ds.Nodup->(∀d∈ds,H2 d=none/\d≠D)->Q (.ref D) a):cH (d0 K w L2) (cr K 2 (cD (zL 0) (cD (zL 1) cq))) bM te (none::none::c) H2 D Q:=by
 have I:=r.len;have J:=s.len;refine EQ (K:=K) (xs:=rs.map V.ref) (ys:=ss.map V.ref) (fun i σ zs a=>∃(h j:Option V)(ds:List Addr),σ=h::j::c/\Same H2 a/\a D=some (.lst zs)/\zs=ds.map V.ref/\Rws a ds ((AA g tb ub).take i)/\ds.Nodup/\∀d∈ds,H2 d=none/\d≠D)
  ⟨none,none,[],rfl,Same.new v,zc,rfl,.nil,.nil,fun d hd=>nomatch hd⟩ (fun i σ zs a ⟨_,_,_,_,sm,_⟩=>⟨SqL.of (sm _ _ h1),SqL.of (sm _ _ h2)⟩) ?_ ?_
 ·rintro i σ zs a y M N e1 e2 hi z ⟨h,j,ds,rfl,e,b,rfl,hr,l,p⟩ q
  obtain⟨o,g1,rfl⟩:=kd e1;obtain⟨u,g2,rfl⟩:=kd e2;obtain⟨os,f1,A⟩:=r.get g1;obtain⟨us,f2,C⟩:=s.get g2;have sp:=Same.new (o:=.tup [V.ref o,V.ref u]) q;refine⟨y,_,rfl,SqT.of zc,rfl,_,_,rfl,_,_,rfl,rfl,ge ?_⟩;refine L o u os us _ _ (e.trans sp) (sp _ _ (e _ _ A)) (sp _ _ (e _ _ C)) (Ak f1) (Ak f2) fun d O f hd x=>?_;obtain⟨E,F,G⟩:=EL (D:=D) (o:=.lst (ds.map V.ref++[.ref d])) (e.trans sp) (hr.same sp) l p f hd (by rw[sp _ _ b];simp) x;refine bN (Af (Nat.min_le_right _ _) (by rw[Aa];exact zv ω)) hi z ((sp.trans f) _ _ b) ⟨_,_,ds++[d],rfl,((e.trans sp).trans f).then v,zc,by simp,?_,F,G⟩;have e3:(AA g tb ub)[i]?=some (g os us):=by rw[List.getElem?_zipWith,f1,f2]
  rw[Bk e3];exact E
 ·rintro σ zs a ⟨h,j,ds,rfl,e,b,rfl,hr,l,p⟩
  rw[Ar (by simp[I,J])] at hr;exact k a ds e b hr l p
end
end K23
end
section
namespace K23
open PySem L2
abbrev ww:Stmt:=top 19
def zX(tb:Ξ)(n:Nat):Bool:=decide (tb.length=n)&&tb.all fun r=>decide (r.length=n)
section
variable{P:Program}{w:World}{K:Ag}{mg:Str->Option Value}{base:Heap}
def Dh(K:Ag):Sp:=fun vs H Q _=>∃L rs tb,∃n:Nat,vs=[.ref L,.int n]/\SqL K H L (rs.map V.ref)/\Rws H rs tb/\tb.length<=1000/\∀H',Same H H'->Q (.bl (zX tb n)) H'
def NP:zp ["table","size"] ["table","size"] (zg ww):=⟨rfl,rfl,rfl,δ,rfl,δ,δ⟩
abbrev wy(K:Ag):TE:=bQ rX (iR (CW K) (ca (av 0) bK)) (av 1)
def NQ{f:Addr}{fd:FuncData}(F:Fun K "is_of_size" "is_of_size" ww f fd)(bl:mg "len"=none)(x:mg "all"=none):ai P w K mg base aw 1 f fd ["table","size"] (Dh K):=by
 refine F.ok NP (fun vs H Q E h=>?_) (fun z A outer s H vs Q E hr h=>?_)
 ·obtain⟨L,rs,tb,n,rfl,_⟩:=h;rfl
 ·obtain⟨L,rs,tb,n,rfl,b,j,hz,k⟩:=h
  refine⟨_,zh (zr (rm (e_ dz (zm zj rfl bl cp (za (pv 0) zb)) (pv 1) (ar _))
   (rj (zm (oG rfl) rfl x pa (za (zu ["table","size"] ["row","size"] [none,some 1] (zI (pv 0)) (fun d C s₀ H₀ ex=>zl (i:=0) (bI ["row","size"]) rfl (Or.inl rfl)) (fun d C s₀ H₀ ex=>zy)
    (fun d C s₀ H₀ ex=>e_ dz (zm zj rfl bl cp (za (pv 0) zb)) (pv 1) (ar _)) (te:=wy K) (hfr:=bB (zg ww) δ)) zb))))),?_⟩
  have v:=j.len;refine⟨_,rfl,L,_,rfl,.inl b,_,rfl,rfl,?_⟩;rw[Aa,v,show decide (V.int ((tb.length:Nat):Int)=V.int (n:Int))=decide (tb.length=n) from by rw[Bm];simp;(first|lia|omega)];refine⟨_,rfl,?_⟩
  by_cases c:tb.length=n
  ·rw[decide_eq_true c]
   refine aA ⟨_,rfl,L,rfl,⟨_,b⟩,fun D l=>?_⟩;refine zx (uL (mkV:=V.bl) (g:=fun r=>decide (r.length=n)) (fun o os H' R sm p _ q=>?_) b j hz l fun y u a=>?_)
   ·refine⟨_,rfl,o,_,rfl,.inl (SqL.of p),_,rfl,rfl,?_⟩
    rw[Aa];have:=q H' (Same.refl H');rw[show decide (V.int (os.length:Int)=V.int (n:Int))=decide (os.length=n) from by rw[Bm];simp;(first|lia|omega)];exact this
   ·refine⟨D,_,rfl,SqL.of a,?_⟩
    have e:zX tb n=(tb.map fun r=>decide (r.length=n)).all id:=by
     unfold zX;rw[decide_eq_true c,List.all_map];rfl
    rw[e] at k;exact k y u
  ·rw[decide_eq_false c]
   have e:zX tb n=false:=by unfold zX;rw[decide_eq_false c];rfl
   rw[e] at k;exact az (k H (Same.refl H))
end
end K23
end
section
namespace K23
open PySem L2
abbrev wM:Stmt:=top 20
def cx(ns:List Int)(m:Int):Bool:=!decide (m<(ns.length:Int))&&(ns.all fun x=>decide (0<x))&&(AA (fun a b=>decide (b%a=0)) ns (ns.drop 1)).all id
section
variable{P:Program}{w:World}{K:Ag}{mg:Str->Option Value}{base:Heap}
def NR{H2:Hp}{L D:Addr}{ns:List Int}{Q:VK}{f:Int->Bool}{te:TE}{c:List (Option V)}(h:∀(x:Int)(H:Hp)(R:VK),x∈ns->R (.bl (f x)) H->te (some (.int x)::c) H R)(i:H2 L=some (.lst (ns.map V.int)))(hz:ns.length<=1000)(e:H2 D=none)(k:∀b,Same H2 b->b D=some (.lst ((ns.map f).map V.bl))->Q (.ref D) b):cH (fL K L) (zL 0) bM te (none::c) H2 D Q:=by
 refine l5 (xs:=ns.map V.int) (fun j σ ys b=>∃(v:Option V),σ=v::c/\Same H2 b/\b D=some (.lst ys)/\ys=((ns.take j).map f).map V.bl) ⟨none,rfl,Same.new e,zc,rfl⟩ ?_ ?_ ?_
 ·rintro j σ ys b ⟨v,rfl,sm,a,rfl⟩
  exact SqL.of (sm _ _ i)
 ·rintro j σ ys b x hx g hy ⟨v,rfl,sm,a,rfl⟩
  obtain⟨y,d,rfl⟩:=ie hx;refine cL (h y b _ (Ak d) (bN (by rw[Aa];exact zv ω) g hy a ⟨_,rfl,sm.then e,zc,?_⟩));rw[Bk d,At,At];rfl
 ·rintro σ ys b ⟨v,rfl,sm,a,rfl⟩
  rw[Aa,Ar (Ad _)] at a;exact k b sm a
def NS{H2:Hp}{r o D:Addr}{rn on:List Int}{f:Int->Int->Bool}{te:TE}{c:List (Option V)}{Q:VK}(v:∀(a b:Int)(H:Hp)(R:VK),a∈rn->b∈on->R (.bl (f a b)) H->te (some (.int a)::some (.int b)::c) H R)(h1:H2 r=some (.lst (rn.map V.int)))(h2:H2 o=some (.lst (on.map V.int)))(n2:on.length<=1000)(s:H2 D=none)(k:∀d,Same H2 d->d D=some (.lst ((AA f rn on).map V.bl))->Q (.ref D) d):cH (d0 K r o) (cr K 2 (cD (zL 0) (cD (zL 1) cq))) bM te (none::none::c) H2 D Q:=by
 refine EQ (K:=K) (xs:=rn.map V.int) (ys:=on.map V.int) (fun i σ zs d=>∃j l,σ=j::l::c/\Same H2 d/\d D=some (.lst zs)/\zs=((AA f rn on).take i).map V.bl)
  ⟨none,none,rfl,Same.new s,zc,rfl⟩ (fun i σ zs d ⟨_,_,_,sm,_⟩=>⟨SqL.of (sm _ _ h1),SqL.of (sm _ _ h2)⟩) ?_ ?_
 ·rintro i σ zs d u w x e1 e2 hi hz ⟨j,l,rfl,h,e,rfl⟩ g
  obtain⟨p,g1,rfl⟩:=ie e1;obtain⟨q,g2,rfl⟩:=ie e2;refine⟨u,_,rfl,SqT.of zc,rfl,_,_,rfl,_,_,rfl,rfl,ge ?_⟩;refine v p q _ _ (Ak g1) (Ak g2) (bN (Af (Nat.min_le_right _ _) (by rw[Aa];exact zv ω)) hi hz (by rw[af (zk e g)];exact e) ⟨_,_,rfl,?_,zc,?_⟩)
  ·exact(h.then (h.free g)).then s
  ·have e3:(AA f rn on)[i]?=some (f p q):=by rw[List.getElem?_zipWith,g1,g2]
   rw[Bk e3,At];rfl
 ·rintro σ zs d ⟨j,l,rfl,h,e,rfl⟩
  refine k d h ?_;rw[e,Ar (by simp)]
end
end K23
end
section
namespace K23
open PySem L2
section
variable{P:Program}{w:World}{K:Ag}{mg:Str->Option Value}{base:Heap}
def F7:Sp:=fun vs H Q _=>∃(L:Addr)(ns:List Int)(m:Int),vs=[.ref L,.int m]/\H L=some (.lst (ns.map V.int))/\ns.length<=1000/\∀H',Same H H'->Q (.bl (cx ns m)) H'
def NU:zp ["steps","most"] ["steps","most"] (zg wM):=⟨rfl,rfl,rfl,δ,rfl,δ,δ⟩
def NV{f:Addr}{fd:FuncData}(F:Fun K "are_steps" "are_steps" wM f fd)(bl:mg "len"=none)(v:mg "all"=none)(N:mg "zip"=none):ai P w K mg base aw 1 f fd ["steps","most"] F7:=by
 refine F.ok NU (fun vs H Q E h=>?_) (fun W A outer s H vs Q E hr h=>?_)
 ·obtain⟨L,ns,m,rfl,_⟩:=h;rfl
 ·obtain⟨L,ns,m,rfl,j,hz,k⟩:=h
  refine⟨_,ze (cn (PW.pt (nY (zt hH (zm zj rfl bl cp (za (pv 0) zb)) (pv 1) (ar _))
    (nW (gt (fG (zm (oG rfl) rfl v pa (za (zu ["steps","most"] ["step"] [none] (zI (pv 0)) (fun l C s₀ H₀ ex=>zl (i:=0) (bI ["step"]) rfl (Or.inl rfl)) (fun l C s₀ H₀ ex=>zy)
     (fun l C s₀ H₀ ex=>e_ hH (pv 0) zd (ar _)) (hfr:=b7 δ)) zb))))))) (zh (zr fC)) zJ)
   (zh (zr (zm (oG rfl) rfl v pa (za (zu ["steps","most"] ["low","high"] [none,none] (pq rfl N mD (za (pv 0) (za (ol CH (pv 0) (oj zd) oh) zb)))
    (fun l C s₀ H₀ ex=>gZ rfl (zB (zl (i:=0) (bI ["low","high"]) rfl (Or.inl rfl)) (zB (zl (i:=1) (bI ["low","high"]) rfl (Or.inl rfl)) gU))) (fun l C s₀ H₀ ex=>zy)
    (fun l C s₀ H₀ ex=>e_ dz (zA j' (pv 1) (pv 0)) zd (ar _)) (hfr:=b7 δ) (g:=cr K 2 (cD (zL 0) (cD (zL 1) cq)))) zb)))),?_⟩
  refine⟨_,rfl,L,_,rfl,.inl (SqL.of j),_,rfl,_,_,rfl,rfl,_,rfl,?_⟩;rw[Aa]
  by_cases c:m<(ns.length:Int)
  ·rw[decide_eq_true c]
   refine aA (aA ?_);have:cx ns m=false:=by unfold cx;rw[decide_eq_true c];rfl
   rw[this] at k;exact k H (Same.refl H)
  rw[decide_eq_false c];refine az ⟨_,rfl,L,rfl,⟨_,SqL.of j⟩,fun D y=>zx (NR (f:=fun x=>decide (0<x)) (fun x H' R _ q=>⟨_,rfl,_,_,rfl,rfl,q⟩) j hz y fun O p r=>⟨D,_,rfl,SqL.of r,_,rfl,?_⟩)⟩
  by_cases d:(ns.map fun x=>decide (0<x)).all id=true
  ·rw[d]
   refine az ⟨_,rfl,_,rfl,_,rfl,L,_,rfl,SqL.of (p _ _ j),fun S z=>?_⟩;rw[show(some (1:Int))=some ((1:Nat):Int) from rfl,m8,<-List.map_drop];have u:=Same.new (o:=.lst ((ns.drop 1).map V.int)) z;have pos:∀x∈ns,0<x:=fun x hx=>by
    rw[List.all_map,AZ] at d;exact of_decide_eq_true (d x hx)
   refine⟨L,S,rfl,⟨_,SqL.of ((p.trans u) _ _ j)⟩,⟨_,SqL.of zc⟩,fun T G=>zx (NS (f:=fun a b=>decide (b%a=0)) (fun a b H' R I hb q=>?_) ((p.trans u) _ _ j) zc (by rw[List.length_drop];(first|lia|omega)) G fun U J M=>⟨T,_,rfl,SqL.of M,?_⟩)⟩
   ·refine⟨_,rfl,_,rfl,_,_,rfl,rfl,pos a I,rfl,?_⟩
    rw[show decide (V.int (b%a)=V.int 0)=decide (b%a=0) from by rw[Bm];simp];exact q
   ·have e:cx ns m=(AA (fun a b=>decide (b%a=0)) ns (ns.drop 1)).all id:=by
     unfold cx;rw[List.all_map] at d;rw[decide_eq_false c,show(ns.all fun x=>decide (0<x))=true from d];rfl
    rw[e] at k;exact k U ((p.trans u).trans J)
  ·rw[Bool.eq_false_iff.mpr d]
   refine aA ?_;have:cx ns m=false:=by
    unfold cx;rw[List.all_map] at d;rw[show(ns.all fun x=>decide (0<x))=false from Bool.eq_false_iff.mpr d,Bool.and_false];rfl
   rw[this] at k;exact k O p
end
end K23
end
section
namespace K23
open PySem L2
abbrev ez:Stmt:=top 28
def NW(xs:List V)(n:Nat):cJ xs none (some (n:Int))=xs.take n:=by
 unfold cJ;rw[HT.G_,HT.G',List.drop_zero,Nat.sub_zero];rcases Nat.le_total n xs.length with h|h
 ·rw[Nat.min_eq_left h]
 ·rw[Nat.min_eq_right h,Ar (Ad _),Ar h]
structure NT(H H':Hp)(a:Addr)(ds:List Addr)(tb:Ξ):Prop where
 at_:H' a=some (.lst (ds.map V.ref))
 rows:Rws H' ds tb
 nd:ds.Nodup
 na:H a=none
 nw:∀d∈ds,H d=none/\d≠a
def NT.same{H H' H2:Hp}{a:Addr}{ds:List Addr}{tb:Ξ}(h:NT H H' a ds tb)(s:Same H' H2):NT H H2 a ds tb:=⟨s _ _ h.at_,h.rows.same s,h.nd,h.na,h.nw⟩
def NT.old{H0 H H':Hp}{a:Addr}{ds:List Addr}{tb:Ξ}(h:NT H H' a ds tb)(s:Same H0 H):NT H0 H' a ds tb:=⟨h.at_,h.rows,h.nd,s.free h.na,fun d hd=>⟨s.free (h.nw d hd).1,(h.nw d hd).2⟩⟩
def cat(tb ub:Ξ):Ξ:=AA (·++·) tb ub
def i5(n:Nat)(sh a:Ξ):Ξ:=(Ah n).map fun j=>gf n (colAt sh j) a
structure Jg(N M X B Y m n:Nat)(tb ub bc:Ξ):Prop where
 l1:tb.length=n
 l2:ub.length=n
 l3:bc.length=n
 w1:∀r∈tb,r.length=m
 w3:∀r∈bc,r.length=n
 n64:n<=40
 m64:m<=500
 w2:∀r∈ub,r.length=n
 ech:Jb N M X B Y (m+n) (cat tb ub)
 shr:∀P fr,Tb.FS N M X B ((cat tb ub).map vc) P (vF fr)->Wid (m+n) P fr->∀r∈cat tb ub,kA fr (m+n) r P
 mul:∀P fr,Tb.FS N M X B ((cat tb ub).map vc) P (vF fr)->Wid (m+n) P fr->∀r∈cat tb ub,∀x∈shrL fr r P,∀row∈bc,∀y∈row,ey (-x) y
section
variable{P:Program}{w:World}{K:Ag}{mg:Str->Option Value}{base:Heap}
def Jh:Sp:=fun vs H Q _=>∃(t a b c:Addr)(f g h:List Addr)(tb ub d:Ξ)(N M X B Y m n:Nat),vs=[.ref t,.int m]/\H t=some (.tup [.ref a,.ref b,.ref c])/\H a=some (.lst (f.map V.ref))/\H b=some (.lst (g.map V.ref))/\H c=some (.lst (h.map V.ref))/\Rws H f tb/\Rws H g ub/\Rws H h d/\Jg N M X B Y m n tb ub d/\
 ∀P fr t' a' b' e i j l H',Tb.FS N M X B ((cat tb ub).map vc) P (vF fr)->Wid (m+n) P fr->Same H H'->H' t'=some (.tup [.ref a',.ref b',.ref e])->NT H H' a' i (P.map fun p=>(fr p).take m)->NT H H' b' j (P.map fun p=>(fr p).drop m)->NT H H' e l (i5 n ((cat tb ub).map fun r=>shrL fr r P) d)->Q (.ref t') H'
def wR:zp ["side","width","rows","found","fresh","shares"] ["side","width"] (zg ez):=⟨rfl,rfl,rfl,δ,rfl,δ,δ⟩
def NX{H2:Hp}{L D a:Addr}{es:List (Nat×Addr)}{fr:Nat->List Int}{ps:List Nat}{Q:VK}{te:TE}{c:List (Option V)}(l:Fnd H2 a es fr)(E:∀p∈ps,p∈es.map (·.1))(F:∀(p:Nat)(d:Addr)(H:Hp)(R:VK),Same H2 H->DGet H a (.int p) (some (.ref d))->R (.ref d) H->te (some (.int p)::c) H R)(G:H2 L=some (.lst (ps.map fun p:Nat=>V.int (p:Int))))(hz:ps.length<=1000)(g:H2 D=none)(k:∀b ds,Same H2 b->b D=some (.lst (ds.map V.ref))->Rws b ds (ps.map fr)->Q (.ref D) b):cH (fL K L) (zL 0) bM te (none::c) H2 D Q:=by
 refine l5 (xs:=ps.map fun p:Nat=>V.int (p:Int)) (fun j σ ys b=>∃(v:Option V)(ds:List Addr),σ=v::c/\Same H2 b/\b D=some (.lst ys)/\ys=ds.map V.ref/\Rws b ds ((ps.take j).map fr)) ⟨none,[],rfl,Same.new g,zc,rfl,.nil⟩ ?_ ?_ ?_
 ·rintro j σ ys b ⟨v,ds,rfl,sm,f,rfl,_⟩
  exact SqL.of (sm _ _ G)
 ·rintro j σ ys b x hx s hy ⟨v,ds,rfl,sm,f,rfl,hr⟩
  obtain⟨p,hp,rfl⟩:∃p,ps[j]?=some p/\x=V.int (p:Int):=by
   rw[Aj] at hx;cases e:ps[j]? with
   |none=>rw[e] at hx;cases hx
   |some p=>rw[e] at hx;cases hx;exact⟨p,rfl,rfl⟩
  obtain⟨d,hd,u,w⟩:=(l.same sm).get (E p (Ak hp));refine cL (F p d b _ sm u (bN (by rw[Aa];exact zv ω) s hy f ⟨_,ds++[d],rfl,sm.then g,zc,by simp,?_⟩));rw[Bk hp,At];have A:∀e∈ds++[d],e≠D:=fun e r z=>by
   subst z;rcases List.mem_append.mp r with h|h
   ·obtain⟨i,hi⟩:=List.mem_iff_getElem?.mp h
    obtain⟨ns,e1,e2⟩:=hr.get hi;rw[f] at e2;have e2:=AR e2;injection e2 with e2
    have C:ds.length≠0:=fun z=>by rw[List.length_eq_zero_iff.mp z] at h;cases h
    cases ds with
    |nil=>cases h
    |cons q ds=>cases ns with
     |nil=>cases e2
     |cons n ns=>rw[AX,AX] at e2;cases e2
   ·obtain rfl:e=d:=by simpa using h
    obtain⟨_,y⟩:∃o,H2 e=some o:=⟨_,l.rows _ hd⟩;rw[y] at g;cases g
  exact((hr.snoc w).upd A)
 ·rintro σ ys b ⟨v,ds,rfl,sm,f,rfl,hr⟩
  rw[Aa,Ar (Ad _)] at hr;exact k b ds sm f hr
def NY{f fe fc fm fs:Addr}{fd fZ aU cO aJ:FuncData}(F:Fun K "straightened" "straightened" ez f fd)(bz:mg "zip"=none)(bs:mg "sorted"=none)(Fe:Fun K "echelon_of" "echelon_of" jD fe fZ)(be:Binds K fZ ["rows"] [])(me:mg "echelon_of"=some (.ref fe))(Ge:ai P w K mg base aw 4 fe fZ ["rows"] Jc)(Fc:Fun K "columns_of" "columns_of" mx fc aU)(bc:Binds K aU ["table"] [])(mc:mg "columns_of"=some (.ref fc))(Gc:ai P w K mg base aw 3 fc aU ["table"] (uT K))(Fm:Fun K "mix_of" "mix_of" jG fm cO)(bm:Binds K cO ["numbers","rows"] [])(mm:mg "mix_of"=some (.ref fm))(Gm:ai P w K mg base aw 2 fm cO ["numbers","rows"] FV)(Fs:Fun K "shares_of" "shares_of" jw fs aJ)(bh:Binds K aJ ["row","found"] [])(ms:mg "shares_of"=some (.ref fs))(Gs:ai P w K mg base aw 2 fs aJ ["row","found"] EZ):ai P w K mg base aw 5 f fd ["side","width"] Jh:=by
 refine F.ok wR (fun vs H Q E h=>?_) (fun ak A outer s H vs Q E hr h=>?_)
 ·obtain⟨t,a,b,c,da,db,dc,tb,ub,bb,N,M,X,B,Y,m,n,rfl,_⟩:=h;rfl
 ·obtain⟨t,a,b,c,da,db,dc,tb,ub,bb,N,M,X,B,Y,m,n,rfl,ht,ha,hb,hc,ra,rb,rc,ok,k⟩:=h
  have hu:=CN hr;have hr3:Room 3 _:=hr.mono ξ;have hr2:Room 2 _:=hr.mono ξ;refine⟨_,ze (CV (i:=2) wR.nd rfl (Or.inl rfl) ["side","width","rows","found","fresh","shares"] ["row","turn"] [none,none] (pq rfl bz mD (za (zo zC (pv 0) zd (fun _ _=>rfl)) (za (zo zC (pv 0) zd (fun _ _=>rfl)) zb)))
    (fun v C s₀ H₀ ex=>gZ rfl (zB (zl (i:=0) (bI ["row","turn"]) rfl (Or.inl rfl)) (zB (zl (i:=1) (bI ["row","turn"]) rfl (Or.inl rfl)) gU))) (fun v C s₀ H₀ ex=>zy)
    (fun v C s₀ H₀ ex=>zA El (pv 0) (pv 1)) (te:=bQ tu (av 0) (av 1)) (hfr:=b7 δ) (g:=cr K 2 (cD (zL 0) (cD (zL 1) cq))))
   (ze (zq (i:=3) wR.nd rfl (Or.inr rfl) (zf Ge hr rfl me Fe.kp be .nil ac (za (pv 2) zb)))
   (ze (CV (i:=4) wR.nd rfl (Or.inl rfl) ["side","width","rows","found","fresh","shares"] ["place","found"] [none,some 3] (zI (zm (vr rfl) rfl bs vv (za (pv 3) zb))) (fun v C s₀ H₀ ex=>zl (i:=0) (bI ["place","found"]) rfl (Or.inl rfl)) (fun v C s₀ H₀ ex=>zy)
    (fun v C s₀ H₀ ex=>lX hu (pv 1) (pv 0) (fun _ _=>rfl)) (hfr:=bB (zg ez) δ))
   (ze (CV (i:=5) wR.nd rfl (Or.inl rfl) ["side","width","rows","found","fresh","shares"] ["row","found"] [none,some 3] (zI (pv 2)) (fun v C s₀ H₀ ex=>zl (i:=0) (bI ["row","found"]) rfl (Or.inl rfl)) (fun v C s₀ H₀ ex=>zy)
    (fun v C s₀ H₀ ex=>zf Gs hr2 rfl ms Fs.kp bh .nil ac (za (pv 0) (za (pv 1) zb))) (te:=hV EZ [] E0 (ca (av 0) (ca (av 1) bK))) (hfr:=bB (zg ez) δ))
   (zh (zr (hO (za
    (zu ["side","width","rows","found","fresh","shares"] ["row","width"] [none,some 1] (zI (pv 4)) (fun v C s₀ H₀ ex=>zl (i:=0) (bI ["row","width"]) rfl (Or.inl rfl)) (fun v C s₀ H₀ ex=>zy)
     (fun v C s₀ H₀ ex=>ol CH (pv 0) oh (oj (pv 1))) (te:=Ee (lN K) (av 0) Ec (Ed (av 1))) (hfr:=bB (zg ez) δ))
    (za (zu ["side","width","rows","found","fresh","shares"] ["row","width"] [none,some 1] (zI (pv 4)) (fun v C s₀ H₀ ex=>zl (i:=0) (bI ["row","width"]) rfl (Or.inl rfl)) (fun v C s₀ H₀ ex=>zy)
     (fun v C s₀ H₀ ex=>ol CH (pv 0) (oj (pv 1)) oh) (te:=Ee (lN K) (av 0) (Ed (av 1)) Ec) (hfr:=bB (zg ez) δ))
    (za (zu ["side","width","rows","found","fresh","shares"] ["numbers","side"] [none,some 0] (zI (zf Gc hr3 rfl mc Fc.kp bc .nil ac (za (pv 5) zb))) (fun v C s₀ H₀ ex=>zl (i:=0) (bI ["numbers","side"]) rfl (Or.inl rfl)) (fun v C s₀ H₀ ex=>zy)
     (fun v C s₀ H₀ ex=>zf Gm hr2 rfl mm Fm.kp bm .nil ac (za (pv 0) (za (zo zC (pv 1) zd (fun _ _=>rfl)) zb))) (te:=hV FV [] E0 (ca (av 0) (ca (bQ (tf K) (av 1) (tC (.int 2))) bK))) (hfr:=bB (zg ez) δ)) zb))))))))),?_⟩
  refine⟨_,rfl,t,_,_,_,rfl,rfl,SqT.of ht,zi (j:=0) rfl,_,rfl,t,_,_,_,rfl,rfl,SqT.of ht,zi (j:=1) rfl,a,b,rfl,⟨_,SqL.of ha⟩,⟨_,SqL.of hb⟩,fun R hR=>zx (NO (g:=fun x y=>x++y) (fun o u os us H' R sm G iC ij eU hk=>?_) ha hb ra rb (by have:=ok.l2;have:=ok.n64;(first|lia|omega)) hR fun H1 rs s1 nC I _ _=>?_)⟩
  ·refine⟨_,rfl,_,rfl,o,u,_,_,rfl,rfl,G,iC,?_,fun p hp=>?_⟩
   ·rw[Aa,Aa,ok.w1 os ij,ok.w2 us eU,sizeLine_eq];have:=ok.n64;have:=ok.m64;(first|lia|omega)
   ·rw[<-At]
    exact hk p _ (Same.new hp) hp zc
  have I:Rws H1 rs (cat tb ub):=I;refine⟨_,rfl,R,rs,cat tb ub,N,M,X,B,Y,m+n,rfl,nC,I,ok.ech,fun a1 H2 es fr PP s2 Cb F2 j8 kH FS=>?_⟩;have lc:(cat tb ub).length=n:=by unfold cat;rw[AG,ok.l1,ok.l2,Nat.min_self]
  have lP:PP.length=n:=by rw[FS.len,Aa,lc]
  have le:es.length<64:=by have:=j8.len;have:=ok.n64;(first|lia|omega)
  refine⟨_,rfl,a1,eF es,rfl,F2.at_,(by simpa using le),fun PL ms pm so dD=>?_⟩;rw[j8.ints pm so];have kY:=Same.new (o:=.lst (PP.map fun p:Nat=>V.int (p:Int))) dD;refine⟨PL,rfl,⟨_,SqL.of zc⟩,fun FD ig=>zx (NX (F2.same kY) (fun p hp=>j8.pm.mem_iff.mp hp) (fun p d H' R sm gd hk=>⟨_,rfl,_,rfl,a1,_,rfl,gd,hk⟩) zc (by have:=ok.n64;(first|lia|omega)) ig fun H3 fs s3 eN qY=>?_)⟩;have a_:=(s2.trans kY).trans s3;have F3:=(F2.same kY).same s3;refine⟨_,rfl,R,rfl,⟨_,SqL.of (a_ _ _ nC)⟩,fun SD wx=>zx (pf (g:=fun r=>shrL fr r PP) (fun o os H' R' sm G W hk=>?_) (SqL.of (a_ _ _ nC)) (I.same a_) (by rw[lc];have:=ok.n64;(first|lia|omega)) wx fun H4 ss J ko uJ _ _=>?_)⟩
  ·exact⟨_,rfl,_,rfl,o,a1,os,es,fr,PP,m+n,rfl,G,F3.same sm,j8,le,ok.shr PP fr FS kH os W,hk⟩
  have qK:=(s1.trans a_).trans J;refine⟨_,rfl,FD,rfl,⟨_,SqL.of (J _ _ eN)⟩,fun A1 pS=>zx (pf (g:=fun r=>r.take m) (fun o os H' R' sm G W hk=>?_) (SqL.of (J _ _ eN)) (qY.same J) (by rw[Aa,lP];have:=ok.n64;(first|lia|omega)) pS fun H5 d5 S uX r5 n5 w5=>?_)⟩
  ·refine⟨_,rfl,_,rfl,_,rfl,o,_,rfl,SqL.of G,fun q hq=>?_⟩
   rw[NW,<-List.map_take];exact hk q _ (Same.new hq) hq zc
  refine⟨_,rfl,FD,rfl,⟨_,SqL.of ((J.trans S) _ _ eN)⟩,fun A2 om=>zx (pf (g:=fun r=>r.drop m) (fun o os H' R' sm G W hk=>?_) (SqL.of ((J.trans S) _ _ eN)) (qY.same (J.trans S)) (by rw[Aa,lP];have:=ok.n64;(first|lia|omega)) om fun H6 d6 s6 wD r6 n6 w6=>?_)⟩
  ·refine⟨_,rfl,_,rfl,_,rfl,o,_,rfl,SqL.of G,fun q hq=>?_⟩
   rw[m8,<-List.map_drop];exact hk q _ (Same.new hq) hq zc
  have jk:=S.trans s6;have sI:=qK.trans jk;have i7:((cat tb ub).map fun r=>shrL fr r PP).length=n:=by rw[Aa,lc]
  have L:∀r∈(cat tb ub).map (fun r=>shrL fr r PP),r.length=n:=fun r hr=>by
   obtain⟨q,_,rfl⟩:=List.mem_map.mp hr;rw[vz,lP]
  have D:wid ((cat tb ub).map fun r=>shrL fr r PP)=n:=by
   cases e:(cat tb ub).map (fun r=>shrL fr r PP) with
   |nil=>rw[e] at i7;exact i7
   |cons x l=>rw[e] at L;exact L x (Aq ..)
  have tsh:cN ((cat tb ub).map fun r=>shrL fr r PP)=true:=by
   unfold cN;rw[D,i7,decide_eq_true ok.n64];simp only[Bool.and_self,Bool.true_and,AZ];exact fun r hr=>decide_eq_true (L r hr)
  refine⟨_,rfl,SD,ss,_,rfl,SqL.of (jk _ _ ko),uJ.same jk,tsh,fun CD H7 cs Z yU iX pY _ _=>⟨CD,rfl,⟨_,SqL.of iX⟩,fun A3 p8=>?_⟩⟩;have iQ:=sI.trans Z;have et:turn ((cat tb ub).map fun r=>shrL fr r PP)=(Ah n).map (colAt ((cat tb ub).map fun r=>shrL fr r PP)):=by unfold turn;rw[D]
  rw[et] at pY;have sE:∀r∈bb,r.length=wid bb:=fun r hr=>by
   cases e:bb with
   |nil=>rw[e] at hr;cases hr
   |cons x l=>rw[ok.w3 r hr];exact(ok.w3 x (by rw[e];exact Aq ..)).symm
  have wb:wid bb=n:=by
   cases e:bb with
   |nil=>have:=ok.l3;rw[e] at this;exact this
   |cons x l=>exact ok.w3 x (by rw[e];exact Aq ..)
  refine zx (pf (g:=fun ns=>gf n ns bb) (fun o os H' R' sm G W hk=>?_) (SqL.of iX) pY (by rw[Aa,A9];have:=ok.n64;(first|lia|omega)) p8 fun H8 d8 s8 rz r8 n8 w8=>?_)
  ·have nO:=iQ.trans sm
   refine⟨_,rfl,_,rfl,t,_,_,_,rfl,rfl,SqT.of (nO _ _ ht),zi (j:=2) rfl,o,c,os,dc,bb,rfl,G,nO _ _ hc,rc.same nO,by rw[wb];have:=ok.n64;(first|lia|omega),sE,fun z hz y hy=>?_,by rw[wb];exact hk⟩;obtain⟨z1,z2⟩:=List.of_mem_zip hz;obtain⟨j,hj,rfl⟩:=List.mem_map.mp W;have z1:z.1∈((cat tb ub).map fun r=>shrL fr r PP).map fun r=>r.getD j 0:=z1;obtain⟨sr,u5,e1⟩:=List.mem_map.mp z1;obtain⟨r,hr,rfl⟩:=List.mem_map.mp u5;refine ok.mul PP fr FS kH r hr z.1 ?_ z.2 z2 y hy;have hj:=List.mem_range.mp hj;have xU:j<(shrL fr r PP).length:=by rw[vz,lP];exact hj
   rw[<-e1,Ac,Ab xU];exact AB _
  ·have p5:=(s6.trans Z).trans s8
   have pP:=Z.trans s8;have U:∀{x},H4 x=none->H x=none:=fun h=>qK.free h;refine⟨by show 3<=sizeLine;decide,fun T hT=>?_⟩;have O:=Same.new (o:=.tup [V.ref A1,V.ref A2,V.ref A3]) hT;rw[AT] at r5 r6 r8;refine k PP fr T A1 A2 A3 d5 d6 d8 _ FS kH ((iQ.trans s8).trans O) zc ⟨O _ _ (p5 _ _ uX),(r5.same p5).same O,n5,U pS,fun d hd=>⟨U (w5 d hd).1,(w5 d hd).2⟩⟩ ⟨O _ _ (pP _ _ wD),(r6.same pP).same O,n6,U (S.free om),fun d hd=>⟨U (S.free (w6 d hd).1),(w6 d hd).2⟩⟩ ⟨O _ _ rz,r8.same O,n8,U (jk.free (Z.free p8)),fun d hd=>⟨U (jk.free (Z.free (w8 d hd).1)),(w8 d hd).2⟩⟩
end
end K23
end
section
namespace K23
open PySem L2
abbrev Di:Stmt:=top 38
def rowAt(tb:Ξ)(i:Nat):List Int:=tb.getD i []
def slT(tb:Ξ)(r:Nat):Nat->Ξ
 |0=>tb
 |n+1=>(slT tb r n).set (r-2-n) (dF (rowAt (slT tb r n) (r-2-n)) (-1) (rowAt (slT tb r n) (r-1-n)))
def slB(tb:Ξ)(r:Nat):Nat->Ξ
 |0=>tb
 |n+1=>(slB tb r n).set (r-1-n) (dF (rowAt (slB tb r n) (r-1-n)) 1 (rowAt (slB tb r n) (r-2-n)))
def m_{tb:Ξ}{r:Nat}:∀n,(slT tb r n).length=tb.length
 |0=>rfl
 |n+1=>by show List.length (List.set _ _ _)=_;rw[List.length_set];exact m_ n
def xn{tb:Ξ}{r:Nat}:∀n,(slB tb r n).length=tb.length
 |0=>rfl
 |n+1=>by show List.length (List.set _ _ _)=_;rw[List.length_set];exact xn n
structure Wk(H0:Hp)(Z:List Addr)(H:Hp)(R:Addr)(rs:List Addr)(tb:Ξ):Prop where
 at_:H R=some (.lst (rs.map V.ref))
 rows:Rws H rs tb
 nd:rs.Nodup
 nw:∀d∈rs,H0 d=none/\∀z∈Z,d≠z
section
variable{H0 H H':Hp}{Z:List Addr}{R R':Addr}{rs:List Addr}{tb:Ξ}
def Wk.same(h:Wk H0 Z H R rs tb)(s:Same H H'):Wk H0 Z H' R rs tb:=⟨s _ _ h.at_,h.rows.same s,h.nd,h.nw⟩
def Wk.get(h:Wk H0 Z H R rs tb){i:Nat}(hi:i<tb.length):∃d,rs[i]?=some d/\(rs.map V.ref)[i]?=some (V.ref d)/\H d=some (.lst ((rowAt tb i).map V.int)):=by
 have a:=h.rows.len;obtain⟨ns,e1,e2⟩:=h.rows.get (Ab (show i<rs.length from ω));refine⟨rs[i]'ω,Ab _,by rw[Aj,Ab (show i<rs.length from ω)];rfl,?_⟩;unfold rowAt;rw[Ac,e1];exact e2
def Wk.other(h:Wk H0 Z H R' rs tb)(hz:R∈Z)(ne:R'≠R){o:HO}:Wk H0 Z (upd H R o) R' rs tb:=⟨by rw[af ne];exact h.at_,h.rows.upd fun d hd=>(h.nw d hd).2 R hz,h.nd,h.nw⟩
def NZ{l:List Addr}{i:Nat}{d:Addr}(h:l.Nodup)(hd:d∉l):(l.set i d).Nodup:=by
 rw[List.Nodup,List.pairwise_iff_getElem];intro a b e hb g;rw[List.length_set] at e hb;have f:∀c(hc:c<l.length),l[c]≠d:=fun c hc z=>hd (z▸AB hc);rw[List.getElem_set,List.getElem_set];have:=List.pairwise_iff_getElem.mp h a b e hb g;split
 ·split
  ·(first|lia|omega)
  ·exact(f b hb).symm
 ·split
  ·exact f a e
  ·exact this
def N2{H:Hp}{rs:List Addr}{tb:Ξ}{d:Addr}{ns:List Int}(h:Rws H rs tb)(e:H d=some (.lst (ns.map V.int))):∀i,Rws H (rs.set i d) (tb.set i ns):=by
 induction h with
 |nil=>intro i;exact .nil
 |cons r t ih=>intro i;cases i with
  |zero=>exact .cons e t
  |succ i=>exact .cons r (ih i)
def Wk.put(h:Wk H0 Z H R rs tb)(b:Same H0 H')(s:Same H H'){d:Addr}{ns:List Int}{H2:Hp}(c:Same H' H2)(hd:H' d=none)(e:H2 d=some (.lst (ns.map V.int)))(hz:R∈Z)(f:∀z∈Z,H' z≠none)(i:Nat):Wk H0 Z (upd H2 R (.lst ((rs.map V.ref).set i (.ref d)))) R (rs.set i d) (tb.set i ns):=by
 have a:d∉rs:=fun z=>(h.same s).rows.there d z hd;have nz:∀z∈Z,d≠z:=fun z hz e=>f z hz (e▸hd);refine⟨by rw[zc,List.map_set],?_,NZ h.nd a,fun x hx=>?_⟩
 ·refine(N2 ((h.rows.same s).same c) e i).upd fun x hx=>?_
  rcases List.mem_or_eq_of_mem_set hx with hx|rfl
  ·exact(h.nw x hx).2 R hz
  ·exact nz R hz
 ·rcases List.mem_or_eq_of_mem_set hx with hx|rfl
  ·exact h.nw x hx
  ·exact⟨b.free hd,nz⟩
end
def Sml(tb:Ξ):Prop:=∀r∈tb,r.length<=1000/\∀x∈r,x.natAbs<big
def Ji:(1:Int).natAbs<big:=by
 unfold big;exact Nat.one_lt_two_pow (by have:=kD;(first|lia|omega))
def Sml.at{tb:Ξ}(h:Sml tb){i:Nat}(hi:i<tb.length):(rowAt tb i).length<=1000/\∀x∈rowAt tb i,x.natAbs<big:=by
 refine h _ ?_;unfold rowAt;rw[Ac,Ab hi];exact AB _
section
variable{P:Program}{w:World}{K:Ag}{mg:Str->Option Value}{base:Heap}
def Jj:Sp:=fun vs H Q _=>∃(H0:Hp)(t a b c:Addr)(h i l:List Addr)(tb ub bb:Ξ)(n r:Nat),vs=[.ref t,.int r]/\H t=some (.tup [.ref a,.ref b,.ref c])/\Same H0 H/\NT H0 H a h tb/\NT H0 H b i ub/\NT H0 H c l bb/\tb.length=n/\ub.length=n/\bb.length=n/\1<=r/\r<=n/\n<=1000/\
 (∀j,j<r->Sml (slT tb r j)/\Sml (slT ub r j)/\Sml (slB bb r j))/\
 ∀t' a' b' d e f g H',Same H H'->H' t'=some (.tup [.ref a',.ref b',.ref d])->NT H0 H' a' e (slT tb r (r-1))->NT H0 H' b' f (slT ub r (r-1))->NT H0 H' d g (slB bb r (r-1))->Q (.ref t') H'
def xy:zp ["side","count","rows","turn","back","k"] ["side","count"] (zg Di):=⟨rfl,rfl,rfl,δ,rfl,δ,δ⟩
def F8:A8 "list"=some (.type "list"):=δ
def N3{f fl:Addr}{fd bW:FuncData}(F:Fun K "slid" "slid" Di f fd)(bg:mg "range"=none)(bs:mg "list"=none)(Fl:Fun K "less" "less" kh fl bW)(bl:Binds K bW ["row","often","other"] [])(ml:mg "less"=some (.ref fl))(Gl:ai P w K mg base aw 1 fl bW ["row","often","other"] va):ai P w K mg base aw 2 f fd ["side","count"] Jj:=by
 refine F.ok xy (fun vs H Q E h=>?_) (fun ak A outer s H vs Q E hr h=>?_)
 ·obtain⟨H0,t,a,b,c,da,db,dc,tb,ub,bb,n,r,rfl,_⟩:=h;rfl
 ·obtain⟨H0,t,a,b,c,da,db,dc,tb,ub,bb,n,r,rfl,ht,s0,na,nb,nc,l1,l2,l3,r1,rn,n9,ei,k⟩:=h
  refine⟨_,ze (zq (i:=2) xy.nd rfl (Or.inl rfl) (zQ zK rfl bs F8 (za (zo zC (pv 0) zd (fun _ _=>rfl)) zb)))
   (ze (zq (i:=3) xy.nd rfl (Or.inl rfl) (zQ zK rfl bs F8 (za (zo zC (pv 0) zd (fun _ _=>rfl)) zb)))
   (ze (zq (i:=4) xy.nd rfl (Or.inl rfl) (zQ zK rfl bs F8 (za (zo zC (pv 0) zd (fun _ _=>rfl)) zb)))
   (ze (hA Bl rfl (IX rfl bg (za (zA e8 (pv 1) zd) (za zd (za (j_ kb zd) zb)))) (zl (i:=5) xy.nd rfl (Or.inl rfl))
    (ze (gB (zf Gl hr rfl ml Fl.kp bl .nil ac (za (zo zn (pv 2) (zA e8 (pv 5) zd) (fun _ _=>rfl)) (za (j_ kb zd) (za (zo zn (pv 2) (pv 5) (fun _ _=>rfl)) zb)))) (gz (pv 2) (zA e8 (pv 5) zd) set_list))
    (ze (gB (zf Gl hr rfl ml Fl.kp bl .nil ac (za (zo zn (pv 3) (zA e8 (pv 5) zd) (fun _ _=>rfl)) (za (j_ kb zd) (za (zo zn (pv 3) (pv 5) (fun _ _=>rfl)) zb)))) (gz (pv 3) (zA e8 (pv 5) zd) set_list))
    (zh (gB (zf Gl hr rfl ml Fl.kp bl .nil ac (za (zo zn (pv 4) (pv 5) (fun _ _=>rfl)) (za zd (za (zo zn (pv 4) (zA e8 (pv 5) zd) (fun _ _=>rfl)) zb)))) (gz (pv 4) (pv 5) set_list))))))
   (zh (zr (hO (za (pv 2) (za (pv 3) (za (pv 4) zb))))))))),?_⟩
  refine⟨_,rfl,t,_,_,_,rfl,rfl,SqT.of ht,zi (j:=0) rfl,a,_,rfl,.inl (SqL.of na.at_),fun R hR=>?_⟩;have I:=Same.new (o:=.lst (da.map V.ref)) hR;refine⟨_,rfl,t,_,_,_,rfl,rfl,SqT.of (I _ _ ht),zi (j:=1) rfl,b,_,rfl,.inl (SqL.of (I _ _ nb.at_)),fun T hT=>?_⟩;have M:=Same.new (o:=.lst (db.map V.ref)) hT;refine⟨_,rfl,t,_,_,_,rfl,rfl,SqT.of ((I.trans M) _ _ ht),zi (j:=2) rfl,c,_,rfl,.inl (SqL.of ((I.trans M) _ _ nc.at_)),fun B hB=>?_⟩;have sB:=Same.new (o:=.lst (dc.map V.ref)) hB;have sZ:=(I.trans M).trans sB;have oq:R≠T:=zk zc hT;have o7:T≠B:=zk zc hB;have oZ:R≠B:=zk (M _ _ zc) hB;have eM:H T=none:=I.free hT;have kT:H B=none:=(I.trans M).free hB;have W0:∀{x:Addr}{dx:List Addr}{tx:Ξ}{Y:Addr}{H2:Hp},NT H0 H x dx tx->Same H H2->H2 Y=some (.lst (dx.map V.ref))->Wk H0 [R,T,B] H2 Y dx tx:=fun{x dx tx Y H2} n s e=>
   ⟨e,n.rows.same s,n.nd,fun d hd=>⟨(n.nw d hd).1,fun z hz q=>by
    have y:=n.rows.there d hd;rw[q] at y;simp at hz;rcases hz with rfl|rfl|rfl
    ·exact y hR
    ·exact y eM
    ·exact y kT⟩⟩
  have en:(((r:Nat):Int)-1-0).toNat=r-1:=ω
  refine⟨_,rfl,_,_,rfl,rfl,_,rfl,_,_,rfl,⟨ω,ω,ω,ω⟩,?_⟩;rw[en];refine IY (fun i σ H2=>∃(v5:Option V)(rs v bs:List Addr),σ=[some (.ref t),some (.int r),some (.ref R),some (.ref T),some (.ref B),v5]/\Same H H2/\Wk H0 [R,T,B] H2 R rs (slT tb r i)/\Wk H0 [R,T,B] H2 T v (slT ub r i)/\Wk H0 [R,T,B] H2 B bs (slB bb r i))
   ⟨none,da,db,dc,rfl,sZ,W0 na sZ ((M.trans sB) _ _ zc),W0 nb sZ (sB _ _ zc),W0 nc sZ zc⟩ ?_ ?_
  ·rintro i σ H2 hi ⟨v5,rs,v,bs,rfl,sm,u,wT,wB⟩
   obtain⟨g,j7⟩:∃g,g=r-2-i:=⟨_,rfl⟩;have e1:((r:Nat):Int)-1-((i:Nat):Int)=((g+1:Nat):Int):=ω
   have e2:((g+1:Nat):Int)-1=((g:Nat):Int):=ω
   have J:r-1-i=g+1:=ω
   obtain⟨nI,hJ,aq⟩:=ei i ω;have lR:(slT tb r i).length=n:=by rw[m_,l1]
   have lT:(slT ub r i).length=n:=by rw[m_,l2]
   have lB:(slB bb r i).length=n:=by rw[xn,l3]
   have p:∀{q:Int}{x:Int},q.natAbs<=1->x.natAbs<big->ey q x:=fun hq hx=>gH (Av hq Ji) hx;have ix:∀{l:List Addr}{j:Nat},j<l.length->gF (l.map V.ref).length ((j:Nat):Int)=some j:=fun{l j} h=>by unfold gF;rw[Aa];simp[h]
   have Zin:∀{L:Hp},Same H2 L->∀z∈[R,T,B],L z≠none:=fun{L} s z hz=>by
    simp at hz;rcases hz with rfl|rfl|rfl
    ·rw[s _ _ u.at_];simp
    ·rw[s _ _ wT.at_];simp
    ·rw[s _ _ wB.at_];simp
   obtain⟨d1,g1,U,h1⟩:=u.get (i:=g) ω;obtain⟨d2,g2,W,h2⟩:=u.get (i:=g+1) ω;rw[e1];have G:=nI.at (i:=g+1) ω;refine⟨_,rfl,_,rfl,_,_,rfl,rfl,R,_,_,_,rfl,rfl,SqL.of u.at_,by rw[e2];exact zi U,_,rfl,_,rfl,_,rfl,R,_,_,_,rfl,rfl,SqL.of u.at_,zi W,d1,d2,_,_,-1,rfl,h1,h2,G.1,fun x hx=>p ξ (G.2 x hx),fun X L N hD3 e3=>?_⟩;refine⟨_,rfl,_,rfl,_,_,rfl,rfl,R,_,_,g,rfl,rfl,N _ _ u.at_,by rw[e2];exact ix (by have:=u.rows.len;(first|lia|omega)),?_⟩;have lK:=u.put (s0.trans sm) (Same.refl H2) N hD3 e3 (by simp) (Zin (Same.refl H2)) g;have fK:Same H (upd L R (.lst ((rs.map V.ref).set g (.ref X)))):=(sm.trans N).then hR;have C:=(wT.same N).other (R:=R) (by simp) (Ne.symm oq) (o:=.lst ((rs.map V.ref).set g (.ref X)));have kF:=(wB.same N).other (R:=R) (by simp) (Ne.symm oZ) (o:=.lst ((rs.map V.ref).set g (.ref X)));have Z3:∀z∈[R,T,B],(upd L R (.lst ((rs.map V.ref).set g (.ref X)))) z≠none:=fun z hz=>by
    simp at hz;rcases hz with rfl|rfl|rfl
    ·rw[zc];simp
    ·rw[C.at_];simp
    ·rw[kF.at_];simp
   have et1:(slT tb r i).set g (dF (rowAt (slT tb r i) g) (-1) (rowAt (slT tb r i) (g+1)))=slT tb r (i+1):=by
    show _=(slT tb r i).set (r-2-i) (dF (rowAt (slT tb r i) (r-2-i)) (-1) (rowAt (slT tb r i) (r-1-i)));rw[<-j7,J]
   rw[et1] at lK;generalize upd L R (.lst ((rs.map V.ref).set g (.ref X)))=H4 at lK fK C kF Z3 ⊢;obtain⟨d1,g1,U,h1⟩:=C.get (i:=g) ω;obtain⟨d2,g2,W,h2⟩:=C.get (i:=g+1) ω;have G:=hJ.at (i:=g+1) ω;refine⟨_,rfl,_,rfl,_,_,rfl,rfl,T,_,_,_,rfl,rfl,SqL.of C.at_,by rw[e2];exact zi U,_,rfl,_,rfl,_,rfl,T,_,_,_,rfl,rfl,SqL.of C.at_,zi W,d1,d2,_,_,-1,rfl,h1,h2,G.1,fun x hx=>p ξ (G.2 x hx),fun Z H5 O dY e5=>?_⟩;refine⟨_,rfl,_,rfl,_,_,rfl,rfl,T,_,_,g,rfl,rfl,O _ _ C.at_,by rw[e2];exact ix (by have:=C.rows.len;(first|lia|omega)),?_⟩;have lL:=C.put (s0.trans fK) (Same.refl H4) O dY e5 (by simp) Z3 g;have nP:Same H (upd H5 T (.lst ((v.map V.ref).set g (.ref Z)))):=(fK.trans O).then eM;have nQ:=(lK.same O).other (R:=T) (by simp) oq (o:=.lst ((v.map V.ref).set g (.ref Z)));have D:=(kF.same O).other (R:=T) (by simp) (Ne.symm o7) (o:=.lst ((v.map V.ref).set g (.ref Z)));have Z5:∀z∈[R,T,B],(upd H5 T (.lst ((v.map V.ref).set g (.ref Z)))) z≠none:=fun z hz=>by
    simp at hz;rcases hz with rfl|rfl|rfl
    ·rw[nQ.at_];simp
    ·rw[zc];simp
    ·rw[D.at_];simp
   have et2:(slT ub r i).set g (dF (rowAt (slT ub r i) g) (-1) (rowAt (slT ub r i) (g+1)))=slT ub r (i+1):=by
    show _=(slT ub r i).set (r-2-i) (dF (rowAt (slT ub r i) (r-2-i)) (-1) (rowAt (slT ub r i) (r-1-i)));rw[<-j7,J]
   rw[et2] at lL;generalize upd H5 T (.lst ((v.map V.ref).set g (.ref Z)))=H6 at nQ nP lL D Z5 ⊢;obtain⟨d1,g1,U,h1⟩:=D.get (i:=g+1) ω;obtain⟨d2,g2,W,h2⟩:=D.get (i:=g) ω;have G:=aq.at (i:=g) ω;refine⟨_,rfl,_,rfl,B,_,_,_,rfl,rfl,SqL.of D.at_,zi U,_,rfl,_,rfl,_,_,rfl,rfl,B,_,_,_,rfl,rfl,SqL.of D.at_,by rw[e2];exact zi W,d1,d2,_,_,1,rfl,h1,h2,G.1,fun x hx=>p ξ (G.2 x hx),fun D7 H7 S mX e7=>?_⟩;refine⟨_,rfl,_,rfl,B,_,_,g+1,rfl,rfl,S _ _ D.at_,ix (by have:=D.rows.len;(first|lia|omega)),?_⟩;have qZ:=D.put (s0.trans nP) (Same.refl H6) S mX e7 (by simp) Z5 (g+1);have uj:=(nQ.same S).other (R:=B) (by simp) oZ (o:=.lst ((bs.map V.ref).set (g+1) (.ref D7)));have vE:=(lL.same S).other (R:=B) (by simp) o7 (o:=.lst ((bs.map V.ref).set (g+1) (.ref D7)));have tL:(slB bb r i).set (g+1) (dF (rowAt (slB bb r i) (g+1)) 1 (rowAt (slB bb r i) g))=slB bb r (i+1):=by
    show _=(slB bb r i).set (r-1-i) (dF (rowAt (slB bb r i) (r-1-i)) 1 (rowAt (slB bb r i) (r-2-i)));rw[<-j7,J]
   rw[tL] at qZ;exact⟨_,_,_,_,rfl,(nP.trans S).then kT,uj,vE,qZ⟩
  ·rintro σ H2 ⟨v5,rs,v,bs,rfl,sm,u,wT,wB⟩
   refine⟨_,rfl,_,rfl,_,rfl,by show 3<=sizeLine;decide,fun t' ht'=>?_⟩;have kK:=Same.new (o:=.tup [V.ref R,V.ref T,V.ref B]) ht';have nt:∀{Y:Addr}{ds:List Addr}{tx:Ξ},Wk H0 [R,T,B] H2 Y ds tx->H Y=none->Y∈[R,T,B]->NT H0 (upd H2 t' (.tup [V.ref R,V.ref T,V.ref B])) Y ds tx:=fun{Y ds tx} h hy hz=>
    ⟨kK _ _ h.at_,h.rows.same kK,h.nd,s0.free hy,fun d hd=>⟨(h.nw d hd).1,(h.nw d hd).2 Y hz⟩⟩
   exact k t' R T B rs v bs _ (sm.trans kK) zc (nt u hR (by simp)) (nt wT eM (by simp)) (nt wB kT (by simp))
end
end K23
end
section
namespace L2
open PySem PySem.Spec PyProof.Rows
section
variable{X:Cx}
def Jk{aa:Ψ}{σ:St}{H:Hp}{s:Shared}{l:Addr}{ns:List Int}(I:Inv X aa σ H s)(c:SqL X.K H l (ns.map V.int)):∃a,Reads s.heap (.ref l) (.list (ns.map PyData.int)) a:=by
 obtain⟨ad,r,p,_⟩:=I.list c;obtain⟨o,b,hc,n,hd⟩:=p.isList;exact⟨_,.list b hc hd ((PySem.W.ke_carried (intsAre_of r)).reads s.heap)⟩
def xz(ns:List Int):SeqAt.shaped (.list (ns.map PyData.int))=true:=by
 simp[SeqAt.shaped,PyData.canLay0,PySem.W.ke_canLayAll0,Bj,PySem.W.ke_depthAll]
def Jl(ns:List Int):(Shape.list .int).has (.list (ns.map PyData.int))=true:=by simp[Shape.has]
def xM(K:Ag):R2:=fun x y H Q=>∃l m ns ms,x=.ref l/\y=.ref m/\SqL K H l (List.map V.int ns)/\SqL K H m (List.map V.int ms)/\Q (.bl (decide (ns=ms))) H
def N4(g:X.A.units+64<cLine):cI X (compareOp .Eq) (xM X.K):=by
 intro aa s σ H x y v u Q I a b h;obtain⟨l,m,ns,ms,rfl,rfl,c,d,q⟩:=h;cases a;cases b;obtain⟨a1,e⟩:=Jk I c;obtain⟨a2,f⟩:=Jk I d;refine eq_dataH_same e f (xz _) (xz _) g (SeqAt.noMix_of_shape (.list .int) rfl _ _ (Jl _) (Jl _)) ?_;rw[show same (.list (ns.map PyData.int)) (.list (ms.map PyData.int))=decide (ns=ms) from by simp only[same];exact PySem.W.ke_sameAll ns ms];exact⟨.bl _,H,I,rfl,q⟩
end
end L2
end
section
namespace K23
open PySem L2
abbrev xZ:Stmt:=top 26
abbrev x3:Stmt:=top 27
abbrev Dl:Stmt:=top 24
def Jm:A8 "enumerate"=some (.type "enumerate"):=δ
def jH{a:Type}(p:Nat->List Int->Bool)(g:Nat->List Int->a)(l:List (List Int×Nat)):List a:=(l.filter fun q=>p q.2 q.1).map fun q=>g q.2 q.1
section
variable{P:Program}{w:World}{K:Ag}{mg:Str->Option Value}{base:Heap}
def Jn{H2:Hp}{L D:Addr}{rs:List Addr}{tb:Ξ}{Q:VK}{z:Type}{mkV:z->V}{p:Nat->List Int->Bool}{g:Nat->List Int->z}{tc:TT}{te:TE}{c:List (Option V)}(J:∀(i:Nat)(o:Addr)(os:List Int)(H:Hp)(R:VK)(S:Hp->Prop),Same H2 H->H o=some (.lst (os.map V.int))->os∈tb->(p i os=true->∀H',Same H H'->R (mkV (g i os)) H')->(p i os=false->S H)->tc (some (.int i)::some (.ref o)::c) H fun b u=>if b=true then te (some (.int i)::some (.ref o)::c) u R else S u)(s:SqL K H2 L (rs.map V.ref))(A:Rws H2 rs tb)(hz:tb.length<=1000)(C:H2 D=none)(k:∀f,Same H2 f->f D=some (.lst ((jH p g tb.zipIdx).map mkV))->Q (.ref D) f):cH (EE K L) (cr K 2 (cD (zL 0) (cD (zL 1) cq))) tc te (none::none::c) H2 D Q:=by
 have w:=A.len;refine oH tb.length (fun j σ ys f=>∃(l q:Option V),σ=l::q::c/\Same H2 f/\f D=some (.lst ys)/\ys=(jH p g (tb.zipIdx.take j)).map mkV) ?_ ?_ ?_ ?_ ?_
 ·exact⟨none,none,rfl,Same.new C,zc,rfl⟩
 ·rintro σ ys f ⟨l,q,rfl,sm,d,rfl⟩
  exact⟨_,sm.seq s,by rw[Aa,w]⟩
 ·rintro i σ ys f hi ⟨l,q,rfl,sm,d,rfl⟩
  exact⟨_,sm.seq s,by rw[Aa,w];exact hi⟩
 ·rintro i σ ys f x H' hi hy ⟨l,q,rfl,sm,d,rfl⟩ ⟨pp,y,rfl,E,rfl,F⟩
  have I:=F _ (sm.seq s);obtain⟨a,G,rfl⟩:=kd I;obtain⟨r,er,hr⟩:=A.get G;have h:=Same.new (o:=.tup [.int i,.ref a]) E;have e:tb.zipIdx[i]?=some (r,i):=by rw[List.getElem?_zipIdx,er];simp
  refine⟨pp,_,rfl,SqT.of zc,rfl,_,_,rfl,_,_,rfl,rfl,?_⟩;refine J i a r _ _ _ (sm.trans h) ((sm.trans h) _ _ hr) (Ak er) (fun hp u v=>?_) (fun hp=>?_)
  ·refine bN (zv ω) hi hy ((h.trans v) _ _ d) ⟨_,_,rfl,((sm.trans h).trans v).then C,zc,?_⟩
   rw[Bk e];unfold jH;rw[List.filter_append,At,At];simp[hp]
  ·refine hZ hi hy ⟨_,_,rfl,sm.trans h,h _ _ d,?_⟩
   rw[Bk e];unfold jH;rw[List.filter_append];simp[hp]
 ·rintro σ ys f ⟨l,q,rfl,sm,d,rfl⟩
  rw[Ar (by simp)] at d;exact k f sm d
def dG(tb:Ξ):Bool:=(jH (fun _ _=>true) (fun k r=>decide (r=bY r k r.length)) tb.zipIdx).all id
def F_:Sp:=fun vs H Q _=>∃L rs tb,vs=[.ref L]/\H L=some (.lst (rs.map V.ref))/\Rws H rs tb/\tb.length<=1000/\(∀r∈tb,r.length<=1000)/\∀H',Same H H'->Q (.bl (dG tb)) H'
def N5:zp ["table"] ["table"] (zg xZ):=⟨rfl,rfl,rfl,δ,rfl,δ,δ⟩
def N6{f fs:Addr}{fd c:FuncData}(F:Fun K "is_on_slope" "is_on_slope" xZ f fd)(G:mg "all"=none)(be:mg "enumerate"=none)(bl:mg "len"=none)(Fs:Fun K "slope_row" "slope_row" wj fs c)(bs:Binds K c ["numbers","k","width"] [])(ms:mg "slope_row"=some (.ref fs))(N:ai P w K mg base aw 1 fs c ["numbers","k","width"] wo):ai P w K mg base aw 2 f fd ["table"] F_:=by
 refine F.ok N5 (fun vs H Q E h=>?_) (fun O A outer s H vs Q E hr h=>?_)
 ·obtain⟨L,rs,tb,rfl,_⟩:=h;rfl
 ·obtain⟨L,rs,tb,rfl,j,y,hz,hw,k⟩:=h
  have z:=hr.units;refine⟨_,zh (zr (zm (oG rfl) rfl G pa (za (zu ["table"] ["k","row"] [none,none] (HD rfl be Jm (za (pv 0) zb))
   (fun d C s₀ H₀ ex=>gZ rfl (zB (zl (i:=0) (bI ["k","row"]) rfl (Or.inl rfl)) (zB (zl (i:=1) (bI ["k","row"]) rfl (Or.inl rfl)) gU))) (fun d C s₀ H₀ ex=>zy)
   (fun d C s₀ H₀ ex=>e_ (N4 z) (pv 1) (zf N hr rfl ms Fs.kp bs .nil ac (za (pv 1) (za (pv 0) (za (zm zj rfl bl cp (za (pv 1) zb)) zb)))) (ar _))
   (te:=bQ (xM K) (av 1) (hV wo [] E0 (ca (av 1) (ca (av 0) (ca (iR (CW K) (ca (av 1) bK)) bK))))) (hfr:=b7 δ) (g:=cr K 2 (cD (zL 0) (cD (zL 1) cq)))) zb))),?_⟩
  refine⟨_,rfl,L,rfl,⟨_,SqL.of j⟩,fun D l=>zx (Jn (mkV:=V.bl) (p:=fun _ _=>true) (g:=fun k r=>decide (r=bY r k r.length)) (fun i o os H' R S sm a q u T=>ge ?_) (SqL.of j) y hz l fun I v b=>⟨D,_,rfl,SqL.of b,k I v⟩)⟩;refine⟨_,rfl,_,rfl,_,rfl,_,rfl,o,_,rfl,.inl (SqL.of a),o,os,i,os.length,by rw[Aa];rfl,a,hw os q,fun h=>h,fun J M e U x=>?_⟩;exact⟨o,J,os,_,rfl,rfl,SqL.of (e _ _ a),SqL.of x,u rfl M e⟩
def cy(tb:Ξ):List Int:=jH (fun k r=>decide (k<r.length)&&decide (vc r k≠0)) (fun k r=>vc r k) tb.zipIdx
def F':Sp:=fun vs H Q _=>∃L rs tb,vs=[.ref L]/\H L=some (.lst (rs.map V.ref))/\Rws H rs tb/\tb.length<=1000/\mI H Q (cy tb)
def N7:zp ["table"] ["table"] (zg x3):=⟨rfl,rfl,rfl,δ,rfl,δ,δ⟩
def N8{f:Addr}{fd:FuncData}(F:Fun K "slope_of" "slope_of" x3 f fd)(be:mg "enumerate"=none)(bl:mg "len"=none):ai P w K mg base aw 1 f fd ["table"] F':=by
 refine F.ok N7 (fun vs H Q E h=>?_) (fun G A outer s H vs Q E hr h=>?_)
 ·obtain⟨L,rs,tb,rfl,_⟩:=h;rfl
 ·obtain⟨L,rs,tb,rfl,u,y,hz,k⟩:=h
  refine⟨_,zh (zr (zu ["table"] ["k","row"] [none,none] (HD rfl be Jm (za (pv 0) zb))
   (fun d C s₀ H₀ ex=>gZ rfl (zB (zl (i:=0) (bI ["k","row"]) rfl (Or.inl rfl)) (zB (zl (i:=1) (bI ["k","row"]) rfl (Or.inl rfl)) gU)))
   (fun d C s₀ H₀ ex=>Ew (PW.pt (j0 (zt sQ (pv 0) (zm zj rfl bl cp (za (pv 1) zb)) (ar _)) (jX (zt lJ (zo zn (pv 1) (pv 0) (fun _ _=>rfl)) zd (ar _))))))
   (fun d C s₀ H₀ ex=>zo zn (pv 1) (pv 0) (fun _ _=>rfl)) (te:=bQ (dW K) (av 1) (av 0)) (tc:=ri (CC (bQ (fS fun i j=>.bl (decide (i<j))) (av 0) (iR (CW K) (ca (av 1) bK)))) (CC (bQ D_ (bQ (dW K) (av 1) (av 0)) (tC (.int 0))))) (hfr:=b7 δ) (g:=cr K 2 (cD (zL 0) (cD (zL 1) cq))))),?_⟩
  refine⟨_,rfl,L,rfl,⟨_,SqL.of u⟩,fun D l=>zx (Jn (mkV:=V.int) (p:=fun k r=>decide (k<r.length)&&decide (vc r k≠0)) (g:=fun k r=>vc r k) (fun i o os H' R S sm b I v q=>?_) (SqL.of u) y hz l fun z x c=>k D z x l c)⟩;refine⟨_,rfl,_,rfl,o,_,rfl,.inl (SqL.of b),_,_,rfl,rfl,_,rfl,?_⟩;rw[Aa]
  by_cases c1:i<os.length
  ·rw[decide_eq_true (show((i:Nat):Int)<((os.length:Nat):Int) from ω)]
   refine aA ⟨_,rfl,_,rfl,o,_,_,_,rfl,rfl,SqL.of b,zi (b8 c1),rfl,_,rfl,?_⟩
   by_cases a:vc os i=0
   ·rw[show(!decide (V.int (vc os i)=V.int 0))=false by rw[a];rfl]
    exact az (q (by rw[a];simp))
   ·rw[show(!decide (V.int (vc os i)=V.int 0))=true by rw[decide_eq_false (fun e=>a (by injection e))];rfl]
    exact aA ⟨_,rfl,_,rfl,o,_,_,_,rfl,rfl,SqL.of b,zi (b8 c1),v (by simp[c1,a]) H' (Same.refl H')⟩
  ·rw[decide_eq_false (show ¬((i:Nat):Int)<((os.length:Nat):Int) from ω)]
   exact az (az (q (by simp[c1])))
def c6(tb:Ξ):Bool:=dG tb&&cx (cy tb) tb.length
def Jo:Sp:=fun vs H Q _=>∃L rs tb,vs=[.ref L]/\H L=some (.lst (rs.map V.ref))/\Rws H rs tb/\tb.length<=1000/\(∀r∈tb,r.length<=1000)/\∀H',Same H H'->Q (.bl (c6 tb)) H'
def N9:zp ["table"] ["table"] (zg Dl):=⟨rfl,rfl,rfl,δ,rfl,δ,δ⟩
def N_{tb:Ξ}:(cy tb).length<=tb.length:=by
 unfold cy jH;rw[Aa];exact Af (List.length_filter_le _ _) (by simp)
def Oa{f fo fs fa:Addr}{fd i j l:FuncData}(F:Fun K "is_in_steps" "is_in_steps" Dl f fd)(bl:mg "len"=none)(Fo:Fun K "is_on_slope" "is_on_slope" xZ fo i)(r:Binds K i ["table"] [])(u:mg "is_on_slope"=some (.ref fo))(z:ai P w K mg base aw 2 fo i ["table"] F_)(Fs:Fun K "slope_of" "slope_of" x3 fs j)(bs:Binds K j ["table"] [])(ms:mg "slope_of"=some (.ref fs))(C:ai P w K mg base aw 1 fs j ["table"] F')(Fa:Fun K "are_steps" "are_steps" wM fa l)(v:Binds K l ["steps","most"] [])(x:mg "are_steps"=some (.ref fa))(G:ai P w K mg base aw 1 fa l ["steps","most"] F7):ai P w K mg base aw 3 f fd ["table"] Jo:=by
 refine F.ok N9 (fun vs H Q E h=>?_) (fun I A outer s H vs Q E hr h=>?_)
 ·obtain⟨L,rs,tb,rfl,_⟩:=h;rfl
 ·obtain⟨L,rs,tb,rfl,d,g,hz,hw,k⟩:=h
  have b:Room 1 _:=hr.mono ξ;refine⟨_,zh (zr (rm (zf z hr rfl u Fo.kp r .nil ac (za (pv 0) zb)) (rj (zf G b rfl x Fa.kp v .nil ac (za (zf C b rfl ms Fs.kp bs .nil ac (za (pv 0) zb)) (za (zm zj rfl bl cp (za (pv 0) zb)) zb)))))),?_⟩;refine⟨_,rfl,L,rs,tb,rfl,d,g,hz,hw,fun H1 a=>⟨_,rfl,?_⟩⟩;have q:=g.len;cases c:dG tb with
  |false=>
   have e:c6 tb=false:=by unfold c6;rw[c];rfl
   rw[e] at k;exact az (k H1 a)
  |true=>
   refine aA ⟨_,rfl,L,rs,tb,rfl,a _ _ d,g.same a,hz,fun D H2 o J e2=>⟨_,rfl,L,_,rfl,.inl (SqL.of ((a.trans o) _ _ d)),D,cy tb,_,rfl,e2,Af N_ hz,fun y p=>?_⟩⟩;have e:c6 tb=cx (cy tb) (tb.length:Int):=by unfold c6;rw[c];rfl
   rw[e] at k;rw[Aa,q];exact k y ((a.trans o).trans p)
end
end K23
end
section
namespace Tb
def Bd.mono{N M X B d i j:Nat}{R:List Vc}(h:Bd N M X B R)(q:M<=d)(u:X<=i)(v:B<=j):Bd N d i j R:=
 ⟨h.ind,fun P f e s r g l=>by
  obtain⟨a,b,c⟩:=h.bd P f e s r g l;exact⟨fun p hp=>Af (a p hp) v,fun r hr p hp=>Af (b r hr p hp) q,fun o V hc hv x hx=>Af (c o V hc hv x hx) (Al _ (Al _ u))⟩⟩
def Tri.row{k r w M g N X B:Nat}{ρ f:Nat->Vc}{Q:Nat->Nat}{P:List Nat}(T:Tri k r w M g ρ Q){i:Nat}(hi:i<k)(F:FS N M X B ((Ah i).map ρ) P f):∀p∈P,(ρ i p).natAbs<=M:=fun p hp=>by
 have e:=T.places ω F.ech F.srt (fun p hp=>(F.fr p hp).sp) (by rw[F.len];simp);rw[e] at hp;refine T.rows_le (j:=i+1) ω ω ?_;unfold pl at hp ⊢;rcases List.mem_append.mp hp with h|h
 ·exact List.mem_append_left _ (List.mem_range.mpr (by have:=List.mem_range.mp h;(first|lia|omega)))
 ·obtain⟨a,b,rfl⟩:=List.mem_map.mp h
  exact AF _ (List.mem_map.mpr ⟨a,List.mem_range.mpr (by have:=List.mem_range.mp b;(first|lia|omega)),rfl⟩)
def xW(N b:Nat):Nat:=1+2*b+(2+2*b)*N
def xK(N n m x b:Nat):Nat:=2+(n+(m+(b+1)*N+(n+(b+x))))
def xE(N n m x b:Nat):Nat:=1+(n+(n+(xK N n m x b+(2+b+n+xW N b)*N+m)+(b+1)*N+(n+(b+x))))
def pw{a b:Nat}(h:a<=b):2 ^ a<=2 ^ b:=Aw ξ h
def zw{x y a b:Nat}(h1:x<=2 ^ a)(h2:y<=2 ^ b):x*y<=2 ^ (a+b):=by rw[Nat.pow_add];exact AO h1 h2
def Ob{b:Nat}:1+2 ^ b<=2 ^ (b+1):=by have:=AS (n:=b);rw[Nat.pow_succ];(first|lia|omega)
def Dm{x y a:Nat}(h1:x<=2 ^ a)(h2:y<=2 ^ a):x+y<=2 ^ (1+a):=by rw[Nat.add_comm 1,Nat.pow_succ];(first|lia|omega)
section
variable{N n m x b:Nat}
def nf(a:N<=2 ^ n):cC N (2 ^ x) (2 ^ b)<=2 ^ (n+(b+x)):=zw a (zw (Ad _) (Ad _))
def jJ:(1+2 ^ b) ^ N<=2 ^ ((b+1)*N):=by rw[Nat.pow_mul];exact Nat.pow_le_pow_left Ob _
def Oc:cW N (2 ^ b)<=2 ^ xW N b:=by
 unfold cW xW;have e:2*2 ^ b*2 ^ b=2 ^ (1+2*b):=by
  have h:2*b=b+b:=ω
  rw[h,Nat.pow_add,Nat.pow_add,Nat.pow_one,AQ]
 rw[e];refine zw (Ad _) ?_;have:=jJ (N:=N) (b:=1+2*b)
 rwa [show 1+2*b+1=2+2*b from ω] at this
def Od(h1:1<=N)(c:N<=2 ^ n):cG N (2 ^ b)<=2 ^ (2+b+n+xW N b):=by
 unfold cG;have h2:2*2 ^ b<=2 ^ (1+b):=by rw[Nat.pow_add];exact Ad _
 have a:1+N*cW N (2 ^ b)<=2 ^ (1+(n+xW N b)):=Dm (AS) (zw c Oc);have:=zw h2 a
 rwa [show 1+b+(1+(n+xW N b))=2+b+n+xW N b from ω] at this
def Oe(a:N<=2 ^ n):cK N (2 ^ m) (2 ^ x) (2 ^ b)<=2 ^ xK N n m x b:=by
 unfold cK xK;have h1:=nf (x:=x) (b:=b) a;have h2:N*(2 ^ m*(1+2 ^ b) ^ N*cC N (2 ^ x) (2 ^ b))<=2 ^ (n+(m+(b+1)*N+(n+(b+x)))):=zw a (zw (zw (Ad _) jJ) h1);have c:1+cC N (2 ^ x) (2 ^ b)<=2 ^ (1+(n+(m+(b+1)*N+(n+(b+x))))):=Dm AS (Af h1 (pw ω));have:=Dm c (Af h2 (pw (Nat.le_add_left _ 1)))
 rwa [<-Nat.add_assoc] at this
def Of(h1:1<=N)(a:N<=2 ^ n):cE N (2 ^ m) (2 ^ x) (2 ^ b)<=2 ^ xE N n m x b:=by
 have c:cM N (2 ^ m) (2 ^ x) (2 ^ b)<=2 ^ (xK N n m x b+(2+b+n+xW N b)*N):=by
  unfold cM;refine zw (Oe a) ?_;rw[Nat.pow_mul];exact Nat.pow_le_pow_left (Od h1 a) _
 unfold cE xE;refine Dm (Af c (pw ω)) ?_;exact zw a (zw (zw (zw a (zw c (Ad _))) jJ) (nf a))
def Og{e x' b':Nat}(h1:m<=e)(h2:x<=x')(f:b<=b'):xE N n m x b<=xE N n e x' b':=by
 unfold xE xK xW;have a:(b+1)*N<=(b'+1)*N:=Am _ ω;have c:(2+2*b)*N<=(2+2*b')*N:=Am _ ω;have d:(2+b+n+(1+2*b+(2+2*b)*N))*N<=(2+b'+n+(1+2*b'+(2+2*b')*N))*N:=Am _ ω;(first|lia|omega)
end
section
variable{A T U V T' U' V':Nat->Vc}{k w r D bU bV g:Nat}{Bn Bf:List Vc}{QU QV:Nat->Nat}
def i'{n:Nat}{W W':Nat->Vc}(h:∀i,i<n->W i=W' i):tl n W=tl n W':=Bb fun i hi=>h i (List.mem_range.mp hi)
def Ker.cg{n b:Nat}{W W':Nat->Vc}{Q:Nat->Nat}(hr:r<=n)(K:Ker n r g b W Q)(h:∀i,i<n->W i=W' i):Ker n r g b W' Q:=
 ⟨K.qs,fun a u d e=>by rw[<-h _ ω];exact K.kz a u d e,fun a d=>by rw[<-h _ ω];exact K.kp a d,fun a c h1 h2=>by rw[<-h _ ω,<-h _ ω];exact K.kq a c h1 h2,fun i a hi d=>by rw[<-h i ω,<-h _ ω];exact K.tq i a hi d,fun a d=>by rw[<-h _ ω];exact K.km a d⟩
def LI.cg(I:LI A k w r D bU bV g T U V Bn Bf QU QV)(b:∀u i,u<w->i<k->T u i=T' u i)(c:∀i,i<k->U i=U' i)(d:∀u,u<w->V u=V' u):LI A k w r D bU bV g T' U' V' Bn Bf QU QV:=by
 have rk:=I.rk;have e:=I.rw;refine⟨rk,e,I.g1,fun u i a hi=>?_,?_,?_,I.ku.cg rk c,I.kv.cg e d,fun u a=>?_,fun u i a hi=>?_,fun u i h1 h2=>?_,fun u i a hi h=>?_,fun m f=>?_⟩
 ·rw[<-b u i a hi,<-c i hi,<-d u a];exact I.bl u i a hi
 ·rw[<-i' c];exact I.bu
 ·rw[<-i' d];exact I.bv
 ·rw[<-b u u ω ω];exact I.tp u a
 ·rw[<-b u i ω ω];exact I.tz u i a hi
 ·rw[<-b u i ω ω,<-b i i ω ω];exact I.tr u i h1 h2
 ·rw[<-b u i a hi];exact I.to u i a hi h
 ·rw[<-iW fun i hi=>b i i ω ω];exact I.pd m f
def LI.small(I:LI A k w r D bU bV g T U V Bn Bf QU QV){u i:Nat}(a:u<w)(hi:i<k):(T u i).natAbs<=D:=by
 have rk:=I.rk;have b:=I.rw
 by_cases h:r<=u\/r<=i
 ·rw[I.to u i a hi h];exact Az _
 ·rcases Nat.lt_trichotomy u i with g|g|g
  ·have:=I.tr u i g ω
   have:=I.diag_le (i:=i) ω;(first|lia|omega)
  ·subst g;exact I.diag_le ω
  ·rw[I.tz u i ω g];exact Az _
def LM.small{S:Nat->Vc}(I:LM A k w r D bU bV g S U V Bn Bf QU QV){u i:Nat}(a:u<w)(hi:i<k):(S i u).natAbs<=D:=by
 have rk:=I.rk;have b:=I.rw
 by_cases h:r<=u
 ·have:=I.sl.z u i h a hi
  have this:S i u=0:=this;rw[this];exact Az _
 ·rcases Nat.lt_trichotomy u i with g|g|g
  ·have this:S i u=0:=I.sl.tz u i ω g hi
   rw[this];exact Az _
  ·subst g;exact I.diag_le ω
  ·have this:(S i u).natAbs<=(S u u).natAbs:=I.sl.tl u i ω g
   exact Af this (I.diag_le ω)
def Dg.cg(h:Dg r T)(rk:r<=k)(rw:r<=w)(b:∀u i,u<w->i<k->T u i=T' u i):Dg r T':=fun u i a hi ne=>by rw[<-b u i ω ω];exact h u i a hi ne
def Jp:∀r,(∀i,i<r->T i i=T' i i)->mu T r=mu T' r
 |0,_=>rfl
 |r+1,h=>by
  show mu T r+_=mu T' r+_;rw[Jp r fun i hi=>h i ω,iW fun i hi=>h i hi]
def Oh(h:∀u i,u<r->i<r->T u i=T' u i):ms r T=ms r T':=by
 unfold ms;rw[Jp r fun i hi=>h i i hi hi];have:Dg r T↔Dg r T':=⟨fun d u i a hi ne=>by rw[<-h u i a hi];exact d u i a hi ne,fun d u i a hi ne=>by rw[h u i a hi];exact d u i a hi ne⟩
 by_cases c:Dg r T
 ·rw[if_pos c,if_pos (this.mp c)]
 ·rw[if_neg c,if_neg fun z=>c (this.mpr z)]
end
end Tb
end
section
namespace K23
open PySem L2
def fn(tb:Ξ):Nat->Tb.Vc:=fun i=>vc (rowAt tb i)
def zE{tb:Ξ}{i:Nat}{r:List Int}(h:tb[i]?=some r):rowAt tb i=r:=by unfold rowAt;rw[Ac,h];rfl
def zG{tb:Ξ}{i:Nat}(h:i<tb.length):rowAt tb i∈tb:=by rw[zE (Ab h)];exact AB _
def x8{tb:Ξ}{i:Nat}(h:tb.length<=i):rowAt tb i=[]:=by unfold rowAt;rw[Ac,List.getElem?_eq_none h];rfl
def Dn{tb:Ξ}{r:List Int}(h:r∈tb):∃i,i<tb.length/\rowAt tb i=r:=by
 obtain⟨i,hi,rfl⟩:=Be h;exact⟨i,hi,zE (Ab hi)⟩
def gM{l:List Int}{u:Nat}(h:u<l.length):vc l u=l[u]:=by unfold vc;rw[Ac,Ab h];rfl
def Oi{a b:List Int}{m u:Nat}(h:a.length=m):vc (a++b) u=if u<m then vc a u else vc b (u-m):=by
 unfold vc;rw[Ac,Ac,Ac]
 by_cases c:u<m
 ·rw[if_pos c,List.getElem?_append_left ω]
 ·rw[if_neg c,List.getElem?_append_right ω,h]
def Oj{a:List Int}{m u:Nat}:vc (a.take m) u=if u<m then vc a u else 0:=by
 unfold vc;rw[Ac,Ac,List.getElem?_take];split<;>rfl
def Ol{a:List Int}{m u:Nat}:vc (a.drop m) u=vc a (m+u):=by
 unfold vc;rw[Ac,Ac,List.getElem?_drop]
def Jq{tb:Ξ}{n:Nat}(h:tb.length=n):tb.map vc=Tb.tl n (fn tb):=by
 unfold Tb.tl;apply AU
 ·simp[h]
 ·intro i h1 h2
  rw[AW,AW,Ba];show _=vc (rowAt tb i);rw[Aa] at h1;rw[zE (Ab h1)]
section
variable{tb ub:Ξ}{m n:Nat}
def ng(a:tb.length=n)(b:ub.length=n):(cat tb ub).length=n:=by unfold cat;rw[AG,a,b,Nat.min_self]
def Jr(a:tb.length=n)(b:ub.length=n){i:Nat}(hi:i<n):rowAt (cat tb ub) i=rowAt tb i++rowAt ub i:=by
 have h1:=Ab (show i<tb.length from ω);have h2:=Ab (show i<ub.length from ω);rw[zE h1,zE h2];refine zE ?_;unfold cat;rw[List.getElem?_zipWith,h1,h2]
def Gd(a:tb.length=n)(b:ub.length=n)(c:∀r∈tb,r.length=m){i:Nat}(hi:i<n):fn (cat tb ub) i=Tb.glue m (fn tb) (fn ub) i:=funext fun u=>by
 unfold fn Tb.glue;rw[Jr a b hi,Oi (c _ (zG ω))]
def Do(a:tb.length=n)(b:ub.length=n)(c:∀r∈tb,r.length=m):(cat tb ub).map vc=Tb.tl n (Tb.glue m (fn tb) (fn ub)):=by
 rw[Jq (ng a b)];exact Tb.i' fun i hi=>Gd a b c hi
def Om{ρ:Nat->Tb.Vc}{i:Nat}(h:i<=n):(Tb.tl n ρ).take i=Tb.tl i ρ:=by
 unfold Tb.tl;rw[<-List.map_take,List.take_range,Nat.min_eq_left h]
def Js(a:tb.length=n)(b:ub.length=n)(c:∀r∈tb,r.length=m){i:Nat}(hi:i<=n):((cat tb ub).take i).map vc=Tb.tl i (Tb.glue m (fn tb) (fn ub)):=by
 rw[List.map_take,Do a b c,Om hi]
end
def Gg{fr:Nat->List Int}{W:Nat}:∀{ps:List Nat}{rn:List Int},rn.length=W->(∀p∈ps,(fr p).length=W)->shrL fr rn ps=Tb.shr (vF fr) ps (vc rn)
 |[],_,_,_=>rfl
 |p::ps,rn,h,h2=>by
  have hp:=h2 p (Aq ..);show _::shrL fr (cP fr rn p) ps=_::Tb.shr (vF fr) ps (Tb.step (vF fr) p (vc rn));rw[Gg (ps:=ps) (EX h hp) fun q hq=>h2 q (Ao _ hq),Ik ω]
  rfl
structure Side(N M X B Y m n:Nat)(tb ub bb:Ξ):Prop where
 l1:tb.length=n
 l2:ub.length=n
 l3:bb.length=n
 w1:∀r∈tb,r.length=m
 w2:∀r∈ub,r.length=n
 w3:∀r∈bb,r.length=n
 n40:n<=40
 m40:m<=40
 nN:n<=N
 N1:1<=N
 N64:N<64
 bd:∀j,j<=n->Tb.Bd N M X B (Tb.tl j (Tb.glue m (fn tb) (fn ub)))
 row:∀i,i<n->∀P f,Tb.FS N M X B (Tb.tl i (Tb.glue m (fn tb) (fn ub))) P f->∀p∈P,(Tb.glue m (fn tb) (fn ub) i p).natAbs<=M
 hY:∀i,i<n->∀u,(Tb.glue m (fn tb) (fn ub) i u).natAbs<=Y
 B1:1<=B
 X1:1<=X
 Y1:1<=Y
 piv:B<2 ^ 9000
 lim:N*(Tb.cE N M X B*Y)<big
 bk:∀r∈bb,∀x∈r,x.natAbs<big
section
variable{N M X B Y m n:Nat}{tb ub bb:Ξ}
def Side.lenW(S:Side N M X B Y m n tb ub bb):∀r∈cat tb ub,r.length=m+n:=fun r hr=>by
 obtain⟨i,hi,rfl⟩:=Dn hr;rw[ng S.l1 S.l2] at hi;rw[Jr S.l1 S.l2 hi,AN,S.w1 _ (zG (by rw[S.l1];exact hi)),S.w2 _ (zG (by rw[S.l2];exact hi))]
def Side.mem(S:Side N M X B Y m n tb ub bb):∀r∈cat tb ub,∃i,i<n/\vc r=Tb.glue m (fn tb) (fn ub) i:=fun r hr=>by
 obtain⟨i,hi,rfl⟩:=Dn hr;rw[ng S.l1 S.l2] at hi;exact⟨i,hi,Gd S.l1 S.l2 S.w1 hi⟩
def Side.cC1(S:Side N M X B Y m n tb ub bb):1<=Tb.cC N X B:=Nat.mul_pos S.N1 (Nat.mul_pos S.B1 S.X1)
def Side.cK_le(S:Side N M X B Y m n tb ub bb):N*(Tb.cK N M X B*Y)<big:=
 Av (Al _ (Am _ (Af (Tb.FP S.B1) Tb.qa))) S.lim
def Side.at(S:Side N M X B Y m n tb ub bb){P:List Nat}{f:Nat->Tb.Vc}(F:Tb.FS N M X B ((cat tb ub).map vc) P f):∀r∈cat tb ub,∀p∈P,(vc r p).natAbs<=M:=by
 rw[Do S.l1 S.l2 S.w1] at F;have h:=((S.bd n (Ad _)).bd P f F.ech F.srt F.gen (fun p hp=>(F.fr p hp).sp) F.len).2.1;intro r hr p hp;refine h (vc r) ?_ p hp;obtain⟨i,hi,e⟩:=S.mem r hr;rw[e];exact List.mem_map.mpr ⟨i,List.mem_range.mpr hi,rfl⟩
def On{R:List Tb.Vc}{P:List Nat}{f:Nat->Tb.Vc}(F:Tb.FS N M X B R P f):∀p∈P,∀q∈P,(f p q).natAbs<=B:=fun p hp q hq=>by
 rcases Nat.lt_trichotomy p q with h|h|h
 ·have:=F.red p hp q hq h
  have:=F.piv q hq;(first|lia|omega)
 ·subst h;exact F.piv p hp
 ·rw[F.ech.z p hp q h];exact Az _
def Side.shr_le(S:Side N M X B Y m n tb ub bb){P:List Nat}{fr:Nat->List Int}(F:Tb.FS N M X B ((cat tb ub).map vc) P (vF fr))(b:Wid (m+n) P fr):∀r∈cat tb ub,∀x∈shrL fr r P,x.natAbs<=M*2 ^ n:=by
 intro r hr x hx;rw[Gg (S.lenW r hr) fun p hp=>(b.row p hp).2] at hx;have a:P.length=n:=by rw[F.len,Aa,ng S.l1 S.l2]
 have:=Tb.Na F.ech F.srt F.red (F.gen (vc r) (List.mem_map.mpr ⟨r,hr,rfl⟩)) (V:=M) (fun p hp=>Af (S.at F r hr p hp) (Nat.le_mul_of_pos_right _ (by have:=F.ech.pos p hp;(first|lia|omega)))) x hx
 rwa [a] at this
def Side.ok(S:Side N M X B Y m n tb ub bb):Jg N M X B Y m n tb ub bb:=by
 have a:=ng S.l1 S.l2;have l:∀r∈(cat tb ub).map vc,∀u,(r u).natAbs<=Y:=fun r hr u=>by
  obtain⟨q,hq,rfl⟩:=List.mem_map.mp hr;obtain⟨i,hi,e⟩:=S.mem q hq;rw[e];exact S.hY i hi u
 refine⟨S.l1,S.l2,S.l3,S.w1,S.w3,S.n40,by have:=S.m40;(first|lia|omega),S.w2,⟨by have:=S.m40;have:=S.n40;(first|lia|omega),by rw[a];exact S.nN,S.lenW,fun i hi=>?_,fun i r hr P f F p hp=>?_⟩,fun P fr F b r hr=>?_,fun P fr F b r hr x hx row g y hy=>?_⟩
 ·rw[a] at hi
  rw[Js S.l1 S.l2 S.w1 ω];refine⟨S.B1,S.piv,S.lim,fun r hr u=>?_,S.N64,S.bd (i+1) ω⟩;obtain⟨j,h,rfl⟩:=List.mem_map.mp hr;exact S.hY j (by have:=List.mem_range.mp h;(first|lia|omega)) u
 ·have hi:i<n:=by have:=(List.getElem?_eq_some_iff.mp hr).1;rwa [a] at this
  rw[Js S.l1 S.l2 S.w1 ω] at F;have:=S.row i hi P f F p hp
  rwa [<-Gd S.l1 S.l2 S.w1 hi,fn,zE hr] at this
 ·have d:P.length=n:=by rw[F.len,Aa,a]
  have c:((cat tb ub).map vc).length<=N:=by rw[Aa,a];exact S.nN
  have e1:1+P.length*(M*(1+B) ^ P.length*Tb.cC N X B)<=Tb.cK N M X B:=by
   unfold Tb.cK;have:P.length*(M*(1+B) ^ P.length*Tb.cC N X B)<=N*(M*(1+B) ^ N*Tb.cC N X B):=AO (by rw[d];exact S.nN) (Am _ (Al _ (Aw ω (by rw[d];exact S.nN))));(first|lia|omega)
  refine M0 (C:=1) (CF:=Tb.cC N X B) (V:=M) (VF:=B) l c F.fr (On F) F.ech.pos (fun p hp=>Av (F.piv p hp) S.piv) b (S.lenW r hr) (Tb.Rep.mem (List.mem_map.mpr ⟨r,hr,rfl⟩)) (fun q hq=>S.at F r hr q hq) (fun p hp=>hp) ?_ ?_
  ·exact Av (Al _ (Am _ e1)) S.cK_le
  ·refine Av (Al _ (Am _ ?_)) S.cK_le
   unfold Tb.cK;(first|lia|omega)
 ·have h1:=S.shr_le F b r hr x hx
  refine gH ?_ (S.bk row g y hy);rw[Int.natAbs_neg];refine Av h1 (Av ?_ S.cK_le);have a1:2 ^ n<=(1+B) ^ N:=Af (Nat.pow_le_pow_left (by have:=S.B1;(first|lia|omega)) _) (Aw ω S.nN);have a2:M*2 ^ n<=M*(1+B) ^ N*Tb.cC N X B:=Af (Al _ a1) (Nat.le_mul_of_pos_right _ S.cC1);have a3:M*2 ^ n<=Tb.cK N M X B:=by
   unfold Tb.cK;have:=Nat.le_mul_of_pos_left (M*(1+B) ^ N*Tb.cC N X B) S.N1;(first|lia|omega)
  exact Af a3 (Af (Nat.le_mul_of_pos_right _ S.Y1) (Nat.le_mul_of_pos_left _ S.N1))
end
def Jt{w:Nat}:∀{ns:List Int}{tb:Ξ}{l:List Int},l.length=w->(∀r∈tb,r.length=w)->∀u,vc ((ns.zip tb).foldl ck l) u=vc l u+Tb.cmb ns (tb.map vc) u
 |[],tb,l,_,_,u=>by cases tb<;>(show vc l u=vc l u+0;(first|lia|omega))
 |_::_,[],l,_,_,u=>by show vc l u=vc l u+0;(first|lia|omega)
 |x::ns,r::tb,l,hl,h,u=>by
  have hr:=h r (Aq ..);show vc ((ns.zip tb).foldl ck (ck l (x,r))) u=vc l u+(x*vc r u+Tb.cmb ns (tb.map vc) u);rw[Jt (Jd hl hr) (fun r hr=>h r (Ao _ hr)) u];have:vc (ck l (x,r)) u=vc l u - -x*vc r u:=by
   unfold ck dF;rw[C8 (by simp) (show l.length=r.length from ω)]
  rw[this,Int.neg_mul];(first|lia|omega)
def Ju{w u:Nat}:vc (Ay w 0) u=0:=by
 unfold vc;rw[Ac,List.getElem?_replicate];split<;>rfl
def Oo{w:Nat}{ns:List Int}{tb:Ξ}(h:∀r∈tb,r.length=w):vc (gf w ns tb)=Tb.cmb ns (tb.map vc):=funext fun u=>by
 unfold gf;rw[Jt (List.length_replicate) h u,Ju];(first|lia|omega)
def Op{w:Nat}{ns:List Int}{tb:Ξ}(h:∀r∈tb,r.length=w):(gf w ns tb).length=w:=
 FU List.length_replicate fun z hz=>h z.2 (List.of_mem_zip hz).2
def Ent(tb:Ξ)(K:Nat):Prop:=∀i u,(fn tb i u).natAbs<=K
def Ent.mem{tb:Ξ}{K:Nat}(h:Ent tb K):∀r∈tb,∀x∈r,x.natAbs<=K:=fun r hr x hx=>by
 obtain⟨i,_,rfl⟩:=Dn hr;obtain⟨u,_,rfl⟩:=C9 hx;exact h i u
def Ent.mono{tb:Ξ}{K a:Nat}(h:Ent tb K)(hk:K<=a):Ent tb a:=fun i u=>Af (h i u) hk
def qh{tb:Ξ}{K n:Nat}(a:tb.length=n)(h:∀i,i<n->∀u,(fn tb i u).natAbs<=K):Ent tb K:=fun i u=>by
 by_cases c:i<n
 ·exact h i c u
 ·unfold fn
  rw[x8 ω];exact Az _
def Jv{P:List Nat}{g:Nat->List Int}{i:Nat}(h:i<P.length):rowAt (P.map g) i=g (Tb.pp P i):=by
 refine zE ?_;unfold Tb.pp;rw[Aj,Ac,Ab h]
 rfl
def qk{n:Nat}{g:Nat->List Int}{i:Nat}(h:i<n):rowAt ((Ah n).map g) i=g i:=zE (by rw[Aj,AM h];rfl)
def eX{n:Nat}{T:Ξ}{i:Nat}(h:i<n)(u:Nat):fn ((Ah n).map (colAt T)) i u=fn T u i:=by
 unfold fn;rw[qk h]
 by_cases c:u<T.length
 ·rw[zE (Ab c)]
  unfold colAt;show List.getD _ _ _=_;rw[Ac,Aj,Ab c]
  rfl
 ·rw[x8 ω]
  show List.getD _ _ _=_;unfold colAt;rw[Ac,Aj,List.getElem?_eq_none ω]
  rfl
def fy{n:Nat}{T:Ξ}:((Ah n).map (colAt T)).length=n:=by simp
def jK{n w:Nat}{T:Ξ}(h:T.length=w):∀r∈(Ah n).map (colAt T),r.length=w:=fun r hr=>by
 obtain⟨j,_,rfl⟩:=List.mem_map.mp hr;unfold colAt;rw[Aa,h]
def kM{n i:Nat}(h:i<n):fn (unT n) i=Tb.un i:=funext fun t=>by
 unfold fn unT slpT;rw[qk h];unfold bY Tb.un Tb.dl vc;rw[List.length_replicate,if_pos h,Ac,List.getElem?_set,Ac,List.getElem?_replicate,if_pos h]
 by_cases c:i=t
 ·rw[if_pos c,if_pos c,List.length_replicate,if_pos h];rfl
 ·rw[if_neg c,if_neg c,List.getElem?_replicate]
  split<;>rfl
def ya{n:Nat}:(unT n).length=n:=by unfold unT slpT;simp
def jL{n:Nat}:∀r∈unT n,r.length=n:=fun r hr=>by
 unfold unT slpT at hr;obtain⟨j,_,rfl⟩:=List.mem_map.mp hr;unfold bY;split<;>simp
section
variable{N M X B Y m n:Nat}{tb ub bb:Ξ}{P:List Nat}{fr:Nat->List Int}
structure Done(N M X B m n:Nat)(tb ub bb:Ξ)(P:List Nat)(fr:Nat->List Int)(kI jY jF:Ξ):Prop where
 fs:Tb.FS N M X B (Tb.tl n (Tb.glue m (fn tb) (fn ub))) P (vF fr)
 lP:P.length=n
 l1:kI.length=n
 l2:jY.length=n
 l3:jF.length=n
 w1:∀r∈kI,r.length=m
 w2:∀r∈jY,r.length=n
 w3:∀r∈jF,r.length=n
 f1:∀i u,i<n->u<m->fn kI i u=vF fr (Tb.pp P i) u
 f2:∀i,i<n->fn jY i=fun t=>vF fr (Tb.pp P i) (m+t)
 f3:Tb.tl n (fn jF)=Tb.m7 n ((Tb.tl n (Tb.glue m (fn tb) (fn ub))).map fun r=>Tb.shr (vF fr) P r) (Tb.tl n (fn bb))
 e2:∀{a:Nat},Ent ub a->Ent jY (N*(Tb.cC N X B*a))
 e3:∀{b:Nat},Ent bb b->Ent jF (N*(M*2 ^ N*b))
def Side.done(S:Side N M X B Y m n tb ub bb)(F:Tb.FS N M X B ((cat tb ub).map vc) P (vF fr))(f:Wid (m+n) P fr):Done N M X B m n tb ub bb P fr (P.map fun p=>(fr p).take m) (P.map fun p=>(fr p).drop m) (i5 n ((cat tb ub).map fun r=>shrL fr r P) bb):=by
 have w:=S.shr_le F f;have g:=F;rw[Do S.l1 S.l2 S.w1] at g;have d:P.length=n:=by rw[F.len,Aa,ng S.l1 S.l2]
 have f2:∀i,i<n->fn (P.map fun p=>(fr p).drop m) i=fun t=>vF fr (Tb.pp P i) (m+t):=fun i hi=>funext fun t=>by
  unfold fn;rw[Jv ω,Ol]
  rfl
 have h:(i5 n ((cat tb ub).map fun r=>shrL fr r P) bb).length=n:=by unfold i5;simp
 have l:∀j,j<n->fn (i5 n ((cat tb ub).map fun r=>shrL fr r P) bb) j=Tb.cmb (colAt ((cat tb ub).map fun r=>shrL fr r P) j) (bb.map vc):=fun j c=>by
  unfold fn i5;rw[qk c,Oo S.w3]
 refine⟨g,d,by rw[Aa,d],by rw[Aa,d],h,fun r hr=>?_,fun r hr=>?_,fun r hr=>?_,fun i u hi o=>?_,f2,?_,fun{a} q=>?_,fun{b} hb=>?_⟩
 ·obtain⟨p,hp,rfl⟩:=List.mem_map.mp hr
  rw[Bo,(f.row p hp).2];(first|lia|omega)
 ·obtain⟨p,hp,rfl⟩:=List.mem_map.mp hr
  rw[List.length_drop,(f.row p hp).2];(first|lia|omega)
 ·unfold i5 at hr
  obtain⟨j,_,rfl⟩:=List.mem_map.mp hr;exact Op S.w3
 ·unfold fn
  rw[Jv ω,Oj,if_pos o]
  rfl
 ·have e:Tb.tl n (fn (i5 n ((cat tb ub).map fun r=>shrL fr r P) bb))=(Ah n).map fun j=>Tb.cmb (colAt ((cat tb ub).map fun r=>shrL fr r P) j) (bb.map vc):=Bb fun j c=>l j (List.mem_range.mp c)
  rw[e];unfold Tb.m7;refine Bb fun j _=>funext fun s=>?_;rw[Jq S.l3];have e2:(Tb.tl n (Tb.glue m (fn tb) (fn ub))).map (fun r=>Tb.shr (vF fr) P r)=(cat tb ub).map fun r=>shrL fr r P:=by
   rw[<-Do S.l1 S.l2 S.w1,AT];exact Bb fun r hr=>(Gg (S.lenW r hr) fun p hp=>(f.row p hp).2).symm
  rw[e2]
  rfl
 ·refine qh (n:=n) (by rw[Aa,d]) fun i hi u=>?_
  rw[f2 i hi];exact Tb.Nb g (fun i t hi=>q i t) _ (Tb.p' d hi) u
 ·refine qh h fun j c u=>?_
  rw[l j c];have z:(colAt ((cat tb ub).map fun r=>shrL fr r P) j).length=(bb.map vc).length:=by unfold colAt;rw[Aa,Aa,Aa,ng S.l1 S.l2,S.l3]
  have A:Tb.Rep (bb.map vc) (M*2 ^ n) (Tb.cmb (colAt ((cat tb ub).map fun r=>shrL fr r P) j) (bb.map vc)):=by
   refine⟨_,z,fun u=>rfl,fun x hx=>?_⟩;unfold colAt at hx;rw[AT] at hx;obtain⟨r,hr,rfl⟩:=List.mem_map.mp hx;show((shrL fr r P).getD j 0).natAbs<=_;rw[Ac];cases e:(shrL fr r P)[j]? with
   |none=>exact Az _
   |some y=>exact w r hr y (Ak e)
  have:=A.le (u:=u) (M:=b) fun v hv=>by
   obtain⟨r,hr,rfl⟩:=List.mem_map.mp hv;obtain⟨i,_,rfl⟩:=Dn hr;exact hb i u
  refine Af this (AO (by rw[Aa,S.l3];exact S.nN) (Am _ (Al _ (Tb.pw S.nN))))
end
end K23
end
section
namespace Tb
def Ker.mono{n r g g' b:Nat}{W:Nat->Vc}{Q:Nat->Nat}(K:Ker n r g b W Q)(h:g<=g'):Ker n r g' b W Q:=⟨K.qs,K.kz,K.kp,K.kq,fun i a hi c=>Af (K.tq i a hi c) (Am _ h),K.km⟩
def LM.mono{A S U V:Nat->Vc}{k w r D bU bV g g':Nat}{Bn Bf:List Vc}{QU QV:Nat->Nat}(I:LM A k w r D bU bV g S U V Bn Bf QU QV)(h:g<=g'):LM A k w r D bU bV g' S U V Bn Bf QU QV:=⟨I.rk,I.rw,Af I.g1 h,I.bl,I.bu,I.bv,I.ku.mono h,I.kv,I.sl,I.pd⟩
end Tb
namespace K23
open PySem L2
def x1(N n m:Nat):Nat:=(1+n+m)*N
def dd(N n m:Nat):Nat:=(2+n+m)*N
def be(N n m:Nat):Nat:=n+m+dd N n m
def m2(N n m:Nat):Nat:=2*n+be N n m+x1 N n m+m
def x2(N n m:Nat):Nat:=(1+n+m2 N n m)*N
def ga(N n m:Nat):Nat:=n+x2 N n m+m2 N n m
def Tm(N n m:Nat):Nat:=2*(N*dd N n m)+1
def kp(N n m:Nat):Nat:=ga N n m+(n+1)*N+2*n+1
def k0(N n m:Nat):Nat:=2*n+ga N n m+x2 N n m+m2 N n m+N+m
structure Good(N n m:Nat):Prop where
 N1:1<=N
 N40:N<=40
 Nn:N<=2 ^ n
 piv:ga N n m<9000
 m9:m<=900
 lim:n+Tb.xE N n (n*Tm N n m+ga N n m) ((n*Tm N n m+1)*N+x2 N n m) (ga N n m)+(k0 N n m+kp N n m*(Tm N n m+1))<67107860
def Gh{a b:Nat}(h:a<=2 ^ b)(hb:b<67108864):a<big:=by
 unfold big;exact Av h (Nat.pow_lt_pow_right ξ (by rw[kD];exact hb))
noncomputable def low:Nat:=2 ^ (bt-1000)
def Jw{a b:Nat}(h:a<=2 ^ b)(hb:b<67107864):a<low:=by
 unfold low;exact Av h (Nat.pow_lt_pow_right ξ (by rw[kD];exact hb))
def Jx{a b:Nat}(h:a<=2 ^ b)(hb:b<67107863):a+1000<low:=by
 obtain⟨c,hc,hd⟩:∃c,bt-1000=c+1/\c=67107863:=⟨bt-1001,by rw[kD],by rw[kD]⟩;have h1:a<2 ^ c:=Av h (Nat.pow_lt_pow_right ξ ω);have h2:2 ^ 10<=2 ^ c:=Aw ξ ω;unfold low;rw[hc,Nat.pow_succ];have d:(2:Nat) ^ 10=1024:=ξ
 rw[d] at h2;generalize (2:Nat) ^ c=z at *;(first|lia|omega)
def Gj{a:Nat}(h:a<low):a<big:=by
 unfold low at h;unfold big;exact AE h (Aw ξ (Nat.sub_le _ _))
section
variable{N n m:Nat}
def iB(G:Good N n m):be N n m<=m2 N n m/\m2 N n m<=x2 N n m/\x2 N n m<=ga N n m/\dd N n m<=be N n m/\be N n m<=ga N n m/\x1 N n m<=m2 N n m:=by
 have h:m2 N n m<=x2 N n m:=by
  unfold x2;have:(1+n+m2 N n m)*1<=(1+n+m2 N n m)*N:=Al _ G.N1;(first|lia|omega)
 unfold m2 at h ⊢;unfold ga be m2 at *;(first|lia|omega)
def Good.cE(G:Good N n m){M X B Y mu x y t:Nat}(c:∃b,B=2 ^ b/\b<=ga N n m)(d:M=2 ^ mu)(e:X=2 ^ x)(f:Y=2 ^ y)(g:t<=Tm N n m+1)(h1:mu<=n*Tm N n m+ga N n m)(h2:x<=(n*Tm N n m+1)*N+x2 N n m)(h:y<=k0 N n m+kp N n m*t):N*(Tb.cE N M X B*Y)<big:=by
 obtain⟨b,rfl,hb⟩:=c;subst d e f;have i:y<=k0 N n m+kp N n m*(Tm N n m+1):=Af h (Nat.add_le_add_left (Al _ g) _);have j:=Tb.Og (N:=N) (n:=n) h1 h2 hb;have a:=G.lim;have a:n+Tb.xE N n (n*Tm N n m+ga N n m) ((n*Tm N n m+1)*N+x2 N n m) (ga N n m)+(k0 N n m+kp N n m*(Tm N n m+1))<67107860:=a;refine Gh (Tb.zw G.Nn (Tb.zw (Tb.Of G.N1 G.Nn) (Ad _))) ?_;(first|lia|omega)
def Good.entL(G:Good N n m){tb:Ξ}{y t:Nat}(h:Ent tb (2 ^ y))(a:t<=Tm N n m+1)(b:y<=k0 N n m+kp N n m*t):∀r∈tb,∀x∈r,x.natAbs<low:=fun r hr x hx=>by
 have c:y<=k0 N n m+kp N n m*(Tm N n m+1):=Af b (Nat.add_le_add_left (Al _ a) _);have d:n+Tb.xE N n (n*Tm N n m+ga N n m) ((n*Tm N n m+1)*N+x2 N n m) (ga N n m)+(k0 N n m+kp N n m*(Tm N n m+1))<67107860:=G.lim;exact Jw (h.mem r hr x hx) ω
def Good.entM(G:Good N n m){tb:Ξ}{y t:Nat}(h:Ent tb (2 ^ y))(a:t<=Tm N n m+1)(b:y<=k0 N n m+kp N n m*t):∀r∈tb,∀x∈r,x.natAbs+1000<low:=fun r hr x hx=>by
 have c:y<=k0 N n m+kp N n m*(Tm N n m+1):=Af b (Nat.add_le_add_left (Al _ a) _);have d:=G.lim;exact Jx (h.mem r hr x hx) ω
def Good.ent(G:Good N n m){tb:Ξ}{y t:Nat}(h:Ent tb (2 ^ y))(a:t<=Tm N n m+1)(b:y<=k0 N n m+kp N n m*t):∀r∈tb,∀x∈r,x.natAbs<big:=fun r hr x hx=>Gj (G.entL h a b r hr x hx)
structure LS(N n m t e:Nat)(A:Nat->Tb.Vc)(k w r:Nat)(T U Bn V Bf:Ξ)(QU QV:Nat->Nat):Prop where
 kN:k<=N
 wN:w<=N
 lT:T.length=w
 lU:U.length=k
 lB:Bn.length=k
 lV:V.length=w
 lC:Bf.length=w
 wT:∀r∈T,r.length=k
 wU:∀r∈U,r.length=k
 wB:∀r∈Bn,r.length=k
 wV:∀r∈V,r.length=w
 wC:∀r∈Bf,r.length=w
 li:Tb.LI A k w r (2 ^ dd N n m) (2 ^ be N n m) (2 ^ ga N n m) (2 ^ e) (fn T) (fn U) (fn V) (Tb.tl k (fn Bn)) (Tb.tl w (fn Bf)) QU QV
 te:e<=n*t
 tm:t+Tb.ms r (fn T)<=Tm N n m
 eu:∃u,Ent U (2 ^ u)/\u+N*e<=k0 N n m+kp N n m*t
 eb:∃b,Ent Bn (2 ^ b)/\b+e<=k0 N n m+kp N n m*t
 ev:Ent V (2 ^ (k0 N n m+kp N n m*t))
 ec:Ent Bf (2 ^ (k0 N n m+kp N n m*t))
structure LH(N n m t e:Nat)(A:Nat->Tb.Vc)(k w r:Nat)(T S U Bn V Bf:Ξ)(S0 U0:Nat->Tb.Vc)(QU QV:Nat->Nat):Prop where
 kN:k<=N
 wN:w<=N
 lS:S.length=k
 lU:U.length=k
 lB:Bn.length=k
 lV:V.length=w
 lC:Bf.length=w
 wS:∀r∈S,r.length=w
 wU:∀r∈U,r.length=k
 wB:∀r∈Bn,r.length=k
 wV:∀r∈V,r.length=w
 wC:∀r∈Bf,r.length=w
 lm:Tb.LM A k w r (2 ^ dd N n m) (2 ^ be N n m) (2 ^ ga N n m) (2 ^ e) S0 U0 (fn V) (Tb.tl k (fn Bn)) (Tb.tl w (fn Bf)) QU QV
 hS:∀i u,i<k->u<w->fn S i u=S0 i u
 hU:∀i,i<k->U0 i=fn U i
 ms:∀{M2 X2 B2:Nat}{P2:List Nat}{f2:Nat->Tb.Vc},Tb.Tri w r k M2 1 (Tb.glue k (fun u i=>S0 i u) (fn V)) (fun a=>k+QV a)->Tb.FS N M2 X2 B2 (Tb.tl w (Tb.glue k (fun u i=>S0 i u) (fn V))) P2 f2->Tb.ms r (fun u=>f2 (Tb.pls r k QV u))<Tb.ms r (fn T)
 te:e<=n*(t+1)
 tm:t+Tb.ms r (fn T)<=Tm N n m
 eu:∃u,Ent U (2 ^ u)/\u+N*e<=k0 N n m+kp N n m*(t+1)
 eb:∃b,Ent Bn (2 ^ b)/\b+e<=k0 N n m+kp N n m*(t+1)
 ev:Ent V (2 ^ (k0 N n m+kp N n m*t))
 ec:Ent Bf (2 ^ (k0 N n m+kp N n m*t))
def Dp{q:Nat}{S a W W':Nat->Tb.Vc}{i:Nat}(h1:∀u,u<q->S i u=a i u)(h2:W i=W' i):Tb.glue q S W i=Tb.glue q a W' i:=funext fun u=>by
 unfold Tb.glue
 by_cases c:u<q
 ·rw[if_pos c,if_pos c,h1 u c]
 ·rw[if_neg c,if_neg c,h2]
def Dq{q:Nat}{S W:Nat->Tb.Vc}{i K:Nat}(h1:∀u,u<q->(S i u).natAbs<=K)(h2:∀t,(W i t).natAbs<=K)(u:Nat):(Tb.glue q S W i u).natAbs<=K:=by
 unfold Tb.glue
 by_cases c:u<q
 ·rw[if_pos c];exact h1 u c
 ·rw[if_neg c];exact h2 _
variable{t e k w r:Nat}{A:Nat->Tb.Vc}{T S U Bn V Bf:Ξ}{QU QV:Nat->Nat}{S0 U0:Nat->Tb.Vc}
def LH.rho(L:LH N n m t e A k w r T S U Bn V Bf S0 U0 QU QV){i:Nat}(hi:i<w):Tb.glue k (fn ((Ah w).map (colAt S))) (fn V) i=Tb.glue k (fun u i=>S0 i u) (fn V) i:=
 Dp (fun u a=>by rw[eX hi];exact L.hS u i a hi) rfl
def LH.tl(L:LH N n m t e A k w r T S U Bn V Bf S0 U0 QU QV){j:Nat}(a:j<=w):Tb.tl j (Tb.glue k (fn ((Ah w).map (colAt S))) (fn V))=Tb.tl j (Tb.glue k (fun u i=>S0 i u) (fn V)):=Tb.i' fun i hi=>L.rho ω
def LH.tri(G:Good N n m)(L:LH N n m t e A k w r T S U Bn V Bf S0 U0 QU QV):Tb.Tri w r k (2 ^ ga N n m) 1 (Tb.glue k (fun u i=>S0 i u) (fn V)) (fun a=>k+QV a):=by
 have h:=iB G;exact L.lm.far_tri (Ad _) (Tb.pw ω)
def LH.side(G:Good N n m)(L:LH N n m t e A k w r T S U Bn V Bf S0 U0 QU QV):Side N (2 ^ ga N n m) (2 ^ N) (2 ^ ga N n m) (2 ^ (k0 N n m+kp N n m*t)) k w ((Ah w).map (colAt S)) V Bf:=by
 have h:=iB G;have T2:=L.tri G;have g:=G.N40;have l:=L.tm;have o:=L.wN;refine⟨fy,L.lV,L.lC,jK L.lS,L.wV,L.wC,ω,by have:=L.kN;(first|lia|omega),L.wN,G.N1,ω,fun j b=>?_,fun i hi P f F p hp=>?_,fun i hi u=>?_,AS,AS,AS,Nat.pow_lt_pow_right ξ G.piv,?_,?_⟩
 ·rw[L.tl b]
  refine(Tb.IJ T2 (B:=2 ^ ga N n m) (N:=N) (fun a c=>?_) (fun q hq=>?_) L.wN b).mono (Ad _) (by show(1+1) ^ N<=2 ^ N;exact Ad _) (Ad _)
  ·have:=T2.km a c;(first|lia|omega)
  ·rw[Tb.iW (g':=S0) fun i hi=>by rw[Tb.zV (by have:=L.lm.rk;(first|lia|omega))]]
   exact Af (L.lm.pd q hq) (Tb.pw ω)
 ·rw[L.tl ω] at F
  rw[L.rho hi];exact T2.row hi F p hp
 ·rw[L.rho hi]
  refine Dq (fun u d=>Af (L.lm.small (u:=i) (i:=u) hi d) (Tb.pw ?_)) (fun s=>L.ev i s) u;unfold k0;(first|lia|omega)
 ·exact G.cE ⟨_,rfl,Ad _⟩ rfl rfl rfl (t:=t) ω ω (by have:1*N<=(n*Tm N n m+1)*N:=Am _ ω;(first|lia|omega)) (Ad _)
 ·exact G.ent (t:=t) L.ec ω (Ad _)
def jP:k0 N n m+kp N n m*(t+1)=k0 N n m+kp N n m*t+kp N n m:=by rw[Nat.mul_add,Nat.mul_one];(first|lia|omega)
def LH.next(G:Good N n m)(L:LH N n m t e A k w r T S U Bn V Bf S0 U0 QU QV){P:List Nat}{fr:Nat->List Int}{T' V' h:Ξ}(D:Done N (2 ^ ga N n m) (2 ^ N) (2 ^ ga N n m) k w ((Ah w).map (colAt S)) V Bf P fr T' V' h):LS N n m (t+1) e A k w r T' U Bn V' h QU QV:=by
 have j:=L.tri G;have F:=D.fs;rw[L.tl (Ad _)] at F;obtain⟨l,J,_,_⟩:=L.lm.far_done j F;have p:=L.ms j F;have d:∀i,i<w->Tb.pp P i=Tb.pls r k QV i:=fun i hi=>by
  unfold Tb.pp;rw[l,Ac,Aj,AM hi];rfl
 have f:∀u i,u<w->i<k->vF fr (Tb.pls r k QV u) i=fn T' u i:=fun u i c hi=>by rw[D.f1 u i c hi,d u c]
 have rk:=J.rk;have q:=J.rw;have g:=D.f3;rw[L.tl (Ad _)] at g;have o:∀a b:Nat,2*n+ga N n m+N<=kp N n m:=fun _ _=>by unfold kp;rw[Nat.add_mul];(first|lia|omega)
 have h1:=o 0 0;refine⟨L.kN,L.wN,D.l1,L.lU,L.lB,D.l2,D.l3,D.w1,L.wU,L.wB,D.w2,D.w3,?_,L.te,?_,L.eu,L.eb,?_,?_⟩
 ·rw[<-g] at J
  exact J.cg f L.hU fun u c=>by rw[D.f2 u c,d u c]
 ·rw[<-Tb.Oh (T:=fun u=>vF fr (Tb.pls r k QV u)) fun u i c hi=>f u i ω ω]
  have:=L.tm;(first|lia|omega)
 ·refine(D.e2 L.ev).mono ?_
  rw[jP];refine Af (Tb.zw G.Nn (Tb.zw (Tb.nf G.Nn) (Ad _))) (Tb.pw ?_);(first|lia|omega)
 ·refine(D.e3 L.ec).mono ?_
  rw[jP];refine Af (Tb.zw G.Nn (Tb.zw (Tb.zw (Ad _) (Ad _)) (Ad _))) (Tb.pw ?_);(first|lia|omega)
end
end K23
end
section
namespace Tb
def Jy{U:Nat->Vc}{r u:Nat}:∀(n i:Nat),ss U r n i u=ss (fun i _=>U i u) r n i 0
 |0,_=>rfl
 |n+1,i=>by show U i u+ss U r n (i+1) u=U i u+_;rw[Jy n (i+1)]
def Jz{C:Nat->Vc}{r:Nat}:∀(n:Nat),n+1<=r->∀i,gJ C r n i=if r-n<=i/\i<r then(fun s=>C i s-C (i-1) s) else C i
 |0,h,i=>by show C i=_;rw[if_neg ω]
 |n+1,h,i=>by
  have a:=Jz (C:=C) (r:=r) n ω;show put (gJ C r n) (r-1-n) (fun s=>gJ C r n (r-1-n) s-gJ C r n (r-2-n) s) i=_
  by_cases e:i=r-1-n
  ·rw[e,zO,if_pos ω,a (r-1-n),a (r-2-n),if_neg ω,if_neg ω,show r-1-n-1=r-2-n from ω]
  ·rw[dH e,a i]
   by_cases h2:r-n<=i/\i<r
   ·rw[if_pos h2,if_pos ω]
   ·rw[if_neg h2,if_neg ω]
end Tb
namespace K23
open PySem L2
def JA{tb:Ξ}{j i:Nat}{x:List Int}(h:j<tb.length):rowAt (tb.set j x) i=if i=j then x else rowAt tb i:=by
 unfold rowAt;rw[Ac,Ac,List.getElem?_set]
 by_cases c:i=j
 ·rw[if_pos c.symm,if_pos c,if_pos h];rfl
 ·rw[if_neg (Ne.symm c),if_neg c]
def JB{a b:List Int}{q:Int}(h:a.length=b.length):vc (dF a q b)=fun u=>vc a u-q*vc b u:=by unfold dF;rw[C8 (by simp) h]
def JC{a b:List Int}{q:Int}(h:a.length=b.length):(dF a q b).length=a.length:=by unfold dF;rw[AG];(first|lia|omega)
section
variable{tb:Ξ}{r W:Nat}
def qx(hr:r<=tb.length)(hw:∀x∈tb,x.length=W):∀n,n+1<=r->∀x∈slT tb r n,x.length=W
 |0,_,x,hx=>hw x hx
 |n+1,h,x,hx=>by
  have a:=qx hr hw n ω;have b:=m_ (tb:=tb) (r:=r) n;rcases List.mem_or_eq_of_mem_set hx with hx|rfl
  ·exact a x hx
  ·rw[JC (by rw[a _ (zG ω),a _ (zG ω)])]
   exact a _ (zG ω)
def Dr(hr:r<=tb.length)(hw:∀x∈tb,x.length=W):∀n,n+1<=r->∀x∈slB tb r n,x.length=W
 |0,_,x,hx=>hw x hx
 |n+1,h,x,hx=>by
  have a:=Dr hr hw n ω;have b:=xn (tb:=tb) (r:=r) n;rcases List.mem_or_eq_of_mem_set hx with hx|rfl
  ·exact a x hx
  ·rw[JC (by rw[a _ (zG ω),a _ (zG ω)])]
   exact a _ (zG ω)
def Ds(hr:r<=tb.length)(hw:∀x∈tb,x.length=W):∀n,n+1<=r->fn (slT tb r n)=Tb.cb (fn tb) r n
 |0,_=>rfl
 |n+1,h=>by
  have b:=Ds hr hw n ω;have a:=qx hr hw n ω;have d:=m_ (tb:=tb) (r:=r) n
  funext i
  show vc (rowAt ((slT tb r n).set (r-2-n) _) i)=Tb.put (Tb.cb (fn tb) r n) (r-2-n) _ i;rw[JA ω,<-b];unfold Tb.put
  by_cases c:i=r-2-n
  ·rw[if_pos c,if_pos c,JB (by rw[a _ (zG ω),a _ (zG ω)])]
   funext u
   show vc _ u - -1*vc _ u=vc _ u+vc _ u;(first|lia|omega)
  ·rw[if_neg c,if_neg c];rfl
def Gn(hr:r<=tb.length)(hw:∀x∈tb,x.length=W):∀n,n+1<=r->fn (slB tb r n)=Tb.gJ (fn tb) r n
 |0,_=>rfl
 |n+1,h=>by
  have b:=Gn hr hw n ω;have a:=Dr hr hw n ω;have d:=xn (tb:=tb) (r:=r) n
  funext i
  show vc (rowAt ((slB tb r n).set (r-1-n) _) i)=Tb.put (Tb.gJ (fn tb) r n) (r-1-n) _ i;rw[JA ω,<-b];unfold Tb.put
  by_cases c:i=r-1-n
  ·rw[if_pos c,if_pos c,JB (by rw[a _ (zG ω),a _ (zG ω)])]
   funext u
   show vc _ u-1*vc _ u=vc _ u-vc _ u;(first|lia|omega)
  ·rw[if_neg c,if_neg c];rfl
def Gq(hr:r<=tb.length)(hw:∀x∈tb,x.length=W){K n:Nat}(h:n+1<=r)(a:Ent tb K):Ent (slT tb r n) (r*K):=fun i u=>by
 rw[Ds hr hw n h,Tb.FC n h];split
 ·exact Af (Tb.FE (K:=K) (r-i) i fun j _ _=>a j u) (Am _ ω)
 ·exact Af (a i u) (Nat.le_mul_of_pos_left _ ω)
def JD(hr:r<=tb.length)(hw:∀x∈tb,x.length=W){K n:Nat}(h:n+1<=r)(a:Ent tb K):Ent (slB tb r n) (2*K):=fun i u=>by
 rw[Gn hr hw n h,Tb.Jz n h];split
 ·have h1:=a i u
  have h2:=a (i-1) u;show(fn tb i u-fn tb (i-1) u).natAbs<=_;(first|lia|omega)
 ·have:=a i u;(first|lia|omega)
end
section
variable{N n m t e k w r:Nat}{A:Nat->Tb.Vc}{T U Bn V Bf:Ξ}{QU QV:Nat->Nat}
def LS.rho(L:LS N n m t e A k w r T U Bn V Bf QU QV){i:Nat}(hi:i<k):Tb.glue w (fn ((Ah k).map (colAt T))) (fn U) i=Tb.glue w (fun i u=>fn T u i) (fn U) i:=Dp (fun u a=>eX hi u) rfl
def LS.tl(L:LS N n m t e A k w r T U Bn V Bf QU QV){j:Nat}(a:j<=k):Tb.tl j (Tb.glue w (fn ((Ah k).map (colAt T))) (fn U))=Tb.tl j (Tb.glue w (fun i u=>fn T u i) (fn U)):=Tb.i' fun i hi=>L.rho ω
def LS.tri(G:Good N n m)(L:LS N n m t e A k w r T U Bn V Bf QU QV):Tb.Tri k r w (2 ^ (e+be N n m)) (2 ^ e) (Tb.glue w (fun i u=>fn T u i) (fn U)) (fun a=>w+QU a):=by
 have h:=iB G;exact L.li.near_tri (by rw[Nat.pow_add];exact Ad _) (Tb.pw ω)
def LS.tT(L:LS N n m t e A k w r T U Bn V Bf QU QV):t<=Tm N n m:=by have:=L.tm;(first|lia|omega)
def LS.eT(L:LS N n m t e A k w r T U Bn V Bf QU QV):e<=n*Tm N n m:=Af L.te (Al _ L.tT)
def LS.side(G:Good N n m)(L:LS N n m t e A k w r T U Bn V Bf QU QV):Side N (2 ^ (e+be N n m)) (2 ^ ((e+1)*N)) (2 ^ be N n m) (2 ^ (k0 N n m+kp N n m*t)) w k ((Ah k).map (colAt T)) U Bn:=by
 have h:=iB G;have T1:=L.tri G;have o:=G.N40;have tT:=L.tT;have eT:=L.eT;obtain⟨v,g,x⟩:=L.eu;obtain⟨y,l,z⟩:=L.eb;refine⟨fy,L.lU,L.lB,jK L.lT,L.wU,L.wB,by have:=L.kN;(first|lia|omega),by have:=L.wN;(first|lia|omega),L.kN,G.N1,ω,fun j b=>?_,fun i hi P f F p hp=>?_,fun i hi u=>?_,AS,AS,AS,Nat.pow_lt_pow_right ξ (by have:=G.piv;(first|lia|omega)),?_,?_⟩
 ·rw[L.tl b]
  refine(Tb.IJ T1 (B:=2 ^ be N n m) (N:=N) (fun a c=>?_) (fun q hq=>?_) L.kN b).mono (Ad _) Tb.jJ (Ad _)
  ·show(Tb.glue w (fun i u=>fn T u i) (fn U) (r+a) (w+QU a)).natAbs<=_
   rw[Tb.fg];exact L.li.ku.km a c
  ·rw[Tb.FB L.li hq]
   exact Af (L.li.pd q hq) (Tb.pw ω)
 ·rw[L.tl ω] at F
  rw[L.rho hi];exact T1.row hi F p hp
 ·rw[L.rho hi]
  refine Dq (fun u d=>Af (L.li.small (u:=u) (i:=i) d hi) (Tb.pw ?_)) (fun s=>Af (g i s) (Tb.pw ω)) u;unfold k0;(first|lia|omega)
 ·refine G.cE ⟨_,rfl,ω⟩ rfl rfl rfl (t:=t) ω ω ?_ (Ad _)
  have:(e+1)*N<=(n*Tm N n m+1)*N:=Am _ ω;(first|lia|omega)
 ·exact G.ent (t:=t) l ω ω
def LS.near(G:Good N n m)(L:LS N n m t e A k w r T U Bn V Bf QU QV)(hd:¬Tb.Dg r (fn T)){P:List Nat}{fr:Nat->List Int}{f U' c:Ξ}(D:Done N (2 ^ (e+be N n m)) (2 ^ ((e+1)*N)) (2 ^ be N n m) w k ((Ah k).map (colAt T)) U Bn P fr f U' c):LH N n m t 0 A k w r T f U' c V Bf (fun i=>vF fr (Tb.pls r w QU i)) (fun i s=>vF fr (Tb.pls r w QU i) (w+s)) QU QV:=by
 have d:=L.tri G;have F:=D.fs;rw[L.tl (Ad _)] at F;obtain⟨l,J,_,_⟩:=L.li.near_done d F;have a:∀i,i<k->Tb.pp P i=Tb.pls r w QU i:=fun i hi=>by
  unfold Tb.pp;rw[l,Ac,Aj,AM hi];rfl
 have b:=D.f3;rw[L.tl (Ad _)] at b;rw[<-b] at J;have h:=iB G;have hk:2*n+be N n m+N<=kp N n m:=by unfold kp;rw[Nat.add_mul];(first|lia|omega)
 obtain⟨v,o,x⟩:=L.eu;obtain⟨y,p,z⟩:=L.eb;refine⟨L.kN,L.wN,D.l1,D.l2,D.l3,L.lV,L.lC,D.w1,D.w2,D.w3,L.wV,L.wC,J,fun i u hi g=>by rw[D.f1 i u hi g,a i hi],fun i hi=>by rw[D.f2 i hi,a i hi],fun j q=>Tb.No L.li hd d F j q,Az _,L.tm,⟨_,(D.e2 o).mono (Tb.zw G.Nn (Tb.zw (Tb.nf G.Nn) (Ad _))),?_⟩,⟨_,(D.e3 p).mono (Tb.zw G.Nn (Tb.zw (Tb.zw (Ad _) (Ad _)) (Ad _))),?_⟩,L.ev,L.ec⟩
 ·rw[jP,Nat.add_mul,Nat.mul_comm e N];(first|lia|omega)
 ·rw[jP];(first|lia|omega)
def LS.slSml(G:Good N n m)(L:LS N n m t e A k w r T U Bn V Bf QU QV):∀j,j<r->Sml (slT ((Ah k).map (colAt T)) r j)/\Sml (slT U r j)/\Sml (slB Bn r j):=fun j g=>by
 have h:=iB G;have rk:=L.li.rk;have s:=L.kN;have f:=G.N40;have tT:=L.tT;have rn:r<=2 ^ n:=Af ω G.Nn;obtain⟨l,a,o⟩:=L.eu;obtain⟨p,b,q⟩:=L.eb;have hk:n+1<=kp N n m:=by unfold kp;(first|lia|omega)
 have c:be N n m<=k0 N n m:=by unfold k0;(first|lia|omega)
 have eT:Ent ((Ah k).map (colAt T)) (2 ^ be N n m):=qh fy fun i hi u=>by
  rw[eX hi]
  by_cases d:u<w
  ·exact Af (L.li.small d hi) (Tb.pw ω)
  ·unfold fn
   rw[x8 (by rw[L.lT];(first|lia|omega))];exact Az _
 have e1:=Gq (n:=j) (r:=r) (by rw[fy];exact rk) (jK (n:=k) L.lT) ω eT;have e2:=Gq (n:=j) (r:=r) (by rw[L.lU];exact rk) L.wU ω a;have e3:=JD (n:=j) (r:=r) (by rw[L.lB];exact rk) L.wB ω b;refine⟨fun x hx=>⟨?_,G.ent (t:=t+1) (e1.mono (Tb.zw rn (Ad _))) ω (by rw[jP];(first|lia|omega)) x hx⟩,fun x hx=>⟨?_,G.ent (t:=t+1) (e2.mono (Tb.zw rn (Ad _))) ω (by rw[jP];(first|lia|omega)) x hx⟩,fun x hx=>⟨?_,G.ent (t:=t+1) (e3.mono (Tb.zw (show 2<=2 ^ 1 from ξ) (Ad _))) ω (by rw[jP];(first|lia|omega)) x hx⟩⟩
 ·rw[qx (by rw[fy];exact rk) (jK (n:=k) L.lT) j ω x hx];have:=L.wN;(first|lia|omega)
 ·rw[qx (by rw[L.lU];exact rk) L.wU j ω x hx];(first|lia|omega)
 ·rw[Dr (by rw[L.lB];exact rk) L.wB j ω x hx];(first|lia|omega)
def LS.slid(G:Good N n m)(L:LS N n m t e A k w r T U Bn V Bf QU QV)(hr:1<=r)(hd:Tb.Dg r (fn T))(o:¬∀i,i+1<r->fn T i i ∣ fn T (i+1) (i+1)):LH N n m t (e+n) A k w r T (slT ((Ah k).map (colAt T)) r (r-1)) (slT U r (r-1)) (slB Bn r (r-1)) V Bf (fun i u=>Tb.aV k w A (Tb.cb (fn U) r (r-1) i) (fn V u)) (Tb.cb (fn U) r (r-1)) QU QV:=by
 have rk:=L.li.rk;have y:=L.li.rw;obtain⟨J,val⟩:=L.li.slid hr hd;have rn:r<=2 ^ n:=Af rk (Af L.kN G.Nn);have J:=J.mono (g':=2 ^ (e+n)) (by rw[Nat.pow_add,Nat.mul_comm];exact Al _ rn);obtain⟨q,h,s⟩:=L.eu;obtain⟨v,l,x⟩:=L.eb;have hk:n+N*n+N<=kp N n m/\n+1<=kp N n m:=by unfold kp;rw[Nat.add_mul,Nat.mul_comm n N];(first|lia|omega)
 have e1:fn (slT U r (r-1))=Tb.cb (fn U) r (r-1):=Ds (by rw[L.lU];exact rk) L.wU (r-1) ω;have e2:fn (slB Bn r (r-1))=Tb.gJ (fn Bn) r (r-1):=Gn (by rw[L.lB];exact rk) L.wB (r-1) ω;rw[<-e2] at J;refine⟨L.kN,L.wN,by rw[m_];exact fy,by rw[m_];exact L.lU,by rw[xn];exact L.lB,L.lV,L.lC,qx (by rw[fy];exact rk) (jK (n:=k) L.lT) _ ω,qx (by rw[L.lU];exact rk) L.wU _ ω,Dr (by rw[L.lB];exact rk) L.wB _ ω,L.wV,L.wC,J,fun i u hi a=>?_,fun i hi=>by rw[e1],fun d p=>Tb.Np L.li hr hd o d p,?_,L.tm,⟨_,(Gq (n:=r-1) (by rw[L.lU];exact rk) L.wU ω h).mono (Tb.zw rn (Ad _)),?_⟩,⟨_,(JD (n:=r-1) (by rw[L.lB];exact rk) L.wB ω l).mono (Tb.zw (show 2<=2 ^ 1 from ξ) (Ad _)),?_⟩,L.ev,L.ec⟩
 ·have e3:fn (slT ((Ah k).map (colAt T)) r (r-1))=Tb.cb (fn ((Ah k).map (colAt T))) r (r-1):=Ds (by rw[fy];exact rk) (jK (n:=k) L.lT) (r-1) ω
  rw[e3,val i u hi a,Tb.jz hr];have zero:∀j,j<k->j≠u->fn T u j=0:=fun j f ne=>by
   by_cases c:u<r/\j<r
   ·exact hd u j c.1 c.2 (Ne.symm ne)
   ·exact L.li.to u j a f ω
  by_cases c:i<r
  ·rw[if_pos c,Tb.Jy,Tb.FF (u:=u) (r-i) i fun j h1 h2 g=>by rw[eX (show j<k from ω)];exact zero j ω g]
   by_cases b:i<=u/\u<r
   ·rw[if_pos ω,if_pos b,eX ω]
   ·rw[if_neg ω,if_neg b]
  ·rw[if_neg c,if_neg ω,eX hi]
   exact L.li.to u i a hi (.inr ω)
 ·rw[Nat.mul_add,Nat.mul_one];have:=L.te;(first|lia|omega)
 ·rw[jP,Nat.mul_add];(first|lia|omega)
 ·rw[jP];(first|lia|omega)
end
end K23
end
section
namespace Tb
def JE{w j:Nat}{A:Nat->Vc}:jo (tl j (glue w A un)):=fun c hc hz=>by
 have D:Both j ((tl j (glue w A un)).map fun r=>fun t=>r (w+t)) (tl j un):=by rw[Cy];exact FH j
 exact D.free hc fun t _=>hz _
def JF{N n m:Nat}(a:N<=2 ^ n):sX N (2 ^ m)<=2 ^ ((1+n+m)*N):=by
 unfold sX;rw[Nat.pow_mul];refine Nat.pow_le_pow_left (zw (zw (show 2<=2 ^ 1 from ξ) a) (Ad _)) _
def Oq{N n m:Nat}(a:N<=2 ^ n):sB N (2 ^ m)<=2 ^ (n+((1+n+m)*N+m)):=zw a (zw (JF a) (Ad _))
def Gv{i t:Nat}:(un i t).natAbs<=1:=by unfold un dl;split<;>decide
end Tb
namespace K23
open PySem L2
def yj{n:Nat}:Ent (unT n) (2 ^ 0):=qh ya fun i hi u=>by rw[kM hi];exact Tb.Gv
section
variable{N n m k w:Nat}{tb:Ξ}
def Dt{q j i:Nat}{S:Ξ}(hi:i<j):Tb.glue q (fn S) (fn (unT j)) i=Tb.glue q (fn S) Tb.un i:=Dp (fun _ _=>rfl) (kM hi)
def kP(G:Good N n m){mu x b:Nat}(z:mu<=m2 N n m)(hx:(1+n+mu)*N<=x)(v:x<=x2 N n m)(hb:n+(x+mu)<=b)(d:b<=ga N n m)(g:k<=N)(y:w<=N)(l:tb.length=k)(hw:∀r∈tb,r.length=w)(o:Ent tb (2 ^ mu)):Side N (2 ^ mu) (2 ^ x) (2 ^ b) (2 ^ mu) w k tb (unT k) (unT k):=by
 have h:=iB G;have q:=G.N40;have le:∀i,i<k->∀u,(Tb.glue w (fn tb) (fn (unT k)) i u).natAbs<=2 ^ mu:=fun i hi u=>by
  rw[Dt hi];exact Dq (fun u _=>o i u) (fun s=>Af Tb.Gv AS) u
 have e:∀{j},j<=k->Tb.tl j (Tb.glue w (fn tb) (fn (unT k)))=Tb.tl j (Tb.glue w (fn tb) Tb.un):=fun{j} a=>Tb.i' fun i hi=>Dt ω;have c:m2 N n m<=k0 N n m:=by unfold k0;(first|lia|omega)
 refine⟨l,ya,ya,hw,jL,jL,ω,ω,g,G.N1,ω,fun j a=>?_,fun i hi P f F p hp=>le i hi p,le,AS,AS,AS,Nat.pow_lt_pow_right ξ (by have:=G.piv;(first|lia|omega)),?_,?_⟩
 ·rw[e a]
  refine(Tb.M4 G.N1 AS Tb.JE (by rw[Tb.i0];(first|lia|omega)) fun r hr u=>?_).mono (Ad _) (Af (Tb.JF G.Nn) (Tb.pw hx)) (Af (Tb.Oq G.Nn) (Tb.pw ω));obtain⟨i,hi,rfl⟩:=List.mem_map.mp hr;have hi:=List.mem_range.mp hi;rw[<-Dt (show i<k from ω)];exact le i ω u
 ·exact G.cE ⟨_,rfl,d⟩ rfl rfl rfl (t:=0) ω ω ω ω
 ·exact G.ent (t:=0) (yj) ω ω
def JG(G:Good N n m):m<=m2 N n m/\(1+n+m)*N<=x1 N n m/\x1 N n m<=x2 N n m/\n+(x1 N n m+m)<=be N n m/\be N n m<=ga N n m/\(1+n+m2 N n m)*N<=x2 N n m/\n+(x2 N n m+m2 N n m)<=ga N n m:=by
 have h:=iB G;have h1:x1 N n m<=dd N n m:=Am _ ω;have h2:x1 N n m=(1+n+m)*N:=rfl;have a:x2 N n m=(1+n+m2 N n m)*N:=rfl;have b:ga N n m=n+x2 N n m+m2 N n m:=rfl;have c:be N n m=n+m+dd N n m:=rfl;have d:m2 N n m=2*n+be N n m+x1 N n m+m:=rfl;(first|lia|omega)
def yl(G:Good N n m)(a:k<=N)(b:w<=N)(l:tb.length=k)(hw:∀r∈tb,r.length=w)(c:Ent tb (2 ^ m)):Side N (2 ^ m) (2 ^ x1 N n m) (2 ^ be N n m) (2 ^ m) w k tb (unT k) (unT k):=by
 have h:=JG G;exact kP G h.1 h.2.1 h.2.2.1 h.2.2.2.1 h.2.2.2.2.1 a b l hw c
variable{P P2:List Nat}{fr iu:Nat->List Int}{S U Bn T V Bf:Ξ}
def Os(G:Good N n m)(l:tb.length=k)(hw:∀r∈tb,r.length=w)(b:Ent tb (2 ^ m))(c:k<=N)(D:Done N (2 ^ m) (2 ^ x1 N n m) (2 ^ be N n m) w k tb (unT k) (unT k) P fr S U Bn):Ent ((Ah w).map (colAt S)) (2 ^ m2 N n m):=by
 refine qh fy fun u a i=>?_;rw[eX a]
 by_cases hi:i<k
 ·rw[D.f1 i u hi a]
  have:=(D.fs.fr (Tb.pp P i) (Tb.p' D.lP hi)).le (u:=u) (M:=2 ^ m) fun r hr=>by
   obtain⟨j,d,rfl⟩:=List.mem_map.mp hr;rw[Tb.zV a];exact b j u
  refine Af this ?_;rw[Tb.i0];refine Af (Am _ c) (Af (Tb.zw G.Nn (Tb.zw (Tb.nf G.Nn) (Ad _))) (Tb.pw ?_));unfold m2;(first|lia|omega)
 ·unfold fn
  rw[x8 (by rw[D.l1];(first|lia|omega))];exact Az _
def yx(G:Good N n m)(l:tb.length=k)(hw:∀r∈tb,r.length=w)(b:Ent tb (2 ^ m))(a:k<=N)(c:w<=N)(D:Done N (2 ^ m) (2 ^ x1 N n m) (2 ^ be N n m) w k tb (unT k) (unT k) P fr S U Bn):Side N (2 ^ m2 N n m) (2 ^ x2 N n m) (2 ^ ga N n m) (2 ^ m2 N n m) k w ((Ah w).map (colAt S)) (unT w) (unT w):=by
 have h:=JG G;exact kP G (Ad _) h.2.2.2.2.2.1 (Ad _) h.2.2.2.2.2.2 (Ad _) c a fy (jK D.l1) (Os G l hw b a D)
def Ot(G:Good N n m)(l:tb.length=k)(hw:∀r∈tb,r.length=w)(h:Ent tb (2 ^ m))(b:k<=N)(j:w<=N)(D:Done N (2 ^ m) (2 ^ x1 N n m) (2 ^ be N n m) w k tb (unT k) (unT k) P fr S U Bn)(D2:Done N (2 ^ m2 N n m) (2 ^ x2 N n m) (2 ^ ga N n m) k w ((Ah w).map (colAt S)) (unT w) (unT w) P2 iu T V Bf):∃r QU QV,LS N n m 0 0 (fn tb) k w r T U Bn V Bf QU QV:=by
 have hb:=iB G;have e1:Tb.tl k (Tb.glue w (fn tb) (fn (unT k)))=Tb.tl k (Tb.glue w (fn tb) Tb.un):=Tb.i' fun i hi=>Dt hi;have F:=D.fs;rw[e1] at F;have I:=Tb.Nj F;have f:=Tb.Nk AS Tb.JE (fun r hr u=>?_) F
 ·have e2:Tb.tl w (Tb.glue k (fn ((Ah w).map (colAt S))) (fn (unT w)))=Tb.tl w (Tb.glue k (fun u i=>vF fr (Tb.pp P i) u) Tb.un):=Tb.i' fun u a=>Dp (fun i hi=>by rw[eX a];exact D.f1 i u hi a) (kM a)
  have e:=D2.fs;rw[e2] at e;have g:(2*(k*2 ^ m)+1) ^ k<=2 ^ dd N n m:=by
   unfold dd;rw[Nat.pow_mul];have h1:2*(k*2 ^ m)+1<=2 ^ (2+n+m):=by
    have a1:k*2 ^ m<=2 ^ (n+m):=Tb.zw (Af b G.Nn) (Ad _);have a2:2 ^ (2+n+m)=4*2 ^ (n+m):=by rw[Nat.add_assoc,Nat.pow_add]
    have a3:=AS (n:=n+m);(first|lia|omega)
   exact Af (Nat.pow_le_pow_left h1 _) (Aw AS b)
  obtain⟨o,pr,J⟩:=Tb.Nl I (D:=2 ^ dd N n m) (fun q hq=>Af (f q hq) g) e;have c:=D.f3;rw[e1,Tb.i' (W:=fn (unT k)) (W':=Tb.un) fun i hi=>kM hi] at c;have d:=D2.f3;rw[e2,Tb.i' (W:=fn (unT w)) (W':=Tb.un) fun i hi=>kM hi] at d;rw[<-c,<-d] at J;have p:k0 N n m=2*n+ga N n m+x2 N n m+m2 N n m+N+m:=rfl;have rk:=J.rk;have J2:=J.cg (T':=fn T) (U':=fn U) (V':=fn V) (fun u i a hi=>(D2.f1 u i a hi).symm) (fun i hi=>(D.f2 i hi).symm) fun u a=>(D2.f2 u a).symm;refine⟨_,_,_,b,j,D2.l1,D.l2,D.l3,D2.l2,D2.l3,D2.w1,D.w2,D.w3,D2.w2,D2.w3,J2,Az _,?_,⟨_,(D.e2 yj).mono (Tb.zw G.Nn (Tb.zw (Tb.nf G.Nn) (Ad _))),?_⟩,⟨_,(D.e3 yj).mono (Tb.zw G.Nn (Tb.zw (Tb.zw (Ad _) (Ad _)) (Ad _))),?_⟩,(D2.e2 yj).mono (Af (Tb.zw G.Nn (Tb.zw (Tb.nf G.Nn) (Ad _))) (Tb.pw ?_)),(D2.e3 yj).mono (Af (Tb.zw G.Nn (Tb.zw (Tb.zw (Ad _) (Ad _)) (Ad _))) (Tb.pw ?_))⟩
  ·have h1:=Tb.IW (T:=fn T) (D:=2 ^ dd N n m) (Tb.cut w P) J2.tp J2.pd
   rw[Nat.log2_two_pow] at h1;have h2:Tb.cut w P*dd N n m<=N*dd N n m:=Am _ ω;unfold Tb.ms Tm;split<;>(first|lia|omega)
  ·(first|lia|omega)
  ·(first|lia|omega)
  ·(first|lia|omega)
  ·(first|lia|omega)
 ·obtain⟨i,hi,rfl⟩:=List.mem_map.mp hr
  exact Dq (fun u _=>h i u) (fun s=>Af Tb.Gv AS) u
end
end K23
end
section
namespace K23
open PySem L2
def Ou{tb:Ξ}:tb.zipIdx=(Ah tb.length).map fun i=>(rowAt tb i,i):=by
 apply AU
 ·simp
 ·intro i h1 h2
  rw[List.length_zipIdx] at h1;rw[AW,Ba,List.getElem_zipIdx,zE (Ab h1)];simp
def JH{a:Type}{p:Nat->List Int->Bool}{g:Nat->List Int->a}{tb:Ξ}:jH p g tb.zipIdx=((Ah tb.length).filter fun i=>p i (rowAt tb i)).map fun i=>g i (rowAt tb i):=by
 unfold jH;rw[Ou,List.filter_map,AT]
 rfl
def JI{l:List Int}{k u:Nat}(a:u≠k):vc (bY l k l.length) u=0:=by
 unfold bY;split
 ·unfold vc
  rw[Ac,List.getElem?_set,if_neg (Ne.symm a),List.getElem?_replicate];split<;>rfl
 ·exact Ju
def JJ{l:List Int}{k w:Nat}:(bY l k w).length=w:=by unfold bY;split<;>simp
def JK{a b:List Int}(h:a.length=b.length)(hv:∀u,u<a.length->vc a u=vc b u):a=b:=by
 apply AU h;intro i h1 h2;have:=hv i h1
 rwa [gM h1,gM h2] at this
def JL{l:List Int}{k:Nat}:l=bY l k l.length↔∀u,u≠k->vc l u=0:=by
 constructor
 ·intro h u a
  rw[h];exact JI (l:=l) a
 ·intro h
  refine JK JJ.symm fun u a=>?_
  by_cases c:u=k
  ·subst c
   unfold bY;rw[if_pos a];unfold vc;rw[Ac,Ac,List.getElem?_set,if_pos rfl,List.length_replicate,if_pos a]
   rfl
  ·rw[h u c,JI c]
def Ov{tb:Ξ}:dG tb=true↔∀i,i<tb.length->∀u,u≠i->fn tb i u=0:=by
 unfold dG;rw[JH,List.all_map,AZ];constructor
 ·intro h i hi u a
  have:=h i (List.mem_filter.mpr ⟨List.mem_range.mpr hi,rfl⟩);have this:decide (rowAt tb i=bY (rowAt tb i) i (rowAt tb i).length)=true:=this;exact JL.mp (of_decide_eq_true this) u a
 ·intro h i hi
  have hi:=List.mem_range.mp (List.mem_filter.mp hi).1;exact decide_eq_true (JL.mpr (h i hi))
def Ow{r w:Nat}(h:r<=w):(Ah w).filter (fun i=>decide (i<r))=Ah r:=by
 have e:Ah w=Ah r++(Ah (w-r)).map (r+·):=by rw[<-List.range_add];congr 1;(first|lia|omega)
 rw[e,List.filter_append];have h1:(Ah r).filter (fun i=>decide (i<r))=Ah r:=List.filter_eq_self.mpr fun i hi=>decide_eq_true (List.mem_range.mp hi);have h2:((Ah (w-r)).map (r+·)).filter (fun i=>decide (i<r))=[]:=List.filter_eq_nil_iff.mpr fun i hi=>by
  obtain⟨j,_,rfl⟩:=List.mem_map.mp hi;simp
 rw[h1,h2,List.append_nil]
def dg(r:Nat)(T:Ξ):List Int:=(Ah r).map fun i=>fn T i i
def Du{r u:Nat}{g:Nat->Int}(h:u<r):vc ((Ah r).map g) u=g u:=by
 unfold vc;rw[Ac,Aj,AM h];rfl
section
variable{N n m t e k w r:Nat}{A:Nat->Tb.Vc}{T U Bn V Bf:Ξ}{QU QV:Nat->Nat}
def LS.onSl(L:LS N n m t e A k w r T U Bn V Bf QU QV):dG T=true↔Tb.Dg r (fn T):=by
 have rk:=L.li.rk;have d:=L.li.rw;rw[Ov,L.lT];constructor
 ·intro h u i a hi ne
  exact h u ω i (Ne.symm ne)
 ·intro h u a i ne
  by_cases c:i<k
  ·by_cases b:u<r/\i<r
   ·exact h u i b.1 b.2 (Ne.symm ne)
   ·exact L.li.to u i a c ω
  ·unfold fn
   exact E' (by rw[L.wT _ (zG (by rw[L.lT];exact a))];(first|lia|omega))
def LS.slOf(L:LS N n m t e A k w r T U Bn V Bf QU QV):cy T=dg r T:=by
 have rk:=L.li.rk;have a:=L.li.rw;unfold K23.cy;rw[JH,L.lT];have e:(Ah w).filter (fun i=>decide (i<(rowAt T i).length)&&decide (vc (rowAt T i) i≠0))=(Ah w).filter fun i=>decide (i<r):=List.filter_congr fun i hi=>by
  have hi:=List.mem_range.mp hi;have b:(rowAt T i).length=k:=L.wT _ (zG (by rw[L.lT];exact hi));rw[b,Bm,A7,decide_eq_true_eq,decide_eq_true_eq,decide_eq_true_eq];constructor
  ·rintro⟨h1,h2⟩
   refine AC fun c=>h2 ?_;exact L.li.to i i hi h1 ω
  ·intro h
   exact⟨ω,by have:0<vc (rowAt T i) i:=L.li.tp i h;(first|lia|omega)⟩
 rw[e,Ow a]
 rfl
def LS.inSt(L:LS N n m t e A k w r T U Bn V Bf QU QV):c6 T=true↔Tb.Dg r (fn T)/\∀i,i+1<r->fn T i i ∣ fn T (i+1) (i+1):=by
 have c:=L.li.rw;unfold K23.c6;rw[A7,L.onSl,L.slOf,L.lT];refine and_congr_right fun _=>?_;unfold cx;have ld:(dg r T).length=r:=by unfold dg;simp
 have h1:(!decide ((w:Int)<((dg r T).length:Int)))=true:=by rw[ld];simp;(first|lia|omega)
 have h2:(dg r T).all (fun x=>decide (0<x))=true:=by
  rw[AZ];intro x hx;obtain⟨i,hi,rfl⟩:=List.mem_map.mp hx;exact decide_eq_true (L.li.tp i (List.mem_range.mp hi))
 rw[h1,h2,Bool.true_and,Bool.true_and,AZ];constructor
 ·intro h i hi
  have g:(AA (fun a b=>decide (b%a=0)) (dg r T) ((dg r T).drop 1))[i]?=some (decide (fn T (i+1) (i+1)%fn T i i=0)):=by
   rw[List.getElem?_zipWith,List.getElem?_drop];unfold dg;rw[Aj,Aj,AM ω,AM ω,Nat.add_comm 1 i]
   rfl
  have:=h _ (Ak g);exact Int.dvd_of_emod_eq_zero (of_decide_eq_true this)
 ·intro h x hx
  obtain⟨i,hi,rfl⟩:=Be hx;rw[AG,List.length_drop,ld] at hi;rw[Bh,List.getElem_drop];unfold dg;rw[AW,AW,Ba,Ba];have:=h i ω;rw[Nat.add_comm 1 i];exact decide_eq_true (Int.emod_eq_zero_of_dvd this)
end
structure Pap(k w:Nat)(A:Nat->Tb.Vc)(u ub v vb:Ξ)(st:List Int):Prop where
 lu:u.length=k
 lub:ub.length=k
 lv:v.length=w
 lvb:vb.length=w
 wu:∀r∈u,r.length=k
 wub:∀r∈ub,r.length=k
 wv:∀r∈v,r.length=w
 wvb:∀r∈vb,r.length=w
 mu:∀r∈u,∀x∈r,x.natAbs+1000<low
 mub:∀r∈ub,∀x∈r,x.natAbs+1000<low
 mv:∀r∈v,∀x∈r,x.natAbs+1000<low
 mvb:∀r∈vb,∀x∈r,x.natAbs+1000<low
 u1:∀i j,i<k->j<k->Tb.dot k (fn u i) (fun s=>fn ub s j)=Tb.dl i j
 u2:∀i j,i<k->j<k->Tb.dot k (fn ub i) (fun s=>fn u s j)=Tb.dl i j
 v1:∀i j,i<w->j<w->Tb.dot w (fn v i) (fun s=>fn vb s j)=Tb.dl i j
 v2:∀i j,i<w->j<w->Tb.dot w (fn vb i) (fun s=>fn v s j)=Tb.dl i j
 sk:st.length<=k
 sw:st.length<=w
 sp:∀x∈st,0<x
 sd:∀i,i+1<st.length->vc st i ∣ vc st (i+1)
 s9:∀x∈st,x.natAbs<2 ^ 9000
 sb:∀x∈st,x.natAbs<big
 pr:∀i j,i<k->j<w->Tb.aV k w A (fn u i) (fun s=>fn v s j)=if i=j/\i<st.length then vc st i else 0
def Pap.su{k w:Nat}{A:Nat->Tb.Vc}{u ub v vb:Ξ}{st:List Int}(p:Pap k w A u ub v vb st):∀r∈u,∀x∈r,x.natAbs<low:=fun r hr x hx=>Av (AY _ _) (p.mu r hr x hx)
def Pap.sub{k w:Nat}{A:Nat->Tb.Vc}{u ub v vb:Ξ}{st:List Int}(p:Pap k w A u ub v vb st):∀r∈ub,∀x∈r,x.natAbs<low:=fun r hr x hx=>Av (AY _ _) (p.mub r hr x hx)
def Pap.sv{k w:Nat}{A:Nat->Tb.Vc}{u ub v vb:Ξ}{st:List Int}(p:Pap k w A u ub v vb st):∀r∈v,∀x∈r,x.natAbs<low:=fun r hr x hx=>Av (AY _ _) (p.mv r hr x hx)
def Pap.svb{k w:Nat}{A:Nat->Tb.Vc}{u ub v vb:Ξ}{st:List Int}(p:Pap k w A u ub v vb st):∀r∈vb,∀x∈r,x.natAbs<low:=fun r hr x hx=>Av (AY _ _) (p.mvb r hr x hx)
def Gx{ρ:Nat->Tb.Vc}{c:Nat->Int}{u:Nat}:∀k,Tb.sm ρ c k u=Tb.dot k c (fun a=>ρ a u)
 |0=>rfl
 |k+1=>by show Tb.sm ρ c k u+c k*ρ k u=Tb.dot k c _+c k*ρ k u;rw[Gx k]
def Gy{a b:Tb.Vc}:∀k,Tb.dot k a b=Tb.dot k b a
 |0=>rfl
 |k+1=>by show Tb.dot k a b+a k*b k=Tb.dot k b a+b k*a k;rw[Gy k,Bp]
def JM{i j:Nat}:Tb.dl i j=Tb.dl j i:=by
 unfold Tb.dl
 by_cases c:i=j
 ·rw[if_pos c,if_pos c.symm]
 ·rw[if_neg c,if_neg (Ne.symm c)]
def JN{T:Ξ}{K q:Nat}(h:Ent T K):Ent ((Ah q).map (colAt T)) K:=qh fy fun i hi u=>by rw[eX hi];exact h u i
section
variable{N n m t e k w r:Nat}{A:Nat->Tb.Vc}{T U Bn V Bf:Ξ}{QU QV:Nat->Nat}
def LS.pap(G:Good N n m)(L:LS N n m t e A k w r T U Bn V Bf QU QV)(h:K23.c6 T=true):Pap k w A U ((Ah k).map (colAt Bn)) ((Ah w).map (colAt V)) Bf (K23.cy T):=by
 obtain⟨hd,hv⟩:=L.inSt.mp h;have tT:=L.tT;have rk:=L.li.rk;have D:=L.li.rw;obtain⟨v,f,y⟩:=L.eu;obtain⟨z,g,C⟩:=L.eb;obtain⟨l,p2⟩:=Tb.Dd.mp L.li.bu;obtain⟨o,p⟩:=Tb.Dd.mp L.li.bv;have ld:(dg r T).length=r:=by unfold dg;simp
 rw[L.slOf];refine⟨L.lU,fy,fy,L.lC,L.wU,jK L.lB,jK L.lV,L.wC,G.entM (t:=t) f ω ω,G.entM (t:=t) (JN g) ω ω,G.entM (t:=t) (JN L.ev) ω ω,G.entM (t:=t) L.ec ω ω,fun i j hi a=>?_,fun i j hi a=>?_,fun i j hi a=>?_,fun i j hi a=>?_,ω,ω,fun x hx=>?_,fun i hi=>?_,fun x hx=>?_,fun x hx=>?_,fun i j hi a=>?_⟩
 ·rw[<-p2 i j hi a]
  exact Tb.zF fun s b=>eX b j
 ·have:=l i j hi a
  rw[Gx] at this;rw[<-this];exact Tb.iq fun s _=>eX hi s
 ·have:=o j i a hi
  rw[Gx,Gy,JM] at this;rw[<-this];exact Tb.iq fun s _=>eX hi s
 ·rw[JM,<-p j i a hi,Gy]
  exact Tb.iq fun s b=>eX b j
 ·obtain⟨i,hi,rfl⟩:=List.mem_map.mp hx
  exact L.li.tp i (List.mem_range.mp hi)
 ·rw[ld] at hi
  have:=hv i hi;unfold dg;rw[Du ω,Du hi];exact this
 ·obtain⟨i,hi,rfl⟩:=List.mem_map.mp hx
  have hi:=List.mem_range.mp hi;have h1:=L.li.small (u:=i) (i:=i) ω ω;have h2:=iB G;have E:=G.piv;exact Av h1 (Nat.pow_lt_pow_right ξ ω)
 ·obtain⟨i,hi,rfl⟩:=List.mem_map.mp hx
  have hi:=List.mem_range.mp hi;have h1:=L.li.small (u:=i) (i:=i) ω ω;have H:=G.lim;have h2:=iB G;have F:k0 N n m=2*n+ga N n m+x2 N n m+m2 N n m+N+m:=rfl;exact Gh h1 ω
 ·rw[ld]
  have e1:Tb.aV k w A (fn U i) (fun s=>fn ((Ah w).map (colAt V)) s j)=Tb.aV k w A (fn U i) (fn V j):=by
   unfold Tb.aV;exact Tb.zF fun s _=>Tb.zF fun q hq=>eX hq j
  rw[e1,<-L.li.bl j i a hi]
  by_cases c:i=j/\i<r
  ·rw[if_pos c,<-c.1]
   unfold dg;rw[Du c.2]
  ·rw[if_neg c]
   by_cases d:j<r/\i<r
   ·exact hd j i d.1 d.2 ω
   ·exact L.li.to j i a hi ω
end
end K23
end
section
namespace K23
open PySem L2
abbrev Dv:Stmt:=top 23
def Dj(x y:List Addr):Prop:=∀a∈x,∀b∈y,a≠b
def NT.there{H H':Hp}{a:Addr}{ds:List Addr}{tb:Ξ}(h:NT H H' a ds tb):∀z∈a::ds,H' z≠none:=fun z hz=>by
 rcases List.mem_cons.mp hz with rfl|hz
 ·rw[h.at_];simp
 ·exact h.rows.there z hz
def NT.new{H H':Hp}{a:Addr}{ds:List Addr}{tb:Ξ}(h:NT H H' a ds tb):∀z∈a::ds,H z=none:=fun z hz=>by
 rcases List.mem_cons.mp hz with rfl|hz
 ·exact h.na
 ·exact(h.nw z hz).1
def gR{x y:List Addr}{H:Hp}(h1:∀z∈x,H z≠none)(h2:∀z∈y,H z=none):Dj x y:=fun a c b hb e=>h1 a c (e▸h2 b hb)
def kS{tb:Ξ}{k:Nat}(l:tb.length=k)(hw:∀r∈tb,r.length=k)(hk:k<=40):cN tb=true/\turn tb=(Ah k).map (colAt tb)/\wid tb=k:=by
 have e:wid tb=k:=by
  cases c:tb with
  |nil=>rw[c] at l;exact l
  |cons x r=>exact hw x (by rw[c];exact Aq ..)
 refine⟨?_,by unfold turn;rw[e],e⟩;unfold cN;rw[e,l,decide_eq_true hk];simp only[Bool.and_self,Bool.true_and,AZ];exact fun r hr=>decide_eq_true (hw r hr)
structure PapH(H H':Hp)(p:Addr)(u ub v vb:Ξ)(st:List Int)(a1 a2 a3 a4 a5:Addr)(d1 d2 d3 d4:List Addr):Prop where
 at_:H' p=some (.tup [.ref a1,.ref a2,.ref a3,.ref a4,.ref a5])
 n1:NT H H' a1 d1 u
 n2:NT H H' a2 d2 ub
 n3:NT H H' a3 d3 v
 n4:NT H H' a4 d4 vb
 n5:H' a5=some (.lst (st.map V.int))
 na:H a5=none
 j12:Dj (a1::d1) (a2::d2)
 j13:Dj (a1::d1) (a3::d3)
 j14:Dj (a1::d1) (a4::d4)
 j15:Dj (a1::d1) [a5]
 j23:Dj (a2::d2) (a3::d3)
 j24:Dj (a4::d4) (a2::d2)
 j25:Dj (a2::d2) [a5]
 j34:Dj (a4::d4) (a3::d3)
 j35:Dj (a3::d3) [a5]
 j45:Dj (a4::d4) [a5]
structure Gz(N n m k w:Nat)(tb:Ξ):Prop where
 good:Good N n m
 l:tb.length=k
 wd:∀r∈tb,r.length=w
 ent:Ent tb (2 ^ m)
 kN:k<=N
 wN:w<=N
def JO(H:Hp)(Q:VK)(k w:Nat)(A:Nat->Tb.Vc):Prop:=∀H' p u ub v vb st a1 a2 a3 a4 a5 d1 d2 d3 d4,Same H H'->PapH H H' p u ub v vb st a1 a2 a3 a4 a5 d1 d2 d3 d4->Pap k w A u ub v vb st->Q (.ref p) H'
section
variable{P:Program}{w:World}{K:Ag}{mg:Str->Option Value}{base:Heap}
def JP:Sp:=fun vs H Q _=>∃(L:Addr)(rs:List Addr)(tb:Ξ)(N n m k w:Nat),vs=[.ref L,.int w]/\H L=some (.lst (rs.map V.ref))/\Rws H rs tb/\Gz N n m k w tb/\JO H Q k w (fn tb)
def nj:zp ["table","width","size","near","far"] ["table","width"] (zg Dv):=⟨rfl,rfl,rfl,δ,rfl,δ,δ⟩
def Ox{f fs fu fc fk fi fo fp fl:Addr}{fd aJ gj aU nV gq cX bF bW:FuncData}(F:Fun K "paper_of" "paper_of" Dv f fd)(bl:mg "len"=none)(Fs:Fun K "straightened" "straightened" ez fs aJ)(bs:Binds K aJ ["side","width"] [])(ms:mg "straightened"=some (.ref fs))(Gs:ai P w K mg base aw 5 fs aJ ["side","width"] Jh)(Fu:Fun K "unit" "unit" ws fu gj)(bu:Binds K gj ["size"] [])(mu:mg "unit"=some (.ref fu))(Gu:ai P w K mg base aw 3 fu gj ["size"] FX)(Fc:Fun K "columns_to" "columns_to" pe fc aU)(bc:Binds K aU ["table","width"] [])(mc:mg "columns_to"=some (.ref fc))(Gc:ai P w K mg base aw 2 fc aU ["table","width"] (EO K))(Fk:Fun K "columns_of" "columns_of" mx fk nV)(bk:Binds K nV ["table"] [])(mk:mg "columns_of"=some (.ref fk))(Gk:ai P w K mg base aw 3 fk nV ["table"] (uT K))(Fi:Fun K "is_in_steps" "is_in_steps" Dl fi gq)(bi:Binds K gq ["table"] [])(mi:mg "is_in_steps"=some (.ref fi))(Gi:ai P w K mg base aw 3 fi gq ["table"] Jo)(Fo:Fun K "is_on_slope" "is_on_slope" xZ fo cX)(bo:Binds K cX ["table"] [])(mo:mg "is_on_slope"=some (.ref fo))(Go:ai P w K mg base aw 2 fo cX ["table"] F_)(Fp:Fun K "slope_of" "slope_of" x3 fp bF)(bp:Binds K bF ["table"] [])(mp:mg "slope_of"=some (.ref fp))(Gp:ai P w K mg base aw 1 fp bF ["table"] F')(Fl:Fun K "slid" "slid" Di fl bW)(bd:Binds K bW ["side","count"] [])(ml:mg "slid"=some (.ref fl))(Gl:ai P w K mg base aw 2 fl bW ["side","count"] Jj):ai P w K mg base aw 6 f fd ["table","width"] JP:=by
 refine F.ok nj (fun vs H Q E h=>?_) (fun ak A outer s H vs Q E hr h=>?_)
 ·obtain⟨L,rs,tb,N,n,m,k,d,rfl,_⟩:=h;rfl
 ·obtain⟨L,rs,tb,N,n,m,k,d,rfl,hL,hT,ok,kk⟩:=h
  have M:Room 3 _:=hr.mono ξ;have hr2:Room 2 _:=hr.mono ξ;have hr1:Room 1 _:=hr.mono ξ;refine⟨_,ze (zq (i:=2) nj.nd rfl (Or.inl rfl) (zm zj rfl bl cp (za (pv 0) zb)))
   (ze (zq (i:=3) nj.nd rfl (Or.inl rfl) (zf Gs hr rfl ms Fs.kp bs .nil ac (za (hO (za (pv 0) (za (zf Gu M rfl mu Fu.kp bu .nil ac (za (pv 2) zb)) (za (zf Gu M rfl mu Fu.kp bu .nil ac (za (pv 2) zb)) zb)))) (za (pv 1) zb))))
   (ze (zq (i:=4) nj.nd rfl (Or.inl rfl) (zf Gs hr rfl ms Fs.kp bs .nil ac (za (hO (za (zf Gc hr2 rfl mc Fc.kp bc .nil ac (za (zo zC (pv 3) zd (fun _ _=>rfl)) (za (pv 1) zb))) (za (zf Gu M rfl mu Fu.kp bu .nil ac (za (pv 1) zb)) (za (zf Gu M rfl mu Fu.kp bu .nil ac (za (pv 1) zb)) zb)))) (za (pv 2) zb))))
   (ze (B' Bl (gt (fG (zf Gi M rfl mi Fi.kp bi .nil ac (za (zo zC (pv 4) zd (fun _ _=>rfl)) zb))))
    (ze (zq (i:=3) nj.nd rfl (Or.inl rfl) (hO (za (zf Gc hr2 rfl mc Fc.kp bc .nil ac (za (zo zC (pv 4) zd (fun _ _=>rfl)) (za (pv 2) zb))) (za (zo zC (pv 3) zd (fun _ _=>rfl)) (za (zo zC (pv 3) zd (fun _ _=>rfl)) zb)))))
    (ze (zq (i:=3) nj.nd rfl (Or.inl rfl) (n7 (fG (zf Go hr2 rfl mo Fo.kp bo .nil ac (za (zo zC (pv 4) zd (fun _ _=>rfl)) zb)))
     (zf Gl hr2 rfl ml Fl.kp bd .nil ac (za (pv 3) (za (zm zj rfl bl cp (za (zf Gp hr1 rfl mp Fp.kp bp .nil ac (za (zo zC (pv 4) zd (fun _ _=>rfl)) zb)) zb)) zb)))
     (zf Gs hr rfl ms Fs.kp bs .nil ac (za (pv 3) (za (pv 1) zb)))))
    (zh (zq (i:=4) nj.nd rfl (Or.inl rfl) (zf Gs hr rfl ms Fs.kp bs .nil ac (za (hO (za (zf Gc hr2 rfl mc Fc.kp bc .nil ac (za (zo zC (pv 3) zd (fun _ _=>rfl)) (za (pv 1) zb))) (za (zo zC (pv 4) zd (fun _ _=>rfl)) (za (zo zC (pv 4) zd (fun _ _=>rfl)) zb)))) (za (pv 2) zb))))))))
   (zh (zr (hO (za (zo zC (pv 3) zd (fun _ _=>rfl)) (za (zf Gk M rfl mk Fk.kp bk .nil ac (za (zo zC (pv 3) zd (fun _ _=>rfl)) zb)) (za (zf Gk M rfl mk Fk.kp bk .nil ac (za (zo zC (pv 4) zd (fun _ _=>rfl)) zb)) (za (zo zC (pv 4) zd (fun _ _=>rfl)) (za (zf Gp hr1 rfl mp Fp.kp bp .nil ac (za (zo zC (pv 4) zd (fun _ _=>rfl)) zb)) zb))))))))))),?_⟩
  have aL:=hT.len;have G:=ok.good;have N40:=G.N40;have kN:=ok.kN;have wN:=ok.wN;refine⟨_,rfl,L,_,rfl,.inl (SqL.of hL),?_⟩;rw[Aa,aL,ok.l];refine⟨_,rfl,_,rfl,k,rfl,ω,fun u1 H1 xY s1 yZ ka vR Cg BQ=>⟨_,rfl,k,rfl,ω,fun u2 H2 vq s2 BE ny nv BX Ch=>⟨by show 3<=sizeLine;decide,fun t1 kJ=>⟨_,rfl,?_⟩⟩⟩⟩;have sq:=Same.new (o:=.tup [V.ref L,V.ref u1,V.ref u2]) kJ;have S1:=yl G ok.kN ok.wN ok.l ok.wd ok.ent;refine⟨t1,L,u1,u2,rs,xY,vq,tb,unT k,unT k,_,_,_,_,_,d,k,rfl,zc,((s1.trans s2).trans sq) _ _ hL,(s2.trans sq) _ _ ka,sq _ _ ny,hT.same ((s1.trans s2).trans sq),vR.same (s2.trans sq),nv.same sq,S1.ok,fun P1 jZ tn an v I tK W eW H3 F1 W1 s3 X jr b y=>?_⟩;have D1:=S1.done F1 W1;have fK:=((s1.trans s2).trans sq).trans s3;have jr:=jr.old ((s1.trans s2).trans sq);have b:=b.old ((s1.trans s2).trans sq);have y:=y.old ((s1.trans s2).trans sq);generalize (P1.map fun p=>(jZ p).take d)=S at D1 jr;generalize (P1.map fun p=>(jZ p).drop d)=U at D1 b;generalize i5 k ((cat tb (unT k)).map fun r=>shrL jZ r P1) (unT k)=Bn at D1 y;refine⟨_,rfl,tn,_,_,_,rfl,rfl,SqT.of X,zi (j:=0) rfl,_,rfl,an,tK,S,d,rfl,SqL.of jr.at_,jr.rows,by rw[D1.l1];(first|lia|omega),ω,fun r hr=>Nat.le_of_eq (D1.w1 r hr).symm,fun c1 H4 jc s4 pL gh nn qO qo=>?_⟩;refine⟨_,rfl,d,rfl,ω,fun u3 H5 wP s5 Bu mq rP Cr Ce=>⟨_,rfl,d,rfl,ω,fun u4 H6 rV s6 nE nH vI BM yW=>⟨by show 3<=sizeLine;decide,fun t2 kw=>⟨_,rfl,?_⟩⟩⟩⟩;have Z:=Same.new (o:=.tup [V.ref c1,V.ref u3,V.ref u4]) kw;have S2:=yx G ok.l ok.wd ok.ent ok.kN ok.wN D1;have gX:=((s4.trans s5).trans s6).trans Z;refine⟨t2,c1,u3,u4,jc,wP,rV,_,unT d,unT d,_,_,_,_,_,k,d,rfl,zc,((s5.trans s6).trans Z) _ _ gh,(s6.trans Z) _ _ mq,Z _ _ nH,nn.same ((s5.trans s6).trans Z),rP.same (s6.trans Z),vI.same Z,S2.ok,fun P2 iu D O bf J d_ fQ dC H7 F2 W2 s7 u c C g=>?_⟩;have D2:=S2.done F2 W2;obtain⟨r,QU,QV,LL⟩:=Ot G ok.l ok.wd ok.ent ok.kN ok.wN D1 D2;have dR:=gX.trans s7;have iQ:=fK.trans dR;have jj:Dj (v::W) (J::dC):=gR (b.same gX).there g.new;have c:=c.old (fK.trans gX);have C:=C.old (fK.trans gX);have g:=g.old (fK.trans gX);have b:=b.same dR;have y:=y.same dR;have X:=dR _ _ X;generalize (P2.map fun p=>(iu p).take k)=T at D2 c LL;generalize (P2.map fun p=>(iu p).drop k)=V at D2 C LL;generalize i5 d ((cat ((Ah d).map (colAt S)) (unT d)).map fun r=>shrL iu r P2) (unT d)=Bf at D2 g LL;refine⟨fun q σ H8=>∃(t e:Nat)(T U Bn V Bf:Ξ)(QU QV:Nat->Nat)(tn an v I D O bf J:Addr)(W eW d_ fQ dC:List Addr),q=Tm N n m-t/\σ=[some (.ref L),some (.int d),some (.int k),some (.ref tn),some (.ref D)]/\Same H H8/\H8 tn=some (.tup [.ref an,.ref v,.ref I])/\H8 D=some (.tup [.ref O,.ref bf,.ref J])/\NT H H8 v W U/\NT H H8 I eW Bn/\NT H H8 O d_ T/\NT H H8 bf fQ V/\NT H H8 J dC Bf/\Dj (v::W) (J::dC)/\LS N n m t e (fn tb) k d r T U Bn V Bf QU QV,
   ⟨_,0,0,T,U,Bn,V,Bf,QU,QV,tn,an,v,I,D,O,bf,J,W,eW,d_,fQ,dC,rfl,rfl,iQ,X,u,b,y,c,C,g,jj,LL⟩,?_⟩
  clear LL jj g C c D2 u iQ dR S2 gX Z D1 S1 X y b;rintro q σ H8 ⟨t,e,T,U,Bn,V,Bf,QU,QV,tn,an,v,I,D,O,bf,J,W,eW,d_,fQ,dC,rfl,rfl,s8,X,u,b,y,c,C,g,jj,LL⟩;have js:T.length<=1000:=by rw[LL.lT];(first|lia|omega)
  have wT9:∀x∈T,x.length<=1000:=fun x hx=>by rw[LL.wT x hx];(first|lia|omega)
  refine⟨_,rfl,D,_,_,_,rfl,rfl,SqT.of u,zi (j:=0) rfl,O,d_,T,rfl,c.at_,c.rows,js,wT9,fun H9 a=>⟨_,rfl,?_⟩⟩;have X:=a _ _ X;have u:=a _ _ u;have b:=b.same a;have y:=y.same a;have c:=c.same a;have C:=C.same a;have g:=g.same a;have a:=s8.trans a;clear s8;cases eg:c6 T with
  |true=>
   refine az ?_;obtain⟨i1,i2,_⟩:=kS LL.lB LL.wB ω;obtain⟨j1,j2,_⟩:=kS LL.lV LL.wV ω;refine⟨_,rfl,tn,_,_,_,rfl,rfl,SqT.of X,zi (j:=1) rfl,_,rfl,tn,_,_,_,rfl,rfl,SqT.of X,zi (j:=2) rfl,I,eW,Bn,rfl,SqL.of y.at_,y.rows,i1,fun a2 Ha d2 sa vy mz p7 vS s_=>?_⟩;rw[i2] at p7;refine⟨_,rfl,D,_,_,_,rfl,rfl,SqT.of (sa _ _ u),zi (j:=1) rfl,bf,fQ,V,rfl,SqL.of (sa _ _ C.at_),C.rows.same sa,j1,fun a3 Hb d3 Y vx lO qU sD rG=>?_⟩;rw[j2] at qU;have fA:=sa.trans Y;refine⟨_,rfl,D,_,_,_,rfl,rfl,SqT.of (fA _ _ u),zi (j:=2) rfl,_,rfl,D,_,_,_,rfl,rfl,SqT.of (fA _ _ u),zi (j:=0) rfl,O,d_,T,rfl,fA _ _ c.at_,c.rows.same fA,js,fun a5 Hc sc qm kR=>⟨by show 5<=sizeLine;decide,fun p hp=>?_⟩⟩;have sp:=Same.new (o:=.tup [.ref v,.ref a2,.ref a3,.ref J,.ref a5]) hp;have n2:NT H9 Ha a2 d2 _:=⟨mz,p7,vS,vy,s_⟩;have n3:NT Ha Hb a3 d3 _:=⟨lO,qU,sD,vx,rG⟩;have kQ:=fA.trans sc;have e5:∀z∈[a5],Hb z=none:=fun z hz=>by rw[List.mem_singleton.mp hz];exact qm
   refine kk _ p _ _ _ _ _ v a2 a3 J a5 W d2 d3 dC ((a.trans kQ).trans sp) ⟨zc,(b.same kQ).same sp,((n2.same (Y.trans sc)).same sp).old a,((n3.same sc).same sp).old (a.trans sa),(g.same kQ).same sp,sp _ _ kR,a.free (fA.free qm),gR b.there n2.new,gR (b.same sa).there n3.new,jj,gR (b.same fA).there e5,gR n2.there n3.new,gR g.there n2.new,gR (n2.same Y).there e5,gR (g.same sa).there n3.new,gR n3.there e5,gR (g.same fA).there e5⟩ (LL.pap G eg)
  |false=>
   refine aA ⟨fun ah H'=>∃q,q<Tm N n m-t/\∃(t e:Nat)(T U Bn V Bf:Ξ)(QU QV:Nat->Nat)(tn an v I D O bf J:Addr)(W eW d_ fQ dC:List Addr),q=Tm N n m-t/\ah=[some (.ref L),some (.int d),some (.int k),some (.ref tn),some (.ref D)]/\Same H H'/\H' tn=some (.tup [.ref an,.ref v,.ref I])/\H' D=some (.tup [.ref O,.ref bf,.ref J])/\NT H H' v W U/\NT H H' I eW Bn/\NT H H' O d_ T/\NT H H' bf fQ V/\NT H H' J dC Bf/\Dj (v::W) (J::dC)/\LS N n m t e (fn tb) k d r T U Bn V Bf QU QV,fun ah H' h=>h,?_⟩;refine⟨_,rfl,D,_,_,_,rfl,rfl,SqT.of u,zi (j:=0) rfl,_,rfl,O,d_,T,k,rfl,SqL.of c.at_,c.rows,js,ω,fun x hx=>Nat.le_of_eq (LL.wT x hx).symm,fun c1 Ha jc sa pL gh nn qO qo=>?_⟩;refine⟨_,rfl,tn,_,_,_,rfl,rfl,SqT.of (sa _ _ X),zi (j:=1) rfl,_,rfl,tn,_,_,_,rfl,rfl,SqT.of (sa _ _ X),zi (j:=2) rfl,by show 3<=sizeLine;decide,fun t1 kJ=>?_⟩;have sq:=Same.new (o:=.tup [.ref c1,.ref v,.ref I]) kJ;have dU:upd Ha t1 (.tup [.ref c1,.ref v,.ref I]) t1=some (.tup [.ref c1,.ref v,.ref I]):=zc;have cA:NT H9 Ha c1 jc _:=⟨gh,nn,qO,pL,qo⟩;have cA:=(cA.same sq).old a;have Y:=sa.trans sq;generalize upd Ha t1 (.tup [.ref c1,.ref v,.ref I])=Hb at dU cA Y ⊢;have u:=Y _ _ u;have b:=b.same Y;have y:=y.same Y;have c:=c.same Y;have C:=C.same Y;have g:=g.same Y;have a:=a.trans Y;refine⟨_,rfl,D,_,_,_,rfl,rfl,SqT.of u,zi (j:=0) rfl,O,d_,T,rfl,c.at_,c.rows,js,wT9,fun Hd sd=>⟨_,rfl,?_⟩⟩;have u:=sd _ _ u;have dU:=sd _ _ dU;have cA:=cA.same sd;have b:=b.same sd;have y:=y.same sd;have c:=c.same sd;have C:=C.same sd;have g:=g.same sd;have a:=a.trans sd;have iT:¬(Tb.Dg r (fn T)/\∀i,i+1<r->fn T i i ∣ fn T (i+1) (i+1)):=fun h=>by have:=LL.inSt.mpr h;rw[eg] at this;cases this
   apply share (S:=fun fD He=>∃(e':Nat)(S' U' gw:Ξ)(S0 U0:Nat->Tb.Vc)(a' b' c':Addr)(dP dJ dL:List Addr),Same Hd He/\He fD=some (.tup [.ref a',.ref b',.ref c'])/\NT H He a' dP S'/\NT H He b' dJ U'/\NT H He c' dL gw/\LH N n m t e' (fn tb) k d r T S' U' gw V Bf S0 U0 QU QV)
   ·intro fin hc
    have hd:¬Tb.Dg r (fn T):=fun h=>hc (LL.onSl.mpr h);have S1:=LL.side G;refine⟨_,rfl,_,rfl,t1,c1,v,I,jc,W,eW,_,U,Bn,_,_,_,_,_,d,k,rfl,dU,cA.at_,b.at_,y.at_,cA.rows,b.rows,y.rows,S1.ok,fun P1 jZ fD a' b' c' dP dJ dL He F1 W1 se de gW il iY=>fin fD He ?_⟩;exact⟨0,_,_,_,_,_,a',b',c',dP,dJ,dL,se,de,gW.old a,il.old a,iY.old a,LL.near G hd (S1.done F1 W1)⟩
   ·intro fin hc
    have hd:Tb.Dg r (fn T):=LL.onSl.mp hc;have hn:¬∀i,i+1<r->fn T i i ∣ fn T (i+1) (i+1):=fun h=>iT ⟨hd,h⟩;have hr1:1<=r:=by
     rcases Nat.eq_zero_or_pos r with z|z
     ·exact absurd (fun i hi=>ω) hn
     ·exact z
    refine⟨_,rfl,_,rfl,D,_,_,_,rfl,rfl,SqT.of u,zi (j:=0) rfl,O,d_,T,rfl,c.at_,c.rows,js,fun D5 H5 s5 dY e5=>⟨D5,_,rfl,.inl (SqL.of e5),?_⟩⟩;have tF:(K23.cy T).length=r:=by rw[LL.slOf];unfold dg;simp
    rw[Aa,tF];refine⟨H,t1,c1,v,I,jc,W,eW,_,U,Bn,k,r,rfl,s5 _ _ dU,a.trans s5,cA.same s5,b.same s5,y.same s5,fy,LL.lU,LL.lB,hr1,LL.li.rk,ω,LL.slSml G,fun fD a' b' c' dP dJ dL He se de gW il iY=>fin fD He ?_⟩;exact⟨_,_,_,_,_,_,a',b',c',dP,dJ,dL,s5.trans se,de,gW,il,iY,LL.slid G hr1 hd hn⟩
   ·rintro fD He ⟨e',S',U',gw,S0,U0,a',b',c',dP,dJ,dL,se,de,gW,il,iY,LH⟩
    have u:=se _ _ u;have C:=C.same se;have g:=g.same se;have a:=a.trans se;refine⟨_,rfl,fD,_,_,_,rfl,rfl,SqT.of de,zi (j:=0) rfl,_,rfl,a',dP,S',d,rfl,SqL.of gW.at_,gW.rows,by rw[LH.lS];(first|lia|omega),ω,fun x hx=>Nat.le_of_eq (LH.wS x hx).symm,fun c2 Hg uS sg uw mN xg yP BU=>?_⟩;refine⟨_,rfl,D,_,_,_,rfl,rfl,SqT.of (sg _ _ u),zi (j:=1) rfl,_,rfl,D,_,_,_,rfl,rfl,SqT.of (sg _ _ u),zi (j:=2) rfl,by show 3<=sizeLine;decide,fun t2 kw=>?_⟩;have Z:=Same.new (o:=.tup [.ref c2,.ref bf,.ref J]) kw;have sh:=sg.trans Z;have S2:=LH.side G;refine⟨_,rfl,t2,c2,bf,J,uS,fQ,dC,_,V,Bf,_,_,_,_,_,k,d,rfl,zc,Z _ _ mN,sh _ _ C.at_,sh _ _ g.at_,xg.same Z,C.rows.same sh,g.rows.same sh,S2.ok,fun P2 iu ye wq tX uO k9 lG lI Hi F2 W2 si nX ni l8 iE=>?_⟩;have D2:=S2.done F2 W2;have L2:=LH.next G D2;have s0:=a.trans sh;have tm:=L2.tm;exact⟨_,ω,t+1,e',_,U',gw,_,_,QU,QV,fD,a',b',c',ye,wq,tX,uO,dJ,dL,k9,lG,lI,rfl,rfl,s0.trans si,(sh.trans si) _ _ de,nX,il.same (sh.trans si),iY.same (sh.trans si),ni.old s0,l8.old s0,iE.old s0,gR (il.same sh).there iE.new,L2⟩
end
end K23
end
section
namespace Tb
def Oy{k:Nat}{a b:Vc}{q:Int}(h:∀t,t<k->q ∣ b t):q ∣ dot k a b:=by
 induction k with
 |zero=>exact Int.dvd_zero _
 |succ k ih=>exact Int.dvd_add (ih fun t c=>h t ω) (Int.dvd_trans (h k ω) (Int.dvd_mul_left _ _))
def GA{k:Nat}{x c:Vc}{Z:Nat->Vc}{e:Vc}:∀n,dot n (fun j=>dot k x (fun l=>c l*Z l j)) e=dot k x (fun l=>c l*dot n (Z l) e)
 |0=>by
  show(0:Int)=dot k x (fun l=>c l*0);have:∀k,dot k x (fun l=>c l*0)=0:=fun k=>by
   induction k with
   |zero=>rfl
   |succ k ih=>show dot k x _+x k*(c k*0)=0;rw[ih];simp
  rw[this]
 |n+1=>by
  show dot n _ e+dot k x (fun l=>c l*Z l n)*e n=dot k x (fun l=>c l*(dot n (Z l) e+Z l n*e n));rw[GA n,Bp _ (e n),Int.add_comm,<-wg];exact zF fun l _=>by
   show e n*(c l*Z l n)+c l*dot n (Z l) e=c l*(dot n (Z l) e+Z l n*e n);rw[Int.mul_add,Bp (e n),AV,Int.add_comm]
def Oz{n i:Nat}{s:Int}{e:Vc}(hi:i<n):dot n (fun j=>if i=j then s else 0) e=s*e i:=by
 have:∀m,m<=n->dot m (fun j=>if i=j then s else 0) e=if i<m then s*e i else 0:=by
  intro m
  induction m with
  |zero=>intro _;rw[if_neg ω];rfl
  |succ m ih=>
   intro b;show dot m _ e+(if i=m then s else 0)*e m=_;rw[ih ω]
   by_cases c:i=m
   ·subst c;rw[if_neg ω,if_pos rfl,if_pos ω];(first|lia|omega)
   ·rw[if_neg c]
    by_cases a:i<m
    ·rw[if_pos a,if_pos ω];(first|lia|omega)
    ·rw[if_neg a,if_neg ω];(first|lia|omega)
 rw[this n (Ad _),if_pos hi]
def OA{n:Nat}{z a b:Vc}:dot n z (fun j=>a j-b j)=dot n z a-dot n z b:=by
 have:=wg (k:=n) (a:=z) (b:=b) (b':=a) (x:=-1);rw[show dot n z a-dot n z b=-1*dot n z b+dot n z a from ω,<-this];exact zF fun t _=>ω
def bq(q:Nat)(s:Int):Nat:=q / Nat.gcd s.natAbs q
def Dw{q:Nat}{s:Int}:Nat.gcd s.natAbs q*bq q s=q:=Nat.mul_div_cancel' (Nat.gcd_dvd_right _ _)
def Dx{q:Nat}{s:Int}(hq:1<=q):1<=bq q s:=by
 rcases Nat.eq_zero_or_pos (bq q s) with z|z
 ·have:=Dw (q:=q) (s:=s);rw[z] at this;(first|lia|omega)
 ·exact z
def OB{q:Nat}{s:Int}(hq:1<=q)(h:¬(q:Int) ∣ s):2<=bq q s:=by
 have h1:=Dx (s:=s) hq;rcases Bs (bq q s) 2 with c|c
 ·have e:=Dw (q:=q) (s:=s)
  rw[show bq q s=1 from ω,Nat.mul_one] at e;refine absurd ?_ h;have:=Nat.gcd_dvd_left s.natAbs q;rw[e] at this;exact Int.ofNat_dvd_left.mpr this
 ·exact c
def OC{q:Nat}{s y:Int}(h:(bq q s:Int) ∣ y):(q:Int) ∣ s*y:=by
 obtain⟨d,rfl⟩:=h;obtain⟨f,i⟩:=Nat.gcd_dvd_left s.natAbs q;have e:=Dw (q:=q) (s:=s);have hd:((Nat.gcd s.natAbs q:Nat):Int) ∣ s:=Int.ofNat_dvd_left.mpr (Nat.gcd_dvd_left _ _);obtain⟨a,c⟩:=hd;refine⟨a*d,?_⟩;have e':(q:Int)=(Nat.gcd s.natAbs q:Nat)*(bq q s:Nat):=by rw[<-Int.natCast_mul,e]
 clear i f e;generalize ((Nat.gcd s.natAbs q:Nat):Int)=g at c e';generalize ((bq q s:Nat):Int)=b at e' ⊢;rw[e',c,AV,AV,Int.mul_left_comm a]
def OD{q:Nat}{s e:Int}(hq:1<=q)(h:(q:Int) ∣ s*e):(bq q s:Int) ∣ e:=by
 have h1:q ∣ s.natAbs*e.natAbs:=by rw[<-AJ];exact Int.ofNat_dvd_left.mp h
 have a:0<Nat.gcd s.natAbs q:=Nat.gcd_pos_of_pos_right _ hq;have b:Nat.Coprime (bq q s) (s.natAbs / Nat.gcd s.natAbs q):=(Nat.coprime_div_gcd_div_gcd a).symm;have es:s.natAbs=Nat.gcd s.natAbs q*(s.natAbs / Nat.gcd s.natAbs q):=(Nat.mul_div_cancel' (Nat.gcd_dvd_left _ _)).symm;have h2:Nat.gcd s.natAbs q*bq q s ∣ Nat.gcd s.natAbs q*((s.natAbs / Nat.gcd s.natAbs q)*e.natAbs):=by
  rw[Dw,<-AQ,<-es];exact h1
 have c:bq q s ∣ (s.natAbs / Nat.gcd s.natAbs q)*e.natAbs:=Nat.dvd_of_mul_dvd_mul_left a h2;exact Int.ofNat_dvd_left.mpr (b.dvd_of_dvd_mul_left c)
def JQ:∀{l:List Nat},(∀x∈l,1<=x)->1<=pr l
 |[],_=>Ad _
 |t::l,h=>Nat.mul_pos (h t (.head _)) (JQ fun x hx=>h x (.tail _ hx))
def JR{k w i q:Nat}{s s':Nat->Int}{X Z:Nat->Vc}(E:∀a j,a<k->j<w->dot k (X a) (fun l=>s' l*Z l j)=if a=j then s a else 0)(hk:i<k)(hw:i<w)(hq:1<=q)(F:∀l,i<=l->l<k->(q:Int) ∣ s' l)(G:∀j,j<i->s j=s' j):(q:Int) ∣ s i:=by
 refine AC fun no=>?_;have A:=OB hq no
 let g:List Int->List Int:=fun c=>(Ah i).map fun l=>dot (i+1) (Z l) (vl c)%(bq q (s l):Int)
 have big:(allb ((Ah i).map fun j=>bq q (s j))).length<(allb ((Ah (i+1)).map fun j=>bq q (s j))).length:=by
  rw[kE,kE,List.range_succ,At,wa];have:=JQ (l:=(Ah i).map fun j=>bq q (s j)) fun x hx=>by
   obtain⟨j,_,rfl⟩:=List.mem_map.mp hx;exact Dx hq
  show _<_*(bq q (s i)*1);rw[Nat.mul_one];have h2:pr ((Ah i).map fun j=>bq q (s j))*2<=pr ((Ah i).map fun j=>bq q (s j))*bq q (s i):=Al _ A;(first|lia|omega)
 obtain⟨c,hc,d,hd,ne,e⟩:=eO g _ _ (p4 _) (fun c _=>jy.mpr ⟨by simp[g],fun l x t hx b=>by
  simp only[g,Aj] at hx b
  by_cases f:l<i
  ·rw[AM f] at hx b
   simp at hx b;subst hx b;have:(0:Int)<(bq q (s l):Int):=by have:=Dx (s:=s l) hq;(first|lia|omega)
   exact⟨Int.emod_nonneg _ ω,Int.emod_lt_of_pos _ this⟩
  ·rw[List.getElem?_eq_none (by simpa using f)] at hx;cases hx⟩) big
 obtain⟨v,y⟩:=jy.mp hc;obtain⟨ld,bd⟩:=jy.mp hd;rw[Aa,A9] at v ld;have o:∀a,a<=i->(q:Int) ∣ s a*(vl c a-vl d a):=fun a H=>by
  have h1:dot (i+1) (fun j=>dot k (X a) (fun l=>s' l*Z l j)) (fun j=>vl c j-vl d j)=s a*(vl c a-vl d a):=by
   rw[<-Oz (n:=i+1) (e:=fun j=>vl c j-vl d j) (show a<i+1 from ω)];exact iq fun j I=>E a j ω ω
  rw[<-h1,GA];refine Oy fun l f=>?_;rcases Bs l i with c1|c1
  ·rw[<-G l c1]
   refine OC ?_;rw[OA];have e2:dot (i+1) (Z l) (vl c)%(bq q (s l):Int)=dot (i+1) (Z l) (vl d)%(bq q (s l):Int):=by
    have:=congrArg (fun x:List Int=>x[l]?) e;simp only[g,Aj,AM c1] at this;exact AR this
   exact Int.dvd_of_emod_eq_zero (by rw[Int.sub_emod,e2];simp)
  ·exact Int.dvd_trans (F l c1 f) (Int.dvd_mul_right _ _)
 refine ne (AU ω fun a h1 h2=>?_);have r:=OD hq (o a ω);have C:vl c a=c[a]:=by unfold vl;rw[Ac,Ab h1];rfl
 have p:vl d a=d[a]:=by unfold vl;rw[Ac,Ab h2];rfl
 rw[C,p] at r;have u:((Ah (i+1)).map fun j=>bq q (s j))[a]?=some (bq q (s a)):=by rw[Aj,AM ω];rfl
 have J:=y a _ _ (Ab h1) u;have L:=bd a _ _ (Ab h2) u;obtain⟨z,hz⟩:=r;have M:=Dx (s:=s a) hq;have D:z=0:=by
  rcases Int.lt_trichotomy z 0 with h|h|h
  ·have:(bq q (s a):Int)*z<=(bq q (s a):Int)*(-1):=Int.mul_le_mul_of_nonneg_left ω ω
   (first|lia|omega)
  ·exact h
  ·have:(bq q (s a):Int)*1<=(bq q (s a):Int)*z:=Int.mul_le_mul_of_nonneg_left ω ω
   (first|lia|omega)
 rw[D,Int.mul_zero] at hz;(first|lia|omega)
def Pz{k w:Nat}{s s':Nat->Int}{X Z u v:Nat->Vc}(h:∀a j,a<k->j<w->dot k (X a) (fun l=>s' l*Z l j)=if a=j then s a else 0)(r:∀a j,a<k->j<w->dot k (u a) (fun l=>s l*v l j)=if a=j then s' a else 0)(f:∀i,0<=s i)(d:∀i,0<=s' i)(hd:∀i l,i<=l->l<k->s i ∣ s l)(e:∀i l,i<=l->l<k->s' i ∣ s' l):∀i,i<k->i<w->s i=s' i:=by
 intro i
 induction i using Nat.strongRecOn with
 |_ i ih=>
  intro hk hw;have go:∀{s s':Nat->Int}{X Z:Nat->Vc},(∀a j,a<k->j<w->dot k (X a) (fun l=>s' l*Z l j)=if a=j then s a else 0)->(∀i,0<=s i)->(∀i,0<=s' i)->(∀i l,i<=l->l<k->s' i ∣ s' l)->(∀j,j<i->s j=s' j)->s' i ∣ s i:=by
   intro s s' X Z h f d e p
   by_cases z:s' i=0
   ·have g:∀l,i<=l->l<k->s' l=0:=fun l h1 h2=>by
     have:=e i l h1 h2;rw[z] at this;exact Int.zero_dvd.mp this
    have hb:=f i;have:=JR (q:=(s i).toNat+1) h hk hw ω (fun l h1 h2=>by rw[g l h1 h2];exact Int.dvd_zero _) p;rw[z];refine Int.zero_dvd.mpr ?_;rcases Int.lt_or_le 0 (s i) with c|c
    ·have:=Int.le_of_dvd c this
     (first|lia|omega)
    ·(first|lia|omega)
   ·have hp:=d i
    have:=JR (q:=(s' i).toNat) h hk hw ω (fun l h1 h2=>by rw[Int.toNat_of_nonneg hp];exact e i l h1 h2) p
    rwa [Int.toNat_of_nonneg hp] at this
  have a:=go h f d e fun j o=>ih j o ω ω;have b:=go r d f hd fun j o=>(ih j o ω ω).symm;exact Int.dvd_antisymm (f i) (d i) b a
def yA{n k:Nat}{x y:Vc}{B:Nat->Vc}:dot n (fun l=>dot k x (fun s=>B s l)) y=dot k x (fun s=>dot n (B s) y):=by
 have:=GA (k:=k) (x:=x) (c:=fun _=>1) (Z:=B) (e:=y) n;have e1:dot n (fun j=>dot k x (fun l=>(1:Int)*B l j)) y=dot n (fun l=>dot k x (fun s=>B s l)) y:=iq fun t _=>zF fun s _=>Int.one_mul _;have e2:dot k x (fun l=>(1:Int)*dot n (B l) y)=dot k x (fun s=>dot n (B s) y):=zF fun s _=>Int.one_mul _;rw[<-e1,this,e2]
def yC{a b:Vc}:∀k,dot k a b=dot k b a
 |0=>rfl
 |k+1=>by show dot k a b+a k*b k=dot k b a+b k*a k;rw[yC k,Bp]
def PB{k w n:Nat}{A U:Nat->Vc}{X y:Vc}:aV k w A (fun t=>dot n X (fun l=>U l t)) y=dot n X (fun l=>aV k w A (U l) y):=by
 unfold aV;exact yA
def PD{k w n:Nat}{A V:Nat->Vc}{x Z:Vc}:aV k w A x (fun t=>dot n Z (fun l=>V l t))=dot n Z (fun l=>aV k w A x (V l)):=by
 unfold aV;have e:dot k x (fun s=>dot w (A s) (fun t=>dot n Z (fun l=>V l t)))=dot k x (fun s=>dot n (fun l=>dot w (A s) (V l)) Z):=zF fun s _=>by
  rw[yC w,yA,yC n];exact iq fun l _=>yC w
 rw[e,<-yA,yC n]
end Tb
end
section
namespace L2
open PySem PySem.Spec PyProof.Rows
mutual
inductive DV(K:Ag)(H:Hp):V->PyData->Prop where
 |bl (b:Bool):DV K H (.bl b) (.bool b)
 |int (i:Int):DV K H (.int i) (.int i)
 |str (z:Str):DV K H (.str z) (.str z)
 |lst {l:Addr} {xs:List V} {ds:List PyData} (h:SqL K H l xs) (t:DVs K H xs ds):DV K H (.ref l) (.list ds)
inductive DVs(K:Ag)(H:Hp):List V->List PyData->Prop where
 |nil:DVs K H [] []
 |cons {x:V} {d:PyData} {xs:List V} {ds:List PyData} (h:DV K H x d) (t:DVs K H xs ds):DVs K H (x::xs) (d::ds)
end
section
variable{X:Cx}{aa:Ψ}{σ:St}{H:Hp}{s:Shared}
mutual
def DV.reads(I:Inv X aa σ H s):∀{x:V}{d:PyData}{u:Value},DV X.K H x d->RelV x u->∃a,Reads s.heap u d a
 |_,_,_,.bl b,r=>by cases r;exact⟨_,.bool b⟩
 |_,_,_,.int i,r=>by obtain⟨t,rfl⟩:=r;exact⟨_,.int i t⟩
 |_,_,_,.str z,r=>by obtain⟨t,rfl⟩:=r;exact⟨_,.str z t⟩
 |_,_,_,.lst h t,r=>by
  cases r;obtain⟨ad,c,p,_⟩:=I.list h;obtain⟨o,e,hc,n,hd⟩:=p.isList;obtain⟨a,q⟩:=DVs.reads I t c;exact⟨_,.list e hc hd (by simpa using q)⟩
def DVs.reads(I:Inv X aa σ H s):∀{xs:List V}{ds:List PyData}{us:List Value},DVs X.K H xs ds->Vals xs us->∃c,ReadsAll s.heap us ds c
 |_,_,_,.nil,.nil=>⟨_,.nil⟩
 |_,_,_,.cons h t,.cons r rs=>by
  obtain⟨a,q⟩:=DV.reads I h r;obtain⟨b,d⟩:=DVs.reads I t rs;exact⟨_,.cons q d⟩
end
end
def gl(neg:Bool)(K:Ag):R2:=fun x y H Q=>∃d e,DV K H x d/\DV K H y e/\SeqAt.shaped d=true/\SeqAt.shaped e=true/\SeqAt.noMix d e=true/\Q (.bl (if neg then !same d e else same d e)) H
section
variable{X:Cx}
def Dy(j:X.A.units+64<cLine):cI X (compareOp .Eq) (gl false X.K):=by
 intro aa s σ H x y v u Q I a b h;obtain⟨d,e,h1,h2,c,f,nm,q⟩:=h;obtain⟨a1,g⟩:=h1.reads I a;obtain⟨a2,i⟩:=h2.reads I b;exact eq_dataH_same g i c f j nm ⟨.bl _,H,I,rfl,q⟩
def qA(j:X.A.units+64<cLine):cI X (compareOp .NotEq) (gl true X.K):=by
 intro aa s σ H x y v u Q I a b h;obtain⟨d,e,h1,h2,c,f,nm,q⟩:=h;obtain⟨a1,g⟩:=h1.reads I a;obtain⟨a2,i⟩:=h2.reads I b;exact ne_dataH_same g i c f j nm ⟨.bl _,H,I,rfl,q⟩
end
abbrev dn(ns:List Int):PyData:=.list (ns.map PyData.int)
abbrev aZ(tb:Ξ):PyData:=.list (tb.map dn)
abbrev jd(ts:List Ξ):PyData:=.list (ts.map aZ)
def GB(ns ms:List Int):same (dn ns) (dn ms)=decide (ns=ms):=by simp only[same];exact PySem.W.ke_sameAll ns ms
def JS:∀a b:Ξ,sameAll (a.map dn) (b.map dn)=decide (a=b)
 |[],[]=>by simp[sameAll]
 |[],_::_=>by simp[sameAll]
 |_::_,[]=>by simp[sameAll]
 |a::r,b::t=>by
  simp only[AX,sameAll,GB];rw[JS r t]
  by_cases h:a=b<;>by_cases h':r=t<;>simp[h,h']
def gS(a b:Ξ):same (aZ a) (aZ b)=decide (a=b):=by simp only[same];exact JS a b
def JT:∀a b:List Ξ,sameAll (a.map aZ) (b.map aZ)=decide (a=b)
 |[],[]=>by simp[sameAll]
 |[],_::_=>by simp[sameAll]
 |_::_,[]=>by simp[sameAll]
 |a::r,b::t=>by
  simp only[AX,sameAll,gS];rw[JT r t]
  by_cases h:a=b<;>by_cases h':r=t<;>simp[h,h']
def OE(a b:List Ξ):same (jd a) (jd b)=decide (a=b):=by simp only[same];exact JT a b
def GC(ns:List Int):PyData.canLayAll0 (ns.map PyData.int)=true:=by simp[PySem.W.ke_canLayAll0]
def Dz:∀tb:Ξ,PyData.canLayAll0 (tb.map dn)=true
 |[]=>rfl
 |a::r=>by rw[AX,PyData.canLayAll0,Dz r,dn,PyData.canLay0,GC];rfl
def JU:∀b:List Ξ,PyData.canLayAll0 (b.map aZ)=true
 |[]=>rfl
 |a::r=>by rw[AX,PyData.canLayAll0,JU r,aZ,PyData.canLay0,Dz];rfl
def qC:∀tb:Ξ,PyData.depthAll (tb.map dn)<=2
 |[]=>Az _
 |a::r=>by
  have e:Bj (dn a)<=2:=by simp[Bj,PySem.W.ke_depthAll]
  rw[AX,PyData.depthAll];exact Nat.max_le.mpr ⟨e,qC r⟩
def JV:∀b:List Ξ,PyData.depthAll (b.map aZ)<=3
 |[]=>Az _
 |a::r=>by
  have e:Bj (aZ a)<=3:=by
   have:=qC a;rw[aZ,Bj];(first|lia|omega)
  rw[AX,PyData.depthAll];exact Nat.max_le.mpr ⟨e,JV r⟩
def zW(tb:Ξ):SeqAt.shaped (aZ tb)=true:=by
 have:=qC tb;have e:Bj (aZ tb)<=64:=by rw[aZ,Bj];(first|lia|omega)
 unfold SeqAt.shaped;rw[decide_eq_true e,aZ,PyData.canLay0,Dz]
 rfl
def JW(a:List Ξ):SeqAt.shaped (jd a)=true:=by
 have:=JV a;have e:Bj (jd a)<=64:=by rw[jd,Bj];(first|lia|omega)
 unfold SeqAt.shaped;rw[decide_eq_true e,jd,PyData.canLay0,JU]
 rfl
def JX(a b:List Int):SeqAt.noMix (dn a) (dn b)=true:=SeqAt.noMix_of_shape (.list .int) rfl _ _ (by simp[Shape.has]) (by simp[Shape.has])
def iF(a b:Ξ):SeqAt.noMix (aZ a) (aZ b)=true:=SeqAt.noMix_of_shape (.list (.list .int)) rfl _ _ (by simp[Shape.has]) (by simp[Shape.has])
def OF(a b:List Ξ):SeqAt.noMix (jd a) (jd b)=true:=SeqAt.noMix_of_shape (.list (.list (.list .int))) rfl _ _ (by simp[Shape.has]) (by simp[Shape.has])
def JY{K:Ag}{H:Hp}:∀ns:List Int,DVs K H (ns.map V.int) (ns.map PyData.int)
 |[]=>.nil
 |n::r=>.cons (.int n) (JY r)
def DA{K:Ag}{H:Hp}{l:Addr}{ns:List Int}(h:SqL K H l (ns.map V.int)):DV K H (.ref l) (dn ns):=.lst h (JY ns)
end L2
end
section
namespace K23
open PySem L2
abbrev DB:Stmt:=top 16
abbrev DC:Stmt:=top 17
abbrev DE:Stmt:=top 18
def JZ:A8 "min"=some (.builtin "min"):=δ
def OG{K:Ag}{H:Hp}{rs:List Addr}{tb:Ξ}(h:Rws H rs tb):DVs K H (rs.map V.ref) (tb.map dn):=by
 induction h with
 |nil=>exact .nil
 |cons r t ih=>exact .cons (DA (SqL.of r)) ih
def dI{K:Ag}{H:Hp}{L:Addr}{rs:List Addr}{tb:Ξ}(a:SqL K H L (rs.map V.ref))(h:Rws H rs tb):DV K H (.ref L) (aZ tb):=.lst a (OG h)
def mulT(u v:Ξ):Ξ:=u.map fun r=>(turn v).map (dot r)
def bP(u ub:Ξ)(n:Nat):Bool:=zX u n&&zX ub n&&decide (mulT u ub=unT n)
def zH{u:Ξ}{n:Nat}:zX u n=true↔u.length=n/\∀r∈u,r.length=n:=by
 unfold zX;rw[A7,decide_eq_true_eq,AZ];exact and_congr_right fun _=>⟨fun h r hr=>of_decide_eq_true (h r hr),fun h r hr=>decide_eq_true (h r hr)⟩
def nq(tb:Ξ):Prop:=∀r∈tb,∀x∈r,x.natAbs<big
def GD{tb:Ξ}(h:nq tb):nq (turn tb):=fun r hr x hx=>by
 unfold turn at hr;obtain⟨j,_,rfl⟩:=List.mem_map.mp hr;unfold colAt at hx;obtain⟨q,hq,rfl⟩:=List.mem_map.mp hx;rw[Ac];cases e:q[j]? with
 |none=>exact Av (Az _) Ji
 |some y=>exact h q hq y (Ak e)
def DF{tb:Ξ}:(turn tb).length=wid tb:=by unfold turn;simp
def yE{tb:Ξ}:∀r∈turn tb,r.length=tb.length:=fun r hr=>by
 unfold turn at hr;obtain⟨j,_,rfl⟩:=List.mem_map.mp hr;unfold colAt;simp
section
variable{P:Program}{w:World}{K:Ag}{mg:Str->Option Value}{base:Heap}
def GE(K:Ag):Sp:=fun vs H Q _=>∃L rs tb,vs=[.ref L]/\SqL K H L (rs.map V.ref)/\Rws H rs tb/\cN tb=true/\∀H',Same H H'->Q .non H'
def OH{f a:Addr}{fd b:FuncData}(F:Fun K "must_be_table" "must_be_table" uG f fd)(Ft:Fun K "is_table" "is_table" uC a b)(bt:Binds K b ["table"] [])(mt:mg "is_table"=some (.ref a))(i:ai P w K mg base aw 2 a b ["table"] (HQ K)):ai P w K mg base aw 3 f fd ["table"] (GE K):=by
 refine F.ok Mz (fun vs H Q E h=>?_) (fun j A outer s H vs Q E hr h=>?_)
 ·obtain⟨L,rs,tb,rfl,_⟩:=h;rfl
 ·obtain⟨L,rs,tb,rfl,e,g,c,k⟩:=h
  refine⟨_,zh (cn (gt (fG (zf i hr rfl mt Ft.kp bt .nil ac (za (pv 0) zb)))) KZ zJ),?_⟩;refine⟨_,rfl,L,rs,tb,rfl,e,g,by have:=(ke c).1;(first|lia|omega),fun H1 d=>⟨_,rfl,?_⟩⟩;rw[c];exact az (k H1 d)
def J0(K:Ag):Sp:=fun vs H Q _=>∃(L:Addr)(rs:List Addr)(tb:Ξ)(N n m:Nat),vs=[.ref L]/\H L=some (.lst (rs.map V.ref))/\Rws H rs tb/\cN tb=true/\Gz N n m tb.length (wid tb) tb/\JO H Q tb.length (wid tb) (fn tb)
def OI:zp ["table"] ["table"] (zg DB):=⟨rfl,rfl,rfl,δ,rfl,δ,δ⟩
def PapH.old{H0 H H':Hp}{p:Addr}{u ub v vb:Ξ}{st:List Int}{a1 a2 a3 a4 a5:Addr}{d1 d2 d3 d4:List Addr}(h:PapH H H' p u ub v vb st a1 a2 a3 a4 a5 d1 d2 d3 d4)(s:Same H0 H):PapH H0 H' p u ub v vb st a1 a2 a3 a4 a5 d1 d2 d3 d4:=
 ⟨h.at_,h.n1.old s,h.n2.old s,h.n3.old s,h.n4.old s,h.n5,s.free h.na,h.j12,h.j13,h.j14,h.j15,h.j23,h.j24,h.j25,h.j34,h.j35,h.j45⟩
def PapH.same{H H' H2:Hp}{p:Addr}{u ub v vb:Ξ}{st:List Int}{a1 a2 a3 a4 a5:Addr}{d1 d2 d3 d4:List Addr}(h:PapH H H' p u ub v vb st a1 a2 a3 a4 a5 d1 d2 d3 d4)(s:Same H' H2):PapH H H2 p u ub v vb st a1 a2 a3 a4 a5 d1 d2 d3 d4:=
 ⟨s _ _ h.at_,h.n1.same s,h.n2.same s,h.n3.same s,h.n4.same s,s _ _ h.n5,h.na,h.j12,h.j13,h.j14,h.j15,h.j23,h.j24,h.j25,h.j34,h.j35,h.j45⟩
def OJ{f g i j:Addr}{fd l o q:FuncData}(F:Fun K "stepped" "stepped" DB f fd)(Fm:Fun K "must_be_table" "must_be_table" uG g l)(z:Binds K l ["table"] [])(C:mg "must_be_table"=some (.ref g))(M:ai P w K mg base aw 3 g l ["table"] (GE K))(Fp:Fun K "paper_of" "paper_of" Dv i o)(D:Binds K o ["table","width"] [])(G:mg "paper_of"=some (.ref i))(O:ai P w K mg base aw 6 i o ["table","width"] JP)(Fw:Fun K "width_of" "width_of" kc j q)(I:Binds K q ["table"] [])(J:mg "width_of"=some (.ref j))(S:ai P w K mg base aw 1 j q ["table"] (l' K)):ai P w K mg base aw 7 f fd ["table"] (J0 K):=by
 refine F.ok OI (fun vs H Q E h=>?_) (fun T A outer s H vs Q E hr h=>?_)
 ·obtain⟨L,rs,tb,N,n,m,rfl,_⟩:=h;rfl
 ·obtain⟨L,rs,tb,N,n,m,rfl,b,c,it,ok,y⟩:=h
  have d:Room 3 _:=hr.mono ξ;have e:Room 1 _:=hr.mono ξ;refine⟨_,ze (iN (zf M d rfl C Fm.kp z .nil ac (za (pv 0) zb))) (zh (zr (zf O hr rfl G Fp.kp D .nil ac (za (pv 0) (za (zf S e rfl J Fw.kp I .nil ac (za (pv 0) zb)) zb))))),?_⟩;refine⟨_,rfl,L,rs,tb,rfl,SqL.of b,c,it,fun H1 a=>⟨_,rfl,_,rfl,L,rs,tb,rfl,SqL.of (a _ _ b),c.same a,L,rs,tb,N,n,m,_,_,rfl,a _ _ b,c.same a,ok,?_⟩⟩;intro H' p u ub v vb st a1 a2 a3 a4 a5 d1 d2 d3 d4 r x pp;exact y H' p u ub v vb st a1 a2 a3 a4 a5 d1 d2 d3 d4 (a.trans r) (x.old a) pp
def J1(K:Ag):Sp:=fun vs H Q _=>∃(L M:Addr)(rs ms:List Addr)(u ub:Ξ)(n:Nat),vs=[.ref L,.ref M,.int n]/\H L=some (.lst (rs.map V.ref))/\H M=some (.lst (ms.map V.ref))/\Rws H rs u/\Rws H ms ub/\u.length<=1000/\ub.length<=1000/\n<=40/\nq u/\nq ub/\∀H',Same H H'->Q (.bl (bP u ub n)) H'
def OK:zp ["turn","back","size"] ["turn","back","size"] (zg DE):=⟨rfl,rfl,rfl,δ,rfl,δ,δ⟩
def OL{f fo fr o p:Addr}{fd q v z C:FuncData}(F:Fun K "is_back" "is_back" DE f fd)(Fo:Fun K "is_of_size" "is_of_size" ww fo q)(T:Binds K q ["table","size"] [])(U:mg "is_of_size"=some (.ref fo))(W:ai P w K mg base aw 1 fo q ["table","size"] (Dh K))(Fr:Fun K "rows_by" "rows_by" pc fr v)(br:Binds K v ["table","columns"] [])(mr:mg "rows_by"=some (.ref fr))(Gr:ai P w K mg base aw 3 fr v ["table","columns"] (F0 K))(Fc:Fun K "columns_of" "columns_of" mx o z)(bc:Binds K z ["table"] [])(mc:mg "columns_of"=some (.ref o))(Gc:ai P w K mg base aw 3 o z ["table"] (uT K))(Fu:Fun K "unit" "unit" ws p C)(bu:Binds K C ["size"] [])(mu:mg "unit"=some (.ref p))(Gu:ai P w K mg base aw 3 p C ["size"] FX):ai P w K mg base aw 4 f fd ["turn","back","size"] (J1 K):=by
 refine F.ok OK (fun vs H Q E h=>?_) (fun ak A outer s H vs Q E hr h=>?_)
 ·obtain⟨L,M,rs,ms,u,ub,n,rfl,_⟩:=h;rfl
 ·obtain⟨L,M,rs,ms,u,ub,n,rfl,G,I,J,N,O,S,j,su,sub,k⟩:=h
  have a:Room 1 _:=hr.mono ξ;have aI:=hr.units;refine⟨_,ze (cn (PW.pt (nY (gt (fG (zf W a rfl U Fo.kp T .nil ac (za (pv 0) (za (pv 2) zb))))) (nW (gt (fG (zf W a rfl U Fo.kp T .nil ac (za (pv 1) (za (pv 2) zb)))))))) (zh (zr fC)) zJ)
   (zh (zr (e_ (Dy aI) (zf Gr hr rfl mr Fr.kp br .nil ac (za (pv 0) (za (zf Gc hr rfl mc Fc.kp bc .nil ac (za (pv 1) zb)) zb))) (zf Gu hr rfl mu Fu.kp bu .nil ac (za (pv 2) zb)) (ar _)))),?_⟩
  refine⟨_,rfl,_,rfl,L,rs,u,n,rfl,SqL.of G,J,O,fun H1 b=>⟨_,rfl,?_⟩⟩;cases c1:zX u n with
  |false=>
   have e:bP u ub n=false:=by unfold bP;rw[c1];rfl
   rw[e] at k;exact aA (aA (k H1 b))
  |true=>
   refine az ⟨_,rfl,_,rfl,M,ms,ub,n,rfl,SqL.of (b _ _ I),N.same b,S,fun H2 X=>⟨_,rfl,?_⟩⟩;have d:=b.trans X;cases c2:zX ub n with
   |false=>
    have e:bP u ub n=false:=by unfold bP;rw[c1,c2];rfl
    rw[e] at k;exact aA (k H2 d)
   |true=>
    obtain⟨l1,w1⟩:=zH.mp c1;obtain⟨l2,w2⟩:=zH.mp c2;obtain⟨t1,t2,t3⟩:=kS l2 w2 j;refine az ⟨_,rfl,_,rfl,M,ms,ub,rfl,SqL.of (d _ _ I),N.same d,t1,fun D H3 ds Y hD g Z _ _=>?_⟩;have l:=d.trans Y;refine⟨L,D,rs,u,ds,turn ub,rfl,l _ _ G,g,J.same l,Z,O,by rw[DF,t3];(first|lia|omega),fun c hc=>⟨by rw[yE c hc];exact S,fun r hr x hx y hy=>gH (su r hr x hx) (GD sub c hc y hy)⟩,fun E1 H4 es s4 hE mS re _ _=>?_⟩;have cQ:=l.trans s4;refine⟨_,rfl,n,rfl,ω,fun U1 H5 us i hU mF ru _ _=>?_⟩;refine⟨aZ (mulT u ub),aZ (unT n),dI (SqL.of (i _ _ mS)) (re.same i),dI (SqL.of mF) ru,zW _,zW _,iF _ _,?_⟩;have e:bP u ub n=decide (mulT u ub=unT n):=by unfold bP;rw[c1,c2];rfl
    rw[e,<-gS] at k;exact k H5 (cQ.trans i)
end
def SmL(tb:Ξ):Prop:=∀r∈tb,∀x∈r,x.natAbs<low
def SmL.big{tb:Ξ}(h:SmL tb):nq tb:=fun r hr x hx=>Gj (h r hr x hx)
def Sm9(tb:Ξ):Prop:=∀r∈tb,∀x∈r,x.natAbs<=2 ^ 900
def Sm9.low{tb:Ξ}(h:Sm9 tb):SmL tb:=fun r hr x hx=>Jw (h r hr x hx) ξ
def J3:∀{r c:List Int}{a b:Nat},(∀x∈r,x.natAbs<=a)->(∀y∈c,y.natAbs<=b)->(dot r c).natAbs<=c.length*(a*b)
 |[],c,a,b,_,_=>by unfold dot;exact Az _
 |_::_,[],a,b,_,_=>by unfold dot;exact Az _
 |x::r,y::c,a,b,h1,h2=>by
  have d:=J3 (r:=r) (c:=c) (fun z hz=>h1 z (.tail _ hz)) fun z hz=>h2 z (.tail _ hz);have e:dot (x::r) (y::c)=x*y+dot r c:=by unfold dot;rw[List.zipWith_cons_cons,List.sum_cons]
  have f:(x*y).natAbs<=a*b:=by rw[AJ];exact AO (h1 x (.head _)) (h2 y (.head _))
  have g:=Int.natAbs_add_le (x*y) (dot r c);rw[e,AH,Nat.add_mul];(first|lia|omega)
def J4{r c:List Int}(h1:∀x∈r,x.natAbs<low)(h2:∀y∈c,y.natAbs<=2 ^ 900)(hc:c.length<=40):(dot r c).natAbs<big:=by
 have h:=J3 (r:=r) (c:=c) (a:=2 ^ (bt-1000)) (b:=2 ^ 900) (fun x hx=>Nat.le_of_lt (h1 x hx)) h2;have e:c.length*(2 ^ (bt-1000)*2 ^ 900)<=2 ^ (6+(bt-1000+900)):=Tb.zw (Af hc ξ) (Tb.zw (Ad _) (Ad _));unfold big;refine Av (Af h e) (Nat.pow_lt_pow_right ξ ?_);have:=kD;(first|lia|omega)
def dw(tb u ub v vb:Ξ)(st:List Int):Bool:=bP u ub tb.length&&bP v vb (wid tb)&&cx st (if(wid tb:Int)<(tb.length:Int) then(wid tb:Int) else(tb.length:Int))&&decide (mulT (mulT u tb) v=slpT st tb.length (wid tb))
def OM{st:List Int}{m:Int}(h:cx st m=true):(st.length:Int)<=m:=by
 unfold cx at h;rw[A7,A7] at h;have:=h.1.1;simp at this;(first|lia|omega)
def DG{u ub:Ξ}{n:Nat}(h:bP u ub n=true):u.length=n/\(∀r∈u,r.length=n)/\ub.length=n/\∀r∈ub,r.length=n:=by
 unfold bP at h;rw[A7,A7] at h;obtain⟨a,b⟩:=zH.mp h.1.1;obtain⟨c,d⟩:=zH.mp h.1.2;exact⟨a,b,c,d⟩
def kX{tb:Ξ}(h:Sm9 tb):Sm9 (turn tb):=fun r hr x hx=>by
 unfold turn at hr;obtain⟨j,_,rfl⟩:=List.mem_map.mp hr;unfold colAt at hx;obtain⟨q,hq,rfl⟩:=List.mem_map.mp hx;rw[Ac];cases e:q[j]? with
 |none=>exact Az _
 |some y=>exact h q hq y (Ak e)
section
variable{P:Program}{w:World}{K:Ag}{mg:Str->Option Value}{base:Heap}
def J5(K:Ag):Sp:=fun vs H Q _=>∃(L p a1 a2 a3 a4 a5:Addr)(rs d1 d2 d3 d4:List Addr)(tb u ub v vb:Ξ)(st:List Int),vs=[.ref L,.ref p]/\H L=some (.lst (rs.map V.ref))/\Rws H rs tb/\cN tb=true/\H p=some (.tup [.ref a1,.ref a2,.ref a3,.ref a4,.ref a5])/\
 H a1=some (.lst (d1.map V.ref))/\H a2=some (.lst (d2.map V.ref))/\H a3=some (.lst (d3.map V.ref))/\H a4=some (.lst (d4.map V.ref))/\H a5=some (.lst (st.map V.int))/\Rws H d1 u/\Rws H d2 ub/\Rws H d3 v/\Rws H d4 vb/\u.length<=1000/\ub.length<=1000/\v.length<=1000/\vb.length<=1000/\st.length<=1000/\
 Sm9 tb/\SmL u/\SmL ub/\SmL v/\SmL vb/\∀H',Same H H'->Q (.bl (dw tb u ub v vb st)) H'
def J6:zp ["table","paper","half"] ["table","paper"] (zg DC):=⟨rfl,rfl,rfl,δ,rfl,δ,δ⟩
def ON{f U W X fa fr Y fo:Addr}{fd Z dM aW fV cj aU cX:FuncData}(F:Fun K "is_stepped" "is_stepped" DC f fd)(bl:mg "len"=none)(im:mg "min"=none)(Fm:Fun K "must_be_table" "must_be_table" uG U Z)(bm:Binds K Z ["table"] [])(mm:mg "must_be_table"=some (.ref U))(Gm:ai P w K mg base aw 3 U Z ["table"] (GE K))(Fb:Fun K "is_back" "is_back" DE W dM)(bb:Binds K dM ["turn","back","size"] [])(mb:mg "is_back"=some (.ref W))(Gb:ai P w K mg base aw 4 W dM ["turn","back","size"] (J1 K))(Fw:Fun K "width_of" "width_of" kc X aW)(bw:Binds K aW ["table"] [])(mw:mg "width_of"=some (.ref X))(Gw:ai P w K mg base aw 1 X aW ["table"] (l' K))(Fa:Fun K "are_steps" "are_steps" wM fa fV)(ba:Binds K fV ["steps","most"] [])(ma:mg "are_steps"=some (.ref fa))(Ga:ai P w K mg base aw 1 fa fV ["steps","most"] F7)(Fr:Fun K "rows_by" "rows_by" pc fr cj)(br:Binds K cj ["table","columns"] [])(mr:mg "rows_by"=some (.ref fr))(Gr:ai P w K mg base aw 3 fr cj ["table","columns"] (F0 K))(Fc:Fun K "columns_of" "columns_of" mx Y aU)(bc:Binds K aU ["table"] [])(mc:mg "columns_of"=some (.ref Y))(Gc:ai P w K mg base aw 3 Y aU ["table"] (uT K))(Fo:Fun K "on_slope" "on_slope" qg fo cX)(bo:Binds K cX ["numbers","size","width"] [])(mo:mg "on_slope"=some (.ref fo))(Go:ai P w K mg base aw 2 fo cX ["numbers","size","width"] FW):ai P w K mg base aw 5 f fd ["table","paper"] (J5 K):=by
 refine F.ok J6 (fun vs H Q E h=>?_) (fun ak A outer s H vs Q E hr h=>?_)
 ·obtain⟨L,p,a1,a2,a3,a4,a5,rs,d1,d2,d3,d4,tb,u,ub,v,vb,st,rfl,_⟩:=h;rfl
 ·obtain⟨L,p,a1,a2,a3,a4,a5,rs,d1,d2,d3,d4,tb,u,ub,v,vb,st,rfl,l,z,it,hp,h1,h2,h3,h4,h5,r1,r2,r3,r4,N,z2,z3,z4,z5,s9,su,sub,sv,svb,k⟩:=h
  have a:Room 3 _:=hr.mono ξ;have O:Room 2 _:=hr.mono ξ;have d:Room 1 _:=hr.mono ξ;have aI:=hr.units;obtain⟨t1,t2,t3⟩:=ke it;refine⟨_,ze (iN (zf Gm a rfl mm Fm.kp bm .nil ac (za (pv 0) zb)))
   (ze (cn (gt (fG (zf Gb hr rfl mb Fb.kp bb .nil ac (za (zo zC (pv 1) zd (fun _ _=>rfl)) (za (zo zC (pv 1) zd (fun _ _=>rfl)) (za (zm zj rfl bl cp (za (pv 0) zb)) zb)))))) (zh (zr fC)) zJ)
   (ze (cn (gt (fG (zf Gb hr rfl mb Fb.kp bb .nil ac (za (zo zC (pv 1) zd (fun _ _=>rfl)) (za (zo zC (pv 1) zd (fun _ _=>rfl)) (za (zf Gw d rfl mw Fw.kp bw .nil ac (za (pv 0) zb)) zb)))))) (zh (zr fC)) zJ)
   (ze (cn (gt (fG (zf Ga d rfl ma Fa.kp ba .nil ac (za (zo zC (pv 1) zd (fun _ _=>rfl)) (za (zm (G4 rfl) rfl im JZ (za (zm zj rfl bl cp (za (pv 0) zb)) (za (zf Gw d rfl mw Fw.kp bw .nil ac (za (pv 0) zb)) zb))) zb))))) (zh (zr fC)) zJ)
   (ze (zq (i:=2) J6.nd rfl (Or.inl rfl) (zf Gr a rfl mr Fr.kp br .nil ac (za (zo zC (pv 1) zd (fun _ _=>rfl)) (za (zf Gc a rfl mc Fc.kp bc .nil ac (za (pv 0) zb)) zb))))
   (zh (zr (e_ (Dy aI) (zf Gr a rfl mr Fr.kp br .nil ac (za (pv 2) (za (zf Gc a rfl mc Fc.kp bc .nil ac (za (zo zC (pv 1) zd (fun _ _=>rfl)) zb)) zb))) (zf Go O rfl mo Fo.kp bo .nil ac (za (zo zC (pv 1) zd (fun _ _=>rfl)) (za (zm zj rfl bl cp (za (pv 0) zb)) (za (zf Gw d rfl mw Fw.kp bw .nil ac (za (pv 0) zb)) zb)))) (ar _)))))))),?_⟩
  have S:=z.len;refine⟨_,rfl,L,rs,tb,rfl,SqL.of l,z,it,fun H1 g=>?_⟩;refine⟨_,rfl,p,_,_,_,rfl,rfl,SqT.of (g _ _ hp),zi (j:=0) rfl,_,rfl,p,_,_,_,rfl,rfl,SqT.of (g _ _ hp),zi (j:=1) rfl,_,rfl,L,_,rfl,.inl (SqL.of (g _ _ l)),?_⟩;rw[Aa,S];refine⟨a1,a2,d1,d2,u,ub,tb.length,rfl,g _ _ h1,g _ _ h2,r1.same g,r2.same g,N,z2,t1,su.big,sub.big,fun H2 s2=>⟨_,rfl,?_⟩⟩;have b:=g.trans s2;cases c1:bP u ub tb.length with
  |false=>
   have e:dw tb u ub v vb st=false:=by unfold dw;rw[c1];rfl
   rw[e] at k;exact aA (k H2 b)
  |true=>
  refine az ⟨_,rfl,p,_,_,_,rfl,rfl,SqT.of (b _ _ hp),zi (j:=2) rfl,_,rfl,p,_,_,_,rfl,rfl,SqT.of (b _ _ hp),zi (j:=3) rfl,_,rfl,L,rs,tb,rfl,SqL.of (b _ _ l),z.same b,?_⟩;refine⟨a3,a4,d3,d4,v,vb,wid tb,rfl,b _ _ h3,b _ _ h4,r3.same b,r4.same b,z3,z4,t2,sv.big,svb.big,fun H3 s3=>⟨_,rfl,?_⟩⟩;have o:=b.trans s3;cases c2:bP v vb (wid tb) with
  |false=>
   have e:dw tb u ub v vb st=false:=by unfold dw;rw[c1,c2];rfl
   rw[e] at k;exact aA (k H3 o)
  |true=>
  refine az ⟨_,rfl,p,_,_,_,rfl,rfl,SqT.of (o _ _ hp),zi (j:=4) rfl,_,rfl,L,_,rfl,.inl (SqL.of (o _ _ l)),_,rfl,L,rs,tb,rfl,SqL.of (o _ _ l),z.same o,_,_,rfl,?_⟩;rw[Aa,S];refine⟨a5,st,_,rfl,o _ _ h5,z5,fun H4 s4=>⟨_,rfl,?_⟩⟩;have G:=o.trans s4;generalize hm:(if(wid tb:Int)<(tb.length:Int) then(wid tb:Int) else(tb.length:Int))=mi;have B_:mi<=wid tb/\mi<=tb.length:=by rw[<-hm];split<;>(first|lia|omega)
  have ek:dw tb u ub v vb st=(cx st mi&&decide (mulT (mulT u tb) v=slpT st tb.length (wid tb))):=by unfold dw;rw[c1,c2,hm];rfl
  rw[ek] at k;have yN:(if((wid tb:Nat):Int)<((tb.length:Nat):Int) then((wid tb:Nat):Int) else((tb.length:Nat):Int))=mi:=hm;cases c3:cx st mi with
  |false=>
   rw[c3] at k;exact aA (k H4 G)
  |true=>
  rw[c3] at k;have lst:=OM c3;obtain⟨lu,wu,_,_⟩:=DG c1;obtain⟨lv,wv,_,_⟩:=DG c2;obtain⟨v1,v2,v3⟩:=kS lv wv t2;refine az ⟨_,rfl,p,_,_,_,rfl,rfl,SqT.of (G _ _ hp),zi (j:=0) rfl,_,rfl,L,rs,tb,rfl,SqL.of (G _ _ l),z.same G,it,fun D H5 ds s5 hD dY rd _ _=>?_⟩;have T:=G.trans s5;refine⟨a1,D,d1,u,ds,turn tb,rfl,T _ _ h1,dY,r1.same T,rd,N,by rw[DF];(first|lia|omega),fun c hc=>⟨by rw[yE c hc];(first|lia|omega),fun r hr x hx y hy=>gH (su.big r hr x hx) (GD (s9.low.big) c hc y hy)⟩,fun E1 H6 es s6 hE iy re _ _=>?_⟩;have I:=T.trans s6;refine⟨_,rfl,_,rfl,p,_,_,_,rfl,rfl,SqT.of (I _ _ hp),zi (j:=2) rfl,a3,d3,v,rfl,SqL.of (I _ _ h3),r3.same I,v1,fun D2 H7 kx J cF mX vj _ _=>?_⟩;have i4:=I.trans J;refine⟨E1,D2,es,mulT u tb,kx,turn v,rfl,J _ _ iy,mX,re.same J,vj,by unfold mulT;rw[Aa];exact N,by rw[DF,v3];(first|lia|omega),fun c hc=>⟨by rw[yE c hc];exact z3,fun r hr x hx y hy=>gH ?_ (GD sv.big c hc y hy)⟩,fun E2 H8 gQ s8 qP xL gv _ _=>?_⟩
  ·unfold mulT at hr
   obtain⟨q,hq,rfl⟩:=List.mem_map.mp hr;obtain⟨cc,fI,rfl⟩:=List.mem_map.mp hx;exact J4 (su q hq) (kX s9 cc fI) (by rw[yE cc fI];exact t1)
  have C:=i4.trans s8;refine⟨_,rfl,p,_,_,_,rfl,rfl,SqT.of (C _ _ hp),zi (j:=4) rfl,_,rfl,L,_,rfl,.inl (SqL.of (C _ _ l)),_,rfl,L,rs,tb,rfl,SqL.of (C _ _ l),z.same C,?_⟩;rw[Aa,S];refine⟨a5,st,tb.length,wid tb,rfl,C _ _ h5,ω,ω,fun i _ hi=>ω,fun S1 H9 ss M hS tw sW _ _=>?_⟩;refine⟨aZ (mulT (mulT u tb) v),aZ (slpT st tb.length (wid tb)),dI (SqL.of (M _ _ xL)) (gv.same M),dI (SqL.of tw) sW,zW _,zW _,iF _ _,?_⟩;rw[Bool.true_and,<-gS] at k;exact k H9 (C.trans M)
end
abbrev DH:Stmt:=top 40
abbrev jQ:Stmt:=top 41
abbrev nu:Stmt:=top 42
structure iG(mg:Str->Option Value):Prop where
 len:mg "len"=none
 all:mg "all"=none
 zip:mg "zip"=none
 sum:mg "sum"=none
 range:mg "range"=none
 list:mg "list"=none
 int:mg "int"=none
 bool:mg "bool"=none
 isinstance:mg "isinstance"=none
 max:mg "max"=none
def J7(x y:Int):Prop:=0<=x/\(y=0\/(y=1/\x<4294967296))
def zR(H:Hp)(p:Addr):Prop:=∃x y,H p=some (.lst [.int x,.int y])/\J7 x y
def zZ(p:Addr)(H H':Hp):Prop:=∀b o,b≠p->H b=some o->H' b=some o
def zZ.trans{p:Addr}{H H1 H2:Hp}(a:zZ p H H1)(b:zZ p H1 H2):zZ p H H2:=fun c o hc e=>b c o hc (a c o hc e)
def zZ.of{p:Addr}{H H1:Hp}(a:Same H H1):zZ p H H1:=fun c o _ e=>a c o e
def zZ.free{p:Addr}{H H':Hp}(e:zZ p H H')(hb:zR H p)(b:zR H' p){l:Addr}(h:H' l=none):H l=none:=by
 cases q:H l with
 |none=>rfl
 |some o=>
  obtain⟨x,y,e1,_⟩:=b;have a:l≠p:=fun z=>by rw[z,e1] at h;cases h
  rw[e l o a q] at h;cases h
def zR.same{H H':Hp}{p:Addr}(b:zR H p)(e:Same H H'):zR H' p:=let ⟨x,y,h,o⟩:=b;⟨x,y,e _ _ h,o⟩
def zR.ne{H:Hp}{p l:Addr}{c:List Addr}(b:zR H p)(h:H l=some (.lst (c.map V.ref))):l≠p:=by
 obtain⟨x,y,e,_⟩:=b;refine DQ h e fun z=>?_;injection z with z
 cases c with
 |nil=>cases z
 |cons a r=>rw[AX] at z;cases z
def zR.net{H:Hp}{p t:Addr}{xs:List V}(b:zR H p)(h:H t=some (.tup xs)):t≠p:=by
 obtain⟨x,y,e,_⟩:=b;exact DQ h e (by intro z;cases z)
def zZ.tp{p:Addr}{H H':Hp}{a:Addr}{ps:List Int}(e:zZ p H H')(b:zR H p)(h:Tp H a ps):Tp H' a ps:=e _ _ (b.net h) h
def zZ.then{p:Addr}{H H1:Hp}{a:Addr}{o:HO}(e:zZ p H H1)(h:H a=none):zZ p H (L2.upd H1 a o):=fun b u hb q=>by rw[af (zk q h)];exact e b u hb q
def zR.upd{H:Hp}{p l:Addr}{o:HO}(b:zR H p)(h:l≠p):zR (L2.upd H l o) p:=let ⟨x,y,e,k⟩:=b;⟨x,y,by rw[af h.symm];exact e,k⟩
def zR.new{H:Hp}{p l:Addr}{o:HO}(b:zR H p)(h:H l=none):zR (L2.upd H l o) p:=b.same (Same.new h)
section
variable{P:Program}{w:World}{K:Ag}{mg:Str->Option Value}{base:Heap}
def J8(K:Ag):Sp:=fun vs H Q _=>∃(l:Addr)(ns:List Int)(j:Nat),vs=[.ref l,.int j]/\SqL K H l (ns.map V.int)/\∀n,Q (.int n) H
def OO:zp ["script","k"] ["script","k"] (zg DH):=⟨rfl,rfl,rfl,δ,rfl,δ,δ⟩
def OP{f:Addr}{fd:FuncData}(F:Fun K "_law_cell_at" "_law_cell_at" DH f fd)(B:iG mg):ai P w K mg base aw 1 f fd ["script","k"] (J8 K):=by
 refine F.ok OO (fun vs H Q E h=>?_) (fun c A outer s H vs Q E hr h=>?_)
 ·obtain⟨l,ns,j,rfl,_⟩:=h;rfl
 ·obtain⟨l,ns,j,rfl,a,k⟩:=h
  refine⟨_,ze (cn (zt sQ (pv 1) (zm zj rfl B.len cp (za (pv 0) zb)) (ar _)) (zh (zr (zo zn (pv 0) (pv 1) (fun _ _=>rfl)))) zJ) (zh (zr zd)),?_⟩;refine⟨_,rfl,_,rfl,l,_,rfl,.inl a,_,_,rfl,rfl,_,rfl,?_⟩;refine dE (fun h1=>?_) (fun h1=>?_)
  ·have b:j<ns.length:=by have:=of_decide_eq_true h1;simp at this;(first|lia|omega)
   exact⟨_,rfl,_,rfl,l,_,_,_,rfl,rfl,a,zi (j:=j) (v:=.int ns[j]) (by rw[Aj,Ab b];rfl),k _⟩
  ·exact k 0
def J9:Sp:=fun vs H Q _=>∃n,vs=[.int n]/\∀p x y,H p=none->J7 x y->Q (.ref p) (upd H p (.lst [.int x,.int y]))
def OQ:zp ["cell"] ["cell"] (zg jQ):=⟨rfl,rfl,rfl,δ,rfl,δ,δ⟩
def OR{f:Addr}{fd:FuncData}(F:Fun K "_law_box" "_law_box" jQ f fd):ai P w K mg base aw 1 f fd ["cell"] J9:=by
 refine F.ok OQ (fun vs H Q E h=>?_) (fun b A outer s H vs Q E hr h=>?_)
 ·obtain⟨n,rfl,_⟩:=h;rfl
 ·obtain⟨n,rfl,k⟩:=h
  refine⟨_,ze (cn (zt K8 (pv 0) (zA D9 zd zd) (ar _)) (zh (zr (dB (za (zA e8 (pv 0) (zA D9 zd zd)) (za zd zb))))) zJ)
   (zh (zr (dB (za (zA j' (zA fU (zA lj (zA j' (pv 0) (zA D9 zd zd)) zd) zd) zd) (za zd zb))))),?_⟩
  have hc:rS 10 18:=⟨ξ,ξ,ξ⟩;have a:(10:Int) ^ (18:Int).toNat=1000000000000000000:=ξ
  refine⟨_,rfl,_,_,rfl,rfl,hc,_,_,rfl,rfl,_,rfl,?_⟩;refine dE (fun h1=>?_) (fun h1=>?_)
  ·refine⟨_,rfl,_,_,rfl,rfl,hc,_,_,rfl,rfl,zv (by simp),fun p hp=>k p _ 0 hp ⟨?_,.inl rfl⟩⟩
   have:=of_decide_eq_true h1
   lia
  ·refine⟨_,rfl,_,_,rfl,rfl,hc,_,_,rfl,rfl,(by show(0:Int)<10 ^ (18:Int).toNat;rw[a];decide),_,_,rfl,rfl,.inr ⟨ξ,ξ⟩,_,_,rfl,rfl,_,_,rfl,rfl,(by show(0:Int)<2147483629;decide),zv (by simp),fun p hp=>k p _ 1 hp ⟨?_,.inr ⟨rfl,?_⟩⟩⟩
   ·exact Int.emod_nonneg _ ξ
   ·have:=Int.emod_lt_of_pos (n%10 ^ (18:Int).toNat*69621+7001) (show(0:Int)<2147483629 from ξ)
    lia
def qI:Sp:=fun vs H Q _=>∃p m,vs=[.ref p,.int m]/\zR H p/\0<m/\m<1073741824/\∀r H',0<=r->r<m->zZ p H H'->zR H' p->Q (.int r) H'
def GF:zp ["box","most","found","mixed"] ["box","most"] (zg nu):=⟨rfl,rfl,rfl,δ,rfl,δ,δ⟩
def DI{f:Addr}{fd:FuncData}(F:Fun K "_law_take" "_law_take" nu f fd):ai P w K mg base aw 1 f fd ["box","most"] qI:=by
 refine F.ok GF (fun vs H Q E h=>?_) (fun J A outer s H vs Q E hr h=>?_)
 ·obtain⟨p,m,rfl,_⟩:=h;rfl
 ·obtain⟨p,m,rfl,⟨x,y,hp,d,g⟩,a,D,k⟩:=h
  refine⟨_,ze (cn (zt dz (zo zn (pv 0) zd (fun _ _=>rfl)) zd (ar _))
    (ze (zq (i:=2) GF.nd rfl (Or.inl rfl) (zA j' (zo zn (pv 0) zd (fun _ _=>rfl)) (pv 1)))
    (ze (gB (zA D8 (zo zn (pv 0) zd (fun _ _=>rfl)) (pv 1)) (gz (pv 0) zd set_list))
    (zh (zr (pv 2))))) zJ)
   (ze (zq (i:=3) GF.nd rfl (Or.inl rfl) (zA j' (zA fU (zA fU (zA lj (zo zn (pv 0) zd (fun _ _=>rfl)) (zo zn (pv 0) zd (fun _ _=>rfl))) (zA lj zd (zo zn (pv 0) zd (fun _ _=>rfl)))) zd) zd))
   (ze (gB (zA j' (zA fU (zA fU (zA lj (pv 3) (pv 3)) (zA lj zd (pv 3))) zd) zd) (gz (pv 0) zd set_list))
   (zh (zr (zA j' (zA D8 (zo zn (pv 0) zd (fun _ _=>rfl)) zd) (pv 1)))))),?_⟩
  have c:atI ([.int x,.int y]:List V) 0=some (.int x):=zi (j:=0) rfl;have a1:atI ([.int x,.int y]:List V) 1=some (.int y):=zi (j:=1) rfl;refine⟨_,rfl,p,_,_,_,rfl,rfl,SqL.of hp,a1,rfl,_,rfl,?_⟩;refine dE (fun h1=>?_) (fun h1=>?_)
  ·refine⟨_,rfl,p,_,_,_,rfl,rfl,SqL.of hp,c,_,rfl,_,_,rfl,rfl,a,?_⟩
   refine⟨_,rfl,p,_,_,_,rfl,rfl,SqL.of hp,c,_,rfl,_,_,rfl,rfl,⟨a,D⟩,_,rfl,p,_,_,0,rfl,rfl,hp,rfl,?_⟩;refine⟨_,rfl,k (x%m) _ (Int.emod_nonneg _ (by lia)) (Int.emod_lt_of_pos _ a) (fun b o hb e=>by rw[af hb];exact e) ⟨x / m,y,zc,Int.ediv_nonneg d (by lia),?_⟩⟩;rcases g with q|⟨q,hx⟩
   ·exact .inl q
   ·refine .inr ⟨q,Int.lt_of_le_of_lt (Int.ediv_le_self _ d) hx⟩
  ·have hy:y=1/\x<4294967296:=by
    rcases g with q|q
    ·exact absurd (by subst q;rfl) h1
    ·exact q
   obtain⟨rfl,hx⟩:=hy;have hb:CMul x x:=.inl ⟨by lia,by lia⟩;refine⟨_,rfl,p,_,_,_,rfl,rfl,SqL.of hp,c,_,rfl,p,_,_,_,rfl,rfl,SqL.of hp,c,_,_,rfl,rfl,hb,_,rfl,p,_,_,_,rfl,rfl,SqL.of hp,c,_,_,rfl,rfl,.inl ⟨ξ,ξ⟩,_,_,rfl,rfl,_,_,rfl,rfl,_,_,rfl,rfl,(by show(0:Int)<2147483647;decide),?_⟩;have G:=Int.emod_nonneg (x*x+39373*x+12345) (show(2147483647:Int)≠0 from ξ);have I:=Int.emod_lt_of_pos (x*x+39373*x+12345) (show(0:Int)<2147483647 from ξ);obtain⟨z,l⟩:∃z,z=(x*x+39373*x+12345)%2147483647:=⟨_,rfl⟩;rw[<-l] at G I;show ro _ _ _ ([some (.ref p),some (.int m),none,some (.int ((x*x+39373*x+12345)%2147483647))]:St) H;rw[<-l];refine⟨_,rfl,_,rfl,_,_,rfl,rfl,.inl ⟨by lia,by lia⟩,_,rfl,_,_,rfl,rfl,.inl ⟨ξ,ξ⟩,_,_,rfl,rfl,_,_,rfl,rfl,_,_,rfl,rfl,(by show(0:Int)<2147483587;decide),_,rfl,p,_,_,0,rfl,rfl,hp,rfl,?_⟩;have v:=Int.emod_nonneg (z*z+16807*z+7) (show(2147483587:Int)≠0 from ξ);have g1:=Int.emod_lt_of_pos (z*z+16807*z+7) (show(0:Int)<2147483587 from ξ);obtain⟨u,r⟩:∃u,u=(z*z+16807*z+7)%2147483587:=⟨_,rfl⟩;rw[<-r] at v g1;have C:upd H p (.lst [.int ((z*z+16807*z+7)%2147483587),.int 1]) p=some (.lst [.int u,.int 1]):=by rw[r];exact zc
   refine⟨_,rfl,p,_,_,_,rfl,rfl,SqL.of C,zi (j:=0) rfl,_,_,rfl,rfl,⟨ξ,ξ⟩,_,rfl,_,_,rfl,rfl,a,?_⟩;exact k _ _ (Int.emod_nonneg _ (by lia)) (Int.emod_lt_of_pos _ a) (fun b o hb e=>by rw[af hb];exact e) ⟨u,1,C,v,.inr ⟨rfl,by lia⟩⟩
end
abbrev iH:Stmt:=top 43
abbrev jU:Stmt:=top 44
section
variable{P:Program}{w:World}{K:Ag}{mg:Str->Option Value}{base:Heap}
def Bnd(m:Int)(ns:List Int):Prop:=∀n∈ns,-m<=n/\n<=m
def GG:Sp:=fun vs H Q _=>∃(p:Addr)(c:Nat)(a:Int),vs=[.ref p,.int c,.int a]/\zR H p/\c<=1000/\0<a/\a<1073741824/\∀D H' ns,zZ p H H'->zR H' p->H D=none->H' D=some (.lst (ns.map V.int))->ns.length=c->Bnd a ns->Q (.ref D) H'
def OS:zp ["box","columns","wide"] ["box","columns","wide"] (zg iH):=⟨rfl,rfl,rfl,δ,rfl,δ,δ⟩
def J_{f G:Addr}{fd I:FuncData}(F:Fun K "_law_row" "_law_row" iH f fd)(B:iG mg)(Ft:Fun K "_law_take" "_law_take" nu G I)(bt:Binds K I ["box","most"] [])(mt:mg "_law_take"=some (.ref G)):ai P w K mg base aw 2 f fd ["box","columns","wide"] GG:=by
 have U:ai P w K mg base aw 1 G I ["box","most"] qI:=DI Ft;refine F.ok OS (fun vs H Q E h=>?_) (fun W A outer s H vs Q E hr h=>?_)
 ·obtain⟨p,c,d,rfl,_⟩:=h;rfl
 ·obtain⟨p,c,d,rfl,hb,hc,O,S,k⟩:=h
  refine⟨_,zh (zr (zu ["box","columns","wide"] ["place","box","wide"] [none,some 0,some 2] (g_ rfl B.range (za (pv 1) zb)) (fun J C s₀ H₀ ex=>zl (i:=0) (bI ["place","box","wide"]) rfl (Or.inl rfl)) (fun J C s₀ H₀ ex=>zy)
   (fun J C s₀ H₀ ex=>zA e8 (zf U hr rfl mt Ft.kp bt .nil ac (za (pv 1) (za (pv 2) zb))) (zA D8 (pv 2) zd)) (te:=bQ (fS fun i j=>.int (i-j)) (hV qI [] E0 (ca (av 1) (ca (av 2) bK))) (bQ (rI rR fun i j=>.int (i / j)) (av 2) (tC (.int 2)))) (hfr:=bB (zg iH) δ))),?_⟩
  refine⟨_,rfl,_,rfl,ω,ω,fun D l=>?_⟩;have M:D≠p:=fun z=>by obtain⟨x,y,e,_⟩:=hb;rw[<-z,l] at e;cases e
  refine zx (oI (fun j σ ys g=>∃(v:Option V)(ns:List Int),σ=[v,some (.ref p),some (.int d)]/\zZ p H g/\zR g p/\g D=some (.lst ys)/\ys=ns.map V.int/\ns.length=j/\Bnd d ns) ?_ ?_ ?_)
  ·exact⟨none,[],rfl,.of (Same.new l),hb.new l,zc,rfl,rfl,fun n o=>by cases o⟩
  ·rintro j σ ys g T hy ⟨v,ns,rfl,q,a,b,rfl,u,bd⟩
   refine cL ?_;refine⟨_,rfl,_,rfl,p,d,rfl,a,O,S,fun r Z X Y L N=>⟨_,rfl,_,_,rfl,rfl,⟨ξ,ξ⟩,_,_,rfl,rfl,?_⟩⟩;refine bN (zv ω) T hy (L _ _ M b) ⟨_,ns++[r-d / 2],rfl,(q.trans L).then l,N.upd M,zc,by simp,by simp[u],fun n o=>?_⟩;rcases List.mem_append.mp o with h|h
   ·exact bd n h
   ·obtain rfl:n=r-d / 2:=by simpa using h
    (first|lia|omega)
  ·rintro σ ys g ⟨v,ns,rfl,q,a,b,rfl,u,bd⟩
   exact k D g ns q a l b u bd
end
def Rws.sameB{p:Addr}{H H':Hp}{ds:List Addr}{tb:Ξ}(h:Rws H ds tb)(s:zZ p H H'):(∀d∈ds,d≠p)->Rws H' ds tb:=by
 induction h with
 |nil=>intro _;exact .nil
 |cons r t ih=>intro n;exact .cons (s _ _ (n _ (Aq)) r) (ih fun d hd=>n d (Ao _ hd))
def Rws.set{H:Hp}{ds:List Addr}{tb:Ξ}{d:Addr}{ns:List Int}(h:Rws H ds tb)(e:H d=some (.lst (ns.map V.int))):∀i:Nat,Rws H (ds.set i d) (tb.set i ns):=by
 induction h with
 |nil=>intro i;exact .nil
 |cons r t ih=>
  intro i;cases i with
  |zero=>exact .cons e t
  |succ i=>exact .cons r (ih i)
section
variable{P:Program}{w:World}{K:Ag}{mg:Str->Option Value}{base:Heap}
def OT{p D:Addr}{H2:Hp}{n:Nat}{Q:VK}{Pr:List Int->Prop}{te:TE}{c:List (Option V)}(hb:zR H2 p)(J:∀(j:Nat)(H:Hp)(R:VK),zZ p H2 H->zR H p->(∀d H' ns,zZ p H H'->zR H' p->H d=none->H' d=some (.lst (ns.map V.int))->Pr ns->R (.ref d) H')->te (some (.int j)::c) H R)(hz:n<=1000)(q:H2 D=none)(k:∀a ds tb,zZ p H2 a->zR a p->a D=some (.lst (ds.map V.ref))->Rws a ds tb->tb.length=n->(∀r∈tb,Pr r)->(∀d∈ds,H2 d=none/\d≠D)->Q (.ref D) a):cH (fO 0 n) (zL 0) bM te (none::c) H2 D Q:=by
 have l:∀d,H2 d=none->d≠p:=fun d e z=>by obtain⟨x,y,e',_⟩:=hb;rw[<-z,e] at e';cases e'
 have A:=l D q;refine oI (fun j σ ys a=>∃(v:Option V)(ds:List Addr)(tb:Ξ),σ=v::c/\zZ p H2 a/\zR a p/\a D=some (.lst ys)/\ys=ds.map V.ref/\Rws a ds tb/\tb.length=j/\(∀r∈tb,Pr r)/\∀d∈ds,H2 d=none/\d≠D) ?_ ?_ ?_
 ·exact⟨none,[],[],rfl,.of (Same.new q),hb.new q,zc,rfl,.nil,rfl,(fun d hd=>by cases hd),fun d hd=>by cases hd⟩
 ·rintro j σ ys a G hy ⟨v,ds,tb,rfl,i,b,f,rfl,hr,u,hp,o⟩
  refine cL ?_;rw[show(0:Int)+((j:Nat):Int)=((j:Nat):Int) from ω];refine J j a _ i b fun d L ns s C hd E pr=>?_;have I:H2 d=none:=i.free hb b hd;have w:d≠D:=fun z=>by rw[z,f] at hd;cases hd
  have all:∀e∈ds++[d],H2 e=none/\e≠D:=fun e g=>by
   rcases List.mem_append.mp g with h|h
   ·exact o e h
   ·obtain rfl:e=d:=by simpa using h
    exact⟨I,w⟩
  refine bN (zv ω) G hy (s _ _ A f) ⟨_,ds++[d],tb++[ns],rfl,(i.trans s).then q,C.upd A,zc,by simp,?_,by simp[u],fun r F=>?_,all⟩
  ·exact((hr.sameB s fun e g=>l e (o e g).1).snoc E).upd fun e g=>(all e g).2
  ·rcases List.mem_append.mp F with h|h
   ·exact hp r h
   ·obtain rfl:r=ns:=by simpa using h
    exact pr
 ·rintro σ ys a ⟨v,ds,tb,rfl,i,b,f,rfl,hr,u,hp,o⟩
  exact k a ds tb i b f hr u hp o
abbrev nB:TE:=bQ (rI CMul fun i j=>.int (i*j)) (av 1) (av 0)
def J'{R D:Addr}{H2:Hp}{ns:List Int}{o:Int}{Q:VK}(e:-(2 ^ 64)<o/\o<2 ^ 64)(f:H2 R=some (.lst (ns.map V.int)))(hz:ns.length<=1000)(c:H2 D=none)(k:∀a,Same H2 a->a D=some (.lst ((ns.map (o*·)).map V.int))->Q (.ref D) a):cH (fL K R) (zL 0) bM nB [none,some (.int o)] H2 D Q:=by
 refine l5 (xs:=ns.map V.int) (fun j σ ys a=>∃(v:Option V),σ=[v,some (.int o)]/\Same H2 a/\a D=some (.lst ys)/\ys=((ns.take j).map (o*·)).map V.int) ?_ ?_ ?_ ?_
 ·exact⟨none,rfl,Same.new c,zc,rfl⟩
 ·rintro j σ ys a ⟨v,rfl,sm,_⟩
  exact SqL.of (sm _ _ f)
 ·rintro j σ ys a x hx d hy ⟨v,rfl,sm,b,rfl⟩
  obtain⟨q,g,rfl⟩:=ie hx;refine cL ?_;refine⟨_,rfl,_,rfl,_,_,rfl,rfl,.inl e,bN (by rw[Aa];exact zv ω) d hy b ⟨_,rfl,sm.then c,zc,?_⟩⟩;rw[Bk g,At,At]
  rfl
 ·rintro σ ys a ⟨v,rfl,sm,b,rfl⟩
  rw[Aa,Ar (Ad _)] at b;exact k a sm b
end
def TabB(H0:Hp)(p F:Addr)(c n:Nat)(m:Int)(H':Hp):Prop:=∃ds tb,zZ p H0 H'/\zR H' p/\H' F=some (.lst (ds.map V.ref))/\Rws H' ds tb/\tb.length=n/\(∀r∈tb,r.length=c/\Bnd m r)/\(∀d∈ds,H0 d=none/\d≠F)/\H0 F=none
def zU{H:Hp}{p d:Addr}(hb:zR H p)(e:H d=none):d≠p:=fun z=>by obtain⟨x,y,e',_⟩:=hb;rw[<-z,e] at e';cases e'
def TabB.draw{H0 H' a:Hp}{p F:Addr}{c n:Nat}{m:Int}(hb:zR H0 p)(h:TabB H0 p F c n m H')(s:zZ p H' a)(b:zR a p):TabB H0 p F c n m a:=by
 obtain⟨ds,tb,g,_,i,hr,j,hp,e,f⟩:=h;exact⟨ds,tb,g.trans s,b,s _ _ (zU hb f) i,hr.sameB s fun d hd=>zU hb (e d hd).1,j,hp,e,f⟩
def Bnd.mono{m a:Int}{ns:List Int}(h:Bnd m ns)(c:m<=a):Bnd a ns:=fun n b=>by have:=h n b;(first|lia|omega)
def Bnd.times{m k o:Int}{ns:List Int}(h:Bnd m ns)(d:0<=m)(h1:-k<=o)(h2:o<=k):Bnd (k*m) (ns.map (o*·)):=fun n c=>by
 obtain⟨q,hq,rfl⟩:=List.mem_map.mp c;obtain⟨e,f⟩:=h q hq;have hk:0<=k:=ω
 have e1:o.natAbs<=k.natAbs:=ω
 have e2:q.natAbs<=m.natAbs:=ω
 have e3:(o*q).natAbs<=(k*m).natAbs:=by rw[AJ,AJ];exact AO e1 e2
 have g:0<=k*m:=Int.mul_nonneg hk d;show -(k*m)<=o*q/\o*q<=k*m;generalize o*q=a at *;generalize k*m=b at *;(first|lia|omega)
def TabB.put{H0 H' q:Hp}{p F D:Addr}{c n:Nat}{m g:Int}{ds:List Addr}{tb:Ξ}{i:Nat}{ns:List Int}(hb:zR H0 p)(s:zZ p H0 H')(u:zR H' p)(A:H' F=some (.lst (ds.map V.ref)))(hr:Rws H' ds tb)(C:tb.length=n)(hp:∀r∈tb,r.length=c/\Bnd m r)(E:∀d∈ds,H0 d=none/\d≠F)(j:H0 F=none)(l:H' D=none)(sm:Same H' q)(e:q D=some (.lst (ns.map V.int)))(G:ns.length=c)(H:Bnd g ns)(I:m<=g):TabB H0 p F c n g (L2.upd q F (.lst ((ds.map V.ref).set i (.ref D)))):=by
 have x:=zU hb j;have y:D≠F:=fun z=>by rw[z,A] at l;cases l
 have f:H0 D=none:=s.free hb u l;have mem:∀d∈ds.set i D,H0 d=none/\d≠F:=fun d hd=>by
  rcases List.mem_or_eq_of_mem_set hd with h|h
  ·exact E d h
  ·rw[h];exact⟨f,y⟩
 refine⟨ds.set i D,tb.set i ns,fun b o v a=>?_,(u.same sm).upd x,?_,((hr.same sm).set e i).upd fun d hd=>(mem d hd).2,by simp[C],fun r w=>?_,mem,j⟩
 ·rw[af (fun z=>by rw[z,j] at a;cases a)]
  exact sm _ _ (s b o v a)
 ·rw[zc,List.map_set]
 ·rcases List.mem_or_eq_of_mem_set w with h|h
  ·exact⟨(hp r h).1,(hp r h).2.mono I⟩
  ·rw[h];exact⟨G,H⟩
def yJ{n:Nat}{k:Int}(a:0<=k)(h1:k<n):gF n k=some k.toNat:=by unfold gF;rw[if_pos a,if_pos h1]
def Ka{a:Type}{xs:List a}{k:Int}{v:a}(b:0<=k)(h1:k<xs.length)(e:xs[k.toNat]?=some v):atI xs k=some v:=by unfold atI;rw[yJ b h1];exact e
section
variable{P:Program}{w:World}{K:Ag}{mg:Str->Option Value}{base:Heap}
def Kb:Sp:=fun vs H Q _=>∃(p:Addr)(q:Nat),vs=[.ref p,.int q]/\q<=6/\zR H p/\∀F H' c n,c<=q->n<=q->TabB H p F c n 1000 H'->Q (.ref F) H'
def je:zp ["box","most","rows","columns","wide","found","one","other","often"] ["box","most"] (zg jU):=⟨rfl,rfl,rfl,δ,rfl,δ,δ⟩
def OU{f ft fr:Addr}{fd bG cj:FuncData}(F:Fun K "_law_table" "_law_table" jU f fd)(B:iG mg)(Ft:Fun K "_law_take" "_law_take" nu ft bG)(bt:Binds K bG ["box","most"] [])(mt:mg "_law_take"=some (.ref ft))(Fr:Fun K "_law_row" "_law_row" iH fr cj)(br:Binds K cj ["box","columns","wide"] [])(mr:mg "_law_row"=some (.ref fr)):ai P w K mg base aw 3 f fd ["box","most"] Kb:=by
 have z:ai P w K mg base aw 1 ft bG ["box","most"] qI:=DI Ft;have Gr:ai P w K mg base aw 2 fr cj ["box","columns","wide"] GG:=J_ Fr B Ft bt mt;refine F.ok je (fun vs H Q E h=>?_) (fun ak A outer s H vs Q E hr h=>?_)
 ·obtain⟨p,q,rfl,_⟩:=h;rfl
 ·obtain⟨p,q,rfl,BZ,hb,k⟩:=h
  have a:Room 1 _:=hr.mono ξ;have mE:∃tt,PSs (cf aw P w K mg base ["box","most","rows","columns","wide","found","one","other","often"] "_law_table" (zg jU) f ak A outer s H E).nox (List.drop 5 (zag jU)) tt/\∀(e:Addr)(n c:Nat)(x4 v6 v7 v8:Option V)(H':Hp),n<=q->c<=q->TabB H p e c n 122 H'->
    tt {nx:=fun _ H'=>Q .non H',rt:=Q} [some (.ref p),some (.int q),some (.int n),some (.int c),x4,some (.ref e),v6,v7,v8] H':=by
   refine⟨_,(ze (cn (PW.pt (j0 (zt hH (pv 2) zd (ar _)) (jX (zt dz (zf z a rfl mt Ft.kp bt .nil ac (za (pv 0) (za zd zb))) zd (ar _)))))
    (ze (zq (i:=6) je.nd rfl (Or.inl rfl) (zf z a rfl mt Ft.kp bt .nil ac (za (pv 0) (za (pv 2) zb))))
    (ze (zq (i:=8) je.nd rfl (Or.inr rfl) (zA fU zd (zf z a rfl mt Ft.kp bt .nil ac (za (pv 0) (za zd zb)))))
    (zh (gB (zu ["box","most","rows","columns","wide","found","one","other","often"] ["number","often"] [none,some 8] (zI (zo zn (pv 5) (pv 6) (fun _ _=>rfl))) (fun I C s₀ H₀ ex=>zl (i:=0) (bI ["number","often"]) rfl (Or.inl rfl)) (fun I C s₀ H₀ ex=>zy)
     (fun I C s₀ H₀ ex=>zA lj (pv 1) (pv 0)) (te:=nB) (hfr:=bB (zg jU) δ)) (gz (pv 5) (pv 6) set_list))))) zJ)
    (zh (zr (pv 5)))),?_⟩
   intro e n c x4 v6 v7 v8 H' hn hc T;have bj:zR H' p:=by obtain⟨_,_,_,b,_⟩:=T;exact b
   refine⟨_,rfl,_,_,rfl,rfl,_,rfl,?_⟩
   by_cases c1:0<n
   ·rw[decide_eq_true (show(0:Int)<(n:Int) from ω)]
    refine aA ⟨_,rfl,p,_,rfl,bj,ξ,ξ,fun u H1 u0 u1 fH Y=>⟨rfl,_,rfl,?_⟩⟩;have T1:=T.draw hb fH Y;refine dE (fun _=>?_) (fun _=>?_)
    ·refine⟨_,rfl,_,rfl,p,_,rfl,Y,ω,ω,fun i H2 Z i1 iI S=>?_⟩
     refine⟨_,rfl,p,_,rfl,S,ξ,ξ,fun o H3 o0 o1 c8 l=>⟨_,_,rfl,rfl,?_⟩⟩;obtain⟨ds,tb,L,M,y,x,G,hp,g,N⟩:=(T1.draw hb iI S).draw hb c8 l;have f_:=x.len;have hi:i.toNat<ds.length:=ω
     obtain⟨ns,en,X⟩:=x.get (Ab hi);have O:=Ak en;refine⟨_,rfl,_,rfl,e,_,_,_,rfl,rfl,SqL.of y,Ka (v:=.ref ds[i.toNat]) Z (by rw[Aa];(first|lia|omega)) (by rw[Aj,Ab hi];rfl),_,rfl,⟨_,SqL.of X⟩,fun D U=>?_⟩;refine zx (J' (o:=1+o) ⟨ω,ω⟩ X (by rw[(hp ns O).1];(first|lia|omega)) U fun H4 aD b_=>?_);refine⟨_,rfl,_,rfl,e,_,_,i.toNat,rfl,rfl,aD _ _ y,yJ Z (by rw[Aa];(first|lia|omega)),?_⟩;refine⟨_,rfl,k e _ c n hc hn ?_⟩;exact TabB.put hb L M y x G hp g N U aD b_ (by rw[Aa];exact(hp ns O).1) (((hp ns O).2.times (k:=6) ω ω ω).mono ω) ω
    ·obtain⟨ds,tb,L,M,y,x,G,hp,g,N⟩:=T1
     exact⟨_,rfl,k e _ c n hc hn ⟨ds,tb,L,M,y,x,G,fun r J=>⟨(hp r J).1,(hp r J).2.mono ω⟩,g,N⟩⟩
   ·rw[decide_eq_false (show ¬(0:Int)<(n:Int) from ω)]
    refine az (az ?_);obtain⟨ds,tb,L,M,y,x,G,hp,g,N⟩:=T;exact⟨_,rfl,k e _ c n hc hn ⟨ds,tb,L,M,y,x,G,fun r J=>⟨(hp r J).1,(hp r J).2.mono ω⟩,g,N⟩⟩
  obtain⟨tt,ht,kt⟩:=mE;refine⟨_,ze (zq (i:=2) je.nd rfl (Or.inl rfl) (zf z a rfl mt Ft.kp bt .nil ac (za (pv 0) (za (zA fU (pv 1) zd) zb))))
   (ze (zq (i:=3) je.nd rfl (Or.inr rfl) (zf z a rfl mt Ft.kp bt .nil ac (za (pv 0) (za (zA fU (pv 1) zd) zb))))
   (ze (zq (i:=4) je.nd rfl (Or.inr rfl) (zo zn (dB (za zd (za zd (za zd (za zd zb))))) (zf z a rfl mt Ft.kp bt .nil ac (za (pv 0) (za zd zb))) (fun _ _=>rfl)))
   (ze (CV (i:=5) je.nd rfl (Or.inl rfl) ["box","most","rows","columns","wide","found","one","other","often"] ["row","box","columns","wide"] [none,some 0,some 3,some 4] (g_ rfl B.range (za (pv 2) zb)) (fun I C s₀ H₀ ex=>zl (i:=0) (bI ["row","box","columns","wide"]) rfl (Or.inl rfl)) (fun I C s₀ H₀ ex=>zy)
    (fun I C s₀ H₀ ex=>zf Gr hr rfl mr Fr.kp br .nil ac (za (pv 1) (za (pv 2) (za (pv 3) zb)))) (te:=hV GG [] E0 (ca (av 1) (ca (av 2) (ca (av 3) bK)))) (hfr:=bB (zg jU) δ))
   (ze (cn (PW.pt (j0 (zt hH (pv 2) zd (ar _)) (jX (zt dz (zf z a rfl mt Ft.kp bt .nil ac (za (pv 0) (za zd zb))) zd (ar _)))))
    (ze (zq (i:=6) je.nd rfl (Or.inl rfl) (zf z a rfl mt Ft.kp bt .nil ac (za (pv 0) (za (pv 2) zb))))
    (ze (zq (i:=7) je.nd rfl (Or.inl rfl) (zf z a rfl mt Ft.kp bt .nil ac (za (pv 0) (za (pv 2) zb))))
    (ze (zq (i:=8) je.nd rfl (Or.inr rfl) (zA e8 (zf z a rfl mt Ft.kp bt .nil ac (za (pv 0) (za zd zb))) zd))
    (zh (gB (zu ["box","most","rows","columns","wide","found","one","other","often"] ["number","often"] [none,some 8] (zI (zo zn (pv 5) (pv 7) (fun _ _=>rfl))) (fun I C s₀ H₀ ex=>zl (i:=0) (bI ["number","often"]) rfl (Or.inl rfl)) (fun I C s₀ H₀ ex=>zy)
     (fun I C s₀ H₀ ex=>zA lj (pv 1) (pv 0)) (te:=nB) (hfr:=bB (zg jU) δ)) (gz (pv 5) (pv 6) set_list)))))) zJ)
   ht)))),?_⟩
  refine⟨_,rfl,_,rfl,_,_,rfl,rfl,p,_,rfl,hb,ω,ω,fun n H1 n0 n1 fH Y=>?_⟩;refine⟨_,rfl,_,rfl,_,_,rfl,rfl,p,_,rfl,Y,ω,ω,fun c H2 c0 c1 iI S=>?_⟩;refine⟨ξ,fun q hq=>⟨_,rfl,p,_,rfl,S.new hq,ξ,ξ,fun v H3 v0 v1 c8 l=>?_⟩⟩;obtain⟨n,rfl⟩:∃m:Nat,n=(m:Int):=⟨n.toNat,ω⟩;obtain⟨c,rfl⟩:∃m:Nat,c=(m:Int):=⟨c.toNat,ω⟩;obtain⟨W,ew,w0,w1⟩:∃W:Int,atI [V.int 3,.int 5,.int 13,.int 61] v=some (.int W)/\0<W/\W<=61:=by
   have:v=0\/v=1\/v=2\/v=3:=ω
   rcases this with rfl|rfl|rfl|rfl
   ·exact⟨3,rfl,ξ,ξ⟩
   ·exact⟨5,rfl,ξ,ξ⟩
   ·exact⟨13,rfl,ξ,ξ⟩
   ·exact⟨61,rfl,ξ,ξ⟩
  refine⟨q,_,_,_,rfl,rfl,SqL.of (c8 _ _ (zU S hq) zc),ew,?_⟩;have S3:zZ p H H3:=((fH.trans iI).trans (.of (Same.new hq))).trans c8;refine⟨_,rfl,_,rfl,ω,ω,fun e y=>?_⟩;refine zx (OT (p:=p) (n:=n) (Pr:=fun ns=>ns.length=c/\Bnd 61 ns) l (fun j H' R L bj hR=>⟨_,rfl,_,rfl,_,rfl,p,c,W,rfl,bj,ω,w0,ω,fun d H4 ns cR cm hd e4 G bd=>hR d H4 ns cR cm hd e4 ⟨G,bd.mono w1⟩⟩) ω y fun H4 ds tb cR cm ii dA yz w9 jT=>?_);have T4:TabB H p e c n 61 H4:=⟨ds,tb,S3.trans cR,cm,ii,dA,yz,w9,fun d hd=>⟨S3.free hb l (jT d hd).1,(jT d hd).2⟩,S3.free hb l y⟩;have up:∀H',TabB H p e c n 61 H'->TabB H p e c n 122 H':=fun H' ⟨ds,tb,a1,a2,a3,a4,a5,a6,a7,a8⟩=>⟨ds,tb,a1,a2,a3,a4,a5,fun r J=>⟨(a6 r J).1,(a6 r J).2.mono ω⟩,a7,a8⟩;refine⟨_,rfl,_,_,rfl,rfl,_,rfl,?_⟩
  by_cases c1':1<n
  ·rw[decide_eq_true (show(1:Int)<(n:Int) from ω)]
   refine aA ⟨_,rfl,p,_,rfl,cm,ξ,ξ,fun u H5 u0 u1 kZ cT=>⟨rfl,_,rfl,?_⟩⟩;have T5:=T4.draw hb kZ cT;refine dE (fun _=>?_) (fun _=>?_)
   ·refine⟨_,rfl,_,rfl,p,_,rfl,cT,ω,ω,fun i H6 Z i1 gs io=>?_⟩
    refine⟨_,rfl,_,rfl,p,_,rfl,io,ω,ω,fun o H7 o0 o1 xR jN=>?_⟩;refine⟨_,rfl,p,_,rfl,jN,ξ,ξ,fun t H8 t0 t1 lg oX=>⟨_,_,rfl,rfl,?_⟩⟩;obtain⟨ds,tb,L,M,l4,x,G,hp,g,N⟩:=((T5.draw hb gs io).draw hb xR jN).draw hb lg oX;have f_:=x.len;have hi:o.toNat<ds.length:=ω
    obtain⟨ns,en,X⟩:=x.get (Ab hi);have O:=Ak en;refine⟨_,rfl,_,rfl,e,_,_,_,rfl,rfl,SqL.of l4,Ka (v:=.ref ds[o.toNat]) o0 (by rw[Aa];(first|lia|omega)) (by rw[Aj,Ab hi];rfl),_,rfl,⟨_,SqL.of X⟩,fun D U=>?_⟩;refine zx (J' (o:=t-2) ⟨ω,ω⟩ X (by rw[(hp ns O).1];(first|lia|omega)) U fun H9 qv tH=>?_);refine⟨_,rfl,_,rfl,e,_,_,i.toNat,rfl,rfl,qv _ _ l4,yJ Z (by rw[Aa];(first|lia|omega)),?_⟩;exact kt e n c _ _ _ _ _ ω ω (TabB.put hb L M l4 x G hp g N U qv tH (by rw[Aa];exact(hp ns O).1) (((hp ns O).2.times (k:=2) ω ω ω).mono ω) ω)
   ·exact kt e n c _ _ _ _ _ ω ω (up _ T5)
  ·rw[decide_eq_false (show ¬(1:Int)<(n:Int) from ω)]
   exact az (az (kt e n c _ _ _ _ _ ω ω (up _ T4)))
end
abbrev yK:Stmt:=top 45
def OV:A8 "int"=some (.type "int"):=δ
def OW:A8 "bool"=some (.type "bool"):=δ
def nD:A8 "list"=some (.type "list"):=δ
section
variable{P:Program}{w:World}{K:Ag}{mg:Str->Option Value}{base:Heap}
def GH(K:Ag):Sp:=fun vs H Q _=>∃L rs tb,vs=[.ref L]/\SqL K H L (rs.map V.ref)/\Rws H rs tb/\∀H',Same H H'->Q (.int (wid tb)) H'
def OX:zp ["table"] ["table"] (zg yK):=⟨rfl,rfl,rfl,δ,rfl,δ,δ⟩
def Kc{f:Addr}{fd:FuncData}(F:Fun K "_law_wide" "_law_wide" yK f fd)(B:iG mg):ai P w K mg base aw 1 f fd ["table"] (GH K):=by
 refine F.ok OX (fun vs H Q E h=>?_) (fun o A outer s H vs Q E hr h=>?_)
 ·obtain⟨L,rs,tb,rfl,_⟩:=h;rfl
 ·obtain⟨L,rs,tb,rfl,c,b,k⟩:=h
  have i:=hr.units;refine⟨_,zh (zr (n7 (zt (qA i) (pv 0) (dB zb) (ar _)) (zm zj rfl B.len cp (za (zo zn (pv 0) zd (fun _ _=>rfl)) zb)) zd)),?_⟩;refine⟨_,rfl,ξ,fun p hp=>?_⟩;have sm:Same H (upd H p (.lst [])):=Same.new hp;refine⟨aZ tb,aZ [],dI (sm.seq c) (b.same sm),dI (rs:=[]) (SqL.of zc) .nil,zW _,zW _,iF _ _,_,rfl,?_⟩;rw[if_pos rfl,gS];have l:=b.len;cases tb with
  |nil=>
   rw[show(!decide (([]:Ξ)=[]))=false from rfl];exact az (k _ sm)
  |cons r t=>
   rw[show(!decide ((r::t:Ξ)=[]))=true from by simp];cases rs with
   |nil=>cases l
   |cons a as=>
    obtain⟨ns,e,g⟩:=b.get (j:=0) rfl;refine aA ⟨_,rfl,L,_,_,_,rfl,rfl,sm.seq c,zi (j:=0) rfl,a,_,rfl,.inl (SqL.of (sm _ _ g)),?_⟩;have:wid (r::t)=ns.length:=by unfold wid;rw[e];rfl
    have d:=k _ sm;rw[this] at d;rw[Aa];exact d
end
def OY:A8 "isinstance"=some (.builtin "isinstance"):=δ
abbrev qJ:Stmt:=top 46
def yS{n:Nat}(h:n<=100000):n<sizeLine:=by rw[sizeLine_eq];(first|lia|omega)
def eZ(r:List Int)(ub:Ξ)(j:Nat):List Int:=(Ah r.length).map fun k=>r.getD k 0*(ub.getD k []).getD j 0
def OZ{r:List Int}{ub:Ξ}{j:Nat}(h:r.length=ub.length):(eZ r ub j).sum=dot r (colAt ub j):=by
 unfold dot
 congr 1
 unfold eZ colAt;refine AU (by simp[h]) fun i h1 h2=>?_;have hi:i<r.length:=by simpa using h1
 have a:i<ub.length:=ω
 simp[Ac,Ab hi,Ab a]
abbrev Kd(K:Ag):TE:=bQ (rI ey fun i j=>.int (i*j)) (bQ (dW K) (av 1) (av 0)) (bQ (dW K) (bQ (dW K) (av 2) (av 0)) (av 3))
section
variable{P:Program}{w:World}{K:Ag}{mg:Str->Option Value}{base:Heap}
def O0{H2:Hp}{R M D:Addr}{rn:List Int}{ms:List Addr}{ub:Ξ}{j:Nat}{Q:VK}(p:H2 R=some (.lst (rn.map V.int)))(q:H2 M=some (.lst (ms.map V.ref)))(g:Rws H2 ms ub)(w:rn.length=ub.length)(r:∀u∈ub,j<u.length)(s:∀x∈rn,∀u∈ub,∀y∈u,ey x y)(hz:rn.length<=1000)(h:H2 D=none)(k:∀b,Same H2 b->b D=some (.lst ((eZ rn ub j).map V.int))->Q (.ref D) b):cH (fO 0 rn.length) (zL 0) bM (Kd K) [none,some (.ref R),some (.ref M),some (.int j)] H2 D Q:=by
 have z:=g.len;refine oI (fun i σ ys b=>∃(v:Option V),σ=[v,some (.ref R),some (.ref M),some (.int j)]/\Same H2 b/\b D=some (.lst ys)/\ys=((eZ rn ub j).take i).map V.int) ?_ ?_ ?_
 ·exact⟨none,rfl,Same.new h,zc,rfl⟩
 ·rintro i σ ys b hi hy ⟨v,rfl,sm,a,rfl⟩
  have c:i<ms.length:=ω
  have o:i<ub.length:=ω
  obtain⟨u,d,l⟩:=g.get (Ab c);have f:=r u (Ak d);have e:(eZ rn ub j)[i]?=some (rn[i]*u[j]):=by
   unfold eZ;rw[Aj,AM hi];simp[Ac,Ab hi,d,Ab f]
  refine cL ?_;rw[show(0:Int)+((i:Nat):Int)=((i:Nat):Int) from ω];refine⟨_,rfl,_,rfl,R,_,_,_,rfl,rfl,SqL.of (sm _ _ p),zi (j:=i) (v:=V.int rn[i]) (by rw[Aj,Ab hi];rfl),?_⟩;refine⟨_,rfl,_,rfl,M,_,_,_,rfl,rfl,SqL.of (sm _ _ q),zi (j:=i) (v:=V.ref ms[i]) (by rw[Aj,Ab c];rfl),?_⟩;refine⟨_,rfl,ms[i],_,_,_,rfl,rfl,SqL.of (sm _ _ l),zi (j:=j) (v:=V.int u[j]) (by rw[Aj,Ab f];rfl),_,_,rfl,rfl,s _ (AB hi) _ (Ak d) _ (AB f),?_⟩;refine bN (zv ω) hi hy a ⟨_,rfl,sm.then h,zc,?_⟩;rw[Bk e,At]
  rfl
 ·rintro σ ys b ⟨v,rfl,sm,a,rfl⟩
  rw[Ar (by unfold eZ;simp)] at a;exact k b sm a
def GJ(K:Ag):Sp:=fun vs H Q _=>∃L M rs ms tb ub,vs=[.ref L,.ref M]/\H L=some (.lst (rs.map V.ref))/\H M=some (.lst (ms.map V.ref))/\Rws H rs tb/\Rws H ms ub/\cN tb=true/\cN ub=true/\wid tb=ub.length/\(∀r∈tb,∀x∈r,∀q∈ub,∀y∈q,ey x y)/\
 ∀F H' ds,Same H H'->H F=none->H' F=some (.lst (ds.map V.ref))->Rws H' ds (mulT tb ub)->Q (.ref F) H'
def yT:zp ["one","other","found","row","line","place"] ["one","other"] (zg qJ):=⟨rfl,rfl,rfl,δ,rfl,δ,δ⟩
def O1{f fw:Addr}{fd aW:FuncData}(F:Fun K "_law_product" "_law_product" qJ f fd)(B:iG mg)(Fw:Fun K "_law_wide" "_law_wide" yK fw aW)(bw:Binds K aW ["table"] [])(mw:mg "_law_wide"=some (.ref fw)):ai P w K mg base aw 2 f fd ["one","other"] (GJ K):=by
 have Gw:ai P w K mg base aw 1 fw aW ["table"] (GH K):=Kc Fw B;refine F.ok yT (fun vs H Q E h=>?_) (fun ak A outer s H vs Q E hr h=>?_)
 ·obtain⟨L,M,rs,ms,tb,ub,rfl,_⟩:=h;rfl
 ·obtain⟨L,M,rs,ms,tb,ub,rfl,X,hM,ht,hu,c1,c2,c3,zs,k⟩:=h
  obtain⟨t1,t2,t3⟩:=ke c1;obtain⟨u1,u2,u3⟩:=ke c2;refine⟨_,ze (zq (i:=2) yT.nd rfl (Or.inl rfl) (dB zb))
   (ze (hA Bl rfl (zI (pv 0)) (zl (i:=3) yT.nd rfl (Or.inr rfl))
    (ze (zq (i:=4) yT.nd rfl (Or.inl rfl) (dB zb))
    (ze (hA Bl rfl (g_ rfl B.range (za (zf Gw hr rfl mw Fw.kp bw .nil ac (za (pv 1) zb)) zb)) (zl (i:=5) yT.nd rfl (Or.inr rfl))
     (zh (iN (ot PySem.F.plainAttrs_list PySem.F.slot_list_append PySem.F.type_list_append ti (pv 4) (za (zm (HF rfl) rfl B.sum Jf (za
      (zu ["one","other","found","row","line","place"] ["k","row","other","place"] [none,some 3,some 1,some 5] (g_ rfl B.range (za (zm zj rfl B.len cp (za (pv 3) zb)) zb)) (fun cl C s₀ H₀ ex=>zl (i:=0) (bI ["k","row","other","place"]) rfl (Or.inl rfl)) (fun cl C s₀ H₀ ex=>zy)
       (fun cl C s₀ H₀ ex=>zA my (zo zn (pv 1) (pv 0) (fun _ _=>rfl)) (zo zn (zo zn (pv 2) (pv 0) (fun _ _=>rfl)) (pv 3) (fun _ _=>rfl))) (te:=Kd K) (hfr:=bB (zg qJ) δ)) zb)) zb)))))
    (zh (iN (ot PySem.F.plainAttrs_list PySem.F.slot_list_append PySem.F.type_list_append ti (pv 2) (za (pv 4) zb)))))))
   (zh (zr (pv 2)))),?_⟩
  refine⟨ξ,fun l y=>?_⟩;have r_:L≠l:=zk X y;refine⟨_,rfl,L,rfl,⟨_,SqL.of (by rw[af r_];exact X)⟩,CA (K:=K) (a:=L) (xs:=rs.map V.ref) (fun i σ H2=>∃(U W o:Option V)(ds:List Addr),σ=[some (.ref L),some (.ref M),some (.ref l),U,W,o]/\Same H H2/\H2 l=some (.lst (ds.map V.ref))/\Rws H2 ds ((tb.take i).map fun r=>(turn ub).map (dot r))/\∀d∈ds,d≠l)
   ⟨none,none,none,[],rfl,Same.new y,zc,.nil,fun d hd=>by cases hd⟩ (fun i σ H2 _ ⟨_,_,_,_,_,sm,_⟩=>SqL.of (sm _ _ X)) ?_ ?_⟩
  ·rintro i x σ H2 hx ⟨U,W,o,ds,rfl,N,O,b,fT⟩
   obtain⟨a,ea,rfl⟩:=kd hx;obtain⟨rn,er,ha⟩:=ht.get ea;have Y:=Ak er;refine⟨ξ,fun c G=>?_⟩;have Z:l≠c:=zk O G;have i9:H c=none:=N.free G;have s3:Same H (upd H2 c (.lst [])):=N.then i9;refine⟨_,rfl,M,ms,ub,rfl,s3.seq (SqL.of hM),hu.same s3,fun H3 I=>⟨_,rfl,ω,ω,CB (lo:=0) (n:=wid ub) (fun j σ q=>∃o:Option V,σ=[some (.ref L),some (.ref M),some (.ref l),some (.ref a),some (.ref c),o]/\Same H q/\q l=some (.lst (ds.map V.ref))/\Rws q ds ((tb.take i).map fun r=>(turn ub).map (dot r))/\q c=some (.lst ((((Ah (wid ub)).take j).map fun j=>dot rn (colAt ub j)).map V.int)))
    ⟨_,rfl,s3.trans I,I _ _ (by rw[af Z];exact O),(b.upd fun d hd z=>b.there d hd (z▸G)).same I,I _ _ zc⟩ ?_ ?_⟩⟩
   ·rintro j σ q hj ⟨o,rfl,p,S,T,v⟩
    rw[show(0:Int)+((j:Nat):Int)=((j:Nat):Int) from ω];refine⟨_,rfl,.inl ⟨rfl,_,SqL.of v⟩,_,rfl,a,_,rfl,.inl (SqL.of (p _ _ ha)),_,rfl,ω,by rw[Aa,t3 rn Y];(first|lia|omega),fun D hD=>?_⟩;rw[Aa];have qT:rn.length=ub.length:=by rw[t3 rn Y,c3]
    refine zx (O0 (p _ _ ha) (p _ _ hM) (hu.same p) qT (fun u iC=>by rw[u3 u iC];exact hj) (zs rn Y) ω hD fun H5 J dY=>⟨D,_,rfl,SqL.of dY,?_⟩);have lA:=J _ _ v;have nZ:∀d∈ds,d≠c:=fun d hd z=>b.there d hd (z▸G);refine⟨c,_,_,rfl,rfl,lA,yS (by simp;(first|lia|omega)),⟨_,rfl,(p.trans J).then i9,by rw[af Z];exact J _ _ S,(T.same J).upd nZ,?_⟩⟩;have e:(Ah (wid ub))[j]?=some j:=AM hj;rw[zc,Bk e,OZ qT,At,At]
    rfl
   ·rintro σ q ⟨o,rfl,p,S,T,v⟩
    have f_:=T.len;have y7:i<tb.length:=(List.getElem?_eq_some_iff.mp er).1;have uy:ds.length<=40:=by rw[f_,Aa,Bo];(first|lia|omega)
    have all:∀d∈ds++[c],d≠l:=fun d hd=>by
     rcases List.mem_append.mp hd with h|h
     ·exact fT d h
     ·obtain rfl:d=c:=by simpa using h
      exact Z.symm
    rw[Ar (by simp)] at v;have iA:q c=some (.lst (((turn ub).map (dot rn)).map V.int)):=by
     rw[v];unfold turn;rw[AT (f:=colAt ub) (g:=dot rn)]
     rfl
    refine⟨_,rfl,.inl ⟨rfl,_,SqL.of S⟩,_,rfl,l,_,_,rfl,rfl,S,yS (by rw[Aa];(first|lia|omega)),⟨_,_,_,ds++[c],rfl,p.then y,by rw[zc,At];rfl,?_,all⟩⟩;rw[Bk er,At];exact(T.snoc iA).upd all
  ·rintro σ H2 ⟨U,W,o,ds,rfl,N,O,b,fT⟩
   rw[Aa,ht.len,Ar (Ad _)] at b;exact⟨_,rfl,k l H2 ds N y O b⟩
end
abbrev yX:Stmt:=top 48
abbrev y':Stmt:=top 49
abbrev DJ:Stmt:=top 50
def DK{a b:Ξ}{k w:Nat}(f:a.length=k)(g:b.length=k)(d:∀r∈a,r.length=w)(e:∀r∈b,r.length=w)(h:∀i j,i<k->j<w->fn a i j=fn b i j):a=b:=by
 apply AU ω;intro i h1 h2;have e1:=zE (Ab h1);have e2:=zE (Ab h2);refine JK (by rw[d _ (AB h1),e _ (AB h2)]) fun j c=>?_;rw[d _ (AB h1)] at c;have:=h i j ω c;unfold fn at this
 rwa [e1,e2] at this
def O2{n:Nat}:unT n=(Ah n).map fun i=>(Ah n).map fun j=>if i=j then(1:Int) else 0:=by
 refine DK ya (by simp) jL (fun r hr=>by obtain⟨i,_,rfl⟩:=List.mem_map.mp hr;simp) fun i j hi a=>?_;rw[kM hi];unfold fn;rw[qk hi,Du a]
 rfl
def eH(u ub:Ξ)(n:Nat):Bool:=zX u n&&zX ub n&&decide (mulT u ub=unT n)&&decide (mulT ub u=unT n)
section
variable{P:Program}{w:World}{K:Ag}{mg:Str->Option Value}{base:Heap}
def O3{H2:Hp}{D:Addr}{n:Nat}{Q:VK}{g:Nat->Int}{te:TE}{c:List (Option V)}(h:∀(j:Nat)(H:Hp)(R:VK),R (.int (g j)) H->te (some (.int j)::c) H R)(hz:n<=1000)(f:H2 D=none)(k:∀a,Same H2 a->a D=some (.lst (((Ah n).map g).map V.int))->Q (.ref D) a):cH (fO 0 n) (zL 0) bM te (none::c) H2 D Q:=by
 refine oI (fun j σ ys a=>∃(v:Option V),σ=v::c/\Same H2 a/\a D=some (.lst ys)/\ys=(((Ah n).take j).map g).map V.int) ⟨none,rfl,Same.new f,zc,rfl⟩ ?_ ?_
 ·rintro j σ ys a d hy ⟨v,rfl,sm,b,rfl⟩
  have e:(Ah n)[j]?=some j:=AM d;refine cL ?_;rw[show(0:Int)+((j:Nat):Int)=((j:Nat):Int) from ω];refine h j a _ (bN (zv ω) d hy b ⟨_,rfl,sm.then f,zc,?_⟩);rw[Bk e,At,At]
  rfl
 ·rintro σ ys a ⟨v,rfl,sm,b,rfl⟩
  rw[Ar (by simp)] at b;exact k a sm b
abbrev Ke:List V->Hp->VK->Prop:=fun xs H Q=>(∃i,xs=[.int i]/\Q (.int i) H)\/∃k,xs=[.bl k]/\Q (.int (if k then 1 else 0)) H
abbrev GK:TE:=hX (G0 (ca (av 1) bK)) [none,some 0] (zL 0) bM (iR Ke (ca (bQ rX (av 1) (av 0)) bK))
def Kf:Sp:=fun vs H Q _=>∃n:Nat,vs=[.int n]/\n<=1000/\pi H Q (unT n)
def O4:zp ["size"] ["size"] (zg yX):=⟨rfl,rfl,rfl,δ,rfl,δ,δ⟩
def O5{f:Addr}{fd:FuncData}(F:Fun K "_law_even" "_law_even" yX f fd)(B:iG mg):ai P w K mg base aw 1 f fd ["size"] Kf:=by
 refine F.ok O4 (fun vs H Q E h=>?_) (fun M A outer s H vs Q E hr h=>?_)
 ·obtain⟨n,rfl,_⟩:=h;rfl
 ·obtain⟨n,rfl,u,k⟩:=h
  refine⟨_,zh (zr (Mr ["size"] ["row","size"] [none,some 0] (g_ rfl B.range (za (pv 0) zb)) (fun b C s₀ H₀ ex=>zl (i:=0) (bI ["row","size"]) rfl (Or.inr rfl)) (fun b C s₀ H₀ ex=>zy)
   (fun b C s₀ H₀ ex=>zu ["row","size"] ["place","row"] [none,some 0] (g_ rfl B.range (za (pv 1) zb)) (fun b C s₀ H₀ ex=>zl (i:=0) (bI ["place","row"]) rfl (Or.inl rfl)) (fun b C s₀ H₀ ex=>zy)
    (fun b C s₀ H₀ ex=>zQ K_ rfl B.int OV (za (e_ dz (pv 1) (pv 0) (ar _)) zb)) (hfr:=Ms rfl δ) (te:=iR Ke (ca (bQ rX (av 1) (av 0)) bK)))
   (hfr:=bB (zg yX) δ) (te:=GK))),?_⟩
  refine⟨_,rfl,_,rfl,ω,ω,fun D q=>?_⟩;refine zx (EM (n:=n) (g:=fun i=>(Ah n).map fun j=>if i=j then(1:Int) else 0) (fun i H' R hi sm x=>?_) u q fun J ds y l o z p=>k D J ds y q l (by rw[O2];exact o) z p);refine⟨_,rfl,_,rfl,ω,ω,fun L r=>?_⟩;refine zx (O3 (n:=n) (g:=fun j=>if i=j then(1:Int) else 0) (fun j d v a=>?_) u r fun d G I=>x L d G r I);refine⟨_,rfl,_,rfl,rfl,.inr ⟨_,rfl,?_⟩⟩
  by_cases c:i=j
  ·rw[decide_eq_true (by rw[c]:V.int ((i:Nat):Int)=V.int ((j:Nat):Int))]
   have a:v (.int (if i=j then 1 else 0)) d:=a;rw[if_pos c] at a;exact a
  ·rw[decide_eq_false (fun e=>c (by injection e with e;(first|lia|omega)):¬V.int ((i:Nat):Int)=V.int ((j:Nat):Int))]
   have a:v (.int (if i=j then 1 else 0)) d:=a;rw[if_neg c] at a;exact a
def O6:zp ["table","size"] ["table","size"] (zg y'):=⟨rfl,rfl,rfl,δ,rfl,δ,δ⟩
def O7{f:Addr}{fd:FuncData}(F:Fun K "_law_square" "_law_square" y' f fd)(bl:mg "len"=none)(x:mg "all"=none):ai P w K mg base aw 1 f fd ["table","size"] (Dh K):=by
 refine F.ok O6 (fun vs H Q E h=>?_) (fun z A outer s H vs Q E hr h=>?_)
 ·obtain⟨L,rs,tb,n,rfl,_⟩:=h;rfl
 ·obtain⟨L,rs,tb,n,rfl,b,j,hz,k⟩:=h
  refine⟨_,zh (zr (rm (e_ dz (zm zj rfl bl cp (za (pv 0) zb)) (pv 1) (ar _))
   (rj (zm (oG rfl) rfl x pa (za (zu ["table","size"] ["row","size"] [none,some 1] (zI (pv 0)) (fun d C s₀ H₀ ex=>zl (i:=0) (bI ["row","size"]) rfl (Or.inl rfl)) (fun d C s₀ H₀ ex=>zy)
    (fun d C s₀ H₀ ex=>e_ dz (zm zj rfl bl cp (za (pv 0) zb)) (pv 1) (ar _)) (te:=wy K) (hfr:=bB (zg y') δ)) zb))))),?_⟩
  have v:=j.len;refine⟨_,rfl,L,_,rfl,.inl b,_,rfl,rfl,?_⟩;rw[Aa,v,show decide (V.int ((tb.length:Nat):Int)=V.int (n:Int))=decide (tb.length=n) from by rw[Bm];simp;(first|lia|omega)];refine⟨_,rfl,?_⟩
  by_cases c:tb.length=n
  ·rw[decide_eq_true c]
   refine aA ⟨_,rfl,L,rfl,⟨_,b⟩,fun D l=>?_⟩;refine zx (uL (mkV:=V.bl) (g:=fun r=>decide (r.length=n)) (fun o os H' R sm p _ q=>?_) b j hz l fun y u a=>?_)
   ·refine⟨_,rfl,o,_,rfl,.inl (SqL.of p),_,rfl,rfl,?_⟩
    rw[Aa];have:=q H' (Same.refl H');rw[show decide (V.int (os.length:Int)=V.int (n:Int))=decide (os.length=n) from by rw[Bm];simp;(first|lia|omega)];exact this
   ·refine⟨D,_,rfl,SqL.of a,?_⟩
    have e:zX tb n=(tb.map fun r=>decide (r.length=n)).all id:=by
     unfold zX;rw[decide_eq_true c,List.all_map];rfl
    rw[e] at k;exact k y u
  ·rw[decide_eq_false c]
   have e:zX tb n=false:=by unfold zX;rw[decide_eq_false c];rfl
   rw[e] at k;exact az (k H (Same.refl H))
def O8:zp ["one","other","size"] ["one","other","size"] (zg DJ):=⟨rfl,rfl,rfl,δ,rfl,δ,δ⟩
def Kg(K:Ag):Sp:=fun vs H Q _=>∃(L M:Addr)(rs ms:List Addr)(u ub:Ξ)(n:Nat),vs=[.ref L,.ref M,.int n]/\H L=some (.lst (rs.map V.ref))/\H M=some (.lst (ms.map V.ref))/\Rws H rs u/\Rws H ms ub/\u.length<=1000/\ub.length<=1000/\n<=40/\nq u/\nq ub/\∀H',Same H H'->Q (.bl (eH u ub n)) H'
def O9{f fs D G:Addr}{fd I J N:FuncData}(F:Fun K "_law_backs" "_law_backs" DJ f fd)(Fs:Fun K "_law_square" "_law_square" y' fs I)(bs:Binds K I ["table","size"] [])(ms:mg "_law_square"=some (.ref fs))(Gs:ai P w K mg base aw 1 fs I ["table","size"] (Dh K))(Fp:Fun K "_law_product" "_law_product" qJ D J)(X:Binds K J ["one","other"] [])(Y:mg "_law_product"=some (.ref D))(Gp:ai P w K mg base aw 2 D J ["one","other"] (GJ K))(Fe:Fun K "_law_even" "_law_even" yX G N)(be:Binds K N ["size"] [])(Z:mg "_law_even"=some (.ref G))(Ge:ai P w K mg base aw 1 G N ["size"] Kf):ai P w K mg base aw 3 f fd ["one","other","size"] (Kg K):=by
 refine F.ok O8 (fun vs H Q E h=>?_) (fun ak A outer s H vs Q E hr h=>?_)
 ·obtain⟨L,M,rs,ms,u,ub,n,rfl,_⟩:=h;rfl
 ·obtain⟨L,M,rs,o,u,ub,n,rfl,p,v,z,C,z1,z2,g,su,sub,k⟩:=h
  have a:Room 1 _:=hr.mono ξ;have W:=hr.units;refine⟨_,ze (cn (PW.pt (nY (gt (fG (zf Gs a rfl ms Fs.kp bs .nil ac (za (pv 0) (za (pv 2) zb))))) (nW (gt (fG (zf Gs a rfl ms Fs.kp bs .nil ac (za (pv 1) (za (pv 2) zb)))))))) (zh (zr fC)) zJ)
   (zh (zr (rm (e_ (Dy W) (zf Gp hr rfl Y Fp.kp X .nil ac (za (pv 0) (za (pv 1) zb))) (zf Ge a rfl Z Fe.kp be .nil ac (za (pv 2) zb)) (ar _))
    (rj (e_ (Dy W) (zf Gp hr rfl Y Fp.kp X .nil ac (za (pv 1) (za (pv 0) zb))) (zf Ge a rfl Z Fe.kp be .nil ac (za (pv 2) zb)) (ar _)))))),?_⟩
  refine⟨_,rfl,_,rfl,L,rs,u,n,rfl,SqL.of p,z,z1,fun H1 i=>⟨_,rfl,?_⟩⟩;cases c1:zX u n with
  |false=>
   have e:eH u ub n=false:=by unfold eH;rw[c1];rfl
   rw[e] at k;exact aA (aA (k H1 i))
  |true=>
   refine az ⟨_,rfl,_,rfl,M,o,ub,n,rfl,SqL.of (i _ _ v),C.same i,z2,fun H2 s2=>⟨_,rfl,?_⟩⟩;have c:=i.trans s2;cases c2:zX ub n with
   |false=>
    have e:eH u ub n=false:=by unfold eH;rw[c1,c2];rfl
    rw[e] at k;exact aA (k H2 c)
   |true=>
    obtain⟨O,w1⟩:=zH.mp c1;obtain⟨S,w2⟩:=zH.mp c2;obtain⟨T,t2,t3⟩:=kS S w2 g;obtain⟨U,t5,t6⟩:=kS O w1 g;refine az ⟨_,rfl,_,rfl,L,M,rs,o,u,ub,rfl,c _ _ p,c _ _ v,z.same c,C.same c,U,T,by rw[t6,S],fun r hr x hx q hq y hy=>gH (su r hr x hx) (sub q hq y hy),fun E1 H4 es s4 hE mS re=>?_⟩;have cQ:=c.trans s4;refine⟨_,rfl,n,rfl,ω,fun U1 H5 us j hU mF ru _ _=>?_⟩;have d:=cQ.trans j;refine⟨aZ (mulT u ub),aZ (unT n),dI (SqL.of (j _ _ mS)) (re.same j),dI (SqL.of mF) ru,zW _,zW _,iF _ _,_,rfl,?_⟩;have e:eH u ub n=(decide (mulT u ub=unT n)&&decide (mulT ub u=unT n)):=by unfold eH;rw[c1,c2];rfl
    rw[e,<-gS (mulT u ub)] at k;refine dE (fun b=>?_) (fun b=>?_)
    ·refine⟨_,rfl,_,rfl,M,L,o,rs,ub,u,rfl,d _ _ v,d _ _ p,C.same d,z.same d,T,U,by rw[t3,O],fun r hr x hx q hq y hy=>gH (sub r hr x hx) (su q hq y hy),fun E2 H6 gQ s6 qP iy gv=>?_⟩
     refine⟨_,rfl,n,rfl,ω,fun U2 H7 y8 l yL yy nv _ _=>?_⟩;refine⟨aZ (mulT ub u),aZ (unT n),dI (SqL.of (l _ _ iy)) (gv.same l),dI (SqL.of yy) nv,zW _,zW _,iF _ _,?_⟩;have b:PySem.Spec.same (aZ (mulT u ub)) (aZ (unT n))=true:=b;rw[b,Bool.true_and,<-gS] at k;exact k H7 ((d.trans s6).trans l)
    ·have b:PySem.Spec.same (aZ (mulT u ub)) (aZ (unT n))=false:=Bool.eq_false_iff.mpr b
     rw[b,Bool.false_and] at k;exact k H5 d
end
abbrev zT:Stmt:=top 51
def c9(st:List Int)(i j:Nat):Int:=if i=j/\i<st.length then vc st i else 0
def jf(F:Ξ)(st:List Int)(k w:Nat):Bool:=(Ah k).all fun i=>(Ah w).all fun j=>decide (fn F i j=c9 st i j)
def iJ(tb u ub v vb:Ξ)(st:List Int):Bool:=eH u ub tb.length&&eH v vb (wid tb)&&cx st (if(wid tb:Int)<(tb.length:Int) then(wid tb:Int) else(tb.length:Int))&&jf (mulT (mulT u tb) v) st tb.length (wid tb)
def Kh{u ub:Ξ}{n:Nat}(h:eH u ub n=true):u.length=n/\(∀r∈u,r.length=n)/\ub.length=n/\∀r∈ub,r.length=n:=by
 unfold eH at h;rw[A7,A7,A7] at h;obtain⟨a,b⟩:=zH.mp h.1.1.1;obtain⟨c,d⟩:=zH.mp h.1.1.2;exact⟨a,b,c,d⟩
def ji{u v:Ξ}:(mulT u v).length=u.length:=by unfold mulT;simp
def nF{u v:Ξ}:∀r∈mulT u v,r.length=wid v:=fun r hr=>by
 unfold mulT at hr;obtain⟨q,_,rfl⟩:=List.mem_map.mp hr;rw[Aa,DF]
def nG{tb:Ξ}{w:Nat}(h:∀r∈tb,r.length=w)(a:tb.length=0->w=0):wid tb=w:=by
 cases e:tb with
 |nil=>rw[e] at a;exact(a rfl).symm
 |cons x l=>exact h x (by rw[e];exact Aq ..)
def O_{tb:Ξ}{w:Nat}(h:∀r∈tb,r.length=w)(a:tb.length=0->w=0)(h1:tb.length<=40)(h2:w<=40):cN tb=true:=by
 unfold cN;rw[nG h a,decide_eq_true h1,decide_eq_true h2];simp only[Bool.and_self,Bool.true_and,AZ];exact fun r hr=>decide_eq_true (h r hr)
section
variable{P:Program}{w:World}{K:Ag}{mg:Str->Option Value}{base:Heap}
def O'{H2:Hp}{L D:Addr}{ns:List Int}{Q:VK}{p:Int->Bool}{tc:TT}{c:List (Option V)}(h:∀(x:Int)(H:Hp)(R:Bool->Hp->Prop),x∈ns->R (p x) H->tc (some (.int x)::c) H R)(i:H2 L=some (.lst (ns.map V.int)))(hz:ns.length<=1000)(f:H2 D=none)(k:∀b,Same H2 b->b D=some (.lst ((ns.filter p).map V.int))->Q (.ref D) b):cH (fL K L) (zL 0) tc (av 0) (none::c) H2 D Q:=by
 refine l5 (xs:=ns.map V.int) (fun j σ ys b=>∃(v:Option V),σ=v::c/\Same H2 b/\b D=some (.lst ys)/\ys=((ns.take j).filter p).map V.int) ⟨none,rfl,Same.new f,zc,rfl⟩ ?_ ?_ ?_
 ·rintro j σ ys b ⟨v,rfl,sm,a,rfl⟩
  exact SqL.of (sm _ _ i)
 ·rintro j σ ys b x hx e hy ⟨v,rfl,sm,a,rfl⟩
  obtain⟨y,d,rfl⟩:=ie hx;have g:(ns.map V.int).length<=sizeLine:=by rw[Aa];exact zv ω
  refine h y b _ (Ak d) ?_;cases hp:p y with
  |true=>
   refine aA ⟨_,rfl,bN g e hy a ⟨_,rfl,sm.then f,zc,?_⟩⟩;rw[Bk d,List.filter_append,At];simp[hp]
  |false=>
   refine az (hZ e hy ⟨_,rfl,sm,a,?_⟩);rw[Bk d,List.filter_append];simp[hp]
 ·rintro σ ys b ⟨v,rfl,sm,a,rfl⟩
  rw[Aa,Ar (Ad _)] at a;exact k b sm a
def Pa{H2:Hp}{D:Addr}{lo:Int}{n:Nat}{Q:VK}{p:Nat->Bool}{tc:TT}{c:List (Option V)}(g:∀(i:Nat)(H:Hp)(R:Bool->Hp->Prop),i<n->Same H2 H->R (p i) H->tc (some (.int (lo+i))::c) H R)(hz:n<=1000)(f:H2 D=none)(k:∀b,Same H2 b->b D=some (.lst (((Ah n).filter p).map fun i:Nat=>V.int (lo+i)))->Q (.ref D) b):cH (fO lo n) (zL 0) tc (av 0) (none::c) H2 D Q:=by
 refine oI (fun j σ ys b=>∃(v:Option V),σ=v::c/\Same H2 b/\b D=some (.lst ys)/\ys=(((Ah n).take j).filter p).map fun i:Nat=>V.int (lo+i)) ⟨none,rfl,Same.new f,zc,rfl⟩ ?_ ?_
 ·rintro j σ ys b d hy ⟨v,rfl,sm,a,rfl⟩
  have e:(Ah n)[j]?=some j:=AM d;refine g j b _ d sm ?_;cases hp:p j with
  |true=>
   refine aA ⟨_,rfl,bN (zv ω) d hy a ⟨_,rfl,sm.then f,zc,?_⟩⟩;rw[Bk e,List.filter_append,At];simp[hp]
  |false=>
   refine az (hZ d hy ⟨_,rfl,sm,a,?_⟩);rw[Bk e,List.filter_append];simp[hp]
 ·rintro σ ys b ⟨v,rfl,sm,a,rfl⟩
  rw[Ar (by simp)] at a;exact k b sm a
abbrev nK:List Str:=["table","sheet","left","left_back","right","right_back","steps","wide","found","row","place","due"]
def iL:zp nK ["table","sheet"] (zg zT):=⟨rfl,rfl,rfl,δ,rfl,δ,δ⟩
def Ki(K:Ag):Sp:=fun vs H Q _=>∃(L p a1 a2 a3 a4 a5:Addr)(rs d1 d2 d3 d4:List Addr)(tb u ub v vb:Ξ)(st:List Int),vs=[.ref L,.ref p]/\H L=some (.lst (rs.map V.ref))/\Rws H rs tb/\cN tb=true/\H p=some (.tup [.ref a1,.ref a2,.ref a3,.ref a4,.ref a5])/\
 H a1=some (.lst (d1.map V.ref))/\H a2=some (.lst (d2.map V.ref))/\H a3=some (.lst (d3.map V.ref))/\H a4=some (.lst (d4.map V.ref))/\H a5=some (.lst (st.map V.int))/\Rws H d1 u/\Rws H d2 ub/\Rws H d3 v/\Rws H d4 vb/\u.length<=1000/\ub.length<=1000/\v.length<=1000/\vb.length<=1000/\st.length<=1000/\
 Sm9 tb/\SmL u/\SmL ub/\SmL v/\SmL vb/\∀H',Same H H'->Q (.bl (iJ tb u ub v vb st)) H'
def Pb{f fb fw fp:Addr}{fd dM aW bF:FuncData}(F:Fun K "_law_paper_right" "_law_paper_right" zT f fd)(B:iG mg)(im:mg "min"=none)(Fb:Fun K "_law_backs" "_law_backs" DJ fb dM)(bb:Binds K dM ["one","other","size"] [])(mb:mg "_law_backs"=some (.ref fb))(Gb:ai P w K mg base aw 3 fb dM ["one","other","size"] (Kg K))(Fw:Fun K "_law_wide" "_law_wide" yK fw aW)(bw:Binds K aW ["table"] [])(mw:mg "_law_wide"=some (.ref fw))(Gw:ai P w K mg base aw 1 fw aW ["table"] (GH K))(Fp:Fun K "_law_product" "_law_product" qJ fp bF)(bp:Binds K bF ["one","other"] [])(mp:mg "_law_product"=some (.ref fp))(Gp:ai P w K mg base aw 2 fp bF ["one","other"] (GJ K)):ai P w K mg base aw 4 f fd ["table","sheet"] (Ki K):=by
 refine F.ok iL (fun vs H Q E h=>?_) (fun ak A outer s H vs Q E hr h=>?_)
 ·obtain⟨L,p,a1,a2,a3,a4,a5,rs,d1,d2,d3,d4,tb,u,ub,v,vb,st,rfl,_⟩:=h;rfl
 ·obtain⟨L,p,a1,a2,a3,a4,a5,rs,d1,d2,d3,d4,tb,u,ub,v,vb,st,rfl,T,hT,it,hp,h1,h2,h3,h4,G,r1,r2,r3,r4,z1,z2,z3,z4,z5,s9,su,sub,sv,svb,k⟩:=h
  have U:Room 2 _:=hr.mono ξ;have hr1:Room 1 _:=hr.mono ξ;obtain⟨t1,t2,t3⟩:=ke it;refine⟨_,ze (gB (pv 1) (gZ rfl (zB (zl (i:=2) iL.nd rfl (Or.inl rfl)) (zB (zl (i:=3) iL.nd rfl (Or.inl rfl)) (zB (zl (i:=4) iL.nd rfl (Or.inl rfl)) (zB (zl (i:=5) iL.nd rfl (Or.inl rfl)) (zB (zl (i:=6) iL.nd rfl (Or.inr rfl)) gU)))))))
   (ze (zq (i:=7) iL.nd rfl (Or.inl rfl) (zf Gw hr1 rfl mw Fw.kp bw .nil ac (za (pv 0) zb)))
   (ze (cn (PW.pt (nY (gt (fG (zf Gb hr rfl mb Fb.kp bb .nil ac (za (pv 2) (za (pv 3) (za (zm zj rfl B.len cp (za (pv 0) zb)) zb)))))) (nW (gt (fG (zf Gb hr rfl mb Fb.kp bb .nil ac (za (pv 4) (za (pv 5) (za (pv 7) zb))))))))) (zh (zr fC)) zJ)
   (ze (cn (PW.pt (nY (zt hH (zm zj rfl B.len cp (za (pv 6) zb)) (zm (G4 rfl) rfl im JZ (za (zm zj rfl B.len cp (za (pv 0) zb)) (za (pv 7) zb))) (ar _))
    (nW (zt hH (zm zj rfl B.len cp (za (zu nK ["number"] [none] (zI (pv 6)) (fun S C s₀ H₀ ex=>zl (i:=0) (bI ["number"]) rfl (Or.inl rfl)) (fun S C s₀ H₀ ex=>Ew (zt sQ (pv 0) zd (ar _))) (fun S C s₀ H₀ ex=>pv 0) (hfr:=b7 δ)) zb)) zd (ar _))))) (zh (zr fC)) zJ)
   (ze (cn (zt hH (zm zj rfl B.len cp (za (zu nK ["k","steps"] [none,some 6] (K5 rfl B.range (za zd (za (zm zj rfl B.len cp (za (pv 6) zb)) zb))) (fun S C s₀ H₀ ex=>zl (i:=0) (bI ["k","steps"]) rfl (Or.inl rfl))
     (fun S C s₀ H₀ ex=>Ew (zt lJ (zA j' (zo zn (pv 1) (pv 0) (fun _ _=>rfl)) (zo zn (pv 1) (zA e8 (pv 0) zd) (fun _ _=>rfl))) zd (ar _))) (fun S C s₀ H₀ ex=>pv 0)
     (tc:=CC (bQ D_ (bQ (rI (fun _ j=>0<j) fun i j=>.int (i%j)) (bQ (dW K) (av 1) (av 0)) (bQ (dW K) (av 1) (bQ (fS fun i j=>.int (i-j)) (av 0) (tC (.int 1))))) (tC (.int 0)))) (hfr:=bB (zg zT) δ)) zb)) zd (ar _)) (zh (zr fC)) zJ)
   (ze (zq (i:=8) iL.nd rfl (Or.inl rfl) (zf Gp U rfl mp Fp.kp bp .nil ac (za (zf Gp U rfl mp Fp.kp bp .nil ac (za (pv 2) (za (pv 0) zb))) (za (pv 4) zb))))
   (ze (hA Bl rfl (g_ rfl B.range (za (zm zj rfl B.len cp (za (pv 0) zb)) zb)) (zl (i:=9) iL.nd rfl (Or.inl rfl))
    (zh (hA Bl rfl (g_ rfl B.range (za (pv 7) zb)) (zl (i:=10) iL.nd rfl (Or.inl rfl))
     (ze (zq (i:=11) iL.nd rfl (Or.inl rfl) (n7 (PW.pt (j0 (zt dz (pv 9) (pv 10) (ar _)) (jX (zt sQ (pv 9) (zm zj rfl B.len cp (za (pv 6) zb)) (ar _))))) (zo zn (pv 6) (pv 9) (fun _ _=>rfl)) zd))
     (zh (cn (zt lJ (zo zn (zo zn (pv 8) (pv 9) (fun _ _=>rfl)) (pv 10) (fun _ _=>rfl)) (pv 11) (ar _)) (zh (zr fC)) zJ))))))
   (zh (zr fC)))))))),?_⟩
  have aL:=hT.len;refine⟨_,rfl,p,_,rfl,SqT.of hp,rfl,_,_,rfl,_,_,rfl,_,_,rfl,_,_,rfl,_,_,rfl,rfl,?_⟩;refine⟨_,rfl,L,rs,tb,rfl,SqL.of T,hT,fun H1 M=>?_⟩;refine⟨_,rfl,_,rfl,_,rfl,L,_,rfl,.inl (SqL.of (M _ _ T)),?_⟩;rw[Aa,aL];refine⟨a1,a2,d1,d2,u,ub,tb.length,rfl,M _ _ h1,M _ _ h2,r1.same M,r2.same M,z1,z2,t1,su.big,sub.big,fun H2 s2=>⟨_,rfl,?_⟩⟩;have N:=M.trans s2;cases c1:eH u ub tb.length with
  |false=>
   have e:iJ tb u ub v vb st=false:=by unfold iJ;rw[c1];rfl
   rw[e] at k;exact aA (aA (k H2 N))
  |true=>
  refine az ⟨_,rfl,_,rfl,_,rfl,a3,a4,d3,d4,v,vb,wid tb,rfl,N _ _ h3,N _ _ h4,r3.same N,r4.same N,z3,z4,t2,sv.big,svb.big,fun H3 s3=>⟨_,rfl,?_⟩⟩;have I:=N.trans s3;cases J:eH v vb (wid tb) with
  |false=>
   have e:iJ tb u ub v vb st=false:=by unfold iJ;rw[c1,J];rfl
   rw[e] at k;exact aA (k H3 I)
  |true=>
  refine az ⟨_,rfl,a5,_,rfl,.inl (SqL.of (I _ _ G)),_,rfl,L,_,rfl,.inl (SqL.of (I _ _ T)),_,rfl,_,_,rfl,_,_,rfl,rfl,_,rfl,?_⟩;rw[Aa,Aa,aL];generalize Y:(if((wid tb:Nat):Int)<((tb.length:Nat):Int) then((wid tb:Nat):Int) else((tb.length:Nat):Int))=mi;have ek:iJ tb u ub v vb st=(cx st mi&&jf (mulT (mulT u tb) v) st tb.length (wid tb)):=by unfold iJ;rw[c1,J,Y];rfl
  rw[ek] at k
  by_cases c3:mi<(st.length:Int)
  ·rw[decide_eq_true c3]
   have e:cx st mi=false:=by unfold cx;rw[decide_eq_true c3];rfl
   rw[e] at k;exact aA (aA (k H3 I))
  rw[decide_eq_false c3];refine az ⟨_,rfl,a5,rfl,⟨_,SqL.of (I _ _ G)⟩,fun D hD=>zx (O' (p:=fun x=>decide (x<1)) (fun x H' R _ hR=>⟨_,rfl,_,_,rfl,rfl,_,rfl,hR⟩) (I _ _ G) z5 hD fun H4 s4 b_=>⟨D,_,rfl,.inl (SqL.of b_),_,_,rfl,rfl,_,rfl,?_⟩)⟩;have W:=I.trans s4;rw[Aa];have X:decide ((0:Int)<(((st.filter fun x=>decide (x<1)).length:Nat):Int))=!st.all fun x=>decide (0<x):=by
   cases c:st.all fun x=>decide (0<x) with
   |true=>
    have:st.filter (fun x=>decide (x<1))=[]:=List.filter_eq_nil_iff.mpr fun x hx=>by
     have:=of_decide_eq_true (List.all_eq_true.mp c x hx);simp;(first|lia|omega)
    rw[this];rfl
   |false=>
    obtain⟨x,hx,hn⟩:∃x∈st,¬0<x:=by
     refine AC fun no=>?_;have:st.all (fun x=>decide (0<x))=true:=List.all_eq_true.mpr fun x hx=>decide_eq_true (AC fun z=>no ⟨x,hx,z⟩);rw[c] at this;cases this
    have Y:x∈st.filter (fun x=>decide (x<1)):=List.mem_filter.mpr ⟨hx,decide_eq_true ω⟩;have:=List.length_pos_of_mem Y;rw[decide_eq_true ω];rfl
  rw[X];cases c4:st.all fun x=>decide (0<x) with
  |false=>
   have e:cx st mi=false:=by unfold cx;rw[c4,Bool.and_false];rfl
   rw[e] at k;exact aA (k H4 W)
  |true=>
  have pos:∀x∈st,0<x:=fun x hx=>of_decide_eq_true (List.all_eq_true.mp c4 x hx);refine az ⟨_,rfl,a5,_,rfl,.inl (SqL.of (W _ _ G)),_,_,rfl,⟨ω,ω,ω,by rw[Aa];(first|lia|omega)⟩,fun D2 cF=>?_⟩;have en:((((st.map V.int).length:Nat):Int)-1).toNat=st.length-1:=by rw[Aa];(first|lia|omega)
  rw[en];refine zx (Pa (p:=fun i=>!decide (vc st (i+1)%vc st i=0)) (fun i H' R hi sm hR=>?_) ω cF fun H5 s5 dY=>⟨D2,_,rfl,.inl (SqL.of dY),_,_,rfl,rfl,_,rfl,?_⟩)
  ·have e1:(1:Int)+((i:Nat):Int)=((i+1:Nat):Int):=ω
   have e2:((i+1:Nat):Int)-1=((i:Nat):Int):=ω
   rw[e1];refine⟨_,rfl,_,rfl,a5,_,_,_,rfl,rfl,SqL.of (sm _ _ (W _ _ G)),zi (b8 ω),_,rfl,_,rfl,_,_,rfl,rfl,a5,_,_,_,rfl,rfl,SqL.of (sm _ _ (W _ _ G)),by rw[e2];exact zi (b8 ω),_,_,rfl,rfl,?_,rfl,_,rfl,?_⟩
   ·show 0<vc st i
    rw[gM (show i<st.length from ω)];exact pos _ (AB _)
   ·rw[show decide (V.int (vc st (i+1)%vc st i)=V.int 0)=decide (vc st (i+1)%vc st i=0) from by rw[Bm];simp]
    exact hR
  have O:=W.trans s5;rw[Aa];have mj:decide ((0:Int)<((((Ah (st.length-1)).filter fun i=>!decide (vc st (i+1)%vc st i=0)).length:Nat):Int))=!(AA (fun a b=>decide (b%a=0)) st (st.drop 1)).all id:=by
   have Z:∀i,i<st.length-1->(AA (fun a b=>decide (b%a=0)) st (st.drop 1))[i]?=some (decide (vc st (i+1)%vc st i=0)):=fun i hi=>by
    rw[List.getElem?_zipWith,List.getElem?_drop,Ab (show i<st.length from ω),Ab (show 1+i<st.length from ω),gM ω,gM ω];simp[Nat.add_comm]
   cases c:(AA (fun a b=>decide (b%a=0)) st (st.drop 1)).all id with
   |true=>
    have:(Ah (st.length-1)).filter (fun i=>!decide (vc st (i+1)%vc st i=0))=[]:=List.filter_eq_nil_iff.mpr fun i hi=>by
     have hi:=List.mem_range.mp hi;have:=List.all_eq_true.mp c _ (Ak (Z i hi));have this:decide (vc st (i+1)%vc st i=0)=true:=this;rw[this];decide
    rw[this];rfl
   |false=>
    obtain⟨i,hi,hn⟩:∃i,i<st.length-1/\¬vc st (i+1)%vc st i=0:=by
     refine AC fun no=>?_;have:(AA (fun a b=>decide (b%a=0)) st (st.drop 1)).all id=true:=List.all_eq_true.mpr fun x hx=>by
      obtain⟨i,hi,rfl⟩:=Be hx;have hi2:i<st.length-1:=by rw[AG,List.length_drop] at hi;(first|lia|omega)
      have:=Z i hi2;rw[Ab hi] at this;rw[AR this];exact decide_eq_true (AC fun z=>no ⟨i,hi2,z⟩)
     rw[c] at this;cases this
    have Y:i∈(Ah (st.length-1)).filter (fun i=>!decide (vc st (i+1)%vc st i=0)):=List.mem_filter.mpr ⟨List.mem_range.mpr hi,by rw[decide_eq_false hn];rfl⟩;have:=List.length_pos_of_mem Y;rw[decide_eq_true ω];rfl
  rw[mj];cases c5:(AA (fun a b=>decide (b%a=0)) st (st.drop 1)).all id with
  |false=>
   have e:cx st mi=false:=by unfold cx;rw[c5,Bool.and_false]
   rw[e] at k;exact aA (k H5 O)
  |true=>
  have e:cx st mi=true:=by unfold cx;rw[c4,c5,decide_eq_false c3];rfl
  rw[e,Bool.true_and] at k;obtain⟨lu,wu,_,_⟩:=Kh c1;obtain⟨lv,wv,_,_⟩:=Kh J;obtain⟨v1,v2,v3⟩:=kS lv wv t2;obtain⟨u1,u2,u3⟩:=kS lu wu t1;refine az ⟨_,rfl,_,rfl,a1,L,d1,rs,u,tb,rfl,O _ _ h1,O _ _ T,r1.same O,hT.same O,u1,it,by rw[u3],fun r hr x hx q hq y hy=>gH (su.big r hr x hx) (s9.low.big q hq y hy),fun E1 H6 es s6 hE iy re=>?_⟩;have fh:=O.trans s6;have w0:(mulT u tb).length=0->wid tb=0:=fun h=>by
   rw[ji,lu] at h;rw[List.length_eq_zero_iff.mp h];rfl
  refine⟨_,rfl,E1,a3,es,d3,mulT u tb,v,rfl,iy,fh _ _ h3,re,r3.same fh,O_ nF w0 (by rw[ji,lu];exact t1) t2,v1,by rw[nG nF w0,lv],fun r hr x hx q hq y hy=>gH ?_ (sv.big q hq y hy),fun E2 H7 gQ s7 qP mO gv=>?_⟩
  ·unfold mulT at hr
   obtain⟨q,hq,rfl⟩:=List.mem_map.mp hr;obtain⟨cc,fI,rfl⟩:=List.mem_map.mp hx;exact J4 (su q hq) (kX s9 cc fI) (by rw[yE cc fI];exact t1)
  have i4:=fh.trans s7;refine⟨_,rfl,L,_,rfl,.inl (SqL.of (i4 _ _ T)),_,rfl,ω,by rw[Aa,aL];(first|lia|omega),?_⟩;rw[Aa,aL];generalize hF:mulT (mulT u tb) v=Fd at gv k;have lF:Fd.length=tb.length:=by rw[<-hF,ji,ji,lu]
  have wF:∀r∈Fd,r.length=wid tb:=fun r hr=>by rw[<-hF] at hr;rw[nF r hr,v3]
  have BR:=gv.len;refine CB (lo:=0) (n:=tb.length) (fun i σ H8=>∃(v9 l o:Option V),σ=[some (.ref L),some (.ref p),some (.ref a1),some (.ref a2),some (.ref a3),some (.ref a4),some (.ref a5),some (.int (wid tb)),some (.ref E2),v9,l,o]/\Same H7 H8/\∀a b,a<i->b<wid tb->fn Fd a b=c9 st a b)
   ⟨none,none,none,rfl,Same.refl _,fun a b h=>absurd h (Nat.not_lt_zero _)⟩ ?_ ?_
  ·rintro i σ H8 hi ⟨v9,l,o,rfl,s8,all⟩
   rw[show(0:Int)+((i:Nat):Int)=((i:Nat):Int) from ω];refine⟨_,rfl,_,rfl,ω,ω,CB (lo:=0) (n:=wid tb) (fun j σ H9=>∃(l o:Option V),σ=[some (.ref L),some (.ref p),some (.ref a1),some (.ref a2),some (.ref a3),some (.ref a4),some (.ref a5),some (.int (wid tb)),some (.ref E2),some (.int i),l,o]/\Same H7 H9/\∀b,b<j->fn Fd i b=c9 st i b)
    ⟨l,o,rfl,s8,fun b h=>absurd h (Nat.not_lt_zero _)⟩ ?_ ?_⟩
   ·rintro j σ H9 hj ⟨l,o,rfl,d,gi⟩
    rw[show(0:Int)+((j:Nat):Int)=((j:Nat):Int) from ω];have mV:=i4.trans d;have gE:(gQ.map V.ref)[i]?=some (V.ref (gQ[i]'ω)):=by rw[Aj,Ab (show i<gQ.length from ω)];rfl
    obtain⟨g,ef,hf⟩:=gv.get (Ab (show i<gQ.length from ω));have er:rowAt Fd i=g:=zE ef;have lf:j<g.length:=by rw[wF g (Ak ef)];exact hj
    have step:∀b,b<j+1->vc g j=c9 st i j->fn Fd i b=c9 st i b:=fun b hb h=>by
     by_cases c:b=j
     ·subst c;unfold fn;rw[er];exact h
     ·exact gi b ω
    have no:¬vc g j=c9 st i j->Q (.bl false) H9:=fun h=>by
     have e:jf Fd st tb.length (wid tb)=false:=by
      cases c:jf Fd st tb.length (wid tb) with
      |false=>rfl
      |true=>
       unfold jf at c;have h1:=List.all_eq_true.mp (List.all_eq_true.mp c i (List.mem_range.mpr hi)) j (List.mem_range.mpr hj);have h2:=of_decide_eq_true h1;unfold fn at h2;rw[er] at h2;exact absurd h2 h
     rw[e] at k;exact k H9 mV
    have fin:∀(A1 A2:Prop)(x:Int),x=c9 st i j->(vc g j=c9 st i j->A2)->(¬vc g j=c9 st i j->A1)->if(!decide (V.int (vc g j)=V.int x))=true then A1 else A2:=fun A1 A2 x hx h1 h2=>by
     by_cases c:vc g j=x
     ·rw[show(!decide (V.int (vc g j)=V.int x))=false by rw[c];simp]
      exact az (h1 (by rw[<-hx];exact c))
     ·rw[show(!decide (V.int (vc g j)=V.int x))=true by rw[decide_eq_false (fun e=>c (by injection e))];rfl]
      exact aA (h2 (by rw[<-hx];exact c))
    refine⟨_,rfl,_,rfl,rfl,_,rfl,?_⟩
    by_cases c:i=j
    ·rw[decide_eq_true (by rw[c]:V.int ((i:Nat):Int)=V.int ((j:Nat):Int))]
     refine aA ⟨_,rfl,_,rfl,a5,_,rfl,.inl (SqL.of (mV _ _ G)),_,_,rfl,rfl,_,rfl,?_⟩;rw[Aa]
     by_cases J:i<st.length
     ·rw[decide_eq_true (show((i:Nat):Int)<((st.length:Nat):Int) from ω)]
      refine aA ⟨_,rfl,_,rfl,a5,_,_,_,rfl,rfl,SqL.of (mV _ _ G),zi (b8 J),?_⟩;refine⟨_,rfl,_,rfl,E2,_,_,_,rfl,rfl,SqL.of (d _ _ mO),zi gE,_,rfl,_,_,_,_,rfl,rfl,SqL.of (d _ _ hf),zi (b8 lf),_,rfl,rfl,_,rfl,?_⟩;exact fin _ _ _ (by unfold c9;rw[if_pos ⟨c,J⟩]) (fun h=>⟨_,_,rfl,d,fun b hb=>step b hb h⟩) (fun h=>(no h))
     ·rw[decide_eq_false (show ¬((i:Nat):Int)<((st.length:Nat):Int) from ω)]
      refine az ?_;refine⟨_,rfl,_,rfl,E2,_,_,_,rfl,rfl,SqL.of (d _ _ mO),zi gE,_,rfl,_,_,_,_,rfl,rfl,SqL.of (d _ _ hf),zi (b8 lf),_,rfl,rfl,_,rfl,?_⟩;exact fin _ _ _ (by unfold c9;rw[if_neg fun h=>J h.2]) (fun h=>⟨_,_,rfl,d,fun b hb=>step b hb h⟩) (fun h=>(no h))
    ·rw[decide_eq_false (fun e=>c (by injection e with e;(first|lia|omega)):¬V.int ((i:Nat):Int)=V.int ((j:Nat):Int))]
     refine az (az ?_);refine⟨_,rfl,_,rfl,E2,_,_,_,rfl,rfl,SqL.of (d _ _ mO),zi gE,_,rfl,_,_,_,_,rfl,rfl,SqL.of (d _ _ hf),zi (b8 lf),_,rfl,rfl,_,rfl,?_⟩;exact fin _ _ _ (by unfold c9;rw[if_neg fun h=>c h.1]) (fun h=>⟨_,_,rfl,d,fun b hb=>step b hb h⟩) (fun h=>(no h))
   ·rintro σ H9 ⟨l,o,rfl,d,gi⟩
    exact⟨_,_,_,rfl,d,fun a b ha hb=>by
     by_cases c:a=i
     ·subst c;exact gi b hb
     ·exact all a b ω hb⟩
  ·rintro σ H8 ⟨v9,l,o,rfl,s8,all⟩
   have e:jf Fd st tb.length (wid tb)=true:=by
    unfold jf;rw[AZ];intro a ha;rw[AZ];exact fun b hb=>decide_eq_true (all a b (List.mem_range.mp ha) (List.mem_range.mp hb))
   rw[e] at k;exact k H8 (i4.trans s8)
end
def Rws.updAt{H:Hp}{ds:List Addr}{tb:Ξ}{d:Addr}{ns:List Int}(h:Rws H ds tb):∀i:Nat,ds.Nodup->ds[i]?=some d->Rws (L2.upd H d (.lst (ns.map V.int))) ds (tb.set i ns):=by
 induction h with
 |nil=>intro i _ e;simp at e
 |cons r t ih=>
  intro i a e;obtain⟨n1,n2⟩:=List.nodup_cons.mp a;cases i with
  |zero=>
   simp at e;subst e;exact .cons zc (Rws.upd t fun x hx z=>n1 (z▸hx))
  |succ i=>
   rw[List.getElem?_cons_succ] at e;exact .cons (by rw[af (fun z=>n1 (by rw[z];exact Ak e))];exact r) (ih i n2 e)
structure Ap(H:Hp)(A:Nat->Addr)(D:Nat->List Addr)(T:Nat->Ξ)(n:Nat):Prop where
 at_:∀i,i<n->H (A i)=some (.lst ((D i).map V.ref))
 rw:∀i,i<n->Rws H (D i) (T i)
 nd:∀i,i<n->(D i).Nodup/\∀d∈D i,d≠A i
 dj:∀i k,i<n->k<n->i≠k->Dj (A i::D i) (A k::D k)
def pt{a:Type}(f:Nat->a)(k:Nat)(x:a):Nat->a:=fun i=>if i=k then x else f i
def zz{a:Type}{f:Nat->a}{k:Nat}{x:a}:pt f k x k=x:=if_pos rfl
def b3{a:Type}{f:Nat->a}{k i:Nat}{x:a}(h:i≠k):pt f k x i=f i:=if_neg h
def Rws.updF{H:Hp}{ds:List Addr}{tb:Ξ}{x:Addr}{o:HO}(h:Rws H ds tb)(hx:x∉ds):Rws (L2.upd H x o) ds tb:=Rws.upd h fun d hd z=>hx (z▸hd)
def Ap.far{H:Hp}{A:Nat->Addr}{D:Nat->List Addr}{T:Nat->Ξ}{n:Nat}(h:Ap H A D T n){x:Addr}{o:HO}(hx:∀i,i<n->x∉A i::D i):Ap (L2.upd H x o) A D T n:=
 ⟨fun i hi=>by rw[af (fun z:A i=x=>hx i hi (by rw[<-z];exact Aq ..))];exact h.at_ i hi,fun i hi=>(h.rw i hi).updF fun z=>hx i hi (Ao _ z),h.nd,h.dj⟩
def Ap.same{H H':Hp}{A:Nat->Addr}{D:Nat->List Addr}{T:Nat->Ξ}{n:Nat}(h:Ap H A D T n)(s:Same H H'):Ap H' A D T n:=
 ⟨fun i hi=>s _ _ (h.at_ i hi),fun i hi=>(h.rw i hi).same s,h.nd,h.dj⟩
def Ap.there{H:Hp}{A:Nat->Addr}{D:Nat->List Addr}{T:Nat->Ξ}{n:Nat}(h:Ap H A D T n){i:Nat}(hi:i<n):∀z∈A i::D i,H z≠none:=fun z hz=>by
 rcases List.mem_cons.mp hz with e|e
 ·rw[e,h.at_ i hi];exact fun z=>by cases z
 ·exact Rws.there (h.rw i hi) z e
def Ap.row{H:Hp}{A:Nat->Addr}{D:Nat->List Addr}{T:Nat->Ξ}{n k j:Nat}{d:Addr}{ns:List Int}(h:Ap H A D T n)(hk:k<n)(e:(D k)[j]?=some d):Ap (L2.upd H d (.lst (ns.map V.int))) A D (pt T k ((T k).set j ns)) n:=by
 have hd:=Ak e;have ne:∀i,i<n->i≠k->d∉A i::D i:=fun i hi c z=>h.dj i k hi hk c d z d (Ao _ hd) rfl;refine⟨fun i hi=>?_,fun i hi=>?_,h.nd,h.dj⟩
 ·by_cases c:i=k
  ·subst c
   rw[af ((h.nd i hi).2 d hd).symm];exact h.at_ i hi
  ·rw[af (fun z:A i=d=>ne i hi c (by rw[<-z];exact Aq ..))];exact h.at_ i hi
 ·by_cases c:i=k
  ·subst c
   rw[zz];exact(h.rw i hi).updAt j (h.nd i hi).1 e
  ·rw[b3 c]
   exact(h.rw i hi).updF fun z=>ne i hi c (Ao _ z)
def Ap.clear{H:Hp}{A:Nat->Addr}{D:Nat->List Addr}{T:Nat->Ξ}{n k:Nat}(h:Ap H A D T n)(hk:k<n):Ap (L2.upd H (A k) (.lst [])) A (pt D k []) (pt T k []) n:=by
 have ne:∀i,i<n->i≠k->A k∉A i::D i:=fun i hi c z=>h.dj i k hi hk c _ z _ (Aq ..) rfl;have sub:∀i z,z∈A i::pt D k [] i->z∈A i::D i:=fun i z hz=>by
  by_cases c:i=k
  ·rw[c,zz] at hz;rw[c]
   rcases List.mem_cons.mp hz with e|e
   ·rw[e];exact Aq ..
   ·cases e
  ·rwa [b3 c] at hz
 refine⟨fun i hi=>?_,fun i hi=>?_,fun i hi=>?_,fun i l hi f c a g b hb=>h.dj i l hi f c a (sub i a g) b (sub l b hb)⟩
 ·by_cases c:i=k
  ·subst c
   rw[zz,zc];rfl
  ·rw[b3 c,af (fun z:A i=A k=>ne i hi c (by rw[<-z];exact Aq ..))];exact h.at_ i hi
 ·by_cases c:i=k
  ·rw[c,zz,zz];exact .nil
  ·rw[b3 c,b3 c]
   exact(h.rw i hi).updF fun z=>ne i hi c (Ao _ z)
 ·by_cases c:i=k
  ·rw[c,zz];exact⟨List.nodup_nil,fun d hd=>by cases hd⟩
  ·rw[b3 c];exact h.nd i hi
def Ap.put{H:Hp}{A:Nat->Addr}{D:Nat->List Addr}{T:Nat->Ξ}{n m k:Nat}{a:Addr}{ds:List Addr}{tb:Ξ}(h:Ap H A D T n)(f:∀i,i<m->i≠k->i<n)(h1:H a=some (.lst (ds.map V.ref)))(h2:Rws H ds tb)(o:ds.Nodup)(p:∀d∈ds,d≠a)(j:∀i,i<n->Dj (A i::D i) (a::ds)):Ap H (pt A k a) (pt D k ds) (pt T k tb) m:=by
 refine⟨fun i hi=>?_,fun i hi=>?_,fun i hi=>?_,fun i l hi g c=>?_⟩
 ·by_cases c:i=k
  ·rw[c,zz,zz];exact h1
  ·rw[b3 c,b3 c];exact h.at_ i (f i hi c)
 ·by_cases c:i=k
  ·rw[c,zz,zz];exact h2
  ·rw[b3 c,b3 c];exact h.rw i (f i hi c)
 ·by_cases c:i=k
  ·rw[c,zz,zz];exact⟨o,p⟩
  ·rw[b3 c,b3 c];exact h.nd i (f i hi c)
 ·by_cases c1:i=k
  ·have b:l≠k:=fun e=>c (by rw[c1,e])
   rw[c1,zz,zz,b3 b,b3 b];exact fun x hx y hy e=>j l (f l g b) y hy x hx e.symm
  ·rw[b3 c1,b3 c1]
   by_cases b:l=k
   ·rw[b,zz,zz];exact j i (f i hi c1)
   ·rw[b3 b,b3 b];exact h.dj i l (f i hi c1) (f l g b) c
structure Apt(H0 H:Hp)(S KA a5:Addr)(st:List Int)(A B:Nat->Addr)(D E:Nat->List Addr)(T U:Nat->Ξ):Prop where
 sm:Same H0 H
 s:H S=some (.tup [.ref (A 0),.ref (A 1),.ref (A 2),.ref (A 3),.ref a5])
 kp:H KA=some (.lst [.ref (B 0),.ref (B 1),.ref (B 2),.ref (B 3)])
 h5:H a5=some (.lst (st.map V.int))
 a:Ap H A D T 4
 b:Ap H B E U 4
 x:∀i k,i<4->k<4->Dj (A i::D i) (B k::E k)
 na:∀i,i<4->∀z∈A i::D i,H0 z=none/\z≠KA/\z≠a5
 nb:∀i,i<4->∀z∈B i::E i,H0 z=none/\z≠KA/\z≠a5
 nk:H0 KA=none
 n5:H0 a5=none
 k5:KA≠a5
section
variable{H0 H:Hp}{S KA a5:Addr}{st:List Int}{A B:Nat->Addr}{D E:Nat->List Addr}{T U:Nat->Ξ}
def Apt.same{H':Hp}(h:Apt H0 H S KA a5 st A B D E T U)(s:Same H H'):Apt H0 H' S KA a5 st A B D E T U:=
 ⟨h.sm.trans s,s _ _ h.s,s _ _ h.kp,s _ _ h.h5,h.a.same s,h.b.same s,h.x,h.na,h.nb,h.nk,h.n5,h.k5⟩
def tup_ne{H:Hp}{S x:Addr}{xs ys:List V}(h:H S=some (.tup xs))(h2:H x=some (.lst ys)):S≠x:=fun e=>by rw[e,h2] at h;cases h
def Kj{A:Nat->Addr}{D:Nat->List Addr}{k:Nat}:∀i z,z∈A i::pt D k [] i->z∈A i::D i:=fun i z hz=>by
 by_cases c:i=k
 ·rw[c,zz] at hz;rw[c]
  rcases List.mem_cons.mp hz with e|e
  ·rw[e];exact Aq ..
  ·cases e
 ·rwa [b3 c] at hz
def Apt.clear{k:Nat}(h:Apt H0 H S KA a5 st A B D E T U)(hk:k<4):Apt H0 (L2.upd H (A k) (.lst [])) S KA a5 st A B (pt D k []) E (pt T k []) U:=by
 have hd:A k∈A k::D k:=Aq ..;obtain⟨e,n1,n2⟩:=h.na k hk _ hd;exact⟨h.sm.then e,by rw[af (tup_ne h.s (h.a.at_ k hk))];exact h.s,by rw[af n1.symm];exact h.kp,by rw[af n2.symm];exact h.h5,h.a.clear hk,h.b.far fun i hi z=>h.x k i hk hi _ hd _ z rfl,
  fun i l hi c a d b hb=>h.x i l hi c a (Kj i a d) b hb,fun i hi z hz=>h.na i hi z (Kj i z hz),h.nb,h.nk,h.n5,h.k5⟩
def Pc{B:Nat->Addr}{k:Nat}{b:Addr}(hk:k<4):[V.ref (B 0),.ref (B 1),.ref (B 2),.ref (B 3)].set k (.ref b)=[.ref (pt B k b 0),.ref (pt B k b 1),.ref (pt B k b 2),.ref (pt B k b 3)]:=by
 obtain rfl|rfl|rfl|rfl:k=0\/k=1\/k=2\/k=3:=ω
 all_goals rfl
def Apt.put{k:Nat}{b:Addr}(h:Apt H0 H S KA a5 st A B D E T U)(hk:k<4)(hb:H b=none):Apt H0 (L2.upd (L2.upd H b (.lst [])) KA (.lst ([V.ref (B 0),.ref (B 1),.ref (B 2),.ref (B 3)].set k (.ref b)))) S KA a5 st A (pt B k b) D (pt E k []) T (pt U k []):=by
 have p:Same H (L2.upd H b (.lst [])):=Same.new hb;have g:b≠KA:=fun e=>by rw[e,h.kp] at hb;cases hb
 have b5:b≠a5:=fun e=>by rw[e,h.h5] at hb;cases hb
 have q:H0 b=none:=h.sm.free hb;have r:∀i,i<4->b∉A i::D i:=fun i hi z=>h.a.there hi b z hb;have j:∀i,i<4->b∉B i::E i:=fun i hi z=>h.b.there hi b z hb;have f:∀i z,z∈pt B k b i::pt E k [] i->z=b\/z∈B i::E i:=fun i z hz=>by
  by_cases c:i=k
  ·rw[c,zz,zz] at hz
   rcases List.mem_cons.mp hz with e|e
   ·exact .inl e
   ·cases e
  ·rw[b3 c,b3 c] at hz;exact .inr hz
 have h1:=h.same p;have bb:Ap (L2.upd H b (.lst [])) (pt B k b) (pt E k []) (pt U k []) 4:=h1.b.put (fun i hi _=>hi) (by rw[zc];rfl) .nil List.nodup_nil (fun d hd=>by cases hd) fun i hi x hx y hy e=>by
  rcases List.mem_cons.mp hy with e'|e'
  ·rw[<-e',<-e] at j;exact j i hi hx
  ·cases e'
 refine⟨h1.sm.then h.nk,?_,by rw[zc,Pc hk],by rw[af h.k5.symm];exact h1.h5,h1.a.far fun i hi z=>(h.na i hi KA z).2.1 rfl,bb.far fun i hi z=>?_,fun i l hi o x hx y hy e=>?_,h.na,fun i hi z hz=>?_,h.nk,h.n5,h.k5⟩
 ·rw[af (tup_ne h1.s h1.kp)];exact h1.s
 ·rcases f i KA z with e|e
  ·exact g e.symm
  ·exact(h.nb i hi KA e).2.1 rfl
 ·rcases f l y hy with e'|e'
  ·exact r i hi (by rw[<-e',<-e];exact hx)
  ·exact h.x i l hi o x hx y e' e
 ·rcases f i z hz with e|e
  ·rw[e];exact⟨q,g,b5⟩
  ·exact h.nb i hi z e
end
def fo{e:Type}(a b c d:e):Nat->e
 |0=>a
 |1=>b
 |2=>c
 |_=>d
def Bv{i:Nat}(h:i<4):i=0\/i=1\/i=2\/i=3:=ω
def Dj.symm{x y:List Addr}(h:Dj x y):Dj y x:=fun a c b hb e=>h b hb a c e.symm
def Pd{a:Type}{f:Nat->a}{k:Nat}:pt f k (f k)=f:=by
 funext i
 by_cases c:i=k
 ·rw[c,zz]
 ·rw[b3 c]
section
variable{H H':Hp}{p:Addr}{u ub v vb:Ξ}{st:List Int}{a1 a2 a3 a4 a5:Addr}{d1 d2 d3 d4:List Addr}
def PapH.nt(h:PapH H H' p u ub v vb st a1 a2 a3 a4 a5 d1 d2 d3 d4)(i:Nat)(hi:i<4):NT H H' (fo a1 a2 a3 a4 i) (fo d1 d2 d3 d4 i) (fo u ub v vb i):=by
 obtain rfl|rfl|rfl|rfl:=Bv hi
 ·exact h.n1
 ·exact h.n2
 ·exact h.n3
 ·exact h.n4
def PapH.ap(h:PapH H H' p u ub v vb st a1 a2 a3 a4 a5 d1 d2 d3 d4):Ap H' (fo a1 a2 a3 a4) (fo d1 d2 d3 d4) (fo u ub v vb) 4:=by
 refine⟨fun i hi=>(h.nt i hi).at_,fun i hi=>(h.nt i hi).rows,fun i hi=>⟨(h.nt i hi).nd,fun d hd=>((h.nt i hi).nw d hd).2⟩,fun i k hi hk c=>?_⟩;obtain rfl|rfl|rfl|rfl:=Bv hi<;>obtain rfl|rfl|rfl|rfl:=Bv hk
 ·exact absurd rfl c
 ·exact h.j12
 ·exact h.j13
 ·exact h.j14
 ·exact h.j12.symm
 ·exact absurd rfl c
 ·exact h.j23
 ·exact h.j24.symm
 ·exact h.j13.symm
 ·exact h.j23.symm
 ·exact absurd rfl c
 ·exact h.j34.symm
 ·exact h.j14.symm
 ·exact h.j24
 ·exact h.j34
 ·exact absurd rfl c
end
def Pe{A:Nat->Addr}{k:Nat}(hk:k<4):[V.ref (A 0),.ref (A 1),.ref (A 2),.ref (A 3)][k]?=some (.ref (A k)):=by
 obtain rfl|rfl|rfl|rfl:=Bv hk<;>rfl
section
variable{P:Program}{w:World}{K:Ag}{mg:Str->Option Value}{base:Heap}
def Apt.eq{H0 H:Hp}{S KA a5:Addr}{st:List Int}{A B:Nat->Addr}{D E:Nat->List Addr}{T:Nat->Ξ}(h:Apt H0 H S KA a5 st A B D E T T){q:Addr}(hq:H q=none){Z:VK}(k:Z (.bl false) (upd H q (.lst [.ref (A 0),.ref (A 1),.ref (A 2),.ref (A 3)]))):gl true K (.ref q) (.ref KA) (upd H q (.lst [.ref (A 0),.ref (A 1),.ref (A 2),.ref (A 3)])) Z:=by
 have h1:=h.same (Same.new (o:=.lst [.ref (A 0),.ref (A 1),.ref (A 2),.ref (A 3)]) hq);have c:∀i,i<4->DV K (upd H q (.lst [.ref (A 0),.ref (A 1),.ref (A 2),.ref (A 3)])) (.ref (A i)) (aZ (T i)):=fun i hi=>dI (SqL.of (h1.a.at_ i hi)) (h1.a.rw i hi);have d:∀i,i<4->DV K (upd H q (.lst [.ref (A 0),.ref (A 1),.ref (A 2),.ref (A 3)])) (.ref (B i)) (aZ (T i)):=fun i hi=>dI (SqL.of (h1.b.at_ i hi)) (h1.b.rw i hi);refine⟨jd [T 0,T 1,T 2,T 3],jd [T 0,T 1,T 2,T 3],.lst (SqL.of zc) (.cons (c 0 ξ) (.cons (c 1 ξ) (.cons (c 2 ξ) (.cons (c 3 ξ) .nil)))),.lst (SqL.of h1.kp) (.cons (d 0 ξ) (.cons (d 1 ξ) (.cons (d 2 ξ) (.cons (d 3 ξ) .nil)))),JW _,JW _,OF _ _,?_⟩;rw[if_pos rfl,OE,decide_eq_true rfl];exact k
abbrev Pf(K:Ag):List V->Hp->VK->Prop:=fun xs H Q=>∃p ys,xs=[.ref p]/\(SqL K H p ys\/SqT K H p ys)/\∀l,H l=none->Q (.ref l) (upd H l (.lst ys))
abbrev qL(K:Ag):TE:=iR (Pf K) (ca (av 0) bK)
def GL{H2:Hp}{L D:Addr}{rs:List Addr}{tb:Ξ}{Q:VK}{c:List (Option V)}(b:SqL K H2 L (rs.map V.ref))(p:Rws H2 rs tb)(hz:tb.length<=1000)(q:H2 D=none)(k:∀a ds,Same H2 a->a D=some (.lst (ds.map V.ref))->Rws a ds tb->ds.Nodup->(∀d∈ds,H2 d=none/\d≠D)->Q (.ref D) a):cH (fL K L) (zL 0) bM (qL K) (none::c) H2 D Q:=by
 refine pf (g:=fun r=>r) (fun o os H R sm f s h=>⟨_,rfl,o,_,rfl,.inl (SqL.of f),fun l b=>h l _ (Same.new b) b zc⟩) b p hz q fun a ds sm e hr i j=>?_;rw[List.map_id'] at hr;exact k a ds sm e hr i j
abbrev GM(K:Ag):TE:=hX (GX K (av 0)) [none] (zL 0) bM (qL K)
def Kk{H2:Hp}{L g:Addr}{A:Nat->Addr}{D:Nat->List Addr}{T:Nat->Ξ}{Q:VK}{c:List (Option V)}(M:H2 L=some (.tup [.ref (A 0),.ref (A 1),.ref (A 2),.ref (A 3)]))(ap:Ap H2 A D T 4)(hz:∀i,i<4->(T i).length<=40)(C:H2 g=none)(k:∀a B E,Same H2 a->a g=some (.lst [.ref (B 0),.ref (B 1),.ref (B 2),.ref (B 3)])->Ap a B E T 4->(∀i,i<4->∀z∈B i::E i,H2 z=none/\z≠g)->Q (.ref g) a):cH (Ct K L) (zL 0) bM (GM K) (none::c) H2 g Q:=by
 refine L7 (xs:=[.ref (A 0),.ref (A 1),.ref (A 2),.ref (A 3)]) (fun j σ ys a=>∃(v:Option V)(B:Nat->Addr)(E:Nat->List Addr),σ=v::c/\Same H2 a/\a g=some (.lst ys)/\ys=(Ah j).map (fun i=>V.ref (B i))/\Ap a B E T j/\∀i,i<j->∀z∈B i::E i,H2 z=none/\z≠g)
  ⟨none,A,D,rfl,Same.new C,zc,rfl,⟨fun i hi=>absurd hi (Nat.not_lt_zero _),fun i hi=>absurd hi (Nat.not_lt_zero _),fun i hi=>absurd hi (Nat.not_lt_zero _),fun i k hi=>absurd hi (Nat.not_lt_zero _)⟩,fun i hi=>absurd hi (Nat.not_lt_zero _)⟩
  (fun i σ ys a ⟨_,_,_,_,sm,_⟩=>SqT.of (sm _ _ M)) ?_ ?_
 ·rintro j σ ys a x hx u hy ⟨v,B,E,rfl,h,b,rfl,q,s⟩
  have f:j<4:=u;rw[Pe f] at hx;obtain rfl:=AR hx;refine cL ?_;have a3:=ap.same h;refine⟨_,rfl,A j,rfl,⟨_,SqL.of (a3.at_ j f)⟩,fun o l=>zx (GL (SqL.of (a3.at_ j f)) (a3.rw j f) (by have:=hz j f;(first|lia|omega)) l fun N ds r F G I p=>?_)⟩;have e1:H2 o=none:=h.free l;have n1:o≠g:=fun e=>by rw[e,b] at l;cases l
  have n2:∀d∈ds,d≠g:=fun d hd e=>by
   have:=(p d hd).1;rw[e,b] at this;cases this
  have J:=q.same r;have w:Ap N (pt B j o) (pt E j ds) (pt T j (T j)) (j+1):=J.put (fun i hi c=>ω) F G I (fun d hd=>(p d hd).2) fun i hi=>gR (H:=a) (q.there hi) fun z hz=>by
   rcases List.mem_cons.mp hz with e|e
   ·rw[e];exact l
   ·exact(p z e).1
  rw[Pd] at w;have y:∀i,i<j+1->∀z∈pt B j o i::pt E j ds i,H2 z=none/\z≠g:=fun i hi z hz=>by
   by_cases c:i=j
   ·rw[c,zz,zz] at hz
    rcases List.mem_cons.mp hz with e|e
    ·rw[e];exact⟨e1,n1⟩
    ·exact⟨h.free (p z e).1,n2 z e⟩
   ·rw[b3 c,b3 c] at hz
    exact s i ω z hz
  refine bN (zv (by simp)) u hy (r _ _ b) ⟨_,pt B j o,pt E j ds,rfl,(h.trans r).then C,zc,?_,w.far fun i hi z=>(y i hi g z).2 rfl,y⟩;rw[List.range_succ,At,List.map_singleton,zz]
  congr 1
  refine Bb fun i hi=>?_;rw[b3 (AD (List.mem_range.mp hi))]
 ·rintro σ ys a ⟨v,B,E,rfl,h,b,rfl,q,s⟩
  exact k a B E h b q s
end
def BD{a b:Tb.Vc}:∀n,Tb.dot (n+1) a b=a 0*b 0+Tb.dot n (fun u=>a (u+1)) (fun u=>b (u+1))
 |0=>by show(0:Int)+a 0*b 0=a 0*b 0+0;(first|lia|omega)
 |n+1=>by
  show Tb.dot (n+1) a b+a (n+1)*b (n+1)=a 0*b 0+(Tb.dot n _ _+a (n+1)*b (n+1));rw[BD n];(first|lia|omega)
def Kl:∀{r c:List Int},r.length=c.length->dot r c=Tb.dot r.length (vc r) (vc c)
 |[],[],_=>rfl
 |x::r,y::c,h=>by
  have e:dot (x::r) (y::c)=x*y+dot r c:=rfl;rw[e,Kl (Nat.succ.inj h),AH,BD]
  rfl
def DL{u v:Ξ}{i j:Nat}(hi:i<u.length)(a:j<wid v)(h:∀r∈u,r.length=v.length):fn (mulT u v) i j=Tb.dot v.length (fn u i) (fun s=>fn v s j):=by
 have e1:rowAt (mulT u v) i=(turn v).map (dot (rowAt u i)):=zE (by
  unfold mulT;rw[Aj,Ab hi,zE (Ab hi)];rfl)
 have b:(rowAt u i).length=v.length:=h _ (zG hi);have e2:vc ((turn v).map (dot (rowAt u i))) j=dot (rowAt u i) (colAt v j):=by
  unfold vc turn;rw[Ac,Aj,Aj,AM a];rfl
 show vc (rowAt (mulT u v) i) j=_;rw[e1,e2,Kl (by rw[b];unfold colAt;simp),b];refine Tb.zF fun s _=>?_;have:=eX (T:=v) a s;unfold fn at this;rw[qk a] at this;exact this
def Pg{st:List Int}{m:Int}(h1:(st.length:Int)<=m)(h2:∀x∈st,0<x)(d:∀i,i+1<st.length->vc st i ∣ vc st (i+1)):cx st m=true:=by
 unfold cx;rw[decide_eq_false ω,List.all_eq_true.mpr fun x hx=>decide_eq_true (h2 x hx)];show(AA (fun a b=>decide (b%a=0)) st (st.drop 1)).all id=true;rw[AZ];intro x hx;obtain⟨i,hi,rfl⟩:=Be hx;have c:i+1<st.length:=by rw[AG,List.length_drop] at hi;(first|lia|omega)
 rw[Bh,List.getElem_drop];have:=d i c;rw[gM ω,gM c] at this;refine decide_eq_true ?_;have e:st[1+i]'ω=st[i+1]:=by congr 1;(first|lia|omega)
 rw[e];exact Int.emod_eq_zero_of_dvd this
def GN{st:List Int}{k w i j:Nat}(hi:i<k)(a:j<w):fn (slpT st k w) i j=if i=j/\i<st.length then vc st i else 0:=by
 unfold fn slpT;rw[qk hi];unfold bY vc
 by_cases c:i<st.length
 ·rw[if_pos c,Ac,List.getElem?_set]
  by_cases d:i=j
  ·rw[if_pos d,if_pos (show i<(Ay w (0:Int)).length by rw[List.length_replicate];(first|lia|omega)),if_pos (And.intro d c)];rfl
  ·rw[if_neg d,if_neg fun h=>d h.1,List.getElem?_replicate,if_pos a];rfl
 ·rw[if_neg c,if_neg fun h=>c h.2,Ac,List.getElem?_replicate,if_pos a];rfl
def Km{st:List Int}{k w:Nat}:∀r∈slpT st k w,r.length=w:=fun r hr=>by
 unfold slpT at hr;obtain⟨i,_,rfl⟩:=List.mem_map.mp hr;exact JJ
def BF{u v:Ξ}{n:Nat}(d:u.length=n)(e:∀r∈u,r.length=n)(a:v.length=n)(f:∀r∈v,r.length=n)(h:∀i j,i<n->j<n->Tb.dot n (fn u i) (fun s=>fn v s j)=Tb.dl i j):mulT u v=unT n:=by
 have c:wid v=n:=nG f fun h=>ω
 refine DK (by rw[ji,d]) ya (fun r hr=>by rw[nF r hr,c]) jL fun i j hi b=>?_;rw[DL ω ω (by rw[a];exact e),a,h i j hi b,kM hi]
 rfl
section
variable{k w:Nat}{tb u ub v vb:Ξ}{st:List Int}
def Pap.prod(p:Pap k w (fn tb) u ub v vb st)(l:tb.length=k)(d:∀r∈tb,r.length=w)(hw:wid tb=w){i j:Nat}(hi:i<k)(b:j<w):fn (mulT (mulT u tb) v) i j=if i=j/\i<st.length then vc st i else 0:=by
 have c:wid v=w:=nG p.wv fun h=>by have:=p.lv;(first|lia|omega)
 rw[DL (by rw[ji,p.lu];exact hi) ω (fun r hr=>by rw[nF r hr,p.lv,hw]),p.lv];have e:∀t,t<w->fn (mulT u tb) i t=Tb.dot k (fn u i) (fun s=>fn tb s t):=fun t a=>by
  rw[DL (by rw[p.lu];exact hi) ω (by rw[l];exact p.wu),l]
 rw[Tb.iq e,Tb.yA];exact p.pr i j hi b
def Pap.law(p:Pap k w (fn tb) u ub v vb st)(l:tb.length=k)(b:∀r∈tb,r.length=w)(hw:wid tb=w):iJ tb u ub v vb st=true/\dw tb u ub v vb st=true:=by
 have a1:zX u k=true:=zH.mpr ⟨p.lu,p.wu⟩;have a2:zX ub k=true:=zH.mpr ⟨p.lub,p.wub⟩;have a3:zX v w=true:=zH.mpr ⟨p.lv,p.wv⟩;have a4:zX vb w=true:=zH.mpr ⟨p.lvb,p.wvb⟩;have c:=BF p.lu p.wu p.lub p.wub p.u1;have m2:=BF p.lub p.wub p.lu p.wu p.u2;have d:=BF p.lv p.wv p.lvb p.wvb p.v1;have e:=BF p.lvb p.wvb p.lv p.wv p.v2;have f:cx st (if(w:Int)<(k:Int) then(w:Int) else(k:Int))=true:=Pg (by have:=p.sk;have:=p.sw;split<;>(first|lia|omega)) p.sp p.sd;have g:wid v=w:=nG p.wv fun h=>by have:=p.lv;(first|lia|omega)
 unfold iJ dw eH bP;rw[hw,l,a1,a2,a3,a4,c,m2,d,e,f];simp only[decide_true,Bool.and_self,Bool.true_and];constructor
 ·unfold jf
  rw[AZ];intro i hi;rw[AZ];intro j a;exact decide_eq_true (p.prod l b hw (List.mem_range.mp hi) (List.mem_range.mp a))
 ·refine decide_eq_true (DK (by rw[ji,ji,p.lu]) (by unfold slpT;simp) (fun r hr=>by rw[nF r hr,g]) Km fun i j hi a=>?_)
  rw[p.prod l b hw hi a,GN hi a]
end
def k4:Good 6 3 10:=⟨ξ,ξ,ξ,ξ,ξ,ξ⟩
def Ph{tb:Ξ}{m:Int}{q:Nat}(h:∀r∈tb,Bnd m r)(a:m<=(2 ^ q:Nat)):Ent tb (2 ^ q):=fun i u=>by
 unfold fn
 by_cases c:i<tb.length
 ·have hr:=h _ (zG c)
  by_cases d:u<(rowAt tb i).length
  ·rw[gM d]
   have:=hr _ (AB d);(first|lia|omega)
  ·rw[E' ω];exact Az _
 ·rw[x8 ω];exact Az _
def Pi(tb:Ξ):Prop:=∃N n m,Gz N n m tb.length (wid tb) tb
def Kn{tb:Ξ}{N n m c:Nat}{b:Int}(g:Good N n m)(hr:∀r∈tb,r.length=c/\Bnd b r)(f:tb.length<=N)(hc:c<=N)(hb:b<=(2 ^ m:Nat)):cN tb=true/\Pi tb/\Sm9 tb:=by
 have i:=g.N40;have a:(∀r∈tb,r.length=wid tb)/\wid tb<=N:=by
  cases e:tb with
  |nil=>exact⟨fun r hr=>(by cases hr),Az _⟩
  |cons x l=>
   rw[e] at hr;have e1:wid (x::l)=x.length:=rfl;rw[e1,(hr x (Aq ..)).1];exact⟨fun r h=>(hr r h).1,hc⟩
 have d:=Ph (fun r h=>(hr r h).2) hb;refine⟨?_,⟨N,n,m,g,rfl,a.1,d,f,a.2⟩,fun r hr x hx=>Af (d.mem r hr x hx) (Aw ξ g.m9)⟩;unfold cN;rw[decide_eq_true (show tb.length<=40 from ω),decide_eq_true (show wid tb<=40 from ω)];simp only[Bool.and_self,Bool.true_and,AZ];exact fun r h=>decide_eq_true (a.1 r h)
end K23
end
section
namespace Tb
def BD{a b:Vc}:∀n,dot (n+1) a b=a 0*b 0+dot n (fun u=>a (u+1)) (fun u=>b (u+1))
 |0=>by show(0:Int)+a 0*b 0=a 0*b 0+0;(first|lia|omega)
 |n+1=>by
  show dot (n+1) a b+a (n+1)*b (n+1)=a 0*b 0+(dot n _ _+a (n+1)*b (n+1));rw[BD n];(first|lia|omega)
def Ko{p:Nat}:∀(L:List Vc)(c:List Int),c.length=L.length->cmb c L p=dot L.length (fun i=>c.getD i 0) (fun i=>(L.getD i fun _=>0) p)
 |[],[],_=>rfl
 |v::L,a::c,h=>by
  rw[AH,BD];show a*v p+cmb c L p=_;rw[Ko L c (Nat.succ.inj h)]
  rfl
def k6(U:Nat->Vc):Nat->Nat->Nat
 |0,_=>1
 |i+1,n=>k6 U i n+dotA (U i) n
where dotA (v:Vc):Nat->Nat
 |0=>0
 |n+1=>dotA v n+(v n).natAbs
def Kp{v:Vc}:∀{n t:Nat},t<n->(v t).natAbs<=k6.dotA v n
 |n+1,t,h=>by
  show _<=k6.dotA v n+(v n).natAbs
  by_cases c:t=n
  ·rw[c];(first|lia|omega)
  ·have:=Kp (v:=v) (n:=n) (t:=t) ω
   (first|lia|omega)
def Kq{U:Nat->Vc}{n t:Nat}(a:t<n):∀{k i:Nat},i<k->(U i t).natAbs<=k6 U k n
 |k+1,i,h=>by
  show _<=k6 U k n+k6.dotA (U k) n
  by_cases c:i=k
  ·rw[c]
   have:=Kp (v:=U k) a;(first|lia|omega)
  ·have:=Kq (U:=U) a (k:=k) (i:=i) ω
   (first|lia|omega)
def GO{U:Nat->Vc}{n:Nat}:∀k,1<=k6 U k n
 |0=>Ad _
 |k+1=>Af (GO k) (AY _ _)
def Pj{n:Nat}{U B:Nat->Vc}(h:∀i j,i<n->j<n->dot n (U i) (fun s=>B s j)=dl i j):∀i j,i<n->j<n->dot n (B i) (fun s=>U s j)=dl i j:=by
 intro d f q r
 let R:List Vc:=(Ah n).map U++[un d]
 have w:R.length=n+1:=by simp[R]
 have G:∀i,i<n->(R.getD i fun _=>0)=U i:=fun i hi=>by
  simp only[R];rw[Ac,List.getElem?_append_left (by simpa using hi),Aj,AM hi]
  rfl
 have H:(R.getD n fun _=>0)=un d:=by
  simp only[R];rw[Ac,List.getElem?_append_right (by simp)];simp
 obtain⟨c,E,⟨x,hx,u⟩,hz,_⟩:=eP (R:=R) (P:=Ah n) (M:=k6 U n n) (GO _) (fun v hv p hp=>by
  have hp:=List.mem_range.mp hp;rcases List.mem_append.mp hv with hv|hv
  ·obtain⟨i,hi,rfl⟩:=List.mem_map.mp hv
   exact Kq hp (List.mem_range.mp hi)
  ·rw[List.mem_singleton.mp hv]
   refine Af ?_ (GO n);unfold un dl;split<;>decide) (by rw[A9,w];(first|lia|omega))
 let a:Vc:=fun i=>c.getD i 0
 have eq:∀p,p<n->dot n a (fun i=>U i p)+a n*dl d p=0:=fun p hp=>by
  have:=hz p (List.mem_range.mpr hp);rw[Ko R c E,w] at this;have e:dot (n+1) (fun i=>c.getD i 0) (fun i=>(R.getD i fun _=>0) p)=dot n a (fun i=>(R.getD i fun _=>0) p)+a n*(R.getD n fun _=>0) p:=rfl;rw[e,H] at this;rw[zF (b':=fun i=>U i p) (fun i hi=>by rw[G i hi])] at this;exact this
 have g:∀j,j<n->a j=-(a n*B d j):=fun j o=>by
  have e1:dot n (fun p=>dot n a (fun i=>U i p)+a n*dl d p) (fun p=>B p j)=0:=pQ fun p hp=>eq p hp;have e2:dot n (fun p=>dot n a (fun i=>U i p)+a n*dl d p) (fun p=>B p j)=dot n (fun p=>dot n a (fun i=>U i p)) (fun p=>B p j)+a n*dot n (fun p=>dl d p) (fun p=>B p j):=by
   have:=vB (k:=n) (a:=fun p=>dot n a (fun i=>U i p)) (a':=fun p=>dl d p) (b:=fun p=>B p j) (x:=1) (y:=a n)
   simpa using this
  have e3:dot n (fun p=>dot n a (fun i=>U i p)) (fun p=>B p j)=a j:=by
   rw[yA (B:=U),zF (b':=fun s=>dl s j) (fun s C=>h s j C o),Fj o]
  have I:dot n (fun p=>dl d p) (fun p=>B p j)=B d j:=FG q;rw[e2,e3,I] at e1;(first|lia|omega)
 have nz:a n≠0:=fun z=>by
  have l:∀j,j<n->a j=0:=fun j o=>by rw[g j o,z];simp
  obtain⟨i,hi,rfl⟩:=Be hx;have A:a i=c[i]:=by show c.getD i 0=_;rw[Ac,Ab hi];rfl
  by_cases L:i<n
  ·exact u (by rw[<-A];exact l i L)
  ·have:i=n:=ω
   subst this;exact u (by rw[<-A];exact z)
 have e:=eq f r;have J:dot n a (fun i=>U i f)=-(a n)*dot n (B d) (fun i=>U i f):=by
  have:=vB (k:=n) (a:=B d) (a':=fun _=>0) (b:=fun i=>U i f) (x:=-(a n)) (y:=0);simp only[Int.zero_mul,Int.add_zero] at this;rw[<-this];refine iq fun t D=>?_;rw[g t D];simp[Int.neg_mul]
 rw[J] at e;have F:a n*(dl d f-dot n (B d) (fun i=>U i f))=0:=by
  rw[Int.mul_sub];rw[Int.neg_mul] at e;(first|lia|omega)
 rcases Int.mul_eq_zero.mp F with z|z
 ·exact absurd z nz
 ·(first|lia|omega)
end Tb
end
section
namespace L2
open PySem PySem.Spec PyProof.Rows
def RD(K:Ag)(H:Hp)(x:V)(d:PyData):Prop:=∀(X:Cx)(aa:Ψ)(σ:St)(s:Shared)(u:Value),X.K=K->Inv X aa σ H s->RelV x u->∃a,Reads s.heap u d a
def RDs(K:Ag)(H:Hp)(xs:List V)(ds:List PyData):Prop:=∀(X:Cx)(aa:Ψ)(σ:St)(s:Shared)(us:List Value),X.K=K->Inv X aa σ H s->Vals xs us->∃a,ReadsAll s.heap us ds a
section
variable{K:Ag}{H:Hp}
def RD.dv{x:V}{d:PyData}(h:DV K H x d):RD K H x d:=fun X aa σ s u e I r=>by subst e;exact h.reads I r
def RDs.nil:RDs K H [] []:=fun X aa σ s us e I r=>by cases r;exact⟨_,.nil⟩
def RDs.cons{x:V}{d:PyData}{xs:List V}{ds:List PyData}(h:RD K H x d)(t:RDs K H xs ds):RDs K H (x::xs) (d::ds):=fun X aa σ s us e I r=>by
 cases r with
 |cons r rs=>
  obtain⟨a,q⟩:=h X aa σ s _ e I r;obtain⟨b,c⟩:=t X aa σ s _ e I rs;exact⟨_,.cons q c⟩
def RD.lst{l:Addr}{xs:List V}{ds:List PyData}(h:SqL K H l xs)(t:RDs K H xs ds):RD K H (.ref l) (.list ds):=fun X aa σ s u e I r=>by
 subst e;cases r;obtain⟨ad,a,p,_⟩:=I.list h;obtain⟨o,b,hc,n,hd⟩:=p.isList;obtain⟨c,q⟩:=t X aa σ s _ rfl I a;exact⟨_,.list b hc hd (by simpa using q)⟩
def RD.tup{l:Addr}{xs:List V}{ds:List PyData}(h:SqT K H l xs)(t:RDs K H xs ds):RD K H (.ref l) (.tuple ds):=fun X aa σ s u e I r=>by
 subst e;cases r;obtain⟨ad,a,p,_⟩:=I.tuple h;obtain⟨o,b,hc,n,hd⟩:=p;obtain⟨c,q⟩:=t X aa σ s _ rfl I a;exact⟨_,.tuple b hc hd (by simpa using q)⟩
end
def GP(K:Ag):R2:=fun x y H Q=>∃d e,RD K H x d/\RD K H y e/\SeqAt.shaped d=true/\SeqAt.shaped e=true/\SeqAt.noMix d e=true/\Q (.bl (!same d e)) H
def Pk{X:Cx}(j:X.A.units+64<cLine):cI X (compareOp .NotEq) (GP X.K):=by
 intro aa s σ H x y v u Q I a b h;obtain⟨d,e,h1,h2,c,f,nm,q⟩:=h;obtain⟨a1,g⟩:=h1 X aa σ s _ rfl I a;obtain⟨a2,i⟩:=h2 X aa σ s _ rfl I b;exact ne_dataH_same g i c f j nm ⟨.bl _,H,I,rfl,q⟩
end L2
end
section
namespace K23
open PySem L2
def Kr{u ub:Ξ}{n:Nat}:eH u ub n=bP u ub n:=by
 unfold eH bP;cases c1:zX u n with
 |false=>rfl
 |true=>
  cases c2:zX ub n with
  |false=>rfl
  |true=>
   obtain⟨f,b⟩:=zH.mp c1;obtain⟨a,d⟩:=zH.mp c2
   by_cases c:mulT u ub=unT n
   ·rw[decide_eq_true c]
    have l:wid ub=n:=nG d fun h=>ω
    have h:∀i j,i<n->j<n->Tb.dot n (fn u i) (fun s=>fn ub s j)=Tb.dl i j:=fun i j hi g=>by
     have e:=DL (u:=u) (v:=ub) (i:=i) (j:=j) ω ω (by rw[a];exact b);rw[c,kM hi,a] at e;exact e.symm
    have:=BF a d f b (Tb.Pj h);rw[decide_eq_true this];rfl
   ·rw[decide_eq_false c];rfl
def Pl{tb u ub v vb:Ξ}{st:List Int}(l:∀r∈tb,r.length=wid tb):dw tb u ub v vb st=iJ tb u ub v vb st:=by
 unfold dw iJ;rw[Kr,Kr];cases c1:bP u ub tb.length with
 |false=>rfl
 |true=>
  cases c2:bP v vb (wid tb) with
  |false=>rfl
  |true=>
   cases c3:cx st (if(wid tb:Int)<(tb.length:Int) then(wid tb:Int) else(tb.length:Int)) with
   |false=>rfl
   |true=>
    obtain⟨b,f,_,_⟩:=DG c1;obtain⟨g,c,_,_⟩:=DG c2;have d:wid v=wid tb:=nG c fun h=>ω
    show decide _=jf _ _ _ _;rw[Bm,decide_eq_true_iff];unfold jf;constructor
    ·intro e
     rw[e,AZ];intro i hi;rw[AZ];intro j a;exact decide_eq_true (GN (List.mem_range.mp hi) (List.mem_range.mp a))
    ·intro h
     refine DK (by rw[ji,ji,b]) (by unfold slpT;simp) (fun r hr=>by rw[nF r hr,d]) Km fun i j hi a=>?_;have h1:=List.all_eq_true.mp (List.all_eq_true.mp h i (List.mem_range.mpr hi)) j (List.mem_range.mpr a);rw[of_decide_eq_true h1,GN hi a]
     rfl
structure Sh(H:Hp)(S:Addr)(A:Nat->Addr)(D:Nat->List Addr)(T:Nat->Ξ)(a5:Addr)(st:List Int):Prop where
 s:H S=some (.tup [.ref (A 0),.ref (A 1),.ref (A 2),.ref (A 3),.ref a5])
 a:Ap H A D T 4
 h5:H a5=some (.lst (st.map V.int))
structure ShN(H:Hp)(S:Addr)(A:Nat->Addr)(D:Nat->List Addr)(a5:Addr):Prop where
 nS:H S=none
 na:∀i,i<4->∀z∈A i::D i,H z=none
 n5:H a5=none
section
variable{H H':Hp}{S:Addr}{A:Nat->Addr}{D:Nat->List Addr}{T:Nat->Ξ}{a5:Addr}{st:List Int}
def Sh.same(h:Sh H S A D T a5 st)(s:Same H H'):Sh H' S A D T a5 st:=⟨s _ _ h.s,h.a.same s,s _ _ h.h5⟩
def ShN.old(h:ShN H' S A D a5)(s:Same H H'):ShN H S A D a5:=⟨s.free h.nS,fun i hi z hz=>s.free (h.na i hi z hz),s.free h.n5⟩
def Ap.draw{p:Addr}(h:Ap H A D T 4)(s:zZ p H H')(n:∀i,i<4->∀z∈A i::D i,z≠p):Ap H' A D T 4:=⟨fun i hi=>s _ _ (n i hi _ (Aq ..)) (h.at_ i hi),fun i hi=>(h.rw i hi).sameB s fun d hd=>n i hi d (Ao _ hd),h.nd,h.dj⟩
def Sh.draw{p:Addr}{H0:Hp}(h:Sh H S A D T a5 st)(s:zZ p H H')(hb:zR H0 p)(n:ShN H0 S A D a5):Sh H' S A D T a5 st:=
 ⟨s _ _ (zU hb n.nS) h.s,h.a.draw s fun i hi z hz=>zU hb (n.na i hi z hz),s _ _ (zU hb n.n5) h.h5⟩
end
section
variable{P:Program}{w:World}{K:Ag}{mg:Str->Option Value}{base:Heap}
abbrev DM:Stmt:=top 53
def Ks:Sp:=fun vs H Q _=>∃(S:Addr)(A:Nat->Addr)(D:Nat->List Addr)(T:Nat->Ξ)(a5:Addr)(st:List Int),vs=[.ref S]/\Sh H S A D T a5 st/\(∀i,i<4->(T i).length<=40)/\st.length<=1000/\
 ∀H' a B E b5,Same H H'->ShN H a B E b5->Sh H' a B E T b5 st->Q (.ref a) H'
def Pm:zp ["sheet"] ["sheet"] (zg DM):=⟨rfl,rfl,rfl,δ,rfl,δ,δ⟩
def Pn{f:Addr}{fd:FuncData}(F:Fun K "_law_copy" "_law_copy" DM f fd)(B:iG mg)(X:mg "tuple"=none):ai P w K mg base aw 1 f fd ["sheet"] Ks:=by
 refine F.ok Pm (fun vs H Q E h=>?_) (fun ak A outer s H vs Q E hr h=>?_)
 ·obtain⟨S,A,D,T,a5,st,rfl,_⟩:=h;rfl
 ·obtain⟨S,A',D,T,a5,st,rfl,sh,U,zs,k⟩:=h
  refine⟨_,zh (zr (zQ Ei rfl X EW (za (zA El
    (zu ["sheet"] ["part"] [none] (GY (ol HP (pv 0) oh (oj zd))) (fun b C s₀ H₀ ex=>zl (i:=0) (bI ["part"]) rfl (Or.inl rfl)) (fun b C s₀ H₀ ex=>zy)
     (fun b C s₀ H₀ ex=>zu ["part"] ["row"] [none] (zI (pv 0)) (fun b C s₀ H₀ ex=>zl (i:=0) (bI ["row"]) rfl (Or.inl rfl)) (fun b C s₀ H₀ ex=>zy) (fun b C s₀ H₀ ex=>zQ zK rfl B.list nD (za (pv 0) zb)) (te:=qL K) (hfr:=b7 δ))
     (te:=GM K) (hfr:=b7 δ))
    (dB (za (zQ zK rfl B.list nD (za (zo zC (pv 0) zd (fun _ _=>rfl)) zb)) zb))) zb))),?_⟩
  refine⟨_,rfl,_,rfl,S,_,rfl,sh.s,fun I H1 e p=>⟨I,rfl,⟨_,SqT.of p⟩,fun Y J=>?_⟩⟩;refine zx (Kk (A:=A') p (sh.a.same e) U J fun H2 B2 Z L u M N=>?_);have c:=e.trans L;have W:=c _ _ sh.h5;refine⟨_,rfl,S,_,_,_,rfl,rfl,SqT.of (c _ _ sh.s),zi (j:=4) rfl,a5,_,rfl,.inl (SqL.of W),fun b5 d=>⟨zv (by simp),fun q hq=>⟨Y,q,[.ref (B2 0),.ref (B2 1),.ref (B2 2),.ref (B2 3)],_,rfl,rfl,?_,zc,zv (by simp),fun r O=>⟨r,_,rfl,.inl ⟨SqL.of zc,fun t v=>?_⟩⟩⟩⟩⟩
  ·rw[af (zk ((Same.new d) _ _ u) hq)];exact(Same.new d) _ _ u
  have x:=Same.new (o:=.lst (st.map V.int)) d;have g:=Same.new (o:=.lst [.ref b5]) hq;have l:=Same.new (o:=.lst ([V.ref (B2 0),.ref (B2 1),.ref (B2 2),.ref (B2 3)]++[.ref b5])) O;have y:=Same.new (o:=.tup ([V.ref (B2 0),.ref (B2 1),.ref (B2 2),.ref (B2 3)]++[.ref b5])) v;have G:=x.trans (g.trans (l.trans y));refine k _ t B2 Z b5 (c.trans G) ⟨c.free (x.free (g.free (l.free v))),fun i hi z hz=>e.free (N i hi z hz).1,c.free d⟩ ⟨zc,M.same G,?_⟩;exact(g.trans (l.trans y)) _ _ zc
end
def Rws.app{H:Hp}{ds es:List Addr}{tb ub:Ξ}(h:Rws H ds tb)(g:Rws H es ub):Rws H (ds++es) (tb++ub):=by
 induction h with
 |nil=>exact g
 |cons r t ih=>exact .cons r ih
def Rws.take{H:Hp}{ds:List Addr}{tb:Ξ}(h:Rws H ds tb):∀n:Nat,Rws H (ds.take n) (tb.take n):=by
 induction h with
 |nil=>intro n;rw[List.take_nil,List.take_nil];exact .nil
 |cons r t ih=>
  intro n;cases n with
  |zero=>exact .nil
  |succ n=>exact .cons r (ih n)
def Rws.drop{H:Hp}{ds:List Addr}{tb:Ξ}(h:Rws H ds tb):∀n:Nat,Rws H (ds.drop n) (tb.drop n):=by
 induction h with
 |nil=>intro n;rw[List.drop_nil,List.drop_nil];exact .nil
 |cons r t ih=>
  intro n;cases n with
  |zero=>exact .cons r t
  |succ n=>exact ih n
def Rws.rev{H:Hp}{ds:List Addr}{tb:Ξ}(h:Rws H ds tb):Rws H ds.reverse tb.reverse:=by
 induction h with
 |nil=>exact .nil
 |cons r t ih=>rw[List.reverse_cons,List.reverse_cons];exact Rws.app ih (.cons r .nil)
def Kt{a b:Type}{f:a->b}{l:List a}{j:Nat}:(l.map f).eraseIdx j=(l.eraseIdx j).map f:=by
 rw[List.eraseIdx_eq_take_drop_succ,List.eraseIdx_eq_take_drop_succ,At,List.map_take,List.map_drop]
def Rws.er{H:Hp}{ds:List Addr}{tb:Ξ}(h:Rws H ds tb)(j:Nat):Rws H (ds.eraseIdx j) (tb.eraseIdx j):=by
 rw[List.eraseIdx_eq_take_drop_succ,List.eraseIdx_eq_take_drop_succ];exact(h.take j).app (h.drop (j+1))
section
variable{H:Hp}{A:Nat->Addr}{D:Nat->List Addr}{T:Nat->Ξ}
def Ap.list{k:Nat}{ds:List Addr}{tb:Ξ}(h:Ap H A D T 4)(hk:k<4)(hr:Rws H ds tb)(f:ds.Nodup)(own:∀d∈ds,d≠A k/\∀i,i<4->i≠k->d∉A i::D i):Ap (L2.upd H (A k) (.lst (ds.map V.ref))) A (pt D k ds) (pt T k tb) 4:=by
 have ne:∀i,i<4->i≠k->A k∉A i::D i:=fun i hi c z=>h.dj i k hi hk c _ z _ (Aq ..) rfl;refine⟨fun i hi=>?_,fun i hi=>?_,fun i hi=>?_,fun i l hi b c=>?_⟩
 ·by_cases c:i=k
  ·subst c;rw[zz,zc]
  ·rw[b3 c,af (fun z:A i=A k=>ne i hi c (by rw[<-z];exact Aq ..))];exact h.at_ i hi
 ·by_cases c:i=k
  ·rw[c,zz,zz];exact hr.updF fun z=>(own _ z).1 rfl
  ·rw[b3 c,b3 c];exact(h.rw i hi).updF fun z=>ne i hi c (Ao _ z)
 ·by_cases c:i=k
  ·rw[c,zz];exact⟨f,fun d hd=>(own d hd).1⟩
  ·rw[b3 c];exact h.nd i hi
 ·by_cases c1:i=k
  ·have a:l≠k:=fun e=>c (by rw[c1,e])
   rw[c1,zz,b3 a];intro x hx y hy e;rcases List.mem_cons.mp hx with z|z
   ·exact ne l b a (by rw[<-z,e];exact hy)
   ·exact(own x z).2 l b a (by rw[e];exact hy)
  ·rw[b3 c1]
   by_cases a:l=k
   ·rw[a,zz]
    intro x hx y hy e;rcases List.mem_cons.mp hy with z|z
    ·exact ne i hi c1 (by rw[<-z,<-e];exact hx)
    ·exact(own y z).2 i hi c1 (by rw[<-e];exact hx)
   ·rw[b3 a];exact h.dj i l hi b c
def Ap.own{k:Nat}(h:Ap H A D T 4)(hk:k<4):∀d∈D k,d≠A k/\∀i,i<4->i≠k->d∉A i::D i:=fun d hd=>⟨(h.nd k hk).2 d hd,fun i hi c z=>h.dj i k hi hk c d z d (Ao _ hd) rfl⟩
def sw{a:Type}(f:Nat->a):Nat->a:=fun i=>if i=0 then f 2 else if i=2 then f 0 else f i
def nM(i:Nat):Nat:=if i=0 then 2 else if i=2 then 0 else i
def sw_eq{a:Type}{f:Nat->a}{i:Nat}:sw f i=f (nM i):=by
 unfold sw nM
 by_cases c:i=0
 ·rw[if_pos c,if_pos c]
 ·rw[if_neg c,if_neg c]
  by_cases d:i=2
  ·rw[if_pos d,if_pos d]
  ·rw[if_neg d,if_neg d]
def k7{i:Nat}(h:i<4):nM i<4:=by
 unfold nM
 by_cases c:i=0
 ·rw[if_pos c];(first|lia|omega)
 ·rw[if_neg c]
  by_cases d:i=2
  ·rw[if_pos d];(first|lia|omega)
  ·rw[if_neg d];exact h
def Po{i j:Nat}(h:i≠j):nM i≠nM j:=by unfold nM;split<;>split<;>(try split)<;>(try split)<;>(first|lia|omega)
def Ap.swap(h:Ap H A D T 4):Ap H (sw A) (sw D) (sw T) 4:=by
 refine⟨fun i hi=>?_,fun i hi=>?_,fun i hi=>?_,fun i l hi a c=>?_⟩
 ·rw[sw_eq,sw_eq];exact h.at_ _ (k7 hi)
 ·rw[sw_eq,sw_eq];exact h.rw _ (k7 hi)
 ·rw[sw_eq,sw_eq];exact h.nd _ (k7 hi)
 ·rw[sw_eq,sw_eq,sw_eq,sw_eq];exact h.dj _ _ (k7 hi) (k7 a) (Po c)
end
structure Tu(H0 H:Hp)(p KA:Addr)(B:Nat->Addr)(E:Nat->List Addr)(T:Nat->Ξ)(b5:Addr)(st:List Int):Prop where
 kp:H KA=some (.lst [.ref (B 0),.ref (B 1),.ref (B 2),.ref (B 3),.ref b5])
 b:Ap H B E T 4
 h5:H b5=some (.lst (st.map V.int))
 nb:∀i,i<4->∀z∈B i::E i,H0 z=none/\z≠KA/\z≠b5
 nk:H0 KA=none
 n5:H0 b5=none
 k5:KA≠b5
 sm:zZ p H0 H
 b0:zR H0 p
 bx:zR H p
section
variable{H0 H H':Hp}{p KA:Addr}{B:Nat->Addr}{E:Nat->List Addr}{T:Nat->Ξ}{b5:Addr}{st:List Int}
def Tu.draw(h:Tu H0 H p KA B E T b5 st)(s:zZ p H H')(b:zR H' p):Tu H0 H' p KA B E T b5 st:=
 ⟨s _ _ (zU h.b0 h.nk) h.kp,h.b.draw s fun i hi z hz=>zU h.b0 (h.nb i hi z hz).1,s _ _ (zU h.b0 h.n5) h.h5,h.nb,h.nk,h.n5,h.k5,h.sm.trans s,h.b0,b⟩
def Tu.same(h:Tu H0 H p KA B E T b5 st)(s:Same H H'):Tu H0 H' p KA B E T b5 st:=h.draw (.of s) (h.bx.same s)
def Tu.list{k:Nat}{ds:List Addr}{tb:Ξ}(h:Tu H0 H p KA B E T b5 st)(hk:k<4)(hr:Rws H ds tb)(f:ds.Nodup)(own:∀d∈ds,(d≠B k/\∀i,i<4->i≠k->d∉B i::E i)/\H0 d=none/\d≠KA/\d≠b5):Tu H0 (L2.upd H (B k) (.lst (ds.map V.ref))) p KA B (pt E k ds) (pt T k tb) b5 st:=by
 obtain⟨a,n1,n2⟩:=h.nb k hk _ (Aq ..);refine⟨by rw[af n1.symm];exact h.kp,h.b.list hk hr f fun d hd=>(own d hd).1,by rw[af n2.symm];exact h.h5,fun i hi z hz=>?_,h.nk,h.n5,h.k5,h.sm.then a,h.b0,h.bx.upd (zU h.b0 a)⟩
 by_cases c:i=k
 ·rw[c,zz] at hz
  rcases List.mem_cons.mp hz with e|e
  ·rw[e];exact⟨a,n1,n2⟩
  ·exact(own z e).2
 ·rw[b3 c] at hz;exact h.nb i hi z hz
def Tu.row{k j:Nat}{d:Addr}{ns:List Int}(h:Tu H0 H p KA B E T b5 st)(hk:k<4)(e:(E k)[j]?=some d):Tu H0 (L2.upd H d (.lst (ns.map V.int))) p KA B E (pt T k ((T k).set j ns)) b5 st:=by
 obtain⟨a,n1,n2⟩:=h.nb k hk d (Ao _ (Ak e));exact⟨by rw[af n1.symm];exact h.kp,h.b.row hk e,by rw[af n2.symm];exact h.h5,h.nb,h.nk,h.n5,h.k5,h.sm.then a,h.b0,h.bx.upd (zU h.b0 a)⟩
def Tu.five(h:Tu H0 H p KA B E T b5 st)(vs:List Int):Tu H0 (L2.upd H b5 (.lst (vs.map V.int))) p KA B E T b5 vs:=
 ⟨by rw[af h.k5];exact h.kp,h.b.far fun i hi z=>(h.nb i hi b5 z).2.2 rfl,zc,h.nb,h.nk,h.n5,h.k5,h.sm.then h.n5,h.b0,h.bx.upd (zU h.b0 h.n5)⟩
def Tu.swap(h:Tu H0 H p KA B E T b5 st):Tu H0 (L2.upd H KA (.lst [.ref (B 2),.ref (B 1),.ref (B 0),.ref (B 3),.ref b5])) p KA (sw B) (sw E) (sw T) b5 st:=
 ⟨zc,h.b.swap.far fun i hi z=>(by rw[sw_eq,sw_eq] at z;exact(h.nb _ (k7 hi) KA z).2.1 rfl),by rw[af h.k5.symm];exact h.h5,fun i hi z hz=>(by rw[sw_eq,sw_eq] at hz;exact h.nb _ (k7 hi) z hz),h.nk,h.n5,h.k5,h.sm.then h.nk,h.b0,h.bx.upd (zU h.b0 h.nk)⟩
end
def Bd(T:Nat->Ξ)(st:List Int)(i:Nat):Prop:=(∀k,k<4->(T k).length<=20+i/\∀r∈T k,r.length<=40/\∀x∈r,x.natAbs+1000<low+2*i)/\st.length<=20+i/\∀x∈st,x.natAbs<=2 ^ (9000+i)
def Bd.next{T:Nat->Ξ}{st:List Int}{i:Nat}(h:Bd T st i):Bd T st (i+1):=
 ⟨fun k hk=>⟨by have:=(h.1 k hk).1;(first|lia|omega),fun r hr=>⟨((h.1 k hk).2 r hr).1,fun x hx=>by have:=((h.1 k hk).2 r hr).2 x hx;(first|lia|omega)⟩⟩,by have:=h.2.1;(first|lia|omega),fun x hx=>Af (h.2.2 x hx) (Aw ξ ω)⟩
def Bd.list{T:Nat->Ξ}{st:List Int}{i k:Nat}{tb:Ξ}(h:Bd T st i)(hk:k<4)(d:tb.length<=(T k).length+1)(b:∀r∈tb,r∈T k):Bd (pt T k tb) st (i+1):=by
 refine⟨fun l a=>?_,h.next.2⟩
 by_cases c:l=k
 ·rw[c,zz]
  have:=(h.1 k hk).1;exact⟨ω,fun r hr=>(h.next.1 k hk).2 r (b r hr)⟩
 ·rw[b3 c];exact h.next.1 l a
def Bd.row{T:Nat->Ξ}{st:List Int}{i k j:Nat}{ns:List Int}(h:Bd T st i)(hk:k<4)(b:ns.length<=40)(d:∀x∈ns,x.natAbs+1000<low+2*(i+1)):Bd (pt T k ((T k).set j ns)) st (i+1):=by
 refine⟨fun l a=>?_,h.next.2⟩
 by_cases c:l=k
 ·rw[c,zz,List.length_set]
  refine⟨(h.next.1 k hk).1,fun r hr=>?_⟩;rcases List.mem_or_eq_of_mem_set hr with e|e
  ·exact(h.next.1 k hk).2 r e
  ·rw[e];exact⟨b,d⟩
 ·rw[b3 c];exact h.next.1 l a
def Bd.swap{T:Nat->Ξ}{st:List Int}{i:Nat}(h:Bd T st i):Bd (sw T) st (i+1):=⟨fun l a=>by rw[sw_eq];exact h.next.1 _ (k7 a),h.next.2⟩
def Bd.five{T:Nat->Ξ}{st vs:List Int}{i:Nat}(h:Bd T st i)(b:vs.length<=st.length+1)(a:∀x∈vs,x.natAbs<=2 ^ (9000+(i+1))):Bd T vs (i+1):=⟨h.next.1,by have:=h.2.1;(first|lia|omega),a⟩
abbrev zY:Stmt:=top 52
def bJ:List Stmt->List Stmt
 |.If _ _ o _::_=>o
 |_=>[]
def Pp{l:List Addr}(h:l.Nodup):l.reverse.Nodup:=by
 unfold List.Nodup;rw[List.pairwise_reverse];exact h.imp fun e=>e.symm
def Pq:A8 "max"=some (.builtin "max"):=δ
def lH{a b:Int}:decide (V.int a=V.int b)=decide (a=b):=by rw[Bm];simp
def xz(ns:List Int):SeqAt.shaped (dn ns)=true:=by
 have e:Bj (dn ns)<=64:=by
  have:Bj (dn ns)<=2:=by simp[Bj,PySem.W.ke_depthAll]
  (first|lia|omega)
 unfold SeqAt.shaped;rw[decide_eq_true e,dn,PyData.canLay0,GC]
 rfl
def Ps:100000<low:=by
 have:=Jx (a:=2 ^ 20) (b:=20) (Ad _) ξ;have e:(2:Nat) ^ 20=1048576:=ξ
 (first|lia|omega)
abbrev jV:List Str:=["box","sheet","parts","which","part","way","at","place"]
def TS(H0:Hp)(p S KA:Addr)(i:Nat)(b d a:Int)(σ:St)(H:Hp):Prop:=∃(B:Nat->Addr)(E:Nat->List Addr)(T:Nat->Ξ)(b5:Addr)(st:List Int)(c:Addr),
 σ=[some (.ref p),some (.ref S),some (.ref KA),some (.int b),some (.ref c),some (.int d),some (.int a),none]/\Tu H0 H p KA B E T b5 st/\Bd T st i/\0<=a/\
 ((∃k:Nat,k<4/\b=(k:Int)/\c=B k/\(a<(T k).length\/T k=[]))\/(b=4/\c=b5/\(a<st.length\/st=[])))
def FN(H0:Hp)(p S KA:Addr)(i:Nat)(σ:St)(H:Hp):Prop:=∃(B:Nat->Addr)(E:Nat->List Addr)(T:Nat->Ξ)(b5:Addr)(st:List Int)(a b c d e:Option V),
 σ=[some (.ref p),some (.ref S),some (.ref KA),a,b,c,d,e]/\Tu H0 H p KA B E T b5 st/\Bd T st (i+1)
def TS.same{H0 H H':Hp}{p S KA:Addr}{i:Nat}{b c a:Int}{σ:St}(h:TS H0 p S KA i b c a σ H)(s:Same H H'):TS H0 p S KA i b c a σ H':=by
 obtain⟨B,E,T,b5,st,d,e,f,r⟩:=h;exact⟨B,E,T,b5,st,d,e,f.same s,r⟩
def TS.fn{H0 H:Hp}{p S KA:Addr}{i:Nat}{c d a:Int}{σ:St}(h:TS H0 p S KA i c d a σ H):FN H0 p S KA i σ H:=by
 obtain⟨B,E,T,b5,st,f,e,b,bd,_⟩:=h;exact⟨B,E,T,b5,st,_,_,_,_,_,e,b,bd.next⟩
section
variable{P:Program}{w:World}{K:Ag}{mg:Str->Option Value}{base:Heap}
def nT:zp jV ["box","sheet"] (zg zY):=⟨rfl,rfl,rfl,δ,rfl,δ,δ⟩
def Ku{H:Hp}{W q:Addr}{ds:List Addr}{tb:Ξ}{Z:VK}(a:H W=some (.lst (ds.map V.ref)))(hr:Rws H ds tb)(hq:H q=none)(k:Z (.bl (!decide (tb=[]))) (upd H q (.lst []))):gl true K (.ref W) (.ref q) (upd H q (.lst [])) Z:=by
 refine⟨aZ tb,aZ [],dI (SqL.of (by rw[af (zk a hq)];exact a)) (hr.same (Same.new hq)),dI (rs:=[]) (SqL.of zc) .nil,zW _,zW _,iF _ _,?_⟩;rw[if_pos rfl,gS];exact k
def Kv{H:Hp}{W q:Addr}{a:List Int}{Z:VK}(b:H W=some (.lst (a.map V.int)))(hq:H q=none)(k:Z (.bl (!decide (a=[]))) (upd H q (.lst []))):gl true K (.ref W) (.ref q) (upd H q (.lst [])) Z:=by
 refine⟨dn a,dn [],DA (SqL.of (by rw[af (zk b hq)];exact b)),DA (SqL.of zc),xz _,xz _,JX _ _,?_⟩;rw[if_pos rfl,GB];exact k
def GQ{H0 H:Hp}{p KA q d:Addr}{B:Nat->Addr}{E:Nat->List Addr}{T:Nat->Ξ}{b5:Addr}{st:List Int}{f a:Int}{Z:VK}(h:Tu H0 H p KA B E T b5 st)(c:(∃k:Nat,k<4/\f=(k:Int)/\d=B k/\(a<(T k).length\/T k=[]))\/(f=4/\d=b5/\(a<st.length\/st=[])))(hq:H q=none)(k0:Z (.bl false) (upd H q (.lst [])))(i:((∃k:Nat,k<4/\f=(k:Int)/\d=B k/\a<(T k).length)\/(f=4/\d=b5/\a<st.length))->Z (.bl true) (upd H q (.lst []))):gl true K (.ref d) (.ref q) (upd H q (.lst [])) Z:=by
 rcases c with ⟨k,hk,e1,e2,g⟩|⟨e1,e2,g⟩
 ·rw[e2]
  refine Ku (h.b.at_ k hk) (h.b.rw k hk) hq ?_
  by_cases e:T k=[]
  ·rw[decide_eq_true e];exact k0
  ·rw[decide_eq_false e]
   exact i (.inl ⟨k,hk,e1,e2,g.resolve_right e⟩)
 ·rw[e2]
  refine Kv h.h5 hq ?_
  by_cases e:st=[]
  ·rw[decide_eq_true e];exact k0
  ·rw[decide_eq_false e]
   exact i (.inr ⟨e1,e2,g.resolve_right e⟩)
def Kw:Sp:=fun vs H Q _=>∃(p S:Addr)(A:Nat->Addr)(D:Nat->List Addr)(T:Nat->Ξ)(a5:Addr)(st:List Int)(i:Nat),vs=[.ref p,.ref S]/\zR H p/\Sh H S A D T a5 st/\Bd T st i/\i<=10/\
 ∀H' a B E T' b5 b,zZ p H H'->zR H' p->ShN H a B E b5->Sh H' a B E T' b5 b->Bd T' b (i+1)->Q (.ref a) H'
def Pt{f ft:Addr}{fd bG:FuncData}(F:Fun K "_law_turned" "_law_turned" zY f fd)(B:iG mg)(eE:mg "tuple"=none)(Ft:Fun K "_law_take" "_law_take" nu ft bG)(bt:Binds K bG ["box","most"] [])(mt:mg "_law_take"=some (.ref ft)):ai P w K mg base aw 2 f fd ["box","sheet"] Kw:=by
 have Gt:ai P w K mg base aw 1 ft bG ["box","most"] qI:=DI Ft;refine F.ok nT (fun vs H Q E h=>?_) (fun ak A outer s H vs Q E hr h=>?_)
 ·obtain⟨p,S,A,D,T,a5,st,i,rfl,_⟩:=h;rfl
 ·obtain⟨p,S,A',D,T0,a5,dr,i,rfl,hb,sh,jO,rg,k⟩:=h
  have aI:=hr.units;have E6:∃M,PSs (cf aw P w K mg base jV "_law_turned" (zg zY) f ak A outer s H E).nox (bJ (bJ (bJ (bJ (bJ (bJ (List.drop 5 (zag zY)))))))) M/\∀(En:Ends)(KA:Addr)(G J g:Int)(σ:St)(H':Hp),(∀σ H2,FN H p S KA i σ H2->En.nx σ H2)->TS H p S KA i G J g σ H'->G≠4->M En σ H':=by
   refine⟨_,zh (cn (PW.pt (j0 (zt (qA aI) (pv 4) (dB zb) (ar _)) (jX (zt (qA aI) (zo zn (pv 4) (pv 6) (fun _ _=>rfl)) (dB zb) (ar _)))))
    (ze (zq (i:=7) nT.nd rfl (Or.inl rfl) (zf Gt hr rfl mt Ft.kp bt .nil ac (za (pv 0) (za (zm zj rfl B.len cp (za (zo zn (pv 4) (pv 6) (fun _ _=>rfl)) zb)) zb))))
    (zh (gB (zA e8 (zA fU (zo zn (zo zn (pv 4) (pv 6) (fun _ _=>rfl)) (pv 7) (fun _ _=>rfl)) (zf Gt hr rfl mt Ft.kp bt .nil ac (za (pv 0) (za zd zb)))) zd) (gz (zo zn (pv 4) (pv 6) (fun _ _=>rfl)) (pv 7) set_list)))) zJ),?_⟩
   rintro En KA G J g σ H' fin ⟨B2,L,T,b5,st,N,rfl,u,bd,a0,c⟩ w4;have W:TS H p S KA i G J g _ H':=⟨B2,L,T,b5,st,N,rfl,u,bd,a0,c⟩;rcases c with ⟨k,hk,e1,rfl,ha⟩|⟨e1,_,_⟩
   rotate_left
   ·exact absurd e1 w4
   refine⟨_,rfl,ξ,fun q hq=>Ku (u.b.at_ k hk) (u.b.rw k hk) hq ⟨_,rfl,?_⟩⟩;have sq:=Same.new (o:=.lst []) hq
   by_cases e:T k=[]
   ·rw[decide_eq_true e]
    exact az (az (fin _ _ (W.same sq).fn))
   rw[decide_eq_false e];have I:=u.same sq;obtain⟨j,rfl⟩:∃j:Nat,g=(j:Int):=⟨g.toNat,ω⟩;have hj:j<(T k).length:=by have:=ha.resolve_right e;(first|lia|omega)
   have hl:=(u.b.rw k hk).len;obtain⟨d,ed⟩:∃d,(L k)[j]?=some d:=⟨_,Ab (show j<(L k).length from ω)⟩;obtain⟨rn,er,hd⟩:=(I.b.rw k hk).get ed;have gE:((L k).map V.ref)[j]?=some (V.ref d):=by rw[Aj,ed];rfl
   have rL:=Ak er;obtain⟨rl,rb⟩:=(bd.1 k hk).2 rn rL;refine aA ⟨_,rfl,_,rfl,B2 k,_,_,_,rfl,rfl,SqL.of (I.b.at_ k hk),zi (v:=V.ref d) gE,ξ,fun q2 fF=>Kv hd fF ⟨_,rfl,?_⟩⟩;have cB:=Same.new (o:=.lst []) fF;have fM:=I.same cB
   by_cases e2:rn=[]
   ·rw[decide_eq_true e2]
    exact az (fin _ _ ((W.same sq).same cB).fn)
   rw[decide_eq_false e2];have rp:0<rn.length:=List.length_pos_iff.mpr e2;refine aA ⟨_,rfl,_,rfl,_,rfl,B2 k,_,_,_,rfl,rfl,SqL.of (fM.b.at_ k hk),zi (v:=V.ref d) gE,d,_,rfl,.inl (SqL.of (cB _ _ hd)),p,_,rfl,fM.bx,by rw[Aa];(first|lia|omega),by rw[Aa];(first|lia|omega),fun z H3 z0 z1 c8 hb3=>?_⟩;rw[Aa] at z1;have Y:=fM.draw c8 hb3;have oz:d≠p:=zU u.b0 (u.nb k hk d (Ao _ (Ak ed))).1;have hd3:=c8 _ _ oz (cB _ _ hd);obtain⟨m,rfl⟩:∃m:Nat,z=(m:Int):=⟨z.toNat,ω⟩;have U:m<rn.length:=ω
   refine⟨_,rfl,_,rfl,B2 k,_,_,_,rfl,rfl,SqL.of (Y.b.at_ k hk),zi (v:=V.ref d) gE,_,rfl,d,_,_,_,rfl,rfl,SqL.of hd3,zi (b8 U),_,rfl,p,_,rfl,hb3,ξ,ξ,fun y H4 y0 y1 cR cm=>⟨_,_,rfl,rfl,_,_,rfl,rfl,?_⟩⟩;have dq:=Y.draw cR cm;have xF:=cR _ _ oz hd3;refine⟨_,rfl,_,rfl,B2 k,_,_,_,rfl,rfl,SqL.of (dq.b.at_ k hk),zi (v:=V.ref d) gE,_,rfl,d,_,_,m,rfl,rfl,xF,yJ ω (by rw[Aa];(first|lia|omega)),?_⟩;rw[<-List.map_set (f:=V.int)];refine fin _ _ ⟨B2,L,_,b5,st,_,_,_,_,_,rfl,dq.row hk ed,bd.row hk (by rw[List.length_set];exact rl) fun x hx=>?_⟩;rcases List.mem_or_eq_of_mem_set hx with h|h
   ·have:=rb x h;(first|lia|omega)
   ·rw[h,gM U]
    have:=rb _ (AB U);(first|lia|omega)
  have E5:∃M,PSs (cf aw P w K mg base jV "_law_turned" (zg zY) f ak A outer s H E).nox (bJ (bJ (bJ (bJ (bJ (List.drop 5 (zag zY))))))) M/\∀(En:Ends)(KA:Addr)(G J g:Int)(σ:St)(H':Hp),(∀σ H2,FN H p S KA i σ H2->En.nx σ H2)->TS H p S KA i G J g σ H'->M En σ H':=by
   obtain⟨M,cZ,X⟩:=E6;refine⟨_,zh (cn (zt dz (pv 3) zd (ar _)) (zh (iN (ot PySem.F.plainAttrs_list PySem.F.slot_list_append PySem.F.type_list_append ti (pv 4) (za (zf Gt hr rfl mt Ft.kp bt .nil ac (za (pv 0) (za zd zb))) zb)))) cZ),?_⟩;rintro En KA G J g σ H' fin ⟨B2,L,T,b5,st,N,rfl,u,bd,a0,c⟩;have W:TS H p S KA i G J g _ H':=⟨B2,L,T,b5,st,N,rfl,u,bd,a0,c⟩;refine⟨_,rfl,rfl,_,rfl,?_⟩;rw[lH]
   by_cases w4:G=4
   ·rw[decide_eq_true w4]
    rcases c with ⟨k,hk,e1,_,_⟩|⟨_,O,_⟩
    ·(first|lia|omega)
    ·rw[O]
     refine aA ⟨_,rfl,.inl ⟨rfl,_,SqL.of u.h5⟩,_,rfl,p,_,rfl,u.bx,ξ,ξ,fun z H1 z0 z1 fH dt=>?_⟩;have I:=u.draw fH dt;have hl:=bd.2.1;refine⟨b5,_,_,rfl,rfl,I.h5,yS (by rw[Aa];(first|lia|omega)),?_⟩;rw[show st.map V.int++[V.int z]=(st++[z]).map V.int by rw[At];rfl];refine fin _ _ ⟨B2,L,T,b5,_,_,_,_,_,_,rfl,I.five _,bd.five (by rw[AN];exact Ad _) fun x hx=>?_⟩;rcases List.mem_append.mp hx with h|h
     ·exact Af (bd.2.2 x h) (Aw ξ ω)
     ·obtain rfl:x=z:=by simpa using h
      exact Af (show x.natAbs<=2 ^ 2 by show _<=4;(first|lia|omega)) (Aw ξ ω)
   ·rw[decide_eq_false w4]
    exact az (X En KA G J g _ H' fin W w4)
  have E4:∃M,PSs (cf aw P w K mg base jV "_law_turned" (zg zY) f ak A outer s H E).nox (bJ (bJ (bJ (bJ (List.drop 5 (zag zY)))))) M/\∀(En:Ends)(KA:Addr)(G J g:Int)(σ:St)(H':Hp),(∀σ H2,FN H p S KA i σ H2->En.nx σ H2)->TS H p S KA i G J g σ H'->M En σ H':=by
   obtain⟨M,cZ,X⟩:=E5;refine⟨_,zh (cn (PW.pt (j0 (zt dz (pv 3) zd (ar _)) (jX (zt (qA aI) (pv 4) (dB zb) (ar _)))))
    (zh (gB (zo zn (dB (za (zA fU (zo zn (pv 4) (pv 6) (fun _ _=>rfl)) zd) (za (j_ kb (zo zn (pv 4) (pv 6) (fun _ _=>rfl))) (za zd (za (zA my zd (zo zn (pv 4) (pv 6) (fun _ _=>rfl))) zb))))) (zf Gt hr rfl mt Ft.kp bt .nil ac (za (pv 0) (za zd zb))) (fun _ _=>rfl)) (gz (pv 4) (pv 6) set_list))) cZ),?_⟩
   rintro En KA G J g σ H' fin ⟨B2,L,T,b5,st,N,rfl,u,bd,a0,c⟩;have W:TS H p S KA i G J g _ H':=⟨B2,L,T,b5,st,N,rfl,u,bd,a0,c⟩;refine⟨_,rfl,rfl,_,rfl,?_⟩;rw[lH]
   by_cases w4:G=4
   rotate_left
   ·rw[decide_eq_false w4]
    exact az (az (X En KA G J g _ H' fin W))
   rw[decide_eq_true w4];refine aA ⟨_,rfl,ξ,fun q hq=>GQ u c hq ⟨_,rfl,az (X En KA G J g _ _ fin (W.same (Same.new hq)))⟩ fun c2=>⟨_,rfl,?_⟩⟩;rcases c2 with ⟨k,hk,e1,_,_⟩|⟨_,O,ha⟩
   ·(first|lia|omega)
   rw[O];obtain⟨j,rfl⟩:∃j:Nat,g=(j:Int):=⟨g.toNat,ω⟩;have hj:j<st.length:=ω
   have I:=u.same (Same.new (o:=.lst []) hq);have xb:=bd.2.2 _ (AB hj);have gx:=b8 hj;have xB:(vc st j).natAbs<big:=by
    rw[gM hj];exact Gh xb ω
   refine aA ⟨_,rfl,_,rfl,b5,_,_,_,rfl,rfl,SqL.of I.h5,zi gx,_,_,rfl,rfl,_,rfl,_,rfl,b5,_,_,_,rfl,rfl,SqL.of I.h5,zi gx,_,rfl,_,rfl,_,rfl,b5,_,_,_,rfl,rfl,SqL.of I.h5,zi gx,_,_,rfl,rfl,gH (Nat.lt_trans ξ (Gj Ps)) xB,zv (by simp),fun q2 fF=>⟨_,rfl,p,_,rfl,I.bx.new fF,ξ,ξ,fun z H3 z0 z1 c8 hb3=>?_⟩⟩;have Y:=(I.same (Same.new fF)).draw c8 hb3;have md:q2≠p:=zU I.bx fF;have e2:(2:Nat) ^ (9000+(i+1))=2 ^ (9000+i)*2:=Nat.pow_succ ..;have e3:1<=2 ^ (9000+i):=Nat.two_pow_pos _;obtain⟨m,em,U⟩:∃m:Int,atI [V.int (vc st j+1),.int (-vc st j),.int 0,.int (2*vc st j)] z=some (.int m)/\m.natAbs<=2 ^ (9000+(i+1)):=by
    rw[e2,gM hj];generalize (2:Nat) ^ (9000+i)=Z at *;have:z=0\/z=1\/z=2\/z=3:=ω
    rcases this with rfl|rfl|rfl|rfl
    ·exact⟨_,rfl,ω⟩
    ·exact⟨_,rfl,ω⟩
    ·exact⟨_,rfl,ω⟩
    ·exact⟨_,rfl,ω⟩
   refine⟨q2,_,_,_,rfl,rfl,SqL.of (c8 _ _ md zc),em,_,rfl,_,rfl,b5,_,_,j,rfl,rfl,Y.h5,yJ ω (by rw[Aa];(first|lia|omega)),?_⟩;rw[<-List.map_set (f:=V.int)];refine fin _ _ ⟨B2,L,T,b5,_,_,_,_,_,_,rfl,Y.five _,bd.five (by rw[List.length_set];(first|lia|omega)) fun x hx=>?_⟩;rcases List.mem_or_eq_of_mem_set hx with h|h
   ·exact Af (bd.2.2 x h) (Aw ξ ω)
   ·rw[h];exact U
  have E3:∃M,PSs (cf aw P w K mg base jV "_law_turned" (zg zY) f ak A outer s H E).nox (bJ (bJ (bJ (List.drop 5 (zag zY))))) M/\∀(En:Ends)(KA:Addr)(G J g:Int)(σ:St)(H':Hp),(∀σ H2,FN H p S KA i σ H2->En.nx σ H2)->TS H p S KA i G J g σ H'->M En σ H':=by
   obtain⟨M,cZ,X⟩:=E4;refine⟨_,zh (cn (zt dz (pv 5) zd (ar _)) (zh (gB (hO (za (zo zn (pv 2) zd (fun _ _=>rfl)) (za (zo zn (pv 2) zd (fun _ _=>rfl)) zb))) (gZ rfl (zB (gz (pv 2) zd set_list) (zB (gz (pv 2) zd set_list) gU))))) cZ),?_⟩;rintro En KA G J g σ H' fin ⟨B2,L,T,b5,st,N,rfl,u,bd,a0,c⟩;have W:TS H p S KA i G J g _ H':=⟨B2,L,T,b5,st,N,rfl,u,bd,a0,c⟩;refine⟨_,rfl,rfl,_,rfl,dE (fun _=>?_) (fun _=>X En KA G J g _ H' fin W)⟩;refine⟨_,rfl,KA,_,_,_,rfl,rfl,SqL.of u.kp,zi (j:=2) rfl,_,rfl,KA,_,_,_,rfl,rfl,SqL.of u.kp,zi (j:=0) rfl,zv (by simp),fun q hq=>?_⟩;have I:=u.same (Same.new (o:=.tup [.ref (B2 2),.ref (B2 0)]) hq);have Cn:KA≠q:=zk u.kp hq;refine⟨q,_,rfl,SqT.of zc,rfl,_,_,rfl,⟨_,rfl,KA,_,_,0,rfl,rfl,I.kp,rfl,?_⟩⟩;refine⟨_,_,rfl,⟨_,rfl,KA,_,_,2,rfl,rfl,zc,rfl,?_⟩⟩;refine⟨rfl,fin _ _ ?_⟩;have:=I.swap;refine⟨sw B2,sw L,sw T,b5,st,_,_,_,_,_,rfl,?_,bd.swap⟩;have e:∀(Ha:Hp)(o1 o2:HO),upd (upd Ha KA o1) KA o2=upd Ha KA o2:=fun Ha o1 o2=>by
    funext b
    unfold upd;split<;>rfl
   rw[e];exact this
  have L:∃M,PSs (cf aw P w K mg base jV "_law_turned" (zg zY) f ak A outer s H E).nox (bJ (bJ (List.drop 5 (zag zY)))) M/\∀(En:Ends)(KA:Addr)(G J g:Int)(σ:St)(H':Hp),(∀σ H2,FN H p S KA i σ H2->En.nx σ H2)->TS H p S KA i G J g σ H'->M En σ H':=by
   obtain⟨M,cZ,X⟩:=E3;refine⟨_,zh (cn (zt dz (pv 5) zd (ar _)) (zh (iN (Lp PySem.F.plainAttrs_list PySem.F.slot_list_reverse PySem.F.type_list_reverse Ls (pv 4)))) cZ),?_⟩;rintro En KA G J g σ H' fin ⟨B2,L,T,b5,st,N,rfl,u,bd,a0,c⟩;have W:TS H p S KA i G J g _ H':=⟨B2,L,T,b5,st,N,rfl,u,bd,a0,c⟩;refine⟨_,rfl,rfl,_,rfl,dE (fun _=>?_) (fun _=>X En KA G J g _ H' fin W)⟩;rcases c with ⟨k,hk,e1,O,_⟩|⟨e1,O,_⟩
   ·rw[O]
    refine⟨_,rfl,.inl ⟨rfl,_,SqL.of (u.b.at_ k hk)⟩,B2 k,_,rfl,rfl,u.b.at_ k hk,?_⟩;rw[<-List.map_reverse];refine fin _ _ ⟨B2,_,_,b5,st,_,_,_,_,_,rfl,u.list hk (u.b.rw k hk).rev (Pp (u.b.nd k hk).1) fun d hd=>?_,bd.list hk (by rw[List.length_reverse];(first|lia|omega)) fun r hr=>List.mem_reverse.mp hr⟩;have hd:=List.mem_reverse.mp hd;exact⟨u.b.own hk d hd,u.nb k hk d (Ao _ hd)⟩
   ·rw[O]
    refine⟨_,rfl,.inl ⟨rfl,_,SqL.of u.h5⟩,b5,_,rfl,rfl,u.h5,?_⟩;rw[<-List.map_reverse];exact fin _ _ ⟨B2,L,T,b5,_,_,_,_,_,_,rfl,u.five _,bd.five (by rw[List.length_reverse];(first|lia|omega)) fun x hx=>Af (bd.2.2 x (List.mem_reverse.mp hx)) (Aw ξ ω)⟩
  have E1:∃M,PSs (cf aw P w K mg base jV "_law_turned" (zg zY) f ak A outer s H E).nox (bJ (List.drop 5 (zag zY))) M/\∀(En:Ends)(KA:Addr)(G J g:Int)(σ:St)(H':Hp),(∀σ H2,FN H p S KA i σ H2->En.nx σ H2)->TS H p S KA i G J g σ H'->M En σ H':=by
   obtain⟨M,cZ,X⟩:=L;refine⟨_,zh (cn (PW.pt (j0 (zt dz (pv 5) zd (ar _)) (jX (zt (qA aI) (pv 4) (dB zb) (ar _)))))
    (zh (iN (ot PySem.F.plainAttrs_list PySem.F.slot_list_insert PySem.F.type_list_insert L_ (pv 4) (za (pv 6) (za (n7 (zt dz (pv 3) zd (ar _)) (zo zn (pv 4) (pv 6) (fun _ _=>rfl)) (zQ zK rfl B.list nD (za (zo zn (pv 4) (pv 6) (fun _ _=>rfl)) zb))) zb))))) cZ),?_⟩
   rintro En KA G J g σ H' fin ⟨B2,L,T,b5,st,N,rfl,u,bd,a0,c⟩;have W:TS H p S KA i G J g _ H':=⟨B2,L,T,b5,st,N,rfl,u,bd,a0,c⟩;refine⟨_,rfl,rfl,_,rfl,?_⟩;cases cw:decide (V.int J=V.int 1) with
   |false=>exact az (az (X En KA G J g _ H' fin W))
   |true=>
    refine aA ⟨_,rfl,ξ,fun q hq=>GQ u c hq ⟨_,rfl,az (X En KA G J g _ _ fin (W.same (Same.new hq)))⟩ fun c2=>⟨_,rfl,?_⟩⟩;have I:=u.same (Same.new (o:=.lst []) hq);obtain⟨j,rfl⟩:∃j:Nat,g=(j:Int):=⟨g.toNat,ω⟩;rcases c2 with ⟨k,hk,e1,O,ha⟩|⟨e1,O,ha⟩
    ·rw[O]
     have hj:j<(T k).length:=ω
     have hl:=(I.b.rw k hk).len;have hz:=(bd.1 k hk).1;obtain⟨d,ed⟩:∃d,(L k)[j]?=some d:=⟨_,Ab (show j<(L k).length from ω)⟩;obtain⟨rn,er,hd⟩:=(I.b.rw k hk).get ed;have gE:((L k).map V.ref)[j]?=some (V.ref d):=by rw[Aj,ed];rfl
     refine aA ⟨_,rfl,.inl ⟨rfl,_,SqL.of (I.b.at_ k hk)⟩,_,rfl,_,rfl,rfl,_,rfl,?_⟩;rw[lH,decide_eq_false (show ¬G=4 from ω)];refine az ⟨_,rfl,_,rfl,B2 k,_,_,_,rfl,rfl,SqL.of (I.b.at_ k hk),zi (v:=V.ref d) gE,d,_,rfl,.inl (SqL.of hd),fun n hn=>?_⟩;have fM:=I.same (Same.new (o:=.lst (rn.map V.int)) hn);refine⟨B2 k,_,_,_,rfl,rfl,fM.b.at_ k hk,ω,by rw[Aa];(first|lia|omega),yS (by rw[Aa];(first|lia|omega)),?_⟩;have ej:((j:Int)).toNat=j:=Int.toNat_natCast j;rw[ej,<-List.map_take,<-List.map_drop,<-AX (f:=V.ref),<-At];have wL:H n=none:=I.sm.free I.b0 I.bx hn;have uv:Rws (upd (upd H' q (.lst [])) n (.lst (rn.map V.int))) ((L k).take j++n::(L k).drop j) ((T k).take j++rn::(T k).drop j):=((fM.b.rw k hk).take j).app (.cons zc ((fM.b.rw k hk).drop j));have jB:∀l,l<4->n∉B2 l::L l:=fun l eR z=>I.b.there eR n z hn;refine fin _ _ ⟨B2,_,_,b5,st,_,_,_,_,_,rfl,fM.list hk uv ?_ fun x hx=>?_,bd.list hk ?_ fun r hr=>?_⟩
     ·have nd:=(I.b.nd k hk).1
      rw[<-List.take_append_drop j (L k)] at nd;obtain⟨n1,n2,n3⟩:=List.nodup_append.mp nd;refine List.nodup_append.mpr ⟨n1,List.nodup_cons.mpr ⟨fun z=>jB k hk (Ao _ (List.mem_of_mem_drop z)),n2⟩,fun a ha b hb=>?_⟩;rcases List.mem_cons.mp hb with z|z
      ·rw[z];exact fun e=>jB k hk (Ao _ (Bg (e▸ha)))
      ·exact n3 a ha b z
     ·have own:x=n\/x∈L k:=by
       rcases List.mem_append.mp hx with z|z
       ·exact .inr (Bg z)
       ·rcases List.mem_cons.mp z with z|z
        ·exact .inl z
        ·exact .inr (List.mem_of_mem_drop z)
      rcases own with rfl|z
      ·exact⟨⟨fun e=>jB k hk (by rw[<-e];exact Aq ..),fun l eR _ z=>jB l eR z⟩,wL,fun e=>(by rw[e,I.kp] at hn;cases hn),fun e=>(by rw[e,I.h5] at hn;cases hn)⟩
      ·exact⟨u.b.own hk x z,u.nb k hk x (Ao _ z)⟩
     ·rw[AN,AH,Bo,List.length_drop];(first|lia|omega)
     ·rcases List.mem_append.mp hr with z|z
      ·exact Bg z
      ·rcases List.mem_cons.mp z with z|z
       ·rw[z];exact Ak er
       ·exact List.mem_of_mem_drop z
    ·rw[O]
     have hj:j<st.length:=ω
     have hz:=bd.2.1;refine aA ⟨_,rfl,.inl ⟨rfl,_,SqL.of I.h5⟩,_,rfl,_,rfl,rfl,_,rfl,?_⟩;rw[lH,decide_eq_true e1];refine aA ⟨_,rfl,_,rfl,b5,_,_,_,rfl,rfl,SqL.of I.h5,zi (b8 hj),b5,_,_,_,rfl,rfl,I.h5,ω,by rw[Aa];(first|lia|omega),yS (by rw[Aa];(first|lia|omega)),?_⟩;have ej:((j:Int)).toNat=j:=Int.toNat_natCast j;rw[ej,<-List.map_take,<-List.map_drop,<-AX (f:=V.int),<-At];refine fin _ _ ⟨B2,L,T,b5,_,_,_,_,_,_,rfl,I.five _,bd.five ?_ fun x hx=>?_⟩
     ·rw[AN,AH,Bo,List.length_drop];(first|lia|omega)
     ·have:x∈st:=by
       rcases List.mem_append.mp hx with z|z
       ·exact Bg z
       ·rcases List.mem_cons.mp z with z|z
        ·rw[z,gM hj];exact AB hj
        ·exact List.mem_of_mem_drop z
      exact Af (bd.2.2 x this) (Aw ξ ω)
  have E0:∃M,PSs (cf aw P w K mg base jV "_law_turned" (zg zY) f ak A outer s H E).nox (List.drop 5 (zag zY)) M/\∀(KA:Addr)(G J g:Int)(σ:St)(H':Hp),TS H p S KA i G J g σ H'->M {nx:=fun _ H'=>Q .non H',rt:=Q} σ H':=by
   obtain⟨M,cZ,X⟩:=E1;refine⟨_,ze (cn (PW.pt (j0 (zt dz (pv 5) zd (ar _)) (jX (zt (qA aI) (pv 4) (dB zb) (ar _)))))
    (zh (iN (ot PySem.F.plainAttrs_list PySem.F.slot_list_pop PySem.F.type_list_pop Lr (pv 4) (za (pv 6) zb)))) cZ)
    (zh (zr (zQ Ei rfl eE EW (za (pv 2) zb)))),?_⟩
   rintro KA G J g σ H' ⟨B2,L,T,b5,st,N,rfl,u,bd,a0,c⟩;have W:TS H p S KA i G J g _ H':=⟨B2,L,T,b5,st,N,rfl,u,bd,a0,c⟩;have fin:∀σ H2,FN H p S KA i σ H2->rq (iR (fun xs H Q=>∃p ys,xs=[.ref p]/\((SqL K H p ys/\∀l,H l=none->Q (.ref l) (upd H l (.tup ys)))\/(SqT K H p ys/\Q (.ref p) H))) (ca (av 2) bK)) {nx:=fun _ H'=>Q .non H',rt:=Q} σ H2:=by
    rintro σ H2 ⟨B3,E3,T3,c5,aY,v3,v4,v5,v6,v7,rfl,Y,mK⟩;refine⟨_,rfl,KA,_,rfl,.inl ⟨SqL.of Y.kp,fun l hl=>?_⟩⟩;have dq:=Y.same (Same.new (o:=.tup [.ref (B3 0),.ref (B3 1),.ref (B3 2),.ref (B3 3),.ref c5]) hl);exact k _ l B3 E3 T3 c5 aY dq.sm dq.bx ⟨Y.sm.free Y.b0 Y.bx hl,fun i hi z hz=>(Y.nb i hi z hz).1,Y.n5⟩ ⟨zc,dq.b,dq.h5⟩ mK
   refine⟨_,rfl,rfl,_,rfl,?_⟩;cases cw:decide (V.int J=V.int 0) with
   |false=>exact az (az (X _ KA G J g _ H' fin W))
   |true=>
    refine aA ⟨_,rfl,ξ,fun q hq=>GQ u c hq ⟨_,rfl,az (X _ KA G J g _ _ fin (W.same (Same.new hq)))⟩ fun c2=>⟨_,rfl,?_⟩⟩;have I:=u.same (Same.new (o:=.lst []) hq);obtain⟨j,rfl⟩:∃j:Nat,g=(j:Int):=⟨g.toNat,ω⟩;have qc:∀n,j<n->seqIndex? (j:Int) n=some j:=fun n hn=>by
     unfold seqIndex?;simp;(first|lia|omega)
    rcases c2 with ⟨k',hk,e1,O,ha⟩|⟨e1,O,ha⟩
    ·rw[O]
     have hj:j<(T k').length:=ω
     have hl:=(I.b.rw k' hk).len;have hz:=(bd.1 k' hk).1;obtain⟨d,ed⟩:∃d,(L k')[j]?=some d:=⟨_,Ab (show j<(L k').length from ω)⟩;refine aA ⟨_,rfl,.inl ⟨rfl,_,SqL.of (I.b.at_ k' hk)⟩,_,rfl,B2 k',_,(j:Int),j,V.ref d,rfl,rfl,I.b.at_ k' hk,ω,ω,qc _ (by rw[Aa];(first|lia|omega)),by rw[Aj,ed];rfl,?_⟩;rw[Kt];refine fin _ _ ⟨B2,_,_,b5,st,_,_,_,_,_,rfl,I.list hk ((I.b.rw k' hk).er j) ((List.eraseIdx_sublist ..).nodup (I.b.nd k' hk).1) fun x hx=>?_,bd.list hk ?_ fun r hr=>List.mem_of_mem_eraseIdx hr⟩
     ·have hx:=List.mem_of_mem_eraseIdx hx
      exact⟨u.b.own hk x hx,u.nb k' hk x (Ao _ hx)⟩
     ·rw[List.length_eraseIdx]
      split<;>(first|lia|omega)
    ·rw[O]
     have hj:j<st.length:=ω
     have hz:=bd.2.1;refine aA ⟨_,rfl,.inl ⟨rfl,_,SqL.of I.h5⟩,_,rfl,b5,_,(j:Int),j,_,rfl,rfl,I.h5,ω,ω,qc _ (by rw[Aa];(first|lia|omega)),b8 hj,?_⟩;rw[Kt];refine fin _ _ ⟨B2,L,T,b5,_,_,_,_,_,_,rfl,I.five _,bd.five ?_ fun x hx=>Af (bd.2.2 x (List.mem_of_mem_eraseIdx hx)) (Aw ξ ω)⟩;rw[List.length_eraseIdx];split<;>(first|lia|omega)
  obtain⟨M,cZ,X⟩:=E0;refine⟨_,ze (zq (i:=2) nT.nd rfl (Or.inl rfl) (zA El
    (zu jV ["part"] [none] (GY (ol HP (pv 1) oh (oj zd))) (fun cl C s₀ H₀ ex=>zl (i:=0) (bI ["part"]) rfl (Or.inl rfl)) (fun cl C s₀ H₀ ex=>zy)
     (fun cl C s₀ H₀ ex=>zu ["part"] ["row"] [none] (zI (pv 0)) (fun cl C s₀ H₀ ex=>zl (i:=0) (bI ["row"]) rfl (Or.inl rfl)) (fun cl C s₀ H₀ ex=>zy) (fun cl C s₀ H₀ ex=>zQ zK rfl B.list nD (za (pv 0) zb)) (te:=qL K) (hfr:=b7 δ))
     (te:=GM K) (hfr:=b7 δ))
    (dB (za (zQ zK rfl B.list nD (za (zo zC (pv 1) zd (fun _ _=>rfl)) zb)) zb))))
   (ze (zq (i:=3) nT.nd rfl (Or.inl rfl) (zf Gt hr rfl mt Ft.kp bt .nil ac (za (pv 0) (za zd zb))))
   (ze (zq (i:=4) nT.nd rfl (Or.inl rfl) (zo zn (pv 2) (pv 3) (fun _ _=>rfl)))
   (ze (zq (i:=5) nT.nd rfl (Or.inl rfl) (zf Gt hr rfl mt Ft.kp bt .nil ac (za (pv 0) (za zd zb))))
   (ze (zq (i:=6) nT.nd rfl (Or.inl rfl) (zf Gt hr rfl mt Ft.kp bt .nil ac (za (pv 0) (za (zm (K9 rfl) rfl B.max Pq (za zd (za (zm zj rfl B.len cp (za (pv 4) zb)) zb))) zb))))
   cZ)))),?_⟩
  refine⟨_,rfl,_,rfl,S,_,rfl,sh.s,fun p1 H1 s1 fj=>⟨p1,rfl,⟨_,SqT.of fj⟩,fun DD i8=>?_⟩⟩;refine zx (Kk (A:=A') fj (sh.a.same s1) (fun l hl=>by have:=(jO.1 l hl).1;(first|lia|omega)) i8 fun H2 B2 L s2 cF ab nw=>?_);have aB:=s1.trans s2;have mH:=aB _ _ sh.h5;refine⟨_,rfl,S,_,_,_,rfl,rfl,SqT.of (aB _ _ sh.s),zi (j:=4) rfl,a5,_,rfl,.inl (SqL.of mH),fun b5 cT=>⟨zv (by simp),fun q hq=>⟨DD,q,[.ref (B2 0),.ref (B2 1),.ref (B2 2),.ref (B2 3)],_,rfl,rfl,?_,zc,zv (by simp),fun KA i6=>?_⟩⟩⟩
  ·rw[af (zk ((Same.new cT) _ _ cF) hq)];exact(Same.new cT) _ _ cF
  have n3:=Same.new (o:=.lst (dr.map V.int)) cT;have n4:=Same.new (o:=.lst [.ref b5]) hq;have n5:=Same.new (o:=.lst ([V.ref (B2 0),.ref (B2 1),.ref (B2 2),.ref (B2 3)]++[.ref b5])) i6;have ee:=n3.trans (n4.trans n5);have pH:Tu H (upd (upd (upd H2 b5 (.lst (dr.map V.int))) q (.lst [.ref b5])) KA (.lst ([V.ref (B2 0),.ref (B2 1),.ref (B2 2),.ref (B2 3)]++[.ref b5]))) p KA B2 L T0 b5 dr:=by
   have e5:(upd (upd H2 b5 (.lst (dr.map V.int))) q (.lst [.ref b5])) b5=some (.lst (dr.map V.int)):=n4 _ _ zc;refine⟨zc,ab.same ee,n5 _ _ e5,fun l hl z hz=>⟨s1.free (nw l hl z hz).1,fun e=>?_,fun e=>?_⟩,aB.free (n3.free (n4.free i6)),aB.free cT,fun e=>?_,.of (aB.trans ee),hb,hb.same (aB.trans ee)⟩
   ·have:=ab.there hl z hz
    exact this (by rw[e];exact n3.free (n4.free i6))
   ·have:=ab.there hl z hz
    exact this (by rw[e];exact cT)
   ·rw[e,e5] at i6;cases i6
  refine⟨_,rfl,p,_,rfl,pH.bx,ξ,ξ,fun G H3 w0 w1 c8 hb3=>?_⟩;have Y:=pH.draw c8 hb3;obtain⟨m,rfl⟩:∃m:Nat,G=(m:Int):=⟨G.toNat,ω⟩;have m5:m<5:=ω
  obtain⟨N,vC,O⟩:∃N,[V.ref (B2 0),.ref (B2 1),.ref (B2 2),.ref (B2 3),.ref b5][m]?=some (.ref N)/\((m<4/\N=B2 m)\/(m=4/\N=b5)):=by
   obtain rfl|rfl|rfl|rfl|rfl:m=0\/m=1\/m=2\/m=3\/m=4:=ω
   ·exact⟨_,rfl,.inl ⟨ξ,rfl⟩⟩
   ·exact⟨_,rfl,.inl ⟨ξ,rfl⟩⟩
   ·exact⟨_,rfl,.inl ⟨ξ,rfl⟩⟩
   ·exact⟨_,rfl,.inl ⟨ξ,rfl⟩⟩
   ·exact⟨_,rfl,.inr ⟨rfl,rfl⟩⟩
  refine⟨_,rfl,_,rfl,KA,_,_,_,rfl,rfl,SqL.of Y.kp,zi vC,?_⟩;refine⟨_,rfl,p,_,rfl,hb3,ξ,ξ,fun J H4 _ _ cR cm=>?_⟩;have dq:=Y.draw cR cm;obtain⟨xs,t_,jn⟩:∃xs:List V,H4 N=some (.lst xs)/\xs.length=(if m<4 then(T0 m).length else dr.length):=by
   rcases O with ⟨U,rfl⟩|⟨U,rfl⟩
   ·exact⟨_,dq.b.at_ m U,by rw[if_pos U,Aa,(dq.b.rw m U).len]⟩
   ·exact⟨_,dq.h5,by rw[if_neg ω,Aa]⟩
  have xl:xs.length<=100:=by
   rw[jn]
   by_cases U:m<4
   ·rw[if_pos U];have:=(jO.1 m U).1;(first|lia|omega)
   ·rw[if_neg U];have:=jO.2.1;(first|lia|omega)
  refine⟨_,rfl,_,rfl,N,_,rfl,.inl (SqL.of t_),_,_,rfl,p,_,rfl,cm,?_,?_,fun g H5 a0 a1 kZ l_=>?_⟩
  ·split<;>(first|lia|omega)
  ·split<;>(first|lia|omega)
  have rE:=dq.draw kZ l_;refine X KA m J g _ H5 ⟨B2,L,T0,b5,dr,N,rfl,rE,jO,a0,?_⟩;have eI:g<xs.length\/xs.length=0:=by
   by_cases z:xs.length=0
   ·exact .inr z
   ·left
    split at a1<;>(first|lia|omega)
  rcases O with ⟨U,hp⟩|⟨U,hp⟩
  ·rw[if_pos U] at jn
   refine .inl ⟨m,U,rfl,hp,?_⟩;rw[jn] at eI;exact eI.imp id fun z=>List.length_eq_zero_iff.mp z
  ·rw[if_neg ω] at jn
   refine .inr ⟨ω,hp,?_⟩;rw[jn] at eI;exact eI.imp id fun z=>List.length_eq_zero_iff.mp z
end
abbrev iM:Stmt:=top 54
abbrev fB(T:Nat->Ξ)(st:List Int):PyData:=.tuple [aZ (T 0),aZ (T 1),aZ (T 2),aZ (T 3),dn st]
def Pu{a a':Ξ}{T T':Nat->Ξ}{st b:List Int}:SeqAt.noMix (.list [aZ a,fB T st]) (.list [aZ a',fB T' b])=true:=by
 have h:=iF a a';have c:=iF (T 0) (T' 0);have h1:=iF (T 1) (T' 1);have h2:=iF (T 2) (T' 2);have d:=iF (T 3) (T' 3);have e:=JX st b;simp only[SeqAt.noMix,SeqAt.noMixAll] at *;simp[h,c,h1,h2,d,e]
def Pv{a:Ξ}{T:Nat->Ξ}{st:List Int}:PySem.Spec.same (.list [aZ a,fB T st]) (.list [aZ a,fB T st])=true:=by
 have h:=gS a a;have b:=gS (T 0) (T 0);have h1:=gS (T 1) (T 1);have h2:=gS (T 2) (T 2);have c:=gS (T 3) (T 3);have d:=GB st st;rw[decide_eq_true rfl] at h b h1 h2 c d;show PySem.Spec.sameAll [aZ a,fB T st] [aZ a,fB T st]=true;have e:PySem.Spec.same (fB T st) (fB T st)=true:=by
  show PySem.Spec.sameAll [aZ (T 0),aZ (T 1),aZ (T 2),aZ (T 3),dn st] [aZ (T 0),aZ (T 1),aZ (T 2),aZ (T 3),dn st]=true;simp only[PySem.Spec.sameAll,b,h1,h2,c,d,Bool.and_self]
 simp only[PySem.Spec.sameAll,h,e,Bool.and_self]
def Kx{a:Ξ}{T:Nat->Ξ}{st:List Int}:SeqAt.shaped (.list [aZ a,fB T st])=true:=by
 have d:=fun i=>qC (T i);have c:=qC a;have f:Bj (dn st)<=2:=by simp[Bj,PySem.W.ke_depthAll]
 have t:∀b:Ξ,Bj (aZ b)<=3:=fun b=>by
  have:=qC b;rw[aZ,Bj];(first|lia|omega)
 have g:=t (T 0);have h1:=t (T 1);have h2:=t (T 2);have j:=t (T 3);have h:=t a;have es:Bj (fB T st)<=4:=by
  rw[Bj];simp only[PyData.depthAll];(first|lia|omega)
 have e:Bj (.list [aZ a,fB T st])<=64:=by
  rw[Bj];simp only[PyData.depthAll];(first|lia|omega)
 unfold SeqAt.shaped;rw[decide_eq_true e,PyData.canLay0];simp only[PyData.canLayAll0,PyData.canLay0,Dz,GC,Bool.and_self]
def SqL.far{K:Ag}{H H':Hp}{a p:Addr}{xs:List V}{o:HO}(h:L2.SqL K H a xs)(hp:H p=none)(s:zZ p (L2.upd H p o) H'):L2.SqL K H' a xs:=by
 rcases h with (h|⟨u,h⟩)|h
 ·exact .inl (.inl (s _ _ (zk h hp) ((Same.new hp) _ _ h)))
 ·exact .inl (.inr ⟨u,s _ _ (zk h hp) ((Same.new hp) _ _ h)⟩)
 ·exact .inr h
def Pw{H H':Hp}{p:Addr}{o:HO}(hp:H p=none)(s:zZ p (L2.upd H p o) H'):Same H H':=fun b o' e=>s b o' (zk e hp) ((Same.new hp) _ _ e)
section
variable{P:Program}{w:World}{K:Ag}{mg:Str->Option Value}{base:Heap}
def Ky{H:Hp}{S:Addr}{A:Nat->Addr}{D:Nat->List Addr}{T:Nat->Ξ}{a5:Addr}{st:List Int}(h:Sh H S A D T a5 st):RD K H (.ref S) (fB T st):=
 .tup (SqT.of h.s) (.cons (.dv (dI (SqL.of (h.a.at_ 0 ξ)) (h.a.rw 0 ξ))) (.cons (.dv (dI (SqL.of (h.a.at_ 1 ξ)) (h.a.rw 1 ξ))) (.cons (.dv (dI (SqL.of (h.a.at_ 2 ξ)) (h.a.rw 2 ξ))) (.cons (.dv (dI (SqL.of (h.a.at_ 3 ξ)) (h.a.rw 3 ξ))) (.cons (.dv (DA (SqL.of h.h5))) .nil)))))
def PapH.sh{H H':Hp}{p:Addr}{u ub v vb:Ξ}{st:List Int}{a1 a2 a3 a4 a5:Addr}{d1 d2 d3 d4:List Addr}(h:PapH H H' p u ub v vb st a1 a2 a3 a4 a5 d1 d2 d3 d4):Sh H' p (fo a1 a2 a3 a4) (fo d1 d2 d3 d4) (fo u ub v vb) a5 st:=⟨h.at_,h.ap,h.n5⟩
def Pap.bd{k w:Nat}{A:Nat->Tb.Vc}{u ub v vb:Ξ}{st:List Int}(p:Pap k w A u ub v vb st)(hk:k<=20)(hw:w<=20):Bd (fo u ub v vb) st 0:=by
 refine⟨fun i hi=>?_,Af p.sk hk,fun x hx=>Nat.le_of_lt (p.s9 x hx)⟩;obtain rfl|rfl|rfl|rfl:=Bv hi
 ·exact⟨by show u.length<=_;rw[p.lu];exact hk,fun r hr=>⟨by rw[p.wu r hr];(first|lia|omega),p.mu r hr⟩⟩
 ·exact⟨by show ub.length<=_;rw[p.lub];exact hk,fun r hr=>⟨by rw[p.wub r hr];(first|lia|omega),p.mub r hr⟩⟩
 ·exact⟨by show v.length<=_;rw[p.lv];exact hw,fun r hr=>⟨by rw[p.wv r hr];(first|lia|omega),p.mv r hr⟩⟩
 ·exact⟨by show vb.length<=_;rw[p.lvb];exact hw,fun r hr=>⟨by rw[p.wvb r hr];(first|lia|omega),p.mvb r hr⟩⟩
abbrev DN:List Str:=["script","box","table","sheet","turn","handed","found"]
def DO(K:Ag):Sp:=fun vs H Q _=>∃(a:Addr)(ns:List Int),vs=[.ref a]/\SqL K H a (ns.map V.int)/\ns.length<=63/\∀H',Q (.bl true) H'
def jW:zp DN ["script"] (zg iM):=⟨rfl,rfl,rfl,δ,rfl,δ,δ⟩
def Px{f fc fb ft kg fs fi fp nJ kC:Addr}{fd aU dM bG gg aJ gq bF gu gK:FuncData}(F:Fun K "law" "law" iM f fd)(B:iG mg)(eE:mg "tuple"=none)(Fc:Fun K "_law_cell_at" "_law_cell_at" DH fc aU)(bc:Binds K aU ["script","k"] [])(mc:mg "_law_cell_at"=some (.ref fc))(Fb:Fun K "_law_box" "_law_box" jQ fb dM)(bb:Binds K dM ["cell"] [])(mb:mg "_law_box"=some (.ref fb))(Ft:Fun K "_law_take" "_law_take" nu ft bG)(bt:Binds K bG ["box","most"] [])(mt:mg "_law_take"=some (.ref ft))(Ftb:Fun K "_law_table" "_law_table" jU kg gg)(qQ:Binds K gg ["box","most"] [])(qt:mg "_law_table"=some (.ref kg))(jE:ai P w K mg base aw 3 kg gg ["box","most"] Kb)(Fs:Fun K "stepped" "stepped" DB fs aJ)(bs:Binds K aJ ["table"] [])(ms:mg "stepped"=some (.ref fs))(Gs:ai P w K mg base aw 7 fs aJ ["table"] (J0 K))(Fi:Fun K "is_stepped" "is_stepped" DC fi gq)(bi:Binds K gq ["table","paper"] [])(mi:mg "is_stepped"=some (.ref fi))(Gi:ai P w K mg base aw 5 fi gq ["table","paper"] (J5 K))(Fp:Fun K "_law_paper_right" "_law_paper_right" zT fp bF)(bp:Binds K bF ["table","sheet"] [])(mp:mg "_law_paper_right"=some (.ref fp))(Gp:ai P w K mg base aw 4 fp bF ["table","sheet"] (Ki K))(Fcp:Fun K "_law_copy" "_law_copy" DM nJ gu)(mT:Binds K gu ["sheet"] [])(mC:mg "_law_copy"=some (.ref nJ))(iP:ai P w K mg base aw 1 nJ gu ["sheet"] Ks)(Ftu:Fun K "_law_turned" "_law_turned" zY kC gK)(l6:Binds K gK ["box","sheet"] [])(sH:mg "_law_turned"=some (.ref kC))(kL:ai P w K mg base aw 2 kC gK ["box","sheet"] Kw):ai P w K mg base aw 8 f fd ["script"] (DO K):=by
 have Gc:ai P w K mg base aw 1 fc aU ["script","k"] (J8 K):=OP Fc B;have Gb:ai P w K mg base aw 1 fb dM ["cell"] J9:=OR Fb;have Gt:ai P w K mg base aw 1 ft bG ["box","most"] qI:=DI Ft;refine F.ok jW (fun vs H Q E h=>?_) (fun ak A outer s H vs Q E hr h=>?_)
 ·obtain⟨a,ns,rfl,_⟩:=h;rfl
 ·obtain⟨a,ns,rfl,hs,hn,k⟩:=h
  have aI:=hr.units;have g:Room 1 _:=hr.mono ξ;have hr2:Room 2 _:=hr.mono ξ;have hr3:Room 3 _:=hr.mono ξ;have dA:Room 4 _:=hr.mono ξ;have uo:Room 5 _:=hr.mono ξ;have T4:∃tt,PSs (cf aw P w K mg base DN "law" (zg iM) f ak A outer s H E).nox (List.drop 4 (zag iM)) tt/\∀(p L S:Addr)(rs:List Addr)(tb:Ξ)(A0:Nat->Addr)(D0:Nat->List Addr)(T0:Nat->Ξ)(a5:Addr)(dr:List Int)(H':Hp),
    zR H' p->H' L=some (.lst (rs.map V.ref))->Rws H' rs tb->cN tb=true->Sm9 tb->L≠p->(∀d∈rs,d≠p)->Sh H' S A0 D0 T0 a5 dr->(∀i,i<4->∀z∈A0 i::D0 i,z≠p)->a5≠p->S≠p->Bd T0 dr 0->
    tt {nx:=fun _ H'=>Q .non H',rt:=Q} [some (.ref a),some (.ref p),some (.ref L),some (.ref S),none,none,none] H':=by
   refine⟨_,ze (hA Bl rfl (g_ rfl B.range (za (zo zn (dB (za zd (za zd (za zd (za zd zb))))) (zf Gt g rfl mt Ft.kp bt .nil ac (za (pv 1) (za zd zb))) (fun _ _=>rfl)) zb)) (zl (i:=4) jW.nd rfl (Or.inl rfl))
     (zh (zq (i:=3) jW.nd rfl (Or.inl rfl) (zf kL hr2 rfl sH Ftu.kp l6 .nil ac (za (pv 1) (za (pv 3) zb))))))
    (ze (zq (i:=5) jW.nd rfl (Or.inl rfl) (dB (za (zu DN ["row"] [none] (zI (pv 2)) (fun cl C s₀ H₀ ex=>zl (i:=0) (bI ["row"]) rfl (Or.inl rfl)) (fun cl C s₀ H₀ ex=>zy)
      (fun cl C s₀ H₀ ex=>zQ zK rfl B.list nD (za (pv 0) zb)) (te:=qL K) (hfr:=b7 δ)) (za (zf iP g rfl mC Fcp.kp mT .nil ac (za (pv 3) zb)) zb))))
    (ze (zq (i:=6) jW.nd rfl (Or.inl rfl) (zf Gi uo rfl mi Fi.kp bi .nil ac (za (zo zn (pv 5) zd (fun _ _=>rfl)) (za (zo zn (pv 5) zd (fun _ _=>rfl)) zb))))
    (ze (cn (zt (Pk aI) (pv 5) (dB (za (pv 2) (za (pv 3) zb))) (ar _)) (zh (zr fC)) zJ)
    (zh (zr (rm (zm L' rfl B.isinstance OY (za (pv 6) (za (KO (v:=.ty "bool") rfl B.bool OW rfl) zb))) (rj (e_ dz (pv 6) (zf Gp dA rfl mp Fp.kp bp .nil ac (za (pv 2) (za (pv 3) zb))) (ar _))))))))),?_⟩
   intro p L S rs tb A0 D0 T0 a5 dr H0 hb hL hT it s9 nL nr sh nA n5 nS bd;obtain⟨t1,t2,t3⟩:=ke it;refine⟨zv (by simp),fun q hq=>⟨_,rfl,p,_,rfl,hb.new hq,ξ,ξ,fun z H1 z0 z1 fH dt=>?_⟩⟩;obtain⟨m,em,m2⟩:∃m:Nat,atI [V.int 0,.int 1,.int 1,.int 2] z=some (.int m)/\m<=2:=by
    have:z=0\/z=1\/z=2\/z=3:=ω
    rcases this with rfl|rfl|rfl|rfl
    ·exact⟨0,rfl,ξ⟩
    ·exact⟨1,rfl,ξ⟩
    ·exact⟨1,rfl,ξ⟩
    ·exact⟨2,rfl,ξ⟩
   have hqp:q≠p:=zU hb hq;have S1:zZ p H0 H1:=(zZ.of (Same.new hq)).trans fH;refine⟨q,_,_,_,rfl,rfl,SqL.of (fH _ _ hqp zc),em,_,rfl,ω,ω,?_⟩;refine CB (lo:=0) (n:=m) (fun i σ H2=>∃(v4:Option V)(S2:Addr)(I:Nat->Addr)(J:Nat->List Addr)(b:Nat->Ξ)(Z:Addr)(G:List Int),σ=[some (.ref a),some (.ref p),some (.ref L),some (.ref S2),v4,none,none]/\zZ p H0 H2/\zR H2 p/\Sh H2 S2 I J b Z G/\(∀i,i<4->∀z∈I i::J i,z≠p)/\Z≠p/\S2≠p/\Bd b G i)
    ⟨none,S,A0,D0,T0,a5,dr,rfl,S1,dt,⟨S1 _ _ nS sh.s,sh.a.draw S1 nA,S1 _ _ n5 sh.h5⟩,nA,n5,nS,bd⟩ ?_ ?_
   ·rintro i σ H2 hi ⟨v4,S2,I,J,b,Z,G,rfl,sm,U,lE,vQ,sy,yd,O⟩
    refine⟨_,rfl,_,rfl,p,S2,I,J,b,Z,G,i,rfl,U,lE,O,ω,fun H3 S3 A3 D3 T3 d5 aY c8 hb3 sn jx mK=>?_⟩;exact⟨_,S3,A3,D3,T3,d5,aY,rfl,sm.trans c8,hb3,jx,fun i hi z hz=>zU U (sn.na i hi z hz),zU U sn.n5,zU U sn.nS,mK⟩
   ·rintro σ H2 ⟨v4,S2,I,J,b,Z,G,rfl,sm,U,lE,vQ,sy,yd,O⟩
    have gA:=sm _ _ nL hL;have fE:=hT.sameB sm nr;have T:∀i,i<4->(b i).length<=40:=fun i hi=>by have:=(O.1 i hi).1;(first|lia|omega)
    have zS:=O.2.1;have W:∀i,i<4->SmL (b i):=fun i hi r hr x hx=>by have:=((O.1 i hi).2 r hr).2 x hx;(first|lia|omega)
    refine⟨_,rfl,L,rfl,⟨_,SqL.of gA⟩,fun DD i8=>zx (GL (SqL.of gA) fE ω i8 fun H3 ds s3 M N _ _=>?_)⟩;have jx:=lE.same s3;refine⟨_,rfl,S2,I,J,b,Z,G,rfl,jx,T,ω,fun H4 S4 A4 D4 d5 s4 Cs uZ=>⟨zv (by simp),fun Hd xx=>?_⟩⟩;have s5:=Same.new (o:=.lst [.ref DD,.ref S4]) xx;generalize hH5:upd H4 Hd (.lst [.ref DD,.ref S4])=H5 at s5;have mB:H5 Hd=some (.lst [.ref DD,.ref S4]):=by rw[<-hH5];exact zc
    have kU:=s4.trans s5;have ib:=uZ.same s5;have X:=ib.a;refine⟨_,rfl,Hd,_,_,_,rfl,rfl,SqL.of mB,zi (j:=0) rfl,_,rfl,Hd,_,_,_,rfl,rfl,SqL.of mB,zi (j:=1) rfl,DD,S4,A4 0,A4 1,A4 2,A4 3,d5,ds,D4 0,D4 1,D4 2,D4 3,tb,b 0,b 1,b 2,b 3,G,rfl,kU _ _ M,N.same kU,it,ib.s,X.at_ 0 ξ,X.at_ 1 ξ,X.at_ 2 ξ,X.at_ 3 ξ,ib.h5,X.rw 0 ξ,X.rw 1 ξ,X.rw 2 ξ,X.rw 3 ξ,Af (T 0 ξ) ξ,Af (T 1 ξ) ξ,Af (T 2 ξ) ξ,Af (T 3 ξ) ξ,ω,s9,W 0 ξ,W 1 ξ,W 2 ξ,W 3 ξ,fun H6 s6=>?_⟩;refine⟨_,rfl,_,rfl,_,rfl,zv (by simp),fun q2 fF=>?_⟩;have s7:=Same.new (o:=.lst [.ref L,.ref S2]) fF;have lW:=s6.trans s7;have dR:=kU.trans lW;have jM:=jx.same dR;have ox:=(s3.trans dR) _ _ gA;have pE:=fE.same (s3.trans dR);refine⟨.list [aZ tb,fB b G],.list [aZ tb,fB b G],.lst (SqL.of (lW _ _ mB)) (.cons (.dv (dI (SqL.of (dR _ _ M)) (N.same dR))) (.cons (Ky (ib.same lW)) .nil)),.lst (SqL.of zc) (.cons (.dv (dI (SqL.of ox) pE)) (.cons (Ky jM) .nil)),Kx,Kx,Pu,_,rfl,?_⟩;rw[Pv];have Y:=jM.a;refine az ⟨_,rfl,_,rfl,_,rfl,aA ⟨_,rfl,_,rfl,_,rfl,L,S2,I 0,I 1,I 2,I 3,Z,rs,J 0,J 1,J 2,J 3,tb,b 0,b 1,b 2,b 3,G,rfl,ox,pE,it,jM.s,Y.at_ 0 ξ,Y.at_ 1 ξ,Y.at_ 2 ξ,Y.at_ 3 ξ,jM.h5,Y.rw 0 ξ,Y.rw 1 ξ,Y.rw 2 ξ,Y.rw 3 ξ,Af (T 0 ξ) ξ,Af (T 1 ξ) ξ,Af (T 2 ξ) ξ,Af (T 3 ξ) ξ,ω,s9,W 0 ξ,W 1 ξ,W 2 ξ,W 3 ξ,fun H8 s8=>⟨rfl,?_⟩⟩⟩;rw[Pl t3,decide_eq_true rfl];exact k H8
  obtain⟨tt,cZ,kt⟩:=T4;refine⟨_,ze (zq (i:=1) jW.nd rfl (Or.inl rfl) (zf Gb g rfl mb Fb.kp bb .nil ac (za (zf Gc g rfl mc Fc.kp bc .nil ac (za (pv 0) (za zd zb))) zb)))
   (ze (zq (i:=2) jW.nd rfl (Or.inl rfl) (zf jE hr3 rfl qt Ftb.kp qQ .nil ac (za (pv 1) (za zd zb))))
   (ze (zq (i:=3) jW.nd rfl (Or.inl rfl) (zf iP g rfl mC Fcp.kp mT .nil ac (za (zf Gs hr rfl ms Fs.kp bs .nil ac (za (zu DN ["row"] [none] (zI (pv 2)) (fun cl C s₀ H₀ ex=>zl (i:=0) (bI ["row"]) rfl (Or.inl rfl)) (fun cl C s₀ H₀ ex=>zy)
      (fun cl C s₀ H₀ ex=>zQ zK rfl B.list nD (za (pv 0) zb)) (te:=qL K) (hfr:=b7 δ)) zb)) zb)))
   (ze (cn (zt dz (zf Gt g rfl mt Ft.kp bt .nil ac (za (pv 1) (za zd zb))) zd (ar _))
    (zh (zq (i:=3) jW.nd rfl (Or.inl rfl) (zf iP g rfl mC Fcp.kp mT .nil ac (za (zf Gs hr rfl ms Fs.kp bs .nil ac (za (zf jE hr3 rfl qt Ftb.kp qQ .nil ac (za (zf Gb g rfl mb Fb.kp bb .nil ac (za (zf Gc g rfl mc Fc.kp bc .nil ac (za (pv 0) (za zd zb))) zb)) (za zd zb))) zb)) zb)))) zJ)
   cZ))),?_⟩
  refine⟨_,rfl,a,ns,0,rfl,hs,fun n1=>⟨n1,rfl,fun p x y hp vf=>?_⟩⟩;have dt:zR (upd H p (.lst [.int x,.int y])) p:=⟨x,y,zc,vf⟩;refine⟨_,rfl,p,4,rfl,ξ,dt,fun L H2 c m hc hm T1=>?_⟩;obtain⟨ds,tb,iI,U,hF,cU,hl,kf,v_,h0⟩:=T1;have jA:L≠p:=zU dt h0;have dp:∀d∈ds,d≠p:=fun d hd=>zU dt (v_ d hd).1;obtain⟨i1,⟨gN,gn,gm,i2⟩,i3⟩:=Kn k4 kf ω ω ξ;obtain⟨t1,t2,t3⟩:=ke i1;have sC:wid tb<=20:=by
   cases e:tb with
   |nil=>exact Az _
   |cons r l=>
    rw[e] at kf;show r.length<=20;rw[(kf r (Aq ..)).1];(first|lia|omega)
  refine⟨_,rfl,L,rfl,⟨_,SqL.of hF⟩,fun D hD=>zx (GL (SqL.of hF) cU ω hD fun H3 es s3 M N _ _=>?_)⟩;refine⟨D,es,tb,gN,gn,gm,rfl,M,N,i1,i2,?_⟩;intro H4 r u ub v vb st a1 a2 a3 a4 a5 d1 d2 d3 d4 s4 ph pp;have bd:=pp.bd ω sC;refine⟨r,_,_,_,a5,st,rfl,ph.sh,fun i hi=>by have:=(bd.1 i hi).1;(first|lia|omega),by have:=bd.2.1;(first|lia|omega),fun H5 S5 A5 D5 b5 s5 jS ib=>?_⟩;have ee:=s3.trans (s4.trans s5);have cT:=U.same ee;have cm:=U.same (s3.trans s4);have SB5:zZ p (upd H p (.lst [.int x,.int y])) H5:=iI.trans (.of ee);refine⟨_,rfl,p,_,rfl,cT,ξ,ξ,fun z H6 _ _ gs io=>⟨rfl,_,rfl,dE (fun _=>?_) (fun _=>?_)⟩⟩
  ·have rY:=SB5.trans gs
   have hs6:SqL K H6 a (ns.map V.int):=SqL.far hs hp rY;refine⟨_,rfl,a,ns,1,rfl,hs6,fun n2=>⟨n2,rfl,fun p2 x2 y2 eJ lM=>?_⟩⟩;have jN:zR (upd H6 p2 (.lst [.int x2,.int y2])) p2:=⟨x2,y2,zc,lM⟩;refine⟨p2,4,rfl,ξ,jN,fun L2 H8 c2 m2 uw eU b=>?_⟩;obtain⟨kx,mR,lg,oX,vn,ki,qu,fY,uB,y6⟩:=b;have qD:=Pw eJ lg;obtain⟨j1,⟨kN,kn,km,j2⟩,j3⟩:=Kn k4 fY ω ω ξ;have mZ:wid mR<=20:=by
    cases e:mR with
    |nil=>exact Az _
    |cons r l=>
     rw[e] at fY;show r.length<=20;rw[(fY r (Aq ..)).1];(first|lia|omega)
   refine⟨L2,kx,mR,kN,kn,km,rfl,vn,ki,j1,j2,?_⟩;intro H9 r2 u2 y3 v2 y9 G e1 e2 e3 e4 e5 f1 f2 f3 f4 s9 q8 rN;have O:=rN.bd ω mZ;refine⟨r2,_,_,_,e5,G,rfl,q8.sh,fun i hi=>by have:=(O.1 i hi).1;(first|lia|omega),by have:=O.2.1;(first|lia|omega),fun oB S6 A6 D6 b6 yo lw xu=>?_⟩;have oF:=qD.trans (s9.trans yo);have pN:zZ p H5 oB:=gs.trans (.of oF);have kB:=io.same (qD.trans s9);exact kt p L S6 ds tb A6 D6 _ b6 G oB (io.same oF) (pN _ _ jA (ee _ _ hF)) ((cU.same ee).sameB pN dp) i1 i3 jA dp xu (fun i hi z hz=>zU kB (lw.na i hi z hz)) (zU kB lw.n5) (zU kB lw.nS) O
  ·exact kt p L S5 ds tb A5 D5 _ b5 st H6 io (gs _ _ jA (ee _ _ hF)) ((cU.same ee).sameB gs dp) i1 i3 jA dp (ib.draw gs cm jS) (fun i hi z hz=>zU cm (jS.na i hi z hz)) (zU cm jS.n5) (zU cm jS.nS) bd
end
end K23
end
section
namespace L2
open PySem PySem.Spec PyProof.Rows
section
variable{P:Program}{w:World}{K:Ag}{mg:Str->Option Value}{base:Heap}{CX:fX}{k:Nat}{f:Addr}{fd:FuncData}{x:Str}{st:Stmt}{ps:List Str}{sp sq:Sp}
structure Df(K:Ag)(x:Str)(st:Stmt)(f:Addr):Prop where
 ex:∃fd,Fun K x x st f fd
 a:PySem.W.nsIn K mainGlobals x=some (some (.ref f))
def GR{i:Value}{j g:Option Addr}{h:Array (Option Value)}{kV d e b ct:Value}(a:PySem.W.nsIn K mainGlobals x=some (some (.ref f)))(l:K.lookup f=some ⟨i,j,.func (PySem.W.fnOf x x (zb2 st) (zag st) (zg st) .none kV d e g b ct),h⟩)(c:PySem.W.codeIn K b x=true)(k:PySem.W.keepIn K (.ref f)=true):Df K x st f:=⟨⟨_,LP l c k⟩,a⟩
structure Nn(K:Ag)(x:Str)(v:Option Value):Prop where
 e:PySem.W.nsIn K mainGlobals x=some v
abbrev BA(x:Str)(st:Stmt)(us:List Value)(r:List (Str×Value)):Prop:=∀(kV bE pm:Value)(an:Option Addr)(ak ct:Value),bindArgs (PySem.W.fnOf x x (zb2 st) (zag st) (zg st) .none kV bE pm an ak ct) ⟨us,[]⟩=pure r
variable{h:Heap}(X:K.In h)(G:h.Ns mainGlobals mg)
include X G
theorem Nn.m{v:Value}(n:Nn K x (some v)):mg x=some v:=PySem.W.mg_of X G n.e
theorem Nn.n(n:Nn K x none):mg x=none:=PySem.W.mg_none_of X G n.e
theorem Df.m(D:Df K x st f):mg x=some (.ref f):=PySem.W.mg_of X G D.a
theorem Df.g1(D:Df K x st f)(p:Str)(hb:∀a,BA x st [a] [(p,a)]:=by exact fun _ _ _ _ _ _ _=>rfl):∃fd,Fun K x x st f fd/\Binds K fd [p] []/\mg x=some (.ref f):=by
 obtain⟨⟨fd,F⟩,a⟩:=D;refine⟨fd,F,F.binds fun _ _ _ _ _ _ us b=>?_,PySem.W.mg_of X G a⟩
 match us,b with
 |[a],_=>exact hb a _ _ _ _ _ _
theorem Df.g2(D:Df K x st f)(p q:Str)(hb:∀a b,BA x st [a,b] [(p,a),(q,b)]:=by exact fun _ _ _ _ _ _ _ _=>rfl):∃fd,Fun K x x st f fd/\Binds K fd [p,q] []/\mg x=some (.ref f):=by
 obtain⟨⟨fd,F⟩,a⟩:=D;refine⟨fd,F,F.binds fun _ _ _ _ _ _ us c=>?_,PySem.W.mg_of X G a⟩
 match us,c with
 |[a,b],_=>exact hb a b _ _ _ _ _ _
theorem Df.g3(D:Df K x st f)(p q r:Str)(hb:∀a b c,BA x st [a,b,c] [(p,a),(q,b),(r,c)]:=by exact fun _ _ _ _ _ _ _ _ _=>rfl):∃fd,Fun K x x st f fd/\Binds K fd [p,q,r] []/\mg x=some (.ref f):=by
 obtain⟨⟨fd,F⟩,a⟩:=D;refine⟨fd,F,F.binds fun _ _ _ _ _ _ us d=>?_,PySem.W.mg_of X G a⟩
 match us,d with
 |[a,b,c],_=>exact hb a b c _ _ _ _ _ _
theorem Df.g4(D:Df K x st f)(p q r s:Str)(hb:∀a b c d,BA x st [a,b,c,d] [(p,a),(q,b),(r,c),(s,d)]:=by exact fun _ _ _ _ _ _ _ _ _ _=>rfl):∃fd,Fun K x x st f fd/\Binds K fd [p,q,r,s] []/\mg x=some (.ref f):=by
 obtain⟨⟨fd,F⟩,a⟩:=D;refine⟨fd,F,F.binds fun _ _ _ _ _ _ us e=>?_,PySem.W.mg_of X G a⟩
 match us,e with
 |[a,b,c,d],_=>exact hb a b c d _ _ _ _ _ _
omit X G
end
end L2
end
section
namespace K23
open PySem L2
def Py{l:PySem.W.OpenLaw}{w:World}{K:Ag}{h:Heap}{mg:Str->Option Value}{fa f1 f2 f3 f4 f5 f6 f7 f8 f9 rZ xk ym xC vo xJ xi uH vY sM uP uh vd yg ud ve wI rB tN vk sK yn xV u9 q_ xS q9 vt vL wn rf sx uF xp vD ur tR :Addr}{tr tc:Tok}(X:K.In h)(G:h.Ns mainGlobals mg)(yk:mg "law"=some (.ref fa))(d1:Df K "is_table" uC f1)(d2:Df K "width_of" kc f2)(d3:Df K "must_be_table" uG f3)(d4:Df K "rows_by" pc f4)(d5:Df K "row_by" uR f5)(d6:Df K "sum_by" CY f6)(d7:Df K "columns_of" mx f7)(d8:Df K "columns_to" pe f8)(d9:Df K "column_of" ic f9)(gp:Df K "stepped" DB rZ)(xQ:Df K "is_stepped" DC xk)(vJ:Df K "is_back" DE ym)(tZ:Df K "is_of_size" ww xC)(wH:Df K "are_steps" wM vo)(uI:Df K "on_slope" qg xJ)(xH:Df K "slope_row" wj xi)(tS:Df K "paper_of" Dv uH)(uV:Df K "is_in_steps" Dl vY)(t9:Df K "unit" ws sM)(ux:Df K "is_on_slope" xZ uP)(x_:Df K "slope_of" x3 uh)(uN:Df K "straightened" ez vd)(tI:Df K "echelon_of" jD yg)(xt:Df K "take_in" De ud)(u8:Df K "reduced" jq ve)(uk:Df K "less" kh wI)(wX:Df K "first_place" C5 rB)(vT:Df K "divisor_pair" vp tN)(yf:Df K "mix_of_two" u6 vk)(uW:Df K "mix_of" jG sK)(uK:Df K "shares_of" jw yn)(tJ:Df K "slid" Di xV)(tQ:Df K "_law_cell_at" DH u9)(wm:Df K "_law_box" jQ q_)(yh:Df K "_law_take" nu xS)(sA:Df K "_law_row" iH q9)(xr:Df K "_law_table" jU vt)(xm:Df K "_law_wide" yK vL)(ut:Df K "_law_product" qJ wn)(xh:Df K "_law_even" yX rf)(vU:Df K "_law_square" y' sx)(sj:Df K "_law_backs" DJ uF)(we:Df K "_law_paper_right" zT xp)(rD:Df K "_law_turned" zY vD)(wY:Df K "_law_copy" DM ur)(oa:Df K "law" iM tR)(gr:Nn K "MOST_ROWS" (some (.int 40 tr)))(gc:Nn K "MOST_COLUMNS" (some (.int 40 tc)))(z1:Nn K "len" none)(z2:Nn K "all" none)(z3:Nn K "zip" none)(z4:Nn K "sum" none)(z5:Nn K "range" none)(z6:Nn K "list" none)(z7:Nn K "int" none)(z8:Nn K "bool" none)(z9:Nn K "isinstance" none)(vW:Nn K "max" none)(xf:Nn K "sorted" none)(sY:Nn K "tuple" none)(wQ:Nn K "enumerate" none)(wz:Nn K "min" none):∃fd:FuncData,(∀(s:Shared)(v:Value),BindsTo s fd ⟨[v],[]⟩ [("script",v)])/\∀base:Heap,K.In base->base.Ns mainGlobals mg->ai l.prog w K mg base aw 8 fa fd ["script"] (DO K):=by
 cases yk.symm.trans (oa.m X G);have B:iG mg:=⟨z1.n X G,z2.n X G,z3.n X G,z4.n X G,z5.n X G,z6.n X G,z7.n X G,z8.n X G,z9.n X G,vW.n X G⟩;obtain⟨g1,F1,b1,m1⟩:=d1.g1 X G "table";obtain⟨g2,a,b,m2⟩:=d2.g1 X G "table";obtain⟨g3,J,O,Q⟩:=d3.g1 X G "table";obtain⟨g4,L,S,T⟩:=d4.g2 X G "table" "columns";obtain⟨g5,F5,b5,m5⟩:=d5.g2 X G "row" "columns";obtain⟨g6,F6,b6,m6⟩:=d6.g2 X G "row" "column";obtain⟨g7,d,e,f⟩:=d7.g1 X G "table";obtain⟨g8,M,U,Y⟩:=d8.g2 X G "table" "width";obtain⟨g9,F9,b9,m9⟩:=d9.g2 X G "table" "k";obtain⟨Cw,Z,wJ,wE⟩:=gp.g1 X G "table";obtain⟨BI,oy,ui,tj⟩:=xQ.g2 X G "table" "paper";obtain⟨Cl,qH,w_,vP⟩:=vJ.g3 X G "turn" "back" "size";obtain⟨yD,p9,vm,wl⟩:=tZ.g2 X G "table" "size";obtain⟨BJ,x,pk,pR⟩:=wH.g2 X G "steps" "most";obtain⟨yH,y,n_,pA⟩:=uI.g3 X G "numbers" "size" "width";obtain⟨Cc,z,oN,oW⟩:=xH.g3 X G "numbers" "k" "width";obtain⟨B9,qG,xG,xo⟩:=tS.g2 X G "table" "width";obtain⟨yY,p3,vN,uc⟩:=uV.g1 X G "table";obtain⟨Cm,A,p_,oE⟩:=t9.g1 X G "size";obtain⟨Cf,C,qX,oQ⟩:=ux.g1 X G "table";obtain⟨yO,D,pT,pC⟩:=x_.g1 X G "table";obtain⟨Bz,oA,wt,wf⟩:=uN.g2 X G "side" "width";obtain⟨BY,qF,yr,yv⟩:=tI.g1 X G "rows";obtain⟨Cv,og,uz,rK⟩:=xt.g2 X G "found" "row";obtain⟨BK,pB,tD,uQ⟩:=u8.g3 X G "row" "found" "places";obtain⟨Ci,c,g,i⟩:=uk.g3 X G "row" "often" "other";obtain⟨BP,pD,yw,x9⟩:=wX.g1 X G "row";obtain⟨Cj,qR,t7,xI⟩:=vT.g2 X G "one" "other";obtain⟨BG,pb,ug,wp⟩:=yf.g4 X G "often" "row" "other_often" "other";obtain⟨y4,qi,vi,tG⟩:=uW.g2 X G "numbers" "rows";obtain⟨Cu,pF,tW,sL⟩:=uK.g2 X G "row" "found";obtain⟨A_,qy,xN,sN⟩:=tJ.g2 X G "side" "count";obtain⟨Cp,xD,wZ,xj⟩:=tQ.g2 X G "script" "k";obtain⟨BH,vw,wW,uE⟩:=wm.g1 X G "cell";obtain⟨yF,j,o,p⟩:=yh.g2 X G "box" "most";obtain⟨BT,pj,rC,wK⟩:=sA.g3 X G "box" "columns" "wide";obtain⟨yV,qE,rH,uA⟩:=xr.g2 X G "box" "most";obtain⟨yI,E,qj,pK⟩:=xm.g1 X G "table";obtain⟨z_,F,p0,pV⟩:=ut.g2 X G "one" "other";obtain⟨BW,pZ,tP,H⟩:=xh.g1 X G "size";obtain⟨B7,pG,rM,vV⟩:=vU.g2 X G "table" "size";obtain⟨BV,o8,uf,sU⟩:=sj.g3 X G "one" "other" "size";obtain⟨y_,oC,rF,rJ⟩:=we.g2 X G "table" "sheet";obtain⟨BL,qB,yB,xT⟩:=rD.g2 X G "box" "sheet";obtain⟨yG,oU,tE,xa⟩:=wY.g1 X G "sheet";obtain⟨⟨gL,FL⟩,_⟩:=oa;refine⟨gL,?_,fun base _ _=>?_⟩
 ·obtain⟨_,_,_,_,_,_,_,_,_,rfl,_,_⟩:=FL.ex;exact fun s v=>.of_eq rfl
 have I:=xf.n X G;have q:=sY.n X G;have oV:=wQ.n X G;have im:=wz.n X G;have nr:=gr.m X G;have nc:=gc.m X G;have N:=EJ (P:=l.prog) (w:=w) (mg:=mg) (base:=base) a B.len;have Gi:=Mx (P:=l.prog) (w:=w) (mg:=mg) (base:=base) F1 B.len B.all nr nc a b m2;have Gm:=OH J F1 b1 m1 Gi;have pU:=MD (P:=l.prog) (w:=w) (mg:=mg) (base:=base) M B.range F9 b9 m9;have u:=MF d B.len M U Y pU a b m2;have ue:=NJ (P:=l.prog) (w:=w) (mg:=mg) (base:=base) F6 B.zip B.sum;have yi:=NL F5 F6 b6 m6 ue;have qf:=NN L F5 b5 m5 yi;have r:=MK (P:=l.prog) (w:=w) (mg:=mg) (base:=base) c B.zip;have yc:=MM (P:=l.prog) (w:=w) (mg:=mg) (base:=base) pb B.zip;have uu:=MO (P:=l.prog) (w:=w) (mg:=mg) (base:=base) pD;have sF:=MQ (P:=l.prog) (w:=w) (mg:=mg) (base:=base) qR B.zip q;have wc:=MX pB c g i r;have sf:=MY pF I c g i r;have wO:=Nw og I B.range B.len pB tD uQ wc pD yw x9 uu qR t7 xI sF pb ug wp yc;have u7:=Nx qF og uz rK wO;have ul:=NA qi B.zip a b m2 N c g i r;have oO:=NC (P:=l.prog) (w:=w) (mg:=mg) (base:=base) z B.len;have oD:=NE y B.range z oN oW oO;have Gu:=NH A y n_ pA oD;have wG:=NQ (P:=l.prog) (w:=w) (mg:=mg) (base:=base) p9 B.len B.all;have oJ:=NV (P:=l.prog) (w:=w) (mg:=mg) (base:=base) x B.len B.all B.zip;have sJ:=NY oA B.zip I qF yr yv u7 d e f u qi vi tG ul pF tW sL sf;have uD:=N3 qy B.range B.list c g i r;have qb:=N6 C B.all oV B.len z oN oW oO;have oS:=N8 (P:=l.prog) (w:=w) (mg:=mg) (base:=base) D oV B.len;have x5:=Oa p3 B.len C qX oQ qb D pT pC oS x pk pR oJ;have wA:=Ox qG B.len oA wt wf sJ A p_ oE Gu M U Y pU d e f u p3 vN uc x5 C qX oQ qb D pT pC oS qy xN sN uD;have uM:=OJ Z J O Q Gm qG xG xo wA a b m2 N;have sO:=OL qH p9 vm wl wG L S T qf d e f u A p_ oE Gu;have tV:=ON oy B.len im J O Q Gm qH w_ vP sO a b m2 N x pk pR oJ L S T qf d e f u y n_ pA oD;have BN:=J_ (P:=l.prog) (w:=w) (mg:=mg) (base:=base) pj B j o p;have jE:=OU (P:=l.prog) (w:=w) (mg:=mg) (base:=base) qE B j o p pj rC wK;have vM:=Kc (P:=l.prog) (w:=w) (mg:=mg) (base:=base) E B;have qV:=O1 (P:=l.prog) (w:=w) (mg:=mg) (base:=base) F B E qj pK;have xq:=O5 (P:=l.prog) (w:=w) (mg:=mg) (base:=base) pZ B;have yu:=O7 (P:=l.prog) (w:=w) (mg:=mg) (base:=base) pG B.len B.all;have tM:=O9 o8 pG rM vV yu F p0 pV qV pZ tP H xq;have u_:=Pb oC B im o8 uf sU tM E qj pK vM F p0 pV qV;have iP:=Pn (P:=l.prog) (w:=w) (mg:=mg) (base:=base) oU B q;have kL:=Pt (P:=l.prog) (w:=w) (mg:=mg) (base:=base) qB B q j o p;exact Px FL B q xD wZ xj vw wW uE j o p qE rH uA jE Z wJ wE uM oy ui tj tV oC rF rJ u_ oU tE xa iP qB yB xT kL
def walk{l:PySem.W.OpenLaw}{q:Program}{g:List Str}{p:(Str->Option Value)->Heap->Prop}{b:World->Heap->Prop}{d:DefRec}{K:Params->Ag}(i:l.most=some 63)(j:d.params.defaults=[])(o:∀(w:World)(h:Heap),b w h->(K w.params).In h)(F:∀(w:World)(mg:Str->Option Value)(fa:Addr)(h:Heap),(K w.params).In h->h.Ns mainGlobals mg->mg d.name=some (.ref fa)->
   ∃fd:FuncData,(∀(s:Shared)(u:Value),BindsTo s fd ⟨[u],[]⟩ [("script",u)])/\∀base:Heap,(K w.params).In base->base.Ns mainGlobals mg->ai l.prog w (K w.params) mg base aw 8 fa fd ["script"] (DO (K w.params))):
  PySem.W.WalkO q g p b l.row.toRowW d [] (fun f vs=>PySem.call f vs):=
 L2.Hx (n:=63) (k:=8) (x:="script") (CX:=fun _=>aw) (sp:=fun w=>DO (K w.params)) i ξ j ⟨rfl,ξ,ξ⟩ o F (fun _ _ a ns c _ e=>⟨a,ns,rfl,e,c,fun _=>rfl⟩) fun _ _ _ _ _ z=>z
end K23
open PySem PySem.W PyProof.Rows
structure PySem.W.Fast:Prop where
 (tw1003332013798315618 tw10045601045734952681 tw1005354619560378896 tw10111002176294698047 tw10113718981497956364 tw10241133923307607919 tw10267468993322557184 tw10283066175075968459 tw10336804411859799064 tw10341256337779588048 tw10445995721505995004 tw10462691544898267705 tw10710137683013228303 tw1076145150825933944 tw10851282830198980687 tw10881692991602016187 tw10919680617780468692 tw10958327178565260733 tw11039206294666530848 tw11099071960621593122 tw11250477000563495385 tw11314258915547770276 tw11383658111314076097 tw11433415334225918689 tw11569646985108539826 tw11627014760333468364 tw11676825893675498045 tw11799032830219427797 tw11836546244660456522 tw11859535633309832615 tw1193143852620211172 tw11962016457981249545 tw12060809489599056808 tw12111157054449213143 tw12114808895500063125 tw12219922538862291614 tw1225325967436840516 tw12280043688743729512 tw12410001769750165956 tw12417318302530225940 tw12450733118705939045 tw12516927344144333074 tw1255756219780692319 tw12615881864310554497 tw12679404751192443332 tw12872527393486360326 tw12901255270439697499 tw12932105087448156099 tw12938133991912503079 tw12939155366869075729 tw13122351149740730122 tw13131927578307493537 tw13174247454773691633 tw13219015742140553614 tw13300524339234005126 tw13307089614011069550 tw13353801468096110159 tw13692215375347993312 tw13724674629816077748 tw13742025562716183945 tw13802532034147545768 tw13824440054271782852 tw13845147205596782928 tw13867795335134160920 tw13959693505102105039 tw13983421954010249968 tw14056804922274652408 tw14114237050569071305 tw14235104571639331386 tw14367129476249810513 tw1436949618961281515 tw14424132875482177673 tw14447796670408287461 tw14448864969848043119 tw14515846346996159584 tw14520465686078708192 tw14612258731275776456 tw14620233585772339664 tw14623590883127896387 tw14692650411156695262 tw14722295421988830217 tw14733437245496461681 tw14780275120346209177 tw14814414311818498204 tw14963944086914256311 tw15048997053236135040 tw15155039151072115499 tw1523876851883493672 tw15316667779162604394 tw15353064834614624102 tw1542779141518954449 tw15454329998299928404 tw15513810158940542993 tw15908269373264367515 tw15932173837785933140 tw16125352797812399817 tw16136678344473921526 tw161608115149782367 tw16163334673768475286 tw16207338830464990154 tw16248379556023630371 tw16274992072781459713 tw16285881618580221941 tw16335575624684386820 tw16352961018551770847 tw16566550712555866517 tw16591503074391134486 tw16644542747253223250 tw16646559279259289380 tw16660458326595245590 tw16674360521416561776 tw16708838202762178060 tw16716771407426107343 tw1684501470217281513 tw1692707751570452823 tw17230389002657027529 tw17308714568288526852 tw1735738878982399569 tw17368604333988546666 tw17396173354245829730 tw17396569873067631934 tw17444923113204796377 tw17519552517831026209 tw17533277394668160185 tw17557073738081371672 tw17706241571722389067 tw17722810371213569581 tw17738557399983313361 tw17753012905591942400 tw17918968934733445832 tw17977274776814841045 tw17987500981202497359 tw18030298706370873583 tw18061507695402962913 tw18105578444333700095 tw18127294893979252099 tw18243766388578200472 tw18296436709565946582 tw18351217824278635139 tw18377466527539821818 tw18386353338495824587 tw18402912960827822953 tw18427758508007172008 tw1949773334464233898 tw1985933273267813984 tw1989289566156322350 tw2019692054909808062 tw2043718029463366759 tw2100603628393560732 tw2307919547133135131 tw2365834546589598558 tw2399659128188861742 tw2401360673522347880 tw2495833873244308435 tw2495888379009803808 tw2539161701655715794 tw2678769654209276830 tw2720246975454547480 tw2729119959462217790 tw2741595316909240534 tw2767817357576152043 tw2795070825903944555 tw2888668154622706883 tw2936770502265448852 tw2940827909345638187 tw2970975505827634538 tw2981460284030112089 tw3149909763044739736 tw3197599047971839758 tw3203916937595075215 tw3240691623404435534 tw3360407584529359803 tw3401105410538190613 tw346231020100974706 tw34850602954043323 tw3516751427832329972 tw3544883561081912931 tw3567941013695231428 tw3578416788252227081 tw3626226972734424905 tw3629929587444049985 tw3645196091197100944 tw3674428792099059660 tw3813282447209696828 tw3837070844946076051 tw3890236524708619818 tw3900620337313014613 tw3902102531758943033 tw4039135557828513472 tw4180341070801093310 tw4180432849757662261 tw4248537013539206844 tw4248595129835059056 tw4333604399954820703 tw4386819882367528544 tw4410778938976716572 tw4494341180621263770 tw4499590327692909546 tw4549284020517260214 tw4590888744377093519 tw467157264426988068 tw4672846347930747637 tw4751708382307455761 tw4759677812570570760 tw4832864310095146457 tw4910182290543539762 tw4929921831330434865 tw498592209275587619 tw5042441459578531348 tw5156158190878549133 tw5266836137129245800 tw5295463537046271143 tw535367629289442772 tw546337032654323734 tw5493082858234089530 tw5506576837733765163 tw5559158272156194006 tw5578671501002402893 tw5668004524455968328 tw5677868648048309819 tw5718670476740357776 tw5846539823126047743 tw5853347334707473720 tw58622697648642959 tw5873035284025421980 tw5942511648992811991 tw5951774068513191499 tw6199887747778071091 tw626643798984355023 tw6366592774729666037 tw6571427504970907895 tw6585276512262801335 tw6613549943005831570 tw6621989981872326930 tw6658968040160561304 tw6700062691482266355 tw6843165356250074886 tw6897305809513806541 tw7154880303888303257 tw722889097467083242 tw7245507203352401847 tw728230223020721652 tw7306641815846965813 tw7348465406041580896 tw7376859643057221674 tw749437701749960271 tw7598661065569395930 tw7611331723076489356 tw7807043231939104525 tw784343173162151954 tw7896642630375558159 tw7903888267666853664 tw8085650911378983374 tw8234311577828198089 tw8275869534384393001 tw8282125391260367322 tw8320539587848691913 tw8498346853338903287 tw8515293789463622797 tw8582019950347802011 tw8619889011613520590 tw8696488445471167311 tw8742810548257438627 tw8769807540426510721 tw8775263129288232202 tw8778498068248834503 tw8786928163297575657 tw8802345909937734975 tw8911125281184631311 tw9056209909152130362 tw9104065735264215268 tw9226605263836244180 tw9230215404166778709 tw9250562853124995557 tw9292550542795136776 tw9407986414246782316 tw9512348242267102706 tw9512973293138297320 tw9617721951662669879 tw9836799811820427170 tw9844714657522162389 tw9855205118010342952 tw9988137118656329711:True)
set_option maxRecDepth 100000 in
set_option maxHeartbeats 0 in
theorem PySem.Challenge.cw_seamwright_k23_papers_judged_holds : PySem.Challenge.rw_seamwright_k23_papers_judged.Holds := by
 w_on; o_law; k_head; (case hw=>w_witness2)
 k_fill
 refine K23.walk (l:=PySem.Challenge.rw_seamwright_k23_papers_judged) rfl rfl (fun w h Y=>PySem.W.kIn_of Y) ?F
 case F=>
  intro w mg fa h KX G gI;refine' K23.Py KX G gI ?_ ?_ ?_ ?_ ?_ ?_ ?_ ?_ ?_ ?_ ?_ ?_ ?_ ?_ ?_ ?_ ?_ ?_ ?_ ?_ ?_ ?_ ?_ ?_ ?_ ?_ ?_ ?_ ?_ ?_ ?_ ?_ ?_ ?_ ?_ ?_ ?_ ?_ ?_ ?_ ?_ ?_ ?_ ?_ ?_ ?_ ?_ ?_ ?_ ?_ ?_ ?_ ?_ ?_ ?_ ?_ ?_ ?_ ?_ ?_ ?_ ?_
  all_goals try first | refine' L2.GR ?_ ?_ ?_ ?_ | refine' L2.Nn.mk ?_
  all_goals try first | k_is | kit_is | k_exc
#print axioms PySem.Challenge.cw_seamwright_k23_papers_judged_holds
end
