import PyProof.Rows.All
import Wide.All
import OpenK.AllK
import Wide.FinOn
import Lean
import PyProof.EqAt
import PyProof.EqKinds
import PyProof.TupleCall
import PyProof.StationsW
import PyProof.ExcClass3
import OpenK.KOwn
import PyProof.ExcArgsOwn
import KE.KListMore
import KE.KIntText
import KE.KEqDat
import PyProof.MinMaxWalk
import PyProof.SumAny
import PyProof.Rows.SortRuns
import KE.KSortKey
import PyProof.Rows.CallKwBuiltin
import PySem.SetTable
import PyProof.Rows.SetFrom
import PyProof.TupleKey
import PyProof.IsRules
import KE.KRevIter
import PyProof.ListRange
import PyProof.TupleOfGen
import PyProof.CollectIter
import PySem.Challenge.RW_seamwright_k24_whole_solved_or_shown
import PyProof.FactsAll.set_2
import PyProof.FactsAll.subtypes_5
import KE.KDictList
import KE.KDictSum
import KE.KDictLaws
import PyProof.Rows.Range3
import KE.KStateDown
open List renaming length_map->Aa,getElem?_eq_getElem->Ab,getD_eq_getElem?_getD->Ac,range->Ah,getElem?_map->Aj,mem_of_getElem?->An,getElem_mem->Ap,replicate->Aq,length_zipWith->Au,zipWith->Av,size_toArray->Aw,take_of_length_le->Ax,mem_append_right->Ay,map_append->AD,eq_nil_of_length_eq_zero->AG,length_cons->AH,mem_cons_of_mem->AJ,getElem?_range->AK,mem_cons_self->AM,getElem_map->AO,getElem_zipWith->AR,map_map->AS,ext_getElem->AT,map_congr_left->AW,getElem_of_mem->AX,length_range->AY,length_append->AZ,getElem_range->A4,map_cons->A5,mem_append_left->A6,pairwise_cons->Ba,all_eq_true->Be,lookup_cons->Bj
open Nat renaming le_refl->Ad,le_trans->Ae,mul_le_mul_right->Ak,mul_le_mul_left->Al,lt_of_le_of_lt->Ao,zero_le->At,lt_of_lt_of_le->Az,ne_of_lt->AA,pow_le_pow_right->AC,one_le_two_pow->AI,mul_assoc->AN,mul_le_mul->AQ,le_add_right->A0,lt_or_ge->Bi
open PySem renaming wpAny_bind->Af,wpAny_pure->Am,bootBuiltins->A7
open PySem.W renaming Frag->Ag
open PySem.Heap renaming get?_push_of_some->Ai,lt_size->Ar,get?_push_size->AL
open Int renaming natAbs_mul->AB,mul_assoc->AU,mul_zero->A8,mul_comm->A9,mul_add->Bg
open Classical renaming byContradiction->AE
open Bool renaming false_ne_true->AF
open Option.some renaming inj->AV
open PySem.PassesOwn renaming never->Bb
open PySem.PyData renaming depth->Bh
open PySem.NameKind renaming free->Bk
set_option linter.all false
set_option Elab.async false
set_option maxRecDepth 100000
set_option maxHeartbeats 4000000
def δ{p:Prop}(h:p:=by decide +kernel):p:=h
def ω{p:Prop}(h:p:=by (first|lia|omega)):p:=h
def ξ{p:Prop}(h:p:=by decide):p:=h
abbrev Ω:=PySem.Value->PySem.Shared->Prop
abbrev Ξ:=List (List Int)
abbrev Ψ:=List (PySem.Addr×PySem.Obj)
local macro_rules|`($s⁻¹)=>`(($s).heap.objs.size)
section
namespace L2
open PySem PySem.Spec PyProof.Rows
abbrev Key:=Sum Int Str
def nF:Key->Value->Bool
 |.inl k,v=>Value.isInt k v
 |.inr x,v=>Value.isStrOf x v
def Dy(w:World):Key->Int
 |.inl k=>hashInt k
 |.inr x=>hashStr w x
def aL:∀{k:Key}{v:Value},nF k v=true->(∃i t,k=Sum.inl i/\v=Value.int i t)\/(∃x t,k=Sum.inr x/\v=Value.str x t)
 |.inl i,v,h=>by
  obtain⟨t,e⟩:=Value.isInt_shape (k:=i) (v:=v) h;exact .inl ⟨i,t,rfl,e⟩
 |.inr x,v,h=>by
  obtain⟨t,e⟩:=Value.isStrOf_shape (x:=x) (v:=v) h;exact .inr ⟨x,t,rfl,e⟩
def JV(i:Int)(t:Tok):nF (.inl i) (.int i t)=true:=by simp[nF,Value.isInt]
def JW(x:Str)(t:Tok):nF (.inr x) (.str x t)=true:=by simp[nF,Value.isStrOf]
def JX(a b:Int):decide ((Sum.inl a:Key)=Sum.inl b)=(a==b):=by
 by_cases e:a=b
 ·subst e;simp
 ·have h:¬(Sum.inl a:Key)=Sum.inl b:=fun q=>e (Sum.inl.inj q)
  rw[decide_eq_false h];exact(beq_eq_false_iff_ne.mpr e).symm
def JY(a b:Str):decide ((Sum.inr a:Key)=Sum.inr b)=decide (a=b):=by
 by_cases e:a=b
 ·subst e;simp
 ·have h:¬(Sum.inr a:Key)=Sum.inr b:=fun q=>e (Sum.inr.inj q)
  rw[decide_eq_false h,decide_eq_false e]
def JZ(a:Int)(b:Str):decide ((Sum.inl a:Key)=Sum.inr b)=false:=decide_eq_false (fun q=>nomatch q)
def J0(a:Str)(b:Int):decide ((Sum.inr a:Key)=Sum.inl b)=false:=decide_eq_false (fun q=>nomatch q)
def eP(prog:Program)(w:World):PySem.KeyKind prog w Key where
 is:=nF
 hash:=Dy w
 inj:=fun v a b c hb=>by
  rcases aL c with ⟨i,t,rfl,rfl⟩|⟨x,t,rfl,rfl⟩
  ·rcases aL hb with ⟨j,u,rfl,e⟩|⟨y,u,rfl,e⟩
   ·injection e with e1 _;rw[e1]
   ·exact nomatch e
  ·rcases aL hb with ⟨j,u,rfl,e⟩|⟨y,u,rfl,e⟩
   ·exact nomatch e
   ·injection e with e1 _;rw[e1]
 byValue:=fun k v h=>by
  rcases aL h with ⟨i,t,rfl,rfl⟩|⟨x,t,rfl,rfl⟩<;>rfl
 pyHash:=fun hv h=>by
  rcases aL hv with ⟨i,t,rfl,rfl⟩|⟨x,t,rfl,rfl⟩
  ·exact wpAny_pyHash_int h
  ·exact wpAny_pyHash_str h
 eqBool:=fun d hv h=>by
  rcases aL d with ⟨i,t,rfl,rfl⟩|⟨x,t,rfl,rfl⟩
  ·rcases aL hv with ⟨j,u,rfl,rfl⟩|⟨y,u,rfl,rfl⟩
   ·rw[JX] at h;exact wpAny_eqBool_int h
   ·rw[JZ] at h;exact SeqAt.EqAt.int_str i t y u _ _ _ _ h
  ·rcases aL hv with ⟨j,u,rfl,rfl⟩|⟨y,u,rfl,rfl⟩
   ·rw[J0] at h;exact SeqAt.EqAt.str_int x t j u _ _ _ _ h
   ·rw[JY] at h;exact wpAny_eqBool_str h
 «strs»:=fun k x t v h=>by
  rcases aL h with ⟨i,u,rfl,e⟩|⟨y,u,rfl,e⟩
  ·exact nomatch e
  ·injection e with e1 _
   subst e1;cases v<;>rfl
def J1(prog:Program)(w:World)(i:Int)(t:Tok):(eP prog w).is (.inl i) (.int i t)=true:=JV i t
def J3(prog:Program)(w:World)(x:Str)(t:Tok):(eP prog w).is (.inr x) (.str x t)=true:=JW x t
inductive V where
 |non|bl (b:Bool)|int (i:Int)|str (x:Str)|byt (b:Array UInt8)|flt (b:UInt64)|ref (a:Addr)|ty (n:String)
 deriving DecidableEq
def RelV:V->Value->Prop
 |.non,u=>u=Value.none
 |.bl b,u=>u=Value.bool b
 |.int i,u=>∃t,u=Value.int i t
 |.str x,u=>∃t,u=Value.str x t
 |.byt b,u=>∃t,u=Value.bytes b t
 |.flt b,u=>∃t,u=Value.float b t
 |.ref a,u=>u=Value.ref a
 |.ty n,u=>u=Value.type n
abbrev Vals:List V->List Value->Prop:=Paired RelV
def Vals.length{xs:List V}{us:List Value}(r:Vals xs us):xs.length=us.length:=Paired.length r
def Vals.get:∀{xs:List V}{us:List Value}{i:Nat}{x:V},Vals xs us->xs[i]?=some x->∃u,us[i]?=some u/\RelV x u
 |_,_,_,_,.nil,e=>by simp at e
 |_,_,0,_,.cons r _,e=>by simp at e;subst e;exact⟨_,rfl,r⟩
 |_,_,i+1,x,.cons _ t,e=>by
  obtain⟨u,h1,h2⟩:=Vals.get (i:=i) (x:=x) t (by simpa using e);exact⟨u,by simpa using h1,h2⟩
def Vals.set{x:V}{u:Value}(r:RelV x u):∀{xs:List V}{us:List Value}(i:Nat),Vals xs us->Vals (xs.set i x) (us.set i u)
 |_,_,_,.nil=>.nil
 |_,_,0,.cons _ t=>.cons r t
 |_,_,i+1,.cons q t=>.cons q (Vals.set r i t)
def Vals.append{xs ys:List V}{us ws:List Value}(h:Vals xs us)(g:Vals ys ws):Vals (xs++ys) (us++ws):=by
 induction h with
 |nil=>exact g
 |cons r _ ih=>exact .cons r ih
def Vals.take:∀{xs:List V}{us:List Value}(n:Nat),Vals xs us->Vals (xs.take n) (us.take n)
 |_,_,0,_=>.nil
 |_,_,_+1,.nil=>.nil
 |_,_,n+1,.cons r t=>.cons r (Vals.take n t)
def Vals.drop:∀{xs:List V}{us:List Value}(n:Nat),Vals xs us->Vals (xs.drop n) (us.drop n)
 |_,_,0,r=>r
 |_,_,_+1,.nil=>.nil
 |_,_,n+1,.cons _ t=>Vals.drop n t
def RelO:Option V->Option Value->Prop
 |some v,some u=>RelV v u
 |none,none=>True
 |_,_=>False
def KV{κ:Type}:List (κ×V)->List (κ×Value)->Prop:=Paired fun(p:κ×V)(q:κ×Value)=>p.1=q.1/\RelV p.2 q.2
def kV:Key->V
 |.inl i=>.int i
 |.inr x=>.str x
inductive HO where
 |lst (xs:List V)
 |tup (xs:List V)
 |dK (kvs:List (Key×V))|dT (kvs:List (List Key×V))
 |set (S:Int->Bool) (n:Nat)
 |ins (C dx:Addr) (fs:List (Str×V))
 |own (x:Addr)
 |xd (fs:List (Str×V))
 |met (f x:Addr)
 |rng (lo hi:Int)
 |frz (o:Obj) (u:HO)
 |tbl (ps:Array Value)
 |ext (φ:Heap->Prop)
abbrev Hp:=Addr->Option HO
def upd(H:Hp)(a:Addr)(o:HO):Hp:=fun b=>if b=a then some o else H b
def ac{H:Hp}{a:Addr}{o:HO}:upd H a o a=some o:=by unfold upd;rw[if_pos rfl]
def al{H:Hp}{a b:Addr}{o:HO}(h:b≠a):upd H a o b=H b:=by unfold upd;rw[if_neg h]
def Dz{H:Hp}{a b:Addr}{o u:HO}(h:H a=some o)(h':H b=some u)(d:o≠u):a≠b:=by
 intro e;subst e;rw[h] at h';exact d (AV h')
def zl{H:Hp}{a b:Addr}{o:HO}(h:H a=some o)(h':H b=none):a≠b:=by
 intro e;subst e;rw[h] at h';cases h'
section
variable(P:Program)(w:World)
def zah(H:Hp)(h:Heap)(a:Addr):HO->Prop
 |.lst xs=>xs.length<=sizeLine/\∃(ad:List Value)(n:Nat),Vals xs ad/\h.get? a=some {cls:=.type "list",data:=.seq ad.toArray n}
 |.tup xs=>xs.length<=sizeLine/\∃ad:List Value,Vals xs ad/\IsTup h a ad.toArray
 |.dK kvs=>kvs.length<=sizeLine/\(a==sysModules)=false/\∃vs,KV kvs vs/\h.DictOf (eP P w) a vs
 |.dT kvs=>kvs.length<=sizeLine/\(a==sysModules)=false/\∃xs:List (List Key×Addr×Value),
   Paired (fun(p:List Key×V)(q:List Key×Addr×Value)=>p.1=q.1/\H q.2.1=some (.tup (p.1.map kV))/\RelV p.2 q.2.2) kvs xs/\
   ∃o es ep,h.get? a=some o/\o.ExactDict/\o.data=.dict es ep/\es.toList=xs.map (entryOfKey (tupleKind (eP P w)))/\(xs.map (·.1)).Nodup
 |.set S n=>h.SetOf (intKind P w) a S n
 |.ins C dx fs=>H dx=some (.own a)/\fs.length<=1000/\dx≠a/\h.get? a=some (PySem.W.instObj C dx)/\
   ∃mA,h.Ns1 dx mA/\(∀f,RelO (fs.lookup f) (mA f))/\PySem.Within mA (fs.map (·.1))
 |.own _=>∃o,h.get? a=some o
 |.xd fs=>∃mA,h.Ns1 a mA/\∀f,RelO (fs.lookup f) (mA f)
 |.rng lo hi=>∃t u v,h.get? a=some {cls:=.type "range",data:=.fields #[.int lo t,.int hi u,.int 1 v]}
 |.frz o u=>h.get? a=some o/\zah H h a u
 |.tbl ps=>h.get? a=some {cls:=.none,data:=.fields ps}
 |.met f x=>h.get? a=some (PySem.W.methodObj (.ref f) (.ref x))
 |.ext φ=>φ h/\(∃o,h.get? a=some o)/\∀h1 h2:Heap,φ h1->(∀o,h1.get? a=some o->h2.get? a=some o)->φ h2
def HOk(H:Hp)(h:Heap):Prop:=∀a o,H a=some o->zah P w H h a o
end
section
variable{P:Program}{w:World}{H H':Hp}{h h':Heap}{a:Addr}{o:HO}
def zah.lt(x:zah P w H h a o):a<h.objs.size:=by
 cases o with
 |lst xs=>obtain⟨_,_,_,_,e⟩:=x;exact Ar e
 |tup xs=>obtain⟨_,_,_,p⟩:=x;exact p.lt
 |dK kvs=>obtain⟨_,_,_,_,o,_,_,e,_⟩:=x;exact Ar e
 |dT kvs=>obtain⟨_,_,_,_,o,_,_,e,_⟩:=x;exact Ar e
 |set S n=>obtain⟨o,_,_,_,e,_⟩:=x;exact Ar e
 |ins C dx fs=>obtain⟨_,_,_,e,_⟩:=x;exact Ar e
 |own y=>obtain⟨_,e⟩:=x;exact Ar e
 |xd fs=>obtain⟨_,⟨_,_,_,e,_⟩,_⟩:=x;exact Ar e
 |rng lo hi=>obtain⟨_,_,_,e⟩:=x;exact Ar e
 |frz ob u=>obtain⟨e,_⟩:=x;exact Ar e
 |tbl ps=>exact Ar (show h.get? a=some _ from x)
 |met f y=>exact Ar (show h.get? a=some _ from x)
 |ext φ=>obtain⟨_,⟨_,e⟩,_⟩:=x;exact Ar e
def Paired.mapP{c d:Type}{F G:c->d->Prop}{e:List c}{l₂:List d}(h:Paired F e l₂)(f:∀a b,F a b->G a b):Paired G e l₂:=by
 induction h with
 |nil=>exact .nil
 |cons r _ ih=>exact .cons (f _ _ r) ih
def zah.stay(x:zah P w H h a o)(k:∀b u,(b=a\/H b=some (.own a))->h.get? b=some u->h'.get? b=some u)(j:∀b,H b=some (.own a)->H' b=some (.own a))(l:∀b xs,H b=some (.tup xs)->H' b=some (.tup xs)):zah P w H' h' a o:=by
 induction o with
 |lst xs=>obtain⟨z,ad,n,r,e⟩:=x;exact⟨z,ad,n,r,k _ _ (.inl rfl) e⟩
 |tup xs=>obtain⟨z,ad,r,g,e,c⟩:=x;exact⟨z,ad,r,g,k _ _ (.inl rfl) e,c⟩
 |dK kvs=>obtain⟨z,y,vs,r,g,es,ep,e,c⟩:=x;exact⟨z,y,vs,r,g,es,ep,k _ _ (.inl rfl) e,c⟩
 |dT kvs=>
  obtain⟨z,y,xs,r,g,es,ep,e,c⟩:=x;exact⟨z,y,xs,Paired.mapP r fun p q z=>⟨z.1,l _ _ z.2.1,z.2.2⟩,g,es,ep,k _ _ (.inl rfl) e,c⟩
 |set S n=>obtain⟨g,es,ep,t,e,c⟩:=x;exact⟨g,es,ep,t,k _ _ (.inl rfl) e,c⟩
 |ins C dx fs=>
  obtain⟨d,z,ne,e,mA,⟨i,es,ep,e2,c⟩,r⟩:=x;exact⟨j _ d,z,ne,k _ _ (.inl rfl) e,mA,⟨i,es,ep,k _ _ (.inr d) e2,c⟩,r⟩
 |own y=>obtain⟨g,e⟩:=x;exact⟨g,k _ _ (.inl rfl) e⟩
 |xd fs=>obtain⟨mA,⟨i,es,ep,e,c⟩,r⟩:=x;exact⟨mA,⟨i,es,ep,k _ _ (.inl rfl) e,c⟩,r⟩
 |rng lo hi=>obtain⟨t,u,v,e⟩:=x;exact⟨t,u,v,k _ _ (.inl rfl) e⟩
 |frz g u ih=>obtain⟨e,q⟩:=x;exact⟨k _ _ (.inl rfl) e,ih q⟩
 |tbl ps=>
  have e:h.get? a=some {cls:=.none,data:=.fields ps}:=x;show h'.get? a=some {cls:=.none,data:=.fields ps};exact k a _ (.inl rfl) e
 |met f y=>
  have e:h.get? a=some (PySem.W.methodObj (.ref f) (.ref y)):=x;show h'.get? a=some (PySem.W.methodObj (.ref f) (.ref y));exact k a _ (.inl rfl) e
 |ext φ=>obtain⟨p,⟨o,e⟩,st⟩:=x;exact⟨st _ _ p fun o q=>k _ _ (.inl rfl) q,⟨o,k _ _ (.inl rfl) e⟩,st⟩
def HOk.lt(x:HOk P w H h)(e:H a=some o):a<h.objs.size:=(x a o e).lt
def HOk.fresh(x:HOk P w H h)(e:h.objs.size<=a):H a=none:=by
 cases q:H a with
 |none=>rfl
 |some u=>exact absurd (Az (x.lt q) e) (Nat.lt_irrefl _)
def HOk.kept(x:HOk P w H h)(k:∀b u,h.get? b=some u->h'.get? b=some u):HOk P w H h':=fun a o e=>
 (x a o e).stay (fun b u _ q=>k b u q) (fun _ q=>q) fun _ _ q=>q
def HOk.laid(x:HOk P w H h)(k:∀b u,h.get? b=some u->h'.get? b=some u)(hp:h.objs.size<=a)(new:zah P w (upd H a o) h' a o):HOk P w (upd H a o) h':=fun b u e=>by
 have d:=x.fresh hp
 by_cases hb:b=a
 ·subst hb;rw[ac] at e;cases e;exact new
 ·rw[al hb] at e
  exact(x b u e).stay (fun c v _ q=>k c v q) (fun c q=>by rw[al (zl q d)];exact q) fun c xs q=>by rw[al (zl q d)];exact q
end
def Rd(H:Hp)(a:Addr)(u:HO):Prop:=H a=some u\/∃o,H a=some (.frz o u)
def Rd.of{H:Hp}{a:Addr}{u:HO}(h:H a=some u):Rd H a u:=.inl h
def Rd.ok{P:Program}{w:World}{H:Hp}{h:Heap}{a:Addr}{u:HO}(r:Rd H a u)(x:HOk P w H h):zah P w H h a u:=by
 rcases r with r|⟨o,r⟩
 ·exact x a u r
 ·obtain⟨_,q⟩:=x a _ r
  exact q
def rL:Option HO->Prop
 |some (.lst _)=>True
 |some (.dK _)=>True
 |some (.dT _)=>True
 |some (.set _ _)=>True
 |some (.ins _ _ _)=>True
 |some (.ext _)=>True
 |_=>False
section
variable{P:Program}{w:World}{H:Hp}{h h':Heap}{x e:Addr}{o':HO}
def HOk.write(ok:HOk P w H h)(mu:rL (H x))(g:e=x\/H e=some (.own x))(k:∀b u,b≠e->h.get? b=some u->h'.get? b=some u)(j:∃u,h'.get? e=some u)(new:zah P w (upd H x o') h' x o'):HOk P w (upd H x o') h':=fun b u q=>by
 have d:∀c y,H c=some (.own y)->c≠x:=fun c y r z=>by subst z;rw[r] at mu;exact mu
 have f:∀c xs,H c=some (.tup xs)->c≠x:=fun c xs r z=>by subst z;rw[r] at mu;exact mu
 by_cases hb:b=x
 ·subst hb;rw[ac] at q;cases q;exact new
 ·rw[al hb] at q
  by_cases a:b=e
  ·have i:H b=some (.own x):=by
    rcases g with z|z
    ·exact absurd (a.trans z) hb
    ·rw[a];exact z
   rw[q] at i;cases i;obtain⟨v,hv⟩:=j;exact⟨v,by rw[a];exact hv⟩
  ·refine(ok b u q).stay (fun c v hc r=>k c v ?_ r) (fun c r=>by rw[al (d c b r)];exact r) fun c xs r=>by rw[al (f c xs r)];exact r
   rcases hc with rfl|hc
   ·exact a
   ·rintro rfl
    rcases g with z|z
    ·exact d c b hc z
    ·rw[hc] at z;cases z;exact hb rfl
end
structure Un(fs ex:List Addr)(H H':Hp)(h h':Heap):Prop where
 keep:∀b o,h.get? b=some o->H b=none->b∉fs->b∉ex->h'.get? b=some o
 slot:∀b o,h.get? b=some o->H b=none->b∈fs->b∉ex->∃sl,h'.get? b=some {o with slots:=sl}
 free:∀b o,h.get? b=some o->H b=none->b∉ex->H' b=none
 there:∀b o,h.get? b=some o->b∉ex->∃o',h'.get? b=some o'
 tups:∀b xs,H b=some (.tup xs)->H' b=some (.tup xs)
 frzs:∀b o u,H b=some (.frz o u)->H' b=some (.frz o u)
 tbls:∀b ps,H b=some (.tbl ps)->∃more,H' b=some (.tbl (ps++more))
section
variable{fs vi ex ym:List Addr}{H H1 H2:Hp}{h h1 h2 h':Heap}{a x e:Addr}{o:HO}
def Un.any(u:Un fs ex H H1 h h1){b:Addr}{a:Obj}(q:h.get? b=some a)(n:H b=none)(hx:b∉ex):∃c,h1.get? b=some {a with slots:=c}:=by
 by_cases hb:b∈fs
 ·exact u.slot b a q n hb hx
 ·exact⟨a.slots,u.keep b a q n hb hx⟩
def Un.kept(k:∀b u,h.get? b=some u->h'.get? b=some u):Un fs ex H H h h':=
 ⟨fun b a q _ _ _=>k b a q,fun b a q _ _ _=>⟨a.slots,k b a q⟩,fun _ _ _ n _=>n,fun b a q _=>⟨a,k b a q⟩,fun _ _ q=>q,fun _ _ _ q=>q,fun _ ps q=>⟨#[],by rw[q];simp⟩⟩
def Un.refl:Un fs ex H H h h:=Un.kept fun _ _ q=>q
def Un.laid(k:∀b u,h.get? b=some u->h'.get? b=some u)(hp:h.objs.size<=a)(c:H a=none):Un fs ex H (upd H a o) h h' where
 keep:=fun b u q _ _ _=>k b u q
 slot:=fun b u q _ _ _=>⟨u.slots,k b u q⟩
 free:=fun b u q n _=>by rw[al (AA (Az (Ar q) hp))];exact n
 there:=fun b u q _=>⟨u,k b u q⟩
 tups:=fun b xs q=>by rw[al (zl q c)];exact q
 frzs:=fun b u xs q=>by rw[al (zl q c)];exact q
 tbls:=fun b ps q=>⟨#[],by rw[al (zl q c),q];simp⟩
def Un.write(mu:rL (H x))(d:e=x\/H e=some (.own x))(k:∀b u,b≠e->h.get? b=some u->h'.get? b=some u)(f:∃u,h'.get? e=some u):Un fs ex H (upd H x o) h h':=by
 have hx:∀b,H b=none->b≠x:=fun b n z=>by subst z;rw[n] at mu;exact mu
 have hb:∀b,H b=none->b≠e:=fun b n z=>by
  subst z;rcases d with r|r
  ·exact hx b n r
  ·rw[n] at r;cases r
 have c:∀b u,H b=some u->¬rL (some u)->b≠x:=fun b u q nm z=>by subst z;rw[q] at mu;exact nm mu
 refine⟨fun b u q n _ _=>k b u (hb b n) q,fun b u q n _ _=>⟨u.slots,k b u (hb b n) q⟩,fun b u q n _=>by rw[al (hx b n)];exact n,fun b u q _=>?_,
  fun b xs q=>by rw[al (c b _ q fun z=>z)];exact q,fun b u xs q=>by rw[al (c b _ q fun z=>z)];exact q,fun b ps q=>⟨#[],by rw[al (c b _ q fun z=>z),q];simp⟩⟩
 by_cases a:b=e
 ·subst a;exact f
 ·exact⟨u,k b u a q⟩
end
def B8(h:Heap)(H:Hp):List Addr:=(Ah h.objs.size).filter fun a=>(H a).isSome
def d0(h:Heap)(H:Hp):Heap:=PySem.W.hideAll h (B8 h H)
def J4(h:Heap)(H:Hp):(d0 h H).objs.size=h.objs.size:=PySem.W.hideAll_size _ _
def J5{h:Heap}{H:Hp}{b:Addr}{o:Obj}(e:h.get? b=some o)(n:H b=none):(d0 h H).get? b=some o:=
 PySem.W.hideAll_get _ e fun a=>by
  have q:(H b).isSome=true:=(List.mem_filter.mp a).2;rw[n] at q;simp at q
def J6{h:Heap}{H:Hp}{b:Addr}{o:Obj}(e:(d0 h H).get? b=some o):h.get? b=some o/\H b=none:=by
 have a:h.get? b=some o:=PySem.W.of_hideAll (B8 h H) e;refine⟨a,?_⟩;cases q:H b with
 |none=>rfl
 |some x=>
  have c:b∈B8 h H:=List.mem_filter.mpr ⟨List.mem_range.mpr (Ar a),by simp[q]⟩;have z:(d0 h H).get? b=none:=PySem.W.hideAll_none (B8 h H) c;rw[z] at e;cases e
structure Mod(K:Ag)(mg:Str->Option Value)(base:Heap):Prop where
 kin:K.In base
 glob:base.Ns mainGlobals mg
 blt:∃mb,base.Ns builtinsNs mb/\∀x:Str,x≠"__name__"->mb x=A7 x
 nolimit:base.NoLimit
structure Cx where
 prog:Program
 w:World
 K:Ag
 mg:Str->Option Value
 base:Heap
 A:Around
 N:List Str
 s₀:Shared
 H₀:Hp
 env:Env
 outer:List Env
 stack:List Env
 ex:List Addr
 fn:Str->Bool
 calm:Bool
 pn:Ψ
 xe:Ω
def frs(l:List Env):List Addr:=l.filterMap (·.frame)
abbrev Cx.fs(X:Cx):List Addr:=frs X.outer
def B9(sc:Scope)(x:Str):Prop:=sc.names.lookup x=some .local\/sc.names.lookup x=some .cell\/sc.names.lookup x=some .free
def Loc(sc:Scope)(x:Str):Prop:=sc.names.lookup x=some .local\/sc.names.lookup x=some .cell
def Look(env:Env)(h:Heap)(m:Str->Option Value)(x:Str)(u:Value):Prop:=
 (env.kindOf x=some .local/\m x=some u)\/((env.kindOf x=some .cell\/env.kindOf x=some .free)/\∃c,env.cells.lookup x=some c/\h.IsCell c (some u))
structure Cx.Ok(X:Cx):Prop where
 mod:Mod X.K X.mg X.base
 kind:X.env.scope.kind=.function
 glob:X.env.globals=mainGlobals
 blt:X.env.builtins=builtinsNs
 above:X.s₀⁻¹<=X.env.locals
 inj:∀x y c,X.env.cells.lookup x=some c->X.env.cells.lookup y=some c->x=y
 has:∀x,(X.env.kindOf x=some .cell\/X.env.kindOf x=some .free)->∃c,X.env.cells.lookup x=some c
 cab:∀x c,X.fn x=true->X.env.cells.lookup x=some c->X.s₀⁻¹<=c
 hd:X.calm=true->X.A.handled=none
 frames:X.A.frames=some X.stack
 stk:X.stack=X.outer\/(X.stack=X.env::X.outer/\X.env.frame=some X.env.locals)
 exf:∀b∈X.ex,b≠X.env.locals/\∀x c,X.env.cells.lookup x=some c->c≠b
 bs:∀b o,X.base.get? b=some o->X.s₀.heap.get? b=some o/\X.H₀ b=none
 bsz:X.base.objs.size<=X.s₀⁻¹
 noex:∀b o,X.base.get? b=some o->b∉X.ex
 exfs:∀b∈X.ex,b∉X.fs
 funs:X.s₀.heap.FunFrames X.base X.outer
 frf:∀b∈X.fs,X.H₀ b=none
structure Inv(X:Cx)(aa:Ψ)(σ:List (Option V))(H:Hp)(s:Shared):Prop where
 ok:X.Ok
 os:s.os=X.s₀.os
 bare:AllBare s.gens
 base:Un X.fs X.ex X.H₀ H X.s₀.heap s.heap
 loc:∃m,s.heap.Ns X.env.locals m/\∀(i:Nat)(x:Str)(v:V),X.N[i]?=some x->σ[i]?=some (some v)->B9 X.env.scope x->∃u,RelV v u/\Look X.env s.heap m x u
 cell:∀x c,X.env.cells.lookup x=some c->∃v,s.heap.IsCell c v
 free:H X.env.locals=none
 freeC:∀x c,X.env.cells.lookup x=some c->H c=none
 pin:∀p∈X.pn++aa,s.heap.get? p.1=some p.2/\H p.1=none/\p.1≠X.env.locals/\p.1∉X.fs/\∀v,p.2.data≠.cell v
 hok:HOk X.prog X.w H s.heap
 len:σ.length=X.N.length
section
variable{X:Cx}{aa:Ψ}{σ:List (Option V)}{H H':Hp}{s:Shared}{h':Heap}
def Cx.Ok.nofr(ok:X.Ok){b:Addr}{o:Obj}(e:X.base.get? b=some o):b∉X.fs:=fun hb=>by
 have:=(ok.funs.mem hb).1;rw[e] at this;cases this
def Inv.bs(I:Inv X aa σ H s):∀b o,X.base.get? b=some o->s.heap.get? b=some o/\H b=none:=fun b o e=>
 ⟨I.base.keep b o (I.ok.bs b o e).1 (I.ok.bs b o e).2 (I.ok.nofr e) (I.ok.noex b o e),I.base.free b o (I.ok.bs b o e).1 (I.ok.bs b o e).2 (I.ok.noex b o e)⟩
def Inv.bk(I:Inv X aa σ H s):∀b o,X.base.get? b=some o->s.heap.get? b=some o:=fun b o e=>(I.bs b o e).1
def Inv.mod(I:Inv X aa σ H s):Mod X.K X.mg X.base:=I.ok.mod
def Inv.kIn(I:Inv X aa σ H s):X.K.In s.heap:=I.ok.mod.kin.keeps I.bk
def Inv.nolimit(I:Inv X aa σ H s):s.heap.NoLimit:=I.ok.mod.nolimit.keeps I.bk
def Inv.lt(I:Inv X aa σ H s):X.env.locals<s⁻¹:=let ⟨_,hn,_⟩:=I.loc;hn.lt
def Inv.sz(I:Inv X aa σ H s):X.s₀⁻¹<=s⁻¹:=Ae I.ok.above (Nat.le_of_lt I.lt)
def Inv.nofs(I:Inv X aa σ H s){a:Addr}(h:s⁻¹<=a):a∉X.fs:=fun hb=>by
 obtain⟨_,o,b,_⟩:=I.ok.funs.mem hb;exact absurd (Az (Ar b) (Ae I.sz h)) (Nat.lt_irrefl _)
def Inv.cne(I:Inv X aa σ H s):∀x c,X.env.cells.lookup x=some c->c≠X.env.locals:=fun x c e z=>by
 obtain⟨v,o,b,hd⟩:=I.cell x c e;obtain⟨m,⟨o',es,ep,d,a,_⟩,_⟩:=I.loc;rw[z,d] at b;cases b;rw[a] at hd;cases hd
def Inv.funs(I:Inv X aa σ H s):s.heap.FunFrames X.base X.outer:=by
 have all:∀(l:List Env),(∀b∈frs l,b∈X.fs)->X.s₀.heap.FunFrames X.base l->s.heap.FunFrames X.base l:=by
  intro l
  induction l with
  |nil=>intro _ _;trivial
  |cons env r ih=>
   intro d f;obtain⟨hk,⟨L,o,a,g,h,hd⟩,hr⟩:=f;have c:L∈X.fs:=d L (by unfold frs;rw[List.filterMap_cons,a];exact AM);obtain⟨i,e⟩:=I.base.slot L o h (I.ok.frf L c) c fun z=>I.ok.exfs L z c;exact⟨hk,⟨L,_,a,g,e,hd⟩,ih (fun b hb=>d b (by unfold frs;rw[List.filterMap_cons,a];exact AJ _ hb)) hr⟩
 exact all X.outer (fun _ hb=>hb) I.ok.funs
def Inv.stack(I:Inv X aa σ H s):s.heap.FunFrames X.base X.stack:=by
 rcases I.ok.stk with e|⟨e,a⟩
 ·rw[e];exact I.funs
 ·rw[e]
  obtain⟨m,b,_⟩:=I.loc;refine .cons (by rw[I.ok.kind];decide) a b ?_ I.funs;exact Heap.get?_none_of_le (Ae I.ok.bsz I.ok.above)
def Inv.stkSub(I:Inv X aa σ H s):∀b∈frs X.stack,b∈X.env.locals::X.fs:=fun b hb=>by
 rcases I.ok.stk with e|⟨e,a⟩
 ·rw[e] at hb;exact AJ _ hb
 ·rw[e] at hb
  unfold frs at hb;rw[List.filterMap_cons,a] at hb;exact hb
def Inv.stkFree(I:Inv X aa σ H s):∀b∈frs X.stack,H b=none:=fun b hb=>by
 rcases List.mem_cons.mp (I.stkSub b hb) with e|hb
 ·rw[e];exact I.free
 ·obtain⟨_,o,a,_⟩:=I.ok.funs.mem hb
  exact I.base.free b o a (I.ok.frf b hb) fun z=>I.ok.exfs b z hb
def Inv.step{g':Array GenState}{t':Nat}{d':Drawn}{ch:List Addr}(I:Inv X aa σ H s)(h:∀b∈ch,(b∈X.ex\/X.s₀⁻¹<=b)/\b≠X.env.locals/\(∀x c,X.env.cells.lookup x=some c->c≠b)/\∀p∈X.pn++aa,p.1≠b)(keep:∀b o,b≠X.env.locals->b∉X.fs->b∉ch->s.heap.get? b=some o->H b=none->h'.get? b=some o)(slot:∀b o,b≠X.env.locals->b∈X.fs->b∉ch->s.heap.get? b=some o->H b=none->∃A,h'.get? b=some {o with slots:=A})(free:∀b o,b∉ch->s.heap.get? b=some o->H b=none->H' b=none)(there:∀b o,b∉ch->s.heap.get? b=some o->∃o',h'.get? b=some o')(tups:∀b xs,H b=some (.tup xs)->H' b=some (.tup xs))(frzs:∀b o u,H b=some (.frz o u)->H' b=some (.frz o u))(tbls:∀b ps,H b=some (.tbl ps)->∃more,H' b=some (.tbl (ps++more)))(ns:∀m,s.heap.Ns X.env.locals m->h'.Ns X.env.locals m)(C:HOk X.prog X.w H' h')(hg:AllBare g'):Inv X aa σ H' {s with heap:=h',gens:=g',drawn:=d',toks:=t'}:=by
 have j:∀b o,X.s₀.heap.get? b=some o->b≠X.env.locals:=fun b o e=>AA (Az (Ar e) I.ok.above);have y:∀b o,X.s₀.heap.get? b=some o->b∉X.ex->b∉ch:=fun b o e hx hb=>by
  rcases(h b hb).1 with z|z
  ·exact hx z
  ·exact absurd (Az (Ar e) z) (Nat.lt_irrefl _)
 have a:∀x c,X.env.cells.lookup x=some c->∀v,s.heap.IsCell c v->h'.IsCell c v:=fun x c e v ⟨o,g,hd⟩=>by
  have f:c∉ch:=fun z=>(h c z).2.2.1 x c e rfl
  by_cases hc:c∈X.fs
  ·obtain⟨A,q⟩:=slot c o (I.cne x c e) hc f g (I.freeC x c e)
   exact⟨_,q,hd⟩
  ·exact⟨o,keep c o (I.cne x c e) hc f g (I.freeC x c e),hd⟩
 refine⟨I.ok,I.os,hg,⟨fun b o e n hb hx=>?_,fun b o e n hb hx=>?_,fun b o e n hx=>?_,fun b o e hx=>?_,fun b xs e=>tups b xs (I.base.tups b xs e),fun b o xs e=>frzs b o xs (I.base.frzs b o xs e),fun b ps e=>?_⟩,?_,fun x c e=>?_,?_,fun x c e=>?_,fun p hp=>?_,C,I.len⟩
 ·exact keep b o (j b o e) hb (y b o e hx) (I.base.keep b o e n hb hx) (I.base.free b o e n hx)
 ·obtain⟨A,e1⟩:=I.base.slot b o e n hb hx
  obtain⟨E,e2⟩:=slot b _ (j b o e) hb (y b o e hx) e1 (I.base.free b o e n hx);exact⟨E,e2⟩
 ·obtain⟨o',e1⟩:=I.base.there b o e hx
  exact free b o' (y b o e hx) e1 (I.base.free b o e n hx)
 ·obtain⟨o',e1⟩:=I.base.there b o e hx
  exact there b o' (y b o e hx) e1
 ·obtain⟨F,e1⟩:=I.base.tbls b ps e
  obtain⟨m2,e2⟩:=tbls b _ e1;exact⟨F++m2,by rw[e2,Array.append_assoc]⟩
 ·obtain⟨m,G,J⟩:=I.loc
  refine⟨m,ns m G,fun i x v e1 e2 e3=>?_⟩;obtain⟨u,r,l⟩:=J i x v e1 e2 e3;refine⟨u,r,?_⟩;rcases l with l|⟨k,c,e,z⟩
  ·exact .inl l
  ·exact .inr ⟨k,c,e,a x c e _ z⟩
 ·obtain⟨v,z⟩:=I.cell x c e
  exact⟨v,a x c e v z⟩
 ·obtain⟨m,⟨o,_,_,g,_⟩,_⟩:=I.loc
  exact free _ o (fun z=>(h _ z).2.1 rfl) g I.free
 ·obtain⟨v,o,g,hd⟩:=I.cell x c e
  exact free c o (fun z=>(h c z).2.2.1 x c e rfl) g (I.freeC x c e)
 ·obtain⟨e,n,ne,D,d⟩:=I.pin p hp
  have f:p.1∉ch:=fun z=>(h p.1 z).2.2.2 p hp rfl;exact⟨keep p.1 p.2 ne D f e n,free p.1 p.2 f e n,ne,D,d⟩
def Inv.un{t':Nat}(I:Inv X aa σ H s)(u:Un X.fs [] H H' s.heap h')(a:HOk X.prog X.w H' h'):Inv X aa σ H' {s with heap:=h',toks:=t'}:=by
 obtain⟨m,⟨o,es,ep,c,r⟩,_⟩:=id I.loc;obtain⟨p,g⟩:=u.any c I.free (by simp);exact I.step (g':=s.gens) (d':=s.drawn) (ch:=[]) (fun _ z=>nomatch z) (fun b o _ hb _ e n=>u.keep b o e n hb (by simp)) (fun b o _ hb _ e n=>u.slot b o e n hb (by simp)) (fun b o _ e n=>u.free b o e n (by simp)) (fun b o _ e=>u.there b o e (by simp)) u.tups u.frzs u.tbls (fun l f=>by
  obtain⟨o',h,i,d,j⟩:=f;rw[c] at d;cases d;exact⟨_,h,i,g,j⟩) a I.bare
def Inv.call{g':Array GenState}{t':Nat}{d':Drawn}{ch:List Addr}(I:Inv X aa σ H s)(u:Un (frs X.stack) ch H H' s.heap h')(d:HOk X.prog X.w H' h')(hg:AllBare g')(h:∀b∈ch,(b∈X.ex\/X.s₀⁻¹<=b)/\b≠X.env.locals/\(∀x c,X.env.cells.lookup x=some c->c≠b)/\∀p∈X.pn++aa,p.1≠b):Inv X aa σ H' {s with heap:=h',gens:=g',drawn:=d',toks:=t'}:=by
 obtain⟨m,⟨o,es,ep,f,r⟩,_⟩:=id I.loc;obtain⟨y,a⟩:=u.any f I.free fun z=>(h _ z).2.1 rfl;exact I.step (ch:=ch) h (fun b o a hb hc e n=>u.keep b o e n (fun z=>(List.mem_cons.mp (I.stkSub b z)).elim a hb) hc) (fun b o _ _ hc e n=>u.any e n hc) (fun b o hc e n=>u.free b o e n hc) (fun b o hc e=>u.there b o e hc) u.tups u.frzs u.tbls (fun v i=>by
  obtain⟨o',j,l,g,q⟩:=i;rw[f] at g;cases g;exact⟨_,j,l,a,q⟩) d hg
def Inv.turned{t':Nat}{it:Addr}(I:Inv X aa σ H s)(k:∀b o,b≠it->s.heap.get? b=some o->h'.get? b=some o)(h:H it=none)(d:it≠X.env.locals)(h1:it∈X.ex\/X.s₀⁻¹<=it)(h2:∀x c,X.env.cells.lookup x=some c->c≠it)(i:∀p∈X.pn++aa,p.1≠it):Inv X aa σ H {s with heap:=h',toks:=t'}:=by
 have a:∀b u,H b=some u->b≠it:=fun b u e z=>by rw[z,h] at e;cases e
 refine I.step (g':=s.gens) (d':=s.drawn) (ch:=[it]) (fun b hb=>?_) (fun b o _ _ hc e _=>k b o (fun z=>hc (by simp[z])) e) (fun b o _ _ hc e _=>⟨o.slots,k b o (fun z=>hc (by simp[z])) e⟩) (fun _ _ _ _ n=>n)
  (fun b o hc e=>⟨o,k b o (fun z=>hc (by simp[z])) e⟩) (fun _ _ e=>e) (fun _ _ _ e=>e) (fun b ps e=>⟨#[],by rw[e];simp⟩) (fun m f=>?_) (fun b u e=>?_) I.bare
 ·have e:b=it:=by simpa using hb
  subst e;exact⟨h1,d,h2,i⟩
 ·obtain⟨o,es,ep,g,r⟩:=f
  exact⟨o,es,ep,k _ o (Ne.symm d) g,r⟩
 ·refine(I.hok b u e).stay (fun c v hc q=>k c v ?_ q) (fun _ q=>q) fun _ _ q=>q
  rcases hc with z|z
  ·rw[z];exact a b u e
  ·exact a c _ z
def Inv.tok(I:Inv X aa σ H s)(t:Nat):Inv X aa σ H {s with toks:=t}:=I.un (h':=s.heap) (t':=t) Un.refl I.hok
def Inv.kept{t':Nat}(I:Inv X aa σ H s)(k:∀b u,s.heap.get? b=some u->h'.get? b=some u):Inv X aa σ H {s with heap:=h',toks:=t'}:=I.un (Un.kept k) (I.hok.kept k)
def Inv.laid{a:Addr}{o:HO}{t':Nat}(I:Inv X aa σ H s)(k:∀b u,s.heap.get? b=some u->h'.get? b=some u)(hp:s⁻¹<=a)(new:zah X.prog X.w (upd H a o) h' a o):Inv X aa σ (upd H a o) {s with heap:=h',toks:=t'}:=I.un (Un.laid k hp (I.hok.fresh hp)) (I.hok.laid k hp new)
def Inv.write{x e:Addr}{o:HO}{t':Nat}(I:Inv X aa σ H s)(mu:rL (H x))(a:e=x\/H e=some (.own x))(k:∀b u,b≠e->s.heap.get? b=some u->h'.get? b=some u)(c:∃u,h'.get? e=some u)(new:zah X.prog X.w (upd H x o) h' x o):Inv X aa σ (upd H x o) {s with heap:=h',toks:=t'}:=I.un (Un.write mu a k c) (I.hok.write mu a k c new)
def Inv.pins_of{a:Ψ}(I:Inv X aa σ H s)(h:∀p∈a,s.heap.get? p.1=some p.2/\H p.1=none/\p.1≠X.env.locals/\p.1∉X.fs/\∀v,p.2.data≠.cell v):Inv X a σ H s:=
 ⟨I.ok,I.os,I.bare,I.base,I.loc,I.cell,I.free,I.freeC,fun p hp=>(List.mem_append.mp hp).elim (fun z=>I.pin p (A6 _ z)) (h p),I.hok,I.len⟩
def FU{N:List Str}(c:N.Nodup){i j:Nat}{x:Str}(a:N[i]?=some x)(b:N[j]?=some x):i=j:=by
 obtain⟨h1,e1⟩:=List.getElem?_eq_some_iff.mp a;obtain⟨h2,e2⟩:=List.getElem?_eq_some_iff.mp b;exact(List.getElem_inj c).mp (e1.trans e2.symm)
def FV{M:Model}{A:Around}{E:Ω}{i:Nat}{x:Str}{v:V}{u:Value}{Q:Unit->Shared->Prop}(I:Inv X aa σ H s)(hN:X.N.Nodup)(hi:X.N[i]?=some x)(hx:Loc X.env.scope x)(r:RelV v u)(h:∀s',Inv X aa (σ.set i (some v)) H s'->(∃a,Heap.SameBut a s.heap s'.heap/\(a=X.env.locals\/X.env.cells.lookup x=some a))->Q () s')(hf:X.fn x=true\/X.env.scope.names.lookup x=some .local:=by first|exact .inl rfl|exact .inr rfl|assumption):wpAny M A (storeName X.env x u) Q E s:=by
 obtain⟨m,J,W⟩:=id I.loc;have j4:(X.env.scope.kind==.class|| (X.env.scope.kind==.module&&X.env.locals != X.env.globals))=false:=by rw[I.ok.kind];rfl
 have g:i<σ.length:=by rw[I.len];exact(List.getElem?_eq_some_iff.mp hi).1
 have cne:=I.cne;have cO:∀{a:Addr}{h':Heap},(∃o,s.heap.get? a=some o/\H a=none)->Heap.SameBut a s.heap h'->HOk X.prog X.w H h':=fun{a h'} ha f b ob e=>by
  obtain⟨_,_,Y⟩:=ha;refine(I.hok b ob e).stay (fun c D hc q=>(f.2 c ?_).trans q) (fun _ q=>q) fun _ _ q=>q;rintro rfl;rcases hc with rfl|hc
  ·rw[Y] at e;cases e
  ·rw[Y] at hc;cases hc
 rcases hx with hk|hk
 ·refine wpAny_storeName_local hk J (fun h' dM f=>?_) j4
  obtain⟨oL,_,_,iD,_⟩:=id J;refine h _ ⟨I.ok,I.os,I.bare,⟨fun b o e n hb hx=>?_,fun b o e n hb hx=>?_,I.base.free,fun b o e hx=>?_,I.base.tups,I.base.frzs,I.base.tbls⟩,⟨_,dM,fun j y G e1 e2 e3=>?_⟩,fun y c e=>?_,I.free,I.freeC,fun p hp=>?_,cO ⟨oL,iD,I.free⟩ f,by simpa using I.len⟩ ⟨_,f,.inl rfl⟩
  ·exact(f.2 b (AA (Az (Ar e) I.ok.above))).trans (I.base.keep b o e n hb hx)
  ·obtain⟨L,e1⟩:=I.base.slot b o e n hb hx
   exact⟨L,(f.2 b (AA (Az (Ar e) I.ok.above))).trans e1⟩
  ·obtain⟨o',e1⟩:=I.base.there b o e hx
   exact⟨o',(f.2 b (AA (Az (Ar e) I.ok.above))).trans e1⟩
  ·by_cases l:j=i
   ·subst l
    rw[hi] at e1;cases e1;rw[List.getElem?_set_self g] at e2;cases e2;exact⟨u,r,.inl ⟨hk,by simp⟩⟩
   ·rw[List.getElem?_set_ne (Ne.symm l)] at e2
    obtain⟨O,P,q⟩:=W j y G e1 e2 e3;refine⟨O,P,?_⟩;rcases q with ⟨k,e⟩|⟨k,c,e,z⟩
    ·refine .inl ⟨k,?_⟩
     have:y≠x:=fun e=>l (FU hN e1 (e▸hi));simp[this,e]
    ·exact .inr ⟨k,c,e,z.sameBut f (cne y c e)⟩
  ·obtain⟨D,z⟩:=I.cell y c e
   exact⟨D,z.sameBut f (cne y c e)⟩
  ·obtain⟨e,n,ne,S,d⟩:=I.pin p hp
   exact⟨(f.2 p.1 ne).trans e,n,ne,S,d⟩
 ·have T:X.fn x=true:=by
   rcases hf with z|z
   ·exact z
   ·rw[z] at hk;cases hk
  obtain⟨c,hc⟩:=I.ok.has x (.inl hk);obtain⟨D,z⟩:=I.cell x c hc;refine wpAny_storeName_cell I.ok.kind hk hc z (fun h' U f=>?_);obtain⟨Z,oX,mR⟩:=id z;refine h {s with heap:=h'} ⟨I.ok,I.os,I.bare,⟨fun b o e n hb hx=>?_,fun b o e n hb hx=>?_,I.base.free,fun b o e hx=>?_,I.base.tups,I.base.frzs,I.base.tbls⟩,⟨m,J.sameBut f (Ne.symm (cne x c hc)),fun j y G e1 e2 e3=>?_⟩,fun y F e=>?_,I.free,I.freeC,fun p hp=>?_,cO ⟨Z,oX,I.freeC x c hc⟩ f,by simpa using I.len⟩ ⟨c,f,.inr hc⟩
  ·exact(f.2 b (AA (Az (Ar e) (I.ok.cab x c T hc)))).trans (I.base.keep b o e n hb hx)
  ·obtain⟨L,e1⟩:=I.base.slot b o e n hb hx
   exact⟨L,(f.2 b (AA (Az (Ar e) (I.ok.cab x c T hc)))).trans e1⟩
  ·obtain⟨o',e1⟩:=I.base.there b o e hx
   exact⟨o',(f.2 b (AA (Az (Ar e) (I.ok.cab x c T hc)))).trans e1⟩
  ·by_cases l:j=i
   ·subst l
    rw[hi] at e1;cases e1;rw[List.getElem?_set_self g] at e2;cases e2;exact⟨u,r,.inr ⟨.inl hk,c,hc,U⟩⟩
   ·rw[List.getElem?_set_ne (Ne.symm l)] at e2
    obtain⟨O,P,q⟩:=W j y G e1 e2 e3;refine⟨O,P,?_⟩;rcases q with q|⟨k,F,e,z'⟩
    ·exact .inl q
    ·refine .inr ⟨k,F,e,z'.sameBut f ?_⟩
     rintro rfl;exact l (FU hN e1 (I.ok.inj _ _ _ e hc▸hi))
  ·by_cases C:F=c
   ·subst C;exact⟨_,U⟩
   ·obtain⟨w2,z2⟩:=I.cell y F e
    exact⟨w2,z2.sameBut f C⟩
  ·obtain⟨e,n,ne,S,d⟩:=I.pin p hp
   refine⟨(f.2 p.1 ?_).trans e,n,ne,S,d⟩;intro q;rw[q,oX] at e;have q':Z=p.2:=AV e;exact d D (by rw[<-q'];exact mR)
def FW{M:Model}{A:Around}{E:Ω}{i:Nat}{x:Str}{v:V}{u:Value}{Q:Unit->Shared->Prop}(I:Inv X aa σ H s)(a:X.N.Nodup)(hi:X.N[i]?=some x)(hx:Loc X.env.scope x)(r:RelV v u)(h:∀s',Inv X aa (σ.set i (some v)) H s'->Q () s')(b:X.fn x=true\/X.env.scope.names.lookup x=some .local:=by first|exact .inl rfl|exact .inr rfl|assumption):wpAny M A (storeName X.env x u) Q E s:=
 FV I a hi hx r (fun s' c _=>h s' c) b
def Inv.call'{s':Shared}{ch:List Addr}(I:Inv X aa σ H s)(d:s'.os=s.os)(u:Un (frs X.stack) ch H H' s.heap s'.heap)(a:HOk X.prog X.w H' s'.heap)(hg:AllBare s'.gens)(f:∀b∈ch,(b∈X.ex\/X.s₀⁻¹<=b)/\b≠X.env.locals/\(∀x c,X.env.cells.lookup x=some c->c≠b)/\∀p∈X.pn++aa,p.1≠b):Inv X aa σ H' s':=by
 obtain⟨h',g',d',t',o'⟩:=s';have e:o'=s.os:=d;subst e;exact I.call (g':=g') (t':=t') (d':=d') u a hg f
end
abbrev XK:=Value->Option Addr->Hp->Prop
abbrev St:=List (Option V)
abbrev VK:=V->Hp->Prop
abbrev TE:=St->Hp->VK->Prop
abbrev TT:=St->Hp->(Bool->Hp->Prop)->Prop
abbrev TA:=St->Hp->(List V->Hp->Prop)->Prop
structure Ends where
 nx:St->Hp->Prop
 rt:VK
 bk:St->Hp->Prop:=fun _ _=>False
 ct:St->Hp->Prop:=fun _ _=>False
abbrev TS:=Ends->St->Hp->Prop
def EP(X:Cx)(aa:Ψ)(σ:St)(Q:VK)(u:Value)(s':Shared):Prop:=∃v H',Inv X aa σ H' s'/\RelV v u/\Q v H'
def TP(X:Cx)(aa:Ψ)(σ:St)(Q:Bool->Hp->Prop)(b:Bool)(s':Shared):Prop:=∃H',Inv X aa σ H' s'/\Q b H'
def AP(X:Cx)(aa:Ψ)(σ:St)(Q:List V->Hp->Prop)(us:List Value)(s':Shared):Prop:=∃vs H',Inv X aa σ H' s'/\Vals vs us/\Q vs H'
def SP(X:Cx)(aa:Ψ)(D:Ends)(f:Flow)(s':Shared):Prop:=
 match f with
 |.next=>∃a H',Inv X aa a H' s'/\D.nx a H'
 |.brk=>∃a H',Inv X aa a H' s'/\D.bk a H'
 |.cont=>∃a H',Inv X aa a H' s'/\D.ct a H'
 |.ret u=>∃v a H',Inv X aa a H' s'/\RelV v u/\D.rt v H'
def PE(X:Cx)(e:Expr)(t:TE):Prop:=
 ∀(aa:Ψ)(s:Shared)(σ:St)(H:Hp)(Q:VK),Inv X aa σ H s->t σ H Q->wpAny (model X.prog X.w) X.A (eval e X.env) (EP X aa σ Q) X.xe s
def PT(X:Cx)(e:Expr)(t:TT):Prop:=
 ∀(aa:Ψ)(s:Shared)(σ:St)(H:Hp)(Q:Bool->Hp->Prop),Inv X aa σ H s->t σ H Q->wpAny (model X.prog X.w) X.A (isTrue e X.env (eval e X.env)) (TP X aa σ Q) X.xe s
def PW(X:Cx)(e:Expr)(t:TT):Prop:=
 ∀(a:Sem Value)(aa:Ψ)(s:Shared)(σ:St)(H:Hp)(Q:Bool->Hp->Prop),Inv X aa σ H s->t σ H Q->wpAny (model X.prog X.w) X.A (isTrue e X.env a) (TP X aa σ Q) X.xe s
def PW.pt{X:Cx}{e:Expr}{t:TT}(h:PW X e t):PT X e t:=h _
def PA(X:Cx)(es:List Expr)(t:TA):Prop:=
 ∀(pos:Pos)(aa:Ψ)(s:Shared)(σ:St)(H:Hp)(Q:List V->Hp->Prop),Inv X aa σ H s->t σ H Q->wpAny (model X.prog X.w) X.A (spliced (backTo pos (starEach es X.env))) (AP X aa σ Q) X.xe s
def PS(X:Cx)(st:Stmt)(t:TS):Prop:=
 ∀(aa:Ψ)(s:Shared)(σ:St)(H:Hp)(D:Ends),Inv X aa σ H s->t D σ H->wpAny (model X.prog X.w) X.A (exec st X.env) (SP X aa D) X.xe s
def PSs(X:Cx)(st:List Stmt)(t:TS):Prop:=
 ∀(aa:Ψ)(s:Shared)(σ:St)(H:Hp)(D:Ends),Inv X aa σ H s->t D σ H->wpAny (model X.prog X.w) X.A (execs st X.env) (SP X aa D) X.xe s
def aT{b:Type}{t:Sem b}{Q c:b->Shared->Prop}{M:Model}{A:Around}{E:Ω}{s:Shared}(h:wpAny M A t Q E s)(d:∀a s,Q a s->c a s):wpAny M A t c E s:=wpAny_mono h d fun _ _ x=>x
section
variable{X:Cx}
def ar(i:Nat):TE:=fun σ H Q=>∃v,σ[i]?=some (some v)/\Q v H
def tC(v:V):TE:=fun _ H Q=>Q v H
def J7{i:Nat}{x:Str}{pos:Pos}(g:X.N[i]?=some x)(hv:B9 X.env.scope x)(hd:(x==("__debug__":Str))=false:=by decide)(j:(x==("__classdict__":Str))=false:=by decide):PE X (.Name x pos) (ar i):=by
 intro aa s σ H Q I h;obtain⟨v,e,h⟩:=h;obtain⟨m,b,d⟩:=I.loc;obtain⟨u,r,l⟩:=d i x v g e hv;have fin:EP X aa σ Q u s:=⟨v,H,I,r,h⟩;rcases l with ⟨hk,f⟩|⟨hk,c,hc,a⟩
 ·exact wpAny_Name (wpAny_loadName_local I.ok.kind hk b f fin) hd
 ·rcases hk with hk|hk
  ·exact wpAny_Name (wpAny_loadName_cell I.ok.kind hk hc a fin) hd
  ·exact wpAny_Name (wpAny_loadName_free I.ok.kind hk hc a fin j) hd
def zd{i j pos}:PE X (.Constant (.int i) j pos) (tC (.int i)):=fun _ _ _ H _ I h=>wpAny_Constant_int ⟨.int i,H,I.tok _,⟨_,rfl⟩,h⟩
def fH{b j pos}:PE X (.Constant (.bool b) j pos) (tC (.bl b)):=fun _ _ _ H _ I h=>Constant_bool ⟨.bl b,H,I,rfl,h⟩
def nH{x j pos}:PE X (.Constant (.str x) j pos) (tC (.str x)):=fun _ _ _ H _ I h=>Calls.Constant_str ⟨.str x,H,I.tok _,⟨_,rfl⟩,h⟩
def Gl(X:Cx)(x:Str):Prop:=X.env.kindOf x=some .globalImplicit
def FX{E:Ω}{aa:Ψ}{s:Shared}{σ:St}{H:Hp}{x:Str}{u:Value}{pos:Pos}{Q:Ω}(I:Inv X aa σ H s)(hg:Gl X x)(a:X.mg x=some u)(h:Q u s)(hd:(x==("__debug__":Str))=false:=by decide):wpAny (model X.prog X.w) X.A (eval (.Name x pos) X.env) Q E s:=
 Calls.Name_function_global I.ok.kind hg (Calls.loadGlobal_global (by rw[I.ok.glob];exact I.mod.glob.keeps I.bk) a h) hd
def ke{E:Ω}{aa:Ψ}{s:Shared}{σ:St}{H:Hp}{x:Str}{u:Value}{pos:Pos}{Q:Ω}(I:Inv X aa σ H s)(hg:Gl X x)(a:X.mg x=none)(hv:A7 x=some u)(h:Q u s)(b:x≠"__name__":=by decide)(hd:(x==("__debug__":Str))=false:=by decide):wpAny (model X.prog X.w) X.A (eval (.Name x pos) X.env) Q E s:=by
 obtain⟨c,h1,h2⟩:=I.mod.blt;exact Calls.Name_function_global I.ok.kind hg (Calls.loadGlobal_builtin (by rw[I.ok.glob];exact I.mod.glob.keeps I.bk) a (by rw[I.ok.blt];exact h1.keeps I.bk) ((h2 x b).trans hv) h) hd
def FY{x:Str}{v:V}{u:Value}{pos:Pos}(hg:Gl X x)(a:X.mg x=some u)(r:RelV v u)(hd:(x==("__debug__":Str))=false:=by decide):PE X (.Name x pos) (tC v):=
 fun _ _ _ H _ I h=>FX I hg a ⟨v,H,I,r,h⟩ hd
def B_{x:Str}{v:V}{u:Value}{pos:Pos}(hg:Gl X x)(a:X.mg x=none)(hv:A7 x=some u)(r:RelV v u)(b:x≠"__name__":=by decide)(hd:(x==("__debug__":Str))=false:=by decide):PE X (.Name x pos) (tC v):=
 fun _ _ _ H _ I h=>ke I hg a hv ⟨v,H,I,r,h⟩ b hd
variable{a b:Expr}{ta tb:TE}{pos:Pos}
def PC(X:Cx)(e:CmpOp)(a b:Expr)(t:TE):Prop:=
 ∀(aa:Ψ)(s:Shared)(σ:St)(H:Hp)(Q:VK),Inv X aa σ H s->t σ H Q->
  wpAny (model X.prog X.w) X.A (eval a X.env) (fun v c=>wpAny (model X.prog X.w) X.A (eval b X.env) (fun u d=>wpAny (model X.prog X.w) X.A (compareOp e v u) (EP X aa σ Q) X.xe d) X.xe c) X.xe s
def im(b:Expr){a:CmpOp}(h:a≠.In)(h2:a≠.NotIn):behindInMarks a b=false:=by
 have e1:(a==CmpOp.In)=false:=by cases a<;>first|rfl|exact absurd rfl h
 have e2:(a==CmpOp.NotIn)=false:=by cases a<;>first|rfl|exact absurd rfl h2
 cases b<;>simp[behindInMarks,e1,e2]
def tB(t:TE):TT:=fun σ H Q=>t σ H fun x H1=>∃c,x=.bl c/\Q c H1
def J8{e:CmpOp}{t:TE}(h:PC X e a b t)(h1:behindInMarks e b=false:=by first|exact im _ ξ ξ|rfl):PT X (.Compare a [e] [b] pos) (tB t):=by
 intro aa s σ H Q I hw;refine wpAny_isTrue_Compare1 (aT (h aa s σ H _ I hw) fun v i h1=>aT h1 fun u j h2=>aT h2 fun c l ⟨x,H1,g,r1,f⟩=>?_) h1;obtain⟨d,rfl,q⟩:=f;cases r1;exact wpAny_truthy_bool ⟨H1,g,q⟩
def fT{e:Expr}{t:TE}(h:PE X e t)(c:∀a,isTrue e X.env a=(do let v <-a;standAt e.pos;holding [v] (truthy v)):=by intro _;rfl):PT X e (tB t):=by
 intro aa s σ H Q I hw;refine isTrue_plain (aT (h aa s σ H _ I hw) fun v g ⟨x,H1,f,r1,b⟩=>?_) (c _);obtain⟨d,rfl,q⟩:=b;cases r1;exact wpAny_truthy_bool ⟨H1,f,q⟩
variable{tA jx:TT}{rest:List Expr}
def rR(t u:TT):TT:=fun σ H Q=>t σ H fun c H1=>if c=true then u σ H1 Q else Q false H1
def J9(t u:TT):TT:=fun σ H Q=>t σ H fun c H1=>if c=true then Q true H1 else u σ H1 Q
def DA(t:TT):TT:=fun σ H Q=>t σ H fun c H1=>Q (!c) H1
def nW(b:PT X a tA):PW X (.BoolOp .And [a] pos) tA:=by
 intro d aa s σ H Q I h;refine isTrue_and (aT (b aa s σ H Q I h) fun c f e=>?_);cases c with
 |true=>exact isTrue_and_nil e
 |false=>exact e
def kh(b:PT X a tA):PW X (.BoolOp .Or [a] pos) tA:=by
 intro d aa s σ H Q I h;refine isTrue_or (aT (b aa s σ H Q I h) fun c f e=>?_);cases c with
 |false=>exact isTrue_or_nil e
 |true=>exact e
def nX(i:PT X a tA)(hb:PW X (.BoolOp .And (b::rest) pos) jx):PW X (.BoolOp .And (a::b::rest) pos) (rR tA jx):=by
 intro f aa s σ H Q I h;refine isTrue_and (aT (i aa s σ H _ I h) fun c g ⟨H1,e,d⟩=>?_);cases c with
 |true=>exact hb f aa g σ H1 Q e d
 |false=>exact⟨H1,e,d⟩
def gb(i:PT X a tA)(hb:PW X (.BoolOp .Or (b::rest) pos) jx):PW X (.BoolOp .Or (a::b::rest) pos) (J9 tA jx):=by
 intro f aa s σ H Q I h;refine isTrue_or (aT (i aa s σ H _ I h) fun c g ⟨H1,e,d⟩=>?_);cases c with
 |true=>exact⟨H1,e,d⟩
 |false=>exact hb f aa g σ H1 Q e d
def gX(b:PT X a tA):PT X (.UnaryOp .Not a pos) (DA tA):=by
 intro aa s σ H Q I h;exact isTrue_not (b aa s σ H (fun c H1=>Q (!c) H1) I h)
def J_(ta tb:TE):TE:=fun σ H Q=>ta σ H fun x H1=>∃c,x=.bl c/\if c=true then tb σ H1 Q else Q (.bl false) H1
def DB(ta tb:TE):TE:=fun σ H Q=>ta σ H fun x H1=>∃c,x=.bl c/\if c=true then Q (.bl true) H1 else tb σ H1 Q
def J'(ta:TE):TE:=fun σ H Q=>ta σ H fun x H1=>∃c,x=.bl c/\Q (.bl (!c)) H1
def rY{op}{t:TE}(h:PE X a t):PE X (.BoolOp op [a] pos) t:=fun aa s σ H Q I hw=>BoolOp_one (h aa s σ H Q I hw)
def B'(g:PE X a ta)(hb:PE X (.BoolOp .And (b::rest) pos) tb):PE X (.BoolOp .And (a::b::rest) pos) (J_ ta tb):=by
 intro aa s σ H Q I h;refine BoolOp_and (aT (g aa s σ H _ I h) fun v f ⟨x,H1,e,r1,d⟩=>?_);obtain⟨c,rfl,d⟩:=d;cases r1;refine wpAny_truthy_bool ?_;cases c with
 |true=>exact hb aa f σ H1 Q e d
 |false=>exact⟨.bl false,H1,e,rfl,d⟩
def Ka(g:PE X a ta)(hb:PE X (.BoolOp .Or (b::rest) pos) tb):PE X (.BoolOp .Or (a::b::rest) pos) (DB ta tb):=by
 intro aa s σ H Q I h;refine BoolOp_or (aT (g aa s σ H _ I h) fun v f ⟨x,H1,e,r1,d⟩=>?_);obtain⟨c,rfl,d⟩:=d;cases r1;refine wpAny_truthy_bool ?_;cases c with
 |false=>exact hb aa f σ H1 Q e d
 |true=>exact⟨.bl true,H1,e,rfl,d⟩
def FZ(d:PE X a ta):PE X (.UnaryOp .Not a pos) (J' ta):=by
 intro aa s σ H Q I h;refine UnaryOp_ (aT (d aa s σ H _ I h) fun v f ⟨x,H1,e,r1,b⟩=>?_);obtain⟨c,rfl,b⟩:=b;cases r1;exact not_of (wpAny_truthy_bool ⟨.bl (!c),H1,e,rfl,b⟩)
def Kb(t:TT)(ta tb:TE):TE:=fun σ H Q=>t σ H fun c H1=>if c=true then ta σ H1 Q else tb σ H1 Q
def lj{c:Expr}(hc:PT X c tA)(i:PE X a ta)(hb:PE X b tb):PE X (.IfExp c a b pos) (Kb tA ta tb):=by
 intro aa s σ H Q I h;refine wpAny_IfExp (aT (hc aa s σ H _ I h) fun d e ⟨H1,g,f⟩=>?_);cases d with
 |true=>exact i aa e σ H1 Q g f
 |false=>exact hb aa e σ H1 Q g f
end
def SqL(K:Ag)(H:Hp)(a:Addr)(xs:List V):Prop:=
 Rd H a (.lst xs) \/
  ∃(o:Obj)(ad:Array Value)(n:Nat),K.lookup a=some o/\o.cls=.type "list"/\o.dict=none/\o.data=.seq ad n/\ad.size<=sizeLine/\Vals xs ad.toList
def SqT(K:Ag)(H:Hp)(a:Addr)(xs:List V):Prop:=
 Rd H a (.tup xs) \/
  ∃(o:Obj)(ad:Array Value)(n:Nat),K.lookup a=some o/\o.cls=.type "tuple"/\o.data=.seq ad n/\ad.size<=sizeLine/\Vals xs ad.toList
def DC:Value->Option V
 |.none=>some .non
 |.bool b=>some (.bl b)
 |.int i _=>some (.int i)
 |.str x _=>some (.str x)
 |.bytes b _=>some (.byt b)
 |.float b _=>some (.flt b)
 |.ref a=>some (.ref a)
 |.type n=>some (.ty n)
 |_=>none
def RelV.abs{x:V}{u:Value}(r:RelV x u):DC u=some x:=by
 cases x with
 |non=>cases r;rfl
 |bl _=>cases r;rfl
 |int _=>obtain⟨t,rfl⟩:=r;rfl
 |str _=>obtain⟨t,rfl⟩:=r;rfl
 |byt _=>obtain⟨t,rfl⟩:=r;rfl
 |flt _=>obtain⟨t,rfl⟩:=r;rfl
 |ref _=>cases r;rfl
 |ty _=>cases r;rfl
def RelV.inj{x y:V}{u:Value}(r:RelV x u)(q:RelV y u):x=y:=AV (r.abs.symm.trans q.abs)
def Vals.inj{xs ys:List V}{us:List Value}(h:Vals xs us)(g:Vals ys us):xs=ys:=by
 induction h generalizing ys with
 |nil=>cases g;rfl
 |cons r t ih=>cases g with|cons r' t'=>rw[r.inj r',ih t']
section
variable{X:Cx}{aa:Ψ}{σ:St}{H:Hp}{s:Shared}{a:Addr}{xs ys:List V}
def SqL.of{K:Ag}(h:H a=some (.lst xs)):SqL K H a xs:=.inl (.inl h)
def SqT.of{K:Ag}(h:H a=some (.tup xs)):SqT K H a xs:=.inl (.inl h)
def Inv.list(I:Inv X aa σ H s)(h:SqL X.K H a xs):∃ad:List Value,Vals xs ad/\PlainL s.heap a ad.toArray/\xs.length<=sizeLine:=by
 rcases h with h|⟨o,ad,n,hk,hc,hd,b,hz,r⟩
 ·obtain⟨z,ad,n,r,e⟩:=h.ok I.hok
  exact⟨ad,r,⟨_,n,e,rfl,rfl,rfl⟩,z⟩
 ·refine⟨ad.toList,r,⟨o,n,I.kIn a o hk,hc,hd,by simpa using b⟩,?_⟩
  have e:=r.length;simp only[Array.length_toList] at e;(first|lia|omega)
def Inv.tuple(I:Inv X aa σ H s)(h:SqT X.K H a xs):∃ad:List Value,Vals xs ad/\IsTup s.heap a ad.toArray/\xs.length<=sizeLine:=by
 rcases h with h|⟨o,ad,n,hk,hc,b,hz,r⟩
 ·obtain⟨z,ad,r,p⟩:=h.ok I.hok
  exact⟨ad,r,p,z⟩
 ·refine⟨ad.toList,r,⟨o,I.kIn a o hk,hc,n,by simpa using b⟩,?_⟩
  have e:=r.length;simp only[Array.length_toList] at e;(first|lia|omega)
def Inv.list_inj(I:Inv X aa σ H s)(h:SqL X.K H a xs)(h':SqL X.K H a ys):xs=ys:=by
 obtain⟨ad,r,⟨o,n,e,_,_,d⟩,_⟩:=I.list h;obtain⟨its',c,⟨o',f,b,_,_,d'⟩,_⟩:=I.list h';rw[e] at b;cases b;rw[d] at d';injection d' with d1 _
 have:ad=its':=by simpa using congrArg Array.toList d1
 subst this;exact r.inj c
def Inv.tuple_inj(I:Inv X aa σ H s)(h:SqT X.K H a xs)(h':SqT X.K H a ys):xs=ys:=by
 obtain⟨ad,r,⟨o,e,_,n,d⟩,_⟩:=I.tuple h;obtain⟨its',c,⟨o',b,_,f,d'⟩,_⟩:=I.tuple h';rw[e] at b;cases b;rw[d] at d';injection d' with d1 _
 have:ad=its':=by simpa using congrArg Array.toList d1
 subst this;exact r.inj c
end
abbrev Cx.wish(X:Cx)(E:Ω):Cx:={X with xe:=E}
abbrev Cx.nox(X:Cx):Cx:=X.wish fun _ _=>False
def Cx.Ok.wish{X:Cx}(ok:X.Ok)(E:Ω):(X.wish E).Ok:=
 ⟨ok.mod,ok.kind,ok.glob,ok.blt,ok.above,ok.inj,ok.has,ok.cab,ok.hd,ok.frames,ok.stk,ok.exf,ok.bs,ok.bsz,ok.noex,ok.exfs,ok.funs,ok.frf⟩
def Cx.Ok.unwish{X:Cx}{E:Ω}(ok:(X.wish E).Ok):X.Ok:=
 ⟨ok.mod,ok.kind,ok.glob,ok.blt,ok.above,ok.inj,ok.has,ok.cab,ok.hd,ok.frames,ok.stk,ok.exf,ok.bs,ok.bsz,ok.noex,ok.exfs,ok.funs,ok.frf⟩
section
variable{X:Cx}{aa:Ψ}{σ:St}{H:Hp}{s:Shared}{E:Ω}
def Inv.wish(I:Inv X aa σ H s)(E:Ω):Inv (X.wish E) aa σ H s:=⟨I.ok.wish E,I.os,I.bare,I.base,I.loc,I.cell,I.free,I.freeC,I.pin,I.hok,I.len⟩
def Inv.unwish(I:Inv (X.wish E) aa σ H s):Inv X aa σ H s:=⟨I.ok.unwish,I.os,I.bare,I.base,I.loc,I.cell,I.free,I.freeC,I.pin,I.hok,I.len⟩
def SP.unwish{D:Ends}{f:Flow}{s':Shared}(h:SP (X.wish E) aa D f s'):SP X aa D f s':=by
 cases f with
 |next=>obtain⟨a,H',I,q⟩:=h;exact⟨a,H',I.unwish,q⟩
 |brk=>obtain⟨a,H',I,q⟩:=h;exact⟨a,H',I.unwish,q⟩
 |cont=>obtain⟨a,H',I,q⟩:=h;exact⟨a,H',I.unwish,q⟩
 |ret u=>obtain⟨v,a,H',I,r,q⟩:=h;exact⟨v,a,H',I.unwish,r,q⟩
def PSs.nox{st:List Stmt}{t:TS}(h:PSs X.nox st t):PSs X st t:=fun aa s σ H D I hw=>
 wpAny_mono (h aa s σ H D (I.wish _) hw) (fun _ _ q=>q.unwish) fun _ _ z=>False.elim z
end
section
variable{X:Cx}{st:Stmt}{rest:List Stmt}{t u:TS}{e:Expr}{te:TE}{pos:Pos}
def Kc:TS:=fun D σ H=>D.nx σ H
def sj(t u:TS):TS:=fun D σ H=>t {D with nx:=u D} σ H
def zI:PSs X [] Kc:=fun _ _ σ H _ I h=>wpAny_execs_nil ⟨σ,H,I,h⟩
def zc(h1:PS X st t)(h2:PSs X rest u):PSs X (st::rest) (sj t u):=by
 intro aa s σ H D I h;refine wpAny_execs_cons (aT (h1 aa s σ H {D with nx:=u D} I h) fun f a q=>?_);cases f with
 |next=>
  obtain⟨b,H',c,q⟩:=q;exact h2 aa a b H' D c q
 |ret v=>exact q
 |brk=>exact q
 |cont=>exact q
def zh(h1:PS X st t):PSs X [st] t:=by
 intro aa s σ H D I h;refine wpAny_execs_cons (aT (h1 aa s σ H D I h) fun f a q=>?_);cases f with
 |next=>exact wpAny_execs_nil q
 |ret v=>exact q
 |brk=>exact q
 |cont=>exact q
def Inv.quiet{aa:Ψ}{σ:St}{H:Hp}{s:Shared}(I:Inv X aa σ H s):interactive X.env=false:=by simp[interactive,I.ok.kind]
def Kd(te:TE):TS:=fun D σ H=>te σ H fun _ H1=>D.nx σ H1
def lA(b:PE X e te)(c:swapsWith e none pos.line X.env=pure false:=by rfl):PS X (.Expr e pos) (Kd te):=by
 intro aa s σ H D I h;exact wpAny_Expr_any (aT (b aa s σ H _ I h) fun v f ⟨x,H1,d,r1,a⟩=>⟨σ,H1,d,a⟩) I.quiet c
def DD(te:TE):TS:=fun D σ H=>te σ H D.rt
def zq(b:PE X e te):PS X (.Return (some e) pos) (DD te):=by
 intro aa s σ H D I h;exact wpAny_Return_some (aT (b aa s σ H _ I h) fun v d ⟨x,H1,c,r1,a⟩=>⟨x,σ,H1,c,r1,a⟩)
def DE(c:TT)(t u:TS):TS:=fun D σ H=>c σ H fun b H1=>if b=true then t D σ H1 else u D σ H1
def cv{c:Expr}{a b:List Stmt}{tc:TT}(hc:PT X c tc)(i:PSs X a t)(hb:PSs X b u):PS X (.If c a b pos) (DE tc t u):=by
 intro aa s σ H D I h;refine wpAny_If (aT (hc aa s σ H _ I h) fun d e ⟨H1,g,f⟩=>?_);cases d with
 |true=>exact i aa e σ H1 D g f
 |false=>exact hb aa e σ H1 D g f
def Ke:TS:=fun _ _ _=>False
def DF{a:List Stmt}:PSs X a Ke:=fun _ _ _ _ _ _ h=>h.elim
end
abbrev TG:=V->St->Hp->(St->Hp->Prop)->Prop
abbrev lH:=List V->St->Hp->(St->Hp->Prop)->Prop
def PG(X:Cx)(b:Expr)(t:TG):Prop:=
 ∀(aa:Ψ)(s:Shared)(σ:St)(H:Hp)(v:V)(u:Value)(Q:St->Hp->Prop),Inv X aa σ H s->RelV v u->t v σ H Q->
  wpAny (model X.prog X.w) X.A (assign b X.env u) (fun _ s'=>∃a H',Inv X aa a H' s'/\Q a H') X.xe s
def Ca(X:Cx)(b:List Expr)(t:lH):Prop:=
 ∀(aa:Ψ)(s:Shared)(σ:St)(H:Hp)(vs:List V)(us:List Value)(Q:St->Hp->Prop),Inv X aa σ H s->Vals vs us->t vs σ H Q->
  wpAny (model X.prog X.w) X.A (assignInOrder ((assignEach b X.env).map (·.2)) us) (fun _ s'=>∃a H',Inv X aa a H' s'/\Q a H') X.xe s
abbrev lJ:=V->V->V->Hp->(Hp->Prop)->Prop
def sG(X:Cx)(t:lJ):Prop:=
 ∀(aa:Ψ)(s:Shared)(σ:St)(H:Hp)(o i v:V)(a b u:Value)(Q:Hp->Prop),Inv X aa σ H s->RelV o a->RelV i b->RelV v u->t o i v H Q->
  wpAny (model X.prog X.w) X.A (setItem a b u) (fun _ s'=>∃H',Inv X aa σ H' s'/\Q H') X.xe s
section
variable{X:Cx}{pos:Pos}
def zQ(i:Nat):TG:=fun v σ H Q=>Q (σ.set i (some v)) H
def zm{i:Nat}{x:Str}(a:X.N.Nodup)(hi:X.N[i]?=some x)(hx:Loc X.env.scope x)(b:X.fn x=true\/X.env.scope.names.lookup x=some .local:=by first|exact .inl rfl|exact .inr rfl|assumption):PG X (.Name x pos) (zQ i):=by
 intro aa s σ H v u Q I r h;exact wpAny_assign_Name (FW I a hi hx r (fun s' c=>⟨_,H,c,h⟩) b)
def bR:lH:=fun vs σ H Q=>vs=[]/\Q σ H
def ci(t:TG)(u:lH):lH:=fun vs σ H Q=>∃v r,vs=v::r/\t v σ H fun a H'=>u r a H' Q
def gg:Ca X [] bR:=by
 intro aa s σ H vs us Q I r h;obtain⟨e,h⟩:=h;subst e;cases r;exact assignInOrder_nil ⟨σ,H,I,h⟩
def zE{e:Expr}{es:List Expr}{t:TG}{u:lH}(h1:PG X e t)(h2:Ca X es u)(d:(assignEach (e::es) X.env).map (·.2)=assign e X.env::(assignEach es X.env).map (·.2):=by rfl):Ca X (e::es) (ci t u):=by
 intro aa s σ H vs us Q I r h;obtain⟨v,g,e1,h⟩:=h;subst e1;cases r with
 |cons r rr=>
  rw[d];refine assignInOrder_cons (aT (h1 aa s σ H _ _ _ I r h) fun _ a ⟨b,H1,f,c⟩=>?_);exact h2 aa a b H1 _ _ Q f rr c
def bT(K:Ag)(n:Nat)(t:lH):TG:=fun v σ H Q=>∃a xs,v=.ref a/\SqT K H a xs/\xs.length=n/\t xs σ H Q
def gi{es:List Expr}{k:Nat}{t:lH}{n:Nat}(hc:X.calm=true)(h:Ca X es t)(g:(assignEach es X.env).length=n:=by rfl)(i:(assignEach es X.env).findIdx? (·.1)=none:=by rfl):PG X (.Tuple es k pos) (bT X.K n t):=by
 intro aa s σ H v u Q I r hw;obtain⟨a,xs,e1,hq,d,hw⟩:=hw;subst e1;cases r;obtain⟨ad,c,f,hz⟩:=I.tuple hq;refine assign_Tuple_tuple (I.ok.hd hc) f (by simp[g,<-d,c.length]) i fun h' hx=>?_;have j:Inv X aa σ H {s with heap:=h'}:=I.kept (t':=s.toks) fun b o e=>hx b o (AA (Ar e)) e;exact h aa _ σ H xs _ Q j (by simpa using c) hw
def DG(to a:TE)(t:lJ):TG:=fun v σ H Q=>to σ H fun o H1=>a σ H1 fun i H2=>t o i v H2 fun b=>Q σ b
def iX{o i:Expr}{to c:TE}{t:lJ}(l:PE X o to)(hi:PE X i c)(p:sG X t)(q:∀v,assign (.Subscript o i pos) X.env v=(do
   let a <-holding [v] (eval o X.env)
   let b <-holding [v,a] (eval i X.env)
   standAt pos
   holding [v,a,b] (setItem a b v)
   release [v,a,b] []):=by intro _;rfl):PG X (.Subscript o i pos) (DG to c t):=by
 intro aa s σ H v u Q I r h;rw[q];refine Af (wpAny_holding (aT (l aa s σ H _ I h) fun a d ⟨x,H1,w,r1,e⟩=>?_));refine Af (wpAny_holding (aT (hi aa d σ H1 _ w e) fun b f ⟨y,H2,z,r2,g⟩=>?_));refine Af (wpAny_standAt (Af (wpAny_holding (aT (p aa f σ H2 x y v a b u _ z r1 r2 r g) fun _ D ⟨A,C,j⟩=>?_))));exact wpAny_release ⟨σ,A,C,j⟩
def io(te:TE)(g:TG):TS:=fun D σ H=>te σ H fun x H1=>g x σ H1 D.nx
def iv{tg e:Expr}{te:TE}{g:TG}(c:PE X e te)(hg:PG X tg g)(d:swapsWithSole [tg] e pos.line X.env=pure false:=by rfl)(hw:swappedStores [tg] e X.env=pure none:=by rfl)(h1:(assignEach [tg] X.env).map (·.2)=[assign tg X.env]:=by rfl):PS X (.Assign [tg] e pos) (io te g):=by
 intro aa s σ H D I h;refine wpAny_Assign_stores (aT (c aa s σ H _ I h) fun v a ⟨x,H1,f,r1,b⟩=>?_) d hw;rw[h1];exact aT (hg aa a σ H1 x v _ f r1 b) fun _ i q=>q
def zp{i:Nat}{x:Str}{e:Expr}{te:TE}{az:Pos}(b:X.N.Nodup)(hi:X.N[i]?=some x)(hx:Loc X.env.scope x)(c:PE X e te)(d:swapsWith e (some (.Name x az)) pos.line X.env=pure false:=by rfl)(f:X.fn x=true\/X.env.scope.names.lookup x=some .local:=by first|exact .inl rfl|exact .inr rfl|assumption):PS X (.Assign [.Name x az] e pos) (io te (zQ i)):=by
 intro aa s σ H D I h;refine wpAny_Assign_Name (aT (c aa s σ H _ I h) fun v l ⟨y,H1,g,r1,a⟩=>?_) d;exact FW g b hi hx r1 (fun o j=>⟨_,H1,j,a⟩) f
def Kf(c:TT)(tb:TS):TS:=fun D σ H=>∃W:Nat->St->Hp->Prop,(∃m,W m σ H)/\∀m σ H,W m σ H->
 c σ H fun b H1=>if b=true then ∃N:St->Hp->Prop,(∀a H',N a H'->∃d,d<m/\W d a H')/\tb {D with nx:=N,ct:=N,bk:=D.nx} σ H1 else D.nx σ H1
def Cb{c:Expr}{x:List Stmt}{tc:TT}{tb:TS}(hp:PassesOwn (model X.prog X.w) X.A X.env X.xe)(hc:PT X c tc)(hb:PSs X x tb):PS X (.While c x [] pos) (Kf tc tb):=by
 intro aa s σ H D I h;obtain⟨W,⟨C,E⟩,turn⟩:=h;refine wpAny_While (codeAny_whileLoop (fun n s'=>∃r H',Inv X aa r H' s'/\W n r H') ?_ C ⟨σ,H,I,E⟩);rintro n F ⟨i,H1,G,w1⟩;refine wpAny_passesOwn hp (aT (hc aa F i H1 _ G (turn n i H1 w1)) fun b z ⟨H2,y,e⟩=>?_);cases b with
 |true=>
  obtain⟨N,u,e⟩:=e;rw[if_pos rfl];refine wpAny_passesOwn hp (aT (hb aa z i H2 _ y e) fun f J g=>?_);cases f with
  |next=>
   obtain⟨a,d,q,j⟩:=g;obtain⟨l,o,p⟩:=u a d j;exact⟨l,o,a,d,q,p⟩
  |cont=>
   obtain⟨a,d,q,j⟩:=g;obtain⟨l,o,p⟩:=u a d j;exact⟨l,o,a,d,q,p⟩
  |brk=>exact g
  |ret v=>exact g
 |false=>
  rw[if_neg AF];exact wpAny_execs_nil ⟨i,H2,y,e⟩
end
structure It where
 go:Nat->Hp->Prop
 yld:Nat->Hp->V->Hp->Prop
 stop:Nat->Hp->Prop
def cx(X:Cx)(aa:Ψ)(H:Hp)(b:Addr):Prop:=
 H b=none/\b≠X.env.locals/\b∉X.fs/\(b∈X.ex\/X.s₀⁻¹<=b)/\(∀x c,X.env.cells.lookup x=some c->c≠b)/\∀p∈X.pn++aa,p.1≠b
def Inv.fpOk{X:Cx}{aa:Ψ}{σ:St}{H H':Hp}{s:Shared}{b:Addr}(I:Inv X aa σ H s)(hb:s⁻¹<=b)(a:H' b=none):cx X aa H' b:=by
 refine⟨a,Nat.ne_of_gt (Az I.lt hb),I.nofs hb,.inr (Ae I.sz hb),fun x c e z=>?_,fun p hp z=>?_⟩
 ·obtain⟨v,q⟩:=I.cell x c e
  exact absurd (Az q.lt (by rw[z];exact hb)) (Nat.lt_irrefl _)
 ·exact absurd (Az (Ar (I.pin p hp).1) (by rw[z];exact hb)) (Nat.lt_irrefl _)
structure Turn(P:Program)(w:World)(K:Ag)(tg:Expr)(J:It)(fp:List Addr)(it:Addr)(tn:Nat->Heap->Prop):Prop where
 mem:it∈fp
 obj:∀i h,tn i h->∀b∈fp,∃o,h.get? b=some o/\∀v,o.data≠.cell v
 keep:∀i h h',tn i h->(∀b∈fp,∀o,h.get? b=some o->h'.get? b=some o)->tn i h'
 item:∀(X:Cx),X.prog=P->X.w=w->X.K=K->X.calm=true->∀(i:Nat)(aa:Ψ)(s:Shared)(σ:St)(H:Hp)(E:Ω),Inv X aa σ H s->(∀b∈fp,cx X aa H b)->tn i s.heap->J.go i H->
  wpAny (model P w) X.A (pyNext (.ref it)) (fun r s1=>∃u,r=some u/\
   wpAny (model P w) X.A (letOwnedTupleGo tg (.ref it) u) (fun _ s2=>∃x H',Inv X aa σ H' s2/\RelV x u/\J.yld i H x H'/\tn (i+1) s2.heap/\∀b∈fp,H' b=none) E s1) E s
 done:∀(X:Cx),X.prog=P->X.w=w->X.K=K->X.calm=true->∀(i:Nat)(aa:Ψ)(s:Shared)(σ:St)(H:Hp)(E:Ω),Inv X aa σ H s->(∀b∈fp,cx X aa H b)->tn i s.heap->J.stop i H->
  wpAny (model P w) X.A (pyNext (.ref it)) (fun r s1=>r=none/\Inv X aa σ H s1) E s
 self:∀(A:Around)(i:Nat)(s:Shared)(Q:Ω)(E:Ω),tn i s.heap->Q (.ref it) s->wpAny (model P w) A (pyIter (.ref it)) Q E s
abbrev TI:=St->Hp->(It->Hp->Prop)->Prop
def DH(X:Cx)(aa:Ψ)(σ:St)(tg:Expr)(R:It->Hp->Prop)(d:Value)(c:Shared):Prop:=
 ∃(it:Addr)(a:List Addr)(tn:Nat->Heap->Prop)(J:It)(H':Hp),d=.ref it/\Inv X aa σ H' c/\Turn X.prog X.w X.K tg J a it tn/\tn 0 c.heap/\(∀b∈a,cx X aa H' b)/\R J H'
def PI(X:Cx)(tg iter:Expr)(wi:TI):Prop:=
 ∀(aa:Ψ)(s:Shared)(σ:St)(H:Hp)(R:It->Hp->Prop),Inv X aa σ H s->wi σ H R->
  wpAny (model X.prog X.w) X.A (eval iter X.env) (fun v a=>wpAny (model X.prog X.w) X.A (pyIter v) (DH X aa σ tg R) X.xe a) X.xe s
def DI{M:Model}{A:Around}{E:Ω}{s:Shared}{tg:Expr}{it:Addr}{u:Value}{o:Obj}{n:String}{vs:Array Value}{Q:Unit->Shared->Prop}(b:s.heap.get? it=some o)(hc:o.cls=.type n)(hd:o.data=.fields vs)(c:["enumerate","zip","dict_itemiterator","dict_reverseitemiterator","odict_iterator","itertools.zip_longest","itertools.pairwise"].contains n=false)(a:Q () s):wpAny M A (letOwnedTupleGo tg (.ref it) u) Q E s:=by
 unfold letOwnedTupleGo;cases tg<;>first
  |exact Am a
  |(cases u<;>first
    |exact Am a
    |(refine Af (wpAny_load b ?_);rw[hc,hd];show wpAny M A (if(["enumerate","zip","dict_itemiterator","dict_reverseitemiterator","odict_iterator","itertools.zip_longest","itertools.pairwise"].contains n&&vs[0]?==some (rawInt _))=true then _ else _) Q E s;rw[if_neg (by intro h;rw[c,Bool.false_and] at h;cases h)];exact Am a))
def gt(K:Ag)(a:Addr):It:=
 ⟨fun i H=>∃xs x,SqL K H a xs/\xs[i]?=some x,fun i H x H'=>H'=H/\∀xs,SqL K H a xs->xs[i]?=some x,fun i H=>∃xs,SqL K H a xs/\xs.length<=i⟩
def iY(lo:Int)(n:Nat):It:=⟨fun i _=>i<n,fun i H x H'=>H'=H/\x=.int (lo+i),fun i _=>n<=i⟩
def sR{P:Program}{w:World}{K:Ag}{tg:Expr}(a it:Addr):Turn P w K tg (gt K a) [it] it (fun i h=>h.IsListIter it a i) where
 mem:=by simp
 obj:=fun i h st b hb=>by
  have e:b=it:=by simpa using hb
  subst e;obtain⟨o,e,c,d⟩:=st;exact⟨o,e,fun v z=>by rw[d] at z;cases z⟩
 keep:=fun i h h' st k=>st.at fun o e=>k it (by simp) o e
 item:=by
  intro X g hw j hc i aa s σ H E I f st hg;subst g hw j;obtain⟨xs,x,hq,hx⟩:=hg;obtain⟨ad,l,p,hz⟩:=I.list hq;obtain⟨u,G,J⟩:=l.get hx;obtain⟨q,f1,f2,r,y,A⟩:=f it (by simp);refine wpAny_pyNext_list_item st p.isList (x:=u) (by simpa using G) fun h' C D=>?_;have L:Inv X aa σ H {s with heap:=h'}:=I.turned (t':=s.toks) (fun b o hb e=>(D.2 b hb).trans e) q f1 r y A;obtain⟨o,e,c,d⟩:=id C;exact⟨u,rfl,DI (s:={s with heap:=h'}) e c d ξ ⟨x,H,L,J,⟨rfl,fun ys hy=>by rw[I.list_inj hy hq];exact hx⟩,C,fun b hb=>(f b hb).1⟩⟩
 done:=by
  intro X g hw j hc i aa s σ H E I f st hg;subst g hw j;obtain⟨xs,hq,hx⟩:=hg;obtain⟨ad,l,p,hz⟩:=I.list hq;obtain⟨q,f1,f2,r,y,A⟩:=f it (by simp);have M:=l.length;exact wpAny_pyNext_list_end (I.ok.hd hc) st p.isList (by simp;(first|lia|omega)) fun h' F=>⟨rfl,I.turned (t':=s.toks) (fun b o hb e=>F b o hb e) q f1 r y A⟩
 self:=fun _ _ _ _ _ st h=>wpAny_pyIter_listiter st h
def Kg{P:Program}{w:World}{K:Ag}{tg:Expr}(it:Addr)(lo:Int)(n:Nat):Turn P w K tg (iY lo n) [it] it (fun i h=>IsRangeIter h it (lo+(i:Nat)*1) ((n:Int)-(i:Nat)) 1) where
 mem:=by simp
 obj:=fun i h st b hb=>by
  have e:b=it:=by simpa using hb
  subst e;exact⟨_,st,fun v z=>by
   have u:Data.fields _=Data.cell v:=z;cases u⟩
 keep:=fun i h h' st k=>k it (by simp) _ st
 item:=by
  intro X c hw d hc i aa s σ H E I a st hg;subst c hw d;obtain⟨f,f1,f2,g,j,l⟩:=a it (by simp);have W:=Walks.range (prog:=X.prog) (w:=X.w) (I.ok.hd hc) it lo 1 n;refine W.item i s _ _ hg st fun v h' tk hv p q=>?_;obtain⟨t,rfl⟩:=hv;have x:Inv X aa σ H {s with heap:=h',toks:=tk}:=I.turned (fun b o hb e=>q b o (by simpa using hb) e) f f1 g j l;refine⟨_,rfl,DI (s:={s with heap:=h',toks:=tk}) (n:="range_iterator") p rfl rfl ξ ⟨.int (lo+i),H,x,⟨t,?_⟩,⟨rfl,rfl⟩,p,fun b hb=>(a b hb).1⟩⟩;rw[Int.mul_one]
 done:=by
  intro X c hw d hc i aa s σ H E I a st hg;subst c hw d;obtain⟨f,f1,f2,g,j,l⟩:=a it (by simp);exact wpAny_pyNext_range_end (I.ok.hd hc) st (by have:n<=i:=hg;(first|lia|omega)) fun h' r=>⟨rfl,I.turned (t':=s.toks) (fun b o hb e=>r b o hb e) f f1 g j l⟩
 self:=fun _ _ _ _ _ st h=>wpAny_pyIter_rangeiter st h
section
variable{X:Cx}{tg:Expr}
def Kh(K:Ag)(tl:TE):TI:=fun σ H R=>tl σ H fun x H1=>∃a,x=.ref a/\(∃xs,SqL K H1 a xs)/\R (gt K a) H1
def zO{l:Expr}{tl:TE}(f:PE X l tl):PI X tg l (Kh X.K tl):=by
 intro aa s σ H R I h;refine aT (f aa s σ H _ I h) fun v c ⟨x,H1,I1,r1,d⟩=>?_;obtain⟨a,e,⟨xs,hq⟩,q⟩:=d;subst e;cases r1;obtain⟨ad,g,p,hz⟩:=I1.list hq;refine wpAny_pyIter_list p.isList ?_;refine⟨c⁻¹,[c⁻¹],_,_,H1,rfl,I1.kept (t':=c.toks) fun b o e=>Ai _ e,sR a _,⟨_,AL _ rfl,rfl,rfl⟩,fun b hb=>?_,q⟩;have e:b=c⁻¹:=by simpa using hb
 subst e;exact I1.fpOk (Ad _) (I1.hok.fresh (Ad _))
def Ki{aa:Ψ}{σ:St}{H:Hp}{s:Shared}{R:It->Hp->Prop}{E:Ω}{lo hi:Int}{t u v:Tok}{tk:Nat}(I:Inv X aa σ H s)(h1:-(2 ^ 62)<=lo)(h2:lo<2 ^ 62)(a:-(2 ^ 62)<=hi)(c:hi<2 ^ 62)(q:R (iY lo (hi-lo).toNat) H):wpAny (model X.prog X.w) X.A (pyIter (.ref s⁻¹)) (DH X aa σ tg R) E {s with heap:=s.heap.push {cls:=.type "range",data:=.fields #[.int lo t,.int hi u,.int 1 v]},toks:=tk}:=by
 refine wpAny_pyIter_range (IsRange.new ..) (small_one h1 h2 a c) ?_;have I1:Inv X aa σ H {s with heap:=s.heap.push {cls:=.type "range",data:=.fields #[.int lo t,.int hi u,.int 1 v]},toks:=tk}:=I.kept fun b o e=>Ai _ e;refine⟨(s.heap.push {cls:=.type "range",data:=.fields #[.int lo t,.int hi u,.int 1 v]}).objs.size,[(s.heap.push {cls:=.type "range",data:=.fields #[.int lo t,.int hi u,.int 1 v]}).objs.size],_,_,H,rfl,
  I1.kept (t':=tk) fun b o e=>Ai _ e,Kg _ lo (hi-lo).toNat,?_,fun b hb=>?_,q⟩
 ·have e1:lo+((0:Nat):Int)*1=lo:=by simp
  have e2:(((hi-lo).toNat:Nat):Int)-((0:Nat):Int)=Builtin.Range.rangeSize lo hi 1:=by rw[rangeSize_one];split<;>(first|lia|omega)
  show IsRangeIter _ _ (lo+((0:Nat):Int)*1) ((((hi-lo).toNat:Nat):Int)-((0:Nat):Int)) 1;rw[e1,e2];exact AL _ rfl
 ·have e:b=(s.heap.push {cls:=.type "range",data:=.fields #[.int lo t,.int hi u,.int 1 v]}).objs.size:=by simpa using hb
  subst e;exact I1.fpOk (Ad _) (I1.hok.fresh (Ad _))
def F0(ta:TA):TI:=fun σ H R=>ta σ H fun vs H1=>∃j:Int,vs=[.int j]/\-(2 ^ 62)<=j/\j<2 ^ 62/\R (iY 0 j.toNat) H1
def jc{a:Expr}{ta:TA}{p pos:Pos}(hg:Gl X "range")(d:X.mg "range"=none)(f:PA X [a] ta)(g:starEach [a] X.env=[(false,eval a X.env)]:=by rfl):PI X tg (.Call (.Name "range" p) [a] [] pos) (F0 ta):=by
 intro aa s σ H R I h;refine Call_ (ke I hg d boot_range (PyProof.Rows.callWith_type1 (aT (f pos aa s σ H _ I h) fun us l ⟨vs,H1,i,r1,b⟩=>?_) g rfl));obtain⟨j,e,b,c,q⟩:=b;subst e;cases r1 with
 |cons r rr=>
  cases rr;obtain⟨t,rfl⟩:=r;exact call_range_1 (Ki i ω ω b c (by simpa using q))
def DJ(wi:TI)(g:TG)(tb:TS):TS:=fun D σ H=>wi σ H fun J H1=>∃W:Nat->Nat->St->Hp->Prop,(∃m,W 0 m σ H1)/\∀i m σ H,W i m σ H->
 (J.stop i H/\D.nx σ H)\/(J.go i H/\∃N:St->Hp->Prop,(∀a H',N a H'->∃b,b<m/\W (i+1) b a H')/\∀x H',J.yld i H x H'->g x σ H' fun c H2=>tb {D with nx:=N,ct:=N,bk:=D.nx} c H2)
def sU(a:List Addr)(h:Heap):Ψ:=a.filterMap fun b=>(h.get? b).map fun o=>(b,o)
def Cc{a:List Addr}{h:Heap}{b:Addr}{o:Obj}(hb:b∈a)(e:h.get? b=some o):(b,o)∈sU a h:=List.mem_filterMap.mpr ⟨b,hb,by rw[e];rfl⟩
def Kj{a:List Addr}{h:Heap}{p:Addr×Obj}(hp:p∈sU a h):p.1∈a/\h.get? p.1=some p.2:=by
 obtain⟨b,hb,e⟩:=List.mem_filterMap.mp hp;cases q:h.get? b with
 |none=>rw[q] at e;cases e
 |some o=>
  rw[q] at e;have c:(b,o)=p:=AV e;subst c;exact⟨hb,q⟩
def Inv.pinned{aa:Ψ}{σ:St}{H:Hp}{s:Shared}{a:List Addr}(I:Inv X aa σ H s)(g:∀b∈a,cx X aa H b)(h:∀b∈a,∃o,s.heap.get? b=some o/\∀v,o.data≠.cell v):Inv X (aa++sU a s.heap) σ H s:=
 I.pins_of fun p hp=>(List.mem_append.mp hp).elim (fun z=>I.pin p (Ay _ z)) fun z=>by
  obtain⟨hb,e⟩:=Kj z;obtain⟨f,f1,f2,_⟩:=g p.1 hb;obtain⟨o,c,d⟩:=h p.1 hb;rw[e] at c;cases c;exact⟨e,f,f1,f2,d⟩
def Inv.unpinned{aa pl:Ψ}{σ:St}{H:Hp}{s:Shared}(I:Inv X (aa++pl) σ H s):Inv X aa σ H s:=I.pins_of fun p hp=>I.pin p (Ay _ (A6 _ hp))
def iw{iter:Expr}{Q:List Stmt}{wi:TI}{g:TG}{tb:TS}{pos:Pos}(hp:PassesOwn (model X.prog X.w) X.A X.env X.xe)(hc:X.calm=true)(hi:PI X tg iter wi)(hg:PG X tg g)(hb:PSs X Q tb)(hs:∀x,foldedSetIterable iter X.env x=pure x:=by intro _;rfl):PS X (.For tg iter Q [] pos) (DJ wi g tb):=by
 intro aa s σ H D I h;refine wpAny_For (aT (hi aa s σ H _ I h) fun v s1 h1=>aT h1 fun j7 s2 h2=>?_) hs;obtain⟨it,y,tn,J,H2,e,I2,T,dJ,f2,W,⟨m0,w0⟩,turn⟩:=h2;subst e;have c:∀{H':Hp},(∀b∈y,H' b=none)->∀b∈y,cx X aa H' b:=fun Y b hb=>⟨Y b hb,(f2 b hb).2⟩;refine codeAny_forLoop_any (fun n s'=>∃i z H',Inv X aa z H' s'/\tn i s'.heap/\(∀b∈y,H' b=none)/\W i n z H') ?_ m0 ⟨0,σ,H2,I2,dJ,fun b hb=>(f2 b hb).1,w0⟩;rintro n M ⟨i,C,E,U,O,P,w3⟩;rcases turn i n C E w3 with ⟨stop,qn⟩|⟨go,N,hN,step⟩
 ·refine wpAny_passesOwn hp (aT (T.done X rfl rfl rfl hc i aa M C E X.xe U (c P) O stop) fun r Z ⟨hr,I4⟩=>?_)
  subst hr;exact wpAny_execs_nil ⟨C,E,I4,qn⟩
 ·refine wpAny_passesOwn hp (aT (T.item X rfl rfl rfl hc i aa M C E X.xe U (c P) O go) fun r Z ⟨u,hr,h4⟩=>?_)
  subst hr;refine wpAny_passesOwn hp (aT h4 fun _ L ⟨x,S,I5,r5,y5,p,F⟩=>?_);have lK:=I5.pinned (c F) (T.obj _ _ p);refine wpAny_passesOwn hp (aT (hg _ L C S x u _ lK r5 (step x S y5)) fun _ s6 ⟨gN,H6,I6,q6⟩=>?_);refine wpAny_passesOwn hp (aT (hb _ s6 gN H6 _ I6 q6) fun f G l=>?_);have again:∀{a:St}{j:Hp},Inv X (aa++sU y L.heap) a j G->N a j->∃m,m<n/\∃i z H',Inv X aa z H' G/\tn i G.heap/\(∀b∈y,H' b=none)/\W i m z H':=fun{a j} I7 q=>by
   obtain⟨m',hm,w7⟩:=hN a j q;refine⟨m',hm,i+1,a,j,I7.unpinned,T.keep _ _ _ p fun b hb o e=>(I7.pin (b,o) (Ay _ (Ay _ (Cc hb e)))).1,fun b hb=>?_,w7⟩;obtain⟨o,e,d⟩:=T.obj _ _ p b hb;exact(I7.pin (b,o) (Ay _ (Ay _ (Cc hb e)))).2.1
  cases f with
  |next=>obtain⟨a,j,I7,q⟩:=l;exact again I7 q
  |cont=>obtain⟨a,j,I7,q⟩:=l;exact again I7 q
  |brk=>obtain⟨a,j,I7,l⟩:=l;exact⟨a,j,I7.unpinned,l⟩
  |ret v=>obtain⟨x7,a,j,I7,r7,l⟩:=l;exact⟨x7,a,j,I7.unpinned,r7,l⟩
end
def Cd{K:Ag}{a:Addr}{xs:List V}{g:TG}{tb:TS}{D:Ends}{σ:St}{H:Hp}(b:Nat->St->Hp->Prop)(l:b 0 σ H)(o:∀i σ H,i<=xs.length->b i σ H->SqL K H a xs)(r:∀i x σ H,xs[i]?=some x->b i σ H->g x σ H fun d H2=>tb {D with nx:=b (i+1),ct:=b (i+1),bk:=D.nx} d H2)(hd:∀σ H,b xs.length σ H->D.nx σ H):∃W:Nat->Nat->St->Hp->Prop,(∃m,W 0 m σ H)/\∀i m σ H,W i m σ H->
   ((gt K a).stop i H/\D.nx σ H)\/((gt K a).go i H/\∃N:St->Hp->Prop,(∀f H',N f H'->∃h,h<m/\W (i+1) h f H')/\∀x H',(gt K a).yld i H x H'->g x σ H' fun d H2=>tb {D with nx:=N,ct:=N,bk:=D.nx} d H2):=by
 refine⟨fun i m σ H=>m=xs.length-i/\i<=xs.length/\b i σ H,⟨xs.length,by simp,At _,l⟩,?_⟩;rintro i m σ H ⟨rfl,hi,p⟩;have q:=o i σ H hi p
 by_cases c:i<xs.length
 ·refine .inr ⟨⟨xs,xs[i],q,by simp[c]⟩,b (i+1),fun f H' j=>⟨xs.length-(i+1),ω,rfl,c,j⟩,fun x H' y=>?_⟩
  obtain⟨e,y⟩:=y;subst e;exact r i x σ _ (y xs q) p
 ·have e:i=xs.length:=ω
  subst e;exact .inl ⟨⟨xs,q,Ad _⟩,hd σ H p⟩
def DK{lo:Int}{n:Nat}{g:TG}{tb:TS}{D:Ends}{σ:St}{H:Hp}(b:Nat->St->Hp->Prop)(j:b 0 σ H)(l:∀i σ H,i<n->b i σ H->g (.int (lo+i)) σ H fun c H2=>tb {D with nx:=b (i+1),ct:=b (i+1),bk:=D.nx} c H2)(hd:∀σ H,b n σ H->D.nx σ H):∃W:Nat->Nat->St->Hp->Prop,(∃m,W 0 m σ H)/\∀i m σ H,W i m σ H->
   ((iY lo n).stop i H/\D.nx σ H)\/((iY lo n).go i H/\∃N:St->Hp->Prop,(∀d H',N d H'->∃f,f<m/\W (i+1) f d H')/\∀x H',(iY lo n).yld i H x H'->g x σ H' fun c H2=>tb {D with nx:=N,ct:=N,bk:=D.nx} c H2):=by
 refine⟨fun i m σ H=>m=n-i/\i<=n/\b i σ H,⟨n,by simp,At _,j⟩,?_⟩;rintro i m σ H ⟨rfl,hi,p⟩
 by_cases a:i<n
 ·refine .inr ⟨a,b (i+1),fun d H' h=>⟨n-(i+1),ω,rfl,a,h⟩,fun x H' y=>?_⟩
  obtain⟨e,y⟩:=y;subst e y;exact l i σ _ a p
 ·have e:i=n:=ω
  subst e;exact .inl ⟨Ad _,hd σ H p⟩
abbrev R2:=V->V->Hp->VK->Prop
def cV(X:Cx)(f:Value->Value->Sem Value)(r:R2):Prop:=
 ∀(aa:Ψ)(s:Shared)(σ:St)(H:Hp)(x y:V)(v u:Value)(Q:VK),Inv X aa σ H s->RelV x v->RelV y u->r x y H Q->
  wpAny (model X.prog X.w) X.A (f v u) (EP X aa σ Q) X.xe s
def DL(X:Cx)(f:Value->Sem Value)(r:V->Hp->VK->Prop):Prop:=
 ∀(aa:Ψ)(s:Shared)(σ:St)(H:Hp)(x:V)(v:Value)(Q:VK),Inv X aa σ H s->RelV x v->r x H Q->
  wpAny (model X.prog X.w) X.A (f v) (EP X aa σ Q) X.xe s
def g0(X:Cx)(f:Value)(r:List V->Hp->VK->Prop):Prop:=
 ∀(aa:Ψ)(s:Shared)(σ:St)(H:Hp)(xs:List V)(us:List Value)(Q:VK),Inv X aa σ H s->Vals xs us->r xs H Q->
  wpAny (model X.prog X.w) X.A (call f us) (EP X aa σ Q) X.xe s
def cy(r:R2)(ta tb:TE):TE:=fun σ H Q=>ta σ H fun x H1=>tb σ H1 fun y H2=>r x y H2 Q
def F_(r:V->Hp->VK->Prop)(ta:TE):TE:=fun σ H Q=>ta σ H fun x H1=>r x H1 Q
def rI(C:Int->Int->Prop)(g:Int->Int->V):R2:=fun x y H Q=>∃i j,x=.int i/\y=.int j/\C i j/\Q (g i j) H
def g_(g:Int->Int->V):R2:=fun x y H Q=>∃i j,x=.int i/\y=.int j/\Q (g i j) H
def rU(g:Int->V):V->Hp->VK->Prop:=fun x H Q=>∃i,x=.int i/\Q (g i) H
section
variable{X:Cx}{a b c:Expr}{ta tb tc:TE}{pos:Pos}
def lL(l:PE X a ta)(hb:PE X b tb){aa:Ψ}{s:Shared}{σ:St}{H:Hp}{R:V->V->Hp->Prop}(I:Inv X aa σ H s)(h:ta σ H fun x H1=>tb σ H1 fun y H2=>R x y H2){Q:Ω}{f:Value->Value->Sem Value}(o:∀v u c x y H2,Inv X aa σ H2 c->RelV x v->RelV y u->R x y H2->wpAny (model X.prog X.w) X.A (f v u) Q X.xe c):wpAny (model X.prog X.w) X.A (eval a X.env) (fun v d=>wpAny (model X.prog X.w) X.A (eval b X.env) (fun u e=>wpAny (model X.prog X.w) X.A (f v u) Q X.xe e) X.xe d) X.xe s:=by
 refine aT (l aa s σ H _ I h) fun v g ⟨x,H1,p,r1,i⟩=>?_;refine aT (hb aa g σ H1 _ p i) fun u c ⟨y,H2,q,r2,j⟩=>?_;exact o v u c x y H2 q r1 r2 j
def zF{c:Operator}{r:R2}(g:cV X (binaryOp c) r)(i:PE X a ta)(hb:PE X b tb):PE X (.BinOp a c b pos) (cy r ta tb):=by
 intro aa s σ H Q I h;exact wpAny_BinOp (lL i hb I h fun v u d x y H2 j e f q=>g aa d σ H2 x y v u Q j e f q)
def lN{b:UnaryOp}{r:V->Hp->VK->Prop}(e:DL X (unaryOp b) r)(f:PE X a ta):PE X (.UnaryOp b a pos) (F_ r ta):=by
 intro aa s σ H Q I h;exact UnaryOp_ (aT (f aa s σ H _ I h) fun v c ⟨x,H1,g,r1,d⟩=>e aa c σ H1 x v Q g r1 d)
def n7{f:Value->Value->Sem Value}{C:Int->Int->Prop}{g:Int->Int->Int}(rule:∀(i j:Int)(t u:Tok)(s:Shared)(Q:Ω)(E:Ω),C i j->Q (.int (g i j) s.toks) {s with toks:=s.toks+1}->wpAny (model X.prog X.w) X.A (f (.int i t) (.int j u)) Q E s):cV X f (rI C fun i j=>.int (g i j)):=by
 intro aa s σ H x y v u Q I a b h;obtain⟨i,j,rfl,rfl,hc,q⟩:=h;obtain⟨t,rfl⟩:=a;obtain⟨t',rfl⟩:=b;exact rule i j t t' s _ _ hc ⟨.int (g i j),H,I.tok _,⟨_,rfl⟩,q⟩
def tf{f:Value->Value->Sem Value}{g:Int->Int->Int}(rule:∀(i j:Int)(t u:Tok)(s:Shared)(Q:Ω)(E:Ω),Q (.int (g i j) s.toks) {s with toks:=s.toks+1}->wpAny (model X.prog X.w) X.A (f (.int i t) (.int j u)) Q E s):cV X f (g_ fun i j=>.int (g i j)):=by
 intro aa s σ H x y v u Q I a b h;obtain⟨i,j,rfl,rfl,q⟩:=h;obtain⟨t,rfl⟩:=a;obtain⟨t',rfl⟩:=b;exact rule i j t t' s _ _ ⟨.int (g i j),H,I.tok _,⟨_,rfl⟩,q⟩
def lO{f:Value->Value->Sem Value}{g:Int->Int->Bool}(rule:∀(i j:Int)(t u:Tok)(s:Shared)(Q:Ω)(E:Ω),Q (.bool (g i j)) s->wpAny (model X.prog X.w) X.A (f (.int i t) (.int j u)) Q E s):cV X f (g_ fun i j=>.bl (g i j)):=by
 intro aa s σ H x y v u Q I a b h;obtain⟨i,j,rfl,rfl,q⟩:=h;obtain⟨t,rfl⟩:=a;obtain⟨t',rfl⟩:=b;exact rule i j t t' s _ _ ⟨.bl (g i j),H,I,rfl,q⟩
def ti(i j:Int):Prop:=0<j/\j<1073741824
def tj(i j:Int):Prop:=0<=j/\j<=1000000/\i.natAbs<2 ^ 64
def CMul(i j:Int):Prop:=(-(2 ^ 64)<i/\i<2 ^ 64)\/(-(2 ^ 64)<j/\j<2 ^ 64)
def CMul.ok{i j:Int}(h:CMul i j):IntMulOk i j:=by
 rcases h with ⟨h1,h2⟩|⟨h1,h2⟩
 ·exact .of_left (intBits_le_64 h1 h2)
 ·exact .of_right (intBits_le_64 h1 h2)
def eU:cV X (binaryOp .Add) (g_ fun i j=>.int (i+j)):=tf fun _ _ _ _ _ _ _ q=>add_int q
def gu:cV X (binaryOp .Sub) (g_ fun i j=>.int (i-j)):=tf fun _ _ _ _ _ _ _ q=>sub_int q
def lZ:cV X (binaryOp .Mult) (rI CMul fun i j=>.int (i*j)):=n7 fun _ _ _ _ _ _ _ hc q=>mul_int q hc.ok
def DM:cV X (binaryOp .FloorDiv) (rI ti fun i j=>.int (i / j)):=n7 fun i j _ _ _ _ _ hc q=>by
 have h1:(0:Int)<j:=hc.1;have h2:j<1073741824:=hc.2;exact floordiv_int ω (by rw[Int.fdiv_eq_ediv_of_nonneg i ω];exact q) (.inl (PyProof.noPylong_small ω))
def je:cV X (binaryOp .Mod) (rI (fun _ j=>0<j) fun i j=>.int (i%j)):=n7 fun i j _ _ _ _ _ hc q=>by
 have h1:(0:Int)<j:=hc;exact mod_int' ω (by rw[Int.fmod_eq_emod_of_nonneg i ω];exact q)
def DN:cV X (binaryOp .Pow) (rI tj fun i j=>.int (i ^ j.toNat)):=n7 fun _ _ _ _ _ _ _ hc q=>pow_int_small hc.1 hc.2.1 hc.2.2 q
def Kk{f:Value->Sem Value}{g:Int->Int}(rule:∀(i:Int)(t:Tok)(s:Shared)(Q:Ω)(E:Ω),Q (.int (g i) s.toks) {s with toks:=s.toks+1}->wpAny (model X.prog X.w) X.A (f (.int i t)) Q E s):DL X f (rU fun i=>.int (g i)):=by
 intro aa s σ H x v Q I a h;obtain⟨i,rfl,q⟩:=h;obtain⟨t,rfl⟩:=a;exact rule i t s _ _ ⟨.int (g i),H,I.tok _,⟨_,rfl⟩,q⟩
def l6:DL X (unaryOp .USub) (rU fun i=>.int (-i)):=Kk fun _ _ _ _ _ q=>neg_int q
end
def tD:V->V->Bool
 |.non,.non=>true|.non,.int _=>true|.int _,.non=>true|.non,.bl _=>true|.bl _,.non=>true|.non,.str _=>true|.str _,.non=>true
 |.int _,.int _=>true|.bl _,.bl _=>true|.str _,.str _=>true|.byt _,.byt _=>true
 |.int _,.str _=>true|.str _,.int _=>true|.bl _,.str _=>true|.str _,.bl _=>true
 |_,_=>false
def F':R2:=fun x y H Q=>tD x y=true/\Q (.bl (decide (x=y))) H
def Ga:R2:=fun x y H Q=>tD x y=true/\Q (.bl (!decide (x=y))) H
def eV{i j:Int}:decide (V.int i=V.int j)=(i==j):=by
 rw[Bool.eq_iff_iff];simp
def iy{i j:Bool}:decide (V.bl i=V.bl j)=(i==j):=by
 rw[Bool.eq_iff_iff];simp
def Gd{i j:Str}:decide (V.str i=V.str j)=(i==j):=by
 rw[Bool.eq_iff_iff];simp
def Gg{i j:Array UInt8}:decide (V.byt i=V.byt j)=(i.toList==j.toList):=by
 rw[Bool.eq_iff_iff];cases i;cases j;simp
section
variable{X:Cx}{a b c:Expr}{ta tb tc:TE}{pos:Pos}
def aJ{aa:Ψ}{σ:St}{H:Hp}{s:Shared}{Q:VK}{k a:Bool}(I:Inv X aa σ H s)(q:Q (.bl k) H)(e:k=a):EP X aa σ Q (.bool a) s:=by
 subst e;exact⟨.bl k,H,I,rfl,q⟩
def dO:cV X (compareOp .Eq) F':=by
 intro aa s σ H x y v u Q I c a h;obtain⟨b,q⟩:=h;cases x with
 |non=>
  cases c;cases y with
  |non=>cases a;exact PySem.EqNone.eq_none_none (aJ I q (by simp))
  |bl j=>cases a;exact PySem.EqNone.eq_none_bool (aJ I q (by simp))
  |int j=>obtain⟨t',rfl⟩:=a;exact PySem.EqNone.eq_none_int (aJ I q (by simp))
  |str j=>obtain⟨t',rfl⟩:=a;exact PySem.EqNone.eq_none_str (aJ I q (by simp))
  |_=>exact absurd (show false=true from b) AF
 |bl i=>
  cases c;cases y with
  |non=>cases a;exact PySem.EqNone.eq_bool_none (aJ I q (by simp))
  |bl j=>cases a;exact eq_bool (aJ I q iy)
  |str j=>obtain⟨t',rfl⟩:=a;exact PySem.EqMixed.eq_bool_str (aJ I q (by simp))
  |_=>exact absurd (show false=true from b) AF
 |int i=>
  obtain⟨t,rfl⟩:=c;cases y with
  |non=>cases a;exact PySem.EqNone.eq_int_none (aJ I q (by simp))
  |int j=>obtain⟨t',rfl⟩:=a;exact eq_int (aJ I q eV)
  |str j=>obtain⟨t',rfl⟩:=a;exact PySem.EqMixed.eq_int_str (aJ I q (by simp))
  |_=>exact absurd (show false=true from b) AF
 |str i=>
  obtain⟨t,rfl⟩:=c;cases y with
  |non=>cases a;exact PySem.EqNone.eq_str_none (aJ I q (by simp))
  |bl j=>cases a;exact PySem.EqMixed.eq_str_bool (aJ I q (by simp))
  |int j=>obtain⟨t',rfl⟩:=a;exact PySem.EqMixed.eq_str_int (aJ I q (by simp))
  |str j=>obtain⟨t',rfl⟩:=a;exact eq_str (aJ I q Gd)
  |_=>exact absurd (show false=true from b) AF
 |byt i=>
  obtain⟨t,rfl⟩:=c;cases y with
  |byt j=>obtain⟨t',rfl⟩:=a;exact PySem.W.eq_bytes (aJ I q Gg)
  |_=>exact absurd (show false=true from b) AF
 |_=>cases y<;>exact absurd (show false=true from b) AF
def gx:cV X (compareOp .NotEq) Ga:=by
 intro aa s σ H x y v u Q I c a h;obtain⟨b,q⟩:=h;cases x with
 |non=>
  cases c;cases y with
  |non=>cases a;exact PySem.EqNone.ne_none_none (aJ I q (by simp))
  |bl j=>cases a;exact PySem.EqNone.ne_none_bool (aJ I q (by simp))
  |int j=>obtain⟨t',rfl⟩:=a;exact PySem.EqNone.ne_none_int (aJ I q (by simp))
  |str j=>obtain⟨t',rfl⟩:=a;exact PySem.EqNone.ne_none_str (aJ I q (by simp))
  |_=>exact absurd (show false=true from b) AF
 |bl i=>
  cases c;cases y with
  |non=>cases a;exact PySem.EqNone.ne_bool_none (aJ I q (by simp))
  |bl j=>cases a;exact ne_bool (aJ I q (congrArg not iy))
  |str j=>obtain⟨t',rfl⟩:=a;exact PySem.EqMixed.ne_bool_str (aJ I q (by simp))
  |_=>exact absurd (show false=true from b) AF
 |int i=>
  obtain⟨t,rfl⟩:=c;cases y with
  |non=>cases a;exact PySem.EqNone.ne_int_none (aJ I q (by simp))
  |int j=>obtain⟨t',rfl⟩:=a;exact ne_int (aJ I q (congrArg not eV))
  |str j=>obtain⟨t',rfl⟩:=a;exact PySem.EqMixed.ne_int_str (aJ I q (by simp))
  |_=>exact absurd (show false=true from b) AF
 |str i=>
  obtain⟨t,rfl⟩:=c;cases y with
  |non=>cases a;exact PySem.EqNone.ne_str_none (aJ I q (by simp))
  |bl j=>cases a;exact PySem.EqMixed.ne_str_bool (aJ I q (by simp))
  |int j=>obtain⟨t',rfl⟩:=a;exact PySem.EqMixed.ne_str_int (aJ I q (by simp))
  |str j=>obtain⟨t',rfl⟩:=a;exact ne_str (aJ I q (congrArg not Gd))
  |_=>exact absurd (show false=true from b) AF
 |byt i=>
  obtain⟨t,rfl⟩:=c;cases y with
  |byt j=>obtain⟨t',rfl⟩:=a;exact PySem.W.ne_bytes (aJ I q (congrArg not Gg))
  |_=>exact absurd (show false=true from b) AF
 |_=>cases y<;>exact absurd (show false=true from b) AF
def n_:cV X (compareOp .Lt) (g_ fun i j=>.bl (decide (i<j))):=lO fun _ _ _ _ _ _ _ q=>lt_int q
def iZ:cV X (compareOp .Gt) (g_ fun i j=>.bl (decide (j<i))):=lO fun _ _ _ _ _ _ _ q=>gt_int q
def Kl:cV X (compareOp .GtE) (g_ fun i j=>.bl (decide (j<=i))):=lO fun _ _ _ _ _ _ _ q=>ge_int q
def ap(b:Expr){a:CmpOp}(h:a≠.In:=by decide)(h2:a≠.NotIn:=by decide):behindInMarks a b=false:=by
 have e1:(a==CmpOp.In)=false:=by cases a<;>first|rfl|exact absurd rfl h
 have e2:(a==CmpOp.NotIn)=false:=by cases a<;>first|rfl|exact absurd rfl h2
 cases b<;>simp[behindInMarks,e1,e2]
def hH{c:CmpOp}{r:R2}(g:cV X (compareOp c) r)(i:PE X a ta)(hb:PE X b tb)(j:behindInMarks c b=false):PE X (.Compare a [c] [b] pos) (cy r ta tb):=by
 intro aa s σ H Q I h;exact wpAny_Compare1 (lL i hb I h fun v u d x y H2 l e f q=>g aa d σ H2 x y v u Q l e f q) j
def DO(t:TE):TT:=fun σ H Q=>t σ H fun x H'=>∃k,x=.bl k/\Q k H'
def zr{d:CmpOp}{r:R2}(p:cV X (compareOp d) r)(q:PE X a ta)(hb:PE X b tb)(w:behindInMarks d b=false):PT X (.Compare a [d] [b] pos) (DO (cy r ta tb)):=by
 intro aa s σ H Q I h;refine wpAny_isTrue_Compare1 (aT (q aa s σ H _ I h) fun v f ⟨x,H1,A,r1,g⟩=>aT (hb aa f σ H1 _ A g) fun u i ⟨y,H2,C,r2,j⟩=>
  aT (p aa i σ H2 x y v u _ C r1 r2 j) fun c F ⟨z,D,E,l,k,e,o⟩=>?_) w
 subst e;cases l;exact wpAny_truthy_bool ⟨D,E,o⟩
def ek:(sizeLine:Nat)<2 ^ 63:=by rw[sizeLine_eq];decide
def vals1{x:V}{us:List Value}(r:Vals [x] us):∃u,us=[u]/\RelV x u:=by
 cases r with
 |cons r1 r2=>cases r2;exact⟨_,rfl,r1⟩
def vals2{x y:V}{us:List Value}(r:Vals [x,y] us):∃u a,us=[u,a]/\RelV x u/\RelV y a:=by
 cases r with
 |cons r1 r2=>
  cases r2 with
  |cons r3 r4=>cases r4;exact⟨_,_,rfl,r1,r3⟩
end
structure ObjM(h:Heap)(x dx C:Addr)(mA:Str->Option Value):Prop where
 obj:h.get? x=some (PySem.W.instObj C dx)
 ns:h.Ns1 dx mA
 ne:dx≠x
def Km{h:Heap}{dx:Addr}{mA:Str->Option Value}(n:h.Ns1 dx mA):∃b,h.get? dx=some b/\∀name,PySem.W.lookIn name b=some (mA name):=by
 obtain⟨o,es,ep,c,hd,hk,_,d⟩:=n;refine⟨o,c,fun name=>?_⟩;have e:=d name;unfold nsFind findBy at e;rw[<-Array.find?_toList] at e;unfold PySem.W.lookIn;rw[hd];dsimp only;split
 ·rename_i y q
  rw[q] at e;exact congrArg some e
 ·rename_i q
  rw[q] at e;have a:es.toList.any (·.refKey)=false:=by
   rw[List.any_eq_false];intro y hy;obtain⟨z,t,f⟩:=hk y (Array.mem_toList_iff.mp hy);simp[DictEntry.refKey,f]
  have a':¬es.toList.any (·.refKey)=true:=by rw[a];exact AF
  rw[if_neg a'];exact congrArg some e
def ObjM.look{h:Heap}{x dx C:Addr}{mA:Str->Option Value}(I:ObjM h x dx C mA):∃a,PySem.W.InstAt h x (PySem.W.instObj C dx) C (some a)/\∀name,PySem.W.lookIn name a=some (mA name):=
 let ⟨a,ho,hl⟩:=Km I.ns
 ⟨a,⟨I.obj,rfl,rfl,ho⟩,hl⟩
def RelO.some_of{v:V}{o:Option Value}(r:RelO (some v) o):∃u,o=some u/\RelV v u:=by
 cases o with
 |none=>exact(show False from r).elim
 |some u=>exact⟨u,rfl,r⟩
section
variable{P:Program}{w:World}{H H':Hp}{h h':Heap}{a C dx:Addr}{fs vi:List (Str×V)}
def Kn(b:HOk P w H h)(e:H a=some (.ins C dx fs)):∃mA,ObjM h a dx C mA/\(∀f,RelO (fs.lookup f) (mA f))/\PySem.Within mA (fs.map (·.1))/\fs.length<=1000/\H dx=some (.own a):=by
 obtain⟨d,z,ne,c,mA,n,r,q⟩:=(show zah P w H h a (.ins C dx fs) from b a _ e);exact⟨mA,⟨c,n,ne⟩,r,q,z,d⟩
end
structure Cls(K:Ag)(C:Addr):Prop where
 pg:PySem.W.plainGet K C Str.empty=true
 hd:PySem.W.hasDictIn K C=true
 po:PySem.W.plainOver K C=true
 sa:PySem.W.findIn K (.ref C) "__setattr__"=some (some (.builtin "object.__setattr__"))
def Cls.get{K:Ag}{C:Addr}(c:Cls K C)(f:Str):PySem.W.plainGet K C f=true:=c.pg
section
variable{X:Cx}{aa:Ψ}{σ:St}{H:Hp}{s:Shared}{A:Around}{E:Ω}{Q:Ω}{c:Value}{b:Bool}
inductive cY(K:Ag)(H:Hp):V->Value->Prop where
 |non:cY K H .non (.type "NoneType")
 |bl (x:Bool):cY K H (.bl x) (.type "bool")
 |int (i:Int):cY K H (.int i) (.type "int")
 |str (x:Str):cY K H (.str x) (.type "str")
 |flt (x:UInt64):cY K H (.flt x) (.type "float")
 |lst {a:Addr} {xs:List V} (e:H a=some (.lst xs)):cY K H (.ref a) (.type "list")
 |frz {a:Addr} {o:Obj} {xs:List V} (e:H a=some (.frz o (.lst xs))):cY K H (.ref a) (.type "list")
 |tup {a:Addr} {xs:List V} (e:H a=some (.tup xs)):cY K H (.ref a) (.type "tuple")
 |dK {a:Addr} {kvs:List (Key×V)} (e:H a=some (.dK kvs)):cY K H (.ref a) (.type "dict")
 |dT {a:Addr} {kvs:List (List Key×V)} (e:H a=some (.dT kvs)):cY K H (.ref a) (.type "dict")
 |ins {a C dx:Addr} {fs:List (Str×V)} (e:H a=some (.ins C dx fs)) (cl:Cls K C) (ha:PySem.W.findIn K (.ref C) "__class__"=some (some (.builtin "object.__class__")))
   (hn:PySem.W.specialIn K (.builtin "object.__class__") "__get__"=some (some (.builtin "getset_descriptor.__get__"))) (qe:PySem.W.takesIn K (.builtin "object.__class__")=some true)
   (hm:PySem.W.mroIn K C (.type "object")=some true):cY K H (.ref a) (.ref C)
def Ce{x:V}{u t:Value}(I:Inv X aa σ H s)(d:RelV x u)(ty:cY X.K H x t)(e:PySem.W.kitOne X.K t c=some b)(h:∀tk,Q (.bool b) {s with toks:=tk}):wpAny (model X.prog X.w) A (call (.builtin "isinstance") [u,c]) Q E s:=by
 cases ty with
 |non=>cases(show u=Value.none from d);exact PySem.W.kia_one PySem.W.kitx_none I.kIn True.intro e (fun z=>nomatch z) h
 |bl y=>cases(show u=Value.bool y from d);exact PySem.W.kia_one PySem.W.kitx_bool I.kIn True.intro e (fun z=>nomatch z) h
 |int i=>obtain⟨t,q⟩:=(show ∃t,u=Value.int i t from d);cases q;exact PySem.W.kia_one PySem.W.kitx_int I.kIn True.intro e (fun z=>nomatch z) h
 |str y=>obtain⟨t,q⟩:=(show ∃t,u=Value.str y t from d);cases q;exact PySem.W.kia_one PySem.W.kitx_str I.kIn True.intro e (fun z=>nomatch z) h
 |flt y=>obtain⟨t,q⟩:=(show ∃t,u=Value.float y t from d);cases q;exact PySem.W.kia_one PySem.W.kitx_float I.kIn True.intro e (fun z=>nomatch z) h
 |@lst a xs ea=>
  cases(show u=Value.ref a from d);obtain⟨_,_,n,_,h1⟩:=(show zah X.prog X.w H s.heap a (.lst xs) from I.hok a _ ea);exact PySem.W.kia_one PySem.W.kitx_list I.kIn ⟨_,h1,rfl⟩ e (fun z=>nomatch z) h
 |@frz a ob xs ea=>
  cases(show u=Value.ref a from d);obtain⟨_,_,_,n,_,h1⟩:=(show zah X.prog X.w H s.heap a (.frz ob (.lst xs)) from I.hok a _ ea);exact PySem.W.kia_one PySem.W.kitx_list I.kIn ⟨_,h1,rfl⟩ e (fun z=>nomatch z) h
 |@tup a xs ea=>
  cases(show u=Value.ref a from d);obtain⟨_,_,_,p⟩:=(show zah X.prog X.w H s.heap a (.tup xs) from I.hok a _ ea);obtain⟨o,h1,h2,_⟩:=p;exact PySem.W.kia_one PySem.W.kitx_tuple I.kIn ⟨o,h1,h2⟩ e (fun z=>nomatch z) h
 |@dK a kvs ea=>
  cases(show u=Value.ref a from d);obtain⟨_,_,vs,_,p⟩:=(show zah X.prog X.w H s.heap a (.dK kvs) from I.hok a _ ea);obtain⟨o,es,ep,h1,h2,_⟩:=p;exact PySem.W.kia_one PySem.W.kitx_dict I.kIn ⟨o,h1,h2.1⟩ e (fun z=>nomatch z) h
 |@dT a kvs ea=>
  cases(show u=Value.ref a from d);obtain⟨_,_,xs,_,o,es,ep,h1,h2,_⟩:=(show zah X.prog X.w H s.heap a (.dT kvs) from I.hok a _ ea);exact PySem.W.kia_one PySem.W.kitx_dict I.kIn ⟨o,h1,h2.1⟩ e (fun z=>nomatch z) h
 |@ins a C dx fs ea cl ha hn qe hm=>
  cases(show u=Value.ref a from d);obtain⟨mA,O,_⟩:=Kn I.hok ea;obtain⟨f,J,_⟩:=O.look;exact PySem.W.kia_one (PySem.W.kitx_own (cl.get _) cl.hd ha hn qe hm) I.kIn J e (fun z=>nomatch z) h
end
structure Room(k:Nat)(A:Around):Prop where
 hd:A.handled=none
 dp:A.depth+3*k+5<recursionLimit
 un:A.units+16*k+200<cLine
def Room.mono{j k:Nat}{A:Around}(r:Room k A)(h:j<=k):Room j A:=⟨r.hd,by have:=r.dp;(first|lia|omega),by have:=r.un;(first|lia|omega)⟩
def Room.deeper{k:Nat}{A:Around}(r:Room (k+1) A)(env:Env):Room k (A.deeper env):=
 ⟨r.hd,by have:=r.dp;show A.depth+1+3*k+5<_;(first|lia|omega),by have:=r.un;show A.units+3+16*k+200<_;(first|lia|omega)⟩
def Room.in1{k:Nat}{A:Around}(r:Room (k+1) A):Room k A.in1:=
 ⟨r.hd,by have:=r.dp;show A.depth+3*k+5<_;(first|lia|omega),by have:=r.un;show A.units+1+16*k+200<_;(first|lia|omega)⟩
def Room.depth{k:Nat}{A:Around}(r:Room k A):A.depth<recursionLimit:=by have:=r.dp;(first|lia|omega)
def Room.units{k:Nat}{A:Around}(r:Room k A):A.units+64<cLine:=by have:=r.un;(first|lia|omega)
def bD:TA:=fun _ H Q=>Q [] H
def zZ(ta:TE)(a:TA):TA:=fun σ H Q=>ta σ H fun x H1=>a σ H1 fun xs H2=>Q (x::xs) H2
section
variable{X:Cx}{e:Expr}{es:List Expr}{te:TE}{t:TA}{pos:Pos}
def zb:PA X [] bD:=fun _ _ _ _ H Q I h=>Calls.spliced_nil ⟨[],H,I,.nil,h⟩
def za(d:PE X e te)(hr:PA X es t)(f:starEach (e::es) X.env=(false,eval e X.env)::starEach es X.env:=by rfl):PA X (e::es) (zZ te t):=by
 intro pos aa s σ H Q I h;rw[f];show wpAny _ _ (spliced ((false,eval e X.env)::backTo pos (starEach es X.env))) _ _ s;refine Calls.spliced_cons (aT (d aa s σ H _ I h) fun u a ⟨x,H1,g,r1,b⟩=>?_);exact aT (hr pos aa a σ H1 _ g b) fun us j ⟨xs,H2,i,r2,c⟩=>⟨x::xs,H2,i,.cons r1 r2,c⟩
def DP(t:TA):TE:=fun σ H Q=>t σ H fun xs H1=>xs.length<=sizeLine/\∀p,H1 p=none->Q (.ref p) (upd H1 p (.tup xs))
def DQ(t:TA):TE:=fun σ H Q=>t σ H fun xs H1=>xs.length<=sizeLine/\∀p,H1 p=none->Q (.ref p) (upd H1 p (.lst xs))
def hO{x1}(h:PA X es t):PE X (.Tuple es x1 pos) (DP t):=by
 intro aa s σ H Q I hq;refine wpAny_Tuple_spliced (aT (h pos aa s σ H _ I hq) fun us a ⟨xs,H1,I1,r,z,q⟩=>⟨by rw[<-r.length];exact z,?_⟩);have c:H1 a⁻¹=none:=I1.hok.fresh (Ad _);refine⟨.ref a⁻¹,upd H1 a⁻¹ (.tup xs),I1.laid (t':=a.toks) (fun b u e=>Ai _ e) (Ad _) ?_,rfl,q _ c⟩;exact⟨z,us,r,⟨_,AL _ rfl,rfl,_,rfl⟩⟩
def hV(h:PA X es t):PE X (.List es pos) (DQ t):=by
 intro aa s σ H Q I hq;refine wpAny_List_spliced (aT (h pos aa s σ H _ I hq) fun us a ⟨xs,H1,I1,r,z,q⟩=>⟨by rw[<-r.length];exact z,?_⟩);have c:H1 a⁻¹=none:=I1.hok.fresh (Ad _);refine⟨.ref a⁻¹,upd H1 a⁻¹ (.lst xs),I1.laid (t':=a.toks) (fun b u e=>Ai _ e) (Ad _) ?_,rfl,q _ c⟩;exact⟨z,us,0,r,AL _ rfl⟩
end
abbrev Sp:=List V->Hp->VK->XK->Prop
abbrev gz:=List Env->Hp->Shared->XK->Ω
structure Env0(P:Program)(w:World)(K:Ag)(mg:Str->Option Value)(base:Heap)(A:Around)(outer:List Env)(s:Shared)(H:Hp):Prop where
 frames:A.frames=some outer
 mod:Mod K mg base
 bs:∀b o,base.get? b=some o->s.heap.get? b=some o/\H b=none
 bsz:base.objs.size<=s⁻¹
 funs:s.heap.FunFrames base outer
 frf:∀b∈frs outer,H b=none
 hok:HOk P w H s.heap
 bare:AllBare s.gens
def CE(outer:List Env)(P:Program)(w:World)(H:Hp)(s:Shared)(Q:VK)(u:Value)(s':Shared):Prop:=
 ∃v H',s'.os=s.os/\AllBare s'.gens/\Un (frs outer) [] H H' s.heap s'.heap/\HOk P w H' s'.heap/\RelV v u/\Q v H'
def CR(CX:gz)(outer:List Env)(P:Program)(w:World)(H:Hp)(s:Shared)(Q:VK)(E:XK)(r:Result)(s':Shared):Prop:=
 match r with
 |.ok (.ret u)=>CE outer P w H s Q u s'
 |.ok _=>False
 |.error e=>CX outer H s E e s'
structure ah(P:Program)(w:World)(K:Ag)(mg:Str->Option Value)(base:Heap)(CX:gz)(k:Nat)(f:Addr)(fd:FuncData)(ps:List Str)(sp:Sp):Prop where
 len:∀vs H Q E,sp vs H Q E->vs.length=ps.length
 run:∀(A:Around)(outer:List Env)(s:Shared)(H:Hp)(args:Args)(us:List Value)(vs:List V)(Q:VK)(E:XK),Room k A->Env0 P w K mg base A outer s H->BindsTo s fd args (ps.zip us)->Vals vs us->sp vs H Q E->
  codeAny (model P w) A (.call (.ref f) args) (CR CX outer P w H s Q E) s
def Env0.in1{P:Program}{w:World}{K:Ag}{mg:Str->Option Value}{base:Heap}{A:Around}{outer:List Env}{s:Shared}{H:Hp}(e:Env0 P w K mg base A outer s H):Env0 P w K mg base A.in1 outer s H:=⟨e.frames,e.mod,e.bs,e.bsz,e.funs,e.frf,e.hok,e.bare⟩
section
variable{X:Cx}{aa:Ψ}{σ:St}{H:Hp}{s s':Shared}
def Inv.env0(I:Inv X aa σ H s):Env0 X.prog X.w X.K X.mg X.base X.A X.stack s H:=
 ⟨I.ok.frames,I.ok.mod,I.bs,Ae I.ok.bsz I.sz,I.stack,I.stkFree,I.hok,I.bare⟩
def Inv.after{Q:VK}{u:Value}(I:Inv X aa σ H s)(h:CE X.stack X.prog X.w H s Q u s'):EP X aa σ Q u s':=by
 obtain⟨v,H',os,a,un,c,r,q⟩:=h;obtain⟨e,g,d,t,f⟩:=s';obtain rfl:f=s.os:=os;exact⟨v,H',I.call (h':=e) (g':=g) (d':=d) (t':=t) (ch:=[]) un c a (fun b z=>absurd z (by simp)),r,q⟩
end
def eX(sp:Sp)(eE:List V)(E:XK)(t:TA):TE:=fun σ H Q=>t σ H fun vs H1=>sp (vs++eE) H1 Q E
def Binds(K:Ag)(fd:FuncData)(ps:List Str)(ds:List Value):Prop:=
 ∀(s:Shared)(us:List Value),K.In s.heap->(us++ds).length=ps.length->BindsTo s fd ⟨us,[]⟩ (ps.zip (us++ds))
def Binds.all{K:Ag}{fd:FuncData}{ps:List Str}(h:∀us:List Value,us.length=ps.length->bindArgs fd ⟨us,[]⟩=pure (ps.zip us)):Binds K fd ps []:=fun s us _ a=>by
 rw[List.append_nil] at a ⊢;exact .of_eq (h us a)
def eY(CX:gz)(X:Cx)(E:XK):Prop:=∀(aa:Ψ)(σ:St)(H:Hp)(s:Shared)(e:Value)(s':Shared),Inv X aa σ H s->CX X.stack H s E e s'->X.xe e s'
section
variable{X:Cx}{CX:gz}{k:Nat}{f C:Addr}{fd:FuncData}{ps:List Str}{sp:Sp}{eE:List V}{ds:List Value}{E:XK}{x m:Str}{p pos bJ:Pos}{e o:Expr}{es:List Expr}{ta:TE}{t:TA}
def Ko{aa:Ψ}{σ:St}{H:Hp}{s:Shared}{Q:VK}{us:List Value}{vs:List V}(F:ah X.prog X.w X.K X.mg X.base CX k f fd ps sp)(hr:Room k X.A)(hb:Binds X.K fd ps ds)(hd:Vals eE ds)(hx:eY CX X E)(I:Inv X aa σ H s)(r:Vals vs us)(h:sp (vs++eE) H Q E):wpAny (model X.prog X.w) X.A (call (.ref f) us) (EP X aa σ Q) X.xe s:=by
 have r2:Vals (vs++eE) (us++ds):=r.append hd;have a:(us++ds).length=ps.length:=by rw[<-r2.length];exact F.len _ _ _ _ h
 refine wpAny_call (codeAny_mono (F.run X.A X.stack s H ⟨us,[]⟩ (us++ds) (vs++eE) Q E hr I.env0 (hb s us I.kIn a) r2 h) fun r s' hq=>?_);cases r with
 |error e=>exact hx aa σ H s e s' I hq
 |ok fl=>
  cases fl with
  |ret u=>exact I.after hq
  |next=>exact False.elim hq
  |brk=>exact False.elim hq
  |cont=>exact False.elim hq
def ze(F:ah X.prog X.w X.K X.mg X.base CX k f fd ps sp)(hr:Room k X.A)(hg:Gl X x)(b:X.mg x=some (.ref f))(hk:PySem.W.keepIn X.K (.ref f)=true)(hb:Binds X.K fd ps ds)(hd:Vals eE ds)(hx:eY CX X E)(c:PA X (e::es) t)(d:(x==("__debug__":Str))=false:=by decide)(g:starEach (e::es) X.env=(false,eval e X.env)::starEach es X.env:=by rfl)(a:(backTo pos (starEach es X.env)).any (·.1)=false:=by rfl):PE X (.Call (.Name x p) (e::es) [] pos) (eX sp eE E t):=by
 intro aa s σ H Q I h;refine wpAny_Call_Name_kw (FX I hg b ?_ d);refine PySem.W.callWith_K (h₀:=X.base) I.ok.mod.kin hk (aT (c pos aa s σ H _ I h) fun us i ⟨vs,H1,I1,r,q⟩=>⟨I1.kIn,?_⟩) g a;exact Ko F hr hb hd hx I1 r q
end
structure zo(N P:List Str)(sc:Scope):Prop where
 kind:sc.kind=.function
 co:sc.isCoroutine=false
 gen:sc.isGenerator=false
 nd:N.Nodup
 pre:N.take P.length=P
 par:∀x∈P,sc.names.lookup x=some .local\/sc.names.lookup x=some .cell
 nofree:∀y∈sc.names,y.2≠.free
def Gj{kindOf:Str->Option NameKind}{x:Str}:∀{binds:List (Str×Value)}{m:Str->Option Value},(∀v,(x,v)∉binds)->bindL kindOf binds m x=m x
 |[],_,_=>rfl
 |(n,v)::r,m,h=>by
  unfold bindL;rw[Gj fun w hw=>h w (AJ _ hw)];split
  ·have:x≠n:=by rintro rfl;exact h v AM
   simp[this]
  ·rfl
def Gn{kindOf:Str->Option NameKind}{x:Str}:∀{binds:List (Str×Value)}{m:Str->Option Value},(∀v,(x,v)∉binds)->bindC kindOf binds m x=m x
 |[],_,_=>rfl
 |(n,v)::r,m,h=>by
  unfold bindC;rw[Gn fun w hw=>h w (AJ _ hw)];split
  ·rfl
  ·have:x≠n:=by rintro rfl;exact h v AM
   simp[this]
def Gq{kindOf:Str->Option NameKind}{x:Str}{v:Value}:∀{P:List Str}{vs:List Value}{i:Nat}{m:Str->Option Value},P.Nodup->P[i]?=some x->vs[i]?=some v->kindOf x=some .local->
  bindL kindOf (P.zip vs) m x=some v
 |[],_,_,_,_,h,_,_=>by simp at h
 |_::_,[],_,_,_,_,h,_=>by simp at h
 |p::P,w::vs,0,m,nd,h1,h2,hk=>by
  simp at h1 h2;subst h1;subst h2;show bindL kindOf ((p,w)::P.zip vs) m p=_;unfold bindL;rw[Gj fun v hv=>(List.nodup_cons.mp nd).1 (List.of_mem_zip hv).1,if_pos hk];simp
 |p::P,w::vs,i+1,m,nd,h1,h2,hk=>by
  show bindL kindOf ((p,w)::P.zip vs) m x=_;unfold bindL;exact Gq (i:=i) (List.nodup_cons.mp nd).2 (by simpa using h1) (by simpa using h2) hk
def Gv{kindOf:Str->Option NameKind}{x:Str}{v:Value}:∀{P:List Str}{vs:List Value}{i:Nat}{m:Str->Option Value},P.Nodup->P[i]?=some x->vs[i]?=some v->kindOf x≠some .local->
  bindC kindOf (P.zip vs) m x=some v
 |[],_,_,_,_,h,_,_=>by simp at h
 |_::_,[],_,_,_,_,h,_=>by simp at h
 |p::P,w::vs,0,m,nd,h1,h2,hk=>by
  simp at h1 h2;subst h1;subst h2;show bindC kindOf ((p,w)::P.zip vs) m p=_;unfold bindC;rw[Gn fun v hv=>(List.nodup_cons.mp nd).1 (List.of_mem_zip hv).1,if_neg hk];simp
 |p::P,w::vs,i+1,m,nd,h1,h2,hk=>by
  show bindC kindOf ((p,w)::P.zip vs) m x=_;unfold bindC;exact Gv (i:=i) (List.nodup_cons.mp nd).2 (by simpa using h1) (by simpa using h2) hk
def start(N:List Str)(vs:List V):St:=vs.map some++Aq (N.length-vs.length) none
def dq(CX:gz)(P:Program)(w:World)(K:Ag)(mg:Str->Option Value)(base:Heap)(N:List Str)(a:Str)(scope:Scope)(f:Addr)(b:Value)(A:Around)(outer:List Env)(s:Shared)(H:Hp)(E:XK):Cx where
 prog:=P
 w:=w
 K:=K
 mg:=mg
 base:=base
 A:=A.deeper (envOfC a scope s⁻¹ f b)
 N:=N
 s₀:=s
 H₀:=H
 env:=envOfC a scope s⁻¹ f b
 outer:=outer
 stack:=envOfC a scope s⁻¹ f b::outer
 ex:=[]
 calm:=true
 fn:=fun _=>true
 pn:=[]
 xe:=fun e s'=>wpAny (model P w) (A.deeper (envOfC a scope s⁻¹ f b)) (leaving (envOfC a scope s⁻¹ f b) e) (fun _ c=>CX outer H s E e c) (fun d c=>CX outer H s E d c) s'
def Gx{sc:Scope}{n:Nat}{x:Str}(h:sc.names.lookup x=some .cell):∃c,(cellsFrom n sc.names []).lookup x=some c:=by
 have q:=PySem.W.cellsFrom_some sc.names n [] (.inl h);exact Option.isSome_iff_exists.mp q
def Kq{CX:gz}{P:Program}{w:World}{K:Ag}{mg:Str->Option Value}{base:Heap}{N ps:List Str}{j:Str}{scope:Scope}{f:Addr}{l:Value}{A:Around}{outer:List Env}{s D:Shared}{H:Hp}{E:XK}{us:List Value}{vs:List V}(S:zo N ps scope)(hd:A.handled=none)(d:Env0 P w K mg base A outer s H)(L:vs.length=ps.length)(r:Vals vs us)(x:InCallC s s⁻¹ (bindL (envOfC j scope s⁻¹ f l).kindOf (ps.zip us) fun _=>none) (cellsFrom (s⁻¹+1) scope.names []) (bindC (envOfC j scope s⁻¹ f l).kindOf (ps.zip us) fun _=>none) D):Inv (dq CX P w K mg base N j scope f l A outer s H E) [] (start N vs) H D:=by
 have G:ps.length<=N.length:=by have:=congrArg List.length S.pre;rw[List.length_take] at this;(first|lia|omega)
 obtain⟨h1,tk,rfl,hk⟩:=x.done;have o:∀b:Addr,b∉(dq CX P w K mg base N j scope f l A outer s H E).ex:=fun b z=>absurd (show b∈([]:List Addr) from z) (by simp);refine⟨⟨d.mod,S.kind,rfl,rfl,Ad _,fun y z c h1 h2=>?_,fun y hy=>?_,fun y c _ h=>?_,fun _=>hd,Around.frames_deeper d.frames,.inr ⟨rfl,rfl⟩,fun b z=>absurd z (o b),d.bs,d.bsz,fun b _ _=>o b,fun b z=>absurd z (o b),d.funs,d.frf⟩,
  rfl,d.bare,Un.kept hk,⟨_,x.toInCall.ns,fun i y v h1 h2 J=>?_⟩,fun y c h=>⟨_,x.cell y c h⟩,d.hok.fresh (Ad _),fun y c h=>?_,fun p hp=>absurd (show p∈([]:Ψ) from hp) (by simp),d.hok.kept hk,?_⟩
 ·exact name_of_addr x.apart (PySem.mem_of_lookup h1) (PySem.mem_of_lookup h2)
 ·have hy:scope.names.lookup y=some .cell\/scope.names.lookup y=some .free:=hy
  rcases hy with hy|hy
  ·exact Gx hy
  ·exact absurd rfl (S.nofree _ (PySem.mem_of_lookup hy))
 ·exact Nat.le_of_lt (x.above y c (PySem.mem_of_lookup h))
 ·have hi:i<vs.length:=by
   unfold start at h2
   by_cases hi:i<vs.length
   ·exact hi
   ·rw[List.getElem?_append_right (by simpa using hi)] at h2
    rw[List.getElem?_replicate] at h2;split at h2<;>cases h2
  have I:vs[i]?=some v:=by
   unfold start at h2;rw[List.getElem?_append_left (by simpa using hi),Aj] at h2;cases e:vs[i]? with
   |none=>rw[e] at h2;cases h2
   |some a=>rw[e] at h2;cases h2;rfl
  obtain⟨u,C,F⟩:=r.get I;have hp:ps[i]?=some y:=by
   rw[<-S.pre,List.getElem?_take_of_lt ω];exact h1
  have g:ps.Nodup:=by rw[<-S.pre];exact S.nd.sublist (List.take_sublist _ _)
  refine⟨u,F,?_⟩;rcases S.par y (An hp) with k|k
  ·exact .inl ⟨k,Gq g hp C k⟩
  ·obtain⟨c,e⟩:=Gx (n:=s⁻¹+1) k
   refine .inr ⟨.inl k,c,e,?_⟩;have q:=x.cell y c e;rw[Gv g hp C (by show scope.names.lookup y≠_;rw[k];decide)] at q;exact q
 ·exact d.hok.fresh (Nat.le_of_lt (x.above y c (PySem.mem_of_lookup h)))
 ·unfold start
  show _=N.length;rw[AZ,Aa,List.length_replicate];(first|lia|omega)
def Kr{CX:gz}{P:Program}{w:World}{K:Ag}{mg:Str->Option Value}{base:Heap}{k:Nat}{f:Addr}{name a:Str}{p:Arguments}{i:List Stmt}{scope:Scope}{z kV C D c ct oc:Value}{F od:Option Addr}{O:Array (Option Value)}{N ps:List Str}{sp:Sp}(lk:K.lookup f=some ⟨oc,od,.func (PySem.W.fnOf name a p i scope z kV C D F c ct),O⟩)(T:PySem.W.codeIn K c a=true)(S:zo N ps scope)(len:∀vs H Q E,sp vs H Q E->vs.length=ps.length)(dt:∀(A:Around)(outer:List Env)(s:Shared)(H:Hp)(vs:List V)(Q:VK)(E:XK),Room k (A.deeper (envOfC a scope s⁻¹ f c))->sp vs H Q E->
   ∃t,PSs (dq CX P w K mg base N a scope f c A outer s H E) i t/\t {nx:=fun _ H'=>Q .non H',rt:=Q} (start N vs) H):
  ah P w K mg base CX (k+1) f (PySem.W.fnOf name a p i scope z kV C D F c ct) ps sp:=by
 refine⟨len,fun A outer s H args us vs Q E hr g hb r G=>?_⟩;have Z:=len _ _ _ _ G;have M:K.In s.heap:=g.mod.kin.keeps fun b o e=>(g.bs b o e).1;have l:s.heap.NoLimit:=g.mod.nolimit.keeps fun b o e=>(g.bs b o e).1;have gS:∀y∈ps.zip us,scope.names.lookup y.1=some .local\/(scope.names.lookup y.1=some .cell/\((cellsFrom (s⁻¹+1) scope.names []).lookup y.1).isSome=true):=fun⟨n,v⟩ hy=>by
  rcases S.par n (List.of_mem_zip hy).1 with q|q
  ·exact .inl q
  ·exact .inr ⟨q,PySem.W.cellsFrom_some _ _ _ (.inl q)⟩
 refine codeAny_call_function hr.depth (M _ _ lk) rfl S.co S.gen rfl (PySem.W.codeRec_of M T) (hb _ _ _ _ ?_);refine wpAny_newFunctionEnv_cells S.kind gS fun env U L x=>?_;subst U;refine⟨l.keeps x.toInCall.keep,codeAny_func ?_⟩;obtain⟨t,Y,hq⟩:=dt A outer s H vs Q E (hr.deeper _) G;have I:Inv (dq CX P w K mg base N a scope f c A outer s H E) [] (start N vs) H L:=Kq S hr.hd g Z r x;refine wpAny_mono (Y [] L (start N vs) H _ I hq) (fun X s' d=>?_) fun e s' d=>d;have fin:∀{h:St}{H':Hp}{v:V}{u:Value},Inv (dq CX P w K mg base N a scope f c A outer s H E) [] h H' s'->RelV v u->Q v H'->CE outer P w H s Q u s':=
  fun{h H' v u} J j q=>⟨v,H',J.os,J.bare,J.base,J.hok,j,q⟩
 cases X with
 |ret u=>
  obtain⟨v,h,H',J,j,q⟩:=d;exact fin J j q
 |next=>
  obtain⟨h,H',J,q⟩:=d;exact fin (v:=V.non) (u:=Value.none) J rfl q
 |brk=>
  obtain⟨_,_,_,q⟩:=d;exact False.elim q
 |cont=>
  obtain⟨_,_,_,q⟩:=d;exact False.elim q
section
variable{X:Cx}{x:Str}{p pos:Pos}{e:Expr}{es:List Expr}{t:TA}{id T:String}{r:List V->Hp->VK->Prop}
def oe(r:List V->Hp->VK->Prop)(t:TA):TE:=fun σ H Q=>t σ H fun vs H1=>r vs H1 Q
def zn(hc:g0 X (.builtin id) r)(hg:Gl X x)(d:X.mg x=none)(hv:A7 x=some (.builtin id))(f:PA X (e::es) t)(g:x≠"__name__":=by decide)(i:(x==("__debug__":Str))=false:=by decide)
  (j:starEach (e::es) X.env=(false,eval e X.env)::starEach es X.env:=by rfl) (a:(backTo pos (starEach es X.env)).any (·.1)=false:=by rfl):PE X (.Call (.Name x p) (e::es) [] pos) (oe r t):=by
 intro aa s σ H Q I h;refine wpAny_Call_Name_kw (ke I hg d hv ?_ g i);exact PyProof.Rows.callWith_builtin1 (aT (f pos aa s σ H _ I h) fun us b ⟨vs,H1,l,r1,c⟩=>hc aa b σ H1 vs us Q l r1 c) j a
def jg(hc:g0 X (.type T) r)(hg:Gl X x)(d:X.mg x=none)(hv:A7 x=some (.type T))(f:PA X (e::es) t)(g:x≠"__name__":=by decide)(i:(x==("__debug__":Str))=false:=by decide)
  (j:starEach (e::es) X.env=(false,eval e X.env)::starEach es X.env:=by rfl) (a:(backTo pos (starEach es X.env)).any (·.1)=false:=by rfl):PE X (.Call (.Name x p) (e::es) [] pos) (oe r t):=by
 intro aa s σ H Q I h;refine wpAny_Call_Name_kw (ke I hg d hv ?_ g i);exact PyProof.Rows.callWith_type1 (aT (f pos aa s σ H _ I h) fun us b ⟨vs,H1,l,r1,c⟩=>hc aa b σ H1 vs us Q l r1 c) j a
end
end L2
namespace HT
open PySem PyProof.Rows
def lexLt:List Int->List Int->Bool
 |[],[]=>false
 |[],_::_=>true
 |_::_,[]=>false
 |x::xs,y::ys=>if x=y then lexLt xs ys else decide (x<y)
def tH(x y:Int)(xs ys:List Int):lexLt (x::xs) (y::ys)=if x=y then lexLt xs ys else decide (x<y):=rfl
def Ks:lexLt [] []=false:=rfl
section
open PySem.SeqAt
open PySem.AutoSeq1 (wpAny_loadPart')
open PySem.MeetsSeq PySem.MeetsSeq2 PySem.MeetsSeq3
end
section
variable{prog:Program}{w:World}{A:Around}{E:Ω}{s:Shared}
def sIx(n d:Nat):Option Int->Nat
 |none=>d
 |some v=>if v<0 then(v+(n:Int)).toNat else min v.toNat n
def Gy(n d:Nat):sIx n d none=d:=rfl
def Gz(n d k:Nat):sIx n d (some (k:Int))=min k n:=by
 show(if(k:Int)<0 then((k:Int)+(n:Int)).toNat else min (k:Int).toNat n)=min k n;rw[if_neg ω,Int.toNat_natCast]
def Kt(n d:Nat)(hd:d<=n)(o:Option Int):sIx n d o<=n:=by
 cases o with
 |none=>exact hd
 |some v=>
  show(if v<0 then(v+(n:Int)).toNat else min v.toNat n)<=n
  by_cases hv:v<0
  ·rw[if_pos hv];(first|lia|omega)
  ·rw[if_neg hv];exact Nat.min_le_right _ _
def GA(v:Int)(n d:Nat):(if v<0 then max (v+(n:Int)) 0 else min v (n:Int))=((sIx n d (some v):Nat):Int):=by
 show(if v<0 then max (v+(n:Int)) 0 else min v (n:Int))=(((if v<0 then(v+(n:Int)).toNat else min v.toNat n):Nat):Int)
 by_cases hv:v<0
 ·simp only[if_pos hv];(first|lia|omega)
 ·simp only[if_neg hv];(first|lia|omega)
def Ku(lo hi:Option Int)(n:Nat):Builtin.Slice.sliceAdjust lo hi 1 (n:Int)=(((sIx n 0 lo:Nat):Int),((sIx n n hi:Nat):Int)):=by
 have h1:¬((1:Int)<0):=ω
 unfold Builtin.Slice.sliceAdjust;simp only[h1,if_false];refine Prod.ext ?_ ?_
 ·cases lo with
  |none=>rfl
  |some v=>exact GA v n 0
 ·cases hi with
  |none=>rfl
  |some v=>exact GA v n n
def Kv(i j:Nat):Builtin.Slice.slicePlaces (i:Int) (j:Int) 1=j-i:=by
 unfold Builtin.Slice.slicePlaces;have h1:(1:Int)>0:=ω
 simp only[h1,if_true,Int.ediv_one];split<;>(first|lia|omega)
def GB{v:Value}{o:Option Int}{Q:Option Int->Shared->Prop}(p:IsPart v o)(h:Q o s):wpAny (model prog w) A (Builtin.Slice.slicePartIndex v) Q E s:=by
 cases p with
 |none=>exact slicePart_none h
 |int i t=>exact slicePart_int h
def Kw{d:Addr}{vl c:Value}{lo hi:Option Int}{n:Nat}{Q:Int×Int×Nat->Shared->Prop}(e:s.heap.IsSliceOf d vl c .none)(pl:IsPart vl lo)(f:IsPart c hi)(h:Q (((sIx n 0 lo:Nat):Int),1,sIx n n hi-sIx n 0 lo) s):wpAny (model prog w) A (Builtin.Slice.sliceApplied (.ref d) (pure (n:Int))) Q E s:=by
 obtain⟨os,a,g,b⟩:=id e;unfold Builtin.Slice.sliceApplied Builtin.Slice.sliceFields;refine Af (Af (wpAny_field a b (x:=vl) rfl (Af (wpAny_field a b (x:=c) rfl (Af (wpAny_field a b (x:=.none) rfl (Am ?_)))))));refine Af (slicePart_none ?_);show wpAny _ _ (if((1:Int)==0)=true then _ else _) _ _ s;rw[if_neg ξ];refine Af (GB pl (Af (GB f (Af (Am ?_)))));show wpAny _ _ (match Builtin.Slice.sliceAdjust lo hi 1 (n:Int) with|(lo,hi)=>pure (lo,(1:Int),Builtin.Slice.slicePlaces lo hi 1)) _ _ s;rw[Ku lo hi n];show wpAny _ _ (pure (((sIx n 0 lo:Nat):Int),(1:Int),Builtin.Slice.slicePlaces ((sIx n 0 lo:Nat):Int) ((sIx n n hi:Nat):Int) 1)) _ _ s;rw[Kv];exact Am h
def Kx(xs:Array Value)(i k:Nat):((Ah k).filterMap fun(m:Nat)=>xs[((i:Int)+(m:Int)*1).toNat]?).toArray=((xs.toList.drop i).take k).toArray:=by
 have e:(fun(m:Nat)=>xs[((i:Int)+(m:Int)*1).toNat]?)=fun m=>xs[i+m]?:=by
  funext m
  have:((i:Int)+(m:Int)*1).toNat=i+m:=ω
  rw[this]
 rw[e];have:=pick_run xs i k;rw[List.filterMap_map] at this;have e2:((fun x=>xs[x]?) ∘ fun x=>i+x)=fun m=>xs[i+m]?:=rfl;rw[e2] at this;rw[this]
def Ky{t d:Addr}{a:Array Value}{vl e:Value}{lo hi:Option Int}{Q:Ω}(c:IsTup s.heap t a)(f:s.heap.IsSliceOf d vl e .none)(pl:IsPart vl lo)(o:IsPart e hi)(hw:¬(sIx a.size 0 lo=0/\sIx a.size a.size hi=a.size))(h:Q (.ref s⁻¹) {s with heap:=s.heap.push {cls:=.type "tuple",data:=.seq ((a.toList.drop (sIx a.size 0 lo)).take (sIx a.size a.size hi-sIx a.size 0 lo)).toArray}})(hsz:a.size<=sizeLine):wpAny (model prog w) A (getItem (.ref t) (.ref d)) Q E s:=by
 have b:sizeOk (.seq ((a.toList.drop (sIx a.size 0 lo)).take (sIx a.size a.size hi-sIx a.size 0 lo)).toArray):=by
  show((a.toList.drop (sIx a.size 0 lo)).take (sIx a.size a.size hi-sIx a.size 0 lo)).toArray.size<=sizeLine;rw[Aw,List.length_take,List.length_drop,Array.length_toList];(first|lia|omega)
 have r:sIx a.size a.size hi<=a.size:=Kt _ _ (Ad _) hi;obtain⟨os,g,i,p⟩:=id f;have j:s.TypeIs (.ref d) "slice":=⟨os,g,i⟩;unfold getItem
 try with_reducible refine wpAny_holding ?_
 first|refine Af (Am ?_)|skip
 refine Af (wpAny_sequenceKey c.typeIs ξ ?_);refine Af (wpAny_callSpecial?_slot (name:=Str.ofString "__getitem__") c.typeIs PyProof.Rows.slot_tuple_getitem
  (wpAny_call_entry PyProof.Rows.slot_tuple_getitem c.typeIs entry_tuple_getitem ?_ (args_tuple_getitem _ _)))
 show wpAny _ _ (Builtin.Tuple.tupleItemsOf (.ref t) >>= _) _ _ s;refine Af (tupleItemsOf_ c ?_);refine Af (wpAny_typeOf j ?_);rw[if_pos ξ];refine Af (Kw f pl o ?_);have l:¬((((sIx a.size 0 lo:Nat):Int)==0&&(1:Int)==1&&(sIx a.size a.size hi-sIx a.size 0 lo)==a.size)=true):=by
  intro q;rw[Bool.and_eq_true,Bool.and_eq_true] at q;have u:((sIx a.size 0 lo:Nat):Int)=0:=eq_of_beq q.1.1;have v:sIx a.size a.size hi-sIx a.size 0 lo=a.size:=eq_of_beq q.2;exact hw ⟨ω,ω⟩
 show wpAny _ _ (if(((sIx a.size 0 lo:Nat):Int)==0&&(1:Int)==1&&(sIx a.size a.size hi-sIx a.size 0 lo)==a.size)=true then _ else _) _ _ s;rw[if_neg l,Kx]
 first
  |exact Af (m:=Builtin.Tuple.tupleExact _) (wpAny_newObj_type (Am ⟨_,rfl,Am h⟩) b)
  |exact Af (m:=Builtin.Tuple.tupleExact _) (wpAny_newObj_type (Af (Am (Am ⟨_,rfl,Am h⟩))) b)
  |exact Af (Af (m:=Builtin.Tuple.tupleExact _) (wpAny_newObj_type (Am (Am ⟨_,rfl,Am h⟩)) b))
  |exact Af (Af (m:=Builtin.Tuple.tupleExact _) (wpAny_newObj_type (Am ⟨_,rfl,Am h⟩) b))
end
end HT
namespace L2
open PySem PySem.Spec PyProof.Rows
abbrev TO:=St->Hp->(Option Int->Hp->Prop)->Prop
def PO(X:Cx)(e:Option Expr)(t:TO):Prop:=
 ∀(aa:Ψ)(s:Shared)(σ:St)(H:Hp)(Q:Option Int->Hp->Prop),Inv X aa σ H s->t σ H Q->
  wpAny (model X.prog X.w) X.A (evalPart e X.env) (fun u s'=>∃o H',Inv X aa σ H' s'/\IsPart u o/\Q o H') X.xe s
def DR:TO:=fun _ H Q=>Q none H
def DS(t:TE):TO:=fun σ H Q=>t σ H fun x H1=>∃i,x=.int i/\Q (some i) H1
def intsAre_of{ns:List Int}:∀{us:List Value},Vals (ns.map V.int) us->IntsAre us ns:=by
 induction ns with
 |nil=>intro us r;rw[List.map_nil] at r;cases r;exact .nil
 |cons n ns ih=>
  intro us r;rw[A5] at r;cases r with
  |cons r1 r2=>
   obtain⟨t,e⟩:=r1;subst e;exact .cons n t (ih r2)
section
variable{X:Cx}{e:Expr}{te:TE}{lo hi:Option Expr}{tl th:TO}{pos p2:Pos}
def tK:PO X none DR:=by
 intro aa s σ H Q I h;rw[evalPart_none];exact Am ⟨none,H,I,.none,h⟩
def tP(h:PE X e te):PO X (some e) (DS te):=by
 intro aa s σ H Q I hw;rw[evalPart_some];refine aT (h aa s σ H _ I hw) fun u c ⟨x,H1,b,r1,a⟩=>?_;obtain⟨i,rfl,q⟩:=a;obtain⟨t,rfl⟩:=r1;exact⟨some i,H1,b,.int i t,q⟩
def DT(X:Cx)(r:V->Option Int->Option Int->Hp->VK->Prop):Prop:=
 ∀(aa:Ψ)(s:Shared)(σ:St)(H:Hp)(x:V)(v vl a:Value)(lo hi:Option Int)(b:Addr)(Q:VK),Inv X aa σ H s->RelV x v->s.heap.IsSliceOf b vl a .none->IsPart vl lo->IsPart a hi->r x lo hi H Q->
  ∃T id,typeLookup (.type T) "__getitem__"=pure (some (.builtin id))/\s.TypeIs v T/\wpAny (model X.prog X.w) X.A (getItem v (.ref b)) (EP X aa σ Q) X.xe s
def DU(r:V->Option Int->Option Int->Hp->VK->Prop)(te:TE)(tl th:TO):TE:=fun σ H Q=>te σ H fun x H1=>tl σ H1 fun l H2=>th σ H2 fun u a=>r x l u a Q
def tZ{r:V->Option Int->Option Int->Hp->VK->Prop}(hr:DT X r)(C:PE X e te)(D:PO X lo tl)(E:PO X hi th):PE X (.Subscript e (.Slice lo hi none p2) pos) (DU r te tl th):=by
 intro aa s σ H Q I h;refine Subscript_ (aT (C aa s σ H _ I h) fun v f ⟨x,H1,F,r1,g⟩=>?_);refine wpAny_Slice (aT (D aa f σ H1 _ F g) fun vl i ⟨l,H2,G,pl,j⟩=>aT (E aa i σ H2 _ G j) fun c a ⟨u,d,I3,o,p⟩=>?_);rw[evalPart_none];refine Am ?_;have J:Inv X aa σ d {a with heap:=a.heap.push {cls:=.type "slice",data:=.fields #[vl,c,.none]}}:=I3.kept (t':=a.toks) fun b L q=>Ai _ q;obtain⟨T,id,y,z,hg⟩:=hr aa {a with heap:=a.heap.push {cls:=.type "slice",data:=.fields #[vl,c,.none]}} σ d x v vl c l u a⁻¹ Q J r1 (Heap.IsSliceOf.new ..) pl o p;show wpAny (model X.prog X.w) X.A (subscriptTail e (.Slice lo hi none p2) v (.ref a⁻¹)) (EP X aa σ Q) X.xe {a with heap:=a.heap.push {cls:=.type "slice",data:=.fields #[vl,c,.none]}};exact tail_any (ops:=[.ref a⁻¹,v]) z y hg (by with_unfolding_all rfl)
def cZ(xs:List V)(lo hi:Option Int):List V:=(xs.drop (HT.sIx xs.length 0 lo)).take (HT.sIx xs.length xs.length hi-HT.sIx xs.length 0 lo)
def GC(xs:List V)(lo hi:Option Int):(cZ xs lo hi).length<=xs.length:=by
 unfold cZ;rw[List.length_take,List.length_drop];(first|lia|omega)
def DW(K:Ag):V->Option Int->Option Int->Hp->VK->Prop:=fun x lo hi H Q=>∃a xs,x=.ref a/\SqT K H a xs/\
 ¬(HT.sIx xs.length 0 lo=0/\HT.sIx xs.length xs.length hi=xs.length)/\∀p,H p=none->Q (.ref p) (upd H p (.tup (cZ xs lo hi)))
def Kz:DT X (DW X.K):=by
 intro aa s σ H x v vl i lo hi j Q I e f pl g h;obtain⟨a,xs,rfl,hx,hw,q⟩:=h;cases e;obtain⟨ad,r,d,hz⟩:=I.tuple hx;have c:ad.toArray.size=xs.length:=by rw[Aw];exact r.length.symm
 refine⟨"tuple",_,PyProof.Rows.slot_tuple_getitem.lookup,d.typeIs,?_⟩;refine HT.Ky d f pl g (by rw[c];exact hw) ?_ (by rw[c];exact hz);rw[c];refine⟨.ref s⁻¹,_,I.laid (t':=s.toks) (o:=.tup (cZ xs lo hi)) (fun b l q=>Ai _ q) (Ad _) ?_,rfl,q _ (I.hok.fresh (Ad _))⟩;exact⟨Ae (GC xs lo hi) hz,_,(r.drop (HT.sIx xs.length 0 lo)).take (HT.sIx xs.length xs.length hi-HT.sIx xs.length 0 lo),IsTup.new _ _⟩
end
def hZ(n:Nat)(i:Int):Option Nat:=if 0<=i then(if i<n then some i.toNat else none) else if -(n:Int)<=i then some (i+n).toNat else none
def atI{a:Type}(xs:List a)(i:Int):Option a:=(hZ xs.length i).bind fun j=>xs[j]?
def GD{n:Nat}{i:Int}{j:Nat}(h:hZ n i=some j):seqIndex? i n=some j/\j<n/\-(n:Int)<=i/\i<n:=by
 unfold hZ at h
 by_cases a:0<=i
 ·rw[if_pos a] at h
  by_cases h1:i<n
  ·rw[if_pos h1] at h
   have e:i.toNat=j:=AV h;exact⟨by rw[seqIndex_of a h1,e],ω,ω,h1⟩
  ·rw[if_neg h1] at h;cases h
 ·rw[if_neg a] at h
  by_cases h1:-(n:Int)<=i
  ·rw[if_pos h1] at h
   have e:(i+n).toNat=j:=AV h;exact⟨by rw[seqIndex_neg ω h1,e],ω,h1,ω⟩
  ·rw[if_neg h1] at h;cases h
def GE{a:Type}{xs:List a}{i:Int}{v:a}(h:atI xs i=some v):∃j,seqIndex? i xs.length=some j/\xs[j]?=some v/\j<xs.length/\-(xs.length:Int)<=i/\i<xs.length:=by
 unfold atI at h;cases e:hZ xs.length i with
 |none=>rw[e] at h;cases h
 |some j=>
  rw[e] at h;obtain⟨h1,h2,b,c⟩:=GD e;exact⟨j,h1,h,h2,b,c⟩
def zi{a:Type}{xs:List a}{j:Nat}{v:a}(h:xs[j]?=some v):atI xs (j:Int)=some v:=by
 have b:j<xs.length:=(List.getElem?_eq_some_iff.mp h).1;have e:hZ xs.length (j:Int)=some j:=by
  unfold hZ;rw[if_pos ω,if_pos ω];simp
 unfold atI;rw[e];exact h
def KA(b:Expr):Prop:=∀o i,subscripted b false o i=operate [o,i] (getItem o i)
def DX(X:Cx)(r:R2):Prop:=
 ∀(ay slice:Expr)(aa:Ψ)(s:Shared)(σ:St)(H:Hp)(x y:V)(v u:Value)(Q:VK),Inv X aa σ H s->RelV x v->RelV y u->r x y H Q->
  subscripted slice false v u=operate [v,u] (getItem v u)->wpAny (model X.prog X.w) X.A (subscriptTail ay slice v u) (EP X aa σ Q) X.xe s
def GF(X:Cx)(id:String)(r:V->List V->Hp->VK->Prop):Prop:=
 ∀(aa:Ψ)(s:Shared)(σ:St)(H:Hp)(x:V)(xs:List V)(v:Value)(us:List Value)(Q:VK),Inv X aa σ H s->RelV x v->Vals xs us->r x xs H Q->
  wpAny (model X.prog X.w) X.A (call (.builtin id) (v::us)) (EP X aa σ Q) X.xe s
section
variable{X:Cx}{a b:Expr}{ta tb:TE}{pos:Pos}
def zw{r:R2}(hr:DX X r)(f:PE X a ta)(hb:PE X b tb)(g:KA b):PE X (.Subscript a b pos) (cy r ta tb):=by
 intro aa s σ H Q I h;exact Subscript_ (lL f hb I h fun v u c x y H2 i d e q=>hr a b aa c σ H2 x y v u Q i d e q (g _ _))
def gA(K:Ag):R2:=fun x y H Q=>∃p xs i v,x=.ref p/\y=.int i/\SqL K H p xs/\atI xs i=some v/\Q v H
def l8(K:Ag):R2:=fun x y H Q=>∃p xs i v,x=.ref p/\y=.int i/\SqT K H p xs/\atI xs i=some v/\Q v H
def zx:DX X (gA X.K):=by
 intro ay slice aa s σ H x y v u Q I e f h b;obtain⟨p,xs,i,z,rfl,rfl,hq,g,q⟩:=h;cases e;obtain⟨t,rfl⟩:=f;obtain⟨ad,r,pl,hz⟩:=I.list hq;obtain⟨j,h1,h2,D,l,o⟩:=GE g;obtain⟨w,c,A⟩:=r.get h2;have C:=r.length;have E:=ek;have fin:EP X aa σ Q w s:=⟨z,H,I,A,q⟩
 by_cases d:0<=i
 ·have a:i.toNat=j:=by
   rw[seqIndex_of d o] at h1;exact AV h1
  exact item_listR pl.isList d ω (by rw[a];simpa using c) fin b
 ·have a:(i+(ad.toArray.size:Int)).toNat=j:=by
   rw[seqIndex_neg ω l] at h1;rw[Aw,<-C];exact AV h1
  exact subscriptTail_builtinR (x:=w) pl.isList.typeIs slot_list_getitem.lookup
   (wpAny_getItem_list_neg (Q:=fun r s'=>r=w/\EP X aa σ Q r s') pl.isList ω (by rw[Aw]<;>(first|lia|omega)) ω (by rw[a];simpa using c) ⟨rfl,fin⟩) b
def zC:DX X (l8 X.K):=by
 intro ay slice aa s σ H x y v u Q I a b h c;obtain⟨p,xs,i,z,rfl,rfl,hq,d,q⟩:=h;cases a;obtain⟨t,rfl⟩:=b;obtain⟨ad,r,pl,hz⟩:=I.tuple hq;obtain⟨j,h1,h2,l,o,A⟩:=GE d;obtain⟨w,e,f⟩:=r.get h2;have g:=r.length;have C:=ek;have fin:EP X aa σ Q w s:=⟨z,H,I,f,q⟩;exact subscriptTail_builtinR (x:=w) pl.typeIs slot_tuple_getitem.lookup
  (getItem_tuple (j:=j) (Q:=fun r s'=>r=w/\EP X aa σ Q r s') pl ω ω (by rw[Aw,<-g];exact h1) (by simpa using e) ⟨rfl,fin⟩) c
def KB(ad:List Value)(n j:Nat)(u:Value):Obj.mapSeq (·.setIfInBounds j u) {cls:=.type "list",data:=.seq ad.toArray n}={cls:=.type "list",data:=.seq (ad.set j u).toArray n}:=by
 simp[Obj.mapSeq]
def Inv.lst{aa:Ψ}{σ:St}{H:Hp}{s:Shared}{p:Addr}{xs:List V}(I:Inv X aa σ H s)(h:H p=some (.lst xs)):∃(ad:List Value)(n:Nat),Vals xs ad/\s.heap.get? p=some {cls:=.type "list",data:=.seq ad.toArray n}/\xs.length<=sizeLine:=by
 obtain⟨z,ad,n,r,e⟩:=I.hok p _ h;exact⟨ad,n,r,e,z⟩
def Inv.lstUpd{aa:Ψ}{σ:St}{H:Hp}{s:Shared}{p:Addr}{xs ys:List V}{ad its':List Value}{n a:Nat}{f:Obj->Obj}(I:Inv X aa σ H s)(h:H p=some (.lst xs))(d:s.heap.get? p=some {cls:=.type "list",data:=.seq ad.toArray n})(c:f {cls:=.type "list",data:=.seq ad.toArray n}={cls:=.type "list",data:=.seq its'.toArray a})(r:Vals ys its')(hz:ys.length<=sizeLine)(t:Nat):Inv X aa σ (upd H p (.lst ys)) {s with heap:=s.heap.update p f,toks:=t}:=by
 have e:(s.heap.update p f).get? p=some {cls:=.type "list",data:=.seq its'.toArray a}:=by
  rw[Heap.get?_update_self f d (by rw[c]<;>rfl),c]
 refine I.write (x:=p) (e:=p) (by rw[h];trivial) (.inl rfl) (fun b u hb q=>(Heap.get?_update_other _ _ (Ne.symm hb)).trans q) ⟨_,e⟩ ?_;exact⟨hz,its',a,r,e⟩
def KC:V->V->V->Hp->(Hp->Prop)->Prop:=fun o i v H Q=>∃p xs k j,o=.ref p/\i=.int k/\H p=some (.lst xs)/\hZ xs.length k=some j/\Q (upd H p (.lst (xs.set j v)))
def set_list:sG X KC:=by
 intro aa s σ H o i v y z u Q I g l w h;obtain⟨p,xs,k,j,rfl,rfl,hp,x,q⟩:=h;cases g;obtain⟨t,rfl⟩:=l;obtain⟨ad,n,r,a,hz⟩:=I.lst hp;obtain⟨h1,h2,c,d⟩:=GD x;have b:=r.length;have A:=ek;have f:Inv X aa σ (upd H p (.lst (xs.set j v))) {s with heap:=s.heap.update p (Obj.mapSeq (·.setIfInBounds j u))}:=
  I.lstUpd hp a (KB ad n j u) (r.set w j) (by rw[List.length_set];exact hz) s.toks
 by_cases e:0<=k
 ·have hk:k.toNat=j:=by
   rw[seqIndex_of e d] at h1;exact AV h1
  exact PySem.W.ki_setAt a e ω (by rw[Aw,<-b];exact d) (by rw[hk];exact⟨_,f,q⟩)
 ·have hk:(k+(ad.toArray.size:Int)).toNat=j:=by
   rw[seqIndex_neg ω c] at h1;rw[Aw,<-b];exact AV h1
  exact PySem.W.ki_setBack a ω (by rw[Aw,<-b];exact c) ω (by rw[hk];exact⟨_,f,q⟩)
def KD(lo hi:Option Int)(n:Nat):(sliceBounds lo hi none n).1=((HT.sIx n 0 lo:Nat):Int)/\(sliceBounds lo hi none n).2.1=((HT.sIx n n hi:Nat):Int)/\(sliceBounds lo hi none n).2.2=1:=by
 refine⟨?_,?_,rfl⟩
 ·cases lo with
  |none=>simp[sliceBounds,HT.sIx]
  |some i=>
   simp only[sliceBounds,HT.sIx,Option.getD_none,show(1:Int)>0 from ξ,if_true]
   by_cases h:i<0
   ·simp only[h,if_true]<;>(first|lia|omega)
   ·simp only[h,if_false]<;>(first|lia|omega)
 ·cases hi with
  |none=>simp[sliceBounds,HT.sIx]
  |some i=>
   simp only[sliceBounds,HT.sIx,Option.getD_none,show(1:Int)>0 from ξ,if_true]
   by_cases h:i<0
   ·simp only[h,if_true]<;>(first|lia|omega)
   ·simp only[h,if_false]<;>(first|lia|omega)
def KF(ad:List Value)(lo hi:Option Int):slicePick ad.toArray lo hi none=((ad.drop (HT.sIx ad.length 0 lo)).take (HT.sIx ad.length ad.length hi-HT.sIx ad.length 0 lo)).toArray:=by
 obtain⟨h1,h2,a⟩:=KD lo hi ad.toArray.size;unfold slicePick;rw[h1,h2,a];simp only[sliceRange_one,pick_run,Aw]<;>rfl
def ma(K:Ag):V->Option Int->Option Int->Hp->VK->Prop:=fun x lo hi H Q=>∃a xs,x=.ref a/\SqL K H a xs/\∀p,H p=none->Q (.ref p) (upd H p (.lst (cZ xs lo hi)))
def Cf:DT X (ma X.K):=by
 intro aa s σ H x v vl i lo hi j Q I d e pl f h;obtain⟨a,xs,rfl,hx,q⟩:=h;cases d;obtain⟨ad,r,c,hz⟩:=I.list hx;have g:=r.length;refine⟨"list",_,slot_list_getitem.lookup,c.isList.typeIs,?_⟩;refine wpAny_getItem_list_slice c.isList e pl f .none (by simp) ?_ (by rw[Aw]<;>(first|lia|omega));rw[KF,<-g];refine⟨.ref s⁻¹,_,I.laid (t':=s.toks) (o:=.lst (cZ xs lo hi)) (fun b l q=>Ai _ q) (Ad _) ?_,rfl,q _ (I.hok.fresh (Ad _))⟩;exact⟨Ae (GC xs lo hi) hz,_,0,(r.drop (HT.sIx xs.length 0 lo)).take (HT.sIx xs.length xs.length hi-HT.sIx xs.length 0 lo),AL _ rfl⟩
def zk:g0 X (.builtin "len") (fun xs H Q=>∃p ys,xs=[.ref p]/\(SqL X.K H p ys\/SqT X.K H p ys)/\Q (.int ys.length) H):=by
 intro aa s σ H xs us Q I r h;obtain⟨p,ys,rfl,hq,q⟩:=h;obtain⟨u,rfl,c⟩:=vals1 r;cases c;have d:=ek;rcases hq with hq|hq
 ·obtain⟨ad,a,pl,hz⟩:=I.list hq
  have b:=a.length;exact Calls.call_len_list pl.isList (by simp only[Aw]<;>(first|lia|omega)) ⟨.int ys.length,H,I.tok _,⟨s.toks+1,by rw[Aw,b]⟩,q⟩
 ·obtain⟨ad,a,pl,hz⟩:=I.tuple hq
  have b:=a.length;exact len_tuple pl (by simp only[Aw]<;>(first|lia|omega)) ⟨.int ys.length,H,I.tok _,⟨s.toks+1,by rw[Aw,b]⟩,q⟩
def zU:g0 X (.type "list") (fun xs H Q=>∃p ys,xs=[.ref p]/\(SqL X.K H p ys\/SqT X.K H p ys)/\∀l,H l=none->Q (.ref l) (upd H l (.lst ys))):=by
 intro aa s σ H xs us Q I r h;obtain⟨p,ys,rfl,hq,q⟩:=h;obtain⟨u,rfl,f⟩:=vals1 r;cases f;have fin:∀(ad:List Value),Vals ys ad->ys.length<=sizeLine->∀(h':Heap)(c:Nat),(∀b o',s.heap.get? b=some o'->h'.get? b=some o')->
   h'.get? s⁻¹=some {cls:=.type "list",dict:=none,data:=.seq ad.toArray c,slots:=#[]}->EP X aa σ Q (.ref s⁻¹) {s with heap:=h'}:=fun ad a hz h' c kp e=>
  ⟨.ref s⁻¹,_,I.laid (t':=s.toks) kp (Ad _) (show zah X.prog X.w _ h' _ (.lst ys) from⟨hz,ad,c,a,e⟩),rfl,q _ (I.hok.fresh (Ad _))⟩
 rcases hq with hq|hq
 ·obtain⟨ad,a,pl,hz⟩:=I.list hq
  have g:=a.length;obtain⟨o,d,hc,n,hd⟩:=pl.isList;exact call_list_seq p (.inl rfl) d hc hd (fun h' c kp e=>fin ad a hz h' c kp e) (by simp only[Aw]<;>(first|lia|omega))
 ·obtain⟨ad,a,pl,hz⟩:=I.tuple hq
  have g:=a.length;obtain⟨o,d,hc,n,hd⟩:=pl;exact call_list_seq p (.inr rfl) d hc hd (fun h' c kp e=>fin ad a hz h' c kp e) (by simp only[Aw]<;>(first|lia|omega))
def KG:g0 X (.type "tuple") (fun xs H Q=>∃p ys,xs=[.ref p]/\((SqL X.K H p ys/\∀l,H l=none->Q (.ref l) (upd H l (.tup ys)))\/(SqT X.K H p ys/\Q (.ref p) H))):=by
 intro aa s σ H xs us Q I r h;obtain⟨p,ys,rfl,h⟩:=h;obtain⟨u,rfl,c⟩:=vals1 r;cases c;rcases h with ⟨hq,q⟩|⟨hq,q⟩
 ·obtain⟨ad,a,pl,hz⟩:=I.list hq
  have f:=a.length;refine call_tuple_list pl.isList (fun h' kp=>?_) (by simp only[Aw]<;>(first|lia|omega));have I1:Inv X aa σ H {s with heap:=h'}:=I.kept (t':=s.toks) kp;have d:Inv X aa σ (upd H h'.objs.size (.tup ys)) {s with heap:=h'.push {cls:=.type "tuple",data:=.seq ad.toArray}}:=
   I1.laid (t':=s.toks) (fun b o e=>Ai _ e) (Ad _) (show zah X.prog X.w _ _ _ (.tup ys) from⟨hz,ad,a,IsTup.new _ _⟩)
  exact⟨.ref h'.objs.size,_,d,rfl,q _ (I1.hok.fresh (Ad _))⟩
 ·obtain⟨ad,a,pl,hz⟩:=I.tuple hq
  exact call_tuple_same pl ⟨.ref p,H,I,rfl,q⟩
def GG(K:Ag)(T:String)(x:V)(H:Hp):Prop:=match x with
 |.str _=>T="str"
 |.int _=>T="int"
 |.ref p=>(T="list"/\∃xs,SqL K H p xs)\/(T="tuple"/\∃o,K.lookup p=some o/\o.cls=.type "tuple"/\o.dict=none) \/
   (T="dict"/\((∃kvs,H p=some (.dK kvs))\/∃kvs,H p=some (.dT kvs)))\/(T="set"/\∃S n,H p=some (.set S n))
 |_=>False
def KH{aa:Ψ}{σ:St}{H:Hp}{s:Shared}{T:String}{x:V}{v:Value}(I:Inv X aa σ H s)(r:RelV x v)(ty:GG X.K T x H):s.TypeIs v T/\∀a,v=.ref a->∃b,s.heap.get? a=some b/\b.dict=none:=by
 cases x with
 |str z=>
  obtain⟨t,rfl⟩:=r;cases(show T="str" from ty);exact⟨typeIs_str s z t,fun _ e=>nomatch e⟩
 |int i=>
  obtain⟨t,rfl⟩:=r;cases(show T="int" from ty);exact⟨typeIs_int s i t,fun _ e=>nomatch e⟩
 |ref p=>
  cases r;rcases ty with ⟨rfl,xs,hq⟩|⟨rfl,o,hk,hc,hd⟩|⟨rfl,hk⟩|⟨rfl,S,n,hk⟩
  ·obtain⟨ad,_,pl,_⟩:=I.list hq
   refine⟨pl.isList.typeIs,fun a e=>?_⟩;cases e;obtain⟨o,n,e,c,hd,_⟩:=pl;exact⟨o,e,hd⟩
  ·refine⟨⟨o,I.kIn p o hk,hc⟩,fun a e=>?_⟩
   cases e;exact⟨o,I.kIn _ o hk,hd⟩
  ·have z:∃o,s.heap.get? p=some o/\o.ExactDict:=by
    rcases hk with ⟨kvs,hk⟩|⟨kvs,hk⟩
    ·obtain⟨_,_,_,_,o,_,_,e,ex,_⟩:=I.hok p _ hk
     exact⟨o,e,ex⟩
    ·obtain⟨_,_,_,_,o,_,_,e,ex,_⟩:=I.hok p _ hk
     exact⟨o,e,ex⟩
   obtain⟨o,e,ex⟩:=z;refine⟨⟨o,e,ex.1⟩,fun a e2=>?_⟩;cases e2;exact⟨o,e,ex.2.1⟩
  ·obtain⟨o,_,_,_,e,ex,_⟩:=I.hok p _ hk
   refine⟨⟨o,e,ex.1⟩,fun a e2=>?_⟩;cases e2;exact⟨o,e,ex.2.1⟩
 |_=>exact False.elim ty
def KI(K:Ag)(T:String)(r:V->List V->Hp->VK->Prop)(to:TE)(t:TA):TE:=fun σ H Q=>to σ H fun x H1=>GG K T x H1/\t σ H1 fun xs H2=>r x xs H2 Q
variable{o e:Expr}{es:List Expr}{to:TE}{t:TA}{name:Str}{bJ aA:Pos}{T id:String}{r:V->List V->Hp->VK->Prop}
def GH(j:PlainAttrs T)(slot:Slot T name id)(l:typeOf (.builtin id)=pure (.type "method_descriptor"))(p:GF X id r)(q:PE X o to)(u:PA X (e::es) t)(w:attributeBase o name X.env (eval o X.env)=eval o X.env:=by rfl)
  (y:((backTo aA (starEach (e::es) X.env)).all (fun x=>!x.1)&&(backToKw aA (keywordEach [] X.env)).all (fun x=>x.1.isSome)
   && decide ((e::es).length+([]:List Keyword).length+(if([]:List Keyword).isEmpty then 0 else 1)<30))=true:=by rfl)
  (z:(bJ.endLine==aA.line)=true:=by rfl) (A:starEach (e::es) X.env=(false,eval e X.env)::starEach es X.env:=by rfl) (C:(backTo aA (starEach es X.env)).any (·.1)=false:=by rfl) :
  PE X (.Call (.Attribute o name bJ) (e::es) [] aA) (KI X.K T r to t):=by
 intro aa s σ H Q I h;refine wpAny_Call_method_late w y z rfl (aT (q aa s σ H _ I h) fun v d ⟨x,H1,c,r1,ty,f⟩=>?_);obtain⟨h1,h2⟩:=KH c r1 ty;refine⟨T,id,j,slot,l,h1,h2,?_⟩;have b:=u aA aa d σ H1 _ c f;rw[A] at b ⊢;refine Calls.callWith_builtin (by show(false|| (backTo aA (starEach es X.env)).any (·.1))=false;rw[C]<;>rfl) (Calls.evalArgs_plain ?_);exact aT b fun us g ⟨vs,H2,D,r2,i⟩=>p aa g σ H2 x vs v us Q D r1 r2 i
end
def KJ(X:Cx)(id:String)(r:V->List V->Hp->VK->Prop):Prop:=
 ∀(aa:Ψ)(s:Shared)(σ:St)(H:Hp)(x:V)(xs:List V)(v:Value)(us:List Value)(Q:VK),Inv X aa σ H s->RelV x v->Vals xs us->r x xs H Q->
  wpAny (model X.prog X.w) X.A (call (.builtin id) (v::us)) (EP X aa σ Q) X.xe s
def Vals.one{x:V}{us:List Value}(h:Vals [x] us):∃u,us=[u]/\RelV x u:=by
 cases h with|cons r t=>cases t;exact⟨_,rfl,r⟩
def Vals.two{x y:V}{us:List Value}(h:Vals [x,y] us):∃u v,us=[u,v]/\RelV x u/\RelV y v:=by
 cases h with|cons r t=>obtain⟨v,rfl,q⟩:=Vals.one t;exact⟨_,_,rfl,r,q⟩
def Vals.zero:∀{us:List Value},Vals [] us->us=[]
 |_,.nil=>rfl
def Vals.eraseIdx:∀{xs:List V}{us:List Value}(i:Nat),Vals xs us->Vals (xs.eraseIdx i) (us.eraseIdx i)
 |_,_,_,.nil=>.nil
 |_,_,0,.cons _ t=>t
 |_,_,i+1,.cons r t=>.cons r (Vals.eraseIdx i t)
def Vals.rep{xs:List V}{us:List Value}(h:Vals xs us):∀k:Nat,Vals (Aq k xs).flatten (Aq k us).flatten
 |0=>.nil
 |k+1=>by
  rw[List.replicate_succ,List.replicate_succ,List.flatten_cons,List.flatten_cons];exact Vals.append h (Vals.rep h k)
def foldl_rep(ad:List Value):∀(k:Nat)(acc:List Value),
  List.foldl (fun x1 x2=>x1++x2) acc.toArray (Aq k ad.toArray)=(acc++(Aq k ad).flatten).toArray
 |0,acc=>by simp
 |k+1,acc=>by
  have e:acc.toArray++ad.toArray=(acc++ad).toArray:=by simp
  have e2:(acc++ad)++(Aq k ad).flatten=acc++(Aq (k+1) ad).flatten:=by
   rw[List.replicate_succ,List.flatten_cons,List.append_assoc]
  rw[<-e2,<-foldl_rep ad k (acc++ad),<-e,List.replicate_succ,List.foldl_cons]
section
variable{X:Cx}{aa:Ψ}{σ:St}{H:Hp}{s:Shared}{l b:Addr}{xs ys zs:List V}
def Inv.lset{ad its':List Value}{n:Nat}{f:Array Value->Array Value}{t':Nat}(I:Inv X aa σ H s)(b:H l=some (.lst xs))(e:s.heap.get? l=some {cls:=.type "list",data:=.seq ad.toArray n})(c:f ad.toArray=its'.toArray)(hv:Vals ys its')(hz:ys.length<=sizeLine):Inv X aa σ (upd H l (.lst ys)) {s with heap:=s.heap.update l (Obj.mapSeq f),toks:=t'}:=by
 have q:=PySem.IsL.update e f;rw[c] at q;refine I.write (x:=l) (e:=l) (by rw[b];exact trivial) (.inl rfl) (fun b' u hb a=>(Heap.get?_update_other s.heap (Obj.mapSeq f) (Ne.symm hb)).trans a) ⟨_,q⟩ ?_;exact⟨hz,its',_,hv,q⟩
def Inv.lnew{ad:List Value}{t':Nat}(I:Inv X aa σ H s)(hv:Vals ys ad)(hz:ys.length<=sizeLine):Inv X aa σ (upd H s⁻¹ (.lst ys)) {s with heap:=s.heap.push {cls:=.type "list",data:=.seq ad.toArray},toks:=t'}:=
 I.laid (fun _ _ q=>Ai _ q) (Ad _) ⟨hz,ad,0,hv,AL _ rfl⟩
def Inv.fresh(I:Inv X aa σ H s):H s⁻¹=none:=I.hok.fresh (Ad _)
def Inv.lstM(I:Inv X aa σ H s)(a:H l=some (.lst xs)):xs.length<=sizeLine/\∃(ad:List Value)(n:Nat),Vals xs ad/\xs.length=ad.length/\s.heap.get? l=some {cls:=.type "list",data:=.seq ad.toArray n}:=by
 obtain⟨z,ad,n,r,e⟩:=I.hok l _ a;exact⟨z,ad,n,r,r.length,e⟩
def KL{n:Nat}(h:n<=sizeLine):Builtin.List.listTooLong n=false:=by
 unfold Builtin.List.listTooLong;exact decide_eq_false ω
end
section
variable{X:Cx}
def zlb:V->List V->Hp->VK->Prop:=fun x vs H Q=>∃l xs y,x=.ref l/\vs=[y]/\H l=some (.lst xs)/\xs.length<sizeLine/\Q .non (upd H l (.lst (xs++[y])))
def DY:KJ X "list.append" zlb:=by
 intro aa s σ H x vs v us Q I b c h;obtain⟨l,xs,y,rfl,rfl,a,hz,q⟩:=h;cases b;obtain⟨u,rfl,d⟩:=c.one;obtain⟨z,ad,n,r,f,e⟩:=I.lstM a;refine call_meets F.slot_list_append ⟨_,e,rfl⟩ F.entry_list_append (F.args_list_append_2 _ _) (PySem.list_append l ad.toArray n u (by rw[Aw];(first|lia|omega))) ⟨e,?_⟩;refine⟨.non,_,I.lset (its':=ad++[u]) a e (by simp) (r.append (.cons d .nil)) ?_,rfl,q⟩;rw[AZ,List.length_singleton];(first|lia|omega)
def t4:R2:=fun x y H Q=>∃l b xs zs,x=.ref l/\y=.ref b/\H l=some (.lst xs)/\H b=some (.lst zs)/\xs.length+zs.length<=sizeLine/\∀p,H p=none->Q (.ref p) (upd H p (.lst (xs++zs)))
def KM:cV X (binaryOp .Add) t4:=by
 intro aa s σ H x y v u Q I c d h;obtain⟨l,b,xs,zs,rfl,rfl,f,g,hz,q⟩:=h;cases c;cases d;obtain⟨z,ad,n,r,j,e⟩:=I.lstM f;obtain⟨o,a,n2,r2,p,e2⟩:=I.lstM g;refine PySem.P.add_list e e2 ?_ (by rw[Aw,Aw];(first|lia|omega));have i:ad.toArray++a.toArray=(ad++a).toArray:=by simp
 rw[i];exact⟨.ref _,_,I.lnew (t':=s.toks) (r.append r2) (by rw[AZ];(first|lia|omega)),rfl,q _ I.fresh⟩
def DZ:R2:=fun x y H Q=>∃l k xs,x=.ref l/\y=.int k/\H l=some (.lst xs)/\-(2 ^ 63)<=k/\k<2 ^ 63/\xs.length*k.toNat<=sizeLine/\
 ∀p,H p=none->Q (.ref p) (upd H p (.lst (Aq k.toNat xs).flatten))
def len_rep{a:Type}(xs:List a)(k:Nat):(Aq k xs).flatten.length=k*xs.length:=by
 induction k with
 |zero=>simp
 |succ k ih=>rw[List.replicate_succ,List.flatten_cons,AZ,ih,Nat.succ_mul,Nat.add_comm]
def D0:cV X (binaryOp .Mult) DZ:=by
 intro aa s σ H x y v u Q I g i h;obtain⟨l,k,xs,rfl,rfl,j,h1,h2,hz,q⟩:=h;cases g;obtain⟨t,rfl⟩:=i;obtain⟨z,ad,n,r,o,e⟩:=I.lstM j;have p:ad.toArray.size*k.toNat<=sizeLine:=by rw[Aw,<-o];exact hz
 have c:¬ad.toArray.size*k.toNat>(2 ^ 63-1) / 8:=by
  have:(sizeLine:Nat)<=(2 ^ 63-1) / 8:=ξ
  (first|lia|omega)
 have d:¬(!Builtin.List.listFitsIndex k)=true:=by
  rw[fitsIndex_both h1 h2];exact AF
 have b:¬Builtin.List.listTooLong (ad.toArray.size*k.toNat)=true:=by
  rw[KL p];exact AF
 have f:List.foldl (fun x1 x2=>x1++x2) #[] (Aq (if ad.toArray.isEmpty=true then 0 else k.toNat) ad.toArray)=(Aq k.toNat ad).flatten.toArray:=by
  have w:∀m:Nat,List.foldl (fun x1 x2=>x1++x2) #[] (Aq m ad.toArray)=(Aq m ad).flatten.toArray:=fun m=>by
   have:=foldl_rep ad m [];rw[List.nil_append] at this;exact this
  rw[w];cases ad with
  |nil=>simp
  |cons a r'=>rw[if_neg (by simp)]
 refine wpAny_binaryOp_repeat_ref (T:="list") (U:="int") ξ ⟨_,e,rfl⟩ (fun s'=>typeIs_int s' k t) noFill_list_mul F.fills_int_mul F.slot_int_rmul repeat_list F.slot_int_index.lookup
  (call_meets F.slot_int_rmul (typeIs_int s k t) F.entry_int_rmul (F.args_int_rmul_2 _ _) (int___rmul___int_list k t l ad.toArray n)
   ⟨e,rfl,⟨_,e,rfl⟩,call_meets F.slot_list_mul ⟨_,e,rfl⟩ F.entry_list_mul (F.args_list_mul_2 _ _) (AutoListH.list___mul___list_int_3 l ad.toArray n k t d c b) ⟨e,?_⟩⟩)
 rw[f];exact⟨.ref _,_,I.lnew (t':=s.toks) (r.rep k.toNat) (by rw[len_rep,Nat.mul_comm];exact hz),rfl,q _ I.fresh⟩
end
section
variable{prog:Program}{w:World}{A:Around}{E:Ω}{s:Shared}
set_option maxRecDepth 100000 in
end
section
variable{κ:Type}[DecidableEq κ]
def b0(kvs:List (κ×V))(k:κ):Option V:=(kvs.find? fun a=>decide (a.1=k)).map (·.2)
def putK(kvs:List (κ×V))(k:κ)(v:V):List (κ×V):=
 if(kvs.any fun a=>decide (a.1=k))=true then kvs.map (fun a=>if a.1=k then(a.1,v) else a) else kvs++[(k,v)]
def D3{p:κ×V}{r:List (κ×V)}{k:κ}(e:p.1=k):b0 (p::r) k=some p.2:=by simp[b0,List.find?_cons,e]
def D4{p:κ×V}{r:List (κ×V)}{k:κ}(e:¬p.1=k):b0 (p::r) k=b0 r k:=by simp[b0,List.find?_cons,e]
def GJ(k:κ):∀kvs:List (κ×V),(kvs.any fun a=>decide (a.1=k))=(b0 kvs k).isSome
 |[]=>rfl
 |p::r=>by
  rw[List.any_cons]
  by_cases e:p.1=k
  ·simp only[D3 e,decide_eq_true e,Bool.true_or,Option.isSome_some]
  ·rw[D4 e,decide_eq_false e,Bool.false_or];exact GJ k r
def GK(kvs:List (κ×V))(k:κ)(v:V):(putK kvs k v).length<=kvs.length+1:=by
 unfold putK;split
 ·rw[Aa];(first|lia|omega)
 ·rw[AZ,AH,List.length_nil];(first|lia|omega)
def RelO.isSome_eq{o:Option V}{u:Option Value}(r:RelO o u):o.isSome=u.isSome:=by
 cases o with
 |none=>cases u with
  |none=>rfl
  |some _=>exact(show False from r).elim
 |some _=>cases u with
  |none=>exact(show False from r).elim
  |some _=>rfl
def KV.val{kvs:List (κ×V)}{vs:List (κ×Value)}(r:KV kvs vs)(k:κ):RelO (b0 kvs k) (valueAt vs k):=by
 unfold KV at r
 induction r with
 |nil=>exact True.intro
 |@cons p q ps a h t d=>
  obtain⟨h1,h2⟩:=h
  by_cases e:p.1=k
  ·have c:q.1=k:=h1.symm.trans e
   have b:valueAt (q::a) k=some q.2:=by simp[valueAt,List.find?_cons,c]
   rw[D3 e,b];exact h2
  ·have c:¬q.1=k:=fun z=>e (h1.trans z)
   have b:valueAt (q::a) k=valueAt a k:=by simp[valueAt,List.find?_cons,c]
   rw[D4 e,b];exact d
def KV.any{kvs:List (κ×V)}{vs:List (κ×Value)}(r:KV kvs vs)(k:κ):(kvs.any fun a=>decide (a.1=k))=vs.any fun a=>decide (a.1=k):=by
 unfold KV at r
 induction r with
 |nil=>rfl
 |cons h t ih=>rw[List.any_cons,List.any_cons,ih,h.1]
def KV.repl{kvs:List (κ×V)}{vs:List (κ×Value)}(r:KV kvs vs)(k:κ){y:V}{u:Value}(b:RelV y u):KV (kvs.map fun a=>if a.1=k then(a.1,y) else a) (vs.map fun a=>if a.1=k then(a.1,u) else a):=by
 unfold KV at r ⊢
 induction r with
 |nil=>exact .nil
 |@cons p q ps qs h t ih=>
  rw[A5,A5];refine .cons ?_ ih;obtain⟨h1,h2⟩:=h
  by_cases e:p.1=k
  ·rw[if_pos e,if_pos (h1.symm.trans e)];exact⟨h1,b⟩
  ·rw[if_neg e,if_neg (fun z=>e (h1.trans z))];exact⟨h1,h2⟩
def KV.put{kvs:List (κ×V)}{vs:List (κ×Value)}(r:KV kvs vs)(k:κ){y:V}{u:Value}(a:RelV y u):KV (putK kvs k y) (stored vs k u):=by
 unfold putK stored;rw[r.any k]
 by_cases e:(vs.any fun b=>decide (b.1=k))=true
 ·rw[if_pos e,if_pos e];exact r.repl k a
 ·rw[if_neg e,if_neg e];exact Paired.snoc r ⟨rfl,a⟩
def KV.length{kvs:List (κ×V)}{vs:List (κ×Value)}(r:KV kvs vs):kvs.length=vs.length:=Paired.length r
end
def Cg{P:Program}{w:World}{k:Key}{u:Value}(r:RelV (kV k) u):(eP P w).is k u=true:=by
 cases k with
 |inl i=>obtain⟨t,e⟩:=(show ∃t,u=Value.int i t from r);subst e;exact J1 P w i t
 |inr x=>obtain⟨t,e⟩:=(show ∃t,u=Value.str x t from r);subst e;exact J3 P w x t
def GL{P:Program}{w:World}:∀{ks:List Key}{us:List Value},Vals (ks.map kV) us->ItemsAre (eP P w) ks us
 |[],_,r=>by rw[List.map_nil] at r;cases r;exact .nil
 |k::ks,_,r=>by
  rw[A5] at r;cases r with
  |cons h t=>exact .cons (Cg h) (GL t)
abbrev KT(H:Hp):List (List Key×V)->List (List Key×Addr×Value)->Prop:=Paired fun p q=>p.1=q.1/\H q.2.1=some (.tup (p.1.map kV))/\RelV p.2 q.2.2
def KT.val{H:Hp}{kvs:List (List Key×V)}{xs:List (List Key×Addr×Value)}(r:KT H kvs xs)(k:List Key):RelO (b0 kvs k) ((atKey xs k).map (·.2)):=by
 induction r with
 |nil=>exact True.intro
 |@cons p q ps a h t d=>
  obtain⟨h1,_,h2⟩:=h
  by_cases e:p.1=k
  ·have c:q.1=k:=h1.symm.trans e
   have b:atKey (q::a) k=some q.2:=by simp[atKey,List.find?_cons,c]
   rw[D3 e,b];exact h2
  ·have c:¬q.1=k:=fun z=>e (h1.trans z)
   have b:atKey (q::a) k=atKey a k:=by simp[atKey,List.find?_cons,c]
   rw[D4 e,b];exact d
def KT.repl{H:Hp}{kvs:List (List Key×V)}{xs:List (List Key×Addr×Value)}(r:KT H kvs xs)(k:List Key){y:V}{u:Value}(c:RelV y u):KT H (kvs.map fun a=>if a.1=k then(a.1,y) else a) (xs.map (putAt k u)):=by
 induction r with
 |nil=>exact .nil
 |@cons p q ps qs h t ih=>
  rw[A5,A5];refine .cons ?_ ih;obtain⟨h1,h2,b⟩:=h;unfold putAt
  by_cases e:p.1=k
  ·rw[if_pos e,if_pos (h1.symm.trans e)];exact⟨h1,h2,c⟩
  ·rw[if_neg e,if_neg (fun z=>e (h1.trans z))];exact⟨h1,h2,b⟩
def KT.put{H:Hp}{kvs:List (List Key×V)}{xs:List (List Key×Addr×Value)}(r:KT H kvs xs)(k:List Key){b:Addr}{y:V}{u:Value}(hb:H b=some (.tup (k.map kV)))(a:RelV y u):KT H (putK kvs k y) (storedH xs k b u):=by
 have e:(kvs.any fun c=>decide (c.1=k))=(atKey xs k).isSome:=by
  rw[GJ,(r.val k).isSome_eq,Option.isSome_map]
 unfold putK storedH;rw[e]
 by_cases q:(atKey xs k).isSome=true
 ·rw[if_pos q,if_pos q];exact r.repl k a
 ·rw[if_neg q,if_neg q];exact Paired.snoc r ⟨rfl,hb,a⟩
def KT.keeps{H H':Hp}{kvs:List (List Key×V)}{xs:List (List Key×Addr×Value)}(r:KT H kvs xs)(a:∀b ys,H b=some (.tup ys)->H' b=some (.tup ys)):KT H' kvs xs:=
 Paired.mapP r fun _ _ z=>⟨z.1,a _ _ z.2.1,z.2.2⟩
section
variable{P:Program}{w:World}{H:Hp}{h:Heap}{a:Addr}
def GM{u:HO}(ok:HOk P w H h)(e:Rd H a u):zah P w H h a u:=e.ok ok
def Ch{kvs:List (Key×V)}(ok:HOk P w H h)(e:Rd H a (.dK kvs)):kvs.length<=sizeLine/\(a==sysModules)=false/\∃vs,KV kvs vs/\h.DictOf (eP P w) a vs:=
 show zah P w H h a (.dK kvs) from GM ok e
def GN{kvs:List (Key×V)}(ok:HOk P w H h)(e:H a=some (.dK kvs)):kvs.length<=sizeLine/\(a==sysModules)=false/\∃vs,KV kvs vs/\h.DictOf (eP P w) a vs:=Ch ok (.inl e)
def Ci{ks:List Key}(ok:HOk P w H h)(e:H a=some (.tup (ks.map kV))):(tupleKind (eP P w)).is h ks a:=by
 obtain⟨_,ad,r,o,h1,h2,n,b⟩:=(show zah P w H h a (.tup (ks.map kV)) from ok a _ e);exact⟨o,ad.toArray,n,h1,h2,b,by simpa using GL r⟩
def Cj{kvs:List (List Key×V)}(ok:HOk P w H h)(e:Rd H a (.dT kvs)):kvs.length<=sizeLine/\(a==sysModules)=false/\
  ∃xs,KT H kvs xs/\h.DictOfH (tupleKind (eP P w)) a xs:=by
 obtain⟨z,y,xs,r,o,es,ep,h1,h2,b,c,d⟩:=(show zah P w H h a (.dT kvs) from GM ok e);refine⟨z,y,xs,r,o,es,ep,h1,h2,b,c,fun x hx=>?_,d⟩;have all:∀{l:List (List Key×V)}{m:List (List Key×Addr×Value)},KT H l m->∀x∈m,(tupleKind (eP P w)).is h x.1 x.2.1:=by
  intro l m q
  induction q with
  |nil=>intro x hx;exact nomatch hx
  |@cons p q ps qs hq t ih=>
   intro x hx;rcases List.mem_cons.mp hx with e|hx
   ·subst e
    exact Ci ok (by rw[<-hq.1];exact hq.2.1)
   ·exact ih x hx
 exact all r x hx
def KN{kvs:List (List Key×V)}(ok:HOk P w H h)(e:H a=some (.dT kvs)):kvs.length<=sizeLine/\(a==sysModules)=false/\
  ∃xs,KT H kvs xs/\h.DictOfH (tupleKind (eP P w)) a xs:=Cj ok (.inl e)
end
def DGet(H:Hp)(a:Addr)(y:V)(r:Option V):Prop:=
 (∃kvs k,Rd H a (.dK kvs)/\y=kV k/\r=b0 kvs k)\/∃kvs k b,Rd H a (.dT kvs)/\y=.ref b/\H b=some (.tup (k.map kV))/\r=b0 kvs k
def DPut(H:Hp)(a:Addr)(y v:V)(H':Hp):Prop:=
 (∃kvs k,H a=some (.dK kvs)/\y=kV k/\kvs.length<sizeLine/\H'=upd H a (.dK (putK kvs k v))) \/
 ∃kvs k b,H a=some (.dT kvs)/\y=.ref b/\H b=some (.tup (k.map kV))/\kvs.length<sizeLine/\H'=upd H a (.dT (putK kvs k v))
def DGet.k{H:Hp}{a:Addr}{kvs:List (Key×V)}{k:Key}(e:H a=some (.dK kvs)):DGet H a (kV k) (b0 kvs k):=.inl ⟨kvs,k,.inl e,rfl,rfl⟩
def DGet.t{H:Hp}{a b:Addr}{kvs:List (List Key×V)}{k:List Key}(e:H a=some (.dT kvs))(c:H b=some (.tup (k.map kV))):DGet H a (.ref b) (b0 kvs k):=.inr ⟨kvs,k,b,.inl e,rfl,c,rfl⟩
def DPut.k{H:Hp}{a:Addr}{kvs:List (Key×V)}{k:Key}{v:V}(e:H a=some (.dK kvs))(b:kvs.length<sizeLine):DPut H a (kV k) v (upd H a (.dK (putK kvs k v))):=.inl ⟨kvs,k,e,rfl,b,rfl⟩
def DPut.t{H:Hp}{a b:Addr}{kvs:List (List Key×V)}{k:List Key}{v:V}(e:H a=some (.dT kvs))(c:H b=some (.tup (k.map kV)))(d:kvs.length<sizeLine):DPut H a (.ref b) v (upd H a (.dT (putK kvs k v))):=.inr ⟨kvs,k,b,e,rfl,c,d,rfl⟩
section
variable{X:Cx}{aa:Ψ}{σ:St}{H:Hp}{s:Shared}{a:Addr}{y v:V}{u r:Value}{o:Option V}{A:Around}{E:Ω}
def Inv.big(I:Inv X aa σ H s):sysModules<s⁻¹:=by
 have h:mainGlobals<s⁻¹:=(I.mod.glob.keeps I.bk).lt;exact Nat.lt_trans ξ h
def KO{Q:Ω}(x:A.units+1<cLine)(I:Inv X aa σ H s)(g:DGet H a y (some v))(j:RelV y u)(h:∀c s',Inv X aa σ H s'->RelV v c->Q c s'):wpAny (model X.prog X.w) A (getItem (.ref a) u) Q E s:=by
 rcases g with ⟨kvs,k,e,d,l⟩|⟨kvs,k,b,e,d,q,l⟩
 ·subst d
  obtain⟨z,hd,vs,f,dd⟩:=Ch I.hok e;obtain⟨c,hw,i⟩:=RelO.some_of (v:=v) (o:=valueAt vs k) (by rw[l];exact f.val k);exact wpAny_getItem_of (Cg j) dd.mapOf hw (h c _ (I.tok _) i)
 ·subst d
  cases(show u=Value.ref b from j);obtain⟨z,hd,xs,f,dd⟩:=Cj I.hok e;obtain⟨c,hw,i⟩:=RelO.some_of (v:=v) (o:=(atKey xs k).map (·.2)) (by rw[l];exact f.val k);obtain⟨p,hp,r⟩:=Option.map_eq_some_iff.mp hw;refine wpAny_getItem_heap (tupleKind_room_in1 x) (Ci I.hok q) dd hp ?_;rw[r];exact h c _ (I.tok _) i
def D6{Q:Ω}(j:A.units+1<cLine)(I:Inv X aa σ H s)(g:DGet H a y o)(f:RelV y u)(h:∀s',Inv X aa σ H s'->Q (.bool o.isSome) s'):wpAny (model X.prog X.w) A (compareOp .In u (.ref a)) Q E s:=by
 rcases g with ⟨kvs,k,e,c,l⟩|⟨kvs,k,b,e,c,i,l⟩
 ·subst c
  obtain⟨z,hd,vs,d,dd⟩:=Ch I.hok e;refine wpAny_in_of (Cg f) hd dd.mapOf ?_;rw[<-(d.val k).isSome_eq,<-l];exact h _ (I.tok _)
 ·subst c
  cases(show u=Value.ref b from f);obtain⟨z,hd,xs,d,dd⟩:=Cj I.hok e;refine wpAny_in_heap (tupleKind_room_in1 j) (Ci I.hok i) hd dd ?_;have q:=(d.val k).isSome_eq;rw[Option.isSome_map] at q;rw[<-q,<-l];exact h _ (I.tok _)
def GO{h':Heap}{t':Nat}{c:HO}(I:Inv X aa σ H s)(mu:rL (H a))(d:Heap.SameBut a s.heap h')(f:∃q,h'.get? a=some q)(new:zah X.prog X.w (upd H a c) h' a c):Inv X aa σ (upd H a c) {s with heap:=h',toks:=t'}:=
 I.write (x:=a) (e:=a) mu (.inl rfl) (fun b q hb z=>(d.2 b hb).trans z) f new
def dk_new{P:Program}{w:World}{H':Hp}{h':Heap}{kvs:List (Key×V)}{vs:List (Key×Value)}(z:kvs.length<=sizeLine)(hd:(a==sysModules)=false)(b:KV kvs vs)(dd:h'.DictOf (eP P w) a vs):zah P w H' h' a (.dK kvs):=⟨z,hd,vs,b,dd⟩
def KP{H':Hp}{Q:Unit->Shared->Prop}(N:A.units+1<cLine)(I:Inv X aa σ H s)(g:DPut H a y v H')(F:RelV y u)(x:RelV v r)(h:∀s',Inv X aa σ H' s'->Q () s'):wpAny (model X.prog X.w) A (setItem (.ref a) u r) Q E s:=by
 rcases g with ⟨kvs,k,e,o,l,p⟩|⟨kvs,k,b,e,o,C,l,p⟩
 ·subst o p
  obtain⟨z,hd,vs,d,dd⟩:=GN I.hok e;have hz:vs.length<=sizeLine:=by rw[<-d.length];exact z
  have j:(putK kvs k v).length<=sizeLine:=by have:=GK kvs k v;(first|lia|omega)
  refine wpAny_setItem_pairs (hsz:=hz) (Cg F) dd fun h' f i=>h _ ?_;have G:∃q,h'.get? a=some q:=let ⟨q,_,_,hq,_⟩:=f;⟨q,hq⟩;exact GO I (by rw[e];exact True.intro) i G (dk_new j hd (d.put k x) f)
 ·subst o p
  cases(show u=Value.ref b from F);obtain⟨z,hd,xs,d,dd⟩:=KN I.hok e;have hz:xs.length<=sizeLine:=by rw[<-Paired.length d];exact z
  have j:(putK kvs k v).length<=sizeLine:=by have:=GK kvs k v;(first|lia|omega)
  refine wpAny_setItem_heap (hsz:=hz) (tupleKind_room_in1 N) (Ci I.hok C) dd fun h' f i=>h _ ?_;obtain⟨q,es,ep,hq,h2,J,L,_,M⟩:=f;refine GO I (by rw[e];exact True.intro) i ⟨q,hq⟩ ⟨j,hd,_,(d.put k C x).keeps fun c ys D=>?_,q,es,ep,hq,h2,J,L,M⟩;rw[al (Dz D e (fun z=>nomatch z))];exact D
end
def t5(i:Expr):Prop:=∀a b,subscripted i false a b=operate [a,b] (getItem a b)
def KQ{prog:Program}{w:World}{A:Around}{E:Ω}{s:Shared}{env:Env}{ay slice:Expr}{pos:Pos}{T id:String}{Q:Ω}(j:typeLookup (.type T) "__getitem__"=pure (some (.builtin id)))(l:t5 slice)(h:wpAny (model prog w) A (eval ay env) (fun o c=>wpAny (model prog w) A (eval slice env) (fun i a=>a.TypeIs o T/\wpAny (model prog w) A (getItem o i) Q E a) E c) E s):wpAny (model prog w) A (eval (.Subscript ay slice pos) env) Q E s:=by
 refine Subscript_ (wpAny_mono h (fun o c f=>wpAny_mono f (fun i a b=>?_) fun _ _ x=>x) fun _ _ x=>x);obtain⟨e,b⟩:=b;unfold subscriptTail;refine Af ?_;rw[getitemInPython_of_ne e.not_modules];refine Af (wpAny_specialOf e j ?_);have fin:wpAny (model prog w) A (subscripted slice false o i) (fun r d=>wpAny (model prog w) A (letTemporaryGo ay o r >>= fun _=>pure r) Q E d) E a:=by
  rw[l o i];exact wpAny_operating (wpAny_mono b (fun r d g=>Af (wpAny_letTemporaryGo (Am g))) fun _ _ x=>x)
 first
  |exact Am (Af fin)
  |exact Af (Am (Af fin))
  |exact Af fin
def KR{X:Cx}{aa:Ψ}{σ:St}{H:Hp}{s:Shared}{a:Addr}{y:V}{o:Option V}(I:Inv X aa σ H s)(g:DGet H a y o):s.TypeIs (.ref a) "dict":=by
 rcases g with ⟨kvs,k,e,_,_⟩|⟨kvs,k,b,e,_,_,_⟩
 ·obtain⟨_,_,vs,_,dd⟩:=Ch I.hok e
  exact dd.typeIs
 ·obtain⟨_,_,xs,_,dd⟩:=Cj I.hok e
  exact dd.typeIs
def KS(td ty:TE):TE:=fun σ H Q=>td σ H fun x H1=>ty σ H1 fun y H2=>∃a v,x=.ref a/\DGet H2 a y (some v)/\Q v H2
def D8(ty td:TE):TE:=fun σ H Q=>ty σ H fun y H1=>td σ H1 fun x H2=>∃a o,x=.ref a/\DGet H2 a y o/\Q (.bl o.isSome) H2
def KU(td ty tv:TE):TS:=fun D σ H=>tv σ H fun v H1=>td σ H1 fun x H2=>ty σ H2 fun y c=>∃a b,x=.ref a/\DPut c a y v b/\D.nx σ b
section
variable{X:Cx}{o i e ay:Expr}{pos az cI:Pos}{td ty tv:TE}
def mj(p:X.A.units+1<cLine)(q:PE X o td)(hi:PE X i ty)(r:t5 i):PE X (.Subscript o i pos) (KS td ty):=by
 intro aa s σ H Q I h;refine KQ PySem.F.slot_dict_getitem.lookup r (aT (q aa s σ H _ I h) fun u c ⟨x,H1,w,d,e⟩=>aT (hi aa c σ H1 _ w e) fun C D ⟨y,H2,b,f,a,v,ex,g,j⟩=>?_);subst ex;obtain rfl:u=Value.ref a:=d;exact⟨KR b g,KO p b g f fun E G z l=>⟨v,H2,z,l,j⟩⟩
def KW(l:X.A.units+1<cLine)(hi:PE X i ty)(p:PE X o td):PC X .In i o (D8 ty td):=by
 intro aa s σ H Q I h;refine aT (hi aa s σ H _ I h) fun w b ⟨y,H1,q,c,d⟩=>aT (p aa b σ H1 _ q d) fun u z ⟨x,H2,r,e,a,f,ex,g,j⟩=>?_;subst ex;obtain rfl:u=Value.ref a:=e;exact D6 l r g c fun C v=>⟨.bl f.isSome,H2,v,rfl,j⟩
def D9(q:X.A.units+1<cLine)(w:PE X o td)(hi:PE X i ty)(hv:PE X ay tv)(z:swapsWith ay (some (.Subscript o i az)) pos.line X.env=pure false):PS X (.Assign [.Subscript o i az] ay pos) (KU td ty tv):=by
 intro aa s σ H D I h;refine wpAny_Assign_Subscript (aT (hv aa s σ H _ I h) fun r b ⟨v,H1,C,c,d⟩=>aT (w aa b σ H1 _ C d) fun u e ⟨x,H2,E,f,j⟩=>aT (hi aa e σ H2 _ E j) fun L M ⟨y,O,F,l,a,G,ex,g,p⟩=>?_) z;subst ex;obtain rfl:u=Value.ref a:=f;exact KP q F g l c fun N J=>⟨σ,G,J,p⟩
end
def KY{P:Program}{w:World}{H:Hp}(h:Heap)(hb:sysModules<h.objs.size):zah P w H (h.push {cls:=.type "dict",data:=.dict #[]}) h.objs.size (.dK []):=
 ⟨At _,beq_eq_false_iff_ne.mpr (Ne.symm (AA hb)),[],.nil,Heap.DictOf.new h⟩
def KZ:TE:=fun _ H Q=>∀p,H p=none->Q (.ref p) (upd H p (.dK []))
section
variable{X:Cx}{pos:Pos}
def K0:PE X (.Dict [] [] pos) KZ:=fun aa s σ H Q I h=>
 wpAny_Dict_empty ⟨.ref s⁻¹,_,I.laid (a:=s⁻¹) (o:=.dK []) (t':=s.toks) (fun _ _ q=>Ai _ q) (Ad _) (KY s.heap I.big),rfl,h _ (I.hok.fresh (Ad _))⟩
end
structure M1(X:Cx)(o:Expr)(m:Str)(bJ:Pos)(e:Expr)(aA:Pos):Prop where
 base:attributeBase o m X.env (eval o X.env)=eval o X.env
 few:((backTo aA (starEach [e] X.env)).all (fun x=>!x.1)&&(backToKw aA (keywordEach [] X.env)).all (fun x=>x.1.isSome)
  && decide (([e]:List Expr).length+([]:List Keyword).length+(if([]:List Keyword).isEmpty then 0 else 1)<30))=true
 line:(bJ.endLine==aA.line)=true
 trees:backTo aA (starEach [e] X.env)=[(false,eval e X.env)]
structure M2(X:Cx)(o:Expr)(m:Str)(bJ:Pos)(e f:Expr)(aA:Pos):Prop where
 base:attributeBase o m X.env (eval o X.env)=eval o X.env
 few:((backTo aA (starEach [e,f] X.env)).all (fun x=>!x.1)&&(backToKw aA (keywordEach [] X.env)).all (fun x=>x.1.isSome)
  && decide (([e,f]:List Expr).length+([]:List Keyword).length+(if([]:List Keyword).isEmpty then 0 else 1)<30))=true
 line:(bJ.endLine==aA.line)=true
 trees:backTo aA (starEach [e,f] X.env)=[(false,eval e X.env),(false,eval f X.env)]
def IsD(H:Hp)(a:Addr):Prop:=(∃kvs,Rd H a (.dK kvs))\/∃kvs,Rd H a (.dT kvs)
end L2
namespace Att
open PySem PySem.W PySem.Calls PyProof.Rows
def K2{P:Params}{h:Heap}:∀(ns:List Int)(vs:List Value),WellAll P h vs (ns.map WData.int)->IntsAre vs ns:=by
 intro ns
 induction ns with
 |nil=>
  intro vs w;rw[List.map_nil] at w;cases w;exact .nil
 |cons n ns ih=>
  intro vs w;rw[A5] at w;cases w with
  |cons a b=>
   cases a;exact .cons _ _ (ih _ b)
def K3{l:OpenLaw}{n:Nat}(p:l.most=some n){P:Params}{h:Heap}{args:List WData}{f:List Value}(g:l.row.toRowW.claim.pre args=true)(s:WellAll P h f args):∃a vs ns,f=[Value.ref a]/\args=[WData.list (ns.map WData.int)]/\h.get? a=some {cls:=.type "list",data:=.seq vs.toArray}/\IntsAre vs ns/\ns.length<=n:=by
 have e:WShape.hasAll [] args [.list .int]=true:=(pre_splitW g).1;have hc:l.pre.holds [] {args:=args}=true:=(pre_splitW g).2;obtain⟨d,r,rfl,h1,h2⟩:=hasAllW_cons e;obtain rfl:=hasAllW_nil h2;obtain⟨xs,rfl,i⟩:=hasW_list h1;obtain⟨ns,rfl⟩:=items_int i;have j:ns.length<=n:=by
  unfold OpenLaw.pre at hc;have b:(WTm.not (.lt (.lit (.int (n:Int))) (.len (.arg 0)))).holds [] {args:=[.list (ns.map .int)]}=true:=by
   have b:=(holds_andW hc).1;rw[p] at b;exact b
  have c:=condW_of b (w_not (w_lt w_lit (w_len_list (w_arg rfl))));rw[Aa] at c;refine Nat.le_of_not_lt fun q=>?_;have o:(n:Int)<((ns.length:Nat):Int):=ω
  first
   |(rw[decide_eq_true o] at c;exact absurd c ξ)
   |(simp at c;(first|lia|omega))
 cases s with
 |cons w1 w2=>
  cases w2;cases w1 with
  |list ho hall=>exact⟨_,_,ns,rfl,rfl,ho,K2 ns _ hall,j⟩
def K4(l:OpenLaw)(args:List WData):l.row.toRowW.claim.post args (.bool true) args=true:=
 postW_of (r:=l.row.toRowW) (X:=(true==true))
  (show WShape.has [] (.bool true) .bool=true by first|rfl|decide|simp[WShape.has,WShape.arms,WShape.armsAll])
  (show(WTm.eq .res (.lit (.bool true))).value [] {args:=args,res:=some (.bool true),after:=args}=some (.bool (true==true)) from w_eq_bool (w_res rfl) w_lit) rfl
def K5{l:OpenLaw}{n:Nat}{q:Program}{j:List Str}{p:(Str->Option Value)->Heap->Prop}{s:World->Heap->Prop}{d:DefRec}(J:l.most=some n)(L:d.params.defaults=[])(call:∀(w:World)(s₀ b:Shared)(mg e:Str->Option Value)(fa:Addr)(o:Obj)(g c h:Value)(a:Addr)(vs:List Value)(ns:List Int),
   Ground q j [] p w s₀ mg e b.heap->s w b.heap->
   b.heap.get? fa=some o->o.data=.func (docDef d.name d.params d.body d.scope g c h)->b.heap.CodeRec c d.name->mg d.name=some (.ref fa)->
   b.heap.get? a=some {cls:=.type "list",data:=.seq vs.toArray}->IntsAre vs ns->ns.length<=n->b.gens=#[]->
   codeAny (model l.prog w) callerA (.call (.ref fa) ⟨[.ref a],[]⟩) (fun r s'=>r=.ok (.ret (.bool true))/\OldK b.heap s'.heap/\s'.os=b.os/\AllBare s'.gens) b):
  WalkO q j p s l.row.toRowW d [] (fun f vs=>PySem.call f vs):=by
 intro w s₀ b mg e G Y fa o g c h u kV v hd x i y hg args M N z O Q A P;obtain rfl:u=.none:=Dflts.none i L;obtain rfl:kV=.none:=Dflts.noKw i;obtain⟨a,vs,ns,rfl,rfl,D,E,F⟩:=K3 J z A;refine enter_call (codeAny_mono (call w s₀ b mg e fa o g c h a vs ns G Y v (fd_plain hd) x y D E F hg) fun r s' hq=>?_);obtain⟨rfl,h2,H,I⟩:=hq;exact⟨.inl ⟨.bool true,.bool true,[],rfl,fun _=>rfl,.bool true,K4 l _,fun _=>⟨List.Pairwise.nil,fun _ C=>(nomatch C)⟩⟩,h2,H,I⟩
end Att
namespace L2
open PySem PySem.Spec PyProof.Rows
def GP:∀{vs:List Value}{ns:List Int},IntsAre vs ns->Vals (ns.map V.int) vs
 |_,_,.nil=>.nil
 |_,_,.cons n t h=>.cons ⟨t,rfl⟩ (GP h)
def mz(H:Hp):Prop:=∀b,H b=none\/∃o xs,H b=some (.frz o (.lst xs))
def K6{P:Program}{w:World}{K:Ag}{mg y:Str->Option Value}{CX:gz}{k:Nat}{fa a:Addr}{fd:FuncData}{x:Str}{sp:Sp}{c:Shared}{vs:List Value}{ns:List Int}(M:K.In c.heap)(J:c.heap.Ns mainGlobals mg)(hb:c.heap.Ns builtinsNs y)(ej:∀x:Str,x≠"__name__"->y x=A7 x)(lY:c.heap.NoLimit)(hg:c.gens=#[])(l:c.heap.get? a=some {cls:=.type "list",data:=.seq vs.toArray})(hi:IntsAre vs ns)(L:ns.length<=sizeLine)(hr:Room k callerA)(F:∀base:Heap,K.In base->base.Ns mainGlobals mg->ah P w K mg base CX k fa fd [x] sp)(iN:∀(s:Shared)(u:Value),BindsTo s fd ⟨[u],[]⟩ [(x,u)])(eI:∀H:Hp,mz H->SqL K H a (ns.map V.int)->sp [.ref a] H (fun v _=>v=.bl true) fun _ _ _=>False)(l4:∀H e s',CX [] H c (fun _ _ _=>False) e s'->False):codeAny (model P w) callerA (.call (.ref fa) ⟨[.ref a],[]⟩) (fun r s'=>r=.ok (.ret (.bool true))/\OldK c.heap s'.heap/\s'.os=c.os/\AllBare s'.gens) c:=by
 have D:=GP hi;have U:=hi.length;have E:∀H:Hp,mz H->SqL K H a (ns.map V.int)->HOk P w H c.heap->(∀b,H b≠none->b=a)->(H a≠none->K.lookup a=none)->
   codeAny (model P w) callerA (.call (.ref fa) ⟨[.ref a],[]⟩) (fun r s'=>r=.ok (.ret (.bool true))/\OldK c.heap s'.heap/\s'.os=c.os/\AllBare s'.gens) c:=by
  intro H A N g C O;have G:∀{b:Addr}{o:Obj},c.heap.get? b=some o->H b=none->(d0 c.heap H).get? b=some o:=fun e n=>J5 e n;have W:∀{b:Addr}{o:Obj}{es:Array DictEntry}{ep:Nat},c.heap.get? b=some o->o.data=.dict es ep->H b=none:=fun{b o es ep} e d=>by
   cases q:H b with
   |none=>rfl
   |some u=>
    have p:b=a:=C b (by rw[q];simp);subst p;rw[l] at e;cases e;have d':Data.seq vs.toArray _=Data.dict es ep:=d;cases d'
  have f:∀{b:Addr}{m:Str->Option Value},c.heap.Ns b m->(d0 c.heap H).Ns b m:=fun{b m} ⟨o,es,ep,e,d,r⟩=>⟨o,es,ep,G e (W e d),d,r⟩;have I:K.In (d0 c.heap H):=fun b o e=>G (M b o e) (by
   cases q:H b with
   |none=>rfl
   |some u=>
    have p:b=a:=C b (by rw[q];simp);subst p;rw[O (by rw[q];simp)] at e;cases e)
  have X:Mod K mg (d0 c.heap H):=⟨I,f J,⟨y,f hb,ej⟩,let ⟨mc,h1,h2⟩:=lY;⟨mc,f h1,h2⟩⟩;have Y:Env0 P w K mg (d0 c.heap H) callerA [] c H:=⟨rfl,X,fun b o e=>J6 e,Nat.le_of_eq (J4 _ _),trivial,fun b hb=>absurd (show b∈([]:List Addr) from hb) (by simp),g,.of_eq hg⟩;refine codeAny_mono ((F _ I (f J)).run callerA [] c H ⟨[.ref a],[]⟩ [.ref a] [.ref a] _ _ hr Y (iN c (.ref a)) (.cons rfl .nil) (eI H A N)) fun r s' h=>?_;cases r with
  |error e=>exact(l4 H e s' h).elim
  |ok fl=>
   cases fl with
   |next=>exact False.elim h
   |brk=>exact False.elim h
   |cont=>exact False.elim h
   |ret u=>
    obtain⟨v,H',os,i,un,Q,S,q⟩:=h;have Z:v=.bl true:=q;subst Z;obtain rfl:u=Value.bool true:=S;refine⟨rfl,OldK.of_keep fun b o e=>?_,os,i⟩;cases q:H b with
    |none=>exact un.keep b o e q (by intro z;exact absurd (show b∈([]:List Addr) from z) (by simp)) (by simp)
    |some u=>
     rcases A b with z|⟨T,xs,z⟩
     ·rw[q] at z;cases z
     ·have z2:=un.frzs b T _ z
      obtain⟨e1,_⟩:=g b _ z;obtain⟨e2,_⟩:=Q b _ z2;rw[e] at e1;cases e1;exact e2
 cases hk:K.lookup a with
 |some o=>
  have e:=M a o hk;rw[l] at e;cases e;refine E (fun _=>none) (fun _=>.inl rfl) (.inr ⟨_,vs.toArray,_,hk,rfl,rfl,rfl,by rw[Aw,U];exact L,by simpa using D⟩) (fun b u z=>by have j:(none:Option HO)=some u:=z;cases j) (fun b z=>absurd rfl z) fun z=>absurd rfl z
 |none=>
  refine E (fun b=>if b=a then some (.frz {cls:=.type "list",data:=.seq vs.toArray} (.lst (ns.map V.int))) else none) (fun b=>?_) (.inl (.inr ⟨{cls:=.type "list",data:=.seq vs.toArray},if_pos rfl⟩)) (fun b u z=>?_) (fun b z=>?_) fun _=>hk
  ·by_cases hb:b=a
   ·exact .inr ⟨_,_,if_pos hb⟩
   ·exact .inl (if_neg hb)
  ·by_cases hb:b=a
   ·have j:=(if_pos hb).symm.trans z
    cases j;subst hb;exact⟨l,by rw[Aa];exact L,vs,_,D,l⟩
   ·have j:=(if_neg hb).symm.trans z
    cases j
  ·by_cases hb:b=a
   ·exact hb
   ·exact absurd (if_neg hb) z
def GQ{l:PySem.W.OpenLaw}{n k:Nat}{q:Program}{E:List Str}{P:(Str->Option Value)->Heap->Prop}{j:World->Heap->Prop}{d:DefRec}{K:Params->Ag}{CX:World->gz}{sp:World->Sp}{x:Str}(I:l.most=some n)(J:n<=sizeLine)(L:d.params.defaults=[])(hr:Room k callerA)(M:∀(w:World)(h:Heap),j w h->(K w.params).In h)(F:∀(w:World)(mg:Str->Option Value)(fa:Addr)(h:Heap),(K w.params).In h->h.Ns mainGlobals mg->mg d.name=some (.ref fa)->
   ∃fd:FuncData,(∀(s:Shared)(u:Value),BindsTo s fd ⟨[u],[]⟩ [(x,u)])/\
    ∀base:Heap,(K w.params).In base->base.Ns mainGlobals mg->ah l.prog w (K w.params) mg base (CX w) k fa fd [x] (sp w))
  (N:∀(w:World)(H:Hp)(a:Addr)(ns:List Int),ns.length<=n->mz H->SqL (K w.params) H a (ns.map V.int)->sp w [.ref a] H (fun v _=>v=.bl true) fun _ _ _=>False)
  (O:∀(w:World)(H:Hp)(s:Shared)(e:Value)(s':Shared),CX w [] H s (fun _ _ _=>False) e s'->False) :
  PySem.W.WalkO q E P j l.row.toRowW d [] (fun f vs=>PySem.call f vs):=by
 refine Att.K5 I L fun w s₀ p mg Q fa o S U X a vs ns G Y Z hd cT r y z c hg=>?_;have i:=M w _ Y;obtain⟨fd,hb,D⟩:=F w mg fa _ i G.T.g r;exact K6 i G.T.g G.T.b G.T.builtins G.T.nolimit hg y z (Ae c J) hr D hb (fun H A C=>N w H a ns c A C) fun H e s'=>O w H p e s'
end L2
/- THE LAST THEOREM (shape;LID,My.* are yours):
  My.Adr: a structure of eA addresses that your layer names (classes,functions);My.Txt K t: a structure (Prop) of eA equations over K;
  My.txt_mk:{K} {implicit addresses ..} (e1:nsIn K mainGlobals "law"=some (some (.ref f))) (e2:K.lookup f=some ⟨oc,od,.func (fnOf "law" "law" cJ bj scope dV kV aW pm an ai ct),sl⟩) (e3:codeIn K ai "law"=true) ..:∃t,My.Txt K t
set_option maxRecDepth 100000 in
set_option maxHeartbeats 0 in
theorem PySem.Challenge.cw_LID_holds:PySem.Challenge.rw_LID.Holds := by
 w_on;o_law;k_head;(case hw=>w_witness2)
 k_fill
 refine L2.GQ (l:=PySem.Challenge.rw_LID) (n:=63) (k:=40) (x:="script") (CX:=fun w=>..) (sp:=fun _=>My.sp_law) rfl ξ rfl ⟨rfl,ξ,ξ⟩ (fun w h Y=>PySem.W.kIn_of Y) ?F ?S ?C
 case F=>
  intro w mg fa h f G g;have T:∃t,My.Txt (L2.KOf f) t:=by
   dsimp only[L2.KOf]                          -- K must stand as «<heap const> w.params» for k_is
   refine' My.txt_mk ?e1 ?e2 ?e3 ..
   (case e1 => PySem.W.k_is)                    -- in e order: a name -> ad address -> ad object -> ad parts
   (case e2=>PySem.W.k_is)
   ..
  obtain⟨t,T⟩:=T;have i:=g.symm.trans (PySem.W.mg_of f G T.law);cases i                                       -- fa is e law's own address
  exact⟨_,fun s u => .of_eq rfl,fun base c d => My.law_fn T c d⟩     -- if «.of_eq rfl» comes too early: refine' ⟨_,?b,fun base c d => My.law_fn T c d⟩;exact fun s u => .of_eq rfl
 case S=>exact fun w H a ns j o p=>..
 case C=>exact ..
(e tactic k_is has no namespace: write k_is) -/
namespace L2
open PySem PySem.Spec PyProof.Rows
def zb6(s:Stmt):Arguments:=match s with
 |.FunctionDef _ a _ _ _ _ _ _ _ _=>a
 |_=>{posonlyargs:=[],args:=[],vararg:=none,kwonlyargs:=[],kw_defaults:=[],kwarg:=none,defaults:=[]}
def zax(s:Stmt):List Stmt:=match s with
 |.FunctionDef _ _ b _ _ _ _ _ _ _=>b
 |_=>[]
def zf(s:Stmt):Scope:=match s with
 |.FunctionDef _ _ _ _ _ _ sc _ _ _=>sc
 |_=>{kind:=.function,names:=[],isGenerator:=false,isCoroutine:=false}
abbrev au:gz:=fun _ _ _ _ _ _=>False
abbrev E0:XK:=fun _ _ _=>False
def af{X:Cx}:eY au X E0:=fun _ _ _ _ _ _ _ h=>h.elim
structure Fun(K:Ag)(x ak:Str)(st:Stmt)(f:Addr)(fd:FuncData):Prop where
 ex:∃(oc:Value)(od:Option Addr)(kV aW pm:Value)(an:Option Addr)(ai ct:Value)(dB:Array (Option Value)),
  fd=PySem.W.fnOf x ak (zb6 st) (zax st) (zf st) .none kV aW pm an ai ct/\K.lookup f=some ⟨oc,od,.func fd,dB⟩/\PySem.W.codeIn K ai ak=true
 kp:PySem.W.keepIn K (.ref f)=true
section
variable{P:Program}{w:World}{K:Ag}{mg:Str->Option Value}{base:Heap}
def Fun.ok{x b:Str}{st:Stmt}{f:Addr}{fd:FuncData}{N ps:List Str}{k:Nat}{sp:Sp}(F:Fun K x b st f fd)(S:zo N ps (zf st))(len:∀vs H Q E,sp vs H Q E->vs.length=ps.length)(e:∀(a:Value)(A:Around)(outer:List Env)(s:Shared)(H:Hp)(vs:List V)(Q:VK)(E:XK),Room k (A.deeper (envOfC b (zf st) s⁻¹ f a))->sp vs H Q E->
   ∃t,PSs (dq au P w K mg base N b (zf st) f a A outer s H E).nox (zax st) t/\t {nx:=fun _ H'=>Q .non H',rt:=Q} (start N vs) H):ah P w K mg base au (k+1) f fd ps sp:=by
 obtain⟨g,i,kV,j,l,o,a,ct,p,rfl,lk,d⟩:=F.ex;refine Kr lk d S len fun A outer s H vs Q E hr c=>?_;obtain⟨t,h,q⟩:=e a A outer s H vs Q E hr c;exact⟨t,h.nox,q⟩
def Fun.binds{x e:Str}{st:Stmt}{f:Addr}{fd:FuncData}{ps:List Str}(F:Fun K x e st f fd)(h:∀(kV a b:Value)(c:Option Addr)(d ct:Value)(us:List Value),us.length=ps.length->bindArgs (PySem.W.fnOf x e (zb6 st) (zax st) (zf st) .none kV a b c d ct) ⟨us,[]⟩=pure (ps.zip us)):Binds K fd ps []:=by
 obtain⟨g,i,kV,a,b,c,d,ct,j,rfl,lk,l⟩:=F.ex;exact .all (h kV a b c d ct)
def K7{x a:Str}{st:Stmt}{f:Addr}{i:Value}{j g:Option Addr}{h:Array (Option Value)}{kV d e b ct:Value}(l:K.lookup f=some ⟨i,j,.func (PySem.W.fnOf x a (zb6 st) (zax st) (zf st) .none kV d e g b ct),h⟩)(c:PySem.W.codeIn K b a=true)(k:PySem.W.keepIn K (.ref f)=true):Fun K x a st f (PySem.W.fnOf x a (zb6 st) (zax st) (zf st) .none kV d e g b ct):=⟨⟨i,j,kV,d,e,g,b,ct,h,rfl,l,c⟩,k⟩
end
def Ck{A:Around}{k:Nat}(hr:Room k A):A.units+1<cLine:=Ao (Nat.add_le_add_left (by decide:1<=64) _) hr.units
section
variable{X:Cx}
def pv(i:Nat){x:Str}{pos:Pos}(a:X.N[i]?=some x:=by rfl)(hv:B9 X.env.scope x:=by first|exact Or.inl rfl|exact Or.inr (Or.inl rfl)|exact Or.inr (Or.inr rfl))(hd:(x==("__debug__":Str))=false:=by decide)
  (b:(x==("__classdict__":Str))=false:=by decide):PE X (.Name x pos) (ar i):=J7 a hv hd b
end
def aI{A B:Prop}(h:B):if false=true then A else B:=by
 rw[if_neg AF];exact h
def aR{A B:Prop}(h:A):if true=true then A else B:=by
 rw[if_pos rfl];exact h
def e_{c A B:Prop}[Decidable c](h1:c->A)(h2:¬c->B):if c then A else B:=by
 by_cases h:c
 ·rw[if_pos h]
  exact h1 h
 ·rw[if_neg h]
  exact h2 h
def Same(H H':Hp):Prop:=∀b o,H b=some o->H' b=some o
def Same.refl(H:Hp):Same H H:=fun _ _ h=>h
def Same.trans{H H1 H2:Hp}(a:Same H H1)(b:Same H1 H2):Same H H2:=fun c o h=>b c o (a c o h)
def Same.free{H H':Hp}(e:Same H H'){l:Addr}(h:H' l=Option.none):H l=Option.none:=by
 cases q:H l with
 |none=>rfl
 |some o=>
  rw[e l o q] at h;cases h
def Same.seq{K:Ag}{H H':Hp}{a:Addr}{xs:List V}(e:Same H H')(h:SqL K H a xs):SqL K H' a xs:=by
 rcases h with (h|⟨o,h⟩)|h
 ·exact .inl (.inl (e _ _ h))
 ·exact .inl (.inr ⟨o,e _ _ h⟩)
 ·exact .inr h
def clOf(cells:List (Str×Addr)):List (Str×NameKind)->List (Str×Addr)->List (Str×Addr)
 |[],acc=>acc
 |(n,k)::r,acc=>if(k==.free)=true then clOf cells r ((n,(cells.lookup n).getD 0)::acc) else clOf cells r acc
def GR{env:Env}:∀(names:List (Str×NameKind))(acc:List (Str×Addr)),(∀x∈names,x.2=.free->∃c,env.cells.lookup x.1=some c)-> (forIn names acc fun x(r:List (Str×Addr))=>if(x.2==.free)=true then do let c <-cellOf env x.1;pure (ForInStep.yield ((x.1,c)::r)) else pure (ForInStep.yield r):Sem (List (Str×Addr)))=pure (clOf env.cells names acc)
 |[],acc,_=>rfl
 |(n,k)::r,acc,h=>by
  rw[List.forIn_cons];have d:=fun a=>GR (env:=env) r a fun x hx=>h x (AJ _ hx);unfold clOf
  by_cases hk:(k==Bk)=true
  ·have b:k=.free:=by cases k<;>first|rfl|cases hk
   obtain⟨c,hc⟩:=h (n,k) AM b;simp only[hk,if_true];unfold cellOf;rw[hc];simp only[pure_bind,Option.getD_some];exact d _
  ·simp only[hk,Bool.false_eq_true,if_false,pure_bind]
   exact d _
def K8{scope:Scope}{env:Env}(h:∀x∈scope.names,x.2=.free->∃c,env.cells.lookup x.1=some c):closureFor scope env=pure (clOf env.cells scope.names []):=by
 rw[<-GR scope.names [] h];unfold closureFor;simp
def D_{x:Str}{c:Addr}:∀{l:List (Str×Addr)},(x,c)∈l->∃d,l.lookup x=some d
 |[],h=>nomatch h
 |(y,d)::l,h=>by
  rw[Bj]
  by_cases e:x=y
  ·subst e;exact⟨d,by simp⟩
  ·have hb:(x==y)=false:=by simpa using e
   rw[hb];rcases List.mem_cons.mp h with q|q
   ·cases q;exact absurd rfl e
   ·exact D_ q
def Cm{cells:List (Str×Addr)}{x:Str}:∀{names:List (Str×NameKind)}{acc:List (Str×Addr)},((x,Bk)∈names\/∃c,(x,c)∈acc)->∃c,(x,c)∈clOf cells names acc
 |[],acc,h=>h.elim (fun q=>nomatch q) id
 |(n,k)::r,acc,h=>by
  unfold clOf
  by_cases hk:(k==Bk)=true
  ·rw[if_pos hk]
   refine Cm ?_;rcases h with h|⟨c,h⟩
   ·rcases List.mem_cons.mp h with q|q
    ·cases q;exact .inr ⟨_,AM⟩
    ·exact .inl q
   ·exact .inr ⟨c,AJ _ h⟩
  ·rw[if_neg hk]
   refine Cm ?_;rcases h with h|h
   ·rcases List.mem_cons.mp h with q|q
    ·cases q;exact absurd rfl hk
    ·exact .inl q
   ·exact .inr h
def eD(X:Cx)(scope:Scope)(N:List Str)(a:List (Str×Addr))(C:Addr)(s₀:Shared)(H₀:Hp)(ex:List Addr):Cx where
 prog:=X.prog
 w:=X.w
 K:=X.K
 mg:=X.mg
 base:=X.base
 A:=X.A
 N:=N
 s₀:=s₀
 H₀:=H₀
 env:=compEnvC scope a C X.env
 outer:=X.stack
 stack:=X.stack
 ex:=ex
 fn:=fun _=>false
 calm:=X.calm
 pn:=X.pn
 xe:=fun _ _=>False
def i0(X:Cx)(aF:List Expr)(t:TT):Prop:=
 ∀(aa:Ψ)(s:Shared)(σ:St)(H:Hp)(Q:Bool->Hp->Prop),Inv X aa σ H s->t σ H Q->
  wpAny (model X.prog X.w) X.A (forIn aF true fun c r=>if r=true then do let ok <-isTrue c X.env (eval c X.env);pure (ForInStep.yield ok) else pure (ForInStep.yield r)) (TP X aa σ Q) X.xe s
def bE:TT:=fun _ H Q=>Q true H
def zB{X:Cx}:i0 X [] bE:=fun _ _ _ H _ I h=>wpAny_tests_nil ⟨H,I,h⟩
def K9{X:Cx}{c:Expr}{t:TT}(h:PT X c t):i0 X [c] t:=fun aa s σ H Q I hw=>wpAny_tests_one (h aa s σ H Q I hw)
def uf(aj:List (Option Nat))(σ:St):St:=aj.map fun c=>match c with
 |none=>none
 |some j=>(σ[j]?).getD none
def dr(J:It)(g:TG)(tc:TT)(te:TE)(σ:St)(H1:Hp)(D:Addr)(Q:VK):Prop:=
 ∃W:Nat->Nat->St->Hp->Prop,(∃m,W 0 m σ (upd H1 D (.lst [])))/\
 ∀i m d H2,W i m d H2->(J.stop i H2/\Q (.ref D) H2)\/(J.go i H2/\∀x h,J.yld i H2 x h->g x d h fun c j=>tc c j fun b e=>
  if b=true then te c e fun y f=>∃ys a,f D=some (.lst ys)/\ys.length<sizeLine/\a<m/\W (i+1) a c (upd f D (.lst (ys++[y])))
  else ∃a,a<m/\W (i+1) a c e)
def ki(wi:TI)(aj:List (Option Nat))(g:TG)(tc:TT)(te:TE):TE:=fun σ H Q=>wi σ H fun J H1=>∀D,H1 D=none->dr J g tc te (uf aj σ) H1 D Q
def og(N N':List Str)(aj:List (Option Nat))(scope:Scope):Prop:=
 aj.length=N'.length/\∀i j:Nat,aj[i]?=some (some j)->∃x:Str,N'[i]?=some x/\N[j]?=some x/\scope.names.lookup x=some .free
def Cn{cells:List (Str×Addr)}{x:Str}{c:Addr}:∀{names:List (Str×NameKind)}{acc:List (Str×Addr)},(∀y∈names,y.2=.free->∃d,cells.lookup y.1=some d)->(∀p∈acc,False)->(x,c)∈clOf cells names acc->cells.lookup x=some c/\(x,Bk)∈names:=by
 have i:∀{names:List (Str×NameKind)}{acc:List (Str×Addr)},(∀y∈names,y.2=.free->∃d,cells.lookup y.1=some d)->(x,c)∈clOf cells names acc->(x,c)∈acc\/(cells.lookup x=some c/\(x,Bk)∈names):=by
  intro names
  induction names with
  |nil=>intro acc _ h;exact .inl h
  |cons y r j=>
   intro acc e h;obtain⟨n,k⟩:=y;unfold clOf at h;have l:∀y∈r,y.2=.free->∃d,cells.lookup y.1=some d:=fun y hy=>e y (AJ _ hy)
   by_cases hk:(k==Bk)=true
   ·have a:k=.free:=by cases k<;>first|rfl|cases hk
    obtain⟨d,hd⟩:=e (n,k) AM a;rw[if_pos hk] at h;rcases j l h with q|⟨f,g⟩
    ·rcases List.mem_cons.mp q with q|q
     ·refine .inr ⟨?_,?_⟩
      ·have b:cells.lookup n=some d:=hd
       rw[b] at q;cases q;exact b
      ·cases q
       rw[a];exact AM
     ·exact .inl q
    ·exact .inr ⟨f,AJ _ g⟩
   ·rw[if_neg hk] at h
    rcases j l h with q|⟨f,g⟩
    ·exact .inl q
    ·exact .inr ⟨f,AJ _ g⟩
 intro names acc e o h;rcases i e h with q|q
 ·exact(o _ q).elim
 ·exact q
def cf_mem:∀(names:List (Str×NameKind))(h:Heap)(acc:List (Str×Addr))(x:Str)(c:Addr),(x,c)∈cellsFrom h.objs.size names acc->(x,c)∈acc\/((x,NameKind.cell)∈names/\h.objs.size<=c/\(pushCells h names).IsCell c none)
 |[],h,acc,x,c,a=>.inl a
 |(n,k)::r,h,acc,x,c,a=>by
  rw[cellsFrom.eq_2] at a;have ep:pushCells h ((n,k)::r)=if(k==NameKind.cell)=true then pushCells (h.push {cls:=Value.type "cell",data:=Data.cell none}) r else pushCells h r:=rfl
  by_cases hk:(k==NameKind.cell)=true
  ·have f:k=.cell:=by cases k<;>first|rfl|cases hk
   rw[if_pos hk] at a;rw[ep,if_pos hk];have es:(h.push {cls:=Value.type "cell",data:=Data.cell none}).objs.size=h.objs.size+1:=Heap.size_push ..;rw[<-es] at a;rcases cf_mem r _ _ x c a with q|⟨d,b,e⟩
   ·rcases List.mem_cons.mp q with q|q
    ·cases q
     refine .inr ⟨by rw[f];exact AM,Ad _,_,pushCells_keeps r _ _ _ (AL _ rfl),rfl⟩
    ·exact .inl q
   ·rw[es] at b
    exact .inr ⟨AJ _ d,Nat.le_of_succ_le b,e⟩
  ·rw[if_neg hk] at a
   rw[ep,if_neg hk];rcases cf_mem r h acc x c a with q|⟨d,b,e⟩
   ·exact .inl q
   ·exact .inr ⟨AJ _ d,b,e⟩
def Ea:∀(names:List (Str×NameKind))(n:Nat)(acc:List (Str×Addr)),(∀x y c,(x,c)∈acc->(y,c)∈acc->x=y)->(∀p∈acc,p.2<n)->∀x y c,(x,c)∈cellsFrom n names acc->(y,c)∈cellsFrom n names acc->x=y
 |[],n,acc,hi,_,x,y,c,h1,h2=>hi x y c h1 h2
 |(m,k)::r,n,acc,hi,hl,x,y,c,h1,h2=>by
  rw[cellsFrom.eq_2] at h1 h2
  by_cases hk:(k==NameKind.cell)=true
  ·rw[if_pos hk] at h1 h2
   refine Ea r (n+1) ((m,n)::acc) (fun x y c p q=>?_) (fun p hp=>?_) x y c h1 h2
   ·rcases List.mem_cons.mp p with p|p<;>rcases List.mem_cons.mp q with q|q
    ·cases p;cases q;rfl
    ·cases p
     have:n<n:=hl _ q;(first|lia|omega)
    ·cases q
     have:n<n:=hl _ p;(first|lia|omega)
    ·exact hi x y c p q
   ·rcases List.mem_cons.mp hp with rfl|hp
    ·exact Nat.lt_succ_self _
    ·exact Nat.lt_succ_of_lt (hl p hp)
  ·rw[if_neg hk] at h1 h2
   exact Ea r n acc hi hl x y c h1 h2
def K_{M:Model}{A:Around}{E:Ω}{s:Shared}{scope:Scope}{g:Addr}{a:List (Str×Addr)}{i:Str}{env:Env}{Q:Env->Shared->Prop}(h:∀d:Heap,(d.Ns s⁻¹ fun _=>none)->(∀b o,s.heap.get? b=some o->d.get? b=some o)->
   (∀x c,(x,c)∈cellsFrom (s⁻¹+1) scope.names a->(x,c)∈a\/((x,NameKind.cell)∈scope.names/\s⁻¹+1<=c/\d.IsCell c none))->
   Q (newEnv scope s⁻¹ g (cellsFrom (s⁻¹+1) scope.names a) i none .none (some env) builtinsNs) {s with heap:=d}):
  wpAny M A (newFunctionEnv scope g a [] i none Value.none (some env)) Q E s:=by
 unfold newFunctionEnv;refine Af (wpAny_alloc ?_);refine Af (wpAny_layCells _ (fun name kind cells=>rfl) scope.names a _ _ ?_);have es:(s.heap.push {cls:=Value.type "dict",data:=Data.dict #[]}).objs.size=s⁻¹+1:=Heap.size_push ..;have:=h (pushCells (s.heap.push {cls:=Value.type "dict",data:=Data.dict #[]}) scope.names) ((Heap.Ns.new s.heap (.type "dict")).keeps fun b o e=>pushCells_keeps _ _ _ _ e) (fun b o e=>pushCells_keeps _ _ _ _ (Ai _ e)) (fun x c f=>by
  rw[<-es] at f ⊢;exact cf_mem scope.names _ a x c f)
 show wpAny M A _ _ _ _;refine Af (Am ?_);refine Am ?_;rw[<-es] at this;exact this
def cxD(X:Cx)(scope:Scope)(N:List Str)(a:List (Str×Addr))(C:Addr)(s₀:Shared)(H₀:Hp)(ex:List Addr):Cx:={eD X scope N a C s₀ H₀ ex with fn:=fun x=>decide (scope.names.lookup x=some .cell)}
section
variable{X:Cx}{scope:Scope}{N':List Str}{aj:List (Option Nat)}{tg iter aS:Expr}{aF:List Expr}{wi:TI}{g:TG}{tc:TT}{te:TE}{pos:Pos}
def GS{scope:Scope}{env:Env}{x:Str}:∀{names:List (Str×NameKind)},(names.lookup x=some .free\/names.lookup x=some .cell)-> ((names.map fun(n,k)=>if(k==Bk&&env.scope.kind==.function&&env.kindOf n==some .cell) then(n,NameKind.cell) else(n,k)).lookup x=some .free \/
   (names.map fun(n,k)=>if(k==Bk&&env.scope.kind==.function&&env.kindOf n==some .cell) then(n,NameKind.cell) else(n,k)).lookup x=some .cell)
 |[],h=>by simp at h
 |(n,k)::r,h=>by
  have a:=@GS scope env x r;show List.lookup x ((if(k==Bk&&env.scope.kind==.function&&env.kindOf n==some .cell)=true then(n,NameKind.cell) else(n,k))::_)=_\/List.lookup x ((if(k==Bk&&env.scope.kind==.function&&env.kindOf n==some .cell)=true then(n,NameKind.cell) else(n,k))::_)=_;cases hx:x==n with
  |true=>
   simp only[Bj,hx] at h
   by_cases hc:(k==Bk&&env.scope.kind==.function&&env.kindOf n==some .cell)=true
   ·rw[if_pos hc];simp[Bj,hx]
   ·rw[if_neg hc];simp only[Bj,hx];exact h
  |false=>
   simp only[Bj,hx] at h
   by_cases hc:(k==Bk&&env.scope.kind==.function&&env.kindOf n==some .cell)=true
   ·rw[if_pos hc];simp only[Bj,hx];exact a h
   ·rw[if_neg hc];simp only[Bj,hx];exact a h
def Eb{env:Env}{x:Str}{kd:NameKind}:∀{names:List (Str×NameKind)},(names.map fun(n,k)=>if(k==Bk&&env.scope.kind==.function&&env.kindOf n==some .cell) then(n,NameKind.cell) else(n,k)).lookup x=some kd->
  ∃a,names.lookup x=some a/\(kd=a\/(a=.free/\kd=.cell))
 |[],h=>by simp at h
 |(n,k)::r,h=>by
  have b:=@Eb env x kd r;have h':List.lookup x ((if(k==Bk&&env.scope.kind==.function&&env.kindOf n==some .cell)=true then(n,NameKind.cell) else(n,k))::_)=some kd:=h;cases hx:x==n with
  |true=>
   simp only[Bj,hx]
   by_cases hc:(k==Bk&&env.scope.kind==.function&&env.kindOf n==some .cell)=true
   ·rw[if_pos hc] at h'
    simp only[Bj,hx] at h';cases h';have hk:k=.free:=by
     rw[Bool.and_eq_true,Bool.and_eq_true] at hc;cases k<;>first|rfl|exact absurd hc.1.1 ξ
    exact⟨k,rfl,.inr ⟨hk,rfl⟩⟩
   ·rw[if_neg hc] at h'
    simp only[Bj,hx] at h';cases h';exact⟨_,rfl,.inl rfl⟩
  |false=>
   simp only[Bj,hx]
   by_cases hc:(k==Bk&&env.scope.kind==.function&&env.kindOf n==some .cell)=true
   ·rw[if_pos hc] at h';simp only[Bj,hx] at h';exact b h'
   ·rw[if_neg hc] at h';simp only[Bj,hx] at h';exact b h'
structure Left(X:Cx)(aa:Ψ)(σ:St)(H':Hp)(s4:Shared)(C:Addr):Prop where
 ns:∃m,s4.heap.Ns C m
 far:X.s₀⁻¹<=C
 nl:C≠X.env.locals
 nc:∀x c,X.env.cells.lookup x=some c->c≠C
 np:∀p∈X.pn++aa,p.1≠C
 no:H' C=none
 back:∀h',Heap.SameBut C s4.heap h'->Inv X aa σ H' {s4 with heap:=h'}
def GT{use:Option (Value->Sem Unit)}{R:Ω}{pp:Pos}(hc:X.calm=true)(hk:scope.kind=.function)(cD:∀y∈scope.names,y.2=.cell->scope.names.lookup y.1=some .cell)(av:∀y∈scope.names,y.2=.free->scope.names.lookup y.1=some .free)(aw:∀y∈scope.names,y.2=.local->scope.names.lookup y.1=some .local)(hfr:∀y∈scope.names,y.2=.free->X.env.kindOf y.1=some .cell\/X.env.kindOf y.1=some .free)(hcap:og X.N N' aj scope)(hi:PI X tg iter wi)(hg:∀cl C s₀ H₀ ex,PG (cxD X scope N' cl C s₀ H₀ ex) tg g)(ht:∀cl C s₀ H₀ ex,i0 (cxD X scope N' cl C s₀ H₀ ex) aF tc)(he:∀cl C s₀ H₀ ex,PE (cxD X scope N' cl C s₀ H₀ ex) aS te)(hs:∀x,foldedSetIterable iter X.env x=pure x){aa:Ψ}{s:Shared}{σ:St}{H:Hp}{Q:VK}(I:Inv X aa σ H s)(h:ki wi aj g tc te σ H Q)(fin:∀(D C:Addr)(H':Hp)(P:Shared)(f:Flow),Left X aa σ H' P C->Q (.ref D) H'->compPost (model X.prog X.w) X.A X.xe use R (.ref D) C (.ok f) P):wpAny (model X.prog X.w) X.A (comprehension (.ListComp aS [⟨tg,iter,aF,0⟩] scope pos) scope X.env pp (newList []) (firstAsync [⟨tg,iter,aF,0⟩]) (firstIter [⟨tg,iter,aF,0⟩] X.env) use) R X.xe s:=by
 have S:∀y∈scope.names,y.2=.free->∃c,X.env.cells.lookup y.1=some c:=fun y hy e=>I.ok.has y.1 (hfr y hy e);refine wpAny_comprehension_free (use:=use) rfl hs (K8 S) hk aw ?_;refine aT (hi aa s σ H _ I h) fun xv s1 h1=>aT h1 fun j7 O h2=>?_;obtain⟨it,M,tn,J,H2,e,I2,T,dJ,f2,q⟩:=h2;subst e;have jb:H2 O⁻¹=none:=I2.hok.fresh (Ad _);obtain⟨W,⟨m0,w0⟩,turn⟩:=q O⁻¹ jb;refine wpAny_newObj_type (K_ fun aH cN bW bQ=>?_);dsimp only at cN bW bQ ⊢;generalize hD:O⁻¹=D at *;obtain⟨l,e3⟩:∃l:Shared,l={O with heap:=O.heap.push {cls:=.type "list",dict:=none,data:=.seq ([]:List Value).toArray}}:=⟨_,rfl⟩;have h3:l.heap=O.heap.push {cls:=.type "list",dict:=none,data:=.seq ([]:List Value).toArray}:=by rw[e3]
 rw[<-h3] at cN bW bQ ⊢;have U:l⁻¹=D+1:=by rw[h3,Heap.size_push,hD]
 have I3:Inv X aa σ (upd H2 D (.lst [])) l:=by
  rw[e3,<-hD];exact I2.lnew (t':=O.toks) (ys:=[]) .nil (At _)
 obtain⟨Xc,E⟩:∃Xc,Xc=cxD X scope N' (cellsFrom (l⁻¹+1) scope.names (clOf X.env.cells scope.names [])) l⁻¹ l (upd H2 D (.lst [])) M:=⟨_,rfl⟩;have uR:PG Xc tg g:=by rw[E];exact hg _ _ _ _ _
 have ht':i0 Xc aF tc:=by rw[E];exact ht _ _ _ _ _
 have he':PE Xc aS te:=by rw[E];exact he _ _ _ _ _
 have xP:Xc.prog=X.prog:=by rw[E];rfl
 have xw:Xc.w=X.w:=by rw[E];rfl
 have xK:Xc.K=X.K:=by rw[E];rfl
 have xA:Xc.A=X.A:=by rw[E];rfl
 have xc:Xc.calm=true:=by rw[E];exact hc
 have xe:Xc.env=compEnvC scope (cellsFrom (l⁻¹+1) scope.names (clOf X.env.cells scope.names [])) l⁻¹ X.env:=by rw[E];rfl
 have xE:Xc.xe=fun _ _=>False:=by rw[E];rfl
 have G:∀x c,(cellsFrom (l⁻¹+1) scope.names (clOf X.env.cells scope.names [])).lookup x=some c->(X.env.cells.lookup x=some c/\scope.names.lookup x=some .free)\/(scope.names.lookup x=some .cell/\l⁻¹+1<=c/\aH.IsCell c none):=fun x c e=>by
  rcases bQ x c (PySem.mem_of_lookup e) with q|⟨q1,q2,q3⟩
  ·obtain⟨q4,q5⟩:=Cn S (fun p hp=>absurd hp (by simp)) q
   exact .inl ⟨q4,av _ q5 rfl⟩
  ·exact .inr ⟨cD _ q1 rfl,q2,q3⟩
 have hlow:∀p∈clOf X.env.cells scope.names [],p.2<l⁻¹+1:=fun p hp=>by
  obtain⟨q4,_⟩:=Cn S (fun p hp=>absurd hp (by simp)) (x:=p.1) (c:=p.2) hp;obtain⟨v,o,ho,_⟩:=I3.cell p.1 p.2 q4;exact Nat.lt_succ_of_lt (Ar ho)
 have Y:∀b∈M,b≠D/\b<D:=fun b hb=>by
  obtain⟨ob,eb,_⟩:=T.obj 0 _ dJ b hb;have:=Ar eb;rw[hD] at this;exact⟨AA this,this⟩
 have hfs:∀b∈frs X.stack,b<D:=fun b hb=>by
  obtain⟨_,ob,eb,_⟩:=I2.stack.mem hb;have:=Ar eb;rw[hD] at this;exact this
 have F:∀b o,l.heap.get? b=some o->aH.get? b=some o:=bW;have sL:(upd H2 D (.lst [])) l⁻¹=none:=I3.hok.fresh (Ad _);have Ic:Inv Xc aa (uf aj σ) (upd H2 D (.lst [])) {l with heap:=aH}:=by
  have okc:Xc.Ok:=by
   rw[E];refine⟨I.ok.mod,hk,I.ok.glob,I.ok.blt,Ad _,fun x y c a b=>Ea scope.names _ _ (fun x y c p q=>I.ok.inj x y c (Cn S (fun p hp=>absurd hp (by simp)) p).1 (Cn S (fun p hp=>absurd hp (by simp)) q).1) hlow x y c (PySem.mem_of_lookup a) (PySem.mem_of_lookup b),fun x hx=>?_,(fun x c a e=>by
    rcases G x c e with ⟨_,q⟩|⟨_,q,_⟩
    ·have a':=of_decide_eq_true a
     rw[q] at a';cases a'
    ·exact Nat.le_of_succ_le q),I.ok.hd,I.ok.frames,.inl rfl,fun b hb=>⟨?_,fun x c e=>?_⟩,fun b o e=>?_,?_,fun b o e z=>?_,fun b hb z=>?_,?_,fun b hb=>?_⟩
   ·have tU:(relabel scope X.env).names.lookup x=some .cell\/(relabel scope X.env).names.lookup x=some .free:=hx
    have key:∃k',scope.names.lookup x=some k'/\(k'=.free\/k'=.cell):=by
     rcases tU with q|q
     ·obtain⟨k',e1,e2⟩:=Eb q
      rcases e2 with e2|⟨e2,_⟩
      ·exact⟨k',e1,.inr e2.symm⟩
      ·exact⟨k',e1,.inl e2⟩
     ·obtain⟨k',e1,e2⟩:=Eb q
      rcases e2 with e2|⟨e2,_⟩
      ·exact⟨k',e1,.inl e2.symm⟩
      ·exact⟨k',e1,.inl e2⟩
    obtain⟨k',e1,e2⟩:=key;have hm:=PySem.mem_of_lookup e1;rcases e2 with rfl|rfl
    ·obtain⟨c,jd⟩:=Cm (cells:=X.env.cells) (acc:=[]) (.inl hm)
     obtain⟨d,hd⟩:=D_ jd;exact Option.isSome_iff_exists.mp (PySem.W.cellsFrom_some scope.names (l⁻¹+1) _ (.inr (by rw[hd];rfl)))
    ·exact Option.isSome_iff_exists.mp (PySem.W.cellsFrom_some scope.names (l⁻¹+1) _ (.inl e1))
   ·show b≠l⁻¹
    exact AA (by rw[U];exact Nat.lt_succ_of_lt (Y b hb).2)
   ·rcases G x c e with ⟨q,_⟩|⟨_,q,_⟩
    ·exact(f2 b hb).2.2.2.2.1 x c q
    ·have h1:b<l⁻¹+1:=by rw[U];exact Nat.lt_succ_of_lt (Nat.lt_succ_of_lt (Y b hb).2)
     exact Nat.ne_of_gt (Az h1 q)
   ·exact I3.bs b o e
   ·exact Ae I.ok.bsz I3.sz
   ·obtain⟨f,_,_,fx,_,_⟩:=f2 b z
    rcases fx with fx|fx
    ·exact I.ok.noex b o e fx
    ·have:=Az (Ar e) I.ok.bsz
     (first|lia|omega)
   ·rcases List.mem_cons.mp (I2.stkSub b z) with r|r
    ·exact(f2 b hb).2.1 r
    ·exact(f2 b hb).2.2.1 r
   ·exact I3.stack
   ·exact I3.stkFree b hb
  refine⟨okc,(by rw[E];rfl),I3.bare,?_,?_,fun x c e=>?_,?_,fun x c e=>?_,fun p hp=>?_,?_,?_⟩
  ·rw[E]
   exact Un.kept F
  ·rw[xe]
   refine⟨_,cN,fun i x v e1 e2 e3=>?_⟩;obtain⟨c1,c2⟩:=hcap;unfold uf at e2;rw[Aj] at e2;cases e4:aj[i]? with
   |none=>rw[e4] at e2;cases e2
   |some cc=>
    rw[e4] at e2;cases cc with
    |none=>cases e2
    |some j=>
     obtain⟨y,d1,d2,d3⟩:=c2 i j e4;have oK:N'[i]?=some x:=by rw[E] at e1;exact e1
     rw[d1] at oK;have sE:y=x:=AV oK;subst sE;have e5:σ[j]?=some (some v):=by
      simp only[Option.map_some,Option.some.injEq] at e2;cases e6:σ[j]? with
      |none=>rw[e6] at e2;cases e2
      |some ov=>rw[e6] at e2;simp only[Option.getD_some] at e2;rw[e2]
     have hm:=PySem.mem_of_lookup d3;have wl:B9 X.env.scope y:=by
      rcases hfr _ hm rfl with q|q
      ·exact .inr (.inl q)
      ·exact .inr (.inr q)
     obtain⟨m,_,hl⟩:=I3.loc;obtain⟨u,ru,lk⟩:=hl j y v d2 e5 wl;refine⟨u,ru,?_⟩;have xS:∃c,X.env.cells.lookup y=some c/\l.heap.IsCell c (some u):=by
      rcases lk with ⟨k1,_⟩|⟨_,c,k2,k3⟩
      ·rcases hfr _ hm rfl with q|q
       ·rw[k1] at q;cases q
       ·rw[k1] at q;cases q
      ·exact⟨c,k2,k3⟩
     obtain⟨c,k2,k3⟩:=xS;obtain⟨d,hd'⟩:=Cm (cells:=X.env.cells) (acc:=[]) (.inl hm);obtain⟨d',gm⟩:=D_ hd';obtain⟨d2,hd3⟩:=Option.isSome_iff_exists.mp (PySem.W.cellsFrom_some scope.names (l⁻¹+1) (clOf X.env.cells scope.names []) (x:=y) (.inr (by rw[gm];rfl)));have:c=d2:=by
      rcases G y d2 hd3 with ⟨q,_⟩|⟨q,_⟩
      ·rw[k2] at q
       exact AV q
      ·rw[d3] at q;cases q
     subst this;refine .inr ⟨?_,c,hd3,k3.keeps F⟩;have rl:=GS (scope:=scope) (env:=X.env) (x:=y) (names:=scope.names) (.inl d3);rcases rl with q|q
     ·exact .inr q
     ·exact .inl q
  ·rw[xe] at e
   rcases G x c e with ⟨q,_⟩|⟨_,_,q⟩
   ·obtain⟨v,k3⟩:=I3.cell x c q
    exact⟨v,k3.keeps F⟩
   ·exact⟨_,q⟩
  ·rw[xe];exact sL
  ·rw[xe] at e
   rcases G x c e with ⟨q,_⟩|⟨_,q,_⟩
   ·exact I3.freeC x c q
   ·exact I3.hok.fresh (Nat.le_of_succ_le q)
  ·have hp':p∈X.pn++aa:=by rw[E] at hp;exact hp
   obtain⟨a1,a2,a3,a4,a5⟩:=I3.pin p hp';refine⟨F _ _ a1,a2,?_,?_,a5⟩
   ·rw[xe]
    show p.1≠l⁻¹;exact AA (Ar a1)
   ·rw[E]
    intro z;rcases List.mem_cons.mp (I3.stkSub p.1 z) with r|r
    ·exact a3 r
    ·exact a4 r
  ·rw[xP,xw]
   exact I3.hok.kept F
  ·unfold uf
   rw[Aa,hcap.1,E]
   rfl
 have leave:∀{L:St}{H':Hp}{P:Shared}{h':Heap},Inv Xc aa L H' P->Heap.SameBut l⁻¹ P.heap h'->Inv X aa σ H' {P with heap:=h'}:=fun{L H' P h'} I4 am=>by
  have hlt:∀b o,O.heap.get? b=some o->b≠D/\b≠l⁻¹:=fun b o e=>by
   have hb:=Ar e;rw[hD] at hb;exact⟨AA hb,AA (by rw[U];exact Nat.lt_succ_of_lt hb)⟩
  have up3:∀b o,O.heap.get? b=some o->l.heap.get? b=some o:=fun b o e=>by rw[h3];exact Ai _ e
  have base:Un (frs X.stack) M (upd H2 D (.lst [])) H' l.heap P.heap:=by
   have:=I4.base;rw[E] at this;exact this
  have hCn:H' l⁻¹=none:=by
   have:=I4.free;rw[xe] at this;exact this
  have os4:P.os=O.os:=by
   have:=I4.os;rw[E] at this;rw[this];show l.os=O.os;rw[e3]
  refine I2.call' (s':={P with heap:=h'}) (ch:=M) os4 ⟨fun b o q n hb hx=>?_,fun b o q n hb hx=>?_,fun b o q n hx=>?_,fun b o q hx=>?_,fun b xs q=>?_,fun b o u q=>?_,fun b ps q=>?_⟩ ?_ I4.bare fun b hb=>?_
  ·obtain⟨n1,n2⟩:=hlt b o q
   exact(am.2 b n2).trans (base.keep b o (up3 b o q) (by rw[al n1];exact n) hb hx)
  ·obtain⟨n1,n2⟩:=hlt b o q
   obtain⟨sl,e⟩:=base.slot b o (up3 b o q) (by rw[al n1];exact n) hb hx;exact⟨sl,(am.2 b n2).trans e⟩
  ·obtain⟨n1,n2⟩:=hlt b o q
   exact base.free b o (up3 b o q) (by rw[al n1];exact n) hx
  ·obtain⟨n1,n2⟩:=hlt b o q
   obtain⟨o',e⟩:=base.there b o (up3 b o q) hx;exact⟨o',(am.2 b n2).trans e⟩
  ·exact base.tups b xs (by rw[al (zl q jb)];exact q)
  ·exact base.frzs b o u (by rw[al (zl q jb)];exact q)
  ·exact base.tbls b ps (by rw[al (zl q jb)];exact q)
  ·intro b u e
   have oG:=I4.hok b u e;rw[xP,xw] at oG;refine oG.stay (fun c v hc q=>(am.2 c ?_).trans q) (fun _ q=>q) fun _ _ q=>q;rintro rfl;rcases hc with z|z
   ·rw[<-z,hCn] at e;cases e
   ·rw[hCn] at z;cases z
  ·obtain⟨f0,f1,f3,f4,f5,f6⟩:=f2 b hb
   exact⟨f4,f1,f5,f6⟩
 have Z:∀{H':Hp},(∀b∈M,H' b=none)->∀b∈M,cx Xc aa H' b:=fun{H'} hn b hb=>by
  obtain⟨f0,f1,f3,f4,f5,f6⟩:=f2 b hb;refine⟨hn b hb,?_,?_,.inl (by rw[E];exact hb),fun x c e=>?_,fun p hp=>?_⟩
  ·rw[xe]
   show b≠l⁻¹;exact AA (by rw[U];exact Nat.lt_succ_of_lt (Y b hb).2)
  ·rw[E]
   intro z;rcases List.mem_cons.mp (I2.stkSub b z) with r|r
   ·exact f1 r
   ·exact f3 r
  ·rw[xe] at e
   rcases G x c e with ⟨q,_⟩|⟨_,q,_⟩
   ·exact f5 x c q
   ·have h1:b<l⁻¹+1:=by rw[U];exact Nat.lt_succ_of_lt (Nat.lt_succ_of_lt (Y b hb).2)
    exact Nat.ne_of_gt (Az h1 q)
  ·rw[E] at hp
   exact f6 p hp
 subst E;have iF:∀n s',(∃i L H',Inv (cxD X scope N' (cellsFrom (l⁻¹+1) scope.names (clOf X.env.cells scope.names [])) l⁻¹ l (upd H2 D (.lst [])) M) aa L H' s'/\tn i s'.heap/\(∀b∈M,H' b=none)/\W i n L H')->
   codeAny (model X.prog X.w) X.A (.compLoop (.ListComp aS [⟨tg,iter,aF,0⟩] scope pos) 0 (.ref it) (.ref D) (compEnvC scope (cellsFrom (l⁻¹+1) scope.names (clOf X.env.cells scope.names [])) l⁻¹ X.env)) (compPost (model X.prog X.w) X.A X.xe use R (.ref D) l⁻¹) s':=by
  intro n0 Bq qV;refine codeAny_loop rfl (fun n s'=>∃i L H',Inv (cxD X scope N' (cellsFrom (l⁻¹+1) scope.names (clOf X.env.cells scope.names [])) l⁻¹ l (upd H2 D (.lst [])) M) aa L H' s'/\tn i s'.heap/\(∀b∈M,H' b=none)/\W i n L H') (fun n s' hI=>?_) n0 qV;obtain⟨i,L,H',I',ab,c5,w'⟩:=hI;show wpAny _ X.A ((compTurn (.ListComp aS [⟨tg,iter,aF,0⟩] scope pos) 0 (.ref it) (.ref D) (compEnvC scope (cellsFrom (l⁻¹+1) scope.names (clOf X.env.cells scope.names [])) l⁻¹ X.env)).onRaise (fun x=>do noteFrame x (compEnvC scope (cellsFrom (l⁻¹+1) scope.names (clOf X.env.cells scope.names [])) l⁻¹ X.env);theTreesLotGoes x)) _ _ s';refine wpAny_noted ?_;rw[compTurn_list];refine Af (wpAny_standAt (Af ?_));rcases turn i n L H' w' with ⟨stop,qn⟩|⟨go,step⟩
  ·refine aT (T.done (cxD X scope N' (cellsFrom (l⁻¹+1) scope.names (clOf X.env.cells scope.names [])) l⁻¹ l (upd H2 D (.lst [])) M) rfl rfl rfl hc i aa s' L H' _ I' (Z c5) ab stop) fun r P ⟨hr,I4⟩=>?_
   subst hr;refine Am ?_;obtain⟨m,hn,_⟩:=id I4.loc;refine fin D _ H' P _ ⟨⟨m,hn⟩,I3.sz,fun e=>?_,fun x c e=>?_,fun p hp=>AA (Ar (I3.pin p hp).1),I4.free,fun h' am=>leave I4 am⟩ qn
   ·obtain⟨m3,jw,_⟩:=I3.loc
    obtain⟨o3,_,_,kP,_⟩:=jw;exact absurd e.symm (AA (Ar kP))
   ·obtain⟨v,hv⟩:=I3.cell x c e
    obtain⟨o3,kP,_⟩:=hv;exact AA (Ar kP)
  ·refine aT (T.item (cxD X scope N' (cellsFrom (l⁻¹+1) scope.names (clOf X.env.cells scope.names [])) l⁻¹ l (upd H2 D (.lst [])) M) rfl rfl rfl hc i aa s' L H' _ I' (Z c5) ab go) fun r P ⟨u,hr,h4⟩=>?_
   subst hr;refine Af (aT h4 fun _ s5 ⟨x,H5,I5,r5,y5,st5,fr5⟩=>?_);have lK:=I5.pinned (Z fr5) (T.obj _ _ st5);refine Af (wpAny_mono (uR _ s5 L H5 x u _ lK r5 (step x H5 y5)) (fun _ s6 h6=>?_) fun _ _ z=>z.elim);obtain⟨gN,H6,I6,q6⟩:=h6;refine Af (wpAny_mono (ht' _ s6 gN H6 _ I6 q6) (fun ok s7 h7=>?_) fun _ _ z=>z.elim);obtain⟨H7,I7,q7⟩:=h7;have again:∀{jB:St}{H8:Hp}{s8:Shared}{m':Nat},Inv (cxD X scope N' (cellsFrom (l⁻¹+1) scope.names (clOf X.env.cells scope.names [])) l⁻¹ l (upd H2 D (.lst [])) M) (aa++sU M s5.heap) jB H8 s8->m'<n->W (i+1) m' jB H8->
     ∃m,m<n/\∃i L H',Inv (cxD X scope N' (cellsFrom (l⁻¹+1) scope.names (clOf X.env.cells scope.names [])) l⁻¹ l (upd H2 D (.lst [])) M) aa L H' s8/\tn i s8.heap/\(∀b∈M,H' b=none)/\W i m L H':=fun{jB H8 s8 m'} I8 hm w8=>by
    refine⟨m',hm,i+1,jB,H8,I8.unpinned,T.keep _ _ _ st5 fun b hb o e=>(I8.pin (b,o) (Ay _ (Ay _ (Cc hb e)))).1,fun b hb=>?_,w8⟩;obtain⟨o,e,d⟩:=T.obj _ _ st5 b hb;exact(I8.pin (b,o) (Ay _ (Ay _ (Cc hb e)))).2.1
   cases ok with
   |false=>
    obtain⟨m',hm,w7⟩:=q7;exact Am ⟨rfl,again I7 hm w7⟩
   |true=>
    refine Af (Af (wpAny_mono (he' _ s7 gN H7 _ I7 q7) (fun v s8 h8=>?_) fun _ _ z=>z.elim));obtain⟨y,H8,I8,r8,ys,m',kB,vE,uF,w8⟩:=h8;refine Af (wpAny_mono (DY (X:=cxD X scope N' (cellsFrom (l⁻¹+1) scope.names (clOf X.env.cells scope.names [])) l⁻¹ l (upd H2 D (.lst [])) M) _ s8 gN H8 (.ref D) [y] (.ref D) [v] (fun _ H9=>H9=upd H8 D (.lst (ys++[y]))) I8 rfl (.cons r8 .nil) ⟨D,ys,y,rfl,rfl,kB,vE,rfl⟩) (fun _ s9 h9=>?_) fun _ _ z=>z.elim);obtain⟨_,H9,I9,_,e9⟩:=h9;subst e9;exact Am (Am ⟨rfl,again I9 uF w8⟩)
 have start:∃i L H',Inv (cxD X scope N' (cellsFrom (l⁻¹+1) scope.names (clOf X.env.cells scope.names [])) l⁻¹ l (upd H2 D (.lst [])) M) aa L H' {l with heap:=aH}/\tn i ({l with heap:=aH}:Shared).heap/\(∀b∈M,H' b=none)/\W i m0 L H':=by
  refine⟨0,uf aj σ,upd H2 D (.lst []),Ic,T.keep 0 _ _ dJ fun b hb o e=>F b o (by rw[h3];exact Ai _ e),fun b hb=>?_,w0⟩;rw[al (Y b hb).1];exact(f2 b hb).1
 have es:({O with heap:=aH}:Shared)={l with heap:=aH}:=by rw[e3]
 show codeAny (model X.prog X.w) X.A _ _ ({O with heap:=aH}:Shared);rw[es];refine codeAny_compStart_list (iF m0 _ start) (T.self _ 0 _ _ _ ?_ (iF m0 _ start));exact T.keep 0 _ _ dJ fun b hb o e=>F b o (by rw[h3];exact Ai _ e)
def oh(b:∀y∈scope.names,y.2≠.cell)(a:List (Str×Addr))(C:Addr)(s₀:Shared)(H₀:Hp)(ex:List Addr):eD X scope N' a C s₀ H₀ ex=cxD X scope N' a C s₀ H₀ ex:=by
 unfold cxD;have:(fun x=>decide (scope.names.lookup x=some NameKind.cell))=fun _=>false:=by
  funext x
  exact decide_eq_false fun e=>b _ (PySem.mem_of_lookup e) rfl
 rw[this]
 rfl
def K'{use:Option (Value->Sem Unit)}{R:Ω}{pp:Pos}(hc:X.calm=true)(hk:scope.kind=.function)(c:∀y∈scope.names,y.2≠.cell)(i:∀y∈scope.names,y.2=.free->scope.names.lookup y.1=some .free)(j:∀y∈scope.names,y.2=.local->scope.names.lookup y.1=some .local)(hfr:∀y∈scope.names,y.2=.free->X.env.kindOf y.1=some .cell\/X.env.kindOf y.1=some .free)(b:og X.N N' aj scope)(hi:PI X tg iter wi)(hg:∀a C s₀ H₀ ex,PG (eD X scope N' a C s₀ H₀ ex) tg g)(l:∀a C s₀ H₀ ex,i0 (eD X scope N' a C s₀ H₀ ex) aF tc)(o:∀a C s₀ H₀ ex,PE (eD X scope N' a C s₀ H₀ ex) aS te)(p:∀x,foldedSetIterable iter X.env x=pure x){aa:Ψ}{s:Shared}{σ:St}{H:Hp}{Q:VK}(I:Inv X aa σ H s)(h:ki wi aj g tc te σ H Q)(fin:∀(D C:Addr)(H':Hp)(d:Shared)(f:Flow),Left X aa σ H' d C->Q (.ref D) H'->compPost (model X.prog X.w) X.A X.xe use R (.ref D) C (.ok f) d):wpAny (model X.prog X.w) X.A (comprehension (.ListComp aS [⟨tg,iter,aF,0⟩] scope pos) scope X.env pp (newList []) (firstAsync [⟨tg,iter,aF,0⟩]) (firstIter [⟨tg,iter,aF,0⟩] X.env) use) R X.xe s:=
 GT hc hk (fun y hy e=>absurd e (c y hy)) i j hfr b hi (fun a C s₀ H₀ ex=>oh (X:=X) (N':=N') c a C s₀ H₀ ex▸hg a C s₀ H₀ ex) (fun a C s₀ H₀ ex=>oh (X:=X) (N':=N') c a C s₀ H₀ ex▸l a C s₀ H₀ ex) (fun a C s₀ H₀ ex=>oh (X:=X) (N':=N') c a C s₀ H₀ ex▸o a C s₀ H₀ ex) p I h fin
def La(hc:X.calm=true)(hk:scope.kind=.function)(c:∀y∈scope.names,y.2≠.cell)(i:∀y∈scope.names,y.2=.free->scope.names.lookup y.1=some .free)(j:∀y∈scope.names,y.2=.local->scope.names.lookup y.1=some .local)(hfr:∀y∈scope.names,y.2=.free->X.env.kindOf y.1=some .cell\/X.env.kindOf y.1=some .free)(b:og X.N N' aj scope)(hi:PI X tg iter wi)(hg:∀a C s₀ H₀ ex,PG (eD X scope N' a C s₀ H₀ ex) tg g)(l:∀a C s₀ H₀ ex,i0 (eD X scope N' a C s₀ H₀ ex) aF tc)(o:∀a C s₀ H₀ ex,PE (eD X scope N' a C s₀ H₀ ex) aS te)(p:∀x,foldedSetIterable iter X.env x=pure x:=by intro _;rfl):PE X (.ListComp aS [⟨tg,iter,aF,0⟩] scope pos) (ki wi aj g tc te):=by
 intro aa s σ H Q I h;rw[eval_ListComp];refine K' (use:=none) hc hk c i j hfr b hi hg l o p I h fun D C H' r f L q=>?_;obtain⟨m,e⟩:=L.ns;exact⟨m,e,fun h' d=>⟨.ref D,H',L.back h' d,rfl,q⟩⟩
end
end L2
end
section
namespace Zp
open PySem PySem.Spec PyProof.Rows
section
variable{prog:Program}{w:World}{A:Around}{E:Ω}{s:Shared}
def Lb{it t:Addr}{i:Nat}{c:Array Value}{x:Value}{Q:Ω}(b:s.heap.IsTupleIter it t i)(f:s.heap.IsTuple t c)(hx:c[i]?=some x)(g:∀h',h'.IsTupleIter it t (i+1)->Heap.SameBut it s.heap h'->Q x {s with heap:=h'}):wpAny (model prog w) A (Builtin.SmallTypes.nextOf (.ref it)) Q E s:=by
 obtain⟨o,a,hc,hd⟩:=id b;obtain⟨h,d,_,j,e⟩:=f;unfold Builtin.SmallTypes.nextOf;refine Af (wpAny_callSpecial?_slot (name:=Str.ofString "__next__") b.typeIs F.slot_tuple_iterator_next (wpAny_call_entry F.slot_tuple_iterator_next b.typeIs F.entry_tuple_iterator_next ?_ (F.args_tuple_iterator_next_1 _)));show wpAny _ _ (field (.ref it) 0 >>= _) _ _ s;refine Af (wpAny_field a hd (x:=.ref t) rfl ?_);show wpAny _ _ (if(Value.ref t==Value.none)=true then _ else _) _ _ s;rw[if_neg (show ¬((Value.ref t==Value.none)=true) from AF)];show wpAny _ _ (field (.ref it) 1 >>= _) _ _ s;refine Af (wpAny_field a hd (x:=.int i 0) rfl ?_);show wpAny _ _ (seqItems? (.ref t) >>= _) _ _ s;refine Af (wpAny_seqItems d e ?_);simp only[Int.toNat_natCast,hx];refine Af (wpAny_setField a hd (by simp) (Am ⟨x,rfl,Am (g _ ?_ (Heap.SameBut.update ..))⟩));exact⟨_,Heap.get?_update_self _ a (Obj.isFreed_of_fields (Obj.data_mapFields hd _)),(Obj.cls_mapFields ..).trans hc,by
  rw[Obj.data_mapFields hd];simp[rawInt]⟩
def Lc{it t:Addr}{i:Nat}{d:Array Value}{Q:Ω}(f:A.handled=none)(c:s.heap.IsTupleIter it t i)(j:s.heap.IsTuple t d)(hx:d[i]?=none)(l:∀h' e,Heap.ExtBut it s.heap h'->(∃o,h'.get? e=some o/\o.cls=.type "StopIteration")->E (.ref e) {s with heap:=h'}):wpAny (model prog w) A (Builtin.SmallTypes.nextOf (.ref it)) Q E s:=by
 obtain⟨o,b,hc,hd⟩:=id c;obtain⟨p,g,_,q,h⟩:=j;unfold Builtin.SmallTypes.nextOf;refine Af (wpAny_callSpecial?_slot (name:=Str.ofString "__next__") c.typeIs F.slot_tuple_iterator_next (wpAny_call_entry F.slot_tuple_iterator_next c.typeIs F.entry_tuple_iterator_next ?_ (F.args_tuple_iterator_next_1 _)));show wpAny _ _ (field (.ref it) 0 >>= _) _ _ s;refine Af (wpAny_field b hd (x:=.ref t) rfl ?_);show wpAny _ _ (if(Value.ref t==Value.none)=true then _ else _) _ _ s;rw[if_neg (show ¬((Value.ref t==Value.none)=true) from AF)];show wpAny _ _ (field (.ref it) 1 >>= _) _ _ s;refine Af (wpAny_field b hd (x:=.int i 0) rfl ?_);show wpAny _ _ (seqItems? (.ref t) >>= _) _ _ s;refine Af (wpAny_seqItems g h ?_);simp only[Int.toNat_natCast,hx];refine Af (wpAny_rule (Af (wpAny_setField b hd (by simp) ?_)));show wpAny _ _ (newExc (.type "StopIteration") [] >>= _) _ _ _;refine Af ?_;simp only[newExc,newTuple];refine Af (wpAny_newObj_type ?_ (by size_fits));refine Af (m:=firstArgMember _ _) (wpAny_of_eq (a:=Value.none) (by first|rfl|(simp only[firstArgMember];rfl)) ?_);refine wpAny_newObj_type ?_ (by size_fits);simp only[raiseNew];refine Af (wpAny_handled ?_)
 first|rw[show A.in1.handled=none from f]|rw[f]
 refine Af (Am (wpAny_throw ?_));exact l _ _ (((Heap.SameBut.update ..).extBut.push _).push _) ⟨_,AL _ rfl,rfl⟩
end
def Ld{h h':Heap}{a:Addr}{b:Array Value}(x:h.IsTuple a b)(e:∀o,h.get? a=some o->h'.get? a=some o):h'.IsTuple a b:=let ⟨o,ho,r⟩:=x;⟨o,e o ho,r⟩
def GU{prog:Program}{w:World}{A:Around}(j:A.handled=none)(it t:Addr)(b:t≠it)(a:Array Value):Draws prog w A it [it,t] a.size (fun i v=>a[i]?=some v) (fun i h=>h.IsTupleIter it t i/\h.IsTuple t a) where
 live:=fun _ _ st=>let ⟨o,ho,_⟩:=st.1;⟨o,ho⟩
 frame:=fun _ _ _ st hk=>⟨st.1.at fun o e=>hk it (by simp) o e,Ld st.2 fun o e=>hk t (by simp) o e⟩
 item:=fun i s Q E hi st d=>by
  refine Lb st.1 st.2 (x:=a[i]) (by simp[hi]) fun h' f c=>?_;exact d _ h' s.toks (by simp[hi]) ⟨f,st.2.extBut c.extBut b⟩ c
 done:=fun s Q E st g=>Lc j st.1 st.2 (by simp) g
structure Apart(z TI TO i1 i2:Addr)(ca bK:List Addr):Prop where
 z1:z∉ca
 z2:z∉bK
 o1:TO∉ca
 o2:TO∉bK
 m1:i1∈ca
 m2:i2∈bK
 x12:i1∉bK
 x21:i2∉ca
 TIz:TI≠z
 TOz:TO≠z
 TITO:TI≠TO
 TIi1:TI≠i1
 TIi2:TI≠i2
section
variable{prog:Program}{w:World}{A:Around}{E:Ω}{s:Shared}{z TI TO i1 i2:Addr}{ca bK:List Addr}{n1 n2 i:Nat}{P1 P2:Nat->Value->Prop}{S1 S2:Nat->Heap->Prop}{a b:Value}
def Le{Q:Ω}(D1:Draws prog w A i1 ca n1 P1 S1)(D2:Draws prog w A i2 bK n2 P2 S2)(D:Apart z TI TO i1 i2 ca bK)(hz:IsZip s.heap z TI TO .none)(c6:IsPair s.heap TI (.ref i1) (.ref i2))(c7:IsPair s.heap TO a b)(h1:S1 i s.heap)(h2:S2 i s.heap)(l1:i<n1)(l2:i<n2)(hQ:∀x y h' tk,P1 i x->P2 i y->IsZip h' z TI TO (rawInt s⁻¹)->IsPair h' TO x y->S1 (i+1) h'->S2 (i+1) h'->IsPair h' s⁻¹ x y->h'.objs.size=s⁻¹+1->
   (∀c o,c≠z->c≠TO->c≠i1->c≠i2->s.heap.get? c=some o->h'.get? c=some o)->Q (.ref s⁻¹) {s with heap:=h',toks:=tk}):
  wpAny (model prog w) A (Builtin.«zip.__next__» ⟨[.ref z],[]⟩) (fun fin s'=>∃v,fin=.done (.ret v)/\Q v s') E s:=by
 have f:∀c∈ca,c≠z:=fun c hc e=>D.z1 (e▸hc);have L:∀c∈bK,c≠z:=fun c hc e=>D.z2 (e▸hc);have M:∀c∈ca,c≠TO:=fun c hc e=>D.o1 (e▸hc);have N:∀c∈bK,c≠TO:=fun c hc e=>D.o2 (e▸hc);have kH:∀c∈bK,c≠i1:=fun c hc e=>D.x12 (e▸hc);have uu:∀c∈ca,c≠i2:=fun c hc e=>D.x21 (e▸hc);have jn:i1≠z:=f _ D.m1;have k9:i2≠z:=L _ D.m2;have fQ:TO≠i1:=(M _ D.m1).symm;have kx:TO≠i2:=(N _ D.m2).symm;show wpAny _ _ (field (.ref z) 2 >>= _) _ _ _;refine Af (wpAny_field hz rfl (x:=.bool false) rfl ?_);show wpAny _ _ (field (.ref z) 3 >>= _) _ _ _;refine Af (wpAny_field hz rfl (x:=.ref TI) rfl ?_);refine Af (wpAny_seqItems c6 rfl ?_);show wpAny _ _ (Builtin.SmallTypes.ownedTupleIsFree (.ref z) >>= _) _ _ _;refine Af ?_;unfold Builtin.SmallTypes.ownedTupleIsFree;refine Af (wpAny_field hz rfl (x:=.none) rfl (Am ?_));simp only[if_true];refine Af (wpAny_rule ?_);refine Af (wpAny_field hz rfl (x:=.ref TO) rfl ?_);refine Af (wpAny_setField_rec hz (by simp) fun g1 u k1=>?_);replace u:IsZip g1 z TI TO .ellipsis:=u;refine Af ?_;simp only[List.zipIdx_cons,List.zipIdx_nil,List.forIn_cons,List.forIn_nil];refine Af (Af (wpAny_onRaise ?_));show wpAny _ _ (Builtin.SmallTypes.nextOf (.ref i1) >>= _) _ _ _;refine Af (D1.item i _ _ _ l1 (D1.frame _ _ _ h1 fun c hc o e=>k1.extBut c o (f c hc) e) fun x g2 yf X Y k2=>Am ?_);have O:IsPair g2 TO a b:=k2.extBut _ _ fQ (k1.extBut _ _ D.TOz c7);refine Af (wpAny_seqItems O rfl ?_);refine Af (wpAny_updateSeq_pair O fun g3 C g=>?_);replace C:IsPair g3 TO x b:=C;refine Af (wpAny_letGo (Am ?_));refine Af (Af (wpAny_onRaise ?_));show wpAny _ _ (Builtin.SmallTypes.nextOf (.ref i2) >>= _) _ _ _;refine Af (D2.item i _ _ _ l2 (D2.frame _ _ _ h2 fun c hc o e=>g.extBut c o (N c hc) (k2.extBut c o (kH c hc) (k1.extBut c o (L c hc) e))) fun y g4 y4 Z s4 h=>Am ?_);have P:IsPair g4 TO x b:=h.extBut _ _ kx C;refine Af (wpAny_seqItems P rfl ?_);refine Af (wpAny_updateSeq_pair P fun d p j=>?_);replace p:IsPair d TO x y:=p;refine Af (wpAny_letGo (Am (Am ?_)));refine Af (wpAny_seqItems p rfl ?_);refine Af (wpAny_newTuple ?_);have hsz:d.objs.size=s⁻¹:=by rw[j.1,h.1,g.1,k2.1,k1.1]
 have S:IsZip d z TI TO .ellipsis:=j.extBut _ _ D.TOz.symm (h.extBut _ _ k9.symm (g.extBut _ _ D.TOz.symm (k2.extBut _ _ jn.symm u)));have kk:∀c o,c≠z->c≠TO->c≠i1->c≠i2->s.heap.get? c=some o->d.get? c=some o:=fun c o c1 q F G e=>
  j.extBut _ _ q (h.extBut _ _ G (g.extBut _ _ q (k2.extBut _ _ F (k1.extBut _ _ c1 e))))
 have d1:S1 (i+1) d:=D1.frame _ _ _ Y fun c hc o e=>j.extBut c o (M c hc) (h.extBut c o (uu c hc) (g.extBut c o (M c hc) e));have d2:S2 (i+1) d:=D2.frame _ _ _ s4 fun c hc o e=>j.extBut c o (N c hc) e;have T:z<d.objs.size:=Ar S;have e1:∀c∈ca,∀o,d.get? c=some o->c<d.objs.size:=fun c _ o e=>Ar e;show wpAny _ _ (Builtin.SmallTypes.ownedTupleHandOut (.ref z) (.ref d.objs.size) >>= _) _ _ _;refine Af ?_;unfold Builtin.SmallTypes.ownedTupleHandOut;have z6:IsZip (d.push {cls:=.type "tuple",data:=.seq #[x,y]}) z TI TO .ellipsis:=Ai _ S;refine Af (wpAny_setField_rec z6 (by simp) fun g7 H I=>?_);replace H:IsZip g7 z TI TO (rawInt d.objs.size):=H;refine wpAny_setField_rec H (by simp) fun l r J=>?_;replace r:IsZip l z TI TO (rawInt d.objs.size):=r;have up:∀c o,c≠z->d.get? c=some o->l.get? c=some o:=fun c o c1 e=>J.extBut _ _ c1 (I.extBut _ _ c1 (Ai _ e));have W:IsPair l d.objs.size x y:=J.extBut _ _ (Nat.ne_of_gt T) (I.extBut _ _ (Nat.ne_of_gt T) (AL _ rfl));have U:l.objs.size=d.objs.size+1:=by rw[J.1,I.1,Heap.size_push]
 rw[hsz] at r W U;refine Am ⟨_,rfl,?_⟩;show Q (.ref d.objs.size) _;rw[hsz];exact hQ x y l _ X Z r (up _ _ D.TOz p) (D1.frame _ _ _ d1 fun c hc o e=>up c o (f c hc) e) (D2.frame _ _ _ d2 fun c hc o e=>up c o (L c hc) e) W U fun c o c1 q F G e=>up c o c1 (kk c o c1 q F G e)
def Lf{Q:Fin->Shared->Prop}(D1:Draws prog w A i1 ca n1 P1 S1)(D2:Draws prog w A i2 bK n2 P2 S2)(D:Apart z TI TO i1 i2 ca bK)(hz:IsZip s.heap z TI TO .none)(Y:IsPair s.heap TI (.ref i1) (.ref i2))(Z:IsPair s.heap TO a b)(h1:S1 i s.heap)(h2:S2 i s.heap)(O:i=n1\/(i<n1/\i=n2))(J:∀h' e tk,(∀c o,c≠z->c≠TO->c≠i1->c≠i2->s.heap.get? c=some o->h'.get? c=some o)->(∃o,h'.get? e=some o/\o.cls=.type "StopIteration")->E (.ref e) {s with heap:=h',toks:=tk}):wpAny (model prog w) A (Builtin.«zip.__next__» ⟨[.ref z],[]⟩) Q E s:=by
 have h:∀c∈ca,c≠z:=fun c hc e=>D.z1 (e▸hc);have C:∀c∈bK,c≠z:=fun c hc e=>D.z2 (e▸hc);have S:∀c∈ca,c≠TO:=fun c hc e=>D.o1 (e▸hc);have T:∀c∈bK,c≠TO:=fun c hc e=>D.o2 (e▸hc);have U:∀c∈bK,c≠i1:=fun c hc e=>D.x12 (e▸hc);have F:i1≠z:=h _ D.m1;have W:i2≠z:=C _ D.m2;have X:TO≠i1:=(S _ D.m1).symm;show wpAny _ _ (field (.ref z) 2 >>= _) _ _ _;refine Af (wpAny_field hz rfl (x:=.bool false) rfl ?_);show wpAny _ _ (field (.ref z) 3 >>= _) _ _ _;refine Af (wpAny_field hz rfl (x:=.ref TI) rfl ?_);refine Af (wpAny_seqItems Y rfl ?_);show wpAny _ _ (Builtin.SmallTypes.ownedTupleIsFree (.ref z) >>= _) _ _ _;refine Af ?_;unfold Builtin.SmallTypes.ownedTupleIsFree;refine Af (wpAny_field hz rfl (x:=.none) rfl (Am ?_));simp only[if_true];refine Af (wpAny_rule ?_);refine Af (wpAny_field hz rfl (x:=.ref TO) rfl ?_);refine Af (wpAny_setField_rec hz (by simp) fun g1 j k1=>?_);replace j:IsZip g1 z TI TO .ellipsis:=j;refine Af ?_;simp only[List.zipIdx_cons,List.zipIdx_nil,List.forIn_cons,List.forIn_nil];refine Af (Af (wpAny_onRaise ?_));have f1:=D1.frame _ _ _ h1 fun c hc o e=>k1.extBut c o (h c hc) e;rcases O with q|⟨P,q⟩
 ·show wpAny _ _ (Builtin.SmallTypes.nextOf (.ref i1) >>= _) _ _ _
  refine Af (D1.done _ _ _ (q▸f1) fun g2 e k2 l=>?_);obtain⟨r,d,g⟩:=l;have G:IsZip g2 z TI TO .ellipsis:=k2 _ _ F.symm j;have u:e≠z:=fun x=>by subst x;rw[G] at d;cases d;simp at g
  refine wpAny_setField_rec G (by simp) fun g3 _ f=>J g3 e _ (fun c o c1 _ p _ x=>f.extBut _ _ c1 (k2 _ _ p (k1.extBut _ _ c1 x))) ⟨r,f.extBut _ _ u d,g⟩
 ·show wpAny _ _ (Builtin.SmallTypes.nextOf (.ref i1) >>= _) _ _ _
  refine Af (D1.item i _ _ _ P f1 fun x g2 yf px s2 k2=>Am ?_);have H:IsPair g2 TO a b:=k2.extBut _ _ X (k1.extBut _ _ D.TOz Z);refine Af (wpAny_seqItems H rfl ?_);refine Af (wpAny_updateSeq_pair H fun g3 t3 f=>?_);refine Af (wpAny_letGo (Am ?_));refine Af (Af (wpAny_onRaise ?_));have f2:S2 i g3:=D2.frame _ _ _ h2 fun c hc o e=>f.extBut c o (T c hc) (k2.extBut c o (U c hc) (k1.extBut c o (C c hc) e));show wpAny _ _ (Builtin.SmallTypes.nextOf (.ref i2) >>= _) _ _ _;refine Af (D2.done _ _ _ (q▸f2) fun g4 e v l=>?_);obtain⟨r,d,g⟩:=l;have I:IsZip g4 z TI TO .ellipsis:=v _ _ W.symm (f.extBut _ _ D.TOz.symm (k2.extBut _ _ F.symm j));have u:e≠z:=fun x=>by subst x;rw[I] at d;cases d;simp at g
  refine wpAny_setField_rec I (by simp) fun L _ y=>J L e _ (fun c o c1 M p N x=>y.extBut _ _ c1 (v _ _ N (f.extBut _ _ M (k2.extBut _ _ p (k1.extBut _ _ c1 x))))) ⟨r,y.extBut _ _ u d,g⟩
end
def GV{prog:Program}{w:World}{A:Around}{z TI TO i1 i2:Addr}{ca bK:List Addr}{n1 n2:Nat}{P1 P2:Nat->Value->Prop}{S1 S2:Nat->Heap->Prop}(D1:Draws prog w A.in1 i1 ca n1 P1 S1)(D2:Draws prog w A.in1 i2 bK n2 P2 S2)(D:Apart z TI TO i1 i2 ca bK):WalksT prog w A z (z::TI::TO::(ca++bK)) [z,TO,i1,i2] (min n1 n2) (fun i u=>∃x y,P1 i x/\P2 i y/\u=#[x,y])
   (fun i h=>IsZip h z TI TO .none/\IsPair h TI (.ref i1) (.ref i2)/\(∃a b,IsPair h TO a b)/\S1 i h/\S2 i h)
   (fun i T h=>IsZip h z TI TO (rawInt T)/\IsPair h TI (.ref i1) (.ref i2)/\(∃a b,IsPair h TO a b)/\S1 (i+1) h/\S2 (i+1) h/\T≠z/\T≠TO/\T≠i1/\T≠i2) where
 sub:=fun c hc=>by
  simp at hc ⊢;rcases hc with rfl|rfl|rfl|rfl
  ·simp
  ·simp
  ·exact .inr (.inr (.inr (.inl D.m1)))
  ·exact .inr (.inr (.inr (.inr D.m2)))
 frame:=fun i h h' j hk=>by
  obtain⟨hz,f,⟨a,b,g⟩,h1,h2⟩:=j;exact⟨hk z (by simp) _ hz,hk TI (by simp) _ f,⟨a,b,hk TO (by simp) _ g⟩,D1.frame _ _ _ h1 fun c hc o e=>hk c (by simp[hc]) o e,D2.frame _ _ _ h2 fun c hc o e=>hk c (by simp[hc]) o e⟩
 item:=fun i s Q E hi j l=>by
  obtain⟨hz,f,⟨a,b,g⟩,h1,h2⟩:=j;have d:s.TypeIs (.ref z) "zip":=⟨_,hz,rfl⟩;unfold pyNext;refine Af (wpAny_attempt (wpAny_callSpecial?_slot (name:=Str.ofString "__next__") d F.slot_zip_next (wpAny_call_entry F.slot_zip_next d F.entry_zip_next
   (Le D1 D2 D hz f g h1 h2 (Az hi (Nat.min_le_left ..)) (Az hi (Nat.min_le_right ..)) fun x y h' tk v C a1 a2 a3 a4 a5 U hk=>Am ?_) (F.args_zip_next_1 _))))
  have lt:∀{c o},s.heap.get? c=some o->s⁻¹≠c:=fun e=>Nat.ne_of_gt (Ar e);obtain⟨W,I⟩:=D1.live _ _ h1;obtain⟨X,J⟩:=D2.live _ _ h2;exact l s⁻¹ #[x,y] h' tk ⟨_,_,v,C,rfl⟩ (Ad _) ⟨_,a5,rfl,_,rfl⟩ ⟨a1,hk _ _ D.TIz D.TITO D.TIi1 D.TIi2 f,⟨_,_,a2⟩,a3,a4,lt hz,lt g,lt I,lt J⟩
   fun c o hc e=>hk c o (fun x=>hc (by simp[x])) (fun x=>hc (by simp[x])) (fun x=>hc (by simp[x])) (fun x=>hc (by simp[x])) e
 go:=fun aG k pos i T s Q E r l=>by
  obtain⟨hz,f,⟨a,b,g⟩,h1,h2,_⟩:=r;refine wpAny_letOwnedTupleGo_zip hz fun h' G p=>l h' ⟨G,p.extBut _ _ D.TIz f,⟨a,b,p.extBut _ _ D.TOz g⟩,
   D1.frame _ _ _ h1 fun c hc o e=>p.extBut c o (fun q=>D.z1 (q▸hc)) e,D2.frame _ _ _ h2 fun c hc o e=>p.extBut c o (fun q=>D.z2 (q▸hc)) e⟩ fun c o hc e=>p.extBut _ _ (fun x=>hc (by simp[x])) e
 apart:=fun i T h r d=>by
  obtain⟨_,_,_,_,_,L,M,N,O⟩:=r;simp at d;rcases d with rfl|rfl|rfl|rfl
  ·exact L rfl
  ·exact M rfl
  ·exact N rfl
  ·exact O rfl
 done:=fun s Q E j l=>by
  obtain⟨hz,f,⟨a,b,g⟩,h1,h2⟩:=j;have d:s.TypeIs (.ref z) "zip":=⟨_,hz,rfl⟩;have S:min n1 n2=n1\/(min n1 n2<n1/\min n1 n2=n2):=ω
  unfold pyNext;refine Af (wpAny_attempt (wpAny_callSpecial?_slot (name:=Str.ofString "__next__") d F.slot_zip_next
   (wpAny_call_entry F.slot_zip_next d F.entry_zip_next (Lf D1 D2 D hz f g h1 h2 S fun h' e tk hk H=>?_) (F.args_zip_next_1 _))))
  obtain⟨o,P,hc⟩:=H;refine Af (wpAny_isInstance (T:="StopIteration") (b:=true) ⟨o,P,hc⟩ isSubtype_stop ?_);exact Am (l _ tk fun c o hc e=>hk c o (fun x=>hc (by simp[x])) (fun x=>hc (by simp[x])) (fun x=>hc (by simp[x])) (fun x=>hc (by simp[x])) e)
 self:=fun i s Q E j l=>wpAny_pyIter_zip j.1 l
end Zp
end
section
namespace L2
open PySem PySem.Spec PyProof.Rows
section
variable{X:Cx}{aa:Ψ}{σ:St}{H:Hp}{s:Shared}{h':Heap}
def Inv.turneds{t':Nat}{ch:List Addr}(I:Inv X aa σ H s)(d:∀b∈ch,cx X aa H b)(k:∀b o,b∉ch->s.heap.get? b=some o->h'.get? b=some o):Inv X aa σ H {s with heap:=h',toks:=t'}:=by
 have a:∀b u,H b=some u->b∉ch:=fun b u e z=>by have:=(d b z).1;rw[this] at e;cases e
 refine I.step (g':=s.gens) (d':=s.drawn) (ch:=ch) (fun b hb=>?_) (fun b o _ _ hc e _=>k b o hc e) (fun b o _ _ hc e _=>⟨o.slots,k b o hc e⟩) (fun _ _ _ _ n=>n)
  (fun b o hc e=>⟨o,k b o hc e⟩) (fun _ _ e=>e) (fun _ _ _ e=>e) (fun b ps e=>⟨#[],by rw[e];simp⟩) (fun m f=>?_) (fun b u e=>?_) I.bare
 ·obtain⟨l,f1,f2,g,h,i⟩:=d b hb
  exact⟨g,f1,h,i⟩
 ·obtain⟨o,es,ep,j,r⟩:=f
  exact⟨o,es,ep,k _ o (fun z=>(d _ z).2.1 rfl) j,r⟩
 ·refine(I.hok b u e).stay (fun c v hc q=>k c v ?_ q) (fun _ q=>q) fun _ _ q=>q
  rcases hc with z|z
  ·rw[z];exact a b u e
  ·exact a c _ z
def Inv.adopt{a:Addr}{o:HO}(I:Inv X aa σ H s)(d:H a=none)(h1:X.s₀⁻¹<=a)(h2:a≠X.env.locals)(g:∀x c,X.env.cells.lookup x=some c->c≠a)(h:∀p∈X.pn++aa,p.1≠a)(new:zah X.prog X.w (upd H a o) s.heap a o):Inv X aa σ (upd H a o) s:=by
 refine I.step (h':=s.heap) (g':=s.gens) (t':=s.toks) (d':=s.drawn) (ch:=[a]) (fun b hb=>?_) (fun b o _ _ hc e _=>e) (fun b o _ _ hc e _=>⟨o.slots,e⟩) (fun b o hc e n=>?_)
  (fun b o hc e=>⟨o,e⟩) (fun b xs e=>?_) (fun b o u e=>?_) (fun b ps e=>⟨#[],?_⟩) (fun m f=>f) (fun b u e=>?_) I.bare
 ·have e:b=a:=by simpa using hb
  subst e;exact⟨.inr h1,h2,g,h⟩
 ·rw[al (fun z=>hc (by simp[z]))];exact n
 ·rw[al (zl e d)];exact e
 ·rw[al (zl e d)];exact e
 ·rw[al (zl e d),e];simp
 ·by_cases hb:b=a
  ·subst hb;rw[ac] at e;cases e;exact new
  ·rw[al hb] at e
   exact(I.hok b u e).stay (fun _ _ _ q=>q) (fun c q=>by rw[al (zl q d)];exact q) fun c xs q=>by rw[al (zl q d)];exact q
def Inv.grown{t':Nat}{ch:List Addr}{a:Addr}{o:HO}(I:Inv X aa σ H s)(f:∀b∈ch,cx X aa H b)(k:∀b o,b∉ch->s.heap.get? b=some o->h'.get? b=some o)(hp:s⁻¹<=a)(new:zah X.prog X.w (upd H a o) h' a o):Inv X aa σ (upd H a o) {s with heap:=h',toks:=t'}:=by
 have I1:Inv X aa σ H {s with heap:=h',toks:=t'}:=I.turneds f k;obtain⟨c,f1,f2,g,d,e⟩:=I.fpOk hp (I.hok.fresh hp);exact I1.adopt c (Ae I.sz hp) f1 d e new
def GW{b t:Addr}{o:Obj}(I:Inv X aa σ H s)(f:cx X aa H b)(hk:X.K.lookup t=some o):t≠b:=by
 intro z;subst z;have e:=I.ok.mod.kin t o hk;rcases f.2.2.2.1 with q|q
 ·exact I.ok.noex t o e q
 ·exact absurd (Az (Ar (I.ok.bs t o e).1) q) (Nat.lt_irrefl _)
def GX{b t:Addr}{xs:List V}(I:Inv X aa σ H s)(f:cx X aa H b)(h:SqT X.K H t xs):t≠b:=by
 rcases h with (h|⟨o,h⟩)|⟨o,_,_,hk,_⟩
 ·exact zl h f.1
 ·exact zl h f.1
 ·exact GW I f hk
def Ec{b t:Addr}{xs:List V}(I:Inv X aa σ H s)(f:cx X aa H b)(h:SqL X.K H t xs):t≠b:=by
 rcases h with (h|⟨o,h⟩)|⟨o,_,_,hk,_⟩
 ·exact zl h f.1
 ·exact zl h f.1
 ·exact GW I f hk
end
def Ed{P:Program}{w:World}{K:Ag}{J:It}{a wr:List Addr}{it:Addr}{tn:Nat->Heap->Prop}{aG:List Expr}{k:Nat}{pos:Pos}(mem:it∈a)(obj:∀i h,tn i h->∀b∈a,∃o,h.get? b=some o/\∀v,o.data≠.cell v)(keep:∀i h h',tn i h->(∀b∈a,∀o,h.get? b=some o->h'.get? b=some o)->tn i h')(hw:∀b∈wr,b∈a)(W:∀(X:Cx),X.prog=P->X.w=w->X.K=K->X.calm=true->∀(i:Nat)(aa:Ψ)(s:Shared)(σ:St)(H:Hp),Inv X aa σ H s->(∀b∈a,cx X aa H b)->tn i s.heap->(J.go i H\/J.stop i H)->
   ∃(z:List Addr)(n:Nat)(x:Nat->Array Value->Prop)(S:Nat->Heap->Prop)(Mid:Nat->Addr->Heap->Prop),WalksT P w X.A it z wr n x S Mid/\S i s.heap/\(∀j h,S j h->tn j h)/\
    (J.go i H->i<n/\∀d,x i d->∃xs:List V,Vals xs d.toList/\xs.length<=sizeLine/\∀p,H p=none->J.yld i H (.ref p) (upd H p (.tup xs)))/\(J.stop i H->i=n))
  (self:∀(A:Around)(i:Nat)(s:Shared)(Q:Ω)(E:Ω),tn i s.heap->Q (.ref it) s->wpAny (model P w) A (pyIter (.ref it)) Q E s) :
  Turn P w K (.Tuple aG k pos) J a it tn where
 mem:=mem
 obj:=obj
 keep:=keep
 item:=by
  intro X f l r hc i aa s σ H E I c st hg;obtain⟨z,n,x,S,Mid,WT,C,D,g,_⟩:=W X f l r hc i aa s σ H I c st (.inl hg);obtain⟨hi,hv⟩:=g hg;subst f l r;refine WT.item i s _ _ hi C fun T d h' tk hp y F G hk=>⟨.ref T,rfl,?_⟩;obtain⟨xs,O,hz,hy⟩:=hv d hp;have I1:Inv X aa σ (upd H T (.tup xs)) {s with heap:=h',toks:=tk}:=I.grown (ch:=wr) (fun b hb=>c b (hw b hb)) hk y (show zah X.prog X.w _ h' T (.tup xs) from⟨hz,d.toList,O,by have q:IsTup h' T d:=F;simpa using q⟩);have Y:∀b∈a,b≠T:=fun b hb=>by
   obtain⟨o,e,_⟩:=obj i _ st b hb;exact AA (Az (Ar e) y)
  have u:∀b∈a,cx X aa (upd H T (.tup xs)) b:=fun b hb=>by
   obtain⟨U,fr⟩:=c b hb;exact⟨by rw[al (Y b hb)];exact U,fr⟩
  refine WT.go aG k pos i T _ _ _ G fun L M N=>?_;have Z:Inv X aa σ (upd H T (.tup xs)) {s with heap:=L,toks:=tk}:=I1.turneds (s:={s with heap:=h',toks:=tk}) (t':=tk) (ch:=wr) (fun b hb=>u b (hw b hb)) N;exact⟨.ref T,_,Z,rfl,hy T (I.hok.fresh y),D _ _ M,fun b hb=>(u b hb).1⟩
 done:=by
  intro X f l r hc i aa s σ H E I c st hg;obtain⟨z,n,x,S,Mid,WT,C,D,_,g⟩:=W X f l r hc i aa s σ H I c st (.inr hg);subst f l r;have e:=g hg;subst e;exact WT.done s _ _ C fun h' tk hk=>⟨rfl,I.turneds (ch:=wr) (fun b hb=>c b (hw b hb)) hk⟩
 self:=self
def Co(K:Ag)(a b:Addr):It:=
 ⟨fun i H=>∃xs ys,SqT K H a xs/\SqT K H b ys/\i<min xs.length ys.length,
  fun i H v H'=>∃p x y,v=.ref p/\H p=none/\H'=upd H p (.tup [x,y])/\(∀xs,SqT K H a xs->xs[i]?=some x)/\∀ys,SqT K H b ys->ys[i]?=some y,
  fun i H=>∃xs ys,SqT K H a xs/\SqT K H b ys/\i=min xs.length ys.length⟩
def du:(2:Nat)<=sizeLine:=by rw[sizeLine_eq];decide
def Lg{P:Program}{w:World}{K:Ag}{aG:List Expr}{k:Nat}{pos:Pos}(C D z TI TO i1 i2:Addr)(hd:TI≠z/\TO≠z/\TI≠TO/\TI≠i1/\TI≠i2/\z≠i1/\z≠i2/\TO≠i1/\TO≠i2/\i1≠i2):Turn P w K (.Tuple aG k pos) (Co K C D) [z,TI,TO,i1,i2] z (fun i h=>IsZip h z TI TO .none/\IsPair h TI (.ref i1) (.ref i2)/\(∃a b,IsPair h TO a b)/\h.IsTupleIter i1 C i/\h.IsTupleIter i2 D i):=by
 obtain⟨d1,d2,d3,d4,d5,d6,d7,d8,d9,O⟩:=hd;refine Ed (wr:=[z,TO,i1,i2]) (by simp) (fun i h st b hb=>?_) (fun i h h' st c=>?_) (fun b hb=>?_) (fun X Z hw hK hc i aa s σ H I N st iM=>?_) fun A i s Q E st h=>wpAny_pyIter_zip st.1 h
 ·obtain⟨a1,a2,⟨a,b',a3⟩,⟨o4,a4,_,F⟩,⟨o5,a5,_,e5⟩⟩:=st
  simp at hb;rcases hb with rfl|rfl|rfl|rfl|rfl
  ·exact⟨_,a1,fun v z=>by cases z⟩
  ·exact⟨_,a2,fun v z=>by cases z⟩
  ·exact⟨_,a3,fun v z=>by cases z⟩
  ·exact⟨_,a4,fun v z=>by rw[F] at z;cases z⟩
  ·exact⟨_,a5,fun v z=>by rw[e5] at z;cases z⟩
 ·obtain⟨a1,a2,⟨a,b',a3⟩,a4,a5⟩:=st
  exact⟨c z (by simp) _ a1,c TI (by simp) _ a2,⟨a,b',c TO (by simp) _ a3⟩,a4.at fun o e=>c i1 (by simp) o e,a5.at fun o e=>c i2 (by simp) o e⟩
 ·simp at hb ⊢
  rcases hb with rfl|rfl|rfl|rfl<;>simp
 ·subst Z hw hK
  have hd:∃xs ys,SqT X.K H C xs/\SqT X.K H D ys:=by
   rcases iM with ⟨xs,ys,a,b,_⟩|⟨xs,ys,a,b,_⟩
   ·exact⟨xs,ys,a,b⟩
   ·exact⟨xs,ys,a,b⟩
  obtain⟨xs,ys,d,l⟩:=hd;obtain⟨us,r1,p1,_⟩:=I.tuple d;obtain⟨ws,r2,p2,_⟩:=I.tuple l;have S:=r1.length;have T:=r2.length;have U:=I.ok.hd hc;obtain⟨a1,a2,a3,a4,a5⟩:=st;have f:=fun b hb=>GX I (N b hb) d;have G:=fun b hb=>GX I (N b hb) l;have AP:Zp.Apart z TI TO i1 i2 [i1,C] [i2,D]:=by
   refine⟨?_,?_,?_,?_,by simp,by simp,?_,?_,d1,d2,d3,d4,d5⟩
   ·simp;exact⟨d6,(f z (by simp)).symm⟩
   ·simp;exact⟨d7,(G z (by simp)).symm⟩
   ·simp;exact⟨d8,(f TO (by simp)).symm⟩
   ·simp;exact⟨d9,(G TO (by simp)).symm⟩
   ·simp;exact⟨O,(G i1 (by simp)).symm⟩
   ·simp;exact⟨O.symm,(f i2 (by simp)).symm⟩
  have WZ:=Zp.GV (prog:=X.prog) (w:=X.w) (A:=X.A) (Zp.GU (A:=X.A.in1) U i1 C (f i1 (by simp)) us.toArray) (Zp.GU (A:=X.A.in1) U i2 D (G i2 (by simp)) ws.toArray) AP;refine⟨_,_,_,_,_,WZ,⟨a1,a2,a3,⟨a4,p1⟩,⟨a5,p2⟩⟩,fun j h st=>⟨st.1,st.2.1,st.2.2.1,st.2.2.2.1.1,st.2.2.2.2.1⟩,fun g=>?_,fun g=>?_⟩
  ·obtain⟨q,r,J,L,hi⟩:=g
   have e1:=I.tuple_inj J d;have e2:=I.tuple_inj L l;subst e1 e2;refine⟨by simpa[<-S,<-T] using hi,fun aD hp=>?_⟩;obtain⟨x,y,px,py,rfl⟩:=hp;have iQ:us[i]?=some x:=by simpa using px
   have M:ws[i]?=some y:=by simpa using py
   have lx:i<q.length:=ω
   have ly:i<r.length:=ω
   have W:q[i]?=some q[i]:=by simp[lx]
   have Y:r[i]?=some r[i]:=by simp[ly]
   obtain⟨u,e3,ru⟩:=r1.get W;obtain⟨u',F,cA⟩:=r2.get Y;rw[iQ] at e3;cases e3;rw[M] at F;cases F;refine⟨[q[i],r[i]],.cons ru (.cons cA .nil),du,fun p hp=>⟨p,_,_,rfl,hp,rfl,fun zs hz=>?_,fun zs hz=>?_⟩⟩
   ·rw[I.tuple_inj hz d];exact W
   ·rw[I.tuple_inj hz l];exact Y
  ·obtain⟨q,r,J,L,hi⟩:=g
   have e1:=I.tuple_inj J d;have e2:=I.tuple_inj L l;subst e1 e2
   simpa[<-S,<-T] using hi
def Lh(b e:Addr)(xs ys:Array Value):Meets (Builtin.«zip.__new__» ⟨[.type "zip",.ref b,.ref e],[]⟩) (fun _ R s=>s.heap.IsTuple b xs/\s.heap.IsTuple e ys/\
   ∀h',IsZip h' (s⁻¹+4) (s⁻¹+2) (s⁻¹+3) .none->IsPair h' (s⁻¹+2) (.ref s⁻¹) (.ref (s⁻¹+1))->
   IsPair h' (s⁻¹+3) .none .none->h'.IsTupleIter s⁻¹ b 0->h'.IsTupleIter (s⁻¹+1) e 0->
   (∀c o,s.heap.get? c=some o->h'.get? c=some o)->R (.ok (.ret (.ref (s⁻¹+4)))) {s with heap:=h'}):=
 .of_wp fun prog w A R s h=>by
  obtain⟨hp,g,d,tk,os⟩:=s;obtain⟨f,i,h⟩:=h;have p:=sub_zip;have j:Heap.IsTuple (Shared.heap ⟨hp,g,d,tk,os⟩) b xs:=f;have l:Heap.IsTuple (Shared.heap ⟨hp.push {cls:=.type "tuple_iterator",data:=.fields #[.ref b,.int 0 0]},g,d,tk,os⟩) e ys:=Heap.IsTuple.push i _
  wp_walk using wpAny_pyIter_tuple j,wpAny_pyIter_tuple l
  refine⟨_,rfl,?_⟩;dsimp only at h ⊢;have a:∀(h:Heap)(o:Obj),(h.push o).objs.size=h.objs.size+1:=fun h o=>Heap.size_push ..;simp only[a,Nat.add_assoc,Nat.reduceAdd];refine h _ ?_ ?_ ?_ ?_ ?_ fun c o x=>Ai _ (Ai _ (Ai _ (Ai _ (Ai _ x))))
  ·exact Heap.get?_push_at (by simp only[a]) rfl
  ·exact Ai _ (Ai _ (Heap.get?_push_at (by simp only[a]) rfl))
  ·exact Ai _ (Heap.get?_push_at (by simp only[a]) rfl)
  ·exact⟨_,Ai _ (Ai _ (Ai _ (Ai _ (AL _ rfl)))),rfl,rfl⟩
  ·exact⟨_,Ai _ (Ai _ (Ai _ (Heap.get?_push_at (by simp only[a]) rfl))),rfl,rfl⟩
section
variable{X:Cx}{aG:List Expr}{k:Nat}{cI:Pos}
def Ee(K:Ag)(ta:TA):TI:=fun σ H R=>ta σ H fun vs H1=>∃a b,vs=[.ref a,.ref b]/\(∃xs,SqT K H1 a xs)/\(∃ys,SqT K H1 b ys)/\R (Co K a b) H1
def Li{a b:Expr}{ta:TA}{p pos:Pos}(hg:Gl X "zip")(A:X.mg "zip"=none)(hv:A7 "zip"=some (.type "zip"))(C:PA X [a,b] ta)(D:starEach [a,b] X.env=[(false,eval a X.env),(false,eval b X.env)]:=by rfl)(j:starEach [b] X.env=[(false,eval b X.env)]:=by rfl):PI X (.Tuple aG k cI) (.Call (.Name "zip" p) [a,b] [] pos) (Ee X.K ta):=by
 intro aa s σ H R I h;refine Call_ (ke I hg A hv (PyProof.Rows.callWith_type1 (aT (C pos aa s σ H _ I h) fun us c ⟨vs,H1,I1,r1,d⟩=>?_) (by rw[D,j]) (by rw[j];rfl)));obtain⟨f,g,e,⟨xs,d⟩,⟨ys,o⟩,q⟩:=d;subst e;obtain⟨u,G,rfl,r,v⟩:=vals2 r1;cases r;cases v;obtain⟨w,_,x,_⟩:=I1.tuple d;obtain⟨y,_,p2,_⟩:=I1.tuple o;refine callType_new F.called_zip ξ (F.typeCall_zip_2 _ _) (F.newCall_zip_2 _ _) (fun obj=>F.args_object_init_3 obj _ _) F.entry_zip_new (Lh f g w.toArray y.toArray) ⟨x,p2,fun h' a1 a2 a3 a4 a5 l=>?_⟩;refine⟨⟨_,a1,rfl⟩,wpAny_pyIter_zip a1 ?_⟩;have E:Inv X aa σ H1 {c with heap:=h'}:=I1.kept (t':=c.toks) l;refine⟨c⁻¹+4,[c⁻¹+4,c⁻¹+2,c⁻¹+3,c⁻¹,c⁻¹+1],_,_,H1,rfl,E,Lg f g _ _ _ _ _ (by refine⟨?_,?_,?_,?_,?_,?_,?_,?_,?_,?_⟩<;>(intro z;have J:(_:Nat)=_:=z;(first|lia|omega))),⟨a1,a2,⟨_,_,a3⟩,a4,a5⟩,fun b hb=>?_,q⟩;have i:c⁻¹<=b:=by
  simp only[List.mem_cons,List.not_mem_nil,or_false] at hb;rcases hb with rfl|rfl|rfl|rfl|rfl
  ·exact A0 _ _
  ·exact A0 _ _
  ·exact A0 _ _
  ·exact Ad _
  ·exact A0 _ _
 exact I1.fpOk i (I1.hok.fresh i)
end
def oj(K:Ag)(a:Addr):It:=
 ⟨fun i H=>∃xs,SqL K H a xs/\i<xs.length,
  fun i H v H'=>∃p x,v=.ref p/\H p=none/\H'=upd H p (.tup [.int i,x])/\∀xs,SqL K H a xs->xs[i]?=some x,
  fun i H=>∃xs,SqL K H a xs/\i=xs.length⟩
def Lj{P:Program}{w:World}{K:Ag}{aG:List Expr}{k:Nat}{pos:Pos}(a e it:Addr)(hd:e≠it):Turn P w K (.Tuple aG k pos) (oj K a) [e,it] e (fun i h=>(∃old,IsEnum h e it i old)/\h.IsListIter it a i):=by
 refine Ed (wr:=[e,it]) (by simp) (fun i h st b hb=>?_) (fun i h h' st y=>?_) (fun b hb=>hb) (fun X F hw G hc i aa s σ H I J st L=>?_) fun A i s Q E st h=>?_
 ·obtain⟨⟨old,a1⟩,⟨Z,a4,_,M⟩⟩:=st
  simp at hb;rcases hb with rfl|rfl
  ·exact⟨_,a1,fun v z=>by cases z⟩
  ·exact⟨_,a4,fun v z=>by rw[M] at z;cases z⟩
 ·obtain⟨⟨old,a1⟩,a4⟩:=st
  exact⟨⟨old,y e (by simp) _ a1⟩,a4.at fun o q=>y it (by simp) o q⟩
 ·subst F hw G
  have r:∃xs,SqL X.K H a xs:=by
   rcases L with ⟨xs,q,_⟩|⟨xs,q,_⟩
   ·exact⟨xs,q⟩
   ·exact⟨xs,q⟩
  obtain⟨xs,c⟩:=r;obtain⟨us,r1,N,_⟩:=I.list c;have C:=r1.length;have T:=I.ok.hd hc;obtain⟨a1,a4⟩:=st;have f:=fun b hb=>Ec I (J b hb) c;have W:=WalksT.enumerateD (prog:=X.prog) (w:=X.w) (A:=X.A) (Draws.list (A:=X.A.in1) T it a (f it (by simp)) us.toArray) e hd (by simp;exact⟨hd,(f e (by simp)).symm⟩) (by simp);refine⟨_,_,_,_,_,W,⟨a1,a4,N.isList⟩,fun j h st=>⟨st.1,st.2.1⟩,fun g=>?_,fun g=>?_⟩
  ·obtain⟨d,l,hi⟩:=g
   have e1:=I.list_inj l c;subst e1;refine⟨by simpa[<-C] using hi,fun Y hp=>?_⟩;obtain⟨t,x,O,rfl⟩:=hp;have U:us[i]?=some x:=by simpa using O
   have D:d[i]?=some d[i]:=by simp[hi]
   obtain⟨u,e3,S⟩:=r1.get D;rw[U] at e3;cases e3;refine⟨[.int i,d[i]],.cons ⟨_,rfl⟩ (.cons S .nil),du,fun p hp=>⟨p,_,rfl,hp,rfl,fun zs hz=>?_⟩⟩;rw[I.list_inj hz c];exact D
  ·obtain⟨d,l,hi⟩:=g
   have e1:=I.list_inj l c;subst e1
   simpa[<-C] using hi
 ·obtain⟨⟨old,a1⟩,_⟩:=st
  exact wpAny_pyIter_enum a1 h
section
variable{X:Cx}{aG:List Expr}{k:Nat}{cI:Pos}
def Lk(K:Ag)(ta:TA):TI:=fun σ H R=>ta σ H fun vs H1=>∃a,vs=[.ref a]/\(∃xs,SqL K H1 a xs)/\R (oj K a) H1
def Ef{a:Expr}{ta:TA}{p pos:Pos}(hg:Gl X "enumerate")(l:X.mg "enumerate"=none)(hv:A7 "enumerate"=some (.type "enumerate"))(o:PA X [a] ta)(r:starEach [a] X.env=[(false,eval a X.env)]:=by rfl):PI X (.Tuple aG k cI) (.Call (.Name "enumerate" p) [a] [] pos) (Lk X.K ta):=by
 intro aa s σ H R I h;refine Call_ (ke I hg l hv (PyProof.Rows.callWith_type1 (aT (o pos aa s σ H _ I h) fun us c ⟨vs,H1,I1,r1,d⟩=>?_) r rfl));obtain⟨a',e,⟨xs,d⟩,q⟩:=d;subst e;obtain⟨u,rfl,i⟩:=vals1 r1;cases i;obtain⟨w,_,j,_⟩:=I1.list d;refine call_enumerate_list j.isList fun h' a1 a2 a3 g=>?_;refine wpAny_pyIter_enum a1 ?_;have v:Inv X aa σ H1 {c with heap:=h'}:=I1.kept (t':=c.toks) g;refine⟨c⁻¹+1,[c⁻¹+1,c⁻¹],_,_,H1,rfl,v,Lj a' _ _ (by intro z;have x:(_:Nat)=_:=z;(first|lia|omega)),⟨⟨_,a1⟩,a2⟩,fun b hb=>?_,q⟩;have f:c⁻¹<=b:=by
  simp only[List.mem_cons,List.not_mem_nil,or_false] at hb;rcases hb with rfl|rfl
  ·exact A0 _ _
  ·exact Ad _
 exact I1.fpOk f (I1.hok.fresh f)
def Ll{K:Ag}{a:Addr}{xs:List V}{g:TG}{tb:TS}{D:Ends}{σ:St}{H:Hp}(b:Nat->St->Hp->Prop)(l:b 0 σ H)(o:∀i σ H,i<=xs.length->b i σ H->SqL K H a xs)(r:∀i x p σ H,xs[i]?=some x->b i σ H->H p=none->g (.ref p) σ (upd H p (.tup [.int i,x])) fun d H2=>tb {D with nx:=b (i+1),ct:=b (i+1),bk:=D.nx} d H2)(hd:∀σ H,b xs.length σ H->D.nx σ H):∃W:Nat->Nat->St->Hp->Prop,(∃m,W 0 m σ H)/\∀i m σ H,W i m σ H->
   ((oj K a).stop i H/\D.nx σ H)\/((oj K a).go i H/\∃N:St->Hp->Prop,(∀f H',N f H'->∃h,h<m/\W (i+1) h f H')/\∀x H',(oj K a).yld i H x H'->g x σ H' fun d H2=>tb {D with nx:=N,ct:=N,bk:=D.nx} d H2):=by
 refine⟨fun i m σ H=>m=xs.length-i/\i<=xs.length/\b i σ H,⟨xs.length,by simp,At _,l⟩,?_⟩;rintro i m σ H ⟨rfl,hi,p⟩;have q:=o i σ H hi p
 by_cases c:i<xs.length
 ·refine .inr ⟨⟨xs,q,c⟩,b (i+1),fun f H' j=>⟨xs.length-(i+1),ω,rfl,c,j⟩,fun x H' y=>?_⟩
  obtain⟨pp,x',rfl,hp,rfl,y⟩:=y;exact r i x' pp σ _ (y xs q) p hp
 ·have e:i=xs.length:=ω
  subst e;exact .inl ⟨⟨xs,q,rfl⟩,hd σ H p⟩
def eG:∀{bs:List Bool}{us:List Value},Vals (bs.map V.bl) us->LSm.BoolsAre us bs
 |[],_,.nil=>.nil
 |b::bs,_,.cons r t=>by cases r;exact .cons b (eG t)
def ol(hc:X.calm=true):g0 X (.builtin "all") (fun xs H Q=>∃(l:Addr)(bs:List Bool),xs=[.ref l]/\SqL X.K H l (bs.map V.bl)/\Q (.bl (bs.all id)) H):=by
 intro aa s σ H xs us Q I r h;obtain⟨l,bs,rfl,hq,q⟩:=h;obtain⟨u,rfl,g⟩:=vals1 r;cases g;obtain⟨ad,r1,j,_⟩:=I.list hq;have o:=I.ok.hd hc;have a:=j.isList;have hb:=eG r1;have c:l<s⁻¹:=by obtain⟨_,e,_⟩:=a;exact Ar e
 refine call_all_walk (wpAny_pyIter_list a ?_);refine⟨s⁻¹,[s⁻¹,l],[s⁻¹],ad.toArray.size,_,_,fun i=>(bs[i]?).getD true,rfl,Walks.list (A:=X.A.in1) o _ l (AA c) ad.toArray,
  ⟨⟨_,AL _ rfl,rfl,rfl⟩,a.push _⟩,fun i v s' p w f d=>?_,fun h' tk hk=>?_⟩
 ·obtain⟨b,e,rfl⟩:=hb.get i v (by simpa using f)
  simp only[e,Option.getD_some] at d;exact wpAny_truthy_bool d
 ·have e:((Ah ad.toArray.size).all fun i=>(bs[i]?).getD true)=bs.all id:=by
   rw[Aw,hb.length];exact LSm.range_all bs
  rw[e];exact⟨.bl _,H,I.kept (LSm.kept_iter hk),rfl,q⟩
end
section
variable{K:Ag}{a:Addr}{xs:List V}{g:TG}{tc:TT}{te:TE}{σ:St}{H1:Hp}{Q:VK}{D:Addr}
def Eg(n:Nat)(a:Nat->St->List V->Hp->Prop)(i m:Nat)(σ:St)(H:Hp):Prop:=m=n-i/\i<=n/\∃ys,ys.length<=i/\a i σ ys H
def gB(n:Nat)(d:Nat->St->List V->Hp->Prop)(D:Addr)(i:Nat)(c:St):VK:=fun y b=>∃ys a,b D=some (.lst ys)/\ys.length<sizeLine/\a<n-i/\Eg n d (i+1) a c (upd b D (.lst (ys++[y])))
def dX(n:Nat)(c:Nat->St->List V->Hp->Prop)(i:Nat)(b:St)(d:Hp):Prop:=∃a,a<n-i/\Eg n c (i+1) a b d
def b6{n:Nat}{c:Nat->St->List V->Hp->Prop}{i:Nat}{b:St}{ys:List V}{y:V}{a:Hp}(d:n<=sizeLine)(hi:i<n)(f:ys.length<=i)(e:a D=some (.lst ys))(p:c (i+1) b (ys++[y]) (upd a D (.lst (ys++[y])))):gB n c D i b y a:=
 ⟨ys,n-(i+1),e,ω,ω,rfl,hi,ys++[y],by simp;(first|lia|omega),p⟩
def uo{n:Nat}{b:Nat->St->List V->Hp->Prop}{i:Nat}{a:St}{ys:List V}{c:Hp}(hi:i<n)(d:ys.length<=i)(p:b (i+1) a ys c):dX n b i a c:=
 ⟨n-(i+1),ω,rfl,hi,ys,ω,p⟩
def uw{J:It}(n:Nat)(a:Nat->St->List V->Hp->Prop)(l:a 0 σ [] (upd H1 D (.lst [])))(o:∀σ ys H,a n σ ys H->J.stop n H)(q:∀i σ ys H,i<n->a i σ ys H->J.go i H)(r:∀i σ ys H x H',i<n->ys.length<=i->a i σ ys H->J.yld i H x H'->g x σ H' fun d s=>tc d s fun b h=>if b=true then te d h (gB n a D i d) else dX n a i d h)(hd:∀σ ys H,a n σ ys H->Q (.ref D) H):dr J g tc te σ H1 D Q:=by
 refine⟨Eg n a,⟨n,by simp,At _,[],Ad _,l⟩,?_⟩;rintro i m f H2 ⟨rfl,hi,ys,j,p⟩
 by_cases c:i<n
 ·exact .inr ⟨q i f ys H2 c p,fun x u y=>r i f ys H2 x u c j p y⟩
 ·have e:i=n:=ω
  subst e;exact .inl ⟨o f ys H2 p,hd f ys H2 p⟩
def mB(c:Nat->St->List V->Hp->Prop)(j:c 0 σ [] (upd H1 D (.lst [])))(f:∀i σ ys H,c i σ ys H->SqL K H a xs)(l:∀i σ ys H x,xs[i]?=some x->i<xs.length->ys.length<=i->c i σ ys H->g x σ H fun d o=>tc d o fun b h=>if b=true then te d h (gB xs.length c D i d) else dX xs.length c i d h)(hd:∀σ ys H,c xs.length σ ys H->Q (.ref D) H):dr (gt K a) g tc te σ H1 D Q:=by
 refine uw xs.length c j (fun σ ys H p=>⟨xs,f _ _ _ _ p,Ad _⟩) (fun i σ ys H hi p=>⟨xs,xs[i],f _ _ _ _ p,by simp[hi]⟩) (fun i σ ys H x H' hi hy p y=>?_) hd;obtain⟨e,y⟩:=y;subst e;exact l i σ ys _ x (y xs (f _ _ _ _ p)) hi hy p
def Cp{lo:Int}{n:Nat}(a:Nat->St->List V->Hp->Prop)(f:a 0 σ [] (upd H1 D (.lst [])))(h:∀i σ ys H,i<n->ys.length<=i->a i σ ys H->g (.int (lo+i)) σ H fun c j=>tc c j fun b d=>if b=true then te c d (gB n a D i c) else dX n a i c d)(hd:∀σ ys H,a n σ ys H->Q (.ref D) H):dr (iY lo n) g tc te σ H1 D Q:=by
 refine uw n a f (fun σ ys H p=>Ad _) (fun i σ ys H hi p=>hi) (fun i σ ys H x H' hi hy p y=>?_) hd;obtain⟨e,y⟩:=y;subst e y;exact h i σ ys _ hi hy p
def Lm{e f:Addr}{ys:List V}(a:Nat->St->List V->Hp->Prop)(q:a 0 σ [] (upd H1 D (.lst [])))(c:∀i σ zs H,a i σ zs H->SqT K H e xs/\SqT K H f ys)(r:∀i σ zs H p x y,xs[i]?=some x->ys[i]?=some y->i<min xs.length ys.length->zs.length<=i->a i σ zs H->H p=none->g (.ref p) σ (upd H p (.tup [x,y])) fun d s=>tc d s fun b h=>if b=true then te d h (gB (min xs.length ys.length) a D i d) else dX (min xs.length ys.length) a i d h)(hd:∀σ zs H,a (min xs.length ys.length) σ zs H->Q (.ref D) H):dr (Co K e f) g tc te σ H1 D Q:=by
 refine uw (min xs.length ys.length) a q (fun σ zs H p=>⟨xs,ys,(c _ _ _ _ p).1,(c _ _ _ _ p).2,rfl⟩) (fun i σ zs H hi p=>⟨xs,ys,(c _ _ _ _ p).1,(c _ _ _ _ p).2,hi⟩) (fun i σ zs H v H' hi hy p y=>?_) hd;obtain⟨pp,x,j,rfl,hp,rfl,l,o⟩:=y;exact r i σ zs H pp x j (l xs (c _ _ _ _ p).1) (o ys (c _ _ _ _ p).2) hi hy p hp
end
end L2
end
section
namespace Dk
open PySem PySem.Spec PyProof.Rows
def IsD(h:Heap)(d:Addr)(es:Array DictEntry)(ep:Nat):Prop:=∃o,h.get? d=some o/\o.ExactDict/\o.data=.dict es ep
def IsD.at{h h':Heap}{d:Addr}{es:Array DictEntry}{ep:Nat}(x:IsD h d es ep)(k:∀o,h.get? d=some o->h'.get? d=some o):IsD h' d es ep:=let ⟨o,ho,r⟩:=x;⟨o,k o ho,r⟩
def IsD.lt{h:Heap}{d:Addr}{es:Array DictEntry}{ep:Nat}(x:IsD h d es ep):d<h.objs.size:=let ⟨_,ho,_⟩:=x;Ar ho
section
variable{prog:Program}{w:World}{A:Around}{E:Ω}{s:Shared}{it d:Addr}{i ep:Nat}{es:Array DictEntry}
def IsD.typeIs(x:IsD s.heap d es ep):s.TypeIs (.ref d) "dict":=let ⟨o,ho,r⟩:=x;⟨o,ho,r.1.1⟩
def iter{Q:Ω}(hd:(d==sysModules)=false)(e:IsD s.heap d es ep)(f:Q (.ref s⁻¹) {s with heap:=s.heap.push {cls:=.type "dict_keyiterator",data:=.fields #[.ref d,.int 0 0,.int es.size 0,.int ep 0]}}):wpAny (model prog w) A (pyIter (.ref d)) Q E s:=by
 have a:=e.typeIs;obtain⟨o,b,hc,c⟩:=id e;refine wpAny_pyIter_slot a PySem.F.slot_dict_iter (wpAny_call_entry PySem.F.slot_dict_iter a PySem.F.entry_dict_iter ?_ (PySem.F.args_dict_iter_1 _));unfold Builtin.«dict.__iter__»;refine Af ?_;unfold Builtin.Dict.dictSlotNone;refine Af (wpAny_notOrdered_dict a ?_);show wpAny _ _ (pure (Value.ref d)) _ _ s;refine Am ?_;show wpAny _ _ (Builtin.Dict.showsAll d >>= _) _ _ s;unfold Builtin.Dict.showsAll;rw[if_neg (by rw[hd];exact AF)];refine Af (Am ?_);refine Af (wpAny_dictEntries b c ?_);refine Af (wpAny_dictEpoch b c ?_);refine Af (wpAny_newObj_type (Am ⟨_,rfl,"dict_keyiterator",_,⟨_,AL _ rfl,rfl⟩,PySem.F.slot_dict_keyiterator_next.lookup,?_⟩))
 simpa[rawInt] using f
def item{Q:Option Value->Shared->Prop}(a:s.heap.IsKeyIter it d i es.size ep)(h:IsD s.heap d es ep)(hx:i<es.size)(j:∀h',h'.IsKeyIter it d (i+1) es.size ep->Heap.SameBut it s.heap h'->Q (some es[i].key) {s with heap:=h'}):wpAny (model prog w) A (pyNext (.ref it)) Q E s:=by
 obtain⟨o,b,hc,hd⟩:=id a;obtain⟨l,c,p,e⟩:=id h;unfold pyNext;refine Af (wpAny_attempt (wpAny_callSpecial?_slot (name:=Str.ofString "__next__") a.typeIs PySem.F.slot_dict_keyiterator_next
  (wpAny_call_entry PySem.F.slot_dict_keyiterator_next a.typeIs PySem.F.entry_dict_keyiterator_next ?_ (PySem.F.args_dict_keyiterator_next_1 _))))
 refine Af (Am ?_);refine Af ?_;refine Af ?_
 first|refine Af (wpAny_typeNameOfWhole_keyiter a.typeIs (Am ?_))|refine Af (wpAny_typeNameOf_keyiter a.typeIs (Am ?_))
 refine Af (wpAny_fieldsOf b hd ?_);have g:Builtin.Dict_items.ownsTuple "dict_keyiterator"=false:=ξ
 simp only[g,Bool.false_eq_true,if_false];show wpAny _ _ (if(Value.ref d==Value.none)=true then _ else _) _ _ s;rw[if_neg (show ¬((Value.ref d==Value.none)=true) from AF)];refine Af (Am ?_);refine Af (wpAny_dictEntries c e ?_);rw[if_neg (by simp)];refine Af (Am ?_);refine Af (wpAny_dictEpoch c e ?_);rw[if_neg (by simp)];refine Am ?_;simp only[show ¬((i:Int)<0) from ω,if_false,Int.toNat_natCast,Array.getElem?_eq_getElem hx];refine Af ?_
 first|refine Af (wpAny_typeNameOfWhole_keyiter a.typeIs (Am ?_))|refine Af (wpAny_typeNameOf_keyiter a.typeIs (Am ?_))
 refine Af (wpAny_isOneOf_keyiter a.typeIs ?_);show wpAny _ _ (setField (.ref it) 1 (rawInt ((i:Int)+1)) >>= _) _ _ s;refine Af (wpAny_setField b hd (by simp) ?_);have f:(s.heap.update it (Obj.mapFields (·.setIfInBounds 1 (rawInt ((i:Int)+1))))).IsKeyIter it d (i+1) es.size ep:=
  ⟨_,Heap.get?_update_self _ b (Obj.isFreed_of_fields (Obj.data_mapFields hd _)),(Obj.cls_mapFields ..).trans hc,by rw[Obj.data_mapFields hd];simp[rawInt]⟩
 refine Af (wpAny_holding ?_);refine Af (wpAny_isOneOf_keyiter (s:={s with heap:=s.heap.update it (Obj.mapFields (·.setIfInBounds 1 (rawInt ((i:Int)+1))))}) f.typeIs ?_);show wpAny _ _ (pure es[i].key) _ _ _;exact Am (Am ⟨_,rfl,Am (j _ f (Heap.SameBut.update ..))⟩)
def done{Q:Option Value->Shared->Prop}(i:A.handled=none)(c:s.heap.IsKeyIter it d es.size es.size ep)(j:IsD s.heap d es ep)(l:∀h',Heap.ExtBut it s.heap h'->Q none {s with heap:=h'}):wpAny (model prog w) A (pyNext (.ref it)) Q E s:=by
 obtain⟨o,e,hc,hd⟩:=id c;obtain⟨p,f,q,g⟩:=id j;unfold pyNext;refine Af (wpAny_attempt (wpAny_callSpecial?_slot (name:=Str.ofString "__next__") c.typeIs PySem.F.slot_dict_keyiterator_next
  (wpAny_call_entry PySem.F.slot_dict_keyiterator_next c.typeIs PySem.F.entry_dict_keyiterator_next ?_ (PySem.F.args_dict_keyiterator_next_1 _))))
 refine Af (Am ?_);refine Af ?_;refine Af ?_
 first|refine Af (wpAny_typeNameOfWhole_keyiter c.typeIs (Am ?_))|refine Af (wpAny_typeNameOf_keyiter c.typeIs (Am ?_))
 refine Af (wpAny_fieldsOf e hd ?_);have h:Builtin.Dict_items.ownsTuple "dict_keyiterator"=false:=ξ
 simp only[h,Bool.false_eq_true,if_false];show wpAny _ _ (if(Value.ref d==Value.none)=true then _ else _) _ _ s;rw[if_neg (show ¬((Value.ref d==Value.none)=true) from AF)];refine Af (Am ?_);refine Af (wpAny_dictEntries f g ?_);rw[if_neg (by simp)];refine Af (Am ?_);refine Af (wpAny_dictEpoch f g ?_);rw[if_neg (by simp)];refine Am ?_;simp only[show ¬((es.size:Int)<0) from ω,if_false,Int.toNat_natCast,Array.getElem?_eq_none (Ad es.size)];refine Af ?_
 first|refine Af (wpAny_typeNameOfWhole_keyiter c.typeIs (Am ?_))|refine Af (wpAny_typeNameOf_keyiter c.typeIs (Am ?_))
 show wpAny _ _ (setField (.ref it) 0 .none >>= _) _ _ s;refine Af (wpAny_setField e hd (by simp) ?_);show wpAny _ _ (newExc (.type "StopIteration") [] >>= _) _ _ _;refine Af ?_;simp only[newExc,newTuple];refine Af (wpAny_newObj_type ?_ (by size_fits));refine Af (m:=firstArgMember _ _) (wpAny_of_eq (a:=Value.none) (by first|rfl|(simp only[firstArgMember];rfl)) ?_);refine wpAny_newObj_type ?_ (by size_fits);simp only[raiseNew];refine Af (wpAny_handled ?_);rw[show A.in1.handled=none from i];refine Af (Am (wpAny_throw ?_));refine Af (wpAny_isInstance (T:="StopIteration") (b:=true) ⟨_,AL _ rfl,rfl⟩ isSubtype_stop ?_);exact Am (l _ (((Heap.SameBut.update ..).extBut.push _).push _))
def walks(l:A.handled=none)(I d:Addr)(c:d≠I)(es:Array DictEntry)(ep:Nat):Walks prog w A I [I,d] [I] es.size (fun i v=>∃e,es[i]?=some e/\v=e.key) (fun i h=>h.IsKeyIter I d i es.size ep/\IsD h d es ep) where
 sub:=fun b hb=>by simp at hb ⊢;exact .inl hb
 frame:=fun i h h' st k=>⟨let ⟨o,ho,r⟩:=st.1;⟨o,k I (by simp) o ho,r⟩,st.2.at fun o e=>k d (by simp) o e⟩
 item:=fun i s Q E hi st a=>item st.1 st.2 hi fun h' g f=>a _ h' s.toks ⟨es[i],by simp[hi],rfl⟩ ⟨g,st.2.at fun o e=>(f.2 d c).trans e⟩ fun b o hb e=>(f.2 b (fun z=>hb (by simp[z]))).trans e
 done:=fun s Q E st a=>done l st.1 st.2 fun h' j=>a h' s.toks fun b o hb e=>j b o (fun z=>hb (by simp[z])) e
 self:=fun i s Q E st a=>wpAny_pyIter_keyiter st.1 a
def src(lo:(d==sysModules)=false):PySem.W.KdlSrc prog w "dict" d d es.size (fun i v=>∃e,es[i]?=some e/\v=e.key) (fun h=>IsD h d es ep) where
 type:=fun _ a=>a.typeIs
 there:=fun _ a=>⟨a.lt,a.lt⟩
 keep:=fun _ _ a hk=>a.at fun o e=>hk d (.inl rfl) o e
 notList:=ξ
 notTuple:=ξ
 hint:=fun _ _ _ _ a hq=>PySem.W.kdl_hint_dict a.typeIs hq
 iter:=fun _ s b a=>⟨_,_,(fun _ _ hq=>iter lo a hq),walks b _ d (AA a.lt) es ep,⟨⟨_,AL _ rfl,rfl,rfl⟩,a.at fun o e=>Ai _ e⟩⟩
end
end Dk
namespace L2
open PySem PySem.Spec PyProof.Rows
section
variable{X:Cx}
def Ln{P:Program}{w:World}{k:Key}{u:Value}(h:(eP P w).is k u=true):RelV (kV k) u:=by
 rcases aL h with ⟨i,t,rfl,rfl⟩|⟨x,t,rfl,rfl⟩
 ·exact⟨t,rfl⟩
 ·exact⟨t,rfl⟩
end
end L2
end
section
namespace L2
open PySem PySem.Spec PyProof.Rows
def Tp(H:Hp)(a:Addr)(ps:List Int):Prop:=H a=some (.tup (ps.map V.int))
abbrev Tps(H:Hp)(as:List Addr)(b_:Ξ):Prop:=Paired (fun a ps=>Tp H a ps) as b_
def Same.tp{H H':Hp}{a:Addr}{ps:List Int}(e:Same H H')(h:Tp H a ps):Tp H' a ps:=e _ _ h
def Same.new{H:Hp}{a:Addr}{o:HO}(h:H a=none):Same H (upd H a o):=fun b u e=>by rw[al (zl e h)];exact e
def Same.then{H H1:Hp}{a:Addr}{o:HO}(e:Same H H1)(h:H a=none):Same H (upd H1 a o):=fun b u q=>by rw[al (zl q h)];exact e b u q
def Tps.length{H:Hp}{a:List Addr}{b:Ξ}(h:Tps H a b):a.length=b.length:=Paired.length h
def Tps.get{H:Hp}:∀{b:List Addr}{c:Ξ}{i:Nat}{a:Addr},Tps H b c->b[i]?=some a->∃ps,c[i]?=some ps/\Tp H a ps
 |_,_,_,_,.nil,e=>by simp at e
 |_,_,0,_,.cons r _,e=>by simp at e;subst e;exact⟨_,rfl,r⟩
 |_,_,i+1,a,.cons _ t,e=>by
  obtain⟨u,h1,h2⟩:=Tps.get (i:=i) (a:=a) t (by simpa using e);exact⟨u,by simpa using h1,h2⟩
def Tps.snoc{H:Hp}{b:List Addr}{c:Ξ}{a:Addr}{ps:List Int}(h:Tps H b c)(q:Tp H a ps):Tps H (b++[a]) (c++[ps]):=by
 induction h with
 |nil=>exact .cons q .nil
 |cons r t ih=>exact .cons r ih
def Tps.append{H:Hp}{a bs:List Addr}{b c:Ξ}(h:Tps H a b)(q:Tps H bs c):Tps H (a++bs) (b++c):=by
 induction h with
 |nil=>exact q
 |cons r t ih=>exact .cons r ih
def Tps.take{H:Hp}:∀{a:List Addr}{b:Ξ}(n:Nat),Tps H a b->Tps H (a.take n) (b.take n)
 |_,_,0,_=>.nil
 |_,_,_+1,.nil=>.nil
 |_,_,n+1,.cons r t=>.cons r (Tps.take n t)
def Tps.drop{H:Hp}:∀{a:List Addr}{b:Ξ}(n:Nat),Tps H a b->Tps H (a.drop n) (b.drop n)
 |_,_,0,r=>r
 |_,_,_+1,.nil=>.nil
 |_,_,n+1,.cons _ t=>Tps.drop n t
section
variable{X:Cx}
def Lo:g0 X (.builtin "isinstance") (fun xs H Q=>∃n,xs=[.int n,.ty "int"]/\Q (.bl true) H):=by
 intro aa s σ H xs us Q I r h;obtain⟨n,rfl,q⟩:=h;obtain⟨u,c,rfl,a,b⟩:=vals2 r;cases b;exact Ce I a (.int n) (by first|rfl|kernel_rfl|decide +kernel) fun tk=>⟨.bl true,H,I.tok _,rfl,q⟩
def Lp:g0 X (.builtin "isinstance") (fun xs H Q=>∃n,xs=[.int n,.ty "bool"]/\Q (.bl false) H):=by
 intro aa s σ H xs us Q I r h;obtain⟨n,rfl,q⟩:=h;obtain⟨u,c,rfl,a,b⟩:=vals2 r;cases b;exact Ce I a (.int n) (by first|rfl|kernel_rfl|decide +kernel) fun tk=>⟨.bl false,H,I.tok _,rfl,q⟩
def Lq:g0 X (.builtin "isinstance") (fun xs H Q=>∃a ys,xs=[.ref a,.ty "list"]/\H a=some (.lst ys)/\Q (.bl true) H):=by
 intro aa s σ H xs us Q I r h;obtain⟨a,ys,rfl,b,q⟩:=h;obtain⟨u,e,rfl,c,d⟩:=vals2 r;cases d;exact Ce I c (.lst b) (by first|rfl|kernel_rfl|decide +kernel) fun tk=>⟨.bl true,H,I.tok _,rfl,q⟩
def Lr:g0 X (.builtin "isinstance") (fun xs H Q=>∃a ys,xs=[.ref a,.ty "tuple"]/\H a=some (.tup ys)/\Q (.bl true) H):=by
 intro aa s σ H xs us Q I r h;obtain⟨a,ys,rfl,b,q⟩:=h;obtain⟨u,e,rfl,c,d⟩:=vals2 r;cases d;exact Ce I c (.tup b) (by first|rfl|kernel_rfl|decide +kernel) fun tk=>⟨.bl true,H,I.tok _,rfl,q⟩
def GY(ns:List Int):∀k,k<=ns.length->preSum (fun i=>(ns[i]?).getD 0) k=(ns.take k).sum
 |0,_=>by simp[preSum]
 |k+1,h=>by
  have a:=GY ns k ω;have e:ns[k]?=some ns[k]:=Ab ω;show preSum (fun i=>(ns[i]?).getD 0) k+(ns[k]?).getD 0=_;rw[a,List.take_add_one,e,List.sum_append];simp
def ints_get{ns:List Int}{ad:List Value}(r:Vals (ns.map V.int) ad){i:Nat}{v:Value}(h:ad[i]?=some v):∃n t,ns[i]?=some n/\v=.int n t:=by
 have c:ad.length=ns.length:=by rw[<-r.length,Aa]
 have hi:i<ns.length:=by rw[<-c];exact(List.getElem?_eq_some_iff.mp h).1
 have e:ns[i]?=some ns[i]:=Ab hi;obtain⟨u,a,b⟩:=r.get (show(ns.map V.int)[i]?=some (V.int ns[i]) by rw[Aj,e];rfl);rw[h] at a;obtain rfl:=AV a;obtain⟨t,rfl⟩:=b;exact⟨_,t,e,rfl⟩
def GZ(hc:X.calm=true):g0 X (.builtin "sum") (fun xs H Q=>∃(l:Addr)(ns:List Int),xs=[.ref l]/\SqL X.K H l (ns.map V.int)/\Q (.int ns.sum) H):=by
 intro aa s σ H xs us Q I r h;obtain⟨l,ns,rfl,hq,q⟩:=h;obtain⟨u,rfl,j⟩:=vals1 r;cases j;obtain⟨ad,r1,p,_⟩:=I.list hq;have w:=I.ok.hd hc;have c:=p.isList;have a:l<s⁻¹:=by obtain⟨_,e,_⟩:=c;exact Ar e
 have x:ad.length=ns.length:=by rw[<-r1.length,Aa]
 refine call_sum_walkAnyS (wpAny_pyIter_list c ?_);refine⟨s⁻¹,[s⁻¹,l],[s⁻¹],_,ad.toArray.size,_,_,fun i=>(ns[i]?).getD 0,rfl,(Walks.list (A:=X.A.in1) w _ l (AA a) ad.toArray).toS,
  ⟨⟨_,AL _ rfl,rfl,rfl⟩,c.push _⟩,fun b hb=>?_,fun i v f=>?_,fun s' t' d=>?_⟩
 ·have y:b<=s⁻¹:=by
   simp only[List.mem_cons,List.not_mem_nil,or_false] at hb;rcases hb with rfl|rfl
   ·exact Ad _
   ·exact Nat.le_of_lt a
  exact Ao y (Ar (AL _ rfl))
 ·obtain⟨n,t,e,rfl⟩:=ints_get r1 (show ad[i]?=some v by simpa using f)
  exact⟨t,by simp only[e,Option.getD_some]⟩
 ·have e:preSum (fun i=>(ns[i]?).getD 0) ad.toArray.size=ns.sum:=by
   rw[Aw,x,GY ns _ (Ad _),Ax (Ad _)]
  rw[e,Moved.eq_with d];exact⟨.int _,H,I.kept (LSm.kept_iter fun b o hb g=>d.heap b o hb g),⟨_,rfl⟩,q⟩
end
end L2
end
section
namespace Tim
open PySem PyProof.Rows
def R(ρ:Keyed->Int)(xs:Array Keyed)(i:Nat):Int:=match xs[i]? with
 |some p=>ρ p
 |none=>0
def uz{ρ:Keyed->Int}{xs ys:Array Keyed}{i j:Nat}(h:xs[i]?=ys[j]?):R ρ xs i=R ρ ys j:=by unfold R;rw[h]
def jk{ρ:Keyed->Int}{xs:Array Keyed}{i:Nat}{p:Keyed}(h:xs[i]?=some p):R ρ xs i=ρ p:=by unfold R;rw[h]
def cp(ρ:Keyed->Int)(xs:Array Keyed)(lo hi:Nat):Prop:=∀i j,lo<=i->i<=j->j<hi->R ρ xs i<=R ρ xs j
def oz(ρ:Keyed->Int)(xs:Array Keyed)(lo hi:Nat):Prop:=∀i j,lo<=i->i<=j->j<hi->R ρ xs j<=R ρ xs i
def gC{ρ:Keyed->Int}{xs:Array Keyed}{i j:Nat}(a:j<=xs.size)(k:Nat):R ρ (mirror xs i j ((j-i) / 2)) k=if i<=k/\k<j then R ρ xs (i+j-1-k) else R ρ xs k:=by
 have e:=getElem?_mirror_all (i:=i) a k
 by_cases h1:i<=k/\k<j
 ·rw[if_pos h1] at e ⊢;exact uz e
 ·rw[if_neg h1] at e ⊢;exact uz e
def zH{ρ:Keyed->Int}{xs:Array Keyed}{i j:Nat}(b:j<=xs.size)(a:∀k,i<=k->k<j->R ρ xs k=R ρ xs (j-1))(k:Nat):R ρ (mirror xs i j ((j-i) / 2)) k=R ρ xs k:=by
 rw[gC b];split
 ·rw[a _ ω ω,a k ω ω]
 ·rfl
def oA{ρ:Keyed->Int}{xs:Array Keyed}{src d:Nat}(a:src<xs.size)(hd:d<=src)(k:Nat):R ρ (bubble xs src d) k=if k=src-d then R ρ xs src else if src-d<k/\k<=src then R ρ xs (k-1) else R ρ xs k:=by
 have e:=getElem?_bubble a d hd k
 by_cases h1:k=src-d
 ·rw[if_pos h1] at e ⊢;exact uz e
 ·rw[if_neg h1] at e ⊢
  by_cases h2:src-d<k/\k<=src
  ·rw[if_pos h2] at e ⊢;exact uz e
  ·rw[if_neg h2] at e ⊢;exact uz e
structure i4(prog:Program)(w:World)(A:Around)(s:Shared)(κ:SortKind)(a₀:Array Keyed)(ρ:Keyed->Int):Prop where
 lt:∀x y,x∈a₀.toList->y∈a₀.toList->∀(Q:Bool->Shared->Prop)(E:Ω),Q (decide (ρ x<ρ y)) s->wpAny (model prog w) A (keyLt' κ x.1 y.1) Q E s
structure B(κ:SortKind)(a₀:Array Keyed)(st:SortSt):Prop where
 perm:(arrOf st).Perm a₀
 kind:kindOf st=κ
 failed:failedOf st=none
def B.size{κ:SortKind}{a₀:Array Keyed}{st:SortSt}(h:B κ a₀ st):(arrOf st).size=a₀.size:=h.perm.size_eq
def B.setArr{κ:SortKind}{a₀:Array Keyed}{st:SortSt}(h:B κ a₀ st){xs:Array Keyed}(hp:xs.Perm (arrOf st)):B κ a₀ (setArr st xs):=⟨hp.trans h.perm,h.kind,h.failed⟩
def B.mem{κ:SortKind}{a₀:Array Keyed}{st:SortSt}(h:B κ a₀ st){p:Keyed}(hp:p∈(arrOf st).toList):p∈a₀.toList:=(Array.perm_iff_toList_perm.mp h.perm).mem_iff.mp hp
def G0{xs:Array Keyed}{i:Nat}(hi:i<xs.size):∃p,xs[i]?=some p/\p∈xs.toList:=⟨xs[i],getElem?_pos _ i hi,by simp⟩
structure Pre(lo:Nat)(st ab:SortSt):Prop where
 arr:∀k,k<lo->(arrOf ab)[k]?=(arrOf st)[k]?
 pend:pendingOf ab=pendingOf st
def Pre.refl{lo:Nat}{st:SortSt}:Pre lo st st:=⟨fun _ _=>rfl,rfl⟩
def Pre.trans{lo:Nat}{a b c:SortSt}(x:Pre lo a b)(y:Pre lo b c):Pre lo a c:=⟨fun k h=>(y.arr k h).trans (x.arr k h),y.pend.trans x.pend⟩
def Pre.mir{lo i j:Nat}{st:SortSt}(a:j<=(arrOf st).size)(hi:lo<=i):Pre lo st (setArr st (mirror (arrOf st) i j ((j-i) / 2))):=
 ⟨fun k h=>by show(mirror _ _ _ _)[k]?=_;rw[getElem?_mirror_all a,if_neg ω],rfl⟩
def Pre.bub{lo src d:Nat}{st:SortSt}(a:src<(arrOf st).size)(hd:d<=src)(b:lo<=src-d):Pre lo st (setArr st (bubble (arrOf st) src d)):=
 ⟨fun k h=>by show(bubble _ _ _)[k]?=_;rw[getElem?_bubble a d hd,if_neg ω,if_neg ω],rfl⟩
section
variable{prog:Program}{w:World}{A:Around}{E:Ω}{s:Shared}{κ:SortKind}{a₀:Array Keyed}{ρ:Keyed->Int}
def Ls(C:i4 prog w A s κ a₀ ρ){st:SortSt}(a:B κ a₀ st){x y:Keyed}(hx:x∈a₀.toList)(hy:y∈a₀.toList){Q:Option Bool->SortSt->Prop}(h:Q (some (decide (ρ x<ρ y))) st):wpS (model prog w) A E s (lt' x y) Q st:=by
 rw[lt'_eq];refine wpS_bind (wpS_get ?_);rw[a.kind];refine wpS_bind (wpS_lift (wpAny_attempt (C.lt x y hx hy _ _ ⟨rfl,?_⟩)));exact wpS_pure h
def G1{st:SortSt}{xs:Array Keyed}{i:Nat}{p:Keyed}(h:xs[i]?=some p){Q:Keyed->SortSt->Prop}(hq:Q p st):wpS (model prog w) A E s (elem' xs i) Q st:=by
 rw[elem'_eq,h];exact wpS_pure hq
def uA(C:i4 prog w A s κ a₀ ρ){st:SortSt}(a:B κ a₀ st){i j:Nat}(hi:i<a₀.size)(c:j<a₀.size){Q:Option Bool->SortSt->Prop}(h:Q (some (decide (R ρ (arrOf st) i<R ρ (arrOf st) j))) st):wpS (model prog w) A E s (ltAt' i j) Q st:=by
 obtain⟨p,e1,b⟩:=G0 (xs:=arrOf st) (i:=i) (by rw[a.size];exact hi);obtain⟨q,e2,m2⟩:=G0 (xs:=arrOf st) (i:=j) (by rw[a.size];exact c);rw[ltAt'_eq];refine wpS_bind (wpS_get ?_);show wpS _ _ _ _ (do let x <-elem' (arrOf st) i;let y <-elem' (arrOf st) j;lt' x y) Q st;refine wpS_bind (G1 e1 (wpS_bind (G1 e2 (Ls C a (a.mem b) (a.mem m2) ?_))));rw[jk e1,jk e2] at h;exact h
def asc(lo a b:Nat):StateT SortSt Sem AscSt:=
 forIn [a:b] ((none,a):AscSt) fun _ __s=>do
  let __x <-ltAt' (lo+__s.snd) (lo+__s.snd-1)
  match __x with
  |some smaller=>if smaller=true then pure (ForInStep.done (none,__s.snd)) else pure (ForInStep.yield (none,__s.snd+1))
  |_=>pure (ForInStep.done (some none,__s.snd))
def uO(lo n a:Nat):StateT SortSt Sem (Option Nat):=do
 reverseSlice' lo (lo+n)
 let __s <-asc lo n a
 match __s.fst with
 |some r=>pure r
 |none=>pure (some __s.snd)
def Cq(lo n a:Nat):StateT SortSt Sem DescSt:=
 forIn [n:a] ((none,n,0):DescSt) fun _ __s=>do
  let __x <-ltAt' (lo+__s.snd.fst) (lo+__s.snd.fst-1)
  match __x with
  |some smaller=>
   if smaller=true then
    if __s.snd.snd>0 then do
     reverseSlice' (lo+__s.snd.fst-(__s.snd.snd+1)) (lo+__s.snd.fst)
     pure (ForInStep.yield (none,__s.snd.fst+1,0))
    else pure (ForInStep.yield (none,__s.snd.fst+1,0))
   else do
    let __x <-ltAt' (lo+__s.snd.fst-1) (lo+__s.snd.fst)
    match __x with
    |some larger=>
     if larger=true then pure (ForInStep.done (none,__s.snd.fst,__s.snd.snd))
     else pure (ForInStep.yield (none,__s.snd.fst+1,__s.snd.snd+1))
    |_=>pure (ForInStep.done (some none,__s.snd.fst,__s.snd.snd))
  |_=>pure (ForInStep.done (some none,__s.snd.fst,__s.snd.snd))
def uW(lo n a:Nat):StateT SortSt Sem (Option Nat):=do
 liftM (rule "list.sort.descending-run")
 let __s <-Cq lo (n+1) a
 match __s.fst with
 |some r=>pure r
 |none=>
  if __s.snd.snd>0 then do
   reverseSlice' (lo+__s.snd.fst-(__s.snd.snd+1)) (lo+__s.snd.fst)
   uO lo __s.snd.fst a
  else uO lo __s.snd.fst a
def aZ{b c:Type}{m:StateT SortSt Sem b}{f g:b->StateT SortSt Sem c}(h:∀a,f a=g a):(m >>= f)=(m >>= g):=by
 have e:f=g:=funext h;rw[e]
def Lu(lo c:Nat):countRun' lo c=(do
  let __s <-asc lo 1 c
  match __s.fst with
  |some r=>pure r
  |none=>
   if(__s.snd==c)=true then pure (some __s.snd)
   else if __s.snd>1 then do
    let __x <-ltAt' lo (lo+__s.snd-1)
    match __x with
    |some rose=>if rose=true then pure (some __s.snd) else do
      reverseSlice' lo (lo+__s.snd)
      uW lo __s.snd c
    |_=>pure none
   else uW lo __s.snd c):=by
 rw[countRun'_eq];unfold uW uO Cq asc;refine aZ fun f=>?_;obtain⟨r,n⟩:=f;cases r with
 |some r=>rfl
 |none=>
  dsimp only;split
  ·rfl
  ·split
   ·refine aZ fun x=>?_
    cases x with
    |none=>rfl
    |some rose=>
     dsimp only;split
     ·rfl
     ·refine aZ fun _r=>aZ fun _u=>aZ fun d=>?_
      obtain⟨r2,n2,g⟩:=d;cases r2 with
      |some r2=>rfl
      |none=>
       dsimp only;split
       ·refine aZ fun _v=>aZ fun _w=>aZ fun a=>?_
        obtain⟨b,e⟩:=a;cases b<;>rfl
       ·refine aZ fun _w=>aZ fun a=>?_
        obtain⟨b,e⟩:=a;cases b<;>rfl
   ·refine aZ fun _u=>aZ fun d=>?_
    obtain⟨r2,n2,g⟩:=d;cases r2 with
    |some r2=>rfl
    |none=>
     dsimp only;split
     ·refine aZ fun _v=>aZ fun _w=>aZ fun a=>?_
      obtain⟨b,e⟩:=a;cases b<;>rfl
     ·refine aZ fun _w=>aZ fun a=>?_
      obtain⟨b,e⟩:=a;cases b<;>rfl
def G3(C:i4 prog w A s κ a₀ ρ){st:SortSt}{lo a d:Nat}{Q:AscSt->SortSt->Prop}(F:lo+d<=a₀.size)(G:1<=a)(u:a<=d)(v:B κ a₀ st)(y:cp ρ (arrOf st) lo (lo+a))(h:∀n,a<=n->n<=d->cp ρ (arrOf st) lo (lo+n)->(n=d\/R ρ (arrOf st) (lo+n)<R ρ (arrOf st) (lo+n-1))->Q (none,n) st):wpS (model prog w) A E s (asc lo a d) Q st:=by
 unfold asc;refine wpS_forRange (I:=fun x c f=>f=st/\c=(none,x)/\cp ρ (arrOf st) lo (lo+x)) ?step ?fin ⟨rfl,rfl,y⟩
 case fin=>
  rintro c f ⟨rfl,rfl,e⟩;rw[show max a d=d from ω] at e ⊢;exact h d u (Ad _) e (.inl rfl)
 case step=>
  rintro x c f r D ⟨rfl,rfl,e⟩;dsimp only;refine wpS_bind (uA C v ω ω ?_)
  by_cases b:R ρ (arrOf f) (lo+x)<R ρ (arrOf f) (lo+x-1)
  ·simp only[b,decide_true,if_true]
   exact wpS_pure (h x r ω e (.inr b))
  ·simp only[b,decide_false,Bool.false_eq_true,if_false]
   refine wpS_pure ⟨rfl,rfl,fun i j p q z=>?_⟩
   by_cases l:j<lo+x
   ·exact e i j p q l
   ·have g:j=lo+x:=ω
    subst g
    by_cases o:i=lo+x
    ·subst o;exact Int.le_refl _
    ·exact Int.le_trans (e i (lo+x-1) p ω ω) (Int.not_lt.mp b)
def Cr{st:SortSt}{i j:Nat}{Q:Unit->SortSt->Prop}(h:Q () (setArr st (mirror (arrOf st) i j ((j-i) / 2)))):wpS (model prog w) A E s (reverseSlice' i j) Q st:=by
 rw[reverseSlice'_eq];exact wpS_modify h
end
def Tl(τ:Keyed->Int)(xs:Array Keyed)(m:Nat):Prop:=∀i j,i<j->m<=j->j<xs.size->R τ xs i<=R τ xs j
def St(ρ τ:Keyed->Int)(xs:Array Keyed)(lo hi:Nat):Prop:=∀i j,lo<=i->i<j->j<hi->R ρ xs i=R ρ xs j->R τ xs i<=R τ xs j
def As(ρ τ:Keyed->Int)(xs:Array Keyed)(lo hi:Nat):Prop:=∀i j,lo<=i->i<j->j<hi->R ρ xs i=R ρ xs j->R τ xs j<=R τ xs i
def Tl.mono{τ:Keyed->Int}{xs:Array Keyed}{m n:Nat}(h:Tl τ xs m)(d:m<=n):Tl τ xs n:=fun i j a b c=>h i j a ω c
def Lv(xs:Array Keyed)(i j m:Nat):(mirror xs i j m).size=xs.size:=(mirror_perm xs i j m).size_eq
def Tl.mir{τ:Keyed->Int}{xs:Array Keyed}{a b m:Nat}(h:Tl τ xs m)(hb:b<=xs.size)(f:b<=m):Tl τ (mirror xs a b ((b-a) / 2)) m:=fun i j e d c=>by
 rw[Lv] at c;rw[gC hb,gC hb,if_neg (show ¬(a<=j/\j<b) from ω)];split
 ·exact h _ _ ω d c
 ·exact h _ _ e d c
section
variable{prog:Program}{w:World}{A:Around}{E:Ω}{s:Shared}{κ:SortKind}{a₀:Array Keyed}{ρ τ:Keyed->Int}
abbrev mG(κ:SortKind)(a₀:Array Keyed)(ρ τ:Keyed->Int)(lo ae:Nat)(st:SortSt)(Q:Option Nat->SortSt->Prop):Prop:=
 ∀m ab,B κ a₀ ab->Pre lo st ab->1<=m->m<=ae->cp ρ (arrOf ab) lo (lo+m)->St ρ τ (arrOf ab) lo (lo+m)->Tl τ (arrOf ab) (lo+m)->Q (some m) ab
def G4(C:i4 prog w A s κ a₀ ρ){st l:SortSt}{lo n c:Nat}{Q:Option Nat->SortSt->Prop}(x:lo+c<=a₀.size)(h1:1<=n)(e:n<=c)(o:B κ a₀ st)(y:Pre lo l st)(z:oz ρ (arrOf st) lo (lo+n))(D:As ρ τ (arrOf st) lo (lo+n))(F:Tl τ (arrOf st) (lo+n))(h:mG κ a₀ ρ τ lo c l Q):wpS (model prog w) A E s (uO lo n c) Q st:=by
 unfold uO;have hsz:lo+n<=(arrOf st).size:=by rw[o.size];(first|lia|omega)
 refine wpS_bind (Cr ?_);have d:B κ a₀ (setArr st (mirror (arrOf st) lo (lo+n) ((lo+n-lo) / 2))):=o.setArr (mirror_perm _ _ _ _);have a:Tl τ (arrOf (setArr st (mirror (arrOf st) lo (lo+n) ((lo+n-lo) / 2)))) (lo+n):=F.mir hsz (Ad _);refine wpS_bind (G3 C x h1 e d ?_ fun m G p q _=>wpS_pure (h m _ d (y.trans (.mir hsz (Ad _))) ω p q (fun i j r g u v=>?_) (a.mono ω)))
 ·intro i j r g u
  show R ρ (mirror (arrOf st) lo (lo+n) ((lo+n-lo) / 2)) i<=R ρ (mirror (arrOf st) lo (lo+n) ((lo+n-lo) / 2)) j;rw[gC hsz,gC hsz,if_pos ω,if_pos ω];exact z _ _ ω ω ω
 ·by_cases f:lo+n<=j
  ·exact a i j g f (by rw[d.size];(first|lia|omega))
  ·have b:R ρ (mirror (arrOf st) lo (lo+n) ((lo+n-lo) / 2)) i=R ρ (mirror (arrOf st) lo (lo+n) ((lo+n-lo) / 2)) j:=v
   show R τ (mirror (arrOf st) lo (lo+n) ((lo+n-lo) / 2)) i<=R τ (mirror (arrOf st) lo (lo+n) ((lo+n-lo) / 2)) j;rw[gC hsz,gC hsz,if_pos ω,if_pos ω] at b;rw[gC hsz,gC hsz,if_pos ω,if_pos ω];exact D _ _ ω ω ω b.symm
structure Grp(ρ τ:Keyed->Int)(xs:Array Keyed)(lo x aE:Nat):Prop where
 as:As ρ τ xs lo (lo+x-(aE+1))
 inc:∀i j,lo+x-(aE+1)<=i->i<j->j<lo+x->R τ xs i<=R τ xs j
 str:∀i,lo<=i->i<lo+x-(aE+1)->R ρ xs (lo+x-1)<R ρ xs i
 tl:Tl τ xs (lo+x)
def Grp.turned{xs:Array Keyed}{lo x a:Nat}(g:Grp ρ τ xs lo x a)(hsz:lo+x<=xs.size)(hq:a+1<=x)(b:∀i,lo+x-(a+1)<=i->i<lo+x->R ρ xs i=R ρ xs (lo+x-1)):As ρ τ (mirror xs (lo+x-(a+1)) (lo+x) ((lo+x-(lo+x-(a+1))) / 2)) lo (lo+x):=fun i j e f h hr=>by
 rw[zH hsz b,zH hsz b] at hr;rw[gC hsz,gC hsz]
 by_cases c:j<lo+x-(a+1)
 ·rw[if_neg ω,if_neg ω];exact g.as i j e f c hr
 ·by_cases d:i<lo+x-(a+1)
  ·have:=g.str i e d
   rw[b j ω h] at hr;(first|lia|omega)
  ·rw[if_pos ω,if_pos ω]
   exact g.inc _ _ ω ω ω
def Grp.one{xs:Array Keyed}{lo x:Nat}(g:Grp ρ τ xs lo x 0):As ρ τ xs lo (lo+x):=fun i j c d e hr=>by
 by_cases b:j<lo+x-1
 ·exact g.as i j c d b hr
 ·have a:j=lo+x-1:=ω
  have:=g.str i c ω;rw[<-a] at this;(first|lia|omega)
def Lw(C:i4 prog w A s κ a₀ ρ){st L:SortSt}{lo n D:Nat}{Q:DescSt->SortSt->Prop}(Z:lo+D<=a₀.size)(h1:1<=n)(M:n<=D)(U:B κ a₀ st)(W:Pre lo L st)(X:oz ρ (arrOf st) lo (lo+n))(hg:Grp ρ τ (arrOf st) lo n 0)(h:∀m e b,B κ a₀ b->Pre lo L b->n<=m->m<=D->oz ρ (arrOf b) lo (lo+m)->e+1<=m->(∀i,lo+m-(e+1)<=i->i<lo+m->R ρ (arrOf b) i=R ρ (arrOf b) (lo+m-1))->Grp ρ τ (arrOf b) lo m e->Q (none,m,e) b):wpS (model prog w) A E s (Cq lo n D) Q st:=by
 unfold Cq;refine wpS_forRange (I:=fun x c b=>∃e,c=(none,x,e)/\B κ a₀ b/\Pre lo L b/\oz ρ (arrOf b) lo (lo+x)/\e+1<=x/\
   (∀i,lo+x-(e+1)<=i->i<lo+x->R ρ (arrOf b) i=R ρ (arrOf b) (lo+x-1))/\Grp ρ τ (arrOf b) lo x e) ?step ?fin ⟨0,rfl,U,W,X,ω,fun i h1 h2=>by congr 1;(first|lia|omega),hg⟩
 case fin=>
  rintro c b ⟨e,rfl,r,G,u,hq,v,g⟩;rw[show max n D=D from ω] at u hq v g ⊢;exact h D e b r G M (Ad _) u hq v g
 case step=>
  rintro x c b S Y ⟨e,rfl,r,G,u,hq,v,g⟩;dsimp only;have hsz:lo+x<=(arrOf b).size:=by rw[r.size];(first|lia|omega)
  refine wpS_bind (uA C r ω ω ?_)
  by_cases d:R ρ (arrOf b) (lo+x)<R ρ (arrOf b) (lo+x-1)
  ·simp only[d,decide_true,if_true]
   have l:∀xs:Array Keyed,(∀k,R ρ xs k=R ρ (arrOf b) k)->oz ρ xs lo (lo+(x+1)):=by
    intro xs hk i j H J O;rw[hk,hk]
    by_cases q:j<lo+x
    ·exact u i j H J q
    ·have z:j=lo+x:=ω
     subst z
     by_cases F:i=lo+x
     ·subst F;exact Int.le_refl _
     ·exact Int.le_trans (Int.le_of_lt d) (u i (lo+x-1) H ω ω)
   have o:∀xs:Array Keyed,(∀k,R ρ xs k=R ρ (arrOf b) k)->As ρ τ xs lo (lo+x)->Tl τ xs (lo+x)->Grp ρ τ xs lo (x+1) 0:=fun xs hk a t=>by
    refine⟨?_,fun i j h1 h2 P=>ω,fun i h1 h2=>?_,t.mono ω⟩
    ·rw[show lo+(x+1)-(0+1)=lo+x from ω];exact a
    ·rw[show lo+(x+1)-1=lo+x from ω,hk,hk]
     exact Int.lt_of_lt_of_le d (u i (lo+x-1) h1 ω ω)
   by_cases y:e>0
   ·rw[if_pos y]
    refine wpS_bind (Cr (wpS_pure ⟨0,rfl,r.setArr (mirror_perm _ _ _ _),G.trans (.mir hsz ω),l _ (zH hsz v),ω,fun i h1 h2=>by congr 1;(first|lia|omega),o _ (zH hsz v) (g.turned hsz hq v) (g.tl.mir hsz (Ad _))⟩))
   ·rw[if_neg y]
    have T:e=0:=ω
    subst T;exact wpS_pure ⟨0,rfl,r,G,l _ (fun _=>rfl),ω,fun i h1 h2=>by congr 1;(first|lia|omega),o _ (fun _=>rfl) g.one g.tl⟩
  ·simp only[d,decide_false,Bool.false_eq_true,if_false]
   refine wpS_bind (uA C r ω ω ?_)
   by_cases f:R ρ (arrOf b) (lo+x-1)<R ρ (arrOf b) (lo+x)
   ·simp only[f,decide_true,if_true]
    exact wpS_pure (h x e b r G S ω u hq v g)
   ·simp only[f,decide_false,Bool.false_eq_true,if_false]
    have p:R ρ (arrOf b) (lo+x)=R ρ (arrOf b) (lo+x-1):=ω
    refine wpS_pure ⟨e+1,rfl,r,G,fun i j H J O=>?_,ω,fun i h1 h2=>?_,?_⟩
    ·by_cases q:j<lo+x
     ·exact u i j H J q
     ·have z:j=lo+x:=ω
      subst z
      by_cases F:i=lo+x
      ·subst F;exact Int.le_refl _
      ·rw[p];exact u i (lo+x-1) H ω ω
    ·rw[show lo+(x+1)-1=lo+x from ω]
     by_cases N:i=lo+x
     ·subst N;rfl
     ·rw[p];exact v i ω ω
    ·have hb:lo+(x+1)-(e+1+1)=lo+x-(e+1):=ω
     refine⟨by rw[hb];exact g.as,fun i j h1 h2 P=>?_,fun i h1 h2=>?_,g.tl.mono ω⟩
     ·by_cases q:j<lo+x
      ·exact g.inc i j ω h2 q
      ·exact g.tl i j h2 ω (by rw[r.size];(first|lia|omega))
     ·rw[show lo+(x+1)-1=lo+x from ω,p]
      exact g.str i h1 ω
def G5(C:i4 prog w A s κ a₀ ρ){st u:SortSt}{lo n b:Nat}{Q:Option Nat->SortSt->Prop}(f:lo+b<=a₀.size)(l:n+1<=b)(D:B κ a₀ st)(F:Pre lo u st)(G:oz ρ (arrOf st) lo (lo+(n+1)))(hg:Grp ρ τ (arrOf st) lo (n+1) 0)(h:mG κ a₀ ρ τ lo b u Q):wpS (model prog w) A E s (uW lo n b) Q st:=by
 unfold uW;refine wpS_bind (wpS_lift (wpAny_rule ⟨rfl,?_⟩));refine wpS_bind (Lw C f ω l D F G hg fun m o c d p H q r hq e g=>?_);dsimp only;have hsz:lo+m<=(arrOf c).size:=by rw[d.size];(first|lia|omega)
 by_cases a:o>0
 ·rw[if_pos a]
  refine wpS_bind (Cr (G4 C f ω q (d.setArr (mirror_perm _ _ _ _)) (p.trans (.mir hsz ω)) ?_ (g.turned hsz hq e) (g.tl.mir hsz (Ad _)) h));intro i j v x y;show R ρ (mirror (arrOf c) _ _ _) j<=R ρ (mirror (arrOf c) _ _ _) i;rw[zH hsz e,zH hsz e];exact r i j v x y
 ·rw[if_neg a]
  have z:o=0:=ω
  subst z;exact G4 C f ω q d p r g.one g.tl h
def Lx(C:i4 prog w A s κ a₀ ρ){st:SortSt}{lo u:Nat}{Q:Option Nat->SortSt->Prop}(D:lo+u<=a₀.size)(h1:1<=u)(e:B κ a₀ st)(p:Tl τ (arrOf st) lo)(h:mG κ a₀ ρ τ lo u st Q):wpS (model prog w) A E s (countRun' lo u) Q st:=by
 rw[Lu];refine wpS_bind (G3 C D (Ad 1) h1 e (fun i j b o q=>?_) fun n G H x J=>?_)
 ·have:i=j:=ω
  subst this;exact Int.le_refl _
 dsimp only;have I:St ρ τ (arrOf st) lo (lo+n):=fun i j b o q _=>p i j o ω (by rw[e.size];(first|lia|omega))
 by_cases g:n=u
 ·rw[if_pos (by simpa using g)]
  exact wpS_pure (h n st e .refl G H x I (p.mono ω))
 ·rw[if_neg (by simpa using g)]
  have d:R ρ (arrOf st) (lo+n)<R ρ (arrOf st) (lo+n-1):=J.resolve_left g
  by_cases v:n>1
  ·rw[if_pos v]
   refine wpS_bind (uA C e ω ω ?_)
   by_cases c:R ρ (arrOf st) lo<R ρ (arrOf st) (lo+n-1)
   ·simp only[c,decide_true,if_true]
    exact wpS_pure (h n st e .refl G H x I (p.mono ω))
   ·simp only[c,decide_false,Bool.false_eq_true,if_false]
    have hsz:lo+n<=(arrOf st).size:=by rw[e.size];(first|lia|omega)
    have a:∀k,lo<=k->k<lo+n->R ρ (arrOf st) k=R ρ (arrOf st) (lo+n-1):=by
     intro k b hk;have a1:=x lo k ω b hk;have a2:=x k (lo+n-1) b ω ω;(first|lia|omega)
    refine wpS_bind (Cr (G5 C D ω (e.setArr (mirror_perm _ _ _ _)) (.mir hsz (Ad _)) ?_ ⟨?_,?_,?_,?_⟩ h))
    ·intro i j b o q
     show R ρ (mirror (arrOf st) _ _ _) j<=R ρ (mirror (arrOf st) _ _ _) i;rw[zH hsz a,zH hsz a]
     by_cases F:j<lo+n
     ·rw[a i ω ω,a j ω F];exact Int.le_refl _
     ·have y:j=lo+n:=ω
      subst y
      by_cases l:i=lo+n
      ·subst l;exact Int.le_refl _
      ·rw[a i ω ω];exact Int.le_of_lt d
    ·rw[show lo+(n+1)-(0+1)=lo+n from ω]
     intro i j b o q _;show R τ (mirror (arrOf st) _ _ _) j<=R τ (mirror (arrOf st) _ _ _) i;rw[gC hsz,gC hsz,if_pos ω,if_pos ω];exact p _ _ ω ω ω
    ·intro i j h1 h2 L;(first|lia|omega)
    ·intro i b hi
     show R ρ (mirror (arrOf st) _ _ _) _<R ρ (mirror (arrOf st) _ _ _) i;rw[zH hsz a,zH hsz a,show lo+(n+1)-1=lo+n from ω,a i b ω];exact d
    ·exact(p.mono (show lo<=lo+n from ω)).mir hsz (Ad _)|>.mono ω
  ·rw[if_neg v]
   have r:n=1:=ω
   subst r;refine G5 C D ω e .refl ?_ ⟨?_,?_,?_,p.mono ω⟩ h
   ·intro i j b o q
    by_cases l:i=j
    ·subst l;exact Int.le_refl _
    ·have f:i=lo:=ω
     have z:j=lo+1:=ω
     subst f;subst z;exact Int.le_of_lt d
   ·intro i j b o q;(first|lia|omega)
   ·intro i j h1 h2 L;(first|lia|omega)
   ·intro i b hi
    have f:i=lo:=ω
    subst f;exact d
def Ly(C:i4 prog w A s κ a₀ ρ){st:SortSt}{lo n ok:Nat}{Q:Bool->SortSt->Prop}(hn:lo+n<=a₀.size)(U:ok<=n)(vP:1<=ok)(W:B κ a₀ st)(F:cp ρ (arrOf st) lo (lo+ok))(X:St ρ τ (arrOf st) lo (lo+ok))(Y:Tl τ (arrOf st) (lo+ok))(h:∀a,B κ a₀ a->Pre lo st a->cp ρ (arrOf a) lo (lo+n)->St ρ τ (arrOf a) lo (lo+n)->Q true a):wpS (model prog w) A E s (binarySort' lo n ok) Q st:=by
 rw[binarySort'_eq];refine wpS_bind (wpS_mono (wpS_forRange (I:=fun k c a=>c=(none,())/\B κ a₀ a/\Pre lo st a/\cp ρ (arrOf a) lo (lo+min k n)/\St ρ τ (arrOf a) lo (lo+min k n)/\Tl τ (arrOf a) (lo+min k n))
  (Q:=fun c a=>c=(none,())/\B κ a₀ a/\Pre lo st a/\cp ρ (arrOf a) lo (lo+n)/\St ρ τ (arrOf a) lo (lo+n)) ?step ?fin ?init) ?post)
 case post=>
  rintro c a ⟨rfl,o,v,f,g⟩;exact wpS_pure (h a o v f g)
 case init=>
  rw[show min (max ok 1) n=ok from ω];exact⟨rfl,W,.refl,F,X,Y⟩
 case fin=>
  rintro c a ⟨hc,o,v,f,g,_⟩;rw[show min (max (max ok 1) n) n=n from ω] at f g;exact⟨hc,o,v,f,g⟩
 case step=>
  rintro k c a BW Z ⟨rfl,o,v,f,g,y⟩;rw[show min k n=k from ω] at f g y;have hk:lo+k<a₀.size:=ω
  refine wpS_bind (wpS_mono (wpS_forRange (I:=fun x c b=>b=a/\∃l r,c=(none,l,r)/\l<=r/\r<=k/\r-l<=k-x/\
    (∀i,i<l->R ρ (arrOf a) (lo+i)<=R ρ (arrOf a) (lo+k))/\(∀i,r<=i->i<k->R ρ (arrOf a) (lo+k)<R ρ (arrOf a) (lo+i)))
   (Q:=fun c b=>b=a/\∃l r,c=(none,l,r)/\l<=k/\
    (∀i,i<l->R ρ (arrOf a) (lo+i)<=R ρ (arrOf a) (lo+k))/\(∀i,l<=i->i<k->R ρ (arrOf a) (lo+k)<R ρ (arrOf a) (lo+i))) ?istep ?ifin ?iinit) ?ipost)
  case iinit=>exact⟨rfl,0,k,rfl,ω,ω,ω,fun i hi=>ω,fun i h1 h2=>ω⟩
  case ifin=>
   rintro c b ⟨rfl,l,r,rfl,P,G,S,q,u⟩;have:l=r:=ω
   subst this;exact⟨rfl,l,l,rfl,G,q,u⟩
  case istep=>
   rintro x c b _ yM ⟨rfl,l,r,rfl,P,G,S,q,u⟩;dsimp only
   by_cases z:l ≥ r
   ·rw[if_pos z]
    have:l=r:=ω
    subst this;exact wpS_pure ⟨rfl,l,l,rfl,G,q,u⟩
   ·rw[if_neg z]
    refine wpS_bind (uA C o hk ω ?_)
    by_cases e:R ρ (arrOf b) (lo+k)<R ρ (arrOf b) (lo+(l+r) / 2)
    ·simp only[e,decide_true,if_true]
     refine wpS_pure ⟨rfl,l,(l+r) / 2,rfl,ω,ω,ω,q,fun i h1 h2=>?_⟩;exact Int.lt_of_lt_of_le e (f _ _ ω ω ω)
    ·simp only[e,decide_false,Bool.false_eq_true,if_false]
     refine wpS_pure ⟨rfl,(l+r) / 2+1,r,rfl,ω,ω,ω,fun i h1=>?_,u⟩;exact Int.le_trans (f (lo+i) (lo+(l+r) / 2) ω ω ω) (Int.not_lt.mp e)
  case ipost=>
   rintro c b ⟨rfl,l,r,rfl,BH,q,u⟩;show wpS _ _ _ _ (do moveDown' (lo+k) (lo+l);pure (ForInStep.yield (none,()))) _ _;rw[moveDown'_eq];have p:lo+k<(arrOf b).size:=by rw[o.size];exact hk
   have T:∀i,lo<=i->i<lo+l->R ρ (arrOf b) i<=R ρ (arrOf b) (lo+k):=fun i h1 h2=>by
    have:=q (i-lo) ω;rwa [show lo+(i-lo)=i from ω] at this
   have M:∀i,lo+l<=i->i<lo+k->R ρ (arrOf b) (lo+k)<R ρ (arrOf b) i:=fun i h1 h2=>by
    have:=u (i-lo) ω ω;rwa [show lo+(i-lo)=i from ω] at this
   refine wpS_bind (wpS_modify (wpS_pure ⟨rfl,o.setArr (bubble_perm _ _ _),v.trans (.bub p ω ω),?_,?_,?_⟩))
   ·rw[show min (k+1) n=k+1 from ω]
    intro i j N D L;show R ρ (bubble (arrOf b) (lo+k) (lo+k-(lo+l))) i<=R ρ (bubble (arrOf b) (lo+k) (lo+k-(lo+l))) j;rw[oA p ω,oA p ω,show lo+k-(lo+k-(lo+l))=lo+l from ω]
    repeat' split
    all_goals first
     |(exfalso;(first|lia|omega))
     |exact Int.le_refl _
     |exact T _ ω ω
     |exact Int.le_of_lt (M _ ω ω)
     |exact f _ _ ω ω ω
   ·rw[show min (k+1) n=k+1 from ω]
    intro i j N D L O;have d:R ρ (bubble (arrOf b) (lo+k) (lo+k-(lo+l))) i=R ρ (bubble (arrOf b) (lo+k) (lo+k-(lo+l))) j:=O;show R τ (bubble (arrOf b) (lo+k) (lo+k-(lo+l))) i<=R τ (bubble (arrOf b) (lo+k) (lo+k-(lo+l))) j;rw[oA p ω,oA p ω,show lo+k-(lo+k-(lo+l))=lo+l from ω] at d ⊢
    by_cases i1:i=lo+l
    ·rw[if_pos i1,if_neg ω,if_pos ω] at d
     have:=M (j-1) ω ω;(first|lia|omega)
    ·by_cases i2:lo+l<i
     ·rw[if_neg i1,if_pos ω,if_neg ω,if_pos ω] at d ⊢
      exact g _ _ ω ω ω d
     ·by_cases J:j=lo+l
      ·rw[if_neg i1,if_neg ω,if_pos J] at d ⊢
       exact y _ _ ω ω ω
      ·by_cases j2:lo+l<j
       ·rw[if_neg i1,if_neg ω,if_neg J,if_pos ω] at d ⊢
        exact g _ _ ω ω ω d
       ·rw[if_neg i1,if_neg ω,if_neg J,if_neg ω] at d ⊢
        exact g _ _ ω ω ω d
   ·rw[show min (k+1) n=k+1 from ω]
    intro i j D L F;have H:j<(arrOf b).size:=by
     have:=(bubble_perm (arrOf b) (lo+k) (lo+k-(lo+l))).size_eq;have Bx:j<(bubble (arrOf b) (lo+k) (lo+k-(lo+l))).size:=F;(first|lia|omega)
    show R τ (bubble (arrOf b) (lo+k) (lo+k-(lo+l))) i<=R τ (bubble (arrOf b) (lo+k) (lo+k-(lo+l))) j;rw[oA p ω,oA p ω,show lo+k-(lo+k-(lo+l))=lo+l from ω,if_neg (show ¬j=lo+l from ω),if_neg (show ¬(lo+l<j/\j<=lo+k) from ω)];split
    ·exact y _ _ ω ω H
    ·split
     ·exact y _ _ ω ω H
     ·exact y _ _ D ω H
def Lz(C:i4 prog w A s κ a₀ ρ){st:SortSt}{Q:Unit->SortSt->Prop}(H:B κ a₀ st)(hp:pendingOf st=#[])(h1:1<=a₀.size)(X:a₀.size<64)(Y:Tl τ (arrOf st) 0)(h:∀a,B κ a₀ a->cp ρ (arrOf a) 0 a₀.size->St ρ τ (arrOf a) 0 a₀.size->Q () a):wpS (model prog w) A E s sortRuns' Q st:=by
 rw[sortRuns'_eq];refine wpS_bind (wpS_get ?_);dsimp only;have U:minRun' a₀.size a₀.size 0=a₀.size:=by
  obtain⟨f,P⟩:∃f,a₀.size=f+1:=⟨a₀.size-1,ω⟩;have:minRun' (f+1) a₀.size 0=a₀.size:=by rw[minRun'_succ,if_pos X];rfl
  rwa [<-P] at this
 simp only[H.size,U];refine wpS_bind (wpS_mono (wpS_forRange
  (I:=fun x c a=>(x=0/\c=(none,0)/\B κ a₀ a/\pendingOf a=#[]/\Tl τ (arrOf a) 0)\/(1<=x/\c=(none,a₀.size)/\B κ a₀ a/\(pendingOf a).size<=1/\cp ρ (arrOf a) 0 a₀.size/\St ρ τ (arrOf a) 0 a₀.size))
  (Q:=fun c a=>c=(none,a₀.size)/\B κ a₀ a/\(pendingOf a).size<=1/\cp ρ (arrOf a) 0 a₀.size/\St ρ τ (arrOf a) 0 a₀.size) ?step ?fin (.inl ⟨rfl,rfl,H,hp,Y⟩)) ?post)
 case fin=>
  rintro c a (⟨hx,_,_⟩|⟨_,hc,r⟩)
  ·(first|lia|omega)
  ·exact⟨hc,r⟩
 case step=>
  rintro x c a _ hx (⟨rfl,rfl,u,g,v⟩|⟨Z,rfl,r⟩)
  ·dsimp only
   rw[if_neg ω];simp only[Nat.sub_zero,Nat.min_self];refine wpS_bind (Lx C ω ω u v fun m j y P2 J m2 l o L=>?_);dsimp only;have tl:∀d,B κ a₀ d->pendingOf d=#[]->cp ρ (arrOf d) 0 a₀.size->St ρ τ (arrOf d) 0 a₀.size->B κ a₀ (setPending d ((pendingOf d).push (0,a₀.size,0)))/\(pendingOf (setPending d ((pendingOf d).push (0,a₀.size,0)))).size<=1/\cp ρ (arrOf (setPending d ((pendingOf d).push (0,a₀.size,0)))) 0 a₀.size/\St ρ τ (arrOf (setPending d ((pendingOf d).push (0,a₀.size,0)))) 0 a₀.size:=
    fun d b p q M=>⟨⟨b.perm,b.kind,b.failed⟩,by show((pendingOf d).push _).size<=1;rw[p];exact Ad 1,q,M⟩
   by_cases i:m<a₀.size
   ·rw[if_pos i]
    refine wpS_bind (wpS_lift (wpAny_rule ⟨rfl,?_⟩));refine wpS_bind (Ly C ω m2 J y l o L fun d N P3 z D=>?_);simp only[Bool.not_true,Bool.false_eq_true,if_false];refine wpS_bind (wpS_get ?_);have F:pendingOf d=#[]:=by rw[P3.pend,P2.pend];exact g
    have hb:(pendingOf d).back?=none:=by rw[F];rfl
    rw[hb];dsimp only;simp only[Nat.zero_add] at z D ⊢;exact wpS_bind (wpS_modify (wpS_pure (.inr ⟨ω,rfl,tl d N F z D⟩)))
   ·rw[if_neg i]
    have W:m=a₀.size:=ω
    subst W;refine wpS_bind (wpS_get ?_);have G:pendingOf j=#[]:=by rw[P2.pend];exact g
    have hb:(pendingOf j).back?=none:=by rw[G];rfl
    rw[hb];dsimp only;simp only[Nat.zero_add] at l o ⊢;exact wpS_bind (wpS_modify (wpS_pure (.inr ⟨ω,rfl,tl j y G l o⟩)))
  ·dsimp only
   rw[if_pos (Ad _)];exact wpS_pure ⟨rfl,r⟩
 case post=>
  rintro c a ⟨rfl,u,S,T,ss⟩;dsimp only;refine wpS_bind (wpS_mono (wpS_forRange (I:=fun _ c e=>e=a/\c=(none,())) (Q:=fun c e=>e=a/\c=(none,())) ?_ (fun _ _ O=>O) ⟨rfl,rfl⟩) ?_)
  ·rintro x c e _ _ ⟨rfl,rfl⟩
   refine wpS_bind (wpS_get ?_);rw[if_pos S];exact wpS_pure ⟨rfl,rfl⟩
  ·rintro c e ⟨rfl,rfl⟩
   exact wpS_pure (h _ u T ss)
end
section
variable{prog:Program}{w:World}{A:Around}{E:Ω}{s:Shared}{κ:SortKind}{a₀:Array Keyed}{ρ:Keyed->Int}
def LA(C:i4 prog w A s κ a₀ ρ){st:SortSt}{Q:Unit->SortSt->Prop}(d:B κ a₀ st)(hp:pendingOf st=#[])(h1:1<=a₀.size)(e:a₀.size<64)(h:∀a,B κ a₀ a->cp ρ (arrOf a) 0 a₀.size->Q () a):wpS (model prog w) A E s sortRuns' Q st:=
 Lz (τ:=fun _=>0) C d hp h1 e (fun i j _ _ _=>by unfold R;split<;>split<;>exact Int.le_refl _) fun a b c _=>h a b c
end
end Tim
end
section
namespace cp
open PySem PyProof.Rows HT
def G6:∀a:List Int,lexLt a a=false
 |[]=>rfl
 |x::a=>by rw[tH,if_pos rfl];exact G6 a
def Eh:∀{a b c:List Int},lexLt a b=true->lexLt b c=true->lexLt a c=true
 |[],[],_,h,_=>by cases h
 |[],_::_,[],_,h=>by cases h
 |[],_::_,_::_,_,_=>rfl
 |_::_,[],_,h,_=>by cases h
 |_::_,_::_,[],_,h=>by cases h
 |x::a,y::b,z::c,h1,h2=>by
  rw[tH] at h1 h2 ⊢
  by_cases e1:x=y
  ·rw[if_pos e1] at h1
   by_cases e2:y=z
   ·rw[if_pos e2] at h2
    rw[if_pos (e1.trans e2)];exact Eh h1 h2
   ·rw[if_neg e2] at h2
    rw[if_neg ω];have:=of_decide_eq_true h2;exact decide_eq_true ω
  ·rw[if_neg e1] at h1
   have d:=of_decide_eq_true h1
   by_cases e2:y=z
   ·rw[if_neg ω]
    exact decide_eq_true ω
   ·rw[if_neg e2] at h2
    have e:=of_decide_eq_true h2;rw[if_neg ω];exact decide_eq_true ω
def G7:∀{a b:List Int},lexLt a b=false->lexLt b a=false->a=b
 |[],[],_,_=>rfl
 |[],_::_,h,_=>by cases h
 |_::_,[],_,h=>by cases h
 |x::a,y::b,h1,h2=>by
  rw[tH] at h1 h2
  by_cases e:x=y
  ·subst e
   rw[if_pos rfl] at h1 h2;rw[G7 h1 h2]
  ·rw[if_neg e] at h1
   rw[if_neg (Ne.symm e)] at h2;have:=of_decide_eq_false h1;have:=of_decide_eq_false h2;(first|lia|omega)
def rk(ls:Ξ)(l:List Int):Int:=((ls.filter fun m=>lexLt m l).length:Nat)
def G8{ls:Ξ}{l m:List Int}(f:l∈ls)(g:m∈ls):decide (rk ls l<rk ls m)=lexLt l m:=by
 have mono:∀{a b:List Int},(∀x,lexLt x a=true->lexLt x b=true)->∀k:Ξ,(k.filter fun x=>lexLt x a).length<=(k.filter fun x=>lexLt x b).length:=by
  intro a b d k
  induction k with
  |nil=>exact Ad _
  |cons x k ih=>
   rw[List.filter_cons,List.filter_cons]
   by_cases q:lexLt x a=true
   ·rw[if_pos q,if_pos (d x q),AH,AH];(first|lia|omega)
   ·rw[if_neg q]
    split
    ·rw[AH];(first|lia|omega)
    ·exact ih
 have c:∀{a b:List Int},(∀x,lexLt x a=true->lexLt x b=true)->lexLt a b=true->∀k:Ξ,a∈k->(k.filter fun x=>lexLt x a).length<(k.filter fun x=>lexLt x b).length:=by
  intro a b d h k
  induction k with
  |nil=>intro q;cases q
  |cons x k ih=>
   intro hk;rw[List.filter_cons,List.filter_cons];rcases List.mem_cons.mp hk with e|e
   ·subst e
    rw[if_neg (by rw[G6];exact AF),if_pos h,AH];have:=mono d k;(first|lia|omega)
   ·have:=ih e
    by_cases q:lexLt x a=true
    ·rw[if_pos q,if_pos (d x q),AH,AH];(first|lia|omega)
    ·rw[if_neg q]
     split
     ·rw[AH];(first|lia|omega)
     ·exact this
 unfold rk;cases q:lexLt l m with
 |true=>
  have:=c (a:=l) (b:=m) (fun x hx=>Eh hx q) q ls f;exact decide_eq_true ω
 |false=>
  have:=mono (a:=m) (b:=l) (fun x hx=>by
   cases z:lexLt x l with
   |true=>rfl
   |false=>
    cases z2:lexLt l x with
    |true=>rw[Eh z2 hx] at q;cases q
    |false=>rw[G7 z z2] at hx;rw[hx] at q;cases q) ls
  exact decide_eq_false ω
structure By(prog:Program)(w:World)(A:Around)(good:Heap->Prop)(us:List Value)(ls:Ξ):Prop where
 len:us.length=ls.length
 fn:∀(i j:Nat) u l m,us[i]?=some u->us[j]?=some u->ls[i]?=some l->ls[j]?=some m->l=m
 ask:2<=us.length->∃κ:SortKind,(∀(s:Shared)(Q:SortKind->Shared->Prop)(E:Ω),good s.heap->Q κ s->wpAny (model prog w) A (keyKind' us.toArray) Q E s)/\
  ∀(i j:Nat) u v l m,us[i]?=some u->us[j]?=some v->ls[i]?=some l->ls[j]?=some m->∀(s:Shared)(Q:Bool->Shared->Prop)(E:Ω),good s.heap->Q (lexLt l m) s->wpAny (model prog w) A (keyLt' κ u v) Q E s
open Classical in
noncomputable def oC(us:List Value)(ls:Ξ)(u:Value):List Int:=if h:∃l,∃i:Nat,us[i]?=some u/\ls[i]?=some l then h.choose else []
def u6{us:List Value}{ls:Ξ}(fn:∀(i j:Nat) u l m,us[i]?=some u->us[j]?=some u->ls[i]?=some l->ls[j]?=some m->l=m){i:Nat}{u:Value}{l:List Int}(h1:us[i]?=some u)(h2:ls[i]?=some l):oC us ls u=l:=by
 unfold oC;have h:∃l,∃i:Nat,us[i]?=some u/\ls[i]?=some l:=⟨l,i,h1,h2⟩;rw[dif_pos h];obtain⟨j,e1,e2⟩:=h.choose_spec;exact fn j i u _ l e1 h1 e2 h2
noncomputable def oE(us:List Value)(ls:Ξ)(p:Keyed):Int:=rk ls (oC us ls p.1)
section
variable{prog:Program}{w:World}{A:Around}{E:Ω}{s:Shared}{good:Heap->Prop}{us vs:List Value}{ls:Ξ}
def Cs(h:us.length=vs.length){p:Keyed}(hp:p∈(us.toArray.zip vs.toArray).toList):∃i:Nat,us[i]?=some p.1/\vs[i]?=some p.2:=by
 have e:(us.toArray.zip vs.toArray).toList=us.zip vs:=by simp
 rw[e] at hp;obtain⟨i,hi,e2⟩:=List.mem_iff_getElem.mp hp;rw[List.getElem_zip] at e2;rw[List.length_zip] at hi;refine⟨i,?_,?_⟩
 ·rw[Ab ω,<-e2]
 ·rw[Ab ω,<-e2]
def LB(B:By prog w A good us ls)(d:us.length=vs.length)(hg:good s.heap){κ:SortKind}(h2:2<=us.length)(o:us.length<64)(hk:∀(i j:Nat) u v l m,us[i]?=some u->us[j]?=some v->ls[i]?=some l->ls[j]?=some m->∀(s:Shared)(Q:Bool->Shared->Prop)(E:Ω),good s.heap->Q (lexLt l m) s->wpAny (model prog w) A (keyLt' κ u v) Q E s){Q:Unit->SortSt->Prop}(h:∀a,(arrOf a).Perm (us.toArray.zip vs.toArray)->failedOf a=none->Tim.cp (oE us ls) (arrOf a) 0 vs.length->Q () a):wpS (model prog w) A E s sortRuns' Q (SortSt.mk' κ (us.toArray.zip vs.toArray) #[] 7 none):=by
 have hz:(us.toArray.zip vs.toArray).size=vs.length:=by simp;(first|lia|omega)
 refine Tim.LA (κ:=κ) (a₀:=us.toArray.zip vs.toArray) (ρ:=oE us ls) ⟨fun x y hx hy f g hq=>?_⟩ ⟨Array.Perm.refl _,rfl,rfl⟩ rfl (by rw[hz];(first|lia|omega)) (by rw[hz];(first|lia|omega)) fun a b e=>h a b.perm b.failed (by rw[<-hz];exact e);obtain⟨i,e1,_⟩:=Cs d hx;obtain⟨j,e2,_⟩:=Cs d hy;have hi:i<ls.length:=by rw[<-B.len];exact(List.getElem?_eq_some_iff.mp e1).1
 have c:j<ls.length:=by rw[<-B.len];exact(List.getElem?_eq_some_iff.mp e2).1
 have f1:ls[i]?=some ls[i]:=Ab hi;have f2:ls[j]?=some ls[j]:=Ab c;refine hk i j _ _ _ _ e1 e2 f1 f2 s f g hg ?_;unfold oE at hq;rw[u6 B.fn e1 f1,u6 B.fn e2 f2,G8 (Ap hi) (Ap c)] at hq;exact hq
def dv{a b:Type}:∀(l:List a)(m:List b)(i:Nat),(l.zip m)[i]?=(l[i]?).bind fun x=>(m[i]?).map fun y=>(x,y)
 |[],m,i=>by simp
 |x::l,[],i=>by cases h:(x::l)[i]?<;>simp
 |x::l,y::m,0=>rfl
 |x::l,y::m,i+1=>by
  rw[List.zip_cons_cons,List.getElem?_cons_succ,List.getElem?_cons_succ,List.getElem?_cons_succ];exact dv l m i
def LC(B:By prog w A good us ls)(l:us.length=vs.length){xs:Array Keyed}(hp:xs.Perm (us.toArray.zip vs.toArray))(r:Tim.cp (oE us ls) xs 0 vs.length):∃ps:List (List Int×Value),ps.Perm (ls.zip vs)/\xs.toList.map (·.2)=ps.map (·.2)/\ps.Pairwise fun(a b:List Int×Value)=>HT.lexLt b.1 a.1=false:=by
 have pl:xs.toList.Perm (us.zip vs):=by
  have:=Array.perm_iff_toList_perm.mp hp
  simpa using this
 refine⟨xs.toList.map fun p=>(oC us ls p.1,p.2),?_,by rw[AS];rfl,?_⟩
 ·have e:(us.zip vs).map (fun p:Keyed=>(oC us ls p.1,p.2))=ls.zip vs:=by
   apply List.ext_getElem?;intro i;rw[Aj,dv,dv];cases e1:us[i]? with
   |none=>
    have:ls[i]?=none:=List.getElem?_eq_none (by rw[<-B.len];exact List.getElem?_eq_none_iff.mp e1);rw[this];rfl
   |some u=>
    have hi:i<ls.length:=by rw[<-B.len];exact(List.getElem?_eq_some_iff.mp e1).1
    have f1:ls[i]?=some ls[i]:=Ab hi;rw[f1];cases e2:vs[i]? with
    |none=>rfl
    |some v=>
     show some (oC us ls u,v)=some (ls[i],v);rw[u6 B.fn e1 f1]
  rw[<-e];exact pl.map _
 ·rw[List.pairwise_map,List.pairwise_iff_getElem]
  intro i j hi h o;have hsz:xs.size=vs.length:=by
   have:=pl.length_eq;rw[Array.length_toList,List.length_zip] at this;(first|lia|omega)
  rw[Array.length_toList] at hi h;have q:=r i j (At _) (Nat.le_of_lt o) ω;have a1:xs[i]?=some xs[i]:=getElem?_pos xs i hi;have a2:xs[j]?=some xs[j]:=getElem?_pos xs j h;rw[Tim.jk a1,Tim.jk a2] at q;simp only[Array.getElem_toList];obtain⟨f,g1,_⟩:=Cs l (p:=xs[i]) (by
   have:=pl.mem_iff.mp (show xs[i]∈xs.toList by simp)
   simpa using this)
  obtain⟨g,g2,_⟩:=Cs l (p:=xs[j]) (by
   have:=pl.mem_iff.mp (show xs[j]∈xs.toList by simp)
   simpa using this)
  have c:f<ls.length:=by rw[<-B.len];exact(List.getElem?_eq_some_iff.mp g1).1
  have d:g<ls.length:=by rw[<-B.len];exact(List.getElem?_eq_some_iff.mp g2).1
  have f1:ls[f]?=some ls[f]:=Ab c;have f2:ls[g]?=some ls[g]:=Ab d;unfold oE at q;rw[u6 B.fn g1 f1,u6 B.fn g2 f2] at q ⊢;have:=G8 (ls:=ls) (Ap d) (Ap c);rw[<-this];exact decide_eq_false ω
end
end cp
end
section
namespace cp
open PySem PyProof.Rows PySem.W
section
variable{prog:Program}{w:World}{A:Around}{E:Ω}{s:Shared}{good:Heap->Prop}{us vs:List Value}{ls:Ξ}
def LD{ns:List Int}(hi:IntsAre us ns):By prog w A (fun _=>True) us (ns.map fun n=>[n]):=by
 have f:=hi.length;have a:∀(i:Nat) u l,us[i]?=some u->(ns.map fun n=>[n])[i]?=some l->∃n t,u=.int n t/\l=[n]:=fun i u l h1 h2=>by
  obtain⟨t,e⟩:=IntsAre.int_at hi i u h1;rw[Aj] at h2;cases e2:ns[i]? with
  |none=>rw[e2] at h2;cases h2
  |some n=>
   rw[e2] at h2;have e3:ns.getD i 0=n:=by rw[Ac,e2];rfl
   rw[e3] at e;exact⟨n,t,e,(AV h2).symm⟩
 refine⟨by rw[Aa,f],fun i j u l m h1 h2 c d=>?_,fun h2=>⟨oneType',fun s Q E _ hq=>?_,fun i j u v l m h1 h2 c d s Q E _ hq=>?_⟩⟩
 ·obtain⟨n,t,e1,rfl⟩:=a i u l h1 c
  obtain⟨b,t',e2,rfl⟩:=a j u m h2 d;rw[e1] at e2;cases e2
  rfl
 ·match us,hi,h2 with
  |[],_,h2=>simp at h2
  |[_],_,h2=>simp at h2
  |v₁::v₂::rest,hi,_=>
   rw[keyKind_ints hi];exact Am hq
 ·obtain⟨n,t,rfl,rfl⟩:=a i u l h1 c
  obtain⟨b,t',rfl,rfl⟩:=a j v m h2 d;refine kat_lt_int ?_;have:HT.lexLt [n] [b]=decide (n<b):=by
   rw[HT.tH]
   by_cases e:n=b
   ·rw[if_pos e,HT.Ks];exact(decide_eq_false ω).symm
   ·rw[if_neg e]
  rw[this] at hq;exact hq
def IsPr(h:Heap)(u:Value)(l:List Int):Prop:=∃(a b:Addr)(n:Int)(t:Tok)(ad:List Value)(ps:List Int),u=.ref a/\l=n::ps/\IsTup h a #[.int n t,.ref b]/\IsTup h b ad.toArray/\IntsAre ad ps
def IsTup.inj{h:Heap}{a:Addr}{xs ys:Array Value}(h1:IsTup h a xs)(h2:IsTup h a ys):xs=ys:=by
 obtain⟨o,e,_,n,d⟩:=h1;obtain⟨o',b,_,c,d'⟩:=h2;rw[e] at b;cases b;rw[d] at d';injection d'
def IntsAre.inj{vs:List Value}{ns ms:List Int}(h:IntsAre vs ns)(g:IntsAre vs ms):ns=ms:=by
 induction h generalizing ms with
 |nil=>cases g;rfl
 |cons n t h ih=>cases g with|cons _ _ h'=>rw[ih h']
def IsPr.inj{h:Heap}{u:Value}{l m:List Int}(h1:IsPr h u l)(h2:IsPr h u m):l=m:=by
 obtain⟨a,b,n,t,ad,ps,rfl,rfl,c,d,i1⟩:=h1;obtain⟨a',b',j,t',its',o,e,rfl,f,g,i⟩:=h2;cases e;have:=cp.IsTup.inj c f;cases this;have e2:=cp.IsTup.inj d g;have e3:ad=its':=by simpa using e2
 subst e3;rw[IntsAre.inj i1 i]
end
def Out(ls:Ξ)(vs out:List Value):Prop:=∃ps:List (List Int×Value),ps.Perm (ls.zip vs)/\out=ps.map (·.2)/\ps.Pairwise fun(a b:List Int×Value)=>HT.lexLt b.1 a.1=false
section
variable{prog:Program}{w:World}{A:Around}{E:Ω}{s:Shared}{good:Heap->Prop}{us vs:List Value}{ls:Ξ}
def LF(a:ls.length=vs.length)(b:us.length=vs.length)(h2:vs.length<2):Out ls vs ((us.toArray.zip vs.toArray).map (·.2)).toList:=by
 have e:((us.toArray.zip vs.toArray).map (·.2)).toList=vs:=by
  rw[Array.toList_map,show(us.toArray.zip vs.toArray).toList=us.zip vs by simp,List.map_snd_zip ω]
 rw[e];refine⟨ls.zip vs,List.Perm.refl _,by rw[List.map_snd_zip ω],?_⟩;have hz:(ls.zip vs).length<2:=by rw[List.length_zip];(first|lia|omega)
 match ls.zip vs,hz with
 |[],_=>exact List.Pairwise.nil
 |[x],_=>simp
 |_::_::_,h=>simp only[AH] at h;(first|lia|omega)
def LG(B:By prog w A good us ls)(c:us.length=vs.length)(g:vs.length<64)(hg:good s.heap){P:PySem.Fin->Shared->Prop}{G:Unit×SortSt->Sem PySem.Fin}(h:∀a,Out ls vs ((arrOf a).map (·.2)).toList->(arrOf a).size=vs.length->failedOf a=none->wpAny (model prog w) A (G (PUnit.unit,a)) P E s):wpAny (model prog w) A (if vs.toArray.size<2 then(pure general' >>= fun kind=>(if vs.toArray.size<2 then pure () else sortRuns').run (SortSt.mk' kind (us.toArray.zip vs.toArray) #[] 7 none) >>= G)
   else(keyKind' us.toArray >>= fun kind=>(if vs.toArray.size<2 then pure () else sortRuns').run (SortSt.mk' kind (us.toArray.zip vs.toArray) #[] 7 none) >>= G)) P E s:=by
 have b:(us.toArray.zip vs.toArray).size=vs.length:=by rw[Array.size_zip,Aw,Aw];(first|lia|omega)
 by_cases h2:vs.toArray.size<2
 ·rw[if_pos h2]
  refine Af (Am ?_);rw[if_pos h2];rw[StateT.run_pure];refine Af (Am ?_)
  try dsimp only
  rw[Aw] at h2;exact h (SortSt.mk' general' (us.toArray.zip vs.toArray) #[] 7 none) (LF (by rw[<-B.len];exact c) c h2) b rfl
 ·rw[if_neg h2,if_neg h2]
  rw[Aw] at h2;obtain⟨κ,k1,k2⟩:=B.ask ω;refine Af (k1 s _ E hg ?_);refine Af (wpAny_mono (LB (Q:=fun _ a=>(arrOf a).Perm (us.toArray.zip vs.toArray)/\failedOf a=none/\Tim.cp (oE us ls) (arrOf a) 0 vs.length) B c hg ω ω k2 fun a a1 a2 a3=>⟨a1,a2,a3⟩) ?_ fun _ _ e=>e);rintro⟨⟨⟩,a⟩ s' ⟨rfl,hp,d,f⟩
  try dsimp only
  exact h a (by
   obtain⟨ps,a1,a2,a3⟩:=LC B c hp f;exact⟨ps,a1,by rw[Array.toList_map];exact a2,a3⟩) (by rw[hp.size_eq];exact b) d
def LJ{a:Addr}{n:Nat}{P:PySem.Fin->Shared->Prop}(c:s.heap.get? a=some (seqObj "list" vs.toArray n))(B:By prog w A good vs ls)(hg:∀h',(∀b o,b≠a->s.heap.get? b=some o->h'.get? b=some o)->good h')(hz:vs.length<=sizeLine)(j:vs.length<64)(h:∀out:Array Value,Out ls vs out.toList->P (.done (.ret .none)) {s with heap:=sortedHeap s.heap a vs out}):wpAny (model prog w) A (Builtin.«list.sort» ⟨[.ref a],[]⟩) P E s:=by
 rw[list_sort_plain];have f:a<s⁻¹:=Ar c;refine Af (listItems_at c rfl ?_);refine Af (listUpdate_at c rfl ?_ (by rw[Aw];exact hz) (At _));obtain⟨e1,d⟩:∃e1,(s.heap.update a (Obj.mapSeq fun _=>#[])).get? a=some (seqObj "list" #[] e1):=⟨_,get?_update_seq c (fun _=>#[])⟩;refine Af (seqEpoch_at d rfl ?_);refine Af (wpAny_newTuple ?_ (by show vs.length<=_;exact hz));refine Af (wpAny_newList ?_ (At _));refine wpAny_holding ?_;have g:(((s.heap.update a (Obj.mapSeq fun _=>#[])).push (seqObj "tuple" vs.toArray 0)).push (seqObj "list" #[] 0)).get? a=some (seqObj "list" #[] e1):=by
  rw[Heap.get?_push_ne _ _ _ (by rw[size_push',Heap.size_update];exact AA (Nat.lt_succ_of_lt f)),Heap.get?_push_ne _ _ _ (by rw[Heap.size_update];exact AA f)];exact d
 show wpAny (model prog w) A _ P E {s with heap:=((s.heap.update a (Obj.mapSeq fun _=>#[])).push (seqObj "tuple" vs.toArray 0)).push (seqObj "list" #[] 0)};dsimp only;refine LG (s:={s with heap:=((s.heap.update a (Obj.mapSeq fun _=>#[])).push (seqObj "tuple" vs.toArray 0)).push (seqObj "list" #[] 0)}) B rfl j (hg _ fun b o hb e=>Ai _ (Ai _ (by rw[Heap.get?_update_ne _ _ _ _ hb];exact e))) fun l c hsz i=>?_;dsimp only;refine Af (seqEpoch_at g rfl ?_);refine Af (listUpdate_at g rfl ?_ (At _) (Ae (Nat.le_of_eq ((Array.size_map ..).trans hsz)) (Nat.le_succ_of_le hz)));rw[i];simp only[bne_self_eq_false,Bool.false_eq_true,if_false];exact Am (h _ c)
end
end cp
end
section
namespace L2
open PySem PySem.Spec PyProof.Rows
def jl(N N':List Str)(aj:List (Option Nat))(scope:Scope):Bool:=decide (aj.length=N'.length)&&(aj.zip N').all fun p=>match p.1 with
 |none=>true
 |some j=>decide (N[j]?=some p.2)&&decide (scope.names.lookup p.2=some .free)
def G9{N N':List Str}{aj:List (Option Nat)}{scope:Scope}(h:jl N N' aj scope=true):og N N' aj scope:=by
 unfold jl at h;rw[Bool.and_eq_true,decide_eq_true_eq,Be] at h;refine⟨h.1,fun i j e=>?_⟩;have hi:i<aj.length:=(List.getElem?_eq_some_iff.mp e).1;have e2:N'[i]?=some N'[i]:=Ab (by rw[<-h.1];exact hi);have:=h.2 (some j,N'[i]) (List.mem_iff_getElem?.mpr ⟨i,by rw[cp.dv,e,e2];rfl⟩);simp only[Bool.and_eq_true,decide_eq_true_eq] at this;exact⟨N'[i],e2,this.1,this.2⟩
section
variable{X:Cx}{scope:Scope}{aj:List (Option Nat)}{tg iter aS:Expr}{aF:List Expr}{wi:TI}{g:TG}{tc:TT}{te:TE}{pos:Pos}
def zz(N N':List Str)(aj:List (Option Nat))(hi:PI X tg iter wi)(hg:∀a C s₀ H₀ ex,PG (eD X scope N' a C s₀ H₀ ex) tg g)(c:∀a C s₀ H₀ ex,i0 (eD X scope N' a C s₀ H₀ ex) aF tc)(d:∀a C s₀ H₀ ex,PE (eD X scope N' a C s₀ H₀ ex) aS te)(hc:X.calm=true:=by rfl)(hk:scope.kind=.function:=by rfl)(e:∀y∈scope.names,y.2≠.cell:=by decide +kernel)(f:∀y∈scope.names,y.2=.free->scope.names.lookup y.1=some .free:=by decide +kernel)(h:∀y∈scope.names,y.2=.local->scope.names.lookup y.1=some .local:=by decide +kernel)(hfr:∀y∈scope.names,y.2=.free->X.env.kindOf y.1=some .cell\/X.env.kindOf y.1=some .free)(i:X.N=N:=by rfl)(b:jl N N' aj scope=true:=by decide +kernel)(j:∀x,foldedSetIterable iter X.env x=pure x:=by intro _;rfl):PE X (.ListComp aS [⟨tg,iter,aF,0⟩] scope pos) (ki wi aj g tc te):=
 La hc hk e f h hfr (G9 (by rw[i];exact b)) hi hg c d j
end
def cz{env:Env}{scope:Scope}(h:scope.names.all (fun y=>decide (y.2≠.free))=true):∀y∈scope.names,y.2=.free->env.kindOf y.1=some .cell\/env.kindOf y.1=some .free:=fun y hy e=>
 absurd e (of_decide_eq_true (List.all_eq_true.mp h y hy))
def a9{env:Env}{scope:Scope}(sc:Scope)(h:scope.names.all (fun y=>decide (y.2≠.free)|| decide (sc.names.lookup y.1=some .cell)|| decide (sc.names.lookup y.1=some .free))=true)(a:env.scope=sc:=by rfl):∀y∈scope.names,y.2=.free->env.kindOf y.1=some .cell\/env.kindOf y.1=some .free:=fun y hy e=>by
 subst a;have:=List.all_eq_true.mp h y hy;simp only[Bool.or_eq_true,decide_eq_true_eq] at this;rcases this with (q|q)|q
 ·exact absurd e q
 ·exact .inl q
 ·exact .inr q
def bC(l:List Str)(h:l.Nodup:=by decide +kernel):l.Nodup:=h
def gG{te:TE}{σ:St}{H:Hp}{P:VK}{S:Hp->Prop}(h:te σ H P):bE σ H fun b a=>if b=true then te σ a P else S a:=by
 show if true=true then te σ H P else S H;rw[if_pos rfl];exact h
def dy{i:Nat}{v:V}{te:TE}{σ:St}{H:Hp}{P:St->VK}{S:St->Hp->Prop}(h:te (σ.set i (some v)) H (P (σ.set i (some v)))):zQ i v σ H fun a d=>bE a d fun b c=>if b=true then te a c (P a) else S a c:=gG (S:=S (σ.set i (some v))) h
def zD{J:It}{g:TG}{tc:TT}{te:TE}{σ:St}{H1:Hp}{Q:VK}{D:Addr}(h:dr J g tc te σ H1 D Q):dr J g tc te σ H1 D Q:=h
end L2
end
section
namespace K24
open PySem L2
def top(i:Nat):Stmt:=PySem.Challenge.pw_seamwright_k24_whole_solved_or_shown.main.body.getD i (.Pass ⟨0,0,0,0⟩)
end K24
end
section
namespace L2
open PySem PySem.Spec PyProof.Rows
section
variable{X:Cx}{scope:Scope}{N':List Str}{aj:List (Option Nat)}{tg iter aS:Expr}{aF:List Expr}{wi:TI}{g:TG}{tc:TT}{te:TE}{pos:Pos}
def LK{i:Nat}{x:Str}{az E:Pos}(hc:X.calm=true)(hk:scope.kind=.function)(G:∀y∈scope.names,y.2=.cell->scope.names.lookup y.1=some .cell)(Q:∀y∈scope.names,y.2=.free->scope.names.lookup y.1=some .free)(S:∀y∈scope.names,y.2=.local->scope.names.lookup y.1=some .local)(hfr:∀y∈scope.names,y.2=.free->X.env.kindOf y.1=some .cell\/X.env.kindOf y.1=some .free)(j:og X.N N' aj scope)(hi:PI X tg iter wi)(hg:∀d C s₀ H₀ ex,PG (cxD X scope N' d C s₀ H₀ ex) tg g)(T:∀d C s₀ H₀ ex,i0 (cxD X scope N' d C s₀ H₀ ex) aF tc)(U:∀d C s₀ H₀ ex,PE (cxD X scope N' d C s₀ H₀ ex) aS te)(W:∀x,foldedSetIterable iter X.env x=pure x)(Y:X.N.Nodup)(r:X.N[i]?=some x)(hx:Loc X.env.scope x)(Z:X.fn x=true\/X.env.scope.names.lookup x=some .local)(ia:swapsWith (.ListComp aS [⟨tg,iter,aF,0⟩] scope pos) (some (.Name x az)) E.line X.env=pure true):PS X (.Assign [.Name x az] (.ListComp aS [⟨tg,iter,aF,0⟩] scope pos) E) (io (ki wi aj g tc te) (zQ i)):=by
 intro aa s σ H D I h;rw[exec_Assign_Name_used _ _ _ _ ia];refine Af (wpAny_standAt (Af ?_));show wpAny _ X.A (do let _ <-comprehension (.ListComp aS [⟨tg,iter,aF,0⟩] scope pos) scope X.env _ (newList []) (firstAsync [⟨tg,iter,aF,0⟩]) (firstIter [⟨tg,iter,aF,0⟩] X.env) (some (assign (.Name x az) X.env))) _ _ s;refine Af (wpAny_mono (GT (use:=some (assign (.Name x az) X.env)) (R:=fun _ s'=>SP X aa D .next s') hc hk G Q S hfr j hi hg T U W I h fun F C H' w f L q=>?_) (fun _ s' hq=>Am (Am hq)) fun _ _ e=>e);show wpAny _ X.A (assign (.Name x az) X.env (.ref F)) _ _ w;refine wpAny_assign_Name (FV (v:=.ref F) (L.back w.heap (Heap.SameBut.refl _ _)) Y r hx rfl (fun J I5 ⟨a,p,M⟩=>?_) Z);have P:C≠a:=by
  rcases M with e|e
  ·rw[e];exact L.nl
  ·exact fun z=>L.nc x a e z.symm
 obtain⟨m,O⟩:=L.ns;refine⟨m,O.sameBut p P,fun h' l=>⟨_,H',?_,q⟩⟩;refine I5.call' (s':={J with heap:=h'}) (ch:=[C]) rfl ⟨fun b o q n hb hx=>?_,fun b o q n hb hx=>?_,fun b o q n hx=>n,fun b o q hx=>?_,fun b xs q=>q,fun b o u q=>q,fun b ps q=>⟨#[],by simpa using q⟩⟩ ?_ I5.bare fun b hb=>?_
 ·exact(l.2 b (by simpa using hx)).trans q
 ·exact⟨o.slots,(l.2 b (by simpa using hx)).trans q⟩
 ·exact⟨o,(l.2 b (by simpa using hx)).trans q⟩
 ·intro b u e
  refine(I5.hok b u e).stay (fun c v hc q=>(l.2 c ?_).trans q) (fun _ q=>q) fun _ _ q=>q;rintro rfl;rcases hc with z|z
  ·rw[<-z,L.no] at e;cases e
  ·rw[L.no] at z;cases z
 ·have e:b=C:=by simpa using hb
  subst e;exact⟨.inr L.far,L.nl,L.nc,L.np⟩
def LN{i:Nat}{x:Str}{az f:Pos}(hc:X.calm=true)(hk:scope.kind=.function)(c:∀y∈scope.names,y.2≠.cell)(h:∀y∈scope.names,y.2=.free->scope.names.lookup y.1=some .free)(j:∀y∈scope.names,y.2=.local->scope.names.lookup y.1=some .local)(hfr:∀y∈scope.names,y.2=.free->X.env.kindOf y.1=some .cell\/X.env.kindOf y.1=some .free)(b:og X.N N' aj scope)(hi:PI X tg iter wi)(hg:∀a C s₀ H₀ ex,PG (eD X scope N' a C s₀ H₀ ex) tg g)(l:∀a C s₀ H₀ ex,i0 (eD X scope N' a C s₀ H₀ ex) aF tc)(o:∀a C s₀ H₀ ex,PE (eD X scope N' a C s₀ H₀ ex) aS te)(p:∀x,foldedSetIterable iter X.env x=pure x)(q:X.N.Nodup)(d:X.N[i]?=some x)(hx:Loc X.env.scope x)(r:X.fn x=true\/X.env.scope.names.lookup x=some .local)(s:swapsWith (.ListComp aS [⟨tg,iter,aF,0⟩] scope pos) (some (.Name x az)) f.line X.env=pure true):PS X (.Assign [.Name x az] (.ListComp aS [⟨tg,iter,aF,0⟩] scope pos) f) (io (ki wi aj g tc te) (zQ i)):=
 LK hc hk (fun y hy e=>absurd e (c y hy)) h j hfr b hi (fun a C s₀ H₀ ex=>oh (X:=X) (N':=N') c a C s₀ H₀ ex▸hg a C s₀ H₀ ex) (fun a C s₀ H₀ ex=>oh (X:=X) (N':=N') c a C s₀ H₀ ex▸l a C s₀ H₀ ex) (fun a C s₀ H₀ ex=>oh (X:=X) (N':=N') c a C s₀ H₀ ex▸o a C s₀ H₀ ex) p q d hx r s
end
section
variable{X:Cx}{scope:Scope}{aj:List (Option Nat)}{tg iter aS:Expr}{aF:List Expr}{wi:TI}{g:TG}{tc:TT}{te:TE}{pos:Pos}
def mH{i:Nat}{x:Str}{az d:Pos}(e:X.N.Nodup)(c:X.N[i]?=some x)(hx:Loc X.env.scope x)(N N':List Str)(aj:List (Option Nat))(hi:PI X tg iter wi)(hg:∀a C s₀ H₀ ex,PG (eD X scope N' a C s₀ H₀ ex) tg g)(f:∀a C s₀ H₀ ex,i0 (eD X scope N' a C s₀ H₀ ex) aF tc)(h:∀a C s₀ H₀ ex,PE (eD X scope N' a C s₀ H₀ ex) aS te)(hc:X.calm=true:=by rfl)(hk:scope.kind=.function:=by rfl)(j:∀y∈scope.names,y.2≠.cell:=by decide +kernel)(l:∀y∈scope.names,y.2=.free->scope.names.lookup y.1=some .free:=by decide +kernel)(o:∀y∈scope.names,y.2=.local->scope.names.lookup y.1=some .local:=by decide +kernel)(hfr:∀y∈scope.names,y.2=.free->X.env.kindOf y.1=some .cell\/X.env.kindOf y.1=some .free)(p:X.N=N:=by rfl)(b:jl N N' aj scope=true:=by decide +kernel)(q:∀x,foldedSetIterable iter X.env x=pure x:=by intro _;rfl)(r:X.fn x=true\/X.env.scope.names.lookup x=some .local:=by first|exact .inl rfl|exact .inr rfl|assumption)(s:swapsWith (.ListComp aS [⟨tg,iter,aF,0⟩] scope pos) (some (.Name x az)) d.line X.env=pure true:=by rfl):PS X (.Assign [.Name x az] (.ListComp aS [⟨tg,iter,aF,0⟩] scope pos) d) (io (ki wi aj g tc te) (zQ i)):=
 LN hc hk j l o hfr (G9 (by rw[p];exact b)) hi hg f h q e c hx r s
end
end L2
end
section
namespace K24
open PySem L2
abbrev vp:Stmt:=top 7
abbrev kn:Stmt:=top 8
abbrev vr:Stmt:=top 9
def cR:A7 "len"=some (.builtin "len"):=δ
def oM:A7 "all"=some (.builtin "all"):=δ
abbrev Rws(H:Hp)(rs:List Addr)(tb:Ξ):Prop:=Paired (fun a ns=>H a=some (.lst (ns.map V.int))) rs tb
def wid(tb:Ξ):Nat:=(tb[0]?.map List.length).getD 0
def cH(tb:Ξ):Bool:=decide (tb.length<=40)&&decide (wid tb<=40)&&tb.all fun r=>decide (r.length=wid tb)
def Rws.same{H H2:Hp}{rs:List Addr}{tb:Ξ}(h:Rws H rs tb)(s:Same H H2):Rws H2 rs tb:=Paired.mapP h fun _ _ e=>s _ _ e
def Rws.len{H:Hp}{rs:List Addr}{tb:Ξ}(h:Rws H rs tb):rs.length=tb.length:=by
 induction h with
 |nil=>rfl
 |cons _ _ ih=>rw[AH,AH,ih]
def Rws.get{H:Hp}{rs:List Addr}{tb:Ξ}(h:Rws H rs tb):∀{j:Nat}{a:Addr},rs[j]?=some a->∃ns,tb[j]?=some ns/\H a=some (.lst (ns.map V.int)):=by
 induction h with
 |nil=>intro j a e;simp at e
 |cons r t ih=>
  intro j a e;cases j with
  |zero=>simp at e;subst e;exact⟨_,rfl,r⟩
  |succ j=>simpa using ih (by simpa using e)
def zA{n:Nat}(h:n<=100000):n<=sizeLine:=by rw[sizeLine_eq];(first|lia|omega)
def take_snoc{a:Type}{l:List a}{i:Nat}{x:a}(h:l[i]?=some x):l.take (i+1)=l.take i++[x]:=by rw[List.take_add_one,h];rfl
abbrev Ei(K:Ag):List V->Hp->VK->Prop:=fun xs H Q=>∃p ys,xs=[.ref p]/\(SqL K H p ys\/SqT K H p ys)/\Q (.int ys.length) H
def kw{b:List Addr}{i:Nat}{x:V}(h:(b.map V.ref)[i]?=some x):∃a,b[i]?=some a/\x=.ref a:=by
 rw[Aj] at h;cases e:b[i]? with
 |none=>rw[e] at h;cases h
 |some a=>rw[e] at h;cases h;exact⟨a,rfl,rfl⟩
section
variable{P:Program}{w:World}{K:Ag}{mg:Str->Option Value}{base:Heap}
def ky{H2:Hp}{L D:Addr}{rs:List Addr}{tb:Ξ}{Q:VK}{f:Type}{mkV:f->V}{g:List Int->f}{te:TE}{c:List (Option V)}(u:∀(o:Addr)(os:List Int)(H:Hp)(R:VK),Same H2 H->H o=some (.lst (os.map V.int))->os∈tb->(∀H',Same H H'->R (mkV (g os)) H')->te (some (.ref o)::c) H R)(w:SqL K H2 L (rs.map V.ref))(h:Rws H2 rs tb)(hz:tb.length<=1000)(i:H2 D=none)(k:∀b,Same H2 b->b D=some (.lst ((tb.map g).map mkV))->Q (.ref D) b):dr (gt K L) (zQ 0) bE te (none::c) H2 D Q:=by
 have r:=h.len;refine mB (xs:=rs.map V.ref) (fun j σ ys b=>∃(v:Option V),σ=v::c/\Same H2 b/\b D=some (.lst ys)/\ys=((tb.take j).map g).map mkV) ?_ ?_ ?_ ?_
 ·exact⟨none,rfl,Same.new i,ac,rfl⟩
 ·rintro j σ ys b ⟨v,rfl,sm,a,rfl⟩
  exact sm.seq w
 ·rintro j σ ys b x hx l hy ⟨v,rfl,sm,a,rfl⟩
  obtain⟨o,p,rfl⟩:=kw hx;obtain⟨os,e,q⟩:=h.get p;have s:(rs.map V.ref).length<=sizeLine:=by rw[Aa];exact zA (by lia)
  refine dy ?_;refine u o os b _ sm (sm _ _ q) (An e) fun y d=>b6 s l hy (d _ _ a) ⟨_,rfl,(sm.trans d).then i,ac,?_⟩;rw[take_snoc e,AD,AD]
  rfl
 ·rintro σ ys b ⟨v,rfl,sm,a,rfl⟩
  rw[Aa,r,Ax (Ad _)] at a;exact k b sm a
def mI(K:Ag):Sp:=fun vs H Q _=>∃L rs tb,vs=[.ref L]/\SqL K H L (rs.map V.ref)/\Rws H rs tb/\Q (.int (wid tb)) H
def LO:zo ["table"] ["table"] (zf kn):=⟨rfl,rfl,rfl,δ,rfl,δ,δ⟩
def Ej{f:Addr}{fd:FuncData}(F:Fun K "width_of" "width_of" kn f fd)(bl:mg "len"=none):ah P w K mg base au 1 f fd ["table"] (mI K):=by
 refine F.ok LO (fun vs H Q E h=>?_) (fun l A outer s H vs Q E hr h=>?_)
 ·obtain⟨L,rs,tb,rfl,_⟩:=h;rfl
 ·obtain⟨L,rs,tb,rfl,c,d,k⟩:=h
  refine⟨_,zh (zq (lj (zr iZ (zn zk rfl bl cR (za (pv 0) zb)) zd (ap _)) (zn zk rfl bl cR (za (zw zx (pv 0) zd (fun _ _=>rfl)) zb)) zd)),?_⟩;refine⟨_,rfl,L,_,rfl,.inl c,_,_,rfl,rfl,_,rfl,?_⟩;have i:=d.len;refine e_ (fun h1=>?_) (fun h1=>?_)
  ·cases rs with
   |nil=>have:=of_decide_eq_true h1;simp at this
   |cons a r=>
    obtain⟨ns,e,g⟩:=d.get (j:=0) rfl;refine⟨_,rfl,L,_,_,_,rfl,rfl,c,zi (j:=0) rfl,a,_,rfl,.inl (SqL.of g),?_⟩;have:wid tb=ns.length:=by unfold wid;rw[e];rfl
    rw[this] at k;rw[Aa];exact k
  ·cases rs with
   |cons a r=>have:=of_decide_eq_false (Bool.eq_false_iff.mpr h1);simp at this
   |nil=>
    cases tb with
    |nil=>exact k
    |cons a b=>cases i
def G_(K:Ag):Sp:=fun vs H Q _=>∃L rs tb,vs=[.ref L]/\SqL K H L (rs.map V.ref)/\Rws H rs tb/\tb.length<=1000/\∀H',Same H H'->Q (.bl (cH tb)) H'
def LP:zo ["table"] ["table"] (zf vp):=⟨rfl,rfl,rfl,δ,rfl,δ,δ⟩
abbrev Ek(K:Ag):TE:=cy F' (oe (Ei K) (zZ (ar 0) bD)) (eX (mI K) [] E0 (zZ (ar 1) bD))
def LQ{f d:Addr}{fd j:FuncData}(F:Fun K "is_table" "is_table" vp f fd)(bl:mg "len"=none)(J:mg "all"=none){M tc:Tok}(N:mg "MOST_ROWS"=some (.int 40 M))(O:mg "MOST_COLUMNS"=some (.int 40 tc))(Fw:Fun K "width_of" "width_of" kn d j)(p:Binds K j ["table"] [])(q:mg "width_of"=some (.ref d)):ah P w K mg base au 2 f fd ["table"] (G_ K):=by
 have u:ah P w K mg base au 1 d j ["table"] (mI K):=Ej Fw bl;refine F.ok LP (fun vs H Q E h=>?_) (fun T A outer s H vs Q E hr h=>?_)
 ·obtain⟨L,rs,tb,rfl,_⟩:=h;rfl
 ·obtain⟨L,rs,tb,rfl,a,b,hz,k⟩:=h
  refine⟨_,zc (cv (PW.pt (gb (zr iZ (zn zk rfl bl cR (za (pv 0) zb)) (FY (v:=.int 40) rfl N ⟨_,rfl⟩) (ap _))
    (kh (zr iZ (ze u hr rfl q Fw.kp p .nil af (za (pv 0) zb)) (FY (v:=.int 40) rfl O ⟨_,rfl⟩) (ap _))))) (zh (zq fH)) zI)
   (zh (zq (zn (ol rfl) rfl J oM (za (zz ["table"] ["row","table"] [none,some 0] (zO (pv 0)) (fun l C s₀ H₀ ex=>zm (i:=0) (bC ["row","table"]) rfl (Or.inl rfl)) (fun l C s₀ H₀ ex=>zB)
    (fun l C s₀ H₀ ex=>hH dO (zn zk rfl bl cR (za (pv 0) zb)) (ze u hr rfl q Fw.kp p .nil af (za (pv 1) zb)) (ap _)) (te:=Ek K) (hfr:=a9 (zf vp) δ)) zb)))),?_⟩
  have I:=b.len;refine⟨_,rfl,L,_,rfl,.inl a,_,_,rfl,rfl,_,rfl,?_⟩;rw[Aa,I]
  by_cases c1:40<tb.length
  ·rw[decide_eq_true (show(40:Int)<(tb.length:Int) from ω)]
   refine aR (aR ?_);have:cH tb=false:=by unfold cH;rw[decide_eq_false ω];rfl
   rw[this] at k;exact k H (Same.refl H)
  rw[decide_eq_false (show ¬(40:Int)<(tb.length:Int) from ω)];refine aI ⟨_,rfl,L,rs,tb,rfl,a,b,_,_,rfl,rfl,_,rfl,?_⟩
  by_cases U:40<wid tb
  ·rw[decide_eq_true (show(40:Int)<(wid tb:Int) from ω)]
   refine aR ?_;have:cH tb=false:=by unfold cH;rw[decide_eq_false (show ¬wid tb<=40 from ω),Bool.and_false];rfl
   rw[this] at k;exact k H (Same.refl H)
  rw[decide_eq_false (show ¬(40:Int)<(wid tb:Int) from ω)];refine aI ⟨_,rfl,L,rfl,⟨_,a⟩,fun D x=>?_⟩;refine zD (ky (mkV:=V.bl) (g:=fun r=>decide (r.length=wid tb)) (fun o os H' R sm y _ z=>?_) a b hz x fun S G c=>?_)
  ·refine⟨_,rfl,o,_,rfl,.inl (SqL.of y),_,rfl,L,rs,tb,rfl,sm.seq a,b.same sm,rfl,?_⟩
   rw[Aa];have:=z H' (Same.refl H');rw[show decide (V.int (os.length:Int)=V.int (wid tb:Int))=decide (os.length=wid tb) from by rw[Bool.eq_iff_iff];simp;(first|lia|omega)];exact this
  ·refine⟨D,_,rfl,SqL.of c,?_⟩
   have e:cH tb=(tb.map fun r=>decide (r.length=wid tb)).all id:=by
    unfold cH;rw[decide_eq_true (show tb.length<=40 from ω),decide_eq_true (show wid tb<=40 from ω),List.all_map];rfl
   rw[e] at k;exact k S G
end
abbrev oQ:Stmt:=top 10
abbrev vu:Stmt:=top 11
abbrev oT:Stmt:=top 12
abbrev oW:Stmt:=top 13
abbrev iz:Stmt:=top 14
section
variable{P:Program}{w:World}{K:Ag}{mg:Str->Option Value}{base:Heap}
def LR:zo ["table"] ["table"] (zf vr):=⟨rfl,rfl,rfl,δ,rfl,δ,δ⟩
end
def Rws.upd{H:Hp}{ds:List Addr}{tb:Ξ}{D:Addr}{o:HO}(h:Rws H ds tb):(∀d∈ds,d≠D)->Rws (upd H D o) ds tb:=by
 induction h with
 |nil=>intro _;exact .nil
 |cons r t ih=>intro n;exact .cons (by rw[al (n _ (AM))];exact r) (ih fun d hd=>n d (AJ _ hd))
def Rws.snoc{H:Hp}{ds:List Addr}{tb:Ξ}{d:Addr}{ns:List Int}(h:Rws H ds tb)(e:H d=some (.lst (ns.map V.int))):Rws H (ds++[d]) (tb++[ns]):=by
 induction h with
 |nil=>exact .cons e .nil
 |cons r t ih=>exact .cons r ih
def Rws.there{H:Hp}{ds:List Addr}{tb:Ξ}(h:Rws H ds tb):∀d∈ds,H d≠none:=by
 induction h with
 |nil=>intro d hd;cases hd
 |cons r t ih=>
  intro d hd;rcases List.mem_cons.mp hd with rfl|hd
  ·rw[r];simp
  ·exact ih d hd
section
variable{P:Program}{w:World}{K:Ag}{mg:Str->Option Value}{base:Heap}
def El{H2 c p:Hp}{D d:Addr}{ds:List Addr}{l:Ξ}{ns:List Int}(sm:Same H2 c)(hr:Rws c ds l)(s:ds.Nodup)(u:∀e∈ds,H2 e=none/\e≠D)(v:Same c p)(hd:c d=none)(j:c D≠none)(w:p d=some (.lst (ns.map V.int))){o:HO}:Rws (L2.upd p D o) (ds++[d]) (l++[ns])/\(ds++[d]).Nodup/\∀e∈ds++[d],H2 e=none/\e≠D:=by
 have g:H2 d=none:=by
  cases q:H2 d with
  |none=>rfl
  |some o=>rw[sm _ _ q] at hd;cases hd
 have i:d≠D:=fun z=>j (z▸hd);have all:∀e∈ds++[d],H2 e=none/\e≠D:=fun e f=>by
  rcases List.mem_append.mp f with h|h
  ·exact u e h
  ·obtain rfl:e=d:=by simpa using h
   exact⟨g,i⟩
 refine⟨((hr.same v).snoc w).upd fun e f=>(all e f).2,?_,all⟩;rw[List.nodup_append];refine⟨s,by simp,fun a r b hb=>?_⟩;obtain rfl:b=d:=by simpa using hb
 intro z;exact hr.there a r (z▸hd)
def vv{H2:Hp}{L D:Addr}{rs:List Addr}{tb:Ξ}{Q:VK}{g:List Int->List Int}{te:TE}{c:List (Option V)}(A:∀(o:Addr)(os:List Int)(H:Hp)(R:VK),Same H2 H->H o=some (.lst (os.map V.int))->os∈tb->(∀d H',Same H H'->H d=none->H' d=some (.lst ((g os).map V.int))->R (.ref d) H')->te (some (.ref o)::c) H R)(C:SqL K H2 L (rs.map V.ref))(l:Rws H2 rs tb)(hz:tb.length<=1000)(p:H2 D=none)(k:∀a ds,Same H2 a->a D=some (.lst (ds.map V.ref))->Rws a ds (tb.map g)->ds.Nodup->(∀d∈ds,H2 d=none/\d≠D)->Q (.ref D) a):dr (gt K L) (zQ 0) bE te (none::c) H2 D Q:=by
 have y:=l.len;refine mB (xs:=rs.map V.ref) (fun j σ ys a=>∃(v:Option V)(ds:List Addr),σ=v::c/\Same H2 a/\a D=some (.lst ys)/\ys=ds.map V.ref/\Rws a ds ((tb.take j).map g)/\ds.Nodup/\∀d∈ds,H2 d=none/\d≠D) ?_ ?_ ?_ ?_
 ·exact⟨none,[],rfl,Same.new p,ac,rfl,.nil,.nil,fun d hd=>by cases hd⟩
 ·rintro j σ ys a ⟨v,ds,rfl,sm,_⟩
  exact sm.seq C
 ·rintro j σ ys a x hx r hy ⟨v,ds,rfl,sm,b,rfl,hr,f,h⟩
  obtain⟨o,s,rfl⟩:=kw hx;obtain⟨os,i,u⟩:=l.get s;have z:(rs.map V.ref).length<=sizeLine:=by rw[Aa];exact zA ω
  refine dy ?_;refine A o os a _ sm (sm _ _ u) (An i) fun d E e hd q=>?_;obtain⟨r1,r2,w⟩:=El (D:=D) (o:=.lst (ds.map V.ref++[.ref d])) sm hr f h e hd (by rw[b];simp) q;refine b6 z r hy (e _ _ b) ⟨_,ds++[d],rfl,(sm.trans e).then p,ac,by simp,?_,r2,w⟩;rw[take_snoc i,AD];exact r1
 ·rintro σ ys a ⟨v,ds,rfl,sm,b,rfl,hr,f,h⟩
  rw[Aa,y,Ax (Ad _)] at hr;exact k a ds sm b hr f h
def Em{H2:Hp}{D:Addr}{n:Nat}{Q:VK}{g:Nat->List Int}{te:TE}{c:List (Option V)}(s:∀(j:Nat)(H:Hp)(R:VK),j<n->Same H2 H->(∀d H',Same H H'->H d=none->H' d=some (.lst ((g j).map V.int))->R (.ref d) H')->te (some (.int j)::c) H R)(hz:n<=1000)(p:H2 D=none)(k:∀a ds,Same H2 a->a D=some (.lst (ds.map V.ref))->Rws a ds ((Ah n).map g)->ds.Nodup->(∀d∈ds,H2 d=none/\d≠D)->Q (.ref D) a):dr (iY 0 n) (zQ 0) bE te (none::c) H2 D Q:=by
 refine Cp (fun j σ ys a=>∃(v:Option V)(ds:List Addr),σ=v::c/\Same H2 a/\a D=some (.lst ys)/\ys=ds.map V.ref/\Rws a ds (((Ah n).take j).map g)/\ds.Nodup/\∀d∈ds,H2 d=none/\d≠D) ?_ ?_ ?_
 ·exact⟨none,[],rfl,Same.new p,ac,rfl,.nil,.nil,fun d hd=>by cases hd⟩
 ·rintro j σ ys a h hy ⟨v,ds,rfl,sm,b,rfl,hr,i,l⟩
  have e:(Ah n)[j]?=some j:=AK h;refine dy ?_;rw[show(0:Int)+((j:Nat):Int)=((j:Nat):Int) from ω];refine s j a _ h sm fun d u f hd q=>?_;obtain⟨r1,r2,r⟩:=El (D:=D) (o:=.lst (ds.map V.ref++[.ref d])) sm hr i l f hd (by rw[b];simp) q;refine b6 (zA ω) h hy (f _ _ b) ⟨_,ds++[d],rfl,(sm.trans f).then p,ac,by simp,?_,r2,r⟩;rw[take_snoc e,AD];exact r1
 ·rintro σ ys a ⟨v,ds,rfl,sm,b,rfl,hr,i,l⟩
  rw[Ax (by simp)] at hr;exact k a ds sm b hr i l
def colAt(tb:Ξ)(k:Nat):List Int:=tb.map fun r=>r.getD k 0
def En(K:Ag):Sp:=fun vs H Q _=>∃L rs tb,∃k:Nat,vs=[.ref L,.int k]/\SqL K H L (rs.map V.ref)/\Rws H rs tb/\tb.length<=1000/\(∀r∈tb,k<r.length)/\∀D H',Same H H'->H D=none->H' D=some (.lst ((colAt tb k).map V.int))->Q (.ref D) H'
def LU:zo ["table","k"] ["table","k"] (zf iz):=⟨rfl,rfl,rfl,δ,rfl,δ,δ⟩
def LV{f:Addr}{fd:FuncData}(F:Fun K "column_of" "column_of" iz f fd):ah P w K mg base au 1 f fd ["table","k"] (En K):=by
 refine F.ok LU (fun vs H Q E h=>?_) (fun z A outer s H vs Q E hr h=>?_)
 ·obtain⟨L,rs,tb,i,rfl,_⟩:=h;rfl
 ·obtain⟨L,rs,tb,i,rfl,e,x,hz,hi,k⟩:=h
  refine⟨_,zh (zq (zz ["table","k"] ["row","k"] [none,some 1] (zO (pv 0)) (fun c C s₀ H₀ ex=>zm (i:=0) (bC ["row","k"]) rfl (Or.inl rfl)) (fun c C s₀ H₀ ex=>zB)
   (fun c C s₀ H₀ ex=>zw zx (pv 0) (pv 1) (fun _ _=>rfl)) (te:=cy (gA K) (ar 0) (ar 1)) (hfr:=a9 (zf iz) δ))),?_⟩
  refine⟨_,rfl,L,rfl,⟨_,e⟩,fun D d=>?_⟩;refine zD (ky (mkV:=V.int) (g:=fun r=>r.getD i 0) (fun o os H' R sm l p q=>?_) e x hz d fun y u b=>k D y u d b);have a:=hi os p;refine⟨_,rfl,_,rfl,o,_,_,_,rfl,rfl,SqL.of l,zi (j:=i) (v:=V.int (os.getD i 0)) ?_,q H' (Same.refl H')⟩;rw[Aj,Ab a,Ac,Ab a]
  rfl
end
def turn(tb:Ξ):Ξ:=(Ah (wid tb)).map (colAt tb)
def h_{tb:Ξ}(h:cH tb=true):tb.length<=40/\wid tb<=40/\∀r∈tb,r.length=wid tb:=by
 unfold cH at h;simp only[Bool.and_eq_true,decide_eq_true_eq,Be] at h;exact⟨h.1.1,h.1.2,h.2⟩
section
variable{P:Program}{w:World}{K:Ag}{mg:Str->Option Value}{base:Heap}
def Ct(H:Hp)(Q:VK)(tb:Ξ):Prop:=∀D H' ds,Same H H'->H D=none->H' D=some (.lst (ds.map V.ref))->Rws H' ds tb->ds.Nodup->(∀d∈ds,H d=none/\d≠D)->Q (.ref D) H'
def Eo(K:Ag):Sp:=fun vs H Q _=>∃L rs tb,∃n:Nat,vs=[.ref L,.int n]/\SqL K H L (rs.map V.ref)/\Rws H rs tb/\tb.length<=1000/\n<=1000/\(∀r∈tb,n<=r.length)/\Ct H Q ((Ah n).map (colAt tb))
def LW:zo ["table","width"] ["table","width"] (zf oW):=⟨rfl,rfl,rfl,δ,rfl,δ,δ⟩
def LX{f c:Addr}{fd e:FuncData}(F:Fun K "columns_to" "columns_to" oW f fd)(M:mg "range"=none)(Fc:Fun K "column_of" "column_of" iz c e)(N:Binds K e ["table","k"] [])(O:mg "column_of"=some (.ref c)):ah P w K mg base au 2 f fd ["table","width"] (Eo K):=by
 have U:ah P w K mg base au 1 c e ["table","k"] (En K):=LV Fc;refine F.ok LW (fun vs H Q E h=>?_) (fun W A outer s H vs Q E hr h=>?_)
 ·obtain⟨L,rs,tb,n,rfl,_⟩:=h;rfl
 ·obtain⟨L,rs,tb,n,rfl,G,I,hz,p,J,k⟩:=h
  refine⟨_,zh (zq (zz ["table","width"] ["k","table"] [none,some 0] (jc rfl M (za (pv 1) zb)) (fun l C s₀ H₀ ex=>zm (i:=0) (bC ["k","table"]) rfl (Or.inl rfl)) (fun l C s₀ H₀ ex=>zB)
   (fun l C s₀ H₀ ex=>ze U hr rfl O Fc.kp N .nil af (za (pv 1) (za (pv 0) zb))) (te:=eX (En K) [] E0 (zZ (ar 1) (zZ (ar 0) bD))) (hfr:=a9 (zf oW) δ))),?_⟩
  refine⟨_,rfl,_,rfl,ω,ω,fun D o=>?_⟩;refine Em (n:=n) (g:=colAt tb) (fun j H' R q sm u=>⟨_,rfl,_,rfl,L,rs,tb,j,rfl,sm.seq G,I.same sm,ω,fun r hr=>Az q (J r hr),fun d S v hd x=>u d S v hd x⟩) ω o fun T ds y a b z p=>k D T ds y o a b z p
def Cu(K:Ag):Sp:=fun vs H Q _=>∃L rs tb,vs=[.ref L]/\SqL K H L (rs.map V.ref)/\Rws H rs tb/\cH tb=true/\Ct H Q (turn tb)
def LY:zo ["table"] ["table"] (zf oT):=⟨rfl,rfl,rfl,δ,rfl,δ,δ⟩
def LZ{f b c:Addr}{fd d e:FuncData}(F:Fun K "columns_of" "columns_of" oT f fd)(bl:mg "len"=none)(Fc:Fun K "columns_to" "columns_to" oW b d)(o:Binds K d ["table","width"] [])(p:mg "columns_to"=some (.ref b))(x:ah P w K mg base au 2 b d ["table","width"] (Eo K))(Fw:Fun K "width_of" "width_of" kn c e)(q:Binds K e ["table"] [])(u:mg "width_of"=some (.ref c)):ah P w K mg base au 3 f fd ["table"] (Cu K):=by
 have v:ah P w K mg base au 1 c e ["table"] (mI K):=Ej Fw bl;refine F.ok LY (fun vs H Q E h=>?_) (fun y A outer s H vs Q E hr h=>?_)
 ·obtain⟨L,rs,tb,rfl,_⟩:=h;rfl
 ·obtain⟨L,rs,tb,rfl,g,i,j,k⟩:=h
  obtain⟨z,C,l⟩:=h_ j;have a:Room 1 _:=hr.mono ξ;refine⟨_,zh (zq (ze x hr rfl p Fc.kp o .nil af (za (pv 0) (za (ze v a rfl u Fw.kp q .nil af (za (pv 0) zb)) zb)))),?_⟩;exact⟨_,rfl,_,rfl,L,rs,tb,rfl,g,i,L,rs,tb,wid tb,rfl,g,i,ω,ω,fun r hr=>by rw[l r hr];exact Ad _,k⟩
end
end K24
end
section
namespace L2
open PySem PySem.Spec PyProof.Rows
def ey(K:Ag)(a b:Addr):It:=
 ⟨fun i H=>∃xs ys,SqL K H a xs/\SqL K H b ys/\i<min xs.length ys.length,
  fun i H v H'=>∃p x y,v=.ref p/\H p=none/\H'=upd H p (.tup [x,y])/\(∀xs,SqL K H a xs->xs[i]?=some x)/\∀ys,SqL K H b ys->ys[i]?=some y,
  fun i H=>∃xs ys,SqL K H a xs/\SqL K H b ys/\i=min xs.length ys.length⟩
def L0{P:Program}{w:World}{K:Ag}{aG:List Expr}{k:Nat}{pos:Pos}(C D z TI TO i1 i2:Addr)(hd:TI≠z/\TO≠z/\TI≠TO/\TI≠i1/\TI≠i2/\z≠i1/\z≠i2/\TO≠i1/\TO≠i2/\i1≠i2):Turn P w K (.Tuple aG k pos) (ey K C D) [z,TI,TO,i1,i2] z (fun i h=>IsZip h z TI TO .none/\IsPair h TI (.ref i1) (.ref i2)/\(∃a b,IsPair h TO a b)/\h.IsListIter i1 C i/\h.IsListIter i2 D i):=by
 obtain⟨d1,d2,d3,d4,d5,d6,d7,d8,d9,O⟩:=hd;refine Ed (wr:=[z,TO,i1,i2]) (by simp) (fun i h st b hb=>?_) (fun i h h' st c=>?_) (fun b hb=>?_) (fun X Z hw hK hc i aa s σ H I N st iM=>?_) fun A i s Q E st h=>wpAny_pyIter_zip st.1 h
 ·obtain⟨a1,a2,⟨a,b',a3⟩,⟨o4,a4,_,F⟩,⟨o5,a5,_,e5⟩⟩:=st
  simp at hb;rcases hb with rfl|rfl|rfl|rfl|rfl
  ·exact⟨_,a1,fun v z=>by cases z⟩
  ·exact⟨_,a2,fun v z=>by cases z⟩
  ·exact⟨_,a3,fun v z=>by cases z⟩
  ·exact⟨_,a4,fun v z=>by rw[F] at z;cases z⟩
  ·exact⟨_,a5,fun v z=>by rw[e5] at z;cases z⟩
 ·obtain⟨a1,a2,⟨a,b',a3⟩,a4,a5⟩:=st
  exact⟨c z (by simp) _ a1,c TI (by simp) _ a2,⟨a,b',c TO (by simp) _ a3⟩,a4.at fun o e=>c i1 (by simp) o e,a5.at fun o e=>c i2 (by simp) o e⟩
 ·simp at hb ⊢
  rcases hb with rfl|rfl|rfl|rfl<;>simp
 ·subst Z hw hK
  have hd:∃xs ys,SqL X.K H C xs/\SqL X.K H D ys:=by
   rcases iM with ⟨xs,ys,a,b,_⟩|⟨xs,ys,a,b,_⟩
   ·exact⟨xs,ys,a,b⟩
   ·exact⟨xs,ys,a,b⟩
  obtain⟨xs,ys,d,l⟩:=hd;obtain⟨us,r1,p1,_⟩:=I.list d;obtain⟨ws,r2,p2,_⟩:=I.list l;have S:=r1.length;have T:=r2.length;have U:=I.ok.hd hc;obtain⟨a1,a2,a3,a4,a5⟩:=st;have f:=fun b hb=>Ec I (N b hb) d;have G:=fun b hb=>Ec I (N b hb) l;have AP:Zp.Apart z TI TO i1 i2 [i1,C] [i2,D]:=by
   refine⟨?_,?_,?_,?_,by simp,by simp,?_,?_,d1,d2,d3,d4,d5⟩
   ·simp;exact⟨d6,(f z (by simp)).symm⟩
   ·simp;exact⟨d7,(G z (by simp)).symm⟩
   ·simp;exact⟨d8,(f TO (by simp)).symm⟩
   ·simp;exact⟨d9,(G TO (by simp)).symm⟩
   ·simp;exact⟨O,(G i1 (by simp)).symm⟩
   ·simp;exact⟨O.symm,(f i2 (by simp)).symm⟩
  have WZ:=Zp.GV (prog:=X.prog) (w:=X.w) (A:=X.A) (Draws.list (A:=X.A.in1) U i1 C (f i1 (by simp)) us.toArray) (Draws.list (A:=X.A.in1) U i2 D (G i2 (by simp)) ws.toArray) AP;refine⟨_,_,_,_,_,WZ,⟨a1,a2,a3,⟨a4,p1.isList⟩,⟨a5,p2.isList⟩⟩,fun j h st=>⟨st.1,st.2.1,st.2.2.1,st.2.2.2.1.1,st.2.2.2.2.1⟩,fun g=>?_,fun g=>?_⟩
  ·obtain⟨q,r,J,L,hi⟩:=g
   have e1:=I.list_inj J d;have e2:=I.list_inj L l;subst e1 e2;refine⟨by simpa[<-S,<-T] using hi,fun aD hp=>?_⟩;obtain⟨x,y,px,py,rfl⟩:=hp;have iQ:us[i]?=some x:=by simpa using px
   have M:ws[i]?=some y:=by simpa using py
   have lx:i<q.length:=by lia
   have ly:i<r.length:=by lia
   have W:q[i]?=some q[i]:=by simp[lx]
   have Y:r[i]?=some r[i]:=by simp[ly]
   obtain⟨u,e3,ru⟩:=r1.get W;obtain⟨u',F,cA⟩:=r2.get Y;rw[iQ] at e3;cases e3;rw[M] at F;cases F;refine⟨[q[i],r[i]],.cons ru (.cons cA .nil),du,fun p hp=>⟨p,_,_,rfl,hp,rfl,fun zs hz=>?_,fun zs hz=>?_⟩⟩
   ·rw[I.list_inj hz d];exact W
   ·rw[I.list_inj hz l];exact Y
  ·obtain⟨q,r,J,L,hi⟩:=g
   have e1:=I.list_inj J d;have e2:=I.list_inj L l;subst e1 e2
   simpa[<-S,<-T] using hi
def L1(b e:Addr)(xs ys:Array Value):Meets (Builtin.«zip.__new__» ⟨[.type "zip",.ref b,.ref e],[]⟩) (fun _ R s=>s.heap.IsList b xs/\s.heap.IsList e ys/\
   ∀h',IsZip h' (s⁻¹+4) (s⁻¹+2) (s⁻¹+3) .none->IsPair h' (s⁻¹+2) (.ref s⁻¹) (.ref (s⁻¹+1))->
   IsPair h' (s⁻¹+3) .none .none->h'.IsListIter s⁻¹ b 0->h'.IsListIter (s⁻¹+1) e 0->
   (∀c o,s.heap.get? c=some o->h'.get? c=some o)->R (.ok (.ret (.ref (s⁻¹+4)))) {s with heap:=h'}):=
 .of_wp fun prog w A R s h=>by
  obtain⟨hp,g,d,tk,os⟩:=s;obtain⟨f,i,h⟩:=h;have p:=sub_zip;have j:Heap.IsList (Shared.heap ⟨hp,g,d,tk,os⟩) b xs:=f;have l:Heap.IsList (Shared.heap ⟨hp.push {cls:=.type "list_iterator",data:=.fields #[.ref b,.int 0 0]},g,d,tk,os⟩) e ys:=Heap.IsList.push i _
  wp_walk using wpAny_pyIter_list j,wpAny_pyIter_list l
  refine⟨_,rfl,?_⟩;dsimp only at h ⊢;have a:∀(h:Heap)(o:Obj),(h.push o).objs.size=h.objs.size+1:=fun h o=>Heap.size_push ..;simp only[a,Nat.add_assoc,Nat.reduceAdd];refine h _ ?_ ?_ ?_ ?_ ?_ fun c o x=>Ai _ (Ai _ (Ai _ (Ai _ (Ai _ x))))
  ·exact Heap.get?_push_at (by simp only[a]) rfl
  ·exact Ai _ (Ai _ (Heap.get?_push_at (by simp only[a]) rfl))
  ·exact Ai _ (Heap.get?_push_at (by simp only[a]) rfl)
  ·exact⟨_,Ai _ (Ai _ (Ai _ (Ai _ (AL _ rfl)))),rfl,rfl⟩
  ·exact⟨_,Ai _ (Ai _ (Ai _ (Heap.get?_push_at (by simp only[a]) rfl))),rfl,rfl⟩
section
variable{X:Cx}{aG:List Expr}{k:Nat}{cI:Pos}
def L3(K:Ag)(ta:TA):TI:=fun σ H R=>ta σ H fun vs H1=>∃a b,vs=[.ref a,.ref b]/\(∃xs,SqL K H1 a xs)/\(∃ys,SqL K H1 b ys)/\R (ey K a b) H1
def kA{a b:Expr}{ta:TA}{p pos:Pos}(hg:Gl X "zip")(A:X.mg "zip"=none)(hv:A7 "zip"=some (.type "zip"))(C:PA X [a,b] ta)(D:starEach [a,b] X.env=[(false,eval a X.env),(false,eval b X.env)]:=by rfl)(j:starEach [b] X.env=[(false,eval b X.env)]:=by rfl):PI X (.Tuple aG k cI) (.Call (.Name "zip" p) [a,b] [] pos) (L3 X.K ta):=by
 intro aa s σ H R I h;refine Call_ (ke I hg A hv (PyProof.Rows.callWith_type1 (aT (C pos aa s σ H _ I h) fun us c ⟨vs,H1,I1,r1,d⟩=>?_) (by rw[D,j]) (by rw[j];rfl)));obtain⟨f,g,e,⟨xs,d⟩,⟨ys,o⟩,q⟩:=d;subst e;obtain⟨u,G,rfl,r,v⟩:=vals2 r1;cases r;cases v;obtain⟨w,_,x,_⟩:=I1.list d;obtain⟨y,_,p2,_⟩:=I1.list o;refine callType_new F.called_zip ξ (F.typeCall_zip_2 _ _) (F.newCall_zip_2 _ _) (fun obj=>F.args_object_init_3 obj _ _) F.entry_zip_new (L1 f g w.toArray y.toArray) ⟨x.isList,p2.isList,fun h' a1 a2 a3 a4 a5 l=>?_⟩;refine⟨⟨_,a1,rfl⟩,wpAny_pyIter_zip a1 ?_⟩;have E:Inv X aa σ H1 {c with heap:=h'}:=I1.kept (t':=c.toks) l;refine⟨c⁻¹+4,[c⁻¹+4,c⁻¹+2,c⁻¹+3,c⁻¹,c⁻¹+1],_,_,H1,rfl,E,L0 f g _ _ _ _ _ (by refine⟨?_,?_,?_,?_,?_,?_,?_,?_,?_,?_⟩<;>(intro z;have J:(_:Nat)=_:=z;lia)),⟨a1,a2,⟨_,_,a3⟩,a4,a5⟩,fun b hb=>?_,q⟩;have i:c⁻¹<=b:=by
  simp only[List.mem_cons,List.not_mem_nil,or_false] at hb;rcases hb with rfl|rfl|rfl|rfl|rfl
  ·exact A0 _ _
  ·exact A0 _ _
  ·exact A0 _ _
  ·exact Ad _
  ·exact A0 _ _
 exact I1.fpOk i (I1.hok.fresh i)
end
section
variable{K:Ag}{a:Addr}{xs:List V}{g:TG}{tc:TT}{te:TE}{σ:St}{H1:Hp}{Q:VK}{D:Addr}
def Ep{e f:Addr}{ys:List V}(a:Nat->St->List V->Hp->Prop)(q:a 0 σ [] (upd H1 D (.lst [])))(c:∀i σ zs H,a i σ zs H->SqL K H e xs/\SqL K H f ys)(r:∀i σ zs H p x y,xs[i]?=some x->ys[i]?=some y->i<min xs.length ys.length->zs.length<=i->a i σ zs H->H p=none->g (.ref p) σ (upd H p (.tup [x,y])) fun d s=>tc d s fun b h=>if b=true then te d h (gB (min xs.length ys.length) a D i d) else dX (min xs.length ys.length) a i d h)(hd:∀σ zs H,a (min xs.length ys.length) σ zs H->Q (.ref D) H):dr (ey K e f) g tc te σ H1 D Q:=by
 refine uw (min xs.length ys.length) a q (fun σ zs H p=>⟨xs,ys,(c _ _ _ _ p).1,(c _ _ _ _ p).2,rfl⟩) (fun i σ zs H hi p=>⟨xs,ys,(c _ _ _ _ p).1,(c _ _ _ _ p).2,hi⟩) (fun i σ zs H v H' hi hy p y=>?_) hd;obtain⟨pp,x,j,rfl,hp,rfl,l,o⟩:=y;exact r i σ zs H pp x j (l xs (c _ _ _ _ p).1) (o ys (c _ _ _ _ p).2) hi hy p hp
end
def eC(i j:Int):Prop:=∃m n:Nat,i.natAbs<2 ^ m/\j.natAbs<2 ^ n/\m+n<=134217728
def Er(i j:Int):Prop:=0<j/\j.natAbs<2 ^ 9000
section
variable{X:Cx}
def oZ:cV X (binaryOp .Mult) (rI eC fun i j=>.int (i*j)):=n7 fun i j _ _ _ _ _ hc q=>by
 obtain⟨m,n,h1,h2,a⟩:=hc;exact mul_int q (IntMulOk.of_le (intBits_le_iff.mpr h1) (intBits_le_iff.mpr h2) a)
def Cv:cV X (binaryOp .FloorDiv) (rI Er fun i j=>.int (i / j)):=n7 fun i j _ _ _ _ _ hc q=>by
 have h1:(0:Int)<j:=hc.1;refine floordiv_int ω (by rw[Int.fdiv_eq_ediv_of_nonneg i ω];exact q) (.inl (PyProof.noPylong_of_log2 ?_));have a:j.natAbs≠0:=ω
 exact(Nat.log2_lt a).mpr hc.2
end
end L2
namespace K24
open PySem L2
abbrev kL:Stmt:=top 28
abbrev vC:Stmt:=top 31
def ig{ns:List Int}{i:Nat}{x:V}(h:(ns.map V.int)[i]?=some x):∃n,ns[i]?=some n/\x=.int n:=by
 rw[Aj] at h;cases e:ns[i]? with
 |none=>rw[e] at h;cases h
 |some a=>rw[e] at h;cases h;exact⟨a,rfl,rfl⟩
def jm:A7 "zip"=some (.type "zip"):=δ
def dF(rn:List Int)(q:Int)(on:List Int):List Int:=Av (fun a b=>a-q*b) rn on
def a_(p:Int)(rn:List Int)(q:Int)(on:List Int):List Int:=Av (fun a b=>p*a+q*b) rn on
def kO(H:Hp)(Q:VK)(ns:List Int):Prop:=∀D H',Same H H'->H D=none->H' D=some (.lst (ns.map V.int))->Q (.ref D) H'
section
variable{P:Program}{w:World}{K:Ag}{mg:Str->Option Value}{base:Heap}
def vD{H2:Hp}{r o D:Addr}{rn on:List Int}{f:Int->Int->Int}{te:TE}{c:List (Option V)}{Q:VK}(v:∀(a b:Int)(H:Hp)(R:VK),a∈rn->b∈on->R (.int (f a b)) H->te (some (.int a)::some (.int b)::c) H R)(h1:H2 r=some (.lst (rn.map V.int)))(h2:H2 o=some (.lst (on.map V.int)))(n2:on.length<=1000)(s:H2 D=none)(k:∀d,Same H2 d->d D=some (.lst ((Av f rn on).map V.int))->Q (.ref D) d):dr (ey K r o) (bT K 2 (ci (zQ 0) (ci (zQ 1) bR))) bE te (none::none::c) H2 D Q:=by
 refine Ep (K:=K) (xs:=rn.map V.int) (ys:=on.map V.int) (fun i σ zs d=>∃j l,σ=j::l::c/\Same H2 d/\d D=some (.lst zs)/\zs=((Av f rn on).take i).map V.int)
  ⟨none,none,rfl,Same.new s,ac,rfl⟩ (fun i σ zs d ⟨_,_,_,sm,_⟩=>⟨SqL.of (sm _ _ h1),SqL.of (sm _ _ h2)⟩) ?_ ?_
 ·rintro i σ zs d u w x e1 e2 hi hz ⟨j,l,rfl,h,e,rfl⟩ g
  obtain⟨p,g1,rfl⟩:=ig e1;obtain⟨q,g2,rfl⟩:=ig e2;refine⟨u,_,rfl,SqT.of ac,rfl,_,_,rfl,_,_,rfl,rfl,gG ?_⟩;refine v p q _ _ (An g1) (An g2) (b6 (Ae (Nat.min_le_right _ _) (by rw[Aa];exact zA ω)) hi hz (by rw[al (zl e g)];exact e) ⟨_,_,rfl,?_,ac,?_⟩)
  ·exact(h.then (h.free g)).then s
  ·have e3:(Av f rn on)[i]?=some (f p q):=by rw[List.getElem?_zipWith,g1,g2]
   rw[take_snoc e3,AD];rfl
 ·rintro σ zs d ⟨j,l,rfl,h,e,rfl⟩
  refine k d h ?_;rw[e,Ax (by simp)]
def vI:Sp:=fun vs H Q _=>∃r o rn on q,vs=[.ref r,.int q,.ref o]/\H r=some (.lst (rn.map V.int))/\H o=some (.lst (on.map V.int))/\on.length<=1000/\(∀x∈on,eC q x)/\kO H Q (dF rn q on)
def L4:zo ["row","often","other"] ["row","often","other"] (zf kL):=⟨rfl,rfl,rfl,δ,rfl,δ,δ⟩
def L5{f:Addr}{fd:FuncData}(F:Fun K "less" "less" kL f fd)(v:mg "zip"=none):ah P w K mg base au 1 f fd ["row","often","other"] vI:=by
 refine F.ok L4 (fun vs H Q E h=>?_) (fun y A outer s H vs Q E hr h=>?_)
 ·obtain⟨r,o,rn,on,q,rfl,_⟩:=h;rfl
 ·obtain⟨r,o,rn,on,q,rfl,h1,h2,n2,u,k⟩:=h
  refine⟨_,zh (zq (zz ["row","often","other"] ["number","taken","often"] [none,none,some 1] (kA rfl v jm (za (pv 0) (za (pv 2) zb)))
   (fun d C s₀ H₀ ex=>gi rfl (zE (zm (i:=0) (bC ["number","taken","often"]) rfl (Or.inl rfl)) (zE (zm (i:=1) (bC ["number","taken","often"]) rfl (Or.inl rfl)) gg))) (fun d C s₀ H₀ ex=>zB)
   (fun d C s₀ H₀ ex=>zF gu (pv 0) (zF oZ (pv 2) (pv 1))) (te:=cy (g_ fun i j=>.int (i-j)) (ar 0) (cy (rI eC fun i j=>.int (i*j)) (ar 2) (ar 1))) (hfr:=a9 (zf kL) δ) (g:=bT K 2 (ci (zQ 0) (ci (zQ 1) bR))))),?_⟩
  refine⟨_,rfl,_,rfl,r,o,rfl,⟨_,SqL.of h1⟩,⟨_,SqL.of h2⟩,fun D e=>?_⟩;refine zD (vD (f:=fun a b=>a-q*b) (fun a b H' R _ hb l=>?_) h1 h2 n2 e fun x p c=>k D x p e c);exact⟨_,rfl,_,rfl,_,rfl,_,_,rfl,rfl,u b hb,_,_,rfl,rfl,l⟩
def G':Sp:=fun vs H Q _=>∃r o rn on p q,vs=[.int p,.ref r,.int q,.ref o]/\H r=some (.lst (rn.map V.int))/\H o=some (.lst (on.map V.int))/\on.length<=1000/\(∀x∈rn,eC p x)/\(∀x∈on,eC q x)/\kO H Q (a_ p rn q on)
def L6:zo ["often","row","other_often","other"] ["often","row","other_often","other"] (zf vC):=⟨rfl,rfl,rfl,δ,rfl,δ,δ⟩
def L7{f:Addr}{fd:FuncData}(F:Fun K "mix_of_two" "mix_of_two" vC f fd)(z:mg "zip"=none):ah P w K mg base au 1 f fd ["often","row","other_often","other"] G':=by
 refine F.ok L6 (fun vs H Q E h=>?_) (fun I A outer s H vs Q E hr h=>?_)
 ·obtain⟨r,o,rn,on,p,q,rfl,_⟩:=h;rfl
 ·obtain⟨r,o,rn,on,p,q,rfl,h1,h2,n2,x,y,k⟩:=h
  refine⟨_,zh (zq (zz ["often","row","other_often","other"] ["number","beside","often","other_often"] [none,none,some 0,some 2] (kA rfl z jm (za (pv 1) (za (pv 3) zb)))
   (fun d C s₀ H₀ ex=>gi rfl (zE (zm (i:=0) (bC ["number","beside","often","other_often"]) rfl (Or.inl rfl)) (zE (zm (i:=1) (bC ["number","beside","often","other_often"]) rfl (Or.inl rfl)) gg))) (fun d C s₀ H₀ ex=>zB)
   (fun d C s₀ H₀ ex=>zF eU (zF oZ (pv 2) (pv 0)) (zF oZ (pv 3) (pv 1))) (te:=cy (g_ fun i j=>.int (i+j)) (cy (rI eC fun i j=>.int (i*j)) (ar 2) (ar 0)) (cy (rI eC fun i j=>.int (i*j)) (ar 3) (ar 1))) (hfr:=a9 (zf vC) δ) (g:=bT K 2 (ci (zQ 0) (ci (zQ 1) bR))))),?_⟩
  refine⟨_,rfl,_,rfl,r,o,rfl,⟨_,SqL.of h1⟩,⟨_,SqL.of h2⟩,fun D e=>?_⟩;refine zD (vD (f:=fun a b=>p*a+q*b) (fun a b H' R l hb u=>?_) h1 h2 n2 e fun G v c=>k D G v e c);exact⟨_,rfl,_,rfl,_,_,rfl,rfl,x a l,_,rfl,_,rfl,_,_,rfl,rfl,y b hb,_,_,rfl,rfl,u⟩
end
end K24
end
section
namespace Tb
abbrev Vc:=Nat->Int
def cmb:List Int->List Vc->Vc
 |a::c,v::L=>fun u=>a*v u+cmb c L u
 |_,_=>fun _=>0
def allv(p:Nat):Nat->Ξ
 |0=>[[]]
 |n+1=>(allv p n).flatMap fun c=>(Ah p).map fun a:Nat=>(a:Int)::c
def Cw(p:Nat):∀n,(allv p n).length=p ^ n
 |0=>rfl
 |n+1=>by
  have:∀l:Ξ,(l.flatMap fun c=>(Ah p).map fun a:Nat=>(a:Int)::c).length=l.length*p:=by
   intro l
   induction l with
   |nil=>simp
   |cons c l ih=>rw[List.flatMap_cons,AZ,Aa,AY,ih,AH,Nat.add_mul];(first|lia|omega)
  show(((allv p n).flatMap fun c=>(Ah p).map fun a:Nat=>(a:Int)::c)).length=_;rw[this,Cw p n,Nat.pow_succ]
def mL{p:Nat}:∀{n:Nat}{c:List Int},c∈allv p n↔c.length=n/\∀x∈c,0<=x/\x<(p:Int)
 |0,c=>by
  show c∈[[]]↔_;rw[List.mem_singleton];constructor
  ·rintro rfl;exact⟨rfl,fun x hx=>nomatch hx⟩
  ·intro h;exact AG h.1
 |n+1,c=>by
  show c∈(allv p n).flatMap (fun c=>(Ah p).map fun a:Nat=>(a:Int)::c)↔_;rw[List.mem_flatMap];constructor
  ·rintro⟨d,hd,h⟩
   obtain⟨a,b,rfl⟩:=List.mem_map.mp h;obtain⟨h1,h2⟩:=mL.mp hd;have:=List.mem_range.mp b;refine⟨by rw[AH,h1],fun x hx=>?_⟩;rcases List.mem_cons.mp hx with rfl|hx
   ·(first|lia|omega)
   ·exact h2 x hx
  ·rintro⟨h1,h2⟩
   cases c with
   |nil=>simp at h1
   |cons a d=>
    have b:=h2 a (.head _);refine⟨d,mL.mpr ⟨by simpa using h1,fun x hx=>h2 x (.tail _ hx)⟩,List.mem_map.mpr ⟨a.toNat,List.mem_range.mpr ω,?_⟩⟩;rw[Int.toNat_of_nonneg b.1]
def Hf(p:Nat):∀n,(allv p n).Nodup
 |0=>by simp[allv]
 |n+1=>by
  show((allv p n).flatMap fun c=>(Ah p).map fun a:Nat=>(a:Int)::c).Pairwise (·≠·);rw[List.pairwise_flatMap];refine⟨fun c _=>?_,(Hf p n).imp fun{a b} h x hx y hy e=>?_⟩
  ·rw[List.pairwise_map]
   exact List.nodup_range.imp fun h e=>h (by injection e with e;(first|lia|omega))
  ·obtain⟨i,_,rfl⟩:=List.mem_map.mp hx
   obtain⟨j,_,rfl⟩:=List.mem_map.mp hy;injection e with _ e
   exact h e
def fh{g h:Type}(f:g->h):∀(l:List g)(m:List h),l.Nodup->(∀x∈l,f x∈m)->m.length<l.length->∃x∈l,∃y∈l,x≠y/\f x=f y:=by
 intro l m i d j;apply AE;intro no;have inj:∀x∈l,∀y∈l,f x=f y->x=y:=fun x hx y hy e=>AE fun ne=>no ⟨x,hx,y,hy,ne,e⟩;have c:(l.map f).Nodup:=by
  clear d j no
  induction l with
  |nil=>exact List.nodup_nil
  |cons a l ih=>
   rw[A5,List.nodup_cons];obtain⟨h1,h2⟩:=List.nodup_cons.mp i;refine⟨fun z=>?_,ih h2 fun x hx y hy=>inj x (.tail _ hx) y (.tail _ hy)⟩;obtain⟨b,hb,e⟩:=List.mem_map.mp z;exact h1 (inj b (.tail _ hb) a (.head _) e▸hb)
 have:=c.length_le_of_subset (l₂:=m) fun y hy=>by
  obtain⟨x,hx,rfl⟩:=List.mem_map.mp hy;exact d x hx
 rw[Aa] at this;(first|lia|omega)
def Cy:∀(c d:List Int)(L:List Vc),c.length=L.length->d.length=L.length->∀u,cmb (Av (fun a b=>a-b) c d) L u=cmb c L u-cmb d L u
 |c,d,[],h1,h2,u=>by rw[AG h1,AG h2];rfl
 |[],_,_::_,h1,_,_=>by simp at h1
 |_::_,[],_::_,_,h2,_=>by simp at h2
 |a::c,b::d,v::L,h1,h2,u=>by
  show(a-b)*v u+cmb _ L u=a*v u+cmb c L u-(b*v u+cmb d L u);rw[Cy c d L (by simpa using h1) (by simpa using h2),Int.sub_mul];(first|lia|omega)
def fV(k m:Int):∀(c d:List Int)(L:List Vc),c.length=L.length->d.length=L.length->∀u,cmb (Av (fun a b=>k*a+m*b) c d) L u=k*cmb c L u+m*cmb d L u
 |c,d,[],h1,h2,u=>by rw[AG h1,AG h2];show(0:Int)=k*0+m*0;(first|lia|omega)
 |[],_,_::_,h1,_,_=>by simp at h1
 |_::_,[],_::_,_,h2,_=>by simp at h2
 |a::c,b::d,v::L,h1,h2,u=>by
  show(k*a+m*b)*v u+cmb _ L u=k*(a*v u+cmb c L u)+m*(b*v u+cmb d L u);rw[fV k m c d L (by simpa using h1) (by simpa using h2),Int.add_mul,Bg,Bg,AU,AU];(first|lia|omega)
def pa:∀(n:Nat)(L:List Vc)(u:Nat),cmb (Aq n 0) L u=0
 |0,_,_=>rfl
 |n+1,[],_=>rfl
 |n+1,v::L,u=>by show 0*v u+cmb (Aq n 0) L u=0;rw[pa n L u];(first|lia|omega)
def pb{M X:Nat}{u:Nat}:∀(c:List Int)(L:List Vc),(∀x∈c,x.natAbs<=X)->(∀v∈L,(v u).natAbs<=M)->(cmb c L u).natAbs<=L.length*(X*M)
 |[],[],_,_=>by show(0:Int).natAbs<=_;simp
 |[],_::_,_,_=>by show(0:Int).natAbs<=_;simp
 |_::_,[],_,_=>by show(0:Int).natAbs<=_;simp
 |a::c,v::L,h1,h2=>by
  have b:=pb (u:=u) c L (fun x hx=>h1 x (.tail _ hx)) fun w hw=>h2 w (.tail _ hw);have d:(a*v u).natAbs<=X*M:=by rw[AB];exact AQ (h1 a (.head _)) (h2 v (.head _))
  show(a*v u+cmb c L u).natAbs<=(L.length+1)*(X*M);have:=Int.natAbs_add_le (a*v u) (cmb c L u);rw[Nat.add_mul];(first|lia|omega)
def Inj(R:List Vc)(P:List Nat):Prop:=∀c:List Int,c.length=R.length->(∀p∈P,cmb c R p=0)->∀x∈c,x=0
def dE{R:List Vc}{P:List Nat}{M:Nat}(A:1<=M)(q:∀v∈R,∀p∈P,(v p).natAbs<=M)(r:P.length<R.length):∃c:List Int,c.length=R.length/\(∃x∈c,x≠0)/\(∀p∈P,cmb c R p=0)/\∀x∈c,x.natAbs<=(2*R.length*M) ^ P.length:=by
 let j:=R.length
 let X:=(2*j*M) ^ P.length
 have s:1<=j:=by show 1<=R.length;(first|lia|omega)
 have w:1<=2*j*M:=Nat.one_le_iff_ne_zero.mpr (by intro z;rcases Nat.mul_eq_zero.mp z with z|z<;>(first|lia|omega));have o:∀c∈allv (X+1) j,P.map (fun p=>cmb c R p+(j*(X*M):Nat))∈allv (2*(j*(X*M))+1) P.length:=fun c hc=>by
  obtain⟨h1,h2⟩:=mL.mp hc;refine mL.mpr ⟨Aa _,fun x hx=>?_⟩;obtain⟨p,hp,rfl⟩:=List.mem_map.mp hx;have:=pb (u:=p) (X:=X) (M:=M) c R (fun x hx=>by have:=h2 x hx;(first|lia|omega)) fun v hv=>q v hv p hp;have e:R.length*(X*M)=j*(X*M):=rfl;rw[e] at this;generalize j*(X*M)=N at this ⊢;(first|lia|omega)
 have cnt:(allv (2*(j*(X*M))+1) P.length).length<(allv (X+1) j).length:=by
  rw[Cw,Cw];have e1:2*(j*(X*M))+1<=(2*j*M)*(X+1):=by
   have:2*(j*(X*M))=(2*j*M)*X:=by rw[AN 2 j M,AN 2 (j*M) X,AN j M X,Nat.mul_comm M X]
   rw[this,Nat.mul_add];(first|lia|omega)
  calc (2*(j*(X*M))+1) ^ P.length<=((2*j*M)*(X+1)) ^ P.length:=Nat.pow_le_pow_left e1 _
   _=X*(X+1) ^ P.length:=Nat.mul_pow _ _ _
   _<(X+1)*(X+1) ^ P.length:=Nat.mul_lt_mul_of_pos_right (Nat.lt_succ_self _) (Nat.pow_pos (Nat.succ_pos _))
   _=(X+1) ^ (P.length+1):=by rw[Nat.pow_succ,Nat.mul_comm]
   _<=(X+1) ^ j:=AC (Nat.succ_pos _) r
 obtain⟨x,hx,y,hy,ne,e⟩:=fh _ _ _ (Hf (X+1) j) o cnt;obtain⟨x1,x2⟩:=mL.mp hx;obtain⟨d,h⟩:=mL.mp hy;have hz:(Av (fun a b=>a-b) x y).length=R.length:=by rw[Au,x1,d];exact Nat.min_self _
 refine⟨Av (fun a b=>a-b) x y,hz,?_,fun p hp=>?_,fun z hz=>?_⟩
 ·apply AE
  intro no;apply ne;refine AT (by rw[x1,d]) fun i h1 h2=>?_;have hi:i<(Av (fun a b=>a-b) x y).length:=by rw[Au];(first|lia|omega)
  have:=AE fun nz=>no ⟨(Av (fun a b=>a-b) x y)[i],Ap hi,nz⟩;rw[AR] at this;(first|lia|omega)
 ·rw[Cy x y R (by rw[x1]) (by rw[d])]
  obtain⟨i,hi,rfl⟩:=AX hp;have:=congrArg (fun l=>l[i]?) e;simp only[Aj,Ab hi,Option.map_some,Option.some.injEq] at this;(first|lia|omega)
 ·obtain⟨i,hi,rfl⟩:=AX hz
  rw[AR];rw[Au] at hi;have f:i<x.length:=ω
  have g:i<y.length:=ω
  have a1:=x2 _ (Ap f);have a2:=h _ (Ap g);show(x[i]-y[i]).natAbs<=X;(first|lia|omega)
def Es{R:List Vc}{P:List Nat}{M:Nat}(f:1<=M)(g:∀v∈R,∀p∈P,(v p).natAbs<=M)(h:P.length=R.length)(i:P.Nodup)(hi:Inj R P){p:Nat}(hp:p∈P):∃c:List Int,c.length=R.length/\cmb c R p≠0/\(∀q∈P,q≠p->cmb c R q=0)/\∀x∈c,x.natAbs<=(2*R.length*M) ^ (R.length-1):=by
 have a:(P.erase p).length=R.length-1:=by rw[List.length_erase_of_mem hp,h]
 have d:1<=P.length:=List.length_pos_of_mem hp;obtain⟨c,h1,⟨x,hx,nx⟩,h2,b⟩:=dE (P:=P.erase p) f (fun v hv q hq=>g v hv q (List.mem_of_mem_erase hq)) ω;rw[a] at b;have hz:∀q∈P,q≠p->cmb c R q=0:=fun q hq ne=>h2 q ((List.mem_erase_of_ne ne).mpr hq);refine⟨c,h1,fun z=>nx ?_,hz,b⟩;refine hi c h1 (fun q hq=>?_) x hx
 by_cases e:q=p
 ·rw[e];exact z
 ·exact hz q hq e
end Tb
end
section
namespace Tb
def Et{f:Int->Int->Int}{c d:List Int}{x:Int}(h:x∈Av f c d):∃a∈c,∃b∈d,x=f a b:=by
 obtain⟨i,hi,rfl⟩:=AX h;rw[Au] at hi;exact⟨c[i]'ω,Ap _,d[i]'ω,Ap _,AR ..⟩
def pe{x:Int}(h:x≠0):1<=x.natAbs:=ω
def clear{R:List Vc}{P:List Nat}{M V:Nat}{v:Vc}(i:1<=M)(j:∀v∈R,∀p∈P,(v p).natAbs<=M)(l:P.length=R.length)(o:P.Nodup)(hi:Inj R P)(hv:∀p∈P,(v p).natAbs<=V):∀Q:List Nat,Q.Nodup->(∀q∈Q,q∈P)->∃(D:Int)(s:List Int),D≠0/\s.length=R.length/\(∀q∈Q,cmb s R q=D*v q)/\(∀q∈P,q∉Q->cmb s R q=0)/\∀x∈s,x.natAbs<=D.natAbs*(Q.length*(V*(2*R.length*M) ^ (R.length-1)))
 |[],_,_=>⟨1,Aq R.length 0,ξ,List.length_replicate,(fun q hq=>nomatch hq),fun q _ _=>pa _ _ _,fun x hx=>by rw[(List.mem_replicate.mp hx).2];simp⟩
 |p::Q,hn,hs=>by
  obtain⟨n1,n2⟩:=List.nodup_cons.mp hn;obtain⟨D,s,r,e,e1,e2,b⟩:=clear i j l o hi hv Q n2 fun q hq=>hs q (.tail _ hq);have hp:=hs p (.head _);obtain⟨c,f,g,h,u⟩:=Es i j l o hi hp;refine⟨D*cmb c R p,Av (fun a b=>cmb c R p*a+(D*v p)*b) s c,Int.mul_ne_zero r g,by rw[Au];(first|lia|omega),fun q hq=>?_,fun q hq d=>?_,fun x hx=>?_⟩
  ·rw[fV _ _ s c R e f]
   rcases List.mem_cons.mp hq with rfl|hq
   ·rw[e2 q hp n1,A8,Int.zero_add,Int.mul_right_comm]
   ·rw[e1 q hq,h q (hs q (.tail _ hq)) (fun z=>n1 (z▸hq)),A8,Int.add_zero,Int.mul_left_comm,AU]
  ·rw[fV _ _ s c R e f,e2 q hq (fun z=>d (.tail _ z)),h q hq (fun z=>d (z▸.head _)),A8,A8];rfl
  ·obtain⟨a,w,b',y,rfl⟩:=Et hx
   have h1:=b a w;have h2:=u b' y;have A:=hv p hp;generalize (2*R.length*M) ^ (R.length-1)=X at h1 h2 ⊢;have k:=pe g;generalize cmb c R p=E at k ⊢;have C:(E*a).natAbs<=E.natAbs*(D.natAbs*(Q.length*(V*X))):=by rw[AB];exact Al _ h1
   have F:(D*v p*b').natAbs<=D.natAbs*(V*X):=by
    rw[AB,AB,AN];exact Al _ (AQ A h2)
   have G:=Int.natAbs_add_le (E*a) (D*v p*b');have H:D.natAbs*(V*X)<=E.natAbs*(D.natAbs*(V*X)):=Nat.le_mul_of_pos_left _ k;have I:(D*E).natAbs*((Q.length+1)*(V*X))=E.natAbs*(D.natAbs*(Q.length*(V*X)))+E.natAbs*(D.natAbs*(V*X)):=by
    rw[AB,Nat.add_mul,Nat.one_mul,Nat.mul_add,Nat.mul_comm D.natAbs E.natAbs,AN,AN]
   show _<=(D*E).natAbs*((Q.length+1)*(V*X));rw[I];exact Ae G (Nat.add_le_add C (Ae F H))
def vN{R:List Vc}{P:List Nat}{M V:Nat}{c:List Int}(r:1<=M)(u:∀v∈R,∀p∈P,(v p).natAbs<=M)(e:P.length=R.length)(f:P.Nodup)(hi:Inj R P)(hc:c.length=R.length)(hv:∀p∈P,(cmb c R p).natAbs<=V):∀x∈c,x.natAbs<=R.length*(V*(2*R.length*M) ^ (R.length-1)):=by
 obtain⟨D,s,g,h,e1,_,b⟩:=clear r u e f hi hv P f fun q hq=>hq;have hz:=hi (Av (fun a b=>D*a+(-1)*b) c s) (by rw[Au];(first|lia|omega)) fun p hp=>by
  rw[fV _ _ c s R hc h,e1 p hp];(first|lia|omega)
 intro x hx;obtain⟨i,j,rfl⟩:=AX hx;have l:i<s.length:=ω
 have d:i<(Av (fun a b=>D*a+(-1)*b) c s).length:=by rw[Au];(first|lia|omega)
 have o:=hz _ (Ap d);rw[AR] at o;have h1:=b _ (Ap l);have h2:s[i]=D*c[i]:=ω
 rw[h2,AB,e] at h1;exact Nat.le_of_mul_le_mul_left h1 (pe g)
end Tb
end
section
namespace Tb
def Rep(R:List Vc)(C:Nat)(v:Vc):Prop:=∃c:List Int,c.length=R.length/\(∀u,v u=cmb c R u)/\∀x∈c,x.natAbs<=C
section
variable{R:List Vc}{C D:Nat}{v w:Vc}
def Rep.mono(h:Rep R C v)(hc:C<=D):Rep R D v:=let ⟨c,h1,h2,h3⟩:=h;⟨c,h1,h2,fun x hx=>Ae (h3 x hx) hc⟩
def Rep.eq(h:Rep R C v)(e:∀u,w u=v u):Rep R C w:=let ⟨c,h1,h2,h3⟩:=h;⟨c,h1,fun u=>(e u).trans (h2 u),h3⟩
def Rep.lin{k m:Int}{A B:Nat}(hv:Rep R C v)(hw:Rep R D w)(hk:k.natAbs<=A)(g:m.natAbs<=B):Rep R (A*C+B*D) fun u=>k*v u+m*w u:=by
 obtain⟨c,h1,h2,e⟩:=hv;obtain⟨d,g1,g2,g3⟩:=hw;refine⟨Av (fun a b=>k*a+m*b) c d,by rw[Au];(first|lia|omega),fun u=>?_,fun x hx=>?_⟩
 ·show k*v u+m*w u=_
  rw[fV k m c d R h1 g1,h2,g2]
 ·obtain⟨a,f,b,hb,rfl⟩:=Et hx
  have h:(k*a).natAbs<=A*C:=by rw[AB];exact AQ hk (e a f)
  have i:(m*b).natAbs<=B*D:=by rw[AB];exact AQ g (g3 b hb)
  have:=Int.natAbs_add_le (k*a) (m*b);(first|lia|omega)
def Rep.sub{m:Int}{B:Nat}(hv:Rep R C v)(hw:Rep R D w)(a:m.natAbs<=B):Rep R (C+B*D) fun u=>v u-m*w u:=
 ((hv.lin (k:=1) (m:=-m) hw (A:=1) (B:=B) ξ (by rw[Int.natAbs_neg];exact a)).mono ω).eq fun u=>by rw[Int.one_mul,Int.neg_mul];(first|lia|omega)
def Rep.le(h:Rep R C v){M u:Nat}(b:∀r∈R,(r u).natAbs<=M):(v u).natAbs<=R.length*(C*M):=by
 obtain⟨c,h1,h2,a⟩:=h;rw[h2];exact pb c R a b
end
def step(f:Nat->Vc)(p:Nat)(l:Vc):Vc:=fun u=>l u-l p / f p p*f p u
def aV(f:Nat->Vc):List Nat->Vc->Vc
 |[],l=>l
 |p::ps,l=>aV f ps (step f p l)
structure Ech(P:List Nat)(f:Nat->Vc):Prop where
 z:∀p∈P,∀i,i<p->f p i=0
 pos:∀p∈P,0<f p p
section
variable{f:Nat->Vc}
def Ech.sub{P Q:List Nat}(h:Ech P f)(a:∀q∈Q,q∈P):Ech Q f:=⟨fun p hp=>h.z p (a p hp),fun p hp=>h.pos p (a p hp)⟩
def Hh{P:List Nat}{p i:Nat}{l:Vc}(h:Ech P f)(hp:p∈P)(hi:i<p):step f p l i=l i:=by
 unfold step;rw[h.z p hp i hi,A8,Int.sub_zero]
def step_at{P:List Nat}{p:Nat}{l:Vc}(h:Ech P f)(hp:p∈P):0<=step f p l p/\step f p l p<f p p:=by
 have a:=h.pos p hp;have e:step f p l p=l p%f p p:=by
  unfold step;have:=Int.emod_add_mul_ediv (l p) (f p p);rw[A9] at this;(first|lia|omega)
 rw[e];exact⟨Int.emod_nonneg _ ω,Int.emod_lt_of_pos _ a⟩
def Cz:∀{ps:List Nat}{l:Vc}{i:Nat},Ech ps f->(∀p∈ps,i<p)->aV f ps l i=l i
 |[],_,_,_,_=>rfl
 |p::ps,l,i,h,hi=>by
  show aV f ps (step f p l) i=l i;rw[Cz (h.sub fun q hq=>.tail _ hq) (fun q hq=>hi q (.tail _ hq)),Hh h (.head _) (hi p (.head _))]
def Hj:∀{ps:List Nat}{l:Vc}{t:Nat},Ech ps f->(∀i,i<t->l i=0)->∀i,i<t->aV f ps l i=0
 |[],_,_,_,hz,i,hi=>hz i hi
 |p::ps,l,t,h,hz,i,hi=>by
  refine Hj (h.sub fun q hq=>.tail _ hq) (t:=t) (fun i hi=>?_) i hi
  by_cases hp:i<p
  ·rw[Hh h (.head _) hp];exact hz i hi
  ·unfold step
   rw[hz i hi,hz p ω];simp
def CA:∀{ps:List Nat}{l:Vc},Ech ps f->ps.Pairwise (·<·)->∀p∈ps,0<=aV f ps l p/\aV f ps l p<f p p
 |p::ps,l,h,hs,q,hq=>by
  rw[Ba] at hs;have h':Ech ps f:=h.sub fun q hq=>.tail _ hq;rcases List.mem_cons.mp hq with rfl|hq
  ·show 0<=aV f ps (step f q l) q/\aV f ps (step f q l) q<f q q
   rw[Cz h' (fun r hr=>hs.1 r hr)];exact step_at h (.head _)
  ·exact CA h' hs.2 q hq
def mM{R:List Vc}{P:List Nat}{CF VF:Nat}(d:∀p∈P,Rep R CF (f p))(g:∀p∈P,∀q∈P,(f p q).natAbs<=VF)(a:∀p∈P,0<f p p):∀(ps:List Nat){l:Vc}{C V:Nat},(∀p∈ps,p∈P)->Rep R C l->(∀q∈P,(l q).natAbs<=V)->Rep R (C+ps.length*(V*(1+VF) ^ ps.length*CF)) (aV f ps l)/\∀q∈P,(aV f ps l q).natAbs<=V*(1+VF) ^ ps.length
 |[],l,C,V,_,hr,hv=>⟨hr.mono ω,fun q hq=>by show(l q).natAbs<=V*(1+VF) ^ 0;rw[Nat.pow_zero,Nat.mul_one];exact hv q hq⟩
 |p::ps,l,C,V,hs,hr,hv=>by
  have hp:=hs p (.head _);have i:=a p hp;have c:(l p / f p p).natAbs<=V:=by
   refine Ae ?_ (hv p hp);have:(l p / f p p).natAbs<=(l p).natAbs:=by
    have:=Int.natAbs_ediv_le_natAbs (l p) (f p p);exact this
   exact this
  have r1:Rep R (C+V*CF) (step f p l):=hr.sub (d p hp) c;have h:∀q∈P,(step f p l q).natAbs<=V*(1+VF):=fun q hq=>by
   have j:=hv q hq;have o:(l p / f p p*f p q).natAbs<=V*VF:=by rw[AB];exact AQ c (g p hp q hq)
   have r:(step f p l q).natAbs<=(l q).natAbs+(l p / f p p*f p q).natAbs:=by unfold step;(first|lia|omega)
   rw[Nat.mul_add,Nat.mul_one];(first|lia|omega)
  obtain⟨r2,b⟩:=mM d g a ps (fun q hq=>hs q (.tail _ hq)) r1 h;have e:V*(1+VF)*(1+VF) ^ ps.length=V*(1+VF) ^ (ps.length+1):=by rw[Nat.pow_succ,AN,Nat.mul_comm (1+VF)]
  rw[e] at r2 b;refine⟨r2.mono ?_,b⟩;show C+V*CF+ps.length*(V*(1+VF) ^ (ps.length+1)*CF)<=C+(ps.length+1)*(V*(1+VF) ^ (ps.length+1)*CF);have k1:V*1<=V*(1+VF) ^ (ps.length+1):=Al _ (Nat.pow_pos ω);have k2:V*CF<=V*(1+VF) ^ (ps.length+1)*CF:=Ak _ ω;rw[Nat.add_mul];(first|lia|omega)
end
end Tb
end
section
namespace Tb
def Sp(R:List Vc)(v:Vc):Prop:=∃c:List Int,c.length=R.length/\∀u,v u=cmb c R u
section
variable{R S:List Vc}{v w:Vc}
def Rep.sp{C:Nat}(h:Rep R C v):Sp R v:=let ⟨c,h1,h2,_⟩:=h;⟨c,h1,h2⟩
def Sp.eq(h:Sp R v)(e:∀u,w u=v u):Sp R w:=let ⟨c,h1,h2⟩:=h;⟨c,h1,fun u=>(e u).trans (h2 u)⟩
def Sp.zero:Sp R fun _=>0:=⟨Aq R.length 0,List.length_replicate,fun u=>(pa _ _ _).symm⟩
def Sp.lin(hv:Sp R v)(hw:Sp R w)(k m:Int):Sp R fun u=>k*v u+m*w u:=by
 obtain⟨c,h1,h2⟩:=hv;obtain⟨d,g1,g2⟩:=hw;refine⟨Av (fun a b=>k*a+m*b) c d,by rw[Au];(first|lia|omega),fun u=>?_⟩;show k*v u+m*w u=_;rw[fV k m c d R h1 g1,h2,g2]
def Sp.sub(hv:Sp R v)(hw:Sp R w)(m:Int):Sp R fun u=>v u-m*w u:=(hv.lin hw 1 (-m)).eq fun u=>by rw[Int.one_mul,Int.neg_mul];(first|lia|omega)
def Rep.mem:∀{R:List Vc}{v:Vc},v∈R->Rep R 1 v
 |r::R,v,h=>by
  rcases List.mem_cons.mp h with rfl|h
  ·exact⟨1::Aq R.length 0,by simp,fun u=>by show v u=1*v u+cmb (Aq R.length 0) R u;rw[pa];(first|lia|omega),fun x hx=>by
    rcases List.mem_cons.mp hx with rfl|hx
    ·decide
    ·rw[(List.mem_replicate.mp hx).2];decide⟩
  ·obtain⟨c,h1,h2,a⟩:=Rep.mem h
   exact⟨0::c,by simp[h1],fun u=>by show v u=0*r u+cmb c R u;rw[h2];(first|lia|omega),fun x hx=>by
    rcases List.mem_cons.mp hx with rfl|hx
    ·decide
    ·exact a x hx⟩
def Sp.mem(h:v∈R):Sp R v:=(Rep.mem h).sp
def Sp.cmb:∀(c:List Int)(S:List Vc),(∀s∈S,Sp R s)->Sp R (Tb.cmb c S)
 |[],[],_=>Sp.zero
 |[],_::_,_=>Sp.zero
 |_::_,[],_=>Sp.zero
 |a::c,s::S,h=>((h s (.head _)).lin (Sp.cmb c S fun w hw=>h w (.tail _ hw)) a 1).eq fun u=>by show a*s u+Tb.cmb c S u=_;(first|lia|omega)
def Sp.trans(h:Sp S v)(a:∀s∈S,Sp R s):Sp R v:=by
 obtain⟨c,_,h2⟩:=h;exact(Sp.cmb c S a).eq h2
def iC(R:List Vc):Prop:=∀c:List Int,c.length=R.length->(∀u,cmb c R u=0)->∀x∈c,x=0
def zK{u:Nat}:∀(c:List Int)(L:List Vc),(∀v∈L,v u=0)->cmb c L u=0
 |[],[],_=>rfl
 |[],_::_,_=>rfl
 |_::_,[],_=>rfl
 |a::c,v::L,h=>by
  show a*v u+cmb c L u=0;rw[h v (.head _),zK c L fun w hw=>h w (.tail _ hw),A8];rfl
end
section
variable{f:Nat->Vc}
def Eu:∀{P:List Nat},Ech P f->P.Pairwise (·<·)->∀c:List Int,c.length=P.length->(∀p∈P,cmb c (P.map f) p=0)->∀x∈c,x=0
 |[],_,_,c,hl,_,x,hx=>by rw[AG hl] at hx;cases hx
 |p::P,h,hs,[],hl,_,x,hx=>by cases hx
 |p::P,h,hs,a::c,hl,hz,x,hx=>by
  rw[Ba] at hs;have b:=hz p (.head _);have e:cmb (a::c) ((p::P).map f) p=a*f p p:=by
   show a*f p p+cmb c (P.map f) p=a*f p p;rw[zK c (P.map f) fun v hv=>by
    obtain⟨q,hq,rfl⟩:=List.mem_map.mp hv;exact h.z q (.tail _ hq) p (hs.1 q hq)]
   (first|lia|omega)
  rw[e] at b;have hp:=h.pos p (.head _);have d:a=0:=by
   rcases Int.mul_eq_zero.mp b with z|z
   ·exact z
   ·(first|lia|omega)
  subst d;rcases List.mem_cons.mp hx with rfl|hx
  ·rfl
  ·refine Eu (h.sub fun q hq=>.tail _ hq) hs.2 c (by simpa using hl) (fun q hq=>?_) x hx
   have:=hz q (.tail _ hq);have e:cmb (0::c) ((p::P).map f) q=0*f p q+cmb c (P.map f) q:=rfl;rw[e] at this;(first|lia|omega)
def mN:∀(c:List Int)(L:List Vc)(u:Nat),(∀x∈c,x=0)->cmb c L u=0
 |[],[],_,_=>rfl
 |[],_::_,_,_=>rfl
 |_::_,[],_,_=>rfl
 |a::c,v::L,u,h=>by show a*v u+cmb c L u=0;rw[h a (.head _),mN c L u fun x hx=>h x (.tail _ hx)];(first|lia|omega)
def ph{R:List Vc}{P:List Nat}(hi:iC R)(h:Ech P f)(b:P.Pairwise (·<·))(e:∀r∈R,Sp (P.map f) r):Inj R P:=fun c hc hz=>by
 obtain⟨d,h1,h2⟩:=Sp.cmb c R e;have a:=Eu h b d (by simpa using h1) fun p hp=>by rw[<-h2];exact hz p hp
 exact hi c hc fun u=>by rw[h2];exact mN d _ u a
def jo:∀{P:List Nat}{p:Nat}{w:Vc},Ech P f->P.Pairwise (·<·)->p∈P->Sp (P.map f) w->(∀q∈P,q<p->w q=0)->f p p ∣ w p
 |[],_,_,_,_,hp,_,_=>nomatch hp
 |q::P,p,w,h,hs,hp,⟨c,hc,e⟩,hz=>by
  cases c with
  |nil=>simp at hc
  |cons a c=>
   rw[Ba] at hs;have eq:w q=a*f q q:=by
    rw[e];show a*f q q+cmb c (P.map f) q=a*f q q;rw[zK c (P.map f) fun v hv=>by
     obtain⟨r,hr,rfl⟩:=List.mem_map.mp hv;exact h.z r (.tail _ hr) q (hs.1 r hr)]
    (first|lia|omega)
   rcases List.mem_cons.mp hp with rfl|hp
   ·exact⟨a,by rw[eq,A9]⟩
   ·have hq:=hz q (.head _) (hs.1 p hp)
    rw[eq] at hq;have d:=h.pos q (.head _);have g:a=0:=by
     rcases Int.mul_eq_zero.mp hq with z|z
     ·exact z
     ·(first|lia|omega)
    refine jo (h.sub fun q hq=>.tail _ hq) hs.2 hp ⟨c,by simpa using hc,fun u=>?_⟩ fun r hr b=>hz r (.tail _ hr) b;rw[e];show a*f q u+cmb c (P.map f) u=_;rw[g];(first|lia|omega)
def L8{R:List Vc}{P:List Nat}{M:Nat}(l:1<=M)(hi:iC R)(h:Ech P f)(b:P.Pairwise (·<·))(d:∀r∈R,Sp (P.map f) r)(o:P.length=R.length)(hb:∀r∈R,∀p∈P,(r p).natAbs<=M){p:Nat}(hp:p∈P):(f p p).natAbs<=R.length*((2*R.length*M) ^ (R.length-1)*M):=by
 have j:P.Nodup:=b.imp fun h=>AA h;obtain⟨c,s,e,g,i⟩:=Es l hb o j (ph hi h b d) hp;have hd:=jo h b hp (Sp.cmb c R d) fun q hq a=>g q hq (AA a);have:=Nat.le_of_dvd (pe e) (Int.natAbs_dvd_natAbs.mpr hd);exact Ae this (pb c R i fun r hr=>hb r hr p hp)
end
end Tb
end
section
namespace Tb
structure GI(x y:Int)(t0 t1 t2 l0 l1 l2:Int):Prop where
 t:t0=t1*x+t2*y
 l:l0=l1*x+l2*y
 det:t1*l2-t2*l1=1\/t1*l2-t2*l1=-1
 tp:0<t0
 lp:0<=l0
 s1:(0<=t1/\l1<=0)\/(t1<=0/\0<=l1)
 s2:(0<=t2/\l2<=0)\/(t2<=0/\0<=l2)
 m1:l1.natAbs*t0.natAbs+t1.natAbs*l0.natAbs=y.natAbs
 m2:l2.natAbs*t0.natAbs+t2.natAbs*l0.natAbs=x.natAbs
 b1:t1.natAbs<=y.natAbs
 b2:t2.natAbs<=x.natAbs
def GI.start{x y:Int}(hx:0<x)(hy:0<y):GI x y x 1 0 y 0 1:=
 ⟨ω,ω,ω,hx,ω,.inl ⟨ω,ω⟩,.inr ⟨ω,ω⟩,by simp,by simp,ω,ω⟩
def Hk{a b q:Int}(hq:0<=q)(h:(0<=a/\b<=0)\/(a<=0/\0<=b)):(a-q*b).natAbs=a.natAbs+q.natAbs*b.natAbs:=by
 have e:(q*b).natAbs=q.natAbs*b.natAbs:=AB ..;rcases h with ⟨h1,h2⟩|⟨h1,h2⟩
 ·have:q*b<=0:=Int.mul_nonpos_of_nonneg_of_nonpos hq h2
  (first|lia|omega)
 ·have:0<=q*b:=Int.mul_nonneg hq h2
  (first|lia|omega)
def GI.next{x y f r s c i j:Int}(g:GI x y f r s c i j)(h:c≠0):GI x y c i j (f-f / c*c) (r-f / c*i) (s-f / c*j)/\f-f / c*c<c:=by
 have p:0<c:=by have:=g.lp;(first|lia|omega)
 have o:0<=f / c:=Int.ediv_nonneg (Int.le_of_lt g.tp) g.lp;have em:f-f / c*c=f%c:=by have:=Int.emod_add_mul_ediv f c;rw[A9] at this;(first|lia|omega)
 have v:0<=f%c:=Int.emod_nonneg _ h;have w:f%c<c:=Int.emod_lt_of_pos _ p;have k1:=Hk o g.s1;have k2:=Hk o g.s2;have u:∀{a b n:Nat},b*f.natAbs+a*c.natAbs=n->(a+(f / c).natAbs*b)*c.natAbs+b*(f-f / c*c).natAbs=n:=fun{a b n} e=>by
  have e1:(f-f / c*c).natAbs+(f / c).natAbs*c.natAbs=f.natAbs:=by
   have:(f / c*c).natAbs=(f / c).natAbs*c.natAbs:=AB ..;have:0<=f / c*c:=Int.mul_nonneg o g.lp;have:=g.tp;(first|lia|omega)
  rw[<-e,<-e1,Nat.add_mul,Nat.mul_add,AN,Nat.mul_left_comm b];(first|lia|omega)
 refine⟨⟨g.l,?_,?_,p,ω,?_,?_,?_,?_,?_,?_⟩,ω⟩
 ·have e1:=g.t
  have e2:=g.l;generalize f / c=q;rw[Int.sub_mul,Int.sub_mul,AU,AU];have:q*c=q*(i*x)+q*(j*y):=by rw[e2,Bg]
  (first|lia|omega)
 ·have d:=g.det
  generalize f / c=q;rw[Int.mul_sub,Int.mul_sub,Int.mul_left_comm i q j,Int.mul_left_comm j q i,A9 j i,A9 i s,A9 j r];(first|lia|omega)
 ·rcases g.s1 with ⟨h1,h2⟩|⟨h1,h2⟩
  ·have:f / c*i<=0:=Int.mul_nonpos_of_nonneg_of_nonpos o h2
   exact .inr ⟨h2,ω⟩
  ·have:0<=f / c*i:=Int.mul_nonneg o h2
   exact .inl ⟨h2,ω⟩
 ·rcases g.s2 with ⟨h1,h2⟩|⟨h1,h2⟩
  ·have:f / c*j<=0:=Int.mul_nonpos_of_nonneg_of_nonpos o h2
   exact .inr ⟨h2,ω⟩
  ·have:0<=f / c*j:=Int.mul_nonneg o h2
   exact .inl ⟨h2,ω⟩
 ·rw[k1];exact u g.m1
 ·rw[k2];exact u g.m2
 ·have:=g.m1
  have h1:i.natAbs*1<=i.natAbs*f.natAbs:=Al _ (by have:=g.tp;(first|lia|omega));(first|lia|omega)
 ·have:=g.m2
  have h1:j.natAbs*1<=j.natAbs*f.natAbs:=Al _ (by have:=g.tp;(first|lia|omega));(first|lia|omega)
def GI.le{x y c d e f a b:Int}(g:GI x y c d e f a b):a.natAbs<=y.natAbs/\b.natAbs<=x.natAbs:=by
 have h1:a.natAbs*1<=a.natAbs*c.natAbs:=Al _ (by have:=g.tp;(first|lia|omega));have h2:b.natAbs*1<=b.natAbs*c.natAbs:=Al _ (by have:=g.tp;(first|lia|omega));have:=g.m1;have:=g.m2;(first|lia|omega)
end Tb
end
section
namespace K24
open PySem L2
abbrev CB:Stmt:=top 29
section
variable{P:Program}{w:World}{K:Ag}{mg:Str->Option Value}{base:Heap}
def Hl:Sp:=fun vs H Q _=>∃(r:Addr)(rn:List Int)(k:Nat),vs=[.ref r]/\H r=some (.lst (rn.map V.int))/\(∀i,i<k->rn[i]?=some 0)/\(∃x,rn[k]?=some x/\x≠0)/\Q (.int k) H
def Ev:zo ["row","place"] ["row"] (zf CB):=⟨rfl,rfl,rfl,δ,rfl,δ,δ⟩
def L9{f:Addr}{fd:FuncData}(F:Fun K "first_place" "first_place" CB f fd):ah P w K mg base au 1 f fd ["row"] Hl:=by
 refine F.ok Ev (fun vs H Q E h=>?_) (fun o A outer s H vs Q E hr h=>?_)
 ·obtain⟨r,rn,k,rfl,_⟩:=h;rfl
 ·obtain⟨r,rn,k,rfl,h1,g,⟨x,hx,l⟩,hq⟩:=h
  refine⟨_,zc (zp (i:=1) Ev.nd rfl (Or.inl rfl) zd)
   (zc (Cb Bb (zr dO (zw zx (pv 0) (pv 1) (fun _ _=>rfl)) zd (ap _))
    (zh (zp (i:=1) Ev.nd rfl (Or.inl rfl) (zF eU (pv 1) zd))))
   (zh (zq (pv 1)))),?_⟩
  refine⟨fun n σ a=>∃i:Nat,n=k-i/\i<=k/\σ=[some (.ref r),some (.int i)]/\a=H,⟨_,0,rfl,ω,rfl,rfl⟩,?_⟩;rintro n σ a ⟨i,rfl,hi,rfl,rfl⟩;obtain⟨y,hy,e⟩:∃y,rn[i]?=some y/\(y=0↔i<k):=by
   rcases Bi i k with c|c
   ·exact⟨0,g i c,by simp[c]⟩
   ·have:i=k:=ω
    subst this;exact⟨x,hx,by simp[l]⟩
  refine⟨_,rfl,_,rfl,r,_,_,_,rfl,rfl,SqL.of h1,zi (j:=i) (v:=V.int y) (by rw[Aj,hy];rfl),rfl,_,rfl,?_⟩
  by_cases c:i<k
  ·rw[show decide (V.int y=V.int 0)=true by rw[e.mpr c];rfl]
   refine aR ⟨fun b H'=>∃d,d<k-i/\∃i:Nat,d=k-i/\i<=k/\b=[some (.ref r),some (.int i)]/\H'=a,fun b H' h=>h,?_⟩;exact⟨_,rfl,_,_,rfl,rfl,k-(i+1),ω,i+1,rfl,ω,rfl,rfl⟩
  ·rw[show decide (V.int y=V.int 0)=false from decide_eq_false fun z=>c (e.mp (by injection z))]
   have:i=k:=ω
   subst this;exact aI ⟨_,rfl,hq⟩
end
end K24
end
section
namespace K24
open PySem L2
abbrev vR:Stmt:=top 30
def Hm:A7 "tuple"=some (.type "tuple"):=δ
section
variable{P:Program}{w:World}{K:Ag}{mg:Str->Option Value}{base:Heap}
def L_{H2:Hp}{r o D:Addr}{rn on:List Int}{f:Int->Int->Int}{te:TE}{c:List (Option V)}{Q:VK}(v:∀(a b:Int)(H:Hp)(R:VK),a∈rn->b∈on->R (.int (f a b)) H->te (some (.int a)::some (.int b)::c) H R)(h1:H2 r=some (.tup (rn.map V.int)))(h2:H2 o=some (.tup (on.map V.int)))(n2:on.length<=1000)(s:H2 D=none)(k:∀d,Same H2 d->d D=some (.lst ((Av f rn on).map V.int))->Q (.ref D) d):dr (Co K r o) (bT K 2 (ci (zQ 0) (ci (zQ 1) bR))) bE te (none::none::c) H2 D Q:=by
 refine Lm (K:=K) (xs:=rn.map V.int) (ys:=on.map V.int) (fun i σ zs d=>∃j l,σ=j::l::c/\Same H2 d/\d D=some (.lst zs)/\zs=((Av f rn on).take i).map V.int)
  ⟨none,none,rfl,Same.new s,ac,rfl⟩ (fun i σ zs d ⟨_,_,_,sm,_⟩=>⟨SqT.of (sm _ _ h1),SqT.of (sm _ _ h2)⟩) ?_ ?_
 ·rintro i σ zs d u w x e1 e2 hi hz ⟨j,l,rfl,h,e,rfl⟩ g
  obtain⟨p,g1,rfl⟩:=ig e1;obtain⟨q,g2,rfl⟩:=ig e2;refine⟨u,_,rfl,SqT.of ac,rfl,_,_,rfl,_,_,rfl,rfl,gG ?_⟩;refine v p q _ _ (An g1) (An g2) (b6 (Ae (Nat.min_le_right _ _) (by rw[Aa];exact zA ω)) hi hz (by rw[al (zl e g)];exact e) ⟨_,_,rfl,?_,ac,?_⟩)
  ·exact(h.then (h.free g)).then s
  ·have e3:(Av f rn on)[i]?=some (f p q):=by rw[List.getElem?_zipWith,g1,g2]
   rw[take_snoc e3,AD];rfl
 ·rintro σ zs d ⟨j,l,rfl,h,e,rfl⟩
  refine k d h ?_;rw[e,Ax (by simp)]
abbrev Tr(H:Hp)(p:Addr)(a b c:Int):Prop:=H p=some (.tup [.int a,.int b,.int c])
def Hn:Sp:=fun vs H Q _=>∃x y:Int,vs=[.int x,.int y]/\0<x/\0<y/\x.natAbs<2 ^ 9000/\y.natAbs<2 ^ 9000/\
 ∀r p q H' a b c d e,Same H H'->H' r=some (.tup [.ref p,.ref q])->Tr H' p a b c->Tr H' q 0 d e->Tb.GI x y a b c 0 d e->Q (.ref r) H'
def mO:zo ["one","other","told","left","often","rest"] ["one","other"] (zf vR):=⟨rfl,rfl,rfl,δ,rfl,δ,δ⟩
def L'{f:Addr}{fd:FuncData}(F:Fun K "divisor_pair" "divisor_pair" vR f fd)(bz:mg "zip"=none)(bt:mg "tuple"=none):ah P w K mg base au 1 f fd ["one","other"] Hn:=by
 refine F.ok mO (fun vs H Q E h=>?_) (fun ai A outer s H vs Q E hr h=>?_)
 ·obtain⟨x,y,rfl,_⟩:=h;rfl
 ·obtain⟨x,y,rfl,x0,y0,Z,yb,k⟩:=h
  refine⟨_,zc (zp (i:=2) mO.nd rfl (Or.inl rfl) (hO (za (pv 0) (za zd (za zd zb)))))
   (zc (zp (i:=3) mO.nd rfl (Or.inl rfl) (hO (za (pv 1) (za zd (za zd zb)))))
   (zc (Cb Bb (zr gx (zw zC (pv 3) zd (fun _ _=>rfl)) zd (ap _))
    (zc (zp (i:=4) mO.nd rfl (Or.inr rfl) (zF Cv (zw zC (pv 2) zd (fun _ _=>rfl)) (zw zC (pv 3) zd (fun _ _=>rfl))))
    (zc (zp (i:=5) mO.nd rfl (Or.inl rfl) (jg KG rfl bt Hm (za (zz ["one","other","told","left","often","rest"] ["high","low","often"] [none,none,some 4] (Li rfl bz jm (za (pv 2) (za (pv 3) zb)))
     (fun U C s₀ H₀ ex=>gi rfl (zE (zm (i:=0) (bC ["high","low","often"]) rfl (Or.inl rfl)) (zE (zm (i:=1) (bC ["high","low","often"]) rfl (Or.inl rfl)) gg))) (fun U C s₀ H₀ ex=>zB)
     (fun U C s₀ H₀ ex=>zF gu (pv 0) (zF oZ (pv 2) (pv 1))) (te:=cy (g_ fun i j=>.int (i-j)) (ar 0) (cy (rI eC fun i j=>.int (i*j)) (ar 2) (ar 1))) (hfr:=a9 (zf vR) δ) (g:=bT K 2 (ci (zQ 0) (ci (zQ 1) bR)))) zb)))
    (zc (zp (i:=2) mO.nd rfl (Or.inl rfl) (pv 3))
    (zh (zp (i:=3) mO.nd rfl (Or.inl rfl) (pv 5)))))))
   (zh (zq (hO (za (pv 2) (za (pv 3) zb))))))),?_⟩
  refine⟨_,rfl,zA (show 3<=100000 from ξ),fun T v=>⟨_,rfl,zA (show 3<=100000 from ξ),fun L l=>?_⟩⟩;have pO:T≠L:=zl ac l;refine⟨fun n σ M=>∃(T L:Addr)(e r u d p q:Int)(G I:Option V),n=d.natAbs/\σ=[some (.int x),some (.int y),some (.ref T),some (.ref L),G,I]/\Same H M/\Tr M T e r u/\Tr M L d p q/\Tb.GI x y e r u d p q/\e.natAbs<2 ^ 9000/\d.natAbs<2 ^ 9000,
   ⟨_,T,L,x,1,0,y,0,1,none,none,rfl,rfl,(Same.new v).trans (Same.new l),(by show upd _ L _ T=_;rw[al pO];exact ac),ac,Tb.GI.start x0 y0,Z,yb⟩,?_⟩
  clear l pO;clear v T L;rintro n σ M ⟨T,L,e,r,u,d,p,q,G,I,rfl,rfl,sm,v,l,g,tb,J⟩;refine⟨_,rfl,L,_,_,_,rfl,rfl,SqT.of l,zi (j:=0) rfl,rfl,_,rfl,?_⟩
  by_cases c:d=0
  ·rw[show(!decide (V.int d=V.int 0))=false by rw[c];rfl]
   subst c;refine aI ⟨_,rfl,_,rfl,zA (show 2<=100000 from ξ),fun R O=>?_⟩;have S:=Same.new (o:=.tup [.ref T,.ref L]) O;exact k R T L _ e r u p q (sm.trans S) ac (S _ _ v) (S _ _ l) g
  ·rw[show(!decide (V.int d=V.int 0))=true by rw[decide_eq_false (fun z=>c (by injection z))];rfl]
   obtain⟨g2,lt⟩:=g.next c;have yd:0<d:=by have:=g.lp;(first|lia|omega)
   have q0:0<=e / d:=Int.ediv_nonneg (Int.le_of_lt g.tp) g.lp;have u5:(e / d).natAbs<=e.natAbs:=Int.natAbs_ediv_le_natAbs _ _;have iW:=g.le;refine aR ⟨fun W H'=>∃Y,Y<d.natAbs/\∃(T L:Addr)(e r u d p q:Int)(G I:Option V),Y=d.natAbs/\W=[some (.int x),some (.int y),some (.ref T),some (.ref L),G,I]/\Same H H'/\Tr H' T e r u/\Tr H' L d p q/\Tb.GI x y e r u d p q/\e.natAbs<2 ^ 9000/\d.natAbs<2 ^ 9000,fun W H' h=>h,?_⟩;refine⟨_,rfl,T,_,_,_,rfl,rfl,SqT.of v,zi (j:=0) rfl,_,rfl,L,_,_,_,rfl,rfl,SqT.of l,zi (j:=0) rfl,_,_,rfl,rfl,⟨yd,J⟩,?_⟩;refine⟨_,rfl,_,rfl,T,L,rfl,⟨_,SqT.of v⟩,⟨_,SqT.of l⟩,fun D hD=>zD (L_ (rn:=[e,r,u]) (on:=[d,p,q]) (f:=fun a b=>a-e / d*b) (fun a b H' R _ hb O=>?_) v l (by simp) hD fun H4 X bM=>?_)⟩
   ·refine⟨_,rfl,_,rfl,_,rfl,_,_,rfl,rfl,⟨9000,9000,Ao u5 tb,?_,ξ⟩,_,_,rfl,rfl,O⟩
    simp at hb;rcases hb with rfl|rfl|rfl
    ·exact J
    ·exact Ao iW.1 yb
    ·exact Ao iW.2 Z
   ·refine⟨D,_,rfl,.inl ⟨SqL.of bM,fun N hN=>?_⟩⟩
    have s5:=Same.new (o:=.tup (([e-e / d*d,r-e / d*p,u-e / d*q]:List Int).map V.int)) hN;refine⟨_,rfl,_,rfl,(e-e / d*d).natAbs,by have:=g2.lp;(first|lia|omega),L,N,d,p,q,_,_,_,_,_,rfl,rfl,(sm.trans X).trans s5,(X.trans s5) _ _ l,ac,g2,J,?_⟩;have:=g2.lp;exact Nat.lt_trans ω J
end
end K24
end
section
namespace cp
open PySem PyProof.Rows PySem.W
end cp
namespace L2
open PySem PySem.Spec PyProof.Rows
section
variable{X:Cx}{aa:Ψ}{σ:St}{H:Hp}{s:Shared}
def Ma:cV X (compareOp .IsNot) (fun x y H Q=>∃a b:Bool,x=.bl a/\y=.bl b/\Q (.bl (a != b)) H):=by
 intro aa s σ H x y v u Q I c d h;obtain⟨a,b,rfl,rfl,q⟩:=h;cases c;cases d;exact isnot_bool (aJ I q rfl)
end
end L2
end
section
namespace STb
open PySem PySem.SetTable PyProof.Rows cp PySem.W
section
variable{prog:Program}{w:World}{A:Around}{E:Ω}{s:Shared}{S:Addr}
def Mb{T:String}{r d:Addr}{n:Nat}{P:Nat->Value->Prop}{j:Heap->Prop}{R:List Value->Shared->Prop}(K:KdlSrc prog w T r d n P j)(p:A.handled=none)(i:j s.heap)(u:n<=sizeLine)(h:∀(h':Heap)(tk:Nat)(acc:Array Value),s⁻¹<=h'.objs.size->(∀b o,s.heap.get? b=some o->h'.get? b=some o)->ItemsOf P acc n->R acc.toList {s with heap:=h',toks:=tk}):wpAny (model prog w) A (collect (.ref r)) R E s:=by
 obtain⟨hr,hd⟩:=K.there _ i;unfold collect;refine Af (wpAny_runValue (codeAny_builtin entry_proto_collect' ?_));rw[Around.under_plainId PySem.F.plain_proto_collect _];show wpAny _ A.in1 (do again (.builtin "list.__iadd__" ⟨[<-newList [],.ref r],[]⟩)) _ _ s;refine Af (wpAny_newObj_type (Am ⟨plainId_quiet PySem.F.plain_list_iadd _,codeAny_builtin entry_list_iadd' ?_⟩));rw[Around.under_plainId PySem.F.plain_list_iadd _];show wpAny _ A.in1 (Builtin.List.listExtendWith (.ref s⁻¹) (.ref r) (.ref s⁻¹)) _ _ _;have fin:∀(h':Heap)(tk:Nat)(acc:Array Value)(c:Nat),(∀b o,s.heap.get? b=some o->h'.get? b=some o)->h'.get? s⁻¹=some {cls:=.type "list",dict:=none,data:=.seq acc c,slots:=#[]}->ItemsOf P acc n->
   wpAny (model prog w) A (do match (<-load s⁻¹).data with
    |.seq xs _=>pure xs.toList
    |_=>unsupported "internal:collect") R E {s with heap:=h',toks:=tk}:=fun h' tk acc c hk a g=>Af (wpAny_load a (Am (h h' tk acc (Nat.le_of_lt (Ar a)) hk g)))
 refine wpAny_mono (kdl_extend (A:=A) (s:={s with heap:=s.heap.push {cls:=.type "list",data:=.seq ([]:List Value).toArray}})
  (R:=fun q s'=>∃h' tk acc c,q=Except.ok (Flow.ret (.ref s⁻¹))/\s'={s with heap:=h',toks:=tk}/\(∀b o,s.heap.get? b=some o->h'.get? b=some o)/\h'.get? s⁻¹=some {cls:=.type "list",dict:=none,data:=.seq acc c,slots:=#[]}/\ItemsOf P acc n)
  K p (K.keep _ _ i fun b _ o e=>Ai _ e) s⁻¹ (Nat.ne_of_gt hr) (Nat.ne_of_gt hd) (.ref s⁻¹) 0 (AL _ rfl)
  (fun h' tk acc c hk a g=>⟨h',tk,acc,c,rfl,rfl,fun b o e=>hk b o (AA (Ar e)) (Ai _ e),a,g⟩) u) (fun f s' x=>?_) fun e s' x=>?_
 ·cases f with
  |done f=>
   obtain⟨h',tk,acc,c,e,rfl,hk,a,g⟩:=x;cases e;exact fin h' tk acc c hk a g
  |again c₁=>
   refine⟨x.1,codeAny_mono x.2 fun q v y=>?_⟩;obtain⟨h',tk,acc,c,rfl,rfl,hk,a,g⟩:=y;exact fin h' tk acc c hk a g
 ·obtain⟨_,_,_,_,l,_⟩:=x
  cases l
end
end STb
namespace L2
open PySem PySem.Spec PyProof.Rows
section
variable{X:Cx}
def Mc{ns:List Int}{ad:List Value}{out:List Value}(hi:IntsAre ad ns)(c:cp.Out (ns.map fun n=>[n]) ad out):∃ms:List Int,Vals (ms.map V.int) out/\ms.Perm ns/\ms.Pairwise (·<=·):=by
 obtain⟨ps,hp,c,d⟩:=c;have g:ad.length=ns.length:=hi.length;have all:∀p∈ps,∃n t,p.1=[n]/\p.2=Value.int n t:=fun p a=>by
  obtain⟨i,e⟩:=List.mem_iff_getElem?.mp (hp.mem_iff.mp a);rw[cp.dv,Aj] at e;cases e1:ns[i]? with
  |none=>rw[e1] at e;simp at e
  |some n=>
   obtain⟨t,e2⟩:=hi.get i n e1;rw[e1,e2] at e;simp only[Option.map_some,Option.bind_some,Option.some.injEq] at e;subst e;exact⟨n,t,rfl,rfl⟩
 have f:∀ps:List (List Int×Value),(∀p∈ps,∃n t,p.1=[n]/\p.2=Value.int n t)->Vals ((ps.map fun p=>p.1.headD 0).map V.int) (ps.map (·.2)):=by
  intro ps
  induction ps with
  |nil=>intro _;exact .nil
  |cons p ps ih=>
   intro h;obtain⟨n,t,e1,e2⟩:=h p AM;refine .cons ?_ (ih fun q hq=>h q (AJ _ hq));show RelV (V.int (p.1.headD 0)) p.2;rw[e1,e2];exact⟨t,rfl⟩
 refine⟨ps.map fun p=>p.1.headD 0,by rw[c];exact f ps all,?_,?_⟩
 ·have h1:=hp.map (fun p:List Int×Value=>p.1.headD 0)
  have e:((ns.map fun n=>[n]).zip ad).map (fun p:List Int×Value=>p.1.headD 0)=ns:=by
   rw[show(fun p:List Int×Value=>p.1.headD 0)=(fun l:List Int=>l.headD 0) ∘ Prod.fst from rfl,<-AS,List.map_fst_zip (by rw[Aa];lia),AS];exact List.map_id' ns
  rw[e] at h1;exact h1
 ·rw[List.pairwise_map]
  refine d.imp_of_mem fun{p q} h1 h2 b=>?_;obtain⟨n,t,e1,_⟩:=all p h1;obtain⟨m,t',e2,_⟩:=all q h2;rw[e1,e2,HT.tH] at b;rw[e1,e2];show n<=m
  by_cases e:m=n
  ·lia
  ·rw[if_neg e] at b
   have:=of_decide_eq_false b
   lia
end
end L2
end
section
namespace STb
open PySem PySem.SetTable PyProof.Rows cp PySem.W
section
variable{prog:Program}{w:World}{A:Around}{E:Ω}{s:Shared}
def Md{T:String}{r d:Addr}{n:Nat}{P:Nat->Value->Prop}{j:Heap->Prop}{ns:List Int}{Q:Ω}(K:KdlSrc prog w T r d n P j)(q:A.handled=none)(f:j s.heap)(u:n<64)(hi:∀acc:Array Value,ItemsOf P acc n->IntsAre acc.toList ns)(h:∀(D:Addr)(h':Heap)(tk e:Nat)(ad:List Value)(out:Array Value),s⁻¹<=D->(∀b o,s.heap.get? b=some o->h'.get? b=some o)->h'.get? D=some (seqObj "list" out e)->IntsAre ad ns->Out (ns.map fun n=>[n]) ad out.toList->Q (.ref D) {s with heap:=h',toks:=tk}):wpAny (model prog w) A (call (.builtin "sorted") [.ref r]) Q E s:=by
 refine Calls.call_function_entry kind_sorted plain_sorted entry_sorted (args_sorted1 _) ?_;unfold Builtin.«sorted»;refine Af (m:=checkCount "sorted" 1 1 _) (Am ?_);refine Af (Mb (A:=A.in1) K q f (by rw[sizeLine_eq];(first|lia|omega)) fun h' tk acc a hk g=>?_);have hi:=hi acc g;have i:acc.toList.length=n:=by rw[Array.length_toList];exact g.1
 refine Af (wpAny_newList ?_ (by rw[i,sizeLine_eq];(first|lia|omega)));have c:(h'.push (seqObj "list" acc.toList.toArray 0)).get? h'.objs.size=some (seqObj "list" acc.toList.toArray 0):=AL _ rfl;refine Af (wpAny_holding (wpAny_call_entry slot_list_sort ⟨_,c,rfl⟩ entry_list_sort (LJ (s:={s with heap:=h'.push (seqObj "list" acc.toList.toArray 0),toks:=tk}) (good:=fun _=>True) c (LD hi) (fun _ _=>trivial) (by rw[i,sizeLine_eq];(first|lia|omega)) ω fun out l=>⟨_,rfl,?_⟩) (args_list_sort _)));obtain⟨e,p⟩:=sortedHeap_at (out:=out) c;refine Am ⟨_,rfl,h h'.objs.size _ tk e acc.toList out a (fun b o e=>?_) p hi l⟩;have hb:b<h'.objs.size:=Ar (hk b o e);rw[sortedHeap_old (AA hb) (by rw[size_push'];exact Nat.lt_succ_of_lt hb)];exact Ai _ (hk b o e)
end
end STb
namespace L2
open PySem PySem.Spec PyProof.Rows
section
variable{X:Cx}
abbrev dZ(ps:List (Int×V)):HO:=.dK (ps.map fun p=>(Sum.inl p.1,p.2))
def ints_of{ps:List (Int×V)}:∀{m:List (Key×Value)}{a:List Value},KV (ps.map fun p=>((Sum.inl p.1:Key),p.2)) m->a.length=m.length->(∀(i:Nat) v,a[i]?=some v->∃k x,m[i]?=some (k,x)/\(eP X.prog X.w).is k v=true)->IntsAre a (ps.map (·.1)):=by
 induction ps with
 |nil=>
  intro m a q h1 _;cases q;cases a with
  |nil=>exact .nil
  |cons _ _=>simp at h1
 |cons p ps ih=>
  intro m a q h1 h2;cases q with
  |@cons _ q' _ qs hq t=>
   cases a with
   |nil=>simp at h1
   |cons v a=>
    obtain⟨k,x,g1,g2⟩:=h2 0 v rfl;simp only[List.getElem?_cons_zero,Option.some.injEq] at g1;have hk:(Sum.inl p.1:Key)=k:=by rw[g1] at hq;exact hq.1
    subst hk;obtain⟨t',e2⟩:∃t',v=Value.int p.1 t':=Ln g2;subst e2;exact .cons _ _ (ih t (by simpa using h1) fun i v e=>by simpa using h2 (i+1) v (by simpa using e))
def vU(hc:X.calm=true):g0 X (.builtin "sorted") (fun xs H Q=>∃a ps,xs=[.ref a]/\H a=some (dZ ps)/\ps.length<64/\∀(D:Addr)(ms:List Int),ms.Perm (ps.map (·.1))->ms.Pairwise (·<=·)->H D=none->Q (.ref D) (upd H D (.lst (ms.map V.int)))):=by
 intro aa s σ H xs us Q I r h;obtain⟨a,ps,rfl,hq,hz,q⟩:=h;obtain⟨u,rfl,p⟩:=vals1 r;cases p;obtain⟨z,y,vs,d,dd⟩:=GN I.hok hq;obtain⟨ep,dd⟩:=dd.dictAt;have C:ps.length=vs.length:=by simpa using d.length
 refine STb.Md (ns:=ps.map (·.1)) (PySem.W.kdl_dict (knd:=eP X.prog X.w) (kvs:=vs) (ep:=ep) y) (I.ok.hd hc) dd ω (fun acc it=>ints_of (X:=X) d (by simpa using it.1) fun i v e=>it.2 i v (by simpa using e)) fun D h' tk e ad out c g j hi l=>?_;obtain⟨ks,x,f,A⟩:=Mc hi l;have hk:ks.length=ps.length:=by simpa using f.length_eq
 refine⟨.ref D,_,I.laid (o:=.lst (ks.map V.int)) (fun b u e=>g b u e) c (show zah X.prog X.w _ _ _ (.lst (ks.map V.int)) from⟨by rw[Aa,sizeLine_eq];(first|lia|omega),out.toList,e,x,by simpa using j⟩),rfl,q _ _ f A (I.hok.fresh c)⟩
end
end L2
end
section
namespace L2
open PySem PySem.Spec PyProof.Rows
section
variable{X:Cx}
def Me{kvs:List (Key×V)}(c:(kvs.map (·.1)).Nodup){k:Key}{v:V}(h:(k,v)∈kvs):b0 kvs k=some v:=by
 unfold b0
 induction kvs with
 |nil=>cases h
 |cons a r ih=>
  rw[A5,List.nodup_cons] at c;rcases List.mem_cons.mp h with e|e
  ·subst e
   simp
  ·have b:a.1≠k:=fun z=>c.1 (by rw[z];exact List.mem_map_of_mem (f:=(·.1)) e)
   rw[List.find?_cons_of_neg (by simpa using b)];exact ih c.2 e
def Mf{kvs:List (Key×V)}{k:Key}(h:∀a∈kvs,a.1≠k):b0 kvs k=none:=by
 unfold b0;rw[List.find?_eq_none.mpr fun a hk=>by simpa using h a hk]
 rfl
end
end L2
end
section
namespace K24
open PySem L2
abbrev js:Stmt:=top 27
abbrev eS(es:List (Nat×Addr)):List (Int×V):=es.map fun e=>((e.1:Int),V.ref e.2)
structure Fnd(H:Hp)(a:Addr)(es:List (Nat×Addr))(fr:Nat->List Int):Prop where
 at_:H a=some (dZ (eS es))
 nd:(es.map (·.1)).Nodup
 rows:∀e∈es,H e.2=some (.lst ((fr e.1).map V.int))
def Fnd.same{H H':Hp}{a:Addr}{es:List (Nat×Addr)}{fr:Nat->List Int}(h:Fnd H a es fr)(s:Same H H'):Fnd H' a es fr:=⟨s _ _ h.at_,h.nd,fun e b=>s _ _ (h.rows e b)⟩
def Mg{c d:Type}{f:c->d}{l:List c}(g:∀a b,f a=f b->a=b)(h:l.Nodup):(l.map f).Nodup:=by
 rw[List.Nodup,List.pairwise_map];exact h.imp fun n e=>n (g _ _ e)
def Fnd.get{H:Hp}{a:Addr}{es:List (Nat×Addr)}{fr:Nat->List Int}(h:Fnd H a es fr){p:Nat}(hp:p∈es.map (·.1)):∃d,(p,d)∈es/\DGet H a (.int p) (some (.ref d))/\H d=some (.lst ((fr p).map V.int)):=by
 obtain⟨e,c,rfl⟩:=List.mem_map.mp hp;refine⟨e.2,c,?_,h.rows e c⟩;have:=DGet.k (k:=Sum.inl (e.1:Int)) h.at_;rw[Me (v:=V.ref e.2) ?_ ?_] at this
 ·exact this
 ·have e2:((eS es).map fun p=>((Sum.inl p.1:Key),p.2)).map (·.1)=(es.map (·.1)).map fun n:Nat=>(Sum.inl (n:Int):Key):=by simp[eS,Function.comp_def]
  rw[e2];exact Mg (fun a b z=>by injection z with z;(first|lia|omega)) h.nd
 ·exact List.mem_map.mpr ⟨((e.1:Int),V.ref e.2),List.mem_map.mpr ⟨e,c,rfl⟩,rfl⟩
def c8(fr:Nat->List Int)(l:List Int)(p:Nat):List Int:=dF l (l.getD p 0 / (fr p).getD p 0) (fr p)
def aK(fr:Nat->List Int)(rn:List Int)(ps:List Nat):List Int:=ps.foldl (c8 fr) rn
structure kR(fr:Nat->List Int)(W:Nat)(rn:List Int)(ps:List Nat):Prop where
 len:rn.length=W
 most:W<=1000
 row:∀p∈ps,p<W/\(fr p).length=W/\Er 0 ((fr p).getD p 0)
 mul:∀i p,ps[i]?=some p->∀x∈fr p,eC ((aK fr rn (ps.take i)).getD p 0 / (fr p).getD p 0) x
def Ew{fr:Nat->List Int}{l:List Int}{p W:Nat}(h:l.length=W)(h2:(fr p).length=W):(c8 fr l p).length=W:=by
 unfold c8 dF;rw[Au];(first|lia|omega)
def pi{fr:Nat->List Int}{W:Nat}:∀{ps:List Nat}{rn:List Int},rn.length=W->(∀p∈ps,(fr p).length=W)->(aK fr rn ps).length=W
 |[],_,h,_=>h
 |p::ps,rn,h,h2=>pi (ps:=ps) (Ew h (h2 p (AM ..))) fun q hq=>h2 q (AJ _ hq)
def CC{fr:Nat->List Int}{rn:List Int}{ps:List Nat}{i p:Nat}(h:ps[i]?=some p):aK fr rn (ps.take (i+1))=c8 fr (aK fr rn (ps.take i)) p:=by
 rw[take_snoc h];unfold aK;rw[List.foldl_append];rfl
def Ex{l on:List Int}(h:l.length=on.length):dF l 0 on=l:=by
 unfold dF;refine AT (by rw[Au];(first|lia|omega)) fun i h1 h2=>?_;rw[AR];(first|lia|omega)
section
variable{P:Program}{w:World}{K:Ag}{mg:Str->Option Value}{base:Heap}
def Ho:Sp:=fun vs H Q _=>∃(r a pl:Addr)(rn:List Int)(es:List (Nat×Addr))(fr:Nat->List Int)(ps:List Nat)(W:Nat),vs=[.ref r,.ref a,.ref pl]/\H r=some (.lst (rn.map V.int))/\Fnd H a es fr/\H pl=some (.lst (ps.map fun p:Nat=>V.int (p:Int)))/\
 (∀p∈ps,p∈es.map (·.1))/\kR fr W rn ps/\∀D H',Same H H'->H' D=some (.lst ((aK fr rn ps).map V.int))->Q (.ref D) H'
def v_:zo ["row","found","places","left","place","often"] ["row","found","places"] (zf js):=⟨rfl,rfl,rfl,δ,rfl,δ,δ⟩
def Mh{f o:Addr}{fd u:FuncData}(F:Fun K "reduced" "reduced" js f fd)(Fl:Fun K "less" "less" kL o u)(bl:Binds K u ["row","often","other"] [])(N:mg "less"=some (.ref o))(Gl:ah P w K mg base au 1 o u ["row","often","other"] vI):ah P w K mg base au 2 f fd ["row","found","places"] Ho:=by
 refine F.ok v_ (fun vs H Q E h=>?_) (fun O A outer s H vs Q E hr h=>?_)
 ·obtain⟨r,a,pl,rn,es,fr,ps,W,rfl,_⟩:=h;rfl
 ·obtain⟨r,a,pl,rn,es,fr,ps,W,rfl,h1,J,b,L,ok,k⟩:=h
  have C:=Ck hr;refine⟨_,zc (zp (i:=3) v_.nd rfl (Or.inl rfl) (pv 0))
   (zc (iw Bb rfl (zO (pv 2)) (zm (i:=4) v_.nd rfl (Or.inl rfl))
    (zc (zp (i:=5) v_.nd rfl (Or.inl rfl) (zF Cv (zw zx (pv 3) (pv 4) (fun _ _=>rfl)) (zw zx (mj C (pv 1) (pv 4) (fun _ _=>rfl)) (pv 4) (fun _ _=>rfl))))
    (zh (cv (zr gx (pv 5) zd (ap _))
     (zh (zp (i:=3) v_.nd rfl (Or.inl rfl) (ze Gl hr rfl N Fl.kp bl .nil af (za (pv 3) (za (pv 5) (za (mj C (pv 1) (pv 4) (fun _ _=>rfl)) zb)))))) zI))))
   (zh (zq (pv 3)))),?_⟩
  refine⟨_,rfl,_,rfl,pl,rfl,⟨_,SqL.of b⟩,Cd (K:=K) (a:=pl) (xs:=ps.map fun p:Nat=>V.int (p:Int)) (fun i σ H2=>∃(d:Addr)(j l:Option V),σ=[some (.ref r),some (.ref a),some (.ref pl),some (.ref d),j,l]/\Same H H2/\H2 d=some (.lst ((aK fr rn (ps.take i)).map V.int)))
   ⟨r,none,none,rfl,Same.refl H,h1⟩ (fun i σ H2 _ ⟨_,_,_,_,sm,_⟩=>SqL.of (sm _ _ b)) ?_ ?_⟩
  ·rintro i x σ H2 hx ⟨d,j,l,rfl,sm,hd⟩
   obtain⟨p,hp,rfl⟩:∃p,ps[i]?=some p/\x=V.int (p:Int):=by
    rw[Aj] at hx;cases e:ps[i]? with
    |none=>rw[e] at hx;cases hx
    |some p=>rw[e] at hx;cases hx;exact⟨p,rfl,rfl⟩
   have G:=An hp;obtain⟨S,T,M⟩:=ok.row p G;obtain⟨c,hc,v,y⟩:=(J.same sm).get (L p G);have U:(aK fr rn (ps.take i)).length=W:=pi ok.len fun q hq=>(ok.row q (List.mem_of_mem_take hq)).2.1;have g1:((aK fr rn (ps.take i)).map V.int)[p]?=some (V.int ((aK fr rn (ps.take i)).getD p 0)):=by
    rw[Aj,Ac,Ab ω];rfl
   have g2:((fr p).map V.int)[p]?=some (V.int ((fr p).getD p 0)):=by
    rw[Aj,Ac,Ab ω];rfl
   refine⟨_,rfl,_,rfl,d,_,_,_,rfl,rfl,SqL.of hd,zi g1,_,rfl,_,rfl,a,_,rfl,v,_,rfl,c,_,_,_,rfl,rfl,SqL.of y,zi g2,_,_,rfl,rfl,M,?_⟩;refine⟨_,rfl,rfl,_,rfl,?_⟩
   by_cases z:(aK fr rn (ps.take i)).getD p 0 / (fr p).getD p 0=0
   ·rw[show(!decide (V.int ((aK fr rn (ps.take i)).getD p 0 / (fr p).getD p 0)=V.int 0))=false by rw[z];rfl]
    refine aI ⟨d,_,_,rfl,sm,?_⟩;rw[CC hp,c8,z,Ex ω];exact hd
   ·rw[show(!decide (V.int ((aK fr rn (ps.take i)).getD p 0 / (fr p).getD p 0)=V.int 0))=true by rw[decide_eq_false (fun e=>z (by injection e))];rfl]
    refine aR ⟨_,rfl,_,rfl,_,rfl,_,rfl,a,_,rfl,v,d,c,_,_,_,rfl,hd,y,by have:=ok.most;(first|lia|omega),ok.mul i p hp,fun D X I _ g=>?_⟩;refine⟨D,_,_,rfl,sm.trans I,?_⟩;rw[CC hp];exact g
  ·rintro σ H2 ⟨d,j,l,rfl,sm,hd⟩
   rw[Aa,Ax (Ad _)] at hd;exact⟨_,rfl,k d H2 sm hd⟩
end
abbrev jy:Stmt:=top 33
def v':A7 "sorted"=some (.builtin "sorted"):=δ
structure Pls(es:List (Nat×Addr))(ps:List Nat):Prop where
 pm:ps.Perm (es.map (·.1))
 so:ps.Pairwise (·<=·)
def Pls.ints{es:List (Nat×Addr)}{ps:List Nat}(h:Pls es ps){ms:List Int}(h1:ms.Perm ((eS es).map (·.1)))(h2:ms.Pairwise (·<=·)):ms.map V.int=ps.map fun p:Nat=>V.int (p:Int):=by
 have e:ms=ps.map fun p:Nat=>(p:Int):=by
  refine List.Perm.eq_of_pairwise (le:=(·<=·)) (fun a b _ _ x y=>Int.le_antisymm x y) h2 ?_ (h1.trans ?_)
  ·rw[List.pairwise_map];exact h.so.imp fun z=>ω
  ·have:(eS es).map (·.1)=(es.map (·.1)).map fun p:Nat=>(p:Int):=by simp[eS,Function.comp_def]
   rw[this];exact(h.pm.map _).symm
 rw[e,AS];rfl
def Pls.len{es:List (Nat×Addr)}{ps:List Nat}(h:Pls es ps):ps.length=es.length:=by rw[h.pm.length_eq,Aa]
def shrL(fr:Nat->List Int):List Int->List Nat->List Int
 |_,[]=>[]
 |l,p::ps=>(l.getD p 0 / (fr p).getD p 0)::shrL fr (c8 fr l p) ps
def Hq{fr:Nat->List Int}:∀{ps:List Nat}{rn:List Int}{i p:Nat},ps[i]?=some p->(shrL fr rn ps)[i]?=some ((aK fr rn (ps.take i)).getD p 0 / (fr p).getD p 0)
 |[],_,_,_,h=>by simp at h
 |q::ps,rn,0,p,h=>by simp at h;subst h;rfl
 |q::ps,rn,i+1,p,h=>by
  have:=Hq (fr:=fr) (ps:=ps) (rn:=c8 fr rn q) (i:=i) (p:=p) (by simpa using h)
  simpa[shrL,aK] using this
def wa{fr:Nat->List Int}:∀{ps:List Nat}{rn:List Int},(shrL fr rn ps).length=ps.length
 |[],_=>rfl
 |q::ps,rn=>by simp[shrL,wa (ps:=ps)]
section
variable{P:Program}{w:World}{K:Ag}{mg:Str->Option Value}{base:Heap}
def Ey:Sp:=fun vs H Q _=>∃(r a:Addr)(rn:List Int)(es:List (Nat×Addr))(fr:Nat->List Int)(ps:List Nat)(W:Nat),vs=[.ref r,.ref a]/\H r=some (.lst (rn.map V.int))/\Fnd H a es fr/\Pls es ps/\es.length<64/\kR fr W rn ps/\kO H Q (shrL fr rn ps)
def pj:zo ["row","found","told","left","place","often"] ["row","found"] (zf jy):=⟨rfl,rfl,rfl,δ,rfl,δ,δ⟩
def Mj{f N:Addr}{fd O:FuncData}(F:Fun K "shares_of" "shares_of" jy f fd)(bs:mg "sorted"=none)(Fl:Fun K "less" "less" kL N O)(bl:Binds K O ["row","often","other"] [])(ml:mg "less"=some (.ref N))(Gl:ah P w K mg base au 1 N O ["row","often","other"] vI):ah P w K mg base au 2 f fd ["row","found"] Ey:=by
 refine F.ok pj (fun vs H Q E h=>?_) (fun ai A outer s H vs Q E hr h=>?_)
 ·obtain⟨r,a,rn,es,fr,ps,W,rfl,_⟩:=h;rfl
 ·obtain⟨r,a,rn,es,fr,ps,W,rfl,h1,u,pls,dP,ok,k⟩:=h
  have X:=Ck hr;refine⟨_,zc (zp (i:=2) pj.nd rfl (Or.inl rfl) (hV zb))
   (zc (zp (i:=3) pj.nd rfl (Or.inl rfl) (pv 0))
   (zc (iw Bb rfl (zO (zn (vU rfl) rfl bs v' (za (pv 1) zb))) (zm (i:=4) pj.nd rfl (Or.inl rfl))
    (zc (zp (i:=5) pj.nd rfl (Or.inl rfl) (zF Cv (zw zx (pv 3) (pv 4) (fun _ _=>rfl)) (zw zx (mj X (pv 1) (pv 4) (fun _ _=>rfl)) (pv 4) (fun _ _=>rfl))))
    (zc (lA (GH PySem.F.plainAttrs_list PySem.F.slot_list_append PySem.F.type_list_append DY (pv 2) (za (pv 5) zb)))
    (zh (cv (zr gx (pv 5) zd (ap _))
     (zh (zp (i:=3) pj.nd rfl (Or.inl rfl) (ze Gl hr rfl ml Fl.kp bl .nil af (za (pv 3) (za (pv 5) (za (mj X (pv 1) (pv 4) (fun _ _=>rfl)) zb)))))) zI)))))
   (zh (zq (pv 2))))),?_⟩
  refine⟨ξ,fun T l=>⟨_,rfl,_,rfl,a,eS es,rfl,?_,(by simpa using dP),fun j ms pm so S=>⟨j,rfl,⟨_,SqL.of ac⟩,?_⟩⟩⟩
  ·have:a≠T:=zl u.at_ l
   rw[al this];exact u.at_
  rw[pls.ints pm so];have Y:T≠j:=zl ac S;have Z:Same H (upd (upd H T (.lst [])) j (.lst (ps.map fun p:Nat=>V.int (p:Int)))):=(Same.new l).trans (Same.new S);have BQ:=pls.len;refine Cd (K:=K) (a:=j) (xs:=ps.map fun p:Nat=>V.int (p:Int)) (fun i σ H2=>∃(d:Addr)(C G:Option V),σ=[some (.ref r),some (.ref a),some (.ref T),some (.ref d),C,G]/\Same H H2/\H2 j=some (.lst (ps.map fun p:Nat=>V.int (p:Int)))/\H2 T=some (.lst (((shrL fr rn ps).take i).map V.int))/\H2 d=some (.lst ((aK fr rn (ps.take i)).map V.int))/\d≠T)
   ⟨r,none,none,rfl,Z,ac,by rw[al Y];exact ac,Z _ _ h1,zl h1 l⟩ (fun i σ H2 _ ⟨_,_,_,_,_,h,_⟩=>SqL.of h) ?_ ?_
  ·rintro i x σ H2 hx ⟨d,C,G,rfl,sm,U,o,hd,I⟩
   obtain⟨p,hp,rfl⟩:∃p,ps[i]?=some p/\x=V.int (p:Int):=by
    rw[Aj] at hx;cases e:ps[i]? with
    |none=>rw[e] at hx;cases hx
    |some p=>rw[e] at hx;cases hx;exact⟨p,rfl,rfl⟩
   have fj:=An hp;obtain⟨pW,fW,cd⟩:=ok.row p fj;have nQ:p∈es.map (·.1):=pls.pm.mem_iff.mp fj;obtain⟨c,hc,J,L⟩:=(u.same sm).get nQ;have ao:(aK fr rn (ps.take i)).length=W:=pi ok.len fun q hq=>(ok.row q (List.mem_of_mem_take hq)).2.1;have g1:((aK fr rn (ps.take i)).map V.int)[p]?=some (V.int ((aK fr rn (ps.take i)).getD p 0)):=by
    rw[Aj,Ac,Ab ω];rfl
   have g2:((fr p).map V.int)[p]?=some (V.int ((fr p).getD p 0)):=by
    rw[Aj,Ac,Ab ω];rfl
   have g3:=Hq (fr:=fr) (rn:=rn) hp;refine⟨_,rfl,_,rfl,d,_,_,_,rfl,rfl,SqL.of hd,zi g1,_,rfl,_,rfl,a,_,rfl,J,_,rfl,c,_,_,_,rfl,rfl,SqL.of L,zi g2,_,_,rfl,rfl,cd,?_⟩;refine⟨_,rfl,.inl ⟨rfl,_,SqL.of o⟩,_,rfl,T,_,_,rfl,rfl,o,by rw[sizeLine_eq,Aa,List.length_take,wa];(first|lia|omega),?_⟩;have e4:((shrL fr rn ps).take i).map V.int++[V.int ((aK fr rn (ps.take i)).getD p 0 / (fr p).getD p 0)]=((shrL fr rn ps).take (i+1)).map V.int:=by rw[take_snoc g3,AD];rfl
   rw[e4];have v:Same H (upd H2 T (.lst (((shrL fr rn ps).take (i+1)).map V.int))):=sm.then l;have M:upd H2 T (.lst (((shrL fr rn ps).take (i+1)).map V.int)) j=some (.lst (ps.map fun p:Nat=>V.int (p:Int))):=by rw[al Y.symm];exact U
   have g:upd H2 T (.lst (((shrL fr rn ps).take (i+1)).map V.int)) d=some (.lst ((aK fr rn (ps.take i)).map V.int)):=by rw[al I];exact hd
   have b:upd H2 T (.lst (((shrL fr rn ps).take (i+1)).map V.int)) T=some (.lst (((shrL fr rn ps).take (i+1)).map V.int)):=ac;generalize upd H2 T (.lst (((shrL fr rn ps).take (i+1)).map V.int))=H3 at v M g b ⊢;refine⟨_,rfl,rfl,_,rfl,?_⟩
   by_cases z:(aK fr rn (ps.take i)).getD p 0 / (fr p).getD p 0=0
   ·rw[show(!decide (V.int ((aK fr rn (ps.take i)).getD p 0 / (fr p).getD p 0)=V.int 0))=false by rw[z];rfl]
    refine aI ⟨d,_,_,rfl,v,M,b,?_,I⟩;rw[CC hp,c8,z,Ex ω];exact g
   ·rw[show(!decide (V.int ((aK fr rn (ps.take i)).getD p 0 / (fr p).getD p 0)=V.int 0))=true by rw[decide_eq_false (fun e=>z (by injection e))];rfl]
    obtain⟨c,hc,J,L⟩:=(u.same v).get nQ;refine aR ⟨_,rfl,_,rfl,_,rfl,_,rfl,a,_,rfl,J,d,c,_,_,_,rfl,g,L,by have:=ok.most;(first|lia|omega),ok.mul i p hp,fun D H4 y hD bM=>?_⟩;refine⟨D,_,_,rfl,v.trans y,y _ _ M,y _ _ b,?_,(zl b hD).symm⟩;rw[CC hp];exact bM
  ·rintro σ H2 ⟨d,C,G,rfl,sm,U,o,hd,I⟩
   rw[Aa,Ax (by rw[wa];exact Ad _)] at o;exact⟨_,rfl,k T H2 sm l o⟩
end
end K24
end
section
namespace Tb
def cC(N X B:Nat):Nat:=N*(B*X)
def cW(N B:Nat):Nat:=2*B*B*(1+2*B*B) ^ N
def cG(N B:Nat):Nat:=2*B*(1+N*cW N B)
def cK(N M X B:Nat):Nat:=1+cC N X B+N*(M*(1+B) ^ N*cC N X B)
def zV{a b:Nat}(c:1<=a)(hb:1<=b):1<=a*b:=Nat.mul_pos c hb
def CG{N B:Nat}(a:1<=B):1<=cG N B:=zV (zV ξ a) ω
def Rep.more{R:List Vc}{C:Nat}{v r:Vc}(h:Rep R C v):Rep (R++[r]) C v:=by
 obtain⟨c,h1,h2,e⟩:=h;have d:∀(c:List Int)(R:List Vc),c.length=R.length->∀u,cmb (c++[0]) (R++[r]) u=cmb c R u:=by
  intro c
  induction c with
  |nil=>intro R b u;rw[AG b.symm];show 0*r u+0=0;(first|lia|omega)
  |cons a c ih=>
   intro R b u;cases R with
   |nil=>simp at b
   |cons s R=>show a*s u+cmb (c++[0]) (R++[r]) u=a*s u+cmb c R u;rw[ih R (by simpa using b)]
 refine⟨c++[0],by simp[h1],fun u=>by rw[d c R h1,h2],fun x hx=>?_⟩;rcases List.mem_append.mp hx with h|h
 ·exact e x h
 ·rw[List.mem_singleton.mp h];exact At _
def Sp.more{R:List Vc}{v:Vc}(h:Sp R v)(S:List Vc)(a:∀r∈R,r∈S):Sp S v:=h.trans fun r hr=>Sp.mem (a r hr)
def Sp.redu{f:Nat->Vc}{S:List Vc}:∀(ps:List Nat){l:Vc},(∀p∈ps,Sp S (f p))->(Sp S l↔Sp S (aV f ps l))
 |[],_,_=>Iff.rfl
 |p::ps,l,h=>by
  refine Iff.trans ?_ (Sp.redu ps fun q hq=>h q (.tail _ hq));exact⟨fun a=>a.sub (h p (.head _)) _,fun a=>(a.sub (h p (.head _)) (-(l p / f p p))).eq fun u=>by unfold step;rw[Int.neg_mul];(first|lia|omega)⟩
structure TS(N M X B:Nat)(R:List Vc)(P:List Nat)(f:Nat->Vc)(l:Vc)(t:Nat):Prop where
 ech:Ech P f
 srt:P.Pairwise (·<·)
 len:P.length+1=R.length
 few:R.length<=N
 fr:∀p∈P,Rep R (cK N M X B*cG N B ^ (P.filter fun p=>decide (p<t)).length) (f p)
 lr:Rep R (cK N M X B*cG N B ^ (P.filter fun p=>decide (p<t)).length) l
 gen:∀r∈R,Sp (P.map f++[l]) r
 low:∀i,i<t->l i=0
 red:∀p∈P,0<=l p/\l p<f p p
 piv:∀p∈P,(f p p).natAbs<=B
 fv:∀p∈P,∀q∈P,(f p q).natAbs<=2*B*B
 fo:∀p∈P,t<=p->∀q∈P,(f p q).natAbs<=B
def put(f:Nat->Vc)(p:Nat)(v:Vc):Nat->Vc:=fun q=>if q=p then v else f q
def zR{f:Nat->Vc}{p:Nat}{v:Vc}:put f p v p=v:=if_pos rfl
def dY{f:Nat->Vc}{p q:Nat}{v:Vc}(h:q≠p):put f p v q=f q:=if_neg h
def mix(a:Int)(v:Vc)(b:Int)(w:Vc):Vc:=fun u=>a*v u+b*w u
def TS.next{N M X B:Nat}{R:List Vc}{P:List Nat}{f:Nat->Vc}{l:Vc}{t p:Nat}{g a b c d:Int}(hB:1<=B)(T:TS N M X B R P f l t)(hp:p∈P)(A:∀i,i<p->l i=0)(pU:l p≠0)(jr:t<=p)(G:GI (f p p) (l p) g a b 0 c d):TS N M X B R P (put f p (mix a (f p) b l)) (aV (put f p (mix a (f p) b l)) P (mix c (f p) d l)) (p+1)/\Ech P (put f p (mix a (f p) b l)):=by
 have hG:=CG (N:=N) hB;have x0:=T.ech.pos p hp;obtain⟨r0,r1⟩:=T.red p hp;have L:=T.piv p hp;obtain⟨c1,c2⟩:=G.le;have a1:a.natAbs<=B:=Ae G.b1 ω;have O:b.natAbs<=B:=Ae G.b2 L;have c1:c.natAbs<=B:=Ae c1 ω;have d1:d.natAbs<=B:=Ae c2 L;have lq:∀q∈P,(l q).natAbs<=B:=fun q hq=>by have:=T.red q hq;have:=T.piv q hq;(first|lia|omega)
 have fp:=T.fo p hp jr;have S:∀{a b:Int},a.natAbs<=B->b.natAbs<=B->∀q∈P,(mix a (f p) b l q).natAbs<=2*B*B:=fun{a b} H hb q hq=>by
  have t1:(a*f p q).natAbs<=B*B:=by rw[AB];exact AQ H (fp q hq)
  have t2:(b*l q).natAbs<=B*B:=by rw[AB];exact AQ hb (lq q hq)
  have t3:=Int.natAbs_add_le (a*f p q) (b*l q);show(a*f p q+b*l q).natAbs<=_;rw[AN];generalize B*B=Y at t1 t2 ⊢;(first|lia|omega)
 have C:mix a (f p) b l p=g:=by show a*f p p+b*l p=g;exact G.t.symm
 have g1:=G.tp;have iW:g.natAbs<=B:=by
  have U:=G.m2;rw[Int.natAbs_zero,Nat.mul_zero,Nat.add_zero] at U;rcases Nat.eq_zero_or_pos d.natAbs with z|z
  ·rw[z,Nat.zero_mul] at U;(first|lia|omega)
  ·have:1*g.natAbs<=d.natAbs*g.natAbs:=Ak _ z
   (first|lia|omega)
 have j:Ech P (put f p (mix a (f p) b l)):=by
  refine⟨fun q hq i hi=>?_,fun q hq=>?_⟩
  ·by_cases e:q=p
   ·subst e;rw[zR];show a*f q i+b*l i=0;rw[T.ech.z q hq i hi,A i hi];(first|lia|omega)
   ·rw[dY e];exact T.ech.z q hq i hi
  ·by_cases e:q=p
   ·subst e;rw[zR,C];exact g1
   ·rw[dY e];exact T.ech.pos q hq
 refine⟨?_,j⟩;have D:P.length<=N:=by have:=T.len;have:=T.few;(first|lia|omega)
 generalize hK:cK N M X B*cG N B ^ (P.filter fun p=>decide (p<t)).length=K;have fr:=T.fr;have W:=T.lr;rw[hK] at fr W;have mr:∀{a b:Int},a.natAbs<=B->b.natAbs<=B->Rep R (2*B*K) (mix a (f p) b l):=fun{a b} H hb=>((fr p hp).lin W H hb).mono (by rw[AN];(first|lia|omega));have kl:K<=2*B*K:=Nat.le_mul_of_pos_left _ ω;have c5:∀q∈P,Rep R (2*B*K) (put f p (mix a (f p) b l) q):=fun q hq=>by
  by_cases e:q=p
  ·subst e;rw[zR];exact mr a1 O
  ·rw[dY e];exact(fr q hq).mono kl
 have E:∀q∈P,∀r∈P,(put f p (mix a (f p) b l) q r).natAbs<=2*B*B:=fun q hq r hr=>by
  by_cases e:q=p
  ·subst e;rw[zR];exact S a1 O r hr
  ·rw[dY e];exact T.fv q hq r hr
 obtain⟨ni,yB⟩:=mM c5 E j.pos P (fun q hq=>hq) (mr c1 d1) (S c1 d1);have cnt:(P.filter fun q=>decide (q<t)).length+1<=(P.filter fun q=>decide (q<p+1)).length:=by
  have h1:(P.filter fun q=>decide (q<t))++[p] ⊆ P.filter fun q=>decide (q<p+1):=fun q hq=>by
   rcases List.mem_append.mp hq with h|h
   ·obtain⟨h1,h2⟩:=List.mem_filter.mp h
    have:=of_decide_eq_true h2;exact List.mem_filter.mpr ⟨h1,decide_eq_true ω⟩
   ·rw[List.mem_singleton.mp h];exact List.mem_filter.mpr ⟨hp,decide_eq_true ω⟩
  have nd:P.Nodup:=T.srt.imp fun h=>AA h;have J:((P.filter fun q=>decide (q<t))++[p]).Nodup:=by
   rw[List.nodup_append];refine⟨nd.filter _,by simp,fun x hx y hy=>?_⟩;rw[List.mem_singleton.mp hy];have:=of_decide_eq_true (List.mem_filter.mp hx).2;(first|lia|omega)
  have:=J.length_le_of_subset h1
  simpa using this
 have o:2*B*K+P.length*(2*B*B*(1+2*B*B) ^ P.length*(2*B*K))<=cG N B*K:=by
  unfold cG cW;have h1:(1+2*B*B) ^ P.length<=(1+2*B*B) ^ N:=AC ω D;generalize 2*B*B=Y at h1 ⊢;have h2:P.length*(Y*(1+Y) ^ P.length*(2*B*K))<=N*(Y*(1+Y) ^ N*(2*B*K)):=AQ D (Ak _ (Al _ h1));refine Ae (Nat.add_le_add_left h2 _) (Nat.le_of_eq ?_);generalize Y*(1+Y) ^ N=Z;generalize 2*B=Q;rw[Nat.mul_add,Nat.mul_one,Nat.add_mul,<-AN N Z,Nat.mul_comm Q (N*Z),AN (N*Z)]
 have v:cG N B*K<=cK N M X B*cG N B ^ (P.filter fun q=>decide (q<p+1)).length:=by
  rw[<-hK,Nat.mul_left_comm,<-Nat.pow_succ'];exact Al _ (AC hG cnt)
 have two:2*B*K<=cG N B*K:=Ae (A0 _ _) o;have F:=G.det;refine⟨j,T.srt,T.len,T.few,fun q hq=>(c5 q hq).mono (Ae two v),ni.mono (Ae o v),fun r hr=>?_,?_,fun q hq=>CA j T.srt q hq,fun q hq=>?_,E,fun q hq hlt r hr=>?_⟩
 ·-- eA old rows out of eA new ones
  have S1:∀q∈P,Sp (P.map (put f p (mix a (f p) b l))++[aV (put f p (mix a (f p) b l)) P (mix c (f p) d l)]) (put f p (mix a (f p) b l) q):=fun q hq=>Sp.mem (A6 _ (List.mem_map.mpr ⟨q,hq,rfl⟩));have S2:=(Sp.redu P (l:=mix c (f p) d l) S1).mpr (Sp.mem (Ay _ (List.mem_singleton.mpr rfl)));have Sp1:=S1 p hp;rw[zR] at Sp1;have ef:∀{x y z w:Int},(a*d-b*c=1\/a*d-b*c=-1)->∀u,x=(a*d-b*c)*d->y=(a*d-b*c)*(-b)->x*mix a (f p) b l u+y*mix c (f p) d l u=f p u:=fun{x y z w} hd u ex I=>by
   subst ex I;show(a*d-b*c)*d*(a*f p u+b*l u)+(a*d-b*c)*(-b)*(c*f p u+d*l u)=f p u;have e:(a*d-b*c)*d*(a*f p u+b*l u)+(a*d-b*c)*(-b)*(c*f p u+d*l u)=(a*d-b*c)*(a*d-b*c)*f p u:=by
    rw[AU,AU,AU,<-Bg]
    congr 1
    rw[Bg,Bg,Int.neg_mul,Int.neg_mul,<-AU,<-AU,<-AU,<-AU,Int.sub_mul,A9 d a,A9 d b];(first|lia|omega)
   rw[e];rcases hd with h|h<;>rw[h]<;>(first|lia|omega)
  have el:∀{x y:Int},(a*d-b*c=1\/a*d-b*c=-1)->∀u,x=(a*d-b*c)*(-c)->y=(a*d-b*c)*a->x*mix a (f p) b l u+y*mix c (f p) d l u=l u:=fun{x y} hd u ex I=>by
   subst ex I;show(a*d-b*c)*(-c)*(a*f p u+b*l u)+(a*d-b*c)*a*(c*f p u+d*l u)=l u;have e:(a*d-b*c)*(-c)*(a*f p u+b*l u)+(a*d-b*c)*a*(c*f p u+d*l u)=(a*d-b*c)*(a*d-b*c)*l u:=by
    rw[AU,AU,AU,<-Bg]
    congr 1
    rw[Bg,Bg,Int.neg_mul,Int.neg_mul,<-AU,<-AU,<-AU,<-AU,Int.sub_mul,A9 c a,A9 c b];(first|lia|omega)
   rw[e];rcases hd with h|h<;>rw[h]<;>(first|lia|omega)
  have Sf:=(Sp1.lin S2 ((a*d-b*c)*d) ((a*d-b*c)*(-b))).eq (w:=f p) fun u=>(ef (z:=0) (w:=0) F u rfl rfl).symm;have Sl:=(Sp1.lin S2 ((a*d-b*c)*(-c)) ((a*d-b*c)*a)).eq (w:=l) fun u=>(el F u rfl rfl).symm;refine(T.gen r hr).trans fun s hs=>?_;rcases List.mem_append.mp hs with h|h
  ·obtain⟨q,hq,rfl⟩:=List.mem_map.mp h
   by_cases e:q=p
   ·subst e;exact Sf
   ·have:=S1 q hq
    rw[dY e] at this;exact this
  ·rw[List.mem_singleton.mp h];exact Sl
 ·refine Hj j fun i hi=>?_
  show c*f p i+d*l i=0
  by_cases e:i=p
  ·subst e;exact G.l.symm
  ·rw[T.ech.z p hp i ω,A i ω];(first|lia|omega)
 ·by_cases e:q=p
  ·subst e;rw[zR,C];exact iW
  ·rw[dY e];exact T.piv q hq
 ·rw[dY (show q≠p from ω)];exact T.fo q hq ω r hr
def ins(q:Nat):List Nat->List Nat
 |[]=>[q]
 |p::P=>if q<p then q::p::P else p::ins q P
def mem_ins{q x:Nat}:∀{P:List Nat},x∈ins q P↔x=q\/x∈P
 |[]=>by simp[ins]
 |p::P=>by
  unfold ins;split
  ·simp
  ·rw[List.mem_cons,mem_ins,List.mem_cons]
   constructor
   ·rintro(h|h|h)
    ·exact .inr (.inl h)
    ·exact .inl h
    ·exact .inr (.inr h)
   ·rintro(h|h|h)
    ·exact .inr (.inl h)
    ·exact .inl h
    ·exact .inr (.inr h)
def Ez{q:Nat}:∀{P:List Nat},(ins q P).length=P.length+1
 |[]=>rfl
 |p::P=>by unfold ins;split<;>simp[Ez]
def Hr{q:Nat}:∀{P:List Nat},P.Pairwise (·<·)->q∉P->(ins q P).Pairwise (·<·)
 |[],_,_=>by simp[ins]
 |p::P,h,hn=>by
  rw[Ba] at h;unfold ins;split
  ·rename_i hlt
   rw[Ba,Ba];refine⟨fun x hx=>?_,h⟩;rcases List.mem_cons.mp hx with rfl|hx
   ·exact hlt
   ·exact Nat.lt_trans hlt (h.1 x hx)
  ·rename_i hlt
   rw[Ba];refine⟨fun x hx=>?_,Hr h.2 fun z=>hn (.tail _ z)⟩;rcases mem_ins.mp hx with rfl|hx
   ·have:x≠p:=fun z=>hn (z▸.head _)
    (first|lia|omega)
   ·exact h.1 x hx
def a0(f:Nat->Vc):List Nat->Nat->Vc
 |[]=>f
 |p::ps=>put (a0 f ps) p (aV (a0 f ps) ps (f p))
section
variable{f:Nat->Vc}
def Hs:∀{ps:List Nat}{q:Nat},q∉ps->a0 f ps q=f q
 |[],_,_=>rfl
 |p::ps,q,h=>by
  show put (a0 f ps) p _ q=f q;rw[dY (show q≠p from fun z=>h (by rw[z];exact .head _)),Hs fun z=>h (.tail _ z)]
def pq{p q:Nat}{ps:List Nat}(h:q≠p):a0 f (p::ps) q=a0 f ps q:=dY h
def wh{p:Nat}{ps:List Nat}:a0 f (p::ps) p=aV (a0 f ps) ps (f p):=zR
def EA:∀{ps:List Nat},Ech ps f->ps.Pairwise (·<·)->Ech ps (a0 f ps)/\∀p∈ps,a0 f ps p p=f p p
 |[],_,_=>⟨⟨(fun p hp=>nomatch hp),(fun p hp=>nomatch hp)⟩,fun p hp=>nomatch hp⟩
 |p::ps,h,hs=>by
  rw[Ba] at hs;obtain⟨e1,e2⟩:=EA (h.sub fun q hq=>.tail _ hq) hs.2;have ne:∀q∈ps,q≠p:=fun q hq=>Ne.symm (AA (hs.1 q hq));have hd:a0 f (p::ps) p p=f p p:=by rw[wh,Cz e1 fun q hq=>hs.1 q hq]
  have tl:∀q∈ps,a0 f (p::ps) q q=f q q:=fun q hq=>by rw[pq (ne q hq)];exact e2 q hq
  refine⟨⟨fun q hq i hi=>?_,fun q hq=>?_⟩,fun q hq=>?_⟩
  ·rcases List.mem_cons.mp hq with rfl|hq
   ·rw[wh,Cz e1 fun r hr=>Nat.lt_trans hi (hs.1 r hr)];exact h.z q (.head _) i hi
   ·rw[pq (ne q hq)];exact e1.z q hq i hi
  ·rcases List.mem_cons.mp hq with rfl|hq
   ·rw[hd];exact h.pos q (.head _)
   ·rw[tl q hq];exact h.pos q (.tail _ hq)
  ·rcases List.mem_cons.mp hq with rfl|hq
   ·exact hd
   ·exact tl q hq
def EB:∀{ps:List Nat},Ech ps f->ps.Pairwise (·<·)->∀p∈ps,∀q∈ps,p<q->0<=a0 f ps p q/\a0 f ps p q<a0 f ps q q
 |p::ps,h,hs,r,hr,q,hq,hlt=>by
  rw[Ba] at hs;have h':Ech ps f:=h.sub fun q hq=>.tail _ hq;obtain⟨e1,e2⟩:=EA h' hs.2;have ne:∀q∈ps,q≠p:=fun q hq=>Ne.symm (AA (hs.1 q hq));have a:q∈ps:=by
   rcases List.mem_cons.mp hq with rfl|hq
   ·rcases List.mem_cons.mp hr with rfl|hr
    ·(first|lia|omega)
    ·have:=hs.1 r hr;(first|lia|omega)
   ·exact hq
  rw[pq (ne q a)];rcases List.mem_cons.mp hr with rfl|hr
  ·rw[wh];exact CA e1 hs.2 q a
  ·rw[pq (ne r hr)];exact EB h' hs.2 r hr q a hlt
def Hu:∀{ps:List Nat}{S:List Vc},ps.Nodup->(∀p∈ps,Sp S (a0 f ps p))->∀p∈ps,Sp S (f p)
 |p::ps,S,nd,h,q,hq=>by
  obtain⟨n1,n2⟩:=List.nodup_cons.mp nd;have ne:∀q∈ps,q≠p:=fun q hq z=>n1 (z▸hq);have a:∀q∈ps,Sp S (a0 f ps q):=fun q hq=>by have:=h q (.tail _ hq);rwa [pq (ne q hq)] at this
  rcases List.mem_cons.mp hq with rfl|hq
  ·have:=h q (.head _)
   rw[wh] at this;exact(Sp.redu ps a).mpr this
  ·exact Hu n2 a q hq
def Hv:∀{ps:List Nat}{S:List Vc},ps.Nodup->(∀p∈ps,Sp S (f p))->∀p∈ps,Sp S (a0 f ps p)
 |p::ps,S,nd,h,q,hq=>by
  obtain⟨n1,n2⟩:=List.nodup_cons.mp nd;have a:=Hv (S:=S) n2 fun q hq=>h q (.tail _ hq);rcases List.mem_cons.mp hq with rfl|hq
  ·rw[wh];exact(Sp.redu ps a).mp (h q (.head _))
  ·rw[pq (show q≠p from fun z=>n1 (z▸hq))];exact a q hq
end
structure FS(N M X B:Nat)(R:List Vc)(P:List Nat)(f:Nat->Vc):Prop where
 ech:Ech P f
 srt:P.Pairwise (·<·)
 len:P.length=R.length
 few:R.length<=N
 fr:∀p∈P,Rep R (cC N X B) (f p)
 gen:∀r∈R,Sp (P.map f) r
 red:∀p∈P,∀q∈P,p<q->0<=f p q/\f p q<f q q
 piv:∀p∈P,(f p p).natAbs<=B
def FS.start{N M X B:Nat}{f:Nat->Vc}:FS N M X B [] [] f:=
 ⟨⟨(fun p hp=>nomatch hp),(fun p hp=>nomatch hp)⟩,.nil,rfl,At _,(fun p hp=>nomatch hp),(fun p hp=>nomatch hp),(fun p hp=>nomatch hp),(fun p hp=>nomatch hp)⟩
def FS.fv{N M X B:Nat}{R:List Vc}{P:List Nat}{f:Nat->Vc}(F:FS N M X B R P f):∀p∈P,∀q∈P,(f p q).natAbs<=B:=fun p hp q hq=>by
 rcases Nat.lt_trichotomy p q with h|h|h
 ·have:=F.red p hp q hq h;have:=F.piv q hq;(first|lia|omega)
 ·subst h;exact F.piv p hp
 ·rw[F.ech.z p hp q h];exact At _
def FS.take{N M X B:Nat}{R:List Vc}{P:List Nat}{f:Nat->Vc}{r:Vc}(l:1<=B)(F:FS N M X B R P f)(b:R.length<N)(hr:∀p∈P,(r p).natAbs<=M):TS N M X B (R++[r]) P f (aV f P r) 0:=by
 have a:P.length<=N:=by have:=F.len;(first|lia|omega)
 have c:(P.filter fun p=>decide (p<0)).length=0:=by rw[List.filter_eq_nil_iff.mpr];rfl;intro p _;simp
 obtain⟨e,o⟩:=mM (R:=R++[r]) (fun p hp=>(F.fr p hp).more) F.fv F.ech.pos P (fun q hq=>hq) (Rep.mem (Ay R (List.mem_singleton.mpr rfl))) hr;have g:1+P.length*(M*(1+B) ^ P.length*cC N X B)<=cK N M X B:=by
  unfold cK;have h1:(1+B) ^ P.length<=(1+B) ^ N:=AC ω a;have:=AQ a (Ak (cC N X B) (Al M h1));(first|lia|omega)
 have j:cC N X B<=cK N M X B:=by unfold cK;(first|lia|omega)
 refine⟨F.ech,F.srt,by rw[AZ,F.len];rfl,by rw[AZ];exact b,fun p hp=>?_,?_,fun s d=>?_,(fun i hi=>absurd hi (Nat.not_lt_zero _)),fun p hp=>CA F.ech F.srt p hp,F.piv,fun p hp q hq=>?_,fun p hp _ q hq=>F.fv p hp q hq⟩
 ·rw[c,Nat.pow_zero,Nat.mul_one];exact(F.fr p hp).more.mono j
 ·rw[c,Nat.pow_zero,Nat.mul_one];exact e.mono g
 ·rcases List.mem_append.mp d with h|h
  ·exact(F.gen s h).more _ fun x hx=>A6 _ hx
  ·rw[List.mem_singleton.mp h]
   exact(Sp.redu P fun q hq=>Sp.mem (A6 _ (List.mem_map.mpr ⟨q,hq,rfl⟩))).mpr (Sp.mem (Ay _ (List.mem_singleton.mpr rfl)))
 ·refine Ae (F.fv p hp q hq) ?_
  rw[AN];have:B*1<=B*B:=Al _ l;(first|lia|omega)
def cM(N M X B:Nat):Nat:=cK N M X B*cG N B ^ N
def cE(N M X B:Nat):Nat:=cM N M X B+N*(N*(cM N M X B*M)*(1+B) ^ N*cC N X B)
def up(l:Vc)(q:Nat):Vc:=if 0<l q then l else fun u=>-l u
def Rep.neg{R:List Vc}{C:Nat}{v:Vc}(h:Rep R C v):Rep R C fun u=>-v u:=
 ((h.lin h (k:=-1) (m:=0) (A:=1) (B:=0) ξ ξ).mono ω).eq fun u=>ω
def Sp.neg{R:List Vc}{v:Vc}(h:Sp R v):Sp R fun u=>-v u:=(h.lin h (-1) 0).eq fun u=>ω
structure Bd(N M X B:Nat)(R:List Vc):Prop where
 ind:iC R
 bd:∀(P:List Nat)(f:Nat->Vc),Ech P f->P.Pairwise (·<·)->(∀r∈R,Sp (P.map f) r)->(∀p∈P,Sp R (f p))->P.length=R.length->(∀p∈P,(f p p).natAbs<=B)/\(∀r∈R,∀p∈P,(r p).natAbs<=M)/\∀(c:List Int)(V:Nat),c.length=R.length->(∀p∈P,(cmb c R p).natAbs<=V)->∀x∈c,x.natAbs<=N*(V*X)
structure QS(N M X B:Nat)(R:List Vc)(P:List Nat)(f:Nat->Vc):Prop where
 ech:Ech P f
 srt:P.Pairwise (·<·)
 len:P.length=R.length
 few:R.length<=N
 fr:∀p∈P,Rep R (cM N M X B) (f p)
 gen:∀r∈R,Sp (P.map f) r
section
variable{N M X B:Nat}{R:List Vc}{P:List Nat}{f:Nat->Vc}
def TS.cnt{l:Vc}{t:Nat}(T:TS N M X B R P f l t)(a:1<=B):cK N M X B*cG N B ^ (P.filter fun p=>decide (p<t)).length<=cM N M X B:=
 Al _ (AC (CG a) (Ae (List.length_filter_le _ _) (by have:=T.len;have:=T.few;(first|lia|omega))))
def TS.full{l:Vc}{t q:Nat}(e:1<=B)(T:TS N M X B R P f l t)(hq:q∉P)(a:∀i,i<q->l i=0)(g:l q≠0):QS N M X B R (ins q P) (put f q (up l q)):=by
 have ne:∀p∈P,p≠q:=fun p hp z=>hq (z▸hp);have hc:=T.cnt e;have up1:0<up l q q:=by
  unfold up;split
  ·assumption
  ·show 0 < -l q
   (first|lia|omega)
 have b:∀i,i<q->up l q i=0:=fun i hi=>by
  have:=a i hi;unfold up;split
  ·exact this
  ·show -l i=0
   (first|lia|omega)
 have c:Rep R (cM N M X B) (up l q):=by
  unfold up;split
  ·exact T.lr.mono hc
  ·exact(T.lr.mono hc).neg
 refine⟨⟨fun p hp i hi=>?_,fun p hp=>?_⟩,Hr T.srt hq,by rw[Ez,T.len],T.few,fun p hp=>?_,fun r hr=>(T.gen r hr).trans fun s d=>?_⟩
 ·rcases mem_ins.mp hp with rfl|hp
  ·rw[zR];exact b i hi
  ·rw[dY (ne p hp)];exact T.ech.z p hp i hi
 ·rcases mem_ins.mp hp with rfl|hp
  ·rw[zR];exact up1
  ·rw[dY (ne p hp)];exact T.ech.pos p hp
 ·rcases mem_ins.mp hp with rfl|hp
  ·rw[zR];exact c
  ·rw[dY (ne p hp)];exact(T.fr p hp).mono hc
 ·rcases List.mem_append.mp d with h|h
  ·obtain⟨p,hp,rfl⟩:=List.mem_map.mp h
   exact Sp.mem (List.mem_map.mpr ⟨p,mem_ins.mpr (.inr hp),dY (ne p hp)⟩)
  ·rw[List.mem_singleton.mp h]
   have:Sp ((ins q P).map (put f q (up l q))) (up l q):=Sp.mem (List.mem_map.mpr ⟨q,mem_ins.mpr (.inl rfl),zR⟩);unfold up at this ⊢;split at this
   ·rename_i h;rw[if_pos h];exact this
   ·rename_i h;rw[if_neg h];exact this.neg.eq fun u=>by show l u=-(-l u);(first|lia|omega)
def QS.bd(D:Bd N M X B R)(S:QS N M X B R P f):(∀p∈P,(f p p).natAbs<=B)/\(∀r∈R,∀p∈P,(r p).natAbs<=M)/\∀(c:List Int)(V:Nat),c.length=R.length->(∀p∈P,(cmb c R p).natAbs<=V)->∀x∈c,x.natAbs<=N*(V*X):=
 D.bd P f S.ech S.srt S.gen (fun p hp=>(S.fr p hp).sp) S.len
def QS.tail(j:1<=B)(D:Bd N M X B R)(S:QS N M X B R P f){pre ps:List Nat}(e:P=pre++ps):Ech ps (a0 f ps)/\(∀p∈ps,∀q∈P,(a0 f ps p q).natAbs<=B)/\∀p∈ps,Rep R (cC N X B) (a0 f ps p):=by
 have g:∀p∈ps,p∈P:=fun p hp=>by rw[e];exact Ay _ hp
 have a:=S.srt;rw[e,List.pairwise_append] at a;have h':Ech ps f:=S.ech.sub g;obtain⟨e1,e2⟩:=EA h' a.2.1;obtain⟨pv,hb,i⟩:=S.bd D;have bd:∀p∈ps,∀q∈P,(a0 f ps p q).natAbs<=B:=fun p hp q hq=>by
  rcases Nat.lt_trichotomy p q with h|h|h
  ·have b:q∈ps:=by
    rw[e] at hq;rcases List.mem_append.mp hq with z|z
    ·have:=a.2.2 q z p hp;(first|lia|omega)
    ·exact z
   have h1:=EB h' a.2.1 p hp q b h;rw[e2 q b] at h1;have:=pv q hq;(first|lia|omega)
  ·subst h;rw[e2 p hp];exact pv p hq
  ·rw[e1.z p hp q h];exact At _
 refine⟨e1,bd,fun p hp=>?_⟩;have sp:Sp R (a0 f ps p):=Hv (a.2.1.imp fun h=>AA h) (fun q hq=>(S.fr q (g q hq)).sp) p hp;obtain⟨c,d,e⟩:=sp;exact⟨c,d,e,i c B d fun q hq=>by rw[<-e];exact bd p hp q hq⟩
def QS.met(o:1<=B)(D:Bd N M X B R)(S:QS N M X B R P f){pre ps:List Nat}{p:Nat}(e:P=pre++p::ps)(i:Nat):Rep R (cE N M X B) (aV (a0 f ps) (ps.take i) (f p)):=by
 have d:P=(pre++[p])++ps:=by rw[e];simp
 obtain⟨e1,bd,l⟩:=S.tail o D d;obtain⟨_,hb,_⟩:=S.bd D;have hp:p∈P:=by rw[e];simp
 have V:∀q∈ps,(f p q).natAbs<=N*(cM N M X B*M):=fun q hq=>by
  have g:q∈P:=by rw[d];exact Ay _ hq
  exact Ae ((S.fr p hp).le fun r hr=>hb r hr q g) (Ak _ S.few)
 have c:(ps.take i).length<=N:=by
  have h1:=congrArg List.length d;rw[AZ,S.len] at h1;have:=S.few;rw[List.length_take];(first|lia|omega)
 obtain⟨r,_⟩:=mM (P:=ps) l (fun a h b j=>bd a h b (by rw[d];exact Ay _ j)) e1.pos (ps.take i) (fun q hq=>List.mem_of_mem_take hq) (S.fr p hp) V;refine r.mono ?_;unfold cE;have h1:(1+B) ^ (ps.take i).length<=(1+B) ^ N:=AC ω c;exact Nat.add_le_add_left (AQ c (Ak _ (Al _ h1))) _
def QS.done(d:1<=B)(D:Bd N M X B R)(S:QS N M X B R P f):FS N M X B R P (a0 f P):=by
 obtain⟨e1,bd,b⟩:=S.tail d D (pre:=[]) (ps:=P) rfl;have c:P.Nodup:=S.srt.imp fun h=>AA h;refine⟨e1,S.srt,S.len,S.few,b,fun r hr=>(S.gen r hr).trans fun s a=>?_,EB S.ech S.srt,fun p hp=>bd p hp p hp⟩;obtain⟨p,hp,rfl⟩:=List.mem_map.mp a;exact Hu c (fun q hq=>Sp.mem (List.mem_map.mpr ⟨q,hq,rfl⟩)) p hp
end
end Tb
end
section
namespace K24
open PySem L2
def vc(l:List Int):Tb.Vc:=fun i=>l.getD i 0
def vF(fr:Nat->List Int):Nat->Tb.Vc:=fun p=>vc (fr p)
def CH{f:Int->Int->Int}(a:f 0 0=0){l on:List Int}(h:l.length=on.length):vc (Av f l on)=fun u=>f (vc l u) (vc on u):=by
 funext u
 unfold vc;rw[Ac,Ac,Ac,List.getElem?_zipWith];rcases Bi u l.length with c|c
 ·rw[Ab c,Ab (h▸c)];rfl
 ·rw[List.getElem?_eq_none c,List.getElem?_eq_none (h▸c)];exact a.symm
def Hw{fr:Nat->List Int}{l:List Int}{p:Nat}(h:l.length=(fr p).length):vc (c8 fr l p)=Tb.step (vF fr) p (vc l):=by
 unfold c8 dF;rw[CH (by simp) h]
 rfl
def pu{fr:Nat->List Int}{W:Nat}:∀{ps:List Nat}{rn:List Int},rn.length=W->(∀p∈ps,(fr p).length=W)->vc (aK fr rn ps)=Tb.aV (vF fr) ps (vc rn)
 |[],_,_,_=>rfl
 |p::ps,rn,h,h2=>by
  have hp:=h2 p (AM ..);show vc (aK fr (c8 fr rn p) ps)=Tb.aV (vF fr) ps (Tb.step (vF fr) p (vc rn));rw[pu (ps:=ps) (Ew h hp) fun q hq=>h2 q (AJ _ hq),Hw ω]
def Hx{a b:Int}{l on:List Int}(h:l.length=on.length):vc (a_ a l b on)=Tb.mix a (vc l) b (vc on):=by
 unfold a_;rw[CH (by simp) h]
 rfl
def Mk{l:List Int}:vc (l.map fun x=>-x)=fun u=>-vc l u:=by
 funext u
 unfold vc;rw[Ac,Ac,Aj];cases l[u]?<;>simp
def bH(fr:Nat->List Int)(p:Nat)(l:List Int):Nat->List Int:=fun q=>if q=p then l else fr q
def EC{fr:Nat->List Int}{p:Nat}{l:List Int}:vF (bH fr p l)=Tb.put (vF fr) p (vc l):=by
 funext q
 unfold vF bH Tb.put;split<;>rfl
def CI{l:List Int}{x:Int}(h:x∈l):∃i,i<l.length/\vc l i=x:=by
 obtain⟨i,hi,e⟩:=List.mem_iff_getElem.mp h;exact⟨i,hi,by unfold vc;rw[Ac,Ab hi];exact e⟩
def fB{l:List Int}{i:Nat}(h:l.length<=i):vc l i=0:=by unfold vc;rw[Ac,List.getElem?_eq_none h];rfl
def Hy{l:List Int}(h:∃u,vc l u≠0):∃k,k<l.length/\(∀i,i<k->l[i]?=some 0)/\(∃x,l[k]?=some x/\x≠0)/\(∀i,i<k->vc l i=0)/\vc l k≠0:=by
 classical
 induction l with
 |nil=>obtain⟨u,a⟩:=h;exact absurd (fB (At u)) a
 |cons x l ih=>
  by_cases c:x=0
  ·obtain⟨u,a⟩:=h
   cases u with
   |zero=>exact absurd (show vc (x::l) 0=0 from c) a
   |succ u=>
    obtain⟨k,h1,h2,⟨y,b,d⟩,e,f⟩:=ih ⟨u,by simpa[vc] using a⟩;refine⟨k+1,by simpa using h1,fun i hi=>?_,⟨y,by simpa using b,d⟩,fun i hi=>?_,by simpa[vc] using f⟩
    ·cases i with
     |zero=>simp[c]
     |succ i=>simpa using h2 i ω
    ·cases i with
     |zero=>exact c
     |succ i=>simpa[vc] using e i ω
  ·exact⟨0,by simp,fun i hi=>ω,⟨x,rfl,c⟩,fun i hi=>ω,c⟩
def Hz:∃n:Nat,n=67108864:=⟨_,rfl⟩
noncomputable def bt:Nat:=Classical.choose Hz
def jz:bt=67108864:=Classical.choose_spec Hz
noncomputable def big:Nat:=2 ^ bt
def gH{i j:Int}(h1:i.natAbs<big)(h2:j.natAbs<big):eC i j:=⟨bt,bt,h1,h2,by have:=jz;(first|lia|omega)⟩
def CJ{a b:Int}:(a / b).natAbs<=a.natAbs:=Int.natAbs_ediv_le_natAbs _ _
structure Wid(W:Nat)(P:List Nat)(fr:Nat->List Int):Prop where
 most:W<=1000
 row:∀p∈P,p<W/\(fr p).length=W
def Wid.sub{W:Nat}{P Q:List Nat}{fr:Nat->List Int}(h:Wid W P fr)(a:∀p∈Q,p∈P):Wid W Q fr:=⟨h.most,fun p hp=>h.row p (a p hp)⟩
def Wid.put{W:Nat}{P:List Nat}{fr:Nat->List Int}{p:Nat}{l:List Int}(h:Wid W P fr)(a:l.length=W):Wid W P (bH fr p l):=⟨h.most,fun q hq=>⟨(h.row q hq).1,by unfold bH;split;exact a;exact(h.row q hq).2⟩⟩
def Ml{R:List Tb.Vc}{P ps:List Nat}{fr:Nat->List Int}{W C CF V VF N Y:Nat}{rn:List Int}(j:∀r∈R,∀u,(r u).natAbs<=Y)(d:R.length<=N)(l:∀p∈P,Tb.Rep R CF (vF fr p))(w:∀p∈P,∀q∈P,(vF fr p q).natAbs<=VF)(a:∀p∈P,0<vF fr p p)(g:∀p∈P,(vF fr p p).natAbs<2 ^ 9000)(f:Wid W P fr)(o:rn.length=W)(hr:Tb.Rep R C (vc rn))(hv:∀q∈P,(vc rn q).natAbs<=V)(c:∀p∈ps,p∈P)(y:N*((C+ps.length*(V*(1+VF) ^ ps.length*CF))*Y)<big)(z:N*(CF*Y)<big):kR fr W rn ps:=by
 refine⟨o,f.most,fun p hp=>⟨(f.row p (c p hp)).1,(f.row p (c p hp)).2,a p (c p hp),g p (c p hp)⟩,fun i p hp x hx=>?_⟩;have s:=An hp;have v:=c p s;refine gH (Ao CJ ?_) ?_
 ·obtain⟨r1,_⟩:=Tb.mM l w a (ps.take i) (fun q hq=>c q (List.mem_of_mem_take hq)) hr hv
  have e:=pu (fr:=fr) (W:=W) (ps:=ps.take i) (rn:=rn) o fun q hq=>(f.row q (c q (List.mem_of_mem_take hq))).2;rw[<-e] at r1;have b:=r1.le (u:=p) fun r hr=>j r hr p;refine Ao (Ae b (AQ d (Ak _ ?_))) y;have h:(ps.take i).length<=ps.length:=by rw[List.length_take];(first|lia|omega)
  refine Nat.add_le_add_left (AQ h (Ak _ (Al _ (AC ω h)))) _
 ·obtain⟨u,_,rfl⟩:=CI hx
  exact Ao (Ae ((l p v).le (u:=u) fun r hr=>j r hr u) (Ak _ d)) z
def cj(es:List (Nat×Addr))(p:Nat)(d:Addr):List (Nat×Addr):=if p∈es.map (·.1) then es.map fun e=>if e.1=p then(p,d) else e else es++[(p,d)]
def CK{es:List (Nat×Addr)}{p:Nat}{d:Addr}:(cj es p d).map (·.1)=if p∈es.map (·.1) then es.map (·.1) else es.map (·.1)++[p]:=by
 unfold cj;split
 ·rw[AS]
  refine AW fun e _=>?_;simp only[Function.comp];split<;>simp_all
 ·simp
def putE_mem{es:List (Nat×Addr)}{p:Nat}{d:Addr}{e:Nat×Addr}(h:e∈cj es p d):e=(p,d)\/(e∈es/\e.1≠p):=by
 unfold cj at h;split at h
 ·obtain⟨x,hx,rfl⟩:=List.mem_map.mp h
  split
  ·exact .inl rfl
  ·exact .inr ⟨hx,by assumption⟩
 ·rename_i hp
  rcases List.mem_append.mp h with h|h
  ·exact .inr ⟨h,fun z=>hp (z▸List.mem_map.mpr ⟨e,h,rfl⟩)⟩
  ·exact .inl (by simpa using h)
def Mm{es:List (Nat×Addr)}{p:Nat}{d:Addr}:putK ((eS es).map fun p=>((Sum.inl p.1:Key),p.2)) (Sum.inl (p:Int)) (.ref d)=(eS (cj es p d)).map fun p=>((Sum.inl p.1:Key),p.2):=by
 have b:∀e:Nat×Addr,((Sum.inl (e.1:Int):Key)=Sum.inl (p:Int))↔e.1=p:=by
  intro e;constructor
  ·intro z
   have:((e.1:Int))=p:=by injection z
   (first|lia|omega)
  ·intro z;rw[z]
 have e1:(((eS es).map fun p=>((Sum.inl p.1:Key),p.2)).any fun f=>decide (f.1=Sum.inl (p:Int)))=decide (p∈es.map (·.1)):=by
  rw[Bool.eq_iff_iff,List.any_eq_true,decide_eq_true_iff,List.mem_map];constructor
  ·rintro⟨x,hx,hk⟩
   rw[AS] at hx;obtain⟨e,a,rfl⟩:=List.mem_map.mp hx;exact⟨e,a,(b e).mp (of_decide_eq_true hk)⟩
  ·rintro⟨e,a,rfl⟩
   refine⟨(Sum.inl (e.1:Int),V.ref e.2),?_,by simp⟩;rw[AS];exact List.mem_map.mpr ⟨e,a,rfl⟩
 unfold putK cj;rw[e1]
 by_cases c:p∈es.map (·.1)
 ·rw[if_pos (decide_eq_true c),if_pos c]
  unfold eS;rw[AS,AS,AS,AS];refine AW fun e _=>?_;show(if(Sum.inl (e.1:Int):Key)=Sum.inl (p:Int) then _ else _)=_
  by_cases z:e.1=p
  ·rw[if_pos ((b e).mpr z)]
   simp only[Function.comp,if_pos z];rw[z]
  ·rw[if_neg fun q=>z ((b e).mp q)]
   simp only[Function.comp,if_neg z]
 ·rw[if_neg (by simpa using c),if_neg c]
  simp[eS]
def Fnd.put{H H2:Hp}{a d:Addr}{es:List (Nat×Addr)}{fr:Nat->List Int}{p:Nat}{l:List Int}(h:Fnd H a es fr)(hd:H d=some (.lst (l.map V.int)))(g:es.length<1000):∃H2,DPut H a (.int p) (.ref d) H2/\Fnd H2 a (cj es p d) (bH fr p l)/\∀b,b≠a->H2 b=H b:=by
 have hp:=DPut.k (k:=Sum.inl (p:Int)) (v:=V.ref d) h.at_ (by rw[sizeLine_eq];simp;(first|lia|omega));refine⟨_,hp,⟨?_,?_,?_⟩,fun b hb=>al hb⟩
 ·rw[ac,Mm]
 ·rw[CK]
  split
  ·exact h.nd
  ·rename_i hn
   rw[List.nodup_append];refine⟨h.nd,by simp,fun x hx y hy=>?_⟩;have:y=p:=by simpa using hy
   subst this;exact fun z=>hn (z▸hx)
 ·intro e c
  have ne:∀b,(∃xs,H b=some (.lst xs))->b≠a:=fun b ⟨xs,hb⟩ z=>by rw[z,h.at_] at hb;cases hb
  rcases putE_mem c with rfl|⟨c,f⟩
  ·rw[al (ne d ⟨_,hd⟩),hd];unfold bH;rw[if_pos rfl]
  ·rw[al (ne e.2 ⟨_,h.rows e c⟩),h.rows e c];unfold bH;rw[if_neg f]
end K24
end
section
namespace Tb
def sX(N M:Nat):Nat:=(2*N*M) ^ N
def sB(N M:Nat):Nat:=N*(sX N M*M)
def HA{N M j:Nat}(a:1<=N)(b:1<=M)(c:j<=N):(2*j*M) ^ (j-1)<=sX N M:=by
 have h1:2*j*M<=2*N*M:=Ak _ (Al _ c);exact Ae (Nat.pow_le_pow_left h1 _) (AC (zV (zV ξ a) b) ω)
def Mn{N M:Nat}{R:List Vc}(i:1<=N)(b:1<=M)(hi:iC R)(a:R.length<=N)(hb:∀r∈R,∀u,(r u).natAbs<=M):Bd N M (sX N M) (sB N M) R:=by
 refine⟨hi,fun P f h d e j g=>⟨fun p hp=>?_,fun r hr p _=>hb r hr p,fun c V hc hv x hx=>?_⟩⟩
 ·refine Ae (L8 b hi h d e g (fun r hr p _=>hb r hr p) hp) ?_
  exact AQ a (Ak _ (HA i b a))
 ·refine Ae (vN b (fun r hr p _=>hb r hr p) g (d.imp fun h=>AA h) (ph hi h d e) hc hv x hx) ?_
  exact AQ a (Al _ (HA i b a))
def shr(f:Nat->Vc):List Nat->Vc->List Int
 |[],_=>[]
 |p::ps,l=>l p / f p p::shr f ps (step f p l)
section
variable{f:Nat->Vc}
def ED:∀(ps:List Nat)(l:Vc),(shr f ps l).length=ps.length
 |[],_=>rfl
 |p::ps,l=>by show(shr f ps (step f p l)).length+1=ps.length+1;rw[ED ps]
def EE:∀{ps:List Nat}{l:Vc},Ech ps f->ps.Pairwise (·<·)->Sp (ps.map f) l->∀u,l u=cmb (shr f ps l) (ps.map f) u
 |[],l,_,_,⟨c,hc,e⟩,u=>by rw[e];cases c with|nil=>rfl|cons _ _=>simp at hc
 |p::ps,l,h,hs,⟨c,hc,e⟩,u=>by
  cases c with
  |nil=>simp at hc
  |cons a c=>
   rw[Ba] at hs;have h':Ech ps f:=h.sub fun q hq=>.tail _ hq;have hp:=h.pos p (.head _);have ep:l p=a*f p p:=by
    rw[e];show a*f p p+cmb c (ps.map f) p=a*f p p;rw[zK c (ps.map f) fun v hv=>by
     obtain⟨r,hr,rfl⟩:=List.mem_map.mp hv;exact h.z r (.tail _ hr) p (hs.1 r hr)]
    (first|lia|omega)
   have b:l p / f p p=a:=by rw[ep];exact Int.mul_ediv_cancel a ω
   have sp:Sp (ps.map f) (step f p l):=⟨c,by simpa using hc,fun u=>by
    unfold step;rw[b,e];show a*f p u+cmb c (ps.map f) u-a*f p u=_;(first|lia|omega)⟩
   have d:=EE h' hs.2 sp u;show l u=l p / f p p*f p u+cmb (shr f ps (step f p l)) (ps.map f) u;rw[<-d];unfold step;(first|lia|omega)
def Mo{P:List Nat}{VF:Nat}(c:∀p∈P,∀q∈P,(f p q).natAbs<=VF)(a:∀p∈P,0<f p p):∀(ps:List Nat){l:Vc}{V:Nat},(∀p∈ps,p∈P)->(∀q∈P,(l q).natAbs<=V)->∀x∈shr f ps l,x.natAbs<=V*(1+VF) ^ ps.length
 |[],_,_,_,_,x,hx=>nomatch hx
 |p::ps,l,V,hs,hv,x,hx=>by
  have hp:=hs p (.head _);have b:(l p / f p p).natAbs<=V:=Ae (Int.natAbs_ediv_le_natAbs (l p) (f p p)) (hv p hp);rcases List.mem_cons.mp hx with rfl|hx
  ·refine Ae b (Nat.le_mul_of_pos_right _ (Nat.pow_pos ω))
  ·have d:∀q∈P,(step f p l q).natAbs<=V*(1+VF):=fun q hq=>by
    have e:=hv q hq;have g:(l p / f p p*f p q).natAbs<=V*VF:=by rw[AB];exact AQ b (c p hp q hq)
    have h:(step f p l q).natAbs<=(l q).natAbs+(l p / f p p*f p q).natAbs:=by unfold step;(first|lia|omega)
    rw[Nat.mul_add,Nat.mul_one];(first|lia|omega)
   have:=Mo c a ps (fun q hq=>hs q (.tail _ hq)) d x hx
   rwa [AN,Nat.mul_comm (1+VF),<-Nat.pow_succ] at this
end
def dl(s t:Nat):Int:=if s=t then 1 else 0
structure Dual(k:Nat)(U Bc:List Vc):Prop where
 lu:U.length=k
 lb:Bc.length=k
 d:∀s t,s<k->t<k->cmb (Bc.map fun b=>b s) U t=dl s t
def HB{t:Nat}:∀(c:List Int)(A B:List Vc),A.length=B.length->(∀(i:Nat) a b,A[i]?=some a->B[i]?=some b->a t=b t)->cmb c A t=cmb c B t
 |[],[],[],_,_=>rfl
 |[],_::_,_::_,_,_=>rfl
 |_::_,[],[],_,_=>rfl
 |x::c,a::A,b::B,hl,h=>by
  show x*a t+cmb c A t=x*b t+cmb c B t;rw[h 0 a b rfl rfl,HB c A B (by simpa using hl) fun i a b h1 h2=>h (i+1) a b (by simpa using h1) (by simpa using h2)]
 |[],[],_::_,hl,_=>by simp at hl
 |[],_::_,[],hl,_=>by simp at hl
 |_::_,[],_::_,hl,_=>by simp at hl
 |_::_,_::_,[],hl,_=>by simp at hl
def range_getD(row:List Int):(Ah row.length).map (fun j=>row.getD j 0)=row:=by
 apply AT
 ·simp
 ·intro i h1 h2;simp at h1;simp[h2]
def HC{U:List Vc}{k s t:Nat}(hk:U.length=k):∀(sh:Ξ)(Bc:List Vc),(∀row∈sh,row.length=k)->
  cmb ((Ah k).map fun j=>cmb (sh.map fun row=>row.getD j 0) Bc s) U t=cmb (Bc.map fun b=>b s) (sh.map fun row=>cmb row U) t
 |[],Bc,_=>by
  have e:((Ah k).map fun j=>cmb (([]:Ξ).map fun row=>row.getD j 0) Bc s)=(Ah k).map fun _=>0:=AW fun j _=>by cases Bc<;>rfl
  rw[e,mN _ _ _ (fun x hx=>by obtain⟨_,_,rfl⟩:=List.mem_map.mp hx;rfl)];cases Bc<;>rfl
 |row::sh,[],h=>by
  have e:((Ah k).map fun j=>cmb ((row::sh).map fun row=>row.getD j 0) [] s)=(Ah k).map fun _=>0:=AW fun j _=>rfl;rw[e,mN _ _ _ (fun x hx=>by obtain⟨_,_,rfl⟩:=List.mem_map.mp hx;rfl)]
  rfl
 |row::sh,b::Bc,h=>by
  have a:=HC (s:=s) (t:=t) hk sh Bc fun r hr=>h r (.tail _ hr);have hr:=h row (.head _);have e:((Ah k).map fun j=>cmb ((row::sh).map fun row=>row.getD j 0) (b::Bc) s)=Av (fun x y=>b s*x+1*y) row ((Ah k).map fun j=>cmb (sh.map fun row=>row.getD j 0) Bc s):=by
   apply AT
   ·rw[Au,Aa,Aa,AY,hr,Nat.min_self]
   ·intro i h1 h2
    rw[Aa,AY] at h1;rw[AR,AO,AO,A4];show row.getD i 0*b s+cmb (sh.map fun row=>row.getD i 0) Bc s=_;rw[Ac,Ab ω,A9];show b s*row[i]+_=_;(first|lia|omega)
  rw[e,fV _ _ _ _ U ω (by rw[Aa,AY,hk]),a];show _=b s*cmb row U t+cmb (Bc.map fun b=>b s) (sh.map fun row=>cmb row U) t;(first|lia|omega)
def Dual.next{k:Nat}{U Bc V:List Vc}{sh:Ξ}(D:Dual k U Bc)(e:V.length=k)(ls:sh.length=k)(g:∀row∈sh,row.length=k)(h:∀(i:Nat) u row t,U[i]?=some u->sh[i]?=some row->t<k->u t=cmb row V t):Dual k V ((Ah k).map fun j=>fun s=>cmb (sh.map fun row=>row.getD j 0) Bc s):=by
 refine⟨e,by simp,fun s t f c=>?_⟩;rw[AS];show cmb ((Ah k).map fun j=>cmb (sh.map fun row=>row.getD j 0) Bc s) V t=dl s t;rw[HC e sh Bc g,<-D.d s t f c];refine HB _ _ _ (by rw[Aa,ls,D.lu]) fun i a b h1 h2=>?_;rw[Aj] at h1;obtain⟨row,hr,rfl⟩:=Option.map_eq_some_iff.mp h1;exact(h i b row t h2 hr c).symm
def dot:Nat->Vc->Vc->Int
 |0,_,_=>0
 |k+1,a,b=>dot k a b+a k*b k
def pB{k:Nat}{a a' b:Vc}{x y:Int}:dot k (fun u=>x*a u+y*a' u) b=x*dot k a b+y*dot k a' b:=by
 induction k with
 |zero=>show(0:Int)=x*0+y*0;(first|lia|omega)
 |succ k ih=>
  show dot k _ b+(x*a k+y*a' k)*b k=x*(dot k a b+a k*b k)+y*(dot k a' b+a' k*b k);rw[ih,Int.add_mul,Bg,Bg,AU,AU];(first|lia|omega)
def zS{k:Nat}{a b:Vc}(h:∀t,t<k->a t=0):dot k a b=0:=by
 induction k with
 |zero=>rfl
 |succ k ih=>show dot k a b+a k*b k=0;rw[ih fun t c=>h t ω,h k ω];(first|lia|omega)
def zJ{k:Nat}{a a' b:Vc}(h:∀t,t<k->a t=a' t):dot k a b=dot k a' b:=by
 induction k with
 |zero=>rfl
 |succ k ih=>show dot k a b+a k*b k=dot k a' b+a' k*b k;rw[ih fun t c=>h t ω,h k ω]
def EF{k:Nat}{b:Vc}:∀(c:List Int)(L:List Vc),dot k (cmb c L) b=cmb c (L.map fun l=>fun _=>dot k l b) 0
 |[],[]=>zS fun _ _=>rfl
 |[],_::_=>zS fun _ _=>rfl
 |_::_,[]=>zS fun _ _=>rfl
 |x::c,l::L=>by
  show dot k (fun u=>x*l u+cmb c L u) b=x*dot k l b+cmb c (L.map fun l=>fun _=>dot k l b) 0;rw[<-EF c L];have:=pB (k:=k) (a:=l) (a':=cmb c L) (b:=b) (x:=x) (y:=1);rw[Int.one_mul] at this;rw[<-this];exact zJ fun t _=>ω
def HD{U:List Vc}{t:Nat}:∀(k:Nat)(x:Vc)(Bc:List Vc),Bc.length=U.length->cmb (Bc.map fun b=>dot k x b) U t=dot k x (fun s=>cmb (Bc.map fun b=>b s) U t)
 |0,x,Bc,_=>mN _ _ _ fun y hy=>by obtain⟨_,_,rfl⟩:=List.mem_map.mp hy;rfl
 |k+1,x,Bc,hl=>by
  show cmb (Bc.map fun b=>dot k x b+x k*b k) U t=dot k x (fun s=>cmb (Bc.map fun b=>b s) U t)+x k*cmb (Bc.map fun b=>b k) U t;rw[<-HD k x Bc hl];have:=fV 1 (x k) (Bc.map fun b=>dot k x b) (Bc.map fun b=>b k) U (by rw[Aa,hl]) (by rw[Aa,hl]) t;rw[Int.one_mul] at this;rw[<-this]
  congr 1
  apply AT
  ·simp
  ·intro i h1 h2;simp
def pF{k:Nat}{x:Vc}{t:Nat}(b:t<k):dot k x (fun s=>dl s t)=x t:=by
 induction k with
 |zero=>(first|lia|omega)
 |succ k ih=>
  show dot k x _+x k*dl k t=x t
  by_cases e:t=k
  ·subst e
   have:dot t x (fun s=>dl s t)=0:=by
    have z:∀j,j<=t->dot j x (fun s=>dl s t)=0:=by
     intro j
     induction j with
     |zero=>intro _;rfl
     |succ j ih=>intro a;show dot j x _+x j*dl j t=0;rw[ih ω];unfold dl;rw[if_neg ω];(first|lia|omega)
    exact z t (Ad _)
   rw[this];unfold dl;rw[if_pos rfl];(first|lia|omega)
  ·rw[ih ω];unfold dl;rw[if_neg ω];(first|lia|omega)
def zj{k:Nat}{a b b':Vc}(h:∀t,t<k->b t=b' t):dot k a b=dot k a b':=by
 induction k with
 |zero=>rfl
 |succ k ih=>show dot k a b+a k*b k=dot k a b'+a k*b' k;rw[ih fun t c=>h t ω,h k ω]
structure Both(k:Nat)(U Bc:List Vc):Prop where
 a:Dual k U Bc
 b:∀(i j:Nat) u c,U[i]?=some u->Bc[j]?=some c->dot k u c=dl i j
def Mp{k:Nat}{U Bc:List Vc}(D:Dual k U Bc)(hi:∀c:List Int,c.length=k->(∀t,t<k->cmb c U t=0)->∀x∈c,x=0):Both k U Bc:=by
 refine⟨D,fun i j u c o hc=>?_⟩;have q:i<k:=by rw[<-D.lu];exact(List.getElem?_eq_some_iff.mp o).1
 have l:j<k:=by rw[<-D.lb];exact(List.getElem?_eq_some_iff.mp hc).1
 have h1:∀t,t<k->cmb (Bc.map fun b=>dot k u b) U t=u t:=fun t f=>by
  rw[HD k u Bc (by rw[D.lb,D.lu]),zj fun s p=>D.d s t p f];exact pF f
 have h2:∀t,t<k->cmb ((Ah k).map fun s=>dl i s) U t=u t:=fun t f=>by
  have:∀(n:Nat)(V:List Vc),V.length=n->∀(i:Nat) v,V[i]?=some v->∀t,cmb ((Ah n).map fun s=>dl i s) V t=v t:=by
   intro n
   induction n with
   |zero=>intro V g i v h;rw[AG g] at h;simp at h
   |succ n ih=>
    intro V g i v h t;cases V with
    |nil=>simp at g
    |cons w V=>
     rw[List.range_succ_eq_map,A5,AS];show dl i 0*w t+cmb ((Ah n).map fun s=>dl i (s+1)) V t=v t;cases i with
     |zero=>
      have e:v=w:=by simpa using h.symm
      rw[mN _ _ _ (fun x hx=>by obtain⟨s,_,rfl⟩:=List.mem_map.mp hx;exact if_neg ω),e];show(1:Int)*w t+0=w t;(first|lia|omega)
     |succ i=>
      have:=ih V (by simpa using g) i v (by simpa using h) t;rw[show(fun s=>dl (i+1) (s+1))=(fun s=>dl i s) from funext fun s=>by unfold dl;simp];rw[this];show(0:Int)*w t+v t=v t;(first|lia|omega)
  exact this k U D.lu i u o t
 have hz:=hi (Av (fun a b=>a-b) (Bc.map fun b=>dot k u b) ((Ah k).map fun s=>dl i s)) (by rw[Au,Aa,Aa,AY,D.lb,Nat.min_self]) fun t f=>by
  rw[Cy _ _ U (by rw[Aa,D.lb,D.lu]) (by rw[Aa,AY,D.lu]),h1 t f,h2 t f];(first|lia|omega)
 have g:j<(Av (fun a b=>a-b) (Bc.map fun b=>dot k u b) ((Ah k).map fun s=>dl i s)).length:=by rw[Au,Aa,Aa,AY,D.lb,Nat.min_self];exact l
 have:=hz _ (Ap g);rw[AR,AO,AO,A4] at this;have e:Bc[j]'(by rw[D.lb];exact l)=c:=(List.getElem?_eq_some_iff.mp hc).2;rw[e] at this;(first|lia|omega)
def Both.free{k w:Nat}{R Bc:List Vc}(D:Both k (R.map fun r=>fun t=>r (w+t)) Bc){c:List Int}(hc:c.length=R.length)(hz:∀t,t<k->cmb c R (w+t)=0):∀x∈c,x=0:=by
 have H:R.length=k:=by have:=D.a.lu;rwa [Aa] at this
 have F:∀(c:List Int)(R:List Vc)(t:Nat),cmb c R (w+t)=cmb c (R.map fun r=>fun t=>r (w+t)) t:=by
  intro c
  induction c with
  |nil=>intro R t;cases R<;>rfl
  |cons a c ih=>intro R t;cases R with
   |nil=>rfl
   |cons r R=>show a*r (w+t)+cmb c R (w+t)=a*r (w+t)+_;rw[ih]
 intro x hx;obtain⟨j,s,rfl⟩:=AX hx;have o:j<Bc.length:=by rw[D.a.lb];(first|lia|omega)
 have y:dot k (cmb c (R.map fun r=>fun t=>r (w+t))) Bc[j]=0:=zS fun t C=>by rw[<-F];exact hz t C
 rw[EF] at y;have G:∀(c:List Int)(U:List Vc)(d:Nat),c.length=U.length->(∀(i:Nat) u,U[i]?=some u->dot k u Bc[j]=dl (d+i) j)->∀(s:d<=j)(h:j-d<c.length),cmb c (U.map fun l=>fun _=>dot k l Bc[j]) 0=c[j-d]:=by
  intro c
  induction c with
  |nil=>intro U d _ _ _ h;simp at h
  |cons a c ih=>
   intro U d p q s h;cases U with
   |nil=>simp at p
   |cons u U=>
    show a*dot k u Bc[j]+cmb c (U.map fun l=>fun _=>dot k l Bc[j]) 0=_;have f:=q 0 u rfl;rw[f];have A:∀(i:Nat) v,U[i]?=some v->dot k v Bc[j]=dl (d+1+i) j:=fun i v hv=>by rw[q (i+1) v (by simpa using hv)];congr 1;(first|lia|omega)
    by_cases e:d=j
    ·subst e
     have z:cmb c (U.map fun l=>fun _=>dot k l Bc[d]) 0=0:=zK _ _ fun v hv=>by
      obtain⟨l,E,rfl⟩:=List.mem_map.mp hv;obtain⟨i,g,rfl⟩:=AX E;show dot k U[i] Bc[d]=0;rw[A i _ (Ab g)];unfold dl;rw[if_neg ω]
     rw[z];have:d-d=0:=Nat.sub_self _;simp only[this,List.getElem_cons_zero];unfold dl;rw[if_pos ω];(first|lia|omega)
    ·have:=ih U (d+1) (by simpa using p) A ω (by simp at h;(first|lia|omega))
     rw[this];have e2:j-d=(j-(d+1))+1:=ω
     simp only[e2,List.getElem_cons_succ];unfold dl;rw[if_neg ω];(first|lia|omega)
 have:=G c (R.map fun r=>fun t=>r (w+t)) 0 (by rw[Aa,hc]) (fun i u f=>by rw[Nat.zero_add];exact D.b i j u Bc[j] f (Ab o)) (At _) ω;rw[y] at this;exact this.symm
def allb:List Nat->Ξ
 |[]=>[[]]
 |t::ts=>(allb ts).flatMap fun c=>(Ah t).map fun a:Nat=>(a:Int)::c
def pr:List Nat->Nat
 |[]=>1
 |t::ts=>t*pr ts
def kS:∀b,(allb b).length=pr b
 |[]=>rfl
 |t::b=>by
  have:∀l:Ξ,(l.flatMap fun c=>(Ah t).map fun a:Nat=>(a:Int)::c).length=t*l.length:=by
   intro l
   induction l with
   |nil=>simp
   |cons c l ih=>rw[List.flatMap_cons,AZ,Aa,AY,ih,AH,Nat.mul_add];(first|lia|omega)
  show((allb b).flatMap _).length=_;rw[this,kS b];rfl
def jC:∀{b:List Nat}{c:List Int},c∈allb b↔c.length=b.length/\∀(i:Nat) x t,c[i]?=some x->b[i]?=some t->0<=x/\x<(t:Int)
 |[],c=>by
  show c∈[[]]↔_;rw[List.mem_singleton];constructor
  ·rintro rfl;exact⟨rfl,fun i x t h=>by simp at h⟩
  ·intro h;exact AG h.1
 |t::b,c=>by
  show c∈(allb b).flatMap (fun c=>(Ah t).map fun a:Nat=>(a:Int)::c)↔_;rw[List.mem_flatMap];constructor
  ·rintro⟨d,hd,h⟩
   obtain⟨a,f,rfl⟩:=List.mem_map.mp h;obtain⟨h1,h2⟩:=jC.mp hd;have:=List.mem_range.mp f;refine⟨by rw[AH,h1,AH],fun i x t' hx e=>?_⟩;cases i with
   |zero=>simp at hx e;(first|lia|omega)
   |succ i=>exact h2 i x t' (by simpa using hx) (by simpa using e)
  ·rintro⟨h1,h2⟩
   cases c with
   |nil=>simp at h1
   |cons a d=>
    have f:=h2 0 a t rfl rfl;refine⟨d,jC.mpr ⟨by simpa using h1,fun i x t' hx e=>h2 (i+1) x t' (by simpa using hx) (by simpa using e)⟩,List.mem_map.mpr ⟨a.toNat,List.mem_range.mpr ω,?_⟩⟩;rw[Int.toNat_of_nonneg f.1]
def p0:∀d,(allb d).Nodup
 |[]=>by simp[allb]
 |t::d=>by
  show((allb d).flatMap fun c=>(Ah t).map fun a:Nat=>(a:Int)::c).Pairwise (·≠·);rw[List.pairwise_flatMap];refine⟨fun c _=>?_,(p0 d).imp fun{a b} h x hx y hy e=>?_⟩
  ·rw[List.pairwise_map]
   exact List.nodup_range.imp fun h e=>h (by injection e with e;(first|lia|omega))
  ·obtain⟨i,_,rfl⟩:=List.mem_map.mp hx
   obtain⟨j,_,rfl⟩:=List.mem_map.mp hy;injection e with _ e
   exact h e
def EG{a b:Type}{f:a->b}{l:List a}{m:List b}(c:l.Nodup)(d:∀x∈l,f x∈m)(inj:∀x∈l,∀y∈l,f x=f y->x=y):l.length<=m.length:=by
 rcases Bi m.length l.length with h|h
 ·obtain⟨x,hx,y,hy,ne,e⟩:=fh f l m c d h
  exact absurd (inj x hx y hy e) ne
 ·exact h
def vl(c:List Int):Vc:=fun j=>c.getD j 0
def lst(k:Nat)(x:Vc):List Int:=(Ah k).map x
def HE{k i:Nat}{x:Vc}(h:i<k):(lst k x)[i]?=some (x i):=by unfold lst;rw[Aj,AK h];rfl
def i6{k:Nat}{x:Vc}:(lst k x).length=k:=by unfold lst;simp
def Mq{k:Nat}{x y:Vc}:lst k x=lst k y↔∀j,j<k->x j=y j:=by
 constructor
 ·intro h j a
  have:=congrArg (·[j]?) h;simp only[HE a] at this;exact AV this
 ·intro h
  exact AW fun j a=>h j (List.mem_range.mp a)
def aK(L:Nat->Vc):Nat->Vc->Vc
 |0,x=>x
 |k+1,x=>aK L k (fun u=>x u-x k / L k k*L k u)
def SL(L:Nat->Vc)(k:Nat)(x:Vc):Prop:=∃c:Vc,∀j,j<k->x j=cmb (lst k c) ((Ah k).map L) j
section
variable{L f:Nat->Vc}{r:Nat}{Λ:Vc->Prop}
structure Lt(Λ:Vc->Prop):Prop where
 z:Λ fun _=>0
 s:∀{v w:Vc}(m:Int),Λ v->Λ w->Λ fun u=>v u-m*w u
def Lt.cmb(T:Lt Λ):∀(c:List Int)(S:List Vc),(∀s∈S,Λ s)->Λ (Tb.cmb c S)
 |[],[],_=>T.z
 |[],_::_,_=>T.z
 |_::_,[],_=>T.z
 |a::c,s::S,h=>by
  have:=T.s (-a) (Lt.cmb T c S fun w hw=>h w (.tail _ hw)) (h s (.head _));have e:(fun u=>Tb.cmb c S u - -a*s u)=Tb.cmb (a::c) (s::S):=funext fun u=>by show Tb.cmb c S u - -a*s u=a*s u+Tb.cmb c S u;rw[Int.neg_mul];(first|lia|omega)
  rw[e] at this;exact this
structure Two(Λ:Vc->Prop)(r:Nat)(L f:Nat->Vc):Prop where
 lt:Lt Λ
 li:∀i,i<r->Λ (L i)
 lp:∀i,i<r->0<L i i
 lz:∀i j,i<j->j<r->L i j=0
 fi:∀i,i<r->Λ (f i)
 fp:∀i,i<r->0<f i i
 fz:∀i j,i<r->j<i->f i j=0
 ld:∀v i,Λ v->i<r->(∀j,j<i->v j=0)->f i i ∣ v i
def HF(T:Two Λ r L f):∀(k:Nat)(x:Vc)(j:Nat),k<=j->j<r->aK L k x j=x j
 |0,_,_,_,_=>rfl
 |k+1,x,j,hk,hj=>by
  show aK L k _ j=x j;rw[HF T k _ j ω hj,T.lz k j ω hj];(first|lia|omega)
def HG(T:Two Λ r L f):∀(k:Nat)(x:Vc),k<=r->∀i,i<k->0<=aK L k x i/\aK L k x i<L i i
 |k+1,x,hk,i,hi=>by
  by_cases e:i=k
  ·subst e
   show 0<=aK L i _ i/\aK L i _ i<L i i;rw[HF T i _ i (Ad _) ω];have a:=T.lp i ω;have em:x i-x i / L i i*L i i=x i%L i i:=by have:=Int.emod_add_mul_ediv (x i) (L i i);rw[A9] at this;(first|lia|omega)
   rw[em];exact⟨Int.emod_nonneg _ ω,Int.emod_lt_of_pos _ a⟩
  ·exact HG T k _ ω i ω
def EH:∀(k:Nat)(x:Vc),∃c:Vc,∀u,x u-aK L k x u=cmb (lst k c) ((Ah k).map L) u
 |0,x=>⟨fun _=>0,fun u=>by show x u-x u=0;(first|lia|omega)⟩
 |k+1,x=>by
  obtain⟨c,hc⟩:=EH k (fun u=>x u-x k / L k k*L k u);refine⟨fun i=>if i=k then x k / L k k else c i,fun u=>?_⟩;have e1:lst (k+1) (fun i=>if i=k then x k / L k k else c i)=lst k c++[x k / L k k]:=by
   unfold lst;rw[List.range_succ,AD]
   congr 1
   ·exact AW fun i hi=>if_neg (AA (List.mem_range.mp hi))
   ·show [if k=k then _ else _]=_;rw[if_pos rfl]
  have e:∀(c:List Int)(S:List Vc)(a:Int)(v:Vc),c.length=S.length->cmb (c++[a]) (S++[v]) u=cmb c S u+a*v u:=by
   intro c
   induction c with
   |nil=>intro S a v d;rw[AG d.symm];show a*v u+0=0+a*v u;(first|lia|omega)
   |cons b c ih=>intro S a v d;cases S with
    |nil=>simp at d
    |cons s S=>show b*s u+cmb (c++[a]) (S++[v]) u=b*s u+cmb c S u+a*v u;rw[ih S a v (by simpa using d)];(first|lia|omega)
  rw[e1,List.range_succ,AD,A5,List.map_nil,e _ _ _ _ (by rw[i6];simp),<-hc u];show x u-aK L k _ u=_;(first|lia|omega)
def Two.small(T:Two Λ r L f){v:Vc}{k:Nat}(hk:k<=r)(hv:Λ v)(h:∀j,j<k->(v j).natAbs<(f j j).natAbs):∀j,j<k->v j=0:=by
 intro j
 induction j using Nat.strongRecOn with
 |_ j ih=>
  intro a;obtain⟨m,e⟩:=T.ld v j hv ω fun i hi=>ih i hi ω;have:=h j a;rw[e,AB] at this;rcases Nat.eq_zero_or_pos m.natAbs with z|z
  ·rw[e,Int.natAbs_eq_zero.mp z,A8]
  ·have:(f j j).natAbs*1<=(f j j).natAbs*m.natAbs:=Al _ z
   (first|lia|omega)
def tn(g:Nat->Vc)(k:Nat):List Nat:=(Ah k).map fun i=>(g i i).toNat
def CL{a:Nat->Vc}{k:Nat}{x:List Int}(h:x∈allb (tn a k)):x.length=k/\∀j,j<k->0<=vl x j/\vl x j<((a j j).toNat:Int):=by
 obtain⟨h1,h2⟩:=jC.mp h;unfold tn at h1 h2;rw[Aa,AY] at h1;refine⟨h1,fun j b=>?_⟩;have e:x[j]?=some (x[j]'ω):=Ab ω;have:=h2 j _ _ e (by rw[Aj,AK b];rfl);unfold vl;rw[Ac,e];exact this
def HH{x y:List Int}{k:Nat}(hx:x.length=k)(hy:y.length=k)(h:∀j,j<k->vl x j=vl y j):x=y:=by
 refine AT ω fun i h1 h2=>?_;have:=h i ω;unfold vl at this;rw[Ac,Ac,Ab h1,Ab h2] at this;exact this
def HI(T:Two Λ r L f){k:Nat}(hk:k<=r)(x:Vc):lst k (aK L k x)∈allb (tn L k):=by
 refine jC.mpr ⟨by unfold tn;rw[i6];simp,fun i z t hz a=>?_⟩;have hi:i<k:=by have:=(List.getElem?_eq_some_iff.mp hz).1;rwa [i6] at this
 rw[HE hi] at hz;obtain rfl:=AV hz;unfold tn at a;rw[Aj,AK hi] at a;obtain rfl:=AV a;have:=HG T k x hk i hi;have:=T.lp i ω;show 0<=aK L k x i/\aK L k x i<((L i i).toNat:Int);(first|lia|omega)
def HJ(T:Two Λ r L f){k:Nat}(hk:k<=r){x y:Vc}(h:lst k (aK L k x)=lst k (aK L k y)):∃v,Λ v/\SL L k v/\∀j,j<k->v j=x j-y j:=by
 obtain⟨c,hc⟩:=EH (L:=L) k x;obtain⟨d,hd⟩:=EH (L:=L) k y;have g:∀s∈(Ah k).map L,Λ s:=fun s a=>by
  obtain⟨i,hi,rfl⟩:=List.mem_map.mp a;exact T.li i (Az (List.mem_range.mp hi) hk)
 have e:∀u,cmb (lst k fun i=>c i-d i) ((Ah k).map L) u=cmb (lst k c) ((Ah k).map L) u-cmb (lst k d) ((Ah k).map L) u:=fun u=>by
  rw[<-Cy _ _ _ (by rw[i6];simp) (by rw[i6];simp)]
  congr 1
  apply AT
  ·simp[i6]
  ·intro i h1 h2;simp only[lst,AO,A4,AR]
 refine⟨cmb (lst k fun i=>c i-d i) ((Ah k).map L),T.lt.cmb _ _ g,⟨_,fun j _=>rfl⟩,fun j b=>?_⟩;rw[e,<-hc j,<-hd j,Mq.mp h j b];(first|lia|omega)
def EI(T:Two Λ r L f){k:Nat}(hk:k<=r):pr (tn f k)<=pr (tn L k):=by
 rw[<-kS,<-kS];refine EG (f:=fun x=>lst k (aK L k (vl x))) (p0 _) (fun x _=>HI T hk _) fun x hx y hy e=>?_;obtain⟨v,hv,_,b⟩:=HJ T hk e;obtain⟨c,d⟩:=CL hx;obtain⟨g,h⟩:=CL hy;have z:=T.small hk hv fun j a=>by
  have h1:=d j a;have h2:=h j a
  have i:=T.fp j ω;rw[b j a];(first|lia|omega)
 exact HH c g fun j a=>by have:=z j a;rw[b j a] at this;(first|lia|omega)
def half_lt(T:Two Λ r L f){k:Nat}(hk:k<=r){w:Vc}(hw:Λ w)(D:¬SL L k w):2*pr (tn f k)<=pr (tn L k):=by
 have eq:2*pr (tn f k)=((allb (tn f k)).map (fun x=>(false,x))++(allb (tn f k)).map (fun x=>(true,x))).length:=by rw[AZ,Aa,Aa,kS];(first|lia|omega)
 rw[eq,<-kS]
 let g:Bool×List Int->Vc:=fun p=>if p.1=true then fun u=>vl p.2 u+w u else vl p.2
 have mem:∀p∈(allb (tn f k)).map (fun x=>(false,x))++(allb (tn f k)).map (fun x=>(true,x)),p.2∈allb (tn f k):=fun p hp=>by
  rcases List.mem_append.mp hp with h|h<;>(obtain⟨x,hx,rfl⟩:=List.mem_map.mp h;exact hx)
 refine EG (f:=fun p=>lst k (aK L k (g p))) ?_ (fun p _=>HI T hk _) fun p hp q hq e=>?_
 ·rw[List.nodup_append]
  refine⟨?_,?_,fun x hx y hy=>?_⟩
  ·exact List.Pairwise.map _ (fun a b(h:a≠b) e=>h (by injection e)) (p0 _)
  ·exact List.Pairwise.map _ (fun a b(h:a≠b) e=>h (by injection e)) (p0 _)
  ·obtain⟨_,_,rfl⟩:=List.mem_map.mp hx
   obtain⟨_,_,rfl⟩:=List.mem_map.mp hy;intro z;injection z with z;cases z
 ·obtain⟨v,hv,sv,l⟩:=HJ T hk e
  obtain⟨a,x⟩:=p;obtain⟨b,y⟩:=q;obtain⟨F,G⟩:=CL (show x∈_ from mem _ hp);obtain⟨H,I⟩:=CL (show y∈_ from mem _ hq);have fin:∀{o:Vc},Λ o->(∀j,j<k->o j=vl x j-vl y j)->x=y:=fun{o} E C=>by
   have z:=T.small hk E fun j d=>by
    have h1:=G j d;have h2:=I j d
    have J:=T.fp j ω;rw[C j d];(first|lia|omega)
   exact HH F H fun j d=>by have:=z j d;rw[C j d] at this;(first|lia|omega)
  cases a with
  |false=>
   cases b with
   |false=>rw[fin hv fun j d=>by rw[l j d];rfl]
   |true=>
    exfalso
    have A:=fin (T.lt.s (-1) hv hw) fun j d=>by rw[l j d];show vl x j-(vl y j+w j) - -1*w j=_;(first|lia|omega)
    subst A;obtain⟨c,hc⟩:=sv;apply D;refine⟨fun i=>-c i,fun j d=>?_⟩;have h1:=l j d;have h2:=hc j d;have e2:cmb (lst k fun i=>-c i) ((Ah k).map L) j=-cmb (lst k c) ((Ah k).map L) j:=by
     have:=fV (-1) 0 (lst k c) (lst k c) ((Ah k).map L) (by rw[i6];simp) (by rw[i6];simp) j;rw[show(-1:Int)*cmb (lst k c) ((Ah k).map L) j+0*cmb (lst k c) ((Ah k).map L) j=-cmb (lst k c) ((Ah k).map L) j from ω] at this;rw[<-this]
     congr 1
     apply AT
     ·simp[i6]
     ·intro i h1 h2;simp only[lst,AO,A4,AR];(first|lia|omega)
    rw[e2,<-h2,h1];show w j=-(vl x j-(vl x j+w j));(first|lia|omega)
  |true=>
   cases b with
   |true=>rw[fin hv fun j d=>by rw[l j d];show vl x j+w j-(vl y j+w j)=_;(first|lia|omega)]
   |false=>
    exfalso
    have A:=fin (T.lt.s 1 hv hw) fun j d=>by rw[l j d];show vl x j+w j-vl y j-1*w j=_;(first|lia|omega)
    subst A;obtain⟨c,hc⟩:=sv;exact D ⟨c,fun j d=>by rw[<-hc j d,l j d];show w j=vl x j+w j-vl x j;(first|lia|omega)⟩
def HK{j k:Nat}{c:Vc}(h:∀i,i<k->L i j=0):cmb (lst k c) ((Ah k).map L) j=0:=
 zK _ _ fun v hv=>by
  obtain⟨i,hi,rfl⟩:=List.mem_map.mp hv;exact h i (List.mem_range.mp hi)
def HL(u k:Nat)(c:Vc):cmb (lst (k+1) c) ((Ah (k+1)).map L) u=cmb (lst k c) ((Ah k).map L) u+c k*L k u:=by
 have f:∀(c:List Int)(S:List Vc)(a:Int)(v:Vc),c.length=S.length->cmb (c++[a]) (S++[v]) u=cmb c S u+a*v u:=by
  intro c
  induction c with
  |nil=>intro S a v d;rw[AG d.symm];show a*v u+0=0+a*v u;(first|lia|omega)
  |cons b c ih=>intro S a v d;cases S with
   |nil=>simp at d
   |cons s S=>show b*s u+cmb (c++[a]) (S++[v]) u=b*s u+cmb c S u+a*v u;rw[ih S a v (by simpa using d)];(first|lia|omega)
 have e:lst (k+1) c=lst k c++[c k]:=by unfold lst;rw[List.range_succ,AD];rfl
 rw[e,List.range_succ,AD,A5,List.map_nil,f _ _ _ _ (by rw[i6];simp)]
def diag(T:Two Λ r L f)(o:∀i j,i<j->j<r->0<=f i j/\f i j<f j j)(b:∀k,k<=r->∀w,Λ w->SL L k w)(i:Nat)(hi:i<r):f i i=L i i/\(∀j,j<r->j≠i->f i j=0):=by
 obtain⟨c,hc⟩:=b i ω (L i) (T.li i hi);have u:∀s∈(Ah i).map L,Λ s:=fun s q=>by
  obtain⟨t,a,rfl⟩:=List.mem_map.mp q;exact T.li t (Nat.lt_trans (List.mem_range.mp a) hi)
 have hw:=T.lt.s 1 (T.li i hi) (T.lt.cmb (lst i c) _ u);have w1:∀j,j<i->L i j-1*cmb (lst i c) ((Ah i).map L) j=0:=fun j g=>by have:=hc j g;(first|lia|omega)
 have w2:∀j,i<=j->j<r->cmb (lst i c) ((Ah i).map L) j=0:=fun j h1 h2=>HK fun t a=>T.lz t j ω h2;have d1:=T.ld _ i hw hi w1;have v:=T.lp i hi;have x:=T.fp i hi;obtain⟨d,hd⟩:=b (i+1) ω (f i) (T.fi i hi);have e1:=hd i ω;rw[HL,HK fun t a=>T.lz t i a hi] at e1;have d2:L i i ∣ f i i:=⟨d i,by rw[e1,A9];(first|lia|omega)⟩;have wi:L i i-1*cmb (lst i c) ((Ah i).map L) i=L i i:=by rw[w2 i (Ad _) hi];(first|lia|omega)
 have l:f i i ∣ L i i:=by
  have this:f i i ∣ L i i-1*cmb (lst i c) ((Ah i).map L) i:=d1;rw[wi] at this;exact this
 have p:f i i=L i i:=Int.le_antisymm (Int.le_of_dvd v l) (Int.le_of_dvd x d2);refine⟨p,fun j g ne=>?_⟩;have hv:=T.lt.s 1 (T.fi i hi) hw;have:=T.small (Ad r) hv (fun t a=>?_) j g
 ·rcases Bi j i with h|h
  ·exact T.fz i j hi h
  ·have e:L i j=0:=T.lz i j ω g
   have e2:=w2 j ω g;have:f i j-1*(L i j-1*cmb (lst i c) ((Ah i).map L) j)=0:=this;rw[e,e2] at this;(first|lia|omega)
 ·have y:=T.fp t a
  show(f i t-1*(L i t-1*cmb (lst i c) ((Ah i).map L) t)).natAbs<(f t t).natAbs;rcases Nat.lt_trichotomy t i with h|h|h
  ·have e1:=w1 t h
   rw[T.fz i t hi h,e1];(first|lia|omega)
  ·subst h;rw[wi,p];(first|lia|omega)
  ·have e:L i t=0:=T.lz i t h a
   have e2:=w2 t ω a;have e3:=o i t h a;rw[e,e2];(first|lia|omega)
def ww(T:Two Λ r L f)(a:∀i j,i<j->j<r->0<=f i j/\f i j<f j j):(∃k,k<=r/\2*pr (tn f k)<=pr (tn L k))\/∀i,i<r->f i i=L i i/\∀j,j<r->j≠i->f i j=0:=by
 by_cases h:∀k,k<=r->∀w,Λ w->SL L k w
 ·exact .inr fun i hi=>diag T a h i hi
 ·obtain⟨k,h⟩:=Classical.not_forall.mp h
  obtain⟨hk,h⟩:=Classical.not_imp.mp h;obtain⟨w,h⟩:=Classical.not_forall.mp h;obtain⟨hw,h⟩:=Classical.not_imp.mp h;exact .inl ⟨k,hk,half_lt T hk hw h⟩
end
def Mr{R:List Vc}{P:List Nat}{f:Nat->Vc}(h:Ech P f)(c:P.Pairwise (·<·))(d:∀r∈R,Sp (P.map f) r){w:Vc}(hw:Sp R w)(hb:∀p∈P,(w p).natAbs<(f p p).natAbs):∀p∈P,w p=0:=by
 have b:=hw.trans d;intro p
 induction p using Nat.strongRecOn with
 |_ p ih=>
  intro hp;obtain⟨m,e⟩:=jo h c hp b fun q hq a=>ih q a hq;have:=hb p hp;rw[e,AB] at this;rcases Nat.eq_zero_or_pos m.natAbs with z|z
  ·rw[e,Int.natAbs_eq_zero.mp z,A8]
  ·have:(f p p).natAbs*1<=(f p p).natAbs*m.natAbs:=Al _ z
   (first|lia|omega)
def near{R:List Vc}{P:List Nat}{M:Nat}(j:1<=M)(d:∀v∈R,∀p∈P,(v p).natAbs<=M)(f:P.length=R.length)(e:P.Nodup)(hi:Inj R P)(v:Vc):∃q:List Int,q.length=R.length/\∀p∈P,(v p-cmb q R p).natAbs<=R.length*M:=by
 obtain⟨V,g⟩:∃V,∀p∈P,(v p).natAbs<=V:=by
  clear d f e hi
  induction P with
  |nil=>exact⟨0,fun p hp=>nomatch hp⟩
  |cons p P ih=>
   obtain⟨V,h⟩:=ih;exact⟨V+(v p).natAbs,fun q hq=>by rcases List.mem_cons.mp hq with rfl|hq;(first|lia|omega);have:=h q hq;(first|lia|omega)⟩
 obtain⟨D,s,c,a,e1,_,_⟩:=clear j d f e hi g P e fun q hq=>hq;have fin:∀(D:Int)(s:List Int),0<D->s.length=R.length->(∀p∈P,cmb s R p=D*v p)->∃q:List Int,q.length=R.length/\∀p∈P,(v p-cmb q R p).natAbs<=R.length*M:=fun D s c a e1=>by
  refine⟨s.map (· / D),by rw[Aa,a],fun p hp=>?_⟩;have e2:cmb (s.map (·%D)) R p=cmb s R p-D*cmb (s.map (· / D)) R p:=by
   have:=fV 1 (-D) s (s.map (· / D)) R a (by rw[Aa,a]) p;rw[Int.one_mul,Int.neg_mul] at this;rw[show cmb s R p-D*cmb (s.map (· / D)) R p=cmb s R p+-(D*cmb (s.map (· / D)) R p) from ω,<-this]
   congr 1
   apply AT
   ·simp
   ·intro i h1 h2
    simp only[AO,AR];have:=Int.emod_add_mul_ediv (s[i]'(by simpa using h1)) D;rw[Int.one_mul,Int.neg_mul];(first|lia|omega)
  have b:=pb (u:=p) (X:=D.natAbs) (M:=M) (s.map (·%D)) R (fun x hx=>by
   obtain⟨y,_,rfl⟩:=List.mem_map.mp hx;have h1:=Int.emod_nonneg y (show D≠0 from ω);have h2:=Int.emod_lt_of_pos y c;(first|lia|omega)) fun v hv=>d v hv p hp
  rw[e2,e1 p hp,<-Int.mul_sub,AB,Nat.mul_left_comm] at b;exact Nat.le_of_mul_le_mul_left b ω
 rcases Int.lt_trichotomy D 0 with h|h|h
 ·refine fin (-D) (s.map fun x=>-x) ω (by rw[Aa,a]) fun p hp=>?_
  have:=fV (-1) 0 s s R a a p;rw[show(-1:Int)*cmb s R p+0*cmb s R p=-cmb s R p from ω,e1 p hp] at this;rw[Int.neg_mul,<-this]
  congr 1
  apply AT
  ·simp
  ·intro i h1 h2;simp only[AO,AR];(first|lia|omega)
 ·exact absurd h c
 ·exact fin D s h a e1
def Ms{R:List Vc}{P:List Nat}{f:Nat->Vc}{M:Nat}(G:1<=M)(hi:iC R)(h:Ech P f)(j:P.Pairwise (·<·))(v:∀r∈R,Sp (P.map f) r)(l:P.length=R.length)(hb:∀r∈R,∀p∈P,(r p).natAbs<=M):pr (P.map fun p=>(f p p).toNat)<=(2*(R.length*M)+1) ^ R.length:=by
 have q:P.Nodup:=j.imp fun h=>AA h;have inj:=ph hi h j v;have b:=fun x:List Int=>near G hb l q inj fun u=>x.getD (P.idxOf u) 0;rw[<-l,<-Cw,<-kS];have g:∀(x:List Int)(i:Nat)(hi:i<P.length),x.getD (P.idxOf P[i]) 0=x.getD i 0:=fun x i hi=>by rw[q.idxOf_getElem i hi]
 refine EG (f:=fun x=>P.map fun p=>x.getD (P.idxOf p) 0-cmb (Classical.choose (b x)) R p+((P.length*M:Nat):Int)) (p0 _) (fun x hx=>?_) fun x hx y hy e=>?_
 ·refine mL.mpr ⟨Aa _,fun z hz=>?_⟩
  obtain⟨p,hp,rfl⟩:=List.mem_map.mp hz;have:=(Classical.choose_spec (b x)).2 p hp;rw[show P.length*M=R.length*M by rw[l]];generalize cmb (Classical.choose (b x)) R p=z at this ⊢;generalize R.length*M=A at this ⊢;(first|lia|omega)
 ·obtain⟨d,c⟩:=jC.mp hx
  obtain⟨o,w⟩:=jC.mp hy;rw[Aa] at d o;obtain⟨C,_⟩:=Classical.choose_spec (b x);obtain⟨D,_⟩:=Classical.choose_spec (b y);have sp:Sp R fun u=>cmb (Classical.choose (b x)) R u-1*cmb (Classical.choose (b y)) R u:=(show Sp R (cmb (Classical.choose (b x)) R) from⟨_,C,fun _=>rfl⟩).sub ⟨_,D,fun _=>rfl⟩ 1;have s:∀p∈P,cmb (Classical.choose (b x)) R p-1*cmb (Classical.choose (b y)) R p=x.getD (P.idxOf p) 0-y.getD (P.idxOf p) 0:=fun p hp=>by
   have:=(List.map_inj_left.mp e) p hp;(first|lia|omega)
  have bd:∀(x:List Int),(∀(i:Nat) z t,x[i]?=some z->(P.map fun p=>(f p p).toNat)[i]?=some t->0<=z/\z<(t:Int))->x.length=P.length->∀p∈P,0<=x.getD (P.idxOf p) 0/\x.getD (P.idxOf p) 0<((f p p).toNat:Int):=fun x c d p hp=>by
   obtain⟨i,a,rfl⟩:=AX hp;rw[g x i a,Ac,Ab ω];exact c i _ _ (Ab ω) (by rw[Aj,Ab a];rfl)
  have z:=Mr h j v sp fun p hp=>by
   have h1:=bd x c d p hp;have h2:=bd y w o p hp
   have H:=h.pos p hp;have E:=s p hp;show(cmb (Classical.choose (b x)) R p-1*cmb (Classical.choose (b y)) R p).natAbs<_;rw[E];(first|lia|omega)
  refine AT ω fun i h1 h2=>?_;have a:i<P.length:=ω
  have:=z P[i] (Ap a);have e2:=s P[i] (Ap a);rw[g x i a,g y i a,Ac,Ac,Ab h1,Ab h2] at e2;have F:cmb (Classical.choose (b x)) R P[i]-1*cmb (Classical.choose (b y)) R P[i]=0:=this;rw[F] at e2;show x[i]=y[i];have e3:(some x[i]).getD 0=x[i]:=rfl;have I:(some y[i]).getD 0=y[i]:=rfl;(first|lia|omega)
def sm(ρ:Nat->Vc)(c:Nat->Int):Nat->Nat->Int
 |0,_=>0
 |j+1,u=>sm ρ c j u+c j*ρ j u
def CM{ρ:Nat->Vc}{c:Vc}(u:Nat):∀j,cmb (lst j c) ((Ah j).map ρ) u=sm ρ c j u
 |0=>rfl
 |j+1=>by rw[HL,CM u j];rfl
def HM(c:List Int):lst c.length (vl c)=c:=range_getD c
def wF{ρ:Nat->Vc}{c:Vc}{u:Nat}:∀j,(∀i,i<j->c i*ρ i u=0)->sm ρ c j u=0
 |0,_=>rfl
 |j+1,h=>by show sm ρ c j u+c j*ρ j u=0;rw[wF j fun i hi=>h i ω,h j ω];rfl
def wO{ρ:Nat->Vc}{c:Vc}{u:Nat}:∀(n j:Nat),(∀i,j<=i->i<j+n->c i*ρ i u=0)->sm ρ c (j+n) u=sm ρ c j u
 |0,_,_=>rfl
 |n+1,j,h=>by show sm ρ c (j+n) u+c (j+n)*ρ (j+n) u=_;rw[wO n j fun i h1 h2=>h i h1 ω,h (j+n) ω ω];(first|lia|omega)
def sd(ρ:Nat->Vc)(c:Nat->Int)(m:Nat):Nat->Nat->Int
 |0,_=>0
 |n+1,u=>sd ρ c m n u+c (m-1-n)*ρ (m-1-n) u
def HN{ρ:Nat->Vc}{c:Vc}{m u:Nat}:∀n,n<=m->sm ρ c m u=sm ρ c (m-n) u+sd ρ c m n u
 |0,_=>by show _=sm ρ c m u+0;(first|lia|omega)
 |n+1,h=>by
  rw[HN n ω];have e:m-n=(m-1-n)+1:=ω
  have e2:m-(n+1)=m-1-n:=ω
  rw[e,e2];show sm ρ c (m-1-n) u+c (m-1-n)*ρ (m-1-n) u+sd ρ c m n u=sm ρ c (m-1-n) u+(sd ρ c m n u+c (m-1-n)*ρ (m-1-n) u);(first|lia|omega)
structure Tri(k r w M g:Nat)(ρ:Nat->Vc)(Q:Nat->Nat):Prop where
 g1:1<=g
 rk:r<=k
 rw:r<=w
 qs:∀a b,a<b->b<k-r->Q a<Q b
 qw:∀a,a<k-r->w<=Q a
 tp:∀i,i<r->0<ρ i i
 tz:∀i j,i<r->i<j->j<w->ρ i j=0
 tl:∀i j,i<r->j<i->(ρ i j).natAbs<=(ρ i i).natAbs
 tq:∀i a,i<r->a<k-r->(ρ i (Q a)).natAbs<=g*(ρ (r+a) (Q a)).natAbs
 kz:∀a u,a<k-r->u<Q a->ρ (r+a) u=0
 kp:∀a,a<k-r->0<ρ (r+a) (Q a)
 kq:∀a b,a<b->b<k-r->0<=ρ (r+a) (Q b)/\ρ (r+a) (Q b)<ρ (r+b) (Q b)
 tm:∀i,i<r->(ρ i i).natAbs<=M
 km:∀a,a<k-r->g*(ρ (r+a) (Q a)).natAbs<=M
section
variable{k r w M g:Nat}{ρ:Nat->Vc}{Q:Nat->Nat}
def Tri.low(T:Tri k r w M g ρ Q){a u:Nat}(b:a<k-r)(c:u<w):ρ (r+a) u=0:=T.kz a u b (Az c (T.qw a b))
def sa(ρ:Nat->Vc)(c:Nat->Int)(m:Nat):Nat->Nat
 |0=>0
 |n+1=>sa ρ c m n+(c (m-1-n)).natAbs*(ρ (m-1-n) (m-1-n)).natAbs
def Tri.top_le(T:Tri k r w M g ρ Q){c:Vc}{m V:Nat}(f:m<=r)(hv:∀i,i<m->(sm ρ c m i).natAbs<=V):∀n,n<=m->sa ρ c m n+V<=V*2 ^ n
 |0,_=>by show 0+V<=V*1;(first|lia|omega)
 |n+1,h=>by
  have d:=Tri.top_le T f hv n ω;have hi:m-1-n<m:=ω
  have l:(sd ρ c m n (m-1-n)).natAbs<=sa ρ c m n:=by
   have:∀a,a<=n->(sd ρ c m a (m-1-n)).natAbs<=sa ρ c m a:=by
    intro a
    induction a with
    |zero=>intro _;exact Ad 0
    |succ a d=>
     intro j;have h1:=d ω;have h2:=T.tl (m-1-a) (m-1-n) ω ω;have o:(c (m-1-a)*ρ (m-1-a) (m-1-n)).natAbs<=(c (m-1-a)).natAbs*(ρ (m-1-a) (m-1-a)).natAbs:=by rw[AB];exact Al _ h2
     have p:=Int.natAbs_add_le (sd ρ c m a (m-1-n)) (c (m-1-a)*ρ (m-1-a) (m-1-n));show(sd ρ c m a (m-1-n)+c (m-1-a)*ρ (m-1-a) (m-1-n)).natAbs<=sa ρ c m a+_;(first|lia|omega)
   exact this n (Ad _)
  have e:sm ρ c m (m-1-n)=c (m-1-n)*ρ (m-1-n) (m-1-n)+sd ρ c m n (m-1-n):=by
   rw[HN n ω,show m-n=(m-1-n)+1 from ω];show sm ρ c (m-1-n) (m-1-n)+_+_=_;rw[wF (m-1-n) fun i b=>by rw[T.tz i (m-1-n) ω b (by have:=T.rw;(first|lia|omega)),A8]];(first|lia|omega)
  have q:=hv (m-1-n) hi;have s:(c (m-1-n)).natAbs*(ρ (m-1-n) (m-1-n)).natAbs<=V+sa ρ c m n:=by
   rw[<-AB];(first|lia|omega)
  show sa ρ c m n+(c (m-1-n)).natAbs*(ρ (m-1-n) (m-1-n)).natAbs+V<=V*2 ^ (n+1);rw[Nat.pow_succ,<-AN];(first|lia|omega)
def sc(c:Nat->Int):Nat->Nat
 |0=>0
 |n+1=>sc c n+(c n).natAbs
def Mt{c:Vc}{n i:Nat}(h:i<n):(c i).natAbs<=sc c n:=by
 induction n with
 |zero=>(first|lia|omega)
 |succ n ih=>
  show _<=sc c n+(c n).natAbs
  by_cases e:i=n
  ·subst e;(first|lia|omega)
  ·have:=ih ω;(first|lia|omega)
def Tri.top_sum(T:Tri k r w M g ρ Q){c:Vc}{m V:Nat}(a:m<=r)(hv:∀i,i<m->(sm ρ c m i).natAbs<=V):sc c m+V<=V*2 ^ m:=by
 have h1:=T.top_le a hv m (Ad _);have h2:∀n,n<=m->sc c m<=sc c (m-n)+sa ρ c m n:=by
  intro n
  induction n with
  |zero=>intro _;exact Ad _
  |succ n ih=>
   intro b;have:=ih ω;have hp:=T.tp (m-1-n) ω;rw[show m-n=(m-1-n)+1 from ω] at this;rw[show m-(n+1)=m-1-n from ω];have d:(c (m-1-n)).natAbs*1<=(c (m-1-n)).natAbs*(ρ (m-1-n) (m-1-n)).natAbs:=Al _ ω;show sc c m<=sc c (m-1-n)+(sa ρ c m n+_);have e:sc c (m-1-n+1)=sc c (m-1-n)+(c (m-1-n)).natAbs:=rfl;(first|lia|omega)
 have:=h2 m (Ad _);rw[Nat.sub_self] at this;have:sc c 0=0:=rfl;(first|lia|omega)
def HP{c:Vc}{u K:Nat}:∀n,(∀i,i<n->(ρ i u).natAbs<=K)->(sm ρ c n u).natAbs<=K*sc c n
 |0,_=>At _
 |n+1,h=>by
  have h1:=HP (c:=c) n fun i hi=>h i ω;have h2:(c n*ρ n u).natAbs<=K*(c n).natAbs:=by rw[AB,Nat.mul_comm];exact Ak _ (h n ω)
  have a:=Int.natAbs_add_le (sm ρ c n u) (c n*ρ n u);show(sm ρ c n u+c n*ρ n u).natAbs<=K*(sc c n+(c n).natAbs);rw[Nat.mul_add];(first|lia|omega)
def Tri.all_sum(T:Tri k r w M g ρ Q){c:Vc}{V:Nat}:∀n,n<=k-r->(∀i,i<r->(sm ρ c (r+n) i).natAbs<=V)->(∀a,a<n->(sm ρ c (r+n) (Q a)).natAbs<=V)->sc c (r+n)+V<=V*2 ^ r*(1+g) ^ n:=by
 intro n;have base:∀n,n<=k-r->(∀i,i<r->(sm ρ c (r+n) i).natAbs<=V)->sc c r+V<=V*2 ^ r:=fun n f hv=>T.top_sum (Ad r) fun i hi=>by
  have:=hv i hi
  rwa [wO n r fun j h1 h2=>by
   have:=T.low (a:=j-r) (u:=i) ω (by have:=T.rw;(first|lia|omega));rw[show r+(j-r)=j from ω] at this;rw[this,A8]] at this
 intro f hv hq;have hb:=base n f hv;have:∀b,b<=n->sc c (r+b)+V<=V*2 ^ r*(1+g) ^ b:=by
  intro b
  induction b with
  |zero=>intro _;rw[Nat.pow_zero,Nat.mul_one];exact hb
  |succ b ih=>
   intro o;have h1:=ih ω;have hp:=T.kp b ω;have e:sm ρ c (r+n) (Q b)=sm ρ c (r+b) (Q b)+c (r+b)*ρ (r+b) (Q b):=by
    have:=wO (ρ:=ρ) (c:=c) (u:=Q b) (n-(b+1)) (r+(b+1)) fun j h1 h2=>by
     have:=T.kz (j-r) (Q b) ω (T.qs b (j-r) ω ω);rw[show r+(j-r)=j from ω] at this;rw[this,A8]
    rw[show r+(b+1)+(n-(b+1))=r+n from ω] at this;rw[this];rfl
   have h2:(sm ρ c (r+b) (Q b)).natAbs<=(g*(ρ (r+b) (Q b)).natAbs)*sc c (r+b):=HP (r+b) fun i hi=>by
    by_cases d:i<r
    ·exact T.tq i b d ω
    ·have:=T.kq (i-r) b ω ω
     rw[show r+(i-r)=i from ω] at this;have:1*(ρ (r+b) (Q b)).natAbs<=g*(ρ (r+b) (Q b)).natAbs:=Ak _ T.g1;(first|lia|omega)
   have p:=hq b ω;have l:(c (r+b)).natAbs*(ρ (r+b) (Q b)).natAbs<=V+(g*(ρ (r+b) (Q b)).natAbs)*sc c (r+b):=by
    rw[<-AB];(first|lia|omega)
   generalize hκ:(ρ (r+b) (Q b)).natAbs=κ at h2 l;have h:1<=κ:=ω
   have q:(c (r+b)).natAbs<=V+g*sc c (r+b):=by
    have:κ*(c (r+b)).natAbs<=κ*(V+g*sc c (r+b)):=by
     rw[Nat.mul_add,Nat.mul_comm κ (c (r+b)).natAbs,<-AN,Nat.mul_comm κ g];have:V<=κ*V:=Nat.le_mul_of_pos_left _ h;(first|lia|omega)
    exact Nat.le_of_mul_le_mul_left this h
   show sc c (r+b)+(c (r+b)).natAbs+V<=V*2 ^ r*(1+g) ^ (b+1);rw[Nat.pow_succ,<-AN];have s:(sc c (r+b)+V)*(1+g)<=V*2 ^ r*(1+g) ^ b*(1+g):=Ak _ h1;have v:(sc c (r+b)+V)*(1+g)=sc c (r+b)+V+(g*sc c (r+b)+g*V):=by rw[Nat.mul_add,Nat.mul_one,Nat.mul_comm _ g,Nat.mul_add]
   have x:1*V<=g*V:=Ak _ T.g1;(first|lia|omega)
 exact this n (Ad _)
end
def wP:∀(a b:List Nat),pr (a++b)=pr a*pr b
 |[],b=>by show pr b=1*pr b;(first|lia|omega)
 |t::a,b=>by show t*pr (a++b)=t*pr a*pr b;rw[wP a b,AN]
def HQ(g:Nat->Vc)(k:Nat):tn g (k+1)=tn g k++[(g k k).toNat]:=by unfold tn;rw[List.range_succ,AD];rfl
def p8{g:Nat->Vc}:∀{k:Nat},(∀i,i<k->0<g i i)->1<=pr (tn g k)
 |0,_=>Ad _
 |k+1,h=>by
  rw[HQ,wP];have h1:=p8 (k:=k) fun i hi=>h i ω;have h2:=h k ω;exact zV h1 (by show 1<=(g k k).toNat*1;(first|lia|omega))
def EJ{g:Nat->Vc}{k:Nat}(h:∀i,i<k+1->0<g i i):(g k k).toNat<=pr (tn g (k+1)):=by
 rw[HQ,wP];have:=p8 (k:=k) fun i hi=>h i ω;show _<=pr (tn g k)*((g k k).toNat*1);rw[Nat.mul_one];exact Nat.le_mul_of_pos_left _ this
section
variable{k r w M g:Nat}{ρ:Nat->Vc}{Q:Nat->Nat}
def pl(r j:Nat)(Q:Nat->Nat):List Nat:=Ah (min j r)++(Ah (j-r)).map Q
def HR{j:Nat}:(pl r j Q).length=j:=by unfold pl;rw[AZ,AY,Aa,AY];(first|lia|omega)
def Tri.sum_le(T:Tri k r w M g ρ Q){j V:Nat}{c:Vc}(d:j<=k)(hv:∀p∈pl r j Q,(sm ρ c j p).natAbs<=V):sc c j+V<=V*(1+g) ^ j:=by
 rcases Bi j r with h|h
 ·have:=T.top_sum (m:=j) ω fun i hi=>hv i (A6 _ (List.mem_range.mpr ω))
  have g2:2 ^ j<=(1+g) ^ j:=Nat.pow_le_pow_left (by have:=T.g1;(first|lia|omega)) _;exact Ae this (Al _ g2)
 ·have:=T.all_sum (c:=c) (V:=V) (j-r) ω (fun i hi=>?_) fun a b=>?_
  ·rw[show r+(j-r)=j from ω] at this
   have g2:2 ^ r<=(1+g) ^ r:=Nat.pow_le_pow_left (by have:=T.g1;(first|lia|omega)) _;have g3:V*2 ^ r*(1+g) ^ (j-r)<=V*(1+g) ^ r*(1+g) ^ (j-r):=Ak _ (Al _ g2);rw[AN V ((1+g) ^ r),<-Nat.pow_add,show r+(j-r)=j from ω] at g3;exact Ae this g3
  ·rw[show r+(j-r)=j from ω]
   exact hv i (A6 _ (List.mem_range.mpr ω))
  ·rw[show r+(j-r)=j from ω]
   exact hv (Q a) (Ay _ (List.mem_map.mpr ⟨a,List.mem_range.mpr b,rfl⟩))
def Tri.lead(T:Tri k r w M g ρ Q){j p:Nat}{c:Vc}(H:j<=k)(hz:∀u,u<p->sm ρ c j u=0)(hp:sm ρ c j p≠0):p∈pl r j Q:=by
 by_cases C:∃i,i<min j r/\c i≠0
 ·-- eA f row of eA slope that stands there
  have f:∀m,m<=min j r->(∃i,i<m/\c i≠0)->∃i,i<m/\c i≠0/\∀d,i<d->d<m->c d=0:=by
   intro m
   induction m with
   |zero=>rintro _ ⟨i,hi,_⟩;(first|lia|omega)
   |succ m ih=>
    rintro G ⟨i,hi,hc⟩
    by_cases e:c m=0
    ·obtain⟨d,h1,h2,q⟩:=ih ω ⟨i,by rcases Bi i m with h|h;exact h;exact absurd (show c i=0 by rw[show i=m from ω];exact e) hc,hc⟩
     exact⟨d,ω,h2,fun y D E=>by by_cases e2:y=m;rw[e2];exact e;exact q y D ω⟩
    ·exact⟨m,ω,e,fun d h1 h2=>ω⟩
  obtain⟨i,hi,hc,s⟩:=f _ (Ad _) C;have v:i<r:=ω
  have e:sm ρ c j i=c i*ρ i i:=by
   have h1:=wO (ρ:=ρ) (c:=c) (u:=i) (j-(i+1)) (i+1) fun d h1 h2=>by
    by_cases h:d<r
    ·rw[s d ω ω,Int.zero_mul]
    ·have:=T.low (a:=d-r) (u:=i) ω (by have:=T.rw;(first|lia|omega))
     rw[show r+(d-r)=d from ω] at this;rw[this,A8]
   rw[show i+1+(j-(i+1))=j from ω] at h1;rw[h1];show sm ρ c i i+c i*ρ i i=_;rw[wF i fun d l=>by rw[T.tz d i ω l (by have:=T.rw;(first|lia|omega)),A8]];(first|lia|omega)
  have x:sm ρ c j i≠0:=by rw[e];exact Int.mul_ne_zero hc (by have:=T.tp i v;(first|lia|omega))
  have:p<=i:=by
   rcases Bi i p with h|h
   ·exact absurd (hz i h) x
   ·exact h
  exact A6 _ (List.mem_range.mpr ω)
 ·have A:∀i,i<min j r->c i=0:=fun i hi=>AE fun z=>C ⟨i,hi,z⟩
  have first:∀n,(∃a,a<n/\c (r+a)≠0)->∃a,a<n/\c (r+a)≠0/\∀b,b<a->c (r+b)=0:=by
   intro n
   induction n with
   |zero=>rintro⟨a,o,_⟩;(first|lia|omega)
   |succ n ih=>
    rintro⟨a,o,hc⟩
    by_cases h:∃a,a<n/\c (r+a)≠0
    ·obtain⟨a',h1,h2,q⟩:=ih h
     exact⟨a',ω,h2,q⟩
    ·exact⟨a,o,hc,fun b hb=>AE fun z=>h ⟨b,ω,z⟩⟩
  have ex:∃a,a<j-r/\c (r+a)≠0:=AE fun no=>hp (wF j fun i hi=>by
   by_cases h:i<r
   ·rw[A i ω,Int.zero_mul]
   ·have:c (r+(i-r))=0:=AE fun z=>no ⟨i-r,ω,z⟩
    rw[show r+(i-r)=i from ω] at this;rw[this,Int.zero_mul])
  obtain⟨a,o,hc,s⟩:=first _ ex;have e:∀u,u<=Q a->sm ρ c j u=c (r+a)*ρ (r+a) u:=fun u F=>by
   have h1:=wO (ρ:=ρ) (c:=c) (u:=u) (j-(r+a+1)) (r+a+1) fun d h1 h2=>by
    have:=T.kz (d-r) u ω (by have:=T.qs a (d-r) ω ω;(first|lia|omega));rw[show r+(d-r)=d from ω] at this;rw[this,A8]
   rw[show r+a+1+(j-(r+a+1))=j from ω] at h1;rw[h1];show sm ρ c (r+a) u+c (r+a)*ρ (r+a) u=_;rw[wF (r+a) fun d l=>by
    by_cases h:d<r
    ·rw[A d ω,Int.zero_mul]
    ·have:=s (d-r) ω
     rw[show r+(d-r)=d from ω] at this;rw[this,Int.zero_mul]]
   (first|lia|omega)
  have hk:=T.kp a ω;have e1:p=Q a:=by
   rcases Nat.lt_trichotomy p (Q a) with h|h|h
   ·exact absurd (by rw[e p ω,T.kz a p ω h,A8]) hp
   ·exact h
   ·exact absurd (by rw[<-e (Q a) (Ad _)];exact hz (Q a) h) (Int.mul_ne_zero hc (show ρ (r+a) (Q a)≠0 from ω))
  rw[e1];exact Ay _ (List.mem_map.mpr ⟨a,List.mem_range.mpr o,rfl⟩)
def Tri.rows_le(T:Tri k r w M g ρ Q){j i p:Nat}(l:j<=k)(hi:i<j)(hp:p∈pl r j Q):(ρ i p).natAbs<=M:=by
 rcases List.mem_append.mp hp with h|h
 ·have h:=List.mem_range.mp h
  by_cases b:i<r
  ·have:=T.tm i b
   rcases Nat.lt_trichotomy p i with g|g|g
   ·have:=T.tl i p b g;(first|lia|omega)
   ·subst g;exact this
   ·rw[T.tz i p b g (by have:=T.rw;(first|lia|omega))];exact At _
  ·have:=T.low (a:=i-r) (u:=p) ω (by have:=T.rw;(first|lia|omega))
   rw[show r+(i-r)=i from ω] at this;rw[this];exact At _
 ·obtain⟨a,c,rfl⟩:=List.mem_map.mp h
  have c:=List.mem_range.mp c;have d:=T.km a ω;have f:1*(ρ (r+a) (Q a)).natAbs<=g*(ρ (r+a) (Q a)).natAbs:=Ak _ T.g1
  by_cases b:i<r
  ·have:=T.tq i a b ω;(first|lia|omega)
  ·rcases Nat.lt_trichotomy (i-r) a with g'|g'|g'
   ·have:=T.kq (i-r) a g' ω
    rw[show r+(i-r)=i from ω] at this;(first|lia|omega)
   ·have e:ρ i (Q a)=ρ (r+a) (Q a):=by rw[<-g',show r+(i-r)=i from ω]
    rw[e];(first|lia|omega)
   ·have:=T.kz (i-r) (Q a) ω (T.qs a (i-r) g' ω)
    rw[show r+(i-r)=i from ω] at this;rw[this];exact At _
def HS(T:Tri k r w M g ρ Q){N B:Nat}(W:∀a,a<k-r->(ρ (r+a) (Q a)).natAbs<=B)(X:∀m,m<=r->pr (tn ρ m)<=B)(hk:k<=N){j:Nat}(E:j<=k):Bd N M ((1+g) ^ N) B ((Ah j).map ρ):=by
 have l:((Ah j).map ρ).length=j:=by simp
 have C:∀(c:List Int),c.length=j->∀u,cmb c ((Ah j).map ρ) u=sm ρ (vl c) j u:=fun c hc u=>by
  have:=CM (ρ:=ρ) (c:=vl c) u j;rw[<-hc,HM] at this;rw[<-hc];exact this
 have small:∀(c:List Int)(V:Nat),c.length=j->(∀p∈pl r j Q,(cmb c ((Ah j).map ρ) p).natAbs<=V)->∀x∈c,x.natAbs<=V*(1+g) ^ j:=fun c V hc hv x hx=>by
  have h1:=T.sum_le (c:=vl c) E fun p hp=>by rw[<-C c hc];exact hv p hp
  obtain⟨i,hi,rfl⟩:=AX hx;have h2:=Mt (c:=vl c) (n:=j) (i:=i) ω;have e:vl c i=c[i]:=by unfold vl;rw[Ac,Ab hi];rfl
  rw[e] at h2;(first|lia|omega)
 have ind:iC ((Ah j).map ρ):=fun c hc hz x hx=>by
  have:=small c 0 (by rw[hc,l]) (fun p _=>by rw[hz];exact Ad 0) x hx;(first|lia|omega)
 refine⟨ind,fun P f h o F G I=>?_⟩;rw[l] at I;have O:P.Nodup:=o.imp fun h=>AA h;have sub:∀p∈P,p∈pl r j Q:=fun p hp=>by
  obtain⟨c,hc,e⟩:=G p hp;rw[l] at hc;refine T.lead (c:=vl c) E (fun u J=>?_) ?_
  ·rw[<-C c hc,<-e];exact h.z p hp u J
  ·rw[<-C c hc,<-e];have:=h.pos p hp;(first|lia|omega)
 have d:∀p∈pl r j Q,p∈P:=fun p hp=>AE fun z=>by
  have D:(p::P).Nodup:=List.nodup_cons.mpr ⟨z,O⟩;have:=D.length_le_of_subset (l₂:=pl r j Q) fun x hx=>by
   rcases List.mem_cons.mp hx with rfl|hx
   ·exact hp
   ·exact sub x hx
  rw[HR,AH] at this;(first|lia|omega)
 refine⟨fun p hp=>?_,fun s L p hp=>?_,fun c V hc hv x hx=>?_⟩
 ·rcases List.mem_append.mp (sub p hp) with hg|hg
  ·have hg:=List.mem_range.mp hg
   have two:Two (Sp ((Ah j).map ρ)) (min j r) ρ f:=by
    have b:∀i,i<min j r->i∈P:=fun i hi=>d i (A6 _ (List.mem_range.mpr hi));refine⟨⟨Sp.zero,fun m hv hw=>hv.sub hw m⟩,fun i hi=>Sp.mem (List.mem_map.mpr ⟨i,List.mem_range.mpr ω,rfl⟩),fun i hi=>T.tp i ω,fun i y h1 h2=>T.tz i y ω h1 (by have:=T.rw;(first|lia|omega)),fun i hi=>G i (b i hi),fun i hi=>h.pos i (b i hi),fun i y hi A=>h.z i (b i hi) y A,fun v i hv hi hz=>?_⟩;exact jo h o (b i hi) (hv.trans F) fun q _ hq=>hz q hq
   have h1:=EI two (k:=p+1) ω;have h2:=EJ (g:=f) (k:=p) fun i hi=>two.fp i ω;have Y:=X (p+1) ω;have Z:=h.pos p hp;(first|lia|omega)
  ·obtain⟨a,H,rfl⟩:=List.mem_map.mp hg
   have H:=List.mem_range.mp H;have sp:Sp (P.map f) (ρ (r+a)):=F _ (List.mem_map.mpr ⟨r+a,List.mem_range.mpr ω,rfl⟩);have hd:=jo h o hp sp fun q _ hq=>T.kz a q ω hq;have S:=T.kp a ω;have:=Nat.le_of_dvd ω (Int.natAbs_dvd_natAbs.mpr hd);have:=W a ω;(first|lia|omega)
 ·obtain⟨i,hi,rfl⟩:=List.mem_map.mp L
  exact T.rows_le E (List.mem_range.mp hi) (sub p hp)
 ·rw[l] at hc
  refine Ae (small c V hc (fun p hp=>hv p (d p hp)) x hx) ?_;have h1:(1+g) ^ j<=(1+g) ^ N:=AC ω ω;have h2:V*(1+g) ^ j<=V*(1+g) ^ N:=Al _ h1;have U:1<=N:=by
   have:0<c.length:=List.length_pos_of_mem hx;(first|lia|omega)
  exact Ae h2 (Nat.le_mul_of_pos_left _ U)
end
section
variable{k r w M g N X B:Nat}{ρ f:Nat->Vc}{Q:Nat->Nat}{P:List Nat}
def Mu{l m:List Nat}(h1:l.Pairwise (·<·))(h2:m.Pairwise (·<·))(h:∀x,x∈l↔x∈m):l=m:=
 List.Perm.eq_of_pairwise (le:=fun a b=>a<=b) (fun a b _ _ g1 g2=>Nat.le_antisymm g1 g2) (h1.imp fun h=>Nat.le_of_lt h) (h2.imp fun h=>Nat.le_of_lt h) ((List.perm_ext_iff_of_nodup (h1.imp fun h=>ω) (h2.imp fun h=>ω)).mpr h)
def Tri.pl_srt(T:Tri k r w M g ρ Q){j:Nat}(d:j<=k):(pl r j Q).Pairwise (·<·):=by
 unfold pl;rw[List.pairwise_append,List.pairwise_map];refine⟨List.pairwise_lt_range,List.pairwise_lt_range.imp_of_mem fun{a b} c hb h=>T.qs a b h (by have:=List.mem_range.mp hb;(first|lia|omega)),fun x hx y hy=>?_⟩;obtain⟨a,c,rfl⟩:=List.mem_map.mp hy;have:=List.mem_range.mp hx;have:=List.mem_range.mp c;have:=T.qw a ω;have:=T.rw;(first|lia|omega)
def Tri.places(T:Tri k r w M g ρ Q){j:Nat}(d:j<=k)(h:Ech P f)(i:P.Pairwise (·<·))(o:∀p∈P,Sp ((Ah j).map ρ) (f p))(q:P.length=j):P=pl r j Q:=by
 have sub:∀p∈P,p∈pl r j Q:=fun p hp=>by
  obtain⟨c,hc,e⟩:=o p hp;have hc:c.length=j:=by simpa using hc
  have b:∀u,cmb c ((Ah j).map ρ) u=sm ρ (vl c) j u:=fun u=>by
   have:=CM (ρ:=ρ) (c:=vl c) u j;rw[<-hc,HM] at this;rw[<-hc];exact this
  refine T.lead (c:=vl c) d (fun u l=>?_) ?_
  ·rw[<-b,<-e];exact h.z p hp u l
  ·rw[<-b,<-e];have:=h.pos p hp;(first|lia|omega)
 refine Mu i (T.pl_srt d) fun x=>⟨sub x,fun hx=>AE fun z=>?_⟩;have a:(x::P).Nodup:=List.nodup_cons.mpr ⟨z,i.imp fun h=>AA h⟩;have:=a.length_le_of_subset (l₂:=pl r j Q) fun y hy=>by
  rcases List.mem_cons.mp hy with rfl|hy
  ·exact hx
  ·exact sub y hy
 rw[HR,AH] at this;(first|lia|omega)
structure HU(k r w:Nat)(ρ f:Nat->Vc)(Q:Nat->Nat):Prop where
 fi:∀i,i<r->Sp ((Ah k).map ρ) (f i)
 fq:∀a,a<k-r->Sp ((Ah k).map ρ) (f (Q a))
 fz:∀i u,i<r->u<i->f i u=0
 fp:∀i,i<r->0<f i i
 fr:∀i j,i<j->j<r->0<=f i j/\f i j<f j j
 fo:∀i u,i<r->r<=u->u<w->f i u=0
 qz:∀a u,a<k-r->u<Q a->f (Q a) u=0
 qp:∀a,a<k-r->0<f (Q a) (Q a)
 qr:∀a b,a<b->b<k-r->0<=f (Q a) (Q b)/\f (Q a) (Q b)<f (Q b) (Q b)
 ir:∀i a,i<r->a<k-r->0<=f i (Q a)/\f i (Q a)<f (Q a) (Q a)
 qd:∀a,a<k-r->(f (Q a) (Q a)).natAbs<=(ρ (r+a) (Q a)).natAbs
 le:∀m,m<=r->pr (tn f m)<=pr (tn ρ m)
 hv:(∃m,m<=r/\2*pr (tn f m)<=pr (tn ρ m))\/∀i,i<r->f i i=ρ i i/\∀j,j<r->j≠i->f i j=0
def Tri.round(T:Tri k r w M g ρ Q)(F:FS N M X B ((Ah k).map ρ) P f):P=pl r k Q/\HU k r w ρ f Q:=by
 have D:((Ah k).map ρ).length=k:=by simp
 have E:P.length=k:=by rw[F.len,D]
 have sp:∀p∈P,Sp ((Ah k).map ρ) (f p):=fun p hp=>(F.fr p hp).sp;have e:=T.places (Ad k) F.ech F.srt sp E;have rk:=T.rk;have i1:∀i,i<r->i∈P:=fun i hi=>by rw[e];exact A6 _ (List.mem_range.mpr ω)
 have i2:∀a,a<k-r->Q a∈P:=fun a d=>by rw[e];exact Ay _ (List.mem_map.mpr ⟨a,List.mem_range.mpr d,rfl⟩)
 have two:Two (Sp ((Ah k).map ρ)) r ρ f:=by
  refine⟨⟨Sp.zero,fun m hv hw=>hv.sub hw m⟩,fun i hi=>Sp.mem (List.mem_map.mpr ⟨i,List.mem_range.mpr ω,rfl⟩),fun i hi=>T.tp i hi,fun i o h1 h2=>T.tz i o ω h1 (by have:=T.rw;(first|lia|omega)),fun i hi=>sp i (i1 i hi),fun i hi=>F.ech.pos i (i1 i hi),fun i o hi s=>F.ech.z i (i1 i hi) o s,fun v i hv hi hz=>?_⟩;exact jo F.ech F.srt (i1 i hi) (hv.trans F.gen) fun q _ hq=>hz q hq
 have l:∀i j,i<j->j<r->0<=f i j/\f i j<f j j:=fun i j h1 h2=>F.red i (i1 i ω) j (i1 j h2) h1;refine⟨e,fun i hi=>sp i (i1 i hi),fun a d=>sp _ (i2 a d),fun i u hi x=>F.ech.z i (i1 i hi) u x,fun i hi=>F.ech.pos i (i1 i hi),l,fun i u hi h1 h2=>?_,fun a u d x=>F.ech.z _ (i2 a d) u x,fun a d=>F.ech.pos _ (i2 a d),fun a b h1 h2=>F.red _ (i2 a ω) _ (i2 b h2) (T.qs a b h1 h2),fun i a hi d=>F.red i (i1 i hi) _ (i2 a d) (by have:=T.qw a d;have:=T.rw;(first|lia|omega)),fun a d=>?_,fun m A=>EI two A,ww two l⟩
 ·obtain⟨c,hc,C⟩:=sp i (i1 i hi)
  rw[C];refine zK _ _ fun v hv=>?_;obtain⟨j,y,rfl⟩:=List.mem_map.mp hv;have y:=List.mem_range.mp y
  by_cases h:j<r
  ·exact T.tz j u h ω h2
  ·have:=T.low (a:=j-r) (u:=u) ω h2
   rwa [show r+(j-r)=j from ω] at this
 ·have hd:=jo F.ech F.srt (i2 a d) (F.gen (ρ (r+a)) (List.mem_map.mpr ⟨r+a,List.mem_range.mpr ω,rfl⟩)) fun q _ hq=>T.kz a q d hq
  have:=T.kp a d;exact Nat.le_of_dvd ω (Int.natAbs_dvd_natAbs.mpr hd)
end
def Mv{f:Nat->Vc}{P:List Nat}{V:Nat}(h:Ech P f)(H:P.Pairwise (·<·))(E:∀p∈P,∀q∈P,p<q->0<=f p q/\f p q<f q q){l:Vc}(i:Sp (P.map f) l)(hv:∀p∈P,(l p).natAbs<=V*(f p p).natAbs):∀x∈shr f P l,x.natAbs<=V*2 ^ P.length:=by
 have e:=EE h H i;generalize ha:shr f P l=a at e;have N:a.length=P.length:=by rw[<-ha,ED]
 have w:∀(P1 P2:List Nat)(a1 a2:List Int)(S:Nat),P=P1++P2->a=a1++a2->a1.length=P1.length->(∀x∈a1,x.natAbs<=S)->(∀p∈P2,(cmb a1 (P1.map f) p).natAbs<=S*(f p p).natAbs)->V+S<=V*2 ^ P1.length->∀x∈a2,x.natAbs<=V*2 ^ P.length:=by
  intro P1 P2
  induction P2 generalizing P1 with
  |nil=>
   intro a1 a2 S b o r _ _ _ x hx;have:a2.length=0:=by have:=congrArg List.length o;have h2:=congrArg List.length b;rw[AZ] at this h2;simp at h2;(first|lia|omega)
   rw[AG this] at hx;cases hx
  |cons p P2 ih=>
   intro a1 a2 S b o r I F M x hx;cases a2 with
   |nil=>cases hx
   |cons y a2=>
    have hp:p∈P:=by rw[b];simp
    have g:=H;rw[b,List.pairwise_append,Ba] at g;have j:∀(c d:List Int)(A D:List Vc)(u:Nat),c.length=A.length->cmb (c++d) (A++D) u=cmb c A u+cmb d D u:=by
     intro c
     induction c with
     |nil=>intro d A D u i;rw[AG i.symm];show cmb d D u=0+cmb d D u;(first|lia|omega)
     |cons z c ih=>intro d A D u i;cases A with
      |nil=>simp at i
      |cons s A=>show z*s u+cmb (c++d) (A++D) u=z*s u+cmb c A u+cmb d D u;rw[ih d A D u (by simpa using i)];(first|lia|omega)
    have ep:l p=cmb a1 (P1.map f) p+y*f p p:=by
     rw[e,o,b,AD,j _ _ _ _ _ (by rw[Aa,r])];show cmb a1 (P1.map f) p+(y*f p p+cmb a2 (P2.map f) p)=_;rw[zK a2 (P2.map f) fun v hv=>by
      obtain⟨q,hq,rfl⟩:=List.mem_map.mp hv;exact h.z q (by rw[b];simp[hq]) p (g.2.1.1 q hq)]
     (first|lia|omega)
    have G:=h.pos p hp;have hy:y.natAbs<=V+S:=by
     have J:=hv p hp;have L:=F p (.head _);have C:y.natAbs*(f p p).natAbs<=V*(f p p).natAbs+S*(f p p).natAbs:=by rw[<-AB];(first|lia|omega)
     rw[<-Nat.add_mul] at C;exact Nat.le_of_mul_le_mul_right C ω
    have mono:V*2 ^ P1.length<=V*2 ^ P.length:=Al _ (AC ξ (by rw[b];simp));rcases List.mem_cons.mp hx with rfl|hx
    ·(first|lia|omega)
    ·refine ih (P1++[p]) (a1++[y]) a2 (V+S+S) (by rw[b];simp) (by rw[o];simp) (by simp[r]) (fun z hz=>?_) (fun q hq=>?_) (by rw[AZ,List.length_singleton,Nat.pow_succ,<-AN];(first|lia|omega)) x hx
     ·rcases List.mem_append.mp hz with hz|hz
      ·have:=I z hz;(first|lia|omega)
      ·rw[List.mem_singleton.mp hz];(first|lia|omega)
     ·rw[AD,j _ _ _ _ _ (by rw[Aa,r])]
      have J:=F q (.tail _ hq);have O:=E p hp q (by rw[b];simp[hq]) (g.2.1.1 q hq);have L:(y*f p q).natAbs<=(V+S)*(f q q).natAbs:=by rw[AB];exact AQ hy ω
      have C:=Int.natAbs_add_le (cmb a1 (P1.map f) q) (y*f p q);show(cmb a1 (P1.map f) q+(y*f p q+0)).natAbs<=(V+S+S)*(f q q).natAbs;rw[Int.add_zero,Nat.add_mul (V+S) S];(first|lia|omega)
 exact w [] P [] a 0 rfl rfl rfl (fun x hx=>nomatch hx) (fun p _=>At _) (by simp)
def glue(m:Nat)(S W:Nat->Vc):Nat->Vc:=fun i u=>if u<m then S i u else W i (u-m)
def zL{m:Nat}{S W:Nat->Vc}{i u:Nat}(h:u<m):glue m S W i u=S i u:=if_pos h
def zW{m:Nat}{S W:Nat->Vc}{i t:Nat}:glue m S W i (m+t)=W i t:=by unfold glue;rw[if_neg ω,Nat.add_sub_cancel_left]
def tl(n:Nat)(W:Nat->Vc):List Vc:=(Ah n).map W
def EK{m:Nat}:∀(c:List Int)(L:List Vc)(t:Nat),cmb c L (m+t)=cmb c (L.map fun l=>fun t=>l (m+t)) t
 |[],[],_=>rfl
 |[],_::_,_=>rfl
 |_::_,[],_=>rfl
 |a::c,l::L,t=>by show a*l (m+t)+cmb c L (m+t)=a*l (m+t)+_;rw[EK c L t]
section
variable{n m N M X B:Nat}{S W f:Nat->Vc}{P:List Nat}{Bc:List Vc}
def mT(n:Nat)(sh:Ξ)(Bc:List Vc):List Vc:=(Ah n).map fun j=>fun s=>cmb (sh.map fun row=>row.getD j 0) Bc s
def sR:(tl n (glue m S W)).map (fun r=>fun t=>r (m+t))=tl n W:=by
 unfold tl;rw[AS];exact AW fun i _=>funext fun t=>zW
def CN(F:FS N M X B (tl n (glue m S W)) P f)(D:Both n (tl n W) Bc):Both n (P.map fun p=>fun t=>f p (m+t)) (mT n ((tl n (glue m S W)).map fun r=>shr f P r) Bc):=by
 have o:(tl n (glue m S W)).length=n:=by unfold tl;simp
 have g:P.length=n:=by rw[F.len,o]
 have v:=Dual.next (V:=P.map fun p=>fun t=>f p (m+t)) (sh:=(tl n (glue m S W)).map fun r=>shr f P r) D.a (by rw[Aa,g]) (by rw[Aa,o]) (fun row hr=>by
  obtain⟨r,_,rfl⟩:=List.mem_map.mp hr;rw[ED,g]) fun i u row t e hr h=>by
   unfold tl at e hr;rw[Aj] at e hr;obtain⟨j,b,rfl⟩:=Option.map_eq_some_iff.mp e;rw[Aj,b] at hr;obtain rfl:=AV hr;have w:glue m S W j∈tl n (glue m S W):=List.mem_map.mpr ⟨j,An b,rfl⟩;have:=EE F.ech F.srt (F.gen _ w) (m+t);rw[zW,EK,AS] at this;exact this
 refine Mp v fun c hc hz x hx=>?_;have D':Both n ((tl n (glue m S W)).map fun r=>fun t=>r (m+t)) Bc:=by rw[sR];exact D
 obtain⟨d,hd,l⟩:Sp (tl n (glue m S W)) (cmb c (P.map f)):=Sp.cmb c _ fun s q=>by
  obtain⟨p,hp,rfl⟩:=List.mem_map.mp q;exact(F.fr p hp).sp
 have y:=D'.free hd fun t h=>by
  rw[<-l,EK,AS];exact hz t h
 exact Eu F.ech F.srt c (by rw[hc,g]) (fun p _=>by rw[l];exact mN d _ _ y) x hx
def Mw(F:FS N M X B (tl n (glue m S W)) P f){A:Nat}(a:∀i t,i<n->(W i t).natAbs<=A):∀p∈P,∀t,(f p (m+t)).natAbs<=N*(cC N X B*A):=fun p hp t=>by
 have:=(F.fr p hp).le (u:=m+t) (M:=A) fun r hr=>by
  obtain⟨i,hi,rfl⟩:=List.mem_map.mp hr;rw[zW];exact a i t (List.mem_range.mp hi)
 exact Ae this (Ak _ F.few)
def Sp.ind{R:List Vc}{v:Vc}(C:Vc->Prop)(d:C fun _=>0)(g:∀(a:Int)(x y:Vc),C x->C y->C fun u=>a*x u+y u)(b:∀r∈R,C r)(h:Sp R v):C v:=by
 obtain⟨c,_,e⟩:=h;have:∀(c:List Int)(R:List Vc),(∀r∈R,C r)->C (Tb.cmb c R):=by
  intro c
  induction c with
  |nil=>intro R _;cases R<;>exact d
  |cons a c ih=>intro R b;cases R with
   |nil=>exact d
   |cons r R=>exact g a r (Tb.cmb c R) (b r (.head _)) (ih R fun s f=>b s (.tail _ f))
 have hv:=this c R b
 rwa [<-funext e] at hv
end
def kU{k:Nat}{a b b':Vc}{x:Int}:dot k a (fun u=>x*b u+b' u)=x*dot k a b+dot k a b':=by
 induction k with
 |zero=>show(0:Int)=x*0+0;(first|lia|omega)
 |succ k ih=>
  show dot k a _+a k*(x*b k+b' k)=x*(dot k a b+a k*b k)+(dot k a b'+a k*b' k);rw[ih,Bg,Bg,Int.mul_left_comm];(first|lia|omega)
def aQ(k w:Nat)(A:Nat->Vc)(x y:Vc):Int:=dot k x fun s=>dot w (A s) y
def HV{k w:Nat}{A:Nat->Vc}{a:Int}{x x' y:Vc}:aQ k w A (fun u=>a*x u+x' u) y=a*aQ k w A x y+aQ k w A x' y:=by
 unfold aQ;have:=pB (k:=k) (a:=x) (a':=x') (b:=fun s=>dot w (A s) y) (x:=a) (y:=1);rw[Int.one_mul] at this;rw[<-this];exact zJ fun t _=>ω
def Mx{k w:Nat}{A:Nat->Vc}{a:Int}{x y b:Vc}:aQ k w A x (fun u=>a*y u+b u)=a*aQ k w A x y+aQ k w A x b:=by
 unfold aQ;rw[<-kU];exact zj fun s _=>by show dot w (A s) (fun u=>a*y u+b u)=a*dot w (A s) y+dot w (A s) b;exact kU
def HW{k w:Nat}{A:Nat->Vc}{y:Vc}:aQ k w A (fun _=>0) y=0:=zS fun _ _=>rfl
def Mz{k w:Nat}{A:Nat->Vc}{x:Vc}:aQ k w A x (fun _=>0)=0:=by
 unfold aQ;have:∀k,dot k x (fun s=>dot w (A s) fun _=>0)=0:=by
  intro k
  induction k with
  |zero=>rfl
  |succ k ih=>
   have z:dot w (A k) (fun _=>0)=0:=by
    have:∀w,dot w (A k) (fun _=>0)=0:=by intro w;induction w with|zero=>rfl|succ w ih=>show dot w (A k) _+A k w*0=0;rw[ih];(first|lia|omega)
    exact this w
   show dot k x _+x k*dot w (A k) (fun _=>0)=0;rw[ih,z];(first|lia|omega)
 exact this k
def HX{k w N M X B:Nat}{A T U V f:Nat->Vc}{P:List Nat}(F:FS N M X B (tl k (glue w (fun i u=>T u i) U)) P f)(c:∀u i,u<w->i<k->T u i=aQ k w A (U i) (V u)):∀p∈P,∀u,u<w->f p u=aQ k w A (fun t=>f p (w+t)) (V u):=fun p hp u b=>by
 refine Sp.ind (C:=fun v=>v u=aQ k w A (fun t=>v (w+t)) (V u)) HW.symm (fun a x y hx hy=>?_) (fun r hr=>?_) (F.fr p hp).sp
 ·show a*x u+y u=aQ k w A (fun t=>a*x (w+t)+y (w+t)) (V u)
  rw[HV,<-hx,<-hy]
 ·obtain⟨i,hi,rfl⟩:=List.mem_map.mp hr
  show glue w (fun i u=>T u i) U i u=aQ k w A (fun t=>glue w (fun i u=>T u i) U i (w+t)) (V u);rw[zL b,show(fun t=>glue w (fun i u=>T u i) U i (w+t))=U i from funext fun t=>zW];exact c u i b (List.mem_range.mp hi)
def HY{k w N M X B:Nat}{A T U V f:Nat->Vc}{P:List Nat}(F:FS N M X B (tl w (glue k (fun u i=>T i u) V)) P f)(c:∀i u,i<k->u<w->T i u=aQ k w A (U i) (V u)):∀p∈P,∀i,i<k->f p i=aQ k w A (U i) (fun t=>f p (k+t)):=fun p hp i hi=>by
 refine Sp.ind (C:=fun v=>v i=aQ k w A (U i) (fun t=>v (k+t))) Mz.symm (fun a x y hx hy=>?_) (fun r hr=>?_) (F.fr p hp).sp
 ·show a*x i+y i=aQ k w A (U i) (fun t=>a*x (k+t)+y (k+t))
  rw[Mx,<-hx,<-hy]
 ·obtain⟨u,b,rfl⟩:=List.mem_map.mp hr
  show glue k (fun u i=>T i u) V u i=aQ k w A (U i) (fun t=>glue k (fun u i=>T i u) V u (k+t));rw[zL hi,show(fun t=>glue k (fun u i=>T i u) V u (k+t))=V u from funext fun t=>zW];exact c i u hi (List.mem_range.mp b)
structure Ker(n r g b:Nat)(W:Nat->Vc)(Q:Nat->Nat):Prop where
 qs:∀a c,a<c->c<n-r->Q a<Q c
 kz:∀a u,a<n-r->u<Q a->W (r+a) u=0
 kp:∀a,a<n-r->0<W (r+a) (Q a)
 kq:∀a c,a<c->c<n-r->0<=W (r+a) (Q c)/\W (r+a) (Q c)<W (r+c) (Q c)
 tq:∀i a,i<r->a<n-r->(W i (Q a)).natAbs<=g*(W (r+a) (Q a)).natAbs
 km:∀a,a<n-r->(W (r+a) (Q a)).natAbs<=b
structure EL(n r m:Nat)(S:Nat->Vc):Prop where
 tp:∀i,i<r->0<S i i
 tz:∀i j,i<r->i<j->j<m->S i j=0
 tl:∀i j,i<r->j<i->(S i j).natAbs<=(S i i).natAbs
 z:∀i u,r<=i->i<n->u<m->S i u=0
section
variable{n r m g b M:Nat}{S W:Nat->Vc}{Q:Nat->Nat}
def HZ(l:r<=n)(o:r<=m)(hg:1<=g)(H:EL n r m S)(K:Ker n r g b W Q)(hb:g*b<=M)(p:∀i,i<r->(S i i).natAbs<=M):Tri n r m M g (glue m S W) (fun a=>m+Q a):=by
 refine⟨hg,l,o,fun a c h1 h2=>by have:=K.qs a c h1 h2;show m+Q a<m+Q c;(first|lia|omega),fun a _=>A0 _ _,fun i hi=>by rw[zL ω];exact H.tp i hi,fun i j hi h1 h2=>by rw[zL h2];exact H.tz i j hi h1 h2,fun i j hi e=>by rw[zL ω,zL ω];exact H.tl i j hi e,fun i a hi d=>by rw[zW,zW];exact K.tq i a hi d,fun a u d f=>?_,fun a d=>by rw[zW];exact K.kp a d,fun a c h1 h2=>by rw[zW,zW];exact K.kq a c h1 h2,fun i hi=>by rw[zL ω];exact p i hi,fun a d=>by rw[zW];exact Ae (Al _ (K.km a d)) hb⟩
 by_cases h:u<m
 ·rw[zL h];exact H.z (r+a) u ω ω h
 ·rw[show u=m+(u-m) from ω,zW]
  exact K.kz a _ d (by have:u<m+Q a:=f;(first|lia|omega))
end
def pls(r m:Nat)(Q:Nat->Nat)(i:Nat):Nat:=if i<r then i else m+Q (i-r)
def iG{r m:Nat}{Q:Nat->Nat}{i:Nat}(h:i<r):pls r m Q i=i:=if_pos h
def k4{r m:Nat}{Q:Nat->Nat}{a:Nat}:pls r m Q (r+a)=m+Q a:=by unfold pls;rw[if_neg ω,Nat.add_sub_cancel_left]
def EM{r m n:Nat}{Q:Nat->Nat}(h:r<=n):pl r n (fun a=>m+Q a)=(Ah n).map (pls r m Q):=by
 unfold pl;rw[Nat.min_eq_right h];apply AT
 ·simp;(first|lia|omega)
 ·intro i h1 h2
  rw[AO,A4]
  by_cases hi:i<r
  ·rw[List.getElem_append_left (by simpa using hi),A4,iG hi]
  ·rw[List.getElem_append_right (by simp;(first|lia|omega)),AO,A4,AY]
   unfold pls;rw[if_neg hi]
section
variable{n r m g b M N X B:Nat}{S W f:Nat->Vc}{Q:Nat->Nat}{P:List Nat}
def H_(p:r<=n)(q:r<=m)(K:Ker n r g b W Q)(R:HU n r m (glue m S W) f (fun a=>m+Q a)):Ker n r 1 b (fun i t=>f (pls r m Q i) (m+t)) Q/\(∀i,i<r->0<f (pls r m Q i) i)/\(∀i j,i<r->j<i->f (pls r m Q i) j=0)/\(∀i j,i<j->j<r->0<=f (pls r m Q i) j/\f (pls r m Q i) j<f (pls r m Q j) j)/\(∀i u,i<n->u<m->(r<=i\/r<=u)->f (pls r m Q i) u=0):=by
 refine⟨⟨K.qs,fun a u d l=>?_,fun a d=>?_,fun a c h1 h2=>?_,fun i a hi d=>?_,fun a d=>?_⟩,fun i hi=>?_,fun i j hi o=>?_,fun i j h1 h2=>?_,fun i u hi l h=>?_⟩
 ·show f (pls r m Q (r+a)) (m+u)=0
  rw[k4];exact R.qz a (m+u) d (by show m+u<m+Q a;(first|lia|omega))
 ·show 0<f (pls r m Q (r+a)) (m+Q a)
  rw[k4];exact R.qp a d
 ·show 0<=f (pls r m Q (r+a)) (m+Q c)/\f (pls r m Q (r+a)) (m+Q c)<f (pls r m Q (r+c)) (m+Q c)
  rw[k4,k4];exact R.qr a c h1 h2
 ·show(f (pls r m Q i) (m+Q a)).natAbs<=1*(f (pls r m Q (r+a)) (m+Q a)).natAbs
  rw[iG hi,k4];have:=R.ir i a hi d;have this:0<=f i (m+Q a)/\f i (m+Q a)<f (m+Q a) (m+Q a):=this;(first|lia|omega)
 ·show(f (pls r m Q (r+a)) (m+Q a)).natAbs<=b
  rw[k4];have h1:=R.qd a d;have h1:(f (m+Q a) (m+Q a)).natAbs<=(glue m S W (r+a) (m+Q a)).natAbs:=h1;rw[zW] at h1;exact Ae h1 (K.km a d)
 ·rw[iG hi];exact R.fp i hi
 ·rw[iG hi];exact R.fz i j hi o
 ·rw[iG (show i<r from ω),iG h2];exact R.fr i j h1 h2
 ·by_cases e:i<r
  ·rw[iG e];exact R.fo i u e ω l
  ·rw[show i=r+(i-r) from ω,k4]
   exact R.qz (i-r) u ω (by show u<m+Q (i-r);(first|lia|omega))
end
def i7{g g':Nat->Vc}{k:Nat}(h:∀i,i<k->g i i=g' i i):tn g k=tn g' k:=by
 unfold tn;exact AW fun i hi=>by rw[h i (List.mem_range.mp hi)]
structure LI(A:Nat->Vc)(k w r D bU bV g:Nat)(T U V:Nat->Vc)(Bn Bf:List Vc)(QU QV:Nat->Nat):Prop where
 rk:r<=k
 rw:r<=w
 g1:1<=g
 bl:∀u i,u<w->i<k->T u i=aQ k w A (U i) (V u)
 bu:Both k (tl k U) Bn
 bv:Both w (tl w V) Bf
 ku:Ker k r g bU U QU
 kv:Ker w r 1 bV V QV
 tp:∀u,u<r->0<T u u
 tz:∀u i,u<r->i<u->T u i=0
 tr:∀u i,u<i->i<r->0<=T u i/\T u i<T i i
 to:∀u i,u<w->i<k->(r<=u\/r<=i)->T u i=0
 pd:∀m,m<=r->pr (tn T m)<=D
structure LM(A:Nat->Vc)(k w r D bU bV g:Nat)(S U V:Nat->Vc)(Bn Bf:List Vc)(QU QV:Nat->Nat):Prop where
 rk:r<=k
 rw:r<=w
 g1:1<=g
 bl:∀i u,i<k->u<w->S i u=aQ k w A (U i) (V u)
 bu:Both k (tl k U) Bn
 bv:Both w (tl w V) Bf
 ku:Ker k r g bU U QU
 kv:Ker w r 1 bV V QV
 sl:EL w r k (fun u i=>S i u)
 pd:∀m,m<=r->pr (tn S m)<=D
section
variable{A T U V S f:Nat->Vc}{k w r D bU bV g M N X B:Nat}{Bn Bf:List Vc}{QU QV:Nat->Nat}{P:List Nat}
def LI.slp(I:LI A k w r D bU bV g T U V Bn Bf QU QV):EL k r w (fun i u=>T u i):=
 ⟨I.tp,fun i j hi h1 h2=>by
  by_cases h:j<r
  ·exact I.tz j i h h1
  ·exact I.to j i h2 (by have:=I.rk;(first|lia|omega)) (.inl ω),fun i j hi a=>by have:=I.tr j i a hi;show(T j i).natAbs<=(T i i).natAbs;(first|lia|omega),fun i u h1 h2 b=>I.to u i b h2 (.inr h1)⟩
def LI.diag_le(I:LI A k w r D bU bV g T U V Bn Bf QU QV){i:Nat}(hi:i<r):(T i i).natAbs<=D:=by
 have h1:=EJ (g:=T) (k:=i) fun j a=>I.tp j ω;have h2:=I.pd (i+1) ω;have b:=I.tp i hi;(first|lia|omega)
def LI.near_tri(I:LI A k w r D bU bV g T U V Bn Bf QU QV)(b:g*bU<=M)(c:D<=M):Tri k r w M g (glue w (fun i u=>T u i) U) (fun a=>w+QU a):=
 HZ I.rk I.rw I.g1 I.slp I.ku b fun i hi=>Ae (I.diag_le hi) c
def EN(I:LI A k w r D bU bV g T U V Bn Bf QU QV){m:Nat}(a:m<=r):tn (glue w (fun i u=>T u i) U) m=tn T m:=i7 fun i hi=>by rw[zL (by have:=I.rw;(first|lia|omega))]
def LI.near_done(I:LI A k w r D bU bV g T U V Bn Bf QU QV)(Tr:Tri k r w M g (glue w (fun i u=>T u i) U) (fun a=>w+QU a))(F:FS N M X B (tl k (glue w (fun i u=>T u i) U)) P f):P=(Ah k).map (pls r w QU)/\LM A k w r D bU bV 1 (fun i=>f (pls r w QU i)) (fun i t=>f (pls r w QU i) (w+t)) V (mT k ((tl k (glue w (fun i u=>T u i) U)).map fun r=>shr f P r) Bn) Bf QU QV/\ (∀m,m<=r->pr (tn (fun i=>f (pls r w QU i)) m)<=pr (tn T m))/\((∃m,m<=r/\2*pr (tn (fun i=>f (pls r w QU i)) m)<=pr (tn T m))\/∀i,i<r->f (pls r w QU i) i=T i i/\∀j,j<r->j≠i->f (pls r w QU i) j=0):=by
 obtain⟨d,R⟩:=Tr.round F;rw[EM I.rk] at d;obtain⟨s,n1,n2,v,l⟩:=H_ I.rk I.rw I.ku R;have o:∀m,m<=r->tn (fun i=>f (pls r w QU i)) m=tn f m:=fun m b=>i7 fun i hi=>by show f (pls r w QU i) i=f i i;rw[iG ω]
 have le:∀m,m<=r->pr (tn (fun i=>f (pls r w QU i)) m)<=pr (tn T m):=fun m b=>by rw[o m b,<-EN I b];exact R.le m b
 refine⟨d,⟨I.rk,I.rw,Ad 1,fun i u hi c=>?_,?_,I.bv,s,I.kv,⟨n1,fun u i c h1 h2=>?_,fun u i c hi=>?_,fun u i h1 h2 q=>?_⟩,fun m b=>Ae (le m b) (I.pd m b)⟩,le,?_⟩
 ·exact HX F I.bl _ (by rw[d];exact List.mem_map.mpr ⟨i,List.mem_range.mpr hi,rfl⟩) u c
 ·have:=CN F I.bu
  have e:(P.map fun p=>fun t=>f p (w+t))=tl k (fun i t=>f (pls r w QU i) (w+t)):=by rw[d,AS];rfl
  rw[e] at this;exact this
 ·show f (pls r w QU i) u=0
  by_cases h:i<r
  ·exact n2 i u h h1
  ·exact l i u h2 (by have:=I.rw;(first|lia|omega)) (.inl ω)
 ·show(f (pls r w QU i) u).natAbs<=(f (pls r w QU u) u).natAbs
  have:=v i u hi c;(first|lia|omega)
 ·exact l i u q h2 (.inr h1)
 ·rcases R.hv with ⟨m,b,h⟩|h
  ·exact .inl ⟨m,b,by rw[o m b,<-EN I b];exact h⟩
  ·refine .inr fun i hi=>?_
   obtain⟨h1,h2⟩:=h i hi;rw[zL (by have:=I.rw;(first|lia|omega))] at h1;rw[iG hi];exact⟨h1,h2⟩
def LM.diag_le(I:LM A k w r D bU bV g S U V Bn Bf QU QV){i:Nat}(hi:i<r):(S i i).natAbs<=D:=by
 have h1:=EJ (g:=S) (k:=i) fun j b=>I.sl.tp j ω;have h2:=I.pd (i+1) ω;have a:=I.sl.tp i hi;have a:0<S i i:=a;(first|lia|omega)
def LM.far_tri(I:LM A k w r D bU bV g S U V Bn Bf QU QV)(c:bV<=M)(b:D<=M):Tri w r k M 1 (glue k (fun u i=>S i u) V) (fun a=>k+QV a):=
 HZ I.rw I.rk (Ad 1) I.sl I.kv ω fun i hi=>Ae (I.diag_le hi) b
def LM.far_done(I:LM A k w r D bU bV g S U V Bn Bf QU QV)(Tr:Tri w r k M 1 (glue k (fun u i=>S i u) V) (fun a=>k+QV a))(F:FS N M X B (tl w (glue k (fun u i=>S i u) V)) P f):P=(Ah w).map (pls r k QV)/\LI A k w r D bU bV g (fun u=>f (pls r k QV u)) U (fun u t=>f (pls r k QV u) (k+t)) Bn (mT w ((tl w (glue k (fun u i=>S i u) V)).map fun r=>shr f P r) Bf) QU QV/\ (∀m,m<=r->pr (tn (fun u=>f (pls r k QV u)) m)<=pr (tn S m))/\((∃m,m<=r/\2*pr (tn (fun u=>f (pls r k QV u)) m)<=pr (tn S m))\/∀i,i<r->f (pls r k QV i) i=S i i/\∀j,j<r->j≠i->f (pls r k QV i) j=0):=by
 obtain⟨c,R⟩:=Tr.round F;rw[EM I.rw] at c;obtain⟨q,n1,n2,s,v⟩:=H_ I.rw I.rk I.kv R;have d:∀m,m<=r->tn (glue k (fun u i=>S i u) V) m=tn S m:=fun m b=>i7 fun i hi=>by rw[zL (by have:=I.rk;(first|lia|omega))]
 have l:∀m,m<=r->tn (fun u=>f (pls r k QV u)) m=tn f m:=fun m b=>i7 fun i hi=>by show f (pls r k QV i) i=f i i;rw[iG ω]
 have le:∀m,m<=r->pr (tn (fun u=>f (pls r k QV u)) m)<=pr (tn S m):=fun m b=>by rw[l m b,<-d m b];exact R.le m b
 refine⟨c,⟨I.rk,I.rw,I.g1,fun u i o hi=>?_,I.bu,?_,I.ku,q,n1,n2,s,v,fun m b=>Ae (le m b) (I.pd m b)⟩,le,?_⟩
 ·exact HY F I.bl _ (by rw[c];exact List.mem_map.mpr ⟨u,List.mem_range.mpr o,rfl⟩) i hi
 ·have:=CN F I.bv
  have e:(P.map fun p=>fun t=>f p (k+t))=tl w (fun u t=>f (pls r k QV u) (k+t)):=by rw[c,AS];rfl
  rw[e] at this;exact this
 ·rcases R.hv with ⟨m,b,h⟩|h
  ·exact .inl ⟨m,b,by rw[l m b,<-d m b];exact h⟩
  ·refine .inr fun i hi=>?_
   obtain⟨h1,h2⟩:=h i hi;rw[zL (by have:=I.rk;(first|lia|omega))] at h1;rw[iG hi];exact⟨h1,h2⟩
end
def Ia{U:Nat->Vc}{c:Vc}{i j t:Nat}(ne:i≠j):∀k,sm (put U i fun t=>U i t+U j t) (fun a=>if a=j then c j-c i else c a) k t=sm U c k t+(if i<k then c i*U j t else 0)-(if j<k then c i*U j t else 0)
 |0=>by show(0:Int)=0+(if i<0 then _ else 0)-(if j<0 then _ else 0);rw[if_neg ω,if_neg ω];rfl
 |k+1=>by
  show sm _ _ k t+(if k=j then c j-c i else c k)*put U i (fun t=>U i t+U j t) k t=sm U c k t+c k*U k t+_-_;rw[Ia ne k]
  by_cases e1:k=i
  ·subst e1
   rw[if_neg (show ¬k<k from ω),if_neg ne,zR,if_pos (show k<k+1 from ω),Bg]
   by_cases h:j<k
   ·rw[if_pos h,if_pos (show j<k+1 from ω)];(first|lia|omega)
   ·rw[if_neg h,if_neg (show ¬j<k+1 from ω)];(first|lia|omega)
  ·rw[dY e1]
   by_cases e2:k=j
   ·subst e2
    rw[if_pos rfl,if_neg (show ¬k<k from ω),if_pos (show k<k+1 from ω),Int.sub_mul]
    by_cases h:i<k
    ·rw[if_pos h,if_pos (show i<k+1 from ω)];(first|lia|omega)
    ·rw[if_neg h,if_neg (show ¬i<k+1 from ω)];(first|lia|omega)
   ·rw[if_neg e2]
    have a1:(if i<k then c i*U j t else 0)=(if i<k+1 then c i*U j t else 0):=by
     by_cases h:i<k
     ·rw[if_pos h,if_pos ω]
     ·rw[if_neg h,if_neg ω]
    have a2:(if j<k then c i*U j t else 0)=(if j<k+1 then c i*U j t else 0):=by
     by_cases h:j<k
     ·rw[if_pos h,if_pos ω]
     ·rw[if_neg h,if_neg ω]
    rw[a1,a2];(first|lia|omega)
def CO{n i:Nat}{W:Nat->Vc}(h:i<n):(tl n W)[i]?=some (W i):=by unfold tl;rw[Aj,AK h];rfl
def i8{n:Nat}{W:Nat->Vc}:(tl n W).length=n:=by unfold tl;simp
def CP{k:Nat}{U C:Nat->Vc}:Both k (tl k U) (tl k C)↔(∀s t,s<k->t<k->sm U (fun a=>C a s) k t=dl s t)/\∀i j,i<k->j<k->dot k (U i) (C j)=dl i j:=by
 have e:∀s t,cmb ((tl k C).map fun b=>b s) (tl k U) t=sm U (fun a=>C a s) k t:=fun s t=>by
  have:=CM (ρ:=U) (c:=fun a=>C a s) t k;rw[<-this];unfold tl lst;rw[AS];rfl
 constructor
 ·intro D
  exact⟨fun s t g h=>by rw[<-e];exact D.a.d s t g h,fun i j hi f=>D.b i j _ _ (CO hi) (CO f)⟩
 ·rintro⟨h1,h2⟩
  refine⟨⟨i8,i8,fun s t g h=>by rw[e];exact h1 s t g h⟩,fun i j u c l hc=>?_⟩;have hi:i<k:=by have:=(List.getElem?_eq_some_iff.mp l).1;rwa [i8] at this
  have f:j<k:=by have:=(List.getElem?_eq_some_iff.mp hc).1;rwa [i8] at this
  rw[CO hi] at l;rw[CO f] at hc;cases l;cases hc;exact h2 i j hi f
def Both.add{k:Nat}{U C:Nat->Vc}(D:Both k (tl k U) (tl k C)){i j:Nat}(hi:i<k)(p:j<k)(ne:i≠j):Both k (tl k (put U i fun t=>U i t+U j t)) (tl k (put C j fun s=>C j s-C i s)):=by
 rw[CP] at D ⊢;obtain⟨h1,h2⟩:=D;refine⟨fun s t q r=>?_,fun a b d hb=>?_⟩
 ·have e:(fun a=>put C j (fun s=>C j s-C i s) a s)=fun a=>if a=j then C j s-C i s else C a s:=funext fun a=>by
   unfold put
   by_cases h:a=j
   ·rw[if_pos h,if_pos h]
   ·rw[if_neg h,if_neg h]
  rw[e];have:=Ia (U:=U) (c:=fun a=>C a s) (t:=t) ne k;rw[this,if_pos hi,if_pos p,h1 s t q r];(first|lia|omega)
 ·-- by eA two rows
  have l:∀{x:Vc},dot k (fun t=>U i t+U j t) x=dot k (U i) x+dot k (U j) x:=fun{x}=>by
   have:=pB (k:=k) (a:=U i) (a':=U j) (b:=x) (x:=1) (y:=1);rw[Int.one_mul,Int.one_mul] at this;rw[<-this];exact zJ fun t _=>ω
  have f:∀{x:Vc},dot k x (fun s=>C j s-C i s)=dot k x (C j)-dot k x (C i):=fun{x}=>by
   have:=kU (k:=k) (a:=x) (b:=C i) (b':=C j) (x:=-1);rw[show dot k x (C j)-dot k x (C i)=-1*dot k x (C i)+dot k x (C j) from ω,<-this];exact zj fun t _=>ω
  by_cases o:a=i
  ·subst o
   rw[zR]
   by_cases g:b=j
   ·subst g
    rw[zR,l,f,f,h2 a b d hb,h2 a a d d,h2 b b hb hb,h2 b a hb d];unfold dl;rw[if_neg ne,if_pos rfl,if_pos rfl,if_neg (Ne.symm ne)];(first|lia|omega)
   ·rw[dY g,l,h2 a b d hb,h2 j b p hb]
    unfold dl;rw[if_neg (show ¬j=b from fun z=>g z.symm)];(first|lia|omega)
  ·rw[dY o]
   by_cases g:b=j
   ·subst g
    rw[zR,f,h2 a b d hb,h2 a i d hi];unfold dl;rw[if_neg o];(first|lia|omega)
   ·rw[dY g,h2 a b d hb]
def MA{A S U V f:Nat->Vc}{k w r D bU bV g M N X B:Nat}{Bn Bf:List Vc}{QU QV:Nat->Nat}{P:List Nat}(I:LM A k w r D bU bV g S U V Bn Bf QU QV)(Tr:Tri w r k M 1 (glue k (fun u i=>S i u) V) (fun a=>k+QV a))(F:FS N M X B (tl w (glue k (fun u i=>S i u) V)) P f)(h:∀i,i<r->f (pls r k QV i) i=S i i/\∀j,j<r->j≠i->f (pls r k QV i) j=0){i u:Nat}(hi:i<r)(o:u<r):S i i ∣ S i u:=by
 obtain⟨d,R⟩:=Tr.round F;have l:glue k (fun u i=>S i u) V u∈tl w (glue k (fun u i=>S i u) V):=List.mem_map.mpr ⟨u,List.mem_range.mpr (by have:=I.rw;(first|lia|omega)),rfl⟩;have sp:=F.gen _ l;have e:glue k (fun u i=>S i u) V u i=S i u:=zL (by have:=I.rk;(first|lia|omega));rw[<-e];refine Sp.ind (C:=fun v=>S i i ∣ v i) (Int.dvd_zero _) (fun a x y hx hy=>Int.dvd_add (Int.dvd_trans hx (Int.dvd_mul_left a _)) hy) (fun v hv=>?_) sp;obtain⟨p,hp,rfl⟩:=List.mem_map.mp hv;rw[d,EM I.rw] at hp;obtain⟨j,c,rfl⟩:=List.mem_map.mp hp;have c:=List.mem_range.mp c
 by_cases b:j<r
 ·by_cases e2:i=j
  ·subst e2;rw[(h i hi).1];exact Int.dvd_refl _
  ·rw[(h j b).2 i hi e2];exact Int.dvd_zero _
 ·rw[show j=r+(j-r) from ω,k4]
  rw[R.qz (j-r) i ω (by show i<k+QV (j-r);have:=I.rk;(first|lia|omega))];exact Int.dvd_zero _
def cf(U:Nat->Vc)(r:Nat):Nat->Nat->Vc
 |0=>U
 |n+1=>put (cf U r n) (r-2-n) fun t=>cf U r n (r-2-n) t+cf U r n (r-1-n) t
def ii(C:Nat->Vc)(r:Nat):Nat->Nat->Vc
 |0=>C
 |n+1=>put (ii C r n) (r-1-n) fun s=>ii C r n (r-1-n) s-ii C r n (r-2-n) s
def ss(U:Nat->Vc)(r:Nat):Nat->Nat->Vc
 |0,_=>fun _=>0
 |n+1,i=>fun t=>U i t+ss U r n (i+1) t
section
variable{U C:Nat->Vc}{r k:Nat}
def EO:∀(n:Nat),n+1<=r->∀i,cf U r n i=if r-1-n<=i/\i<r then ss U r (r-i) i else U i
 |0,h,i=>by
  show U i=_
  by_cases e:i=r-1
  ·rw[if_pos ω,show r-i=1 from ω]
   exact funext fun t=>by show U i t=U i t+0;(first|lia|omega)
  ·rw[if_neg ω]
 |n+1,h,i=>by
  have a:=EO n ω;show put (cf U r n) (r-2-n) (fun t=>cf U r n (r-2-n) t+cf U r n (r-1-n) t) i=_
  by_cases e:i=r-2-n
  ·rw[e,zR,if_pos ω,a (r-2-n),a (r-1-n),if_neg ω,if_pos ω]
   have e1:r-(r-2-n)=n+1+1:=ω
   have e2:r-(r-1-n)=n+1:=ω
   rw[e1,e2];exact funext fun t=>by
    show U (r-2-n) t+ss U r (n+1) (r-1-n) t=U (r-2-n) t+ss U r (n+1) (r-2-n+1) t;rw[show r-2-n+1=r-1-n from ω]
  ·rw[dY e,a i]
   by_cases h2:r-1-n<=i/\i<r
   ·rw[if_pos h2,if_pos ω]
   ·rw[if_neg h2,if_neg ω]
def jG(h:1<=r)(i:Nat):cf U r (r-1) i=if i<r then ss U r (r-i) i else U i:=by
 rw[EO (r-1) ω i]
 by_cases e:i<r
 ·rw[if_pos ω,if_pos e]
 ·rw[if_neg ω,if_neg e]
def Ib(hr:r<=k)(D:Both k (tl k U) (tl k C)):∀n,n+1<=r->Both k (tl k (cf U r n)) (tl k (ii C r n))
 |0,_=>D
 |n+1,h=>(Ib hr D n ω).add (i:=r-2-n) (j:=r-1-n) ω ω ω
def EQ{u K:Nat}:∀(n i:Nat),(∀j,i<=j->j<i+n->(U j u).natAbs<=K)->(ss U r n i u).natAbs<=n*K
 |0,_,_=>At _
 |n+1,i,h=>by
  have h1:=EQ (u:=u) n (i+1) fun j h1 h2=>h j ω ω;have h2:=h i (Ad _) ω;have a:=Int.natAbs_add_le (U i u) (ss U r n (i+1) u);show(U i u+ss U r n (i+1) u).natAbs<=(n+1)*K;rw[Nat.add_mul];(first|lia|omega)
def Ie{w:Nat}{A:Nat->Vc}{y:Vc}:∀(n i:Nat),aQ k w A (ss U r n i) y=ss (fun i _=>aQ k w A (U i) y) r n i 0
 |0,_=>HW
 |n+1,i=>by
  show aQ k w A (fun t=>U i t+ss U r n (i+1) t) y=aQ k w A (U i) y+ss (fun i _=>aQ k w A (U i) y) r n (i+1) 0;rw[<-Ie n (i+1)];have:=HV (k:=k) (w:=w) (A:=A) (a:=1) (x:=U i) (x':=ss U r n (i+1)) (y:=y);rw[Int.one_mul] at this;rw[<-this]
  congr 1
  exact funext fun t=>ω
def ER{c:Nat->Int}{u:Nat}:∀(n i:Nat),(∀j,i<=j->j<i+n->j≠u->c j=0)->ss (fun i _=>c i) r n i 0=if i<=u/\u<i+n then c u else 0
 |0,i,_=>by show(0:Int)=_;rw[if_neg ω]
 |n+1,i,h=>by
  show c i+ss (fun i _=>c i) r n (i+1) 0=_;rw[ER n (i+1) fun j h1 h2 a=>h j ω ω a]
  by_cases e:i=u
  ·subst e;rw[if_neg ω,if_pos ω];(first|lia|omega)
  ·rw[h i (Ad _) ω e]
   by_cases h2:i+1<=u/\u<i+1+n
   ·rw[if_pos h2,if_pos ω];(first|lia|omega)
   ·rw[if_neg h2,if_neg ω];(first|lia|omega)
end
section
variable{A T U V:Nat->Vc}{k w r D bU bV g:Nat}{Bn Bf:List Vc}{QU QV:Nat->Nat}{C:Nat->Vc}
def LI.slid(I:LI A k w r D bU bV g T U V (tl k C) Bf QU QV)(hr:1<=r)(hd:∀u i,u<r->i<r->u≠i->T u i=0):LM A k w r D bU bV (r*g) (fun i u=>aQ k w A (cf U r (r-1) i) (V u)) (cf U r (r-1)) V (tl k (ii C r (r-1))) Bf QU QV/\∀i u,i<k->u<w->aQ k w A (cf U r (r-1) i) (V u)=if i<=u/\u<r then T u u else 0:=by
 have rk:=I.rk;have q:=I.rw;have val:∀i u,i<k->u<w->aQ k w A (cf U r (r-1) i) (V u)=if i<=u/\u<r then T u u else 0:=fun i u hi b=>by
  rw[jG hr]
  by_cases h:i<r
  ·rw[if_pos h,Ie]
   have e:ss (fun i _=>aQ k w A (U i) (V u)) r (r-i) i 0=ss (fun i _=>if i<k then T u i else aQ k w A (U i) (V u)) r (r-i) i 0:=by
    congr 1
    exact funext fun j=>funext fun _=>by
     by_cases l:j<k
     ·rw[if_pos l,I.bl u j b l]
     ·rw[if_neg l]
   rw[e,ER (u:=u) (r-i) i fun j h1 h2 f=>by
    rw[if_pos ω]
    by_cases o:u<r
    ·exact hd u j o ω (Ne.symm f)
    ·exact I.to u j b ω (.inl ω)]
   by_cases h2:i<=u/\u<r
   ·rw[if_pos ω,if_pos h2,if_pos ω]
   ·rw[if_neg ω,if_neg h2]
  ·rw[if_neg h,if_neg ω,<-I.bl u i b hi]
   exact I.to u i b hi (.inr ω)
 have dg:∀i,i<r->aQ k w A (cf U r (r-1) i) (V i)=T i i:=fun i hi=>by rw[val i i ω ω,if_pos ⟨Ad _,hi⟩]
 refine⟨⟨rk,q,Nat.mul_pos hr I.g1,fun i u _ _=>rfl,Ib rk I.bu (r-1) ω,I.bv,⟨I.ku.qs,fun a u d b=>?_,fun a d=>?_,fun a c h1 h2=>?_,fun i a hi d=>?_,fun a d=>?_⟩,I.kv,⟨fun u b=>?_,fun u i b h1 h2=>?_,fun u i b hi=>?_,fun u i h1 h2 f=>?_⟩,fun m p=>?_⟩,val⟩
 ·rw[jG hr,if_neg ω];exact I.ku.kz a u d b
 ·rw[jG hr,if_neg ω];exact I.ku.kp a d
 ·rw[jG hr,jG hr,if_neg ω,if_neg ω];exact I.ku.kq a c h1 h2
 ·rw[jG hr,jG hr,if_pos hi,if_neg ω]
  have:=EQ (U:=U) (r:=r) (u:=QU a) (K:=g*(U (r+a) (QU a)).natAbs) (r-i) i fun j h1 h2=>I.ku.tq j a ω d;refine Ae this ?_;rw[AN];exact Ak _ ω
 ·rw[jG hr,if_neg ω];exact I.ku.km a d
 ·show 0<aQ k w A (cf U r (r-1) u) (V u)
  rw[dg u b];exact I.tp u b
 ·show aQ k w A (cf U r (r-1) i) (V u)=0
  rw[val i u h2 ω,if_neg ω]
 ·show(aQ k w A (cf U r (r-1) i) (V u)).natAbs<=(aQ k w A (cf U r (r-1) u) (V u)).natAbs
  rw[dg u b,val i u ω ω,if_pos ω];exact Ad _
 ·show aQ k w A (cf U r (r-1) i) (V u)=0
  rw[val i u f h2,if_neg ω]
 ·have e:tn (fun i u=>aQ k w A (cf U r (r-1) i) (V u)) m=tn T m:=i7 fun i hi=>dg i ω
  rw[e];exact I.pd m p
end
def ES{f:Nat->Vc}:∀{P:List Nat}{v:Vc}{p:Nat},Ech P f->P.Pairwise (·<·)->Sp (P.map f) v->(∀u,u<p->v u=0)->v p≠0->p∈P
 |[],v,p,_,_,⟨c,hc,e⟩,_,hp=>by
  refine absurd ?_ hp;rw[e];cases c<;>rfl
 |q::P,v,p,h,hs,⟨c,hc,e⟩,hz,hp=>by
  cases c with
  |nil=>simp at hc
  |cons a c=>
   rw[Ba] at hs;have eq:v q=a*f q q:=by
    rw[e];show a*f q q+cmb c (P.map f) q=a*f q q;rw[zK c (P.map f) fun v hv=>by
     obtain⟨r,hr,rfl⟩:=List.mem_map.mp hv;exact h.z r (.tail _ hr) q (hs.1 r hr)]
    (first|lia|omega)
   have b:=h.pos q (.head _)
   by_cases d:a=0
   ·refine .tail _ (ES (v:=v) (h.sub fun r hr=>.tail _ hr) hs.2 ⟨c,by simpa using hc,fun u=>?_⟩ hz hp)
    rw[e];show a*f q u+cmb c (P.map f) u=_;rw[d];(first|lia|omega)
   ·have hq:v q≠0:=by rw[eq];exact Int.mul_ne_zero d ω
    have h1:p<=q:=by
     rcases Bi q p with g|g
     ·exact absurd (hz q g) hq
     ·exact g
    have h2:q<=p:=by
     rcases Bi p q with g|g
     ·refine absurd ?_ hp
      rw[e];refine zK _ _ fun x hx=>?_;obtain⟨r,hr,rfl⟩:=List.mem_map.mp hx;rcases List.mem_cons.mp hr with rfl|hr
      ·exact h.z r (.head _) p g
      ·exact h.z r (.tail _ hr) p (by have:=hs.1 r hr;(first|lia|omega))
     ·exact g
    rw[show p=q from ω];exact .head _
def alone{Λ:Vc->Prop}{L:Nat->Vc}{r k:Nat}(T:Lt Λ)(hk:r<=k)(p:∀i,i<r->Λ (L i))(q:∀i,i<r->0<L i i)(u:∀i j,i<r->i<j->j<k->L i j=0):∀j,j<r->∃v,Λ v/\v j≠0/\∀i,i<k->i≠j->v i=0:=by
 intro j
 induction j using Nat.strongRecOn with
 |_ j ih=>
  intro a;have step:∀n,n<=j->∃v,Λ v/\v j≠0/\(∀i,i<n->v i=0)/\∀i,j<i->i<k->v i=0:=by
   intro n
   induction n with
   |zero=>intro _;exact⟨L j,p j a,by have:=q j a;(first|lia|omega),fun i hi=>absurd hi (Nat.not_lt_zero _),fun i h1 h2=>u j i a h1 h2⟩
   |succ n ihn=>
    intro w;obtain⟨v,b,c,d,f⟩:=ihn ω;obtain⟨x,x1,x2,g⟩:=ih n ω ω;have l:=T.s (-(x n)) T.z b;have o:=T.s (v n) l x1;refine⟨_,o,?_,fun i hi=>?_,fun i h1 h2=>?_⟩
    ·show(0 - -(x n)*v j)-v n*x j≠0
     rw[g j ω ω,Int.neg_mul];have:=Int.mul_ne_zero x2 c;(first|lia|omega)
    ·show(0 - -(x n)*v i)-v n*x i=0
     rw[Int.neg_mul]
     by_cases e:i=n
     ·subst e;rw[A9 (x i)];(first|lia|omega)
     ·rw[d i ω,g i ω e];(first|lia|omega)
    ·show(0 - -(x n)*v i)-v n*x i=0
     rw[f i h1 h2,g i h2 ω];(first|lia|omega)
  obtain⟨v,b,c,d,f⟩:=step j (Ad _);refine⟨v,b,c,fun i hi ne=>?_⟩;rcases Bi i j with h|h
  ·exact d i h
  ·exact f i ω hi
def un:Nat->Vc:=fun i t=>dl i t
def k5{k i:Nat}{g:Vc}(h:i<k):dot k (un i) g=g i:=by
 have:∀n,n<=k->dot n (un i) g=if i<n then g i else 0:=by
  intro n
  induction n with
  |zero=>intro _;rw[if_neg ω];rfl
  |succ n ih=>
   intro a;show dot n (un i) g+dl i n*g n=_;rw[ih ω]
   by_cases e:i=n
   ·subst e;rw[if_neg ω,if_pos ω];unfold dl;rw[if_pos rfl];(first|lia|omega)
   ·unfold dl
    rw[if_neg e]
    by_cases h2:i<n
    ·rw[if_pos h2,if_pos ω];(first|lia|omega)
    ·rw[if_neg h2,if_neg ω];(first|lia|omega)
 rw[this k (Ad _),if_pos h]
def CQ(k:Nat):Both k (tl k un) (tl k un):=by
 rw[CP];refine⟨fun s t b c=>?_,fun i j hi d=>?_⟩
 ·have:∀n,n<=k->sm un (fun a=>un a s) n t=if s<n then dl s t else 0:=by
   intro n
   induction n with
   |zero=>intro _;rw[if_neg ω];rfl
   |succ n ih=>
    intro f;show sm un (fun a=>un a s) n t+dl n s*dl n t=_;rw[ih ω]
    by_cases e:n=s
    ·subst e;rw[if_neg ω,if_pos ω];unfold dl;rw[if_pos rfl];(first|lia|omega)
    ·have z:dl n s=0:=by unfold dl;rw[if_neg e]
     rw[z]
     by_cases h2:s<n
     ·rw[if_pos h2,if_pos ω];(first|lia|omega)
     ·rw[if_neg h2,if_neg ω];(first|lia|omega)
  rw[this k (Ad _),if_pos b]
 ·rw[k5 hi]
  show dl j i=dl i j;unfold dl
  by_cases e:i=j
  ·rw[if_pos e,if_pos e.symm]
  ·rw[if_neg e,if_neg (fun z=>e z.symm)]
def MB{k w i u:Nat}{A:Nat->Vc}(hi:i<k)(a:u<w):aQ k w A (un i) (un u)=A i u:=by
 unfold aQ;rw[k5 hi];have:dot w (A i) (un u)=dot w (A i) (fun s=>dl s u):=zj fun t _=>by
  show dl u t=dl t u;unfold dl
  by_cases e:u=t
  ·rw[if_pos e,if_pos e.symm]
  ·rw[if_neg e,if_neg (fun z=>e z.symm)]
 rw[this];exact pF a
def pp(P:List Nat)(i:Nat):Nat:=P.getD i 0
section
variable{P:List Nat}{n:Nat}
def p'(a:P.length=n){i:Nat}(h:i<n):pp P i∈P:=by unfold pp;rw[Ac,Ab ω];exact Ap _
def MC(a:P.length=n){p:Nat}(h:p∈P):∃i,i<n/\pp P i=p:=by
 obtain⟨i,hi,rfl⟩:=AX h;exact⟨i,ω,by unfold pp;rw[Ac,Ab hi];rfl⟩
def iH(b:P.length=n)(a:P.Pairwise (·<·)){i j:Nat}(h:i<j)(c:j<n):pp P i<pp P j:=by
 unfold pp;rw[Ac,Ac,Ab ω,Ab ω];exact List.pairwise_iff_getElem.mp a i j ω ω h
def ET(a:P.length=n):P=(Ah n).map (pp P):=by
 apply AT
 ·simp[a]
 ·intro i h1 h2
  rw[AO,A4];unfold pp;rw[Ac,Ab h1];rfl
def cut(m:Nat)(P:List Nat):Nat:=(P.filter fun p=>decide (p<m)).length
def EU(d:P.Pairwise (·<·)){m:Nat}(f:P.length=n):cut m P<=n/\(∀i,i<cut m P->pp P i<m)/\∀i,cut m P<=i->i<n->m<=pp P i:=by
 have:∀P:List Nat,P.Pairwise (·<·)->cut m P<=P.length/\(∀i,i<cut m P->pp P i<m)/\∀i,cut m P<=i->i<P.length->m<=pp P i:=by
  intro P
  induction P with
  |nil=>intro _;exact⟨Ad _,fun i hi=>absurd hi (Nat.not_lt_zero _),fun i _ hi=>absurd hi (Nat.not_lt_zero _)⟩
  |cons p P ih=>
   intro d;rw[Ba] at d;obtain⟨a,b,c⟩:=ih d.2
   by_cases h:p<m
   ·have e:cut m (p::P)=cut m P+1:=by unfold cut;rw[List.filter_cons,if_pos (decide_eq_true h)];rfl
    rw[e,AH];refine⟨ω,fun i hi=>?_,fun i h1 h2=>?_⟩
    ·cases i with
     |zero=>exact h
     |succ i=>exact b i ω
    ·cases i with
     |zero=>(first|lia|omega)
     |succ i=>exact c i ω ω
   ·have e:cut m (p::P)=0:=by
     unfold cut;rw[List.filter_cons,if_neg (by simpa using h),List.filter_eq_nil_iff.mpr fun q hq=>?_]
     ·rfl
     ·have:=d.1 q hq
      simp;(first|lia|omega)
    rw[e];refine⟨At _,fun i hi=>absurd hi (Nat.not_lt_zero _),fun i _ h2=>?_⟩;cases i with
    |zero=>exact Nat.le_of_not_lt h
    |succ i=>
     rw[AH] at h2;have:pp P i∈P:=p' rfl ω;have:=d.1 _ this;show m<=pp P i;(first|lia|omega)
 have h:=this P d;rw[f] at h;exact h
end
def MD(a b:List Nat)(h:∀t∈b,1<=t):pr a<=pr (a++b):=by
 rw[wP];have:1<=pr b:=by
  clear a
  induction b with
  |nil=>exact Ad _
  |cons t b ih=>exact zV (h t (.head _)) (ih fun x hx=>h x (.tail _ hx))
 exact Nat.le_mul_of_pos_right _ this
section
variable{k w N M X B:Nat}{A f:Nat->Vc}{P:List Nat}
structure N0(A:Nat->Vc)(k w r b:Nat)(S U:Nat->Vc)(Bn:List Vc)(Q q:Nat->Nat):Prop where
 rk:r<=k
 rw:r<=w
 bl:∀i u,i<k->u<w->S i u=aQ k w A (U i) (un u)
 bu:Both k (tl k U) Bn
 ku:Ker k r 1 b U Q
 z:∀i u,r<=i->i<k->u<w->S i u=0
 qw:∀i,i<r->q i<w
 ql:∀i j,i<j->j<r->q i<q j
 sz:∀i u,i<r->u<q i->S i u=0
 sp:∀i,i<r->0<S i (q i)
def Ig(F:FS N M X B (tl k (glue w A un)) P f):N0 A k w (cut w P) B (fun i=>f (pp P i)) (fun i t=>f (pp P i) (w+t)) (mT k ((tl k (glue w A un)).map fun r=>shr f P r) (tl k un)) (fun a=>pp P (cut w P+a)-w) (pp P):=by
 have g:P.length=k:=by rw[F.len];exact i8
 obtain⟨c1,o,l⟩:=EU (m:=w) F.srt g;have b:∀{i},i<k->pp P i∈P:=fun hi=>p' g hi;have q:∀i,i<k->i<=pp P i:=by
  intro i
  induction i with
  |zero=>intro _;exact At _
  |succ i ih=>intro hi;have:=ih ω;have:=iH g F.srt (show i<i+1 from ω) hi;(first|lia|omega)
 have hw:cut w P<=w:=by
  rcases Nat.eq_zero_or_pos (cut w P) with z|z
  ·(first|lia|omega)
  ·have h1:=o (cut w P-1) ω
   have h2:=q (cut w P-1) ω;(first|lia|omega)
 have hq:∀a,a<k-cut w P->w+(pp P (cut w P+a)-w)=pp P (cut w P+a):=fun a h=>by have:=l (cut w P+a) ω ω;(first|lia|omega)
 refine⟨c1,hw,fun i u hi d=>?_,?_,⟨fun a c h1 h2=>?_,fun a u h d=>?_,fun a h=>?_,fun a c h1 h2=>?_,fun i a hi h=>?_,fun a h=>?_⟩,fun i u h1 h2 s=>F.ech.z _ (b h2) u (by have:=l i h1 h2;(first|lia|omega)),o,fun i j h1 h2=>iH g F.srt h1 ω,fun i u hi d=>F.ech.z _ (b ω) u d,fun i hi=>F.ech.pos _ (b ω)⟩
 ·refine HX (T:=fun u i=>A i u) (U:=un) (V:=un) F (fun u i d hi=>(MB hi d).symm) _ (b hi) u d
 ·have:=CN F (CQ k)
  have e:(P.map fun p=>fun t=>f p (w+t))=tl k (fun i t=>f (pp P i) (w+t)):=by
   have:=ET g
   conv=>lhs;rw[this]
   rw[AS];rfl
  rw[e] at this;exact this
 ·have:=iH g F.srt (show cut w P+a<cut w P+c from ω) ω
  have:=l (cut w P+a) ω ω;show pp P (cut w P+a)-w<pp P (cut w P+c)-w;(first|lia|omega)
 ·have d:u<pp P (cut w P+a)-w:=d
  exact F.ech.z _ (b ω) (w+u) ω
 ·show 0<f (pp P (cut w P+a)) (w+(pp P (cut w P+a)-w))
  rw[hq a h];exact F.ech.pos _ (b ω)
 ·show 0<=f (pp P (cut w P+a)) (w+(pp P (cut w P+c)-w))/\f (pp P (cut w P+a)) (w+(pp P (cut w P+c)-w))<f (pp P (cut w P+c)) (w+(pp P (cut w P+c)-w))
  rw[hq c h2];exact F.red _ (b ω) _ (b ω) (iH g F.srt ω ω)
 ·show(f (pp P i) (w+(pp P (cut w P+a)-w))).natAbs<=1*(f (pp P (cut w P+a)) (w+(pp P (cut w P+a)-w))).natAbs
  rw[hq a h];have:=F.red _ (b (show i<k from ω)) _ (b (show cut w P+a<k from ω)) (iH g F.srt ω ω);(first|lia|omega)
 ·show(f (pp P (cut w P+a)) (w+(pp P (cut w P+a)-w))).natAbs<=B
  rw[hq a h];exact F.piv _ (b ω)
def ME(g:1<=M)(hi:iC (tl k (glue w A un)))(hb:∀r∈tl k (glue w A un),∀u,(r u).natAbs<=M)(F:FS N M X B (tl k (glue w A un)) P f):∀m,m<=cut w P->pr ((Ah m).map fun i=>(f (pp P i) (pp P i)).toNat)<=(2*(k*M)+1) ^ k:=fun m j=>by
 have b:P.length=k:=by rw[F.len];exact i8
 obtain⟨c1,_,_⟩:=EU (m:=w) F.srt b;have h:=Ms g hi F.ech F.srt F.gen F.len fun r hr p _=>hb r hr p;rw[i8] at h;have e:(P.map fun p=>(f p p).toNat)=((Ah m).map fun i=>(f (pp P i) (pp P i)).toNat)++((Ah (k-m)).map fun a=>(f (pp P (m+a)) (pp P (m+a))).toNat):=by
  have:=ET b
  conv=>lhs;rw[this]
  rw[AS];apply AT
  ·simp;(first|lia|omega)
  ·intro i h1 h2
   rw[AO,A4]
   by_cases hi:i<m
   ·rw[List.getElem_append_left (by simpa using hi),AO,A4];rfl
   ·rw[List.getElem_append_right (by simp;(first|lia|omega)),AO,A4,Aa,AY,show m+(i-m)=i from ω];rfl
 rw[e] at h;refine Ae (MD _ _ fun t d=>?_) h;obtain⟨a,c,rfl⟩:=List.mem_map.mp d;have c:=List.mem_range.mp c;have:=F.ech.pos _ (p' b (show m+a<k from ω));(first|lia|omega)
def MF{r b D Z M2 X2 B2:Nat}{S U f2:Nat->Vc}{Bn:List Vc}{Q q:Nat->Nat}{P2:List Nat}(I:N0 A k w r b S U Bn Q q)(X:∀m,m<=r->pr ((Ah m).map fun i=>(S i (q i)).toNat)<=D)(F:FS Z M2 X2 B2 (tl w (glue k (fun u i=>S i u) un)) P2 f2):cut k P2=r/\(∀i,i<r->pp P2 i=i)/\LI A k w r D b B2 1 (fun u=>f2 (pp P2 u)) U (fun u t=>f2 (pp P2 u) (k+t)) Bn (mT w ((tl w (glue k (fun u i=>S i u) un)).map fun r=>shr f2 P2 r) (tl w un)) Q (fun a=>pp P2 (r+a)-k):=by
 have rk:=I.rk;have o:P2.length=w:=by rw[F.len];exact i8
 obtain⟨c1,M,C⟩:=EU (m:=k) F.srt o;have d:∀{i},i<w->pp P2 i∈P2:=fun hi=>p' o hi;have sp:∀p∈P2,Sp (tl w (glue k (fun u i=>S i u) un)) (f2 p):=fun p hp=>(F.fr p hp).sp;have row:∀u,u<w->Sp (tl w (glue k (fun u i=>S i u) un)) (glue k (fun u i=>S i u) un u):=fun u f=>Sp.mem (List.mem_map.mpr ⟨u,List.mem_range.mpr f,rfl⟩);have zero:∀v,Sp (tl w (glue k (fun u i=>S i u) un)) v->∀i,r<=i->i<k->v i=0:=fun v hv i h1 h2=>by
  obtain⟨c,_,e⟩:=hv;rw[e];refine zK _ _ fun x hx=>?_;obtain⟨u,f,rfl⟩:=List.mem_map.mp hx;rw[zL h2];exact I.z i u h1 h2 (List.mem_range.mp f)
 have H:∀i j,i<r->i<j->j<k->glue k (fun u i=>S i u) un (q i) j=0:=fun i j hi h1 h2=>by
  rw[zL h2]
  by_cases h:j<r
  ·exact I.sz j (q i) h (I.ql i j h1 h)
  ·exact I.z j (q i) ω h2 (I.qw i hi)
 have lt:Lt (Sp (tl w (glue k (fun u i=>S i u) un))):=⟨Sp.zero,fun m hv hw=>hv.sub hw m⟩;have J:∀i,i<r->0<glue k (fun u i=>S i u) un (q i) i:=fun i hi=>by rw[zL ω];exact I.sp i hi
 have l:∀j,j<r->j∈P2:=fun j y=>by
  obtain⟨v,N,O,P⟩:=alone (L:=fun i=>glue k (fun u i=>S i u) un (q i)) lt rk (fun i hi=>row _ (I.qw i hi)) J H j y;exact ES F.ech F.srt (N.trans F.gen) (fun u f=>P u ω ω) O
 have lo:∀p∈P2,p<k->p<r:=fun p hp h=>by
  rcases Bi p r with g|g
  ·exact g
  ·have:=zero _ (sp p hp) p g h
   have:=F.ech.pos p hp;(first|lia|omega)
 have two:∀i,i<r->i<w/\pp P2 i=i:=by
  intro i
  induction i using Nat.strongRecOn with
  |_ i ih=>
   intro hi;obtain⟨j,y,e⟩:=MC o (l i hi);have h1:i<=j:=by
    rcases Bi j i with g|g
    ·have:=(ih j g ω).2;(first|lia|omega)
    ·exact g
   have h2:j<=i:=by
    rcases Bi i j with g|g
    ·have E:=iH o F.srt g y
     rw[e] at E;obtain⟨_,e2⟩:=ih (pp P2 i) E ω;rcases Nat.lt_trichotomy (pp P2 i) i with g2|g2|g2
     ·have:=iH o F.srt g2 ω;(first|lia|omega)
     ·(first|lia|omega)
     ·(first|lia|omega)
    ·exact g
   have:j=i:=ω
   subst this;exact⟨y,e⟩
 have W:cut k P2=r:=by
  rcases Nat.lt_trichotomy (cut k P2) r with g|g|g
  ·have:=C (cut k P2) (Ad _) (two _ g).1
   rw[(two _ g).2] at this;(first|lia|omega)
  ·exact g
  ·have h1:=M r g
   have h2:=lo _ (d ω) h1;have E:r<=pp P2 r:=by
    rcases Nat.eq_zero_or_pos r with z|z
    ·(first|lia|omega)
    ·have:=iH o F.srt (show r-1<r from ω) ω
     rw[(two (r-1) ω).2] at this;(first|lia|omega)
   (first|lia|omega)
 have hq:∀a,a<w-r->k+(pp P2 (r+a)-k)=pp P2 (r+a):=fun a s=>by have:=C (r+a) ω ω;(first|lia|omega)
 refine⟨W,fun i hi=>(two i hi).2,I.rk,I.rw,Ad 1,fun u i f hi=>?_,I.bu,?_,I.ku,⟨fun a c h1 h2=>?_,fun a u s f=>?_,fun a s=>?_,fun a c h1 h2=>?_,fun i a hi s=>?_,fun a s=>?_⟩,fun u f=>?_,fun u i f hi=>?_,fun u i h1 h2=>?_,fun u i f hi h=>?_,fun m G=>?_⟩
 ·exact HY (T:=S) (U:=U) (V:=un) F I.bl _ (d f) i hi
 ·have:=CN F (CQ w)
  have e:(P2.map fun p=>fun t=>f2 p (k+t))=tl w (fun u t=>f2 (pp P2 u) (k+t)):=by
   have:=ET o
   conv=>lhs;rw[this]
   rw[AS];rfl
  rw[e] at this;exact this
 ·have:=iH o F.srt (show r+a<r+c from ω) ω
  have:=C (r+a) ω ω;show pp P2 (r+a)-k<pp P2 (r+c)-k;(first|lia|omega)
 ·have f:u<pp P2 (r+a)-k:=f
  exact F.ech.z _ (d ω) (k+u) ω
 ·show 0<f2 (pp P2 (r+a)) (k+(pp P2 (r+a)-k))
  rw[hq a s];exact F.ech.pos _ (d ω)
 ·show 0<=f2 (pp P2 (r+a)) (k+(pp P2 (r+c)-k))/\f2 (pp P2 (r+a)) (k+(pp P2 (r+c)-k))<f2 (pp P2 (r+c)) (k+(pp P2 (r+c)-k))
  rw[hq c h2];exact F.red _ (d ω) _ (d ω) (iH o F.srt ω ω)
 ·show(f2 (pp P2 i) (k+(pp P2 (r+a)-k))).natAbs<=1*(f2 (pp P2 (r+a)) (k+(pp P2 (r+a)-k))).natAbs
  rw[hq a s];have:=F.red _ (d (show i<w from ω)) _ (d (show r+a<w from ω)) (iH o F.srt ω ω);(first|lia|omega)
 ·show(f2 (pp P2 (r+a)) (k+(pp P2 (r+a)-k))).natAbs<=B2
  rw[hq a s];exact F.piv _ (d ω)
 ·show 0<f2 (pp P2 u) u
  rw[(two u f).2];exact F.ech.pos u (l u f)
 ·show f2 (pp P2 u) i=0
  rw[(two u f).2];exact F.ech.z u (l u f) i hi
 ·show 0<=f2 (pp P2 u) i/\f2 (pp P2 u) i<f2 (pp P2 i) i
  rw[(two u ω).2,(two i h2).2];exact F.red u (l u ω) i (l i h2) h1
 ·show f2 (pp P2 u) i=0
  by_cases Y:u<r
  ·exact zero _ (sp _ (d f)) i ω hi
  ·exact F.ech.z _ (d f) i (by have:=C u ω f;(first|lia|omega))
 ·have T:Two (Sp (tl w (glue k (fun u i=>S i u) un))) r (fun i=>glue k (fun u i=>S i u) un (q i)) f2:=
   ⟨lt,fun i hi=>row _ (I.qw i hi),J,fun i j h1 h2=>H i j ω h1 ω,fun i hi=>sp i (l i hi),fun i hi=>F.ech.pos i (l i hi),fun i j hi y=>F.ech.z i (l i hi) j y,fun v i hv hi hz=>jo F.ech F.srt (l i hi) (hv.trans F.gen) fun p _ hp=>hz p hp⟩
  have e1:tn (fun u=>f2 (pp P2 u)) m=tn f2 m:=i7 fun i hi=>by show f2 (pp P2 i) i=f2 i i;rw[(two i ω).2]
  have e2:tn (fun i=>glue k (fun u i=>S i u) un (q i)) m=(Ah m).map fun i=>(S i (q i)).toNat:=by
   unfold tn;exact AW fun i hi=>by
    show(glue k (fun u i=>S i u) un (q i) i).toNat=_;rw[zL (by have:=List.mem_range.mp hi;(first|lia|omega))]
  rw[e1];have:=EI T G;rw[e2] at this;exact Ae this (X m G)
end
def mu(T:Nat->Vc):Nat->Nat
 |0=>0
 |r+1=>mu T r+Nat.log2 (pr (tn T (r+1)))
def EV{a b:Nat}(c:1<=a)(h:a<=b):a.log2<=b.log2:=by
 rcases Bi b.log2 a.log2 with g|g
 ·have h1:=(Nat.log2_lt (show b≠0 from ω)).mp g
  have h2:=Nat.log2_self_le (show a≠0 from ω);(first|lia|omega)
 ·exact g
def MG{a b:Nat}(c:1<=a)(h:2*a<=b):a.log2+1<=b.log2:=by
 rcases Bi b.log2 (a.log2+1) with g|g
 ·have h1:=(Nat.log2_lt (show b≠0 from ω)).mp g
  have h2:=Nat.log2_self_le (show a≠0 from ω);rw[Nat.pow_succ] at h1;(first|lia|omega)
 ·exact g
def EW{T T':Nat->Vc}:∀r,(∀i,i<r->0<T' i i)->(∀m,m<=r->pr (tn T' m)<=pr (tn T m))->mu T' r<=mu T r
 |0,_,_=>Ad _
 |r+1,hp,h=>by
  have h1:=EW r (fun i hi=>hp i ω) fun m a=>h m ω;have h2:=EV (p8 (k:=r+1) hp) (h (r+1) (Ad _));show mu T' r+_<=mu T r+_;(first|lia|omega)
def EX{T T':Nat->Vc}:∀r,(∀i,i<r->0<T' i i)->(∀m,m<=r->pr (tn T' m)<=pr (tn T m))->(∃m,m<=r/\2*pr (tn T' m)<=pr (tn T m))->mu T' r+1<=mu T r
 |0,_,_,⟨m,b,h⟩=>by
  have:m=0:=ω
  subst this;have h:2*1<=1:=h;(first|lia|omega)
 |r+1,hp,h,⟨m,b,hh⟩=>by
  have a:∀i,i<r->0<T' i i:=fun i hi=>hp i ω;show mu T' r+_+1<=mu T r+_
  by_cases e:m=r+1
  ·subst e
   have h1:=EW (T:=T) r a fun m b=>h m ω;have h2:=MG (p8 (k:=r+1) hp) hh;(first|lia|omega)
  ·have h1:=EX r a (fun m b=>h m ω) ⟨m,ω,hh⟩
   have h2:=EV (p8 (k:=r+1) hp) (h (r+1) (Ad _));(first|lia|omega)
def Ih{T:Nat->Vc}{D:Nat}:∀r,(∀i,i<r->0<T i i)->(∀m,m<=r->pr (tn T m)<=D)->mu T r<=r*D.log2
 |0,_,_=>At _
 |r+1,hp,h=>by
  have h1:=Ih r (fun i hi=>hp i ω) fun m a=>h m ω;have h2:=EV (p8 (k:=r+1) hp) (h (r+1) (Ad _));show mu T r+_<=(r+1)*D.log2;rw[Nat.add_mul];(first|lia|omega)
def Dg(r:Nat)(T:Nat->Vc):Prop:=∀u i,u<r->i<r->u≠i->T u i=0
open Classical in
noncomputable def ms(r:Nat)(T:Nat->Vc):Nat:=2*mu T r+if Dg r T then 0 else 1
section
variable{A T U V f1 f2:Nat->Vc}{k w r D bU bV g M N X B M2 X2 B2:Nat}{Bn Bf:List Vc}{QU QV:Nat->Nat}{P1 P2:List Nat}
def MH(I:LI A k w r D bU bV g T U V Bn Bf QU QV)(hd:¬Dg r T)(Tr:Tri k r w M g (glue w (fun i u=>T u i) U) (fun a=>w+QU a))(l:FS N M X B (tl k (glue w (fun i u=>T u i) U)) P1 f1)(j:Tri w r k M2 1 (glue k (fun u i=>f1 (pls r w QU i) u) V) (fun a=>k+QV a))(o:FS N M2 X2 B2 (tl w (glue k (fun u i=>f1 (pls r w QU i) u) V)) P2 f2):ms r (fun u=>f2 (pls r k QV u))<ms r T:=by
 obtain⟨_,L,c,h1⟩:=I.near_done Tr l;obtain⟨_,J,f,h2⟩:=L.far_done j o;have le:=fun m b=>Ae (f m b) (c m b);unfold ms;rw[if_neg hd]
 by_cases d:∃m,m<=r/\2*pr (tn (fun u=>f2 (pls r k QV u)) m)<=pr (tn T m)
 ·have:=EX r J.tp le d
  split<;>(first|lia|omega)
 ·have:=EW r J.tp le
  have dg:Dg r (fun u=>f2 (pls r k QV u)):=by
   rcases h2 with ⟨m,b,h⟩|h
   ·exact absurd ⟨m,b,Ae h (c m b)⟩ d
   ·exact fun u i e hi ne=>(h u e).2 i hi (Ne.symm ne)
  rw[if_pos dg];(first|lia|omega)
def MI{C:Nat->Vc}(I:LI A k w r D bU bV g T U V (tl k C) Bf QU QV)(hr:1<=r)(hd:Dg r T)(l:¬∀i,i+1<r->T i i ∣ T (i+1) (i+1))(c:Tri w r k M2 1 (glue k (fun u i=>aQ k w A (cf U r (r-1) i) (V u)) V) (fun a=>k+QV a))(d:FS N M2 X2 B2 (tl w (glue k (fun u i=>aQ k w A (cf U r (r-1) i) (V u)) V)) P2 f2):ms r (fun u=>f2 (pls r k QV u))<ms r T:=by
 obtain⟨L,val⟩:=I.slid hr hd;obtain⟨_,J,f,h2⟩:=L.far_done c d;have rk:=I.rk;have o:=I.rw;have e:∀m,m<=r->tn (fun i u=>aQ k w A (cf U r (r-1) i) (V u)) m=tn T m:=fun m b=>i7 fun i hi=>by
  show aQ k w A (cf U r (r-1) i) (V i)=T i i;rw[val i i ω ω,if_pos ⟨Ad _,ω⟩]
 have le:∀m,m<=r->pr (tn (fun u=>f2 (pls r k QV u)) m)<=pr (tn T m):=fun m b=>by rw[<-e m b];exact f m b
 unfold ms;rw[if_pos hd];have j:∃m,m<=r/\2*pr (tn (fun u=>f2 (pls r k QV u)) m)<=pr (tn T m):=by
  rcases h2 with ⟨m,b,h⟩|h
  ·exact⟨m,b,by rw[<-e m b];exact h⟩
  ·refine absurd (fun i hi=>?_) l
   have:=MA L c d h (i:=i) (u:=i+1) ω ω;have this:aQ k w A (cf U r (r-1) i) (V i) ∣ aQ k w A (cf U r (r-1) i) (V (i+1)):=this
   rwa [val i i ω ω,val i (i+1) ω ω,if_pos ⟨Ad _,ω⟩,if_pos ⟨ω,ω⟩] at this
 have:=EX r J.tp le j;split<;>(first|lia|omega)
end
section
variable{N M X B:Nat}{R:List Vc}{P:List Nat}{f:Nat->Vc}{l:Vc}
def qc:cM N M X B<=cE N M X B:=A0 _ _
def EY(a:1<=B):cK N M X B<=cM N M X B:=Nat.le_mul_of_pos_right _ (Nat.pow_pos (CG a))
def FS.mid{r:Vc}(c:1<=B)(F:FS N M X B R P f)(d:R.length<N)(hr:∀p∈P,(r p).natAbs<=M)(i:Nat):Rep (R++[r]) (cE N M X B) (aV f (P.take i) r):=by
 have a:(P.take i).length<=N:=by have:=F.len;rw[List.length_take];(first|lia|omega)
 obtain⟨b,_⟩:=mM (R:=R++[r]) (fun p hp=>(F.fr p hp).more) F.fv F.ech.pos (P.take i) (fun q hq=>List.mem_of_mem_take hq) (Rep.mem (Ay R (List.mem_singleton.mpr rfl))) hr;refine b.mono (Ae ?_ (Ae (EY c) qc));unfold cK;have h1:(1+B) ^ (P.take i).length<=(1+B) ^ N:=AC ω a;have h2:(P.take i).length*(M*(1+B) ^ (P.take i).length*cC N X B)<=N*(M*(1+B) ^ N*cC N X B):=AQ a (Ak _ (Al _ h1));(first|lia|omega)
structure Mid(N M X B:Nat)(R:List Vc)(P:List Nat)(f:Nat->Vc)(m:Vc)(a b c d:Int):Prop where
 ech:Ech P f
 fr:∀q∈P,Rep R (cE N M X B) (f q)
 piv:∀q∈P,(f q q).natAbs<=B
 met:∀i,Rep R (cE N M X B) (aV f (P.take i) m)
 a1:a.natAbs<=B
 b1:b.natAbs<=B
 c1:c.natAbs<=B
 d1:d.natAbs<=B
def TS.mid{t p:Nat}{g a b c d:Int}(C:1<=B)(T:TS N M X B R P f l t)(hp:p∈P)(s:∀i,i<p->l i=0)(pU:l p≠0)(D:t<=p)(G:GI (f p p) (l p) g a b 0 c d):Mid N M X B R P (put f p (mix a (f p) b l)) (mix c (f p) d l) a b c d:=by
 obtain⟨T2,o⟩:=T.next C hp s pU D G;have H:=CG (N:=N) C;obtain⟨r0,r1⟩:=T.red p hp;have w:=T.piv p hp;obtain⟨c1,E⟩:=G.le;have a1:a.natAbs<=B:=Ae G.b1 ω;have x:b.natAbs<=B:=Ae G.b2 w;have c1:c.natAbs<=B:=Ae c1 ω;have d1:d.natAbs<=B:=Ae E w;have I:∀q∈P,(l q).natAbs<=B:=fun q hq=>by have:=T.red q hq;have:=T.piv q hq;(first|lia|omega)
 have J:=T.fo p hp D;have L:∀{a b:Int},a.natAbs<=B->b.natAbs<=B->∀q∈P,(mix a (f p) b l q).natAbs<=2*B*B:=fun{a b} u hb q hq=>by
  have O:(a*f p q).natAbs<=B*B:=by rw[AB];exact AQ u (J q hq)
  have S:(b*l q).natAbs<=B*B:=by rw[AB];exact AQ hb (I q hq)
  have t3:=Int.natAbs_add_le (a*f p q) (b*l q);show(a*f p q+b*l q).natAbs<=_;rw[AN];generalize B*B=Y at O S ⊢;(first|lia|omega)
 have U:P.length<=N:=by have:=T.len;have:=T.few;(first|lia|omega)
 have cnt:(P.filter fun q=>decide (q<t)).length+1<=N:=by
  have h1:=T.len;have h2:=T.few;have:=List.length_filter_le (fun q=>decide (q<t)) P;(first|lia|omega)
 generalize hK:cK N M X B*cG N B ^ (P.filter fun p=>decide (p<t)).length=K;have fr:=T.fr;have y:=T.lr;rw[hK] at fr y;have z:∀{a b:Int},a.natAbs<=B->b.natAbs<=B->Rep R (2*B*K) (mix a (f p) b l):=fun{a b} u hb=>((fr p hp).lin y u hb).mono (by rw[AN];(first|lia|omega));have W:K<=2*B*K:=Nat.le_mul_of_pos_left _ ω;have A:∀q∈P,Rep R (2*B*K) (put f p (mix a (f p) b l) q):=fun q hq=>by
  by_cases e:q=p
  ·subst e;rw[zR];exact z a1 x
  ·rw[dY e];exact(fr q hq).mono W
 have h:∀n,n<=N->2*B*K+n*(2*B*B*(1+2*B*B) ^ n*(2*B*K))<=cG N B*K:=fun n v=>by
  unfold cG cW;have h1:(1+2*B*B) ^ n<=(1+2*B*B) ^ N:=AC ω v;generalize 2*B*B=Y at h1 ⊢;have h2:n*(Y*(1+Y) ^ n*(2*B*K))<=N*(Y*(1+Y) ^ N*(2*B*K)):=AQ v (Ak _ (Al _ h1));refine Ae (Nat.add_le_add_left h2 _) (Nat.le_of_eq ?_);generalize Y*(1+Y) ^ N=Z;generalize 2*B=Q;rw[Nat.mul_add,Nat.mul_one,Nat.add_mul,<-AN N Z,Nat.mul_comm Q (N*Z),AN (N*Z)]
 have j:cG N B*K<=cE N M X B:=by
  refine Ae ?_ qc;rw[<-hK,Nat.mul_left_comm,<-Nat.pow_succ'];exact Al _ (AC H cnt)
 have two:2*B*K<=cG N B*K:=Ae (A0 _ _) (h 0 ω);refine⟨o,fun q hq=>(A q hq).mono (Ae two j),T2.piv,fun i=>?_,a1,x,c1,d1⟩;have hi:(P.take i).length<=N:=by rw[List.length_take];(first|lia|omega)
 obtain⟨F,_⟩:=mM A (fun q hq r hr=>T2.fv q hq r hr) o.pos (P.take i) (fun q hq=>List.mem_of_mem_take hq) (z c1 d1) (L c1 d1);exact F.mono (Ae (h _ hi) j)
def TS.rep{t:Nat}(a:1<=B)(T:TS N M X B R P f l t):(∀p∈P,Rep R (cE N M X B) (f p))/\Rep R (cE N M X B) l:=
 ⟨fun p hp=>(T.fr p hp).mono (Ae (T.cnt a) qc),T.lr.mono (Ae (T.cnt a) qc)⟩
end
def TS.nz{N M X B Y t:Nat}{R:List Vc}{P:List Nat}{f:Nat->Vc}{l:Vc}(T:TS N M X B R P f l t)(hi:iC R)(hb:∀r∈R,∀u,(r u).natAbs<=Y):∃u,l u≠0:=by
 refine AE fun no=>?_;have z:∀u,l u=0:=fun u=>AE fun h=>no ⟨u,h⟩;have d:∀r∈R,Sp (P.map f) r:=fun r hr=>(T.gen r hr).trans fun s a=>by
  rcases List.mem_append.mp a with h|h
  ·exact Sp.mem h
  ·rw[List.mem_singleton.mp h];exact Sp.zero.eq z
 obtain⟨c,h1,⟨x,hx,b⟩,h2,_⟩:=dE (M:=Y+1) ω (fun v hv p _=>Nat.le_succ_of_le (hb v hv p)) (show P.length<R.length by have:=T.len;(first|lia|omega));exact b (ph hi T.ech T.srt d c h1 h2 x hx)
end Tb
end
section
namespace L2
open PySem PySem.Spec PyProof.Rows
def qi(hi:Int)(n:Nat):It:=⟨fun i _=>i<n,fun i H x H'=>H'=H/\x=.int (hi-i),fun i _=>n<=i⟩
def MJ{P:Program}{w:World}{K:Ag}{tg:Expr}(it:Addr)(lo:Int)(n:Nat):Turn P w K tg (qi lo n) [it] it (fun i h=>IsRangeIter h it (lo+(i:Nat)*(-1)) ((n:Int)-(i:Nat)) (-1)) where
 mem:=by simp
 obj:=fun i h st b hb=>by
  have e:b=it:=by simpa using hb
  subst e;exact⟨_,st,fun v z=>by
   have u:Data.fields _=Data.cell v:=z;cases u⟩
 keep:=fun i h h' st k=>k it (by simp) _ st
 item:=by
  intro X c hw d hc i aa s σ H E I a st hg;subst c hw d;obtain⟨f,f1,f2,g,j,l⟩:=a it (by simp);have W:=Walks.range (prog:=X.prog) (w:=X.w) (I.ok.hd hc) it lo (-1) n;refine W.item i s _ _ hg st fun v h' tk hv p q=>?_;obtain⟨t,rfl⟩:=hv;have x:Inv X aa σ H {s with heap:=h',toks:=tk}:=I.turned (fun b o hb e=>q b o (by simpa using hb) e) f f1 g j l;refine⟨_,rfl,DI (s:={s with heap:=h',toks:=tk}) (n:="range_iterator") p rfl rfl ξ ⟨.int (lo-i),H,x,⟨t,?_⟩,⟨rfl,rfl⟩,p,fun b hb=>(a b hb).1⟩⟩;rw[show lo+(i:Int)*(-1)=lo-i from ω]
 done:=by
  intro X c hw d hc i aa s σ H E I a st hg;subst c hw d;obtain⟨f,f1,f2,g,j,l⟩:=a it (by simp);exact wpAny_pyNext_range_end (I.ok.hd hc) st (by have:n<=i:=hg;(first|lia|omega)) fun h' r=>⟨rfl,I.turned (t':=s.toks) (fun b o hb e=>r b o hb e) f f1 g j l⟩
 self:=fun _ _ _ _ _ st h=>wpAny_pyIter_rangeiter st h
section
variable{X:Cx}{tg:Expr}
def MK{aa:Ψ}{σ:St}{H:Hp}{s:Shared}{R:It->Hp->Prop}{E:Ω}{lo hi:Int}{t u v:Tok}{tk:Nat}(I:Inv X aa σ H s)(h1:-(2 ^ 62)<=lo)(h2:lo<2 ^ 62)(a:-(2 ^ 62)<=hi)(c:hi<2 ^ 62)(q:R (qi lo (lo-hi).toNat) H):wpAny (model X.prog X.w) X.A (pyIter (.ref s⁻¹)) (DH X aa σ tg R) E {s with heap:=s.heap.push {cls:=.type "range",data:=.fields #[.int lo t,.int hi u,.int (-1) v]},toks:=tk}:=by
 refine wpAny_pyIter_range (IsRange.new ..) (PySem.W.small_down h1 h2 a c) ?_;have I1:Inv X aa σ H {s with heap:=s.heap.push {cls:=.type "range",data:=.fields #[.int lo t,.int hi u,.int (-1) v]},toks:=tk}:=I.kept fun b o e=>Ai _ e;refine⟨(s.heap.push {cls:=.type "range",data:=.fields #[.int lo t,.int hi u,.int (-1) v]}).objs.size,[(s.heap.push {cls:=.type "range",data:=.fields #[.int lo t,.int hi u,.int (-1) v]}).objs.size],_,_,H,rfl,
  I1.kept (t':=tk) fun b o e=>Ai _ e,MJ _ lo (lo-hi).toNat,?_,fun b hb=>?_,q⟩
 ·have e1:lo+((0:Nat):Int)*(-1)=lo:=by simp
  have e2:(((lo-hi).toNat:Nat):Int)-((0:Nat):Int)=Builtin.Range.rangeSize lo hi (-1):=by rw[PySem.W.rangeSize_downNat];(first|lia|omega)
  show IsRangeIter _ _ (lo+((0:Nat):Int)*(-1)) ((((lo-hi).toNat:Nat):Int)-((0:Nat):Int)) (-1);rw[e1,e2];exact AL _ rfl
 ·have e:b=(s.heap.push {cls:=.type "range",data:=.fields #[.int lo t,.int hi u,.int (-1) v]}).objs.size:=by simpa using hb
  subst e;exact I1.fpOk (Ad _) (I1.hok.fresh (Ad _))
def ML(ta:TA):TI:=fun σ H R=>ta σ H fun vs H1=>∃i j:Int,vs=[.int i,.int j,.int (-1)]/\(-(2 ^ 62)<=i/\i<2 ^ 62/\-(2 ^ 62)<=j/\j<2 ^ 62)/\R (qi i (i-j).toNat) H1
def Ii{a b c:Expr}{ta:TA}{p pos:Pos}(hg:Gl X "range")(u:X.mg "range"=none)(v:PA X [a,b,c] ta)(w:starEach [a,b,c] X.env=[(false,eval a X.env),(false,eval b X.env),(false,eval c X.env)]:=by rfl)(f:starEach [b,c] X.env=[(false,eval b X.env),(false,eval c X.env)]:=by rfl):PI X tg (.Call (.Name "range" p) [a,b,c] [] pos) (ML ta):=by
 intro aa s σ H R I h;refine Call_ (ke I hg u boot_range (PyProof.Rows.callWith_type1 (aT (v pos aa s σ H _ I h) fun us y ⟨vs,H1,x,r1,d⟩=>?_) (by rw[w,f]) (by rw[f];rfl)));obtain⟨i,j,e,⟨d,g,l,o⟩,q⟩:=d;subst e;cases r1 with
 |cons r rr=>
  cases rr with
  |cons r' rr=>
   cases rr with
   |cons r'' rr=>
    cases rr;obtain⟨t,rfl⟩:=r;obtain⟨t',rfl⟩:=r';obtain⟨z,rfl⟩:=r'';exact call_range_3 ξ (MK x d g l o q) (.inl (PyProof.noPylong_of_log2 δ))
end
def Ij{hi:Int}{n:Nat}{g:TG}{tb:TS}{D:Ends}{σ:St}{H:Hp}(b:Nat->St->Hp->Prop)(j:b 0 σ H)(l:∀i σ H,i<n->b i σ H->g (.int (hi-i)) σ H fun c H2=>tb {D with nx:=b (i+1),ct:=b (i+1),bk:=D.nx} c H2)(hd:∀σ H,b n σ H->D.nx σ H):∃W:Nat->Nat->St->Hp->Prop,(∃m,W 0 m σ H)/\∀i m σ H,W i m σ H->
   ((qi hi n).stop i H/\D.nx σ H)\/((qi hi n).go i H/\∃N:St->Hp->Prop,(∀d H',N d H'->∃f,f<m/\W (i+1) f d H')/\∀x H',(qi hi n).yld i H x H'->g x σ H' fun c H2=>tb {D with nx:=N,ct:=N,bk:=D.nx} c H2):=by
 refine⟨fun i m σ H=>m=n-i/\i<=n/\b i σ H,⟨n,by simp,At _,j⟩,?_⟩;rintro i m σ H ⟨rfl,hi,p⟩
 by_cases a:i<n
 ·refine .inr ⟨a,b (i+1),fun d H' h=>⟨n-(i+1),ω,rfl,a,h⟩,fun x H' y=>?_⟩
  obtain⟨e,y⟩:=y;subst e y;exact l i σ _ a p
 ·have e:i=n:=ω
  subst e;exact .inl ⟨Ad _,hd σ H p⟩
end L2
end
section
namespace K24
open PySem L2
abbrev CS:Stmt:=top 26
def Ik:A7 "len"=some (.builtin "len"):=δ
def EZ{R:List Tb.Vc}{ps:List Nat}{fr:Nat->List Int}{W CE N Y:Nat}{rn:List Int}(f:∀r∈R,∀u,(r u).natAbs<=Y)(a:R.length<=N)(j:∀p∈ps,Tb.Rep R CE (vF fr p))(b:∀p∈ps,0<vF fr p p)(e:∀p∈ps,(vF fr p p).natAbs<2 ^ 9000)(d:Wid W ps fr)(g:rn.length=W)(met:∀i,Tb.Rep R CE (Tb.aV (vF fr) (ps.take i) (vc rn)))(c:N*(CE*Y)<big):kR fr W rn ps:=by
 refine⟨g,d.most,fun p hp=>⟨(d.row p hp).1,(d.row p hp).2,b p hp,e p hp⟩,fun i p hp x hx=>?_⟩;have h:=An hp;refine gH (Ao CJ ?_) ?_
 ·have r1:=met i
  rw[<-pu (fr:=fr) (W:=W) (ps:=ps.take i) (rn:=rn) g fun q hq=>(d.row q (List.mem_of_mem_take hq)).2] at r1;exact Ao (Ae (r1.le (u:=p) fun r hr=>f r hr p) (Ak _ a)) c
 ·obtain⟨u,_,rfl⟩:=CI hx
  exact Ao (Ae ((j p h).le (u:=u) fun r hr=>f r hr u) (Ak _ a)) c
structure Il(N M X B Y:Nat)(R:List Tb.Vc):Prop where
 hB:1<=B
 piv:B<2 ^ 9000
 lim:N*(Tb.cE N M X B*Y)<big
 hR:∀r∈R,∀u,(r u).natAbs<=Y
 few:N<64
 bd:Tb.Bd N M X B R
def Fnd.no{H:Hp}{a:Addr}{es:List (Nat×Addr)}{fr:Nat->List Int}(h:Fnd H a es fr){p:Nat}(hp:p∉es.map (·.1)):DGet H a (.int p) none:=by
 have:=DGet.k (k:=Sum.inl (p:Int)) h.at_;rw[Mf ?_] at this
 ·exact this
 ·intro f b z
  rw[AS] at b;obtain⟨e,c,rfl⟩:=List.mem_map.mp b;have d:(Sum.inl (e.1:Int):Key)=Sum.inl (p:Int):=z;have:(e.1:Int)=p:=by injection d
  exact hp (List.mem_map.mpr ⟨e,c,ω⟩)
def fD{l:List Int}{p:Nat}(h:p<l.length):(l.map V.int)[p]?=some (V.int (vc l p)):=by
 unfold vc;rw[Aj,Ac,Ab h];rfl
def Fra(a:Addr)(H H':Hp):Prop:=∀b o,b≠a->H b=some o->H' b=some o
def Fra.trans{a:Addr}{H H1 H2:Hp}(h:Fra a H H1)(h2:Fra a H1 H2):Fra a H H2:=fun b o hb e=>h2 b o hb (h b o hb e)
def Fra.of{a:Addr}{H H1:Hp}(h:Same H H1):Fra a H H1:=fun b o _ e=>h b o e
def mY(xs:List V)(n:Nat):cZ xs (some (n:Int)) none=xs.drop n:=by
 unfold cZ;rw[HT.Gz,HT.Gy];rcases Nat.le_total n xs.length with h|h
 ·rw[Nat.min_eq_left h,Ax (by simp)]
 ·rw[Nat.min_eq_right h,List.drop_eq_nil_of_le (Ad _),List.drop_eq_nil_of_le h,List.take_nil]
def iI(l:List Int)(q:Nat):List Int:=if 0<vc l q then l else l.map fun x=>-x
def MM{l:List Int}{q:Nat}:vc (iI l q)=Tb.up (vc l) q:=by
 unfold iI Tb.up;split
 ·rfl
 ·exact Mk
def MN{l:List Int}{q:Nat}:(iI l q).length=l.length:=by unfold iI;split;rfl;simp
def Im{q:Nat}:∀{P:List Nat},(Tb.ins q P).Perm (P++[q])
 |[]=>.refl _
 |p::P=>by
  unfold Tb.ins;split
  ·exact(List.perm_append_singleton q (p::P)).symm
  ·exact(Im (P:=P)).cons p
def share{c:Bool}{A B:Prop}{C S:Addr->Hp->Prop}(h2:(∀u H,S u H->C u H)->¬c=true->B)(h1:(∀u H,S u H->C u H)->c=true->A)(fin:∀u H,S u H->C u H):if c=true then A else B:=by
 split
 ·exact h1 fin (by assumption)
 ·exact h2 fin (by assumption)
structure Bt(a d:Addr)(q W N M X B:Nat)(R:List Tb.Vc)(P:List Nat)(H0 H:Hp)(ln:List Int)(es:List (Nat×Addr))(fr:Nat->List Int)(t:Nat):Prop where
 fra:Fra a H0 H
 fnd:Fnd H a es fr
 pls:Pls es P
 wid:Wid W P fr
 at_:H d=some (.lst (ln.map V.int))
 len:ln.length=W
 ts:Tb.TS N M X B R P (vF fr) (vc ln) t
 tq:t<=q
 qW:q<W
 low:∀i,i<q->vc ln i=0
 nz:vc ln q≠0
def E1{H:Hp}{a b:Addr}{es:List (Nat×Addr)}{fr:Nat->List Int}{xs:List V}(h:Fnd H a es fr)(hb:H b=some (.lst xs)):b≠a:=fun z=>by rw[z,h.at_] at hb;cases hb
section
variable{P:Program}{w:World}{K:Ag}{mg:Str->Option Value}{base:Heap}
def Io:Sp:=fun vs H Q _=>∃(a r:Addr)(rn:List Int)(es:List (Nat×Addr))(fr:Nat->List Int)(P:List Nat)(N M X B Y W:Nat)(R:List Tb.Vc),vs=[.ref a,.ref r]/\H r=some (.lst (rn.map V.int))/\Fnd H a es fr/\Pls es P/\Wid W P fr/\rn.length=W/\
 Tb.FS N M X B R P (vF fr)/\R.length<N/\(∀p∈P,(vc rn p).natAbs<=M)/\Il N M X B Y (R++[vc rn])/\
 ∀H' d b c,Fra a H H'->Fnd H' a d b->Pls d c->Wid W c b->Tb.FS N M X B (R++[vc rn]) c (vF b)->Q .non H'
def jJ:zo ["found","row","left","place","top","pair","places","k"] ["found","row"] (zf CS):=⟨rfl,rfl,rfl,δ,rfl,δ,δ⟩
def MO{f fr ff fp fm:Addr}{fd aX jF de bP:FuncData}(F:Fun K "take_in" "take_in" CS f fd)(bs:mg "sorted"=none)(bg:mg "range"=none)(bn:mg "len"=none)(Fr:Fun K "reduced" "reduced" js fr aX)(br:Binds K aX ["row","found","places"] [])(mr:mg "reduced"=some (.ref fr))(Gr:ah P w K mg base au 2 fr aX ["row","found","places"] Ho)(Ff:Fun K "first_place" "first_place" CB ff jF)(bf:Binds K jF ["row"] [])(mf:mg "first_place"=some (.ref ff))(Gf:ah P w K mg base au 1 ff jF ["row"] Hl)(Fp:Fun K "divisor_pair" "divisor_pair" vR fp de)(bp:Binds K de ["one","other"] [])(mp:mg "divisor_pair"=some (.ref fp))(Gp:ah P w K mg base au 1 fp de ["one","other"] Hn)(Fm:Fun K "mix_of_two" "mix_of_two" vC fm bP)(bm:Binds K bP ["often","row","other_often","other"] [])(mm:mg "mix_of_two"=some (.ref fm))(Gm:ah P w K mg base au 1 fm bP ["often","row","other_often","other"] G'):ah P w K mg base au 3 f fd ["found","row"] Io:=by
 refine F.ok jJ (fun vs H Q E h=>?_) (fun ai A outer s H vs Q E hr h=>?_)
 ·obtain⟨a,r,rn,es,fr,PP,N,M,X,B,Y,W,R,rfl,_⟩:=h;rfl
 ·obtain⟨a,r,rn,es,fR,PP,N,M,X,B,Y,W,R,rfl,h1,hF,hP,hW,hn,FS,hlt,hM,L,k⟩:=h
  have hu:=Ck hr;have hr1:Room 1 _:=hr.mono ξ;refine⟨_,zc (zp (i:=2) jJ.nd rfl (Or.inl rfl) (ze Gr hr rfl mr Fr.kp br .nil af (za (pv 1) (za (pv 0) (za (zn (vU rfl) rfl bs v' (za (pv 0) zb)) zb)))))
   (zc (zp (i:=3) jJ.nd rfl (Or.inl rfl) (ze Gf hr1 rfl mf Ff.kp bf .nil af (za (pv 2) zb)))
   (zc (Cb Bb (J8 (KW hu (pv 3) (pv 0)) (by with_unfolding_all rfl))
    (zc (zp (i:=4) jJ.nd rfl (Or.inl rfl) (mj hu (pv 0) (pv 3) (fun _ _=>rfl)))
    (zc (zp (i:=5) jJ.nd rfl (Or.inl rfl) (ze Gp hr1 rfl mp Fp.kp bp .nil af (za (zw zx (pv 4) (pv 3) (fun _ _=>rfl)) (za (zw zx (pv 2) (pv 3) (fun _ _=>rfl)) zb))))
    (zc (D9 hu (pv 0) (pv 3) (ze Gm hr1 rfl mm Fm.kp bm .nil af (za (zw zC (zw zC (pv 5) zd (fun _ _=>rfl)) zd (fun _ _=>rfl)) (za (pv 4) (za (zw zC (zw zC (pv 5) zd (fun _ _=>rfl)) zd (fun _ _=>rfl)) (za (pv 2) zb))))) rfl)
    (zc (zp (i:=2) jJ.nd rfl (Or.inl rfl) (ze Gr hr rfl mr Fr.kp br .nil af (za (ze Gm hr1 rfl mm Fm.kp bm .nil af (za (zw zC (zw zC (pv 5) zd (fun _ _=>rfl)) zd (fun _ _=>rfl)) (za (pv 4) (za (zw zC (zw zC (pv 5) zd (fun _ _=>rfl)) zd (fun _ _=>rfl)) (za (pv 2) zb))))) (za (pv 0) (za (zn (vU rfl) rfl bs v' (za (pv 0) zb)) zb)))))
    (zh (zp (i:=3) jJ.nd rfl (Or.inl rfl) (ze Gf hr1 rfl mf Ff.kp bf .nil af (za (pv 2) zb)))))))))
   (zc (D9 hu (pv 0) (pv 3) (lj (zr iZ (zw zx (pv 2) (pv 3) (fun _ _=>rfl)) zd (ap _)) (pv 2)
    (zz ["found","row","left","place","top","pair","places","k"] ["number"] [none] (zO (pv 2)) (fun cl C s₀ H₀ ex=>zm (i:=0) (bC ["number"]) rfl (Or.inl rfl)) (fun cl C s₀ H₀ ex=>zB) (fun cl C s₀ H₀ ex=>lN l6 (pv 0)) (te:=F_ (rU fun i=>.int (-i)) (ar 0)) (hfr:=cz δ))) rfl)
   (zc (zp (i:=6) jJ.nd rfl (Or.inl rfl) (zn (vU rfl) rfl bs v' (za (pv 0) zb)))
   (zh (iw Bb rfl (Ii rfl bg (za (zF gu (zn zk rfl bn Ik (za (pv 6) zb)) zd) (za (lN l6 zd) (za (lN l6 zd) zb)))) (zm (i:=7) jJ.nd rfl (Or.inl rfl))
    (zh (D9 hu (pv 0) (zw zx (pv 6) (pv 7) (fun _ _=>rfl)) (ze Gr hr rfl mr Fr.kp br .nil af (za (mj hu (pv 0) (zw zx (pv 6) (pv 7) (fun _ _=>rfl)) (fun _ _=>rfl)) (za (pv 0) (za (tZ Cf (pv 6) (tP (zF eU (pv 7) zd)) tK) zb)))) rfl)))))))),?_⟩
  have z64:es.length<64:=by have:=hP.len;have:=FS.len;have:=L.few;(first|lia|omega)
  have T0:=FS.take L.hB hlt hM;have dS:(R++[vc rn]).length<=N:=by rw[AZ];exact hlt
  have pv:∀{x:Nat},x<=B->x<2 ^ 9000:=fun h=>Ao h L.piv;have ou:kR fR W rn PP:=EZ L.hR dS (fun p hp=>(T0.rep L.hB).1 p hp) FS.ech.pos (fun p hp=>pv (FS.piv p hp)) hW hn (fun i=>FS.mid L.hB hlt hM i) L.lim;refine⟨_,rfl,_,rfl,_,rfl,a,eS es,rfl,hF.at_,(by simpa using z64),fun PL ms pm so c9=>?_⟩;rw[hP.ints pm so];have sP:=Same.new (o:=.lst (PP.map fun p:Nat=>V.int (p:Int))) c9;refine⟨r,a,PL,rn,es,fR,PP,W,rfl,sP _ _ h1,hF.same sP,ac,fun p hp=>hP.pm.mem_iff.mp hp,ou,fun d H1 s1 hd=>?_⟩;have e0:vc (aK fR rn PP)=Tb.aV (vF fR) PP (vc rn):=pu hn fun p hp=>(hW.row p hp).2;rw[<-e0] at T0;have l0:(aK fR rn PP).length=W:=pi hn fun p hp=>(hW.row p hp).2;obtain⟨q,q1,q2,q3,q4,q5⟩:=Hy (T0.nz L.bd.ind L.hR);refine⟨_,rfl,d,aK fR rn PP,q,rfl,hd,q2,q3,?_⟩;have B0:Bt a d q W N M X B (R++[vc rn]) PP H H1 (aK fR rn PP) es fR 0:=⟨.of (sP.trans s1),hF.same (sP.trans s1),hP,hW,hd,l0,T0,At _,ω,q4,q5⟩;refine⟨fun n σ H3=>∃(d:Addr)(q:Nat)(I:List Int)(es:List (Nat×Addr))(fr:Nat->List Int)(t:Nat)(v4 v5:Option V),n=W-q/\σ=[some (.ref a),some (.ref r),some (.ref d),some (.int q),v4,v5,none,none]/\Bt a d q W N M X B (R++[vc rn]) PP H H3 I es fr t,
   ⟨_,d,q,_,es,fR,0,none,none,rfl,rfl,B0⟩,?_⟩
  clear B0 q5 q4 q3 q2 q1 l0 e0 hd s1 sP c9 so pm ou T0;clear d q H1 PL ms;rintro n σ H3 ⟨d,q,I,es,fr,t,v4,v5,rfl,rfl,T⟩
  by_cases hq:q∈PP
  ·obtain⟨c,hc,gc,aB⟩:=T.fnd.get (T.pls.pm.mem_iff.mp hq)
   refine⟨_,rfl,_,rfl,a,_,rfl,gc,_,rfl,?_⟩;have rW:=T.wid.row q hq;have tQ:=T.len;have mW:=T.wid.most;have x0:0<vF fr q q:=T.ts.ech.pos q hq;obtain⟨BP,y1⟩:=T.ts.red q hq;have y0:0<vc I q:=by have:=T.nz;(first|lia|omega)
   have xb:(vF fr q q).natAbs<2 ^ 9000:=pv (T.ts.piv q hq);have yb:(vc I q).natAbs<2 ^ 9000:=Ao ω xb;have z64:es.length<64:=by have:=T.pls.len;have:=FS.len;have:=L.few;(first|lia|omega)
   have hqe:q∈es.map (·.1):=T.pls.pm.mem_iff.mp hq;refine aR ⟨fun ag H'=>∃n',n'<W-q/\∃(d:Addr)(q:Nat)(I:List Int)(es:List (Nat×Addr))(fr:Nat->List Int)(t:Nat)(v4 v5:Option V),n'=W-q/\ag=[some (.ref a),some (.ref r),some (.ref d),some (.int q),v4,v5,none,none]/\Bt a d q W N M X B (R++[vc rn]) PP H H' I es fr t,fun ag H' h=>h,?_⟩;refine⟨_,rfl,_,rfl,a,_,rfl,gc,?_⟩;refine⟨_,rfl,_,rfl,c,_,_,_,rfl,rfl,SqL.of aB,zi (fD ω),_,rfl,_,rfl,d,_,_,_,rfl,rfl,SqL.of T.at_,zi (fD ω),vF fr q q,vc I q,rfl,x0,y0,xb,yb,fun r0 p1 p2 H4 g a1 b1 c1 d1 s4 gQ cX fN G=>?_⟩;have Mi:=T.ts.mid L.hB hq T.low T.nz T.tq G;obtain⟨T2,_⟩:=T.ts.next L.hB hq T.low T.nz T.tq G;have rp:=T.ts.rep L.hB;have ent:∀{l:List Int},Tb.Rep (R++[vc rn]) (Tb.cE N M X B) (vc l)->∀x∈l,x.natAbs<big:=fun h x hx=>by
    obtain⟨u,_,rfl⟩:=CI hx;exact Ao (Ae (h.le (u:=u) fun r hr=>L.hR r hr u) (Ak _ dS)) L.lim
   have Z:∀{k:Int},k.natAbs<=B->∀{x:Int},x.natAbs<big->eC k x:=by
    intro k hk x hx;exact⟨9000,bt,pv hk,hx,by have:=jz;(first|lia|omega)⟩
   have er:=ent (rp.1 q hq);have el:=ent rp.2;refine⟨_,rfl,r0,_,_,_,rfl,rfl,SqT.of gQ,zi (j:=0) rfl,p1,_,_,_,rfl,rfl,SqT.of cX,zi (j:=1) rfl,_,rfl,_,rfl,r0,_,_,_,rfl,rfl,SqT.of gQ,zi (j:=0) rfl,p1,_,_,_,rfl,rfl,SqT.of cX,zi (j:=2) rfl,_,rfl,c,d,_,_,_,_,rfl,s4 _ _ aB,s4 _ _ T.at_,ω,fun x hx=>Z Mi.a1 (er x hx),fun x hx=>Z Mi.b1 (el x hx),fun e H5 s5 Bm he=>?_⟩;have F5:=T.fnd.same (s4.trans s5);obtain⟨H6,dp,F6,o6⟩:=F5.put (H2:=H5) (p:=q) he ω;refine⟨_,rfl,_,rfl,a,H6,rfl,dp,?_⟩;have oI:=(T.fnd.same s4).at_;have keep:∀b o,b≠a->H4 b=some o->H6 b=some o:=fun b o hb e=>by rw[o6 b hb];exact s5 _ _ e
   have nr0:r0≠a:=fun z=>by rw[z,oI] at gQ;cases gQ
   have np2:p2≠a:=fun z=>by have h:=fN;unfold Tr at h;rw[z,oI] at h;cases h
   have nc:c≠a:=E1 T.fnd aB;have nd:d≠a:=E1 T.fnd T.at_;have qf:=keep _ _ nr0 gQ;have nP:=keep _ _ np2 fN;refine⟨_,rfl,r0,_,_,_,rfl,rfl,SqT.of qf,zi (j:=1) rfl,p2,_,_,_,rfl,rfl,SqT.of nP,zi (j:=1) rfl,_,rfl,_,rfl,r0,_,_,_,rfl,rfl,SqT.of qf,zi (j:=1) rfl,p2,_,_,_,rfl,rfl,SqT.of nP,zi (j:=2) rfl,_,rfl,c,d,_,_,_,_,rfl,keep _ _ nc (s4 _ _ aB),keep _ _ nd (s4 _ _ T.at_),ω,fun x hx=>Z Mi.c1 (er x hx),fun x hx=>Z Mi.d1 (el x hx),fun m H7 s7 gv hm=>?_⟩;have ei:Pls (cj es q e) PP:=⟨by rw[CK,if_pos hqe];exact T.pls.pm,T.pls.so⟩;have kJ:(cj es q e).length<64:=by have:=ei.len;have:=T.pls.len;(first|lia|omega)
   refine⟨_,rfl,_,rfl,a,eS (cj es q e),rfl,(F6.same s7).at_,(by simpa using kJ),fun PL ms pm so c9=>?_⟩;rw[ei.ints pm so];have sP:=Same.new (o:=.lst (PP.map fun p:Nat=>V.int (p:Int))) c9;have W2:Wid W PP (bH fr q (a_ a1 (fr q) b1 I)):=T.wid.put (by unfold a_;rw[Au];(first|lia|omega));have lm:(a_ c1 (fr q) d1 I).length=W:=by unfold a_;rw[Au];(first|lia|omega)
   have ef:vF (bH fr q (a_ a1 (fr q) b1 I))=Tb.put (vF fr) q (Tb.mix a1 (vF fr q) b1 (vc I)):=by rw[EC,Hx ω];rfl
   have em:vc (a_ c1 (fr q) d1 I)=Tb.mix c1 (vF fr q) d1 (vc I):=by rw[Hx ω];rfl
   rw[<-ef,<-em] at Mi T2;have qS:kR (bH fr q (a_ a1 (fr q) b1 I)) W (a_ c1 (fr q) d1 I) PP:=EZ L.hR dS Mi.fr Mi.ech.pos (fun p hp=>pv (Mi.piv p hp)) W2 lm Mi.met L.lim;refine⟨m,a,PL,_,cj es q e,bH fr q (a_ a1 (fr q) b1 I),PP,W,rfl,sP _ _ hm,(F6.same s7).same sP,ac,fun p hp=>ei.pm.mem_iff.mp hp,qS,fun d2 H9 s9 gm=>?_⟩;rw[<-pu (W:=W) lm fun p hp=>(W2.row p hp).2] at T2;obtain⟨q',q1,q2,q3,q4,q5⟩:=Hy (T2.nz L.bd.ind L.hR);have l9:(aK (bH fr q (a_ a1 (fr q) b1 I)) (a_ c1 (fr q) d1 I) PP).length=W:=pi lm fun p hp=>(W2.row p hp).2;have qq:q+1<=q':=Nat.le_of_not_lt fun h=>q5 (T2.low q' h);refine⟨_,rfl,d2,_,q',rfl,gm,q2,q3,?_⟩;refine⟨W-q',ω,d2,q',_,cj es q e,bH fr q (a_ a1 (fr q) b1 I),q+1,_,_,rfl,rfl,⟨?_,((F6.same s7).same sP).same s9,ei,W2,gm,l9,T2,qq,ω,q4,q5⟩⟩;exact T.fra.trans ((Fra.of s4).trans ((show Fra a H4 H6 from keep).trans (.of ((s7.trans sP).trans s9))))
  ·refine⟨_,rfl,_,rfl,a,_,rfl,T.fnd.no (fun h=>hq (T.pls.pm.mem_iff.mpr h)),_,rfl,?_⟩
   have tQ:=T.len;have mW:=T.wid.most;refine aI ⟨_,rfl,_,rfl,d,_,_,_,rfl,rfl,SqL.of T.at_,zi (fD (by have:=T.qW;(first|lia|omega))),_,_,rfl,rfl,_,rfl,?_⟩;apply share (S:=fun u H4=>Same H3 H4/\H4 u=some (.lst ((iI I q).map V.int)))
   ·intro fin hc
    refine⟨_,rfl,d,rfl,⟨_,SqL.of T.at_⟩,fun D hD=>zD (mB (xs:=I.map V.int) (fun j σ ys H4=>∃v,σ=[v]/\Same H3 H4/\H4 D=some (.lst ys)/\ys=((I.take j).map fun x=>-x).map V.int) ⟨none,rfl,Same.new hD,ac,rfl⟩ ?_ ?_ ?_)⟩
    ·rintro j σ ys H4 ⟨v,rfl,sm,_⟩
     exact SqL.of (sm _ _ T.at_)
    ·rintro j σ ys H4 x hx hj hy ⟨v,rfl,sm,bM,rfl⟩
     obtain⟨y,gy,rfl⟩:=ig hx;refine dy ⟨_,rfl,_,rfl,b6 (by rw[Aa];exact zA ω) hj hy bM ⟨_,rfl,sm.then hD,ac,?_⟩⟩;rw[take_snoc gy,AD,AD];rfl
    ·rintro σ ys H4 ⟨v,rfl,sm,bM,rfl⟩
     refine fin D H4 ⟨sm,?_⟩;rw[bM,Aa,Ax (Ad _)];unfold iI;rw[if_neg fun h=>hc (decide_eq_true h)]
   ·intro fin hc
    refine⟨_,rfl,fin d H3 ⟨Same.refl _,?_⟩⟩;unfold iI;rw[if_pos (of_decide_eq_true hc)];exact T.at_
   ·rintro u H4 ⟨s4,jE⟩
    have S0:=T.ts.full L.hB hq T.low T.nz;have hqe:q∉es.map (·.1):=fun h=>hq (T.pls.pm.mem_iff.mpr h);have F4:=T.fnd.same s4;have BU:=T.pls.len;have zP:=FS.len;have zN:=L.few;obtain⟨H5,dp,F5,o5⟩:=F4.put (H2:=H4) (p:=q) jE ω;refine⟨_,rfl,_,rfl,a,H5,rfl,dp,?_⟩;have lu:(iI I q).length=W:=by rw[MN];exact T.len
    have ef:vF (bH fr q (iI I q))=Tb.put (vF fr) q (Tb.up (vc I) q):=by rw[EC,MM]
    rw[<-ef] at S0;have di:Pls (cj es q u) (Tb.ins q PP):=⟨by rw[CK,if_neg hqe];exact Im.trans (T.pls.pm.append_right [q]),S0.srt.imp fun h=>Nat.le_of_lt h⟩;have fO:Wid W (Tb.ins q PP) (bH fr q (iI I q)):=by
     refine⟨mW,fun p hp=>?_⟩;unfold bH;rcases Tb.mem_ins.mp hp with rfl|h
     ·rw[if_pos rfl];exact⟨T.qW,lu⟩
     ·have:p≠q:=fun z=>hq (z▸h)
      rw[if_neg this];exact T.wid.row p h
    have fra5:Fra a H H5:=T.fra.trans ((Fra.of s4).trans fun b o hb e=>by rw[o5 b hb];exact e);have lQ:(Tb.ins q PP).length=PP.length+1:=Tb.Ez;clear o5 dp F4 jE s4 ef;generalize bH fr q (iI I q)=f0 at S0 F5 fO;generalize cj es q u=es0 at F5 di;generalize Tb.ins q PP=QQ at S0 di fO lQ;refine⟨_,rfl,a,eS es0,rfl,F5.at_,(by have:=di.len;simp;(first|lia|omega)),fun PL ms pm so c9=>?_⟩;rw[di.ints pm so];have sP:=Same.new (o:=.lst (QQ.map fun p:Nat=>V.int (p:Int))) c9;refine⟨_,rfl,PL,_,rfl,.inl (SqL.of ac),_,_,rfl,rfl,_,rfl,_,rfl,_,_,rfl,⟨by rw[Aa];(first|lia|omega),by rw[Aa];(first|lia|omega),ω,ω⟩,?_⟩;have ip:(((QQ.map fun p:Nat=>V.int (p:Int)).length:Nat):Int)=(QQ.length:Int):=by rw[Aa]
    refine Ij (fun i σ H6=>∃(es:List (Nat×Addr))(fr:Nat->List Int)(v7:Option V),σ=[some (.ref a),some (.ref r),some (.ref d),some (.int q),v4,v5,some (.ref PL),v7]/\Fra a H H6/\Fnd H6 a es fr/\Pls es QQ/\Wid W QQ fr/\H6 PL=some (.lst (QQ.map fun p:Nat=>V.int (p:Int)))/\vF fr=Tb.a0 (vF f0) (QQ.drop (QQ.length-i)))
     ⟨es0,f0,none,rfl,fra5.trans (.of sP),F5.same sP,di,fO,ac,by rw[Nat.sub_zero,List.drop_length];rfl⟩ ?_ ?_
    ·rintro i σ H6 hi ⟨jf,f6,v7,rfl,fI,F6,cr,bZ,cU,hv⟩
     have hiQ:i<QQ.length:=ω
     obtain⟨O,jt⟩:∃O,O=QQ.length-1-i:=⟨_,rfl⟩;have iT:O<QQ.length:=ω
     rw[show(((QQ.map fun p:Nat=>V.int (p:Int)).length:Nat):Int)-1-((i:Nat):Int)=((O:Nat):Int) by rw[ip];(first|lia|omega)];have gk:(QQ.map fun p:Nat=>V.int (p:Int))[O]?=some (V.int ((QQ[O]:Nat):Int)):=by rw[Aj,Ab iT];rfl
     have eQ:QQ=QQ.take O++QQ[O]::QQ.drop (O+1):=by rw[<-List.drop_eq_getElem_cons iT,List.take_append_drop]
     have ed:QQ.drop (QQ.length-i)=QQ.drop (O+1):=by rw[show QQ.length-i=O+1 from ω]
     have ed2:QQ.drop (QQ.length-(i+1))=QQ[O]::QQ.drop (O+1):=by rw[show QQ.length-(i+1)=O from ω];exact List.drop_eq_getElem_cons iT
     rw[ed] at hv;rw[ed2];have gw:QQ[O]∈QQ:=Ap iT;have sub:∀p∈QQ.drop (O+1),p∈QQ:=fun p hp=>List.mem_of_mem_drop hp;generalize iA:QQ.drop (O+1)=ps at eQ hv ed ed2 sub ⊢;generalize QQ[O]=p at gk eQ ed2 gw ⊢;have xV:p∉ps:=fun h=>by
      have s:=S0.srt;rw[eQ,List.pairwise_append] at s;exact Nat.lt_irrefl p ((List.pairwise_cons.mp s.2.1).1 p h)
     obtain⟨e1,bd,rp⟩:=S0.tail L.hB L.bd (pre:=QQ.take O++[p]) (ps:=ps) (by rw[List.append_assoc];exact eQ);have cc:Tb.cC N X B<=Tb.cE N M X B:=Ae (by unfold Tb.cK;(first|lia|omega)) (Ae (Tb.EY L.hB) Tb.qc);have pT:vc (f6 p)=vF f0 p:=by
      have:vF f6 p=vF f0 p:=by rw[hv,Tb.Hs xV]
      exact this
     have ok6:kR f6 W (f6 p) ps:=by
      refine EZ (CE:=Tb.cE N M X B) L.hR dS (fun U J=>?_) (fun U J=>?_) (fun U J=>?_) (bZ.sub sub) (bZ.row p gw).2 (fun j=>?_) L.lim
      ·rw[hv];exact(rp U J).mono cc
      ·rw[hv];exact e1.pos U J
      ·rw[hv];exact pv (bd U J U (sub U J))
      ·rw[hv,pT];exact S0.met L.hB L.bd eQ j
     obtain⟨c,hc,gc,aB⟩:=F6.get (cr.pm.mem_iff.mp gw);refine⟨_,rfl,_,rfl,_,rfl,PL,_,_,_,rfl,rfl,SqL.of cU,zi gk,a,_,rfl,gc,_,rfl,_,rfl,_,rfl,_,_,rfl,rfl,_,rfl,PL,_,rfl,SqL.of cU,fun SL xt=>?_⟩;rw[show((O:Nat):Int)+1=((O+1:Nat):Int) from ω,mY,<-List.map_drop,iA];have sS:=Same.new (o:=.lst (ps.map fun p:Nat=>V.int (p:Int))) xt;refine⟨c,a,SL,f6 p,jf,f6,ps,W,rfl,sS _ _ aB,F6.same sS,ac,fun U J=>cr.pm.mem_iff.mp (sub U J),ok6,fun D H8 s8 kB=>?_⟩;have z6:=cr.len;obtain⟨H9,dp,F9,o9⟩:=((F6.same sS).same s8).put (H2:=H8) (p:=p) kB ω;have rS:PL≠a:=E1 F6 cU;refine⟨_,rfl,_,rfl,_,rfl,PL,_,_,_,rfl,rfl,SqL.of ((sS.trans s8) _ _ cU),zi gk,a,H9,rfl,dp,cj jf p D,bH f6 p (aK f6 (f6 p) ps),_,rfl,?_,F9,⟨?_,cr.so⟩,?_,?_,?_⟩
     ·exact fI.trans ((Fra.of (sS.trans s8)).trans fun b o hb e=>by rw[o9 b hb];exact e)
     ·rw[CK,if_pos (cr.pm.mem_iff.mp gw)];exact cr.pm
     ·exact bZ.put (pi (bZ.row p gw).2 fun U J=>(bZ.row U (sub U J)).2)
     ·rw[o9 PL rS];exact(sS.trans s8) _ _ cU
     ·rw[EC,pu (bZ.row p gw).2 (fun U J=>(bZ.row U (sub U J)).2),hv,pT];rfl
    ·rintro σ H6 ⟨jf,f6,v7,rfl,fI,F6,cr,bZ,cU,hv⟩
     rw[show QQ.length-((((QQ.map fun p:Nat=>V.int (p:Int)).length:Nat):Int)-1 - -1).toNat=0 by rw[ip];(first|lia|omega),List.drop_zero] at hv;refine k H6 jf f6 QQ fI F6 cr bZ ?_;rw[hv];exact S0.done L.hB L.bd
end
abbrev jK:Stmt:=top 25
section
variable{P:Program}{w:World}{K:Ag}{mg:Str->Option Value}{base:Heap}
structure Ip(N M X B Y W:Nat)(tb:Ξ):Prop where
 most:W<=1000
 few:tb.length<=N
 len:∀r∈tb,r.length=W
 lim:∀i,i<tb.length->Il N M X B Y ((tb.take (i+1)).map vc)
 row:∀i r,tb[i]?=some r->∀Q f,Tb.FS N M X B ((tb.take i).map vc) Q f->∀p∈Q,(vc r p).natAbs<=M
def Iq:Sp:=fun vs H Q _=>∃(L:Addr)(rs:List Addr)(tb:Ξ)(N M X B Y W:Nat),vs=[.ref L]/\H L=some (.lst (rs.map V.ref))/\Rws H rs tb/\Ip N M X B Y W tb/\
 ∀a H' es fr P,Same H H'->H a=none->Fnd H' a es fr->Pls es P->Wid W P fr->Tb.FS N M X B (tb.map vc) P (vF fr)->Q (.ref a) H'
def E2:zo ["rows","found","row"] ["rows"] (zf jK):=⟨rfl,rfl,rfl,δ,rfl,δ,δ⟩
def Fra.same{a:Addr}{H H1 H2:Hp}{o:HO}(h:Fra a H1 H2)(e:H1=upd H a o)(c:H a=none):Same H H2:=fun b v hb=>by
 have n:b≠a:=fun z=>by rw[z,c] at hb;cases hb
 exact h b v n (by rw[e,al n];exact hb)
def MP{f q:Addr}{fd r:FuncData}(F:Fun K "echelon_of" "echelon_of" jK f fd)(Ft:Fun K "take_in" "take_in" CS q r)(bt:Binds K r ["found","row"] [])(mt:mg "take_in"=some (.ref q))(Gt:ah P w K mg base au 3 q r ["found","row"] Io):ah P w K mg base au 4 f fd ["rows"] Iq:=by
 refine F.ok E2 (fun vs H Q E h=>?_) (fun ai A outer s H vs Q E hr h=>?_)
 ·obtain⟨L,rs,tb,N,M,X,B,Y,W,rfl,_⟩:=h;rfl
 ·obtain⟨L,rs,tb,N,M,X,B,Y,W,rfl,v,y,ok,k⟩:=h
  refine⟨_,zc (zp (i:=1) E2.nd rfl (Or.inl rfl) K0)
   (zc (iw Bb rfl (zO (pv 0)) (zm (i:=2) E2.nd rfl (Or.inl rfl))
    (zh (lA (ze Gt hr rfl mt Ft.kp bt .nil af (za (pv 1) (za (pv 2) zb))))))
   (zh (zq (pv 1)))),?_⟩
  refine fun a d=>⟨_,rfl,L,rfl,⟨_,SqL.of (Same.new d _ _ v)⟩,Cd (K:=K) (a:=L) (xs:=rs.map V.ref) (fun i σ H2=>∃(j:Option V)(es:List (Nat×Addr))(fr:Nat->List Int)(c:List Nat),σ=[some (.ref L),some (.ref a),j]/\Fra a (upd H a (.dK [])) H2/\Fnd H2 a es fr/\Pls es c/\Wid W c fr/\Tb.FS N M X B ((tb.take i).map vc) c (vF fr))
   ⟨none,[],fun _=>[],[],rfl,fun _ _ _ e=>e,⟨ac,List.nodup_nil,fun e C=>nomatch C⟩,⟨.refl _,.nil⟩,⟨ok.most,fun p hp=>nomatch hp⟩,Tb.FS.start⟩ (fun i σ H2 _ ⟨_,_,_,_,_,b,_⟩=>SqL.of ((b.same rfl d) _ _ v)) ?_ ?_⟩
  ·rintro i x σ H2 hx ⟨j,es,fr,c,rfl,b,u,pls,l,FS⟩
   obtain⟨o,T,rfl⟩:=kw hx;obtain⟨rn,g,U⟩:=y.get T;have hi:i<tb.length:=(List.getElem?_eq_some_iff.mp g).1;have z:=ok.lim i hi;rw[take_snoc g,AD] at z;have Z:=ok.few;refine⟨_,rfl,_,rfl,a,o,rn,es,fr,c,N,M,X,B,Y,W,_,rfl,(b.same rfl d) _ _ U,u,pls,l,ok.len rn (An g),FS,by rw[Aa,List.length_take];(first|lia|omega),ok.row i rn g c (vF fr) FS,z,fun H3 D G P3 I F3 J O S=>?_⟩;refine⟨_,D,G,P3,rfl,b.trans I,F3,J,O,?_⟩;rw[take_snoc g,AD];exact S
  ·rintro σ H2 ⟨j,es,fr,c,rfl,b,u,pls,l,FS⟩
   have bI:=y.len;rw[Aa,bI,Ax (Ad _)] at FS;exact⟨_,rfl,k a H2 es fr c (b.same rfl d) d u pls l FS⟩
end
end K24
end
section
namespace L2
open PySem PySem.Spec PyProof.Rows
def MQ{K:Ag}{c d:Addr}{xs ys:List V}{g:TG}{tb:TS}{D:Ends}{σ:St}{H:Hp}(a:Nat->St->Hp->Prop)(v:a 0 σ H)(w:∀i σ H,a i σ H->SqL K H c xs/\SqL K H d ys)(z:∀i x y p σ H,xs[i]?=some x->ys[i]?=some y->H p=none->a i σ H->g (.ref p) σ (upd H p (.tup [x,y])) fun f H2=>tb {D with nx:=a (i+1),ct:=a (i+1),bk:=D.nx} f H2)(hd:∀σ H,a (min xs.length ys.length) σ H->D.nx σ H):∃W:Nat->Nat->St->Hp->Prop,(∃m,W 0 m σ H)/\∀i m σ H,W i m σ H->
   ((ey K c d).stop i H/\D.nx σ H)\/((ey K c d).go i H/\∃N:St->Hp->Prop,(∀h H',N h H'->∃o,o<m/\W (i+1) o h H')/\∀x H',(ey K c d).yld i H x H'->g x σ H' fun f H2=>tb {D with nx:=N,ct:=N,bk:=D.nx} f H2):=by
 refine⟨fun i m σ H=>m=min xs.length ys.length-i/\i<=min xs.length ys.length/\a i σ H,⟨_,rfl,At _,v⟩,?_⟩;rintro i m σ H ⟨rfl,hi,p⟩;obtain⟨j,l⟩:=w i σ H p
 by_cases b:i<min xs.length ys.length
 ·refine .inr ⟨⟨xs,ys,j,l,b⟩,a (i+1),fun h H' q=>⟨_,ω,rfl,b,q⟩,fun x H' y=>?_⟩
  obtain⟨pp,x,r,rfl,hp,rfl,s,u⟩:=y;exact z i x r pp σ H (s xs j) (u ys l) hp p
 ·have e:i=min xs.length ys.length:=ω
  subst e;exact .inl ⟨⟨xs,ys,j,l,rfl⟩,hd σ H p⟩
end L2
namespace K24
open PySem L2
abbrev jM:Stmt:=top 32
def ck(l:List Int)(x:Int×List Int):List Int:=dF l (-x.1) x.2
def gK(w:Nat)(ns:List Int)(tb:Ξ):List Int:=(ns.zip tb).foldl ck (Aq w 0)
def Ir{l:List Int}{x:Int×List Int}{w:Nat}(h:l.length=w)(h2:x.2.length=w):(ck l x).length=w:=by unfold ck dF;rw[Au];(first|lia|omega)
def MR{l row:List Int}(h:l.length=row.length):ck l (0,row)=l:=Ex h
def E3{w:Nat}:∀{zs:List (Int×List Int)}{l:List Int},l.length=w->(∀z∈zs,z.2.length=w)->(zs.foldl ck l).length=w
 |[],_,h,_=>h
 |z::zs,l,h,h2=>E3 (zs:=zs) (Ir h (h2 z (AM ..))) fun y hy=>h2 y (AJ _ hy)
section
variable{P:Program}{w:World}{K:Ag}{mg:Str->Option Value}{base:Heap}
def E4:Sp:=fun vs H Q _=>∃(a L:Addr)(ns:List Int)(rs:List Addr)(tb:Ξ),vs=[.ref a,.ref L]/\H a=some (.lst (ns.map V.int))/\H L=some (.lst (rs.map V.ref))/\Rws H rs tb/\wid tb<=1000/\(∀r∈tb,r.length=wid tb)/\
 (∀z∈ns.zip tb,∀x∈z.2,eC (-z.1) x)/\kO H Q (gK (wid tb) ns tb)
def wR:zo ["numbers","rows","told","often","row"] ["numbers","rows"] (zf jM):=⟨rfl,rfl,rfl,δ,rfl,δ,δ⟩
def MS{f v C:Addr}{fd G I:FuncData}(F:Fun K "mix_of" "mix_of" jM f fd)(bz:mg "zip"=none)(Fw:Fun K "width_of" "width_of" kn v G)(bw:Binds K G ["table"] [])(mw:mg "width_of"=some (.ref v))(Gw:ah P w K mg base au 1 v G ["table"] (mI K))(Fl:Fun K "less" "less" kL C I)(bl:Binds K I ["row","often","other"] [])(ml:mg "less"=some (.ref C))(Gl:ah P w K mg base au 1 C I ["row","often","other"] vI):ah P w K mg base au 2 f fd ["numbers","rows"] E4:=by
 refine F.ok wR (fun vs H Q E h=>?_) (fun ai A outer s H vs Q E hr h=>?_)
 ·obtain⟨a,L,ns,rs,tb,rfl,_⟩:=h;rfl
 ·obtain⟨a,L,ns,rs,tb,rfl,M,c,g,hw,N,hm,k⟩:=h
  refine⟨_,zc (zp (i:=2) wR.nd rfl (Or.inl rfl) (zF D0 (hV (za zd zb)) (ze Gw hr rfl mw Fw.kp bw .nil af (za (pv 1) zb))))
   (zc (iw Bb rfl (kA rfl bz jm (za (pv 0) (za (pv 1) zb))) (gi rfl (zE (zm (i:=3) wR.nd rfl (Or.inl rfl)) (zE (zm (i:=4) wR.nd rfl (Or.inl rfl)) gg)))
    (zh (cv (zr gx (pv 3) zd (ap _))
     (zh (zp (i:=2) wR.nd rfl (Or.inl rfl) (ze Gl hr rfl ml Fl.kp bl .nil af (za (pv 2) (za (lN l6 (pv 3)) (za (pv 4) zb)))))) zI)))
   (zh (zq (pv 2)))),?_⟩
  refine⟨ξ,fun Z U=>?_⟩;have b:=Same.new (o:=.lst [.int 0]) U;refine⟨_,rfl,L,rs,tb,rfl,SqL.of (b _ _ c),g.same b,Z,_,_,rfl,rfl,ac,ω,ω,(by rw[sizeLine_eq];simp;(first|lia|omega)),fun T J=>?_⟩;have sT:=Same.new (o:=.lst (Aq ((wid tb:Nat):Int).toNat [V.int 0]).flatten) J;have r:=b.trans sT;have dL:H T=none:=b.free J;have eT:(Aq ((wid tb:Nat):Int).toNat [V.int 0]).flatten=(Aq (wid tb) (0:Int)).map V.int:=by
   rw[Int.toNat_natCast,List.map_replicate];generalize wid tb=n
   induction n with
   |zero=>rfl
   |succ n ih=>rw[List.replicate_succ,List.flatten_cons,ih,List.replicate_succ];rfl
  have bI:=g.len;refine⟨_,rfl,_,rfl,a,L,rfl,⟨_,SqL.of (r _ _ M)⟩,⟨_,SqL.of (r _ _ c)⟩,MQ (K:=K) (xs:=ns.map V.int) (ys:=rs.map V.ref) (fun i σ H2=>∃(d:Addr)(j l:Option V),σ=[some (.ref a),some (.ref L),some (.ref d),j,l]/\Same H H2/\H d=none/\H2 d=some (.lst ((((ns.zip tb).take i).foldl ck (Aq (wid tb) 0)).map V.int)))
   ⟨T,none,none,rfl,r,dL,by rw[ac,eT];rfl⟩ (fun i σ H2 ⟨_,_,_,_,sm,_⟩=>⟨SqL.of (sm _ _ M),SqL.of (sm _ _ c)⟩) ?_ ?_⟩
  ·rintro i x y p σ H2 hx hy hp ⟨d,j,l,rfl,sm,q,hd⟩
   obtain⟨n,gn,rfl⟩:=ig hx;obtain⟨o,eo,rfl⟩:=kw hy;obtain⟨row,O,ho⟩:=g.get eo;have u:(ns.zip tb)[i]?=some (n,row):=by rw[List.getElem?_zip_eq_some];exact⟨gn,O⟩
   have S:∀z∈ns.zip tb,z.2.length=wid tb:=fun z hz=>N z.2 (List.of_mem_zip hz).2;have ll:(((ns.zip tb).take i).foldl ck (Aq (wid tb) 0)).length=wid tb:=E3 (by simp) fun z hz=>S z (List.mem_of_mem_take hz);have sp:=Same.new (o:=.tup [V.int n,V.ref o]) hp;have e2:((ns.zip tb).take (i+1)).foldl ck (Aq (wid tb) 0)=ck (((ns.zip tb).take i).foldl ck (Aq (wid tb) 0)) (n,row):=by rw[take_snoc u,List.foldl_append];rfl
   refine⟨p,_,rfl,SqT.of ac,rfl,_,_,rfl,_,_,rfl,rfl,_,rfl,rfl,_,rfl,?_⟩
   by_cases z:n=0
   ·rw[show(!decide (V.int n=V.int 0))=false by rw[z];rfl]
    refine aI ⟨d,_,_,rfl,sm.trans sp,q,?_⟩;rw[e2,z,MR (by rw[ll];exact(S _ (An u)).symm)];have h:=sp _ _ hd;rw[z] at h;exact h
   ·rw[show(!decide (V.int n=V.int 0))=true by rw[decide_eq_false (fun e=>z (by injection e))];rfl]
    refine aR ⟨_,rfl,_,rfl,_,rfl,_,rfl,d,o,_,row,-n,rfl,sp _ _ hd,sp _ _ (sm _ _ ho),by rw[N row (An O)];exact hw,fun x hx=>hm _ (An u) x hx,fun D H4 W X Y=>?_⟩;refine⟨D,_,_,rfl,(sm.trans sp).trans W,(sm.trans sp).free X,?_⟩;rw[e2];exact Y
  ·rintro σ H2 ⟨d,j,l,rfl,sm,q,hd⟩
   refine⟨_,rfl,k d H2 sm q ?_⟩;rw[hd,Ax (by rw[List.length_zip,Aa,Aa,bI];exact Ad _)]
   rfl
end
end K24
end
section
namespace K24
open PySem L2
abbrev w_:Stmt:=top 18
def bN(ns:List Int)(k w:Nat):List Int:=if k<ns.length then(Aq w (0:Int)).set k (ns.getD k 0) else Aq w 0
def MT{w:Nat}:(Aq ((w:Nat):Int).toNat [V.int 0]).flatten=(Aq w (0:Int)).map V.int:=by
 rw[Int.toNat_natCast,List.map_replicate]
 induction w with
 |zero=>rfl
 |succ n ih=>rw[List.replicate_succ,List.flatten_cons,ih,List.replicate_succ];rfl
section
variable{P:Program}{w:World}{K:Ag}{mg:Str->Option Value}{base:Heap}
def xj:Sp:=fun vs H Q _=>∃(a:Addr)(ns:List Int)(b c:Nat),vs=[.ref a,.int b,.int c]/\H a=some (.lst (ns.map V.int))/\c<=1000/\(b<ns.length->b<c)/\kO H Q (bN ns b c)
def Is:zo ["numbers","k","width","row"] ["numbers","k","width"] (zf w_):=⟨rfl,rfl,rfl,δ,rfl,δ,δ⟩
def MU{f:Addr}{fd:FuncData}(F:Fun K "slope_row" "slope_row" w_ f fd)(x:mg "len"=none):ah P w K mg base au 1 f fd ["numbers","k","width"] xj:=by
 refine F.ok Is (fun vs H Q E h=>?_) (fun y A outer s H vs Q E hr h=>?_)
 ·obtain⟨a,ns,b,j,rfl,_⟩:=h;rfl
 ·obtain⟨a,ns,b,j,rfl,l,hw,hk,k⟩:=h
  refine⟨_,zc (zp (i:=3) Is.nd rfl (Or.inl rfl) (zF D0 (hV (za zd zb)) (pv 2)))
   (zc (cv (zr n_ (pv 1) (zn zk rfl x Ik (za (pv 0) zb)) (ap _))
    (zh (iv (zw zx (pv 0) (pv 1) (fun _ _=>rfl)) (iX (pv 3) (pv 1) set_list))) zI)
   (zh (zq (pv 3)))),?_⟩
  refine⟨ξ,fun Z q=>?_⟩;have p:=Same.new (o:=.lst [.int 0]) q;refine⟨_,rfl,Z,_,_,rfl,rfl,ac,ω,ω,(by rw[sizeLine_eq];simp;(first|lia|omega)),fun T g=>?_⟩;rw[MT];have r:=Same.new (o:=.lst ((Aq j (0:Int)).map V.int)) g;have d:=p.trans r;have e:H T=none:=p.free g;refine⟨_,rfl,_,rfl,a,_,rfl,.inl (SqL.of (d _ _ l)),_,_,rfl,rfl,_,rfl,?_⟩;rw[Aa]
  by_cases c:b<ns.length
  ·rw[decide_eq_true (show((b:Nat):Int)<((ns.length:Nat):Int) from ω)]
   have u:=hk c;have v:(ns.map V.int)[b]?=some (V.int (ns.getD b 0)):=fD c;refine aR ⟨_,rfl,_,rfl,a,_,_,_,rfl,rfl,SqL.of (d _ _ l),zi v,_,rfl,_,rfl,T,_,_,b,rfl,rfl,ac,?_,?_⟩
   ·unfold hZ
    rw[Aa,List.length_replicate];simp[u]
   ·refine⟨_,rfl,k T _ (d.then e) e ?_⟩
    unfold bN;rw[if_pos c,ac,List.map_set]
  ·rw[decide_eq_false (show ¬((b:Nat):Int)<((ns.length:Nat):Int) from ω)]
   refine aI ⟨_,rfl,k T _ d e ?_⟩;unfold bN;rw[if_neg c,ac]
end
end K24
end
section
namespace K24
open PySem L2
abbrev xn:Stmt:=top 17
abbrev CT:Stmt:=top 21
def slpT(ns:List Int)(n w:Nat):Ξ:=(Ah n).map fun k=>bN ns k w
section
variable{P:Program}{w:World}{K:Ag}{mg:Str->Option Value}{base:Heap}
def Iu:Sp:=fun vs H Q _=>∃(a:Addr)(ns:List Int)(n b:Nat),vs=[.ref a,.int n,.int b]/\H a=some (.lst (ns.map V.int))/\n<=1000/\b<=1000/\(∀k,k<n->k<ns.length->k<b)/\Ct H Q (slpT ns n b)
def MV:zo ["numbers","size","width"] ["numbers","size","width"] (zf xn):=⟨rfl,rfl,rfl,δ,rfl,δ,δ⟩
def MW{f fs:Addr}{fd l:FuncData}(F:Fun K "on_slope" "on_slope" xn f fd)(I:mg "range"=none)(Fs:Fun K "slope_row" "slope_row" w_ fs l)(bs:Binds K l ["numbers","k","width"] [])(ms:mg "slope_row"=some (.ref fs))(M:ah P w K mg base au 1 fs l ["numbers","k","width"] xj):ah P w K mg base au 2 f fd ["numbers","size","width"] Iu:=by
 refine F.ok MV (fun vs H Q E h=>?_) (fun N A outer s H vs Q E hr h=>?_)
 ·obtain⟨a,ns,n,e,rfl,_⟩:=h;rfl
 ·obtain⟨a,ns,n,e,rfl,G,q,hw,hk,k⟩:=h
  refine⟨_,zh (zq (zz ["numbers","size","width"] ["k","numbers","width"] [none,some 0,some 2] (jc rfl I (za (pv 1) zb)) (fun o C s₀ H₀ ex=>zm (i:=0) (bC ["k","numbers","width"]) rfl (Or.inl rfl)) (fun o C s₀ H₀ ex=>zB)
   (fun o C s₀ H₀ ex=>ze M hr rfl ms Fs.kp bs .nil af (za (pv 1) (za (pv 0) (za (pv 2) zb)))) (te:=eX xj [] E0 (zZ (ar 1) (zZ (ar 0) (zZ (ar 2) bD)))) (hfr:=a9 (zf xn) δ))),?_⟩
  refine⟨_,rfl,_,rfl,ω,ω,fun D p=>?_⟩;refine Em (n:=n) (g:=fun k=>bN ns k e) (fun j H' R r sm u=>⟨_,rfl,_,rfl,_,rfl,a,ns,j,e,rfl,sm _ _ G,hw,hk j r,fun d J v hd x=>u d J v hd x⟩) ω p fun L ds y b c z q=>k D L ds y p b c z q
def unT(n:Nat):Ξ:=slpT (Aq n 1) n n
def Iv:Sp:=fun vs H Q _=>∃n:Nat,vs=[.int n]/\n<=1000/\Ct H Q (unT n)
def MX:zo ["size"] ["size"] (zf CT):=⟨rfl,rfl,rfl,δ,rfl,δ,δ⟩
def MY{w:Nat}:(Aq ((w:Nat):Int).toNat [V.int 1]).flatten=(Aq w (1:Int)).map V.int:=by
 rw[Int.toNat_natCast,List.map_replicate]
 induction w with
 |zero=>rfl
 |succ n ih=>rw[List.replicate_succ,List.flatten_cons,ih,List.replicate_succ];rfl
def MZ{f fs:Addr}{fd c:FuncData}(F:Fun K "unit" "unit" CT f fd)(Fs:Fun K "on_slope" "on_slope" xn fs c)(bs:Binds K c ["numbers","size","width"] [])(ms:mg "on_slope"=some (.ref fs))(u:ah P w K mg base au 2 fs c ["numbers","size","width"] Iu):ah P w K mg base au 3 f fd ["size"] Iv:=by
 refine F.ok MX (fun vs H Q E h=>?_) (fun v A outer s H vs Q E hr h=>?_)
 ·obtain⟨n,rfl,_⟩:=h;rfl
 ·obtain⟨n,rfl,e,k⟩:=h
  refine⟨_,zh (zq (ze u hr rfl ms Fs.kp bs .nil af (za (zF D0 (hV (za zd zb)) (pv 0)) (za (pv 0) (za (pv 0) zb))))),?_⟩;refine⟨ξ,fun Z g=>?_⟩;have q:=Same.new (o:=.lst [.int 1]) g;refine⟨_,rfl,Z,_,_,rfl,rfl,ac,ω,ω,(by rw[sizeLine_eq];simp;(first|lia|omega)),fun T i=>?_⟩;rw[MY];have r:=Same.new (o:=.lst ((Aq n (1:Int)).map V.int)) i;have b:=q.trans r;refine⟨_,rfl,_,rfl,T,_,n,n,rfl,ac,e,e,fun k hk _=>hk,fun D H' ds sm j l hr p a=>?_⟩;exact k D H' ds (b.trans sm) (b.free j) l hr p fun d hd=>⟨b.free (a d hd).1,(a d hd).2⟩
end
end K24
end
section
namespace K24
open PySem L2
def dot(r c:List Int):Int:=(Av (·*·) r c).sum
def MulOk(r c:List Int):Prop:=∀x∈r,∀y∈c,eC x y
def Iw:A7 "sum"=some (.builtin "sum"):=δ
section
variable{P:Program}{w:World}{K:Ag}{mg:Str->Option Value}{base:Heap}
def iJ:Sp:=fun vs H Q _=>∃r c rn a,vs=[.ref r,.ref c]/\H r=some (.lst (rn.map V.int))/\H c=some (.lst (a.map V.int))/\a.length<=1000/\MulOk rn a/\∀H',Same H H'->Q (.int (dot rn a)) H'
def M0:zo ["row","column"] ["row","column"] (zf vu):=⟨rfl,rfl,rfl,δ,rfl,δ,δ⟩
def M3{f:Addr}{fd:FuncData}(F:Fun K "sum_by" "sum_by" vu f fd)(v:mg "zip"=none)(bs:mg "sum"=none):ah P w K mg base au 1 f fd ["row","column"] iJ:=by
 refine F.ok M0 (fun vs H Q E h=>?_) (fun y A outer s H vs Q E hr h=>?_)
 ·obtain⟨r,c,rn,l,rfl,_⟩:=h;rfl
 ·obtain⟨r,c,rn,l,rfl,h1,h2,n2,sm,k⟩:=h
  refine⟨_,zh (zq (zn (GZ rfl) rfl bs Iw (za (zz ["row","column"] ["number","other"] [none,none] (kA rfl v jm (za (pv 0) (za (pv 1) zb)))
   (fun e C s₀ H₀ ex=>gi rfl (zE (zm (i:=0) (bC ["number","other"]) rfl (Or.inl rfl)) (zE (zm (i:=1) (bC ["number","other"]) rfl (Or.inl rfl)) gg))) (fun e C s₀ H₀ ex=>zB)
   (fun e C s₀ H₀ ex=>zF oZ (pv 0) (pv 1)) (te:=cy (rI eC fun i j=>.int (i*j)) (ar 0) (ar 1)) (hfr:=cz δ) (g:=bT K 2 (ci (zQ 0) (ci (zQ 1) bR)))) zb))),?_⟩
  refine⟨_,rfl,_,rfl,r,c,rfl,⟨_,SqL.of h1⟩,⟨_,SqL.of h2⟩,fun D o=>?_⟩;refine zD (vD (f:=fun a b=>a*b) (fun a b H' R p hb q=>⟨_,rfl,_,rfl,_,_,rfl,rfl,sm a p b hb,q⟩) h1 h2 n2 o fun x u d=>⟨D,Av (·*·) rn l,rfl,SqL.of d,k x u⟩)
def E5(K:Ag):Sp:=fun vs H Q _=>∃r C rn b a,vs=[.ref r,.ref C]/\H r=some (.lst (rn.map V.int))/\H C=some (.lst (b.map V.ref))/\Rws H b a/\a.length<=1000/\(∀c∈a,c.length<=1000/\MulOk rn c)/\kO H Q (a.map (dot rn))
def M4:zo ["row","columns"] ["row","columns"] (zf oQ):=⟨rfl,rfl,rfl,δ,rfl,δ,δ⟩
def M5{f fs:Addr}{fd b:FuncData}(F:Fun K "row_by" "row_by" oQ f fd)(Fs:Fun K "sum_by" "sum_by" vu fs b)(bs:Binds K b ["row","column"] [])(ms:mg "sum_by"=some (.ref fs))(L:ah P w K mg base au 1 fs b ["row","column"] iJ):ah P w K mg base au 2 f fd ["row","columns"] (E5 K):=by
 refine F.ok M4 (fun vs H Q E h=>?_) (fun M A outer s H vs Q E hr h=>?_)
 ·obtain⟨r,C,rn,x,y,rfl,_⟩:=h;rfl
 ·obtain⟨r,C,rn,x,y,rfl,z,j,G,n2,l,k⟩:=h
  refine⟨_,zh (zq (zz ["row","columns"] ["column","row"] [none,some 0] (zO (pv 1)) (fun c C s₀ H₀ ex=>zm (i:=0) (bC ["column","row"]) rfl (Or.inl rfl)) (fun c C s₀ H₀ ex=>zB)
   (fun c C s₀ H₀ ex=>ze L hr rfl ms Fs.kp bs .nil af (za (pv 1) (za (pv 0) zb))) (te:=eX iJ [] E0 (zZ (ar 1) (zZ (ar 0) bD))) (hfr:=a9 (zf oQ) δ))),?_⟩
  refine⟨_,rfl,C,rfl,⟨_,SqL.of j⟩,fun D d=>?_⟩;refine zD (ky (mkV:=V.int) (g:=dot rn) (fun o os H' R sm p e q=>⟨_,rfl,_,rfl,r,o,rn,os,rfl,sm _ _ z,p,(l os e).1,(l os e).2,fun I u=>q I u⟩) (SqL.of j) G ω d fun J v a=>k D J v d a)
end
end K24
end
section
namespace K24
open PySem L2
section
variable{P:Program}{w:World}{K:Ag}{mg:Str->Option Value}{base:Heap}
def M6{H2:Hp}{w L2 D:Addr}{rs ss:List Addr}{tb ub:Ξ}{Q:VK}{g:List Int->List Int->List Int}{te:TE}{c:List (Option V)}(I:∀(o u:Addr)(os us:List Int)(H:Hp)(R:VK),Same H2 H->H o=some (.lst (os.map V.int))->H u=some (.lst (us.map V.int))->os∈tb->us∈ub->(∀d H',Same H H'->H d=none->H' d=some (.lst ((g os us).map V.int))->R (.ref d) H')->te (some (.ref o)::some (.ref u)::c) H R)(h1:H2 w=some (.lst (rs.map V.ref)))(h2:H2 L2=some (.lst (ss.map V.ref)))(r:Rws H2 rs tb)(s:Rws H2 ss ub)(hz:ub.length<=1000)(v:H2 D=none)(k:∀a ds,Same H2 a->a D=some (.lst (ds.map V.ref))->Rws a ds (Av g tb ub)->ds.Nodup->(∀d∈ds,H2 d=none/\d≠D)->Q (.ref D) a):dr (ey K w L2) (bT K 2 (ci (zQ 0) (ci (zQ 1) bR))) bE te (none::none::c) H2 D Q:=by
 have F:=r.len;have G:=s.len;refine Ep (K:=K) (xs:=rs.map V.ref) (ys:=ss.map V.ref) (fun i σ zs a=>∃(h j:Option V)(ds:List Addr),σ=h::j::c/\Same H2 a/\a D=some (.lst zs)/\zs=ds.map V.ref/\Rws a ds ((Av g tb ub).take i)/\ds.Nodup/\∀d∈ds,H2 d=none/\d≠D)
  ⟨none,none,[],rfl,Same.new v,ac,rfl,.nil,.nil,fun d hd=>nomatch hd⟩ (fun i σ zs a ⟨_,_,_,_,sm,_⟩=>⟨SqL.of (sm _ _ h1),SqL.of (sm _ _ h2)⟩) ?_ ?_
 ·rintro i σ zs a y J L e1 e2 hi z ⟨h,j,ds,rfl,e,b,rfl,hr,l,p⟩ q
  obtain⟨o,g1,rfl⟩:=kw e1;obtain⟨u,g2,rfl⟩:=kw e2;obtain⟨os,f1,A⟩:=r.get g1;obtain⟨us,f2,C⟩:=s.get g2;have sp:=Same.new (o:=.tup [V.ref o,V.ref u]) q;refine⟨y,_,rfl,SqT.of ac,rfl,_,_,rfl,_,_,rfl,rfl,gG ?_⟩;refine I o u os us _ _ (e.trans sp) (sp _ _ (e _ _ A)) (sp _ _ (e _ _ C)) (An f1) (An f2) fun d M f hd x=>?_;obtain⟨r1,r2,E⟩:=El (D:=D) (o:=.lst (ds.map V.ref++[.ref d])) (e.trans sp) (hr.same sp) l p f hd (by rw[sp _ _ b];simp) x;refine b6 (Ae (Nat.min_le_right _ _) (by rw[Aa];exact zA ω)) hi z ((sp.trans f) _ _ b) ⟨_,_,ds++[d],rfl,((e.trans sp).trans f).then v,ac,by simp,?_,r2,E⟩;have e3:(Av g tb ub)[i]?=some (g os us):=by rw[List.getElem?_zipWith,f1,f2]
  rw[take_snoc e3];exact r1
 ·rintro σ zs a ⟨h,j,ds,rfl,e,b,rfl,hr,l,p⟩
  rw[Ax (by simp[F,G])] at hr;exact k a ds e b hr l p
end
end K24
end
section
namespace K24
open PySem L2
abbrev CU:Stmt:=top 16
def fZ(ns:List Int)(m:Int):Bool:=!decide (m<(ns.length:Int))&&(ns.all fun x=>decide (0<x))&&(Av (fun a b=>decide (b%a=0)) ns (ns.drop 1)).all id
section
variable{P:Program}{w:World}{K:Ag}{mg:Str->Option Value}{base:Heap}
def M7{H2:Hp}{L D:Addr}{ns:List Int}{Q:VK}{f:Int->Bool}{te:TE}{c:List (Option V)}(h:∀(x:Int)(H:Hp)(R:VK),x∈ns->R (.bl (f x)) H->te (some (.int x)::c) H R)(i:H2 L=some (.lst (ns.map V.int)))(hz:ns.length<=1000)(e:H2 D=none)(k:∀b,Same H2 b->b D=some (.lst ((ns.map f).map V.bl))->Q (.ref D) b):dr (gt K L) (zQ 0) bE te (none::c) H2 D Q:=by
 refine mB (xs:=ns.map V.int) (fun j σ ys b=>∃(v:Option V),σ=v::c/\Same H2 b/\b D=some (.lst ys)/\ys=((ns.take j).map f).map V.bl) ⟨none,rfl,Same.new e,ac,rfl⟩ ?_ ?_ ?_
 ·rintro j σ ys b ⟨v,rfl,sm,a,rfl⟩
  exact SqL.of (sm _ _ i)
 ·rintro j σ ys b x hx g hy ⟨v,rfl,sm,a,rfl⟩
  obtain⟨y,d,rfl⟩:=ig hx;refine dy (h y b _ (An d) (b6 (by rw[Aa];exact zA ω) g hy a ⟨_,rfl,sm.then e,ac,?_⟩));rw[take_snoc d,AD,AD];rfl
 ·rintro σ ys b ⟨v,rfl,sm,a,rfl⟩
  rw[Aa,Ax (Ad _)] at a;exact k b sm a
def M8{H2:Hp}{r o D:Addr}{rn on:List Int}{f:Int->Int->Bool}{te:TE}{c:List (Option V)}{Q:VK}(v:∀(a b:Int)(H:Hp)(R:VK),a∈rn->b∈on->R (.bl (f a b)) H->te (some (.int a)::some (.int b)::c) H R)(h1:H2 r=some (.lst (rn.map V.int)))(h2:H2 o=some (.lst (on.map V.int)))(n2:on.length<=1000)(s:H2 D=none)(k:∀d,Same H2 d->d D=some (.lst ((Av f rn on).map V.bl))->Q (.ref D) d):dr (ey K r o) (bT K 2 (ci (zQ 0) (ci (zQ 1) bR))) bE te (none::none::c) H2 D Q:=by
 refine Ep (K:=K) (xs:=rn.map V.int) (ys:=on.map V.int) (fun i σ zs d=>∃j l,σ=j::l::c/\Same H2 d/\d D=some (.lst zs)/\zs=((Av f rn on).take i).map V.bl)
  ⟨none,none,rfl,Same.new s,ac,rfl⟩ (fun i σ zs d ⟨_,_,_,sm,_⟩=>⟨SqL.of (sm _ _ h1),SqL.of (sm _ _ h2)⟩) ?_ ?_
 ·rintro i σ zs d u w x e1 e2 hi hz ⟨j,l,rfl,h,e,rfl⟩ g
  obtain⟨p,g1,rfl⟩:=ig e1;obtain⟨q,g2,rfl⟩:=ig e2;refine⟨u,_,rfl,SqT.of ac,rfl,_,_,rfl,_,_,rfl,rfl,gG ?_⟩;refine v p q _ _ (An g1) (An g2) (b6 (Ae (Nat.min_le_right _ _) (by rw[Aa];exact zA ω)) hi hz (by rw[al (zl e g)];exact e) ⟨_,_,rfl,?_,ac,?_⟩)
  ·exact(h.then (h.free g)).then s
  ·have e3:(Av f rn on)[i]?=some (f p q):=by rw[List.getElem?_zipWith,g1,g2]
   rw[take_snoc e3,AD];rfl
 ·rintro σ zs d ⟨j,l,rfl,h,e,rfl⟩
  refine k d h ?_;rw[e,Ax (by simp)]
end
end K24
end
section
namespace K24
open PySem L2
section
variable{P:Program}{w:World}{K:Ag}{mg:Str->Option Value}{base:Heap}
def Ix:Sp:=fun vs H Q _=>∃(L:Addr)(ns:List Int)(m:Int),vs=[.ref L,.int m]/\H L=some (.lst (ns.map V.int))/\ns.length<=1000/\∀H',Same H H'->Q (.bl (fZ ns m)) H'
def M9:zo ["steps","most"] ["steps","most"] (zf CU):=⟨rfl,rfl,rfl,δ,rfl,δ,δ⟩
def M_{f:Addr}{fd:FuncData}(F:Fun K "are_steps" "are_steps" CU f fd)(bl:mg "len"=none)(v:mg "all"=none)(N:mg "zip"=none):ah P w K mg base au 1 f fd ["steps","most"] Ix:=by
 refine F.ok M9 (fun vs H Q E h=>?_) (fun W A outer s H vs Q E hr h=>?_)
 ·obtain⟨L,ns,m,rfl,_⟩:=h;rfl
 ·obtain⟨L,ns,m,rfl,j,hz,k⟩:=h
  refine⟨_,zc (cv (PW.pt (gb (zr iZ (zn zk rfl bl cR (za (pv 0) zb)) (pv 1) (ap _))
    (kh (gX (fT (zn (ol rfl) rfl v oM (za (zz ["steps","most"] ["step"] [none] (zO (pv 0)) (fun l C s₀ H₀ ex=>zm (i:=0) (bC ["step"]) rfl (Or.inl rfl)) (fun l C s₀ H₀ ex=>zB)
     (fun l C s₀ H₀ ex=>hH iZ (pv 0) zd (ap _)) (hfr:=cz δ)) zb))))))) (zh (zq fH)) zI)
   (zh (zq (zn (ol rfl) rfl v oM (za (zz ["steps","most"] ["low","high"] [none,none] (kA rfl N jm (za (pv 0) (za (tZ Cf (pv 0) (tP zd) tK) zb)))
    (fun l C s₀ H₀ ex=>gi rfl (zE (zm (i:=0) (bC ["low","high"]) rfl (Or.inl rfl)) (zE (zm (i:=1) (bC ["low","high"]) rfl (Or.inl rfl)) gg))) (fun l C s₀ H₀ ex=>zB)
    (fun l C s₀ H₀ ex=>hH dO (zF je (pv 1) (pv 0)) zd (ap _)) (hfr:=cz δ) (g:=bT K 2 (ci (zQ 0) (ci (zQ 1) bR)))) zb)))),?_⟩
  refine⟨_,rfl,L,_,rfl,.inl (SqL.of j),_,rfl,_,_,rfl,rfl,_,rfl,?_⟩;rw[Aa]
  by_cases c:m<(ns.length:Int)
  ·rw[decide_eq_true c]
   refine aR (aR ?_);have:fZ ns m=false:=by unfold fZ;rw[decide_eq_true c];rfl
   rw[this] at k;exact k H (Same.refl H)
  rw[decide_eq_false c];refine aI ⟨_,rfl,L,rfl,⟨_,SqL.of j⟩,fun D y=>zD (M7 (f:=fun x=>decide (0<x)) (fun x H' R _ q=>⟨_,rfl,_,_,rfl,rfl,q⟩) j hz y fun O p r=>⟨D,_,rfl,SqL.of r,_,rfl,?_⟩)⟩
  by_cases d:(ns.map fun x=>decide (0<x)).all id=true
  ·rw[d]
   refine aI ⟨_,rfl,_,rfl,_,rfl,L,_,rfl,SqL.of (p _ _ j),fun S z=>?_⟩;rw[show(some (1:Int))=some ((1:Nat):Int) from rfl,mY,<-List.map_drop];have u:=Same.new (o:=.lst ((ns.drop 1).map V.int)) z;have pos:∀x∈ns,0<x:=fun x hx=>by
    rw[List.all_map,Be] at d;exact of_decide_eq_true (d x hx)
   refine⟨L,S,rfl,⟨_,SqL.of ((p.trans u) _ _ j)⟩,⟨_,SqL.of ac⟩,fun T G=>zD (M8 (f:=fun a b=>decide (b%a=0)) (fun a b H' R I hb q=>?_) ((p.trans u) _ _ j) ac (by rw[List.length_drop];(first|lia|omega)) G fun U J M=>⟨T,_,rfl,SqL.of M,?_⟩)⟩
   ·refine⟨_,rfl,_,rfl,_,_,rfl,rfl,pos a I,rfl,?_⟩
    rw[show decide (V.int (b%a)=V.int 0)=decide (b%a=0) from by rw[Bool.eq_iff_iff];simp];exact q
   ·have e:fZ ns m=(Av (fun a b=>decide (b%a=0)) ns (ns.drop 1)).all id:=by
     unfold fZ;rw[List.all_map] at d;rw[decide_eq_false c,show(ns.all fun x=>decide (0<x))=true from d];rfl
    rw[e] at k;exact k U ((p.trans u).trans J)
  ·rw[Bool.eq_false_iff.mpr d]
   refine aR ?_;have:fZ ns m=false:=by
    unfold fZ;rw[List.all_map] at d;rw[show(ns.all fun x=>decide (0<x))=false from Bool.eq_false_iff.mpr d,Bool.and_false];rfl
   rw[this] at k;exact k O p
end
end K24
end
section
namespace K24
open PySem L2
abbrev ez:Stmt:=top 24
def M'(xs:List V)(n:Nat):cZ xs none (some (n:Int))=xs.take n:=by
 unfold cZ;rw[HT.Gy,HT.Gz,List.drop_zero,Nat.sub_zero];rcases Nat.le_total n xs.length with h|h
 ·rw[Nat.min_eq_left h]
 ·rw[Nat.min_eq_right h,Ax (Ad _),Ax h]
structure NT(H H':Hp)(a:Addr)(ds:List Addr)(tb:Ξ):Prop where
 at_:H' a=some (.lst (ds.map V.ref))
 rows:Rws H' ds tb
 nd:ds.Nodup
 na:H a=none
 nw:∀d∈ds,H d=none/\d≠a
def NT.same{H H' H2:Hp}{a:Addr}{ds:List Addr}{tb:Ξ}(h:NT H H' a ds tb)(s:Same H' H2):NT H H2 a ds tb:=⟨s _ _ h.at_,h.rows.same s,h.nd,h.na,h.nw⟩
def NT.old{H0 H H':Hp}{a:Addr}{ds:List Addr}{tb:Ξ}(h:NT H H' a ds tb)(s:Same H0 H):NT H0 H' a ds tb:=⟨h.at_,h.rows,h.nd,s.free h.na,fun d hd=>⟨s.free (h.nw d hd).1,(h.nw d hd).2⟩⟩
def cat(tb ub:Ξ):Ξ:=Av (·++·) tb ub
def i9(n:Nat)(sh a:Ξ):Ξ:=(Ah n).map fun j=>gK n (colAt sh j) a
structure Iy(N M X B Y m n:Nat)(tb ub bc:Ξ):Prop where
 l1:tb.length=n
 l2:ub.length=n
 l3:bc.length=n
 w1:∀r∈tb,r.length=m
 w3:∀r∈bc,r.length=n
 n64:n<=40
 m64:m<=500
 w2:∀r∈ub,r.length=n
 ech:Ip N M X B Y (m+n) (cat tb ub)
 shr:∀P fr,Tb.FS N M X B ((cat tb ub).map vc) P (vF fr)->Wid (m+n) P fr->∀r∈cat tb ub,kR fr (m+n) r P
 mul:∀P fr,Tb.FS N M X B ((cat tb ub).map vc) P (vF fr)->Wid (m+n) P fr->∀r∈cat tb ub,∀x∈shrL fr r P,∀row∈bc,∀y∈row,eC (-x) y
section
variable{P:Program}{w:World}{K:Ag}{mg:Str->Option Value}{base:Heap}
def Iz:Sp:=fun vs H Q _=>∃(t a b c:Addr)(f g h:List Addr)(tb ub d:Ξ)(N M X B Y m n:Nat),vs=[.ref t,.int m]/\H t=some (.tup [.ref a,.ref b,.ref c])/\H a=some (.lst (f.map V.ref))/\H b=some (.lst (g.map V.ref))/\H c=some (.lst (h.map V.ref))/\Rws H f tb/\Rws H g ub/\Rws H h d/\Iy N M X B Y m n tb ub d/\
 ∀P fr t' a' b' e i j l H',Tb.FS N M X B ((cat tb ub).map vc) P (vF fr)->Wid (m+n) P fr->Same H H'->H' t'=some (.tup [.ref a',.ref b',.ref e])->NT H H' a' i (P.map fun p=>(fr p).take m)->NT H H' b' j (P.map fun p=>(fr p).drop m)->NT H H' e l (i9 n ((cat tb ub).map fun r=>shrL fr r P) d)->Q (.ref t') H'
def xo:zo ["side","width","rows","found","fresh","shares"] ["side","width"] (zf ez):=⟨rfl,rfl,rfl,δ,rfl,δ,δ⟩
def Na{H2:Hp}{L D a:Addr}{es:List (Nat×Addr)}{fr:Nat->List Int}{ps:List Nat}{Q:VK}{te:TE}{c:List (Option V)}(l:Fnd H2 a es fr)(E:∀p∈ps,p∈es.map (·.1))(F:∀(p:Nat)(d:Addr)(H:Hp)(R:VK),Same H2 H->DGet H a (.int p) (some (.ref d))->R (.ref d) H->te (some (.int p)::c) H R)(G:H2 L=some (.lst (ps.map fun p:Nat=>V.int (p:Int))))(hz:ps.length<=1000)(g:H2 D=none)(k:∀b ds,Same H2 b->b D=some (.lst (ds.map V.ref))->Rws b ds (ps.map fr)->Q (.ref D) b):dr (gt K L) (zQ 0) bE te (none::c) H2 D Q:=by
 refine mB (xs:=ps.map fun p:Nat=>V.int (p:Int)) (fun j σ ys b=>∃(v:Option V)(ds:List Addr),σ=v::c/\Same H2 b/\b D=some (.lst ys)/\ys=ds.map V.ref/\Rws b ds ((ps.take j).map fr)) ⟨none,[],rfl,Same.new g,ac,rfl,.nil⟩ ?_ ?_ ?_
 ·rintro j σ ys b ⟨v,ds,rfl,sm,f,rfl,_⟩
  exact SqL.of (sm _ _ G)
 ·rintro j σ ys b x hx s hy ⟨v,ds,rfl,sm,f,rfl,hr⟩
  obtain⟨p,hp,rfl⟩:∃p,ps[j]?=some p/\x=V.int (p:Int):=by
   rw[Aj] at hx;cases e:ps[j]? with
   |none=>rw[e] at hx;cases hx
   |some p=>rw[e] at hx;cases hx;exact⟨p,rfl,rfl⟩
  obtain⟨d,hd,u,w⟩:=(l.same sm).get (E p (An hp));refine dy (F p d b _ sm u (b6 (by rw[Aa];exact zA ω) s hy f ⟨_,ds++[d],rfl,sm.then g,ac,by simp,?_⟩));rw[take_snoc hp,AD];have A:∀e∈ds++[d],e≠D:=fun e r z=>by
   subst z;rcases List.mem_append.mp r with h|h
   ·obtain⟨i,hi⟩:=List.mem_iff_getElem?.mp h
    obtain⟨ns,e1,e2⟩:=hr.get hi;rw[f] at e2;have e2:=AV e2;injection e2 with e2
    have C:ds.length≠0:=fun z=>by rw[List.length_eq_zero_iff.mp z] at h;cases h
    cases ds with
    |nil=>cases h
    |cons q ds=>cases ns with
     |nil=>cases e2
     |cons n ns=>rw[A5,A5] at e2;cases e2
   ·obtain rfl:e=d:=by simpa using h
    obtain⟨_,y⟩:∃o,H2 e=some o:=⟨_,l.rows _ hd⟩;rw[y] at g;cases g
  exact((hr.snoc w).upd A)
 ·rintro σ ys b ⟨v,ds,rfl,sm,f,rfl,hr⟩
  rw[Aa,Ax (Ad _)] at hr;exact k b ds sm f hr
def Nb{f fe fc fm fs:Addr}{fd l7 aU bP ax:FuncData}(F:Fun K "straightened" "straightened" ez f fd)(bz:mg "zip"=none)(bs:mg "sorted"=none)(Fe:Fun K "echelon_of" "echelon_of" jK fe l7)(be:Binds K l7 ["rows"] [])(me:mg "echelon_of"=some (.ref fe))(Ge:ah P w K mg base au 4 fe l7 ["rows"] Iq)(Fc:Fun K "columns_of" "columns_of" oT fc aU)(bc:Binds K aU ["table"] [])(mc:mg "columns_of"=some (.ref fc))(Gc:ah P w K mg base au 3 fc aU ["table"] (Cu K))(Fm:Fun K "mix_of" "mix_of" jM fm bP)(bm:Binds K bP ["numbers","rows"] [])(mm:mg "mix_of"=some (.ref fm))(Gm:ah P w K mg base au 2 fm bP ["numbers","rows"] E4)(Fs:Fun K "shares_of" "shares_of" jy fs ax)(bh:Binds K ax ["row","found"] [])(ms:mg "shares_of"=some (.ref fs))(Gs:ah P w K mg base au 2 fs ax ["row","found"] Ey):ah P w K mg base au 5 f fd ["side","width"] Iz:=by
 refine F.ok xo (fun vs H Q E h=>?_) (fun ai A outer s H vs Q E hr h=>?_)
 ·obtain⟨t,a,b,c,da,db,dc,tb,ub,bb,N,M,X,B,Y,m,n,rfl,_⟩:=h;rfl
 ·obtain⟨t,a,b,c,da,db,dc,tb,ub,bb,N,M,X,B,Y,m,n,rfl,ht,ha,hb,hc,ra,rb,rc,ok,k⟩:=h
  have hu:=Ck hr;have hr3:Room 3 _:=hr.mono ξ;have hr2:Room 2 _:=hr.mono ξ;refine⟨_,zc (mH (i:=2) xo.nd rfl (Or.inl rfl) ["side","width","rows","found","fresh","shares"] ["row","turn"] [none,none] (kA rfl bz jm (za (zw zC (pv 0) zd (fun _ _=>rfl)) (za (zw zC (pv 0) zd (fun _ _=>rfl)) zb)))
    (fun v C s₀ H₀ ex=>gi rfl (zE (zm (i:=0) (bC ["row","turn"]) rfl (Or.inl rfl)) (zE (zm (i:=1) (bC ["row","turn"]) rfl (Or.inl rfl)) gg))) (fun v C s₀ H₀ ex=>zB)
    (fun v C s₀ H₀ ex=>zF KM (pv 0) (pv 1)) (te:=cy t4 (ar 0) (ar 1)) (hfr:=cz δ) (g:=bT K 2 (ci (zQ 0) (ci (zQ 1) bR))))
   (zc (zp (i:=3) xo.nd rfl (Or.inr rfl) (ze Ge hr rfl me Fe.kp be .nil af (za (pv 2) zb)))
   (zc (mH (i:=4) xo.nd rfl (Or.inl rfl) ["side","width","rows","found","fresh","shares"] ["place","found"] [none,some 3] (zO (zn (vU rfl) rfl bs v' (za (pv 3) zb))) (fun v C s₀ H₀ ex=>zm (i:=0) (bC ["place","found"]) rfl (Or.inl rfl)) (fun v C s₀ H₀ ex=>zB)
    (fun v C s₀ H₀ ex=>mj hu (pv 1) (pv 0) (fun _ _=>rfl)) (hfr:=a9 (zf ez) δ))
   (zc (mH (i:=5) xo.nd rfl (Or.inl rfl) ["side","width","rows","found","fresh","shares"] ["row","found"] [none,some 3] (zO (pv 2)) (fun v C s₀ H₀ ex=>zm (i:=0) (bC ["row","found"]) rfl (Or.inl rfl)) (fun v C s₀ H₀ ex=>zB)
    (fun v C s₀ H₀ ex=>ze Gs hr2 rfl ms Fs.kp bh .nil af (za (pv 0) (za (pv 1) zb))) (te:=eX Ey [] E0 (zZ (ar 0) (zZ (ar 1) bD))) (hfr:=a9 (zf ez) δ))
   (zh (zq (hO (za
    (zz ["side","width","rows","found","fresh","shares"] ["row","width"] [none,some 1] (zO (pv 4)) (fun v C s₀ H₀ ex=>zm (i:=0) (bC ["row","width"]) rfl (Or.inl rfl)) (fun v C s₀ H₀ ex=>zB)
     (fun v C s₀ H₀ ex=>tZ Cf (pv 0) tK (tP (pv 1))) (te:=DU (ma K) (ar 0) DR (DS (ar 1))) (hfr:=a9 (zf ez) δ))
    (za (zz ["side","width","rows","found","fresh","shares"] ["row","width"] [none,some 1] (zO (pv 4)) (fun v C s₀ H₀ ex=>zm (i:=0) (bC ["row","width"]) rfl (Or.inl rfl)) (fun v C s₀ H₀ ex=>zB)
     (fun v C s₀ H₀ ex=>tZ Cf (pv 0) (tP (pv 1)) tK) (te:=DU (ma K) (ar 0) (DS (ar 1)) DR) (hfr:=a9 (zf ez) δ))
    (za (zz ["side","width","rows","found","fresh","shares"] ["numbers","side"] [none,some 0] (zO (ze Gc hr3 rfl mc Fc.kp bc .nil af (za (pv 5) zb))) (fun v C s₀ H₀ ex=>zm (i:=0) (bC ["numbers","side"]) rfl (Or.inl rfl)) (fun v C s₀ H₀ ex=>zB)
     (fun v C s₀ H₀ ex=>ze Gm hr2 rfl mm Fm.kp bm .nil af (za (pv 0) (za (zw zC (pv 1) zd (fun _ _=>rfl)) zb))) (te:=eX E4 [] E0 (zZ (ar 0) (zZ (cy (l8 K) (ar 1) (tC (.int 2))) bD))) (hfr:=a9 (zf ez) δ)) zb))))))))),?_⟩
  refine⟨_,rfl,t,_,_,_,rfl,rfl,SqT.of ht,zi (j:=0) rfl,_,rfl,t,_,_,_,rfl,rfl,SqT.of ht,zi (j:=1) rfl,a,b,rfl,⟨_,SqL.of ha⟩,⟨_,SqL.of hb⟩,fun R hR=>zD (M6 (g:=fun x y=>x++y) (fun o u os us H' R sm G kZ gF eN hk=>?_) ha hb ra rb (by have:=ok.l2;have:=ok.n64;(first|lia|omega)) hR fun H1 rs s1 jU I _ _=>?_)⟩
  ·refine⟨_,rfl,_,rfl,o,u,_,_,rfl,rfl,G,kZ,?_,fun p hp=>?_⟩
   ·rw[Aa,Aa,ok.w1 os gF,ok.w2 us eN,sizeLine_eq];have:=ok.n64;have:=ok.m64;(first|lia|omega)
   ·rw[<-AD]
    exact hk p _ (Same.new hp) hp ac
  have I:Rws H1 rs (cat tb ub):=I;refine⟨_,rfl,R,rs,cat tb ub,N,M,X,B,Y,m+n,rfl,jU,I,ok.ech,fun a1 H2 es fr PP s2 y3 F2 jq kf FS=>?_⟩;have lc:(cat tb ub).length=n:=by unfold cat;rw[Au,ok.l1,ok.l2,Nat.min_self]
  have lP:PP.length=n:=by rw[FS.len,Aa,lc]
  have le:es.length<64:=by have:=jq.len;have:=ok.n64;(first|lia|omega)
  refine⟨_,rfl,a1,eS es,rfl,F2.at_,(by simpa using le),fun PL ms pm so c9=>?_⟩;rw[jq.ints pm so];have kM:=Same.new (o:=.lst (PP.map fun p:Nat=>V.int (p:Int))) c9;refine⟨PL,rfl,⟨_,SqL.of ac⟩,fun FD vO=>zD (Na (F2.same kM) (fun p hp=>jq.pm.mem_iff.mp hp) (fun p d H' R sm gd hk=>⟨_,rfl,_,rfl,a1,_,rfl,gd,hk⟩) ac (by have:=ok.n64;(first|lia|omega)) vO fun H3 fs s3 d_ om=>?_)⟩;have aY:=(s2.trans kM).trans s3;have F3:=(F2.same kM).same s3;refine⟨_,rfl,R,rfl,⟨_,SqL.of (aY _ _ jU)⟩,fun SD tN=>zD (vv (g:=fun r=>shrL fr r PP) (fun o os H' R' sm G W hk=>?_) (SqL.of (aY _ _ jU)) (I.same aY) (by rw[lc];have:=ok.n64;(first|lia|omega)) tN fun H4 ss J kI vw _ _=>?_)⟩
  ·exact⟨_,rfl,_,rfl,o,a1,os,es,fr,PP,m+n,rfl,G,F3.same sm,jq,le,ok.shr PP fr FS kf os W,hk⟩
  have nR:=(s1.trans aY).trans J;refine⟨_,rfl,FD,rfl,⟨_,SqL.of (J _ _ d_)⟩,fun A1 oN=>zD (vv (g:=fun r=>r.take m) (fun o os H' R' sm G W hk=>?_) (SqL.of (J _ _ d_)) (om.same J) (by rw[Aa,lP];have:=ok.n64;(first|lia|omega)) oN fun H5 d5 S x8 r5 n5 w5=>?_)⟩
  ·refine⟨_,rfl,_,rfl,_,rfl,o,_,rfl,SqL.of G,fun q hq=>?_⟩
   rw[M',<-List.map_take];exact hk q _ (Same.new hq) hq ac
  refine⟨_,rfl,FD,rfl,⟨_,SqL.of ((J.trans S) _ _ d_)⟩,fun A2 pS=>zD (vv (g:=fun r=>r.drop m) (fun o os H' R' sm G W hk=>?_) (SqL.of ((J.trans S) _ _ d_)) (om.same (J.trans S)) (by rw[Aa,lP];have:=ok.n64;(first|lia|omega)) pS fun H6 d6 s6 t8 r6 n6 w6=>?_)⟩
  ·refine⟨_,rfl,_,rfl,_,rfl,o,_,rfl,SqL.of G,fun q hq=>?_⟩
   rw[mY,<-List.map_drop];exact hk q _ (Same.new hq) hq ac
  have ic:=S.trans s6;have sQ:=nR.trans ic;have ib:((cat tb ub).map fun r=>shrL fr r PP).length=n:=by rw[Aa,lc]
  have L:∀r∈(cat tb ub).map (fun r=>shrL fr r PP),r.length=n:=fun r hr=>by
   obtain⟨q,_,rfl⟩:=List.mem_map.mp hr;rw[wa,lP]
  have D:wid ((cat tb ub).map fun r=>shrL fr r PP)=n:=by
   cases e:(cat tb ub).map (fun r=>shrL fr r PP) with
   |nil=>rw[e] at ib;exact ib
   |cons x l=>rw[e] at L;exact L x (AM ..)
  have tsh:cH ((cat tb ub).map fun r=>shrL fr r PP)=true:=by
   unfold cH;rw[D,ib,decide_eq_true ok.n64];simp only[Bool.and_self,Bool.true_and,Be];exact fun r hr=>decide_eq_true (L r hr)
  refine⟨_,rfl,SD,ss,_,rfl,SqL.of (ic _ _ kI),vw.same ic,tsh,fun CD H7 cs Z yW hJ pC _ _=>⟨CD,rfl,⟨_,SqL.of hJ⟩,fun A3 ox=>?_⟩⟩;have gZ:=sQ.trans Z;have et:turn ((cat tb ub).map fun r=>shrL fr r PP)=(Ah n).map (colAt ((cat tb ub).map fun r=>shrL fr r PP)):=by unfold turn;rw[D]
  rw[et] at pC;have tF:∀r∈bb,r.length=wid bb:=fun r hr=>by
   cases e:bb with
   |nil=>rw[e] at hr;cases hr
   |cons x l=>rw[ok.w3 r hr];exact(ok.w3 x (by rw[e];exact AM ..)).symm
  have wb:wid bb=n:=by
   cases e:bb with
   |nil=>have:=ok.l3;rw[e] at this;exact this
   |cons x l=>exact ok.w3 x (by rw[e];exact AM ..)
  refine zD (vv (g:=fun ns=>gK n ns bb) (fun o os H' R' sm G W hk=>?_) (SqL.of hJ) pC (by rw[Aa,AY];have:=ok.n64;(first|lia|omega)) ox fun H8 d8 s8 uC r8 n8 w8=>?_)
  ·have kD:=gZ.trans sm
   refine⟨_,rfl,_,rfl,t,_,_,_,rfl,rfl,SqT.of (kD _ _ ht),zi (j:=2) rfl,o,c,os,dc,bb,rfl,G,kD _ _ hc,rc.same kD,by rw[wb];have:=ok.n64;(first|lia|omega),tF,fun z hz y hy=>?_,by rw[wb];exact hk⟩;obtain⟨z1,z2⟩:=List.of_mem_zip hz;obtain⟨j,hj,rfl⟩:=List.mem_map.mp W;have z1:z.1∈((cat tb ub).map fun r=>shrL fr r PP).map fun r=>r.getD j 0:=z1;obtain⟨sr,yh,e1⟩:=List.mem_map.mp z1;obtain⟨r,hr,rfl⟩:=List.mem_map.mp yh;refine ok.mul PP fr FS kf r hr z.1 ?_ z.2 z2 y hy;have hj:=List.mem_range.mp hj;have uE:j<(shrL fr r PP).length:=by rw[wa,lP];exact hj
   rw[<-e1,Ac,Ab uE];exact Ap _
  ·have nO:=(s6.trans Z).trans s8
   have p5:=Z.trans s8;have U:∀{x},H4 x=none->H x=none:=fun h=>nR.free h;refine⟨by show 3<=sizeLine;decide,fun T hT=>?_⟩;have O:=Same.new (o:=.tup [V.ref A1,V.ref A2,V.ref A3]) hT;rw[AS] at r5 r6 r8;refine k PP fr T A1 A2 A3 d5 d6 d8 _ FS kf ((gZ.trans s8).trans O) ac ⟨O _ _ (nO _ _ x8),(r5.same nO).same O,n5,U oN,fun d hd=>⟨U (w5 d hd).1,(w5 d hd).2⟩⟩ ⟨O _ _ (p5 _ _ t8),(r6.same p5).same O,n6,U (S.free pS),fun d hd=>⟨U (S.free (w6 d hd).1),(w6 d hd).2⟩⟩ ⟨O _ _ uC,r8.same O,n8,U (ic.free (Z.free ox)),fun d hd=>⟨U (ic.free (Z.free (w8 d hd).1)),(w8 d hd).2⟩⟩
end
end K24
end
section
namespace K24
open PySem L2
abbrev CV:Stmt:=top 34
def rowAt(tb:Ξ)(i:Nat):List Int:=tb.getD i []
def slT(tb:Ξ)(r:Nat):Nat->Ξ
 |0=>tb
 |n+1=>(slT tb r n).set (r-2-n) (dF (rowAt (slT tb r n) (r-2-n)) (-1) (rowAt (slT tb r n) (r-1-n)))
def slB(tb:Ξ)(r:Nat):Nat->Ξ
 |0=>tb
 |n+1=>(slB tb r n).set (r-1-n) (dF (rowAt (slB tb r n) (r-1-n)) 1 (rowAt (slB tb r n) (r-2-n)))
def m6{tb:Ξ}{r:Nat}:∀n,(slT tb r n).length=tb.length
 |0=>rfl
 |n+1=>by show List.length (List.set _ _ _)=_;rw[List.length_set];exact m6 n
def xp{tb:Ξ}{r:Nat}:∀n,(slB tb r n).length=tb.length
 |0=>rfl
 |n+1=>by show List.length (List.set _ _ _)=_;rw[List.length_set];exact xp n
structure Wk(H0:Hp)(Z:List Addr)(H:Hp)(R:Addr)(rs:List Addr)(tb:Ξ):Prop where
 at_:H R=some (.lst (rs.map V.ref))
 rows:Rws H rs tb
 nd:rs.Nodup
 nw:∀d∈rs,H0 d=none/\∀z∈Z,d≠z
section
variable{H0 H H':Hp}{Z:List Addr}{R R':Addr}{rs:List Addr}{tb:Ξ}
def Wk.same(h:Wk H0 Z H R rs tb)(s:Same H H'):Wk H0 Z H' R rs tb:=⟨s _ _ h.at_,h.rows.same s,h.nd,h.nw⟩
def Wk.get(h:Wk H0 Z H R rs tb){i:Nat}(hi:i<tb.length):∃d,rs[i]?=some d/\(rs.map V.ref)[i]?=some (V.ref d)/\H d=some (.lst ((rowAt tb i).map V.int)):=by
 have a:=h.rows.len;obtain⟨ns,e1,e2⟩:=h.rows.get (Ab (show i<rs.length from ω));refine⟨rs[i]'ω,Ab _,by rw[Aj,Ab (show i<rs.length from ω)];rfl,?_⟩;unfold rowAt;rw[Ac,e1];exact e2
def Wk.other(h:Wk H0 Z H R' rs tb)(hz:R∈Z)(ne:R'≠R){o:HO}:Wk H0 Z (upd H R o) R' rs tb:=⟨by rw[al ne];exact h.at_,h.rows.upd fun d hd=>(h.nw d hd).2 R hz,h.nd,h.nw⟩
def Nc{l:List Addr}{i:Nat}{d:Addr}(h:l.Nodup)(hd:d∉l):(l.set i d).Nodup:=by
 rw[List.Nodup,List.pairwise_iff_getElem];intro a b e hb g;rw[List.length_set] at e hb;have f:∀c(hc:c<l.length),l[c]≠d:=fun c hc z=>hd (z▸Ap hc);rw[List.getElem_set,List.getElem_set];have:=List.pairwise_iff_getElem.mp h a b e hb g;split
 ·split
  ·(first|lia|omega)
  ·exact(f b hb).symm
 ·split
  ·exact f a e
  ·exact this
def Nd{H:Hp}{rs:List Addr}{tb:Ξ}{d:Addr}{ns:List Int}(h:Rws H rs tb)(e:H d=some (.lst (ns.map V.int))):∀i,Rws H (rs.set i d) (tb.set i ns):=by
 induction h with
 |nil=>intro i;exact .nil
 |cons r t ih=>intro i;cases i with
  |zero=>exact .cons e t
  |succ i=>exact .cons r (ih i)
def Wk.put(h:Wk H0 Z H R rs tb)(b:Same H0 H')(s:Same H H'){d:Addr}{ns:List Int}{H2:Hp}(c:Same H' H2)(hd:H' d=none)(e:H2 d=some (.lst (ns.map V.int)))(hz:R∈Z)(f:∀z∈Z,H' z≠none)(i:Nat):Wk H0 Z (upd H2 R (.lst ((rs.map V.ref).set i (.ref d)))) R (rs.set i d) (tb.set i ns):=by
 have a:d∉rs:=fun z=>(h.same s).rows.there d z hd;have nz:∀z∈Z,d≠z:=fun z hz e=>f z hz (e▸hd);refine⟨by rw[ac,List.map_set],?_,Nc h.nd a,fun x hx=>?_⟩
 ·refine(Nd ((h.rows.same s).same c) e i).upd fun x hx=>?_
  rcases List.mem_or_eq_of_mem_set hx with hx|rfl
  ·exact(h.nw x hx).2 R hz
  ·exact nz R hz
 ·rcases List.mem_or_eq_of_mem_set hx with hx|rfl
  ·exact h.nw x hx
  ·exact⟨b.free hd,nz⟩
end
def Sml(tb:Ξ):Prop:=∀r∈tb,r.length<=1000/\∀x∈r,x.natAbs<big
def IA:(1:Int).natAbs<big:=by
 unfold big;exact Nat.one_lt_two_pow (by have:=jz;(first|lia|omega))
def Sml.at{tb:Ξ}(h:Sml tb){i:Nat}(hi:i<tb.length):(rowAt tb i).length<=1000/\∀x∈rowAt tb i,x.natAbs<big:=by
 refine h _ ?_;unfold rowAt;rw[Ac,Ab hi];exact Ap _
section
variable{P:Program}{w:World}{K:Ag}{mg:Str->Option Value}{base:Heap}
def IB:Sp:=fun vs H Q _=>∃(H0:Hp)(t a b c:Addr)(h i l:List Addr)(tb ub bb:Ξ)(n r:Nat),vs=[.ref t,.int r]/\H t=some (.tup [.ref a,.ref b,.ref c])/\Same H0 H/\NT H0 H a h tb/\NT H0 H b i ub/\NT H0 H c l bb/\tb.length=n/\ub.length=n/\bb.length=n/\1<=r/\r<=n/\n<=1000/\
 (∀j,j<r->Sml (slT tb r j)/\Sml (slT ub r j)/\Sml (slB bb r j))/\
 ∀t' a' b' d e f g H',Same H H'->H' t'=some (.tup [.ref a',.ref b',.ref d])->NT H0 H' a' e (slT tb r (r-1))->NT H0 H' b' f (slT ub r (r-1))->NT H0 H' d g (slB bb r (r-1))->Q (.ref t') H'
def xy:zo ["side","count","rows","turn","back","k"] ["side","count"] (zf CV):=⟨rfl,rfl,rfl,δ,rfl,δ,δ⟩
def E6:A7 "list"=some (.type "list"):=δ
def Nf{f fl:Addr}{fd bL:FuncData}(F:Fun K "slid" "slid" CV f fd)(bg:mg "range"=none)(bs:mg "list"=none)(Fl:Fun K "less" "less" kL fl bL)(bl:Binds K bL ["row","often","other"] [])(ml:mg "less"=some (.ref fl))(Gl:ah P w K mg base au 1 fl bL ["row","often","other"] vI):ah P w K mg base au 2 f fd ["side","count"] IB:=by
 refine F.ok xy (fun vs H Q E h=>?_) (fun ai A outer s H vs Q E hr h=>?_)
 ·obtain⟨H0,t,a,b,c,da,db,dc,tb,ub,bb,n,r,rfl,_⟩:=h;rfl
 ·obtain⟨H0,t,a,b,c,da,db,dc,tb,ub,bb,n,r,rfl,ht,s0,na,nb,nc,l1,l2,l3,r1,rn,n9,rQ,k⟩:=h
  refine⟨_,zc (zp (i:=2) xy.nd rfl (Or.inl rfl) (jg zU rfl bs E6 (za (zw zC (pv 0) zd (fun _ _=>rfl)) zb)))
   (zc (zp (i:=3) xy.nd rfl (Or.inl rfl) (jg zU rfl bs E6 (za (zw zC (pv 0) zd (fun _ _=>rfl)) zb)))
   (zc (zp (i:=4) xy.nd rfl (Or.inl rfl) (jg zU rfl bs E6 (za (zw zC (pv 0) zd (fun _ _=>rfl)) zb)))
   (zc (iw Bb rfl (Ii rfl bg (za (zF gu (pv 1) zd) (za zd (za (lN l6 zd) zb)))) (zm (i:=5) xy.nd rfl (Or.inl rfl))
    (zc (iv (ze Gl hr rfl ml Fl.kp bl .nil af (za (zw zx (pv 2) (zF gu (pv 5) zd) (fun _ _=>rfl)) (za (lN l6 zd) (za (zw zx (pv 2) (pv 5) (fun _ _=>rfl)) zb)))) (iX (pv 2) (zF gu (pv 5) zd) set_list))
    (zc (iv (ze Gl hr rfl ml Fl.kp bl .nil af (za (zw zx (pv 3) (zF gu (pv 5) zd) (fun _ _=>rfl)) (za (lN l6 zd) (za (zw zx (pv 3) (pv 5) (fun _ _=>rfl)) zb)))) (iX (pv 3) (zF gu (pv 5) zd) set_list))
    (zh (iv (ze Gl hr rfl ml Fl.kp bl .nil af (za (zw zx (pv 4) (pv 5) (fun _ _=>rfl)) (za zd (za (zw zx (pv 4) (zF gu (pv 5) zd) (fun _ _=>rfl)) zb)))) (iX (pv 4) (pv 5) set_list))))))
   (zh (zq (hO (za (pv 2) (za (pv 3) (za (pv 4) zb))))))))),?_⟩
  refine⟨_,rfl,t,_,_,_,rfl,rfl,SqT.of ht,zi (j:=0) rfl,a,_,rfl,.inl (SqL.of na.at_),fun R hR=>?_⟩;have I:=Same.new (o:=.lst (da.map V.ref)) hR;refine⟨_,rfl,t,_,_,_,rfl,rfl,SqT.of (I _ _ ht),zi (j:=1) rfl,b,_,rfl,.inl (SqL.of (I _ _ nb.at_)),fun T hT=>?_⟩;have M:=Same.new (o:=.lst (db.map V.ref)) hT;refine⟨_,rfl,t,_,_,_,rfl,rfl,SqT.of ((I.trans M) _ _ ht),zi (j:=2) rfl,c,_,rfl,.inl (SqL.of ((I.trans M) _ _ nc.at_)),fun B hB=>?_⟩;have sB:=Same.new (o:=.lst (dc.map V.ref)) hB;have sZ:=(I.trans M).trans sB;have p_:R≠T:=zl ac hT;have pk:T≠B:=zl ac hB;have nU:R≠B:=zl (M _ _ ac) hB;have dL:H T=none:=I.free hT;have jV:H B=none:=(I.trans M).free hB;have W0:∀{x:Addr}{dx:List Addr}{tx:Ξ}{Y:Addr}{H2:Hp},NT H0 H x dx tx->Same H H2->H2 Y=some (.lst (dx.map V.ref))->Wk H0 [R,T,B] H2 Y dx tx:=fun{x dx tx Y H2} n s e=>
   ⟨e,n.rows.same s,n.nd,fun d hd=>⟨(n.nw d hd).1,fun z hz q=>by
    have y:=n.rows.there d hd;rw[q] at y;simp at hz;rcases hz with rfl|rfl|rfl
    ·exact y hR
    ·exact y dL
    ·exact y jV⟩⟩
  have en:(((r:Nat):Int)-1-0).toNat=r-1:=ω
  refine⟨_,rfl,_,_,rfl,rfl,_,rfl,_,_,rfl,⟨ω,ω,ω,ω⟩,?_⟩;rw[en];refine Ij (fun i σ H2=>∃(v5:Option V)(rs v bs:List Addr),σ=[some (.ref t),some (.int r),some (.ref R),some (.ref T),some (.ref B),v5]/\Same H H2/\Wk H0 [R,T,B] H2 R rs (slT tb r i)/\Wk H0 [R,T,B] H2 T v (slT ub r i)/\Wk H0 [R,T,B] H2 B bs (slB bb r i))
   ⟨none,da,db,dc,rfl,sZ,W0 na sZ ((M.trans sB) _ _ ac),W0 nb sZ (sB _ _ ac),W0 nc sZ ac⟩ ?_ ?_
  ·rintro i σ H2 hi ⟨v5,rs,v,bs,rfl,sm,u,wT,wB⟩
   obtain⟨g,jt⟩:∃g,g=r-2-i:=⟨_,rfl⟩;have e1:((r:Nat):Int)-1-((i:Nat):Int)=((g+1:Nat):Int):=ω
   have e2:((g+1:Nat):Int)-1=((g:Nat):Int):=ω
   have J:r-1-i=g+1:=ω
   obtain⟨mq,vz,aq⟩:=rQ i ω;have lR:(slT tb r i).length=n:=by rw[m6,l1]
   have lT:(slT ub r i).length=n:=by rw[m6,l2]
   have lB:(slB bb r i).length=n:=by rw[xp,l3]
   have p:∀{q:Int}{x:Int},q.natAbs<=1->x.natAbs<big->eC q x:=fun hq hx=>gH (Ao hq IA) hx;have ix:∀{l:List Addr}{j:Nat},j<l.length->hZ (l.map V.ref).length ((j:Nat):Int)=some j:=fun{l j} h=>by unfold hZ;rw[Aa];simp[h]
   have Zin:∀{L:Hp},Same H2 L->∀z∈[R,T,B],L z≠none:=fun{L} s z hz=>by
    simp at hz;rcases hz with rfl|rfl|rfl
    ·rw[s _ _ u.at_];simp
    ·rw[s _ _ wT.at_];simp
    ·rw[s _ _ wB.at_];simp
   obtain⟨d1,g1,U,h1⟩:=u.get (i:=g) ω;obtain⟨d2,g2,W,h2⟩:=u.get (i:=g+1) ω;rw[e1];have G:=mq.at (i:=g+1) ω;refine⟨_,rfl,_,rfl,_,_,rfl,rfl,R,_,_,_,rfl,rfl,SqL.of u.at_,by rw[e2];exact zi U,_,rfl,_,rfl,_,rfl,R,_,_,_,rfl,rfl,SqL.of u.at_,zi W,d1,d2,_,_,-1,rfl,h1,h2,G.1,fun x hx=>p ξ (G.2 x hx),fun X L N hD3 e3=>?_⟩;refine⟨_,rfl,_,rfl,_,_,rfl,rfl,R,_,_,g,rfl,rfl,N _ _ u.at_,by rw[e2];exact ix (by have:=u.rows.len;(first|lia|omega)),?_⟩;have lF:=u.put (s0.trans sm) (Same.refl H2) N hD3 e3 (by simp) (Zin (Same.refl H2)) g;have bG:Same H (upd L R (.lst ((rs.map V.ref).set g (.ref X)))):=(sm.trans N).then hR;have C:=(wT.same N).other (R:=R) (by simp) (Ne.symm p_) (o:=.lst ((rs.map V.ref).set g (.ref X)));have kT:=(wB.same N).other (R:=R) (by simp) (Ne.symm nU) (o:=.lst ((rs.map V.ref).set g (.ref X)));have Z3:∀z∈[R,T,B],(upd L R (.lst ((rs.map V.ref).set g (.ref X)))) z≠none:=fun z hz=>by
    simp at hz;rcases hz with rfl|rfl|rfl
    ·rw[ac];simp
    ·rw[C.at_];simp
    ·rw[kT.at_];simp
   have et1:(slT tb r i).set g (dF (rowAt (slT tb r i) g) (-1) (rowAt (slT tb r i) (g+1)))=slT tb r (i+1):=by
    show _=(slT tb r i).set (r-2-i) (dF (rowAt (slT tb r i) (r-2-i)) (-1) (rowAt (slT tb r i) (r-1-i)));rw[<-jt,J]
   rw[et1] at lF;generalize upd L R (.lst ((rs.map V.ref).set g (.ref X)))=H4 at lF bG C kT Z3 ⊢;obtain⟨d1,g1,U,h1⟩:=C.get (i:=g) ω;obtain⟨d2,g2,W,h2⟩:=C.get (i:=g+1) ω;have G:=vz.at (i:=g+1) ω;refine⟨_,rfl,_,rfl,_,_,rfl,rfl,T,_,_,_,rfl,rfl,SqL.of C.at_,by rw[e2];exact zi U,_,rfl,_,rfl,_,rfl,T,_,_,_,rfl,rfl,SqL.of C.at_,zi W,d1,d2,_,_,-1,rfl,h1,h2,G.1,fun x hx=>p ξ (G.2 x hx),fun Z H5 O dG e5=>?_⟩;refine⟨_,rfl,_,rfl,_,_,rfl,rfl,T,_,_,g,rfl,rfl,O _ _ C.at_,by rw[e2];exact ix (by have:=C.rows.len;(first|lia|omega)),?_⟩;have lG:=C.put (s0.trans bG) (Same.refl H4) O dG e5 (by simp) Z3 g;have my:Same H (upd H5 T (.lst ((v.map V.ref).set g (.ref Z)))):=(bG.trans O).then dL;have kG:=(lF.same O).other (R:=T) (by simp) p_ (o:=.lst ((v.map V.ref).set g (.ref Z)));have D:=(kT.same O).other (R:=T) (by simp) (Ne.symm pk) (o:=.lst ((v.map V.ref).set g (.ref Z)));have Z5:∀z∈[R,T,B],(upd H5 T (.lst ((v.map V.ref).set g (.ref Z)))) z≠none:=fun z hz=>by
    simp at hz;rcases hz with rfl|rfl|rfl
    ·rw[kG.at_];simp
    ·rw[ac];simp
    ·rw[D.at_];simp
   have et2:(slT ub r i).set g (dF (rowAt (slT ub r i) g) (-1) (rowAt (slT ub r i) (g+1)))=slT ub r (i+1):=by
    show _=(slT ub r i).set (r-2-i) (dF (rowAt (slT ub r i) (r-2-i)) (-1) (rowAt (slT ub r i) (r-1-i)));rw[<-jt,J]
   rw[et2] at lG;generalize upd H5 T (.lst ((v.map V.ref).set g (.ref Z)))=H6 at kG my lG D Z5 ⊢;obtain⟨d1,g1,U,h1⟩:=D.get (i:=g+1) ω;obtain⟨d2,g2,W,h2⟩:=D.get (i:=g) ω;have G:=aq.at (i:=g) ω;refine⟨_,rfl,_,rfl,B,_,_,_,rfl,rfl,SqL.of D.at_,zi U,_,rfl,_,rfl,_,_,rfl,rfl,B,_,_,_,rfl,rfl,SqL.of D.at_,by rw[e2];exact zi W,d1,d2,_,_,1,rfl,h1,h2,G.1,fun x hx=>p ξ (G.2 x hx),fun D7 H7 S mP e7=>?_⟩;refine⟨_,rfl,_,rfl,B,_,_,g+1,rfl,rfl,S _ _ D.at_,ix (by have:=D.rows.len;(first|lia|omega)),?_⟩;have oO:=D.put (s0.trans my) (Same.refl H6) S mP e7 (by simp) Z5 (g+1);have uv:=(kG.same S).other (R:=B) (by simp) nU (o:=.lst ((bs.map V.ref).set (g+1) (.ref D7)));have wK:=(lG.same S).other (R:=B) (by simp) pk (o:=.lst ((bs.map V.ref).set (g+1) (.ref D7)));have rB:(slB bb r i).set (g+1) (dF (rowAt (slB bb r i) (g+1)) 1 (rowAt (slB bb r i) g))=slB bb r (i+1):=by
    show _=(slB bb r i).set (r-1-i) (dF (rowAt (slB bb r i) (r-1-i)) 1 (rowAt (slB bb r i) (r-2-i)));rw[<-jt,J]
   rw[rB] at oO;exact⟨_,_,_,_,rfl,(my.trans S).then jV,uv,wK,oO⟩
  ·rintro σ H2 ⟨v5,rs,v,bs,rfl,sm,u,wT,wB⟩
   refine⟨_,rfl,_,rfl,_,rfl,by show 3<=sizeLine;decide,fun t' ht'=>?_⟩;have md:=Same.new (o:=.tup [V.ref R,V.ref T,V.ref B]) ht';have nt:∀{Y:Addr}{ds:List Addr}{tx:Ξ},Wk H0 [R,T,B] H2 Y ds tx->H Y=none->Y∈[R,T,B]->NT H0 (upd H2 t' (.tup [V.ref R,V.ref T,V.ref B])) Y ds tx:=fun{Y ds tx} h hy hz=>
    ⟨md _ _ h.at_,h.rows.same md,h.nd,s0.free hy,fun d hd=>⟨(h.nw d hd).1,(h.nw d hd).2 Y hz⟩⟩
   exact k t' R T B rs v bs _ (sm.trans md) ac (nt u hR (by simp)) (nt wT dL (by simp)) (nt wB jV (by simp))
end
end K24
end
section
namespace L2
open PySem PySem.Spec PyProof.Rows
section
variable{X:Cx}
def IC{aa:Ψ}{σ:St}{H:Hp}{s:Shared}{l:Addr}{ns:List Int}(I:Inv X aa σ H s)(c:SqL X.K H l (ns.map V.int)):∃a,Reads s.heap (.ref l) (.list (ns.map PyData.int)) a:=by
 obtain⟨ad,r,p,_⟩:=I.list c;obtain⟨o,b,hc,n,hd⟩:=p.isList;exact⟨_,.list b hc hd ((PySem.W.ke_carried (intsAre_of r)).reads s.heap)⟩
def jN(ns:List Int):SeqAt.shaped (.list (ns.map PyData.int))=true:=by
 simp[SeqAt.shaped,PyData.canLay0,PySem.W.ke_canLayAll0,Bh,PySem.W.ke_depthAll]
def ID(ns:List Int):(Shape.list .int).has (.list (ns.map PyData.int))=true:=by simp[Shape.has]
def xB(K:Ag):R2:=fun x y H Q=>∃l m ns ms,x=.ref l/\y=.ref m/\SqL K H l (List.map V.int ns)/\SqL K H m (List.map V.int ms)/\Q (.bl (decide (ns=ms))) H
def Ng(e:X.A.units+64<cLine):cV X (compareOp .Eq) (xB X.K):=by
 intro aa s σ H x y v u Q I a b h;obtain⟨l,m,ns,ms,rfl,rfl,c,d,q⟩:=h;cases a;cases b;obtain⟨a1,r1⟩:=IC I c;obtain⟨a2,r2⟩:=IC I d;refine eq_dataH_same r1 r2 (jN _) (jN _) e (SeqAt.noMix_of_shape (.list .int) rfl _ _ (ID _) (ID _)) ?_;rw[show same (.list (ns.map PyData.int)) (.list (ms.map PyData.int))=decide (ns=ms) from by simp only[same];exact PySem.W.ke_sameAll ns ms];exact⟨.bl _,H,I,rfl,q⟩
end
end L2
end
section
namespace K24
open PySem L2
abbrev xF:Stmt:=top 22
abbrev xI:Stmt:=top 23
abbrev CW:Stmt:=top 20
def E7:A7 "enumerate"=some (.type "enumerate"):=δ
def jP{a:Type}(p:Nat->List Int->Bool)(g:Nat->List Int->a)(l:List (List Int×Nat)):List a:=(l.filter fun q=>p q.2 q.1).map fun q=>g q.2 q.1
section
variable{P:Program}{w:World}{K:Ag}{mg:Str->Option Value}{base:Heap}
def IE{H2:Hp}{L D:Addr}{rs:List Addr}{tb:Ξ}{Q:VK}{A:Type}{mkV:A->V}{p:Nat->List Int->Bool}{g:Nat->List Int->A}{tc:TT}{te:TE}{c:List (Option V)}(M:∀(i:Nat)(o:Addr)(os:List Int)(H:Hp)(R:VK)(S:Hp->Prop),Same H2 H->H o=some (.lst (os.map V.int))->os∈tb->(p i os=true->∀H',Same H H'->R (mkV (g i os)) H')->(p i os=false->S H)->tc (some (.int i)::some (.ref o)::c) H fun b u=>if b=true then te (some (.int i)::some (.ref o)::c) u R else S u)(s:SqL K H2 L (rs.map V.ref))(C:Rws H2 rs tb)(hz:tb.length<=1000)(E:H2 D=none)(k:∀f,Same H2 f->f D=some (.lst ((jP p g tb.zipIdx).map mkV))->Q (.ref D) f):dr (oj K L) (bT K 2 (ci (zQ 0) (ci (zQ 1) bR))) tc te (none::none::c) H2 D Q:=by
 have z:=C.len;refine uw tb.length (fun j σ ys f=>∃(l q:Option V),σ=l::q::c/\Same H2 f/\f D=some (.lst ys)/\ys=(jP p g (tb.zipIdx.take j)).map mkV) ?_ ?_ ?_ ?_ ?_
 ·exact⟨none,none,rfl,Same.new E,ac,rfl⟩
 ·rintro σ ys f ⟨l,q,rfl,sm,d,rfl⟩
  exact⟨_,sm.seq s,by rw[Aa,z]⟩
 ·rintro i σ ys f hi ⟨l,q,rfl,sm,d,rfl⟩
  exact⟨_,sm.seq s,by rw[Aa,z];exact hi⟩
 ·rintro i σ ys f x H' hi hy ⟨l,q,rfl,sm,d,rfl⟩ ⟨pp,y,rfl,F,rfl,G⟩
  have J:=G _ (sm.seq s);obtain⟨a,I,rfl⟩:=kw J;obtain⟨r,w,hr⟩:=C.get I;have h:=Same.new (o:=.tup [.int i,.ref a]) F;have e:tb.zipIdx[i]?=some (r,i):=by rw[List.getElem?_zipIdx,w];simp
  refine⟨pp,_,rfl,SqT.of ac,rfl,_,_,rfl,_,_,rfl,rfl,?_⟩;refine M i a r _ _ _ (sm.trans h) ((sm.trans h) _ _ hr) (An w) (fun hp u v=>?_) (fun hp=>?_)
  ·refine b6 (zA ω) hi hy ((h.trans v) _ _ d) ⟨_,_,rfl,((sm.trans h).trans v).then E,ac,?_⟩
   rw[take_snoc e];unfold jP;rw[List.filter_append,AD,AD];simp[hp]
  ·refine uo hi hy ⟨_,_,rfl,sm.trans h,h _ _ d,?_⟩
   rw[take_snoc e];unfold jP;rw[List.filter_append];simp[hp]
 ·rintro σ ys f ⟨l,q,rfl,sm,d,rfl⟩
  rw[Ax (by simp)] at d;exact k f sm d
def dH(tb:Ξ):Bool:=(jP (fun _ _=>true) (fun k r=>decide (r=bN r k r.length)) tb.zipIdx).all id
def E8:Sp:=fun vs H Q _=>∃L rs tb,vs=[.ref L]/\H L=some (.lst (rs.map V.ref))/\Rws H rs tb/\tb.length<=1000/\(∀r∈tb,r.length<=1000)/\∀H',Same H H'->Q (.bl (dH tb)) H'
def Nh:zo ["table"] ["table"] (zf xF):=⟨rfl,rfl,rfl,δ,rfl,δ,δ⟩
def Ni{f fs:Addr}{fd c:FuncData}(F:Fun K "is_on_slope" "is_on_slope" xF f fd)(G:mg "all"=none)(be:mg "enumerate"=none)(bl:mg "len"=none)(Fs:Fun K "slope_row" "slope_row" w_ fs c)(bs:Binds K c ["numbers","k","width"] [])(ms:mg "slope_row"=some (.ref fs))(N:ah P w K mg base au 1 fs c ["numbers","k","width"] xj):ah P w K mg base au 2 f fd ["table"] E8:=by
 refine F.ok Nh (fun vs H Q E h=>?_) (fun O A outer s H vs Q E hr h=>?_)
 ·obtain⟨L,rs,tb,rfl,_⟩:=h;rfl
 ·obtain⟨L,rs,tb,rfl,j,y,hz,hw,k⟩:=h
  have z:=hr.units;refine⟨_,zh (zq (zn (ol rfl) rfl G oM (za (zz ["table"] ["k","row"] [none,none] (Ef rfl be E7 (za (pv 0) zb))
   (fun d C s₀ H₀ ex=>gi rfl (zE (zm (i:=0) (bC ["k","row"]) rfl (Or.inl rfl)) (zE (zm (i:=1) (bC ["k","row"]) rfl (Or.inl rfl)) gg))) (fun d C s₀ H₀ ex=>zB)
   (fun d C s₀ H₀ ex=>hH (Ng z) (pv 1) (ze N hr rfl ms Fs.kp bs .nil af (za (pv 1) (za (pv 0) (za (zn zk rfl bl cR (za (pv 1) zb)) zb)))) (ap _))
   (te:=cy (xB K) (ar 1) (eX xj [] E0 (zZ (ar 1) (zZ (ar 0) (zZ (oe (Ei K) (zZ (ar 1) bD)) bD))))) (hfr:=cz δ) (g:=bT K 2 (ci (zQ 0) (ci (zQ 1) bR)))) zb))),?_⟩
  refine⟨_,rfl,L,rfl,⟨_,SqL.of j⟩,fun D l=>zD (IE (mkV:=V.bl) (p:=fun _ _=>true) (g:=fun k r=>decide (r=bN r k r.length)) (fun i o os H' R S sm a q u T=>gG ?_) (SqL.of j) y hz l fun I v b=>⟨D,_,rfl,SqL.of b,k I v⟩)⟩;refine⟨_,rfl,_,rfl,_,rfl,_,rfl,o,_,rfl,.inl (SqL.of a),o,os,i,os.length,by rw[Aa];rfl,a,hw os q,fun h=>h,fun J M e U x=>?_⟩;exact⟨o,J,os,_,rfl,rfl,SqL.of (e _ _ a),SqL.of x,u rfl M e⟩
def cB(tb:Ξ):List Int:=jP (fun k r=>decide (k<r.length)&&decide (vc r k≠0)) (fun k r=>vc r k) tb.zipIdx
def E9:Sp:=fun vs H Q _=>∃L rs tb,vs=[.ref L]/\H L=some (.lst (rs.map V.ref))/\Rws H rs tb/\tb.length<=1000/\kO H Q (cB tb)
def Nj:zo ["table"] ["table"] (zf xI):=⟨rfl,rfl,rfl,δ,rfl,δ,δ⟩
def Nk{f:Addr}{fd:FuncData}(F:Fun K "slope_of" "slope_of" xI f fd)(be:mg "enumerate"=none)(bl:mg "len"=none):ah P w K mg base au 1 f fd ["table"] E9:=by
 refine F.ok Nj (fun vs H Q E h=>?_) (fun G A outer s H vs Q E hr h=>?_)
 ·obtain⟨L,rs,tb,rfl,_⟩:=h;rfl
 ·obtain⟨L,rs,tb,rfl,u,y,hz,k⟩:=h
  refine⟨_,zh (zq (zz ["table"] ["k","row"] [none,none] (Ef rfl be E7 (za (pv 0) zb))
   (fun d C s₀ H₀ ex=>gi rfl (zE (zm (i:=0) (bC ["k","row"]) rfl (Or.inl rfl)) (zE (zm (i:=1) (bC ["k","row"]) rfl (Or.inl rfl)) gg)))
   (fun d C s₀ H₀ ex=>K9 (PW.pt (nX (zr n_ (pv 0) (zn zk rfl bl cR (za (pv 1) zb)) (ap _)) (nW (zr gx (zw zx (pv 1) (pv 0) (fun _ _=>rfl)) zd (ap _))))))
   (fun d C s₀ H₀ ex=>zw zx (pv 1) (pv 0) (fun _ _=>rfl)) (te:=cy (gA K) (ar 1) (ar 0)) (tc:=rR (DO (cy (g_ fun i j=>.bl (decide (i<j))) (ar 0) (oe (Ei K) (zZ (ar 1) bD)))) (DO (cy Ga (cy (gA K) (ar 1) (ar 0)) (tC (.int 0))))) (hfr:=cz δ) (g:=bT K 2 (ci (zQ 0) (ci (zQ 1) bR))))),?_⟩
  refine⟨_,rfl,L,rfl,⟨_,SqL.of u⟩,fun D l=>zD (IE (mkV:=V.int) (p:=fun k r=>decide (k<r.length)&&decide (vc r k≠0)) (g:=fun k r=>vc r k) (fun i o os H' R S sm b I v q=>?_) (SqL.of u) y hz l fun z x c=>k D z x l c)⟩;refine⟨_,rfl,_,rfl,o,_,rfl,.inl (SqL.of b),_,_,rfl,rfl,_,rfl,?_⟩;rw[Aa]
  by_cases c1:i<os.length
  ·rw[decide_eq_true (show((i:Nat):Int)<((os.length:Nat):Int) from ω)]
   refine aR ⟨_,rfl,_,rfl,o,_,_,_,rfl,rfl,SqL.of b,zi (fD c1),rfl,_,rfl,?_⟩
   by_cases a:vc os i=0
   ·rw[show(!decide (V.int (vc os i)=V.int 0))=false by rw[a];rfl]
    exact aI (q (by rw[a];simp))
   ·rw[show(!decide (V.int (vc os i)=V.int 0))=true by rw[decide_eq_false (fun e=>a (by injection e))];rfl]
    exact aR ⟨_,rfl,_,rfl,o,_,_,_,rfl,rfl,SqL.of b,zi (fD c1),v (by simp[c1,a]) H' (Same.refl H')⟩
  ·rw[decide_eq_false (show ¬((i:Nat):Int)<((os.length:Nat):Int) from ω)]
   exact aI (aI (q (by simp[c1])))
def dj(tb:Ξ):Bool:=dH tb&&fZ (cB tb) tb.length
def IF:Sp:=fun vs H Q _=>∃L rs tb,vs=[.ref L]/\H L=some (.lst (rs.map V.ref))/\Rws H rs tb/\tb.length<=1000/\(∀r∈tb,r.length<=1000)/\∀H',Same H H'->Q (.bl (dj tb)) H'
def Nl:zo ["table"] ["table"] (zf CW):=⟨rfl,rfl,rfl,δ,rfl,δ,δ⟩
def Nm{tb:Ξ}:(cB tb).length<=tb.length:=by
 unfold cB jP;rw[Aa];exact Ae (List.length_filter_le _ _) (by simp)
def No{f fo fs fa:Addr}{fd i j l:FuncData}(F:Fun K "is_in_steps" "is_in_steps" CW f fd)(bl:mg "len"=none)(Fo:Fun K "is_on_slope" "is_on_slope" xF fo i)(r:Binds K i ["table"] [])(u:mg "is_on_slope"=some (.ref fo))(z:ah P w K mg base au 2 fo i ["table"] E8)(Fs:Fun K "slope_of" "slope_of" xI fs j)(bs:Binds K j ["table"] [])(ms:mg "slope_of"=some (.ref fs))(C:ah P w K mg base au 1 fs j ["table"] E9)(Fa:Fun K "are_steps" "are_steps" CU fa l)(v:Binds K l ["steps","most"] [])(x:mg "are_steps"=some (.ref fa))(G:ah P w K mg base au 1 fa l ["steps","most"] Ix):ah P w K mg base au 3 f fd ["table"] IF:=by
 refine F.ok Nl (fun vs H Q E h=>?_) (fun I A outer s H vs Q E hr h=>?_)
 ·obtain⟨L,rs,tb,rfl,_⟩:=h;rfl
 ·obtain⟨L,rs,tb,rfl,d,g,hz,hw,k⟩:=h
  have b:Room 1 _:=hr.mono ξ;refine⟨_,zh (zq (B' (ze z hr rfl u Fo.kp r .nil af (za (pv 0) zb)) (rY (ze G b rfl x Fa.kp v .nil af (za (ze C b rfl ms Fs.kp bs .nil af (za (pv 0) zb)) (za (zn zk rfl bl cR (za (pv 0) zb)) zb)))))),?_⟩;refine⟨_,rfl,L,rs,tb,rfl,d,g,hz,hw,fun H1 a=>⟨_,rfl,?_⟩⟩;have q:=g.len;cases c:dH tb with
  |false=>
   have e:dj tb=false:=by unfold dj;rw[c];rfl
   rw[e] at k;exact aI (k H1 a)
  |true=>
   refine aR ⟨_,rfl,L,rs,tb,rfl,a _ _ d,g.same a,hz,fun D H2 o J e2=>⟨_,rfl,L,_,rfl,.inl (SqL.of ((a.trans o) _ _ d)),D,cB tb,_,rfl,e2,Ae Nm hz,fun y p=>?_⟩⟩;have e:dj tb=fZ (cB tb) (tb.length:Int):=by unfold dj;rw[c];rfl
   rw[e] at k;rw[Aa,q];exact k y ((a.trans o).trans p)
end
end K24
end
section
namespace Tb
def Bd.mono{N M X B d i j:Nat}{R:List Vc}(h:Bd N M X B R)(q:M<=d)(u:X<=i)(v:B<=j):Bd N d i j R:=
 ⟨h.ind,fun P f e s r g l=>by
  obtain⟨a,b,c⟩:=h.bd P f e s r g l;exact⟨fun p hp=>Ae (a p hp) v,fun r hr p hp=>Ae (b r hr p hp) q,fun o V hc hv x hx=>Ae (c o V hc hv x hx) (Al _ (Al _ u))⟩⟩
def Tri.row{k r w M g N X B:Nat}{ρ f:Nat->Vc}{Q:Nat->Nat}{P:List Nat}(T:Tri k r w M g ρ Q){i:Nat}(hi:i<k)(F:FS N M X B ((Ah i).map ρ) P f):∀p∈P,(ρ i p).natAbs<=M:=fun p hp=>by
 have e:=T.places ω F.ech F.srt (fun p hp=>(F.fr p hp).sp) (by rw[F.len];simp);rw[e] at hp;refine T.rows_le (j:=i+1) ω ω ?_;unfold pl at hp ⊢;rcases List.mem_append.mp hp with h|h
 ·exact A6 _ (List.mem_range.mpr (by have:=List.mem_range.mp h;(first|lia|omega)))
 ·obtain⟨a,b,rfl⟩:=List.mem_map.mp h
  exact Ay _ (List.mem_map.mpr ⟨a,List.mem_range.mpr (by have:=List.mem_range.mp b;(first|lia|omega)),rfl⟩)
def xW(N b:Nat):Nat:=1+2*b+(2+2*b)*N
def xK(N n m x b:Nat):Nat:=2+(n+(m+(b+1)*N+(n+(b+x))))
def xE(N n m x b:Nat):Nat:=1+(n+(n+(xK N n m x b+(2+b+n+xW N b)*N+m)+(b+1)*N+(n+(b+x))))
def pw{a b:Nat}(h:a<=b):2 ^ a<=2 ^ b:=AC ξ h
def zt{x y a b:Nat}(h1:x<=2 ^ a)(h2:y<=2 ^ b):x*y<=2 ^ (a+b):=by rw[Nat.pow_add];exact AQ h1 h2
def Np{b:Nat}:1+2 ^ b<=2 ^ (b+1):=by have:=AI (n:=b);rw[Nat.pow_succ];(first|lia|omega)
def CY{x y a:Nat}(h1:x<=2 ^ a)(h2:y<=2 ^ a):x+y<=2 ^ (1+a):=by rw[Nat.add_comm 1,Nat.pow_succ];(first|lia|omega)
section
variable{N n m x b:Nat}
def m_(a:N<=2 ^ n):cC N (2 ^ x) (2 ^ b)<=2 ^ (n+(b+x)):=zt a (zt (Ad _) (Ad _))
def jT:(1+2 ^ b) ^ N<=2 ^ ((b+1)*N):=by rw[Nat.pow_mul];exact Nat.pow_le_pow_left Np _
def Nq:cW N (2 ^ b)<=2 ^ xW N b:=by
 unfold cW xW;have e:2*2 ^ b*2 ^ b=2 ^ (1+2*b):=by
  have h:2*b=b+b:=ω
  rw[h,Nat.pow_add,Nat.pow_add,Nat.pow_one,AN]
 rw[e];refine zt (Ad _) ?_;have:=jT (N:=N) (b:=1+2*b)
 rwa [show 1+2*b+1=2+2*b from ω] at this
def Nr(h1:1<=N)(c:N<=2 ^ n):cG N (2 ^ b)<=2 ^ (2+b+n+xW N b):=by
 unfold cG;have h2:2*2 ^ b<=2 ^ (1+b):=by rw[Nat.pow_add];exact Ad _
 have a:1+N*cW N (2 ^ b)<=2 ^ (1+(n+xW N b)):=CY (AI) (zt c Nq);have:=zt h2 a
 rwa [show 1+b+(1+(n+xW N b))=2+b+n+xW N b from ω] at this
def Nt(a:N<=2 ^ n):cK N (2 ^ m) (2 ^ x) (2 ^ b)<=2 ^ xK N n m x b:=by
 unfold cK xK;have h1:=m_ (x:=x) (b:=b) a;have h2:N*(2 ^ m*(1+2 ^ b) ^ N*cC N (2 ^ x) (2 ^ b))<=2 ^ (n+(m+(b+1)*N+(n+(b+x)))):=zt a (zt (zt (Ad _) jT) h1);have c:1+cC N (2 ^ x) (2 ^ b)<=2 ^ (1+(n+(m+(b+1)*N+(n+(b+x))))):=CY AI (Ae h1 (pw ω));have:=CY c (Ae h2 (pw (Nat.le_add_left _ 1)))
 rwa [<-Nat.add_assoc] at this
def Nu(h1:1<=N)(a:N<=2 ^ n):cE N (2 ^ m) (2 ^ x) (2 ^ b)<=2 ^ xE N n m x b:=by
 have c:cM N (2 ^ m) (2 ^ x) (2 ^ b)<=2 ^ (xK N n m x b+(2+b+n+xW N b)*N):=by
  unfold cM;refine zt (Nt a) ?_;rw[Nat.pow_mul];exact Nat.pow_le_pow_left (Nr h1 a) _
 unfold cE xE;refine CY (Ae c (pw ω)) ?_;exact zt a (zt (zt (zt a (zt c (Ad _))) jT) (m_ a))
def Nv{e x' b':Nat}(h1:m<=e)(h2:x<=x')(f:b<=b'):xE N n m x b<=xE N n e x' b':=by
 unfold xE xK xW;have a:(b+1)*N<=(b'+1)*N:=Ak _ ω;have c:(2+2*b)*N<=(2+2*b')*N:=Ak _ ω;have d:(2+b+n+(1+2*b+(2+2*b)*N))*N<=(2+b'+n+(1+2*b'+(2+2*b')*N))*N:=Ak _ ω;(first|lia|omega)
end
section
variable{A T U V T' U' V':Nat->Vc}{k w r D bU bV g:Nat}{Bn Bf:List Vc}{QU QV:Nat->Nat}
def gM{n:Nat}{W W':Nat->Vc}(h:∀i,i<n->W i=W' i):tl n W=tl n W':=AW fun i hi=>h i (List.mem_range.mp hi)
def Ker.cg{n b:Nat}{W W':Nat->Vc}{Q:Nat->Nat}(hr:r<=n)(K:Ker n r g b W Q)(h:∀i,i<n->W i=W' i):Ker n r g b W' Q:=
 ⟨K.qs,fun a u d e=>by rw[<-h _ ω];exact K.kz a u d e,fun a d=>by rw[<-h _ ω];exact K.kp a d,fun a c h1 h2=>by rw[<-h _ ω,<-h _ ω];exact K.kq a c h1 h2,fun i a hi d=>by rw[<-h i ω,<-h _ ω];exact K.tq i a hi d,fun a d=>by rw[<-h _ ω];exact K.km a d⟩
def LI.cg(I:LI A k w r D bU bV g T U V Bn Bf QU QV)(b:∀u i,u<w->i<k->T u i=T' u i)(c:∀i,i<k->U i=U' i)(d:∀u,u<w->V u=V' u):LI A k w r D bU bV g T' U' V' Bn Bf QU QV:=by
 have rk:=I.rk;have e:=I.rw;refine⟨rk,e,I.g1,fun u i a hi=>?_,?_,?_,I.ku.cg rk c,I.kv.cg e d,fun u a=>?_,fun u i a hi=>?_,fun u i h1 h2=>?_,fun u i a hi h=>?_,fun m f=>?_⟩
 ·rw[<-b u i a hi,<-c i hi,<-d u a];exact I.bl u i a hi
 ·rw[<-gM c];exact I.bu
 ·rw[<-gM d];exact I.bv
 ·rw[<-b u u ω ω];exact I.tp u a
 ·rw[<-b u i ω ω];exact I.tz u i a hi
 ·rw[<-b u i ω ω,<-b i i ω ω];exact I.tr u i h1 h2
 ·rw[<-b u i a hi];exact I.to u i a hi h
 ·rw[<-i7 fun i hi=>b i i ω ω];exact I.pd m f
def LI.small(I:LI A k w r D bU bV g T U V Bn Bf QU QV){u i:Nat}(a:u<w)(hi:i<k):(T u i).natAbs<=D:=by
 have rk:=I.rk;have b:=I.rw
 by_cases h:r<=u\/r<=i
 ·rw[I.to u i a hi h];exact At _
 ·rcases Nat.lt_trichotomy u i with g|g|g
  ·have:=I.tr u i g ω
   have:=I.diag_le (i:=i) ω;(first|lia|omega)
  ·subst g;exact I.diag_le ω
  ·rw[I.tz u i ω g];exact At _
def LM.small{S:Nat->Vc}(I:LM A k w r D bU bV g S U V Bn Bf QU QV){u i:Nat}(a:u<w)(hi:i<k):(S i u).natAbs<=D:=by
 have rk:=I.rk;have b:=I.rw
 by_cases h:r<=u
 ·have:=I.sl.z u i h a hi
  have this:S i u=0:=this;rw[this];exact At _
 ·rcases Nat.lt_trichotomy u i with g|g|g
  ·have this:S i u=0:=I.sl.tz u i ω g hi
   rw[this];exact At _
  ·subst g;exact I.diag_le ω
  ·have this:(S i u).natAbs<=(S u u).natAbs:=I.sl.tl u i ω g
   exact Ae this (I.diag_le ω)
def Dg.cg(h:Dg r T)(rk:r<=k)(rw:r<=w)(b:∀u i,u<w->i<k->T u i=T' u i):Dg r T':=fun u i a hi ne=>by rw[<-b u i ω ω];exact h u i a hi ne
def IG:∀r,(∀i,i<r->T i i=T' i i)->mu T r=mu T' r
 |0,_=>rfl
 |r+1,h=>by
  show mu T r+_=mu T' r+_;rw[IG r fun i hi=>h i ω,i7 fun i hi=>h i hi]
def Nw(h:∀u i,u<r->i<r->T u i=T' u i):ms r T=ms r T':=by
 unfold ms;rw[IG r fun i hi=>h i i hi hi];have:Dg r T↔Dg r T':=⟨fun d u i a hi ne=>by rw[<-h u i a hi];exact d u i a hi ne,fun d u i a hi ne=>by rw[h u i a hi];exact d u i a hi ne⟩
 by_cases c:Dg r T
 ·rw[if_pos c,if_pos (this.mp c)]
 ·rw[if_neg c,if_neg fun z=>c (this.mpr z)]
end
end Tb
end
section
namespace K24
open PySem L2
def fn(tb:Ξ):Nat->Tb.Vc:=fun i=>vc (rowAt tb i)
def zy{tb:Ξ}{i:Nat}{r:List Int}(h:tb[i]?=some r):rowAt tb i=r:=by unfold rowAt;rw[Ac,h];rfl
def zG{tb:Ξ}{i:Nat}(h:i<tb.length):rowAt tb i∈tb:=by rw[zy (Ab h)];exact Ap _
def xM{tb:Ξ}{i:Nat}(h:tb.length<=i):rowAt tb i=[]:=by unfold rowAt;rw[Ac,List.getElem?_eq_none h];rfl
def CZ{tb:Ξ}{r:List Int}(h:r∈tb):∃i,i<tb.length/\rowAt tb i=r:=by
 obtain⟨i,hi,rfl⟩:=AX h;exact⟨i,hi,zy (Ab hi)⟩
def il{l:List Int}{u:Nat}(h:u<l.length):vc l u=l[u]:=by unfold vc;rw[Ac,Ab h];rfl
def Nx{a b:List Int}{m u:Nat}(h:a.length=m):vc (a++b) u=if u<m then vc a u else vc b (u-m):=by
 unfold vc;rw[Ac,Ac,Ac]
 by_cases c:u<m
 ·rw[if_pos c,List.getElem?_append_left ω]
 ·rw[if_neg c,List.getElem?_append_right ω,h]
def Ny{a:List Int}{m u:Nat}:vc (a.take m) u=if u<m then vc a u else 0:=by
 unfold vc;rw[Ac,Ac,List.getElem?_take];split<;>rfl
def Nz{a:List Int}{m u:Nat}:vc (a.drop m) u=vc a (m+u):=by
 unfold vc;rw[Ac,Ac,List.getElem?_drop]
def IH{tb:Ξ}{n:Nat}(h:tb.length=n):tb.map vc=Tb.tl n (fn tb):=by
 unfold Tb.tl;apply AT
 ·simp[h]
 ·intro i h1 h2
  rw[AO,AO,A4];show _=vc (rowAt tb i);rw[Aa] at h1;rw[zy (Ab h1)]
section
variable{tb ub:Ξ}{m n:Nat}
def nf(a:tb.length=n)(b:ub.length=n):(cat tb ub).length=n:=by unfold cat;rw[Au,a,b,Nat.min_self]
def II(a:tb.length=n)(b:ub.length=n){i:Nat}(hi:i<n):rowAt (cat tb ub) i=rowAt tb i++rowAt ub i:=by
 have h1:=Ab (show i<tb.length from ω);have h2:=Ab (show i<ub.length from ω);rw[zy h1,zy h2];refine zy ?_;unfold cat;rw[List.getElem?_zipWith,h1,h2]
def E_(a:tb.length=n)(b:ub.length=n)(w1:∀r∈tb,r.length=m){i:Nat}(hi:i<n):fn (cat tb ub) i=Tb.glue m (fn tb) (fn ub) i:=funext fun u=>by
 unfold fn Tb.glue;rw[II a b hi,Nx (w1 _ (zG ω))]
def C0(a:tb.length=n)(b:ub.length=n)(w1:∀r∈tb,r.length=m):(cat tb ub).map vc=Tb.tl n (Tb.glue m (fn tb) (fn ub)):=by
 rw[IH (nf a b)];exact Tb.gM fun i hi=>E_ a b w1 hi
def NA{ρ:Nat->Tb.Vc}{i:Nat}(h:i<=n):(Tb.tl n ρ).take i=Tb.tl i ρ:=by
 unfold Tb.tl;rw[<-List.map_take,List.take_range,Nat.min_eq_left h]
def IJ(a:tb.length=n)(b:ub.length=n)(w1:∀r∈tb,r.length=m){i:Nat}(hi:i<=n):((cat tb ub).take i).map vc=Tb.tl i (Tb.glue m (fn tb) (fn ub)):=by
 rw[List.map_take,C0 a b w1,NA hi]
end
def E'{fr:Nat->List Int}{W:Nat}:∀{ps:List Nat}{rn:List Int},rn.length=W->(∀p∈ps,(fr p).length=W)->shrL fr rn ps=Tb.shr (vF fr) ps (vc rn)
 |[],_,_,_=>rfl
 |p::ps,rn,h,h2=>by
  have hp:=h2 p (AM ..);show _::shrL fr (c8 fr rn p) ps=_::Tb.shr (vF fr) ps (Tb.step (vF fr) p (vc rn));rw[E' (ps:=ps) (Ew h hp) fun q hq=>h2 q (AJ _ hq),Hw ω]
  rfl
structure Side(N M X B Y m n:Nat)(tb ub bb:Ξ):Prop where
 l1:tb.length=n
 l2:ub.length=n
 l3:bb.length=n
 w1:∀r∈tb,r.length=m
 w2:∀r∈ub,r.length=n
 w3:∀r∈bb,r.length=n
 n40:n<=40
 m40:m<=40
 nN:n<=N
 N1:1<=N
 N64:N<64
 bd:∀j,j<=n->Tb.Bd N M X B (Tb.tl j (Tb.glue m (fn tb) (fn ub)))
 row:∀i,i<n->∀P f,Tb.FS N M X B (Tb.tl i (Tb.glue m (fn tb) (fn ub))) P f->∀p∈P,(Tb.glue m (fn tb) (fn ub) i p).natAbs<=M
 hY:∀i,i<n->∀u,(Tb.glue m (fn tb) (fn ub) i u).natAbs<=Y
 B1:1<=B
 X1:1<=X
 Y1:1<=Y
 piv:B<2 ^ 9000
 lim:N*(Tb.cE N M X B*Y)<big
 bk:∀r∈bb,∀x∈r,x.natAbs<big
section
variable{N M X B Y m n:Nat}{tb ub bb:Ξ}
def Side.lenW(S:Side N M X B Y m n tb ub bb):∀r∈cat tb ub,r.length=m+n:=fun r hr=>by
 obtain⟨i,hi,rfl⟩:=CZ hr;rw[nf S.l1 S.l2] at hi;rw[II S.l1 S.l2 hi,AZ,S.w1 _ (zG (by rw[S.l1];exact hi)),S.w2 _ (zG (by rw[S.l2];exact hi))]
def Side.mem(S:Side N M X B Y m n tb ub bb):∀r∈cat tb ub,∃i,i<n/\vc r=Tb.glue m (fn tb) (fn ub) i:=fun r hr=>by
 obtain⟨i,hi,rfl⟩:=CZ hr;rw[nf S.l1 S.l2] at hi;exact⟨i,hi,E_ S.l1 S.l2 S.w1 hi⟩
def Side.cC1(S:Side N M X B Y m n tb ub bb):1<=Tb.cC N X B:=Nat.mul_pos S.N1 (Nat.mul_pos S.B1 S.X1)
def Side.cK_le(S:Side N M X B Y m n tb ub bb):N*(Tb.cK N M X B*Y)<big:=
 Ao (Al _ (Ak _ (Ae (Tb.EY S.B1) Tb.qc))) S.lim
def Side.at(S:Side N M X B Y m n tb ub bb){P:List Nat}{f:Nat->Tb.Vc}(F:Tb.FS N M X B ((cat tb ub).map vc) P f):∀r∈cat tb ub,∀p∈P,(vc r p).natAbs<=M:=by
 rw[C0 S.l1 S.l2 S.w1] at F;have h:=((S.bd n (Ad _)).bd P f F.ech F.srt F.gen (fun p hp=>(F.fr p hp).sp) F.len).2.1;intro r hr p hp;refine h (vc r) ?_ p hp;obtain⟨i,hi,e⟩:=S.mem r hr;rw[e];exact List.mem_map.mpr ⟨i,List.mem_range.mpr hi,rfl⟩
def NB{R:List Tb.Vc}{P:List Nat}{f:Nat->Tb.Vc}(F:Tb.FS N M X B R P f):∀p∈P,∀q∈P,(f p q).natAbs<=B:=fun p hp q hq=>by
 rcases Nat.lt_trichotomy p q with h|h|h
 ·have:=F.red p hp q hq h
  have:=F.piv q hq;(first|lia|omega)
 ·subst h;exact F.piv p hp
 ·rw[F.ech.z p hp q h];exact At _
def Side.shr_le(S:Side N M X B Y m n tb ub bb){P:List Nat}{fr:Nat->List Int}(F:Tb.FS N M X B ((cat tb ub).map vc) P (vF fr))(b:Wid (m+n) P fr):∀r∈cat tb ub,∀x∈shrL fr r P,x.natAbs<=M*2 ^ n:=by
 intro r hr x hx;rw[E' (S.lenW r hr) fun p hp=>(b.row p hp).2] at hx;have a:P.length=n:=by rw[F.len,Aa,nf S.l1 S.l2]
 have:=Tb.Mv F.ech F.srt F.red (F.gen (vc r) (List.mem_map.mpr ⟨r,hr,rfl⟩)) (V:=M) (fun p hp=>Ae (S.at F r hr p hp) (Nat.le_mul_of_pos_right _ (by have:=F.ech.pos p hp;(first|lia|omega)))) x hx
 rwa [a] at this
def Side.ok(S:Side N M X B Y m n tb ub bb):Iy N M X B Y m n tb ub bb:=by
 have a:=nf S.l1 S.l2;have l:∀r∈(cat tb ub).map vc,∀u,(r u).natAbs<=Y:=fun r hr u=>by
  obtain⟨q,hq,rfl⟩:=List.mem_map.mp hr;obtain⟨i,hi,e⟩:=S.mem q hq;rw[e];exact S.hY i hi u
 refine⟨S.l1,S.l2,S.l3,S.w1,S.w3,S.n40,by have:=S.m40;(first|lia|omega),S.w2,⟨by have:=S.m40;have:=S.n40;(first|lia|omega),by rw[a];exact S.nN,S.lenW,fun i hi=>?_,fun i r hr P f F p hp=>?_⟩,fun P fr F b r hr=>?_,fun P fr F b r hr x hx row g y hy=>?_⟩
 ·rw[a] at hi
  rw[IJ S.l1 S.l2 S.w1 ω];refine⟨S.B1,S.piv,S.lim,fun r hr u=>?_,S.N64,S.bd (i+1) ω⟩;obtain⟨j,h,rfl⟩:=List.mem_map.mp hr;exact S.hY j (by have:=List.mem_range.mp h;(first|lia|omega)) u
 ·have hi:i<n:=by have:=(List.getElem?_eq_some_iff.mp hr).1;rwa [a] at this
  rw[IJ S.l1 S.l2 S.w1 ω] at F;have:=S.row i hi P f F p hp
  rwa [<-E_ S.l1 S.l2 S.w1 hi,fn,zy hr] at this
 ·have d:P.length=n:=by rw[F.len,Aa,a]
  have c:((cat tb ub).map vc).length<=N:=by rw[Aa,a];exact S.nN
  have e1:1+P.length*(M*(1+B) ^ P.length*Tb.cC N X B)<=Tb.cK N M X B:=by
   unfold Tb.cK;have:P.length*(M*(1+B) ^ P.length*Tb.cC N X B)<=N*(M*(1+B) ^ N*Tb.cC N X B):=AQ (by rw[d];exact S.nN) (Ak _ (Al _ (AC ω (by rw[d];exact S.nN))));(first|lia|omega)
  refine Ml (C:=1) (CF:=Tb.cC N X B) (V:=M) (VF:=B) l c F.fr (NB F) F.ech.pos (fun p hp=>Ao (F.piv p hp) S.piv) b (S.lenW r hr) (Tb.Rep.mem (List.mem_map.mpr ⟨r,hr,rfl⟩)) (fun q hq=>S.at F r hr q hq) (fun p hp=>hp) ?_ ?_
  ·exact Ao (Al _ (Ak _ e1)) S.cK_le
  ·refine Ao (Al _ (Ak _ ?_)) S.cK_le
   unfold Tb.cK;(first|lia|omega)
 ·have h1:=S.shr_le F b r hr x hx
  refine gH ?_ (S.bk row g y hy);rw[Int.natAbs_neg];refine Ao h1 (Ao ?_ S.cK_le);have a1:2 ^ n<=(1+B) ^ N:=Ae (Nat.pow_le_pow_left (by have:=S.B1;(first|lia|omega)) _) (AC ω S.nN);have a2:M*2 ^ n<=M*(1+B) ^ N*Tb.cC N X B:=Ae (Al _ a1) (Nat.le_mul_of_pos_right _ S.cC1);have a3:M*2 ^ n<=Tb.cK N M X B:=by
   unfold Tb.cK;have:=Nat.le_mul_of_pos_left (M*(1+B) ^ N*Tb.cC N X B) S.N1;(first|lia|omega)
  exact Ae a3 (Ae (Nat.le_mul_of_pos_right _ S.Y1) (Nat.le_mul_of_pos_left _ S.N1))
end
def IK{w:Nat}:∀{ns:List Int}{tb:Ξ}{l:List Int},l.length=w->(∀r∈tb,r.length=w)->∀u,vc ((ns.zip tb).foldl ck l) u=vc l u+Tb.cmb ns (tb.map vc) u
 |[],tb,l,_,_,u=>by cases tb<;>(show vc l u=vc l u+0;(first|lia|omega))
 |_::_,[],l,_,_,u=>by show vc l u=vc l u+0;(first|lia|omega)
 |x::ns,r::tb,l,hl,h,u=>by
  have hr:=h r (AM ..);show vc ((ns.zip tb).foldl ck (ck l (x,r))) u=vc l u+(x*vc r u+Tb.cmb ns (tb.map vc) u);rw[IK (Ir hl hr) (fun r hr=>h r (AJ _ hr)) u];have:vc (ck l (x,r)) u=vc l u - -x*vc r u:=by
   unfold ck dF;rw[CH (by simp) (show l.length=r.length from ω)]
  rw[this,Int.neg_mul];(first|lia|omega)
def IL{w u:Nat}:vc (Aq w 0) u=0:=by
 unfold vc;rw[Ac,List.getElem?_replicate];split<;>rfl
def NC{w:Nat}{ns:List Int}{tb:Ξ}(h:∀r∈tb,r.length=w):vc (gK w ns tb)=Tb.cmb ns (tb.map vc):=funext fun u=>by
 unfold gK;rw[IK (List.length_replicate) h u,IL];(first|lia|omega)
def ND{w:Nat}{ns:List Int}{tb:Ξ}(h:∀r∈tb,r.length=w):(gK w ns tb).length=w:=
 E3 List.length_replicate fun z hz=>h z.2 (List.of_mem_zip hz).2
def Ent(tb:Ξ)(K:Nat):Prop:=∀i u,(fn tb i u).natAbs<=K
def Ent.mem{tb:Ξ}{K:Nat}(h:Ent tb K):∀r∈tb,∀x∈r,x.natAbs<=K:=fun r hr x hx=>by
 obtain⟨i,_,rfl⟩:=CZ hr;obtain⟨u,_,rfl⟩:=CI hx;exact h i u
def Ent.mono{tb:Ξ}{K a:Nat}(h:Ent tb K)(hk:K<=a):Ent tb a:=fun i u=>Ae (h i u) hk
def qt{tb:Ξ}{K n:Nat}(a:tb.length=n)(h:∀i,i<n->∀u,(fn tb i u).natAbs<=K):Ent tb K:=fun i u=>by
 by_cases c:i<n
 ·exact h i c u
 ·unfold fn
  rw[xM ω];exact At _
def IM{P:List Nat}{g:Nat->List Int}{i:Nat}(h:i<P.length):rowAt (P.map g) i=g (Tb.pp P i):=by
 refine zy ?_;unfold Tb.pp;rw[Aj,Ac,Ab h]
 rfl
def xU{n:Nat}{g:Nat->List Int}{i:Nat}(h:i<n):rowAt ((Ah n).map g) i=g i:=zy (by rw[Aj,AK h];rfl)
def zY{n:Nat}{T:Ξ}{i:Nat}(h:i<n)(u:Nat):fn ((Ah n).map (colAt T)) i u=fn T u i:=by
 unfold fn;rw[xU h]
 by_cases c:u<T.length
 ·rw[zy (Ab c)]
  unfold colAt;show List.getD _ _ _=_;rw[Ac,Aj,Ab c]
  rfl
 ·rw[xM ω]
  show List.getD _ _ _=_;unfold colAt;rw[Ac,Aj,List.getElem?_eq_none ω]
  rfl
def zX{n:Nat}{T:Ξ}:((Ah n).map (colAt T)).length=n:=by simp
def jX{n w:Nat}{T:Ξ}(h:T.length=w):∀r∈(Ah n).map (colAt T),r.length=w:=fun r hr=>by
 obtain⟨j,_,rfl⟩:=List.mem_map.mp hr;unfold colAt;rw[Aa,h]
def ng{n i:Nat}(h:i<n):fn (unT n) i=Tb.un i:=funext fun t=>by
 unfold fn unT slpT;rw[xU h];unfold bN Tb.un Tb.dl vc;rw[List.length_replicate,if_pos h,Ac,List.getElem?_set,Ac,List.getElem?_replicate,if_pos h]
 by_cases c:i=t
 ·rw[if_pos c,if_pos c,List.length_replicate,if_pos h];rfl
 ·rw[if_neg c,if_neg c,List.getElem?_replicate]
  split<;>rfl
def C1{n:Nat}:(unT n).length=n:=by unfold unT slpT;simp
def nq{n:Nat}:∀r∈unT n,r.length=n:=fun r hr=>by
 unfold unT slpT at hr;obtain⟨j,_,rfl⟩:=List.mem_map.mp hr;unfold bN;split<;>simp
section
variable{N M X B Y m n:Nat}{tb ub bb:Ξ}{P:List Nat}{fr:Nat->List Int}
structure Done(N M X B m n:Nat)(tb ub bb:Ξ)(P:List Nat)(fr:Nat->List Int)(kW dz ji:Ξ):Prop where
 fs:Tb.FS N M X B (Tb.tl n (Tb.glue m (fn tb) (fn ub))) P (vF fr)
 lP:P.length=n
 l1:kW.length=n
 l2:dz.length=n
 l3:ji.length=n
 w1:∀r∈kW,r.length=m
 w2:∀r∈dz,r.length=n
 w3:∀r∈ji,r.length=n
 f1:∀i u,i<n->u<m->fn kW i u=vF fr (Tb.pp P i) u
 f2:∀i,i<n->fn dz i=fun t=>vF fr (Tb.pp P i) (m+t)
 f3:Tb.tl n (fn ji)=Tb.mT n ((Tb.tl n (Tb.glue m (fn tb) (fn ub))).map fun r=>Tb.shr (vF fr) P r) (Tb.tl n (fn bb))
 e2:∀{a:Nat},Ent ub a->Ent dz (N*(Tb.cC N X B*a))
 e3:∀{b:Nat},Ent bb b->Ent ji (N*(M*2 ^ N*b))
def Side.done(S:Side N M X B Y m n tb ub bb)(F:Tb.FS N M X B ((cat tb ub).map vc) P (vF fr))(f:Wid (m+n) P fr):Done N M X B m n tb ub bb P fr (P.map fun p=>(fr p).take m) (P.map fun p=>(fr p).drop m) (i9 n ((cat tb ub).map fun r=>shrL fr r P) bb):=by
 have w:=S.shr_le F f;have g:=F;rw[C0 S.l1 S.l2 S.w1] at g;have d:P.length=n:=by rw[F.len,Aa,nf S.l1 S.l2]
 have f2:∀i,i<n->fn (P.map fun p=>(fr p).drop m) i=fun t=>vF fr (Tb.pp P i) (m+t):=fun i hi=>funext fun t=>by
  unfold fn;rw[IM ω,Nz]
  rfl
 have h:(i9 n ((cat tb ub).map fun r=>shrL fr r P) bb).length=n:=by unfold i9;simp
 have l:∀j,j<n->fn (i9 n ((cat tb ub).map fun r=>shrL fr r P) bb) j=Tb.cmb (colAt ((cat tb ub).map fun r=>shrL fr r P) j) (bb.map vc):=fun j c=>by
  unfold fn i9;rw[xU c,NC S.w3]
 refine⟨g,d,by rw[Aa,d],by rw[Aa,d],h,fun r hr=>?_,fun r hr=>?_,fun r hr=>?_,fun i u hi o=>?_,f2,?_,fun{a} q=>?_,fun{b} hb=>?_⟩
 ·obtain⟨p,hp,rfl⟩:=List.mem_map.mp hr
  rw[List.length_take,(f.row p hp).2];(first|lia|omega)
 ·obtain⟨p,hp,rfl⟩:=List.mem_map.mp hr
  rw[List.length_drop,(f.row p hp).2];(first|lia|omega)
 ·unfold i9 at hr
  obtain⟨j,_,rfl⟩:=List.mem_map.mp hr;exact ND S.w3
 ·unfold fn
  rw[IM ω,Ny,if_pos o]
  rfl
 ·have e:Tb.tl n (fn (i9 n ((cat tb ub).map fun r=>shrL fr r P) bb))=(Ah n).map fun j=>Tb.cmb (colAt ((cat tb ub).map fun r=>shrL fr r P) j) (bb.map vc):=AW fun j c=>l j (List.mem_range.mp c)
  rw[e];unfold Tb.mT;refine AW fun j _=>funext fun s=>?_;rw[IH S.l3];have e2:(Tb.tl n (Tb.glue m (fn tb) (fn ub))).map (fun r=>Tb.shr (vF fr) P r)=(cat tb ub).map fun r=>shrL fr r P:=by
   rw[<-C0 S.l1 S.l2 S.w1,AS];exact AW fun r hr=>(E' (S.lenW r hr) fun p hp=>(f.row p hp).2).symm
  rw[e2]
  rfl
 ·refine qt (n:=n) (by rw[Aa,d]) fun i hi u=>?_
  rw[f2 i hi];exact Tb.Mw g (fun i t hi=>q i t) _ (Tb.p' d hi) u
 ·refine qt h fun j c u=>?_
  rw[l j c];have z:(colAt ((cat tb ub).map fun r=>shrL fr r P) j).length=(bb.map vc).length:=by unfold colAt;rw[Aa,Aa,Aa,nf S.l1 S.l2,S.l3]
  have A:Tb.Rep (bb.map vc) (M*2 ^ n) (Tb.cmb (colAt ((cat tb ub).map fun r=>shrL fr r P) j) (bb.map vc)):=by
   refine⟨_,z,fun u=>rfl,fun x hx=>?_⟩;unfold colAt at hx;rw[AS] at hx;obtain⟨r,hr,rfl⟩:=List.mem_map.mp hx;show((shrL fr r P).getD j 0).natAbs<=_;rw[Ac];cases e:(shrL fr r P)[j]? with
   |none=>exact At _
   |some y=>exact w r hr y (An e)
  have:=A.le (u:=u) (M:=b) fun v hv=>by
   obtain⟨r,hr,rfl⟩:=List.mem_map.mp hv;obtain⟨i,_,rfl⟩:=CZ hr;exact hb i u
  refine Ae this (AQ (by rw[Aa,S.l3];exact S.nN) (Ak _ (Al _ (Tb.pw S.nN))))
end
end K24
end
section
namespace Tb
def Ker.mono{n r g g' b:Nat}{W:Nat->Vc}{Q:Nat->Nat}(K:Ker n r g b W Q)(h:g<=g'):Ker n r g' b W Q:=⟨K.qs,K.kz,K.kp,K.kq,fun i a hi c=>Ae (K.tq i a hi c) (Ak _ h),K.km⟩
def LM.mono{A S U V:Nat->Vc}{k w r D bU bV g g':Nat}{Bn Bf:List Vc}{QU QV:Nat->Nat}(I:LM A k w r D bU bV g S U V Bn Bf QU QV)(h:g<=g'):LM A k w r D bU bV g' S U V Bn Bf QU QV:=⟨I.rk,I.rw,Ae I.g1 h,I.bl,I.bu,I.bv,I.ku.mono h,I.kv,I.sl,I.pd⟩
end Tb
namespace K24
open PySem L2
def x1(N n m:Nat):Nat:=(1+n+m)*N
def dd(N n m:Nat):Nat:=(2+n+m)*N
def be(N n m:Nat):Nat:=n+m+dd N n m
def m2(N n m:Nat):Nat:=2*n+be N n m+x1 N n m+m
def x2(N n m:Nat):Nat:=m2 N n m+(2+2*n+m+N)*N
def ga(N n m:Nat):Nat:=n+x2 N n m+m2 N n m
def Tm(N n m:Nat):Nat:=2*(N*dd N n m)+1
def kp(N n m:Nat):Nat:=ga N n m+(n+1)*N+2*n+1
def k0(N n m:Nat):Nat:=2*n+ga N n m+x2 N n m+m2 N n m+N+m
structure Good(N n m:Nat):Prop where
 N1:1<=N
 N40:N<=40
 Nn:N<=2 ^ n
 piv:ga N n m<9000
 m9:m<=900
 lim:n+Tb.xE N n (n*Tm N n m+ga N n m) ((n*Tm N n m+1)*N+x2 N n m) (ga N n m)+(k0 N n m+kp N n m*(Tm N n m+1))<67107860
def IN{a b:Nat}(h:a<=2 ^ b)(hb:b<67108864):a<big:=by
 unfold big;exact Ao h (Nat.pow_lt_pow_right ξ (by rw[jz];exact hb))
noncomputable def low:Nat:=2 ^ (bt-1000)
def qu{a b:Nat}(h:a<=2 ^ b)(hb:b<67107864):a<low:=by
 unfold low;exact Ao h (Nat.pow_lt_pow_right ξ (by rw[jz];exact hb))
def NE{a b:Nat}(h:a<=2 ^ b)(hb:b<67107863):a+1000<low:=by
 obtain⟨c,hc,hd⟩:∃c,bt-1000=c+1/\c=67107863:=⟨bt-1001,by rw[jz],by rw[jz]⟩;have h1:a<2 ^ c:=Ao h (Nat.pow_lt_pow_right ξ ω);have h2:2 ^ 10<=2 ^ c:=AC ξ ω;unfold low;rw[hc,Nat.pow_succ];have d:(2:Nat) ^ 10=1024:=ξ
 rw[d] at h2;generalize (2:Nat) ^ c=z at *;(first|lia|omega)
def j0{a:Nat}(h:a<low):a<big:=by
 unfold low at h;unfold big;exact Az h (AC ξ (Nat.sub_le _ _))
section
variable{N n m:Nat}
def iL(G:Good N n m):be N n m<=m2 N n m/\m2 N n m<=x2 N n m/\x2 N n m<=ga N n m/\dd N n m<=be N n m/\be N n m<=ga N n m/\x1 N n m<=m2 N n m:=by
 have h:m2 N n m<=x2 N n m:=A0 _ _;unfold m2 at h ⊢;unfold ga be m2 at *;(first|lia|omega)
def Good.cE(G:Good N n m){M X B Y mu x y t:Nat}(c:∃b,B=2 ^ b/\b<=ga N n m)(d:M=2 ^ mu)(e:X=2 ^ x)(f:Y=2 ^ y)(g:t<=Tm N n m+1)(h1:mu<=n*Tm N n m+ga N n m)(h2:x<=(n*Tm N n m+1)*N+x2 N n m)(h:y<=k0 N n m+kp N n m*t):N*(Tb.cE N M X B*Y)<big:=by
 obtain⟨b,rfl,hb⟩:=c;subst d e f;have i:y<=k0 N n m+kp N n m*(Tm N n m+1):=Ae h (Nat.add_le_add_left (Al _ g) _);have j:=Tb.Nv (N:=N) (n:=n) h1 h2 hb;have a:=G.lim;have a:n+Tb.xE N n (n*Tm N n m+ga N n m) ((n*Tm N n m+1)*N+x2 N n m) (ga N n m)+(k0 N n m+kp N n m*(Tm N n m+1))<67107860:=a;refine IN (Tb.zt G.Nn (Tb.zt (Tb.Nu G.N1 G.Nn) (Ad _))) ?_;(first|lia|omega)
def Good.entL(G:Good N n m){tb:Ξ}{y t:Nat}(h:Ent tb (2 ^ y))(a:t<=Tm N n m+1)(b:y<=k0 N n m+kp N n m*t):∀r∈tb,∀x∈r,x.natAbs<low:=fun r hr x hx=>by
 have c:y<=k0 N n m+kp N n m*(Tm N n m+1):=Ae b (Nat.add_le_add_left (Al _ a) _);have d:n+Tb.xE N n (n*Tm N n m+ga N n m) ((n*Tm N n m+1)*N+x2 N n m) (ga N n m)+(k0 N n m+kp N n m*(Tm N n m+1))<67107860:=G.lim;exact qu (h.mem r hr x hx) ω
def Good.entM(G:Good N n m){tb:Ξ}{y t:Nat}(h:Ent tb (2 ^ y))(a:t<=Tm N n m+1)(b:y<=k0 N n m+kp N n m*t):∀r∈tb,∀x∈r,x.natAbs+1000<low:=fun r hr x hx=>by
 have c:y<=k0 N n m+kp N n m*(Tm N n m+1):=Ae b (Nat.add_le_add_left (Al _ a) _);have d:=G.lim;exact NE (h.mem r hr x hx) ω
def Good.ent(G:Good N n m){tb:Ξ}{y t:Nat}(h:Ent tb (2 ^ y))(a:t<=Tm N n m+1)(b:y<=k0 N n m+kp N n m*t):∀r∈tb,∀x∈r,x.natAbs<big:=fun r hr x hx=>j0 (G.entL h a b r hr x hx)
structure LS(N n m t e:Nat)(A:Nat->Tb.Vc)(k w r:Nat)(T U Bn V Bf:Ξ)(QU QV:Nat->Nat):Prop where
 kN:k<=N
 wN:w<=N
 lT:T.length=w
 lU:U.length=k
 lB:Bn.length=k
 lV:V.length=w
 lC:Bf.length=w
 wT:∀r∈T,r.length=k
 wU:∀r∈U,r.length=k
 wB:∀r∈Bn,r.length=k
 wV:∀r∈V,r.length=w
 wC:∀r∈Bf,r.length=w
 li:Tb.LI A k w r (2 ^ dd N n m) (2 ^ be N n m) (2 ^ ga N n m) (2 ^ e) (fn T) (fn U) (fn V) (Tb.tl k (fn Bn)) (Tb.tl w (fn Bf)) QU QV
 te:e<=n*t
 tm:t+Tb.ms r (fn T)<=Tm N n m
 eu:∃u,Ent U (2 ^ u)/\u+N*e<=k0 N n m+kp N n m*t
 eb:∃b,Ent Bn (2 ^ b)/\b+e<=k0 N n m+kp N n m*t
 ev:Ent V (2 ^ (k0 N n m+kp N n m*t))
 ec:Ent Bf (2 ^ (k0 N n m+kp N n m*t))
structure LH(N n m t e:Nat)(A:Nat->Tb.Vc)(k w r:Nat)(T S U Bn V Bf:Ξ)(S0 U0:Nat->Tb.Vc)(QU QV:Nat->Nat):Prop where
 kN:k<=N
 wN:w<=N
 lS:S.length=k
 lU:U.length=k
 lB:Bn.length=k
 lV:V.length=w
 lC:Bf.length=w
 wS:∀r∈S,r.length=w
 wU:∀r∈U,r.length=k
 wB:∀r∈Bn,r.length=k
 wV:∀r∈V,r.length=w
 wC:∀r∈Bf,r.length=w
 lm:Tb.LM A k w r (2 ^ dd N n m) (2 ^ be N n m) (2 ^ ga N n m) (2 ^ e) S0 U0 (fn V) (Tb.tl k (fn Bn)) (Tb.tl w (fn Bf)) QU QV
 hS:∀i u,i<k->u<w->fn S i u=S0 i u
 hU:∀i,i<k->U0 i=fn U i
 ms:∀{M2 X2 B2:Nat}{P2:List Nat}{f2:Nat->Tb.Vc},Tb.Tri w r k M2 1 (Tb.glue k (fun u i=>S0 i u) (fn V)) (fun a=>k+QV a)->Tb.FS N M2 X2 B2 (Tb.tl w (Tb.glue k (fun u i=>S0 i u) (fn V))) P2 f2->Tb.ms r (fun u=>f2 (Tb.pls r k QV u))<Tb.ms r (fn T)
 te:e<=n*(t+1)
 tm:t+Tb.ms r (fn T)<=Tm N n m
 eu:∃u,Ent U (2 ^ u)/\u+N*e<=k0 N n m+kp N n m*(t+1)
 eb:∃b,Ent Bn (2 ^ b)/\b+e<=k0 N n m+kp N n m*(t+1)
 ev:Ent V (2 ^ (k0 N n m+kp N n m*t))
 ec:Ent Bf (2 ^ (k0 N n m+kp N n m*t))
def xX{q:Nat}{S a W W':Nat->Tb.Vc}{i:Nat}(h1:∀u,u<q->S i u=a i u)(h2:W i=W' i):Tb.glue q S W i=Tb.glue q a W' i:=funext fun u=>by
 unfold Tb.glue
 by_cases c:u<q
 ·rw[if_pos c,if_pos c,h1 u c]
 ·rw[if_neg c,if_neg c,h2]
def x3{q:Nat}{S W:Nat->Tb.Vc}{i K:Nat}(h1:∀u,u<q->(S i u).natAbs<=K)(h2:∀t,(W i t).natAbs<=K)(u:Nat):(Tb.glue q S W i u).natAbs<=K:=by
 unfold Tb.glue
 by_cases c:u<q
 ·rw[if_pos c];exact h1 u c
 ·rw[if_neg c];exact h2 _
variable{t e k w r:Nat}{A:Nat->Tb.Vc}{T S U Bn V Bf:Ξ}{QU QV:Nat->Nat}{S0 U0:Nat->Tb.Vc}
def LH.rho(L:LH N n m t e A k w r T S U Bn V Bf S0 U0 QU QV){i:Nat}(hi:i<w):Tb.glue k (fn ((Ah w).map (colAt S))) (fn V) i=Tb.glue k (fun u i=>S0 i u) (fn V) i:=
 xX (fun u a=>by rw[zY hi];exact L.hS u i a hi) rfl
def LH.tl(L:LH N n m t e A k w r T S U Bn V Bf S0 U0 QU QV){j:Nat}(a:j<=w):Tb.tl j (Tb.glue k (fn ((Ah w).map (colAt S))) (fn V))=Tb.tl j (Tb.glue k (fun u i=>S0 i u) (fn V)):=Tb.gM fun i hi=>L.rho ω
def LH.tri(G:Good N n m)(L:LH N n m t e A k w r T S U Bn V Bf S0 U0 QU QV):Tb.Tri w r k (2 ^ ga N n m) 1 (Tb.glue k (fun u i=>S0 i u) (fn V)) (fun a=>k+QV a):=by
 have h:=iL G;exact L.lm.far_tri (Ad _) (Tb.pw ω)
def LH.side(G:Good N n m)(L:LH N n m t e A k w r T S U Bn V Bf S0 U0 QU QV):Side N (2 ^ ga N n m) (2 ^ N) (2 ^ ga N n m) (2 ^ (k0 N n m+kp N n m*t)) k w ((Ah w).map (colAt S)) V Bf:=by
 have h:=iL G;have T2:=L.tri G;have g:=G.N40;have l:=L.tm;have o:=L.wN;refine⟨zX,L.lV,L.lC,jX L.lS,L.wV,L.wC,ω,by have:=L.kN;(first|lia|omega),L.wN,G.N1,ω,fun j b=>?_,fun i hi P f F p hp=>?_,fun i hi u=>?_,AI,AI,AI,Nat.pow_lt_pow_right ξ G.piv,?_,?_⟩
 ·rw[L.tl b]
  refine(Tb.HS T2 (B:=2 ^ ga N n m) (N:=N) (fun a c=>?_) (fun q hq=>?_) L.wN b).mono (Ad _) (by show(1+1) ^ N<=2 ^ N;exact Ad _) (Ad _)
  ·have:=T2.km a c;(first|lia|omega)
  ·rw[Tb.i7 (g':=S0) fun i hi=>by rw[Tb.zL (by have:=L.lm.rk;(first|lia|omega))]]
   exact Ae (L.lm.pd q hq) (Tb.pw ω)
 ·rw[L.tl ω] at F
  rw[L.rho hi];exact T2.row hi F p hp
 ·rw[L.rho hi]
  refine x3 (fun u d=>Ae (L.lm.small (u:=i) (i:=u) hi d) (Tb.pw ?_)) (fun s=>L.ev i s) u;unfold k0;(first|lia|omega)
 ·exact G.cE ⟨_,rfl,Ad _⟩ rfl rfl rfl (t:=t) ω ω (by have:1*N<=(n*Tm N n m+1)*N:=Ak _ ω;(first|lia|omega)) (Ad _)
 ·exact G.ent (t:=t) L.ec ω (Ad _)
def j3:k0 N n m+kp N n m*(t+1)=k0 N n m+kp N n m*t+kp N n m:=by rw[Nat.mul_add,Nat.mul_one];(first|lia|omega)
def LH.next(G:Good N n m)(L:LH N n m t e A k w r T S U Bn V Bf S0 U0 QU QV){P:List Nat}{fr:Nat->List Int}{T' V' h:Ξ}(D:Done N (2 ^ ga N n m) (2 ^ N) (2 ^ ga N n m) k w ((Ah w).map (colAt S)) V Bf P fr T' V' h):LS N n m (t+1) e A k w r T' U Bn V' h QU QV:=by
 have j:=L.tri G;have F:=D.fs;rw[L.tl (Ad _)] at F;obtain⟨l,J,_,_⟩:=L.lm.far_done j F;have p:=L.ms j F;have d:∀i,i<w->Tb.pp P i=Tb.pls r k QV i:=fun i hi=>by
  unfold Tb.pp;rw[l,Ac,Aj,AK hi];rfl
 have f:∀u i,u<w->i<k->vF fr (Tb.pls r k QV u) i=fn T' u i:=fun u i c hi=>by rw[D.f1 u i c hi,d u c]
 have rk:=J.rk;have q:=J.rw;have g:=D.f3;rw[L.tl (Ad _)] at g;have o:∀a b:Nat,2*n+ga N n m+N<=kp N n m:=fun _ _=>by unfold kp;rw[Nat.add_mul];(first|lia|omega)
 have h1:=o 0 0;refine⟨L.kN,L.wN,D.l1,L.lU,L.lB,D.l2,D.l3,D.w1,L.wU,L.wB,D.w2,D.w3,?_,L.te,?_,L.eu,L.eb,?_,?_⟩
 ·rw[<-g] at J
  exact J.cg f L.hU fun u c=>by rw[D.f2 u c,d u c]
 ·rw[<-Tb.Nw (T:=fun u=>vF fr (Tb.pls r k QV u)) fun u i c hi=>f u i ω ω]
  have:=L.tm;(first|lia|omega)
 ·refine(D.e2 L.ev).mono ?_
  rw[j3];refine Ae (Tb.zt G.Nn (Tb.zt (Tb.m_ G.Nn) (Ad _))) (Tb.pw ?_);(first|lia|omega)
 ·refine(D.e3 L.ec).mono ?_
  rw[j3];refine Ae (Tb.zt G.Nn (Tb.zt (Tb.zt (Ad _) (Ad _)) (Ad _))) (Tb.pw ?_);(first|lia|omega)
end
end K24
end
section
namespace Tb
def IP{U:Nat->Vc}{r u:Nat}:∀(n i:Nat),ss U r n i u=ss (fun i _=>U i u) r n i 0
 |0,_=>rfl
 |n+1,i=>by show U i u+ss U r n (i+1) u=U i u+_;rw[IP n (i+1)]
def IQ{C:Nat->Vc}{r:Nat}:∀(n:Nat),n+1<=r->∀i,ii C r n i=if r-n<=i/\i<r then(fun s=>C i s-C (i-1) s) else C i
 |0,h,i=>by show C i=_;rw[if_neg ω]
 |n+1,h,i=>by
  have a:=IQ (C:=C) (r:=r) n ω;show put (ii C r n) (r-1-n) (fun s=>ii C r n (r-1-n) s-ii C r n (r-2-n) s) i=_
  by_cases e:i=r-1-n
  ·rw[e,zR,if_pos ω,a (r-1-n),a (r-2-n),if_neg ω,if_neg ω,show r-1-n-1=r-2-n from ω]
  ·rw[dY e,a i]
   by_cases h2:r-n<=i/\i<r
   ·rw[if_pos h2,if_pos ω]
   ·rw[if_neg h2,if_neg ω]
end Tb
namespace K24
open PySem L2
def IR{tb:Ξ}{j i:Nat}{x:List Int}(h:j<tb.length):rowAt (tb.set j x) i=if i=j then x else rowAt tb i:=by
 unfold rowAt;rw[Ac,Ac,List.getElem?_set]
 by_cases c:i=j
 ·rw[if_pos c.symm,if_pos c,if_pos h];rfl
 ·rw[if_neg (Ne.symm c),if_neg c]
def IS{a b:List Int}{q:Int}(h:a.length=b.length):vc (dF a q b)=fun u=>vc a u-q*vc b u:=by unfold dF;rw[CH (by simp) h]
def IT{a b:List Int}{q:Int}(h:a.length=b.length):(dF a q b).length=a.length:=by unfold dF;rw[Au];(first|lia|omega)
section
variable{tb:Ξ}{r W:Nat}
def qF(hr:r<=tb.length)(hw:∀x∈tb,x.length=W):∀n,n+1<=r->∀x∈slT tb r n,x.length=W
 |0,_,x,hx=>hw x hx
 |n+1,h,x,hx=>by
  have a:=qF hr hw n ω;have b:=m6 (tb:=tb) (r:=r) n;rcases List.mem_or_eq_of_mem_set hx with hx|rfl
  ·exact a x hx
  ·rw[IT (by rw[a _ (zG ω),a _ (zG ω)])]
   exact a _ (zG ω)
def C2(hr:r<=tb.length)(hw:∀x∈tb,x.length=W):∀n,n+1<=r->∀x∈slB tb r n,x.length=W
 |0,_,x,hx=>hw x hx
 |n+1,h,x,hx=>by
  have a:=C2 hr hw n ω;have b:=xp (tb:=tb) (r:=r) n;rcases List.mem_or_eq_of_mem_set hx with hx|rfl
  ·exact a x hx
  ·rw[IT (by rw[a _ (zG ω),a _ (zG ω)])]
   exact a _ (zG ω)
def C3(hr:r<=tb.length)(hw:∀x∈tb,x.length=W):∀n,n+1<=r->fn (slT tb r n)=Tb.cf (fn tb) r n
 |0,_=>rfl
 |n+1,h=>by
  have b:=C3 hr hw n ω;have a:=qF hr hw n ω;have d:=m6 (tb:=tb) (r:=r) n
  funext i
  show vc (rowAt ((slT tb r n).set (r-2-n) _) i)=Tb.put (Tb.cf (fn tb) r n) (r-2-n) _ i;rw[IR ω,<-b];unfold Tb.put
  by_cases c:i=r-2-n
  ·rw[if_pos c,if_pos c,IS (by rw[a _ (zG ω),a _ (zG ω)])]
   funext u
   show vc _ u - -1*vc _ u=vc _ u+vc _ u;(first|lia|omega)
  ·rw[if_neg c,if_neg c];rfl
def Fd(hr:r<=tb.length)(hw:∀x∈tb,x.length=W):∀n,n+1<=r->fn (slB tb r n)=Tb.ii (fn tb) r n
 |0,_=>rfl
 |n+1,h=>by
  have b:=Fd hr hw n ω;have a:=C2 hr hw n ω;have d:=xp (tb:=tb) (r:=r) n
  funext i
  show vc (rowAt ((slB tb r n).set (r-1-n) _) i)=Tb.put (Tb.ii (fn tb) r n) (r-1-n) _ i;rw[IR ω,<-b];unfold Tb.put
  by_cases c:i=r-1-n
  ·rw[if_pos c,if_pos c,IS (by rw[a _ (zG ω),a _ (zG ω)])]
   funext u
   show vc _ u-1*vc _ u=vc _ u-vc _ u;(first|lia|omega)
  ·rw[if_neg c,if_neg c];rfl
def Fg(hr:r<=tb.length)(hw:∀x∈tb,x.length=W){K n:Nat}(h:n+1<=r)(a:Ent tb K):Ent (slT tb r n) (r*K):=fun i u=>by
 rw[C3 hr hw n h,Tb.EO n h];split
 ·exact Ae (Tb.EQ (K:=K) (r-i) i fun j _ _=>a j u) (Ak _ ω)
 ·exact Ae (a i u) (Nat.le_mul_of_pos_left _ ω)
def IU(hr:r<=tb.length)(hw:∀x∈tb,x.length=W){K n:Nat}(h:n+1<=r)(a:Ent tb K):Ent (slB tb r n) (2*K):=fun i u=>by
 rw[Fd hr hw n h,Tb.IQ n h];split
 ·have h1:=a i u
  have h2:=a (i-1) u;show(fn tb i u-fn tb (i-1) u).natAbs<=_;(first|lia|omega)
 ·have:=a i u;(first|lia|omega)
end
section
variable{N n m t e k w r:Nat}{A:Nat->Tb.Vc}{T U Bn V Bf:Ξ}{QU QV:Nat->Nat}
def LS.rho(L:LS N n m t e A k w r T U Bn V Bf QU QV){i:Nat}(hi:i<k):Tb.glue w (fn ((Ah k).map (colAt T))) (fn U) i=Tb.glue w (fun i u=>fn T u i) (fn U) i:=xX (fun u a=>zY hi u) rfl
def LS.tl(L:LS N n m t e A k w r T U Bn V Bf QU QV){j:Nat}(a:j<=k):Tb.tl j (Tb.glue w (fn ((Ah k).map (colAt T))) (fn U))=Tb.tl j (Tb.glue w (fun i u=>fn T u i) (fn U)):=Tb.gM fun i hi=>L.rho ω
def LS.tri(G:Good N n m)(L:LS N n m t e A k w r T U Bn V Bf QU QV):Tb.Tri k r w (2 ^ (e+be N n m)) (2 ^ e) (Tb.glue w (fun i u=>fn T u i) (fn U)) (fun a=>w+QU a):=by
 have h:=iL G;exact L.li.near_tri (by rw[Nat.pow_add];exact Ad _) (Tb.pw ω)
def LS.tT(L:LS N n m t e A k w r T U Bn V Bf QU QV):t<=Tm N n m:=by have:=L.tm;(first|lia|omega)
def LS.eT(L:LS N n m t e A k w r T U Bn V Bf QU QV):e<=n*Tm N n m:=Ae L.te (Al _ L.tT)
def LS.side(G:Good N n m)(L:LS N n m t e A k w r T U Bn V Bf QU QV):Side N (2 ^ (e+be N n m)) (2 ^ ((e+1)*N)) (2 ^ be N n m) (2 ^ (k0 N n m+kp N n m*t)) w k ((Ah k).map (colAt T)) U Bn:=by
 have h:=iL G;have T1:=L.tri G;have o:=G.N40;have tT:=L.tT;have eT:=L.eT;obtain⟨v,g,x⟩:=L.eu;obtain⟨y,l,z⟩:=L.eb;refine⟨zX,L.lU,L.lB,jX L.lT,L.wU,L.wB,by have:=L.kN;(first|lia|omega),by have:=L.wN;(first|lia|omega),L.kN,G.N1,ω,fun j b=>?_,fun i hi P f F p hp=>?_,fun i hi u=>?_,AI,AI,AI,Nat.pow_lt_pow_right ξ (by have:=G.piv;(first|lia|omega)),?_,?_⟩
 ·rw[L.tl b]
  refine(Tb.HS T1 (B:=2 ^ be N n m) (N:=N) (fun a c=>?_) (fun q hq=>?_) L.kN b).mono (Ad _) Tb.jT (Ad _)
  ·show(Tb.glue w (fun i u=>fn T u i) (fn U) (r+a) (w+QU a)).natAbs<=_
   rw[Tb.zW];exact L.li.ku.km a c
  ·rw[Tb.EN L.li hq]
   exact Ae (L.li.pd q hq) (Tb.pw ω)
 ·rw[L.tl ω] at F
  rw[L.rho hi];exact T1.row hi F p hp
 ·rw[L.rho hi]
  refine x3 (fun u d=>Ae (L.li.small (u:=u) (i:=i) d hi) (Tb.pw ?_)) (fun s=>Ae (g i s) (Tb.pw ω)) u;unfold k0;(first|lia|omega)
 ·refine G.cE ⟨_,rfl,ω⟩ rfl rfl rfl (t:=t) ω ω ?_ (Ad _)
  have:(e+1)*N<=(n*Tm N n m+1)*N:=Ak _ ω;(first|lia|omega)
 ·exact G.ent (t:=t) l ω ω
def LS.near(G:Good N n m)(L:LS N n m t e A k w r T U Bn V Bf QU QV)(hd:¬Tb.Dg r (fn T)){P:List Nat}{fr:Nat->List Int}{f U' c:Ξ}(D:Done N (2 ^ (e+be N n m)) (2 ^ ((e+1)*N)) (2 ^ be N n m) w k ((Ah k).map (colAt T)) U Bn P fr f U' c):LH N n m t 0 A k w r T f U' c V Bf (fun i=>vF fr (Tb.pls r w QU i)) (fun i s=>vF fr (Tb.pls r w QU i) (w+s)) QU QV:=by
 have d:=L.tri G;have F:=D.fs;rw[L.tl (Ad _)] at F;obtain⟨l,J,_,_⟩:=L.li.near_done d F;have a:∀i,i<k->Tb.pp P i=Tb.pls r w QU i:=fun i hi=>by
  unfold Tb.pp;rw[l,Ac,Aj,AK hi];rfl
 have b:=D.f3;rw[L.tl (Ad _)] at b;rw[<-b] at J;have h:=iL G;have hk:2*n+be N n m+N<=kp N n m:=by unfold kp;rw[Nat.add_mul];(first|lia|omega)
 obtain⟨v,o,x⟩:=L.eu;obtain⟨y,p,z⟩:=L.eb;refine⟨L.kN,L.wN,D.l1,D.l2,D.l3,L.lV,L.lC,D.w1,D.w2,D.w3,L.wV,L.wC,J,fun i u hi g=>by rw[D.f1 i u hi g,a i hi],fun i hi=>by rw[D.f2 i hi,a i hi],fun j q=>Tb.MH L.li hd d F j q,At _,L.tm,⟨_,(D.e2 o).mono (Tb.zt G.Nn (Tb.zt (Tb.m_ G.Nn) (Ad _))),?_⟩,⟨_,(D.e3 p).mono (Tb.zt G.Nn (Tb.zt (Tb.zt (Ad _) (Ad _)) (Ad _))),?_⟩,L.ev,L.ec⟩
 ·rw[j3,Nat.add_mul,Nat.mul_comm e N];(first|lia|omega)
 ·rw[j3];(first|lia|omega)
def LS.slSml(G:Good N n m)(L:LS N n m t e A k w r T U Bn V Bf QU QV):∀j,j<r->Sml (slT ((Ah k).map (colAt T)) r j)/\Sml (slT U r j)/\Sml (slB Bn r j):=fun j g=>by
 have h:=iL G;have rk:=L.li.rk;have s:=L.kN;have f:=G.N40;have tT:=L.tT;have rn:r<=2 ^ n:=Ae ω G.Nn;obtain⟨l,a,o⟩:=L.eu;obtain⟨p,b,q⟩:=L.eb;have hk:n+1<=kp N n m:=by unfold kp;(first|lia|omega)
 have c:be N n m<=k0 N n m:=by unfold k0;(first|lia|omega)
 have eT:Ent ((Ah k).map (colAt T)) (2 ^ be N n m):=qt zX fun i hi u=>by
  rw[zY hi]
  by_cases d:u<w
  ·exact Ae (L.li.small d hi) (Tb.pw ω)
  ·unfold fn
   rw[xM (by rw[L.lT];(first|lia|omega))];exact At _
 have e1:=Fg (n:=j) (r:=r) (by rw[zX];exact rk) (jX (n:=k) L.lT) ω eT;have e2:=Fg (n:=j) (r:=r) (by rw[L.lU];exact rk) L.wU ω a;have e3:=IU (n:=j) (r:=r) (by rw[L.lB];exact rk) L.wB ω b;refine⟨fun x hx=>⟨?_,G.ent (t:=t+1) (e1.mono (Tb.zt rn (Ad _))) ω (by rw[j3];(first|lia|omega)) x hx⟩,fun x hx=>⟨?_,G.ent (t:=t+1) (e2.mono (Tb.zt rn (Ad _))) ω (by rw[j3];(first|lia|omega)) x hx⟩,fun x hx=>⟨?_,G.ent (t:=t+1) (e3.mono (Tb.zt (show 2<=2 ^ 1 from ξ) (Ad _))) ω (by rw[j3];(first|lia|omega)) x hx⟩⟩
 ·rw[qF (by rw[zX];exact rk) (jX (n:=k) L.lT) j ω x hx];have:=L.wN;(first|lia|omega)
 ·rw[qF (by rw[L.lU];exact rk) L.wU j ω x hx];(first|lia|omega)
 ·rw[C2 (by rw[L.lB];exact rk) L.wB j ω x hx];(first|lia|omega)
def LS.slid(G:Good N n m)(L:LS N n m t e A k w r T U Bn V Bf QU QV)(hr:1<=r)(hd:Tb.Dg r (fn T))(o:¬∀i,i+1<r->fn T i i ∣ fn T (i+1) (i+1)):LH N n m t (e+n) A k w r T (slT ((Ah k).map (colAt T)) r (r-1)) (slT U r (r-1)) (slB Bn r (r-1)) V Bf (fun i u=>Tb.aQ k w A (Tb.cf (fn U) r (r-1) i) (fn V u)) (Tb.cf (fn U) r (r-1)) QU QV:=by
 have rk:=L.li.rk;have y:=L.li.rw;obtain⟨J,val⟩:=L.li.slid hr hd;have rn:r<=2 ^ n:=Ae rk (Ae L.kN G.Nn);have J:=J.mono (g':=2 ^ (e+n)) (by rw[Nat.pow_add,Nat.mul_comm];exact Al _ rn);obtain⟨q,h,s⟩:=L.eu;obtain⟨v,l,x⟩:=L.eb;have hk:n+N*n+N<=kp N n m/\n+1<=kp N n m:=by unfold kp;rw[Nat.add_mul,Nat.mul_comm n N];(first|lia|omega)
 have e1:fn (slT U r (r-1))=Tb.cf (fn U) r (r-1):=C3 (by rw[L.lU];exact rk) L.wU (r-1) ω;have e2:fn (slB Bn r (r-1))=Tb.ii (fn Bn) r (r-1):=Fd (by rw[L.lB];exact rk) L.wB (r-1) ω;rw[<-e2] at J;refine⟨L.kN,L.wN,by rw[m6];exact zX,by rw[m6];exact L.lU,by rw[xp];exact L.lB,L.lV,L.lC,qF (by rw[zX];exact rk) (jX (n:=k) L.lT) _ ω,qF (by rw[L.lU];exact rk) L.wU _ ω,C2 (by rw[L.lB];exact rk) L.wB _ ω,L.wV,L.wC,J,fun i u hi a=>?_,fun i hi=>by rw[e1],fun d p=>Tb.MI L.li hr hd o d p,?_,L.tm,⟨_,(Fg (n:=r-1) (by rw[L.lU];exact rk) L.wU ω h).mono (Tb.zt rn (Ad _)),?_⟩,⟨_,(IU (n:=r-1) (by rw[L.lB];exact rk) L.wB ω l).mono (Tb.zt (show 2<=2 ^ 1 from ξ) (Ad _)),?_⟩,L.ev,L.ec⟩
 ·have e3:fn (slT ((Ah k).map (colAt T)) r (r-1))=Tb.cf (fn ((Ah k).map (colAt T))) r (r-1):=C3 (by rw[zX];exact rk) (jX (n:=k) L.lT) (r-1) ω
  rw[e3,val i u hi a,Tb.jG hr];have zero:∀j,j<k->j≠u->fn T u j=0:=fun j f ne=>by
   by_cases c:u<r/\j<r
   ·exact hd u j c.1 c.2 (Ne.symm ne)
   ·exact L.li.to u j a f ω
  by_cases c:i<r
  ·rw[if_pos c,Tb.IP,Tb.ER (u:=u) (r-i) i fun j h1 h2 g=>by rw[zY (show j<k from ω)];exact zero j ω g]
   by_cases b:i<=u/\u<r
   ·rw[if_pos ω,if_pos b,zY ω]
   ·rw[if_neg ω,if_neg b]
  ·rw[if_neg c,if_neg ω,zY hi]
   exact L.li.to u i a hi (.inr ω)
 ·rw[Nat.mul_add,Nat.mul_one];have:=L.te;(first|lia|omega)
 ·rw[j3,Nat.mul_add];(first|lia|omega)
 ·rw[j3];(first|lia|omega)
end
end K24
end
section
namespace Tb
def IV{k:Nat}{a b:Vc}{q:Int}(h:∀t,t<k->q ∣ b t):q ∣ dot k a b:=by
 induction k with
 |zero=>exact Int.dvd_zero _
 |succ k ih=>exact Int.dvd_add (ih fun t c=>h t ω) (Int.dvd_trans (h k ω) (Int.dvd_mul_left _ _))
def Fj{k:Nat}{x c:Vc}{Z:Nat->Vc}{e:Vc}:∀n,dot n (fun j=>dot k x (fun l=>c l*Z l j)) e=dot k x (fun l=>c l*dot n (Z l) e)
 |0=>by
  show(0:Int)=dot k x (fun l=>c l*0);have:∀k,dot k x (fun l=>c l*0)=0:=fun k=>by
   induction k with
   |zero=>rfl
   |succ k ih=>show dot k x _+x k*(c k*0)=0;rw[ih];simp
  rw[this]
 |n+1=>by
  show dot n _ e+dot k x (fun l=>c l*Z l n)*e n=dot k x (fun l=>c l*(dot n (Z l) e+Z l n*e n));rw[Fj n,A9 _ (e n),Int.add_comm,<-kU];exact zj fun l _=>by
   show e n*(c l*Z l n)+c l*dot n (Z l) e=c l*(dot n (Z l) e+Z l n*e n);rw[Bg,A9 (e n),AU,Int.add_comm]
def Fn{n i:Nat}{s:Int}{e:Vc}(hi:i<n):dot n (fun j=>if i=j then s else 0) e=s*e i:=by
 have:∀m,m<=n->dot m (fun j=>if i=j then s else 0) e=if i<m then s*e i else 0:=by
  intro m
  induction m with
  |zero=>intro _;rw[if_neg ω];rfl
  |succ m ih=>
   intro b;show dot m _ e+(if i=m then s else 0)*e m=_;rw[ih ω]
   by_cases c:i=m
   ·subst c;rw[if_neg ω,if_pos rfl,if_pos ω];(first|lia|omega)
   ·rw[if_neg c]
    by_cases a:i<m
    ·rw[if_pos a,if_pos ω];(first|lia|omega)
    ·rw[if_neg a,if_neg ω];(first|lia|omega)
 rw[this n (Ad _),if_pos hi]
def NF{n:Nat}{z a b:Vc}:dot n z (fun j=>a j-b j)=dot n z a-dot n z b:=by
 have:=kU (k:=n) (a:=z) (b:=b) (b':=a) (x:=-1);rw[show dot n z a-dot n z b=-1*dot n z b+dot n z a from ω,<-this];exact zj fun t _=>ω
def bq(q:Nat)(s:Int):Nat:=q / Nat.gcd s.natAbs q
def C4{q:Nat}{s:Int}:Nat.gcd s.natAbs q*bq q s=q:=Nat.mul_div_cancel' (Nat.gcd_dvd_right _ _)
def C5{q:Nat}{s:Int}(hq:1<=q):1<=bq q s:=by
 rcases Nat.eq_zero_or_pos (bq q s) with z|z
 ·have:=C4 (q:=q) (s:=s);rw[z] at this;(first|lia|omega)
 ·exact z
def NG{q:Nat}{s:Int}(hq:1<=q)(h:¬(q:Int) ∣ s):2<=bq q s:=by
 have h1:=C5 (s:=s) hq;rcases Bi (bq q s) 2 with c|c
 ·have e:=C4 (q:=q) (s:=s)
  rw[show bq q s=1 from ω,Nat.mul_one] at e;refine absurd ?_ h;have:=Nat.gcd_dvd_left s.natAbs q;rw[e] at this;exact Int.ofNat_dvd_left.mpr this
 ·exact c
def NH{q:Nat}{s y:Int}(h:(bq q s:Int) ∣ y):(q:Int) ∣ s*y:=by
 obtain⟨f,rfl⟩:=h;obtain⟨i,j⟩:=Nat.gcd_dvd_left s.natAbs q;have e:=C4 (q:=q) (s:=s);have hd:((Nat.gcd s.natAbs q:Nat):Int) ∣ s:=Int.ofNat_dvd_left.mpr (Nat.gcd_dvd_left _ _);obtain⟨c,d⟩:=hd;refine⟨c*f,?_⟩;have a:(q:Int)=(Nat.gcd s.natAbs q:Nat)*(bq q s:Nat):=by rw[<-Int.natCast_mul,e]
 clear j i e;generalize ((Nat.gcd s.natAbs q:Nat):Int)=g at d a;generalize ((bq q s:Nat):Int)=b at a ⊢;rw[a,d,AU,AU,Int.mul_left_comm c]
def NI{q:Nat}{s e:Int}(hq:1<=q)(h:(q:Int) ∣ s*e):(bq q s:Int) ∣ e:=by
 have h1:q ∣ s.natAbs*e.natAbs:=by rw[<-AB];exact Int.ofNat_dvd_left.mp h
 have a:0<Nat.gcd s.natAbs q:=Nat.gcd_pos_of_pos_right _ hq;have b:Nat.Coprime (bq q s) (s.natAbs / Nat.gcd s.natAbs q):=(Nat.coprime_div_gcd_div_gcd a).symm;have es:s.natAbs=Nat.gcd s.natAbs q*(s.natAbs / Nat.gcd s.natAbs q):=(Nat.mul_div_cancel' (Nat.gcd_dvd_left _ _)).symm;have h2:Nat.gcd s.natAbs q*bq q s ∣ Nat.gcd s.natAbs q*((s.natAbs / Nat.gcd s.natAbs q)*e.natAbs):=by
  rw[C4,<-AN,<-es];exact h1
 have c:bq q s ∣ (s.natAbs / Nat.gcd s.natAbs q)*e.natAbs:=Nat.dvd_of_mul_dvd_mul_left a h2;exact Int.ofNat_dvd_left.mpr (b.dvd_of_dvd_mul_left c)
def IW:∀{l:List Nat},(∀x∈l,1<=x)->1<=pr l
 |[],_=>Ad _
 |t::l,h=>Nat.mul_pos (h t (.head _)) (IW fun x hx=>h x (.tail _ hx))
def IX{k w i q:Nat}{s s':Nat->Int}{X Z:Nat->Vc}(E:∀a j,a<k->j<w->dot k (X a) (fun l=>s' l*Z l j)=if a=j then s a else 0)(hk:i<k)(hw:i<w)(hq:1<=q)(F:∀l,i<=l->l<k->(q:Int) ∣ s' l)(G:∀j,j<i->s j=s' j):(q:Int) ∣ s i:=by
 refine AE fun no=>?_;have A:=NG hq no
 let g:List Int->List Int:=fun c=>(Ah i).map fun l=>dot (i+1) (Z l) (vl c)%(bq q (s l):Int)
 have big:(allb ((Ah i).map fun j=>bq q (s j))).length<(allb ((Ah (i+1)).map fun j=>bq q (s j))).length:=by
  rw[kS,kS,List.range_succ,AD,wP];have:=IW (l:=(Ah i).map fun j=>bq q (s j)) fun x hx=>by
   obtain⟨j,_,rfl⟩:=List.mem_map.mp hx;exact C5 hq
  show _<_*(bq q (s i)*1);rw[Nat.mul_one];have h2:pr ((Ah i).map fun j=>bq q (s j))*2<=pr ((Ah i).map fun j=>bq q (s j))*bq q (s i):=Al _ A;(first|lia|omega)
 obtain⟨c,hc,d,hd,ne,e⟩:=fh g _ _ (p0 _) (fun c _=>jC.mpr ⟨by simp[g],fun l x t hx b=>by
  simp only[g,Aj] at hx b
  by_cases f:l<i
  ·rw[AK f] at hx b
   simp at hx b;subst hx b;have:(0:Int)<(bq q (s l):Int):=by have:=C5 (s:=s l) hq;(first|lia|omega)
   exact⟨Int.emod_nonneg _ ω,Int.emod_lt_of_pos _ this⟩
  ·rw[List.getElem?_eq_none (by simpa using f)] at hx;cases hx⟩) big
 obtain⟨v,y⟩:=jC.mp hc;obtain⟨ld,bd⟩:=jC.mp hd;rw[Aa,AY] at v ld;have o:∀a,a<=i->(q:Int) ∣ s a*(vl c a-vl d a):=fun a H=>by
  have h1:dot (i+1) (fun j=>dot k (X a) (fun l=>s' l*Z l j)) (fun j=>vl c j-vl d j)=s a*(vl c a-vl d a):=by
   rw[<-Fn (n:=i+1) (e:=fun j=>vl c j-vl d j) (show a<i+1 from ω)];exact zJ fun j I=>E a j ω ω
  rw[<-h1,Fj];refine IV fun l f=>?_;rcases Bi l i with c1|c1
  ·rw[<-G l c1]
   refine NH ?_;rw[NF];have e2:dot (i+1) (Z l) (vl c)%(bq q (s l):Int)=dot (i+1) (Z l) (vl d)%(bq q (s l):Int):=by
    have:=congrArg (fun x:List Int=>x[l]?) e;simp only[g,Aj,AK c1] at this;exact AV this
   exact Int.dvd_of_emod_eq_zero (by rw[Int.sub_emod,e2];simp)
  ·exact Int.dvd_trans (F l c1 f) (Int.dvd_mul_right _ _)
 refine ne (AT ω fun a h1 h2=>?_);have r:=NI hq (o a ω);have C:vl c a=c[a]:=by unfold vl;rw[Ac,Ab h1];rfl
 have p:vl d a=d[a]:=by unfold vl;rw[Ac,Ab h2];rfl
 rw[C,p] at r;have u:((Ah (i+1)).map fun j=>bq q (s j))[a]?=some (bq q (s a)):=by rw[Aj,AK ω];rfl
 have r1:=y a _ _ (Ab h1) u;have r2:=bd a _ _ (Ab h2) u;obtain⟨z,hz⟩:=r;have J:=C5 (s:=s a) hq;have D:z=0:=by
  rcases Int.lt_trichotomy z 0 with h|h|h
  ·have:(bq q (s a):Int)*z<=(bq q (s a):Int)*(-1):=Int.mul_le_mul_of_nonneg_left ω ω
   (first|lia|omega)
  ·exact h
  ·have:(bq q (s a):Int)*1<=(bq q (s a):Int)*z:=Int.mul_le_mul_of_nonneg_left ω ω
   (first|lia|omega)
 rw[D,A8] at hz;(first|lia|omega)
def NJ{k w:Nat}{s s':Nat->Int}{X Z u v:Nat->Vc}(h:∀a j,a<k->j<w->dot k (X a) (fun l=>s' l*Z l j)=if a=j then s a else 0)(r:∀a j,a<k->j<w->dot k (u a) (fun l=>s l*v l j)=if a=j then s' a else 0)(f:∀i,0<=s i)(d:∀i,0<=s' i)(hd:∀i l,i<=l->l<k->s i ∣ s l)(e:∀i l,i<=l->l<k->s' i ∣ s' l):∀i,i<k->i<w->s i=s' i:=by
 intro i
 induction i using Nat.strongRecOn with
 |_ i ih=>
  intro hk hw;have go:∀{s s':Nat->Int}{X Z:Nat->Vc},(∀a j,a<k->j<w->dot k (X a) (fun l=>s' l*Z l j)=if a=j then s a else 0)->(∀i,0<=s i)->(∀i,0<=s' i)->(∀i l,i<=l->l<k->s' i ∣ s' l)->(∀j,j<i->s j=s' j)->s' i ∣ s i:=by
   intro s s' X Z h f d e p
   by_cases z:s' i=0
   ·have g:∀l,i<=l->l<k->s' l=0:=fun l h1 h2=>by
     have:=e i l h1 h2;rw[z] at this;exact Int.zero_dvd.mp this
    have hb:=f i;have:=IX (q:=(s i).toNat+1) h hk hw ω (fun l h1 h2=>by rw[g l h1 h2];exact Int.dvd_zero _) p;rw[z];refine Int.zero_dvd.mpr ?_;rcases Int.lt_or_le 0 (s i) with c|c
    ·have:=Int.le_of_dvd c this
     (first|lia|omega)
    ·(first|lia|omega)
   ·have hp:=d i
    have:=IX (q:=(s' i).toNat) h hk hw ω (fun l h1 h2=>by rw[Int.toNat_of_nonneg hp];exact e i l h1 h2) p
    rwa [Int.toNat_of_nonneg hp] at this
  have a:=go h f d e fun j o=>ih j o ω ω;have b:=go r d f hd fun j o=>(ih j o ω ω).symm;exact Int.dvd_antisymm (f i) (d i) b a
def iP{n k:Nat}{x y:Vc}{B:Nat->Vc}:dot n (fun l=>dot k x (fun s=>B s l)) y=dot k x (fun s=>dot n (B s) y):=by
 have:=Fj (k:=k) (x:=x) (c:=fun _=>1) (Z:=B) (e:=y) n;have e1:dot n (fun j=>dot k x (fun l=>(1:Int)*B l j)) y=dot n (fun l=>dot k x (fun s=>B s l)) y:=zJ fun t _=>zj fun s _=>Int.one_mul _;have e2:dot k x (fun l=>(1:Int)*dot n (B l) y)=dot k x (fun s=>dot n (B s) y):=zj fun s _=>Int.one_mul _;rw[<-e1,this,e2]
def zM{a b:Vc}:∀k,dot k a b=dot k b a
 |0=>rfl
 |k+1=>by show dot k a b+a k*b k=dot k b a+b k*a k;rw[zM k,A9]
def IY{k w n:Nat}{A U:Nat->Vc}{X y:Vc}:aQ k w A (fun t=>dot n X (fun l=>U l t)) y=dot n X (fun l=>aQ k w A (U l) y):=by
 unfold aQ;exact iP
def Fq{k w n:Nat}{A V:Nat->Vc}{x Z:Vc}:aQ k w A x (fun t=>dot n Z (fun l=>V l t))=dot n Z (fun l=>aQ k w A x (V l)):=by
 unfold aQ;have e:dot k x (fun s=>dot w (A s) (fun t=>dot n Z (fun l=>V l t)))=dot k x (fun s=>dot n (fun l=>dot w (A s) (V l)) Z):=zj fun s _=>by
  rw[zM w,iP,zM n];exact zJ fun l _=>zM w
 rw[e,<-iP,zM n]
def qJ{a b:Vc}:∀n,dot (n+1) a b=a 0*b 0+dot n (fun u=>a (u+1)) (fun u=>b (u+1))
 |0=>by show(0:Int)+a 0*b 0=a 0*b 0+0;(first|lia|omega)
 |n+1=>by
  show dot (n+1) a b+a (n+1)*b (n+1)=a 0*b 0+(dot n _ _+a (n+1)*b (n+1));rw[qJ n];(first|lia|omega)
def C6{p:Nat}:∀(L:List Vc)(c:List Int),c.length=L.length->cmb c L p=dot L.length (fun i=>c.getD i 0) (fun i=>(L.getD i fun _=>0) p)
 |[],[],_=>rfl
 |v::L,a::c,h=>by
  rw[AH,qJ];show a*v p+cmb c L p=_;rw[C6 L c (Nat.succ.inj h)]
  rfl
def k7(U:Nat->Vc):Nat->Nat->Nat
 |0,_=>1
 |i+1,n=>k7 U i n+dotA (U i) n
where dotA (v:Vc):Nat->Nat
 |0=>0
 |n+1=>dotA v n+(v n).natAbs
def IZ{v:Vc}:∀{n t:Nat},t<n->(v t).natAbs<=k7.dotA v n
 |n+1,t,h=>by
  show _<=k7.dotA v n+(v n).natAbs
  by_cases c:t=n
  ·rw[c];(first|lia|omega)
  ·have:=IZ (v:=v) (n:=n) (t:=t) ω
   (first|lia|omega)
def I0{U:Nat->Vc}{n t:Nat}(a:t<n):∀{k i:Nat},i<k->(U i t).natAbs<=k7 U k n
 |k+1,i,h=>by
  show _<=k7 U k n+k7.dotA (U k) n
  by_cases c:i=k
  ·rw[c]
   have:=IZ (v:=U k) a;(first|lia|omega)
  ·have:=I0 (U:=U) a (k:=k) (i:=i) ω
   (first|lia|omega)
def Fv{U:Nat->Vc}{n:Nat}:∀k,1<=k7 U k n
 |0=>Ad _
 |k+1=>Ae (Fv k) (A0 _ _)
def NK{n:Nat}{U B:Nat->Vc}(h:∀i j,i<n->j<n->dot n (U i) (fun s=>B s j)=dl i j):∀i j,i<n->j<n->dot n (B i) (fun s=>U s j)=dl i j:=by
 intro d f q r
 let R:List Vc:=(Ah n).map U++[un d]
 have w:R.length=n+1:=by simp[R]
 have G:∀i,i<n->(R.getD i fun _=>0)=U i:=fun i hi=>by
  simp only[R];rw[Ac,List.getElem?_append_left (by simpa using hi),Aj,AK hi]
  rfl
 have H:(R.getD n fun _=>0)=un d:=by
  simp only[R];rw[Ac,List.getElem?_append_right (by simp)];simp
 obtain⟨c,E,⟨x,hx,u⟩,hz,_⟩:=dE (R:=R) (P:=Ah n) (M:=k7 U n n) (Fv _) (fun v hv p hp=>by
  have hp:=List.mem_range.mp hp;rcases List.mem_append.mp hv with hv|hv
  ·obtain⟨i,hi,rfl⟩:=List.mem_map.mp hv
   exact I0 hp (List.mem_range.mp hi)
  ·rw[List.mem_singleton.mp hv]
   refine Ae ?_ (Fv n);unfold un dl;split<;>decide) (by rw[AY,w];(first|lia|omega))
 let a:Vc:=fun i=>c.getD i 0
 have eq:∀p,p<n->dot n a (fun i=>U i p)+a n*dl d p=0:=fun p hp=>by
  have:=hz p (List.mem_range.mpr hp);rw[C6 R c E,w] at this;have e:dot (n+1) (fun i=>c.getD i 0) (fun i=>(R.getD i fun _=>0) p)=dot n a (fun i=>(R.getD i fun _=>0) p)+a n*(R.getD n fun _=>0) p:=rfl;rw[e,H] at this;rw[zj (b':=fun i=>U i p) (fun i hi=>by rw[G i hi])] at this;exact this
 have g:∀j,j<n->a j=-(a n*B d j):=fun j o=>by
  have e1:dot n (fun p=>dot n a (fun i=>U i p)+a n*dl d p) (fun p=>B p j)=0:=zS fun p hp=>eq p hp;have e2:dot n (fun p=>dot n a (fun i=>U i p)+a n*dl d p) (fun p=>B p j)=dot n (fun p=>dot n a (fun i=>U i p)) (fun p=>B p j)+a n*dot n (fun p=>dl d p) (fun p=>B p j):=by
   have:=pB (k:=n) (a:=fun p=>dot n a (fun i=>U i p)) (a':=fun p=>dl d p) (b:=fun p=>B p j) (x:=1) (y:=a n)
   simpa using this
  have e3:dot n (fun p=>dot n a (fun i=>U i p)) (fun p=>B p j)=a j:=by
   rw[iP (B:=U),zj (b':=fun s=>dl s j) (fun s C=>h s j C o),pF o]
  have I:dot n (fun p=>dl d p) (fun p=>B p j)=B d j:=k5 q;rw[e2,e3,I] at e1;(first|lia|omega)
 have nz:a n≠0:=fun z=>by
  have l:∀j,j<n->a j=0:=fun j o=>by rw[g j o,z];simp
  obtain⟨i,hi,rfl⟩:=AX hx;have A:a i=c[i]:=by show c.getD i 0=_;rw[Ac,Ab hi];rfl
  by_cases L:i<n
  ·exact u (by rw[<-A];exact l i L)
  ·have:i=n:=ω
   subst this;exact u (by rw[<-A];exact z)
 have e:=eq f r;have J:dot n a (fun i=>U i f)=-(a n)*dot n (B d) (fun i=>U i f):=by
  have:=pB (k:=n) (a:=B d) (a':=fun _=>0) (b:=fun i=>U i f) (x:=-(a n)) (y:=0);simp only[Int.zero_mul,Int.add_zero] at this;rw[<-this];refine zJ fun t D=>?_;rw[g t D];simp[Int.neg_mul]
 rw[J] at e;have F:a n*(dl d f-dot n (B d) (fun i=>U i f))=0:=by
  rw[Int.mul_sub];rw[Int.neg_mul] at e;(first|lia|omega)
 rcases Int.mul_eq_zero.mp F with z|z
 ·exact absurd z nz
 ·(first|lia|omega)
def Fx{w q:Nat}{a c:Vc}{X:Nat->Vc}:dot w a (fun t=>dot q c (fun j=>X j t))=dot q c (fun j=>dot w a (X j)):=by
 rw[zM,iP (B:=X)];exact zj fun j _=>zM w
structure Kp(k w r:Nat)(W V VB:Nat->Vc):Prop where
 rw:r<=w
 v1:∀i j,i<w->j<w->dot w (V i) (fun s=>VB s j)=dl i j
 v2:∀i j,i<w->j<w->dot w (VB i) (fun s=>V s j)=dl i j
 ker:∀x:Vc,(∀i,i<k->dot w (W i) x=0)↔∀j,j<r->dot w (VB j) x=0
def Kp.out{k w r:Nat}{W V VB:Nat->Vc}(h:Kp k w r W V VB){x:Vc}(hk:∀i,i<k->dot w (W i) x=0)(f:∀i,i<w-r->dot w (VB (r+i)) x=0):∀t,t<w->x t=0:=fun t a=>by
 have all:∀j,j<w->dot w (VB j) x=0:=fun j g=>by
  by_cases c:j<r
  ·exact(h.ker x).mp hk j c
  ·have:=f (j-r) ω
   rwa [show r+(j-r)=j from ω] at this
 have e:x t=dot w (V t) (fun s=>dot w (VB s) x):=by
  rw[<-iP (B:=VB),zJ (a':=fun l=>dl t l) (fun l b=>h.v1 t l a b)];exact(k5 a).symm
 rw[e,zM];exact zS fun s d=>all s d
def Kp.ind{k w r:Nat}{W V VB:Nat->Vc}(h:Kp k w r W V VB){c:Vc}(hz:∀t,t<w->dot (w-r) c (fun j=>V t (r+j))=0):∀j,j<w-r->c j=0:=fun j a=>by
 have e:dot w (VB (r+j)) (fun t=>dot (w-r) c (fun i=>V t (r+i)))=0:=by
  rw[zM];exact zS hz
 rw[Fx (X:=fun i t=>V t (r+i))] at e;rw[zj (b':=fun i=>dl i j) (fun i hi=>by
  rw[h.v2 (r+j) (r+i) ω ω];unfold dl
  by_cases z:i=j
  ·rw[if_pos z,if_pos ω]
  ·rw[if_neg z,if_neg ω])] at e
 rwa [pF a] at e
def C7(R:List Vc)(P:List Nat)(X:Nat):Prop:=∀p∈P,∃c:List Int,c.length=R.length/\cmb c R p≠0/\(∀q∈P,q≠p->cmb c R q=0)/\∀x∈c,x.natAbs<=X
def I_{R:List Vc}{P:List Nat}{X V:Nat}{v:Vc}(i:C7 R P X)(hv:∀p∈P,(v p).natAbs<=V):∀Q:List Nat,Q.Nodup->(∀q∈Q,q∈P)->∃(D:Int)(s:List Int),D≠0/\s.length=R.length/\(∀q∈Q,cmb s R q=D*v q)/\(∀q∈P,q∉Q->cmb s R q=0)/\∀x∈s,x.natAbs<=D.natAbs*(Q.length*(V*X))
 |[],_,_=>⟨1,Aq R.length 0,ξ,List.length_replicate,(fun q hq=>nomatch hq),fun q _ _=>pa _ _ _,fun x hx=>by rw[(List.mem_replicate.mp hx).2];simp⟩
 |p::Q,hn,hs=>by
  obtain⟨n1,n2⟩:=List.nodup_cons.mp hn;obtain⟨D,s,j,e,e1,e2,b⟩:=I_ i hv Q n2 fun q hq=>hs q (.tail _ hq);have hp:=hs p (.head _);obtain⟨c,f,g,h,l⟩:=i p hp;refine⟨D*cmb c R p,Av (fun a b=>cmb c R p*a+(D*v p)*b) s c,Int.mul_ne_zero j g,by rw[Au];(first|lia|omega),fun q hq=>?_,fun q hq d=>?_,fun x hx=>?_⟩
  ·rw[fV _ _ s c R e f]
   rcases List.mem_cons.mp hq with rfl|hq
   ·rw[e2 q hp n1,A8,Int.zero_add,Int.mul_right_comm]
   ·rw[e1 q hq,h q (hs q (.tail _ hq)) (fun z=>n1 (z▸hq)),A8,Int.add_zero,Int.mul_left_comm,AU]
  ·rw[fV _ _ s c R e f,e2 q hq (fun z=>d (.tail _ z)),h q hq (fun z=>d (z▸.head _)),A8,A8];rfl
  ·obtain⟨a,o,b',r,rfl⟩:=Et hx
   have h1:=b a o;have h2:=l b' r;have u:=hv p hp;have k:=pe g;generalize cmb c R p=E at k ⊢;have w:(E*a).natAbs<=E.natAbs*(D.natAbs*(Q.length*(V*X))):=by rw[AB];exact Al _ h1
   have y:(D*v p*b').natAbs<=D.natAbs*(V*X):=by
    rw[AB,AB,AN];exact Al _ (AQ u h2)
   have A:=Int.natAbs_add_le (E*a) (D*v p*b');have C:D.natAbs*(V*X)<=E.natAbs*(D.natAbs*(V*X)):=Nat.le_mul_of_pos_left _ k;have F:(D*E).natAbs*((Q.length+1)*(V*X))=E.natAbs*(D.natAbs*(Q.length*(V*X)))+E.natAbs*(D.natAbs*(V*X)):=by
    rw[AB,Nat.add_mul,Nat.one_mul,Nat.mul_add,Nat.mul_comm D.natAbs E.natAbs,AN,AN]
   show _<=(D*E).natAbs*((Q.length+1)*(V*X));rw[F];exact Ae A (Nat.add_le_add w (Ae y C))
def NL{R:List Vc}{P:List Nat}{X V:Nat}{c:List Int}(l:C7 R P X)(o:P.length=R.length)(r:P.Nodup)(hi:Inj R P)(hc:c.length=R.length)(hv:∀p∈P,(cmb c R p).natAbs<=V):∀x∈c,x.natAbs<=R.length*(V*X):=by
 obtain⟨D,s,e,f,e1,_,b⟩:=I_ l hv P r fun q hq=>hq;have hz:=hi (Av (fun a b=>D*a+(-1)*b) c s) (by rw[Au];(first|lia|omega)) fun p hp=>by
  rw[fV _ _ c s R hc f,e1 p hp];(first|lia|omega)
 intro x hx;obtain⟨i,g,rfl⟩:=AX hx;have h:i<s.length:=ω
 have d:i<(Av (fun a b=>D*a+(-1)*b) c s).length:=by rw[Au];(first|lia|omega)
 have j:=hz _ (Ap d);rw[AR] at j;have h1:=b _ (Ap h);have h2:s[i]=D*c[i]:=ω
 rw[h2,AB,o] at h1;exact Nat.le_of_mul_le_mul_left h1 (pe e)
def NM{N M X B:Nat}{R:List Vc}(hi:iC R)(b:R.length<=N)(hb:∀r∈R,∀u,(r u).natAbs<=M)(v:N*(X*M)<=B)(j:∀(P:List Nat)(f:Nat->Vc),Ech P f->P.Pairwise (·<·)->(∀r∈R,Sp (P.map f) r)->(∀p∈P,Sp R (f p))->P.length=R.length->C7 R P X):Bd N M X B R:=by
 refine⟨hi,fun P f h a d i e=>⟨fun p hp=>?_,fun r hr p _=>hb r hr p,fun c V hc hv x hx=>?_⟩⟩
 ·obtain⟨c,w,l,o,s⟩:=j P f h a d i e p hp
  have hd:=jo h a hp (Sp.cmb c R d) fun q hq g=>o q hq (AA g);have:=Nat.le_of_dvd (pe l) (Int.natAbs_dvd_natAbs.mpr hd);exact Ae this (Ae (pb c R s fun r hr=>hb r hr p) (Ae (Ak _ b) v))
 ·exact Ae (NL (j P f h a d i e) e (a.imp fun h=>AA h) (ph hi h a d) hc hv x hx) (Ak _ b)
def x5{n M:Nat}{b:Nat->Vc}(l:1<=M):∀(T:List Nat),(∀s∈T,∀i,i<n->(b s i).natAbs<=M)->∃I:List Nat,(∀s∈I,s∈T)/\Inj (I.map b) (Ah n)/\I.length<=n/\∀s∈T,∃(a:Int)(e:List Int),a≠0/\e.length=I.length/\∀i,i<n->a*b s i+cmb e (I.map b) i=0
 |[],_=>⟨[],(fun s h=>nomatch h),(fun c hc _ x hx=>by rw[AG hc] at hx;cases hx),At _,fun s h=>nomatch h⟩
 |s::T,hb=>by
  obtain⟨I,i1,i2,o,j⟩:=x5 l T fun s h=>hb s (.tail _ h)
  by_cases c:Inj ((s::I).map b) (Ah n)
  ·refine⟨s::I,fun x hx=>?_,c,?_,fun x hx=>?_⟩
   ·rcases List.mem_cons.mp hx with e|e
    ·rw[e];exact .head _
    ·exact .tail _ (i1 x e)
   ·refine AE fun no=>?_
    obtain⟨d,d1,⟨y,hy,g⟩,d2,_⟩:=dE (R:=(s::I).map b) (P:=Ah n) l (fun v hv p hp=>by
     obtain⟨z,hz,rfl⟩:=List.mem_map.mp hv;refine hb z ?_ p (List.mem_range.mp hp);rcases List.mem_cons.mp hz with e|e
     ·rw[e];exact .head _
     ·exact .tail _ (i1 z e)) (by rw[Aa,AY];(first|lia|omega))
    exact g (c d d1 d2 y hy)
   ·rcases List.mem_cons.mp hx with e|e
    ·refine⟨1,(-1)::Aq I.length 0,ξ,by simp,fun i hi=>?_⟩
     rw[e];show 1*b s i+((-1)*b s i+cmb (Aq I.length 0) (I.map b) i)=0;rw[pa];(first|lia|omega)
    ·obtain⟨a,d,q,f,hd⟩:=j x e
     refine⟨a,0::d,q,by simp[f],fun i hi=>?_⟩;show a*b x i+(0*b s i+cmb d (I.map b) i)=0;have:=hd i hi;(first|lia|omega)
  ·refine⟨I,fun x hx=>.tail _ (i1 x hx),i2,o,fun x hx=>?_⟩
   rcases List.mem_cons.mp hx with e|e
   ·obtain⟨d,d1,d2,y,hy,g⟩:∃d:List Int,d.length=((s::I).map b).length/\(∀p∈Ah n,cmb d ((s::I).map b) p=0)/\∃y∈d,y≠0:=by
     refine AE fun no=>c fun d d1 d2 y hy=>?_;exact AE fun g=>no ⟨d,d1,d2,y,hy,g⟩
    cases d with
    |nil=>simp at d1
    |cons a d=>
     have f:d.length=I.length:=by simpa using d1
     refine⟨a,d,fun z=>?_,f,fun i hi=>by rw[e];exact d2 i (List.mem_range.mpr hi)⟩;have r:=i2 d (by rw[Aa];exact f) fun p hp=>by
      have:=d2 p hp;have this:a*b s p+cmb d (I.map b) p=0:=this;rw[z] at this;(first|lia|omega)
     rcases List.mem_cons.mp hy with e|e
     ·exact g (e.trans z)
     ·exact g (r y e)
   ·exact j x e
def Ja{t:Int}{a b:Nat->Int}:∀(e:List Int)(I:List Nat),cmb e (I.map fun s=>fun _=>a s+t*b s) 0=cmb e (I.map fun s=>fun _=>a s) 0+t*cmb e (I.map fun s=>fun _=>b s) 0
 |[],[]=>by show(0:Int)=0+t*0;(first|lia|omega)
 |[],_::_=>by show(0:Int)=0+t*0;(first|lia|omega)
 |_::_,[]=>by show(0:Int)=0+t*0;(first|lia|omega)
 |x::e,s::I=>by
  show x*(a s+t*b s)+cmb e _ 0=x*a s+cmb e _ 0+t*(x*b s+cmb e _ 0);rw[Ja e I,Bg,Bg,Int.mul_left_comm];(first|lia|omega)
def small{L:List Vc}{g:Vc}{T:List Nat}{M:Nat}(r:1<=M)(F:∀l∈L,∀s∈T,(l s).natAbs<=M)(hg:∀s∈T,(g s).natAbs<=M)(hi:Inj L T){o:List Int}{q:Int}(W:o.length=L.length)(X:q≠0)(H:∀s∈T,cmb o L s+q*g s=0):∃(c:List Int)(t:Int),c.length=L.length/\t≠0/\(∀s∈T,cmb c L s+t*g s=0)/\∀x∈c,x.natAbs<=(2*(L.length+1)*M) ^ L.length:=by
 let b:Nat->Vc:=fun s i=>(L.getD i fun _=>0) s
 obtain⟨I,i1,i2,J,N⟩:=x5 (n:=L.length) (b:=b) r T fun s j i hi=>by
  show((L.getD i fun _=>0) s).natAbs<=M;rw[Ac,Ab hi];exact F _ (Ap hi) s j
 obtain⟨d,d1,⟨y,hy,u⟩,d2,d3⟩:=dE (R:=g::L) (P:=I) r (fun v hv p hp=>by
  rcases List.mem_cons.mp hv with e|e
  ·rw[e];exact hg p (i1 p hp)
  ·exact F v e p (i1 p hp)) (by rw[AH];(first|lia|omega))
 cases d with
 |nil=>simp at d1
 |cons t c=>
  have f:c.length=L.length:=by simpa using d1
  have A:∀(c:List Int),c.length=L.length->∀s,dot L.length (b s) (fun i=>c.getD i 0)=cmb c L s:=fun c f s=>by rw[C6 L c f,zM]
  have C:∀(c:List Int),c.length=L.length->∀s(a:Int)(e:List Int),(∀i,i<L.length->a*b s i+cmb e (I.map b) i=0)->a*cmb c L s+cmb e (I.map fun s=>fun _=>cmb c L s) 0=0:=fun c f s a e h=>by
   have z:dot L.length (fun i=>a*b s i+1*cmb e (I.map b) i) (fun i=>c.getD i 0)=0:=zS fun i hi=>by have:=h i hi;(first|lia|omega)
   rw[pB,EF,A c f,AS] at z;have e2:(I.map ((fun l:Vc=>fun _:Nat=>dot L.length l fun i=>c.getD i 0) ∘ b))=I.map fun s=>fun _=>cmb c L s:=AW fun s' _=>by show(fun _=>dot L.length (b s') fun i=>c.getD i 0)=_;rw[A c f]
   rw[e2] at z;(first|lia|omega)
  have all:∀s∈T,cmb c L s+t*g s=0:=fun s j=>by
   obtain⟨a,e,O,Y,w⟩:=N s j;have Z:=C o W s a e w;have w1:=C c f s a e w;have D:cmb e (I.map fun s=>fun _=>cmb o L s+q*g s) 0=0:=zK _ _ fun v hv=>by
    obtain⟨x,hx,rfl⟩:=List.mem_map.mp hv;exact H x (i1 x hx)
   have E:cmb e (I.map fun s=>fun _=>cmb c L s+t*g s) 0=0:=zK _ _ fun v hv=>by
    obtain⟨x,hx,rfl⟩:=List.mem_map.mp hv;have:=d2 x hx;have this:t*g x+cmb c L x=0:=this;show cmb c L x+t*g x=0;(first|lia|omega)
   rw[Ja] at D E;have S:=H s j;generalize cmb e (I.map fun s=>fun _=>g s) 0=G at D E;have k1:q*(a*g s+G)=0:=by
    have e1:a*(cmb o L s+q*g s)=0:=by rw[S,A8]
    rw[Bg,Int.mul_left_comm] at e1;rw[Bg];(first|lia|omega)
   have k2:a*g s+G=0:=by
    rcases Int.mul_eq_zero.mp k1 with z|z
    ·exact absurd z X
    ·exact z
   have Q:a*(cmb c L s+t*g s)=0:=by
    have e1:t*(a*g s+G)=0:=by rw[k2,A8]
    rw[Bg] at e1;rw[Bg,Int.mul_left_comm];(first|lia|omega)
   rcases Int.mul_eq_zero.mp Q with z|z
   ·exact absurd z O
   ·exact z
  refine⟨c,t,f,fun z=>?_,all,fun x hx=>?_⟩
  ·have U:=hi c f fun s j=>by have:=all s j;rw[z] at this;(first|lia|omega)
   rcases List.mem_cons.mp hy with e|e
   ·exact u (e.trans z)
   ·exact u (U y e)
  ·refine Ae (d3 x (.tail _ hx)) ?_
   rw[AH];exact AC (zV (zV ξ ω) r) J
section
variable{k j:Nat}{W S A U Bn:Nat->Vc}
def iR{n:Nat}{W:Nat->Vc}:(tl n W).length=n:=by unfold tl;simp
def Fy{c:List Int}{p:Nat}(hc:c.length=j):cmb c (tl j W) p=dot j (fun u=>c.getD u 0) (fun u=>W u p):=by
 rw[C6 _ _ (by rw[hc,iR]),iR];refine zj fun u a=>?_;unfold tl;rw[Ac,Aj,AK a];rfl
def yj{c:List Int}{i:Nat}(hc:c.length=j)(hi:i<k):cmb c (tl j (glue k (fun u i=>W i u) un)) i=dot j (fun u=>c.getD u 0) (W i):=by
 rw[Fy hc];exact zj fun u _=>zL hi
def Fz{c:List Int}{p:Nat}(hc:c.length=j)(hp:k<=p):cmb c (tl j (glue k (fun u i=>W i u) un)) p=cmb c (tl j (glue k (fun u i=>S i u) un)) p:=by
 rw[Fy hc,Fy hc];refine zj fun u _=>?_;obtain⟨t,rfl⟩:∃t,p=k+t:=⟨p-k,ω⟩;rw[zW,zW]
def yt{P:List Nat}{M M2:Nat}(I:1<=M)(jh:1<=M2)(hS:∀i u,i<k->u<j->S i u=dot k (U i) (fun s=>A s u))(hA:∀s u,s<k->u<j->A s u=dot k (fun i=>Bn i s) (fun i=>S i u))(J:∀i F,i<k->F<k->dot k (U i) (Bn F)=dl i F)(bA:∀s u,s<k->u<j->(A s u).natAbs<=M)(bB:∀i s,i<k->s<k->(Bn i s).natAbs<=M)(bS:∀r∈tl j (glue k (fun u i=>S i u) un),∀p∈P,(r p).natAbs<=M2)(D:P.length=j)(nd:P.Nodup)(hi:Inj (tl j (glue k (fun u i=>S i u) un)) P)(hz:∀i,i<k->i∉P->∀u,u<j->S i u=0):C7 (tl j (glue k (fun u i=>S i u) un)) P ((2*(j+1)*M) ^ j):=by
 intro p hp;obtain⟨w,W,L,N,_⟩:=Es jh bS (by rw[D,iR]) nd hi hp;have C:w.length=j:=by rw[W,iR]
 let g:Vc:=fun s=>if s<k then -(if p<k then Bn p s else 0) else if s=p then -1 else 0
 have G:∀s,s<k->g s=-(if p<k then Bn p s else 0):=fun s h=>if_pos h;have H:∀s,k<=s->g s=if s=p then -1 else 0:=fun s h=>if_neg ω;have X:∀(c:List Int),c.length=j->∀s,s<k->cmb c (tl j (glue k (fun u s=>A s u) un)) s=dot k (fun i=>Bn i s) (fun i=>cmb c (tl j (glue k (fun u i=>S i u) un)) i):=fun c f s b=>by
  rw[yj f b,zj (b':=fun u=>dot k (fun i=>Bn i s) (fun i=>S i u)) fun u o=>hA s u b o,Fx];exact zj fun i hi=>(yj f hi).symm
 have z:∀(c:List Int),c.length=j->∀i,i<k->cmb c (tl j (glue k (fun u i=>S i u) un)) i=dot k (U i) (fun s=>cmb c (tl j (glue k (fun u s=>A s u) un)) s):=fun c f i hi=>by
  rw[yj f hi,zj (b':=fun u=>dot k (U i) (fun s=>A s u)) fun u o=>hS i u hi o,Fx];exact zj fun s b=>(yj f b).symm
 have Q:∀i,i<k->cmb w (tl j (glue k (fun u i=>S i u) un)) i=if i=p then cmb w (tl j (glue k (fun u i=>S i u) un)) p else 0:=fun i y=>by
  by_cases e:i=p
  ·rw[if_pos e,e]
  ·rw[if_neg e]
   by_cases h:i∈P
   ·exact N i h e
   ·rw[yj C y,zM]
    exact zS fun u o=>hz i y h u o
 generalize hE:cmb w (tl j (glue k (fun u i=>S i u) un)) p=E at L Q;have k1:∀l∈tl j (glue k (fun u s=>A s u) un),∀s∈Ah k++P.filter (fun q=>decide (k<=q)),(l s).natAbs<=M:=fun l D s b=>by
  obtain⟨u,o,rfl⟩:=List.mem_map.mp D;have o:=List.mem_range.mp o
  by_cases hk:s<k
  ·rw[zL hk];exact bA s u hk o
  ·obtain⟨v,rfl⟩:∃v,s=k+v:=⟨s-k,ω⟩
   rw[zW];unfold un dl;split
   ·exact I
   ·exact At _
 have k2:∀s∈Ah k++P.filter (fun q=>decide (k<=q)),(g s).natAbs<=M:=fun s b=>by
  by_cases hk:s<k
  ·rw[G s hk,Int.natAbs_neg]
   split
   ·exact bB p s (by assumption) hk
   ·exact At _
  ·rw[H s ω]
   split
   ·exact I
   ·exact At _
 have Y:Inj (tl j (glue k (fun u s=>A s u) un)) (Ah k++P.filter (fun q=>decide (k<=q))):=fun c hc h=>by
  rw[iR] at hc;refine hi c (by rw[hc,iR]) fun q hq=>?_
  by_cases hk:q<k
  ·rw[z c hc q hk,zM]
   exact zS fun s b=>h s (A6 _ (List.mem_range.mpr b))
  ·rw[Fz (S:=A) hc ω]
   exact h q (Ay _ (List.mem_filter.mpr ⟨hq,decide_eq_true ω⟩))
 have Z:∀s∈Ah k++P.filter (fun q=>decide (k<=q)),cmb w (tl j (glue k (fun u s=>A s u) un)) s+E*g s=0:=fun s b=>by
  by_cases hk:s<k
  ·rw[X w C s hk,G s hk,zj (b':=fun i=>if i=p then E else 0) fun i hi=>Q i hi]
   by_cases a:p<k
   ·have:dot k (fun i=>Bn i s) (fun i=>if i=p then E else 0)=Bn p s*E:=by
     have:=pF (x:=fun i=>Bn i s) a;rw[zj (b':=fun i=>E*dl i p+0) fun i _=>by unfold dl;split<;>(first|lia|omega),kU,this,zM,zS fun _ _=>rfl,A9];(first|lia|omega)
    rw[this,if_pos a,Int.mul_neg,A9];(first|lia|omega)
   ·rw[zM,zS fun i hi=>if_neg ω,if_neg a];(first|lia|omega)
  ·have am:s∈P:=by
    rcases List.mem_append.mp b with h|h
    ·have:=List.mem_range.mp h;(first|lia|omega)
    ·exact(List.mem_filter.mp h).1
   have d:k<=s:=ω
   rw[H s d,Fz (S:=S) C d]
   by_cases e:s=p
   ·rw[if_pos e,e,hE];(first|lia|omega)
   ·rw[if_neg e,N s am e];(first|lia|omega)
 obtain⟨c,t,f,nt,hc,O⟩:=small I k1 k2 Y (by rw[C,iR]) L Z;rw[iR] at f O;have val:∀q∈P,cmb c (tl j (glue k (fun u i=>S i u) un)) q=if q=p then t else 0:=fun q hq=>by
  by_cases hk:q<k
  ·rw[z c f q hk,zj (b':=fun s=>t*(if p<k then Bn p s else 0)+0) fun s b=>by
    have:=hc s (A6 _ (List.mem_range.mpr b));rw[G s b,Int.mul_neg] at this;(first|lia|omega),kU]
   have T:dot k (U q) (fun _=>(0:Int))=0:=by rw[zM];exact zS fun _ _=>rfl
   rw[T]
   by_cases a:p<k
   ·simp only[if_pos a]
    rw[J q p hk a];unfold dl
    by_cases e:q=p
    ·rw[if_pos e,if_pos e];(first|lia|omega)
    ·rw[if_neg e,if_neg e];(first|lia|omega)
   ·simp only[if_neg a]
    rw[T,if_neg ω];(first|lia|omega)
  ·have d:k<=q:=ω
   have:=hc q (Ay _ (List.mem_filter.mpr ⟨hq,decide_eq_true d⟩));rw[H q d] at this;rw[Fz (S:=A) f d]
   by_cases e:q=p
   ·rw[if_pos e] at this ⊢;(first|lia|omega)
   ·rw[if_neg e] at this ⊢;(first|lia|omega)
 exact⟨c,by rw[f,iR],by rw[val p hp,if_pos rfl];exact nt,fun q hq ne=>by rw[val q hq,if_neg ne],O⟩
def Jb{w j:Nat}{A:Nat->Vc}:iC (tl j (glue w A un)):=fun c hc hz=>by
 have D:Both j ((tl j (glue w A un)).map fun r=>fun t=>r (w+t)) (tl j un):=by rw[sR];exact CQ j
 exact D.free hc fun t _=>hz _
def NN{w r b N M M2 X B:Nat}{Bl:List Vc}{Q q:Nat->Nat}(I:N0 A k w r b S U Bl Q q)(hj:j<=w)(J:j<=N)(O:1<=M)(T:1<=M2)(bA:∀s u,s<k->u<w->(A s u).natAbs<=M)(bB:∀i s,i<k->s<k->((Bl.getD i fun _=>0) s).natAbs<=M)(bS:∀i u,i<k->u<w->(S i u).natAbs<=M2)(hX:(2*(N+1)*M) ^ N<=X)(hB:N*(X*M2)<=B):Bd N M2 X B (tl j (glue k (fun u i=>S i u) un)):=by
 have rk:=I.rk
 let Bn:Nat->Vc:=fun i=>Bl.getD i fun _=>0
 have G:∀i u,i<k->u<w->S i u=dot k (U i) (fun s=>A s u):=fun i u hi g=>by
  rw[I.bl i u hi g];exact zj fun s _=>by rw[zM,k5 g]
 have o:∀i d,i<k->d<k->dot k (U i) (Bn d)=dl i d:=fun i d hi C=>by
  refine I.bu.b i d (U i) (Bn d) ?_ ?_
  ·unfold tl;rw[Aj,AK hi];rfl
  ·show Bl[d]?=some (Bl.getD d fun _=>0)
   rw[Ac,Ab (by rw[I.bu.a.lb];exact C)];rfl
 have bk:=NK (n:=k) (U:=U) (B:=fun s i=>Bn i s) o;have hA:∀s u,s<k->u<w->A s u=dot k (fun i=>Bn i s) (fun i=>S i u):=fun s u l g=>by
  rw[zj (b':=fun i=>dot k (U i) (fun s=>A s u)) fun i hi=>G i u hi g,<-iP (B:=U)];rw[zJ (a':=un s) fun t W=>by exact bk s t l W,k5 l]
 have H:∀x∈tl j (glue k (fun u i=>S i u) un),∀p,(x p).natAbs<=M2:=fun x hx p=>by
  obtain⟨u,g,rfl⟩:=List.mem_map.mp hx;have g:=List.mem_range.mp g
  by_cases hk:p<k
  ·rw[zL hk];exact bS p u hk ω
  ·obtain⟨v,rfl⟩:∃v,p=k+v:=⟨p-k,ω⟩
   rw[zW];unfold un dl;split
   ·exact T
   ·exact At _
 refine NM Jb (by rw[iR];exact J) H hB fun P f h l D hF E=>?_;rw[iR] at E;have nd:P.Nodup:=l.imp fun h=>AA h;have hz:∀i,i<k->i∉P->∀u,u<j->S i u=0:=fun i hi Y u g=>by
  by_cases hr:i<r
  ·by_cases hq:q i<j
   ·refine absurd ?_ Y
    have row:∀u,u<j->Sp (tl j (glue k (fun u i=>S i u) un)) (glue k (fun u i=>S i u) un u):=fun u g=>Sp.mem (List.mem_map.mpr ⟨u,List.mem_range.mpr g,rfl⟩);have lt:Lt (Sp (tl j (glue k (fun u i=>S i u) un))):=⟨Sp.zero,fun m hv hw=>hv.sub hw m⟩;have ql:∀d,d<i+1->q d<j:=fun d h'=>by
     by_cases e:d=i
     ·rw[e];exact hq
     ·have:=I.ql d i ω hr;(first|lia|omega)
    obtain⟨v,Z,v2,v3⟩:=alone (L:=fun i=>glue k (fun u i=>S i u) un (q i)) lt (show i+1<=k from ω) (fun d h'=>row _ (ql d h')) (fun d h'=>by rw[zL ω];exact I.sp d ω) (fun i1 y h1 h2 F=>by
     rw[zL F]
     by_cases h:y<r
     ·exact I.sz y (q i1) h (I.ql i1 y h2 h)
     ·exact I.z y (q i1) ω F (I.qw i1 ω)) i ω
    exact ES h l (Z.trans D) (fun u g=>v3 u ω ω) v2
   ·exact I.sz i u hr ω
  ·exact I.z i u ω hi ω
 have un:=yt (Bn:=Bn) O T (fun i u hi g=>G i u hi ω) (fun s u l g=>hA s u l ω) o (fun s u l g=>bA s u l ω) bB (fun x hx p _=>H x hx p) E nd (ph Jb h l D) hz;intro p hp;obtain⟨c,c1,c2,c3,c4⟩:=un p hp;refine⟨c,c1,c2,c3,fun x hx=>Ae (c4 x hx) (Ae ?_ hX)⟩;exact Ae (Nat.pow_le_pow_left (Ak _ (Al _ ω)) _) (AC (zV (zV ξ ω) O) J)
end
end Tb
end
section
namespace Tb
def Jc{w j:Nat}{A:Nat->Vc}:iC (tl j (glue w A un)):=fun c hc hz=>by
 have D:Both j ((tl j (glue w A un)).map fun r=>fun t=>r (w+t)) (tl j un):=by rw[sR];exact CQ j
 exact D.free hc fun t _=>hz _
def Jd{N n m:Nat}(a:N<=2 ^ n):sX N (2 ^ m)<=2 ^ ((1+n+m)*N):=by
 unfold sX;rw[Nat.pow_mul];refine Nat.pow_le_pow_left (zt (zt (show 2<=2 ^ 1 from ξ) a) (Ad _)) _
def NO{N n m:Nat}(a:N<=2 ^ n):sB N (2 ^ m)<=2 ^ (n+((1+n+m)*N+m)):=zt a (zt (Jd a) (Ad _))
def C8{i t:Nat}:(un i t).natAbs<=1:=by unfold un dl;split<;>decide
end Tb
namespace K24
open PySem L2
def qN{n:Nat}:Ent (unT n) (2 ^ 0):=qt C1 fun i hi u=>by rw[ng hi];exact Tb.C8
section
variable{N n m k w:Nat}{tb:Ξ}
def C9{q j i:Nat}{S:Ξ}(hi:i<j):Tb.glue q (fn S) (fn (unT j)) i=Tb.glue q (fn S) Tb.un i:=xX (fun _ _=>rfl) (ng hi)
def k8(G:Good N n m){mu x b:Nat}(v:mu<=m2 N n m)(z:x<=x2 N n m)(d:b<=ga N n m)(g:k<=N)(y:w<=N)(l:tb.length=k)(hw:∀r∈tb,r.length=w)(o:Ent tb (2 ^ mu))(bd:∀j,j<=k->Tb.Bd N (2 ^ mu) (2 ^ x) (2 ^ b) (Tb.tl j (Tb.glue w (fn tb) Tb.un))):Side N (2 ^ mu) (2 ^ x) (2 ^ b) (2 ^ mu) w k tb (unT k) (unT k):=by
 have h:=iL G;have q:=G.N40;have le:∀i,i<k->∀u,(Tb.glue w (fn tb) (fn (unT k)) i u).natAbs<=2 ^ mu:=fun i hi u=>by
  rw[C9 hi];exact x3 (fun u _=>o i u) (fun s=>Ae Tb.C8 AI) u
 have e:∀{j},j<=k->Tb.tl j (Tb.glue w (fn tb) (fn (unT k)))=Tb.tl j (Tb.glue w (fn tb) Tb.un):=fun{j} a=>Tb.gM fun i hi=>C9 ω;have c:m2 N n m<=k0 N n m:=by unfold k0;(first|lia|omega)
 refine⟨l,C1,C1,hw,nq,nq,ω,ω,g,G.N1,ω,fun j a=>?_,fun i hi P f F p hp=>le i hi p,le,AI,AI,AI,Nat.pow_lt_pow_right ξ (by have:=G.piv;(first|lia|omega)),?_,?_⟩
 ·rw[e a];exact bd j a
 ·exact G.cE ⟨_,rfl,d⟩ rfl rfl rfl (t:=0) ω ω ω ω
 ·exact G.ent (t:=0) (qN) ω ω
def Je(G:Good N n m):m<=m2 N n m/\(1+n+m)*N<=x1 N n m/\x1 N n m<=x2 N n m/\n+(x1 N n m+m)<=be N n m/\be N n m<=ga N n m/\(2+2*n+m+N)*N<=x2 N n m/\n+(x2 N n m+m2 N n m)<=ga N n m:=by
 have h:=iL G;have h1:x1 N n m<=dd N n m:=Ak _ ω;have h2:x1 N n m=(1+n+m)*N:=rfl;have a:x2 N n m=m2 N n m+(2+2*n+m+N)*N:=rfl;have b:ga N n m=n+x2 N n m+m2 N n m:=rfl;have c:be N n m=n+m+dd N n m:=rfl;have d:m2 N n m=2*n+be N n m+x1 N n m+m:=rfl;(first|lia|omega)
def yA(G:Good N n m)(b:k<=N)(c:w<=N)(l:tb.length=k)(hw:∀r∈tb,r.length=w)(a:Ent tb (2 ^ m)):Side N (2 ^ m) (2 ^ x1 N n m) (2 ^ be N n m) (2 ^ m) w k tb (unT k) (unT k):=by
 have h:=Je G;refine k8 G h.1 h.2.2.1 h.2.2.2.2.1 b c l hw a fun j d=>?_;refine(Tb.Mn G.N1 AI Tb.Jc (by rw[Tb.i8];(first|lia|omega)) fun r hr u=>?_).mono (Ad _) (Ae (Tb.Jd G.Nn) (Tb.pw h.2.1)) (Ae (Tb.NO G.Nn) (Tb.pw ω));obtain⟨i,hi,rfl⟩:=List.mem_map.mp hr;exact x3 (fun u _=>a i u) (fun s=>Ae Tb.C8 AI) u
variable{P P2:List Nat}{fr gq:Nat->List Int}{S U Bn T V Bf:Ξ}
def NP(G:Good N n m)(l:tb.length=k)(hw:∀r∈tb,r.length=w)(b:Ent tb (2 ^ m))(c:k<=N)(D:Done N (2 ^ m) (2 ^ x1 N n m) (2 ^ be N n m) w k tb (unT k) (unT k) P fr S U Bn):Ent ((Ah w).map (colAt S)) (2 ^ m2 N n m):=by
 refine qt zX fun u a i=>?_;rw[zY a]
 by_cases hi:i<k
 ·rw[D.f1 i u hi a]
  have:=(D.fs.fr (Tb.pp P i) (Tb.p' D.lP hi)).le (u:=u) (M:=2 ^ m) fun r hr=>by
   obtain⟨j,d,rfl⟩:=List.mem_map.mp hr;rw[Tb.zL a];exact b j u
  refine Ae this ?_;rw[Tb.i8];refine Ae (Ak _ c) (Ae (Tb.zt G.Nn (Tb.zt (Tb.m_ G.Nn) (Ad _))) (Tb.pw ?_));unfold m2;(first|lia|omega)
 ·unfold fn
  rw[xM (by rw[D.l1];(first|lia|omega))];exact At _
def yD(G:Good N n m)(l:tb.length=k)(hw:∀r∈tb,r.length=w)(d:Ent tb (2 ^ m))(e:k<=N)(o:w<=N)(D:Done N (2 ^ m) (2 ^ x1 N n m) (2 ^ be N n m) w k tb (unT k) (unT k) P fr S U Bn):Side N (2 ^ m2 N n m) (2 ^ x2 N n m) (2 ^ ga N n m) (2 ^ m2 N n m) k w ((Ah w).map (colAt S)) (unT w) (unT w):=by
 have h:=Je G;have b:=NP G l hw d e D;have e1:Tb.tl k (Tb.glue w (fn tb) (fn (unT k)))=Tb.tl k (Tb.glue w (fn tb) Tb.un):=Tb.gM fun i hi=>C9 hi;have F:=D.fs;rw[e1] at F;have I:=Tb.Ig F;have c:=D.f3;rw[e1,Tb.gM (W:=fn (unT k)) (W':=Tb.un) fun i hi=>ng hi] at c;rw[<-c] at I;have lo:(2:Nat) ^ m<=2 ^ (n+m+N):=Tb.pw ω;have e3:=(D.e3 qN).mono (Ae (Tb.zt G.Nn (Tb.zt (Tb.zt (Ad _) (Ad _)) (Ad _))) (Tb.pw (show n+(m+N+0)<=n+m+N from ω)));refine k8 G (Ad _) (Ad _) (Ad _) o e zX (jX D.l1) b fun j f=>?_;have e2:Tb.tl j (Tb.glue k (fn ((Ah w).map (colAt S))) Tb.un)=Tb.tl j (Tb.glue k (fun u i=>vF fr (Tb.pp P i) u) Tb.un):=Tb.gM fun u a=>xX (fun i hi=>by rw[zY ω];exact D.f1 i u hi ω) rfl;rw[e2];have g:N+1<=2 ^ (n+1):=by have:=G.Nn;have:=AI (n:=n);rw[Nat.pow_succ];(first|lia|omega)
 refine Tb.NN (M:=2 ^ (n+m+N)) I f ω AI AI (fun s u _ _=>Ae (d s u) lo) (fun i s hi p=>?_) (fun i u hi a=>?_) ?_ ?_
 ·have:((Tb.tl k (fn Bn)).getD i fun _=>0)=fn Bn i:=by
   unfold Tb.tl;rw[Ac,Aj,AK hi];rfl
  rw[this];exact e3 i s
 ·have:=b u i
  rw[zY a,D.f1 i u hi a] at this;exact this
 ·refine Ae (Nat.pow_le_pow_left (Tb.zt (Tb.zt (show 2<=2 ^ 1 from ξ) g) (Ad _)) _) ?_
  rw[<-Nat.pow_mul];refine Tb.pw (Ae (Ak _ ?_) h.2.2.2.2.2.1);(first|lia|omega)
 ·exact Ae (Tb.zt G.Nn (Tb.zt (Ad _) (Ad _))) (Tb.pw h.2.2.2.2.2.2)
def NQ(G:Good N n m)(l:tb.length=k)(hw:∀r∈tb,r.length=w)(h:Ent tb (2 ^ m))(b:k<=N)(j:w<=N)(D:Done N (2 ^ m) (2 ^ x1 N n m) (2 ^ be N n m) w k tb (unT k) (unT k) P fr S U Bn)(D2:Done N (2 ^ m2 N n m) (2 ^ x2 N n m) (2 ^ ga N n m) k w ((Ah w).map (colAt S)) (unT w) (unT w) P2 gq T V Bf):∃r QU QV,LS N n m 0 0 (fn tb) k w r T U Bn V Bf QU QV:=by
 have hb:=iL G;have e1:Tb.tl k (Tb.glue w (fn tb) (fn (unT k)))=Tb.tl k (Tb.glue w (fn tb) Tb.un):=Tb.gM fun i hi=>C9 hi;have F:=D.fs;rw[e1] at F;have I:=Tb.Ig F;have f:=Tb.ME AI Tb.Jc (fun r hr u=>?_) F
 ·have e2:Tb.tl w (Tb.glue k (fn ((Ah w).map (colAt S))) (fn (unT w)))=Tb.tl w (Tb.glue k (fun u i=>vF fr (Tb.pp P i) u) Tb.un):=Tb.gM fun u a=>xX (fun i hi=>by rw[zY a];exact D.f1 i u hi a) (ng a)
  have e:=D2.fs;rw[e2] at e;have g:(2*(k*2 ^ m)+1) ^ k<=2 ^ dd N n m:=by
   unfold dd;rw[Nat.pow_mul];have h1:2*(k*2 ^ m)+1<=2 ^ (2+n+m):=by
    have a1:k*2 ^ m<=2 ^ (n+m):=Tb.zt (Ae b G.Nn) (Ad _);have a2:2 ^ (2+n+m)=4*2 ^ (n+m):=by rw[Nat.add_assoc,Nat.pow_add]
    have a3:=AI (n:=n+m);(first|lia|omega)
   exact Ae (Nat.pow_le_pow_left h1 _) (AC AI b)
  obtain⟨o,pr,J⟩:=Tb.MF I (D:=2 ^ dd N n m) (fun q hq=>Ae (f q hq) g) e;have c:=D.f3;rw[e1,Tb.gM (W:=fn (unT k)) (W':=Tb.un) fun i hi=>ng hi] at c;have d:=D2.f3;rw[e2,Tb.gM (W:=fn (unT w)) (W':=Tb.un) fun i hi=>ng hi] at d;rw[<-c,<-d] at J;have p:k0 N n m=2*n+ga N n m+x2 N n m+m2 N n m+N+m:=rfl;have rk:=J.rk;have J2:=J.cg (T':=fn T) (U':=fn U) (V':=fn V) (fun u i a hi=>(D2.f1 u i a hi).symm) (fun i hi=>(D.f2 i hi).symm) fun u a=>(D2.f2 u a).symm;refine⟨_,_,_,b,j,D2.l1,D.l2,D.l3,D2.l2,D2.l3,D2.w1,D.w2,D.w3,D2.w2,D2.w3,J2,At _,?_,⟨_,(D.e2 qN).mono (Tb.zt G.Nn (Tb.zt (Tb.m_ G.Nn) (Ad _))),?_⟩,⟨_,(D.e3 qN).mono (Tb.zt G.Nn (Tb.zt (Tb.zt (Ad _) (Ad _)) (Ad _))),?_⟩,(D2.e2 qN).mono (Ae (Tb.zt G.Nn (Tb.zt (Tb.m_ G.Nn) (Ad _))) (Tb.pw ?_)),(D2.e3 qN).mono (Ae (Tb.zt G.Nn (Tb.zt (Tb.zt (Ad _) (Ad _)) (Ad _))) (Tb.pw ?_))⟩
  ·have h1:=Tb.Ih (T:=fn T) (D:=2 ^ dd N n m) (Tb.cut w P) J2.tp J2.pd
   rw[Nat.log2_two_pow] at h1;have h2:Tb.cut w P*dd N n m<=N*dd N n m:=Ak _ ω;unfold Tb.ms Tm;split<;>(first|lia|omega)
  ·(first|lia|omega)
  ·(first|lia|omega)
  ·(first|lia|omega)
  ·(first|lia|omega)
 ·obtain⟨i,hi,rfl⟩:=List.mem_map.mp hr
  exact x3 (fun u _=>h i u) (fun s=>Ae Tb.C8 AI) u
end
end K24
end
section
namespace K24
open PySem L2
def NR{tb:Ξ}:tb.zipIdx=(Ah tb.length).map fun i=>(rowAt tb i,i):=by
 apply AT
 ·simp
 ·intro i h1 h2
  rw[List.length_zipIdx] at h1;rw[AO,A4,List.getElem_zipIdx,zy (Ab h1)];simp
def Jf{a:Type}{p:Nat->List Int->Bool}{g:Nat->List Int->a}{tb:Ξ}:jP p g tb.zipIdx=((Ah tb.length).filter fun i=>p i (rowAt tb i)).map fun i=>g i (rowAt tb i):=by
 unfold jP;rw[NR,List.filter_map,AS]
 rfl
def Jg{l:List Int}{k u:Nat}(a:u≠k):vc (bN l k l.length) u=0:=by
 unfold bN;split
 ·unfold vc
  rw[Ac,List.getElem?_set,if_neg (Ne.symm a),List.getElem?_replicate];split<;>rfl
 ·exact IL
def Jh{l:List Int}{k w:Nat}:(bN l k w).length=w:=by unfold bN;split<;>simp
def FA{a b:List Int}(h:a.length=b.length)(hv:∀u,u<a.length->vc a u=vc b u):a=b:=by
 apply AT h;intro i h1 h2;have:=hv i h1
 rwa [il h1,il h2] at this
def Ji{l:List Int}{k:Nat}:l=bN l k l.length↔∀u,u≠k->vc l u=0:=by
 constructor
 ·intro h u a
  rw[h];exact Jg (l:=l) a
 ·intro h
  refine FA Jh.symm fun u a=>?_
  by_cases c:u=k
  ·subst c
   unfold bN;rw[if_pos a];unfold vc;rw[Ac,Ac,List.getElem?_set,if_pos rfl,List.length_replicate,if_pos a]
   rfl
  ·rw[h u c,Jg c]
def NS{tb:Ξ}:dH tb=true↔∀i,i<tb.length->∀u,u≠i->fn tb i u=0:=by
 unfold dH;rw[Jf,List.all_map,Be];constructor
 ·intro h i hi u a
  have:=h i (List.mem_filter.mpr ⟨List.mem_range.mpr hi,rfl⟩);have this:decide (rowAt tb i=bN (rowAt tb i) i (rowAt tb i).length)=true:=this;exact Ji.mp (of_decide_eq_true this) u a
 ·intro h i hi
  have hi:=List.mem_range.mp (List.mem_filter.mp hi).1;exact decide_eq_true (Ji.mpr (h i hi))
def NU{r w:Nat}(h:r<=w):(Ah w).filter (fun i=>decide (i<r))=Ah r:=by
 have e:Ah w=Ah r++(Ah (w-r)).map (r+·):=by rw[<-List.range_add];congr 1;(first|lia|omega)
 rw[e,List.filter_append];have h1:(Ah r).filter (fun i=>decide (i<r))=Ah r:=List.filter_eq_self.mpr fun i hi=>decide_eq_true (List.mem_range.mp hi);have h2:((Ah (w-r)).map (r+·)).filter (fun i=>decide (i<r))=[]:=List.filter_eq_nil_iff.mpr fun i hi=>by
  obtain⟨j,_,rfl⟩:=List.mem_map.mp hi;simp
 rw[h1,h2,List.append_nil]
def dg(r:Nat)(T:Ξ):List Int:=(Ah r).map fun i=>fn T i i
def FB{r u:Nat}{g:Nat->Int}(h:u<r):vc ((Ah r).map g) u=g u:=by
 unfold vc;rw[Ac,Aj,AK h];rfl
section
variable{N n m t e k w r:Nat}{A:Nat->Tb.Vc}{T U Bn V Bf:Ξ}{QU QV:Nat->Nat}
def LS.onSl(L:LS N n m t e A k w r T U Bn V Bf QU QV):dH T=true↔Tb.Dg r (fn T):=by
 have rk:=L.li.rk;have d:=L.li.rw;rw[NS,L.lT];constructor
 ·intro h u i a hi ne
  exact h u ω i (Ne.symm ne)
 ·intro h u a i ne
  by_cases c:i<k
  ·by_cases b:u<r/\i<r
   ·exact h u i b.1 b.2 (Ne.symm ne)
   ·exact L.li.to u i a c ω
  ·unfold fn
   exact fB (by rw[L.wT _ (zG (by rw[L.lT];exact a))];(first|lia|omega))
def LS.slOf(L:LS N n m t e A k w r T U Bn V Bf QU QV):cB T=dg r T:=by
 have rk:=L.li.rk;have a:=L.li.rw;unfold K24.cB;rw[Jf,L.lT];have e:(Ah w).filter (fun i=>decide (i<(rowAt T i).length)&&decide (vc (rowAt T i) i≠0))=(Ah w).filter fun i=>decide (i<r):=List.filter_congr fun i hi=>by
  have hi:=List.mem_range.mp hi;have b:(rowAt T i).length=k:=L.wT _ (zG (by rw[L.lT];exact hi));rw[b,Bool.eq_iff_iff,Bool.and_eq_true,decide_eq_true_eq,decide_eq_true_eq,decide_eq_true_eq];constructor
  ·rintro⟨h1,h2⟩
   refine AE fun c=>h2 ?_;exact L.li.to i i hi h1 ω
  ·intro h
   exact⟨ω,by have:0<vc (rowAt T i) i:=L.li.tp i h;(first|lia|omega)⟩
 rw[e,NU a]
 rfl
def LS.inSt(L:LS N n m t e A k w r T U Bn V Bf QU QV):dj T=true↔Tb.Dg r (fn T)/\∀i,i+1<r->fn T i i ∣ fn T (i+1) (i+1):=by
 have c:=L.li.rw;unfold K24.dj;rw[Bool.and_eq_true,L.onSl,L.slOf,L.lT];refine and_congr_right fun _=>?_;unfold fZ;have ld:(dg r T).length=r:=by unfold dg;simp
 have h1:(!decide ((w:Int)<((dg r T).length:Int)))=true:=by rw[ld];simp;(first|lia|omega)
 have h2:(dg r T).all (fun x=>decide (0<x))=true:=by
  rw[Be];intro x hx;obtain⟨i,hi,rfl⟩:=List.mem_map.mp hx;exact decide_eq_true (L.li.tp i (List.mem_range.mp hi))
 rw[h1,h2,Bool.true_and,Bool.true_and,Be];constructor
 ·intro h i hi
  have g:(Av (fun a b=>decide (b%a=0)) (dg r T) ((dg r T).drop 1))[i]?=some (decide (fn T (i+1) (i+1)%fn T i i=0)):=by
   rw[List.getElem?_zipWith,List.getElem?_drop];unfold dg;rw[Aj,Aj,AK ω,AK ω,Nat.add_comm 1 i]
   rfl
  have:=h _ (An g);exact Int.dvd_of_emod_eq_zero (of_decide_eq_true this)
 ·intro h x hx
  obtain⟨i,hi,rfl⟩:=AX hx;rw[Au,List.length_drop,ld] at hi;rw[AR,List.getElem_drop];unfold dg;rw[AO,AO,A4,A4];have:=h i ω;rw[Nat.add_comm 1 i];exact decide_eq_true (Int.emod_eq_zero_of_dvd this)
end
structure Pap(k w:Nat)(A:Nat->Tb.Vc)(u ub v vb:Ξ)(st:List Int):Prop where
 lu:u.length=k
 lub:ub.length=k
 lv:v.length=w
 lvb:vb.length=w
 wu:∀r∈u,r.length=k
 wub:∀r∈ub,r.length=k
 wv:∀r∈v,r.length=w
 wvb:∀r∈vb,r.length=w
 mu:∀r∈u,∀x∈r,x.natAbs+1000<low
 mub:∀r∈ub,∀x∈r,x.natAbs+1000<low
 mv:∀r∈v,∀x∈r,x.natAbs+1000<low
 mvb:∀r∈vb,∀x∈r,x.natAbs+1000<low
 u1:∀i j,i<k->j<k->Tb.dot k (fn u i) (fun s=>fn ub s j)=Tb.dl i j
 u2:∀i j,i<k->j<k->Tb.dot k (fn ub i) (fun s=>fn u s j)=Tb.dl i j
 v1:∀i j,i<w->j<w->Tb.dot w (fn v i) (fun s=>fn vb s j)=Tb.dl i j
 v2:∀i j,i<w->j<w->Tb.dot w (fn vb i) (fun s=>fn v s j)=Tb.dl i j
 sk:st.length<=k
 sw:st.length<=w
 sp:∀x∈st,0<x
 sd:∀i,i+1<st.length->vc st i ∣ vc st (i+1)
 s9:∀x∈st,x.natAbs<2 ^ 9000
 sb:∀x∈st,x.natAbs<big
 pr:∀i j,i<k->j<w->Tb.aQ k w A (fn u i) (fun s=>fn v s j)=if i=j/\i<st.length then vc st i else 0
def Pap.su{k w:Nat}{A:Nat->Tb.Vc}{u ub v vb:Ξ}{st:List Int}(p:Pap k w A u ub v vb st):∀r∈u,∀x∈r,x.natAbs<low:=fun r hr x hx=>Ao (A0 _ _) (p.mu r hr x hx)
def Pap.sub{k w:Nat}{A:Nat->Tb.Vc}{u ub v vb:Ξ}{st:List Int}(p:Pap k w A u ub v vb st):∀r∈ub,∀x∈r,x.natAbs<low:=fun r hr x hx=>Ao (A0 _ _) (p.mub r hr x hx)
def Pap.sv{k w:Nat}{A:Nat->Tb.Vc}{u ub v vb:Ξ}{st:List Int}(p:Pap k w A u ub v vb st):∀r∈v,∀x∈r,x.natAbs<low:=fun r hr x hx=>Ao (A0 _ _) (p.mv r hr x hx)
def FC{ρ:Nat->Tb.Vc}{c:Nat->Int}{u:Nat}:∀k,Tb.sm ρ c k u=Tb.dot k c (fun a=>ρ a u)
 |0=>rfl
 |k+1=>by show Tb.sm ρ c k u+c k*ρ k u=Tb.dot k c _+c k*ρ k u;rw[FC k]
def FE{a b:Tb.Vc}:∀k,Tb.dot k a b=Tb.dot k b a
 |0=>rfl
 |k+1=>by show Tb.dot k a b+a k*b k=Tb.dot k b a+b k*a k;rw[FE k,A9]
def FF{i j:Nat}:Tb.dl i j=Tb.dl j i:=by
 unfold Tb.dl
 by_cases c:i=j
 ·rw[if_pos c,if_pos c.symm]
 ·rw[if_neg c,if_neg (Ne.symm c)]
def Jj{T:Ξ}{K q:Nat}(h:Ent T K):Ent ((Ah q).map (colAt T)) K:=qt zX fun i hi u=>by rw[zY hi];exact h u i
section
variable{N n m t e k w r:Nat}{A:Nat->Tb.Vc}{T U Bn V Bf:Ξ}{QU QV:Nat->Nat}
def LS.pap(G:Good N n m)(L:LS N n m t e A k w r T U Bn V Bf QU QV)(h:K24.dj T=true):Pap k w A U ((Ah k).map (colAt Bn)) ((Ah w).map (colAt V)) Bf (K24.cB T):=by
 obtain⟨hd,hv⟩:=L.inSt.mp h;have tT:=L.tT;have rk:=L.li.rk;have D:=L.li.rw;obtain⟨v,f,y⟩:=L.eu;obtain⟨z,g,C⟩:=L.eb;obtain⟨l,p2⟩:=Tb.CP.mp L.li.bu;obtain⟨o,p⟩:=Tb.CP.mp L.li.bv;have ld:(dg r T).length=r:=by unfold dg;simp
 rw[L.slOf];refine⟨L.lU,zX,zX,L.lC,L.wU,jX L.lB,jX L.lV,L.wC,G.entM (t:=t) f ω ω,G.entM (t:=t) (Jj g) ω ω,G.entM (t:=t) (Jj L.ev) ω ω,G.entM (t:=t) L.ec ω ω,fun i j hi a=>?_,fun i j hi a=>?_,fun i j hi a=>?_,fun i j hi a=>?_,ω,ω,fun x hx=>?_,fun i hi=>?_,fun x hx=>?_,fun x hx=>?_,fun i j hi a=>?_⟩
 ·rw[<-p2 i j hi a]
  exact Tb.zj fun s b=>zY b j
 ·have:=l i j hi a
  rw[FC] at this;rw[<-this];exact Tb.zJ fun s _=>zY hi s
 ·have:=o j i a hi
  rw[FC,FE,FF] at this;rw[<-this];exact Tb.zJ fun s _=>zY hi s
 ·rw[FF,<-p j i a hi,FE]
  exact Tb.zJ fun s b=>zY b j
 ·obtain⟨i,hi,rfl⟩:=List.mem_map.mp hx
  exact L.li.tp i (List.mem_range.mp hi)
 ·rw[ld] at hi
  have:=hv i hi;unfold dg;rw[FB ω,FB hi];exact this
 ·obtain⟨i,hi,rfl⟩:=List.mem_map.mp hx
  have hi:=List.mem_range.mp hi;have h1:=L.li.small (u:=i) (i:=i) ω ω;have h2:=iL G;have E:=G.piv;exact Ao h1 (Nat.pow_lt_pow_right ξ ω)
 ·obtain⟨i,hi,rfl⟩:=List.mem_map.mp hx
  have hi:=List.mem_range.mp hi;have h1:=L.li.small (u:=i) (i:=i) ω ω;have H:=G.lim;have h2:=iL G;have F:k0 N n m=2*n+ga N n m+x2 N n m+m2 N n m+N+m:=rfl;exact IN h1 ω
 ·rw[ld]
  have e1:Tb.aQ k w A (fn U i) (fun s=>fn ((Ah w).map (colAt V)) s j)=Tb.aQ k w A (fn U i) (fn V j):=by
   unfold Tb.aQ;exact Tb.zj fun s _=>Tb.zj fun q hq=>zY hq j
  rw[e1,<-L.li.bl j i a hi]
  by_cases c:i=j/\i<r
  ·rw[if_pos c,<-c.1]
   unfold dg;rw[FB c.2]
  ·rw[if_neg c]
   by_cases d:j<r/\i<r
   ·exact hd j i d.1 d.2 ω
   ·exact L.li.to j i a hi ω
end
abbrev C_:Stmt:=top 19
def Dj(x y:List Addr):Prop:=∀a∈x,∀b∈y,a≠b
def NT.there{H H':Hp}{a:Addr}{ds:List Addr}{tb:Ξ}(h:NT H H' a ds tb):∀z∈a::ds,H' z≠none:=fun z hz=>by
 rcases List.mem_cons.mp hz with rfl|hz
 ·rw[h.at_];simp
 ·exact h.rows.there z hz
def NT.new{H H':Hp}{a:Addr}{ds:List Addr}{tb:Ξ}(h:NT H H' a ds tb):∀z∈a::ds,H z=none:=fun z hz=>by
 rcases List.mem_cons.mp hz with rfl|hz
 ·exact h.na
 ·exact(h.nw z hz).1
def iS{x y:List Addr}{H:Hp}(h1:∀z∈x,H z≠none)(h2:∀z∈y,H z=none):Dj x y:=fun a c b hb e=>h1 a c (e▸h2 b hb)
def Jk{tb:Ξ}{k:Nat}(l:tb.length=k)(hw:∀r∈tb,r.length=k)(hk:k<=40):cH tb=true/\turn tb=(Ah k).map (colAt tb)/\wid tb=k:=by
 have e:wid tb=k:=by
  cases c:tb with
  |nil=>rw[c] at l;exact l
  |cons x r=>exact hw x (by rw[c];exact AM ..)
 refine⟨?_,by unfold turn;rw[e],e⟩;unfold cH;rw[e,l,decide_eq_true hk];simp only[Bool.and_self,Bool.true_and,Be];exact fun r hr=>decide_eq_true (hw r hr)
structure PapH(H H':Hp)(p:Addr)(u ub v vb:Ξ)(st:List Int)(a1 a2 a3 a4 a5:Addr)(d1 d2 d3 d4:List Addr):Prop where
 at_:H' p=some (.tup [.ref a1,.ref a2,.ref a3,.ref a4,.ref a5])
 n1:NT H H' a1 d1 u
 n2:NT H H' a2 d2 ub
 n3:NT H H' a3 d3 v
 n4:NT H H' a4 d4 vb
 n5:H' a5=some (.lst (st.map V.int))
 na:H a5=none
 j12:Dj (a1::d1) (a2::d2)
 j13:Dj (a1::d1) (a3::d3)
 j14:Dj (a1::d1) (a4::d4)
 j15:Dj (a1::d1) [a5]
 j23:Dj (a2::d2) (a3::d3)
 j24:Dj (a4::d4) (a2::d2)
 j25:Dj (a2::d2) [a5]
 j34:Dj (a4::d4) (a3::d3)
 j35:Dj (a3::d3) [a5]
 j45:Dj (a4::d4) [a5]
structure FG(N n m k w:Nat)(tb:Ξ):Prop where
 good:Good N n m
 l:tb.length=k
 wd:∀r∈tb,r.length=w
 ent:Ent tb (2 ^ m)
 kN:k<=N
 wN:w<=N
def NV(H:Hp)(Q:VK)(k w:Nat)(A:Nat->Tb.Vc):Prop:=∀H' p u ub v vb st a1 a2 a3 a4 a5 d1 d2 d3 d4,Same H H'->PapH H H' p u ub v vb st a1 a2 a3 a4 a5 d1 d2 d3 d4->Pap k w A u ub v vb st->Q (.ref p) H'
section
variable{P:Program}{w:World}{K:Ag}{mg:Str->Option Value}{base:Heap}
def Jl:Sp:=fun vs H Q _=>∃(L:Addr)(rs:List Addr)(tb:Ξ)(N n m k w:Nat),vs=[.ref L,.int w]/\H L=some (.lst (rs.map V.ref))/\Rws H rs tb/\FG N n m k w tb/\NV H Q k w (fn tb)
def nu:zo ["table","width","size","near","far"] ["table","width"] (zf C_):=⟨rfl,rfl,rfl,δ,rfl,δ,δ⟩
def NW{f fs fu fc fk fi fo fp fl:Addr}{fd ax k_ aU fF cL fJ de bL:FuncData}(F:Fun K "paper_of" "paper_of" C_ f fd)(bl:mg "len"=none)(Fs:Fun K "straightened" "straightened" ez fs ax)(bs:Binds K ax ["side","width"] [])(ms:mg "straightened"=some (.ref fs))(Gs:ah P w K mg base au 5 fs ax ["side","width"] Iz)(Fu:Fun K "unit" "unit" CT fu k_)(bu:Binds K k_ ["size"] [])(mu:mg "unit"=some (.ref fu))(Gu:ah P w K mg base au 3 fu k_ ["size"] Iv)(Fc:Fun K "columns_to" "columns_to" oW fc aU)(bc:Binds K aU ["table","width"] [])(mc:mg "columns_to"=some (.ref fc))(Gc:ah P w K mg base au 2 fc aU ["table","width"] (Eo K))(Fk:Fun K "columns_of" "columns_of" oT fk fF)(bk:Binds K fF ["table"] [])(mk:mg "columns_of"=some (.ref fk))(Gk:ah P w K mg base au 3 fk fF ["table"] (Cu K))(Fi:Fun K "is_in_steps" "is_in_steps" CW fi cL)(bi:Binds K cL ["table"] [])(mi:mg "is_in_steps"=some (.ref fi))(Gi:ah P w K mg base au 3 fi cL ["table"] IF)(Fo:Fun K "is_on_slope" "is_on_slope" xF fo fJ)(bo:Binds K fJ ["table"] [])(mo:mg "is_on_slope"=some (.ref fo))(Go:ah P w K mg base au 2 fo fJ ["table"] E8)(Fp:Fun K "slope_of" "slope_of" xI fp de)(bp:Binds K de ["table"] [])(mp:mg "slope_of"=some (.ref fp))(Gp:ah P w K mg base au 1 fp de ["table"] E9)(Fl:Fun K "slid" "slid" CV fl bL)(bd:Binds K bL ["side","count"] [])(ml:mg "slid"=some (.ref fl))(Gl:ah P w K mg base au 2 fl bL ["side","count"] IB):ah P w K mg base au 6 f fd ["table","width"] Jl:=by
 refine F.ok nu (fun vs H Q E h=>?_) (fun ai A outer s H vs Q E hr h=>?_)
 ·obtain⟨L,rs,tb,N,n,m,k,d,rfl,_⟩:=h;rfl
 ·obtain⟨L,rs,tb,N,n,m,k,d,rfl,hL,hT,ok,kk⟩:=h
  have M:Room 3 _:=hr.mono ξ;have hr2:Room 2 _:=hr.mono ξ;have hr1:Room 1 _:=hr.mono ξ;refine⟨_,zc (zp (i:=2) nu.nd rfl (Or.inl rfl) (zn zk rfl bl cR (za (pv 0) zb)))
   (zc (zp (i:=3) nu.nd rfl (Or.inl rfl) (ze Gs hr rfl ms Fs.kp bs .nil af (za (hO (za (pv 0) (za (ze Gu M rfl mu Fu.kp bu .nil af (za (pv 2) zb)) (za (ze Gu M rfl mu Fu.kp bu .nil af (za (pv 2) zb)) zb)))) (za (pv 1) zb))))
   (zc (zp (i:=4) nu.nd rfl (Or.inl rfl) (ze Gs hr rfl ms Fs.kp bs .nil af (za (hO (za (ze Gc hr2 rfl mc Fc.kp bc .nil af (za (zw zC (pv 3) zd (fun _ _=>rfl)) (za (pv 1) zb))) (za (ze Gu M rfl mu Fu.kp bu .nil af (za (pv 1) zb)) (za (ze Gu M rfl mu Fu.kp bu .nil af (za (pv 1) zb)) zb)))) (za (pv 2) zb))))
   (zc (Cb Bb (gX (fT (ze Gi M rfl mi Fi.kp bi .nil af (za (zw zC (pv 4) zd (fun _ _=>rfl)) zb))))
    (zc (zp (i:=3) nu.nd rfl (Or.inl rfl) (hO (za (ze Gc hr2 rfl mc Fc.kp bc .nil af (za (zw zC (pv 4) zd (fun _ _=>rfl)) (za (pv 2) zb))) (za (zw zC (pv 3) zd (fun _ _=>rfl)) (za (zw zC (pv 3) zd (fun _ _=>rfl)) zb)))))
    (zc (zp (i:=3) nu.nd rfl (Or.inl rfl) (lj (fT (ze Go hr2 rfl mo Fo.kp bo .nil af (za (zw zC (pv 4) zd (fun _ _=>rfl)) zb)))
     (ze Gl hr2 rfl ml Fl.kp bd .nil af (za (pv 3) (za (zn zk rfl bl cR (za (ze Gp hr1 rfl mp Fp.kp bp .nil af (za (zw zC (pv 4) zd (fun _ _=>rfl)) zb)) zb)) zb)))
     (ze Gs hr rfl ms Fs.kp bs .nil af (za (pv 3) (za (pv 1) zb)))))
    (zh (zp (i:=4) nu.nd rfl (Or.inl rfl) (ze Gs hr rfl ms Fs.kp bs .nil af (za (hO (za (ze Gc hr2 rfl mc Fc.kp bc .nil af (za (zw zC (pv 3) zd (fun _ _=>rfl)) (za (pv 1) zb))) (za (zw zC (pv 4) zd (fun _ _=>rfl)) (za (zw zC (pv 4) zd (fun _ _=>rfl)) zb)))) (za (pv 2) zb))))))))
   (zh (zq (hO (za (zw zC (pv 3) zd (fun _ _=>rfl)) (za (ze Gk M rfl mk Fk.kp bk .nil af (za (zw zC (pv 3) zd (fun _ _=>rfl)) zb)) (za (ze Gk M rfl mk Fk.kp bk .nil af (za (zw zC (pv 4) zd (fun _ _=>rfl)) zb)) (za (zw zC (pv 4) zd (fun _ _=>rfl)) (za (ze Gp hr1 rfl mp Fp.kp bp .nil af (za (zw zC (pv 4) zd (fun _ _=>rfl)) zb)) zb))))))))))),?_⟩
  have bI:=hT.len;have G:=ok.good;have N40:=G.N40;have kN:=ok.kN;have wN:=ok.wN;refine⟨_,rfl,L,_,rfl,.inl (SqL.of hL),?_⟩;rw[Aa,bI,ok.l];refine⟨_,rfl,_,rfl,k,rfl,ω,fun u1 H1 sO s1 yZ jI xm y6 z_=>⟨_,rfl,k,rfl,ω,fun u2 H2 rF s2 yo jW wL BT yK=>⟨by show 3<=sizeLine;decide,fun t1 kK=>⟨_,rfl,?_⟩⟩⟩⟩;have sq:=Same.new (o:=.tup [V.ref L,V.ref u1,V.ref u2]) kK;have S1:=yA G ok.kN ok.wN ok.l ok.wd ok.ent;refine⟨t1,L,u1,u2,rs,sO,rF,tb,unT k,unT k,_,_,_,_,_,d,k,rfl,ac,((s1.trans s2).trans sq) _ _ hL,(s2.trans sq) _ _ jI,sq _ _ jW,hT.same ((s1.trans s2).trans sq),xm.same (s2.trans sq),wL.same sq,S1.ok,fun P1 i_ tn an v I xD W eh H3 F1 W1 s3 X gY b y=>?_⟩;have D1:=S1.done F1 W1;have bG:=((s1.trans s2).trans sq).trans s3;have gY:=gY.old ((s1.trans s2).trans sq);have b:=b.old ((s1.trans s2).trans sq);have y:=y.old ((s1.trans s2).trans sq);generalize (P1.map fun p=>(i_ p).take d)=S at D1 gY;generalize (P1.map fun p=>(i_ p).drop d)=U at D1 b;generalize i9 k ((cat tb (unT k)).map fun r=>shrL i_ r P1) (unT k)=Bn at D1 y;refine⟨_,rfl,tn,_,_,_,rfl,rfl,SqT.of X,zi (j:=0) rfl,_,rfl,an,xD,S,d,rfl,SqL.of gY.at_,gY.rows,by rw[D1.l1];(first|lia|omega),ω,fun r hr=>Nat.le_of_eq (D1.w1 r hr).symm,fun c1 H4 ik s4 gE fL jD oJ oR=>?_⟩;refine⟨_,rfl,d,rfl,ω,fun u3 H5 ui s5 BI kF rj BD yF=>⟨_,rfl,d,rfl,ω,fun u4 H6 wz s6 jE mS wE Bp yu=>⟨by show 3<=sizeLine;decide,fun t2 mx=>⟨_,rfl,?_⟩⟩⟩⟩;have Z:=Same.new (o:=.tup [V.ref c1,V.ref u3,V.ref u4]) mx;have S2:=yD G ok.l ok.wd ok.ent ok.kN ok.wN D1;have gs:=((s4.trans s5).trans s6).trans Z;refine⟨t2,c1,u3,u4,ik,ui,wz,_,unT d,unT d,_,_,_,_,_,k,d,rfl,ac,((s5.trans s6).trans Z) _ _ fL,(s6.trans Z) _ _ kF,Z _ _ mS,jD.same ((s5.trans s6).trans Z),rj.same (s6.trans Z),wE.same Z,S2.ok,fun P2 gq D O bf J dA eK dh H7 F2 W2 s7 u c C g=>?_⟩;have D2:=S2.done F2 W2;obtain⟨r,QU,QV,LL⟩:=NQ G ok.l ok.wd ok.ent ok.kN ok.wN D1 D2;have fA:=gs.trans s7;have gZ:=bG.trans fA;have jj:Dj (v::W) (J::dh):=iS (b.same gs).there g.new;have c:=c.old (bG.trans gs);have C:=C.old (bG.trans gs);have g:=g.old (bG.trans gs);have b:=b.same fA;have y:=y.same fA;have X:=fA _ _ X;generalize (P2.map fun p=>(gq p).take k)=T at D2 c LL;generalize (P2.map fun p=>(gq p).drop k)=V at D2 C LL;generalize i9 d ((cat ((Ah d).map (colAt S)) (unT d)).map fun r=>shrL gq r P2) (unT d)=Bf at D2 g LL;refine⟨fun q σ H8=>∃(t e:Nat)(T U Bn V Bf:Ξ)(QU QV:Nat->Nat)(tn an v I D O bf J:Addr)(W eh dA eK dh:List Addr),q=Tm N n m-t/\σ=[some (.ref L),some (.int d),some (.int k),some (.ref tn),some (.ref D)]/\Same H H8/\H8 tn=some (.tup [.ref an,.ref v,.ref I])/\H8 D=some (.tup [.ref O,.ref bf,.ref J])/\NT H H8 v W U/\NT H H8 I eh Bn/\NT H H8 O dA T/\NT H H8 bf eK V/\NT H H8 J dh Bf/\Dj (v::W) (J::dh)/\LS N n m t e (fn tb) k d r T U Bn V Bf QU QV,
   ⟨_,0,0,T,U,Bn,V,Bf,QU,QV,tn,an,v,I,D,O,bf,J,W,eh,dA,eK,dh,rfl,rfl,gZ,X,u,b,y,c,C,g,jj,LL⟩,?_⟩
  clear LL jj g C c D2 u gZ fA S2 gs Z D1 S1 X y b;rintro q σ H8 ⟨t,e,T,U,Bn,V,Bf,QU,QV,tn,an,v,I,D,O,bf,J,W,eh,dA,eK,dh,rfl,rfl,s8,X,u,b,y,c,C,g,jj,LL⟩;have iu:T.length<=1000:=by rw[LL.lT];(first|lia|omega)
  have wT9:∀x∈T,x.length<=1000:=fun x hx=>by rw[LL.wT x hx];(first|lia|omega)
  refine⟨_,rfl,D,_,_,_,rfl,rfl,SqT.of u,zi (j:=0) rfl,O,dA,T,rfl,c.at_,c.rows,iu,wT9,fun H9 a=>⟨_,rfl,?_⟩⟩;have X:=a _ _ X;have u:=a _ _ u;have b:=b.same a;have y:=y.same a;have c:=c.same a;have C:=C.same a;have g:=g.same a;have a:=s8.trans a;clear s8;cases dD:dj T with
  |true=>
   refine aI ?_;obtain⟨i1,i2,_⟩:=Jk LL.lB LL.wB ω;obtain⟨j1,j2,_⟩:=Jk LL.lV LL.wV ω;refine⟨_,rfl,tn,_,_,_,rfl,rfl,SqT.of X,zi (j:=1) rfl,_,rfl,tn,_,_,_,rfl,rfl,SqT.of X,zi (j:=2) rfl,I,eh,Bn,rfl,SqL.of y.at_,y.rows,i1,fun a2 Ha d2 sa xY j5 pz vQ vf=>?_⟩;rw[i2] at pz;refine⟨_,rfl,D,_,_,_,rfl,rfl,SqT.of (sa _ _ u),zi (j:=1) rfl,bf,eK,V,rfl,SqL.of (sa _ _ C.at_),C.rows.same sa,j1,fun a3 Hb d3 Y vj mV nv qo wf=>?_⟩;rw[j2] at nv;have eF:=sa.trans Y;refine⟨_,rfl,D,_,_,_,rfl,rfl,SqT.of (eF _ _ u),zi (j:=2) rfl,_,rfl,D,_,_,_,rfl,rfl,SqT.of (eF _ _ u),zi (j:=0) rfl,O,dA,T,rfl,eF _ _ c.at_,c.rows.same eF,iu,fun a5 Hc sc pV jS=>⟨by show 5<=sizeLine;decide,fun p hp=>?_⟩⟩;have sp:=Same.new (o:=.tup [.ref v,.ref a2,.ref a3,.ref J,.ref a5]) hp;have n2:NT H9 Ha a2 d2 _:=⟨j5,pz,vQ,xY,vf⟩;have n3:NT Ha Hb a3 d3 _:=⟨mV,nv,qo,vj,wf⟩;have jZ:=eF.trans sc;have e5:∀z∈[a5],Hb z=none:=fun z hz=>by rw[List.mem_singleton.mp hz];exact pV
   refine kk _ p _ _ _ _ _ v a2 a3 J a5 W d2 d3 dh ((a.trans jZ).trans sp) ⟨ac,(b.same jZ).same sp,((n2.same (Y.trans sc)).same sp).old a,((n3.same sc).same sp).old (a.trans sa),(g.same jZ).same sp,sp _ _ jS,a.free (eF.free pV),iS b.there n2.new,iS (b.same sa).there n3.new,jj,iS (b.same eF).there e5,iS n2.there n3.new,iS g.there n2.new,iS (n2.same Y).there e5,iS (g.same sa).there n3.new,iS n3.there e5,iS (g.same eF).there e5⟩ (LL.pap G dD)
  |false=>
   refine aR ⟨fun ag H'=>∃q,q<Tm N n m-t/\∃(t e:Nat)(T U Bn V Bf:Ξ)(QU QV:Nat->Nat)(tn an v I D O bf J:Addr)(W eh dA eK dh:List Addr),q=Tm N n m-t/\ag=[some (.ref L),some (.int d),some (.int k),some (.ref tn),some (.ref D)]/\Same H H'/\H' tn=some (.tup [.ref an,.ref v,.ref I])/\H' D=some (.tup [.ref O,.ref bf,.ref J])/\NT H H' v W U/\NT H H' I eh Bn/\NT H H' O dA T/\NT H H' bf eK V/\NT H H' J dh Bf/\Dj (v::W) (J::dh)/\LS N n m t e (fn tb) k d r T U Bn V Bf QU QV,fun ag H' h=>h,?_⟩;refine⟨_,rfl,D,_,_,_,rfl,rfl,SqT.of u,zi (j:=0) rfl,_,rfl,O,dA,T,k,rfl,SqL.of c.at_,c.rows,iu,ω,fun x hx=>Nat.le_of_eq (LL.wT x hx).symm,fun c1 Ha ik sa gE fL jD oJ oR=>?_⟩;refine⟨_,rfl,tn,_,_,_,rfl,rfl,SqT.of (sa _ _ X),zi (j:=1) rfl,_,rfl,tn,_,_,_,rfl,rfl,SqT.of (sa _ _ X),zi (j:=2) rfl,by show 3<=sizeLine;decide,fun t1 kK=>?_⟩;have sq:=Same.new (o:=.tup [.ref c1,.ref v,.ref I]) kK;have dk:upd Ha t1 (.tup [.ref c1,.ref v,.ref I]) t1=some (.tup [.ref c1,.ref v,.ref I]):=ac;have cq:NT H9 Ha c1 ik _:=⟨fL,jD,oJ,gE,oR⟩;have cq:=(cq.same sq).old a;have Y:=sa.trans sq;generalize upd Ha t1 (.tup [.ref c1,.ref v,.ref I])=Hb at dk cq Y ⊢;have u:=Y _ _ u;have b:=b.same Y;have y:=y.same Y;have c:=c.same Y;have C:=C.same Y;have g:=g.same Y;have a:=a.trans Y;refine⟨_,rfl,D,_,_,_,rfl,rfl,SqT.of u,zi (j:=0) rfl,O,dA,T,rfl,c.at_,c.rows,iu,wT9,fun Hd sd=>⟨_,rfl,?_⟩⟩;have u:=sd _ _ u;have dk:=sd _ _ dk;have cq:=cq.same sd;have b:=b.same sd;have y:=y.same sd;have c:=c.same sd;have C:=C.same sd;have g:=g.same sd;have a:=a.trans sd;have iB:¬(Tb.Dg r (fn T)/\∀i,i+1<r->fn T i i ∣ fn T (i+1) (i+1)):=fun h=>by have:=LL.inSt.mpr h;rw[dD] at this;cases this
   apply share (S:=fun eM He=>∃(e':Nat)(S' U' fM:Ξ)(S0 U0:Nat->Tb.Vc)(a' b' c':Addr)(dw c_ df:List Addr),Same Hd He/\He eM=some (.tup [.ref a',.ref b',.ref c'])/\NT H He a' dw S'/\NT H He b' c_ U'/\NT H He c' df fM/\LH N n m t e' (fn tb) k d r T S' U' fM V Bf S0 U0 QU QV)
   ·intro fin hc
    have hd:¬Tb.Dg r (fn T):=fun h=>hc (LL.onSl.mpr h);have S1:=LL.side G;refine⟨_,rfl,_,rfl,t1,c1,v,I,ik,W,eh,_,U,Bn,_,_,_,_,_,d,k,rfl,dk,cq.at_,b.at_,y.at_,cq.rows,b.rows,y.rows,S1.ok,fun P1 i_ eM a' b' c' dw c_ df He F1 W1 se cS gj gf iK=>fin eM He ?_⟩;exact⟨0,_,_,_,_,_,a',b',c',dw,c_,df,se,cS,gj.old a,gf.old a,iK.old a,LL.near G hd (S1.done F1 W1)⟩
   ·intro fin hc
    have hd:Tb.Dg r (fn T):=LL.onSl.mp hc;have hn:¬∀i,i+1<r->fn T i i ∣ fn T (i+1) (i+1):=fun h=>iB ⟨hd,h⟩;have hr1:1<=r:=by
     rcases Nat.eq_zero_or_pos r with z|z
     ·exact absurd (fun i hi=>ω) hn
     ·exact z
    refine⟨_,rfl,_,rfl,D,_,_,_,rfl,rfl,SqT.of u,zi (j:=0) rfl,O,dA,T,rfl,c.at_,c.rows,iu,fun D5 H5 s5 dG e5=>⟨D5,_,rfl,.inl (SqL.of e5),?_⟩⟩;have ux:(K24.cB T).length=r:=by rw[LL.slOf];unfold dg;simp
    rw[Aa,ux];refine⟨H,t1,c1,v,I,ik,W,eh,_,U,Bn,k,r,rfl,s5 _ _ dk,a.trans s5,cq.same s5,b.same s5,y.same s5,zX,LL.lU,LL.lB,hr1,LL.li.rk,ω,LL.slSml G,fun eM a' b' c' dw c_ df He se cS gj gf iK=>fin eM He ?_⟩;exact⟨_,_,_,_,_,_,a',b',c',dw,c_,df,s5.trans se,cS,gj,gf,iK,LL.slid G hr1 hd hn⟩
   ·rintro eM He ⟨e',S',U',fM,S0,U0,a',b',c',dw,c_,df,se,cS,gj,gf,iK,LH⟩
    have u:=se _ _ u;have C:=C.same se;have g:=g.same se;have a:=a.trans se;refine⟨_,rfl,eM,_,_,_,rfl,rfl,SqT.of cS,zi (j:=0) rfl,_,rfl,a',dw,S',d,rfl,SqL.of gj.at_,gj.rows,by rw[LH.lS];(first|lia|omega),ω,fun x hx=>Nat.le_of_eq (LH.wS x hx).symm,fun c2 Hg vh sg uj j6 t_ y9 BJ=>?_⟩;refine⟨_,rfl,D,_,_,_,rfl,rfl,SqT.of (sg _ _ u),zi (j:=1) rfl,_,rfl,D,_,_,_,rfl,rfl,SqT.of (sg _ _ u),zi (j:=2) rfl,by show 3<=sizeLine;decide,fun t2 mx=>?_⟩;have Z:=Same.new (o:=.tup [.ref c2,.ref bf,.ref J]) mx;have sh:=sg.trans Z;have S2:=LH.side G;refine⟨_,rfl,t2,c2,bf,J,vh,eK,dh,_,V,Bf,_,_,_,_,_,k,d,rfl,ac,Z _ _ j6,sh _ _ C.at_,sh _ _ g.at_,t_.same Z,C.rows.same sh,g.rows.same sh,S2.ok,fun P2 gq xi rN rT wX kY jO mC Hi F2 W2 si nj lX mF gW=>?_⟩;have D2:=S2.done F2 W2;have L2:=LH.next G D2;have s0:=a.trans sh;have tm:=L2.tm;exact⟨_,ω,t+1,e',_,U',fM,_,_,QU,QV,eM,a',b',c',xi,rN,rT,wX,c_,df,kY,jO,mC,rfl,rfl,s0.trans si,(sh.trans si) _ _ cS,nj,gf.same (sh.trans si),iK.same (sh.trans si),lX.old s0,mF.old s0,gW.old s0,iS (gf.same sh).there gW.new,L2⟩
end
def Jm{n:Nat}{x:Tb.Vc}{B U:Nat->Tb.Vc}(h:∀i j,i<n->j<n->Tb.dot n (B i) (fun s=>U s j)=Tb.dl i j){t:Nat}(a:t<n):Tb.dot n (fun l=>Tb.dot n x (fun s=>B s l)) (fun l=>U l t)=x t:=by
 rw[Tb.iP,<-Tb.pF (k:=n) (x:=x) a];exact Tb.zj fun s b=>h s t b a
def Jn{k w:Nat}{A b:Nat->Tb.Vc}{x x' y a:Tb.Vc}(e:∀s t,s<k->t<w->A s t=b s t)(hx:∀t,t<k->x t=x' t)(hy:∀t,t<w->y t=a t):Tb.aQ k w A x y=Tb.aQ k w b x' a:=by
 unfold Tb.aQ;rw[Tb.zJ hx];exact Tb.zj fun s c=>by
  rw[Tb.zj hy];exact Tb.zJ fun t d=>e s t c d
def Pap.zero{k w:Nat}{A:Nat->Tb.Vc}{u ub v vb:Ξ}{st:List Int}(p:Pap k w A u ub v vb st){i:Nat}(h:st.length<=i):vc st i=0:=fB h
def Pap.pr'{k w:Nat}{A:Nat->Tb.Vc}{u ub v vb:Ξ}{st:List Int}(p:Pap k w A u ub v vb st){i j:Nat}(hi:i<k)(b:j<w):Tb.aQ k w A (fn u i) (fun s=>fn v s j)=if i=j then vc st i else 0:=by
 rw[p.pr i j hi b]
 by_cases c:i=j
 ·by_cases a:i<st.length
  ·rw[if_pos ⟨c,a⟩,if_pos c]
  ·rw[if_neg (fun h=>a h.2),if_pos c,fB ω]
 ·rw[if_neg (fun h=>c h.1),if_neg c]
def Pap.via{k w:Nat}{A b R C:Nat->Tb.Vc}{u ub v vb f o g d:Ξ}{st q:List Int}(p:Pap k w A u ub v vb st)(r:Pap k w b f o g d q)(h:∀s t,s<k->t<w->A s t=Tb.aQ k w b (R s) (C t)):∃X Z:Nat->Tb.Vc,∀a j,a<k->j<w->Tb.dot k (X a) (fun l=>vc q l*Z l j)=if a=j then vc st a else 0:=by
 refine⟨fun a l=>Tb.dot k (fun t=>Tb.dot k (fn u a) (fun s=>R s t)) (fun s=>fn o s l),fun l j=>Tb.dot w (fun t=>Tb.dot w (fun s=>fn v s j) (fun s=>C s t)) (fun s=>fn d l s),fun a j D z=>?_⟩;rw[<-p.pr' D z];have e1:Tb.aQ k w A (fn u a) (fun s=>fn v s j)=Tb.aQ k w b (fun t=>Tb.dot k (fn u a) (fun s=>R s t)) (fun t=>Tb.dot w (fun s=>fn v s j) (fun s=>C s t)):=by
  rw[Tb.IY];unfold Tb.aQ;refine Tb.zj fun s E=>?_;have:=Tb.Fq (k:=k) (w:=w) (n:=w) (A:=b) (V:=C) (x:=R s) (Z:=fun s=>fn v s j);unfold Tb.aQ at this;rw[this,Tb.zM w];exact Tb.zj fun t e=>h s t E e
 rw[e1];show Tb.dot k (fun l=>Tb.dot k (fun t=>Tb.dot k (fn u a) (fun s=>R s t)) (fun s=>fn o s l)) (fun l=>vc q l*Tb.dot w (fun t=>Tb.dot w (fun s=>fn v s j) (fun s=>C s t)) (fun s=>fn d l s))=_;generalize hx:(fun t=>Tb.dot k (fn u a) (fun s=>R s t))=x;generalize hy:(fun t=>Tb.dot w (fun s=>fn v s j) (fun s=>C s t))=y;have e2:Tb.aQ k w b x y=Tb.aQ k w b (fun t=>Tb.dot k (fun l=>Tb.dot k x (fun s=>fn o s l)) (fun l=>fn f l t)) y:=Jn (fun _ _ _ _=>rfl) (fun t e=>(Jm r.u2 e).symm) fun _ _=>rfl;rw[e2,Tb.IY];refine Tb.zj fun l F=>?_;have e3:Tb.aQ k w b (fn f l) y=Tb.aQ k w b (fn f l) (fun t=>Tb.dot w (fun m=>Tb.dot w y (fun s=>fn d m s)) (fun m=>fn g t m)):=Jn (fun _ _ _ _=>rfl) (fun _ _=>rfl) fun t e=>by
  have:=Jm (n:=w) (x:=y) (B:=fun s m=>fn d m s) (U:=fun m t=>fn g t m) (fun i j hi z=>by
   rw[FF,<-r.v1 j i z hi,Tb.zM]) e
  exact this.symm
 rw[e3];have H:=Tb.Fq (k:=k) (w:=w) (n:=w) (A:=b) (V:=fun m t=>fn g t m) (x:=fn f l) (Z:=fun m=>Tb.dot w y (fun s=>fn d m s));rw[H];show _=Tb.dot w _ _;have I:Tb.dot w (fun m=>Tb.dot w y (fun s=>fn d m s)) (fun m=>Tb.aQ k w b (fn f l) (fun t=>fn g t m))=Tb.dot w (fun m=>if l=m then vc q l else 0) (fun m=>Tb.dot w y (fun s=>fn d m s)):=by
  rw[Tb.zM w];exact Tb.zJ fun m G=>r.pr' F G
 rw[I]
 by_cases c:l<w
 ·rw[Tb.Fn c]
 ·rw[Tb.zS fun t e=>if_neg ω,fB (by have:=r.sw;(first|lia|omega))]
  simp
def Jo{st:List Int}(hd:∀i,i+1<st.length->vc st i ∣ vc st (i+1)):∀n i,vc st i ∣ vc st (i+n)
 |0,i=>Int.dvd_refl _
 |n+1,i=>by
  have a:=Jo hd n i
  by_cases c:i+n+1<st.length
  ·exact Int.dvd_trans a (hd (i+n) c)
  ·rw[fB (show st.length<=i+(n+1) from ω)];exact Int.dvd_zero _
def Pap.steps{k w:Nat}{A f R C R' G:Nat->Tb.Vc}{u ub v vb z D E F:Ξ}{st d:List Int}(p:Pap k w A u ub v vb st)(e:Pap k w f z D E F d)(h:∀s t,s<k->t<w->A s t=Tb.aQ k w f (R s) (C t))(h':∀s t,s<k->t<w->f s t=Tb.aQ k w A (R' s) (G t)):st=d:=by
 obtain⟨X,Z,q⟩:=p.via e h;obtain⟨L,M,r⟩:=e.via p h';have g:∀{st:List Int},(∀x∈st,0<x)->∀i,0<=vc st i:=fun{st} h i=>by
  by_cases c:i<st.length
  ·rw[il c];exact Int.le_of_lt (h _ (Ap c))
  ·rw[fB ω];exact Int.le_refl _
 have j:∀{st:List Int},(∀i,i+1<st.length->vc st i ∣ vc st (i+1))->∀i l,i<=l->l<k->vc st i ∣ vc st l:=fun{st} h i l h1 _=>by
  have:=Jo h (l-i) i
  rwa [show i+(l-i)=l from ω] at this
 have eq:=Tb.NJ q r (g p.sp) (g e.sp) (j p.sd) (j e.sd);have one:∀{st d:List Int},(∀x∈st,0<x)->st.length<=k->st.length<=w->(∀i,i<k->i<w->vc st i=vc d i)->st.length<=d.length:=fun{st d} h1 h2 H o=>by
  rcases Bi d.length st.length with c|c
  ·have y:=o d.length ω ω
   rw[fB (Ad _),il c] at y;have:=h1 _ (Ap c);(first|lia|omega)
  ·exact c
 have I:=one p.sp p.sk p.sw eq;have J:=one e.sp e.sk e.sw fun i a b=>(eq i a b).symm;exact FA ω fun i hi=>eq i (by have:=p.sk;(first|lia|omega)) (by have:=p.sw;(first|lia|omega))
end K24
end
section
namespace L2
open PySem PySem.Spec PyProof.Rows
mutual
inductive DV(K:Ag)(H:Hp):V->PyData->Prop where
 |bl (b:Bool):DV K H (.bl b) (.bool b)
 |int (i:Int):DV K H (.int i) (.int i)
 |str (z:Str):DV K H (.str z) (.str z)
 |lst {l:Addr} {xs:List V} {ds:List PyData} (h:SqL K H l xs) (t:DVs K H xs ds):DV K H (.ref l) (.list ds)
inductive DVs(K:Ag)(H:Hp):List V->List PyData->Prop where
 |nil:DVs K H [] []
 |cons {x:V} {d:PyData} {xs:List V} {ds:List PyData} (h:DV K H x d) (t:DVs K H xs ds):DVs K H (x::xs) (d::ds)
end
section
variable{X:Cx}{aa:Ψ}{σ:St}{H:Hp}{s:Shared}
mutual
def DV.reads(I:Inv X aa σ H s):∀{x:V}{d:PyData}{u:Value},DV X.K H x d->RelV x u->∃a,Reads s.heap u d a
 |_,_,_,.bl b,r=>by cases r;exact⟨_,.bool b⟩
 |_,_,_,.int i,r=>by obtain⟨t,rfl⟩:=r;exact⟨_,.int i t⟩
 |_,_,_,.str z,r=>by obtain⟨t,rfl⟩:=r;exact⟨_,.str z t⟩
 |_,_,_,.lst h t,r=>by
  cases r;obtain⟨ad,c,p,_⟩:=I.list h;obtain⟨o,e,hc,n,hd⟩:=p.isList;obtain⟨a,q⟩:=DVs.reads I t c;exact⟨_,.list e hc hd (by simpa using q)⟩
def DVs.reads(I:Inv X aa σ H s):∀{xs:List V}{ds:List PyData}{us:List Value},DVs X.K H xs ds->Vals xs us->∃c,ReadsAll s.heap us ds c
 |_,_,_,.nil,.nil=>⟨_,.nil⟩
 |_,_,_,.cons h t,.cons r rs=>by
  obtain⟨a,q⟩:=DV.reads I h r;obtain⟨b,d⟩:=DVs.reads I t rs;exact⟨_,.cons q d⟩
end
end
def gP(neg:Bool)(K:Ag):R2:=fun x y H Q=>∃d e,DV K H x d/\DV K H y e/\SeqAt.shaped d=true/\SeqAt.shaped e=true/\SeqAt.noMix d e=true/\Q (.bl (if neg then !same d e else same d e)) H
section
variable{X:Cx}
def NX(g:X.A.units+64<cLine):cV X (compareOp .Eq) (gP false X.K):=by
 intro aa s σ H x y v u Q I a b h;obtain⟨d,e,h1,h2,c,f,nm,q⟩:=h;obtain⟨a1,r1⟩:=h1.reads I a;obtain⟨a2,r2⟩:=h2.reads I b;exact eq_dataH_same r1 r2 c f g nm ⟨.bl _,H,I,rfl,q⟩
def C'(g:X.A.units+64<cLine):cV X (compareOp .NotEq) (gP true X.K):=by
 intro aa s σ H x y v u Q I a b h;obtain⟨d,e,h1,h2,c,f,nm,q⟩:=h;obtain⟨a1,r1⟩:=h1.reads I a;obtain⟨a2,r2⟩:=h2.reads I b;exact ne_dataH_same r1 r2 c f g nm ⟨.bl _,H,I,rfl,q⟩
end
abbrev bO(ns:List Int):PyData:=.list (ns.map PyData.int)
abbrev cb(tb:Ξ):PyData:=.list (tb.map bO)
abbrev i'(ts:List Ξ):PyData:=.list (ts.map cb)
def yL(ns ms:List Int):same (bO ns) (bO ms)=decide (ns=ms):=by simp only[same];exact PySem.W.ke_sameAll ns ms
def Jp:∀a b:Ξ,sameAll (a.map bO) (b.map bO)=decide (a=b)
 |[],[]=>by simp[sameAll]
 |[],_::_=>by simp[sameAll]
 |_::_,[]=>by simp[sameAll]
 |a::r,b::t=>by
  simp only[A5,sameAll,yL];rw[Jp r t]
  by_cases h:a=b<;>by_cases h':r=t<;>simp[h,h']
def FH(a b:Ξ):same (cb a) (cb b)=decide (a=b):=by simp only[same];exact Jp a b
def Jq:∀a b:List Ξ,sameAll (a.map cb) (b.map cb)=decide (a=b)
 |[],[]=>by simp[sameAll]
 |[],_::_=>by simp[sameAll]
 |_::_,[]=>by simp[sameAll]
 |a::r,b::t=>by
  simp only[A5,sameAll,FH];rw[Jq r t]
  by_cases h:a=b<;>by_cases h':r=t<;>simp[h,h']
def NY(a b:List Ξ):same (i' a) (i' b)=decide (a=b):=by simp only[same];exact Jq a b
def FI(ns:List Int):PyData.canLayAll0 (ns.map PyData.int)=true:=by simp[PySem.W.ke_canLayAll0]
def Da:∀tb:Ξ,PyData.canLayAll0 (tb.map bO)=true
 |[]=>rfl
 |a::r=>by rw[A5,PyData.canLayAll0,Da r,bO,PyData.canLay0,FI];rfl
def Jr:∀b:List Ξ,PyData.canLayAll0 (b.map cb)=true
 |[]=>rfl
 |a::r=>by rw[A5,PyData.canLayAll0,Jr r,cb,PyData.canLay0,Da];rfl
def Db:∀tb:Ξ,PyData.depthAll (tb.map bO)<=2
 |[]=>At _
 |a::r=>by
  have e:Bh (bO a)<=2:=by simp[Bh,PySem.W.ke_depthAll]
  rw[A5,PyData.depthAll];exact Nat.max_le.mpr ⟨e,Db r⟩
def Js:∀b:List Ξ,PyData.depthAll (b.map cb)<=3
 |[]=>At _
 |a::r=>by
  have e:Bh (cb a)<=3:=by
   have:=Db a;rw[cb,Bh];(first|lia|omega)
  rw[A5,PyData.depthAll];exact Nat.max_le.mpr ⟨e,Js r⟩
def Jt(tb:Ξ):SeqAt.shaped (cb tb)=true:=by
 have:=Db tb;have e:Bh (cb tb)<=64:=by rw[cb,Bh];(first|lia|omega)
 unfold SeqAt.shaped;rw[decide_eq_true e,cb,PyData.canLay0,Da]
 rfl
def Ju(a:List Ξ):SeqAt.shaped (i' a)=true:=by
 have:=Js a;have e:Bh (i' a)<=64:=by rw[i',Bh];(first|lia|omega)
 unfold SeqAt.shaped;rw[decide_eq_true e,i',PyData.canLay0,Jr]
 rfl
def Dc(a b:List Int):SeqAt.noMix (bO a) (bO b)=true:=SeqAt.noMix_of_shape (.list .int) rfl _ _ (by simp[Shape.has]) (by simp[Shape.has])
def Jv(a b:Ξ):SeqAt.noMix (cb a) (cb b)=true:=SeqAt.noMix_of_shape (.list (.list .int)) rfl _ _ (by simp[Shape.has]) (by simp[Shape.has])
def NZ(a b:List Ξ):SeqAt.noMix (i' a) (i' b)=true:=SeqAt.noMix_of_shape (.list (.list (.list .int))) rfl _ _ (by simp[Shape.has]) (by simp[Shape.has])
def Jw{K:Ag}{H:Hp}:∀ns:List Int,DVs K H (ns.map V.int) (ns.map PyData.int)
 |[]=>.nil
 |n::r=>.cons (.int n) (Jw r)
def j8{K:Ag}{H:Hp}{l:Addr}{ns:List Int}(h:SqL K H l (ns.map V.int)):DV K H (.ref l) (bO ns):=.lst h (Jw ns)
end L2
end
section
namespace K24
open PySem L2
def N3{K:Ag}{H:Hp}{rs:List Addr}{tb:Ξ}(h:Rws H rs tb):DVs K H (rs.map V.ref) (tb.map bO):=by
 induction h with
 |nil=>exact .nil
 |cons r t ih=>exact .cons (j8 (SqL.of r)) ih
def qR{K:Ag}{H:Hp}{L:Addr}{rs:List Addr}{tb:Ξ}(a:SqL K H L (rs.map V.ref))(h:Rws H rs tb):DV K H (.ref L) (cb tb):=.lst a (N3 h)
def cP(u v:Ξ):Ξ:=u.map fun r=>(turn v).map (dot r)
def iU(tb:Ξ):Prop:=∀r∈tb,∀x∈r,x.natAbs<big
def Jx{tb:Ξ}(h:iU tb):iU (turn tb):=fun r hr x hx=>by
 unfold turn at hr;obtain⟨j,_,rfl⟩:=List.mem_map.mp hr;unfold colAt at hx;obtain⟨q,hq,rfl⟩:=List.mem_map.mp hx;rw[Ac];cases e:q[j]? with
 |none=>exact Ao (At _) IA
 |some y=>exact h q hq y (An e)
def N4{tb:Ξ}:(turn tb).length=wid tb:=by unfold turn;simp
def N5{tb:Ξ}:∀r∈turn tb,r.length=tb.length:=fun r hr=>by
 unfold turn at hr;obtain⟨j,_,rfl⟩:=List.mem_map.mp hr;unfold colAt;simp
section
variable{P:Program}{w:World}{K:Ag}{mg:Str->Option Value}{base:Heap}
def FJ(K:Ag):Sp:=fun vs H Q _=>∃L rs tb,vs=[.ref L]/\SqL K H L (rs.map V.ref)/\Rws H rs tb/\cH tb=true/\∀H',Same H H'->Q .non H'
def N6{f a:Addr}{fd b:FuncData}(F:Fun K "must_be_table" "must_be_table" vr f fd)(Ft:Fun K "is_table" "is_table" vp a b)(bt:Binds K b ["table"] [])(mt:mg "is_table"=some (.ref a))(i:ah P w K mg base au 2 a b ["table"] (G_ K)):ah P w K mg base au 3 f fd ["table"] (FJ K):=by
 refine F.ok LR (fun vs H Q E h=>?_) (fun j A outer s H vs Q E hr h=>?_)
 ·obtain⟨L,rs,tb,rfl,_⟩:=h;rfl
 ·obtain⟨L,rs,tb,rfl,e,g,c,k⟩:=h
  refine⟨_,zh (cv (gX (fT (ze i hr rfl mt Ft.kp bt .nil af (za (pv 0) zb)))) DF zI),?_⟩;refine⟨_,rfl,L,rs,tb,rfl,e,g,by have:=(h_ c).1;(first|lia|omega),fun H1 d=>⟨_,rfl,?_⟩⟩;rw[c];exact aI (k H1 d)
def PapH.old{H0 H H':Hp}{p:Addr}{u ub v vb:Ξ}{st:List Int}{a1 a2 a3 a4 a5:Addr}{d1 d2 d3 d4:List Addr}(h:PapH H H' p u ub v vb st a1 a2 a3 a4 a5 d1 d2 d3 d4)(s:Same H0 H):PapH H0 H' p u ub v vb st a1 a2 a3 a4 a5 d1 d2 d3 d4:=
 ⟨h.at_,h.n1.old s,h.n2.old s,h.n3.old s,h.n4.old s,h.n5,s.free h.na,h.j12,h.j13,h.j14,h.j15,h.j23,h.j24,h.j25,h.j34,h.j35,h.j45⟩
def PapH.same{H H' H2:Hp}{p:Addr}{u ub v vb:Ξ}{st:List Int}{a1 a2 a3 a4 a5:Addr}{d1 d2 d3 d4:List Addr}(h:PapH H H' p u ub v vb st a1 a2 a3 a4 a5 d1 d2 d3 d4)(s:Same H' H2):PapH H H2 p u ub v vb st a1 a2 a3 a4 a5 d1 d2 d3 d4:=
 ⟨s _ _ h.at_,h.n1.same s,h.n2.same s,h.n3.same s,h.n4.same s,s _ _ h.n5,h.na,h.j12,h.j13,h.j14,h.j15,h.j23,h.j24,h.j25,h.j34,h.j35,h.j45⟩
end
def SmL(tb:Ξ):Prop:=∀r∈tb,∀x∈r,x.natAbs<low
def SmL.big{tb:Ξ}(h:SmL tb):iU tb:=fun r hr x hx=>j0 (h r hr x hx)
def Sm9(tb:Ξ):Prop:=∀r∈tb,∀x∈r,x.natAbs<=2 ^ 900
def Sm9.low{tb:Ξ}(h:Sm9 tb):SmL tb:=fun r hr x hx=>qu (h r hr x hx) ξ
def De:∀{r c:List Int}{a b:Nat},(∀x∈r,x.natAbs<=a)->(∀y∈c,y.natAbs<=b)->(dot r c).natAbs<=c.length*(a*b)
 |[],c,a,b,_,_=>by unfold dot;exact At _
 |_::_,[],a,b,_,_=>by unfold dot;exact At _
 |x::r,y::c,a,b,h1,h2=>by
  have d:=De (r:=r) (c:=c) (fun z hz=>h1 z (.tail _ hz)) fun z hz=>h2 z (.tail _ hz);have e:dot (x::r) (y::c)=x*y+dot r c:=by unfold dot;rw[List.zipWith_cons_cons,List.sum_cons]
  have f:(x*y).natAbs<=a*b:=by rw[AB];exact AQ (h1 x (.head _)) (h2 y (.head _))
  have g:=Int.natAbs_add_le (x*y) (dot r c);rw[e,AH,Nat.add_mul];(first|lia|omega)
def Jy{r c:List Int}(h1:∀x∈r,x.natAbs<low)(h2:∀y∈c,y.natAbs<=2 ^ 900)(hc:c.length<=40):(dot r c).natAbs<big:=by
 have h:=De (r:=r) (c:=c) (a:=2 ^ (bt-1000)) (b:=2 ^ 900) (fun x hx=>Nat.le_of_lt (h1 x hx)) h2;have e:c.length*(2 ^ (bt-1000)*2 ^ 900)<=2 ^ (6+(bt-1000+900)):=Tb.zt (Ae hc ξ) (Tb.zt (Ad _) (Ad _));unfold big;refine Ao (Ae h e) (Nat.pow_lt_pow_right ξ ?_);have:=jz;(first|lia|omega)
abbrev Dh:Stmt:=top 44
abbrev j9:Stmt:=top 45
abbrev nA:Stmt:=top 46
structure iV(mg:Str->Option Value):Prop where
 len:mg "len"=none
 all:mg "all"=none
 zip:mg "zip"=none
 sum:mg "sum"=none
 range:mg "range"=none
 list:mg "list"=none
 int:mg "int"=none
 bool:mg "bool"=none
 isinstance:mg "isinstance"=none
 max:mg "max"=none
def Jz(x y:Int):Prop:=0<=x/\(y=0\/(y=1/\x<4294967296))
def zT(H:Hp)(p:Addr):Prop:=∃x y,H p=some (.lst [.int x,.int y])/\Jz x y
def zab(p:Addr)(H H':Hp):Prop:=∀b o,b≠p->H b=some o->H' b=some o
def zab.trans{p:Addr}{H H1 H2:Hp}(a:zab p H H1)(b:zab p H1 H2):zab p H H2:=fun c o hc e=>b c o hc (a c o hc e)
def zab.of{p:Addr}{H H1:Hp}(a:Same H H1):zab p H H1:=fun c o _ e=>a c o e
def zab.free{p:Addr}{H H':Hp}(e:zab p H H')(hb:zT H p)(b:zT H' p){l:Addr}(h:H' l=none):H l=none:=by
 cases q:H l with
 |none=>rfl
 |some o=>
  obtain⟨x,y,e1,_⟩:=b;have a:l≠p:=fun z=>by rw[z,e1] at h;cases h
  rw[e l o a q] at h;cases h
def zT.same{H H':Hp}{p:Addr}(b:zT H p)(e:Same H H'):zT H' p:=let ⟨x,y,h,o⟩:=b;⟨x,y,e _ _ h,o⟩
def zT.ne{H:Hp}{p l:Addr}{c:List Addr}(b:zT H p)(h:H l=some (.lst (c.map V.ref))):l≠p:=by
 obtain⟨x,y,e,_⟩:=b;refine Dz h e fun z=>?_;injection z with z
 cases c with
 |nil=>cases z
 |cons a r=>rw[A5] at z;cases z
def zT.net{H:Hp}{p t:Addr}{xs:List V}(b:zT H p)(h:H t=some (.tup xs)):t≠p:=by
 obtain⟨x,y,e,_⟩:=b;exact Dz h e (by intro z;cases z)
def zab.tp{p:Addr}{H H':Hp}{a:Addr}{ps:List Int}(e:zab p H H')(b:zT H p)(h:Tp H a ps):Tp H' a ps:=e _ _ (b.net h) h
def zab.then{p:Addr}{H H1:Hp}{a:Addr}{o:HO}(e:zab p H H1)(h:H a=none):zab p H (L2.upd H1 a o):=fun b u hb q=>by rw[al (zl q h)];exact e b u hb q
def zT.upd{H:Hp}{p l:Addr}{o:HO}(b:zT H p)(h:l≠p):zT (L2.upd H l o) p:=let ⟨x,y,e,k⟩:=b;⟨x,y,by rw[al h.symm];exact e,k⟩
def zT.new{H:Hp}{p l:Addr}{o:HO}(b:zT H p)(h:H l=none):zT (L2.upd H l o) p:=b.same (Same.new h)
section
variable{P:Program}{w:World}{K:Ag}{mg:Str->Option Value}{base:Heap}
def JA(K:Ag):Sp:=fun vs H Q _=>∃(l:Addr)(ns:List Int)(j:Nat),vs=[.ref l,.int j]/\SqL K H l (ns.map V.int)/\∀n,Q (.int n) H
def N7:zo ["script","k"] ["script","k"] (zf Dh):=⟨rfl,rfl,rfl,δ,rfl,δ,δ⟩
def N8{f:Addr}{fd:FuncData}(F:Fun K "_law_cell_at" "_law_cell_at" Dh f fd)(B:iV mg):ah P w K mg base au 1 f fd ["script","k"] (JA K):=by
 refine F.ok N7 (fun vs H Q E h=>?_) (fun c A outer s H vs Q E hr h=>?_)
 ·obtain⟨l,ns,j,rfl,_⟩:=h;rfl
 ·obtain⟨l,ns,j,rfl,a,k⟩:=h
  refine⟨_,zc (cv (zr n_ (pv 1) (zn zk rfl B.len cR (za (pv 0) zb)) (ap _)) (zh (zq (zw zx (pv 0) (pv 1) (fun _ _=>rfl)))) zI) (zh (zq zd)),?_⟩;refine⟨_,rfl,_,rfl,l,_,rfl,.inl a,_,_,rfl,rfl,_,rfl,?_⟩;refine e_ (fun h1=>?_) (fun h1=>?_)
  ·have b:j<ns.length:=by have:=of_decide_eq_true h1;simp at this;(first|lia|omega)
   exact⟨_,rfl,_,rfl,l,_,_,_,rfl,rfl,a,zi (j:=j) (v:=.int ns[j]) (by rw[Aj,Ab b];rfl),k _⟩
  ·exact k 0
def JB:Sp:=fun vs H Q _=>∃n,vs=[.int n]/\∀p x y,H p=none->Jz x y->Q (.ref p) (upd H p (.lst [.int x,.int y]))
def N9:zo ["cell"] ["cell"] (zf j9):=⟨rfl,rfl,rfl,δ,rfl,δ,δ⟩
def N_{f:Addr}{fd:FuncData}(F:Fun K "_law_box" "_law_box" j9 f fd):ah P w K mg base au 1 f fd ["cell"] JB:=by
 refine F.ok N9 (fun vs H Q E h=>?_) (fun b A outer s H vs Q E hr h=>?_)
 ·obtain⟨n,rfl,_⟩:=h;rfl
 ·obtain⟨n,rfl,k⟩:=h
  refine⟨_,zc (cv (zr Kl (pv 0) (zF DN zd zd) (ap _)) (zh (zq (hV (za (zF gu (pv 0) (zF DN zd zd)) (za zd zb))))) zI)
   (zh (zq (hV (za (zF je (zF eU (zF lZ (zF je (pv 0) (zF DN zd zd)) zd) zd) zd) (za zd zb))))),?_⟩
  have hc:tj 10 18:=⟨ξ,ξ,ξ⟩;have a:(10:Int) ^ (18:Int).toNat=1000000000000000000:=ξ
  refine⟨_,rfl,_,_,rfl,rfl,hc,_,_,rfl,rfl,_,rfl,?_⟩;refine e_ (fun h1=>?_) (fun h1=>?_)
  ·refine⟨_,rfl,_,_,rfl,rfl,hc,_,_,rfl,rfl,zA (by simp),fun p hp=>k p _ 0 hp ⟨?_,.inl rfl⟩⟩
   have:=of_decide_eq_true h1
   lia
  ·refine⟨_,rfl,_,_,rfl,rfl,hc,_,_,rfl,rfl,(by show(0:Int)<10 ^ (18:Int).toNat;rw[a];decide),_,_,rfl,rfl,.inr ⟨ξ,ξ⟩,_,_,rfl,rfl,_,_,rfl,rfl,(by show(0:Int)<2147483629;decide),zA (by simp),fun p hp=>k p _ 1 hp ⟨?_,.inr ⟨rfl,?_⟩⟩⟩
   ·exact Int.emod_nonneg _ ξ
   ·have:=Int.emod_lt_of_pos (n%10 ^ (18:Int).toNat*69621+7001) (show(0:Int)<2147483629 from ξ)
    lia
def qY:Sp:=fun vs H Q _=>∃p m,vs=[.ref p,.int m]/\zT H p/\0<m/\m<1073741824/\∀r H',0<=r->r<m->zab p H H'->zT H' p->Q (.int r) H'
def FK:zo ["box","most","found","mixed"] ["box","most"] (zf nA):=⟨rfl,rfl,rfl,δ,rfl,δ,δ⟩
def Di{f:Addr}{fd:FuncData}(F:Fun K "_law_take" "_law_take" nA f fd):ah P w K mg base au 1 f fd ["box","most"] qY:=by
 refine F.ok FK (fun vs H Q E h=>?_) (fun J A outer s H vs Q E hr h=>?_)
 ·obtain⟨p,m,rfl,_⟩:=h;rfl
 ·obtain⟨p,m,rfl,⟨x,y,hp,d,g⟩,a,D,k⟩:=h
  refine⟨_,zc (cv (zr dO (zw zx (pv 0) zd (fun _ _=>rfl)) zd (ap _))
    (zc (zp (i:=2) FK.nd rfl (Or.inl rfl) (zF je (zw zx (pv 0) zd (fun _ _=>rfl)) (pv 1)))
    (zc (iv (zF DM (zw zx (pv 0) zd (fun _ _=>rfl)) (pv 1)) (iX (pv 0) zd set_list))
    (zh (zq (pv 2))))) zI)
   (zc (zp (i:=3) FK.nd rfl (Or.inl rfl) (zF je (zF eU (zF eU (zF lZ (zw zx (pv 0) zd (fun _ _=>rfl)) (zw zx (pv 0) zd (fun _ _=>rfl))) (zF lZ zd (zw zx (pv 0) zd (fun _ _=>rfl)))) zd) zd))
   (zc (iv (zF je (zF eU (zF eU (zF lZ (pv 3) (pv 3)) (zF lZ zd (pv 3))) zd) zd) (iX (pv 0) zd set_list))
   (zh (zq (zF je (zF DM (zw zx (pv 0) zd (fun _ _=>rfl)) zd) (pv 1)))))),?_⟩
  have c:atI ([.int x,.int y]:List V) 0=some (.int x):=zi (j:=0) rfl;have a1:atI ([.int x,.int y]:List V) 1=some (.int y):=zi (j:=1) rfl;refine⟨_,rfl,p,_,_,_,rfl,rfl,SqL.of hp,a1,rfl,_,rfl,?_⟩;refine e_ (fun h1=>?_) (fun h1=>?_)
  ·refine⟨_,rfl,p,_,_,_,rfl,rfl,SqL.of hp,c,_,rfl,_,_,rfl,rfl,a,?_⟩
   refine⟨_,rfl,p,_,_,_,rfl,rfl,SqL.of hp,c,_,rfl,_,_,rfl,rfl,⟨a,D⟩,_,rfl,p,_,_,0,rfl,rfl,hp,rfl,?_⟩;refine⟨_,rfl,k (x%m) _ (Int.emod_nonneg _ (by lia)) (Int.emod_lt_of_pos _ a) (fun b o hb e=>by rw[al hb];exact e) ⟨x / m,y,ac,Int.ediv_nonneg d (by lia),?_⟩⟩;rcases g with q|⟨q,hx⟩
   ·exact .inl q
   ·refine .inr ⟨q,Int.lt_of_le_of_lt (Int.ediv_le_self _ d) hx⟩
  ·have hy:y=1/\x<4294967296:=by
    rcases g with q|q
    ·exact absurd (by subst q;rfl) h1
    ·exact q
   obtain⟨rfl,hx⟩:=hy;have hb:CMul x x:=.inl ⟨by lia,by lia⟩;refine⟨_,rfl,p,_,_,_,rfl,rfl,SqL.of hp,c,_,rfl,p,_,_,_,rfl,rfl,SqL.of hp,c,_,_,rfl,rfl,hb,_,rfl,p,_,_,_,rfl,rfl,SqL.of hp,c,_,_,rfl,rfl,.inl ⟨ξ,ξ⟩,_,_,rfl,rfl,_,_,rfl,rfl,_,_,rfl,rfl,(by show(0:Int)<2147483647;decide),?_⟩;have G:=Int.emod_nonneg (x*x+39373*x+12345) (show(2147483647:Int)≠0 from ξ);have I:=Int.emod_lt_of_pos (x*x+39373*x+12345) (show(0:Int)<2147483647 from ξ);obtain⟨z,l⟩:∃z,z=(x*x+39373*x+12345)%2147483647:=⟨_,rfl⟩;rw[<-l] at G I;show sj _ _ _ ([some (.ref p),some (.int m),none,some (.int ((x*x+39373*x+12345)%2147483647))]:St) H;rw[<-l];refine⟨_,rfl,_,rfl,_,_,rfl,rfl,.inl ⟨by lia,by lia⟩,_,rfl,_,_,rfl,rfl,.inl ⟨ξ,ξ⟩,_,_,rfl,rfl,_,_,rfl,rfl,_,_,rfl,rfl,(by show(0:Int)<2147483587;decide),_,rfl,p,_,_,0,rfl,rfl,hp,rfl,?_⟩;have v:=Int.emod_nonneg (z*z+16807*z+7) (show(2147483587:Int)≠0 from ξ);have g1:=Int.emod_lt_of_pos (z*z+16807*z+7) (show(0:Int)<2147483587 from ξ);obtain⟨u,r⟩:∃u,u=(z*z+16807*z+7)%2147483587:=⟨_,rfl⟩;rw[<-r] at v g1;have C:upd H p (.lst [.int ((z*z+16807*z+7)%2147483587),.int 1]) p=some (.lst [.int u,.int 1]):=by rw[r];exact ac
   refine⟨_,rfl,p,_,_,_,rfl,rfl,SqL.of C,zi (j:=0) rfl,_,_,rfl,rfl,⟨ξ,ξ⟩,_,rfl,_,_,rfl,rfl,a,?_⟩;exact k _ _ (Int.emod_nonneg _ (by lia)) (Int.emod_lt_of_pos _ a) (fun b o hb e=>by rw[al hb];exact e) ⟨u,1,C,v,.inr ⟨rfl,by lia⟩⟩
end
abbrev gT:Stmt:=top 47
abbrev j':Stmt:=top 48
section
variable{P:Program}{w:World}{K:Ag}{mg:Str->Option Value}{base:Heap}
def Bnd(m:Int)(ns:List Int):Prop:=∀n∈ns,-m<=n/\n<=m
def Dl:Sp:=fun vs H Q _=>∃(p:Addr)(c:Nat)(a:Int),vs=[.ref p,.int c,.int a]/\zT H p/\c<=1000/\0<a/\a<1073741824/\∀D H' ns,zab p H H'->zT H' p->H D=none->H' D=some (.lst (ns.map V.int))->ns.length=c->Bnd a ns->Q (.ref D) H'
def Oa:zo ["box","columns","wide"] ["box","columns","wide"] (zf gT):=⟨rfl,rfl,rfl,δ,rfl,δ,δ⟩
def JC{f G:Addr}{fd I:FuncData}(F:Fun K "_law_row" "_law_row" gT f fd)(B:iV mg)(Ft:Fun K "_law_take" "_law_take" nA G I)(bt:Binds K I ["box","most"] [])(mt:mg "_law_take"=some (.ref G)):ah P w K mg base au 2 f fd ["box","columns","wide"] Dl:=by
 have T:ah P w K mg base au 1 G I ["box","most"] qY:=Di Ft;refine F.ok Oa (fun vs H Q E h=>?_) (fun U A outer s H vs Q E hr h=>?_)
 ·obtain⟨p,c,d,rfl,_⟩:=h;rfl
 ·obtain⟨p,c,d,rfl,hb,hc,O,w1,k⟩:=h
  refine⟨_,zh (zq (zz ["box","columns","wide"] ["place","box","wide"] [none,some 0,some 2] (jc rfl B.range (za (pv 1) zb)) (fun J C s₀ H₀ ex=>zm (i:=0) (bC ["place","box","wide"]) rfl (Or.inl rfl)) (fun J C s₀ H₀ ex=>zB)
   (fun J C s₀ H₀ ex=>zF gu (ze T hr rfl mt Ft.kp bt .nil af (za (pv 1) (za (pv 2) zb))) (zF DM (pv 2) zd)) (te:=cy (g_ fun i j=>.int (i-j)) (eX qY [] E0 (zZ (ar 1) (zZ (ar 2) bD))) (cy (rI ti fun i j=>.int (i / j)) (ar 2) (tC (.int 2)))) (hfr:=a9 (zf gT) δ))),?_⟩
  refine⟨_,rfl,_,rfl,ω,ω,fun D l=>?_⟩;have M:D≠p:=fun z=>by obtain⟨x,y,e,_⟩:=hb;rw[<-z,l] at e;cases e
  refine zD (Cp (fun j σ ys g=>∃(v:Option V)(ns:List Int),σ=[v,some (.ref p),some (.int d)]/\zab p H g/\zT g p/\g D=some (.lst ys)/\ys=ns.map V.int/\ns.length=j/\Bnd d ns) ?_ ?_ ?_)
  ·exact⟨none,[],rfl,.of (Same.new l),hb.new l,ac,rfl,rfl,fun n o=>by cases o⟩
  ·rintro j σ ys g S hy ⟨v,ns,rfl,q,a,b,rfl,u,bd⟩
   refine dy ?_;refine⟨_,rfl,_,rfl,p,d,rfl,a,O,w1,fun r X W r1 L N=>⟨_,rfl,_,_,rfl,rfl,⟨ξ,ξ⟩,_,_,rfl,rfl,?_⟩⟩;refine b6 (zA ω) S hy (L _ _ M b) ⟨_,ns++[r-d / 2],rfl,(q.trans L).then l,N.upd M,ac,by simp,by simp[u],fun n o=>?_⟩;rcases List.mem_append.mp o with h|h
   ·exact bd n h
   ·obtain rfl:n=r-d / 2:=by simpa using h
    (first|lia|omega)
  ·rintro σ ys g ⟨v,ns,rfl,q,a,b,rfl,u,bd⟩
   exact k D g ns q a l b u bd
end
def Rws.sameB{p:Addr}{H H':Hp}{ds:List Addr}{tb:Ξ}(h:Rws H ds tb)(s:zab p H H'):(∀d∈ds,d≠p)->Rws H' ds tb:=by
 induction h with
 |nil=>intro _;exact .nil
 |cons r t ih=>intro n;exact .cons (s _ _ (n _ (AM)) r) (ih fun d hd=>n d (AJ _ hd))
def Rws.set{H:Hp}{ds:List Addr}{tb:Ξ}{d:Addr}{ns:List Int}(h:Rws H ds tb)(e:H d=some (.lst (ns.map V.int))):∀i:Nat,Rws H (ds.set i d) (tb.set i ns):=by
 induction h with
 |nil=>intro i;exact .nil
 |cons r t ih=>
  intro i;cases i with
  |zero=>exact .cons e t
  |succ i=>exact .cons r (ih i)
section
variable{P:Program}{w:World}{K:Ag}{mg:Str->Option Value}{base:Heap}
def Ob{p D:Addr}{H2:Hp}{n:Nat}{Q:VK}{Pr:List Int->Prop}{te:TE}{c:List (Option V)}(hb:zT H2 p)(L:∀(j:Nat)(H:Hp)(R:VK),zab p H2 H->zT H p->(∀d H' ns,zab p H H'->zT H' p->H d=none->H' d=some (.lst (ns.map V.int))->Pr ns->R (.ref d) H')->te (some (.int j)::c) H R)(hz:n<=1000)(q:H2 D=none)(k:∀a ds tb,zab p H2 a->zT a p->a D=some (.lst (ds.map V.ref))->Rws a ds tb->tb.length=n->(∀r∈tb,Pr r)->(∀d∈ds,H2 d=none/\d≠D)->Q (.ref D) a):dr (iY 0 n) (zQ 0) bE te (none::c) H2 D Q:=by
 have l:∀d,H2 d=none->d≠p:=fun d e z=>by obtain⟨x,y,A,_⟩:=hb;rw[<-z,e] at A;cases A
 have C:=l D q;refine Cp (fun j σ ys a=>∃(v:Option V)(ds:List Addr)(tb:Ξ),σ=v::c/\zab p H2 a/\zT a p/\a D=some (.lst ys)/\ys=ds.map V.ref/\Rws a ds tb/\tb.length=j/\(∀r∈tb,Pr r)/\∀d∈ds,H2 d=none/\d≠D) ?_ ?_ ?_
 ·exact⟨none,[],[],rfl,.of (Same.new q),hb.new q,ac,rfl,.nil,rfl,(fun d hd=>by cases hd),fun d hd=>by cases hd⟩
 ·rintro j σ ys a I hy ⟨v,ds,tb,rfl,i,b,f,rfl,hr,u,hp,o⟩
  refine dy ?_;rw[show(0:Int)+((j:Nat):Int)=((j:Nat):Int) from ω];refine L j a _ i b fun d M ns s E hd F pr=>?_;have J:H2 d=none:=i.free hb b hd;have w:d≠D:=fun z=>by rw[z,f] at hd;cases hd
  have all:∀e∈ds++[d],H2 e=none/\e≠D:=fun e g=>by
   rcases List.mem_append.mp g with h|h
   ·exact o e h
   ·obtain rfl:e=d:=by simpa using h
    exact⟨J,w⟩
  refine b6 (zA ω) I hy (s _ _ C f) ⟨_,ds++[d],tb++[ns],rfl,(i.trans s).then q,E.upd C,ac,by simp,?_,by simp[u],fun r G=>?_,all⟩
  ·exact((hr.sameB s fun e g=>l e (o e g).1).snoc F).upd fun e g=>(all e g).2
  ·rcases List.mem_append.mp G with h|h
   ·exact hp r h
   ·obtain rfl:r=ns:=by simpa using h
    exact pr
 ·rintro σ ys a ⟨v,ds,tb,rfl,i,b,f,rfl,hr,u,hp,o⟩
  exact k a ds tb i b f hr u hp o
abbrev nD:TE:=cy (rI CMul fun i j=>.int (i*j)) (ar 1) (ar 0)
def JD{R D:Addr}{H2:Hp}{ns:List Int}{o:Int}{Q:VK}(e:-(2 ^ 64)<o/\o<2 ^ 64)(f:H2 R=some (.lst (ns.map V.int)))(hz:ns.length<=1000)(c:H2 D=none)(k:∀a,Same H2 a->a D=some (.lst ((ns.map (o*·)).map V.int))->Q (.ref D) a):dr (gt K R) (zQ 0) bE nD [none,some (.int o)] H2 D Q:=by
 refine mB (xs:=ns.map V.int) (fun j σ ys a=>∃(v:Option V),σ=[v,some (.int o)]/\Same H2 a/\a D=some (.lst ys)/\ys=((ns.take j).map (o*·)).map V.int) ?_ ?_ ?_ ?_
 ·exact⟨none,rfl,Same.new c,ac,rfl⟩
 ·rintro j σ ys a ⟨v,rfl,sm,_⟩
  exact SqL.of (sm _ _ f)
 ·rintro j σ ys a x hx d hy ⟨v,rfl,sm,b,rfl⟩
  obtain⟨q,g,rfl⟩:=ig hx;refine dy ?_;refine⟨_,rfl,_,rfl,_,_,rfl,rfl,.inl e,b6 (by rw[Aa];exact zA ω) d hy b ⟨_,rfl,sm.then c,ac,?_⟩⟩;rw[take_snoc g,AD,AD]
  rfl
 ·rintro σ ys a ⟨v,rfl,sm,b,rfl⟩
  rw[Aa,Ax (Ad _)] at b;exact k a sm b
end
def TabB(H0:Hp)(p F:Addr)(c n:Nat)(m:Int)(H':Hp):Prop:=∃ds tb,zab p H0 H'/\zT H' p/\H' F=some (.lst (ds.map V.ref))/\Rws H' ds tb/\tb.length=n/\(∀r∈tb,r.length=c/\Bnd m r)/\(∀d∈ds,H0 d=none/\d≠F)/\H0 F=none
def eH{H:Hp}{p d:Addr}(hb:zT H p)(e:H d=none):d≠p:=fun z=>by obtain⟨x,y,a,_⟩:=hb;rw[<-z,e] at a;cases a
def TabB.draw{H0 H' a:Hp}{p F:Addr}{c n:Nat}{m:Int}(hb:zT H0 p)(h:TabB H0 p F c n m H')(s:zab p H' a)(b:zT a p):TabB H0 p F c n m a:=by
 obtain⟨ds,tb,g,_,i,hr,j,hp,e,f⟩:=h;exact⟨ds,tb,g.trans s,b,s _ _ (eH hb f) i,hr.sameB s fun d hd=>eH hb (e d hd).1,j,hp,e,f⟩
def Bnd.mono{m a:Int}{ns:List Int}(h:Bnd m ns)(c:m<=a):Bnd a ns:=fun n b=>by have:=h n b;(first|lia|omega)
def Bnd.times{m k o:Int}{ns:List Int}(h:Bnd m ns)(d:0<=m)(h1:-k<=o)(h2:o<=k):Bnd (k*m) (ns.map (o*·)):=fun n c=>by
 obtain⟨q,hq,rfl⟩:=List.mem_map.mp c;obtain⟨e,f⟩:=h q hq;have hk:0<=k:=ω
 have e1:o.natAbs<=k.natAbs:=ω
 have e2:q.natAbs<=m.natAbs:=ω
 have e3:(o*q).natAbs<=(k*m).natAbs:=by rw[AB,AB];exact AQ e1 e2
 have g:0<=k*m:=Int.mul_nonneg hk d;show -(k*m)<=o*q/\o*q<=k*m;generalize o*q=a at *;generalize k*m=b at *;(first|lia|omega)
def TabB.put{H0 H' q:Hp}{p F D:Addr}{c n:Nat}{m g:Int}{ds:List Addr}{tb:Ξ}{i:Nat}{ns:List Int}(hb:zT H0 p)(s:zab p H0 H')(u:zT H' p)(A:H' F=some (.lst (ds.map V.ref)))(hr:Rws H' ds tb)(C:tb.length=n)(hp:∀r∈tb,r.length=c/\Bnd m r)(E:∀d∈ds,H0 d=none/\d≠F)(j:H0 F=none)(l:H' D=none)(sm:Same H' q)(e:q D=some (.lst (ns.map V.int)))(G:ns.length=c)(H:Bnd g ns)(I:m<=g):TabB H0 p F c n g (L2.upd q F (.lst ((ds.map V.ref).set i (.ref D)))):=by
 have x:=eH hb j;have y:D≠F:=fun z=>by rw[z,A] at l;cases l
 have f:H0 D=none:=s.free hb u l;have mem:∀d∈ds.set i D,H0 d=none/\d≠F:=fun d hd=>by
  rcases List.mem_or_eq_of_mem_set hd with h|h
  ·exact E d h
  ·rw[h];exact⟨f,y⟩
 refine⟨ds.set i D,tb.set i ns,fun b o v a=>?_,(u.same sm).upd x,?_,((hr.same sm).set e i).upd fun d hd=>(mem d hd).2,by simp[C],fun r w=>?_,mem,j⟩
 ·rw[al (fun z=>by rw[z,j] at a;cases a)]
  exact sm _ _ (s b o v a)
 ·rw[ac,List.map_set]
 ·rcases List.mem_or_eq_of_mem_set w with h|h
  ·exact⟨(hp r h).1,(hp r h).2.mono I⟩
  ·rw[h];exact⟨G,H⟩
def yT{n:Nat}{k:Int}(a:0<=k)(h1:k<n):hZ n k=some k.toNat:=by unfold hZ;rw[if_pos a,if_pos h1]
def FM{a:Type}{xs:List a}{k:Int}{v:a}(b:0<=k)(h1:k<xs.length)(e:xs[k.toNat]?=some v):atI xs k=some v:=by unfold atI;rw[yT b h1];exact e
section
variable{P:Program}{w:World}{K:Ag}{mg:Str->Option Value}{base:Heap}
def JE:Sp:=fun vs H Q _=>∃(p:Addr)(q:Nat),vs=[.ref p,.int q]/\q<=6/\zT H p/\∀F H' c n,c<=q->n<=q->TabB H p F c n 1000 H'->Q (.ref F) H'
def ja:zo ["box","most","rows","columns","wide","found","one","other","often"] ["box","most"] (zf j'):=⟨rfl,rfl,rfl,δ,rfl,δ,δ⟩
def Oc{f ft fr:Addr}{fd aM aX:FuncData}(F:Fun K "_law_table" "_law_table" j' f fd)(B:iV mg)(Ft:Fun K "_law_take" "_law_take" nA ft aM)(bt:Binds K aM ["box","most"] [])(mt:mg "_law_take"=some (.ref ft))(Fr:Fun K "_law_row" "_law_row" gT fr aX)(br:Binds K aX ["box","columns","wide"] [])(mr:mg "_law_row"=some (.ref fr)):ah P w K mg base au 3 f fd ["box","most"] JE:=by
 have z:ah P w K mg base au 1 ft aM ["box","most"] qY:=Di Ft;have Gr:ah P w K mg base au 2 fr aX ["box","columns","wide"] Dl:=JC Fr B Ft bt mt;refine F.ok ja (fun vs H Q E h=>?_) (fun ai A outer s H vs Q E hr h=>?_)
 ·obtain⟨p,q,rfl,_⟩:=h;rfl
 ·obtain⟨p,q,rfl,yP,hb,k⟩:=h
  have a:Room 1 _:=hr.mono ξ;have k6:∃tt,PSs (dq au P w K mg base ["box","most","rows","columns","wide","found","one","other","often"] "_law_table" (zf j') f ai A outer s H E).nox (List.drop 5 (zax j')) tt/\∀(e:Addr)(n c:Nat)(x4 v6 v7 v8:Option V)(H':Hp),n<=q->c<=q->TabB H p e c n 122 H'->
    tt {nx:=fun _ H'=>Q .non H',rt:=Q} [some (.ref p),some (.int q),some (.int n),some (.int c),x4,some (.ref e),v6,v7,v8] H':=by
   refine⟨_,(zc (cv (PW.pt (nX (zr iZ (pv 2) zd (ap _)) (nW (zr dO (ze z a rfl mt Ft.kp bt .nil af (za (pv 0) (za zd zb))) zd (ap _)))))
    (zc (zp (i:=6) ja.nd rfl (Or.inl rfl) (ze z a rfl mt Ft.kp bt .nil af (za (pv 0) (za (pv 2) zb))))
    (zc (zp (i:=8) ja.nd rfl (Or.inr rfl) (zF eU zd (ze z a rfl mt Ft.kp bt .nil af (za (pv 0) (za zd zb)))))
    (zh (iv (zz ["box","most","rows","columns","wide","found","one","other","often"] ["number","often"] [none,some 8] (zO (zw zx (pv 5) (pv 6) (fun _ _=>rfl))) (fun I C s₀ H₀ ex=>zm (i:=0) (bC ["number","often"]) rfl (Or.inl rfl)) (fun I C s₀ H₀ ex=>zB)
     (fun I C s₀ H₀ ex=>zF lZ (pv 1) (pv 0)) (te:=nD) (hfr:=a9 (zf j') δ)) (iX (pv 5) (pv 6) set_list))))) zI)
    (zh (zq (pv 5)))),?_⟩
   intro e n c x4 v6 v7 v8 H' hn hc T;have aO:zT H' p:=by obtain⟨_,_,_,b,_⟩:=T;exact b
   refine⟨_,rfl,_,_,rfl,rfl,_,rfl,?_⟩
   by_cases c1:0<n
   ·rw[decide_eq_true (show(0:Int)<(n:Int) from ω)]
    refine aR ⟨_,rfl,p,_,rfl,aO,ξ,ξ,fun u H1 u0 u1 f_ Y=>⟨rfl,_,rfl,?_⟩⟩;have T1:=T.draw hb f_ Y;refine e_ (fun _=>?_) (fun _=>?_)
    ·refine⟨_,rfl,_,rfl,p,_,rfl,Y,ω,ω,fun i H2 Z i1 dN S=>?_⟩
     refine⟨_,rfl,p,_,rfl,S,ξ,ξ,fun o H3 o0 o1 dW l=>⟨_,_,rfl,rfl,?_⟩⟩;obtain⟨ds,tb,L,M,y,x,G,hp,g,N⟩:=(T1.draw hb dN S).draw hb dW l;have gD:=x.len;have hi:i.toNat<ds.length:=ω
     obtain⟨ns,en,X⟩:=x.get (Ab hi);have O:=An en;refine⟨_,rfl,_,rfl,e,_,_,_,rfl,rfl,SqL.of y,FM (v:=.ref ds[i.toNat]) Z (by rw[Aa];(first|lia|omega)) (by rw[Aj,Ab hi];rfl),_,rfl,⟨_,SqL.of X⟩,fun D U=>?_⟩;refine zD (JD (o:=1+o) ⟨ω,ω⟩ X (by rw[(hp ns O).1];(first|lia|omega)) U fun H4 aP bM=>?_);refine⟨_,rfl,_,rfl,e,_,_,i.toNat,rfl,rfl,aP _ _ y,yT Z (by rw[Aa];(first|lia|omega)),?_⟩;refine⟨_,rfl,k e _ c n hc hn ?_⟩;exact TabB.put hb L M y x G hp g N U aP bM (by rw[Aa];exact(hp ns O).1) (((hp ns O).2.times (k:=6) ω ω ω).mono ω) ω
    ·obtain⟨ds,tb,L,M,y,x,G,hp,g,N⟩:=T1
     exact⟨_,rfl,k e _ c n hc hn ⟨ds,tb,L,M,y,x,G,fun r J=>⟨(hp r J).1,(hp r J).2.mono ω⟩,g,N⟩⟩
   ·rw[decide_eq_false (show ¬(0:Int)<(n:Int) from ω)]
    refine aI (aI ?_);obtain⟨ds,tb,L,M,y,x,G,hp,g,N⟩:=T;exact⟨_,rfl,k e _ c n hc hn ⟨ds,tb,L,M,y,x,G,fun r J=>⟨(hp r J).1,(hp r J).2.mono ω⟩,g,N⟩⟩
  obtain⟨tt,ht,kt⟩:=k6;refine⟨_,zc (zp (i:=2) ja.nd rfl (Or.inl rfl) (ze z a rfl mt Ft.kp bt .nil af (za (pv 0) (za (zF eU (pv 1) zd) zb))))
   (zc (zp (i:=3) ja.nd rfl (Or.inr rfl) (ze z a rfl mt Ft.kp bt .nil af (za (pv 0) (za (zF eU (pv 1) zd) zb))))
   (zc (zp (i:=4) ja.nd rfl (Or.inr rfl) (zw zx (hV (za zd (za zd (za zd (za zd zb))))) (ze z a rfl mt Ft.kp bt .nil af (za (pv 0) (za zd zb))) (fun _ _=>rfl)))
   (zc (mH (i:=5) ja.nd rfl (Or.inl rfl) ["box","most","rows","columns","wide","found","one","other","often"] ["row","box","columns","wide"] [none,some 0,some 3,some 4] (jc rfl B.range (za (pv 2) zb)) (fun I C s₀ H₀ ex=>zm (i:=0) (bC ["row","box","columns","wide"]) rfl (Or.inl rfl)) (fun I C s₀ H₀ ex=>zB)
    (fun I C s₀ H₀ ex=>ze Gr hr rfl mr Fr.kp br .nil af (za (pv 1) (za (pv 2) (za (pv 3) zb)))) (te:=eX Dl [] E0 (zZ (ar 1) (zZ (ar 2) (zZ (ar 3) bD)))) (hfr:=a9 (zf j') δ))
   (zc (cv (PW.pt (nX (zr iZ (pv 2) zd (ap _)) (nW (zr dO (ze z a rfl mt Ft.kp bt .nil af (za (pv 0) (za zd zb))) zd (ap _)))))
    (zc (zp (i:=6) ja.nd rfl (Or.inl rfl) (ze z a rfl mt Ft.kp bt .nil af (za (pv 0) (za (pv 2) zb))))
    (zc (zp (i:=7) ja.nd rfl (Or.inl rfl) (ze z a rfl mt Ft.kp bt .nil af (za (pv 0) (za (pv 2) zb))))
    (zc (zp (i:=8) ja.nd rfl (Or.inr rfl) (zF gu (ze z a rfl mt Ft.kp bt .nil af (za (pv 0) (za zd zb))) zd))
    (zh (iv (zz ["box","most","rows","columns","wide","found","one","other","often"] ["number","often"] [none,some 8] (zO (zw zx (pv 5) (pv 7) (fun _ _=>rfl))) (fun I C s₀ H₀ ex=>zm (i:=0) (bC ["number","often"]) rfl (Or.inl rfl)) (fun I C s₀ H₀ ex=>zB)
     (fun I C s₀ H₀ ex=>zF lZ (pv 1) (pv 0)) (te:=nD) (hfr:=a9 (zf j') δ)) (iX (pv 5) (pv 6) set_list)))))) zI)
   ht)))),?_⟩
  refine⟨_,rfl,_,rfl,_,_,rfl,rfl,p,_,rfl,hb,ω,ω,fun n H1 n0 n1 f_ Y=>?_⟩;refine⟨_,rfl,_,rfl,_,_,rfl,rfl,p,_,rfl,Y,ω,ω,fun c H2 c0 c1 dN S=>?_⟩;refine⟨ξ,fun q hq=>⟨_,rfl,p,_,rfl,S.new hq,ξ,ξ,fun v H3 v0 v1 dW l=>?_⟩⟩;obtain⟨n,rfl⟩:∃m:Nat,n=(m:Int):=⟨n.toNat,ω⟩;obtain⟨c,rfl⟩:∃m:Nat,c=(m:Int):=⟨c.toNat,ω⟩;obtain⟨W,ew,w0,w1⟩:∃W:Int,atI [V.int 3,.int 5,.int 13,.int 61] v=some (.int W)/\0<W/\W<=61:=by
   have:v=0\/v=1\/v=2\/v=3:=ω
   rcases this with rfl|rfl|rfl|rfl
   ·exact⟨3,rfl,ξ,ξ⟩
   ·exact⟨5,rfl,ξ,ξ⟩
   ·exact⟨13,rfl,ξ,ξ⟩
   ·exact⟨61,rfl,ξ,ξ⟩
  refine⟨q,_,_,_,rfl,rfl,SqL.of (dW _ _ (eH S hq) ac),ew,?_⟩;have S3:zab p H H3:=((f_.trans dN).trans (.of (Same.new hq))).trans dW;refine⟨_,rfl,_,rfl,ω,ω,fun e y=>?_⟩;refine zD (Ob (p:=p) (n:=n) (Pr:=fun ns=>ns.length=c/\Bnd 61 ns) l (fun j H' R L aO hR=>⟨_,rfl,_,rfl,_,rfl,p,c,W,rfl,aO,ω,w0,ω,fun d H4 ns cm ce hd e4 G bd=>hR d H4 ns cm ce hd e4 ⟨G,bd.mono w1⟩⟩) ω y fun H4 ds tb cm ce qx hr4 gI iO pK=>?_);have T4:TabB H p e c n 61 H4:=⟨ds,tb,S3.trans cm,ce,qx,hr4,gI,iO,fun d hd=>⟨S3.free hb l (pK d hd).1,(pK d hd).2⟩,S3.free hb l y⟩;have up:∀H',TabB H p e c n 61 H'->TabB H p e c n 122 H':=fun H' ⟨ds,tb,a1,a2,a3,a4,a5,a6,a7,a8⟩=>⟨ds,tb,a1,a2,a3,a4,a5,fun r J=>⟨(a6 r J).1,(a6 r J).2.mono ω⟩,a7,a8⟩;refine⟨_,rfl,_,_,rfl,rfl,_,rfl,?_⟩
  by_cases c1':1<n
  ·rw[decide_eq_true (show(1:Int)<(n:Int) from ω)]
   refine aR ⟨_,rfl,p,_,rfl,ce,ξ,ξ,fun u H5 u0 u1 gO gh=>⟨rfl,_,rfl,?_⟩⟩;have T5:=T4.draw hb gO gh;refine e_ (fun _=>?_) (fun _=>?_)
   ·refine⟨_,rfl,_,rfl,p,_,rfl,gh,ω,ω,fun i H6 Z i1 l5 jv=>?_⟩
    refine⟨_,rfl,_,rfl,p,_,rfl,jv,ω,ω,fun o H7 o0 o1 mE ju=>?_⟩;refine⟨_,rfl,p,_,rfl,ju,ξ,ξ,fun t H8 t0 t1 xG tW=>⟨_,_,rfl,rfl,?_⟩⟩;obtain⟨ds,tb,L,M,mK,x,G,hp,g,N⟩:=((T5.draw hb l5 jv).draw hb mE ju).draw hb xG tW;have gD:=x.len;have hi:o.toNat<ds.length:=ω
    obtain⟨ns,en,X⟩:=x.get (Ab hi);have O:=An en;refine⟨_,rfl,_,rfl,e,_,_,_,rfl,rfl,SqL.of mK,FM (v:=.ref ds[o.toNat]) o0 (by rw[Aa];(first|lia|omega)) (by rw[Aj,Ab hi];rfl),_,rfl,⟨_,SqL.of X⟩,fun D U=>?_⟩;refine zD (JD (o:=t-2) ⟨ω,ω⟩ X (by rw[(hp ns O).1];(first|lia|omega)) U fun H9 ow x9=>?_);refine⟨_,rfl,_,rfl,e,_,_,i.toNat,rfl,rfl,ow _ _ mK,yT Z (by rw[Aa];(first|lia|omega)),?_⟩;exact kt e n c _ _ _ _ _ ω ω (TabB.put hb L M mK x G hp g N U ow x9 (by rw[Aa];exact(hp ns O).1) (((hp ns O).2.times (k:=2) ω ω ω).mono ω) ω)
   ·exact kt e n c _ _ _ _ _ ω ω (up _ T5)
  ·rw[decide_eq_false (show ¬(1:Int)<(n:Int) from ω)]
   exact aI (aI (kt e n c _ _ _ _ _ ω ω (up _ T4)))
end
abbrev ri:Stmt:=top 49
abbrev yV:Stmt:=top 50
abbrev ro:Stmt:=top 51
def Od:A7 "int"=some (.type "int"):=δ
def Oe:A7 "bool"=some (.type "bool"):=δ
def rq:A7 "list"=some (.type "list"):=δ
section
variable{P:Program}{w:World}{K:Ag}{mg:Str->Option Value}{base:Heap}
def Dm(K:Ag):Sp:=fun vs H Q _=>∃L rs tb,vs=[.ref L]/\SqL K H L (rs.map V.ref)/\Rws H rs tb/\∀H',Same H H'->Q (.int (wid tb)) H'
def Of:zo ["table"] ["table"] (zf ri):=⟨rfl,rfl,rfl,δ,rfl,δ,δ⟩
def Og{f:Addr}{fd:FuncData}(F:Fun K "_law_wide" "_law_wide" ri f fd)(B:iV mg):ah P w K mg base au 1 f fd ["table"] (Dm K):=by
 refine F.ok Of (fun vs H Q E h=>?_) (fun o A outer s H vs Q E hr h=>?_)
 ·obtain⟨L,rs,tb,rfl,_⟩:=h;rfl
 ·obtain⟨L,rs,tb,rfl,c,b,k⟩:=h
  have i:=hr.units;refine⟨_,zh (zq (lj (zr (C' i) (pv 0) (hV zb) (ap _)) (zn zk rfl B.len cR (za (zw zx (pv 0) zd (fun _ _=>rfl)) zb)) zd)),?_⟩;refine⟨_,rfl,ξ,fun p hp=>?_⟩;have sm:Same H (upd H p (.lst [])):=Same.new hp;refine⟨cb tb,cb [],qR (sm.seq c) (b.same sm),qR (rs:=[]) (SqL.of ac) .nil,Jt _,Jt _,Jv _ _,_,rfl,?_⟩;rw[if_pos rfl,FH];have l:=b.len;cases tb with
  |nil=>
   rw[show(!decide (([]:Ξ)=[]))=false from rfl];exact aI (k _ sm)
  |cons r t=>
   rw[show(!decide ((r::t:Ξ)=[]))=true from by simp];cases rs with
   |nil=>cases l
   |cons a as=>
    obtain⟨ns,e,g⟩:=b.get (j:=0) rfl;refine aR ⟨_,rfl,L,_,_,_,rfl,rfl,sm.seq c,zi (j:=0) rfl,a,_,rfl,.inl (SqL.of (sm _ _ g)),?_⟩;have:wid (r::t)=ns.length:=by unfold wid;rw[e];rfl
    have d:=k _ sm;rw[this] at d;rw[Aa];exact d
end
def Dn:A7 "isinstance"=some (.builtin "isinstance"):=δ
def Oh{a:Type}(l:List a):(l.map fun _=>true).all id=true:=by rw[List.all_map,Be];exact fun _ _=>rfl
section
variable{P:Program}{w:World}{K:Ag}{mg:Str->Option Value}{base:Heap}
def Do:Sp:=fun vs H Q _=>∃n:Int,vs=[.int n]/\Q (.bl true) H
def Oi:zo ["found"] ["found"] (zf yV):=⟨rfl,rfl,rfl,δ,rfl,δ,δ⟩
def JF{f:Addr}{fd:FuncData}(F:Fun K "_law_whole" "_law_whole" yV f fd)(B:iV mg):ah P w K mg base au 1 f fd ["found"] Do:=by
 refine F.ok Oi (fun vs H Q E h=>?_) (fun a A outer s H vs Q E hr h=>?_)
 ·obtain⟨n,rfl,_⟩:=h;rfl
 ·obtain⟨n,rfl,k⟩:=h
  refine⟨_,zh (zq (B' (zn Lo rfl B.isinstance Dn (za (pv 0) (za (B_ (v:=.ty "int") rfl B.int Od rfl) zb))) (rY (FZ (zn Lp rfl B.isinstance Dn (za (pv 0) (za (B_ (v:=.ty "bool") rfl B.bool Oe rfl) zb))))))),?_⟩;exact⟨_,rfl,n,rfl,_,rfl,aR ⟨_,rfl,n,rfl,_,rfl,k⟩⟩
def Oj{H2:Hp}{l D:Addr}{ns:List Int}{Q:VK}{te:TE}(f:∀(n:Int)(H:Hp)(R:VK),R (.bl true) H->te [some (.int n)] H R)(g:H2 l=some (.lst (ns.map V.int)))(hz:ns.length<=1000)(c:H2 D=none)(k:∀a,Same H2 a->a D=some (.lst ((ns.map fun _=>true).map V.bl))->Q (.ref D) a):dr (gt K l) (zQ 0) bE te [none] H2 D Q:=by
 refine mB (xs:=ns.map V.int) (fun j σ ys a=>∃v:Option V,σ=[v]/\Same H2 a/\a D=some (.lst ys)/\ys=((ns.map fun _=>true).take j).map V.bl) ?_ ?_ ?_ ?_
 ·exact⟨none,rfl,Same.new c,ac,rfl⟩
 ·rintro j σ ys a ⟨v,rfl,sm,_⟩
  exact SqL.of (sm _ _ g)
 ·rintro j σ ys a x hx d hy ⟨v,rfl,sm,b,rfl⟩
  obtain⟨q,eq,rfl⟩:=ig hx;have e:(ns.map fun _=>true)[j]?=some true:=by rw[Aj,eq];rfl
  refine dy ?_;exact f q a _ (b6 (by rw[Aa];exact zA ω) d hy b ⟨_,rfl,sm.then c,ac,by rw[take_snoc e,AD];rfl⟩)
 ·rintro σ ys a ⟨v,rfl,sm,b,rfl⟩
  rw[Ax (by simp)] at b;exact k a sm b
def Dp:Sp:=fun vs H Q _=>∃l ns,vs=[.ref l]/\H l=some (.lst (List.map V.int ns))/\ns.length<=1000/\∀H',Same H H'->Q (.bl true) H'
def Ol:zo ["found"] ["found"] (zf ro):=⟨rfl,rfl,rfl,δ,rfl,δ,δ⟩
def Om{f c:Addr}{fd d:FuncData}(F:Fun K "_law_row_like" "_law_row_like" ro f fd)(B:iV mg)(Fw:Fun K "_law_whole" "_law_whole" yV c d)(o:Binds K d ["found"] [])(p:mg "_law_whole"=some (.ref c)):ah P w K mg base au 2 f fd ["found"] Dp:=by
 have r:ah P w K mg base au 1 c d ["found"] Do:=JF Fw B;refine F.ok Ol (fun vs H Q E h=>?_) (fun u A outer s H vs Q E hr h=>?_)
 ·obtain⟨l,ns,rfl,_⟩:=h;rfl
 ·obtain⟨l,ns,rfl,b,hz,k⟩:=h
  refine⟨_,zh (zq (B' (zn Lq rfl B.isinstance Dn (za (pv 0) (za (B_ (v:=.ty "list") rfl B.list rq rfl) zb))) (rY (zn (ol rfl) rfl B.all oM (za
   (zz ["found"] ["number"] [none] (zO (pv 0)) (fun e C s₀ H₀ ex=>zm (i:=0) (bC ["number"]) rfl (Or.inl rfl)) (fun e C s₀ H₀ ex=>zB) (fun e C s₀ H₀ ex=>ze r hr rfl p Fw.kp o .nil af (za (pv 0) zb)) (te:=eX Do [] E0 (zZ (ar 0) bD)) (hfr:=cz δ)) zb))))),?_⟩
  refine⟨_,rfl,l,_,rfl,b,_,rfl,aR ⟨_,rfl,l,rfl,⟨_,SqL.of b⟩,fun D g=>?_⟩⟩;refine zD (Oj (fun n H R h=>⟨_,rfl,n,rfl,h⟩) b hz g fun q j a=>⟨D,_,rfl,SqL.of a,?_⟩);rw[Oh];exact k q j
end
def JG{a b:Ξ}{k w:Nat}(f:a.length=k)(g:b.length=k)(d:∀r∈a,r.length=w)(e:∀r∈b,r.length=w)(h:∀i j,i<k->j<w->fn a i j=fn b i j):a=b:=by
 apply AT ω;intro i h1 h2;have e1:=zy (Ab h1);have e2:=zy (Ab h2);refine FA (by rw[d _ (Ap h1),e _ (Ap h2)]) fun j c=>?_;rw[d _ (Ap h1)] at c;have:=h i j ω c;unfold fn at this
 rwa [e1,e2] at this
section
variable{P:Program}{w:World}{K:Ag}{mg:Str->Option Value}{base:Heap}
def Oo{H2:Hp}{D:Addr}{n:Nat}{Q:VK}{g:Nat->Int}{te:TE}{c:List (Option V)}(h:∀(j:Nat)(H:Hp)(R:VK),R (.int (g j)) H->te (some (.int j)::c) H R)(hz:n<=1000)(f:H2 D=none)(k:∀a,Same H2 a->a D=some (.lst (((Ah n).map g).map V.int))->Q (.ref D) a):dr (iY 0 n) (zQ 0) bE te (none::c) H2 D Q:=by
 refine Cp (fun j σ ys a=>∃(v:Option V),σ=v::c/\Same H2 a/\a D=some (.lst ys)/\ys=(((Ah n).take j).map g).map V.int) ⟨none,rfl,Same.new f,ac,rfl⟩ ?_ ?_
 ·rintro j σ ys a d hy ⟨v,rfl,sm,b,rfl⟩
  have e:(Ah n)[j]?=some j:=AK d;refine dy ?_;rw[show(0:Int)+((j:Nat):Int)=((j:Nat):Int) from ω];refine h j a _ (b6 (zA ω) d hy b ⟨_,rfl,sm.then f,ac,?_⟩);rw[take_snoc e,AD,AD]
  rfl
 ·rintro σ ys a ⟨v,rfl,sm,b,rfl⟩
  rw[Ax (by simp)] at b;exact k a sm b
end
abbrev yX:Stmt:=top 53
def Rws.updAt{H:Hp}{ds:List Addr}{tb:Ξ}{d:Addr}{ns:List Int}(h:Rws H ds tb):∀i:Nat,ds.Nodup->ds[i]?=some d->Rws (L2.upd H d (.lst (ns.map V.int))) ds (tb.set i ns):=by
 induction h with
 |nil=>intro i _ e;simp at e
 |cons r t ih=>
  intro i a e;obtain⟨n1,n2⟩:=List.nodup_cons.mp a;cases i with
  |zero=>
   simp at e;subst e;exact .cons ac (Rws.upd t fun x hx z=>n1 (z▸hx))
  |succ i=>
   rw[List.getElem?_cons_succ] at e;exact .cons (by rw[al (fun z=>n1 (by rw[z];exact An e))];exact r) (ih i n2 e)
section
variable{P:Program}{w:World}{K:Ag}{mg:Str->Option Value}{base:Heap}
abbrev y2:List Str:=["box","least","more","rows","columns","found","row","k"]
def JH:Sp:=fun vs H Q _=>∃(p:Addr),vs=[.ref p,.int 14,.int 15]/\zT H p/\∀F H' c n,c<=28->n<=28->TabB H p F c n 2 H'->Q (.ref F) H'
def rv:zo y2 ["box","least","more"] (zf yX):=⟨rfl,rfl,rfl,δ,rfl,δ,δ⟩
abbrev Op:TE:=ki (F0 (zZ (ar 1) bD)) [none] (zQ 0) bE (tC (.int 0))
def Oq{f ft:Addr}{fd aM:FuncData}(F:Fun K "_law_wide_table" "_law_wide_table" yX f fd)(B:iV mg)(Ft:Fun K "_law_take" "_law_take" nA ft aM)(bt:Binds K aM ["box","most"] [])(mt:mg "_law_take"=some (.ref ft)):ah P w K mg base au 2 f fd ["box","least","more"] JH:=by
 have M:ah P w K mg base au 1 ft aM ["box","most"] qY:=Di Ft;refine F.ok rv (fun vs H Q E h=>?_) (fun ai A outer s H vs Q E hr h=>?_)
 ·obtain⟨p,rfl,_⟩:=h;rfl
 ·obtain⟨p,rfl,hb,k⟩:=h
  refine⟨_,zc (zp (i:=3) rv.nd rfl (Or.inl rfl) (zF eU (pv 1) (ze M hr rfl mt Ft.kp bt .nil af (za (pv 0) (za (pv 2) zb)))))
   (zc (zp (i:=4) rv.nd rfl (Or.inr rfl) (zF eU (pv 1) (ze M hr rfl mt Ft.kp bt .nil af (za (pv 0) (za (pv 2) zb)))))
   (zc (mH (i:=5) rv.nd rfl (Or.inl rfl) y2 ["row","columns"] [none,some 4] (jc rfl B.range (za (pv 3) zb)) (fun y C s₀ H₀ ex=>zm (i:=0) (bC ["row","columns"]) rfl (Or.inl rfl)) (fun y C s₀ H₀ ex=>zB)
    (fun y C s₀ H₀ ex=>zz ["row","columns"] ["place"] [none] (jc rfl B.range (za (pv 1) zb)) (fun y C s₀ H₀ ex=>zm (i:=0) (bC ["place"]) rfl (Or.inl rfl)) (fun y C s₀ H₀ ex=>zB) (fun y C s₀ H₀ ex=>zd) (hfr:=cz δ))
    (te:=Op) (hfr:=a9 (zf yX) δ))
   (zc (iw Bb rfl (zO (pv 5)) (zm (i:=6) rv.nd rfl (Or.inl rfl))
    (zh (iw Bb rfl (jc rfl B.range (za zd zb)) (zm (i:=7) rv.nd rfl (Or.inl rfl))
     (zh (iv (zF gu (ze M hr rfl mt Ft.kp bt .nil af (za (pv 0) (za zd zb))) zd) (iX (pv 6) (ze M hr rfl mt Ft.kp bt .nil af (za (pv 0) (za (pv 4) zb))) set_list))))))
   (zh (zq (pv 5)))))),?_⟩
  refine⟨_,rfl,_,rfl,_,rfl,p,_,rfl,hb,ξ,ξ,fun n H1 n0 n1 f_ dQ=>⟨_,_,rfl,rfl,?_⟩⟩;refine⟨_,rfl,_,rfl,_,rfl,p,_,rfl,dQ,ξ,ξ,fun c H2 c0 c1 dN O=>⟨_,_,rfl,rfl,?_⟩⟩;obtain⟨n,rfl⟩:∃m:Nat,n=(m:Int):=⟨n.toNat,ω⟩;obtain⟨c,rfl⟩:∃m:Nat,c=(m:Int):=⟨c.toNat,ω⟩;dsimp only;rw[show(14:Int)+(n:Int)=((14+n:Nat):Int) from ω,show(14:Int)+(c:Int)=((14+c:Nat):Int) from ω];generalize hN:14+n=N;generalize hC:14+c=C;refine⟨_,rfl,_,rfl,ω,ω,fun D hD=>?_⟩;have fC:=f_.trans dN;refine zD (Em (n:=N) (g:=fun _=>(Ah C).map fun _=>(0:Int)) (fun j H' R hj sm S=>⟨_,rfl,_,rfl,ω,ω,fun D2 dC=>zD (Oo (n:=C) (g:=fun _=>(0:Int)) (fun j b R S=>S) ω dC fun b s4 z=>S D2 b s4 dC z)⟩) ω hD fun H3 ds aq G I aN jw=>?_);have J:H D=none:=fC.free hb O hD;have fy:=eH hb J;have dn:∀d∈ds,H d=none/\d≠D:=fun d hd=>⟨fC.free hb O (jw d hd).1,(jw d hd).2⟩;have gD:ds.length=N:=by rw[I.len];simp
  refine⟨_,rfl,D,rfl,⟨_,SqL.of G⟩,Cd (K:=K) (a:=D) (xs:=ds.map V.ref) (fun i σ b=>∃(T l:Option V)(tb:Ξ),σ=[some (.ref p),some (.int 14),some (.int 15),some (.int N),some (.int C),some (.ref D),T,l]/\zab p H b/\zT b p/\b D=some (.lst (ds.map V.ref))/\Rws b ds tb/\tb.length=N/\∀r∈tb,r.length=C/\Bnd 2 r)
   ⟨none,none,_,rfl,fC.trans (.of aq),O.same aq,G,I,by simp,fun r hr=>by
    obtain⟨_,_,rfl⟩:=List.mem_map.mp hr;exact⟨by simp,fun x hx=>by
     obtain⟨_,_,rfl⟩:=List.mem_map.mp hx;exact⟨ξ,ξ⟩⟩⟩ (fun i σ b _ ⟨_,_,_,_,_,_,e,_⟩=>SqL.of e) ?_ ?_⟩
  ·rintro i x σ b hx ⟨T,l,tb,rfl,U,W,z,o,X,Y⟩
   obtain⟨a,Z,rfl⟩:=kw hx;have ha:=dn a (An Z);have wt:=eH hb ha.1;refine⟨_,rfl,ω,ξ,DK (lo:=0) (n:=2) (fun j σ v=>∃(l:Option V)(tb:Ξ),σ=[some (.ref p),some (.int 14),some (.int 15),some (.int N),some (.int C),some (.ref D),some (.ref a),l]/\zab p H v/\zT v p/\v D=some (.lst (ds.map V.ref))/\Rws v ds tb/\tb.length=N/\∀r∈tb,r.length=C/\Bnd 2 r)
    ⟨l,tb,rfl,U,W,z,o,X,Y⟩ ?_ ?_⟩
   ·rintro j σ v hj ⟨l,tb,rfl,gO,gh,dG,kQ,qL,L⟩
    refine⟨_,rfl,p,_,rfl,gh,ξ,ξ,fun u H6 u0 u1 l5 jv=>⟨_,_,rfl,rfl,?_⟩⟩;refine⟨_,rfl,_,rfl,_,rfl,p,_,rfl,jv,ω,ω,fun q H7 q0 q1 mE ju=>?_⟩;have fG:=l5.trans mE;have r7:=kQ.sameB fG fun d hd=>eH hb (dn d hd).1;obtain⟨ns,en,dI⟩:=r7.get Z;have hm:=An en;refine⟨a,_,q,q.toNat,rfl,rfl,dI,yT q0 (by rw[Aa,(L ns hm).1];(first|lia|omega)),?_⟩;rw[<-List.map_set (f:=V.int)];refine⟨_,tb.set i (ns.set q.toNat (u-2)),rfl,(gO.trans fG).then ha.1,ju.upd wt,by rw[al ha.2.symm];exact fG _ _ fy dG,r7.updAt i aN Z,by simp[qL],fun r cw=>?_⟩;rcases List.mem_or_eq_of_mem_set cw with h|h
    ·exact L r h
    ·rw[h]
     refine⟨by rw[List.length_set];exact(L ns hm).1,fun x hx=>?_⟩;rcases List.mem_or_eq_of_mem_set hx with h|h
     ·exact(L ns hm).2 x h
     ·rw[h];(first|lia|omega)
   ·rintro σ v ⟨l,tb,rfl,h⟩
    exact⟨_,_,tb,rfl,h⟩
  ·rintro σ b ⟨T,l,tb,rfl,U,W,z,o,X,Y⟩
   exact⟨_,rfl,k D b C N ω ω ⟨ds,tb,U,W,z,o,X,Y,dn,J⟩⟩
end
def fo{e:Type}(a b c d:e):Nat->e
 |0=>a
 |1=>b
 |2=>c
 |_=>d
def Os{i:Nat}(h:i<4):i=0\/i=1\/i=2\/i=3:=ω
def Dj.symm{x y:List Addr}(h:Dj x y):Dj y x:=fun a c b hb e=>h b hb a c e.symm
section
variable{H H':Hp}{p:Addr}{u ub v vb:Ξ}{st:List Int}{a1 a2 a3 a4 a5:Addr}{d1 d2 d3 d4:List Addr}
def PapH.nt(h:PapH H H' p u ub v vb st a1 a2 a3 a4 a5 d1 d2 d3 d4)(i:Nat)(hi:i<4):NT H H' (fo a1 a2 a3 a4 i) (fo d1 d2 d3 d4 i) (fo u ub v vb i):=by
 obtain rfl|rfl|rfl|rfl:=Os hi
 ·exact h.n1
 ·exact h.n2
 ·exact h.n3
 ·exact h.n4
end
section
variable{P:Program}{w:World}{K:Ag}{mg:Str->Option Value}{base:Heap}
abbrev Ot(K:Ag):List V->Hp->VK->Prop:=fun xs H Q=>∃p ys,xs=[.ref p]/\(SqL K H p ys\/SqT K H p ys)/\∀l,H l=none->Q (.ref l) (upd H l (.lst ys))
abbrev JI(K:Ag):TE:=oe (Ot K) (zZ (ar 0) bD)
def Ou{H2:Hp}{L D:Addr}{rs:List Addr}{tb:Ξ}{Q:VK}{c:List (Option V)}(b:SqL K H2 L (rs.map V.ref))(p:Rws H2 rs tb)(hz:tb.length<=1000)(q:H2 D=none)(k:∀a ds,Same H2 a->a D=some (.lst (ds.map V.ref))->Rws a ds tb->ds.Nodup->(∀d∈ds,H2 d=none/\d≠D)->Q (.ref D) a):dr (gt K L) (zQ 0) bE (JI K) (none::c) H2 D Q:=by
 refine vv (g:=fun r=>r) (fun o os H R sm f s h=>⟨_,rfl,o,_,rfl,.inl (SqL.of f),fun l b=>h l _ (Same.new b) b ac⟩) b p hz q fun a ds sm e hr i j=>?_;rw[List.map_id'] at hr;exact k a ds sm e hr i j
end
def qJ{a b:Tb.Vc}:∀n,Tb.dot (n+1) a b=a 0*b 0+Tb.dot n (fun u=>a (u+1)) (fun u=>b (u+1))
 |0=>by show(0:Int)+a 0*b 0=a 0*b 0+0;(first|lia|omega)
 |n+1=>by
  show Tb.dot (n+1) a b+a (n+1)*b (n+1)=a 0*b 0+(Tb.dot n _ _+a (n+1)*b (n+1));rw[qJ n];(first|lia|omega)
def y_:∀{r c:List Int},r.length=c.length->dot r c=Tb.dot r.length (vc r) (vc c)
 |[],[],_=>rfl
 |x::r,y::c,h=>by
  have e:dot (x::r) (y::c)=x*y+dot r c:=rfl;rw[e,y_ (Nat.succ.inj h),AH,qJ]
  rfl
def FN{u v:Ξ}{i j:Nat}(hi:i<u.length)(a:j<wid v)(h:∀r∈u,r.length=v.length):fn (cP u v) i j=Tb.dot v.length (fn u i) (fun s=>fn v s j):=by
 have e1:rowAt (cP u v) i=(turn v).map (dot (rowAt u i)):=zy (by
  unfold cP;rw[Aj,Ab hi,zy (Ab hi)];rfl)
 have b:(rowAt u i).length=v.length:=h _ (zG hi);have e2:vc ((turn v).map (dot (rowAt u i))) j=dot (rowAt u i) (colAt v j):=by
  unfold vc turn;rw[Ac,Aj,Aj,AK a];rfl
 show vc (rowAt (cP u v) i) j=_;rw[e1,e2,y_ (by rw[b];unfold colAt;simp),b];refine Tb.zj fun s _=>?_;have:=zY (T:=v) a s;unfold fn at this;rw[xU a] at this;exact this
def Ov{st:List Int}{m:Int}(h1:(st.length:Int)<=m)(h2:∀x∈st,0<x)(d:∀i,i+1<st.length->vc st i ∣ vc st (i+1)):fZ st m=true:=by
 unfold fZ;rw[decide_eq_false ω,List.all_eq_true.mpr fun x hx=>decide_eq_true (h2 x hx)];show(Av (fun a b=>decide (b%a=0)) st (st.drop 1)).all id=true;rw[Be];intro x hx;obtain⟨i,hi,rfl⟩:=AX hx;have c:i+1<st.length:=by rw[Au,List.length_drop] at hi;(first|lia|omega)
 rw[AR,List.getElem_drop];have:=d i c;rw[il ω,il c] at this;refine decide_eq_true ?_;have e:st[1+i]'ω=st[i+1]:=by congr 1;(first|lia|omega)
 rw[e];exact Int.emod_eq_zero_of_dvd this
def Ow{st:List Int}{k w i j:Nat}(hi:i<k)(a:j<w):fn (slpT st k w) i j=if i=j/\i<st.length then vc st i else 0:=by
 unfold fn slpT;rw[xU hi];unfold bN vc
 by_cases c:i<st.length
 ·rw[if_pos c,Ac,List.getElem?_set]
  by_cases d:i=j
  ·rw[if_pos d,if_pos (show i<(Aq w (0:Int)).length by rw[List.length_replicate];(first|lia|omega)),if_pos (And.intro d c)];rfl
  ·rw[if_neg d,if_neg fun h=>d h.1,List.getElem?_replicate,if_pos a];rfl
 ·rw[if_neg c,if_neg fun h=>c h.2,Ac,List.getElem?_replicate,if_pos a];rfl
def Ox{st:List Int}{k w:Nat}:∀r∈slpT st k w,r.length=w:=fun r hr=>by
 unfold slpT at hr;obtain⟨i,_,rfl⟩:=List.mem_map.mp hr;exact Jh
section
variable{k w:Nat}{tb u ub v vb:Ξ}{st:List Int}
end
def y':Good 6 3 10:=⟨ξ,ξ,ξ,ξ,ξ,ξ⟩
def Oy{tb:Ξ}{m:Int}{q:Nat}(h:∀r∈tb,Bnd m r)(a:m<=(2 ^ q:Nat)):Ent tb (2 ^ q):=fun i u=>by
 unfold fn
 by_cases c:i<tb.length
 ·have hr:=h _ (zG c)
  by_cases d:u<(rowAt tb i).length
  ·rw[il d]
   have:=hr _ (Ap d);(first|lia|omega)
  ·rw[fB ω];exact At _
 ·rw[xM ω];exact At _
def rx(tb:Ξ):Prop:=∃N n m,FG N n m tb.length (wid tb) tb
def JJ{tb:Ξ}{N n m c:Nat}{b:Int}(g:Good N n m)(hr:∀r∈tb,r.length=c/\Bnd b r)(f:tb.length<=N)(hc:c<=N)(hb:b<=(2 ^ m:Nat)):cH tb=true/\rx tb/\Sm9 tb:=by
 have i:=g.N40;have a:(∀r∈tb,r.length=wid tb)/\wid tb<=N:=by
  cases e:tb with
  |nil=>exact⟨fun r hr=>(by cases hr),At _⟩
  |cons x l=>
   rw[e] at hr;have e1:wid (x::l)=x.length:=rfl;rw[e1,(hr x (AM ..)).1];exact⟨fun r h=>(hr r h).1,hc⟩
 have d:=Oy (fun r h=>(hr r h).2) hb;refine⟨?_,⟨N,n,m,g,rfl,a.1,d,f,a.2⟩,fun r hr x hx=>Ae (d.mem r hr x hx) (AC ξ g.m9)⟩;unfold cH;rw[decide_eq_true (show tb.length<=40 from ω),decide_eq_true (show wid tb<=40 from ω)];simp only[Bool.and_self,Bool.true_and,Be];exact fun r h=>decide_eq_true (a.1 r h)
abbrev A':Stmt:=top 39
abbrev ka:Stmt:=top 41
abbrev Bo:Stmt:=top 37
def dm(t n:Int):Bool:=decide (t%n=0)
def JK{t:Int}:dm t 0=decide (t=0):=by unfold dm;rw[Int.emod_zero]
def eJ(n:Int):Bool:=decide (n=0)|| decide (1<n)
def eV{a b:Int}:decide (V.int a=V.int b)=decide (a=b):=by rw[Bool.eq_iff_iff];simp
section
variable{P:Program}{w:World}{K:Ag}{mg:Str->Option Value}{base:Heap}
def ry:Sp:=fun vs H Q _=>∃t n:Int,vs=[.int t,.int n]/\0<=n/\Q (.bl (dm t n)) H
def Oz:zo ["total","number"] ["total","number"] (zf A'):=⟨rfl,rfl,rfl,δ,rfl,δ,δ⟩
def OA{f:Addr}{fd:FuncData}(F:Fun K "is_so_many_times" "is_so_many_times" A' f fd):ah P w K mg base au 1 f fd ["total","number"] ry:=by
 refine F.ok Oz (fun vs H Q E h=>?_) (fun a A outer s H vs Q E hr h=>?_)
 ·obtain⟨t,n,rfl,_⟩:=h;rfl
 ·obtain⟨t,n,rfl,b,k⟩:=h
  refine⟨_,zh (zq (lj (zr dO (pv 1) zd (ap _)) (hH dO (pv 0) zd (ap _)) (hH dO (zF je (pv 0) (pv 1)) zd (ap _)))),?_⟩;refine⟨_,rfl,rfl,_,rfl,?_⟩;rw[eV]
  by_cases c:n=0
  ·rw[decide_eq_true c]
   rw[c,JK,<-eV] at k;exact aR ⟨_,rfl,rfl,k⟩
  ·rw[decide_eq_false c]
   unfold dm at k;rw[<-eV] at k;exact aI ⟨_,rfl,_,rfl,_,_,rfl,rfl,(show(0:Int)<n from ω),rfl,k⟩
def JL:Sp:=fun vs H Q _=>∃n:Int,vs=[.int n]/\Q (.bl (eJ n)) H
def OB:zo ["number"] ["number"] (zf ka):=⟨rfl,rfl,rfl,δ,rfl,δ,δ⟩
def OC{f:Addr}{fd:FuncData}(F:Fun K "can_show" "can_show" ka f fd):ah P w K mg base au 1 f fd ["number"] JL:=by
 refine F.ok OB (fun vs H Q E h=>?_) (fun a A outer s H vs Q E hr h=>?_)
 ·obtain⟨n,rfl,_⟩:=h;rfl
 ·obtain⟨n,rfl,k⟩:=h
  refine⟨_,zh (zq (Ka (hH dO (pv 0) zd (ap _)) (rY (hH iZ (pv 0) zd (ap _))))),?_⟩;refine⟨_,rfl,rfl,_,rfl,?_⟩;rw[eV];unfold eJ at k
  by_cases c:n=0
  ·rw[decide_eq_true c] at k ⊢
   exact aR k
  ·rw[decide_eq_false c] at k ⊢
   exact aI ⟨_,rfl,_,_,rfl,rfl,k⟩
def FO(K:Ag):Sp:=fun vs H Q _=>∃(L G:Addr)(rs:List Addr)(tb:Ξ)(g:List Int),vs=[.ref L,.ref G]/\H L=some (.lst (rs.map V.ref))/\Rws H rs tb/\cH tb=true/\H G=some (.lst (g.map V.int))/\g.length=tb.length/\∀H',Same H H'->Q .non H'
def OD:zo ["table","goal"] ["table","goal"] (zf Bo):=⟨rfl,rfl,rfl,δ,rfl,δ,δ⟩
def OE{f b:Addr}{fd c:FuncData}(F:Fun K "must_have_goal" "must_have_goal" Bo f fd)(bl:mg "len"=none)(Ft:Fun K "must_be_table" "must_be_table" vr b c)(bt:Binds K c ["table"] [])(mt:mg "must_be_table"=some (.ref b))(l:ah P w K mg base au 3 b c ["table"] (FJ K)):ah P w K mg base au 4 f fd ["table","goal"] (FO K):=by
 refine F.ok OD (fun vs H Q E h=>?_) (fun o A outer s H vs Q E hr h=>?_)
 ·obtain⟨L,G,rs,tb,g,rfl,_⟩:=h;rfl
 ·obtain⟨L,G,rs,tb,g,rfl,d,e,it,i,j,k⟩:=h
  refine⟨_,zc (lA (ze l hr rfl mt Ft.kp bt .nil af (za (pv 0) zb))) (zh (cv (zr gx (zn zk rfl bl cR (za (pv 1) zb)) (zn zk rfl bl cR (za (pv 0) zb)) (ap _)) DF zI)),?_⟩;refine⟨_,rfl,L,rs,tb,rfl,SqL.of d,e,it,fun H1 a=>⟨_,rfl,G,_,rfl,.inl (SqL.of (a _ _ i)),_,rfl,L,_,rfl,.inl (SqL.of (a _ _ d)),rfl,_,rfl,?_⟩⟩;rw[Aa,Aa,j,e.len,decide_eq_true rfl];exact aI (k H1 a)
end
abbrev Dr:Stmt:=top 38
abbrev Ds:Stmt:=top 36
def eL(a b:List Int):dot a b=dot b a:=by unfold dot;rw[List.zipWith_comm];congr 1;exact congrFun (congrFun (congrArg _ (funext fun x=>funext fun y=>A9 y x)) _) _
def eB(u v:Ξ)(st g:List Int):List Int:=v.map (dot (Av (fun a b=>a / b) (u.map (dot g)) st))
def JM(H:Hp)(Q:VK)(u v:Ξ)(st g:List Int):Prop:=∀(H':Hp)(p c:Addr),Same H H'->H p=none->H c=none->
 (∀k,k<u.length->H' p=some (.tup [.str "no",.ref c,.int (vc st k)])->H' c=some (.lst ((rowAt u k).map V.int))->dm (dot g (rowAt u k)) (vc st k)=false->Q (.ref p) H')/\
 (H' p=some (.tup [.str "yes",.ref c])->H' c=some (.lst ((eB u v st g).map V.int))->(∀k,k<u.length->dm (dot g (rowAt u k)) (vc st k)=true)->Q (.ref p) H')
section
variable{P:Program}{w:World}{K:Ag}{mg:Str->Option Value}{base:Heap}
abbrev BC:List Str:=["paper","goal","left","steps","sums","k","total","number","often"]
def JN:Sp:=fun vs H Q _=>∃(p G a1 a2 a3 a4 a5:Addr)(d1 d3:List Addr)(u v:Ξ)(st g:List Int),vs=[.ref p,.ref G]/\H p=some (.tup [.ref a1,.ref a2,.ref a3,.ref a4,.ref a5])/\
 H a1=some (.lst (d1.map V.ref))/\H a3=some (.lst (d3.map V.ref))/\H a5=some (.lst (st.map V.int))/\Rws H d1 u/\Rws H d3 v/\H G=some (.lst (g.map V.int))/\u.length<=40/\v.length<=40/\(∀r∈u,r.length<=40)/\(∀r∈v,r.length<=40)/\g.length<=40/\st.length<=40/\SmL u/\SmL v/\(∀x∈g,x.natAbs<=2 ^ 900)/\(∀x∈st,0<x/\x.natAbs<2 ^ 9000)/\JM H Q u v st g
def la:zo BC ["paper","goal"] (zf Dr):=⟨rfl,rfl,rfl,δ,rfl,δ,δ⟩
def OF{f fr fi:Addr}{fd aX cL:FuncData}(F:Fun K "solved_by" "solved_by" Dr f fd)(bl:mg "len"=none)(bz:mg "zip"=none)(be:mg "enumerate"=none)(t7:mg "list"=none)(Fr:Fun K "row_by" "row_by" oQ fr aX)(br:Binds K aX ["row","columns"] [])(mr:mg "row_by"=some (.ref fr))(Gr:ah P w K mg base au 2 fr aX ["row","columns"] (E5 K))(Fi:Fun K "is_so_many_times" "is_so_many_times" A' fi cL)(bi:Binds K cL ["total","number"] [])(mi:mg "is_so_many_times"=some (.ref fi))(Gi:ah P w K mg base au 1 fi cL ["total","number"] ry):ah P w K mg base au 3 f fd ["paper","goal"] JN:=by
 refine F.ok la (fun vs H Q E h=>?_) (fun ai A outer s H vs Q E hr h=>?_)
 ·obtain⟨p,G,a1,a2,a3,a4,a5,d1,d3,u,v,st,g,rfl,_⟩:=h;rfl
 ·obtain⟨p,G,a1,a2,a3,a4,a5,d1,d3,u,v,st,g,rfl,hp,h1,h3,N,r1,r3,hG,zu,zv,wu,wv,zg,yU,su,sv,sg,ss,dR⟩:=h
  have hr1:Room 1 _:=hr.mono ξ;refine⟨_,zc (zp (i:=2) la.nd rfl (Or.inl rfl) (zw zC (pv 0) zd (fun _ _=>rfl)))
   (zc (zp (i:=3) la.nd rfl (Or.inl rfl) (zw zC (pv 0) zd (fun _ _=>rfl)))
   (zc (zp (i:=4) la.nd rfl (Or.inl rfl) (ze Gr hr rfl mr Fr.kp br .nil af (za (pv 1) (za (pv 2) zb))))
   (zc (iw Bb rfl (Ef rfl be E7 (za (pv 4) zb)) (gi rfl (zE (zm (i:=5) la.nd rfl (Or.inl rfl)) (zE (zm (i:=6) la.nd rfl (Or.inl rfl)) gg)))
    (zc (zp (i:=7) la.nd rfl (Or.inl rfl) (lj (zr n_ (pv 5) (zn zk rfl bl cR (za (pv 3) zb)) (ap _)) (zw zx (pv 3) (pv 5) (fun _ _=>rfl)) zd))
    (zh (cv (gX (fT (ze Gi hr1 rfl mi Fi.kp bi .nil af (za (pv 6) (za (pv 7) zb))))) (zh (zq (hO (za nH (za (jg zU rfl t7 rq (za (zw zx (pv 2) (pv 5) (fun _ _=>rfl)) zb)) (za (pv 7) zb)))))) zI))))
   (zc (mH (i:=8) la.nd rfl (Or.inl rfl) BC ["total","step"] [none,none] (kA rfl bz jm (za (pv 4) (za (pv 3) zb)))
    (fun cl C s₀ H₀ ex=>gi rfl (zE (zm (i:=0) (bC ["total","step"]) rfl (Or.inl rfl)) (zE (zm (i:=1) (bC ["total","step"]) rfl (Or.inl rfl)) gg))) (fun cl C s₀ H₀ ex=>zB)
    (fun cl C s₀ H₀ ex=>zF Cv (pv 0) (pv 1)) (te:=cy (rI Er fun i j=>.int (i / j)) (ar 0) (ar 1)) (hfr:=cz δ) (g:=bT K 2 (ci (zQ 0) (ci (zQ 1) bR))))
   (zh (zq (hO (za nH (za (ze Gr hr rfl mr Fr.kp br .nil af (za (pv 8) (za (zw zC (pv 0) zd (fun _ _=>rfl)) zb))) zb))))))))),?_⟩
  have gl:∀x∈g,x.natAbs<big:=fun x hx=>j0 (qu (sg x hx) ξ);have wJ:∀r∈u,(dot g r).natAbs<big:=fun r hr=>by
   rw[eL];exact Jy (su r hr) sg zg
  refine⟨_,rfl,p,_,_,_,rfl,rfl,SqT.of hp,zi (j:=0) rfl,_,rfl,p,_,_,_,rfl,rfl,SqT.of hp,zi (j:=4) rfl,?_⟩;refine⟨_,rfl,_,rfl,G,a1,g,d1,u,rfl,hG,h1,r1,ω,fun r hr=>⟨by have:=wu r hr;(first|lia|omega),fun x hx y hy=>gH (gl x hx) (j0 (su r hr y hy))⟩,fun S H1 s1 hS L=>?_⟩;have lS:(u.map (dot g)).length=u.length:=Aa ..;refine⟨_,rfl,S,rfl,⟨_,SqL.of L⟩,Ll (K:=K) (a:=S) (xs:=(u.map (dot g)).map V.int) (fun i σ H2=>∃(X Y M:Option V),σ=[some (.ref p),some (.ref G),some (.ref a1),some (.ref a5),some (.ref S),X,Y,M,none]/\Same H1 H2/\∀k,k<i->dm (dot g (rowAt u k)) (vc st k)=true)
   ⟨none,none,none,rfl,Same.refl _,fun k hk=>absurd hk (Nat.not_lt_zero _)⟩ (fun i σ H2 _ ⟨_,_,_,_,sm,_⟩=>SqL.of (sm _ _ L)) ?_ ?_⟩
  ·rintro i x q σ H2 hx ⟨X,Y,M,rfl,sm,all⟩ hq
   obtain⟨t,et,rfl⟩:=ig hx;have hi:i<u.length:=by rw[<-lS];exact(List.getElem?_eq_some_iff.mp et).1
   have et2:t=dot g (rowAt u i):=by
    rw[Aj,Ab hi] at et;rw[zy (Ab hi)];exact(AV et).symm
   have I:Same H1 (upd H2 q (.tup [.int i,.int t])):=sm.then (sm.free hq);generalize hH3:upd H2 q (.tup [.int i,.int t])=J at I;have qA:J q=some (.tup [.int i,.int t]):=by rw[<-hH3];exact ac
   have l:=s1.trans I;refine⟨q,_,rfl,SqT.of qA,rfl,_,_,rfl,_,_,rfl,rfl,?_⟩;have qE:∀(Z:VK),Z (.int (vc st i)) J->(if decide ((i:Int)<(((st.map V.int).length:Nat):Int))=true then cy (gA K) (ar 3) (ar 5) [some (.ref p),some (.ref G),some (.ref a1),some (.ref a5),some (.ref S),some (.int i),some (.int t),M,none] J Z else Z (.int 0) J):=fun Z O=>by
    rw[Aa]
    by_cases c:i<st.length
    ·rw[decide_eq_true (show(i:Int)<((st.length:Nat):Int) from ω)]
     exact aR ⟨_,rfl,_,rfl,a5,_,_,_,rfl,rfl,SqL.of (l _ _ N),zi (fD c),O⟩
    ·rw[decide_eq_false (show ¬(i:Int)<((st.length:Nat):Int) from ω)]
     rw[fB ω] at O;exact aI O
   refine⟨_,rfl,_,rfl,a5,_,rfl,.inl (SqL.of (l _ _ N)),_,_,rfl,rfl,_,rfl,qE _ ?_⟩;have nn:0<=vc st i:=by
    by_cases c:i<st.length
    ·rw[il c];exact Int.le_of_lt (ss _ (Ap c)).1
    ·rw[fB ω];exact Int.le_refl _
   refine⟨_,rfl,_,rfl,t,vc st i,rfl,nn,_,rfl,?_⟩;rw[et2];cases c:dm (dot g (rowAt u i)) (vc st i) with
   |true=>
    refine aI ⟨_,_,_,rfl,I,fun k hk=>?_⟩
    by_cases e:k=i
    ·rw[e];exact c
    ·exact all k ω
   |false=>
    have ld:=r1.len;obtain⟨d,ed⟩:∃d,d1[i]?=some d:=⟨_,Ab (show i<d1.length from ω)⟩;obtain⟨rn,er,x_⟩:=r1.get ed;refine aR ⟨_,rfl,_,rfl,a1,_,_,_,rfl,rfl,SqL.of (l _ _ h1),zi (v:=V.ref d) (by rw[Aj,ed];rfl),d,_,rfl,.inl (SqL.of (l _ _ x_)),fun c1 T=>⟨_,rfl,zA (by simp),fun z o=>?_⟩⟩;have e1:rowAt u i=rn:=zy er;refine(dR _ z c1 (l.trans ((Same.new T).trans (Same.new o))) (l.free ((Same.new T).free o)) (l.free T)).1 i hi ac ?_ c;rw[al (fun e:c1=z=>by rw[<-e,ac] at o;cases o),ac,e1]
  ·rintro σ H2 ⟨X,Y,M,rfl,sm,all⟩
   rw[Aa,lS] at all;have bX:=s1.trans sm;refine⟨_,rfl,_,rfl,S,a5,rfl,⟨_,SqL.of (sm _ _ L)⟩,⟨_,SqL.of (bX _ _ N)⟩,fun D hD=>?_⟩;refine zD (vD (f:=fun a b=>a / b) (fun a b H' R ha hb U=>⟨_,rfl,_,rfl,_,_,rfl,rfl,⟨(ss b hb).1,(ss b hb).2⟩,U⟩) (sm _ _ L) (bX _ _ N) ω hD fun J I W=>?_);have l:=bX.trans I;refine⟨_,rfl,_,rfl,p,_,_,_,rfl,rfl,SqT.of (l _ _ hp),zi (j:=2) rfl,D,a3,_,d3,v,rfl,W,l _ _ h3,r3.same l,ω,fun r hr=>⟨by have:=wv r hr;(first|lia|omega),fun x hx y hy=>gH ?_ (j0 (sv r hr y hy))⟩,fun R H4 s4 U pZ=>⟨zA (by simp),fun z o=>?_⟩⟩
   ·obtain⟨i,hi,rfl⟩:=AX hx
    rw[AR];refine Ao CJ ?_;rw[AO];exact wJ _ (Ap _)
   ·refine(dR _ z R (l.trans (s4.trans (Same.new o))) (l.free (s4.free o)) (l.free U)).2 ac ?_ all
    rw[al (fun e:R=z=>by rw[<-e,pZ] at o;cases o)];exact pZ
def FP:Sp:=fun vs H Q _=>∃(L G:Addr)(rs:List Addr)(tb:Ξ)(g:List Int)(N n m:Nat),vs=[.ref L,.ref G]/\H L=some (.lst (rs.map V.ref))/\Rws H rs tb/\cH tb=true/\FG N n m tb.length (wid tb) tb/\H G=some (.lst (g.map V.int))/\g.length=tb.length/\(∀x∈g,x.natAbs<=2 ^ 900)/\
 ∀u ub v vb st,Pap tb.length (wid tb) (fn tb) u ub v vb st->JM H Q u v st g
def OG:zo ["table","goal"] ["table","goal"] (zf Ds):=⟨rfl,rfl,rfl,δ,rfl,δ,δ⟩
def OH{f z C D I:Addr}{fd J M O S:FuncData}(F:Fun K "solved" "solved" Ds f fd)(Fm:Fun K "must_have_goal" "must_have_goal" Bo z J)(bm:Binds K J ["table","goal"] [])(mm:mg "must_have_goal"=some (.ref z))(Gm:ah P w K mg base au 4 z J ["table","goal"] (FO K))(Fb:Fun K "solved_by" "solved_by" Dr C M)(bb:Binds K M ["paper","goal"] [])(mb:mg "solved_by"=some (.ref C))(Gb:ah P w K mg base au 3 C M ["paper","goal"] JN)(Fp:Fun K "paper_of" "paper_of" C_ D O)(bp:Binds K O ["table","width"] [])(mp:mg "paper_of"=some (.ref D))(Gp:ah P w K mg base au 6 D O ["table","width"] Jl)(Fw:Fun K "width_of" "width_of" kn I S)(bw:Binds K S ["table"] [])(mw:mg "width_of"=some (.ref I))(Gw:ah P w K mg base au 1 I S ["table"] (mI K)):ah P w K mg base au 7 f fd ["table","goal"] FP:=by
 refine F.ok OG (fun vs H Q E h=>?_) (fun ai A outer s H vs Q E hr h=>?_)
 ·obtain⟨L,G,rs,tb,g,N,n,m,rfl,_⟩:=h;rfl
 ·obtain⟨L,G,rs,tb,g,N,n,m,rfl,e,i,it,ok,T,Y,Z,dR⟩:=h
  have l:Room 4 _:=hr.mono ξ;have o:Room 3 _:=hr.mono ξ;have y:Room 1 _:=hr.mono ξ;obtain⟨j,U,t3⟩:=h_ it;refine⟨_,zc (lA (ze Gm l rfl mm Fm.kp bm .nil af (za (pv 0) (za (pv 1) zb)))) (zh (zq (ze Gb o rfl mb Fb.kp bb .nil af (za (ze Gp hr rfl mp Fp.kp bp .nil af (za (pv 0) (za (ze Gw y rfl mw Fw.kp bw .nil af (za (pv 0) zb)) zb))) (za (pv 1) zb))))),?_⟩;refine⟨_,rfl,_,rfl,L,G,rs,tb,g,rfl,e,i,it,T,Y,fun H1 b=>⟨_,rfl,_,rfl,L,rs,tb,rfl,SqL.of (b _ _ e),i.same b,L,rs,tb,N,n,m,_,_,rfl,b _ _ e,i.same b,ok,?_⟩⟩;intro H2 p u ub v vb st a1 a2 a3 a4 a5 d1 d2 d3 d4 W a pp;have d:=b.trans W;refine⟨_,rfl,p,G,a1,a2,a3,a4,a5,d1,d3,u,v,st,g,rfl,a.at_,a.n1.at_,a.n3.at_,a.n5,a.n1.rows,a.n3.rows,d _ _ T,by rw[pp.lu];exact j,by rw[pp.lv];exact U,fun r hr=>by rw[pp.wu r hr];exact j,fun r hr=>by rw[pp.wv r hr];exact U,ω,Ae pp.sk j,pp.su,pp.sv,Z,fun x hx=>⟨pp.sp x hx,pp.s9 x hx⟩,fun H' q c X hq hc=>?_⟩;exact dR u ub v vb st pp H' q c (d.trans X) (d.free hq) (d.free hc)
end
abbrev BO:Stmt:=top 40
def kb(tb:Ξ)(g ws:List Int)(n:Int):Bool:=decide (ws.length=tb.length)&&eJ n&&!dm (dot ws g) n&&(turn tb).all fun c=>dm (dot ws c) n
def OI{n:Int}(h:eJ n=true):0<=n:=by
 unfold eJ at h;rw[Bool.or_eq_true] at h;rcases h with h|h
 ·have:=of_decide_eq_true h;(first|lia|omega)
 ·have:=of_decide_eq_true h;(first|lia|omega)
section
variable{P:Program}{w:World}{K:Ag}{mg:Str->Option Value}{base:Heap}
def JO(K:Ag):Sp:=fun vs H Q _=>∃(L G W:Addr)(rs:List Addr)(tb:Ξ)(g ws:List Int)(n:Int),vs=[.ref L,.ref G,.ref W,.int n]/\H L=some (.lst (rs.map V.ref))/\Rws H rs tb/\cH tb=true/\H G=some (.lst (g.map V.int))/\g.length=tb.length/\H W=some (.lst (ws.map V.int))/\(∀x∈ws,x.natAbs<big)/\(∀x∈g,x.natAbs<big)/\iU tb/\∀H',Same H H'->Q (.bl (kb tb g ws n)) H'
def OJ:zo ["table","goal","weights","number"] ["table","goal","weights","number"] (zf BO):=⟨rfl,rfl,rfl,δ,rfl,δ,δ⟩
def OK{f v z I fs J:Addr}{fd M N O S T:FuncData}(F:Fun K "shows_none" "shows_none" BO f fd)(bl:mg "len"=none)(ba:mg "all"=none)(Fm:Fun K "must_have_goal" "must_have_goal" Bo v M)(bm:Binds K M ["table","goal"] [])(mm:mg "must_have_goal"=some (.ref v))(Gm:ah P w K mg base au 4 v M ["table","goal"] (FO K))(Fc:Fun K "can_show" "can_show" ka z N)(bc:Binds K N ["number"] [])(mc:mg "can_show"=some (.ref z))(Gc:ah P w K mg base au 1 z N ["number"] JL)(Fi:Fun K "is_so_many_times" "is_so_many_times" A' I O)(bi:Binds K O ["total","number"] [])(mi:mg "is_so_many_times"=some (.ref I))(Gi:ah P w K mg base au 1 I O ["total","number"] ry)(Fs:Fun K "sum_by" "sum_by" vu fs S)(bs:Binds K S ["row","column"] [])(ms:mg "sum_by"=some (.ref fs))(Gs:ah P w K mg base au 1 fs S ["row","column"] iJ)(Fk:Fun K "columns_of" "columns_of" oT J T)(bk:Binds K T ["table"] [])(mk:mg "columns_of"=some (.ref J))(Gk:ah P w K mg base au 3 J T ["table"] (Cu K)):ah P w K mg base au 5 f fd ["table","goal","weights","number"] (JO K):=by
 refine F.ok OJ (fun vs H Q E h=>?_) (fun ai A outer s H vs Q E hr h=>?_)
 ·obtain⟨L,G,W,rs,tb,g,ws,n,rfl,_⟩:=h;rfl
 ·obtain⟨L,G,W,rs,tb,g,ws,n,rfl,l,p,it,hG,lg,q,sw,sg,st,k⟩:=h
  have r:Room 3 _:=hr.mono ξ;have a:Room 1 _:=hr.mono ξ;obtain⟨t1,t2,t3⟩:=h_ it;refine⟨_,zc (lA (ze Gm hr rfl mm Fm.kp bm .nil af (za (pv 0) (za (pv 1) zb))))
   (zc (cv (PW.pt (gb (zr gx (zn zk rfl bl cR (za (pv 2) zb)) (zn zk rfl bl cR (za (pv 0) zb)) (ap _)) (kh (gX (fT (ze Gc a rfl mc Fc.kp bc .nil af (za (pv 3) zb))))))) (zh (zq fH)) zI)
   (zc (cv (fT (ze Gi a rfl mi Fi.kp bi .nil af (za (ze Gs a rfl ms Fs.kp bs .nil af (za (pv 2) (za (pv 1) zb))) (za (pv 3) zb)))) (zh (zq fH)) zI)
   (zh (zq (zn (ol rfl) rfl ba oM (za (zz ["table","goal","weights","number"] ["column","weights","number"] [none,some 2,some 3] (zO (ze Gk r rfl mk Fk.kp bk .nil af (za (pv 0) zb))) (fun X C s₀ H₀ ex=>zm (i:=0) (bC ["column","weights","number"]) rfl (Or.inl rfl)) (fun X C s₀ H₀ ex=>zB)
    (fun X C s₀ H₀ ex=>ze Gi a rfl mi Fi.kp bi .nil af (za (ze Gs a rfl ms Fs.kp bs .nil af (za (pv 1) (za (pv 0) zb))) (za (pv 2) zb))) (te:=eX ry [] E0 (zZ (eX iJ [] E0 (zZ (ar 1) (zZ (ar 0) bD))) (zZ (ar 2) bD))) (hfr:=a9 (zf BO) δ)) zb)))))),?_⟩
  refine⟨_,rfl,_,rfl,L,G,rs,tb,g,rfl,l,p,it,hG,lg,fun H1 b=>⟨_,rfl,W,_,rfl,.inl (SqL.of (b _ _ q)),_,rfl,L,_,rfl,.inl (SqL.of (b _ _ l)),rfl,_,rfl,?_⟩⟩;rw[Aa,Aa,p.len,eV];have fin:∀H',Same H1 H'->kb tb g ws n=false->Q (.bl false) H':=fun H' s' e=>by
   have:=k H' (b.trans s')
   rwa [e] at this
  by_cases c:ws.length=tb.length
  ·rw[decide_eq_true (show(ws.length:Int)=tb.length from ω)]
   refine aI ⟨_,rfl,n,rfl,_,rfl,?_⟩;cases cn:eJ n with
   |false=>exact aR (fin H1 (Same.refl _) (by unfold kb;rw[cn,Bool.and_false];rfl))
   |true=>
    have nn:=OI cn;refine aI ⟨_,rfl,_,rfl,W,G,ws,g,rfl,b _ _ q,b _ _ hG,ω,fun x hx y hy=>gH (sw x hx) (sg y hy),fun H2 Y=>⟨_,rfl,_,n,rfl,nn,_,rfl,?_⟩⟩;cases ct:dm (dot ws g) n with
    |true=>exact aR (fin H2 Y (by unfold kb;rw[ct];simp))
    |false=>
     have u:=b.trans Y;refine aI ⟨_,rfl,L,rs,tb,rfl,SqL.of (u _ _ l),p.same u,it,fun D H3 ds s3 hD d rd _ _=>⟨D,rfl,⟨_,SqL.of d⟩,fun D2 dC=>?_⟩⟩;have aY:=u.trans s3;refine zD (ky (mkV:=V.bl) (g:=fun c=>dm (dot ws c) n) (fun o os H' R sm ho Z hR=>⟨_,rfl,_,rfl,W,o,ws,os,rfl,sm _ _ (aY _ _ q),ho,by rw[N5 os Z];(first|lia|omega),fun x hx y hy=>gH (sw x hx) (Jx st os Z y hy),fun U j=>⟨_,rfl,_,n,rfl,nn,hR U j⟩⟩) (SqL.of d) rd (by rw[N4];(first|lia|omega)) dC fun U j bM=>⟨D2,_,rfl,SqL.of bM,?_⟩);have e:kb tb g ws n=((turn tb).map fun c=>dm (dot ws c) n).all id:=by
      unfold kb;rw[decide_eq_true c,cn,ct,List.all_map];rfl
     have:=k U (aY.trans j)
     rwa [e] at this
  ·rw[decide_eq_false (show ¬(ws.length:Int)=tb.length from ω)]
   exact aR (aR (fin H1 (Same.refl _) (by unfold kb;rw[decide_eq_false c];rfl)))
end
abbrev rA:Stmt:=top 54
abbrev Dt:Stmt:=top 55
abbrev BZ:Stmt:=top 56
section
variable{P:Program}{w:World}{K:Ag}{mg:Str->Option Value}{base:Heap}
def OL:zo ["one","other"] ["one","other"] (zf rA):=⟨rfl,rfl,rfl,δ,rfl,δ,δ⟩
def OM{f:Addr}{fd:FuncData}(F:Fun K "_law_sum" "_law_sum" rA f fd)(v:mg "zip"=none)(bs:mg "sum"=none):ah P w K mg base au 1 f fd ["one","other"] iJ:=by
 refine F.ok OL (fun vs H Q E h=>?_) (fun y A outer s H vs Q E hr h=>?_)
 ·obtain⟨r,c,rn,l,rfl,_⟩:=h;rfl
 ·obtain⟨r,c,rn,l,rfl,h1,h2,n2,sm,k⟩:=h
  refine⟨_,zh (zq (zn (GZ rfl) rfl bs Iw (za (zz ["one","other"] ["left","right"] [none,none] (kA rfl v jm (za (pv 0) (za (pv 1) zb)))
   (fun e C s₀ H₀ ex=>gi rfl (zE (zm (i:=0) (bC ["left","right"]) rfl (Or.inl rfl)) (zE (zm (i:=1) (bC ["left","right"]) rfl (Or.inl rfl)) gg))) (fun e C s₀ H₀ ex=>zB)
   (fun e C s₀ H₀ ex=>zF oZ (pv 0) (pv 1)) (te:=cy (rI eC fun i j=>.int (i*j)) (ar 0) (ar 1)) (hfr:=cz δ) (g:=bT K 2 (ci (zQ 0) (ci (zQ 1) bR)))) zb))),?_⟩
  refine⟨_,rfl,_,rfl,r,c,rfl,⟨_,SqL.of h1⟩,⟨_,SqL.of h2⟩,fun D o=>?_⟩;refine zD (vD (f:=fun a b=>a*b) (fun a b H' R p hb q=>⟨_,rfl,_,rfl,_,_,rfl,rfl,sm a p b hb,q⟩) h1 h2 n2 o fun x u d=>⟨D,Av (·*·) rn l,rfl,SqL.of d,k x u⟩)
def ON:zo ["number","often"] ["number","often"] (zf Dt):=⟨rfl,rfl,rfl,δ,rfl,δ,δ⟩
def OO{f:Addr}{fd:FuncData}(F:Fun K "_law_goes" "_law_goes" Dt f fd):ah P w K mg base au 1 f fd ["number","often"] ry:=by
 refine F.ok ON (fun vs H Q E h=>?_) (fun a A outer s H vs Q E hr h=>?_)
 ·obtain⟨t,n,rfl,_⟩:=h;rfl
 ·obtain⟨t,n,rfl,b,k⟩:=h
  refine⟨_,zh (zq (lj (zr dO (pv 1) zd (ap _)) (hH dO (pv 0) zd (ap _)) (hH dO (zF je (pv 0) (pv 1)) zd (ap _)))),?_⟩;refine⟨_,rfl,rfl,_,rfl,?_⟩;rw[eV]
  by_cases c:n=0
  ·rw[decide_eq_true c]
   rw[c,JK,<-eV] at k;exact aR ⟨_,rfl,rfl,k⟩
  ·rw[decide_eq_false c]
   unfold dm at k;rw[<-eV] at k;exact aI ⟨_,rfl,_,rfl,_,_,rfl,rfl,(show(0:Int)<n from ω),rfl,k⟩
end
structure Sta(H:Hp)(p L G W:Addr)(rs:List Addr)(tb:Ξ)(g ws:List Int):Prop where
 bx:zT H p
 hL:H L=some (.lst (rs.map V.ref))
 hT:Rws H rs tb
 hG:H G=some (.lst (g.map V.int))
 hW:H W=some (.lst (ws.map V.int))
 nL:L≠W
 nG:G≠W
 nr:∀d∈rs,d≠W
 pL:L≠p
 pG:G≠p
 pW:W≠p
 pr:∀d∈rs,d≠p
section
variable{H H':Hp}{p L G W:Addr}{rs:List Addr}{tb:Ξ}{g ws:List Int}
def Sta.draw(h:Sta H p L G W rs tb g ws)(s:zab p H H')(b:zT H' p):Sta H' p L G W rs tb g ws:=⟨b,s _ _ h.pL h.hL,h.hT.sameB s h.pr,s _ _ h.pG h.hG,s _ _ h.pW h.hW,h.nL,h.nG,h.nr,h.pL,h.pG,h.pW,h.pr⟩
def Sta.same(h:Sta H p L G W rs tb g ws)(s:Same H H'):Sta H' p L G W rs tb g ws:=h.draw (.of s) (h.bx.same s)
def Sta.set(h:Sta H p L G W rs tb g ws)(vs:List Int):Sta (L2.upd H W (.lst (vs.map V.int))) p L G W rs tb g vs:=
 ⟨h.bx.upd h.pW,by rw[al h.nL];exact h.hL,Rws.upd h.hT h.nr,by rw[al h.nG];exact h.hG,ac,h.nL,h.nG,h.nr,h.pL,h.pG,h.pW,h.pr⟩
def Sta.other{c:Addr}{vs:List Int}(h:Sta H p L G W rs tb g ws)(s:zab p H H')(b:zT H' p)(a:H c=none)(hv:H' c=some (.lst (vs.map V.int))):Sta H' p L G c rs tb g vs:=by
 have h2:=h.draw s b;refine⟨b,h2.hL,h2.hT,h2.hG,hv,fun e=>?_,fun e=>?_,fun d hd e=>Rws.there h.hT d hd (by rw[e];exact a),h.pL,h.pG,eH h.bx a,h.pr⟩
 ·rw[<-e,h.hL] at a;cases a
 ·rw[<-e,h.hG] at a;cases a
end
section
variable{k w:Nat}{A:Nat->Tb.Vc}{u ub v vb:Ξ}{st:List Int}
def JP{n i:Nat}{x:Tb.Vc}(h:i<n):Tb.dot n (fun l=>Tb.dl i l) x=x i:=Tb.k5 h
def Pap.uinj(p:Pap k w A u ub v vb st){f g:Tb.Vc}(h:∀i,i<k->Tb.dot k (fn u i) f=Tb.dot k (fn u i) g):∀i,i<k->f i=g i:=by
 have e:∀(f:Tb.Vc) i,i<k->f i=Tb.dot k (fn ub i) (fun s=>Tb.dot k (fn u s) f):=fun f i hi=>by
  rw[<-Tb.iP,Tb.zJ (a':=fun l=>Tb.dl i l) (fun l a=>p.u2 i l hi a),JP hi]
 intro i hi;rw[e f i hi,e g i hi];exact Tb.zj fun s b=>h s b
def Pap.bv(p:Pap k w A u ub v vb st){z x:Tb.Vc}(hx:∀t,t<w->x t=Tb.dot w (fn v t) z){i:Nat}(hi:i<k):Tb.dot k (fn u i) (fun s=>Tb.dot w (A s) x)=Tb.dot w z (fun j=>if i=j then vc st i else 0):=by
 have e1:Tb.dot k (fn u i) (fun s=>Tb.dot w (A s) x)=Tb.aQ k w A (fn u i) (fun t=>Tb.dot w z (fun l=>fn v t l)):=by
  unfold Tb.aQ;exact Tb.zj fun s _=>Tb.zj fun t a=>by rw[hx t a,Tb.zM]
 rw[e1,Tb.Fq (V:=fun l t=>fn v t l)];exact Tb.zj fun j b=>p.pr' hi b
def Pap.ask(p:Pap k w A u ub v vb st){x g:Tb.Vc}(h:∀i,i<k->Tb.dot w (A i) x=g i):∀i,i<k->vc st i ∣ Tb.dot k (fn u i) g:=fun i hi=>by
 have e:Tb.dot k (fn u i) g=Tb.dot k (fn u i) (fun s=>Tb.dot w (A s) x):=Tb.zj fun s b=>(h s b).symm;rw[e,p.bv (z:=fun s=>Tb.dot w (fn vb s) x) (fun t a=>?_) hi]
 ·refine Tb.IV fun t _=>?_
  by_cases c:i=t
  ·rw[if_pos c];exact Int.dvd_refl _
  ·rw[if_neg c];exact Int.dvd_zero _
 ·rw[<-Tb.iP,Tb.zJ (a':=fun l=>Tb.dl t l) (fun l d=>p.v1 t l a d),JP a]
def Pap.sol(p:Pap k w A u ub v vb st){g:Tb.Vc}(h:∀i,i<k->vc st i ∣ Tb.dot k (fn u i) g):∀i,i<k->Tb.dot w (A i) (fun t=>Tb.dot w (fn v t) (fun s=>Tb.dot k (fn u s) g / vc st s))=g i:=by
 refine p.uinj fun i hi=>?_;rw[p.bv (z:=fun s=>Tb.dot k (fn u s) g / vc st s) (fun t _=>rfl) hi,Tb.zM]
 by_cases c:i<st.length
 ·rw[Tb.Fn (Az c p.sw),A9]
  exact Int.ediv_mul_cancel (h i hi)
 ·have e:vc st i=0:=fB ω
  have:=h i hi;rw[e] at this;rw[Int.zero_dvd.mp this];refine Tb.zS fun t _=>?_;rw[e];split<;>rfl
end
def kc(tb:Ξ)(y:List Int):List Int:=tb.map (dot y)
def Solv(tb:Ξ)(g:List Int):Prop:=∃x:Tb.Vc,∀i,i<tb.length->Tb.dot (wid tb) (fn tb i) x=vc g i
def FQ{b:Type}{l:List b}{f:b->Int}{i:Nat}{a:b}(h:l[i]?=some a):vc (l.map f) i=f a:=by
 unfold vc;rw[Ac,Aj,h];rfl
def OP{tb:Ξ}{y:List Int}(hw:∀r∈tb,r.length=wid tb)(hy:y.length=wid tb){i:Nat}(hi:i<tb.length):vc (kc tb y) i=Tb.dot (wid tb) (fn tb i) (vc y):=by
 unfold kc;rw[FQ (Ab hi)];have a:=hw _ (Ap hi);rw[eL,y_ ω,a];unfold fn;rw[zy (Ab hi)]
def OQ{tb:Ξ}{y:List Int}(hw:∀r∈tb,r.length=wid tb)(hy:y.length=wid tb):Solv tb (kc tb y):=⟨vc y,fun i hi=>(OP hw hy hi).symm⟩
def Solv.mix{tb:Ξ}{g o h:List Int}{c:Int}(hg:Solv tb g)(a:Solv tb o)(e:∀i,i<tb.length->vc h i=c*vc g i+vc o i):Solv tb h:=by
 obtain⟨x,hx⟩:=hg;obtain⟨y,hy⟩:=a;refine⟨fun t=>c*x t+y t,fun i hi=>?_⟩;rw[Tb.kU,hx i hi,hy i hi,e i hi]
section
variable{tb u ub v vb:Ξ}{st g:List Int}
def B3(p:Pap tb.length (wid tb) (fn tb) u ub v vb st)(b:g.length=tb.length){i:Nat}(hi:i<tb.length):dot g (rowAt u i)=Tb.dot tb.length (fn u i) (vc g):=by
 have a:=p.wu _ (zG (show i<u.length by rw[p.lu];exact hi));rw[eL,y_ ω,a]
 rfl
def Du{t n:Int}:dm t n=true↔n ∣ t:=by
 unfold dm;rw[decide_eq_true_iff];exact⟨Int.dvd_of_emod_eq_zero,Int.emod_eq_zero_of_dvd⟩
def Pap.yes(p:Pap tb.length (wid tb) (fn tb) u ub v vb st)(a:g.length=tb.length)(h:∀k,k<u.length->dm (dot g (rowAt u k)) (vc st k)=true):Solv tb g:=
 ⟨_,p.sol fun i hi=>by rw[<-B3 p a hi];exact Du.mp (h i (by rw[p.lu];exact hi))⟩
def Pap.no(p:Pap tb.length (wid tb) (fn tb) u ub v vb st)(b:g.length=tb.length){k:Nat}(hk:k<u.length)(h:dm (dot g (rowAt u k)) (vc st k)=false):¬Solv tb g:=fun⟨x,hx⟩=>by
 have a:k<tb.length:=by rw[<-p.lu];exact hk
 have:=p.ask hx k a;rw[<-B3 p b a,<-Du,h] at this;cases this
end
abbrev Dv:Stmt:=top 42
def Rws.drop{H:Hp}{ds:List Addr}{tb:Ξ}(h:Rws H ds tb):∀n:Nat,Rws H (ds.drop n) (tb.drop n):=by
 induction h with
 |nil=>intro n;rw[List.drop_nil,List.drop_nil];exact .nil
 |cons r t ih=>
  intro n;cases n with
  |zero=>exact .cons r t
  |succ n=>exact ih n
section
variable{P:Program}{w:World}{K:Ag}{mg:Str->Option Value}{base:Heap}
def JQ(K:Ag):Sp:=fun vs H Q _=>∃(L N:Addr)(rs:List Addr)(tb:Ξ)(y:List Int),vs=[.ref L,.ref N]/\H L=some (.lst (rs.map V.ref))/\Rws H rs tb/\cH tb=true/\H N=some (.lst (y.map V.int))/\y.length=wid tb/\iU tb/\(∀x∈y,x.natAbs<big)/\kO H Q (kc tb y)
def OR:zo ["table","numbers"] ["table","numbers"] (zf Dv):=⟨rfl,rfl,rfl,δ,rfl,δ,δ⟩
def OS{f i j fr:Addr}{fd l o p:FuncData}(F:Fun K "brought" "brought" Dv f fd)(bl:mg "len"=none)(Fm:Fun K "must_be_table" "must_be_table" vr i l)(J:Binds K l ["table"] [])(M:mg "must_be_table"=some (.ref i))(W:ah P w K mg base au 3 i l ["table"] (FJ K))(Fw:Fun K "width_of" "width_of" kn j o)(O:Binds K o ["table"] [])(S:mg "width_of"=some (.ref j))(X:ah P w K mg base au 1 j o ["table"] (mI K))(Fr:Fun K "row_by" "row_by" oQ fr p)(T:Binds K p ["row","columns"] [])(U:mg "row_by"=some (.ref fr))(Y:ah P w K mg base au 2 fr p ["row","columns"] (E5 K)):ah P w K mg base au 4 f fd ["table","numbers"] (JQ K):=by
 refine F.ok OR (fun vs H Q E h=>?_) (fun Z A outer s H vs Q E hr h=>?_)
 ·obtain⟨L,N,rs,tb,y,rfl,_⟩:=h;rfl
 ·obtain⟨L,N,rs,tb,y,rfl,b,d,it,q,C,st,G,k⟩:=h
  have e:Room 2 _:=hr.mono ξ;have g:Room 1 _:=hr.mono ξ;obtain⟨t1,t2,I⟩:=h_ it;refine⟨_,zc (lA (ze W hr rfl M Fm.kp J .nil af (za (pv 0) zb)))
   (zc (cv (zr gx (zn zk rfl bl cR (za (pv 1) zb)) (ze X g rfl S Fw.kp O .nil af (za (pv 0) zb)) (ap _)) DF zI)
   (zh (zq (ze Y e rfl U Fr.kp T .nil af (za (pv 1) (za (pv 0) zb)))))),?_⟩
  refine⟨_,rfl,L,rs,tb,rfl,SqL.of b,d,it,fun H1 a=>⟨_,rfl,N,_,rfl,.inl (SqL.of (a _ _ q)),_,rfl,L,rs,tb,rfl,SqL.of (a _ _ b),d.same a,rfl,_,rfl,?_⟩⟩;rw[Aa,C,decide_eq_true rfl];refine aI ⟨_,rfl,_,rfl,N,L,y,rs,tb,rfl,a _ _ q,a _ _ b,d.same a,ω,fun c hc=>⟨by rw[I c hc];(first|lia|omega),fun x hx z hz=>gH (G x hx) (st c hc z hz)⟩,fun D H2 r u v=>?_⟩;exact k D H2 (a.trans r) (a.free u) v
def kd(b:Bool):Str:=if b then "yes" else "no"
def Ans(H H':Hp)(r:Addr)(tb:Ξ)(g:List Int)(b:Bool):Prop:=(b=true↔Solv tb g)/\H r=none/\∃rest:List V,H' r=some (.tup (.str (kd b)::rest))/\
 (b=false->∃c ws n,rest=[.ref c,.int n]/\H c=none/\H' c=some (.lst (ws.map V.int))/\ws.length=tb.length/\(∀x∈ws,x.natAbs<low)/\0<=n/\∀y:List Int,y.length=wid tb->n ∣ dot ws (kc tb y))
def Ans.same{H H' H2:Hp}{r:Addr}{tb:Ξ}{g:List Int}{b:Bool}(h:Ans H H' r tb g b)(s:Same H' H2):Ans H H2 r tb g b:=by
 obtain⟨h1,h2,rest,a,d⟩:=h;refine⟨h1,h2,rest,s _ _ a,fun e=>?_⟩;obtain⟨c,ws,n,e1,e2,e3,f⟩:=d e;exact⟨c,ws,n,e1,e2,s _ _ e3,f⟩
def Ans.draw{H H' H2:Hp}{p r:Addr}{tb:Ξ}{g:List Int}{b:Bool}(h:Ans H H' r tb g b)(hb:zT H p)(s:zab p H' H2):Ans H H2 r tb g b:=by
 obtain⟨h1,h2,rest,a,d⟩:=h;refine⟨h1,h2,rest,s _ _ (eH hb h2) a,fun e=>?_⟩;obtain⟨c,ws,n,e1,e2,e3,f⟩:=d e;exact⟨c,ws,n,e1,e2,s _ _ (eH hb e2) e3,f⟩
def Ans.old{H0 H H':Hp}{r:Addr}{tb:Ξ}{g:List Int}{b:Bool}(h:Ans H H' r tb g b)(s:Same H0 H):Ans H0 H' r tb g b:=by
 obtain⟨h1,h2,rest,a,d⟩:=h;refine⟨h1,s.free h2,rest,a,fun e=>?_⟩;obtain⟨c,ws,n,e1,e2,e3,f⟩:=d e;exact⟨c,ws,n,e1,s.free e2,e3,f⟩
end
def nE:Good 28 5 1:=⟨ξ,ξ,ξ,ξ,ξ,ξ⟩
def JR:∀{z r:List Int},z.length<=r.length->dot z r=Tb.dot r.length (vc z) (vc r)
 |[],r,_=>by
  rw[show Tb.dot r.length (vc []) (vc r)=0 from Tb.zS fun _ _=>rfl];cases r<;>rfl
 |a::z,[],h=>absurd h (by simp)
 |a::z,b::r,h=>by
  have e:dot (a::z) (b::r)=a*b+dot z r:=rfl;rw[e,JR (Nat.le_of_succ_le_succ h),AH,qJ]
  rfl
section
variable{tb u ub v vb:Ξ}{st g:List Int}
def OT{j i:Nat}(hi:i<tb.length):vc (colAt tb j) i=fn tb i j:=by
 unfold colAt;rw[FQ (Ab hi)];unfold fn;rw[zy (Ab hi)];rfl
def Pap.noS(p:Pap tb.length (wid tb) (fn tb) u ub v vb st)(e:g.length=tb.length){k:Nat}(hk:k<u.length)(h:dm (dot g (rowAt u k)) (vc st k)=false):(rowAt u k).length=tb.length/\0<=vc st k/\vc st k≠1/\dm (dot (rowAt u k) g) (vc st k)=false/\∀j,j<wid tb->dm (dot (rowAt u k) (colAt tb j)) (vc st k)=true:=by
 have a:k<tb.length:=by rw[<-p.lu];exact hk
 have c:=p.wu _ (zG hk);refine⟨c,?_,fun z=>?_,by rw[eL];exact h,fun j b=>?_⟩
 ·by_cases z:k<st.length
  ·rw[il z];exact Int.le_of_lt (p.sp _ (Ap z))
  ·rw[fB ω];exact Int.le_refl _
 ·rw[z] at h
  unfold dm at h;rw[Int.emod_one] at h;cases h
 ·have d:(colAt tb j).length=tb.length:=by unfold colAt;rw[Aa]
  rw[Du,eL,B3 p d a];refine p.ask (x:=Tb.un j) (fun i hi=>?_) k a;rw[Tb.zM,Tb.k5 b,OT hi]
def OU(p:Pap tb.length (wid tb) (fn tb) u ub v vb st)(j:g.length=tb.length){t:Nat}(o:t<wid tb):vc (eB u v st g) t=Tb.dot (wid tb) (fn v t) (fun s=>Tb.dot tb.length (fn u s) (vc g) / vc st s):=by
 have hv:t<v.length:=by rw[p.lv];exact o
 unfold eB;rw[FQ (Ab hv)];have f:=p.wv _ (Ap hv);have d:(Av (fun a b=>a / b) (u.map (dot g)) st).length=st.length:=by rw[Au,Aa,p.lu];have:=p.sk;(first|lia|omega)
 rw[JR (by rw[d,f];exact p.sw),f,Tb.zM];unfold fn;rw[zy (Ab hv)];refine Tb.zj fun s q=>?_
 by_cases c:s<st.length
 ·have h:s<tb.length:=Az c p.sk
  have i:s<u.length:=by rw[p.lu];exact h
  rw[il (by rw[d];exact c),AR,AO,il c];have e:=B3 p j h;rw[zy (Ab i)] at e;rw[e];unfold fn;rw[zy (Ab i)]
 ·rw[fB (by rw[d];(first|lia|omega)),fB (l:=st) ω,Int.ediv_zero]
def Pap.yesS(p:Pap tb.length (wid tb) (fn tb) u ub v vb st)(hw:∀r∈tb,r.length=wid tb)(a:g.length=tb.length)(h:∀k,k<u.length->dm (dot g (rowAt u k)) (vc st k)=true):(eB u v st g).length=wid tb/\tb.map (fun r=>dot r (eB u v st g))=g:=by
 have ls:(eB u v st g).length=wid tb:=by unfold eB;rw[Aa,p.lv]
 refine⟨ls,AT (by rw[Aa,a]) fun i h1 h2=>?_⟩;rw[Aa] at h1;rw[AO];have hr:=hw _ (Ap h1);rw[y_ ω,hr];have e:=p.sol (g:=vc g) (fun i hi=>by rw[<-B3 p a hi];exact Du.mp (h i (by rw[p.lu];exact hi))) i h1;unfold fn at e;rw[zy (Ab h1),il h2] at e;rw[<-e];refine Tb.zj fun t b=>?_;rw[OU p a b];rfl
def Pap.solB(p:Pap tb.length (wid tb) (fn tb) u ub v vb st)(f:wid tb<=40)(l:tb.length<=40)(o:g.length=tb.length)(j:∀x∈g,x.natAbs<=2 ^ 900){x y:Int}(hx:x.natAbs<=1000)(hy:y∈eB u v st g):eC x y:=by
 unfold eB at hy;obtain⟨r,hr,rfl⟩:=List.mem_map.mp hy;have h:=De (r:=Av (fun a b=>a / b) (u.map (dot g)) st) (c:=r) (a:=2 ^ bt) (b:=2 ^ (bt-1000)) (fun z hz=>by
  obtain⟨i,hi,rfl⟩:=AX hz;rw[Au,Aa] at hi;rw[AR,AO];refine Ae CJ ?_;rw[eL];have:=Jy (c:=g) (p.su _ (Ap (show i<u.length from ω))) j ω;exact Nat.le_of_lt this) fun z hz=>Nat.le_of_lt (p.sv r hr z hz)
 have d:=p.wv r hr;have e:r.length*(2 ^ bt*2 ^ (bt-1000))<=2 ^ (6+(bt+(bt-1000))):=Tb.zt (by rw[d];exact Ae f ξ) (Tb.zt (Ad _) (Ad _));refine⟨10,6+(bt+(bt-1000))+1,Ao hx ξ,Ao (Ae h e) (Nat.pow_lt_pow_right ξ (Nat.lt_succ_self _)),?_⟩;have:=jz;(first|lia|omega)
end
abbrev B4:Stmt:=top 57
def jN(ns:List Int):SeqAt.shaped (bO ns)=true:=by
 have e:Bh (bO ns)<=64:=by
  have:Bh (bO ns)<=2:=by simp[Bh,PySem.W.ke_depthAll]
  (first|lia|omega)
 unfold SeqAt.shaped;rw[decide_eq_true e,bO,PyData.canLay0,FI]
 rfl
section
variable{P:Program}{w:World}{K:Ag}{mg:Str->Option Value}{base:Heap}
structure NoS(tb:Ξ)(g ws:List Int)(n:Int):Prop where
 l:ws.length=tb.length
 n0:0<=n
 n1:n≠1
 g:dm (dot ws g) n=false
 c:∀j,j<wid tb->dm (dot ws (colAt tb j)) n=true
 b:∀x∈ws,x.natAbs<big
abbrev B5:List Str:=["table","goal","told","weights","number","place"]
def JS:Sp:=fun vs H Q _=>∃(L G T W:Addr)(rs:List Addr)(tb:Ξ)(g ws:List Int)(n:Int)(s:Str),vs=[.ref L,.ref G,.ref T]/\H L=some (.lst (rs.map V.ref))/\Rws H rs tb/\cH tb=true/\iU tb/\H G=some (.lst (g.map V.int))/\g.length=tb.length/\(∀x∈g,x.natAbs<big)/\H T=some (.tup [.str s,.ref W,.int n])/\H W=some (.lst (ws.map V.int))/\NoS tb g ws n/\∀H',Same H H'->Q (.bl true) H'
def Dw:zo B5 ["table","goal","told"] (zf BZ):=⟨rfl,rfl,rfl,δ,rfl,δ,δ⟩
def OV{f X Y fs fr Z:Addr}{fd aC cL ax aX fU:FuncData}(F:Fun K "_law_shows" "_law_shows" BZ f fd)(B:iV mg)(Fr:Fun K "_law_row_like" "_law_row_like" ro fr aX)(br:Binds K aX ["found"] [])(mr:mg "_law_row_like"=some (.ref fr))(Gr:ah P w K mg base au 2 fr aX ["found"] Dp)(Fwh:Fun K "_law_whole" "_law_whole" yV Z fU)(ur:Binds K fU ["found"] [])(rD:mg "_law_whole"=some (.ref Z))(uh:ah P w K mg base au 1 Z fU ["found"] Do)(Fw:Fun K "_law_wide" "_law_wide" ri X aC)(bw:Binds K aC ["table"] [])(mw:mg "_law_wide"=some (.ref X))(Gw:ah P w K mg base au 1 X aC ["table"] (Dm K))(Fi:Fun K "_law_goes" "_law_goes" Dt Y cL)(bi:Binds K cL ["number","often"] [])(mi:mg "_law_goes"=some (.ref Y))(Gi:ah P w K mg base au 1 Y cL ["number","often"] ry)(Fs:Fun K "_law_sum" "_law_sum" rA fs ax)(bs:Binds K ax ["one","other"] [])(ms:mg "_law_sum"=some (.ref fs))(Gs:ah P w K mg base au 1 fs ax ["one","other"] iJ):ah P w K mg base au 3 f fd ["table","goal","told"] JS:=by
 refine F.ok Dw (fun vs H Q E h=>?_) (fun ai A outer s H vs Q E hr h=>?_)
 ·obtain⟨L,G,T,W,rs,tb,g,ws,n,s,rfl,_⟩:=h;rfl
 ·obtain⟨L,G,T,W,rs,tb,g,ws,n,z,rfl,p,S,it,st,hG,lg,sg,cu,u,ns,k⟩:=h
  obtain⟨t1,t2,t3⟩:=h_ it;have a:Room 1 _:=hr.mono ξ;have lw:=ns.l;refine⟨_,zc (iv (tZ Kz (pv 2) (tP zd) tK) (gi rfl (zE (zm (i:=3) Dw.nd rfl (Or.inl rfl)) (zE (zm (i:=4) Dw.nd rfl (Or.inl rfl)) gg))))
   (zc (cv (PW.pt (gb (gX (fT (ze Gr hr rfl mr Fr.kp br .nil af (za (pv 3) zb)))) (gb (zr gx (zn zk rfl B.len cR (za (pv 3) zb)) (zn zk rfl B.len cR (za (pv 0) zb)) (ap _)) (gb (gX (fT (ze uh a rfl rD Fwh.kp ur .nil af (za (pv 4) zb)))) (gb (zr n_ (pv 4) zd (ap _)) (kh (zr dO (pv 4) zd (ap _)))))))) (zh (zq fH)) zI)
   (zc (iw Bb rfl (jc rfl B.range (za (ze Gw a rfl mw Fw.kp bw .nil af (za (pv 0) zb)) zb)) (zm (i:=5) Dw.nd rfl (Or.inr rfl))
    (zh (cv (gX (fT (ze Gi a rfl mi Fi.kp bi .nil af (za (ze Gs a rfl ms Fs.kp bs .nil af (za (pv 3) (za
     (zz B5 ["row","place"] [none,some 5] (zO (pv 0)) (fun cl C s₀ H₀ ex=>zm (i:=0) (bC ["row","place"]) rfl (Or.inl rfl)) (fun cl C s₀ H₀ ex=>zB) (fun cl C s₀ H₀ ex=>zw zx (pv 0) (pv 1) (fun _ _=>rfl)) (te:=cy (gA K) (ar 0) (ar 1)) (hfr:=a9 (zf BZ) δ)) zb))) (za (pv 4) zb))))) (zh (zq fH)) zI)))
   (zh (zq (FZ (ze Gi a rfl mi Fi.kp bi .nil af (za (ze Gs a rfl ms Fs.kp bs .nil af (za (pv 3) (za (pv 1) zb))) (za (pv 4) zb)))))))),?_⟩
  refine⟨_,rfl,_,rfl,T,_,rfl,SqT.of cu,(by show ¬(HT.sIx 3 0 (some 1)=0/\HT.sIx 3 3 none=3);decide),fun q hq=>?_⟩;have I:=Same.new (o:=.tup [.ref W,.int n]) hq;refine⟨q,[.ref W,.int n],rfl,SqT.of ac,rfl,_,_,rfl,_,_,rfl,rfl,?_⟩;have I:Same H (upd H q (.tup (cZ [.str z,.ref W,.int n] (some 1) none))):=Same.new hq;generalize upd H q (.tup (cZ [.str z,.ref W,.int n] (some 1) none))=H0 at I ⊢;refine⟨_,rfl,W,ws,rfl,I _ _ u,ω,fun H1 s1=>⟨_,rfl,aI ?_⟩⟩;have d:=I.trans s1;refine⟨_,rfl,W,_,rfl,.inl (SqL.of (d _ _ u)),_,rfl,L,_,rfl,.inl (SqL.of (d _ _ p)),rfl,_,rfl,?_⟩;rw[Aa,Aa,S.len,lw,decide_eq_true rfl];refine aI ⟨_,rfl,n,rfl,_,rfl,aI ⟨_,rfl,_,_,rfl,rfl,_,rfl,?_⟩⟩;rw[decide_eq_false (show ¬n<0 by have:=ns.n0;(first|lia|omega))];refine aI ⟨_,rfl,rfl,_,rfl,?_⟩;rw[eV,decide_eq_false ns.n1];refine aI ⟨_,rfl,L,rs,tb,rfl,SqL.of (d _ _ p),S.same d,fun H2 s2=>⟨_,rfl,ω,ω,DK (lo:=0) (n:=wid tb) (fun i σ J=>∃(O:Option V),σ=[some (.ref L),some (.ref G),some (.ref T),some (.ref W),some (.int n),O]/\Same H J)
   ⟨none,rfl,d.trans s2⟩ ?_ ?_⟩⟩
  ·rintro i σ H2 hi ⟨O,rfl,sm⟩
   rw[show(0:Int)+((i:Nat):Int)=((i:Nat):Int) from ω];refine⟨_,rfl,_,rfl,L,rfl,⟨_,SqL.of (sm _ _ p)⟩,fun D hD=>zD (ky (mkV:=V.int) (g:=fun r=>r.getD i 0) (fun o os H' R fE ho hm hR=>?_) (SqL.of (sm _ _ p)) (S.same sm) ω hD fun J M N=>?_)⟩
   ·have e:i<os.length:=by rw[t3 os hm];exact hi
    refine⟨_,rfl,_,rfl,o,_,_,_,rfl,rfl,SqL.of ho,zi (j:=i) (v:=V.int (os.getD i 0)) ?_,hR H' (Same.refl H')⟩;rw[Aj,Ab e,Ac,Ab e]
    rfl
   have U:colAt tb i∈turn tb:=by unfold turn;exact List.mem_map.mpr ⟨i,List.mem_range.mpr hi,rfl⟩
   have bG:=sm.trans M;refine⟨W,D,ws,colAt tb i,rfl,bG _ _ u,N,by unfold colAt;rw[Aa];(first|lia|omega),fun x hx y hy=>gH (ns.b x hx) (Jx st _ U y hy),fun H4 s4=>⟨_,rfl,_,n,rfl,ns.n0,_,rfl,?_⟩⟩;rw[ns.c i hi];exact aI ⟨_,rfl,bG.trans s4⟩
  ·rintro σ H2 ⟨O,rfl,sm⟩
   refine⟨_,rfl,_,rfl,W,G,ws,g,rfl,sm _ _ u,sm _ _ hG,ω,fun x hx y hy=>gH (ns.b x hx) (sg y hy),fun J M=>⟨_,rfl,_,n,rfl,ns.n0,_,rfl,?_⟩⟩;rw[ns.g];exact k J (sm.trans M)
def OW(H:Hp)(T:Addr)(tb:Ξ)(g:List Int):Prop:=(∃(W:Addr)(ws:List Int)(n:Int),H T=some (.tup [.str "no",.ref W,.int n])/\H W=some (.lst (ws.map V.int))/\NoS tb g ws n) \/
 (∃(W:Addr)(ws:List Int),H T=some (.tup [.str "yes",.ref W])/\H W=some (.lst (ws.map V.int))/\ws.length=wid tb/\tb.map (fun r=>dot r ws)=g/\∀r∈tb,MulOk r ws)
def JT:Sp:=fun vs H Q _=>∃(L G T:Addr)(rs:List Addr)(tb:Ξ)(g:List Int),vs=[.ref L,.ref G,.ref T]/\H L=some (.lst (rs.map V.ref))/\Rws H rs tb/\cH tb=true/\iU tb/\H G=some (.lst (g.map V.int))/\g.length=tb.length/\(∀x∈g,x.natAbs<big)/\OW H T tb g/\∀H',Same H H'->Q (.bl true) H'
abbrev B6:List Str:=["table","goal","told"]
def OX:zo B6 ["table","goal","told"] (zf B4):=⟨rfl,rfl,rfl,δ,rfl,δ,δ⟩
def OY{f x fs fr y:Addr}{fd z I J M:FuncData}(F:Fun K "_law_right" "_law_right" B4 f fd)(B:iV mg)(jA:mg "tuple"=none)(Fr:Fun K "_law_row_like" "_law_row_like" ro fr J)(br:Binds K J ["found"] [])(mr:mg "_law_row_like"=some (.ref fr))(Gr:ah P w K mg base au 2 fr J ["found"] Dp)(Fw:Fun K "_law_wide" "_law_wide" ri x z)(bw:Binds K z ["table"] [])(mw:mg "_law_wide"=some (.ref x))(Gw:ah P w K mg base au 1 x z ["table"] (Dm K))(Fs:Fun K "_law_sum" "_law_sum" rA fs I)(bs:Binds K I ["one","other"] [])(ms:mg "_law_sum"=some (.ref fs))(Gs:ah P w K mg base au 1 fs I ["one","other"] iJ)(Fh:Fun K "_law_shows" "_law_shows" BZ y M)(bh:Binds K M ["table","goal","told"] [])(mh:mg "_law_shows"=some (.ref y))(Gh:ah P w K mg base au 3 y M ["table","goal","told"] JS):ah P w K mg base au 4 f fd ["table","goal","told"] JT:=by
 refine F.ok OX (fun vs H Q E h=>?_) (fun ai A outer s H vs Q E hr h=>?_)
 ·obtain⟨L,G,T,rs,tb,g,rfl,_⟩:=h;rfl
 ·obtain⟨L,G,T,rs,tb,g,rfl,l,q,it,st,S,lg,sg,rg,k⟩:=h
  obtain⟨t1,t2,t3⟩:=h_ it;have bY:=hr.units;have e:Room 1 _:=hr.mono ξ;have u:Room 2 _:=hr.mono ξ;refine⟨_,zc (cv (PW.pt (gb (gX (fT (zn Lr rfl B.isinstance Dn (za (pv 2) (za (B_ (v:=.ty "tuple") rfl jA Hm rfl) zb))))) (kh (zr n_ (zn zk rfl B.len cR (za (pv 2) zb)) zd (ap _))))) (zh (zq fH)) zI)
   (zc (cv (zr dO (zw zC (pv 2) zd (fun _ _=>rfl)) nH (ap _)) (zh (zq (B' (hH dO (zn zk rfl B.len cR (za (pv 2) zb)) zd (ap _)) (rY (ze Gh hr rfl mh Fh.kp bh .nil af (za (pv 0) (za (pv 1) (za (pv 2) zb)))))))) zI)
   (zc (cv (PW.pt (gb (zr gx (zw zC (pv 2) zd (fun _ _=>rfl)) nH (ap _)) (gb (zr gx (zn zk rfl B.len cR (za (pv 2) zb)) zd (ap _)) (gb (gX (fT (ze Gr u rfl mr Fr.kp br .nil af (za (zw zC (pv 2) zd (fun _ _=>rfl)) zb)))) (kh (zr gx (zn zk rfl B.len cR (za (zw zC (pv 2) zd (fun _ _=>rfl)) zb)) (ze Gw e rfl mw Fw.kp bw .nil af (za (pv 0) zb)) (ap _))))))) (zh (zq fH)) zI)
   (zh (zq (hH (NX bY) (zz B6 ["row","told"] [none,some 2] (zO (pv 0)) (fun N C s₀ H₀ ex=>zm (i:=0) (bC ["row","told"]) rfl (Or.inl rfl)) (fun N C s₀ H₀ ex=>zB) (fun N C s₀ H₀ ex=>ze Gs e rfl ms Fs.kp bs .nil af (za (pv 0) (za (zw zC (pv 1) zd (fun _ _=>rfl)) zb))) (te:=eX iJ [] E0 (zZ (ar 0) (zZ (cy (l8 K) (ar 1) (tC (.int 1))) bD))) (hfr:=a9 (zf B4) δ)) (pv 1) (ap _)))))),?_⟩
  rcases rg with ⟨W,ws,n,a,d,ns⟩|⟨W,ws,a,d,lw,eg,mo⟩
  ·refine⟨_,rfl,T,_,rfl,a,_,rfl,aI ⟨_,rfl,T,_,rfl,.inr (SqT.of a),_,_,rfl,rfl,_,rfl,aI ?_⟩⟩
   refine⟨_,rfl,T,_,_,_,rfl,rfl,SqT.of a,zi (j:=0) rfl,rfl,_,rfl,?_⟩;rw[decide_eq_true rfl];refine aR ⟨_,rfl,T,_,rfl,.inr (SqT.of a),rfl,_,rfl,aR ⟨_,rfl,_,rfl,_,rfl,L,G,T,W,rs,tb,g,ws,n,"no",rfl,l,q,it,st,S,lg,sg,a,d,ns,k⟩⟩
  ·refine⟨_,rfl,T,_,rfl,a,_,rfl,aI ⟨_,rfl,T,_,rfl,.inr (SqT.of a),_,_,rfl,rfl,_,rfl,aI ?_⟩⟩
   refine⟨_,rfl,T,_,_,_,rfl,rfl,SqT.of a,zi (j:=0) rfl,rfl,_,rfl,?_⟩;rw[show decide (V.str "yes"=V.str "no")=false from δ];refine aI ⟨_,rfl,T,_,_,_,rfl,rfl,SqT.of a,zi (j:=0) rfl,rfl,_,rfl,?_⟩;rw[decide_eq_true rfl];refine aI ⟨_,rfl,T,_,rfl,.inr (SqT.of a),rfl,_,rfl,aI ⟨_,rfl,T,_,_,_,rfl,rfl,SqT.of a,zi (j:=1) rfl,W,ws,rfl,d,ω,fun H1 c=>⟨_,rfl,aI ?_⟩⟩⟩;refine⟨_,rfl,T,_,_,_,rfl,rfl,SqT.of (c _ _ a),zi (j:=1) rfl,W,_,rfl,.inl (SqL.of (c _ _ d)),_,rfl,L,rs,tb,rfl,SqL.of (c _ _ l),q.same c,fun H2 X=>⟨rfl,_,rfl,?_⟩⟩;rw[Aa,lw,decide_eq_true rfl];have b:=c.trans X;refine aI ⟨_,rfl,L,rfl,⟨_,SqL.of (b _ _ l)⟩,fun D Y=>zD (ky (mkV:=V.int) (g:=fun r=>dot r ws) (fun o os H' R O Z hm hR=>?_) (SqL.of (b _ _ l)) (q.same b) ω Y fun H3 s3 p=>?_)⟩
   ·exact⟨_,rfl,_,rfl,T,_,_,_,rfl,rfl,SqT.of ((b.trans O) _ _ a),zi (j:=1) rfl,o,W,os,ws,rfl,Z,(b.trans O) _ _ d,ω,mo os hm,fun H4 s4=>hR H4 s4⟩
   ·have U:=b.trans s3
    refine⟨_,rfl,bO (tb.map fun r=>dot r ws),bO g,j8 (SqL.of p),j8 (SqL.of (U _ _ S)),jN _,jN _,Dc _ _,?_⟩;rw[if_neg ξ,yL,decide_eq_true eg];exact k H3 U
end
abbrev cQ:Stmt:=top 58
abbrev lf:List Str:=["script","box","table","numbers","goal","way","at","handed","told","turn","found"]
def FR{a a':Ξ}{b b':List Int}:SeqAt.noMix (.list [cb a,bO b]) (.list [cb a',bO b'])=true:=by
 have h1:=Jv a a';have h2:=Dc b b';simp only[SeqAt.noMix,SeqAt.noMixAll] at *;simp[h1,h2]
def B7{a:Ξ}{b:List Int}:PySem.Spec.same (.list [cb a,bO b]) (.list [cb a,bO b])=true:=by
 have h1:=FH a a;have h2:=yL b b;rw[decide_eq_true rfl] at h1 h2;show PySem.Spec.sameAll [cb a,bO b] [cb a,bO b]=true;simp only[PySem.Spec.sameAll,h1,h2,Bool.and_self]
def f'{a:Ξ}{b:List Int}:SeqAt.shaped (.list [cb a,bO b])=true:=by
 have h1:=Db a;have h2:Bh (bO b)<=2:=by simp[Bh,PySem.W.ke_depthAll]
 have c:Bh (cb a)<=3:=by rw[cb,Bh];(first|lia|omega)
 have e:Bh (.list [cb a,bO b])<=64:=by
  rw[Bh];simp only[PyData.depthAll];(first|lia|omega)
 unfold SeqAt.shaped;rw[decide_eq_true e,PyData.canLay0];simp only[PyData.canLayAll0,PyData.canLay0,Da,FI,Bool.and_self]
def NoS.sh{tb:Ξ}{g ws:List Int}{n:Int}(h:NoS tb g ws n):kb tb g ws n=true:=by
 have b:=h.n0;have h1:=h.n1;have hc:eJ n=true:=by
  unfold eJ
  by_cases z:n=0
  ·rw[decide_eq_true z];rfl
  ·rw[decide_eq_true (show 1<n from ω),Bool.or_true]
 unfold kb;rw[decide_eq_true h.l,hc,h.g,List.all_eq_true.mpr fun c hx=>?_]
 ·rfl
 ·unfold turn at hx
  obtain⟨j,a,rfl⟩:=List.mem_map.mp hx;exact h.c j (List.mem_range.mp a)
section
variable{P:Program}{w:World}{K:Ag}{mg:Str->Option Value}{base:Heap}
def OZ{H:Hp}{Q:VK}{E:XK}{L G:Addr}{rs:List Addr}{tb:Ξ}{g:List Int}(i:H L=some (.lst (rs.map V.ref)))(l:Rws H rs tb)(it:cH tb=true)(ok:rx tb)(o:H G=some (.lst (g.map V.int)))(a:g.length=tb.length)(d:∀x∈g,x.natAbs<=2 ^ 900)(bt:∀r∈tb,Bnd 1000 r)(k:∀H' T W,Same H H'->H T=none->H W=none->(∀ws n,H' T=some (.tup [.str "no",.ref W,.int n])->H' W=some (.lst (ws.map V.int))->NoS tb g ws n->¬Solv tb g->Q (.ref T) H')/\(∀ws,H' T=some (.tup [.str "yes",.ref W])->H' W=some (.lst (ws.map V.int))->ws.length=wid tb->tb.map (fun r=>dot r ws)=g->(∀r∈tb,MulOk r ws)->Q (.ref T) H')):FP [.ref L,.ref G] H Q E:=by
 obtain⟨N,n,m,ok⟩:=ok;obtain⟨e,f,h⟩:=h_ it;refine⟨L,G,rs,tb,g,N,n,m,rfl,i,l,it,ok,o,a,d,fun u ub v vb st pp H' r c s hr hc=>⟨fun j b e1 e2 e3=>?_,fun e1 e2 e3=>?_⟩⟩
 ·obtain⟨a1,a2,a3,a4,a5⟩:=pp.noS a b e3
  exact(k H' r c s hr hc).1 _ _ e1 e2 ⟨a1,a2,a3,a4,a5,fun x hx=>j0 (pp.su _ (zG b) x hx)⟩ (pp.no a b e3)
 ·obtain⟨a1,a2⟩:=pp.yesS h a e3
  exact(k H' r c s hr hc).2 _ e1 e2 a1 a2 fun r hr x hx y hy=>pp.solB f e a d (by have:=bt r hr x hx;(first|lia|omega)) hy
def O0{H:Hp}{W q:Addr}{ws:List Int}{Z:VK}(a:H W=some (.lst (ws.map V.int)))(hq:H q=none)(k:Z (.bl (!decide (ws=[]))) (upd H q (.lst []))):gP true K (.ref W) (.ref q) (upd H q (.lst [])) Z:=by
 refine⟨bO ws,bO [],j8 (SqL.of (by rw[al (zl a hq)];exact a)),j8 (SqL.of ac),jN _,jN _,Dc _ _,?_⟩;rw[if_pos rfl,yL];exact k
def O1{H:Hp}{a b:Addr}{st c:List Int}{Z:VK}(d:H a=some (.lst (st.map V.int)))(hb:H b=some (.lst (c.map V.int)))(e:st=c)(k:Z (.bl false) H):gP true K (.ref a) (.ref b) H Z:=by
 subst e;refine⟨bO st,bO st,j8 (SqL.of d),j8 (SqL.of hb),jN _,jN _,Dc _ _,?_⟩;rw[if_pos rfl,yL,decide_eq_true rfl];exact k
structure Han(H:Hp)(L G Hd Ht Hg:Addr)(rs hs:List Addr)(tb:Ξ)(g:List Int):Prop where
 hL:H L=some (.lst (rs.map V.ref))
 hT:Rws H rs tb
 hG:H G=some (.lst (g.map V.int))
 hd:H Hd=some (.lst [.ref Ht,.ref Hg])
 ht:H Ht=some (.lst (hs.map V.ref))
 hr:Rws H hs tb
 hg:H Hg=some (.lst (g.map V.int))
def Han.same{H H':Hp}{L G b c d:Addr}{rs a:List Addr}{tb:Ξ}{g:List Int}(h:Han H L G b c d rs a tb g)(s:Same H H'):Han H' L G b c d rs a tb g:=⟨s _ _ h.hL,h.hT.same s,s _ _ h.hG,s _ _ h.hd,s _ _ h.ht,h.hr.same s,s _ _ h.hg⟩
def Han.eq{H:Hp}{L G a c d q:Addr}{rs b:List Addr}{tb:Ξ}{g:List Int}{Z:VK}(h:Han H L G a c d rs b tb g)(hq:H q=none)(k:Z (.bl false) (upd H q (.lst [.ref L,.ref G]))):gP true K (.ref a) (.ref q) (upd H q (.lst [.ref L,.ref G])) Z:=by
 have h2:=h.same (Same.new (o:=.lst [.ref L,.ref G]) hq);refine⟨.list [cb tb,bO g],.list [cb tb,bO g],.lst (SqL.of h2.hd) (.cons (qR (SqL.of h2.ht) h2.hr) (.cons (j8 (SqL.of h2.hg)) .nil)),.lst (SqL.of ac) (.cons (qR (SqL.of h2.hL) h2.hT) (.cons (j8 (SqL.of h2.hG)) .nil)),f',f',FR,?_⟩;rw[if_pos rfl,B7];exact k
def Dx(K:Ag):Sp:=fun vs H Q _=>∃(a:Addr)(ns:List Int),vs=[.ref a]/\SqL K H a (ns.map V.int)/\ns.length<=63/\∀H',Q (.bl true) H'
def gU:zo lf ["script"] (zf cQ):=⟨rfl,rfl,rfl,δ,rfl,δ,δ⟩
abbrev JU:TE:=eX iJ [] E0 (zZ (ar 0) (zZ (ar 1) bD))
def SqL.far{K:Ag}{H H':Hp}{a p:Addr}{xs:List V}{o:HO}(h:L2.SqL K H a xs)(hp:H p=none)(s:zab p (L2.upd H p o) H'):L2.SqL K H' a xs:=by
 rcases h with (h|⟨u,h⟩)|h
 ·exact .inl (.inl (s _ _ (zl h hp) ((Same.new hp) _ _ h)))
 ·exact .inl (.inr ⟨u,s _ _ (zl h hp) ((Same.new hp) _ _ h)⟩)
 ·exact .inr h
def O2{f fc fb ft jR kj jY fw lE ko mJ fs mZ mQ:Addr}{fd aU eR aM fS ge fK aC fg fX eZ ax fY eW:FuncData}(F:Fun K "law" "law" cQ f fd)(B:iV mg)(Fc:Fun K "_law_cell_at" "_law_cell_at" Dh fc aU)(bc:Binds K aU ["script","k"] [])(mc:mg "_law_cell_at"=some (.ref fc))(Fb:Fun K "_law_box" "_law_box" j9 fb eR)(bb:Binds K eR ["cell"] [])(mb:mg "_law_box"=some (.ref fb))(Ft:Fun K "_law_take" "_law_take" nA ft aM)(bt:Binds K aM ["box","most"] [])(mt:mg "_law_take"=some (.ref ft))(Frw:Fun K "_law_row" "_law_row" gT jR fS)(nk:Binds K fS ["box","columns","wide"] [])(oB:mg "_law_row"=some (.ref jR))(nV:ah P w K mg base au 2 jR fS ["box","columns","wide"] Dl)(Ftb:Fun K "_law_table" "_law_table" j' kj ge)(sx:Binds K ge ["box","most"] [])(wo:mg "_law_table"=some (.ref kj))(j_:ah P w K mg base au 3 kj ge ["box","most"] JE)(Fwt:Fun K "_law_wide_table" "_law_wide_table" yX jY fK)(qM:Binds K fK ["box","least","more"] [])(r_:mg "_law_wide_table"=some (.ref jY))(l':ah P w K mg base au 2 jY fK ["box","least","more"] JH)(Fw:Fun K "_law_wide" "_law_wide" ri fw aC)(bw:Binds K aC ["table"] [])(mw:mg "_law_wide"=some (.ref fw))(Gw:ah P w K mg base au 1 fw aC ["table"] (Dm K))(Fsm:Fun K "_law_sum" "_law_sum" rA lE fg)(o7:Binds K fg ["one","other"] [])(p7:mg "_law_sum"=some (.ref lE))(oP:ah P w K mg base au 1 lE fg ["one","other"] iJ)(Fbr:Fun K "brought" "brought" Dv ko fX)(sW:Binds K fX ["table","numbers"] [])(xR:mg "brought"=some (.ref ko))(kE:ah P w K mg base au 4 ko fX ["table","numbers"] (JQ K))(Frl:Fun K "_law_row_like" "_law_row_like" ro mJ eZ)(rz:Binds K eZ ["found"] [])(vZ:mg "_law_row_like"=some (.ref mJ))(iq:ah P w K mg base au 2 mJ eZ ["found"] Dp)(Fs:Fun K "solved" "solved" Ds fs ax)(bs:Binds K ax ["table","goal"] [])(ms:mg "solved"=some (.ref fs))(Gs:ah P w K mg base au 7 fs ax ["table","goal"] FP)(Fri:Fun K "_law_right" "_law_right" B4 mZ fY)(r9:Binds K fY ["table","goal","told"] [])(wA:mg "_law_right"=some (.ref mZ))(vS:ah P w K mg base au 4 mZ fY ["table","goal","told"] JT)(Fsh:Fun K "shows_none" "shows_none" BO mQ eW)(uq:Binds K eW ["table","goal","weights","number"] [])(sA:mg "shows_none"=some (.ref mQ))(lM:ah P w K mg base au 5 mQ eW ["table","goal","weights","number"] (JO K)):ah P w K mg base au 8 f fd ["script"] (Dx K):=by
 have Gc:ah P w K mg base au 1 fc aU ["script","k"] (JA K):=N8 Fc B;have Gb:ah P w K mg base au 1 fb eR ["cell"] JB:=N_ Fb;have Gt:ah P w K mg base au 1 ft aM ["box","most"] qY:=Di Ft;refine F.ok gU (fun vs H Q E h=>?_) (fun ai A outer s H vs Q E hr h=>?_)
 ·obtain⟨a,ns,rfl,_⟩:=h;rfl
 ·obtain⟨a,ns,rfl,hs,hn,k⟩:=h
  have bY:=hr.units;have I:Room 1 _:=hr.mono ξ;have hr2:Room 2 _:=hr.mono ξ;have hr3:Room 3 _:=hr.mono ξ;have hr4:Room 4 _:=hr.mono ξ;have kQ:Room 5 _:=hr.mono ξ;have u_:∃Y,PSs (dq au P w K mg base lf "law" (zf cQ) f ai A outer s H E).nox (List.drop 11 (zax cQ)) Y/\∀(p L N G U Ht Hg:Addr)(rs am:List Addr)(tb:Ξ)(g:List Int)(u:Int)(v6 v8:Option V)(H':Hp),
    Han H' L G U Ht Hg rs am tb g->cH tb=true->rx tb->(∀r∈tb,Bnd 1000 r)->iU tb->g.length=tb.length->(∀x∈g,x.natAbs<=2 ^ 20)->(u=0->Solv tb g)->
    Y {nx:=fun _ H'=>Q .non H',rt:=Q} [some (.ref a),some (.ref p),some (.ref L),some (.ref N),some (.ref G),some (.int u),v6,some (.ref U),v8,none,none] H':=by
   refine⟨_,zc (iw Bb rfl (jc rfl B.range (za zd zb)) (zm (i:=9) gU.nd rfl (Or.inl rfl))
    (zc (zp (i:=10) gU.nd rfl (Or.inl rfl) (ze Gs hr rfl ms Fs.kp bs .nil af (za (zw zx (pv 7) zd (fun _ _=>rfl)) (za (zw zx (pv 7) zd (fun _ _=>rfl)) zb))))
    (zc (cv (PW.pt (gb (gX (fT (ze vS hr4 rfl wA Fri.kp r9 .nil af (za (pv 2) (za (pv 4) (za (pv 10) zb)))))) (kh (zr (C' bY) (pv 7) (hV (za (pv 2) (za (pv 4) zb))) (ap _))))) (zh (zq fH)) zI)
    (zc (cv (PW.pt (nX (zr dO (pv 5) zd (ap _)) (nW (zr gx (zw zC (pv 10) zd (fun _ _=>rfl)) nH (ap _))))) (zh (zq fH)) zI)
    (zc (cv (PW.pt (nX (zr dO (zw zC (pv 10) zd (fun _ _=>rfl)) nH (ap _)) (nW (zr Ma (ze lM kQ rfl sA Fsh.kp uq .nil af (za (zw zx (pv 7) zd (fun _ _=>rfl)) (za (zw zx (pv 7) zd (fun _ _=>rfl)) (za (jg zU rfl B.list rq (za (zw zC (pv 10) zd (fun _ _=>rfl)) zb)) (za (zw zC (pv 10) zd (fun _ _=>rfl)) zb))))) fH (ap _))))) (zh (zq fH)) zI)
    (zh (lA (GH PySem.F.plainAttrs_list PySem.F.slot_list_append PySem.F.type_list_append DY (zw zC (pv 10) zd (fun _ _=>rfl)) (za zd zb)))))))))
    (zh (zq fH)),?_⟩
   intro p L N G U Ht Hg rs am tb g u v6 v8 H0 gJ it to X M lg sg hw;obtain⟨t1,t2,t3⟩:=h_ it;have p6:∀x∈g,x.natAbs<=2 ^ 900:=fun x hx=>Ae (sg x hx) (AC ξ ξ);have jQ:∀x∈g,x.natAbs<big:=fun x hx=>j0 (qu (p6 x hx) ξ);refine⟨_,rfl,ξ,ξ,DK (lo:=0) (n:=2) (fun i σ H2=>∃(v9 nh:Option V),σ=[some (.ref a),some (.ref p),some (.ref L),some (.ref N),some (.ref G),some (.int u),v6,some (.ref U),v8,v9,nh]/\Same H0 H2) ⟨none,none,rfl,Same.refl _⟩ ?_ ?_⟩
   ·rintro i σ H2 hi ⟨v9,nh,rfl,sm⟩
    have h2:=gJ.same sm;refine⟨_,rfl,U,_,_,_,rfl,rfl,SqL.of h2.hd,zi (j:=0) rfl,_,rfl,U,_,_,_,rfl,rfl,SqL.of h2.hd,zi (j:=1) rfl,?_⟩;refine OZ (E:=E0) h2.ht h2.hr it to h2.hg lg p6 X fun H3 T W O hT hW=>⟨fun ws n e1 e2 jp uc=>?_,fun ws e1 e2 lw eg mo=>?_⟩
    ·have Z:=h2.same O
     refine⟨_,rfl,_,rfl,_,rfl,L,G,T,rs,tb,g,rfl,Z.hL,Z.hT,it,M,Z.hG,lg,jQ,.inl ⟨W,ws,n,e1,e2,jp⟩,fun H4 s4=>⟨_,rfl,aI ?_⟩⟩;have h4:=Z.same s4;refine⟨_,rfl,_,rfl,_,rfl,zA (by simp),fun q hq=>h4.eq hq ⟨_,rfl,aI ?_⟩⟩;have s5:=Same.new (o:=.lst [.ref L,.ref G]) hq;generalize upd H4 q (.lst [.ref L,.ref G])=H5 at s5 ⊢;have dU:=s4.trans s5;have h5:=Z.same dU;have f1:=dU _ _ e1;have f2:=dU _ _ e2;refine⟨_,rfl,rfl,_,rfl,?_⟩;have hne:¬u=0:=fun z=>uc (hw z);rw[eV,decide_eq_false hne];refine aI (aI ⟨_,rfl,T,_,_,_,rfl,rfl,SqT.of f1,zi (j:=0) rfl,rfl,_,rfl,?_⟩);rw[decide_eq_true rfl];refine aR ⟨_,rfl,U,_,_,_,rfl,rfl,SqL.of h5.hd,zi (j:=0) rfl,_,rfl,U,_,_,_,rfl,rfl,SqL.of h5.hd,zi (j:=1) rfl,_,rfl,T,_,_,_,rfl,rfl,SqT.of f1,zi (j:=1) rfl,W,_,rfl,.inl (SqL.of f2),fun W2 xl=>?_⟩;have s6:=Same.new (o:=.lst (ws.map V.int)) xl;have h6:=h5.same s6;refine⟨_,rfl,T,_,_,_,rfl,rfl,SqT.of (s6 _ _ f1),zi (j:=2) rfl,Ht,Hg,W2,am,tb,g,ws,n,rfl,h6.ht,h6.hr,it,h6.hg,lg,ac,jp.b,jQ,M,fun H7 s7=>⟨_,_,rfl,rfl,_,rfl,?_⟩⟩;rw[jp.sh];have i5:=s6.trans s7;have fA:=dU.trans i5;refine aI ⟨_,rfl,T,_,_,_,rfl,rfl,SqT.of (i5 _ _ f1),zi (j:=1) rfl,.inl ⟨rfl,_,SqL.of (i5 _ _ f2)⟩,W,_,_,rfl,rfl,i5 _ _ f2,by rw[sizeLine_eq,Aa,jp.l];(first|lia|omega),?_⟩;exact⟨_,_,rfl,(sm.trans (O.trans fA)).then (sm.free hW)⟩
    ·have Z:=h2.same O
     refine⟨_,rfl,_,rfl,_,rfl,L,G,T,rs,tb,g,rfl,Z.hL,Z.hT,it,M,Z.hG,lg,jQ,.inr ⟨W,ws,e1,e2,lw,eg,mo⟩,fun H4 s4=>⟨_,rfl,aI ?_⟩⟩;have h4:=Z.same s4;refine⟨_,rfl,_,rfl,_,rfl,zA (by simp),fun q hq=>h4.eq hq ⟨_,rfl,aI ?_⟩⟩;have s5:=Same.new (o:=.lst [.ref L,.ref G]) hq;generalize upd H4 q (.lst [.ref L,.ref G])=H5 at s5 ⊢;have dU:=s4.trans s5;have f1:=dU _ _ e1;have f2:=dU _ _ e2;refine⟨_,rfl,rfl,_,rfl,?_⟩;rw[eV]
     by_cases c:u=0
     ·rw[decide_eq_true c]
      refine aR ⟨_,rfl,T,_,_,_,rfl,rfl,SqT.of f1,zi (j:=0) rfl,rfl,_,rfl,?_⟩;rw[decide_eq_true rfl];refine aI ?_;refine⟨_,rfl,T,_,_,_,rfl,rfl,SqT.of f1,zi (j:=0) rfl,rfl,_,rfl,?_⟩;rw[show decide (V.str "yes"=V.str "no")=false from δ];refine aI (aI ⟨_,rfl,T,_,_,_,rfl,rfl,SqT.of f1,zi (j:=1) rfl,.inl ⟨rfl,_,SqL.of f2⟩,W,_,_,rfl,rfl,f2,by rw[sizeLine_eq,Aa,lw];(first|lia|omega),?_⟩);exact⟨_,_,rfl,(sm.trans (O.trans dU)).then (sm.free hW)⟩
     ·rw[decide_eq_false c]
      refine aI (aI ?_);refine⟨_,rfl,T,_,_,_,rfl,rfl,SqT.of f1,zi (j:=0) rfl,rfl,_,rfl,?_⟩;rw[show decide (V.str "yes"=V.str "no")=false from δ];refine aI (aI ⟨_,rfl,T,_,_,_,rfl,rfl,SqT.of f1,zi (j:=1) rfl,.inl ⟨rfl,_,SqL.of f2⟩,W,_,_,rfl,rfl,f2,by rw[sizeLine_eq,Aa,lw];(first|lia|omega),?_⟩);exact⟨_,_,rfl,(sm.trans (O.trans dU)).then (sm.free hW)⟩
   ·rintro σ H2 ⟨v9,nh,rfl,sm⟩
    exact k _
  obtain⟨vg,ie,kX⟩:=u_;have T8:∃Y,PSs (dq au P w K mg base lf "law" (zf cQ) f ai A outer s H E).nox (List.drop 8 (zax cQ)) Y/\∀(p L N G:Addr)(rs:List Addr)(tb:Ξ)(y g:List Int)(u:Int)(v6:Option V)(H':Hp),
    Sta H' p L N G rs tb y g->cH tb=true->rx tb->(∀r∈tb,Bnd 1000 r)->iU tb->y.length=wid tb->(∀x∈y,x.natAbs<=11)->g.length=tb.length->(∀x∈g,x.natAbs<=2 ^ 20)->(u=0->Solv tb g)->
    Y {nx:=fun _ H'=>Q .non H',rt:=Q} [some (.ref a),some (.ref p),some (.ref L),some (.ref N),some (.ref G),some (.int u),v6,none,none,none,none] H':=by
   refine⟨_,zc (zp (i:=7) gU.nd rfl (Or.inl rfl) (hV (za (zz lf ["row"] [none] (zO (pv 2)) (fun cl C s₀ H₀ ex=>zm (i:=0) (bC ["row"]) rfl (Or.inl rfl)) (fun cl C s₀ H₀ ex=>zB) (fun cl C s₀ H₀ ex=>jg zU rfl B.list rq (za (pv 0) zb)) (te:=JI K) (hfr:=cz δ)) (za (jg zU rfl B.list rq (za (pv 4) zb)) zb))))
    (zc (zp (i:=8) gU.nd rfl (Or.inl rfl) (ze kE hr4 rfl xR Fbr.kp sW .nil af (za (zw zx (pv 7) zd (fun _ _=>rfl)) (za (jg zU rfl B.list rq (za (pv 3) zb)) zb))))
    (zc (cv (PW.pt (gb (gX (fT (ze iq hr2 rfl vZ Frl.kp rz .nil af (za (pv 8) zb)))) (kh (zr (C' bY) (pv 8) (zz lf ["row","numbers"] [none,some 3] (zO (pv 2)) (fun cl C s₀ H₀ ex=>zm (i:=0) (bC ["row","numbers"]) rfl (Or.inl rfl)) (fun cl C s₀ H₀ ex=>zB) (fun cl C s₀ H₀ ex=>ze oP I rfl p7 Fsm.kp o7 .nil af (za (pv 0) (za (pv 1) zb))) (te:=JU) (hfr:=a9 (zf cQ) δ)) (ap _))))) (zh (zq fH)) zI) ie)),?_⟩
   intro p L N G rs tb y g u v6 H0 S it to X M ly sy lg sg hw;obtain⟨t1,t2,t3⟩:=h_ it;have syb:∀x∈y,x.natAbs<big:=fun x hx=>j0 (qu (b:=4) (Ae (sy x hx) ξ) ξ);refine⟨_,rfl,L,rfl,⟨_,SqL.of S.hL⟩,fun Ht q_=>zD (Ou (SqL.of S.hL) S.hT ω q_ fun H1 es s1 kr ya _ _=>?_)⟩;refine⟨_,rfl,G,_,rfl,.inl (SqL.of (s1 _ _ S.hW)),fun Hg sY=>⟨zA (by simp),fun U vJ=>?_⟩⟩;have s2:=Same.new (o:=.lst (g.map V.int)) sY;have O:=Same.new (o:=.lst [.ref Ht,.ref Hg]) vJ;have mU:=s2.trans O;have bG:=s1.trans mU;have gJ:Han _ L G U Ht Hg rs es tb g:=⟨bG _ _ S.hL,S.hT.same bG,bG _ _ S.hW,ac,mU _ _ kr,ya.same mU,O _ _ ac⟩;have lI:=bG _ _ S.hG;generalize upd (upd H1 Hg (.lst (g.map V.int))) U (.lst [.ref Ht,.ref Hg])=H3 at bG gJ lI ⊢;refine⟨_,rfl,U,_,_,_,rfl,rfl,SqL.of gJ.hd,zi (j:=0) rfl,_,rfl,N,_,rfl,.inl (SqL.of lI),fun N2 gR=>?_⟩;have s4:=Same.new (o:=.lst (y.map V.int)) gR;have h4:=gJ.same s4;refine⟨Ht,N2,es,tb,y,rfl,h4.ht,h4.hr,it,ac,ly,M,syb,fun D H5 s5 hD dG=>?_⟩;have h5:=h4.same s5;have xH:=s5 _ _ (s4 _ _ lI);have li:(kc tb y).length<=1000:=by unfold kc;rw[Aa];(first|lia|omega)
   refine⟨_,rfl,D,kc tb y,rfl,dG,li,fun H6 s6=>⟨_,rfl,aI ?_⟩⟩;have h6:=h5.same s6;refine⟨_,rfl,_,rfl,L,rfl,⟨_,SqL.of h6.hL⟩,fun D2 dC=>zD (ky (mkV:=V.int) (g:=fun r=>dot r y) (fun o os H' R fE ho hm hR=>?_) (SqL.of h6.hL) h6.hT ω dC fun H7 s7 mP=>?_)⟩
   ·exact⟨_,rfl,_,rfl,o,N,os,y,rfl,ho,(s6.trans fE) _ _ xH,ω,fun x hx z hz=>gH (M os hm x hx) (syb z hz),fun H8 s8=>hR H8 s8⟩
   ·refine O1 ((s6.trans s7) _ _ dG) mP (AW fun r _=>eL _ _) ⟨_,rfl,aI ?_⟩
    exact kX p L N G U Ht Hg rs es tb g u v6 _ H7 (h6.same s7) it to X M lg sg hw
  obtain⟨yp,jH,lW⟩:=T8;have T7:∃Y,PSs (dq au P w K mg base lf "law" (zf cQ) f ai A outer s H E).nox (List.drop 7 (zax cQ)) Y/\∀(p L N G:Addr)(rs:List Addr)(tb:Ξ)(y g:List Int)(u:Int)(H':Hp),
    Sta H' p L N G rs tb y g->cH tb=true->rx tb->(∀r∈tb,Bnd 1000 r)->iU tb->y.length=wid tb->(∀x∈y,x.natAbs<=11)->g.length=tb.length->(∀x∈g,x.natAbs<=2 ^ 19)->(u=0->Solv tb g)->
    Y {nx:=fun _ H'=>Q .non H',rt:=Q} [some (.ref a),some (.ref p),some (.ref L),some (.ref N),some (.ref G),some (.int u),none,none,none,none,none] H':=by
   refine⟨_,(zc (cv (PW.pt (nX (zr iZ (pv 5) zd (ap _)) (nW (zr (C' bY) (pv 4) (hV zb) (ap _)))))
     (zc (zp (i:=6) gU.nd rfl (Or.inl rfl) (ze Gt I rfl mt Ft.kp bt .nil af (za (pv 1) (za (zn zk rfl B.len cR (za (pv 4) zb)) zb))))
     (zh (iv (zF eU (zF eU (zw zx (pv 4) (pv 6) (fun _ _=>rfl)) zd) (ze Gt I rfl mt Ft.kp bt .nil af (za (pv 1) (za zd zb)))) (iX (pv 4) (pv 6) set_list)))) zI) jH),?_⟩
   intro p L N G rs tb y g u H0 S it to X M ly sy lg sg hw;obtain⟨t1,t2,t3⟩:=h_ it;have lD:∀x∈g,x.natAbs<=2 ^ 20:=fun x hx=>Ae (sg x hx) ξ;refine⟨_,rfl,_,_,rfl,rfl,_,rfl,?_⟩
   by_cases c:1<u
   rotate_left
   ·rw[decide_eq_false c]
    exact aI (aI (lW p L N G rs tb y g u _ H0 S it to X M ly sy lg lD hw))
   rw[decide_eq_true c];refine aR ⟨_,rfl,ξ,fun q hq=>O0 S.hW hq ⟨_,rfl,?_⟩⟩;have S1:=S.same (Same.new (o:=.lst []) hq);generalize upd H0 q (.lst [])=H1 at S1 ⊢
   by_cases e:g=[]
   ·rw[decide_eq_true e]
    exact aI (lW p L N G rs tb y g u _ H1 S1 it to X M ly sy lg lD hw)
   rw[decide_eq_false e];have gp:=List.length_pos_iff.mpr e;refine aR ⟨_,rfl,_,rfl,G,_,rfl,.inl (SqL.of S1.hW),p,_,rfl,S1.bx,by rw[Aa];(first|lia|omega),by rw[Aa];(first|lia|omega),fun z H2 z0 z1 dN bF=>?_⟩;rw[Aa] at z1;have S2:=S1.draw dN bF;have hz:z.toNat<g.length:=ω
   refine⟨_,rfl,_,rfl,G,_,_,_,rfl,rfl,SqL.of S2.hW,FM (v:=V.int g[z.toNat]) z0 (by rw[Aa];(first|lia|omega)) (by rw[Aj,Ab hz];rfl),_,_,rfl,rfl,?_⟩;refine⟨_,rfl,p,_,rfl,S2.bx,ξ,ξ,fun z3 H3 y0 y1 dW J=>?_⟩;have S3:=S2.draw dW J;refine⟨_,_,rfl,rfl,_,rfl,_,rfl,G,_,z,z.toNat,rfl,rfl,S3.hW,yT z0 (by rw[Aa];(first|lia|omega)),?_⟩;rw[<-List.map_set (f:=V.int)];refine lW p L N G rs tb y _ u _ _ (S3.set _) it to X M ly sy (by rw[List.length_set];exact lg) (fun x hx=>?_) (fun z=>ω);rcases List.mem_or_eq_of_mem_set hx with h|h
   ·exact lD x h
   ·rw[h]
    have:=sg _ (Ap hz);have sH:(2:Nat) ^ 19=524288:=ξ
    have e20:(2:Nat) ^ 20=1048576:=ξ
    (first|lia|omega)
  obtain⟨Bs,jL,oY⟩:=T7;have T3:∃Y,PSs (dq au P w K mg base lf "law" (zf cQ) f ai A outer s H E).nox (List.drop 3 (zax cQ)) Y/\∀(p L:Addr)(rs:List Addr)(tb:Ξ)(H':Hp),
    zT H' p->H' L=some (.lst (rs.map V.ref))->Rws H' rs tb->L≠p->(∀d∈rs,d≠p)->cH tb=true->rx tb->(∀r∈tb,Bnd 1000 r)->iU tb->
    Y {nx:=fun _ H'=>Q .non H',rt:=Q} [some (.ref a),some (.ref p),some (.ref L),none,none,none,none,none,none,none,none] H':=by
   refine⟨_,zc (zp (i:=3) gU.nd rfl (Or.inr rfl) (ze nV hr2 rfl oB Frw.kp nk .nil af (za (pv 1) (za (ze Gw I rfl mw Fw.kp bw .nil af (za (pv 2) zb)) (za zd zb)))))
    (zc (mH (i:=4) gU.nd rfl (Or.inl rfl) lf ["row","numbers"] [none,some 3] (zO (pv 2)) (fun cl C s₀ H₀ ex=>zm (i:=0) (bC ["row","numbers"]) rfl (Or.inl rfl)) (fun cl C s₀ H₀ ex=>zB) (fun cl C s₀ H₀ ex=>ze oP I rfl p7 Fsm.kp o7 .nil af (za (pv 0) (za (pv 1) zb))) (te:=JU) (hfr:=a9 (zf cQ) δ))
    (zc (zp (i:=5) gU.nd rfl (Or.inl rfl) (ze Gt I rfl mt Ft.kp bt .nil af (za (pv 1) (za zd zb))))
    (zc (cv (zr dO (pv 5) zd (ap _)) (zh (zp (i:=4) gU.nd rfl (Or.inl rfl) (ze nV hr2 rfl oB Frw.kp nk .nil af (za (pv 1) (za (zn zk rfl B.len cR (za (pv 2) zb)) (za zd zb)))))) zI) jL))),?_⟩
   intro p L rs tb H0 hb hL hT nL nr it to X M;obtain⟨t1,t2,t3⟩:=h_ it;refine⟨_,rfl,_,rfl,L,rs,tb,rfl,SqL.of hL,hT,fun H1 s1=>⟨p,wid tb,11,rfl,hb.same s1,ω,ξ,ξ,fun N H2 y dN bF hN gR ly uS=>?_⟩⟩;have oU:zab p H0 H2:=(zab.of s1).trans dN;have nN:N≠p:=eH (hb.same s1) hN;have BM:H0 N=none:=s1.free hN;have eO:=oU _ _ nL hL;have ee:=hT.sameB oU nr;have sy:∀x∈y,x.natAbs<=11:=fun x hx=>by have:=uS x hx;(first|lia|omega)
   have syb:∀x∈y,x.natAbs<big:=fun x hx=>j0 (qu (b:=4) (Ae (sy x hx) ξ) ξ);refine⟨_,rfl,L,rfl,⟨_,SqL.of eO⟩,fun G hG=>zD (ky (mkV:=V.int) (g:=fun r=>dot r y) (fun o os H' R fE ho hm hR=>?_) (SqL.of eO) ee ω hG fun H3 O sf=>?_)⟩
   ·exact⟨_,rfl,_,rfl,o,N,os,y,rfl,ho,fE _ _ gR,ω,fun x hx z hz=>gH (M os hm x hx) (syb z hz),fun H8 s8=>hR H8 s8⟩
   have J:=bF.same O;have S3:Sta H3 p L N G rs tb y (tb.map fun r=>dot r y):=⟨J,O _ _ eO,ee.same O,O _ _ gR,sf,zl eO hG,zl gR hG,fun d hd e=>Rws.there ee d hd (by rw[e];exact hG),nL,nN,eH bF hG,nr⟩;have sg:∀x∈tb.map (fun r=>dot r y),x.natAbs<=2 ^ 19:=fun x hx=>by
    obtain⟨r,hr,rfl⟩:=List.mem_map.mp hx;have h1:=De (r:=r) (c:=y) (a:=1000) (b:=11) (fun z hz=>by have:=X r hr z hz;(first|lia|omega)) sy;rw[ly] at h1;have Z:wid tb*(1000*11)<=40*(1000*11):=Ak _ t2;have h4:40*(1000*11)<=2 ^ 19:=ξ
    (first|lia|omega)
   refine⟨_,rfl,p,_,rfl,J,ξ,ξ,fun u H4 w0 w1 cm ce=>?_⟩;have S4:=S3.draw cm ce;have sv:Solv tb (tb.map fun r=>dot r y):=by
    have:=OQ t3 ly;have e:kc tb y=tb.map fun r=>dot r y:=AW fun r _=>eL _ _
    rwa [e] at this
   have lgm:(tb.map fun r=>dot r y).length=tb.length:=Aa ..;refine⟨_,rfl,rfl,_,rfl,?_⟩;rw[eV]
   by_cases c:u=1
   ·rw[decide_eq_true c]
    refine aR ⟨_,rfl,_,rfl,L,_,rfl,.inl (SqL.of S4.hL),?_⟩;rw[Aa,hT.len];refine⟨p,tb.length,21,rfl,ce,ω,ξ,ξ,fun G2 H5 g2 gO gh xN mn wW uB=>?_⟩;refine oY p L N G2 rs tb y g2 u H5 (S4.other gO gh xN mn) it to X M ly sy wW (fun x hx=>?_) (fun z=>ω);have:=uB x hx;have sH:(2:Nat) ^ 19=524288:=ξ
    (first|lia|omega)
   ·rw[decide_eq_false c]
    exact aI (oY p L N G rs tb y _ u H4 S4 it to X M ly sy lgm sg fun _=>sv)
  obtain⟨BV,mD,oV⟩:=T3;refine⟨_,zc (zp (i:=1) gU.nd rfl (Or.inl rfl) (ze Gb I rfl mb Fb.kp bb .nil af (za (ze Gc I rfl mc Fc.kp bc .nil af (za (pv 0) (za zd zb))) zb)))
   (zc (zp (i:=2) gU.nd rfl (Or.inl rfl) (ze j_ hr3 rfl wo Ftb.kp sx .nil af (za (pv 1) (za (zw zx (hV (za zd (za zd (za zd (za zd (za zd (za zd (za zd (za zd zb))))))))) (ze Gt I rfl mt Ft.kp bt .nil af (za (pv 1) (za zd zb))) (fun _ _=>rfl)) zb))))
   (zc (cv (zr dO (ze Gt I rfl mt Ft.kp bt .nil af (za (pv 1) (za zd zb))) zd (ap _)) (zh (zp (i:=2) gU.nd rfl (Or.inl rfl) (ze l' hr2 rfl r_ Fwt.kp qM .nil af (za (pv 1) (za zd (za zd zb)))))) zI) mD)),?_⟩
  refine⟨_,rfl,a,ns,0,rfl,hs,fun n1=>⟨n1,rfl,fun p x y hp wY=>?_⟩⟩;have dQ:zT (upd H p (.lst [.int x,.int y])) p:=⟨x,y,ac,wY⟩;refine⟨_,rfl,zA (by simp),fun q hq=>⟨_,rfl,p,_,rfl,dQ.new hq,ξ,ξ,fun z H1 z0 z1 f_ bF=>?_⟩⟩;obtain⟨g,eg,g6⟩:∃g:Nat,atI [V.int 4,.int 4,.int 4,.int 4,.int 4,.int 4,.int 4,.int 6] z=some (.int g)/\g<=6:=by
   have:z=0\/z=1\/z=2\/z=3\/z=4\/z=5\/z=6\/z=7:=ω
   rcases this with rfl|rfl|rfl|rfl|rfl|rfl|rfl|rfl
   all_goals first|exact⟨4,rfl,ξ⟩|exact⟨6,rfl,ξ⟩
  have hpq:q≠p:=eH dQ hq;refine⟨q,_,_,_,rfl,rfl,SqL.of (f_ _ _ hpq ac),eg,p,g,rfl,g6,bF,fun L H2 c n hc dM T1=>?_⟩;refine⟨_,rfl,p,_,rfl,T1.choose_spec.choose_spec.2.1,ξ,ξ,fun z2 H3 _ _ dW J=>⟨rfl,_,rfl,e_ (fun _=>?_) (fun _=>?_)⟩⟩
  ·refine⟨_,rfl,p,rfl,J,fun L2 H4 c2 n2 uj ij T2=>?_⟩
   obtain⟨ds,tb,cm,ce,hF,cF,hl,iE,l_,h0⟩:=T2;obtain⟨i1,i2,i3⟩:=JJ nE iE ω ω ξ;exact oV p L2 ds tb H4 ce hF cF (eH J h0) (fun d hd=>eH J (l_ d hd).1) i1 i2 (fun r hr=>(iE r hr).2.mono ξ) i3.low.big
  ·obtain⟨ds,tb,cm,ce,hF,cF,hl,iE,l_,h0⟩:=T1
   obtain⟨i1,i2,i3⟩:=JJ y' iE ω ω ξ;have nL:=eH bF h0;have nr:=fun d hd=>eH bF (l_ d hd).1;exact oV p L ds tb H3 J (dW _ _ nL hF) (cF.sameB dW nr) nL nr i1 i2 (fun r hr=>(iE r hr).2) i3.low.big
end
end K24
end
section
namespace L2
open PySem PySem.Spec PyProof.Rows
section
variable{P:Program}{w:World}{K:Ag}{mg:Str->Option Value}{base:Heap}{CX:gz}{k:Nat}{f:Addr}{fd:FuncData}{x:Str}{st:Stmt}{ps:List Str}{sp sq:Sp}
structure Df(K:Ag)(x:Str)(st:Stmt)(f:Addr):Prop where
 ex:∃fd,Fun K x x st f fd
 a:PySem.W.nsIn K mainGlobals x=some (some (.ref f))
def FT{i:Value}{j g:Option Addr}{h:Array (Option Value)}{kV d e b ct:Value}(a:PySem.W.nsIn K mainGlobals x=some (some (.ref f)))(l:K.lookup f=some ⟨i,j,.func (PySem.W.fnOf x x (zb6 st) (zax st) (zf st) .none kV d e g b ct),h⟩)(c:PySem.W.codeIn K b x=true)(k:PySem.W.keepIn K (.ref f)=true):Df K x st f:=⟨⟨_,K7 l c k⟩,a⟩
structure Nn(K:Ag)(x:Str)(v:Option Value):Prop where
 e:PySem.W.nsIn K mainGlobals x=some v
abbrev BA(x:Str)(st:Stmt)(us:List Value)(r:List (Str×Value)):Prop:=∀(kV aW pm:Value)(an:Option Addr)(ai ct:Value),bindArgs (PySem.W.fnOf x x (zb6 st) (zax st) (zf st) .none kV aW pm an ai ct) ⟨us,[]⟩=pure r
variable{h:Heap}(X:K.In h)(G:h.Ns mainGlobals mg)
include X G
theorem Nn.m{v:Value}(n:Nn K x (some v)):mg x=some v:=PySem.W.mg_of X G n.e
theorem Nn.n(n:Nn K x none):mg x=none:=PySem.W.mg_none_of X G n.e
theorem Df.m(D:Df K x st f):mg x=some (.ref f):=PySem.W.mg_of X G D.a
theorem Df.g1(D:Df K x st f)(p:Str)(hb:∀a,BA x st [a] [(p,a)]:=by exact fun _ _ _ _ _ _ _=>rfl):∃fd,Fun K x x st f fd/\Binds K fd [p] []/\mg x=some (.ref f):=by
 obtain⟨⟨fd,F⟩,a⟩:=D;refine⟨fd,F,F.binds fun _ _ _ _ _ _ us b=>?_,PySem.W.mg_of X G a⟩
 match us,b with
 |[a],_=>exact hb a _ _ _ _ _ _
theorem Df.g2(D:Df K x st f)(p q:Str)(hb:∀a b,BA x st [a,b] [(p,a),(q,b)]:=by exact fun _ _ _ _ _ _ _ _=>rfl):∃fd,Fun K x x st f fd/\Binds K fd [p,q] []/\mg x=some (.ref f):=by
 obtain⟨⟨fd,F⟩,a⟩:=D;refine⟨fd,F,F.binds fun _ _ _ _ _ _ us c=>?_,PySem.W.mg_of X G a⟩
 match us,c with
 |[a,b],_=>exact hb a b _ _ _ _ _ _
theorem Df.g3(D:Df K x st f)(p q r:Str)(hb:∀a b c,BA x st [a,b,c] [(p,a),(q,b),(r,c)]:=by exact fun _ _ _ _ _ _ _ _ _=>rfl):∃fd,Fun K x x st f fd/\Binds K fd [p,q,r] []/\mg x=some (.ref f):=by
 obtain⟨⟨fd,F⟩,a⟩:=D;refine⟨fd,F,F.binds fun _ _ _ _ _ _ us d=>?_,PySem.W.mg_of X G a⟩
 match us,d with
 |[a,b,c],_=>exact hb a b c _ _ _ _ _ _
theorem Df.g4(D:Df K x st f)(p q r s:Str)(hb:∀a b c d,BA x st [a,b,c,d] [(p,a),(q,b),(r,c),(s,d)]:=by exact fun _ _ _ _ _ _ _ _ _ _=>rfl):∃fd,Fun K x x st f fd/\Binds K fd [p,q,r,s] []/\mg x=some (.ref f):=by
 obtain⟨⟨fd,F⟩,a⟩:=D;refine⟨fd,F,F.binds fun _ _ _ _ _ _ us e=>?_,PySem.W.mg_of X G a⟩
 match us,e with
 |[a,b,c,d],_=>exact hb a b c d _ _ _ _ _ _
omit X G
end
end L2
end
section
namespace K24
open PySem L2
def O3{l:PySem.W.OpenLaw}{w:World}{K:Ag}{h:Heap}{mg:Str->Option Value}{fa f1 f2 f3 f4 f5 f6 f7 f8 f9 tL qG uk sK we xZ s_ xQ wD xT rM um qK u8 wy yc sM vy t9 vH rO xg wG uT wH vK wg wm xO re uQ xC rC va vq sF xx uV xq :Addr}{tr tc:Tok}(X:K.In h)(G:h.Ns mainGlobals mg)(vX:mg "law"=some (.ref fa))(d1:Df K "is_table" vp f1)(d2:Df K "width_of" kn f2)(d3:Df K "must_be_table" vr f3)(d4:Df K "row_by" oQ f4)(d5:Df K "sum_by" vu f5)(d6:Df K "columns_of" oT f6)(d7:Df K "columns_to" oW f7)(d8:Df K "column_of" iz f8)(d9:Df K "are_steps" CU f9)(fP:Df K "on_slope" xn tL)(rX:Df K "slope_row" w_ qG)(qZ:Df K "paper_of" C_ uk)(q9:Df K "is_in_steps" CW sK)(qH:Df K "unit" CT we)(rK:Df K "is_on_slope" xF xZ)(rf:Df K "slope_of" xI s_)(wj:Df K "straightened" ez xQ)(uH:Df K "echelon_of" jK wD)(xf:Df K "take_in" CS xT)(rE:Df K "reduced" js rM)(yi:Df K "less" kL um)(tI:Df K "first_place" CB qK)(uI:Df K "divisor_pair" vR u8)(uX:Df K "mix_of_two" vC wy)(uM:Df K "mix_of" jM yc)(vd:Df K "shares_of" jy sM)(vk:Df K "slid" CV vy)(rP:Df K "solved" Ds t9)(qX:Df K "must_have_goal" Bo vH)(wx:Df K "solved_by" Dr rO)(rm:Df K "is_so_many_times" A' xg)(qB:Df K "shows_none" BO wG)(vt:Df K "can_show" ka uT)(wk:Df K "brought" Dv wH)(ve:Df K "_law_cell_at" Dh vK)(w9:Df K "_law_box" j9 wg)(tV:Df K "_law_take" nA wm)(rG:Df K "_law_row" gT xO)(tS:Df K "_law_table" j' re)(uy:Df K "_law_wide" ri uQ)(sV:Df K "_law_whole" yV xC)(qT:Df K "_law_row_like" ro rC)(vx:Df K "_law_wide_table" yX va)(qy:Df K "_law_sum" rA vq)(tX:Df K "_law_goes" Dt sF)(rH:Df K "_law_shows" BZ xx)(xh:Df K "_law_right" B4 uV)(qh:Df K "law" cQ xq)(gr:Nn K "MOST_ROWS" (some (.int 40 tr)))(gc:Nn K "MOST_COLUMNS" (some (.int 40 tc)))(z1:Nn K "len" none)(z2:Nn K "all" none)(z3:Nn K "zip" none)(z4:Nn K "sum" none)(z5:Nn K "range" none)(z6:Nn K "list" none)(z7:Nn K "int" none)(z8:Nn K "bool" none)(z9:Nn K "isinstance" none)(uU:Nn K "max" none)(ue:Nn K "sorted" none)(tw:Nn K "tuple" none)(q8:Nn K "enumerate" none)(w4:Nn K "min" none):∃fd:FuncData,(∀(s:Shared)(v:Value),BindsTo s fd ⟨[v],[]⟩ [("script",v)])/\∀base:Heap,K.In base->base.Ns mainGlobals mg->ah l.prog w K mg base au 8 fa fd ["script"] (Dx K):=by
 cases vX.symm.trans (qh.m X G);have B:iV mg:=⟨z1.n X G,z2.n X G,z3.n X G,z4.n X G,z5.n X G,z6.n X G,z7.n X G,z8.n X G,z9.n X G,uU.n X G⟩;obtain⟨g1,F1,b1,m1⟩:=d1.g1 X G "table";obtain⟨g2,b,c,m2⟩:=d2.g1 X G "table";obtain⟨g3,Y,b3,m3⟩:=d3.g1 X G "table";obtain⟨g4,Z,b4,m4⟩:=d4.g2 X G "row" "columns";obtain⟨g5,F5,b5,m5⟩:=d5.g2 X G "row" "column";obtain⟨g6,u,x,y⟩:=d6.g1 X G "table";obtain⟨g7,F7,b7,m7⟩:=d7.g2 X G "table" "width";obtain⟨g8,F8,b8,m8⟩:=d8.g2 X G "table" "k";obtain⟨g9,F9,b9,m9⟩:=d9.g2 X G "steps" "most";obtain⟨yr,qa,u7,qU⟩:=fP.g3 X G "numbers" "size" "width";obtain⟨BS,z,nB,oH⟩:=rX.g3 X G "numbers" "k" "width";obtain⟨yy,qb,wM,wp⟩:=qZ.g2 X G "table" "width";obtain⟨BF,pI,vM,wq⟩:=q9.g1 X G "table";obtain⟨BX,nY,u9,ug⟩:=qH.g1 X G "size";obtain⟨BR,A,o8,oy⟩:=rK.g1 X G "table";obtain⟨A_,C,qj,oo⟩:=rf.g1 X G "table";obtain⟨yv,qk,tY,uG⟩:=wj.g2 X G "side" "width";obtain⟨BB,pN,qO,tM⟩:=uH.g1 X G "rows";obtain⟨BG,nZ,tO,xJ⟩:=xf.g2 X G "found" "row";obtain⟨Bw,pc,qD,rh⟩:=rE.g3 X G "row" "found" "places";obtain⟨yY,d,e,f⟩:=yi.g3 X G "row" "often" "other";obtain⟨BE,pH,sn,uN⟩:=tI.g1 X G "row";obtain⟨Br,pE,sJ,vG⟩:=uI.g2 X G "one" "other";obtain⟨yl,pY,rJ,qP⟩:=uX.g4 X G "often" "row" "other_often" "other";obtain⟨yz,nC,ul,tE⟩:=uM.g2 X G "numbers" "rows";obtain⟨yG,pM,wc,tG⟩:=vd.g2 X G "row" "found";obtain⟨BK,pQ,vY,uZ⟩:=vk.g2 X G "side" "count";obtain⟨yE,pX,tJ,qv⟩:=rP.g2 X G "table" "goal";obtain⟨BL,D,oD,oi⟩:=qX.g2 X G "table" "goal";obtain⟨yR,nS,sN,uJ⟩:=wx.g2 X G "paper" "goal";obtain⟨yQ,E,oF,pA⟩:=rm.g2 X G "total" "number";obtain⟨yO,nI,ud,x6⟩:=qB.g4 X G "table" "goal" "weights" "number";obtain⟨yx,pf,xz,xL⟩:=vt.g1 X G "number";obtain⟨Bv,pD,vV,wQ⟩:=wk.g2 X G "table" "numbers";obtain⟨yS,vW,xk,vA⟩:=ve.g2 X G "script" "k";obtain⟨Bu,t6,vn,ut⟩:=w9.g1 X G "cell";obtain⟨y8,g,i,j⟩:=tV.g2 X G "box" "most";obtain⟨yk,F,p3,pJ⟩:=rG.g3 X G "box" "columns" "wide";obtain⟨BN,pP,xu,tR⟩:=tS.g2 X G "box" "most";obtain⟨BY,o,H,a⟩:=uy.g1 X G "table";obtain⟨Bz,I,oS,nK⟩:=sV.g1 X G "found";obtain⟨yC,p,J,L⟩:=qT.g1 X G "found";obtain⟨yJ,nJ,wZ,vB⟩:=vx.g3 X G "box" "least" "more";obtain⟨yI,q,M,N⟩:=qy.g2 X G "one" "other";obtain⟨yn,ot,sI,sC⟩:=tX.g2 X G "number" "often";obtain⟨yq,qm,ua,sD⟩:=rH.g3 X G "table" "goal" "told";obtain⟨y7,p4,tu,uK⟩:=xh.g3 X G "table" "goal" "told";obtain⟨⟨gL,FL⟩,_⟩:=qh;refine⟨gL,?_,fun base _ _=>?_⟩
 ·obtain⟨_,_,_,_,_,_,_,_,_,rfl,_,_⟩:=FL.ex;exact fun s v=>.of_eq rfl
 have O:=ue.n X G;have jA:=tw.n X G;have Q:=q8.n X G;have yH:=w4.n X G;have nr:=gr.m X G;have nc:=gc.m X G;have Gw:=Ej (P:=l.prog) (w:=w) (mg:=mg) (base:=base) b B.len;have Gi:=LQ (P:=l.prog) (w:=w) (mg:=mg) (base:=base) F1 B.len B.all nr nc b c m2;have Gm:=N6 Y F1 b1 m1 Gi;have oq:=LX (P:=l.prog) (w:=w) (mg:=mg) (base:=base) F7 B.range F8 b8 m8;have Gc:=LZ u B.len F7 b7 m7 oq b c m2;have oa:=M3 (P:=l.prog) (w:=w) (mg:=mg) (base:=base) F5 B.zip B.sum;have nM:=M5 Z F5 b5 m5 oa;have r:=L5 (P:=l.prog) (w:=w) (mg:=mg) (base:=base) d B.zip;have uP:=L7 (P:=l.prog) (w:=w) (mg:=mg) (base:=base) pY B.zip;have rV:=L9 (P:=l.prog) (w:=w) (mg:=mg) (base:=base) pH;have uD:=L' (P:=l.prog) (w:=w) (mg:=mg) (base:=base) pE B.zip jA;have qC:=Mh pc d e f r;have lM:=Mj pM O d e f r;have xr:=MO nZ O B.range B.len pc qD rh qC pH sn uN rV pE sJ vG uD pY rJ qP uP;have wn:=MP pN nZ tO xJ xr;have yg:=MS nC B.zip b c m2 Gw d e f r;have nT:=MU (P:=l.prog) (w:=w) (mg:=mg) (base:=base) z B.len;have vT:=MW qa B.range z nB oH nT;have Gu:=MZ nY qa u7 qU vT;have xa:=M_ (P:=l.prog) (w:=w) (mg:=mg) (base:=base) F9 B.len B.all B.zip;have qI:=Nb qk B.zip O pN qO tM wn u x y Gc nC ul tE yg pM wc tG lM;have vL:=Nf pQ B.range B.list d e f r;have pR:=Ni A B.all Q B.len z nB oH nT;have o_:=Nk (P:=l.prog) (w:=w) (mg:=mg) (base:=base) C Q B.len;have rZ:=No pI B.len A o8 oy pR C qj oo o_ F9 b9 m9 xa;have vm:=NW qb B.len qk tY uG qI nY u9 ug Gu F7 b7 m7 oq u x y Gc pI vM wq rZ A o8 oy pR C qj oo o_ pQ vY uZ vL;have uY:=JC (P:=l.prog) (w:=w) (mg:=mg) (base:=base) F B g i j;have j_:=Oc (P:=l.prog) (w:=w) (mg:=mg) (base:=base) pP B g i j F p3 pJ;have S:=Og (P:=l.prog) (w:=w) (mg:=mg) (base:=base) o B;have T:=Om (P:=l.prog) (w:=w) (mg:=mg) (base:=base) p B I oS nK;have l':=Oq (P:=l.prog) (w:=w) (mg:=mg) (base:=base) nJ B g i j;have p9:=OA (P:=l.prog) (w:=w) (mg:=mg) (base:=base) E;have ye:=OC (P:=l.prog) (w:=w) (mg:=mg) (base:=base) pf;have qg:=OE D B.len Y b3 m3 Gm;have wI:=OF nS B.len B.zip Q B.list Z b4 m4 nM E oF pA p9;have qQ:=OH pX D oD oi qg nS sN uJ wI qb wM wp vm b c m2 Gw;have uL:=OK nI B.len B.all D oD oi qg pf xz xL ye E oF pA p9 F5 b5 m5 oa u x y Gc;have kE:=OS pD B.len Y b3 m3 Gm b c m2 Gw Z b4 m4 nM;have U:=OM (P:=l.prog) (w:=w) (mg:=mg) (base:=base) q B.zip B.sum;have kC:=OO (P:=l.prog) (w:=w) (mg:=mg) (base:=base) ot;have lh:=JF (P:=l.prog) (w:=w) (mg:=mg) (base:=base) I B;have mX:=OV qm B p J L T I oS nK lh o H a S ot sI sC kC q M N U;have kg:=OY p4 B jA p J L T o H a S q M N U qm ua sD mX;exact O2 FL B vW xk vA t6 vn ut g i j F p3 pJ uY pP xu tR j_ nJ wZ vB l' o H a S q M N U pD vV wQ kE p J L T pX tJ qv qQ p4 tu uK kg nI ud x6 uL
def walk{l:PySem.W.OpenLaw}{q:Program}{g:List Str}{p:(Str->Option Value)->Heap->Prop}{b:World->Heap->Prop}{d:DefRec}{K:Params->Ag}(i:l.most=some 63)(j:d.params.defaults=[])(o:∀(w:World)(h:Heap),b w h->(K w.params).In h)(F:∀(w:World)(mg:Str->Option Value)(fa:Addr)(h:Heap),(K w.params).In h->h.Ns mainGlobals mg->mg d.name=some (.ref fa)->
   ∃fd:FuncData,(∀(s:Shared)(u:Value),BindsTo s fd ⟨[u],[]⟩ [("script",u)])/\∀base:Heap,(K w.params).In base->base.Ns mainGlobals mg->ah l.prog w (K w.params) mg base au 8 fa fd ["script"] (Dx (K w.params))):
  PySem.W.WalkO q g p b l.row.toRowW d [] (fun f vs=>PySem.call f vs):=
 L2.GQ (n:=63) (k:=8) (x:="script") (CX:=fun _=>au) (sp:=fun w=>Dx (K w.params)) i ξ j ⟨rfl,ξ,ξ⟩ o F (fun _ _ a ns c _ e=>⟨a,ns,rfl,e,c,fun _=>rfl⟩) fun _ _ _ _ _ z=>z
end K24
open PySem PySem.W PyProof.Rows
structure PySem.W.Fast:Prop where
 (tw10072035977267012447 tw10143573654970498385 tw10196359787250953997 tw10255997756044319985 tw10264023651908865822 tw10279541338989907740 tw1028137900257030998 tw10303282553805246778 tw10390123706683345719 tw10403284966064885102 tw10454967611012223723 tw10458421774983855275 tw10541856796350754166 tw11053139431562340013 tw11084441311926434661 tw11096063949137793270 tw11108213919754602637 tw11130696424606233745 tw1137382052683971036 tw11389826469928551201 tw11482915080734122490 tw11572014301301497403 tw11572338486814633829 tw11573804950850600204 tw11607737311895935906 tw11645061446060069778 tw11906497063297388851 tw11945138645005716548 tw11975165373545408255 tw11999096897221295003 tw12122208633108367885 tw12140466609787044052 tw12142290278349781223 tw12143958142262359272 tw122201342344811175 tw122479015274638114 tw12255215293848865099 tw12469708357786461249 tw12514662134318003956 tw12519549428569080460 tw12661384817929872989 tw12759157612007732898 tw12769729450828368578 tw12843142636165702828 tw12929446361840111811 tw1294927035187279032 tw12950980374550464193 tw1295326842236526252 tw12984063207151294277 tw13014232640747568896 tw1311880873415656669 tw13125906008002774785 tw13133795239234757448 tw13243538427840720761 tw13275394668045862262 tw13356451474062769871 tw1335671557015870833 tw13378732796579559889 tw13390251441171745625 tw13453518635469303463 tw13498511538295712717 tw13535689451283646296 tw13675667712669048918 tw13698653526359774542 tw13785576289431543299 tw13803854829824388179 tw13898833896670068550 tw13956248907972679336 tw13977236428159998894 tw13997706958247482693 tw14032630447735862208 tw14101897207921029980 tw14357882253185697594 tw14571120165936044196 tw14583262407239982862 tw14609697811397034664 tw1461261899479024893 tw14654033531485616020 tw14724481169409561273 tw1474915135888575683 tw14788416086006008054 tw14812344402458410508 tw14845995626626970298 tw14860985250278642980 tw14886349311641793141 tw14955957738060676386 tw15000552483610375389 tw15073105655572363840 tw15111466375356560060 tw15169688923717223258 tw15185062412461867180 tw1521586946376612527 tw15233503496829782019 tw15279527577156602919 tw15281284535694447665 tw15348681623934629661 tw1539768858345811915 tw1545988508409203445 tw15551813275648409035 tw15582586312807482245 tw15587133818008489708 tw15618354597144121394 tw15659422500427162307 tw15690738653287418935 tw15706248795888499858 tw15729412079872643388 tw15731351953746186547 tw15733572265194114934 tw15834726394712259913 tw15881218840895528971 tw15930253235677291497 tw15949891460935867843 tw15980526127146943913 tw16042763893056670545 tw16067609416539812213 tw16122765153213981116 tw16208313439699219556 tw1630232350166117268 tw16501364360112460086 tw16564269846337950762 tw16605055455035669932 tw16652746064087240383 tw16686711382333918392 tw16706030030995051246 tw16710067410782492199 tw16726506207461784673 tw16773247038400539156 tw1678809645353362696 tw16808395235836452581 tw16850690148099395668 tw16906264392580257935 tw16909255527468398520 tw16967592981060610177 tw16988101229653836871 tw17106810790900047166 tw1716921225593267304 tw17300118602345104554 tw17395712486433002684 tw17408232034495284511 tw17454840611686105178 tw17537925943015280714 tw17689990030670228783 tw1777878728651358723 tw17788330943481617586 tw17824227940106462245 tw17840125415463191108 tw17868607913310743679 tw17872354459951061025 tw17903663699473143165 tw17964070726586393095 tw18009481886901292535 tw18068750468346921274 tw18081649363647343056 tw18177470632236981330 tw18188989687524713063 tw181937594083582573 tw18232501513947319044 tw1824667058690043996 tw18384067037446257471 tw18398288142637888476 tw1842220901141738329 tw1871840705323860371 tw1928432525701461769 tw2053246562587226168 tw2125573902284674219 tw2128654786823498046 tw2164113706291961890 tw2183692417584141454 tw2194414257095654727 tw2285228210165663272 tw2315107542375484097 tw2431170500414557209 tw2438483614971130573 tw2453188955026933869 tw2474547478629878834 tw2480680150064808583 tw2508088627623465065 tw2536689240411897806 tw2537349942601297774 tw2628065448679494650 tw2706128175092970482 tw2714369672349614273 tw2786985357140438648 tw2816243212511215799 tw2982512968122369014 tw2989124230942233526 tw3209122629415679272 tw321335916615221828 tw3291047368213444585 tw3305505796640246626 tw3419828361155778856 tw3541422521082520007 tw3560383248638533661 tw3714608352174733464 tw3835058231877714885 tw3949901041492587989 tw3976702083777916709 tw3980167311227828322 tw400301103782379853 tw4006233119290390310 tw4046564847181394326 tw4047928141741754419 tw4086609515382379833 tw4166271994350117186 tw4185350298762419921 tw4187509626372248964 tw4191785991355588112 tw4198069520492510932 tw4231175402192122431 tw4235777311026649913 tw4405062093216152892 tw4531329468931362275 tw4558163540202415920 tw4563609919370391630 tw4643496144445284301 tw4652866981585786551 tw4661377009229992234 tw4686994059714378258 tw4731015871144970246 tw4818503701119725286 tw4851399302156970434 tw4865489135990621660 tw4872203331724220128 tw4936876079121603265 tw4949845996671625256 tw4952618141300422386 tw4988381359288576415 tw5154155754941439202 tw5241379752410071169 tw5263665112320269641 tw5315046985074097307 tw5424608793363033397 tw5594194447376699215 tw5628844850149402997 tw5646849618415609493 tw5687510199772404066 tw5761129092462665669 tw5794155052914860840 tw5882690689252440044 tw596802339581449121 tw5970573677293676464 tw6008448659270861982 tw6106617101485424286 tw6140307488205549072 tw6150721529378360431 tw6369878763387429210 tw6393928062465339227 tw6485495709386277160 tw6523083597389793544 tw652904401957165533 tw6567168711388478108 tw6573770060727688296 tw6604920560441950955 tw6810485065189187298 tw6822793765217213118 tw6844788947953591970 tw6993164921448550246 tw70060483227547717 tw7040572610738933040 tw7057513769695505393 tw7060300243067386507 tw7168540304817815304 tw7280641716794510324 tw7398862491991075671 tw7404657111149820007 tw752966892120037995 tw7567901243772584023 tw7604868368821145011 tw762527015661129194 tw764311938517623994 tw7697429644999020551 tw7791804921656025886 tw7807052055396808264 tw782342382496181213 tw7856813995226355132 tw7978313990031400085 tw7989958470398913242 tw8074014769385020697 tw8103630479157923515 tw8124111902592284694 tw8157073514914866510 tw8158106133841489105 tw8168497682581283991 tw8241831162889851772 tw8263490300021264275 tw8505465003627210524 tw8580115358773471637 tw8621930135616015565 tw8688388089316573397 tw869860926653583556 tw8728965287509341662 tw8778333903552335249 tw8866341202786885930 tw9003178474483221364 tw9011866940744911214 tw9075723746041361296 tw9093973065211819657 tw9109329446386770205 tw9198514513774936850 tw9250863648426789179 tw9291345525025040519 tw9292348785664236153 tw9572893259680698460 tw9575967974057522831 tw9706369811159784988 tw9739888502085121373 tw9760263758057260873 tw9761225554500018750 tw9883393067225839138 tw9887508139012841390 tw9933238088721072035 tw9943398858599305981:True)
set_option maxRecDepth 100000 in
set_option maxHeartbeats 0 in
theorem PySem.Challenge.cw_seamwright_k24_whole_solved_or_shown_holds : PySem.Challenge.rw_seamwright_k24_whole_solved_or_shown.Holds := by
 w_on; o_law; k_head; (case hw=>w_witness2)
 k_fill
 refine K24.walk (l:=PySem.Challenge.rw_seamwright_k24_whole_solved_or_shown) rfl rfl (fun w h Y=>PySem.W.kIn_of Y) ?F
 case F=>
  intro w mg fa h KX G e8;refine' K24.O3 KX G e8 ?_ ?_ ?_ ?_ ?_ ?_ ?_ ?_ ?_ ?_ ?_ ?_ ?_ ?_ ?_ ?_ ?_ ?_ ?_ ?_ ?_ ?_ ?_ ?_ ?_ ?_ ?_ ?_ ?_ ?_ ?_ ?_ ?_ ?_ ?_ ?_ ?_ ?_ ?_ ?_ ?_ ?_ ?_ ?_ ?_ ?_ ?_ ?_ ?_ ?_ ?_ ?_ ?_ ?_ ?_ ?_ ?_ ?_ ?_ ?_ ?_ ?_ ?_ ?_
  all_goals try first | refine' L2.FT ?_ ?_ ?_ ?_ | refine' L2.Nn.mk ?_
  all_goals try first | k_is | kit_is | k_exc
#print axioms PySem.Challenge.cw_seamwright_k24_whole_solved_or_shown_holds
end
