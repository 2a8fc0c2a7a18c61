import PyProof.Rows.All
import Wide.All
import OpenK.AllK
import Wide.FinOn
import Lean
import PyProof.EqAt
import PyProof.EqKinds
import PyProof.TupleCall
import PyProof.Rows.SortRuns
import KE.KSortKey
import KE.KListMore
import KE.KIntText
import KE.KEqDat
import PyProof.Rows.CallKwBuiltin
import PySem.SetTable
import PyProof.Rows.SetFrom
import PyProof.TupleKey
import PyProof.IsRules
import KE.KRevIter
import PyProof.ListRange
import PyProof.TupleOfGen
import PyProof.CollectIter
import PySem.Challenge.RW_seamwright_k65_papers_of_bars_judged
import KE.KDictLaws
import PyProof.DictWalks
import PyProof.DictItems
import PyProof.SetNew
import PyProof.DictCopy
import PyProof.FactsAll.dict_1
import PyProof.FactsAll.set_2
import PyProof.FactsAll.subtypes_5
import PyProof.AttrMissHeap
import PyProof.MinMaxWalk
import PyProof.SumAny
import PyProof.StationsW
import PyProof.ExcClass3
import OpenK.KOwn
import PyProof.ExcArgsOwn
import KE.KLam
import KE.KMinKey
import PyProof.DictTruth
import PyProof.DictFindH
import PyProof.NeKinds
import KE.KDictList
import KE.KDictSum
open PySem renaming wpAny_bind->Aa,wpAny_pure->Ac,wpAny_dictEntries->AB,wpAny_newObj_type->AF,wpAny_call_entry->AG,wpAny_holding->AI,wpAny_callSpecial?_slot->AL,bootBuiltins->AU,compareOp->AZ,sysModules->A3,mem_of_lookup->A5,wpAny_field->A7,wpAny_setField_rec->A9,wpAny_dictEpoch->Bc,codeAny_builtin->Bd
open List renaming length_map->Ab,getElem?_map->Af,getElem?_eq_getElem->Ai,mem_of_getElem?->Aj,map_map->Ak,size_toArray->Am,map_append->Ao,length_append->Ap,map_cons->Aq,mem_cons_of_mem->As,mem_cons_self->Av,map_congr_left->Aw,length_cons->Ay,take_of_length_le->AA,length_take->AD,range->AJ,mem_append_right->AQ,lookup_cons->AR,pairwise_map->AX,filterMap_cons->A6,filter_append->Ba,nodup_cons->Be,getElem_mem->Bf
open PySem.Heap renaming get?_push_of_some->Ad,get?_push_size->Al,lt_size->Ar
open PySem.W renaming Frag->Ae
open Nat renaming le_refl->Ag,ne_of_lt->Au,lt_of_lt_of_le->Ax,le_trans->AC,ne_of_gt->A0,zero_le->A1,lt_succ_of_lt->A8
open Option.some renaming inj->Ah,injEq->AW
open Bool renaming false_ne_true->An,false_eq_true->Az,and_eq_true->AK
open PyProof.Rows renaming take_snoc->AE
open PySem.Heap.SameBut renaming update->AH
open PySem.PassesOwn renaming never->AM
open PySem.Paired renaming length->AN
open PySem.Obj renaming mapSeq->AO
open Option renaming map_some->AS
open PySem.PyData renaming int->AY
open PySem.Around renaming under_plainId->A2
open PySem.NameKind renaming free->A4
open PySem.Str renaming ofString->Bb
open List renaming getElem?_eq_some_iff->B5,mem_map->KK,mem_cons->OT,mem_singleton->OU,mem_iff_getElem?->OV,mem_append->OW,all_eq_true->OX,mem_filter->O0,nodup_append->O2,flatMap_cons->O3,sum_cons->O4,eq_nil_of_length_eq_zero->O5,nodup_nil->O6,mem_flatMap->O7,length_pos_iff->O9,filter_cons_of_neg->Pc,filter_cons_of_pos->Pd,find?_cons->Pf,length_drop->Pg,pairwise_iff_getElem->Pi,getElem?_eq_none->Pn,getElem?_take_of_lt->Pp,append_nil->Ps,length_nil->Pu,getElem?_of_mem->Px,getElem?_append_right->Py,getElem?_inj->Pz,foldl_cons->PD,getElem?_append_left->PH,getElem?_zip_eq_some->PK,mem_append_left->PQ,length_zip->PU,filter_sublist->PX,not_mem_nil->P5,mem_range->P6,pairwise_cons->P7,eraseIdx_sublist->P8,foldl_append->Qa,getElem?_cons_zero->Qh,any_eq_true->Qi,map_inj_right->Qm,nodup_cons->Qo,of_mem_zip->Qp,mem_zipIdx_iff_getElem?->Qq,length_filter_le->Qr,mem_of_mem_take->Qs,getElem?_zipIdx->Qu,filter_cons->Qw,getElem?_range->QC,mem_map_of_mem->QE,zipIdx_map_fst->QF,any_cons->QI,filter_nil->QK,mem_filterMap->QL,zip_cons_cons->QM,length_zipIdx->QO,getElem?_cons_succ->QQ,any_eq_false->QR,map_id'->QY,length_range->Q3,eraseIdxIfInBounds_toArray->Q4,take_append_drop->Q7,map_fst_zip->Q9,forIn_cons->Rb,flatMap_append->Rf,map_nil->Rg,ext_getElem?->Rn,take_add_one->Rp,append_assoc->Rr,map_take->Rt,cons_ne_nil->Ry,range'_succ->RB,range'->RI
open Option renaming map_eq_some_iff->OY,isSome_iff_exists->Po,getD_some->Qx,isSome_map->QV
open PySem.F renaming plainAttrs_list->OZ,plain_max_loop->Ph,slot_dict_valueiterator_next->Pk,slot_dict_itemiterator_next->Pq,slot_dict_keyiterator_next->Pv,plain_extend_loop->PJ,slot_list_append->PN,type_list_append->PP,plainAttrs_dict->Qg,args_dict_valueiterator_next_1->Qt,entry_dict_valueiterator_next->Qz,args_dict_itemiterator_next_1->QA,args_dict_keyiterator_next_1->QB,entry_dict_itemiterator_next->QD,args_tuple_add_2->QH,entry_dict_keyiterator_next->QJ,entry_tuple_add->QP,slot_tuple_add->QT,entry_max_loop->Q2,slot_dict_get->Q6,slot_dict_values_iter->Ra,slot_dict_items_iter->Rc
open Int renaming eq_ofNat_of_zero_le->O1,dvd_trans->O8,toNat_natCast->Pa,dvd_zero->Pb,dvd_of_emod_eq_zero->Pe,le_refl->Pm,emod_lt_of_pos->Pw,dvd_mul_left->PM,dvd_add->PR,emod_nonneg->PV,dvd_sub->Qb,dvd_mul_right->Qc,emod_eq_zero_of_dvd->Qj,mul_zero->QZ,mul_add->Rs,mul_assoc->Ru,le_of_lt->RC,mul_emod->RD
open Array renaming getElem?_eq_getElem->Pj,length_toList->PB,getElem?_eq_none->QX,getElem?_toList->Q5
open PyProof.Rows renaming slot_tuple_getitem->PF,callWith_type1->PZ,envOfC->QG
open Nat renaming le_of_lt->PY,lt_irrefl->Qd,le_succ->Qk,lt_or_ge->Qn,lt_trans->Qv,le_add_right->Qy,le_succ_of_le->QW,lt_succ_self->Q8,sub_zero->Rh,le_of_succ_le->Ro,min_le_right->Rw
open PySem.W renaming cellsFrom_some->P0,tabIn->P4,mg_of->Qe,fnOf->Ql,ke_sameAll->QN,keepIn->QS,kla_fn->Q0,tabObj->Q1,kla_obj->Re,nsIn->Ri,envX->Rj,codeIn->Rk,methodObj->Rl,plainGet->Rv,kdl_call->Rx,instObj->RE,lookIn->RF,noTabs->RH
open Bool renaming eq_iff_iff->P9,not_true->Qf,and_false->QU,not_eq_true'->Rq
set_option linter.all false
set_option Elab.async false
set_option maxRecDepth 100000
set_option maxHeartbeats 4000000
theorem RJ{c:Prop}{h:Decidable c}(x:c){α:Sort _}{t e:α}:@ite α c h t e=t:=if_pos x
theorem RK{c:Prop}{h:Decidable c}(x:¬c){α:Sort _}{t e:α}:@ite α c h t e=e:=if_neg x
theorem RM{p:Prop}[Decidable p](h:p):decide p=true:=decide_eq_true h
theorem RN{p:Prop}[Decidable p](h:¬p):decide p=false:=decide_eq_false h
theorem RO{p:Prop}[Decidable p](h:decide p=true):p:=of_decide_eq_true h
def δ{p:Prop}(h:p:=by decide +kernel):p:=h
def ω{p:Prop}(h:p:=by omega):p:=h
def ξ{p:Prop}(h:p:=by decide):p:=h
abbrev Ω:=PySem.Value->PySem.Shared->Prop
abbrev Ξ:=List (List Int)
abbrev Ψ:=List (PySem.Addr×PySem.Obj)
local macro_rules|`($s⁻¹)=>`(($s).heap.objs.size)
section
namespace L2
open PySem PySem.Spec PyProof.Rows
abbrev Key:=Sum Int Str
def lq:Key->Value->Bool
 |.inl k,v=>Value.isInt k v
 |.inr x,v=>Value.isStrOf x v
def v8(w:World):Key->Int
 |.inl k=>hashInt k
 |.inr x=>hashStr w x
def aT:∀{k:Key}{v:Value},lq k v=true->(∃i t,k=Sum.inl i/\v=Value.int i t)\/(∃x t,k=Sum.inr x/\v=Value.str x t)
 |.inl i,v,h=>by
  obtain⟨t,e⟩:=Value.isInt_shape (k:=i) (v:=v) h;exact .inl ⟨i,t,rfl,e⟩
 |.inr x,v,h=>by
  obtain⟨t,e⟩:=Value.isStrOf_shape (x:=x) (v:=v) h;exact .inr ⟨x,t,rfl,e⟩
def Ia(i:Int)(t:Tok):lq (.inl i) (.int i t)=true:=by simp[lq,Value.isInt]
def Ib(x:Str)(t:Tok):lq (.inr x) (.str x t)=true:=by simp[lq,Value.isStrOf]
def Ie(a b:Int):decide ((Sum.inl a:Key)=Sum.inl b)=(a==b):=by
 by_cases e:a=b
 ·subst e;simp
 ·have h:¬(Sum.inl a:Key)=Sum.inl b:=fun q=>e (Sum.inl.inj q)
  rw[RN h];exact(beq_eq_false_iff_ne.mpr e).symm
def Ig(a b:Str):decide ((Sum.inr a:Key)=Sum.inr b)=decide (a=b):=by
 by_cases e:a=b
 ·subst e;simp
 ·have h:¬(Sum.inr a:Key)=Sum.inr b:=fun q=>e (Sum.inr.inj q)
  rw[RN h,RN e]
def Ih(a:Int)(b:Str):decide ((Sum.inl a:Key)=Sum.inr b)=false:=RN (fun q=>nomatch q)
def Ii(a:Str)(b:Int):decide ((Sum.inr a:Key)=Sum.inl b)=false:=RN (fun q=>nomatch q)
def zw(prog:Program)(w:World):PySem.KeyKind prog w Key where
 is:=lq
 hash:=v8 w
 inj:=fun v a b ha hb=>by
  rcases aT ha with ⟨i,t,rfl,rfl⟩|⟨x,t,rfl,rfl⟩
  ·rcases aT hb with ⟨j,u,rfl,e⟩|⟨y,u,rfl,e⟩
   ·injection e with e1 _;rw[e1]
   ·exact nomatch e
  ·rcases aT hb with ⟨j,u,rfl,e⟩|⟨y,u,rfl,e⟩
   ·exact nomatch e
   ·injection e with e1 _;rw[e1]
 byValue:=fun k v h=>by
  rcases aT h with ⟨i,t,rfl,rfl⟩|⟨x,t,rfl,rfl⟩<;>rfl
 pyHash:=fun c h=>by
  rcases aT c with ⟨i,t,rfl,rfl⟩|⟨x,t,rfl,rfl⟩
  ·exact wpAny_pyHash_int h
  ·exact wpAny_pyHash_str h
 eqBool:=fun hu c h=>by
  rcases aT hu with ⟨i,t,rfl,rfl⟩|⟨x,t,rfl,rfl⟩
  ·rcases aT c with ⟨j,u,rfl,rfl⟩|⟨y,u,rfl,rfl⟩
   ·rw[Ie] at h;exact wpAny_eqBool_int h
   ·rw[Ih] at h;exact SeqAt.EqAt.int_str i t y u _ _ _ _ h
  ·rcases aT c with ⟨j,u,rfl,rfl⟩|⟨y,u,rfl,rfl⟩
   ·rw[Ii] at h;exact SeqAt.EqAt.str_int x t j u _ _ _ _ h
   ·rw[Ig] at h;exact wpAny_eqBool_str h
 «strs»:=fun k x t v h=>by
  rcases aT h with ⟨i,u,rfl,e⟩|⟨y,u,rfl,e⟩
  ·exact nomatch e
  ·injection e with e1 _
   subst e1;cases v<;>rfl
def v_(prog:Program)(w:World)(i:Int)(t:Tok):(zw prog w).is (.inl i) (.int i t)=true:=Ia i t
def Il(prog:Program)(w:World)(x:Str)(t:Tok):(zw prog w).is (.inr x) (.str x t)=true:=Ib x t
inductive V where
 |non|bl (b:Bool)|int (i:Int)|str (x:Str)|byt (b:Array UInt8)|flt (b:UInt64)|ref (a:Addr)|ty (n:String)
 deriving DecidableEq
def RelV:V->Value->Prop
 |.non,u=>u=Value.none
 |.bl b,u=>u=Value.bool b
 |.int i,u=>∃t,u=Value.int i t
 |.str x,u=>∃t,u=Value.str x t
 |.byt b,u=>∃t,u=Value.bytes b t
 |.flt b,u=>∃t,u=Value.float b t
 |.ref a,u=>u=Value.ref a
 |.ty n,u=>u=Value.type n
abbrev Vals:List V->List Value->Prop:=Paired RelV
def Vals.length{xs:List V}{us:List Value}(r:Vals xs us):xs.length=us.length:=AN r
def Vals.get:∀{xs:List V}{us:List Value}{i:Nat}{x:V},Vals xs us->xs[i]?=some x->∃u,us[i]?=some u/\RelV x u
 |_,_,_,_,.nil,e=>by simp at e
 |_,_,0,_,.cons r _,e=>by simp at e;subst e;exact⟨_,rfl,r⟩
 |_,_,i+1,x,.cons _ t,e=>by
  obtain⟨u,h1,h2⟩:=Vals.get (i:=i) (x:=x) t (by simpa using e);exact⟨u,by simpa using h1,h2⟩
def Vals.set{x:V}{u:Value}(r:RelV x u):∀{xs:List V}{us:List Value}(i:Nat),Vals xs us->Vals (xs.set i x) (us.set i u)
 |_,_,_,.nil=>.nil
 |_,_,0,.cons _ t=>.cons r t
 |_,_,i+1,.cons q t=>.cons q (Vals.set r i t)
def Vals.append{xs ys:List V}{us a:List Value}(h:Vals xs us)(g:Vals ys a):Vals (xs++ys) (us++a):=by
 induction h with
 |nil=>exact g
 |cons r _ ih=>exact .cons r ih
def Vals.take:∀{xs:List V}{us:List Value}(n:Nat),Vals xs us->Vals (xs.take n) (us.take n)
 |_,_,0,_=>.nil
 |_,_,_+1,.nil=>.nil
 |_,_,n+1,.cons r t=>.cons r (Vals.take n t)
def Vals.drop:∀{xs:List V}{us:List Value}(n:Nat),Vals xs us->Vals (xs.drop n) (us.drop n)
 |_,_,0,r=>r
 |_,_,_+1,.nil=>.nil
 |_,_,n+1,.cons _ t=>Vals.drop n t
def RelO:Option V->Option Value->Prop
 |some v,some u=>RelV v u
 |none,none=>True
 |_,_=>False
def KV{κ:Type}:List (κ×V)->List (κ×Value)->Prop:=Paired fun(p:κ×V)(q:κ×Value)=>p.1=q.1/\RelV p.2 q.2
def kV:Key->V
 |.inl i=>.int i
 |.inr x=>.str x
inductive HO where
 |lst (xs:List V)
 |tup (xs:List V)
 |dK (kvs:List (Key×V))|dT (kvs:List (List Key×V))
 |set (S:Int->Bool) (n:Nat)
 |ins (C dx:Addr) (fs:List (Str×V))
 |own (x:Addr)
 |xd (fs:List (Str×V))
 |met (f x:Addr)
 |rng (lo hi:Int)
 |frz (o:Obj) (u:HO)
 |tbl (ps:Array Value)
 |ext (φ:Heap->Prop)
abbrev Hp:=Addr->Option HO
def upd(H:Hp)(a:Addr)(o:HO):Hp:=fun b=>if b=a then some o else H b
def ac{H:Hp}{a:Addr}{o:HO}:upd H a o a=some o:=by unfold upd;rw[RJ rfl]
def ae{H:Hp}{a b:Addr}{o:HO}(h:b≠a):upd H a o b=H b:=by unfold upd;rw[RK h]
def Im{H:Hp}{a:Addr}{o u:HO}:upd (upd H a o) a u=upd H a u:=by
 funext b;unfold upd;split<;>rfl
def cT{H:Hp}{a b:Addr}{o u:HO}(h:H a=some o)(h':H b=some u)(d:o≠u):a≠b:=by
 intro e;subst e;rw[h] at h';exact d (Ah h')
def zj{H:Hp}{a b:Addr}{o:HO}(h:H a=some o)(h':H b=none):a≠b:=by
 intro e;subst e;rw[h] at h';cases h'
section
variable(P:Program)(w:World)
def zF(H:Hp)(h:Heap)(a:Addr):HO->Prop
 |.lst xs=>xs.length<=sizeLine/\∃(ad:List Value)(n:Nat),Vals xs ad/\h.get? a=some {cls:=.type "list",data:=.seq ad.toArray n}
 |.tup xs=>xs.length<=sizeLine/\∃ad:List Value,Vals xs ad/\IsTup h a ad.toArray
 |.dK kvs=>kvs.length<=sizeLine/\(a==A3)=false/\∃vs,KV kvs vs/\h.DictOf (zw P w) a vs
 |.dT kvs=>kvs.length<=sizeLine/\(a==A3)=false/\∃xs:List (List Key×Addr×Value),
   Paired (fun(p:List Key×V)(q:List Key×Addr×Value)=>p.1=q.1/\H q.2.1=some (.tup (p.1.map kV))/\RelV p.2 q.2.2) kvs xs/\
   ∃o es ep,h.get? a=some o/\o.ExactDict/\o.data=.dict es ep/\es.toList=xs.map (entryOfKey (tupleKind (zw P w)))/\(xs.map (·.1)).Nodup
 |.set S n=>h.SetOf (intKind P w) a S n
 |.ins C dx fs=>H dx=some (.own a)/\fs.length<=1000/\dx≠a/\h.get? a=some (RE C dx)/\
   ∃mA,h.Ns1 dx mA/\(∀f,RelO (fs.lookup f) (mA f))/\PySem.Within mA (fs.map (·.1))
 |.own _=>∃o,h.get? a=some o
 |.xd fs=>∃mA,h.Ns1 a mA/\∀f,RelO (fs.lookup f) (mA f)
 |.rng lo hi=>∃t u v,h.get? a=some {cls:=.type "range",data:=.fields #[.int lo t,.int hi u,.int 1 v]}
 |.frz o u=>h.get? a=some o/\zF H h a u
 |.tbl ps=>h.get? a=some {cls:=.none,data:=.fields ps}
 |.met f x=>h.get? a=some (Rl (.ref f) (.ref x))
 |.ext φ=>φ h/\(∃o,h.get? a=some o)/\∀h1 h2:Heap,φ h1->(∀o,h1.get? a=some o->h2.get? a=some o)->φ h2
def HOk(H:Hp)(h:Heap):Prop:=∀a o,H a=some o->zF P w H h a o
end
section
variable{P:Program}{w:World}{H H':Hp}{h h':Heap}{a:Addr}{o:HO}
def zF.lt(x:zF P w H h a o):a<h.objs.size:=by
 cases o with
 |lst xs=>obtain⟨_,_,_,_,e⟩:=x;exact Ar e
 |tup xs=>obtain⟨_,_,_,p⟩:=x;exact p.lt
 |dK kvs=>obtain⟨_,_,_,_,o,_,_,e,_⟩:=x;exact Ar e
 |dT kvs=>obtain⟨_,_,_,_,o,_,_,e,_⟩:=x;exact Ar e
 |set S n=>obtain⟨o,_,_,_,e,_⟩:=x;exact Ar e
 |ins C dx fs=>obtain⟨_,_,_,e,_⟩:=x;exact Ar e
 |own y=>obtain⟨_,e⟩:=x;exact Ar e
 |xd fs=>obtain⟨_,⟨_,_,_,e,_⟩,_⟩:=x;exact Ar e
 |rng lo hi=>obtain⟨_,_,_,e⟩:=x;exact Ar e
 |frz ob u=>obtain⟨e,_⟩:=x;exact Ar e
 |tbl ps=>exact Ar (show h.get? a=some _ from x)
 |met f y=>exact Ar (show h.get? a=some _ from x)
 |ext φ=>obtain⟨_,⟨_,e⟩,_⟩:=x;exact Ar e
def Paired.mapP{c d:Type}{F G:c->d->Prop}{l₁:List c}{l₂:List d}(h:Paired F l₁ l₂)(f:∀a b,F a b->G a b):Paired G l₁ l₂:=by
 induction h with
 |nil=>exact .nil
 |cons r _ ih=>exact .cons (f _ _ r) ih
def zF.stay(x:zF P w H h a o)(k:∀b u,(b=a\/H b=some (.own a))->h.get? b=some u->h'.get? b=some u)(i:∀b,H b=some (.own a)->H' b=some (.own a))(ht:∀b xs,H b=some (.tup xs)->H' b=some (.tup xs)):zF P w H' h' a o:=by
 induction o with
 |lst xs=>obtain⟨z,ad,n,r,e⟩:=x;exact⟨z,ad,n,r,k _ _ (.inl rfl) e⟩
 |tup xs=>obtain⟨z,ad,r,ob,e,c⟩:=x;exact⟨z,ad,r,ob,k _ _ (.inl rfl) e,c⟩
 |dK kvs=>obtain⟨z,y,vs,r,ob,es,ep,e,c⟩:=x;exact⟨z,y,vs,r,ob,es,ep,k _ _ (.inl rfl) e,c⟩
 |dT kvs=>
  obtain⟨z,y,xs,r,ob,es,ep,e,c⟩:=x;exact⟨z,y,xs,Paired.mapP r fun p q z=>⟨z.1,ht _ _ z.2.1,z.2.2⟩,ob,es,ep,k _ _ (.inl rfl) e,c⟩
 |set S n=>obtain⟨ob,es,ep,t,e,c⟩:=x;exact⟨ob,es,ep,t,k _ _ (.inl rfl) e,c⟩
 |ins C dx fs=>
  obtain⟨d,z,ne,e,mA,⟨g,es,ep,e2,c⟩,r⟩:=x;exact⟨i _ d,z,ne,k _ _ (.inl rfl) e,mA,⟨g,es,ep,k _ _ (.inr d) e2,c⟩,r⟩
 |own y=>obtain⟨ob,e⟩:=x;exact⟨ob,k _ _ (.inl rfl) e⟩
 |xd fs=>obtain⟨mA,⟨g,es,ep,e,c⟩,r⟩:=x;exact⟨mA,⟨g,es,ep,k _ _ (.inl rfl) e,c⟩,r⟩
 |rng lo hi=>obtain⟨t,u,v,e⟩:=x;exact⟨t,u,v,k _ _ (.inl rfl) e⟩
 |frz ob u ih=>obtain⟨e,q⟩:=x;exact⟨k _ _ (.inl rfl) e,ih q⟩
 |tbl ps=>
  have e:h.get? a=some {cls:=.none,data:=.fields ps}:=x;show h'.get? a=some {cls:=.none,data:=.fields ps};exact k a _ (.inl rfl) e
 |met f y=>
  have e:h.get? a=some (Rl (.ref f) (.ref y)):=x;show h'.get? a=some (Rl (.ref f) (.ref y));exact k a _ (.inl rfl) e
 |ext φ=>obtain⟨p,⟨o,e⟩,st⟩:=x;exact⟨st _ _ p fun o q=>k _ _ (.inl rfl) q,⟨o,k _ _ (.inl rfl) e⟩,st⟩
def HOk.lt(x:HOk P w H h)(e:H a=some o):a<h.objs.size:=(x a o e).lt
def HOk.fresh(x:HOk P w H h)(e:h.objs.size<=a):H a=none:=by
 cases q:H a with
 |none=>rfl
 |some u=>exact absurd (Ax (x.lt q) e) (Qd _)
def HOk.kept(x:HOk P w H h)(k:∀b u,h.get? b=some u->h'.get? b=some u):HOk P w H h':=fun a o e=>
 (x a o e).stay (fun b u _ q=>k b u q) (fun _ q=>q) fun _ _ q=>q
def HOk.laid(x:HOk P w H h)(k:∀b u,h.get? b=some u->h'.get? b=some u)(hp:h.objs.size<=a)(new:zF P w (upd H a o) h' a o):HOk P w (upd H a o) h':=fun b u e=>by
 have d:=x.fresh hp
 by_cases hb:b=a
 ·subst hb;rw[ac] at e;cases e;exact new
 ·rw[ae hb] at e
  exact(x b u e).stay (fun c v _ q=>k c v q) (fun c q=>by rw[ae (zj q d)];exact q) fun c xs q=>by rw[ae (zj q d)];exact q
end
def Rd(H:Hp)(a:Addr)(u:HO):Prop:=H a=some u\/∃o,H a=some (.frz o u)
def Rd.of{H:Hp}{a:Addr}{u:HO}(h:H a=some u):Rd H a u:=.inl h
def Rd.ok{P:Program}{w:World}{H:Hp}{h:Heap}{a:Addr}{u:HO}(r:Rd H a u)(x:HOk P w H h):zF P w H h a u:=by
 rcases r with r|⟨o,r⟩
 ·exact x a u r
 ·obtain⟨_,q⟩:=x a _ r
  exact q
def nS:Option HO->Prop
 |some (.lst _)=>True
 |some (.dK _)=>True
 |some (.dT _)=>True
 |some (.set _ _)=>True
 |some (.ins _ _ _)=>True
 |some (.ext _)=>True
 |_=>False
section
variable{P:Program}{w:World}{H:Hp}{h h':Heap}{x e:Addr}{o':HO}
def HOk.write(ok:HOk P w H h)(g:nS (H x))(he:e=x\/H e=some (.own x))(k:∀b u,b≠e->h.get? b=some u->h'.get? b=some u)(l:∃u,h'.get? e=some u)(new:zF P w (upd H x o') h' x o'):HOk P w (upd H x o') h':=fun b u q=>by
 have d:∀c y,H c=some (.own y)->c≠x:=fun c y r z=>by subst z;rw[r] at g;exact g
 have f:∀c xs,H c=some (.tup xs)->c≠x:=fun c xs r z=>by subst z;rw[r] at g;exact g
 by_cases hb:b=x
 ·subst hb;rw[ac] at q;cases q;exact new
 ·rw[ae hb] at q
  by_cases a:b=e
  ·have i:H b=some (.own x):=by
    rcases he with z|z
    ·exact absurd (a.trans z) hb
    ·rw[a];exact z
   rw[q] at i;cases i;obtain⟨v,j⟩:=l;exact⟨v,by rw[a];exact j⟩
  ·refine(ok b u q).stay (fun c v hc r=>k c v ?_ r) (fun c r=>by rw[ae (d c b r)];exact r) fun c xs r=>by rw[ae (f c xs r)];exact r
   rcases hc with rfl|hc
   ·exact a
   ·rintro rfl
    rcases he with z|z
    ·exact d c b hc z
    ·rw[hc] at z;cases z;exact hb rfl
end
structure Un(fs ex:List Addr)(H H':Hp)(h h':Heap):Prop where
 keep:∀b o,h.get? b=some o->H b=none->b∉fs->b∉ex->h'.get? b=some o
 slot:∀b o,h.get? b=some o->H b=none->b∈fs->b∉ex->∃sl,h'.get? b=some {o with slots:=sl}
 free:∀b o,h.get? b=some o->H b=none->b∉ex->H' b=none
 there:∀b o,h.get? b=some o->b∉ex->∃o',h'.get? b=some o'
 tups:∀b xs,H b=some (.tup xs)->H' b=some (.tup xs)
 frzs:∀b o u,H b=some (.frz o u)->H' b=some (.frz o u)
 tbls:∀b ps,H b=some (.tbl ps)->∃more,H' b=some (.tbl (ps++more))
section
variable{fs um ex BO:List Addr}{H H1 H2:Hp}{h h1 h2 h':Heap}{a x e:Addr}{o:HO}
def Un.any(u:Un fs ex H H1 h h1){b:Addr}{ob:Obj}(q:h.get? b=some ob)(n:H b=none)(hx:b∉ex):∃a,h1.get? b=some {ob with slots:=a}:=by
 by_cases hb:b∈fs
 ·exact u.slot b ob q n hb hx
 ·exact⟨ob.slots,u.keep b ob q n hb hx⟩
def Un.kept(k:∀b u,h.get? b=some u->h'.get? b=some u):Un fs ex H H h h':=
 ⟨fun b ob q _ _ _=>k b ob q,fun b ob q _ _ _=>⟨ob.slots,k b ob q⟩,fun _ _ _ n _=>n,fun b ob q _=>⟨ob,k b ob q⟩,fun _ _ q=>q,fun _ _ _ q=>q,fun _ ps q=>⟨#[],by rw[q];simp⟩⟩
def Un.refl:Un fs ex H H h h:=Un.kept fun _ _ q=>q
def Un.laid(k:∀b u,h.get? b=some u->h'.get? b=some u)(hp:h.objs.size<=a)(c:H a=none):Un fs ex H (upd H a o) h h' where
 keep:=fun b u q _ _ _=>k b u q
 slot:=fun b u q _ _ _=>⟨u.slots,k b u q⟩
 free:=fun b u q n _=>by rw[ae (Au (Ax (Ar q) hp))];exact n
 there:=fun b u q _=>⟨u,k b u q⟩
 tups:=fun b xs q=>by rw[ae (zj q c)];exact q
 frzs:=fun b u xs q=>by rw[ae (zj q c)];exact q
 tbls:=fun b ps q=>⟨#[],by rw[ae (zj q c),q];simp⟩
def Un.write(c:nS (H x))(he:e=x\/H e=some (.own x))(k:∀b u,b≠e->h.get? b=some u->h'.get? b=some u)(d:∃u,h'.get? e=some u):Un fs ex H (upd H x o) h h':=by
 have hx:∀b,H b=none->b≠x:=fun b n z=>by subst z;rw[n] at c;exact c
 have hb:∀b,H b=none->b≠e:=fun b n z=>by
  subst z;rcases he with r|r
  ·exact hx b n r
  ·rw[n] at r;cases r
 have hm:∀b u,H b=some u->¬nS (some u)->b≠x:=fun b u q nm z=>by subst z;rw[q] at c;exact nm c
 refine⟨fun b u q n _ _=>k b u (hb b n) q,fun b u q n _ _=>⟨u.slots,k b u (hb b n) q⟩,fun b u q n _=>by rw[ae (hx b n)];exact n,fun b u q _=>?_,
  fun b xs q=>by rw[ae (hm b _ q fun z=>z)];exact q,fun b u xs q=>by rw[ae (hm b _ q fun z=>z)];exact q,fun b ps q=>⟨#[],by rw[ae (hm b _ q fun z=>z),q];simp⟩⟩
 by_cases a:b=e
 ·subst a;exact d
 ·exact⟨u,k b u a q⟩
end
def qK(h:Heap)(H:Hp):List Addr:=(AJ h.objs.size).filter fun a=>(H a).isSome
def cq(h:Heap)(H:Hp):Heap:=PySem.W.hideAll h (qK h H)
def D8(h:Heap)(H:Hp):(cq h H).objs.size=h.objs.size:=PySem.W.hideAll_size _ _
def D_{h:Heap}{H:Hp}{b:Addr}{o:Obj}(e:h.get? b=some o)(n:H b=none):(cq h H).get? b=some o:=
 PySem.W.hideAll_get _ e fun hm=>by
  have q:(H b).isSome=true:=(O0.mp hm).2;rw[n] at q;simp at q
def Ea{h:Heap}{H:Hp}{b:Addr}{o:Obj}(e:(cq h H).get? b=some o):h.get? b=some o/\H b=none:=by
 have e':h.get? b=some o:=PySem.W.of_hideAll (qK h H) e;refine⟨e',?_⟩;cases q:H b with
 |none=>rfl
 |some x=>
  have hm:b∈qK h H:=O0.mpr ⟨P6.mpr (Ar e'),by simp[q]⟩;have z:(cq h H).get? b=none:=PySem.W.hideAll_none (qK h H) hm;rw[z] at e;cases e
def Io(g h:Heap)(L:Addr):Ψ:=(AJ h.objs.size).filterMap fun a=>if a=L\/(g.get? a).isSome=true then none else(h.get? a).map fun o=>(a,o)
def rest(g h:Heap)(L d:Addr):Ψ:=(Io g h L).filter fun p=>decide (p.1≠d)
structure Mod(K:Ae)(mg:Str->Option Value)(base:Heap):Prop where
 kin:K.In base
 glob:base.Ns mainGlobals mg
 blt:∃mb,base.Ns builtinsNs mb/\∀x:Str,x≠"__name__"->mb x=AU x
 nolimit:base.NoLimit
structure Cx where
 prog:Program
 w:World
 K:Ae
 mg:Str->Option Value
 base:Heap
 A:Around
 N:List Str
 s₀:Shared
 H₀:Hp
 env:Env
 outer:List Env
 stack:List Env
 ex:List Addr
 fn:Str->Bool
 calm:Bool
 pn:Ψ
 xe:Ω
def frs(l:List Env):List Addr:=l.filterMap (·.frame)
abbrev Cx.fs(X:Cx):List Addr:=frs X.outer
def qL(sc:Scope)(x:Str):Prop:=sc.names.lookup x=some .local\/sc.names.lookup x=some .cell\/sc.names.lookup x=some .free
def Loc(sc:Scope)(x:Str):Prop:=sc.names.lookup x=some .local\/sc.names.lookup x=some .cell
def Look(env:Env)(h:Heap)(m:Str->Option Value)(x:Str)(u:Value):Prop:=
 (env.kindOf x=some .local/\m x=some u)\/((env.kindOf x=some .cell\/env.kindOf x=some .free)/\∃c,env.cells.lookup x=some c/\h.IsCell c (some u))
structure Cx.Ok(X:Cx):Prop where
 mod:Mod X.K X.mg X.base
 kind:X.env.scope.kind=.function
 glob:X.env.globals=mainGlobals
 blt:X.env.builtins=builtinsNs
 above:X.s₀⁻¹<=X.env.locals
 inj:∀x y c,X.env.cells.lookup x=some c->X.env.cells.lookup y=some c->x=y
 has:∀x,(X.env.kindOf x=some .cell\/X.env.kindOf x=some .free)->∃c,X.env.cells.lookup x=some c
 cab:∀x c,X.fn x=true->X.env.cells.lookup x=some c->X.s₀⁻¹<=c
 hd:X.calm=true->X.A.handled=none
 frames:X.A.frames=some X.stack
 stk:X.stack=X.outer\/(X.stack=X.env::X.outer/\X.env.frame=some X.env.locals)
 exf:∀b∈X.ex,b≠X.env.locals/\∀x c,X.env.cells.lookup x=some c->c≠b
 bs:∀b o,X.base.get? b=some o->X.s₀.heap.get? b=some o/\X.H₀ b=none
 bsz:X.base.objs.size<=X.s₀⁻¹
 noex:∀b o,X.base.get? b=some o->b∉X.ex
 exfs:∀b∈X.ex,b∉X.fs
 funs:X.s₀.heap.FunFrames X.base X.outer
 frf:∀b∈X.fs,X.H₀ b=none
structure Inv(X:Cx)(aa:Ψ)(σ:List (Option V))(H:Hp)(s:Shared):Prop where
 ok:X.Ok
 os:s.os=X.s₀.os
 bare:AllBare s.gens
 base:Un X.fs X.ex X.H₀ H X.s₀.heap s.heap
 loc:∃m,s.heap.Ns X.env.locals m/\∀(i:Nat)(x:Str)(v:V),X.N[i]?=some x->σ[i]?=some (some v)->qL X.env.scope x->∃u,RelV v u/\Look X.env s.heap m x u
 cell:∀x c,X.env.cells.lookup x=some c->∃v,s.heap.IsCell c v
 free:H X.env.locals=none
 freeC:∀x c,X.env.cells.lookup x=some c->H c=none
 pin:∀p∈X.pn++aa,s.heap.get? p.1=some p.2/\H p.1=none/\p.1≠X.env.locals/\p.1∉X.fs/\∀v,p.2.data≠.cell v
 hok:HOk X.prog X.w H s.heap
 len:σ.length=X.N.length
section
variable{X:Cx}{aa:Ψ}{σ:List (Option V)}{H H':Hp}{s:Shared}{h':Heap}
def Cx.Ok.nofr(ok:X.Ok){b:Addr}{o:Obj}(e:X.base.get? b=some o):b∉X.fs:=fun hb=>by
 have:=(ok.funs.mem hb).1;rw[e] at this;cases this
def Inv.bs(I:Inv X aa σ H s):∀b o,X.base.get? b=some o->s.heap.get? b=some o/\H b=none:=fun b o e=>
 ⟨I.base.keep b o (I.ok.bs b o e).1 (I.ok.bs b o e).2 (I.ok.nofr e) (I.ok.noex b o e),I.base.free b o (I.ok.bs b o e).1 (I.ok.bs b o e).2 (I.ok.noex b o e)⟩
def Inv.bk(I:Inv X aa σ H s):∀b o,X.base.get? b=some o->s.heap.get? b=some o:=fun b o e=>(I.bs b o e).1
def Inv.mod(I:Inv X aa σ H s):Mod X.K X.mg X.base:=I.ok.mod
def Inv.kIn(I:Inv X aa σ H s):X.K.In s.heap:=I.ok.mod.kin.keeps I.bk
def Inv.nolimit(I:Inv X aa σ H s):s.heap.NoLimit:=I.ok.mod.nolimit.keeps I.bk
def Inv.fr(I:Inv X aa σ H s):∃m,Fr X.base X.env.locals s.heap m:=
 let ⟨m,hn,_⟩:=I.loc
 ⟨m,hn,I.bk,AC I.ok.bsz I.ok.above⟩
def Inv.lt(I:Inv X aa σ H s):X.env.locals<s⁻¹:=let ⟨_,hn,_⟩:=I.loc;hn.lt
def Inv.sz(I:Inv X aa σ H s):X.s₀⁻¹<=s⁻¹:=AC I.ok.above (PY I.lt)
def Inv.nofs(I:Inv X aa σ H s){a:Addr}(h:s⁻¹<=a):a∉X.fs:=fun hb=>by
 obtain⟨_,o,b,_⟩:=I.ok.funs.mem hb;exact absurd (Ax (Ar b) (AC I.sz h)) (Qd _)
def Inv.cne(I:Inv X aa σ H s):∀x c,X.env.cells.lookup x=some c->c≠X.env.locals:=fun x c e z=>by
 obtain⟨v,o,d,hd⟩:=I.cell x c e;obtain⟨m,⟨o',es,ep,a,b,_⟩,_⟩:=I.loc;rw[z,a] at d;cases d;rw[b] at hd;cases hd
def Inv.funs(I:Inv X aa σ H s):s.heap.FunFrames X.base X.outer:=by
 have all:∀(l:List Env),(∀b∈frs l,b∈X.fs)->X.s₀.heap.FunFrames X.base l->s.heap.FunFrames X.base l:=by
  intro l
  induction l with
  |nil=>intro _ _;trivial
  |cons env r ih=>
   intro c d;obtain⟨hk,⟨L,o,hf,f,g,hd⟩,hr⟩:=d;have a:L∈X.fs:=c L (by unfold frs;rw[A6,hf];exact Av);obtain⟨h,e⟩:=I.base.slot L o g (I.ok.frf L a) a fun z=>I.ok.exfs L z a;exact⟨hk,⟨L,_,hf,f,e,hd⟩,ih (fun b hb=>c b (by unfold frs;rw[A6,hf];exact As _ hb)) hr⟩
 exact all X.outer (fun _ hb=>hb) I.ok.funs
def Inv.stack(I:Inv X aa σ H s):s.heap.FunFrames X.base X.stack:=by
 rcases I.ok.stk with e|⟨e,hf⟩
 ·rw[e];exact I.funs
 ·rw[e]
  obtain⟨m,a,_⟩:=I.loc;refine .cons (by rw[I.ok.kind];decide) hf a ?_ I.funs;exact Heap.get?_none_of_le (AC I.ok.bsz I.ok.above)
def Inv.stkSub(I:Inv X aa σ H s):∀b∈frs X.stack,b∈X.env.locals::X.fs:=fun b hb=>by
 rcases I.ok.stk with e|⟨e,hf⟩
 ·rw[e] at hb;exact As _ hb
 ·rw[e] at hb
  unfold frs at hb;rw[A6,hf] at hb;exact hb
def Inv.stkFree(I:Inv X aa σ H s):∀b∈frs X.stack,H b=none:=fun b hb=>by
 rcases OT.mp (I.stkSub b hb) with e|hb
 ·rw[e];exact I.free
 ·obtain⟨_,o,a,_⟩:=I.ok.funs.mem hb
  exact I.base.free b o a (I.ok.frf b hb) fun z=>I.ok.exfs b z hb
def Inv.step{g':Array GenState}{t':Nat}{d':Drawn}{ch:List Addr}(I:Inv X aa σ H s)(h:∀b∈ch,(b∈X.ex\/X.s₀⁻¹<=b)/\b≠X.env.locals/\(∀x c,X.env.cells.lookup x=some c->c≠b)/\∀p∈X.pn++aa,p.1≠b)(keep:∀b o,b≠X.env.locals->b∉X.fs->b∉ch->s.heap.get? b=some o->H b=none->h'.get? b=some o)(slot:∀b o,b≠X.env.locals->b∈X.fs->b∉ch->s.heap.get? b=some o->H b=none->∃A,h'.get? b=some {o with slots:=A})(free:∀b o,b∉ch->s.heap.get? b=some o->H b=none->H' b=none)(there:∀b o,b∉ch->s.heap.get? b=some o->∃o',h'.get? b=some o')(tups:∀b xs,H b=some (.tup xs)->H' b=some (.tup xs))(frzs:∀b o u,H b=some (.frz o u)->H' b=some (.frz o u))(tbls:∀b ps,H b=some (.tbl ps)->∃more,H' b=some (.tbl (ps++more)))(ns:∀m,s.heap.Ns X.env.locals m->h'.Ns X.env.locals m)(C:HOk X.prog X.w H' h')(M:AllBare g'):Inv X aa σ H' {s with heap:=h',gens:=g',drawn:=d',toks:=t'}:=by
 have j:∀b o,X.s₀.heap.get? b=some o->b≠X.env.locals:=fun b o e=>Au (Ax (Ar e) I.ok.above);have y:∀b o,X.s₀.heap.get? b=some o->b∉X.ex->b∉ch:=fun b o e hx hb=>by
  rcases(h b hb).1 with z|z
  ·exact hx z
  ·exact absurd (Ax (Ar e) z) (Qd _)
 have a:∀x c,X.env.cells.lookup x=some c->∀v,s.heap.IsCell c v->h'.IsCell c v:=fun x c e v ⟨o,g,hd⟩=>by
  have f:c∉ch:=fun z=>(h c z).2.2.1 x c e rfl
  by_cases hc:c∈X.fs
  ·obtain⟨A,q⟩:=slot c o (I.cne x c e) hc f g (I.freeC x c e)
   exact⟨_,q,hd⟩
  ·exact⟨o,keep c o (I.cne x c e) hc f g (I.freeC x c e),hd⟩
 refine⟨I.ok,I.os,M,⟨fun b o e n hb hx=>?_,fun b o e n hb hx=>?_,fun b o e n hx=>?_,fun b o e hx=>?_,fun b xs e=>tups b xs (I.base.tups b xs e),fun b o xs e=>frzs b o xs (I.base.frzs b o xs e),fun b ps e=>?_⟩,?_,fun x c e=>?_,?_,fun x c e=>?_,fun p hp=>?_,C,I.len⟩
 ·exact keep b o (j b o e) hb (y b o e hx) (I.base.keep b o e n hb hx) (I.base.free b o e n hx)
 ·obtain⟨A,e1⟩:=I.base.slot b o e n hb hx
  obtain⟨E,e2⟩:=slot b _ (j b o e) hb (y b o e hx) e1 (I.base.free b o e n hx);exact⟨E,e2⟩
 ·obtain⟨o',e1⟩:=I.base.there b o e hx
  exact free b o' (y b o e hx) e1 (I.base.free b o e n hx)
 ·obtain⟨o',e1⟩:=I.base.there b o e hx
  exact there b o' (y b o e hx) e1
 ·obtain⟨F,e1⟩:=I.base.tbls b ps e
  obtain⟨G,e2⟩:=tbls b _ e1;exact⟨F++G,by rw[e2,Array.append_assoc]⟩
 ·obtain⟨m,J,L⟩:=I.loc
  refine⟨m,ns m J,fun i x v e1 e2 e3=>?_⟩;obtain⟨u,r,l⟩:=L i x v e1 e2 e3;refine⟨u,r,?_⟩;rcases l with l|⟨k,c,e,z⟩
  ·exact .inl l
  ·exact .inr ⟨k,c,e,a x c e _ z⟩
 ·obtain⟨v,z⟩:=I.cell x c e
  exact⟨v,a x c e v z⟩
 ·obtain⟨m,⟨o,_,_,g,_⟩,_⟩:=I.loc
  exact free _ o (fun z=>(h _ z).2.1 rfl) g I.free
 ·obtain⟨v,o,g,hd⟩:=I.cell x c e
  exact free c o (fun z=>(h c z).2.2.1 x c e rfl) g (I.freeC x c e)
 ·obtain⟨e,n,ne,D,d⟩:=I.pin p hp
  have f:p.1∉ch:=fun z=>(h p.1 z).2.2.2 p hp rfl;exact⟨keep p.1 p.2 ne D f e n,free p.1 p.2 f e n,ne,D,d⟩
def Inv.un{t':Nat}(I:Inv X aa σ H s)(u:Un X.fs [] H H' s.heap h')(c:HOk X.prog X.w H' h'):Inv X aa σ H' {s with heap:=h',toks:=t'}:=by
 obtain⟨m,⟨o,es,ep,d,r⟩,_⟩:=id I.loc;obtain⟨l,f⟩:=u.any d I.free (by simp);exact I.step (g':=s.gens) (d':=s.drawn) (ch:=[]) (fun _ z=>nomatch z) (fun b o _ hb _ e n=>u.keep b o e n hb (by simp)) (fun b o _ hb _ e n=>u.slot b o e n hb (by simp)) (fun b o _ e n=>u.free b o e n (by simp)) (fun b o _ e=>u.there b o e (by simp)) u.tups u.frzs u.tbls (fun j hm=>by
  obtain⟨o',g,h,a,i⟩:=hm;rw[d] at a;cases a;exact⟨_,g,h,f,i⟩) c I.bare
def Inv.call{g':Array GenState}{t':Nat}{d':Drawn}{ch:List Addr}(I:Inv X aa σ H s)(u:Un (frs X.stack) ch H H' s.heap h')(f:HOk X.prog X.w H' h')(q:AllBare g')(h:∀b∈ch,(b∈X.ex\/X.s₀⁻¹<=b)/\b≠X.env.locals/\(∀x c,X.env.cells.lookup x=some c->c≠b)/\∀p∈X.pn++aa,p.1≠b):Inv X aa σ H' {s with heap:=h',gens:=g',drawn:=d',toks:=t'}:=by
 obtain⟨m,⟨o,es,ep,g,r⟩,_⟩:=id I.loc;obtain⟨y,d⟩:=u.any g I.free fun z=>(h _ z).2.1 rfl;exact I.step (ch:=ch) h (fun b o d hb hc e n=>u.keep b o e n (fun z=>(OT.mp (I.stkSub b z)).elim d hb) hc) (fun b o _ _ hc e n=>u.any e n hc) (fun b o hc e n=>u.free b o e n hc) (fun b o hc e=>u.there b o e hc) u.tups u.frzs u.tbls (fun v hm=>by
  obtain⟨o',i,j,a,l⟩:=hm;rw[g] at a;cases a;exact⟨_,i,j,d,l⟩) f q
def Inv.turned{t':Nat}{it:Addr}(I:Inv X aa σ H s)(k:∀b o,b≠it->s.heap.get? b=some o->h'.get? b=some o)(g:H it=none)(d:it≠X.env.locals)(h1:it∈X.ex\/X.s₀⁻¹<=it)(h2:∀x c,X.env.cells.lookup x=some c->c≠it)(h:∀p∈X.pn++aa,p.1≠it):Inv X aa σ H {s with heap:=h',toks:=t'}:=by
 have a:∀b u,H b=some u->b≠it:=fun b u e z=>by rw[z,g] at e;cases e
 refine I.step (g':=s.gens) (d':=s.drawn) (ch:=[it]) (fun b hb=>?_) (fun b o _ _ hc e _=>k b o (fun z=>hc (by simp[z])) e) (fun b o _ _ hc e _=>⟨o.slots,k b o (fun z=>hc (by simp[z])) e⟩) (fun _ _ _ _ n=>n)
  (fun b o hc e=>⟨o,k b o (fun z=>hc (by simp[z])) e⟩) (fun _ _ e=>e) (fun _ _ _ e=>e) (fun b ps e=>⟨#[],by rw[e];simp⟩) (fun m hm=>?_) (fun b u e=>?_) I.bare
 ·have e:b=it:=by simpa using hb
  subst e;exact⟨h1,d,h2,h⟩
 ·obtain⟨o,es,ep,f,r⟩:=hm
  exact⟨o,es,ep,k _ o (Ne.symm d) f,r⟩
 ·refine(I.hok b u e).stay (fun c v hc q=>k c v ?_ q) (fun _ q=>q) fun _ _ q=>q
  rcases hc with z|z
  ·rw[z];exact a b u e
  ·exact a c _ z
def Inv.tok(I:Inv X aa σ H s)(t:Nat):Inv X aa σ H {s with toks:=t}:=I.un (h':=s.heap) (t':=t) Un.refl I.hok
def Inv.kept{t':Nat}(I:Inv X aa σ H s)(k:∀b u,s.heap.get? b=some u->h'.get? b=some u):Inv X aa σ H {s with heap:=h',toks:=t'}:=I.un (Un.kept k) (I.hok.kept k)
def Inv.laid{a:Addr}{o:HO}{t':Nat}(I:Inv X aa σ H s)(k:∀b u,s.heap.get? b=some u->h'.get? b=some u)(hp:s⁻¹<=a)(new:zF X.prog X.w (upd H a o) h' a o):Inv X aa σ (upd H a o) {s with heap:=h',toks:=t'}:=I.un (Un.laid k hp (I.hok.fresh hp)) (I.hok.laid k hp new)
def Inv.write{x e:Addr}{o:HO}{t':Nat}(I:Inv X aa σ H s)(a:nS (H x))(he:e=x\/H e=some (.own x))(k:∀b u,b≠e->s.heap.get? b=some u->h'.get? b=some u)(c:∃u,h'.get? e=some u)(new:zF X.prog X.w (upd H x o) h' x o):Inv X aa σ (upd H x o) {s with heap:=h',toks:=t'}:=I.un (Un.write a he k c) (I.hok.write a he k c new)
def Inv.pins_of{a:Ψ}(I:Inv X aa σ H s)(h:∀p∈a,s.heap.get? p.1=some p.2/\H p.1=none/\p.1≠X.env.locals/\p.1∉X.fs/\∀v,p.2.data≠.cell v):Inv X a σ H s:=
 ⟨I.ok,I.os,I.bare,I.base,I.loc,I.cell,I.free,I.freeC,fun p hp=>(OW.mp hp).elim (fun z=>I.pin p (PQ _ z)) (h p),I.hok,I.len⟩
def Eb{N:List Str}(c:N.Nodup){i j:Nat}{x:Str}(a:N[i]?=some x)(b:N[j]?=some x):i=j:=by
 obtain⟨h1,e1⟩:=B5.mp a;obtain⟨h2,e2⟩:=B5.mp b;exact(List.getElem_inj c).mp (e1.trans e2.symm)
def Ec{M:Model}{A:Around}{E:Ω}{i:Nat}{x:Str}{v:V}{u:Value}{Q:Unit->Shared->Prop}(I:Inv X aa σ H s)(hN:X.N.Nodup)(hi:X.N[i]?=some x)(hx:Loc X.env.scope x)(r:RelV v u)(h:∀s',Inv X aa (σ.set i (some v)) H s'->(∃a,Heap.SameBut a s.heap s'.heap/\(a=X.env.locals\/X.env.cells.lookup x=some a))->Q () s')(hf:X.fn x=true\/X.env.scope.names.lookup x=some .local:=by first|exact .inl rfl|exact .inr rfl|assumption):wpAny M A (storeName X.env x u) Q E s:=by
 obtain⟨m,G,U⟩:=id I.loc;have o_:(X.env.scope.kind==.class|| (X.env.scope.kind==.module&&X.env.locals != X.env.globals))=false:=by rw[I.ok.kind];rfl
 have l:i<σ.length:=by rw[I.len];exact(B5.mp hi).1
 have cne:=I.cne;have cX:∀{a:Addr}{h':Heap},(∃o,s.heap.get? a=some o/\H a=none)->Heap.SameBut a s.heap h'->HOk X.prog X.w H h':=fun{a h'} ha f b ob e=>by
  obtain⟨_,_,g⟩:=ha;refine(I.hok b ob e).stay (fun c D hc q=>(f.2 c ?_).trans q) (fun _ q=>q) fun _ _ q=>q;rintro rfl;rcases hc with rfl|hc
  ·rw[g] at e;cases e
  ·rw[g] at hc;cases hc
 rcases hx with hk|hk
 ·refine wpAny_storeName_local hk G (fun h' dA f=>?_) o_
  obtain⟨oL,_,_,J,_⟩:=id G;refine h _ ⟨I.ok,I.os,I.bare,⟨fun b o e n hb hx=>?_,fun b o e n hb hx=>?_,I.base.free,fun b o e hx=>?_,I.base.tups,I.base.frzs,I.base.tbls⟩,⟨_,dA,fun j y F e1 e2 e3=>?_⟩,fun y c e=>?_,I.free,I.freeC,fun p hp=>?_,cX ⟨oL,J,I.free⟩ f,by simpa using I.len⟩ ⟨_,f,.inl rfl⟩
  ·exact(f.2 b (Au (Ax (Ar e) I.ok.above))).trans (I.base.keep b o e n hb hx)
  ·obtain⟨L,e1⟩:=I.base.slot b o e n hb hx
   exact⟨L,(f.2 b (Au (Ax (Ar e) I.ok.above))).trans e1⟩
  ·obtain⟨o',e1⟩:=I.base.there b o e hx
   exact⟨o',(f.2 b (Au (Ax (Ar e) I.ok.above))).trans e1⟩
  ·by_cases C:j=i
   ·subst C
    rw[hi] at e1;cases e1;rw[List.getElem?_set_self l] at e2;cases e2;exact⟨u,r,.inl ⟨hk,by simp⟩⟩
   ·rw[List.getElem?_set_ne (Ne.symm C)] at e2
    obtain⟨O,P,q⟩:=U j y F e1 e2 e3;refine⟨O,P,?_⟩;rcases q with ⟨k,e⟩|⟨k,c,e,z⟩
    ·refine .inl ⟨k,?_⟩
     have:y≠x:=fun e=>C (Eb hN e1 (e▸hi));simp[this,e]
    ·exact .inr ⟨k,c,e,z.sameBut f (cne y c e)⟩
  ·obtain⟨D,z⟩:=I.cell y c e
   exact⟨D,z.sameBut f (cne y c e)⟩
  ·obtain⟨e,n,ne,S,d⟩:=I.pin p hp
   exact⟨(f.2 p.1 ne).trans e,n,ne,S,d⟩
 ·have T:X.fn x=true:=by
   rcases hf with z|z
   ·exact z
   ·rw[z] at hk;cases hk
  obtain⟨c,hc⟩:=I.ok.has x (.inl hk);obtain⟨D,z⟩:=I.cell x c hc;refine wpAny_storeName_cell I.ok.kind hk hc z (fun h' hc' f=>?_);obtain⟨W,Y,mN⟩:=id z;refine h {s with heap:=h'} ⟨I.ok,I.os,I.bare,⟨fun b o e n hb hx=>?_,fun b o e n hb hx=>?_,I.base.free,fun b o e hx=>?_,I.base.tups,I.base.frzs,I.base.tbls⟩,⟨m,G.sameBut f (Ne.symm (cne x c hc)),fun j y F e1 e2 e3=>?_⟩,fun y c' e=>?_,I.free,I.freeC,fun p hp=>?_,cX ⟨W,Y,I.freeC x c hc⟩ f,by simpa using I.len⟩ ⟨c,f,.inr hc⟩
  ·exact(f.2 b (Au (Ax (Ar e) (I.ok.cab x c T hc)))).trans (I.base.keep b o e n hb hx)
  ·obtain⟨L,e1⟩:=I.base.slot b o e n hb hx
   exact⟨L,(f.2 b (Au (Ax (Ar e) (I.ok.cab x c T hc)))).trans e1⟩
  ·obtain⟨o',e1⟩:=I.base.there b o e hx
   exact⟨o',(f.2 b (Au (Ax (Ar e) (I.ok.cab x c T hc)))).trans e1⟩
  ·by_cases C:j=i
   ·subst C
    rw[hi] at e1;cases e1;rw[List.getElem?_set_self l] at e2;cases e2;exact⟨u,r,.inr ⟨.inl hk,c,hc,hc'⟩⟩
   ·rw[List.getElem?_set_ne (Ne.symm C)] at e2
    obtain⟨O,P,q⟩:=U j y F e1 e2 e3;refine⟨O,P,?_⟩;rcases q with q|⟨k,c',e,z'⟩
    ·exact .inl q
    ·refine .inr ⟨k,c',e,z'.sameBut f ?_⟩
     rintro rfl;exact C (Eb hN e1 (I.ok.inj _ _ _ e hc▸hi))
  ·by_cases fS:c'=c
   ·subst fS;exact⟨_,hc'⟩
   ·obtain⟨w2,z2⟩:=I.cell y c' e
    exact⟨w2,z2.sameBut f fS⟩
  ·obtain⟨e,n,ne,S,d⟩:=I.pin p hp
   refine⟨(f.2 p.1 ?_).trans e,n,ne,S,d⟩;intro q;rw[q,Y] at e;have q':W=p.2:=Ah e;exact d D (by rw[<-q'];exact mN)
def Ed{M:Model}{A:Around}{E:Ω}{i:Nat}{x:Str}{v:V}{u:Value}{Q:Unit->Shared->Prop}(I:Inv X aa σ H s)(a:X.N.Nodup)(hi:X.N[i]?=some x)(hx:Loc X.env.scope x)(r:RelV v u)(h:∀s',Inv X aa (σ.set i (some v)) H s'->Q () s')(hf:X.fn x=true\/X.env.scope.names.lookup x=some .local:=by first|exact .inl rfl|exact .inr rfl|assumption):wpAny M A (storeName X.env x u) Q E s:=
 Ec I a hi hx r (fun s' b _=>h s' b) hf
def Inv.call'{s':Shared}{ch:List Addr}(I:Inv X aa σ H s)(d:s'.os=s.os)(u:Un (frs X.stack) ch H H' s.heap s'.heap)(a:HOk X.prog X.w H' s'.heap)(f:AllBare s'.gens)(g:∀b∈ch,(b∈X.ex\/X.s₀⁻¹<=b)/\b≠X.env.locals/\(∀x c,X.env.cells.lookup x=some c->c≠b)/\∀p∈X.pn++aa,p.1≠b):Inv X aa σ H' s':=by
 obtain⟨h',g',d',t',o'⟩:=s';have e:o'=s.os:=d;subst e;exact I.call (g':=g') (t':=t') (d':=d') u a f g
end
abbrev XK:=Value->Option Addr->Hp->Prop
abbrev St:=List (Option V)
abbrev VK:=V->Hp->Prop
abbrev TE:=St->Hp->VK->Prop
abbrev TT:=St->Hp->(Bool->Hp->Prop)->Prop
abbrev TA:=St->Hp->(List V->Hp->Prop)->Prop
structure Ends where
 nx:St->Hp->Prop
 rt:VK
 bk:St->Hp->Prop:=fun _ _=>False
 ct:St->Hp->Prop:=fun _ _=>False
abbrev TS:=Ends->St->Hp->Prop
def EP(X:Cx)(aa:Ψ)(σ:St)(Q:VK)(u:Value)(s':Shared):Prop:=∃v H',Inv X aa σ H' s'/\RelV v u/\Q v H'
def TP(X:Cx)(aa:Ψ)(σ:St)(Q:Bool->Hp->Prop)(b:Bool)(s':Shared):Prop:=∃H',Inv X aa σ H' s'/\Q b H'
def AP(X:Cx)(aa:Ψ)(σ:St)(Q:List V->Hp->Prop)(us:List Value)(s':Shared):Prop:=∃vs H',Inv X aa σ H' s'/\Vals vs us/\Q vs H'
def SP(X:Cx)(aa:Ψ)(D:Ends)(f:Flow)(s':Shared):Prop:=
 match f with
 |.next=>∃a H',Inv X aa a H' s'/\D.nx a H'
 |.brk=>∃a H',Inv X aa a H' s'/\D.bk a H'
 |.cont=>∃a H',Inv X aa a H' s'/\D.ct a H'
 |.ret u=>∃v a H',Inv X aa a H' s'/\RelV v u/\D.rt v H'
def PE(X:Cx)(e:Expr)(t:TE):Prop:=
 ∀(aa:Ψ)(s:Shared)(σ:St)(H:Hp)(Q:VK),Inv X aa σ H s->t σ H Q->wpAny (model X.prog X.w) X.A (eval e X.env) (EP X aa σ Q) X.xe s
def PT(X:Cx)(e:Expr)(t:TT):Prop:=
 ∀(aa:Ψ)(s:Shared)(σ:St)(H:Hp)(Q:Bool->Hp->Prop),Inv X aa σ H s->t σ H Q->wpAny (model X.prog X.w) X.A (isTrue e X.env (eval e X.env)) (TP X aa σ Q) X.xe s
def PW(X:Cx)(e:Expr)(t:TT):Prop:=
 ∀(a:Sem Value)(aa:Ψ)(s:Shared)(σ:St)(H:Hp)(Q:Bool->Hp->Prop),Inv X aa σ H s->t σ H Q->wpAny (model X.prog X.w) X.A (isTrue e X.env a) (TP X aa σ Q) X.xe s
def PW.pt{X:Cx}{e:Expr}{t:TT}(h:PW X e t):PT X e t:=h _
def PA(X:Cx)(es:List Expr)(t:TA):Prop:=
 ∀(pos:Pos)(aa:Ψ)(s:Shared)(σ:St)(H:Hp)(Q:List V->Hp->Prop),Inv X aa σ H s->t σ H Q->wpAny (model X.prog X.w) X.A (spliced (backTo pos (starEach es X.env))) (AP X aa σ Q) X.xe s
def PS(X:Cx)(st:Stmt)(t:TS):Prop:=
 ∀(aa:Ψ)(s:Shared)(σ:St)(H:Hp)(D:Ends),Inv X aa σ H s->t D σ H->wpAny (model X.prog X.w) X.A (exec st X.env) (SP X aa D) X.xe s
def PSs(X:Cx)(st:List Stmt)(t:TS):Prop:=
 ∀(aa:Ψ)(s:Shared)(σ:St)(H:Hp)(D:Ends),Inv X aa σ H s->t D σ H->wpAny (model X.prog X.w) X.A (execs st X.env) (SP X aa D) X.xe s
def aW{b:Type}{t:Sem b}{Q c:b->Shared->Prop}{M:Model}{A:Around}{E:Ω}{s:Shared}(h:wpAny M A t Q E s)(d:∀a s,Q a s->c a s):wpAny M A t c E s:=wpAny_mono h d fun _ _ x=>x
section
variable{X:Cx}
def ay(i:Nat):TE:=fun σ H Q=>∃v,σ[i]?=some (some v)/\Q v H
def tC(v:V):TE:=fun _ H Q=>Q v H
def Ip{i:Nat}{x:Str}{pos:Pos}(f:X.N[i]?=some x)(g:qL X.env.scope x)(hd:(x==("__debug__":Str))=false:=by decide)(j:(x==("__classdict__":Str))=false:=by decide):PE X (.Name x pos) (ay i):=by
 intro aa s σ H Q I h;obtain⟨v,e,h⟩:=h;obtain⟨m,b,d⟩:=I.loc;obtain⟨u,r,l⟩:=d i x v f e g;have fin:EP X aa σ Q u s:=⟨v,H,I,r,h⟩;rcases l with ⟨hk,hm⟩|⟨hk,c,hc,a⟩
 ·exact wpAny_Name (wpAny_loadName_local I.ok.kind hk b hm fin) hd
 ·rcases hk with hk|hk
  ·exact wpAny_Name (wpAny_loadName_cell I.ok.kind hk hc a fin) hd
  ·exact wpAny_Name (wpAny_loadName_free I.ok.kind hk hc a fin j) hd
def zf{i j pos}:PE X (.Constant (.int i) j pos) (tC (.int i)):=fun _ _ _ H _ I h=>wpAny_Constant_int ⟨.int i,H,I.tok _,⟨_,rfl⟩,h⟩
def dY{b j pos}:PE X (.Constant (.bool b) j pos) (tC (.bl b)):=fun _ _ _ H _ I h=>Constant_bool ⟨.bl b,H,I,rfl,h⟩
def ee{j pos}:PE X (.Constant .none j pos) (tC .non):=fun _ _ _ H _ I h=>Constant_none ⟨.non,H,I,rfl,h⟩
def zZ{x j pos}:PE X (.Constant (.str x) j pos) (tC (.str x)):=fun _ _ _ H _ I h=>Calls.Constant_str ⟨.str x,H,I.tok _,⟨_,rfl⟩,h⟩
def Gl(X:Cx)(x:Str):Prop:=X.env.kindOf x=some .globalImplicit
def Ee{E:Ω}{aa:Ψ}{s:Shared}{σ:St}{H:Hp}{x:Str}{u:Value}{pos:Pos}{Q:Ω}(I:Inv X aa σ H s)(a:Gl X x)(hm:X.mg x=some u)(h:Q u s)(hd:(x==("__debug__":Str))=false:=by decide):wpAny (model X.prog X.w) X.A (eval (.Name x pos) X.env) Q E s:=
 Calls.Name_function_global I.ok.kind a (Calls.loadGlobal_global (by rw[I.ok.glob];exact I.mod.glob.keeps I.bk) hm h) hd
def j0{E:Ω}{aa:Ψ}{s:Shared}{σ:St}{H:Hp}{x:Str}{u:Value}{pos:Pos}{Q:Ω}(I:Inv X aa σ H s)(a:Gl X x)(hm:X.mg x=none)(b:AU x=some u)(h:Q u s)(c:x≠"__name__":=by decide)(hd:(x==("__debug__":Str))=false:=by decide):wpAny (model X.prog X.w) X.A (eval (.Name x pos) X.env) Q E s:=by
 obtain⟨d,h1,h2⟩:=I.mod.blt;exact Calls.Name_function_global I.ok.kind a (Calls.loadGlobal_builtin (by rw[I.ok.glob];exact I.mod.glob.keeps I.bk) hm (by rw[I.ok.blt];exact h1.keeps I.bk) ((h2 x c).trans b) h) hd
def qN{x:Str}{v:V}{u:Value}{pos:Pos}(a:Gl X x)(hm:X.mg x=some u)(r:RelV v u)(hd:(x==("__debug__":Str))=false:=by decide):PE X (.Name x pos) (tC v):=
 fun _ _ _ H _ I h=>Ee I a hm ⟨v,H,I,r,h⟩ hd
def Iq{x:Str}{v:V}{u:Value}{pos:Pos}(a:Gl X x)(hm:X.mg x=none)(b:AU x=some u)(r:RelV v u)(c:x≠"__name__":=by decide)(hd:(x==("__debug__":Str))=false:=by decide):PE X (.Name x pos) (tC v):=
 fun _ _ _ H _ I h=>j0 I a hm b ⟨v,H,I,r,h⟩ c hd
variable{a b:Expr}{ta tb:TE}{pos:Pos}
def PC(X:Cx)(op:CmpOp)(a b:Expr)(t:TE):Prop:=
 ∀(aa:Ψ)(s:Shared)(σ:St)(H:Hp)(Q:VK),Inv X aa σ H s->t σ H Q->
  wpAny (model X.prog X.w) X.A (eval a X.env) (fun v c=>wpAny (model X.prog X.w) X.A (eval b X.env) (fun u d=>wpAny (model X.prog X.w) X.A (AZ op v u) (EP X aa σ Q) X.xe d) X.xe c) X.xe s
def eh(b:Expr){op:CmpOp}(h:op≠.In)(h2:op≠.NotIn):behindInMarks op b=false:=by
 have e1:(op==CmpOp.In)=false:=by cases op<;>first|rfl|exact absurd rfl h
 have e2:(op==CmpOp.NotIn)=false:=by cases op<;>first|rfl|exact absurd rfl h2
 cases b<;>simp[behindInMarks,e1,e2]
def tB(t:TE):TT:=fun σ H Q=>t σ H fun x H1=>∃c,x=.bl c/\Q c H1
def Ef{op:CmpOp}{t:TE}(h:PC X op a b t)(h1:behindInMarks op b=false:=by first|exact eh _ ξ ξ|rfl):PE X (.Compare a [op] [b] pos) t:=fun aa s σ H Q I hw=>wpAny_Compare1 (h aa s σ H Q I hw) h1
def wa{op:CmpOp}{t:TE}(h:PC X op a b t)(h1:behindInMarks op b=false:=by first|exact eh _ ξ ξ|rfl):PT X (.Compare a [op] [b] pos) (tB t):=by
 intro aa s σ H Q I hw;refine wpAny_isTrue_Compare1 (aW (h aa s σ H _ I hw) fun v i h1=>aW h1 fun u j h2=>aW h2 fun c l ⟨x,H1,g,e,f⟩=>?_) h1;obtain⟨d,rfl,q⟩:=f;cases e;exact wpAny_truthy_bool ⟨H1,g,q⟩
def iN{e:Expr}{t:TE}(h:PE X e t)(he:∀a,isTrue e X.env a=(do let v <-a;standAt e.pos;holding [v] (truthy v)):=by intro _;rfl):PT X e (tB t):=by
 intro aa s σ H Q I hw;refine isTrue_plain (aW (h aa s σ H _ I hw) fun v g ⟨x,H1,f,b,c⟩=>?_) (he _);obtain⟨d,rfl,q⟩:=c;cases b;exact wpAny_truthy_bool ⟨H1,f,q⟩
variable{tA kK:TT}{rest:List Expr}
def wh(t u:TT):TT:=fun σ H Q=>t σ H fun c H1=>if c=true then u σ H1 Q else Q false H1
def Ir(t u:TT):TT:=fun σ H Q=>t σ H fun c H1=>if c=true then Q true H1 else u σ H1 Q
def wl(t:TT):TT:=fun σ H Q=>t σ H fun c H1=>Q (!c) H1
def Eg(ha:PT X a tA):PW X (.BoolOp .And [a] pos) tA:=by
 intro b aa s σ H Q I h;refine isTrue_and (aW (ha aa s σ H Q I h) fun c d e=>?_);cases c with
 |true=>exact isTrue_and_nil e
 |false=>exact e
def lu(ha:PT X a tA):PW X (.BoolOp .Or [a] pos) tA:=by
 intro b aa s σ H Q I h;refine isTrue_or (aW (ha aa s σ H Q I h) fun c d e=>?_);cases c with
 |false=>exact isTrue_or_nil e
 |true=>exact e
def Eh(ha:PT X a tA)(hb:PW X (.BoolOp .And (b::rest) pos) kK):PW X (.BoolOp .And (a::b::rest) pos) (wh tA kK):=by
 intro f aa s σ H Q I h;refine isTrue_and (aW (ha aa s σ H _ I h) fun c g ⟨H1,e,d⟩=>?_);cases c with
 |true=>exact hb f aa g σ H1 Q e d
 |false=>exact⟨H1,e,d⟩
def j1(ha:PT X a tA)(hb:PW X (.BoolOp .Or (b::rest) pos) kK):PW X (.BoolOp .Or (a::b::rest) pos) (Ir tA kK):=by
 intro f aa s σ H Q I h;refine isTrue_or (aW (ha aa s σ H _ I h) fun c g ⟨H1,e,d⟩=>?_);cases c with
 |true=>exact⟨H1,e,d⟩
 |false=>exact hb f aa g σ H1 Q e d
def gh(ha:PT X a tA):PT X (.UnaryOp .Not a pos) (wl tA):=by
 intro aa s σ H Q I h;exact isTrue_not (ha aa s σ H (fun c H1=>Q (!c) H1) I h)
def Ei(ta tb:TE):TE:=fun σ H Q=>ta σ H fun x H1=>∃c,x=.bl c/\if c=true then tb σ H1 Q else Q (.bl false) H1
def j2{op}{t:TE}(h:PE X a t):PE X (.BoolOp op [a] pos) t:=fun aa s σ H Q I hw=>BoolOp_one (h aa s σ H Q I hw)
def j4(ha:PE X a ta)(hb:PE X (.BoolOp .And (b::rest) pos) tb):PE X (.BoolOp .And (a::b::rest) pos) (Ei ta tb):=by
 intro aa s σ H Q I h;refine BoolOp_and (aW (ha aa s σ H _ I h) fun v f ⟨x,H1,e,g,d⟩=>?_);obtain⟨c,rfl,d⟩:=d;cases g;refine wpAny_truthy_bool ?_;cases c with
 |true=>exact hb aa f σ H1 Q e d
 |false=>exact⟨.bl false,H1,e,rfl,d⟩
def wt(t:TT)(ta tb:TE):TE:=fun σ H Q=>t σ H fun c H1=>if c=true then ta σ H1 Q else tb σ H1 Q
def ww{c:Expr}(hc:PT X c tA)(ha:PE X a ta)(hb:PE X b tb):PE X (.IfExp c a b pos) (wt tA ta tb):=by
 intro aa s σ H Q I h;refine wpAny_IfExp (aW (hc aa s σ H _ I h) fun d e ⟨H1,g,f⟩=>?_);cases d with
 |true=>exact ha aa e σ H1 Q g f
 |false=>exact hb aa e σ H1 Q g f
end
def SqL(K:Ae)(H:Hp)(a:Addr)(xs:List V):Prop:=
 Rd H a (.lst xs) \/
  ∃(o:Obj)(ad:Array Value)(n:Nat),K.lookup a=some o/\o.cls=.type "list"/\o.dict=none/\o.data=.seq ad n/\ad.size<=sizeLine/\Vals xs ad.toList
def SqT(K:Ae)(H:Hp)(a:Addr)(xs:List V):Prop:=
 Rd H a (.tup xs) \/
  ∃(o:Obj)(ad:Array Value)(n:Nat),K.lookup a=some o/\o.cls=.type "tuple"/\o.data=.seq ad n/\ad.size<=sizeLine/\Vals xs ad.toList
def wD:Value->Option V
 |.none=>some .non
 |.bool b=>some (.bl b)
 |.int i _=>some (.int i)
 |.str x _=>some (.str x)
 |.bytes b _=>some (.byt b)
 |.float b _=>some (.flt b)
 |.ref a=>some (.ref a)
 |.type n=>some (.ty n)
 |_=>none
def RelV.abs{x:V}{u:Value}(r:RelV x u):wD u=some x:=by
 cases x with
 |non=>cases r;rfl
 |bl _=>cases r;rfl
 |int _=>obtain⟨t,rfl⟩:=r;rfl
 |str _=>obtain⟨t,rfl⟩:=r;rfl
 |byt _=>obtain⟨t,rfl⟩:=r;rfl
 |flt _=>obtain⟨t,rfl⟩:=r;rfl
 |ref _=>cases r;rfl
 |ty _=>cases r;rfl
def RelV.inj{x y:V}{u:Value}(r:RelV x u)(q:RelV y u):x=y:=Ah (r.abs.symm.trans q.abs)
def Vals.inj{xs ys:List V}{us:List Value}(h:Vals xs us)(g:Vals ys us):xs=ys:=by
 induction h generalizing ys with
 |nil=>cases g;rfl
 |cons r t ih=>cases g with|cons r' t'=>rw[r.inj r',ih t']
section
variable{X:Cx}{aa:Ψ}{σ:St}{H:Hp}{s:Shared}{a:Addr}{xs ys:List V}
def SqL.of{K:Ae}(h:H a=some (.lst xs)):SqL K H a xs:=.inl (.inl h)
def SqT.of{K:Ae}(h:H a=some (.tup xs)):SqT K H a xs:=.inl (.inl h)
def Inv.list(I:Inv X aa σ H s)(h:SqL X.K H a xs):∃ad:List Value,Vals xs ad/\PlainL s.heap a ad.toArray/\xs.length<=sizeLine:=by
 rcases h with h|⟨o,ad,n,hk,hc,hd,b,hz,r⟩
 ·obtain⟨z,ad,n,r,e⟩:=h.ok I.hok
  exact⟨ad,r,⟨_,n,e,rfl,rfl,rfl⟩,z⟩
 ·refine⟨ad.toList,r,⟨o,n,I.kIn a o hk,hc,hd,by simpa using b⟩,?_⟩
  have e:=r.length;simp only[PB] at e;omega
def Inv.tuple(I:Inv X aa σ H s)(h:SqT X.K H a xs):∃ad:List Value,Vals xs ad/\IsTup s.heap a ad.toArray/\xs.length<=sizeLine:=by
 rcases h with h|⟨o,ad,n,hk,hc,b,hz,r⟩
 ·obtain⟨z,ad,r,p⟩:=h.ok I.hok
  exact⟨ad,r,p,z⟩
 ·refine⟨ad.toList,r,⟨o,I.kIn a o hk,hc,n,by simpa using b⟩,?_⟩
  have e:=r.length;simp only[PB] at e;omega
def Inv.list_inj(I:Inv X aa σ H s)(h:SqL X.K H a xs)(h':SqL X.K H a ys):xs=ys:=by
 obtain⟨ad,r,⟨o,n,e,_,_,d⟩,_⟩:=I.list h;obtain⟨its',b,⟨o',c,e',_,_,d'⟩,_⟩:=I.list h';rw[e] at e';cases e';rw[d] at d';injection d' with d1 _
 have:ad=its':=by simpa using congrArg Array.toList d1
 subst this;exact r.inj b
def Inv.tuple_inj(I:Inv X aa σ H s)(h:SqT X.K H a xs)(h':SqT X.K H a ys):xs=ys:=by
 obtain⟨ad,r,⟨o,e,_,n,d⟩,_⟩:=I.tuple h;obtain⟨its',b,⟨o',e',_,c,d'⟩,_⟩:=I.tuple h';rw[e] at e';cases e';rw[d] at d';injection d' with d1 _
 have:ad=its':=by simpa using congrArg Array.toList d1
 subst this;exact r.inj b
end
abbrev Cx.wish(X:Cx)(E:Ω):Cx:={X with xe:=E}
abbrev Cx.nox(X:Cx):Cx:=X.wish fun _ _=>False
def Cx.Ok.wish{X:Cx}(ok:X.Ok)(E:Ω):(X.wish E).Ok:=
 ⟨ok.mod,ok.kind,ok.glob,ok.blt,ok.above,ok.inj,ok.has,ok.cab,ok.hd,ok.frames,ok.stk,ok.exf,ok.bs,ok.bsz,ok.noex,ok.exfs,ok.funs,ok.frf⟩
def Cx.Ok.unwish{X:Cx}{E:Ω}(ok:(X.wish E).Ok):X.Ok:=
 ⟨ok.mod,ok.kind,ok.glob,ok.blt,ok.above,ok.inj,ok.has,ok.cab,ok.hd,ok.frames,ok.stk,ok.exf,ok.bs,ok.bsz,ok.noex,ok.exfs,ok.funs,ok.frf⟩
section
variable{X:Cx}{aa:Ψ}{σ:St}{H:Hp}{s:Shared}{E:Ω}
def Inv.wish(I:Inv X aa σ H s)(E:Ω):Inv (X.wish E) aa σ H s:=⟨I.ok.wish E,I.os,I.bare,I.base,I.loc,I.cell,I.free,I.freeC,I.pin,I.hok,I.len⟩
def Inv.unwish(I:Inv (X.wish E) aa σ H s):Inv X aa σ H s:=⟨I.ok.unwish,I.os,I.bare,I.base,I.loc,I.cell,I.free,I.freeC,I.pin,I.hok,I.len⟩
def SP.unwish{D:Ends}{f:Flow}{s':Shared}(h:SP (X.wish E) aa D f s'):SP X aa D f s':=by
 cases f with
 |next=>obtain⟨a,H',I,q⟩:=h;exact⟨a,H',I.unwish,q⟩
 |brk=>obtain⟨a,H',I,q⟩:=h;exact⟨a,H',I.unwish,q⟩
 |cont=>obtain⟨a,H',I,q⟩:=h;exact⟨a,H',I.unwish,q⟩
 |ret u=>obtain⟨v,a,H',I,r,q⟩:=h;exact⟨v,a,H',I.unwish,r,q⟩
def PSs.nox{st:List Stmt}{t:TS}(h:PSs X.nox st t):PSs X st t:=fun aa s σ H D I hw=>
 wpAny_mono (h aa s σ H D (I.wish _) hw) (fun _ _ q=>q.unwish) fun _ _ z=>False.elim z
end
section
variable{X:Cx}{st:Stmt}{rest:List Stmt}{t u:TS}{e:Expr}{te:TE}{pos:Pos}
def Iu:TS:=fun D σ H=>D.nx σ H
def nT(t u:TS):TS:=fun D σ H=>t {D with nx:=u D} σ H
def zt:PSs X [] Iu:=fun _ _ σ H _ I h=>wpAny_execs_nil ⟨σ,H,I,h⟩
def ze(h1:PS X st t)(h2:PSs X rest u):PSs X (st::rest) (nT t u):=by
 intro aa s σ H D I h;refine wpAny_execs_cons (aW (h1 aa s σ H {D with nx:=u D} I h) fun f a q=>?_);cases f with
 |next=>
  obtain⟨b,H',c,q⟩:=q;exact h2 aa a b H' D c q
 |ret v=>exact q
 |brk=>exact q
 |cont=>exact q
def zi(h1:PS X st t):PSs X [st] t:=by
 intro aa s σ H D I h;refine wpAny_execs_cons (aW (h1 aa s σ H D I h) fun f a q=>?_);cases f with
 |next=>exact wpAny_execs_nil q
 |ret v=>exact q
 |brk=>exact q
 |cont=>exact q
def Iv:TS:=fun D σ H=>D.bk σ H
def Iw:PS X (.Break pos) Iv:=fun _ _ σ H _ I h=>wpAny_Break ⟨σ,H,I,h⟩
def Inv.quiet{aa:Ψ}{σ:St}{H:Hp}{s:Shared}(I:Inv X aa σ H s):interactive X.env=false:=by simp[interactive,I.ok.kind]
def Ix(te:TE):TS:=fun D σ H=>te σ H fun _ H1=>D.nx σ H1
def eY(he:PE X e te)(b:swapsWith e none pos.line X.env=pure false:=by rfl):PS X (.Expr e pos) (Ix te):=by
 intro aa s σ H D I h;exact wpAny_Expr_any (aW (he aa s σ H _ I h) fun v d ⟨x,H1,c,f,a⟩=>⟨σ,H1,c,a⟩) I.quiet b
def n3(te:TE):TS:=fun D σ H=>te σ H D.rt
def zq(he:PE X e te):PS X (.Return (some e) pos) (n3 te):=by
 intro aa s σ H D I h;exact wpAny_Return_some (aW (he aa s σ H _ I h) fun v d ⟨x,H1,c,a,b⟩=>⟨x,σ,H1,c,a,b⟩)
def n4(c:TT)(t u:TS):TS:=fun D σ H=>c σ H fun b H1=>if b=true then t D σ H1 else u D σ H1
def zR{c:Expr}{a b:List Stmt}{tc:TT}(hc:PT X c tc)(ha:PSs X a t)(hb:PSs X b u):PS X (.If c a b pos) (n4 tc t u):=by
 intro aa s σ H D I h;refine wpAny_If (aW (hc aa s σ H _ I h) fun d e ⟨H1,g,f⟩=>?_);cases d with
 |true=>exact ha aa e σ H1 D g f
 |false=>exact hb aa e σ H1 D g f
def Iy:TS:=fun _ _ _=>False
def Ej{a:List Stmt}:PSs X a Iy:=fun _ _ _ _ _ _ h=>h.elim
end
abbrev TG:=V->St->Hp->(St->Hp->Prop)->Prop
abbrev j5:=List V->St->Hp->(St->Hp->Prop)->Prop
def PG(X:Cx)(b:Expr)(t:TG):Prop:=
 ∀(aa:Ψ)(s:Shared)(σ:St)(H:Hp)(v:V)(u:Value)(Q:St->Hp->Prop),Inv X aa σ H s->RelV v u->t v σ H Q->
  wpAny (model X.prog X.w) X.A (assign b X.env u) (fun _ s'=>∃a H',Inv X aa a H' s'/\Q a H') X.xe s
def qO(X:Cx)(ts:List Expr)(t:j5):Prop:=
 ∀(aa:Ψ)(s:Shared)(σ:St)(H:Hp)(vs:List V)(us:List Value)(Q:St->Hp->Prop),Inv X aa σ H s->Vals vs us->t vs σ H Q->
  wpAny (model X.prog X.w) X.A (assignInOrder ((assignEach ts X.env).map (·.2)) us) (fun _ s'=>∃a H',Inv X aa a H' s'/\Q a H') X.xe s
abbrev j8:=V->V->V->Hp->(Hp->Prop)->Prop
def n5(X:Cx)(t:j8):Prop:=
 ∀(aa:Ψ)(s:Shared)(σ:St)(H:Hp)(o i v:V)(a b u:Value)(Q:Hp->Prop),Inv X aa σ H s->RelV o a->RelV i b->RelV v u->t o i v H Q->
  wpAny (model X.prog X.w) X.A (setItem a b u) (fun _ s'=>∃H',Inv X aa σ H' s'/\Q H') X.xe s
section
variable{X:Cx}{pos:Pos}
def zU(i:Nat):TG:=fun v σ H Q=>Q (σ.set i (some v)) H
def zk{i:Nat}{x:Str}(a:X.N.Nodup)(hi:X.N[i]?=some x)(hx:Loc X.env.scope x)(hf:X.fn x=true\/X.env.scope.names.lookup x=some .local:=by first|exact .inl rfl|exact .inr rfl|assumption):PG X (.Name x pos) (zU i):=by
 intro aa s σ H v u Q I r h;exact wpAny_assign_Name (Ed I a hi hx r (fun s' b=>⟨_,H,b,h⟩) hf)
def fv:j5:=fun vs σ H Q=>vs=[]/\Q σ H
def gi(t:TG)(u:j5):j5:=fun vs σ H Q=>∃v r,vs=v::r/\t v σ H fun a H'=>u r a H' Q
def iP:qO X [] fv:=by
 intro aa s σ H vs us Q I r h;obtain⟨e,h⟩:=h;subst e;cases r;exact assignInOrder_nil ⟨σ,H,I,h⟩
def zC{e:Expr}{es:List Expr}{t:TG}{u:j5}(h1:PG X e t)(h2:qO X es u)(d:(assignEach (e::es) X.env).map (·.2)=assign e X.env::(assignEach es X.env).map (·.2):=by rfl):qO X (e::es) (gi t u):=by
 intro aa s σ H vs us Q I r h;obtain⟨v,g,e1,h⟩:=h;subst e1;cases r with
 |cons r rr=>
  rw[d];refine assignInOrder_cons (aW (h1 aa s σ H _ _ _ I r h) fun _ a ⟨b,H1,f,c⟩=>?_);exact h2 aa a b H1 _ _ Q f rr c
def fw(K:Ae)(n:Nat)(t:j5):TG:=fun v σ H Q=>∃a xs,v=.ref a/\SqT K H a xs/\xs.length=n/\t xs σ H Q
def iT{es:List Expr}{k:Nat}{t:j5}{n:Nat}(hc:X.calm=true)(h:qO X es t)(g:(assignEach es X.env).length=n:=by rfl)(c:(assignEach es X.env).findIdx? (·.1)=none:=by rfl):PG X (.Tuple es k pos) (fw X.K n t):=by
 intro aa s σ H v u Q I r hw;obtain⟨a,xs,e1,hq,f,hw⟩:=hw;subst e1;cases r;obtain⟨ad,d,ht,hz⟩:=I.tuple hq;refine assign_Tuple_tuple (I.ok.hd hc) ht (by simp[g,<-f,d.length]) c fun h' hx=>?_;have i:Inv X aa σ H {s with heap:=h'}:=I.kept (t':=s.toks) fun b o e=>hx b o (Au (Ar e)) e;exact h aa _ σ H xs _ Q i (by simpa using d) hw
def wE(to a:TE)(t:j8):TG:=fun v σ H Q=>to σ H fun o H1=>a σ H1 fun i H2=>t o i v H2 fun H3=>Q σ H3
def wF{o i:Expr}{to c:TE}{t:j8}(q:PE X o to)(hi:PE X i c)(w:n5 X t)(ha:∀v,assign (.Subscript o i pos) X.env v=(do
   let a <-holding [v] (eval o X.env)
   let b <-holding [v,a] (eval i X.env)
   standAt pos
   holding [v,a,b] (setItem a b v)
   release [v,a,b] []):=by intro _;rfl):PG X (.Subscript o i pos) (wE to c t):=by
 intro aa s σ H v u Q I r h;rw[ha];refine Aa (AI (aW (q aa s σ H _ I h) fun a d ⟨x,H1,A,e,f⟩=>?_));refine Aa (AI (aW (hi aa d σ H1 _ A f) fun b g ⟨y,H2,C,j,l⟩=>?_));refine Aa (wpAny_standAt (Aa (AI (aW (w aa g σ H2 x y v a b u _ C e j r l) fun _ E ⟨H3,D,p⟩=>?_))));exact wpAny_release ⟨σ,H3,D,p⟩
def gj(te:TE)(g:TG):TS:=fun D σ H=>te σ H fun x H1=>g x σ H1 D.nx
def n6{tg e:Expr}{te:TE}{g:TG}(he:PE X e te)(d:PG X tg g)(f:swapsWithSole [tg] e pos.line X.env=pure false:=by rfl)(hw:swappedStores [tg] e X.env=pure none:=by rfl)(h1:(assignEach [tg] X.env).map (·.2)=[assign tg X.env]:=by rfl):PS X (.Assign [tg] e pos) (gj te g):=by
 intro aa s σ H D I h;refine wpAny_Assign_stores (aW (he aa s σ H _ I h) fun v a ⟨x,H1,i,b,c⟩=>?_) f hw;rw[h1];exact aW (d aa a σ H1 x v _ i b c) fun _ j q=>q
def zo{i:Nat}{x:Str}{e:Expr}{te:TE}{aM:Pos}(c:X.N.Nodup)(hi:X.N[i]?=some x)(hx:Loc X.env.scope x)(he:PE X e te)(d:swapsWith e (some (.Name x aM)) pos.line X.env=pure false:=by rfl)(hf:X.fn x=true\/X.env.scope.names.lookup x=some .local:=by first|exact .inl rfl|exact .inr rfl|assumption):PS X (.Assign [.Name x aM] e pos) (gj te (zU i)):=by
 intro aa s σ H D I h;refine wpAny_Assign_Name (aW (he aa s σ H _ I h) fun v j ⟨y,H1,f,a,b⟩=>?_) d;exact Ed f c hi hx a (fun l g=>⟨_,H1,g,b⟩) hf
def Iz(c:TT)(tb:TS):TS:=fun D σ H=>∃W:Nat->St->Hp->Prop,(∃m,W m σ H)/\∀m σ H,W m σ H->
 c σ H fun b H1=>if b=true then ∃N:St->Hp->Prop,(∀a H',N a H'->∃d,d<m/\W d a H')/\tb {D with nx:=N,ct:=N,bk:=D.nx} σ H1 else D.nx σ H1
def Ek{c:Expr}{body:List Stmt}{tc:TT}{tb:TS}(hp:PassesOwn (model X.prog X.w) X.A X.env X.xe)(hc:PT X c tc)(hb:PSs X body tb):PS X (.While c body [] pos) (Iz tc tb):=by
 intro aa s σ H D I h;obtain⟨W,⟨x,y⟩,turn⟩:=h;refine wpAny_While (codeAny_whileLoop (fun n s'=>∃p H',Inv X aa p H' s'/\W n p H') ?_ x ⟨σ,H,I,y⟩);rintro n C ⟨g,H1,F,E⟩;refine wpAny_passesOwn hp (aW (hc aa C g H1 _ F (turn n g H1 E)) fun b u ⟨H2,r,d⟩=>?_);cases b with
 |true=>
  obtain⟨N,q,d⟩:=d;rw[RJ rfl];refine wpAny_passesOwn hp (aW (hb aa u g H2 _ r d) fun f G e=>?_);cases f with
  |next=>
   obtain⟨a,H3,o,i⟩:=e;obtain⟨j,hm,l⟩:=q a H3 i;exact⟨j,hm,a,H3,o,l⟩
  |cont=>
   obtain⟨a,H3,o,i⟩:=e;obtain⟨j,hm,l⟩:=q a H3 i;exact⟨j,hm,a,H3,o,l⟩
  |brk=>exact e
  |ret v=>exact e
 |false=>
  rw[RK An];exact wpAny_execs_nil ⟨g,H2,r,d⟩
end
structure It where
 go:Nat->Hp->Prop
 yld:Nat->Hp->V->Hp->Prop
 stop:Nat->Hp->Prop
def bA(X:Cx)(aa:Ψ)(H:Hp)(b:Addr):Prop:=
 H b=none/\b≠X.env.locals/\b∉X.fs/\(b∈X.ex\/X.s₀⁻¹<=b)/\(∀x c,X.env.cells.lookup x=some c->c≠b)/\∀p∈X.pn++aa,p.1≠b
def Inv.fpOk{X:Cx}{aa:Ψ}{σ:St}{H H':Hp}{s:Shared}{b:Addr}(I:Inv X aa σ H s)(hb:s⁻¹<=b)(a:H' b=none):bA X aa H' b:=by
 refine⟨a,A0 (Ax I.lt hb),I.nofs hb,.inr (AC I.sz hb),fun x c e z=>?_,fun p hp z=>?_⟩
 ·obtain⟨v,q⟩:=I.cell x c e
  exact absurd (Ax q.lt (by rw[z];exact hb)) (Qd _)
 ·exact absurd (Ax (Ar (I.pin p hp).1) (by rw[z];exact hb)) (Qd _)
structure Turn(P:Program)(w:World)(K:Ae)(tg:Expr)(J:It)(fp:List Addr)(it:Addr)(tn:Nat->Heap->Prop):Prop where
 mem:it∈fp
 obj:∀i h,tn i h->∀b∈fp,∃o,h.get? b=some o/\∀v,o.data≠.cell v
 keep:∀i h h',tn i h->(∀b∈fp,∀o,h.get? b=some o->h'.get? b=some o)->tn i h'
 item:∀(X:Cx),X.prog=P->X.w=w->X.K=K->X.calm=true->∀(i:Nat)(aa:Ψ)(s:Shared)(σ:St)(H:Hp)(E:Ω),Inv X aa σ H s->(∀b∈fp,bA X aa H b)->tn i s.heap->J.go i H->
  wpAny (model P w) X.A (pyNext (.ref it)) (fun r s1=>∃u,r=some u/\
   wpAny (model P w) X.A (letOwnedTupleGo tg (.ref it) u) (fun _ s2=>∃x H',Inv X aa σ H' s2/\RelV x u/\J.yld i H x H'/\tn (i+1) s2.heap/\∀b∈fp,H' b=none) E s1) E s
 done:∀(X:Cx),X.prog=P->X.w=w->X.K=K->X.calm=true->∀(i:Nat)(aa:Ψ)(s:Shared)(σ:St)(H:Hp)(E:Ω),Inv X aa σ H s->(∀b∈fp,bA X aa H b)->tn i s.heap->J.stop i H->
  wpAny (model P w) X.A (pyNext (.ref it)) (fun r s1=>r=none/\Inv X aa σ H s1) E s
 self:∀(A:Around)(i:Nat)(s:Shared)(Q:Ω)(E:Ω),tn i s.heap->Q (.ref it) s->wpAny (model P w) A (pyIter (.ref it)) Q E s
abbrev TI:=St->Hp->(It->Hp->Prop)->Prop
def qP(X:Cx)(aa:Ψ)(σ:St)(tg:Expr)(R:It->Hp->Prop)(e:Value)(c:Shared):Prop:=
 ∃(it:Addr)(a:List Addr)(d:Nat->Heap->Prop)(J:It)(H':Hp),e=.ref it/\Inv X aa σ H' c/\Turn X.prog X.w X.K tg J a it d/\d 0 c.heap/\(∀b∈a,bA X aa H' b)/\R J H'
def PI(X:Cx)(tg iter:Expr)(wi:TI):Prop:=
 ∀(aa:Ψ)(s:Shared)(σ:St)(H:Hp)(R:It->Hp->Prop),Inv X aa σ H s->wi σ H R->
  wpAny (model X.prog X.w) X.A (eval iter X.env) (fun v a=>wpAny (model X.prog X.w) X.A (pyIter v) (qP X aa σ tg R) X.xe a) X.xe s
def lB{M:Model}{A:Around}{E:Ω}{s:Shared}{tg:Expr}{it:Addr}{u:Value}{o:Obj}{n:String}{vs:Array Value}{Q:Unit->Shared->Prop}(b:s.heap.get? it=some o)(hc:o.cls=.type n)(hd:o.data=.fields vs)(c:["enumerate","zip","dict_itemiterator","dict_reverseitemiterator","odict_iterator","itertools.zip_longest","itertools.pairwise"].contains n=false)(a:Q () s):wpAny M A (letOwnedTupleGo tg (.ref it) u) Q E s:=by
 unfold letOwnedTupleGo;cases tg<;>first
  |exact Ac a
  |(cases u<;>first
    |exact Ac a
    |(refine Aa (wpAny_load b ?_);rw[hc,hd];show wpAny M A (if(["enumerate","zip","dict_itemiterator","dict_reverseitemiterator","odict_iterator","itertools.zip_longest","itertools.pairwise"].contains n&&vs[0]?==some (rawInt _))=true then _ else _) Q E s;rw[RK (by intro h;rw[c,Bool.false_and] at h;cases h)];exact Ac a))
def dI(K:Ae)(a:Addr):It:=
 ⟨fun i H=>∃xs x,SqL K H a xs/\xs[i]?=some x,fun i H x H'=>H'=H/\∀xs,SqL K H a xs->xs[i]?=some x,fun i H=>∃xs,SqL K H a xs/\xs.length<=i⟩
def j9(K:Ae)(a:Addr):It:=
 ⟨fun i H=>∃xs x,SqT K H a xs/\xs[i]?=some x,fun i H x H'=>H'=H/\∀xs,SqT K H a xs->xs[i]?=some x,fun i H=>∃xs,SqT K H a xs/\xs.length<=i⟩
def hB(lo:Int)(n:Nat):It:=⟨fun i _=>i<n,fun i H x H'=>H'=H/\x=.int (lo+i),fun i _=>n<=i⟩
def IA{P:Program}{w:World}{K:Ae}{tg:Expr}(a it:Addr):Turn P w K tg (dI K a) [it] it (fun i h=>h.IsListIter it a i) where
 mem:=by simp
 obj:=fun i h st b hb=>by
  have e:b=it:=by simpa using hb
  subst e;obtain⟨o,e,c,d⟩:=st;exact⟨o,e,fun v z=>by rw[d] at z;cases z⟩
 keep:=fun i h h' st k=>st.at fun o e=>k it (by simp) o e
 item:=by
  intro X f hw g hc i aa s σ H E I hf st j;subst f hw g;obtain⟨xs,x,hq,hx⟩:=j;obtain⟨ad,l,p,hz⟩:=I.list hq;obtain⟨u,hu,F⟩:=l.get hx;obtain⟨q,f1,f2,r,y,A⟩:=hf it (by simp);refine wpAny_pyNext_list_item st p.isList (x:=u) (by simpa using hu) fun h' C sb=>?_;have G:Inv X aa σ H {s with heap:=h'}:=I.turned (t':=s.toks) (fun b o hb e=>(sb.2 b hb).trans e) q f1 r y A;obtain⟨o,e,c,d⟩:=id C;exact⟨u,rfl,lB (s:={s with heap:=h'}) e c d ξ ⟨x,H,G,F,⟨rfl,fun ys hy=>by rw[I.list_inj hy hq];exact hx⟩,C,fun b hb=>(hf b hb).1⟩⟩
 done:=by
  intro X f hw g hc i aa s σ H E I hf st j;subst f hw g;obtain⟨xs,hq,hx⟩:=j;obtain⟨ad,l,p,hz⟩:=I.list hq;obtain⟨q,f1,f2,r,y,A⟩:=hf it (by simp);have J:=l.length;exact wpAny_pyNext_list_end (I.ok.hd hc) st p.isList (by simp;omega) fun h' D=>⟨rfl,I.turned (t':=s.toks) (fun b o hb e=>D b o hb e) q f1 r y A⟩
 self:=fun _ _ _ _ _ st h=>wpAny_pyIter_listiter st h
def IB{P:Program}{w:World}{K:Ae}{tg:Expr}(a it:Addr):Turn P w K tg (j9 K a) [it] it (fun i h=>h.IsTupleIter it a i) where
 mem:=by simp
 obj:=fun i h st b hb=>by
  have e:b=it:=by simpa using hb
  subst e;obtain⟨o,e,c,d⟩:=st;exact⟨o,e,fun v z=>by rw[d] at z;cases z⟩
 keep:=fun i h h' st k=>st.at fun o e=>k it (by simp) o e
 item:=by
  intro X f hw g hc i aa s σ H E I hf st j;subst f hw g;obtain⟨xs,x,hq,hx⟩:=j;obtain⟨ad,l,p,hz⟩:=I.tuple hq;obtain⟨u,hu,F⟩:=l.get hx;obtain⟨q,f1,f2,r,y,A⟩:=hf it (by simp);refine wpAny_pyNext_tuple_item st (show s.heap.IsTuple a ad.toArray from p) (x:=u) (by simpa using hu) fun h' C sb=>?_;have G:Inv X aa σ H {s with heap:=h'}:=I.turned (t':=s.toks) (fun b o hb e=>(sb.2 b hb).trans e) q f1 r y A;obtain⟨o,e,c,d⟩:=id C;exact⟨u,rfl,lB (s:={s with heap:=h'}) e c d ξ ⟨x,H,G,F,⟨rfl,fun ys hy=>by rw[I.tuple_inj hy hq];exact hx⟩,C,fun b hb=>(hf b hb).1⟩⟩
 done:=by
  intro X f hw g hc i aa s σ H E I hf st j;subst f hw g;obtain⟨xs,hq,hx⟩:=j;obtain⟨ad,l,p,hz⟩:=I.tuple hq;obtain⟨q,f1,f2,r,y,A⟩:=hf it (by simp);have J:=l.length;exact wpAny_pyNext_tuple_end (I.ok.hd hc) st (show s.heap.IsTuple a ad.toArray from p) (by simp;omega) fun h' D=>⟨rfl,I.turned (t':=s.toks) (fun b o hb e=>D b o hb e) q f1 r y A⟩
 self:=fun _ _ _ _ _ st h=>wpAny_pyIter_tupleiter st h
def IC{P:Program}{w:World}{K:Ae}{tg:Expr}(it:Addr)(lo:Int)(n:Nat):Turn P w K tg (hB lo n) [it] it (fun i h=>IsRangeIter h it (lo+(i:Nat)*1) ((n:Int)-(i:Nat)) 1) where
 mem:=by simp
 obj:=fun i h st b hb=>by
  have e:b=it:=by simpa using hb
  subst e;exact⟨_,st,fun v z=>by
   have x:Data.fields _=Data.cell v:=z;cases x⟩
 keep:=fun i h h' st k=>k it (by simp) _ st
 item:=by
  intro X a hw c hc i aa s σ H E I hf st d;subst a hw c;obtain⟨f,f1,f2,g,j,l⟩:=hf it (by simp);have W:=Walks.range (prog:=X.prog) (w:=X.w) (I.ok.hd hc) it lo 1 n;refine W.item i s _ _ d st fun v h' tk q p r=>?_;obtain⟨t,rfl⟩:=q;have y:Inv X aa σ H {s with heap:=h',toks:=tk}:=I.turned (fun b o hb e=>r b o (by simpa using hb) e) f f1 g j l;refine⟨_,rfl,lB (s:={s with heap:=h',toks:=tk}) (n:="range_iterator") p rfl rfl ξ ⟨.int (lo+i),H,y,⟨t,?_⟩,⟨rfl,rfl⟩,p,fun b hb=>(hf b hb).1⟩⟩;rw[Int.mul_one]
 done:=by
  intro X a hw c hc i aa s σ H E I hf st d;subst a hw c;obtain⟨f,f1,f2,g,j,l⟩:=hf it (by simp);exact wpAny_pyNext_range_end (I.ok.hd hc) st (by have:n<=i:=d;omega) fun h' u=>⟨rfl,I.turned (t':=s.toks) (fun b o hb e=>u b o hb e) f f1 g j l⟩
 self:=fun _ _ _ _ _ st h=>wpAny_pyIter_rangeiter st h
section
variable{X:Cx}{tg:Expr}
def El(K:Ae)(tl:TE):TI:=fun σ H R=>tl σ H fun x H1=>∃a,x=.ref a/\(∃xs,SqL K H1 a xs)/\R (dI K a) H1
def wH(K:Ae)(tl:TE):TI:=fun σ H R=>tl σ H fun x H1=>∃a,x=.ref a/\(∃xs,SqT K H1 a xs)/\R (j9 K a) H1
def zI{l:Expr}{tl:TE}(g:PE X l tl):PI X tg l (El X.K tl):=by
 intro aa s σ H R I h;refine aW (g aa s σ H _ I h) fun v c ⟨x,H1,I1,d,f⟩=>?_;obtain⟨a,e,⟨xs,hq⟩,q⟩:=f;subst e;cases d;obtain⟨ad,i,p,hz⟩:=I1.list hq;refine wpAny_pyIter_list p.isList ?_;refine⟨c⁻¹,[c⁻¹],_,_,H1,rfl,I1.kept (t':=c.toks) fun b o e=>Ad _ e,IA a _,⟨_,Al _ rfl,rfl,rfl⟩,fun b hb=>?_,q⟩;have e:b=c⁻¹:=by simpa using hb
 subst e;exact I1.fpOk (Ag _) (I1.hok.fresh (Ag _))
def Em{l:Expr}{tl:TE}(g:PE X l tl):PI X tg l (wH X.K tl):=by
 intro aa s σ H R I h;refine aW (g aa s σ H _ I h) fun v c ⟨x,H1,I1,d,f⟩=>?_;obtain⟨a,e,⟨xs,hq⟩,q⟩:=f;subst e;cases d;obtain⟨ad,i,p,hz⟩:=I1.tuple hq;refine wpAny_pyIter_tuple (show c.heap.IsTuple a ad.toArray from p) ?_;refine⟨c⁻¹,[c⁻¹],_,_,H1,rfl,I1.kept (t':=c.toks) fun b o e=>Ad _ e,IB a _,⟨_,Al _ rfl,rfl,rfl⟩,fun b hb=>?_,q⟩;have e:b=c⁻¹:=by simpa using hb
 subst e;exact I1.fpOk (Ag _) (I1.hok.fresh (Ag _))
def ID{aa:Ψ}{σ:St}{H:Hp}{s:Shared}{R:It->Hp->Prop}{E:Ω}{lo hi:Int}{t u v:Tok}{tk:Nat}(I:Inv X aa σ H s)(h1:-(2 ^ 62)<=lo)(h2:lo<2 ^ 62)(a:-(2 ^ 62)<=hi)(c:hi<2 ^ 62)(q:R (hB lo (hi-lo).toNat) H):wpAny (model X.prog X.w) X.A (pyIter (.ref s⁻¹)) (qP X aa σ tg R) E {s with heap:=s.heap.push {cls:=.type "range",data:=.fields #[.int lo t,.int hi u,.int 1 v]},toks:=tk}:=by
 refine wpAny_pyIter_range (IsRange.new ..) (small_one h1 h2 a c) ?_;have I1:Inv X aa σ H {s with heap:=s.heap.push {cls:=.type "range",data:=.fields #[.int lo t,.int hi u,.int 1 v]},toks:=tk}:=I.kept fun b o e=>Ad _ e;refine⟨(s.heap.push {cls:=.type "range",data:=.fields #[.int lo t,.int hi u,.int 1 v]}).objs.size,[(s.heap.push {cls:=.type "range",data:=.fields #[.int lo t,.int hi u,.int 1 v]}).objs.size],_,_,H,rfl,
  I1.kept (t':=tk) fun b o e=>Ad _ e,IC _ lo (hi-lo).toNat,?_,fun b hb=>?_,q⟩
 ·have e1:lo+((0:Nat):Int)*1=lo:=by simp
  have e2:(((hi-lo).toNat:Nat):Int)-((0:Nat):Int)=Builtin.Range.rangeSize lo hi 1:=by rw[rangeSize_one];split<;>omega
  show IsRangeIter _ _ (lo+((0:Nat):Int)*1) ((((hi-lo).toNat:Nat):Int)-((0:Nat):Int)) 1;rw[e1,e2];exact Al _ rfl
 ·have e:b=(s.heap.push {cls:=.type "range",data:=.fields #[.int lo t,.int hi u,.int 1 v]}).objs.size:=by simpa using hb
  subst e;exact I1.fpOk (Ag _) (I1.hok.fresh (Ag _))
def IE(ta:TA):TI:=fun σ H R=>ta σ H fun vs H1=>∃j:Int,vs=[.int j]/\-(2 ^ 62)<=j/\j<2 ^ 62/\R (hB 0 j.toNat) H1
def lH{a:Expr}{ta:TA}{p pos:Pos}(f:Gl X "range")(hm:X.mg "range"=none)(ha:PA X [a] ta)(g:starEach [a] X.env=[(false,eval a X.env)]:=by rfl):PI X tg (.Call (.Name "range" p) [a] [] pos) (IE ta):=by
 intro aa s σ H R I h;refine Call_ (j0 I f hm boot_range (PZ (aW (ha pos aa s σ H _ I h) fun us l ⟨vs,H1,i,c,b⟩=>?_) g rfl));obtain⟨j,e,b,d,q⟩:=b;subst e;cases c with
 |cons r rr=>
  cases rr;obtain⟨t,rfl⟩:=r;exact call_range_1 (ID i ω ω b d (by simpa using q))
def wU(wi:TI)(g:TG)(tb:TS):TS:=fun D σ H=>wi σ H fun J H1=>∃W:Nat->Nat->St->Hp->Prop,(∃m,W 0 m σ H1)/\∀i m σ H,W i m σ H->
 (J.stop i H/\D.nx σ H)\/(J.go i H/\∃N:St->Hp->Prop,(∀a H',N a H'->∃b,b<m/\W (i+1) b a H')/\∀x H',J.yld i H x H'->g x σ H' fun c H2=>tb {D with nx:=N,ct:=N,bk:=D.nx} c H2)
def n7(a:List Addr)(h:Heap):Ψ:=a.filterMap fun b=>(h.get? b).map fun o=>(b,o)
def qR{a:List Addr}{h:Heap}{b:Addr}{o:Obj}(hb:b∈a)(e:h.get? b=some o):(b,o)∈n7 a h:=QL.mpr ⟨b,hb,by rw[e];rfl⟩
def IF{a:List Addr}{h:Heap}{p:Addr×Obj}(hp:p∈n7 a h):p.1∈a/\h.get? p.1=some p.2:=by
 obtain⟨b,hb,e⟩:=QL.mp hp;cases q:h.get? b with
 |none=>rw[q] at e;cases e
 |some o=>
  rw[q] at e;have e':(b,o)=p:=Ah e;subst e';exact⟨hb,q⟩
def Inv.pinned{aa:Ψ}{σ:St}{H:Hp}{s:Shared}{a:List Addr}(I:Inv X aa σ H s)(hf:∀b∈a,bA X aa H b)(f:∀b∈a,∃o,s.heap.get? b=some o/\∀v,o.data≠.cell v):Inv X (aa++n7 a s.heap) σ H s:=
 I.pins_of fun p hp=>(OW.mp hp).elim (fun z=>I.pin p (AQ _ z)) fun z=>by
  obtain⟨hb,e⟩:=IF z;obtain⟨c,f1,f2,_⟩:=hf p.1 hb;obtain⟨o,e',d⟩:=f p.1 hb;rw[e] at e';cases e';exact⟨e,c,f1,f2,d⟩
def Inv.unpinned{aa a:Ψ}{σ:St}{H:Hp}{s:Shared}(I:Inv X (aa++a) σ H s):Inv X aa σ H s:=I.pins_of fun p hp=>I.pin p (AQ _ (PQ _ hp))
def d0{iter:Expr}{body:List Stmt}{wi:TI}{g:TG}{tb:TS}{pos:Pos}(hp:PassesOwn (model X.prog X.w) X.A X.env X.xe)(hc:X.calm=true)(hi:PI X tg iter wi)(hg:PG X tg g)(hb:PSs X body tb)(hs:∀x,foldedSetIterable iter X.env x=pure x:=by intro _;rfl):PS X (.For tg iter body [] pos) (wU wi g tb):=by
 intro aa s σ H D I h;refine wpAny_For (aW (hi aa s σ H _ I h) fun v s1 h1=>aW h1 fun lZ s2 h2=>?_) hs;obtain⟨it,y,M,J,H2,e,I2,T,fq,f2,W,⟨m0,w0⟩,turn⟩:=h2;subst e;have c:∀{H':Hp},(∀b∈y,H' b=none)->∀b∈y,bA X aa H' b:=fun Y b hb=>⟨Y b hb,(f2 b hb).2⟩;refine codeAny_forLoop_any (fun n s'=>∃i C H',Inv X aa C H' s'/\M i s'.heap/\(∀b∈y,H' b=none)/\W i n C H') ?_ m0 ⟨0,σ,H2,I2,fq,fun b hb=>(f2 b hb).1,w0⟩;rintro n O ⟨i,E,H3,U,P,Q,w3⟩;rcases turn i n E H3 w3 with ⟨stop,qn⟩|⟨go,N,hN,step⟩
 ·refine wpAny_passesOwn hp (aW (T.done X rfl rfl rfl hc i aa O E H3 X.xe U (c Q) P stop) fun r s4 ⟨hr,I4⟩=>?_)
  subst hr;exact wpAny_execs_nil ⟨E,H3,I4,qn⟩
 ·refine wpAny_passesOwn hp (aW (T.item X rfl rfl rfl hc i aa O E H3 X.xe U (c Q) P go) fun r s4 ⟨u,hr,h4⟩=>?_)
  subst hr;refine wpAny_passesOwn hp (aW h4 fun _ L ⟨x,S,I5,r5,y5,p,F⟩=>?_);have mU:=I5.pinned (c F) (T.obj _ _ p);refine wpAny_passesOwn hp (aW (hg _ L E S x u _ mU r5 (step x S y5)) fun _ s6 ⟨i5,H6,I6,q6⟩=>?_);refine wpAny_passesOwn hp (aW (hb _ s6 i5 H6 _ I6 q6) fun f G l=>?_);have again:∀{a:St}{j:Hp},Inv X (aa++n7 y L.heap) a j G->N a j->∃m,m<n/\∃i C H',Inv X aa C H' G/\M i G.heap/\(∀b∈y,H' b=none)/\W i m C H':=fun{a j} I7 q=>by
   obtain⟨m',hm,w7⟩:=hN a j q;refine⟨m',hm,i+1,a,j,I7.unpinned,T.keep _ _ _ p fun b hb o e=>(I7.pin (b,o) (AQ _ (AQ _ (qR hb e)))).1,fun b hb=>?_,w7⟩;obtain⟨o,e,d⟩:=T.obj _ _ p b hb;exact(I7.pin (b,o) (AQ _ (AQ _ (qR hb e)))).2.1
  cases f with
  |next=>obtain⟨a,j,I7,q⟩:=l;exact again I7 q
  |cont=>obtain⟨a,j,I7,q⟩:=l;exact again I7 q
  |brk=>obtain⟨a,j,I7,l⟩:=l;exact⟨a,j,I7.unpinned,l⟩
  |ret v=>obtain⟨x7,a,j,I7,r7,l⟩:=l;exact⟨x7,a,j,I7.unpinned,r7,l⟩
end
def iU{K:Ae}{a:Addr}{xs:List V}{g:TG}{tb:TS}{D:Ends}{σ:St}{H:Hp}(b:Nat->St->Hp->Prop)(l:b 0 σ H)(o:∀i σ H,i<=xs.length->b i σ H->SqL K H a xs)(r:∀i x σ H,xs[i]?=some x->b i σ H->g x σ H fun d H2=>tb {D with nx:=b (i+1),ct:=b (i+1),bk:=D.nx} d H2)(hd:∀σ H,b xs.length σ H->D.nx σ H):∃W:Nat->Nat->St->Hp->Prop,(∃m,W 0 m σ H)/\∀i m σ H,W i m σ H->
   ((dI K a).stop i H/\D.nx σ H)\/((dI K a).go i H/\∃N:St->Hp->Prop,(∀f H',N f H'->∃h,h<m/\W (i+1) h f H')/\∀x H',(dI K a).yld i H x H'->g x σ H' fun d H2=>tb {D with nx:=N,ct:=N,bk:=D.nx} d H2):=by
 refine⟨fun i m σ H=>m=xs.length-i/\i<=xs.length/\b i σ H,⟨xs.length,by simp,A1 _,l⟩,?_⟩;rintro i m σ H ⟨rfl,hi,p⟩;have q:=o i σ H hi p
 by_cases c:i<xs.length
 ·refine .inr ⟨⟨xs,xs[i],q,by simp[c]⟩,b (i+1),fun f H' j=>⟨xs.length-(i+1),ω,rfl,c,j⟩,fun x H' y=>?_⟩
  obtain⟨e,y⟩:=y;subst e;exact r i x σ _ (y xs q) p
 ·have e:i=xs.length:=ω
  subst e;exact .inl ⟨⟨xs,q,Ag _⟩,hd σ H p⟩
def IG{K:Ae}{a:Addr}{xs:List V}{g:TG}{tb:TS}{D:Ends}{σ:St}{H:Hp}(b:Nat->St->Hp->Prop)(l:b 0 σ H)(o:∀i σ H,i<=xs.length->b i σ H->SqT K H a xs)(r:∀i x σ H,xs[i]?=some x->b i σ H->g x σ H fun d H2=>tb {D with nx:=b (i+1),ct:=b (i+1),bk:=D.nx} d H2)(hd:∀σ H,b xs.length σ H->D.nx σ H):∃W:Nat->Nat->St->Hp->Prop,(∃m,W 0 m σ H)/\∀i m σ H,W i m σ H->
   ((j9 K a).stop i H/\D.nx σ H)\/((j9 K a).go i H/\∃N:St->Hp->Prop,(∀f H',N f H'->∃h,h<m/\W (i+1) h f H')/\∀x H',(j9 K a).yld i H x H'->g x σ H' fun d H2=>tb {D with nx:=N,ct:=N,bk:=D.nx} d H2):=by
 refine⟨fun i m σ H=>m=xs.length-i/\i<=xs.length/\b i σ H,⟨xs.length,by simp,A1 _,l⟩,?_⟩;rintro i m σ H ⟨rfl,hi,p⟩;have q:=o i σ H hi p
 by_cases c:i<xs.length
 ·refine .inr ⟨⟨xs,xs[i],q,by simp[c]⟩,b (i+1),fun f H' j=>⟨xs.length-(i+1),ω,rfl,c,j⟩,fun x H' y=>?_⟩
  obtain⟨e,y⟩:=y;subst e;exact r i x σ _ (y xs q) p
 ·have e:i=xs.length:=ω
  subst e;exact .inl ⟨⟨xs,q,Ag _⟩,hd σ H p⟩
def w4{lo:Int}{n:Nat}{g:TG}{tb:TS}{D:Ends}{σ:St}{H:Hp}(b:Nat->St->Hp->Prop)(j:b 0 σ H)(l:∀i σ H,i<n->b i σ H->g (.int (lo+i)) σ H fun c H2=>tb {D with nx:=b (i+1),ct:=b (i+1),bk:=D.nx} c H2)(hd:∀σ H,b n σ H->D.nx σ H):∃W:Nat->Nat->St->Hp->Prop,(∃m,W 0 m σ H)/\∀i m σ H,W i m σ H->
   ((hB lo n).stop i H/\D.nx σ H)\/((hB lo n).go i H/\∃N:St->Hp->Prop,(∀d H',N d H'->∃f,f<m/\W (i+1) f d H')/\∀x H',(hB lo n).yld i H x H'->g x σ H' fun c H2=>tb {D with nx:=N,ct:=N,bk:=D.nx} c H2):=by
 refine⟨fun i m σ H=>m=n-i/\i<=n/\b i σ H,⟨n,by simp,A1 _,j⟩,?_⟩;rintro i m σ H ⟨rfl,hi,p⟩
 by_cases a:i<n
 ·refine .inr ⟨a,b (i+1),fun d H' h=>⟨n-(i+1),ω,rfl,a,h⟩,fun x H' y=>?_⟩
  obtain⟨e,y⟩:=y;subst e y;exact l i σ _ a p
 ·have e:i=n:=ω
  subst e;exact .inl ⟨Ag _,hd σ H p⟩
abbrev R2:=V->V->Hp->VK->Prop
def cg(X:Cx)(f:Value->Value->Sem Value)(r:R2):Prop:=
 ∀(aa:Ψ)(s:Shared)(σ:St)(H:Hp)(x y:V)(v u:Value)(Q:VK),Inv X aa σ H s->RelV x v->RelV y u->r x y H Q->
  wpAny (model X.prog X.w) X.A (f v u) (EP X aa σ Q) X.xe s
def xk(X:Cx)(f:Value->Sem Value)(r:V->Hp->VK->Prop):Prop:=
 ∀(aa:Ψ)(s:Shared)(σ:St)(H:Hp)(x:V)(v:Value)(Q:VK),Inv X aa σ H s->RelV x v->r x H Q->
  wpAny (model X.prog X.w) X.A (f v) (EP X aa σ Q) X.xe s
def da(X:Cx)(f:Value)(r:List V->Hp->VK->Prop):Prop:=
 ∀(aa:Ψ)(s:Shared)(σ:St)(H:Hp)(xs:List V)(us:List Value)(Q:VK),Inv X aa σ H s->Vals xs us->r xs H Q->
  wpAny (model X.prog X.w) X.A (call f us) (EP X aa σ Q) X.xe s
def bY(r:R2)(ta tb:TE):TE:=fun σ H Q=>ta σ H fun x H1=>tb σ H1 fun y H2=>r x y H2 Q
def qU(r:V->Hp->VK->Prop)(ta:TE):TE:=fun σ H Q=>ta σ H fun x H1=>r x H1 Q
def rI(C:Int->Int->Prop)(g:Int->Int->V):R2:=fun x y H Q=>∃i j,x=.int i/\y=.int j/\C i j/\Q (g i j) H
def eu(g:Int->Int->V):R2:=fun x y H Q=>∃i j,x=.int i/\y=.int j/\Q (g i j) H
def rU(g:Int->V):V->Hp->VK->Prop:=fun x H Q=>∃i,x=.int i/\Q (g i) H
section
variable{X:Cx}{a b c:Expr}{ta tb tc:TE}{pos:Pos}
def j_(ha:PE X a ta)(hb:PE X b tb){aa:Ψ}{s:Shared}{σ:St}{H:Hp}{R:V->V->Hp->Prop}(I:Inv X aa σ H s)(h:ta σ H fun x H1=>tb σ H1 fun y H2=>R x y H2){Q:Ω}{f:Value->Value->Sem Value}(hf:∀v u c x y H2,Inv X aa σ H2 c->RelV x v->RelV y u->R x y H2->wpAny (model X.prog X.w) X.A (f v u) Q X.xe c):wpAny (model X.prog X.w) X.A (eval a X.env) (fun v d=>wpAny (model X.prog X.w) X.A (eval b X.env) (fun u e=>wpAny (model X.prog X.w) X.A (f v u) Q X.xe e) X.xe d) X.xe s:=by
 refine aW (ha aa s σ H _ I h) fun v g ⟨x,H1,p,i,j⟩=>?_;refine aW (hb aa g σ H1 _ p j) fun u c ⟨y,H2,q,l,o⟩=>?_;exact hf v u c x y H2 q i l o
def zx{op:Operator}{r:R2}(f:cg X (binaryOp op) r)(ha:PE X a ta)(hb:PE X b tb):PE X (.BinOp a op b pos) (bY r ta tb):=by
 intro aa s σ H Q I h;exact wpAny_BinOp (j_ ha hb I h fun v u c x y H2 g d e q=>f aa c σ H2 x y v u Q g d e q)
def lN{op:UnaryOp}{r:V->Hp->VK->Prop}(e:xk X (unaryOp op) r)(ha:PE X a ta):PE X (.UnaryOp op a pos) (qU r ta):=by
 intro aa s σ H Q I h;exact UnaryOp_ (aW (ha aa s σ H _ I h) fun v b ⟨x,H1,f,c,d⟩=>e aa b σ H1 x v Q f c d)
def qX{f:Value->Value->Sem Value}{C:Int->Int->Prop}{g:Int->Int->Int}(rule:∀(i j:Int)(t u:Tok)(s:Shared)(Q:Ω)(E:Ω),C i j->Q (.int (g i j) s.toks) {s with toks:=s.toks+1}->wpAny (model X.prog X.w) X.A (f (.int i t) (.int j u)) Q E s):cg X f (rI C fun i j=>.int (g i j)):=by
 intro aa s σ H x y v u Q I a b h;obtain⟨i,j,rfl,rfl,hc,q⟩:=h;obtain⟨t,rfl⟩:=a;obtain⟨t',rfl⟩:=b;exact rule i j t t' s _ _ hc ⟨.int (g i j),H,I.tok _,⟨_,rfl⟩,q⟩
def n9{f:Value->Value->Sem Value}{g:Int->Int->Int}(rule:∀(i j:Int)(t u:Tok)(s:Shared)(Q:Ω)(E:Ω),Q (.int (g i j) s.toks) {s with toks:=s.toks+1}->wpAny (model X.prog X.w) X.A (f (.int i t) (.int j u)) Q E s):cg X f (eu fun i j=>.int (g i j)):=by
 intro aa s σ H x y v u Q I a b h;obtain⟨i,j,rfl,rfl,q⟩:=h;obtain⟨t,rfl⟩:=a;obtain⟨t',rfl⟩:=b;exact rule i j t t' s _ _ ⟨.int (g i j),H,I.tok _,⟨_,rfl⟩,q⟩
def iV{f:Value->Value->Sem Value}{g:Int->Int->Bool}(rule:∀(i j:Int)(t u:Tok)(s:Shared)(Q:Ω)(E:Ω),Q (.bool (g i j)) s->wpAny (model X.prog X.w) X.A (f (.int i t) (.int j u)) Q E s):cg X f (eu fun i j=>.bl (g i j)):=by
 intro aa s σ H x y v u Q I a b h;obtain⟨i,j,rfl,rfl,q⟩:=h;obtain⟨t,rfl⟩:=a;obtain⟨t',rfl⟩:=b;exact rule i j t t' s _ _ ⟨.bl (g i j),H,I,rfl,q⟩
def xD(i j:Int):Prop:=0<j/\j<1073741824
def n_(i j:Int):Prop:=0<=j/\j<=1000000/\i.natAbs<2 ^ 64
def CMul(i j:Int):Prop:=(-(2 ^ 64)<i/\i<2 ^ 64)\/(-(2 ^ 64)<j/\j<2 ^ 64)
def CMul.ok{i j:Int}(h:CMul i j):IntMulOk i j:=by
 rcases h with ⟨h1,h2⟩|⟨h1,h2⟩
 ·exact .of_left (intBits_le_64 h1 h2)
 ·exact .of_right (intBits_le_64 h1 h2)
def dq:cg X (binaryOp .Add) (eu fun i j=>.int (i+j)):=n9 fun _ _ _ _ _ _ _ q=>add_int q
def iW:cg X (binaryOp .Sub) (eu fun i j=>.int (i-j)):=n9 fun _ _ _ _ _ _ _ q=>sub_int q
def gr:cg X (binaryOp .Mult) (rI CMul fun i j=>.int (i*j)):=qX fun _ _ _ _ _ _ _ hc q=>mul_int q hc.ok
def En:cg X (binaryOp .FloorDiv) (rI xD fun i j=>.int (i / j)):=qX fun i j _ _ _ _ _ hc q=>by
 have h1:(0:Int)<j:=hc.1;have h2:j<1073741824:=hc.2;exact floordiv_int ω (by rw[Int.fdiv_eq_ediv_of_nonneg i ω];exact q) (.inl (PyProof.noPylong_small ω))
def fy:cg X (binaryOp .Mod) (rI (fun _ j=>0<j) fun i j=>.int (i%j)):=qX fun i j _ _ _ _ _ hc q=>by
 have h1:(0:Int)<j:=hc;exact mod_int' ω (by rw[Int.fmod_eq_emod_of_nonneg i ω];exact q)
def xH:cg X (binaryOp .Pow) (rI n_ fun i j=>.int (i ^ j.toNat)):=qX fun _ _ _ _ _ _ _ hc q=>pow_int_small hc.1 hc.2.1 hc.2.2 q
def IH{f:Value->Sem Value}{g:Int->Int}(rule:∀(i:Int)(t:Tok)(s:Shared)(Q:Ω)(E:Ω),Q (.int (g i) s.toks) {s with toks:=s.toks+1}->wpAny (model X.prog X.w) X.A (f (.int i t)) Q E s):xk X f (rU fun i=>.int (g i)):=by
 intro aa s σ H x v Q I a h;obtain⟨i,rfl,q⟩:=h;obtain⟨t,rfl⟩:=a;exact rule i t s _ _ ⟨.int (g i),H,I.tok _,⟨_,rfl⟩,q⟩
def lP:xk X (unaryOp .USub) (rU fun i=>.int (-i)):=IH fun _ _ _ _ _ q=>neg_int q
end
def oe:V->V->Bool
 |.non,.non=>true|.non,.int _=>true|.int _,.non=>true|.non,.bl _=>true|.bl _,.non=>true|.non,.str _=>true|.str _,.non=>true
 |.int _,.int _=>true|.bl _,.bl _=>true|.str _,.str _=>true|.byt _,.byt _=>true
 |.int _,.str _=>true|.str _,.int _=>true|.bl _,.str _=>true|.str _,.bl _=>true
 |_,_=>false
def lS:R2:=fun x y H Q=>oe x y=true/\Q (.bl (decide (x=y))) H
def Eo:R2:=fun x y H Q=>oe x y=true/\Q (.bl (!decide (x=y))) H
def Ep{i j:Int}:decide (V.int i=V.int j)=(i==j):=by
 rw[P9];simp
def gt{i j:Bool}:decide (V.bl i=V.bl j)=(i==j):=by
 rw[P9];simp
def Er{i j:Str}:decide (V.str i=V.str j)=(i==j):=by
 rw[P9];simp
def Es{i j:Array UInt8}:decide (V.byt i=V.byt j)=(i.toList==j.toList):=by
 rw[P9];cases i;cases j;simp
section
variable{X:Cx}{a b c:Expr}{ta tb tc:TE}{pos:Pos}
def aD{aa:Ψ}{σ:St}{H:Hp}{s:Shared}{Q:VK}{k a:Bool}(I:Inv X aa σ H s)(q:Q (.bl k) H)(e:k=a):EP X aa σ Q (.bool a) s:=by
 subst e;exact⟨.bl k,H,I,rfl,q⟩
def db:cg X (AZ .Eq) lS:=by
 intro aa s σ H x y v u Q I c a h;obtain⟨b,q⟩:=h;cases x with
 |non=>
  cases c;cases y with
  |non=>cases a;exact PySem.EqNone.eq_none_none (aD I q (by simp))
  |bl j=>cases a;exact PySem.EqNone.eq_none_bool (aD I q (by simp))
  |int j=>obtain⟨t',rfl⟩:=a;exact PySem.EqNone.eq_none_int (aD I q (by simp))
  |str j=>obtain⟨t',rfl⟩:=a;exact PySem.EqNone.eq_none_str (aD I q (by simp))
  |_=>exact absurd (show false=true from b) An
 |bl i=>
  cases c;cases y with
  |non=>cases a;exact PySem.EqNone.eq_bool_none (aD I q (by simp))
  |bl j=>cases a;exact eq_bool (aD I q gt)
  |str j=>obtain⟨t',rfl⟩:=a;exact PySem.EqMixed.eq_bool_str (aD I q (by simp))
  |_=>exact absurd (show false=true from b) An
 |int i=>
  obtain⟨t,rfl⟩:=c;cases y with
  |non=>cases a;exact PySem.EqNone.eq_int_none (aD I q (by simp))
  |int j=>obtain⟨t',rfl⟩:=a;exact eq_int (aD I q Ep)
  |str j=>obtain⟨t',rfl⟩:=a;exact PySem.EqMixed.eq_int_str (aD I q (by simp))
  |_=>exact absurd (show false=true from b) An
 |str i=>
  obtain⟨t,rfl⟩:=c;cases y with
  |non=>cases a;exact PySem.EqNone.eq_str_none (aD I q (by simp))
  |bl j=>cases a;exact PySem.EqMixed.eq_str_bool (aD I q (by simp))
  |int j=>obtain⟨t',rfl⟩:=a;exact PySem.EqMixed.eq_str_int (aD I q (by simp))
  |str j=>obtain⟨t',rfl⟩:=a;exact eq_str (aD I q Er)
  |_=>exact absurd (show false=true from b) An
 |byt i=>
  obtain⟨t,rfl⟩:=c;cases y with
  |byt j=>obtain⟨t',rfl⟩:=a;exact PySem.W.eq_bytes (aD I q Es)
  |_=>exact absurd (show false=true from b) An
 |_=>cases y<;>exact absurd (show false=true from b) An
def og:cg X (AZ .NotEq) Eo:=by
 intro aa s σ H x y v u Q I c a h;obtain⟨b,q⟩:=h;cases x with
 |non=>
  cases c;cases y with
  |non=>cases a;exact PySem.EqNone.ne_none_none (aD I q (by simp))
  |bl j=>cases a;exact PySem.EqNone.ne_none_bool (aD I q (by simp))
  |int j=>obtain⟨t',rfl⟩:=a;exact PySem.EqNone.ne_none_int (aD I q (by simp))
  |str j=>obtain⟨t',rfl⟩:=a;exact PySem.EqNone.ne_none_str (aD I q (by simp))
  |_=>exact absurd (show false=true from b) An
 |bl i=>
  cases c;cases y with
  |non=>cases a;exact PySem.EqNone.ne_bool_none (aD I q (by simp))
  |bl j=>cases a;exact ne_bool (aD I q (congrArg not gt))
  |str j=>obtain⟨t',rfl⟩:=a;exact PySem.EqMixed.ne_bool_str (aD I q (by simp))
  |_=>exact absurd (show false=true from b) An
 |int i=>
  obtain⟨t,rfl⟩:=c;cases y with
  |non=>cases a;exact PySem.EqNone.ne_int_none (aD I q (by simp))
  |int j=>obtain⟨t',rfl⟩:=a;exact ne_int (aD I q (congrArg not Ep))
  |str j=>obtain⟨t',rfl⟩:=a;exact PySem.EqMixed.ne_int_str (aD I q (by simp))
  |_=>exact absurd (show false=true from b) An
 |str i=>
  obtain⟨t,rfl⟩:=c;cases y with
  |non=>cases a;exact PySem.EqNone.ne_str_none (aD I q (by simp))
  |bl j=>cases a;exact PySem.EqMixed.ne_str_bool (aD I q (by simp))
  |int j=>obtain⟨t',rfl⟩:=a;exact PySem.EqMixed.ne_str_int (aD I q (by simp))
  |str j=>obtain⟨t',rfl⟩:=a;exact ne_str (aD I q (congrArg not Er))
  |_=>exact absurd (show false=true from b) An
 |byt i=>
  obtain⟨t,rfl⟩:=c;cases y with
  |byt j=>obtain⟨t',rfl⟩:=a;exact PySem.W.ne_bytes (aD I q (congrArg not Es))
  |_=>exact absurd (show false=true from b) An
 |_=>cases y<;>exact absurd (show false=true from b) An
def lU:cg X (AZ .Lt) (eu fun i j=>.bl (decide (i<j))):=iV fun _ _ _ _ _ _ _ q=>lt_int q
def qZ:cg X (AZ .LtE) (eu fun i j=>.bl (decide (i<=j))):=iV fun _ _ _ _ _ _ _ q=>le_int q
def oj:cg X (AZ .Gt) (eu fun i j=>.bl (decide (j<i))):=iV fun _ _ _ _ _ _ _ q=>gt_int q
def IJ:cg X (AZ .GtE) (eu fun i j=>.bl (decide (j<=i))):=iV fun _ _ _ _ _ _ _ q=>ge_int q
def hE:cg X (AZ .Is) (fun x y H Q=>y=.non/\Q (.bl (decide (x=.non))) H):=by
 intro aa s σ H x y v u Q I a b h;obtain⟨rfl,q⟩:=h;cases b;refine is_none_gen (aD I q ?_);cases x<;>first
  |(cases a;rfl)
  |(obtain⟨t,rfl⟩:=a;rfl)
def Et:cg X (AZ .IsNot) (fun x y H Q=>y=.non/\Q (.bl (!decide (x=.non))) H):=by
 intro aa s σ H x y v u Q I a b h;obtain⟨rfl,q⟩:=h;cases b;refine isnot_none_gen (aD I q ?_);cases x<;>first
  |(cases a;rfl)
  |(obtain⟨t,rfl⟩:=a;rfl)
def au(b:Expr){op:CmpOp}(h:op≠.In:=by decide)(h2:op≠.NotIn:=by decide):behindInMarks op b=false:=by
 have e1:(op==CmpOp.In)=false:=by cases op<;>first|rfl|exact absurd rfl h
 have e2:(op==CmpOp.NotIn)=false:=by cases op<;>first|rfl|exact absurd rfl h2
 cases b<;>simp[behindInMarks,e1,e2]
def eZ{op:CmpOp}{r:R2}(f:cg X (AZ op) r)(ha:PE X a ta)(hb:PE X b tb)(hm:behindInMarks op b=false):PE X (.Compare a [op] [b] pos) (bY r ta tb):=by
 intro aa s σ H Q I h;exact wpAny_Compare1 (j_ ha hb I h fun v u c x y H2 g d e q=>f aa c σ H2 x y v u Q g d e q) hm
def eI(t:TE):TT:=fun σ H Q=>t σ H fun x H'=>∃k,x=.bl k/\Q k H'
def zn{op:CmpOp}{r:R2}(q:cg X (AZ op) r)(ha:PE X a ta)(hb:PE X b tb)(hm:behindInMarks op b=false):PT X (.Compare a [op] [b] pos) (eI (bY r ta tb)):=by
 intro aa s σ H Q I h;refine wpAny_isTrue_Compare1 (aW (ha aa s σ H _ I h) fun v d ⟨x,H1,w,f,g⟩=>aW (hb aa d σ H1 _ w g) fun u i ⟨y,H2,A,j,l⟩=>
  aW (q aa i σ H2 x y v u _ A f j l) fun c D ⟨z,H3,C,o,k,e,p⟩=>?_) hm
 subst e;cases o;exact wpAny_truthy_bool ⟨H3,C,p⟩
def xN(r b:R2)(ta tb tc:TE):TE:=fun σ H Q=>ta σ H fun x H1=>tb σ H1 fun y H2=>r x y H2 fun z H3=>∃k,z=.bl k/\
 (if k=true then tc σ H3 fun a c=>b y a c Q else Q (.bl false) H3)
def IK{op f:CmpOp}{r l:R2}(N:cg X (AZ op) r)(g:cg X (AZ f) l)(ha:PE X a ta)(hb:PE X b tb)(hc:PE X c tc)(hm:lastMarks [op,f] [b,c]=false:=by with_unfolding_all rfl):PE X (.Compare a [op,f] [b,c] pos) (xN r l ta tb tc):=by
 intro aa s σ H Q I h;refine Compare_chain (aW (ha aa s σ H _ I h) fun v p ⟨x,H1,O,q,w⟩=>chain_link (aW (hb aa p σ H1 _ O w) fun u A ⟨y,H2,P,i,C⟩=>
  aW (N aa A σ H2 x y v u _ P q i C) fun d D ⟨z,H3,o,E,k,e,j⟩=>?_)) hm
 subst e;cases E;refine wpAny_truthy_bool ?_;cases k with
 |false=>exact ite_ff ⟨.bl false,H3,o,rfl,j⟩
 |true=>exact ite_tt (chain_last (aW (hc aa D σ H3 _ o j) fun F G ⟨J,S,T,L,M⟩=>g aa G σ S y J u F Q T i L M))
def Eu{op f:CmpOp}{r l:R2}(S:cg X (AZ op) r)(g:cg X (AZ f) l)(ha:PE X a ta)(hb:PE X b tb)(hc:PE X c tc)(hm:lastMarks [op,f] [b,c]=false:=by with_unfolding_all rfl):PT X (.Compare a [op,f] [b,c] pos) (eI (xN r l ta tb tc)):=by
 intro aa s σ H Q I h;refine isTrue_chain (aW (ha aa s σ H _ I h) fun v p ⟨x,H1,T,q,w⟩=>test_link (aW (hb aa p σ H1 _ T w) fun u A ⟨y,H2,U,i,C⟩=>
  aW (S aa A σ H2 x y v u _ U q i C) fun d D ⟨z,H3,o,E,k,e,j⟩=>?_)) hm
 subst e;cases E;refine wpAny_truthy_bool ?_;cases k with
 |false=>
  obtain⟨k',e',P⟩:=j;cases e';exact ite_ff ⟨H3,o,P⟩
 |true=>
  refine ite_tt (test_last (aW (hc aa D σ H3 _ o j) fun F G ⟨J,W,Y,L,M⟩=>aW (g aa G σ W y J u F _ Y i L M) fun d' s5 ⟨z2,H5,I5,N,k2,e2,O⟩=>?_));subst e2;cases N;exact wpAny_truthy_bool ⟨H5,I5,O⟩
def dk:(sizeLine:Nat)<2 ^ 63:=by rw[sizeLine_eq];decide
def vals1{x:V}{us:List Value}(r:Vals [x] us):∃u,us=[u]/\RelV x u:=by
 cases r with
 |cons r1 r2=>cases r2;exact⟨_,rfl,r1⟩
def vals2{x y:V}{us:List Value}(r:Vals [x,y] us):∃u a,us=[u,a]/\RelV x u/\RelV y a:=by
 cases r with
 |cons r1 r2=>
  cases r2 with
  |cons r3 r4=>cases r4;exact⟨_,_,rfl,r1,r3⟩
def x0(K:Ae)(x:V)(H:Hp)(n:Nat):Prop:=
 match x with
 |.str y=>y.length<=sizeLine/\n=y.length
 |.byt y=>y.size<=sizeLine/\n=y.size
 |.ref p=>(∃xs,SqL K H p xs/\n=xs.length)\/∃xs,SqT K H p xs/\n=xs.length
 |_=>False
def Ev:da X (.builtin "len") (fun xs H Q=>∃x n,xs=[x]/\x0 X.K x H n/\Q (.int n) H):=by
 intro aa s σ H xs us Q I r h;obtain⟨x,n,rfl,e,q⟩:=h;obtain⟨u,rfl,b⟩:=vals1 r;have f:=dk;have g:sizeLine=16777216:=sizeLine_eq;cases x with
 |str y=>
  obtain⟨t,rfl⟩:=b;obtain⟨hy,e'⟩:y.length<=sizeLine/\n=y.length:=e;subst e';exact len_str ω ⟨.int _,H,I.tok _,⟨_,rfl⟩,q⟩
 |byt y=>
  obtain⟨t,rfl⟩:=b;obtain⟨hy,e'⟩:y.size<=sizeLine/\n=y.size:=e;subst e';exact PySem.W.len_bytes ω ⟨.int _,H,I.tok _,⟨_,rfl⟩,q⟩
 |ref p=>
  cases b;have e':(∃xs,SqL X.K H p xs/\n=xs.length)\/∃xs,SqT X.K H p xs/\n=xs.length:=e;rcases e' with ⟨xs,hx,e'⟩|⟨xs,hx,e'⟩
  ·subst e'
   obtain⟨ad,c,d,hz⟩:=I.list hx;have a:=c.length;exact Calls.call_len_list d.isList (by simp only[Am];omega) ⟨.int xs.length,H,I.tok _,⟨_,by simp only[Am];rw[a]⟩,q⟩
  ·subst e'
   obtain⟨ad,c,d,hz⟩:=I.tuple hx;have a:=c.length;exact len_tuple d (by simp only[Am];omega) ⟨.int xs.length,H,I.tok _,⟨_,by simp only[Am];rw[a]⟩,q⟩
 |_=>exact(show False from e).elim
end
structure ObjM(h:Heap)(x dx C:Addr)(mA:Str->Option Value):Prop where
 obj:h.get? x=some (RE C dx)
 ns:h.Ns1 dx mA
 ne:dx≠x
def IL{h:Heap}{dx:Addr}{mA:Str->Option Value}(n:h.Ns1 dx mA):∃b,h.get? dx=some b/\∀name,RF name b=some (mA name):=by
 obtain⟨o,es,ep,c,hd,hk,_,hm⟩:=n;refine⟨o,c,fun name=>?_⟩;have e:=hm name;unfold nsFind findBy at e;rw[<-Array.find?_toList] at e;unfold RF;rw[hd];dsimp only;split
 ·rename_i y q
  rw[q] at e;exact congrArg some e
 ·rename_i q
  rw[q] at e;have a:es.toList.any (·.refKey)=false:=by
   rw[QR];intro y hy;obtain⟨z,t,d⟩:=hk y (Array.mem_toList_iff.mp hy);simp[DictEntry.refKey,d]
  have f:¬es.toList.any (·.refKey)=true:=by rw[a];exact An
  rw[RK f];exact congrArg some e
def ObjM.look{h:Heap}{x dx C:Addr}{mA:Str->Option Value}(I:ObjM h x dx C mA):∃a,PySem.W.InstAt h x (RE C dx) C (some a)/\∀name,RF name a=some (mA name):=
 let ⟨a,ho,hl⟩:=IL I.ns
 ⟨a,⟨I.obj,rfl,rfl,ho⟩,hl⟩
section
variable{prog:Program}{w:World}{A:Around}{E:Ω}{s:Shared}{K:Ae}{x dx C f:Addr}{mA:Str->Option Value}{name:Str}{v:Value}
def x2{b:Bool}{Q:Ω}(X:K.In s.heap)(I:ObjM s.heap x dx C mA)(c:Rv K C name=true)(d:PySem.W.hasDictIn K C=true)(ha:PySem.W.findIn K (.ref C) name=some none)(e:mA name=some v)(f:PySem.W.handedIn v=true)(h:Q v {s with toks:=s.toks+1}):wpAny (model prog w) A (getAttr (.ref x) name b) Q E s:=by
 obtain⟨g,J,a⟩:=I.look;exact PySem.W.get_value X J (PySem.W.plainGet_of c).1 (PySem.W.findObj_own d ha rfl (by rw[a,e])) f h
end
def RelO.some_of{v:V}{o:Option Value}(r:RelO (some v) o):∃u,o=some u/\RelV v u:=by
 cases o with
 |none=>exact(show False from r).elim
 |some u=>exact⟨u,rfl,r⟩
structure Cls(K:Ae)(C:Addr):Prop where
 pg:Rv K C Str.empty=true
 hd:PySem.W.hasDictIn K C=true
 po:PySem.W.plainOver K C=true
 sa:PySem.W.findIn K (.ref C) "__setattr__"=some (some (.builtin "object.__setattr__"))
def Cls.get{K:Ae}{C:Addr}(c:Cls K C)(f:Str):Rv K C f=true:=c.pg
structure Room(k:Nat)(A:Around):Prop where
 hd:A.handled=none
 dp:A.depth+3*k+5<recursionLimit
 un:A.units+16*k+200<cLine
def Room.mono{j k:Nat}{A:Around}(r:Room k A)(h:j<=k):Room j A:=⟨r.hd,by have:=r.dp;omega,by have:=r.un;omega⟩
def Room.deeper{k:Nat}{A:Around}(r:Room (k+1) A)(env:Env):Room k (A.deeper env):=
 ⟨r.hd,by have:=r.dp;show A.depth+1+3*k+5<_;omega,by have:=r.un;show A.units+3+16*k+200<_;omega⟩
def Room.in1{k:Nat}{A:Around}(r:Room (k+1) A):Room k A.in1:=
 ⟨r.hd,by have:=r.dp;show A.depth+3*k+5<_;omega,by have:=r.un;show A.units+1+16*k+200<_;omega⟩
def Room.depth{k:Nat}{A:Around}(r:Room k A):A.depth<recursionLimit:=by have:=r.dp;omega
def Room.units{k:Nat}{A:Around}(r:Room k A):A.units+64<cLine:=by have:=r.un;omega
def bb:TA:=fun _ H Q=>Q [] H
def zH(ta:TE)(a:TA):TA:=fun σ H Q=>ta σ H fun x H1=>a σ H1 fun xs H2=>Q (x::xs) H2
section
variable{X:Cx}{e:Expr}{es:List Expr}{te:TE}{t:TA}{pos:Pos}
def zd:PA X [] bb:=fun _ _ _ _ H Q I h=>Calls.spliced_nil ⟨[],H,I,.nil,h⟩
def zc(ha:PE X e te)(hr:PA X es t)(g:starEach (e::es) X.env=(false,eval e X.env)::starEach es X.env:=by rfl):PA X (e::es) (zH te t):=by
 intro pos aa s σ H Q I h;rw[g];show wpAny _ _ (spliced ((false,eval e X.env)::backTo pos (starEach es X.env))) _ _ s;refine Calls.spliced_cons (aW (ha aa s σ H _ I h) fun u a ⟨x,H1,i,b,c⟩=>?_);exact aW (hr pos aa a σ H1 _ i c) fun us l ⟨xs,H2,j,d,f⟩=>⟨x::xs,H2,j,.cons b d,f⟩
def ck(t:TA):TE:=fun σ H Q=>t σ H fun xs H1=>xs.length<=sizeLine/\∀p,H1 p=none->Q (.ref p) (upd H1 p (.tup xs))
def ot(t:TA):TE:=fun σ H Q=>t σ H fun xs H1=>xs.length<=sizeLine/\∀p,H1 p=none->Q (.ref p) (upd H1 p (.lst xs))
def dL{x1}(h:PA X es t):PE X (.Tuple es x1 pos) (ck t):=by
 intro aa s σ H Q I hq;refine wpAny_Tuple_spliced (aW (h pos aa s σ H _ I hq) fun us a ⟨xs,H1,I1,r,z,q⟩=>⟨by rw[<-r.length];exact z,?_⟩);have hf:H1 a⁻¹=none:=I1.hok.fresh (Ag _);refine⟨.ref a⁻¹,upd H1 a⁻¹ (.tup xs),I1.laid (t':=a.toks) (fun b u e=>Ad _ e) (Ag _) ?_,rfl,q _ hf⟩;exact⟨z,us,r,⟨_,Al _ rfl,rfl,_,rfl⟩⟩
def zV(h:PA X es t):PE X (.List es pos) (ot t):=by
 intro aa s σ H Q I hq;refine wpAny_List_spliced (aW (h pos aa s σ H _ I hq) fun us a ⟨xs,H1,I1,r,z,q⟩=>⟨by rw[<-r.length];exact z,?_⟩);have hf:H1 a⁻¹=none:=I1.hok.fresh (Ag _);refine⟨.ref a⁻¹,upd H1 a⁻¹ (.lst xs),I1.laid (t':=a.toks) (fun b u e=>Ad _ e) (Ag _) ?_,rfl,q _ hf⟩;exact⟨z,us,0,r,Al _ rfl⟩
end
abbrev Sp:=List V->Hp->VK->XK->Prop
abbrev eH:=List Env->Hp->Shared->XK->Ω
structure Env0(P:Program)(w:World)(K:Ae)(mg:Str->Option Value)(base:Heap)(A:Around)(outer:List Env)(s:Shared)(H:Hp):Prop where
 frames:A.frames=some outer
 mod:Mod K mg base
 bs:∀b o,base.get? b=some o->s.heap.get? b=some o/\H b=none
 bsz:base.objs.size<=s⁻¹
 funs:s.heap.FunFrames base outer
 frf:∀b∈frs outer,H b=none
 hok:HOk P w H s.heap
 bare:AllBare s.gens
def CE(outer:List Env)(P:Program)(w:World)(H:Hp)(s:Shared)(Q:VK)(u:Value)(s':Shared):Prop:=
 ∃v H',s'.os=s.os/\AllBare s'.gens/\Un (frs outer) [] H H' s.heap s'.heap/\HOk P w H' s'.heap/\RelV v u/\Q v H'
def CR(CX:eH)(outer:List Env)(P:Program)(w:World)(H:Hp)(s:Shared)(Q:VK)(E:XK)(r:Result)(s':Shared):Prop:=
 match r with
 |.ok (.ret u)=>CE outer P w H s Q u s'
 |.ok _=>False
 |.error e=>CX outer H s E e s'
structure FnOk(P:Program)(w:World)(K:Ae)(mg:Str->Option Value)(base:Heap)(CX:eH)(k:Nat)(f:Addr)(fd:FuncData)(ps:List Str)(sp:Sp):Prop where
 len:∀vs H Q E,sp vs H Q E->vs.length=ps.length
 run:∀(A:Around)(outer:List Env)(s:Shared)(H:Hp)(args:Args)(us:List Value)(vs:List V)(Q:VK)(E:XK),Room k A->Env0 P w K mg base A outer s H->BindsTo s fd args (ps.zip us)->Vals vs us->sp vs H Q E->
  codeAny (model P w) A (.call (.ref f) args) (CR CX outer P w H s Q E) s
def Env0.in1{P:Program}{w:World}{K:Ae}{mg:Str->Option Value}{base:Heap}{A:Around}{outer:List Env}{s:Shared}{H:Hp}(e:Env0 P w K mg base A outer s H):Env0 P w K mg base A.in1 outer s H:=⟨e.frames,e.mod,e.bs,e.bsz,e.funs,e.frf,e.hok,e.bare⟩
section
variable{X:Cx}{aa:Ψ}{σ:St}{H:Hp}{s s':Shared}
def Inv.env0(I:Inv X aa σ H s):Env0 X.prog X.w X.K X.mg X.base X.A X.stack s H:=
 ⟨I.ok.frames,I.ok.mod,I.bs,AC I.ok.bsz I.sz,I.stack,I.stkFree,I.hok,I.bare⟩
def Inv.after{Q:VK}{u:Value}(I:Inv X aa σ H s)(h:CE X.stack X.prog X.w H s Q u s'):EP X aa σ Q u s':=by
 obtain⟨v,H',os,a,un,c,r,q⟩:=h;obtain⟨e,g,d,t,f⟩:=s';obtain rfl:f=s.os:=os;exact⟨v,H',I.call (h':=e) (g':=g) (d':=d) (t':=t) (ch:=[]) un c a (fun b z=>absurd z (by simp)),r,q⟩
end
def kb(sp:Sp)(fW:List V)(E:XK)(t:TA):TE:=fun σ H Q=>t σ H fun vs H1=>sp (vs++fW) H1 Q E
def Binds(K:Ae)(fd:FuncData)(ps:List Str)(ds:List Value):Prop:=
 ∀(s:Shared)(us:List Value),K.In s.heap->(us++ds).length=ps.length->BindsTo s fd ⟨us,[]⟩ (ps.zip (us++ds))
def Binds.all{K:Ae}{fd:FuncData}{ps:List Str}(h:∀us:List Value,us.length=ps.length->bindArgs fd ⟨us,[]⟩=pure (ps.zip us)):Binds K fd ps []:=fun s us _ a=>by
 rw[Ps] at a ⊢;exact .of_eq (h us a)
def dM(CX:eH)(X:Cx)(E:XK):Prop:=∀(aa:Ψ)(σ:St)(H:Hp)(s:Shared)(e:Value)(s':Shared),Inv X aa σ H s->CX X.stack H s E e s'->X.xe e s'
section
variable{X:Cx}{CX:eH}{k:Nat}{f C:Addr}{fd:FuncData}{ps:List Str}{sp:Sp}{fW:List V}{ds:List Value}{E:XK}{x m:Str}{p pos aH:Pos}{e o:Expr}{es:List Expr}{ta:TE}{t:TA}
def IM{aa:Ψ}{σ:St}{H:Hp}{s:Shared}{Q:VK}{us:List Value}{vs:List V}(F:FnOk X.prog X.w X.K X.mg X.base CX k f fd ps sp)(hr:Room k X.A)(hb:Binds X.K fd ps ds)(hd:Vals fW ds)(hx:dM CX X E)(I:Inv X aa σ H s)(r:Vals vs us)(h:sp (vs++fW) H Q E):wpAny (model X.prog X.w) X.A (call (.ref f) us) (EP X aa σ Q) X.xe s:=by
 have a:Vals (vs++fW) (us++ds):=r.append hd;have b:(us++ds).length=ps.length:=by rw[<-a.length];exact F.len _ _ _ _ h
 refine wpAny_call (codeAny_mono (F.run X.A X.stack s H ⟨us,[]⟩ (us++ds) (vs++fW) Q E hr I.env0 (hb s us I.kIn b) a h) fun r s' hq=>?_);cases r with
 |error e=>exact hx aa σ H s e s' I hq
 |ok fl=>
  cases fl with
  |ret u=>exact I.after hq
  |next=>exact False.elim hq
  |brk=>exact False.elim hq
  |cont=>exact False.elim hq
def z0(F:FnOk X.prog X.w X.K X.mg X.base CX k f fd ps sp)(hr:Room k X.A)(b:Gl X x)(hm:X.mg x=some (.ref f))(hk:QS X.K (.ref f)=true)(hb:Binds X.K fd ps ds)(hd:Vals fW ds)(hx:dM CX X E)(ha:PA X (e::es) t)(c:(x==("__debug__":Str))=false:=by decide)(he:starEach (e::es) X.env=(false,eval e X.env)::starEach es X.env:=by rfl)(a:(backTo pos (starEach es X.env)).any (·.1)=false:=by rfl):PE X (.Call (.Name x p) (e::es) [] pos) (kb sp fW E t):=by
 intro aa s σ H Q I h;refine wpAny_Call_Name_kw (Ee I b hm ?_ c);refine PySem.W.callWith_K (h₀:=X.base) I.ok.mod.kin hk (aW (ha pos aa s σ H _ I h) fun us d ⟨vs,H1,I1,r,q⟩=>⟨I1.kIn,?_⟩) he a;exact IM F hr hb hd hx I1 r q
end
structure zr(N P:List Str)(sc:Scope):Prop where
 kind:sc.kind=.function
 co:sc.isCoroutine=false
 gen:sc.isGenerator=false
 nd:N.Nodup
 pre:N.take P.length=P
 par:∀x∈P,sc.names.lookup x=some .local\/sc.names.lookup x=some .cell
 nofree:∀y∈sc.names,y.2≠.free
def Ew{kindOf:Str->Option NameKind}{x:Str}:∀{binds:List (Str×Value)}{m:Str->Option Value},(∀v,(x,v)∉binds)->bindL kindOf binds m x=m x
 |[],_,_=>rfl
 |(n,v)::r,m,h=>by
  unfold bindL;rw[Ew fun w hw=>h w (As _ hw)];split
  ·have:x≠n:=by rintro rfl;exact h v Av
   simp[this]
  ·rfl
def Ex{kindOf:Str->Option NameKind}{x:Str}:∀{binds:List (Str×Value)}{m:Str->Option Value},(∀v,(x,v)∉binds)->bindC kindOf binds m x=m x
 |[],_,_=>rfl
 |(n,v)::r,m,h=>by
  unfold bindC;rw[Ex fun w hw=>h w (As _ hw)];split
  ·rfl
  ·have:x≠n:=by rintro rfl;exact h v Av
   simp[this]
def Ey{kindOf:Str->Option NameKind}{x:Str}{v:Value}:∀{P:List Str}{vs:List Value}{i:Nat}{m:Str->Option Value},P.Nodup->P[i]?=some x->vs[i]?=some v->kindOf x=some .local->
  bindL kindOf (P.zip vs) m x=some v
 |[],_,_,_,_,h,_,_=>by simp at h
 |_::_,[],_,_,_,_,h,_=>by simp at h
 |p::P,w::vs,0,m,nd,h1,h2,hk=>by
  simp at h1 h2;subst h1;subst h2;show bindL kindOf ((p,w)::P.zip vs) m p=_;unfold bindL;rw[Ew fun v a=>(Qo.mp nd).1 (Qp a).1,RJ hk];simp
 |p::P,w::vs,i+1,m,nd,h1,h2,hk=>by
  show bindL kindOf ((p,w)::P.zip vs) m x=_;unfold bindL;exact Ey (i:=i) (Qo.mp nd).2 (by simpa using h1) (by simpa using h2) hk
def Ez{kindOf:Str->Option NameKind}{x:Str}{v:Value}:∀{P:List Str}{vs:List Value}{i:Nat}{m:Str->Option Value},P.Nodup->P[i]?=some x->vs[i]?=some v->kindOf x≠some .local->
  bindC kindOf (P.zip vs) m x=some v
 |[],_,_,_,_,h,_,_=>by simp at h
 |_::_,[],_,_,_,_,h,_=>by simp at h
 |p::P,w::vs,0,m,nd,h1,h2,hk=>by
  simp at h1 h2;subst h1;subst h2;show bindC kindOf ((p,w)::P.zip vs) m p=_;unfold bindC;rw[Ex fun v a=>(Qo.mp nd).1 (Qp a).1,RK hk];simp
 |p::P,w::vs,i+1,m,nd,h1,h2,hk=>by
  show bindC kindOf ((p,w)::P.zip vs) m x=_;unfold bindC;exact Ez (i:=i) (Qo.mp nd).2 (by simpa using h1) (by simpa using h2) hk
def start(N:List Str)(vs:List V):St:=vs.map some++List.replicate (N.length-vs.length) none
def b0(CX:eH)(P:Program)(w:World)(K:Ae)(mg:Str->Option Value)(base:Heap)(N:List Str)(a:Str)(scope:Scope)(f:Addr)(b:Value)(A:Around)(outer:List Env)(s:Shared)(H:Hp)(E:XK):Cx where
 prog:=P
 w:=w
 K:=K
 mg:=mg
 base:=base
 A:=A.deeper (envOfC a scope s⁻¹ f b)
 N:=N
 s₀:=s
 H₀:=H
 env:=envOfC a scope s⁻¹ f b
 outer:=outer
 stack:=envOfC a scope s⁻¹ f b::outer
 ex:=[]
 calm:=true
 fn:=fun _=>true
 pn:=[]
 xe:=fun e s'=>wpAny (model P w) (A.deeper (envOfC a scope s⁻¹ f b)) (leaving (envOfC a scope s⁻¹ f b) e) (fun _ c=>CX outer H s E e c) (fun e' c=>CX outer H s E e' c) s'
def EA{sc:Scope}{n:Nat}{x:Str}(h:sc.names.lookup x=some .cell):∃c,(cellsFrom n sc.names []).lookup x=some c:=by
 have q:=P0 sc.names n [] (.inl h);exact Po.mp q
def IN{CX:eH}{P:Program}{w:World}{K:Ae}{mg:Str->Option Value}{base:Heap}{N ps:List Str}{l:Str}{scope:Scope}{f:Addr}{o:Value}{A:Around}{outer:List Env}{s C:Shared}{H:Hp}{E:XK}{us:List Value}{vs:List V}(S:zr N ps scope)(hd:A.handled=none)(d:Env0 P w K mg base A outer s H)(I:vs.length=ps.length)(r:Vals vs us)(x:InCallC s s⁻¹ (bindL (envOfC l scope s⁻¹ f o).kindOf (ps.zip us) fun _=>none) (cellsFrom (s⁻¹+1) scope.names []) (bindC (envOfC l scope s⁻¹ f o).kindOf (ps.zip us) fun _=>none) C):Inv (b0 CX P w K mg base N l scope f o A outer s H E) [] (start N vs) H C:=by
 have F:ps.length<=N.length:=by have:=congrArg List.length S.pre;rw[AD] at this;omega
 obtain⟨h1,tk,rfl,hk⟩:=x.done;have g:∀b:Addr,b∉(b0 CX P w K mg base N l scope f o A outer s H E).ex:=fun b z=>absurd (show b∈([]:List Addr) from z) (by simp);refine⟨⟨d.mod,S.kind,rfl,rfl,Ag _,fun y z c h1 h2=>?_,fun y hy=>?_,fun y c _ h=>?_,fun _=>hd,Around.frames_deeper d.frames,.inr ⟨rfl,rfl⟩,fun b z=>absurd z (g b),d.bs,d.bsz,fun b _ _=>g b,fun b z=>absurd z (g b),d.funs,d.frf⟩,
  rfl,d.bare,Un.kept hk,⟨_,x.toInCall.ns,fun i y v h1 h2 G=>?_⟩,fun y c h=>⟨_,x.cell y c h⟩,d.hok.fresh (Ag _),fun y c h=>?_,fun p hp=>absurd (show p∈([]:Ψ) from hp) (by simp),d.hok.kept hk,?_⟩
 ·exact name_of_addr x.apart (A5 h1) (A5 h2)
 ·have hy:scope.names.lookup y=some .cell\/scope.names.lookup y=some .free:=hy
  rcases hy with hy|hy
  ·exact EA hy
  ·exact absurd rfl (S.nofree _ (A5 hy))
 ·exact PY (x.above y c (A5 h))
 ·have hi:i<vs.length:=by
   unfold start at h2
   by_cases hi:i<vs.length
   ·exact hi
   ·rw[Py (by simpa using hi)] at h2
    rw[List.getElem?_replicate] at h2;split at h2<;>cases h2
  have ha:vs[i]?=some v:=by
   unfold start at h2;rw[PH (by simpa using hi),Af] at h2;cases e:vs[i]? with
   |none=>rw[e] at h2;cases h2
   |some a=>rw[e] at h2;cases h2;rfl
  obtain⟨u,hu,D⟩:=r.get ha;have hp:ps[i]?=some y:=by
   rw[<-S.pre,Pp ω];exact h1
  have j:ps.Nodup:=by rw[<-S.pre];exact S.nd.sublist (List.take_sublist _ _)
  refine⟨u,D,?_⟩;rcases S.par y (Aj hp) with k|k
  ·exact .inl ⟨k,Ey j hp hu k⟩
  ·obtain⟨c,e⟩:=EA (n:=s⁻¹+1) k
   refine .inr ⟨.inl k,c,e,?_⟩;have q:=x.cell y c e;rw[Ez j hp hu (by show scope.names.lookup y≠_;rw[k];decide)] at q;exact q
 ·exact d.hok.fresh (PY (x.above y c (A5 h)))
 ·unfold start
  show _=N.length;rw[Ap,Ab,List.length_replicate];omega
def EB{CX:eH}{P:Program}{w:World}{K:Ae}{mg:Str->Option Value}{base:Heap}{k:Nat}{f:Addr}{name a:Str}{i:Arguments}{body:List Stmt}{scope:Scope}{j kV l p cdv ct X:Value}{C Y:Option Addr}{L:Array (Option Value)}{N ps:List Str}{sp:Sp}(lk:K.lookup f=some ⟨X,Y,.func (Ql name a i body scope j kV l p C cdv ct),L⟩)(M:Rk K cdv a=true)(S:zr N ps scope)(len:∀vs H Q E,sp vs H Q E->vs.length=ps.length)(a9:∀(A:Around)(outer:List Env)(s:Shared)(H:Hp)(vs:List V)(Q:VK)(E:XK),Room k (A.deeper (envOfC a scope s⁻¹ f cdv))->sp vs H Q E->
   ∃t,PSs (b0 CX P w K mg base N a scope f cdv A outer s H E) body t/\t {nx:=fun _ H'=>Q .non H',rt:=Q} (start N vs) H):
  FnOk P w K mg base CX (k+1) f (Ql name a i body scope j kV l p C cdv ct) ps sp:=by
 refine⟨len,fun A outer s H args us vs Q E hr d hb r D=>?_⟩;have O:=len _ _ _ _ D;have G:K.In s.heap:=d.mod.kin.keeps fun b o e=>(d.bs b o e).1;have T:s.heap.NoLimit:=d.mod.nolimit.keeps fun b o e=>(d.bs b o e).1;have U:∀y∈ps.zip us,scope.names.lookup y.1=some .local\/(scope.names.lookup y.1=some .cell/\((cellsFrom (s⁻¹+1) scope.names []).lookup y.1).isSome=true):=fun⟨n,v⟩ hy=>by
  rcases S.par n (Qp hy).1 with q|q
  ·exact .inl q
  ·exact .inr ⟨q,P0 _ _ _ (.inl q)⟩
 refine codeAny_call_function hr.depth (G _ _ lk) rfl S.co S.gen rfl (PySem.W.codeRec_of G M) (hb _ _ _ _ ?_);refine wpAny_newFunctionEnv_cells S.kind U fun env he F x=>?_;subst he;refine⟨T.keeps x.toInCall.keep,codeAny_func ?_⟩;obtain⟨t,ht,hq⟩:=a9 A outer s H vs Q E (hr.deeper _) D;have I:Inv (b0 CX P w K mg base N a scope f cdv A outer s H E) [] (start N vs) H F:=IN S hr.hd d O r x;refine wpAny_mono (ht [] F (start N vs) H _ I hq) (fun fl s' c=>?_) fun e s' c=>c;have fin:∀{g:St}{H':Hp}{v:V}{u:Value},Inv (b0 CX P w K mg base N a scope f cdv A outer s H E) [] g H' s'->RelV v u->Q v H'->CE outer P w H s Q u s':=
  fun{g H' v u} J h q=>⟨v,H',J.os,J.bare,J.base,J.hok,h,q⟩
 cases fl with
 |ret u=>
  obtain⟨v,g,H',J,h,q⟩:=c;exact fin J h q
 |next=>
  obtain⟨g,H',J,q⟩:=c;exact fin (v:=V.non) (u:=Value.none) J rfl q
 |brk=>
  obtain⟨_,_,_,q⟩:=c;exact False.elim q
 |cont=>
  obtain⟨_,_,_,q⟩:=c;exact False.elim q
section
variable{X:Cx}{x:Str}{p pos:Pos}{e:Expr}{es:List Expr}{t:TA}{id T:String}{r:List V->Hp->VK->Prop}
def hH(r:List V->Hp->VK->Prop)(t:TA):TE:=fun σ H Q=>t σ H fun vs H1=>r vs H1 Q
def zm(hc:da X (.builtin id) r)(f:Gl X x)(hm:X.mg x=none)(g:AU x=some (.builtin id))(ha:PA X (e::es) t)(i:x≠"__name__":=by decide)(j:(x==("__debug__":Str))=false:=by decide)
  (he:starEach (e::es) X.env=(false,eval e X.env)::starEach es X.env:=by rfl) (a:(backTo pos (starEach es X.env)).any (·.1)=false:=by rfl):PE X (.Call (.Name x p) (e::es) [] pos) (hH r t):=by
 intro aa s σ H Q I h;refine wpAny_Call_Name_kw (j0 I f hm g ?_ i j);exact PyProof.Rows.callWith_builtin1 (aW (ha pos aa s σ H _ I h) fun us b ⟨vs,H1,l,c,d⟩=>hc aa b σ H1 vs us Q l c d) he a
def zp(hc:da X (.type T) r)(f:Gl X x)(hm:X.mg x=none)(g:AU x=some (.type T))(ha:PA X (e::es) t)(i:x≠"__name__":=by decide)(j:(x==("__debug__":Str))=false:=by decide)
  (he:starEach (e::es) X.env=(false,eval e X.env)::starEach es X.env:=by rfl) (a:(backTo pos (starEach es X.env)).any (·.1)=false:=by rfl):PE X (.Call (.Name x p) (e::es) [] pos) (hH r t):=by
 intro aa s σ H Q I h;refine wpAny_Call_Name_kw (j0 I f hm g ?_ i j);exact PZ (aW (ha pos aa s σ H _ I h) fun us b ⟨vs,H1,l,c,d⟩=>hc aa b σ H1 vs us Q l c d) he a
end
end L2
namespace HT
open PySem PyProof.Rows
def lexLt:List Int->List Int->Bool
 |[],[]=>false
 |[],_::_=>true
 |_::_,[]=>false
 |x::xs,y::ys=>if x=y then lexLt xs ys else decide (x<y)
def zJ(x y:Int)(xs ys:List Int):lexLt (x::xs) (y::ys)=if x=y then lexLt xs ys else decide (x<y):=rfl
def EC:lexLt [] []=false:=rfl
def ou(y:Int)(ys:List Int):lexLt [] (y::ys)=true:=rfl
def ED(x:Int)(xs:List Int):lexLt (x::xs) []=false:=rfl
def IP(A:Around)(s:Shared)(a:Int)(t:Tok)(c:Int)(u:Tok):∃e,SeqAt.EqAt A s (.int a t) (.int c u) e/\(e=true↔a=c):=
 ⟨(a==c),SeqAt.EqAt.int_int a t c u,by simp⟩
def IQ(A:Around)(s:Shared)(a:Int)(t:Tok)(c:Int)(u:Tok)(prog:Program)(w:World)(E:Ω)(Q:Ω)(h:Q (.bool (decide (a<c))) s):wpAny (model prog w) A (richCompare .Lt (.int a t) (.int c u)) Q E s:=
 (PyProof.Rows.lt_int h:wpAny (model prog w) A (AZ .Lt (.int a t) (.int c u)) Q E s)
section
open PySem.SeqAt
open PySem.AutoSeq1 (wpAny_loadPart')
open PySem.MeetsSeq PySem.MeetsSeq2 PySem.MeetsSeq3
def IR(l b:Addr)(p r:Array Value)(n n2:Nat)(dd L:Option Addr)(M N:Array (Option Value))(ns D:List Int)(hi:IntsAre p.toList ns)(H:IntsAre r.toList D):Meets (Builtin.«tuple.__lt__» ⟨[.ref l,.ref b],[]⟩)
   (fun _ R s=>s.heap.get? l=some {cls:=.type "tuple",dict:=dd,data:=.seq p n,slots:=M}/\s.heap.get? b=some {cls:=.type "tuple",dict:=L,data:=.seq r n2,slots:=N}/\
    R (.ok (.ret (.bool (lexLt ns D)))) s):=
 .of_wp fun prog w A R s h=>by
  obtain⟨hp,g,d,tk,os⟩:=s;obtain⟨I,hb,h⟩:=h;have f2:=AutoSeq1.sub_tuple_tuple;have Q:p.size=ns.length:=by rw[<-hi.length];simp
  have S:r.size=D.length:=by rw[<-H.length];simp
  wp_walk using wpAny_loadPart' I,wpAny_loadPart' hb,wpAny_forIn_list _ (fun rest b s'=>b.1=none/\s'=⟨hp,g,d,tk,os⟩/\∃(vs v:List Value)(j o:List Int),rest=vs.zip v/\
   IntsAre vs j/\IntsAre v o/\j.length+r.size=o.length+p.size/\R (.ok (.ret (.bool (lexLt j o)))) ⟨hp,g,d,tk,os⟩) _
  case turn=>
   rintro⟨y,x⟩ rest b s' ⟨hb',rfl,vs,v,j,o,hz,E,C,f,i⟩;cases E with
   |nil=>rw[List.zip_nil_left] at hz;cases hz
   |cons a t hvi'=>
    cases C with
    |nil=>rw[List.zip_nil_right] at hz;cases hz
    |cons c u hwi'=>
     rw[QM] at hz;injection hz with hyx ce
     injection hyx with hy hx
     subst hy hx;rw[zJ] at i;simp only[Ay] at f;obtain⟨e,he,F⟩:=IP A.in1 ⟨hp,g,d,tk,os⟩ a t c u;refine Aa (he prog w _ _ ?_);cases e with
     |true=>
      rw[RJ (F.mp rfl)] at i
      wp_walk
      exact⟨rfl,rfl,_,_,_,_,ce,hvi',hwi',ω,i⟩
     |false=>
      rw[RK (fun q=>absurd (F.mpr q) An)] at i;have J:=IQ A.in1 ⟨hp,g,d,tk,os⟩ a t c u prog w
      wp_walk using J
      exact⟨_,rfl,by simpa using i⟩
  case fin=>
   rintro⟨O,P⟩ s' ⟨hb',rfl,vs,v,j,o,hz,E,C,f,i⟩;simp only at hb';subst hb';have G:lexLt j o=decide (p.size<r.size):=by
    cases E with
    |nil=>
     cases C with
     |nil=>
      simp only[Pu] at f;rw[EC];exact(RN ω).symm
     |cons c u hw=>
      simp only[Pu,Ay] at f;rw[ou];exact(RM ω).symm
    |cons a t G=>
     cases C with
     |nil=>
      simp only[Pu,Ay] at f;rw[ED];exact(RN ω).symm
     |cons c u hw=>
      rw[QM] at hz;cases hz
   rw[G] at i
   wp_walk
   exact⟨_,rfl,by simpa[Builtin.Tuple.tupleCompareSizes] using i⟩
  case h=>
   exact⟨rfl,rfl,p.toList,r.toList,ns,D,rfl,hi,H,ω,h⟩
end
section
variable{prog:Program}{w:World}{A:Around}{E:Ω}{s:Shared}
def EE{l b:Addr}{d e:Array Value}{ns c:List Int}{Q:Ω}(q:IsTup s.heap l d)(hb:IsTup s.heap b e)(hi:IntsAre d.toList ns)(r:IntsAre e.toList c)(hu:A.units<cLine)(h:Q (.bool (lexLt ns c)) s):wpAny (model prog w) A (AZ .Lt (.ref l) (.ref b)) Q E s:=by
 obtain⟨⟨cls,dd,data,j⟩,f,hc,n,hd⟩:=id q;obtain⟨⟨u,o,data2,p⟩,g,a,n2,i⟩:=id hb;simp only at hc hd a i;subst hc hd a i;exact richCompare_meets_room (op:=.Lt) ⟨_,f,rfl⟩ ⟨_,g,rfl⟩ PySem.F.slot_tuple_lt PySem.F.entry_tuple_lt (PySem.F.args_tuple_lt_2 _ _) (IR l b d e n n2 dd o j p ns c hi r)
  ⟨f,g,show Value.bool (lexLt ns c)≠Value.notImplemented/\Q (.bool (lexLt ns c)) s from⟨(fun x=>nomatch x),h⟩⟩ hu
def IS{t b:Addr}{vs a:List Value}{Q:Ω}(ht:IsTup s.heap t vs.toArray)(hb:IsTup s.heap b a.toArray)(l:vs≠[])(h1:a=[]->Q (.ref t) s)(h2:a≠[]->Q (.ref s⁻¹) {s with heap:=s.heap.push {cls:=.type "tuple",data:=.seq (vs++a).toArray}})(hsz:vs.length+a.length<=sizeLine):wpAny (model prog w) A (binaryOp .Add (.ref t) (.ref b)) Q E s:=by
 obtain⟨⟨cls,dd,data,g⟩,d,hc,n,hd⟩:=id ht;obtain⟨⟨o,h,data2,i⟩,f,c,n2,j⟩:=id hb;simp only at hc hd c j;subst hc hd c j;have e:vs.toArray++a.toArray=(vs++a).toArray:=by simp
 by_cases hw:a=[]
 ·exact concat_meets ⟨_,d,rfl⟩ ⟨_,f,rfl⟩ noFill_tuple_add seq_tuple_add QT QP (QH _ _)
   (tuple_addW1 t b vs.toArray a.toArray n n2 dd h g i (by simpa using l) (by simp[hw])) ⟨d,f,h1 hw⟩
 ·refine concat_meets ⟨_,d,rfl⟩ ⟨_,f,rfl⟩ noFill_tuple_add seq_tuple_add QT QP (QH _ _)
   (tuple_addW2 t b vs.toArray a.toArray n n2 dd h g i (by simpa using l) (by simpa using hw) (by rw[Am,Am];exact hsz)) ⟨d,f,?_⟩
  rw[e];exact h2 hw
def sIx(n d:Nat):Option Int->Nat
 |none=>d
 |some v=>if v<0 then(v+(n:Int)).toNat else min v.toNat n
def x3(n d:Nat):sIx n d none=d:=rfl
def q8(n d k:Nat):sIx n d (some (k:Int))=min k n:=by
 show(if(k:Int)<0 then((k:Int)+(n:Int)).toNat else min (k:Int).toNat n)=min k n;rw[RK ω,Pa]
def IT(n d:Nat)(hd:d<=n)(o:Option Int):sIx n d o<=n:=by
 cases o with
 |none=>exact hd
 |some v=>
  show(if v<0 then(v+(n:Int)).toNat else min v.toNat n)<=n
  by_cases a:v<0
  ·rw[RJ a];omega
  ·rw[RK a];exact Rw _ _
def EF(v:Int)(n d:Nat):(if v<0 then max (v+(n:Int)) 0 else min v (n:Int))=((sIx n d (some v):Nat):Int):=by
 show(if v<0 then max (v+(n:Int)) 0 else min v (n:Int))=(((if v<0 then(v+(n:Int)).toNat else min v.toNat n):Nat):Int)
 by_cases a:v<0
 ·simp only[RJ a];omega
 ·simp only[RK a];omega
def IU(lo hi:Option Int)(n:Nat):Builtin.Slice.sliceAdjust lo hi 1 (n:Int)=(((sIx n 0 lo:Nat):Int),((sIx n n hi:Nat):Int)):=by
 have h1:¬((1:Int)<0):=ω
 unfold Builtin.Slice.sliceAdjust;simp only[h1,if_false];refine Prod.ext ?_ ?_
 ·cases lo with
  |none=>rfl
  |some v=>exact EF v n 0
 ·cases hi with
  |none=>rfl
  |some v=>exact EF v n n
def IV(i j:Nat):Builtin.Slice.slicePlaces (i:Int) (j:Int) 1=j-i:=by
 unfold Builtin.Slice.slicePlaces;have h1:(1:Int)>0:=ω
 simp only[h1,if_true,Int.ediv_one];split<;>omega
def EG{v:Value}{o:Option Int}{Q:Option Int->Shared->Prop}(p:IsPart v o)(h:Q o s):wpAny (model prog w) A (Builtin.Slice.slicePartIndex v) Q E s:=by
 cases p with
 |none=>exact slicePart_none h
 |int i t=>exact slicePart_int h
def EH{e:Addr}{c d:Value}{lo hi:Option Int}{n:Nat}{Q:Int×Int×Nat->Shared->Prop}(f:s.heap.IsSliceOf e c d .none)(g:IsPart c lo)(i:IsPart d hi)(h:Q (((sIx n 0 lo:Nat):Int),1,sIx n n hi-sIx n 0 lo) s):wpAny (model prog w) A (Builtin.Slice.sliceApplied (.ref e) (pure (n:Int))) Q E s:=by
 obtain⟨os,a,j,b⟩:=id f;unfold Builtin.Slice.sliceApplied Builtin.Slice.sliceFields;refine Aa (Aa (A7 a b (x:=c) rfl (Aa (A7 a b (x:=d) rfl (Aa (A7 a b (x:=.none) rfl (Ac ?_)))))));refine Aa (slicePart_none ?_);show wpAny _ _ (if((1:Int)==0)=true then _ else _) _ _ s;rw[RK ξ];refine Aa (EG g (Aa (EG i (Aa (Ac ?_)))));show wpAny _ _ (match Builtin.Slice.sliceAdjust lo hi 1 (n:Int) with|(lo,hi)=>pure (lo,(1:Int),Builtin.Slice.slicePlaces lo hi 1)) _ _ s;rw[IU lo hi n];show wpAny _ _ (pure (((sIx n 0 lo:Nat):Int),(1:Int),Builtin.Slice.slicePlaces ((sIx n 0 lo:Nat):Int) ((sIx n n hi:Nat):Int) 1)) _ _ s;rw[IV];exact Ac h
def IW(xs:Array Value)(i k:Nat):((AJ k).filterMap fun(m:Nat)=>xs[((i:Int)+(m:Int)*1).toNat]?).toArray=((xs.toList.drop i).take k).toArray:=by
 have e:(fun(m:Nat)=>xs[((i:Int)+(m:Int)*1).toNat]?)=fun m=>xs[i+m]?:=by
  funext m
  have:((i:Int)+(m:Int)*1).toNat=i+m:=ω
  rw[this]
 rw[e];have:=pick_run xs i k;rw[List.filterMap_map] at this;have e2:((fun x=>xs[x]?) ∘ fun x=>i+x)=fun m=>xs[i+m]?:=rfl;rw[e2] at this;rw[this]
def IX{t c:Addr}{a:Array Value}{d e:Value}{lo hi:Option Int}{Q:Ω}(ht:IsTup s.heap t a)(f:s.heap.IsSliceOf c d e .none)(o:IsPart d lo)(p:IsPart e hi)(hw:¬(sIx a.size 0 lo=0/\sIx a.size a.size hi=a.size))(h:Q (.ref s⁻¹) {s with heap:=s.heap.push {cls:=.type "tuple",data:=.seq ((a.toList.drop (sIx a.size 0 lo)).take (sIx a.size a.size hi-sIx a.size 0 lo)).toArray}})(hsz:a.size<=sizeLine):wpAny (model prog w) A (getItem (.ref t) (.ref c)) Q E s:=by
 have b:sizeOk (.seq ((a.toList.drop (sIx a.size 0 lo)).take (sIx a.size a.size hi-sIx a.size 0 lo)).toArray):=by
  show((a.toList.drop (sIx a.size 0 lo)).take (sIx a.size a.size hi-sIx a.size 0 lo)).toArray.size<=sizeLine;rw[Am,AD,Pg,PB];omega
 have u:sIx a.size a.size hi<=a.size:=IT _ _ (Ag _) hi;obtain⟨os,g,i,r⟩:=id f;have j:s.TypeIs (.ref c) "slice":=⟨os,g,i⟩;unfold getItem
 try with_reducible refine AI ?_
 first|refine Aa (Ac ?_)|skip
 refine Aa (wpAny_sequenceKey ht.typeIs ξ ?_);refine Aa (AL (name:=Bb "__getitem__") ht.typeIs PF
  (AG PF ht.typeIs entry_tuple_getitem ?_ (args_tuple_getitem _ _)))
 show wpAny _ _ (Builtin.Tuple.tupleItemsOf (.ref t) >>= _) _ _ s;refine Aa (tupleItemsOf_ ht ?_);refine Aa (wpAny_typeOf j ?_);rw[RJ ξ];refine Aa (EH f o p ?_);have l:¬((((sIx a.size 0 lo:Nat):Int)==0&&(1:Int)==1&&(sIx a.size a.size hi-sIx a.size 0 lo)==a.size)=true):=by
  intro q;rw[AK,AK] at q;have v:((sIx a.size 0 lo:Nat):Int)=0:=eq_of_beq q.1.1;have x:sIx a.size a.size hi-sIx a.size 0 lo=a.size:=eq_of_beq q.2;exact hw ⟨ω,ω⟩
 show wpAny _ _ (if(((sIx a.size 0 lo:Nat):Int)==0&&(1:Int)==1&&(sIx a.size a.size hi-sIx a.size 0 lo)==a.size)=true then _ else _) _ _ s;rw[RK l,IW]
 first
  |exact Aa (m:=Builtin.Tuple.tupleExact _) (AF (Ac ⟨_,rfl,Ac h⟩) b)
  |exact Aa (m:=Builtin.Tuple.tupleExact _) (AF (Aa (Ac (Ac ⟨_,rfl,Ac h⟩))) b)
  |exact Aa (Aa (m:=Builtin.Tuple.tupleExact _) (AF (Ac (Ac ⟨_,rfl,Ac h⟩)) b))
  |exact Aa (Aa (m:=Builtin.Tuple.tupleExact _) (AF (Ac ⟨_,rfl,Ac h⟩) b))
end
end HT
namespace L2
open PySem PySem.Spec PyProof.Rows
abbrev TO:=St->Hp->(Option Int->Hp->Prop)->Prop
def PO(X:Cx)(e:Option Expr)(t:TO):Prop:=
 ∀(aa:Ψ)(s:Shared)(σ:St)(H:Hp)(Q:Option Int->Hp->Prop),Inv X aa σ H s->t σ H Q->
  wpAny (model X.prog X.w) X.A (evalPart e X.env) (fun u s'=>∃o H',Inv X aa σ H' s'/\IsPart u o/\Q o H') X.xe s
def ya:TO:=fun _ H Q=>Q none H
def yb(t:TE):TO:=fun σ H Q=>t σ H fun x H1=>∃i,x=.int i/\Q (some i) H1
def intsAre_of{ns:List Int}:∀{us:List Value},Vals (ns.map V.int) us->IntsAre us ns:=by
 induction ns with
 |nil=>intro us r;rw[Rg] at r;cases r;exact .nil
 |cons n ns ih=>
  intro us r;rw[Aq] at r;cases r with
  |cons r1 r2=>
   obtain⟨t,e⟩:=r1;subst e;exact .cons n t (ih r2)
section
variable{X:Cx}{e:Expr}{te:TE}{lo hi:Option Expr}{tl th:TO}{pos p2:Pos}
def ow:PO X none ya:=by
 intro aa s σ H Q I h;rw[evalPart_none];exact Ac ⟨none,H,I,.none,h⟩
def ox(h:PE X e te):PO X (some e) (yb te):=by
 intro aa s σ H Q I hw;rw[evalPart_some];refine aW (h aa s σ H _ I hw) fun u d ⟨x,H1,c,a,b⟩=>?_;obtain⟨i,rfl,q⟩:=b;obtain⟨t,rfl⟩:=a;exact⟨some i,H1,c,.int i t,q⟩
def yj(X:Cx)(r:V->Option Int->Option Int->Hp->VK->Prop):Prop:=
 ∀(aa:Ψ)(s:Shared)(σ:St)(H:Hp)(x:V)(v a b:Value)(lo hi:Option Int)(c:Addr)(Q:VK),Inv X aa σ H s->RelV x v->s.heap.IsSliceOf c a b .none->IsPart a lo->IsPart b hi->r x lo hi H Q->
  ∃T id,typeLookup (.type T) "__getitem__"=pure (some (.builtin id))/\s.TypeIs v T/\wpAny (model X.prog X.w) X.A (getItem v (.ref c)) (EP X aa σ Q) X.xe s
def yk(r:V->Option Int->Option Int->Hp->VK->Prop)(te:TE)(tl th:TO):TE:=fun σ H Q=>te σ H fun x H1=>tl σ H1 fun l H2=>th σ H2 fun u H3=>r x l u H3 Q
def oy{r:V->Option Int->Option Int->Hp->VK->Prop}(hr:yj X r)(he:PE X e te)(E:PO X lo tl)(hu:PO X hi th):PE X (.Subscript e (.Slice lo hi none p2) pos) (yk r te tl th):=by
 intro aa s σ H Q I h;refine Subscript_ (aW (he aa s σ H _ I h) fun v f ⟨x,H1,F,g,i⟩=>?_);refine wpAny_Slice (aW (E aa f σ H1 _ F i) fun c j ⟨l,H2,G,o,p⟩=>aW (hu aa j σ H2 _ G p) fun d a ⟨u,H3,I3,y,C⟩=>?_);rw[evalPart_none];refine Ac ?_;have J:Inv X aa σ H3 {a with heap:=a.heap.push {cls:=.type "slice",data:=.fields #[c,d,.none]}}:=I3.kept (t':=a.toks) fun b ob q=>Ad _ q;obtain⟨T,id,hT,ht,D⟩:=hr aa {a with heap:=a.heap.push {cls:=.type "slice",data:=.fields #[c,d,.none]}} σ H3 x v c d l u a⁻¹ Q J g (Heap.IsSliceOf.new ..) o y C;show wpAny (model X.prog X.w) X.A (subscriptTail e (.Slice lo hi none p2) v (.ref a⁻¹)) (EP X aa σ Q) X.xe {a with heap:=a.heap.push {cls:=.type "slice",data:=.fields #[c,d,.none]}};exact tail_any (ops:=[.ref a⁻¹,v]) ht hT D (by with_unfolding_all rfl)
def c6(xs:List V)(lo hi:Option Int):List V:=(xs.drop (HT.sIx xs.length 0 lo)).take (HT.sIx xs.length xs.length hi-HT.sIx xs.length 0 lo)
def IY(xs:List V)(lo hi:Option Int):(c6 xs lo hi).length<=xs.length:=by
 unfold c6;rw[AD,Pg];omega
def yp(K:Ae):V->Option Int->Option Int->Hp->VK->Prop:=fun x lo hi H Q=>∃a xs,x=.ref a/\SqT K H a xs/\
 ¬(HT.sIx xs.length 0 lo=0/\HT.sIx xs.length xs.length hi=xs.length)/\∀p,H p=none->Q (.ref p) (upd H p (.tup (c6 xs lo hi)))
def EI:yj X (yp X.K):=by
 intro aa s σ H x v i j lo hi l Q I d e f g h;obtain⟨a,xs,rfl,hx,hw,q⟩:=h;cases d;obtain⟨ad,r,ht,hz⟩:=I.tuple hx;have c:ad.toArray.size=xs.length:=by rw[Am];exact r.length.symm
 refine⟨"tuple",_,PyProof.Rows.slot_tuple_getitem.lookup,ht.typeIs,?_⟩;refine HT.IX ht e f g (by rw[c];exact hw) ?_ (by rw[c];exact hz);rw[c];refine⟨.ref s⁻¹,_,I.laid (t':=s.toks) (o:=.tup (c6 xs lo hi)) (fun b ob q=>Ad _ q) (Ag _) ?_,rfl,q _ (I.hok.fresh (Ag _))⟩;exact⟨AC (IY xs lo hi) hz,_,(r.drop (HT.sIx xs.length 0 lo)).take (HT.sIx xs.length xs.length hi-HT.sIx xs.length 0 lo),IsTup.new _ _⟩
def Vals.nil_iff{xs:List V}{us:List Value}(r:Vals xs us):us=[]↔xs=[]:=by
 cases r with
 |nil=>simp
 |cons _ _=>simp
end
def gv(n:Nat)(i:Int):Option Nat:=if 0<=i then(if i<n then some i.toNat else none) else if -(n:Int)<=i then some (i+n).toNat else none
def e8{a:Type}(xs:List a)(i:Int):Option a:=(gv xs.length i).bind fun j=>xs[j]?
def yr{n:Nat}{i:Int}{j:Nat}(h:gv n i=some j):seqIndex? i n=some j/\j<n/\-(n:Int)<=i/\i<n:=by
 unfold gv at h
 by_cases a:0<=i
 ·rw[RJ a] at h
  by_cases h1:i<n
  ·rw[RJ h1] at h
   have e:i.toNat=j:=Ah h;exact⟨by rw[seqIndex_of a h1,e],ω,ω,h1⟩
  ·rw[RK h1] at h;cases h
 ·rw[RK a] at h
  by_cases h1:-(n:Int)<=i
  ·rw[RJ h1] at h
   have e:(i+n).toNat=j:=Ah h;exact⟨by rw[seqIndex_neg ω h1,e],ω,h1,ω⟩
  ·rw[RK h1] at h;cases h
def EJ{a:Type}{xs:List a}{i:Int}{v:a}(h:e8 xs i=some v):∃j,seqIndex? i xs.length=some j/\xs[j]?=some v/\j<xs.length/\-(xs.length:Int)<=i/\i<xs.length:=by
 unfold e8 at h;cases e:gv xs.length i with
 |none=>rw[e] at h;cases h
 |some j=>
  rw[e] at h;obtain⟨h1,h2,b,c⟩:=yr e;exact⟨j,h1,h,h2,b,c⟩
def fz{a:Type}{xs:List a}{j:Nat}{v:a}(h:xs[j]?=some v):e8 xs (j:Int)=some v:=by
 have b:j<xs.length:=(B5.mp h).1;have e:gv xs.length (j:Int)=some j:=by
  unfold gv;rw[RJ ω,RJ ω];simp
 unfold e8;rw[e];exact h
def IZ{a:Type}(xs:List a)(v:a):e8 (xs++[v]) (-1)=some v:=by
 have b:(xs++[v]).length=xs.length+1:=by simp
 have e:gv (xs++[v]).length (-1)=some xs.length:=by
  unfold gv;rw[b,RK ξ,RJ ω]
  congr 1
  omega
 unfold e8;rw[e];show(xs++[v])[xs.length]?=some v;simp
def I_(b:Expr):Prop:=∀o i,subscripted b false o i=operate [o,i] (getItem o i)
def yC(X:Cx)(r:R2):Prop:=
 ∀(aL slice:Expr)(aa:Ψ)(s:Shared)(σ:St)(H:Hp)(x y:V)(v u:Value)(Q:VK),Inv X aa σ H s->RelV x v->RelV y u->r x y H Q->
  subscripted slice false v u=operate [v,u] (getItem v u)->wpAny (model X.prog X.w) X.A (subscriptTail aL slice v u) (EP X aa σ Q) X.xe s
def q9(X:Cx)(id:String)(r:V->List V->Hp->VK->Prop):Prop:=
 ∀(aa:Ψ)(s:Shared)(σ:St)(H:Hp)(x:V)(xs:List V)(v:Value)(us:List Value)(Q:VK),Inv X aa σ H s->RelV x v->Vals xs us->r x xs H Q->
  wpAny (model X.prog X.w) X.A (call (.builtin id) (v::us)) (EP X aa σ Q) X.xe s
section
variable{X:Cx}{a b:Expr}{ta tb:TE}{pos:Pos}
def zB{r:R2}(hr:yC X r)(ha:PE X a ta)(hb:PE X b tb)(f:I_ b):PE X (.Subscript a b pos) (bY r ta tb):=by
 intro aa s σ H Q I h;exact Subscript_ (j_ ha hb I h fun v u c x y H2 g d e q=>hr a b aa c σ H2 x y v u Q g d e q (f _ _))
def oB(K:Ae):R2:=fun x y H Q=>∃p xs i v,x=.ref p/\y=.int i/\SqL K H p xs/\e8 xs i=some v/\Q v H
def gC(K:Ae):R2:=fun x y H Q=>∃p xs i v,x=.ref p/\y=.int i/\SqT K H p xs/\e8 xs i=some v/\Q v H
def zL:yC X (oB X.K):=by
 intro aL slice aa s σ H x y v u Q I f g h c;obtain⟨p,xs,i,z,rfl,rfl,hq,he,q⟩:=h;cases f;obtain⟨t,rfl⟩:=g;obtain⟨ad,r,a,hz⟩:=I.list hq;obtain⟨j,h1,h2,D,l,o⟩:=EJ he;obtain⟨w,d,A⟩:=r.get h2;have C:=r.length;have E:=dk;have fin:EP X aa σ Q w s:=⟨z,H,I,A,q⟩
 by_cases e:0<=i
 ·have b:i.toNat=j:=by
   rw[seqIndex_of e o] at h1;exact Ah h1
  exact item_listR a.isList e ω (by rw[b];simpa using d) fin c
 ·have b:(i+(ad.toArray.size:Int)).toNat=j:=by
   rw[seqIndex_neg ω l] at h1;rw[Am,<-C];exact Ah h1
  exact subscriptTail_builtinR (x:=w) a.isList.typeIs slot_list_getitem.lookup
   (wpAny_getItem_list_neg (Q:=fun r s'=>r=w/\EP X aa σ Q r s') a.isList ω (by rw[Am]<;>omega) ω (by rw[b];simpa using d) ⟨rfl,fin⟩) c
def zG:yC X (gC X.K):=by
 intro aL slice aa s σ H x y v u Q I b c h d;obtain⟨p,xs,i,z,rfl,rfl,hq,he,q⟩:=h;cases b;obtain⟨t,rfl⟩:=c;obtain⟨ad,r,a,hz⟩:=I.tuple hq;obtain⟨j,h1,h2,l,o,A⟩:=EJ he;obtain⟨w,e,f⟩:=r.get h2;have g:=r.length;have C:=dk;have fin:EP X aa σ Q w s:=⟨z,H,I,f,q⟩;exact subscriptTail_builtinR (x:=w) a.typeIs slot_tuple_getitem.lookup
  (getItem_tuple (j:=j) (Q:=fun r s'=>r=w/\EP X aa σ Q r s') a ω ω (by rw[Am,<-g];exact h1) (by simpa using e) ⟨rfl,fin⟩) d
def Ja(ad:List Value)(n j:Nat)(u:Value):AO (·.setIfInBounds j u) {cls:=.type "list",data:=.seq ad.toArray n}={cls:=.type "list",data:=.seq (ad.set j u).toArray n}:=by
 simp[AO]
def Inv.lst{aa:Ψ}{σ:St}{H:Hp}{s:Shared}{p:Addr}{xs:List V}(I:Inv X aa σ H s)(h:H p=some (.lst xs)):∃(ad:List Value)(n:Nat),Vals xs ad/\s.heap.get? p=some {cls:=.type "list",data:=.seq ad.toArray n}/\xs.length<=sizeLine:=by
 obtain⟨z,ad,n,r,e⟩:=I.hok p _ h;exact⟨ad,n,r,e,z⟩
def Inv.lstUpd{aa:Ψ}{σ:St}{H:Hp}{s:Shared}{p:Addr}{xs ys:List V}{ad its':List Value}{n a:Nat}{f:Obj->Obj}(I:Inv X aa σ H s)(h:H p=some (.lst xs))(c:s.heap.get? p=some {cls:=.type "list",data:=.seq ad.toArray n})(hf:f {cls:=.type "list",data:=.seq ad.toArray n}={cls:=.type "list",data:=.seq its'.toArray a})(r:Vals ys its')(hz:ys.length<=sizeLine)(t:Nat):Inv X aa σ (upd H p (.lst ys)) {s with heap:=s.heap.update p f,toks:=t}:=by
 have e:(s.heap.update p f).get? p=some {cls:=.type "list",data:=.seq its'.toArray a}:=by
  rw[Heap.get?_update_self f c (by rw[hf]<;>rfl),hf]
 refine I.write (x:=p) (e:=p) (by rw[h];trivial) (.inl rfl) (fun b u hb q=>(Heap.get?_update_other _ _ (Ne.symm hb)).trans q) ⟨_,e⟩ ?_;exact⟨hz,its',a,r,e⟩
def Jb:V->V->V->Hp->(Hp->Prop)->Prop:=fun o i v H Q=>∃p xs k j,o=.ref p/\i=.int k/\H p=some (.lst xs)/\gv xs.length k=some j/\Q (upd H p (.lst (xs.set j v)))
def set_list:n5 X Jb:=by
 intro aa s σ H o i v y A u Q I g l w h;obtain⟨p,xs,k,j,rfl,rfl,hp,x,q⟩:=h;cases g;obtain⟨t,rfl⟩:=l;obtain⟨ad,n,r,a,hz⟩:=I.lst hp;obtain⟨h1,h2,c,d⟩:=yr x;have b:=r.length;have C:=dk;have f:Inv X aa σ (upd H p (.lst (xs.set j v))) {s with heap:=s.heap.update p (AO (·.setIfInBounds j u))}:=
  I.lstUpd hp a (Ja ad n j u) (r.set w j) (by rw[List.length_set];exact hz) s.toks
 by_cases e:0<=k
 ·have hk:k.toNat=j:=by
   rw[seqIndex_of e d] at h1;exact Ah h1
  exact PySem.W.ki_setAt a e ω (by rw[Am,<-b];exact d) (by rw[hk];exact⟨_,f,q⟩)
 ·have hk:(k+(ad.toArray.size:Int)).toNat=j:=by
   rw[seqIndex_neg ω c] at h1;rw[Am,<-b];exact Ah h1
  exact PySem.W.ki_setBack a ω (by rw[Am,<-b];exact c) ω (by rw[hk];exact⟨_,f,q⟩)
def hY:V->Bool
 |.non=>true
 |.bl _=>true
 |.int _=>true
 |.str _=>true
 |_=>false
def gE:V->V->Bool
 |.non,.non=>true
 |.bl a,.bl b=>a==b
 |.bl a,.int b=>(if a then 1 else 0)==b
 |.int a,.bl b=>a==(if b then 1 else 0)
 |.int a,.int b=>a==b
 |.str a,.str b=>a==b
 |_,_=>false
def EK{A:Around}{s:Shared}{y x:V}{u v:Value}(d:RelV y u)(c:RelV x v)(e:hY y=true)(fx:hY x=true):SeqAt.EqAt A s u v (gE y x):=by
 cases y with
 |non=>
  cases d;cases x with
  |non=>cases c;exact SeqAt.EqAt.same _
  |bl b=>cases c;exact SeqAt.EqAt.none_bool b
  |int b=>obtain⟨t,rfl⟩:=c;exact SeqAt.EqAt.none_int b t
  |str b=>obtain⟨t,rfl⟩:=c;exact SeqAt.EqAt.none_str b t
  |_=>exact absurd (show false=true from fx) An
 |bl a=>
  cases d;cases x with
  |non=>cases c;exact SeqAt.EqAt.bool_none a
  |bl b=>cases c;exact SeqAt.EqAt.bool_bool a b
  |int b=>obtain⟨t,rfl⟩:=c;exact SeqAt.EqAt.bool_int a b t
  |str b=>obtain⟨t,rfl⟩:=c;exact SeqAt.EqAt.bool_str a b t
  |_=>exact absurd (show false=true from fx) An
 |int a=>
  obtain⟨t',rfl⟩:=d;cases x with
  |non=>cases c;exact SeqAt.EqAt.int_none a t'
  |bl b=>cases c;exact SeqAt.EqAt.int_bool a t' b
  |int b=>obtain⟨t,rfl⟩:=c;exact SeqAt.EqAt.int_int a t' b t
  |str b=>obtain⟨t,rfl⟩:=c;exact SeqAt.EqAt.int_str a t' b t
  |_=>exact absurd (show false=true from fx) An
 |str a=>
  obtain⟨t',rfl⟩:=d;cases x with
  |non=>cases c;exact SeqAt.EqAt.str_none a t'
  |bl b=>cases c;exact SeqAt.EqAt.str_bool a t' b
  |int b=>obtain⟨t,rfl⟩:=c;exact SeqAt.EqAt.str_int a t' b t
  |str b=>obtain⟨t,rfl⟩:=c;exact SeqAt.EqAt.str_str a t' b t
  |_=>exact absurd (show false=true from fx) An
 |_=>exact absurd (show false=true from e) An
def i3(x:V)(u:Value):Bool:=match u with
 |.none=>gE .non x
 |.bool b=>gE (.bl b) x
 |.int i _=>gE (.int i) x
 |.str z _=>gE (.str z) x
 |_=>false
def EL{x y:V}{u:Value}(r:RelV y u)(f:hY y=true):i3 x u=gE y x:=by
 cases y with
 |non=>cases r;rfl
 |bl b=>cases r;rfl
 |int i=>obtain⟨t,rfl⟩:=r;rfl
 |str z=>obtain⟨t,rfl⟩:=r;rfl
 |_=>exact absurd (show false=true from f) An
def yE{x:V}:∀{xs:List V}{us:List Value},Vals xs us->xs.all hY=true->us.any (i3 x)=xs.any fun y=>gE y x
 |_,_,.nil,_=>rfl
 |y::xs,u::us,.cons r t,f=>by
  rw[List.all_cons,AK] at f;rw[QI,QI,EL r f.1,yE t f.2]
def yF{A:Around}{s:Shared}{x:V}{v:Value}(a:RelV x v)(fx:hY x=true):∀{xs:List V}{us:List Value},Vals xs us->xs.all hY=true->∀u∈us,SeqAt.EqAt A s u v (i3 x u)
 |_,_,.nil,_=>fun u hu=>by cases hu
 |y::xs,u::us,.cons r t,f=>fun b hu=>by
  rw[List.all_cons,AK] at f;rcases OT.mp hu with rfl|hu
  ·rw[EL r f.1];exact EK r a f.1 fx
  ·exact yF a fx t f.2 b hu
def EM(x:V)(xs:List V):Bool:=xs.any fun y=>gE y x
def Jc(K:Ae)(a:Bool):R2:=fun x y H Q=>∃p xs,y=.ref p/\(SqL K H p xs\/SqT K H p xs)/\hY x=true/\xs.all hY=true/\Q (.bl (if a then !EM x xs else EM x xs)) H
def Jd:cg X (AZ .NotIn) (Jc X.K true):=by
 intro aa s σ H x y v u Q I b c h;obtain⟨p,xs,rfl,hq,fx,fs,q⟩:=h;cases c;rcases hq with hq|hq
 ·obtain⟨ad,r,a,hz⟩:=I.list hq
  refine SeqAt.notIn_listAt (i3 x) a.isList (fun w hw=>yF b fx r fs w (by simpa using hw)) ⟨.bl _,H,I,rfl,?_⟩;rw[show ad.toArray.any (i3 x)=ad.any (i3 x) by simp,yE r fs];exact q
 ·obtain⟨ad,r,a,hz⟩:=I.tuple hq
  refine SeqAt.notIn_tupleAt (i3 x) a (fun w hw=>yF b fx r fs w (by simpa using hw)) ⟨.bl _,H,I,rfl,?_⟩;rw[show ad.toArray.any (i3 x)=ad.any (i3 x) by simp,yE r fs];exact q
def zl:da X (.builtin "len") (fun xs H Q=>∃p ys,xs=[.ref p]/\(SqL X.K H p ys\/SqT X.K H p ys)/\Q (.int ys.length) H):=by
 intro aa s σ H xs us Q I r h;obtain⟨p,ys,rfl,hq,q⟩:=h;obtain⟨u,rfl,d⟩:=vals1 r;cases d;have e:=dk;rcases hq with hq|hq
 ·obtain⟨ad,b,c,hz⟩:=I.list hq
  have a:=b.length;exact Calls.call_len_list c.isList (by simp only[Am]<;>omega) ⟨.int ys.length,H,I.tok _,⟨s.toks+1,by rw[Am,a]⟩,q⟩
 ·obtain⟨ad,b,c,hz⟩:=I.tuple hq
  have a:=b.length;exact len_tuple c (by simp only[Am]<;>omega) ⟨.int ys.length,H,I.tok _,⟨s.toks+1,by rw[Am,a]⟩,q⟩
def re:da X (.type "list") (fun xs H Q=>∃p ys,xs=[.ref p]/\(SqL X.K H p ys\/SqT X.K H p ys)/\∀l,H l=none->Q (.ref l) (upd H l (.lst ys))):=by
 intro aa s σ H xs us Q I r h;obtain⟨p,ys,rfl,hq,q⟩:=h;obtain⟨u,rfl,i⟩:=vals1 r;cases i;have fin:∀(ad:List Value),Vals ys ad->ys.length<=sizeLine->∀(h':Heap)(c':Nat),(∀b o',s.heap.get? b=some o'->h'.get? b=some o')->
   h'.get? s⁻¹=some {cls:=.type "list",dict:=none,data:=.seq ad.toArray c',slots:=#[]}->EP X aa σ Q (.ref s⁻¹) {s with heap:=h'}:=fun ad a hz h' c' c e=>
  ⟨.ref s⁻¹,_,I.laid (t':=s.toks) c (Ag _) (show zF X.prog X.w _ h' _ (.lst ys) from⟨hz,ad,c',a,e⟩),rfl,q _ (I.hok.fresh (Ag _))⟩
 rcases hq with hq|hq
 ·obtain⟨ad,a,f,hz⟩:=I.list hq
  have d:=a.length;obtain⟨o,g,hc,n,hd⟩:=f.isList;exact call_list_seq p (.inl rfl) g hc hd (fun h' c' c e=>fin ad a hz h' c' c e) (by simp only[Am]<;>omega)
 ·obtain⟨ad,a,f,hz⟩:=I.tuple hq
  have d:=a.length;obtain⟨o,g,hc,n,hd⟩:=f;exact call_list_seq p (.inr rfl) g hc hd (fun h' c' c e=>fin ad a hz h' c' c e) (by simp only[Am]<;>omega)
def yG:da X (.type "tuple") (fun xs H Q=>∃p ys,xs=[.ref p]/\((SqL X.K H p ys/\∀l,H l=none->Q (.ref l) (upd H l (.tup ys)))\/(SqT X.K H p ys/\Q (.ref p) H))):=by
 intro aa s σ H xs us Q I r h;obtain⟨p,ys,rfl,h⟩:=h;obtain⟨u,rfl,g⟩:=vals1 r;cases g;rcases h with ⟨hq,q⟩|⟨hq,q⟩
 ·obtain⟨ad,a,c,hz⟩:=I.list hq
  have d:=a.length;refine call_tuple_list c.isList (fun h' f=>?_) (by simp only[Am]<;>omega);have I1:Inv X aa σ H {s with heap:=h'}:=I.kept (t':=s.toks) f;have i:Inv X aa σ (upd H h'.objs.size (.tup ys)) {s with heap:=h'.push {cls:=.type "tuple",data:=.seq ad.toArray}}:=
   I1.laid (t':=s.toks) (fun b o e=>Ad _ e) (Ag _) (show zF X.prog X.w _ _ _ (.tup ys) from⟨hz,ad,a,IsTup.new _ _⟩)
  exact⟨.ref h'.objs.size,_,i,rfl,q _ (I1.hok.fresh (Ag _))⟩
 ·obtain⟨ad,a,c,hz⟩:=I.tuple hq
  exact call_tuple_same c ⟨.ref p,H,I,rfl,q⟩
def EN(K:Ae)(T:String)(x:V)(H:Hp):Prop:=match x with
 |.str _=>T="str"
 |.int _=>T="int"
 |.ref p=>(T="list"/\∃xs,SqL K H p xs)\/(T="tuple"/\∃o,K.lookup p=some o/\o.cls=.type "tuple"/\o.dict=none) \/
   (T="dict"/\((∃kvs,H p=some (.dK kvs))\/∃kvs,H p=some (.dT kvs)))\/(T="set"/\∃S n,H p=some (.set S n))
 |_=>False
def Je{aa:Ψ}{σ:St}{H:Hp}{s:Shared}{T:String}{x:V}{v:Value}(I:Inv X aa σ H s)(r:RelV x v)(ty:EN X.K T x H):s.TypeIs v T/\∀a,v=.ref a->∃ob,s.heap.get? a=some ob/\ob.dict=none:=by
 cases x with
 |str z=>
  obtain⟨t,rfl⟩:=r;cases(show T="str" from ty);exact⟨typeIs_str s z t,fun _ e=>nomatch e⟩
 |int i=>
  obtain⟨t,rfl⟩:=r;cases(show T="int" from ty);exact⟨typeIs_int s i t,fun _ e=>nomatch e⟩
 |ref p=>
  cases r;rcases ty with ⟨rfl,xs,hq⟩|⟨rfl,o,hk,hc,hd⟩|⟨rfl,hk⟩|⟨rfl,S,n,hk⟩
  ·obtain⟨ad,_,b,_⟩:=I.list hq
   refine⟨b.isList.typeIs,fun a e=>?_⟩;cases e;obtain⟨o,n,e,c,hd,_⟩:=b;exact⟨o,e,hd⟩
  ·refine⟨⟨o,I.kIn p o hk,hc⟩,fun a e=>?_⟩
   cases e;exact⟨o,I.kIn _ o hk,hd⟩
  ·have z:∃o,s.heap.get? p=some o/\o.ExactDict:=by
    rcases hk with ⟨kvs,hk⟩|⟨kvs,hk⟩
    ·obtain⟨_,_,_,_,o,_,_,e,ex,_⟩:=I.hok p _ hk
     exact⟨o,e,ex⟩
    ·obtain⟨_,_,_,_,o,_,_,e,ex,_⟩:=I.hok p _ hk
     exact⟨o,e,ex⟩
   obtain⟨o,e,ex⟩:=z;refine⟨⟨o,e,ex.1⟩,fun a e2=>?_⟩;cases e2;exact⟨o,e,ex.2.1⟩
  ·obtain⟨o,_,_,_,e,ex,_⟩:=I.hok p _ hk
   refine⟨⟨o,e,ex.1⟩,fun a e2=>?_⟩;cases e2;exact⟨o,e,ex.2.1⟩
 |_=>exact False.elim ty
def Jf(K:Ae)(T:String)(r:V->List V->Hp->VK->Prop)(to:TE)(t:TA):TE:=fun σ H Q=>to σ H fun x H1=>EN K T x H1/\t σ H1 fun xs H2=>r x xs H2 Q
variable{o e:Expr}{es:List Expr}{to:TE}{t:TA}{name:Str}{aH aw:Pos}{T id:String}{r:V->List V->Hp->VK->Prop}
def ia(p:PlainAttrs T)(slot:Slot T name id)(q:typeOf (.builtin id)=pure (.type "method_descriptor"))(hm:q9 X id r)(u:PE X o to)(ha:PA X (e::es) t)(w:attributeBase o name X.env (eval o X.env)=eval o X.env:=by rfl)
  (y:((backTo aw (starEach (e::es) X.env)).all (fun x=>!x.1)&&(backToKw aw (keywordEach [] X.env)).all (fun x=>x.1.isSome)
   && decide ((e::es).length+([]:List Keyword).length+(if([]:List Keyword).isEmpty then 0 else 1)<30))=true:=by rfl)
  (A:(aH.endLine==aw.line)=true:=by rfl) (C:starEach (e::es) X.env=(false,eval e X.env)::starEach es X.env:=by rfl) (D:(backTo aw (starEach es X.env)).any (·.1)=false:=by rfl) :
  PE X (.Call (.Attribute o name aH) (e::es) [] aw) (Jf X.K T r to t):=by
 intro aa s σ H Q I h;refine wpAny_Call_method_late w y A rfl (aW (u aa s σ H _ I h) fun v f ⟨x,H1,d,b,ty,g⟩=>?_);obtain⟨h1,h2⟩:=Je d b ty;refine⟨T,id,p,slot,q,h1,h2,?_⟩;have c:=ha aw aa f σ H1 _ d g;rw[C] at c ⊢;refine Calls.callWith_builtin (by show(false|| (backTo aw (starEach es X.env)).any (·.1))=false;rw[D]<;>rfl) (Calls.evalArgs_plain ?_);exact aW c fun us i ⟨vs,H2,E,j,l⟩=>hm aa i σ H2 x vs v us Q E b j l
end
def lV(X:Cx)(id:String)(r:V->List V->Hp->VK->Prop):Prop:=
 ∀(aa:Ψ)(s:Shared)(σ:St)(H:Hp)(x:V)(xs:List V)(v:Value)(us:List Value)(Q:VK),Inv X aa σ H s->RelV x v->Vals xs us->r x xs H Q->
  wpAny (model X.prog X.w) X.A (call (.builtin id) (v::us)) (EP X aa σ Q) X.xe s
def Vals.one{x:V}{us:List Value}(h:Vals [x] us):∃u,us=[u]/\RelV x u:=by
 cases h with|cons r t=>cases t;exact⟨_,rfl,r⟩
def Vals.two{x y:V}{us:List Value}(h:Vals [x,y] us):∃u v,us=[u,v]/\RelV x u/\RelV y v:=by
 cases h with|cons r t=>obtain⟨v,rfl,q⟩:=Vals.one t;exact⟨_,_,rfl,r,q⟩
def Vals.zero:∀{us:List Value},Vals [] us->us=[]
 |_,.nil=>rfl
def Vals.eraseIdx:∀{xs:List V}{us:List Value}(i:Nat),Vals xs us->Vals (xs.eraseIdx i) (us.eraseIdx i)
 |_,_,_,.nil=>.nil
 |_,_,0,.cons _ t=>t
 |_,_,i+1,.cons r t=>.cons r (Vals.eraseIdx i t)
def Vals.reverse{xs:List V}{us:List Value}(h:Vals xs us):Vals xs.reverse us.reverse:=by
 induction h with
 |nil=>exact .nil
 |cons r t ih=>rw[List.reverse_cons,List.reverse_cons];exact Vals.append ih (.cons r .nil)
def yO{a:Type}:∀(l:List a)(i:Nat),(l.eraseIdx i).length<=l.length
 |[],_=>Ag _
 |_::_,0=>Qk _
 |_::r,i+1=>Nat.succ_le_succ (yO r i)
section
variable{X:Cx}{aa:Ψ}{σ:St}{H:Hp}{s:Shared}{l b:Addr}{xs ys zs:List V}
def Inv.lset{ad its':List Value}{n:Nat}{f:Array Value->Array Value}{t':Nat}(I:Inv X aa σ H s)(a:H l=some (.lst xs))(e:s.heap.get? l=some {cls:=.type "list",data:=.seq ad.toArray n})(hf:f ad.toArray=its'.toArray)(b:Vals ys its')(hz:ys.length<=sizeLine):Inv X aa σ (upd H l (.lst ys)) {s with heap:=s.heap.update l (AO f),toks:=t'}:=by
 have q:=PySem.IsL.update e f;rw[hf] at q;refine I.write (x:=l) (e:=l) (by rw[a];exact trivial) (.inl rfl) (fun c u hb hu=>(Heap.get?_update_other s.heap (AO f) (Ne.symm hb)).trans hu) ⟨_,q⟩ ?_;exact⟨hz,its',_,b,q⟩
def Inv.lnew{ad:List Value}{t':Nat}(I:Inv X aa σ H s)(a:Vals ys ad)(hz:ys.length<=sizeLine):Inv X aa σ (upd H s⁻¹ (.lst ys)) {s with heap:=s.heap.push {cls:=.type "list",data:=.seq ad.toArray},toks:=t'}:=
 I.laid (fun _ _ q=>Ad _ q) (Ag _) ⟨hz,ad,0,a,Al _ rfl⟩
def Inv.fresh(I:Inv X aa σ H s):H s⁻¹=none:=I.hok.fresh (Ag _)
def Inv.lstM(I:Inv X aa σ H s)(a:H l=some (.lst xs)):xs.length<=sizeLine/\∃(ad:List Value)(n:Nat),Vals xs ad/\xs.length=ad.length/\s.heap.get? l=some {cls:=.type "list",data:=.seq ad.toArray n}:=by
 obtain⟨z,ad,n,r,e⟩:=I.hok l _ a;exact⟨z,ad,n,r,r.length,e⟩
def Jg{n:Nat}(h:n<=sizeLine):Builtin.List.listTooLong n=false:=by
 unfold Builtin.List.listTooLong;exact RN ω
end
section
variable{X:Cx}
def zlU:V->List V->Hp->VK->Prop:=fun x vs H Q=>∃l xs y,x=.ref l/\vs=[y]/\H l=some (.lst xs)/\xs.length<sizeLine/\Q .non (upd H l (.lst (xs++[y])))
def l3:lV X "list.append" zlU:=by
 intro aa s σ H x vs v us Q I b c h;obtain⟨l,xs,y,rfl,rfl,a,hz,q⟩:=h;cases b;obtain⟨u,rfl,d⟩:=c.one;obtain⟨z,ad,n,r,f,e⟩:=I.lstM a;refine call_meets F.slot_list_append ⟨_,e,rfl⟩ F.entry_list_append (F.args_list_append_2 _ _) (PySem.list_append l ad.toArray n u (by rw[Am];omega)) ⟨e,?_⟩;refine⟨.non,_,I.lset (its':=ad++[u]) a e (by simp) (r.append (.cons d .nil)) ?_,rfl,q⟩;rw[Ap,List.length_singleton];omega
def zlv:V->List V->Hp->VK->Prop:=fun x vs H Q=>∃l b xs zs,x=.ref l/\vs=[.ref b]/\H l=some (.lst xs)/\H b=some (.lst zs)/\xs.length+zs.length<=sizeLine/\Q .non (upd H l (.lst (xs++zs)))
def Jh:lV X "list.extend" zlv:=by
 intro aa s σ H x vs v us Q I f g h;obtain⟨l,b,xs,zs,rfl,rfl,d,i,hz,q⟩:=h;cases f;obtain⟨u,rfl,j⟩:=g.one;cases j;obtain⟨z,ad,n,r,w,e⟩:=I.lstM d;obtain⟨y,c,n2,o,p,e2⟩:=I.lstM i;have hsz:ad.toArray.size+c.toArray.size<=sizeLine:=by rw[Am,Am];omega
 have a:¬(!ad.toArray.isEmpty&&Builtin.List.listTooLong (ad.toArray.size+c.toArray.size))=true:=by
  rw[Jg hsz,QU];exact An
 refine call_meets F.slot_list_extend ⟨_,e,rfl⟩ F.entry_list_extend (F.args_list_extend_2 _ _)
  (AutoSeq1.list_extend_list_list_0 l ad.toArray n b c.toArray n2 a (by rw[Am];omega) ω) ⟨e,e2,?_⟩
 refine⟨.non,_,I.lset (its':=ad++c) d e (by simp) (r.append o) ?_,rfl,q⟩;rw[Ap];omega
def znV:V->List V->Hp->VK->Prop:=fun x vs H Q=>∃l xs i k y,x=.ref l/\vs=[.int i]/\H l=some (.lst xs)/\-(2 ^ 63)<=i/\i<2 ^ 63/\seqIndex? i xs.length=some k/\xs[k]?=some y/\Q y (upd H l (.lst (xs.eraseIdx k)))
def Ji:lV X "list.pop" znV:=by
 intro aa s σ H x vs v us Q I b c h;obtain⟨l,xs,i,k,y,rfl,rfl,a,h1,h2,hk,hy,q⟩:=h;cases b;obtain⟨u,rfl,d⟩:=c.one;obtain⟨t,rfl⟩:=d;obtain⟨z,ad,n,r,f,e⟩:=I.lstM a;obtain⟨w,hw,g⟩:=r.get hy;refine call_meets F.slot_list_pop ⟨_,e,rfl⟩ F.entry_list_pop (F.args_list_pop_2 _ _)
  (MeetsSeq.list_pop_at l ad.toArray n i t k w (fitsIndex_both h1 h2) (by rw[Am,<-f];exact hk) (by rw[<-Q5];exact hw) (by rw[Am];omega)) ⟨e,?_⟩
 refine⟨y,_,I.lset (its':=ad.eraseIdx k) a e ?_ (r.eraseIdx k) ?_,g,q⟩
 ·show ad.toArray.eraseIdxIfInBounds k=(ad.eraseIdx k).toArray
  rw[Q4]
 ·have:=yO xs k
  omega
def yP:R2:=fun x y H Q=>∃l b xs zs,x=.ref l/\y=.ref b/\H l=some (.lst xs)/\H b=some (.lst zs)/\xs.length+zs.length<=sizeLine/\∀p,H p=none->Q (.ref p) (upd H p (.lst (xs++zs)))
def kc:cg X (binaryOp .Add) yP:=by
 intro aa s σ H x y v u Q I c d h;obtain⟨l,b,xs,zs,rfl,rfl,f,g,hz,q⟩:=h;cases c;cases d;obtain⟨z,ad,n,r,p,e⟩:=I.lstM f;obtain⟨w,a,n2,i,j,e2⟩:=I.lstM g;refine PySem.P.add_list e e2 ?_ (by rw[Am,Am];omega);have o:ad.toArray++a.toArray=(ad++a).toArray:=by simp
 rw[o];exact⟨.ref _,_,I.lnew (t':=s.toks) (r.append i) (by rw[Ap];omega),rfl,q _ I.fresh⟩
end
section
variable{prog:Program}{w:World}{A:Around}{E:Ω}{s:Shared}
set_option maxRecDepth 100000 in
end
section
variable{κ:Type}[DecidableEq κ]
def bq(kvs:List (κ×V))(k:κ):Option V:=(kvs.find? fun kv=>decide (kv.1=k)).map (·.2)
def putK(kvs:List (κ×V))(k:κ)(v:V):List (κ×V):=
 if(kvs.any fun kv=>decide (kv.1=k))=true then kvs.map (fun kv=>if kv.1=k then(kv.1,v) else kv) else kvs++[(k,v)]
def OS(kvs:List (κ×V))(k:κ):List (κ×V):=kvs.filter fun kv=>decide (kv.1≠k)
def rf{p:κ×V}{r:List (κ×V)}{k:κ}(e:p.1=k):bq (p::r) k=some p.2:=by simp[bq,Pf,e]
def ri{p:κ×V}{r:List (κ×V)}{k:κ}(e:¬p.1=k):bq (p::r) k=bq r k:=by simp[bq,Pf,e]
def yU(k:κ):∀kvs:List (κ×V),(kvs.any fun kv=>decide (kv.1=k))=(bq kvs k).isSome
 |[]=>rfl
 |p::r=>by
  rw[QI]
  by_cases e:p.1=k
  ·simp only[rf e,RM e,Bool.true_or,Option.isSome_some]
  ·rw[ri e,RN e,Bool.false_or];exact yU k r
def yY(kvs:List (κ×V))(k:κ)(v:V):(putK kvs k v).length<=kvs.length+1:=by
 unfold putK;split
 ·rw[Ab];omega
 ·rw[Ap,Ay,Pu];omega
def RelO.isSome_eq{o:Option V}{u:Option Value}(r:RelO o u):o.isSome=u.isSome:=by
 cases o with
 |none=>cases u with
  |none=>rfl
  |some _=>exact(show False from r).elim
 |some _=>cases u with
  |none=>exact(show False from r).elim
  |some _=>rfl
def RelO.getD{o:Option V}{u:Option Value}{d:V}{d':Value}(r:RelO o u)(a:RelV d d'):RelV (o.getD d) (u.getD d'):=by
 cases o with
 |none=>cases u with
  |none=>exact a
  |some _=>exact(show False from r).elim
 |some _=>cases u with
  |none=>exact(show False from r).elim
  |some _=>exact r
def KV.val{kvs:List (κ×V)}{vs:List (κ×Value)}(r:KV kvs vs)(k:κ):RelO (bq kvs k) (valueAt vs k):=by
 unfold KV at r
 induction r with
 |nil=>exact True.intro
 |@cons p q ps a h t c=>
  obtain⟨h1,h2⟩:=h
  by_cases e:p.1=k
  ·have e':q.1=k:=h1.symm.trans e
   have b:valueAt (q::a) k=some q.2:=by simp[valueAt,Pf,e']
   rw[rf e,b];exact h2
  ·have e':¬q.1=k:=fun z=>e (h1.trans z)
   have b:valueAt (q::a) k=valueAt a k:=by simp[valueAt,Pf,e']
   rw[ri e,b];exact c
def KV.any{kvs:List (κ×V)}{vs:List (κ×Value)}(r:KV kvs vs)(k:κ):(kvs.any fun kv=>decide (kv.1=k))=vs.any fun kv=>decide (kv.1=k):=by
 unfold KV at r
 induction r with
 |nil=>rfl
 |cons h t ih=>rw[QI,QI,ih,h.1]
def KV.repl{kvs:List (κ×V)}{vs:List (κ×Value)}(r:KV kvs vs)(k:κ){y:V}{u:Value}(a:RelV y u):KV (kvs.map fun kv=>if kv.1=k then(kv.1,y) else kv) (vs.map fun kv=>if kv.1=k then(kv.1,u) else kv):=by
 unfold KV at r ⊢
 induction r with
 |nil=>exact .nil
 |@cons p q ps qs h t ih=>
  rw[Aq,Aq];refine .cons ?_ ih;obtain⟨h1,h2⟩:=h
  by_cases e:p.1=k
  ·rw[RJ e,RJ (h1.symm.trans e)];exact⟨h1,a⟩
  ·rw[RK e,RK (fun z=>e (h1.trans z))];exact⟨h1,h2⟩
def KV.put{kvs:List (κ×V)}{vs:List (κ×Value)}(r:KV kvs vs)(k:κ){y:V}{u:Value}(a:RelV y u):KV (putK kvs k y) (stored vs k u):=by
 unfold putK stored;rw[r.any k]
 by_cases e:(vs.any fun kv=>decide (kv.1=k))=true
 ·rw[RJ e,RJ e];exact r.repl k a
 ·rw[RK e,RK e];exact Paired.snoc r ⟨rfl,a⟩
def KV.length{kvs:List (κ×V)}{vs:List (κ×Value)}(r:KV kvs vs):kvs.length=vs.length:=AN r
end
def l6{P:Program}{w:World}{k:Key}{u:Value}(r:RelV (kV k) u):(zw P w).is k u=true:=by
 cases k with
 |inl i=>obtain⟨t,e⟩:=(show ∃t,u=Value.int i t from r);subst e;exact v_ P w i t
 |inr x=>obtain⟨t,e⟩:=(show ∃t,u=Value.str x t from r);subst e;exact Il P w x t
def EO{P:Program}{w:World}:∀{ks:List Key}{us:List Value},Vals (ks.map kV) us->ItemsAre (zw P w) ks us
 |[],_,r=>by rw[Rg] at r;cases r;exact .nil
 |k::ks,_,r=>by
  rw[Aq] at r;cases r with
  |cons h t=>exact .cons (l6 h) (EO t)
abbrev KT(H:Hp):List (List Key×V)->List (List Key×Addr×Value)->Prop:=Paired fun p q=>p.1=q.1/\H q.2.1=some (.tup (p.1.map kV))/\RelV p.2 q.2.2
def KT.val{H:Hp}{kvs:List (List Key×V)}{xs:List (List Key×Addr×Value)}(r:KT H kvs xs)(k:List Key):RelO (bq kvs k) ((atKey xs k).map (·.2)):=by
 induction r with
 |nil=>exact True.intro
 |@cons p q ps a h t c=>
  obtain⟨h1,_,h2⟩:=h
  by_cases e:p.1=k
  ·have e':q.1=k:=h1.symm.trans e
   have b:atKey (q::a) k=some q.2:=by simp[atKey,Pf,e']
   rw[rf e,b];exact h2
  ·have e':¬q.1=k:=fun z=>e (h1.trans z)
   have b:atKey (q::a) k=atKey a k:=by simp[atKey,Pf,e']
   rw[ri e,b];exact c
def KT.repl{H:Hp}{kvs:List (List Key×V)}{xs:List (List Key×Addr×Value)}(r:KT H kvs xs)(k:List Key){y:V}{u:Value}(b:RelV y u):KT H (kvs.map fun kv=>if kv.1=k then(kv.1,y) else kv) (xs.map (putAt k u)):=by
 induction r with
 |nil=>exact .nil
 |@cons p q ps qs h t ih=>
  rw[Aq,Aq];refine .cons ?_ ih;obtain⟨h1,h2,a⟩:=h;unfold putAt
  by_cases e:p.1=k
  ·rw[RJ e,RJ (h1.symm.trans e)];exact⟨h1,h2,b⟩
  ·rw[RK e,RK (fun z=>e (h1.trans z))];exact⟨h1,h2,a⟩
def KT.put{H:Hp}{kvs:List (List Key×V)}{xs:List (List Key×Addr×Value)}(r:KT H kvs xs)(k:List Key){b:Addr}{y:V}{u:Value}(hb:H b=some (.tup (k.map kV)))(a:RelV y u):KT H (putK kvs k y) (storedH xs k b u):=by
 have e:(kvs.any fun kv=>decide (kv.1=k))=(atKey xs k).isSome:=by
  rw[yU,(r.val k).isSome_eq,QV]
 unfold putK storedH;rw[e]
 by_cases q:(atKey xs k).isSome=true
 ·rw[RJ q,RJ q];exact r.repl k a
 ·rw[RK q,RK q];exact Paired.snoc r ⟨rfl,hb,a⟩
def KT.keeps{H H':Hp}{kvs:List (List Key×V)}{xs:List (List Key×Addr×Value)}(r:KT H kvs xs)(ht:∀b ys,H b=some (.tup ys)->H' b=some (.tup ys)):KT H' kvs xs:=
 Paired.mapP r fun _ _ z=>⟨z.1,ht _ _ z.2.1,z.2.2⟩
section
variable{P:Program}{w:World}{H:Hp}{h:Heap}{a:Addr}
def EQ{u:HO}(ok:HOk P w H h)(e:Rd H a u):zF P w H h a u:=e.ok ok
def ke{kvs:List (Key×V)}(ok:HOk P w H h)(e:Rd H a (.dK kvs)):kvs.length<=sizeLine/\(a==A3)=false/\∃vs,KV kvs vs/\h.DictOf (zw P w) a vs:=
 show zF P w H h a (.dK kvs) from EQ ok e
def y1{kvs:List (Key×V)}(ok:HOk P w H h)(e:H a=some (.dK kvs)):kvs.length<=sizeLine/\(a==A3)=false/\∃vs,KV kvs vs/\h.DictOf (zw P w) a vs:=ke ok (.inl e)
def ib{ks:List Key}(ok:HOk P w H h)(e:H a=some (.tup (ks.map kV))):(tupleKind (zw P w)).is h ks a:=by
 obtain⟨_,ad,r,o,h1,h2,n,b⟩:=(show zF P w H h a (.tup (ks.map kV)) from ok a _ e);exact⟨o,ad.toArray,n,h1,h2,b,by simpa using EO r⟩
def kf{kvs:List (List Key×V)}(ok:HOk P w H h)(e:Rd H a (.dT kvs)):kvs.length<=sizeLine/\(a==A3)=false/\
  ∃xs,KT H kvs xs/\h.DictOfH (tupleKind (zw P w)) a xs:=by
 obtain⟨z,y,xs,r,o,es,ep,h1,h2,b,c,d⟩:=(show zF P w H h a (.dT kvs) from EQ ok e);refine⟨z,y,xs,r,o,es,ep,h1,h2,b,c,fun x hx=>?_,d⟩;have all:∀{l:List (List Key×V)}{m:List (List Key×Addr×Value)},KT H l m->∀x∈m,(tupleKind (zw P w)).is h x.1 x.2.1:=by
  intro l m q
  induction q with
  |nil=>intro x hx;exact nomatch hx
  |@cons p q ps qs hq t ih=>
   intro x hx;rcases OT.mp hx with e|hx
   ·subst e
    exact ib ok (by rw[<-hq.1];exact hq.2.1)
   ·exact ih x hx
 exact all r x hx
def y6{kvs:List (List Key×V)}(ok:HOk P w H h)(e:H a=some (.dT kvs)):kvs.length<=sizeLine/\(a==A3)=false/\
  ∃xs,KT H kvs xs/\h.DictOfH (tupleKind (zw P w)) a xs:=kf ok (.inl e)
end
def DGet(H:Hp)(a:Addr)(y:V)(r:Option V):Prop:=
 (∃kvs k,Rd H a (.dK kvs)/\y=kV k/\r=bq kvs k)\/∃kvs k b,Rd H a (.dT kvs)/\y=.ref b/\H b=some (.tup (k.map kV))/\r=bq kvs k
def DPut(H:Hp)(a:Addr)(y v:V)(H':Hp):Prop:=
 (∃kvs k,H a=some (.dK kvs)/\y=kV k/\kvs.length<sizeLine/\H'=upd H a (.dK (putK kvs k v))) \/
 ∃kvs k b,H a=some (.dT kvs)/\y=.ref b/\H b=some (.tup (k.map kV))/\kvs.length<sizeLine/\H'=upd H a (.dT (putK kvs k v))
def DGet.k{H:Hp}{a:Addr}{kvs:List (Key×V)}{k:Key}(e:H a=some (.dK kvs)):DGet H a (kV k) (bq kvs k):=.inl ⟨kvs,k,.inl e,rfl,rfl⟩
def DGet.t{H:Hp}{a b:Addr}{kvs:List (List Key×V)}{k:List Key}(e:H a=some (.dT kvs))(c:H b=some (.tup (k.map kV))):DGet H a (.ref b) (bq kvs k):=.inr ⟨kvs,k,b,.inl e,rfl,c,rfl⟩
def DPut.k{H:Hp}{a:Addr}{kvs:List (Key×V)}{k:Key}{v:V}(e:H a=some (.dK kvs))(b:kvs.length<sizeLine):DPut H a (kV k) v (upd H a (.dK (putK kvs k v))):=.inl ⟨kvs,k,e,rfl,b,rfl⟩
def DPut.t{H:Hp}{a b:Addr}{kvs:List (List Key×V)}{k:List Key}{v:V}(e:H a=some (.dT kvs))(c:H b=some (.tup (k.map kV)))(d:kvs.length<sizeLine):DPut H a (.ref b) v (upd H a (.dT (putK kvs k v))):=.inr ⟨kvs,k,b,e,rfl,c,d,rfl⟩
section
variable{X:Cx}{aa:Ψ}{σ:St}{H:Hp}{s:Shared}{a:Addr}{y v:V}{u r:Value}{o:Option V}{A:Around}{E:Ω}
def Inv.big(I:Inv X aa σ H s):A3<s⁻¹:=by
 have h:mainGlobals<s⁻¹:=(I.mod.glob.keeps I.bk).lt;exact Qv ξ h
def Jj{Q:Ω}(hu:A.units+1<cLine)(I:Inv X aa σ H s)(g:DGet H a y (some v))(j:RelV y u)(h:∀d s',Inv X aa σ H s'->RelV v d->Q d s'):wpAny (model X.prog X.w) A (getItem (.ref a) u) Q E s:=by
 rcases g with ⟨kvs,k,e,f,l⟩|⟨kvs,k,b,e,f,q,l⟩
 ·subst f
  obtain⟨z,hd,vs,c,dd⟩:=ke I.hok e;obtain⟨d,hw,i⟩:=RelO.some_of (v:=v) (o:=valueAt vs k) (by rw[l];exact c.val k);exact wpAny_getItem_of (l6 j) dd.mapOf hw (h d _ (I.tok _) i)
 ·subst f
  cases(show u=Value.ref b from j);obtain⟨z,hd,xs,c,dd⟩:=kf I.hok e;obtain⟨d,hw,i⟩:=RelO.some_of (v:=v) (o:=(atKey xs k).map (·.2)) (by rw[l];exact c.val k);obtain⟨p,hp,r⟩:=OY.mp hw;refine wpAny_getItem_heap (tupleKind_room_in1 hu) (ib I.hok q) dd hp ?_;rw[r];exact h d _ (I.tok _) i
def y9{Q:Ω}(hu:A.units+1<cLine)(I:Inv X aa σ H s)(g:DGet H a y o)(f:RelV y u)(h:∀s',Inv X aa σ H s'->Q (.bool o.isSome) s'):wpAny (model X.prog X.w) A (AZ .In u (.ref a)) Q E s:=by
 rcases g with ⟨kvs,k,e,d,l⟩|⟨kvs,k,b,e,d,i,l⟩
 ·subst d
  obtain⟨z,hd,vs,c,dd⟩:=ke I.hok e;refine wpAny_in_of (l6 f) hd dd.mapOf ?_;rw[<-(c.val k).isSome_eq,<-l];exact h _ (I.tok _)
 ·subst d
  cases(show u=Value.ref b from f);obtain⟨z,hd,xs,c,dd⟩:=kf I.hok e;refine wpAny_in_heap (tupleKind_room_in1 hu) (ib I.hok i) hd dd ?_;have q:=(c.val k).isSome_eq;rw[QV] at q;rw[<-q,<-l];exact h _ (I.tok _)
def Jk{Q:Ω}(hu:A.units+1<cLine)(I:Inv X aa σ H s)(g:DGet H a y o)(f:RelV y u)(h:∀s',Inv X aa σ H s'->Q (.bool (!o.isSome)) s'):wpAny (model X.prog X.w) A (AZ .NotIn u (.ref a)) Q E s:=by
 rcases g with ⟨kvs,k,e,d,l⟩|⟨kvs,k,b,e,d,i,l⟩
 ·subst d
  obtain⟨z,hd,vs,c,dd⟩:=ke I.hok e;refine wpAny_notIn_of (l6 f) hd dd.mapOf ?_;rw[<-(c.val k).isSome_eq,<-l];exact h _ (I.tok _)
 ·subst d
  cases(show u=Value.ref b from f);obtain⟨z,hd,xs,c,dd⟩:=kf I.hok e;refine wpAny_notIn_heap (tupleKind_room_in1 hu) (ib I.hok i) hd dd ?_;have q:=(c.val k).isSome_eq;rw[QV] at q;rw[<-q,<-l];exact h _ (I.tok _)
def l'{h':Heap}{t':Nat}{ob:HO}(I:Inv X aa σ H s)(c:nS (H a))(d:Heap.SameBut a s.heap h')(he:∃q,h'.get? a=some q)(new:zF X.prog X.w (upd H a ob) h' a ob):Inv X aa σ (upd H a ob) {s with heap:=h',toks:=t'}:=
 I.write (x:=a) (e:=a) c (.inl rfl) (fun b q hb z=>(d.2 b hb).trans z) he new
def dk_new{P:Program}{w:World}{H':Hp}{h':Heap}{kvs:List (Key×V)}{vs:List (Key×Value)}(z:kvs.length<=sizeLine)(hd:(a==A3)=false)(b:KV kvs vs)(dd:h'.DictOf (zw P w) a vs):zF P w H' h' a (.dK kvs):=⟨z,hd,vs,b,dd⟩
def Jl{H':Hp}{Q:Unit->Shared->Prop}(hu:A.units+1<cLine)(I:Inv X aa σ H s)(g:DPut H a y v H')(F:RelV y u)(x:RelV v r)(h:∀s',Inv X aa σ H' s'->Q () s'):wpAny (model X.prog X.w) A (setItem (.ref a) u r) Q E s:=by
 rcases g with ⟨kvs,k,e,o,l,p⟩|⟨kvs,k,b,e,o,C,l,p⟩
 ·subst o p
  obtain⟨z,hd,vs,d,dd⟩:=y1 I.hok e;have hz:vs.length<=sizeLine:=by rw[<-d.length];exact z
  have j:(putK kvs k v).length<=sizeLine:=by have:=yY kvs k v;omega
  refine wpAny_setItem_pairs (hsz:=hz) (l6 F) dd fun h' f i=>h _ ?_;have he:∃q,h'.get? a=some q:=let ⟨q,_,_,hq,_⟩:=f;⟨q,hq⟩;exact l' I (by rw[e];exact True.intro) i he (dk_new j hd (d.put k x) f)
 ·subst o p
  cases(show u=Value.ref b from F);obtain⟨z,hd,xs,d,dd⟩:=y6 I.hok e;have hz:xs.length<=sizeLine:=by rw[<-AN d];exact z
  have j:(putK kvs k v).length<=sizeLine:=by have:=yY kvs k v;omega
  refine wpAny_setItem_heap (hsz:=hz) (tupleKind_room_in1 hu) (ib I.hok C) dd fun h' f i=>h _ ?_;obtain⟨q,es,ep,hq,h2,G,J,_,L⟩:=f;refine l' I (by rw[e];exact True.intro) i ⟨q,hq⟩ ⟨j,hd,_,(d.put k C x).keeps fun c ys D=>?_,q,es,ep,hq,h2,G,J,L⟩;rw[ae (cT D e (fun z=>nomatch z))];exact D
end
def oF(i:Expr):Prop:=∀a b,subscripted i false a b=operate [a,b] (getItem a b)
def Jm{prog:Program}{w:World}{A:Around}{E:Ω}{s:Shared}{env:Env}{aL slice:Expr}{pos:Pos}{T id:String}{Q:Ω}(g:typeLookup (.type T) "__getitem__"=pure (some (.builtin id)))(j:oF slice)(h:wpAny (model prog w) A (eval aL env) (fun o c=>wpAny (model prog w) A (eval slice env) (fun i a=>a.TypeIs o T/\wpAny (model prog w) A (getItem o i) Q E a) E c) E s):wpAny (model prog w) A (eval (.Subscript aL slice pos) env) Q E s:=by
 refine Subscript_ (wpAny_mono h (fun o c e=>wpAny_mono e (fun i a b=>?_) fun _ _ x=>x) fun _ _ x=>x);obtain⟨hT,b⟩:=b;unfold subscriptTail;refine Aa ?_;rw[getitemInPython_of_ne hT.not_modules];refine Aa (wpAny_specialOf hT g ?_);have fin:wpAny (model prog w) A (subscripted slice false o i) (fun r d=>wpAny (model prog w) A (letTemporaryGo aL o r >>= fun _=>pure r) Q E d) E a:=by
  rw[j o i];exact wpAny_operating (wpAny_mono b (fun r d f=>Aa (wpAny_letTemporaryGo (Ac f))) fun _ _ x=>x)
 first
  |exact Ac (Aa fin)
  |exact Aa (Ac (Aa fin))
  |exact Aa fin
def Jn{X:Cx}{aa:Ψ}{σ:St}{H:Hp}{s:Shared}{a:Addr}{y:V}{o:Option V}(I:Inv X aa σ H s)(g:DGet H a y o):s.TypeIs (.ref a) "dict":=by
 rcases g with ⟨kvs,k,e,_,_⟩|⟨kvs,k,b,e,_,_,_⟩
 ·obtain⟨_,_,vs,_,dd⟩:=ke I.hok e
  exact dd.typeIs
 ·obtain⟨_,_,xs,_,dd⟩:=kf I.hok e
  exact dd.typeIs
def io(td ty:TE):TE:=fun σ H Q=>td σ H fun x H1=>ty σ H1 fun y H2=>∃a v,x=.ref a/\DGet H2 a y (some v)/\Q v H2
def i6(ty td:TE):TE:=fun σ H Q=>ty σ H fun y H1=>td σ H1 fun x H2=>∃a o,x=.ref a/\DGet H2 a y o/\Q (.bl o.isSome) H2
def Jo(ty td:TE):TE:=fun σ H Q=>ty σ H fun y H1=>td σ H1 fun x H2=>∃a o,x=.ref a/\DGet H2 a y o/\Q (.bl (!o.isSome)) H2
def za(td ty tv:TE):TS:=fun D σ H=>tv σ H fun v H1=>td σ H1 fun x H2=>ty σ H2 fun y H3=>∃a b,x=.ref a/\DPut H3 a y v b/\D.nx σ b
section
variable{X:Cx}{o i e aL:Expr}{pos aM dS:Pos}{td ty tv:TE}
def zQ(hu:X.A.units+1<cLine)(p:PE X o td)(hi:PE X i ty)(q:oF i):PE X (.Subscript o i pos) (io td ty):=by
 intro aa s σ H Q I h;refine Jm PySem.F.slot_dict_getitem.lookup q (aW (p aa s σ H _ I h) fun u c ⟨x,H1,r,d,e⟩=>aW (hi aa c σ H1 _ r e) fun C D ⟨y,H2,b,f,a,v,ex,g,j⟩=>?_);subst ex;obtain rfl:u=Value.ref a:=d;exact⟨Jn b g,Jj hu b g f fun E G w l=>⟨v,H2,w,l,j⟩⟩
def ro(hu:X.A.units+1<cLine)(hi:PE X i ty)(l:PE X o td):PC X .In i o (i6 ty td):=by
 intro aa s σ H Q I h;refine aW (hi aa s σ H _ I h) fun v b ⟨y,H1,p,c,d⟩=>aW (l aa b σ H1 _ p d) fun u w ⟨x,H2,q,e,a,f,ex,g,j⟩=>?_;subst ex;obtain rfl:u=Value.ref a:=e;exact y9 hu q g c fun C r=>⟨.bl f.isSome,H2,r,rfl,j⟩
def Jp(hu:X.A.units+1<cLine)(hi:PE X i ty)(l:PE X o td):PC X .NotIn i o (Jo ty td):=by
 intro aa s σ H Q I h;refine aW (hi aa s σ H _ I h) fun v b ⟨y,H1,p,c,d⟩=>aW (l aa b σ H1 _ p d) fun u w ⟨x,H2,q,e,a,f,ex,g,j⟩=>?_;subst ex;obtain rfl:u=Value.ref a:=e;exact Jk hu q g c fun C r=>⟨.bl (!f.isSome),H2,r,rfl,j⟩
def fO(hu:X.A.units+1<cLine)(q:PE X o td)(hi:PE X i ty)(w:PE X aL tv)(C:swapsWith aL (some (.Subscript o i aM)) pos.line X.env=pure false):PS X (.Assign [.Subscript o i aM] aL pos) (za td ty tv):=by
 intro aa s σ H D I h;refine wpAny_Assign_Subscript (aW (w aa s σ H _ I h) fun r b ⟨v,H1,E,c,d⟩=>aW (q aa b σ H1 _ E d) fun u e ⟨x,H2,F,f,j⟩=>aW (hi aa e σ H2 _ F j) fun M N ⟨y,H3,G,l,a,J,ex,g,p⟩=>?_) C;subst ex;obtain rfl:u=Value.ref a:=f;exact Jl hu G g l c fun O L=>⟨σ,J,L,p⟩
end
def Jq{P:Program}{w:World}{H:Hp}(h:Heap)(hb:A3<h.objs.size):zF P w H (h.push {cls:=.type "dict",data:=.dict #[]}) h.objs.size (.dK []):=
 ⟨A1 _,beq_eq_false_iff_ne.mpr (Ne.symm (Au hb)),[],.nil,Heap.DictOf.new h⟩
def ER{P:Program}{w:World}{H:Hp}(h:Heap)(hb:A3<h.objs.size):zF P w H (h.push {cls:=.type "dict",data:=.dict #[]}) h.objs.size (.dT []):=
 ⟨A1 _,beq_eq_false_iff_ne.mpr (Ne.symm (Au hb)),[],.nil,_,#[],0,Al _ rfl,⟨rfl,rfl,rfl⟩,rfl,rfl,O6⟩
def Jr:TE:=fun _ H Q=>∀p,H p=none->Q (.ref p) (upd H p (.dK []))
def Js:TE:=fun _ H Q=>∀p,H p=none->Q (.ref p) (upd H p (.dT []))
section
variable{X:Cx}{pos:Pos}
def ES:PE X (.Dict [] [] pos) Jr:=fun aa s σ H Q I h=>
 wpAny_Dict_empty ⟨.ref s⁻¹,_,I.laid (a:=s⁻¹) (o:=.dK []) (t':=s.toks) (fun _ _ q=>Ad _ q) (Ag _) (Jq s.heap I.big),rfl,h _ (I.hok.fresh (Ag _))⟩
def i7:PE X (.Dict [] [] pos) Js:=fun aa s σ H Q I h=>
 wpAny_Dict_empty ⟨.ref s⁻¹,_,I.laid (a:=s⁻¹) (o:=.dT []) (t':=s.toks) (fun _ _ q=>Ad _ q) (Ag _) (ER s.heap I.big),rfl,h _ (I.hok.fresh (Ag _))⟩
end
def zb:List (TE×TE)->St->Hp->(List (V×V)->Hp->Prop)->Prop
 |[],_,H,Q=>Q [] H
 |(tk,tv)::r,σ,H,Q=>tk σ H fun x H1=>tv σ H1 fun y H2=>zb r σ H2 fun ps H3=>Q ((x,y)::ps) H3
abbrev VV:List (V×V)->List (Value×Value)->Prop:=Paired fun p q=>RelV p.1 q.1/\RelV p.2 q.2
def zz(X:Cx)(pos:Pos)(a:List (Option Expr))(b:List Expr)(c:List (TE×TE)):Prop:=
 ∀(aa:Ψ)(s:Shared)(σ:St)(H:Hp)(Q:List (V×V)->Hp->Prop),Inv X aa σ H s->zb c σ H Q->
  wpAny (model X.prog X.w) X.A (evalPairs (pairTrees a b X.env pos)) (fun vs s'=>∃ps H',Inv X aa σ H' s'/\VV ps vs/\Q ps H') X.xe s
def Jt{X:Cx}{pos:Pos}:zz X pos [] [] []:=fun aa s σ H Q I h=>pairTrees_nil_walk ⟨[],H,I,.nil,h⟩
def Ju{X:Cx}{pos:Pos}{k v:Expr}{ks:List (Option Expr)}{vs:List Expr}{tk tv:TE}{b:List (TE×TE)}(hk:PE X k tk)(l:PE X v tv)(hr:zz X pos ks vs b):zz X pos (some k::ks) (v::vs) ((tk,tv)::b):=fun aa s σ H Q I h=>
 pairTrees_cons_walk (aW (hk aa s σ H _ I h) fun u c ⟨x,H1,o,d,e⟩=>aW (l aa c σ H1 _ o e) fun r f ⟨y,H2,p,g,i⟩=>
  aW (hr aa f σ H2 _ p i) fun w A ⟨ps,H3,q,a,j⟩=>⟨(x,y)::ps,H3,q,.cons ⟨d,g⟩ a,j⟩)
def Jv(kvs more:List (Key×V)):List (Key×V):=more.foldl (fun acc kv=>putK acc kv.1 kv.2) kvs
def KV.merge:∀{more:List (Key×V)}{a:List (Key×Value)}{kvs:List (Key×V)}{vs:List (Key×Value)},KV more a->KV kvs vs->KV (Jv kvs more) (merged vs a):=by
 intro more a kvs vs r;unfold KV at r
 induction r generalizing kvs vs with
 |nil=>intro q;exact q
 |@cons p q ps qs h t ih=>
  intro b;have e:KV (putK kvs p.1 p.2) (stored vs q.1 q.2):=by
   have:=b.put p.1 h.2;rw[<-h.1];exact this
  exact ih e
structure M1(X:Cx)(o:Expr)(m:Str)(aH:Pos)(e:Expr)(aw:Pos):Prop where
 base:attributeBase o m X.env (eval o X.env)=eval o X.env
 few:((backTo aw (starEach [e] X.env)).all (fun x=>!x.1)&&(backToKw aw (keywordEach [] X.env)).all (fun x=>x.1.isSome)
  && decide (([e]:List Expr).length+([]:List Keyword).length+(if([]:List Keyword).isEmpty then 0 else 1)<30))=true
 line:(aH.endLine==aw.line)=true
 trees:backTo aw (starEach [e] X.env)=[(false,eval e X.env)]
structure M2(X:Cx)(o:Expr)(m:Str)(aH:Pos)(e f:Expr)(aw:Pos):Prop where
 base:attributeBase o m X.env (eval o X.env)=eval o X.env
 few:((backTo aw (starEach [e,f] X.env)).all (fun x=>!x.1)&&(backToKw aw (keywordEach [] X.env)).all (fun x=>x.1.isSome)
  && decide (([e,f]:List Expr).length+([]:List Keyword).length+(if([]:List Keyword).isEmpty then 0 else 1)<30))=true
 line:(aH.endLine==aw.line)=true
 trees:backTo aw (starEach [e,f] X.env)=[(false,eval e X.env),(false,eval f X.env)]
def IsD(H:Hp)(a:Addr):Prop:=(∃kvs,Rd H a (.dK kvs))\/∃kvs,Rd H a (.dT kvs)
def ET{X:Cx}{aa:Ψ}{σ:St}{H:Hp}{s:Shared}{a:Addr}(I:Inv X aa σ H s)(d:IsD H a):s.TypeIs (.ref a) "dict"/\(∀b,Value.ref a=.ref b->∃ob,s.heap.get? b=some ob/\ob.dict=none)/\(a==A3)=false:=by
 rcases d with ⟨kvs,e⟩|⟨kvs,e⟩
 ·obtain⟨_,hd,vs,_,dd⟩:=ke I.hok e
  refine⟨dd.typeIs,fun b q=>?_,hd⟩;cases q;obtain⟨ob,_,_,h1,h2,_⟩:=dd;exact⟨ob,h1,h2.2.1⟩
 ·obtain⟨_,hd,xs,_,dd⟩:=kf I.hok e
  refine⟨dd.typeIs,fun b q=>?_,hd⟩;cases q;obtain⟨ob,_,_,h1,h2,_⟩:=dd;exact⟨ob,h1,h2.2.1⟩
section
variable{X:Cx}{aa:Ψ}{σ:St}{H:Hp}{s:Shared}{a:Addr}{y d:V}{u r:Value}{o:Option V}{A:Around}{E:Ω}
def Jw{Q:Ω}(hu:A.units+1<cLine)(I:Inv X aa σ H s)(g:DGet H a y o)(j:RelV y u)(p:RelV d r)(h:∀i s',Inv X aa σ H s'->RelV (o.getD d) i->Q i s'):wpAny (model X.prog X.w) A (call (.builtin "dict.get") [.ref a,u,r]) Q E s:=by
 rcases g with ⟨kvs,k,e,f,l⟩|⟨kvs,k,b,e,f,q,l⟩
 ·subst f
  obtain⟨z,hd,vs,c,dd⟩:=ke I.hok e;refine call_meetsIn Q6 dd.typeIs PySem.F.entry_dict_get (PySem.F.args_dict_get_3 _ _ _) (meets_dict_get_default (zw X.prog X.w) a (l6 j) hd r) ⟨_,dd.mapOf,h _ _ (I.tok _) ?_⟩;rw[l];exact(c.val k).getD p
 ·subst f
  cases(show u=Value.ref b from j);obtain⟨z,hd,xs,c,dd⟩:=kf I.hok e;refine call_meetsIn Q6 dd.typeIs PySem.F.entry_dict_get (PySem.F.args_dict_get_3 _ _ _) (meetsH_dict_get_default (tupleKind (zw X.prog X.w)) a b hd r) ⟨tupleKind_room_in1 hu,k,xs,ib I.hok q,dd,h _ _ (I.tok _) ?_⟩;rw[l];exact(c.val k).getD p
end
def Jx(td ty tx:TE):TE:=fun σ H Q=>td σ H fun x H1=>∃a,x=.ref a/\IsD H1 a/\ty σ H1 fun y H2=>tx σ H2 fun z H3=>∃o,DGet H3 a y o/\Q (o.getD z) H3
section
variable{X:Cx}{o e f:Expr}{aH aw:Pos}{td ty tx:TE}
def Bh(hu:X.A.units+1<cLine)(E:PE X o td)(he:PE X e ty)(hf:PE X f tx)(m:M2 X o "get" aH e f aw):PE X (.Call (.Attribute o "get" aH) [e,f] [] aw) (Jx td ty tx):=by
 intro aa s σ H Q I h;refine wpAny_Call_method m.base m.few m.line Qg Q6 PySem.F.type_dict_get (aW (E aa s σ H _ I h) fun u c ⟨x,H1,b,i,a,ex,d,j⟩=>?_);subst ex;obtain rfl:u=Value.ref a:=i;obtain⟨C,D,_⟩:=ET b d;refine⟨C,D,?_⟩;rw[m.trees];refine Calls.callWith_builtin rfl (Calls.evalArgs_plain (Calls.spliced_cons (aW (he aa c σ H1 _ b j) fun M l ⟨y,H2,G,p,q⟩=>
  Calls.spliced_cons (aW (hf aa l σ H2 _ G q) fun N O ⟨z,H3,J,r,P,g,v⟩=>Calls.spliced_nil ?_))))
 exact Jw hu J g p r fun S T L w=>⟨_,H3,L,w,v⟩
end
end L2
namespace Att
open PySem PySem.W PySem.Calls PyProof.Rows
def Jy{P:Params}{h:Heap}:∀(ns:List Int)(vs:List Value),WellAll P h vs (ns.map WData.int)->IntsAre vs ns:=by
 intro ns
 induction ns with
 |nil=>
  intro vs w;rw[Rg] at w;cases w;exact .nil
 |cons n ns ih=>
  intro vs w;rw[Aq] at w;cases w with
  |cons a b=>
   cases a;exact .cons _ _ (ih _ b)
def Jz{l:OpenLaw}{n:Nat}(p:l.most=some n){P:Params}{h:Heap}{args:List WData}{g:List Value}(i:l.row.toRowW.claim.pre args=true)(u:WellAll P h g args):∃a vs ns,g=[Value.ref a]/\args=[WData.list (ns.map WData.int)]/\h.get? a=some {cls:=.type "list",data:=.seq vs.toArray}/\IntsAre vs ns/\ns.length<=n:=by
 have f:WShape.hasAll [] args [.list .int]=true:=(pre_splitW i).1;have hc:l.pre.holds [] {args:=args}=true:=(pre_splitW i).2;obtain⟨d,r,rfl,h1,h2⟩:=hasAllW_cons f;obtain rfl:=hasAllW_nil h2;obtain⟨xs,rfl,j⟩:=hasW_list h1;obtain⟨ns,rfl⟩:=items_int j;have b:ns.length<=n:=by
  unfold OpenLaw.pre at hc;have c:(WTm.not (.lt (.lit (.int (n:Int))) (.len (.arg 0)))).holds [] {args:=[.list (ns.map .int)]}=true:=by
   have c:=(holds_andW hc).1;rw[p] at c;exact c
  have e:=condW_of c (w_not (w_lt w_lit (w_len_list (w_arg rfl))));rw[Ab] at e;refine Nat.le_of_not_lt fun q=>?_;have o:(n:Int)<((ns.length:Nat):Int):=ω
  first
   |(rw[RM o] at e;exact absurd e ξ)
   |(simp at e;omega)
 cases u with
 |cons w1 w2=>
  cases w2;cases w1 with
  |list ho hall=>exact⟨_,_,ns,rfl,rfl,ho,Jy ns _ hall,b⟩
def JA(l:OpenLaw)(args:List WData):l.row.toRowW.claim.post args (.bool true) args=true:=
 postW_of (r:=l.row.toRowW) (X:=(true==true))
  (show WShape.has [] (.bool true) .bool=true by first|rfl|decide|simp[WShape.has,WShape.arms,WShape.armsAll])
  (show(WTm.eq .res (.lit (.bool true))).value [] {args:=args,res:=some (.bool true),after:=args}=some (.bool (true==true)) from w_eq_bool (w_res rfl) w_lit) rfl
def EU{l:OpenLaw}{n:Nat}{q:Program}{p:List Str}{u:(Str->Option Value)->Heap->Prop}{v:World->Heap->Prop}{d:DefRec}(N:l.most=some n)(O:d.params.defaults=[])(call:∀(w:World)(s₀ b:Shared)(mg g:Str->Option Value)(fa:Addr)(o:Obj)(h e i:Value)(a:Addr)(vs:List Value)(ns:List Int),
   Ground q p [] u w s₀ mg g b.heap->v w b.heap->
   b.heap.get? fa=some o->o.data=.func (docDef d.name d.params d.body d.scope h e i)->b.heap.CodeRec e d.name->mg d.name=some (.ref fa)->
   b.heap.get? a=some {cls:=.type "list",data:=.seq vs.toArray}->IntsAre vs ns->ns.length<=n->b.gens=#[]->
   codeAny (model l.prog w) callerA (.call (.ref fa) ⟨[.ref a],[]⟩) (fun r s'=>r=.ok (.ret (.bool true))/\OldK b.heap s'.heap/\s'.os=b.os/\AllBare s'.gens) b):
  WalkO q p u v l.row.toRowW d [] (fun f vs=>PySem.call f vs):=by
 intro w s₀ b mg g G Y fa o h e i x kV y hd A j C D args P as E Q S F H;obtain rfl:x=.none:=Dflts.none j O;obtain rfl:kV=.none:=Dflts.noKw j;obtain⟨a,vs,ns,rfl,rfl,I,J,c⟩:=Jz N E F;refine enter_call (codeAny_mono (call w s₀ b mg g fa o h e i a vs ns G Y y (fd_plain hd) A C I J c D) fun r s' hq=>?_);obtain⟨rfl,h2,L,M⟩:=hq;exact⟨.inl ⟨.bool true,.bool true,[],rfl,fun _=>rfl,.bool true,JA l _,fun _=>⟨List.Pairwise.nil,fun _ hm=>(nomatch hm)⟩⟩,h2,L,M⟩
section
variable{prog:Program}{w:World}{A:Around}{E:Ω}{s:Shared}{K:Frag}
def ledger(h:Heap)(L d:Addr):Ψ:=(AJ h.objs.size).filterMap fun a=>if a=L\/a=d then none else(h.get? a).map fun o=>(a,o)
end
end Att
namespace L2
open PySem PySem.Spec PyProof.Rows
def Bj:∀{vs:List Value}{ns:List Int},IntsAre vs ns->Vals (ns.map V.int) vs
 |_,_,.nil=>.nil
 |_,_,.cons n t h=>.cons ⟨t,rfl⟩ (Bj h)
def ki(H:Hp):Prop:=∀b,H b=none\/∃o xs,H b=some (.frz o (.lst xs))
def JB{P:Program}{w:World}{K:Ae}{mg y:Str->Option Value}{CX:eH}{k:Nat}{fa a:Addr}{fd:FuncData}{x:Str}{sp:Sp}{c:Shared}{vs:List Value}{ns:List Int}(L:K.In c.heap)(I:c.heap.Ns mainGlobals mg)(hb:c.heap.Ns builtinsNs y)(Y:∀x:Str,x≠"__name__"->y x=AU x)(f_:c.heap.NoLimit)(hg:c.gens=#[])(ha:c.heap.get? a=some {cls:=.type "list",data:=.seq vs.toArray})(hi:IntsAre vs ns)(J:ns.length<=sizeLine)(hr:Room k callerA)(F:∀base:Heap,K.In base->base.Ns mainGlobals mg->FnOk P w K mg base CX k fa fd [x] sp)(dG:∀(s:Shared)(u:Value),BindsTo s fd ⟨[u],[]⟩ [(x,u)])(cF:∀H:Hp,ki H->SqL K H a (ns.map V.int)->sp [.ref a] H (fun v _=>v=.bl true) fun _ _ _=>False)(hG:∀H e s',CX [] H c (fun _ _ _=>False) e s'->False):codeAny (model P w) callerA (.call (.ref fa) ⟨[.ref a],[]⟩) (fun r s'=>r=.ok (.ret (.bool true))/\OldK c.heap s'.heap/\s'.os=c.os/\AllBare s'.gens) c:=by
 have D:=Bj hi;have S:=hi.length;have g:∀H:Hp,ki H->SqL K H a (ns.map V.int)->HOk P w H c.heap->(∀b,H b≠none->b=a)->(H a≠none->K.lookup a=none)->
   codeAny (model P w) callerA (.call (.ref fa) ⟨[.ref a],[]⟩) (fun r s'=>r=.ok (.ret (.bool true))/\OldK c.heap s'.heap/\s'.os=c.os/\AllBare s'.gens) c:=by
  intro H A M i C N;have E:∀{b:Addr}{o:Obj},c.heap.get? b=some o->H b=none->(cq c.heap H).get? b=some o:=fun e n=>D_ e n;have p:∀{b:Addr}{o:Obj}{es:Array DictEntry}{ep:Nat},c.heap.get? b=some o->o.data=.dict es ep->H b=none:=fun{b o es ep} e d=>by
   cases q:H b with
   |none=>rfl
   |some u=>
    have e':b=a:=C b (by rw[q];simp);subst e';rw[ha] at e;cases e;have d':Data.seq vs.toArray _=Data.dict es ep:=d;cases d'
  have f:∀{b:Addr}{m:Str->Option Value},c.heap.Ns b m->(cq c.heap H).Ns b m:=fun{b m} ⟨o,es,ep,e,d,r⟩=>⟨o,es,ep,E e (p e d),d,r⟩;have G:K.In (cq c.heap H):=fun b o e=>E (L b o e) (by
   cases q:H b with
   |none=>rfl
   |some u=>
    have e':b=a:=C b (by rw[q];simp);subst e';rw[N (by rw[q];simp)] at e;cases e)
  have T:Mod K mg (cq c.heap H):=⟨G,f I,⟨y,f hb,Y⟩,let ⟨mc,h1,h2⟩:=f_;⟨mc,f h1,h2⟩⟩;have U:Env0 P w K mg (cq c.heap H) callerA [] c H:=⟨rfl,T,fun b o e=>Ea e,Nat.le_of_eq (D8 _ _),trivial,fun b hb=>absurd (show b∈([]:List Addr) from hb) (by simp),i,.of_eq hg⟩;refine codeAny_mono ((F _ G (f I)).run callerA [] c H ⟨[.ref a],[]⟩ [.ref a] [.ref a] _ _ hr U (dG c (.ref a)) (.cons rfl .nil) (cF H A M)) fun r s' h=>?_;cases r with
  |error e=>exact(hG H e s' h).elim
  |ok fl=>
   cases fl with
   |next=>exact False.elim h
   |brk=>exact False.elim h
   |cont=>exact False.elim h
   |ret u=>
    obtain⟨v,H',os,j,un,O,Q,q⟩:=h;have W:v=.bl true:=q;subst W;obtain rfl:u=Value.bool true:=Q;refine⟨rfl,OldK.of_keep fun b o e=>?_,os,j⟩;cases q:H b with
    |none=>exact un.keep b o e q (by intro z;exact absurd (show b∈([]:List Addr) from z) (by simp)) (by simp)
    |some u=>
     rcases A b with z|⟨ob,xs,z⟩
     ·rw[q] at z;cases z
     ·have X:=un.frzs b ob _ z
      obtain⟨e1,_⟩:=i b _ z;obtain⟨e2,_⟩:=O b _ X;rw[e] at e1;cases e1;exact e2
 cases hk:K.lookup a with
 |some o=>
  have e:=L a o hk;rw[ha] at e;cases e;refine g (fun _=>none) (fun _=>.inl rfl) (.inr ⟨_,vs.toArray,_,hk,rfl,rfl,rfl,by rw[Am,S];exact J,by simpa using D⟩) (fun b u z=>by have l:(none:Option HO)=some u:=z;cases l) (fun b z=>absurd rfl z) fun z=>absurd rfl z
 |none=>
  refine g (fun b=>if b=a then some (.frz {cls:=.type "list",data:=.seq vs.toArray} (.lst (ns.map V.int))) else none) (fun b=>?_) (.inl (.inr ⟨{cls:=.type "list",data:=.seq vs.toArray},RJ rfl⟩)) (fun b u z=>?_) (fun b z=>?_) fun _=>hk
  ·by_cases hb:b=a
   ·exact .inr ⟨_,_,RJ hb⟩
   ·exact .inl (RK hb)
  ·by_cases hb:b=a
   ·have l:=(RJ hb).symm.trans z
    cases l;subst hb;exact⟨ha,by rw[Ab];exact J,vs,_,D,ha⟩
   ·have l:=(RK hb).symm.trans z
    cases l
  ·by_cases hb:b=a
   ·exact hb
   ·exact absurd (RK hb) z
abbrev EV{K:Ae}{h:Heap}(_:K.In h):Ae:=K
def JC{l:PySem.W.OpenLaw}{n k:Nat}{q:Program}{J:List Str}{S:(Str->Option Value)->Heap->Prop}{j:World->Heap->Prop}{d:DefRec}{K:Params->Ae}{CX:World->eH}{sp:World->Sp}{x:Str}(L:l.most=some n)(M:n<=sizeLine)(N:d.params.defaults=[])(hr:Room k callerA)(O:∀(w:World)(h:Heap),j w h->(K w.params).In h)(F:∀(w:World)(mg:Str->Option Value)(fa:Addr)(h:Heap),(K w.params).In h->h.Ns mainGlobals mg->mg d.name=some (.ref fa)->
   ∃fd:FuncData,(∀(s:Shared)(u:Value),BindsTo s fd ⟨[u],[]⟩ [(x,u)])/\
    ∀base:Heap,(K w.params).In base->base.Ns mainGlobals mg->FnOk l.prog w (K w.params) mg base (CX w) k fa fd [x] (sp w))
  (P:∀(w:World)(H:Hp)(a:Addr)(ns:List Int),ns.length<=n->ki H->SqL (K w.params) H a (ns.map V.int)->sp w [.ref a] H (fun v _=>v=.bl true) fun _ _ _=>False)
  (Q:∀(w:World)(H:Hp)(s:Shared)(e:Value)(s':Shared),CX w [] H s (fun _ _ _=>False) e s'->False) :
  PySem.W.WalkO q J S j l.row.toRowW d [] (fun f vs=>PySem.call f vs):=by
 refine Att.EU L N fun w s₀ p mg U fa o X cd bu a vs ns G Y ho hd bz r y A c C=>?_;have i:=O w _ Y;obtain⟨fd,hb,I⟩:=F w mg fa _ i G.T.g r;exact JB i G.T.g G.T.b G.T.builtins G.T.nolimit C y A (AC c M) hr I hb (fun H D E=>P w H a ns c D E) fun H e s'=>Q w H p e s'
end L2
/- THE LAST THEOREM (shape;LID,My.* are yours):
  My.Adr: a structure of kF addresses that your layer names (classes,functions);My.Txt K t: a structure (Prop) of kF equations over K;
  My.txt_mk:{K} {implicit addresses ..} (e1:nsIn K mainGlobals "law"=some (some (.ref f))) (e2:K.lookup f=some ⟨oc,od,.func (fnOf "law" "law" cH body scope dV kV bu pm an cdv ct),sl⟩) (e3:codeIn K cdv "law"=true) ..:∃t,My.Txt K t
set_option maxRecDepth 100000 in
set_option maxHeartbeats 0 in
theorem PySem.Challenge.cw_LID_holds:PySem.Challenge.rw_LID.Holds := by
 w_on;o_law;k_head;(case hw=>w_witness2)
 k_fill
 refine L2.JC (l:=PySem.Challenge.rw_LID) (n:=63) (k:=40) (x:="script") (CX:=fun w=>..) (sp:=fun _=>My.sp_law) rfl ξ rfl ⟨rfl,ξ,ξ⟩ (fun w h Y=>PySem.W.kIn_of Y) ?F ?S ?C
 case F=>
  intro w mg fa h f G g;have T:∃t,My.Txt (L2.EV f) t:=by
   dsimp only[L2.EV]                          -- K must stand as «<heap const> w.params» for k_is
   refine' My.txt_mk ?e1 ?e2 ?e3 ..
   (case e1 => PySem.W.k_is)                    -- in e order: a name -> ad address -> ad object -> ad parts
   (case e2=>PySem.W.k_is)
   ..
  obtain⟨t,T⟩:=T;have i:=g.symm.trans (Qe f G T.law);cases i                                       -- fa is e law's own address
  exact⟨_,fun s u => .of_eq rfl,fun base c d => My.law_fn T c d⟩     -- if «.of_eq rfl» comes too early: refine' ⟨_,?b,fun base c d => My.law_fn T c d⟩;exact fun s u => .of_eq rfl
 case S=>exact fun w H a ns j o p=>..
 case C=>exact ..
(e tactic k_is has q namespace: write k_is) -/
namespace L2
open PySem PySem.Spec PyProof.Rows
def zbU(s:Stmt):Arguments:=match s with
 |.FunctionDef _ a _ _ _ _ _ _ _ _=>a
 |_=>{posonlyargs:=[],args:=[],vararg:=none,kwonlyargs:=[],kw_defaults:=[],kwarg:=none,defaults:=[]}
def zT(s:Stmt):List Stmt:=match s with
 |.FunctionDef _ _ b _ _ _ _ _ _ _=>b
 |_=>[]
def zh(s:Stmt):Scope:=match s with
 |.FunctionDef _ _ _ _ _ _ sc _ _ _=>sc
 |_=>{kind:=.function,names:=[],isGenerator:=false,isCoroutine:=false}
abbrev aG:eH:=fun _ _ _ _ _ _=>False
abbrev E0:XK:=fun _ _ _=>False
def ax{X:Cx}:dM aG X E0:=fun _ _ _ _ _ _ _ h=>h.elim
structure Fun(K:Ae)(x ag:Str)(st:Stmt)(f:Addr)(fd:FuncData):Prop where
 ex:∃(oc:Value)(od:Option Addr)(kV bu pm:Value)(an:Option Addr)(cdv ct:Value)(cC:Array (Option Value)),
  fd=Ql x ag (zbU st) (zT st) (zh st) .none kV bu pm an cdv ct/\K.lookup f=some ⟨oc,od,.func fd,cC⟩/\Rk K cdv ag=true
 kp:QS K (.ref f)=true
section
variable{P:Program}{w:World}{K:Ae}{mg:Str->Option Value}{base:Heap}
def Fun.ok{x a:Str}{st:Stmt}{f:Addr}{fd:FuncData}{N ps:List Str}{k:Nat}{sp:Sp}(F:Fun K x a st f fd)(S:zr N ps (zh st))(len:∀vs H Q E,sp vs H Q E->vs.length=ps.length)(d:∀(cdv:Value)(A:Around)(outer:List Env)(s:Shared)(H:Hp)(vs:List V)(Q:VK)(E:XK),Room k (A.deeper (envOfC a (zh st) s⁻¹ f cdv))->sp vs H Q E->
   ∃t,PSs (b0 aG P w K mg base N a (zh st) f cdv A outer s H E).nox (zT st) t/\t {nx:=fun _ H'=>Q .non H',rt:=Q} (start N vs) H):FnOk P w K mg base aG (k+1) f fd ps sp:=by
 obtain⟨e,g,kV,i,j,l,cdv,ct,o,rfl,lk,c⟩:=F.ex;refine EB lk c S len fun A outer s H vs Q E hr b=>?_;obtain⟨t,h,q⟩:=d cdv A outer s H vs Q E hr b;exact⟨t,h.nox,q⟩
def Fun.binds{x d:Str}{st:Stmt}{f:Addr}{fd:FuncData}{ps:List Str}(F:Fun K x d st f fd)(h:∀(kV a b:Value)(c:Option Addr)(cdv ct:Value)(us:List Value),us.length=ps.length->bindArgs (Ql x d (zbU st) (zT st) (zh st) .none kV a b c cdv ct) ⟨us,[]⟩=pure (ps.zip us)):Binds K fd ps []:=by
 obtain⟨e,g,kV,a,b,c,cdv,ct,i,rfl,lk,j⟩:=F.ex;exact .all (h kV a b c cdv ct)
def JD{x a:Str}{st:Stmt}{f:Addr}{h:Value}{i e:Option Addr}{g:Array (Option Value)}{kV b d cdv ct:Value}(l:K.lookup f=some ⟨h,i,.func (Ql x a (zbU st) (zT st) (zh st) .none kV b d e cdv ct),g⟩)(c:Rk K cdv a=true)(k:QS K (.ref f)=true):Fun K x a st f (Ql x a (zbU st) (zT st) (zh st) .none kV b d e cdv ct):=⟨⟨h,i,kV,b,d,e,cdv,ct,g,rfl,l,c⟩,k⟩
end
def ev{A:Around}{k:Nat}(hr:Room k A):A.units+1<cLine:=Nat.lt_of_le_of_lt (Nat.add_le_add_left (by decide:1<=64) _) hr.units
section
variable{X:Cx}
def pv(i:Nat){x:Str}{pos:Pos}(a:X.N[i]?=some x:=by rfl)(b:qL X.env.scope x:=by first|exact Or.inl rfl|exact Or.inr (Or.inl rfl)|exact Or.inr (Or.inr rfl))(hd:(x==("__debug__":Str))=false:=by decide)
  (c:(x==("__classdict__":Str))=false:=by decide):PE X (.Name x pos) (ay i):=Ip a b hd c
end
def aO{A B:Prop}(h:B):if false=true then A else B:=by
 rw[RK An];exact h
def aK{A B:Prop}(h:A):if true=true then A else B:=by
 rw[RJ rfl];exact h
def bQ{c A B:Prop}[Decidable c](h1:c->A)(h2:¬c->B):if c then A else B:=by
 by_cases h:c
 ·rw[RJ h]
  exact h1 h
 ·rw[RK h]
  exact h2 h
def Same(H H':Hp):Prop:=∀b o,H b=some o->H' b=some o
def Same.refl(H:Hp):Same H H:=fun _ _ h=>h
def Same.trans{H H1 H2:Hp}(a:Same H H1)(b:Same H1 H2):Same H H2:=fun c o h=>b c o (a c o h)
def Same.free{H H':Hp}(e:Same H H'){l:Addr}(h:H' l=Option.none):H l=Option.none:=by
 cases q:H l with
 |none=>rfl
 |some o=>
  rw[e l o q] at h;cases h
def Same.seq{K:Ae}{H H':Hp}{a:Addr}{xs:List V}(e:Same H H')(h:SqL K H a xs):SqL K H' a xs:=by
 rcases h with (h|⟨o,h⟩)|h
 ·exact .inl (.inl (e _ _ h))
 ·exact .inl (.inr ⟨o,e _ _ h⟩)
 ·exact .inr h
end L2
end
section
namespace Tim
open PySem PyProof.Rows
def R(ρ:Keyed->Int)(xs:Array Keyed)(i:Nat):Int:=match xs[i]? with
 |some p=>ρ p
 |none=>0
def oG{ρ:Keyed->Int}{xs ys:Array Keyed}{i j:Nat}(h:xs[i]?=ys[j]?):R ρ xs i=R ρ ys j:=by unfold R;rw[h]
def i8{ρ:Keyed->Int}{xs:Array Keyed}{i:Nat}{p:Keyed}(h:xs[i]?=some p):R ρ xs i=ρ p:=by unfold R;rw[h]
def br(ρ:Keyed->Int)(xs:Array Keyed)(lo hi:Nat):Prop:=∀i j,lo<=i->i<=j->j<hi->R ρ xs i<=R ρ xs j
def mh(ρ:Keyed->Int)(xs:Array Keyed)(lo hi:Nat):Prop:=∀i j,lo<=i->i<=j->j<hi->R ρ xs j<=R ρ xs i
def Bn{ρ:Keyed->Int}{xs:Array Keyed}{i j:Nat}(a:j<=xs.size)(k:Nat):R ρ (mirror xs i j ((j-i) / 2)) k=if i<=k/\k<j then R ρ xs (i+j-1-k) else R ρ xs k:=by
 have e:=getElem?_mirror_all (i:=i) a k
 by_cases h1:i<=k/\k<j
 ·rw[RJ h1] at e ⊢;exact oG e
 ·rw[RK h1] at e ⊢;exact oG e
def oH{ρ:Keyed->Int}{xs:Array Keyed}{i j:Nat}(b:j<=xs.size)(a:∀k,i<=k->k<j->R ρ xs k=R ρ xs (j-1))(k:Nat):R ρ (mirror xs i j ((j-i) / 2)) k=R ρ xs k:=by
 rw[Bn b];split
 ·rw[a _ ω ω,a k ω ω]
 ·rfl
def EW{ρ:Keyed->Int}{xs:Array Keyed}{src d:Nat}(a:src<xs.size)(hd:d<=src)(k:Nat):R ρ (bubble xs src d) k=if k=src-d then R ρ xs src else if src-d<k/\k<=src then R ρ xs (k-1) else R ρ xs k:=by
 have e:=getElem?_bubble a d hd k
 by_cases h1:k=src-d
 ·rw[RJ h1] at e ⊢;exact oG e
 ·rw[RK h1] at e ⊢
  by_cases h2:src-d<k/\k<=src
  ·rw[RJ h2] at e ⊢;exact oG e
  ·rw[RK h2] at e ⊢;exact oG e
structure fT(prog:Program)(w:World)(A:Around)(s:Shared)(κ:SortKind)(a₀:Array Keyed)(ρ:Keyed->Int):Prop where
 lt:∀x y,x∈a₀.toList->y∈a₀.toList->∀(Q:Bool->Shared->Prop)(E:Ω),Q (decide (ρ x<ρ y)) s->wpAny (model prog w) A (keyLt' κ x.1 y.1) Q E s
structure B(κ:SortKind)(a₀:Array Keyed)(st:SortSt):Prop where
 perm:(arrOf st).Perm a₀
 kind:kindOf st=κ
 failed:failedOf st=none
def B.size{κ:SortKind}{a₀:Array Keyed}{st:SortSt}(h:B κ a₀ st):(arrOf st).size=a₀.size:=h.perm.size_eq
def B.setArr{κ:SortKind}{a₀:Array Keyed}{st:SortSt}(h:B κ a₀ st){xs:Array Keyed}(hp:xs.Perm (arrOf st)):B κ a₀ (setArr st xs):=⟨hp.trans h.perm,h.kind,h.failed⟩
def B.mem{κ:SortKind}{a₀:Array Keyed}{st:SortSt}(h:B κ a₀ st){p:Keyed}(hp:p∈(arrOf st).toList):p∈a₀.toList:=(Array.perm_iff_toList_perm.mp h.perm).mem_iff.mp hp
def EX{xs:Array Keyed}{i:Nat}(hi:i<xs.size):∃p,xs[i]?=some p/\p∈xs.toList:=⟨xs[i],getElem?_pos _ i hi,by simp⟩
structure Pre(lo:Nat)(st ah:SortSt):Prop where
 arr:∀k,k<lo->(arrOf ah)[k]?=(arrOf st)[k]?
 pend:pendingOf ah=pendingOf st
def Pre.refl{lo:Nat}{st:SortSt}:Pre lo st st:=⟨fun _ _=>rfl,rfl⟩
def Pre.trans{lo:Nat}{a b c:SortSt}(x:Pre lo a b)(y:Pre lo b c):Pre lo a c:=⟨fun k h=>(y.arr k h).trans (x.arr k h),y.pend.trans x.pend⟩
def Pre.mir{lo i j:Nat}{st:SortSt}(a:j<=(arrOf st).size)(hi:lo<=i):Pre lo st (setArr st (mirror (arrOf st) i j ((j-i) / 2))):=
 ⟨fun k h=>by show(mirror _ _ _ _)[k]?=_;rw[getElem?_mirror_all a,RK ω],rfl⟩
def Pre.bub{lo src d:Nat}{st:SortSt}(a:src<(arrOf st).size)(hd:d<=src)(b:lo<=src-d):Pre lo st (setArr st (bubble (arrOf st) src d)):=
 ⟨fun k h=>by show(bubble _ _ _)[k]?=_;rw[getElem?_bubble a d hd,RK ω,RK ω],rfl⟩
section
variable{prog:Program}{w:World}{A:Around}{E:Ω}{s:Shared}{κ:SortKind}{a₀:Array Keyed}{ρ:Keyed->Int}
def JE(C:fT prog w A s κ a₀ ρ){st:SortSt}(a:B κ a₀ st){x y:Keyed}(hx:x∈a₀.toList)(hy:y∈a₀.toList){Q:Option Bool->SortSt->Prop}(h:Q (some (decide (ρ x<ρ y))) st):wpS (model prog w) A E s (lt' x y) Q st:=by
 rw[lt'_eq];refine wpS_bind (wpS_get ?_);rw[a.kind];refine wpS_bind (wpS_lift (wpAny_attempt (C.lt x y hx hy _ _ ⟨rfl,?_⟩)));exact wpS_pure h
def EY{st:SortSt}{xs:Array Keyed}{i:Nat}{p:Keyed}(h:xs[i]?=some p){Q:Keyed->SortSt->Prop}(hq:Q p st):wpS (model prog w) A E s (elem' xs i) Q st:=by
 rw[elem'_eq,h];exact wpS_pure hq
def oI(C:fT prog w A s κ a₀ ρ){st:SortSt}(a:B κ a₀ st){i j:Nat}(hi:i<a₀.size)(d:j<a₀.size){Q:Option Bool->SortSt->Prop}(h:Q (some (decide (R ρ (arrOf st) i<R ρ (arrOf st) j))) st):wpS (model prog w) A E s (ltAt' i j) Q st:=by
 obtain⟨p,e1,b⟩:=EX (xs:=arrOf st) (i:=i) (by rw[a.size];exact hi);obtain⟨q,e2,c⟩:=EX (xs:=arrOf st) (i:=j) (by rw[a.size];exact d);rw[ltAt'_eq];refine wpS_bind (wpS_get ?_);show wpS _ _ _ _ (do let x <-elem' (arrOf st) i;let y <-elem' (arrOf st) j;lt' x y) Q st;refine wpS_bind (EY e1 (wpS_bind (EY e2 (JE C a (a.mem b) (a.mem c) ?_))));rw[i8 e1,i8 e2] at h;exact h
def asc(lo a b:Nat):StateT SortSt Sem AscSt:=
 forIn [a:b] ((none,a):AscSt) fun _ __s=>do
  let __x <-ltAt' (lo+__s.snd) (lo+__s.snd-1)
  match __x with
  |some smaller=>if smaller=true then pure (ForInStep.done (none,__s.snd)) else pure (ForInStep.yield (none,__s.snd+1))
  |_=>pure (ForInStep.done (some none,__s.snd))
def oJ(lo n a:Nat):StateT SortSt Sem (Option Nat):=do
 reverseSlice' lo (lo+n)
 let __s <-asc lo n a
 match __s.fst with
 |some r=>pure r
 |none=>pure (some __s.snd)
def rq(lo n a:Nat):StateT SortSt Sem DescSt:=
 forIn [n:a] ((none,n,0):DescSt) fun _ __s=>do
  let __x <-ltAt' (lo+__s.snd.fst) (lo+__s.snd.fst-1)
  match __x with
  |some smaller=>
   if smaller=true then
    if __s.snd.snd>0 then do
     reverseSlice' (lo+__s.snd.fst-(__s.snd.snd+1)) (lo+__s.snd.fst)
     pure (ForInStep.yield (none,__s.snd.fst+1,0))
    else pure (ForInStep.yield (none,__s.snd.fst+1,0))
   else do
    let __x <-ltAt' (lo+__s.snd.fst-1) (lo+__s.snd.fst)
    match __x with
    |some larger=>
     if larger=true then pure (ForInStep.done (none,__s.snd.fst,__s.snd.snd))
     else pure (ForInStep.yield (none,__s.snd.fst+1,__s.snd.snd+1))
    |_=>pure (ForInStep.done (some none,__s.snd.fst,__s.snd.snd))
  |_=>pure (ForInStep.done (some none,__s.snd.fst,__s.snd.snd))
def oM(lo n a:Nat):StateT SortSt Sem (Option Nat):=do
 liftM (rule "list.sort.descending-run")
 let __s <-rq lo (n+1) a
 match __s.fst with
 |some r=>pure r
 |none=>
  if __s.snd.snd>0 then do
   reverseSlice' (lo+__s.snd.fst-(__s.snd.snd+1)) (lo+__s.snd.fst)
   oJ lo __s.snd.fst a
  else oJ lo __s.snd.fst a
def be{b c:Type}{m:StateT SortSt Sem b}{f g:b->StateT SortSt Sem c}(h:∀a,f a=g a):(m >>= f)=(m >>= g):=by
 have e:f=g:=funext h;rw[e]
def JF(lo d:Nat):countRun' lo d=(do
  let __s <-asc lo 1 d
  match __s.fst with
  |some r=>pure r
  |none=>
   if(__s.snd==d)=true then pure (some __s.snd)
   else if __s.snd>1 then do
    let __x <-ltAt' lo (lo+__s.snd-1)
    match __x with
    |some rose=>if rose=true then pure (some __s.snd) else do
      reverseSlice' lo (lo+__s.snd)
      oM lo __s.snd d
    |_=>pure none
   else oM lo __s.snd d):=by
 rw[countRun'_eq];unfold oM oJ rq asc;refine be fun g=>?_;obtain⟨r,n⟩:=g;cases r with
 |some r=>rfl
 |none=>
  dsimp only;split
  ·rfl
  ·split
   ·refine be fun x=>?_
    cases x with
    |none=>rfl
    |some rose=>
     dsimp only;split
     ·rfl
     ·refine be fun _r=>be fun _u=>be fun e=>?_
      obtain⟨c,n2,h⟩:=e;cases c with
      |some c=>rfl
      |none=>
       dsimp only;split
       ·refine be fun _v=>be fun _w=>be fun a=>?_
        obtain⟨b,f⟩:=a;cases b<;>rfl
       ·refine be fun _w=>be fun a=>?_
        obtain⟨b,f⟩:=a;cases b<;>rfl
   ·refine be fun _u=>be fun e=>?_
    obtain⟨c,n2,h⟩:=e;cases c with
    |some c=>rfl
    |none=>
     dsimp only;split
     ·refine be fun _v=>be fun _w=>be fun a=>?_
      obtain⟨b,f⟩:=a;cases b<;>rfl
     ·refine be fun _w=>be fun a=>?_
      obtain⟨b,f⟩:=a;cases b<;>rfl
def EZ(C:fT prog w A s κ a₀ ρ){st:SortSt}{lo a e:Nat}{Q:AscSt->SortSt->Prop}(G:lo+e<=a₀.size)(ha:1<=a)(u:a<=e)(v:B κ a₀ st)(y:br ρ (arrOf st) lo (lo+a))(h:∀n,a<=n->n<=e->br ρ (arrOf st) lo (lo+n)->(n=e\/R ρ (arrOf st) (lo+n)<R ρ (arrOf st) (lo+n-1))->Q (none,n) st):wpS (model prog w) A E s (asc lo a e) Q st:=by
 unfold asc;refine wpS_forRange (I:=fun x c f=>f=st/\c=(none,x)/\br ρ (arrOf st) lo (lo+x)) ?step ?fin ⟨rfl,rfl,y⟩
 case fin=>
  rintro c f ⟨rfl,rfl,d⟩;rw[show max a e=e from ω] at d ⊢;exact h e u (Ag _) d (.inl rfl)
 case step=>
  rintro x c f r F ⟨rfl,rfl,d⟩;dsimp only;refine wpS_bind (oI C v ω ω ?_)
  by_cases b:R ρ (arrOf f) (lo+x)<R ρ (arrOf f) (lo+x-1)
  ·simp only[b,decide_true,if_true]
   exact wpS_pure (h x r ω d (.inr b))
  ·simp only[b,decide_false,Az,if_false]
   refine wpS_pure ⟨rfl,rfl,fun i j p q D=>?_⟩
   by_cases l:j<lo+x
   ·exact d i j p q l
   ·have g:j=lo+x:=ω
    subst g
    by_cases o:i=lo+x
    ·subst o;exact Pm _
    ·exact Int.le_trans (d i (lo+x-1) p ω ω) (Int.not_lt.mp b)
def rx{st:SortSt}{i j:Nat}{Q:Unit->SortSt->Prop}(h:Q () (setArr st (mirror (arrOf st) i j ((j-i) / 2)))):wpS (model prog w) A E s (reverseSlice' i j) Q st:=by
 rw[reverseSlice'_eq];exact wpS_modify h
abbrev Got(κ:SortKind)(a₀:Array Keyed)(ρ:Keyed->Int)(lo ai:Nat)(st:SortSt)(Q:Option Nat->SortSt->Prop):Prop:=
 ∀m ah,B κ a₀ ah->Pre lo st ah->1<=m->m<=ai->br ρ (arrOf ah) lo (lo+m)->Q (some m) ah
def E1(C:fT prog w A s κ a₀ ρ){st d:SortSt}{lo n a:Nat}{Q:Option Nat->SortSt->Prop}(l:lo+a<=a₀.size)(h1:1<=n)(b:n<=a)(e:B κ a₀ st)(o:Pre lo d st)(p:mh ρ (arrOf st) lo (lo+n))(h:Got κ a₀ ρ lo a d Q):wpS (model prog w) A E s (oJ lo n a) Q st:=by
 unfold oJ;have hsz:lo+n<=(arrOf st).size:=by rw[e.size];omega
 refine wpS_bind (rx ?_);have c:B κ a₀ (setArr st (mirror (arrOf st) lo (lo+n) ((lo+n-lo) / 2))):=e.setArr (mirror_perm _ _ _ _);refine wpS_bind (EZ C l h1 b c ?_ fun m q f g _=>wpS_pure (h m _ c (o.trans (.mir hsz (Ag _))) ω f g));intro i j r u v;show R ρ (mirror (arrOf st) lo (lo+n) ((lo+n-lo) / 2)) i<=R ρ (mirror (arrOf st) lo (lo+n) ((lo+n-lo) / 2)) j;rw[Bn hsz,Bn hsz,RJ ω,RJ ω];exact p _ _ ω ω ω
def JG(C:fT prog w A s κ a₀ ρ){st G:SortSt}{lo n r:Nat}{Q:DescSt->SortSt->Prop}(T:lo+r<=a₀.size)(h1:1<=n)(H:n<=r)(N:B κ a₀ st)(O:Pre lo G st)(P:mh ρ (arrOf st) lo (lo+n))(h:∀m f a,B κ a₀ a->Pre lo G a->n<=m->m<=r->mh ρ (arrOf a) lo (lo+m)->f+1<=m->(∀i,lo+m-(f+1)<=i->i<lo+m->R ρ (arrOf a) i=R ρ (arrOf a) (lo+m-1))->Q (none,m,f) a):wpS (model prog w) A E s (rq lo n r) Q st:=by
 unfold rq;refine wpS_forRange (I:=fun x c a=>∃f,c=(none,x,f)/\B κ a₀ a/\Pre lo G a/\mh ρ (arrOf a) lo (lo+x)/\f+1<=x/\
   (∀i,lo+x-(f+1)<=i->i<lo+x->R ρ (arrOf a) i=R ρ (arrOf a) (lo+x-1))) ?step ?fin ⟨0,rfl,N,O,P,ω,fun i h1 h2=>by congr 1;omega⟩
 case fin=>
  rintro c a ⟨f,rfl,l,y,b,hq,he⟩;rw[show max n r=r from ω] at b hq he ⊢;exact h r f a l y H (Ag _) b hq he
 case step=>
  rintro x c a M S ⟨f,rfl,l,y,b,hq,he⟩;dsimp only;have hsz:lo+x<=(arrOf a).size:=by rw[l.size];omega
  refine wpS_bind (oI C l ω ω ?_)
  by_cases e:R ρ (arrOf a) (lo+x)<R ρ (arrOf a) (lo+x-1)
  ·simp only[e,decide_true,if_true]
   have g:∀xs:Array Keyed,(∀k,R ρ xs k=R ρ (arrOf a) k)->mh ρ xs lo (lo+(x+1)):=by
    intro xs hk i j D F L;rw[hk,hk]
    by_cases u:j<lo+x
    ·exact b i j D F u
    ·have q:j=lo+x:=ω
     subst q
     by_cases v:i=lo+x
     ·subst v;exact Pm _
     ·exact Int.le_trans (RC e) (b i (lo+x-1) D ω ω)
   by_cases p:f>0
   ·rw[RJ p]
    refine wpS_bind (rx (wpS_pure ⟨0,rfl,l.setArr (mirror_perm _ _ _ _),y.trans (.mir hsz ω),g _ (oH hsz he),ω,fun i h1 h2=>by congr 1;omega⟩))
   ·rw[RK p]
    exact wpS_pure ⟨0,rfl,l,y,g _ (fun _=>rfl),ω,fun i h1 h2=>by congr 1;omega⟩
  ·simp only[e,decide_false,Az,if_false]
   refine wpS_bind (oI C l ω ω ?_)
   by_cases d:R ρ (arrOf a) (lo+x-1)<R ρ (arrOf a) (lo+x)
   ·simp only[d,decide_true,if_true]
    exact wpS_pure (h x f a l y M ω b hq he)
   ·simp only[d,decide_false,Az,if_false]
    have o:R ρ (arrOf a) (lo+x)=R ρ (arrOf a) (lo+x-1):=ω
    refine wpS_pure ⟨f+1,rfl,l,y,fun i j D F L=>?_,ω,fun i h1 h2=>?_⟩
    ·by_cases u:j<lo+x
     ·exact b i j D F u
     ·have q:j=lo+x:=ω
      subst q
      by_cases v:i=lo+x
      ·subst v;exact Pm _
      ·rw[o];exact b i (lo+x-1) D ω ω
    ·rw[show lo+(x+1)-1=lo+x from ω]
     by_cases J:i=lo+x
     ·subst J;rfl
     ·rw[o];exact he i ω ω
def E2(C:fT prog w A s κ a₀ ρ){st p:SortSt}{lo n c:Nat}{Q:Option Nat->SortSt->Prop}(f:lo+c<=a₀.size)(g:n+1<=c)(x:B κ a₀ st)(y:Pre lo p st)(D:mh ρ (arrOf st) lo (lo+(n+1)))(h:Got κ a₀ ρ lo c p Q):wpS (model prog w) A E s (oM lo n c) Q st:=by
 unfold oM;refine wpS_bind (wpS_lift (wpAny_rule ⟨rfl,?_⟩));refine wpS_bind (JG C f ω g x y D fun m q d e l F o b hq he=>?_);dsimp only;have hsz:lo+m<=(arrOf d).size:=by rw[e.size];omega
 by_cases a:q>0
 ·rw[RJ a]
  refine wpS_bind (rx (E1 C f ω o (e.setArr (mirror_perm _ _ _ _)) (l.trans (.mir hsz ω)) ?_ h));intro i j r u v;show R ρ (mirror (arrOf d) _ _ _) j<=R ρ (mirror (arrOf d) _ _ _) i;rw[oH hsz he,oH hsz he];exact b i j r u v
 ·rw[RK a]
  exact E1 C f ω o e l b h
def JH(C:fT prog w A s κ a₀ ρ){st:SortSt}{lo o:Nat}{Q:Option Nat->SortSt->Prop}(v:lo+o<=a₀.size)(h1:1<=o)(c:B κ a₀ st)(h:Got κ a₀ ρ lo o st Q):wpS (model prog w) A E s (countRun' lo o) Q st:=by
 rw[JF];refine wpS_bind (EZ C v (Ag 1) h1 c (fun i j f y D=>by have:i=j:=ω;subst this;exact Pm _) fun n F G q H=>?_);dsimp only
 by_cases d:n=o
 ·rw[RJ (by simpa using d)]
  exact wpS_pure (h n st c .refl F G q)
 ·rw[RK (by simpa using d)]
  have g:R ρ (arrOf st) (lo+n)<R ρ (arrOf st) (lo+n-1):=H.resolve_left d
  by_cases p:n>1
  ·rw[RJ p]
   refine wpS_bind (oI C c ω ω ?_)
   by_cases b:R ρ (arrOf st) lo<R ρ (arrOf st) (lo+n-1)
   ·simp only[b,decide_true,if_true]
    exact wpS_pure (h n st c .refl F G q)
   ·simp only[b,decide_false,Az,if_false]
    have hsz:lo+n<=(arrOf st).size:=by rw[c.size];omega
    have a:∀k,lo<=k->k<lo+n->R ρ (arrOf st) k=R ρ (arrOf st) (lo+n-1):=by
     intro k f hk;have J:=q lo k ω f hk;have L:=q k (lo+n-1) f ω ω;omega
    refine wpS_bind (rx (E2 C v ω (c.setArr (mirror_perm _ _ _ _)) (.mir hsz (Ag _)) ?_ h));intro i j f y D;show R ρ (mirror (arrOf st) _ _ _) j<=R ρ (mirror (arrOf st) _ _ _) i;rw[oH hsz a,oH hsz a]
    by_cases x:j<lo+n
    ·rw[a i ω ω,a j ω x];exact Pm _
    ·have r:j=lo+n:=ω
     subst r
     by_cases e:i=lo+n
     ·subst e;exact Pm _
     ·rw[a i ω ω];exact RC g
  ·rw[RK p]
   have l:n=1:=ω
   subst l;refine E2 C v ω c .refl ?_ h;intro i j f y D
   by_cases e:i=j
   ·subst e;exact Pm _
   ·have I:i=lo:=ω
    have u:j=lo+1:=ω
    subst I;subst u;exact RC g
def JI(C:fT prog w A s κ a₀ ρ){st:SortSt}{lo n ok:Nat}{Q:Bool->SortSt->Prop}(T:lo+n<=a₀.size)(L:ok<=n)(M:B κ a₀ st)(N:br ρ (arrOf st) lo (lo+ok))(h:∀a,B κ a₀ a->Pre lo st a->br ρ (arrOf a) lo (lo+n)->Q true a):wpS (model prog w) A E s (binarySort' lo n ok) Q st:=by
 rw[binarySort'_eq];refine wpS_bind (wpS_mono (wpS_forRange (I:=fun k c a=>c=(none,())/\B κ a₀ a/\Pre lo st a/\br ρ (arrOf a) lo (lo+min k n))
  (Q:=fun c a=>c=(none,())/\B κ a₀ a/\Pre lo st a/\br ρ (arrOf a) lo (lo+n)) ?step ?fin ?init) ?post)
 case post=>
  rintro c a ⟨rfl,g,p,d⟩;exact wpS_pure (h a g p d)
 case init=>
  refine⟨rfl,M,.refl,fun i j y D F=>?_⟩
  by_cases h1:ok=0
  ·have:i=j:=ω
   subst this;exact Pm _
  ·exact N i j y D ω
 case fin=>
  rintro c a ⟨hc,g,p,d⟩;refine⟨hc,g,p,?_⟩
  rwa [show min (max (max ok 1) n) n=n from ω] at d
 case step=>
  rintro k c a O P ⟨rfl,g,p,d⟩;rw[show min k n=k from ω] at d;have hk:lo+k<a₀.size:=ω
  refine wpS_bind (wpS_mono (wpS_forRange (I:=fun x c e=>e=a/\∃l r,c=(none,l,r)/\l<=r/\r<=k/\r-l<=k-x/\
    (∀i,i<l->R ρ (arrOf a) (lo+i)<=R ρ (arrOf a) (lo+k))/\(∀i,r<=i->i<k->R ρ (arrOf a) (lo+k)<R ρ (arrOf a) (lo+i)))
   (Q:=fun c e=>e=a/\∃l r,c=(none,l,r)/\l<=k/\
    (∀i,i<l->R ρ (arrOf a) (lo+i)<=R ρ (arrOf a) (lo+k))/\(∀i,l<=i->i<k->R ρ (arrOf a) (lo+k)<R ρ (arrOf a) (lo+i))) ?istep ?ifin ?iinit) ?ipost)
  case iinit=>exact⟨rfl,0,k,rfl,ω,ω,ω,fun i hi=>ω,fun i h1 h2=>ω⟩
  case ifin=>
   rintro c e ⟨rfl,l,r,rfl,G,u,hm,f,o⟩;have:l=r:=ω
   subst this;exact⟨rfl,l,l,rfl,u,f,o⟩
  case istep=>
   rintro x c e _ U ⟨rfl,l,r,rfl,G,u,hm,f,o⟩;dsimp only
   by_cases q:l ≥ r
   ·rw[RJ q]
    have:l=r:=ω
    subst this;exact wpS_pure ⟨rfl,l,l,rfl,u,f,o⟩
   ·rw[RK q]
    refine wpS_bind (oI C g hk ω ?_)
    by_cases b:R ρ (arrOf e) (lo+k)<R ρ (arrOf e) (lo+(l+r) / 2)
    ·simp only[b,decide_true,if_true]
     refine wpS_pure ⟨rfl,l,(l+r) / 2,rfl,ω,ω,ω,f,fun i h1 h2=>?_⟩;exact Int.lt_of_lt_of_le b (d _ _ ω ω ω)
    ·simp only[b,decide_false,Az,if_false]
     refine wpS_pure ⟨rfl,(l+r) / 2+1,r,rfl,ω,ω,ω,fun i h1=>?_,o⟩;exact Int.le_trans (d (lo+i) (lo+(l+r) / 2) ω ω ω) (Int.not_lt.mp b)
  case ipost=>
   rintro c e ⟨rfl,l,r,rfl,S,f,o⟩;show wpS _ _ _ _ (do moveDown' (lo+k) (lo+l);pure (ForInStep.yield (none,()))) _ _;rw[moveDown'_eq];have v:lo+k<(arrOf e).size:=by rw[g.size];exact hk
   refine wpS_bind (wpS_modify (wpS_pure ⟨rfl,g.setArr (bubble_perm _ _ _),p.trans (.bub v ω ω),?_⟩));rw[show min (k+1) n=k+1 from ω];intro i j y D F;show R ρ (bubble (arrOf e) (lo+k) (lo+k-(lo+l))) i<=R ρ (bubble (arrOf e) (lo+k) (lo+k-(lo+l))) j;rw[EW v ω,EW v ω,show lo+k-(lo+k-(lo+l))=lo+l from ω];have H:∀i,lo<=i->i<lo+l->R ρ (arrOf e) i<=R ρ (arrOf e) (lo+k):=fun i h1 h2=>by
    have:=f (i-lo) ω;rwa [show lo+(i-lo)=i from ω] at this
   have J:∀i,lo+l<=i->i<lo+k->R ρ (arrOf e) (lo+k)<R ρ (arrOf e) i:=fun i h1 h2=>by
    have:=o (i-lo) ω ω;rwa [show lo+(i-lo)=i from ω] at this
   repeat' split
   all_goals first
    |(exfalso;omega)
    |exact Pm _
    |exact H _ ω ω
    |exact RC (J _ ω ω)
    |exact d _ _ ω ω ω
def JJ(C:fT prog w A s κ a₀ ρ){st:SortSt}{Q:Unit->SortSt->Prop}(F:B κ a₀ st)(hp:pendingOf st=#[])(h1:1<=a₀.size)(O:a₀.size<64)(h:∀a,B κ a₀ a->br ρ (arrOf a) 0 a₀.size->Q () a):wpS (model prog w) A E s sortRuns' Q st:=by
 rw[sortRuns'_eq];refine wpS_bind (wpS_get ?_);dsimp only;have N:minRun' a₀.size a₀.size 0=a₀.size:=by
  obtain⟨f,hf⟩:∃f,a₀.size=f+1:=⟨a₀.size-1,ω⟩;have:minRun' (f+1) a₀.size 0=a₀.size:=by rw[minRun'_succ,RJ O];rfl
  rwa [<-hf] at this
 simp only[F.size,N];refine wpS_bind (wpS_mono (wpS_forRange
  (I:=fun x c a=>(x=0/\c=(none,0)/\B κ a₀ a/\pendingOf a=#[])\/(1<=x/\c=(none,a₀.size)/\B κ a₀ a/\(pendingOf a).size<=1/\br ρ (arrOf a) 0 a₀.size))
  (Q:=fun c a=>c=(none,a₀.size)/\B κ a₀ a/\(pendingOf a).size<=1/\br ρ (arrOf a) 0 a₀.size) ?step ?fin (.inl ⟨rfl,rfl,F,hp⟩)) ?post)
 case fin=>
  rintro c a (⟨hx,_,_⟩|⟨_,hc,l⟩)
  ·omega
  ·exact⟨hc,l⟩
 case step=>
  rintro x c a _ hx (⟨rfl,rfl,o,v⟩|⟨S,rfl,l⟩)
  ·dsimp only
   rw[RK ω];simp only[Rh,Nat.min_self];refine wpS_bind (JH C ω ω o fun m i r P2 P G j=>?_);dsimp only;have tl:∀d,B κ a₀ d->pendingOf d=#[]->br ρ (arrOf d) 0 a₀.size->B κ a₀ (setPending d ((pendingOf d).push (0,a₀.size,0)))/\(pendingOf (setPending d ((pendingOf d).push (0,a₀.size,0)))).size<=1/\br ρ (arrOf (setPending d ((pendingOf d).push (0,a₀.size,0)))) 0 a₀.size:=
    fun d b p q=>⟨⟨b.perm,b.kind,b.failed⟩,by show((pendingOf d).push _).size<=1;rw[p];exact Ag 1,q⟩
   by_cases g:m<a₀.size
   ·rw[RJ g]
    refine wpS_bind (wpS_lift (wpAny_rule ⟨rfl,?_⟩));refine wpS_bind (JI C ω G r j fun d H P3 u=>?_);simp only[Qf,Az,if_false];refine wpS_bind (wpS_get ?_);have y:pendingOf d=#[]:=by rw[P3.pend,P2.pend];exact v
    have hb:(pendingOf d).back?=none:=by rw[y];rfl
    rw[hb];dsimp only;simp only[Nat.zero_add] at u ⊢;exact wpS_bind (wpS_modify (wpS_pure (.inr ⟨ω,rfl,tl d H y u⟩)))
   ·rw[RK g]
    have hm:m=a₀.size:=ω
    subst hm;refine wpS_bind (wpS_get ?_);have D:pendingOf i=#[]:=by rw[P2.pend];exact v
    have hb:(pendingOf i).back?=none:=by rw[D];rfl
    rw[hb];dsimp only;simp only[Nat.zero_add] at j ⊢;exact wpS_bind (wpS_modify (wpS_pure (.inr ⟨ω,rfl,tl i r D j⟩)))
  ·dsimp only
   rw[RJ (Ag _)];exact wpS_pure ⟨rfl,l⟩
 case post=>
  rintro c a ⟨rfl,o,L,M⟩;dsimp only;refine wpS_bind (wpS_mono (wpS_forRange (I:=fun _ c e=>e=a/\c=(none,())) (Q:=fun c e=>e=a/\c=(none,())) ?_ (fun _ _ J=>J) ⟨rfl,rfl⟩) ?_)
  ·rintro x c e _ _ ⟨rfl,rfl⟩
   refine wpS_bind (wpS_get ?_);rw[RJ L];exact wpS_pure ⟨rfl,rfl⟩
  ·rintro c e ⟨rfl,rfl⟩
   exact wpS_pure (h _ o M)
end
end Tim
end
section
namespace br
open PySem PyProof.Rows HT
def Bz:∀a:List Int,lexLt a a=false
 |[]=>rfl
 |x::a=>by rw[zJ,RJ rfl];exact Bz a
def mm:∀{a b c:List Int},lexLt a b=true->lexLt b c=true->lexLt a c=true
 |[],[],_,h,_=>by cases h
 |[],_::_,[],_,h=>by cases h
 |[],_::_,_::_,_,_=>rfl
 |_::_,[],_,h,_=>by cases h
 |_::_,_::_,[],_,h=>by cases h
 |x::a,y::b,z::c,h1,h2=>by
  rw[zJ] at h1 h2 ⊢
  by_cases e1:x=y
  ·rw[RJ e1] at h1
   by_cases e2:y=z
   ·rw[RJ e2] at h2
    rw[RJ (e1.trans e2)];exact mm h1 h2
   ·rw[RK e2] at h2
    rw[RK ω];have:=RO h2;exact RM ω
  ·rw[RK e1] at h1
   have d:=RO h1
   by_cases e2:y=z
   ·rw[RK ω]
    exact RM ω
   ·rw[RK e2] at h2
    have e:=RO h2;rw[RK ω];exact RM ω
def E3:∀{a b:List Int},lexLt a b=false->lexLt b a=false->a=b
 |[],[],_,_=>rfl
 |[],_::_,h,_=>by cases h
 |_::_,[],_,h=>by cases h
 |x::a,y::b,h1,h2=>by
  rw[zJ] at h1 h2
  by_cases e:x=y
  ·subst e
   rw[RJ rfl] at h1 h2;rw[E3 h1 h2]
  ·rw[RK e] at h1
   rw[RK (Ne.symm e)] at h2;have:=of_decide_eq_false h1;have:=of_decide_eq_false h2;omega
def rk(ls:Ξ)(l:List Int):Int:=((ls.filter fun m=>lexLt m l).length:Nat)
def E4{ls:Ξ}{l m:List Int}(f:l∈ls)(hm:m∈ls):decide (rk ls l<rk ls m)=lexLt l m:=by
 have mono:∀{a b:List Int},(∀x,lexLt x a=true->lexLt x b=true)->∀k:Ξ,(k.filter fun x=>lexLt x a).length<=(k.filter fun x=>lexLt x b).length:=by
  intro a b c k
  induction k with
  |nil=>exact Ag _
  |cons x k ih=>
   rw[Qw,Qw]
   by_cases q:lexLt x a=true
   ·rw[RJ q,RJ (c x q),Ay,Ay];omega
   ·rw[RK q]
    split
    ·rw[Ay];omega
    ·exact ih
 have d:∀{a b:List Int},(∀x,lexLt x a=true->lexLt x b=true)->lexLt a b=true->∀k:Ξ,a∈k->(k.filter fun x=>lexLt x a).length<(k.filter fun x=>lexLt x b).length:=by
  intro a b c h k
  induction k with
  |nil=>intro q;cases q
  |cons x k ih=>
   intro hk;rw[Qw,Qw];rcases OT.mp hk with e|e
   ·subst e
    rw[RK (by rw[Bz];exact An),RJ h,Ay];have:=mono c k;omega
   ·have:=ih e
    by_cases q:lexLt x a=true
    ·rw[RJ q,RJ (c x q),Ay,Ay];omega
    ·rw[RK q]
     split
     ·rw[Ay];omega
     ·exact this
 unfold rk;cases q:lexLt l m with
 |true=>
  have:=d (a:=l) (b:=m) (fun x hx=>mm hx q) q ls f;exact RM ω
 |false=>
  have:=mono (a:=m) (b:=l) (fun x hx=>by
   cases z:lexLt x l with
   |true=>rfl
   |false=>
    cases z2:lexLt l x with
    |true=>rw[mm z2 hx] at q;cases q
    |false=>rw[E3 z z2] at hx;rw[hx] at q;cases q) ls
  exact RN ω
structure By(prog:Program)(w:World)(A:Around)(good:Heap->Prop)(us:List Value)(ls:Ξ):Prop where
 len:us.length=ls.length
 fn:∀(i j:Nat) u l m,us[i]?=some u->us[j]?=some u->ls[i]?=some l->ls[j]?=some m->l=m
 ask:2<=us.length->∃κ:SortKind,(∀(s:Shared)(Q:SortKind->Shared->Prop)(E:Ω),good s.heap->Q κ s->wpAny (model prog w) A (keyKind' us.toArray) Q E s)/\
  ∀(i j:Nat) u v l m,us[i]?=some u->us[j]?=some v->ls[i]?=some l->ls[j]?=some m->∀(s:Shared)(Q:Bool->Shared->Prop)(E:Ω),good s.heap->Q (lexLt l m) s->wpAny (model prog w) A (keyLt' κ u v) Q E s
open Classical in
noncomputable def mr(us:List Value)(ls:Ξ)(u:Value):List Int:=if h:∃l,∃i:Nat,us[i]?=some u/\ls[i]?=some l then h.choose else []
def oN{us:List Value}{ls:Ξ}(fn:∀(i j:Nat) u l m,us[i]?=some u->us[j]?=some u->ls[i]?=some l->ls[j]?=some m->l=m){i:Nat}{u:Value}{l:List Int}(h1:us[i]?=some u)(h2:ls[i]?=some l):mr us ls u=l:=by
 unfold mr;have h:∃l,∃i:Nat,us[i]?=some u/\ls[i]?=some l:=⟨l,i,h1,h2⟩;rw[dif_pos h];obtain⟨j,e1,e2⟩:=h.choose_spec;exact fn j i u _ l e1 h1 e2 h2
noncomputable def mu(us:List Value)(ls:Ξ)(p:Keyed):Int:=rk ls (mr us ls p.1)
section
variable{prog:Program}{w:World}{A:Around}{E:Ω}{s:Shared}{good:Heap->Prop}{us vs:List Value}{ls:Ξ}
def jC(h:us.length=vs.length){p:Keyed}(hp:p∈(us.toArray.zip vs.toArray).toList):∃i:Nat,us[i]?=some p.1/\vs[i]?=some p.2:=by
 have e:(us.toArray.zip vs.toArray).toList=us.zip vs:=by simp
 rw[e] at hp;obtain⟨i,hi,e2⟩:=List.mem_iff_getElem.mp hp;rw[List.getElem_zip] at e2;rw[PU] at hi;refine⟨i,?_,?_⟩
 ·rw[Ai ω,<-e2]
 ·rw[Ai ω,<-e2]
def JK(B:By prog w A good us ls)(d:us.length=vs.length)(f:good s.heap){κ:SortKind}(h2:2<=us.length)(p:us.length<64)(hk:∀(i j:Nat) u v l m,us[i]?=some u->us[j]?=some v->ls[i]?=some l->ls[j]?=some m->∀(s:Shared)(Q:Bool->Shared->Prop)(E:Ω),good s.heap->Q (lexLt l m) s->wpAny (model prog w) A (keyLt' κ u v) Q E s){Q:Unit->SortSt->Prop}(h:∀a,(arrOf a).Perm (us.toArray.zip vs.toArray)->failedOf a=none->Tim.br (mu us ls) (arrOf a) 0 vs.length->Q () a):wpS (model prog w) A E s sortRuns' Q (SortSt.mk' κ (us.toArray.zip vs.toArray) #[] 7 none):=by
 have hz:(us.toArray.zip vs.toArray).size=vs.length:=by simp;omega
 refine Tim.JJ (κ:=κ) (a₀:=us.toArray.zip vs.toArray) (ρ:=mu us ls) ⟨fun x y hx hy g o hq=>?_⟩ ⟨Array.Perm.refl _,rfl,rfl⟩ rfl (by rw[hz];omega) (by rw[hz];omega) fun a b e=>h a b.perm b.failed (by rw[<-hz];exact e);obtain⟨i,e1,_⟩:=jC d hx;obtain⟨j,e2,_⟩:=jC d hy;have hi:i<ls.length:=by rw[<-B.len];exact(B5.mp e1).1
 have c:j<ls.length:=by rw[<-B.len];exact(B5.mp e2).1
 have f1:ls[i]?=some ls[i]:=Ai hi;have f2:ls[j]?=some ls[j]:=Ai c;refine hk i j _ _ _ _ e1 e2 f1 f2 s g o f ?_;unfold mu at hq;rw[oN B.fn e1 f1,oN B.fn e2 f2,E4 (Bf hi) (Bf c)] at hq;exact hq
def cm{a b:Type}:∀(l:List a)(m:List b)(i:Nat),(l.zip m)[i]?=(l[i]?).bind fun x=>(m[i]?).map fun y=>(x,y)
 |[],m,i=>by simp
 |x::l,[],i=>by cases h:(x::l)[i]?<;>simp
 |x::l,y::m,0=>rfl
 |x::l,y::m,i+1=>by
  rw[QM,QQ,QQ,QQ];exact cm l m i
def JL(B:By prog w A good us ls)(o:us.length=vs.length){xs:Array Keyed}(hp:xs.Perm (us.toArray.zip vs.toArray))(C:Tim.br (mu us ls) xs 0 vs.length):∃ps:List (List Int×Value),ps.Perm (ls.zip vs)/\xs.toList.map (·.2)=ps.map (·.2)/\ps.Pairwise fun(a b:List Int×Value)=>HT.lexLt b.1 a.1=false:=by
 have f:xs.toList.Perm (us.zip vs):=by
  have:=Array.perm_iff_toList_perm.mp hp
  simpa using this
 refine⟨xs.toList.map fun p=>(mr us ls p.1,p.2),?_,by rw[Ak];rfl,?_⟩
 ·have e:(us.zip vs).map (fun p:Keyed=>(mr us ls p.1,p.2))=ls.zip vs:=by
   apply Rn;intro i;rw[Af,cm,cm];cases e1:us[i]? with
   |none=>
    have:ls[i]?=none:=Pn (by rw[<-B.len];exact List.getElem?_eq_none_iff.mp e1);rw[this];rfl
   |some u=>
    have hi:i<ls.length:=by rw[<-B.len];exact(B5.mp e1).1
    have f1:ls[i]?=some ls[i]:=Ai hi;rw[f1];cases e2:vs[i]? with
    |none=>rfl
    |some v=>
     show some (mr us ls u,v)=some (ls[i],v);rw[oN B.fn e1 f1]
  rw[<-e];exact f.map _
 ·rw[AX,Pi]
  intro i j hi l r;have hsz:xs.size=vs.length:=by
   have:=f.length_eq;rw[PB,PU] at this;omega
  rw[PB] at hi l;have q:=C i j (A1 _) (PY r) ω;have x:xs[i]?=some xs[i]:=getElem?_pos xs i hi;have y:xs[j]?=some xs[j]:=getElem?_pos xs j l;rw[Tim.i8 x,Tim.i8 y] at q;simp only[Array.getElem_toList];obtain⟨g,g1,_⟩:=jC o (p:=xs[i]) (by
   have:=f.mem_iff.mp (show xs[i]∈xs.toList by simp)
   simpa using this)
  obtain⟨h,g2,_⟩:=jC o (p:=xs[j]) (by
   have:=f.mem_iff.mp (show xs[j]∈xs.toList by simp)
   simpa using this)
  have c:g<ls.length:=by rw[<-B.len];exact(B5.mp g1).1
  have d:h<ls.length:=by rw[<-B.len];exact(B5.mp g2).1
  have f1:ls[g]?=some ls[g]:=Ai c;have f2:ls[h]?=some ls[h]:=Ai d;unfold mu at q;rw[oN B.fn g1 f1,oN B.fn g2 f2] at q ⊢;have:=E4 (ls:=ls) (Bf d) (Bf c);rw[<-this];exact RN ω
end
end br
end
section
namespace br
open PySem PyProof.Rows PySem.W
section
variable{prog:Program}{w:World}{A:Around}{E:Ω}{s:Shared}{good:Heap->Prop}{us vs:List Value}{ls:Ξ}
def E5{ns:List Int}(hi:IntsAre us ns):By prog w A (fun _=>True) us (ns.map fun n=>[n]):=by
 have a:=hi.length;have c:∀(i:Nat) u l,us[i]?=some u->(ns.map fun n=>[n])[i]?=some l->∃n t,u=.int n t/\l=[n]:=fun i u l h1 h2=>by
  obtain⟨t,e⟩:=IntsAre.int_at hi i u h1;rw[Af] at h2;cases e2:ns[i]? with
  |none=>rw[e2] at h2;cases h2
  |some n=>
   rw[e2] at h2;have e3:ns.getD i 0=n:=by rw[List.getD_eq_getElem?_getD,e2];rfl
   rw[e3] at e;exact⟨n,t,e,(Ah h2).symm⟩
 refine⟨by rw[Ab,a],fun i j u l m h1 h2 d f=>?_,fun h2=>⟨oneType',fun s Q E _ hq=>?_,fun i j u v l m h1 h2 d f s Q E _ hq=>?_⟩⟩
 ·obtain⟨n,t,e1,rfl⟩:=c i u l h1 d
  obtain⟨b,t',e2,rfl⟩:=c j u m h2 f;rw[e1] at e2;cases e2
  rfl
 ·match us,hi,h2 with
  |[],_,h2=>simp at h2
  |[_],_,h2=>simp at h2
  |v₁::v₂::rest,hi,_=>
   rw[keyKind_ints hi];exact Ac hq
 ·obtain⟨n,t,rfl,rfl⟩:=c i u l h1 d
  obtain⟨b,t',rfl,rfl⟩:=c j v m h2 f;refine kat_lt_int ?_;have:HT.lexLt [n] [b]=decide (n<b):=by
   rw[HT.zJ]
   by_cases e:n=b
   ·rw[RJ e,HT.EC];exact(RN ω).symm
   ·rw[RK e]
  rw[this] at hq;exact hq
def IsPr(h:Heap)(u:Value)(l:List Int):Prop:=∃(a b:Addr)(n:Int)(t:Tok)(ad:List Value)(ps:List Int),u=.ref a/\l=n::ps/\IsTup h a #[.int n t,.ref b]/\IsTup h b ad.toArray/\IntsAre ad ps
def IsTup.inj{h:Heap}{a:Addr}{xs ys:Array Value}(h1:IsTup h a xs)(h2:IsTup h a ys):xs=ys:=by
 obtain⟨o,e,_,n,d⟩:=h1;obtain⟨o',e',_,b,d'⟩:=h2;rw[e] at e';cases e';rw[d] at d';injection d'
def IntsAre.inj{vs:List Value}{ns a:List Int}(h:IntsAre vs ns)(g:IntsAre vs a):ns=a:=by
 induction h generalizing a with
 |nil=>cases g;rfl
 |cons n t h ih=>cases g with|cons _ _ h'=>rw[ih h']
def IsPr.inj{h:Heap}{u:Value}{l m:List Int}(h1:IsPr h u l)(h2:IsPr h u m):l=m:=by
 obtain⟨a,b,n,t,ad,ps,rfl,rfl,c,d,i1⟩:=h1;obtain⟨j,o,p,t',its',q,e,rfl,f,g,i⟩:=h2;cases e;have:=br.IsTup.inj c f;cases this;have e2:=br.IsTup.inj d g;have e3:ad=its':=by simpa using e2
 subst e3;rw[IntsAre.inj i1 i]
def JM{x y:Value}{l m:List Int}{Q:Bool->Shared->Prop}(h1:IsPr s.heap x l)(h2:IsPr s.heap y m)(hu:A.units<cLine)(hq:Q (HT.lexLt l m) s):wpAny (model prog w) A (keyLt' (tuples' true) x y) Q E s:=by
 obtain⟨a,b,n,t,ad,ps,rfl,rfl,H,u,i1⟩:=h1;obtain⟨J,v,g,t',its',C,rfl,rfl,I,D,F⟩:=h2;obtain⟨o,e,hc,k,d⟩:=id H;obtain⟨o',e',hc',L,d'⟩:=id I;refine kat_lt e d e' d' ?_;show KatLex prog w A true (decide (2<2)) Q [(.int n t,.int g t'),(.ref b,.ref v)] 0 s;rw[HT.zJ] at hq;refine kat_cons (wpAny_mono (SeqAt.EqAt.int_int n t g t' prog w (fun _ _=>False) _ ⟨rfl,rfl⟩:wpAny (model prog w) A (eqBool (.int n t) (.int g t')) (fun e s'=>e=(n==g)/\s'=s) (fun _ _=>False) s) (fun e1 j he=>?_) fun _ _ z=>z);obtain⟨rfl,rfl⟩:=he
 by_cases p:n=g
 ·have r:(n==g)=true:=by simpa using p
  rw[r];rw[RJ p] at hq;refine kat_yes (kat_cons ?_);have G:∀{c:Addr}{cs:List Value}{i:List Int},IsTup j.heap c cs.toArray->IntsAre cs i->IsTupleKey (L2.zw prog w) j.heap (i.map Sum.inl) c:=fun{c cs i} hc hi=>by
   obtain⟨o,e,q,k,d⟩:=hc;refine⟨o,cs.toArray,k,e,q,d,?_⟩;have:∀{cs:List Value}{i:List Int},IntsAre cs i->ItemsAre (L2.zw prog w) (i.map Sum.inl) cs:=by
    intro cs i hi
    induction hi with
    |nil=>exact .nil
    |cons n t h ih=>exact .cons (L2.v_ prog w n t) ih
   simpa using this hi
  refine wpAny_eqBool_tuple (knd:=L2.zw prog w) hu (G u i1) (G D F) ?_
  by_cases ep:ps=C
  ·subst ep
   rw[RM rfl];rw[Bz] at hq;exact kat_yes (kat_nil hq)
  ·have:¬(ps.map Sum.inl:List L2.Key)=C.map Sum.inl:=fun z=>ep (Qm (f:=(Sum.inl:Int->L2.Key)) (fun x y h=>Sum.inl.inj h)|>.mp z)
   rw[RN this];refine kat_no ?_;show wpAny (model prog w) A (oneLt' false (.ref b) (.ref v)) Q (fun _ _=>False) j;exact kat_one _ _ (HT.EE u D (by simpa using i1) (by simpa using F) hu hq)
 ·have r:(n==g)=false:=by simpa using p
  rw[r];rw[RK p] at hq;refine kat_no ?_;show wpAny (model prog w) A (oneLt' true (.int n t) (.int g t')) Q (fun _ _=>False) j;exact oneLt_int hq
def E6{h:Heap}:∀{us:List Value}{ls:Ξ},us.length=ls.length->(∀(i:Nat) u l,us[i]?=some u->ls[i]?=some l->IsPr h u l)->∃fs,KatTups h us fs/\fs.length=us.length/\∀f∈fs,∃n t,f=Value.int n t
 |[],[],_,_=>⟨[],.nil,rfl,fun f hf=>nomatch hf⟩
 |u::us,l::ls,hl,hp=>by
  obtain⟨fs,c,g,j⟩:=E6 (us:=us) (ls:=ls) (by simpa using hl) fun i u l h1 h2=>hp (i+1) u l (by simpa using h1) (by simpa using h2);obtain⟨a,b,n,t,ad,ps,rfl,rfl,p,q,i1⟩:=hp 0 u l rfl rfl;obtain⟨o,e,hc,k,d⟩:=id p;refine⟨.int n t::fs,.cons e hc d rfl c,by simp[g],fun f hf=>?_⟩;rcases OT.mp hf with rfl|hf
  ·exact⟨n,t,rfl⟩
  ·exact j f hf
 |[],_::_,h,_=>by simp at h
 |_::_,[],h,_=>by simp at h
def JN(d:us.length=ls.length)(hu:A.units<cLine)(o:∃h,good h)(hp:∀h,good h->∀(i:Nat) u l,us[i]?=some u->ls[i]?=some l->IsPr h u l):By prog w A good us ls:=by
 refine⟨d,fun i j u l m h1 h2 a b=>?_,fun h2=>⟨tuples' true,fun s Q E gs hq=>?_,fun i j u v l m h1 h2 a b s Q E gs hq=>?_⟩⟩
 ·obtain⟨h,c⟩:=o
  exact(hp h c i u l h1 a).inj (hp h c j u m h2 b)
 ·obtain⟨fs,e,p,g⟩:=E6 d (hp _ gs)
  refine kat_kind (T:=.type "int") e ω (fun f hf=>?_) ξ hq;obtain⟨n,t,rfl⟩:=g f hf;exact Looks.of_pure rfl
 ·exact JM (hp _ gs i u l h1 a) (hp _ gs j v m h2 b) hu hq
end
def Out(ls:Ξ)(vs out:List Value):Prop:=∃ps:List (List Int×Value),ps.Perm (ls.zip vs)/\out=ps.map (·.2)/\ps.Pairwise fun(a b:List Int×Value)=>HT.lexLt b.1 a.1=false
section
variable{prog:Program}{w:World}{A:Around}{E:Ω}{s:Shared}{good:Heap->Prop}{us vs:List Value}{ls:Ξ}
def JO(a:ls.length=vs.length)(hu:us.length=vs.length)(h2:vs.length<2):Out ls vs ((us.toArray.zip vs.toArray).map (·.2)).toList:=by
 have e:((us.toArray.zip vs.toArray).map (·.2)).toList=vs:=by
  rw[Array.toList_map,show(us.toArray.zip vs.toArray).toList=us.zip vs by simp,List.map_snd_zip ω]
 rw[e];refine⟨ls.zip vs,List.Perm.refl _,by rw[List.map_snd_zip ω],?_⟩;have hz:(ls.zip vs).length<2:=by rw[PU];omega
 match ls.zip vs,hz with
 |[],_=>exact List.Pairwise.nil
 |[x],_=>simp
 |_::_::_,h=>simp only[Ay] at h;omega
def JP(B:By prog w A good us ls)(c:us.length=vs.length)(p:vs.length<64)(i:good s.heap){P:PySem.Fin->Shared->Prop}{G:Unit×SortSt->Sem PySem.Fin}(h:∀a,Out ls vs ((arrOf a).map (·.2)).toList->(arrOf a).size=vs.length->failedOf a=none->wpAny (model prog w) A (G (PUnit.unit,a)) P E s):wpAny (model prog w) A (if vs.toArray.size<2 then(pure general' >>= fun kind=>(if vs.toArray.size<2 then pure () else sortRuns').run (SortSt.mk' kind (us.toArray.zip vs.toArray) #[] 7 none) >>= G)
   else(keyKind' us.toArray >>= fun kind=>(if vs.toArray.size<2 then pure () else sortRuns').run (SortSt.mk' kind (us.toArray.zip vs.toArray) #[] 7 none) >>= G)) P E s:=by
 have b:(us.toArray.zip vs.toArray).size=vs.length:=by rw[Array.size_zip,Am,Am];omega
 by_cases h2:vs.toArray.size<2
 ·rw[RJ h2]
  refine Aa (Ac ?_);rw[RJ h2];rw[StateT.run_pure];refine Aa (Ac ?_)
  try dsimp only
  rw[Am] at h2;exact h (SortSt.mk' general' (us.toArray.zip vs.toArray) #[] 7 none) (JO (by rw[<-B.len];exact c) c h2) b rfl
 ·rw[RK h2,RK h2]
  rw[Am] at h2;obtain⟨κ,j,l⟩:=B.ask ω;refine Aa (j s _ E i ?_);refine Aa (wpAny_mono (JK (Q:=fun _ a=>(arrOf a).Perm (us.toArray.zip vs.toArray)/\failedOf a=none/\Tim.br (mu us ls) (arrOf a) 0 vs.length) B c i ω ω l fun a d f g=>⟨d,f,g⟩) ?_ fun _ _ e=>e);rintro⟨⟨⟩,a⟩ s' ⟨rfl,hp,hf,o⟩
  try dsimp only
  exact h a (by
   obtain⟨ps,d,f,g⟩:=JL B c hp o;exact⟨ps,d,by rw[Array.toList_map];exact f,g⟩) (by rw[hp.size_eq];exact b) hf
def E7{a:Addr}{n:Nat}{P:PySem.Fin->Shared->Prop}(c:s.heap.get? a=some (seqObj "list" vs.toArray n))(B:By prog w A good vs ls)(g:∀h',(∀b o,b≠a->s.heap.get? b=some o->h'.get? b=some o)->good h')(hz:vs.length<=sizeLine)(i:vs.length<64)(h:∀out:Array Value,Out ls vs out.toList->P (.done (.ret .none)) {s with heap:=sortedHeap s.heap a vs out}):wpAny (model prog w) A (Builtin.«list.sort» ⟨[.ref a],[]⟩) P E s:=by
 rw[list_sort_plain];have ha:a<s⁻¹:=Ar c;refine Aa (listItems_at c rfl ?_);refine Aa (listUpdate_at c rfl ?_ (by rw[Am];exact hz) (A1 _));obtain⟨e1,d⟩:∃e1,(s.heap.update a (AO fun _=>#[])).get? a=some (seqObj "list" #[] e1):=⟨_,get?_update_seq c (fun _=>#[])⟩;refine Aa (seqEpoch_at d rfl ?_);refine Aa (wpAny_newTuple ?_ (by show vs.length<=_;exact hz));refine Aa (wpAny_newList ?_ (A1 _));refine AI ?_;have f:(((s.heap.update a (AO fun _=>#[])).push (seqObj "tuple" vs.toArray 0)).push (seqObj "list" #[] 0)).get? a=some (seqObj "list" #[] e1):=by
  rw[Heap.get?_push_ne _ _ _ (by rw[size_push',Heap.size_update];exact Au (A8 ha)),Heap.get?_push_ne _ _ _ (by rw[Heap.size_update];exact Au ha)];exact d
 show wpAny (model prog w) A _ P E {s with heap:=((s.heap.update a (AO fun _=>#[])).push (seqObj "tuple" vs.toArray 0)).push (seqObj "list" #[] 0)};dsimp only;refine JP (s:={s with heap:=((s.heap.update a (AO fun _=>#[])).push (seqObj "tuple" vs.toArray 0)).push (seqObj "list" #[] 0)}) B rfl i (g _ fun b o hb e=>Ad _ (Ad _ (by rw[Heap.get?_update_ne _ _ _ _ hb];exact e))) fun j c hsz hf=>?_;dsimp only;refine Aa (seqEpoch_at f rfl ?_);refine Aa (listUpdate_at f rfl ?_ (A1 _) (AC (Nat.le_of_eq ((Array.size_map ..).trans hsz)) (QW hz)));rw[hf];simp only[bne_self_eq_false,Az,if_false];exact Ac (h _ c)
def BC{l:Addr}{Q:Ω}(e:s.heap.IsList l vs.toArray)(B:By prog w A.in1.in1 good vs ls)(f:∀h',(∀b o,s.heap.get? b=some o->h'.get? b=some o)->good h')(hz:vs.length<=sizeLine)(g:vs.length<64)(h:∀out:Array Value,Out ls vs out.toList->Q (.ref (s⁻¹+1)) {s with heap:=sortedAll s.heap vs out}):wpAny (model prog w) A (call (.builtin "sorted") [.ref l]) Q E s:=by
 refine Calls.call_function_entry kind_sorted plain_sorted entry_sorted (args_sorted1 _) ?_;unfold Builtin.«sorted»;refine Aa (m:=checkCount "sorted" 1 1 _) (Ac ?_);refine Aa (collect_list e ?_ hz);refine Aa (wpAny_newList ?_ hz);have hsz:((s.heap.push (seqObj "list" #[] 0)).update s⁻¹ (AO (·++vs.toArray))).objs.size=s⁻¹+1:=by
  rw[Heap.size_update,size_push']
 have c:(((s.heap.push (seqObj "list" #[] 0)).update s⁻¹ (AO (·++vs.toArray))).push (seqObj "list" vs.toArray 0)).get? (s⁻¹+1)=some (seqObj "list" vs.toArray 0):=by
  rw[<-hsz];exact Al _ rfl
 have keep:∀b o,s.heap.get? b=some o->(((s.heap.push (seqObj "list" #[] 0)).update s⁻¹ (AO (·++vs.toArray))).push (seqObj "list" vs.toArray 0)).get? b=some o:=fun b o q=>by
  have a:b<s⁻¹:=Ar q;rw[Heap.get?_push_ne _ _ _ (by rw[hsz];exact Au (A8 a)),Heap.get?_update_ne _ _ _ _ (Au a),Heap.get?_push_ne _ _ _ (Au a)];exact q
 show wpAny _ _ _ _ _ {s with heap:=((s.heap.push (seqObj "list" #[] 0)).update s⁻¹ (AO (·++vs.toArray))).push (seqObj "list" vs.toArray 0)};rw[hsz];refine Aa (AI (AG slot_list_sort ⟨_,c,rfl⟩ entry_list_sort (E7 (s:={s with heap:=((s.heap.push (seqObj "list" #[] 0)).update s⁻¹ (AO (·++vs.toArray))).push (seqObj "list" vs.toArray 0)}) c B (fun h' hk=>f h' fun b o q=>hk b o (Au (A8 (Ar q))) (keep b o q)) hz g fun out d=>⟨_,rfl,?_⟩) (args_list_sort _)));exact Ac ⟨_,rfl,h out d⟩
end
end br
end
section
namespace L2
open PySem PySem.Spec PyProof.Rows
def clOf(cells:List (Str×Addr)):List (Str×NameKind)->List (Str×Addr)->List (Str×Addr)
 |[],acc=>acc
 |(n,k)::r,acc=>if(k==.free)=true then clOf cells r ((n,(cells.lookup n).getD 0)::acc) else clOf cells r acc
def E8{env:Env}:∀(names:List (Str×NameKind))(acc:List (Str×Addr)),(∀x∈names,x.2=.free->∃c,env.cells.lookup x.1=some c)-> (forIn names acc fun x(r:List (Str×Addr))=>if(x.2==.free)=true then do let c <-cellOf env x.1;pure (ForInStep.yield ((x.1,c)::r)) else pure (ForInStep.yield r):Sem (List (Str×Addr)))=pure (clOf env.cells names acc)
 |[],acc,_=>rfl
 |(n,k)::r,acc,h=>by
  rw[Rb];have b:=fun a=>E8 (env:=env) r a fun x hx=>h x (As _ hx);unfold clOf
  by_cases hk:(k==A4)=true
  ·have d:k=.free:=by cases k<;>first|rfl|cases hk
   obtain⟨c,hc⟩:=h (n,k) Av d;simp only[hk,if_true];unfold cellOf;rw[hc];simp only[pure_bind,Qx];exact b _
  ·simp only[hk,Az,if_false,pure_bind]
   exact b _
def JQ{scope:Scope}{env:Env}(h:∀x∈scope.names,x.2=.free->∃c,env.cells.lookup x.1=some c):closureFor scope env=pure (clOf env.cells scope.names []):=by
 rw[<-E8 scope.names [] h];unfold closureFor;simp
def BF{x:Str}{c:Addr}:∀{l:List (Str×Addr)},(x,c)∈l->∃d,l.lookup x=some d
 |[],h=>nomatch h
 |(y,d)::l,h=>by
  rw[AR]
  by_cases e:x=y
  ·subst e;exact⟨d,by simp⟩
  ·have hb:(x==y)=false:=by simpa using e
   rw[hb];rcases OT.mp h with q|q
   ·cases q;exact absurd rfl e
   ·exact BF q
def rz{cells:List (Str×Addr)}{x:Str}:∀{names:List (Str×NameKind)}{acc:List (Str×Addr)},((x,A4)∈names\/∃c,(x,c)∈acc)->∃c,(x,c)∈clOf cells names acc
 |[],acc,h=>h.elim (fun q=>nomatch q) id
 |(n,k)::r,acc,h=>by
  unfold clOf
  by_cases hk:(k==A4)=true
  ·rw[RJ hk]
   refine rz ?_;rcases h with h|⟨c,h⟩
   ·rcases OT.mp h with q|q
    ·cases q;exact .inr ⟨_,Av⟩
    ·exact .inl q
   ·exact .inr ⟨c,As _ h⟩
  ·rw[RK hk]
   refine rz ?_;rcases h with h|h
   ·rcases OT.mp h with q|q
    ·cases q;exact absurd rfl hk
    ·exact .inl q
   ·exact .inr h
def ew(X:Cx)(scope:Scope)(N:List Str)(a:List (Str×Addr))(C:Addr)(s₀:Shared)(H₀:Hp)(ex:List Addr):Cx where
 prog:=X.prog
 w:=X.w
 K:=X.K
 mg:=X.mg
 base:=X.base
 A:=X.A
 N:=N
 s₀:=s₀
 H₀:=H₀
 env:=compEnvC scope a C X.env
 outer:=X.stack
 stack:=X.stack
 ex:=ex
 fn:=fun _=>false
 calm:=X.calm
 pn:=X.pn
 xe:=fun _ _=>False
def ix(X:Cx)(aV:List Expr)(t:TT):Prop:=
 ∀(aa:Ψ)(s:Shared)(σ:St)(H:Hp)(Q:Bool->Hp->Prop),Inv X aa σ H s->t σ H Q->
  wpAny (model X.prog X.w) X.A (forIn aV true fun c r=>if r=true then do let ok <-isTrue c X.env (eval c X.env);pure (ForInStep.yield ok) else pure (ForInStep.yield r)) (TP X aa σ Q) X.xe s
def bT:TT:=fun _ H Q=>Q true H
def zP{X:Cx}:ix X [] bT:=fun _ _ _ H _ I h=>wpAny_tests_nil ⟨H,I,h⟩
def i9{X:Cx}{c:Expr}{t:TT}(h:PT X c t):ix X [c] t:=fun aa s σ H Q I hw=>wpAny_tests_one (h aa s σ H Q I hw)
def oO(ak:List (Option Nat))(σ:St):St:=ak.map fun c=>match c with
 |none=>none
 |some j=>(σ[j]?).getD none
def cG(J:It)(g:TG)(tc:TT)(te:TE)(σ:St)(H1:Hp)(D:Addr)(Q:VK):Prop:=
 ∃W:Nat->Nat->St->Hp->Prop,(∃m,W 0 m σ (upd H1 D (.lst [])))/\
 ∀i m d H2,W i m d H2->(J.stop i H2/\Q (.ref D) H2)\/(J.go i H2/\∀x H3,J.yld i H2 x H3->g x d H3 fun c h=>tc c h fun b e=>
  if b=true then te c e fun y f=>∃ys a,f D=some (.lst ys)/\ys.length<sizeLine/\a<m/\W (i+1) a c (upd f D (.lst (ys++[y])))
  else ∃a,a<m/\W (i+1) a c e)
def jD(wi:TI)(ak:List (Option Nat))(g:TG)(tc:TT)(te:TE):TE:=fun σ H Q=>wi σ H fun J H1=>∀D,H1 D=none->cG J g tc te (oO ak σ) H1 D Q
def mx(N N':List Str)(ak:List (Option Nat))(scope:Scope):Prop:=
 ak.length=N'.length/\∀i j:Nat,ak[i]?=some (some j)->∃x:Str,N'[i]?=some x/\N[j]?=some x/\scope.names.lookup x=some .free
def rA{cells:List (Str×Addr)}{x:Str}{c:Addr}:∀{names:List (Str×NameKind)}{acc:List (Str×Addr)},(∀y∈names,y.2=.free->∃d,cells.lookup y.1=some d)->(∀p∈acc,False)->(x,c)∈clOf cells names acc->cells.lookup x=some c/\(x,A4)∈names:=by
 have g:∀{names:List (Str×NameKind)}{acc:List (Str×Addr)},(∀y∈names,y.2=.free->∃d,cells.lookup y.1=some d)->(x,c)∈clOf cells names acc->(x,c)∈acc\/(cells.lookup x=some c/\(x,A4)∈names):=by
  intro names
  induction names with
  |nil=>intro acc _ h;exact .inl h
  |cons y r i=>
   intro acc b h;obtain⟨n,k⟩:=y;unfold clOf at h;have j:∀y∈r,y.2=.free->∃d,cells.lookup y.1=some d:=fun y hy=>b y (As _ hy)
   by_cases hk:(k==A4)=true
   ·have l:k=.free:=by cases k<;>first|rfl|cases hk
    obtain⟨d,hd⟩:=b (n,k) Av l;rw[RJ hk] at h;rcases i j h with q|⟨e,f⟩
    ·rcases OT.mp q with q|q
     ·refine .inr ⟨?_,?_⟩
      ·have a:cells.lookup n=some d:=hd
       rw[a] at q;cases q;exact a
      ·cases q
       rw[l];exact Av
     ·exact .inl q
    ·exact .inr ⟨e,As _ f⟩
   ·rw[RK hk] at h
    rcases i j h with q|⟨e,f⟩
    ·exact .inl q
    ·exact .inr ⟨e,As _ f⟩
 intro names acc b ha h;rcases g b h with q|q
 ·exact(ha _ q).elim
 ·exact q
def cf_mem:∀(names:List (Str×NameKind))(h:Heap)(acc:List (Str×Addr))(x:Str)(c:Addr),(x,c)∈cellsFrom h.objs.size names acc->(x,c)∈acc\/((x,NameKind.cell)∈names/\h.objs.size<=c/\(pushCells h names).IsCell c none)
 |[],h,acc,x,c,hm=>.inl hm
 |(n,k)::r,h,acc,x,c,hm=>by
  rw[cellsFrom.eq_2] at hm;have ep:pushCells h ((n,k)::r)=if(k==NameKind.cell)=true then pushCells (h.push {cls:=Value.type "cell",data:=Data.cell none}) r else pushCells h r:=rfl
  by_cases hk:(k==NameKind.cell)=true
  ·have e:k=.cell:=by cases k<;>first|rfl|cases hk
   rw[RJ hk] at hm;rw[ep,RJ hk];have es:(h.push {cls:=Value.type "cell",data:=Data.cell none}).objs.size=h.objs.size+1:=Heap.size_push ..;rw[<-es] at hm;rcases cf_mem r _ _ x c hm with q|⟨b,a,d⟩
   ·rcases OT.mp q with q|q
    ·cases q
     refine .inr ⟨by rw[e];exact Av,Ag _,_,pushCells_keeps r _ _ _ (Al _ rfl),rfl⟩
    ·exact .inl q
   ·rw[es] at a
    exact .inr ⟨As _ b,Ro a,d⟩
  ·rw[RK hk] at hm
   rw[ep,RK hk];rcases cf_mem r h acc x c hm with q|⟨b,a,d⟩
   ·exact .inl q
   ·exact .inr ⟨As _ b,a,d⟩
def BI:∀(names:List (Str×NameKind))(n:Nat)(acc:List (Str×Addr)),(∀x y c,(x,c)∈acc->(y,c)∈acc->x=y)->(∀p∈acc,p.2<n)->∀x y c,(x,c)∈cellsFrom n names acc->(y,c)∈cellsFrom n names acc->x=y
 |[],n,acc,hi,_,x,y,c,h1,h2=>hi x y c h1 h2
 |(m,k)::r,n,acc,hi,hl,x,y,c,h1,h2=>by
  rw[cellsFrom.eq_2] at h1 h2
  by_cases hk:(k==NameKind.cell)=true
  ·rw[RJ hk] at h1 h2
   refine BI r (n+1) ((m,n)::acc) (fun x y c p q=>?_) (fun p hp=>?_) x y c h1 h2
   ·rcases OT.mp p with p|p<;>rcases OT.mp q with q|q
    ·cases p;cases q;rfl
    ·cases p
     have:n<n:=hl _ q;omega
    ·cases q
     have:n<n:=hl _ p;omega
    ·exact hi x y c p q
   ·rcases OT.mp hp with rfl|hp
    ·exact Q8 _
    ·exact A8 (hl p hp)
  ·rw[RK hk] at h1 h2
   exact BI r n acc hi hl x y c h1 h2
def JR{M:Model}{A:Around}{E:Ω}{s:Shared}{scope:Scope}{globals:Addr}{a:List (Str×Addr)}{f:Str}{env:Env}{Q:Env->Shared->Prop}(h:∀d:Heap,(d.Ns s⁻¹ fun _=>none)->(∀b o,s.heap.get? b=some o->d.get? b=some o)->
   (∀x c,(x,c)∈cellsFrom (s⁻¹+1) scope.names a->(x,c)∈a\/((x,NameKind.cell)∈scope.names/\s⁻¹+1<=c/\d.IsCell c none))->
   Q (newEnv scope s⁻¹ globals (cellsFrom (s⁻¹+1) scope.names a) f none .none (some env) builtinsNs) {s with heap:=d}):
  wpAny M A (newFunctionEnv scope globals a [] f none Value.none (some env)) Q E s:=by
 unfold newFunctionEnv;refine Aa (wpAny_alloc ?_);refine Aa (wpAny_layCells _ (fun name kind cells=>rfl) scope.names a _ _ ?_);have es:(s.heap.push {cls:=Value.type "dict",data:=Data.dict #[]}).objs.size=s⁻¹+1:=Heap.size_push ..;have:=h (pushCells (s.heap.push {cls:=Value.type "dict",data:=Data.dict #[]}) scope.names) ((Heap.Ns.new s.heap (.type "dict")).keeps fun b o e=>pushCells_keeps _ _ _ _ e) (fun b o e=>pushCells_keeps _ _ _ _ (Ad _ e)) (fun x c hm=>by
  rw[<-es] at hm ⊢;exact cf_mem scope.names _ a x c hm)
 show wpAny M A _ _ _ _;refine Aa (Ac ?_);refine Ac ?_;rw[<-es] at this;exact this
def cxD(X:Cx)(scope:Scope)(N:List Str)(a:List (Str×Addr))(C:Addr)(s₀:Shared)(H₀:Hp)(ex:List Addr):Cx:={ew X scope N a C s₀ H₀ ex with fn:=fun x=>decide (scope.names.lookup x=some .cell)}
section
variable{X:Cx}{scope:Scope}{N':List Str}{ak:List (Option Nat)}{tg iter bv:Expr}{aV:List Expr}{wi:TI}{g:TG}{tc:TT}{te:TE}{pos:Pos}
def BQ{scope:Scope}{env:Env}{x:Str}:∀{names:List (Str×NameKind)},(names.lookup x=some .free\/names.lookup x=some .cell)-> ((names.map fun(n,k)=>if(k==A4&&env.scope.kind==.function&&env.kindOf n==some .cell) then(n,NameKind.cell) else(n,k)).lookup x=some .free \/
   (names.map fun(n,k)=>if(k==A4&&env.scope.kind==.function&&env.kindOf n==some .cell) then(n,NameKind.cell) else(n,k)).lookup x=some .cell)
 |[],h=>by simp at h
 |(n,k)::r,h=>by
  have a:=@BQ scope env x r;show List.lookup x ((if(k==A4&&env.scope.kind==.function&&env.kindOf n==some .cell)=true then(n,NameKind.cell) else(n,k))::_)=_\/List.lookup x ((if(k==A4&&env.scope.kind==.function&&env.kindOf n==some .cell)=true then(n,NameKind.cell) else(n,k))::_)=_;cases hx:x==n with
  |true=>
   simp only[AR,hx] at h
   by_cases hc:(k==A4&&env.scope.kind==.function&&env.kindOf n==some .cell)=true
   ·rw[RJ hc];simp[AR,hx]
   ·rw[RK hc];simp only[AR,hx];exact h
  |false=>
   simp only[AR,hx] at h
   by_cases hc:(k==A4&&env.scope.kind==.function&&env.kindOf n==some .cell)=true
   ·rw[RJ hc];simp only[AR,hx];exact a h
   ·rw[RK hc];simp only[AR,hx];exact a h
def BW{env:Env}{x:Str}{a:NameKind}:∀{names:List (Str×NameKind)},(names.map fun(n,k)=>if(k==A4&&env.scope.kind==.function&&env.kindOf n==some .cell) then(n,NameKind.cell) else(n,k)).lookup x=some a->
  ∃b,names.lookup x=some b/\(a=b\/(b=.free/\a=.cell))
 |[],h=>by simp at h
 |(n,k)::r,h=>by
  have c:=@BW env x a r;have h':List.lookup x ((if(k==A4&&env.scope.kind==.function&&env.kindOf n==some .cell)=true then(n,NameKind.cell) else(n,k))::_)=some a:=h;cases hx:x==n with
  |true=>
   simp only[AR,hx]
   by_cases hc:(k==A4&&env.scope.kind==.function&&env.kindOf n==some .cell)=true
   ·rw[RJ hc] at h'
    simp only[AR,hx] at h';cases h';have hk:k=.free:=by
     rw[AK,AK] at hc;cases k<;>first|rfl|exact absurd hc.1.1 ξ
    exact⟨k,rfl,.inr ⟨hk,rfl⟩⟩
   ·rw[RK hc] at h'
    simp only[AR,hx] at h';cases h';exact⟨_,rfl,.inl rfl⟩
  |false=>
   simp only[AR,hx]
   by_cases hc:(k==A4&&env.scope.kind==.function&&env.kindOf n==some .cell)=true
   ·rw[RJ hc] at h';simp only[AR,hx] at h';exact c h'
   ·rw[RK hc] at h';simp only[AR,hx] at h';exact c h'
structure Left(X:Cx)(aa:Ψ)(σ:St)(H':Hp)(s4:Shared)(C:Addr):Prop where
 ns:∃m,s4.heap.Ns C m
 far:X.s₀⁻¹<=C
 nl:C≠X.env.locals
 nc:∀x c,X.env.cells.lookup x=some c->c≠C
 np:∀p∈X.pn++aa,p.1≠C
 no:H' C=none
 back:∀h',Heap.SameBut C s4.heap h'->Inv X aa σ H' {s4 with heap:=h'}
def E9{use:Option (Value->Sem Unit)}{R:Ω}{pp:Pos}(hc:X.calm=true)(hk:scope.kind=.function)(cL:∀y∈scope.names,y.2=.cell->scope.names.lookup y.1=some .cell)(aA:∀y∈scope.names,y.2=.free->scope.names.lookup y.1=some .free)(az:∀y∈scope.names,y.2=.local->scope.names.lookup y.1=some .local)(hfr:∀y∈scope.names,y.2=.free->X.env.kindOf y.1=some .cell\/X.env.kindOf y.1=some .free)(a_:mx X.N N' ak scope)(hi:PI X tg iter wi)(hg:∀cl C s₀ H₀ ex,PG (cxD X scope N' cl C s₀ H₀ ex) tg g)(ht:∀cl C s₀ H₀ ex,ix (cxD X scope N' cl C s₀ H₀ ex) aV tc)(he:∀cl C s₀ H₀ ex,PE (cxD X scope N' cl C s₀ H₀ ex) bv te)(hs:∀x,foldedSetIterable iter X.env x=pure x){aa:Ψ}{s:Shared}{σ:St}{H:Hp}{Q:VK}(I:Inv X aa σ H s)(h:jD wi ak g tc te σ H Q)(fin:∀(D C:Addr)(H':Hp)(P:Shared)(f:Flow),Left X aa σ H' P C->Q (.ref D) H'->compPost (model X.prog X.w) X.A X.xe use R (.ref D) C (.ok f) P):wpAny (model X.prog X.w) X.A (comprehension (.ListComp bv [⟨tg,iter,aV,0⟩] scope pos) scope X.env pp (newList []) (firstAsync [⟨tg,iter,aV,0⟩]) (firstIter [⟨tg,iter,aV,0⟩] X.env) use) R X.xe s:=by
 have U:∀y∈scope.names,y.2=.free->∃c,X.env.cells.lookup y.1=some c:=fun y hy e=>I.ok.has y.1 (hfr y hy e);refine wpAny_comprehension_free (use:=use) rfl hs (JQ U) hk az ?_;refine aW (hi aa s σ H _ I h) fun xv s1 h1=>aW h1 fun lZ O h2=>?_;obtain⟨it,M,tn,J,H2,e,I2,T,fq,f2,q⟩:=h2;subst e;have lm:H2 O⁻¹=none:=I2.hok.fresh (Ag _);obtain⟨W,⟨m0,w0⟩,turn⟩:=q O⁻¹ lm;refine AF (JR fun av cQ bU bV=>?_);dsimp only at cQ bU bV ⊢;generalize hD:O⁻¹=D at *;obtain⟨l,e3⟩:∃l:Shared,l={O with heap:=O.heap.push {cls:=.type "list",dict:=none,data:=.seq ([]:List Value).toArray}}:=⟨_,rfl⟩;have h3:l.heap=O.heap.push {cls:=.type "list",dict:=none,data:=.seq ([]:List Value).toArray}:=by rw[e3]
 rw[<-h3] at cQ bU bV ⊢;have af:l⁻¹=D+1:=by rw[h3,Heap.size_push,hD]
 have I3:Inv X aa σ (upd H2 D (.lst [])) l:=by
  rw[e3,<-hD];exact I2.lnew (t':=O.toks) (ys:=[]) .nil (A1 _)
 obtain⟨Xc,E⟩:∃Xc,Xc=cxD X scope N' (cellsFrom (l⁻¹+1) scope.names (clOf X.env.cells scope.names [])) l⁻¹ l (upd H2 D (.lst [])) M:=⟨_,rfl⟩;have jt:PG Xc tg g:=by rw[E];exact hg _ _ _ _ _
 have ht':ix Xc aV tc:=by rw[E];exact ht _ _ _ _ _
 have he':PE Xc bv te:=by rw[E];exact he _ _ _ _ _
 have xP:Xc.prog=X.prog:=by rw[E];rfl
 have xw:Xc.w=X.w:=by rw[E];rfl
 have xK:Xc.K=X.K:=by rw[E];rfl
 have xA:Xc.A=X.A:=by rw[E];rfl
 have xc:Xc.calm=true:=by rw[E];exact hc
 have xe:Xc.env=compEnvC scope (cellsFrom (l⁻¹+1) scope.names (clOf X.env.cells scope.names [])) l⁻¹ X.env:=by rw[E];rfl
 have xE:Xc.xe=fun _ _=>False:=by rw[E];rfl
 have G:∀x c,(cellsFrom (l⁻¹+1) scope.names (clOf X.env.cells scope.names [])).lookup x=some c->(X.env.cells.lookup x=some c/\scope.names.lookup x=some .free)\/(scope.names.lookup x=some .cell/\l⁻¹+1<=c/\av.IsCell c none):=fun x c e=>by
  rcases bV x c (A5 e) with q|⟨q1,q2,q3⟩
  ·obtain⟨q4,q5⟩:=rA U (fun p hp=>absurd hp (by simp)) q
   exact .inl ⟨q4,aA _ q5 rfl⟩
  ·exact .inr ⟨cL _ q1 rfl,q2,q3⟩
 have hlow:∀p∈clOf X.env.cells scope.names [],p.2<l⁻¹+1:=fun p hp=>by
  obtain⟨q4,_⟩:=rA U (fun p hp=>absurd hp (by simp)) (x:=p.1) (c:=p.2) hp;obtain⟨v,o,ho,_⟩:=I3.cell p.1 p.2 q4;exact A8 (Ar ho)
 have Y:∀b∈M,b≠D/\b<D:=fun b hb=>by
  obtain⟨ob,eb,_⟩:=T.obj 0 _ fq b hb;have:=Ar eb;rw[hD] at this;exact⟨Au this,this⟩
 have hfs:∀b∈frs X.stack,b<D:=fun b hb=>by
  obtain⟨_,ob,eb,_⟩:=I2.stack.mem hb;have:=Ar eb;rw[hD] at this;exact this
 have F:∀b o,l.heap.get? b=some o->av.get? b=some o:=bU;have yt:(upd H2 D (.lst [])) l⁻¹=none:=I3.hok.fresh (Ag _);have Ic:Inv Xc aa (oO ak σ) (upd H2 D (.lst [])) {l with heap:=av}:=by
  have okc:Xc.Ok:=by
   rw[E];refine⟨I.ok.mod,hk,I.ok.glob,I.ok.blt,Ag _,fun x y c a b=>BI scope.names _ _ (fun x y c p q=>I.ok.inj x y c (rA U (fun p hp=>absurd hp (by simp)) p).1 (rA U (fun p hp=>absurd hp (by simp)) q).1) hlow x y c (A5 a) (A5 b),fun x hx=>?_,(fun x c a e=>by
    rcases G x c e with ⟨_,q⟩|⟨_,q,_⟩
    ·have a':=RO a
     rw[q] at a';cases a'
    ·exact Ro q),I.ok.hd,I.ok.frames,.inl rfl,fun b hb=>⟨?_,fun x c e=>?_⟩,fun b o e=>?_,?_,fun b o e z=>?_,fun b hb z=>?_,?_,fun b hb=>?_⟩
   ·have hx':(relabel scope X.env).names.lookup x=some .cell\/(relabel scope X.env).names.lookup x=some .free:=hx
    have key:∃k',scope.names.lookup x=some k'/\(k'=.free\/k'=.cell):=by
     rcases hx' with q|q
     ·obtain⟨k',e1,e2⟩:=BW q
      rcases e2 with e2|⟨e2,_⟩
      ·exact⟨k',e1,.inr e2.symm⟩
      ·exact⟨k',e1,.inl e2⟩
     ·obtain⟨k',e1,e2⟩:=BW q
      rcases e2 with e2|⟨e2,_⟩
      ·exact⟨k',e1,.inl e2.symm⟩
      ·exact⟨k',e1,.inl e2⟩
    obtain⟨k',e1,e2⟩:=key;have hm:=A5 e1;rcases e2 with rfl|rfl
    ·obtain⟨c,hc'⟩:=rz (cells:=X.env.cells) (acc:=[]) (.inl hm)
     obtain⟨d,hd⟩:=BF hc';exact Po.mp (P0 scope.names (l⁻¹+1) _ (.inr (by rw[hd];rfl)))
    ·exact Po.mp (P0 scope.names (l⁻¹+1) _ (.inl e1))
   ·show b≠l⁻¹
    exact Au (by rw[af];exact A8 (Y b hb).2)
   ·rcases G x c e with ⟨q,_⟩|⟨_,q,_⟩
    ·exact(f2 b hb).2.2.2.2.1 x c q
    ·have h1:b<l⁻¹+1:=by rw[af];exact A8 (A8 (Y b hb).2)
     exact A0 (Ax h1 q)
   ·exact I3.bs b o e
   ·exact AC I.ok.bsz I3.sz
   ·obtain⟨f,_,_,fx,_,_⟩:=f2 b z
    rcases fx with fx|fx
    ·exact I.ok.noex b o e fx
    ·have:=Ax (Ar e) I.ok.bsz
     omega
   ·rcases OT.mp (I2.stkSub b z) with r|r
    ·exact(f2 b hb).2.1 r
    ·exact(f2 b hb).2.2.1 r
   ·exact I3.stack
   ·exact I3.stkFree b hb
  refine⟨okc,(by rw[E];rfl),I3.bare,?_,?_,fun x c e=>?_,?_,fun x c e=>?_,fun p hp=>?_,?_,?_⟩
  ·rw[E]
   exact Un.kept F
  ·rw[xe]
   refine⟨_,cQ,fun i x v e1 e2 e3=>?_⟩;obtain⟨c1,c2⟩:=a_;unfold oO at e2;rw[Af] at e2;cases e4:ak[i]? with
   |none=>rw[e4] at e2;cases e2
   |some cc=>
    rw[e4] at e2;cases cc with
    |none=>cases e2
    |some j=>
     obtain⟨y,d1,d2,d3⟩:=c2 i j e4;have lC:N'[i]?=some x:=by rw[E] at e1;exact e1
     rw[d1] at lC;have vt:y=x:=Ah lC;subst vt;have e5:σ[j]?=some (some v):=by
      simp only[AS,AW] at e2;cases e6:σ[j]? with
      |none=>rw[e6] at e2;cases e2
      |some ov=>rw[e6] at e2;simp only[Qx] at e2;rw[e2]
     have hm:=A5 d3;have yo:qL X.env.scope y:=by
      rcases hfr _ hm rfl with q|q
      ·exact .inr (.inl q)
      ·exact .inr (.inr q)
     obtain⟨m,_,hl⟩:=I3.loc;obtain⟨u,ru,lk⟩:=hl j y v d2 e5 yo;refine⟨u,ru,?_⟩;have xa:∃c,X.env.cells.lookup y=some c/\l.heap.IsCell c (some u):=by
      rcases lk with ⟨k1,_⟩|⟨_,c,k2,k3⟩
      ·rcases hfr _ hm rfl with q|q
       ·rw[k1] at q;cases q
       ·rw[k1] at q;cases q
      ·exact⟨c,k2,k3⟩
     obtain⟨c,k2,k3⟩:=xa;obtain⟨d,hd'⟩:=rz (cells:=X.env.cells) (acc:=[]) (.inl hm);obtain⟨d',aJ⟩:=BF hd';obtain⟨d2,iG⟩:=Po.mp (P0 scope.names (l⁻¹+1) (clOf X.env.cells scope.names []) (x:=y) (.inr (by rw[aJ];rfl)));have:c=d2:=by
      rcases G y d2 iG with ⟨q,_⟩|⟨q,_⟩
      ·rw[k2] at q
       exact Ah q
      ·rw[d3] at q;cases q
     subst this;refine .inr ⟨?_,c,iG,k3.keeps F⟩;have rl:=BQ (scope:=scope) (env:=X.env) (x:=y) (names:=scope.names) (.inl d3);rcases rl with q|q
     ·exact .inr q
     ·exact .inl q
  ·rw[xe] at e
   rcases G x c e with ⟨q,_⟩|⟨_,_,q⟩
   ·obtain⟨v,k3⟩:=I3.cell x c q
    exact⟨v,k3.keeps F⟩
   ·exact⟨_,q⟩
  ·rw[xe];exact yt
  ·rw[xe] at e
   rcases G x c e with ⟨q,_⟩|⟨_,q,_⟩
   ·exact I3.freeC x c q
   ·exact I3.hok.fresh (Ro q)
  ·have aQ:p∈X.pn++aa:=by rw[E] at hp;exact hp
   obtain⟨a1,a2,a3,a4,a5⟩:=I3.pin p aQ;refine⟨F _ _ a1,a2,?_,?_,a5⟩
   ·rw[xe]
    show p.1≠l⁻¹;exact Au (Ar a1)
   ·rw[E]
    intro z;rcases OT.mp (I3.stkSub p.1 z) with r|r
    ·exact a3 r
    ·exact a4 r
  ·rw[xP,xw]
   exact I3.hok.kept F
  ·unfold oO
   rw[Ab,a_.1,E]
   rfl
 have leave:∀{L:St}{H':Hp}{P:Shared}{h':Heap},Inv Xc aa L H' P->Heap.SameBut l⁻¹ P.heap h'->Inv X aa σ H' {P with heap:=h'}:=fun{L H' P h'} I4 S=>by
  have hlt:∀b o,O.heap.get? b=some o->b≠D/\b≠l⁻¹:=fun b o e=>by
   have hb:=Ar e;rw[hD] at hb;exact⟨Au hb,Au (by rw[af];exact A8 hb)⟩
  have up3:∀b o,O.heap.get? b=some o->l.heap.get? b=some o:=fun b o e=>by rw[h3];exact Ad _ e
  have base:Un (frs X.stack) M (upd H2 D (.lst [])) H' l.heap P.heap:=by
   have:=I4.base;rw[E] at this;exact this
  have hCn:H' l⁻¹=none:=by
   have:=I4.free;rw[xe] at this;exact this
  have os4:P.os=O.os:=by
   have:=I4.os;rw[E] at this;rw[this];show l.os=O.os;rw[e3]
  refine I2.call' (s':={P with heap:=h'}) (ch:=M) os4 ⟨fun b o q n hb hx=>?_,fun b o q n hb hx=>?_,fun b o q n hx=>?_,fun b o q hx=>?_,fun b xs q=>?_,fun b o u q=>?_,fun b ps q=>?_⟩ ?_ I4.bare fun b hb=>?_
  ·obtain⟨n1,n2⟩:=hlt b o q
   exact(S.2 b n2).trans (base.keep b o (up3 b o q) (by rw[ae n1];exact n) hb hx)
  ·obtain⟨n1,n2⟩:=hlt b o q
   obtain⟨sl,e⟩:=base.slot b o (up3 b o q) (by rw[ae n1];exact n) hb hx;exact⟨sl,(S.2 b n2).trans e⟩
  ·obtain⟨n1,n2⟩:=hlt b o q
   exact base.free b o (up3 b o q) (by rw[ae n1];exact n) hx
  ·obtain⟨n1,n2⟩:=hlt b o q
   obtain⟨o',e⟩:=base.there b o (up3 b o q) hx;exact⟨o',(S.2 b n2).trans e⟩
  ·exact base.tups b xs (by rw[ae (zj q lm)];exact q)
  ·exact base.frzs b o u (by rw[ae (zj q lm)];exact q)
  ·exact base.tbls b ps (by rw[ae (zj q lm)];exact q)
  ·intro b u e
   have rJ:=I4.hok b u e;rw[xP,xw] at rJ;refine rJ.stay (fun c v hc q=>(S.2 c ?_).trans q) (fun _ q=>q) fun _ _ q=>q;rintro rfl;rcases hc with z|z
   ·rw[<-z,hCn] at e;cases e
   ·rw[hCn] at z;cases z
  ·obtain⟨f0,f1,f3,f4,f5,f6⟩:=f2 b hb
   exact⟨f4,f1,f5,f6⟩
 have stat:∀{H':Hp},(∀b∈M,H' b=none)->∀b∈M,bA Xc aa H' b:=fun{H'} hn b hb=>by
  obtain⟨f0,f1,f3,f4,f5,f6⟩:=f2 b hb;refine⟨hn b hb,?_,?_,.inl (by rw[E];exact hb),fun x c e=>?_,fun p hp=>?_⟩
  ·rw[xe]
   show b≠l⁻¹;exact Au (by rw[af];exact A8 (Y b hb).2)
  ·rw[E]
   intro z;rcases OT.mp (I2.stkSub b z) with r|r
   ·exact f1 r
   ·exact f3 r
  ·rw[xe] at e
   rcases G x c e with ⟨q,_⟩|⟨_,q,_⟩
   ·exact f5 x c q
   ·have h1:b<l⁻¹+1:=by rw[af];exact A8 (A8 (Y b hb).2)
    exact A0 (Ax h1 q)
  ·rw[E] at hp
   exact f6 p hp
 subst E;have jI:∀n s',(∃i L H',Inv (cxD X scope N' (cellsFrom (l⁻¹+1) scope.names (clOf X.env.cells scope.names [])) l⁻¹ l (upd H2 D (.lst [])) M) aa L H' s'/\tn i s'.heap/\(∀b∈M,H' b=none)/\W i n L H')->
   codeAny (model X.prog X.w) X.A (.compLoop (.ListComp bv [⟨tg,iter,aV,0⟩] scope pos) 0 (.ref it) (.ref D) (compEnvC scope (cellsFrom (l⁻¹+1) scope.names (clOf X.env.cells scope.names [])) l⁻¹ X.env)) (compPost (model X.prog X.w) X.A X.xe use R (.ref D) l⁻¹) s':=by
  intro n0 Bu xX;refine codeAny_loop rfl (fun n s'=>∃i L H',Inv (cxD X scope N' (cellsFrom (l⁻¹+1) scope.names (clOf X.env.cells scope.names [])) l⁻¹ l (upd H2 D (.lst [])) M) aa L H' s'/\tn i s'.heap/\(∀b∈M,H' b=none)/\W i n L H') (fun n s' hI=>?_) n0 xX;obtain⟨i,L,H',I',ah,qC,w'⟩:=hI;show wpAny _ X.A ((compTurn (.ListComp bv [⟨tg,iter,aV,0⟩] scope pos) 0 (.ref it) (.ref D) (compEnvC scope (cellsFrom (l⁻¹+1) scope.names (clOf X.env.cells scope.names [])) l⁻¹ X.env)).onRaise (fun x=>do noteFrame x (compEnvC scope (cellsFrom (l⁻¹+1) scope.names (clOf X.env.cells scope.names [])) l⁻¹ X.env);theTreesLotGoes x)) _ _ s';refine wpAny_noted ?_;rw[compTurn_list];refine Aa (wpAny_standAt (Aa ?_));rcases turn i n L H' w' with ⟨stop,qn⟩|⟨go,step⟩
  ·refine aW (T.done (cxD X scope N' (cellsFrom (l⁻¹+1) scope.names (clOf X.env.cells scope.names [])) l⁻¹ l (upd H2 D (.lst [])) M) rfl rfl rfl hc i aa s' L H' _ I' (stat qC) ah stop) fun r P ⟨hr,I4⟩=>?_
   subst hr;refine Ac ?_;obtain⟨m,hn,_⟩:=id I4.loc;refine fin D _ H' P _ ⟨⟨m,hn⟩,I3.sz,fun e=>?_,fun x c e=>?_,fun p hp=>Au (Ar (I3.pin p hp).1),I4.free,fun h' S=>leave I4 S⟩ qn
   ·obtain⟨m3,wB,_⟩:=I3.loc
    obtain⟨o3,_,_,iu,_⟩:=wB;exact absurd e.symm (Au (Ar iu))
   ·obtain⟨v,hv⟩:=I3.cell x c e
    obtain⟨o3,iu,_⟩:=hv;exact Au (Ar iu)
  ·refine aW (T.item (cxD X scope N' (cellsFrom (l⁻¹+1) scope.names (clOf X.env.cells scope.names [])) l⁻¹ l (upd H2 D (.lst [])) M) rfl rfl rfl hc i aa s' L H' _ I' (stat qC) ah go) fun r P ⟨u,hr,h4⟩=>?_
   subst hr;refine Aa (aW h4 fun _ s5 ⟨x,H5,I5,r5,y5,st5,fr5⟩=>?_);have mU:=I5.pinned (stat fr5) (T.obj _ _ st5);refine Aa (wpAny_mono (jt _ s5 L H5 x u _ mU r5 (step x H5 y5)) (fun _ s6 h6=>?_) fun _ _ z=>z.elim);obtain⟨i5,H6,I6,q6⟩:=h6;refine Aa (wpAny_mono (ht' _ s6 i5 H6 _ I6 q6) (fun ok s7 h7=>?_) fun _ _ z=>z.elim);obtain⟨H7,I7,q7⟩:=h7;have again:∀{kS:St}{H8:Hp}{s8:Shared}{m':Nat},Inv (cxD X scope N' (cellsFrom (l⁻¹+1) scope.names (clOf X.env.cells scope.names [])) l⁻¹ l (upd H2 D (.lst [])) M) (aa++n7 M s5.heap) kS H8 s8->m'<n->W (i+1) m' kS H8->
     ∃m,m<n/\∃i L H',Inv (cxD X scope N' (cellsFrom (l⁻¹+1) scope.names (clOf X.env.cells scope.names [])) l⁻¹ l (upd H2 D (.lst [])) M) aa L H' s8/\tn i s8.heap/\(∀b∈M,H' b=none)/\W i m L H':=fun{kS H8 s8 m'} I8 hm w8=>by
    refine⟨m',hm,i+1,kS,H8,I8.unpinned,T.keep _ _ _ st5 fun b hb o e=>(I8.pin (b,o) (AQ _ (AQ _ (qR hb e)))).1,fun b hb=>?_,w8⟩;obtain⟨o,e,d⟩:=T.obj _ _ st5 b hb;exact(I8.pin (b,o) (AQ _ (AQ _ (qR hb e)))).2.1
   cases ok with
   |false=>
    obtain⟨m',hm,w7⟩:=q7;exact Ac ⟨rfl,again I7 hm w7⟩
   |true=>
    refine Aa (Aa (wpAny_mono (he' _ s7 i5 H7 _ I7 q7) (fun v s8 h8=>?_) fun _ _ z=>z.elim));obtain⟨y,H8,I8,r8,ys,m',vw,wL,yN,w8⟩:=h8;refine Aa (wpAny_mono (l3 (X:=cxD X scope N' (cellsFrom (l⁻¹+1) scope.names (clOf X.env.cells scope.names [])) l⁻¹ l (upd H2 D (.lst [])) M) _ s8 i5 H8 (.ref D) [y] (.ref D) [v] (fun _ H9=>H9=upd H8 D (.lst (ys++[y]))) I8 rfl (.cons r8 .nil) ⟨D,ys,y,rfl,rfl,vw,wL,rfl⟩) (fun _ s9 h9=>?_) fun _ _ z=>z.elim);obtain⟨_,H9,I9,_,e9⟩:=h9;subst e9;exact Ac (Ac ⟨rfl,again I9 yN w8⟩)
 have start:∃i L H',Inv (cxD X scope N' (cellsFrom (l⁻¹+1) scope.names (clOf X.env.cells scope.names [])) l⁻¹ l (upd H2 D (.lst [])) M) aa L H' {l with heap:=av}/\tn i ({l with heap:=av}:Shared).heap/\(∀b∈M,H' b=none)/\W i m0 L H':=by
  refine⟨0,oO ak σ,upd H2 D (.lst []),Ic,T.keep 0 _ _ fq fun b hb o e=>F b o (by rw[h3];exact Ad _ e),fun b hb=>?_,w0⟩;rw[ae (Y b hb).1];exact(f2 b hb).1
 have es:({O with heap:=av}:Shared)={l with heap:=av}:=by rw[e3]
 show codeAny (model X.prog X.w) X.A _ _ ({O with heap:=av}:Shared);rw[es];refine codeAny_compStart_list (jI m0 _ start) (T.self _ 0 _ _ _ ?_ (jI m0 _ start));exact T.keep 0 _ _ fq fun b hb o e=>F b o (by rw[h3];exact Ad _ e)
def mB(b:∀y∈scope.names,y.2≠.cell)(a:List (Str×Addr))(C:Addr)(s₀:Shared)(H₀:Hp)(ex:List Addr):ew X scope N' a C s₀ H₀ ex=cxD X scope N' a C s₀ H₀ ex:=by
 unfold cxD;have:(fun x=>decide (scope.names.lookup x=some NameKind.cell))=fun _=>false:=by
  funext x
  exact RN fun e=>b _ (A5 e) rfl
 rw[this]
 rfl
def JS{use:Option (Value->Sem Unit)}{R:Ω}{d:Pos}(hc:X.calm=true)(hk:scope.kind=.function)(b:∀y∈scope.names,y.2≠.cell)(i:∀y∈scope.names,y.2=.free->scope.names.lookup y.1=some .free)(j:∀y∈scope.names,y.2=.local->scope.names.lookup y.1=some .local)(hfr:∀y∈scope.names,y.2=.free->X.env.kindOf y.1=some .cell\/X.env.kindOf y.1=some .free)(l:mx X.N N' ak scope)(hi:PI X tg iter wi)(o:∀a C s₀ H₀ ex,PG (ew X scope N' a C s₀ H₀ ex) tg g)(ht:∀a C s₀ H₀ ex,ix (ew X scope N' a C s₀ H₀ ex) aV tc)(he:∀a C s₀ H₀ ex,PE (ew X scope N' a C s₀ H₀ ex) bv te)(p:∀x,foldedSetIterable iter X.env x=pure x){aa:Ψ}{s:Shared}{σ:St}{H:Hp}{Q:VK}(I:Inv X aa σ H s)(h:jD wi ak g tc te σ H Q)(fin:∀(D C:Addr)(H':Hp)(c:Shared)(f:Flow),Left X aa σ H' c C->Q (.ref D) H'->compPost (model X.prog X.w) X.A X.xe use R (.ref D) C (.ok f) c):wpAny (model X.prog X.w) X.A (comprehension (.ListComp bv [⟨tg,iter,aV,0⟩] scope pos) scope X.env d (newList []) (firstAsync [⟨tg,iter,aV,0⟩]) (firstIter [⟨tg,iter,aV,0⟩] X.env) use) R X.xe s:=
 E9 hc hk (fun y hy e=>absurd e (b y hy)) i j hfr l hi (fun a C s₀ H₀ ex=>mB (X:=X) (N':=N') b a C s₀ H₀ ex▸o a C s₀ H₀ ex) (fun a C s₀ H₀ ex=>mB (X:=X) (N':=N') b a C s₀ H₀ ex▸ht a C s₀ H₀ ex) (fun a C s₀ H₀ ex=>mB (X:=X) (N':=N') b a C s₀ H₀ ex▸he a C s₀ H₀ ex) p I h fin
def JT(hc:X.calm=true)(hk:scope.kind=.function)(c:∀y∈scope.names,y.2≠.cell)(e:∀y∈scope.names,y.2=.free->scope.names.lookup y.1=some .free)(i:∀y∈scope.names,y.2=.local->scope.names.lookup y.1=some .local)(hfr:∀y∈scope.names,y.2=.free->X.env.kindOf y.1=some .cell\/X.env.kindOf y.1=some .free)(j:mx X.N N' ak scope)(hi:PI X tg iter wi)(l:∀a C s₀ H₀ ex,PG (ew X scope N' a C s₀ H₀ ex) tg g)(ht:∀a C s₀ H₀ ex,ix (ew X scope N' a C s₀ H₀ ex) aV tc)(he:∀a C s₀ H₀ ex,PE (ew X scope N' a C s₀ H₀ ex) bv te)(o:∀x,foldedSetIterable iter X.env x=pure x:=by intro _;rfl):PE X (.ListComp bv [⟨tg,iter,aV,0⟩] scope pos) (jD wi ak g tc te):=by
 intro aa s σ H Q I h;rw[eval_ListComp];refine JS (use:=none) hc hk c e i hfr j hi l ht he o I h fun D C H' p f L q=>?_;obtain⟨m,d⟩:=L.ns;exact⟨m,d,fun h' b=>⟨.ref D,H',L.back h' b,rfl,q⟩⟩
end
end L2
end
section
namespace Zp
open PySem PySem.Spec PyProof.Rows
section
variable{prog:Program}{w:World}{A:Around}{E:Ω}{s:Shared}
def JU{it t:Addr}{i:Nat}{c:Array Value}{x:Value}{Q:Ω}(b:s.heap.IsTupleIter it t i)(ht:s.heap.IsTuple t c)(hx:c[i]?=some x)(e:∀h',h'.IsTupleIter it t (i+1)->Heap.SameBut it s.heap h'->Q x {s with heap:=h'}):wpAny (model prog w) A (Builtin.SmallTypes.nextOf (.ref it)) Q E s:=by
 obtain⟨o,a,hc,hd⟩:=id b;obtain⟨f,hol,_,g,d⟩:=ht;unfold Builtin.SmallTypes.nextOf;refine Aa (AL (name:=Bb "__next__") b.typeIs F.slot_tuple_iterator_next (AG F.slot_tuple_iterator_next b.typeIs F.entry_tuple_iterator_next ?_ (F.args_tuple_iterator_next_1 _)));show wpAny _ _ (field (.ref it) 0 >>= _) _ _ s;refine Aa (A7 a hd (x:=.ref t) rfl ?_);show wpAny _ _ (if(Value.ref t==Value.none)=true then _ else _) _ _ s;rw[RK (show ¬((Value.ref t==Value.none)=true) from An)];show wpAny _ _ (field (.ref it) 1 >>= _) _ _ s;refine Aa (A7 a hd (x:=.int i 0) rfl ?_);show wpAny _ _ (seqItems? (.ref t) >>= _) _ _ s;refine Aa (wpAny_seqItems hol d ?_);simp only[Pa,hx];refine Aa (wpAny_setField a hd (by simp) (Ac ⟨x,rfl,Ac (e _ ?_ (AH ..))⟩));exact⟨_,Heap.get?_update_self _ a (Obj.isFreed_of_fields (Obj.data_mapFields hd _)),(Obj.cls_mapFields ..).trans hc,by
  rw[Obj.data_mapFields hd];simp[rawInt]⟩
def JV{it t:Addr}{i:Nat}{d:Array Value}{Q:Ω}(f:A.handled=none)(c:s.heap.IsTupleIter it t i)(ht:s.heap.IsTuple t d)(hx:d[i]?=none)(h:∀h' e,Heap.ExtBut it s.heap h'->(∃o,h'.get? e=some o/\o.cls=.type "StopIteration")->E (.ref e) {s with heap:=h'}):wpAny (model prog w) A (Builtin.SmallTypes.nextOf (.ref it)) Q E s:=by
 obtain⟨o,b,hc,hd⟩:=id c;obtain⟨j,hol,_,l,g⟩:=ht;unfold Builtin.SmallTypes.nextOf;refine Aa (AL (name:=Bb "__next__") c.typeIs F.slot_tuple_iterator_next (AG F.slot_tuple_iterator_next c.typeIs F.entry_tuple_iterator_next ?_ (F.args_tuple_iterator_next_1 _)));show wpAny _ _ (field (.ref it) 0 >>= _) _ _ s;refine Aa (A7 b hd (x:=.ref t) rfl ?_);show wpAny _ _ (if(Value.ref t==Value.none)=true then _ else _) _ _ s;rw[RK (show ¬((Value.ref t==Value.none)=true) from An)];show wpAny _ _ (field (.ref it) 1 >>= _) _ _ s;refine Aa (A7 b hd (x:=.int i 0) rfl ?_);show wpAny _ _ (seqItems? (.ref t) >>= _) _ _ s;refine Aa (wpAny_seqItems hol g ?_);simp only[Pa,hx];refine Aa (wpAny_rule (Aa (wpAny_setField b hd (by simp) ?_)));show wpAny _ _ (newExc (.type "StopIteration") [] >>= _) _ _ _;refine Aa ?_;simp only[newExc,newTuple];refine Aa (AF ?_ (by size_fits));refine Aa (m:=firstArgMember _ _) (wpAny_of_eq (a:=Value.none) (by first|rfl|(simp only[firstArgMember];rfl)) ?_);refine AF ?_ (by size_fits);simp only[raiseNew];refine Aa (wpAny_handled ?_)
 first|rw[show A.in1.handled=none from f]|rw[f]
 refine Aa (Ac (wpAny_throw ?_));exact h _ _ (((AH ..).extBut.push _).push _) ⟨_,Al _ rfl,rfl⟩
end
def JW{h h':Heap}{a:Addr}{b:Array Value}(x:h.IsTuple a b)(e:∀o,h.get? a=some o->h'.get? a=some o):h'.IsTuple a b:=let ⟨o,ho,r⟩:=x;⟨o,e o ho,r⟩
def E_{prog:Program}{w:World}{A:Around}(j:A.handled=none)(it t:Addr)(c:t≠it)(b:Array Value):Draws prog w A it [it,t] b.size (fun i v=>b[i]?=some v) (fun i h=>h.IsTupleIter it t i/\h.IsTuple t b) where
 live:=fun _ _ st=>let ⟨o,ho,_⟩:=st.1;⟨o,ho⟩
 frame:=fun _ _ _ st hk=>⟨st.1.at fun o e=>hk it (by simp) o e,JW st.2 fun o e=>hk t (by simp) o e⟩
 item:=fun i s Q E hi st d=>by
  refine JU st.1 st.2 (x:=b[i]) (by simp[hi]) fun h' f a=>?_;exact d _ h' s.toks (by simp[hi]) ⟨f,st.2.extBut a.extBut c⟩ a
 done:=fun s Q E st g=>JV j st.1 st.2 (by simp) g
structure Apart(z TI TO i1 i2:Addr)(bR bS:List Addr):Prop where
 z1:z∉bR
 z2:z∉bS
 o1:TO∉bR
 o2:TO∉bS
 m1:i1∈bR
 m2:i2∈bS
 x12:i1∉bS
 x21:i2∉bR
 TIz:TI≠z
 TOz:TO≠z
 TITO:TI≠TO
 TIi1:TI≠i1
 TIi2:TI≠i2
section
variable{prog:Program}{w:World}{A:Around}{E:Ω}{s:Shared}{z TI TO i1 i2:Addr}{bR bS:List Addr}{n1 n2 i:Nat}{P1 P2:Nat->Value->Prop}{S1 S2:Nat->Heap->Prop}{a b:Value}
def JX{Q:Ω}(D1:Draws prog w A i1 bR n1 P1 S1)(D2:Draws prog w A i2 bS n2 P2 S2)(D:Apart z TI TO i1 i2 bR bS)(hz:IsZip s.heap z TI TO .none)(dv:IsPair s.heap TI (.ref i1) (.ref i2))(dw:IsPair s.heap TO a b)(h1:S1 i s.heap)(h2:S2 i s.heap)(l1:i<n1)(l2:i<n2)(hQ:∀x y h' tk,P1 i x->P2 i y->IsZip h' z TI TO (rawInt s⁻¹)->IsPair h' TO x y->S1 (i+1) h'->S2 (i+1) h'->IsPair h' s⁻¹ x y->h'.objs.size=s⁻¹+1->
   (∀c o,c≠z->c≠TO->c≠i1->c≠i2->s.heap.get? c=some o->h'.get? c=some o)->Q (.ref s⁻¹) {s with heap:=h',toks:=tk}):
  wpAny (model prog w) A (Builtin.«zip.__next__» ⟨[.ref z],[]⟩) (fun fin s'=>∃v,fin=.done (.ret v)/\Q v s') E s:=by
 have g:∀c∈bR,c≠z:=fun c hc e=>D.z1 (e▸hc);have N:∀c∈bS,c≠z:=fun c hc e=>D.z2 (e▸hc);have O:∀c∈bR,c≠TO:=fun c hc e=>D.o1 (e▸hc);have P:∀c∈bS,c≠TO:=fun c hc e=>D.o2 (e▸hc);have nj:∀c∈bS,c≠i1:=fun c hc e=>D.x12 (e▸hc);have vf:∀c∈bR,c≠i2:=fun c hc e=>D.x21 (e▸hc);have k6:i1≠z:=g _ D.m1;have oD:i2≠z:=N _ D.m2;have gm:TO≠i1:=(O _ D.m1).symm;have mo:TO≠i2:=(P _ D.m2).symm;show wpAny _ _ (field (.ref z) 2 >>= _) _ _ _;refine Aa (A7 hz rfl (x:=.bool false) rfl ?_);show wpAny _ _ (field (.ref z) 3 >>= _) _ _ _;refine Aa (A7 hz rfl (x:=.ref TI) rfl ?_);refine Aa (wpAny_seqItems dv rfl ?_);show wpAny _ _ (Builtin.SmallTypes.ownedTupleIsFree (.ref z) >>= _) _ _ _;refine Aa ?_;unfold Builtin.SmallTypes.ownedTupleIsFree;refine Aa (A7 hz rfl (x:=.none) rfl (Ac ?_));simp only[if_true];refine Aa (wpAny_rule ?_);refine Aa (A7 hz rfl (x:=.ref TO) rfl ?_);refine Aa (A9 hz (by simp) fun g1 d h=>?_);replace d:IsZip g1 z TI TO .ellipsis:=d;refine Aa ?_;simp only[List.zipIdx_cons,List.zipIdx_nil,Rb,List.forIn_nil];refine Aa (Aa (wpAny_onRaise ?_));show wpAny _ _ (Builtin.SmallTypes.nextOf (.ref i1) >>= _) _ _ _;refine Aa (D1.item i _ _ _ l1 (D1.frame _ _ _ h1 fun c hc o e=>h.extBut c o (g c hc) e) fun x g2 kJ px s2 j=>Ac ?_);have S:IsPair g2 TO a b:=j.extBut _ _ gm (h.extBut _ _ D.TOz dw);refine Aa (wpAny_seqItems S rfl ?_);refine Aa (wpAny_updateSeq_pair S fun g3 G l=>?_);replace G:IsPair g3 TO x b:=G;refine Aa (wpAny_letGo (Ac ?_));refine Aa (Aa (wpAny_onRaise ?_));show wpAny _ _ (Builtin.SmallTypes.nextOf (.ref i2) >>= _) _ _ _;refine Aa (D2.item i _ _ _ l2 (D2.frame _ _ _ h2 fun c hc o e=>l.extBut c o (P c hc) (j.extBut c o (nj c hc) (h.extBut c o (N c hc) e))) fun y g4 y_ py s4 p=>Ac ?_);have T:IsPair g4 TO x b:=p.extBut _ _ mo G;refine Aa (wpAny_seqItems T rfl ?_);refine Aa (wpAny_updateSeq_pair T fun g5 u q=>?_);replace u:IsPair g5 TO x y:=u;refine Aa (wpAny_letGo (Ac (Ac ?_)));refine Aa (wpAny_seqItems u rfl ?_);refine Aa (wpAny_newTuple ?_);have hsz:g5.objs.size=s⁻¹:=by rw[q.1,p.1,l.1,j.1,h.1]
 have U:IsZip g5 z TI TO .ellipsis:=q.extBut _ _ D.TOz.symm (p.extBut _ _ oD.symm (l.extBut _ _ D.TOz.symm (j.extBut _ _ k6.symm d)));have kk:∀c o,c≠z->c≠TO->c≠i1->c≠i2->s.heap.get? c=some o->g5.get? c=some o:=fun c o f C H I e=>
  q.extBut _ _ C (p.extBut _ _ I (l.extBut _ _ C (j.extBut _ _ H (h.extBut _ _ f e))))
 have d1:S1 (i+1) g5:=D1.frame _ _ _ s2 fun c hc o e=>q.extBut c o (O c hc) (p.extBut c o (vf c hc) (l.extBut c o (O c hc) e));have d2:S2 (i+1) g5:=D2.frame _ _ _ s4 fun c hc o e=>q.extBut c o (P c hc) e;have W:z<g5.objs.size:=Ar U;have e1:∀c∈bR,∀o,g5.get? c=some o->c<g5.objs.size:=fun c _ o e=>Ar e;show wpAny _ _ (Builtin.SmallTypes.ownedTupleHandOut (.ref z) (.ref g5.objs.size) >>= _) _ _ _;refine Aa ?_;unfold Builtin.SmallTypes.ownedTupleHandOut;have z6:IsZip (g5.push {cls:=.type "tuple",data:=.seq #[x,y]}) z TI TO .ellipsis:=Ad _ U;refine Aa (A9 z6 (by simp) fun g7 J L=>?_);replace J:IsZip g7 z TI TO (rawInt g5.objs.size):=J;refine A9 J (by simp) fun r F M=>?_;replace F:IsZip r z TI TO (rawInt g5.objs.size):=F;have up:∀c o,c≠z->g5.get? c=some o->r.get? c=some o:=fun c o f e=>M.extBut _ _ f (L.extBut _ _ f (Ad _ e));have Y:IsPair r g5.objs.size x y:=M.extBut _ _ (A0 W) (L.extBut _ _ (A0 W) (Al _ rfl));have X:r.objs.size=g5.objs.size+1:=by rw[M.1,L.1,Heap.size_push]
 rw[hsz] at F Y X;refine Ac ⟨_,rfl,?_⟩;show Q (.ref g5.objs.size) _;rw[hsz];exact hQ x y r _ px py F (up _ _ D.TOz u) (D1.frame _ _ _ d1 fun c hc o e=>up c o (g c hc) e) (D2.frame _ _ _ d2 fun c hc o e=>up c o (N c hc) e) Y X fun c o f C H I e=>up c o f (kk c o f C H I e)
def JY{Q:Fin->Shared->Prop}(D1:Draws prog w A i1 bR n1 P1 S1)(D2:Draws prog w A i2 bS n2 P2 S2)(D:Apart z TI TO i1 i2 bR bS)(hz:IsZip s.heap z TI TO .none)(dv:IsPair s.heap TI (.ref i1) (.ref i2))(dw:IsPair s.heap TO a b)(h1:S1 i s.heap)(h2:S2 i s.heap)(P:i=n1\/(i<n1/\i=n2))(M:∀h' e tk,(∀c o,c≠z->c≠TO->c≠i1->c≠i2->s.heap.get? c=some o->h'.get? c=some o)->(∃o,h'.get? e=some o/\o.cls=.type "StopIteration")->E (.ref e) {s with heap:=h',toks:=tk}):wpAny (model prog w) A (Builtin.«zip.__next__» ⟨[.ref z],[]⟩) Q E s:=by
 have q:∀c∈bR,c≠z:=fun c hc e=>D.z1 (e▸hc);have G:∀c∈bS,c≠z:=fun c hc e=>D.z2 (e▸hc);have T:∀c∈bR,c≠TO:=fun c hc e=>D.o1 (e▸hc);have U:∀c∈bS,c≠TO:=fun c hc e=>D.o2 (e▸hc);have W:∀c∈bS,c≠i1:=fun c hc e=>D.x12 (e▸hc);have H:i1≠z:=q _ D.m1;have X:i2≠z:=G _ D.m2;have Y:TO≠i1:=(T _ D.m1).symm;show wpAny _ _ (field (.ref z) 2 >>= _) _ _ _;refine Aa (A7 hz rfl (x:=.bool false) rfl ?_);show wpAny _ _ (field (.ref z) 3 >>= _) _ _ _;refine Aa (A7 hz rfl (x:=.ref TI) rfl ?_);refine Aa (wpAny_seqItems dv rfl ?_);show wpAny _ _ (Builtin.SmallTypes.ownedTupleIsFree (.ref z) >>= _) _ _ _;refine Aa ?_;unfold Builtin.SmallTypes.ownedTupleIsFree;refine Aa (A7 hz rfl (x:=.none) rfl (Ac ?_));simp only[if_true];refine Aa (wpAny_rule ?_);refine Aa (A7 hz rfl (x:=.ref TO) rfl ?_);refine Aa (A9 hz (by simp) fun g1 d j=>?_);replace d:IsZip g1 z TI TO .ellipsis:=d;refine Aa ?_;simp only[List.zipIdx_cons,List.zipIdx_nil,Rb,List.forIn_nil];refine Aa (Aa (wpAny_onRaise ?_));have f1:=D1.frame _ _ _ h1 fun c hc o e=>j.extBut c o (q c hc) e;rcases P with u|⟨S,u⟩
 ·show wpAny _ _ (Builtin.SmallTypes.nextOf (.ref i1) >>= _) _ _ _
  refine Aa (D1.done _ _ _ (u▸f1) fun g2 e f he=>?_);obtain⟨v,g,p⟩:=he;have I:IsZip g2 z TI TO .ellipsis:=f _ _ H.symm d;have y:e≠z:=fun x=>by subst x;rw[I] at g;cases g;simp at p
  refine A9 I (by simp) fun g3 _ h=>M g3 e _ (fun c o l _ r _ x=>h.extBut _ _ l (f _ _ r (j.extBut _ _ l x))) ⟨v,h.extBut _ _ y g,p⟩
 ·show wpAny _ _ (Builtin.SmallTypes.nextOf (.ref i1) >>= _) _ _ _
  refine Aa (D1.item i _ _ _ S f1 fun x g2 kJ px s2 f=>Ac ?_);have J:IsPair g2 TO a b:=f.extBut _ _ Y (j.extBut _ _ D.TOz dw);refine Aa (wpAny_seqItems J rfl ?_);refine Aa (wpAny_updateSeq_pair J fun g3 t3 h=>?_);refine Aa (wpAny_letGo (Ac ?_));refine Aa (Aa (wpAny_onRaise ?_));have f2:S2 i g3:=D2.frame _ _ _ h2 fun c hc o e=>h.extBut c o (U c hc) (f.extBut c o (W c hc) (j.extBut c o (G c hc) e));show wpAny _ _ (Builtin.SmallTypes.nextOf (.ref i2) >>= _) _ _ _;refine Aa (D2.done _ _ _ (u▸f2) fun g4 e C he=>?_);obtain⟨v,g,p⟩:=he;have L:IsZip g4 z TI TO .ellipsis:=C _ _ X.symm (h.extBut _ _ D.TOz.symm (f.extBut _ _ H.symm d));have y:e≠z:=fun x=>by subst x;rw[L] at g;cases g;simp at p
  refine A9 L (by simp) fun g5 _ F=>M g5 e _ (fun c o l N r O x=>F.extBut _ _ l (C _ _ O (h.extBut _ _ N (f.extBut _ _ r (j.extBut _ _ l x))))) ⟨v,F.extBut _ _ y g,p⟩
end
def JZ{prog:Program}{w:World}{A:Around}{z TI TO i1 i2:Addr}{bR bS:List Addr}{n1 n2:Nat}{P1 P2:Nat->Value->Prop}{S1 S2:Nat->Heap->Prop}(D1:Draws prog w A.in1 i1 bR n1 P1 S1)(D2:Draws prog w A.in1 i2 bS n2 P2 S2)(D:Apart z TI TO i1 i2 bR bS):WalksT prog w A z (z::TI::TO::(bR++bS)) [z,TO,i1,i2] (min n1 n2) (fun i p=>∃x y,P1 i x/\P2 i y/\p=#[x,y])
   (fun i h=>IsZip h z TI TO .none/\IsPair h TI (.ref i1) (.ref i2)/\(∃a b,IsPair h TO a b)/\S1 i h/\S2 i h)
   (fun i T h=>IsZip h z TI TO (rawInt T)/\IsPair h TI (.ref i1) (.ref i2)/\(∃a b,IsPair h TO a b)/\S1 (i+1) h/\S2 (i+1) h/\T≠z/\T≠TO/\T≠i1/\T≠i2) where
 sub:=fun c hc=>by
  simp at hc ⊢;rcases hc with rfl|rfl|rfl|rfl
  ·simp
  ·simp
  ·exact .inr (.inr (.inr (.inl D.m1)))
  ·exact .inr (.inr (.inr (.inr D.m2)))
 frame:=fun i h h' d hk=>by
  obtain⟨hz,g,⟨a,b,j⟩,h1,h2⟩:=d;exact⟨hk z (by simp) _ hz,hk TI (by simp) _ g,⟨a,b,hk TO (by simp) _ j⟩,D1.frame _ _ _ h1 fun c hc o e=>hk c (by simp[hc]) o e,D2.frame _ _ _ h2 fun c hc o e=>hk c (by simp[hc]) o e⟩
 item:=fun i s Q E hi d l=>by
  obtain⟨hz,g,⟨a,b,j⟩,h1,h2⟩:=d;have hT:s.TypeIs (.ref z) "zip":=⟨_,hz,rfl⟩;unfold pyNext;refine Aa (wpAny_attempt (AL (name:=Bb "__next__") hT F.slot_zip_next (AG F.slot_zip_next hT F.entry_zip_next
   (JX D1 D2 D hz g j h1 h2 (Ax hi (Nat.min_le_left ..)) (Ax hi (Rw ..)) fun x y h' tk r u v C G H I X hk=>Ac ?_) (F.args_zip_next_1 _))))
  have lt:∀{c o},s.heap.get? c=some o->s⁻¹≠c:=fun e=>A0 (Ar e);obtain⟨Y,L⟩:=D1.live _ _ h1;obtain⟨o2,M⟩:=D2.live _ _ h2;exact l s⁻¹ #[x,y] h' tk ⟨_,_,r,u,rfl⟩ (Ag _) ⟨_,I,rfl,_,rfl⟩ ⟨v,hk _ _ D.TIz D.TITO D.TIi1 D.TIi2 g,⟨_,_,C⟩,G,H,lt hz,lt j,lt L,lt M⟩
   fun c o hc e=>hk c o (fun x=>hc (by simp[x])) (fun x=>hc (by simp[x])) (fun x=>hc (by simp[x])) (fun x=>hc (by simp[x])) e
 go:=fun bE k pos i T s Q E hm l=>by
  obtain⟨hz,g,⟨a,b,j⟩,h1,h2,_⟩:=hm;refine wpAny_letOwnedTupleGo_zip hz fun h' J f=>l h' ⟨J,f.extBut _ _ D.TIz g,⟨a,b,f.extBut _ _ D.TOz j⟩,
   D1.frame _ _ _ h1 fun c hc o e=>f.extBut c o (fun q=>D.z1 (q▸hc)) e,D2.frame _ _ _ h2 fun c hc o e=>f.extBut c o (fun q=>D.z2 (q▸hc)) e⟩ fun c o hc e=>f.extBut _ _ (fun x=>hc (by simp[x])) e
 apart:=fun i T h hm hT=>by
  obtain⟨_,_,_,_,_,N,O,P,S⟩:=hm;simp at hT;rcases hT with rfl|rfl|rfl|rfl
  ·exact N rfl
  ·exact O rfl
  ·exact P rfl
  ·exact S rfl
 done:=fun s Q E d l=>by
  obtain⟨hz,g,⟨a,b,j⟩,h1,h2⟩:=d;have hT:s.TypeIs (.ref z) "zip":=⟨_,hz,rfl⟩;have W:min n1 n2=n1\/(min n1 n2<n1/\min n1 n2=n2):=ω
  unfold pyNext;refine Aa (wpAny_attempt (AL (name:=Bb "__next__") hT F.slot_zip_next
   (AG F.slot_zip_next hT F.entry_zip_next (JY D1 D2 D hz g j h1 h2 W fun h' e tk hk he=>?_) (F.args_zip_next_1 _))))
  obtain⟨o,U,hc⟩:=he;refine Aa (wpAny_isInstance (T:="StopIteration") (b:=true) ⟨o,U,hc⟩ isSubtype_stop ?_);exact Ac (l _ tk fun c o hc e=>hk c o (fun x=>hc (by simp[x])) (fun x=>hc (by simp[x])) (fun x=>hc (by simp[x])) (fun x=>hc (by simp[x])) e)
 self:=fun i s Q E d l=>wpAny_pyIter_zip d.1 l
end Zp
end
section
namespace L2
open PySem PySem.Spec PyProof.Rows
section
variable{X:Cx}{aa:Ψ}{σ:St}{H:Hp}{s:Shared}{h':Heap}
def Inv.turneds{t':Nat}{ch:List Addr}(I:Inv X aa σ H s)(hf:∀b∈ch,bA X aa H b)(k:∀b o,b∉ch->s.heap.get? b=some o->h'.get? b=some o):Inv X aa σ H {s with heap:=h',toks:=t'}:=by
 have a:∀b u,H b=some u->b∉ch:=fun b u e z=>by have:=(hf b z).1;rw[this] at e;cases e
 refine I.step (g':=s.gens) (d':=s.drawn) (ch:=ch) (fun b hb=>?_) (fun b o _ _ hc e _=>k b o hc e) (fun b o _ _ hc e _=>⟨o.slots,k b o hc e⟩) (fun _ _ _ _ n=>n)
  (fun b o hc e=>⟨o,k b o hc e⟩) (fun _ _ e=>e) (fun _ _ _ e=>e) (fun b ps e=>⟨#[],by rw[e];simp⟩) (fun m hm=>?_) (fun b u e=>?_) I.bare
 ·obtain⟨i,f1,f2,d,f,g⟩:=hf b hb
  exact⟨d,f1,f,g⟩
 ·obtain⟨o,es,ep,h,r⟩:=hm
  exact⟨o,es,ep,k _ o (fun z=>(hf _ z).2.1 rfl) h,r⟩
 ·refine(I.hok b u e).stay (fun c v hc q=>k c v ?_ q) (fun _ q=>q) fun _ _ q=>q
  rcases hc with z|z
  ·rw[z];exact a b u e
  ·exact a c _ z
def Inv.adopt{a:Addr}{o:HO}(I:Inv X aa σ H s)(d:H a=none)(h1:X.s₀⁻¹<=a)(h2:a≠X.env.locals)(f:∀x c,X.env.cells.lookup x=some c->c≠a)(g:∀p∈X.pn++aa,p.1≠a)(new:zF X.prog X.w (upd H a o) s.heap a o):Inv X aa σ (upd H a o) s:=by
 refine I.step (h':=s.heap) (g':=s.gens) (t':=s.toks) (d':=s.drawn) (ch:=[a]) (fun b hb=>?_) (fun b o _ _ hc e _=>e) (fun b o _ _ hc e _=>⟨o.slots,e⟩) (fun b o hc e n=>?_)
  (fun b o hc e=>⟨o,e⟩) (fun b xs e=>?_) (fun b o u e=>?_) (fun b ps e=>⟨#[],?_⟩) (fun m hm=>hm) (fun b u e=>?_) I.bare
 ·have e:b=a:=by simpa using hb
  subst e;exact⟨.inr h1,h2,f,g⟩
 ·rw[ae (fun z=>hc (by simp[z]))];exact n
 ·rw[ae (zj e d)];exact e
 ·rw[ae (zj e d)];exact e
 ·rw[ae (zj e d),e];simp
 ·by_cases hb:b=a
  ·subst hb;rw[ac] at e;cases e;exact new
  ·rw[ae hb] at e
   exact(I.hok b u e).stay (fun _ _ _ q=>q) (fun c q=>by rw[ae (zj q d)];exact q) fun c xs q=>by rw[ae (zj q d)];exact q
def Inv.grown{t':Nat}{ch:List Addr}{a:Addr}{o:HO}(I:Inv X aa σ H s)(hf:∀b∈ch,bA X aa H b)(k:∀b o,b∉ch->s.heap.get? b=some o->h'.get? b=some o)(hp:s⁻¹<=a)(new:zF X.prog X.w (upd H a o) h' a o):Inv X aa σ (upd H a o) {s with heap:=h',toks:=t'}:=by
 have I1:Inv X aa σ H {s with heap:=h',toks:=t'}:=I.turneds hf k;obtain⟨c,f1,f2,f,d,e⟩:=I.fpOk hp (I.hok.fresh hp);exact I1.adopt c (AC I.sz hp) f1 d e new
def Fa{b t:Addr}{o:Obj}(I:Inv X aa σ H s)(f:bA X aa H b)(hk:X.K.lookup t=some o):t≠b:=by
 intro z;subst z;have e:=I.ok.mod.kin t o hk;rcases f.2.2.2.1 with q|q
 ·exact I.ok.noex t o e q
 ·exact absurd (Ax (Ar (I.ok.bs t o e).1) q) (Qd _)
def Fb{b t:Addr}{xs:List V}(I:Inv X aa σ H s)(f:bA X aa H b)(h:SqT X.K H t xs):t≠b:=by
 rcases h with (h|⟨o,h⟩)|⟨o,_,_,hk,_⟩
 ·exact zj h f.1
 ·exact zj h f.1
 ·exact Fa I f hk
def J0{b t:Addr}{xs:List V}(I:Inv X aa σ H s)(f:bA X aa H b)(h:SqL X.K H t xs):t≠b:=by
 rcases h with (h|⟨o,h⟩)|⟨o,_,_,hk,_⟩
 ·exact zj h f.1
 ·exact zj h f.1
 ·exact Fa I f hk
end
def Fc{P:Program}{w:World}{K:Ae}{J:It}{a wr:List Addr}{it:Addr}{c:Nat->Heap->Prop}{bE:List Expr}{k:Nat}{pos:Pos}(mem:it∈a)(obj:∀i h,c i h->∀b∈a,∃o,h.get? b=some o/\∀v,o.data≠.cell v)(keep:∀i h h',c i h->(∀b∈a,∀o,h.get? b=some o->h'.get? b=some o)->c i h')(hw:∀b∈wr,b∈a)(W:∀(X:Cx),X.prog=P->X.w=w->X.K=K->X.calm=true->∀(i:Nat)(aa:Ψ)(s:Shared)(σ:St)(H:Hp),Inv X aa σ H s->(∀b∈a,bA X aa H b)->c i s.heap->(J.go i H\/J.stop i H)->
   ∃(y:List Addr)(n:Nat)(Pt:Nat->Array Value->Prop)(S:Nat->Heap->Prop)(C:Nat->Addr->Heap->Prop),WalksT P w X.A it y wr n Pt S C/\S i s.heap/\(∀j h,S j h->c j h)/\
    (J.go i H->i<n/\∀d,Pt i d->∃xs:List V,Vals xs d.toList/\xs.length<=sizeLine/\∀p,H p=none->J.yld i H (.ref p) (upd H p (.tup xs)))/\(J.stop i H->i=n))
  (self:∀(A:Around)(i:Nat)(s:Shared)(Q:Ω)(E:Ω),c i s.heap->Q (.ref it) s->wpAny (model P w) A (pyIter (.ref it)) Q E s) :
  Turn P w K (.Tuple bE k pos) J a it c where
 mem:=mem
 obj:=obj
 keep:=keep
 item:=by
  intro X f l r hc i aa s σ H E I hf st u;obtain⟨y,n,Pt,S,C,WT,D,F,g,_⟩:=W X f l r hc i aa s σ H I hf st (.inl u);obtain⟨hi,O⟩:=g u;subst f l r;refine WT.item i s _ _ hi D fun T d h' tk hp hT G hm hk=>⟨.ref T,rfl,?_⟩;obtain⟨xs,U,hz,hy⟩:=O d hp;have I1:Inv X aa σ (upd H T (.tup xs)) {s with heap:=h',toks:=tk}:=I.grown (ch:=wr) (fun b hb=>hf b (hw b hb)) hk hT (show zF X.prog X.w _ h' T (.tup xs) from⟨hz,d.toList,U,by have q:IsTup h' T d:=G;simpa using q⟩);have wW:∀b∈a,b≠T:=fun b hb=>by
   obtain⟨o,e,_⟩:=obj i _ st b hb;exact Au (Ax (Ar e) hT)
  have x:∀b∈a,bA X aa (upd H T (.tup xs)) b:=fun b hb=>by
   obtain⟨Y,fr⟩:=hf b hb;exact⟨by rw[ae (wW b hb)];exact Y,fr⟩
  refine WT.go bE k pos i T _ _ _ hm fun L M N=>?_;have I2:Inv X aa σ (upd H T (.tup xs)) {s with heap:=L,toks:=tk}:=I1.turneds (s:={s with heap:=h',toks:=tk}) (t':=tk) (ch:=wr) (fun b hb=>x b (hw b hb)) N;exact⟨.ref T,_,I2,rfl,hy T (I.hok.fresh hT),F _ _ M,fun b hb=>(x b hb).1⟩
 done:=by
  intro X f l r hc i aa s σ H E I hf st u;obtain⟨y,n,Pt,S,C,WT,D,F,_,g⟩:=W X f l r hc i aa s σ H I hf st (.inr u);subst f l r;have e:=g u;subst e;exact WT.done s _ _ D fun h' tk hk=>⟨rfl,I.turneds (ch:=wr) (fun b hb=>hf b (hw b hb)) hk⟩
 self:=self
def BY(K:Ae)(a b:Addr):It:=
 ⟨fun i H=>∃xs ys,SqT K H a xs/\SqT K H b ys/\i<min xs.length ys.length,
  fun i H v H'=>∃p x y,v=.ref p/\H p=none/\H'=upd H p (.tup [x,y])/\(∀xs,SqT K H a xs->xs[i]?=some x)/\∀ys,SqT K H b ys->ys[i]?=some y,
  fun i H=>∃xs ys,SqT K H a xs/\SqT K H b ys/\i=min xs.length ys.length⟩
def eA:(2:Nat)<=sizeLine:=by rw[sizeLine_eq];decide
def J1{P:Program}{w:World}{K:Ae}{bE:List Expr}{k:Nat}{pos:Pos}(M N z TI TO i1 i2:Addr)(hd:TI≠z/\TO≠z/\TI≠TO/\TI≠i1/\TI≠i2/\z≠i1/\z≠i2/\TO≠i1/\TO≠i2/\i1≠i2):Turn P w K (.Tuple bE k pos) (BY K M N) [z,TI,TO,i1,i2] z (fun i h=>IsZip h z TI TO .none/\IsPair h TI (.ref i1) (.ref i2)/\(∃a b,IsPair h TO a b)/\h.IsTupleIter i1 M i/\h.IsTupleIter i2 N i):=by
 obtain⟨d1,d2,d3,d4,d5,d6,d7,d8,d9,Y⟩:=hd;refine Fc (wr:=[z,TO,i1,i2]) (by simp) (fun i h st b hb=>?_) (fun i h h' st c=>?_) (fun b hb=>?_) (fun X hP hw hK hc i aa s σ H I hf st iQ=>?_) fun A i s Q E st h=>wpAny_pyIter_zip st.1 h
 ·obtain⟨d,l,⟨a,b',q⟩,⟨o4,r,_,O⟩,⟨o5,C,_,e5⟩⟩:=st
  simp at hb;rcases hb with rfl|rfl|rfl|rfl|rfl
  ·exact⟨_,d,fun v z=>by cases z⟩
  ·exact⟨_,l,fun v z=>by cases z⟩
  ·exact⟨_,q,fun v z=>by cases z⟩
  ·exact⟨_,r,fun v z=>by rw[O] at z;cases z⟩
  ·exact⟨_,C,fun v z=>by rw[e5] at z;cases z⟩
 ·obtain⟨d,l,⟨a,b',q⟩,r,C⟩:=st
  exact⟨c z (by simp) _ d,c TI (by simp) _ l,⟨a,b',c TO (by simp) _ q⟩,r.at fun o e=>c i1 (by simp) o e,C.at fun o e=>c i2 (by simp) o e⟩
 ·simp at hb ⊢
  rcases hb with rfl|rfl|rfl|rfl<;>simp
 ·subst hP hw hK
  have hd:∃xs ys,SqT X.K H M xs/\SqT X.K H N ys:=by
   rcases iQ with ⟨xs,ys,a,b,_⟩|⟨xs,ys,a,b,_⟩
   ·exact⟨xs,ys,a,b⟩
   ·exact⟨xs,ys,a,b⟩
  obtain⟨xs,ys,D,F⟩:=hd;obtain⟨us,r1,p1,_⟩:=I.tuple D;obtain⟨ws,r2,p2,_⟩:=I.tuple F;have gD:=r1.length;have L:=r2.length;have hh:=I.ok.hd hc;obtain⟨d,l,q,r,C⟩:=st;have f:=fun b hb=>Fb I (hf b hb) D;have S:=fun b hb=>Fb I (hf b hb) F;have AP:Zp.Apart z TI TO i1 i2 [i1,M] [i2,N]:=by
   refine⟨?_,?_,?_,?_,by simp,by simp,?_,?_,d1,d2,d3,d4,d5⟩
   ·simp;exact⟨d6,(f z (by simp)).symm⟩
   ·simp;exact⟨d7,(S z (by simp)).symm⟩
   ·simp;exact⟨d8,(f TO (by simp)).symm⟩
   ·simp;exact⟨d9,(S TO (by simp)).symm⟩
   ·simp;exact⟨Y,(S i1 (by simp)).symm⟩
   ·simp;exact⟨Y.symm,(f i2 (by simp)).symm⟩
  have WZ:=Zp.JZ (prog:=X.prog) (w:=X.w) (A:=X.A) (Zp.E_ (A:=X.A.in1) hh i1 M (f i1 (by simp)) us.toArray) (Zp.E_ (A:=X.A.in1) hh i2 N (S i2 (by simp)) ws.toArray) AP;refine⟨_,_,_,_,_,WZ,⟨d,l,q,⟨r,p1⟩,⟨C,p2⟩⟩,fun j h st=>⟨st.1,st.2.1,st.2.2.1,st.2.2.2.1.1,st.2.2.2.2.1⟩,fun g=>?_,fun g=>?_⟩
  ·obtain⟨G,J,T,U,hi⟩:=g
   have e1:=I.tuple_inj T D;have e2:=I.tuple_inj U F;subst e1 e2;refine⟨by simpa[<-gD,<-L] using hi,fun bd hp=>?_⟩;obtain⟨x,y,px,py,rfl⟩:=hp;have mR:us[i]?=some x:=by simpa using px
   have W:ws[i]?=some y:=by simpa using py
   have lx:i<G.length:=ω
   have ly:i<J.length:=ω
   have gx:G[i]?=some G[i]:=by simp[lx]
   have gy:J[i]?=some J[i]:=by simp[ly]
   obtain⟨u,e3,ru⟩:=r1.get gx;obtain⟨u',O,fu⟩:=r2.get gy;rw[mR] at e3;cases e3;rw[W] at O;cases O;refine⟨[G[i],J[i]],.cons ru (.cons fu .nil),eA,fun p hp=>⟨p,_,_,rfl,hp,rfl,fun zs hz=>?_,fun zs hz=>?_⟩⟩
   ·rw[I.tuple_inj hz D];exact gx
   ·rw[I.tuple_inj hz F];exact gy
  ·obtain⟨G,J,T,U,hi⟩:=g
   have e1:=I.tuple_inj T D;have e2:=I.tuple_inj U F;subst e1 e2
   simpa[<-gD,<-L] using hi
def J2(b e:Addr)(xs ys:Array Value):Meets (Builtin.«zip.__new__» ⟨[.type "zip",.ref b,.ref e],[]⟩) (fun _ R s=>s.heap.IsTuple b xs/\s.heap.IsTuple e ys/\
   ∀h',IsZip h' (s⁻¹+4) (s⁻¹+2) (s⁻¹+3) .none->IsPair h' (s⁻¹+2) (.ref s⁻¹) (.ref (s⁻¹+1))->
   IsPair h' (s⁻¹+3) .none .none->h'.IsTupleIter s⁻¹ b 0->h'.IsTupleIter (s⁻¹+1) e 0->
   (∀c o,s.heap.get? c=some o->h'.get? c=some o)->R (.ok (.ret (.ref (s⁻¹+4)))) {s with heap:=h'}):=
 .of_wp fun prog w A R s h=>by
  obtain⟨hp,g,d,tk,os⟩:=s;obtain⟨i,f,h⟩:=h;have p:=sub_zip;have j:Heap.IsTuple (Shared.heap ⟨hp,g,d,tk,os⟩) b xs:=i;have l:Heap.IsTuple (Shared.heap ⟨hp.push {cls:=.type "tuple_iterator",data:=.fields #[.ref b,.int 0 0]},g,d,tk,os⟩) e ys:=Heap.IsTuple.push f _
  wp_walk using wpAny_pyIter_tuple j,wpAny_pyIter_tuple l
  refine⟨_,rfl,?_⟩;dsimp only at h ⊢;have a:∀(h:Heap)(o:Obj),(h.push o).objs.size=h.objs.size+1:=fun h o=>Heap.size_push ..;simp only[a,Nat.add_assoc,Nat.reduceAdd];refine h _ ?_ ?_ ?_ ?_ ?_ fun c o x=>Ad _ (Ad _ (Ad _ (Ad _ (Ad _ x))))
  ·exact Heap.get?_push_at (by simp only[a]) rfl
  ·exact Ad _ (Ad _ (Heap.get?_push_at (by simp only[a]) rfl))
  ·exact Ad _ (Heap.get?_push_at (by simp only[a]) rfl)
  ·exact⟨_,Ad _ (Ad _ (Ad _ (Ad _ (Al _ rfl)))),rfl,rfl⟩
  ·exact⟨_,Ad _ (Ad _ (Ad _ (Heap.get?_push_at (by simp only[a]) rfl))),rfl,rfl⟩
section
variable{X:Cx}{bE:List Expr}{k:Nat}{dS:Pos}
def B6(K:Ae)(ta:TA):TI:=fun σ H R=>ta σ H fun vs H1=>∃a b,vs=[.ref a,.ref b]/\(∃xs,SqT K H1 a xs)/\(∃ys,SqT K H1 b ys)/\R (BY K a b) H1
def J3{a b:Expr}{ta:TA}{p pos:Pos}(J:Gl X "zip")(hm:X.mg "zip"=none)(L:AU "zip"=some (.type "zip"))(ha:PA X [a,b] ta)(M:starEach [a,b] X.env=[(false,eval a X.env),(false,eval b X.env)]:=by rfl)(j:starEach [b] X.env=[(false,eval b X.env)]:=by rfl):PI X (.Tuple bE k dS) (.Call (.Name "zip" p) [a,b] [] pos) (B6 X.K ta):=by
 intro aa s σ H R I h;refine Call_ (j0 I J hm L (PZ (aW (ha pos aa s σ H _ I h) fun us c ⟨vs,H1,I1,l,d⟩=>?_) (by rw[M,j]) (by rw[j];rfl)));obtain⟨g,i,e,⟨xs,d⟩,⟨ys,y⟩,q⟩:=d;subst e;obtain⟨u,O,rfl,A,C⟩:=vals2 l;cases A;cases C;obtain⟨D,_,E,_⟩:=I1.tuple d;obtain⟨G,_,p2,_⟩:=I1.tuple y;refine callType_new F.called_zip ξ (F.typeCall_zip_2 _ _) (F.newCall_zip_2 _ _) (fun obj=>F.args_object_init_3 obj _ _) F.entry_zip_new (J2 g i D.toArray G.toArray) ⟨E,p2,fun h' f o r v w x=>?_⟩;refine⟨⟨_,f,rfl⟩,wpAny_pyIter_zip f ?_⟩;have N:Inv X aa σ H1 {c with heap:=h'}:=I1.kept (t':=c.toks) x;refine⟨c⁻¹+4,[c⁻¹+4,c⁻¹+2,c⁻¹+3,c⁻¹,c⁻¹+1],_,_,H1,rfl,N,J1 g i _ _ _ _ _ (by refine⟨?_,?_,?_,?_,?_,?_,?_,?_,?_,?_⟩<;>(intro z;have P:(_:Nat)=_:=z;omega)),⟨f,o,⟨_,_,r⟩,v,w⟩,fun b hb=>?_,q⟩;have hb':c⁻¹<=b:=by
  simp only[OT,P5,or_false] at hb;rcases hb with rfl|rfl|rfl|rfl|rfl
  ·exact Qy _ _
  ·exact Qy _ _
  ·exact Qy _ _
  ·exact Ag _
  ·exact Qy _ _
 exact I1.fpOk hb' (I1.hok.fresh hb')
end
def kl(K:Ae)(a:Addr):It:=
 ⟨fun i H=>∃xs,SqL K H a xs/\i<xs.length,
  fun i H v H'=>∃p x,v=.ref p/\H p=none/\H'=upd H p (.tup [.int i,x])/\∀xs,SqL K H a xs->xs[i]?=some x,
  fun i H=>∃xs,SqL K H a xs/\i=xs.length⟩
def J4{P:Program}{w:World}{K:Ae}{bE:List Expr}{k:Nat}{pos:Pos}(a e it:Addr)(hd:e≠it):Turn P w K (.Tuple bE k pos) (kl K a) [e,it] e (fun i h=>(∃d,IsEnum h e it i d)/\h.IsListIter it a i):=by
 refine Fc (wr:=[e,it]) (by simp) (fun i h st b hb=>?_) (fun i h h' st F=>?_) (fun b hb=>hb) (fun X M hw N hc i aa s σ H I hf st O=>?_) fun A i s Q E st h=>?_
 ·obtain⟨⟨d,c⟩,⟨o4,l,_,S⟩⟩:=st
  simp at hb;rcases hb with rfl|rfl
  ·exact⟨_,c,fun v z=>by cases z⟩
  ·exact⟨_,l,fun v z=>by rw[S] at z;cases z⟩
 ·obtain⟨⟨d,c⟩,l⟩:=st
  exact⟨⟨d,F e (by simp) _ c⟩,l.at fun o q=>F it (by simp) o q⟩
 ·subst M hw N
  have D:∃xs,SqL X.K H a xs:=by
   rcases O with ⟨xs,q,_⟩|⟨xs,q,_⟩
   ·exact⟨xs,q⟩
   ·exact⟨xs,q⟩
  obtain⟨xs,r⟩:=D;obtain⟨us,G,T,_⟩:=I.list r;have J:=G.length;have Y:=I.ok.hd hc;obtain⟨c,l⟩:=st;have f:=fun b hb=>J0 I (hf b hb) r;have WZ:=WalksT.enumerateD (prog:=X.prog) (w:=X.w) (A:=X.A) (Draws.list (A:=X.A.in1) Y it a (f it (by simp)) us.toArray) e hd (by simp;exact⟨hd,(f e (by simp)).symm⟩) (by simp);refine⟨_,_,_,_,_,WZ,⟨c,l,T.isList⟩,fun j h st=>⟨st.1,st.2.1⟩,fun g=>?_,fun g=>?_⟩
  ·obtain⟨y,C,hi⟩:=g
   have e1:=I.list_inj C r;subst e1;refine⟨by simpa[<-J] using hi,fun bd hp=>?_⟩;obtain⟨t,x,U,rfl⟩:=hp;have mR:us[i]?=some x:=by simpa using U
   have L:y[i]?=some y[i]:=by simp[hi]
   obtain⟨u,e3,W⟩:=G.get L;rw[mR] at e3;cases e3;refine⟨[.int i,y[i]],.cons ⟨_,rfl⟩ (.cons W .nil),eA,fun p hp=>⟨p,_,rfl,hp,rfl,fun zs hz=>?_⟩⟩;rw[I.list_inj hz r];exact L
  ·obtain⟨y,C,hi⟩:=g
   have e1:=I.list_inj C r;subst e1
   simpa[<-J] using hi
 ·obtain⟨⟨d,c⟩,_⟩:=st
  exact wpAny_pyIter_enum c h
section
variable{X:Cx}{bE:List Expr}{k:Nat}{dS:Pos}
def J5(K:Ae)(ta:TA):TI:=fun σ H R=>ta σ H fun vs H1=>∃a,vs=[.ref a]/\(∃xs,SqL K H1 a xs)/\R (kl K a) H1
def oP{a:Expr}{ta:TA}{p pos:Pos}(v:Gl X "enumerate")(hm:X.mg "enumerate"=none)(w:AU "enumerate"=some (.type "enumerate"))(ha:PA X [a] ta)(x:starEach [a] X.env=[(false,eval a X.env)]:=by rfl):PI X (.Tuple bE k dS) (.Call (.Name "enumerate" p) [a] [] pos) (J5 X.K ta):=by
 intro aa s σ H R I h;refine Call_ (j0 I v hm w (PZ (aW (ha pos aa s σ H _ I h) fun us c ⟨vs,H1,I1,g,d⟩=>?_) x rfl));obtain⟨l,e,⟨xs,d⟩,q⟩:=d;subst e;obtain⟨u,rfl,o⟩:=vals1 g;cases o;obtain⟨C,_,r,_⟩:=I1.list d;refine call_enumerate_list r.isList fun h' f i A j=>?_;refine wpAny_pyIter_enum f ?_;have y:Inv X aa σ H1 {c with heap:=h'}:=I1.kept (t':=c.toks) j;refine⟨c⁻¹+1,[c⁻¹+1,c⁻¹],_,_,H1,rfl,y,J4 l _ _ (by intro z;have D:(_:Nat)=_:=z;omega),⟨⟨_,f⟩,i⟩,fun b hb=>?_,q⟩;have hb':c⁻¹<=b:=by
  simp only[OT,P5,or_false] at hb;rcases hb with rfl|rfl
  ·exact Qy _ _
  ·exact Ag _
 exact I1.fpOk hb' (I1.hok.fresh hb')
def B7{K:Ae}{a:Addr}{xs:List V}{g:TG}{tb:TS}{D:Ends}{σ:St}{H:Hp}(b:Nat->St->Hp->Prop)(r:b 0 σ H)(u:∀i σ H,i<=xs.length->b i σ H->SqL K H a xs)(v:∀i x p σ H,xs[i]?=some x->b i σ H->H p=none->g (.ref p) σ (upd H p (.tup [.int i,x])) fun d H2=>tb {D with nx:=b (i+1),ct:=b (i+1),bk:=D.nx} d H2)(hd:∀σ H,b xs.length σ H->D.nx σ H):∃W:Nat->Nat->St->Hp->Prop,(∃m,W 0 m σ H)/\∀i m σ H,W i m σ H->
   ((kl K a).stop i H/\D.nx σ H)\/((kl K a).go i H/\∃N:St->Hp->Prop,(∀f H',N f H'->∃h,h<m/\W (i+1) h f H')/\∀x H',(kl K a).yld i H x H'->g x σ H' fun d H2=>tb {D with nx:=N,ct:=N,bk:=D.nx} d H2):=by
 refine⟨fun i m σ H=>m=xs.length-i/\i<=xs.length/\b i σ H,⟨xs.length,by simp,A1 _,r⟩,?_⟩;rintro i m σ H ⟨rfl,hi,p⟩;have q:=u i σ H hi p
 by_cases c:i<xs.length
 ·refine .inr ⟨⟨xs,q,c⟩,b (i+1),fun f H' j=>⟨xs.length-(i+1),ω,rfl,c,j⟩,fun x H' y=>?_⟩
  obtain⟨l,o,rfl,hp,rfl,y⟩:=y;exact v i o l σ _ (y xs q) p hp
 ·have e:i=xs.length:=ω
  subst e;exact .inl ⟨⟨xs,q,rfl⟩,hd σ H p⟩
def eB:∀{bs:List Bool}{us:List Value},Vals (bs.map V.bl) us->LSm.BoolsAre us bs
 |[],_,.nil=>.nil
 |b::bs,_,.cons r t=>by cases r;exact .cons b (eB t)
def mD(hc:X.calm=true):da X (.builtin "all") (fun xs H Q=>∃(l:Addr)(bs:List Bool),xs=[.ref l]/\SqL X.K H l (bs.map V.bl)/\Q (.bl (bs.all id)) H):=by
 intro aa s σ H xs us Q I r h;obtain⟨l,bs,rfl,hq,q⟩:=h;obtain⟨u,rfl,g⟩:=vals1 r;cases g;obtain⟨ad,j,o,_⟩:=I.list hq;have p:=I.ok.hd hc;have a:=o.isList;have hb:=eB j;have c:l<s⁻¹:=by obtain⟨_,e,_⟩:=a;exact Ar e
 refine call_all_walk (wpAny_pyIter_list a ?_);refine⟨s⁻¹,[s⁻¹,l],[s⁻¹],ad.toArray.size,_,_,fun i=>(bs[i]?).getD true,rfl,Walks.list (A:=X.A.in1) p _ l (Au c) ad.toArray,
  ⟨⟨_,Al _ rfl,rfl,rfl⟩,a.push _⟩,fun i v s' w x f d=>?_,fun h' tk hk=>?_⟩
 ·obtain⟨b,e,rfl⟩:=hb.get i v (by simpa using f)
  simp only[e,Qx] at d;exact wpAny_truthy_bool d
 ·have e:((AJ ad.toArray.size).all fun i=>(bs[i]?).getD true)=bs.all id:=by
   rw[Am,hb.length];exact LSm.range_all bs
  rw[e];exact⟨.bl _,H,I.kept (LSm.kept_iter hk),rfl,q⟩
end
section
variable{K:Ae}{a:Addr}{xs:List V}{g:TG}{tc:TT}{te:TE}{σ:St}{H1:Hp}{Q:VK}{D:Addr}
def B8(n:Nat)(a:Nat->St->List V->Hp->Prop)(i m:Nat)(σ:St)(H:Hp):Prop:=m=n-i/\i<=n/\∃ys,ys.length<=i/\a i σ ys H
def dN(n:Nat)(d:Nat->St->List V->Hp->Prop)(D:Addr)(i:Nat)(c:St):VK:=fun y b=>∃ys a,b D=some (.lst ys)/\ys.length<sizeLine/\a<n-i/\B8 n d (i+1) a c (upd b D (.lst (ys++[y])))
def dm(n:Nat)(c:Nat->St->List V->Hp->Prop)(i:Nat)(b:St)(d:Hp):Prop:=∃a,a<n-i/\B8 n c (i+1) a b d
def bi{n:Nat}{c:Nat->St->List V->Hp->Prop}{i:Nat}{b:St}{ys:List V}{y:V}{a:Hp}(d:n<=sizeLine)(hi:i<n)(f:ys.length<=i)(e:a D=some (.lst ys))(p:c (i+1) b (ys++[y]) (upd a D (.lst (ys++[y])))):dN n c D i b y a:=
 ⟨ys,n-(i+1),e,ω,ω,rfl,hi,ys++[y],by simp;omega,p⟩
def dH{n:Nat}{b:Nat->St->List V->Hp->Prop}{i:Nat}{a:St}{ys:List V}{c:Hp}(hi:i<n)(d:ys.length<=i)(p:b (i+1) a ys c):dm n b i a c:=
 ⟨n-(i+1),ω,rfl,hi,ys,ω,p⟩
def iA{J:It}(n:Nat)(a:Nat->St->List V->Hp->Prop)(l:a 0 σ [] (upd H1 D (.lst [])))(o:∀σ ys H,a n σ ys H->J.stop n H)(q:∀i σ ys H,i<n->a i σ ys H->J.go i H)(r:∀i σ ys H x H',i<n->ys.length<=i->a i σ ys H->J.yld i H x H'->g x σ H' fun d u=>tc d u fun b h=>if b=true then te d h (dN n a D i d) else dm n a i d h)(hd:∀σ ys H,a n σ ys H->Q (.ref D) H):cG J g tc te σ H1 D Q:=by
 refine⟨B8 n a,⟨n,by simp,A1 _,[],Ag _,l⟩,?_⟩;rintro i m f H2 ⟨rfl,hi,ys,j,p⟩
 by_cases c:i<n
 ·exact .inr ⟨q i f ys H2 c p,fun x H3 y=>r i f ys H2 x H3 c j p y⟩
 ·have e:i=n:=ω
  subst e;exact .inl ⟨o f ys H2 p,hd f ys H2 p⟩
def zN(c:Nat->St->List V->Hp->Prop)(j:c 0 σ [] (upd H1 D (.lst [])))(f:∀i σ ys H,c i σ ys H->SqL K H a xs)(l:∀i σ ys H x,xs[i]?=some x->i<xs.length->ys.length<=i->c i σ ys H->g x σ H fun d o=>tc d o fun b h=>if b=true then te d h (dN xs.length c D i d) else dm xs.length c i d h)(hd:∀σ ys H,c xs.length σ ys H->Q (.ref D) H):cG (dI K a) g tc te σ H1 D Q:=by
 refine iA xs.length c j (fun σ ys H p=>⟨xs,f _ _ _ _ p,Ag _⟩) (fun i σ ys H hi p=>⟨xs,xs[i],f _ _ _ _ p,by simp[hi]⟩) (fun i σ ys H x H' hi hy p y=>?_) hd;obtain⟨e,y⟩:=y;subst e;exact l i σ ys _ x (y xs (f _ _ _ _ p)) hi hy p
def J6(c:Nat->St->List V->Hp->Prop)(j:c 0 σ [] (upd H1 D (.lst [])))(f:∀i σ ys H,c i σ ys H->SqT K H a xs)(l:∀i σ ys H x,xs[i]?=some x->i<xs.length->ys.length<=i->c i σ ys H->g x σ H fun d o=>tc d o fun b h=>if b=true then te d h (dN xs.length c D i d) else dm xs.length c i d h)(hd:∀σ ys H,c xs.length σ ys H->Q (.ref D) H):cG (j9 K a) g tc te σ H1 D Q:=by
 refine iA xs.length c j (fun σ ys H p=>⟨xs,f _ _ _ _ p,Ag _⟩) (fun i σ ys H hi p=>⟨xs,xs[i],f _ _ _ _ p,by simp[hi]⟩) (fun i σ ys H x H' hi hy p y=>?_) hd;obtain⟨e,y⟩:=y;subst e;exact l i σ ys _ x (y xs (f _ _ _ _ p)) hi hy p
def B9{lo:Int}{n:Nat}(a:Nat->St->List V->Hp->Prop)(f:a 0 σ [] (upd H1 D (.lst [])))(h:∀i σ ys H,i<n->ys.length<=i->a i σ ys H->g (.int (lo+i)) σ H fun c j=>tc c j fun b d=>if b=true then te c d (dN n a D i c) else dm n a i c d)(hd:∀σ ys H,a n σ ys H->Q (.ref D) H):cG (hB lo n) g tc te σ H1 D Q:=by
 refine iA n a f (fun σ ys H p=>Ag _) (fun i σ ys H hi p=>hi) (fun i σ ys H x H' hi hy p y=>?_) hd;obtain⟨e,y⟩:=y;subst e y;exact h i σ ys _ hi hy p
def J7{e f:Addr}{ys:List V}(a:Nat->St->List V->Hp->Prop)(r:a 0 σ [] (upd H1 D (.lst [])))(c:∀i σ zs H,a i σ zs H->SqT K H e xs/\SqT K H f ys)(u:∀i σ zs H p x y,xs[i]?=some x->ys[i]?=some y->i<min xs.length ys.length->zs.length<=i->a i σ zs H->H p=none->g (.ref p) σ (upd H p (.tup [x,y])) fun d w=>tc d w fun b h=>if b=true then te d h (dN (min xs.length ys.length) a D i d) else dm (min xs.length ys.length) a i d h)(hd:∀σ zs H,a (min xs.length ys.length) σ zs H->Q (.ref D) H):cG (BY K e f) g tc te σ H1 D Q:=by
 refine iA (min xs.length ys.length) a r (fun σ zs H p=>⟨xs,ys,(c _ _ _ _ p).1,(c _ _ _ _ p).2,rfl⟩) (fun i σ zs H hi p=>⟨xs,ys,(c _ _ _ _ p).1,(c _ _ _ _ p).2,hi⟩) (fun i σ zs H v H' hi hy p y=>?_) hd;obtain⟨j,x,l,rfl,hp,rfl,o,q⟩:=y;exact u i σ zs H j x l (o xs (c _ _ _ _ p).1) (q ys (c _ _ _ _ p).2) hi hy p hp
end
end L2
end
section
namespace Dk
open PySem PySem.Spec PyProof.Rows
def IsD(h:Heap)(d:Addr)(es:Array DictEntry)(ep:Nat):Prop:=∃o,h.get? d=some o/\o.ExactDict/\o.data=.dict es ep
def IsD.at{h h':Heap}{d:Addr}{es:Array DictEntry}{ep:Nat}(x:IsD h d es ep)(k:∀o,h.get? d=some o->h'.get? d=some o):IsD h' d es ep:=let ⟨o,ho,r⟩:=x;⟨o,k o ho,r⟩
def IsD.lt{h:Heap}{d:Addr}{es:Array DictEntry}{ep:Nat}(x:IsD h d es ep):d<h.objs.size:=let ⟨_,ho,_⟩:=x;Ar ho
section
variable{prog:Program}{w:World}{A:Around}{E:Ω}{s:Shared}{it d:Addr}{i ep:Nat}{es:Array DictEntry}
def IsD.typeIs(x:IsD s.heap d es ep):s.TypeIs (.ref d) "dict":=let ⟨o,ho,r⟩:=x;⟨o,ho,r.1.1⟩
def iter{Q:Ω}(hd:(d==A3)=false)(hm:IsD s.heap d es ep)(c:Q (.ref s⁻¹) {s with heap:=s.heap.push {cls:=.type "dict_keyiterator",data:=.fields #[.ref d,.int 0 0,.int es.size 0,.int ep 0]}}):wpAny (model prog w) A (pyIter (.ref d)) Q E s:=by
 have hT:=hm.typeIs;obtain⟨o,a,hc,b⟩:=id hm;refine wpAny_pyIter_slot hT PySem.F.slot_dict_iter (AG PySem.F.slot_dict_iter hT PySem.F.entry_dict_iter ?_ (PySem.F.args_dict_iter_1 _));unfold Builtin.«dict.__iter__»;refine Aa ?_;unfold Builtin.Dict.dictSlotNone;refine Aa (wpAny_notOrdered_dict hT ?_);show wpAny _ _ (pure (Value.ref d)) _ _ s;refine Ac ?_;show wpAny _ _ (Builtin.Dict.showsAll d >>= _) _ _ s;unfold Builtin.Dict.showsAll;rw[RK (by rw[hd];exact An)];refine Aa (Ac ?_);refine Aa (AB a b ?_);refine Aa (Bc a b ?_);refine Aa (AF (Ac ⟨_,rfl,"dict_keyiterator",_,⟨_,Al _ rfl,rfl⟩,PySem.F.slot_dict_keyiterator_next.lookup,?_⟩))
 simpa[rawInt] using c
def item{Q:Option Value->Shared->Prop}(a:s.heap.IsKeyIter it d i es.size ep)(hm:IsD s.heap d es ep)(hx:i<es.size)(g:∀h',h'.IsKeyIter it d (i+1) es.size ep->Heap.SameBut it s.heap h'->Q (some es[i].key) {s with heap:=h'}):wpAny (model prog w) A (pyNext (.ref it)) Q E s:=by
 obtain⟨o,b,hc,hd⟩:=id a;obtain⟨h,c,j,hdd⟩:=id hm;unfold pyNext;refine Aa (wpAny_attempt (AL (name:=Bb "__next__") a.typeIs Pv
  (AG Pv a.typeIs QJ ?_ (QB _))))
 refine Aa (Ac ?_);refine Aa ?_;refine Aa ?_
 first|refine Aa (wpAny_typeNameOfWhole_keyiter a.typeIs (Ac ?_))|refine Aa (wpAny_typeNameOf_keyiter a.typeIs (Ac ?_))
 refine Aa (wpAny_fieldsOf b hd ?_);have f:Builtin.Dict_items.ownsTuple "dict_keyiterator"=false:=ξ
 simp only[f,Az,if_false];show wpAny _ _ (if(Value.ref d==Value.none)=true then _ else _) _ _ s;rw[RK (show ¬((Value.ref d==Value.none)=true) from An)];refine Aa (Ac ?_);refine Aa (AB c hdd ?_);rw[RK (by simp)];refine Aa (Ac ?_);refine Aa (Bc c hdd ?_);rw[RK (by simp)];refine Ac ?_;simp only[show ¬((i:Int)<0) from ω,if_false,Pa,Pj hx];refine Aa ?_
 first|refine Aa (wpAny_typeNameOfWhole_keyiter a.typeIs (Ac ?_))|refine Aa (wpAny_typeNameOf_keyiter a.typeIs (Ac ?_))
 refine Aa (wpAny_isOneOf_keyiter a.typeIs ?_);show wpAny _ _ (setField (.ref it) 1 (rawInt ((i:Int)+1)) >>= _) _ _ s;refine Aa (wpAny_setField b hd (by simp) ?_);have e:(s.heap.update it (Obj.mapFields (·.setIfInBounds 1 (rawInt ((i:Int)+1))))).IsKeyIter it d (i+1) es.size ep:=
  ⟨_,Heap.get?_update_self _ b (Obj.isFreed_of_fields (Obj.data_mapFields hd _)),(Obj.cls_mapFields ..).trans hc,by rw[Obj.data_mapFields hd];simp[rawInt]⟩
 refine Aa (AI ?_);refine Aa (wpAny_isOneOf_keyiter (s:={s with heap:=s.heap.update it (Obj.mapFields (·.setIfInBounds 1 (rawInt ((i:Int)+1))))}) e.typeIs ?_);show wpAny _ _ (pure es[i].key) _ _ _;exact Ac (Ac ⟨_,rfl,Ac (g _ e (AH ..))⟩)
def done{Q:Option Value->Shared->Prop}(h:A.handled=none)(c:s.heap.IsKeyIter it d es.size es.size ep)(hm:IsD s.heap d es ep)(i:∀h',Heap.ExtBut it s.heap h'->Q none {s with heap:=h'}):wpAny (model prog w) A (pyNext (.ref it)) Q E s:=by
 obtain⟨o,e,hc,hd⟩:=id c;obtain⟨j,f,l,hdd⟩:=id hm;unfold pyNext;refine Aa (wpAny_attempt (AL (name:=Bb "__next__") c.typeIs Pv
  (AG Pv c.typeIs QJ ?_ (QB _))))
 refine Aa (Ac ?_);refine Aa ?_;refine Aa ?_
 first|refine Aa (wpAny_typeNameOfWhole_keyiter c.typeIs (Ac ?_))|refine Aa (wpAny_typeNameOf_keyiter c.typeIs (Ac ?_))
 refine Aa (wpAny_fieldsOf e hd ?_);have g:Builtin.Dict_items.ownsTuple "dict_keyiterator"=false:=ξ
 simp only[g,Az,if_false];show wpAny _ _ (if(Value.ref d==Value.none)=true then _ else _) _ _ s;rw[RK (show ¬((Value.ref d==Value.none)=true) from An)];refine Aa (Ac ?_);refine Aa (AB f hdd ?_);rw[RK (by simp)];refine Aa (Ac ?_);refine Aa (Bc f hdd ?_);rw[RK (by simp)];refine Ac ?_;simp only[show ¬((es.size:Int)<0) from ω,if_false,Pa,QX (Ag es.size)];refine Aa ?_
 first|refine Aa (wpAny_typeNameOfWhole_keyiter c.typeIs (Ac ?_))|refine Aa (wpAny_typeNameOf_keyiter c.typeIs (Ac ?_))
 show wpAny _ _ (setField (.ref it) 0 .none >>= _) _ _ s;refine Aa (wpAny_setField e hd (by simp) ?_);show wpAny _ _ (newExc (.type "StopIteration") [] >>= _) _ _ _;refine Aa ?_;simp only[newExc,newTuple];refine Aa (AF ?_ (by size_fits));refine Aa (m:=firstArgMember _ _) (wpAny_of_eq (a:=Value.none) (by first|rfl|(simp only[firstArgMember];rfl)) ?_);refine AF ?_ (by size_fits);simp only[raiseNew];refine Aa (wpAny_handled ?_);rw[show A.in1.handled=none from h];refine Aa (Ac (wpAny_throw ?_));refine Aa (wpAny_isInstance (T:="StopIteration") (b:=true) ⟨_,Al _ rfl,rfl⟩ isSubtype_stop ?_);exact Ac (i _ (((AH ..).extBut.push _).push _))
def walks(j:A.handled=none)(I d:Addr)(c:d≠I)(es:Array DictEntry)(ep:Nat):Walks prog w A I [I,d] [I] es.size (fun i v=>∃e,es[i]?=some e/\v=e.key) (fun i h=>h.IsKeyIter I d i es.size ep/\IsD h d es ep) where
 sub:=fun b hb=>by simp at hb ⊢;exact .inl hb
 frame:=fun i h h' st k=>⟨let ⟨o,ho,r⟩:=st.1;⟨o,k I (by simp) o ho,r⟩,st.2.at fun o e=>k d (by simp) o e⟩
 item:=fun i s Q E hi st a=>item st.1 st.2 hi fun h' f sb=>a _ h' s.toks ⟨es[i],by simp[hi],rfl⟩ ⟨f,st.2.at fun o e=>(sb.2 d c).trans e⟩ fun b o hb e=>(sb.2 b (fun z=>hb (by simp[z]))).trans e
 done:=fun s Q E st a=>done j st.1 st.2 fun h' g=>a h' s.toks fun b o hb e=>g b o (fun z=>hb (by simp[z])) e
 self:=fun i s Q E st a=>wpAny_pyIter_keyiter st.1 a
def src(lo:(d==A3)=false):PySem.W.KdlSrc prog w "dict" d d es.size (fun i v=>∃e,es[i]?=some e/\v=e.key) (fun h=>IsD h d es ep) where
 type:=fun _ hm=>hm.typeIs
 there:=fun _ hm=>⟨hm.lt,hm.lt⟩
 keep:=fun _ _ hm hk=>hm.at fun o e=>hk d (.inl rfl) o e
 notList:=ξ
 notTuple:=ξ
 hint:=fun _ _ _ _ hm hq=>PySem.W.kdl_hint_dict hm.typeIs hq
 iter:=fun _ s a hm=>⟨_,_,(fun _ _ hq=>iter lo hm hq),walks a _ d (Au hm.lt) es ep,⟨⟨_,Al _ rfl,rfl,rfl⟩,hm.at fun o e=>Ad _ e⟩⟩
end
end Dk
namespace L2
open PySem PySem.Spec PyProof.Rows
section
variable{X:Cx}
def Fd{P:Program}{w:World}{k:Key}{u:Value}(h:(zw P w).is k u=true):RelV (kV k) u:=by
 rcases aT h with ⟨i,t,rfl,rfl⟩|⟨x,t,rfl,rfl⟩
 ·exact⟨t,rfl⟩
 ·exact⟨t,rfl⟩
def J8(hc:X.calm=true):da X (.type "list") (fun xs H Q=>∃a kvs,xs=[.ref a]/\H a=some (.dT kvs)/\
  ∀(bs:List Addr),Paired (fun(p:List Key×V) b=>H b=some (.tup (p.1.map kV))) kvs bs->∀l,H l=none->Q (.ref l) (upd H l (.lst (bs.map V.ref)))):=by
 intro aa s σ H xs us Q I r h;obtain⟨a,kvs,rfl,hq,q⟩:=h;obtain⟨u,rfl,j⟩:=vals1 r;cases j;obtain⟨z,y,ys,c,o,es,ep,h1,h2,v,d,D⟩:=(show zF X.prog X.w H s.heap a (.dT kvs) from I.hok a _ hq);have f:es.size=kvs.length:=by
  have:=congrArg List.length d;rw[Ab,<-AN c] at this
  simpa using this
 refine Rx (Dk.src (ep:=ep) (es:=es) y) (I.ok.hd hc) ⟨o,h1,h2,v⟩ (by rw[f];exact z) fun h' tk acc c' g e it=>?_;obtain⟨n1,n2⟩:=it;have x:Paired (fun(p:List Key×V) b=>H b=some (.tup (p.1.map kV))) kvs (ys.map (·.2.1)):=by
  have:∀{l:List (List Key×V)}{m:List (List Key×Addr×Value)},KT H l m->Paired (fun(p:List Key×V) b=>H b=some (.tup (p.1.map kV))) l (m.map (·.2.1)):=by
   intro l m q
   induction q with
   |nil=>exact .nil
   |cons hq t ih=>exact .cons hq.2.1 ih
  exact this c
 have A:acc.toList=(ys.map (·.2.1)).map Value.ref:=by
  apply Rn;intro i;have hy:ys.length=acc.size:=by rw[n1,f];exact(AN c).symm
  by_cases hi:i<acc.size
  ·obtain⟨e',g1,g2⟩:=n2 i acc[i] (by simp[hi])
   have g3:es.toList[i]?=some e':=by simpa using g1
   rw[d,Af] at g3;have g4:ys[i]?=some ys[i]:=by simp[hy,hi]
   rw[g4] at g3;simp only[AS,AW] at g3;simp only[Af,g4,AS,Q5,Pj hi];rw[g2,<-g3]
   rfl
  ·have g1:acc.toList.length<=i:=by simp;omega
   have g2:((ys.map (·.2.1)).map Value.ref).length<=i:=by simp[hy];omega
   rw[Pn g1,Pn g2]
 have C:Vals ((ys.map (·.2.1)).map V.ref) acc.toList:=by
  rw[A];generalize ys.map (·.2.1)=bs
  induction bs with
  |nil=>exact .nil
  |cons b bs ih=>exact .cons rfl ih
 refine⟨.ref s⁻¹,_,I.laid g (Ag _) (show zF X.prog X.w _ h' _ (.lst ((ys.map (·.2.1)).map V.ref)) from⟨?_,acc.toList,c',C,by simpa using e⟩),rfl,q _ x _ (I.hok.fresh (Ag _))⟩;simp only[Ab];rw[<-AN c];exact z
def J9(hc:X.calm=true):da X (.type "list") (fun xs H Q=>∃a kvs,xs=[.ref a]/\H a=some (.dK kvs)/\∀l,H l=none->Q (.ref l) (upd H l (.lst (kvs.map fun kv=>kV kv.1)))):=by
 intro aa s σ H xs us Q I r h;obtain⟨a,kvs,rfl,hq,q⟩:=h;obtain⟨u,rfl,d⟩:=vals1 r;cases d;obtain⟨z,y,vs,b,dd⟩:=y1 I.hok hq;obtain⟨ep,dd⟩:=dd.dictAt;have f:=b.length;refine Rx (PySem.W.kdl_dict (knd:=zw X.prog X.w) (kvs:=vs) (ep:=ep) y) (I.ok.hd hc) dd (by rw[<-f];exact z) fun h' tk acc c' c e it=>?_;obtain⟨n1,n2⟩:=it;have g:Vals (kvs.map fun kv=>kV kv.1) acc.toList:=by
  have key:∀{l:List (Key×V)}{m:List (Key×Value)}{as:List Value},KV l m->as.length=m.length->(∀(i:Nat) v,as[i]?=some v->∃k x,m[i]?=some (k,x)/\(zw X.prog X.w).is k v=true)->Vals (l.map fun kv=>kV kv.1) as:=by
   intro l m as q
   induction q generalizing as with
   |nil=>intro h1 _;cases as with
    |nil=>exact .nil
    |cons _ _=>simp at h1
   |@cons p q' ps qs hq t ih=>
    intro h1 h2;cases as with
    |nil=>simp at h1
    |cons v as=>
     obtain⟨k,x,g1,g2⟩:=h2 0 v rfl;simp only[Qh,AW] at g1;refine .cons ?_ (ih (by simpa using h1) fun i v e=>by simpa using h2 (i+1) v (by simpa using e));have:p.1=k:=by rw[hq.1,g1]
     show RelV (kV p.1) v;rw[this];exact Fd g2
  exact key b (by simpa using n1) fun i v e=>n2 i v (by simpa using e)
 refine⟨.ref s⁻¹,_,I.laid c (Ag _) (show zF X.prog X.w _ h' _ (.lst (kvs.map fun kv=>kV kv.1)) from⟨?_,acc.toList,c',g,by simpa using e⟩),rfl,q _ (I.hok.fresh (Ag _))⟩
 simpa using z
end
end L2
end
section
namespace L2
open PySem PySem.Spec PyProof.Rows
def Tp(H:Hp)(a:Addr)(ps:List Int):Prop:=H a=some (.tup (ps.map V.int))
abbrev Tps(H:Hp)(as:List Addr)(ab:Ξ):Prop:=Paired (fun a ps=>Tp H a ps) as ab
def Same.tp{H H':Hp}{a:Addr}{ps:List Int}(e:Same H H')(h:Tp H a ps):Tp H' a ps:=e _ _ h
def Same.tps{H H':Hp}{as:List Addr}{ab:Ξ}(e:Same H H')(h:Tps H as ab):Tps H' as ab:=Paired.mapP h fun _ _ q=>e.tp q
def Same.new{H:Hp}{a:Addr}{o:HO}(h:H a=none):Same H (upd H a o):=fun b u e=>by rw[ae (zj e h)];exact e
def Same.then{H H1:Hp}{a:Addr}{o:HO}(e:Same H H1)(h:H a=none):Same H (upd H1 a o):=fun b u q=>by rw[ae (zj q h)];exact e b u q
def Tps.length{H:Hp}{as:List Addr}{ab:Ξ}(h:Tps H as ab):as.length=ab.length:=AN h
def Tps.get{H:Hp}:∀{as:List Addr}{ab:Ξ}{i:Nat}{a:Addr},Tps H as ab->as[i]?=some a->∃ps,ab[i]?=some ps/\Tp H a ps
 |_,_,_,_,.nil,e=>by simp at e
 |_,_,0,_,.cons r _,e=>by simp at e;subst e;exact⟨_,rfl,r⟩
 |_,_,i+1,a,.cons _ t,e=>by
  obtain⟨u,h1,h2⟩:=Tps.get (i:=i) (a:=a) t (by simpa using e);exact⟨u,by simpa using h1,h2⟩
def Tps.snoc{H:Hp}{as:List Addr}{ab:Ξ}{a:Addr}{ps:List Int}(h:Tps H as ab)(q:Tp H a ps):Tps H (as++[a]) (ab++[ps]):=by
 induction h with
 |nil=>exact .cons q .nil
 |cons r t ih=>exact .cons r ih
def Tps.append{H:Hp}{as bs:List Addr}{ab a:Ξ}(h:Tps H as ab)(q:Tps H bs a):Tps H (as++bs) (ab++a):=by
 induction h with
 |nil=>exact q
 |cons r t ih=>exact .cons r ih
def Tps.take{H:Hp}:∀{as:List Addr}{ab:Ξ}(n:Nat),Tps H as ab->Tps H (as.take n) (ab.take n)
 |_,_,0,_=>.nil
 |_,_,_+1,.nil=>.nil
 |_,_,n+1,.cons r t=>.cons r (Tps.take n t)
def Tps.drop{H:Hp}:∀{as:List Addr}{ab:Ξ}(n:Nat),Tps H as ab->Tps H (as.drop n) (ab.drop n)
 |_,_,0,r=>r
 |_,_,_+1,.nil=>.nil
 |_,_,n+1,.cons _ t=>Tps.drop n t
def aU:∀{as:List Addr}{us:List Value},Vals (as.map V.ref) us->us=as.map Value.ref
 |[],_,.nil=>rfl
 |a::as,_,.cons r t=>by cases r;rw[aU t];rfl
def B_{b:Type}(f:b->Addr):∀l:List b,Vals (l.map fun q=>V.ref (f q)) (l.map fun q=>Value.ref (f q))
 |[]=>.nil
 |a::l=>.cons rfl (B_ f l)
section
variable{X:Cx}
def Fe{prog:Program}{w:World}{h:Heap}{c:Addr}{cs:List Value}{a:List Int}(hc:IsTup h c cs.toArray)(hi:IntsAre cs a):IsTupleKey (zw prog w) h (a.map Sum.inl) c:=by
 obtain⟨o,e,b,k,d⟩:=hc;refine⟨o,cs.toArray,k,e,b,d,?_⟩;have:∀{cs:List Value}{a:List Int},IntsAre cs a->ItemsAre (zw prog w) (a.map Sum.inl) cs:=by
  intro cs a hi
  induction hi with
  |nil=>exact .nil
  |cons n t h ih=>exact .cons (v_ prog w n t) ih
 simpa using this hi
def eJ{ps a:List Int}:(ps.map Sum.inl:List Key)=a.map Sum.inl↔ps=a:=
 ⟨fun z=>(Qm (f:=(Sum.inl:Int->Key)) (fun x y h=>Sum.inl.inj h)).mp z,fun z=>by rw[z]⟩
def J_{aa:Ψ}{σ:St}{H:Hp}{s:Shared}{A:Around}{a b:Addr}{ps c:List Int}(I:Inv X aa σ H s)(ha:Tp H a ps)(hb:Tp H b c)(hu:A.units<cLine):SeqAt.EqAt A s (.ref a) (.ref b) (decide (ps=c)):=by
 intro prog w E Q h;obtain⟨ad,d,e,_⟩:=I.tuple (SqT.of ha);obtain⟨g,f,p2,_⟩:=I.tuple (SqT.of hb);refine wpAny_eqBool_tuple (knd:=zw prog w) hu (Fe e (intsAre_of d)) (Fe p2 (intsAre_of f)) ?_;rw[show decide ((ps.map Sum.inl:List Key)=c.map Sum.inl)=decide (ps=c) from by simp only[eJ]];exact h
def B':R2:=fun x y H Q=>∃a b xs ys,x=.ref a/\y=.ref b/\H a=some (.tup xs)/\H b=some (.tup ys)/\xs.length+ys.length<=sizeLine/\∀p H',Same H H'->H' p=some (.tup (xs++ys))->Q (.ref p) H'
def Ce:cg X (binaryOp .Add) B':=by
 intro aa s σ H x y v u Q I l p h;obtain⟨a,b,xs,ys,rfl,rfl,ha,hb,hz,q⟩:=h;cases l;cases p;obtain⟨ad,d,f,_⟩:=I.tuple (SqT.of ha);obtain⟨r,e,p2,_⟩:=I.tuple (SqT.of hb)
 by_cases hx:xs=[]
 ·subst hx
  have e1:=d.nil_iff.mpr rfl;subst e1;obtain⟨⟨cls,dd,data,w⟩,g,hc,n,hd⟩:=id f;obtain⟨⟨D,A,data2,C⟩,i,c,n2,j⟩:=id p2;simp only at hc hd c j;subst hc hd c j;exact concat_meets ⟨_,g,rfl⟩ ⟨_,i,rfl⟩ noFill_tuple_add seq_tuple_add QT QP (QH _ _)
   (tuple_addW0 a b (List.toArray []) r.toArray n n2 dd A w C (by simp)) ⟨g,i,.ref b,H,I,rfl,q b H (Same.refl H) (by simpa using hb)⟩
 ·refine HT.IS f p2 (fun z=>hx (d.nil_iff.mp z)) (fun z=>⟨.ref a,H,I,rfl,q a H (Same.refl H) ?_⟩) (fun z=>?_) (by rw[<-d.length,<-e.length];exact hz)
  ·rw[e.nil_iff.mp z,Ps];exact ha
  ·have hf:=I.hok.fresh (Ag s⁻¹)
   refine⟨.ref s⁻¹,_,I.laid (t':=s.toks) (o:=.tup (xs++ys)) (fun b ob q=>Ad _ q) (Ag _) ?_,rfl,q _ _ (Same.new hf) ac⟩;exact⟨by rw[Ap];exact hz,_,d.append e,IsTup.new _ _⟩
def gH(b:Bool)(K:Ae):R2:=fun x y H Q=>∃a l ps as ab,x=.ref a/\y=.ref l/\Tp H a ps/\SqL K H l (as.map V.ref)/\Tps H as ab/\Q (.bl (if b then !decide (ps∈ab) else decide (ps∈ab))) H
def jF(H:Hp)(ps:List Int)(u:Value):Bool:=match u with
 |.ref b=>(match H b with|some (.tup xs)=>decide (xs=ps.map V.int)|_=>false)
 |_=>false
def Ka{ps a:List Int}:(ps.map V.int:List V)=a.map V.int↔ps=a:=
 ⟨fun z=>(Qm (f:=V.int) (fun x y h=>V.int.inj h)).mp z,fun z=>by rw[z]⟩
def Cf{H:Hp}{b:Addr}{ps a:List Int}(h:Tp H b a):jF H ps (.ref b)=decide (a=ps):=by
 show(match H b with|some (.tup xs)=>decide (xs=ps.map V.int)|_=>false)=_;rw[show H b=some (.tup (a.map V.int)) from h];simp only[Ka]
def Kb{H:Hp}{ps:List Int}{as:List Addr}{ab:Ξ}(h:Tps H as ab):(as.map Value.ref).any (jF H ps)=decide (ps∈ab):=by
 induction h with
 |nil=>simp
 |@cons a qs as ab r t ih=>
  rw[Aq,QI,ih,Cf r]
  by_cases e:qs=ps
  ·subst e;simp
  ·have:¬ps=qs:=fun z=>e z.symm
   simp[e,this]
def Ff{aa:Ψ}{σ:St}{H:Hp}{s:Shared}{A:Around}{a:Addr}{ps:List Int}(I:Inv X aa σ H s)(ha:Tp H a ps)(hu:A.units<cLine):∀{as:List Addr}{ab:Ξ},Tps H as ab->∀u∈as.map Value.ref,SeqAt.EqAt A s u (.ref a) (jF H ps u):=by
 intro as ab h
 induction h with
 |nil=>intro u hu;simp at hu
 |@cons b qs as ab r t ih=>
  intro u hm;rw[Aq] at hm;rcases OT.mp hm with rfl|hm
  ·rw[Cf r];exact J_ I r ha hu
  ·exact ih u hm
def Fg(hu:X.A.in1.units<cLine):cg X (AZ .NotIn) (gH true X.K):=by
 intro aa s σ H x y v u Q I b c h;obtain⟨a,l,ps,as,ab,rfl,rfl,ha,d,hp,q⟩:=h;cases b;cases c;obtain⟨ad,r,e,hz⟩:=I.list d;obtain rfl:=aU r;refine SeqAt.notIn_listAt (jF H ps) e.isList (fun w hw=>Ff I ha hu hp w (by simpa using hw)) ⟨.bl _,H,I,rfl,?_⟩;rw[show(as.map Value.ref).toArray.any (jF H ps)=(as.map Value.ref).any (jF H ps) by simp,Kb hp];exact q
def Ck{aa:Ψ}{σ:St}{H:Hp}{s:Shared}{a:Addr}{ps:List Int}(I:Inv X aa σ H s)(ha:Tp H a ps):Reads s.heap (.ref a) (.tuple (ps.map AY)) []:=by
 obtain⟨ad,r,p,_⟩:=I.tuple (SqT.of ha);obtain⟨o,b,hc,n,hd⟩:=id p;exact .tuple b hc hd ((PySem.W.ke_carried (intsAre_of r)).reads s.heap)
def Kc{aa:Ψ}{σ:St}{H:Hp}{s:Shared}(I:Inv X aa σ H s):∀{as:List Addr}{ab:Ξ},Tps H as ab->ReadsAll s.heap (as.map Value.ref) (ab.map fun ps=>PyData.tuple (ps.map AY)) []:=by
 intro as ab h
 induction h with
 |nil=>exact .nil
 |cons r t ih=>exact .cons (as:=[]) (bs:=[]) (Ck I r) ih
def rB{aa:Ψ}{σ:St}{H:Hp}{s:Shared}{l:Addr}{as:List Addr}{ab:Ξ}(I:Inv X aa σ H s)(b:SqL X.K H l (as.map V.ref))(h:Tps H as ab):Reads s.heap (.ref l) (.list (ab.map fun ps=>PyData.tuple (ps.map AY))) [l]:=by
 obtain⟨ad,r,p,_⟩:=I.list b;obtain rfl:=aU r;obtain⟨o,a,hc,n,hd⟩:=p.isList;exact .list a hc hd (by simpa using Kc I h)
def Fh(ps:List Int):PyData.canLay0 (.tuple (ps.map AY))=true:=by simp[PyData.canLay0,PySem.W.ke_canLayAll0]
def Fi(ps:List Int):PyData.depth (.tuple (ps.map AY))=1:=by simp[PyData.depth,PySem.W.ke_depthAll]
def Fj(ps:List Int):SeqAt.shaped (.tuple (ps.map AY))=true:=by
 simp[SeqAt.shaped,Fh,Fi]
def Fl:∀ab:Ξ,PyData.canLayAll0 (ab.map fun ps=>PyData.tuple (ps.map AY))=true
 |[]=>rfl
 |ps::r=>by rw[Aq,PyData.canLayAll0,Fh,Fl r];rfl
def Fm:∀ab:Ξ,PyData.depthAll (ab.map fun ps=>PyData.tuple (ps.map AY))<=1
 |[]=>A1 _
 |ps::r=>by rw[Aq,PyData.depthAll,Fi];exact Nat.max_le.mpr ⟨Ag _,Fm r⟩
def Cn(ab:Ξ):SeqAt.shaped (.list (ab.map fun ps=>PyData.tuple (ps.map AY)))=true:=by
 have:=Fm ab;have e:PyData.depth (.list (ab.map fun ps=>PyData.tuple (ps.map AY)))<=64:=by rw[PyData.depth];omega
 unfold SeqAt.shaped;rw[RM e,PyData.canLay0,Fl]
 rfl
def Cq:∀ab c:Ξ,sameAll (ab.map fun ps=>PyData.tuple (ps.map AY)) (c.map fun ps=>PyData.tuple (ps.map AY))=decide (ab=c)
 |[],[]=>by simp[sameAll]
 |[],_::_=>by simp[sameAll]
 |_::_,[]=>by simp[sameAll]
 |a::r,b::t=>by
  simp only[Aq,sameAll,same,QN,Cq r t]
  by_cases h:a=b<;>by_cases h':r=t<;>simp[h,h']
def Fo(ps:List Int):(Shape.tuples .int).has (.tuple (ps.map AY))=true:=by simp[Shape.has]
def rE(ab:Ξ):(Shape.list (.tuples .int)).has (.list (ab.map fun ps=>PyData.tuple (ps.map AY)))=true:=by simp[Shape.has]
def kn(e:Bool)(K:Ae):R2:=fun x y H Q=>(∃a b ps c,x=.ref a/\y=.ref b/\Tp H a ps/\Tp H b c/\Q (.bl (if e then !decide (ps=c) else decide (ps=c))) H) \/
 (∃l m as bs ab d,x=.ref l/\y=.ref m/\SqL K H l (as.map V.ref)/\Tps H as ab/\SqL K H m (bs.map V.ref)/\Tps H bs d/\Q (.bl (if e then !decide (ab=d) else decide (ab=d))) H)
def Cu(hu:X.A.units+64<cLine):cg X (AZ .NotEq) (kn true X.K):=by
 intro aa s σ H x y v u Q I e f h;rcases h with ⟨a,b,ps,c,rfl,rfl,ha,hb,q⟩|⟨l,m,as,bs,ab,d,rfl,rfl,g,hp,hm,hq,q⟩
 ·cases e
  cases f;refine ne_dataH_same (Ck I ha) (Ck I hb) (Fj _) (Fj _) hu (SeqAt.noMix_of_shape (.tuples .int) rfl _ _ (Fo _) (Fo _)) ?_;rw[show same (.tuple (ps.map AY)) (.tuple (c.map AY))=decide (ps=c) from by simp only[same];exact QN ps c];exact⟨.bl _,H,I,rfl,q⟩
 ·cases e
  cases f;refine ne_dataH_same (rB I g hp) (rB I hm hq) (Cn _) (Cn _) hu (SeqAt.noMix_of_shape (.list (.tuples .int)) rfl _ _ (rE _) (rE _)) ?_;rw[show same (.list (ab.map fun ps=>PyData.tuple (ps.map AY))) (.list (d.map fun ps=>PyData.tuple (ps.map AY)))=decide (ab=d) from by simp only[same];exact Cq ab d];exact⟨.bl _,H,I,rfl,q⟩
def zmA:V->List V->Hp->VK->Prop:=fun x vs H Q=>∃l xs i y,x=.ref l/\vs=[.int i,y]/\H l=some (.lst xs)/\0<=i/\i<=xs.length/\xs.length<sizeLine/\Q .non (upd H l (.lst (xs.take i.toNat++y::xs.drop i.toNat)))
def Kd:lV X "list.insert" zmA:=by
 intro aa s σ H x vs v us Q I c d h;obtain⟨l,xs,i,y,rfl,rfl,a,j,hi,hz,q⟩:=h;cases c;obtain⟨u,b,rfl,f,g⟩:=d.two;obtain⟨t,rfl⟩:=f;obtain⟨z,ad,n,r,o,e⟩:=I.lstM a;have p:sizeLine<2 ^ 62:=by rw[sizeLine_eq];decide
 have hf:Builtin.List.listFitsIndex i=true:=by
  unfold Builtin.List.listFitsIndex;simp only[AK,decide_eq_true_eq];constructor<;>omega
 refine call_meets F.slot_list_insert ⟨_,e,rfl⟩ F.entry_list_insert (F.args_list_insert_3 _ _ _) (PySem.AutoSeq1.list_insert_list_int_val_1 l ad.toArray n i t b (by simp[hf]) (by rw[Am];omega)) ⟨e,?_⟩;refine⟨.non,_,I.lset (its':=ad.take i.toNat++b::ad.drop i.toNat) (t':=s.toks) a e ?_ ((r.take _).append (.cons g (r.drop _))) ?_,rfl,q⟩
 ·have hk:(if i<0 then(i+(ad.toArray.size:Int)).toNat else min i.toNat ad.toArray.size)=i.toNat:=by
   rw[RK ω,Am];omega
  dsimp only;rw[hk];simp;exact AA (by rw[Pg];exact Ag _)
 ·rw[Ap,Ay,AD,Pg]
  omega
def Ke:da X (.type "int") (fun xs H Q=>∃x n,xs=[.str x]/\PySem.intText? x=some n/\x.length<=640/\Q (.int n) H):=by
 intro aa s σ H xs us Q I r h;obtain⟨x,n,rfl,a,b,q⟩:=h;obtain⟨u,rfl,t,rfl⟩:=vals1 r;exact PySem.W.KIN.call_text a b ⟨.int n,H,I.tok _,⟨_,rfl⟩,q⟩
def Kf:da X (.builtin "isinstance") (fun xs H Q=>∃b,xs=[.bl b,.ty "bool"]/\Q (.bl true) H):=by
 intro aa s σ H xs us Q I r h;obtain⟨b,rfl,q⟩:=h;obtain⟨u,d,rfl,a,c⟩:=vals2 r;cases a;cases c;exact call_isinstance_yes (Tx:="bool") (T:="bool") rfl (by first|rfl|kernel_rfl|(rw[typeOf];kernel_rfl)) (by rw[isSubtype_type];kernel_rfl) ⟨.bl true,H,I,rfl,q⟩
end
end L2
end
section
namespace L2
open PySem PySem.Spec PyProof.Rows
section
variable{X:Cx}{aa:Ψ}{σ:St}{H:Hp}{s:Shared}
def Fq{A:Around}(h:A.units+64<cLine):A.in1.in1.units<cLine:=by show A.units+1+1<cLine;omega
def in1_units{A:Around}(h:A.units+64<cLine):A.in1.units<cLine:=by show A.units+1<cLine;omega
def Cv:da X (.builtin "sorted") (fun xs H Q=>∃(l:Addr)(ns:List Int),xs=[.ref l]/\SqL X.K H l (ns.map V.int)/\ns.length<64/\∀(D:Addr)(d:List Int),d.Perm ns->d.Pairwise (·<=·)->H D=none->Q (.ref D) (upd H D (.lst (d.map V.int)))):=by
 intro aa s σ H xs us Q I r h;obtain⟨l,ns,rfl,hq,C,q⟩:=h;obtain⟨u,rfl,o⟩:=vals1 r;cases o;obtain⟨ad,f,v,hz⟩:=I.list hq;have hi:IntsAre ad ns:=intsAre_of f;have a:=f.length;rw[Ab] at a hz;refine br.BC (ls:=ns.map fun n=>[n]) (good:=fun _=>True) v.isList (br.E5 hi) (fun _ _=>trivial) ω ω fun out b=>?_;obtain⟨ps,hp,b,x⟩:=b;have all:∀p∈ps,∃n t,p.1=[n]/\p.2=Value.int n t:=fun p j=>by
  obtain⟨i,e⟩:=OV.mp (hp.mem_iff.mp j);rw[br.cm,Af] at e;cases e1:ns[i]? with
  |none=>rw[e1] at e;simp at e
  |some n=>
   obtain⟨t,e2⟩:=hi.get i n e1;rw[e1,e2] at e;simp only[AS,Option.bind_some,AW] at e;subst e;exact⟨n,t,rfl,rfl⟩
 have y:∀ps:List (List Int×Value),(∀p∈ps,∃n t,p.1=[n]/\p.2=Value.int n t)->Vals ((ps.map fun p=>p.1.headD 0).map V.int) (ps.map (·.2)):=by
  intro ps
  induction ps with
  |nil=>intro _;exact .nil
  |cons p ps ih=>
   intro h;obtain⟨n,t,e1,e2⟩:=h p Av;refine .cons ?_ (ih fun q hq=>h q (As _ hq));show RelV (V.int (p.1.headD 0)) p.2;rw[e1,e2];exact⟨t,rfl⟩
 have g:(ps.map fun p=>p.1.headD 0).Perm ns:=by
  have h1:=hp.map (fun p:List Int×Value=>p.1.headD 0);have e:((ns.map fun n=>[n]).zip ad).map (fun p:List Int×Value=>p.1.headD 0)=ns:=by
   rw[show(fun p:List Int×Value=>p.1.headD 0)=(fun l:List Int=>l.headD 0) ∘ Prod.fst from rfl,<-Ak,Q9 (by rw[Ab];omega),Ak];exact QY ns
  rw[e] at h1;exact h1
 have A:(ps.map fun p=>p.1.headD 0).Pairwise (·<=·):=by
  rw[AX];refine x.imp_of_mem fun{p q} h1 h2 c=>?_;obtain⟨n,t,e1,_⟩:=all p h1;obtain⟨m,t',e2,_⟩:=all q h2;rw[e1,e2,HT.zJ] at c;rw[e1,e2];show n<=m
  by_cases e:m=n
  ·omega
  ·rw[RK e] at c
   have:=of_decide_eq_false c;omega
 obtain⟨e,he⟩:=sortedAll_at s.heap ad out;refine⟨.ref (s⁻¹+1),_,I.laid (t':=s.toks) (fun _ _=>sortedAll_old) (Qk _) (show zF X.prog X.w _ _ _ (.lst ((ps.map fun p=>p.1.headD 0).map V.int)) from⟨?_,out.toList,e,?_,?_⟩),rfl,q _ _ g A (I.hok.fresh (Qk _))⟩
 ·rw[Ab,g.length_eq];exact hz
 ·rw[b];exact y ps all
 ·simpa using he
def oR(H:Hp)(p:Addr)(l:List Int):Prop:=∃n b ps,l=n::ps/\H p=some (.tup [.int n,.ref b])/\Tp H b ps
def mG{p:Addr}{l:List Int}(I:Inv X aa σ H s)(h:oR H p l):br.IsPr s.heap (.ref p) l:=by
 obtain⟨n,b,ps,rfl,h1,h2⟩:=h;obtain⟨ad,a,c,_⟩:=I.tuple (SqT.of (K:=X.K) h1);obtain⟨u,g,rfl,⟨t,rfl⟩,d⟩:=vals2 a;cases d;obtain⟨e,f,p2,_⟩:=I.tuple (SqT.of (K:=X.K) h2);exact⟨p,b,n,t,e,ps,rfl,rfl,c,p2,intsAre_of f⟩
def Kg{h h':Heap}{u:Value}{l:List Int}(k:∀b o,h.get? b=some o->h'.get? b=some o)(x:br.IsPr h u l):br.IsPr h' u l:=by
 obtain⟨a,b,n,t,ad,ps,e1,e2,⟨o,d,hc⟩,⟨o',c,hc'⟩,i⟩:=x;exact⟨a,b,n,t,ad,ps,e1,e2,⟨o,k _ _ d,hc⟩,⟨o',k _ _ c,hc'⟩,i⟩
def oS{a b:Type}{R:a->b->Prop}{l:List a}{m:List b}(p:Paired R l m):∀(i:Nat) x y,l[i]?=some x->m[i]?=some y->R x y:=by
 induction p with
 |nil=>intro i x y h;simp at h
 |cons r t ih=>
  intro i x y h1 h2;cases i with
  |zero=>simp at h1 h2;subst h1 h2;exact r
  |succ i=>exact ih i x y (by simpa using h1) (by simpa using h2)
def addrOf:Value->Addr
 |.ref a=>a
 |_=>0
def Kh(hu:X.A.units+64<cLine):da X (.builtin "sorted") (fun xs H Q=>∃(l:Addr)(as:List Addr)(ls:Ξ),xs=[.ref l]/\SqL X.K H l (as.map V.ref)/\Paired (oR H) as ls/\ls.length<64/\
  ∀(D:Addr)(g:List (List Int×Addr)),g.Perm (ls.zip as)->g.Pairwise (fun a b=>HT.lexLt b.1 a.1=false)->H D=none->Q (.ref D) (upd H D (.lst (g.map fun q=>V.ref q.2)))):=by
 intro aa s σ H xs us Q I r h;obtain⟨l,as,ls,rfl,hq,hp,J,q⟩:=h;obtain⟨u,rfl,y⟩:=vals1 r;cases y;obtain⟨ad,j,C,hz⟩:=I.list hq;have c:=j.length;obtain rfl:=aU j;rw[Ab] at c hz;have F:=AN hp;have G:∀h:Heap,(∀b o,s.heap.get? b=some o->h.get? b=some o)->∀(i:Nat) u l,(as.map Value.ref)[i]?=some u->ls[i]?=some l->br.IsPr h u l:=fun h hk i u l h1 h2=>by
  rw[Af] at h1;cases e:as[i]? with
  |none=>rw[e] at h1;simp at h1
  |some a=>
   rw[e] at h1;obtain rfl:=Ah h1;exact Kg hk (mG I (oS hp i a l e h2))
 refine br.BC (ls:=ls) (good:=fun h=>∀b o,s.heap.get? b=some o->h.get? b=some o) C.isList (br.JN (by rw[Ab];exact F) (Fq hu) ⟨s.heap,fun _ _ e=>e⟩ G) (fun h' hk=>hk) (by rw[Ab];exact hz) (by rw[Ab];omega) fun out d=>?_;obtain⟨ps,v,d,E⟩:=d;have all:∀p∈ps,p.2=Value.ref (addrOf p.2):=fun p f=>by
  have:=(Qp (v.mem_iff.mp f:(p.1,p.2)∈ls.zip (as.map Value.ref))).2;obtain⟨a,_,e⟩:=KK.mp this;rw[<-e];rfl
 have x:(ps.map fun p=>(p.1,addrOf p.2)).Perm (ls.zip as):=by
  have h1:=v.map (fun p:List Int×Value=>(p.1,addrOf p.2));have e:(ls.zip (as.map Value.ref)).map (fun p:List Int×Value=>(p.1,addrOf p.2))=ls.zip as:=by
   rw[List.zip_map_right,Ak];exact(Aw fun p _=>rfl).trans (QY _)
  rw[e] at h1;exact h1
 obtain⟨e,he⟩:=sortedAll_at s.heap (as.map Value.ref) out;have ex:out.toList=((ps.map fun p=>(p.1,addrOf p.2)).map fun q=>Value.ref q.2):=by
  rw[d,Ak];exact Aw fun p f=>all p f
 refine⟨.ref (s⁻¹+1),_,I.laid (t':=s.toks) (fun _ _=>sortedAll_old) (Qk _) (show zF X.prog X.w _ _ _ (.lst ((ps.map fun p=>(p.1,addrOf p.2)).map fun q=>V.ref q.2)) from⟨?_,out.toList,e,?_,?_⟩),rfl,q _ _ x ?_ (I.hok.fresh (Qk _))⟩
 ·rw[Ab,x.length_eq,PU];omega
 ·rw[ex]
  exact B_ (fun q:List Int×Addr=>q.2) _
 ·simpa using he
 ·rw[AX];exact E
def mK{b:Addr}(h:bA X aa H b):∀c∈[b],bA X aa H c:=fun c hc=>by rw[OU.mp hc];exact h
def rG{b:Addr}(I:Inv X aa σ H s)(f:bA X aa H b):b∉frs X.stack:=fun hb=>by
 rcases OT.mp (I.stkSub b hb) with e|e
 ·exact f.2.1 e
 ·exact f.2.2.1 e
end
end L2
end
section
namespace STb
def dd{a:Type}[DecidableEq a](l:List a):List a:=l.foldl (fun acc x=>if x∈acc then acc else acc++[x]) []
def rL{a:Type}[DecidableEq a](l:List a)(x:a):dd (l++[x])=if x∈dd l then dd l else dd l++[x]:=by unfold dd;rw[Qa];rfl
def kt{a:Type}[DecidableEq a](l:List a):(dd l).length<=l.length:=by
 have:∀(l acc:List a),(l.foldl (fun acc x=>if x∈acc then acc else acc++[x]) acc).length<=acc.length+l.length:=by
  intro l
  induction l with
  |nil=>intro acc;simp
  |cons x l ih=>
   intro acc;rw[PD];refine AC (ih _) ?_;split
   ·rw[Ay];omega
   ·rw[Ap,Ay,Ay,Pu];omega
 simpa[dd] using this l []
def i_{a:Type}[DecidableEq a](l:List a)(x:a):x∈dd l↔x∈l:=by
 have:∀(l acc:List a),x∈(l.foldl (fun acc x=>if x∈acc then acc else acc++[x]) acc)↔x∈acc\/x∈l:=by
  intro l
  induction l with
  |nil=>intro acc;simp
  |cons y l ih=>
   intro acc;rw[PD,ih]
   by_cases h:y∈acc
   ·rw[RJ h,OT]
    constructor
    ·rintro(q|q)
     ·exact .inl q
     ·exact .inr (.inr q)
    ·rintro(q|q|q)
     ·exact .inl q
     ·subst q;exact .inl h
     ·exact .inr q
   ·rw[RK h,OW,OU,OT]
    constructor
    ·rintro((q|q)|q)
     ·exact .inl q
     ·exact .inr (.inl q)
     ·exact .inr (.inr q)
    ·rintro(q|q|q)
     ·exact .inl (.inl q)
     ·exact .inl (.inr q)
     ·exact .inr q
 simpa[dd] using this l []
def rM{c:Type}[DecidableEq c](l:List c):(dd l).Nodup:=by
 have:∀(l acc:List c),acc.Nodup->(l.foldl (fun acc x=>if x∈acc then acc else acc++[x]) acc).Nodup:=by
  intro l
  induction l with
  |nil=>intro acc h;exact h
  |cons y l ih=>
   intro acc h;rw[PD]
   by_cases q:y∈acc
   ·rw[RJ q];exact ih acc h
   ·rw[RK q]
    refine ih _ ?_;rw[O2];refine⟨h,by simp,fun a ha b hb e=>?_⟩;rw[OU] at hb;subst hb;subst e;exact q ha
 exact this l [] O6
def Ki{a:Type}[DecidableEq a](l m:List a):(dd (l++m)).length<=(dd l).length+m.length:=by
 have:∀(m acc:List a),(m.foldl (fun acc x=>if x∈acc then acc else acc++[x]) acc).length<=acc.length+m.length:=by
  intro m
  induction m with
  |nil=>intro acc;simp
  |cons x l ih=>
   intro acc;rw[PD];refine AC (ih _) ?_;split
   ·rw[Ay];omega
   ·rw[Ap,Ay,Ay,Pu];omega
 unfold dd;rw[Qa];exact this m _
def Kj{a:Type}[DecidableEq a](l:List a)(h:∀(k:Nat) x,l[k]?=some x->x∉l.take k):dd l=l:=by
 have:∀k,k<=l.length->dd (l.take k)=l.take k:=by
  intro k
  induction k with
  |zero=>intro _;rfl
  |succ k ih=>
   intro hk;have hx:l[k]?=some l[k]:=Ai ω;rw[Rp,hx];show dd (l.take k++[l[k]])=_;rw[rL,ih ω,RK (h k _ hx)]
   rfl
 have q:=this l.length (Ag _);rw[AA (Ag _)] at q;exact q
def Kk{a:Type}[DecidableEq a](l:List a){k:Nat}{x:a}(h:l[k]?=some x)(hx:x∈l.take k):(dd l).length<l.length:=by
 have hk:k<l.length:=(B5.mp h).1;have e:l=(l.take k++[x])++l.drop (k+1):=by
  have:=Q7 (k+1) l;rw[Rp,h] at this;exact this.symm
 have h1:=Ki (l.take k++[x]) (l.drop (k+1));rw[<-e,rL,RJ ((i_ _ _).mpr hx)] at h1;have h2:=kt (l.take k);rw[AD] at h2;rw[Pg] at h1;omega
def Kl{a:Type}[DecidableEq a](l:List a):(dd l).length<l.length↔∃(k:Nat)(x:a),l[k]?=some x/\x∈l.take k:=by
 constructor
 ·intro h
  apply Classical.byContradiction;intro n;have:=Kj l fun k x e hx=>n ⟨k,x,e,hx⟩;rw[this] at h;exact Qd _ h
 ·rintro⟨k,x,e,hx⟩
  exact Kk l e hx
end STb
end
section
namespace STb
open PySem PySem.SetTable PyProof.Rows
end STb
namespace L2
open PySem PySem.Spec PyProof.Rows
def Km(D:Addr)(n:Nat):HO:=.ext fun h=>∃o es ep t,h.get? D=some o/\o.ExactSet/\o.data=.set es ep t/\t.fits es.size=true/\es.size=n/\n<=100
section
variable{X:Cx}
def Kn{prog:Program}{w:World}{h:Heap}{c:Addr}{cs:List Value}{a:List Int}(hc:IsTup h c cs.toArray)(hi:IntsAre cs a):IsTupleKey (intKind prog w) h a c:=by
 obtain⟨o,e,b,k,d⟩:=hc;refine⟨o,cs.toArray,k,e,b,d,?_⟩;have:∀{cs:List Value}{a:List Int},IntsAre cs a->ItemsAre (intKind prog w) a cs:=by
  intro cs a hi
  induction hi with
  |nil=>exact .nil
  |cons n t h ih=>exact .cons (by show Value.isInt n (.int n t)=true;simp[Value.isInt]) ih
 simpa using this hi
end
end L2
end
section
namespace Spl
open PySem PySem.Spec PySem.Builtin PySem.Builtin.Str PyProof.Rows
section
variable{prog:Program}{w:World}{A:Around}{E:Ω}{s:Shared}{x y:PySem.Str}{t u:Tok}{Q:Ω}
def split1(hy:(y.length==0)=false)(h:∀(l:List (PySem.Str×Tok)) k,l.map (·.1)=Txt.split x y->Q (.ref s⁻¹) {s with heap:=s.heap.push {cls:=.type "list",data:=.seq (strValues l).toArray},toks:=k})(hsz:x.length+2<=sizeLine):wpAny (model prog w) A (call (.builtin "str.split") [.str x t,.str y u]) Q E s:=by
 have a:(partsBetween x (occurrences x y 0 x.length (x.length+1)) y.length).length<=sizeLine:=by
  have e1:=StrLaws.occ_length_le x y 0 x.length (x.length+1);rw[length_partsBetween];omega
 cases h1:(decide (x.length<y.length)|| decide (strKind x<strKind y))
 ·cases hf:(occurrences x y 0 x.length (x.length+1)).isEmpty
  ·refine call_meets F.slot_str_split (typeIs_str _ _ _) F.entry_str_split (F.args_str_split_2 _ _) (meets_str_split_sep x y t u h1 hy hf ω a) ?_
   show wants Q E _ {s with toks:=_,heap:=s.heap.push {cls:=.type "list",data:=.seq (strsFrom s.toks (partsBetween x (occurrences x y 0 x.length (x.length+1)) y.length)).toArray}};rw[strsFrom_eq];exact h (numbered s.toks _) _ ((numbered_texts _ _).trans ((RK (ne_true_of_eq_false h1)).trans (RK (ne_true_of_eq_false hf))).symm)
  ·exact call_meets F.slot_str_split (typeIs_str _ _ _) F.entry_str_split (F.args_str_split_2 _ _) (meets_str_split_not_found x y t u h1 hy hf)
    (h [(x,t)] s.toks ((RK (ne_true_of_eq_false h1)).trans (RJ hf)).symm)
 ·exact call_meets F.slot_str_split (typeIs_str _ _ _) F.entry_str_split (F.args_str_split_2 _ _) (meets_str_split_cannot_occur x y t u h1)
   (h [(x,t)] s.toks (RJ h1).symm)
end
end Spl
namespace L2
open PySem PySem.Spec PyProof.Rows
section
variable{X:Cx}
def Fu:∀(l:List (PySem.Str×Tok)),Vals ((l.map (·.1)).map V.str) (strValues l)
 |[]=>.nil
 |p::l=>.cons ⟨p.2,rfl⟩ (Fu l)
def zm0:V->List V->Hp->VK->Prop:=fun x vs H Q=>∃z y,x=.str z/\vs=[.str y]/\(y.length==0)=false/\z.length+2<=sizeLine/\(Txt.split z y).length<=sizeLine/\∀D,H D=none->Q (.ref D) (upd H D (.lst ((Txt.split z y).map V.str)))
def Ko:lV X "str.split" zm0:=by
 intro aa s σ H x vs v us Q I a c h;obtain⟨z,y,rfl,rfl,hy,hz,d,q⟩:=h;obtain⟨t,rfl⟩:=a;obtain⟨u,rfl,f⟩:=c.one;obtain⟨t',rfl⟩:=f;refine Spl.split1 hy (fun l k e=>?_) hz;refine⟨.ref s⁻¹,_,I.laid (t':=k) (o:=.lst ((Txt.split z y).map V.str)) (fun b ob q=>Ad _ q) (Ag _) ?_,rfl,q _ (I.hok.fresh (Ag _))⟩;refine⟨by rw[Ab];exact d,strValues l,0,?_,Al _ rfl⟩;rw[<-e];exact Fu l
def rO(x:PySem.Str):It:=⟨fun i _=>i<x.cps.size,fun i H v H'=>H'=H/\∃c,x.cps[i]?=some c/\v=.str ⟨#[c]⟩,fun i _=>i=x.cps.size⟩
def Fv{P:Program}{w:World}{K:Ae}{tg:Expr}(x:PySem.Str)(it:Addr)(T:String)(D:["enumerate","zip","dict_itemiterator","dict_reverseitemiterator","odict_iterator","itertools.zip_longest","itertools.pairwise"].contains T=false)(t:Tok)(W:∀A':Around,A'.handled=none->Walks P w A' it [it] [it] x.cps.size (SignAt x) (fun i h=>h.IsStrIter it T x t i))(F:∀(A:Around)(i:Nat)(s:Shared)(Q:Ω)(E:Ω),s.heap.IsStrIter it T x t i->Q (.ref it) s->wpAny (model P w) A (pyIter (.ref it)) Q E s):Turn P w K tg (rO x) [it] it (fun i h=>h.IsStrIter it T x t i) where
 mem:=by simp
 obj:=fun i h st b hb=>by
  have e:b=it:=by simpa using hb
  subst e;obtain⟨o,e,c,d⟩:=st;exact⟨o,e,fun v z=>by rw[d] at z;cases z⟩
 keep:=fun i h h' st k=>by
  obtain⟨o,e,c⟩:=st;exact⟨o,k it (by simp) o e,c⟩
 item:=by
  intro X a hw f hc i aa s σ H E I hf st g;subst a hw f;obtain⟨l,f1,f2,p,q,r⟩:=hf it (by simp);refine(W X.A (I.ok.hd hc)).item i s _ _ g st fun v h' tk C y j=>?_;obtain⟨c,u,hx,rfl⟩:=C;have G:Inv X aa σ H {s with heap:=h',toks:=tk}:=I.turned (fun b o hb e=>j b o (by simpa using hb) e) l f1 p q r;obtain⟨o,e1,e2,e3⟩:=id y;exact⟨_,rfl,lB (s:={s with heap:=h',toks:=tk}) e1 e2 e3 D ⟨.str ⟨#[c]⟩,H,G,⟨u,rfl⟩,⟨rfl,c,hx,rfl⟩,y,fun b hb=>(hf b hb).1⟩⟩
 done:=by
  intro X a hw f hc i aa s σ H E I hf st g;subst a hw f;obtain⟨l,f1,f2,p,q,r⟩:=hf it (by simp);have hi:i=x.cps.size:=g;subst hi;exact(W X.A (I.ok.hd hc)).done s _ _ st fun h' tk j=>⟨rfl,I.turned (fun b o hb e=>j b o (by simpa using hb) e) l f1 p q r⟩
 self:=F
def Cz(te:TE):TI:=fun σ H R=>te σ H fun v H1=>∃x,v=.str x/\R (rO x) H1
def Kp{tg l:Expr}{tl:TE}(j:PE X l tl):PI X tg l (Cz tl):=by
 intro aa s σ H R I h;refine aW (j aa s σ H _ I h) fun v a ⟨x,H1,I1,f,g⟩=>?_;obtain⟨z,e,q⟩:=g;subst e;obtain⟨t,rfl⟩:=f;have fin:∀(o:Obj),Inv X aa σ H1 {a with heap:=a.heap.push o}:=fun o=>I1.kept (t':=a.toks) fun b o e=>Ad _ e;have d:∀b∈[a⁻¹],bA X aa H1 b:=fun b hb=>by
  have e:b=a⁻¹:=by simpa using hb
  subst e;exact I1.fpOk (Ag _) (I1.hok.fresh (Ag _))
 cases ha:z.cps.all (·<128)
 ·refine wpAny_pyIter_wide ha ?_
  exact⟨a⁻¹,[a⁻¹],_,_,H1,rfl,fin _,Fv z _ "str_iterator" ξ t (fun p c=>Walks.strWide c _ z t) (fun A i s Q E st h=>wpAny_pyIter_striter_wide st h),⟨_,Al _ rfl,rfl,rfl⟩,d,q⟩
 ·refine wpAny_pyIter_ascii ha ?_
  exact⟨a⁻¹,[a⁻¹],_,_,H1,rfl,fin _,Fv z _ "str_ascii_iterator" ξ t (fun p c=>Walks.strAscii c _ z t) (fun A i s Q E st h=>wpAny_pyIter_striter_ascii st h),⟨_,Al _ rfl,rfl,rfl⟩,d,q⟩
def Kq{g:TG}{tc:TT}{te:TE}{σ:St}{H1:Hp}{Q:VK}{D:Addr}{x:PySem.Str}(a:Nat->St->List V->Hp->Prop)(h:a 0 σ [] (upd H1 D (.lst [])))(j:∀i σ ys H c,x.cps[i]?=some c->i<x.cps.size->ys.length<=i->a i σ ys H->g (.str ⟨#[c]⟩) σ H fun d l=>tc d l fun b f=>if b=true then te d f (dN x.cps.size a D i d) else dm x.cps.size a i d f)(hd:∀σ ys H,a x.cps.size σ ys H->Q (.ref D) H):cG (rO x) g tc te σ H1 D Q:=by
 refine iA x.cps.size a h (fun σ ys H p=>rfl) (fun i σ ys H hi p=>hi) (fun i σ ys H v H' hi hy p y=>?_) hd;obtain⟨e,c,hc,rfl⟩:=y;subst e;exact j i σ ys _ c hc hi hy p
end
end L2
end
section
namespace K1
open STb
def subs(ps:List Int):Ξ:=ps.foldl (fun a x=>a++a.map (·++[x])) [[]]
def parts(ps:List Int):Ξ:=(subs ps).drop 1
def Fx(ps:List Int)(x:Int):subs (ps++[x])=subs ps++(subs ps).map (·++[x]):=by unfold subs;rw[Qa];rfl
def CA(ps:List Int):(subs ps).length=2 ^ ps.length:=by
 have:∀(ps:List Int)(acc:Ξ),(ps.foldl (fun a x=>a++a.map (·++[x])) acc).length=acc.length*2 ^ ps.length:=by
  intro ps
  induction ps with
  |nil=>intro acc;simp
  |cons x ps ih=>
   intro acc;rw[PD,ih,Ap,Ab,Ay,Nat.pow_succ];rw[<-Nat.two_mul,Nat.mul_comm 2,Nat.mul_assoc,Nat.mul_comm 2]
 simpa[subs] using this ps [[]]
def Fy(ps:List Int):∃t,subs ps=[]::t/\∀q∈t,q≠[]:=by
 have:∀(ps:List Int)(acc:Ξ),(∃t,acc=[]::t/\∀q∈t,q≠[])->∃t,ps.foldl (fun a x=>a++a.map (·++[x])) acc=[]::t/\∀q∈t,q≠[]:=by
  intro ps
  induction ps with
  |nil=>intro acc h;exact h
  |cons x ps ih=>
   rintro acc ⟨t,rfl,h⟩;rw[PD];refine ih _ ⟨t++([]::t).map (·++[x]),rfl,fun q hq=>?_⟩;rcases OW.mp hq with hq|hq
   ·exact h q hq
   ·obtain⟨r,_,rfl⟩:=KK.mp hq
    simp
 exact this ps [[]] ⟨[],rfl,fun q hq=>nomatch hq⟩
def Kr(ps:List Int):(subs ps).filter (fun q=>!decide (q=[]))=parts ps:=by
 obtain⟨t,e,h⟩:=Fy ps;unfold parts;rw[e];show List.filter _ ([]::t)=t;rw[Qw,RK (by simp)];exact List.filter_eq_self.mpr fun q hq=>by simp[h q hq]
def oU(ps:List Int):(parts ps).length=2 ^ ps.length-1:=by unfold parts;rw[Pg,CA]
def Ks(ps:List Int):∀q∈subs ps,q.length<=ps.length:=by
 have:∀(ps:List Int)(acc:Ξ)(n:Nat),(∀q∈acc,q.length<=n)->∀q∈ps.foldl (fun a x=>a++a.map (·++[x])) acc,q.length<=n+ps.length:=by
  intro ps
  induction ps with
  |nil=>intro acc n h q hq;simpa using h q hq
  |cons x ps ih=>
   intro acc n h q hq;rw[PD] at hq;have:=ih _ (n+1) (fun r hr=>by
    rcases OW.mp hr with hr|hr
    ·exact QW (h r hr)
    ·obtain⟨u,hu,rfl⟩:=KK.mp hr
     rw[Ap];exact Nat.succ_le_succ (h u hu)) q hq
   rw[Ay];omega
 intro q hq;have:=this ps [[]] 0 (fun r hr=>by simp at hr;subst hr;exact Ag _) q hq;omega
def a6:List Int->Bool
 |a::b::r=>decide (a<b)&&a6 (b::r)
 |_=>true
def Fz:∀ps:List Int,((ps.zip (ps.drop 1)).map fun p=>decide (p.1<p.2)).all id=a6 ps
 |[]=>rfl
 |[_]=>rfl
 |a::b::r=>by
  have:=Fz (b::r);unfold a6;rw[<-this]
  rfl
def CB:∀ps:List Int,a6 ps=true↔∀(i:Nat) a b,ps[i]?=some a->ps[i+1]?=some b->a<b
 |[]=>by simp[a6]
 |[x]=>by simp[a6]
 |x::y::r=>by
  unfold a6;rw[AK,decide_eq_true_eq,CB (y::r)];constructor
  ·rintro⟨h1,h2⟩ i a b ha hb
   cases i with
   |zero=>simp at ha hb;subst ha hb;exact h1
   |succ i=>exact h2 i a b (by simpa using ha) (by simpa using hb)
  ·intro h
   exact⟨h 0 x y rfl rfl,fun i a b ha hb=>h (i+1) a b (by simpa using ha) (by simpa using hb)⟩
def FA(ps:List Int)(h:a6 ps=true):∀(d i:Nat) a b,ps[i]?=some a->ps[i+d]?=some b->a<=b:=by
 intro d
 induction d with
 |zero=>intro i a b ha hb;rw[Nat.add_zero,ha] at hb;cases hb;exact Pm _
 |succ d ih=>
  intro i a b ha hb;have c:i+(d+1)<ps.length:=(B5.mp hb).1;have hc:ps[i+d]?=some ps[i+d]:=Ai ω;have h1:=ih i a _ ha hc;have h2:=(CB ps).mp h (i+d) _ b hc hb;omega
def e_(ps:List Int):Bool:=decide (1<=ps.length)&&decide (ps.length<=5)&&!(decide (ps.headD 0<0))&&!(decide (99<ps.getLastD 0))&&a6 ps
def eP(ps:List Int):Bool:=decide (1<=ps.length)&&decide (ps.length<=5)&&ps.all (fun p=>decide (0<=p)&&decide (p<=99))&&a6 ps
def rQ(ps:List Int):e_ ps=eP ps:=by
 unfold e_ eP;cases ps with
 |nil=>rfl
 |cons x r=>
  by_cases hr:a6 (x::r)=true
  ·rw[hr,Bool.and_true,Bool.and_true]
   by_cases d:(x::r).length<=5
   ·have e1:(x::r).getLastD 0=(x::r)[(x::r).length-1]:=by
     rw[List.getLastD_eq_getLast?,List.getLast?_eq_getElem?,Ai (by simp)];rfl
    have key:(!(decide ((x::r).headD 0<0))&&!(decide (99<(x::r).getLastD 0)))=(x::r).all (fun p=>decide (0<=p)&&decide (p<=99)):=by
     rw[P9];rw[AK,Rq,Rq,decide_eq_false_iff_not,decide_eq_false_iff_not,OX];constructor
     ·rintro⟨a,b⟩ p hp
      obtain⟨i,hi⟩:=OV.mp hp;have c:i<(x::r).length:=(B5.mp hi).1;have g1:=FA (x::r) hr i 0 x p rfl (by simpa using hi);have g2:=FA (x::r) hr ((x::r).length-1-i) i p ((x::r)[(x::r).length-1]) hi (by
       rw[show i+((x::r).length-1-i)=(x::r).length-1 from ω];exact Ai (by simp))
      rw[e1] at b;have e:¬x<0:=a;simp only[AK,decide_eq_true_eq];constructor<;>omega
     ·intro h
      have g1:=h x Av;have g2:=h ((x::r)[(x::r).length-1]) (Bf _);rw[e1];simp only[AK,decide_eq_true_eq] at g1 g2;constructor
      ·show ¬x<0;omega
      ·omega
    rw[<-key];simp only[Bool.and_assoc]
   ·rw[RN d];simp
  ·have:a6 (x::r)=false:=by simpa using hr
   rw[this,QU,QU]
def dQ(ab:Ξ):Bool:=decide (ab.length<=20)&&ab.all e_&&!(decide ((dd ab).length<ab.length))&&decide ((dd (ab.flatMap parts)).length<=200)
def FB(ab:Ξ)(k:Nat):Prop:=∀(i:Nat) ps,i<k->ab[i]?=some ps->ps∉ab.take i/\eP ps=true
def Kt(ab:Ξ)(h:ab.length<=20)(a:FB ab ab.length):dQ ab=decide ((dd (ab.flatMap parts)).length<=200):=by
 unfold dQ;have h1:ab.all e_=true:=OX.mpr fun ps hp=>by
  obtain⟨i,hi⟩:=OV.mp hp;rw[rQ];exact(a i ps (B5.mp hi).1 hi).2
 have h2:¬(dd ab).length<ab.length:=fun z=>by
  obtain⟨k,x,e,hx⟩:=(Kl ab).mp z;exact(a k x (B5.mp e).1 e).1 hx
 rw[RM h,h1,RN h2]
 rfl
end K1
end
section
namespace L2
open PySem PySem.Spec PyProof.Rows
def i'(N N':List Str)(ak:List (Option Nat))(scope:Scope):Bool:=decide (ak.length=N'.length)&&(ak.zip N').all fun p=>match p.1 with
 |none=>true
 |some j=>decide (N[j]?=some p.2)&&decide (scope.names.lookup p.2=some .free)
def FC{N N':List Str}{ak:List (Option Nat)}{scope:Scope}(h:i' N N' ak scope=true):mx N N' ak scope:=by
 unfold i' at h;rw[AK,decide_eq_true_eq,OX] at h;refine⟨h.1,fun i j e=>?_⟩;have hi:i<ak.length:=(B5.mp e).1;have e2:N'[i]?=some N'[i]:=Ai (by rw[<-h.1];exact hi);have:=h.2 (some j,N'[i]) (OV.mpr ⟨i,by rw[br.cm,e,e2];rfl⟩);simp only[AK,decide_eq_true_eq] at this;exact⟨N'[i],e2,this.1,this.2⟩
section
variable{X:Cx}{scope:Scope}{ak:List (Option Nat)}{tg iter bv:Expr}{aV:List Expr}{wi:TI}{g:TG}{tc:TT}{te:TE}{pos:Pos}
def zv(N N':List Str)(ak:List (Option Nat))(hi:PI X tg iter wi)(b:∀a C s₀ H₀ ex,PG (ew X scope N' a C s₀ H₀ ex) tg g)(ht:∀a C s₀ H₀ ex,ix (ew X scope N' a C s₀ H₀ ex) aV tc)(he:∀a C s₀ H₀ ex,PE (ew X scope N' a C s₀ H₀ ex) bv te)(hc:X.calm=true:=by rfl)(hk:scope.kind=.function:=by rfl)(c:∀y∈scope.names,y.2≠.cell:=by decide +kernel)(d:∀y∈scope.names,y.2=.free->scope.names.lookup y.1=some .free:=by decide +kernel)(e:∀y∈scope.names,y.2=.local->scope.names.lookup y.1=some .local:=by decide +kernel)(hfr:∀y∈scope.names,y.2=.free->X.env.kindOf y.1=some .cell\/X.env.kindOf y.1=some .free)(f:X.N=N:=by rfl)(h:i' N N' ak scope=true:=by decide +kernel)(i:∀x,foldedSetIterable iter X.env x=pure x:=by intro _;rfl):PE X (.ListComp bv [⟨tg,iter,aV,0⟩] scope pos) (jD wi ak g tc te):=
 JT hc hk c d e hfr (FC (by rw[f];exact h)) hi b ht he i
end
def cY{env:Env}{scope:Scope}(h:scope.names.all (fun y=>decide (y.2≠.free))=true):∀y∈scope.names,y.2=.free->env.kindOf y.1=some .cell\/env.kindOf y.1=some .free:=fun y hy e=>
 absurd e (RO (OX.mp h y hy))
def b_{env:Env}{scope:Scope}(sc:Scope)(h:scope.names.all (fun y=>decide (y.2≠.free)|| decide (sc.names.lookup y.1=some .cell)|| decide (sc.names.lookup y.1=some .free))=true)(a:env.scope=sc:=by rfl):∀y∈scope.names,y.2=.free->env.kindOf y.1=some .cell\/env.kindOf y.1=some .free:=fun y hy e=>by
 subst a;have:=OX.mp h y hy;simp only[Bool.or_eq_true,decide_eq_true_eq] at this;rcases this with (q|q)|q
 ·exact absurd e q
 ·exact .inl q
 ·exact .inr q
def cv(l:List Str)(h:l.Nodup:=by decide +kernel):l.Nodup:=h
def ja{te:TE}{σ:St}{H:Hp}{P:VK}{S:Hp->Prop}(h:te σ H P):bT σ H fun b a=>if b=true then te σ a P else S a:=by
 show if true=true then te σ H P else S H;rw[RJ rfl];exact h
def cw{i:Nat}{v:V}{te:TE}{σ:St}{H:Hp}{P:St->VK}{S:St->Hp->Prop}(h:te (σ.set i (some v)) H (P (σ.set i (some v)))):zU i v σ H fun a d=>bT a d fun b c=>if b=true then te a c (P a) else S a c:=ja (S:=S (σ.set i (some v))) h
def zE{J:It}{g:TG}{tc:TT}{te:TE}{σ:St}{H1:Hp}{Q:VK}{D:Addr}(h:cG J g tc te σ H1 D Q):cG J g tc te σ H1 D Q:=h
def Paired.of_at{c d:Type}{R:c->d->Prop}:∀{l:List c}{m:List d},l.length=m.length->(∀(i:Nat) x y,l[i]?=some x->m[i]?=some y->R x y)->Paired R l m
 |[],[],_,_=>.nil
 |x::l,y::m,h,f=>.cons (f 0 x y rfl rfl) (Paired.of_at (by simpa using h) fun i a b h1 h2=>f (i+1) a b (by simpa using h1) (by simpa using h2))
 |[],_::_,h,_=>by simp at h
 |_::_,[],h,_=>by simp at h
end L2
end
section
namespace HT
open PySem PyProof.Rows
section
variable{prog:Program}{w:World}{A:Around}{E:Ω}{s:Shared}
def Ku{t b:Addr}{a:Array Value}{c d:Value}{lo hi:Option Int}{Q:Ω}(ht:IsTup s.heap t a)(e:s.heap.IsSliceOf b c d .none)(l:IsPart c lo)(o:IsPart d hi)(hw:sIx a.size 0 lo=0/\sIx a.size a.size hi=a.size)(h:Q (.ref t) s):wpAny (model prog w) A (getItem (.ref t) (.ref b)) Q E s:=by
 obtain⟨os,f,g,p⟩:=id e;have i:s.TypeIs (.ref b) "slice":=⟨os,f,g⟩;obtain⟨q,r,u,v,x⟩:=id ht;unfold getItem
 try with_reducible refine AI ?_
 first|refine Aa (Ac ?_)|skip
 refine Aa (wpAny_sequenceKey ht.typeIs ξ ?_);refine Aa (AL (name:=Bb "__getitem__") ht.typeIs PF
  (AG PF ht.typeIs entry_tuple_getitem ?_ (args_tuple_getitem _ _)))
 show wpAny _ _ (Builtin.Tuple.tupleItemsOf (.ref t) >>= _) _ _ s;refine Aa (tupleItemsOf_ ht ?_);refine Aa (wpAny_typeOf i ?_);rw[RJ ξ];refine Aa (EH e l o ?_);have j:((((sIx a.size 0 lo:Nat):Int)==0&&(1:Int)==1&&(sIx a.size a.size hi-sIx a.size 0 lo)==a.size)=true):=by
  rw[hw.1,hw.2];simp
 show wpAny _ _ (if(((sIx a.size 0 lo:Nat):Int)==0&&(1:Int)==1&&(sIx a.size a.size hi-sIx a.size 0 lo)==a.size)=true then _ else _) _ _ s;rw[RJ j];refine Aa ?_;unfold Builtin.Tuple.tupleIsExact;refine Aa (wpAny_typeOf ht.typeIs (Ac ?_));rw[RJ ξ];refine Aa (wpAny_rule ?_);exact Ac ⟨_,rfl,Ac h⟩
end
end HT
namespace L2
open PySem PySem.Spec PyProof.Rows
section
variable{X:Cx}
def ku:V->Option Int->Option Int->Hp->VK->Prop:=fun x lo hi H Q=>∃a xs,x=.ref a/\H a=some (.tup xs)/\∀p H',Same H H'->H' p=some (.tup (c6 xs lo hi))->Q (.ref p) H'
def rS:yj X ku:=by
 intro aa s σ H x v g i lo hi j Q I c d e f h;obtain⟨a,xs,rfl,hx,q⟩:=h
 by_cases hw:HT.sIx xs.length 0 lo=0/\HT.sIx xs.length xs.length hi=xs.length
 ·cases c
  obtain⟨ad,r,ht,hz⟩:=I.tuple (SqT.of (K:=X.K) hx);have b:ad.toArray.size=xs.length:=by rw[Am];exact r.length.symm
  refine⟨"tuple",_,PyProof.Rows.slot_tuple_getitem.lookup,ht.typeIs,HT.Ku ht d e f (by rw[b];exact hw) ⟨.ref a,H,I,rfl,q a H (Same.refl H) ?_⟩⟩;rw[hx];unfold c6;rw[hw.1,hw.2,List.drop_zero,Rh,AA (Ag _)]
 ·exact EI aa s σ H (.ref a) v g i lo hi j Q I c d e f ⟨a,xs,rfl,SqT.of hx,hw,fun p hp=>q p _ (Same.new hp) ac⟩
end
end L2
end
section
namespace K65
open K1
open PySem L2
def top(i:Nat):Stmt:=PySem.Challenge.pw_seamwright_k65_papers_of_bars_judged.main.body.getD i (.Pass ⟨0,0,0,0⟩)
abbrev CC:Stmt:=top 7
structure Bt(mg:Str->Option Value):Prop where
 len:mg "len"=none
 all:mg "all"=none
 zip:mg "zip"=none
 sorted:mg "sorted"=none
 set:mg "set"=none
 list:mg "list"=none
 tuple:mg "tuple"=none
 range:mg "range"=none
 enumerate:mg "enumerate"=none
 int:mg "int"=none
 isinstance:mg "isinstance"=none
 reversed:mg "reversed"=none
 bool:mg "bool"=none
def cV:AU "len"=some (.builtin "len"):=δ
def mL:AU "all"=some (.builtin "all"):=δ
def Kv:AU "zip"=some (.type "zip"):=δ
def mP:AU "sorted"=some (.builtin "sorted"):=δ
def eD:AU "list"=some (.type "list"):=δ
def CD:AU "tuple"=some (.type "tuple"):=δ
def oW:AU "enumerate"=some (.type "enumerate"):=δ
def Kw:AU "int"=some (.type "int"):=δ
def Kx:AU "isinstance"=some (.builtin "isinstance"):=δ
def Ky:AU "bool"=some (.type "bool"):=δ
def zg{n:Nat}(h:n<=100000):n<=sizeLine:=by rw[sizeLine_eq];omega
def zX{n:Nat}(h:n<=100000):n<sizeLine:=by rw[sizeLine_eq];omega
def Kz(x:Int)(r:List Int):e8 ((x::r).map V.int) (-1)=some (.int ((x::r).getLastD 0)):=by
 obtain⟨q,z,e⟩:∃q z,x::r=q++[z]:=⟨(x::r).dropLast,(x::r).getLast (Ry x r),(List.dropLast_concat_getLast (Ry x r)).symm⟩;rw[e,Ao,List.getLastD_eq_getLast?,List.getLast?_append];exact IZ _ _
def rT{ps:List Int}{i:Nat}{x:V}(h:(ps.map V.int)[i]?=some x):∃p,ps[i]?=some p/\x=.int p:=by
 rw[Af] at h;cases e:ps[i]? with
 |none=>rw[e] at h;cases h
 |some p=>rw[e] at h;exact⟨p,rfl,(Ah h).symm⟩
def dz{as:List Addr}{i:Nat}{x:V}(h:(as.map V.ref)[i]?=some x):∃a,as[i]?=some a/\x=.ref a:=by
 rw[Af] at h;cases e:as[i]? with
 |none=>rw[e] at h;cases h
 |some p=>rw[e] at h;exact⟨p,rfl,(Ah h).symm⟩
def AE{a:Type}{l:List a}{i:Nat}{x:a}(h:l[i]?=some x):l.take (i+1)=l.take i++[x]:=by rw[Rp,h];rfl
def take_all{a:Type}(l:List a):l.take l.length=l:=AA (Ag _)
def CF(x:Int)(r:List Int):c6 ((x::r).map V.int) (some 1) none=r.map V.int:=by
 unfold c6;have e:HT.sIx ((x::r).map V.int).length 0 (some 1)=1:=by
  have:=HT.q8 ((x::r).map V.int).length 0 1;rw[show((1:Nat):Int)=1 from rfl] at this;rw[this,Ab,Ay];omega
 rw[e,HT.x3];show List.take _ (r.map V.int)=_;rw[AA (by simp)]
section
variable{P:Program}{w:World}{K:Ae}{mg:Str->Option Value}{base:Heap}
def FD:Sp:=fun vs H Q _=>∃a ps,vs=[.ref a]/\Tp H a ps/\∀H',Same H H'->Q (.bl (e_ ps)) H'
def KA:zr ["numbers"] ["numbers"] (zh CC):=⟨rfl,rfl,rfl,δ,rfl,δ,δ⟩
def KB{f:Addr}{fd:FuncData}{T U:Tok}(F:Fun K "is_piece" "is_piece" CC f fd)(B:Bt mg)(W:mg "MOST_POINTS"=some (.int 5 T))(X:mg "LAST_POINT"=some (.int 99 U)):FnOk P w K mg base aG 1 f fd ["numbers"] FD:=by
 refine F.ok KA (fun vs H Q E h=>?_) (fun cdv A outer s H vs Q E hr h=>?_)
 ·obtain⟨a,ps,rfl,_⟩:=h;rfl
 ·obtain⟨a,ps,rfl,ha,k⟩:=h
  refine⟨_,ze (zR (gh (Eu qZ qZ zf (zm zl rfl B.len cV (zc (pv 0) zd)) (qN rfl W (v:=.int 5) ⟨_,rfl⟩))) (zi (zq dY)) zt)
   (ze (zR (PW.pt (j1 (zn lU (zB zG (pv 0) zf (fun _ _=>rfl)) zf (au _)) (lu (zn oj (zB zG (pv 0) (lN lP zf) (fun _ _=>rfl)) (qN rfl X (v:=.int 99) ⟨_,rfl⟩) (au _))))) (zi (zq dY)) zt)
   (zi (zq (zm (mD rfl) rfl B.all mL (zc
    (zv ["numbers"] ["low","high"] [none,none] (J3 rfl B.zip Kv (zc (pv 0) (zc (oy EI (pv 0) (ox zf) ow) zd)))
     (fun G C s₀ H₀ ex=>iT rfl (zC (zk (i:=0) (cv ["low","high"]) rfl (Or.inl rfl)) (zC (zk (i:=1) (cv ["low","high"]) rfl (Or.inl rfl)) iP)))
     (fun G C s₀ H₀ ex=>zP) (fun G C s₀ H₀ ex=>eZ lU (pv 0) (pv 1) (au _)) (hfr:=cY δ) (g:=fw K 2 (gi (zU 0) (gi (zU 1) fv)))) zd))))),?_⟩
  have l:e_ ps=false->Q (.bl false) H:=fun e=>by have:=k H (Same.refl H);rw[e] at this;exact this
  refine⟨_,rfl,a,_,rfl,.inr (SqT.of ha),_,_,rfl,rfl,_,rfl,?_⟩;rw[Ab];refine bQ (fun h1=>?_) (fun h1=>?_)
  ·refine⟨_,_,rfl,rfl,_,rfl,?_⟩
   have b:1<=ps.length:=by have:=RO h1;omega
   cases h5:decide ((ps.length:Int)<=5) with
   |false=>
    have c:¬ps.length<=5:=by have:=of_decide_eq_false h5;omega
    exact aK (l (by unfold e_;rw[RN c];simp))
   |true=>
    have c:ps.length<=5:=by have:=RO h5;omega
    refine aO ?_;obtain⟨x,r,rfl⟩:∃x r,ps=x::r:=by
     cases ps with
     |nil=>simp at b
     |cons x r=>exact⟨x,r,rfl⟩
    refine⟨_,rfl,a,_,_,_,rfl,rfl,SqT.of ha,fz (j:=0) rfl,_,_,rfl,rfl,_,rfl,?_⟩;refine bQ (fun hx=>?_) (fun hx=>?_)
    ·refine aK (l ?_)
     unfold e_;rw[show decide ((x::r).headD 0<0)=true from hx];simp
    ·refine⟨_,rfl,_,rfl,a,_,_,_,rfl,rfl,SqT.of ha,Kz x r,_,_,rfl,rfl,_,rfl,?_⟩
     cases hl:decide (99<(x::r).getLastD 0) with
     |true=>
      refine aK (l ?_);unfold e_;rw[hl];simp
     |false=>
      refine aO ?_;refine⟨_,rfl,_,rfl,_,rfl,a,_,rfl,SqT.of ha,?_,fun p hp=>?_⟩
      ·intro z
       have e:=HT.q8 ((x::r).map V.int).length 0 1;rw[show((1:Nat):Int)=1 from rfl,z.1,Ab,Ay] at e;omega
      ·rw[CF]
       have y:Same H (upd H p (.tup (r.map V.int))):=Same.new hp;refine⟨a,p,rfl,⟨_,SqT.of (y.tp ha)⟩,⟨_,SqT.of ac⟩,fun D I=>?_⟩;have hm:min ((x::r).map V.int).length (r.map V.int).length=r.length:=by simp
       refine zE (J7 (K:=K) (xs:=(x::r).map V.int) (ys:=r.map V.int) (fun i σ zs H3=>∃o u,σ=[o,u]/\Same (upd H p (.tup (r.map V.int))) H3/\H3 D=some (.lst zs)/\zs=((((x::r).zip r).map fun q=>decide (q.1<q.2)).take i).map V.bl)
        ⟨none,none,rfl,Same.new I,ac,rfl⟩ (fun i σ zs H3 ⟨_,_,_,sm,_⟩=>⟨SqT.of (sm.tp (y.tp ha)),SqT.of (sm _ _ ac)⟩) ?_ ?_)
       ·rintro i σ zs H3 M Y y2 e1 e2 hi hz ⟨o,u,rfl,sm,d,rfl⟩ J
        obtain⟨N,g1,rfl⟩:=rT e1;obtain⟨O,g2,rfl⟩:=rT e2;refine⟨M,_,rfl,SqT.of ac,rfl,_,_,rfl,_,_,rfl,rfl,ja ?_⟩;refine⟨_,rfl,_,rfl,_,_,rfl,rfl,bi (AC (Rw _ _) (by rw[Ab];exact zg (by simp at c;omega))) hi hz (by rw[ae (zj d J)];exact d) ⟨_,_,rfl,?_,ac,?_⟩⟩
        ·exact(sm.then (sm.free J)).then I
        ·have e3:(((x::r).zip r).map fun q=>decide (q.1<q.2))[i]?=some (decide (N<O)):=by
          rw[Af,br.cm,g1,g2];rfl
         rw[AE e3,Ao];rfl
       ·rintro σ zs H3 ⟨o,u,rfl,sm,d,rfl⟩
        refine⟨D,(((x::r).zip r).map fun q=>decide (q.1<q.2)),rfl,SqL.of ?_,?_⟩
        ·rw[d,hm,AA (by simp)]
        ·have:=k H3 (y.trans sm)
         have L:=Fz (x::r);rw[show(x::r).drop 1=r from rfl] at L;rw[L];have S:e_ (x::r)=a6 (x::r):=by
          unfold e_;rw[RM b,RM c,hl];rw[show decide ((x::r).headD 0<0)=false from by simpa using hx]
          rfl
         rw[S] at this;exact this
  ·refine⟨_,rfl,aK (l ?_)⟩
   have b:¬1<=ps.length:=fun z=>h1 (RM ω);unfold e_;rw[RN b]
   rfl
end
end K65
end
section
namespace K65
open K1
open PySem L2
section
variable{P:Program}{w:World}{K:Ae}{mg:Str->Option Value}{base:Heap}
def FE:Sp:=fun vs H Q _=>∃a ps,vs=[.ref a]/\Tp H a ps/\ps.length<=5/\∀D as H',Same H H'->H D=none->H' D=some (.lst (as.map V.ref))->Tps H' as (parts ps)->Q (.ref D) H'
def jh{n:Nat}(h:n<=5):2 ^ n<=32:=by
 have:2 ^ n<=2 ^ 5:=Nat.pow_le_pow_right ξ h;exact this
def KC{H2:Hp}{as:List Addr}{fs:Ξ}{q:Int}{D:Addr}{l:Addr}{Q:VK}(E:H2 l=some (.lst (as.map V.ref)))(ht:Tps H2 as fs)(hz:as.length<=100)(F:∀f∈fs,f.length<=100)(o:H2 D=none)(k:∀bs H3,Same H2 H3->H3 D=some (.lst (bs.map V.ref))->Tps H3 bs (fs.map (·++[q]))->Q (.ref D) H3):cG (dI K l) (zU 0) bT (bY B' (ay 0) (ck (zH (ay 1) bb))) [none,some (.int q)] H2 D Q:=by
 have A:=ht.length;refine zN (xs:=as.map V.ref) (fun j σ ys H3=>∃bs v,σ=[v,some (.int q)]/\Same H2 H3/\H3 D=some (.lst ys)/\ys=bs.map V.ref/\Tps H3 bs ((fs.take j).map (·++[q]))) ?_ ?_ ?_ ?_
 ·exact⟨[],none,rfl,Same.new o,ac,rfl,.nil⟩
 ·rintro j σ ys H3 ⟨bs,v,rfl,sm,b,rfl,hb⟩
  exact SqL.of (sm _ _ E)
 ·rintro j σ ys H3 x hx w hy ⟨bs,v,rfl,sm,b,rfl,hb⟩
  obtain⟨a,y,rfl⟩:=dz hx;obtain⟨f,h,hf⟩:=ht.get y;refine cw ?_;refine⟨_,rfl,_,rfl,zg (by simp),fun t r=>?_⟩;have C:=sm.tp hf;have i:Same H3 (upd H3 t (.tup [.int q])):=Same.new r;refine⟨a,t,_,_,rfl,rfl,i _ _ C,ac,?_,fun p g u hp=>?_⟩
  ·rw[Ab]
   exact zg (by have:=F f (Aj h);simp;omega)
  ·have d:Same H3 g:=i.trans u
   refine bi (ys:=bs.map V.ref) (by rw[Ab];exact zg ω) w hy (d _ _ b) ⟨bs++[p],_,rfl,(sm.trans d).then o,ac,by rw[Ao];rfl,?_⟩;rw[AE h,Ao];have G:p≠D:=cT hp (d _ _ b) (by intro z;cases z);have keep:∀c xs,g c=some (.tup xs)->upd g D (.lst (bs.map V.ref++[V.ref p])) c=some (.tup xs):=fun c xs e=>by
    rw[ae (cT e (d _ _ b) (by intro z;cases z))];exact e
   refine Tps.snoc (Paired.mapP (d.tps hb) fun c xs e=>keep c _ e) (keep p _ ?_);rw[hp,Ao];rfl
 ·rintro σ ys H3 ⟨bs,v,rfl,sm,b,rfl,hb⟩
  rw[Ab,A,take_all] at hb;exact k bs H3 sm b hb
end
end K65
end
section
namespace K65
open K1
open PySem L2 STb
def Tps.upd{H:Hp}{d:Addr}{o o':HO}{as:List Addr}{ab:Ξ}(h:Tps H as ab)(hd:H d=some o')(b:∀xs,o'≠.tup xs):Tps (L2.upd H d o) as ab:=
 Paired.mapP h fun a ps e=>by
  show L2.upd H d o a=_;rw[ae (cT (show H a=some _ from e) hd fun z=>b _ z.symm)];exact e
def fg(seq:Ξ):List (List Key×V):=(dd seq).map fun ps=>((ps.map Sum.inl:List Key),V.bl true)
def FF(seq:Ξ):(fg seq).length<=seq.length:=by unfold fg;rw[Ab];exact kt seq
def FG(seq:Ξ)(ps:List Int):putK (fg seq) (ps.map Sum.inl) (.bl true)=fg (seq++[ps]):=by
 unfold putK fg;rw[rL];have ha:(((dd seq).map fun ps=>((ps.map Sum.inl:List Key),V.bl true)).any fun kv=>decide (kv.1=ps.map Sum.inl))=decide (ps∈dd seq):=by
  rw[List.any_map]
  by_cases h:ps∈dd seq
  ·rw[RM h,Qi]
   exact⟨ps,h,by simp⟩
  ·rw[RN h,QR]
   intro q hq;simp only[Function.comp,decide_eq_true_eq,eJ];rintro rfl;exact h hq
 rw[ha]
 by_cases h:ps∈dd seq
 ·rw[RM h,RJ rfl,RJ h,Ak]
  refine Aw fun q hq=>?_;simp only[Function.comp];split<;>rfl
 ·rw[RN h,RK (by simp),RK h,Ao]
  rfl
def KD{H:Hp}{seq:Ξ}{bs:List Addr}(h:Paired (fun(p:List Key×V) b=>H b=some (.tup (p.1.map kV))) (fg seq) bs):Tps H bs (dd seq):=by
 unfold fg at h;generalize dd seq=l at h
 induction l generalizing bs with
 |nil=>cases h;exact .nil
 |cons x l ih=>
  rw[Aq] at h;cases h with
  |cons r t=>
   refine .cons ?_ (ih t);show H _=_;rw[r,Ak]
   rfl
def FH(ab:Ξ)(h:∀ps∈ab,ps.length<=5):(ab.flatMap parts).length<=31*ab.length:=by
 induction ab with
 |nil=>simp
 |cons x l ih=>
  rw[O3,Ap,oU,Ay];have:=ih fun ps hp=>h ps (As _ hp);have:=jh (h x Av);omega
def KF{ab:Ξ}{i:Nat}{ps:List Int}(h:ab[i]?=some ps):(ab.take (i+1)).flatMap parts=(ab.take i).flatMap parts++parts ps:=by
 rw[AE h,Rf];simp
def Told(H H2:Hp)(ab:Ξ)(D:Addr)(c:List (List Int×Addr)):Prop:=
 Same H H2/\H D=none/\H2 D=some (.lst (c.map fun q=>V.ref q.2))/\(∀q∈c,Tp H2 q.2 q.1)/\(c.map (·.1)).Perm (dd (ab.flatMap parts))/\c.Pairwise (fun a b=>HT.lexLt ((b.1.length:Int)::b.1) ((a.1.length:Int)::a.1)=false)
section
variable{P:Program}{w:World}{K:Ae}{mg:Str->Option Value}{base:Heap}
def FI(K:Ae):Sp:=fun vs H Q _=>∃l as ab,vs=[.ref l]/\SqL K H l (as.map V.ref)/\Tps H as ab/\(∀ps∈ab,ps.length<=5)/\ab.length<=20/\(dd (ab.flatMap parts)).length<64/\∀D H2 a,Told H H2 ab D a->Q (.ref D) H2
end
end K65
end
section
namespace K65
open K1
open PySem L2 STb
abbrev CG:Stmt:=top 31
abbrev kx:Stmt:=top 32
abbrev oX:Stmt:=top 33
def FJ(x y:Int):Prop:=0<=x/\(y=0\/(y=1/\x<4294967296))
def zK(H:Hp)(p:Addr):Prop:=∃x y,H p=some (.lst [.int x,.int y])/\FJ x y
def zD(p:Addr)(H H':Hp):Prop:=∀b o,b≠p->H b=some o->H' b=some o
def zD.trans{p:Addr}{H H1 H2:Hp}(a:zD p H H1)(b:zD p H1 H2):zD p H H2:=fun c o hc e=>b c o hc (a c o hc e)
def zD.of{p:Addr}{H H1:Hp}(a:Same H H1):zD p H H1:=fun c o _ e=>a c o e
def zD.free{p:Addr}{H H':Hp}(e:zD p H H')(hb:zK H p)(hb':zK H' p){l:Addr}(h:H' l=none):H l=none:=by
 cases q:H l with
 |none=>rfl
 |some o=>
  obtain⟨x,y,e1,_⟩:=hb';have a:l≠p:=fun z=>by rw[z,e1] at h;cases h
  rw[e l o a q] at h;cases h
def zK.same{H H':Hp}{p:Addr}(b:zK H p)(e:Same H H'):zK H' p:=let ⟨x,y,h,o⟩:=b;⟨x,y,e _ _ h,o⟩
def zK.ne{H:Hp}{p l:Addr}{as:List Addr}(b:zK H p)(h:H l=some (.lst (as.map V.ref))):l≠p:=by
 obtain⟨x,y,e,_⟩:=b;refine cT h e fun z=>?_;injection z with z
 cases as with
 |nil=>cases z
 |cons a r=>rw[Aq] at z;cases z
def zK.net{H:Hp}{p t:Addr}{xs:List V}(b:zK H p)(h:H t=some (.tup xs)):t≠p:=by
 obtain⟨x,y,e,_⟩:=b;exact cT h e (by intro z;cases z)
def zD.tp{p:Addr}{H H':Hp}{a:Addr}{ps:List Int}(e:zD p H H')(b:zK H p)(h:Tp H a ps):Tp H' a ps:=e _ _ (b.net h) h
def zD.tps{p:Addr}{H H':Hp}{as:List Addr}{ab:Ξ}(e:zD p H H')(b:zK H p)(h:Tps H as ab):Tps H' as ab:=Paired.mapP h fun _ _ q=>e.tp b q
def zD.then{p:Addr}{H H1:Hp}{a:Addr}{o:HO}(e:zD p H H1)(h:H a=none):zD p H (L2.upd H1 a o):=fun b u hb q=>by rw[ae (zj q h)];exact e b u hb q
def zK.upd{H:Hp}{p l:Addr}{o:HO}(b:zK H p)(h:l≠p):zK (L2.upd H l o) p:=let ⟨x,y,e,k⟩:=b;⟨x,y,by rw[ae h.symm];exact e,k⟩
def zK.new{H:Hp}{p l:Addr}{o:HO}(b:zK H p)(h:H l=none):zK (L2.upd H l o) p:=b.same (Same.new h)
section
variable{P:Program}{w:World}{K:Ae}{mg:Str->Option Value}{base:Heap}
def FK(K:Ae):Sp:=fun vs H Q _=>∃(l:Addr)(ns:List Int),vs=[.ref l,.int 0]/\SqL K H l (ns.map V.int)/\∀n,Q (.int n) H
def KG:zr ["script","k"] ["script","k"] (zh CG):=⟨rfl,rfl,rfl,δ,rfl,δ,δ⟩
def KH{f:Addr}{fd:FuncData}(F:Fun K "_law_cell_at" "_law_cell_at" CG f fd)(B:Bt mg):FnOk P w K mg base aG 1 f fd ["script","k"] (FK K):=by
 refine F.ok KG (fun vs H Q E h=>?_) (fun cdv A outer s H vs Q E hr h=>?_)
 ·obtain⟨l,ns,rfl,_⟩:=h;rfl
 ·obtain⟨l,ns,rfl,a,k⟩:=h
  refine⟨_,ze (zR (zn lU (pv 1) (zm zl rfl B.len cV (zc (pv 0) zd)) (au _)) (zi (zq (zB zL (pv 0) (pv 1) (fun _ _=>rfl)))) zt) (zi (zq zf)),?_⟩;refine⟨_,rfl,_,rfl,l,_,rfl,.inl a,_,_,rfl,rfl,_,rfl,?_⟩;refine bQ (fun h1=>?_) (fun h1=>?_)
  ·cases ns with
   |nil=>have:=RO h1;simp at this
   |cons n ns=>exact⟨_,rfl,_,rfl,l,_,_,_,rfl,rfl,a,fz (j:=0) rfl,k n⟩
  ·exact k 0
def FM:Sp:=fun vs H Q _=>∃n,vs=[.int n]/\∀p x y,H p=none->FJ x y->Q (.ref p) (upd H p (.lst [.int x,.int y]))
def KI:zr ["cell"] ["cell"] (zh kx):=⟨rfl,rfl,rfl,δ,rfl,δ,δ⟩
def KJ{f:Addr}{fd:FuncData}(F:Fun K "_law_box" "_law_box" kx f fd):FnOk P w K mg base aG 1 f fd ["cell"] FM:=by
 refine F.ok KI (fun vs H Q E h=>?_) (fun cdv A outer s H vs Q E hr h=>?_)
 ·obtain⟨n,rfl,_⟩:=h;rfl
 ·obtain⟨n,rfl,k⟩:=h
  refine⟨_,ze (zR (zn IJ (pv 0) (zx xH zf zf) (au _)) (zi (zq (zV (zc (zx iW (pv 0) (zx xH zf zf)) (zc zf zd))))) zt)
   (zi (zq (zV (zc (zx fy (zx dq (zx gr (zx fy (pv 0) (zx xH zf zf)) zf) zf) zf) (zc zf zd))))),?_⟩
  have hc:n_ 10 18:=⟨ξ,ξ,ξ⟩;have a:(10:Int) ^ (18:Int).toNat=1000000000000000000:=ξ
  refine⟨_,rfl,_,_,rfl,rfl,hc,_,_,rfl,rfl,_,rfl,?_⟩;refine bQ (fun h1=>?_) (fun h1=>?_)
  ·refine⟨_,rfl,_,_,rfl,rfl,hc,_,_,rfl,rfl,zg (by simp),fun p hp=>k p _ 0 hp ⟨?_,.inl rfl⟩⟩
   have:=RO h1;omega
  ·refine⟨_,rfl,_,_,rfl,rfl,hc,_,_,rfl,rfl,(by show(0:Int)<10 ^ (18:Int).toNat;rw[a];decide),_,_,rfl,rfl,.inr ⟨ξ,ξ⟩,_,_,rfl,rfl,_,_,rfl,rfl,(by show(0:Int)<2147483629;decide),zg (by simp),fun p hp=>k p _ 1 hp ⟨?_,.inr ⟨rfl,?_⟩⟩⟩
   ·exact PV _ ξ
   ·have:=Pw (n%10 ^ (18:Int).toNat*69621+7001) (show(0:Int)<2147483629 from ξ)
    omega
def gJ:Sp:=fun vs H Q _=>∃p m,vs=[.ref p,.int m]/\zK H p/\0<m/\m<1073741824/\∀r H',0<=r->r<m->zD p H H'->zK H' p->Q (.int r) H'
def CH:zr ["box","most","found","mixed"] ["box","most"] (zh oX):=⟨rfl,rfl,rfl,δ,rfl,δ,δ⟩
def CI{f:Addr}{fd:FuncData}(F:Fun K "_law_take" "_law_take" oX f fd):FnOk P w K mg base aG 1 f fd ["box","most"] gJ:=by
 refine F.ok CH (fun vs H Q E h=>?_) (fun cdv A outer s H vs Q E hr h=>?_)
 ·obtain⟨p,m,rfl,_⟩:=h;rfl
 ·obtain⟨p,m,rfl,⟨x,y,hp,d,g⟩,a,hm,k⟩:=h
  refine⟨_,ze (zR (zn db (zB zL (pv 0) zf (fun _ _=>rfl)) zf (au _))
    (ze (zo (i:=2) CH.nd rfl (Or.inl rfl) (zx fy (zB zL (pv 0) zf (fun _ _=>rfl)) (pv 1)))
    (ze (n6 (zx En (zB zL (pv 0) zf (fun _ _=>rfl)) (pv 1)) (wF (pv 0) zf set_list))
    (zi (zq (pv 2))))) zt)
   (ze (zo (i:=3) CH.nd rfl (Or.inl rfl) (zx fy (zx dq (zx dq (zx gr (zB zL (pv 0) zf (fun _ _=>rfl)) (zB zL (pv 0) zf (fun _ _=>rfl))) (zx gr zf (zB zL (pv 0) zf (fun _ _=>rfl)))) zf) zf))
   (ze (n6 (zx fy (zx dq (zx dq (zx gr (pv 3) (pv 3)) (zx gr zf (pv 3))) zf) zf) (wF (pv 0) zf set_list))
   (zi (zq (zx fy (zx En (zB zL (pv 0) zf (fun _ _=>rfl)) zf) (pv 1)))))),?_⟩
  have c:e8 ([.int x,.int y]:List V) 0=some (.int x):=fz (j:=0) rfl;have D:e8 ([.int x,.int y]:List V) 1=some (.int y):=fz (j:=1) rfl;refine⟨_,rfl,p,_,_,_,rfl,rfl,SqL.of hp,D,rfl,_,rfl,?_⟩;refine bQ (fun h1=>?_) (fun h1=>?_)
  ·refine⟨_,rfl,p,_,_,_,rfl,rfl,SqL.of hp,c,_,rfl,_,_,rfl,rfl,a,?_⟩
   refine⟨_,rfl,p,_,_,_,rfl,rfl,SqL.of hp,c,_,rfl,_,_,rfl,rfl,⟨a,hm⟩,_,rfl,p,_,_,0,rfl,rfl,hp,rfl,?_⟩;refine⟨_,rfl,k (x%m) _ (PV _ ω) (Pw _ a) (fun b o hb e=>by rw[ae hb];exact e) ⟨x / m,y,ac,Int.ediv_nonneg d ω,?_⟩⟩;rcases g with q|⟨q,hx⟩
   ·exact .inl q
   ·refine .inr ⟨q,Int.lt_of_le_of_lt (Int.ediv_le_self _ d) hx⟩
  ·have hy:y=1/\x<4294967296:=by
    rcases g with q|q
    ·exact absurd (by subst q;rfl) h1
    ·exact q
   obtain⟨rfl,hx⟩:=hy;have hb:CMul x x:=.inl ⟨ω,ω⟩;refine⟨_,rfl,p,_,_,_,rfl,rfl,SqL.of hp,c,_,rfl,p,_,_,_,rfl,rfl,SqL.of hp,c,_,_,rfl,rfl,hb,_,rfl,p,_,_,_,rfl,rfl,SqL.of hp,c,_,_,rfl,rfl,.inl ⟨ξ,ξ⟩,_,_,rfl,rfl,_,_,rfl,rfl,_,_,rfl,rfl,(by show(0:Int)<2147483647;decide),?_⟩;have G:=PV (x*x+39373*x+12345) (show(2147483647:Int)≠0 from ξ);have I:=Pw (x*x+39373*x+12345) (show(0:Int)<2147483647 from ξ);obtain⟨z,l⟩:∃z,z=(x*x+39373*x+12345)%2147483647:=⟨_,rfl⟩;rw[<-l] at G I;show nT _ _ _ ([some (.ref p),some (.int m),none,some (.int ((x*x+39373*x+12345)%2147483647))]:St) H;rw[<-l];refine⟨_,rfl,_,rfl,_,_,rfl,rfl,.inl ⟨ω,ω⟩,_,rfl,_,_,rfl,rfl,.inl ⟨ξ,ξ⟩,_,_,rfl,rfl,_,_,rfl,rfl,_,_,rfl,rfl,(by show(0:Int)<2147483587;decide),_,rfl,p,_,_,0,rfl,rfl,hp,rfl,?_⟩;have v:=PV (z*z+16807*z+7) (show(2147483587:Int)≠0 from ξ);have g1:=Pw (z*z+16807*z+7) (show(0:Int)<2147483587 from ξ);obtain⟨u,r⟩:∃u,u=(z*z+16807*z+7)%2147483587:=⟨_,rfl⟩;rw[<-r] at v g1;have C:upd H p (.lst [.int ((z*z+16807*z+7)%2147483587),.int 1]) p=some (.lst [.int u,.int 1]):=by rw[r];exact ac
   refine⟨_,rfl,p,_,_,_,rfl,rfl,SqL.of C,fz (j:=0) rfl,_,_,rfl,rfl,⟨ξ,ξ⟩,_,rfl,_,_,rfl,rfl,a,?_⟩;exact k _ _ (PV _ ω) (Pw _ a) (fun b o hb e=>by rw[ae hb];exact e) ⟨u,1,C,v,.inr ⟨rfl,ω⟩⟩
end
end K65
end
section
namespace K65
open K1
open PySem L2 STb
abbrev oY:Stmt:=top 34
abbrev CJ:Stmt:=top 35
section
variable{P:Program}{w:World}{K:Ae}{mg:Str->Option Value}{base:Heap}
def KL{H2:Hp}{as:List Addr}{fs:Ξ}{D l:Addr}{Q:VK}(C:H2 l=some (.lst (as.map V.ref)))(ht:Tps H2 as fs)(hz:as.length<=100)(u:H2 D=none)(k:∀bs H3,Same H2 H3->H3 D=some (.lst (bs.map V.ref))->Tps H3 bs (fs.filter fun q=>!decide (q=[]))->Q (.ref D) H3):cG (dI K l) (zU 0) (eI (bY (kn true K) (ay 0) (ck bb))) (ay 0) [none] H2 D Q:=by
 have A:=ht.length;refine zN (xs:=as.map V.ref) (fun j σ ys H3=>∃bs v,σ=[v]/\Same H2 H3/\H3 D=some (.lst ys)/\ys=bs.map V.ref/\Tps H3 bs ((fs.take j).filter fun q=>!decide (q=[]))) ?_ ?_ ?_ ?_
 ·exact⟨[],none,rfl,Same.new u,ac,rfl,.nil⟩
 ·rintro j σ ys H3 ⟨bs,v,rfl,sm,d,rfl,hb⟩
  exact SqL.of (sm _ _ C)
 ·rintro j σ ys H3 x hx g hy ⟨bs,v,rfl,sm,d,rfl,hb⟩
  obtain⟨a,y,rfl⟩:=dz hx;obtain⟨f,i,hf⟩:=ht.get y;refine⟨_,rfl,zg (by simp),fun t w=>?_⟩;have p:=sm.tp hf;have b:Same H3 (upd H3 t (.tup [])):=Same.new w;refine .inl ⟨a,t,f,[],rfl,rfl,b.tp p,ac,_,rfl,?_⟩;have r:=sm.trans b;have keep:∀(o:HO) c xs,upd H3 t (.tup []) c=some (.tup xs)->upd (upd H3 t (.tup [])) D o c=some (.tup xs):=fun o c xs e=>by
   rw[ae (cT e (b _ _ d) (by intro z;cases z))];exact e
  by_cases h:f=[]
  ·subst h
   refine aO (dH g hy ⟨bs,_,rfl,r,b _ _ d,rfl,?_⟩);rw[AE i,Ba]
   simpa using b.tps hb
  ·rw[RJ rfl,show(!decide (f=[]))=true by simp[h]]
   refine aK ⟨_,rfl,bi (ys:=bs.map V.ref) (by rw[Ab];exact zg ω) g hy (b _ _ d) ⟨bs++[a],_,rfl,r.then u,ac,by rw[Ao];rfl,?_⟩⟩;rw[AE i,Ba,show [f].filter (fun q=>!decide (q=[]))=[f] by simp[h]];exact Tps.snoc (Paired.mapP (b.tps hb) fun c xs e=>keep _ c _ e) (keep _ a _ (b.tp p))
 ·rintro σ ys H3 ⟨bs,v,rfl,sm,d,rfl,hb⟩
  rw[Ab,A,take_all] at hb;exact k bs H3 sm d hb
def rX:zr ["piece","found","point"] ["piece"] (zh oY):=⟨rfl,rfl,rfl,δ,rfl,δ,δ⟩
def KM{f:Addr}{fd:FuncData}(F:Fun K "_law_parts" "_law_parts" oY f fd):FnOk P w K mg base aG 1 f fd ["piece"] FE:=by
 refine F.ok rX (fun vs H Q E h=>?_) (fun cdv A outer s H vs Q E hr h=>?_)
 ·obtain⟨a,ps,rfl,_⟩:=h;rfl
 ·obtain⟨a,ps,rfl,ha,G,k⟩:=h
  have J:=hr.units;refine⟨_,ze (zo (i:=1) rX.nd rfl (Or.inl rfl) (zV (zc (dL zd) zd)))
   (ze (d0 AM rfl (Em (pv 0)) (zk (i:=2) rX.nd rfl (Or.inr rfl))
    (zi (zo (i:=1) rX.nd rfl (Or.inl rfl) (zx kc (pv 1) (zv ["piece","found","point"] ["part","point"] [none,some 2] (zI (pv 1)) (fun d C s₀ H₀ ex=>zk (i:=0) (cv ["part","point"]) rfl (Or.inl rfl)) (fun d C s₀ H₀ ex=>zP)
     (fun d C s₀ H₀ ex=>zx Ce (pv 0) (dL (zc (pv 1) zd))) (hfr:=b_ (zh oY) δ))))))
   (zi (zq (zv ["piece","found","point"] ["part"] [none] (zI (pv 1)) (fun d C s₀ H₀ ex=>zk (i:=0) (cv ["part"]) rfl (Or.inl rfl)) (fun d C s₀ H₀ ex=>i9 (zn (Cu J) (pv 0) (dL zd) (au _)))
     (fun d C s₀ H₀ ex=>pv 0) (hfr:=cY δ) (tc:=eI (bY (kn true K) (ay 0) (ck bb))))))),?_⟩
  refine⟨zg (by simp),fun e he=>⟨zg (by simp),fun l b=>?_⟩⟩;have u:Same H (upd (upd H e (.tup [])) l (.lst [.ref e])):=(Same.new he).then ((Same.new he).free b);have L:e≠l:=zj (H:=upd H e (.tup [])) ac b;refine⟨_,rfl,a,rfl,⟨_,SqT.of (u _ _ ha)⟩,IG (K:=K) (a:=a) (xs:=ps.map V.int) (fun i σ H2=>∃l as v,σ=[some (.ref a),some (.ref l),v]/\Same H H2/\H l=none/\H2 l=some (.lst (as.map V.ref))/\Tps H2 as (subs (ps.take i)))
   ⟨l,[e],none,rfl,u,(Same.new he).free b,ac,.cons (by show upd _ _ _ e=_;rw[ae L];exact ac) .nil⟩ (fun i σ H2 _ ⟨_,_,_,_,sm,_⟩=>SqT.of (sm _ _ ha)) ?_ ?_⟩
  ·rintro i x σ H2 hx ⟨l,as,v,rfl,sm,I,b,ht⟩
   obtain⟨q,eq,rfl⟩:=rT hx;have hi:i<ps.length:=(B5.mp eq).1;have p:=ht.length;have N:as.length<=32:=by
    rw[p,CA,AD];exact jh ω
   have hm:∀f∈subs (ps.take i),f.length<=100:=fun f hf=>by
    have:=Ks _ f hf;rw[AD] at this;omega
   refine⟨_,rfl,_,rfl,l,rfl,⟨_,SqL.of b⟩,fun D j=>zE (KC b ht ω hm j fun bs H3 c o hb=>?_)⟩;have M:=hb.length;rw[Ab] at M;refine⟨l,D,_,_,rfl,rfl,c _ _ b,o,by rw[Ab,Ab];exact zg ω,fun r g=>?_⟩;have y:H r=none:=(sm.trans c).free g;refine⟨r,as++bs,_,rfl,(sm.trans c).then y,y,by rw[ac,Ao],?_⟩;rw[AE eq,Fx];exact(Same.new g).tps ((c.tps ht).append hb)
  ·rintro σ H2 ⟨l,as,v,rfl,sm,I,b,ht⟩
   rw[Ab,take_all] at ht;have p:=ht.length;refine⟨_,rfl,l,rfl,⟨_,SqL.of b⟩,fun D j=>zE (KL b ht (by rw[p,CA];have:=jh G;omega) j fun bs H3 c o hb=>?_)⟩;rw[Kr] at hb;exact k D bs H3 (sm.trans c) (sm.free j) o hb
def KO{H2:Hp}{bs:List Addr}{fs:Ξ}{D l:Addr}{Q:VK}(E:H2 l=some (.lst (bs.map V.ref)))(ht:Tps H2 bs fs)(hz:bs.length<=1000)(r:H2 D=none)(k:∀(cs:List Addr) H3,Same H2 H3->H3 D=some (.lst (cs.map V.ref))->cs.length=bs.length->(∀(i:Nat) c,cs[i]?=some c->∃b f,bs[i]?=some b/\fs[i]?=some f/\H3 c=some (.tup [.int f.length,.ref b]))->Q (.ref D) H3):cG (dI K l) (zU 0) bT (ck (zH (hH (fun xs H Q=>∃p ys,xs=[V.ref p]/\(SqL K H p ys\/SqT K H p ys)/\Q (.int ys.length) H) (zH (ay 0) bb)) (zH (ay 0) bb))) [none] H2 D Q:=by
 have F:=ht.length;refine zN (xs:=bs.map V.ref) (fun j σ ys H3=>∃(cs:List Addr)(v:Option V),σ=[v]/\Same H2 H3/\H3 D=some (.lst ys)/\ys=cs.map V.ref/\cs.length=j/\∀(i:Nat) c,cs[i]?=some c->∃b f,bs[i]?=some b/\fs[i]?=some f/\H3 c=some (.tup [.int f.length,.ref b])) ?_ ?_ ?_ ?_
 ·exact⟨[],none,rfl,Same.new r,ac,rfl,rfl,fun i c e=>by simp at e⟩
 ·rintro j σ ys H3 ⟨cs,v,rfl,sm,d,rfl,h,hc⟩
  exact SqL.of (sm _ _ E)
 ·rintro j σ ys H3 x hx h hy ⟨cs,v,rfl,sm,d,rfl,a,hc⟩
  obtain⟨b,q,rfl⟩:=dz hx;obtain⟨f,w,hf⟩:=ht.get q;refine cw ?_;refine⟨_,rfl,b,_,rfl,.inr (SqT.of (sm.tp hf)),_,rfl,zg (by simp),fun t u=>?_⟩;rw[show(f.map V.int).length=f.length from Ab _];have g:Same H3 (upd H3 t (.tup [.int f.length,.ref b])):=Same.new u;have keep:∀(o:HO) c xs,upd H3 t (.tup [.int f.length,.ref b]) c=some (.tup xs)->upd (upd H3 t (.tup [.int f.length,.ref b])) D o c=some (.tup xs):=fun o c xs e=>by
   rw[ae (cT e (g _ _ d) (by intro z;cases z))];exact e
  refine bi (ys:=cs.map V.ref) (by rw[Ab];exact zg ω) h hy (g _ _ d) ⟨cs++[t],_,rfl,(sm.trans g).then r,ac,by rw[Ao];rfl,by rw[Ap,a];rfl,fun i c e=>?_⟩
  by_cases hi:i<cs.length
  ·rw[PH hi] at e
   obtain⟨y,A,e1,e2,e3⟩:=hc i c e;exact⟨y,A,e1,e2,keep _ c _ (g _ _ e3)⟩
  ·rw[Py ω] at e
   have C:i-cs.length=0:=by
    rcases Nat.eq_zero_or_pos (i-cs.length) with z|z
    ·exact z
    ·rw[Pn (by simp only[Ay,Pu];omega)] at e;cases e
   rw[C] at e;obtain rfl:t=c:=by simpa using e
   have:i=j:=ω
   subst this;exact⟨b,f,q,w,keep _ t _ ac⟩
 ·rintro σ ys H3 ⟨cs,v,rfl,sm,d,rfl,a,hc⟩
  rw[Ab] at a;exact k cs H3 sm d a hc
def jG(H:Hp)(c:Addr):Addr:=match H c with
 |some (.tup [_,.ref b])=>b
 |_=>0
def KP{H2:Hp}{cs:List Addr}{D l:Addr}{Q:VK}(h:H2 l=some (.lst (cs.map V.ref)))(ht:∀c∈cs,∃n b,H2 c=some (.tup [.int n,.ref b]))(hz:cs.length<=1000)(f:H2 D=none)(k:∀H3,Same H2 H3->H3 D=some (.lst (cs.map fun c=>V.ref (jG H2 c)))->Q (.ref D) H3):cG (dI K l) (zU 0) bT (bY (gC K) (ay 0) (tC (.int 1))) [none] H2 D Q:=by
 refine zN (xs:=cs.map V.ref) (fun j σ ys H3=>∃v,σ=[v]/\Same H2 H3/\H3 D=some (.lst ys)/\ys=(cs.take j).map fun c=>V.ref (jG H2 c)) ?_ ?_ ?_ ?_
 ·exact⟨none,rfl,Same.new f,ac,rfl⟩
 ·rintro j σ ys H3 ⟨v,rfl,sm,a,rfl⟩
  exact SqL.of (sm _ _ h)
 ·rintro j σ ys H3 x hx g hy ⟨v,rfl,sm,a,rfl⟩
  obtain⟨c,d,rfl⟩:=dz hx;obtain⟨n,b,e⟩:=ht c (Aj d);refine cw ?_;refine⟨_,rfl,c,_,_,_,rfl,rfl,SqT.of (sm _ _ e),fz (j:=1) rfl,bi (by rw[Ab];exact zg ω) g hy a ⟨_,rfl,sm.then f,ac,?_⟩⟩;rw[AE d,Ao];have:jG H2 c=b:=by unfold jG;rw[e]
  rw[<-this];rfl
 ·rintro σ ys H3 ⟨v,rfl,sm,a,rfl⟩
  rw[Ab,take_all] at a;exact k H3 sm a
def o0:zr ["web","found","piece","part","ranked"] ["web"] (zh CJ):=⟨rfl,rfl,rfl,δ,rfl,δ,δ⟩
def KQ{f fp:Addr}{fd nW:FuncData}(F:Fun K "_law_pieces" "_law_pieces" CJ f fd)(B:Bt mg)(Fp:Fun K "_law_parts" "_law_parts" oY fp nW)(bp:Binds K nW ["piece"] [])(mp:mg "_law_parts"=some (.ref fp)):FnOk P w K mg base aG 2 f fd ["web"] (FI K):=by
 have Gp:FnOk P w K mg base aG 1 fp nW ["piece"] FE:=KM Fp;refine F.ok o0 (fun vs H Q E h=>?_) (fun cdv A outer s H vs Q E hr h=>?_)
 ·obtain⟨l,as,ab,rfl,_⟩:=h;rfl
 ·obtain⟨l,as,ab,rfl,hl,ht,Y,kG,dy,k⟩:=h
  have hu:=ev hr;have aq:=hr.units;refine⟨_,ze (zo (i:=1) o0.nd rfl (Or.inl rfl) i7)
   (ze (d0 AM rfl (zI (pv 0)) (zk (i:=2) o0.nd rfl (Or.inl rfl))
    (zi (d0 AM rfl (zI (z0 Gp hr rfl mp Fp.kp bp .nil ax (zc (pv 2) zd))) (zk (i:=3) o0.nd rfl (Or.inl rfl))
     (zi (fO hu (pv 1) (pv 3) dY rfl)))))
   (ze (zo (i:=4) o0.nd rfl (Or.inl rfl) (zm (Kh aq) rfl B.sorted mP (zc
    (zv ["web","found","piece","part","ranked"] ["piece"] [none] (zI (zp (J8 rfl) rfl B.list eD (zc (pv 1) zd))) (fun I C s₀ H₀ ex=>zk (i:=0) (cv ["piece"]) rfl (Or.inl rfl)) (fun I C s₀ H₀ ex=>zP)
     (fun I C s₀ H₀ ex=>dL (zc (zm zl rfl B.len cV (zc (pv 0) zd)) (zc (pv 0) zd))) (hfr:=cY δ) (te:=ck (zH (hH (fun xs H Q=>∃p ys,xs=[V.ref p]/\(SqL K H p ys\/SqT K H p ys)/\Q (.int ys.length) H) (zH (ay 0) bb)) (zH (ay 0) bb)))) zd)))
   (zi (zq (zv ["web","found","piece","part","ranked"] ["one"] [none] (zI (pv 4)) (fun I C s₀ H₀ ex=>zk (i:=0) (cv ["one"]) rfl (Or.inl rfl)) (fun I C s₀ H₀ ex=>zP)
     (fun I C s₀ H₀ ex=>zB zG (pv 0) zf (fun _ _=>rfl)) (hfr:=cY δ) (te:=bY (gC K) (ay 0) (tC (.int 1)))))))),?_⟩
  intro d hd;have aE:=ht.length;refine⟨_,rfl,l,rfl,⟨_,(Same.new hd).seq hl⟩,iU (K:=K) (a:=l) (xs:=as.map V.ref) (fun i σ H2=>∃v r u,σ=[some (.ref l),some (.ref d),v,r,u]/\Same H H2/\H2 d=some (.dT (fg ((ab.take i).flatMap parts))))
   ⟨none,none,none,rfl,Same.new hd,ac⟩ (fun i σ H2 _ ⟨_,_,_,_,sm,_⟩=>sm.seq hl) ?_ ?_⟩
  ·rintro i x σ H2 hx ⟨v,r,u,rfl,sm,L⟩
   obtain⟨a,ea,rfl⟩:=dz hx;obtain⟨ps,bK,bZ⟩:=ht.get ea;have jf:=Y ps (Aj bK);have hi:i<ab.length:=(B5.mp bK).1;refine⟨_,rfl,a,ps,rfl,sm.tp bZ,jf,fun D cs H3 o bF J g_=>⟨D,rfl,⟨_,SqL.of J⟩,?_⟩⟩;have xh:=g_.length;have yA:D≠d:=cT J (o _ _ L) (by intro z;cases z);refine iU (K:=K) (a:=D) (xs:=cs.map V.ref) (fun j σ G=>∃r,σ=[some (.ref l),some (.ref d),some (.ref a),r,u]/\Same H G/\G D=some (.lst (cs.map V.ref))/\Tps G cs (parts ps)/\G d=some (.dT (fg ((ab.take i).flatMap parts++(parts ps).take j))))
    ⟨_,rfl,sm.trans o,J,g_,by rw[List.take_zero,Ps];exact o _ _ L⟩ (fun j σ G _ ⟨_,_,_,q,_⟩=>SqL.of q) ?_ ?_
   ·rintro j x σ G hx ⟨r,rfl,bg,bI,gG,M⟩
    obtain⟨c,ec,rfl⟩:=dz hx;obtain⟨f,ef,hf⟩:=gG.get ec;have N:(fg ((ab.take i).flatMap parts++(parts ps).take j)).length<sizeLine:=by
     refine zX (AC (FF _) ?_);rw[Ap];have h1:=FH (ab.take i) (fun q hq=>Y q (Qs hq));have h2:=oU ps;have X:=jh jf;rw[AD] at h1 ⊢;omega
    refine⟨_,rfl,_,rfl,d,_,rfl,DPut.t (k:=f.map Sum.inl) M (by rw[Ak];exact hf) N,⟨_,rfl,bg.then hd,?_,?_,?_⟩⟩
    ·rw[ae yA];exact bI
    ·exact Tps.upd gG M (by intro xs z;cases z)
    ·rw[ac,FG,Rr,<-AE ef]
   ·rintro σ G ⟨r,rfl,bg,bI,gG,M⟩
    refine⟨_,_,_,rfl,bg,?_⟩;rw[Ab,xh,take_all] at M;rw[KF bK];exact M
  ·rintro σ H2 ⟨v,r,u,rfl,sm,L⟩
   rw[Ab,aE,take_all] at L;refine⟨_,rfl,d,_,rfl,L,fun bs hb l2 U=>?_⟩;have tb:=KD hb;have lR:=tb.length;have kB:(dd (ab.flatMap parts)).length<=620:=by
    have h1:=kt (ab.flatMap parts);have h2:=FH ab Y;omega
   have T:Same H2 (upd H2 l2 (.lst (bs.map V.ref))):=Same.new U;refine⟨l2,rfl,⟨_,SqL.of ac⟩,fun D J=>zE (KO (K:=K) ac (T.tps tb) ω J fun cs H3 o af hcl hc=>?_)⟩;have qV:=o.tps (T.tps tb);refine⟨D,cs,(dd (ab.flatMap parts)).map fun f=>((f.length:Int)::f),rfl,SqL.of af,?_,(by rw[Ab];exact dy),fun R g hp hs hR=>?_⟩
   ·refine Paired.of_at (by rw[Ab];omega) fun i c y e1 e2=>?_
    obtain⟨b,f,g1,g2,g3⟩:=hc i c e1;rw[Af,g2] at e2;obtain rfl:=Ah e2;exact⟨_,b,f,rfl,g3,oS qV i b f g1 g2⟩
   ·have O:Same H3 (upd H3 R (.lst (g.map fun q=>V.ref q.2))):=Same.new hR
    have hq:∀q∈g,∃b f,q.1=((f:List Int).length:Int)::f/\H3 q.2=some (.tup [.int f.length,.ref b])/\Tp H3 b f:=fun q hq=>by
     obtain⟨m,em⟩:=OV.mp (hp.mem_iff.mp hq);rw[br.cm,Af] at em;cases e2:cs[m]? with
     |none=>rw[e2] at em;cases h:(dd (ab.flatMap parts))[m]?<;>rw[h] at em<;>cases em
     |some c=>
      obtain⟨b,f,g1,g2,g3⟩:=hc m c e2;rw[g2,e2] at em;obtain rfl:(((f.length:Int)::f),c)=q:=Ah em;exact⟨b,f,rfl,g3,oS qV m b f g1 g2⟩
    have hql:g.length<=620:=by rw[hp.length_eq,PU,Ab];omega
    refine⟨_,rfl,R,rfl,⟨_,SqL.of ac⟩,fun D2 bf=>zE (KP (K:=K) (cs:=g.map (·.2)) (by rw[ac,Ak];rfl) (fun c fe=>?_) (by rw[Ab];omega) bf fun H5 bW ba=>?_)⟩
    ·obtain⟨q,W,rfl⟩:=KK.mp fe
     obtain⟨b,f,_,g2,_⟩:=hq q W;exact⟨_,b,O _ _ g2⟩
    ·have mZ:Same H H5:=((sm.trans T).trans o).trans (O.trans bW)
     have snd:∀q∈g,∀b f,H3 q.2=some (.tup [.int (f:List Int).length,.ref b])->jG (upd H3 R (.lst (g.map fun q=>V.ref q.2))) q.2=b:=fun q _ b f e=>by
      unfold jG;rw[O _ _ e]
     refine k D2 H5 (g.map fun q=>(q.1.tail,jG (upd H3 R (.lst (g.map fun q=>V.ref q.2))) q.2)) ⟨mZ,(((sm.trans T).trans o).trans O).free bf,?_,fun q W=>?_,?_,?_⟩
     ·rw[ba,Ak,Ak];rfl
     ·obtain⟨S,h0,rfl⟩:=KK.mp W
      obtain⟨b,f,g1,g2,g3⟩:=hq S h0;show Tp H5 (jG _ S.2) S.1.tail;rw[snd S h0 b f g2,g1];exact bW.tp (O.tp g3)
     ·rw[Ak]
      have h1:=hp.map (fun q:List Int×Addr=>q.1.tail);have e:((((dd (ab.flatMap parts)).map fun f=>((f.length:Int)::f)).zip cs).map fun q:List Int×Addr=>q.1.tail)=dd (ab.flatMap parts):=by
       rw[show(fun q:List Int×Addr=>q.1.tail)=(fun l:List Int=>l.tail) ∘ Prod.fst from rfl,<-Ak,Q9 (by rw[Ab];omega),Ak];exact QY _
      rw[e] at h1;exact h1
     ·rw[AX]
      refine hs.imp_of_mem fun{p q} h1 h2 X=>?_;obtain⟨_,f,g1,_⟩:=hq p h1;obtain⟨_,f',sI,_⟩:=hq q h2;rw[g1,sI] at X;rw[g1,sI];exact X
end
end K65
end
section
namespace K65
open K1
open PySem L2 STb
abbrev rY:Stmt:=top 36
abbrev pc:Stmt:=top 37
def texts:List Str:=(["","0","01 12 02","012 013 023 123","01 02 03","012 023 034 014","0123","01 23 45","012 34"]:List Str)++(["012 123 234 034 014","01 12 23 03 13","012 013 014","0 1 2 3"]:List Str)++(["01 12 02 34 45 35","023 234 1"]:List Str)
++(["014 015 023 025 034 123 124 135 245 345","012 013 024 034 125 135 245 345"]:List Str)++(["01234","0123 0124 0134 0234 1234"]:List Str)++(["013 123 234 024 014 145 125 025 056 016 126 267 027 037 345 356 367"]:List Str)
def wordsOf(n:Nat):List Str:=Txt.split (texts.getD n "") " "
def digits(x:Str):List Int:=x.cps.toList.map fun(c:Nat)=>((c:Int)-48)
def known(n:Nat):Ξ:=((wordsOf n).filter fun(x:Str)=>!decide (x="")).map digits
def KR:∀n,n<20->(texts.getD n "").length+2<=1000/\(wordsOf n).length<=20/\∀x∈wordsOf n,x.cps.size<=5/\∀c∈x.cps.toList,48<=c/\c<=57:=δ
def KS:∀c,48<=c->c<=57->intText? ⟨#[c]⟩=some ((c:Int)-48):=by
 intro c h1 h2;have:∀c,c<58->48<=c->intText? ⟨#[c]⟩=some ((c:Int)-48):=δ
 exact this c ω h1
section
variable{P:Program}{w:World}{K:Ae}{mg:Str->Option Value}{base:Heap}
def FN:Sp:=fun vs H Q _=>∃n:Nat,vs=[.int n]/\n<20/\∀D as H',Same H H'->H D=none->H' D=some (.lst (as.map V.ref))->Tps H' as (known n)->Q (.ref D) H'
def ky:zr ["number","some","web","word"] ["number"] (zh rY):=⟨rfl,rfl,rfl,δ,rfl,δ,δ⟩
def KU{H2:Hp}{x:Str}{D:Addr}{Q:VK}(hx:x.cps.size<=5)(hc:∀c∈x.cps.toList,48<=c/\c<=57)(d:H2 D=none)(k:∀H3,Same H2 H3->H3 D=some (.lst ((digits x).map V.int))->Q (.ref D) H3):cG (rO x) (zU 0) bT (hH (fun xs H Q=>∃x n,xs=[.str x]/\intText? x=some n/\x.length<=640/\Q (.int n) H) (zH (ay 0) bb)) [none] H2 D Q:=by
 refine Kq (fun j σ ys H3=>∃v,σ=[v]/\Same H2 H3/\H3 D=some (.lst ys)/\ys=((digits x).take j).map V.int) ?_ ?_ ?_
 ·exact⟨none,rfl,Same.new d,ac,rfl⟩
 ·rintro j σ ys H3 c f g hy ⟨v,rfl,sm,b,rfl⟩
  have a:x.cps.toList[j]?=some c:=by simpa using f
  obtain⟨h,i⟩:=hc c (Aj a);refine cw ?_;refine⟨_,rfl,⟨#[c]⟩,_,rfl,KS c h i,by show 1<=640;decide,bi (zg ω) g hy b ⟨_,rfl,sm.then d,ac,?_⟩⟩;have e:(digits x)[j]?=some ((c:Int)-48):=by unfold digits;rw[Af,a];rfl
  rw[AE e,Ao];rfl
 ·rintro σ ys H3 ⟨v,rfl,sm,b,rfl⟩
  rw[AA (by unfold digits;simp)] at b;exact k H3 sm b
def KW{f:Addr}{fd:FuncData}(F:Fun K "_law_known" "_law_known" rY f fd)(B:Bt mg):FnOk P w K mg base aG 1 f fd ["number"] FN:=by
 refine F.ok ky (fun vs H Q E h=>?_) (fun cdv A outer s H vs Q E hr h=>?_)
 ·obtain⟨n,rfl,_⟩:=h;rfl
 ·obtain⟨n,rfl,hn,k⟩:=h
  refine⟨_,ze (zo (i:=1) ky.nd rfl (Or.inl rfl) (zV (zc zZ (zc zZ (zc zZ (zc zZ (zc zZ (zc zZ (zc zZ (zc zZ (zc zZ zd)))))))))))
   (ze (zo (i:=1) ky.nd rfl (Or.inl rfl) (zx kc (pv 1) (zV (zc zZ (zc zZ (zc zZ (zc zZ (zc zZ (zc zZ zd)))))))))
   (ze (zo (i:=1) ky.nd rfl (Or.inl rfl) (zx kc (pv 1) (zV (zc zZ (zc zZ zd)))))
   (ze (zo (i:=1) ky.nd rfl (Or.inl rfl) (zx kc (pv 1) (zV (zc zZ (zc zZ zd)))))
   (ze (eY (ia OZ PN PP l3 (pv 1) (zc zZ zd)))
   (ze (zo (i:=2) ky.nd rfl (Or.inl rfl) (zV zd))
   (ze (d0 AM rfl (zI (ia PySem.F.plainAttrs_str PySem.F.slot_str_split PySem.F.type_str_split Ko (zB zL (pv 1) (zx fy (pv 0) zf) (fun _ _=>rfl)) (zc zZ zd))) (zk (i:=3) ky.nd rfl (Or.inl rfl))
    (zi (zR (zn og (pv 3) zZ (au _))
     (zi (eY (ia OZ PN PP l3 (pv 2) (zc (zp yG rfl B.tuple CD (zc
      (zv ["number","some","web","word"] ["sign"] [none] (Kp (pv 3)) (fun u C s₀ H₀ ex=>zk (i:=0) (cv ["sign"]) rfl (Or.inl rfl)) (fun u C s₀ H₀ ex=>zP)
       (fun u C s₀ H₀ ex=>zp Ke rfl B.int Kw (zc (pv 0) zd)) (hfr:=cY δ)) zd)) zd)))) zt)))
   (zi (zq (pv 2))))))))),?_⟩
  have t20:texts.length=20:=rfl;have oq:e8 (texts.map V.str) ((n:Int)%20)=some (.str (texts.getD n "")):=by
   rw[show(n:Int)%20=(n:Int) from ω];refine fz ?_;have e:texts[n]?=some texts[n]:=Ai ω;rw[Af,List.getD_eq_getElem?_getD,e];rfl
  obtain⟨g1,g2,g3⟩:=KR n hn;refine⟨zg (by simp),fun T h1=>?_⟩;have s1:=Same.new (H:=H) (o:=.lst [.str "",.str "0",.str "01 12 02",.str "012 013 023 123",.str "01 02 03",.str "012 023 034 014",.str "0123",.str "01 23 45",.str "012 34"]) h1;refine⟨_,rfl,zg (by simp),fun U G=>⟨T,U,_,_,rfl,rfl,Same.new G _ _ ac,ac,zg (by simp),fun W X=>?_⟩⟩;have s3:=(s1.trans (Same.new G)).trans (Same.new (o:=.lst ((texts.take 15).map V.str)) X);refine⟨_,rfl,zg (by simp),fun Y I=>⟨W,Y,_,_,rfl,rfl,Same.new I _ _ ac,ac,zg (by simp),fun l4 h4=>?_⟩⟩;have M:=(s3.trans (Same.new I)).trans (Same.new (o:=.lst ((texts.take 17).map V.str)) h4);refine⟨_,rfl,zg (by simp),fun m4 l=>⟨l4,m4,_,_,rfl,rfl,Same.new l _ _ ac,ac,zg (by simp),fun c J=>?_⟩⟩;have s5:=(M.trans (Same.new l)).trans (Same.new (o:=.lst ((texts.take 19).map V.str)) J);have wq:H c=none:=(M.trans (Same.new l)).free J;refine⟨_,rfl,.inl ⟨rfl,_,SqL.of ac⟩,c,_,_,rfl,rfl,ac,zX (by simp),zg (by simp),fun b p=>?_⟩;generalize hH6:upd (upd _ c _) c _=H6 at p;have e6:H6 c=some (.lst (texts.map V.str)):=by rw[<-hH6,ac];rfl
  have N:Same H H6:=by
   rw[<-hH6];exact s5.then wq
  have d:H b=none:=N.free p;have O:Same H (upd H6 b (.lst [])):=N.then d;have e7:upd H6 b (.lst []) c=some (.lst (texts.map V.str)):=Same.new p _ _ e6;refine⟨_,rfl,_,rfl,_,_,rfl,rfl,(by show(0:Int)<20;decide),c,_,_,_,rfl,rfl,SqL.of e7,oq,rfl,_,_,rfl,rfl,ξ,zg ω,zg (show(wordsOf n).length<=100000 from ω),fun D L=>⟨D,rfl,⟨_,SqL.of ac⟩,?_⟩⟩;have S:b≠D:=zj (H:=upd H6 b (.lst [])) ac L;have bF:H D=none:=O.free L;refine iU (K:=K) (a:=D) (xs:=(wordsOf n).map V.str) (fun i σ H2=>∃as v,σ=[some (.int n),some (.ref c),some (.ref b),v]/\Same H H2/\H2 D=some (.lst ((wordsOf n).map V.str))/\H2 b=some (.lst (as.map V.ref))/\Tps H2 as ((((wordsOf n).take i).filter fun(x:Str)=>!decide (x="")).map digits))
   ⟨[],none,rfl,O.then bF,ac,by rw[ae S];exact ac,.nil⟩ (fun i σ H2 _ ⟨_,_,_,_,q,_⟩=>SqL.of q) ?_ ?_
  ·rintro i x σ H2 hx ⟨as,v,rfl,sm,r,g,ht⟩
   rw[Af] at hx;cases ex:(wordsOf n)[i]? with
   |none=>rw[ex] at hx;cases hx
   |some y=>
    rw[ex] at hx;obtain rfl:=Ah hx;have hi:i<(wordsOf n).length:=(B5.mp ex).1;obtain⟨y5,yc⟩:=g3 y (Aj ex);refine⟨_,rfl,rfl,_,rfl,?_⟩
    by_cases hy:y=""
    ·subst hy
     refine aO ⟨as,_,rfl,sm,r,g,?_⟩;rw[AE ex,Ba,Ao]
     simpa using ht
    ·rw[show(!decide (V.str y=V.str ""))=true from by simp[hy]]
     refine aK ⟨_,rfl,.inl ⟨rfl,_,SqL.of g⟩,_,rfl,y,rfl,fun D2 yQ=>zE (KU y5 yc yQ fun H3 bO af=>⟨D2,_,rfl,.inl ⟨SqL.of af,fun t bG=>?_⟩⟩)⟩;have j:Same H2 (upd H3 t (.tup ((digits y).map V.int))):=bO.trans (Same.new bG);have aE:=ht.length;have uw:as.length<=20:=by
      rw[aE,Ab];exact AC (Qr _ _) (by rw[AD];omega)
     refine⟨b,_,_,rfl,rfl,j _ _ g,zX (by rw[Ab];omega),⟨as++[t],_,rfl,(sm.trans j).then d,?_,by rw[ac,Ao];rfl,?_⟩⟩
     ·rw[ae S.symm];exact j _ _ r
     ·rw[AE ex,Ba,Ao,show [y].filter (fun(x:Str)=>!decide (x=""))=[y] by simp[hy]]
      exact Tps.upd (Tps.snoc (j.tps ht) ac) (j _ _ g) (by intro xs z;cases z)
  ·rintro σ H2 ⟨as,v,rfl,sm,r,g,ht⟩
   rw[Ab,take_all] at ht;exact⟨_,rfl,k b as H2 sm d g ht⟩
def cZ(first a:Int)(ps:List Int):List Int:=ps.map fun x=>first+a*x
def FP:Sp:=fun vs H Q _=>∃p l as ab,vs=[.ref p,.ref l]/\zK H p/\H l=some (.lst (as.map V.ref))/\Tps H as ab/\ab.length<=20/\(∀ps∈ab,ps.length<=10)/\
 ∀D bs b first a H',zD p H H'->zK H' p->H D=none->H' D=some (.lst (bs.map V.ref))->Tps H' bs b->0<=first->first<12->1<=a->a<=3->b.Perm (ab.map (cZ first a))->Q (.ref D) H'
def pd:zr ["box","web","gap","first","found","piece"] ["box","web"] (zh pc):=⟨rfl,rfl,rfl,δ,rfl,δ,δ⟩
def KY{H2:Hp}{a D:Addr}{ps:List Int}{first b:Int}{Q:VK}(ha:Tp H2 a ps)(hz:ps.length<=10)(g:1<=b/\b<=3)(d:H2 D=none)(k:∀H3,Same H2 H3->H3 D=some (.lst ((cZ first b ps).map V.int))->Q (.ref D) H3):cG (j9 K a) (zU 0) bT (bY (eu fun i j=>.int (i+j)) (ay 1) (bY (rI CMul fun i j=>.int (i*j)) (ay 2) (ay 0))) [none,some (.int first),some (.int b)] H2 D Q:=by
 refine J6 (xs:=ps.map V.int) (fun j σ ys H3=>∃v,σ=[v,some (.int first),some (.int b)]/\Same H2 H3/\H3 D=some (.lst ys)/\ys=((cZ first b ps).take j).map V.int) ?_ ?_ ?_ ?_
 ·exact⟨none,rfl,Same.new d,ac,rfl⟩
 ·rintro j σ ys H3 ⟨v,rfl,sm,c,rfl⟩
  exact SqT.of (sm.tp ha)
 ·rintro j σ ys H3 x hx f hy ⟨v,rfl,sm,c,rfl⟩
  obtain⟨q,eq,rfl⟩:=rT hx;refine cw ?_;refine⟨_,rfl,_,rfl,_,rfl,_,_,rfl,rfl,.inl ⟨ω,ω⟩,_,_,rfl,rfl,bi (by rw[Ab];exact zg ω) f hy c ⟨_,rfl,sm.then d,ac,?_⟩⟩;have e:(cZ first b ps)[j]?=some (first+b*q):=by unfold cZ;rw[Af,eq];rfl
  rw[AE e,Ao];rfl
 ·rintro σ ys H3 ⟨v,rfl,sm,c,rfl⟩
  rw[AA (by unfold cZ;simp)] at c;exact k H3 sm c
def KZ{f L:Addr}{fd M:FuncData}(F:Fun K "_law_named" "_law_named" pc f fd)(B:Bt mg)(Ft:Fun K "_law_take" "_law_take" oX L M)(bt:Binds K M ["box","most"] [])(mt:mg "_law_take"=some (.ref L)):FnOk P w K mg base aG 2 f fd ["box","web"] FP:=by
 have N:FnOk P w K mg base aG 1 L M ["box","most"] gJ:=CI Ft;refine F.ok pd (fun vs H Q E h=>?_) (fun cdv A outer s H vs Q E hr h=>?_)
 ·obtain⟨p,l,as,ab,rfl,_⟩:=h;rfl
 ·obtain⟨p,l,as,ab,rfl,hb,G,ht,kG,wT,k⟩:=h
  refine⟨_,ze (zo (i:=2) pd.nd rfl (Or.inr rfl) (zx dq zf (z0 N hr rfl mt Ft.kp bt .nil ax (zc (pv 0) (zc zf zd)))))
   (ze (zo (i:=3) pd.nd rfl (Or.inr rfl) (z0 N hr rfl mt Ft.kp bt .nil ax (zc (pv 0) (zc zf zd))))
   (ze (zo (i:=4) pd.nd rfl (Or.inl rfl) (zV zd))
   (ze (d0 AM rfl (zI (pv 1)) (zk (i:=5) pd.nd rfl (Or.inl rfl))
    (zi (eY (ia OZ PySem.F.slot_list_insert PySem.F.type_list_insert Kd (pv 4)
     (zc (z0 N hr rfl mt Ft.kp bt .nil ax (zc (pv 0) (zc (zx dq (zm zl rfl B.len cV (zc (pv 4) zd)) zf) zd)))
     (zc (zp yG rfl B.tuple CD (zc
      (zv ["box","web","gap","first","found","piece"] ["point","first","gap"] [none,some 3,some 2] (Em (pv 5)) (fun O C s₀ H₀ ex=>zk (i:=0) (cv ["point","first","gap"]) rfl (Or.inl rfl)) (fun O C s₀ H₀ ex=>zP)
       (fun O C s₀ H₀ ex=>zx dq (pv 1) (zx gr (pv 2) (pv 0))) (hfr:=b_ (zh pc) δ)) zd)) zd))))))
   (zi (zq (pv 4)))))),?_⟩
  refine⟨_,rfl,p,3,rfl,hb,ξ,ξ,fun c H1 a1 a2 ge cz=>⟨_,_,rfl,rfl,?_⟩⟩;refine⟨_,rfl,p,12,rfl,cz,ξ,ξ,fun d H2 c1 c2 eW S=>⟨zg (by simp),fun D T=>?_⟩⟩;have J:=ge.trans eW;have u:H D=none:=J.free hb S T;have U:l≠p:=hb.ne G;have aE:=ht.length;refine⟨_,rfl,l,rfl,⟨_,SqL.of ((J.then u) _ _ U G)⟩,iU (K:=K) (a:=l) (xs:=as.map V.ref) (fun i σ H3=>∃bs b v,σ=[some (.ref p),some (.ref l),some (.int (1+c)),some (.int d),some (.ref D),v]/\zD p H H3/\zK H3 p/\H3 D=some (.lst (bs.map V.ref))/\Tps H3 bs b/\b.Perm ((ab.take i).map (cZ d (1+c))))
   ⟨[],[],none,rfl,J.then u,S.new T,ac,.nil,List.Perm.nil⟩ (fun i σ H3 _ ⟨_,_,_,_,sb,_⟩=>SqL.of (sb _ _ U G)) ?_ ?_⟩
  ·rintro i x σ H3 hx ⟨bs,b,v,rfl,q,g,e,hq,hp⟩
   obtain⟨a,ea,rfl⟩:=dz hx;obtain⟨ps,I,bZ⟩:=ht.get ea;have hi:i<ab.length:=(B5.mp I).1;have lR:=hq.length;have hql:b.length=i:=by rw[hp.length_eq,Ab,AD];omega
   have j:D≠p:=g.ne e;refine⟨_,rfl,.inl ⟨rfl,_,SqL.of e⟩,_,rfl,_,rfl,D,_,rfl,.inl (SqL.of e),_,_,rfl,rfl,p,_,rfl,g,by rw[Ab];omega,by rw[Ab];omega,fun r H4 r0 nB o aN=>?_⟩;rw[Ab] at nB;have W:Tp H4 a ps:=(q.trans o).tp hb bZ;refine⟨_,rfl,a,rfl,⟨_,SqT.of W⟩,fun D2 bf=>zE (KY W (wT ps (Aj I)) ⟨ω,ω⟩ bf fun H5 bW ba=>⟨D2,_,rfl,.inl ⟨SqL.of ba,fun t bG=>?_⟩⟩)⟩;have y:Same H4 (upd H5 t (.tup ((cZ d (1+c) ps).map V.int))):=bW.trans (Same.new bG);have bI:=o _ _ j e;have X:=y _ _ bI;have eG:=aN.same y;refine⟨D,_,r,_,rfl,rfl,X,r0,by rw[Ab];omega,zX (by rw[Ab];omega),⟨bs.take r.toNat++t::bs.drop r.toNat,b.take r.toNat++cZ d (1+c) ps::b.drop r.toNat,_,rfl,((q.trans o).trans (zD.of y)).then u,eG.upd j,?_,?_,?_⟩⟩
   ·rw[ac,Ao,Aq,Rt,List.map_drop]
   ·have Y:=y.tps (o.tps g hq)
    exact Tps.upd (Tps.append (Y.take _) (.cons ac (Y.drop _))) X (by intro xs z;cases z)
   ·rw[AE I,Ao]
    have h1:(b.take r.toNat++cZ d (1+c) ps::b.drop r.toNat).Perm (cZ d (1+c) ps::b):=by
     have:=List.perm_middle (a:=cZ d (1+c) ps) (l₁:=b.take r.toNat) (l₂:=b.drop r.toNat)
     rwa [Q7] at this
    exact h1.trans ((List.perm_append_singleton _ _).symm.trans (List.Perm.append_right _ hp))
  ·rintro σ H3 ⟨bs,b,v,rfl,q,g,e,hq,hp⟩
   rw[Ab,aE,take_all] at hp;exact⟨_,rfl,k D bs b d (1+c) H3 q g u e hq c1 c2 ω ω hp⟩
end
end K65
end
section
namespace K65
open K1
open PySem L2 STb
abbrev kD:Stmt:=top 38
def iC(seq:List Int):List (Key×V):=(dd seq).map fun n=>((Sum.inl n:Key),V.bl true)
def K0(seq:List Int):(iC seq).length<=seq.length:=by unfold iC;rw[Ab];exact kt seq
def K2(seq:List Int)(n:Int):putK (iC seq) (Sum.inl n) (.bl true)=iC (seq++[n]):=by
 unfold putK iC;rw[rL];have ha:(((dd seq).map fun n=>((Sum.inl n:Key),V.bl true)).any fun kv=>decide (kv.1=Sum.inl n))=decide (n∈dd seq):=by
  rw[List.any_map]
  by_cases h:n∈dd seq
  ·rw[RM h,Qi]
   exact⟨n,h,by simp⟩
  ·rw[RN h,QR]
   intro q hq;simp only[Function.comp,decide_eq_true_eq,Sum.inl.injEq];rintro rfl;exact h hq
 rw[ha]
 by_cases h:n∈dd seq
 ·rw[RM h,RJ rfl,RJ h,Ak]
  refine Aw fun q hq=>?_;simp only[Function.comp];split<;>rfl
 ·rw[RN h,RK (by simp),RK h,Ao]
  rfl
def K3(seq:List Int):((iC seq).map fun kv=>kV kv.1)=(dd seq).map V.int:=by unfold iC;rw[Ak];rfl
def K4{c:List Int}(h1:c.Pairwise (·<=·))(h2:c.Nodup):a6 c=true:=by
 rw[CB];intro i a b ha hb;obtain⟨d,f⟩:=B5.mp ha;obtain⟨e,g⟩:=B5.mp hb;have g1:=Pi.mp h1 i (i+1) d e ω;have g2:=Pi.mp h2 i (i+1) d e ω;rw[f,g] at g1 g2;omega
def jK(ab:Ξ):Prop:=ab.Nodup/\∀ps∈ab,ps≠[]/\ps.length<=4/\a6 ps=true/\∀x∈ps,0<=x/\x<=5
def Base(b:Ξ):Prop:=(∃n,n<20/\b=known n)\/(b.length<=5/\jK b)
def Drawn(c:Ξ):Prop:=∃b first a,Base b/\0<=first/\first<12/\1<=a/\a<=3/\c.Perm (b.map (cZ first a))
def K5:∀n,n<20->(known n).length<=20/\∀ps∈known n,ps≠[]/\ps.length<=5:=δ
section
variable{P:Program}{w:World}{K:Ae}{mg:Str->Option Value}{base:Heap}
def FQ:Sp:=fun vs H Q _=>∃p,vs=[.ref p]/\zK H p/\∀D bs a H',zD p H H'->zK H' p->H D=none->H' D=some (.lst (bs.map V.ref))->Tps H' bs a->Drawn a->Q (.ref D) H'
def mQ:zr ["box","found","k","some","j","piece"] ["box"] (zh kD):=⟨rfl,rfl,rfl,δ,rfl,δ,δ⟩
def K6{f ft fn fk:Addr}{fd dE mX nk:FuncData}(F:Fun K "_law_web" "_law_web" kD f fd)(B:Bt mg)(Ft:Fun K "_law_take" "_law_take" oX ft dE)(bt:Binds K dE ["box","most"] [])(mt:mg "_law_take"=some (.ref ft))(Fn:Fun K "_law_named" "_law_named" pc fn mX)(bn:Binds K mX ["box","web"] [])(mn:mg "_law_named"=some (.ref fn))(Fk:Fun K "_law_known" "_law_known" rY fk nk)(bk:Binds K nk ["number"] [])(mk:mg "_law_known"=some (.ref fk)):FnOk P w K mg base aG 3 f fd ["box"] FQ:=by
 have Y:FnOk P w K mg base aG 1 ft dE ["box","most"] gJ:=CI Ft;have Gn:FnOk P w K mg base aG 2 fn mX ["box","web"] FP:=KZ Fn B Ft bt mt;have Gk:FnOk P w K mg base aG 1 fk nk ["number"] FN:=KW Fk B;refine F.ok mQ (fun vs H Q E h=>?_) (fun cdv A outer s H vs Q E hr h=>?_)
 ·obtain⟨p,rfl,_⟩:=h;rfl
 ·obtain⟨p,rfl,hb,k⟩:=h
  have hu:=ev hr;have aq:=hr.units;have S:Room 1 _:=hr.mono ξ;refine⟨_,ze (zR (zn db (z0 Y S rfl mt Ft.kp bt .nil ax (zc (pv 0) (zc zf zd))) zf (au _))
    (zi (zq (z0 Gn hr rfl mn Fn.kp bn .nil ax (zc (pv 0) (zc (z0 Gk S rfl mk Fk.kp bk .nil ax (zc (z0 Y S rfl mt Ft.kp bt .nil ax (zc (pv 0) (zc zf zd))) zd)) zd))))) zt)
   (ze (zo (i:=1) mQ.nd rfl (Or.inl rfl) (zV zd))
   (ze (d0 AM rfl (lH rfl B.range (zc (z0 Y S rfl mt Ft.kp bt .nil ax (zc (pv 0) (zc zf zd))) zd)) (zk (i:=2) mQ.nd rfl (Or.inl rfl))
    (ze (zo (i:=3) mQ.nd rfl (Or.inl rfl) ES)
    (ze (d0 AM rfl (lH rfl B.range (zc (zx dq zf (z0 Y S rfl mt Ft.kp bt .nil ax (zc (pv 0) (zc zf zd)))) zd)) (zk (i:=4) mQ.nd rfl (Or.inl rfl))
     (zi (fO hu (pv 3) (z0 Y S rfl mt Ft.kp bt .nil ax (zc (pv 0) (zc zf zd))) dY rfl)))
    (ze (zo (i:=5) mQ.nd rfl (Or.inl rfl) (zp yG rfl B.tuple CD (zc (zm Cv rfl B.sorted mP (zc (zp (J9 rfl) rfl B.list eD (zc (pv 3) zd)) zd)) zd)))
    (zi (zR (zn (Fg (in1_units aq)) (pv 5) (pv 1) (by with_unfolding_all rfl)) (zi (eY (ia OZ PN PP l3 (pv 1) (zc (pv 5) zd)))) zt))))))
   (zi (zq (z0 Gn hr rfl mn Fn.kp bn .nil ax (zc (pv 0) (zc (pv 1) zd))))))),?_⟩
  refine⟨_,rfl,p,2,rfl,hb,ξ,ξ,fun r H1 r0 r1 ge cz=>⟨rfl,_,rfl,?_⟩⟩;refine bQ (fun h1=>?_) (fun h1=>?_)
  ·refine⟨_,rfl,_,rfl,p,20,rfl,cz,ξ,ξ,fun n H2 n0 n1 eW a8=>?_⟩
   obtain⟨m,rfl⟩:=O1 n0;refine⟨m,rfl,ω,fun D as H3 bO bF hD ht=>?_⟩;obtain⟨g1,g2⟩:=K5 m ω;have T:=(ge.trans eW).trans (zD.of bO);have aR:=a8.same bO;refine⟨p,D,as,known m,rfl,aR,hD,ht,g1,fun ps hp=>by have:=(g2 ps hp).2;omega,fun D' bs ar first aF v C q cE bI M c1 c2 c3 c4 cj=>?_⟩;exact k D' bs ar v (T.trans C) q (T.free hb aR cE) bI M ⟨known m,first,aF,.inl ⟨m,ω,rfl⟩,c1,c2,c3,c4,cj⟩
  ·refine⟨zg (by simp),fun L hL=>?_⟩
   have X:H L=none:=ge.free hb cz hL;refine⟨_,rfl,p,6,rfl,cz.new hL,ξ,ξ,fun r6 H3 a1 a2 T aR=>⟨r6,rfl,ω,ω,?_⟩⟩;have kZ:L≠p:=zK.ne (as:=[]) (cz.new hL) ac;have ig:zD p H H3:=(ge.then X).trans T;refine w4 (lo:=0) (n:=r6.toNat) (fun i σ v=>∃as ab v2 v3 G v5,σ=[some (.ref p),some (.ref L),v2,v3,G,v5]/\zD p H v/\zK v p/\v L=some (.lst (as.map V.ref))/\Tps v as ab/\jK ab/\ab.length<=i)
    ⟨[],[],none,none,none,none,rfl,ig,aR,T _ _ kZ ac,.nil,⟨O6,fun ps h=>nomatch h⟩,Ag _⟩ ?_ ?_
   ·rintro i σ v hi ⟨as,ab,v2,v3,G,v5,rfl,C,q,cf,M,O,U⟩
    have aE:=M.length;intro d hd;have pU:H d=none:=C.free hb q hd;have ul:L≠d:=zj cf hd;refine⟨_,rfl,p,4,rfl,q.new hd,ξ,ξ,fun r4 H5 e1 e2 N bj=>⟨_,_,rfl,rfl,_,rfl,ω,ω,?_⟩⟩;have kN:d≠p:=by
     obtain⟨x,y,e,_⟩:=q.new (o:=.dK []) hd;exact cT ac e (by intro z;cases z)
    have s4:=Same.new (o:=.dK []) hd;refine w4 (lo:=0) (n:=(1+r4).toNat) (fun j σ l=>∃seq G,σ=[some (.ref p),some (.ref L),some (.int (0+i)),some (.ref d),G,v5]/\zD p H l/\zK l p/\l L=some (.lst (as.map V.ref))/\Tps l as ab/\l d=some (.dK (iC seq))/\seq.length=j/\∀x∈seq,0<=x/\x<=5)
     ⟨[],_,rfl,(C.then pU).trans N,bj,N _ _ kZ (s4 _ _ cf),N.tps (q.new hd) (s4.tps M),N _ _ kN ac,rfl,fun x h=>nomatch h⟩ ?_ ?_
    ·rintro j σ l hj ⟨seq,G,rfl,dO,eG,I,W,kj,km,lY⟩
     refine⟨_,rfl,_,rfl,p,6,rfl,eG,ξ,ξ,fun r H7 f1 f2 u df=>⟨d,_,rfl,DPut.k (k:=Sum.inl r) (u _ _ kN kj) (zX (by have:=K0 seq;omega)),⟨seq++[r],_,rfl,(dO.trans u).then pU,df.upd kN,?_,?_,by rw[ac,K2],by rw[Ap,km];rfl,?_⟩⟩⟩
     ·rw[ae ul];exact u _ _ kZ I
     ·exact Tps.upd (u.tps eG W) (u _ _ kN kj) (by intro xs z;cases z)
     ·intro x hx
      rcases OW.mp hx with hx|hx
      ·exact lY x hx
      ·rw[OU] at hx;subst hx;omega
    ·rintro σ l ⟨seq,G,rfl,dO,eG,I,W,kj,km,lY⟩
     refine⟨_,rfl,d,_,rfl,kj,fun l2 hl2=>⟨l2,dd seq,rfl,SqL.of (by rw[ac,K3]),(by have:=kt seq;omega),fun D2 c hp hs bf=>⟨D2,_,rfl,.inl ⟨SqL.of ac,fun t bG=>?_⟩⟩⟩⟩;have g:Same l (upd (upd (upd l l2 (.lst ((iC seq).map fun kv=>kV kv.1))) D2 (.lst (c.map V.int))) t (.tup (c.map V.int))):=((Same.new hl2).trans (Same.new bf)).trans (Same.new bG);generalize kO:upd (upd (upd l l2 (.lst ((iC seq).map fun kv=>kV kv.1))) D2 (.lst (c.map V.int))) t (.tup (c.map V.int))=H7 at g;have rP:Tp H7 t c:=by rw[<-kO];exact ac
     have u:=dO.trans (zD.of g);have df:=eG.same g;refine⟨_,rfl,_,rfl,t,L,c,as,ab,rfl,rfl,rP,SqL.of (g _ _ I),g.tps W,_,rfl,?_⟩;have eQ:c≠[]/\c.length<=4/\a6 c=true/\∀x∈c,0<=x/\x<=5:=by
      refine⟨fun z=>?_,?_,K4 hs (hp.nodup_iff.mpr (rM seq)),fun x hx=>lY x ((i_ seq x).mp (hp.mem_iff.mp hx))⟩
      ·have h0:dd seq=[]:=by rw[z] at hp;exact(List.nil_perm.mp hp)
       cases hq:seq with
       |nil=>rw[hq] at km;simp at km;omega
       |cons x r=>
        have:=(i_ seq x).mpr (by rw[hq];exact Av);rw[h0] at this;cases this
      ·have:=kt seq
       rw[hp.length_eq];omega
     by_cases J:c∈ab
     ·rw[RM J]
      exact aO ⟨as,ab,_,_,_,_,rfl,u,df,g _ _ I,g.tps W,O,ω⟩
     ·rw[RN J]
      refine aK ⟨_,rfl,.inl ⟨rfl,_,SqL.of (g _ _ I)⟩,_,rfl,L,_,_,rfl,rfl,g _ _ I,zX (by rw[Ab];omega),⟨as++[t],ab++[c],_,_,_,_,rfl,u.then X,df.upd kZ,by rw[ac,Ao];rfl,Tps.upd (Tps.snoc (g.tps W) rP) (g _ _ I) (by intro xs z;cases z),⟨?_,?_⟩,by rw[Ap];simp;omega⟩⟩
      ·rw[O2]
       refine⟨O.1,by simp,fun a ha b hb' e=>?_⟩;rw[OU] at hb';subst hb';subst e;exact J ha
      ·intro ps bZ
       rcases OW.mp bZ with h|h
       ·exact O.2 ps h
       ·rw[OU] at h;subst h;exact eQ
   ·rintro σ v ⟨as,ab,v2,v3,G,v5,rfl,C,q,cf,M,O,U⟩
    refine⟨_,rfl,_,rfl,p,L,as,ab,rfl,q,cf,M,ω,fun ps hp=>by have:=(O.2 ps hp).2.1;omega,fun D' bs ar first aF H5 N bj cE ba kM c1 c2 c3 c4 cj=>?_⟩;exact k D' bs ar H5 (C.trans N) bj (C.free hb q cE) ba kM ⟨ab,first,aF,.inr ⟨ω,O⟩,c1,c2,c3,c4,cj⟩
end
end K65
end
section
namespace K1
open PySem L2 STb
def FR:∀a b:List Int,HT.lexLt a b=true->HT.lexLt b a=false
 |[],[],h=>rfl
 |[],_::_,h=>rfl
 |_::_,[],h=>by rw[HT.ED] at h;exact absurd h An
 |x::xs,y::ys,h=>by
  rw[HT.zJ] at h ⊢
  by_cases e:x=y
  ·rw[RJ e] at h;rw[RJ e.symm];exact FR xs ys h
  ·rw[RK e] at h;rw[RK (fun z=>e z.symm)]
   have:=RO h;exact RN ω
def FS:∀a b:List Int,HT.lexLt a b=false->HT.lexLt b a=false->a=b
 |[],[],_,_=>rfl
 |[],_::_,h,_=>by rw[HT.ou] at h;exact absurd h ξ
 |_::_,[],_,h=>by rw[HT.ou] at h;exact absurd h ξ
 |x::xs,y::ys,h,h'=>by
  rw[HT.zJ] at h h'
  by_cases e:x=y
  ·rw[RJ e] at h;rw[RJ e.symm] at h'
   rw[e,FS xs ys h h']
  ·rw[RK e] at h;rw[RK (fun z=>e z.symm)] at h'
   have:=of_decide_eq_false h;have:=of_decide_eq_false h';omega
def mm:∀a b c:List Int,HT.lexLt b a=false->HT.lexLt c b=false->HT.lexLt c a=false
 |[],b,c,_,_=>by cases c with
  |nil=>rfl
  |cons _ _=>rfl
 |_::_,[],c,h,_=>by rw[HT.ou] at h;exact absurd h ξ
 |_::_,_::_,[],_,h=>by rw[HT.ou] at h;exact absurd h ξ
 |x::xs,y::ys,z::zs,h,h'=>by
  rw[HT.zJ] at h h' ⊢
  by_cases e:y=x
  ·rw[RJ e] at h
   by_cases e2:z=y
   ·rw[RJ e2] at h';rw[RJ (e2.trans e)];exact mm xs ys zs h h'
   ·rw[RK e2] at h';rw[RK ω]
    have:=of_decide_eq_false h';exact RN ω
  ·rw[RK e] at h
   have h1:=of_decide_eq_false h
   by_cases e2:z=y
   ·rw[RK ω]
    exact RN ω
   ·rw[RK e2] at h'
    have h2:=of_decide_eq_false h';rw[RK ω];exact RN ω
def key(p:List Int):List Int:=(p.length:Int)::p
def kle(a b:List Int):Bool:=!HT.lexLt (key b) (key a)
def m5{a b:List Int}:kle a b=true↔HT.lexLt (key b) (key a)=false:=by unfold kle;simp
def canon(ab:Ξ):Ξ:=(dd (ab.flatMap parts)).mergeSort kle
def r9(ab:Ξ):(canon ab).Perm (dd (ab.flatMap parts)):=List.mergeSort_perm _ _
def FT(ab:Ξ):(canon ab).Pairwise (fun a b=>kle a b=true):=by
 refine List.pairwise_mergeSort (fun a b c h1 h2=>?_) (fun a b=>?_) _
 ·rw[m5] at h1 h2 ⊢;exact mm _ _ _ h1 h2
 ·rw[Bool.or_eq_true,m5,m5]
  cases h:HT.lexLt (key b) (key a) with
  |false=>exact .inl rfl
  |true=>exact .inr (FR _ _ h)
def CK{ab:Ξ}{x:List Int}:x∈canon ab↔x∈ab.flatMap parts:=by rw[(r9 ab).mem_iff,i_]
def FU(ab:Ξ):(canon ab).Nodup:=(r9 ab).nodup_iff.mpr (rM _)
def CL(ab:Ξ):(canon ab).length=(dd (ab.flatMap parts)).length:=(r9 ab).length_eq
def K7{l m:Ξ}(hp:l.Perm m)(h1:l.Pairwise (fun a b=>kle a b=true))(h2:m.Pairwise (fun a b=>kle a b=true)):l=m:=by
 refine List.Perm.eq_of_pairwise (fun a b _ _ g1 g2=>?_) h1 h2 hp;rw[m5] at g1 g2;have:=FS _ _ g2 g1;unfold key at this;exact(List.cons.inj this).2
def canon_of{ab l:Ξ}(hp:l.Perm (dd (ab.flatMap parts)))(c:l.Pairwise (fun a b=>HT.lexLt ((b.length:Int)::b) ((a.length:Int)::a)=false)):l=canon ab:=
 K7 (hp.trans (r9 ab).symm) (c.imp fun h=>m5.mpr h) (FT ab)
def sn:∀(n:Nat)(p q:List Int),p.length=n->(q∈subs p↔q.Sublist p)
 |0,p,q,h=>by
  obtain rfl:=O5 h;show q∈[[]]↔_;simp
 |n+1,p,q,h=>by
  obtain⟨r,x,rfl⟩:∃r x,p=r++[x]:=by
   rcases List.eq_nil_or_concat p with e|⟨r,x,e⟩
   ·rw[e] at h;cases h
   ·exact⟨r,x,by rw[e,List.concat_eq_append]⟩
  have hr:r.length=n:=by simpa using h
  rw[Fx,OW,sn n r q hr,KK,List.sublist_append_iff];constructor
  ·rintro(h1|⟨y,hy,rfl⟩)
   ·exact⟨q,[],by simp,h1,List.nil_sublist _⟩
   ·exact⟨y,[x],rfl,(sn n r y hr).mp hy,List.Sublist.refl _⟩
  ·rintro⟨a,d,rfl,b,c⟩
   cases c with
   |cons _ h=>
    obtain rfl:=List.sublist_nil.mp h;exact .inl (by simpa using b)
   |cons_cons _ h=>
    obtain rfl:=List.sublist_nil.mp h;exact .inr ⟨a,(sn n r a hr).mpr b,rfl⟩
def ji{p q:List Int}:q∈parts p↔q≠[]/\q.Sublist p:=by
 obtain⟨t,e,ht⟩:=Fy p;have a:=sn p.length p q rfl;rw[e] at a;unfold parts;rw[e];show q∈t↔_;constructor
 ·intro h
  exact⟨ht q h,a.mp (As _ h)⟩
 ·rintro⟨h1,h2⟩
  rcases OT.mp (a.mpr h2) with h|h
  ·exact absurd h h1
  ·exact h
def pf:∀p:List Int,a6 p=true↔p.Pairwise (·<·)
 |[]=>by simp[a6]
 |[a]=>by simp[a6]
 |a::b::r=>by
  have c:=pf (b::r);rw[show a6 (a::b::r)=(decide (a<b)&&a6 (b::r)) from rfl,AK,decide_eq_true_eq,c,P7 (a:=a)];constructor
  ·rintro⟨h1,h2⟩
   refine⟨fun x hx=>?_,h2⟩;rcases OT.mp hx with rfl|hx
   ·exact h1
   ·have:=(P7.mp h2).1 x hx
    omega
  ·rintro⟨h1,h2⟩
   exact⟨h1 b Av,h2⟩
def jo{p:List Int}:eP p=true↔p≠[]/\p.length<=5/\(∀x∈p,0<=x/\x<=99)/\p.Pairwise (·<·):=by
 unfold eP;simp only[AK,decide_eq_true_eq,OX,pf];constructor
 ·rintro⟨⟨⟨h1,h2⟩,a⟩,b⟩
  exact⟨fun z=>by rw[z] at h1;simp at h1,h2,a,b⟩
 ·rintro⟨h1,h2,a,b⟩
  refine⟨⟨⟨?_,h2⟩,a⟩,b⟩;cases p with
  |nil=>exact absurd rfl h1
  |cons _ _=>simp
def K8{p q:List Int}(h:eP p=true)(hq:q∈parts p):eP q=true:=by
 rw[jo] at h ⊢;rw[ji] at hq;exact⟨hq.1,AC hq.2.length_le h.2.1,fun x hx=>h.2.2.1 x (hq.2.subset hx),h.2.2.2.sublist hq.2⟩
def K9{ab:Ξ}(g:ab.Nodup)(hp:∀p∈ab,eP p=true):FB ab ab.length:=by
 intro i p hi e;refine⟨fun hm=>?_,hp p (Aj e)⟩;obtain⟨j,b⟩:=OV.mp hm;obtain⟨c,a⟩:=B5.mp b;rw[AD] at c;obtain⟨d,f⟩:=B5.mp e;have:=Pi.mp g j i ω d ω;rw[List.getElem_take] at a;exact this (a.trans f.symm)
def K_{ab:Ξ}(a:ab.length<=20)(b:ab.Nodup)(hp:∀p∈ab,eP p=true)(h:(dd (ab.flatMap parts)).length<=200):dQ ab=true:=by
 rw[Kt ab a (K9 b hp),RM h]
def CM{ab:Ξ}(h:dQ ab=true):ab.length<=20/\(∀p∈ab,eP p=true)/\(∀p∈ab,p.length<=5)/\(dd (ab.flatMap parts)).length<=200:=by
 unfold dQ at h;simp only[AK,decide_eq_true_eq,OX] at h;obtain⟨⟨⟨h1,h2⟩,c⟩,b⟩:=h;have a:∀p∈ab,eP p=true:=fun p hp=>by rw[<-rQ];exact h2 p hp
 exact⟨h1,a,fun p hp=>(jo.mp (a p hp)).2.1,b⟩
def over(o p:List Int):Bool:=decide (p.length<o.length)&&p.all fun x=>decide (x∈o)
end K1
end
section
namespace K65
open K1
open PySem L2 STb
def K'(b:Ξ):Prop:=b.Nodup/\b.length<=17/\(∀ps∈b,ps≠[]/\ps.length<=5/\a6 ps=true/\∀x∈ps,0<=x/\x<=7)/\(b.flatMap parts).length<=200
def La:∀n,n<20->(known n).Nodup/\(known n).length<=17/\(∀ps∈known n,ps≠[]/\ps.length<=5/\a6 ps=true/\∀x∈ps,0<=x/\x<=7)/\((known n).flatMap parts).length<=200:=δ
def FV{m:Nat}:∀{b:Ξ},(∀ps∈b,(parts ps).length<=m)->(b.flatMap parts).length<=m*b.length
 |[],_=>by simp
 |p::r,h=>by
  have h1:=h p Av;have h2:=FV (b:=r) fun q hq=>h q (As _ hq);rw[O3,Ap,Ay,Nat.mul_succ];omega
def FW{b:Ξ}(h:Base b):K' b:=by
 rcases h with ⟨n,c,rfl⟩|⟨f,a⟩
 ·exact La n c
 ·refine⟨a.1,ω,fun ps hp=>?_,?_⟩
  ·obtain⟨h1,h2,d,e⟩:=a.2 ps hp
   exact⟨h1,ω,d,fun x hx=>by have:=e x hx;omega⟩
  ·have:=FV (m:=15) (b:=b) fun ps hp=>by
    rw[oU];have h2:=(a.2 ps hp).2.1;have:2 ^ ps.length<=2 ^ 4:=Nat.pow_le_pow_right ξ h2;omega
   omega
def Lb{first a:Int}(b:1<=a){p q:List Int}(h:cZ first a p=cZ first a q):p=q:=by
 unfold cZ at h;refine(Qm (f:=fun x=>first+a*x) (fun x y e=>?_)).mp h;have:a*x=a*y:=ω
 exact Int.eq_of_mul_eq_mul_left ω this
def Lc{first f:Int}(i:0<=first)(h1:first<12)(j:1<=f)(l:f<=3){p:List Int}(h:p≠[]/\p.length<=5/\a6 p=true/\∀x∈p,0<=x/\x<=7):eP (cZ first f p)=true:=by
 obtain⟨a,b,c,d⟩:=h;rw[jo];unfold cZ;refine⟨fun z=>a (List.map_eq_nil_iff.mp z),by rw[Ab];exact b,fun y hy=>?_,?_⟩
 ·obtain⟨x,hx,rfl⟩:=KK.mp hy
  have:=d x hx;have g:f=1\/f=2\/f=3:=ω
  rcases g with rfl|rfl|rfl<;>omega
 ·rw[pf] at c
  rw[AX];refine c.imp fun{x y} e=>?_;have:f*x<f*y:=Int.mul_lt_mul_of_pos_left e ω;omega
def Ld{q:Ξ}(h:Drawn q):dQ q=true/\q.Nodup/\q.length<=17:=by
 obtain⟨b,first,d,hb,f,h1,a,g,hp⟩:=h;obtain⟨n1,n2,i,j⟩:=FW hb;have l:q.length<=17:=by rw[hp.length_eq,Ab];exact n2
 have c:q.Nodup:=by
  rw[hp.nodup_iff];unfold List.Nodup at n1 ⊢;rw[AX];exact n1.imp fun{x y} e z=>e (Lb a z)
 refine⟨K_ ω c (fun p hm=>?_) ?_,c,l⟩
 ·obtain⟨r,hr,rfl⟩:=KK.mp (hp.mem_iff.mp hm)
  exact Lc f h1 a g (i r hr)
 ·refine AC (kt _) ?_
  rw[(hp.flatMap_right parts).length_eq];have:∀b:Ξ,((b.map (cZ first d)).flatMap parts).length=(b.flatMap parts).length:=by
   intro b
   induction b with
   |nil=>rfl
   |cons p r ih=>
    rw[Aq,O3,O3,Ap,Ap,ih,oU,oU];unfold cZ;rw[Ab]
  rw[this];exact j
end K65
end
section
namespace K1
open PySem L2 STb
def rims(q:List Int):Ξ:=if q.length=1 then [] else(AJ q.length).map fun k=>q.take k++q.drop (k+1)
def kE(q:List Int):(rims q).length<=q.length:=by
 unfold rims;split
 ·exact A1 _
 ·simp
def CN{p q:List Int}:p∈rims q↔q.length≠1/\∃k,k<q.length/\p=q.take k++q.drop (k+1):=by
 unfold rims;split
 next h=>simp[h]
 next h=>
  rw[KK];constructor
  ·rintro⟨k,hk,rfl⟩
   exact⟨h,k,P6.mp hk,rfl⟩
  ·rintro⟨_,k,hk,rfl⟩
   exact⟨k,P6.mpr hk,rfl⟩
def CO:∀(o p:List Int),o.Pairwise (·<·)->p.Pairwise (·<·)->(∀x∈p,x∈o)->p.Sublist o
 |[],p,_,_,h=>by
  cases p with
  |nil=>exact List.Sublist.slnil
  |cons a r=>exact absurd (h a Av) (by simp)
 |b::o,p,ho,hp,h=>by
  obtain⟨f,c⟩:=P7.mp ho;cases p with
  |nil=>exact List.nil_sublist _
  |cons a r=>
   obtain⟨d,g⟩:=P7.mp hp
   by_cases e:a=b
   ·subst e
    refine(CO o r c g fun x hx=>?_).cons_cons a;rcases OT.mp (h x (As _ hx)) with rfl|q
    ·have:=d x hx;omega
    ·exact q
   ·have ha:a∈o:=by
     rcases OT.mp (h a Av) with q|q
     ·exact absurd q e
     ·exact q
    have i:=f a ha;refine(CO o (a::r) c hp fun x hx=>?_).cons b;rcases OT.mp (h x hx) with q|q
    ·exfalso
     rcases OT.mp hx with z|z
     ·omega
     ·have:=d x z;omega
    ·exact q
def FX{p q:List Int}{k:Nat}(hk:k<q.length)(h:p=q.take k++q.drop (k+1)):p.Sublist q/\p.length<q.length:=by
 subst h;refine⟨?_,?_⟩
 ·have h1:(q.take k++q.drop (k+1)).Sublist (q.take k++q.drop k):=(List.Sublist.refl _).append (by
   rw[show q.drop (k+1)=(q.drop k).drop 1 by rw[List.drop_drop]];exact List.drop_sublist _ _)
  rwa [Q7] at h1
 ·rw[Ap,AD,Pg]
  omega
end K1
end
section
namespace K65
open K1
open PySem L2 STb
def Le:∀n,n<20->(dd ((known n).flatMap parts)).length<=56:=δ
def six:Ξ:=(parts [0,1,2,3,4,5]).filter fun q=>decide (q.length<=4)
def Lf:six.length=56:=δ
def Lg{b:Ξ}(h:Base b):(dd (b.flatMap parts)).length<=56:=by
 rcases h with ⟨n,a,rfl⟩|⟨d,c⟩
 ·exact Le n a
 ·rw[<-Lf]
  refine(rM _).length_le_of_subset fun x hx=>?_;rw[i_,O7] at hx;obtain⟨p,hp,hx⟩:=hx;obtain⟨_,e,hr,hb⟩:=c.2 p hp;rw[ji] at hx;have f:=hx.2.length_le;unfold six;rw[O0,ji];refine⟨⟨hx.1,hx.2.trans (CO _ _ ξ ((pf p).mp hr) fun y hy=>?_)⟩,RM ω⟩;have:=hb y hy;have:y=0\/y=1\/y=2\/y=3\/y=4\/y=5:=ω
  rcases this with rfl|rfl|rfl|rfl|rfl|rfl<;>decide
def FY{q:Ξ}(h:Drawn q):(dd (q.flatMap parts)).length<=56:=by
 obtain⟨b,first,d,hb,_,_,_,_,hp⟩:=h;refine AC ?_ (Lg hb);have e:((dd (b.flatMap parts)).map (cZ first d)).length=(dd (b.flatMap parts)).length:=Ab _;rw[<-e];refine(rM _).length_le_of_subset fun x hx=>?_;rw[i_,O7] at hx;obtain⟨p,hm,hx⟩:=hx;obtain⟨r,hr,rfl⟩:=KK.mp (hp.mem_iff.mp hm);rw[ji] at hx;obtain⟨a,c⟩:=hx;unfold cZ at c;obtain⟨y,hy,rfl⟩:=List.sublist_map_iff.mp c;refine KK.mpr ⟨y,?_,rfl⟩;rw[i_,O7];exact⟨r,hr,ji.mpr ⟨fun z=>a (by rw[z];rfl),hy⟩⟩
end K65
end
section
namespace K65
open K1
open PySem L2 STb
def FZ{H:Hp}:∀{a:List (List Int×Addr)},(∀q∈a,Tp H q.2 q.1)->Tps H (a.map (·.2)) (a.map (·.1))
 |[],_=>.nil
 |q::r,h=>.cons (h q Av) (FZ fun x hx=>h x (As _ hx))
def Lh{H H2:Hp}{ab:Ξ}{D:Addr}{a:List (List Int×Addr)}(t:Told H H2 ab D a):∃bs,Same H H2/\H D=none/\H2 D=some (.lst (bs.map V.ref))/\Tps H2 bs (canon ab):=by
 obtain⟨sm,b,c,hq,hp,d⟩:=t;have e:a.map (·.1)=canon ab:=canon_of hp (List.pairwise_map.mpr d);refine⟨a.map (·.2),sm,b,by rw[c,Ak];rfl,?_⟩;rw[<-e];exact FZ hq
end K65
end
section
namespace K65
open K1
open PySem L2 STb
abbrev ph:Stmt:=top 8
def pi(xs:List V)(i:Nat)(h:i<=xs.length):c6 xs none (some (i:Int))=xs.take i:=by
 unfold c6;rw[HT.x3,HT.q8,Nat.min_eq_left h,List.drop_zero,Rh]
def pj(xs:List V)(i:Nat)(h:i<=xs.length):c6 xs (some (i:Int)) none=xs.drop i:=by
 unfold c6;rw[HT.x3,HT.q8,Nat.min_eq_left h];exact AA (by rw[Pg];exact Ag _)
abbrev jp:TE:=bY B' (yk ku (ay 1) ya (yb (ay 0))) (yk ku (ay 1) (yb (bY (eu fun i j=>.int (i+j)) (ay 0) (tC (.int 1)))) ya)
section
variable{P:Program}{w:World}{K:Ae}{mg:Str->Option Value}{base:Heap}
def Li{H2:Hp}{a D:Addr}{ps:List Int}{Q:VK}(ha:Tp H2 a ps)(hz:ps.length<=5)(o:H2 D=none)(k:∀(H3:Hp)(bs:List Addr),Same H2 H3->H3 D=some (.lst (bs.map V.ref))->Tps H3 bs ((AJ ps.length).map fun k=>ps.take k++ps.drop (k+1))->Q (.ref D) H3):cG (hB 0 ps.length) (zU 0) bT jp [none,some (.ref a)] H2 D Q:=by
 refine B9 (fun j σ ys H3=>∃(v:Option V)(bs:List Addr),σ=[v,some (.ref a)]/\Same H2 H3/\H3 D=some (.lst ys)/\ys=bs.map V.ref/\Tps H3 bs (((AJ ps.length).map fun k=>ps.take k++ps.drop (k+1)).take j)) ?_ ?_ ?_
 ·exact⟨none,[],rfl,Same.new o,ac,rfl,.nil⟩
 ·rintro j σ ys H3 l hy ⟨v,bs,rfl,sm,b,rfl,hb⟩
  have e:((AJ ps.length).map fun k=>ps.take k++ps.drop (k+1))[j]?=some (ps.take j++ps.drop (j+1)):=by rw[Af,QC l];rfl
  refine cw ?_;refine⟨_,rfl,_,rfl,_,rfl,a,_,rfl,sm.tp ha,fun p u d f=>⟨_,rfl,_,rfl,_,_,rfl,rfl,_,rfl,a,_,rfl,d _ _ (sm.tp ha),fun p2 w g h=>?_⟩⟩;rw[show(0:Int)+((j:Nat):Int)=((j:Nat):Int) from ω,pi _ _ (by rw[Ab];omega),<-Rt] at f;rw[show(0:Int)+((j:Nat):Int)+1=((j+1:Nat):Int) from ω,pj _ _ (by rw[Ab];omega),<-List.map_drop] at h;refine⟨p,p2,_,_,rfl,rfl,g _ _ f,h,zg (by simp;omega),fun q x r i=>?_⟩;rw[<-Ao] at i;have c:=(d.trans g).trans r;refine bi (zg ω) l hy (c _ _ b) ⟨_,bs++[q],rfl,(sm.trans c).then o,ac,by rw[Ao];rfl,?_⟩;rw[AE e];exact Tps.upd (Tps.snoc (c.tps hb) i) (c _ _ b) (by intro xs z;cases z)
 ·rintro σ ys H3 ⟨v,bs,rfl,sm,b,rfl,hb⟩
  rw[AA (by simp)] at hb;exact k H3 bs sm b hb
def kH:Sp:=fun vs H Q _=>∃a ps,vs=[.ref a]/\Tp H a ps/\ps.length<=5/\∀D H2(bs:List Addr),Same H H2->H D=none->H2 D=some (.lst (bs.map V.ref))->Tps H2 bs (rims ps)->Q (.ref D) H2
def Lj:zr ["piece"] ["piece"] (zh ph):=⟨rfl,rfl,rfl,δ,rfl,δ,δ⟩
def F0{f:Addr}{fd:FuncData}(F:Fun K "rims_of" "rims_of" ph f fd)(B:Bt mg):FnOk P w K mg base aG 1 f fd ["piece"] kH:=by
 refine F.ok Lj (fun vs H Q E h=>?_) (fun cdv A outer s H vs Q E hr h=>?_)
 ·obtain⟨a,ps,rfl,_⟩:=h;rfl
 ·obtain⟨a,ps,rfl,ha,e,k⟩:=h
  refine⟨_,ze (zR (zn db (zm zl rfl B.len cV (zc (pv 0) zd)) zf (au _)) (zi (zq (zV zd))) zt)
   (zi (zq (zv ["piece"] ["k","piece"] [none,some 0] (lH rfl B.range (zc (zm zl rfl B.len cV (zc (pv 0) zd)) zd)) (fun c C s₀ H₀ ex=>zk (i:=0) (cv ["k","piece"]) rfl (Or.inl rfl)) (fun c C s₀ H₀ ex=>zP)
    (fun c C s₀ H₀ ex=>zx Ce (oy rS (pv 1) ow (ox (pv 0))) (oy rS (pv 1) (ox (zx dq (pv 0) zf)) ow)) (hfr:=b_ (zh ph) δ) (te:=jp)))),?_⟩
  refine⟨_,rfl,a,_,rfl,.inr (SqT.of ha),rfl,_,rfl,?_⟩;rw[Ab]
  by_cases h1:ps.length=1
  ·rw[show decide (V.int (ps.length:Int)=V.int 1)=true from RM (by rw[h1];rfl)]
   refine aK ⟨zg (by simp),fun D b=>k D _ [] (Same.new b) b ac ?_⟩;unfold rims;rw[RJ h1];exact .nil
  ·rw[show decide (V.int (ps.length:Int)=V.int 1)=false from RN fun z=>h1 (by injection z with z;omega)]
   refine aO ⟨_,rfl,a,_,rfl,.inr (SqT.of ha),_,rfl,by rw[Ab];omega,by rw[Ab];omega,fun D b=>?_⟩;rw[Ab];refine zE (Li ha e b fun H3 bs sm d hb=>k D H3 bs sm b d ?_);unfold rims;rw[RK h1];exact hb
def F2(seq:Ξ)(p:List Int):(bq (fg seq) (p.map Sum.inl)).isSome=decide (p∈seq):=by
 rw[<-yU,P9,Qi,decide_eq_true_eq];unfold fg;constructor
 ·rintro⟨kv,hm,e⟩
  obtain⟨q,hq,rfl⟩:=KK.mp hm;have e':=RO e;have:q=p:=(Qm (f:=(Sum.inl:Int->Key)) (fun x y h=>Sum.inl.inj h)).mp e';rw[<-this];exact(i_ seq q).mp hq
 ·intro h
  exact⟨_,KK.mpr ⟨p,(i_ seq p).mpr h,rfl⟩,by simp⟩
end
end K65
end
section
namespace L2
open PySem PySem.Spec PyProof.Rows
section
variable{X:Cx}
def pk(v d:Addr):HO:=.ext fun h=>h.IsValuesView v d
end
end L2
end
section
namespace Dk
open PySem PySem.Spec PyProof.Rows
section
variable{prog:Program}{w:World}{A:Around}{E:Ω}{s:Shared}{it d v:Addr}{i ep:Nat}{es:Array DictEntry}
def pl{Q:Ω}(a:s.heap.IsValuesView v d)(hm:IsD s.heap d es ep)(h:Q (.ref s⁻¹) {s with heap:=s.heap.push {cls:=.type "dict_valueiterator",data:=.fields #[.ref d,.int 0 0,.int es.size 0,.int ep 0]}}):wpAny (model prog w) A (pyIter (.ref v)) Q E s:=by
 obtain⟨i,e,j,f⟩:=id a;obtain⟨o,b,hc,c⟩:=id hm;refine wpAny_pyIter_slot a.typeIs Ra (AG Ra a.typeIs PySem.F.entry_dict_values_iter ?_ (PySem.F.args_dict_values_iter_1 _));unfold Builtin.«dict_values.__iter__»;refine Aa (Ac ?_);refine Aa ?_;unfold Builtin.Dict_items.dictOf;refine Aa (A7 e f (x:=.ref d) rfl (Ac ?_));refine Aa ?_;unfold Builtin.Dict_items.newIterator;refine Aa (AB b c ?_);refine Aa (Bc b c ?_);have g:Builtin.Dict_items.ownsTuple "dict_valueiterator"=false:=ξ
 simp only[g,Az,if_false];refine AF (Ac ⟨_,rfl,"dict_valueiterator",_,⟨_,Al _ rfl,rfl⟩,PySem.F.slot_dict_valueiterator_next.lookup,?_⟩)
 simpa[rawInt] using h
def pq{Q:Option Value->Shared->Prop}(a:s.heap.IsValIter it d i es.size ep)(hm:IsD s.heap d es ep)(hx:i<es.size)(g:∀h',h'.IsValIter it d (i+1) es.size ep->Heap.SameBut it s.heap h'->Q (some es[i].val) {s with heap:=h'}):wpAny (model prog w) A (pyNext (.ref it)) Q E s:=by
 obtain⟨o,b,hc,hd⟩:=id a;obtain⟨h,e,j,hdd⟩:=id hm;unfold pyNext;refine Aa (wpAny_attempt (AL (name:=Bb "__next__") a.typeIs Pk
  (AG Pk a.typeIs Qz ?_ (Qt _))))
 refine Aa (Ac ?_);refine Aa ?_;refine Aa ?_
 first|refine Aa (wpAny_typeNameOfWhole_valiter a.typeIs (Ac ?_))|refine Aa (wpAny_typeNameOf_valiter a.typeIs (Ac ?_))
 refine Aa (wpAny_fieldsOf b hd ?_);have f:Builtin.Dict_items.ownsTuple "dict_valueiterator"=false:=ξ
 simp only[f,Az,if_false];show wpAny _ _ (if(Value.ref d==Value.none)=true then _ else _) _ _ s;rw[RK (show ¬((Value.ref d==Value.none)=true) from An)];refine Aa (Ac ?_);refine Aa (AB e hdd ?_);rw[RK (by simp)];refine Aa (Ac ?_);refine Aa (Bc e hdd ?_);rw[RK (by simp)];refine Ac ?_;simp only[show ¬((i:Int)<0) from ω,if_false,Pa,Pj hx];refine Aa ?_
 first|refine Aa (wpAny_typeNameOfWhole_valiter a.typeIs (Ac ?_))|refine Aa (wpAny_typeNameOf_valiter a.typeIs (Ac ?_))
 refine Aa (wpAny_isOneOf_valiter a.typeIs ?_);show wpAny _ _ (setField (.ref it) 1 (rawInt ((i:Int)+1)) >>= _) _ _ s;refine Aa (wpAny_setField b hd (by simp) ?_);have c:(s.heap.update it (Obj.mapFields (·.setIfInBounds 1 (rawInt ((i:Int)+1))))).IsValIter it d (i+1) es.size ep:=
  ⟨_,Heap.get?_update_self _ b (Obj.isFreed_of_fields (Obj.data_mapFields hd _)),(Obj.cls_mapFields ..).trans hc,by rw[Obj.data_mapFields hd];simp[rawInt]⟩
 refine Aa (AI ?_);refine Aa (wpAny_isOneOf_valiter (s:={s with heap:=s.heap.update it (Obj.mapFields (·.setIfInBounds 1 (rawInt ((i:Int)+1))))}) c.typeIs ?_);refine Aa (wpAny_isOneOf_valiter (s:={s with heap:=s.heap.update it (Obj.mapFields (·.setIfInBounds 1 (rawInt ((i:Int)+1))))}) c.typeIs ?_);show wpAny _ _ (pure es[i].val) _ _ _;exact Ac (Ac ⟨_,rfl,Ac (g _ c (AH ..))⟩)
def pw{Q:Option Value->Shared->Prop}(h:A.handled=none)(c:s.heap.IsValIter it d es.size es.size ep)(hm:IsD s.heap d es ep)(i:∀h',Heap.ExtBut it s.heap h'->Q none {s with heap:=h'}):wpAny (model prog w) A (pyNext (.ref it)) Q E s:=by
 obtain⟨o,e,hc,hd⟩:=id c;obtain⟨j,f,l,hdd⟩:=id hm;unfold pyNext;refine Aa (wpAny_attempt (AL (name:=Bb "__next__") c.typeIs Pk
  (AG Pk c.typeIs Qz ?_ (Qt _))))
 refine Aa (Ac ?_);refine Aa ?_;refine Aa ?_
 first|refine Aa (wpAny_typeNameOfWhole_valiter c.typeIs (Ac ?_))|refine Aa (wpAny_typeNameOf_valiter c.typeIs (Ac ?_))
 refine Aa (wpAny_fieldsOf e hd ?_);have g:Builtin.Dict_items.ownsTuple "dict_valueiterator"=false:=ξ
 simp only[g,Az,if_false];show wpAny _ _ (if(Value.ref d==Value.none)=true then _ else _) _ _ s;rw[RK (show ¬((Value.ref d==Value.none)=true) from An)];refine Aa (Ac ?_);refine Aa (AB f hdd ?_);rw[RK (by simp)];refine Aa (Ac ?_);refine Aa (Bc f hdd ?_);rw[RK (by simp)];refine Ac ?_;simp only[show ¬((es.size:Int)<0) from ω,if_false,Pa,QX (Ag es.size)];refine Aa ?_
 first|refine Aa (wpAny_typeNameOfWhole_valiter c.typeIs (Ac ?_))|refine Aa (wpAny_typeNameOf_valiter c.typeIs (Ac ?_))
 show wpAny _ _ (setField (.ref it) 0 .none >>= _) _ _ s;refine Aa (wpAny_setField e hd (by simp) ?_);show wpAny _ _ (newExc (.type "StopIteration") [] >>= _) _ _ _;refine Aa ?_;simp only[newExc,newTuple];refine Aa (AF ?_ (by size_fits));refine Aa (m:=firstArgMember _ _) (wpAny_of_eq (a:=Value.none) (by first|rfl|(simp only[firstArgMember];rfl)) ?_);refine AF ?_ (by size_fits);simp only[raiseNew];refine Aa (wpAny_handled ?_);rw[show A.in1.handled=none from h];refine Aa (Ac (wpAny_throw ?_));refine Aa (wpAny_isInstance (T:="StopIteration") (b:=true) ⟨_,Al _ rfl,rfl⟩ isSubtype_stop ?_);exact Ac (i _ (((AH ..).extBut.push _).push _))
end
end Dk
namespace L2
open PySem PySem.Spec PyProof.Rows
section
variable{X:Cx}
def zM(hc:X.calm=true):da X (.type "list") (fun xs H Q=>∃a kvs,xs=[.ref a]/\Rd H a (.dT kvs)/\
  ∀(bs:List Addr),Paired (fun(p:List Key×V) b=>H b=some (.tup (p.1.map kV))) kvs bs->∀l,H l=none->Q (.ref l) (upd H l (.lst (bs.map V.ref)))):=by
 intro aa s σ H xs us Q I r h;obtain⟨a,kvs,rfl,hq,q⟩:=h;obtain⟨u,rfl,j⟩:=vals1 r;cases j;obtain⟨z,y,ys,c,o,es,ep,h1,h2,v,d,D⟩:=(show zF X.prog X.w H s.heap a (.dT kvs) from hq.ok I.hok);have f:es.size=kvs.length:=by
  have:=congrArg List.length d;rw[Ab,<-AN c] at this
  simpa using this
 refine Rx (Dk.src (ep:=ep) (es:=es) y) (I.ok.hd hc) ⟨o,h1,h2,v⟩ (by rw[f];exact z) fun h' tk acc c' g e it=>?_;obtain⟨n1,n2⟩:=it;have x:Paired (fun(p:List Key×V) b=>H b=some (.tup (p.1.map kV))) kvs (ys.map (·.2.1)):=by
  have:∀{l:List (List Key×V)}{m:List (List Key×Addr×Value)},KT H l m->Paired (fun(p:List Key×V) b=>H b=some (.tup (p.1.map kV))) l (m.map (·.2.1)):=by
   intro l m q
   induction q with
   |nil=>exact .nil
   |cons hq t ih=>exact .cons hq.2.1 ih
  exact this c
 have A:acc.toList=(ys.map (·.2.1)).map Value.ref:=by
  apply Rn;intro i;have hy:ys.length=acc.size:=by rw[n1,f];exact(AN c).symm
  by_cases hi:i<acc.size
  ·obtain⟨e',g1,g2⟩:=n2 i acc[i] (by simp[hi])
   have g3:es.toList[i]?=some e':=by simpa using g1
   rw[d,Af] at g3;have g4:ys[i]?=some ys[i]:=by simp[hy,hi]
   rw[g4] at g3;simp only[AS,AW] at g3;simp only[Af,g4,AS,Q5,Pj hi];rw[g2,<-g3]
   rfl
  ·have g1:acc.toList.length<=i:=by simp;omega
   have g2:((ys.map (·.2.1)).map Value.ref).length<=i:=by simp[hy];omega
   rw[Pn g1,Pn g2]
 have C:Vals ((ys.map (·.2.1)).map V.ref) acc.toList:=by
  rw[A];generalize ys.map (·.2.1)=bs
  induction bs with
  |nil=>exact .nil
  |cons b bs ih=>exact .cons rfl ih
 refine⟨.ref s⁻¹,_,I.laid g (Ag _) (show zF X.prog X.w _ h' _ (.lst ((ys.map (·.2.1)).map V.ref)) from⟨?_,acc.toList,c',C,by simpa using e⟩),rfl,q _ x _ (I.hok.fresh (Ag _))⟩;simp only[Ab];rw[<-AN c];exact z
def zk4:V->List V->Hp->VK->Prop:=fun x vs H Q=>∃d kvs,x=.ref d/\vs=[]/\Rd H d (.dT kvs)/\∀v,H v=none->Q (.ref v) (upd H v (pk v d))
def gK:q9 X "dict.values" zk4:=by
 intro aa s σ H x vs v us Q I a e h;obtain⟨d,kvs,rfl,rfl,hd,q⟩:=h;cases a;obtain rfl:=e.zero;obtain⟨z,f,ys,g,o,es,ep,h1,h2,l,r,u⟩:=(show zF X.prog X.w H s.heap d (.dT kvs) from hd.ok I.hok);have hT:s.TypeIs (.ref d) "dict":=⟨o,h1,h2.1⟩;have j:MeetsIn X.prog X.w (Builtin.«dict.values» ⟨[.ref d],[]⟩) (fun _ R s=>s.TypeIs (.ref d) "dict"/\R (.ok (.ret (.ref s⁻¹))) {s with heap:=s.heap.push {cls:=.type "dict_values",data:=.fields #[.ref d]}}):=
  .of_wp fun A R s ⟨hT,h⟩=>by
   refine Aa ?_;unfold Builtin.Dict.noArgs;refine Aa (wpAny_notOrdered_dict hT ?_);show wpAny _ _ (pure d) _ _ s;refine Ac ?_;show wpAny _ _ (Builtin.Dict.showsAll d >>= _) _ _ s;unfold Builtin.Dict.showsAll;rw[RK (by rw[f];exact An)];refine Aa (Ac ?_);exact Aa (AF (Ac ⟨_,rfl,h⟩))
 refine call_meetsIn PySem.F.slot_dict_values hT PySem.F.entry_dict_values (PySem.F.args_dict_values_1 _) j ⟨hT,?_⟩;refine⟨.ref s⁻¹,_,I.laid (t':=s.toks) (o:=pk s⁻¹ d) (fun b ob q=>Ad _ q) (Ag _) ?_,rfl,q _ (I.hok.fresh (Ag _))⟩;refine⟨⟨_,Al _ rfl,rfl,rfl⟩,⟨_,Al _ rfl⟩,fun h1 h2 p k=>?_⟩;obtain⟨o,i,c⟩:=p;exact⟨o,k o i,c⟩
def CP(d:Addr)(o:Obj)(kvs:List (List Key×V)):It:=⟨fun i H=>i<kvs.length/\H d=some (.frz o (.dT kvs)),fun i H v H'=>H'=H/\∃kv,kvs[i]?=some kv/\v=kv.2,fun i H=>i=kvs.length/\H d=some (.frz o (.dT kvs))⟩
def Lk{P:Program}{w:World}{K:Ae}{tg:Expr}(d it:Addr){o:Obj}{kvs:List (List Key×V)}{es:Array DictEntry}{ep:Nat}(hx:o.ExactDict)(C:o.data=.dict es ep)(hsz:es.size=kvs.length)(hk:∀(i:Nat)kv(hi:i<es.size),kvs[i]?=some kv->RelV kv.2 es[i].val):Turn P w K tg (CP d o kvs) [it] it (fun i h=>h.IsValIter it d i es.size ep) where
 mem:=by simp
 obj:=fun i h st b hb=>by
  have e:b=it:=by simpa using hb
  subst e;obtain⟨o,e,c,dd⟩:=st;exact⟨o,e,fun v z=>by rw[dd] at z;cases z⟩
 keep:=fun i h h' st k=>by
  obtain⟨o,e,c⟩:=st;exact⟨o,k it (by simp) o e,c⟩
 item:=by
  intro X f hw g hc i aa s σ H E I hf st j;subst f hw g;obtain⟨l,f1,f2,p,q,r⟩:=hf it (by simp);obtain⟨hi,u⟩:=j;have hm:Dk.IsD s.heap d es ep:=⟨o,(show zF X.prog X.w H s.heap d (.frz o (.dT kvs)) from I.hok d _ u).1,hx,C⟩;have a:i<es.size:=by rw[hsz];exact hi
  refine Dk.pq st hm a fun h' x sb=>?_;have F:Inv X aa σ H {s with heap:=h'}:=I.turned (t':=s.toks) (fun b o hb e=>(sb.2 b hb).trans e) l f1 p q r;obtain⟨G,e1,e2,e3⟩:=id x;have y:kvs[i]?=some kvs[i]:=Ai hi;exact⟨_,rfl,lB (s:={s with heap:=h'}) e1 e2 e3 ξ ⟨kvs[i].2,H,F,hk i _ a y,⟨rfl,_,y,rfl⟩,x,fun b hb=>(hf b hb).1⟩⟩
 done:=by
  intro X f hw g hc i aa s σ H E I hf st j;subst f hw g;obtain⟨l,f1,f2,p,q,r⟩:=hf it (by simp);obtain⟨hi,u⟩:=j;have hm:Dk.IsD s.heap d es ep:=⟨o,(show zF X.prog X.w H s.heap d (.frz o (.dT kvs)) from I.hok d _ u).1,hx,C⟩;have a:i=es.size:=by rw[hsz];exact hi
  subst a;exact Dk.pw (I.ok.hd hc) st hm fun h' D=>⟨rfl,I.turned (t':=s.toks) (fun b o hb e=>D b o hb e) l f1 p q r⟩
 self:=fun A i s Q E st h=>wpAny_pyIter_valiter st h
def Ll(te:TE):TI:=fun σ H R=>te σ H fun x H1=>∃v d kvs,x=.ref v/\H1 v=some (pk v d)/\Rd H1 d (.dT kvs)/\∀o H2,H2 d=some (.frz o (.dT kvs))->(∀b,b≠d->H2 b=H1 b)->R (CP d o kvs) H2
def CQ{H:Hp}:∀{l:List (List Key×V)}{m:List (List Key×Addr×Value)}{i:Nat}{kv:List Key×V},KT H l m->l[i]?=some kv->∃w,m[i]?=some w/\kv.1=w.1/\RelV kv.2 w.2.2
 |_,_,0,_,.cons h _,e=>by cases e;exact⟨_,rfl,h.1,h.2.2⟩
 |_,_,i+1,_,.cons _ t,e=>CQ (i:=i) t (by simpa using e)
def Lm{tg l:Expr}{tl:TE}(M:PE X l tl):PI X tg l (Ll tl):=by
 intro aa s σ H R I h;refine aW (M aa s σ H _ I h) fun v a ⟨x,H1,I1,y,C⟩=>?_;obtain⟨v,d,kvs,e,F,hd,q⟩:=C;subst e;cases y;have L:a.heap.IsValuesView v d:=(show zF X.prog X.w H1 a.heap v (pk v d) from I1.hok v _ F).1;have go:∀(o:Obj)(H2:Hp),Inv X aa σ H2 a->H2 d=some (.frz o (.dT kvs))->(∀b,b≠d->H2 b=H1 b)->wpAny (model X.prog X.w) X.A (pyIter (.ref v)) (qP X aa σ tg R) X.xe a:=by
  intro o H2 I2 p D;obtain⟨G,z,r,ys,c,o',es,ep,h1,h2,f,g,u⟩:=(show zF X.prog X.w H2 a.heap d (.frz o (.dT kvs)) from I2.hok d _ p);obtain rfl:o=o':=Ah (G.symm.trans h1);have hsz:es.size=kvs.length:=by
   have:=congrArg List.length g;rw[Ab,<-AN c] at this
   simpa using this
  have hm:Dk.IsD a.heap d es ep:=⟨o,h1,h2,f⟩;refine Dk.pl L hm ?_;have hfr:H2 a⁻¹=none:=I2.hok.fresh (Ag _);refine⟨a⁻¹,[a⁻¹],_,_,_,rfl,I2.kept (t':=a.toks) fun b o e=>Ad _ e,Lk d _ h2 f hsz (fun i kv hi e=>?_),⟨_,Al _ rfl,rfl,rfl⟩,fun b hb=>?_,q o H2 p D⟩
  ·obtain⟨N,J,g1,g2⟩:=CQ c e
   have g3:es.toList[i]?=some es[i]:=by simp[hi]
   rw[g,Af,J] at g3;simp only[AS,AW] at g3;rw[<-g3];exact g2
  ·have e:b=a⁻¹:=by simpa using hb
   subst e;exact I2.fpOk (Ag _) hfr
 rcases hd with hd|⟨o,hd⟩
 ·obtain⟨z,r,ys,c,o,es,ep,h1,h2,f,g,u⟩:=(show zF X.prog X.w H1 a.heap d (.dT kvs) from I1.hok d _ hd)
  have j:KT (upd H1 d (.frz o (.dT kvs))) kvs ys:=KT.keeps c fun b zs e=>by rw[ae (fun E=>by rw[E,hd] at e;cases e)];exact e
  exact go o (upd H1 d (.frz o (.dT kvs))) (l' (ob:=.frz o (.dT kvs)) (t':=a.toks) I1 (by rw[hd];exact True.intro) (Heap.SameBut.refl _ _) ⟨o,h1⟩ ⟨h1,z,r,ys,j,o,es,ep,h1,h2,f,g,u⟩) ac fun b hb=>ae hb
 ·exact go o H1 I1 hd fun _ _=>rfl
end
end L2
end
section
namespace L2
open PySem PySem.Spec PyProof.Rows
section
variable{X:Cx}
def kP(d:Addr)(o:Obj)(kvs:List (List Key×V)):It:=⟨fun i H=>i<kvs.length/\H d=some (.frz o (.dT kvs)),fun i H v H'=>H'=H/\∃kv b,kvs[i]?=some kv/\v=.ref b/\H b=some (.tup (kv.1.map kV)),fun i H=>i=kvs.length/\H d=some (.frz o (.dT kvs))⟩
def kt_at{H:Hp}:∀{l:List (List Key×V)}{m:List (List Key×Addr×Value)}{i:Nat}{kv:List Key×V},KT H l m->l[i]?=some kv->∃w,m[i]?=some w/\H w.2.1=some (.tup (kv.1.map kV))
 |_,_,0,_,.cons h _,e=>by cases e;exact⟨_,rfl,h.2.1⟩
 |_,_,i+1,_,.cons _ t,e=>kt_at (i:=i) t (by simpa using e)
def Ln{P:Program}{w:World}{K:Ae}{tg:Expr}(d it:Addr){o:Obj}{kvs:List (List Key×V)}{es:Array DictEntry}{ep:Nat}(hx:o.ExactDict)(C:o.data=.dict es ep)(hsz:es.size=kvs.length):Turn P w K tg (kP d o kvs) [it] it (fun i h=>h.IsKeyIter it d i es.size ep) where
 mem:=by simp
 obj:=fun i h st b hb=>by
  have e:b=it:=by simpa using hb
  subst e;obtain⟨o,e,c,dd⟩:=st;exact⟨o,e,fun v z=>by rw[dd] at z;cases z⟩
 keep:=fun i h h' st k=>by
  obtain⟨o,e,c⟩:=st;exact⟨o,k it (by simp) o e,c⟩
 item:=by
  intro X f hw g hc i aa s σ H E I hf st j;subst f hw g;obtain⟨l,f1,f2,p,q,r⟩:=hf it (by simp);obtain⟨hi,u⟩:=j;obtain⟨F,z,U,ys,x,o',W,Y,h1,h2,M,N,h5⟩:=(show zF X.prog X.w H s.heap d (.frz o (.dT kvs)) from I.hok d _ u);obtain rfl:o=o':=Ah (F.symm.trans h1);have y:=C.symm.trans M;injection y with y hep
  subst y;have hm:Dk.IsD s.heap d es ep:=⟨o,F,hx,C⟩;have a:i<es.size:=by rw[hsz];exact hi
  refine Dk.item st hm a fun h' D sb=>?_;have T:Inv X aa σ H {s with heap:=h'}:=I.turned (t':=s.toks) (fun b o hb e=>(sb.2 b hb).trans e) l f1 p q r;obtain⟨oi,e1,e2,e3⟩:=id D;have J:kvs[i]?=some kvs[i]:=Ai hi;obtain⟨G,O,hb⟩:=kt_at x J;have g3:es.toList[i]?=some es[i]:=by simp[a]
  rw[N,Af,O] at g3;simp only[AS,AW] at g3;have S:es[i].key=.ref G.2.1:=by rw[<-g3];rfl
  exact⟨_,rfl,lB (s:={s with heap:=h'}) e1 e2 e3 ξ ⟨.ref G.2.1,H,T,by rw[S];rfl,⟨rfl,_,_,J,rfl,hb⟩,D,fun b hb=>(hf b hb).1⟩⟩
 done:=by
  intro X f hw g hc i aa s σ H E I hf st j;subst f hw g;obtain⟨l,f1,f2,p,q,r⟩:=hf it (by simp);obtain⟨hi,u⟩:=j;have hm:Dk.IsD s.heap d es ep:=⟨o,(show zF X.prog X.w H s.heap d (.frz o (.dT kvs)) from I.hok d _ u).1,hx,C⟩;have a:i=es.size:=by rw[hsz];exact hi
  subst a;exact Dk.done (I.ok.hd hc) st hm fun h' L=>⟨rfl,I.turned (t':=s.toks) (fun b o hb e=>L b o hb e) l f1 p q r⟩
 self:=fun A i s Q E st h=>wpAny_pyIter_keyiter st h
def Lo(te:TE):TI:=fun σ H R=>te σ H fun x H1=>∃d kvs,x=.ref d/\Rd H1 d (.dT kvs)/\∀o H2,H2 d=some (.frz o (.dT kvs))->(∀b,b≠d->H2 b=H1 b)->R (kP d o kvs) H2
def pD{tg l:Expr}{tl:TE}(F:PE X l tl):PI X tg l (Lo tl):=by
 intro aa s σ H R I h;refine aW (F aa s σ H _ I h) fun v a ⟨x,H1,I1,u,y⟩=>?_;obtain⟨d,kvs,e,hd,q⟩:=y;subst e;cases u;have go:∀(o:Obj)(H2:Hp),Inv X aa σ H2 a->H2 d=some (.frz o (.dT kvs))->(∀b,b≠d->H2 b=H1 b)->wpAny (model X.prog X.w) X.A (pyIter (.ref d)) (qP X aa σ tg R) X.xe a:=by
  intro o H2 I2 p C;obtain⟨E,z,g,ys,c,o',es,ep,h1,h2,f,j,r⟩:=(show zF X.prog X.w H2 a.heap d (.frz o (.dT kvs)) from I2.hok d _ p);obtain rfl:o=o':=Ah (E.symm.trans h1);have hsz:es.size=kvs.length:=by
   have:=congrArg List.length j;rw[Ab,<-AN c] at this
   simpa using this
  have hm:Dk.IsD a.heap d es ep:=⟨o,h1,h2,f⟩;refine Dk.iter g hm ?_;have hfr:H2 a⁻¹=none:=I2.hok.fresh (Ag _);refine⟨a⁻¹,[a⁻¹],_,_,_,rfl,I2.kept (t':=a.toks) fun b o e=>Ad _ e,Ln d _ h2 f hsz,⟨_,Al _ rfl,rfl,rfl⟩,fun b hb=>?_,q o H2 p C⟩;have e:b=a⁻¹:=by simpa using hb
  subst e;exact I2.fpOk (Ag _) hfr
 rcases hd with hd|⟨o,hd⟩
 ·obtain⟨z,g,ys,c,o,es,ep,h1,h2,f,j,r⟩:=(show zF X.prog X.w H1 a.heap d (.dT kvs) from I1.hok d _ hd)
  have i:KT (upd H1 d (.frz o (.dT kvs))) kvs ys:=KT.keeps c fun b zs e=>by rw[ae (fun D=>by rw[D,hd] at e;cases e)];exact e
  exact go o (upd H1 d (.frz o (.dT kvs))) (l' (ob:=.frz o (.dT kvs)) (t':=a.toks) I1 (by rw[hd];exact True.intro) (Heap.SameBut.refl _ _) ⟨o,h1⟩ ⟨h1,z,g,ys,i,o,es,ep,h1,h2,f,j,r⟩) ac fun b hb=>ae hb
 ·exact go o H1 I1 hd fun _ _=>rfl
def F5{d:Addr}{o:Obj}{kvs:List (List Key×V)}{g:TG}{tb:TS}{D:Ends}{σ:St}{H:Hp}(a:Nat->St->Hp->Prop)(u:a 0 σ H)(v:∀i σ H,i<=kvs.length->a i σ H->H d=some (.frz o (.dT kvs)))(w:∀i kv b σ H,kvs[i]?=some kv->H b=some (.tup (kv.1.map kV))->a i σ H->g (.ref b) σ H fun f H2=>tb {D with nx:=a (i+1),ct:=a (i+1),bk:=D.nx} f H2)(hd:∀σ H,a kvs.length σ H->D.nx σ H):∃W:Nat->Nat->St->Hp->Prop,(∃m,W 0 m σ H)/\∀i m σ H,W i m σ H->
   ((kP d o kvs).stop i H/\D.nx σ H)\/((kP d o kvs).go i H/\∃N:St->Hp->Prop,(∀h H',N h H'->∃j,j<m/\W (i+1) j h H')/\∀x H',(kP d o kvs).yld i H x H'->g x σ H' fun f H2=>tb {D with nx:=N,ct:=N,bk:=D.nx} f H2):=by
 refine⟨fun i m σ H=>m=kvs.length-i/\i<=kvs.length/\a i σ H,⟨kvs.length,by simp,A1 _,u⟩,?_⟩;rintro i m σ H ⟨rfl,hi,p⟩;have q:=v i σ H hi p
 by_cases c:i<kvs.length
 ·refine .inr ⟨⟨c,q⟩,a (i+1),fun h H' l=>⟨kvs.length-(i+1),ω,rfl,c,l⟩,fun x H' y=>?_⟩
  obtain⟨e,kv,b,r,rfl,hb⟩:=y;subst e;exact w i kv b σ _ r hb p
 ·have:i=kvs.length:=ω
  subst this;exact .inl ⟨⟨rfl,q⟩,hd σ H p⟩
end
end L2
end
section
namespace L2
open PySem PySem.Spec PyProof.Rows
def Rd.same{H H':Hp}{a:Addr}{u:HO}(r:Rd H a u)(s:Same H H'):Rd H' a u:=by
 rcases r with r|⟨o,r⟩
 ·exact .inl (s _ _ r)
 ·exact .inr ⟨o,s _ _ r⟩
section
variable{X:Cx}{o:Expr}{to:TE}{aH aw:Pos}
def Lp(to:TE):TE:=fun σ H Q=>to σ H fun x H1=>zk4 x [] H1 Q
def Lq(i:PE X o to)(j:attributeBase o "values" X.env (eval o X.env)=eval o X.env:=by rfl)(l:(aH.endLine==aw.line)=true:=by rfl):PE X (.Call (.Attribute o "values" aH) [] [] aw) (Lp to):=by
 intro aa s σ H Q I h;refine wpAny_Call_method0_late j l (aW (i aa s σ H _ I h) fun v b ⟨x,H1,I1,f,c⟩=>?_);have g:=c;obtain⟨d,kvs,rfl,_,hd,_⟩:=c;cases f;obtain⟨_,_,_,_,ob,_,_,e,ex,_⟩:=(show zF X.prog X.w H1 b.heap d (.dT kvs) from hd.ok I1.hok);exact⟨"dict","dict.values",Qg,PySem.F.slot_dict_values,PySem.F.type_dict_values,⟨ob,e,ex.1⟩,(fun a z=>by cases z;exact⟨ob,e,ex.2.1⟩),Calls.callWith_builtin rfl (PySem.evalArgs_none (gK aa b σ H1 (.ref d) [] (.ref d) [] Q I1 rfl .nil g))⟩
end
end L2
end
section
namespace Dk
open PySem PySem.Spec PyProof.Rows
def II(h:Heap)(it d:Addr)(i n ep:Nat):Prop:=∃(c:Value)(b:Bool)(k v:Value),(c=.none\/∃a:Addr,c=rawInt a)/\
 h.get? it=some {cls:=.type "dict_itemiterator",dict:=none,data:=.fields #[c,.bool b,.ref d,.int i 0,.int n 0,.int ep 0,k,v],slots:=#[]}
def II.at{h h':Heap}{it d:Addr}{i n ep:Nat}(x:II h it d i n ep)(k:∀o,h.get? it=some o->h'.get? it=some o):II h' it d i n ep:=by
 obtain⟨a,b,k0,c,hf,e⟩:=x;exact⟨a,b,k0,c,hf,k _ e⟩
section
variable{prog:Program}{w:World}{A:Around}{E:Ω}{s:Shared}{it d v:Addr}{i ep:Nat}{es:Array DictEntry}
def Lr{a:Addr}{Q:Option Obj->Shared->Prop}(h:Q (s.heap.get? a) s):wpAny (model prog w) A (loadIfAlive a) Q E s:=fun _ _ _=>h
def pG{Q:Ω}(a:s.heap.IsItemsView v d)(hm:IsD s.heap d es ep)(h:Q (.ref s⁻¹) {s with heap:=s.heap.push {cls:=.type "dict_itemiterator",data:=.fields #[.none,.bool false,.ref d,.int 0 0,.int es.size 0,.int ep 0,.none,.none]}}):wpAny (model prog w) A (pyIter (.ref v)) Q E s:=by
 obtain⟨i,e,j,f⟩:=id a;obtain⟨o,b,hc,c⟩:=id hm;refine wpAny_pyIter_slot a.typeIs Rc (AG Rc a.typeIs PySem.F.entry_dict_items_iter ?_ (PySem.F.args_dict_items_iter_1 _));unfold Builtin.«dict_items.__iter__»;refine Aa (Ac ?_);refine Aa ?_;unfold Builtin.Dict_items.dictOf;refine Aa (A7 e f (x:=.ref d) rfl (Ac ?_));refine Aa ?_;unfold Builtin.Dict_items.newIterator;refine Aa (AB b c ?_);refine Aa (Bc b c ?_);have g:Builtin.Dict_items.ownsTuple "dict_itemiterator"=true:=ξ
 simp only[g,if_true];refine AF (Ac ⟨_,rfl,"dict_itemiterator",_,⟨_,Al _ rfl,rfl⟩,PySem.F.slot_dict_itemiterator_next.lookup,?_⟩)
  (by simp only[sizeOk,Builtin.Dict_items.ownedTupleFields,Am,Ap,Ay,Pu,sizeLine_eq];omega)
 simpa[rawInt,Builtin.Dict_items.ownedTupleFields] using h
def pJ{Q:Option Value->Shared->Prop}(r:II s.heap it d i es.size ep)(hm:IsD s.heap d es ep)(hx:i<es.size)(H:∀h',II h' it d (i+1) es.size ep->h'.get? s⁻¹=some {cls:=.type "tuple",data:=.seq #[es[i].key,es[i].val]}->
   (∀b o,b≠it->s.heap.get? b=some o->h'.get? b=some o)->Q (some (.ref s⁻¹)) {s with heap:=h'}):wpAny (model prog w) A (pyNext (.ref it)) Q E s:=by
 obtain⟨hp,g,q,tk,os⟩:=s;obtain⟨P,S,ok,T,rH,r⟩:=r;obtain⟨od,bH,bz,hdd⟩:=id hm;have hT:Shared.TypeIs ⟨hp,g,q,tk,os⟩ (.ref it) "dict_itemiterator":=⟨_,r,rfl⟩;unfold pyNext;refine Aa (wpAny_attempt (AL (name:=Bb "__next__") hT Pq
  (AG Pq hT QD ?_ (QA _))))
 refine Aa (Ac ?_);refine Aa ?_;refine Aa ?_
 first|refine Aa (wpAny_typeNameOfWhole_itemiter hT (Ac ?_))|refine Aa (wpAny_typeNameOf_itemiter hT (Ac ?_))
 refine Aa (wpAny_fieldsOf r rfl ?_);have aY:Builtin.Dict_items.ownsTuple "dict_itemiterator"=true:=ξ
 simp only[aY,if_true];show wpAny _ _ (if(Value.ref d==Value.none)=true then _ else _) _ _ _;rw[RK (show ¬((Value.ref d==Value.none)=true) from An)];refine Aa (Ac ?_);refine Aa (AB bH hdd ?_);rw[RK (by simp)];refine Aa (Ac ?_);refine Aa (Bc bH hdd ?_);rw[RK (by simp)];refine Ac ?_;simp only[show ¬((i:Int)<0) from ω,if_false,Pa,Pj hx];refine Aa ?_
 first|refine Aa (wpAny_typeNameOfWhole_itemiter hT (Ac ?_))|refine Aa (wpAny_typeNameOf_itemiter hT (Ac ?_))
 refine Aa (wpAny_isOneOf_itemiter hT ?_);show wpAny _ _ (setField (.ref it) 3 (rawInt ((i:Int)+1)) >>= _) _ _ ⟨hp,g,q,tk,os⟩;refine Aa (A9 r (by simp) fun l u v=>?_);replace v:Heap.SameBut it hp l:=v;replace u:l.get? it=some {cls:=.type "dict_itemiterator",dict:=none,data:=.fields #[P,.bool S,.ref d,.int ((i+1:Nat):Int) 0,.int es.size 0,.int ep 0,ok,T],slots:=#[]}:=by
  have e:((i+1:Nat):Int)=(i:Int)+1:=ω
  rw[e];simpa[rawInt] using u
 have f:Shared.TypeIs ⟨l,g,q,tk,os⟩ (.ref it) "dict_itemiterator":=⟨_,u,rfl⟩;refine Aa (AI ?_);refine Aa (wpAny_isOneOf_itemiter f ?_);refine Aa (wpAny_isOneOf_itemiter f ?_);show wpAny _ _ (Builtin.Dict_items.pairFromOwner (.ref it) 6 es[i].key es[i].val) _ _ ⟨l,g,q,tk,os⟩;unfold Builtin.Dict_items.pairFromOwner;refine Aa (wpAny_newTuple ?_);have p:(l.push {cls:=.type "tuple",data:=.seq #[es[i].key,es[i].val]}).get? it=some {cls:=.type "dict_itemiterator",dict:=none,data:=.fields #[P,.bool S,.ref d,.int ((i+1:Nat):Int) 0,.int es.size 0,.int ep 0,ok,T],slots:=#[]}:=Ad _ u;generalize hh₂:l.push {cls:=.type "tuple",data:=.seq #[es[i].key,es[i].val]}=bw at p;have U:l.objs.size=hp.objs.size:=v.1;have j:it<hp.objs.size:=Ar r;have W:bw.get? hp.objs.size=some {cls:=.type "tuple",data:=.seq #[es[i].key,es[i].val]}:=by rw[<-hh₂,<-U];exact Al _ rfl
 have h:∀b o,b≠it->hp.get? b=some o->bw.get? b=some o:=fun b o hb e=>by rw[<-hh₂];exact Ad _ (v.extBut b o hb e)
 show wpAny _ _ (Builtin.Dict_items.ownedTupleIsFree (.ref it) >>= _) _ _ ⟨bw,g,q,tk,os⟩;rw[U];clear hh₂ u v f U l;have free:∀(E':Ω)(R:Ω),(∀h',II h' it d (i+1) es.size ep->h'.get? hp.objs.size=some {cls:=.type "tuple",data:=.seq #[es[i].key,es[i].val]}->
   (∀b o,b≠it->hp.get? b=some o->h'.get? b=some o)->R (.ref hp.objs.size) ⟨h',g,q,tk,os⟩)->wpAny (model prog w) A.in1 (do
    let ff:=[<-field (.ref it) 6,<-field (.ref it) (6+1)]
    setField (.ref it) 6 es[i].key;setField (.ref it) (6+1) es[i].val
    setField (.ref it) 0 (rawInt hp.objs.size);setField (.ref it) 1 (.bool false)
    letGo ff [.ref hp.objs.size]
    return .ref hp.objs.size) R E' ⟨bw,g,q,tk,os⟩:=by
  intro E' R hR;refine Aa (A7 p rfl (x:=ok) rfl ?_);refine Aa (A7 p rfl (x:=T) rfl ?_);refine Aa (A9 p (by simp) fun y I c=>?_);replace c:Heap.SameBut it bw y:=c;refine Aa (A9 I (by simp) fun X jA C=>?_);replace C:Heap.SameBut it y X:=C;refine Aa (A9 jA (by simp) fun Y jv D=>?_);replace D:Heap.SameBut it X Y:=D;refine Aa (A9 jv (by simp) fun J L G=>?_);replace G:Heap.SameBut it Y J:=G;replace L:J.get? it=some {cls:=.type "dict_itemiterator",dict:=none,data:=.fields #[rawInt hp.objs.size,.bool false,.ref d,.int ((i+1:Nat):Int) 0,.int es.size 0,.int ep 0,es[i].key,es[i].val],slots:=#[]}:=L;refine Aa (wpAny_letGo (Ac (hR J ⟨_,_,_,_,.inr ⟨_,rfl⟩,L⟩ ?_ ?_)))
  ·exact G.extBut _ _ (A0 j) (D.extBut _ _ (A0 j) (C.extBut _ _ (A0 j) (c.extBut _ _ (A0 j) W)))
  ·exact fun b o hb e=>G.extBut b o hb (D.extBut b o hb (C.extBut b o hb (c.extBut b o hb (h b o hb e))))
 refine Aa ?_;unfold Builtin.Dict_items.ownedTupleIsFree;refine Aa (A7 p rfl (x:=P) rfl ?_);rcases rH with rfl|⟨a,rfl⟩
 ·refine Ac ?_
  simp only[if_true];exact free _ _ fun h' M N O=>Ac ⟨_,rfl,Ac (H h' M N O)⟩
 ·dsimp only[rawInt]
  refine Aa (Lr ?_);cases hal:bw.get? ((a:Int)).toNat with
  |none=>
   simp only[Option.isNone_none,if_true];refine Ac ?_;simp only[if_true];exact free _ _ fun h' M N O=>Ac ⟨_,rfl,Ac (H h' M N O)⟩
  |some oa=>
   simp only[Option.isNone_some,Az,if_false];refine Aa (A7 p rfl (x:=.bool S) rfl ?_);refine wpAny_ite_split (fun _=>?_) (fun _=>?_)
   ·refine Aa (A9 p (by simp) fun y I c=>?_)
    replace c:Heap.SameBut it bw y:=c;refine Ac ?_;simp only[Az,if_false];refine Ac (Ac ⟨_,rfl,Ac (H y ⟨_,_,_,_,.inr ⟨a,rfl⟩,I⟩ ?_ ?_)⟩)
    ·exact c.extBut _ _ (A0 j) W
    ·exact fun b o hb e=>c.extBut b o hb (h b o hb e)
   ·refine Ac ?_
    simp only[Az,if_false];exact Ac (Ac ⟨_,rfl,Ac (H bw ⟨_,_,_,_,.inr ⟨a,rfl⟩,p⟩ W h)⟩)
def CS{Q:Option Value->Shared->Prop}(g:A.handled=none)(c:II s.heap it d es.size es.size ep)(hm:IsD s.heap d es ep)(h:∀h',Heap.ExtBut it s.heap h'->Q none {s with heap:=h'}):wpAny (model prog w) A (pyNext (.ref it)) Q E s:=by
 obtain⟨i,j,ok,l,o,c⟩:=c;obtain⟨p,e,q,hdd⟩:=id hm;have hT:s.TypeIs (.ref it) "dict_itemiterator":=⟨_,c,rfl⟩;unfold pyNext;refine Aa (wpAny_attempt (AL (name:=Bb "__next__") hT Pq
  (AG Pq hT QD ?_ (QA _))))
 refine Aa (Ac ?_);refine Aa ?_;refine Aa ?_
 first|refine Aa (wpAny_typeNameOfWhole_itemiter hT (Ac ?_))|refine Aa (wpAny_typeNameOf_itemiter hT (Ac ?_))
 refine Aa (wpAny_fieldsOf c rfl ?_);have f:Builtin.Dict_items.ownsTuple "dict_itemiterator"=true:=ξ
 simp only[f,if_true];show wpAny _ _ (if(Value.ref d==Value.none)=true then _ else _) _ _ s;rw[RK (show ¬((Value.ref d==Value.none)=true) from An)];refine Aa (Ac ?_);refine Aa (AB e hdd ?_);rw[RK (by simp)];refine Aa (Ac ?_);refine Aa (Bc e hdd ?_);rw[RK (by simp)];refine Ac ?_;simp only[show ¬((es.size:Int)<0) from ω,if_false,Pa,QX (Ag es.size)];refine Aa ?_
 first|refine Aa (wpAny_typeNameOfWhole_itemiter hT (Ac ?_))|refine Aa (wpAny_typeNameOf_itemiter hT (Ac ?_))
 show wpAny _ _ (setField (.ref it) 2 .none >>= _) _ _ s;refine Aa (wpAny_setField c rfl (by simp) ?_);show wpAny _ _ (newExc (.type "StopIteration") [] >>= _) _ _ _;refine Aa ?_;simp only[newExc,newTuple];refine Aa (AF ?_ (by size_fits));refine Aa (m:=firstArgMember _ _) (wpAny_of_eq (a:=Value.none) (by first|rfl|(simp only[firstArgMember];rfl)) ?_);refine AF ?_ (by size_fits);simp only[raiseNew];refine Aa (wpAny_handled ?_);rw[show A.in1.handled=none from g];refine Aa (Ac (wpAny_throw ?_));refine Aa (wpAny_isInstance (T:="StopIteration") (b:=true) ⟨_,Al _ rfl,rfl⟩ isSubtype_stop ?_);exact Ac (h _ (((AH ..).extBut.push _).push _))
def eE(h:Heap)(es:Array DictEntry)(ts:List Addr)(i:Nat):Prop:=ts.length=i/\ts.Nodup/\∀(j:Nat) t,ts[j]?=some t->∃e,es[j]?=some e/\h.get? t=some {cls:=.type "tuple",data:=.seq #[e.key,e.val]}
def Ls{S:Addr}{res:Value}{R:Result->Shared->Prop}{z:Nat}(hh:A.handled=none)(hn:es.size<=sizeLine)(P:S≠it)(gQ:S≠d)(kL:it≠d):∀(k i:Nat)(s:Shared)(ts:List Addr)(c:Nat),es.size-i=k->i<=es.size->II s.heap it d i es.size ep->IsD s.heap d es ep->
   s.heap.get? S=some {cls:=.type "list",dict:=none,data:=.seq (ts.map Value.ref).toArray c,slots:=#[]}->eE s.heap es ts i->z<=s⁻¹->(∀t∈ts,z<=t)->
   (∀h' tk q c',h'.get? S=some {cls:=.type "list",dict:=none,data:=.seq (q.map Value.ref).toArray c',slots:=#[]}->eE h' es q es.size->(∀t∈q,z<=t)->
    (∀b o,b≠S->b≠it->s.heap.get? b=some o->h'.get? b=some o)->R (.ok (.ret res)) {s with heap:=h',toks:=tk})->
   codeAny (model prog w) A (.builtin "list.extend.loop" ⟨[.ref S,.ref it,res],[]⟩) R s:=by
 have f:∀{h h':Heap}{ts:List Addr}{i:Nat}{x C:Obj},h.get? S=some x->x.cls=.type "list"->h.get? it=some C->C.cls=.type "dict_itemiterator"->(∀b o,b≠S->b≠it->h.get? b=some o->h'.get? b=some o)->eE h es ts i->eE h' es ts i:=by
  intro h h' ts i x C g Q Y T kk D;refine⟨D.1,D.2.1,fun j t e=>?_⟩;obtain⟨X,e1,e2⟩:=D.2.2 j t e;refine⟨X,e1,kk _ _ (fun y=>?_) (fun y=>?_) e2⟩
  ·rw[y,g] at e2;rw[Ah e2] at Q;exact absurd (show Value.type "tuple"=Value.type "list" from Q) ξ
  ·rw[y,Y] at e2;rw[Ah e2] at T;exact absurd (show Value.type "tuple"=Value.type "dict_itemiterator" from T) ξ
 intro k
 induction k with
 |zero=>
  intro i s ts c hk hi p hm g ht hz E G;have N:i=es.size:=ω
  subst N;obtain⟨f0,fb,k0,v0,_,L⟩:=id p;refine Bd PySem.F.entry_extend_loop ?_;rw[A2 PJ _];show wpAny _ A.in1 (pyNext (.ref it) >>= _) _ _ s;refine Aa (CS (A:=A.in1) hh p hm fun h' H=>?_);exact Ac (G h' s.toks ts c (H _ _ P g) (f g rfl L rfl (fun b o _ hb e=>H b o hb e) ht) E fun b o _ hb e=>H b o hb e)
 |succ k ih=>
  intro i s ts c hk hi p hm g ht hz E G;have l:i<es.size:=ω
  obtain⟨f0,fb,k0,v0,_,L⟩:=id p;refine Bd PySem.F.entry_extend_loop ?_;rw[A2 PJ _];show wpAny _ A.in1 (pyNext (.ref it) >>= _) _ _ s;refine Aa (pJ (A:=A.in1) p hm l fun h1 U W u=>?_);have O:=u S _ P g;have hsz:s⁻¹<h1.objs.size:=Ar W;obtain⟨Bq,BD,yS,B3,_,mM⟩:=id U;have wS:eE h1 es (ts++[s⁻¹]) (i+1):=by
   have t0:=f g rfl L rfl (fun b o _ hb e=>u b o hb e) ht;refine⟨by rw[Ap,ht.1];rfl,?_,fun j t e=>?_⟩
   ·rw[O2]
    refine⟨ht.2.1,by simp,fun a ha b hb=>?_⟩;have hb':b=s⁻¹:=by simpa using hb
    obtain⟨j,M⟩:=Px ha;obtain⟨X,_,e2⟩:=ht.2.2 j a M;rw[hb'];exact Au (Ar e2)
   ·by_cases M:j<ts.length
    ·rw[PH M] at e
     exact t0.2.2 j t e
    ·have u1:j=i:=by
      have:=(B5.mp e).1;rw[Ap] at this;simp at this;have:=ht.1;omega
     subst u1;rw[Py ω,ht.1,Nat.sub_self] at e;have:t=s⁻¹:=(Ah e).symm;rw[this];exact⟨_,Pj l,W⟩
  show wpAny _ A.in1 (updateSeq S (·.push (.ref s⁻¹)) >>= _) _ _ _;refine Aa ?_;have v:∀b o,b≠S->h1.get? b=some o->(h1.update S (AO (·.push (Value.ref s⁻¹)))).get? b=some o:=fun b o hb e=>(Heap.get?_update_other _ _ (Ne.symm hb)).trans e;have e0:((ts.map Value.ref).toArray.push (.ref s⁻¹))=((ts++[s⁻¹]).map Value.ref).toArray:=by simp
  obtain⟨J,il⟩:∃J,(h1.update S (AO (·.push (Value.ref s⁻¹)))).get? S=some {cls:=.type "list",dict:=none,data:=.seq ((ts++[s⁻¹]).map Value.ref).toArray J,slots:=#[]}:=by
   rw[<-e0];exact⟨_,Heap.get?_update_self _ O rfl⟩
  refine wpAny_updateSeq O rfl (Ac ⟨plainId_quiet PJ _,ih (i+1) _ (ts++[s⁻¹]) J ω l (U.at fun o e=>v _ o (Ne.symm P) e) ((hm.at fun o e=>u _ o (Ne.symm kL) e).at fun o e=>v _ o (Ne.symm gQ) e) il (f O rfl mM rfl (fun b o hb _ e=>v b o hb e) wS) ?_ ?_ fun h' tk q c' e1 e2 e3 e4=>?_⟩)
   (by simp only[Am,Ab];rw[ht.1];omega) (by simp only[Array.size_push,Am,Ab];rw[ht.1];omega)
  ·have:(h1.update S (AO (·.push (Value.ref s⁻¹)))).objs.size=h1.objs.size:=(AH ..).1
   show z<=(h1.update S (AO (·.push (Value.ref s⁻¹)))).objs.size;rw[this];omega
  ·intro t I
   rcases OW.mp I with y|y
   ·exact E t y
   ·have:t=s⁻¹:=by simpa using y
    rw[this];exact hz
  ·exact G h' tk q c' e1 e2 e3 fun b o hb r e=>e4 b o hb r (v b o hb (u b o r e))
end
end Dk
end
section
namespace Dk
open PySem PySem.Spec PyProof.Rows
section
variable{prog:Program}{w:World}{A:Around}{E:Ω}{s:Shared}{r d:Addr}{ep:Nat}{es:Array DictEntry}
def Lu{Q:Bool->Shared->Prop}(hT:s.TypeIs (.ref r) "dict_items")(h:Q false s):wpAny (model prog w) A (Builtin.List.listLengthHint (.ref r)) Q E s:=by
 unfold Builtin.List.listLengthHint;refine Aa (wpAny_specialOf hT PySem.F.slot_dict_items_len.lookup ?_);generalize kL:("dict_items.__len__":String)=id0
 wp_delta
 rw[show splitId id0=some ("dict_items","__len__") from by subst kL;decide +kernel];subst kL;refine Aa (wpAny_isInstance (T:="dict_items") (b:=true) hT (by rw[isSubtype_type];kernel_rfl) ?_);refine wpAny_ite_split (fun a=>absurd a ξ) (fun _=>?_);refine wpAny_ite_split (fun _=>?_) (fun a=>absurd δ a);refine Aa (wpAny_typeOf hT ?_);exact Ac h
def Lw{R:Result->Shared->Prop}{z:Nat}(M:A.handled=none)(l:s.heap.IsItemsView r d)(hm:IsD s.heap d es ep)(N:es.size<=sizeLine)(S:Addr)(O:S≠r)(q:S≠d)(hz:z<=s⁻¹)(res:Value)(u:Nat)(v:s.heap.get? S=some {cls:=.type "list",data:=.seq #[] u})(P:∀h' tk ts c',(∀b o,b≠S->s.heap.get? b=some o->h'.get? b=some o)->h'.get? S=some {cls:=.type "list",dict:=none,data:=.seq (ts.map Value.ref).toArray c',slots:=#[]}->eE h' es ts es.size->(∀t∈ts,z<=t)->R (.ok (.ret res)) {s with heap:=h',toks:=tk}):wpAny (model prog w) A.in1 (Builtin.List.listExtendWith (.ref S) (.ref r) res)
   (fun fin s'=>match fin with|.done f=>R (.ok f) s'|.again c'=>c'.quiet=true/\codeAny (model prog w) A c' R s') (fun e s'=>R (.error e) s') s:=by
 have a:S≠s⁻¹:=Au (Ar v);have H:s⁻¹≠d:=A0 hm.lt;have key:∀(h:Heap)(g tk:Nat),II h s⁻¹ d 0 es.size ep->s⁻¹<=h.objs.size->(∀b o,b≠S->s.heap.get? b=some o->h.get? b=some o)->
   h.get? S=some {cls:=.type "list",data:=.seq #[] g}->codeAny (model prog w) A (.builtin "list.extend.loop" ⟨[.ref S,.ref s⁻¹,res],[]⟩) R {s with heap:=h,toks:=tk}:=by
  intro h g tk i x hk c;refine Ls (z:=z) M N a q H es.size 0 _ [] g rfl (A1 _) i (hm.at fun o e=>hk _ o (Ne.symm q) e) c ⟨rfl,O6,fun j t e=>by simp at e⟩ (AC hz x) (fun t ht=>nomatch ht) fun h' C D c' e1 e2 e3 E=>?_;exact P h' C D c' (fun b o hb e=>E b o hb (fun y=>absurd (Ar e) (by rw[y];exact Qd _)) (hk b o hb e)) e1 e2 e3
 unfold Builtin.List.listExtendWith;refine Aa (wpAny_typeOf (T:="dict_items") l.typeIs ?_);have h1:Builtin.List.listSameRef (.ref S) (.ref r)=false:=by simp[Builtin.List.listSameRef,O]
 have h2:(Value.type "dict_items" == Value.type "list")=false:=ξ
 have I:(Value.type "dict_items" == Value.type "tuple")=false:=ξ
 simp only[h1,h2,I,Bool.or_false,Az,if_false];refine Aa (pG l hm ?_);have c:=Ad {cls:=.type "dict_itemiterator",data:=.fields #[.none,.bool false,.ref d,.int 0 0,.int es.size 0,.int ep 0,.none,.none]} v;have st:II (s.heap.push {cls:=.type "dict_itemiterator",data:=.fields #[.none,.bool false,.ref d,.int 0 0,.int es.size 0,.int ep 0,.none,.none]}) s⁻¹ d 0 es.size ep:=⟨_,_,_,_,.inl rfl,Al _ rfl⟩;have J:Shared.TypeIs {s with heap:=s.heap.push {cls:=.type "dict_itemiterator",data:=.fields #[.none,.bool false,.ref d,.int 0 0,.int es.size 0,.int ep 0,.none,.none]}} (.ref r) "dict_items":=by
  obtain⟨o,G,hc,_⟩:=l;exact⟨o,Ad _ G,hc⟩
 refine Aa (AI (Lu J ?_));have hsz:∀o:Obj,s⁻¹<=(s.heap.push o).objs.size:=fun o=>by rw[Heap.size_push];omega
 refine wpAny_ite_split (fun _=>?_) (fun _=>Ac ⟨plainId_quiet PJ _,key _ u _ st (hsz _) (fun b o _ e=>Ad _ e) c⟩);refine Aa (wpAny_rule ?_);refine Aa ?_;show wpAny _ _ (updateSeq S (·.push .none) >>= fun _=>updateSeq S (·.pop)) _ _ _;refine Aa (wpAny_updateSeq c rfl ?_);have p:=Heap.get?_update_self (AO (·.push Value.none)) c rfl;refine wpAny_updateSeq (hz:=by seq_fits) p rfl ?_;have L:=Heap.get?_update_self (AO (·.pop)) p rfl;refine Ac ⟨plainId_quiet PJ _,key _ _ _ ?_ ?_ (fun b o hb e=>?_) L⟩
 ·exact(st.at fun o e=>(Heap.get?_update_other _ _ a).trans e).at fun o e=>(Heap.get?_update_other _ _ a).trans e
 ·rw[(AH ..).1,(AH ..).1];exact hsz _
 ·exact(Heap.get?_update_other _ _ (Ne.symm hb)).trans ((Heap.get?_update_other _ _ (Ne.symm hb)).trans (Ad _ e))
def Lx{R:Result->Shared->Prop}{z:Nat}(u:A.handled=none)(v:s.heap.IsItemsView r d)(hm:IsD s.heap d es ep)(x:es.size<=sizeLine)(S:Addr)(g:S≠r)(h:S≠d)(hz:z<=s⁻¹)(c:s.heap.get? S=some {cls:=.type "list",data:=.seq #[]})(y:∀h' tk ts c',(∀b o,b≠S->s.heap.get? b=some o->h'.get? b=some o)->h'.get? S=some {cls:=.type "list",dict:=none,data:=.seq (ts.map Value.ref).toArray c',slots:=#[]}->eE h' es ts es.size->(∀t∈ts,z<=t)->R (.ok (.ret .none)) {s with heap:=h',toks:=tk}):wpAny (model prog w) A.in1 (Builtin.«list.__init__» ⟨[.ref S,.ref r],[]⟩)
   (fun fin s'=>match fin with|.done f=>R (.ok f) s'|.again c'=>c'.quiet=true/\codeAny (model prog w) A c' R s') (fun e s'=>R (.error e) s') s:=by
 show wpAny _ _ (do let ff <-Builtin.List.listItems (.ref S);Builtin.List.listUpdate (.ref S) (fun _=>#[]);letGo ff.toList.reverse;Builtin.List.listExtendWith (.ref S) (.ref r) .none) _ _ s;refine Aa ?_;unfold Builtin.List.listItems;refine Aa (wpAny_seqItems c rfl (Ac ?_));show wpAny _ _ (updateSeq S (fun _=>#[]) >>= fun _=>letGo (#[]:Array Value).toList.reverse >>= fun _=>Builtin.List.listExtendWith (.ref S) (.ref r) .none) _ _ s;refine Aa (wpAny_updateSeq c rfl ?_);have q:=Heap.get?_update_self (AO (fun _=>(#[]:Array Value))) c rfl;have a:∀b o,b≠S->s.heap.get? b=some o->(s.heap.update S (AO (fun _=>(#[]:Array Value)))).get? b=some o:=
  fun b o hb e=>(Heap.get?_update_other _ _ (Ne.symm hb)).trans e
 refine Aa (wpAny_letGo ?_);obtain⟨o,p,hc,hd⟩:=id v;refine Lw (s:={s with heap:=s.heap.update S (AO (fun _=>(#[]:Array Value)))}) u ⟨o,a _ _ (Ne.symm g) p,hc,hd⟩ (hm.at fun o e=>a _ o (Ne.symm h) e) x S g h (by show z<=(s.heap.update S (AO (fun _=>(#[]:Array Value)))).objs.size;rw[(AH ..).1];exact hz) .none _ q fun h' tk ts c' hk i j l=>?_;exact y h' tk ts c' (fun b o hb e=>hk b o hb (a b o hb e)) i j l
def Ly{Q:Ω}(l:A.handled=none)(p:s.heap.IsItemsView r d)(hm:IsD s.heap d es ep)(q:es.size<=sizeLine)(u:∀h' tk ts c',(∀b o,s.heap.get? b=some o->h'.get? b=some o)->h'.get? s⁻¹=some {cls:=.type "list",dict:=none,data:=.seq (ts.map Value.ref).toArray c',slots:=#[]}->eE h' es ts es.size->(∀t∈ts,s⁻¹<t)->Q (.ref s⁻¹) {s with heap:=h',toks:=tk}):wpAny (model prog w) A (call (.type "list") [.ref r]) Q E s:=by
 refine callType_codes (Q₁:=fun obj a=>obj=.ref s⁻¹/\a={s with heap:=s.heap.push {cls:=.type "list",data:=.seq #[]}}) PySem.F.called_list (PySem.F.typeCall_list_1 _) PySem.F.entry_list_init
  (code_list_new _ ⟨rfl,rfl⟩) fun obj a g=>?_
 obtain⟨rfl,rfl⟩:=g;have f:(s.heap.push {cls:=.type "list",data:=.seq #[]}).get? s⁻¹=some {cls:=.type "list",data:=.seq #[]}:=Al _ rfl;obtain⟨o,c,hc,hd⟩:=id p;refine⟨⟨_,f,rfl⟩,PySem.F.args_list_init_2 _ _,Lx (A:=A.in1) (z:=s⁻¹+1) l ⟨o,Ad _ c,hc,hd⟩ (hm.at fun o e=>Ad _ e) q _ (A0 (Ar c)) (A0 hm.lt) (by show _<=(s.heap.push _).objs.size;rw[Heap.size_push];exact Ag _) f fun h' tk ts c' hk h i j=>?_⟩;exact⟨rfl,u h' tk ts c' (fun b o e=>hk b o (Au (Ar e)) (Ad _ e)) h i fun t ht=>j t ht⟩
end
end Dk
namespace L2
open PySem PySem.Spec PyProof.Rows
section
variable{X:Cx}{aa:Ψ}{σ:St}{H:Hp}{s:Shared}
def gN:∀(a:List (Addr×List V))(H:Hp),Inv X aa σ H s->(a.map (·.1)).Nodup->(∀r∈a,bA X aa H r.1/\X.s₀⁻¹<=r.1/\r.2.length<=sizeLine/\∃ad:List Value,Vals r.2 ad/\IsTup s.heap r.1 ad.toArray)->
  ∃H',Inv X aa σ H' s/\Same H H'/\∀r∈a,H' r.1=some (.tup r.2)
 |[],H,I,_,_=>⟨H,I,Same.refl _,fun r hr=>nomatch hr⟩
 |r::rest,H,I,hn,h=>by
  obtain⟨⟨c,f1,f2,w,d,e⟩,f,hz,ad,i,j⟩:=h r Av;have b:(r.1::rest.map (·.1)).Nodup:=hn;rw[Be] at b;have v:=I.adopt (o:=.tup r.2) c f f1 d e ⟨hz,ad,i,j⟩;have p:=Same.new (o:=.tup r.2) c;obtain⟨H',u,sm,g⟩:=gN rest (upd H r.1 (.tup r.2)) v b.2 fun q hq=>by
   obtain⟨⟨l,g1⟩,g2⟩:=h q (As _ hq);refine⟨⟨?_,g1⟩,g2⟩;rw[ae (fun y=>b.1 (by rw[<-y];exact KK.mpr ⟨q,hq,rfl⟩))];exact l
  refine⟨H',u,p.trans sm,fun q hq=>?_⟩;rcases OT.mp hq with rfl|hq
  ·exact sm _ _ ac
  ·exact g q hq
end
section
variable{X:Cx}
def pK(v d:Addr):HO:=.ext fun h=>h.IsItemsView v d
def zhC:V->List V->Hp->VK->Prop:=fun x vs H Q=>∃d kvs,x=.ref d/\vs=[]/\Rd H d (.dT kvs)/\∀v,H v=none->Q (.ref v) (upd H v (pK v d))
def fD:q9 X "dict.items" zhC:=by
 intro aa s σ H x vs v us Q I a e h;obtain⟨d,kvs,rfl,rfl,hd,q⟩:=h;cases a;obtain rfl:=e.zero;obtain⟨z,f,ys,g,o,es,ep,h1,h2,l,r,u⟩:=(show zF X.prog X.w H s.heap d (.dT kvs) from hd.ok I.hok);have hT:s.TypeIs (.ref d) "dict":=⟨o,h1,h2.1⟩;have j:MeetsIn X.prog X.w (Builtin.«dict.items» ⟨[.ref d],[]⟩) (fun _ R s=>s.TypeIs (.ref d) "dict"/\R (.ok (.ret (.ref s⁻¹))) {s with heap:=s.heap.push {cls:=.type "dict_items",data:=.fields #[.ref d]}}):=
  .of_wp fun A R s ⟨hT,h⟩=>by
   unfold Builtin.«dict.items»;refine Aa ?_;unfold Builtin.Dict.noArgs;refine Aa (wpAny_notOrdered_dict hT ?_);show wpAny _ _ (pure d) _ _ s;refine Ac ?_;show wpAny _ _ (Builtin.Dict.showsAll d >>= _) _ _ s;unfold Builtin.Dict.showsAll;rw[RK (by rw[f];exact An)];refine Aa (Ac ?_);exact Aa (AF (Ac ⟨_,rfl,h⟩))
 refine call_meetsIn PySem.F.slot_dict_items hT PySem.F.entry_dict_items (PySem.F.args_dict_items_1 _) j ⟨hT,?_⟩;refine⟨.ref s⁻¹,_,I.laid (t':=s.toks) (o:=pK s⁻¹ d) (fun b ob q=>Ad _ q) (Ag _) ?_,rfl,q _ (I.hok.fresh (Ag _))⟩;refine⟨⟨_,Al _ rfl,rfl,rfl⟩,⟨_,Al _ rfl⟩,fun h1 h2 p k=>?_⟩;obtain⟨o,i,c⟩:=p;exact⟨o,k o i,c⟩
def Lz(to:TE):TE:=fun σ H Q=>to σ H fun x H1=>zhC x [] H1 Q
def LA{o:Expr}{to:TE}{aH aw:Pos}(i:PE X o to)(j:attributeBase o "items" X.env (eval o X.env)=eval o X.env:=by rfl)(l:(aH.endLine==aw.line)=true:=by rfl):PE X (.Call (.Attribute o "items" aH) [] [] aw) (Lz to):=by
 intro aa s σ H Q I h;refine wpAny_Call_method0_late j l (aW (i aa s σ H _ I h) fun v b ⟨x,H1,I1,f,c⟩=>?_);have g:=c;obtain⟨d,kvs,rfl,_,hd,_⟩:=c;cases f;obtain⟨_,_,_,_,ob,_,_,e,ex,_⟩:=(show zF X.prog X.w H1 b.heap d (.dT kvs) from hd.ok I1.hok);exact⟨"dict","dict.items",Qg,PySem.F.slot_dict_items,PySem.F.type_dict_items,⟨ob,e,ex.1⟩,(fun a z=>by cases z;exact⟨ob,e,ex.2.1⟩),Calls.callWith_builtin rfl (PySem.evalArgs_none (fD aa b σ H1 (.ref d) [] (.ref d) [] Q I1 rfl .nil g))⟩
def LB(hc:X.calm=true):da X (.type "list") (fun xs H Q=>∃v d kvs,xs=[.ref v]/\H v=some (pK v d)/\Rd H d (.dT kvs)/\
  ∀H'(l:Addr)(ts:List Addr),Same H H'->H l=none->H' l=some (.lst (ts.map V.ref))->Paired (fun t(kv:List Key×V)=>∃b,H' t=some (.tup [.ref b,kv.2])/\H' b=some (.tup (kv.1.map kV))) ts kvs->Q (.ref l) H'):=by
 intro aa s σ H xs us Q I r h;obtain⟨v,d,kvs,rfl,W,hd,q⟩:=h;obtain⟨u,rfl,Y⟩:=vals1 r;cases Y;have pF:s.heap.IsItemsView v d:=(show zF X.prog X.w H s.heap v (pK v d) from I.hok v _ W).1;obtain⟨z,hs,ys,e,o,es,ep,h1,h2,h3,J,h5⟩:=(show zF X.prog X.w H s.heap d (.dT kvs) from hd.ok I.hok);have hsz:es.size=kvs.length:=by
  have:=congrArg List.length J;rw[Ab,<-AN e] at this
  simpa using this
 refine Dk.Ly (I.ok.hd hc) pF ⟨o,h1,h2,h3⟩ (by rw[hsz];exact z) fun h' tk ts c' S T E U=>?_;have O:H s⁻¹=none:=I.hok.fresh (Ag _);have vv:∀ts:List Addr,Vals (ts.map V.ref) (ts.map Value.ref):=fun ts=>by
  induction ts with
  |nil=>exact .nil
  |cons b bs ih=>exact .cons rfl ih
 have I1:Inv X aa σ (upd H s⁻¹ (.lst (ts.map V.ref))) {s with heap:=h',toks:=tk}:=I.laid S (Ag _) ⟨by rw[Ab,E.1,hsz];exact z,_,c',vv ts,T⟩;have P:=Same.new (o:=.lst (ts.map V.ref)) O;have C:ts.length=kvs.length:=by rw[E.1,hsz]
 have D:∀(j:Nat)(t:Addr)(kv:List Key×V),ts[j]?=some t->kvs[j]?=some kv->∃(y:List Key×Addr×Value),H y.2.1=some (.tup (kv.1.map kV))/\RelV kv.2 y.2.2/\ys[j]?=some y/\h'.get? t=some {cls:=.type "tuple",data:=.seq #[.ref y.2.1,y.2.2]}:=by
  intro j t kv e1 e2;obtain⟨en,g1,g2⟩:=E.2.2 j t e1;obtain⟨y,g3,g4,g5⟩:=CQ e e2;obtain⟨y',L,g7⟩:=kt_at e e2;rw[g3] at L;obtain rfl:=Ah L;have G:es.toList[j]?=some en:=by simpa using g1
  rw[J,Af,g3] at G;simp only[AS,AW] at G;refine⟨y,g7,g5,g3,?_⟩;rw[g2,<-G]
  rfl
 let rows:List (Addr×List V):=(ts.zip (ys.zip kvs)).map fun q=>(q.1,[.ref q.2.1.2.1,q.2.2.2])
 have hyl:ys.length=kvs.length:=(AN e).symm;have xT:rows.map (·.1)=ts:=by
  show((ts.zip (ys.zip kvs)).map fun q=>(q.1,[V.ref q.2.1.2.1,q.2.2.2])).map (·.1)=ts;rw[Ak];show(ts.zip (ys.zip kvs)).map Prod.fst=ts;rw[Q9];rw[PU];omega
 have p:∀(j:Nat)(t:Addr)(kv:List Key×V)(y:List Key×Addr×Value),ts[j]?=some t->kvs[j]?=some kv->ys[j]?=some y->(t,[V.ref y.2.1,kv.2])∈rows:=by
  intro j t kv y e1 e2 e3;refine KK.mpr ⟨(t,y,kv),Aj (i:=j) ?_,rfl⟩;rw[PK];exact⟨e1,by rw[PK];exact⟨e3,e2⟩⟩
 obtain⟨H',I',sm,g⟩:=gN rows _ I1 (by rw[xT];exact E.2.1) fun r hr=>by
  obtain⟨⟨t,y,kv⟩,hq,rfl⟩:=KK.mp hr;obtain⟨j,M⟩:=Px hq;rw[PK] at M;obtain⟨N,F⟩:=M;rw[PK] at F;obtain⟨F,j3⟩:=F;obtain⟨y',g1,g2,g3,g4⟩:=D j t kv N j3;rw[F] at g3;obtain rfl:=Ah g3;have A:s⁻¹<t:=U t (Aj N);refine⟨I.fpOk (PY A) ?_,AC I.sz (PY A),by show 2<=sizeLine;rw[sizeLine_eq];omega,[.ref y.2.1,y.2.2],.cons rfl (.cons g2 .nil),⟨_,g4,rfl,_,rfl⟩⟩;rw[ae (A0 A)];exact I.hok.fresh (PY A)
 have key:∀(a:List Addr)(b:List (List Key×V)),a.length=b.length->(∀(j:Nat) t kv,a[j]?=some t->b[j]?=some kv->∃c,H' t=some (.tup [.ref c,kv.2])/\H' c=some (.tup (kv.1.map kV)))->Paired (fun t(kv:List Key×V)=>∃b,H' t=some (.tup [.ref b,kv.2])/\H' b=some (.tup (kv.1.map kV))) a b:=by
  intro a
  induction a with
  |nil=>
   intro b hb _;cases b with
   |nil=>exact .nil
   |cons x y=>simp at hb
  |cons x a ih=>
   intro b hb f;cases b with
   |nil=>simp at hb
   |cons y b=>exact .cons (f 0 x y rfl rfl) (ih b (by simpa using hb) fun j t kv e1 e2=>f (j+1) t kv (by simpa using e1) (by simpa using e2))
 refine⟨.ref s⁻¹,H',I',rfl,q H' _ ts (P.trans sm) O (sm _ _ ac) (key _ _ C fun j t kv e1 e2=>?_)⟩;obtain⟨y,g1,g2,g3,g4⟩:=D j t kv e1 e2;exact⟨y.2.1,g _ (p j t kv y e1 e2 g3),sm _ _ (P _ _ g1)⟩
end
end L2
end
section
namespace K65
open K1
open PySem L2 STb
abbrev sr:Stmt:=top 39
abbrev CT(K:Ae):List V->Hp->VK->Prop:=fun xs H Q=>∃p ys,xs=[.ref p]/\(SqL K H p ys\/SqT K H p ys)/\Q (.int ys.length) H
abbrev pL(K:Ae):TT:=eI (bY (eu fun i j=>.bl (decide (j<i))) (hH (CT K) (zH (ay 1) bb)) (tC (.int 1)))
section
variable{P:Program}{w:World}{K:Ae}{mg:Str->Option Value}{base:Heap}
def LC{H2:Hp}{a D:Addr}{ps:List Int}{Q:VK}(ha:Tp H2 a ps)(hz:ps.length<=5)(p:H2 D=none)(k:∀(H3:Hp)(bs:List Addr),Same H2 H3->H3 D=some (.lst (bs.map V.ref))->Tps H3 bs (rims ps)->Q (.ref D) H3):cG (hB 0 ps.length) (zU 0) (pL K) jp [none,some (.ref a)] H2 D Q:=by
 refine B9 (fun j σ ys H3=>∃(v:Option V)(bs:List Addr),σ=[v,some (.ref a)]/\Same H2 H3/\H3 D=some (.lst ys)/\ys=bs.map V.ref/\Tps H3 bs ((rims ps).take j)) ?_ ?_ ?_
 ·exact⟨none,[],rfl,Same.new p,ac,rfl,by rw[List.take_zero];exact .nil⟩
 ·rintro j σ ys H3 d hy ⟨v,bs,rfl,sm,b,rfl,hb⟩
  refine⟨_,rfl,a,_,rfl,.inr (SqT.of (sm.tp ha)),_,_,rfl,rfl,_,rfl,?_⟩;rw[Ab]
  by_cases h1:ps.length=1
  ·have f:rims ps=[]:=by unfold rims;rw[RJ h1]
   rw[RN ω];refine aO (dH d hy ⟨_,bs,rfl,sm,b,rfl,?_⟩);rw[f] at hb ⊢;rw[List.take_nil] at hb ⊢;exact hb
  ·have f:rims ps=(AJ ps.length).map fun k=>ps.take k++ps.drop (k+1):=by unfold rims;rw[RK h1]
   rw[RM ω];refine aK ?_;have e:(rims ps)[j]?=some (ps.take j++ps.drop (j+1)):=by rw[f,Af,QC d];rfl
   refine⟨_,rfl,_,rfl,_,rfl,a,_,rfl,sm.tp ha,fun q w g h=>⟨_,rfl,_,rfl,_,_,rfl,rfl,_,rfl,a,_,rfl,g _ _ (sm.tp ha),fun p2 x i l=>?_⟩⟩;rw[show(0:Int)+((j:Nat):Int)=((j:Nat):Int) from ω,pi _ _ (by rw[Ab];omega),<-Rt] at h;rw[show(0:Int)+((j:Nat):Int)+1=((j+1:Nat):Int) from ω,pj _ _ (by rw[Ab];omega),<-List.map_drop] at l;refine⟨q,p2,_,_,rfl,rfl,i _ _ h,l,zg (by simp;omega),fun r y u o=>?_⟩;rw[<-Ao] at o;have c:=(g.trans i).trans u;refine bi (zg ω) d hy (c _ _ b) ⟨_,bs++[r],rfl,(sm.trans c).then p,ac,by rw[Ao];rfl,?_⟩;rw[AE e];exact Tps.upd (Tps.snoc (c.tps hb) o) (c _ _ b) (by intro xs z;cases z)
 ·rintro σ ys H3 ⟨v,bs,rfl,sm,b,rfl,hb⟩
  rw[AA (kE ps)] at hb;exact k H3 bs sm b hb
def LD:zr ["piece"] ["piece"] (zh sr):=⟨rfl,rfl,rfl,δ,rfl,δ,δ⟩
def LF{f:Addr}{fd:FuncData}(F:Fun K "_law_rims" "_law_rims" sr f fd)(B:Bt mg):FnOk P w K mg base aG 1 f fd ["piece"] kH:=by
 refine F.ok LD (fun vs H Q E h=>?_) (fun cdv A outer s H vs Q E hr h=>?_)
 ·obtain⟨a,ps,rfl,_⟩:=h;rfl
 ·obtain⟨a,ps,rfl,ha,e,k⟩:=h
  refine⟨_,zi (zq (zv ["piece"] ["k","piece"] [none,some 0] (lH rfl B.range (zc (zm zl rfl B.len cV (zc (pv 0) zd)) zd)) (fun b C s₀ H₀ ex=>zk (i:=0) (cv ["k","piece"]) rfl (Or.inl rfl))
    (fun b C s₀ H₀ ex=>i9 (zn oj (zm zl rfl B.len cV (zc (pv 1) zd)) zf (au _)))
    (fun b C s₀ H₀ ex=>zx Ce (oy rS (pv 1) ow (ox (pv 0))) (oy rS (pv 1) (ox (zx dq (pv 0) zf)) ow)) (hfr:=b_ (zh sr) δ) (tc:=pL K) (te:=jp))),?_⟩
  refine⟨_,rfl,a,_,rfl,.inr (SqT.of ha),_,rfl,by rw[Ab];omega,by rw[Ab];omega,fun D c=>?_⟩;rw[Ab];exact zE (LC ha e c fun H3 bs sm d hb=>k D H3 bs sm c d hb)
def eF{H:Hp}{b:Addr}{ps:List Int}(h:Tp H b ps):H b=some (.tup ((ps.map Sum.inl:List Key).map kV)):=by rw[Ak];exact h
def F_{H2:Hp}{L D:Addr}{as:List Addr}{d:Ξ}{Q:VK}{p:List Int->Bool}{tc:TT}{c:List (Option V)}(r:∀(o:Addr)(os:List Int)(H:Hp)(R:Bool->Hp->Prop),Same H2 H->Tp H o os->os∈d->(∀H',Same H H'->R (p os) H')->tc (some (.ref o)::c) H R)(u:SqL K H2 L (as.map V.ref))(ht:Tps H2 as d)(hz:d.length<=1000)(h:H2 D=none)(k:∀H3 bs,Same H2 H3->H3 D=some (.lst (bs.map V.ref))->Tps H3 bs (d.filter p)->Q (.ref D) H3):cG (dI K L) (zU 0) tc (ay 0) (none::c) H2 D Q:=by
 have l:=ht.length;refine zN (xs:=as.map V.ref) (fun j σ ys H3=>∃(v:Option V)(bs:List Addr),σ=v::c/\Same H2 H3/\H3 D=some (.lst ys)/\ys=bs.map V.ref/\Tps H3 bs ((d.take j).filter p)) ?_ ?_ ?_ ?_
 ·exact⟨none,[],rfl,Same.new h,ac,rfl,.nil⟩
 ·rintro j σ ys H3 ⟨v,bs,rfl,sm,b,rfl,_⟩
  exact sm.seq u
 ·rintro j σ ys H3 x hx f hy ⟨v,bs,rfl,sm,b,rfl,hb⟩
  obtain⟨o,i,rfl⟩:=dz hx;obtain⟨os,e,g⟩:=ht.get i;have q:(as.map V.ref).length<=sizeLine:=by rw[Ab];exact zg ω
  refine r o os H3 _ sm (sm.tp g) (Aj e) fun w a=>?_;cases hp:p os
  ·refine aO (dH f hy ⟨_,bs,rfl,sm.trans a,a _ _ b,rfl,?_⟩)
   rw[AE e,Ba,Pc (by rw[hp];simp),QK,Ps];exact a.tps hb
  ·refine aK ⟨_,rfl,bi q f hy (a _ _ b) ⟨_,bs++[o],rfl,(sm.trans a).then h,ac,by rw[Ao];rfl,?_⟩⟩
   rw[AE e,Ba,Pd hp];exact Tps.upd (Tps.snoc (a.tps hb) ((sm.trans a).tp g)) (a _ _ b) (by intro xs z;cases z)
 ·rintro σ ys H3 ⟨v,bs,rfl,sm,b,rfl,hb⟩
  rw[Ab,l,AA (Ag _)] at hb;exact k H3 bs sm b hb
end
end K65
end
section
namespace DCp
open PySem
def CU:mroOf (.type "dict")=pure [.type "dict",.type "object"]:=by rw[mroOf_type];kernel_rfl
def LG:typeLookup (.type "dict") "__new__"=pure (some (.builtin "dict.__new__")):=by rw[typeLookup_type,builtinLookup_eq_fast];kernel_rfl
def zu:TypeCalled "dict" "dict.__new__" "dict.__init__":=
 ⟨δ,δ,⟨_,_,CU⟩,madeBy_type CU LG δ,δ,by rw[isSubtype_type];kernel_rfl,PySem.F.slot_dict_init⟩
def F'(a:Value):checkTypeCall "dict" ⟨[a],[]⟩=pure ():=by kernel_rfl
def LH(a:Value):checkBuiltinCall "dict.__new__" ⟨[.type "dict",a],[]⟩=pure ():=by kernel_rfl
def LI:entryFor table "dict.__new__"=some Builtin.«dict.__new__»:=entryFor_of_tree (by kernel_rfl)
def Ga:plainId "dict.__new__"=true:=δ
def pM:isSubtype (.type "dict") (.type "dict")=pure true:=by rw[isSubtype_type];kernel_rfl
section
variable{prog:Program}{w:World}{A:Around}{E:Ω}{s:Shared}
def Gb(a:Value){Q₁:Ω}(h:Q₁ (.ref s⁻¹) {s with heap:=s.heap.push {cls:=.type "dict",data:=.dict #[]}}):codeAny (model prog w) A (.call (.builtin "dict.__new__") ⟨[.type "dict",a],[]⟩) (wants Q₁ E) s:=by
 refine codeAny_of_tree (show wpAny _ A.in1 (do checkBuiltinCall "dict.__new__" ⟨[.type "dict",a],[]⟩;again (.builtin "dict.__new__" ⟨[.type "dict",a],[]⟩)) _ _ s from Aa (wpAny_of_eq (LH a) (Ac ⟨plainId_quiet Ga _,Bd LI ?_⟩)));rw[A2 Ga _];unfold Builtin.«dict.__new__»;have b:=pM;have c:=CU;obtain⟨hp,g,d,tk,os⟩:=s;dsimp only;refine Aa (wpAny_of_eq (a:=true) rfl ?_);simp only[Qf,Az,if_false];refine Aa (wpAny_of_eq b ?_);simp only[Qf,Az,if_false];refine Aa (wpAny_of_eq c ?_);rw[RK ξ];refine Aa (AF ?_);exact Ac h
def LJ{id:String}{d:Addr}{o:Obj}{es:Array DictEntry}{ep:Nat}{Q:Array DictEntry->Shared->Prop}(g:s.heap.get? d=some o)(hd:o.data=.dict es ep)(hk:∀e∈es.toList,∃b,e.key=.ref b/\s.TypeIs (.ref b) "tuple")(i:∀e∈es.toList,(es.filter (·.hash==e.hash)).size<=1)(h:Q es s):wpAny (model prog w) A (Builtin.Dict.entriesForEmpty id d) Q E s:=by
 unfold Builtin.Dict.entriesForEmpty;refine Aa (AB g hd ?_);refine Aa ?_;show wpAny _ _ (forIn es _ _) _ _ s;rw[<-Array.forIn_toList];refine wpAny_forIn_list _ (fun rest r s'=>s'=s/\∀e∈rest,e∈es.toList) _ ?_ ?_ _ _ ⟨rfl,fun _ z=>z⟩
 ·rintro e rest r s' ⟨rfl,a⟩
  have he:=a e Av;obtain⟨b,f,hT⟩:=hk e he;have nx:∀e∈rest,e∈es.toList:=fun u c=>a u (As _ c);have j:=i e he;unfold Builtin.Dict.quietEq;rw[f];refine Aa ?_;dsimp only;refine Aa (wpAny_specialOf hT F.slot_tuple_eq.lookup (Ac ?_));rw[RJ ξ,RK ω];exact Ac ⟨rfl,nx⟩
 ·rintro r s' ⟨rfl,_⟩
  exact Ac h
def LM{id:String}{D d:Addr}{o:Obj}{es:Array DictEntry}{ep:Nat}{Q:Unit->Shared->Prop}(c:s.heap.get? d=some o)(hd:o.data=.dict es ep)(r:(d==A3)=false)(hz:es.size<=sizeLine)(i:D≠d)(hk:∀e∈es.toList,∃b,e.key=.ref b/\s.TypeIs (.ref b) "tuple")(u:∀e∈es.toList,(es.filter (·.hash==e.hash)).size<=1)(f:s.heap.get? D=some {cls:=.type "dict",data:=.dict #[]})(h:∀h' j,h'.get? D=some {cls:=.type "dict",data:=.dict es j}->Heap.SameBut D s.heap h'->Q () {s with heap:=h'}):wpAny (model prog w) A (Builtin.Dict.mergeDict id D d) Q E s:=by
 unfold Builtin.Dict.mergeDict;rw[RK (by simpa using i)];unfold Builtin.Dict.showsAll;rw[RK (by rw[r];exact An)];refine Aa (Ac ?_);refine Aa (AB c hd ?_)
 by_cases q:es.size=0
 ·have he:es=#[]:=Array.eq_empty_of_size_eq_zero q
  subst he;have g:(decide ((#[]:Array DictEntry).size<=8)&&(#[]:Array DictEntry).all fun e=>(keyPart e.key).isSome)=true:=by simp
  dsimp only;rw[g];simp only[Qf,Az,if_false];refine Aa (Bc c hd ?_);refine Aa (AB c hd ?_);refine Aa ?_;rw[Std.Legacy.Range.forIn_eq_forIn_range'];refine wpAny_of_eq (a:=PUnit.unit) rfl ?_;exact Ac (h s.heap 0 f (Heap.SameBut.refl ..))
 ·have g:(decide (es.size<=8)&&es.all fun e=>(keyPart e.key).isSome)=false:=by
   have p:0<es.size:=Nat.pos_of_ne_zero q;obtain⟨b,l,_⟩:=hk es[0] (by simp);have:(es.all fun e=>(keyPart e.key).isSome)=false:=by
    rw[Bool.eq_false_iff];intro z;rw[Array.all_eq_true] at z;have:=z 0 p;rw[l] at this;exact absurd this (by simp[keyPart])
   rw[this,QU]
  dsimp only;rw[g];simp only[Bool.not_false,if_true];refine Aa (AB f rfl ?_);rw[RJ (show(#[]:Array DictEntry).isEmpty=true from rfl)];refine Aa (LJ c hd hk u ?_);rw[RJ (by simpa[Array.isEmpty] using q)];refine Aa (wpAny_updateDictKeysTo f rfl ?_ ω);refine Ac (h _ 1 ?_ (AH ..));rw[Heap.get?_update_self _ f (by simp[Obj.mapDictKeys,Obj.isFreed])]
  rfl
def LN{d:Addr}{o:Obj}{es:Array DictEntry}{ep:Nat}{Q:Ω}(v:s.heap.get? d=some o)(hx:o.ExactDict)(hd:o.data=.dict es ep)(H:(d==A3)=false)(hz:es.size<=sizeLine)(hk:∀e∈es.toList,∃b,e.key=.ref b/\s.TypeIs (.ref b) "tuple")(I:∀e∈es.toList,(es.filter (·.hash==e.hash)).size<=1)(h:∀h' f,h'.get? s⁻¹=some {cls:=.type "dict",data:=.dict es f}->(∀b o,b<s⁻¹->s.heap.get? b=some o->h'.get? b=some o)->Q (.ref s⁻¹) {s with heap:=h'}):wpAny (model prog w) A (call (.type "dict") [.ref d]) Q E s:=by
 obtain⟨c,tl,J⟩:=zu.mro;have L:=zu.made;have M:=zu.sub;refine wpAny_call (codeAny_of_tree ?_);show wpAny _ _ (callAny (.type "dict") _) _ _ _;refine Ac ⟨Code.quiet_builtin _ δ,Bd F.entry_type_call ?_⟩;rw[Around.under_plain (weight_type_call_type "dict" [.ref d] []) rfl];have h1:=zu.notType;have h2:=zu.canCreate;have N:=F' (.ref d)
 repeat(any_goals(first|assumption|wp_step))
 refine codeAny_mono (Gb (.ref d) (E:=E) (Q₁:=fun obj l=>obj=.ref s⁻¹/\l={s with heap:=s.heap.push {cls:=.type "dict",data:=.dict #[]}}) ⟨rfl,rfl⟩) fun r l hr=>?_;cases r with
 |error e=>exact hr
 |ok fl=>
  cases fl with
  |ret obj=>
   obtain⟨rfl,rfl⟩:=hr;have q:(s.heap.push {cls:=.type "dict",data:=.dict #[]}).get? s⁻¹=some {cls:=.type "dict",data:=.dict #[]}:=Al _ rfl;have u:Shared.TypeIs {s with heap:=s.heap.push {cls:=.type "dict",data:=.dict #[]}} (.ref s⁻¹) "dict":=⟨_,q,rfl⟩;have O:=zu.init.lookup;have P:=zu.init.bind (.ref s⁻¹)
   repeat(any_goals(first|assumption|wp_step))
   refine codeAny_mono (codeAny_call_builtin (R:=wants (fun r p=>r=.none/\∃h' f,p={s with heap:=h'}/\
     h'.get? s⁻¹=some {cls:=.type "dict",data:=.dict es f}/\
     (∀b o,b<s⁻¹->s.heap.get? b=some o->h'.get? b=some o)) E) zu.init.plain F.entry_dict_init (zu.init.check _ _ _ _ _ _ _ _ u (F.args_dict_init_2 _ _) ?_)) fun x p i=>?_
   ·have G:d<s⁻¹:=Ar v
    have g:(s.heap.push {cls:=.type "dict",data:=.dict #[]}).get? d=some o:=Ad _ v;have j:Shared.TypeIs {s with heap:=s.heap.push {cls:=.type "dict",data:=.dict #[]}} (.ref d) "dict":=⟨o,g,hx.1⟩;unfold Builtin.«dict.__init__»;refine Aa ?_;unfold Builtin.Dict.selfAndRest;refine Aa (wpAny_notOrdered_dict u ?_);refine Aa (show wpAny _ _ (pure s⁻¹) _ _ _ from Ac ?_);refine Ac ?_;show wpAny _ _ (Builtin.Dict.updateCommon "dict.__init__" "dict" s⁻¹ [Value.ref d] []) _ _ _;unfold Builtin.Dict.updateCommon Builtin.Dict.updateFrom;dsimp only;refine Aa (wpAny_typeOf j ?_);rw[RK ξ];unfold Builtin.Dict.merge Builtin.Dict.readDirectly;refine Aa (Aa (Aa (wpAny_isInstance j pM ?_)));simp only[Qf,Az,if_false];refine Aa (wpAny_specialOf j F.slot_dict_iter.lookup (Ac ?_));rw[RJ ξ];refine Aa (show wpAny _ _ (pure d) _ _ _ from Ac ?_);refine LM (s:={s with heap:=s.heap.push {cls:=.type "dict",data:=.dict #[]}}) g hd H hz (A0 G) (fun e he=>let ⟨b,e1,o,e2,e3⟩:=hk e he;⟨b,e1,o,Ad _ e2,e3⟩) I q fun h' f y sb=>?_;unfold Builtin.Dict.addKeywords;refine Aa (wpAny_of_eq (a:=()) rfl ?_);refine Ac ⟨rfl,h',f,rfl,y,fun b o hb e=>?_⟩;rw[sb.2 b (Au hb)];exact Ad _ e
   ·cases x with
    |error e=>exact i
    |ok fl₂=>
     cases fl₂ with
     |ret r=>
      obtain⟨rfl,h',f,rfl,C,D⟩:=i
      repeat(any_goals(first|assumption|wp_step))
      exact h _ _ C D
     |_=>exact i.elim
  |_=>exact hr.elim
end
end DCp
end
section
namespace L2
open PySem PySem.Spec PyProof.Rows
def Gc{P:Program}{w:World}(ps:List Int):tupleKeyHash (zw P w) (ps.map Sum.inl)=tupleKeyHash (intKind P w) ps:=by
 unfold tupleKeyHash;rw[Ak]
 rfl
def Ge{a:Type}(f:a->Int):∀(l:List a),(l.map f).Nodup->∀c,(l.filter fun x=>f x==c).length<=1
 |[],_,c=>by simp
 |x::l,h,c=>by
  rw[Aq,Be] at h;have b:=Ge f l h.2 c
  by_cases q:f x=c
  ·rw[Pd (by simpa using q)]
   have:l.filter (fun x=>f x==c)=[]:=List.filter_eq_nil_iff.mpr fun y hy z=>h.1 (by rw[q,<-(by simpa using z:f y=c)];exact QE hy);rw[this];simp
  ·rw[Pc (by simpa using q)]
   exact b
section
variable{X:Cx}
def ss:da X (.type "dict") (fun xs H Q=>∃(a:Addr)(kvs:List (List Key×V))(ab:Ξ),xs=[.ref a]/\Rd H a (.dT kvs)/\kvs.map (·.1)=ab.map (·.map Sum.inl)/\(ab.map (tupleKeyHash (intKind X.prog X.w))).Nodup/\
  ∀D,H D=none->Q (.ref D) (upd H D (.dT kvs))):=by
 intro aa s σ H xs us Q I r h;obtain⟨a,kvs,ab,rfl,hq,hp,A,q⟩:=h;obtain⟨u,rfl,C⟩:=vals1 r;cases C;obtain⟨z,y,ys,c,o,es,ep,h1,h2,E,g,F⟩:=(show zF X.prog X.w H s.heap a (.dT kvs) from hq.ok I.hok);have J:kvs.length=ys.length:=AN c;have M:es.size=ys.length:=by
  have:=congrArg List.length g;rw[Ab] at this
  simpa using this
 have L:ys.map (·.1)=ab.map (·.map Sum.inl):=by
  rw[<-hp];have:∀{l:List (List Key×V)}{m:List (List Key×Addr×Value)},KT H l m->m.map (·.1)=l.map (·.1):=by
   intro l m q
   induction q with
   |nil=>rfl
   |cons hq t ih=>rw[Aq,Aq,ih,hq.1]
  exact this c
 have f:es.toList.map (·.hash)=ab.map (tupleKeyHash (intKind X.prog X.w)):=by
  rw[g,Ak];have e1:ys.map ((·.hash) ∘ entryOfKey (tupleKind (zw X.prog X.w)))=(ys.map (·.1)).map (tupleKeyHash (zw X.prog X.w)):=by rw[Ak];rfl
  rw[e1,L,Ak];exact Aw fun ps _=>Gc ps
 have tk:∀e∈es.toList,∃b,e.key=.ref b/\s.TypeIs (.ref b) "tuple":=fun e he=>by
  rw[g] at he;obtain⟨d,hw,rfl⟩:=KK.mp he;have:∀{l:List (List Key×V)}{m:List (List Key×Addr×Value)},KT H l m->∀d∈m,∃ks:List Key,H d.2.1=some (.tup (ks.map kV)):=by
   intro l m q
   induction q with
   |nil=>intro d hw;cases hw
   |cons hq t ih=>
    intro d hw;rcases OT.mp hw with rfl|hw
    ·exact⟨_,hq.2.1⟩
    ·exact ih d hw
  obtain⟨ks,G⟩:=this c d hw;exact⟨d.2.1,rfl,(ib (P:=X.prog) (w:=X.w) I.hok G).typeIs⟩
 refine DCp.LN h1 h2 E y ω tk (fun e he=>?_) fun h' p v x=>?_
 ·have:=Ge (fun e:DictEntry=>e.hash) es.toList (by rw[f];exact A) e.hash
  rw[<-PB,Array.toList_filter];exact this
 ·have j:=I.hok.fresh (Ag s⁻¹)
  have hy:(s⁻¹==A3)=false:=by
   have:=I.big
   simpa using A0 this
  have i:KT (upd H s⁻¹ (.dT kvs)) kvs ys:=KT.keeps c fun b zs e=>by rw[ae (zj e j)];exact e
  exact⟨.ref s⁻¹,_,I.laid (t':=s.toks) (o:=.dT kvs) (fun b u e=>x b u (Ar e) e) (Ag _) (show zF X.prog X.w _ h' _ (.dT kvs) from⟨z,hy,ys,i,_,es,p,v,⟨rfl,rfl,rfl⟩,rfl,g,F⟩),rfl,q _ j⟩
end
end L2
end
section
namespace DPr
open PySem PyProof.Rows
section
variable{prog:Program}{w:World}{A:Around}{E:Ω}{s:Shared}
def LP:typeLookup (.type "list") "keys"=pure none:=by rw[typeLookup_type,builtinLookup_eq_fast];kernel_rfl
def LQ{a:Addr}{o:Obj}{xs:Array Value}{k:Nat}{Q:Option Value->Shared->Prop}(hx:s.heap.get? a=some o)(hc:o.cls=.type "list")(f:o.data=.seq xs k)(hd:o.dict=none)(j:A.handled=none)(h:∀h' tk e,Heap.NewExcOf s.heap h' e "AttributeError"->Q none {s with heap:=h',toks:=tk}):wpAny (model prog w) A (getAttr? (.ref a) "keys") Q E s:=by
 obtain⟨c,u,v,i⟩:=o;simp only at hc f hd;subst hc f hd;obtain⟨hp,g,d,tk,os⟩:=s;have hT:∀b,(⟨hp,g,d,b,os⟩:Shared).TypeIs (.ref a) "list":=fun _=>⟨_,hx,rfl⟩;have f1:=sub_AttributeError;have p:=F.slot_list_getattribute.lookup;have q:=F.slot_list_getattribute.bind (.ref a);have r:=am_list_getattr_none;unfold getAttr? getAttrBy? getAttrBy
 repeat(any_goals(first|assumption|exact hT _|((with_reducible show wpAny _ _ (call (Value.builtin "list.__getattribute__") _ _) _ _ _);refine call_meets F.slot_list_getattribute (hT _) am_entry_list_getattribute (F.args_list_getattribute_2 _ _) (meets_getattribute_miss_list a xs k i "keys" _ LP ξ (by size_fits)) ⟨hx,j,fun h' b e hx'=>?_⟩)|wp_step))
 obtain⟨t',l,he⟩:=hx'.there;show wpAny _ _ (getattributeRaised _ _ _ _ _ _ _) _ _ _;unfold getattributeRaised
 repeat(any_goals(first|assumption|wp_step))
 exact h _ _ _ hx'.of
def Gf:entryFor table "dict.update.loop"=some Builtin.«dict.update.loop»:=entryFor_of_tree (by kernel_rfl)
def sw:plainId "dict.update.loop"=true:=δ
abbrev lp(D I:Addr)(i:Int):Code:=.builtin "dict.update.loop" ⟨[.ref D,.ref I,rawInt i,.none],[]⟩
variable{K:Type}[DecidableEq K]{knd:KeyKind prog w K}
abbrev Pr(K:Type):Type:=Addr×List K×Addr×Value
def Good(knd:KeyKind prog w K)(h:Heap)(x:Pr K):Prop:=h.IsTuple x.1 #[.ref x.2.2.1,x.2.2.2]/\IsTupleKey knd h x.2.1 x.2.2.1
def pN(xs:List (List K×Addr×Value))(ts:List (Pr K)):List (List K×Addr×Value):=ts.foldl (fun acc x=>storedH acc x.2.1 x.2.2.1 x.2.2.2) xs
def Gg{h h':Heap}{x:Pr K}{D I:Addr}{o:Obj}(g:Good knd h x)(A:∃o,h.get? D=some o/\o.cls=.type "dict")(C:∃o,h.get? I=some o/\o.cls=.type "list_iterator")(j:∀b o,b≠D->b≠I->h.get? b=some o->h'.get? b=some o):Good knd h' x:=by
 obtain⟨⟨l,e1,f,p⟩,q,it,n,e2,i,r⟩:=g;obtain⟨E,u,v⟩:=A;obtain⟨F,w,y⟩:=C;have ne:∀{a:Addr}{e:Obj},h.get? a=some e->e.cls=.type "tuple"->a≠D/\a≠I:=fun{a e} c d=>by
  refine⟨fun z=>?_,fun z=>?_⟩
  ·rw[z,u] at c
   rw[<-Ah c,v] at d;exact absurd d ξ
  ·rw[z,w] at c
   rw[<-Ah c,y] at d;exact absurd d ξ
 exact⟨⟨l,j _ _ (ne e1 f).1 (ne e1 f).2 e1,f,p⟩,q,it,n,j _ _ (ne e2 i).1 (ne e2 i).2 e2,i,r⟩
def Gh{h h':Heap}{D I:Addr}{xs:List (List K×Addr×Value)}(d:h.DictOfH (tupleKind knd) D xs)(c:D≠I)(r:∃o,h.get? I=some o/\o.cls=.type "list_iterator")(e:∀b o,b≠I->h.get? b=some o->h'.get? b=some o):h'.DictOfH (tupleKind knd) D xs:=by
 obtain⟨o,es,ep,f,hc,hd,he,g,i⟩:=d;obtain⟨u,j,l⟩:=r;refine⟨o,es,ep,e _ _ c f,hc,hd,he,fun x hx=>?_,i⟩;obtain⟨p,it,n,e2,a,q⟩:=g x hx;refine⟨p,it,n,e _ _ (fun z=>?_) e2,a,q⟩;rw[z,j] at e2;rw[<-Ah e2,l] at a;exact absurd a ξ
def pair_items{t:Addr}{b:Array Value}{Q:List Value->Shared->Prop}(ht:s.heap.IsTuple t b)(h:Q b.toList s):wpAny (model prog w) A (Builtin.Dict.pairItems (.ref t)) Q E s:=by
 obtain⟨o,a,hc,n,hd⟩:=ht;unfold Builtin.Dict.pairItems;refine Aa (wpAny_typeOf (show s.TypeIs (.ref t) "tuple" from⟨o,a,hc⟩) ?_);rw[RJ ξ];exact Aa (wpAny_seqItems a hd (Ac h))
def LR(xs:List (List K×Addr×Value))(k:List K)(a:Addr)(v:Value):(storedH xs k a v).length<=xs.length+1:=by
 unfold storedH;split
 ·rw[Ab];omega
 ·rw[Ap];simp
def Gi{D I L:Addr}{ts:List (Pr K)}{R:Result->Shared->Prop}(r:A.handled=none)(hu:A.units+1<cLine)(p:D≠I)(F:L≠D)(u:L≠I):∀(k j:Nat)(s:Shared)(xs:List (List K×Addr×Value)),ts.length-j=k->j<=ts.length->s.heap.IsListIter I L j->s.heap.IsList L (ts.map fun x=>Value.ref x.1).toArray->(∀x∈ts,Good knd s.heap x)->
   s.heap.DictOfH (tupleKind knd) D xs->xs.length+k<=sizeLine->
   (∀h' tk,h'.DictOfH (tupleKind knd) D (pN xs (ts.drop j))->(∀b o,b≠D->b≠I->s.heap.get? b=some o->h'.get? b=some o)->R (.ok (.ret .none)) {s with heap:=h',toks:=tk})->
   codeAny (model prog w) A (lp D I j) R s
 |0,j,s,xs,hk,hj,ao,hl,hg,hd,hz,hQ=>by
  have S:j=ts.length:=ω
  subst S;have W:=Walks.list (prog:=prog) (w:=w) (A:=A.in1) r I L u (ts.map fun x=>Value.ref x.1).toArray;refine Bd Gf ?_;rw[A2 sw _];unfold Builtin.«dict.update.loop»;dsimp only[rawInt];refine Aa (W.done s _ _ ⟨by simpa using ao,hl⟩ fun h' tk d=>?_);dsimp only;unfold Builtin.Dict.addKeywords;refine Aa (wpAny_of_eq (a:=()) rfl ?_);obtain⟨c,f,g,_⟩:=ao;refine Ac (hQ h' tk ?_ fun b o _ hb e=>d b o (by simpa using hb) e);rw[List.drop_length];exact Gh hd p ⟨c,f,g⟩ fun b o hb e=>d b o (by simpa using hb) e
 |k+1,j,s,xs,hk,hj,ao,hl,hg,hd,hz,hQ=>by
  have W:=Walks.list (prog:=prog) (w:=w) (A:=A.in1) r I L u (ts.map fun x=>Value.ref x.1).toArray;have h:j<ts.length:=ω
  refine Bd Gf ?_;rw[A2 sw _];unfold Builtin.«dict.update.loop»;dsimp only[rawInt];refine Aa (W.item j s _ _ (by simpa using h) ⟨ao,hl⟩ fun v h1 tk G y d=>?_);have T:v=.ref (ts[j]).1:=by
   have:(ts.map fun x=>Value.ref x.1).toArray[j]?=some (Value.ref (ts[j]).1):=by simp[h]
   exact Ah (G.symm.trans this)
  subst T;have Y:=hg ts[j] (Bf h);obtain⟨c,f,g,_⟩:=id ao;have C:∃o,s.heap.get? D=some o/\o.cls=.type "dict":=by
   obtain⟨o,es,ep,O,hc,_⟩:=hd;exact⟨o,O,hc.1⟩
  have i:∀b o,b≠D->b≠I->s.heap.get? b=some o->h1.get? b=some o:=fun b o _ hb e=>d b o (by simpa using hb) e;have U:∀x∈ts,Good knd h1 x:=fun x hx=>Gg (o:=c) (hg x hx) C ⟨c,f,g⟩ i;have X:h1.DictOfH (tupleKind knd) D xs:=Gh hd p ⟨c,f,g⟩ fun b o hb e=>d b o (by simpa using hb) e;obtain⟨P,Q⟩:=U ts[j] (Bf h);dsimp only;refine Aa (AI (Aa (wpAny_tryCatch (pair_items (s:={s with heap:=h1,toks:=tk}) P ?_))));dsimp only;refine AI (wpAny_dictSet_heap (knd:=tupleKind knd) (s:={s with heap:=h1,toks:=tk}) (hsz:=by omega) (tupleKind_room_in1 hu) Q X fun h2 H sb=>?_);have E:∀b o,b≠D->b≠I->s.heap.get? b=some o->h2.get? b=some o:=fun b o hb hi e=>by rw[sb.2 b hb];exact i b o hb hi e
  have l:h2.IsListIter I L (j+1):=y.1.at fun o e=>by rw[sb.2 I (Ne.symm p)];exact e
  have q:h2.IsList L (ts.map fun x=>Value.ref x.1).toArray:=y.2.at fun o e=>by rw[sb.2 L F];exact e
  refine Ac ⟨plainId_quiet sw _,?_⟩;refine Gi r hu p F u k (j+1) {s with heap:=h2,toks:=_} _ ω ω l q (fun x hx=>Gg (o:=c) (hg x hx) C ⟨c,f,g⟩ E) H (by have:=LR xs (ts[j]).2.1 (ts[j]).2.2.1 (ts[j]).2.2.2;omega) fun h' J M N=>hQ h' J ?_ fun b o hb hi e=>N b o hb hi (E b o hb hi e);rw[List.drop_eq_getElem_cons h];exact M
end
end DPr
end
section
namespace DPr
open PySem PyProof.Rows DCp
section
variable{prog:Program}{w:World}{A:Around}{E:Ω}{s:Shared}{K:Type}[DecidableEq K]{knd:KeyKind prog w K}
def pP{L:Addr}{o:Obj}{n:Nat}{ts:List (Pr K)}{Q:Ω}(J:A.handled=none)(hu:A.units+2<cLine)(M:s.heap.get? L=some o)(hc:o.cls=.type "list")(N:o.data=.seq (ts.map fun x=>Value.ref x.1).toArray n)(xM:o.dict=none)(hg:∀x∈ts,Good knd s.heap x)(hz:ts.length<=sizeLine)(h:∀h' tk,h'.DictOfH (tupleKind knd) s⁻¹ (pN [] ts)->(∀b o,b<s⁻¹->s.heap.get? b=some o->h'.get? b=some o)->Q (.ref s⁻¹) {s with heap:=h',toks:=tk}):wpAny (model prog w) A (call (.type "dict") [.ref L]) Q E s:=by
 obtain⟨c,tl,hJ⟩:=zu.mro;have je:=zu.made;have bN:=zu.sub;refine wpAny_call (codeAny_of_tree ?_);show wpAny _ _ (callAny (.type "dict") _) _ _ _;refine Ac ⟨Code.quiet_builtin _ δ,Bd F.entry_type_call ?_⟩;rw[Around.under_plain (weight_type_call_type "dict" [.ref L] []) rfl];have h1:=zu.notType;have h2:=zu.canCreate;have qb:=F' (.ref L)
 repeat(any_goals(first|assumption|wp_step))
 refine codeAny_mono (Gb (.ref L) (E:=E) (Q₁:=fun obj l=>obj=.ref s⁻¹/\l={s with heap:=s.heap.push {cls:=.type "dict",data:=.dict #[]}}) ⟨rfl,rfl⟩) fun r l hr=>?_;cases r with
 |error e=>exact hr
 |ok fl=>
  cases fl with
  |ret obj=>
   obtain⟨rfl,rfl⟩:=hr;have v:(s.heap.push {cls:=.type "dict",data:=.dict #[]}).get? s⁻¹=some {cls:=.type "dict",data:=.dict #[]}:=Al _ rfl;have y:Shared.TypeIs {s with heap:=s.heap.push {cls:=.type "dict",data:=.dict #[]}} (.ref s⁻¹) "dict":=⟨_,v,rfl⟩;have xG:=zu.init.lookup;have uB:=zu.init.bind (.ref s⁻¹)
   repeat(any_goals(first|assumption|wp_step))
   refine codeAny_mono (codeAny_call_builtin (R:=wants (fun r p=>r=.none/\∃h' tk,p={s with heap:=h',toks:=tk}/\h'.DictOfH (tupleKind knd) s⁻¹ (pN [] ts)/\
     (∀b o,b<s⁻¹->s.heap.get? b=some o->h'.get? b=some o)) E) zu.init.plain F.entry_dict_init (zu.init.check _ _ _ _ _ _ _ _ y (F.args_dict_init_2 _ _) ?_)) fun O p d=>?_
   ·have C:L<s⁻¹:=Ar M
    have a:(s.heap.push {cls:=.type "dict",data:=.dict #[]}).get? L=some o:=Ad _ M;have uD:Shared.TypeIs {s with heap:=s.heap.push {cls:=.type "dict",data:=.dict #[]}} (.ref L) "list":=⟨o,a,hc⟩;unfold Builtin.«dict.__init__»;refine Aa ?_;unfold Builtin.Dict.selfAndRest;refine Aa (wpAny_notOrdered_dict y ?_);refine Aa (show wpAny _ _ (pure s⁻¹) _ _ _ from Ac ?_);refine Ac ?_;show wpAny _ _ (Builtin.Dict.updateCommon "dict.__init__" "dict" s⁻¹ [Value.ref L] []) _ _ _;unfold Builtin.Dict.updateCommon Builtin.Dict.updateFrom;dsimp only;refine Aa (wpAny_typeOf uD ?_);rw[RJ ξ];refine Aa (LQ (s:={s with heap:=s.heap.push {cls:=.type "dict",data:=.dict #[]}}) a hc N xM J fun h2 q e2 f=>?_);rw[RJ (by rfl)];refine Aa (wpAny_rule ?_);have G:h2.IsList L (ts.map fun x=>Value.ref x.1).toArray:=⟨o,f.keeps _ _ a,hc,n,N⟩;refine Aa (wpAny_pyIter_list (s:={s with heap:=h2,toks:=q}) G ?_);have H:h2.get? s⁻¹=some {cls:=.type "dict",data:=.dict #[]}:=f.keeps _ _ v;have g:s⁻¹<h2.objs.size:=Ar H;have i:∀b ob,h2.get? b=some ob->(h2.push {cls:=.type "list_iterator",data:=.fields #[.ref L,.int 0 0]}).get? b=some ob:=fun b ob e=>Ad _ e;have j:∀b ob,s.heap.get? b=some ob->(h2.push {cls:=.type "list_iterator",data:=.fields #[.ref L,.int 0 0]}).get? b=some ob:=fun b ob e=>i _ _ (f.keeps _ _ (Ad _ e));refine Ac ⟨plainId_quiet sw _,?_⟩;refine Gi (knd:=knd) (ts:=ts) (L:=L) (D:=s⁻¹) (I:=h2.objs.size) (by exact J) (by first|exact hu|(show A.units+1<cLine;omega)) (Au g) (Au C) (Au (Qv C g)) ts.length 0 {s with heap:=h2.push {cls:=.type "list_iterator",data:=.fields #[.ref L,.int 0 0]},toks:=q} [] ω (A1 _)
     ⟨_,Al _ rfl,rfl,rfl⟩ (G.at fun ob e=>i _ _ e) (fun x hx=>?_) ⟨_,#[],0,i _ _ H,⟨rfl,rfl,rfl⟩,rfl,rfl,(fun x hx=>nomatch hx),O6⟩ (by simpa using hz) fun h' u dd P=>⟨rfl,h',u,rfl,dd,fun b ob hb e=>P b ob (Au hb) (Au (Qv hb g)) (j _ _ e)⟩
    obtain⟨⟨S,e1,T⟩,U,it,m,e2,W⟩:=hg x hx;exact⟨⟨S,j _ _ e1,T⟩,U,it,m,j _ _ e2,W⟩
   ·cases O with
    |error e=>exact d
    |ok fl₂=>
     cases fl₂ with
     |ret r=>
      obtain⟨rfl,h',u,rfl,X,Y⟩:=d
      repeat(any_goals(first|assumption|wp_step))
      exact h _ _ X Y
     |_=>exact d.elim
  |_=>exact hr.elim
end
end DPr
namespace L2
open PySem PySem.Spec PyProof.Rows
def sx(kvs:List (List Key×V)):List (List Key×V):=kvs.foldl (fun acc kv=>putK acc kv.1 kv.2) []
section
variable{X:Cx}
def Gj:∀(kvs acc:List (List Key×V)),(kvs.foldl (fun acc kv=>putK acc kv.1 kv.2) acc).length<=acc.length+kvs.length
 |[],acc=>by simp
 |kv::r,acc=>by
  rw[PD];have h1:=Gj r (putK acc kv.1 kv.2);have h2:=yY acc kv.1 kv.2;rw[Ay];omega
def pP(hc:X.calm=true)(hu:X.A.units+64<cLine):da X (.type "dict") (fun xs H Q=>∃(l:Addr)(ts:List Addr)(kvs:List (List Key×V)),xs=[.ref l]/\SqL X.K H l (ts.map V.ref)/\
  Paired (fun t(kv:List Key×V)=>∃b,H t=some (.tup [.ref b,kv.2])/\H b=some (.tup (kv.1.map kV))) ts kvs/\∀D,H D=none->Q (.ref D) (upd H D (.dT (sx kvs)))):=by
 intro aa s σ H xs us Q I r h;obtain⟨l,ts,kvs,rfl,hq,hp,q⟩:=h;obtain⟨u,rfl,f⟩:=vals1 r;cases f;obtain⟨ad,g,⟨o,n,e1,i,j,p⟩,hz⟩:=I.list hq;obtain rfl:=aU g;have P:=AN hp;have get:∀{ts:List Addr}{kvs:List (List Key×V)},Paired (fun t(kv:List Key×V)=>∃b,H t=some (.tup [.ref b,kv.2])/\H b=some (.tup (kv.1.map kV))) ts kvs->
   ∃ps:List (DPr.Pr Key),ps.map (fun x=>Value.ref x.1)=ts.map Value.ref/\(∀x∈ps,DPr.Good (zw X.prog X.w) s.heap x)/\∀acc(ys:List (List Key×Addr×Value)),KT H acc ys->KT H (kvs.foldl (fun acc kv=>putK acc kv.1 kv.2) acc) (DPr.pN ys ps):=by
  intro ts kvs z
  induction z with
  |nil=>exact⟨[],rfl,(fun x hx=>nomatch hx),fun acc ys k=>k⟩
  |@cons t kv ts kvs hh t' ih=>
   obtain⟨ps,g1,g2,g3⟩:=ih;obtain⟨b,ht,hb⟩:=hh;obtain⟨ad,y,C,_⟩:=I.tuple (SqT.of (K:=X.K) ht);obtain⟨vs,e2,E⟩:∃v,ad=[.ref b,v]/\RelV kv.2 v:=by
    cases y with
    |cons ra rb=>
     cases rb with
     |cons rc rd=>
      cases rd;cases ra;exact⟨_,rfl,rc⟩
   subst e2;refine⟨(t,kv.1,b,vs)::ps,by rw[Aq,Aq,g1],fun x hx=>?_,fun acc ys k=>?_⟩
   ·rcases OT.mp hx with rfl|hx
    ·exact⟨C,ib I.hok hb⟩
    ·exact g2 x hx
   ·exact g3 _ _ (k.put kv.1 hb E)
 obtain⟨ps,g1,g2,g3⟩:=get hp;have N:ps.length=kvs.length:=by
  have:=congrArg List.length g1;rw[Ab,Ab] at this;omega
 rw[Ab] at hz;refine DPr.pP (knd:=zw X.prog X.w) (ts:=ps) (n:=n) (I.ok.hd hc) ω e1 i (by rw[g1];exact p) j g2 ω fun h' tk dd d=>?_;have a:=g3 [] [] .nil;have c:H s⁻¹=none:=I.hok.fresh (Ag _);obtain⟨F,es,ep,G,h2,J,L,O,M⟩:=dd;refine⟨.ref s⁻¹,_,I.laid (o:=.dT (sx kvs)) (fun b u e=>d b u (Ar e) e) (Ag _) ⟨?_,?_,DPr.pN [] ps,a.keeps fun b ys e=>?_,F,es,ep,G,h2,J,L,M⟩,rfl,q _ c⟩
 ·have:=Gj kvs []
  unfold sx;simp at this;omega
 ·exact beq_eq_false_iff_ne.mpr (A0 I.big)
 ·rw[ae (zj e c)];exact e
end
end L2
end
section
namespace L2
open PySem PySem.Spec PyProof.Rows
section
variable{X:Cx}
def ints_get{ns:List Int}{ad:List Value}(r:Vals (ns.map V.int) ad){i:Nat}{v:Value}(h:ad[i]?=some v):∃n t,ns[i]?=some n/\v=.int n t:=by
 have b:ad.length=ns.length:=by rw[<-r.length,Ab]
 have hi:i<ns.length:=by rw[<-b];exact(B5.mp h).1
 have e:ns[i]?=some ns[i]:=Ai hi;obtain⟨u,hu,a⟩:=r.get (show(ns.map V.int)[i]?=some (V.int ns[i]) by rw[Af,e];rfl);rw[h] at hu;obtain rfl:=Ah hu;obtain⟨t,rfl⟩:=a;exact⟨_,t,e,rfl⟩
def Gm{bt:Nat->Nat->Bool}{val:Nat->Int}(hb:∀i j,bt i j=decide (val j<val i)):∀k,argBest bt k<=k/\∀i,i<=k->val i<=val (argBest bt k)
 |0=>by
  rw[argBest.eq_1];exact⟨Ag _,fun i hi=>by have:i=0:=ω;rw[this];exact Pm _⟩
 |k+1=>by
  obtain⟨h1,h2⟩:=Gm hb k;rw[argBest.eq_2,hb]
  by_cases g:val (argBest bt k)<val (k+1)
  ·rw[RJ (RM g)]
   refine⟨Ag _,fun i hi=>?_⟩;rcases Qn i (k+1) with h|h
   ·have:=h2 i ω;omega
   ·have:i=k+1:=ω
    rw[this];exact Pm _
  ·rw[RK (fun z=>g (RO z))]
   refine⟨QW h1,fun i hi=>?_⟩;rcases Qn i (k+1) with h|h
   ·exact h2 i ω
   ·have:i=k+1:=ω
    rw[this];omega
def LS(hc:X.calm=true):da X (.builtin "max") (fun xs H Q=>∃(l:Addr)(ns:List Int),xs=[.ref l]/\SqL X.K H l (ns.map V.int)/\ns≠[]/\∀M,M∈ns->(∀a∈ns,a<=M)->Q (.int M) H):=by
 intro aa s σ H xs us Q I r h;obtain⟨l,ns,rfl,hq,g,q⟩:=h;obtain⟨u,rfl,D⟩:=vals1 r;cases D;obtain⟨ad,f,E,_⟩:=I.list hq;have G:=I.ok.hd hc;have o:=E.isList;have c:l<s⁻¹:=by obtain⟨_,e,_⟩:=o;exact Ar e
 have J:ad.length=ns.length:=by rw[<-f.length,Ab]
 have d:0<ns.length:=O9.mpr g;refine call_max_walk (wpAny_pyIter_list o ?_);refine⟨s⁻¹,[s⁻¹,l],[s⁻¹],ad.toArray.size,_,_,fun i j=>decide ((ns[j]?).getD 0<(ns[i]?).getD 0),rfl,Walks.list (A:=X.A.in1) G _ l (Au c) ad.toArray,
  ⟨⟨_,Al _ rfl,rfl,rfl⟩,o.push _⟩,fun b hb=>?_,by rw[Am,J];exact d,fun i j x y s' P S hi C p=>?_,fun v h' tk w hk=>?_⟩
 ·have hb':b<=s⁻¹:=by
   simp only[OT,P5,or_false] at hb;rcases hb with rfl|rfl
   ·exact Ag _
   ·exact PY c
  exact Nat.lt_of_le_of_lt hb' (Ar (Al _ rfl))
 ·obtain⟨m,t,e,rfl⟩:=ints_get f (show ad[i]?=some x by simpa using hi)
  obtain⟨N,t',e',rfl⟩:=ints_get f (show ad[j]?=some y by simpa using C);simp only[e,e',Qx] at p;exact gt_int p
 ·rw[Am] at w
  obtain⟨O,F⟩:=Gm (bt:=fun i j=>decide ((ns[j]?).getD 0<(ns[i]?).getD 0)) (val:=fun i=>(ns[i]?).getD 0) (fun i j=>rfl) (ad.length-1);obtain⟨m,t,e,rfl⟩:=ints_get f (show ad[argBest (fun i j=>decide ((ns[j]?).getD 0<(ns[i]?).getD 0)) (ad.length-1)]?=some v by simpa using w);refine⟨.int m,H,I.kept (LSm.kept_iter hk),⟨t,rfl⟩,q m (Aj e) fun a ha=>?_⟩;obtain⟨i,hi⟩:=OV.mp ha;have L:i<ns.length:=(B5.mp hi).1;have:=F i ω;simp only[hi,e,Qx] at this;exact this
end
end L2
end
section
namespace K65
open K1
open PySem L2 STb
abbrev Ch:Type:=List (List Int×Int)
def ksC(cs:Ch):Ξ:=cs.map (·.1)
def kvC(cs:Ch):List (List Key×V):=cs.map fun c=>((c.1.map Sum.inl:List Key),V.int c.2)
def bx(cs:Ch)(ps:List Int)(n:Int):Ch:=if ps∈ksC cs then cs.map (fun c=>if c.1=ps then(c.1,n) else c) else cs++[(ps,n)]
def zA(cs:Ch):(kvC cs).length=cs.length:=Ab _
def eR(cs:Ch):(ksC cs).length=cs.length:=Ab _
def zY(cs:Ch):(kvC cs).map (·.1)=(ksC cs).map (·.map Sum.inl):=by unfold kvC ksC;rw[Ak,Ak];rfl
def nf(cs:Ch):(kvC cs).map (·.2)=(cs.map (·.2)).map V.int:=by unfold kvC;rw[Ak,Ak];rfl
def kT(cs:Ch)(ps:List Int)(n:Int):putK (kvC cs) (ps.map Sum.inl) (.int n)=kvC (bx cs ps n):=by
 unfold putK kvC bx;have ha:((cs.map fun c=>((c.1.map Sum.inl:List Key),V.int c.2)).any fun kv=>decide (kv.1=ps.map Sum.inl))=decide (ps∈ksC cs):=by
  rw[List.any_map]
  by_cases h:ps∈ksC cs
  ·rw[RM h,Qi]
   obtain⟨c,hc,e⟩:=KK.mp h;exact⟨c,hc,RM (eJ.mpr e)⟩
  ·rw[RN h,QR]
   intro c hc;simp only[Function.comp,decide_eq_true_eq,eJ];rintro rfl;exact h (KK.mpr ⟨c,hc,rfl⟩)
 rw[ha]
 by_cases h:ps∈ksC cs
 ·rw[RM h,RJ rfl,RJ h,Ak,Ak]
  refine Aw fun c hc=>?_;simp only[Function.comp]
  by_cases e:c.1=ps
  ·rw[RJ e,RJ (eJ.mpr e)]
  ·rw[RK e,RK (fun z=>e (eJ.mp z))]
 ·rw[RN h,RK (by simp),RK h,Ao]
  rfl
def Go(cs:Ch)(ps:List Int)(n:Int):ksC (bx cs ps n)=if ps∈ksC cs then ksC cs else ksC cs++[ps]:=by
 unfold bx
 by_cases h:ps∈ksC cs
 ·rw[RJ h,RJ h]
  unfold ksC;rw[Ak];refine Aw fun c _=>?_;simp only[Function.comp];split<;>rfl
 ·rw[RK h,RK h]
  unfold ksC;rw[Ao]
  rfl
def cI{cs:Ch}(ps:List Int)(n:Int)(h:(ksC cs).Nodup):(ksC (bx cs ps n)).Nodup:=by
 rw[Go]
 by_cases e:ps∈ksC cs
 ·rw[RJ e];exact h
 ·rw[RK e,O2]
  refine⟨h,by simp,fun a ha b hb z=>?_⟩;rw[OU] at hb;subst hb;subst z;exact e ha
def Gq{cs:Ch}{ps q:List Int}{n:Int}(h:q∈ksC (bx cs ps n)):q∈ksC cs\/q=ps:=by
 rw[Go] at h
 by_cases e:ps∈ksC cs
 ·rw[RJ e] at h;exact .inl h
 ·rw[RK e] at h
  rcases OW.mp h with h|h
  ·exact .inl h
  ·exact .inr (OU.mp h)
def Gr(cs:Ch)(ps:List Int)(n:Int):(bx cs ps n).length<=cs.length+1:=by
 unfold bx;split
 ·rw[Ab];omega
 ·rw[Ap];simp
def fU:∀{cs:Ch},(ksC cs).Nodup->∀c∈cs,bq (kvC cs) (c.1.map Sum.inl)=some (.int c.2)
 |[],_,c,hc=>absurd hc (by simp)
 |d::cs,h,c,hc=>by
  have h':(d.1::ksC cs).Nodup:=h;rw[Be] at h';unfold bq kvC;rw[Aq,Pf];rcases OT.mp hc with rfl|hc
  ·rw[RM rfl];rfl
  ·have a:¬d.1.map Sum.inl=(c.1.map Sum.inl:List Key):=fun z=>h'.1 (by rw[eJ.mp z];exact KK.mpr ⟨c,hc,rfl⟩)
   rw[RN a];exact fU h'.2 c hc
def jL{H:Hp}{cs:Ch}{bs:List Addr}(h:Paired (fun(p:List Key×V) b=>H b=some (.tup (p.1.map kV))) (kvC cs) bs):Tps H bs (ksC cs):=by
 unfold kvC at h;unfold ksC
 induction cs generalizing bs with
 |nil=>cases h;exact .nil
 |cons x l ih=>
  rw[Aq] at h;cases h with
  |cons r t=>
   refine .cons ?_ (ih t);show H _=_;rw[r,Ak]
   rfl
abbrev c7(c:List Int×Int):Bool:=!decide (V.int c.2=V.int 0)
abbrev pS:Stmt:=top 12
abbrev jq:Stmt:=top 13
def CV(H:Hp)(t:Addr)(c:List Int×Int):Prop:=∃b,H t=some (.tup [.ref b,.int c.2])/\Tp H b c.1
def Prs(H:Hp)(ts:List Addr)(cs:Ch):Prop:=Paired (CV H) ts cs
def Prs.same{H H':Hp}{ts:List Addr}{cs:Ch}(h:Prs H ts cs)(s:Same H H'):Prs H' ts cs:=Paired.mapP h fun _ _ ⟨b,e1,e2⟩=>⟨b,s _ _ e1,s.tp e2⟩
def Prs.length{H:Hp}{ts:List Addr}{cs:Ch}(h:Prs H ts cs):ts.length=cs.length:=AN h
def Prs.upd{H:Hp}{d:Addr}{o o':HO}{ts:List Addr}{cs:Ch}(h:Prs H ts cs)(hd:H d=some o')(a:∀xs,o'≠.tup xs):Prs (L2.upd H d o) ts cs:=
 Paired.mapP h fun t c ⟨b,e1,e2⟩=>⟨b,by rw[ae (cT e1 hd fun z=>a _ z.symm)];exact e1,by show L2.upd H d o b=_;rw[ae (cT (show H b=some _ from e2) hd fun z=>a _ z.symm)];exact e2⟩
def Prs.snoc{H:Hp}{ts:List Addr}{cs:Ch}{t:Addr}{c:List Int×Int}(h:Prs H ts cs)(q:CV H t c):Prs H (ts++[t]) (cs++[c]):=Paired.snoc h q
def Prs.append{H:Hp}{ts us:List Addr}{cs ds:Ch}(h:Prs H ts cs)(q:Prs H us ds):Prs H (ts++us) (cs++ds):=by
 induction h with
 |nil=>exact q
 |cons r t ih=>exact .cons r ih
def Prs.get{H:Hp}:∀{ts:List Addr}{cs:Ch}{i:Nat}{t:Addr},Prs H ts cs->ts[i]?=some t->∃c,cs[i]?=some c/\CV H t c
 |_,_,0,_,.cons h _,e=>by cases e;exact⟨_,rfl,h⟩
 |_,_,i+1,_,.cons _ t,e=>Prs.get (i:=i) t (by simpa using e)
def aC(cs:Ch)(q:List Int):Int:=((cs.find? fun c=>decide (c.1=q)).map (·.2)).getD 0
def CW(cs:Ch)(q:List Int):(bq (kvC cs) (q.map Sum.inl)).getD (.int 0)=.int (aC cs q):=by
 unfold bq aC kvC
 induction cs with
 |nil=>rfl
 |cons c r ih=>
  rw[Aq,Pf,Pf]
  by_cases e:c.1=q
  ·rw[RM e,RM (eJ.mpr e)];rfl
  ·rw[RN e,RN (fun z=>e (eJ.mp z))];exact ih
def gP(acc:Ch)(t:List Int×Int):Ch:=bx acc t.1 (aC acc t.1+t.2)
def bc(ts:Ch):Ch:=ts.foldl gP []
def cx(ts:Ch):Ch:=(bc ts).filter c7
def pT(ts:Ch)(t:List Int×Int):bc (ts++[t])=gP (bc ts) t:=by unfold bc;rw[Qa];rfl
def pX{c:Type}{P:List c->Prop}(d:P [])(e:∀l x,P l->P (l++[x]))(l:List c):P l:=by
 have:∀n,∀l:List c,l.length=n->P l:=by
  intro n
  induction n with
  |zero=>intro l a;rw[O5 a];exact d
  |succ n ih=>
   intro l a;have b:l≠[]:=fun z=>by rw[z] at a;simp at a
   rw[<-List.dropLast_concat_getLast b];exact e _ _ (ih _ (by rw[List.length_dropLast];omega))
 exact this _ l rfl
def sC(ts:Ch):(ksC (bc ts)).Nodup:=pX (P:=fun ts=>(ksC (bc ts)).Nodup) O6 (fun l x h=>by rw[pT];exact cI _ _ h) ts
def CY(ts:Ch):(bc ts).length<=ts.length:=pX (P:=fun ts=>(bc ts).length<=ts.length) (Ag _) (fun l x h=>by
 rw[pT,Ap];have:=Gr (bc l) x.1 (aC (bc l) x.1+x.2);unfold gP;simp;omega) ts
def CZ{cs:Ch}{q:List Int}(v:Int)(h:q∉ksC cs):bx cs q v=cs++[(q,v)]:=by unfold bx;rw[RK h]
def sg(k:Nat)(n:Int):Int:=if(k:Int)%2=0 then n else -n
def bX(ps:List Int)(n:Int):Ch:=(rims ps).zipIdx.map fun q=>(q.1,sg q.2 n)
def C0(ps:List Int)(n:Int):(bX ps n).length=(rims ps).length:=by unfold bX;rw[Ab,QO]
abbrev Gu:TE:=ck (zH (ay 1) (zH (wt (eI (bY lS (bY (rI (fun _ j=>0<j) fun i j=>.int (i%j)) (ay 0) (tC (.int 2))) (tC (.int 0)))) (ay 2) (qU (rU fun i=>.int (-i)) (ay 2))) bb))
section
variable{P:Program}{w:World}{K:Ae}{mg:Str->Option Value}{base:Heap}
def LU{H2:Hp}{L D:Addr}{as:List Addr}{d:Ξ}{n:Int}{Q:VK}(l:H2 L=some (.lst (as.map V.ref)))(ht:Tps H2 as d)(hz:d.length<=1000)(w:H2 D=none)(k:∀(H3:Hp)(ts:List Addr),Same H2 H3->H3 D=some (.lst (ts.map V.ref))->Prs H3 ts (d.zipIdx.map fun q=>(q.1,sg q.2 n))->Q (.ref D) H3):cG (kl K L) (fw K 2 (gi (zU 0) (gi (zU 1) fv))) bT Gu [none,none,some (.int n)] H2 D Q:=by
 have H:=ht.length;refine iA as.length (fun j σ ys H3=>∃(b c:Option V)(ts:List Addr),σ=[b,c,some (.int n)]/\Same H2 H3/\H3 D=some (.lst ys)/\ys=ts.map V.ref/\Prs H3 ts ((d.zipIdx.map fun q=>(q.1,sg q.2 n)).take j)) ?_ ?_ ?_ ?_ ?_
 ·exact⟨none,none,[],rfl,Same.new w,ac,rfl,.nil⟩
 ·rintro σ ys H3 ⟨b,c,ts,rfl,sm,g,rfl,hp⟩
  exact⟨_,SqL.of (sm _ _ l),by rw[Ab]⟩
 ·rintro i σ ys H3 hi ⟨b,c,ts,rfl,sm,g,rfl,hp⟩
  exact⟨_,SqL.of (sm _ _ l),by rw[Ab];exact hi⟩
 ·rintro i σ ys H3 x H' hi hy ⟨b,c,ts,rfl,sm,g,rfl,hp⟩ ⟨p,y,rfl,C,rfl,E⟩
  have I:=E _ (SqL.of (sm _ _ l));obtain⟨a,F,rfl⟩:=dz I;obtain⟨r,G,hr⟩:=ht.get F;have J:=Same.new (o:=.tup [.int i,.ref a]) C;have e:(d.zipIdx.map fun q=>(q.1,sg q.2 n))[i]?=some (r,sg i n):=by rw[Af,Qu,G];simp
  have M:as.length<=sizeLine:=zg ω;have fin:∀(t:Addr)(v:Int),v=sg i n->upd H3 p (.tup [.int i,.ref a]) t=none->dN as.length (fun j σ ys H3=>∃(b c:Option V)(ts:List Addr),σ=[b,c,some (.int n)]/\Same H2 H3/\H3 D=some (.lst ys)/\ys=ts.map V.ref/\Prs H3 ts ((d.zipIdx.map fun q=>(q.1,sg q.2 n)).take j)) D i [some (.int i),some (.ref a),some (.int n)] (.ref t) (upd (upd H3 p (.tup [.int i,.ref a])) t (.tup [.ref a,.int v])):=by
   intro t v A f;have h:=J.trans (Same.new (o:=.tup [.ref a,.int v]) f);have u:=h _ _ g;refine bi M hi hy u ⟨_,_,ts++[t],rfl,(sm.trans h).then w,ac,by rw[Ao];rfl,?_⟩;rw[AE e];exact Prs.upd (Prs.snoc (hp.same h) ⟨a,by rw[ac,A],h.tp (sm.tp hr)⟩) u (by intro xs z;cases z)
  refine⟨p,_,rfl,SqT.of ac,rfl,_,_,rfl,_,_,rfl,rfl,ja ?_⟩;refine⟨_,rfl,_,rfl,_,_,rfl,rfl,(by show(0:Int)<2;decide),rfl,_,rfl,?_⟩
  by_cases hk:(i:Int)%2=0
  ·rw[RM (congrArg V.int hk)]
   exact aK ⟨_,rfl,zg (by simp),fun t f=>fin t n (by unfold sg;rw[RJ hk]) f⟩
  ·rw[RN (fun z=>hk (by injection z))]
   exact aO ⟨_,rfl,_,rfl,zg (by simp),fun t f=>fin t (-n) (by unfold sg;rw[RK hk]) f⟩
 ·rintro σ ys H3 ⟨b,c,ts,rfl,sm,g,rfl,hp⟩
  rw[H,AA (by rw[Ab,QO];exact Ag _)] at hp;exact k H3 ts sm g hp
def Gv:Sp:=fun vs H Q _=>∃a ps n,vs=[.ref a,.int n]/\Tp H a ps/\ps.length<=5/\∀D H2(ts:List Addr),Same H H2->H D=none->H2 D=some (.lst (ts.map V.ref))->Prs H2 ts (bX ps n)->Q (.ref D) H2
def LV:zr ["piece","often"] ["piece","often"] (zh pS):=⟨rfl,rfl,rfl,δ,rfl,δ,δ⟩
def LW{f fr:Addr}{fd b:FuncData}(F:Fun K "seam_terms" "seam_terms" pS f fd)(B:Bt mg)(Fr:Fun K "rims_of" "rims_of" ph fr b)(r:Binds K b ["piece"] [])(u:mg "rims_of"=some (.ref fr)):FnOk P w K mg base aG 2 f fd ["piece","often"] Gv:=by
 have v:FnOk P w K mg base aG 1 fr b ["piece"] kH:=F0 Fr B;refine F.ok LV (fun vs H Q E h=>?_) (fun cdv A outer s H vs Q E hr h=>?_)
 ·obtain⟨a,ps,n,rfl,_⟩:=h;rfl
 ·obtain⟨a,ps,n,rfl,ha,q,k⟩:=h
  refine⟨_,zi (zq (zv ["piece","often"] ["k","rim","often"] [none,none,some 1] (oP rfl B.enumerate oW (zc (z0 v hr rfl u Fr.kp r .nil ax (zc (pv 0) zd)) zd))
   (fun c C s₀ H₀ ex=>iT rfl (zC (zk (i:=0) (cv ["k","rim","often"]) rfl (Or.inl rfl)) (zC (zk (i:=1) (cv ["k","rim","often"]) rfl (Or.inl rfl)) iP)))
   (fun c C s₀ H₀ ex=>zP) (fun c C s₀ H₀ ex=>dL (zc (pv 1) (zc (ww (zn db (zx fy (pv 0) zf) zf (au _)) (pv 2) (lN lP (pv 2))) zd)))
   (hfr:=b_ (zh pS) δ) (g:=fw K 2 (gi (zU 0) (gi (zU 1) fv))) (te:=Gu))),?_⟩
  have x:=kE ps;exact⟨_,rfl,a,ps,rfl,ha,q,fun L H1 bs d l e hb=>⟨L,rfl,⟨_,SqL.of e⟩,fun D j=>zE (LU e hb ω j fun H3 ts o p hp=>k D H3 ts (d.trans o) (d.free j) p hp)⟩⟩
def sE(K:Ae):Sp:=fun vs H Q _=>∃l ts cs,vs=[.ref l]/\SqL K H l (ts.map V.ref)/\Prs H ts cs/\cs.length<=1000/\∀D H',Same H H'->H D=none->H' D=some (.dT (kvC (cx cs)))->Q (.ref D) H'
def nh:zr ["terms","sums","piece","weight","told"] ["terms"] (zh jq):=⟨rfl,rfl,rfl,δ,rfl,δ,δ⟩
def LX{f:Addr}{fd:FuncData}(F:Fun K "sum_of" "sum_of" jq f fd):FnOk P w K mg base aG 1 f fd ["terms"] (sE K):=by
 refine F.ok nh (fun vs H Q E h=>?_) (fun cdv A outer s H vs Q E hr h=>?_)
 ·obtain⟨l,ts,cs,rfl,_⟩:=h;rfl
 ·obtain⟨l,ts,cs,rfl,hl,hp,hz,k⟩:=h
  have hu:=ev hr;have nH:=hp.length;refine⟨_,ze (zo (i:=1) nh.nd rfl (Or.inl rfl) i7)
   (ze (d0 AM rfl (zI (pv 0)) (iT rfl (zC (zk (i:=2) nh.nd rfl (Or.inl rfl)) (zC (zk (i:=3) nh.nd rfl (Or.inl rfl)) iP)))
    (zi (fO hu (pv 1) (pv 2) (zx dq (Bh hu (pv 1) (pv 2) zf ⟨rfl,rfl,rfl,rfl⟩) (pv 3)) rfl)))
   (ze (zo (i:=4) nh.nd rfl (Or.inl rfl) i7)
   (ze (d0 AM rfl (pD (pv 1)) (zk (i:=2) nh.nd rfl (Or.inl rfl))
    (zi (zR (zn og (zQ hu (pv 1) (pv 2) (fun _ _=>rfl)) zf (au _)) (zi (fO hu (pv 4) (pv 2) (zQ hu (pv 1) (pv 2) (fun _ _=>rfl)) rfl)) zt)))
   (zi (zq (pv 4)))))),?_⟩
  intro d hd;refine⟨_,rfl,l,rfl,⟨_,(Same.new hd).seq hl⟩,iU (K:=K) (a:=l) (xs:=ts.map V.ref) (fun i σ H2=>∃(y J:Option V),σ=[some (.ref l),some (.ref d),y,J,none]/\Same H H2/\H2 d=some (.dT (kvC (bc (cs.take i)))))
   ⟨none,none,rfl,Same.new hd,ac⟩ (fun i σ H2 _ ⟨_,_,_,sm,_⟩=>sm.seq hl) ?_ ?_⟩
  ·rintro i x σ H2 hx ⟨y,J,rfl,sm,r⟩
   obtain⟨t,et,rfl⟩:=dz hx;obtain⟨c,D,b,e1,e2⟩:=hp.get et;have rV:H2 b=some (.tup ((c.1.map Sum.inl:List Key).map kV)):=by rw[Ak];exact sm.tp e2
   have q:(kvC (bc (cs.take i))).length<sizeLine:=by
    rw[zA];have:=CY (cs.take i);rw[AD] at this;exact zX ω
   refine⟨t,_,rfl,SqT.of (sm _ _ e1),rfl,_,_,rfl,_,_,rfl,rfl,?_⟩;refine⟨_,rfl,d,rfl,.inr ⟨_,.inl r⟩,_,rfl,_,DGet.t (k:=c.1.map Sum.inl) r rV,?_⟩;rw[CW];refine⟨_,rfl,_,_,rfl,rfl,_,rfl,_,rfl,d,_,rfl,DPut.t (k:=c.1.map Sum.inl) r rV q,⟨_,_,rfl,sm.then hd,?_⟩⟩;rw[ac,kT,AE D,pT]
   rfl
  ·rintro σ H2 ⟨y,J,rfl,sm,r⟩
   rw[Ab,nH,take_all] at r;intro T hT;have U:H T=none:=sm.free hT;have O:d≠T:=zj r hT;have W:=sC cs;have ux:=CY cs;unfold cx at k;generalize bc cs=p at r W ux k;refine⟨_,rfl,d,kvC p,rfl,.inl (by rw[ae O];exact r),fun o H3 iG aX=>F5 (fun i σ v=>∃(y:Option V),σ=[some (.ref l),some (.ref d),y,J,some (.ref T)]/\Same H v/\v d=some (.frz o (.dT (kvC p)))/\v T=some (.dT (kvC ((p.take i).filter c7))))
    ⟨_,rfl,fun b u e=>by rw[aX b (zj e hd),ae (zj e U)];exact sm _ _ e,iG,by rw[aX T (Ne.symm O)];exact ac⟩ (fun i σ v _ ⟨_,_,_,h,_⟩=>h) ?_ ?_⟩
   ·rintro i kv b σ v L hb ⟨y,rfl,M,N,G⟩
    have hi:i<p.length:=by
     have:=(B5.mp L).1;rw[zA] at this;exact this
    have D:p[i]?=some p[i]:=Ai hi;obtain rfl:(((p[i]).1.map Sum.inl:List Key),V.int (p[i]).2)=kv:=by
     unfold kvC at L;rw[Af,D] at L;exact Ah L
    have I:p[i]∈p:=Bf hi;have dj:(p[i]).1∉ksC ((p.take i).filter c7):=fun z=>by
     obtain⟨c',hc',e'⟩:=KK.mp z;obtain⟨j,S⟩:=Px ((O0.mp hc').1);have X:j<i:=by
      have:=(B5.mp S).1;rw[AD] at this;omega
     rw[Pp X] at S;have h1:(ksC p)[j]?=some (p[i]).1:=by unfold ksC;rw[Af,S];exact congrArg some e'
     have h2:(ksC p)[i]?=some (p[i]).1:=by unfold ksC;rw[Af,D];rfl
     have Y:j<(ksC p).length:=by rw[eR];omega
     have:=(Pz Y W).mp (h1.trans h2.symm);omega
    have q:(kvC ((p.take i).filter c7)).length<sizeLine:=by
     rw[zA];have:=Qr c7 (p.take i);rw[AD] at this;exact zX ω
    have g:DGet v d (.ref b) (some (.int (p[i]).2)):=.inr ⟨kvC p,(p[i]).1.map Sum.inl,b,.inr ⟨o,N⟩,rfl,hb,(fU W _ I).symm⟩;have xq:T≠d:=Ne.symm O;refine⟨_,rfl,_,rfl,d,_,rfl,g,rfl,_,rfl,?_⟩;cases hz0:c7 p[i] with
    |true=>
     have C:(!decide (V.int (p[i]).2=V.int 0))=true:=hz0;rw[C];refine aK ⟨_,rfl,_,rfl,d,_,rfl,g,_,rfl,_,rfl,T,_,rfl,DPut.t (k:=(p[i]).1.map Sum.inl) G hb q,⟨_,rfl,M.then U,by rw[ae O];exact N,?_⟩⟩;rw[ac,kT,CZ _ dj,AE D,Ba,Pd hz0]
     rfl
    |false=>
     have C:(!decide (V.int (p[i]).2=V.int 0))=false:=hz0;rw[C];refine aO ⟨_,rfl,M,N,?_⟩;rw[AE D,Ba,Pc (by rw[hz0];decide),QK,Ps];exact G
   ·rintro σ v ⟨y,rfl,M,N,G⟩
    rw[zA,take_all] at G;exact⟨_,rfl,k T v M U G⟩
end
def zO(c:List Int×Int)(r:Ch)(x:List Int):aC (c::r) x=if c.1=x then c.2 else aC r x:=by
 unfold aC;rw[Pf]
 by_cases e:c.1=x
 ·rw[RM e,RJ e];rfl
 ·rw[RN e,RK e]
def zW:∀{cs:Ch}{x:List Int},x∉ksC cs->aC cs x=0
 |[],_,_=>rfl
 |c::r,x,h=>by
  rw[zO,RK (fun z=>h (by unfold ksC;rw[Aq,z];exact Av))];exact zW fun z=>h (As _ z)
def x2(q:List Int)(v:Int)(x:List Int):∀cs:Ch,aC (cs.map fun c=>if c.1=q then(c.1,v) else c) x=if x=q/\q∈ksC cs then v else aC cs x
 |[]=>by simp[aC,ksC]
 |c::r=>by
  rw[Aq,zO,zO,x2 q v x r];have hm:(q∈ksC (c::r))↔(c.1=q\/q∈ksC r):=by
   show q∈c.1::ksC r↔_;rw[OT];constructor
   ·rintro(h|h)
    ·exact .inl h.symm
    ·exact .inr h
   ·rintro(h|h)
    ·exact .inl h.symm
    ·exact .inr h
  by_cases e:c.1=q
  ·rw[RJ e]
   by_cases f:x=q
   ·subst f
    rw[RJ e,RJ ⟨rfl,hm.mpr (.inl e)⟩]
   ·rw[RK (fun z=>f (z.symm.trans e)),RK (fun z=>f z.1),RK (fun z=>f z.1),RK (fun z=>f (z.symm.trans e))]
  ·rw[RK e]
   by_cases f:c.1=x
   ·rw[RJ f,RJ f,RK (fun z=>e (f.trans z.1))]
   ·rw[RK f,RK f]
    by_cases g:x=q/\q∈ksC r
    ·rw[RJ g,RJ ⟨g.1,hm.mpr (.inr g.2)⟩]
    ·rw[RK g,RK (fun z=>g ⟨z.1,(hm.mp z.2).resolve_left e⟩)]
def Gw(q:List Int)(v:Int)(x:List Int):∀cs:Ch,aC (cs++[(q,v)]) x=if x∈ksC cs then aC cs x else if q=x then v else 0
 |[]=>by simp[aC,ksC];split<;>rfl
 |c::r=>by
  rw[List.cons_append,zO,zO,Gw q v x r]
  by_cases e:c.1=x
  ·rw[RJ e,RJ e,RJ (by show x∈c.1::ksC r;rw[e];exact Av)]
  ·rw[RK e,RK e]
   by_cases h:x∈ksC r
   ·rw[RJ h,RJ (show x∈ksC (c::r) from As _ h)]
   ·have a:¬x∈ksC (c::r):=fun z=>by
     rcases OT.mp (show x∈c.1::ksC r from z) with z|z
     ·exact e z.symm
     ·exact h z
    rw[RK h,RK a]
def Gx(cs:Ch)(q:List Int)(v:Int)(x:List Int):aC (bx cs q v) x=if x=q then v else aC cs x:=by
 unfold bx
 by_cases h:q∈ksC cs
 ·rw[RJ h,x2]
  by_cases e:x=q
  ·rw[RJ ⟨e,h⟩,RJ e]
  ·rw[RK (fun z=>e z.1),RK e]
 ·rw[RK h,Gw]
  by_cases e:x=q
  ·subst e
   rw[RK h,RJ rfl,RJ rfl]
  ·rw[RK e]
   by_cases g:x∈ksC cs
   ·rw[RJ g]
   ·rw[RK g,RK (fun z=>e z.symm),zW g]
def cK(ts:Ch)(x:List Int):Int:=(ts.map fun c=>if c.1=x then c.2 else 0).sum
def Gy(ts:Ch)(t:List Int×Int)(x:List Int):cK (ts++[t]) x=cK ts x+if t.1=x then t.2 else 0:=by
 unfold cK;rw[Ao,List.sum_append];simp
def ni(ts:Ch)(t:List Int×Int)(x:List Int):cK (t::ts) x=(if t.1=x then t.2 else 0)+cK ts x:=by unfold cK;rw[Aq,O4]
def C1(ts us:Ch)(x:List Int):cK (ts++us) x=cK ts x+cK us x:=by unfold cK;rw[Ao,List.sum_append]
def LY(x:List Int)(ts:Ch):aC (bc ts) x=cK ts x:=pX (P:=fun ts=>aC (bc ts) x=cK ts x) rfl (fun l t h=>by
 rw[pT,Gy];unfold gP;rw[Gx]
 by_cases e:x=t.1
 ·subst e
  rw[RJ rfl,RJ rfl,h]
 ·rw[RK e,RK (fun z=>e z.symm),h];omega) ts
def C2(x:List Int):∀{cs:Ch},(ksC cs).Nodup->aC (cs.filter c7) x=aC cs x
 |[],_=>rfl
 |c::r,h=>by
  have h':(c.1::ksC r).Nodup:=h;rw[Be] at h';have a:=C2 x h'.2;cases hz:c7 c with
  |true=>rw[Pd hz,zO,zO,a]
  |false=>
   have b:c.2=0:=by
    have:(!decide (V.int c.2=V.int 0))=false:=hz;have:=RO (by simpa using this:decide (V.int c.2=V.int 0)=true);injection this
   rw[Pc (by rw[hz];decide),zO,a]
   by_cases e:c.1=x
   ·rw[RJ e,b]
    exact zW (by rw[<-e];exact h'.1)
   ·rw[RK e]
def pY(ts:Ch)(x:List Int):aC (cx ts) x=cK ts x:=by unfold cx;rw[C2 x (sC ts),LY]
def zS(ts:Ch):(ksC (cx ts)).Nodup:=(sC ts).sublist ((PX (p:=c7) (l:=bc ts)).map _)
def C3(ts:Ch):(cx ts).length<=ts.length:=AC (Qr _ _) (CY ts)
def iD:∀{cs:Ch},(ksC cs).Nodup->∀c∈cs,aC cs c.1=c.2
 |[],_,c,h=>absurd h (by simp)
 |d::r,h,c,hc=>by
  have h':(d.1::ksC r).Nodup:=h;rw[Be] at h';rw[zO];rcases OT.mp hc with e|hc'
  ·rw[e,RJ rfl]
  ·rw[RK (fun z=>h'.1 (by rw[z];exact KK.mpr ⟨c,hc',rfl⟩))]
   exact iD h'.2 c hc'
def sG{ts:Ch}{c:List Int×Int}(h:c∈cx ts):c.2≠0/\cK ts c.1=c.2:=by
 refine⟨fun z=>?_,?_⟩
 ·have:=(O0.mp h).2
  have:(!decide (V.int c.2=V.int 0))=true:=this;rw[z] at this;exact absurd this ξ
 ·rw[<-pY]
  exact iD (zS ts) c h
def LZ{ts:Ch}{x:List Int}(h:∀t∈ts,t.1≠x):cK ts x=0:=by
 induction ts with
 |nil=>rfl
 |cons t r ih=>rw[ni,RK (h t Av),ih fun u hu=>h u (As _ hu)];rfl
def L3{ts:Ch}{x:List Int}(h:cK ts x≠0):∃t∈ts,t.1=x:=by
 refine Classical.byContradiction fun z=>h (LZ fun t ht e=>z ⟨t,ht,e⟩)
def nr(ts:Ch):Ch:=ts.foldl (fun acc t=>bx acc t.1 t.2) []
def Gz:∀(ts acc:Ch),(kvC ts).foldl (fun acc kv=>putK acc kv.1 kv.2) (kvC acc)=kvC (ts.foldl (fun acc t=>bx acc t.1 t.2) acc)
 |[],_=>rfl
 |t::r,acc=>by
  show(kvC r).foldl _ (putK (kvC acc) (t.1.map Sum.inl) (.int t.2))=_;rw[kT];exact Gz r _
def C4(ts:Ch):sx (kvC ts)=kvC (nr ts):=Gz ts []
def L4{ps:List Int}(h:ps.Nodup):(rims ps).Nodup:=by
 unfold rims;split
 ·exact O6
 ·have key:∀j k,j<k->k<ps.length->ps.take j++ps.drop (j+1)≠ps.take k++ps.drop (k+1):=by
   intro j k d hk e;have e1:(ps.take j++ps.drop (j+1))[j]?=(ps.take k++ps.drop (k+1))[j]?:=by rw[e]
   rw[Py (by rw[AD];omega),PH (by rw[AD];omega),Pp d,List.getElem?_drop,AD,Nat.min_eq_left ω] at e1;rw[show j+1+(j-j)=j+1 from ω] at e1;have:=(Pz ω h).mp e1;omega
  unfold List.Nodup;rw[AX];refine(List.nodup_range (n:=ps.length)).imp_of_mem fun{a b} ha hb c e=>?_;rw[P6] at ha hb;rcases Nat.lt_or_gt_of_ne c with z|z
  ·exact key a b z hb e
  ·exact key b a z ha e.symm
def C5(ps:List Int)(n:Int):ksC (bX ps n)=rims ps:=by
 unfold ksC bX;rw[Ak];exact QF 0 (rims ps)
def GA(ps:List Int)(n:Int)(x:List Int):cK (bX ps n) x=n*cK (bX ps 1) x:=by
 unfold bX;generalize (rims ps).zipIdx=l
 induction l with
 |nil=>simp[cK]
 |cons q r ih=>
  rw[Aq,Aq,ni,ni,ih,Rs]
  congr 1
  by_cases e:q.1=x
  ·rw[RJ e,RJ e]
   unfold sg;split<;>simp
  ·rw[RK e,RK e];simp
def C6(f:List Int×Int->Ch)(x:List Int):∀cs:Ch,cK (cs.flatMap f) x=(cs.map fun c=>cK (f c) x).sum
 |[]=>rfl
 |c::r=>by rw[O3,C1,Aq,O4,C6 f x r]
abbrev C7:Stmt:=top 11
def L5{H:Hp}{d b:Addr}{kvs:List (List Key×V)}{o:HO}(r:Rd H d (.dT kvs))(h:H b=some o)(h1:∀k,o≠.dT k)(h2:∀q k,o≠.frz q (.dT k)):b≠d:=by
 rintro rfl;rcases r with r|⟨q,r⟩
 ·exact h1 _ (Ah (h.symm.trans r))
 ·exact h2 _ _ (Ah (h.symm.trans r))
def zD.lst{H H':Hp}{d b:Addr}{kvs:List (List Key×V)}{xs:List V}(s:zD d H H')(r:Rd H d (.dT kvs))(h:H b=some (.lst xs)):H' b=some (.lst xs):=s _ _ (L5 r h (by intro k z;cases z) (by intro q k z;cases z)) h
def zD.freeD{H H':Hp}{d l:Addr}{u:HO}(s:zD d H H')(r:Rd H' d u)(h:H' l=none):H l=none:=by
 cases q:H l with
 |none=>rfl
 |some o=>
  have a:l≠d:=fun z=>by
   rw[z] at h;rcases r with r|⟨_,r⟩<;>rw[h] at r<;>cases r
  rw[s _ _ a q] at h;cases h
def zD.thenD{H H1:Hp}{d a:Addr}{o:HO}(e:zD d H H1)(h:H a=none):zD d H (L2.upd H1 a o):=fun b u hb q=>by rw[ae (zj q h)];exact e b u hb q
def sJ{cs:Ch}{i:Nat}{kv:List Key×V}(h:(kvC cs)[i]?=some kv):∃c,cs[i]?=some c/\kv=((c.1.map Sum.inl:List Key),V.int c.2):=by
 unfold kvC at h;rw[Af] at h;cases e:cs[i]? with
 |none=>rw[e] at h;cases h
 |some c=>rw[e] at h;exact⟨c,rfl,(Ah h).symm⟩
def p0{H:Hp}{b:Addr}{ps:List Int}(h:H b=some (.tup ((ps.map Sum.inl:List Key).map kV))):Tp H b ps:=by rw[Ak] at h;exact h
def GB{cs:Ch}{i:Nat}{c:List Int×Int}(f:List Int×Int->Ch)(h:cs[i]?=some c):(cs.take (i+1)).flatMap f=(cs.take i).flatMap f++f c:=by rw[AE h,Rf];simp
def sN{cs:Ch}(h:∀c∈cs,c.1.length<=5):(cs.flatMap fun c=>bX c.1 c.2).length<=5*cs.length:=by
 induction cs with
 |nil=>simp
 |cons c r ih=>
  rw[O3,Ap,Ay,C0];have:=ih fun d hd=>h d (As _ hd);have:=kE c.1;have:=h c Av;omega
section
variable{P:Program}{w:World}{K:Ae}{mg:Str->Option Value}{base:Heap}
def C8:Sp:=fun vs H Q _=>∃d cs,vs=[.ref d]/\Rd H d (.dT (kvC cs))/\(ksC cs).Nodup/\cs.length<=200/\(∀c∈cs,c.1.length<=5)/\
 ∀D H',zD d H H'->Rd H' d (.dT (kvC cs))->H D=none->H' D=some (.dT (kvC (cx (cs.flatMap fun c=>bX c.1 c.2))))->Q (.ref D) H'
def C9:zr ["chain","terms","piece"] ["chain"] (zh C7):=⟨rfl,rfl,rfl,δ,rfl,δ,δ⟩
def L6{f M fs:Addr}{fd N O:FuncData}(F:Fun K "seam_of" "seam_of" C7 f fd)(Ft:Fun K "seam_terms" "seam_terms" pS M N)(bt:Binds K N ["piece","often"] [])(mt:mg "seam_terms"=some (.ref M))(Gt:FnOk P w K mg base aG 2 M N ["piece","often"] Gv)(Fs:Fun K "sum_of" "sum_of" jq fs O)(bs:Binds K O ["terms"] [])(ms:mg "sum_of"=some (.ref fs))(Gs:FnOk P w K mg base aG 1 fs O ["terms"] (sE K)):FnOk P w K mg base aG 3 f fd ["chain"] C8:=by
 refine F.ok C9 (fun vs H Q E h=>?_) (fun cdv A outer s H vs Q E hr h=>?_)
 ·obtain⟨d,cs,rfl,_⟩:=h;rfl
 ·obtain⟨d,cs,rfl,hd,J,qq,y,k⟩:=h
  have hu:=ev hr;have cB:Room 1 _:=hr.mono ξ;have sX:Room 2 _:=hr.mono ξ;refine⟨_,ze (zo (i:=1) C9.nd rfl (Or.inl rfl) (zV zd))
   (ze (d0 AM rfl (pD (pv 0)) (zk (i:=2) C9.nd rfl (Or.inl rfl))
    (zi (eY (ia OZ PySem.F.slot_list_extend PySem.F.type_list_extend Jh (pv 1) (zc (z0 Gt sX rfl mt Ft.kp bt .nil ax (zc (pv 2) (zc (zQ hu (pv 0) (pv 2) (fun _ _=>rfl)) zd))) zd)))))
   (zi (zq (z0 Gs cB rfl ms Fs.kp bs .nil ax (zc (pv 1) zd))))),?_⟩
  refine⟨zg (by simp),fun L p=>?_⟩;have W:d≠L:=by
   rcases hd with r|⟨_,r⟩
   ·exact zj r p
   ·exact zj r p
  refine⟨_,rfl,d,kvC cs,rfl,hd.same (Same.new p),fun o H3 iG S=>F5 (fun i σ l=>∃(I:Option V)(ts:List Addr),σ=[some (.ref d),some (.ref L),I]/\zD d H l/\l d=some (.frz o (.dT (kvC cs)))/\l L=some (.lst (ts.map V.ref))/\Prs l ts ((cs.take i).flatMap fun c=>bX c.1 c.2))
   ⟨none,[],rfl,fun b u hb e=>by rw[S b hb,ae (zj e p)];exact e,iG,by rw[S L (Ne.symm W)];exact ac,.nil⟩ (fun i σ l _ ⟨_,_,_,_,h,_⟩=>h) ?_ ?_⟩
  ·rintro i kv b σ l dC hb ⟨I,ts,rfl,C,q,v,x⟩
   obtain⟨c,U,rfl⟩:=sJ dC;have a:=Aj U;have g:DGet l d (.ref b) (some (.int c.2)):=.inr ⟨kvC cs,c.1.map Sum.inl,b,.inr ⟨o,q⟩,rfl,hb,(fU J c a).symm⟩;refine⟨_,rfl,.inl ⟨rfl,_,SqL.of v⟩,_,rfl,_,rfl,_,rfl,d,_,rfl,g,b,c.1,c.2,rfl,p0 hb,y c a,fun D5 Y us j oC G T=>?_⟩;have hlt:=x.length;have qD:=T.length;have X:=sN (cs:=cs.take i) fun c hc=>y c (Qs hc);rw[AD] at X;rw[C0] at qD;have:=kE c.1;have:=y c a;refine⟨L,D5,_,_,rfl,rfl,j _ _ v,G,by rw[Ab,Ab];exact zg ω,⟨_,ts++us,rfl,(C.trans (zD.of j)).thenD p,by rw[ae W];exact j _ _ q,by rw[ac,Ao],?_⟩⟩;rw[GB _ U];exact Prs.upd ((x.same j).append T) (j _ _ v) (by intro xs z;cases z)
  ·rintro σ l ⟨I,ts,rfl,C,q,v,x⟩
   rw[zA,take_all] at x;have X:=sN y;refine⟨_,rfl,L,ts,_,rfl,SqL.of v,x,ω,fun D Y j bF G=>?_⟩;exact k D Y (C.trans (zD.of j)) (.inr ⟨o,j _ _ q⟩) (C.freeD (.inr ⟨o,q⟩) bF) G
end
abbrev eS(cs:Ch):Ch:=cx (cs.flatMap fun c=>bX c.1 c.2)
def tau(q x:List Int):Int:=cK (bX q 1) x
def lin(cs:Ch)(x:List Int):Int:=(cs.map fun c=>c.2*tau c.1 x).sum
def fV(c:List Int×Int)(r:Ch)(x:List Int):lin (c::r) x=c.2*tau c.1 x+lin r x:=by unfold lin;rw[Aq,O4]
def sT(a b:Ch)(x:List Int):lin (a++b) x=lin a x+lin b x:=by unfold lin;rw[Ao,List.sum_append]
def ti(cs:Ch)(x:List Int):aC (eS cs) x=lin cs x:=by
 rw[pY,C6];unfold lin
 congr 1
 exact Aw fun c _=>GA c.1 c.2 x
def GC(q:List Int)(v:Int)(x:List Int):∀{cs:Ch},(ksC cs).Nodup->lin (cs.map fun c=>if c.1=q then(c.1,v) else c) x=lin cs x+if q∈ksC cs then(v-aC cs q)*tau q x else 0
 |[],_=>by simp[lin,ksC]
 |c::r,h=>by
  have h':(c.1::ksC r).Nodup:=h;rw[Be] at h';have a:=GC q v x h'.2;rw[Aq,fV,fV,a,zO]
  by_cases e:c.1=q
  ·subst e
   rw[RJ rfl,RK h'.1,RJ (show c.1∈ksC (c::r) from Av),RJ rfl,Int.sub_mul];show v*tau c.1 x+_=_;omega
  ·rw[RK e,RK e]
   by_cases g:q∈ksC r
   ·rw[RJ g,RJ (show q∈ksC (c::r) from As _ g)]
    omega
   ·have b:¬q∈ksC (c::r):=fun z=>by
     rcases OT.mp (show q∈c.1::ksC r from z) with z|z
     ·exact e z.symm
     ·exact g z
    rw[RK g,RK b];omega
def L7{cs:Ch}(h:(ksC cs).Nodup)(q:List Int)(v:Int)(x:List Int):lin (bx cs q v) x=lin cs x+(v-aC cs q)*tau q x:=by
 unfold bx
 by_cases g:q∈ksC cs
 ·rw[RJ g,GC q v x h,RJ g]
 ·rw[RK g,sT,fV,zW g]
  simp[lin]
def L8(x:List Int)(ts:Ch):lin (bc ts) x=lin ts x:=pX (P:=fun ts=>lin (bc ts) x=lin ts x) rfl (fun l t a=>by
 rw[pT,sT];unfold gP;rw[L7 (sC l),a,fV];have e:aC (bc l) t.1+t.2-aC (bc l) t.1=t.2:=ω
 rw[e];simp[lin]) ts
def GD(x:List Int):∀cs:Ch,lin (cs.filter c7) x=lin cs x
 |[]=>rfl
 |c::r=>by
  have a:=GD x r;cases hz:c7 c with
  |true=>rw[Pd hz,fV,fV,a]
  |false=>
   have b:c.2=0:=by
    have:(!decide (V.int c.2=V.int 0))=false:=hz;have:=RO (by simpa using this:decide (V.int c.2=V.int 0)=true);injection this
   rw[Pc (by rw[hz];decide),fV,b,a];omega
def GE(ts:Ch)(x:List Int):lin (cx ts) x=lin ts x:=by unfold cx;rw[GD,L8]
def GF(f:List Int×Int->Ch)(x:List Int):∀cs:Ch,lin (cs.flatMap f) x=(cs.map fun c=>lin (f c) x).sum
 |[]=>rfl
 |c::r=>by rw[O3,sT,Aq,O4,GF f x r]
def GG(ps:List Int)(n:Int)(x:List Int):lin (bX ps n) x=n*lin (bX ps 1) x:=by
 unfold bX;generalize (rims ps).zipIdx=l
 induction l with
 |nil=>simp[lin]
 |cons q r ih=>
  rw[Aq,Aq,fV,fV,ih,Rs]
  congr 1
  show sg q.2 n*_=n*(sg q.2 1*_);rw[<-Ru]
  congr 1
  unfold sg;split<;>simp
def dl(x l:List Int):Int:=if l=x then 1 else 0
def tw(q x:List Int):tau q x=((rims q).zipIdx.map fun r=>sg r.2 1*dl x r.1).sum:=by
 unfold tau cK bX;rw[Ak]
 congr 1
 refine Aw fun r _=>?_;show(if r.1=x then sg r.2 1 else 0)=sg r.2 1*dl x r.1;unfold dl
 by_cases e:r.1=x
 ·rw[RJ e,RJ e,Int.mul_one]
 ·rw[RK e,RK e,QZ]
def C_(x:List Int):∀ps:List Int,ps.length<=5->lin (bX ps 1) x=0
 |[],_=>by simp[lin,bX,rims,AJ,List.range.loop]
 |[a],_=>by simp[lin,bX,rims]
 |[a,b],_=>by simp[lin,bX,rims,tw,AJ,List.range.loop]
 |[a,b,c],_=>by
  simp[lin,bX,rims,tw,AJ,List.range.loop,sg];omega
 |[a,b,c,d],_=>by
  simp[lin,bX,rims,tw,AJ,List.range.loop,sg];omega
 |[a,b,c,d,e],_=>by
  simp[lin,bX,rims,tw,AJ,List.range.loop,sg];omega
 |_::_::_::_::_::_::_,h=>by simp at h
def L9{cs:Ch}(h:∀c∈cs,c.1.length<=5):eS (eS cs)=[]:=by
 have key:∀x,lin (eS cs) x=0:=fun x=>by
  rw[GE,GF];have:(cs.map fun c=>lin (bX c.1 c.2) x)=cs.map fun _=>0:=Aw fun c hc=>by rw[GG,C_ x c.1 (h c hc),QZ]
  rw[this]
  induction cs with
  |nil=>rfl
  |cons c r ih=>
   rw[Aq,O4,ih (fun d hd=>h d (As _ hd)) (Aw fun c hc=>by rw[GG,C_ x c.1 (h c (As _ hc)),QZ])]
   rfl
 cases e:eS (eS cs) with
 |nil=>rfl
 |cons c r=>
  have hc:c∈eS (eS cs):=by rw[e];exact Av
  obtain⟨h1,h2⟩:=sG hc;rw[<-pY,show aC (cx ((eS cs).flatMap fun c=>bX c.1 c.2)) c.1=lin (eS cs) c.1 from ti _ _,key] at h2;exact absurd h2.symm h1
def L_{a b:Ch}(ha:(ksC a).Nodup)(hb:(ksC b).Nodup)(f:∀c∈a,c.2≠0)(j:∀c∈b,c.2≠0)(h:∀x,aC a x=aC b x):a.length=b.length/\∀c∈a,c∈b:=by
 have d:∀{cs:Ch}{x:List Int},aC cs x≠0->(x,aC cs x)∈cs:=by
  intro cs x
  induction cs with
  |nil=>intro z;exact absurd rfl z
  |cons c r ih=>
   intro z;rw[zO] at z ⊢
   by_cases e:c.1=x
   ·rw[RJ e]
    have:c=(x,c.2):=by rw[<-e]
    rw[<-this];exact Av
   ·rw[RK e] at z ⊢
    exact As _ (ih z)
 have sub:∀{a b:Ch},(ksC a).Nodup->(∀c∈a,c.2≠0)->(∀x,aC a x=aC b x)->∀c∈a,c∈b:=by
  intro a b ha f h c hc;have e:=iD ha c hc;have hz:=f c hc;rw[h] at e;have:=d (cs:=b) (x:=c.1) (by rw[e];exact hz);rw[e] at this;exact this
 refine⟨?_,sub ha f h⟩;have g:(ksC a).length<=(ksC b).length:=ha.length_le_of_subset fun q hq=>by
  obtain⟨c,hc,rfl⟩:=KK.mp hq;exact KK.mpr ⟨c,sub ha f h c hc,rfl⟩
 have i:(ksC b).length<=(ksC a).length:=hb.length_le_of_subset fun q hq=>by
  obtain⟨c,hc,rfl⟩:=KK.mp hq;exact KK.mpr ⟨c,sub hb j (fun x=>(h x).symm) c hc,rfl⟩
 rw[eR,eR] at g i;omega
def p3{cs:Ch}(h:(ksC cs).Nodup)(x:List Int):cK cs x=aC cs x:=by
 induction cs with
 |nil=>rfl
 |cons c r ih=>
  have h':(c.1::ksC r).Nodup:=h;rw[Be] at h';rw[ni,zO,ih h'.2]
  by_cases e:c.1=x
  ·rw[RJ e,RJ e,zW (by rw[<-e];exact h'.1)];omega
  ·rw[RK e,RK e];omega
def Ma(n:Int)(cs:Ch)(x:List Int):cK (cs.map fun c=>(c.1,n*c.2)) x=n*cK cs x:=by
 induction cs with
 |nil=>simp[cK]
 |cons c r ih=>
  rw[Aq,ni,ni,ih,Rs]
  congr 1
  by_cases e:c.1=x
  ·rw[RJ e,RJ e]
  ·rw[RK e,RK e];simp
def Mb(n:Int)(cs:Ch)(x:List Int):lin (cs.map fun c=>(c.1,n*c.2)) x=n*lin cs x:=by
 induction cs with
 |nil=>simp[lin]
 |cons c r ih=>
  rw[Aq,fV,fV,ih,Rs,Ru]
end K65
end
section
namespace K1
def sg(q:List Int):Int:=1-2*(1-(q.length:Int)%2)
def GH{ab:Ξ}{q:List Int}:q∈canon ab↔q≠[]/\∃t∈ab,q.Sublist t:=by
 rw[CK,O7];constructor
 ·rintro⟨t,ht,hq⟩
  exact⟨(ji.mp hq).1,t,ht,(ji.mp hq).2⟩
 ·rintro⟨h,t,ht,hq⟩
  exact⟨t,ht,ji.mpr ⟨h,hq⟩⟩
abbrev hol(t p:List Int):Bool:=(p.map fun x=>decide (x∈t)).all id
section
variable{ab:Ξ}{p:List Int}
def C'(hw:dQ ab=true){q:List Int}(h:q∈canon ab):eP q=true:=by
 obtain⟨t,ht,hx⟩:=O7.mp (CK.mp h);exact K8 ((CM hw).2.1 t ht) hx
end
end K1
end
section
namespace K1
open PySem L2 STb
def iF(met:Ξ)(p:List Int):Bool:=e_ p&&!decide (p∈met)&&(rims p).all fun r=>decide (r∈met)
def cp(l:Ξ):Prop:=∀i p,l[i]?=some p->iF (l.take i) p=true
def tM{met:Ξ}{p:List Int}:iF met p=true↔eP p=true/\p∉met/\∀r∈rims p,r∈met:=by
 unfold iF;rw[AK,AK,rQ,Rq,decide_eq_false_iff_not,OX,and_assoc];exact and_congr_right fun _=>and_congr_right fun _=>⟨fun h r hr=>RO (h r hr),fun h r hr=>RM (h r hr)⟩
def GI:cp []:=fun i p h=>by simp at h
def GJ{l:Ξ}{p:List Int}(h:cp l)(a:iF l p=true):cp (l++[p]):=fun i q e=>by
 rcases Qn i l.length with c|c
 ·rw[PH c] at e
  rw[List.take_append_of_le_length ω];exact h i q e
 ·have hi:i=l.length:=by
   have:=(B5.mp e).1;rw[Ap,List.length_singleton] at this;omega
  subst hi;rw[Py (Ag _),Nat.sub_self] at e;cases e;rw[List.take_left']
  ·exact a
  ·rfl
def tN{l:Ξ}(h:cp l){p:List Int}(hp:p∈l):eP p=true/\∀r∈rims p,r∈l:=by
 obtain⟨i,e⟩:=OV.mp hp;obtain⟨h1,_,a⟩:=tM.mp (h i p e);exact⟨h1,fun r hr=>Qs (a r hr)⟩
def Mc{l:Ξ}(h:cp l):l.Nodup:=by
 refine List.nodup_iff_pairwise_ne.mpr (Pi.mpr fun i j hi a b e=>?_);refine(tM.mp (h j l[j] (Ai a))).2.1 (OV.mpr ⟨i,?_⟩);rw[Pp b,Ai hi,e]
end K1
end
section
namespace Bar
abbrev Ch:=Nat->Int
structure Pr(p:Int):Prop where
 two:2<=p
 two_way:∀a b,p ∣ a*b->p ∣ a\/p ∣ b
 into:∀w g,¬p ∣ w->∃k:Nat,(k:Int)<p/\p ∣ (k:Int)*w-g
def mG{n:Nat}(h2:2<=n)(h:∀a:Fin n,∀b:Fin n,(a.1*b.1)%n=0->a.1=0\/b.1=0)(hi:∀w:Fin n,∀g:Fin n,w.1=0\/∃k:Fin n,(k.1*w.1)%n=g.1):Pr (n:Int):=by
 have fin:∀a:Int,∃x:Fin n,(x.1:Int)=a%n:=fun a=>by
  have c:0<=a%(n:Int):=PV _ ω;have h1:a%(n:Int)<n:=Pw _ ω;exact⟨⟨(a%(n:Int)).toNat,ω⟩,by simp only;omega⟩
 refine⟨ω,fun a b hd=>?_,fun w g hw=>?_⟩
 ·obtain⟨x,hx⟩:=fin a
  obtain⟨y,hy⟩:=fin b;have e:(a*b)%(n:Int)=0:=Qj hd;rw[RD,<-hx,<-hy] at e;have e2:(x.1*y.1)%n=0:=by exact_mod_cast e
  rcases h x y e2 with z|z
  ·left
   refine Pe ?_;rw[<-hx,z];rfl
  ·right
   refine Pe ?_;rw[<-hy,z];rfl
 ·obtain⟨x,hx⟩:=fin w
  obtain⟨y,hy⟩:=fin g;rcases hi x y with z|⟨k,hk⟩
  ·refine absurd (Pe ?_) hw
   rw[<-hx,z];rfl
  ·refine⟨k.1,by exact_mod_cast k.2,?_⟩
   refine Pe ?_;have e:((k.1:Int)*w)%n=g%n:=by
    rw[RD,<-hx,<-hy,<-hk]
    push_cast
    rw[RD,Int.emod_emod,<-RD]
   rw[Int.sub_emod,e,Int.sub_self]
   rfl
def Md:Pr 2:=mG (n:=2) ξ ξ ξ
def Me:Pr 3:=mG (n:=3) ξ ξ ξ
def Mf:Pr 5:=mG (n:=5) ξ ξ ξ
def Mg:Pr 7:=mG (n:=7) ξ ξ ξ
def Z(p:Int)(f:Ch):Prop:=∀u,p ∣ f u
def Yg(p:Int)(f:Ch)(t:Nat):Prop:=¬p ∣ f t/\∀u,t<u->p ∣ f u
def Bl(p:Int)(f:Ch)(T:Nat):Prop:=∀u,T<=u->p ∣ f u
abbrev ca(f:Ch)(a:Int)(g:Ch):Ch:=fun u=>f u-a*g u
def kU{p a x y:Int}(h:p ∣ x)(k:p ∣ y):p ∣ x-a*y:=Qb h (O8 k (PM _ _))
def Mh{p a x y:Int}(h:p ∣ x-a*y)(k:p ∣ y):p ∣ x:=by
 have:=PR h (O8 k (PM a y))
 rwa [Int.sub_add_cancel] at this
def Yg.uniq{p:Int}{f:Ch}{a b:Nat}(h:Yg p f a)(k:Yg p f b):a=b:=by
 rcases Nat.lt_trichotomy a b with z|z|z
 ·exact absurd (h.2 b z) k.1
 ·exact z
 ·exact absurd (k.2 a z) h.1
def Yg.not_z{p:Int}{f:Ch}{a:Nat}(h:Yg p f a):¬Z p f:=fun z=>h.1 (z a)
def Sp(p:Int):List (Nat×Ch)->Ch->Prop
 |[],f=>Z p f
 |r::L,f=>∃a,Sp p L (ca f a r.2)
def Da{p:Int}:∀{L:List (Nat×Ch)}{f g:Ch},(∀u,p ∣ f u-g u)->Sp p L g->Sp p L f
 |[],f,g,h,hg=>fun u=>by
  have:=PR (h u) (hg u)
  rwa [Int.sub_add_cancel] at this
 |r::L,f,g,h,⟨a,hg⟩=>⟨a,Da (fun u=>by
   have e:ca f a r.2 u-ca g a r.2 u=f u-g u:=by show f u-a*r.2 u-(g u-a*r.2 u)=_;omega
   rw[e];exact h u) hg⟩
def k4{p:Int}:∀{L:List (Nat×Ch)}{f:Ch},Z p f->Sp p L f
 |[],f,h=>h
 |r::L,f,h=>⟨0,k4 fun u=>by show p ∣ f u-0*r.2 u;rw[Int.zero_mul,Int.sub_zero];exact h u⟩
def sp_yg{p:Int}(P:Pr p):∀{L:List (Nat×Ch)},(L.map (·.1)).Nodup->(∀r∈L,Yg p r.2 r.1)->∀{f:Ch},Sp p L f->Z p f\/∃r∈L,Yg p f r.1
 |[],_,_,f,h=>.inl h
 |r::L,nd,hy,f,⟨a,h⟩=>by
  rw[Aq,Be] at nd;have hr:=hy r (.head _);have b:∀u,f u=ca f a r.2 u+a*r.2 u:=fun u=>by show f u=f u-a*r.2 u+a*r.2 u;omega
  rcases sp_yg P nd.2 (fun q hq=>hy q (.tail _ hq)) h with z|⟨q,hq,z⟩
  ·by_cases c:p ∣ a
   ·left
    intro u;rw[b u];exact PR (z u) (O8 c (Qc _ _))
   ·right
    refine⟨r,.head _,fun e=>?_,fun u hu=>?_⟩
    ·have:p ∣ a*r.2 r.1:=by
      have:=Qb e (z r.1)
      rwa [show f r.1-ca f a r.2 r.1=a*r.2 r.1 from by rw[b r.1];omega] at this
     rcases P.two_way _ _ this with k|k
     ·exact c k
     ·exact hr.1 k
    ·rw[b u]
     exact PR (z u) (O8 (hr.2 u hu) (PM _ _))
  ·have d:q.1≠r.1:=fun e=>nd.1 (e▸QE hq)
   by_cases c:p ∣ a
   ·right
    refine⟨q,.tail _ hq,fun e=>z.1 ?_,fun u hu=>?_⟩
    ·exact dvd_of e c
    ·rw[b u]
     exact PR (z.2 u hu) (O8 c (Qc _ _))
   ·rcases Nat.lt_or_gt_of_ne d with lt|lt
    ·right
     refine⟨r,.head _,fun e=>?_,fun u hu=>?_⟩
     ·have k:=Qb e (z.2 r.1 lt)
      rw[show f r.1-ca f a r.2 r.1=a*r.2 r.1 from by rw[b r.1];omega] at k;rcases P.two_way _ _ k with k|k
      ·exact c k
      ·exact hr.1 k
     ·rw[b u]
      exact PR (z.2 u ω) (O8 (hr.2 u hu) (PM _ _))
    ·right
     refine⟨q,.tail _ hq,fun e=>z.1 (kU e (hr.2 q.1 lt)),fun u hu=>?_⟩;rw[b u];exact PR (z.2 u hu) (O8 (hr.2 u ω) (PM _ _))
where
 dvd_of {p a x y:Int} (e:p ∣ x) (c:p ∣ a):p ∣ x-a*y:=Qb e (O8 c (Qc _ _))
structure Sm(p:Int)(S:Ch->Ch):Prop where
 lin:∀f a g u,S (ca f a g) u=S f u-a*S g u
 z:∀{f},Z p f->Z p (S f)
structure Row where
 b:Nat
 d:Option Nat
 r:Ch
 g:Ch
structure Db(p:Int)(S:Ch->Ch)(T:Nat)(x:Row):Prop where
 born:x.b<T
 yg:Yg p x.r x.b
 cyc:Z p (S x.r)
 gone:∀t,x.d=some t->t<T/\x.b<t/\Yg p x.g t/\∀u,p ∣ S x.g u-x.r u
structure Rows(p:Int)(S:Ch->Ch)(T:Nat)(L:List Row):Prop where
 ok:∀x∈L,Db p S T x
 nd:(L.map (·.b)).Nodup
 all:∀t,t<T->(∃x∈L,x.b=t)\/∃x∈L,x.d=some t
 one:∀x∈L,∀y∈L,y.d≠some x.b
 two:∀x∈L,∀y∈L,∀t,x.d=some t->y.d=some t->x=y
def GK{L:List Row}(nd:(L.map (·.b)).Nodup){x y:Row}(hx:x∈L)(hy:y∈L)(e:x.b=y.b):x=y:=by
 induction L with
 |nil=>cases hx
 |cons q L ih=>
  rw[Aq,Be] at nd;rcases OT.mp hx with rfl|hx'
  ·rcases OT.mp hy with rfl|hy'
   ·rfl
   ·exact absurd (KK.mpr ⟨y,hy',e.symm⟩) nd.1
  ·rcases OT.mp hy with rfl|hy'
   ·exact absurd (KK.mpr ⟨x,hx',e⟩) nd.1
   ·exact ih nd.2 hx' hy'
def dl(t:Nat)(L:List Row):List (Nat×Ch):=(L.filter fun x=>match x.d with|some d=>decide (d<t)|none=>false).map fun x=>(x.b,x.r)
def dl_mem{t:Nat}{L:List Row}{q:Nat×Ch}:q∈dl t L↔∃x∈L,∃d,x.d=some d/\d<t/\q=(x.b,x.r):=by
 unfold dl;rw[KK];constructor
 ·rintro⟨x,hx,rfl⟩
  rw[O0] at hx;obtain⟨h1,h2⟩:=hx;cases e:x.d with
  |none=>rw[e] at h2;cases h2
  |some d=>rw[e] at h2;exact⟨x,h1,d,e,RO h2,rfl⟩
 ·rintro⟨x,hx,d,e,hd,rfl⟩
  refine⟨x,O0.mpr ⟨hx,?_⟩,rfl⟩;rw[e];exact RM hd
def dl_nd{t:Nat}{L:List Row}(nd:(L.map (·.b)).Nodup):((dl t L).map (·.1)).Nodup:=by
 unfold dl;rw[Ak];exact List.Sublist.nodup (List.Sublist.map _ PX) nd
def Dc{p a:Int}{x:Nat×Ch}:∀{L:List (Nat×Ch)}{f g:Ch},x∈L->(∀u,p ∣ ca g a x.2 u-f u)->Sp p L f->Sp p L g
 |r::L,f,g,hx,h,⟨k,hk⟩=>by
  rcases OT.mp hx with rfl|hx
  ·refine⟨k+a,Da (fun u=>?_) hk⟩
   have e:ca g (k+a) x.2 u-ca f k x.2 u=ca g a x.2 u-f u:=by
    show g u-(k+a)*x.2 u-(f u-k*x.2 u)=g u-a*x.2 u-f u;rw[Int.add_mul];omega
   rw[e];exact h u
  ·refine⟨k,Dc (a:=a) (f:=ca f k r.2) hx (fun u=>?_) hk⟩
   have e:ca (ca g k r.2) a x.2 u-ca f k r.2 u=ca g a x.2 u-f u:=by
    show g u-k*r.2 u-a*x.2 u-(f u-k*r.2 u)=g u-a*x.2 u-f u;omega
   rw[e];exact h u
def Dd{p:Int}{b:List (Nat×Ch)}:∀{L:List (Nat×Ch)}{f:Ch},(∀x∈L,x∈b)->Sp p L f->Sp p b f
 |[],f,_,h=>k4 h
 |r::L,f,hs,⟨a,h⟩=>Dc (a:=a) (f:=ca f a r.2) (hs r (.head _)) (fun u=>by rw[Int.sub_self];exact Pb _) (Dd (fun x hx=>hs x (.tail _ hx)) h)
def De{p:Int}(P:Pr p){f g:Ch}{T:Nat}(hf:Bl p f (T+1))(b:Yg p g T):∃a:Int,Bl p (ca f a g) T/\(¬p ∣ f T->¬p ∣ a):=by
 obtain⟨k,_,hk⟩:=P.into (g T) (f T) b.1;refine⟨k,fun u hu=>?_,fun c ha=>c ?_⟩
 ·rcases Nat.eq_or_lt_of_le hu with rfl|hu
  ·have:=Int.dvd_neg.mpr hk
   rwa [show -((k:Int)*g T-f T)=ca f k g T from by show _=f T-k*g T;omega] at this
  ·exact kU (hf u hu) (b.2 u hu)
 ·have h1:p ∣ (k:Int)*g T:=O8 ha (Qc _ _)
  have:=Qb h1 hk
  rwa [show(k:Int)*g T-((k:Int)*g T-f T)=f T from ω] at this
def Dg{p:Int}(P:Pr p){S:Ch->Ch}(c:Sm p S){T:Nat}{L:List Row}(R:Rows p S T L):∀t,t<=T->∀f,Bl p f t->Sp p (dl t L) (S f)
 |0,_,f,hf=>k4 (c.z fun u=>hf u (A1 _))
 |t+1,ht,f,hf=>by
  have more:∀x∈dl t L,x∈dl (t+1) L:=fun q hq=>by
   obtain⟨x,hx,d,e,hd,rfl⟩:=dl_mem.mp hq;exact dl_mem.mpr ⟨x,hx,d,e,ω,rfl⟩
  rcases R.all t ht with ⟨x,hx,rfl⟩|⟨x,hx,e⟩
  ·have o:=R.ok x hx
   obtain⟨a,ha,_⟩:=De P hf o.yg;refine Da (fun u=>?_) (Dd more (Dg P c R _ ω _ ha));rw[c.lin];rw[show S f u-(S f u-a*S x.r u)=a*S x.r u from ω];exact O8 (o.cyc u) (PM _ _)
  ·have o:=(R.ok x hx).gone t e
   obtain⟨a,ha,_⟩:=De P hf o.2.2.1;refine Dc (a:=a) (x:=(x.b,x.r)) (dl_mem.mpr ⟨x,hx,t,e,ω,rfl⟩) (fun u=>?_) (Dd more (Dg P c R _ ω _ ha));rw[c.lin];rw[show ca (S f) a x.r u-(S f u-a*S x.g u)=a*(S x.g u-x.r u) from by show S f u-a*x.r u-(S f u-a*S x.g u)=_;rw[Int.mul_sub];omega];exact O8 (o.2.2.2 u) (PM _ _)
def Mi{p:Int}(P:Pr p){S:Ch->Ch}(l:Sm p S){T:Nat}{L:List Row}(R:Rows p S T L){c:Ch}{t:Nat}(hc:Bl p c T)(C:Z p (S c))(hy:Yg p c t):∃x∈L,x.b=t:=by
 have ht:t<T:=Nat.lt_of_not_le fun z=>hy.1 (hc t z);rcases R.all t ht with h|⟨x,hx,e⟩
 ·exact h
 ·exfalso
  have o:=(R.ok x hx).gone t e;obtain⟨a,ha,v⟩:=De P (T:=t) (f:=c) (g:=x.g) (fun u hu=>hy.2 u hu) o.2.2.1;have w:=v hy.1;have A:=Dg P l R t ω _ ha;have j:=(R.ok x hx).yg;have eq:∀u,p ∣ S (ca c a x.g) u+a*x.r u:=fun u=>by
   rw[l.lin];have h1:=kU (a:=a) (C u) (o.2.2.2 u)
   rwa [show S c u-a*(S x.g u-x.r u)=S c u-a*S x.g u+a*x.r u from by rw[Int.mul_sub];omega] at h1
  have i:Yg p (S (ca c a x.g)) x.b:=by
   refine⟨fun z=>?_,fun u hu=>?_⟩
   ·have k:=Qb (eq x.b) z
    rw[show S (ca c a x.g) x.b+a*x.r x.b-S (ca c a x.g) x.b=a*x.r x.b from ω] at k;rcases P.two_way _ _ k with k|k
    ·exact w k
    ·exact j.1 k
   ·have k:=Qb (eq u) (O8 (j.2 u hu) (PM a (x.r u)))
    rwa [show S (ca c a x.g) u+a*x.r u-a*x.r u=S (ca c a x.g) u from ω] at k
  rcases sp_yg P (dl_nd R.nd) (fun q hq=>by
   obtain⟨y,hy',d,e',hd,rfl⟩:=dl_mem.mp hq;exact(R.ok y hy').yg) A with z|⟨q,hq,z⟩
  ·exact i.not_z z
  ·obtain⟨y,hy',d,e',hd,rfl⟩:=dl_mem.mp hq
   have:=GK R.nd hx hy' (i.uniq z);subst this;rw[e] at e';cases e';omega
def Mj{p:Int}{S:Ch->Ch}{T:Nat}{L:List Row}(R:Rows p S T L){z g:Ch}(hz:Yg p z T)(hc:Z p (S z)):Rows p S (T+1) (L++[⟨T,none,z,g⟩]):=by
 have up:∀x∈L,Db p S (T+1) x:=fun x hx=>by
  have o:=R.ok x hx;exact⟨by have:=o.born;omega,o.yg,o.cyc,fun t e=>by
   obtain⟨a,b⟩:=o.gone t e;exact⟨ω,b⟩⟩
 refine⟨fun x hx=>?_,?_,fun t ht=>?_,fun x hx y hy=>?_,fun x hx y hy t e1 e2=>?_⟩
 ·rcases OW.mp hx with hx|hx
  ·exact up x hx
  ·rw[OU.mp hx]
   exact⟨Q8 _,hz,hc,fun t e=>nomatch e⟩
 ·rw[Ao,O2]
  refine⟨R.nd,by simp,fun a ha b hb=>?_⟩;obtain⟨x,hx,rfl⟩:=KK.mp ha;have:=(R.ok x hx).born;simp at hb;omega
 ·rcases Qn t T with h|h
  ·rcases R.all t h with ⟨x,hx,e⟩|⟨x,hx,e⟩
   ·exact .inl ⟨x,PQ _ hx,e⟩
   ·exact .inr ⟨x,PQ _ hx,e⟩
  ·exact .inl ⟨_,AQ _ (.head _),by show T=t;omega⟩
 ·rcases OW.mp hy with hy|hy
  ·rcases OW.mp hx with hx|hx
   ·exact R.one x hx y hy
   ·rw[OU.mp hx]
    intro e;have:=((R.ok y hy).gone _ e).1;simp at this
  ·rw[OU.mp hy]
   intro e;cases e
 ·rcases OW.mp hx with hx|hx
  ·rcases OW.mp hy with hy|hy
   ·exact R.two x hx y hy t e1 e2
   ·rw[OU.mp hy] at e2;cases e2
  ·rw[OU.mp hx] at e1;cases e1
def kill(b T:Nat)(r g:Ch)(L:List Row):List Row:=L.map fun x=>if x.b=b then⟨b,some T,r,g⟩ else x
def Mk{b T:Nat}{r g:Ch}{L:List Row}:(kill b T r g L).map (·.b)=L.map (·.b):=by
 unfold kill;rw[Ak];refine Aw fun x _=>?_;show(if x.b=b then(⟨b,some T,r,g⟩:Row) else x).b=x.b
 by_cases e:x.b=b
 ·rw[RJ e];exact e.symm
 ·rw[RK e]
def Ml{p:Int}{S:Ch->Ch}{T:Nat}{L:List Row}(R:Rows p S T L){r g:Ch}{c:Row}(f:c∈L)(hd:c.d=none)(hr:Yg p r c.b)(hc:Z p (S r))(l:Yg p g T)(q:∀u,p ∣ S g u-r u):Rows p S (T+1) (kill c.b T r g L):=by
 have mem:∀y,y∈kill c.b T r g L->y=⟨c.b,some T,r,g⟩\/(y∈L/\y.b≠c.b):=fun y hy=>by
  obtain⟨x,hx,rfl⟩:=KK.mp hy
  by_cases e:x.b=c.b
  ·rw[RJ e];exact .inl rfl
  ·rw[RK e];exact .inr ⟨hx,e⟩
 have keep:∀x∈L,x.b≠c.b->x∈kill c.b T r g L:=fun x hx e=>KK.mpr ⟨x,hx,RK e⟩;have new:(⟨c.b,some T,r,g⟩:Row)∈kill c.b T r g L:=KK.mpr ⟨c,f,RJ rfl⟩;refine⟨fun y hy=>?_,by rw[Mk];exact R.nd,fun t ht=>?_,fun x hx y hy=>?_,fun x hx y hy t e1 e2=>?_⟩
 ·rcases mem y hy with rfl|⟨hy,_⟩
  ·exact⟨by have:=(R.ok c f).born;show c.b<T+1;omega,hr,hc,fun t e=>by
    cases e;exact⟨Q8 _,(R.ok c f).born,l,q⟩⟩
  ·have o:=R.ok y hy
   exact⟨by have:=o.born;omega,o.yg,o.cyc,fun t e=>by
    obtain⟨a,b⟩:=o.gone t e;exact⟨ω,b⟩⟩
 ·rcases Qn t T with h|h
  ·rcases R.all t h with ⟨x,hx,e⟩|⟨x,hx,e⟩
   ·by_cases i:x.b=c.b
    ·exact .inl ⟨_,new,by show c.b=t;omega⟩
    ·exact .inl ⟨x,keep x hx i,e⟩
   ·refine .inr ⟨x,keep x hx fun i=>?_,e⟩
    have:=GK R.nd hx f i;subst this;rw[hd] at e;cases e
  ·exact .inr ⟨_,new,by show some T=some t;rw[show T=t from ω]⟩
 ·rcases mem x hx with rfl|⟨hx,nx⟩
  ·rcases mem y hy with rfl|⟨hy,j⟩
   ·intro e
    have:=(R.ok c f).born;have e':T=c.b:=Ah e;omega
   ·exact R.one c f y hy
  ·rcases mem y hy with rfl|⟨hy,j⟩
   ·intro e
    have:=(R.ok x hx).born;cases e;omega
   ·exact R.one x hx y hy
 ·rcases mem x hx with rfl|⟨hx,nx⟩
  ·rcases mem y hy with rfl|⟨hy,j⟩
   ·rfl
   ·cases e1
    have:=((R.ok y hy).gone _ e2).1;omega
  ·rcases mem y hy with rfl|⟨hy,j⟩
   ·cases e2
    have:=((R.ok x hx).gone _ e1).1;omega
   ·exact R.two x hx y hy t e1 e2
structure WO(p:Int)(S:Ch->Ch)(T:Nat)(left fill:Ch):Prop where
 sm:∀u,p ∣ S fill u-left u
 yg:Yg p fill T
 bl:Bl p left T
def WO.closed{p:Int}{S:Ch->Ch}{T:Nat}{l f:Ch}(W:WO p S T l f)(a:Sm p S)(b:Z p (S (S f))):Z p (S l):=fun u=>by
 have h:=a.z (f:=ca (S f) 1 l) (fun u=>by show p ∣ S f u-1*l u;rw[Int.one_mul];exact W.sm u) u;rw[a.lin,Int.one_mul] at h;have:=Qb (b u) h
 rwa [show S (S f) u-(S (S f) u-S l u)=S l u from ω] at this
def WO.step{p:Int}{S:Ch->Ch}(c:Sm p S){T:Nat}{L:List Row}(R:Rows p S T L){l f:Ch}(W:WO p S T l f){x:Row}{d:Nat}(hx:x∈L)(hd:x.d=some d)(hy:Yg p l x.b){k:Int}(hk:p ∣ k*x.r x.b-l x.b):WO p S T (ca l k x.r) (ca f k x.g)/\Bl p (ca l k x.r) x.b:=by
 have o:=R.ok x hx;obtain⟨g1,g2,g3,g4⟩:=o.gone d hd;refine⟨⟨fun u=>?_,⟨fun z=>W.yg.1 (Mh z (g3.2 T g1)),fun u hu=>kU (W.yg.2 u hu) (g3.2 u ω)⟩,fun u hu=>kU (W.bl u hu) (o.yg.2 u (by have:=o.born;omega))⟩,fun u hu=>?_⟩
 ·rw[c.lin]
  have:=kU (a:=k) (W.sm u) (g4 u)
  rwa [show S f u-l u-k*(S x.g u-x.r u)=S f u-k*S x.g u-ca l k x.r u from by show _=S f u-k*S x.g u-(l u-k*x.r u);rw[Int.mul_sub];omega] at this
 ·rcases Nat.eq_or_lt_of_le hu with rfl|hu
  ·have:=Int.dvd_neg.mpr hk
   rwa [show -(k*x.r x.b-l x.b)=ca l k x.r x.b from by show _=l x.b-k*x.r x.b;omega] at this
  ·exact kU (hy.2 u hu) (o.yg.2 u hu)
def cN(cs:List (List Int×Int))(q:List Int):Int:=((cs.find? fun c=>decide (c.1=q)).map (·.2)).getD 0
def GL(c:List Int×Int)(r:List (List Int×Int))(x:List Int):cN (c::r) x=if c.1=x then c.2 else cN r x:=by
 unfold cN;rw[Pf]
 by_cases e:c.1=x
 ·rw[RM e,RJ e];rfl
 ·rw[RN e,RK e]
def GM{x:List Int}:∀{cs:List (List Int×Int)},x∉cs.map (·.1)->cN cs x=0
 |[],_=>rfl
 |c::r,h=>by
  rw[Aq,OT,not_or] at h;rw[GL,RK (Ne.symm h.1),GM h.2]
def tU{a:Type}(f g:a->Int):∀l:List a,(l.map fun x=>f x+g x).sum=(l.map f).sum+(l.map g).sum
 |[]=>rfl
 |x::l=>by rw[Aq,O4,Aq,O4,Aq,O4,tU f g l];omega
def tW{b:Type}(a:Int)(f:b->Int):∀l:List b,(l.map fun x=>a*f x).sum=a*(l.map f).sum
 |[]=>by simp
 |x::l=>by rw[Aq,O4,Aq,O4,tW a f l,Rs]
def t5{a:Type}:∀l:List a,(l.map fun _=>(0:Int)).sum=0
 |[]=>rfl
 |x::l=>by rw[Aq,O4,t5 l];rfl
def GN{a:Type}{p:Int}(f:a->Int):∀l:List a,(∀x∈l,p ∣ f x)->p ∣ (l.map f).sum
 |[],_=>Pb _
 |x::l,h=>by rw[Aq,O4];exact PR (h x (.head _)) (GN f l fun y hy=>h y (.tail _ hy))
def GO{a b:Type}(f:a->b->Int)(m:List b):∀l:List a,(l.map fun x=>(m.map fun y=>f x y).sum).sum=(m.map fun y=>(l.map fun x=>f x y).sum).sum
 |[]=>by simp only[Rg,List.sum_nil];exact(t5 m).symm
 |x::l=>by
  rw[Aq,O4,GO f m l,<-tU]
  congr 1
def GP{e:List Int->Int}{q:List Int}{v:Int}:∀{l:Ξ},l.Nodup->(l.map fun x=>if q=x then v*e x else 0).sum=if q∈l then v*e q else 0
 |[],_=>by simp
 |x::l,nd=>by
  rw[Be] at nd;rw[Aq,O4,GP nd.2]
  by_cases h:q=x
  ·subst h
   rw[RJ rfl,RK nd.1,RJ Av];omega
  ·rw[RK h]
   by_cases k:q∈l
   ·rw[RJ k,RJ (As _ k)];omega
   ·rw[RK k,RK (fun z=>(OT.mp z).elim h k)];rfl
def Dh{oo:Ξ}(nd:oo.Nodup)(e:List Int->Int):∀{cs:List (List Int×Int)},(cs.map (·.1)).Nodup->(∀c∈cs,c.1∈oo)->(cs.map fun c=>c.2*e c.1).sum=(oo.map fun x=>cN cs x*e x).sum
 |[],_,_=>by
  have:(oo.map fun x=>cN [] x*e x)=oo.map fun _=>(0:Int):=Aw fun x _=>by show 0*e x=0;rw[Int.zero_mul]
  rw[this,t5];rfl
 |c::r,hn,hs=>by
  rw[Aq,Be] at hn;rw[Aq,O4,Dh nd e hn.2 fun d hd=>hs d (.tail _ hd)];have e1:(oo.map fun x=>cN (c::r) x*e x)=oo.map fun x=>(if c.1=x then c.2*e x else 0)+cN r x*e x:=by
   refine Aw fun x _=>?_;rw[GL]
   by_cases h:c.1=x
   ·rw[RJ h,RJ h,<-h,GM hn.1];omega
   ·rw[RK h,RK h];omega
  rw[e1,tU,GP nd,RJ (hs c (.head _))]
def cat(oo:Ξ)(F:List Int->Int):Ch:=fun u=>match oo[u]? with
 |some x=>F x
 |none=>0
def GQ{oo:Ξ}{F:List Int->Int}{u:Nat}{x:List Int}(h:oo[u]?=some x):cat oo F u=F x:=by unfold cat;rw[h]
def Mm{oo:Ξ}{F:List Int->Int}{u:Nat}(h:oo.length<=u):cat oo F u=0:=by unfold cat;rw[Pn h]
def sm(oo:Ξ)(tau:List Int->List Int->Int)(f:Ch):Ch:=fun u=>match oo[u]? with
 |some y=>(oo.zipIdx.map fun q=>f q.2*tau q.1 y).sum
 |none=>0
def Mn(oo:Ξ)(tau:List Int->List Int->Int)(f:Ch)(a:Int)(g:Ch)(u:Nat):sm oo tau (ca f a g) u=sm oo tau f u-a*sm oo tau g u:=by
 unfold sm;cases e:oo[u]? with
 |none=>show(0:Int)=0-a*0;omega
 |some y=>
  show(oo.zipIdx.map fun q=>ca f a g q.2*tau q.1 y).sum=(oo.zipIdx.map fun q=>f q.2*tau q.1 y).sum-a*(oo.zipIdx.map fun q=>g q.2*tau q.1 y).sum;have e1:(oo.zipIdx.map fun q=>ca f a g q.2*tau q.1 y)=oo.zipIdx.map fun q=>f q.2*tau q.1 y+(-a)*(g q.2*tau q.1 y):=by
   refine Aw fun q _=>?_;show(f q.2-a*g q.2)*tau q.1 y=_;rw[Int.sub_mul,Ru,Int.neg_mul];omega
  rw[e1,tU,tW,Int.neg_mul];omega
def p4(p:Int)(oo:Ξ)(tau:List Int->List Int->Int):Sm p (sm oo tau):=by
 refine⟨fun f a g u=>Mn oo tau f a g u,fun{f} h u=>?_⟩;unfold sm;cases e:oo[u]? with
 |none=>exact Pb _
 |some y=>exact GN _ _ fun q _=>O8 (h q.2) (Qc _ _)
def jC{oo:Ξ}{q:List Int×Nat}(h:q∈oo.zipIdx):oo[q.2]?=some q.1:=by
 have:=Qq (x:=q) (l:=oo);exact this.mp h
def Mo{oo:Ξ}(nd:oo.Nodup){tau:List Int->List Int->Int}{cs:List (List Int×Int)}(a:(cs.map (·.1)).Nodup)(b:∀c∈cs,c.1∈oo){u:Nat}{y:List Int}(h:oo[u]?=some y):sm oo tau (cat oo (cN cs)) u=(cs.map fun c=>c.2*tau c.1 y).sum:=by
 rw[Dh nd (fun x=>tau x y) a b];unfold sm;rw[h];show(oo.zipIdx.map fun q=>cat oo (cN cs) q.2*tau q.1 y).sum=_;have e1:(oo.zipIdx.map fun q=>cat oo (cN cs) q.2*tau q.1 y)=oo.zipIdx.map ((fun x=>cN cs x*tau x y) ∘ Prod.fst):=Aw fun q hq=>by
  show cat oo (cN cs) q.2*tau q.1 y=cN cs q.1*tau q.1 y;rw[GQ (jC hq)]
 rw[e1,<-Ak,QF]
def Mp{oo:Ξ}{tau:List Int->List Int->Int}(hdd:∀x∈oo,∀y∈oo,(oo.map fun z=>tau x z*tau z y).sum=0)(f:Ch)(u:Nat):sm oo tau (sm oo tau f) u=0:=by
 show(match oo[u]? with|some y=>(oo.zipIdx.map fun q:List Int×Nat=>sm oo tau f q.2*tau q.1 y).sum|none=>(0:Int))=0;cases e:oo[u]? with
 |none=>rfl
 |some y=>
  show(oo.zipIdx.map fun q=>sm oo tau f q.2*tau q.1 y).sum=0;have hy:=Aj e;have e1:(oo.zipIdx.map fun q=>sm oo tau f q.2*tau q.1 y)=oo.zipIdx.map fun q=>(oo.zipIdx.map fun r=>f r.2*(tau r.1 q.1*tau q.1 y)).sum:=Aw fun q hq=>by
   have e2:sm oo tau f q.2=(oo.zipIdx.map fun r=>f r.2*tau r.1 q.1).sum:=by
    show(match oo[q.2]? with|some y=>(oo.zipIdx.map fun r:List Int×Nat=>f r.2*tau r.1 y).sum|none=>(0:Int))=_;rw[jC hq]
   rw[e2,Int.mul_comm,<-tW]
   congr 1
   refine Aw fun r _=>?_;rw[Int.mul_comm,Ru]
  rw[e1,GO];have e3:(oo.zipIdx.map fun r=>(oo.zipIdx.map fun q=>f r.2*(tau r.1 q.1*tau q.1 y)).sum)=oo.zipIdx.map fun _=>(0:Int):=Aw fun r hr=>by
   have hx:=Aj (jC hr);rw[tW];have a:(oo.zipIdx.map fun q=>tau r.1 q.1*tau q.1 y)=oo.zipIdx.map ((fun z=>tau r.1 z*tau z y) ∘ Prod.fst):=rfl;rw[a,<-Ak,QF,hdd _ hx _ hy,QZ]
  rw[e3,t5]
end Bar
end
section
namespace K65
open K1
open PySem L2 STb
def GR{g:Int->Int}(a:g 0=0)(x:List Int):∀cs:Ch,aC (cs.map fun c=>(c.1,g c.2)) x=g (aC cs x)
 |[]=>a.symm
 |c::r=>by
  rw[Aq,zO,zO,GR a x r];split<;>rfl
def Mq(g:List Int×Int->Int)(cs:Ch):ksC (cs.map fun c=>(c.1,g c))=ksC cs:=by unfold ksC;rw[Ak];rfl
def Di{g:Int->Int}(a:g 0=0){cs:Ch}(nd:(ksC cs).Nodup)(x:List Int):cK (cs.map fun c=>(c.1,g c.2)) x=g (aC cs x):=by
 rw[p3 (by rw[Mq fun c=>g c.2];exact nd),GR a]
def Dj{ts:Ch}{c:List Int×Int}(h:c∈cx ts):∃t∈ts,t.1=c.1:=by
 obtain⟨h1,h2⟩:=sG h;exact L3 (by rw[h2];exact h1)
def md(p:Int)(cs:Ch):Ch:=cx (cs.map fun c=>(c.1,c.2%p))
def GS{p:Int}{cs:Ch}(nd:(ksC cs).Nodup)(x:List Int):aC (md p cs) x=aC cs x%p:=by
 unfold md;rw[pY,Di (g:=fun v=>v%p) (Int.zero_emod p) nd]
structure ChP(p:Int)(cs:Ch):Prop where
 nd:(ksC cs).Nodup
 lo:∀c∈cs,1<=c.2/\c.2<p
def ue{p:Int}(hp:0<p){cs:Ch}(nd:(ksC cs).Nodup):ChP p (md p cs):=by
 refine⟨zS _,fun c hc=>?_⟩;obtain⟨h1,h2⟩:=sG hc;rw[Di (g:=fun v=>v%p) (Int.zero_emod p) nd] at h2;have:=PV (aC cs c.1) (b:=p) ω;have:=Pw (aC cs c.1) hp;have h2:aC cs c.1%p=c.2:=h2;omega
def GT{p:Int}{cs:Ch}{q:List Int}(h:q∈ksC (md p cs)):q∈ksC cs:=by
 obtain⟨c,hc,rfl⟩:=KK.mp h;obtain⟨t,ht,e⟩:=Dj hc;obtain⟨d,hd,rfl⟩:=KK.mp ht;exact e▸KK.mpr ⟨d,hd,rfl⟩
def Mr{cs:Ch}{x:List Int}(h:aC cs x≠0):x∈ksC cs:=Classical.byContradiction fun z=>h (zW z)
def ChP.range{p:Int}(hp:0<p){cs:Ch}(h:ChP p cs)(x:List Int):0<=aC cs x/\aC cs x<p:=by
 by_cases e:x∈ksC cs
 ·obtain⟨c,hc,rfl⟩:=KK.mp e
  rw[iD h.nd c hc];have:=h.lo c hc;omega
 ·rw[zW e];omega
def ChP.at{p:Int}{cs:Ch}(h:ChP p cs){x:List Int}(hx:x∈ksC cs):1<=aC cs x/\aC cs x<p:=by
 obtain⟨c,hc,rfl⟩:=KK.mp hx;rw[iD h.nd c hc];exact h.lo c hc
def less(p:Int)(a:Ch)(k:Int)(b:Ch):Ch:=md p (cx (a++b.map fun c=>(c.1,-k*c.2)))
def less_get{p k:Int}{a b:Ch}(c:(ksC a).Nodup)(d:(ksC b).Nodup)(x:List Int):aC (less p a k b) x=(aC a x-k*aC b x)%p:=by
 unfold less;rw[GS (zS _),pY,C1,p3 c,Di (g:=fun v=>-k*v) (QZ _) d,Int.neg_mul]
 rfl
def GU{p:Int}(hp:0<p){k:Int}{a b:Ch}:ChP p (less p a k b):=ue hp (zS _)
def less_key{p k:Int}{a b:Ch}{q:List Int}(h:q∈ksC (less p a k b)):q∈ksC a\/q∈ksC b:=by
 have h:=GT h;obtain⟨c,hc,rfl⟩:=KK.mp h;obtain⟨t,ht,e⟩:=Dj hc;rcases OW.mp ht with ht|ht
 ·exact .inl (e▸KK.mpr ⟨t,ht,rfl⟩)
 ·obtain⟨d,hd,rfl⟩:=KK.mp ht
  exact .inr (e▸KK.mpr ⟨d,hd,rfl⟩)
abbrev sb(p:Int)(cs:Ch):Ch:=md p (eS cs)
def p_{p:Int}(cs:Ch)(x:List Int):aC (sb p cs) x=lin cs x%p:=by rw[GS (zS _),ti]
def GV{p:Int}{cs:Ch}{q:List Int}(h:q∈ksC (sb p cs)):∃c∈cs,q∈rims c.1:=by
 have h:=GT h;obtain⟨c,hc,rfl⟩:=KK.mp h;obtain⟨t,ht,e⟩:=Dj hc;obtain⟨d,hd,ht⟩:=O7.mp ht;refine⟨d,hd,?_⟩;rw[<-C5 d.1 d.2,<-e];exact KK.mpr ⟨t,ht,rfl⟩
structure fm(oo:Ξ):Prop where
 o:cp oo
 nd:oo.Nodup
 rim:∀q∈oo,∀r∈rims q,r∈oo
 le:∀q∈oo,q.length<=5
 pn:∀q∈oo,q.Nodup
def Dl{oo:Ξ}(h:cp oo):fm oo:=
 ⟨h,Mc h,fun q hq=>(tN h hq).2,fun q hq=>(jo.mp (tN h hq).1).2.1,fun q hq=>by
  have:=(jo.mp (tN h hq).1);exact List.Pairwise.imp (fun h=>ω) this.2.2.2⟩
abbrev aZ(oo:Ξ)(cs:Ch):Bar.Ch:=Bar.cat oo (aC cs)
def gS{oo:Ξ}{cs:Ch}{u:Nat}{x:List Int}(h:oo[u]?=some x):aZ oo cs u=aC cs x:=Bar.GQ h
def jQ{oo:Ξ}{cs:Ch}{u:Nat}(h:oo.length<=u):aZ oo cs u=0:=Bar.Mm h
abbrev So(oo:Ξ):Bar.Ch->Bar.Ch:=Bar.sm oo tau
section
variable{p:Int}{oo:Ξ}{cs:Ch}
def Ms(O:fm oo)(nd:(ksC cs).Nodup)(a:∀q∈ksC cs,q∈oo){u:Nat}{y:List Int}(h:oo[u]?=some y):So oo (aZ oo cs) u=lin cs y:=
 Bar.Mo (tau:=tau) O.nd nd (fun c hc=>a _ (KK.mpr ⟨c,hc,rfl⟩)) h
def hdd(O:fm oo):∀x∈oo,∀y∈oo,(oo.map fun z=>tau x z*tau z y).sum=0:=fun x hx y hy=>by
 have nd:(ksC (bX x 1)).Nodup:=by rw[C5];exact L4 (O.pn x hx)
 have h:=Bar.Dh O.nd (fun z=>tau z y) (cs:=bX x 1) nd (fun c hc=>O.rim x hx _ (by rw[<-C5 x 1];exact KK.mpr ⟨c,hc,rfl⟩));have h2:lin (bX x 1) y=0:=C_ y x (O.le x hx);have e:(oo.map fun z=>tau x z*tau z y)=oo.map fun z=>Bar.cN (bX x 1) z*tau z y:=Aw fun z _=>by
  show cK (bX x 1) z*_=aC (bX x 1) z*_;rw[p3 nd]
 rw[e,<-h];exact h2
def Dm(a p:Int):p ∣ a-a%p:=⟨a / p,by have:=Int.emod_add_mul_ediv a p;omega⟩
def Mt(O:fm oo)(nd:(ksC cs).Nodup)(a:∀q∈ksC cs,q∈oo)(u:Nat):p ∣ So oo (aZ oo cs) u-aZ oo (sb p cs) u:=by
 cases e:oo[u]? with
 |none=>
  have h1:So oo (aZ oo cs) u=0:=by
   show(match oo[u]? with|some y=>(oo.zipIdx.map fun q:List Int×Nat=>aZ oo cs q.2*tau q.1 y).sum|none=>(0:Int))=0;rw[e]
  rw[h1,jQ (by simpa using e)];exact Pb _
 |some y=>
  rw[Ms O nd a e,gS e,p_];exact Dm _ _
def Dn{k:Int}{a b:Ch}(c:(ksC a).Nodup)(d:(ksC b).Nodup)(u:Nat):p ∣ Bar.ca (aZ oo a) k (aZ oo b) u-aZ oo (less p a k b) u:=by
 show p ∣ aZ oo a u-k*aZ oo b u-aZ oo (less p a k b) u;cases e:oo[u]? with
 |none=>
  have h:oo.length<=u:=by simpa using e
  rw[jQ h,jQ h,jQ h,QZ];exact Pb _
 |some y=>
  rw[gS e,gS e,gS e,less_get c d];exact Dm _ _
abbrev Cg(p:Int)(f g:Bar.Ch):Prop:=∀u,p ∣ f u-g u
def Cg.dvd{f g:Bar.Ch}(h:Cg p f g)(u:Nat):p ∣ f u↔p ∣ g u:=by
 constructor
 ·intro z
  have:=Qb z (h u)
  rwa [show f u-(f u-g u)=g u from ω] at this
 ·intro z
  have:=PR (h u) z
  rwa [show f u-g u+g u=f u from ω] at this
def Cg.yg{f g:Bar.Ch}(h:Cg p f g){t:Nat}(y:Bar.Yg p f t):Bar.Yg p g t:=⟨fun z=>y.1 ((h.dvd t).mpr z),fun u hu=>(h.dvd u).mp (y.2 u hu)⟩
def Cg.bl{f g:Bar.Ch}(h:Cg p f g){t:Nat}(y:Bar.Bl p f t):Bar.Bl p g t:=fun u hu=>(h.dvd u).mp (y u hu)
def Cg.z{f g:Bar.Ch}(h:Cg p f g)(y:Bar.Z p f):Bar.Z p g:=fun u=>(h.dvd u).mp (y u)
def Cg.s{f g:Bar.Ch}(h:Cg p f g):Cg p (So oo f) (So oo g):=fun u=>by
 have e:=(Bar.p4 p oo tau).z (f:=Bar.ca f 1 g) (fun u=>by show p ∣ f u-1*g u;rw[Int.one_mul];exact h u) u;rw[(Bar.p4 p oo tau).lin,Int.one_mul] at e;exact e
def Mu{T:Nat}{l f d e:Bar.Ch}(W:Bar.WO p (So oo) T l f)(g:Cg p l d)(hf:Cg p f e):Bar.WO p (So oo) T d e:=by
 refine⟨fun u=>?_,hf.yg W.yg,g.bl W.bl⟩;have a:=W.sm u;have b:=hf.s (oo:=oo) u;have c:=g u;have:=PR (Qb a b) c
 rwa [show So oo f u-l u-(So oo f u-So oo e u)+(l u-d u)=So oo e u-d u from ω] at this
def GW(O:fm oo)(h:ChP p cs)(hp:0<p){t:Nat}{y:List Int}(hy:y∈ksC cs)(ht:oo[t]?=some y)(hm:∀x∈ksC cs,∀u,oo[u]?=some x->u<=t):Bar.Yg p (aZ oo cs) t:=by
 refine⟨fun z=>?_,fun u hu=>?_⟩
 ·rw[gS ht] at z
  have:=h.at hy;have:=Int.le_of_dvd ω z;omega
 ·cases e:oo[u]? with
  |none=>rw[jQ (by simpa using e)];exact Pb _
  |some x=>
   rw[gS e];have:x∉ksC cs:=fun hx=>by have:=hm x hx u e;omega
   rw[zW this];exact Pb _
def Mv{t:Nat}(h:Bar.Yg p (aZ oo cs) t):∃y,oo[t]?=some y/\y∈ksC cs:=by
 cases e:oo[t]? with
 |none=>exact absurd (by rw[jQ (by simpa using e)];exact Pb _) h.1
 |some x=>
  refine⟨x,rfl,Mr fun z=>h.1 ?_⟩;rw[gS e,z];exact Pb _
def Mw:Bar.Z p (aZ oo []):=fun u=>by
 cases e:oo[u]? with
 |none=>rw[jQ (by simpa using e)];exact Pb _
 |some x=>rw[gS e];exact Pb _
end
structure cD where
 hi:Int
 b:Nat
 d:Option Nat
 c:Ch
 g:Ch
structure qa(p:Int)(oo:Ξ)(x:cD):Prop where
 c:ChP p x.c
 ci:∀q∈ksC x.c,q∈oo/\(q.length:Int)=x.hi+1
 g:∀t,x.d=some t->ChP p x.g/\∀q∈ksC x.g,q∈oo/\(q.length:Int)=x.hi+2
abbrev gc(oo:Ξ)(x:cD):Bar.Row:=⟨x.b,x.d,aZ oo x.c,aZ oo x.g⟩
structure fG(p:Int)(oo:Ξ)(T:Nat)(L:List cD):Prop where
 ok:∀x∈L,qa p oo x
 rows:Bar.Rows p (So oo) T (L.map (gc oo))
 srt:(L.map (·.b)).Pairwise (·<·)
def Mx{p:Int}{oo:Ξ}:fG p oo 0 []:=⟨(fun x hx=>nomatch hx),⟨(fun x hx=>nomatch hx),O6,(fun t ht=>absurd ht (Nat.not_lt_zero _)),(fun x hx=>nomatch hx),(fun x hx=>nomatch hx)⟩,List.Pairwise.nil⟩
def eX(L:List cD)(x:cD):List cD:=L.map fun y=>if y.b=x.b then x else y
structure Wk(p:Int)(oo:Ξ)(T:Nat)(q:List Int)(left fill:Ch):Prop where
 l:ChP p left
 li:∀k∈ksC left,k∈oo/\k.length+1=q.length
 f:ChP p fill
 fi:∀k∈ksC fill,k∈oo/\k.length=q.length
 wo:Bar.WO p (So oo) T (aZ oo left) (aZ oo fill)
section
variable{p:Int}{oo:Ξ}{T:Nat}{q:List Int}{left fill:Ch}{L:List cD}
def Mz{q r:List Int}(h:r∈rims q):r.length+1=q.length:=by
 obtain⟨h1,k,hk,rfl⟩:=CN.mp h;rw[Ap,AD,Pg];omega
def GX(O:fm oo)(hp:2<=p)(hT:oo[T]?=some q):Wk p oo T q (sb p [(q,1)]) [(q,1)]:=by
 have hq:q∈oo:=Aj hT;have nd:(ksC [(q,(1:Int))]).Nodup:=by simp[ksC]
 have hf:ChP p [(q,1)]:=⟨nd,fun c hc=>by rw[OU.mp hc];exact⟨Pm _,by show(1:Int)<p;omega⟩⟩;have hk:∀k∈ksC [(q,(1:Int))],k=q:=fun k hk=>by simpa[ksC] using hk
 refine⟨ue ω (zS _),fun k a=>?_,hf,fun k a=>by rw[hk k a];exact⟨hq,rfl⟩,⟨fun u=>Mt O nd (fun k a=>by rw[hk k a];exact hq) u,?_,fun u hu=>?_⟩⟩
 ·obtain⟨c,hc,hr⟩:=GV a
  rw[OU.mp hc] at hr;exact⟨O.rim q hq k hr,Mz hr⟩
 ·refine GW O hf ω (y:=q) (by simp[ksC]) hT fun x hx u e=>?_
  rw[hk x hx] at e;obtain⟨h1,e1⟩:=B5.mp e;have:=(Pz h1 O.nd).mp (e.trans hT.symm);omega
 ·cases e:oo[u]? with
  |none=>rw[jQ (by simpa using e)];exact Pb _
  |some y=>
   rw[gS e];have f:y∉ksC (sb p [(q,1)]):=fun hy=>by
    obtain⟨c,hc,hr⟩:=GV hy;rw[OU.mp hc] at hr;have d:=(tM.mp (O.o T q hT)).2.2 y hr;obtain⟨j,b⟩:=OV.mp d;have g:j<T:=by
     have:=(B5.mp b).1;rw[AD] at this;omega
    rw[Pp g] at b;obtain⟨h1,_⟩:=B5.mp b;have:=(Pz h1 O.nd).mp (b.trans e.symm);omega
   rw[zW f];exact Pb _
def Wk.cyc(O:fm oo)(W:Wk p oo T q left fill):Bar.Z p (So oo (aZ oo left)):=
 W.wo.closed (Bar.p4 p oo tau) fun u=>by rw[show So oo (So oo (aZ oo fill)) u=0 from Bar.Mp (hdd O) _ _];exact Pb _
def MA(P:Bar.Pr p)(O:fm oo)(R:fG p oo T L)(W:Wk p oo T q left fill){t:Nat}(hy:Bar.Yg p (aZ oo left) t):∃x∈L,x.b=t:=by
 obtain⟨x,hx,e⟩:=Bar.Mi P (Bar.p4 p oo tau) R.rows W.wo.bl (W.cyc O) hy;obtain⟨y,hy,rfl⟩:=KK.mp hx;exact⟨y,hy,e⟩
def nt(R:fG p oo T L){x:cD}(hx:x∈L):Bar.Db p (So oo) T (gc oo x):=R.rows.ok _ (KK.mpr ⟨x,hx,rfl⟩)
def GY(R:fG p oo T L){x:cD}(hx:x∈L):∃y,oo[x.b]?=some y/\y∈ksC x.c:=Mv (nt R hx).yg
def MB(hp:0<p)(R:fG p oo T L)(W:Wk p oo T q left fill){x:cD}(hx:x∈L){e:Nat}(hd:x.d=some e){y:List Int}(hy:Bar.Yg p (aZ oo left) x.b)(ht:oo[x.b]?=some y)(i:y∈ksC left){k:Int}(hk:p ∣ k*aC x.c y-aC left y):Wk p oo T q (less p left k x.c) (less p fill k x.g)/\Bar.Bl p (aZ oo (less p left k x.c)) x.b:=by
 have o:=R.ok x hx;obtain⟨j,r⟩:=o.g e hd;have hsz:x.hi+2=q.length:=by
  obtain⟨w,h1,h2⟩:=GY R hx;rw[ht] at h1;cases h1;have a:=(o.ci y h2).2;have b:=(W.li y i).2;omega
 obtain⟨u,v⟩:=Bar.WO.step (Bar.p4 p oo tau) R.rows W.wo (x:=gc oo x) (d:=e) (KK.mpr ⟨x,hx,rfl⟩) hd hy (k:=k) (by show p ∣ k*aZ oo x.c x.b-aZ oo left x.b;rw[gS ht,gS ht];exact hk);refine⟨⟨GU hp,fun z hz=>?_,GU hp,fun z hz=>?_,Mu u (Dn W.l.nd o.c.nd) (Dn W.f.nd j.nd)⟩,Cg.bl (Dn W.l.nd o.c.nd) v⟩
 ·rcases less_key hz with h|h
  ·exact W.li z h
  ·obtain⟨a,b⟩:=o.ci z h
   exact⟨a,ω⟩
 ·rcases less_key hz with h|h
  ·exact W.fi z h
  ·obtain⟨a,b⟩:=r z h
   exact⟨a,ω⟩
def MC(O:fm oo)(R:fG p oo T L)(W:Wk p oo T q [] fill):fG p oo (T+1) (L++[⟨(q.length:Int)-1,T,none,fill,[]⟩]):=by
 refine⟨fun x hx=>?_,?_,?_⟩
 ·rcases OW.mp hx with hx|hx
  ·exact R.ok x hx
  ·rw[OU.mp hx]
   exact⟨W.f,fun k hk=>⟨(W.fi k hk).1,by have:=(W.fi k hk).2;show(k.length:Int)=(q.length:Int)-1+1;omega⟩,fun t e=>nomatch e⟩
 ·rw[Ao]
  refine Bar.Mj R.rows (z:=aZ oo fill) (g:=aZ oo []) W.wo.yg fun u=>?_;have h1:=W.wo.sm u;have h2:=Mw (p:=p) (oo:=oo) u;have:=PR h1 h2
  rwa [show So oo (aZ oo fill) u-aZ oo [] u+aZ oo [] u=So oo (aZ oo fill) u from ω] at this
 ·rw[Ao,List.pairwise_append]
  refine⟨R.srt,List.pairwise_singleton _ _,fun a ha b hb=>?_⟩;obtain⟨x,hx,rfl⟩:=KK.mp ha;rw[Aq,Rg,OU] at hb;have:=(nt R hx).born;rw[hb];exact this
def MD{a:cD}:(eX L a).map (·.b)=L.map (·.b):=by
 unfold eX;rw[Ak];refine Aw fun y _=>?_;show(if y.b=a.b then a else y).b=y.b
 by_cases e:y.b=a.b
 ·rw[RJ e];exact e.symm
 ·rw[RK e]
def ME(O:fm oo)(R:fG p oo T L)(W:Wk p oo T q left fill){x:cD}(hx:x∈L)(hd:x.d=none)(hy:Bar.Yg p (aZ oo left) x.b):fG p oo (T+1) (eX L ⟨(q.length:Int)-2,x.b,some T,left,fill⟩):=by
 refine⟨fun y hy=>?_,?_,?_⟩
 ·obtain⟨z,hz,rfl⟩:=KK.mp hy
  by_cases e:z.b=x.b
  ·rw[RJ e]
   refine⟨W.l,fun k hk=>⟨(W.li k hk).1,?_⟩,fun t _=>⟨W.f,fun k hk=>⟨(W.fi k hk).1,?_⟩⟩⟩
   ·have:=(W.li k hk).2
    show(k.length:Int)=(q.length:Int)-2+1;omega
   ·have:=(W.fi k hk).2
    show(k.length:Int)=(q.length:Int)-2+2;omega
  ·rw[RK e];exact R.ok z hz
 ·have e:(eX L ⟨(q.length:Int)-2,x.b,some T,left,fill⟩).map (gc oo)=Bar.kill (gc oo x).b T (aZ oo left) (aZ oo fill) (L.map (gc oo)):=by
   unfold eX Bar.kill;rw[Ak,Ak];refine Aw fun y _=>?_;show gc oo (if y.b=x.b then _ else y)=if y.b=x.b then _ else gc oo y
   by_cases e:y.b=x.b
   ·rw[RJ e,RJ e]
   ·rw[RK e,RK e]
  rw[e];exact Bar.Ml R.rows (KK.mpr ⟨x,hx,rfl⟩) hd hy (W.cyc O) W.wo.yg W.wo.sm
 ·rw[MD];exact R.srt
end
end K65
end
section
namespace L2
open PySem PySem.Spec PyProof.Rows
def Cl(P:Program)(w:World)(K:Ae)(mg:Str->Option Value)(base:Heap)(CX:eH)(x:Str)(ps:List Str)(k:Nat)(sp:Sp):Prop:=
 ∃(f:Addr)(fd:FuncData),QS K (.ref f)=true/\Binds K fd ps []/\mg x=some (.ref f)/\FnOk P w K mg base CX k f fd ps sp
section
variable{X:Cx}{CX:eH}{k n:Nat}{ps:List Str}{sp:Sp}{E:XK}{x:Str}{p pos:Pos}{e:Expr}{es:List Expr}{t:TA}
def zy(C:Cl X.prog X.w X.K X.mg X.base CX x ps k sp)(hr:Room n X.A)(b:Gl X x)(hx:dM CX X E)(ha:PA X (e::es) t)(c:k<=n:=by decide)(d:(x==("__debug__":Str))=false:=by decide)
  (he:starEach (e::es) X.env=(false,eval e X.env)::starEach es X.env:=by rfl) (a:(backTo pos (starEach es X.env)).any (·.1)=false:=by rfl):PE X (.Call (.Name x p) (e::es) [] pos) (kb sp [] E t):=by
 obtain⟨f,fd,hk,hb,hm,F⟩:=C;exact z0 F (hr.mono c) b hm hk hb .nil hx ha d he a
end
section
variable{P:Program}{w:World}{K:Ae}{mg:Str->Option Value}{base:Heap}{CX:eH}{k:Nat}{f:Addr}{fd:FuncData}{x:Str}{st:Stmt}{ps:List Str}{sp sq:Sp}
def FnOk.or(F:FnOk P w K mg base CX k f fd ps sp)(G:FnOk P w K mg base CX k f fd ps sq):FnOk P w K mg base CX k f fd ps (fun vs H Q E=>sp vs H Q E\/sq vs H Q E):=
 ⟨fun vs H Q E h=>h.elim (F.len vs H Q E) (G.len vs H Q E),fun A outer s H args us vs Q E hr he hb a h=>h.elim (F.run A outer s H args us vs Q E hr he hb a) (G.run A outer s H args us vs Q E hr he hb a)⟩
def cS(F:Fun K x x st f fd)(b:Binds K fd ps [])(m:mg x=some (.ref f))(G:FnOk P w K mg base CX k f fd ps sp):Cl P w K mg base CX x ps k sp:=⟨f,fd,F.kp,b,m,G⟩
structure Df(K:Ae)(x:Str)(st:Stmt)(f:Addr):Prop where
 ex:∃fd,Fun K x x st f fd
 a:Ri K mainGlobals x=some (some (.ref f))
def Do{h:Value}{i e:Option Addr}{g:Array (Option Value)}{kV b d cdv ct:Value}(a:Ri K mainGlobals x=some (some (.ref f)))(l:K.lookup f=some ⟨h,i,.func (Ql x x (zbU st) (zT st) (zh st) .none kV b d e cdv ct),g⟩)(c:Rk K cdv x=true)(k:QS K (.ref f)=true):Df K x st f:=⟨⟨_,JD l c k⟩,a⟩
structure Nn(K:Ae)(x:Str)(v:Option Value):Prop where
 e:Ri K mainGlobals x=some v
abbrev BA(x:Str)(st:Stmt)(us:List Value)(r:List (Str×Value)):Prop:=∀(kV bu pm:Value)(an:Option Addr)(cdv ct:Value),bindArgs (Ql x x (zbU st) (zT st) (zh st) .none kV bu pm an cdv ct) ⟨us,[]⟩=pure r
variable{h:Heap}(X:K.In h)(G:h.Ns mainGlobals mg)
include X G
theorem Nn.m{v:Value}(n:Nn K x (some v)):mg x=some v:=Qe X G n.e
theorem Nn.n(n:Nn K x none):mg x=none:=PySem.W.mg_none_of X G n.e
theorem Df.m(D:Df K x st f):mg x=some (.ref f):=Qe X G D.a
theorem Df.g1(D:Df K x st f)(p:Str)(hb:∀a,BA x st [a] [(p,a)]:=by exact fun _ _ _ _ _ _ _=>rfl):∃fd,Fun K x x st f fd/\Binds K fd [p] []/\mg x=some (.ref f):=by
 obtain⟨⟨fd,F⟩,a⟩:=D;refine⟨fd,F,F.binds fun _ _ _ _ _ _ us b=>?_,Qe X G a⟩
 match us,b with
 |[a],_=>exact hb a _ _ _ _ _ _
theorem Df.g2(D:Df K x st f)(p q:Str)(hb:∀a b,BA x st [a,b] [(p,a),(q,b)]:=by exact fun _ _ _ _ _ _ _ _=>rfl):∃fd,Fun K x x st f fd/\Binds K fd [p,q] []/\mg x=some (.ref f):=by
 obtain⟨⟨fd,F⟩,a⟩:=D;refine⟨fd,F,F.binds fun _ _ _ _ _ _ us c=>?_,Qe X G a⟩
 match us,c with
 |[a,b],_=>exact hb a b _ _ _ _ _ _
theorem Df.g3(D:Df K x st f)(p q r:Str)(hb:∀a b c,BA x st [a,b,c] [(p,a),(q,b),(r,c)]:=by exact fun _ _ _ _ _ _ _ _ _=>rfl):∃fd,Fun K x x st f fd/\Binds K fd [p,q,r] []/\mg x=some (.ref f):=by
 obtain⟨⟨fd,F⟩,a⟩:=D;refine⟨fd,F,F.binds fun _ _ _ _ _ _ us d=>?_,Qe X G a⟩
 match us,d with
 |[a,b,c],_=>exact hb a b c _ _ _ _ _ _
theorem Df.g4(D:Df K x st f)(p q r s:Str)(hb:∀a b c d,BA x st [a,b,c,d] [(p,a),(q,b),(r,c),(s,d)]:=by exact fun _ _ _ _ _ _ _ _ _ _=>rfl):∃fd,Fun K x x st f fd/\Binds K fd [p,q,r,s] []/\mg x=some (.ref f):=by
 obtain⟨⟨fd,F⟩,a⟩:=D;refine⟨fd,F,F.binds fun _ _ _ _ _ _ us e=>?_,Qe X G a⟩
 match us,e with
 |[a,b,c,d],_=>exact hb a b c d _ _ _ _ _ _
theorem Df.g5(D:Df K x st f)(p q r s u:Str)(hb:∀a b c d e,BA x st [a,b,c,d,e] [(p,a),(q,b),(r,c),(s,d),(u,e)]:=by exact fun _ _ _ _ _ _ _ _ _ _ _=>rfl):∃fd,Fun K x x st f fd/\Binds K fd [p,q,r,s,u] []/\mg x=some (.ref f):=by
 obtain⟨⟨fd,F⟩,a⟩:=D;refine⟨fd,F,F.binds fun _ _ _ _ _ _ us g=>?_,Qe X G a⟩
 match us,g with
 |[a,b,c,d,e],_=>exact hb a b c d e _ _ _ _ _ _
omit X G
end
def zcy(H:Hp)(c:Addr)(b:Str):Prop:=∃a vs t,H c=some (.frz a (.own 0))/\a.data=.fields vs/\vs[1]?=some (.str b t)
def Tab(H:Hp)(P:Addr)(pos:Pos)(a:Str):Prop:=
 H P=some (.tbl #[])\/∃c',H P=some (.tbl #[rawInt pos.line,rawInt pos.col,.ref c'])/\zcy H c' a
def zaJ(H H':Hp):Prop:=∀b o,(∀ps,o≠HO.tbl ps)->H b=some o->H' b=some o
def zaJ.refl(H:Hp):zaJ H H:=fun _ _ _ h=>h
def zaJ.trans{H H1 H2:Hp}(a:zaJ H H1)(b:zaJ H1 H2):zaJ H H2:=fun c o n h=>b c o n (a c o n h)
def Same.toN{H H':Hp}(a:Same H H'):zaJ H H':=fun c o _ h=>a c o h
def zcy.same{H H':Hp}{c:Addr}{q:Str}(x:zcy H c q)(a:zaJ H H'):zcy H' c q:=
 let ⟨oc,vs,t,e,r⟩:=x;⟨oc,vs,t,a _ _ (fun _ z=>nomatch z) e,r⟩
def Tab.same{H H':Hp}{P:Addr}{pos:Pos}{q:Str}(x:Tab H P pos q)(a:Same H H'):Tab H' P pos q:=by
 rcases x with e|⟨c,e,k⟩
 ·exact .inl (a _ _ e)
 ·exact .inr ⟨c,a _ _ e,k.same a.toN⟩
def Tab.keep{H H':Hp}{P:Addr}{pos:Pos}{q:Str}(x:Tab H P pos q)(a:zaJ H H')(k:∀ps,H P=some (.tbl ps)->H' P=some (.tbl ps)):Tab H' P pos q:=by
 rcases x with e|⟨c,e,b⟩
 ·exact .inl (k _ e)
 ·exact .inr ⟨c,k _ e,b.same a⟩
def zgC(H:Hp)(f:Addr)(a:Str)(args:Arguments)(body:Expr)(sc:Scope)(y:Str)(cc:Addr):Prop:=
 ∃b c' c,H f=some (.frz (Re "<lambda>" a args body sc [(y,cc)] b c' c) (.own 0))/\zcy H c' a
def zgC.same{H H':Hp}{f:Addr}{b:Str}{args:Arguments}{body:Expr}{sc:Scope}{y:Str}{cc:Addr}(x:zgC H f b args body sc y cc)(a:zaJ H H'):zgC H' f b args body sc y cc:=
 let ⟨pm,c',bM,e,k⟩:=x;⟨pm,c',bM,a _ _ (fun _ z=>nomatch z) e,k.same a⟩
section
variable{X:Cx}{aa:Ψ}{σ:St}{H:Hp}{s:Shared}
def Inv.codeRec{c:Addr}{q:Str}(I:Inv X aa σ H s)(x:zcy H c q):s.heap.CodeRec (.ref c) q:=by
 obtain⟨a,vs,t,e,e1,e2⟩:=x;exact⟨c,a,vs,t,rfl,(I.hok _ _ e).1,e1,e2⟩
def uo(X:Cx)(A:Around)(s:Shared)(H:Hp)(f:Addr)(a:Str)(sc:Scope)(p y:Str)(cc c':Addr):Cx where
 prog:=X.prog
 w:=X.w
 K:=X.K
 mg:=X.mg
 base:=X.base
 A:=A.deeper (Rj a sc s⁻¹ f (.ref c') [(y,cc)])
 N:=[p,y]
 s₀:=s
 H₀:=H
 env:=Rj a sc s⁻¹ f (.ref c') [(y,cc)]
 outer:=X.stack
 stack:=Rj a sc s⁻¹ f (.ref c') [(y,cc)]::X.stack
 ex:=[]
 calm:=X.calm
 fn:=fun _=>false
 pn:=[]
 xe:=fun _ _=>False
structure GZ(p y:Str)(sc:Scope):Prop where
 kind:sc.kind=.function
 co:sc.isCoroutine=false
 gen:sc.isGenerator=false
 loc:sc.names.lookup p=some .local
 fre:sc.names.lookup y=some .free
 nocell:∀x∈sc.names,x.2≠.cell
 only:∀x,sc.names.lookup x=some .free->x=y
def MF{A:Around}{f:Addr}{C:Str}{args:Arguments}{body:Expr}{sc:Scope}{p y:Str}{cc:Addr}{iy:Nat}{va vy:V}{u:Value}{te:TE}{Q:VK}(I:Inv X aa σ H s)(g:Env0 X.prog X.w X.K X.mg X.base A X.stack s H)(hA:A.handled=X.A.handled)(hd:A.depth<recursionLimit)(L:zgC H f C args body sc y cc)(S:GZ p y sc)(hc:X.env.cells.lookup y=some cc)(hN:X.N[iy]?=some y)(lO:σ[iy]?=some (some vy))(T:X.env.kindOf y=some .cell\/X.env.kindOf y=some .free)(hb:∀M c' O,bindArgs (Q0 "<lambda>" C args body sc [(y,cc)] M (.ref c') O) ⟨[u],[]⟩=pure [(p,u)])(hu:RelV va u)(a9:∀c',PE (uo X A s H f C sc p y cc c') body te)(h:te [some va,some vy] H Q):codeAny (model X.prog X.w) A (.call (.ref f) ⟨[u],[]⟩) (fun r s'=>∃v,r=.ok (.ret v)/\CE X.stack X.prog X.w H s Q v s') s:=by
 obtain⟨M,c',O,ef,ec⟩:=L;have hf:=(I.hok _ _ ef).1;have bz:=I.codeRec ec;obtain⟨m,hm,hl⟩:=I.loc;obtain⟨P,ry,ly⟩:=hl iy y vy hN lO (T.elim (fun z=>.inr (.inl z)) fun z=>.inr (.inr z));have am:s.heap.IsCell cc (some P):=by
  rcases ly with ⟨k,_⟩|⟨_,c,e1,e2⟩
  ·rcases T with z|z<;>(rw[k] at z;cases z)
  ·rw[hc] at e1;cases e1;exact e2
 have j:H cc=none:=I.freeC y cc hc;refine PySem.W.kla_callFunE hd hf rfl S.co S.gen rfl bz ?_;rw[hb M c' O];refine Ac (wpAny_newFunctionEnv S.nocell (fun x hx=>by rw[OU.mp hx];exact S.loc) (fun G U Y=>?_) S.kind);have E:∀b o,s.heap.get? b=some o->G.get? b=some o:=fun b o e=>Y.extBut b o (Au (Ar e)) (Ad _ e);refine⟨I.nolimit.keeps E,?_⟩;show codeAny _ _ (.expr body (Rj C sc s⁻¹ f (.ref c') [(y,cc)])) _ _;have F:∀x c,(Rj C sc s⁻¹ f (.ref c') [(y,cc)]).cells.lookup x=some c->x=y/\c=cc:=fun x c e=>by
  have e':([(y,cc)]:List (Str×Addr)).lookup x=some c:=e;rw[AR] at e';cases hx:x==y with
  |true=>rw[hx] at e';cases e';exact⟨eq_of_beq hx,rfl⟩
  |false=>rw[hx] at e';cases e'
 have D:([(y,cc)]:List (Str×Addr)).lookup y=some cc:=by rw[AR,beq_self_eq_true]
 have d:G.IsCell cc (some P):=by
  obtain⟨o,e1,e2⟩:=am;exact⟨o,E _ _ e1,e2⟩
 have J:Inv (uo X A s H f C sc p y cc c') [] [some va,some vy] H {s with heap:=G,toks:=s.toks+[(p,u)].length}:=by
  have l:∀b:Addr,b∉(uo X A s H f C sc p y cc c').ex:=fun b z=>absurd (show b∈([]:List Addr) from z) (by simp);refine⟨⟨g.mod,S.kind,rfl,rfl,Ag _,fun a b c h1 h2=>?_,fun x hx=>?_,fun x c h _=>(by cases h),fun hc=>?_,Around.frames_deeper g.frames,.inr ⟨rfl,rfl⟩,fun b z=>absurd z (l b),g.bs,g.bsz,fun b _ _=>l b,fun b z=>absurd z (l b),g.funs,g.frf⟩,
   rfl,g.bare,Un.kept E,⟨_,U,fun i x v h1 h2 h3=>?_⟩,fun x c h=>?_,g.hok.fresh (Ag _),fun x c h=>?_,fun p hp=>absurd (show p∈([]:Ψ) from hp) (by simp),g.hok.kept E,rfl⟩
  ·exact(F _ _ h1).1.trans (F _ _ h2).1.symm
  ·rcases hx with hx|hx
   ·exact absurd rfl (S.nocell _ (A5 (show sc.names.lookup x=some .cell from hx)))
   ·obtain rfl:=S.only x hx
    exact⟨cc,D⟩
  ·exact hA.trans (I.ok.hd hc)
  ·match i,h1,h2 with
   |0,h1,h2=>
    obtain rfl:=Ah h1;obtain rfl:=Ah (Ah h2);exact⟨u,hu,.inl ⟨S.loc,by simp⟩⟩
   |1,h1,h2=>
    obtain rfl:=Ah h1;obtain rfl:=Ah (Ah h2);exact⟨P,ry,.inr ⟨.inr S.fre,cc,D,d⟩⟩
   |i+2,h1,h2=>exact nomatch (show(none:Option Str)=some x from h1)
  ·obtain⟨rfl,rfl⟩:=F _ _ h
   exact⟨_,d⟩
  ·obtain⟨rfl,rfl⟩:=F _ _ h
   exact j
 refine PySem.W.kla_codeExpr (wpAny_mono (a9 c' [] _ _ H Q J h) (fun v s' hs=>?_) fun _ _ z=>False.elim z);obtain⟨v',H',J',rv,q⟩:=hs;exact⟨v,rfl,v',H',J'.os,J'.bare,J'.base,J'.hok,rv,q⟩
end
def BM(mg:Str->Option Value)(base:Heap):Prop:=∃bm o,mg "__builtins__"=some (.ref bm)/\bm≠builtinsNs/\bm≠mainGlobals/\base.get? bm=some o/\o.cls=.type "module"/\o.dict=some builtinsNs/\o.data=.plain
def Dp(P:Addr)(a:Str)(args:Arguments)(body:Expr)(sc:Scope)(pos:Pos)(y:Str)(cc:Addr):TE:=fun _ H Q=>Tab H P pos a/\∀f H',zaJ H H'->(∀b ps,b≠P->H b=some (.tbl ps)->H' b=some (.tbl ps))->Tab H' P pos a->zgC H' f a args body sc y cc->Q (.ref f) H'
section
variable{X:Cx}{aa:Ψ}{σ:St}{H:Hp}{s:Shared}
def MG{ps:Array Value}{P c':Addr}{j fo:Obj}{h':Heap}{tk:Nat}{more:Array Value}(I:Inv X aa σ H s)(f:H P=some (.tbl ps))(hx:Heap.ExtBut P s.heap h')(g:s⁻¹<=c')(h:c'<h'.objs.size)(q:h'.get? c'=some j)(r:h'.get? P=some (Q1 (ps++more)))(w:fo.isFreed=false):Inv X aa σ (upd (upd (upd H P (.tbl (ps++more))) c' (.frz j (.own 0))) h'.objs.size (.frz fo (.own 0))) {s with heap:=h'.push fo,toks:=tk}:=by
 have i:∀b o,b≠P->s.heap.get? b=some o->(h'.push fo).get? b=some o:=fun b o n e=>Ad _ (hx b o n e);have F:P<s⁻¹:=I.hok.lt f;have p:∀{b o},s.heap.get? b=some o->b≠c'/\b≠h'.objs.size:=fun e=>⟨Au (Ax (Ar e) g),Au (Qv (Ax (Ar e) g) h)⟩;have c:∀{b o},H b=some o->b≠c'/\b≠h'.objs.size:=fun e=>⟨Au (Ax (I.hok.lt e) g),Au (Qv (Ax (I.hok.lt e) g) h)⟩;have l:∀{b},H b=none->b≠P:=fun n z=>by rw[z,f] at n;cases n
 have a:∀{b},b≠P->b≠c'->b≠h'.objs.size->(upd (upd (upd H P (.tbl (ps++more))) c' (.frz j (.own 0))) h'.objs.size (.frz fo (.own 0))) b=H b:=fun n1 n2 y=>by rw[ae y,ae n2,ae n1]
 have A:c'≠h'.objs.size:=Au h;have C:P≠c':=(c f).1;have D:P≠h'.objs.size:=(c f).2;refine I.call' (ch:=[]) rfl ⟨fun b o e n _ _=>i b o (l n) e,fun b o e n _ _=>⟨o.slots,i b o (l n) e⟩,fun b o e n _=>?_,fun b o e _=>?_,fun b xs e=>?_,fun b o u e=>?_,fun b E e=>?_⟩ (fun b u e=>?_) I.bare (fun b z=>nomatch z)
 ·rw[a (l n) (p e).1 (p e).2];exact n
 ·by_cases hb:b=P
  ·subst hb;exact⟨_,Ad _ r⟩
  ·exact⟨o,i b o hb e⟩
 ·rw[a (fun z=>by rw[z,f] at e;cases e) (c e).1 (c e).2];exact e
 ·rw[a (fun z=>by rw[z,f] at e;cases e) (c e).1 (c e).2];exact e
 ·by_cases hb:b=P
  ·subst hb
   rw[f] at e;cases e;exact⟨more,by rw[ae D,ae C,ac]⟩
  ·exact⟨#[],by rw[a hb (c e).1 (c e).2,e];simp⟩
 ·by_cases x:b=h'.objs.size
  ·subst x
   rw[ac] at e;cases e;exact⟨Al _ w,fo,Al _ w⟩
  ·rw[ae x] at e
   by_cases h2:b=c'
   ·subst h2
    rw[ac] at e;cases e;exact⟨Ad _ q,j,Ad _ q⟩
   ·rw[ae h2] at e
    by_cases h1:b=P
    ·subst h1
     rw[ac] at e;cases e;exact Ad _ r
    ·rw[ae h1] at e
     refine(I.hok b u e).stay (fun d v hd e'=>i d v ?_ e') (fun d e'=>?_) fun d xs e'=>?_
     ·rcases hd with rfl|hd
      ·exact h1
      ·exact fun z=>by rw[z,f] at hd;cases hd
     ·rw[a (fun z=>by rw[z,f] at e';cases e') (c e').1 (c e').2];exact e'
     ·rw[a (fun z=>by rw[z,f] at e';cases e') (c e').1 (c e').2];exact e'
def MH{P c cc:Addr}{args:Arguments}{body:Expr}{sc:Scope}{pos:Pos}{y:Str}(hC:PySem.W.CodeHd X.base c P)(A:X.env.code=.ref c)(ii:BM X.mg X.base)(q:closureFor sc X.env=pure [(y,cc)])(ie:defaultsOf args X.env=([],[]):=by rfl):PE X (.Lambda args body sc pos) (Dp P (X.env.qual++"<lambda>") args body sc pos y cc):=by
 intro aa s σ H Q I ⟨ht,h⟩;refine PySem.W.kla_eval ie ?_;have v:s.heap.Ns mainGlobals X.mg:=I.ok.mod.glob.keeps I.bk;have C:=hC.keeps I.bk;obtain⟨bm,ob,F,G,L,u,M,N,O⟩:=ii;have w:∀{j},H P=some (.tbl j)->s.heap.BuiltinsAt X.mg P:=fun{j} a=>⟨bm,ob,F,G,L,(fun z=>by have e:=(I.bs _ _ u).2;rw[z,a] at e;cases e),I.bk _ _ u,M,N,O⟩;have x:∀{j},H P=some (.tbl j)->s.heap.get? P=some (Q1 j):=fun a=>I.hok _ _ a;have U:∀{j},H P=some (.tbl j)->mainGlobals≠P:=fun{j} a z=>by
  obtain⟨o,es,ep,e,d,_⟩:=I.ok.mod.glob;have e':=(I.bs _ _ e).2;rw[z,a] at e';cases e'
 rcases ht with a|⟨c',a,hc'⟩
 ·refine PySem.W.kla_makeFunction q I.ok.glob v A C (x a) trivial rfl (U a) (w a) fun c' g h' tk hx f i D E=>?_
  obtain⟨x_,r,vs,t,e2,S,hd,T⟩:=D;cases e2;have Y:P≠c':=Au (Ax (I.hok.lt a) f);have mi:P≠h'.objs.size:=Au (Qv (Ax (I.hok.lt a) f) i);have vI:c'≠h'.objs.size:=Au i;have J:=MG (tk:=tk) (fo:=Re "<lambda>" (X.env.qual++"<lambda>") args body sc [(y,cc)] ((X.mg "__name__").getD .none) c' g) I a hx f i S E rfl;have sm:∀b o,b≠P->H b=some o->(upd (upd (upd H P (.tbl (#[]++#[rawInt pos.line,rawInt pos.col,.ref c']))) c' (.frz r (.own 0))) h'.objs.size (.frz (Re "<lambda>" (X.env.qual++"<lambda>") args body sc [(y,cc)] ((X.mg "__name__").getD .none) c' g) (.own 0))) b=some o:=fun b o n e=>by
   have l:=I.hok.lt e;rw[ae (Au (Qv (Ax l f) i)),ae (Au (Ax l f)),ae n];exact e
  have p:zcy (upd (upd (upd H P (.tbl (#[]++#[rawInt pos.line,rawInt pos.col,.ref c']))) c' (.frz r (.own 0))) h'.objs.size (.frz (Re "<lambda>" (X.env.qual++"<lambda>") args body sc [(y,cc)] ((X.mg "__name__").getD .none) c' g) (.own 0))) c' (X.env.qual++"<lambda>"):=⟨r,vs,t,by rw[ae vI,ac],hd,T⟩;refine⟨.ref h'.objs.size,_,J,rfl,h _ _ (fun b o n e=>sm b o (fun z=>by rw[z,a] at e;cases e;exact n _ rfl) e) (fun b ps n e=>sm b _ n e) (.inr ⟨c',by rw[ae mi,ae Y,ac];simp,p⟩) ⟨_,c',g,ac,p⟩⟩
 ·have hf:codeAmong pos (#[rawInt pos.line,rawInt pos.col,.ref c']:Array Value).toList=some (.ref c'):=by simp[codeAmong,rawInt]
  refine PySem.W.kla_makeFunctionHit q I.ok.glob v A C (x a) trivial hf (w a) fun g h' tk hk hsz=>?_;have J:Inv X aa σ (upd H h'.objs.size (.frz {cls:=.type "function",data:=.func (Q0 "<lambda>" (X.env.qual++"<lambda>") args body sc [(y,cc)] ((X.mg "__name__").getD .none) (.ref c') g)} (.own 0))) {s with heap:=h'.push {cls:=.type "function",data:=.func (Q0 "<lambda>" (X.env.qual++"<lambda>") args body sc [(y,cc)] ((X.mg "__name__").getD .none) (.ref c') g)},toks:=tk}:=
   I.laid (fun b o e=>Ad _ (hk b o e)) hsz ⟨Al _ rfl,_,Al _ rfl⟩
  have hn:H h'.objs.size=none:=I.hok.fresh hsz;have sm:=Same.new (o:=HO.frz {cls:=.type "function",data:=.func (Q0 "<lambda>" (X.env.qual++"<lambda>") args body sc [(y,cc)] ((X.mg "__name__").getD .none) (.ref c') g)} (.own 0)) hn;exact⟨.ref h'.objs.size,_,J,rfl,h _ _ sm.toN (fun b ps _ e=>sm b _ e) (Tab.same (.inr ⟨c',a,hc'⟩) sm) ⟨_,c',g,ac,hc'.same sm.toN⟩⟩
end
def MI{P:Program}{w:World}{K:Ae}{mg L:Str->Option Value}{CX:eH}{k:Nat}{fa a:Addr}{fd:FuncData}{x:Str}{sp:Sp}{c:Shared}{vs:List Value}{ns:List Int}{tabs:List (Addr×Addr)}(N:K.In c.heap)(M:c.heap.Ns mainGlobals mg)(hb:c.heap.Ns builtinsNs L)(me:∀x:Str,x≠"__name__"->L x=AU x)(f_:c.heap.NoLimit)(hg:c.gens=#[])(ii:∃bm ob,mg "__builtins__"=some (.ref bm)/\bm≠builtinsNs/\c.heap.get? bm=some ob/\ob.cls=.type "module"/\ob.dict=some builtinsNs/\ob.data=.plain)(hT:PySem.W.TabsAt tabs c.heap)(ka:RH K=true)(ha:c.heap.get? a=some {cls:=.type "list",data:=.seq vs.toArray})(hi:IntsAre vs ns)(hl:ns.length<=sizeLine)(hr:Room k callerA)(F:∀base:Heap,K.In base->base.Ns mainGlobals mg->BM mg base->PySem.W.CodeAll tabs base->FnOk P w K mg base CX k fa fd [x] sp)(dG:∀(s:Shared)(u:Value),BindsTo s fd ⟨[u],[]⟩ [(x,u)])(cF:∀H:Hp,SqL K H a (ns.map V.int)->(∀q∈tabs,H q.2=some (.tbl #[]))->sp [.ref a] H (fun v _=>v=.bl true) fun _ _ _=>False)(hG:∀H e s',CX [] H c (fun _ _ _=>False) e s'->False):codeAny (model P w) callerA (.call (.ref fa) ⟨[.ref a],[]⟩) (fun r s'=>r=.ok (.ret (.bool true))/\OldK c.heap s'.heap/\s'.os=c.os/\AllBare s'.gens) c:=by
 have U:=Bj hi;have ij:=hi.length;have A:∀{b},b∈tabs.map (·.2)->c.heap.get? b=some (Q1 #[]):=fun hb=>by
  obtain⟨q,hq,rfl⟩:=KK.mp hb;exact(hT q hq).2
 have X:a∉tabs.map (·.2):=fun z=>by
  have e:=A z;rw[ha] at e;cases e
 have KT:∀{b},b∈tabs.map (·.2)->K.lookup b=none:=fun{b} hb=>by
  cases e:K.lookup b with
  |none=>rfl
  |some o=>
   have e1:=N b o e;rw[A hb] at e1;have h2:=OX.mp ka (b,o) (PySem.W.mem_of_lookupK e);obtain rfl:=Ah e1;exact absurd (show false=true from h2) An
 have j:∀H:Hp,(∀b,b∉tabs.map (·.2)->H b=none\/∃o xs,H b=some (.frz o (.lst xs)))->(∀b,b∈tabs.map (·.2)->H b=some (.tbl #[]))->SqL K H a (ns.map V.int)->HOk P w H c.heap->(∀b,H b≠none->b=a\/b∈tabs.map (·.2))->(H a≠none->K.lookup a=none)->
   codeAny (model P w) callerA (.call (.ref fa) ⟨[.ref a],[]⟩) (fun r s'=>r=.ok (.ret (.bool true))/\OldK c.heap s'.heap/\s'.os=c.os/\AllBare s'.gens) c:=by
  intro H hO O hS C Q hK;have G:∀{b:Addr}{o:Obj},c.heap.get? b=some o->H b=none->(cq c.heap H).get? b=some o:=fun e n=>D_ e n;have p:∀{b:Addr}{o:Obj},c.heap.get? b=some o->(∀xs n,o.data≠.seq xs n)->o≠Q1 #[]->H b=none:=fun{b o} e d d2=>by
   cases q:H b with
   |none=>rfl
   |some u=>
    rcases Q b (by rw[q];simp) with e'|e'
    ·subst e'
     rw[ha] at e;cases e;exact absurd rfl (d _ _)
    ·rw[A e'] at e;cases e
     exact absurd rfl d2
  have f:∀{b:Addr}{m:Str->Option Value},c.heap.Ns b m->(cq c.heap H).Ns b m:=fun{b m} ⟨o,es,ep,e,d,r⟩=>⟨o,es,ep,G e (p e (fun _ _ z=>by rw[d] at z;cases z) fun z=>by rw[z] at d;cases d),d,r⟩;have Y:K.In (cq c.heap H):=fun b o e=>G (N b o e) (by
   cases q:H b with
   |none=>rfl
   |some u=>
    rcases Q b (by rw[q];simp) with e'|e'
    ·subst e'
     rw[hK (by rw[q];simp)] at e;cases e
    ·rw[KT e'] at e;cases e)
  have hM:Mod K mg (cq c.heap H):=⟨Y,f M,⟨L,f hb,me⟩,let ⟨mc,h1,h2⟩:=f_;⟨mc,f h1,h2⟩⟩;have e0:Env0 P w K mg (cq c.heap H) callerA [] c H:=⟨rfl,hM,fun b o e=>Ea e,Nat.le_of_eq (D8 _ _),trivial,fun b hb=>absurd (show b∈([]:List Addr) from hb) (by simp),C,.of_eq hg⟩;obtain⟨bm,ob,b1,b2,E,b4,b5,y⟩:=ii;have xn:bm≠mainGlobals:=fun q=>by
   obtain⟨o,es,ep,e,hd,_⟩:=M;rw[q,e] at E;cases E;rw[hd] at y;cases y
  have J:BM mg (cq c.heap H):=⟨bm,ob,b1,b2,xn,G E (p E (fun _ _ z=>by rw[y] at z;cases z) fun z=>by rw[z] at y;cases y),b4,b5,y⟩;have oA:PySem.W.CodeAll tabs (cq c.heap H):=.of fun q hq=>by
   obtain⟨o,vD,mI,tf,i0,tg,yw,text,tt,e1,I,S,r⟩:=(hT q hq).1;exact⟨o,vD,mI,tf,i0,tg,yw,text,tt,G e1 (p e1 (fun _ _ z=>by rw[S] at z;cases z) fun z=>by rw[z] at I;cases I),I,S,r⟩
  refine codeAny_mono ((F _ Y (f M) J oA).run callerA [] c H ⟨[.ref a],[]⟩ [.ref a] [.ref a] _ _ hr e0 (dG c (.ref a)) (.cons rfl .nil) (cF H hS fun q hq=>O _ (QE hq))) fun r s' h=>?_;cases r with
  |error e=>exact(hG H e s' h).elim
  |ok fl=>
   cases fl with
   |next=>exact False.elim h
   |brk=>exact False.elim h
   |cont=>exact False.elim h
   |ret u=>
    obtain⟨v,H',os,D,un,T,r',q⟩:=h;have q':v=.bl true:=q;subst q';obtain rfl:u=Value.bool true:=r';have keep:∀b o,b∉tabs.map (·.2)->c.heap.get? b=some o->s'.heap.get? b=some o:=fun b o hb e=>by
     cases q:H b with
     |none=>exact un.keep b o e q (by intro z;exact absurd (show b∈([]:List Addr) from z) (by simp)) (by simp)
     |some u=>
      rcases hO b hb with z|⟨ob,xs,z⟩
      ·rw[q] at z;cases z
      ·have z2:=un.frzs b ob _ z
       obtain⟨e1,_⟩:=C b _ z;obtain⟨e2,_⟩:=T b _ z2;rw[e] at e1;cases e1;exact e2
    have l:∀b,b∈tabs.map (·.2)->∃more,s'.heap.get? b=some (Q1 more):=fun b hb=>by
     obtain⟨more,e⟩:=un.tbls b _ (O b hb);exact⟨#[]++more,T b _ e⟩
    refine⟨rfl,⟨fun b o e=>?_,fun b o e=>?_⟩,os,D⟩
    ·by_cases hb:b∈tabs.map (·.2)
     ·obtain⟨more,e2⟩:=l b hb
      have e1:=A hb;rw[e] at e1;cases e1;obtain⟨q,hq,rfl⟩:=KK.mp hb;exact .inr (.inl ⟨((hT q hq).1.tab (hT q hq).2).isCodeTable,rfl,#[],more,rfl,by simpa using e2⟩)
     ·exact .inl (keep b o hb e)
    ·by_cases hb:b∈tabs.map (·.2)
     ·obtain⟨more,e2⟩:=l b hb
      exact⟨_,e2⟩
     ·exact⟨o,keep b o hb e⟩
 cases hk:K.lookup a with
 |some o=>
  have e:=N a o hk;rw[ha] at e;cases e;refine j (fun b=>if b∈tabs.map (·.2) then some (.tbl #[]) else none) (fun b hb=>.inl (RK hb)) (fun b hb=>RJ hb) (.inr ⟨_,vs.toArray,_,hk,rfl,rfl,rfl,by rw[Am,ij];exact hl,by simpa using U⟩) (fun b u z=>?_) (fun b z=>?_) fun z=>absurd (RK X) z
  ·by_cases hb:b∈tabs.map (·.2)
   ·have g:=(RJ hb).symm.trans z
    cases g;exact A hb
   ·have g:=(RK hb).symm.trans z
    cases g
  ·by_cases hb:b∈tabs.map (·.2)
   ·exact .inr hb
   ·exact absurd (RK hb) z
 |none=>
  refine j (fun b=>if b∈tabs.map (·.2) then some (.tbl #[]) else if b=a then some (.frz {cls:=.type "list",data:=.seq vs.toArray} (.lst (ns.map V.int))) else none) (fun b hb=>?_) (fun b hb=>RJ hb) (.inl (.inr ⟨{cls:=.type "list",data:=.seq vs.toArray},(RK X).trans (RJ rfl)⟩)) (fun b u z=>?_) (fun b z=>?_) fun _=>hk
  ·by_cases i:b=a
   ·exact .inr ⟨_,_,(RK hb).trans (RJ i)⟩
   ·exact .inl ((RK hb).trans (RK i))
  ·by_cases hb:b∈tabs.map (·.2)
   ·have g:=(RJ hb).symm.trans z
    cases g;exact A hb
   ·by_cases i:b=a
    ·have g:=((RK hb).trans (RJ i)).symm.trans z
     cases g;subst i;exact⟨ha,by rw[Ab];exact hl,vs,_,U,ha⟩
    ·have g:=((RK hb).trans (RK i)).symm.trans z
     cases g
  ·by_cases hb:b∈tabs.map (·.2)
   ·exact .inr hb
   ·by_cases i:b=a
    ·exact .inl i
    ·exact absurd ((RK hb).trans (RK i)) z
def MJ{l:PySem.W.OpenLaw}{n k:Nat}{q:Program}{N:List Str}{XP:(Str->Option Value)->Heap->Prop}{r:World->Heap->Prop}{d:DefRec}{K:Params->Ae}{CX:eH}{sp:World->Sp}{x:Str}{tabs:List (Addr×Addr)}{xs:List Str}(O:l.most=some n)(P:n<=sizeLine)(Q:d.params.defaults=[])(hr:Room k callerA)(S:∀(w:World)(h:Heap),r w h->(K w.params).In h)(U:∀p,RH (K p)=true)(hx:∀p,xs.map (P4 (K p))=tabs.map some)(X:∀x∈xs,((recsOf q).find? (fun e=>e.name==x)).isSome=true)(F:∀(w:World)(mg:Str->Option Value)(fa:Addr)(h:Heap),(K w.params).In h->h.Ns mainGlobals mg->mg d.name=some (.ref fa)->
   ∃fd:FuncData,(∀(s:Shared)(u:Value),BindsTo s fd ⟨[u],[]⟩ [(x,u)])/\
    ∀base:Heap,(K w.params).In base->base.Ns mainGlobals mg->BM mg base->PySem.W.CodeAll tabs base->FnOk l.prog w (K w.params) mg base CX k fa fd [x] (sp w))
  (cF:∀(w:World)(H:Hp)(a:Addr)(ns:List Int),ns.length<=n->SqL (K w.params) H a (ns.map V.int)->(∀q∈tabs,H q.2=some (.tbl #[]))->sp w [.ref a] H (fun v _=>v=.bl true) fun _ _ _=>False)
  (hG:∀(H:Hp)(s:Shared)(e:Value)(s':Shared),CX [] H s (fun _ _ _=>False) e s'->False) :
  PySem.W.WalkO q N XP r l.row.toRowW d [] (fun f vs=>PySem.call f vs):=by
 refine Att.EU O Q fun w s₀ j mg mb fa o pm cd bu a vs ns G Y ho hd bz A C D c E=>?_;have i:=S w _ Y;obtain⟨fd,hb,L⟩:=F w mg fa _ i G.T.g A;have hT:PySem.W.TabsAt tabs j.heap:=fun t ht=>by
  have h1:some t∈xs.map (P4 (K w.params)):=by rw[hx];exact QE ht
  obtain⟨y,hy,e⟩:=KK.mp h1;obtain⟨dr,M⟩:=Po.mp (X y hy);exact PySem.W.tab_of G.T i M e
 exact MI i G.T.g G.T.b G.T.builtins G.T.nolimit E G.T.bmain hT (U _) C D (AC c P) hr L hb (fun H I J=>cF w H a ns c I J) fun H e s'=>hG H j e s'
section
variable{X:Cx}{aa:Ψ}{σ:St}{H:Hp}{s:Shared}
def MK{f l S I:Addr}{as:List Addr}{ns:List Int}{R:Result->Shared->Prop}(hh:X.A.handled=none)(hl:SqL X.K H l (as.map V.ref))(aE:ns.length=as.length)(Q:bA X aa H S)(p:bA X aa H I)(E:S≠I)(lw:l≠I)(run:∀s',Inv X aa σ H s'->∀(j:Nat) a n,as[j]?=some a->ns[j]?=some n->codeAny (model X.prog X.w) X.A.in1 (.call (.ref f) ⟨[.ref a],[]⟩) (fun r x=>∃v,r=.ok (.ret v)/\CE X.stack X.prog X.w H s' (fun v H'=>v=.int n/\H'=H) v x) s')(hR:∀(j:Nat) a n s',Inv X aa σ H s'->as[j]?=some a->ns[j]?=some n->(∀m∈ns,m<=n)->R (.ok (.ret (.ref a))) s'):∀(r j i:Nat)(s':Shared)(a:Addr)(n:Int)(t:Tok)(c:Nat),as.length-(j+1)=r->j+1<=as.length->Inv X aa σ H s'->s'.heap.get? S=some (seqObj "list" #[.ref a,.int n t] c)->
   s'.heap.IsListIter I l (j+1)->as[i]?=some a->ns[i]?=some n->(∀(h:Nat) m,h<=j->ns[h]?=some m->m<=n)->
   codeAny (model X.prog X.w) X.A (.builtin "max.loop" ⟨[.ref I,.ref f,.ref S],[]⟩) R s':=by
 have g:(toString "max"++toString ".loop":String)="max.loop":=ξ
 have W:=Walks.list (prog:=X.prog) (w:=X.w) (A:=X.A.in1) hh I l lw (as.map Value.ref).toArray;have hsz:(as.map Value.ref).toArray.size=as.length:=by rw[Am,Ab]
 have M:∀s',Inv X aa σ H s'->s'.heap.IsList l (as.map Value.ref).toArray:=fun s' Ik=>by
  obtain⟨ad,r1,p1,_⟩:=Ik.list hl;obtain rfl:=aU r1;exact p1.isList
 intro r
 induction r with
 |zero=>
  intro j i s' a n t c hr hj Ik G T U Y O;have hin:j+1=as.length:=ω
  refine Bd Q2 ?_;rw[A2 Ph _];show wpAny _ X.A.in1 (seqItems? (.ref S) >>= _) _ _ _;refine Aa (wpAny_seqItems G rfl ?_);show wpAny _ X.A.in1 (tryCatch (pyNext (.ref I)) _ >>= _) _ _ _;refine Aa (wpAny_tryCatch (W.done _ _ _ ⟨by rw[hsz,<-hin];exact T,M _ Ik⟩ fun h' y J=>?_));have I1:Inv X aa σ H {s' with heap:=h',toks:=y}:=Inv.turneds (t':=y) (ch:=[I]) Ik (mK p) fun b o hb q=>J b o hb q;have dn:=J S _ (by simpa using E) G;have P:=AH h' S (AO fun _=>(#[]:Array Value));show wpAny _ X.A.in1 (updateSeq S (fun _=>#[]) >>= _) _ _ _;refine Aa ?_;refine wpAny_updateSeq (s:={s' with heap:=h',toks:=y}) dn rfl (Aa (wpAny_letGo (Ac ?_)));refine hR i a n _ (Inv.turneds (s:={s' with heap:=h',toks:=y}) (t':=y) (ch:=[S]) I1 (mK Q) fun b o hb q=>(P.2 b (fun z=>hb (by simp[z]))).trans q) U Y fun m hm=>?_;obtain⟨h,e'⟩:=OV.mp hm;have:=(B5.mp e').1;exact O h m ω e'
 |succ r ih=>
  intro j i s' a n t c hr hj Ik G T U Y O;have d:j+1<as.length:=ω
  refine Bd Q2 ?_;rw[A2 Ph _];show wpAny _ X.A.in1 (seqItems? (.ref S) >>= _) _ _ _;refine Aa (wpAny_seqItems G rfl ?_);show wpAny _ X.A.in1 (tryCatch (pyNext (.ref I)) _ >>= _) _ _ _;refine Aa (wpAny_tryCatch (W.item (j+1) _ _ _ (by rw[hsz];exact d) ⟨T,M _ Ik⟩ fun v h' y hP hV J=>?_));have e1:as[j+1]?=some (as[j+1]'(d)):=Ai d;have e2:ns[j+1]?=some (ns[j+1]'ω):=Ai ω;have hv:v=.ref (as[j+1]'(d)):=by
   have:(as.map Value.ref)[j+1]?=some v:=by simpa using hP
   rw[Af,e1] at this;exact(Ah this).symm
  subst hv;obtain⟨lG,hZ,cU,bH⟩:=id hV.1;have I1:Inv X aa σ H {s' with heap:=h',toks:=y}:=Inv.turneds (t':=y) (ch:=[I]) Ik (mK p) fun b o hb q=>J b o hb q;have dn:=J S _ (by simpa using E) G;generalize as[j+1]'(d)=C at e1 ⊢;generalize (ns[j+1]'ω)=n2 at e2;show wpAny _ X.A.in1 (tryCatch (holding [.ref C] (call (.ref f) [.ref C])) _ >>= _) _ _ _;refine Aa (wpAny_tryCatch (AI (wpAny_call (codeAny_mono (run _ I1 (j+1) _ _ e1 e2) fun r x hq=>?_))));obtain⟨u,rfl,v,H',os,L,un,hok,ru,rfl,rfl⟩:=hq;obtain⟨D,rfl⟩:=ru;have I2:Inv X aa σ H' x:=I1.call' os un hok L (fun b z=>nomatch z);have iY:=un.keep S _ dn Q.1 (rG I1 Q) (by simp);have ln:=un.keep I _ hZ p.1 (rG I1 p) (by simp);have N:x.heap.IsListIter I l (j+1+1):=⟨lG,ln,cU,bH⟩
  try dsimp only
  show wpAny _ X.A.in1 (tryCatch (holding [.ref C,.int n2 D] (richCompare .Gt (.int n2 D) (.int n t) >>= _)) _ >>= _) _ _ _;refine Aa (wpAny_tryCatch (AI (Aa (gt_int ?_))));refine Aa (AI (wpAny_truthy_bool ?_));refine Aa (wpAny_letGo (Ac ?_))
  by_cases hb':n<n2
  ·have P:=AH x.heap S (AO fun _=>#[.ref C,.int n2 D])
   obtain⟨c2,hc2⟩:∃c2,(x.heap.update S (AO fun _=>#[.ref C,.int n2 D])).get? S=some (seqObj "list" #[.ref C,.int n2 D] c2):=⟨_,get?_update_seq iY fun _=>#[.ref C,.int n2 D]⟩;simp only[hb',decide_true,if_true];refine Aa ?_;refine wpAny_updateSeq iY rfl (Aa (wpAny_letGo ?_));rw[g];refine Ac ⟨plainId_quiet Ph _,ih (j+1) (j+1) _ C n2 D c2 ω d (Inv.turneds (t':=x.toks) (ch:=[S]) I2 (mK Q) fun b o hb q=>(P.2 b (fun z=>hb (by simp[z]))).trans q) hc2 ⟨lG,(P.2 I E.symm).trans ln,cU,bH⟩ e1 e2 fun h m hj' em=>?_⟩
   by_cases e:h=j+1
   ·subst e
    rw[e2] at em;cases em;exact Pm _
   ·have:=O h m ω em
    omega
  ·simp only[hb',decide_false,Az,if_false]
   refine Aa (wpAny_letGo ?_);rw[g];refine Ac ⟨plainId_quiet Ph _,ih (j+1) i x a n t c ω d I2 iY N U Y fun h m hj' em=>?_⟩
   by_cases e:h=j+1
   ·subst e
    rw[e2] at em;cases em;omega
   ·exact O h m ω em
def ML{f l:Addr}{as:List Addr}{ns:List Int}{Q:Ω}(hh:X.A.handled=none)(I:Inv X aa σ H s)(hl:SqL X.K H l (as.map V.ref))(aE:ns.length=as.length)(c:0<as.length)(run:∀s',Inv X aa σ H s'->∀(j:Nat) a n,as[j]?=some a->ns[j]?=some n->codeAny (model X.prog X.w) X.A.in1 (.call (.ref f) ⟨[.ref a],[]⟩) (fun r p=>∃v,r=.ok (.ret v)/\CE X.stack X.prog X.w H s' (fun v H'=>v=.int n/\H'=H) v p) s')(h:∀(j:Nat) a n s',Inv X aa σ H s'->as[j]?=some a->ns[j]?=some n->(∀m∈ns,m<=n)->Q (.ref a) s'):wpAny (model X.prog X.w) X.A (call (.builtin "max") [.ref l] [(Bb "key",.ref f)]) Q X.xe s:=by
 have d:(toString "max"++toString ".loop":String)="max.loop":=ξ
 have C:∀s',Inv X aa σ H s'->s'.heap.IsList l (as.map Value.ref).toArray:=fun s' Ik=>by
  obtain⟨ad,r1,p1,_⟩:=Ik.list hl;obtain rfl:=aU r1;exact p1.isList
 have O:=C s I;obtain⟨ol,hol,_⟩:=id O;have rW:l<s⁻¹:=Ar hol;refine kmk_tree PySem.F.kind_max PySem.F.plain_max PySem.F.entry_max (kmk_max_key _ _) ?_;show wpAny _ X.A.in1 (Builtin.Builtins.bindParams "max" ["key","default"] 0 ⟨[],[(Bb "key",.ref f)]⟩ >>= _) _ _ s;refine Aa (wpAny_of_eq (show Builtin.Builtins.bindParams "max" ["key","default"] 0 ⟨[],[(Bb "key",.ref f)]⟩=pure [some (.ref f),none] from rfl) ?_);refine Aa (Ac ?_);refine Aa (wpAny_pyIter_list O ?_);refine Aa (wpAny_newList ?_ (A1 _));rw[d];have L:(s.heap.push {cls:=.type "list_iterator",data:=.fields #[.ref l,.int 0 0]}).objs.size=s⁻¹+1:=size_push' ..;have P:l≠s⁻¹:=Au rW;have i:(s.heap.push {cls:=.type "list_iterator",data:=.fields #[.ref l,.int 0 0]}).objs.size≠s⁻¹:=by rw[L];exact A0 (Q8 _)
 have e:bA X aa H s⁻¹:=I.fpOk (Ag _) (I.hok.fresh (Ag _));have D:bA X aa H (s.heap.push {cls:=.type "list_iterator",data:=.fields #[.ref l,.int 0 0]}).objs.size:=I.fpOk (by rw[L];exact Qk _) (I.hok.fresh (by rw[L];exact Qk _));refine Ac ⟨plainId_quiet Ph _,?_⟩;have I0:Inv X aa σ H {s with heap:=(s.heap.push {cls:=.type "list_iterator",data:=.fields #[.ref l,.int 0 0]}).push (seqObj "list" #[] 0)}:=I.kept (t':=s.toks) fun b u q=>Ad _ (Ad _ q);have gI:((s.heap.push {cls:=.type "list_iterator",data:=.fields #[.ref l,.int 0 0]}).push (seqObj "list" #[] 0)).get? s⁻¹=some {cls:=.type "list_iterator",data:=.fields #[.ref l,.int 0 0]}:=
  Ad _ (Al _ rfl)
 have T:((s.heap.push {cls:=.type "list_iterator",data:=.fields #[.ref l,.int 0 0]}).push (seqObj "list" #[] 0)).get? (s.heap.push {cls:=.type "list_iterator",data:=.fields #[.ref l,.int 0 0]}).objs.size=some (seqObj "list" #[] 0):=Al _ rfl;have W:=Walks.list (prog:=X.prog) (w:=X.w) (A:=X.A.in1) hh s⁻¹ l P (as.map Value.ref).toArray;have hsz:(as.map Value.ref).toArray.size=as.length:=by rw[Am,Ab]
 generalize (s.heap.push {cls:=.type "list_iterator",data:=.fields #[.ref l,.int 0 0]}).objs.size=S at *;refine Bd Q2 ?_;rw[A2 Ph _];show wpAny _ X.A.in1 (seqItems? (.ref S) >>= _) _ _ _;refine Aa (wpAny_seqItems T rfl ?_);show wpAny _ X.A.in1 (tryCatch (pyNext (.ref s⁻¹)) _ >>= _) _ _ _;refine Aa (wpAny_tryCatch (W.item 0 _ _ _ (by rw[hsz];exact c) ⟨⟨_,gI,rfl,rfl⟩,C _ I0⟩ fun v h' M hP hV N=>?_));have e1:as[0]?=some (as[0]'(c)):=Ai c;have e2:ns[0]?=some (ns[0]'ω):=Ai ω;have hv:v=.ref (as[0]'(c)):=by
  have:(as.map Value.ref)[0]?=some v:=by simpa using hP
  rw[Af,e1] at this;exact(Ah this).symm
 subst hv;obtain⟨lG,hZ,cU,bH⟩:=id hV.1;have I1:Inv X aa σ H {s with heap:=h',toks:=M}:=Inv.turneds (s:={s with heap:=(s.heap.push {cls:=.type "list_iterator",data:=.fields #[.ref l,.int 0 0]}).push (seqObj "list" #[] 0)}) (t':=M) (ch:=[s⁻¹]) I0 (mK e) fun b o hb q=>N b o hb q;have dn:=N S _ (by simpa using i) T;generalize as[0]'(c)=g at e1 ⊢;generalize (ns[0]'ω)=n2 at e2;show wpAny _ X.A.in1 (tryCatch (holding [.ref g] (call (.ref f) [.ref g])) _ >>= _) _ _ _;refine Aa (wpAny_tryCatch (AI (wpAny_call (codeAny_mono (run _ I1 0 _ _ e1 e2) fun r p hq=>?_))));obtain⟨u,rfl,v,H',os,y,un,G,ru,rfl,rfl⟩:=hq;obtain⟨x,rfl⟩:=ru;have I2:Inv X aa σ H' p:=I1.call' os un G y (fun b z=>nomatch z);have U:=un.keep S _ dn D.1 (rG I1 D) (by simp);have ln:=un.keep s⁻¹ _ hZ e.1 (rG I1 e) (by simp)
 try dsimp only
 have Y:=AH p.heap S (AO fun _=>#[.ref g,.int n2 x]);obtain⟨E,J⟩:∃E,(p.heap.update S (AO fun _=>#[.ref g,.int n2 x])).get? S=some (seqObj "list" #[.ref g,.int n2 x] E):=⟨_,get?_update_seq U fun _=>#[.ref g,.int n2 x]⟩;show wpAny _ X.A.in1 (updateSeq S (fun _=>#[.ref g,.int n2 x]) >>= _) _ _ _;refine Aa ?_;refine wpAny_updateSeq U rfl ?_;rw[d];refine Ac ⟨plainId_quiet Ph _,MK hh hl aE D e i P run (fun j a n s' Ij ea en hb=>h j a n s' Ij ea en hb) _ 0 0 _ g n2 x E rfl c (Inv.turneds (t':=p.toks) (ch:=[S]) I2 (mK D) fun b o hb q=>(Y.2 b (fun z=>hb (by simp[z]))).trans q) J ⟨lG,(Y.2 _ i.symm).trans ln,cU,bH⟩ e1 e2 fun j' m hj' em=>?_⟩;obtain rfl:j'=0:=ω
 rw[e2] at em;cases em;exact Pm _
end
def MM(K:Ae)(P:Addr)(pos:Pos)(c:Str)(iy:Nat)(te:TE)(ta:TA):TE:=fun σ H Q=>ta σ H fun vs H1=>∃(l:Addr)(as:List Addr)(ns:List Int)(vy:V),vs=[.ref l]/\SqL K H1 l (as.map V.ref)/\ns.length=as.length/\0<as.length/\σ[iy]?=some (some vy)/\Tab H1 P pos c/\
 (∀H2,zaJ H1 H2->∀(j:Nat) a n,as[j]?=some a->ns[j]?=some n->te [some (.ref a),some vy] H2 fun v H'=>v=.int n/\H'=H2)/\
 ∀H2(j:Nat) a n,zaJ H1 H2->(∀b ps,b≠P->H1 b=some (.tbl ps)->H2 b=some (.tbl ps))->Tab H2 P pos c->as[j]?=some a->ns[j]?=some n->(∀m∈ns,m<=n)->Q (.ref a) H2
section
variable{X:Cx}{a:Expr}{ta:TA}{p p2 pos gz eV:Pos}{P c cc:Addr}{args:Arguments}{body:Expr}{sc:Scope}{x y:Str}{iy k:Nat}{te:TE}
def MN(hr:Room (k+2) X.A)(hg:Gl X "max")(hm:X.mg "max"=none)(hv:AU "max"=some (.builtin "max"))(hC:PySem.W.CodeHd X.base c P)(c8:X.env.code=.ref c)(ii:BM X.mg X.base)(E:closureFor sc X.env=pure [(y,cc)])(am:X.env.cells.lookup y=some cc)(hk:X.env.kindOf y=some .cell)(hN:X.N[iy]?=some y)(S:GZ x y sc)(hb:∀C cl i c' r u,bindArgs (Q0 "<lambda>" C args body sc cl i (.ref c') r) ⟨[u],[]⟩=pure [(x,u)])(a9:∀s H f C c',PE (uo X X.A.in1 s H f C sc x y cc c') body te)(ha:PA X [a] ta)(hc:X.calm=true)(he:starEach [a] X.env=[(false,eval a X.env)]:=by rfl)(ie:defaultsOf args X.env=([],[]):=by rfl):PE X (.Call (.Name "max" p) [a] [⟨some "key",.Lambda args body sc eV,gz⟩] pos) (MM X.K P eV (X.env.qual++"<lambda>") iy te ta):=by
 intro aa s σ H Q I h;refine wpAny_Call_Name_kw (j0 I hg hm hv ?_);refine callWith_kw ?_ (by rw[he];rfl) (by rw[he];rfl) rfl rfl;refine aW (ha pos aa s σ H _ I h) fun us F ⟨vs,H1,I1,G,J⟩=>?_;obtain⟨l,as,ns,vy,rfl,hl,qq,h0,lO,ht,ym,q⟩:=J;obtain⟨u,rfl,ru⟩:=vals1 G;cases ru;refine kws_cons (aW (MH (P:=P) (args:=args) (body:=body) (pos:=eV) hC c8 ii E ie aa F σ H1 (fun v H2=>∃f,v=.ref f/\zaJ H1 H2/\(∀b ps,b≠P->H1 b=some (.tbl ps)->H2 b=some (.tbl ps))/\Tab H2 P eV (X.env.qual++"<lambda>")/\zgC H2 f (X.env.qual++"<lambda>") args body sc y cc) I1 ⟨ht,fun f H2 M O T U=>⟨f,rfl,M,O,T,U⟩⟩) fun u2 Y vJ=>?_);obtain⟨v2,H2,I2,r2,f,rfl,sm,cA,tb,L⟩:=vJ;cases r2;refine kws_nil ?_;show wpAny (model X.prog X.w) X.A (call (.builtin "max") [.ref l] [(Bb "key",.ref f)]) _ _ Y;have D:SqL X.K H2 l (as.map V.ref):=by
  rcases hl with (z|⟨o,z⟩)|z
  ·exact .inl (.inl (sm _ _ (fun _ e=>nomatch e) z))
  ·exact .inl (.inr ⟨o,sm _ _ (fun _ e=>nomatch e) z⟩)
  ·exact .inr z
 refine ML (I.ok.hd hc) I2 D qq h0 (fun s' I' j a n d g=>?_) fun j a n s' I' d g hb=>⟨.ref a,_,I',rfl,q H2 j a n sm cA tb d g hb⟩;exact MF (va:=.ref a) (vy:=vy) (iy:=iy) I' I'.env0.in1 rfl (Room.in1 hr).depth L S am hN lO (.inl hk) (fun i c' r=>hb _ _ i c' r _) rfl (fun c'=>a9 s' H2 f _ c') (ym H2 sm j a n d g)
end
def zaJ.tp{H H':Hp}{a:Addr}{ps:List Int}(e:zaJ H H')(h:Tp H a ps):Tp H' a ps:=e _ _ (fun _ z=>nomatch z) h
def zaJ.tps{H H':Hp}{as:List Addr}{ab:Ξ}(e:zaJ H H')(h:Tps H as ab):Tps H' as ab:=Paired.mapP h fun _ _ q=>e.tp q
def zaJ.seq{K:Ae}{H H':Hp}{l:Addr}{xs:List V}(e:zaJ H H')(h:SqL K H l xs):SqL K H' l xs:=by
 rcases h with (z|⟨o,z⟩)|z
 ·exact .inl (.inl (e _ _ (fun _ q=>nomatch q) z))
 ·exact .inl (.inr ⟨o,e _ _ (fun _ q=>nomatch q) z⟩)
 ·exact .inr z
def zaJ.free{H H':Hp}{P:Addr}{pos:Pos}{a:Str}(e:zaJ H H')(c:∀b ps,b≠P->H b=some (.tbl ps)->H' b=some (.tbl ps))(tb:Tab H' P pos a){l:Addr}(h:H' l=none):H l=none:=by
 cases q:H l with
 |none=>rfl
 |some o=>
  have:H' l=some o:=by
   by_cases z:∃ps,o=.tbl ps
   ·obtain⟨ps,rfl⟩:=z
    refine c l ps (fun y=>?_) q;subst y;rcases tb with t|⟨_,t,_⟩<;>(rw[h] at t;cases t)
   ·exact e l o (fun ps y=>z ⟨ps,y⟩) q
  rw[h] at this;cases this
def MO{p y:Str}:∀x,([(p,NameKind.local),(y,A4)]:List (Str×NameKind)).lookup x=some .free->x=y:=fun x h=>by
 rw[AR] at h;cases h1:x==p with
 |true=>rw[h1] at h;cases h
 |false=>
  rw[h1] at h;have h':([(y,A4)]:List (Str×NameKind)).lookup x=some .free:=h;rw[AR] at h';cases h2:x==y with
  |true=>exact eq_of_beq h2
  |false=>rw[h2] at h';cases h'
end L2
end
section
namespace Dk
open PySem
section
variable{prog:Program}{w:World}{A:Around}{E:Ω}{s:Shared}
def MP(d:Addr)(hd:(d==A3)=false):MeetsIn prog w (Builtin.«dict.__len__» ⟨[.ref d],[]⟩) (fun _ R s=>∃es ep,IsD s.heap d es ep/\R (.ok (.ret (.int es.size s.toks))) {s with toks:=s.toks+1}):=
 .of_wp fun A R s ⟨es,ep,hm,h⟩=>by
  obtain⟨o,a,hc,b⟩:=hm;show wpAny _ _ (dictSize d >>= _) _ _ s;unfold dictSize;refine Aa (Aa (AB a b (Ac ?_)));show wpAny _ _ (Builtin.Dict.pendingCount d >>= _) _ _ s;refine Aa (wpAny_pendingCount_other hd ?_);refine wpAny_ret_mkInt ?_;rw[Nat.add_zero];exact h
def Ev{d:Addr}{es:Array DictEntry}{ep:Nat}{Q:Ω}(hd:(d==A3)=false)(hm:IsD s.heap d es ep)(a:(es.size:Int)<2 ^ 63)(h:Q (.int es.size (s.toks+1)) {s with toks:=s.toks+1+1}):wpAny (model prog w) A (call (.builtin "len") [.ref d]) Q E s:=by
 refine Calls.call_function_entry kind_len plain_len entry_len (args_len1 _) ?_;unfold Builtin.«len»;refine Aa (m:=oneArg "len" _) (Ac ?_);refine Aa (m:=callSpecial? (.ref d) (Bb "__len__")) (AL (name:=Bb "__len__") hm.typeIs F.slot_dict_len
  (call_meetsIn F.slot_dict_len hm.typeIs F.entry_dict_len (F.args_dict_len_1 _) (MP d hd) ⟨es,ep,hm,?_⟩))
 show wpAny _ _ _ _ _ {s with toks:=s.toks+1};refine Aa (AI (Ac ?_));refine Aa (wpAny_letGo ?_);show wpAny _ _ (if((es.size:Nat):Int)<0 then _ else _) _ _ _;rw[RK ω];show wpAny _ _ (if((es.size:Nat):Int) ≥ 2 ^ 63 then _ else _) _ _ _;rw[RK ω];exact Aa (wpAny_mkInt (Ac ⟨_,rfl,h⟩))
end
end Dk
namespace L2
open PySem PySem.Spec PyProof.Rows
section
variable{X:Cx}
def ur:da X (.builtin "len") (fun xs H Q=>∃a kvs,xs=[V.ref a]/\Rd H a (.dT kvs)/\Q (.int kvs.length) H):=by
 intro aa s σ H xs us Q I r h;obtain⟨a,kvs,rfl,ha,q⟩:=h;obtain⟨u,rfl,d⟩:=vals1 r;cases d;obtain⟨z,y,ys,b,o,es,ep,h1,h2,e,f,g⟩:=(show zF X.prog X.w H s.heap a (.dT kvs) from ha.ok I.hok);have c:es.size=kvs.length:=by
  have:=congrArg List.length f;rw[Ab,<-AN b] at this
  simpa using this
 refine Dk.Ev y ⟨o,h1,h2,e⟩ (by rw[c];rw[sizeLine_eq] at z;omega) ⟨.int kvs.length,H,I.tok _,⟨_,by rw[c]⟩,q⟩
end
end L2
end
section
namespace L2
open PySem PySem.Spec PyProof.Rows
section
variable{X:Cx}{aa:Ψ}{σ:St}{H:Hp}{s:Shared}{D:Addr}{o:Obj}{kvs:List (List Key×V)}
def Inv.thaw(I:Inv X aa σ H s)(g:X.H₀ D=none)(d:H D=some (.frz o (.dT kvs))):Inv X aa σ (upd H D (.dT kvs)) s:=by
 have ne:∀{b:Addr},H b=none->b≠D:=fun{b} e=>(zj d e).symm;refine⟨I.ok,I.os,I.bare,⟨I.base.keep,I.base.slot,fun b u e n hx=>?_,I.base.there,fun b xs e=>?_,fun b ob u e=>?_,fun b ps e=>?_⟩,I.loc,I.cell,?_,fun x c e=>?_,fun p hp=>?_,fun b u e=>?_,I.len⟩
 ·have:=I.base.free b u e n hx
  rw[ae (ne this)];exact this
 ·have:=I.base.tups b xs e
  rw[ae (cT this d (by intro z;cases z))];exact this
 ·have hb:b≠D:=fun z=>by rw[z,g] at e;cases e
  rw[ae hb];exact I.base.frzs b ob u e
 ·have hb:b≠D:=fun z=>by rw[z,g] at e;cases e
  rw[ae hb];exact I.base.tbls b ps e
 ·rw[ae (ne I.free)];exact I.free
 ·rw[ae (ne (I.freeC x c e))];exact I.freeC x c e
 ·obtain⟨h,f,i⟩:=I.pin p hp
  exact⟨h,by rw[ae (ne f)];exact f,i⟩
 ·have st:∀{a:Addr}{v:HO},zF X.prog X.w H s.heap a v->zF X.prog X.w (upd H D (.dT kvs)) s.heap a v:=fun{a v} x=>
   x.stay (fun _ _ _ q=>q) (fun c q=>by rw[ae (cT q d (by intro z;cases z))];exact q) fun c xs q=>by rw[ae (cT q d (by intro z;cases z))];exact q
  by_cases hb:b=D
  ·subst hb
   rw[ac] at e;cases e;have hx:=I.hok b _ d;exact st (show s.heap.get? b=some o/\zF X.prog X.w H s.heap b (.dT kvs) from hx).2
  ·rw[ae hb] at e
   exact st (I.hok b u e)
end
end L2
end
section
namespace Dk
open PySem PySem.Spec PyProof.Rows
end Dk
namespace L2
open PySem PySem.Spec PyProof.Rows
section
variable{X:Cx}
def MQ(tk tv:TE):TE:=fun σ H Q=>∀p,H p=none->zb [(tk,tv)] σ (upd H p (.dT [])) fun ps H2=>∃b k v,ps=[(.ref b,v)]/\H2 p=some (.dT [])/\H2 b=some (.tup (List.map kV k))/\Q (.ref p) (upd H2 p (.dT [(k,v)]))
def MR{j l:Expr}{pos:Pos}{tk tv:TE}(hu:X.A.units+1<cLine)(hk:PE X j tk)(J:PE X l tv):PE X (.Dict [some j] [l] pos) (MQ tk tv):=by
 intro aa s σ H Q I q;have G:=I.hok.fresh (Ag s⁻¹);have L:=I.laid (a:=s⁻¹) (o:=.dT []) (h':=s.heap.push {cls:=.type "dict",data:=.dict #[]}) (t':=s.toks) (fun _ _ q=>Ad _ q) (Ag _) (ER s.heap I.big);refine wpAny_Dict_any rfl rfl (by simp) (by simp) (aW (Ju hk J Jt aa _ σ _ _ L (q _ G)) fun M N ⟨ps,H2,I2,d,b,k,v,ep,e,f,p⟩=>?_);subst ep;cases d with
 |@cons p' w0 jk qs' h t=>
  cases t;obtain⟨x,O⟩:=w0;obtain⟨y,C⟩:=h;cases(show x=Value.ref b from y);obtain⟨z,hd,xs,d,dd⟩:=y6 I2.hok e;cases d;unfold storeAll;rw[Rb];refine Aa (Aa (wpAny_dictSet_heap (hsz:=A1 _) (knd:=tupleKind (zw X.prog X.w)) (by show X.A.units<cLine;omega) (ib I2.hok f) dd fun h' r u=>Ac ?_));show wpAny _ _ (forIn _ _ _) _ _ _;rw[List.forIn_nil];refine Ac ⟨.ref s⁻¹,_,?_,rfl,p⟩;obtain⟨i,es,ep,hq,h2,D,E,_,F⟩:=r;refine l' I2 (by rw[e];exact True.intro) u ⟨i,hq⟩ ⟨by show 1<=sizeLine;rw[sizeLine_eq];omega,hd,_,(KT.put (kvs:=[]) .nil k f C).keeps fun c ys g=>?_,i,es,ep,hq,h2,D,E,F⟩;rw[ae (cT g e (fun z=>nomatch z))];exact g
end
end L2
end
section
namespace L2
open PySem PySem.Spec PyProof.Rows
def nu{P:Program}{w:World}{H:Hp}{h:Heap}{a:Addr}{kvs:List (List Key×V)}{ab:Ξ}(ok:HOk P w H h)(hq:Rd H a (.dT kvs))(hp:kvs.map (·.1)=ab.map (·.map Sum.inl)):(a==A3)=false/\∃xs:List (List Int×Addr×Value),(∀v d,h.DictOfH (tupleKind (intKind v d)) a xs)/\xs.length=kvs.length/\∀(i:Nat) x,xs[i]?=some x->ab[i]?=some x.1/\∃kv,kvs[i]?=some kv/\RelV kv.2 x.2.2:=by
 obtain⟨z,y,ys,g,o,es,ep,h1,h2,C,D,A⟩:=(show zF P w H h a (.dT kvs) from hq.ok ok);have key:∀{l:List (List Key×V)}{m:List (List Key×Addr×Value)}{c:Ξ},KT H l m->l.map (·.1)=c.map (·.map Sum.inl)->
   ∃xs:List (List Int×Addr×Value),m=xs.map (fun x=>(x.1.map Sum.inl,x.2))/\xs.map (·.1)=c/\(∀x∈xs,Tp H x.2.1 x.1)/\xs.length=l.length/\∀(i:Nat) x,xs[i]?=some x->c[i]?=some x.1/\∃kv,l[i]?=some kv/\RelV kv.2 x.2.2:=by
  intro l m c q
  induction q generalizing c with
  |nil=>intro e;cases c with
   |nil=>exact⟨[],rfl,rfl,(fun x hx=>by cases hx),rfl,(fun i x e=>by simp at e)⟩
   |cons p ps=>simp at e
  |@cons p q' ps qs' hq t ih=>intro e;cases c with
   |nil=>simp at e
   |cons r rs=>
    simp only[Aq,List.cons.injEq] at e;obtain⟨xs,e1,e2,e3,j,u⟩:=ih e.2;have hk:=hq.2.1;rw[e.1,Ak] at hk;refine⟨(r,q'.2)::xs,?_,by rw[Aq,e2],fun x hx=>?_,by simp[j],fun i x ex=>?_⟩
    ·rw[Aq,<-e1,<-e.1,hq.1]
    ·rcases OT.mp hx with rfl|hx
     ·exact hk
     ·exact e3 x hx
    ·cases i with
     |zero=>
      simp at ex;subst ex;exact⟨rfl,p,rfl,hq.2.2⟩
     |succ i=>simpa using u i x (by simpa using ex)
 obtain⟨xs,e1,e2,e3,j,u⟩:=key g hp;refine⟨y,xs,fun v d=>⟨o,es,ep,h1,h2,C,?_,fun x hx=>?_,?_⟩,j,u⟩
 ·rw[D,e1,Ak]
  refine Aw fun x _=>?_;show DictEntry.mk (tupleKeyHash (zw P w) (x.1.map Sum.inl)) (.ref x.2.1) x.2.2=DictEntry.mk (tupleKeyHash (intKind v d) x.1) (.ref x.2.1) x.2.2;rw[Gc]
  rfl
 ·obtain⟨_,ad,r,p⟩:=(show zF P w H h x.2.1 (.tup (x.1.map V.int)) from ok x.2.1 _ (e3 x hx))
  exact Kn p (intsAre_of r)
 ·have E:xs.map (fun x=>x.1.map (Sum.inl:Int->Key))=(xs.map (·.1)).map (·.map Sum.inl):=by rw[Ak];rfl
  rw[e1,Ak] at A;have F:((xs.map (·.1)).map (·.map (Sum.inl:Int->Key))).Nodup:=by rw[<-E];exact A
  exact List.Pairwise.of_map _ (fun a b f e=>f (by rw[e])) F
end L2
end
section
namespace PySem.RvT
open PyProof.Rows
def IsRT(h:Heap)(a t:Addr)(i:Int):Prop:=∃o,h.get? a=some o/\o.cls=.type "reversed"/\o.data=.fields #[.ref t,rawInt i]
section
variable{prog:Program}{w:World}{A:Around}{E:Ω}{s:Shared}
def IsRT.typeIs{a t:Addr}{i:Int}(x:IsRT s.heap a t i):s.TypeIs (.ref a) "reversed":=let ⟨o,ho,hc,_⟩:=x;⟨o,ho,hc⟩
def IsRT.at{h h':Heap}{a l:Addr}{i:Int}(x:IsRT h a l i)(e:∀o,h.get? a=some o->h'.get? a=some o):IsRT h' a l i:=let ⟨o,ho,r⟩:=x;⟨o,e _ ho,r⟩
end
end PySem.RvT
namespace L2
open PySem PySem.Spec PyProof.Rows
def MS{lo:Int}{n:Nat}{acc:Array Value}(h:ItemsOf (fun i v=>∃t,v=.int (lo+(i:Nat)*1) t) acc n):Vals (((AJ n).map fun k=>lo+(k:Nat)).map V.int) acc.toList:=by
 have:∀(as:List Value)(ns:List Int),as.length=ns.length->(∀(i:Nat) a n,as[i]?=some a->ns[i]?=some n->∃t,a=.int n t)->Vals (ns.map V.int) as:=by
  intro as
  induction as with
  |nil=>intro ns h _;cases ns with
   |nil=>exact .nil
   |cons _ _=>simp at h
  |cons a as ih=>
   intro ns h f;cases ns with
   |nil=>simp at h
   |cons n ns=>
    obtain⟨t,e⟩:=f 0 a n rfl rfl;exact .cons ⟨t,e⟩ (ih ns (by simpa using h) fun i b m h1 h2=>f (i+1) b m (by simpa using h1) (by simpa using h2))
 refine this acc.toList _ (by simp[h.1]) fun i a n h1 h2=>?_;obtain⟨t,e⟩:=h.2 i a (by simpa using h1);have hi:i<acc.size:=by
  have:=(B5.mp h1).1
  simpa using this
 rw[Af,QC (by rw[<-h.1];exact hi)] at h2;refine⟨t,?_⟩;rw[e,<-Ah h2];simp
end L2
end
section
namespace L2
open PySem PySem.Spec PyProof.Rows
section
variable{X:Cx}
def uy{aa:Ψ}{σ:St}{H:Hp}{s:Shared}{l:Addr}{ns:List Int}(I:Inv X aa σ H s)(c:SqL X.K H l (ns.map V.int)):∃a,Reads s.heap (.ref l) (.list (ns.map AY)) a:=by
 obtain⟨ad,r,p,_⟩:=I.list c;obtain⟨o,b,hc,n,hd⟩:=p.isList;exact⟨_,.list b hc hd ((PySem.W.ke_carried (intsAre_of r)).reads s.heap)⟩
def uA(ns:List Int):SeqAt.shaped (.list (ns.map AY))=true:=by
 simp[SeqAt.shaped,PyData.canLay0,PySem.W.ke_canLayAll0,PyData.depth,PySem.W.ke_depthAll]
def uH(ns:List Int):(Shape.list .int).has (.list (ns.map AY))=true:=by simp[Shape.has]
def Dq(K:Ae):R2:=fun x y H Q=>∃l m ns a,x=.ref l/\y=.ref m/\SqL K H l (List.map V.int ns)/\SqL K H m (List.map V.int a)/\Q (.bl (decide (ns=a))) H
def MT(hu:X.A.units+64<cLine):cg X (AZ .Eq) (Dq X.K):=by
 intro aa s σ H x y v u Q I b c h;obtain⟨l,m,ns,a,rfl,rfl,d,hm,q⟩:=h;cases b;cases c;obtain⟨g,e⟩:=uy I d;obtain⟨i,f⟩:=uy I hm;refine eq_dataH_same e f (uA _) (uA _) hu (SeqAt.noMix_of_shape (.list .int) rfl _ _ (uH _) (uH _)) ?_;rw[show same (.list (ns.map AY)) (.list (a.map AY))=decide (ns=a) from by simp only[same];exact QN ns a];exact⟨.bl _,H,I,rfl,q⟩
end
end L2
end
section
namespace DEq
open PySem
section
variable{prog:Program}{w:World}{K:Type}[DecidableEq K]{knd:HeapKind prog w K}{A:Around}{E:Ω}{s:Shared}
def G0{id:String}{a b:Addr}{xs ys:List (K×Addr×Value)}{Q:Bool->Shared->Prop}(hu:knd.room A)(ha:(a==A3)=false)(hb:(b==A3)=false)(hx:s.heap.DictOfH knd a xs)(hy:s.heap.DictOfH knd b ys)(W:xs.length=ys.length)(X:∀(i:Nat) k p v,xs[i]?=some (k,p,v)->∃(j:Nat)(q:Addr)(n:Int)(t t':Tok),v=.int n t/\ys[j]?=some (k,q,.int n t'))(h:Q true s):wpAny (model prog w) A (Builtin.Dict.samePairs id a b) Q E s:=by
 obtain⟨oa,c,pa,f,iB,g,H,N,jy⟩:=hx;obtain⟨ob,O,pb,l,cz,o,u,P,I⟩:=hy;have J:=size_of_entries (knd:=knd) H;have sb:=size_of_entries (knd:=knd) u;unfold Builtin.Dict.samePairs Builtin.Dict.showsAll;rw[RK (by rw[ha];exact An),RK (by rw[hb];exact An)];refine Aa (Ac (Aa (Ac ?_)));refine Aa (AB f g ?_);dsimp only;refine Aa (AB l o ?_);rw[RK (by rw[J,sb,W];simp)];refine Aa (Bc f g ?_);refine Aa ?_;rw[Std.Legacy.Range.forIn_eq_forIn_range'];simp only[Std.Legacy.Range.size,Rh,Nat.add_sub_cancel,Nat.div_one];refine wpAny_forIn_list _ (fun rest r s'=>s'=s/\r.1=none/\∃i,rest=RI i (c.size-i)/\i<=c.size) _ ?_ ?_ _ _ ⟨rfl,rfl,0,by simp,A1 _⟩
 ·rintro x rest r s' ⟨rfl,C,i,hr,hi⟩
  have d:i<c.size:=by
   rcases Qn i c.size with h|h
   ·exact h
   ·rw[Nat.sub_eq_zero_of_le h] at hr;simp at hr
  obtain⟨rfl,S⟩:x=i/\rest=RI (i+1) (c.size-(i+1)):=by
   have e:c.size-i=(c.size-(i+1))+1:=ω
   rw[e,RB] at hr;injection hr with h1 h2
   exact⟨h1,h2⟩
  obtain⟨⟨k,p,v⟩,D⟩:∃y,xs[x]?=some y:=⟨xs[x]'(by rw[<-J];exact d),Ai _⟩;obtain⟨T,q,n,t,t',rfl,F⟩:=X x k p v D;have hex:c[x]?=some ⟨knd.hash k,.ref p,.int n t⟩:=by rw[entry_at H x,D];rfl
  have G:knd.is s'.heap k p:=N _ (Aj D);refine Aa (AB f g ?_);rw[hex];dsimp only;refine Aa (AI (Aa (wpAny_dictFind_heap hu G l o u P I (fun L=>absurd F (L T _)) fun j Y M=>?_)));obtain rfl:=idxH_unique I M F;dsimp only;refine Aa (AB l o ?_);have U:O[j]?=some ⟨knd.hash k,.ref q,.int n t'⟩:=by rw[entry_at u j,F];rfl
  rw[U];dsimp only;refine AI (wpAny_eqBool_int ?_);rw[RK (by simp)];refine Aa (Bc f g ?_);rw[RK (by simp)];exact Ac ⟨rfl,rfl,x+1,S,d⟩
 ·rintro⟨r1,r2⟩ s' ⟨rfl,C,_⟩
  simp only at C;subst C;exact Ac h
def G1{id:String}{a b:Addr}{xs ys:List (K×Addr×Value)}{Q:Bool->Shared->Prop}(ha:(a==A3)=false)(hb:(b==A3)=false)(hx:s.heap.DictOfH knd a xs)(hy:s.heap.DictOfH knd b ys)(l:xs.length≠ys.length)(h:Q false s):wpAny (model prog w) A (Builtin.Dict.samePairs id a b) Q E s:=by
 obtain⟨o,p,q,c,r,d,e,u,v⟩:=hx;obtain⟨ob,x,y,f,C,g,i,D,F⟩:=hy;have j:=size_of_entries (knd:=knd) e;have sb:=size_of_entries (knd:=knd) i;unfold Builtin.Dict.samePairs Builtin.Dict.showsAll;rw[RK (by rw[ha];exact An),RK (by rw[hb];exact An)];refine Aa (Ac (Aa (Ac ?_)));refine Aa (AB c d ?_);dsimp only;refine Aa (AB f g ?_);rw[RJ (by rw[j,sb];simpa using l)];exact Aa (wpAny_rule (Ac h))
def MU{a b:Addr}{r:Bool}{Q:Ω}(c:A.units<cLine)(hx:s.TypeIs (.ref a) "dict")(hy:s.TypeIs (.ref b) "dict")(d:∀(id:String)(R:Bool->Shared->Prop)(f:Ω)(A':Around),A'.units<=A.units+8->R r s->wpAny (model prog w) A' (Builtin.Dict.samePairs id a b) R f s)(h:Q (.bool r) s):wpAny (model prog w) A (AZ .Eq (.ref a) (.ref b)) Q E s:=by
 show wpAny _ _ (richCompare .Eq (.ref a) (.ref b)) _ _ _;refine wpAny_richCompare_same_room (op:=.Eq) hx hy F.slot_dict_eq (AG F.slot_dict_eq hx F.entry_dict_eq ?_ (F.args_dict_eq_2 _ _)) c;unfold Builtin.«dict.__eq__»
 wp_delta
 refine Aa ?_;unfold Builtin.Dict.dictSlotArgs;refine Aa (wpAny_notOrdered_dict hx ?_);refine Aa (show wpAny _ _ (pure (Value.ref a,[Value.ref b])) _ _ _ from Ac ?_);refine Ac ?_;dsimp only;refine Aa (wpAny_isInstance hy DCp.pM ?_);simp only[Qf,Az,if_false];refine Aa (show wpAny _ _ (pure a) _ _ _ from Ac ?_);refine Aa (show wpAny _ _ (pure b) _ _ _ from Ac ?_);refine Aa (d _ _ _ _ (by show A.units+1<=_;omega) ?_);refine Ac ⟨_,rfl,(fun e=>nomatch e),?_⟩;cases r<;>exact h
def MV{a b:Addr}{r:Bool}{Q:Ω}(c:A.units<cLine)(hx:s.TypeIs (.ref a) "dict")(hy:s.TypeIs (.ref b) "dict")(d:∀(id:String)(R:Bool->Shared->Prop)(f:Ω)(A':Around),A'.units<=A.units+8->R r s->wpAny (model prog w) A' (Builtin.Dict.samePairs id a b) R f s)(h:Q (.bool (!r)) s):wpAny (model prog w) A (AZ .NotEq (.ref a) (.ref b)) Q E s:=by
 show wpAny _ _ (richCompare .NotEq (.ref a) (.ref b)) _ _ _;refine wpAny_richCompare_same_room (op:=.NotEq) hx hy F.slot_dict_ne (AG F.slot_dict_ne hx F.entry_dict_ne ?_ (F.args_dict_ne_2 _ _)) c;unfold Builtin.«dict.__ne__»
 wp_delta
 refine Aa ?_;unfold Builtin.Dict.dictSlotArgs;refine Aa (wpAny_notOrdered_dict hx ?_);refine Aa (show wpAny _ _ (pure (Value.ref a,[Value.ref b])) _ _ _ from Ac ?_);refine Ac ?_;dsimp only;refine Aa (wpAny_isInstance hy DCp.pM ?_);simp only[Qf,Az,if_false];refine Aa (show wpAny _ _ (pure a) _ _ _ from Ac ?_);refine Aa (show wpAny _ _ (pure b) _ _ _ from Ac ?_);refine Aa (d _ _ _ _ (by show A.units+1<=_;omega) ?_);refine Ac ⟨_,rfl,(fun e=>nomatch e),?_⟩;cases r<;>exact h
end
end DEq
namespace L2
open PySem PySem.Spec PyProof.Rows
def fT(H:Hp)(a b:Addr)(r:Bool):Prop:=∃(kvs c:List (List Key×V))(ab d:Ξ)(ns:List Int),Rd H a (.dT kvs)/\Rd H b (.dT c)/\kvs.map (·.1)=ab.map (·.map Sum.inl)/\c.map (·.1)=d.map (·.map Sum.inl)/\kvs.map (·.2)=ns.map V.int/\
 ((r=true/\kvs.length=c.length/\∀kv∈kvs,kv∈c)\/(r=false/\kvs.length≠c.length))
section
variable{X:Cx}
def MW{aa:Ψ}{s:Shared}{σ:St}{H:Hp}{a b:Addr}{r:Bool}(I:Inv X aa σ H s)(hu:X.A.units+64<cLine)(h:fT H a b r):s.TypeIs (.ref a) "dict"/\s.TypeIs (.ref b) "dict"/\
  ∀(id:String)(R:Bool->Shared->Prop)(C:Ω)(A':Around),A'.units<=X.A.units+8->R r s->wpAny (model X.prog X.w) A' (Builtin.Dict.samePairs id a b) R C s:=by
 obtain⟨kvs,T,ab,U,ns,ha,hb,hp,o,D,hc⟩:=h;obtain⟨q,xs,d,W,E⟩:=nu I.hok ha hp;obtain⟨u,ys,f,bl,F⟩:=nu I.hok hb o;refine⟨(d X.prog X.w).typeIs,(f X.prog X.w).typeIs,fun id R C A' S l=>?_⟩;rcases hc with ⟨rfl,G,hm⟩|⟨rfl,G⟩
 ·refine DEq.G0 (knd:=tupleKind (intKind X.prog X.w)) (show A'.units<cLine from ω) q u (d _ _) (f _ _) ω (fun i k p v e=>?_) l
  obtain⟨g1,kv,g2,g3⟩:=E i _ e;obtain⟨j,g⟩:=Px (hm kv (Aj g2));have M:j<ys.length:=by have:=(B5.mp g).1;omega
  have y:ys[j]?=some ys[j]:=Ai M;obtain⟨f1,Y,f2,x⟩:=F j ys[j] y;rw[g] at f2;obtain rfl:=Ah f2;have N:kv.1=k.map Sum.inl:=by
   have:=congrArg (·[i]?) hp;simp only[Af,g2,g1,AS,AW] at this;exact this
  have O:kv.1=ys[j].1.map Sum.inl:=by
   have:=congrArg (·[j]?) o;simp only[Af,g,f1,AS,AW] at this;exact this
  have P:ys[j].1=k:=eJ.mp (O.symm.trans N);have c:=congrArg (·[i]?) D;simp only[Af,g2,AS] at c;cases en:ns[i]? with
  |none=>rw[en] at c;simp at c
  |some n=>
   rw[en] at c;have Q:kv.2=V.int n:=by simpa using c
   rw[Q] at g3 x;obtain⟨t,J⟩:=(show ∃t,v=Value.int n t from g3);obtain⟨t',L⟩:=(show ∃t,ys[j].2.2=Value.int n t from x);refine⟨j,ys[j].2.1,n,t,t',J,?_⟩;rw[y,<-P,<-L]
 ·exact DEq.G1 (knd:=tupleKind (intKind X.prog X.w)) q u (d _ _) (f _ _) ω l
def G2(hu:X.A.units+64<cLine):cg X (AZ .NotEq) (fun x y H Q=>∃a b r,x=.ref a/\y=.ref b/\fT H a b r/\Q (.bl (!r)) H):=by
 intro aa s σ H x y v u Q I c d h;obtain⟨a,b,r,rfl,rfl,hc,q⟩:=h;cases c;cases d;obtain⟨e,f,g⟩:=MW I hu hc;exact DEq.MV ω e f g ⟨.bl (!r),H,I,rfl,q⟩
end
end L2
end
section
namespace K65
open K1
open PySem L2 STb
abbrev uP:Stmt:=top 15
abbrev Dr:Stmt:=top 16
abbrev Ds:Stmt:=top 19
section
variable{P:Program}{w:World}{K:Ae}{mg:Str->Option Value}{base:Heap}{f:Addr}{fd:FuncData}
def MX{H2:Hp}{L d D:Addr}{as:List Addr}{b seq:Ξ}{Q:VK}(i:SqL K H2 L (as.map V.ref))(ht:Tps H2 as b)(hd:H2 d=some (.dT (fg seq)))(hz:b.length<=1000)(c:H2 D=none)(k:∀(H3:Hp),Same H2 H3->H3 D=some (.lst ((b.map fun p=>decide (p∈seq)).map V.bl))->Q (.ref D) H3):cG (dI K L) (zU 0) bT (i6 (ay 0) (ay 1)) [none,some (.ref d)] H2 D Q:=by
 have l:=ht.length;refine zN (xs:=as.map V.ref) (fun j σ ys H3=>∃(v:Option V),σ=[v,some (.ref d)]/\Same H2 H3/\H3 D=some (.lst ys)/\ys=((b.map fun p=>decide (p∈seq)).take j).map V.bl) ?_ ?_ ?_ ?_
 ·exact⟨none,rfl,Same.new c,ac,rfl⟩
 ·rintro j σ ys H3 ⟨v,rfl,sm,a,rfl⟩
  exact sm.seq i
 ·rintro j σ ys H3 x hx f hy ⟨v,rfl,sm,a,rfl⟩
  obtain⟨o,g,rfl⟩:=dz hx;obtain⟨p,ep,hp⟩:=ht.get g;have h:(as.map V.ref).length<=sizeLine:=by rw[Ab];exact zg ω
  have e:(b.map fun p=>decide (p∈seq))[j]?=some (decide (p∈seq)):=by rw[Af,ep];rfl
  refine cw ⟨_,rfl,_,rfl,d,_,rfl,DGet.t (k:=p.map Sum.inl) (sm _ _ hd) (by rw[Ak];exact sm.tp hp),?_⟩;rw[F2];exact bi h f hy a ⟨_,rfl,sm.then c,ac,by rw[AE e,Ao];rfl⟩
 ·rintro σ ys H3 ⟨v,rfl,sm,a,rfl⟩
  rw[AA (by rw[Ab,Ab];omega)] at a;exact k H3 sm a
def G3(K:Ae):Sp:=fun vs H Q _=>∃l as ab,vs=[.ref l]/\SqL K H l (as.map V.ref)/\Tps H as ab/\ab.length<=200/\∀b H',(b=true↔cp ab)->Same H H'->Q (.bl b) H'
def Dt:zr ["order","seen","piece"] ["order"] (zh uP):=⟨rfl,rfl,rfl,δ,rfl,δ,δ⟩
def MY{Y:Tok}(F:Fun K "is_order" "is_order" uP f fd)(B:Bt mg)(oh:mg "MOST_PIECES"=some (.int 200 Y))(Ci:Cl P w K mg base aG "is_piece" ["numbers"] 1 FD)(Cr:Cl P w K mg base aG "rims_of" ["piece"] 1 kH):FnOk P w K mg base aG 2 f fd ["order"] (G3 K):=by
 refine F.ok Dt (fun vs H Q E h=>?_) (fun cdv A outer s H vs Q E hr h=>?_)
 ·obtain⟨l,as,ab,rfl,_⟩:=h;rfl
 ·obtain⟨l,as,ab,rfl,u,ht,aS,k⟩:=h
  have hu:=ev hr;refine⟨_,ze (zR (zn oj (zm zl rfl B.len cV (zc (pv 0) zd)) (qN rfl oh (v:=.int 200) ⟨_,rfl⟩) (au _)) (zi (zq dY)) zt)
   (ze (zo (i:=1) Dt.nd rfl (Or.inr rfl) i7)
   (ze (d0 AM rfl (zI (pv 0)) (zk (i:=2) Dt.nd rfl (Or.inl rfl))
    (ze (zR (PW.pt (j1 (gh (iN (zy Ci hr rfl ax (zc (pv 2) zd)))) (lu (wa (ro hu (pv 2) (pv 1)) (by with_unfolding_all rfl))))) (zi (zq dY)) zt)
    (ze (zR (gh (iN (zm (mD rfl) rfl B.all mL (zc (zv ["order","seen","piece"] ["rim","seen"] [none,some 1] (zI (zy Cr hr rfl ax (zc (pv 2) zd))) (fun J C s₀ H₀ ex=>zk (i:=0) (cv ["rim","seen"]) rfl (Or.inl rfl)) (fun J C s₀ H₀ ex=>zP)
     (fun J C s₀ H₀ ex=>Ef (ro hu (pv 0) (pv 1)) (by with_unfolding_all rfl)) (hfr:=b_ (zh uP) δ) (te:=i6 (ay 0) (ay 1))) zd)))) (zi (zq dY)) zt)
    (zi (fO hu (pv 1) (pv 2) dY rfl)))))
   (zi (zq dY)))),?_⟩
  have U:=ht.length;refine⟨_,rfl,l,_,rfl,.inl u,_,_,rfl,rfl,_,rfl,?_⟩;rw[Ab,RN ω];refine aO fun d hd=>?_;refine⟨_,rfl,l,rfl,⟨_,(Same.new hd).seq u⟩,iU (K:=K) (a:=l) (xs:=as.map V.ref) (fun i σ H2=>∃(v:Option V),σ=[some (.ref l),some (.ref d),v]/\Same H H2/\H2 d=some (.dT (fg (ab.take i)))/\cp (ab.take i))
   ⟨none,rfl,Same.new hd,ac,GI⟩ (fun i σ H2 _ ⟨_,_,sm,_⟩=>sm.seq u) ?_ ?_⟩
  ·rintro i x σ H2 hx ⟨v,rfl,sm,g,j⟩
   obtain⟨a,T,rfl⟩:=dz hx;obtain⟨p,ep,hp⟩:=ht.get T;have hi:i<ab.length:=(B5.mp ep).1;have y:iF (ab.take i) p=false->∀H',Same H H'->Q (.bl false) H':=fun e H' s'=>k false H' ⟨fun z=>(by cases z),fun z=>by rw[z i p ep] at e;cases e⟩ s';refine⟨_,rfl,a,p,rfl,sm.tp hp,fun H3 c=>⟨_,rfl,?_⟩⟩;cases cu:e_ p with
   |false=>exact aK (y (by unfold iF;rw[cu];rfl) H3 (sm.trans c))
   |true=>
   have W:p.length<=5:=(jo.mp (by rw[<-rQ];exact cu)).2.1;refine aO ⟨_,rfl,_,rfl,d,_,rfl,DGet.t (k:=p.map Sum.inl) (c _ _ g) (by rw[Ak];exact(sm.trans c).tp hp),_,rfl,?_⟩;rw[F2]
   by_cases b:p∈ab.take i
   ·rw[RM b]
    exact aK (y (by unfold iF;rw[cu,RM b];rfl) H3 (sm.trans c))
   rw[RN b];have N:=sm.trans c;refine aO ⟨_,rfl,a,p,rfl,N.tp hp,W,fun RL H4 rs o _ L O=>⟨RL,rfl,⟨_,SqL.of L⟩,fun D S=>zE (MX (SqL.of L) O (o _ _ (c _ _ g)) (AC (kE p) ω) S fun H5 M q=>⟨D,_,rfl,SqL.of q,_,rfl,?_⟩)⟩⟩;have G:=N.trans (o.trans M);have X:=M _ _ (o _ _ (c _ _ g));cases hall:(((rims p).map fun r=>decide (r∈ab.take i)).all id) with
   |false=>exact aK (y (by unfold iF;rw[List.all_map] at hall;rw[show((rims p).all fun r=>decide (r∈ab.take i))=false from hall,QU]) H5 G)
   |true=>
   have I:iF (ab.take i) p=true:=by unfold iF;rw[List.all_map] at hall;rw[cu,RN b,show((rims p).all fun r=>decide (r∈ab.take i))=true from hall];rfl
   refine aO ⟨_,rfl,_,rfl,d,_,rfl,DPut.t (k:=p.map Sum.inl) X (by rw[Ak];exact G.tp hp) (zX (AC (FF _) (by rw[AD];omega))),⟨_,rfl,G.then hd,?_,?_⟩⟩
   ·rw[ac,FG,<-AE ep]
   ·rw[AE ep];exact GJ j I
  ·rintro σ H2 ⟨v,rfl,sm,g,j⟩
   rw[Ab,U,take_all] at j;exact k true H2 ⟨fun _=>j,fun _=>rfl⟩ sm
def Du(K:Ae):Sp:=fun vs H Q _=>∃l as ab,vs=[.ref l]/\SqL K H l (as.map V.ref)/\Tps H as ab/\ab.length<=200/\cp ab/\∀H',Same H H'->Q .non H'
def MZ:zr ["order"] ["order"] (zh Dr):=⟨rfl,rfl,rfl,δ,rfl,δ,δ⟩
def M0(F:Fun K "must_be_order" "must_be_order" Dr f fd)(g:Cl P w K mg base aG "is_order" ["order"] 2 (G3 K)):FnOk P w K mg base aG 3 f fd ["order"] (Du K):=by
 refine F.ok MZ (fun vs H Q E h=>?_) (fun cdv A outer s H vs Q E hr h=>?_)
 ·obtain⟨l,as,ab,rfl,_⟩:=h;rfl
 ·obtain⟨l,as,ab,rfl,c,ht,d,e,k⟩:=h
  refine⟨_,zi (zR (gh (iN (zy g hr rfl ax (zc (pv 0) zd)))) Ej zt),?_⟩;refine⟨_,rfl,l,as,ab,rfl,c,ht,d,fun b H1 hb a=>⟨_,rfl,?_⟩⟩;obtain rfl:b=true:=hb.mpr e;exact aO (k H1 a)
def Dv:Sp:=fun vs H Q _=>∃p:Int,vs=[.int p]/\(p=2\/p=3\/p=5\/p=7)/\Q .non H
def M3:zr ["prime"] ["prime"] (zh Ds):=⟨rfl,rfl,rfl,δ,rfl,δ,δ⟩
def M4{t:Addr}(F:Fun K "must_be_prime" "must_be_prime" Ds f fd)(a:mg "PRIMES"=some (.ref t))(hT:∀H,SqT K H t [.int 2,.int 3,.int 5,.int 7]):FnOk P w K mg base aG 1 f fd ["prime"] Dv:=by
 refine F.ok M3 (fun vs H Q E h=>?_) (fun cdv A outer s H vs Q E hr h=>?_)
 ·obtain⟨p,rfl,_⟩:=h;rfl
 ·obtain⟨p,rfl,hp,k⟩:=h
  refine⟨_,zi (zR (zn Jd (pv 0) (qN (v:=.ref t) rfl a rfl) (by with_unfolding_all rfl)) Ej zt),?_⟩;refine⟨_,rfl,t,_,rfl,.inr (hT _),rfl,rfl,_,rfl,?_⟩;rcases hp with rfl|rfl|rfl|rfl<;>exact aO k
end
end K65
end
section
namespace L2
open PySem PySem.Spec PyProof.Rows
structure Pl(o:HO):Prop where
 t:∀ps,o≠.tbl ps
 d:∀k,o≠.dT k
 z:∀ob k,o≠.frz ob (.dT k)
structure SF(P:Addr)(pos:Pos)(q:Str)(H H':Hp):Prop where
 keep:∀b o,Pl o->H b=some o->H' b=some o
 rd:∀{b kvs},Rd H b (.dT kvs)->Rd H' b (.dT kvs)
 dom:∀{b},H' b=none->H b=none
 tab:Tab H P pos q->Tab H' P pos q
section
variable{P:Addr}{pos:Pos}{q:Str}{H H' H1 H2:Hp}{a b d l:Addr}
def SF.refl(H:Hp):SF P pos q H H:=⟨fun _ _ _ h=>h,fun h=>h,fun h=>h,fun h=>h⟩
def SF.trans(x:SF P pos q H H1)(y:SF P pos q H1 H2):SF P pos q H H2:=⟨fun b o n h=>y.keep b o n (x.keep b o n h),fun h=>y.rd (x.rd h),fun h=>x.dom (y.dom h),fun h=>y.tab (x.tab h)⟩
def Same.sf(s:Same H H'):SF P pos q H H':=⟨fun b o _ h=>s b o h,fun h=>h.same s,fun h=>s.free h,fun t=>t.same s⟩
def M5{xs:List V}:Pl (.lst xs):=⟨(fun _ z=>nomatch z),(fun _ z=>nomatch z),(fun _ _ z=>nomatch z)⟩
def M6{xs:List V}:Pl (.tup xs):=⟨(fun _ z=>nomatch z),(fun _ z=>nomatch z),(fun _ _ z=>nomatch z)⟩
def M7{xs:List (Key×V)}:Pl (.dK xs):=⟨(fun _ z=>nomatch z),(fun _ z=>nomatch z),(fun _ _ z=>nomatch z)⟩
def SF.lst(x:SF P pos q H H'){xs:List V}(h:H a=some (.lst xs)):H' a=some (.lst xs):=x.keep _ _ M5 h
def SF.tup(x:SF P pos q H H'){xs:List V}(h:H a=some (.tup xs)):H' a=some (.tup xs):=x.keep _ _ M6 h
def SF.dK(x:SF P pos q H H'){xs:List (Key×V)}(h:H a=some (.dK xs)):H' a=some (.dK xs):=x.keep _ _ M7 h
def SF.tp(x:SF P pos q H H'){ps:List Int}(h:Tp H a ps):Tp H' a ps:=x.tup h
def SF.tps(x:SF P pos q H H'){as:List Addr}{ab:Ξ}(h:Tps H as ab):Tps H' as ab:=Paired.mapP h fun _ _ q=>x.tp q
def SF.seq{K:Ae}(x:SF P pos q H H'){xs:List V}(h:SqL K H l xs):SqL K H' l xs:=by
 rcases h with (z|⟨o,z⟩)|z
 ·exact .inl (.inl (x.lst z))
 ·exact .inl (.inr ⟨o,x.keep _ _ ⟨(fun _ z=>nomatch z),(fun _ z=>nomatch z),(fun _ _ z=>nomatch z)⟩ z⟩)
 ·exact .inr z
def Tab.off{o b:HO}(t:Tab H P pos q)(h:H a=some b)(h1:∀ps,b≠.tbl ps)(h2:∀ob u,b≠.frz ob u):Tab (upd H a o) P pos q:=by
 have d:P≠a:=fun z=>by subst z;rcases t with e|⟨_,e,_⟩<;>exact h1 _ (Ah (h.symm.trans e))
 rcases t with e|⟨c,e,f,vs,g,e2,r⟩
 ·exact .inl (by rw[ae d];exact e)
 ·exact .inr ⟨c,by rw[ae d];exact e,f,vs,g,by rw[ae (fun z=>by subst z;exact h2 _ _ (Ah (h.symm.trans e2)))];exact e2,r⟩
def ny{kvs:List (List Key×V)}(h:Rd H d (.dT kvs)):∃o,H d=some o:=by
 rcases h with e|⟨o,e⟩
 ·exact⟨_,e⟩
 ·exact⟨_,e⟩
def SF.put{o c:HO}(x:SF P pos q H H1)(f:H a=none)(h:H1 a=some c)(h1:∀ps,c≠.tbl ps:=by intro ps z;cases z)(h2:∀ob u,c≠.frz ob u:=by intro ob u z;cases z):SF P pos q H (upd H1 a o):=by
 have ne:∀{b:Addr}{u:HO},H b=some u->b≠a:=fun e=>zj e f;refine⟨fun b u n e=>by rw[ae (ne e)];exact x.keep b u n e,fun{b k} e=>?_,fun{b} e=>?_,fun t=>(x.tab t).off h h1 h2⟩
 ·obtain⟨u,d⟩:=ny e
  unfold Rd;rw[ae (ne d)];exact x.rd e
 ·by_cases z:b=a
  ·subst z;rw[ac] at e;cases e
  ·rw[ae z] at e;exact x.dom e
def SF.new{o:HO}(x:SF P pos q H H1)(h:H1 a=none):SF P pos q H (upd H1 a o):=x.trans (Same.sf (Same.new h))
def SF.one{kvs:List (List Key×V)}(hd:Rd H d (.dT kvs))(h:Rd H1 d (.dT kvs))(a:∀b,b≠d->H1 b=H b):SF P pos q H H1:=by
 have nd:∀{b:Addr}{u:HO},H b=some u->(∀k,u≠.dT k)->(∀ob k,u≠.frz ob (.dT k))->b≠d:=fun{b u} e n1 n2 z=>by
  subst z;rcases hd with r|⟨ob,r⟩
  ·exact n1 _ (Ah (e.symm.trans r))
  ·exact n2 _ _ (Ah (e.symm.trans r))
 refine⟨fun b u n e=>by rw[a b (nd e n.d n.z)];exact e,fun{b k} e=>?_,fun{b} e=>?_,fun t=>?_⟩
 ·by_cases z:b=d
  ·subst z
   have:HO.dT k=HO.dT kvs:=by
    rcases e with e|⟨j,e⟩<;>rcases hd with r|⟨l,r⟩<;>rw[e] at r<;>cases r<;>rfl
   rw[this];exact h
  ·unfold Rd;rw[a b z];exact e
 ·by_cases z:b=d
  ·subst z
   obtain⟨u,f⟩:=ny h;rw[e] at f;cases f
  ·rw[a b z] at e;exact e
 ·rcases t with e|⟨c,e,g,vs,i,e2,r⟩
  ·exact .inl (by rw[a _ (nd e (fun _ z=>nomatch z) (fun _ _ z=>nomatch z))];exact e)
  ·exact .inr ⟨c,by rw[a _ (nd e (fun _ z=>nomatch z) (fun _ _ z=>nomatch z))];exact e,g,vs,i,by rw[a _ (nd e2 (fun _ z=>nomatch z) (fun _ _ z=>nomatch z))];exact e2,r⟩
def SF.lam(s:zaJ H H1)(a:∀b ps,b≠P->H b=some (.tbl ps)->H1 b=some (.tbl ps))(tb:Tab H1 P pos q):SF P pos q H H1:=
 ⟨fun b o n e=>s b o n.t e,fun{b k} e=>by
  rcases e with e|⟨o,e⟩
  ·exact .inl (s _ _ (fun _ z=>nomatch z) e)
  ·exact .inr ⟨o,s _ _ (fun _ z=>nomatch z) e⟩,fun h=>s.free a tb h,fun _=>tb⟩
end
section
variable{X:Cx}{scope:Scope}{N':List Str}{ak:List (Option Nat)}{tg iter bv:Expr}{aV:List Expr}{wi:TI}{g:TG}{tc:TT}{te:TE}{pos:Pos}
def M8{i:Nat}{x:Str}{aM w:Pos}(hc:X.calm=true)(hk:scope.kind=.function)(F:∀y∈scope.names,y.2=.cell->scope.names.lookup y.1=some .cell)(O:∀y∈scope.names,y.2=.free->scope.names.lookup y.1=some .free)(P:∀y∈scope.names,y.2=.local->scope.names.lookup y.1=some .local)(hfr:∀y∈scope.names,y.2=.free->X.env.kindOf y.1=some .cell\/X.env.kindOf y.1=some .free)(Q:mx X.N N' ak scope)(hi:PI X tg iter wi)(S:∀j C s₀ H₀ ex,PG (cxD X scope N' j C s₀ H₀ ex) tg g)(ht:∀j C s₀ H₀ ex,ix (cxD X scope N' j C s₀ H₀ ex) aV tc)(he:∀j C s₀ H₀ ex,PE (cxD X scope N' j C s₀ H₀ ex) bv te)(T:∀x,foldedSetIterable iter X.env x=pure x)(U:X.N.Nodup)(p:X.N[i]?=some x)(hx:Loc X.env.scope x)(hf:X.fn x=true\/X.env.scope.names.lookup x=some .local)(W:swapsWith (.ListComp bv [⟨tg,iter,aV,0⟩] scope pos) (some (.Name x aM)) w.line X.env=pure true):PS X (.Assign [.Name x aM] (.ListComp bv [⟨tg,iter,aV,0⟩] scope pos) w) (gj (jD wi ak g tc te) (zU i)):=by
 intro aa s σ H D I h;rw[exec_Assign_Name_used _ _ _ _ W];refine Aa (wpAny_standAt (Aa ?_));show wpAny _ X.A (do let _ <-comprehension (.ListComp bv [⟨tg,iter,aV,0⟩] scope pos) scope X.env _ (newList []) (firstAsync [⟨tg,iter,aV,0⟩]) (firstIter [⟨tg,iter,aV,0⟩] X.env) (some (assign (.Name x aM) X.env))) _ _ s;refine Aa (wpAny_mono (E9 (use:=some (assign (.Name x aM) X.env)) (R:=fun _ s'=>SP X aa D .next s') hc hk F O P hfr Q hi S ht he T I h fun E C H' r f L q=>?_) (fun _ s' hq=>Ac (Ac hq)) fun _ _ e=>e);show wpAny _ X.A (assign (.Name x aM) X.env (.ref E)) _ _ r;refine wpAny_assign_Name (Ec (v:=.ref E) (L.back r.heap (Heap.SameBut.refl _ _)) U p hx rfl (fun G I5 ⟨a,l,ha⟩=>?_) hf);have M:C≠a:=by
  rcases ha with e|e
  ·rw[e];exact L.nl
  ·exact fun z=>L.nc x a e z.symm
 obtain⟨m,J⟩:=L.ns;refine⟨m,J.sameBut l M,fun h' d=>⟨_,H',?_,q⟩⟩;refine I5.call' (s':={G with heap:=h'}) (ch:=[C]) rfl ⟨fun b o q n hb hx=>?_,fun b o q n hb hx=>?_,fun b o q n hx=>n,fun b o q hx=>?_,fun b xs q=>q,fun b o u q=>q,fun b ps q=>⟨#[],by simpa using q⟩⟩ ?_ I5.bare fun b hb=>?_
 ·exact(d.2 b (by simpa using hx)).trans q
 ·exact⟨o.slots,(d.2 b (by simpa using hx)).trans q⟩
 ·exact⟨o,(d.2 b (by simpa using hx)).trans q⟩
 ·intro b u e
  refine(I5.hok b u e).stay (fun c v hc q=>(d.2 c ?_).trans q) (fun _ q=>q) fun _ _ q=>q;rintro rfl;rcases hc with z|z
  ·rw[<-z,L.no] at e;cases e
  ·rw[L.no] at z;cases z
 ·have e:b=C:=by simpa using hb
  subst e;exact⟨.inr L.far,L.nl,L.nc,L.np⟩
def M9{i:Nat}{x:Str}{aM d:Pos}(hc:X.calm=true)(hk:scope.kind=.function)(b:∀y∈scope.names,y.2≠.cell)(f:∀y∈scope.names,y.2=.free->scope.names.lookup y.1=some .free)(h:∀y∈scope.names,y.2=.local->scope.names.lookup y.1=some .local)(hfr:∀y∈scope.names,y.2=.free->X.env.kindOf y.1=some .cell\/X.env.kindOf y.1=some .free)(j:mx X.N N' ak scope)(hi:PI X tg iter wi)(l:∀a C s₀ H₀ ex,PG (ew X scope N' a C s₀ H₀ ex) tg g)(ht:∀a C s₀ H₀ ex,ix (ew X scope N' a C s₀ H₀ ex) aV tc)(he:∀a C s₀ H₀ ex,PE (ew X scope N' a C s₀ H₀ ex) bv te)(o:∀x,foldedSetIterable iter X.env x=pure x)(p:X.N.Nodup)(c:X.N[i]?=some x)(hx:Loc X.env.scope x)(hf:X.fn x=true\/X.env.scope.names.lookup x=some .local)(q:swapsWith (.ListComp bv [⟨tg,iter,aV,0⟩] scope pos) (some (.Name x aM)) d.line X.env=pure true):PS X (.Assign [.Name x aM] (.ListComp bv [⟨tg,iter,aV,0⟩] scope pos) d) (gj (jD wi ak g tc te) (zU i)):=
 M8 hc hk (fun y hy e=>absurd e (b y hy)) f h hfr j hi (fun a C s₀ H₀ ex=>mB (X:=X) (N':=N') b a C s₀ H₀ ex▸l a C s₀ H₀ ex) (fun a C s₀ H₀ ex=>mB (X:=X) (N':=N') b a C s₀ H₀ ex▸ht a C s₀ H₀ ex) (fun a C s₀ H₀ ex=>mB (X:=X) (N':=N') b a C s₀ H₀ ex▸he a C s₀ H₀ ex) o p c hx hf q
end
section
variable{X:Cx}{scope:Scope}{ak:List (Option Nat)}{tg iter bv:Expr}{aV:List Expr}{wi:TI}{g:TG}{tc:TT}{te:TE}{pos:Pos}
def G4{i:Nat}{x:Str}{aM d:Pos}(b:X.N.Nodup)(c:X.N[i]?=some x)(hx:Loc X.env.scope x)(N N':List Str)(ak:List (Option Nat))(hi:PI X tg iter wi)(e:∀a C s₀ H₀ ex,PG (ew X scope N' a C s₀ H₀ ex) tg g)(ht:∀a C s₀ H₀ ex,ix (ew X scope N' a C s₀ H₀ ex) aV tc)(he:∀a C s₀ H₀ ex,PE (ew X scope N' a C s₀ H₀ ex) bv te)(hc:X.calm=true:=by rfl)(hk:scope.kind=.function:=by rfl)(f:∀y∈scope.names,y.2≠.cell:=by decide +kernel)(h:∀y∈scope.names,y.2=.free->scope.names.lookup y.1=some .free:=by decide +kernel)(j:∀y∈scope.names,y.2=.local->scope.names.lookup y.1=some .local:=by decide +kernel)(hfr:∀y∈scope.names,y.2=.free->X.env.kindOf y.1=some .cell\/X.env.kindOf y.1=some .free)(l:X.N=N:=by rfl)(o:i' N N' ak scope=true:=by decide +kernel)(p:∀x,foldedSetIterable iter X.env x=pure x:=by intro _;rfl)(hf:X.fn x=true\/X.env.scope.names.lookup x=some .local:=by first|exact .inl rfl|exact .inr rfl|assumption)(q:swapsWith (.ListComp bv [⟨tg,iter,aV,0⟩] scope pos) (some (.Name x aM)) d.line X.env=pure true:=by rfl):PS X (.Assign [.Name x aM] (.ListComp bv [⟨tg,iter,aV,0⟩] scope pos) d) (gj (jD wi ak g tc te) (zU i)):=
 M9 hc hk f h j hfr (FC (by rw[l];exact o)) hi e ht he p b c hx hf q
end
def Fun.ok0c{P:Program}{w:World}{K:Ae}{mg:Str->Option Value}{base:Heap}{x a:Str}{st:Stmt}{f c:Addr}{fd:FuncData}{N ps:List Str}{k:Nat}{sp:Sp}(F:Fun K x a st f fd)(hc:fd.code=.ref c)(S:zr N ps (zh st))(len:∀vs H Q E,sp vs H Q E->vs.length=ps.length)(g:∀(A:Around)(outer:List Env)(s:Shared)(H:Hp)(vs:List V)(Q:VK)(E:XK),Room k (A.deeper (envOfC a (zh st) s⁻¹ f (.ref c)))->sp vs H Q E->
   ∃t,PSs (b0 aG P w K mg base N a (zh st) f (.ref c) A outer s H E).nox (zT st) t/\t {nx:=fun _ H'=>Q .non H',rt:=Q} (start N vs) H):FnOk P w K mg base aG (k+1) f fd ps sp:=by
 obtain⟨i,j,kV,l,o,p,cdv,ct,r,rfl,lk,d⟩:=F.ex;have e:cdv=.ref c:=hc;subst e;refine EB lk d S len fun A outer s H vs Q E hr b=>?_;obtain⟨t,h,q⟩:=g A outer s H vs Q E hr b;exact⟨t,h.nox,q⟩
end L2
namespace K65
open K1
open PySem L2 STb
abbrev Dw:Stmt:=top 21
abbrev Dx:Stmt:=top 23
abbrev uQ:Stmt:=top 24
abbrev uR:Stmt:=top 25
abbrev u0:Stmt:=top 26
def G5:AU "max"=some (.builtin "max"):=δ
abbrev nC:Pos:=⟨90,32,90,58⟩
abbrev qY:Str:=(("youngest_of":Str)++".<locals>.")++"<lambda>"
abbrev SY(Pt:Addr)(H H':Hp):Prop:=SF Pt nC qY H H'
abbrev TY(Pt:Addr)(H:Hp):Prop:=Tab H Pt nC qY
def bP(oo:Ξ):Ch:=oo.zipIdx.map fun q=>(q.1,(q.2:Int))
def Dy(oo:Ξ):ksC (bP oo)=oo:=by
 unfold ksC bP;rw[Ak];exact QF 0 oo
def k5{oo:Ξ}(nd:oo.Nodup){t:Nat}{y:List Int}(h:oo[t]?=some y):bq (kvC (bP oo)) (y.map Sum.inl)=some (.int t):=by
 have hm:(y,(t:Int))∈bP oo:=KK.mpr ⟨(y,t),by rw[Qq];exact h,rfl⟩;exact fU (by rw[Dy];exact nd) _ hm
section
variable{P:Program}{w:World}{K:Ae}{mg:Str->Option Value}{base:Heap}{f:Addr}{fd:FuncData}{Pt:Addr}
def Dz{pos:Pos}{q:Str}{H H1:Hp}{d:Addr}{kvs:List (List Key×V)}(s:zD d H H1)(hd:Rd H d (.dT kvs))(h:Rd H1 d (.dT kvs)):SF Pt pos q H H1:=by
 have nd:∀{b:Addr}{u:HO},H b=some u->(∀k,u≠.dT k)->(∀ob k,u≠.frz ob (.dT k))->b≠d:=fun{b u} e n1 n2 z=>by
  subst z;rcases hd with r|⟨ob,r⟩
  ·exact n1 _ (Ah (e.symm.trans r))
  ·exact n2 _ _ (Ah (e.symm.trans r))
 refine⟨fun b u n e=>s _ _ (nd e n.d n.z) e,fun{b k} e=>?_,fun{b} e=>?_,fun t=>?_⟩
 ·by_cases z:b=d
  ·subst z
   have:HO.dT k=HO.dT kvs:=by
    rcases e with e|⟨i,e⟩<;>rcases hd with r|⟨j,r⟩<;>rw[e] at r<;>cases r<;>rfl
   rw[this];exact h
  ·rcases e with e|⟨o,e⟩
   ·exact .inl (s _ _ z e)
   ·exact .inr ⟨o,s _ _ z e⟩
 ·by_cases z:b=d
  ·subst z
   obtain⟨u,a⟩:=ny h;rw[e] at a;cases a
  ·cases q:H b with
   |none=>rfl
   |some o=>rw[s _ _ z q] at e;cases e
 ·rcases t with e|⟨c,e,f,vs,g,e2,r⟩
  ·exact .inl (s _ _ (nd e (fun _ z=>nomatch z) (fun _ _ z=>nomatch z)) e)
  ·exact .inr ⟨c,s _ _ (nd e (fun _ z=>nomatch z) (fun _ _ z=>nomatch z)) e,f,vs,g,s _ _ (nd e2 (fun _ z=>nomatch z) (fun _ _ z=>nomatch z)) e2,r⟩
def G6{H2:Hp}{d D:Addr}{o:Obj}{cs:Ch}{rest:List (Option V)}{te:TE}{g:List Int×Int->Int}{Q:VK}(hd:H2 d=some (.frz o (.dT (kvC cs))))(hz:cs.length<=1000)(step:∀(c:List Int×Int)(b:Addr)(H3:Hp)(R:VK),c∈cs->Same H2 H3->Tp H3 b c.1->(∀t,H3 t=none->R (.ref t) (upd H3 t (.tup [.ref b,.int (g c)])))->te (some (.ref b)::rest) H3 R)(q:H2 D=none)(k:∀(H3:Hp)(ts:List Addr),Same H2 H3->H3 D=some (.lst (ts.map V.ref))->Prs H3 ts (cs.map fun c=>(c.1,g c))->Q (.ref D) H3):cG (kP d o (kvC cs)) (zU 0) bT te (none::rest) H2 D Q:=by
 refine iA cs.length (fun j σ ys H3=>∃(v:Option V)(ts:List Addr),σ=v::rest/\Same H2 H3/\H3 D=some (.lst ys)/\ys=ts.map V.ref/\Prs H3 ts ((cs.map fun c=>(c.1,g c)).take j)) ?_ ?_ ?_ ?_ ?_
 ·exact⟨none,[],rfl,Same.new q,ac,rfl,.nil⟩
 ·rintro σ ys H3 ⟨v,ts,rfl,sm,a,rfl,hp⟩
  exact⟨(zA cs).symm,sm _ _ hd⟩
 ·rintro i σ ys H3 hi ⟨v,ts,rfl,sm,a,rfl,hp⟩
  exact⟨by rw[zA];exact hi,sm _ _ hd⟩
 ·rintro i σ ys H3 x H' hi hy ⟨v,ts,rfl,sm,a,rfl,hp⟩ ⟨rfl,kv,b,u,rfl,l⟩
  obtain⟨c,p,rfl⟩:=sJ u;have f:=Aj p;have e:(cs.map fun c=>(c.1,g c))[i]?=some (c.1,g c):=by rw[Af,p];rfl
  refine cw (step c b _ _ f sm (p0 l) fun t r=>?_);have h:=Same.new (o:=.tup [.ref b,.int (g c)]) r;refine bi (zg ω) hi hy (h _ _ a) ⟨_,ts++[t],rfl,(sm.trans h).then q,ac,by rw[Ao];rfl,?_⟩;rw[AE e];exact Prs.upd (Prs.snoc (hp.same h) ⟨b,ac,h.tp (p0 l)⟩) (h _ _ a) (by intro xs z;cases z)
 ·rintro σ ys H3 ⟨v,ts,rfl,sm,a,rfl,hp⟩
  rw[AA (by rw[Ab];exact Ag _)] at hp;exact k H3 ts sm a hp
def DA(K:Ae):Sp:=fun vs H Q _=>∃l as oo,vs=[.ref l]/\SqL K H l (as.map V.ref)/\Tps H as oo/\oo.Nodup/\oo.length<=200/\∀D H',Same H H'->H D=none->H' D=some (.dT (kvC (bP oo)))->Q (.ref D) H'
def vd:zr ["order","times","time","piece"] ["order"] (zh Dw):=⟨rfl,rfl,rfl,δ,rfl,δ,δ⟩
def M_(F:Fun K "times_of" "times_of" Dw f fd)(B:Bt mg):FnOk P w K mg base aG 1 f fd ["order"] (DA K):=by
 refine F.ok vd (fun vs H Q E h=>?_) (fun cdv A outer s H vs Q E hr h=>?_)
 ·obtain⟨l,as,oo,rfl,_⟩:=h;rfl
 ·obtain⟨l,as,oo,rfl,v,ht,nd,J,k⟩:=h
  have hu:=ev hr;have D:=ht.length;refine⟨_,ze (zo (i:=1) vd.nd rfl (Or.inl rfl) i7)
   (ze (d0 AM rfl (oP rfl B.enumerate oW (zc (pv 0) zd)) (iT rfl (zC (zk (i:=2) vd.nd rfl (Or.inl rfl)) (zC (zk (i:=3) vd.nd rfl (Or.inl rfl)) iP)))
    (zi (fO hu (pv 1) (pv 3) (pv 2) rfl)))
   (zi (zq (pv 1)))),?_⟩
  intro d hd;refine⟨_,rfl,l,rfl,⟨_,(Same.new hd).seq v⟩,B7 (K:=K) (a:=l) (xs:=as.map V.ref) (fun i σ H2=>∃(c g:Option V),σ=[some (.ref l),some (.ref d),c,g]/\Same H H2/\H2 d=some (.dT (kvC ((bP oo).take i))))
   ⟨none,none,rfl,Same.new hd,ac⟩ (fun i σ H2 _ ⟨_,_,_,sm,_⟩=>sm.seq v) ?_ ?_⟩
  ·rintro i x p σ H2 hx ⟨c,g,rfl,sm,b⟩ hp
   obtain⟨a,C,rfl⟩:=dz hx;obtain⟨y,q,hy⟩:=ht.get C;have u:=Same.new (o:=.tup [.int i,.ref a]) hp;have e:(bP oo)[i]?=some (y,(i:Int)):=by unfold bP;rw[Af,Qu,q];simp
   have hi:i<oo.length:=(B5.mp q).1;have G:y∉ksC ((bP oo).take i):=fun z=>by
    unfold ksC at z;rw[Rt] at z;have z:y∈(ksC (bP oo)).take i:=z;rw[Dy] at z;obtain⟨j,r⟩:=OV.mp z;have I:j<i:=by
     have:=(B5.mp r).1;rw[AD] at this;omega
    rw[Pp I] at r;have:=(Pz ω nd).mp (r.trans q.symm);omega
   refine⟨p,_,rfl,SqT.of ac,rfl,_,_,rfl,_,_,rfl,rfl,?_⟩;refine⟨_,rfl,_,rfl,_,rfl,d,_,rfl,DPut.t (k:=y.map Sum.inl) (u _ _ b) (by rw[Ak];exact u.tp (sm.tp hy)) (zX (by rw[zA,AD];omega)),⟨_,_,rfl,(sm.trans u).then hd,?_⟩⟩;rw[ac,kT,CZ _ G,AE e]
  ·rintro σ H2 ⟨c,g,rfl,sm,b⟩
   have:(as.map V.ref).length=(bP oo).length:=by unfold bP;rw[Ab,Ab,QO];exact D
   rw[this,take_all] at b;exact⟨_,rfl,k d H2 sm hd b⟩
def Yst(oo:Ξ)(cs:Ch)(y:List Int)(t:Nat):Prop:=y∈ksC cs/\oo[t]?=some y/\∀x∈ksC cs,∀u,oo[u]?=some x->u<=t
def ve(Pt:Addr):Sp:=fun vs H Q _=>∃d T cs oo,vs=[.ref d,.ref T]/\Rd H d (.dT (kvC cs))/\Rd H T (.dT (kvC (bP oo)))/\oo.Nodup/\cs≠[]/\(∀q∈ksC cs,q∈oo)/\TY Pt H/\
 ∀b y t H',SY Pt H H'->Tp H' b y->Yst oo cs y t->Q (.ref b) H'
def Na:zr ["chain","times"] ["chain","times"] (zh Dx):=⟨rfl,rfl,rfl,δ,rfl,δ,δ⟩
def Nb{c:Addr}(F:Fun K "youngest_of" "youngest_of" Dx f fd)(B:Bt mg)(X:mg "max"=none)(Y:fd.code=.ref c)(hC:PySem.W.CodeHd base c Pt)(ii:BM mg base):FnOk P w K mg base aG 4 f fd ["chain","times"] (ve Pt):=by
 refine F.ok0c Y Na (fun vs H Q E h=>?_) (fun A outer s H vs Q E hr h=>?_)
 ·obtain⟨d,T,cs,oo,rfl,_⟩:=h;rfl
 ·obtain⟨d,T,cs,oo,rfl,hd,hT,nd,C,i,tb,k⟩:=h
  refine⟨_,zi (zq (MN (k:=1) (iy:=1) (x:="piece") (y:="times") (te:=io (ay 1) (ay 0)) hr rfl X G5 hC rfl ii rfl rfl rfl rfl ⟨rfl,rfl,rfl,rfl,rfl,δ,MO⟩ (fun _ _ _ _ _ _=>rfl)
    (fun s H f ag c'=>zQ (ev ((Room.in1 hr).deeper _)) (pv 1) (pv 0) (fun _ _=>rfl)) (zc (zp (zM rfl) rfl B.list eD (zc (pv 0) zd)) zd) rfl)),?_⟩
  refine⟨_,rfl,d,kvC cs,rfl,hd,fun bs J L M=>?_⟩;have tk:=jL J;have I:=tk.length;rw[eR] at I;have p:=Same.new (o:=.lst (bs.map V.ref)) M;have BN:∀y∈ksC cs,∃t:Nat,oo[t]?=some y:=fun y hy=>OV.mp (i y hy);have D:∀y∈ksC cs,oo[oo.idxOf y]?=some y:=fun y hy=>by
   have h:=List.idxOf_lt_length_of_mem (i y hy);rw[Ai h,List.getElem_idxOf h]
  refine⟨L,bs,(ksC cs).map fun y=>(oo.idxOf y:Int),.ref T,rfl,SqL.of ac,by rw[Ab,eR];omega,?_,rfl,tb.same p,fun H2 b j a n v g=>?_,fun H2 j a n b N O v g S=>?_⟩
  ·cases cs with
   |nil=>exact absurd rfl C
   |cons c r=>simp at I;omega
  ·obtain⟨y,l,hy⟩:=(p.tps tk).get v
   rw[Af,l] at g;obtain rfl:=Ah g;have q:=Aj l;have U:Rd H2 T (.dT (kvC (bP oo))):=by
    rcases hT.same p with e|⟨o,e⟩
    ·exact .inl (b _ _ (fun _ z=>nomatch z) e)
    ·exact .inr ⟨o,b _ _ (fun _ z=>nomatch z) e⟩
   refine⟨_,rfl,_,rfl,T,.int (oo.idxOf y),rfl,.inr ⟨kvC (bP oo),y.map Sum.inl,a,U,rfl,by rw[Ak];exact b.tp hy,(k5 nd (D y q)).symm⟩,rfl,rfl⟩
  ·obtain⟨y,l,hy⟩:=(p.tps tk).get v
   rw[Af,l] at g;obtain rfl:=Ah g;have q:=Aj l;refine k a y (oo.idxOf y) H2 ((Same.sf p).trans (SF.lam b N O)) (b.tp hy) ⟨q,D y q,fun x hx u G=>?_⟩;have h1:=S (oo.idxOf x:Int) (KK.mpr ⟨x,hx,rfl⟩);have h2:=(Pz (B5.mp G).1 nd).mp (G.trans (D x hx).symm);have h1:((oo.idxOf x:Nat):Int)<=((oo.idxOf y:Nat):Int):=h1;omega
def vi(Pt:Addr):Sp:=fun vs H Q _=>∃d cs p,vs=[.ref d,.int p]/\Rd H d (.dT (kvC cs))/\(ksC cs).Nodup/\cs.length<=1000/\0<p/\∀D H',SY Pt H H'->H D=none->H' D=some (.dT (kvC (md p cs)))->Q (.ref D) H'
def Nc:zr ["chain","prime"] ["chain","prime"] (zh uQ):=⟨rfl,rfl,rfl,δ,rfl,δ,δ⟩
abbrev Nd:TE:=ck (zH (ay 0) (zH (bY (rI (fun _ j=>0<j) fun i j=>.int (i%j)) (io (ay 1) (ay 0)) (ay 2)) bb))
def Nf(F:Fun K "taken_by" "taken_by" uQ f fd)(I:Cl P w K mg base aG "sum_of" ["terms"] 1 (sE K)):FnOk P w K mg base aG 2 f fd ["chain","prime"] (vi Pt):=by
 refine F.ok Nc (fun vs H Q E h=>?_) (fun cdv A outer s H vs Q E hr h=>?_)
 ·obtain⟨d,cs,p,rfl,_⟩:=h;rfl
 ·obtain⟨d,cs,p,rfl,hd,nd,hz,hp,k⟩:=h
  have hu:=ev hr;refine⟨_,zi (zq (zy I hr rfl ax (zc (zv ["chain","prime"] ["piece","chain","prime"] [none,some 0,some 1] (pD (pv 0)) (fun e C s₀ H₀ ex=>zk (i:=0) (cv ["piece","chain","prime"]) rfl (Or.inl rfl)) (fun e C s₀ H₀ ex=>zP)
   (fun e C s₀ H₀ ex=>dL (zc (pv 0) (zc (zx fy (zQ hu (pv 1) (pv 0) (fun _ _=>rfl)) (pv 2)) zd))) (hfr:=b_ (zh uQ) δ) (te:=Nd)) zd))),?_⟩
  refine⟨_,rfl,d,kvC cs,rfl,hd,fun o H1 a l=>fun D q=>zE (G6 (g:=fun c=>c.2%p) a hz (fun c b H3 R hc sm hb r=>?_) q fun H2 ts j u v=>?_)⟩
  ·refine⟨_,rfl,_,rfl,_,rfl,d,_,rfl,.inr ⟨kvC cs,c.1.map Sum.inl,b,.inr ⟨o,sm _ _ a⟩,rfl,by rw[Ak];exact hb,(fU nd c hc).symm⟩,_,rfl,_,_,rfl,rfl,hp,zg (by simp),fun t ht=>r t ht⟩
  ·have f1:SY Pt H H1:=SF.one hd (.inr ⟨o,a⟩) l
   refine⟨D,ts,_,rfl,SqL.of u,v,by rw[Ab];exact hz,fun R H3 x y G=>?_⟩;exact k R H3 (f1.trans (Same.sf (j.trans x))) (f1.dom (j.free y)) G
def G7:Sp:=fun vs H Q _=>∃a g p,vs=[.int a,.int g,.int p]/\(-(2 ^ 64)<a/\a<2 ^ 64)/\2<=p/\p<=100/\(∃k:Nat,(k:Int)<p/\p ∣ (k:Int)*a-g)/\∀(k:Int) H',0<=k->k<p->p ∣ k*a-g->Same H H'->Q (.int k) H'
def Ng:zr ["weight","goal","prime"] ["weight","goal","prime"] (zh uR):=⟨rfl,rfl,rfl,δ,rfl,δ,δ⟩
abbrev G8:TT:=eI (bY lS (bY (rI (fun _ j=>0<j) fun i j=>.int (i%j)) (bY (eu fun i j=>.int (i-j)) (bY (rI CMul fun i j=>.int (i*j)) (ay 0) (ay 1)) (ay 2)) (ay 3)) (tC (.int 0)))
def Nh{H2:Hp}{D:Addr}{a g p:Int}{n:Nat}{Q:VK}(d:n<=100)(hw:-(2 ^ 64)<a/\a<2 ^ 64)(hp:0<p)(c:H2 D=none)(k:∀H3,Same H2 H3->H3 D=some (.lst (((AJ n).filter fun j:Nat=>decide (((j:Int)*a-g)%p=0)).map fun j:Nat=>V.int j))->Q (.ref D) H3):cG (hB 0 n) (zU 0) G8 (ay 0) [none,some (.int a),some (.int g),some (.int p)] H2 D Q:=by
 refine B9 (fun j σ ys H3=>∃(v:Option V),σ=[v,some (.int a),some (.int g),some (.int p)]/\Same H2 H3/\H3 D=some (.lst ys)/\ys=(((AJ n).take j).filter fun j:Nat=>decide (((j:Int)*a-g)%p=0)).map fun j:Nat=>V.int j) ?_ ?_ ?_
 ·exact⟨none,rfl,Same.new c,ac,rfl⟩
 ·rintro i σ ys H3 hi hy ⟨v,rfl,sm,b,rfl⟩
  have e:(AJ n)[i]?=some i:=by rw[QC hi]
  refine⟨_,rfl,_,rfl,_,_,rfl,rfl,.inr hw,_,rfl,_,_,rfl,rfl,_,rfl,_,_,rfl,rfl,hp,rfl,_,rfl,?_⟩;rw[show(0:Int)+(i:Int)=i from ω]
  by_cases h:((i:Int)*a-g)%p=0
  ·rw[RM (congrArg V.int h)]
   refine aK ⟨_,rfl,bi (zg ω) hi hy b ⟨_,rfl,sm.then c,ac,?_⟩⟩;rw[AE e,Ba,Pd (by exact RM h),QK,Ao]
   rfl
  ·rw[RN (fun z=>h (by injection z))]
   refine aO (dH hi hy ⟨_,rfl,sm,b,?_⟩);rw[AE e,Ba,Pc (by simpa using h),QK,Ps]
 ·rintro σ ys H3 ⟨v,rfl,sm,b,rfl⟩
  rw[AA (by rw[Q3];exact Ag _)] at b;exact k H3 sm b
def Ni(F:Fun K "times_into" "times_into" uR f fd)(B:Bt mg):FnOk P w K mg base aG 1 f fd ["weight","goal","prime"] G7:=by
 refine F.ok Ng (fun vs H Q E h=>?_) (fun cdv A outer s H vs Q E hr h=>?_)
 ·obtain⟨a,g,p,rfl,_⟩:=h;rfl
 ·obtain⟨a,g,p,rfl,hw,h2,x,⟨k0,y,o⟩,k⟩:=h
  refine⟨_,zi (zq (zB zL (zv ["weight","goal","prime"] ["often","weight","goal","prime"] [none,some 0,some 1,some 2] (lH rfl B.range (zc (pv 2) zd)) (fun b C s₀ H₀ ex=>zk (i:=0) (cv ["often","weight","goal","prime"]) rfl (Or.inl rfl)) (fun b C s₀ H₀ ex=>i9 (zn db (zx fy (zx iW (zx gr (pv 0) (pv 1)) (pv 2)) (pv 3)) zf (au _)))
   (fun b C s₀ H₀ ex=>pv 0) (hfr:=b_ (zh uR) δ) (tc:=G8) (te:=ay 0)) zf (fun _ _=>rfl))),?_⟩
  refine⟨_,rfl,p,rfl,ω,ω,fun D d=>zE (Nh (n:=p.toNat) ω hw ω d fun H1 l c=>?_)⟩;have hm:k0∈(AJ p.toNat).filter fun j:Nat=>decide (((j:Int)*a-g)%p=0):=O0.mpr ⟨P6.mpr ω,RM (Qj o)⟩;cases e:(AJ p.toNat).filter fun j:Nat=>decide (((j:Int)*a-g)%p=0) with
  |nil=>rw[e] at hm;cases hm
  |cons j r=>
   have v:j∈(AJ p.toNat).filter fun j:Nat=>decide (((j:Int)*a-g)%p=0):=by rw[e];exact .head _
   obtain⟨q,u⟩:=O0.mp v;have:=P6.mp q;rw[e] at c;exact⟨D,_,0,.int j,rfl,rfl,SqL.of c,fz (j:=0) rfl,k j H1 ω ω (Pe (RO u)) l⟩
def G9(Pt:Addr):Sp:=fun vs H Q _=>∃d e a b k p,vs=[.ref d,.int k,.ref e,.int p]/\Rd H d (.dT (kvC a))/\Rd H e (.dT (kvC b))/\(ksC a).Nodup/\(ksC b).Nodup/\a.length<=200/\b.length<=200/\0<p/\(-(2 ^ 64)<k/\k<2 ^ 64)/\∀D H',SY Pt H H'->H D=none->H' D=some (.dT (kvC (less p a k b)))->Q (.ref D) H'
def G_:zr ["chain","often","other","prime","taken"] ["chain","often","other","prime"] (zh u0):=⟨rfl,rfl,rfl,δ,rfl,δ,δ⟩
abbrev Nj:TE:=ck (zH (ay 0) (zH (bY (rI CMul fun i j=>.int (i*j)) (qU (rU fun i=>.int (-i)) (ay 1)) (io (ay 2) (ay 0))) bb))
def Nk(F:Fun K "less_by" "less_by" u0 f fd)(B:Bt mg)(Cs:Cl P w K mg base aG "sum_of" ["terms"] 1 (sE K))(Ct:Cl P w K mg base aG "taken_by" ["chain","prime"] 2 (vi Pt)):FnOk P w K mg base aG 3 f fd ["chain","often","other","prime"] (G9 Pt):=by
 refine F.ok G_ (fun vs H Q E h=>?_) (fun cdv A outer s H vs Q E hr h=>?_)
 ·obtain⟨d,e,a,b,k,p,rfl,_⟩:=h;rfl
 ·obtain⟨d,e,a,b,n,p,rfl,hd,he,na,nb,la,lb,hp,hn,k⟩:=h
  have hu:=ev hr;refine⟨_,ze (G4 (i:=4) G_.nd rfl (Or.inl rfl) ["chain","often","other","prime","taken"] ["piece","often","other"] [none,some 1,some 2] (pD (pv 2)) (fun I C s₀ H₀ ex=>zk (i:=0) (cv ["piece","often","other"]) rfl (Or.inl rfl)) (fun I C s₀ H₀ ex=>zP)
    (fun I C s₀ H₀ ex=>dL (zc (pv 0) (zc (zx gr (lN lP (pv 1)) (zQ hu (pv 2) (pv 0) (fun _ _=>rfl))) zd))) (hfr:=b_ (zh u0) δ) (te:=Nj))
   (zi (zq (zy Ct hr rfl ax (zc (zy Cs hr rfl ax (zc (zx kc (zp (LB rfl) rfl B.list eD (zc (LA (pv 0)) zd)) (pv 4)) zd)) (zc (pv 3) zd))))),?_⟩
  refine⟨_,rfl,e,kvC b,rfl,he,fun o H1 u T=>fun D U=>zE (G6 (g:=fun c=>-n*c.2) u ω (fun c t H3 R hc sm hb W=>?_) U fun H2 ts X Y J=>?_)⟩
  ·refine⟨_,rfl,_,rfl,_,rfl,_,rfl,_,rfl,e,_,rfl,.inr ⟨kvC b,c.1.map Sum.inl,t,.inr ⟨o,sm _ _ u⟩,rfl,by rw[Ak];exact hb,(fU nb c hc).symm⟩,_,_,rfl,rfl,.inl ω,zg (by simp),fun t ht=>W t ht⟩
  ·have f1:SY Pt H H1:=SF.one he (.inr ⟨o,u⟩) T
   have f2:SY Pt H H2:=f1.trans (Same.sf X);refine⟨_,rfl,d,kvC a,rfl,rfl,f2.rd hd,fun v hv=>?_⟩;have L:=Same.new (o:=pK v d) hv;refine⟨v,d,kvC a,rfl,ac,(f2.rd hd).same L,fun j l us s4 qI jP h_=>⟨_,rfl,?_⟩⟩;have M:Prs j us a:=by
    have:∀{us:List Addr}{a:Ch},Paired (fun t(kv:List Key×V)=>∃b,j t=some (.tup [.ref b,kv.2])/\j b=some (.tup (kv.1.map kV))) us (kvC a)->Prs j us a:=by
     intro us a
     induction a generalizing us with
     |nil=>intro h;cases h;exact .nil
     |cons c r ih=>
      intro h;cases h with
      |cons q t=>
       obtain⟨b,q1,q2⟩:=q;exact .cons ⟨b,q1,p0 q2⟩ (ih t)
    exact this h_
   have y:=L.trans s4;have qD:=M.length;have G:=J.length;rw[Ab] at G;refine⟨l,D,_,_,rfl,rfl,jP,y _ _ Y,by rw[Ab,Ab];exact zg ω,fun q hq=>?_⟩;have N:=Same.new (o:=.lst (us.map V.ref++ts.map V.ref)) hq;refine⟨q,us++ts,a++b.map fun c=>(c.1,-n*c.2),rfl,SqL.of (by rw[ac,Ao]),(M.append (J.same y)).same N,by rw[Ap,Ab];omega,fun S H6 s6 BV uz=>?_⟩;have O:SY Pt H H6:=f2.trans (Same.sf ((y.trans N).trans s6));refine⟨_,rfl,S,_,p,rfl,.inl uz,zS _,AC (C3 _) (by rw[Ap,Ab];omega),hp,fun D7 H7 f7 bF x=>?_⟩;exact k D7 H7 (O.trans f7) (O.dom bF) x
end
end K65
end
section
namespace K65
open K1
open PySem L2 STb
abbrev DB:Stmt:=top 22
structure RA where
 x:cD
 t:Addr
 c:Addr
 g:Addr
def RwAt(H:Hp)(r:RA):Prop:=Rd H r.c (.dT (kvC r.x.c))/\((r.x.d=none/\H r.t=some (.tup [.int r.x.hi,.int r.x.b,.non,.ref r.c,.non]))\/∃e:Nat,r.x.d=some e/\Rd H r.g (.dT (kvC r.x.g))/\H r.t=some (.tup [.int r.x.hi,.int r.x.b,.int e,.ref r.c,.ref r.g]))
def RwAt.sf{P:Addr}{pos:Pos}{q:Str}{H H':Hp}{r:RA}(h:RwAt H r)(s:SF P pos q H H'):RwAt H' r:=by
 obtain⟨h1,h2⟩:=h;refine⟨s.rd h1,?_⟩;rcases h2 with ⟨e,h2⟩|⟨e,h2,a,b⟩
 ·exact .inl ⟨e,s.tup h2⟩
 ·exact .inr ⟨e,h2,s.rd a,s.tup b⟩
def dR(L:List RA):List (Key×V):=L.map fun r=>((Sum.inl (r.x.b:Int):Key),V.ref r.t)
abbrev dh(L:List RA):List cD:=L.map RA.x
def DC:∀{L:List RA},((dh L).map (·.b)).Nodup->∀{r:RA},r∈L->bq (dR L) (Sum.inl (r.x.b:Int))=some (.ref r.t)
 |q::L,nd,r,hr=>by
  rw[show(dh (q::L)).map (·.b)=q.x.b::(dh L).map (·.b) from rfl,Be] at nd;show bq ((Sum.inl (q.x.b:Int),V.ref q.t)::dR L) _=_
  by_cases e:(q.x.b:Int)=r.x.b
  ·rcases OT.mp hr with rfl|hr'
   ·exact rf rfl
   ·exact absurd (KK.mpr ⟨r.x,KK.mpr ⟨r,hr',rfl⟩,ω⟩) nd.1
  ·rw[ri (fun z=>e (by injection z))]
   rcases OT.mp hr with rfl|hr'
   ·exact absurd rfl e
   ·exact DC nd.2 hr'
def vj{oo:Ξ}{cs:Ch}(nd:(ksC cs).Nodup)(h:∀q∈ksC cs,q∈oo):cs.length<=oo.length:=by
 have:=nd.length_le_of_subset h
 rwa [eR] at this
def Yst.yg{p:Int}{oo:Ξ}{cs:Ch}{y:List Int}{t:Nat}(h:Yst oo cs y t)(O:fm oo)(hc:ChP p cs)(hp:0<p):Bar.Yg p (aZ oo cs) t:=GW O hc hp h.1 h.2.1 h.2.2
def G'{cs:Ch}(h:¬cs.length=0):cs≠[]:=fun z=>h (by rw[z];rfl)
section
variable{P:Program}{w:World}{K:Ae}{mg:Str->Option Value}{base:Heap}{f:Addr}{fd:FuncData}{Pt:Addr}
structure WIn(Pt:Addr)(H:Hp)(R T:Addr)(L:List RA)(oo:Ξ)(p:Int)(t:Nat):Prop where
 hR:H R=some (.dK (dR L))
 rw:∀r∈L,RwAt H r
 hT:Rd H T (.dT (kvC (bP oo)))
 O:fm oo
 few:oo.length<=200
 pr:Bar.Pr p
 p7:p<=7
 pap:fG p oo t (dh L)
 tb:TY Pt H
def WIn.sf{H H':Hp}{R T:Addr}{L:List RA}{oo:Ξ}{p:Int}{t:Nat}(x:WIn Pt H R T L oo p t)(s:SY Pt H H'):WIn Pt H' R T L oo p t:=
 ⟨s.dK x.hR,fun r hr=>(x.rw r hr).sf s,s.rd x.hT,x.O,x.few,x.pr,x.p7,x.pap,s.tab x.tb⟩
def Ha(Pt:Addr):Sp:=fun vs H Q _=>∃a R T L q oo t p,vs=[.ref a,.ref R,.ref T,.int p]/\Tp H a q/\WIn Pt H R T L oo p t/\oo[t]?=some q/\
 ∀u c g left fill H',SY Pt H H'->H c=none->H g=none->c≠g->H u=none->H' u=some (.tup [.ref c,.ref g])->Rd H' c (.dT (kvC left))->Rd H' g (.dT (kvC fill))->Wk p oo t q left fill->
  (left=[]\/∃y e,Yst oo left y e/\∃r∈L,r.x.b=e/\r.x.d=none)->Q (.ref u) H'
abbrev Nl:List Str:=["piece","rows","times","prime","filling","left","young","row","often"]
def jS:zr Nl ["piece","rows","times","prime"] (zh DB):=⟨rfl,rfl,rfl,δ,rfl,δ,δ⟩
def No(F:Fun K "worked_off" "worked_off" DB f fd)(B:Bt mg)(Cm:Cl P w K mg base aG "seam_of" ["chain"] 3 C8)(Ct:Cl P w K mg base aG "taken_by" ["chain","prime"] 2 (vi Pt))(Cy:Cl P w K mg base aG "youngest_of" ["chain","times"] 4 (ve Pt))(Ci:Cl P w K mg base aG "times_into" ["weight","goal","prime"] 1 G7)(pR:Cl P w K mg base aG "less_by" ["chain","often","other","prime"] 3 (G9 Pt)):FnOk P w K mg base aG 5 f fd ["piece","rows","times","prime"] (Ha Pt):=by
 refine F.ok jS (fun vs H Q E h=>?_) (fun cdv A outer s H vs Q E hr h=>?_)
 ·obtain⟨a,R,T,L,q,oo,t,p,rfl,_⟩:=h;rfl
 ·obtain⟨a,R,T,L,q,oo,t,p,rfl,ha,I,hq,k⟩:=h
  have hu:=ev hr;have h2:=I.pr.two;have h7:=I.p7;have sB:=Aj hq;refine⟨_,ze (zo (i:=4) jS.nd rfl (Or.inl rfl) (MR hu (pv 0) zf))
   (ze (zo (i:=5) jS.nd rfl (Or.inl rfl) (zy Ct hr rfl ax (zc (zy Cm hr rfl ax (zc (pv 4) zd)) (zc (pv 3) zd))))
   (ze (Ek AM (zn oj (zm ur rfl B.len cV (zc (pv 5) zd)) zf (au _))
    (ze (zo (i:=6) jS.nd rfl (Or.inl rfl) (zy Cy hr rfl ax (zc (pv 5) (zc (pv 2) zd))))
    (ze (zo (i:=7) jS.nd rfl (Or.inl rfl) (zQ hu (pv 1) (zQ hu (pv 2) (pv 6) (fun _ _=>rfl)) (fun _ _=>rfl)))
    (ze (zR (zn hE (zB zG (pv 7) zf (fun _ _=>rfl)) ee (au _)) (zi Iw) zt)
    (ze (zo (i:=8) jS.nd rfl (Or.inl rfl) (zy Ci hr rfl ax (zc (zQ hu (zB zG (pv 7) zf (fun _ _=>rfl)) (pv 6) (fun _ _=>rfl)) (zc (zQ hu (pv 5) (pv 6) (fun _ _=>rfl)) (zc (pv 3) zd)))))
    (ze (zo (i:=5) jS.nd rfl (Or.inl rfl) (zy pR hr rfl ax (zc (pv 5) (zc (pv 8) (zc (zB zG (pv 7) zf (fun _ _=>rfl)) (zc (pv 3) zd))))))
    (zi (zo (i:=4) jS.nd rfl (Or.inl rfl) (zy pR hr rfl ax (zc (pv 4) (zc (pv 8) (zc (zB zG (pv 7) zf (fun _ _=>rfl)) (zc (pv 3) zd)))))))))))))
   (zi (zq (dL (zc (pv 5) (zc (pv 4) zd))))))),?_⟩
  intro U gb;have vR:=Same.new (o:=.dT []) gb;refine⟨_,rfl,a,q.map Sum.inl,.int 1,rfl,ac,by rw[Ak];exact vR.tp ha,?_⟩;rw[Im];have s1:=Same.new (o:=.dT [((q.map Sum.inl:List Key),V.int 1)]) gb;have jl:upd H U (.dT [((q.map Sum.inl:List Key),V.int 1)]) U=some (.dT (kvC [(q,1)])):=ac;generalize upd H U (.dT [((q.map Sum.inl:List Key),V.int 1)])=H1 at s1 jl;refine⟨_,rfl,U,[(q,1)],rfl,.inl jl,by simp[ksC],by simp,fun c hc=>by rw[OU.mp hc];exact I.O.le q sB,fun M H2 eW jz sO mw=>?_⟩;have f2:SY Pt H H2:=(Same.sf s1).trans (Dz eW (.inl jl) jz);have kh:(eS [(q,(1:Int))]).length<=1000:=by
   refine AC (C3 _) ?_;have:=sN (cs:=[(q,(1:Int))]) fun c hc=>by rw[OU.mp hc];exact I.O.le q sB
   simp at this ⊢;omega
  refine⟨_,rfl,M,_,p,rfl,.inl mw,zS _,kh,ω,fun c0 H3 f3 j6 ip=>?_⟩;have wk:=f2.trans f3;refine⟨fun m σ G=>∃(left fill:Ch)(c g:Addr)(J N C:Option V),σ=[some (.ref a),some (.ref R),some (.ref T),some (.int p),some (.ref g),some (.ref c),J,N,C]/\SY Pt H G/\H c=none/\H g=none/\c≠g/\Rd G c (.dT (kvC left))/\Rd G g (.dT (kvC fill))/\Wk p oo t q left fill/\Bar.Bl p (aZ oo left) m,
   ⟨t,_,_,c0,U,none,none,none,rfl,wk,f2.dom j6,gb,fun z=>?_,.inl ip,f3.rd jz,GX I.O h2 hq,(GX I.O h2 hq).wo.bl⟩,?_⟩
  ·subst z
   obtain⟨o,eo⟩:=ny jz;rw[j6] at eo;cases eo
  ·rintro m σ G ⟨left,fill,c,g,J,N,C,rfl,f4,hc,hg,nv,Y,rg,W,bl⟩
   have fin:∀(J N C:Option V)(j:Hp),SY Pt G j->(left=[]\/∃y t0,Yst oo left y t0/\∃r∈L,r.x.b=t0/\r.x.d=none)->ck (zH (ay 5) (zH (ay 4) bb)) [some (.ref a),some (.ref R),some (.ref T),some (.int p),some (.ref g),some (.ref c),J,N,C] j Q:=by
    intro J N C j v hw;have S:=f4.trans v;refine⟨_,rfl,_,rfl,zg (by simp),fun u fX=>?_⟩;have X:=Same.new (o:=.tup [.ref c,.ref g]) fX;exact k u c g left fill _ (S.trans (Same.sf X)) hc hg nv (S.dom fX) ac ((v.rd Y).same X) ((v.rd rg).same X) W hw
   refine⟨_,rfl,c,kvC left,rfl,Y,_,_,rfl,rfl,_,rfl,?_⟩;rw[zA]
   by_cases hl:left.length=0
   ·have cJ:left=[]:=O5 hl
    rw[RN ω];exact aO (fin J N C G (SF.refl G) (.inl cJ))
   rw[RM ω];have I4:=I.sf f4;refine aK ⟨_,fun aj H' h=>h,?_⟩;refine⟨_,rfl,_,rfl,c,T,left,oo,rfl,Y,I4.hT,I.O.nd,G' hl,fun z hz=>(W.li z hz).1,I4.tb,fun b y t0 j v hb hy=>?_⟩;have S:=f4.trans v;have I5:=I4.sf v;have iS:=hy.yg I.O W.l ω;obtain⟨x,hx,ex⟩:=MA I.pr I.O I.pap W iS;obtain⟨r,hr',rfl⟩:=KK.mp hx;subst ex;have gT:DGet j T (.ref b) (some (.int r.x.b)):=.inr ⟨kvC (bP oo),y.map Sum.inl,b,I5.hT,rfl,by rw[Ak];exact hb,(k5 I.O.nd hy.2.1).symm⟩;have hnd:((dh L).map (·.b)).Nodup:=I.pap.srt.imp fun h=>ω
   have gR:DGet j R (.int r.x.b) (some (.ref r.t)):=by
    have:=DGet.k (k:=Sum.inl (r.x.b:Int)) I5.hR
    rwa [DC hnd hr'] at this
   refine⟨_,rfl,_,rfl,_,rfl,T,_,rfl,gT,R,_,rfl,gR,?_⟩;obtain⟨qp,h5⟩:=I5.rw r hr';have D:=I.pap.ok r.x hx;obtain⟨y',ey,qM⟩:=GY I.pap hx;rw[hy.2.1] at ey;cases ey;rcases h5 with ⟨ed,ht⟩|⟨e,ed,uf,ht⟩
   ·refine⟨_,rfl,r.t,_,2,.non,rfl,rfl,SqT.of ht,rfl,rfl,_,rfl,aK ?_⟩
    exact fin _ _ C j v (.inr ⟨y,_,hy,r,hr',rfl,ed⟩)
   ·refine⟨_,rfl,r.t,_,2,.int e,rfl,rfl,SqT.of ht,rfl,rfl,_,rfl,aO ?_⟩
    obtain⟨kX,nU⟩:=D.g e ed;have lA:j b=some (.tup ((y.map Sum.inl:List Key).map kV)):=by rw[Ak];exact hb
    have g1:DGet j r.c (.ref b) (some (.int (aC r.x.c y))):=by
     obtain⟨cc,fS,rfl⟩:=KK.mp qM;refine .inr ⟨kvC r.x.c,cc.1.map Sum.inl,b,qp,rfl,lA,?_⟩;rw[fU D.c.nd cc fS,iD D.c.nd cc fS]
    have g2:DGet j c (.ref b) (some (.int (aC left y))):=by
     obtain⟨cc,fS,e3⟩:=KK.mp hy.1;subst e3;refine .inr ⟨kvC left,cc.1.map Sum.inl,b,v.rd Y,rfl,lA,?_⟩;rw[fU W.l.nd cc fS,iD W.l.nd cc fS]
    have iB:=D.c.at qM;refine⟨_,rfl,r.t,_,3,.ref r.c,rfl,rfl,SqT.of ht,rfl,_,rfl,r.c,_,rfl,g1,_,rfl,_,rfl,c,_,rfl,g2,_,rfl,_,_,p,rfl,ω,h2,ω,I.pr.into _ _ (fun z=>by have:=Int.le_of_dvd ω z;omega),fun kk H6 k0 k1 kd X=>?_⟩;have jO:SY Pt j H6:=Same.sf X;have lc:left.length<=200:=AC (vj W.l.nd fun z hz=>(W.li z hz).1) I.few;have lr:r.x.c.length<=200:=AC (vj D.c.nd fun z hz=>(D.ci z hz).1) I.few;have lf:fill.length<=200:=AC (vj W.f.nd fun z hz=>(W.fi z hz).1) I.few;have lg:r.x.g.length<=200:=AC (vj kX.nd fun z hz=>(nU z hz).1) I.few;refine⟨_,rfl,_,rfl,_,rfl,r.t,_,3,.ref r.c,rfl,rfl,SqT.of (jO.tup ht),rfl,_,rfl,c,r.c,left,r.x.c,kk,p,rfl,jO.rd (v.rd Y),jO.rd qp,W.l.nd,D.c.nd,lc,lr,ω,ω,fun c' H7 f7 mY rZ=>?_⟩;have kg:=jO.trans f7;refine⟨_,rfl,_,rfl,_,rfl,r.t,_,4,.ref r.g,rfl,rfl,SqT.of (kg.tup ht),rfl,_,rfl,g,r.g,fill,r.x.g,kk,p,rfl,kg.rd (v.rd rg),kg.rd uf,W.f.nd,kX.nd,lf,lg,ω,ω,fun g' H8 f8 ic lI=>?_⟩;have s_:=(S.trans kg).trans f8;obtain⟨W',wf⟩:=MB ω I.pap W hx ed iS hy.2.1 hy.1 kd;refine⟨r.x.b,?_,_,_,c',g',_,_,_,rfl,s_,(S.trans jO).dom mY,(S.trans kg).dom ic,fun z=>?_,f8.rd (.inl rZ),.inl lI,W',wf⟩
    ·refine Nat.lt_of_not_le fun z=>iS.1 (bl _ z)
    ·subst z
     rw[rZ] at ic;cases ic
end
end K65
end
section
namespace L2
open PySem PySem.Spec PyProof.Rows
def Hb{H:Hp}{b:Addr}{k a:List (List Key×V)}(e:Rd H b (.dT k))(r:Rd H b (.dT a)):k=a:=by
 rcases e with e|⟨c,e⟩<;>rcases r with r|⟨d,r⟩<;>rw[e] at r<;>cases r<;>rfl
def SF.many{P:Addr}{pos:Pos}{q:Str}{H H1:Hp}(h:∀b,H1 b=H b\/∃kvs,Rd H b (.dT kvs)/\Rd H1 b (.dT kvs)):SF P pos q H H1:=by
 have nd:∀{b:Addr}{u:HO},H b=some u->(∀k,u≠.dT k)->(∀ob k,u≠.frz ob (.dT k))->H1 b=some u:=fun{b u} e n1 n2=>by
  rcases h b with z|⟨k,r,_⟩
  ·rw[z];exact e
  ·rcases r with r|⟨ob,r⟩
   ·exact absurd (Ah (e.symm.trans r)) (n1 _)
   ·exact absurd (Ah (e.symm.trans r)) (n2 _ _)
 refine⟨fun b u n e=>nd e n.d n.z,fun{b k} e=>?_,fun{b} e=>?_,fun t=>?_⟩
 ·rcases h b with z|⟨g,r,a⟩
  ·unfold Rd;rw[z];exact e
  ·rw[Hb e r];exact a
 ·rcases h b with z|⟨g,r,a⟩
  ·rw[<-z];exact e
  ·obtain⟨u,f⟩:=ny a
   rw[e] at f;cases f
 ·rcases t with e|⟨c,e,i,vs,j,e2,r⟩
  ·exact .inl (nd e (fun _ z=>nomatch z) (fun _ _ z=>nomatch z))
  ·exact .inr ⟨c,nd e (fun _ z=>nomatch z) (fun _ _ z=>nomatch z),i,vs,j,nd e2 (fun _ z=>nomatch z) (fun _ _ z=>nomatch z),r⟩
section
variable{X:Cx}{aa:Ψ}{σ:St}{H:Hp}{s:Shared}
def Inv.thaws(I:Inv X aa σ H s):∀as:List Addr,(∀a∈as,X.H₀ a=none/\∃kvs,Rd H a (.dT kvs))->∃H2,Inv X aa σ H2 s/\(∀b,b∉as->H2 b=H b)/\∀a∈as,∀kvs,Rd H a (.dT kvs)->H2 a=some (.dT kvs)
 |[],_=>⟨H,I,fun _ _=>rfl,fun a ha=>nomatch ha⟩
 |a::as,h=>by
  obtain⟨H2,I2,e,f⟩:=I.thaws as fun b hb=>h b (.tail _ hb)
  by_cases m:a∈as
  ·exact⟨H2,I2,fun b hb=>e b fun z=>hb (.tail _ z),fun b hb=>by
    rcases OT.mp hb with rfl|hb'
    ·exact f b m
    ·exact f b hb'⟩
  ·obtain⟨i,kvs,r⟩:=h a (.head _)
   have e2:=e a m;have d:Rd H2 a (.dT kvs):=by unfold Rd;rw[e2];exact r
   have fin:∀H3:Hp,Inv X aa σ H3 s->H3 a=some (.dT kvs)->(∀b,b≠a->H3 b=H2 b)->∃H2,Inv X aa σ H2 s/\(∀b,b∉a::as->H2 b=H b)/\∀c∈a::as,∀kvs,Rd H c (.dT kvs)->H2 c=some (.dT kvs):=fun H3 j e3 g=>by
    refine⟨H3,j,fun b hb=>?_,fun c hc k rk=>?_⟩
    ·rw[OT,not_or] at hb
     rw[g b hb.1];exact e b hb.2
    ·by_cases z:c=a
     ·subst z;rw[Hb rk r];exact e3
     ·rw[g c z];exact f c ((OT.mp hc).resolve_left z) k rk
   rcases d with d|⟨ob,d⟩
   ·exact fin H2 I2 d fun _ _=>rfl
   ·exact fin _ (I2.thaw i d) ac fun b hb=>ae hb
def Np(c:Hp)(t:TE):TE:=fun σ H Q=>t σ H fun x H1=>∃as:List Addr,(∀a∈as,c a=none/\∃kvs,Rd H1 a (.dT kvs))/\∀H2,(∀b,b∉as->H2 b=H1 b)->(∀a∈as,∀kvs,Rd H1 a (.dT kvs)->H2 a=some (.dT kvs))->Q x H2
def Nq{e:Expr}{t:TE}(h:PE X e t):PE X e (Np X.H₀ t):=by
 intro aa s σ H Q I q;refine aW (h aa s σ H _ I q) fun v f ⟨x,H1,I1,a,as,ha,k⟩=>?_;obtain⟨H2,d,b,c⟩:=I1.thaws as ha;exact⟨x,H2,d,a,k H2 b c⟩
def Nr{P:Addr}{pos:Pos}{q:Str}{H1 H2:Hp}{as:List Addr}(h1:∀a∈as,∃kvs,Rd H1 a (.dT kvs))(c:∀b,b∉as->H2 b=H1 b)(d:∀a∈as,∀kvs,Rd H1 a (.dT kvs)->H2 a=some (.dT kvs)):SF P pos q H1 H2:=
 SF.many fun b=>by
  by_cases m:b∈as
  ·obtain⟨k,r⟩:=h1 b m
   exact .inr ⟨k,r,.inl (d b m k r)⟩
  ·exact .inl (c b m)
end
end L2
end
section
namespace STb
open PySem PySem.SetTable PyProof.Rows br PySem.W
section
variable{prog:Program}{w:World}{A:Around}{E:Ω}{s:Shared}{S:Addr}
def Nt{T:String}{r d:Addr}{n:Nat}{P:Nat->Value->Prop}{j:Heap->Prop}{R:List Value->Shared->Prop}(K:KdlSrc prog w T r d n P j)(l:A.handled=none)(i:j s.heap)(p:n<=sizeLine)(h:∀(h':Heap)(tk:Nat)(acc:Array Value),s⁻¹<=h'.objs.size->(∀b o,s.heap.get? b=some o->h'.get? b=some o)->ItemsOf P acc n->R acc.toList {s with heap:=h',toks:=tk}):wpAny (model prog w) A (collect (.ref r)) R E s:=by
 obtain⟨hr,hd⟩:=K.there _ i;unfold collect;refine Aa (wpAny_runValue (Bd entry_proto_collect' ?_));rw[A2 PySem.F.plain_proto_collect _];show wpAny _ A.in1 (do again (.builtin "list.__iadd__" ⟨[<-newList [],.ref r],[]⟩)) _ _ s;refine Aa (AF (Ac ⟨plainId_quiet PySem.F.plain_list_iadd _,Bd entry_list_iadd' ?_⟩));rw[A2 PySem.F.plain_list_iadd _];show wpAny _ A.in1 (Builtin.List.listExtendWith (.ref s⁻¹) (.ref r) (.ref s⁻¹)) _ _ _;have fin:∀(h':Heap)(tk:Nat)(acc:Array Value)(c:Nat),(∀b o,s.heap.get? b=some o->h'.get? b=some o)->h'.get? s⁻¹=some {cls:=.type "list",dict:=none,data:=.seq acc c,slots:=#[]}->ItemsOf P acc n->
   wpAny (model prog w) A (do match (<-load s⁻¹).data with
    |.seq xs _=>pure xs.toList
    |_=>unsupported "internal:collect") R E {s with heap:=h',toks:=tk}:=fun h' tk acc c hk a g=>Aa (wpAny_load a (Ac (h h' tk acc (PY (Ar a)) hk g)))
 refine wpAny_mono (kdl_extend (A:=A) (s:={s with heap:=s.heap.push {cls:=.type "list",data:=.seq ([]:List Value).toArray}})
  (R:=fun q s'=>∃h' tk acc c,q=Except.ok (Flow.ret (.ref s⁻¹))/\s'={s with heap:=h',toks:=tk}/\(∀b o,s.heap.get? b=some o->h'.get? b=some o)/\h'.get? s⁻¹=some {cls:=.type "list",dict:=none,data:=.seq acc c,slots:=#[]}/\ItemsOf P acc n)
  K l (K.keep _ _ i fun b _ o e=>Ad _ e) s⁻¹ (A0 hr) (A0 hd) (.ref s⁻¹) 0 (Al _ rfl)
  (fun h' tk acc c hk a g=>⟨h',tk,acc,c,rfl,rfl,fun b o e=>hk b o (Au (Ar e)) (Ad _ e),a,g⟩) p) (fun f s' x=>?_) fun e s' x=>?_
 ·cases f with
  |done f=>
   obtain⟨h',tk,acc,c,e,rfl,hk,a,g⟩:=x;cases e;exact fin h' tk acc c hk a g
  |again eU=>
   refine⟨x.1,codeAny_mono x.2 fun q u y=>?_⟩;obtain⟨h',tk,acc,c,rfl,rfl,hk,a,g⟩:=y;exact fin h' tk acc c hk a g
 ·obtain⟨_,_,_,_,e',_⟩:=x
  cases e'
end
end STb
namespace L2
open PySem PySem.Spec PyProof.Rows
section
variable{X:Cx}
def Nu{ns:List Int}{ad:List Value}{out:List Value}(hi:IntsAre ad ns)(c:br.Out (ns.map fun n=>[n]) ad out):∃b:List Int,Vals (b.map V.int) out/\b.Perm ns/\b.Pairwise (·<=·):=by
 obtain⟨ps,hp,c,g⟩:=c;have d:ad.length=ns.length:=hi.length;have all:∀p∈ps,∃n t,p.1=[n]/\p.2=Value.int n t:=fun p f=>by
  obtain⟨i,e⟩:=OV.mp (hp.mem_iff.mp f);rw[br.cm,Af] at e;cases e1:ns[i]? with
  |none=>rw[e1] at e;simp at e
  |some n=>
   obtain⟨t,e2⟩:=hi.get i n e1;rw[e1,e2] at e;simp only[AS,Option.bind_some,AW] at e;subst e;exact⟨n,t,rfl,rfl⟩
 have j:∀ps:List (List Int×Value),(∀p∈ps,∃n t,p.1=[n]/\p.2=Value.int n t)->Vals ((ps.map fun p=>p.1.headD 0).map V.int) (ps.map (·.2)):=by
  intro ps
  induction ps with
  |nil=>intro _;exact .nil
  |cons p ps ih=>
   intro h;obtain⟨n,t,e1,e2⟩:=h p Av;refine .cons ?_ (ih fun q hq=>h q (As _ hq));show RelV (V.int (p.1.headD 0)) p.2;rw[e1,e2];exact⟨t,rfl⟩
 refine⟨ps.map fun p=>p.1.headD 0,by rw[c];exact j ps all,?_,?_⟩
 ·have h1:=hp.map (fun p:List Int×Value=>p.1.headD 0)
  have e:((ns.map fun n=>[n]).zip ad).map (fun p:List Int×Value=>p.1.headD 0)=ns:=by
   rw[show(fun p:List Int×Value=>p.1.headD 0)=(fun l:List Int=>l.headD 0) ∘ Prod.fst from rfl,<-Ak,Q9 (by rw[Ab];lia),Ak];exact QY ns
  rw[e] at h1;exact h1
 ·rw[AX]
  refine g.imp_of_mem fun{p q} h1 h2 a=>?_;obtain⟨n,t,e1,_⟩:=all p h1;obtain⟨m,t',e2,_⟩:=all q h2;rw[e1,e2,HT.zJ] at a;rw[e1,e2];show n<=m
  by_cases e:m=n
  ·lia
  ·rw[RK e] at a
   have:=of_decide_eq_false a
   lia
end
end L2
end
section
namespace STb
open PySem PySem.SetTable PyProof.Rows br PySem.W
section
variable{prog:Program}{w:World}{A:Around}{E:Ω}{s:Shared}
def Nv{T:String}{r d:Addr}{n:Nat}{P:Nat->Value->Prop}{i:Heap->Prop}{ns:List Int}{Q:Ω}(K:KdlSrc prog w T r d n P i)(p:A.handled=none)(c:i s.heap)(q:n<64)(hi:∀acc:Array Value,ItemsOf P acc n->IntsAre acc.toList ns)(h:∀(D:Addr)(h':Heap)(tk e:Nat)(ad:List Value)(out:Array Value),s⁻¹<=D->(∀b o,s.heap.get? b=some o->h'.get? b=some o)->h'.get? D=some (seqObj "list" out e)->IntsAre ad ns->Out (ns.map fun n=>[n]) ad out.toList->Q (.ref D) {s with heap:=h',toks:=tk}):wpAny (model prog w) A (call (.builtin "sorted") [.ref r]) Q E s:=by
 refine Calls.call_function_entry kind_sorted plain_sorted entry_sorted (args_sorted1 _) ?_;unfold Builtin.«sorted»;refine Aa (m:=checkCount "sorted" 1 1 _) (Ac ?_);refine Aa (Nt (A:=A.in1) K p c (by rw[sizeLine_eq];omega) fun h' tk acc j hk f=>?_);have hi:=hi acc f;have g:acc.toList.length=n:=by rw[PB];exact f.1
 refine Aa (wpAny_newList ?_ (by rw[g,sizeLine_eq];omega));have a:(h'.push (seqObj "list" acc.toList.toArray 0)).get? h'.objs.size=some (seqObj "list" acc.toList.toArray 0):=Al _ rfl;refine Aa (AI (AG slot_list_sort ⟨_,a,rfl⟩ entry_list_sort (E7 (s:={s with heap:=h'.push (seqObj "list" acc.toList.toArray 0),toks:=tk}) (good:=fun _=>True) a (E5 hi) (fun _ _=>trivial) (by rw[g,sizeLine_eq];omega) ω fun out l=>⟨_,rfl,?_⟩) (args_list_sort _)));obtain⟨e,he⟩:=sortedHeap_at (out:=out) a;refine Ac ⟨_,rfl,h h'.objs.size _ tk e acc.toList out j (fun b o e=>?_) he hi l⟩;have hb:b<h'.objs.size:=Ar (hk b o e);rw[sortedHeap_old (Au hb) (by rw[size_push'];exact A8 hb)];exact Ad _ (hk b o e)
end
end STb
namespace L2
open PySem PySem.Spec PyProof.Rows
section
variable{X:Cx}
abbrev dZ(ps:List (Int×V)):HO:=.dK (ps.map fun p=>(Sum.inl p.1,p.2))
def ints_of{ps:List (Int×V)}:∀{m:List (Key×Value)}{as:List Value},KV (ps.map fun p=>((Sum.inl p.1:Key),p.2)) m->as.length=m.length->(∀(i:Nat) v,as[i]?=some v->∃k x,m[i]?=some (k,x)/\(zw X.prog X.w).is k v=true)->IntsAre as (ps.map (·.1)):=by
 induction ps with
 |nil=>
  intro m as q h1 _;cases q;cases as with
  |nil=>exact .nil
  |cons _ _=>simp at h1
 |cons p ps ih=>
  intro m as q h1 h2;cases q with
  |@cons _ q' _ qs hq t=>
   cases as with
   |nil=>simp at h1
   |cons v as=>
    obtain⟨k,x,g1,g2⟩:=h2 0 v rfl;simp only[Qh,AW] at g1;have hk:(Sum.inl p.1:Key)=k:=by rw[g1] at hq;exact hq.1
    subst hk;obtain⟨t',e2⟩:∃t',v=Value.int p.1 t':=Fd g2;subst e2;exact .cons _ _ (ih t (by simpa using h1) fun i v e=>by simpa using h2 (i+1) v (by simpa using e))
def Nw(hc:X.calm=true):da X (.builtin "sorted") (fun xs H Q=>∃a ps,xs=[.ref a]/\H a=some (dZ ps)/\ps.length<64/\∀(D:Addr)(d:List Int),d.Perm (ps.map (·.1))->d.Pairwise (·<=·)->H D=none->Q (.ref D) (upd H D (.lst (d.map V.int)))):=by
 intro aa s σ H xs us Q I r h;obtain⟨a,ps,rfl,hq,hz,q⟩:=h;obtain⟨u,rfl,p⟩:=vals1 r;cases p;obtain⟨z,y,vs,c,dd⟩:=y1 I.hok hq;obtain⟨ep,dd⟩:=dd.dictAt;have C:ps.length=vs.length:=by simpa using c.length
 refine STb.Nv (ns:=ps.map (·.1)) (PySem.W.kdl_dict (knd:=zw X.prog X.w) (kvs:=vs) (ep:=ep) y) (I.ok.hd hc) dd ω (fun acc it=>ints_of (X:=X) c (by simpa using it.1) fun i v e=>it.2 i v (by simpa using e)) fun D h' tk e ad out f j he hi l=>?_;obtain⟨ks,x,g,A⟩:=Nu hi l;have hk:ks.length=ps.length:=by simpa using g.length_eq
 refine⟨.ref D,_,I.laid (o:=.lst (ks.map V.int)) (fun b u e=>j b u e) f (show zF X.prog X.w _ _ _ (.lst (ks.map V.int)) from⟨by rw[Ab,sizeLine_eq];omega,out.toList,e,x,by simpa using he⟩),rfl,q _ _ g A (I.hok.fresh f)⟩
end
end L2
end
section
namespace K65
open K1
open PySem L2 STb
abbrev vk:Stmt:=top 20
def c9(L:List RA)(x:RA):List RA:=L.map fun y=>if y.x.b=x.x.b then x else y
def Nx(L:List RA)(x:RA):dh (c9 L x)=eX (dh L) x.x:=by
 unfold dh c9 eX;rw[Ak,Ak];refine Aw fun y _=>?_;show(if y.x.b=x.x.b then x else y).x=if y.x.b=x.x.b then x.x else y.x;split<;>rfl
def Ny{L:List RA}{b:Nat}{t:Addr}(h:∀r∈L,r.x.b≠b):putK (dR L) (Sum.inl (b:Int)) (.ref t)=dR L++[(Sum.inl (b:Int),.ref t)]:=by
 unfold putK;rw[RK];intro z;obtain⟨kv,hk,e⟩:=Qi.mp z;obtain⟨r,hr,rfl⟩:=KK.mp hk;have e:=RO e;have:(r.x.b:Int)=b:=by injection e
 exact h r hr ω
def Nz{L:List RA}{x:RA}(h:∃r∈L,r.x.b=x.x.b):putK (dR L) (Sum.inl (x.x.b:Int)) (.ref x.t)=dR (c9 L x):=by
 obtain⟨r,hr,e⟩:=h;unfold putK;have ha:((dR L).any fun kv=>decide (kv.1=(Sum.inl (x.x.b:Int):Key)))=true:=Qi.mpr ⟨_,KK.mpr ⟨r,hr,rfl⟩,RM (by show(Sum.inl (r.x.b:Int):Key)=_;rw[e])⟩;rw[RJ ha];unfold dR c9;rw[Ak,Ak];refine Aw fun y _=>?_;show(if(Sum.inl (y.x.b:Int):Key)=Sum.inl (x.x.b:Int) then((Sum.inl (y.x.b:Int):Key),V.ref x.t) else(Sum.inl (y.x.b:Int),V.ref y.t))=(Sum.inl ((if y.x.b=x.x.b then x else y).x.b:Int),V.ref (if y.x.b=x.x.b then x else y).t)
 by_cases z:y.x.b=x.x.b
 ·rw[RJ (by rw[z]),RJ z,z]
 ·have hq:¬(Sum.inl (y.x.b:Int):Key)=Sum.inl (x.x.b:Int):=fun q=>z (Int.ofNat.inj (Sum.inl.inj q))
  rw[RK hq,RK z]
def dcs(r:RA):List Addr:=match r.x.d with
 |none=>[r.c]
 |some _=>[r.c,r.g]
def Hc{H:Hp}{r:RA}(h:RwAt H r){a:Addr}(ha:a∈dcs r):∃kvs,Rd H a (.dT kvs):=by
 obtain⟨h1,h2⟩:=h;unfold dcs at ha;rcases h2 with ⟨e,_⟩|⟨e,e1,b,_⟩
 ·rw[e] at ha
  rw[OU.mp ha];exact⟨_,h1⟩
 ·rw[e1] at ha
  rcases OT.mp ha with rfl|ha
  ·exact⟨_,h1⟩
  ·rw[OU.mp ha];exact⟨_,b⟩
structure Apt(H:Hp)(L:List RA):Prop where
 nd:(L.flatMap dcs).Nodup
 new:∀a∈L.flatMap dcs,H a=none
def Apt.snoc{H:Hp}{L:List RA}{r:RA}(h:Apt H L)(n1:(dcs r).Nodup)(n2:∀a∈dcs r,H a=none)(c:∀a∈dcs r,a∉L.flatMap dcs):Apt H (L++[r]):=by
 have e:(L++[r]).flatMap dcs=L.flatMap dcs++dcs r:=by rw[Rf];simp
 refine⟨?_,fun a ha=>?_⟩
 ·rw[e,O2]
  exact⟨h.nd,n1,fun a ha b hb z=>c b hb (z▸ha)⟩
 ·rw[e] at ha
  rcases OW.mp ha with ha|ha
  ·exact h.new a ha
  ·exact n2 a ha
def put_dcs{L:List RA}{x:RA}{a:Addr}(h:a∈(c9 L x).flatMap dcs):a∈L.flatMap dcs\/a∈dcs x:=by
 obtain⟨y,hy,ha⟩:=O7.mp h;obtain⟨z,hz,rfl⟩:=KK.mp hy
 by_cases e:z.x.b=x.x.b
 ·rw[RJ e] at ha;exact .inr ha
 ·rw[RK e] at ha;exact .inl (O7.mpr ⟨z,hz,ha⟩)
def Apt.put{H:Hp}{L:List RA}{x:RA}(h:Apt H L)(hb:((dh L).map (·.b)).Nodup)(n1:(dcs x).Nodup)(n2:∀a∈dcs x,H a=none)(i:∀a∈dcs x,a∉L.flatMap dcs):Apt H (c9 L x):=by
 refine⟨?_,fun a ha=>?_⟩
 ·have d:∀M:List RA,((dh M).map (·.b)).Nodup->(M.flatMap dcs).Nodup->(∀a∈dcs x,a∉M.flatMap dcs)->((c9 M x).flatMap dcs).Nodup:=by
   intro M
   induction M with
   |nil=>intro _ _ _;exact O6
   |cons y M ih=>
    intro hb c hx;rw[show(dh (y::M)).map (·.b)=y.x.b::(dh M).map (·.b) from rfl,Be] at hb;rw[O3,O2] at c;have hx':∀a∈dcs x,a∉M.flatMap dcs:=fun a ha z=>hx a ha (by rw[O3];exact AQ _ z);have f:=ih hb.2 c.2.1 hx';show(((if y.x.b=x.x.b then x else y)::c9 M x).flatMap dcs).Nodup;rw[O3,O2]
    by_cases e:y.x.b=x.x.b
    ·rw[RJ e]
     refine⟨n1,f,fun a ha b hb' z=>?_⟩;subst z;rcases put_dcs hb' with q|q
     ·exact hx' a ha q
     ·have g:c9 M x=M:=by
       unfold c9;refine(Aw fun z hz=>?_).trans (QY _);rw[RK];intro e2;exact hb.1 (KK.mpr ⟨z.x,KK.mpr ⟨z,hz,rfl⟩,ω⟩)
      rw[g] at hb';exact hx' a ha hb'
    ·rw[RK e]
     refine⟨c.1,f,fun a ha b hb' z=>?_⟩;subst z;rcases put_dcs hb' with q|q
     ·exact c.2.2 a ha a q rfl
     ·exact hx a q (by rw[O3];exact PQ _ ha)
  exact d L hb h.nd i
 ·rcases put_dcs ha with q|q
  ·exact h.new a q
  ·exact n2 a q
def vl{H:Hp}{a R:Addr}{o:HO}{kv:List (Key×V)}{kvs:List (List Key×V)}(h:Rd H a (.dT kvs))(b:H R=some (.dK kv)):Rd (upd H R o) a (.dT kvs):=by
 have ne:a≠R:=fun z=>by
  subst z;rcases h with e|⟨_,e⟩<;>(rw[b] at e;cases e)
 unfold Rd;rw[ae ne];exact h
def vm{H:Hp}{r:RA}{R:Addr}{o:HO}{kv:List (Key×V)}(h:RwAt H r)(a:H R=some (.dK kv)):RwAt (upd H R o) r:=by
 obtain⟨h1,h2⟩:=h;refine⟨vl h1 a,?_⟩;rcases h2 with ⟨e,h2⟩|⟨e,h2,c,b⟩
 ·exact .inl ⟨e,by rw[ae (cT h2 a (by intro z;cases z))];exact h2⟩
 ·exact .inr ⟨e,h2,vl c a,by rw[ae (cT b a (by intro z;cases z))];exact b⟩
def NA{l m:List Int}(hp:l.Perm m)(h1:l.Pairwise (·<=·))(h2:m.Pairwise (·<=·)):l=m:=
 List.Perm.eq_of_pairwise (fun a b _ _ g1 g2=>Int.le_antisymm g1 g2) h1 h2 hp
def jU(L:List RA):List Int:=L.map fun r=>(r.x.b:Int)
section
variable{P:Program}{w:World}{K:Ae}{mg:Str->Option Value}{base:Heap}{f:Addr}{fd:FuncData}{Pt:Addr}
def NB{H2:Hp}{S R D:Addr}{L:List RA}{Q:VK}(i:SqL K H2 S ((jU L).map V.int))(l:H2 R=some (.dK (dR L)))(nd:((dh L).map (·.b)).Nodup)(hz:L.length<=1000)(f:H2 D=none)(k:∀(H3:Hp),Same H2 H3->H3 D=some (.lst (L.map fun r=>V.ref r.t))->Q (.ref D) H3):cG (dI K S) (zU 0) bT (io (ay 1) (ay 0)) [none,some (.ref R)] H2 D Q:=by
 have d:((jU L).map V.int).length=L.length:=by unfold jU;rw[Ab,Ab]
 refine zN (xs:=(jU L).map V.int) (fun j σ ys H3=>∃(v:Option V),σ=[v,some (.ref R)]/\Same H2 H3/\H3 D=some (.lst ys)/\ys=(L.map fun r=>V.ref r.t).take j) ?_ ?_ ?_ ?_
 ·exact⟨none,rfl,Same.new f,ac,rfl⟩
 ·rintro j σ ys H3 ⟨v,rfl,sm,a,rfl⟩
  exact sm.seq i
 ·rintro j σ ys H3 x hx h hy ⟨v,rfl,sm,a,rfl⟩
  unfold jU at hx;rw[Ak,Af] at hx;obtain⟨r,c,rfl⟩:=OY.mp hx;have e:(L.map fun r=>V.ref r.t)[j]?=some (.ref r.t):=by rw[Af,c];rfl
  have g:DGet H3 R (.int r.x.b) (some (.ref r.t)):=by
   have:=DGet.k (k:=Sum.inl (r.x.b:Int)) (sm _ _ l)
   rwa [DC nd (Aj c)] at this
  refine cw ⟨_,rfl,_,rfl,R,_,rfl,g,bi (by rw[d];exact zg ω) h hy a ⟨_,rfl,sm.then f,ac,by rw[AE e]⟩⟩
 ·rintro σ ys H3 ⟨v,rfl,sm,a,rfl⟩
  rw[d,AA (by rw[Ab];exact Ag _)] at a;exact k H3 sm a
structure DD(p:Int)(oo:Ξ)(H':Hp)(D:Addr)(L:List RA):Prop where
 hD:H' D=some (.lst (L.map fun r=>V.ref r.t))
 rw:∀r∈L,RwAt H' r
 pap:fG p oo oo.length (dh L)
def Hd{p:Int}{oo:Ξ}{T:Nat}{L:List RA}(h:fG p oo T (dh L))(hT:T<=oo.length):L.length<=oo.length:=by
 have nd:((dh L).map (·.b)).Nodup:=h.srt.imp fun h=>ω
 have:=nd.length_le_of_subset (l₂:=AJ oo.length) fun b hb=>by
  obtain⟨x,hx,rfl⟩:=KK.mp hb;have:=(nt h hx).born;have this:x.b<T:=this;exact P6.mpr ω
 rw[Q3,Ab,Ab] at this;exact this
def isP(p:Int):Prop:=p=2\/p=3\/p=5\/p=7
def isP.pr{p:Int}(h:isP p):Bar.Pr p/\p<=7:=by
 rcases h with rfl|rfl|rfl|rfl
 ·exact⟨Bar.Md,ξ⟩
 ·exact⟨Bar.Me,ξ⟩
 ·exact⟨Bar.Mf,ξ⟩
 ·exact⟨Bar.Mg,ξ⟩
def He(K:Ae)(Pt:Addr):Sp:=fun vs H Q _=>∃l as oo p,vs=[.ref l,.int p]/\SqL K H l (as.map V.ref)/\Tps H as oo/\cp oo/\oo.length<=60/\isP p/\TY Pt H/\
 ∀D L H',SY Pt H H'->H D=none->DD p oo H' D L->Apt H L->(∀a∈L.flatMap dcs,∃kvs,H' a=some (.dT kvs))->Q (.ref D) H'
abbrev Hf:List Str:=["order","prime","times","rows","time","piece","found","born"]
def k7:zr Hf ["order","prime"] (zh vk):=⟨rfl,rfl,rfl,δ,rfl,δ,δ⟩
def NC(F:Fun K "paper" "paper" vk f fd)(B:Bt mg)(Co:Cl P w K mg base aG "must_be_order" ["order"] 3 (Du K))(Cp:Cl P w K mg base aG "must_be_prime" ["prime"] 1 Dv)(Ct:Cl P w K mg base aG "times_of" ["order"] 1 (DA K))(Cw:Cl P w K mg base aG "worked_off" ["piece","rows","times","prime"] 5 (Ha Pt))(Cy:Cl P w K mg base aG "youngest_of" ["chain","times"] 4 (ve Pt)):FnOk P w K mg base aG 6 f fd ["order","prime"] (He K Pt):=by
 refine F.ok k7 (fun vs H Q E h=>?_) (fun cdv A outer s H vs Q E hr h=>?_)
 ·obtain⟨l,as,oo,p,rfl,_⟩:=h;rfl
 ·obtain⟨l,as,oo,p,rfl,hl,ht,ho,G,hp,tb,k⟩:=h
  have hu:=ev hr;have O:=Dl ho;have ir:=G;have G:oo.length<=200:=ω
  obtain⟨eN,lE⟩:=hp.pr;have h2:=eN.two;have aE:=ht.length;refine⟨_,ze (eY (zy Co hr rfl ax (zc (pv 0) zd))) (ze (eY (zy Cp hr rfl ax (zc (pv 1) zd)))
   (ze (zo (i:=2) k7.nd rfl (Or.inl rfl) (zy Ct hr rfl ax (zc (pv 0) zd)))
   (ze (zo (i:=3) k7.nd rfl (Or.inr rfl) ES)
   (ze (d0 AM rfl (oP rfl B.enumerate oW (zc (pv 0) zd)) (iT rfl (zC (zk (i:=4) k7.nd rfl (Or.inl rfl)) (zC (zk (i:=5) k7.nd rfl (Or.inl rfl)) iP)))
    (ze (zo (i:=6) k7.nd rfl (Or.inl rfl) (zy Cw hr rfl ax (zc (pv 5) (zc (pv 3) (zc (pv 2) (zc (pv 1) zd))))))
    (zi (zR (zn db (zm ur rfl B.len cV (zc (zB zG (pv 6) zf (fun _ _=>rfl)) zd)) zf (au _))
     (zi (fO hu (pv 3) (pv 4) (dL (zc (zx iW (zm zl rfl B.len cV (zc (pv 5) zd)) zf) (zc (pv 4) (zc ee (zc (zB zG (pv 6) zf (fun _ _=>rfl)) (zc ee zd)))))) rfl))
     (ze (zo (i:=7) k7.nd rfl (Or.inl rfl) (zQ hu (pv 2) (zy Cy hr rfl ax (zc (zB zG (pv 6) zf (fun _ _=>rfl)) (zc (pv 2) zd))) (fun _ _=>rfl)))
     (zi (fO hu (pv 3) (pv 7) (dL (zc (zx iW (zm zl rfl B.len cV (zc (pv 5) zd)) zf) (zc (pv 7) (zc (pv 4) (zc (zB zG (pv 6) zf (fun _ _=>rfl)) (zc (zB zG (pv 6) zf (fun _ _=>rfl)) zd)))))) rfl)))))))
   (zi (zq (Nq (zv Hf ["born","rows"] [none,some 3] (zI (zm (Nw rfl) rfl B.sorted mP (zc (pv 3) zd))) (fun _ _ _ _ _=>zk (i:=0) (cv ["born","rows"]) rfl (Or.inl rfl)) (fun _ _ _ _ _=>zP)
    (fun _ _ _ _ _=>zQ hu (pv 1) (pv 0) (fun _ _=>rfl)) (hfr:=b_ (zh vk) δ) (te:=io (ay 1) (ay 0)))))))))),?_⟩
  refine⟨_,rfl,l,as,oo,rfl,hl,ht,G,ho,fun H1 s1=>?_⟩;refine⟨_,rfl,p,rfl,hp,?_⟩;refine⟨_,rfl,l,as,oo,rfl,s1.seq hl,s1.tps ht,O.nd,G,fun T H2 s2 iH kw R hR=>?_⟩;have gB:=s1.trans s2;have s3:=Same.new (o:=.dK []) hR;have sh:=gB.trans s3;have lK:H R=none:=gB.free hR;refine⟨_,rfl,l,rfl,⟨_,sh.seq hl⟩,B7 (K:=K) (a:=l) (xs:=as.map V.ref) (fun i σ N=>∃(v4 v5 v6 v7:Option V)(L:List RA),σ=[some (.ref l),some (.int p),some (.ref T),some (.ref R),v4,v5,v6,v7]/\SY Pt H N/\WIn Pt N R T L oo p i/\Apt H L)
   ⟨none,none,none,none,[],rfl,Same.sf sh,⟨ac,(fun r hr=>nomatch hr),.inl (s3 _ _ kw),O,G,eN,lE,Mx,tb.same sh⟩,⟨O6,(fun a ha=>nomatch ha)⟩⟩ (fun i σ N _ ⟨_,_,_,_,_,_,f,_⟩=>f.seq hl) ?_ ?_⟩
  ·rintro i x pr σ N hx ⟨v4,v5,v6,v7,L,rfl,f4,I4,ap⟩ mC
   obtain⟨a,ea,rfl⟩:=dz hx;obtain⟨q,eq,hq⟩:=ht.get ea;have hi:i<oo.length:=(B5.mp eq).1;have I:=Same.new (o:=.tup [.int i,.ref a]) mC;have X:=f4.trans (Same.sf I);have I5:=I4.sf (Same.sf I);refine⟨pr,_,rfl,SqT.of ac,rfl,_,_,rfl,_,_,rfl,rfl,?_⟩;generalize upd N pr (.tup [.int i,.ref a])=H5 at I X I5;refine⟨_,rfl,_,rfl,_,rfl,_,rfl,a,R,T,L,q,oo,i,p,rfl,X.tp hq,I5,eq,fun u c g left fill H6 f6 j6 gb nv y4 kC l7 pI W hw=>?_⟩;have iO:=X.trans f6;have I6:=I5.sf f6;have v:∀b∈L.flatMap dcs,∃o,H5 b=some o:=fun b hb=>by
    obtain⟨r,hr,hb⟩:=O7.mp hb;obtain⟨kvs,hk⟩:=Hc (I5.rw r hr) hb;exact ny hk
   have cn:c∉L.flatMap dcs:=fun z=>by obtain⟨o,e⟩:=v c z;rw[j6] at e;cases e
   have gn:g∉L.flatMap dcs:=fun z=>by obtain⟨o,e⟩:=v g z;rw[gb] at e;cases e
   refine⟨_,rfl,u,_,0,.ref c,rfl,rfl,SqT.of kC,rfl,c,kvC left,rfl,l7,rfl,_,rfl,?_⟩;rw[zA];have gf:=Hd I5.pap (PY hi);have fA:(dR L).length<sizeLine:=by unfold dR;rw[Ab];exact zX ω
   have J:((dh L).map (·.b)).Nodup:=I5.pap.srt.imp fun h=>ω
   by_cases hz:left.length=0
   ·have cJ:left=[]:=O5 hz
    subst cJ;rw[RM (by rfl)];refine aK ⟨_,rfl,a,_,rfl,.inr (SqT.of (iO.tp hq)),_,_,rfl,rfl,_,rfl,_,rfl,u,_,1,.ref g,rfl,rfl,SqT.of kC,rfl,zg (by simp),fun t dP=>?_⟩;have Y:=Same.new (o:=.tup [.int ((List.map V.int q).length-1),.int i,.non,.ref g,.non]) dP;refine⟨_,rfl,_,rfl,R,_,rfl,DPut.k (k:=Sum.inl (i:Int)) (Y _ _ I6.hR) fA,?_⟩;have hb:∀r∈L,r.x.b≠i:=fun r hr=>by
     have:=(nt I5.pap (KK.mpr ⟨r,hr,rfl⟩)).born;have this:r.x.b<i:=this;omega
    rw[Ny hb];have cy:dR L++[((Sum.inl (i:Int):Key),V.ref t)]=dR (L++[⟨⟨(q.length:Int)-1,i,none,fill,[]⟩,t,g,g⟩]):=by unfold dR;rw[Ao];rfl
    have iK:=Y _ _ I6.hR;have d:=iO.trans (Same.sf (P:=Pt) (pos:=nC) (q:=qY) Y);have I7:=I6.sf (Same.sf (P:=Pt) (pos:=nC) (q:=qY) Y);have qS:=pI.same Y;have fP:=ac (H:=H6) (a:=t) (o:=.tup [.int ((List.map V.int q).length-1),.int i,.non,.ref g,.non]);generalize upd H6 t (.tup [.int ((List.map V.int q).length-1),.int i,.non,.ref g,.non])=U at Y iK d I7 qS fP;rw[Ab] at fP;refine⟨_,_,_,_,L++[⟨⟨(q.length:Int)-1,i,none,fill,[]⟩,t,g,g⟩],rfl,d.put lK iK,⟨by rw[ac,cy],fun r hr=>?_,vl I7.hT iK,O,G,eN,lE,?_,I7.tb.off iK (by intro ps z;cases z) (by intro ob u z;cases z)⟩,ap.snoc (by simp[dcs]) (fun b hb=>?_) (fun b hb=>?_)⟩
    ·rcases OW.mp hr with hr|hr
     ·exact vm (I7.rw r hr) iK
     ·rw[OU.mp hr]
      exact vm ⟨qS,.inl ⟨rfl,fP⟩⟩ iK
    ·have e:dh (L++[⟨⟨(q.length:Int)-1,i,none,fill,[]⟩,t,g,g⟩])=dh L++[⟨(q.length:Int)-1,i,none,fill,[]⟩]:=by unfold dh;rw[Ao];rfl
     rw[e];exact MC O I5.pap W
    ·rw[OU.mp (show b∈[g] from hb)];exact X.dom gb
    ·rw[OU.mp (show b∈[g] from hb)];exact gn
   ·rw[RN (fun z=>hz (by injection z with z;omega))]
    rcases hw with hw|⟨y,t0,hy,j,pQ,eb,ed⟩
    ·exact absurd (by rw[hw];rfl) hz
    subst eb;refine aO ⟨_,rfl,_,rfl,u,_,0,.ref c,rfl,rfl,SqT.of kC,rfl,_,rfl,c,T,left,oo,rfl,l7,I6.hT,O.nd,G' hz,fun z jW=>(W.li z jW).1,I6.tb,fun b y' Bi U d df hy'=>?_⟩;have iS:=hy.yg O W.l ω;have nw:=hy'.yg O W.l ω;have et:=iS.uniq nw;subst et;have qJ:=iO.trans d;have I7:=I6.sf d;have gT:DGet U T (.ref b) (some (.int j.x.b)):=.inr ⟨kvC (bP oo),y'.map Sum.inl,b,I7.hT,rfl,by rw[Ak];exact df,(k5 O.nd hy'.2.1).symm⟩;have qB:=d.tup kC;refine⟨T,_,rfl,gT,?_⟩;refine⟨_,rfl,a,_,rfl,.inr (SqT.of (qJ.tp hq)),_,_,rfl,rfl,_,rfl,_,rfl,_,rfl,u,_,0,.ref c,rfl,rfl,SqT.of qB,rfl,_,rfl,u,_,1,.ref g,rfl,rfl,SqT.of qB,rfl,zg (by simp),fun t fP=>?_⟩;have s8:=Same.new (o:=.tup [.int ((List.map V.int q).length-2),.int j.x.b,.int i,.ref c,.ref g]) fP;have M:=s8 _ _ I7.hR;have f8:=qJ.trans (Same.sf (P:=Pt) (pos:=nC) (q:=qY) s8);have I8:=I7.sf (Same.sf (P:=Pt) (pos:=nC) (q:=qY) s8);have rN:=(d.rd l7).same s8;have lI:=(d.rd pI).same s8;have ng:=ac (H:=U) (a:=t) (o:=.tup [.int ((List.map V.int q).length-2),.int j.x.b,.int i,.ref c,.ref g]);refine⟨_,rfl,_,rfl,R,_,rfl,DPut.k (k:=Sum.inl (j.x.b:Int)) M fA,?_⟩;generalize upd U t (.tup [.int ((List.map V.int q).length-2),.int j.x.b,.int i,.ref c,.ref g])=H8 at s8 M f8 I8 rN lI ng;rw[Ab] at ng;have cy:putK (dR L) (Sum.inl (j.x.b:Int)) (.ref t)=dR (c9 L ⟨⟨(q.length:Int)-2,j.x.b,some i,left,fill⟩,t,c,g⟩):=Nz (x:=⟨⟨(q.length:Int)-2,j.x.b,some i,left,fill⟩,t,c,g⟩) ⟨j,pQ,rfl⟩;rw[cy];refine⟨_,_,_,_,c9 L ⟨⟨(q.length:Int)-2,j.x.b,some i,left,fill⟩,t,c,g⟩,rfl,f8.put lK M,⟨ac,fun r hr=>?_,vl I8.hT M,O,G,eN,lE,?_,I8.tb.off M (by intro ps z;cases z) (by intro ob u z;cases z)⟩,ap.put J ?_ (fun b hb=>?_) (fun b hb=>?_)⟩
    ·obtain⟨z,jW,rfl⟩:=KK.mp hr
     by_cases e:z.x.b=j.x.b
     ·rw[RJ e]
      exact vm ⟨rN,.inr ⟨i,rfl,lI,ng⟩⟩ M
     ·rw[RK e]
      exact vm (I8.rw z jW) M
    ·rw[Nx]
     exact ME O I5.pap W (KK.mpr ⟨j,pQ,rfl⟩) ed iS
    ·show [c,g].Nodup
     simp[nv]
    ·have hb:b∈[c,g]:=hb
     rcases OT.mp hb with rfl|hb
     ·exact X.dom j6
     ·rw[OU.mp hb];exact X.dom gb
    ·have hb:b∈[c,g]:=hb
     rcases OT.mp hb with rfl|hb
     ·exact cn
     ·rw[OU.mp hb];exact gn
  ·rintro σ N ⟨v4,v5,v6,v7,L,rfl,f4,I4,ap⟩
   rw[Ab,aE] at I4;have gf:=Hd I4.pap (Ag _);have J:((dh L).map (·.b)).Nodup:=I4.pap.srt.imp fun h=>ω
   have ez:(.dK (dR L):HO)=dZ (L.map fun r=>((r.x.b:Int),V.ref r.t)):=by
    unfold dR;show _=HO.dK _;rw[Ak];rfl
   refine⟨_,rfl,R,L.map fun r=>((r.x.b:Int),V.ref r.t),rfl,by rw[<-ez];exact I4.hR,by rw[Ab];omega,fun S ms eQ dg hS=>?_⟩;have em:ms=jU L:=by
    refine NA (eQ.trans ?_) dg ?_
    ·rw[Ak];exact List.Perm.refl _
    ·have:=I4.pap.srt
     unfold jU;rw[AX] at this ⊢;rw[AX] at this;exact this.imp fun h=>ω
   subst em;have I:=Same.new (o:=.lst ((jU L).map V.int)) hS;refine⟨S,rfl,⟨_,SqL.of ac⟩,fun D hD=>zE (NB (SqL.of ac) (I _ _ I4.hR) J ω hD fun H6 s6 cW=>?_)⟩;have f6:SY Pt N H6:=Same.sf (I.trans s6);have I6:=I4.sf f6;have kq:∀b∈L.flatMap dcs,∃kvs,Rd H6 b (.dT kvs):=fun b hb=>by
    obtain⟨r,hr,hb⟩:=O7.mp hb;exact Hc (I6.rw r hr) hb
   refine⟨L.flatMap dcs,fun b hb=>⟨ap.new b hb,kq b hb⟩,fun U o7 d7=>?_⟩;have d:SY Pt H6 U:=Nr kq o7 d7;refine k D L U ((f4.trans f6).trans d) ((f4.trans (Same.sf I)).dom hD) ⟨d.lst cW,fun r hr=>(I6.rw r hr).sf d,I4.pap⟩ ap fun b hb=>?_;obtain⟨kvs,hk⟩:=kq b hb;exact⟨kvs,d7 b hb kvs hk⟩
end
abbrev vo:Stmt:=top 27
abbrev DE:Stmt:=top 28
abbrev qe:Stmt:=top 29
def tri(x:cD):List V:=[.int x.hi,.int x.b,match x.d with|none=>.non|some e=>.int e]
section
variable{P:Program}{w:World}{K:Ae}{mg:Str->Option Value}{base:Heap}{f:Addr}{fd:FuncData}{Pt:Addr}
def RwAt.all{H:Hp}{r:RA}(h:RwAt H r):∃a b:V,H r.t=some (.tup (tri r.x++[a,b])):=by
 obtain⟨_,⟨e,h⟩|⟨e,e1,_,h⟩⟩:=h
 ·exact⟨.ref r.c,.non,by rw[h];unfold tri;rw[e];rfl⟩
 ·exact⟨.ref r.c,.ref r.g,by rw[h];unfold tri;rw[e1];rfl⟩
end
end K65
end
section
namespace L2
open PySem PySem.Spec PyProof.Rows
section
variable{X:Cx}
def Hg:da X (.type "range") (fun xs H Q=>∃j:Int,xs=[.int j]/\∀r,H r=none->Q (.ref r) (upd H r (.rng 0 j))):=by
 intro aa s σ H xs us Q I r h;obtain⟨j,rfl,q⟩:=h;obtain⟨u,rfl,⟨t,rfl⟩⟩:=vals1 r;exact call_range_1 ⟨.ref s⁻¹,_,I.laid (o:=.rng 0 j) (fun b o e=>Ad _ e) (Ag _) ⟨_,t,_,Al _ rfl⟩,rfl,q _ (I.hok.fresh (Ag _))⟩
def Hh(hc:X.calm=true):da X (.type "list") (fun xs H Q=>∃(r:Addr)(j:Nat),xs=[.ref r]/\H r=some (.rng 0 j)/\j<=1000/\∀l,H l=none->Q (.ref l) (upd H l (.lst (((AJ j).map fun k:Nat=>(k:Int)).map V.int)))):=by
 intro aa s σ H xs us Q I r h;obtain⟨a,j,rfl,ha,y,q⟩:=h;obtain⟨u,rfl,i⟩:=vals1 r;cases i;obtain⟨t,u,v,e⟩:=(show zF X.prog X.w H s.heap a (.rng 0 j) from I.hok a _ ha);have hr:IsRange s.heap a 0 j 1 t u v:=e;have p:Builtin.Range.rangeSize 0 j 1=(j:Nat):=by rw[rangeSize_one];split<;>omega
 refine call_list_range (n:=j) (I.ok.hd hc) hr (small_one ω ω ω ω) p ω fun h' tk acc c' d f g=>?_;have c:=MS g;have x:((AJ j).map fun k:Nat=>(0:Int)+(k:Nat))=(AJ j).map fun k:Nat=>(k:Int):=Aw fun k _=>ω
 rw[x] at c;refine⟨.ref s⁻¹,_,I.laid (t':=tk) (o:=.lst (((AJ j).map fun k:Nat=>(k:Int)).map V.int)) (fun b o e=>d b o e) (Ag _) (show zF X.prog X.w _ _ _ (.lst _) from⟨?_,acc.toList,c',c,by simpa using f⟩),rfl,q _ (I.hok.fresh (Ag _))⟩;rw[Ab,Ab,Q3,sizeLine_eq];omega
def DF(K:Ae):R2:=fun x y H Q=>∃l m ns a,x=.ref l/\y=.ref m/\SqL K H l (List.map V.int ns)/\SqL K H m (List.map V.int a)/\Q (.bl (!decide (ns=a))) H
def ND(hu:X.A.units+64<cLine):cg X (AZ .NotEq) (DF X.K):=by
 intro aa s σ H x y v u Q I b c h;obtain⟨l,m,ns,a,rfl,rfl,d,hm,q⟩:=h;cases b;cases c;obtain⟨_,f⟩:=uy I d;obtain⟨_,g⟩:=uy I hm;refine ne_dataH_same f g (uA _) (uA _) hu (SeqAt.noMix_of_shape (.list .int) rfl _ _ (uH _) (uH _)) ?_;have e:same (.list (ns.map AY)) (.list (a.map AY))=decide (ns=a):=by simp only[same];exact QN ns a
 rw[e];exact⟨.bl _,H,I,rfl,q⟩
end
end L2
end
section
namespace DEq
open PySem
section
variable{prog:Program}{w:World}{K:Type}[DecidableEq K]{knd:HeapKind prog w K}{A:Around}{E:Ω}{s:Shared}
def NE{id:String}{a b:Addr}{xs ys:List (K×Addr×Value)}{r:Bool}{Q:Bool->Shared->Prop}(hu:knd.room A)(ha:(a==A3)=false)(hb:(b==A3)=false)(hx:s.heap.DictOfH knd a xs)(hy:s.heap.DictOfH knd b ys)(hl:xs.length=ys.length)(hv:∀(i:Nat) k p v,xs[i]?=some (k,p,v)->∃(n:Int)(t:Tok),v=.int n t)(hw:∀(i:Nat) k p v,ys[i]?=some (k,p,v)->∃(n:Int)(t:Tok),v=.int n t)(hr:r=true↔∀(i:Nat) k p n t,xs[i]?=some (k,p,.int n t)->∃(j:Nat)(q:Addr)(t':Tok),ys[j]?=some (k,q,.int n t'))(h:Q r s):wpAny (model prog w) A (Builtin.Dict.samePairs id a b) Q E s:=by
 obtain⟨oa,d,pa,u,iB,C,M,kA,jy⟩:=hx;obtain⟨ob,eb,pb,D,cz,F,G,aN,N⟩:=hy;have P:=size_of_entries (knd:=knd) M;have sb:=size_of_entries (knd:=knd) G;unfold Builtin.Dict.samePairs Builtin.Dict.showsAll;rw[RK (by rw[ha];exact An),RK (by rw[hb];exact An)];refine Aa (Ac (Aa (Ac ?_)));refine Aa (AB u C ?_);dsimp only;refine Aa (AB D F ?_);rw[RK (by rw[P,sb,hl];simp)];refine Aa (Bc u C ?_);refine Aa ?_;rw[Std.Legacy.Range.forIn_eq_forIn_range'];simp only[Std.Legacy.Range.size,Rh,Nat.add_sub_cancel,Nat.div_one];refine wpAny_forIn_list _ (fun rest r s'=>s'=s/\r.1=none/\∃i,rest=RI i (d.size-i)/\i<=d.size/\∀(f:Nat) k p n t,f<i->xs[f]?=some (k,p,.int n t)->∃(j:Nat)(q:Addr)(t':Tok),ys[j]?=some (k,q,.int n t')) _ ?_ ?_ _ _ ⟨rfl,rfl,0,by simp,A1 _,fun f k p n t h=>absurd h (Nat.not_lt_zero _)⟩
 ·rintro x rest r' s' ⟨rfl,H,i,hr',hi,c⟩
  have o:i<d.size:=by
   rcases Qn i d.size with h|h
   ·exact h
   ·rw[Nat.sub_eq_zero_of_le h] at hr';simp at hr'
  obtain⟨rfl,ce⟩:x=i/\rest=RI (i+1) (d.size-(i+1)):=by
   have e:d.size-i=(d.size-(i+1))+1:=ω
   rw[e,RB] at hr';injection hr' with h1 h2
   exact⟨h1,h2⟩
  obtain⟨⟨k,p,v⟩,l⟩:∃y,xs[x]?=some y:=⟨xs[x]'(by rw[<-P];exact o),Ai _⟩;obtain⟨n,t,rfl⟩:=hv x k p v l;have hex:d[x]?=some ⟨knd.hash k,.ref p,.int n t⟩:=by rw[entry_at M x,l];rfl
  have J:knd.is s'.heap k p:=kA _ (Aj l);have S:(∀(j:Nat)(q:Addr)(t':Tok),ys[j]?≠some (k,q,.int n t'))->Q false s':=fun hb=>by
   have:r=false:=by
    cases r with
    |false=>rfl
    |true=>
     obtain⟨j,q,t',e⟩:=hr.mp rfl x k p n t l;exact absurd e (hb j q t')
   rw[<-this];exact h
  refine Aa (AB u C ?_);rw[hex];dsimp only;refine Aa (AI (Aa (wpAny_dictFind_heap hu J D F G aN N (fun T=>?_) fun j U g=>?_)))
  ·dsimp only
   refine Ac ?_;rw[RJ (by rfl)];exact Ac (Ac (S fun j q t' e=>T j _ e))
  ·obtain⟨I,qv⟩:=U
   obtain⟨O,t',rfl⟩:=hw j k I qv g;dsimp only;refine Aa (AB D F ?_);have mz:eb[j]?=some ⟨knd.hash k,.ref I,.int O t'⟩:=by rw[entry_at G j,g];rfl
   rw[mz];dsimp only;refine AI (wpAny_eqBool_int ?_)
   by_cases L:n=O
   ·subst L
    rw[RK (by simp)];refine Aa (Bc u C ?_);rw[RK (by simp)];refine Ac ⟨rfl,rfl,x+1,ce,o,fun f W X m Y hi' e=>?_⟩
    by_cases ei:f=x
    ·subst ei
     rw[l] at e;cases e;exact⟨j,I,t',g⟩
    ·exact c f W X m Y ω e
   ·rw[RJ (by simpa using L)]
    refine Ac (Ac (S fun j' q' B1 e=>?_));have:=idxH_unique N g e;subst this;rw[g] at e;cases e;exact L rfl
 ·rintro⟨r1,r2⟩ s' ⟨rfl,H,i,h1,h2,c⟩
  simp only at H;subst H;have:r=true:=hr.mpr fun f k p n t e=>by
   have h3:d.size-i=0:=by
    cases hz:d.size-i with
    |zero=>rfl
    |succ m=>rw[hz,RB] at h1;cases h1
   have h4:=(B5.mp e).1;exact c f k p n t ω e
  rw[<-this];exact Ac h
end
end DEq
namespace L2
open PySem PySem.Spec PyProof.Rows
def qh(H:Hp)(a b:Addr)(r:Bool):Prop:=∃(kvs c:List (List Key×V))(ab d:Ξ)(ns e:List Int),Rd H a (.dT kvs)/\Rd H b (.dT c)/\kvs.map (·.1)=ab.map (·.map Sum.inl)/\c.map (·.1)=d.map (·.map Sum.inl)/\kvs.map (·.2)=ns.map V.int/\c.map (·.2)=e.map V.int/\
 (r=true↔kvs.length=c.length/\∀kv∈kvs,kv∈c)
section
variable{X:Cx}
def NF{aa:Ψ}{s:Shared}{σ:St}{H:Hp}{a b:Addr}{r:Bool}(I:Inv X aa σ H s)(hu:X.A.units+64<cLine)(h:qh H a b r):s.TypeIs (.ref a) "dict"/\s.TypeIs (.ref b) "dict"/\
  ∀(id:String)(R:Bool->Shared->Prop)(Y:Ω)(A':Around),A'.units<=X.A.units+8->R r s->wpAny (model X.prog X.w) A' (Builtin.Dict.samePairs id a b) R Y s:=by
 obtain⟨kvs,aB,ab,bB,ns,fc,ha,hb,hp,l,o,u,hc⟩:=h;obtain⟨O,xs,x,al,y⟩:=nu I.hok ha hp;obtain⟨P,ys,C,bl,D⟩:=nu I.hok hb l;refine⟨(x X.prog X.w).typeIs,(C X.prog X.w).typeIs,fun id R Y A' hA N=>?_⟩
 by_cases W:kvs.length=aB.length
 ·have d:∀{kvs:List (List Key×V)}{ab:Ξ}{ns:List Int}{i:Nat}{kv:List Key×V}{k:List Int},kvs.map (·.1)=ab.map (·.map Sum.inl)->kvs.map (·.2)=ns.map V.int->kvs[i]?=some kv->ab[i]?=some k->kv.1=k.map Sum.inl/\∃n,kv.2=V.int n:=fun{kvs ab ns i kv k} h1 h2 e1 e2=>by
   refine⟨?_,?_⟩
   ·have:=congrArg (·[i]?) h1
    simp only[Af,e1,e2,AS,AW] at this;exact this
   ·have g:=congrArg (·[i]?) h2
    simp only[Af,e1,AS] at g;cases c:ns[i]? with
    |none=>rw[c] at g;simp at g
    |some n=>rw[c] at g;exact⟨n,by simpa using g⟩
  refine DEq.NE (knd:=tupleKind (intKind X.prog X.w)) (r:=r) (show A'.units<cLine from ω) O P (x _ _) (C _ _) ω (fun i k p v e=>?_) (fun i k p v e=>?_) (hc.trans ⟨fun h2 i k p n t e=>?_,fun h2=>⟨W,fun kv cy=>?_⟩⟩) N
  ·obtain⟨g1,kv,g2,g3⟩:=y i _ e
   obtain⟨_,n,c⟩:=d hp o g2 g1;rw[c] at g3;obtain⟨t,E⟩:=(show ∃t,v=Value.int n t from g3);exact⟨n,t,E⟩
  ·obtain⟨g1,kv,g2,g3⟩:=D i _ e
   obtain⟨_,n,c⟩:=d l u g2 g1;rw[c] at g3;obtain⟨t,E⟩:=(show ∃t,v=Value.int n t from g3);exact⟨n,t,E⟩
  ·obtain⟨g1,kv,g2,g3⟩:=y i _ e
   obtain⟨F,m,em⟩:=d hp o g2 g1;rw[em] at g3;obtain⟨Q,G⟩:=(show ∃t9,Value.int n t=Value.int m t9 from g3);cases G;obtain⟨j,J⟩:=Px (h2.2 kv (Aj g2));have du:j<ys.length:=by have:=(B5.mp J).1;omega
   have U:ys[j]?=some ys[j]:=Ai du;obtain⟨f1,S,f2,f⟩:=D j ys[j] U;rw[J] at f2;obtain rfl:=Ah f2;obtain⟨L,_⟩:=d l u J f1;have ek:ys[j].1=k:=eJ.mp (L.symm.trans F);rw[em] at f;obtain⟨t',gF⟩:=(show ∃t,ys[j].2.2=Value.int n t from f);refine⟨j,ys[j].2.1,t',?_⟩;rw[U,<-ek,<-gF]
  ·obtain⟨i,hi⟩:=Px cy
   have M:i<xs.length:=by have:=(B5.mp hi).1;omega
   have ex:xs[i]?=some xs[i]:=Ai M;obtain⟨g1,Bx,g2,g3⟩:=y i xs[i] ex;rw[hi] at g2;obtain rfl:=Ah g2;obtain⟨F,m,em⟩:=d hp o hi g1;rw[em] at g3;obtain⟨Q,G⟩:=(show ∃t,xs[i].2.2=Value.int m t from g3);obtain⟨j,q,t',ej⟩:=h2 i xs[i].1 xs[i].2.1 m Q (by rw[ex,<-G]);obtain⟨f1,S,f2,f⟩:=D j _ ej;obtain⟨L,m',T⟩:=d l u f2 f1;rw[T] at f;obtain⟨t2,w9⟩:=(show ∃t,Value.int m t'=Value.int m' t from f);cases w9;have:kv=S:=Prod.ext (F.trans L.symm) (em.trans T.symm);rw[this];exact Aj f2
 ·have:r=false:=by
   cases r with
   |false=>rfl
   |true=>exact absurd (hc.mp rfl).1 W
  subst this;exact DEq.G1 (knd:=tupleKind (intKind X.prog X.w)) O P (x _ _) (C _ _) ω N
def Hi(hu:X.A.units+64<cLine):cg X (AZ .Eq) (fun x y H Q=>∃a b r,x=.ref a/\y=.ref b/\qh H a b r/\Q (.bl r) H):=by
 intro aa s σ H x y v u Q I c d h;obtain⟨a,b,r,rfl,rfl,hc,q⟩:=h;cases c;cases d;obtain⟨e,f,g⟩:=NF I hu hc;exact DEq.MU ω e f g ⟨.bl r,H,I,rfl,q⟩
end
end L2
end
section
namespace K65
open K1
open PySem L2 STb
def Hj:AU "range"=some (.type "range"):=δ
def ChP.nz{p:Int}{cs:Ch}(h:ChP p cs):∀c∈cs,c.2≠0:=fun c hc=>by have:=h.lo c hc;omega
def Hk{a b:Ch}(h:∀c∈a,c∈b):∀kv∈kvC a,kv∈kvC b:=fun kv hk=>by
 obtain⟨c,hc,rfl⟩:=KK.mp hk;exact KK.mpr ⟨c,h c hc,rfl⟩
def Hl{a b:Ch}(h:∀kv∈kvC a,kv∈kvC b):∀c∈a,c∈b:=fun c hc=>by
 obtain⟨d,hd,e⟩:=KK.mp (h _ (KK.mpr ⟨c,hc,rfl⟩));have e1:(d.1.map Sum.inl:List Key)=c.1.map Sum.inl:=congrArg Prod.fst e;have e2:V.int d.2=V.int c.2:=congrArg Prod.snd e;have:d=c:=Prod.ext (eJ.mp e1) (by injection e2);rw[<-this];exact hd
def AtP(oo:Ξ)(p z t:Int)(cs:Ch):Prop:=(∀c∈cs,c.1∈oo/\(c.1.length:Int)=z)/\(∀c∈cs,1<=c.2/\c.2<p)/\∃y u,Yst oo cs y u/\(u:Int)=t
structure RG where
 t:Addr
 c:Addr
 hi:Int
 b:Int
 d:Option Int
 cs:Ch
 g:Option (Addr×Ch)
def oV:Option Int->V
 |none=>.non
 |some e=>.int e
def gV:Option (Addr×Ch)->V
 |none=>.non
 |some x=>.ref x.1
def RgAt(H:Hp)(r:RG):Prop:=H r.t=some (.tup [.int r.hi,.int r.b,oV r.d,.ref r.c,gV r.g])/\Rd H r.c (.dT (kvC r.cs))/\∀x,r.g=some x->Rd H x.1 (.dT (kvC x.2))
def c_(oo:Ξ)(p:Int)(r:RG):Prop:=AtP oo p (r.hi+1) r.b r.cs/\((r.d=none/\r.g=none/\∀x,p ∣ lin r.cs x)\/∃e x,r.d=some e/\r.g=some x/\AtP oo p (r.hi+2) e x.2/\∀y,aC r.cs y=lin x.2 y%p)
structure Gd(cs:Ch):Prop where
 nd:(ksC cs).Nodup
 few:cs.length<=100
def k8(r:RG):Prop:=Gd r.cs/\∀x,r.g=some x->Gd x.2
def RgAt.sf{P:Addr}{pos:Pos}{q:Str}{H H':Hp}{r:RG}(h:RgAt H r)(s:SF P pos q H H'):RgAt H' r:=⟨s.tup h.1,s.rd h.2.1,fun x e=>s.rd (h.2.2 x e)⟩
def RgAt.same{H H':Hp}{r:RG}(h:RgAt H r)(s:Same H H'):RgAt H' r:=⟨s _ _ h.1,h.2.1.same s,fun x e=>(h.2.2 x e).same s⟩
section
variable{p:Int}{oo:Ξ}{cs gs:Ch}
def AtP.ok{z t:Int}(h:AtP oo p z t cs)(nd:(ksC cs).Nodup):ChP p cs:=⟨nd,h.2.1⟩
def AtP.in_{z t:Int}(h:AtP oo p z t cs):∀q∈ksC cs,q∈oo:=fun q hq=>by
 obtain⟨c,hc,rfl⟩:=KK.mp hq;exact(h.1 c hc).1
def Hm(y:List Int):∀{cs:Ch},(∀c∈cs,p ∣ c.2)->p ∣ lin cs y
 |[],_=>Pb _
 |c::cs,h=>by
  rw[fV];exact PR (O8 (h c (.head _)) (Qc _ _)) (Hm y fun d hd=>h d (.tail _ hd))
def NG{a b:Ch}(d:(ksC a).Nodup)(f:(ksC b).Nodup)(h:∀x,p ∣ aC a x-aC b x)(y:List Int):p ∣ lin a y-lin b y:=by
 have e:lin (cx (a++b.map fun c=>(c.1,-1*c.2))) y=lin a y-lin b y:=by
  rw[GE,sT,Mb];omega
 rw[<-e];refine Hm y fun c hc=>?_;rw[<-(sG hc).2,C1,Ma,p3 d,p3 f];have:=h c.1
 rwa [show aC a c.1-aC b c.1=aC a c.1+-1*aC b c.1 from ω] at this
def NH(d:∀c∈gs,c.1.length<=5)(nd:(ksC cs).Nodup)(h:∀x,aC cs x=lin gs x%p)(y:List Int):p ∣ lin cs y:=by
 have h1:=NG (p:=p) (a:=cs) (b:=eS gs) nd (zS _) (fun x=>by
  rw[h x,ti];have:=Dm (lin gs x) p;rw[show lin gs x%p-lin gs x=-(lin gs x-lin gs x%p) from ω];exact Int.dvd_neg.mpr this) y
 have h2:lin (eS gs) y=0:=by
  rw[<-ti,L9 d];rfl
 rw[h2,Int.sub_zero] at h1;exact h1
def Hn(hp:0<p):(sb p cs).length=0↔∀x,p ∣ lin cs x:=by
 have ok:ChP p (sb p cs):=ue hp (zS _);constructor
 ·intro h x
  have e:sb p cs=[]:=O5 h;have:=p_ (p:=p) cs x;rw[e] at this;exact Pe this.symm
 ·intro h
  cases e:sb p cs with
  |nil=>rfl
  |cons c t=>
   have a:=ok.at (x:=c.1) (by rw[e];exact .head _);rw[p_,Qj (h c.1)] at a;omega
def same_iff{a b:Ch}(ha:ChP p a)(hb:ChP p b):(a.length=b.length/\∀c∈a,c∈b)↔∀x,aC a x=aC b x:=by
 constructor
 ·rintro⟨l,g⟩ x
  have j:a.Nodup:=by
   have:=ha.nd;unfold ksC List.Nodup at this;rw[AX] at this;exact this.imp fun h e=>h (by rw[e])
  have f:∀c∈b,c∈a:=fun c hc=>Classical.byContradiction fun i=>by
   have:=(Qo.mpr ⟨i,j⟩).length_le_of_subset (l₂:=b) fun d hd=>by
    rcases OT.mp hd with rfl|hd
    ·exact hc
    ·exact g d hd
   rw[Ay] at this;omega
  by_cases hx:x∈ksC a
  ·obtain⟨c,hc,rfl⟩:=KK.mp hx
   rw[iD ha.nd c hc,iD hb.nd c (g c hc)]
  ·rw[zW hx,zW fun hy=>hx (by
    obtain⟨c,hc,rfl⟩:=KK.mp hy;exact KK.mpr ⟨c,f c hc,rfl⟩)]
 ·exact fun h=>L_ ha.nd hb.nd ha.nz hb.nz h
end
def Ho{oo:Ξ}{q:List Int}(h:q∉oo):bq (kvC (bP oo)) (q.map Sum.inl)=none:=by
 unfold bq;rw[List.find?_eq_none.mpr ?_]
 ·rfl
 intro kv hk e;have e:=RO e;unfold kvC at hk;obtain⟨c,hc,rfl⟩:=KK.mp hk;have e:(c.1.map Sum.inl:List Key)=q.map Sum.inl:=e;have e2:=eJ.mp e;unfold bP at hc;obtain⟨x,hx,rfl⟩:=KK.mp hc;have a:=Qq.mp hx;exact h (by rw[<-e2];exact Aj a)
section
variable{P:Program}{w:World}{K:Ae}{mg:Str->Option Value}{base:Heap}{f:Addr}{fd:FuncData}{Pt:Addr}
def NI{H2:Hp}{d D:Addr}{o:Obj}{cs:Ch}{rest:List (Option V)}{te:TE}{Q:VK}{pr:List Int×Int->Bool}(hd:H2 d=some (.frz o (.dT (kvC cs))))(hz:cs.length<=1000)(step:∀(c:List Int×Int)(b:Addr)(H3:Hp)(R:VK),c∈cs->Same H2 H3->Tp H3 b c.1->R (.bl (pr c)) H3->te (some (.ref b)::rest) H3 R)(g:H2 D=none)(k:∀(H3:Hp),Same H2 H3->H3 D=some (.lst ((cs.map pr).map V.bl))->Q (.ref D) H3):cG (kP d o (kvC cs)) (zU 0) bT te (none::rest) H2 D Q:=by
 refine iA cs.length (fun j σ ys H3=>∃(v:Option V),σ=v::rest/\Same H2 H3/\H3 D=some (.lst ys)/\ys=((cs.map pr).take j).map V.bl) ?_ ?_ ?_ ?_ ?_
 ·exact⟨none,rfl,Same.new g,ac,rfl⟩
 ·rintro σ ys H3 ⟨v,rfl,sm,a,rfl⟩
  exact⟨(zA cs).symm,sm _ _ hd⟩
 ·rintro i σ ys H3 hi ⟨v,rfl,sm,a,rfl⟩
  exact⟨by rw[zA];exact hi,sm _ _ hd⟩
 ·rintro i σ ys H3 x H' hi hy ⟨v,rfl,sm,a,rfl⟩ ⟨rfl,kv,b,h,rfl,l⟩
  obtain⟨c,f,rfl⟩:=sJ h;have e:(cs.map pr)[i]?=some (pr c):=by rw[Af,f];rfl
  exact cw (step c b _ _ (Aj f) sm (p0 l) (bi (zg ω) hi hy a ⟨_,rfl,sm.then g,ac,by rw[AE e,Ao];rfl⟩))
 ·rintro σ ys H3 ⟨v,rfl,sm,a,rfl⟩
  rw[AA (by rw[Ab];exact Ag _)] at a;exact k H3 sm a
def NJ{H2:Hp}{d D:Addr}{o:Obj}{cs:Ch}{rest:List (Option V)}{te:TE}{Q:VK}{pr:List Int×Int->Bool}(hd:H2 d=some (.frz o (.dT (kvC cs))))(hz:cs.length<=1000)(step:∀(c:List Int×Int)(H3:Hp)(R:VK),c∈cs->R (.bl (pr c)) H3->te (some (.int c.2)::rest) H3 R)(f:H2 D=none)(k:∀(H3:Hp),Same H2 H3->H3 D=some (.lst ((cs.map pr).map V.bl))->Q (.ref D) H3):cG (CP d o (kvC cs)) (zU 0) bT te (none::rest) H2 D Q:=by
 refine iA cs.length (fun j σ ys H3=>∃(v:Option V),σ=v::rest/\Same H2 H3/\H3 D=some (.lst ys)/\ys=((cs.map pr).take j).map V.bl) ?_ ?_ ?_ ?_ ?_
 ·exact⟨none,rfl,Same.new f,ac,rfl⟩
 ·rintro σ ys H3 ⟨v,rfl,sm,a,rfl⟩
  exact⟨(zA cs).symm,sm _ _ hd⟩
 ·rintro i σ ys H3 hi ⟨v,rfl,sm,a,rfl⟩
  exact⟨by rw[zA];exact hi,sm _ _ hd⟩
 ·rintro i σ ys H3 x H' hi hy ⟨v,rfl,sm,a,rfl⟩ ⟨rfl,kv,g,rfl⟩
  obtain⟨c,b,rfl⟩:=sJ g;have e:(cs.map pr)[i]?=some (pr c):=by rw[Af,b];rfl
  exact cw (step c _ _ (Aj b) (bi (zg ω) hi hy a ⟨_,rfl,sm.then f,ac,by rw[AE e,Ao];rfl⟩))
 ·rintro σ ys H3 ⟨v,rfl,sm,a,rfl⟩
  rw[AA (by rw[Ab];exact Ag _)] at a;exact k H3 sm a
def Hq(cs:Ch)(pr:List Int×Int->Bool):(cs.map pr).all id=cs.all pr:=by rw[List.all_map];rfl
def Hr(Pt:Addr):Sp:=fun vs H Q _=>∃d T cs oo h p t,vs=[.ref d,.int h,.int t,.ref T,.int p]/\Rd H d (.dT (kvC cs))/\Rd H T (.dT (kvC (bP oo)))/\oo.Nodup/\Gd cs/\TY Pt H/\∀r H',(r=true↔AtP oo p (h+1) t cs)->SY Pt H H'->Q (.bl r) H'
def NK:zr ["chain","height","time","times","prime"] ["chain","height","time","times","prime"] (zh qe):=⟨rfl,rfl,rfl,δ,rfl,δ,δ⟩
abbrev DG(K:Ae):TE:=Ei (i6 (ay 0) (ay 1)) (bY lS (hH (CT K) (zH (ay 0) bb)) (bY (eu fun i j=>.int (i+j)) (ay 2) (tC (.int 1))))
abbrev DH:TE:=xN (eu fun i j=>.bl (decide (i<=j))) (eu fun i j=>.bl (decide (i<j))) (tC (.int 1)) (ay 0) (ay 1)
def NL(F:Fun K "is_chain_by" "is_chain_by" qe f fd)(B:Bt mg)(Cy:Cl P w K mg base aG "youngest_of" ["chain","times"] 4 (ve Pt)):FnOk P w K mg base aG 5 f fd ["chain","height","time","times","prime"] (Hr Pt):=by
 refine F.ok NK (fun vs H Q E h=>?_) (fun cdv A outer s H vs Q E hr h=>?_)
 ·obtain⟨d,T,cs,oo,h,p,t,rfl,_⟩:=h;rfl
 ·obtain⟨d,T,cs,oo,h,p,t,rfl,hd,hT,nd,gd,tb,k⟩:=h
  have hu:=ev hr;have hz:cs.length<=1000:=by have:=gd.few;omega
  refine⟨_,ze (zR (gh (iN (zm (mD rfl) rfl B.all mL (zc (zv ["chain","height","time","times","prime"] ["piece","times","height"] [none,some 3,some 1] (pD (pv 0)) (fun x C s₀ H₀ ex=>zk (i:=0) (cv ["piece","times","height"]) rfl (Or.inl rfl)) (fun x C s₀ H₀ ex=>zP)
    (fun x C s₀ H₀ ex=>j4 (Ef (ro hu (pv 0) (pv 1)) (by with_unfolding_all rfl)) (j2 (eZ db (zm zl rfl B.len cV (zc (pv 0) zd)) (zx dq (pv 2) zf) (au _)))) (hfr:=b_ (zh qe) δ) (te:=DG K)) zd)))) (zi (zq dY)) zt)
   (ze (zR (gh (iN (zm (mD rfl) rfl B.all mL (zc (zv ["chain","height","time","times","prime"] ["weight","prime"] [none,some 4] (Lm (Lq (pv 0))) (fun x C s₀ H₀ ex=>zk (i:=0) (cv ["weight","prime"]) rfl (Or.inl rfl)) (fun x C s₀ H₀ ex=>zP)
    (fun x C s₀ H₀ ex=>IK qZ lU zf (pv 0) (pv 1)) (hfr:=b_ (zh qe) δ) (te:=DH)) zd)))) (zi (zq dY)) zt)
   (zi (zq (j4 (eZ oj (zm ur rfl B.len cV (zc (pv 0) zd)) zf (au _)) (j2 (eZ db (zQ hu (pv 3) (zy Cy hr rfl ax (zc (pv 0) (zc (pv 3) zd))) (fun _ _=>rfl)) (pv 2) (au _))))))),?_⟩
  refine⟨_,rfl,d,kvC cs,rfl,hd,fun o H1 I O=>fun D Y=>zE (NI (pr:=fun c=>decide (c.1∈oo/\(c.1.length:Int)=h+1)) I hz (fun c b H3 R fe sm hb l=>?_) Y fun H2 s2 bf=>?_)⟩
  ·have f1:SY Pt H H1:=SF.one hd (.inr ⟨o,I⟩) O
   by_cases a:c.1∈oo
   ·obtain⟨u,L⟩:=OV.mp a
    have g:DGet H3 T (.ref b) (some (.int u)):=.inr ⟨kvC (bP oo),c.1.map Sum.inl,b,(f1.rd hT).same sm,rfl,by rw[Ak];exact hb,(k5 nd L).symm⟩;refine⟨_,rfl,_,rfl,T,_,rfl,g,true,rfl,aK ⟨_,rfl,b,_,rfl,.inr (SqT.of hb),_,rfl,_,_,rfl,rfl,rfl,?_⟩⟩;rw[Ab,show decide (V.int (c.1.length:Int)=V.int (h+1))=decide (c.1∈oo/\(c.1.length:Int)=h+1) from decide_eq_decide.mpr ⟨fun z=>⟨a,by injection z⟩,fun z=>by rw[z.2]⟩];exact l
   ·have g:DGet H3 T (.ref b) none:=.inr ⟨kvC (bP oo),c.1.map Sum.inl,b,(f1.rd hT).same sm,rfl,by rw[Ak];exact hb,(Ho a).symm⟩
    refine⟨_,rfl,_,rfl,T,_,rfl,g,false,rfl,aO ?_⟩;rw[RN (fun z=>a z.1)] at l;exact l
  ·have f1:SY Pt H H1:=SF.one hd (.inr ⟨o,I⟩) O
   have f2:=f1.trans (Same.sf s2);refine⟨D,_,rfl,SqL.of bf,_,by rw[Hq],?_⟩;cases ha:cs.all fun c=>decide (c.1∈oo/\(c.1.length:Int)=h+1) with
   |false=>
    refine aK (k false H2 ⟨fun z=>(nomatch z),fun z=>?_⟩ f2);rw[OX.mpr fun c hc=>RM (z.1 c hc)] at ha;exact ha.symm
   |true=>
    have hi:∀c∈cs,c.1∈oo/\(c.1.length:Int)=h+1:=fun c hc=>RO (OX.mp ha c hc);refine aO ⟨_,rfl,d,kvC cs,rfl,rfl,f2.rd hd,fun v hv=>?_⟩;have s3:=Same.new (o:=pk v d) hv;have M:=f2.trans (Same.sf s3);refine⟨v,d,kvC cs,rfl,ac,M.rd hd,fun o4 H4 S jH=>fun D4 bI=>zE (NJ (pr:=fun c=>decide (1<=c.2/\c.2<p)) S hz (fun c G R fe l=>?_) bI fun G s5 ba=>?_)⟩
    ·by_cases h1:1<=c.2
     ·refine⟨_,rfl,_,_,rfl,rfl,true,?_,?_⟩
      ·exact congrArg V.bl (RM h1)
      ·refine aK ⟨_,rfl,_,_,rfl,rfl,?_⟩
       have e:V.bl (decide (c.2<p))=.bl (decide (1<=c.2/\c.2<p)):=congrArg V.bl (decide_eq_decide.mpr ⟨fun z=>⟨h1,z⟩,fun z=>z.2⟩);show R (V.bl (decide (c.2<p))) G;rw[e];exact l
     ·refine⟨_,rfl,_,_,rfl,rfl,false,?_,?_⟩
      ·exact congrArg V.bl (RN h1)
      ·rw[RN (fun z=>h1 z.1)] at l
       exact aO l
    ·have f4:SY Pt H H4:=M.trans (SF.one (M.rd hd) (.inr ⟨o4,S⟩) jH)
     have r:=f4.trans (Same.sf s5);refine⟨D4,_,rfl,SqL.of ba,_,by rw[Hq],?_⟩;cases hb:cs.all fun c=>decide (1<=c.2/\c.2<p) with
     |false=>
      refine aK (k false G ⟨fun z=>(nomatch z),fun z=>?_⟩ r);rw[OX.mpr fun c hc=>RM (z.2.1 c hc)] at hb;exact hb.symm
     |true=>
      have N:∀c∈cs,1<=c.2/\c.2<p:=fun c hc=>RO (OX.mp hb c hc);refine aO ⟨_,rfl,d,kvC cs,rfl,r.rd hd,_,_,rfl,rfl,_,rfl,?_⟩
      by_cases j:cs=[]
      ·rw[RN (by rw[j];decide)]
       refine aO (k false G ⟨fun z=>(nomatch z),fun z=>?_⟩ r);obtain⟨y,u,hy,_⟩:=z.2.2;have:=hy.1;rw[j] at this;cases this
      have U:=O9.mpr j;rw[RM (by rw[zA];omega)];refine aK ⟨_,rfl,_,rfl,_,rfl,d,T,cs,oo,rfl,r.rd hd,r.rd hT,nd,j,(fun q hq=>?_),r.tab tb,fun b J t' X f6 hb hy'=>?_⟩
      ·obtain⟨c,hc,rfl⟩:=KK.mp hq
       exact(hi c hc).1
      have W:=r.trans f6;have g:DGet X T (.ref b) (some (.int t')):=.inr ⟨kvC (bP oo),J.map Sum.inl,b,W.rd hT,rfl,by rw[Ak];exact hb,(k5 nd hy'.2.1).symm⟩;refine⟨T,_,rfl,g,_,rfl,rfl,?_⟩;refine k _ X ⟨fun z=>?_,fun z=>?_⟩ W
      ·have z:=RO z
       exact⟨hi,N,J,t',hy',by injection z⟩
      ·obtain⟨y,u,hy,L⟩:=z.2.2
       have et:t'=u:=Nat.le_antisymm (hy.2.2 J hy'.1 t' hy'.2.1) (hy'.2.2 y hy.1 u hy.2.1);exact RM (by rw[et,L])
end
def ends(L:List RG):List Int:=L.map (·.b)++L.filterMap (·.d)
abbrev fK(n:Nat):List Int:=(AJ n).map fun k:Nat=>(k:Int)
def gU(oo:Ξ)(p:Int)(L:List RG):Prop:=(ends L).Perm (fK oo.length)/\∀r∈L,c_ oo p r
def jX{d e:Type}{R:d->e->Prop}{as:List d}{bs:List e}(h:Paired R as bs):(∀a∈as,∃b∈bs,R a b)/\∀b∈bs,∃a∈as,R a b:=by
 induction h with
 |nil=>exact⟨(fun a h=>nomatch h),(fun b h=>nomatch h)⟩
 |@cons a b as bs r t ih=>
  refine⟨fun x hx=>?_,fun x hx=>?_⟩
  ·rcases OT.mp hx with rfl|hx
   ·exact⟨b,.head _,r⟩
   ·obtain⟨y,hy,c⟩:=ih.1 x hx;exact⟨y,.tail _ hy,c⟩
  ·rcases OT.mp hx with rfl|hx
   ·exact⟨a,.head _,r⟩
   ·obtain⟨y,hy,c⟩:=ih.2 x hx;exact⟨y,.tail _ hy,c⟩
def Hs(n:Nat):(fK n).Pairwise (·<=·):=by
 unfold fK;rw[AX];exact List.pairwise_lt_range.imp fun h=>ω
def Ht{l m:List Int}(hp:l.Perm m)(h1:l.Pairwise (·<=·))(h2:m.Pairwise (·<=·)):l=m:=
 hp.eq_of_pairwise (fun a b _ _ h h'=>Int.le_antisymm h h') h1 h2
def NM{L:List RG}{j:Nat}{r:RG}(h:L[j]?=some r):(L.take (j+1)).filterMap (·.d)=(L.take j).filterMap (·.d)++(match r.d with|none=>[]|some e=>[e]):=by
 rw[AE h,List.filterMap_append]
 congr 1
 show List.filterMap (·.d) [r]=_;rw[A6];cases r.d with
 |none=>rfl
 |some e=>rfl
section
variable{P:Program}{w:World}{K:Ae}{mg:Str->Option Value}{base:Heap}{f:Addr}{fd:FuncData}{Pt:Addr}
def DI(Pt:Addr):Sp:=fun vs H Q _=>∃r T oo p,vs=[.ref r.t,.ref T,.int p]/\RgAt H r/\k8 r/\Rd H T (.dT (kvC (bP oo)))/\fm oo/\oo.length<=200/\0<p/\TY Pt H/\∀b H',(b=true↔c_ oo p r)->SY Pt H H'->Q (.bl b) H'
def NN:zr ["row","times","prime"] ["row","times","prime"] (zh DE):=⟨rfl,rfl,rfl,δ,rfl,δ,δ⟩
def NO(F:Fun K "is_bar" "is_bar" DE f fd)(B:Bt mg)(Cc:Cl P w K mg base aG "is_chain_by" ["chain","height","time","times","prime"] 5 (Hr Pt))(Cm:Cl P w K mg base aG "seam_of" ["chain"] 3 C8)(Ct:Cl P w K mg base aG "taken_by" ["chain","prime"] 2 (vi Pt)):FnOk P w K mg base aG 6 f fd ["row","times","prime"] (DI Pt):=by
 refine F.ok NN (fun vs H Q E h=>?_) (fun cdv A outer s H vs Q E hr h=>?_)
 ·obtain⟨r,T,oo,p,rfl,_⟩:=h;rfl
 ·obtain⟨r,T,oo,p,rfl,cR,mH,hT,O,aS,hp,tb,k⟩:=h
  have aq:=hr.units;refine⟨_,ze (zR (gh (iN (zy Cc hr rfl ax (zc (zB zG (pv 0) zf (fun _ _=>rfl)) (zc (zB zG (pv 0) zf (fun _ _=>rfl)) (zc (zB zG (pv 0) zf (fun _ _=>rfl)) (zc (pv 1) (zc (pv 2) zd)))))))) (zi (zq dY)) zt)
   (ze (zR (zn hE (zB zG (pv 0) zf (fun _ _=>rfl)) ee (au _))
    (zi (zq (j4 (eZ hE (zB zG (pv 0) zf (fun _ _=>rfl)) ee (au _)) (j2 (eZ db (zm ur rfl B.len cV (zc (zy Ct hr rfl ax (zc (zy Cm hr rfl ax (zc (zB zG (pv 0) zf (fun _ _=>rfl)) zd)) (zc (pv 2) zd))) zd)) zf (au _)))))) zt)
   (ze (zR (PW.pt (j1 (zn hE (zB zG (pv 0) zf (fun _ _=>rfl)) ee (au _)) (lu (gh (iN (zy Cc hr rfl ax (zc (zB zG (pv 0) zf (fun _ _=>rfl)) (zc (zx dq (zB zG (pv 0) zf (fun _ _=>rfl)) zf) (zc (zB zG (pv 0) zf (fun _ _=>rfl)) (zc (pv 1) (zc (pv 2) zd)))))))))) ) (zi (zq dY)) zt)
   (zi (zq (eZ (Hi aq) (zy Ct hr rfl ax (zc (zy Cm hr rfl ax (zc (zB zG (pv 0) zf (fun _ _=>rfl)) zd)) (zc (pv 2) zd))) (zB zG (pv 0) zf (fun _ _=>rfl)) (au _)))))),?_⟩
  have L:∀{cs:Ch},(∀q∈ksC cs,q∈oo)->∀c∈cs,c.1.length<=5:=fun h2 c hc=>O.le _ (h2 _ (KK.mpr ⟨c,hc,rfl⟩));have W:∀{cs:Ch},Gd cs->(∀q∈ksC cs,q∈oo)->(eS cs).length<=1000:=fun{cs} h1 h2=>by
   refine AC (C3 _) ?_;have:=sN (cs:=cs) (L h2);have:=h1.few;omega
  obtain⟨ht,I,rg⟩:=cR;obtain⟨j,mE⟩:=mH;refine⟨_,rfl,r.t,_,3,.ref r.c,rfl,rfl,SqT.of ht,rfl,_,rfl,r.t,_,0,.int r.hi,rfl,rfl,SqT.of ht,rfl,_,rfl,r.t,_,1,.int r.b,rfl,rfl,SqT.of ht,rfl,_,rfl,_,rfl,r.c,T,r.cs,oo,r.hi,p,r.b,rfl,I,hT,O.nd,j,tb,fun b1 H1 S f1=>⟨_,rfl,?_⟩⟩;cases b1 with
  |false=>exact aK (k false H1 ⟨fun z=>(nomatch z),fun z=>S.mpr z.1⟩ f1)
  |true=>
  have l:=S.mp rfl;have kQ:=l.ok j.nd;refine aO ?_;have a:=f1.tup ht;have X:=f1.rd I;cases ed:r.d with
  |none=>
   rw[ed] at a;refine⟨_,rfl,r.t,_,2,.non,rfl,rfl,SqT.of a,rfl,rfl,_,rfl,aK ?_⟩;cases eg:r.g with
   |some x=>
    rw[eg] at a;refine⟨_,rfl,r.t,_,4,.ref x.1,rfl,rfl,SqT.of a,rfl,rfl,false,rfl,aO (k false H1 ⟨fun z=>(nomatch z),fun z=>?_⟩ f1)⟩;rcases z.2 with ⟨_,e,_⟩|⟨e,_,e1,_⟩
    ·rw[eg] at e;cases e
    ·rw[ed] at e1;cases e1
   |none=>
    rw[eg] at a;refine⟨_,rfl,r.t,_,4,.non,rfl,rfl,SqT.of a,rfl,rfl,true,rfl,aK ?_⟩;refine⟨_,rfl,r.t,_,3,.ref r.c,rfl,rfl,SqT.of a,rfl,r.c,r.cs,rfl,X,j.nd,by have:=j.few;omega,L l.in_,fun M H2 eW jz sO mw=>?_⟩;have f2:SY Pt H1 H2:=Dz eW X jz;refine⟨_,rfl,M,_,p,rfl,.inl mw,zS _,W j l.in_,hp,fun D H3 u bF af=>?_⟩;refine⟨D,_,rfl,.inl af,rfl,k _ H3 ⟨fun z=>?_,fun z=>?_⟩ ((f1.trans f2).trans u)⟩
    ·have z:=RO z
     have z:((kvC (sb p r.cs)).length:Int)=0:=by injection z
     rw[zA] at z;exact⟨l,.inl ⟨ed,eg,(Hn hp).mp ω⟩⟩
    ·rcases z.2 with ⟨_,_,e⟩|⟨e,_,e1,_⟩
     ·have:=(Hn hp).mpr e
      refine RM ?_;show V.int ((kvC (sb p r.cs)).length:Int)=V.int 0;rw[zA,this];rfl
     ·rw[ed] at e1;cases e1
  |some e=>
   rw[ed] at a;refine⟨_,rfl,r.t,_,2,.int e,rfl,rfl,SqT.of a,rfl,rfl,_,rfl,aO ?_⟩;cases eg:r.g with
   |none=>
    rw[eg] at a;refine⟨_,rfl,r.t,_,4,.non,rfl,rfl,SqT.of a,rfl,rfl,_,rfl,aK (aK (k false H1 ⟨fun z=>(nomatch z),fun z=>?_⟩ f1))⟩;rcases z.2 with ⟨e1,_,_⟩|⟨_,_,_,e1,_⟩
    ·rw[ed] at e1;cases e1
    ·rw[eg] at e1;cases e1
   |some x=>
    rw[eg] at a;have N:=rg x eg;have o:=mE x eg;refine⟨_,rfl,r.t,_,4,.ref x.1,rfl,rfl,SqT.of a,rfl,rfl,_,rfl,aO ?_⟩;refine⟨_,rfl,r.t,_,4,.ref x.1,rfl,rfl,SqT.of a,rfl,_,rfl,r.t,_,0,.int r.hi,rfl,rfl,SqT.of a,rfl,_,_,rfl,rfl,_,rfl,r.t,_,2,.int e,rfl,rfl,SqT.of a,rfl,_,rfl,_,rfl,x.1,T,x.2,oo,r.hi+1,p,e,rfl,f1.rd N,f1.rd hT,O.nd,o,f1.tab tb,fun b2 H2 G f2=>⟨_,rfl,?_⟩⟩;rw[show r.hi+1+1=r.hi+2 from ω] at G;have v:=f1.trans f2;have i:c_ oo p r->AtP oo p (r.hi+2) e x.2/\∀y,aC r.cs y=lin x.2 y%p:=fun z=>by
     rcases z.2 with ⟨e1,_,_⟩|⟨e',x',e1,e2,e3,J⟩
     ·rw[ed] at e1;cases e1
     ·rw[ed] at e1;rw[eg] at e2
      obtain rfl:=Ah e1;obtain rfl:=Ah e2;exact⟨e3,J⟩
    cases b2 with
    |false=>exact aK (k false H2 ⟨fun z=>(nomatch z),fun z=>G.mpr (i z).1⟩ v)
    |true=>
    have C:=G.mp rfl;have pV:=C.ok o.nd;refine aO ?_;have Y:=f2.tup a;refine⟨_,rfl,r.t,_,4,.ref x.1,rfl,rfl,SqT.of Y,rfl,x.1,x.2,rfl,v.rd N,o.nd,by have:=o.few;omega,L C.in_,fun M H3 bh sW sO xo=>?_⟩;have u:SY Pt H2 H3:=Dz bh (v.rd N) sW;refine⟨_,rfl,M,_,p,rfl,.inl xo,zS _,W o C.in_,hp,fun D H4 U bF bI=>?_⟩;have qF:=(v.trans u).trans U;have u3:ChP p (sb p x.2):=ue hp (zS _);have si:=same_iff u3 kQ;refine⟨_,rfl,r.t,_,3,.ref r.c,rfl,rfl,SqT.of ((u.trans U).tup Y),rfl,D,r.c,_,rfl,rfl,⟨kvC (sb p x.2),kvC r.cs,ksC (sb p x.2),ksC r.cs,(sb p x.2).map (·.2),r.cs.map (·.2),.inl bI,qF.rd I,zY _,zY _,nf _,nf _,@decide_eq_true_iff _ (Classical.propDecidable _)⟩,k _ H4 ?_ qF⟩;rw[@decide_eq_true_iff _ (Classical.propDecidable _)];constructor
    ·intro z
     refine⟨l,.inr ⟨e,x,ed,eg,C,fun y=>?_⟩⟩;have:=si.mp ⟨by have:=z.1;rwa [zA,zA] at this,Hl z.2⟩ y;rw[<-this,p_]
    ·intro z
     obtain⟨_,J⟩:=i z;obtain⟨g1,g2⟩:=si.mpr fun y=>by rw[J y,p_]
     exact⟨by rw[zA,zA];exact g1,Hk g2⟩
abbrev fM(K:Ae)(i:Int):TE:=bY (gC K) (ay 0) (tC (.int i))
abbrev DJ(K:Ae):TT:=eI (bY (fun x y H Q=>y=.non/\Q (.bl (!decide (x=.non))) H) (fM K 2) (tC .non))
def Hu{H2:Hp}{S D:Addr}{L:List RG}{Q:VK}(f:SqL K H2 S (L.map fun r=>V.ref r.t))(hr:∀r∈L,RgAt H2 r)(hz:L.length<=1000)(d:H2 D=none)(k:∀H3,Same H2 H3->H3 D=some (.lst ((L.map (·.b)).map V.int))->Q (.ref D) H3):cG (dI K S) (zU 0) bT (fM K 1) [none] H2 D Q:=by
 refine zN (xs:=L.map fun r=>V.ref r.t) (fun j σ ys H3=>∃(v:Option V),σ=[v]/\Same H2 H3/\H3 D=some (.lst ys)/\ys=((L.take j).map (·.b)).map V.int) ?_ ?_ ?_ ?_
 ·exact⟨none,rfl,Same.new d,ac,rfl⟩
 ·rintro j σ ys H3 ⟨v,rfl,sm,a,rfl⟩
  exact sm.seq f
 ·rintro j σ ys H3 x hx e hy ⟨v,rfl,sm,a,rfl⟩
  rw[Af] at hx;obtain⟨r,c,rfl⟩:=OY.mp hx;have ht:=((hr r (Aj c)).same sm).1;refine cw ⟨_,rfl,r.t,_,1,.int r.b,rfl,rfl,SqT.of ht,rfl,bi (by rw[Ab];exact zg ω) e hy a ⟨_,rfl,sm.then d,ac,?_⟩⟩;rw[AE c,Ao,Ao]
  rfl
 ·rintro σ ys H3 ⟨v,rfl,sm,a,rfl⟩
  rw[Ab,take_all] at a;exact k H3 sm a
def Hv{H2:Hp}{S D:Addr}{L:List RG}{Q:VK}(h:SqL K H2 S (L.map fun r=>V.ref r.t))(hr:∀r∈L,RgAt H2 r)(hz:L.length<=1000)(g:H2 D=none)(k:∀H3,Same H2 H3->H3 D=some (.lst ((L.filterMap (·.d)).map V.int))->Q (.ref D) H3):cG (dI K S) (zU 0) (DJ K) (fM K 2) [none] H2 D Q:=by
 refine zN (xs:=L.map fun r=>V.ref r.t) (fun j σ ys H3=>∃(v:Option V),σ=[v]/\Same H2 H3/\H3 D=some (.lst ys)/\ys=((L.take j).filterMap (·.d)).map V.int) ?_ ?_ ?_ ?_
 ·exact⟨none,rfl,Same.new g,ac,rfl⟩
 ·rintro j σ ys H3 ⟨v,rfl,sm,a,rfl⟩
  exact sm.seq h
 ·rintro j σ ys H3 x hx c hy ⟨v,rfl,sm,a,rfl⟩
  rw[Af] at hx;obtain⟨r,f,rfl⟩:=OY.mp hx;have ht:=((hr r (Aj f)).same sm).1;have b:=NM f;cases ed:r.d with
  |none=>
   rw[ed] at ht b;refine⟨_,rfl,r.t,_,2,.non,rfl,rfl,SqT.of ht,rfl,rfl,_,rfl,aO (dH c hy ⟨_,rfl,sm,a,?_⟩)⟩;rw[b];exact(congrArg (List.map V.int) (Ps _)).symm
  |some e=>
   rw[ed] at ht b;refine⟨_,rfl,r.t,_,2,.int e,rfl,rfl,SqT.of ht,rfl,rfl,_,rfl,aK ⟨_,rfl,r.t,_,2,.int e,rfl,rfl,SqT.of ht,rfl,bi (by rw[Ab];exact zg ω) c hy a ⟨_,rfl,sm.then g,ac,?_⟩⟩⟩;rw[b,Ao]
   rfl
 ·rintro σ ys H3 ⟨v,rfl,sm,a,rfl⟩
  rw[Ab,take_all] at a;exact k H3 sm a
def vq(K:Ae)(Pt:Addr):Sp:=fun vs H Q _=>∃l as oo p D L,vs=[.ref l,.int p,.ref D]/\SqL K H l (as.map V.ref)/\Tps H as oo/\cp oo/\oo.length<=60/\isP p/\TY Pt H/\H D=some (.lst (L.map fun r=>V.ref r.t))/\(∀r∈L,RgAt H r)/\(∀r∈L,k8 r)/\(ends L).length<64/\∀b H',(b=true↔gU oo p L)->SY Pt H H'->Q (.bl b) H'
abbrev vr:List Str:=["order","prime","paper","ends","times"]
def DK:zr vr ["order","prime","paper"] (zh vo):=⟨rfl,rfl,rfl,δ,rfl,δ,δ⟩
def NP(F:Fun K "is_paper" "is_paper" vo f fd)(B:Bt mg)(Co:Cl P w K mg base aG "must_be_order" ["order"] 3 (Du K))(Cp:Cl P w K mg base aG "must_be_prime" ["prime"] 1 Dv)(Ct:Cl P w K mg base aG "times_of" ["order"] 1 (DA K))(Cb:Cl P w K mg base aG "is_bar" ["row","times","prime"] 6 (DI Pt)):FnOk P w K mg base aG 7 f fd ["order","prime","paper"] (vq K Pt):=by
 refine F.ok DK (fun vs H Q E h=>?_) (fun cdv A outer s H vs Q E hr h=>?_)
 ·obtain⟨l,as,oo,p,D,L,rfl,_⟩:=h;rfl
 ·obtain⟨l,as,oo,p,D,L,rfl,W,ht,ho,ir,hp,tb,u,X,mq,he,k⟩:=h
  have aq:=hr.units;have O:=Dl ho;have h2:=hp.pr.1.two;have aE:=ht.length;have gf:L.length<64:=by
   unfold ends at he;rw[Ap,Ab] at he;omega
  refine⟨_,ze (eY (zy Co hr rfl ax (zc (pv 0) zd))) (ze (eY (zy Cp hr rfl ax (zc (pv 1) zd)))
   (ze (zo (i:=3) DK.nd rfl (Or.inl rfl) (zx kc (zv vr ["row"] [none] (zI (pv 2)) (fun c C s₀ H₀ ex=>zk (i:=0) (cv ["row"]) rfl (Or.inl rfl)) (fun c C s₀ H₀ ex=>zP) (fun c C s₀ H₀ ex=>zB zG (pv 0) zf (fun _ _=>rfl)) (hfr:=cY δ) (te:=fM K 1))
    (zv vr ["row"] [none] (zI (pv 2)) (fun c C s₀ H₀ ex=>zk (i:=0) (cv ["row"]) rfl (Or.inl rfl)) (fun c C s₀ H₀ ex=>i9 (zn Et (zB zG (pv 0) zf (fun _ _=>rfl)) ee (au _))) (fun c C s₀ H₀ ex=>zB zG (pv 0) zf (fun _ _=>rfl)) (hfr:=cY δ) (tc:=DJ K) (te:=fM K 2))))
   (ze (zR (zn (ND aq) (zm Cv rfl B.sorted mP (zc (pv 3) zd)) (zp (Hh rfl) rfl B.list eD (zc (zp Hg rfl B.range Hj (zc (zm zl rfl B.len cV (zc (pv 0) zd)) zd)) zd)) (au _)) (zi (zq dY)) zt)
   (ze (zo (i:=4) DK.nd rfl (Or.inr rfl) (zy Ct hr rfl ax (zc (pv 0) zd)))
   (zi (zq (zm (mD rfl) rfl B.all mL (zc (zv vr ["row","times","prime"] [none,some 4,some 1] (zI (pv 2)) (fun c C s₀ H₀ ex=>zk (i:=0) (cv ["row","times","prime"]) rfl (Or.inl rfl)) (fun c C s₀ H₀ ex=>zP)
    (fun c C s₀ H₀ ex=>zy Cb hr rfl ax (zc (pv 0) (zc (pv 1) (zc (pv 2) zd)))) (hfr:=b_ (zh vo) δ) (te:=kb (DI Pt) [] E0 (zH (ay 0) (zH (ay 1) (zH (ay 2) bb))))) zd)))))))),?_⟩
  refine⟨_,rfl,l,as,oo,rfl,W,ht,ω,ho,fun H1 J=>?_⟩;refine⟨_,rfl,p,rfl,hp,?_⟩;refine⟨_,rfl,D,rfl,⟨_,SqL.of (J _ _ u)⟩,fun D2 bf=>zE (Hu (SqL.of (J _ _ u)) (fun r hr'=>(X r hr').same J) ω bf fun H2 s2 ik=>?_)⟩;have N:=J.trans s2;refine⟨_,rfl,D,rfl,⟨_,SqL.of (N _ _ u)⟩,fun D3 af=>zE (Hv (SqL.of (N _ _ u)) (fun r hr'=>(X r hr').same N) ω af fun H3 s3 gZ=>?_)⟩;have gw:(L.map (·.b)).length+(L.filterMap (·.d)).length<64:=by
   unfold ends at he;rw[Ap] at he;exact he
  refine⟨D2,D3,_,_,rfl,rfl,s3 _ _ ik,gZ,by simp only[Ab];simp only[Ab] at gw;exact zg ω,fun q hq=>?_⟩;have s4:=Same.new (o:=.lst ((L.map (·.b)).map V.int++(L.filterMap (·.d)).map V.int)) hq;refine⟨_,rfl,q,ends L,rfl,SqL.of (by rw[ac];unfold ends;rw[Ao]),he,fun D5 g eQ dg ba=>?_⟩;have s5:=Same.new (o:=.lst (g.map V.int)) ba;have Y:=((N.trans s3).trans s4).trans s5;have dJ:=ac (H:=upd H3 q (.lst ((L.map (·.b)).map V.int++(L.filterMap (·.d)).map V.int))) (a:=D5) (o:=.lst (g.map V.int));generalize upd (upd H3 q (.lst ((L.map (·.b)).map V.int++(L.filterMap (·.d)).map V.int))) D5 (.lst (g.map V.int))=H5 at s5 Y dJ;refine⟨_,rfl,l,_,rfl,.inl (Y.seq W),_,rfl,fun R hR=>?_⟩;have s6:=Same.new (o:=.rng 0 ((as.map V.ref).length:Nat)) hR;refine⟨R,(as.map V.ref).length,rfl,ac,by rw[Ab];omega,fun M hM=>?_⟩;have s7:=Same.new (o:=.lst (((AJ (as.map V.ref).length).map fun k:Nat=>(k:Int)).map V.int)) hM;have nJ:=s6.trans s7;refine⟨D5,M,g,_,rfl,rfl,SqL.of (nJ _ _ dJ),SqL.of ac,_,rfl,?_⟩;have el:(as.map V.ref).length=oo.length:=by rw[Ab,aE]
  have I:=Y.trans nJ;generalize upd (upd H5 R (.rng 0 ((as.map V.ref).length:Nat))) M (.lst (((AJ (as.map V.ref).length).map fun k:Nat=>(k:Int)).map V.int))=H7 at nJ I;rw[el];have em:g=fK oo.length↔(ends L).Perm (fK oo.length):=⟨fun z=>z▸eQ.symm,fun z=>Ht (eQ.trans z) dg (Hs _)⟩
  by_cases hq:g=fK oo.length
  ·rw[RM hq]
   have cj:=em.mp hq;refine aO ⟨_,rfl,l,as,oo,rfl,I.seq W,I.tps ht,O.nd,ω,fun T H8 s8 iH pC=>?_⟩;have S:=I.trans s8;refine⟨_,rfl,D,rfl,⟨_,SqL.of (S _ _ u)⟩,fun D9 gu=>zE (zN (xs:=L.map fun r=>V.ref r.t) (fun j σ ys H'=>∃(v:Option V)(bs:List Bool),σ=[v,some (.ref T),some (.int p)]/\SY Pt H8 H'/\H' D9=some (.lst ys)/\ys=bs.map V.bl/\Paired (fun b r=>b=true↔c_ oo p r) bs (L.take j)) ?_ ?_ ?_ ?_)⟩
   ·exact⟨none,[],rfl,Same.sf (Same.new gu),ac,rfl,.nil⟩
   ·rintro j σ ys H' ⟨v,bs,rfl,f,y,rfl,_⟩
    exact f.seq (SqL.of (S _ _ u))
   ·rintro j σ ys H' x hx hj hy ⟨v,bs,rfl,f,y,rfl,G⟩
    rw[Af] at hx;obtain⟨r,er,rfl⟩:=OY.mp hx;have fR:=Aj er;have f8:SY Pt H H':=(Same.sf S).trans f;refine cw ?_;refine⟨_,rfl,_,rfl,_,rfl,r,T,oo,p,rfl,(X r fR).sf f8,mq r fR,f.rd (.inl pC),O,ω,ω,f8.tab tb,fun b wM hb U=>?_⟩;refine bi (by rw[Ab];exact zg ω) hj hy (U.lst y) ⟨_,bs++[b],rfl,(f.trans U).put gu (U.lst y),ac,by rw[Ao];rfl,?_⟩;rw[AE er];exact Paired.snoc G hb
   ·rintro σ ys H' ⟨v,bs,rfl,f,y,rfl,G⟩
    rw[Ab,take_all] at G;refine⟨D9,bs,rfl,SqL.of y,k _ H' ⟨fun z=>⟨cj,fun r hr'=>?_⟩,fun z=>?_⟩ ((Same.sf S).trans f)⟩
    ·obtain⟨b,hb,e⟩:=(jX G).2 r hr'
     exact e.mp (OX.mp z b hb)
    ·refine OX.mpr fun b hb=>?_
     obtain⟨r,hr',e⟩:=(jX G).1 b hb;exact e.mpr (z.2 r hr')
  ·rw[RN hq]
   exact aK (k false H7 ⟨fun z=>(nomatch z),fun z=>absurd (em.mpr z.1) hq⟩ (Same.sf I))
end
end K65
end
section
namespace L2
open PySem PySem.Spec PyProof.Rows
section
variable{X:Cx}
def NQ{A:Around}{aa:Ψ}{s:Shared}{σ:St}{H:Hp}{a b:Addr}(I:Inv X aa σ H s)(hu:A.units+8<cLine)(ha:∃(kvs c:List (List Key×V))(ab l:Ξ)(ns:List Int),Rd H a (.dT kvs)/\Rd H b (.dT c)/\kvs.map (·.1)=ab.map (·.map Sum.inl)/\c.map (·.1)=l.map (·.map Sum.inl)/\kvs.map (·.2)=ns.map V.int/\kvs.length=c.length/\∀kv∈kvs,kv∈c):SeqAt.EqAt A s (.ref a) (.ref b) true:=by
 intro prog w E Q h;obtain⟨kvs,c,ab,l,ns,ha,hb,hp,o,u,U,hm⟩:=ha;obtain⟨x,xs,y,W,C⟩:=nu I.hok ha hp;obtain⟨D,ys,G,bl,J⟩:=nu I.hok hb o;have hx:=y prog w;have hy:=G prog w;unfold eqBool
 try with_reducible refine AI ?_
 show wpAny _ _ (if(Value.ref a==Value.ref b)=true then _ else _) Q E s
 by_cases f:(Value.ref a==Value.ref b)=true
 ·rw[RJ f]
  exact Aa (wpAny_rule (Ac h))
 ·rw[RK f]
  refine Aa (wpAny_richCompare_same_room (op:=.Eq) hx.typeIs hy.typeIs F.slot_dict_eq
   (AG F.slot_dict_eq hx.typeIs F.entry_dict_eq ?_ (F.args_dict_eq_2 _ _)) ω)
  unfold Builtin.«dict.__eq__»
  wp_delta
  refine Aa ?_;unfold Builtin.Dict.dictSlotArgs;refine Aa (wpAny_notOrdered_dict hx.typeIs ?_);refine Aa (show wpAny _ _ (pure (Value.ref a,[Value.ref b])) _ _ _ from Ac ?_);refine Ac ?_;dsimp only;refine Aa (wpAny_isInstance hy.typeIs DCp.pM ?_);simp only[Qf,Az,if_false];refine Aa (show wpAny _ _ (pure a) _ _ _ from Ac ?_);refine Aa (show wpAny _ _ (pure b) _ _ _ from Ac ?_);refine Aa (DEq.G0 (knd:=tupleKind (intKind prog w)) (show A.units+1<cLine from ω) x D hx hy ω (fun i k p v e=>?_) ?_)
  ·obtain⟨g1,kv,g2,g3⟩:=C i _ e
   obtain⟨j,g⟩:=Px (hm kv (Aj g2));have N:j<ys.length:=by have:=(B5.mp g).1;omega
   have r:ys[j]?=some ys[j]:=Ai N;obtain⟨f1,Y,f2,q⟩:=J j ys[j] r;rw[g] at f2;obtain rfl:=Ah f2;have O:kv.1=k.map Sum.inl:=by
    have:=congrArg (·[i]?) hp;simp only[Af,g2,g1,AS,AW] at this;exact this
   have P:kv.1=ys[j].1.map Sum.inl:=by
    have:=congrArg (·[j]?) o;simp only[Af,g,f1,AS,AW] at this;exact this
   have S:ys[j].1=k:=eJ.mp (P.symm.trans O);have d:=congrArg (·[i]?) u;simp only[Af,g2,AS] at d;cases en:ns[i]? with
   |none=>rw[en] at d;simp at d
   |some n=>
    rw[en] at d;have T:kv.2=V.int n:=by simpa using d
    rw[T] at g3 q;obtain⟨t,L⟩:=(show ∃t,v=Value.int n t from g3);obtain⟨t',M⟩:=(show ∃t,ys[j].2.2=Value.int n t from q);refine⟨j,ys[j].2.1,n,t,t',L,?_⟩;rw[r,<-S,<-M]
  ·exact Ac ⟨_,rfl,(fun e=>nomatch e),wpAny_truthy_bool h⟩
inductive AV(H:Hp):V->V->Prop where
 |fl {x:V} (f:hY x=true):AV H x x
 |dt {a b:Addr} {kvs aB:List (List Key×V)} {ab bB:Ξ} {ns:List Int} (ha:Rd H a (.dT kvs)) (hb:Rd H b (.dT aB)) (hp:kvs.map (·.1)=ab.map (·.map Sum.inl)) (aQ:aB.map (·.1)=bB.map (·.map Sum.inl)) (hv:kvs.map (·.2)=ns.map V.int) (hl:kvs.length=aB.length) (hm:∀kv∈kvs,kv∈aB):AV H (.ref a) (.ref b)
def NR{x:V}(f:hY x=true):gE x x=true:=by
 cases x with
 |non=>rfl
 |bl b=>cases b<;>rfl
 |int i=>simp[gE]
 |str z=>simp[gE]
 |_=>exact absurd (show false=true from f) An
def AV.eqAt{A:Around}{aa:Ψ}{σ:St}{H:Hp}{s:Shared}{x y:V}{u v:Value}(hu:A.units+8<cLine)(I:Inv X aa σ H s)(h:AV H x y)(c:RelV x u)(d:RelV y v):SeqAt.EqAt A s u v true:=by
 cases h with
 |fl f=>
  have:=EK (A:=A) (s:=s) c d f f;rw[NR f] at this;exact this
 |@dt a b kvs aB ab bB ns ha hb hp aQ hv hl hm=>
  cases c;cases d;exact NQ I hu ⟨kvs,aB,ab,bB,ns,ha,hb,hp,aQ,hv,hl,hm⟩
def NS{A:Around}{aa:Ψ}{σ:St}{H:Hp}{s:Shared}(hu:A.units+8<cLine)(I:Inv X aa σ H s):∀{xs ys:List V}{us vs:List Value},Paired (AV H) xs ys->Vals xs us->Vals ys vs->us.length=vs.length/\∀(j:Nat)(h1:j<us.length)(h2:j<vs.length),SeqAt.EqAt A s us[j] vs[j] true:=by
 intro xs ys us vs h
 induction h generalizing us vs with
 |nil=>intro a b;cases a;cases b;exact⟨rfl,fun j h1=>absurd h1 (by simp)⟩
 |cons q t ih=>
  intro a b;cases a with
  |cons a1 b1=>
   cases b with
   |cons a2 b2=>
    obtain⟨e,k⟩:=ih b1 b2;refine⟨by simp[e],fun j h1 h2=>?_⟩;cases j with
    |zero=>exact q.eqAt hu I a1 a2
    |succ j=>exact k j (by simpa using h1) (by simpa using h2)
def AT(H:Hp)(t u:Addr):Prop:=∃xs ys,H t=some (.tup xs)/\H u=some (.tup ys)/\Paired (AV H) xs ys
def AT.eqAt{A:Around}{aa:Ψ}{σ:St}{H:Hp}{s:Shared}{t u:Addr}(hu:A.units+64<cLine)(I:Inv X aa σ H s)(h:AT H t u):SeqAt.EqAt A s (.ref t) (.ref u) true:=by
 obtain⟨xs,ys,e1,g1,hp⟩:=h
 by_cases e:t=u
 ·rw[e];exact .same _
 obtain⟨i1,a,b,_⟩:=I.tuple (SqT.of (K:=X.K) e1);obtain⟨i2,c,p2,_⟩:=I.tuple (SqT.of (K:=X.K) g1);obtain⟨d,f⟩:=NS (A:=A.in1) (by show A.units+1+8<cLine;omega) I hp a c;have:=SeqAt.RcAt.tuples (A:=A) (e:=fun _=>true) b p2 ω (fun j h1 h2=>by
  have:=f j (by simpa using h1) (by simpa using h2)
  simpa using this)
 refine .of_refs e ?_;have g:((AJ (min i1.toArray.size i2.toArray.size)).all (fun _=>true)&&i1.toArray.size==i2.toArray.size)=true:=by
  rw[OX.mpr (fun _ _=>rfl)];simp[d]
 rw[g] at this;exact this
end
end L2
end
section
namespace K65
open K1
open PySem L2 STb
abbrev ju:Stmt:=top 42
abbrev jw:Stmt:=top 43
abbrev DL:Stmt:=top 44
abbrev vu:Stmt:=top 45
def k9:AU "dict"=some (.type "dict"):=δ
def DM(ts:Ch):(ksC ts).Nodup->nr ts=ts:=pX (P:=fun ts=>(ksC ts).Nodup->nr ts=ts) (fun _=>rfl) (fun l t a h=>by
 have h':(ksC l++[t.1]).Nodup:=by
  have:ksC (l++[t])=ksC l++[t.1]:=by unfold ksC;rw[Ao];rfl
  rw[<-this];exact h
 rw[O2] at h';have e1:nr (l++[t])=bx (nr l) t.1 t.2:=by unfold nr;rw[Qa];rfl
 rw[e1,a h'.1,CZ _ (fun z=>h'.2.2 t.1 z t.1 (by simp) rfl)]) ts
def NT(k:Nat)(n:Int):n*(1-2*((k:Int)%2))=sg k n:=by
 unfold sg
 by_cases h:(k:Int)%2=0
 ·rw[RJ h,h];omega
 ·rw[RK h,show(k:Int)%2=1 from ω];omega
abbrev DN:TT:=eI (bY Eo (io (ay 1) (ay 0)) (tC (.int 0)))
abbrev DO:TE:=ck (zH (ay 0) (zH (io (ay 1) (ay 0)) bb))
section
variable{P:Program}{w:World}{K:Ae}{mg:Str->Option Value}{base:Heap}{f:Addr}{fd:FuncData}{Pt:Addr}
def Hw{H2:Hp}{L D d:Addr}{as:List Addr}{b:Ch}{Q:VK}(E:H2 L=some (.lst (as.map V.ref)))(ht:Tps H2 as (ksC b))(hd:H2 d=some (.dT (kvC b)))(F:(ksC b).Nodup)(hz:b.length<=1000)(y:H2 D=none)(k:∀(H3:Hp)(ts:List Addr),Same H2 H3->H3 D=some (.lst (ts.map V.ref))->Prs H3 ts (b.filter c7)->Q (.ref D) H3):cG (dI K L) (zU 0) DN DO [none,some (.ref d)] H2 D Q:=by
 have w:=ht.length;rw[eR] at w;refine zN (xs:=as.map V.ref) (fun j σ ys H3=>∃(v:Option V)(ts:List Addr),σ=[v,some (.ref d)]/\Same H2 H3/\H3 D=some (.lst ys)/\ys=ts.map V.ref/\Prs H3 ts ((b.take j).filter c7)) ?_ ?_ ?_ ?_
 ·exact⟨none,[],rfl,Same.new y,ac,rfl,.nil⟩
 ·rintro j σ ys H3 ⟨v,ts,rfl,sm,i,rfl,hp⟩
  exact SqL.of (sm _ _ E)
 ·rintro j σ ys H3 x hx r hy ⟨v,ts,rfl,sm,i,rfl,hp⟩
  obtain⟨a,C,rfl⟩:=dz hx;obtain⟨ps,l,u⟩:=ht.get C;unfold ksC at l;rw[Af] at l;obtain⟨c,p,rfl⟩:∃c,b[j]?=some c/\c.1=ps:=by
   cases h:b[j]? with
   |none=>rw[h] at l;cases l
   |some c=>rw[h] at l;exact⟨c,rfl,Ah l⟩
  have hsz:(as.map V.ref).length<=sizeLine:=by rw[Ab];exact zg ω
  have g:∀q,Same H3 q->DGet q d (.ref a) (some (.int c.2)):=fun q e=>.inr ⟨kvC b,c.1.map Sum.inl,a,.inl (e _ _ (sm _ _ hd)),rfl,eF (e.tp (sm.tp u)),(fU F c (Aj p)).symm⟩;refine⟨_,rfl,_,rfl,d,_,rfl,g H3 (Same.refl _),rfl,_,rfl,?_⟩;cases hz0:c7 c with
  |true=>
   have f:(!decide (V.int c.2=V.int 0))=true:=hz0;rw[f];refine aK ⟨_,rfl,_,rfl,_,rfl,d,_,rfl,g H3 (Same.refl _),zg (by simp),fun t A=>?_⟩;have e:=Same.new (o:=.tup [.ref a,.int c.2]) A;refine bi hsz r hy (e _ _ i) ⟨_,ts++[t],rfl,(sm.trans e).then y,ac,by rw[Ao];rfl,?_⟩;rw[AE p,Ba,Pd hz0];exact Prs.upd (Prs.snoc (hp.same e) ⟨a,ac,e.tp (sm.tp u)⟩) (e _ _ i) (by intro xs z;cases z)
  |false=>
   have f:(!decide (V.int c.2=V.int 0))=false:=hz0;rw[f];refine aO (dH r hy ⟨_,ts,rfl,sm,i,rfl,?_⟩);rw[AE p,Ba,Pc (by rw[hz0];decide),QK,Ps];exact hp
 ·rintro σ ys H3 ⟨v,ts,rfl,sm,i,rfl,hp⟩
  rw[Ab,w,take_all] at hp;exact k H3 ts sm i hp
def DP{H:Hp}{ts:List Addr}{cs:Ch}(h:Prs H ts cs):Paired (fun t(kv:List Key×V)=>∃b,H t=some (.tup [.ref b,kv.2])/\H b=some (.tup (kv.1.map kV))) ts (kvC cs):=by
 unfold kvC
 induction h with
 |nil=>exact .nil
 |cons r t ih=>
  obtain⟨b,e1,e2⟩:=r;exact .cons ⟨b,e1,eF e2⟩ ih
def Hx:Sp:=fun vs H Q _=>∃d cs p,vs=[.ref d,.int p]/\Rd H d (.dT (kvC cs))/\(ksC cs).Nodup/\(∀c∈cs,c.1.length<=5/\-(2 ^ 64)<c.2/\c.2<2 ^ 64)/\cs.length<=200/\0<p/\
 ∀D H' a,Same H H'->H D=none->H' D=some (.dT (kvC a))->ChP p a->(∀x,aC a x=lin cs x%p)->Q (.ref D) H'
abbrev Hy:List Str:=["chain","prime","found","piece","k","rim"]
def qi:zr Hy ["chain","prime"] (zh ju):=⟨rfl,rfl,rfl,δ,rfl,δ,δ⟩
def NU(F:Fun K "_law_seam_by" "_law_seam_by" ju f fd)(B:Bt mg)(di:mg "dict"=none)(Cr:Cl P w K mg base aG "_law_rims" ["piece"] 1 kH):FnOk P w K mg base aG 2 f fd ["chain","prime"] Hx:=by
 refine F.ok qi (fun vs H Q E h=>?_) (fun cdv A outer s H vs Q E hr h=>?_)
 ·obtain⟨d,cs,p,rfl,_⟩:=h;rfl
 ·obtain⟨d,cs,p,rfl,hd,hnd,h5,hz,hp,k⟩:=h
  have hu:=ev hr;have aq:=hr.units;refine⟨_,ze (zo (i:=2) qi.nd rfl (Or.inr rfl) i7)
   (ze (d0 AM rfl (zI (zp (zM rfl) rfl B.list eD (zc (pv 0) zd))) (zk (i:=3) qi.nd rfl (Or.inl rfl))
    (zi (d0 AM rfl (oP rfl B.enumerate oW (zc (zy Cr hr rfl ax (zc (pv 3) zd)) zd)) (iT rfl (zC (zk (i:=4) qi.nd rfl (Or.inl rfl)) (zC (zk (i:=5) qi.nd rfl (Or.inl rfl)) iP)))
     (zi (fO hu (pv 2) (pv 5) (zx fy (zx dq (Bh hu (pv 2) (pv 5) zf ⟨rfl,rfl,rfl,rfl⟩) (zx gr (zQ hu (pv 0) (pv 3) (fun _ _=>rfl)) (zx iW zf (zx gr zf (zx fy (pv 4) zf))))) (pv 1)) rfl)))))
   (zi (zq (zp (pP rfl aq) rfl di k9 (zc
    (zv Hy ["rim","found"] [none,some 2] (zI (zp (zM rfl) rfl B.list eD (zc (pv 2) zd))) (fun _ _ _ _ _=>zk (i:=0) (cv ["rim","found"]) rfl (Or.inl rfl))
     (fun _ _ _ _ _=>i9 (zn og (zQ hu (pv 1) (pv 0) (fun _ _=>rfl)) zf (au _))) (fun _ _ _ _ _=>dL (zc (pv 0) (zc (zQ hu (pv 1) (pv 0) (fun _ _=>rfl)) zd))) (hfr:=b_ (zh ju) δ) (tc:=DN) (te:=DO)) zd))))),?_⟩
  intro S hS;have sS:=Same.new (o:=.dT []) hS;refine⟨_,rfl,d,kvC cs,rfl,hd.same sS,fun bs pb L hL=>?_⟩;have tb:=jL pb;have sL:=Same.new (o:=.lst (bs.map V.ref)) hL;have eO:=tb.length;rw[eR] at eO;refine⟨L,rfl,⟨_,SqL.of ac⟩,iU (K:=K) (a:=L) (xs:=bs.map V.ref) (fun i σ H2=>∃(v3 J N:Option V)(fs:Ch),σ=[some (.ref d),some (.int p),some (.ref S),v3,J,N]/\Same H H2/\H2 L=some (.lst (bs.map V.ref))/\Tps H2 bs (ksC cs)/\H2 S=some (.dT (kvC fs))/\(ksC fs).Nodup/\fs.length<=5*i/\∀x,aC fs x=cK ((cs.take i).flatMap fun c=>bX c.1 c.2) x%p)
   ⟨none,none,none,[],rfl,sS.trans sL,ac,sL.tps tb,sL _ _ ac,O6,by simp,fun x=>(Int.zero_emod p).symm⟩ (fun i σ H2 _ ⟨_,_,_,_,_,_,h,_⟩=>SqL.of h) ?_ ?_⟩
  ·rintro i x σ H2 hx ⟨v3,J,N,fs,rfl,sm,eK,i4,W,v,X,q⟩
   obtain⟨b,eb,rfl⟩:=dz hx;obtain⟨ps,bK,Y⟩:=i4.get eb;unfold ksC at bK;rw[Af] at bK;obtain⟨c,ec,rfl⟩:=OY.mp bK;have I:=Aj ec;obtain⟨lM,tY⟩:=h5 c I;have hi:i<cs.length:=(B5.mp ec).1;have Y:Tp H2 b c.1:=Y;refine⟨_,rfl,b,c.1,rfl,Y,lM,fun T H3 rs G jm jx ko=>?_⟩;have qk:=ko.length;have yT:=kE c.1;have uZ:S≠T:=zj W jm;have yV:b≠T:=zj (show H2 b=some _ from Y) jm;refine⟨T,rfl,⟨_,SqL.of jx⟩,B7 (K:=K) (a:=T) (xs:=rs.map V.ref) (fun j σ g=>∃(J N:Option V)(fs:Ch),σ=[some (.ref d),some (.int p),some (.ref S),some (.ref b),J,N]/\Same H g/\g L=some (.lst (bs.map V.ref))/\Tps g bs (ksC cs)/\Tp g b c.1/\g T=some (.lst (rs.map V.ref))/\Tps g rs (rims c.1)/\g S=some (.dT (kvC fs))/\(ksC fs).Nodup/\fs.length<=5*i+j/\∀x,aC fs x=cK ((cs.take i).flatMap (fun c=>bX c.1 c.2)++(bX c.1 c.2).take j) x%p)
    ⟨_,_,fs,rfl,sm.trans G,G _ _ eK,G.tps i4,G.tp Y,jx,ko,G _ _ W,v,ω,fun x=>by rw[List.take_zero,Ps];exact q x⟩ (fun j σ g _ ⟨_,_,_,_,_,_,_,_,h,_⟩=>SqL.of h) ?_ ?_⟩
   ·rintro j x pr σ g hx ⟨J,N,fs,rfl,bg,cf,nA,aN,js,jg,kI,v,X,q⟩ eN
    obtain⟨r,er,rfl⟩:=dz hx;obtain⟨rim,jr,my⟩:=jg.get er;have hj:j<(rims c.1).length:=(B5.mp jr).1;have u:=Same.new (o:=.tup [.int j,.ref r]) eN;refine⟨pr,_,rfl,SqT.of ac,rfl,_,_,rfl,_,_,rfl,rfl,?_⟩;have O:=u _ _ kI;have fF:=eF (u.tp my);have gd:DGet (upd g pr (.tup [.int j,.ref r])) d (.ref b) (some (.int c.2)):=.inr ⟨kvC cs,c.1.map Sum.inl,b,(hd.same bg).same u,rfl,eF (u.tp aN),(fU hnd c I).symm⟩;have hlen:(kvC fs).length<sizeLine:=by rw[zA];exact zX ω
    have es:(bX c.1 c.2)[j]?=some (rim,sg j c.2):=by unfold bX;rw[Af,Qu,jr];simp
    refine⟨_,rfl,S,rfl,.inr ⟨_,.inl O⟩,_,rfl,_,DGet.t (k:=rim.map Sum.inl) O fF,?_⟩;rw[CW];refine⟨_,rfl,_,rfl,d,_,rfl,gd,_,rfl,_,_,rfl,rfl,(by show(0:Int)<2;decide),_,_,rfl,rfl,.inl ω,_,_,rfl,rfl,_,_,rfl,rfl,.inl tY,_,_,rfl,rfl,_,rfl,_,_,rfl,rfl,hp,?_⟩;refine⟨_,rfl,_,rfl,S,_,rfl,DPut.t (k:=rim.map Sum.inl) O fF hlen,?_⟩;have tG:T≠S:=Ne.symm uZ;have nL:L≠S:=cT cf kI (by intro z;cases z);refine⟨_,_,bx fs rim ((aC fs rim+sg j c.2)%p),rfl,(bg.trans u).then hS,by rw[ae nL];exact u _ _ cf,Tps.upd (u.tps nA) O (by intro xs z;cases z),?_,by rw[ae tG];exact u _ _ js,Tps.upd (u.tps jg) O (by intro xs z;cases z),?_,cI _ _ v,?_,fun x=>?_⟩
    ·show upd _ S _ b=_
     rw[ae (cT (show(upd g pr _) b=some _ from u.tp aN) O (by intro z;cases z))];exact u.tp aN
    ·rw[ac,kT,NT]
    ·have:=Gr fs rim ((aC fs rim+sg j c.2)%p)
     omega
    ·rw[Gx,AE es,<-Rr,Gy]
     by_cases e:x=rim
     ·subst e
      rw[RJ rfl,RJ rfl,q x,Int.emod_add_emod]
     ·rw[RK e,RK (fun z=>e z.symm),Int.add_zero,q x]
   ·rintro σ g ⟨J,N,fs,rfl,bg,cf,nA,aN,js,jg,kI,v,X,q⟩
    rw[Ab,qk] at X q;refine⟨_,_,_,fs,rfl,bg,cf,nA,kI,v,ω,fun x=>?_⟩;rw[q x,GB _ ec,AA (l:=bX c.1 c.2) (by rw[C0];exact Ag _)]
  ·rintro σ H2 ⟨v3,J,N,fs,rfl,sm,eK,i4,W,v,X,q⟩
   rw[Ab,eO] at X q;rw[take_all] at q;refine⟨_,rfl,S,kvC fs,rfl,.inl W,fun us pu M hM=>?_⟩;have tu:=jL pu;have sM:=Same.new (o:=.lst (us.map V.ref)) hM;refine⟨M,rfl,⟨_,SqL.of ac⟩,fun D hD=>zE (Hw ac (sM.tps tu) (sM _ _ W) v ω hD fun H3 ts G af eM=>?_)⟩;refine⟨D,ts,kvC (fs.filter c7),rfl,SqL.of af,DP eM,fun U hU=>?_⟩;have iM:(ksC (fs.filter c7)).Nodup:=v.sublist ((PX (p:=c7) (l:=fs)).map _);rw[C4,DM _ iM];have s4:=(sM.trans G).trans (Same.new (o:=.dT (kvC (fs.filter c7))) hU);have gx:∀x,aC fs x=lin cs x%p:=fun x=>by
    rw[q x,C6];unfold lin
    congr 2
    exact Aw fun c _=>GA c.1 c.2 x
   refine k U _ (fs.filter c7) (sm.trans s4) ((sm.trans (sM.trans G)).free hU) ac ⟨iM,fun c hc=>?_⟩ fun x=>by rw[C2 x v];exact gx x
   obtain⟨wN,y⟩:=O0.mp hc;have e1:=iD v c wN;rw[gx] at e1;have hne:c.2≠0:=fun z=>by
    have y:(!decide (V.int c.2=V.int 0))=true:=y;rw[z] at y;exact absurd y ξ
   have:=PV (lin cs c.1) (b:=p) ω;have:=Pw (lin cs c.1) hp;omega
abbrev Hz:List Str:=["chain","size","time","prime","when","piece"]
def HA:zr Hz ["chain","size","time","prime","when"] (zh jw):=⟨rfl,rfl,rfl,δ,rfl,δ,δ⟩
def NV{H2:Hp}{L T D:Addr}{as:List Addr}{b oo:Ξ}{Q:VK}(l:SqL K H2 L (as.map V.ref))(ht:Tps H2 as b)(hT:Rd H2 T (.dT (kvC (bP oo))))(nd:oo.Nodup)(d:∀q∈b,q∈oo)(hz:b.length<=1000)(f:H2 D=none)(k:∀(H3:Hp)(ns:List Int),Same H2 H3->H3 D=some (.lst (ns.map V.int))->Paired (fun(n:Int) q=>∃t:Nat,n=t/\oo[t]?=some q) ns b->Q (.ref D) H3):cG (dI K L) (zU 0) bT (io (ay 1) (ay 0)) [none,some (.ref T)] H2 D Q:=by
 have i:=ht.length;refine zN (xs:=as.map V.ref) (fun j σ ys H3=>∃(v:Option V)(ns:List Int),σ=[v,some (.ref T)]/\Same H2 H3/\H3 D=some (.lst ys)/\ys=ns.map V.int/\Paired (fun(n:Int) q=>∃t:Nat,n=t/\oo[t]?=some q) ns (b.take j)) ?_ ?_ ?_ ?_
 ·exact⟨none,[],rfl,Same.new f,ac,rfl,.nil⟩
 ·rintro j σ ys H3 ⟨v,ns,rfl,sm,c,rfl,hp⟩
  exact sm.seq l
 ·rintro j σ ys H3 x hx g hy ⟨v,ns,rfl,sm,c,rfl,hp⟩
  obtain⟨a,h,rfl⟩:=dz hx;obtain⟨q,eq,hq⟩:=ht.get h;obtain⟨t,e⟩:=OV.mp (d q (Aj eq));refine cw ⟨_,rfl,_,rfl,T,_,rfl,.inr ⟨kvC (bP oo),q.map Sum.inl,a,hT.same sm,rfl,eF (sm.tp hq),(k5 nd e).symm⟩,bi (by rw[Ab];exact zg ω) g hy c ⟨_,ns++[(t:Int)],rfl,sm.then f,ac,by rw[Ao];rfl,?_⟩⟩;rw[AE eq];exact Paired.snoc hp ⟨t,rfl,e⟩
 ·rintro σ ys H3 ⟨v,ns,rfl,sm,c,rfl,hp⟩
  rw[Ab,i,take_all] at hp;exact k H3 ns sm c hp
def HB:Sp:=fun vs H Q _=>∃d T cs oo z p t,vs=[.ref d,.int z,.int t,.int p,.ref T]/\Rd H d (.dT (kvC cs))/\Rd H T (.dT (kvC (bP oo)))/\oo.Nodup/\Gd cs/\∀r H',(r=true↔AtP oo p z t cs)->Same H H'->Q (.bl r) H'
def NW(F:Fun K "_law_at" "_law_at" jw f fd)(B:Bt mg)(pE:mg "max"=none):FnOk P w K mg base aG 1 f fd ["chain","size","time","prime","when"] HB:=by
 refine F.ok HA (fun vs H Q E h=>?_) (fun cdv A outer s H vs Q E hr h=>?_)
 ·obtain⟨d,T,cs,oo,z,p,t,rfl,_⟩:=h;rfl
 ·obtain⟨d,T,cs,oo,z,p,t,rfl,hd,hT,nd,gd,k⟩:=h
  have hu:=ev hr;have aq:=hr.units;have hz:=gd.few;refine⟨_,ze (d0 AM rfl (zI (zp (zM rfl) rfl B.list eD (zc (pv 0) zd))) (zk (i:=5) HA.nd rfl (Or.inl rfl))
    (zi (zR (PW.pt (j1 (wa (Jp hu (pv 5) (pv 4)) (by with_unfolding_all rfl)) (j1 (zn og (zm zl rfl B.len cV (zc (pv 5) zd)) (pv 1) (au _)) (lu (gh (Eu qZ lU zf (zQ hu (pv 0) (pv 5) (fun _ _=>rfl)) (pv 3))))))) (zi (zq dY)) zt)))
   (zi (zq (j4 (eZ (G2 aq) (pv 0) i7 (au _)) (j2 (eZ db (zm (LS rfl) rfl pE G5 (zc (zv Hz ["piece","when"] [none,some 4] (zI (zp (zM rfl) rfl B.list eD (zc (pv 0) zd))) (fun _ _ _ _ _=>zk (i:=0) (cv ["piece","when"]) rfl (Or.inl rfl)) (fun _ _ _ _ _=>zP)
    (fun _ _ _ _ _=>zQ hu (pv 1) (pv 0) (fun _ _=>rfl)) (hfr:=b_ (zh jw) δ) (te:=io (ay 1) (ay 0))) zd)) (pv 2) (au _)))))),?_⟩
  refine⟨_,rfl,d,kvC cs,rfl,hd,fun bs pb L hL=>?_⟩;have tb:=jL pb;have sL:=Same.new (o:=.lst (bs.map V.ref)) hL;have eO:=tb.length;rw[eR] at eO;refine⟨L,rfl,⟨_,SqL.of ac⟩,iU (K:=K) (a:=L) (xs:=bs.map V.ref) (fun i σ H2=>∃(v5:Option V),σ=[some (.ref d),some (.int z),some (.int t),some (.int p),some (.ref T),v5]/\Same H H2/\H2 L=some (.lst (bs.map V.ref))/\(∀c∈cs.take i,c.1∈oo/\(c.1.length:Int)=z)/\∀c∈cs.take i,1<=c.2/\c.2<p)
   ⟨none,rfl,sL,ac,(fun c hc=>nomatch hc),(fun c hc=>nomatch hc)⟩ (fun i σ H2 _ ⟨_,_,_,h,_⟩=>SqL.of h) ?_ ?_⟩
  ·rintro i x σ H2 hx ⟨v5,rfl,sm,eK,g1,g2⟩
   obtain⟨b,eb,rfl⟩:=dz hx;obtain⟨q,eq,hq⟩:=(sm.tps tb).get eb;unfold ksC at eq;rw[Af] at eq;obtain⟨c,ec,rfl⟩:=OY.mp eq;have J:=Aj ec
   by_cases g:c.1∈oo
   rotate_left
   ·refine⟨_,rfl,_,rfl,T,_,rfl,.inr ⟨kvC (bP oo),c.1.map Sum.inl,b,hT.same sm,rfl,eF hq,(Ho g).symm⟩,_,rfl,aK (aK (k false H2 ⟨fun z=>(nomatch z),fun w=>absurd (w.1 c J).1 g⟩ sm))⟩
   obtain⟨u,S⟩:=OV.mp g;refine⟨_,rfl,_,rfl,T,_,rfl,.inr ⟨kvC (bP oo),c.1.map Sum.inl,b,hT.same sm,rfl,eF hq,(k5 nd S).symm⟩,_,rfl,aO ?_⟩;refine⟨_,rfl,b,_,rfl,.inr (SqT.of hq),_,rfl,rfl,_,rfl,?_⟩;rw[Ab]
   by_cases j:(c.1.length:Int)=z
   rotate_left
   ·rw[RN (fun w=>j (by injection w))]
    exact aK (aK (k false H2 ⟨fun z=>(nomatch z),fun w=>absurd (w.1 c J).2 j⟩ sm))
   rw[RM (congrArg V.int j)];have ut:DGet H2 d (.ref b) (some (.int c.2)):=.inr ⟨kvC cs,c.1.map Sum.inl,b,hd.same sm,rfl,eF hq,(fU gd.nd c J).symm⟩;refine aO ⟨_,rfl,_,rfl,d,_,rfl,ut,_,_,rfl,rfl,_,rfl,?_⟩
   by_cases U:1<=c.2
   rotate_left
   ·rw[RN U]
    exact aO ⟨_,rfl,aK (k false H2 ⟨fun z=>(nomatch z),fun w=>absurd (w.2.1 c J).1 U⟩ sm)⟩
   rw[RM U];refine aK ⟨_,rfl,_,_,rfl,rfl,_,rfl,?_⟩
   by_cases W:c.2<p
   rotate_left
   ·rw[RN W]
    exact aK (k false H2 ⟨fun z=>(nomatch z),fun w=>absurd (w.2.1 c J).2 W⟩ sm)
   rw[RM W];refine aO ⟨_,rfl,sm,eK,fun e he=>?_,fun e he=>?_⟩
   ·rw[AE ec] at he
    rcases OW.mp he with he|he
    ·exact g1 e he
    ·rw[OU.mp he];exact⟨g,j⟩
   ·rw[AE ec] at he
    rcases OW.mp he with he|he
    ·exact g2 e he
    ·rw[OU.mp he];exact⟨U,W⟩
  ·rintro σ H2 ⟨v5,rfl,sm,eK,g1,g2⟩
   rw[Ab,eO,take_all] at g1 g2;refine⟨_,rfl,fun N hN=>?_⟩;have s3:=Same.new (o:=.dT []) hN;have O:=sm.trans s3
   by_cases l:cs=[]
   ·subst l
    refine⟨d,N,true,rfl,rfl,⟨[],[],[],[],[],hd.same O,.inl ac,rfl,rfl,rfl,.inl ⟨rfl,rfl,fun kv h=>nomatch h⟩⟩,false,rfl,aO (k false _ ⟨fun z=>(nomatch z),fun w=>?_⟩ O)⟩;obtain⟨y,u,hy,_⟩:=w.2.2;exact nomatch hy.1
   have hpos:=O9.mpr l;refine⟨d,N,false,rfl,rfl,⟨kvC cs,[],ksC cs,[],cs.map (·.2),hd.same O,.inl ac,zY _,rfl,nf _,.inr ⟨rfl,by rw[zA];show cs.length≠0;omega⟩⟩,true,rfl,aK ?_⟩;refine⟨_,rfl,d,kvC cs,rfl,hd.same O,fun us pu M hM=>?_⟩;have tu:=jL pu;have sM:=Same.new (o:=.lst (us.map V.ref)) hM;have so:=O.trans sM;have tK:∀q∈ksC cs,q∈oo:=fun q hq=>by
    obtain⟨c,hc,rfl⟩:=KK.mp hq;exact(g1 c hc).1
   refine⟨M,rfl,⟨_,SqL.of ac⟩,fun D hD=>zE (NV (SqL.of ac) (sM.tps tu) (hT.same so) nd tK (by rw[eR];omega) hD fun H5 ns s5 ba lh=>?_)⟩;obtain⟨m1,m2⟩:=jX lh;refine⟨D,ns,rfl,SqL.of ba,fun e=>?_,fun X lD cJ=>⟨_,rfl,rfl,k _ H5 ⟨fun w=>?_,fun w=>?_⟩ (so.trans s5)⟩⟩
   ·cases cs with
    |nil=>exact absurd rfl l
    |cons c r=>
     obtain⟨n,G,_⟩:=m2 c.1 (.head _);rw[e] at G;cases G
   ·have w:=RO w
    have w:X=t:=by injection w
    obtain⟨q,hq,u,rfl,S⟩:=m1 X lD;refine⟨g1,g2,q,u,⟨hq,S,fun x hx v Y=>?_⟩,w⟩;obtain⟨n,G,u',rfl,I⟩:=m2 x hx;have h2:=cJ _ G;have h3:=(Pz (B5.mp I).1 nd).mp (I.trans Y.symm);omega
   ·obtain⟨y,u,hy,S⟩:=w.2.2
    refine RM (congrArg V.int ?_);obtain⟨q,hq,v,rfl,Y⟩:=m1 X lD;obtain⟨n,G,u',rfl,I⟩:=m2 y hy.1;have h1:=hy.2.2 q hq v Y;have h2:=cJ _ G;have h3:=(Pz (B5.mp I).1 nd).mp (I.trans hy.2.1.symm);omega
def DQ:Sp:=fun vs H Q _=>∃r T oo p,vs=[.ref r.t,.int p,.ref T]/\RgAt H r/\k8 r/\Rd H T (.dT (kvC (bP oo)))/\fm oo/\oo.length<=200/\0<p/\p<=7/\∀b H',(b=true↔c_ oo p r)->Same H H'->Q (.bl b) H'
abbrev NX:List Str:=["bar","prime","when","high","born","dead","chain","filling"]
def nN:zr NX ["bar","prime","when"] (zh DL):=⟨rfl,rfl,rfl,δ,rfl,δ,δ⟩
def NY(F:Fun K "_law_is_bar" "_law_is_bar" DL f fd)(Ca:Cl P w K mg base aG "_law_at" ["chain","size","time","prime","when"] 1 HB)(Cs:Cl P w K mg base aG "_law_seam_by" ["chain","prime"] 2 Hx):FnOk P w K mg base aG 3 f fd ["bar","prime","when"] DQ:=by
 refine F.ok nN (fun vs H Q E h=>?_) (fun cdv A outer s H vs Q E hr h=>?_)
 ·obtain⟨r,T,oo,p,rfl,_⟩:=h;rfl
 ·obtain⟨r,T,oo,p,rfl,cR,mH,hT,O,aS,hp,lE,k⟩:=h
  have aq:=hr.units;refine⟨_,ze (n6 (pv 0) (iT rfl (zC (zk (i:=3) nN.nd rfl (Or.inl rfl)) (zC (zk (i:=4) nN.nd rfl (Or.inl rfl)) (zC (zk (i:=5) nN.nd rfl (Or.inl rfl)) (zC (zk (i:=6) nN.nd rfl (Or.inl rfl)) (zC (zk (i:=7) nN.nd rfl (Or.inl rfl)) iP)))))))
   (ze (zR (PW.pt (j1 (gh (iN (zy Ca hr rfl ax (zc (pv 6) (zc (zx dq (pv 3) zf) (zc (pv 4) (zc (pv 1) (zc (pv 2) zd)))))))) (lu (zn (G2 aq) (zy Cs hr rfl ax (zc (pv 6) (zc (pv 1) zd))) i7 (au _))))) (zi (zq dY)) zt)
   (ze (zR (PW.pt (j1 (zn hE (pv 5) ee (au _)) (lu (zn hE (pv 7) ee (au _))))) (zi (zq (j4 (eZ hE (pv 5) ee (au _)) (j2 (eZ hE (pv 7) ee (au _)))))) zt)
   (zi (zq (j4 (zy Ca hr rfl ax (zc (pv 7) (zc (zx dq (pv 3) zf) (zc (pv 5) (zc (pv 1) (zc (pv 2) zd)))))) (j2 (eZ (Hi aq) (zy Cs hr rfl ax (zc (pv 7) (zc (pv 1) zd))) (pv 6) (au _)))))))),?_⟩
  have l5:∀{cs:Ch},(∀q∈ksC cs,q∈oo)->∀c∈cs,c.1.length<=5:=fun h2 c hc=>O.le _ (h2 _ (KK.mpr ⟨c,hc,rfl⟩));have sm:∀{cs:Ch},ChP p cs->(∀q∈ksC cs,q∈oo)->∀c∈cs,c.1.length<=5/\-(2 ^ 64)<c.2/\c.2<2 ^ 64:=fun h1 h2 c hc=>by
   have:=h1.lo c hc;exact⟨l5 h2 c hc,ω,ω⟩
  obtain⟨ht,S,rg⟩:=cR;obtain⟨u,mE⟩:=mH;refine⟨_,rfl,r.t,_,rfl,SqT.of ht,rfl,_,_,rfl,_,_,rfl,_,_,rfl,_,_,rfl,_,_,rfl,rfl,?_⟩;refine⟨_,rfl,_,rfl,_,_,rfl,rfl,_,rfl,_,rfl,_,rfl,r.c,T,r.cs,oo,r.hi+1,p,r.b,rfl,S,hT,O.nd,u,fun b1 H1 X L=>⟨_,rfl,?_⟩⟩;cases b1 with
  |false=>exact aK (aK (k false H1 ⟨fun z=>(nomatch z),fun z=>X.mpr z.1⟩ L))
  |true=>
  have G:=X.mp rfl;have kQ:=G.ok u.nd;refine aO ⟨_,rfl,_,rfl,r.c,r.cs,p,rfl,S.same L,u.nd,sm kQ G.in_,by have:=u.few;omega,hp,fun D H2 l s2 bF Y c2 g2=>?_⟩;intro N hN;have I:=Same.new (o:=.dT []) hN;have j:=(L.trans s2).trans I;have zero:l=[]↔∀x,p ∣ lin r.cs x:=by
   constructor
   ·intro e x
    have:=g2 x;rw[e] at this;exact Pe this.symm
   ·intro h
    cases l with
    |nil=>rfl
    |cons c t=>
     have h3:=g2 c.1;have h4:=(c2.at (x:=c.1) (KK.mpr ⟨c,.head _,rfl⟩)).1;rw[h3,Qj (h c.1)] at h4;omega
  have C:c_ oo p r->∀x,p ∣ lin r.cs x:=fun z=>by
   rcases z.2 with ⟨_,_,e⟩|⟨e,x,_,e2,e3,v⟩
   ·exact e
   ·exact NH (l5 e3.in_) u.nd v
  by_cases hz:l=[]
  rotate_left
  ·refine⟨D,N,false,rfl,rfl,⟨kvC l,[],ksC l,[],l.map (·.2),.inl (I _ _ Y),.inl ac,zY _,rfl,nf _,.inr ⟨rfl,by rw[zA];show l.length≠0;exact fun e=>hz (O5 e)⟩⟩,_,rfl,aK (k false _ ⟨fun z=>(nomatch z),fun z=>absurd (zero.mpr (C z)) hz⟩ j)⟩
  have cyc:=zero.mp hz;subst hz;refine⟨D,N,true,rfl,rfl,⟨[],[],[],[],[],.inl (I _ _ Y),.inl ac,rfl,rfl,rfl,.inl ⟨rfl,rfl,fun kv h=>nomatch h⟩⟩,_,rfl,aO ?_⟩;generalize upd H2 N (.dT [])=H3 at I j;cases ed:r.d with
  |none=>
   refine⟨_,rfl,rfl,_,rfl,aK ?_⟩;refine aK ⟨_,rfl,rfl,_,rfl,aK ?_⟩;cases eg:r.g with
   |none=>exact⟨_,rfl,rfl,k true H3 ⟨fun _=>⟨G,.inl ⟨ed,eg,cyc⟩⟩,fun _=>rfl⟩ j⟩
   |some x=>
    refine⟨_,rfl,rfl,k false H3 ⟨fun z=>(nomatch z),fun z=>?_⟩ j⟩;rcases z.2 with ⟨_,e,_⟩|⟨e,_,e1,_⟩
    ·rw[eg] at e;cases e
    ·rw[ed] at e1;cases e1
  |some e=>
   refine⟨_,rfl,rfl,_,rfl,aO ?_⟩;cases eg:r.g with
   |none=>
    refine⟨_,rfl,rfl,_,rfl,aK ⟨_,rfl,rfl,false,rfl,aO (k false H3 ⟨fun z=>(nomatch z),fun z=>?_⟩ j)⟩⟩;rcases z.2 with ⟨e1,_,_⟩|⟨_,_,_,e1,_⟩
    ·rw[ed] at e1;cases e1
    ·rw[eg] at e1;cases e1
   |some x=>
    have fH:=rg x eg;have J:=mE x eg;have a:c_ oo p r->AtP oo p (r.hi+2) e x.2/\∀y,aC r.cs y=lin x.2 y%p:=fun z=>by
     rcases z.2 with ⟨e1,_,_⟩|⟨e',x',e1,e2,e3,v⟩
     ·rw[ed] at e1;cases e1
     ·rw[ed] at e1;rw[eg] at e2
      obtain rfl:=Ah e1;obtain rfl:=Ah e2;exact⟨e3,v⟩
    refine⟨_,rfl,rfl,_,rfl,aO ?_⟩;refine⟨_,rfl,_,rfl,_,_,rfl,rfl,_,rfl,_,rfl,_,rfl,x.1,T,x.2,oo,r.hi+2,p,e,rfl,fH.same j,hT.same j,O.nd,J,fun b4 H4 aN s4=>⟨_,rfl,?_⟩⟩;have U:=j.trans s4;cases b4 with
    |false=>exact aO (k false H4 ⟨fun z=>(nomatch z),fun z=>aN.mpr (a z).1⟩ U)
    |true=>
    have W:=aN.mp rfl;have pV:=W.ok J.nd;refine aK ⟨_,rfl,_,rfl,x.1,x.2,p,rfl,fH.same U,J.nd,sm pV W.in_,by have:=J.few;omega,hp,fun D5 H5 M s5 oC ba c5 g5=>⟨_,rfl,?_⟩⟩;have iz:=U.trans s5;have si:=same_iff c5 kQ;refine⟨D5,r.c,_,rfl,rfl,⟨kvC M,kvC r.cs,ksC M,ksC r.cs,M.map (·.2),r.cs.map (·.2),.inl ba,S.same iz,zY _,zY _,nf _,nf _,@decide_eq_true_iff _ (Classical.propDecidable _)⟩,k _ H5 ?_ iz⟩;rw[@decide_eq_true_iff _ (Classical.propDecidable _)];constructor
    ·intro z
     refine⟨G,.inr ⟨e,x,ed,eg,W,fun y=>?_⟩⟩;have:=si.mp ⟨by have:=z.1;rwa [zA,zA] at this,Hl z.2⟩ y;rw[<-this,g5]
    ·intro z
     obtain⟨_,v⟩:=a z;obtain⟨h1,h2⟩:=si.mpr fun y=>by rw[v y,g5]
     exact⟨by rw[zA,zA];exact h1,Hk h2⟩
abbrev HC:TE:=ck (zH (ay 1) (zH (ay 0) bb))
def NZ{H2:Hp}{L D:Addr}{as:List Addr}{oo:Ξ}{Q:VK}(g:SqL K H2 L (as.map V.ref))(ht:Tps H2 as oo)(hz:oo.length<=1000)(l:H2 D=none)(k:∀(H3:Hp)(ts:List Addr),Same H2 H3->H3 D=some (.lst (ts.map V.ref))->Prs H3 ts (bP oo)->Q (.ref D) H3):cG (kl K L) (fw K 2 (gi (zU 0) (gi (zU 1) fv))) bT HC [none,none] H2 D Q:=by
 have C:=ht.length;refine iA as.length (fun j σ ys H3=>∃(b c:Option V)(ts:List Addr),σ=[b,c]/\Same H2 H3/\H3 D=some (.lst ys)/\ys=ts.map V.ref/\Prs H3 ts ((bP oo).take j)) ?_ ?_ ?_ ?_ ?_
 ·exact⟨none,none,[],rfl,Same.new l,ac,rfl,.nil⟩
 ·rintro σ ys H3 ⟨b,c,ts,rfl,sm,d,rfl,hp⟩
  exact⟨_,sm.seq g,by rw[Ab]⟩
 ·rintro i σ ys H3 hi ⟨b,c,ts,rfl,sm,d,rfl,hp⟩
  exact⟨_,sm.seq g,by rw[Ab];exact hi⟩
 ·rintro i σ ys H3 x H' hi hy ⟨b,c,ts,rfl,sm,d,rfl,hp⟩ ⟨p,y,rfl,u,rfl,v⟩
  have E:=v _ (sm.seq g);obtain⟨a,w,rfl⟩:=dz E;obtain⟨r,A,hr⟩:=ht.get w;have F:=Same.new (o:=.tup [.int i,.ref a]) u;have e:(bP oo)[i]?=some (r,(i:Int)):=by unfold bP;rw[Af,Qu,A];simp
  refine⟨p,_,rfl,SqT.of ac,rfl,_,_,rfl,_,_,rfl,rfl,ja ?_⟩;refine⟨_,rfl,_,rfl,zg (by simp),fun t q=>?_⟩;have f:=F.trans (Same.new (o:=.tup [.ref a,.int i]) q);have h:=f _ _ d;refine bi (zg ω) hi hy h ⟨_,_,ts++[t],rfl,(sm.trans f).then l,ac,by rw[Ao];rfl,?_⟩;rw[AE e];exact Prs.upd (Prs.snoc (hp.same f) ⟨a,by rw[ac],f.tp (sm.tp hr)⟩) h (by intro xs z;cases z)
 ·rintro σ ys H3 ⟨b,c,ts,rfl,sm,d,rfl,hp⟩
  rw[C,AA (by unfold bP;rw[Ab,QO];exact Ag _)] at hp;exact k H3 ts sm d hp
def vA(K:Ae):Sp:=fun vs H Q _=>∃l as oo p D L,vs=[.ref l,.int p,.ref D]/\SqL K H l (as.map V.ref)/\Tps H as oo/\cp oo/\oo.length<=60/\isP p/\H D=some (.lst (L.map fun r=>V.ref r.t))/\(∀r∈L,RgAt H r)/\(∀r∈L,k8 r)/\(ends L).length<64/\∀b H',(b=true↔gU oo p L)->Same H H'->Q (.bl b) H'
abbrev qo:List Str:=["order","prime","row","when","met"]
def DR:zr qo ["order","prime","row"] (zh vu):=⟨rfl,rfl,rfl,δ,rfl,δ,δ⟩
def N0(F:Fun K "_law_is_paper" "_law_is_paper" vu f fd)(B:Bt mg)(di:mg "dict"=none)(Cb:Cl P w K mg base aG "_law_is_bar" ["bar","prime","when"] 3 DQ):FnOk P w K mg base aG 4 f fd ["order","prime","row"] (vA K):=by
 refine F.ok DR (fun vs H Q E h=>?_) (fun cdv A outer s H vs Q E hr h=>?_)
 ·obtain⟨l,as,oo,p,D,L,rfl,_⟩:=h;rfl
 ·obtain⟨l,as,oo,p,D,L,rfl,W,ht,ho,ir,hp,u,X,mq,he,k⟩:=h
  have aq:=hr.units;have O:=Dl ho;have h2:=hp.pr.1.two;have h7:=hp.pr.2;have aE:=ht.length;have gf:L.length<64:=by
   unfold ends at he;rw[Ap,Ab] at he;omega
  refine⟨_,ze (zo (i:=3) DR.nd rfl (Or.inr rfl) (zp (pP rfl aq) rfl di k9 (zc (zv qo ["time","piece"] [none,none] (oP rfl B.enumerate oW (zc (pv 0) zd))
    (fun c C s₀ H₀ ex=>iT rfl (zC (zk (i:=0) (cv ["time","piece"]) rfl (Or.inl rfl)) (zC (zk (i:=1) (cv ["time","piece"]) rfl (Or.inl rfl)) iP))) (fun c C s₀ H₀ ex=>zP) (fun c C s₀ H₀ ex=>dL (zc (pv 1) (zc (pv 0) zd)))
    (hfr:=cY δ) (g:=fw K 2 (gi (zU 0) (gi (zU 1) fv))) (te:=HC)) zd)))
   (ze (zR (gh (iN (zm (mD rfl) rfl B.all mL (zc (zv qo ["bar","prime","when"] [none,some 1,some 3] (zI (pv 2)) (fun c C s₀ H₀ ex=>zk (i:=0) (cv ["bar","prime","when"]) rfl (Or.inl rfl)) (fun c C s₀ H₀ ex=>zP)
    (fun c C s₀ H₀ ex=>zy Cb hr rfl ax (zc (pv 0) (zc (pv 1) (zc (pv 2) zd)))) (hfr:=b_ (zh vu) δ) (te:=kb DQ [] E0 (zH (ay 0) (zH (ay 1) (zH (ay 2) bb))))) zd)))) (zi (zq dY)) zt)
   (ze (zo (i:=4) DR.nd rfl (Or.inl rfl) (zx kc (zv qo ["bar"] [none] (zI (pv 2)) (fun c C s₀ H₀ ex=>zk (i:=0) (cv ["bar"]) rfl (Or.inl rfl)) (fun c C s₀ H₀ ex=>zP) (fun c C s₀ H₀ ex=>zB zG (pv 0) zf (fun _ _=>rfl)) (hfr:=cY δ) (te:=fM K 1))
    (zv qo ["bar"] [none] (zI (pv 2)) (fun c C s₀ H₀ ex=>zk (i:=0) (cv ["bar"]) rfl (Or.inl rfl)) (fun c C s₀ H₀ ex=>i9 (zn Et (zB zG (pv 0) zf (fun _ _=>rfl)) ee (au _))) (fun c C s₀ H₀ ex=>zB zG (pv 0) zf (fun _ _=>rfl)) (hfr:=cY δ) (tc:=DJ K) (te:=fM K 2))))
   (zi (zq (eZ (MT aq) (zm Cv rfl B.sorted mP (zc (pv 4) zd)) (zp (Hh rfl) rfl B.list eD (zc (zp Hg rfl B.range Hj (zc (zm zl rfl B.len cV (zc (pv 0) zd)) zd)) zd)) (au _)))))),?_⟩
  refine⟨_,rfl,l,rfl,⟨_,W⟩,fun D1 lL=>zE (NZ W ht ω lL fun H1 ts s1 oZ eL=>?_)⟩;refine⟨D1,ts,kvC (bP oo),rfl,SqL.of oZ,DP eL,fun T hT=>?_⟩;rw[C4,DM _ (by rw[Dy];exact O.nd)];have G:=s1.trans (Same.new (o:=.dT (kvC (bP oo))) hT);have kw:=ac (H:=H1) (a:=T) (o:=.dT (kvC (bP oo)));generalize upd H1 T (.dT (kvC (bP oo)))=H2 at G kw;refine⟨_,rfl,D,rfl,⟨_,SqL.of (G _ _ u)⟩,fun D9 gu=>zE (zN (xs:=L.map fun r=>V.ref r.t) (fun j σ ys H'=>∃(v:Option V)(bs:List Bool),σ=[v,some (.int p),some (.ref T)]/\Same H2 H'/\H' D9=some (.lst ys)/\ys=bs.map V.bl/\Paired (fun b r=>b=true↔c_ oo p r) bs (L.take j)) ?_ ?_ ?_ ?_)⟩
  ·exact⟨none,[],rfl,Same.new gu,ac,rfl,.nil⟩
  ·rintro j σ ys H' ⟨v,bs,rfl,sm,N,rfl,_⟩
   exact SqL.of (sm _ _ (G _ _ u))
  ·rintro j σ ys H' x hx hj hy ⟨v,bs,rfl,sm,N,rfl,y⟩
   rw[Af] at hx;obtain⟨r,er,rfl⟩:=OY.mp hx;have fR:=Aj er;refine cw ⟨_,rfl,_,rfl,_,rfl,r,T,oo,p,rfl,(X r fR).same (G.trans sm),mq r fR,.inl (sm _ _ kw),O,ω,ω,h7,fun b wM hb bJ=>?_⟩;refine bi (by rw[Ab];exact zg ω) hj hy (bJ _ _ N) ⟨_,bs++[b],rfl,(sm.trans bJ).then gu,ac,by rw[Ao];rfl,?_⟩;rw[AE er];exact Paired.snoc y hb
  ·rintro σ ys H' ⟨v,bs,rfl,sm,N,rfl,y⟩
   rw[Ab,take_all] at y;have S:=G.trans sm;have allB:bs.all id=true↔∀r∈L,c_ oo p r:=⟨fun z r hr'=>by
     obtain⟨b,hb,e⟩:=(jX y).2 r hr';exact e.mp (OX.mp z b hb),fun z=>OX.mpr fun b hb=>by
     obtain⟨r,hr',e⟩:=(jX y).1 b hb;exact e.mpr (z r hr')⟩
   refine⟨D9,bs,rfl,SqL.of N,_,rfl,?_⟩;cases hal:bs.all id with
   |false=>exact aK (k false H' ⟨fun z=>(nomatch z),fun z=>by rw[allB.mpr z.2] at hal;exact hal.symm⟩ S)
   |true=>
   have I:=allB.mp hal;refine aO ?_;have af:=S _ _ u;refine⟨_,rfl,D,rfl,⟨_,SqL.of af⟩,fun D2 bf=>zE (Hu (SqL.of af) (fun r hr'=>(X r hr').same S) ω bf fun H4 s4 ik=>?_)⟩;have U:=S.trans s4;refine⟨_,rfl,D,rfl,⟨_,SqL.of (U _ _ u)⟩,fun D3 oE=>zE (Hv (SqL.of (U _ _ u)) (fun r hr'=>(X r hr').same U) ω oE fun H5 s5 gZ=>?_)⟩;have gw:(L.map (·.b)).length+(L.filterMap (·.d)).length<64:=by
    unfold ends at he;rw[Ap] at he;exact he
   refine⟨D2,D3,_,_,rfl,rfl,s5 _ _ ik,gZ,by simp only[Ab];simp only[Ab] at gw;exact zg ω,fun q hq=>?_⟩;have s6:=Same.new (o:=.lst ((L.map (·.b)).map V.int++(L.filterMap (·.d)).map V.int)) hq;refine⟨_,rfl,q,ends L,rfl,SqL.of (by rw[ac];unfold ends;rw[Ao]),he,fun D5 J eQ dg ba=>?_⟩;have s7:=Same.new (o:=.lst (J.map V.int)) ba;have Y:=((U.trans s5).trans s6).trans s7;have dJ:=ac (H:=upd H5 q (.lst ((L.map (·.b)).map V.int++(L.filterMap (·.d)).map V.int))) (a:=D5) (o:=.lst (J.map V.int));generalize upd (upd H5 q (.lst ((L.map (·.b)).map V.int++(L.filterMap (·.d)).map V.int))) D5 (.lst (J.map V.int))=H7 at s7 Y dJ;refine⟨_,rfl,l,_,rfl,.inl (Y.seq W),_,rfl,fun R hR=>?_⟩;have s8:=Same.new (o:=.rng 0 ((as.map V.ref).length:Nat)) hR;refine⟨R,(as.map V.ref).length,rfl,ac,by rw[Ab];omega,fun M hM=>?_⟩;have s9:=Same.new (o:=.lst (((AJ (as.map V.ref).length).map fun k:Nat=>(k:Int)).map V.int)) hM;have sv:=s8.trans s9;refine⟨D5,M,J,_,rfl,rfl,SqL.of (sv _ _ dJ),SqL.of ac,k _ _ ?_ (Y.trans sv)⟩;rw[decide_eq_true_iff,show(as.map V.ref).length=oo.length by rw[Ab,aE]];exact⟨fun z=>⟨by have:=eQ.symm;rw[z] at this;exact this,I⟩,fun z=>Ht (eQ.trans z.1) dg (Hs _)⟩
end
def hT(ps:List Int):Int:=reduceHash (Builtin.Tuple.tupleHashOf (ps.map hashInt))
def vC(m:Nat):List Int->Nat->Bool
 |[],_=>true
 |h::t,acc=>(Nat.beq (Nat.land 1 (Nat.shiftRight acc (h%(m:Int)).toNat)) 0)&&vC m t (Nat.lor acc (Nat.shiftLeft 1 (h%(m:Int)).toNat))
def N1(a b:Nat):Nat.beq (Nat.land 1 (Nat.shiftRight a b)) 0=!a.testBit b:=by
 unfold Nat.testBit;show Nat.beq (1 &&& (a >>> b)) 0=!(1 &&& (a >>> b) != 0);cases h:(1 &&& (a >>> b)) with
 |zero=>rfl
 |succ n=>rfl
def HD(m:Nat):∀(l:List Int)(acc:Nat),vC m l acc=true->(∀h∈l,acc.testBit (h%(m:Int)).toNat=false)/\l.Nodup
 |[],_,_=>⟨(fun h x=>nomatch x),O6⟩
 |h::t,acc,e=>by
  unfold vC at e;rw[AK,N1] at e;obtain⟨e1,e2⟩:=e;obtain⟨i1,i2⟩:=HD m t _ e2;have a:acc.testBit (h%(m:Int)).toNat=false:=by simpa using e1
  have key:∀x∈t,acc.testBit (x%(m:Int)).toNat=false/\(x%(m:Int)).toNat≠(h%(m:Int)).toNat:=fun x hx=>by
   have:=i1 x hx;rw[show Nat.lor acc (Nat.shiftLeft 1 (h%(m:Int)).toNat)=acc||| (1 <<< (h%(m:Int)).toNat) from rfl,Nat.testBit_or,Bool.or_eq_false_iff,Nat.one_shiftLeft,Nat.testBit_two_pow] at this;exact⟨this.1,fun z=>by have:=this.2;simp[z] at this⟩
  refine⟨fun x hx=>?_,Qo.mpr ⟨fun hx=>(key h hx).2 rfl,i2⟩⟩;rcases OT.mp hx with rfl|hx
  ·exact a
  ·exact(key x hx).1
def up:Nat->Int->Ξ
 |0,_=>[[]]
 |m+1,k=>up m (k+1)++(up m (k+1)).map (k::·)
def vH:∀(m:Nat)(k:Int)(e:List Int),e.Pairwise (·<·)->(∀x∈e,k<=x/\x<k+m)->e∈up m k
 |0,k,e,_,h=>by
  cases e with
  |nil=>exact OU.mpr rfl
  |cons x r=>have:=h x Av;omega
 |m+1,k,e,hp,h=>by
  unfold up;rw[OW];cases e with
  |nil=>exact .inl (vH m (k+1) [] .nil (fun x hx=>nomatch hx))
  |cons x r=>
   obtain⟨h1,h2⟩:=P7.mp hp
   by_cases hx:x=k
   ·subst hx
    exact .inr (KK.mpr ⟨r,vH m (x+1) r h2 (fun y hy=>by have:=h1 y hy;have:=h y (As _ hy);omega),rfl⟩)
   ·refine .inl (vH m (k+1) _ hp fun y hy=>?_)
    have a:=h x Av;rcases OT.mp hy with rfl|hy'
    ·omega
    ·have:=h1 y hy';have:=h y (As _ hy');omega
def jY:Ξ:=(up 8 0).filter fun e=>Nat.ble e.length 5
def qt:Ξ:=[[98,99],[3,2]]
def gX(f g:Int):Ξ:=jY.map (cZ f g)++qt
def DS:List Nat:=[3508,3437,2862,3018,2995,2629,2724,3329,3162,3060,3480,2864,2446,3181,3868,3309,3064,3474,3723,2552,3628,3436,3303,3187,3606,2805,3263,2928,3414,3530,3709,2994,3281,2210,3423,2979]
def HE(i:Nat):Bool:=vC (DS.getD i 1) ((gX ((i / 3:Nat):Int) ((i%3+1:Nat):Int)).map hT) 0
def N2:∀i,i<36->HE i=true:=δ
def HF{b c:Type}{f:b->c}:∀{l:List b},(l.map f).Nodup->∀x∈l,∀y∈l,f x=f y->x=y
 |[],_,_,hx,_,_,_=>absurd hx (by simp)
 |a::l,h,x,hx,y,hy,e=>by
  rw[Aq,Be] at h;rcases OT.mp hx with q|hx'
  ·rcases OT.mp hy with r|hy'
   ·rw[q,r]
   ·exact absurd (KK.mpr ⟨y,hy',by rw[<-e,q]⟩) h.1
  ·rcases OT.mp hy with r|hy'
   ·exact absurd (KK.mpr ⟨x,hx',by rw[e,r]⟩) h.1
   ·exact HF h.2 x hx' y hy' e
def HG{P:Program}{w:World}(ps:List Int):tupleKeyHash (intKind P w) ps=hT ps:=rfl
def Nm(f g:Int):Prop:=0<=f/\f<12/\1<=g/\g<=3
def N3{f g:Int}(h:Nm f g){x y:List Int}(hx:x∈gX f g)(hy:y∈gX f g)(e:hT x=hT y):x=y:=by
 obtain⟨a,f1,b,g1⟩:=h;obtain⟨i,rfl⟩:=O1 a;obtain⟨j,c⟩:=O1 (show 0<=g-1 from ω);obtain rfl:g=((j+1:Nat):Int):=ω
 have h:=N2 (3*i+j) ω;unfold HE at h;rw[show(3*i+j) / 3=i from ω,show(3*i+j)%3+1=j+1 from ω] at h;exact HF (HD _ _ _ h).2 x hx y hy e
def Rz(e:List Int):Prop:=e.Pairwise (·<·)/\(∀x∈e,0<=x/\x<=7)/\e.length<=5
def Rz.sub{e d:List Int}(h:Rz e)(s:d.Sublist e):Rz d:=⟨h.1.sublist s,fun x hx=>h.2.1 x (s.subset hx),AC s.length_le h.2.2⟩
def N4:Rz []:=⟨.nil,(fun x hx=>nomatch hx),ξ⟩
def InK(f g:Int)(ps:List Int):Prop:=(∃e,Rz e/\ps=cZ f g e)\/ps∈qt
def N5{e:List Int}(h:Rz e):e∈jY:=O0.mpr ⟨vH 8 0 e h.1 (fun x hx=>by have:=h.2.1 x hx;omega),by rw[Nat.ble_eq];exact h.2.2⟩
def HH{f g:Int}{ps:List Int}(h:InK f g ps):ps∈gX f g:=by
 unfold gX;rw[OW];rcases h with ⟨e,he,rfl⟩|h
 ·exact .inl (KK.mpr ⟨e,N5 he,rfl⟩)
 ·exact .inr h
def N6{q:Ξ}(h:Drawn q):∃f g,Nm f g/\∀e∈canon q,∃a,Rz a/\e=cZ f g a:=by
 obtain⟨b,first,d,hb,i,h1,j,l,hp⟩:=h;obtain⟨_,_,o,_⟩:=FW hb;refine⟨first,d,⟨i,h1,j,l⟩,fun e he=>?_⟩;obtain⟨A,p,hx⟩:=O7.mp (CK.mp he);obtain⟨r,hr,rfl⟩:=KK.mp (hp.mem_iff.mp p);obtain⟨_,c⟩:=ji.mp hx;unfold cZ at c;obtain⟨y,hy,rfl⟩:=List.sublist_map_iff.mp c;obtain⟨_,u,v,w⟩:=o r hr;exact⟨y,⟨((pf r).mp v).sublist hy,fun x hx=>w x (hy.subset hx),AC hy.length_le u⟩,rfl⟩
end K65
end
section
namespace br
open PySem PyProof.Rows PySem.W
section
variable{prog:Program}{w:World}{A:Around}{E:Ω}{s:Shared}{good:Heap->Prop}{us vs:List Value}{ls:Ξ}
def IsTp(h:Heap)(u:Value)(l:List Int):Prop:=∃(a:Addr)(ad:List Value),u=.ref a/\IsTup h a ad.toArray/\IntsAre ad l/\l≠[]
def IsTp.inj{h:Heap}{u:Value}{l m:List Int}(h1:IsTp h u l)(h2:IsTp h u m):l=m:=by
 obtain⟨a,ad,rfl,b,i1,_⟩:=h1;obtain⟨d,its',e,c,i2,_⟩:=h2;cases e;have e2:=br.IsTup.inj b c;have e3:ad=its':=by simpa using e2
 subst e3;exact IntsAre.inj i1 i2
def N7{fin:Bool}{Q:Bool->Shared->Prop}{ad its':List Value}{l m:List Int}{i:Nat}(h1:IntsAre ad l)(h2:IntsAre its' m)(hf:fin=decide (l.length<m.length))(hq:Q (HT.lexLt l m) s):KatLex prog w A true fin Q (ad.zip its') i s:=by
 induction h1 generalizing its' m i with
 |nil=>
  cases h2 with
  |nil=>rw[hf];exact kat_nil hq
  |cons n t h=>rw[hf];exact kat_nil hq
 |cons n t h ih=>
  cases h2 with
  |nil=>rw[hf];exact kat_nil hq
  |cons n' t' h'=>
   rw[HT.zJ] at hq;rw[QM];refine kat_cons (wpAny_mono (SeqAt.EqAt.int_int n t n' t' prog w (fun _ _=>False) _ ⟨rfl,rfl⟩:wpAny (model prog w) A (eqBool (.int n t) (.int n' t')) (fun e s'=>e=(n==n')/\s'=s) (fun _ _=>False) s) (fun e1 c he=>?_) fun _ _ z=>z);obtain⟨rfl,rfl⟩:=he
   by_cases a:n=n'
   ·have b:(n==n')=true:=by simpa using a
    rw[b];rw[RJ a] at hq;exact kat_yes (ih h' (by rw[hf,Ay,Ay];congr 1;rw[Nat.add_lt_add_iff_right]) hq)
   ·have b:(n==n')=false:=by simpa using a
    rw[b];rw[RK a] at hq;refine kat_no ?_;cases hi:(true&&i==0) with
    |true=>exact oneLt_int hq
    |false=>exact kat_one _ _ (lt_int hq)
def N8{x y:Value}{l m:List Int}{Q:Bool->Shared->Prop}(h1:IsTp s.heap x l)(h2:IsTp s.heap y m)(hq:Q (HT.lexLt l m) s):wpAny (model prog w) A (keyLt' (tuples' true) x y) Q E s:=by
 obtain⟨a,ad,rfl,⟨o,e,hc,k,d⟩,i1,_⟩:=h1;obtain⟨b,its',rfl,⟨o',e',hc',c,d'⟩,i2,_⟩:=h2;refine kat_lt e d e' d' ?_;exact N7 (by simpa using i1) (by simpa using i2) (by rw[Am,Am,i1.length,i2.length]) hq
def HI{h:Heap}:∀{us:List Value}{ls:Ξ},us.length=ls.length->(∀(i:Nat) u l,us[i]?=some u->ls[i]?=some l->IsTp h u l)->∃fs,KatTups h us fs/\fs.length=us.length/\∀f∈fs,∃n t,f=Value.int n t
 |[],[],_,_=>⟨[],.nil,rfl,fun f hf=>nomatch hf⟩
 |u::us,l::ls,hl,hp=>by
  obtain⟨fs,c,g,j⟩:=HI (us:=us) (ls:=ls) (by simpa using hl) fun i u l h1 h2=>hp (i+1) u l (by simpa using h1) (by simpa using h2);obtain⟨a,ad,rfl,⟨o,e,hc,k,d⟩,i1,b⟩:=hp 0 u l rfl rfl;cases i1 with
  |nil=>exact absurd rfl b
  |cons n t r=>
   refine⟨.int n t::fs,.cons e hc d rfl c,by simp[g],fun f hf=>?_⟩;rcases OT.mp hf with rfl|hf
   ·exact⟨n,t,rfl⟩
   ·exact j f hf
 |[],_::_,h,_=>by simp at h
 |_::_,[],h,_=>by simp at h
def N9(d:us.length=ls.length)(o:∃h,good h)(hp:∀h,good h->∀(i:Nat) u l,us[i]?=some u->ls[i]?=some l->IsTp h u l):By prog w A good us ls:=by
 refine⟨d,fun i j u l m h1 h2 a b=>?_,fun h2=>⟨tuples' true,fun s Q E gs hq=>?_,fun i j u v l m h1 h2 a b s Q E gs hq=>?_⟩⟩
 ·obtain⟨h,c⟩:=o
  exact(hp h c i u l h1 a).inj (hp h c j u m h2 b)
 ·obtain⟨fs,e,p,g⟩:=HI d (hp _ gs)
  refine kat_kind (T:=.type "int") e ω (fun f hf=>?_) ξ hq;obtain⟨n,t,rfl⟩:=g f hf;exact Looks.of_pure rfl
 ·exact N8 (hp _ gs i u l h1 a) (hp _ gs j v m h2 b) hq
def IsTr(h:Heap)(u:Value)(l:List Int):Prop:=∃(a b:Addr)(n n2:Int)(t c:Tok)(ad:List Value)(ps:List Int),u=.ref a/\l=n::n2::ps/\IsTup h a #[.int n t,.int n2 c,.ref b]/\IsTup h b ad.toArray/\IntsAre ad ps
def IsTr.inj{h:Heap}{u:Value}{l m:List Int}(h1:IsTr h u l)(h2:IsTr h u m):l=m:=by
 obtain⟨a,b,n,n2,t,j,ad,ps,rfl,rfl,c,d,i1⟩:=h1;obtain⟨o,p,q,w,t',r,its',v,e,rfl,f,g,i⟩:=h2;cases e;have:=br.IsTup.inj c f;cases this;have e2:=br.IsTup.inj d g;have e3:ad=its':=by simpa using e2
 subst e3;rw[IntsAre.inj i1 i]
end
end br
namespace L2
open PySem PySem.Spec PyProof.Rows
section
variable{X:Cx}{aa:Ψ}{σ:St}{H:Hp}{s:Shared}
def N_{h h':Heap}{a:Addr}{xs:Array Value}(k:∀b o,h.get? b=some o->h'.get? b=some o)(x:IsTup h a xs):IsTup h' a xs:=by
 obtain⟨o,e,r⟩:=x;exact⟨o,k _ _ e,r⟩
end
end L2
end
section
namespace br
open PySem PySem.W PyProof.Rows
section
variable{prog:Program}{w:World}{A:Around}{E:Ω}{s:Shared}{good:Heap->Prop}{us:List Value}{ls:Ξ}
def k_(h:Heap)(u:Value)(l:List Int):Prop:=∃(a:Addr)(ad:List Value),u=.ref a/\IsTup h a ad.toArray/\IntsAre ad l
def HJ:∀(us:List Value)(ls:Ξ){Q:List (Option Value)->Shared->Prop},us.length=ls.length->(∀(i:Nat) u l,us[i]?=some u->ls[i]?=some l->k_ s.heap u l)-> (∀fs:List (Option Value),(∀(i:Nat) l,ls[i]?=some l->∃f,fs[i]?=some f/\(f.isSome=true↔l≠[]))->Q fs s)->wpAny (model prog w) A (us.mapM firstOfTuple') Q E s
 |[],[],_,_,_,h=>by rw[List.mapM_nil];exact Ac (h [] fun i l e=>by simp at e)
 |[],_::_,_,hl,_,_=>by simp at hl
 |_::_,[],_,hl,_,_=>by simp at hl
 |u::us,l::ls,Q,hl,hp,h=>by
  obtain⟨a,ad,rfl,⟨o,b,hc,n,hd⟩,hi⟩:=hp 0 u l rfl rfl;rw[List.mapM_cons];refine Aa ?_;rw[kas_first_eq];refine Aa (Looks.here (show Looks (model prog w) s.heap (typeOf (.ref a)) o.cls from(Looks.ld b).andThen .now) ?_);rw[hc,RK (by first|decide|simp)];refine Aa (listItems_at b hd (Ac ?_));refine Aa (HJ us ls (Q:=fun bs s'=>wpAny (model prog w) A (pure (ad.toArray[0]?::bs)) Q E s') (by simpa using hl) (fun i u l h1 h2=>hp (i+1) u l (by simpa using h1) (by simpa using h2)) fun fs hf=>Ac (h _ fun i m e=>?_));cases i with
  |zero=>
   have e:l=m:=by simpa using e
   subst e;refine⟨_,rfl,?_⟩;cases hi with
   |nil=>simp
   |cons n t r=>simp
  |succ i=>exact hf i m (by simpa using e)
def Oa(y:us.length=ls.length)(hu:A.units<cLine)(F:∃h,good h)(hp:∀h,good h->∀(i:Nat) u l,us[i]?=some u->ls[i]?=some l->k_ h u l)(hf:2<=ls.length->∀l,ls[0]?=some l->l≠[]):By prog w A good us ls:=by
 by_cases b:∀l∈ls,l≠[]
 ·exact N9 y F fun h g i u l h1 h2=>by
   obtain⟨a,ad,e1,e2,e3⟩:=hp h g i u l h1 h2;exact⟨a,ad,e1,e2,e3,b l (Aj h2)⟩
 refine⟨y,fun i j u l m h1 h2 q r=>?_,fun h2=>⟨general',fun s Q E gs hq=>?_,fun i j u v l m h1 h2 q r s Q E gs hq=>?_⟩⟩
 ·obtain⟨h,g⟩:=F
  obtain⟨a,ad,rfl,⟨o,e,_,n,d⟩,i1⟩:=hp h g i u l h1 q;obtain⟨C,its',e1,⟨o',e',_,N,d'⟩,i2⟩:=hp h g j _ m h2 r;injection e1 with e1
  subst e1;rw[e] at e';obtain rfl:=Ah e';rw[d] at d';injection d' with d1 d2
  have:ad=its':=by simpa using congrArg Array.toList d1
  subst this;exact IntsAre.inj i1 i2
 ·rw[kat_kind_eq,List.mapM_toArray,map_eq_pure_bind]
  refine Aa (Aa (HJ us ls y (hp _ gs) fun fs c=>Ac ?_));have L:∃p,ls[0]?=some p:=⟨_,Ai ω⟩;obtain⟨p,D⟩:=L;obtain⟨O,G,g1⟩:=c 0 p D;obtain⟨f,rfl⟩:=Po.mp (g1.mpr (hf ω p D));have M:¬(fs.toArray.all fun x=>x.isSome)=true:=fun z=>b fun l hm=>by
   obtain⟨i,hi⟩:=OV.mp hm;obtain⟨H,g2,g3⟩:=c i l hi;rw[List.all_toArray] at z;exact g3.mp (OX.mp z H (Aj g2))
  rw[RK M,RJ (by rw[List.getElem?_toArray,G];rfl)];exact Ac hq
 ·obtain⟨a,ad,rfl,I,i1⟩:=hp _ gs i u l h1 q
  obtain⟨C,its',rfl,J,i2⟩:=hp _ gs j v m h2 r;show wpAny (model prog w) A (oneLt' false (.ref a) (.ref C)) Q E s;exact kat_one _ _ (HT.EE I J (by simpa using i1) (by simpa using i2) hu hq)
end
end br
namespace L2
open PySem PySem.Spec PyProof.Rows
section
variable{X:Cx}{aa:Ψ}{σ:St}{H:Hp}{s:Shared}
def Ob{Gl:List (List Int)->Prop}(hu:X.A.units+64<cLine){At:Hp->Addr->List Int->Prop}{Is:Heap->Value->List Int->Prop}(L:∀aa σ H s,Inv X aa σ H s->∀p l,At H p l->Is s.heap (.ref p) l)(M:∀(h h':Heap) u l,(∀b o,h.get? b=some o->h'.get? b=some o)->Is h u l->Is h' u l)(N:∀(A:Around)(good:Heap->Prop)(us:List Value)(ls:Ξ),us.length=ls.length->A.units<cLine->(∃h,good h)->(∀h,good h->∀(i:Nat) u l,us[i]?=some u->ls[i]?=some l->Is h u l)->Gl ls->br.By X.prog X.w A good us ls):da X (.builtin "sorted") (fun xs H Q=>∃(l:Addr)(as:List Addr)(ls:Ξ),xs=[.ref l]/\SqL X.K H l (as.map V.ref)/\Paired (At H) as ls/\ls.length<64/\Gl ls/\
  ∀(D:Addr)(g:List (List Int×Addr)),g.Perm (ls.zip as)->g.Pairwise (fun a b=>HT.lexLt b.1 a.1=false)->H D=none->Q (.ref D) (upd H D (.lst (g.map fun q=>V.ref q.2)))):=by
 intro aa s σ H xs us Q I r h;obtain⟨l,as,ls,rfl,hq,hp,O,y,q⟩:=h;obtain⟨u,rfl,C⟩:=vals1 r;cases C;obtain⟨ad,j,E,hz⟩:=I.list hq;have c:=j.length;obtain rfl:=aU j;rw[Ab] at c hz;have G:=AN hp;have J:∀h:Heap,(∀b o,s.heap.get? b=some o->h.get? b=some o)->∀(i:Nat) u l,(as.map Value.ref)[i]?=some u->ls[i]?=some l->Is h u l:=fun h hk i u l h1 h2=>by
  rw[Af] at h1;cases e:as[i]? with
  |none=>rw[e] at h1;simp at h1
  |some a=>
   rw[e] at h1;obtain rfl:=Ah h1;exact M _ _ _ _ hk (L _ _ _ _ I _ _ (oS hp i a l e h2))
 refine br.BC (ls:=ls) (good:=fun h=>∀b o,s.heap.get? b=some o->h.get? b=some o) E.isList (N _ _ _ _ (by rw[Ab];exact G) (Fq hu) ⟨s.heap,fun _ _ e=>e⟩ J y) (fun h' hk=>hk) (by rw[Ab];exact hz) (by rw[Ab];omega) fun out d=>?_;obtain⟨ps,v,d,F⟩:=d;have all:∀p∈ps,p.2=Value.ref (addrOf p.2):=fun p f=>by
  have:=(Qp (v.mem_iff.mp f:(p.1,p.2)∈ls.zip (as.map Value.ref))).2;obtain⟨a,_,e⟩:=KK.mp this;rw[<-e];rfl
 have x:(ps.map fun p=>(p.1,addrOf p.2)).Perm (ls.zip as):=by
  have h1:=v.map (fun p:List Int×Value=>(p.1,addrOf p.2));have e:(ls.zip (as.map Value.ref)).map (fun p:List Int×Value=>(p.1,addrOf p.2))=ls.zip as:=by
   rw[List.zip_map_right,Ak];exact(Aw fun p _=>rfl).trans (QY _)
  rw[e] at h1;exact h1
 obtain⟨e,he⟩:=sortedAll_at s.heap (as.map Value.ref) out;have ex:out.toList=((ps.map fun p=>(p.1,addrOf p.2)).map fun q=>Value.ref q.2):=by
  rw[d,Ak];exact Aw fun p f=>all p f
 refine⟨.ref (s⁻¹+1),_,I.laid (t':=s.toks) (fun _ _=>sortedAll_old) (Qk _) (show zF X.prog X.w _ _ _ (.lst ((ps.map fun p=>(p.1,addrOf p.2)).map fun q=>V.ref q.2)) from⟨?_,out.toList,e,?_,?_⟩),rfl,q _ _ x ?_ (I.hok.fresh (Qk _))⟩
 ·rw[Ab,x.length_eq,PU];omega
 ·rw[ex]
  exact B_ (fun q:List Int×Addr=>q.2) _
 ·simpa using he
 ·rw[AX];exact F
def Oc(hu:X.A.units+64<cLine):da X (.builtin "sorted") (fun xs H Q=>∃(l:Addr)(as:List Addr)(ls:Ξ),xs=[.ref l]/\SqL X.K H l (as.map V.ref)/\Paired (Tp H) as ls/\ls.length<64/\(2<=ls.length->∀l,ls[0]?=some l->l≠[])/\
  ∀(D:Addr)(e:List (List Int×Addr)),e.Perm (ls.zip as)->e.Pairwise (fun a b=>HT.lexLt b.1 a.1=false)->H D=none->Q (.ref D) (upd H D (.lst (e.map fun q=>V.ref q.2)))):=
 Ob (At:=Tp) (Is:=br.k_) (Gl:=fun ls=>2<=ls.length->∀l,ls[0]?=some l->l≠[]) hu (fun aa σ H s I p l h=>by
  obtain⟨ad,f,i,_⟩:=I.tuple (SqT.of (K:=X.K) h);exact⟨p,ad,rfl,i,intsAre_of f⟩) (fun h h' u l k ⟨a,ad,e1,e2,e3⟩=>⟨a,ad,e1,N_ k e2,e3⟩) fun A good us ls a b c d g=>br.Oa a b c d g
end
end L2
end
section
namespace DPo
open PySem PySem.Spec PyProof.Rows
def jZ{a b:Type}(f:a->b):∀(l:List a)(j:Nat),(l.map f).eraseIdx j=(l.eraseIdx j).map f
 |[],j=>by simp
 |x::l,0=>by simp
 |x::l,j+1=>by simp[jZ f l j]
section
variable{prog:Program}{w:World}{K:Type}[DecidableEq K]{knd:HeapKind prog w K}{A:Around}{E:Ω}{s:Shared}
def takeOut{d a:Addr}{xs:List (K×Addr×Value)}{k:K}{Q:Option DictEntry->Shared->Prop}(hu:knd.room A)(q:knd.is s.heap k a)(hm:s.heap.DictOfH knd d xs)(hsz:xs.length<=sizeLine)(c:k∈xs.map (·.1))(h:∀(j:Nat)(p:Addr×Value) h',xs[j]?=some (k,p)->h'.DictOfH knd d (xs.eraseIdx j)->Heap.SameBut d s.heap h'->Q (some (entryOfKey knd (k,p))) {s with heap:=h',toks:=s.toks+knd.draws k}):wpAny (model prog w) A (Builtin.Dict.takeOut d (.ref a)) Q E s:=by
 obtain⟨o,es,ep,b,hc,hd,he,g,i⟩:=hm;have u:es.size=xs.length:=size_of_entries he;unfold Builtin.Dict.takeOut;refine AI ?_;refine Aa (knd.pyHash hu q ?_);refine Aa (wpAny_dictFind_heap (s:={s with toks:=s.toks+knd.draws k}) hu q b hd he g i ?_ ?_)
 ·intro r
  obtain⟨x,hx,rfl⟩:=KK.mp c;obtain⟨j,e⟩:=OV.mp hx;exact absurd e (r j x.2)
 ·intro j p f
  refine Aa (AB (s:={s with toks:=s.toks+knd.draws k}) b hd ?_);rw[entry_at he j,f];show wpAny _ _ (updateDictKeys d _ _ >>= fun _=>pure (some (entryOfKey knd (k,p)))) _ _ _;refine Aa (wpAny_updateDictKeys (hz:=by omega) (s:={s with toks:=s.toks+knd.draws k}) b hd (Ac (h j p _ f ⟨_,_,ep+1,Heap.get?_update_self _ b (Obj.isFreed_of_dict (Obj.data_mapDictKeys hd _)),
   hc.mapDictKeys _,Obj.data_mapDictKeys hd _,?_,?_,?_⟩ (AH ..))))
  ·have:(es.eraseIdxIfInBounds j).toList=es.toList.eraseIdx j:=by obtain⟨l⟩:=es;simp
   rw[this,he];exact jZ _ _ _
  ·intro x hx
   exact knd.keeps (g x (List.mem_of_mem_eraseIdx hx)) b hd (AH ..)
  ·rw[<-jZ]
   exact i.sublist (P8 _ _)
end
end DPo
namespace L2
open PySem PySem.Spec PyProof.Rows
def Od(td ty:TE):TE:=fun σ H Q=>td σ H fun x H1=>∃a,x=.ref a/\IsD H1 a/\ty σ H1 fun y H2=>∃kvs k b,H2 a=some (.dT kvs)/\y=.ref b/\H2 b=some (.tup (k.map kV))/\k∈kvs.map (·.1)/\∀(j:Nat) v,kvs[j]?=some (k,v)->Q v (upd H2 a (.dT (kvs.eraseIdx j)))
section
variable{X:Cx}{o e:Expr}{aH aw:Pos}{td ty:TE}
def DT{a b:Type}{R:a->b->Prop}:∀{l:List a}{m:List b},Paired R l m->∀(j:Nat) y,m[j]?=some y->∃x,l[j]?=some x/\R x y
 |_,_,.nil,j,y,h=>by simp at h
 |_,_,.cons r t,0,y,h=>by simp at h;subst h;exact⟨_,rfl,r⟩
 |_,_,.cons r t,j+1,y,h=>by simpa using DT t j y (by simpa using h)
def HK{a b:Type}{R:a->b->Prop}:∀{l:List a}{m:List b},Paired R l m->∀(j:Nat),Paired R (l.eraseIdx j) (m.eraseIdx j)
 |_,_,.nil,j=>by simpa using Paired.nil
 |_,_,.cons r t,0=>by simpa using t
 |_,_,.cons r t,j+1=>by simpa using Paired.cons r (HK t j)
def Oe(hu:X.A.units+64<cLine)(ho:PE X o td)(he:PE X e ty)(m:M1 X o "pop" aH e aw):PE X (.Call (.Attribute o "pop" aH) [e] [] aw) (Od td ty):=by
 intro aa s σ H Q I h;refine wpAny_Call_method m.base m.few m.line Qg PySem.F.slot_dict_pop PySem.F.type_dict_pop (aW (ho aa s σ H _ I h) fun u J ⟨x,H1,G,L,a,ex,d,M⟩=>?_);subst ex;obtain rfl:u=Value.ref a:=L;obtain⟨Y,t2,_⟩:=ET G d;refine⟨Y,t2,?_⟩;rw[m.trees];refine Calls.callWith_builtin rfl (Calls.evalArgs_plain (Calls.spliced_cons (aW (he aa J σ H1 _ G M) fun iv N ⟨y,H2,I2,O,kvs,k,b,l,P,S,v,T⟩=>Calls.spliced_nil ?_)));subst P;cases O;obtain⟨z,hd,xs,f,dd⟩:=y6 I2.hok l;have hz:xs.length<=sizeLine:=by rw[<-AN f];exact z
 have E:k∈xs.map (·.1):=by
  obtain⟨kv,cy,rfl⟩:=KK.mp v;obtain⟨j,e⟩:=OV.mp cy;have g:j<xs.length:=by rw[<-AN f];exact(B5.mp e).1
  have e2:xs[j]?=some xs[j]:=Ai g;obtain⟨jM,e3,r⟩:=DT f j _ e2;rw[e] at e3;obtain rfl:=Ah e3;exact KK.mpr ⟨xs[j],Bf g,r.1.symm⟩
 refine AG PySem.F.slot_dict_pop dd.typeIs PySem.F.entry_dict_pop ?_ (PySem.F.args_dict_pop_2 _ _);unfold Builtin.«dict.pop»;refine Aa ?_;unfold Builtin.Dict.keyAndDefault;refine Aa (wpAny_notOrdered_dict dd.typeIs ?_);show wpAny _ _ (pure (a,Value.ref b,none)) _ _ N;refine Ac ?_;dsimp only;obtain⟨oo,es,ep,o1,o2,o3,o4,o5,o6⟩:=id dd;have C:es.isEmpty=false:=by
  have i:=size_of_entries o4;obtain⟨x,hx,_⟩:=KK.mp E;have:0<xs.length:=List.length_pos_of_mem hx;rw[Array.isEmpty_eq_false_iff];intro U;rw[U] at i;simp at i;omega
 rw[RK (show ¬(keyPart (Value.ref b)).isSome=true from An)];refine Aa (AB o1 o3 ?_);refine Aa (Ac ?_);rw[C];simp only[Az,if_false];refine Aa (DPo.takeOut (knd:=tupleKind (zw X.prog X.w)) (tupleKind_room_in1 ω) (ib I2.hok S) dd hz E fun j p h' g W i=>?_);dsimp only;simp only[Option.isNone_some,Az,if_false];refine Aa (wpAny_letGo (Ac ⟨_,rfl,?_⟩));obtain⟨kv,e1,r⟩:=DT f j _ g;obtain⟨k0,D⟩:=kv;obtain rfl:k0=k:=r.1;obtain⟨q,iR,cb,hq,g2,g3,g4,_,g5⟩:=W;have ma:∀b xs,H2 b=some (.tup xs)->upd H2 a (.dT (kvs.eraseIdx j)) b=some (.tup xs):=fun c xs e=>by
  rw[ae (fun z=>by rw[z,l] at e;cases e)];exact e
 have new:zF X.prog X.w (upd H2 a (.dT (kvs.eraseIdx j))) h' a (.dT (kvs.eraseIdx j)):=⟨AC (by rw[List.length_eraseIdx];split<;>omega) z,hd,_,KT.keeps (HK f j) ma,q,iR,cb,hq,g2,g3,g4,g5⟩;exact⟨D,_,l' I2 (by rw[l];exact True.intro) i ⟨q,hq⟩ new,r.2.2,T j D e1⟩
end
end L2
end
section
namespace K65
open K1
open PySem L2 STb
abbrev gY:Stmt:=top 46
abbrev DU:Stmt:=top 48
def HInj(l:Ξ):Prop:=∀x∈l,∀y∈l,hT x=hT y->x=y
def HInj.nd{P:Program}{w:World}{l ks:Ξ}(h:HInj l)(d:ks.Nodup)(s:∀x∈ks,x∈l):(ks.map (tupleKeyHash (intKind P w))).Nodup:=by
 unfold List.Nodup at d ⊢;rw[AX];refine d.imp_of_mem fun{a b} ha hb c e=>c ?_;rw[HG,HG] at e;exact h a (s a ha) b (s b hb) e
abbrev odd3:Ξ:=[[98,99],[],[3,2]]
structure Un(oo U:Ξ):Prop where
 ord:∀q∈oo,q∈U
 odd:∀q∈odd3,q∈U
 inj:HInj U
 len:U.length<=62
def Of{ab oo:Ξ}(h:Drawn ab)(hp:oo.Perm (canon ab)):Un oo (oo++odd3):=by
 obtain⟨f,g,b,hk⟩:=N6 h;have a:∀q∈oo++odd3,InK f g q:=fun q hq=>by
  rcases OW.mp hq with hq|hq
  ·obtain⟨c,h1,rfl⟩:=hk q (hp.mem_iff.mp hq)
   exact .inl ⟨c,h1,rfl⟩
  ·simp only[odd3,OT,P5,or_false] at hq
   rcases hq with rfl|rfl|rfl
   ·exact .inr ξ
   ·exact .inl ⟨[],N4,rfl⟩
   ·exact .inr ξ
 have d:=FY h;rw[<-CL] at d;exact⟨fun q hq=>PQ _ hq,fun q hq=>AQ _ hq,fun x hx y hy e=>N3 b (HH (a x hx)) (HH (a y hy)) e,by rw[Ap,hp.length_eq];simp;omega⟩
structure Gk(U:Ξ)(cs:Ch):Prop where
 nd:(ksC cs).Nodup
 u:∀q∈ksC cs,q∈U
def Gk.len{U:Ξ}{cs:Ch}(h:Gk U cs)(a:U.length<=62):cs.length<=62:=by
 have:=h.nd.length_le_of_subset h.u;rw[eR] at this;omega
def Gk.gd{U:Ξ}{cs:Ch}(h:Gk U cs)(a:U.length<=62):Gd cs:=⟨h.nd,by have:=h.len a;omega⟩
def Gk.hash{P:Program}{w:World}{U:Ξ}{cs:Ch}(h:Gk U cs)(i:HInj U):((ksC cs).map (tupleKeyHash (intKind P w))).Nodup:=i.nd h.nd h.u
def Gk.put{U:Ξ}{cs:Ch}(h:Gk U cs){q:List Int}(hq:q∈U)(n:Int):Gk U (bx cs q n):=⟨cI _ _ h.nd,fun x hx=>(Gq hx).elim (h.u x) fun e=>e▸hq⟩
def DV{cs ds:Ch}(s:ds.Sublist cs):(ksC ds).Sublist (ksC cs):=s.map _
def Gk.sub{U:Ξ}{cs ds:Ch}(h:Gk U cs)(s:ds.Sublist cs):Gk U ds:=⟨h.nd.sublist (DV s),fun x hx=>h.u x ((DV s).subset hx)⟩
def Lv:Nat->Ch->Prop
 |0,cs=>∀q∈ksC cs,q≠[]
 |1,cs=>2<=cs.length->∀c,cs[0]?=some c->c.1≠[]
 |_,_=>True
def Lv.up{k:Nat}{cs:Ch}(h:Lv k cs):Lv (k+1) cs:=by
 match k,h with
 |0,h=>exact fun _ c e=>h c.1 (KK.mpr ⟨c,Aj e,rfl⟩)
 |1,_=>trivial
 |k+2,_=>trivial
def Lv.one{k:Nat}(hk:k<=1){cs:Ch}(h:Lv k cs):2<=(ksC cs).length->∀l,(ksC cs)[0]?=some l->l≠[]:=fun h2 l e=>by
 rw[eR] at h2;unfold ksC at e;rw[Af] at e;obtain⟨c,a,rfl⟩:=OY.mp e
 match k,hk,h with
 |0,_,h=>exact h c.1 (KK.mpr ⟨c,Aj a,rfl⟩)
 |1,_,h=>exact h h2 c a
def Lv.put{k:Nat}{cs:Ch}(h:Lv k cs)(q:List Int)(n:Int):Lv (k+1) (bx cs q n):=by
 match k,h with
 |0,h=>
  intro h2 c e;cases cs with
  |nil=>
   have:(bx ([]:Ch) q n).length=1:=rfl;omega
  |cons d t=>
   have hd:=h d.1 (.head _);unfold bx at e;split at e
   ·rw[Aq,Qh] at e
    obtain rfl:=Ah e;split<;>exact hd
   ·rw[List.cons_append,Qh] at e
    obtain rfl:=Ah e;exact hd
 |1,_=>trivial
 |k+2,_=>trivial
def Lv.sub0{cs ds:Ch}(h:Lv 0 cs)(s:ds.Sublist cs):Lv 0 ds:=fun q hq=>h q ((DV s).subset hq)
def Lv.sub{k:Nat}{cs ds:Ch}(h:Lv k cs)(s:ds.Sublist cs):Lv (k+1) ds:=by
 match k,h with
 |0,h=>exact(Lv.sub0 h s).up
 |1,_=>trivial
 |k+2,_=>trivial
structure Wr(U:Ξ)(k:Nat)(r:RG):Prop where
 c:Gk U r.cs
 l:Lv k r.cs
 g:∀x,r.g=some x->Gk U x.2/\Lv k x.2
def Wr.gd{U:Ξ}{k:Nat}{r:RG}(h:Wr U k r)(a:U.length<=62):k8 r:=⟨h.c.gd a,fun x e=>(h.g x e).1.gd a⟩
def Wr.up{U:Ξ}{k:Nat}{r:RG}(h:Wr U k r):Wr U (k+1) r:=⟨h.c,h.l.up,fun x e=>⟨(h.g x e).1,(h.g x e).2.up⟩⟩
def Cpy(m r:RG):Prop:=m.hi=r.hi/\m.b=r.b/\m.d=r.d/\m.cs=r.cs/\m.g.map (·.2)=r.g.map (·.2)
def Cpy.wr{U:Ξ}{k:Nat}{m r:RG}(c:Cpy m r)(h:Wr U k r):Wr U k m:=by
 obtain⟨_,_,_,e,g⟩:=c;refine⟨by rw[e];exact h.c,by rw[e];exact h.l,fun x ex=>?_⟩;rw[ex] at g;cases eg:r.g with
 |none=>rw[eg] at g;cases g
 |some y=>
  rw[eg] at g;have:x.2=y.2:=Ah g;rw[this];exact h.g y eg
def Cpy.bar{oo:Ξ}{p:Int}{m r:RG}(c:Cpy m r):c_ oo p m↔c_ oo p r:=by
 obtain⟨e1,e2,e3,f,g⟩:=c;unfold c_;rw[e1,e2,e3,f];refine and_congr_right fun _=>or_congr (and_congr_right fun _=>and_congr_left fun _=>?_) ⟨fun⟨e,x,a,b,c,d⟩=>?_,fun⟨e,x,a,b,c,d⟩=>?_⟩
 ·constructor
  ·intro z;rw[z] at g
   cases h:r.g with
   |none=>rfl
   |some y=>rw[h] at g;cases g
  ·intro z;rw[z] at g
   cases h:m.g with
   |none=>rfl
   |some y=>rw[h] at g;cases g
 ·rw[b] at g
  cases h:r.g with
  |none=>rw[h] at g;cases g
  |some y=>
   rw[h] at g;have:x.2=y.2:=Ah g;exact⟨e,y,a,rfl,this▸c,this▸d⟩
 ·rw[b] at g
  cases h:m.g with
  |none=>rw[h] at g;cases g
  |some y=>
   rw[h] at g;have:y.2=x.2:=Ah g;exact⟨e,y,a,rfl,this▸c,this▸d⟩
def RgAt.lst{H:Hp}{r:RG}{a:Addr}{o:HO}{xs:List V}(h:RgAt H r)(ha:H a=some (.lst xs)):RgAt (upd H a o) r:=by
 obtain⟨h1,h2,c⟩:=h;have b:∀{d:Addr}{kvs:List (List Key×V)},Rd H d (.dT kvs)->Rd (upd H a o) d (.dT kvs):=fun{d kvs} h=>by
  rcases h with h|⟨ob,h⟩
  ·exact .inl (by rw[ae (cT h ha (by intro z;cases z))];exact h)
  ·exact .inr ⟨ob,by rw[ae (cT h ha (by intro z;cases z))];exact h⟩
 exact⟨by rw[ae (cT h1 ha (by intro z;cases z))];exact h1,b h2,fun x e=>b (c x e)⟩
section
variable{P:Program}{w:World}{K:Ae}{mg:Str->Option Value}{base:Heap}{f:Addr}{fd:FuncData}{Pt:Addr}
abbrev qu(P:Program)(w:World):List V->Hp->VK->Prop:=fun xs H Q=>∃(a:Addr)(kvs:List (List Key×V))(ab:Ξ),xs=[.ref a]/\Rd H a (.dT kvs)/\kvs.map (·.1)=ab.map (·.map Sum.inl)/\(ab.map (tupleKeyHash (intKind P w))).Nodup/\∀D,H D=none->Q (.ref D) (upd H D (.dT kvs))
abbrev qw(K:Ae)(P:Program)(w:World):TE:=ck (zH (fM K 0) (zH (fM K 1) (zH (fM K 2) (zH (hH (qu P w) (zH (fM K 3) bb)) (zH (wt (eI (bY (fun x y H Q=>y=.non/\Q (.bl (decide (x=.non))) H) (fM K 4) (tC .non))) (tC .non) (hH (qu P w) (zH (fM K 4) bb))) bb)))))
def Oh{H2:Hp}{S D:Addr}{L:List RG}{U:Ξ}{k0:Nat}{Q:VK}(hs:SqL K H2 S (L.map fun r=>V.ref r.t))(hr:∀r∈L,RgAt H2 r)(hw:∀r∈L,Wr U k0 r)(I:HInj U)(hz:L.length<=1000)(J:H2 D=none)(k:∀(H3:Hp)(M:List RG),Same H2 H3->H3 D=some (.lst (M.map fun r=>V.ref r.t))->Paired Cpy M L->(∀r∈M,RgAt H3 r)->Q (.ref D) H3):cG (dI K S) (zU 0) bT (qw K P w) [none] H2 D Q:=by
 have F:(L.map fun r=>V.ref r.t).length=L.length:=Ab _;refine zN (xs:=L.map fun r=>V.ref r.t) (fun j σ ys H3=>∃(v:Option V)(M:List RG),σ=[v]/\Same H2 H3/\H3 D=some (.lst ys)/\ys=(M.map fun r=>V.ref r.t)/\Paired Cpy M (L.take j)/\∀r∈M,RgAt H3 r) ?_ ?_ ?_ ?_
 ·exact⟨none,[],rfl,Same.new J,ac,rfl,.nil,(fun r hr=>nomatch hr)⟩
 ·rintro j σ ys H3 ⟨v,M,rfl,sm,i,rfl,_⟩
  exact sm.seq hs
 ·rintro j σ ys H3 x hx W hy ⟨v,M,rfl,sm,i,rfl,l,u⟩
  rw[Af] at hx;obtain⟨r,E,rfl⟩:=OY.mp hx;have G:=Aj E;have H:=hw r G;have fin:∀(m:RG)(p:Hp),Cpy m r->Same H3 p->RgAt p m->dN (L.map fun r=>V.ref r.t).length (fun j σ ys H3=>∃(v:Option V)(M:List RG),σ=[v]/\Same H2 H3/\H3 D=some (.lst ys)/\ys=(M.map fun r=>V.ref r.t)/\Paired Cpy M (L.take j)/\∀r∈M,RgAt H3 r) D j [some (.ref r.t)] (.ref m.t) p:=by
   intro m p N a O;have A:=a _ _ i;refine bi (by rw[F];exact zg ω) W hy A ⟨_,M++[m],rfl,(sm.trans a).then J,ac,by rw[Ao];rfl,?_,fun q hq=>?_⟩
   ·rw[AE E];exact Paired.snoc l N
   ·rcases OW.mp hq with hq|hq
    ·exact((u q hq).same a).lst A
    ·rw[OU.mp hq];exact O.lst A
  obtain⟨ht,X,Y⟩:=(hr r G).same sm;refine cw ⟨_,rfl,r.t,_,0,.int r.hi,rfl,rfl,SqT.of ht,rfl,_,rfl,r.t,_,1,.int r.b,rfl,rfl,SqT.of ht,rfl,_,rfl,r.t,_,2,oV r.d,rfl,rfl,SqT.of ht,rfl,_,rfl,r.t,_,3,.ref r.c,rfl,rfl,SqT.of ht,rfl,r.c,kvC r.cs,ksC r.cs,rfl,X,zY _,H.c.hash I,fun c' hc'=>?_⟩;have a:=Same.new (o:=.dT (kvC r.cs)) hc';cases eg:r.g with
  |none=>
   rw[eg] at ht;refine⟨_,rfl,r.t,_,4,.non,rfl,rfl,SqT.of (a _ _ ht),rfl,rfl,_,rfl,aK ⟨zg (by simp),fun t' f=>?_⟩⟩;have h:=Same.new (o:=.tup [.int r.hi,.int r.b,oV r.d,.ref c',.non]) f;refine fin ⟨t',c',r.hi,r.b,r.d,r.cs,none⟩ _ ⟨rfl,rfl,rfl,rfl,by rw[eg]⟩ (a.trans h) ⟨ac,.inl (h _ _ ac),fun x e=>nomatch e⟩
  |some x=>
   rw[eg] at ht;have fH:=Y x eg;refine⟨_,rfl,r.t,_,4,.ref x.1,rfl,rfl,SqT.of (a _ _ ht),rfl,rfl,_,rfl,aO ⟨_,rfl,r.t,_,4,.ref x.1,rfl,rfl,SqT.of (a _ _ ht),rfl,x.1,kvC x.2,ksC x.2,rfl,fH.same a,zY _,(H.g x eg).1.hash I,fun g' T=>⟨zg (by simp),fun t' f=>?_⟩⟩⟩;have h:=Same.new (o:=.dT (kvC x.2)) T;have C:=Same.new (o:=.tup [.int r.hi,.int r.b,oV r.d,.ref c',.ref g']) f;refine fin ⟨t',c',r.hi,r.b,r.d,r.cs,some (g',x.2)⟩ _ ⟨rfl,rfl,rfl,rfl,by rw[eg];rfl⟩ ((a.trans h).trans C) ⟨ac,.inl (C _ _ (h _ _ ac)),fun y e=>?_⟩;obtain rfl:=Ah e;exact .inl (C _ _ ac)
 ·rintro σ ys H3 ⟨v,M,rfl,sm,i,rfl,l,u⟩
  rw[F,take_all] at l;exact k H3 M sm i l u
def vK(K:Ae):Sp:=fun vs H Q _=>∃(D:Addr)(L:List RG)(U:Ξ)(k0:Nat),vs=[.ref D]/\SqL K H D (L.map fun r=>V.ref r.t)/\(∀r∈L,RgAt H r)/\(∀r∈L,Wr U k0 r)/\HInj U/\L.length<=1000/\
 ∀(E:Addr)(M:List RG) H',Same H H'->H E=none->H' E=some (.lst (M.map fun r=>V.ref r.t))->Paired Cpy M L->(∀r∈M,RgAt H' r)->Q (.ref E) H'
def Oi:zr ["told"] ["told"] (zh DU):=⟨rfl,rfl,rfl,δ,rfl,δ,δ⟩
def Oj(F:Fun K "_law_copy" "_law_copy" DU f fd)(d:mg "dict"=none):FnOk P w K mg base aG 1 f fd ["told"] (vK K):=by
 refine F.ok Oi (fun vs H Q E h=>?_) (fun cdv A outer s H vs Q E hr h=>?_)
 ·obtain⟨D,L,U,k0,rfl,_⟩:=h;rfl
 ·obtain⟨D,L,U,k0,rfl,c,o,hw,p,hz,k⟩:=h
  refine⟨_,zi (zq (zv ["told"] ["bar"] [none] (zI (pv 0)) (fun a C s₀ H₀ ex=>zk (i:=0) (cv ["bar"]) rfl (Or.inl rfl)) (fun a C s₀ H₀ ex=>zP)
    (fun a C s₀ H₀ ex=>dL (zc (zB zG (pv 0) zf (fun _ _=>rfl)) (zc (zB zG (pv 0) zf (fun _ _=>rfl)) (zc (zB zG (pv 0) zf (fun _ _=>rfl)) (zc (zp ss rfl d k9 (zc (zB zG (pv 0) zf (fun _ _=>rfl)) zd)) (zc (ww (zn hE (zB zG (pv 0) zf (fun _ _=>rfl)) ee (au _)) ee (zp ss rfl d k9 (zc (zB zG (pv 0) zf (fun _ _=>rfl)) zd))) zd))))))
    (hfr:=cY δ) (te:=qw K P w))),?_⟩
  exact⟨_,rfl,D,rfl,⟨_,c⟩,fun E b=>zE (Oh c o hw p hz b fun H3 M e g j l=>k E M H3 e b g j l)⟩
end
def qx{ns:List Int}{r:Int}(a:0<=r)(h1:r<ns.length):∃z,z∈ns/\e8 (ns.map V.int) r=some (.int z):=by
 obtain⟨n,rfl⟩:=O1 a;have e:ns[n]?=some ns[n]:=Ai ω;exact⟨ns[n],Bf _,fz (by rw[Af,e];rfl)⟩
def HL{as:List Addr}{r:Int}(b:0<=r)(h1:r<as.length):∃(j:Nat)(a:Addr),as[j]?=some a/\r=(j:Int)/\e8 (as.map V.ref) r=some (.ref a):=by
 obtain⟨n,rfl⟩:=O1 b;have e:as[n]?=some as[n]:=Ai ω;exact⟨n,as[n],e,rfl,fz (by rw[Af,e];rfl)⟩
def Ol(cs:Ch)(q:List Int):(bq (kvC cs) (q.map Sum.inl)).isSome=decide (q∈ksC cs):=by
 unfold bq;rw[QV]
 by_cases h:q∈ksC cs
 ·rw[RM h,List.find?_isSome]
  obtain⟨c,hc,rfl⟩:=KK.mp h;exact⟨_,KK.mpr ⟨c,hc,rfl⟩,RM rfl⟩
 ·rw[RN h]
  rw[List.find?_eq_none.mpr ?_]
  ·rfl
  intro kv hk e;have e:=RO e;obtain⟨c,hc,rfl⟩:=KK.mp hk;exact h (by rw[<-eJ.mp e];exact KK.mpr ⟨c,hc,rfl⟩)
def Om{H:Hp}{a:List (List Int×Addr)}{l:Ξ}{as:List Addr}(hp:∀q∈a,q∈l.zip as)(ht:Tps H as l):Tps H (a.map (·.2)) (a.map (·.1)):=by
 induction a with
 |nil=>exact .nil
 |cons q a ih=>
  refine .cons ?_ (ih fun x hx=>hp x (As _ hx));obtain⟨i,e⟩:=OV.mp (hp q Av);obtain⟨e1,e2⟩:=PK.mp e;obtain⟨r,g1,g2⟩:=ht.get e2;rw[e1] at g1;obtain rfl:=Ah g1;exact g2
def HM{cs:Ch}(i:Nat):(cs.eraseIdx i).Sublist cs:=P8 cs i
abbrev HN:List Str:=["box","chain","order","prime","found","keys","way","piece"]
def nP:zr HN ["box","chain","order","prime"] (zh gY):=⟨rfl,rfl,rfl,δ,rfl,δ,δ⟩
section
variable{P:Program}{w:World}{K:Ae}{mg:Str->Option Value}{base:Heap}{f:Addr}{fd:FuncData}{Pt:Addr}
def lj:Sp:=fun vs H Q _=>∃(p d l:Addr)(as:List Addr)(oo U:Ξ)(cs:Ch)(pr:Int)(k0:Nat),vs=[.ref p,.ref d,.ref l,.int pr]/\zK H p/\Rd H d (.dT (kvC cs))/\Gk U cs/\Lv k0 cs/\k0<=1/\H l=some (.lst (as.map V.ref))/\Tps H as oo/\oo≠[]/\oo.length<=60/\Un oo U/\
 ∀D a H',zD p H H'->zK H' p->H D=none->H' D=some (.dT (kvC a))->Gk U a->Lv (k0+1) a->Q (.ref D) H'
structure Tn(p D LK:Addr)(ks:List Addr)(ls:Ξ)(U:Ξ)(cs:Ch)(H H2:Hp):Prop where
 sb:zD p H H2
 hb:zK H2 p
 hD:H2 D=some (.dT (kvC cs))
 hK:H2 LK=some (.lst (ks.map V.ref))
 ht:Tps H2 ks ls
def Tn.draw{p D a:Addr}{ks:List Addr}{ls U:Ξ}{cs:Ch}{H H2 H3:Hp}(t:Tn p D a ks ls U cs H H2)(sb:zD p H2 H3)(hb:zK H3 p):Tn p D a ks ls U cs H H3:=by
 have nd:D≠p:=fun e=>by obtain⟨x,y,h,_⟩:=t.hb;rw[<-e,t.hD] at h;cases h
 exact⟨t.sb.trans sb,hb,sb _ _ nd t.hD,sb _ _ (t.hb.ne t.hK) t.hK,sb.tps t.hb t.ht⟩
def Tn.same{p D a:Addr}{ks:List Addr}{ls U:Ξ}{cs:Ch}{H H2 H3:Hp}(t:Tn p D a ks ls U cs H H2)(s:Same H2 H3):Tn p D a ks ls U cs H H3:=⟨t.sb.trans (zD.of s),t.hb.same s,s _ _ t.hD,s _ _ t.hK,s.tps t.ht⟩
def On(F:Fun K "_law_chain_turned" "_law_chain_turned" gY f fd)(B:Bt mg)(di:mg "dict"=none)(Ct:Cl P w K mg base aG "_law_take" ["box","most"] 1 gJ):FnOk P w K mg base aG 2 f fd ["box","chain","order","prime"] lj:=by
 refine F.ok nP (fun vs H Q E h=>?_) (fun cdv A outer s H vs Q E hr h=>?_)
 ·obtain⟨p,d,l,as,oo,U,cs,pr,k0,rfl,_⟩:=h;rfl
 ·obtain⟨p,d,l,as,oo,U,cs,pr,k0,rfl,hb,hd,gk,lv,fB,hl,ho,hne,ir,un,k⟩:=h
  have hu:=ev hr;have aq:=hr.units;have lc:=gk.len un.len;have nY:=ho.length;have qE:=O9.mpr hne;have R5:∃tr,PSs (b0 aG P w K mg base HN "_law_chain_turned" (zh gY) f cdv A outer s H E).nox (List.drop 5 (zT gY)) tr/\
    ∀(D g a:Addr)(ks:List Addr)(ls:Ξ)(q:List Int)(S:Int)(H2:Hp),H D=none->Tn p D g ks ls U cs H H2->Tp H2 a q->q∈U->
     tr {nx:=fun _ H'=>Q .non H',rt:=Q} [some (.ref p),some (.ref d),some (.ref l),some (.int pr),some (.ref D),some (.ref g),some (.int S),some (.ref a)] H2:=by
   refine⟨_,ze (zR (PW.pt (Eh (zn db (pv 6) zf (au _)) (Eg (wa (ro hu (pv 7) (pv 4)) (by with_unfolding_all rfl)))))
     (zi (eY (Oe aq (pv 4) (pv 7) ⟨rfl,rfl,rfl,rfl⟩)))
     (zi (zR (zn db (pv 6) zf (au _))
      (zi (fO hu (pv 4) (zB zG (dL (zc (dL (zc zf (zc zf zd))) (zc (dL zd) (zc (dL (zc zf (zc zf zd))) zd)))) (zy Ct hr rfl ax (zc (pv 0) (zc zf zd))) (fun _ _=>rfl)) zf rfl))
      (zi (fO hu (pv 4) (pv 7) (zB zL (zV (zc zf (zc (zx iW (pv 3) zf) (zc (pv 3) (zc zf (zc (lN lP zf) (zc (zx dq (pv 3) zf) zd))))))) (zy Ct hr rfl ax (zc (pv 0) (zc zf zd))) (fun _ _=>rfl)) rfl)))))
    (zi (zq (pv 4))),?_⟩
   intro D g a ks ls q S H2 bF t ha hq;have nD:D≠p:=fun e=>by obtain⟨x,y,h,_⟩:=t.hb;rw[<-e,t.hD] at h;cases h
   have M:∀H2,Tn p D g ks ls U cs H H2->Tp H2 a q->n4 (eI (bY lS (ay 6) (tC (.int 4))))
     (za (ay 4) (bY (gC K) (ck (zH (ck (zH (tC (.int 98)) (zH (tC (.int 99)) bb))) (zH (ck bb) (zH (ck (zH (tC (.int 3)) (zH (tC (.int 2)) bb))) bb)))) (kb gJ [] E0 (zH (ay 0) (zH (tC (.int 3)) bb)))) (tC (.int 1)))
     (za (ay 4) (ay 7) (bY (oB K) (ot (zH (tC (.int 1)) (zH (bY (eu fun i j=>.int (i-j)) (ay 3) (tC (.int 1))) (zH (ay 3) (zH (tC (.int 0)) (zH (qU (rU fun i=>.int (-i)) (tC (.int 1))) (zH (bY (eu fun i j=>.int (i+j)) (ay 3) (tC (.int 1))) bb))))))) (kb gJ [] E0 (zH (ay 0) (zH (tC (.int 6)) bb)))))
     {nx:=n3 (ay 4) {nx:=fun _ H'=>Q .non H',rt:=Q},rt:=Q} [some (.ref p),some (.ref d),some (.ref l),some (.int pr),some (.ref D),some (.ref g),some (.int S),some (.ref a)] H2:=by
    intro H2 t ha;have fin:∀(H3:Hp)(b:Addr)(x:List Int)(n:Int),zD p H H3->zK H3 p->H3 D=some (.dT (kvC cs))->Tp H3 b x->x∈U->Q (.ref D) (upd H3 D (.dT (putK (kvC cs) (x.map Sum.inl) (.int n)))):=fun H3 b x n bh aR af hx t_=>by
     rw[kT];exact k D _ _ (bh.then bF) (aR.upd nD) bF ac (gk.put t_ n) (lv.put x n)
    refine⟨_,rfl,rfl,_,rfl,bQ (fun e=>?_) (fun e=>?_)⟩
    ·refine⟨_,rfl,zg (by simp),fun I h1=>⟨zg (by simp),fun O h2=>⟨zg (by simp),fun G h3=>⟨zg (by simp),fun T hT=>?_⟩⟩⟩⟩
     have Y:=Same.new (o:=.tup [.int 98,.int 99]) h1;have s2:=Same.new (o:=.tup []) h2;have W:=Same.new (o:=.tup [.int 3,.int 2]) h3;have s4:=Same.new (o:=.tup [.ref I,.ref O,.ref G]) hT;have q1:Tp _ I [98,99]:=((s2.trans W).trans s4) _ _ ac;have q2:Tp _ O []:=(W.trans s4) _ _ ac;have q3:Tp _ G [3,2]:=s4 _ _ ac;have tT:=t.same (((Y.trans s2).trans W).trans s4);have mS:=ac (H:=upd (upd (upd H2 I (.tup [.int 98,.int 99])) O (.tup [])) G (.tup [.int 3,.int 2])) (a:=T) (o:=.tup [.ref I,.ref O,.ref G]);generalize upd (upd (upd (upd H2 I (.tup [.int 98,.int 99])) O (.tup [])) G (.tup [.int 3,.int 2])) T (.tup [.ref I,.ref O,.ref G])=H4 at q1 q2 q3 tT mS;refine⟨_,rfl,p,3,rfl,tT.hb,ξ,ξ,fun r N r0 r1 J bj=>?_⟩;have c:=tT.draw J bj;have mv:=J _ _ (tT.hb.net mS) mS;have r2:r=0\/r=1\/r=2:=ω
     have w5:∀{b:Addr}{x:List Int},Tp H4 b x->Tp N b x:=fun h=>J _ _ (tT.hb.net h) h;have lz:(kvC cs).length<sizeLine:=by rw[zA];exact zX ω
     rcases r2 with rfl|rfl|rfl
     ·exact⟨T,_,0,.ref I,rfl,rfl,SqT.of mv,rfl,D,_,rfl,DPut.t (k:=[98,99].map Sum.inl) c.hD (eF (w5 q1)) lz,⟨_,rfl,fin N I [98,99] 1 c.sb c.hb c.hD (w5 q1) (un.odd _ ξ)⟩⟩
     ·exact⟨T,_,1,.ref O,rfl,rfl,SqT.of mv,rfl,D,_,rfl,DPut.t (k:=([]:List Int).map Sum.inl) c.hD (eF (w5 q2)) lz,⟨_,rfl,fin N O [] 1 c.sb c.hb c.hD (w5 q2) (un.odd _ ξ)⟩⟩
     ·exact⟨T,_,2,.ref G,rfl,rfl,SqT.of mv,rfl,D,_,rfl,DPut.t (k:=[3,2].map Sum.inl) c.hD (eF (w5 q3)) lz,⟨_,rfl,fin N G [3,2] 1 c.sb c.hb c.hD (w5 q3) (un.odd _ ξ)⟩⟩
    ·refine⟨_,rfl,_,_,rfl,rfl,_,rfl,_,rfl,_,rfl,_,_,rfl,rfl,zg (by simp),fun VL iZ=>?_⟩
     have Y:=Same.new (o:=.lst ([1,pr-1,pr,0,-1,pr+1].map V.int)) iZ;have I:=t.same Y;have iB:=Y.tp ha;have gO:=ac (H:=H2) (a:=VL) (o:=.lst ([1,pr-1,pr,0,-1,pr+1].map V.int));have nV:VL≠p:=by obtain⟨x,y,h,_⟩:=t.hb;exact Ne.symm (zj h iZ)
     refine⟨_,rfl,p,6,rfl,I.hb,ξ,ξ,fun r N r0 r1 J bj=>?_⟩;have c:=I.draw J bj;have jy:Tp N a q:=J _ _ (I.hb.net iB) iB;obtain⟨z,_,ez⟩:=qx (ns:=[1,pr-1,pr,0,-1,pr+1]) r0 r1;exact⟨VL,_,_,_,rfl,rfl,SqL.of (J _ _ nV gO),ez,_,rfl,_,rfl,D,_,rfl,DPut.t (k:=q.map Sum.inl) c.hD (eF jy) (by rw[zA];exact zX ω),⟨_,rfl,fin N a q z c.sb c.hb c.hD jy hq⟩⟩
   refine⟨_,rfl,rfl,_,rfl,bQ (fun e=>?_) (fun e=>M H2 t ha)⟩;refine⟨_,rfl,_,rfl,D,_,rfl,.inr ⟨kvC cs,q.map Sum.inl,a,.inl t.hD,rfl,eF ha,rfl⟩,_,rfl,?_⟩;rw[Ol]
   by_cases X:q∈ksC cs
   ·rw[RM X]
    refine aK ⟨_,rfl,D,rfl,.inr ⟨_,.inl t.hD⟩,_,rfl,kvC cs,q.map Sum.inl,a,t.hD,rfl,eF ha,?_,fun i v ei=>⟨_,rfl,?_⟩⟩
    ·rw[zY];exact KK.mpr ⟨q,X,rfl⟩
    ·rw[show(kvC cs).eraseIdx i=kvC (cs.eraseIdx i) from DPo.jZ _ _ _]
     exact k D _ _ (t.sb.then bF) (t.hb.upd nD) bF ac (gk.sub (HM i)) (lv.sub (HM i))
   ·rw[RN X]
    exact aO (M H2 t ha)
  obtain⟨rn,pz,bo⟩:=R5;refine⟨_,ze (zo (i:=4) nP.nd rfl (Or.inl rfl) (zp ss rfl di k9 (zc (pv 1) zd)))
   (ze (zo (i:=5) nP.nd rfl (Or.inl rfl) (zm (Oc aq) rfl B.sorted mP (zc (zp (zM rfl) rfl B.list eD (zc (pv 4) zd)) zd)))
   (ze (zo (i:=6) nP.nd rfl (Or.inl rfl) (zy Ct hr rfl ax (zc (pv 0) (zc zf zd))))
   (ze (zo (i:=7) nP.nd rfl (Or.inl rfl) (zB zL (pv 2) (zy Ct hr rfl ax (zc (pv 0) (zc (zm zl rfl B.len cV (zc (pv 2) zd)) zd))) (fun _ _=>rfl)))
   (ze (zR (PW.pt (Eh (zn (Cu aq) (pv 5) (zV zd) (au _)) (Eg (zn lU (pv 6) zf (au _)))))
    (zi (zo (i:=7) nP.nd rfl (Or.inl rfl) (zB zL (pv 5) (zy Ct hr rfl ax (zc (pv 0) (zc (zm zl rfl B.len cV (zc (pv 5) zd)) zd))) (fun _ _=>rfl)))) zt) pz)))),?_⟩
  refine⟨_,rfl,d,kvC cs,ksC cs,rfl,hd,zY _,gk.hash un.inj,fun D hD=>?_⟩;have Y:=Same.new (o:=.dT (kvC cs)) hD;refine⟨_,rfl,D,kvC cs,rfl,.inl ac,fun bs pb L hL=>?_⟩;have s2:=Same.new (o:=.lst (bs.map V.ref)) hL;have tb:=s2.tps (jL pb);refine⟨L,bs,ksC cs,rfl,SqL.of ac,tb,by rw[eR];omega,lv.one fB,fun g C cu dg uU=>?_⟩;have W:=Same.new (o:=.lst (C.map fun q=>V.ref q.2)) uU;have tz:=W.tps (Om (fun q hq=>cu.mem_iff.mp hq) tb);have kin:∀q∈C.map (·.1),q∈U:=fun q hq=>by
   obtain⟨x,hx,rfl⟩:=KK.mp hq;exact gk.u _ (Qp (cu.mem_iff.mp hx:(x.1,x.2)∈_)).1
  have klen:C.length<=62:=by
   have:=cu.length_eq;rw[PU,eR] at this;omega
  have l9:=ac (H:=upd (upd H D (.dT (kvC cs))) L (.lst (bs.map V.ref))) (a:=g) (o:=.lst (C.map fun q=>V.ref q.2));have l9:upd (upd (upd H D (.dT (kvC cs))) L (.lst (bs.map V.ref))) g (.lst (C.map fun q=>V.ref q.2)) g=some (.lst ((C.map (·.2)).map V.ref)):=by rw[l9,Ak];rfl
  have de:=(Y.trans s2).trans W;have G:Tn p D g (C.map (·.2)) (C.map (·.1)) U cs H _:=⟨zD.of de,hb.same de,(s2.trans W) _ _ ac,l9,tz⟩;have ga:=de _ _ hl;have iu:=de.tps ho;generalize upd (upd (upd H D (.dT (kvC cs))) L (.lst (bs.map V.ref))) g (.lst (C.map fun q=>V.ref q.2))=H3 at G ga iu;refine⟨_,rfl,p,5,rfl,G.hb,ξ,ξ,fun S H4 _ _ aI aN=>?_⟩;have t4:=G.draw aI aN;have jP:=aI _ _ (G.hb.ne ga) ga;have vx:=aI.tps G.hb iu;refine⟨_,rfl,_,rfl,_,rfl,l,_,rfl,.inl (SqL.of jP),p,_,rfl,t4.hb,by rw[Ab];omega,by rw[Ab];omega,fun r N r0 r1 J bj=>?_⟩;have c:=t4.draw J bj;have x8:=J _ _ (t4.hb.ne jP) jP;have om:=J.tps t4.hb vx;rw[Ab] at r1;obtain⟨j,a,ea,rfl,sR⟩:=HL r0 r1;obtain⟨q,eq,hq⟩:=om.get ea;refine⟨l,_,_,_,rfl,rfl,SqL.of x8,sR,?_⟩;have se:=un.ord q (Aj eq);have qW:(C.map (·.2)).length=C.length:=Ab _;refine⟨_,rfl,zg (by simp),fun T hT=>.inr ⟨g,T,C.map (·.2),[],C.map (·.1),[],rfl,rfl,SqL.of ((Same.new hT) _ _ c.hK),(Same.new hT).tps c.ht,SqL.of ac,.nil,_,rfl,?_⟩⟩;have t6:=c.same (Same.new (o:=.lst []) hT);have lQ:=(Same.new (o:=.lst []) hT).tp hq;generalize upd N T (.lst [])=H6 at t6 lQ;rw[RJ rfl]
  by_cases hn:C.map (·.1)=[]
  ·rw[RM hn]
   exact aO (bo D g a _ _ q S H6 hD t6 lQ se)
  rw[RN hn];have hpos:0<C.length:=by
   have:=O9.mpr hn
   rwa [Ab] at this
  refine aK ⟨_,rfl,_,_,rfl,rfl,_,rfl,bQ (fun e=>?_) (fun e=>bo D g a _ _ q S H6 hD t6 lQ se)⟩;refine⟨_,rfl,_,rfl,_,rfl,g,_,rfl,.inl (SqL.of t6.hK),p,_,rfl,t6.hb,by rw[Ab,qW];omega,by rw[Ab,qW];omega,fun r7 H7 tJ qA eC df=>?_⟩;have t7:=t6.draw eC df;rw[Ab] at qA;obtain⟨j7,a7,xV,rfl,mO⟩:=HL tJ qA;obtain⟨q7,xj,vS⟩:=t7.ht.get xV;exact⟨g,_,_,_,rfl,rfl,SqL.of t7.hK,mO,bo D g a7 _ _ q7 S H7 hD t7 vS (kin q7 (Aj xj))⟩
end
abbrev bD:Stmt:=top 47
abbrev iJ:List Str:=["box","told","order","prime","found","at","high","born","dead","chain","filling","way","other","piece"]
def dW:zr iJ ["box","told","order","prime"] (zh bD):=⟨rfl,rfl,rfl,δ,rfl,δ,δ⟩
def HP(r:RG):∀(L:List RG)(j:Nat),((L.set j r).filterMap (·.d)).length<=(L.filterMap (·.d)).length+1
 |[],_=>by simp
 |x::L,0=>by
  rw[List.set_cons_zero,A6,A6];cases r.d<;>cases x.d<;>simp<;>omega
 |x::L,j+1=>by
  have:=HP r L j;rw[List.set_cons_succ,A6,A6];cases x.d<;>simp<;>omega
def gg(L:List RG):(ends L).length=L.length+(L.filterMap (·.d)).length:=by unfold ends;rw[Ap,Ab]
def Oo(L:List RG)(j:Nat)(r:RG):(ends (L.set j r)).length<=(ends L).length+1:=by
 rw[gg,gg,List.length_set];have:=HP r L j;omega
def ends_app(L:List RG)(r:RG):(ends (L++[r])).length<=(ends L).length+2:=by
 rw[gg,gg,Ap,List.filterMap_append,Ap];have:(List.filterMap (·.d) [r]).length<=1:=AC (List.length_filterMap_le _ _) (by simp);simp at this ⊢;omega
def Op(L:List RG)(j:Nat):(ends (L.eraseIdx j)).length<=(ends L).length:=by
 rw[gg,gg];have s:=P8 L j;have h1:=s.length_le;have h2:=(s.filterMap (·.d)).length_le;omega
def RgAt.sb{H H':Hp}{p:Addr}{r:RG}(h:RgAt H r)(s:zD p H H')(b:zK H p):RgAt H' r:=by
 obtain⟨h1,h2,c⟩:=h;obtain⟨x,y,hp,_⟩:=id b;have a:∀{d:Addr}{kvs:List (List Key×V)},Rd H d (.dT kvs)->Rd H' d (.dT kvs):=fun{d kvs} h=>by
  rcases h with h|⟨ob,h⟩
  ·exact .inl (s _ _ (cT h hp (by intro z;cases z)) h)
  ·exact .inr ⟨ob,s _ _ (cT h hp (by intro z;cases z)) h⟩
 exact⟨s _ _ (b.net h1) h1,a h2,fun x e=>a (c x e)⟩
structure Pr(U:Ξ)(k:Nat)(H:Hp)(c:Addr)(cs:Ch):Prop where
 rd:Rd H c (.dT (kvC cs))
 gk:Gk U cs
 lv:Lv k cs
def Pr.sb{U:Ξ}{k:Nat}{H H':Hp}{p c:Addr}{cs:Ch}(h:Pr U k H c cs)(s:zD p H H')(b:zK H p):Pr U k H' c cs:=by
 obtain⟨x,y,hp,_⟩:=id b;refine⟨?_,h.gk,h.lv⟩;rcases h.rd with h|⟨ob,h⟩
 ·exact .inl (s _ _ (cT h hp (by intro z;cases z)) h)
 ·exact .inr ⟨ob,s _ _ (cT h hp (by intro z;cases z)) h⟩
def Pr.same{U:Ξ}{k:Nat}{H H':Hp}{c:Addr}{cs:Ch}(h:Pr U k H c cs)(s:Same H H'):Pr U k H' c cs:=⟨h.rd.same s,h.gk,h.lv⟩
def Pr.up{U:Ξ}{k:Nat}{H:Hp}{c:Addr}{cs:Ch}(h:Pr U k H c cs):Pr U (k+1) H c cs:=⟨h.rd,h.gk,h.lv.up⟩
abbrev fN(U:Ξ)(k:Nat)(H:Hp)(g:Option (Addr×Ch)):Prop:=∀x,g=some x->Pr U k H x.1 x.2
structure Ts(p FO l:Addr)(as:List Addr)(oo U:Ξ)(L:List RG)(k:Nat)(H H2:Hp):Prop where
 sb:zD p H H2
 hb:zK H2 p
 hF0:H FO=none
 hF:H2 FO=some (.lst (L.map fun r=>V.ref r.t))
 hl:H2 l=some (.lst (as.map V.ref))
 ho:Tps H2 as oo
 rw:∀r∈L,RgAt H2 r
 wr:∀r∈L,Wr U k r
section
variable{p FO l:Addr}{as:List Addr}{oo U:Ξ}{L:List RG}{k:Nat}{H H2 H3:Hp}
def Ts.nF(t:Ts p FO l as oo U L k H H2):FO≠p:=by
 have:=t.hF;rw[show(L.map fun r=>V.ref r.t)=(L.map (·.t)).map V.ref by rw[Ak];rfl] at this;exact t.hb.ne this
def Ts.draw(t:Ts p FO l as oo U L k H H2)(sb:zD p H2 H3)(hb:zK H3 p):Ts p FO l as oo U L k H H3:=
 ⟨t.sb.trans sb,hb,t.hF0,sb _ _ t.nF t.hF,sb _ _ (t.hb.ne t.hl) t.hl,sb.tps t.hb t.ho,fun r hr=>(t.rw r hr).sb sb t.hb,t.wr⟩
def Ts.same(t:Ts p FO l as oo U L k H H2)(s:Same H2 H3):Ts p FO l as oo U L k H H3:=
 ⟨t.sb.trans (zD.of s),t.hb.same s,t.hF0,s _ _ t.hF,s _ _ t.hl,s.tps t.ho,fun r hr=>(t.rw r hr).same s,t.wr⟩
def Ts.up(t:Ts p FO l as oo U L k H H2):Ts p FO l as oo U L (k+1) H H2:=⟨t.sb,t.hb,t.hF0,t.hF,t.hl,t.ho,t.rw,fun r hr=>(t.wr r hr).up⟩
def Ts.put(t:Ts p FO l as oo U L k H H2)(a:l≠FO){M:List RG}(b:∀r∈M,RgAt H2 r)(hw:∀r∈M,Wr U k r):Ts p FO l as oo U M k H (upd H2 FO (.lst (M.map fun r=>V.ref r.t))):=
 ⟨t.sb.then t.hF0,t.hb.upd t.nF,t.hF0,ac,by rw[ae a];exact t.hl,Tps.upd t.ho t.hF (by intro xs z;cases z),fun r hr=>(b r hr).lst t.hF,hw⟩
end
def ll(p:Int)(h:Ch)(c:List Int×Int):Ch:=bx h c.1 ((aC h c.1+c.2)%p)
def DW{U:Ξ}{p:Int}:∀(b h:Ch),Gk U h->(∀c∈b,c.1∈U)->Gk U (b.foldl (ll p) h)
 |[],_,g,_=>g
 |c::b,h,g,hb=>DW b _ (g.put (hb c (.head _)) _) fun d hd=>hb d (.tail _ hd)
def HQ{p:Int}:∀(b h:Ch),Lv 0 h->(∀c∈b,c.1≠[])->Lv 0 (b.foldl (ll p) h)
 |[],_,g,_=>g
 |c::b,h,g,hb=>HQ b _ (fun q hq=>(Gq hq).elim (g q) fun e=>e▸hb c (.head _)) fun d hd=>hb d (.tail _ hd)
def HR{n j:Nat}(h:j<n):gv n (j:Int)=some j:=by
 unfold gv;rw[RJ ω,RJ ω,Pa]
def Oq{n j:Nat}(h:j<n):seqIndex? (j:Int) n=some j:=(yr (HR h)).1
section
variable{P:Program}{w:World}{K:Ae}{mg:Str->Option Value}{base:Heap}{f:Addr}{fd:FuncData}{Pt:Addr}
def qz:Sp:=fun vs H Q _=>∃(p S l:Addr)(as:List Addr)(oo U:Ξ)(L:List RG)(pr:Int)(k0:Nat),vs=[.ref p,.ref S,.ref l,.int pr]/\zK H p/\H S=some (.lst (L.map fun r=>V.ref r.t))/\(∀r∈L,RgAt H r)/\(∀r∈L,Wr U k0 r)/\L≠[]/\(ends L).length<=60/\k0<=1/\H l=some (.lst (as.map V.ref))/\Tps H as oo/\oo≠[]/\oo.length<=60/\Un oo U/\isP pr/\
 ∀D L' H',zD p H H'->zK H' p->H D=none->H' D=some (.lst (L'.map fun r=>V.ref r.t))->(∀r∈L',RgAt H' r)->(∀r∈L',Wr U (k0+1) r)->(ends L').length<=(ends L).length+3->Q (.ref D) H'
variable{cdv:Value}{A:Around}{outer:List Env}{s:Shared}{H:Hp}{Q:VK}{E:XK}{p S l:Addr}{as:List Addr}{oo U:Ξ}{L:List RG}{pr:Int}{k0:Nat}
abbrev HS(p:Addr)(U:Ξ)(L:List RG)(k0:Nat)(H:Hp)(Q:VK):Prop:=∀D L' H',zD p H H'->zK H' p->H D=none->H' D=some (.lst (L'.map fun r=>V.ref r.t))->(∀r∈L',RgAt H' r)->(∀r∈L',Wr U (k0+1) r)->(ends L').length<=(ends L).length+3->Q (.ref D) H'
def DX(J:H l=some (.lst (as.map V.ref)))(k:HS p U L k0 H Q):∃C,PSs (b0 aG P w K mg base iJ "_law_turned" (zh bD) f cdv A outer s H E).nox (List.drop 12 (zT bD)) C/\
    ∀(FO c:Addr)(M:List RG)(j:Nat)(hi b:Int)(d:Option Int)(cs:Ch)(g:Option (Addr×Ch))(u:Int)(v y:Option V)(H2:Hp),Ts p FO l as oo U M (k0+1) H H2->j<M.length->(ends M).length<=(ends L).length+2->Pr U (k0+1) H2 c cs->fN U (k0+1) H2 g->
     C {nx:=fun _ H'=>Q .non H',rt:=Q} [some (.ref p),some (.ref S),some (.ref l),some (.int pr),some (.ref FO),some (.int j),some (.int hi),some (.int b),some (oV d),some (.ref c),some (gV g),some (.int u),v,y] H2:=by
 have F:∀{FO:Addr},H FO=none->l≠FO:=fun h=>zj J h;refine⟨_,ze (n6 (dL (zc (pv 6) (zc (pv 7) (zc (pv 8) (zc (pv 9) (zc (pv 10) zd)))))) (wF (pv 4) (pv 5) set_list)) (zi (zq (pv 4))),?_⟩;intro FO c M j hi b d cs g u v y H2 t D he hc i;refine⟨_,rfl,_,rfl,_,rfl,_,rfl,_,rfl,zg (by simp),fun T hT=>?_⟩;have q:=Same.new (o:=.tup [.int hi,.int b,oV d,.ref c,gV g]) hT;have a:=t.same q;refine⟨_,rfl,_,rfl,FO,_,_,j,rfl,rfl,a.hF,HR (by rw[Ab];exact D),⟨_,rfl,?_⟩⟩;have G:(M.map fun r=>V.ref r.t).set j (.ref T)=((M.set j ⟨T,c,hi,b,d,cs,g⟩).map fun r=>V.ref r.t):=by rw[List.map_set]
 rw[G];have I:RgAt (upd H2 T (.tup [.int hi,.int b,oV d,.ref c,gV g])) ⟨T,c,hi,b,d,cs,g⟩:=⟨ac,(hc.same q).rd,fun x e=>((i x e).same q).rd⟩;have mem:∀r∈M.set j ⟨T,c,hi,b,d,cs,g⟩,r∈M\/r=⟨T,c,hi,b,d,cs,g⟩:=fun r hr'=>List.mem_or_eq_of_mem_set hr';have tp:=a.put (F t.hF0) (M:=M.set j ⟨T,c,hi,b,d,cs,g⟩) (fun r hr'=>(mem r hr').elim (a.rw r) fun e=>e▸I) (fun r hr'=>(mem r hr').elim (a.wr r) fun e=>e▸⟨hc.gk,hc.lv,fun x e=>⟨(i x e).gk,(i x e).lv⟩⟩);have:=Oo M j ⟨T,c,hi,b,d,cs,g⟩;exact k FO _ _ tp.sb tp.hb t.hF0 tp.hF tp.rw tp.wr ω
end
section
variable{P:Program}{w:World}{K:Ae}{mg:Str->Option Value}{base:Heap}{f:Addr}{fd:FuncData}{Pt:Addr}
variable{cdv:Value}{A:Around}{outer:List Env}{s:Shared}{H:Hp}{Q:VK}{E:XK}{p S l:Addr}{as:List Addr}{oo U:Ξ}{L:List RG}{pr:Int}{k0:Nat}
def Os{p:Int}{k0:Nat}(hk:k0<=1){a b:Ch}(c:Lv k0 a)(d:Lv k0 b):Lv (k0+1) ((b.foldl (ll p) a).filter c7):=by
 match k0,hk,c,d with
 |0,_,l0,l1=>exact(Lv.sub0 (HQ b a l0 fun x hx=>l1 _ (KK.mpr ⟨x,hx,rfl⟩)) PX).up
 |1,_,_,_=>trivial
def DY(hr:Room 2 (A.deeper (QG "_law_turned" (zh bD) s⁻¹ f cdv)))(B:Bt mg)(di:mg "dict"=none)(Ct:Cl P w K mg base aG "_law_take" ["box","most"] 1 gJ)(hl:H l=some (.lst (as.map V.ref)))(k:HS p U L k0 H Q)(eT:L≠[])(dU:(ends L).length<=60)(fB:k0<=1)(un:Un oo U)(hp:isP pr):∃tr,PSs (b0 aG P w K mg base iJ "_law_turned" (zh bD) f cdv A outer s H E).nox (List.drop 11 (zT bD)) tr/\
    ∀(FO c:Addr)(j:Nat)(hi b:Int)(d:Option Int)(cs:Ch)(g:Option (Addr×Ch))(v:Int)(H2:Hp),Ts p FO l as oo U L k0 H H2->j<L.length->Pr U (k0+1) H2 c cs->(v≠3->Lv k0 cs)->fN U (k0+1) H2 g->
     tr {nx:=fun _ H'=>Q .non H',rt:=Q} [some (.ref p),some (.ref S),some (.ref l),some (.int pr),some (.ref FO),some (.int j),some (.int hi),some (.int b),some (oV d),some (.ref c),some (gV g),some (.int v),none,none] H2:=by
 have hu:=ev hr;have aq:=hr.units;have h2:=hp.pr.1.two;have sH:0<pr:=ω
 have jJ:=O9.mpr eT;have dX:L.length<=60:=by rw[gg] at dU;omega
 have lF:∀{FO:Addr},H FO=none->l≠FO:=fun h=>zj hl h;obtain⟨wC,wI,cP⟩:=DX (P:=P) (w:=w) (K:=K) (mg:=mg) (base:=base) (f:=f) (cdv:=cdv) (A:=A) (outer:=outer) (s:=s) (E:=E) (S:=S) (pr:=pr) (as:=as) (oo:=oo) hl k;refine⟨_,ze (zR (zn db (pv 11) zf (au _))
   (ze (zo (i:=12) dW.nd rfl (Or.inl rfl) (zB zL (pv 4) (zy Ct hr rfl ax (zc (pv 0) (zc (zm zl rfl B.len cV (zc (pv 4) zd)) zd))) (fun _ _=>rfl)))
   (ze (zo (i:=9) dW.nd rfl (Or.inr rfl) (zp ss rfl di k9 (zc (pv 9) zd)))
   (ze (d0 AM rfl (zI (zp (zM rfl) rfl B.list eD (zc (zB zG (pv 12) zf (fun _ _=>rfl)) zd))) (zk (i:=13) dW.nd rfl (Or.inl rfl))
    (zi (fO hu (pv 9) (pv 13) (zx fy (zx dq (Bh hu (pv 9) (pv 13) zf ⟨rfl,rfl,rfl,rfl⟩) (zQ hu (zB zG (pv 12) zf (fun _ _=>rfl)) (pv 13) (fun _ _=>rfl))) (pv 3)) rfl)))
   (ze (zo (i:=9) dW.nd rfl (Or.inr rfl) (zp (pP rfl aq) rfl di k9 (zc (zv iJ ["piece","chain"] [none,some 9] (zI (zp (zM rfl) rfl B.list eD (zc (pv 9) zd))) (fun _ _ _ _ _=>zk (i:=0) (cv ["piece","chain"]) rfl (Or.inl rfl))
     (fun _ _ _ _ _=>i9 (zn og (zQ hu (pv 1) (pv 0) (fun _ _=>rfl)) zf (au _))) (fun _ _ _ _ _=>dL (zc (pv 0) (zc (zQ hu (pv 1) (pv 0) (fun _ _=>rfl)) zd))) (hfr:=b_ (zh bD) δ) (tc:=DN) (te:=DO)) zd)))
   (zi (zR (zn db (zy Ct hr rfl ax (zc (pv 0) (zc zf zd))) zf (au _))
    (zi (eY (ia OZ PN PP l3 (pv 4) (zc (pv 12) zd)))) zt)))))) zt) wI,?_⟩
 intro FO c j hi b d cs g v H2 t hj hc hw hg;refine⟨_,rfl,rfl,_,rfl,bQ (fun e=>?_) (fun e=>cP FO c L j hi b d cs g v none none H2 t.up hj ω hc hg)⟩;have e7:v=7:=by have:=RO e;injection this
 have lv0:Lv k0 cs:=hw ω;have T:(L.map fun r=>V.ref r.t).length=L.length:=Ab _;refine⟨_,rfl,_,rfl,_,rfl,FO,_,rfl,.inl (SqL.of t.hF),p,_,rfl,t.hb,by rw[T];omega,by rw[T];omega,fun r H3 r0 r1 bh aR=>?_⟩;rw[T] at r1;have W:=t.draw bh aR;have ip:=hc.sb bh t.hb;have iX:fN U (k0+1) H3 g:=fun x ex=>(hg x ex).sb bh t.hb;obtain⟨i2,rfl⟩:=O1 r0;have rF:i2<L.length:=ω
 have eo:L[i2]?=some L[i2]:=Ai rF;have Y:=Bf rF;generalize L[i2]=o at eo Y;obtain⟨qT,qj,BJ⟩:=W.rw o Y;have wo:=W.wr o Y;refine⟨FO,_,_,.ref o.t,rfl,rfl,SqL.of W.hF,fz (by rw[Af,eo];rfl),?_⟩;refine⟨_,rfl,c,kvC cs,ksC cs,rfl,ip.rd,zY _,ip.gk.hash un.inj,fun D hD=>?_⟩;have s4:=Same.new (o:=.dT (kvC cs)) hD;have bI:=ac (H:=H3) (a:=D) (o:=.dT (kvC cs));generalize upd H3 D (.dT (kvC cs))=H4 at s4 bI;refine⟨_,rfl,o.t,_,3,.ref o.c,rfl,rfl,SqT.of (s4 _ _ qT),rfl,o.c,kvC o.cs,rfl,qj.same s4,fun bs pb LL qc=>?_⟩;have s5:=Same.new (o:=.lst (bs.map V.ref)) qc;have wX:=s4.trans s5;have tb:=s5.tps (jL pb);have yy:D≠LL:=zj bI qc;have eO:=tb.length;rw[eR] at eO;have xF:=wo.c.len un.len;have sj:∀c∈o.cs,c.1∈U:=fun x hx=>wo.c.u _ (KK.mpr ⟨x,hx,rfl⟩);have uK:∀i,Gk U ((o.cs.take i).foldl (ll pr) cs):=fun i=>DW _ _ hc.gk fun x hx=>sj x (Qs hx);refine⟨LL,rfl,⟨_,SqL.of ac⟩,iU (K:=K) (a:=LL) (xs:=bs.map V.ref) (fun i σ G=>∃(iI:Option V),σ=[some (.ref p),some (.ref S),some (.ref l),some (.int pr),some (.ref FO),some (.int j),some (.int hi),some (.int b),some (oV d),some (.ref D),some (gV g),some (.int v),some (.ref o.t),iI]/\Same H3 G/\G LL=some (.lst (bs.map V.ref))/\Tps G bs (ksC o.cs)/\G D=some (.dT (kvC ((o.cs.take i).foldl (ll pr) cs))))
  ⟨none,rfl,wX,ac,tb,s5 _ _ bI⟩ (fun i σ G _ ⟨_,_,_,h,_⟩=>SqL.of h) ?_ ?_⟩
 ·rintro i x σ G hx ⟨iI,rfl,I,cM,nI,q⟩
  obtain⟨q0,wO,rfl⟩:=dz hx;obtain⟨ps,bK,bZ⟩:=nI.get wO;unfold ksC at bK;rw[Af] at bK;obtain⟨cc,ec,rfl⟩:=OY.mp bK;have J:=Aj ec;have gl:=(uK i).len un.len;refine⟨_,rfl,D,rfl,.inr ⟨_,.inl q⟩,_,rfl,_,.inr ⟨_,cc.1.map Sum.inl,q0,.inl q,rfl,eF bZ,rfl⟩,?_⟩;rw[CW];refine⟨_,rfl,o.t,_,3,.ref o.c,rfl,rfl,SqT.of (I _ _ qT),rfl,_,rfl,o.c,.int cc.2,rfl,.inr ⟨kvC o.cs,cc.1.map Sum.inl,q0,qj.same I,rfl,eF bZ,(fU wo.c.nd cc J).symm⟩,_,_,rfl,rfl,_,rfl,_,_,rfl,rfl,sH,_,rfl,_,rfl,D,_,rfl,DPut.t (k:=cc.1.map Sum.inl) q (eF bZ) (zX (by rw[zA];omega)),⟨_,rfl,I.then hD,?_,Tps.upd nI q (by intro xs z;cases z),?_⟩⟩
  ·rw[ae (Ne.symm yy)];exact cM
  ·rw[ac,kT,AE ec,Qa,PD,List.foldl_nil]
   unfold ll
   rfl
 ·rintro σ G ⟨iI,rfl,I,cM,nI,q⟩
  rw[Ab,eO,take_all] at q;have N:=DW (p:=pr) o.cs cs hc.gk sj;have lX:=Os (p:=pr) fB lv0 wo.l;generalize o.cs.foldl (ll pr) cs=X at q N lX;have xl:=N.len un.len;refine⟨_,rfl,D,kvC X,rfl,.inl q,fun es pe M' ml=>⟨M',rfl,⟨_,SqL.of ac⟩,fun D3 af=>zE (Hw ac ((Same.new ml).tps (jL pe)) (Same.new ml _ _ q) N.nd ω af fun H9 ts s9 gu vX=>?_)⟩⟩;refine⟨D3,ts,kvC (X.filter c7),rfl,SqL.of gu,DP vX,fun R hR=>?_⟩;rw[C4,DM _ (N.sub PX).nd];have m_:=((I.trans (Same.new ml)).trans s9).trans (Same.new (o:=.dT (kvC (X.filter c7))) hR);have jj:=ac (H:=H9) (a:=R) (o:=.dT (kvC (X.filter c7)));generalize upd H9 R (.dT (kvC (X.filter c7)))=n8 at m_ jj;have kW:=W.same m_;have nM:Pr U (k0+1) n8 R (X.filter c7):=⟨.inl jj,N.sub PX,lX⟩;have mF:fN U (k0+1) n8 g:=fun x ex=>(iX x ex).same m_;refine⟨_,rfl,p,3,rfl,kW.hb,ξ,ξ,fun Bs O _ _ gM o9=>⟨rfl,_,rfl,?_⟩⟩;have y:=kW.draw gM o9;have jE:=nM.sb gM kW.hb;have jd:fN U (k0+1) O g:=fun x ex=>(mF x ex).sb gM kW.hb;refine bQ (fun e=>?_) (fun e=>cP FO R L j hi b d _ g v _ _ O y.up hj ω jE jd);refine⟨_,rfl,.inl ⟨rfl,_,SqL.of y.hF⟩,_,rfl,FO,_,_,rfl,rfl,y.hF,by rw[T];exact zX ω,?_⟩;rw[show(L.map fun r=>V.ref r.t)++[.ref o.t]=((L++[o]).map fun r=>V.ref r.t) by rw[Ao];rfl];have mem:∀r∈L++[o],r∈L:=fun r hr'=>(OW.mp hr').elim id fun h=>OU.mp h▸Y;have u9:=y.up.put (lF t.hF0) (M:=L++[o]) (fun r hr'=>y.rw r (mem r hr')) (fun r hr'=>(y.wr r (mem r hr')).up);have pZ:∀{c:Addr}{cs:Ch},Pr U (k0+1) O c cs->Pr U (k0+1) (upd O FO (.lst ((L++[o]).map fun r=>V.ref r.t))) c cs:=fun{c cs} h=>by
   refine⟨?_,h.gk,h.lv⟩;rcases h.rd with h|⟨ob,h⟩
   ·exact .inl (by rw[ae (cT h y.hF (by intro z;cases z))];exact h)
   ·exact .inr ⟨ob,by rw[ae (cT h y.hF (by intro z;cases z))];exact h⟩
  exact cP FO R (L++[o]) j hi b d _ g v _ _ _ u9 (by rw[Ap];omega) (ends_app L o) (pZ jE) fun x ex=>pZ (jd x ex)
end
section
variable{P:Program}{w:World}{K:Ae}{mg:Str->Option Value}{base:Heap}{f:Addr}{fd:FuncData}{Pt:Addr}
def Ot(F:Fun K "_law_turned" "_law_turned" bD f fd)(B:Bt mg)(di:mg "dict"=none)(Ct:Cl P w K mg base aG "_law_take" ["box","most"] 1 gJ)(Cc:Cl P w K mg base aG "_law_chain_turned" ["box","chain","order","prime"] 2 lj):FnOk P w K mg base aG 3 f fd ["box","told","order","prime"] qz:=by
 refine F.ok dW (fun vs H Q E h=>?_) (fun cdv A outer s H vs Q E hr h=>?_)
 ·obtain⟨p,S,l,as,oo,U,L,pr,k0,rfl,_⟩:=h;rfl
 ·obtain⟨p,S,l,as,oo,U,L,pr,k0,rfl,hb,hS,cR,x6,eT,dU,fB,hl,ho,jn,ir,un,hp,k⟩:=h
  have hu:=ev hr;have aq:=hr.units;have h2:=hp.pr.1.two;have sH:0<pr:=ω
  have nY:=ho.length;have jJ:=O9.mpr eT;have dX:L.length<=60:=by rw[gg] at dU;omega
  have lF:∀{FO:Addr},H FO=none->l≠FO:=fun h=>zj hl h;obtain⟨sV,tH,fZ⟩:=DY (P:=P) (w:=w) (K:=K) (base:=base) (f:=f) (cdv:=cdv) (A:=A) (outer:=outer) (s:=s) (E:=E) (S:=S) (as:=as) hr B di Ct hl k eT dU fB un hp;have vg:∃J,PSs (b0 aG P w K mg base iJ "_law_turned" (zh bD) f cdv A outer s H E).nox (List.drop 10 (zT bD)) J/\
    ∀(FO c:Addr)(j:Nat)(hi b:Int)(d:Option Int)(cs:Ch)(g:Option (Addr×Ch))(u:Int)(H2:Hp),Ts p FO l as oo U L k0 H H2->j<L.length->Pr U (k0+1) H2 c cs->(u≠3->Lv k0 cs)->fN U (k0+1) H2 g->
     J {nx:=fun _ H'=>Q .non H',rt:=Q} [some (.ref p),some (.ref S),some (.ref l),some (.int pr),some (.ref FO),some (.int j),some (.int hi),some (.int b),some (oV d),some (.ref c),some (gV g),some (.int u),none,none] H2:=by
   refine⟨_,ze (zR (zn db (pv 11) zf (au _)) (ze (eY (ia OZ PySem.F.slot_list_pop PySem.F.type_list_pop Ji (pv 4) (zc (pv 5) zd))) (zi (zq (pv 4)))) zt) tH,?_⟩;intro FO c j hi b d cs g u H2 t C hc hw O;refine⟨_,rfl,rfl,_,rfl,bQ (fun e=>?_) (fun e=>fZ FO c j hi b d cs g u H2 t C hc hw O)⟩;refine⟨_,rfl,.inl ⟨rfl,_,SqL.of t.hF⟩,_,rfl,FO,_,_,j,.ref L[j].t,rfl,rfl,t.hF,ω,ω,Oq (by rw[Ab];exact C),by rw[Af,Ai C];rfl,⟨_,rfl,?_⟩⟩;rw[DPo.jZ];have sub:=P8 L j;have tp:=t.put (lF t.hF0) (M:=L.eraseIdx j) (fun r hr'=>t.rw r (sub.subset hr')) (fun r hr'=>t.wr r (sub.subset hr'));have:=Op L j;exact k FO _ _ tp.sb tp.hb t.hF0 tp.hF tp.rw (fun r hr'=>(tp.wr r hr').up) ω
  obtain⟨wA,xJ,dF⟩:=vg;have R9:∃J,PSs (b0 aG P w K mg base iJ "_law_turned" (zh bD) f cdv A outer s H E).nox (List.drop 9 (zT bD)) J/\
    ∀(FO c:Addr)(j:Nat)(hi b:Int)(d:Option Int)(cs:Ch)(g:Option (Addr×Ch))(u:Int)(H2:Hp),Ts p FO l as oo U L k0 H H2->j<L.length->Pr U (k0+1) H2 c cs->(u≠3->Lv k0 cs)->fN U (k0+1) H2 g->
     J {nx:=fun _ H'=>Q .non H',rt:=Q} [some (.ref p),some (.ref S),some (.ref l),some (.int pr),some (.ref FO),some (.int j),some (.int hi),some (.int b),some (oV d),some (.ref c),some (gV g),some (.int u),none,none] H2:=by
   refine⟨_,ze (zR (zn db (pv 11) zf (au _)) (zi (zo (i:=10) dW.nd rfl (Or.inl rfl) ee)) zt) xJ,?_⟩;intro FO c j hi b d cs g u H2 t C hc hw O;refine⟨_,rfl,rfl,_,rfl,bQ (fun e=>?_) (fun e=>dF FO c j hi b d cs g u H2 t C hc hw O)⟩;exact dF FO c j hi b d cs none u H2 t C hc hw fun x ex=>nomatch ex
  obtain⟨ua,p9,fC⟩:=R9;have R8:∃J,PSs (b0 aG P w K mg base iJ "_law_turned" (zh bD) f cdv A outer s H E).nox (List.drop 8 (zT bD)) J/\
    ∀(FO c:Addr)(j:Nat)(hi b:Int)(d:Option Int)(cs:Ch)(g:Option (Addr×Ch))(u:Int)(H2:Hp),Ts p FO l as oo U L k0 H H2->j<L.length->Pr U (k0+1) H2 c cs->(u≠3->Lv k0 cs)->fN U k0 H2 g->
     J {nx:=fun _ H'=>Q .non H',rt:=Q} [some (.ref p),some (.ref S),some (.ref l),some (.int pr),some (.ref FO),some (.int j),some (.int hi),some (.int b),some (oV d),some (.ref c),some (gV g),some (.int u),none,none] H2:=by
   refine⟨_,ze (zR (zn db (pv 11) zf (au _)) (zi (zo (i:=10) dW.nd rfl (Or.inl rfl) (zy Cc hr rfl ax (zc (pv 0) (zc (ww (zn hE (pv 10) ee (au _)) i7 (pv 10)) (zc (pv 2) (zc (pv 3) zd))))))) zt) p9,?_⟩;intro FO c j hi b d cs g u H2 t C hc hw O;refine⟨_,rfl,rfl,_,rfl,bQ (fun e=>?_) (fun e=>fC FO c j hi b d cs g u H2 t C hc hw fun x ex=>(O x ex).up)⟩;have go:∀(H3:Hp)(x:Addr)(xs:Ch),Ts p FO l as oo U L k0 H H3->Pr U (k0+1) H3 c cs->Pr U k0 H3 x xs->lj ([.ref p,.ref x,.ref l,.int pr]++[]) H3 (fun v H'=>ua {nx:=fun _ H'=>Q .non H',rt:=Q} [some (.ref p),some (.ref S),some (.ref l),some (.int pr),some (.ref FO),some (.int j),some (.int hi),some (.int b),some (oV d),some (.ref c),some v,some (.int u),none,none] H') E0:=fun H3 x xs G ip lT=>
    ⟨p,x,l,as,oo,U,xs,pr,k0,rfl,G.hb,lT.rd,lT.gk,lT.lv,fB,G.hl,G.ho,jn,ir,un,fun D dB X I Y bF bI nZ nQ=>
     fC FO c j hi b d cs (some (D,dB)) u X (G.draw I Y) C (ip.sb I G.hb) hw fun y ey=>by obtain rfl:=Ah ey;exact⟨.inl bI,nZ,nQ⟩⟩
   cases g with
   |none=>
    refine⟨_,rfl,_,rfl,rfl,_,rfl,aK fun N hN=>?_⟩;have W:=Same.new (o:=.dT []) hN;refine⟨_,rfl,_,rfl,go _ N [] (t.same W) (hc.same W) ⟨.inl ac,⟨O6,fun q hq=>nomatch hq⟩,?_⟩⟩
    match k0,fB with
    |0,_=>exact fun q hq=>nomatch hq
    |1,_=>exact fun h2=>absurd h2 (by simp)
   |some x=>
    exact⟨_,rfl,_,rfl,rfl,_,rfl,aO ⟨_,rfl,_,rfl,_,rfl,go H2 x.1 x.2 t hc (O x rfl)⟩⟩
  obtain⟨BU,p8,fE⟩:=R8;have R7:∃J,PSs (b0 aG P w K mg base iJ "_law_turned" (zh bD) f cdv A outer s H E).nox (List.drop 7 (zT bD)) J/\
    ∀(FO c:Addr)(j:Nat)(hi b:Int)(d:Option Int)(cs:Ch)(g:Option (Addr×Ch))(u:Int)(H2:Hp),Ts p FO l as oo U L k0 H H2->j<L.length->Pr U k0 H2 c cs->fN U k0 H2 g->
     J {nx:=fun _ H'=>Q .non H',rt:=Q} [some (.ref p),some (.ref S),some (.ref l),some (.int pr),some (.ref FO),some (.int j),some (.int hi),some (.int b),some (oV d),some (.ref c),some (gV g),some (.int u),none,none] H2:=by
   refine⟨_,ze (zR (zn db (pv 11) zf (au _)) (zi (zo (i:=9) dW.nd rfl (Or.inr rfl) (zy Cc hr rfl ax (zc (pv 0) (zc (pv 9) (zc (pv 2) (zc (pv 3) zd))))))) zt) p8,?_⟩;intro FO c j hi b d cs g u H2 t C hc O;refine⟨_,rfl,rfl,_,rfl,bQ (fun e=>?_) (fun e=>fE FO c j hi b d cs g u H2 t C hc.up (fun _=>hc.lv) O)⟩;have e3:u=3:=by have:=RO e;injection this
   exact⟨_,rfl,_,rfl,_,rfl,_,rfl,p,c,l,as,oo,U,cs,pr,k0,rfl,t.hb,hc.rd,hc.gk,hc.lv,fB,t.hl,t.ho,jn,ir,un,fun D jT X I Y bF bI nZ nQ=>
    fE FO D j hi b d jT g u X (t.draw I Y) C ⟨.inl bI,nZ,nQ⟩ (fun z=>absurd e3 z) fun x ex=>(O x ex).sb I t.hb⟩
  obtain⟨wQ,p7,fY⟩:=R7;have R6:∃J,PSs (b0 aG P w K mg base iJ "_law_turned" (zh bD) f cdv A outer s H E).nox (List.drop 6 (zT bD)) J/\
    ∀(FO c:Addr)(j:Nat)(hi b:Int)(d:Option Int)(cs:Ch)(g:Option (Addr×Ch))(u:Int)(H2:Hp),Ts p FO l as oo U L k0 H H2->j<L.length->Pr U k0 H2 c cs->fN U k0 H2 g->
     J {nx:=fun _ H'=>Q .non H',rt:=Q} [some (.ref p),some (.ref S),some (.ref l),some (.int pr),some (.ref FO),some (.int j),some (.int hi),some (.int b),some (oV d),some (.ref c),some (gV g),some (.int u),none,none] H2:=by
   refine⟨_,ze (zR (zn db (pv 11) zf (au _)) (zi (zo (i:=8) dW.nd rfl (Or.inl rfl) (zB zL (zV (zc ee (zc (pv 7) (zc (zm zl rfl B.len cV (zc (pv 2) zd)) (zc (zx iW (zm zl rfl B.len cV (zc (pv 2) zd)) zf) (zc (lN lP zf) zd)))))) (zy Ct hr rfl ax (zc (pv 0) (zc zf zd))) (fun _ _=>rfl)))) zt) p7,?_⟩;intro FO c j hi b d cs g u H2 t C hc O;refine⟨_,rfl,rfl,_,rfl,bQ (fun e=>?_) (fun e=>fY FO c j hi b d cs g u H2 t C hc O)⟩;refine⟨_,rfl,_,rfl,l,_,rfl,.inl (SqL.of t.hl),_,rfl,l,_,rfl,.inl (SqL.of t.hl),_,_,rfl,rfl,_,rfl,zg (by simp),fun T gO=>?_⟩;have W:=Same.new (o:=.lst [oV none,oV (some b),oV (some ((as.map V.ref).length:Int)),oV (some (((as.map V.ref).length:Int)-1)),oV (some (-1))]) gO;have G:=t.same W;have nV:T≠p:=by obtain⟨x,y,h,_⟩:=t.hb;exact Ne.symm (zj h gO)
   refine⟨_,rfl,p,5,rfl,G.hb,ξ,ξ,fun r X r0 r1 I Y=>?_⟩;have jV:=I _ _ nV (ac (H:=H2) (a:=T) (o:=.lst [oV none,oV (some b),oV (some ((as.map V.ref).length:Int)),oV (some (((as.map V.ref).length:Int)-1)),oV (some (-1))]));have go:∀d',wQ {nx:=fun _ H'=>Q .non H',rt:=Q} [some (.ref p),some (.ref S),some (.ref l),some (.int pr),some (.ref FO),some (.int j),some (.int hi),some (.int b),some (oV d'),some (.ref c),some (gV g),some (.int u),none,none] X:=fun d'=>
    fY FO c j hi b d' cs g u X (G.draw I Y) C ((hc.same W).sb I G.hb) fun x ex=>((O x ex).same W).sb I G.hb
   have r2:r=0\/r=1\/r=2\/r=3\/r=4:=ω
   rcases r2 with rfl|rfl|rfl|rfl|rfl
   ·exact⟨T,_,0,_,rfl,rfl,SqL.of jV,rfl,go _⟩
   ·exact⟨T,_,1,_,rfl,rfl,SqL.of jV,rfl,go _⟩
   ·exact⟨T,_,2,_,rfl,rfl,SqL.of jV,rfl,go _⟩
   ·exact⟨T,_,3,_,rfl,rfl,SqL.of jV,rfl,go _⟩
   ·exact⟨T,_,4,_,rfl,rfl,SqL.of jV,rfl,go _⟩
  obtain⟨yx,p6,cr⟩:=R6;have R5:∃J,PSs (b0 aG P w K mg base iJ "_law_turned" (zh bD) f cdv A outer s H E).nox (List.drop 5 (zT bD)) J/\
    ∀(FO c:Addr)(j:Nat)(hi b:Int)(d:Option Int)(cs:Ch)(g:Option (Addr×Ch))(u:Int)(H2:Hp),Ts p FO l as oo U L k0 H H2->j<L.length->Pr U k0 H2 c cs->fN U k0 H2 g->
     J {nx:=fun _ H'=>Q .non H',rt:=Q} [some (.ref p),some (.ref S),some (.ref l),some (.int pr),some (.ref FO),some (.int j),some (.int hi),some (.int b),some (oV d),some (.ref c),some (gV g),some (.int u),none,none] H2:=by
   refine⟨_,ze (zR (zn db (pv 11) zf (au _)) (zi (zo (i:=7) dW.nd rfl (Or.inl rfl) (zB zL (zV (zc (zx dq (pv 7) zf) (zc (zx iW (pv 7) zf) (zc (lN lP zf) (zc (zm zl rfl B.len cV (zc (pv 2) zd)) zd))))) (zy Ct hr rfl ax (zc (pv 0) (zc zf zd))) (fun _ _=>rfl)))) zt) p6,?_⟩;intro FO c j hi b d cs g u H2 t C hc O;refine⟨_,rfl,rfl,_,rfl,bQ (fun e=>?_) (fun e=>cr FO c j hi b d cs g u H2 t C hc O)⟩;refine⟨_,rfl,_,_,rfl,rfl,_,rfl,_,_,rfl,rfl,_,rfl,_,rfl,l,_,rfl,.inl (SqL.of t.hl),zg (by simp),fun T gO=>?_⟩;have W:=Same.new (o:=.lst ([b+1,b-1,-1,((as.map V.ref).length:Int)].map V.int)) gO;have G:=t.same W;have nV:T≠p:=by obtain⟨x,y,h,_⟩:=t.hb;exact Ne.symm (zj h gO)
   refine⟨_,rfl,p,4,rfl,G.hb,ξ,ξ,fun r X r0 r1 I Y=>?_⟩;obtain⟨z,_,ez⟩:=qx (ns:=[b+1,b-1,-1,((as.map V.ref).length:Int)]) r0 r1;exact⟨T,_,_,_,rfl,rfl,SqL.of (I _ _ nV (ac (H:=H2) (a:=T) (o:=.lst ([b+1,b-1,-1,((as.map V.ref).length:Int)].map V.int)))),ez,cr FO c j hi z d cs g u X (G.draw I Y) C ((hc.same W).sb I G.hb) fun x ex=>((O x ex).same W).sb I G.hb⟩
  obtain⟨rn,p5,bo⟩:=R5;refine⟨_,ze (zo (i:=4) dW.nd rfl (Or.inl rfl) (zp re rfl B.list eD (zc (pv 1) zd)))
   (ze (zo (i:=5) dW.nd rfl (Or.inl rfl) (zy Ct hr rfl ax (zc (pv 0) (zc (zm zl rfl B.len cV (zc (pv 4) zd)) zd))))
   (ze (n6 (zB zL (pv 4) (pv 5) (fun _ _=>rfl)) (iT rfl (zC (zk (i:=6) dW.nd rfl (Or.inl rfl)) (zC (zk (i:=7) dW.nd rfl (Or.inl rfl)) (zC (zk (i:=8) dW.nd rfl (Or.inl rfl)) (zC (zk (i:=9) dW.nd rfl (Or.inr rfl)) (zC (zk (i:=10) dW.nd rfl (Or.inl rfl)) iP)))))))
   (ze (zo (i:=11) dW.nd rfl (Or.inl rfl) (zy Ct hr rfl ax (zc (pv 0) (zc zf zd))))
   (ze (zR (zn db (pv 11) zf (au _)) (zi (zo (i:=6) dW.nd rfl (Or.inl rfl) (zx iW (zx dq (pv 6) zf) (zx gr zf (zy Ct hr rfl ax (zc (pv 0) (zc zf zd))))))) zt) p5)))),?_⟩
  refine⟨_,rfl,S,_,rfl,.inl (SqL.of hS),fun FO qr=>?_⟩;have s1:=Same.new (o:=.lst (L.map fun r=>V.ref r.t)) qr;have t1:Ts p FO l as oo U L k0 H (upd H FO (.lst (L.map fun r=>V.ref r.t))):=⟨zD.of s1,hb.same s1,qr,ac,s1 _ _ hl,s1.tps ho,fun r hr'=>(cR r hr').same s1,x6⟩;generalize upd H FO (.lst (L.map fun r=>V.ref r.t))=H1 at t1;have fI:(L.map fun r=>V.ref r.t).length=L.length:=Ab _;refine⟨_,rfl,_,rfl,FO,_,rfl,.inl (SqL.of t1.hF),p,_,rfl,t1.hb,by rw[fI];omega,by rw[fI];omega,fun r H2 r0 r1 eW a8=>?_⟩;rw[fI] at r1;have t2:=t1.draw eW a8;obtain⟨j,rfl⟩:=O1 r0;have C:j<L.length:=ω
  have eo:L[j]?=some L[j]:=Ai C;have fQ:=Bf C;generalize L[j]=o at eo fQ;obtain⟨uG,w6,wx⟩:=t2.rw o fQ;have wo:=t2.wr o fQ;refine⟨_,rfl,_,rfl,FO,_,_,.ref o.t,rfl,rfl,SqL.of t2.hF,fz (by rw[Af,eo];rfl),o.t,_,rfl,SqT.of uG,rfl,_,_,rfl,_,_,rfl,_,_,rfl,_,_,rfl,_,_,rfl,rfl,?_⟩;have uS:Pr U k0 H2 o.c o.cs:=⟨w6,wo.c,wo.l⟩;have xp:fN U k0 H2 o.g:=fun x ex=>⟨wx x ex,(wo.g x ex).1,(wo.g x ex).2⟩;refine⟨_,rfl,p,8,rfl,t2.hb,ξ,ξ,fun u H3 _ _ bh aR=>?_⟩;have G:=t2.draw bh aR;have rK:=uS.sb bh t2.hb;have qy:fN U k0 H3 o.g:=fun x ex=>(xp x ex).sb bh t2.hb;refine⟨_,rfl,rfl,_,rfl,bQ (fun e=>?_) (fun e=>bo FO o.c j o.hi o.b o.d o.cs o.g u H3 G C rK qy)⟩;refine⟨_,rfl,_,_,rfl,rfl,_,rfl,p,2,rfl,G.hb,ξ,ξ,fun r4 X _ _ I Y=>⟨_,_,rfl,rfl,.inl ⟨ξ,ξ⟩,_,_,rfl,rfl,?_⟩⟩;exact bo FO o.c j _ o.b o.d o.cs o.g u X (G.draw I Y) C (rK.sb I G.hb) fun x ex=>(qy x ex).sb I G.hb
end
end K65
end
section
namespace L2
open PySem PySem.Spec PyProof.Rows
section
variable{X:Cx}
def Ou(hu:X.A.units+64<cLine):cg X (AZ .NotEq) (fun x y H Q=>∃(l m:Addr)(xs:List V),x=.ref l/\y=.ref m/\SqL X.K H l xs/\SqL X.K H m []/\Q (.bl (decide (xs≠[]))) H):=by
 intro aa s σ H x y v u Q I c d h;obtain⟨l,m,xs,rfl,rfl,f,hm,q⟩:=h;cases c;cases d;obtain⟨ad,a,b,_⟩:=I.list f;obtain⟨i,g,p2,_⟩:=I.list hm;cases g;cases xs with
 |nil=>
  cases a;exact SeqAt.RcNeAt.lists (e:=fun _=>true) b.isList p2.isList rfl ω (fun j h1 h2=>absurd h1 (by simp)) X.prog X.w X.xe _ ⟨.bl _,H,I,rfl,q⟩
 |cons x xs=>
  have hz:=a.length;rw[RM (Ry _ _)] at q;refine SeqAt.RcNeAt.lists_lengths b.isList p2.isList ?_ ω X.prog X.w X.xe _ ⟨.bl _,H,I,rfl,q⟩;cases a
  rfl
def AT.list{A:Around}{aa:Ψ}{σ:St}{H:Hp}{s:Shared}{l m:Addr}{ts us:List Addr}(hu:A.units+96<cLine)(I:Inv X aa σ H s)(i:SqL X.K H l (ts.map V.ref))(hm:SqL X.K H m (us.map V.ref))(ha:Paired (AT H) ts us):SeqAt.EqAt A s (.ref l) (.ref m) true:=by
 by_cases e:l=m
 ·rw[e];exact .same _
 obtain⟨ad,d,f,_⟩:=I.list i;obtain⟨o,g,p2,_⟩:=I.list hm;obtain rfl:=aU d;obtain rfl:=aU g;have p:=AN ha;refine .of_refs e ?_;have:=SeqAt.RcAt.lists (A:=A) (e:=fun _=>true) f.isList p2.isList (by simp;omega) ω (fun j h1 h2=>by
  have b:j<ts.length:=by simpa using h1
  have c:j<us.length:=by simpa using h2
  have:∀{xs ys:List Addr},Paired (AT H) xs ys->∀{j:Nat}{x y:Addr},xs[j]?=some x->ys[j]?=some y->AT H x y:=fun{xs ys} h=>by
   induction h with
   |nil=>intro j x y e;simp at e
   |cons r t ih=>
    intro j x y ex a;cases j with
    |zero=>simp at ex a;subst ex;subst a;exact r
    |succ j=>exact ih (by simpa using ex) (by simpa using a)
  have:=AT.eqAt (A:=A.in1) (by show A.units+1+64<cLine;omega) I (this ha (Ai b) (Ai c))
  simpa using this)
 rw[OX.mpr (fun _ _=>rfl)] at this;exact this
def Ov(hu:X.A.units+128<cLine):cg X (AZ .NotEq) (fun x y H Q=>∃(L M l m d e:Addr)(as bs ts us:List Addr)(ab:Ξ),x=.ref L/\y=.ref M/\SqL X.K H L [.ref l,.ref d]/\SqL X.K H M [.ref m,.ref e]/\SqL X.K H l (as.map V.ref)/\Tps H as ab/\SqL X.K H m (bs.map V.ref)/\Tps H bs ab/\
  SqL X.K H d (ts.map V.ref)/\SqL X.K H e (us.map V.ref)/\Paired (AT H) ts us/\Q (.bl false) H):=by
 intro aa s σ H x y v u Q I b c h;obtain⟨L,M,l,m,d,e,as,bs,ts,us,ab,rfl,rfl,f,g,i,hp,hm,hq,hd,he,hc,q⟩:=h;cases b;cases c;obtain⟨ad,o,p,_⟩:=I.list f;obtain⟨r,C,p2,_⟩:=I.list g;have e1:ad=[.ref l,.ref d]:=aU (as:=[l,d]) o;have e2:r=[.ref m,.ref e]:=aU (as:=[m,e]) C;subst e1 e2;have D:SeqAt.EqAt X.A.in1 s (.ref l) (.ref m) true:=by
  have a:=Cn ab;have:=SeqAt.eqAt_reads _ _ X.A.in1 s _ _ _ _ (rB I i hp) (rB I hm hq) (SeqAt.canLay_of_shaped a) (SeqAt.canLay_of_shaped a) (SeqAt.room_of_shaped a (by show X.A.units+1+64<cLine;omega));rw[<-SeqAt.same_eq_eqv _ _ (SeqAt.noMix_of_shape (.list (.tuples .int)) rfl _ _ (rE _) (rE _)),show same (.list (ab.map fun ps=>PyData.tuple (ps.map AY))) (.list (ab.map fun ps=>PyData.tuple (ps.map AY)))=true from by unfold same;rw[Cq ab ab];exact RM rfl] at this;exact this
 have E:SeqAt.EqAt X.A.in1 s (.ref d) (.ref e) true:=AT.list (by show X.A.units+1+96<cLine;omega) I hd he hc;refine SeqAt.RcNeAt.lists (e:=fun _=>true) p.isList p2.isList rfl ω (fun j h1 h2=>?_) X.prog X.w X.xe _ ⟨.bl _,H,I,rfl,?_⟩
 ·have F:j<2:=h1
  rcases j with _|_|j
  ·exact D
  ·exact E
  ·omega
 ·exact q
end
end L2
end
section
namespace L2.Rm
open PySem PySem.Spec PySem.MeetsSeq PySem.SeqAt
open PySem.AutoSeq1 (wpAny_loadPart')
abbrev Pre(l:Addr)(ad:Array Value)(n:Nat)(x:Value)(e:Value->Bool)(j:Nat):PySem.Spec:=fun A R s=>
 s.heap.get? l=some {cls:=.type "list",dict:=none,data:=.seq ad n,slots:=#[]}/\(∀y,y∈ad->EqAt A.in1 s y x (e y))/\R (.ok (.ret .none)) {s with heap:=s.heap.update l (AO fun xs=>xs.eraseIdxIfInBounds j)}
section
variable{l:Addr}{ad:Array Value}{n:Nat}{x:Value}{e:Value->Bool}{j:Nat}
def Ow(f:j<ad.size)(v:e ad[j]=true)(hz:ad.size<=sizeLine)(k:Nat):∀i:Nat,j-i=k->i<=j->(∀m(hm:m<ad.size),i<=m->m<j->e ad[m]=false)->Meets (Builtin.«list.remove.loop» ⟨[.ref l,x,rawInt i],[]⟩) (Pre l ad n x e j):=by
 induction k with
 |zero=>
  intro i e1 e2 d prog w A R s h;obtain⟨g,o,p,q,r⟩:=s;obtain⟨c,hq,h⟩:=h;obtain rfl:i=j:=ω
  wp_walk using wpAny_loadPart' c
  rw[show ad[((i:Nat):Int).toNat]?=some ad[i] by simp[f]];refine Aa (hq _ (Array.getElem_mem f) prog w _ _ ?_);rw[v];have u:(ad.eraseIdxIfInBounds i).size<=sizeLine+1:=QW (AC (size_erased ad i) hz)
  wp_walk using (wpAny_updateSeq c rfl (hz:=hz) (_hz':=u)),wpAny_loadPart' c
  simpa using h
 |succ k ih=>
  intro i e1 e2 d prog w A R s h;obtain⟨g,o,p,q,r⟩:=s;obtain⟨c,hq,h⟩:=h;have lt:i<ad.size:=ω
  wp_walk using wpAny_loadPart' c
  rw[show ad[((i:Nat):Int).toNat]?=some ad[i] by simp[lt]];refine Aa (hq _ (Array.getElem_mem lt) prog w _ _ ?_);rw[d i lt (Ag _) ω]
  wp_walk
  rw[show((i:Int)+1)=((i+1:Nat):Int) by push_cast;rfl];refine⟨plainId_quiet plain_remove_loop _,Bd entry_remove_loop ?_⟩;rw[A2 plain_remove_loop _];exact ih (i+1) ω ω (fun m hm a b=>d m hm ω b) prog w A R _ ⟨c,hq,h⟩
def rm(c:j<ad.size)(d:e ad[j]=true)(f:∀m(hm:m<ad.size),m<j->e ad[m]=false)(hz:ad.size<=sizeLine):Meets (Builtin.«list.remove» ⟨[.ref l,x],[]⟩) (Pre l ad n x e j):=by
 intro prog w A R s h;obtain⟨g,i,o,p,q⟩:=s;obtain⟨a,hq,h⟩:=h
 wp_walk using wpAny_loadPart' a
 refine⟨plainId_quiet plain_remove_loop _,Bd entry_remove_loop ?_⟩;rw[A2 plain_remove_loop _];exact Ow c d hz _ 0 rfl (A1 _) (fun m hm _ b=>f m hm b) prog w A R _ ⟨a,hq,h⟩
end
end L2.Rm
namespace L2
open PySem PySem.Spec PyProof.Rows
def zlJ:V->List V->Hp->VK->Prop:=fun x vs H Q=>∃l a as ab ps j,x=.ref l/\vs=[.ref a]/\H l=some (.lst (List.map V.ref as))/\Tps H as ab/\Tp H a ps/\ab[j]?=some ps/\(∀m q,m<j->ab[m]?=some q->q≠ps)/\Q .non (upd H l (.lst ((as.eraseIdx j).map V.ref)))
def jZ{b c:Type}(f:b->c):∀(l:List b)(i:Nat),(l.eraseIdx i).map f=(l.map f).eraseIdx i
 |[],_=>rfl
 |_::_,0=>rfl
 |a::r,i+1=>by show f a::(r.eraseIdx i).map f=f a::(r.map f).eraseIdx i;rw[jZ f r i]
section
variable{X:Cx}
def Ox(hu:X.A.in1.units<cLine):lV X "list.remove" zlJ:=by
 intro aa s σ H x vs v us Q I g i h;obtain⟨l,a,as,ab,ps,j,rfl,rfl,c,ht,ha,d,p,q⟩:=h;cases g;obtain⟨u,rfl,w⟩:=i.one;cases w;obtain⟨z,ad,n,r,C,e⟩:=I.lstM c;obtain rfl:=aU r;have E:=ht.length;have G:j<ab.length:=(B5.mp d).1;have f:∀m(hm:m<(as.map Value.ref).toArray.size) q,ab[m]?=some q->jF H ps ((as.map Value.ref).toArray[m])=decide (q=ps):=fun m hm q hq=>by
  have b:m<as.length:=by simpa using hm
  obtain⟨D,e1,e2⟩:=ht.get (Ai b);rw[hq] at e1;cases e1;have:(as.map Value.ref).toArray[m]=.ref as[m]:=by simp
  rw[this];exact Cf e2
 refine call_meets F.slot_list_remove ⟨_,e,rfl⟩ F.entry_list_remove (F.args_list_remove_2 _ _)
  (Rm.rm (e:=jF H ps) (j:=j) (by simp;omega) (by rw[f j _ ps d];exact RM rfl) (fun m hm o=>?_) (by rw[Am];rw[Ab] at z C;omega)) ⟨e,fun y hy=>Ff I ha hu ht y (by simpa using hy),?_⟩
 ·have b:m<ab.length:=ω
  rw[f m hm _ (Ai b)];exact RN (p m _ o (Ai b))
 ·refine⟨.non,_,I.lset (its':=(as.map Value.ref).eraseIdx j) c e ?_ ?_ ?_,rfl,q⟩
  ·show(as.map Value.ref).toArray.eraseIdxIfInBounds j=((as.map Value.ref).eraseIdx j).toArray
   rw[Q4]
  ·rw[jZ]
   exact r.eraseIdx j
  ·have:=yO as j
   rw[Ab] at z ⊢;omega
end
end L2
end
section
namespace L2
open PySem PySem.Spec PyProof.Rows
def Oy{env env0:Env}{scope a:Scope}(b:env.scope=relabel a env0)(h:scope.names.all (fun y=>decide (y.2≠.free)|| decide (a.names.lookup y.1=some .cell)|| decide (a.names.lookup y.1=some .free))=true):∀y∈scope.names,y.2=.free->env.kindOf y.1=some .cell\/env.kindOf y.1=some .free:=by
 intro y hy e;have:=OX.mp h y hy;simp only[Bool.or_eq_true,decide_eq_true_eq] at this;have key:a.names.lookup y.1=some .free\/a.names.lookup y.1=some .cell:=by
  rcases this with (q|q)|q
  ·exact absurd e q
  ·exact .inr q
  ·exact .inl q
 have:=BQ (scope:=a) (env:=env0) key;unfold Env.kindOf;rw[b];rcases this with q|q
 ·exact .inr q
 ·exact .inl q
end L2
end
section
namespace K65
open K1
open PySem L2 STb
abbrev vU:Stmt:=top 41
def Oz{a b:List Int}(h:kle a b=true):a.length<=b.length:=by
 rw[m5] at h;rcases Qn b.length a.length with c|c
 ·exfalso
  have:HT.lexLt (key b) (key a)=true:=by
   show HT.lexLt ((b.length:Int)::b) ((a.length:Int)::a)=true;rw[HT.zJ,RK ω];exact RM ω
  rw[this] at h;cases h
 ·exact c
def Tps.erase{H:Hp}:∀{as:List Addr}{ab:Ξ}(n:Nat),Tps H as ab->Tps H (as.eraseIdx n) (ab.eraseIdx n)
 |_,_,_,.nil=>.nil
 |_,_,0,.cons _ t=>t
 |_,_,n+1,.cons r t=>.cons r (Tps.erase n t)
def HU{b:Type}:∀{l:List b}{j:Nat}{x:b},l[j]?=some x->l.Perm (x::l.eraseIdx j)
 |[],_,_,h=>by simp at h
 |a::r,0,x,h=>by
  have e:a=x:=by simpa using h
  subst e;exact List.Perm.refl _
 |a::r,j+1,x,h=>((HU (l:=r) (j:=j) (by simpa using h)).cons a).trans (List.Perm.swap x a _)
structure Og(ab f l:Ξ):Prop where
 pm:(f++l).Perm (canon ab)
 sb:l.Sublist (canon ab)
 od:cp f
def bL(f:Ξ)(p:List Int):Bool:=decide (((rims p).filter fun q=>!decide (q∈f)).length=0)
def HV{f:Ξ}{p:List Int}:bL f p=true↔∀q∈rims p,q∈f:=by
 unfold bL;rw[decide_eq_true_eq,List.length_eq_zero_iff,List.filter_eq_nil_iff];refine⟨fun h q hq=>?_,fun h q hq=>?_⟩
 ·have:=h q hq
  cases e:decide (q∈f) with
  |true=>exact RO e
  |false=>rw[e] at this;exact absurd rfl this
 ·rw[RM (h q hq)];decide
section
variable{ab f l:Ξ}(hw:dQ ab=true)(g:Og ab f l)
include hw g
theorem Og.rim{p q:List Int}(hp:p∈canon ab)(hq:q∈rims p):q∈f\/q∈l:=by
 obtain⟨h1,k,hk,e⟩:=CN.mp hq;obtain⟨b,c⟩:=FX hk e;have d:q≠[]:=fun z=>by
  rw[z] at e;have:=congrArg List.length e;rw[Ap,AD,Pg,Pu] at this;have:=O9.mpr (jo.mp (C' hw hp)).1;omega
 have:q∈canon ab:=by
  obtain⟨_,t,ht,a⟩:=GH.mp hp;exact GH.mpr ⟨d,t,ht,b.trans a⟩
 exact OW.mp (g.pm.mem_iff.mpr this)
theorem Og.able{a:List Int}{r:Ξ}(e:l=a::r):bL f a=true:=by
 subst e;refine HV.mpr fun q hq=>?_;have ha:a∈canon ab:=g.sb.subset Av;rcases Og.rim hw g ha hq with h|h
 ·exact h
 ·exfalso
  obtain⟨h1,k,hk,e⟩:=CN.mp hq;have b:=(FX hk e).2;rcases OT.mp h with z|z
  ·rw[z] at b;omega
  ·have hp:=(FT ab).sublist g.sb
   have:=Oz ((P7.mp hp).1 q z);omega
theorem Og.next{p:List Int}{j:Nat}(c:l[j]?=some p)(ha:bL f p=true):Og ab (f++[p]) (l.eraseIdx j):=by
 have a:p∈l:=Aj c;have d:p∈canon ab:=g.sb.subset a;have b:(f++l).Nodup:=g.pm.nodup_iff.mpr (FU ab);refine⟨?_,(P8 _ _).trans g.sb,GJ g.od (tM.mpr ⟨C' hw d,fun h=>?_,HV.mp ha⟩)⟩
 ·rw[Rr]
  exact(List.Perm.append_left f (HU c).symm).trans g.pm
 ·exact(O2.mp b).2.2 p h p a rfl
end
def OA{l:Ξ}(a:l.Nodup){p:List Int}(hp:p∈l):∃j:Nat,l[j]?=some p/\∀m q,m<j->l[m]?=some q->q≠p:=by
 obtain⟨j,e⟩:=OV.mp hp;refine⟨j,e,fun m q hm eq z=>?_⟩;subst z;have h1:=(B5.mp e);have h2:=(B5.mp eq);have:=Pi.mp (List.nodup_iff_pairwise_ne.mp a) m j h2.1 h1.1 hm;exact this (by rw[h2.2,h1.2])
abbrev HW:List Str:=["box","known","left","found","able","piece"]
abbrev DZ(K:Ae):TE:=jD (El K (kb kH [] E0 (zH (ay 0) bb))) [none,some 1] (zU 0) (eI (bY (gH true K) (ay 0) (ay 1))) (ay 0)
abbrev OB(K:Ae):TT:=eI (bY lS (hH (CT K) (zH (DZ K) bb)) (tC (.int 0)))
section
variable{P:Program}{w:World}{K:Ae}{mg:Str->Option Value}{base:Heap}
def OC{H2:Hp}{L c D:Addr}{as fs:List Addr}{b a:Ξ}{Q:VK}(f:SqL K H2 L (as.map V.ref))(ht:Tps H2 as b)(g:SqL K H2 c (fs.map V.ref))(hf:Tps H2 fs a)(hz:b.length<=1000)(h:H2 D=none)(k:∀(H3:Hp)(bs:List Addr),Same H2 H3->H3 D=some (.lst (bs.map V.ref))->Tps H3 bs (b.filter fun p=>!decide (p∈a))->Q (.ref D) H3):cG (dI K L) (zU 0) (eI (bY (gH true K) (ay 0) (ay 1))) (ay 0) [none,some (.ref c)] H2 D Q:=by
 refine F_ (p:=fun p=>!decide (p∈a)) (fun o os H' R sm d _ e=>⟨_,rfl,_,rfl,o,c,os,fs,a,rfl,rfl,d,sm.seq g,sm.tps hf,_,rfl,?_⟩) f ht hz h k;rw[RJ rfl];exact e H' (Same.refl _)
def HX(K:Ae):Sp:=fun vs H Q _=>∃p l as ab,vs=[.ref p,.ref l]/\zK H p/\SqL K H l (as.map V.ref)/\H l=some (.lst (as.map V.ref))/\Tps H as (canon ab)/\dQ ab=true/\∀D H' bs a,zD p H H'->zK H' p->H' D=some (.lst (bs.map V.ref))->Tps H' bs a->cp a->a.Perm (canon ab)->Q (.ref D) H'
def qG:zr HW ["box","known"] (zh vU):=⟨rfl,rfl,rfl,δ,rfl,δ,δ⟩
def OD{f:Addr}{fd:FuncData}(F:Fun K "_law_order" "_law_order" vU f fd)(B:Bt mg)(Ct:Cl P w K mg base aG "_law_take" ["box","most"] 1 gJ)(Cr:Cl P w K mg base aG "_law_rims" ["piece"] 1 kH):FnOk P w K mg base aG 2 f fd ["box","known"] (HX K):=by
 refine F.ok qG (fun vs H Q E h=>?_) (fun cdv A outer s H vs Q E hr h=>?_)
 ·obtain⟨p,l,as,ab,rfl,_⟩:=h;rfl
 ·obtain⟨p,l,as,ab,rfl,hb,hl,Bg,ht,hw,k⟩:=h
  have aq:=hr.units;refine⟨_,ze (zo (i:=2) qG.nd rfl (Or.inl rfl) (zp re rfl B.list eD (zc (pv 1) zd)))
   (ze (zo (i:=3) qG.nd rfl (Or.inr rfl) (zV zd))
   (ze (Ek AM (zn (Cu aq) (pv 2) (zV zd) (au _))
    (ze (G4 (i:=4) qG.nd rfl (Or.inl rfl) HW ["piece","found"] [none,some 3] (zI (pv 2)) (fun O C s₀ H₀ ex=>zk (i:=0) (cv ["piece","found"]) rfl (Or.inl rfl))
     (fun O C s₀ H₀ ex=>i9 (zn db (zm zl rfl B.len cV (zc (zv ["piece","found"] ["rim","found"] [none,some 1] (zI (zy Cr hr rfl ax (zc (pv 0) zd))) (fun O C s₀ H₀ ex=>zk (i:=0) (cv ["rim","found"]) rfl (Or.inl rfl))
      (fun O C s₀ H₀ ex=>i9 (zn (r:=gH true K) (Fg (in1_units aq)) (pv 0) (pv 1) (by with_unfolding_all rfl))) (fun O C s₀ H₀ ex=>pv 0) (hfr:=Oy rfl δ) (tc:=eI (bY (gH true K) (ay 0) (ay 1)))) zd)) zf (au _)))
     (fun O C s₀ H₀ ex=>pv 0) (hfr:=b_ (zh vU) δ) (tc:=OB K))
    (ze (zo (i:=5) qG.nd rfl (Or.inl rfl) (zB zL (pv 4) (zy Ct hr rfl ax (zc (pv 0) (zc (zm zl rfl B.len cV (zc (pv 4) zd)) zd))) (fun _ _=>rfl)))
    (ze (eY (ia OZ PN PP l3 (pv 3) (zc (pv 5) zd)))
    (zi (eY (ia OZ PySem.F.slot_list_remove PySem.F.type_list_remove (Ox (in1_units aq)) (pv 2) (zc (pv 5) zd))))))))
   (zi (zq (pv 3))))),?_⟩
  obtain⟨_,_,_,aS⟩:=CM hw;rw[<-CL] at aS;refine⟨_,rfl,l,_,rfl,.inl hl,fun v pH=>⟨zg (by simp),fun g lJ=>?_⟩⟩;have sL:=Same.new (o:=.lst (as.map V.ref)) pH;have sF:=Same.new (o:=.lst []) lJ;have s2:=sL.trans sF;have oK:=sF _ _ (ac (H:=H) (a:=v) (o:=.lst (as.map V.ref)));have ql:v≠g:=zj (ac (H:=H) (a:=v) (o:=.lst (as.map V.ref))) lJ;have pO:v≠p:=by obtain⟨x,y,h,_⟩:=hb;exact Ne.symm (zj h pH)
  have U:g≠p:=by obtain⟨x,y,h,_⟩:=hb.same sL;exact Ne.symm (zj h lJ)
  have W:H g=none:=sL.free lJ;refine⟨fun m σ H3=>∃(ls fs:List Addr)(c d:Ξ)(v4 v5:Option V),m=c.length/\σ=[some (.ref p),some (.ref l),some (.ref v),some (.ref g),v4,v5]/\zD p H H3/\zK H3 p/\H3 v=some (.lst (ls.map V.ref))/\Tps H3 ls c/\H3 g=some (.lst (fs.map V.ref))/\Tps H3 fs d/\Og ab d c,
   ⟨_,as,[],canon ab,[],none,none,rfl,rfl,fun b o _ e=>s2 _ _ e,hb.same s2,oK,s2.tps ht,ac,.nil,⟨List.Perm.refl _,List.Sublist.refl _,GI⟩⟩,?_⟩
  rintro m σ H3 ⟨ls,fs,c,d,v4,v5,rfl,rfl,bh,aR,jR,ga,yM,hX,M⟩;have rW:=ga.length;have nR:=hX.length;have hpl:=M.pm.length_eq;rw[Ap] at hpl;refine⟨_,rfl,zg (by simp),fun T hT=>.inr ⟨v,T,ls,[],c,[],rfl,rfl,SqL.of ((Same.new hT) _ _ jR),(Same.new hT).tps ga,SqL.of ac,.nil,_,rfl,?_⟩⟩;have I:=Same.new (o:=.lst []) hT;have mT:zD p H _:=fun b o G e=>I _ _ (bh b o G e);have mf:=aR.same I;have kY:=I _ _ jR;have mj:=I.tps ga;have kz:=I _ _ yM;have kR:=I.tps hX;generalize upd H3 T (.lst [])=H4 at I mT mf kY mj kz kR;rw[RJ rfl];cases gA:c with
  |nil=>
   rw[RM rfl];refine aO ⟨_,rfl,k g H4 fs d mT mf kz kR M.od ?_⟩;have:=M.pm;rw[gA,Ps] at this;exact this
  |cons a0 r0=>
   rw[RN (by simp),<-gA];refine aK ⟨_,fun aj H' h=>h,?_⟩;refine⟨_,rfl,v,rfl,⟨_,SqL.of kY⟩,fun D hD=>zE (F_ (p:=bL d) (fun o os H' R sm ho S hR=>?_) (SqL.of kY) mj ω hD fun H5 cs J ba lM=>?_)⟩
   ·have om:os.length<=5:=(jo.mp (C' hw (M.sb.subset S))).2.1
    refine⟨_,rfl,o,os,rfl,ho,om,fun RL u rs s6 _ rj ub=>⟨RL,rfl,⟨_,SqL.of rj⟩,fun D7 hD7=>zE (OC (SqL.of rj) ub (SqL.of ((sm.trans s6) _ _ kz)) ((sm.trans s6).tps kR) (AC (kE _) ω) hD7 fun H7 bs s7 mJ df=>⟨D7,_,rfl,.inl (SqL.of mJ),rfl,_,rfl,?_⟩)⟩⟩;have eO:=df.length;have:=hR H7 (s6.trans s7);rw[Ab,eO];have e:decide (V.int ((((rims os).filter fun q=>!decide (q∈d)).length:Nat):Int)=V.int 0)=bL d os:=by
     unfold bL;rw[P9,decide_eq_true_eq,decide_eq_true_eq];exact⟨fun h=>by injection h with h;omega,fun h=>by rw[h];rfl⟩
    rw[e];exact this
   have hcl:=lM.length;have hne:0<(c.filter (bL d)).length:=List.length_pos_of_mem (O0.mpr ⟨by rw[gA];exact Av,Og.able hw M gA⟩);have yL:=Qr (bL d) c;have X:=mf.same J;refine⟨_,rfl,_,rfl,_,rfl,D,_,rfl,.inl (SqL.of ba),?_⟩;refine⟨p,_,rfl,X,by rw[Ab];omega,by rw[Ab];omega,fun r6 u w_ nB L eG=>?_⟩;rw[Ab,hcl] at nB;obtain⟨n,rfl⟩:=O1 w_;have hn:n<(c.filter (bL d)).length:=ω
   have en:(c.filter (bL d))[n]?=some (c.filter (bL d))[n]:=Ai hn;have o8:cs[n]?=some (cs[n]'ω):=Ai ω;have hq:=Bf hn;generalize (c.filter (bL d))[n]=q at en hq;generalize cs[n]'ω=t at o8;obtain⟨hql,u8⟩:=O0.mp hq;have rh:D≠p:=X.ne ba;have BH:=I.trans J;refine⟨D,_,_,.ref t,rfl,rfl,SqL.of (L _ _ rh ba),fz (by rw[Af,o8];rfl),?_⟩;have kM:Tp H5 t q:=oS lM n t q o8 en;have dP:Tp u t q:=L _ _ (X.net kM) kM;have Y:=L _ _ U (J _ _ kz);have sU:=L.tps X (J.tps kR);have cM:=L _ _ pO (J _ _ kY);have uu:=L.tps X (J.tps mj);have nO:zD p H u:=fun b o G e=>L b o G (J _ _ (mT b o G e));refine⟨_,rfl,.inl ⟨rfl,_,SqL.of Y⟩,_,rfl,g,_,.ref t,rfl,rfl,Y,by rw[Ab];exact zX ω,?_⟩;have sA:=ac (H:=u) (a:=g) (o:=.lst (fs.map V.ref++[.ref t]));have fJ:upd u g (.lst (fs.map V.ref++[.ref t])) v=some (.lst (ls.map V.ref)):=by rw[ae ql];exact cM
   have N:Tps (upd u g (.lst (fs.map V.ref++[.ref t]))) ls c:=Tps.upd uu Y (by intro xs z;cases z);have qQ:Tps (upd u g (.lst (fs.map V.ref++[.ref t]))) (fs++[t]) (d++[q]):=Tps.upd (Tps.snoc sU dP) Y (by intro xs z;cases z);have fP:Tp (upd u g (.lst (fs.map V.ref++[.ref t]))) t q:=by
    show upd u g _ t=_;rw[ae (cT dP Y (by intro z;cases z))];exact dP
   have df:=eG.upd (o:=.lst (fs.map V.ref++[.ref t])) U;have jB:zD p H (upd u g (.lst (fs.map V.ref++[.ref t]))):=fun b o G e=>by rw[ae (zj e W)];exact nO b o G e
   generalize upd u g (.lst (fs.map V.ref++[.ref t]))=H7 at sA fJ N qQ fP df jB;have hnd:c.Nodup:=(FU ab).sublist M.sb;obtain⟨j,ej,gW⟩:=OA hnd hql;refine⟨_,rfl,.inl ⟨rfl,_,SqL.of fJ⟩,_,rfl,v,t,ls,c,q,j,rfl,rfl,fJ,N,fP,ej,gW,?_⟩;refine⟨_,?_,ls.eraseIdx j,fs++[t],c.eraseIdx j,d++[q],_,_,rfl,rfl,fun b o G e=>by rw[ae (zj e pH)];exact jB b o G e,df.upd pO,ac,Tps.upd (Tps.erase j N) fJ (by intro xs z;cases z),by rw[ae (Ne.symm ql),sA,Ao];rfl,Tps.upd qQ fJ (by intro xs z;cases z),Og.next hw M ej u8⟩;have hj:=(B5.mp ej).1;rw[List.length_eraseIdx_of_lt hj];omega
end
abbrev dD:Stmt:=top 49
abbrev D0:List Str:=["script","box","order","prime","told","turn","handed","found"]
def iL:zr D0 ["script"] (zh dD):=⟨rfl,rfl,rfl,δ,rfl,δ,δ⟩
def toG(r:RA):RG:=⟨r.t,r.c,r.x.hi,r.x.b,r.x.d.map fun e:Nat=>(e:Int),r.x.c,r.x.d.map fun _=>(r.g,r.x.g)⟩
def OE{H:Hp}{r:RA}(h:RwAt H r):RgAt H (toG r):=by
 obtain⟨h1,⟨e,h2⟩|⟨e,a,f,i⟩⟩:=h
 ·refine⟨?_,h1,fun x ex=>?_⟩
  ·show H r.t=some (.tup [.int r.x.hi,.int r.x.b,oV (r.x.d.map _),.ref r.c,gV (r.x.d.map _)])
   rw[e];exact h2
  ·have ex:r.x.d.map (fun _=>(r.g,r.x.g))=some x:=ex
   rw[e] at ex;cases ex
 ·refine⟨?_,h1,fun x ex=>?_⟩
  ·show H r.t=some (.tup [.int r.x.hi,.int r.x.b,oV (r.x.d.map _),.ref r.c,gV (r.x.d.map _)])
   rw[a];exact i
  ·have ex:r.x.d.map (fun _=>(r.g,r.x.g))=some x:=ex
   rw[a] at ex;cases ex;exact f
def OF{p:Int}{oo U:Ξ}{r:RA}(o:qa p oo r.x)(un:Un oo U)(a:∀q∈oo,q≠[]):Wr U 0 (toG r):=by
 refine⟨⟨o.c.nd,fun q hq=>un.ord q (o.ci q hq).1⟩,fun q hq=>a q (o.ci q hq).1,fun x ex=>?_⟩;have ex:r.x.d.map (fun _=>(r.g,r.x.g))=some x:=ex;cases e:r.x.d with
 |none=>rw[e] at ex;cases ex
 |some t=>
  rw[e] at ex;cases ex;obtain⟨h1,h2⟩:=o.g t e;exact⟨⟨h1.nd,fun q hq=>un.ord q (h2 q hq).1⟩,fun q hq=>a q (h2 q hq).1⟩
def OG{p:Int}{oo:Ξ}{T:Nat}{xs:List cD}(h:fG p oo T xs):(xs.map (·.b)++xs.filterMap (·.d)).length<=T:=by
 have f:(xs.map (·.b)).Nodup:=h.srt.imp fun h=>ω
 have nd:(xs.filterMap (·.d)).Nodup:=by
  unfold List.Nodup;rw[List.pairwise_filterMap];have j:xs.Pairwise (fun a b=>a.b≠b.b):=by
   have:=f;unfold List.Nodup at this;rw[AX] at this;exact this
  refine j.imp_of_mem fun{a b} ha hb c t g t' i e=>?_;subst e;have:=h.rows.two (gc oo a) (KK.mpr ⟨a,ha,rfl⟩) (gc oo b) (KK.mpr ⟨b,hb,rfl⟩) t g i;have:a.b=b.b:=congrArg Bar.Row.b this;exact c this
 have l:(xs.map (·.b)++xs.filterMap (·.d)).Nodup:=by
  rw[O2];refine⟨f,nd,fun a ha b hb e=>?_⟩;subst e;obtain⟨x,hx,e1⟩:=KK.mp ha;obtain⟨y,hy,e2⟩:=QL.mp hb;exact h.rows.one (gc oo x) (KK.mpr ⟨x,hx,rfl⟩) (gc oo y) (KK.mpr ⟨y,hy,rfl⟩) (by show y.d=some x.b;rw[e1];exact e2)
 have:=l.length_le_of_subset (l₂:=AJ T) fun t ht=>by
  rw[P6];rcases OW.mp ht with ht|ht
  ·obtain⟨x,hx,rfl⟩:=KK.mp ht
   exact(nt h hx).born
  ·obtain⟨x,hx,e⟩:=QL.mp ht
   exact((nt h hx).gone t e).1
 rwa [Q3] at this
def OH(L:List RA):(ends (L.map toG)).length=((dh L).map (·.b)++(dh L).filterMap (·.d)).length:=by
 rw[gg,Ap,Ab,Ab,Ab]
 congr 1
 induction L with
 |nil=>rfl
 |cons r L ih=>
  show((toG r::L.map toG).filterMap (·.d)).length=((r.x::dh L).filterMap (·.d)).length;rw[A6,A6];have e:(toG r).d=r.x.d.map fun e:Nat=>(e:Int):=rfl;rw[e];cases r.x.d with
  |none=>exact ih
  |some t=>show _+1=_+1;rw[ih]
def D6{M L:List RG}(h:Paired Cpy M L):ends M=ends L:=by
 unfold ends;have:M.map (·.b)=L.map (·.b)/\M.filterMap (·.d)=L.filterMap (·.d):=by
  induction h with
  |nil=>exact⟨rfl,rfl⟩
  |@cons m r M L c t ih=>
   obtain⟨_,e2,e3,_,_⟩:=c;refine⟨by rw[Aq,Aq,ih.1,e2],?_⟩;rw[A6,A6,e3,ih.2]
 rw[this.1,this.2]
def OI{oo:Ξ}{p:Int}{M L:List RG}(h:Paired Cpy M L):gU oo p M↔gU oo p L:=by
 unfold gU;rw[D6 h];obtain⟨h1,h2⟩:=jX h;refine and_congr_right fun _=>⟨fun k r hr=>?_,fun k m hm=>?_⟩
 ·obtain⟨m,hm,c⟩:=h2 r hr
  exact c.bar.mp (k m hm)
 ·obtain⟨r,hr,c⟩:=h1 m hm
  exact c.bar.mpr (k r hr)
def g0{H:Hp}{a b:Addr}{cs:Ch}(ha:Rd H a (.dT (kvC cs)))(hb:Rd H b (.dT (kvC cs))):AV H (.ref a) (.ref b):=
 .dt (ns:=cs.map (·.2)) ha hb (zY _) (zY _) (by unfold kvC;rw[Ak,Ak];rfl) rfl fun _ h=>h
def OJ{H:Hp}{m r:RG}(c:Cpy m r)(hm:RgAt H m)(hr:RgAt H r):AT H m.t r.t:=by
 obtain⟨e1,e2,e3,b,g⟩:=c;obtain⟨f,a,h⟩:=hm;obtain⟨i,j,l⟩:=hr;rw[b] at a;refine⟨_,_,f,i,.cons (by rw[e1];exact .fl rfl) (.cons (by rw[e2];exact .fl rfl) (.cons (by rw[e3];cases r.d<;>exact .fl rfl) (.cons (g0 a j) (.cons ?_ .nil))))⟩;cases em:m.g with
 |none=>
  rw[em] at g;cases er:r.g with
  |none=>exact .fl rfl
  |some y=>rw[er] at g;cases g
 |some x=>
  rw[em] at g;cases er:r.g with
  |none=>rw[er] at g;cases g
  |some y=>
   rw[er] at g;have e:x.2=y.2:=Ah g;have:=h x em;rw[e] at this;exact g0 this (l y er)
def OK{H:Hp}{M L:List RG}(h:Paired Cpy M L)(a:∀r∈M,RgAt H r)(b:∀r∈L,RgAt H r):Paired (AT H) (M.map (·.t)) (L.map (·.t)):=by
 induction h with
 |nil=>exact .nil
 |@cons m r M L c t ih=>exact .cons (OJ c (a m (.head _)) (b r (.head _))) (ih (fun r hr=>a r (.tail _ hr)) fun r hr=>b r (.tail _ hr))
def HY{L:List RG}:(L.map fun r=>V.ref r.t)=(L.map (·.t)).map V.ref:=by rw[Ak];rfl
structure Fr(Pt p:Addr)(H:Hp)(OR:Addr)(os:List Addr)(oo:Ξ):Prop where
 hb:zK H p
 hO:H OR=some (.lst (os.map V.ref))
 ho:Tps H os oo
 tb:TY Pt H
section
variable{Pt p OR T:Addr}{H H':Hp}{os:List Addr}{oo U:Ξ}{L:List RG}{k:Nat}
def HZ(t:TY Pt H)(sb:zD p H H')(hb:zK H p):TY Pt H':=by
 obtain⟨x,y,e,_⟩:=hb;have a:Pt≠p:=fun z=>by rw[<-z] at e;rcases t with e'|⟨_,e',_⟩<;>(rw[e] at e';cases e')
 rcases t with e1|⟨c,e1,b,vs,d,e2,r⟩
 ·exact .inl (sb _ _ a e1)
 ·exact .inr ⟨c,sb _ _ a e1,b,vs,d,sb _ _ (fun z=>by rw[z,e] at e2;cases e2) e2,r⟩
def Fr.same(z:Fr Pt p H OR os oo)(s:Same H H'):Fr Pt p H' OR os oo:=⟨z.hb.same s,s _ _ z.hO,s.tps z.ho,(Same.sf s:SY Pt _ _).tab z.tb⟩
def Fr.sb(z:Fr Pt p H OR os oo)(s:zD p H H')(hb:zK H' p):Fr Pt p H' OR os oo:=⟨hb,s _ _ (z.hb.ne z.hO) z.hO,s.tps z.hb z.ho,HZ z.tb s z.hb⟩
def Fr.sy(z:Fr Pt p H OR os oo)(s:SY Pt H H'):Fr Pt p H' OR os oo:=by
 obtain⟨x,y,e,q⟩:=z.hb;exact⟨⟨x,y,s.lst e,q⟩,s.lst z.hO,s.tps z.ho,s.tab z.tb⟩
structure Fw(Pt p:Addr)(H:Hp)(OR:Addr)(os:List Addr)(oo:Ξ)(T:Addr)(L:List RG)(U:Ξ)(k:Nat):Prop where
 fr:Fr Pt p H OR os oo
 hT:H T=some (.lst (L.map fun r=>V.ref r.t))
 rw:∀r∈L,RgAt H r
 wr:∀r∈L,Wr U k r
def Fw.same(z:Fw Pt p H OR os oo T L U k)(s:Same H H'):Fw Pt p H' OR os oo T L U k:=⟨z.fr.same s,s _ _ z.hT,fun r hr=>(z.rw r hr).same s,z.wr⟩
def Fw.sb(z:Fw Pt p H OR os oo T L U k)(s:zD p H H')(hb:zK H' p):Fw Pt p H' OR os oo T L U k:=by
 refine⟨z.fr.sb s hb,?_,fun r hr=>(z.rw r hr).sb s z.fr.hb,z.wr⟩;have:=z.hT;rw[HY] at this ⊢;exact s _ _ (z.fr.hb.ne this) this
def Fw.sy(z:Fw Pt p H OR os oo T L U k)(s:SY Pt H H'):Fw Pt p H' OR os oo T L U k:=⟨z.fr.sy s,s.lst z.hT,fun r hr=>(z.rw r hr).sf s,z.wr⟩
end
section
variable{P:Program}{w:World}{K:Ae}{mg:Str->Option Value}{base:Heap}{f:Addr}{fd:FuncData}{Pt:Addr}{cdv:Value}{A:Around}{outer:List Env}{s:Shared}{H:Hp}{E:XK}{Q:VK}
def OL(hr:Room 7 (A.deeper (QG "law" (zh dD) s⁻¹ f cdv)))(B:Bt mg)(Cc:Cl P w K mg base aG "_law_copy" ["told"] 1 (vK K))(Ci:Cl P w K mg base aG "is_paper" ["order","prime","paper"] 7 (vq K Pt))(Cj:Cl P w K mg base aG "_law_is_paper" ["order","prime","row"] 4 (vA K)):∃tr,PSs (b0 aG P w K mg base D0 "law" (zh dD) f cdv A outer s H E).nox (List.drop 6 (zT dD)) tr/\
   ∀(a p OR T:Addr)(os:List Addr)(oo U:Ξ)(L:List RG)(k0:Nat)(pr:Int)(v5:Option V)(H2:Hp),Fw Pt p H2 OR os oo T L U k0->Un oo U->cp oo->oo.length<=60->isP pr->(ends L).length<64->(∀H',Q (.bl true) H')->
    tr {nx:=fun _ H'=>Q .non H',rt:=Q} [some (.ref a),some (.ref p),some (.ref OR),some (.int pr),some (.ref T),v5,none,none] H2:=by
 have h:(A.deeper (QG "law" (zh dD) s⁻¹ f cdv)).units+128<cLine:=by have:=hr.un;omega
 refine⟨_,ze (zo (i:=6) iL.nd rfl (Or.inl rfl) (zV (zc (zp re rfl B.list eD (zc (pv 2) zd)) (zc (zy Cc hr rfl ax (zc (pv 4) zd)) zd))))
  (ze (zo (i:=7) iL.nd rfl (Or.inl rfl) (zy Ci hr rfl ax (zc (zB zL (pv 6) zf (fun _ _=>rfl)) (zc (pv 3) (zc (zB zL (pv 6) zf (fun _ _=>rfl)) zd)))))
  (ze (zR (zn (Ov h) (pv 6) (zV (zc (pv 2) (zc (pv 4) zd))) (au _)) (zi (zq dY)) zt)
  (zi (zq (j4 (zm Kf rfl B.isinstance Kx (zc (pv 7) (zc (Iq (v:=.ty "bool") rfl B.bool Ky rfl) zd)))
   (j2 (eZ db (pv 7) (zy Cj hr rfl ax (zc (pv 2) (zc (pv 3) (zc (pv 4) zd)))) (au _)))))))),?_⟩
 intro a p OR T os oo U L k0 pr v5 H2 z un od q hp J k;have dX:L.length<=1000:=by rw[gg] at J;omega
 refine⟨_,rfl,OR,_,rfl,.inl (SqL.of z.fr.hO),fun g pB=>?_⟩;have s3:=Same.new (o:=.lst (os.map V.ref)) pB;have y:=z.same s3;have jR:=ac (H:=H2) (a:=g) (o:=.lst (os.map V.ref));generalize upd H2 g (.lst (os.map V.ref))=H3 at s3 y jR;refine⟨_,rfl,T,L,U,k0,rfl,SqL.of y.hT,y.rw,y.wr,un.inj,dX,fun l M H4 s4 y8 xR F fj=>?_⟩;have z4:=y.same s4;have cf:=s4 _ _ jR;refine⟨zg (by simp),fun D u7=>?_⟩;have C:=Same.new (o:=.lst [.ref g,.ref l]) u7;have G:=z4.same C;have O:=C _ _ cf;have S:=C _ _ xR;have X:∀r∈M,RgAt _ r:=fun r hr=>(fj r hr).same C;have I:=ac (H:=H4) (a:=D) (o:=.lst [.ref g,.ref l]);generalize upd H4 D (.lst [.ref g,.ref l])=H5 at C G O S X I;have uj:∀r∈M,k8 r:=fun r hr=>by
  obtain⟨x,hx,c⟩:=(jX F).1 r hr;exact(c.wr (z.wr x hx)).gd un.len
 refine⟨_,rfl,D,_,0,.ref g,rfl,rfl,SqL.of I,rfl,_,rfl,_,rfl,D,_,1,.ref l,rfl,rfl,SqL.of I,rfl,g,os,oo,pr,l,M,rfl,SqL.of O,G.fr.ho,od,q,hp,G.fr.tb,S,X,uj,by rw[D6 F];exact J,fun b H6 eG u=>?_⟩;have z6:=G.sy u;refine⟨_,rfl,_,rfl,_,rfl,zg (by simp),fun W hW=>?_⟩;have j:=Same.new (o:=.lst [.ref OR,.ref T]) hW;have d:=z6.same j;have rp:∀r∈M,RgAt _ r:=fun r hr=>((X r hr).sf u).same j;have fJ:=j _ _ (u.lst O);have Y:=j _ _ (u.lst S);have kO:=j _ _ (u.lst I);have su:=ac (H:=H6) (a:=W) (o:=.lst [.ref OR,.ref T]);generalize upd H6 W (.lst [.ref OR,.ref T])=H7 at j d rp fJ Y kO su;have q_:=d.hT;rw[HY] at Y q_;refine⟨D,W,g,OR,l,T,os,os,M.map (·.t),L.map (·.t),oo,rfl,rfl,SqL.of kO,SqL.of su,SqL.of fJ,d.fr.ho,SqL.of d.fr.hO,d.fr.ho,SqL.of Y,SqL.of q_,OK F rp d.rw,_,rfl,aO ?_⟩;have uX:∀r∈L,k8 r:=fun r hr=>(z.wr r hr).gd un.len;refine⟨_,rfl,b,rfl,_,rfl,aK ⟨_,rfl,_,rfl,_,rfl,_,rfl,OR,os,oo,pr,T,L,rfl,SqL.of d.fr.hO,d.fr.ho,od,q,hp,d.hT,d.rw,uX,J,fun N H8 wV s8=>⟨rfl,?_⟩⟩⟩;have e:b=N:=by
  have:(b=true↔N=true):=eG.trans ((OI F).trans wV.symm);cases b<;>cases N<;>simp_all
 rw[e,RM rfl];exact k H8
def OM(hr:Room 7 (A.deeper (QG "law" (zh dD) s⁻¹ f cdv)))(B:Bt mg)(D:Cl P w K mg base aG "_law_take" ["box","most"] 1 gJ)(Y:Cl P w K mg base aG "_law_copy" ["told"] 1 (vK K))(Ci:Cl P w K mg base aG "is_paper" ["order","prime","paper"] 7 (vq K Pt))(Cj:Cl P w K mg base aG "_law_is_paper" ["order","prime","row"] 4 (vA K)):∃q,PSs (b0 aG P w K mg base D0 "law" (zh dD) f cdv A outer s H E).nox (List.drop 5 (zT dD)) q/\
   ∀(a p OR T:Addr)(os:List Addr)(oo U:Ξ)(L:List RG)(k0:Nat)(pr:Int)(c:Option V)(H2:Hp),Fw Pt p H2 OR os oo T L U k0->Un oo U->cp oo->oo.length<=60->isP pr->(ends L).length<64->(∀H',Q (.bl true) H')->
    q {nx:=fun _ H'=>Q .non H',rt:=Q} [some (.ref a),some (.ref p),some (.ref OR),some (.int pr),some (.ref T),c,none,none] H2:=by
 obtain⟨yx,N,u⟩:=OL (f:=f) (cdv:=cdv) (A:=A) (outer:=outer) (s:=s) (H:=H) (Q:=Q) (E:=E) hr B Y Ci Cj;refine⟨_,ze (zR (zn db (zy D hr rfl ax (zc (pv 1) (zc zf zd))) zf (au _))
  (zi (zo (i:=3) iL.nd rfl (Or.inl rfl) (zB zL (zV (zc zf (zc zf (zc zf (zc zf zd))))) (zy D hr rfl ax (zc (pv 1) (zc zf zd))) (fun _ _=>rfl)))) zt) N,?_⟩
 intro a p OR T os oo U L k0 pr c H2 z un e b hp g k;refine⟨_,rfl,p,9,rfl,z.fr.hb,ξ,ξ,fun r H3 _ _ F G=>⟨rfl,_,rfl,?_⟩⟩;have d:=z.sb F G;refine bQ (fun _=>?_) (fun _=>u a p OR T os oo U L k0 pr c H3 d un e b hp g k);refine⟨zg (by simp),fun C j=>?_⟩;have O:=Same.new (o:=.lst ([2,3,5,7].map V.int)) j;have v:=d.same O;have S:C≠p:=by obtain⟨x,y,h,_⟩:=d.fr.hb;exact Ne.symm (zj h j)
 refine⟨_,rfl,p,4,rfl,v.fr.hb,ξ,ξ,fun r5 X I J l M=>?_⟩;obtain⟨m,hm,em⟩:=qx (ns:=[2,3,5,7]) I J;have W:isP m:=by
  simp only[OT,P5,or_false] at hm;exact hm
 exact⟨C,_,_,_,rfl,rfl,SqL.of (l _ _ S ac),em,u a p OR T os oo U L k0 m c X (v.sb l M) un e b W g k⟩
def v1(K:Ae)(Pt:Addr):Sp:=fun vs H Q _=>∃(a:Addr)(ns:List Int),vs=[.ref a]/\SqL K H a (ns.map V.int)/\ns.length<=63/\H Pt=some (.tbl #[])/\∀H',Q (.bl true) H'
def ON(F:Fun K "law" "law" dD f fd)(B:Bt mg)(tL:Cl P w K mg base aG "_law_cell_at" ["script","k"] 1 (FK K))(uO:Cl P w K mg base aG "_law_box" ["cell"] 1 FM)(Ct:Cl P w K mg base aG "_law_take" ["box","most"] 1 gJ)(Cw:Cl P w K mg base aG "_law_web" ["box"] 3 FQ)(Cp:Cl P w K mg base aG "_law_pieces" ["web"] 2 (FI K))(Cd:Cl P w K mg base aG "_law_order" ["box","known"] 2 (HX K))(lW:Cl P w K mg base aG "paper" ["order","prime"] 6 (He K Pt))(Cc:Cl P w K mg base aG "_law_copy" ["told"] 1 (vK K))(nG:Cl P w K mg base aG "_law_turned" ["box","told","order","prime"] 3 qz)(Ci:Cl P w K mg base aG "is_paper" ["order","prime","paper"] 7 (vq K Pt))(Cj:Cl P w K mg base aG "_law_is_paper" ["order","prime","row"] 4 (vA K)):FnOk P w K mg base aG 8 f fd ["script"] (v1 K Pt):=by
 refine F.ok iL (fun vs H Q E h=>?_) (fun cdv A outer s H vs Q E hr h=>?_)
 ·obtain⟨a,ns,rfl,_⟩:=h;rfl
 ·obtain⟨a,nn,rfl,hS,hn,yq,k⟩:=h
  have aq:=hr.units;obtain⟨rn,p5,bo⟩:=OM (f:=f) (cdv:=cdv) (A:=A) (outer:=outer) (s:=s) (H:=H) (Q:=Q) (E:=E) hr B Ct Cc Ci Cj;refine⟨_,ze (zo (i:=1) iL.nd rfl (Or.inl rfl) (zy uO hr rfl ax (zc (zy tL hr rfl ax (zc (pv 0) (zc zf zd))) zd)))
   (ze (zo (i:=2) iL.nd rfl (Or.inl rfl) (zy Cd hr rfl ax (zc (pv 1) (zc (zy Cp hr rfl ax (zc (zy Cw hr rfl ax (zc (pv 1) zd)) zd)) zd))))
   (ze (zo (i:=3) iL.nd rfl (Or.inl rfl) (zB zL (zV (zc zf (zc zf (zc zf (zc zf zd))))) (zy Ct hr rfl ax (zc (pv 1) (zc zf zd))) (fun _ _=>rfl)))
   (ze (zo (i:=4) iL.nd rfl (Or.inl rfl) (zy Cc hr rfl ax (zc (zy lW hr rfl ax (zc (zp re rfl B.list eD (zc (pv 2) zd)) (zc (pv 3) zd))) zd)))
   (ze (d0 AM rfl (lH rfl B.range (zc (zB zL (zV (zc zf (zc zf (zc zf (zc zf zd))))) (zy Ct hr rfl ax (zc (pv 1) (zc zf zd))) (fun _ _=>rfl)) zd)) (zk (i:=5) iL.nd rfl (Or.inl rfl))
    (zi (zR (zn (Ou aq) (pv 4) (zV zd) (au _)) (zi (zo (i:=4) iL.nd rfl (Or.inl rfl) (zy nG hr rfl ax (zc (pv 1) (zc (pv 4) (zc (pv 2) (zc (pv 3) zd))))))) zt))) p5)))),?_⟩
  refine⟨_,rfl,a,nn,rfl,hS,fun n=>⟨n,rfl,fun p x y hp wj=>?_⟩⟩;have sp:=Same.new (o:=.lst [.int x,.int y]) hp;have dc:zK (upd H p (.lst [.int x,.int y])) p:=⟨x,y,ac,wj⟩;have qm:TY Pt (upd H p (.lst [.int x,.int y])):=Tab.same (.inl yq) sp;generalize upd H p (.lst [.int x,.int y])=H0 at sp dc qm;refine⟨_,rfl,_,rfl,p,rfl,dc,fun O os ab H1 ge cz _ vQ iq Y=>?_⟩;obtain⟨hw,hnd,hlen⟩:=Ld Y;obtain⟨kG,qd,h5,aS⟩:=CM hw;have sP:=FY Y;refine⟨O,os,ab,rfl,SqL.of vQ,iq,h5,ω,ω,fun KN H2 q2 t2=>?_⟩;obtain⟨ks,s2,_,rD,uI⟩:=Lh t2;refine⟨p,KN,ks,ab,rfl,cz.same s2,SqL.of rD,rD,uI,hw,fun OR H3 d b bh aR u_ ko fL cu=>?_⟩;have ig:zD p H0 H3:=(ge.trans (zD.of s2)).trans bh;have z3:Fr Pt p H3 OR d b:=⟨aR,u_,ko,HZ qm ig dc⟩;have Bv:b.length<=56:=by rw[cu.length_eq,CL];omega
  have j:b.length<=60:=ω
  have un:=Of Y cu;have wZ:∀q∈b,q≠[]:=fun q hq=>(jo.mp (tN fL hq).1).1;refine⟨zg (by simp),fun PL jb=>?_⟩;have s4:=Same.new (o:=.lst ([2,3,5,7].map V.int)) jb;have z4:=z3.same s4;have nL:∀{H':Hp}{J:Addr},zK H' p->H' J=none->J≠p:=fun z h=>by obtain⟨x,y,e,_⟩:=z;exact Ne.symm (zj e h)
  refine⟨_,rfl,p,4,rfl,z4.hb,ξ,ξ,fun r5 H5 mW oQ bC bj=>?_⟩;obtain⟨pr,hm,em⟩:=qx (ns:=[2,3,5,7]) mW oQ;have jN:isP pr:=by
   simp only[OT,P5,or_false] at hm;exact hm
  refine⟨PL,_,_,_,rfl,rfl,SqL.of (bC _ _ (nL aR jb) ac),em,?_⟩;have z5:=z4.sb bC bj;refine⟨_,rfl,OR,_,rfl,.inl (SqL.of z5.hO),fun LO pB=>?_⟩;have s6:=Same.new (o:=.lst (d.map V.ref)) pB;have X:=z5.same s6;have cM:=ac (H:=H5) (a:=LO) (o:=.lst (d.map V.ref));generalize upd H5 LO (.lst (d.map V.ref))=H6 at s6 X cM;refine⟨_,rfl,LO,d,b,pr,rfl,SqL.of cM,X.ho,fL,j,jN,X.tb,fun D L0 H7 uF bF N _ _=>?_⟩;have z7:=X.sy uF;have qH:∀r∈L0.map toG,RgAt H7 r:=fun r hr=>by
   obtain⟨q,hq,rfl⟩:=KK.mp hr;exact OE (N.rw q hq)
  have l:∀r∈L0.map toG,Wr (b++odd3) 0 r:=fun r hr=>by
   obtain⟨q,hq,rfl⟩:=KK.mp hr;exact OF (N.pap.ok _ (KK.mpr ⟨q,hq,rfl⟩)) un wZ
  have u:(ends (L0.map toG)).length<=b.length:=by rw[OH];exact OG N.pap
  have C:H7 D=some (.lst ((L0.map toG).map fun r=>V.ref r.t)):=by rw[N.hD,Ak];rfl
  generalize L0.map toG=L1 at qH l u C;have l1:L1.length<=60:=by rw[gg] at u;omega
  refine⟨D,L1,b++odd3,0,rfl,SqL.of C,qH,l,un.inj,ω,fun T M H8 s8 iH pC hM fj=>?_⟩;have z8:Fw Pt p H8 OR d b T M (b++odd3) 0:=⟨z7.same s8,pC,fj,fun r hr=>by
   obtain⟨x,hx,c⟩:=(jX hM).1 r hr;exact c.wr (l x hx)⟩
  have G:(ends M).length<=b.length:=by rw[D6 hM];exact u
  refine⟨zg (by simp),fun VL iZ=>?_⟩;have s9:=Same.new (o:=.lst ([0,1,1,2].map V.int)) iZ;have z9:=z8.same s9;refine⟨_,rfl,p,4,rfl,z9.fr.hb,ξ,ξ,fun y0 n8 oT nq jc pA=>?_⟩;obtain⟨m,iw,uh⟩:=qx (ns:=[0,1,1,2]) oT nq;have nE:0<=m/\m<=2:=by
   simp only[OT,P5,or_false] at iw;omega
  refine⟨VL,_,_,_,rfl,rfl,SqL.of (jc _ _ (nL z8.fr.hb iZ) ac),uh,m,rfl,ω,ω,?_⟩;have l_:=z9.sb jc pA;refine w4 (lo:=0) (n:=m.toNat) (fun i σ v=>∃(S:Option V)(T:Addr)(L:List RG)(k0:Nat),σ=[some (.ref a),some (.ref p),some (.ref OR),some (.int pr),some (.ref T),S,none,none]/\Fw Pt p v OR d b T L (b++odd3) k0/\k0<=i/\(ends L).length<=56+3*i/\(L≠[]->b≠[]))
   ⟨none,T,M,0,rfl,l_,Ag _,ω,fun hne e=>?_⟩ ?_ ?_
  ·rw[e,gg] at G
   have:=O9.mpr hne;rw[Pu] at G;omega
  ·rintro i σ v hi ⟨S,T,L,k0,rfl,U,hk,he,hq⟩
   refine⟨_,rfl,zg (by simp),fun W hW=>⟨T,W,_,rfl,rfl,SqL.of ((Same.new hW) _ _ U.hT),SqL.of ac,_,rfl,?_⟩⟩;have g:=U.same (Same.new (o:=.lst []) hW);generalize upd v W (.lst [])=H12 at g
   by_cases I:L=[]
   ·subst I
    exact aO ⟨_,T,[],k0,rfl,g,ω,ω,hq⟩
   ·rw[RM (show(L.map fun r=>V.ref r.t)≠[] from fun e=>I (List.map_eq_nil_iff.mp e))]
    refine aK ⟨_,rfl,_,rfl,_,rfl,_,rfl,p,T,OR,d,b,b++odd3,L,pr,k0,rfl,g.fr.hb,g.hT,g.rw,g.wr,I,ω,ω,g.fr.hO,g.fr.ho,hq I,j,un,jN,fun D' L' A_ mV nK _ l8 oz nX yI=>?_⟩;exact⟨_,D',L',k0+1,rfl,⟨g.fr.sb mV nK,l8,oz,nX⟩,ω,ω,fun _=>hq I⟩
  ·rintro σ v ⟨S,T,L,k0,rfl,U,hk,he,hq⟩
   exact bo a p OR T d b (b++odd3) L k0 pr S v U un fL j jN ω k
end
end K65
end
section
namespace L2
open PySem PySem.Spec PyProof.Rows
def H_{K:Ae}{x:Str}{f c P:Addr}{d cc:Value}{e g:Option Addr}{b h:Array (Option Value)}{fd:FuncData}{vs:Array Value}(a:Ri K mainGlobals x=some (some (.ref f)))(l:K.lookup f=some ⟨d,e,.func fd,b⟩)(hc:fd.code=.ref c)(m:K.lookup c=some ⟨cc,g,.fields vs,h⟩)(i:(vs[11]?:Option Value)=some (.ref P)):P4 K x=some (c,P):=by
 unfold P4;rw[a];simp only[l,hc,m,i]
def OO{K:Ae}{x:Str}{st:Stmt}{f c P:Addr}{fd:FuncData}(F:Fun K x x st f fd)(a:Ri K mainGlobals x=some (some (.ref f)))(t:P4 K x=some (c,P)):fd.code=.ref c:=by
 obtain⟨b,d,kV,e,g,h,cdv,ct,i,rfl,lk,j⟩:=F.ex;unfold P4 at t;rw[a] at t;simp only[lk] at t;cases cdv with
 |ref c2=>
  simp only at t;split at t
  ·split at t
   ·cases t;rfl
   ·cases t
  ·cases t
 |_=>cases t
end L2
end
section
namespace K65
open K1
open PySem L2 STb
def OP{K:Ae}{t:Addr}{a:Option Addr}{b:Array (Option Value)}{c d e f:Tok}{n:Nat}(l:K.lookup t=some ⟨.type "tuple",a,.seq #[.int 2 c,.int 3 d,.int 5 e,.int 7 f] n,b⟩):∀H,SqT K H t [.int 2,.int 3,.int 5,.int 7]:=
 fun H=>.inr ⟨_,_,_,l,rfl,rfl,by show 4<=sizeLine;rw[sizeLine_eq];decide,.cons ⟨_,rfl⟩ (.cons ⟨_,rfl⟩ (.cons ⟨_,rfl⟩ (.cons ⟨_,rfl⟩ .nil)))⟩
def OQ{l:PySem.W.OpenLaw}{w:World}{K:Ae}{h:Heap}{mg:Str->Option Value}{fa f1 f2 f3 f4 f5 f6 f7 f8 f9 vY wz iE vn uL xi uk vZ xZ vT vF xb sZ tS yl yz u4 yJ tE xI ui tO xx xg wR yf x5 aP:Addr}{tp tq ts:Tok}(X:K.In h)(G:h.Ns mainGlobals mg)(t8:mg "law"=some (.ref fa)){cO Pt:Addr}(hT:P4 K "youngest_of"=some (cO,Pt))(d1:Df K "is_piece" CC f1)(d2:Df K "rims_of" ph f2)(d3:Df K "seam_of" C7 f3)(d4:Df K "seam_terms" pS f4)(d5:Df K "sum_of" jq f5)(d6:Df K "is_order" uP f6)(d7:Df K "must_be_order" Dr f7)(d8:Df K "must_be_prime" Ds f8)(d9:Df K "paper" vk f9)(kr:Df K "times_of" Dw vY)(xz:Df K "worked_off" DB wz)(r_:Df K "youngest_of" Dx iE)(xO:Df K "taken_by" uQ vn)(vh:Df K "times_into" uR uL)(xt:Df K "less_by" u0 xi)(vB:Df K "is_paper" vo uk)(vE:Df K "is_bar" DE vZ)(yu:Df K "is_chain_by" qe xZ)(wc:Df K "_law_cell_at" CG vT)(wY:Df K "_law_box" kx vF)(u5:Df K "_law_take" oX xb)(tR:Df K "_law_parts" oY sZ)(tI:Df K "_law_pieces" CJ tS)(wv:Df K "_law_known" rY yl)(u6:Df K "_law_named" pc yz)(uM:Df K "_law_web" kD u4)(xC:Df K "_law_rims" sr yJ)(uY:Df K "_law_order" vU tE)(wp:Df K "_law_seam_by" ju xI)(xu:Df K "_law_at" jw ui)(xr:Df K "_law_is_bar" DL tO)(tV:Df K "_law_is_paper" vu xx)(uJ:Df K "_law_chain_turned" gY xg)(xf:Df K "_law_turned" bD wR)(wn:Df K "_law_copy" DU yf)(sD:Df K "law" dD x5)(gp:Nn K "MOST_POINTS" (some (.int 5 tp)))(gq:Nn K "LAST_POINT" (some (.int 99 tq)))(gs:Nn K "MOST_PIECES" (some (.int 200 ts)))(yd:Nn K "PRIMES" (some (.ref aP)))(hP:∀H,SqT K H aP [.int 2,.int 3,.int 5,.int 7])(z1:Nn K "len" none)(z2:Nn K "all" none)(z3:Nn K "zip" none)(z4:Nn K "sorted" none)(z5:Nn K "set" none)(z6:Nn K "list" none)(z7:Nn K "tuple" none)(z8:Nn K "range" none)(z9:Nn K "enumerate" none)(l_:Nn K "int" none)(im:Nn K "isinstance" none)(d_:Nn K "reversed" none)(vP:Nn K "bool" none)(b:Nn K "dict" none)(sd:Nn K "max" none):∃fd:FuncData,(∀(s:Shared)(v:Value),BindsTo s fd ⟨[v],[]⟩ [("script",v)])/\∀base:Heap,K.In base->base.Ns mainGlobals mg->BM mg base->PySem.W.CodeAll [(cO,Pt)] base->FnOk l.prog w K mg base aG 8 fa fd ["script"] (v1 K Pt):=by
 cases t8.symm.trans (sD.m X G);have B:Bt mg:=⟨z1.n X G,z2.n X G,z3.n X G,z4.n X G,z5.n X G,z6.n X G,z7.n X G,z8.n X G,z9.n X G,l_.n X G,im.n X G,d_.n X G,vP.n X G⟩;obtain⟨g1,F1,b1,m1⟩:=d1.g1 X G "numbers";obtain⟨g2,i,p,q⟩:=d2.g1 X G "piece";obtain⟨g3,F3,b3,m3⟩:=d3.g1 X G "chain";obtain⟨g4,F4,b4,m4⟩:=d4.g2 X G "piece" "often";obtain⟨g5,j,r,u⟩:=d5.g1 X G "terms";obtain⟨g6,F6,b6,m6⟩:=d6.g1 X G "order";obtain⟨g7,F7,b7,m7⟩:=d7.g1 X G "order";obtain⟨g8,F8,b8,m8⟩:=d8.g1 X G "prime";obtain⟨g9,F9,b9,m9⟩:=d9.g2 X G "order" "prime";obtain⟨BK,x,uV,yi⟩:=kr.g1 X G "order";obtain⟨y3,y,vN,xL⟩:=xz.g4 X G "piece" "rows" "times" "prime";obtain⟨Bo,e,wb,uv⟩:=r_.g2 X G "chain" "times";obtain⟨BX,A,tF,uC⟩:=xO.g2 X G "chain" "prime";obtain⟨yW,C,tj,ud⟩:=vh.g3 X G "weight" "goal" "prime";obtain⟨yZ,D,yh,tD⟩:=xt.g4 X G "chain" "often" "other" "prime";obtain⟨B0,E,xQ,wu⟩:=vB.g3 X G "order" "prime" "paper";obtain⟨BS,F,sQ,xy⟩:=vE.g3 X G "row" "times" "prime";obtain⟨Bm,I,vL,x9⟩:=yu.g5 X G "chain" "height" "time" "times" "prime";obtain⟨Bp,J,tQ,yD⟩:=wc.g2 X G "script" "k";obtain⟨y7,L,wd,vV⟩:=wY.g1 X G "cell";obtain⟨yX,f,M,N⟩:=u5.g2 X G "box" "most";obtain⟨BZ,wg,vz,vO⟩:=tR.g1 X G "piece";obtain⟨z_,O,xY,wJ⟩:=tI.g1 X G "web";obtain⟨BR,yB,uq,vM⟩:=wv.g1 X G "number";obtain⟨B4,xB,xU,uc⟩:=u6.g2 X G "box" "web";obtain⟨BL,Q,we,yK⟩:=uM.g1 X G "box";obtain⟨BP,S,uW,v9⟩:=xC.g1 X G "piece";obtain⟨Bw,T,sY,wm⟩:=uY.g2 X G "box" "known";obtain⟨Br,U,vc,uT⟩:=wp.g2 X G "chain" "prime";obtain⟨B2,Y,vG,tZ⟩:=xu.g5 X G "chain" "size" "time" "prime" "when";obtain⟨Bk,rC,s0,vW⟩:=xr.g3 X G "bar" "prime" "when";obtain⟨BE,sK,wP,uN⟩:=tV.g3 X G "order" "prime" "row";obtain⟨BT,qg,wK,x4⟩:=uJ.g4 X G "box" "chain" "order" "prime";obtain⟨BG,pW,yH,wy⟩:=xf.g4 X G "box" "told" "order" "prime";obtain⟨BB,sk,yn,xm⟩:=wn.g1 X G "told";obtain⟨⟨gL,FL⟩,_⟩:=sD;have cU:=OO e r_.a hT;refine⟨gL,?_,fun base _ _ d oA=>?_⟩
 ·obtain⟨_,_,_,_,_,_,_,_,_,rfl,_,_⟩:=FL.ex;exact fun s v=>.of_eq rfl
 have Ci:=cS F1 b1 m1 (KB (P:=l.prog) (w:=w) (base:=base) F1 B (gp.m X G) (gq.m X G));have Cr:=cS i p q (F0 (P:=l.prog) (w:=w) (base:=base) i B);have qf:=cS S uW v9 (LF (P:=l.prog) (w:=w) (base:=base) S B);have Gs:=LX (mg:=mg) (P:=l.prog) (w:=w) (base:=base) j;have Cs:=cS j r u Gs;have Gt:=LW (P:=l.prog) (w:=w) (base:=base) F4 B i p q;have Cm:=cS F3 b3 m3 (L6 F3 F4 b4 m4 Gt j r u Gs);have Co:=cS F7 b7 m7 (M0 F7 (cS F6 b6 m6 (MY F6 B (gs.m X G) Ci Cr)));have Cp:=cS F8 b8 m8 (M4 (P:=l.prog) (w:=w) (base:=base) F8 (yd.m X G) hP);have rR:=cS x uV yi (M_ (P:=l.prog) (w:=w) (base:=base) x B);have o:=cS e wb uv (Nb (P:=l.prog) (w:=w) (base:=base) e B (sd.n X G) cU oA.1 d);have g:=cS A tF uC (Nf (Pt:=Pt) A Cs);have yR:=cS C tj ud (Ni (P:=l.prog) (w:=w) (base:=base) C B);have wG:=cS D yh tD (Nk D B Cs g);have vp:=cS y vN xL (No y B Cm g o yR wG);have lW:=cS F9 b9 m9 (NC F9 B Co Cp rR vp o);have tm:=cS I vL x9 (NL I B o);have tX:=cS F sQ xy (NO F B tm Cm g);have tP:=cS E xQ wu (NP E B Co Cp rR tX);have c:=cS f M N (CI (P:=l.prog) (w:=w) (base:=base) f);have ug:=cS T sY wm (OD T B c qf);have ye:=cS U vc uT (NU U B (b.n X G) qf);have yv:=cS Y vG tZ (NW (P:=l.prog) (w:=w) (base:=base) Y B (sd.n X G));have vb:=cS rC s0 vW (NY rC yv ye);have xW:=cS sK wP uN (N0 sK B (b.n X G) vb);have uE:=cS sk yn xm (Oj (P:=l.prog) (w:=w) (base:=base) sk (b.n X G));have xS:=cS qg wK x4 (On qg B (b.n X G) c);have nG:=cS pW yH wy (Ot pW B (b.n X G) c xS);exact ON FL B (cS J tQ yD (KH J B)) (cS L wd vV (KJ L)) c (cS Q we yK (K6 Q B f M N xB xU uc yB uq vM)) (cS O xY wJ (KQ O B wg vz vO)) ug lW uE nG tP xW
def walk{l:PySem.W.OpenLaw}{q:Program}{o:List Str}{D:(Str->Option Value)->Heap->Prop}{c:World->Heap->Prop}{d:DefRec}{K:Params->Ae}{b Pt:Addr}(r:l.most=some 63)(v:d.params.defaults=[])(y:∀(w:World)(h:Heap),c w h->(K w.params).In h)(A:∀p,RH (K p)=true)(hT:∀p,P4 (K p) "youngest_of"=some (b,Pt))(C:((PyProof.Rows.recsOf q).find? (fun e=>e.name==("youngest_of":Str))).isSome=true)(F:∀(w:World)(mg:Str->Option Value)(fa:Addr)(h:Heap),(K w.params).In h->h.Ns mainGlobals mg->mg d.name=some (.ref fa)->
   ∃fd:FuncData,(∀(s:Shared)(u:Value),BindsTo s fd ⟨[u],[]⟩ [("script",u)])/\∀base:Heap,(K w.params).In base->base.Ns mainGlobals mg->BM mg base->PySem.W.CodeAll [(b,Pt)] base->FnOk l.prog w (K w.params) mg base aG 8 fa fd ["script"] (v1 (K w.params) Pt)):
  PySem.W.WalkO q o D c l.row.toRowW d [] (fun f vs=>PySem.call f vs):=
 L2.MJ (n:=63) (k:=8) (x:="script") (CX:=aG) (sp:=fun w=>v1 (K w.params) Pt) (tabs:=[(b,Pt)]) (xs:=["youngest_of"]) r ξ v ⟨rfl,ξ,ξ⟩ y A (fun p=>by show [P4 (K p) "youngest_of"]=[some (b,Pt)];rw[hT p]) (fun x hx=>by rw[OU.mp hx];exact C) F
  (fun w H a ns g i j=>⟨a,ns,rfl,i,g,j _ (OU.mpr rfl),fun _=>rfl⟩) fun _ _ _ _ z=>z
end K65
open PySem PySem.W PyProof.Rows
structure PySem.W.Fast:Prop where
 (tw10067028906240435564 tw10121586523389188245 tw101409339879285121 tw10199839198497447408 tw10308975037131150041 tw10433708335973537659 tw10512118176956351183 tw10553368847183809806 tw10866874815660734432 tw10871072474249624638 tw10899187794198266311 tw10931092506706253376 tw11151394616356956234 tw11297283658337339603 tw1143597132726873124 tw11454014845457921955 tw11635636722137786870 tw11916040774822219547 tw12013410523767983437 tw12118081131934000493 tw12252351412298521432 tw12437920894035169660 tw12657528830776386844 tw12673481638429269912 tw12767647904876927668 tw12780581970120792263 tw12794203333803319772 tw12812662591903526943 tw1282190373931114959 tw12891873019755152226 tw12918469294617087529 tw12993755123967816308 tw13054084851660109902 tw131521322031286725 tw13300188886586770047 tw13320612461670044920 tw13436837928855498829 tw13512393721983142635 tw13538056252432850729 tw1369234436911147566 tw13742639041304929698 tw13745204654836775758 tw13763113679117623603 tw13899132788493525635 tw13905209064219974455 tw13980282700959253104 tw14322176021761856337 tw14348104522264040209 tw14399043472232580749 tw14459097205360863800 tw14515823776543073780 tw14693813459846432057 tw14776618005828873128 tw14831553055975086063 tw15016232682421255888 tw15055914980464568312 tw15161195203792875476 tw15172807557123632891 tw1528442803742996406 tw15294290862927793243 tw15412704466443565834 tw15485455292181174459 tw15496962568072957573 tw15538839716977951699 tw15638351212651525404 tw15656960008607036726 tw15901314448319845588 tw1594104034257716052 tw16104542908305256348 tw16145419912260768076 tw16214718280018192494 tw16222989394805582559 tw16241623214003436035 tw16264925856382743205 tw16288355276218256898 tw16288543920639519342 tw16413708807295024726 tw16456699509848380055 tw16485986540201100705 tw16545827205837842160 tw16567673610924654775 tw16735323732555979919 tw16812722039845308168 tw16899634707305858635 tw16995979374516493233 tw17019259422795331629 tw17035555274816694319 tw17040643734445255350 tw17061261059351390914 tw17073940348896448982 tw17108870540125993775 tw1725332353509712168 tw17290878193911063070 tw17440261985461837607 tw17469621468894079285 tw17529559274588972402 tw17744159294332840714 tw17808590132822984748 tw17861424680964364393 tw17902969235300573822 tw17909356550384492746 tw17986205069614789140 tw17989941058540331313 tw1800671067691547883 tw18189046425918997655 tw18254276442638384385 tw18260041259559405954 tw18358487846606950600 tw1873076732618732966 tw1919230762559339894 tw1951453921495453499 tw1953502120067933557 tw1978467607997993038 tw2022277179535226363 tw2046752466607991158 tw206631941781585174 tw2252903994990404943 tw2294836096920500181 tw2312066738634348823 tw2495141969801315345 tw2511571442312244914 tw2582658503677473071 tw2701461262514240553 tw2822241431602096363 tw2877946185247172397 tw2986333475195136354 tw300292717139866556 tw3091346756316869798 tw3151400717304350887 tw3321635964776178305 tw3327185688928134614 tw33526373379113223 tw3441519210071175979 tw3591917265154710860 tw3638527050801108310 tw3706951552624296843 tw3738715011812337080 tw3826134093531064115 tw3917198546306294565 tw3941886278349151359 tw3979007893350961325 tw398099833604349274 tw3996365770296880914 tw4163959993804973385 tw4171505019450245247 tw421389246007129620 tw4217980985706419098 tw424426371188078126 tw4252486341105902248 tw4269804723568687775 tw4279054196249452685 tw4287297194615198743 tw435577749211964550 tw4562463625223967334 tw463161161055874120 tw4841655983028093814 tw4846326618496611068 tw4866461126053528793 tw4963373169091990922 tw5206152160039206704 tw5251808316415141856 tw526242656608909409 tw5466817414535426655 tw5485527555325914947 tw5487188896890179310 tw5554300159511220343 tw5761222746265648878 tw5765104957753218370 tw5783739016378149118 tw5794912900223405623 tw5936361519842402400 tw6000446618009440813 tw6017872095202236017 tw6058159649175086479 tw6063057862555863941 tw6075887386645226184 tw620797386201378339 tw6222809060956933850 tw6247287036719578991 tw6306711094341661374 tw6311233814666581693 tw6364218248885314217 tw6374681654933393368 tw6377483724596987394 tw6380217925349782276 tw6448322285384981590 tw6448608451685605707 tw6490624126221631851 tw6537146220033123959 tw6708249701958083190 tw6739699297062406811 tw6775415264894910838 tw6798412929155835449 tw6931854106084908979 tw7015296483725539998 tw704586098286803383 tw7102731036712142136 tw7150541822565632518 tw7163340288699474742 tw7167353560944497011 tw7206272054187801476 tw7277836122305188558 tw7381356603580211199 tw7392717257160414533 tw7517271966853144918 tw7540879722017537186 tw7573526219165531229 tw7604009878355010132 tw7733151579065784768 tw774065085737462509 tw7749389393488168286 tw7784275813037485729 tw7833023991701366365 tw830289969198941051 tw8332538134453828740 tw8359004276317235454 tw8372417677861774644 tw8449611995474777244 tw8485036431469964221 tw8577997025198851963 tw8625141237250910760 tw8685289164581060800 tw8738737234814272753 tw8935159520671564448 tw8955989804626884732 tw8982976782701368589 tw9095726573308724674 tw91523165029164639 tw9166953299816214072 tw9193690930040791595 tw9216283895997836973 tw921773212511857125 tw935258392870060466 tw9354912679847332463 tw9434534885335311987 tw9440210680596966992 tw950286478630299736 tw9523852244911207529 tw9557018269753108418 tw9676812884368961120 tw9751338560629075424 tw9766123771383481345 tw9903605224615475307 tw991127184713833800 tw9948015333510714452 tw9972570030921534134:True)
set_option maxRecDepth 100000 in
set_option maxHeartbeats 0 in
theorem PySem.Challenge.cw_seamwright_k65_papers_of_bars_judged_holds : PySem.Challenge.rw_seamwright_k65_papers_of_bars_judged.Holds := by
 w_on; o_law; k_head; (case hw=>w_witness2)
 k_fill
 refine' K65.walk (l:=PySem.Challenge.rw_seamwright_k65_papers_of_bars_judged) rfl rfl (fun w h Y=>PySem.W.km_in_of Y) (fun _=>by kernel_rfl) ?T ?R ?F
 case T=>
  intro p;refine' L2.H_ ?a ?l ?c ?m ?v
  (case a=>k_is)
  (case l=>k_is)
  (case c=>rfl)
  (case m=>k_is)
  (case v=>rfl)
 case R=>decide +kernel
 case F=>
  intro w mg fa h KX G fh;refine' K65.OQ KX G fh ?_ ?_ ?_ ?_ ?_ ?_ ?_ ?_ ?_ ?_ ?_ ?_ ?_ ?_ ?_ ?_ ?_ ?_ ?_ ?_ ?_ ?_ ?_ ?_ ?_ ?_ ?_ ?_ ?_ ?_ ?_ ?_ ?_ ?_ ?_ ?_ ?_ ?_ ?_ ?_ ?_ ?_ ?_ ?_ ?_ ?_ ?_ ?_ ?_ ?_ ?_ ?_ ?_ ?_ ?_ ?_ ?_
  all_goals try first | (refine' L2.H_ ?a ?l ?c ?m ?v; (case a=>k_is); (case l=>k_is); (case c=>rfl); (case m=>k_is); (case v=>rfl)) | refine' L2.Do ?_ ?_ ?_ ?_ | refine' L2.Nn.mk ?_ | refine' K65.OP ?_
  all_goals try first | k_is | kit_is | k_exc
#print axioms PySem.Challenge.cw_seamwright_k65_papers_of_bars_judged_holds
end
