import PyProof.Rows.All
import Wide.All
import OpenK.AllK
import Wide.FinOn
import Lean
import PyProof.EqAt
import PyProof.EqKinds
import PyProof.TupleCall
import PyProof.Rows.SortRuns
import KE.KSortKey
import KE.KListMore
import KE.KIntText
import KE.KEqDat
import PyProof.Rows.CallKwBuiltin
import PySem.SetTable
import PyProof.Rows.SetFrom
import PyProof.TupleKey
import PyProof.IsRules
import KE.KRevIter
import PyProof.ListRange
import PyProof.TupleOfGen
import PyProof.CollectIter
import PySem.Challenge.RW_seamwright_k66_whole_holes_at_times
import KE.KDictLaws
import PyProof.DictWalks
import PyProof.DictItems
import PyProof.SetNew
import PyProof.DictCopy
import PyProof.FactsAll.dict_1
import PyProof.FactsAll.set_2
import PyProof.FactsAll.subtypes_5
import PyProof.AttrMissHeap
import PyProof.MinMaxWalk
import PyProof.SumAny
import PyProof.StationsW
import PyProof.ExcClass3
import OpenK.KOwn
import PyProof.ExcArgsOwn
import KE.KLam
import KE.KMinKey
import PyProof.DictTruth
import PyProof.DictFindH
import PyProof.NeKinds
import KE.KDictList
import KE.KDictSum
open PySem renaming wpAny_bind->Aa,wpAny_pure->Ae,wpAny_holding->AD,wpAny_field->AO,wpAny_newObj_type->AQ,bootBuiltins->AV,wpAny_call_entry->AZ,codeAny_builtin->A0,mem_of_lookup->A6,wpAny_seqItems->A8,wpAny_dictEntries->A9,plainId_quiet->Bb,wpAny_setField_rec->Bc,cellsFrom->Bh
open List renaming length_map->Ab,getElem?_eq_getElem->Ah,getElem?_map->Ai,map_map->Aj,map_append->Ak,size_toArray->Al,mem_of_getElem?->Ao,length_append->Ap,map_cons->As,length_cons->At,length_take->Aw,mem_cons_of_mem->Ax,mem_cons_self->Az,map_congr_left->AA,take_of_length_le->AB,range->AI,filter_append->AJ,mem_append_right->AN,pairwise_map->AS,lookup_cons->AT,flatMap_cons->Bf
open PySem.W renaming Frag->Ac,kitOne->A4,findIn->Bd
open PySem.Heap renaming get?_push_of_some->Ad,lt_size->Am,get?_push_size->An,get?_update_other->AE
open Nat renaming le_refl->Af,ne_of_lt->Ar,lt_of_lt_of_le->Au,le_trans->Ay,ne_of_gt->AW,zero_le->AX,lt_succ_of_lt->Ba
open Option.some renaming inj->Ag,injEq->Be
open Bool renaming false_ne_true->Aq,and_eq_true->AF,false_eq_true->AG
open Int renaming dvd_zero->Av,dvd_trans->AU,dvd_mul_left->A7,dvd_add->Bg
open PyProof.Rows renaming take_snoc->AC
open PySem.Obj renaming mapSeq->AH
open PySem.PassesOwn renaming never->AK
open PySem.F renaming plain_max_loop->AL
open PySem.Around renaming under_plainId->AM
open PySem.Heap.SameBut renaming update->AR
open PySem.Paired renaming length->AY
open PySem.NameKind renaming free->A5
open List renaming mem_map->Bp,getElem?_eq_some_iff->KK,mem_cons->Pa,mem_singleton->Pb,mem_iff_getElem?->Pc,mem_filter->Pd,mem_append->Pe,eq_nil_of_length_eq_zero->Pf,nodup_cons->Pg,filter_cons_of_neg->Pi,filter_cons_of_pos->Pj,nodup_append->Pk,append_nil->Po,getElem_mem->Pq,mem_flatMap->Ps,mem_append_left->Pu,pairwise_iff_getElem->Pw,length_nil->Pz,length_drop->PB,getElem?_eq_none->PD,length_filter_le->PF,mem_range->PJ,pairwise_cons->PK,find?_cons->PL,filter_nil->PM,sum_cons->PN,all_eq_true->PP,drop_eq_getElem_cons->PQ,getElem?_inj->PR,getElem?_take_of_lt->PU,nodup_nil->PV,getElem?_append_right->P8,nodup_iff_pairwise_ne->Qa,getElem?_append_left->Qd,foldl_append->Qk,foldl_cons->Qn,any_eq_true->Qs,getElem?_zip_eq_some->Qt,getElem?_range->Qy,filter_sublist->Qz,getElem?_set_self->QC,map_inj_right->QD,length_zip->QG,length_range->QI,mem_of_mem_take->QJ,getElem?_of_mem->QK,filter_cons->QO,map_eq_nil_iff->QT,zipIdx_map_fst->QV,any_cons->QX,map_take->QZ,of_mem_zip->Q2,getElem?_cons_succ->Q4,any_eq_false->Q5,map_nil->Q8,drop_of_length_le->Rg,take_append_drop->Ri,map_fst_zip->Rl,getElem?_set_ne->Rn,getElem?_zipIdx->Ro,forIn_cons->Rp,filterMap_cons->Rs,flatMap_append->Rt,mem_map_of_mem->Ru,map_id'->Rw,replicate->Rz,zip_cons_cons->RC,take_zero->RD,length_zipIdx->RE,filter_filter->RH,ext_getElem?->RJ,take_add_one->RN,append_assoc->RO,all_cons->RR,map_drop->RT,not_mem_nil->RY,zipWith->R5
open PySem.F renaming plainAttrs_list->Ph,slot_dict_itemiterator_next->PX,slot_dict_keyiterator_next->P0,entry_max_loop->Qb,plain_extend_loop->Qf,slot_list_append->Qh,type_list_append->Qi,args_dict_itemiterator_next_1->QR,args_dict_keyiterator_next_1->QS,entry_dict_itemiterator_next->QU,args_tuple_add_2->QW,entry_dict_keyiterator_next->QY,entry_tuple_add->Q3,slot_tuple_add->Q7,slot_dict_get->Rh,slot_dict_items_iter->Rq,excBase_ValueError->RG
open Bool renaming and_eq_true_iff->Pm,eq_iff_iff->Qm,and_false->Q9,not_eq_true'->Ra,not_true->RS
open Option renaming isSome_iff_exists->Pn,map_some->Pp,map_eq_some_iff->P9,bind_some->Rk,getD_some->RX
open Int renaming dvd_sub->Pv,emod_lt_of_pos->Px,dvd_of_emod_eq_zero->PH,emod_nonneg->PZ,le_refl->P4,eq_ofNat_of_zero_le->P5,toNat_natCast->Qj,dvd_mul_right->Ql,emod_eq_zero_of_dvd->QB,sub_self->QF,dvd_neg->QL,le_of_dvd->Q0,mul_zero->Rb,sub_zero->Rc,mul_sub->RP,one_mul->RQ,le_of_lt->R0,mul_emod->R3,zero_mul->R4
open PySem.W renaming kia_one->Py,excIn->PY,cellsFrom_some->P7,fnOf->Qp,mroIn->Qq,tabIn->Qr,specialIn->Qu,mg_of->Qx,keepIn->QA,clsIn->QH,takesIn->Q1,codeIn->Q6,kla_fn->Re,tabObj->Rf,kla_obj->Rr,nsIn->Rx,envX->Ry,methodObj->RI,plainGet->RU,kdl_call->RZ,instObj->R6,lookIn->R7,noTabs->R8
open PyProof.Rows renaming callWith_type1->P6,slot_tuple_getitem->Qc,envOfC->Rv
open Array renaming getElem?_eq_getElem->Qe,length_toList->Qo,getElem?_eq_some_iff->QM
open Nat renaming le_of_lt->Qg,le_succ->Qv,lt_irrefl->Qw,lt_or_ge->QE,lt_trans->QN,lt_succ_self->QP,le_add_right->QQ,min_le_right->Rj,lt_or_gt_of_ne->RF,le_succ_of_le->RK,le_of_succ_le->RM,succ_le_succ->RV,le_of_not_lt->RW,sub_zero->R1
set_option linter.all false
set_option Elab.async false
set_option maxRecDepth 100000
set_option maxHeartbeats 4000000
theorem Sa{c:Prop}{h:Decidable c}(x:c){α:Sort _}{t e:α}:@ite α c h t e=t:=if_pos x
theorem Sb{c:Prop}{h:Decidable c}(x:¬c){α:Sort _}{t e:α}:@ite α c h t e=e:=if_neg x
theorem Sc{p:Prop}[Decidable p](h:p):decide p=true:=decide_eq_true h
theorem Sd{p:Prop}[Decidable p](h:¬p):decide p=false:=decide_eq_false h
theorem Se{p:Prop}[Decidable p](h:decide p=true):p:=of_decide_eq_true h
def δ{p:Prop}(h:p:=by decide +kernel):p:=h
def ω{p:Prop}(h:p:=by omega):p:=h
def ξ{p:Prop}(h:p:=by decide):p:=h
abbrev Ω:=PySem.Value->PySem.Shared->Prop
abbrev Ξ:=List (List Int)
abbrev Ψ:=List (PySem.Addr×PySem.Obj)
local macro_rules|`($s⁻¹)=>`(($s).heap.objs.size)
section
namespace L2
open PySem PySem.Spec PyProof.Rows
abbrev Key:=Sum Int Str
def lQ:Key->Value->Bool
 |.inl k,v=>Value.isInt k v
 |.inr x,v=>Value.isStrOf x v
def uq(w:World):Key->Int
 |.inl k=>hashInt k
 |.inr x=>hashStr w x
def aS:∀{k:Key}{v:Value},lQ k v=true->(∃i t,k=Sum.inl i/\v=Value.int i t)\/(∃x t,k=Sum.inr x/\v=Value.str x t)
 |.inl i,v,h=>by
  obtain⟨t,e⟩:=Value.isInt_shape (k:=i) (v:=v) h;exact .inl ⟨i,t,rfl,e⟩
 |.inr x,v,h=>by
  obtain⟨t,e⟩:=Value.isStrOf_shape (x:=x) (v:=v) h;exact .inr ⟨x,t,rfl,e⟩
def ID(i:Int)(t:Tok):lQ (.inl i) (.int i t)=true:=by simp[lQ,Value.isInt]
def IE(x:Str)(t:Tok):lQ (.inr x) (.str x t)=true:=by simp[lQ,Value.isStrOf]
def IF(a b:Int):decide ((Sum.inl a:Key)=Sum.inl b)=(a==b):=by
 by_cases e:a=b
 ·subst e;simp
 ·have h:¬(Sum.inl a:Key)=Sum.inl b:=fun q=>e (Sum.inl.inj q)
  rw[Sd h];exact(beq_eq_false_iff_ne.mpr e).symm
def IG(a b:Str):decide ((Sum.inr a:Key)=Sum.inr b)=decide (a=b):=by
 by_cases e:a=b
 ·subst e;simp
 ·have h:¬(Sum.inr a:Key)=Sum.inr b:=fun q=>e (Sum.inr.inj q)
  rw[Sd h,Sd e]
def IH(a:Int)(b:Str):decide ((Sum.inl a:Key)=Sum.inr b)=false:=Sd (fun q=>nomatch q)
def IJ(a:Str)(b:Int):decide ((Sum.inr a:Key)=Sum.inl b)=false:=Sd (fun q=>nomatch q)
def zr(prog:Program)(w:World):PySem.KeyKind prog w Key where
 is:=lQ
 hash:=uq w
 inj:=fun v a b ha hb=>by
  rcases aS ha with ⟨i,t,rfl,rfl⟩|⟨x,t,rfl,rfl⟩
  ·rcases aS hb with ⟨j,u,rfl,e⟩|⟨y,u,rfl,e⟩
   ·injection e with e1 _;rw[e1]
   ·exact nomatch e
  ·rcases aS hb with ⟨j,u,rfl,e⟩|⟨y,u,rfl,e⟩
   ·exact nomatch e
   ·injection e with e1 _;rw[e1]
 byValue:=fun k v h=>by
  rcases aS h with ⟨i,t,rfl,rfl⟩|⟨x,t,rfl,rfl⟩<;>rfl
 pyHash:=fun c h=>by
  rcases aS c with ⟨i,t,rfl,rfl⟩|⟨x,t,rfl,rfl⟩
  ·exact wpAny_pyHash_int h
  ·exact wpAny_pyHash_str h
 eqBool:=fun hu c h=>by
  rcases aS hu with ⟨i,t,rfl,rfl⟩|⟨x,t,rfl,rfl⟩
  ·rcases aS c with ⟨j,u,rfl,rfl⟩|⟨y,u,rfl,rfl⟩
   ·rw[IF] at h;exact wpAny_eqBool_int h
   ·rw[IH] at h;exact SeqAt.EqAt.int_str i t y u _ _ _ _ h
  ·rcases aS c with ⟨j,u,rfl,rfl⟩|⟨y,u,rfl,rfl⟩
   ·rw[IJ] at h;exact SeqAt.EqAt.str_int x t j u _ _ _ _ h
   ·rw[IG] at h;exact wpAny_eqBool_str h
 «strs»:=fun k x t v h=>by
  rcases aS h with ⟨i,u,rfl,e⟩|⟨y,u,rfl,e⟩
  ·exact nomatch e
  ·injection e with e1 _
   subst e1;cases v<;>rfl
def uy(prog:Program)(w:World)(i:Int)(t:Tok):(zr prog w).is (.inl i) (.int i t)=true:=ID i t
def IK(prog:Program)(w:World)(x:Str)(t:Tok):(zr prog w).is (.inr x) (.str x t)=true:=IE x t
inductive V where
 |non|bl (b:Bool)|int (i:Int)|str (x:Str)|byt (b:Array UInt8)|flt (b:UInt64)|ref (a:Addr)|ty (n:String)
 deriving DecidableEq
def RelV:V->Value->Prop
 |.non,u=>u=Value.none
 |.bl b,u=>u=Value.bool b
 |.int i,u=>∃t,u=Value.int i t
 |.str x,u=>∃t,u=Value.str x t
 |.byt b,u=>∃t,u=Value.bytes b t
 |.flt b,u=>∃t,u=Value.float b t
 |.ref a,u=>u=Value.ref a
 |.ty n,u=>u=Value.type n
abbrev Vals:List V->List Value->Prop:=Paired RelV
def Vals.length{xs:List V}{us:List Value}(r:Vals xs us):xs.length=us.length:=AY r
def Vals.get:∀{xs:List V}{us:List Value}{i:Nat}{x:V},Vals xs us->xs[i]?=some x->∃u,us[i]?=some u/\RelV x u
 |_,_,_,_,.nil,e=>by simp at e
 |_,_,0,_,.cons r _,e=>by simp at e;subst e;exact⟨_,rfl,r⟩
 |_,_,i+1,x,.cons _ t,e=>by
  obtain⟨u,h1,h2⟩:=Vals.get (i:=i) (x:=x) t (by simpa using e);exact⟨u,by simpa using h1,h2⟩
def Vals.set{x:V}{u:Value}(r:RelV x u):∀{xs:List V}{us:List Value}(i:Nat),Vals xs us->Vals (xs.set i x) (us.set i u)
 |_,_,_,.nil=>.nil
 |_,_,0,.cons _ t=>.cons r t
 |_,_,i+1,.cons q t=>.cons q (Vals.set r i t)
def Vals.append{xs ys:List V}{us a:List Value}(h:Vals xs us)(g:Vals ys a):Vals (xs++ys) (us++a):=by
 induction h with
 |nil=>exact g
 |cons r _ ih=>exact .cons r ih
def Vals.take:∀{xs:List V}{us:List Value}(n:Nat),Vals xs us->Vals (xs.take n) (us.take n)
 |_,_,0,_=>.nil
 |_,_,_+1,.nil=>.nil
 |_,_,n+1,.cons r t=>.cons r (Vals.take n t)
def Vals.drop:∀{xs:List V}{us:List Value}(n:Nat),Vals xs us->Vals (xs.drop n) (us.drop n)
 |_,_,0,r=>r
 |_,_,_+1,.nil=>.nil
 |_,_,n+1,.cons _ t=>Vals.drop n t
def RelO:Option V->Option Value->Prop
 |some v,some u=>RelV v u
 |none,none=>True
 |_,_=>False
def KV{κ:Type}:List (κ×V)->List (κ×Value)->Prop:=Paired fun(p:κ×V)(q:κ×Value)=>p.1=q.1/\RelV p.2 q.2
def kV:Key->V
 |.inl i=>.int i
 |.inr x=>.str x
inductive HO where
 |lst (xs:List V)
 |tup (xs:List V)
 |dK (kvs:List (Key×V))|dT (kvs:List (List Key×V))
 |set (S:Int->Bool) (n:Nat)
 |ins (C dx:Addr) (fs:List (Str×V))
 |own (x:Addr)
 |xd (fs:List (Str×V))
 |met (f x:Addr)
 |rng (lo hi:Int)
 |frz (o:Obj) (u:HO)
 |tbl (ps:Array Value)
 |ext (φ:Heap->Prop)
abbrev Hp:=Addr->Option HO
def upd(H:Hp)(a:Addr)(o:HO):Hp:=fun b=>if b=a then some o else H b
def ag{H:Hp}{a:Addr}{o:HO}:upd H a o a=some o:=by unfold upd;rw[Sa rfl]
def al{H:Hp}{a b:Addr}{o:HO}(h:b≠a):upd H a o b=H b:=by unfold upd;rw[Sb h]
def DZ{H:Hp}{a:Addr}{o u:HO}:upd (upd H a o) a u=upd H a u:=by
 funext b;unfold upd;split<;>rfl
def a7{H:Hp}{a b:Addr}{o u:HO}(h:H a=some o)(h':H b=some u)(d:o≠u):a≠b:=by
 intro e;subst e;rw[h] at h';exact d (Ag h')
def zg{H:Hp}{a b:Addr}{o:HO}(h:H a=some o)(h':H b=none):a≠b:=by
 intro e;subst e;rw[h] at h';cases h'
section
variable(P:Program)(w:World)
def zw(H:Hp)(h:Heap)(a:Addr):HO->Prop
 |.lst xs=>xs.length<=sizeLine/\∃(ae:List Value)(n:Nat),Vals xs ae/\h.get? a=some {cls:=.type "list",data:=.seq ae.toArray n}
 |.tup xs=>xs.length<=sizeLine/\∃ae:List Value,Vals xs ae/\IsTup h a ae.toArray
 |.dK kvs=>kvs.length<=sizeLine/\(a==sysModules)=false/\∃vs,KV kvs vs/\h.DictOf (zr P w) a vs
 |.dT kvs=>kvs.length<=sizeLine/\(a==sysModules)=false/\∃xs:List (List Key×Addr×Value),
   Paired (fun(p:List Key×V)(q:List Key×Addr×Value)=>p.1=q.1/\H q.2.1=some (.tup (p.1.map kV))/\RelV p.2 q.2.2) kvs xs/\
   ∃o es ep,h.get? a=some o/\o.ExactDict/\o.data=.dict es ep/\es.toList=xs.map (entryOfKey (tupleKind (zr P w)))/\(xs.map (·.1)).Nodup
 |.set S n=>h.SetOf (intKind P w) a S n
 |.ins C dx fs=>H dx=some (.own a)/\fs.length<=1000/\dx≠a/\h.get? a=some (R6 C dx)/\
   ∃mA,h.Ns1 dx mA/\(∀f,RelO (fs.lookup f) (mA f))/\PySem.Within mA (fs.map (·.1))
 |.own _=>∃o,h.get? a=some o
 |.xd fs=>∃mA,h.Ns1 a mA/\∀f,RelO (fs.lookup f) (mA f)
 |.rng lo hi=>∃t u v,h.get? a=some {cls:=.type "range",data:=.fields #[.int lo t,.int hi u,.int 1 v]}
 |.frz o u=>h.get? a=some o/\zw H h a u
 |.tbl ps=>h.get? a=some {cls:=.none,data:=.fields ps}
 |.met f x=>h.get? a=some (RI (.ref f) (.ref x))
 |.ext φ=>φ h/\(∃o,h.get? a=some o)/\∀h1 h2:Heap,φ h1->(∀o,h1.get? a=some o->h2.get? a=some o)->φ h2
def HOk(H:Hp)(h:Heap):Prop:=∀a o,H a=some o->zw P w H h a o
end
section
variable{P:Program}{w:World}{H H':Hp}{h h':Heap}{a:Addr}{o:HO}
def zw.lt(x:zw P w H h a o):a<h.objs.size:=by
 cases o with
 |lst xs=>obtain⟨_,_,_,_,e⟩:=x;exact Am e
 |tup xs=>obtain⟨_,_,_,p⟩:=x;exact p.lt
 |dK kvs=>obtain⟨_,_,_,_,o,_,_,e,_⟩:=x;exact Am e
 |dT kvs=>obtain⟨_,_,_,_,o,_,_,e,_⟩:=x;exact Am e
 |set S n=>obtain⟨o,_,_,_,e,_⟩:=x;exact Am e
 |ins C dx fs=>obtain⟨_,_,_,e,_⟩:=x;exact Am e
 |own y=>obtain⟨_,e⟩:=x;exact Am e
 |xd fs=>obtain⟨_,⟨_,_,_,e,_⟩,_⟩:=x;exact Am e
 |rng lo hi=>obtain⟨_,_,_,e⟩:=x;exact Am e
 |frz ob u=>obtain⟨e,_⟩:=x;exact Am e
 |tbl ps=>exact Am (show h.get? a=some _ from x)
 |met f y=>exact Am (show h.get? a=some _ from x)
 |ext φ=>obtain⟨_,⟨_,e⟩,_⟩:=x;exact Am e
def Paired.mapP{c d:Type}{F G:c->d->Prop}{l₁:List c}{l₂:List d}(h:Paired F l₁ l₂)(f:∀a b,F a b->G a b):Paired G l₁ l₂:=by
 induction h with
 |nil=>exact .nil
 |cons r _ ih=>exact .cons (f _ _ r) ih
def zw.stay(x:zw P w H h a o)(k:∀b u,(b=a\/H b=some (.own a))->h.get? b=some u->h'.get? b=some u)(i:∀b,H b=some (.own a)->H' b=some (.own a))(ht:∀b xs,H b=some (.tup xs)->H' b=some (.tup xs)):zw P w H' h' a o:=by
 induction o with
 |lst xs=>obtain⟨z,ae,n,r,e⟩:=x;exact⟨z,ae,n,r,k _ _ (.inl rfl) e⟩
 |tup xs=>obtain⟨z,ae,r,ob,e,c⟩:=x;exact⟨z,ae,r,ob,k _ _ (.inl rfl) e,c⟩
 |dK kvs=>obtain⟨z,y,vs,r,ob,es,ep,e,c⟩:=x;exact⟨z,y,vs,r,ob,es,ep,k _ _ (.inl rfl) e,c⟩
 |dT kvs=>
  obtain⟨z,y,xs,r,ob,es,ep,e,c⟩:=x;exact⟨z,y,xs,Paired.mapP r fun p q z=>⟨z.1,ht _ _ z.2.1,z.2.2⟩,ob,es,ep,k _ _ (.inl rfl) e,c⟩
 |set S n=>obtain⟨ob,es,ep,t,e,c⟩:=x;exact⟨ob,es,ep,t,k _ _ (.inl rfl) e,c⟩
 |ins C dx fs=>
  obtain⟨d,z,ne,e,mA,⟨g,es,ep,e2,c⟩,r⟩:=x;exact⟨i _ d,z,ne,k _ _ (.inl rfl) e,mA,⟨g,es,ep,k _ _ (.inr d) e2,c⟩,r⟩
 |own y=>obtain⟨ob,e⟩:=x;exact⟨ob,k _ _ (.inl rfl) e⟩
 |xd fs=>obtain⟨mA,⟨g,es,ep,e,c⟩,r⟩:=x;exact⟨mA,⟨g,es,ep,k _ _ (.inl rfl) e,c⟩,r⟩
 |rng lo hi=>obtain⟨t,u,v,e⟩:=x;exact⟨t,u,v,k _ _ (.inl rfl) e⟩
 |frz ob u ih=>obtain⟨e,q⟩:=x;exact⟨k _ _ (.inl rfl) e,ih q⟩
 |tbl ps=>
  have e:h.get? a=some {cls:=.none,data:=.fields ps}:=x;show h'.get? a=some {cls:=.none,data:=.fields ps};exact k a _ (.inl rfl) e
 |met f y=>
  have e:h.get? a=some (RI (.ref f) (.ref y)):=x;show h'.get? a=some (RI (.ref f) (.ref y));exact k a _ (.inl rfl) e
 |ext φ=>obtain⟨p,⟨o,e⟩,st⟩:=x;exact⟨st _ _ p fun o q=>k _ _ (.inl rfl) q,⟨o,k _ _ (.inl rfl) e⟩,st⟩
def HOk.lt(x:HOk P w H h)(e:H a=some o):a<h.objs.size:=(x a o e).lt
def HOk.fresh(x:HOk P w H h)(e:h.objs.size<=a):H a=none:=by
 cases q:H a with
 |none=>rfl
 |some u=>exact absurd (Au (x.lt q) e) (Qw _)
def HOk.kept(x:HOk P w H h)(k:∀b u,h.get? b=some u->h'.get? b=some u):HOk P w H h':=fun a o e=>
 (x a o e).stay (fun b u _ q=>k b u q) (fun _ q=>q) fun _ _ q=>q
def HOk.laid(x:HOk P w H h)(k:∀b u,h.get? b=some u->h'.get? b=some u)(hp:h.objs.size<=a)(new:zw P w (upd H a o) h' a o):HOk P w (upd H a o) h':=fun b u e=>by
 have d:=x.fresh hp
 by_cases hb:b=a
 ·subst hb;rw[ag] at e;cases e;exact new
 ·rw[al hb] at e
  exact(x b u e).stay (fun c v _ q=>k c v q) (fun c q=>by rw[al (zg q d)];exact q) fun c xs q=>by rw[al (zg q d)];exact q
end
def Rd(H:Hp)(a:Addr)(u:HO):Prop:=H a=some u\/∃o,H a=some (.frz o u)
def Rd.of{H:Hp}{a:Addr}{u:HO}(h:H a=some u):Rd H a u:=.inl h
def Rd.ok{P:Program}{w:World}{H:Hp}{h:Heap}{a:Addr}{u:HO}(r:Rd H a u)(x:HOk P w H h):zw P w H h a u:=by
 rcases r with r|⟨o,r⟩
 ·exact x a u r
 ·obtain⟨_,q⟩:=x a _ r
  exact q
def nE:Option HO->Prop
 |some (.lst _)=>True
 |some (.dK _)=>True
 |some (.dT _)=>True
 |some (.set _ _)=>True
 |some (.ins _ _ _)=>True
 |some (.ext _)=>True
 |_=>False
section
variable{P:Program}{w:World}{H:Hp}{h h':Heap}{x e:Addr}{o':HO}
def HOk.write(ok:HOk P w H h)(g:nE (H x))(he:e=x\/H e=some (.own x))(k:∀b u,b≠e->h.get? b=some u->h'.get? b=some u)(l:∃u,h'.get? e=some u)(new:zw P w (upd H x o') h' x o'):HOk P w (upd H x o') h':=fun b u q=>by
 have d:∀c y,H c=some (.own y)->c≠x:=fun c y r z=>by subst z;rw[r] at g;exact g
 have f:∀c xs,H c=some (.tup xs)->c≠x:=fun c xs r z=>by subst z;rw[r] at g;exact g
 by_cases hb:b=x
 ·subst hb;rw[ag] at q;cases q;exact new
 ·rw[al hb] at q
  by_cases a:b=e
  ·have i:H b=some (.own x):=by
    rcases he with z|z
    ·exact absurd (a.trans z) hb
    ·rw[a];exact z
   rw[q] at i;cases i;obtain⟨v,j⟩:=l;exact⟨v,by rw[a];exact j⟩
  ·refine(ok b u q).stay (fun c v hc r=>k c v ?_ r) (fun c r=>by rw[al (d c b r)];exact r) fun c xs r=>by rw[al (f c xs r)];exact r
   rcases hc with rfl|hc
   ·exact a
   ·rintro rfl
    rcases he with z|z
    ·exact d c b hc z
    ·rw[hc] at z;cases z;exact hb rfl
end
structure Un(fs ex:List Addr)(H H':Hp)(h h':Heap):Prop where
 keep:∀b o,h.get? b=some o->H b=none->b∉fs->b∉ex->h'.get? b=some o
 slot:∀b o,h.get? b=some o->H b=none->b∈fs->b∉ex->∃sl,h'.get? b=some {o with slots:=sl}
 free:∀b o,h.get? b=some o->H b=none->b∉ex->H' b=none
 there:∀b o,h.get? b=some o->b∉ex->∃o',h'.get? b=some o'
 tups:∀b xs,H b=some (.tup xs)->H' b=some (.tup xs)
 frzs:∀b o u,H b=some (.frz o u)->H' b=some (.frz o u)
 tbls:∀b ps,H b=some (.tbl ps)->∃more,H' b=some (.tbl (ps++more))
section
variable{fs uF ex B4:List Addr}{H H1 H2:Hp}{h h1 h2 h':Heap}{a x e:Addr}{o:HO}
def Un.any(u:Un fs ex H H1 h h1){b:Addr}{ob:Obj}(q:h.get? b=some ob)(n:H b=none)(hx:b∉ex):∃a,h1.get? b=some {ob with slots:=a}:=by
 by_cases hb:b∈fs
 ·exact u.slot b ob q n hb hx
 ·exact⟨ob.slots,u.keep b ob q n hb hx⟩
def Un.kept(k:∀b u,h.get? b=some u->h'.get? b=some u):Un fs ex H H h h':=
 ⟨fun b ob q _ _ _=>k b ob q,fun b ob q _ _ _=>⟨ob.slots,k b ob q⟩,fun _ _ _ n _=>n,fun b ob q _=>⟨ob,k b ob q⟩,fun _ _ q=>q,fun _ _ _ q=>q,fun _ ps q=>⟨#[],by rw[q];simp⟩⟩
def Un.refl:Un fs ex H H h h:=Un.kept fun _ _ q=>q
def Un.laid(k:∀b u,h.get? b=some u->h'.get? b=some u)(hp:h.objs.size<=a)(c:H a=none):Un fs ex H (upd H a o) h h' where
 keep:=fun b u q _ _ _=>k b u q
 slot:=fun b u q _ _ _=>⟨u.slots,k b u q⟩
 free:=fun b u q n _=>by rw[al (Ar (Au (Am q) hp))];exact n
 there:=fun b u q _=>⟨u,k b u q⟩
 tups:=fun b xs q=>by rw[al (zg q c)];exact q
 frzs:=fun b u xs q=>by rw[al (zg q c)];exact q
 tbls:=fun b ps q=>⟨#[],by rw[al (zg q c),q];simp⟩
def Un.write(c:nE (H x))(he:e=x\/H e=some (.own x))(k:∀b u,b≠e->h.get? b=some u->h'.get? b=some u)(d:∃u,h'.get? e=some u):Un fs ex H (upd H x o) h h':=by
 have hx:∀b,H b=none->b≠x:=fun b n z=>by subst z;rw[n] at c;exact c
 have hb:∀b,H b=none->b≠e:=fun b n z=>by
  subst z;rcases he with r|r
  ·exact hx b n r
  ·rw[n] at r;cases r
 have hm:∀b u,H b=some u->¬nE (some u)->b≠x:=fun b u q nm z=>by subst z;rw[q] at c;exact nm c
 refine⟨fun b u q n _ _=>k b u (hb b n) q,fun b u q n _ _=>⟨u.slots,k b u (hb b n) q⟩,fun b u q n _=>by rw[al (hx b n)];exact n,fun b u q _=>?_,
  fun b xs q=>by rw[al (hm b _ q fun z=>z)];exact q,fun b u xs q=>by rw[al (hm b _ q fun z=>z)];exact q,fun b ps q=>⟨#[],by rw[al (hm b _ q fun z=>z),q];simp⟩⟩
 by_cases a:b=e
 ·subst a;exact d
 ·exact⟨u,k b u a q⟩
end
def ql(h:Heap)(H:Hp):List Addr:=(AI h.objs.size).filter fun a=>(H a).isSome
def cI(h:Heap)(H:Hp):Heap:=PySem.W.hideAll h (ql h H)
def D0(h:Heap)(H:Hp):(cI h H).objs.size=h.objs.size:=PySem.W.hideAll_size _ _
def D6{h:Heap}{H:Hp}{b:Addr}{o:Obj}(e:h.get? b=some o)(n:H b=none):(cI h H).get? b=some o:=
 PySem.W.hideAll_get _ e fun hm=>by
  have q:(H b).isSome=true:=(Pd.mp hm).2;rw[n] at q;simp at q
def D8{h:Heap}{H:Hp}{b:Addr}{o:Obj}(e:(cI h H).get? b=some o):h.get? b=some o/\H b=none:=by
 have e':h.get? b=some o:=PySem.W.of_hideAll (ql h H) e;refine⟨e',?_⟩;cases q:H b with
 |none=>rfl
 |some x=>
  have hm:b∈ql h H:=Pd.mpr ⟨PJ.mpr (Am e'),by simp[q]⟩;have z:(cI h H).get? b=none:=PySem.W.hideAll_none (ql h H) hm;rw[z] at e;cases e
def IL(g h:Heap)(L:Addr):Ψ:=(AI h.objs.size).filterMap fun a=>if a=L\/(g.get? a).isSome=true then none else(h.get? a).map fun o=>(a,o)
def rest(g h:Heap)(L d:Addr):Ψ:=(IL g h L).filter fun p=>decide (p.1≠d)
structure Mod(K:Ac)(mg:Str->Option Value)(base:Heap):Prop where
 kin:K.In base
 glob:base.Ns mainGlobals mg
 blt:∃mb,base.Ns builtinsNs mb/\∀x:Str,x≠"__name__"->mb x=AV x
 nolimit:base.NoLimit
structure Cx where
 prog:Program
 w:World
 K:Ac
 mg:Str->Option Value
 base:Heap
 A:Around
 N:List Str
 s₀:Shared
 H₀:Hp
 env:Env
 outer:List Env
 stack:List Env
 ex:List Addr
 fn:Str->Bool
 calm:Bool
 pn:Ψ
 xe:Ω
def frs(l:List Env):List Addr:=l.filterMap (·.frame)
abbrev Cx.fs(X:Cx):List Addr:=frs X.outer
def nG(sc:Scope)(x:Str):Prop:=sc.names.lookup x=some .local\/sc.names.lookup x=some .cell\/sc.names.lookup x=some .free
def Loc(sc:Scope)(x:Str):Prop:=sc.names.lookup x=some .local\/sc.names.lookup x=some .cell
def Look(env:Env)(h:Heap)(m:Str->Option Value)(x:Str)(u:Value):Prop:=
 (env.kindOf x=some .local/\m x=some u)\/((env.kindOf x=some .cell\/env.kindOf x=some .free)/\∃c,env.cells.lookup x=some c/\h.IsCell c (some u))
structure Cx.Ok(X:Cx):Prop where
 mod:Mod X.K X.mg X.base
 kind:X.env.scope.kind=.function
 glob:X.env.globals=mainGlobals
 blt:X.env.builtins=builtinsNs
 above:X.s₀⁻¹<=X.env.locals
 inj:∀x y c,X.env.cells.lookup x=some c->X.env.cells.lookup y=some c->x=y
 has:∀x,(X.env.kindOf x=some .cell\/X.env.kindOf x=some .free)->∃c,X.env.cells.lookup x=some c
 cab:∀x c,X.fn x=true->X.env.cells.lookup x=some c->X.s₀⁻¹<=c
 hd:X.calm=true->X.A.handled=none
 frames:X.A.frames=some X.stack
 stk:X.stack=X.outer\/(X.stack=X.env::X.outer/\X.env.frame=some X.env.locals)
 exf:∀b∈X.ex,b≠X.env.locals/\∀x c,X.env.cells.lookup x=some c->c≠b
 bs:∀b o,X.base.get? b=some o->X.s₀.heap.get? b=some o/\X.H₀ b=none
 bsz:X.base.objs.size<=X.s₀⁻¹
 noex:∀b o,X.base.get? b=some o->b∉X.ex
 exfs:∀b∈X.ex,b∉X.fs
 funs:X.s₀.heap.FunFrames X.base X.outer
 frf:∀b∈X.fs,X.H₀ b=none
structure Inv(X:Cx)(aa:Ψ)(σ:List (Option V))(H:Hp)(s:Shared):Prop where
 ok:X.Ok
 os:s.os=X.s₀.os
 bare:AllBare s.gens
 base:Un X.fs X.ex X.H₀ H X.s₀.heap s.heap
 loc:∃m,s.heap.Ns X.env.locals m/\∀(i:Nat)(x:Str)(v:V),X.N[i]?=some x->σ[i]?=some (some v)->nG X.env.scope x->∃u,RelV v u/\Look X.env s.heap m x u
 cell:∀x c,X.env.cells.lookup x=some c->∃v,s.heap.IsCell c v
 free:H X.env.locals=none
 freeC:∀x c,X.env.cells.lookup x=some c->H c=none
 pin:∀p∈X.pn++aa,s.heap.get? p.1=some p.2/\H p.1=none/\p.1≠X.env.locals/\p.1∉X.fs/\∀v,p.2.data≠.cell v
 hok:HOk X.prog X.w H s.heap
 len:σ.length=X.N.length
section
variable{X:Cx}{aa:Ψ}{σ:List (Option V)}{H H':Hp}{s:Shared}{h':Heap}
def Cx.Ok.nofr(ok:X.Ok){b:Addr}{o:Obj}(e:X.base.get? b=some o):b∉X.fs:=fun hb=>by
 have:=(ok.funs.mem hb).1;rw[e] at this;cases this
def Inv.bs(I:Inv X aa σ H s):∀b o,X.base.get? b=some o->s.heap.get? b=some o/\H b=none:=fun b o e=>
 ⟨I.base.keep b o (I.ok.bs b o e).1 (I.ok.bs b o e).2 (I.ok.nofr e) (I.ok.noex b o e),I.base.free b o (I.ok.bs b o e).1 (I.ok.bs b o e).2 (I.ok.noex b o e)⟩
def Inv.bk(I:Inv X aa σ H s):∀b o,X.base.get? b=some o->s.heap.get? b=some o:=fun b o e=>(I.bs b o e).1
def Inv.mod(I:Inv X aa σ H s):Mod X.K X.mg X.base:=I.ok.mod
def Inv.kIn(I:Inv X aa σ H s):X.K.In s.heap:=I.ok.mod.kin.keeps I.bk
def Inv.nolimit(I:Inv X aa σ H s):s.heap.NoLimit:=I.ok.mod.nolimit.keeps I.bk
def Inv.fr(I:Inv X aa σ H s):∃m,Fr X.base X.env.locals s.heap m:=
 let ⟨m,hn,_⟩:=I.loc
 ⟨m,hn,I.bk,Ay I.ok.bsz I.ok.above⟩
def Inv.lt(I:Inv X aa σ H s):X.env.locals<s⁻¹:=let ⟨_,hn,_⟩:=I.loc;hn.lt
def Inv.sz(I:Inv X aa σ H s):X.s₀⁻¹<=s⁻¹:=Ay I.ok.above (Qg I.lt)
def Inv.nofs(I:Inv X aa σ H s){a:Addr}(h:s⁻¹<=a):a∉X.fs:=fun hb=>by
 obtain⟨_,o,b,_⟩:=I.ok.funs.mem hb;exact absurd (Au (Am b) (Ay I.sz h)) (Qw _)
def Inv.cne(I:Inv X aa σ H s):∀x c,X.env.cells.lookup x=some c->c≠X.env.locals:=fun x c e z=>by
 obtain⟨v,o,d,hd⟩:=I.cell x c e;obtain⟨m,⟨o',es,ep,a,b,_⟩,_⟩:=I.loc;rw[z,a] at d;cases d;rw[b] at hd;cases hd
def Inv.funs(I:Inv X aa σ H s):s.heap.FunFrames X.base X.outer:=by
 have all:∀(l:List Env),(∀b∈frs l,b∈X.fs)->X.s₀.heap.FunFrames X.base l->s.heap.FunFrames X.base l:=by
  intro l
  induction l with
  |nil=>intro _ _;trivial
  |cons env r ih=>
   intro c d;obtain⟨hk,⟨L,o,hf,f,g,hd⟩,hr⟩:=d;have a:L∈X.fs:=c L (by unfold frs;rw[Rs,hf];exact Az);obtain⟨h,e⟩:=I.base.slot L o g (I.ok.frf L a) a fun z=>I.ok.exfs L z a;exact⟨hk,⟨L,_,hf,f,e,hd⟩,ih (fun b hb=>c b (by unfold frs;rw[Rs,hf];exact Ax _ hb)) hr⟩
 exact all X.outer (fun _ hb=>hb) I.ok.funs
def Inv.stack(I:Inv X aa σ H s):s.heap.FunFrames X.base X.stack:=by
 rcases I.ok.stk with e|⟨e,hf⟩
 ·rw[e];exact I.funs
 ·rw[e]
  obtain⟨m,a,_⟩:=I.loc;refine .cons (by rw[I.ok.kind];decide) hf a ?_ I.funs;exact Heap.get?_none_of_le (Ay I.ok.bsz I.ok.above)
def Inv.stkSub(I:Inv X aa σ H s):∀b∈frs X.stack,b∈X.env.locals::X.fs:=fun b hb=>by
 rcases I.ok.stk with e|⟨e,hf⟩
 ·rw[e] at hb;exact Ax _ hb
 ·rw[e] at hb
  unfold frs at hb;rw[Rs,hf] at hb;exact hb
def Inv.stkFree(I:Inv X aa σ H s):∀b∈frs X.stack,H b=none:=fun b hb=>by
 rcases Pa.mp (I.stkSub b hb) with e|hb
 ·rw[e];exact I.free
 ·obtain⟨_,o,a,_⟩:=I.ok.funs.mem hb
  exact I.base.free b o a (I.ok.frf b hb) fun z=>I.ok.exfs b z hb
def Inv.step{g':Array GenState}{t':Nat}{d':Drawn}{ch:List Addr}(I:Inv X aa σ H s)(h:∀b∈ch,(b∈X.ex\/X.s₀⁻¹<=b)/\b≠X.env.locals/\(∀x c,X.env.cells.lookup x=some c->c≠b)/\∀p∈X.pn++aa,p.1≠b)(keep:∀b o,b≠X.env.locals->b∉X.fs->b∉ch->s.heap.get? b=some o->H b=none->h'.get? b=some o)(slot:∀b o,b≠X.env.locals->b∈X.fs->b∉ch->s.heap.get? b=some o->H b=none->∃A,h'.get? b=some {o with slots:=A})(free:∀b o,b∉ch->s.heap.get? b=some o->H b=none->H' b=none)(there:∀b o,b∉ch->s.heap.get? b=some o->∃o',h'.get? b=some o')(tups:∀b xs,H b=some (.tup xs)->H' b=some (.tup xs))(frzs:∀b o u,H b=some (.frz o u)->H' b=some (.frz o u))(tbls:∀b ps,H b=some (.tbl ps)->∃more,H' b=some (.tbl (ps++more)))(ns:∀m,s.heap.Ns X.env.locals m->h'.Ns X.env.locals m)(C:HOk X.prog X.w H' h')(M:AllBare g'):Inv X aa σ H' {s with heap:=h',gens:=g',drawn:=d',toks:=t'}:=by
 have j:∀b o,X.s₀.heap.get? b=some o->b≠X.env.locals:=fun b o e=>Ar (Au (Am e) I.ok.above);have y:∀b o,X.s₀.heap.get? b=some o->b∉X.ex->b∉ch:=fun b o e hx hb=>by
  rcases(h b hb).1 with z|z
  ·exact hx z
  ·exact absurd (Au (Am e) z) (Qw _)
 have a:∀x c,X.env.cells.lookup x=some c->∀v,s.heap.IsCell c v->h'.IsCell c v:=fun x c e v ⟨o,g,hd⟩=>by
  have f:c∉ch:=fun z=>(h c z).2.2.1 x c e rfl
  by_cases hc:c∈X.fs
  ·obtain⟨A,q⟩:=slot c o (I.cne x c e) hc f g (I.freeC x c e)
   exact⟨_,q,hd⟩
  ·exact⟨o,keep c o (I.cne x c e) hc f g (I.freeC x c e),hd⟩
 refine⟨I.ok,I.os,M,⟨fun b o e n hb hx=>?_,fun b o e n hb hx=>?_,fun b o e n hx=>?_,fun b o e hx=>?_,fun b xs e=>tups b xs (I.base.tups b xs e),fun b o xs e=>frzs b o xs (I.base.frzs b o xs e),fun b ps e=>?_⟩,?_,fun x c e=>?_,?_,fun x c e=>?_,fun p hp=>?_,C,I.len⟩
 ·exact keep b o (j b o e) hb (y b o e hx) (I.base.keep b o e n hb hx) (I.base.free b o e n hx)
 ·obtain⟨A,e1⟩:=I.base.slot b o e n hb hx
  obtain⟨E,e2⟩:=slot b _ (j b o e) hb (y b o e hx) e1 (I.base.free b o e n hx);exact⟨E,e2⟩
 ·obtain⟨o',e1⟩:=I.base.there b o e hx
  exact free b o' (y b o e hx) e1 (I.base.free b o e n hx)
 ·obtain⟨o',e1⟩:=I.base.there b o e hx
  exact there b o' (y b o e hx) e1
 ·obtain⟨F,e1⟩:=I.base.tbls b ps e
  obtain⟨G,e2⟩:=tbls b _ e1;exact⟨F++G,by rw[e2,Array.append_assoc]⟩
 ·obtain⟨m,J,L⟩:=I.loc
  refine⟨m,ns m J,fun i x v e1 e2 e3=>?_⟩;obtain⟨u,r,l⟩:=L i x v e1 e2 e3;refine⟨u,r,?_⟩;rcases l with l|⟨k,c,e,z⟩
  ·exact .inl l
  ·exact .inr ⟨k,c,e,a x c e _ z⟩
 ·obtain⟨v,z⟩:=I.cell x c e
  exact⟨v,a x c e v z⟩
 ·obtain⟨m,⟨o,_,_,g,_⟩,_⟩:=I.loc
  exact free _ o (fun z=>(h _ z).2.1 rfl) g I.free
 ·obtain⟨v,o,g,hd⟩:=I.cell x c e
  exact free c o (fun z=>(h c z).2.2.1 x c e rfl) g (I.freeC x c e)
 ·obtain⟨e,n,ne,D,d⟩:=I.pin p hp
  have f:p.1∉ch:=fun z=>(h p.1 z).2.2.2 p hp rfl;exact⟨keep p.1 p.2 ne D f e n,free p.1 p.2 f e n,ne,D,d⟩
def Inv.un{t':Nat}(I:Inv X aa σ H s)(u:Un X.fs [] H H' s.heap h')(c:HOk X.prog X.w H' h'):Inv X aa σ H' {s with heap:=h',toks:=t'}:=by
 obtain⟨m,⟨o,es,ep,d,r⟩,_⟩:=id I.loc;obtain⟨l,f⟩:=u.any d I.free (by simp);exact I.step (g':=s.gens) (d':=s.drawn) (ch:=[]) (fun _ z=>nomatch z) (fun b o _ hb _ e n=>u.keep b o e n hb (by simp)) (fun b o _ hb _ e n=>u.slot b o e n hb (by simp)) (fun b o _ e n=>u.free b o e n (by simp)) (fun b o _ e=>u.there b o e (by simp)) u.tups u.frzs u.tbls (fun j hm=>by
  obtain⟨o',g,h,a,i⟩:=hm;rw[d] at a;cases a;exact⟨_,g,h,f,i⟩) c I.bare
def Inv.call{g':Array GenState}{t':Nat}{d':Drawn}{ch:List Addr}(I:Inv X aa σ H s)(u:Un (frs X.stack) ch H H' s.heap h')(f:HOk X.prog X.w H' h')(q:AllBare g')(h:∀b∈ch,(b∈X.ex\/X.s₀⁻¹<=b)/\b≠X.env.locals/\(∀x c,X.env.cells.lookup x=some c->c≠b)/\∀p∈X.pn++aa,p.1≠b):Inv X aa σ H' {s with heap:=h',gens:=g',drawn:=d',toks:=t'}:=by
 obtain⟨m,⟨o,es,ep,g,r⟩,_⟩:=id I.loc;obtain⟨y,d⟩:=u.any g I.free fun z=>(h _ z).2.1 rfl;exact I.step (ch:=ch) h (fun b o d hb hc e n=>u.keep b o e n (fun z=>(Pa.mp (I.stkSub b z)).elim d hb) hc) (fun b o _ _ hc e n=>u.any e n hc) (fun b o hc e n=>u.free b o e n hc) (fun b o hc e=>u.there b o e hc) u.tups u.frzs u.tbls (fun v hm=>by
  obtain⟨o',i,j,a,l⟩:=hm;rw[g] at a;cases a;exact⟨_,i,j,d,l⟩) f q
def Inv.turned{t':Nat}{it:Addr}(I:Inv X aa σ H s)(k:∀b o,b≠it->s.heap.get? b=some o->h'.get? b=some o)(g:H it=none)(d:it≠X.env.locals)(h1:it∈X.ex\/X.s₀⁻¹<=it)(h2:∀x c,X.env.cells.lookup x=some c->c≠it)(h:∀p∈X.pn++aa,p.1≠it):Inv X aa σ H {s with heap:=h',toks:=t'}:=by
 have a:∀b u,H b=some u->b≠it:=fun b u e z=>by rw[z,g] at e;cases e
 refine I.step (g':=s.gens) (d':=s.drawn) (ch:=[it]) (fun b hb=>?_) (fun b o _ _ hc e _=>k b o (fun z=>hc (by simp[z])) e) (fun b o _ _ hc e _=>⟨o.slots,k b o (fun z=>hc (by simp[z])) e⟩) (fun _ _ _ _ n=>n)
  (fun b o hc e=>⟨o,k b o (fun z=>hc (by simp[z])) e⟩) (fun _ _ e=>e) (fun _ _ _ e=>e) (fun b ps e=>⟨#[],by rw[e];simp⟩) (fun m hm=>?_) (fun b u e=>?_) I.bare
 ·have e:b=it:=by simpa using hb
  subst e;exact⟨h1,d,h2,h⟩
 ·obtain⟨o,es,ep,f,r⟩:=hm
  exact⟨o,es,ep,k _ o (Ne.symm d) f,r⟩
 ·refine(I.hok b u e).stay (fun c v hc q=>k c v ?_ q) (fun _ q=>q) fun _ _ q=>q
  rcases hc with z|z
  ·rw[z];exact a b u e
  ·exact a c _ z
def Inv.tok(I:Inv X aa σ H s)(t:Nat):Inv X aa σ H {s with toks:=t}:=I.un (h':=s.heap) (t':=t) Un.refl I.hok
def Inv.kept{t':Nat}(I:Inv X aa σ H s)(k:∀b u,s.heap.get? b=some u->h'.get? b=some u):Inv X aa σ H {s with heap:=h',toks:=t'}:=I.un (Un.kept k) (I.hok.kept k)
def Inv.laid{a:Addr}{o:HO}{t':Nat}(I:Inv X aa σ H s)(k:∀b u,s.heap.get? b=some u->h'.get? b=some u)(hp:s⁻¹<=a)(new:zw X.prog X.w (upd H a o) h' a o):Inv X aa σ (upd H a o) {s with heap:=h',toks:=t'}:=I.un (Un.laid k hp (I.hok.fresh hp)) (I.hok.laid k hp new)
def Inv.write{x e:Addr}{o:HO}{t':Nat}(I:Inv X aa σ H s)(a:nE (H x))(he:e=x\/H e=some (.own x))(k:∀b u,b≠e->s.heap.get? b=some u->h'.get? b=some u)(c:∃u,h'.get? e=some u)(new:zw X.prog X.w (upd H x o) h' x o):Inv X aa σ (upd H x o) {s with heap:=h',toks:=t'}:=I.un (Un.write a he k c) (I.hok.write a he k c new)
def Inv.pins_of{bK:Ψ}(I:Inv X aa σ H s)(h:∀p∈bK,s.heap.get? p.1=some p.2/\H p.1=none/\p.1≠X.env.locals/\p.1∉X.fs/\∀v,p.2.data≠.cell v):Inv X bK σ H s:=
 ⟨I.ok,I.os,I.bare,I.base,I.loc,I.cell,I.free,I.freeC,fun p hp=>(Pe.mp hp).elim (fun z=>I.pin p (Pu _ z)) (h p),I.hok,I.len⟩
def uD{N:List Str}(c:N.Nodup){i j:Nat}{x:Str}(a:N[i]?=some x)(b:N[j]?=some x):i=j:=by
 obtain⟨h1,e1⟩:=KK.mp a;obtain⟨h2,e2⟩:=KK.mp b;exact(List.getElem_inj c).mp (e1.trans e2.symm)
def D9{M:Model}{A:Around}{E:Ω}{i:Nat}{x:Str}{v:V}{u:Value}{Q:Unit->Shared->Prop}(I:Inv X aa σ H s)(hN:X.N.Nodup)(hi:X.N[i]?=some x)(hx:Loc X.env.scope x)(r:RelV v u)(h:∀s',Inv X aa (σ.set i (some v)) H s'->(∃a,Heap.SameBut a s.heap s'.heap/\(a=X.env.locals\/X.env.cells.lookup x=some a))->Q () s')(hf:X.fn x=true\/X.env.scope.names.lookup x=some .local:=by first|exact .inl rfl|exact .inr rfl|assumption):wpAny M A (storeName X.env x u) Q E s:=by
 obtain⟨m,G,U⟩:=id I.loc;have iI:(X.env.scope.kind==.class|| (X.env.scope.kind==.module&&X.env.locals != X.env.globals))=false:=by rw[I.ok.kind];rfl
 have l:i<σ.length:=by rw[I.len];exact(KK.mp hi).1
 have cne:=I.cne;have dz:∀{a:Addr}{h':Heap},(∃o,s.heap.get? a=some o/\H a=none)->Heap.SameBut a s.heap h'->HOk X.prog X.w H h':=fun{a h'} ha f b ob e=>by
  obtain⟨_,_,g⟩:=ha;refine(I.hok b ob e).stay (fun c D hc q=>(f.2 c ?_).trans q) (fun _ q=>q) fun _ _ q=>q;rintro rfl;rcases hc with rfl|hc
  ·rw[g] at e;cases e
  ·rw[g] at hc;cases hc
 rcases hx with hk|hk
 ·refine wpAny_storeName_local hk G (fun h' dP f=>?_) iI
  obtain⟨oL,_,_,J,_⟩:=id G;refine h _ ⟨I.ok,I.os,I.bare,⟨fun b o e n hb hx=>?_,fun b o e n hb hx=>?_,I.base.free,fun b o e hx=>?_,I.base.tups,I.base.frzs,I.base.tbls⟩,⟨_,dP,fun j y F e1 e2 e3=>?_⟩,fun y c e=>?_,I.free,I.freeC,fun p hp=>?_,dz ⟨oL,J,I.free⟩ f,by simpa using I.len⟩ ⟨_,f,.inl rfl⟩
  ·exact(f.2 b (Ar (Au (Am e) I.ok.above))).trans (I.base.keep b o e n hb hx)
  ·obtain⟨L,e1⟩:=I.base.slot b o e n hb hx
   exact⟨L,(f.2 b (Ar (Au (Am e) I.ok.above))).trans e1⟩
  ·obtain⟨o',e1⟩:=I.base.there b o e hx
   exact⟨o',(f.2 b (Ar (Au (Am e) I.ok.above))).trans e1⟩
  ·by_cases C:j=i
   ·subst C
    rw[hi] at e1;cases e1;rw[QC l] at e2;cases e2;exact⟨u,r,.inl ⟨hk,by simp⟩⟩
   ·rw[Rn (Ne.symm C)] at e2
    obtain⟨O,P,q⟩:=U j y F e1 e2 e3;refine⟨O,P,?_⟩;rcases q with ⟨k,e⟩|⟨k,c,e,z⟩
    ·refine .inl ⟨k,?_⟩
     have:y≠x:=fun e=>C (uD hN e1 (e▸hi));simp[this,e]
    ·exact .inr ⟨k,c,e,z.sameBut f (cne y c e)⟩
  ·obtain⟨D,z⟩:=I.cell y c e
   exact⟨D,z.sameBut f (cne y c e)⟩
  ·obtain⟨e,n,ne,S,d⟩:=I.pin p hp
   exact⟨(f.2 p.1 ne).trans e,n,ne,S,d⟩
 ·have T:X.fn x=true:=by
   rcases hf with z|z
   ·exact z
   ·rw[z] at hk;cases hk
  obtain⟨c,hc⟩:=I.ok.has x (.inl hk);obtain⟨D,z⟩:=I.cell x c hc;refine wpAny_storeName_cell I.ok.kind hk hc z (fun h' hc' f=>?_);obtain⟨W,Y,mT⟩:=id z;refine h {s with heap:=h'} ⟨I.ok,I.os,I.bare,⟨fun b o e n hb hx=>?_,fun b o e n hb hx=>?_,I.base.free,fun b o e hx=>?_,I.base.tups,I.base.frzs,I.base.tbls⟩,⟨m,G.sameBut f (Ne.symm (cne x c hc)),fun j y F e1 e2 e3=>?_⟩,fun y c' e=>?_,I.free,I.freeC,fun p hp=>?_,dz ⟨W,Y,I.freeC x c hc⟩ f,by simpa using I.len⟩ ⟨c,f,.inr hc⟩
  ·exact(f.2 b (Ar (Au (Am e) (I.ok.cab x c T hc)))).trans (I.base.keep b o e n hb hx)
  ·obtain⟨L,e1⟩:=I.base.slot b o e n hb hx
   exact⟨L,(f.2 b (Ar (Au (Am e) (I.ok.cab x c T hc)))).trans e1⟩
  ·obtain⟨o',e1⟩:=I.base.there b o e hx
   exact⟨o',(f.2 b (Ar (Au (Am e) (I.ok.cab x c T hc)))).trans e1⟩
  ·by_cases C:j=i
   ·subst C
    rw[hi] at e1;cases e1;rw[QC l] at e2;cases e2;exact⟨u,r,.inr ⟨.inl hk,c,hc,hc'⟩⟩
   ·rw[Rn (Ne.symm C)] at e2
    obtain⟨O,P,q⟩:=U j y F e1 e2 e3;refine⟨O,P,?_⟩;rcases q with q|⟨k,c',e,z'⟩
    ·exact .inl q
    ·refine .inr ⟨k,c',e,z'.sameBut f ?_⟩
     rintro rfl;exact C (uD hN e1 (I.ok.inj _ _ _ e hc▸hi))
  ·by_cases df:c'=c
   ·subst df;exact⟨_,hc'⟩
   ·obtain⟨w2,z2⟩:=I.cell y c' e
    exact⟨w2,z2.sameBut f df⟩
  ·obtain⟨e,n,ne,S,d⟩:=I.pin p hp
   refine⟨(f.2 p.1 ?_).trans e,n,ne,S,d⟩;intro q;rw[q,Y] at e;have q':W=p.2:=Ag e;exact d D (by rw[<-q'];exact mT)
def qm{M:Model}{A:Around}{E:Ω}{i:Nat}{x:Str}{v:V}{u:Value}{Q:Unit->Shared->Prop}(I:Inv X aa σ H s)(a:X.N.Nodup)(hi:X.N[i]?=some x)(hx:Loc X.env.scope x)(r:RelV v u)(h:∀s',Inv X aa (σ.set i (some v)) H s'->Q () s')(hf:X.fn x=true\/X.env.scope.names.lookup x=some .local:=by first|exact .inl rfl|exact .inr rfl|assumption):wpAny M A (storeName X.env x u) Q E s:=
 D9 I a hi hx r (fun s' b _=>h s' b) hf
def Inv.call'{s':Shared}{ch:List Addr}(I:Inv X aa σ H s)(d:s'.os=s.os)(u:Un (frs X.stack) ch H H' s.heap s'.heap)(a:HOk X.prog X.w H' s'.heap)(f:AllBare s'.gens)(g:∀b∈ch,(b∈X.ex\/X.s₀⁻¹<=b)/\b≠X.env.locals/\(∀x c,X.env.cells.lookup x=some c->c≠b)/\∀p∈X.pn++aa,p.1≠b):Inv X aa σ H' s':=by
 obtain⟨h',g',d',t',o'⟩:=s';have e:o'=s.os:=d;subst e;exact I.call (g':=g') (t':=t') (d':=d') u a f g
end
abbrev XK:=Value->Option Addr->Hp->Prop
abbrev St:=List (Option V)
abbrev VK:=V->Hp->Prop
abbrev TE:=St->Hp->VK->Prop
abbrev TT:=St->Hp->(Bool->Hp->Prop)->Prop
abbrev TA:=St->Hp->(List V->Hp->Prop)->Prop
structure Ends where
 nx:St->Hp->Prop
 rt:VK
 bk:St->Hp->Prop:=fun _ _=>False
 ct:St->Hp->Prop:=fun _ _=>False
abbrev TS:=Ends->St->Hp->Prop
def EP(X:Cx)(aa:Ψ)(σ:St)(Q:VK)(u:Value)(s':Shared):Prop:=∃v H',Inv X aa σ H' s'/\RelV v u/\Q v H'
def TP(X:Cx)(aa:Ψ)(σ:St)(Q:Bool->Hp->Prop)(b:Bool)(s':Shared):Prop:=∃H',Inv X aa σ H' s'/\Q b H'
def AP(X:Cx)(aa:Ψ)(σ:St)(Q:List V->Hp->Prop)(us:List Value)(s':Shared):Prop:=∃vs H',Inv X aa σ H' s'/\Vals vs us/\Q vs H'
def SP(X:Cx)(aa:Ψ)(D:Ends)(f:Flow)(s':Shared):Prop:=
 match f with
 |.next=>∃a H',Inv X aa a H' s'/\D.nx a H'
 |.brk=>∃a H',Inv X aa a H' s'/\D.bk a H'
 |.cont=>∃a H',Inv X aa a H' s'/\D.ct a H'
 |.ret u=>∃v a H',Inv X aa a H' s'/\RelV v u/\D.rt v H'
def PE(X:Cx)(e:Expr)(t:TE):Prop:=
 ∀(aa:Ψ)(s:Shared)(σ:St)(H:Hp)(Q:VK),Inv X aa σ H s->t σ H Q->wpAny (model X.prog X.w) X.A (eval e X.env) (EP X aa σ Q) X.xe s
def PT(X:Cx)(e:Expr)(t:TT):Prop:=
 ∀(aa:Ψ)(s:Shared)(σ:St)(H:Hp)(Q:Bool->Hp->Prop),Inv X aa σ H s->t σ H Q->wpAny (model X.prog X.w) X.A (isTrue e X.env (eval e X.env)) (TP X aa σ Q) X.xe s
def PW(X:Cx)(e:Expr)(t:TT):Prop:=
 ∀(a:Sem Value)(aa:Ψ)(s:Shared)(σ:St)(H:Hp)(Q:Bool->Hp->Prop),Inv X aa σ H s->t σ H Q->wpAny (model X.prog X.w) X.A (isTrue e X.env a) (TP X aa σ Q) X.xe s
def PW.pt{X:Cx}{e:Expr}{t:TT}(h:PW X e t):PT X e t:=h _
def PA(X:Cx)(es:List Expr)(t:TA):Prop:=
 ∀(pos:Pos)(aa:Ψ)(s:Shared)(σ:St)(H:Hp)(Q:List V->Hp->Prop),Inv X aa σ H s->t σ H Q->wpAny (model X.prog X.w) X.A (spliced (backTo pos (starEach es X.env))) (AP X aa σ Q) X.xe s
def PS(X:Cx)(st:Stmt)(t:TS):Prop:=
 ∀(aa:Ψ)(s:Shared)(σ:St)(H:Hp)(D:Ends),Inv X aa σ H s->t D σ H->wpAny (model X.prog X.w) X.A (exec st X.env) (SP X aa D) X.xe s
def PSs(X:Cx)(st:List Stmt)(t:TS):Prop:=
 ∀(aa:Ψ)(s:Shared)(σ:St)(H:Hp)(D:Ends),Inv X aa σ H s->t D σ H->wpAny (model X.prog X.w) X.A (execs st X.env) (SP X aa D) X.xe s
def aV{b:Type}{t:Sem b}{Q c:b->Shared->Prop}{M:Model}{A:Around}{E:Ω}{s:Shared}(h:wpAny M A t Q E s)(d:∀a s,Q a s->c a s):wpAny M A t c E s:=wpAny_mono h d fun _ _ x=>x
section
variable{X:Cx}
def aw(i:Nat):TE:=fun σ H Q=>∃v,σ[i]?=some (some v)/\Q v H
def tC(v:V):TE:=fun _ H Q=>Q v H
def IM{i:Nat}{x:Str}{pos:Pos}(f:X.N[i]?=some x)(g:nG X.env.scope x)(hd:(x==("__debug__":Str))=false:=by decide)(j:(x==("__classdict__":Str))=false:=by decide):PE X (.Name x pos) (aw i):=by
 intro aa s σ H Q I h;obtain⟨v,e,h⟩:=h;obtain⟨m,b,d⟩:=I.loc;obtain⟨u,r,l⟩:=d i x v f e g;have fin:EP X aa σ Q u s:=⟨v,H,I,r,h⟩;rcases l with ⟨hk,hm⟩|⟨hk,c,hc,a⟩
 ·exact wpAny_Name (wpAny_loadName_local I.ok.kind hk b hm fin) hd
 ·rcases hk with hk|hk
  ·exact wpAny_Name (wpAny_loadName_cell I.ok.kind hk hc a fin) hd
  ·exact wpAny_Name (wpAny_loadName_free I.ok.kind hk hc a fin j) hd
def zd{i j pos}:PE X (.Constant (.int i) j pos) (tC (.int i)):=fun _ _ _ H _ I h=>wpAny_Constant_int ⟨.int i,H,I.tok _,⟨_,rfl⟩,h⟩
def fC{b j pos}:PE X (.Constant (.bool b) j pos) (tC (.bl b)):=fun _ _ _ H _ I h=>Constant_bool ⟨.bl b,H,I,rfl,h⟩
def kc{j pos}:PE X (.Constant .none j pos) (tC .non):=fun _ _ _ H _ I h=>Constant_none ⟨.non,H,I,rfl,h⟩
def pe_str{x j pos}:PE X (.Constant (.str x) j pos) (tC (.str x)):=fun _ _ _ H _ I h=>Calls.Constant_str ⟨.str x,H,I.tok _,⟨_,rfl⟩,h⟩
def Gl(X:Cx)(x:Str):Prop:=X.env.kindOf x=some .globalImplicit
def qo{E:Ω}{aa:Ψ}{s:Shared}{σ:St}{H:Hp}{x:Str}{u:Value}{pos:Pos}{Q:Ω}(I:Inv X aa σ H s)(a:Gl X x)(hm:X.mg x=some u)(h:Q u s)(hd:(x==("__debug__":Str))=false:=by decide):wpAny (model X.prog X.w) X.A (eval (.Name x pos) X.env) Q E s:=
 Calls.Name_function_global I.ok.kind a (Calls.loadGlobal_global (by rw[I.ok.glob];exact I.mod.glob.keeps I.bk) hm h) hd
def jD{E:Ω}{aa:Ψ}{s:Shared}{σ:St}{H:Hp}{x:Str}{u:Value}{pos:Pos}{Q:Ω}(I:Inv X aa σ H s)(a:Gl X x)(hm:X.mg x=none)(b:AV x=some u)(h:Q u s)(c:x≠"__name__":=by decide)(hd:(x==("__debug__":Str))=false:=by decide):wpAny (model X.prog X.w) X.A (eval (.Name x pos) X.env) Q E s:=by
 obtain⟨d,h1,h2⟩:=I.mod.blt;exact Calls.Name_function_global I.ok.kind a (Calls.loadGlobal_builtin (by rw[I.ok.glob];exact I.mod.glob.keeps I.bk) hm (by rw[I.ok.blt];exact h1.keeps I.bk) ((h2 x c).trans b) h) hd
def lR{x:Str}{v:V}{u:Value}{pos:Pos}(a:Gl X x)(hm:X.mg x=some u)(r:RelV v u)(hd:(x==("__debug__":Str))=false:=by decide):PE X (.Name x pos) (tC v):=
 fun _ _ _ H _ I h=>qo I a hm ⟨v,H,I,r,h⟩ hd
def nI{x:Str}{v:V}{u:Value}{pos:Pos}(a:Gl X x)(hm:X.mg x=none)(b:AV x=some u)(r:RelV v u)(c:x≠"__name__":=by decide)(hd:(x==("__debug__":Str))=false:=by decide):PE X (.Name x pos) (tC v):=
 fun _ _ _ H _ I h=>jD I a hm b ⟨v,H,I,r,h⟩ c hd
variable{a b:Expr}{ta tb:TE}{pos:Pos}
def PC(X:Cx)(op:CmpOp)(a b:Expr)(t:TE):Prop:=
 ∀(aa:Ψ)(s:Shared)(σ:St)(H:Hp)(Q:VK),Inv X aa σ H s->t σ H Q->
  wpAny (model X.prog X.w) X.A (eval a X.env) (fun v c=>wpAny (model X.prog X.w) X.A (eval b X.env) (fun u d=>wpAny (model X.prog X.w) X.A (compareOp op v u) (EP X aa σ Q) X.xe d) X.xe c) X.xe s
def eC(b:Expr){op:CmpOp}(h:op≠.In)(h2:op≠.NotIn):behindInMarks op b=false:=by
 have e1:(op==CmpOp.In)=false:=by cases op<;>first|rfl|exact absurd rfl h
 have e2:(op==CmpOp.NotIn)=false:=by cases op<;>first|rfl|exact absurd rfl h2
 cases b<;>simp[behindInMarks,e1,e2]
def tB(t:TE):TT:=fun σ H Q=>t σ H fun x H1=>∃c,x=.bl c/\Q c H1
def IN{op:CmpOp}{t:TE}(h:PC X op a b t)(h1:behindInMarks op b=false:=by first|exact eC _ ξ ξ|rfl):PE X (.Compare a [op] [b] pos) t:=fun aa s σ H Q I hw=>wpAny_Compare1 (h aa s σ H Q I hw) h1
def D_{op:CmpOp}{t:TE}(h:PC X op a b t)(h1:behindInMarks op b=false:=by first|exact eC _ ξ ξ|rfl):PT X (.Compare a [op] [b] pos) (tB t):=by
 intro aa s σ H Q I hw;refine wpAny_isTrue_Compare1 (aV (h aa s σ H _ I hw) fun v i h1=>aV h1 fun u j h2=>aV h2 fun c l ⟨x,H1,g,e,f⟩=>?_) h1;obtain⟨d,rfl,q⟩:=f;cases e;exact wpAny_truthy_bool ⟨H1,g,q⟩
def jF{e:Expr}{t:TE}(h:PE X e t)(he:∀a,isTrue e X.env a=(do let v <-a;standAt e.pos;holding [v] (truthy v)):=by intro _;rfl):PT X e (tB t):=by
 intro aa s σ H Q I hw;refine isTrue_plain (aV (h aa s σ H _ I hw) fun v g ⟨x,H1,f,b,c⟩=>?_) (he _);obtain⟨d,rfl,q⟩:=c;cases b;exact wpAny_truthy_bool ⟨H1,f,q⟩
variable{tA lm:TT}{rest:List Expr}
def nJ(t u:TT):TT:=fun σ H Q=>t σ H fun c H1=>if c=true then u σ H1 Q else Q false H1
def Ea(t u:TT):TT:=fun σ H Q=>t σ H fun c H1=>if c=true then Q true H1 else u σ H1 Q
def uJ(t:TT):TT:=fun σ H Q=>t σ H fun c H1=>Q (!c) H1
def uM(ha:PT X a tA):PW X (.BoolOp .And [a] pos) tA:=by
 intro b aa s σ H Q I h;refine isTrue_and (aV (ha aa s σ H Q I h) fun c d e=>?_);cases c with
 |true=>exact isTrue_and_nil e
 |false=>exact e
def ke(ha:PT X a tA):PW X (.BoolOp .Or [a] pos) tA:=by
 intro b aa s σ H Q I h;refine isTrue_or (aV (ha aa s σ H Q I h) fun c d e=>?_);cases c with
 |false=>exact isTrue_or_nil e
 |true=>exact e
def uN(ha:PT X a tA)(hb:PW X (.BoolOp .And (b::rest) pos) lm):PW X (.BoolOp .And (a::b::rest) pos) (nJ tA lm):=by
 intro f aa s σ H Q I h;refine isTrue_and (aV (ha aa s σ H _ I h) fun c g ⟨H1,e,d⟩=>?_);cases c with
 |true=>exact hb f aa g σ H1 Q e d
 |false=>exact⟨H1,e,d⟩
def iX(ha:PT X a tA)(hb:PW X (.BoolOp .Or (b::rest) pos) lm):PW X (.BoolOp .Or (a::b::rest) pos) (Ea tA lm):=by
 intro f aa s σ H Q I h;refine isTrue_or (aV (ha aa s σ H _ I h) fun c g ⟨H1,e,d⟩=>?_);cases c with
 |true=>exact⟨H1,e,d⟩
 |false=>exact hb f aa g σ H1 Q e d
def ip(ha:PT X a tA):PT X (.UnaryOp .Not a pos) (uJ tA):=by
 intro aa s σ H Q I h;exact isTrue_not (ha aa s σ H (fun c H1=>Q (!c) H1) I h)
def IP(ta tb:TE):TE:=fun σ H Q=>ta σ H fun x H1=>∃c,x=.bl c/\if c=true then tb σ H1 Q else Q (.bl false) H1
def IQ{op}{t:TE}(h:PE X a t):PE X (.BoolOp op [a] pos) t:=fun aa s σ H Q I hw=>BoolOp_one (h aa s σ H Q I hw)
def IR(ha:PE X a ta)(hb:PE X (.BoolOp .And (b::rest) pos) tb):PE X (.BoolOp .And (a::b::rest) pos) (IP ta tb):=by
 intro aa s σ H Q I h;refine BoolOp_and (aV (ha aa s σ H _ I h) fun v f ⟨x,H1,e,g,d⟩=>?_);obtain⟨c,rfl,d⟩:=d;cases g;refine wpAny_truthy_bool ?_;cases c with
 |true=>exact hb aa f σ H1 Q e d
 |false=>exact⟨.bl false,H1,e,rfl,d⟩
def Eb(t:TT)(ta tb:TE):TE:=fun σ H Q=>t σ H fun c H1=>if c=true then ta σ H1 Q else tb σ H1 Q
def IS{c:Expr}(hc:PT X c tA)(ha:PE X a ta)(hb:PE X b tb):PE X (.IfExp c a b pos) (Eb tA ta tb):=by
 intro aa s σ H Q I h;refine wpAny_IfExp (aV (hc aa s σ H _ I h) fun d e ⟨H1,g,f⟩=>?_);cases d with
 |true=>exact ha aa e σ H1 Q g f
 |false=>exact hb aa e σ H1 Q g f
end
def SqL(K:Ac)(H:Hp)(a:Addr)(xs:List V):Prop:=
 Rd H a (.lst xs) \/
  ∃(o:Obj)(ae:Array Value)(n:Nat),K.lookup a=some o/\o.cls=.type "list"/\o.dict=none/\o.data=.seq ae n/\ae.size<=sizeLine/\Vals xs ae.toList
def SqT(K:Ac)(H:Hp)(a:Addr)(xs:List V):Prop:=
 Rd H a (.tup xs) \/
  ∃(o:Obj)(ae:Array Value)(n:Nat),K.lookup a=some o/\o.cls=.type "tuple"/\o.data=.seq ae n/\ae.size<=sizeLine/\Vals xs ae.toList
def uV:Value->Option V
 |.none=>some .non
 |.bool b=>some (.bl b)
 |.int i _=>some (.int i)
 |.str x _=>some (.str x)
 |.bytes b _=>some (.byt b)
 |.float b _=>some (.flt b)
 |.ref a=>some (.ref a)
 |.type n=>some (.ty n)
 |_=>none
def RelV.abs{x:V}{u:Value}(r:RelV x u):uV u=some x:=by
 cases x with
 |non=>cases r;rfl
 |bl _=>cases r;rfl
 |int _=>obtain⟨t,rfl⟩:=r;rfl
 |str _=>obtain⟨t,rfl⟩:=r;rfl
 |byt _=>obtain⟨t,rfl⟩:=r;rfl
 |flt _=>obtain⟨t,rfl⟩:=r;rfl
 |ref _=>cases r;rfl
 |ty _=>cases r;rfl
def RelV.inj{x y:V}{u:Value}(r:RelV x u)(q:RelV y u):x=y:=Ag (r.abs.symm.trans q.abs)
def Vals.inj{xs ys:List V}{us:List Value}(h:Vals xs us)(g:Vals ys us):xs=ys:=by
 induction h generalizing ys with
 |nil=>cases g;rfl
 |cons r t ih=>cases g with|cons r' t'=>rw[r.inj r',ih t']
section
variable{X:Cx}{aa:Ψ}{σ:St}{H:Hp}{s:Shared}{a:Addr}{xs ys:List V}
def SqL.of{K:Ac}(h:H a=some (.lst xs)):SqL K H a xs:=.inl (.inl h)
def SqT.of{K:Ac}(h:H a=some (.tup xs)):SqT K H a xs:=.inl (.inl h)
def Inv.list(I:Inv X aa σ H s)(h:SqL X.K H a xs):∃ae:List Value,Vals xs ae/\PlainL s.heap a ae.toArray/\xs.length<=sizeLine:=by
 rcases h with h|⟨o,ae,n,hk,hc,hd,b,hz,r⟩
 ·obtain⟨z,ae,n,r,e⟩:=h.ok I.hok
  exact⟨ae,r,⟨_,n,e,rfl,rfl,rfl⟩,z⟩
 ·refine⟨ae.toList,r,⟨o,n,I.kIn a o hk,hc,hd,by simpa using b⟩,?_⟩
  have e:=r.length;simp only[Qo] at e;omega
def Inv.tuple(I:Inv X aa σ H s)(h:SqT X.K H a xs):∃ae:List Value,Vals xs ae/\IsTup s.heap a ae.toArray/\xs.length<=sizeLine:=by
 rcases h with h|⟨o,ae,n,hk,hc,b,hz,r⟩
 ·obtain⟨z,ae,r,p⟩:=h.ok I.hok
  exact⟨ae,r,p,z⟩
 ·refine⟨ae.toList,r,⟨o,I.kIn a o hk,hc,n,by simpa using b⟩,?_⟩
  have e:=r.length;simp only[Qo] at e;omega
def Inv.list_inj(I:Inv X aa σ H s)(h:SqL X.K H a xs)(h':SqL X.K H a ys):xs=ys:=by
 obtain⟨ae,r,⟨o,n,e,_,_,d⟩,_⟩:=I.list h;obtain⟨its',b,⟨o',c,e',_,_,d'⟩,_⟩:=I.list h';rw[e] at e';cases e';rw[d] at d';injection d' with d1 _
 have:ae=its':=by simpa using congrArg Array.toList d1
 subst this;exact r.inj b
def Inv.tuple_inj(I:Inv X aa σ H s)(h:SqT X.K H a xs)(h':SqT X.K H a ys):xs=ys:=by
 obtain⟨ae,r,⟨o,e,_,n,d⟩,_⟩:=I.tuple h;obtain⟨its',b,⟨o',e',_,c,d'⟩,_⟩:=I.tuple h';rw[e] at e';cases e';rw[d] at d';injection d' with d1 _
 have:ae=its':=by simpa using congrArg Array.toList d1
 subst this;exact r.inj b
end
abbrev Cx.wish(X:Cx)(E:Ω):Cx:={X with xe:=E}
abbrev Cx.nox(X:Cx):Cx:=X.wish fun _ _=>False
def Cx.Ok.wish{X:Cx}(ok:X.Ok)(E:Ω):(X.wish E).Ok:=
 ⟨ok.mod,ok.kind,ok.glob,ok.blt,ok.above,ok.inj,ok.has,ok.cab,ok.hd,ok.frames,ok.stk,ok.exf,ok.bs,ok.bsz,ok.noex,ok.exfs,ok.funs,ok.frf⟩
def Cx.Ok.unwish{X:Cx}{E:Ω}(ok:(X.wish E).Ok):X.Ok:=
 ⟨ok.mod,ok.kind,ok.glob,ok.blt,ok.above,ok.inj,ok.has,ok.cab,ok.hd,ok.frames,ok.stk,ok.exf,ok.bs,ok.bsz,ok.noex,ok.exfs,ok.funs,ok.frf⟩
section
variable{X:Cx}{aa:Ψ}{σ:St}{H:Hp}{s:Shared}{E:Ω}
def Inv.wish(I:Inv X aa σ H s)(E:Ω):Inv (X.wish E) aa σ H s:=⟨I.ok.wish E,I.os,I.bare,I.base,I.loc,I.cell,I.free,I.freeC,I.pin,I.hok,I.len⟩
def Inv.unwish(I:Inv (X.wish E) aa σ H s):Inv X aa σ H s:=⟨I.ok.unwish,I.os,I.bare,I.base,I.loc,I.cell,I.free,I.freeC,I.pin,I.hok,I.len⟩
def SP.unwish{D:Ends}{f:Flow}{s':Shared}(h:SP (X.wish E) aa D f s'):SP X aa D f s':=by
 cases f with
 |next=>obtain⟨a,H',I,q⟩:=h;exact⟨a,H',I.unwish,q⟩
 |brk=>obtain⟨a,H',I,q⟩:=h;exact⟨a,H',I.unwish,q⟩
 |cont=>obtain⟨a,H',I,q⟩:=h;exact⟨a,H',I.unwish,q⟩
 |ret u=>obtain⟨v,a,H',I,r,q⟩:=h;exact⟨v,a,H',I.unwish,r,q⟩
def PSs.nox{st:List Stmt}{t:TS}(h:PSs X.nox st t):PSs X st t:=fun aa s σ H D I hw=>
 wpAny_mono (h aa s σ H D (I.wish _) hw) (fun _ _ q=>q.unwish) fun _ _ z=>False.elim z
end
section
variable{X:Cx}{st:Stmt}{rest:List Stmt}{t u:TS}{e:Expr}{te:TE}{pos:Pos}
def IT:TS:=fun D σ H=>D.nx σ H
def nK(t u:TS):TS:=fun D σ H=>t {D with nx:=u D} σ H
def zv:PSs X [] IT:=fun _ _ σ H _ I h=>wpAny_execs_nil ⟨σ,H,I,h⟩
def za(h1:PS X st t)(h2:PSs X rest u):PSs X (st::rest) (nK t u):=by
 intro aa s σ H D I h;refine wpAny_execs_cons (aV (h1 aa s σ H {D with nx:=u D} I h) fun f a q=>?_);cases f with
 |next=>
  obtain⟨b,H',c,q⟩:=q;exact h2 aa a b H' D c q
 |ret v=>exact q
 |brk=>exact q
 |cont=>exact q
def zf(h1:PS X st t):PSs X [st] t:=by
 intro aa s σ H D I h;refine wpAny_execs_cons (aV (h1 aa s σ H D I h) fun f a q=>?_);cases f with
 |next=>exact wpAny_execs_nil q
 |ret v=>exact q
 |brk=>exact q
 |cont=>exact q
def IU:TS:=fun D σ H=>D.bk σ H
def IV:PS X (.Break pos) IU:=fun _ _ σ H _ I h=>wpAny_Break ⟨σ,H,I,h⟩
def Inv.quiet{aa:Ψ}{σ:St}{H:Hp}{s:Shared}(I:Inv X aa σ H s):interactive X.env=false:=by simp[interactive,I.ok.kind]
def IW(te:TE):TS:=fun D σ H=>te σ H fun _ H1=>D.nx σ H1
def fD(he:PE X e te)(b:swapsWith e none pos.line X.env=pure false:=by rfl):PS X (.Expr e pos) (IW te):=by
 intro aa s σ H D I h;exact wpAny_Expr_any (aV (he aa s σ H _ I h) fun v d ⟨x,H1,c,f,a⟩=>⟨σ,H1,c,a⟩) I.quiet b
def uW(te:TE):TS:=fun D σ H=>te σ H D.rt
def zo(he:PE X e te):PS X (.Return (some e) pos) (uW te):=by
 intro aa s σ H D I h;exact wpAny_Return_some (aV (he aa s σ H _ I h) fun v d ⟨x,H1,c,a,b⟩=>⟨x,σ,H1,c,a,b⟩)
def u0(c:TT)(t u:TS):TS:=fun D σ H=>c σ H fun b H1=>if b=true then t D σ H1 else u D σ H1
def cT{c:Expr}{a b:List Stmt}{tc:TT}(hc:PT X c tc)(ha:PSs X a t)(hb:PSs X b u):PS X (.If c a b pos) (u0 tc t u):=by
 intro aa s σ H D I h;refine wpAny_If (aV (hc aa s σ H _ I h) fun d e ⟨H1,g,f⟩=>?_);cases d with
 |true=>exact ha aa e σ H1 D g f
 |false=>exact hb aa e σ H1 D g f
def IX:TS:=fun _ _ _=>False
def Ec{a:List Stmt}:PSs X a IX:=fun _ _ _ _ _ _ h=>h.elim
end
abbrev TG:=V->St->Hp->(St->Hp->Prop)->Prop
abbrev iY:=List V->St->Hp->(St->Hp->Prop)->Prop
def PG(X:Cx)(b:Expr)(t:TG):Prop:=
 ∀(aa:Ψ)(s:Shared)(σ:St)(H:Hp)(v:V)(u:Value)(Q:St->Hp->Prop),Inv X aa σ H s->RelV v u->t v σ H Q->
  wpAny (model X.prog X.w) X.A (assign b X.env u) (fun _ s'=>∃a H',Inv X aa a H' s'/\Q a H') X.xe s
def nN(X:Cx)(ts:List Expr)(t:iY):Prop:=
 ∀(aa:Ψ)(s:Shared)(σ:St)(H:Hp)(vs:List V)(us:List Value)(Q:St->Hp->Prop),Inv X aa σ H s->Vals vs us->t vs σ H Q->
  wpAny (model X.prog X.w) X.A (assignInOrder ((assignEach ts X.env).map (·.2)) us) (fun _ s'=>∃a H',Inv X aa a H' s'/\Q a H') X.xe s
abbrev ki:=V->V->V->Hp->(Hp->Prop)->Prop
def nO(X:Cx)(t:ki):Prop:=
 ∀(aa:Ψ)(s:Shared)(σ:St)(H:Hp)(o i v:V)(a b u:Value)(Q:Hp->Prop),Inv X aa σ H s->RelV o a->RelV i b->RelV v u->t o i v H Q->
  wpAny (model X.prog X.w) X.A (setItem a b u) (fun _ s'=>∃H',Inv X aa σ H' s'/\Q H') X.xe s
section
variable{X:Cx}{pos:Pos}
def zK(i:Nat):TG:=fun v σ H Q=>Q (σ.set i (some v)) H
def zi{i:Nat}{x:Str}(a:X.N.Nodup)(hi:X.N[i]?=some x)(hx:Loc X.env.scope x)(hf:X.fn x=true\/X.env.scope.names.lookup x=some .local:=by first|exact .inl rfl|exact .inr rfl|assumption):PG X (.Name x pos) (zK i):=by
 intro aa s σ H v u Q I r h;exact wpAny_assign_Name (qm I a hi hx r (fun s' b=>⟨_,H,b,h⟩) hf)
def i0:iY:=fun vs σ H Q=>vs=[]/\Q σ H
def kj(t:TG)(u:iY):iY:=fun vs σ H Q=>∃v r,vs=v::r/\t v σ H fun a H'=>u r a H' Q
def lS:nN X [] i0:=by
 intro aa s σ H vs us Q I r h;obtain⟨e,h⟩:=h;subst e;cases r;exact assignInOrder_nil ⟨σ,H,I,h⟩
def zW{e:Expr}{es:List Expr}{t:TG}{u:iY}(h1:PG X e t)(h2:nN X es u)(d:(assignEach (e::es) X.env).map (·.2)=assign e X.env::(assignEach es X.env).map (·.2):=by rfl):nN X (e::es) (kj t u):=by
 intro aa s σ H vs us Q I r h;obtain⟨v,g,e1,h⟩:=h;subst e1;cases r with
 |cons r rr=>
  rw[d];refine assignInOrder_cons (aV (h1 aa s σ H _ _ _ I r h) fun _ a ⟨b,H1,f,c⟩=>?_);exact h2 aa a b H1 _ _ Q f rr c
def i3(K:Ac)(n:Nat)(t:iY):TG:=fun v σ H Q=>∃a xs,v=.ref a/\SqT K H a xs/\xs.length=n/\t xs σ H Q
def nP{es:List Expr}{k:Nat}{t:iY}{n:Nat}(hc:X.calm=true)(h:nN X es t)(g:(assignEach es X.env).length=n:=by rfl)(c:(assignEach es X.env).findIdx? (·.1)=none:=by rfl):PG X (.Tuple es k pos) (i3 X.K n t):=by
 intro aa s σ H v u Q I r hw;obtain⟨a,xs,e1,hq,f,hw⟩:=hw;subst e1;cases r;obtain⟨ae,d,ht,hz⟩:=I.tuple hq;refine assign_Tuple_tuple (I.ok.hd hc) ht (by simp[g,<-f,d.length]) c fun h' hx=>?_;have i:Inv X aa σ H {s with heap:=h'}:=I.kept (t':=s.toks) fun b o e=>hx b o (Ar (Am e)) e;exact h aa _ σ H xs _ Q i (by simpa using d) hw
def vc(to a:TE)(t:ki):TG:=fun v σ H Q=>to σ H fun o H1=>a σ H1 fun i H2=>t o i v H2 fun b=>Q σ b
def ve{o i:Expr}{to c:TE}{t:ki}(q:PE X o to)(hi:PE X i c)(w:nO X t)(ha:∀v,assign (.Subscript o i pos) X.env v=(do
   let a <-holding [v] (eval o X.env)
   let b <-holding [v,a] (eval i X.env)
   standAt pos
   holding [v,a,b] (setItem a b v)
   release [v,a,b] []):=by intro _;rfl):PG X (.Subscript o i pos) (vc to c t):=by
 intro aa s σ H v u Q I r h;rw[ha];refine Aa (AD (aV (q aa s σ H _ I h) fun a d ⟨x,H1,A,e,f⟩=>?_));refine Aa (AD (aV (hi aa d σ H1 _ A f) fun b g ⟨y,H2,C,j,l⟩=>?_));refine Aa (wpAny_standAt (Aa (AD (aV (w aa g σ H2 x y v a b u _ C e j r l) fun _ F ⟨D,E,p⟩=>?_))));exact wpAny_release ⟨σ,D,E,p⟩
def gE(te:TE)(g:TG):TS:=fun D σ H=>te σ H fun x H1=>g x σ H1 D.nx
def qr{tg e:Expr}{te:TE}{g:TG}(he:PE X e te)(d:PG X tg g)(f:swapsWithSole [tg] e pos.line X.env=pure false:=by rfl)(hw:swappedStores [tg] e X.env=pure none:=by rfl)(h1:(assignEach [tg] X.env).map (·.2)=[assign tg X.env]:=by rfl):PS X (.Assign [tg] e pos) (gE te g):=by
 intro aa s σ H D I h;refine wpAny_Assign_stores (aV (he aa s σ H _ I h) fun v a ⟨x,H1,i,b,c⟩=>?_) f hw;rw[h1];exact aV (d aa a σ H1 x v _ i b c) fun _ j q=>q
def zk{i:Nat}{x:Str}{e:Expr}{te:TE}{aQ:Pos}(c:X.N.Nodup)(hi:X.N[i]?=some x)(hx:Loc X.env.scope x)(he:PE X e te)(d:swapsWith e (some (.Name x aQ)) pos.line X.env=pure false:=by rfl)(hf:X.fn x=true\/X.env.scope.names.lookup x=some .local:=by first|exact .inl rfl|exact .inr rfl|assumption):PS X (.Assign [.Name x aQ] e pos) (gE te (zK i)):=by
 intro aa s σ H D I h;refine wpAny_Assign_Name (aV (he aa s σ H _ I h) fun v j ⟨y,H1,f,a,b⟩=>?_) d;exact qm f c hi hx a (fun l g=>⟨_,H1,g,b⟩) hf
def IY(c:TT)(tb:TS):TS:=fun D σ H=>∃W:Nat->St->Hp->Prop,(∃m,W m σ H)/\∀m σ H,W m σ H->
 c σ H fun b H1=>if b=true then ∃N:St->Hp->Prop,(∀a H',N a H'->∃d,d<m/\W d a H')/\tb {D with nx:=N,ct:=N,bk:=D.nx} σ H1 else D.nx σ H1
def vl{c:Expr}{body:List Stmt}{tc:TT}{tb:TS}(hp:PassesOwn (model X.prog X.w) X.A X.env X.xe)(hc:PT X c tc)(hb:PSs X body tb):PS X (.While c body [] pos) (IY tc tb):=by
 intro aa s σ H D I h;obtain⟨W,⟨y,C⟩,turn⟩:=h;refine wpAny_While (codeAny_whileLoop (fun n s'=>∃q H',Inv X aa q H' s'/\W n q H') ?_ y ⟨σ,H,I,C⟩);rintro n E ⟨i,H1,G,F⟩;refine wpAny_passesOwn hp (aV (hc aa E i H1 _ G (turn n i H1 F)) fun b x ⟨H2,u,e⟩=>?_);cases b with
 |true=>
  obtain⟨N,r,e⟩:=e;rw[Sa rfl];refine wpAny_passesOwn hp (aV (hb aa x i H2 _ u e) fun f J g=>?_);cases f with
  |next=>
   obtain⟨a,d,p,j⟩:=g;obtain⟨l,hm,o⟩:=r a d j;exact⟨l,hm,a,d,p,o⟩
  |cont=>
   obtain⟨a,d,p,j⟩:=g;obtain⟨l,hm,o⟩:=r a d j;exact⟨l,hm,a,d,p,o⟩
  |brk=>exact g
  |ret v=>exact g
 |false=>
  rw[Sb Aq];exact wpAny_execs_nil ⟨i,H2,u,e⟩
end
structure It where
 go:Nat->Hp->Prop
 yld:Nat->Hp->V->Hp->Prop
 stop:Nat->Hp->Prop
def be(X:Cx)(aa:Ψ)(H:Hp)(b:Addr):Prop:=
 H b=none/\b≠X.env.locals/\b∉X.fs/\(b∈X.ex\/X.s₀⁻¹<=b)/\(∀x c,X.env.cells.lookup x=some c->c≠b)/\∀p∈X.pn++aa,p.1≠b
def Inv.fpOk{X:Cx}{aa:Ψ}{σ:St}{H H':Hp}{s:Shared}{b:Addr}(I:Inv X aa σ H s)(hb:s⁻¹<=b)(a:H' b=none):be X aa H' b:=by
 refine⟨a,AW (Au I.lt hb),I.nofs hb,.inr (Ay I.sz hb),fun x c e z=>?_,fun p hp z=>?_⟩
 ·obtain⟨v,q⟩:=I.cell x c e
  exact absurd (Au q.lt (by rw[z];exact hb)) (Qw _)
 ·exact absurd (Au (Am (I.pin p hp).1) (by rw[z];exact hb)) (Qw _)
structure Turn(P:Program)(w:World)(K:Ac)(tg:Expr)(J:It)(fp:List Addr)(it:Addr)(tn:Nat->Heap->Prop):Prop where
 mem:it∈fp
 obj:∀i h,tn i h->∀b∈fp,∃o,h.get? b=some o/\∀v,o.data≠.cell v
 keep:∀i h h',tn i h->(∀b∈fp,∀o,h.get? b=some o->h'.get? b=some o)->tn i h'
 item:∀(X:Cx),X.prog=P->X.w=w->X.K=K->X.calm=true->∀(i:Nat)(aa:Ψ)(s:Shared)(σ:St)(H:Hp)(E:Ω),Inv X aa σ H s->(∀b∈fp,be X aa H b)->tn i s.heap->J.go i H->
  wpAny (model P w) X.A (pyNext (.ref it)) (fun r s1=>∃u,r=some u/\
   wpAny (model P w) X.A (letOwnedTupleGo tg (.ref it) u) (fun _ s2=>∃x H',Inv X aa σ H' s2/\RelV x u/\J.yld i H x H'/\tn (i+1) s2.heap/\∀b∈fp,H' b=none) E s1) E s
 done:∀(X:Cx),X.prog=P->X.w=w->X.K=K->X.calm=true->∀(i:Nat)(aa:Ψ)(s:Shared)(σ:St)(H:Hp)(E:Ω),Inv X aa σ H s->(∀b∈fp,be X aa H b)->tn i s.heap->J.stop i H->
  wpAny (model P w) X.A (pyNext (.ref it)) (fun r s1=>r=none/\Inv X aa σ H s1) E s
 self:∀(A:Around)(i:Nat)(s:Shared)(Q:Ω)(E:Ω),tn i s.heap->Q (.ref it) s->wpAny (model P w) A (pyIter (.ref it)) Q E s
abbrev TI:=St->Hp->(It->Hp->Prop)->Prop
def vp(X:Cx)(aa:Ψ)(σ:St)(tg:Expr)(R:It->Hp->Prop)(e:Value)(c:Shared):Prop:=
 ∃(it:Addr)(a:List Addr)(d:Nat->Heap->Prop)(J:It)(H':Hp),e=.ref it/\Inv X aa σ H' c/\Turn X.prog X.w X.K tg J a it d/\d 0 c.heap/\(∀b∈a,be X aa H' b)/\R J H'
def PI(X:Cx)(tg iter:Expr)(wi:TI):Prop:=
 ∀(aa:Ψ)(s:Shared)(σ:St)(H:Hp)(R:It->Hp->Prop),Inv X aa σ H s->wi σ H R->
  wpAny (model X.prog X.w) X.A (eval iter X.env) (fun v a=>wpAny (model X.prog X.w) X.A (pyIter v) (vp X aa σ tg R) X.xe a) X.xe s
def nQ{M:Model}{A:Around}{E:Ω}{s:Shared}{tg:Expr}{it:Addr}{u:Value}{o:Obj}{n:String}{vs:Array Value}{Q:Unit->Shared->Prop}(b:s.heap.get? it=some o)(hc:o.cls=.type n)(hd:o.data=.fields vs)(c:["enumerate","zip","dict_itemiterator","dict_reverseitemiterator","odict_iterator","itertools.zip_longest","itertools.pairwise"].contains n=false)(a:Q () s):wpAny M A (letOwnedTupleGo tg (.ref it) u) Q E s:=by
 unfold letOwnedTupleGo;cases tg<;>first
  |exact Ae a
  |(cases u<;>first
    |exact Ae a
    |(refine Aa (wpAny_load b ?_);rw[hc,hd];show wpAny M A (if(["enumerate","zip","dict_itemiterator","dict_reverseitemiterator","odict_iterator","itertools.zip_longest","itertools.pairwise"].contains n&&vs[0]?==some (rawInt _))=true then _ else _) Q E s;rw[Sb (by intro h;rw[c,Bool.false_and] at h;cases h)];exact Ae a))
def dG(K:Ac)(a:Addr):It:=
 ⟨fun i H=>∃xs x,SqL K H a xs/\xs[i]?=some x,fun i H x H'=>H'=H/\∀xs,SqL K H a xs->xs[i]?=some x,fun i H=>∃xs,SqL K H a xs/\xs.length<=i⟩
def kl(K:Ac)(a:Addr):It:=
 ⟨fun i H=>∃xs x,SqT K H a xs/\xs[i]?=some x,fun i H x H'=>H'=H/\∀xs,SqT K H a xs->xs[i]?=some x,fun i H=>∃xs,SqT K H a xs/\xs.length<=i⟩
def ge(lo:Int)(n:Nat):It:=⟨fun i _=>i<n,fun i H x H'=>H'=H/\x=.int (lo+i),fun i _=>n<=i⟩
def IZ{P:Program}{w:World}{K:Ac}{tg:Expr}(a it:Addr):Turn P w K tg (dG K a) [it] it (fun i h=>h.IsListIter it a i) where
 mem:=by simp
 obj:=fun i h st b hb=>by
  have e:b=it:=by simpa using hb
  subst e;obtain⟨o,e,c,d⟩:=st;exact⟨o,e,fun v z=>by rw[d] at z;cases z⟩
 keep:=fun i h h' st k=>st.at fun o e=>k it (by simp) o e
 item:=by
  intro X f hw g hc i aa s σ H E I hf st j;subst f hw g;obtain⟨xs,x,hq,hx⟩:=j;obtain⟨ae,l,p,hz⟩:=I.list hq;obtain⟨u,hu,F⟩:=l.get hx;obtain⟨q,f1,f2,r,y,A⟩:=hf it (by simp);refine wpAny_pyNext_list_item st p.isList (x:=u) (by simpa using hu) fun h' C sb=>?_;have G:Inv X aa σ H {s with heap:=h'}:=I.turned (t':=s.toks) (fun b o hb e=>(sb.2 b hb).trans e) q f1 r y A;obtain⟨o,e,c,d⟩:=id C;exact⟨u,rfl,nQ (s:={s with heap:=h'}) e c d ξ ⟨x,H,G,F,⟨rfl,fun ys hy=>by rw[I.list_inj hy hq];exact hx⟩,C,fun b hb=>(hf b hb).1⟩⟩
 done:=by
  intro X f hw g hc i aa s σ H E I hf st j;subst f hw g;obtain⟨xs,hq,hx⟩:=j;obtain⟨ae,l,p,hz⟩:=I.list hq;obtain⟨q,f1,f2,r,y,A⟩:=hf it (by simp);have J:=l.length;exact wpAny_pyNext_list_end (I.ok.hd hc) st p.isList (by simp;omega) fun h' D=>⟨rfl,I.turned (t':=s.toks) (fun b o hb e=>D b o hb e) q f1 r y A⟩
 self:=fun _ _ _ _ _ st h=>wpAny_pyIter_listiter st h
def I_{P:Program}{w:World}{K:Ac}{tg:Expr}(a it:Addr):Turn P w K tg (kl K a) [it] it (fun i h=>h.IsTupleIter it a i) where
 mem:=by simp
 obj:=fun i h st b hb=>by
  have e:b=it:=by simpa using hb
  subst e;obtain⟨o,e,c,d⟩:=st;exact⟨o,e,fun v z=>by rw[d] at z;cases z⟩
 keep:=fun i h h' st k=>st.at fun o e=>k it (by simp) o e
 item:=by
  intro X f hw g hc i aa s σ H E I hf st j;subst f hw g;obtain⟨xs,x,hq,hx⟩:=j;obtain⟨ae,l,p,hz⟩:=I.tuple hq;obtain⟨u,hu,F⟩:=l.get hx;obtain⟨q,f1,f2,r,y,A⟩:=hf it (by simp);refine wpAny_pyNext_tuple_item st (show s.heap.IsTuple a ae.toArray from p) (x:=u) (by simpa using hu) fun h' C sb=>?_;have G:Inv X aa σ H {s with heap:=h'}:=I.turned (t':=s.toks) (fun b o hb e=>(sb.2 b hb).trans e) q f1 r y A;obtain⟨o,e,c,d⟩:=id C;exact⟨u,rfl,nQ (s:={s with heap:=h'}) e c d ξ ⟨x,H,G,F,⟨rfl,fun ys hy=>by rw[I.tuple_inj hy hq];exact hx⟩,C,fun b hb=>(hf b hb).1⟩⟩
 done:=by
  intro X f hw g hc i aa s σ H E I hf st j;subst f hw g;obtain⟨xs,hq,hx⟩:=j;obtain⟨ae,l,p,hz⟩:=I.tuple hq;obtain⟨q,f1,f2,r,y,A⟩:=hf it (by simp);have J:=l.length;exact wpAny_pyNext_tuple_end (I.ok.hd hc) st (show s.heap.IsTuple a ae.toArray from p) (by simp;omega) fun h' D=>⟨rfl,I.turned (t':=s.toks) (fun b o hb e=>D b o hb e) q f1 r y A⟩
 self:=fun _ _ _ _ _ st h=>wpAny_pyIter_tupleiter st h
def Ja{P:Program}{w:World}{K:Ac}{tg:Expr}(it:Addr)(lo:Int)(n:Nat):Turn P w K tg (ge lo n) [it] it (fun i h=>IsRangeIter h it (lo+(i:Nat)*1) ((n:Int)-(i:Nat)) 1) where
 mem:=by simp
 obj:=fun i h st b hb=>by
  have e:b=it:=by simpa using hb
  subst e;exact⟨_,st,fun v z=>by
   have x:Data.fields _=Data.cell v:=z;cases x⟩
 keep:=fun i h h' st k=>k it (by simp) _ st
 item:=by
  intro X a hw c hc i aa s σ H E I hf st d;subst a hw c;obtain⟨f,f1,f2,g,j,l⟩:=hf it (by simp);have W:=Walks.range (prog:=X.prog) (w:=X.w) (I.ok.hd hc) it lo 1 n;refine W.item i s _ _ d st fun v h' tk q p r=>?_;obtain⟨t,rfl⟩:=q;have y:Inv X aa σ H {s with heap:=h',toks:=tk}:=I.turned (fun b o hb e=>r b o (by simpa using hb) e) f f1 g j l;refine⟨_,rfl,nQ (s:={s with heap:=h',toks:=tk}) (n:="range_iterator") p rfl rfl ξ ⟨.int (lo+i),H,y,⟨t,?_⟩,⟨rfl,rfl⟩,p,fun b hb=>(hf b hb).1⟩⟩;rw[Int.mul_one]
 done:=by
  intro X a hw c hc i aa s σ H E I hf st d;subst a hw c;obtain⟨f,f1,f2,g,j,l⟩:=hf it (by simp);exact wpAny_pyNext_range_end (I.ok.hd hc) st (by have:n<=i:=d;omega) fun h' u=>⟨rfl,I.turned (t':=s.toks) (fun b o hb e=>u b o hb e) f f1 g j l⟩
 self:=fun _ _ _ _ _ st h=>wpAny_pyIter_rangeiter st h
section
variable{X:Cx}{tg:Expr}
def Ed(K:Ac)(tl:TE):TI:=fun σ H R=>tl σ H fun x H1=>∃a,x=.ref a/\(∃xs,SqL K H1 a xs)/\R (dG K a) H1
def vr(K:Ac)(tl:TE):TI:=fun σ H R=>tl σ H fun x H1=>∃a,x=.ref a/\(∃xs,SqT K H1 a xs)/\R (kl K a) H1
def zu{l:Expr}{tl:TE}(g:PE X l tl):PI X tg l (Ed X.K tl):=by
 intro aa s σ H R I h;refine aV (g aa s σ H _ I h) fun v c ⟨x,H1,I1,d,f⟩=>?_;obtain⟨a,e,⟨xs,hq⟩,q⟩:=f;subst e;cases d;obtain⟨ae,i,p,hz⟩:=I1.list hq;refine wpAny_pyIter_list p.isList ?_;refine⟨c⁻¹,[c⁻¹],_,_,H1,rfl,I1.kept (t':=c.toks) fun b o e=>Ad _ e,IZ a _,⟨_,An _ rfl,rfl,rfl⟩,fun b hb=>?_,q⟩;have e:b=c⁻¹:=by simpa using hb
 subst e;exact I1.fpOk (Af _) (I1.hok.fresh (Af _))
def Ee{l:Expr}{tl:TE}(g:PE X l tl):PI X tg l (vr X.K tl):=by
 intro aa s σ H R I h;refine aV (g aa s σ H _ I h) fun v c ⟨x,H1,I1,d,f⟩=>?_;obtain⟨a,e,⟨xs,hq⟩,q⟩:=f;subst e;cases d;obtain⟨ae,i,p,hz⟩:=I1.tuple hq;refine wpAny_pyIter_tuple (show c.heap.IsTuple a ae.toArray from p) ?_;refine⟨c⁻¹,[c⁻¹],_,_,H1,rfl,I1.kept (t':=c.toks) fun b o e=>Ad _ e,I_ a _,⟨_,An _ rfl,rfl,rfl⟩,fun b hb=>?_,q⟩;have e:b=c⁻¹:=by simpa using hb
 subst e;exact I1.fpOk (Af _) (I1.hok.fresh (Af _))
def Ef{aa:Ψ}{σ:St}{H:Hp}{s:Shared}{R:It->Hp->Prop}{E:Ω}{lo hi:Int}{t u v:Tok}{tk:Nat}(I:Inv X aa σ H s)(h1:-(2 ^ 62)<=lo)(h2:lo<2 ^ 62)(a:-(2 ^ 62)<=hi)(c:hi<2 ^ 62)(q:R (ge lo (hi-lo).toNat) H):wpAny (model X.prog X.w) X.A (pyIter (.ref s⁻¹)) (vp X aa σ tg R) E {s with heap:=s.heap.push {cls:=.type "range",data:=.fields #[.int lo t,.int hi u,.int 1 v]},toks:=tk}:=by
 refine wpAny_pyIter_range (IsRange.new ..) (small_one h1 h2 a c) ?_;have I1:Inv X aa σ H {s with heap:=s.heap.push {cls:=.type "range",data:=.fields #[.int lo t,.int hi u,.int 1 v]},toks:=tk}:=I.kept fun b o e=>Ad _ e;refine⟨(s.heap.push {cls:=.type "range",data:=.fields #[.int lo t,.int hi u,.int 1 v]}).objs.size,[(s.heap.push {cls:=.type "range",data:=.fields #[.int lo t,.int hi u,.int 1 v]}).objs.size],_,_,H,rfl,
  I1.kept (t':=tk) fun b o e=>Ad _ e,Ja _ lo (hi-lo).toNat,?_,fun b hb=>?_,q⟩
 ·have e1:lo+((0:Nat):Int)*1=lo:=by simp
  have e2:(((hi-lo).toNat:Nat):Int)-((0:Nat):Int)=Builtin.Range.rangeSize lo hi 1:=by rw[rangeSize_one];split<;>omega
  show IsRangeIter _ _ (lo+((0:Nat):Int)*1) ((((hi-lo).toNat:Nat):Int)-((0:Nat):Int)) 1;rw[e1,e2];exact An _ rfl
 ·have e:b=(s.heap.push {cls:=.type "range",data:=.fields #[.int lo t,.int hi u,.int 1 v]}).objs.size:=by simpa using hb
  subst e;exact I1.fpOk (Af _) (I1.hok.fresh (Af _))
def Jb(ta:TA):TI:=fun σ H R=>ta σ H fun vs H1=>∃j:Int,vs=[.int j]/\-(2 ^ 62)<=j/\j<2 ^ 62/\R (ge 0 j.toNat) H1
def Jc(ta:TA):TI:=fun σ H R=>ta σ H fun vs H1=>∃i j:Int,vs=[.int i,.int j]/\(-(2 ^ 62)<=i/\i<2 ^ 62/\-(2 ^ 62)<=j/\j<2 ^ 62)/\R (ge i (j-i).toNat) H1
def lY{a:Expr}{ta:TA}{p pos:Pos}(f:Gl X "range")(hm:X.mg "range"=none)(ha:PA X [a] ta)(g:starEach [a] X.env=[(false,eval a X.env)]:=by rfl):PI X tg (.Call (.Name "range" p) [a] [] pos) (Jb ta):=by
 intro aa s σ H R I h;refine Call_ (jD I f hm boot_range (P6 (aV (ha pos aa s σ H _ I h) fun us l ⟨vs,H1,i,c,b⟩=>?_) g rfl));obtain⟨j,e,b,d,q⟩:=b;subst e;cases c with
 |cons r rr=>
  cases rr;obtain⟨t,rfl⟩:=r;exact call_range_1 (Ef i ω ω b d (by simpa using q))
def Jd{a b:Expr}{ta:TA}{p pos:Pos}(u:Gl X "range")(hm:X.mg "range"=none)(ha:PA X [a,b] ta)(v:starEach [a,b] X.env=[(false,eval a X.env),(false,eval b X.env)]:=by rfl)(d:starEach [b] X.env=[(false,eval b X.env)]:=by rfl):PI X tg (.Call (.Name "range" p) [a,b] [] pos) (Jc ta):=by
 intro aa s σ H R I h;refine Call_ (jD I u hm boot_range (P6 (aV (ha pos aa s σ H _ I h) fun us x ⟨vs,H1,w,f,c⟩=>?_) (by rw[v,d]) (by rw[d];rfl)));obtain⟨i,j,e,⟨c,g,l,o⟩,q⟩:=c;subst e;cases f with
 |cons r rr=>
  cases rr with
  |cons r' rr=>
   cases rr;obtain⟨t,rfl⟩:=r;obtain⟨t',rfl⟩:=r';exact call_range_2 (Ef w c g l o q)
def vt(wi:TI)(g:TG)(tb:TS):TS:=fun D σ H=>wi σ H fun J H1=>∃W:Nat->Nat->St->Hp->Prop,(∃m,W 0 m σ H1)/\∀i m σ H,W i m σ H->
 (J.stop i H/\D.nx σ H)\/(J.go i H/\∃N:St->Hp->Prop,(∀a H',N a H'->∃b,b<m/\W (i+1) b a H')/\∀x H',J.yld i H x H'->g x σ H' fun c H2=>tb {D with nx:=N,ct:=N,bk:=D.nx} c H2)
def nS(a:List Addr)(h:Heap):Ψ:=a.filterMap fun b=>(h.get? b).map fun o=>(b,o)
def qu{a:List Addr}{h:Heap}{b:Addr}{o:Obj}(hb:b∈a)(e:h.get? b=some o):(b,o)∈nS a h:=List.mem_filterMap.mpr ⟨b,hb,by rw[e];rfl⟩
def Je{a:List Addr}{h:Heap}{p:Addr×Obj}(hp:p∈nS a h):p.1∈a/\h.get? p.1=some p.2:=by
 obtain⟨b,hb,e⟩:=List.mem_filterMap.mp hp;cases q:h.get? b with
 |none=>rw[q] at e;cases e
 |some o=>
  rw[q] at e;have e':(b,o)=p:=Ag e;subst e';exact⟨hb,q⟩
def Inv.pinned{aa:Ψ}{σ:St}{H:Hp}{s:Shared}{a:List Addr}(I:Inv X aa σ H s)(hf:∀b∈a,be X aa H b)(f:∀b∈a,∃o,s.heap.get? b=some o/\∀v,o.data≠.cell v):Inv X (aa++nS a s.heap) σ H s:=
 I.pins_of fun p hp=>(Pe.mp hp).elim (fun z=>I.pin p (AN _ z)) fun z=>by
  obtain⟨hb,e⟩:=Je z;obtain⟨c,f1,f2,_⟩:=hf p.1 hb;obtain⟨o,e',d⟩:=f p.1 hb;rw[e] at e';cases e';exact⟨e,c,f1,f2,d⟩
def Inv.unpinned{aa a:Ψ}{σ:St}{H:Hp}{s:Shared}(I:Inv X (aa++a) σ H s):Inv X aa σ H s:=I.pins_of fun p hp=>I.pin p (AN _ (Pu _ hp))
def el{iter:Expr}{body:List Stmt}{wi:TI}{g:TG}{tb:TS}{pos:Pos}(hp:PassesOwn (model X.prog X.w) X.A X.env X.xe)(hc:X.calm=true)(hi:PI X tg iter wi)(hg:PG X tg g)(hb:PSs X body tb)(hs:∀x,foldedSetIterable iter X.env x=pure x:=by intro _;rfl):PS X (.For tg iter body [] pos) (vt wi g tb):=by
 intro aa s σ H D I h;refine wpAny_For (aV (hi aa s σ H _ I h) fun v s1 h1=>aV h1 fun pO s2 h2=>?_) hs;obtain⟨it,y,O,J,H2,e,I2,T,eP,f2,W,⟨m0,w0⟩,turn⟩:=h2;subst e;have c:∀{H':Hp},(∀b∈y,H' b=none)->∀b∈y,be X aa H' b:=fun hn b hb=>⟨hn b hb,(f2 b hb).2⟩;refine codeAny_forLoop_any (fun n s'=>∃i C H',Inv X aa C H' s'/\O i s'.heap/\(∀b∈y,H' b=none)/\W i n C H') ?_ m0 ⟨0,σ,H2,I2,eP,fun b hb=>(f2 b hb).1,w0⟩;rintro n P ⟨i,E,F,Y,Q,S,w3⟩;rcases turn i n E F w3 with ⟨stop,qn⟩|⟨go,N,hN,step⟩
 ·refine wpAny_passesOwn hp (aV (T.done X rfl rfl rfl hc i aa P E F X.xe Y (c S) Q stop) fun r s4 ⟨hr,I4⟩=>?_)
  subst hr;exact wpAny_execs_nil ⟨E,F,I4,qn⟩
 ·refine wpAny_passesOwn hp (aV (T.item X rfl rfl rfl hc i aa P E F X.xe Y (c S) Q go) fun r s4 ⟨u,hr,h4⟩=>?_)
  subst hr;refine wpAny_passesOwn hp (aV h4 fun _ M ⟨x,U,I5,r5,y5,p,G⟩=>?_);have nv:=I5.pinned (c G) (T.obj _ _ p);refine wpAny_passesOwn hp (aV (hg _ M E U x u _ nv r5 (step x U y5)) fun _ s6 ⟨jn,H6,I6,q6⟩=>?_);refine wpAny_passesOwn hp (aV (hb _ s6 jn H6 _ I6 q6) fun f L l=>?_);have again:∀{a:St}{j:Hp},Inv X (aa++nS y M.heap) a j L->N a j->∃m,m<n/\∃i C H',Inv X aa C H' L/\O i L.heap/\(∀b∈y,H' b=none)/\W i m C H':=fun{a j} I7 q=>by
   obtain⟨m',hm,w7⟩:=hN a j q;refine⟨m',hm,i+1,a,j,I7.unpinned,T.keep _ _ _ p fun b hb o e=>(I7.pin (b,o) (AN _ (AN _ (qu hb e)))).1,fun b hb=>?_,w7⟩;obtain⟨o,e,d⟩:=T.obj _ _ p b hb;exact(I7.pin (b,o) (AN _ (AN _ (qu hb e)))).2.1
  cases f with
  |next=>obtain⟨a,j,I7,q⟩:=l;exact again I7 q
  |cont=>obtain⟨a,j,I7,q⟩:=l;exact again I7 q
  |brk=>obtain⟨a,j,I7,l⟩:=l;exact⟨a,j,I7.unpinned,l⟩
  |ret v=>obtain⟨x7,a,j,I7,r7,l⟩:=l;exact⟨x7,a,j,I7.unpinned,r7,l⟩
end
def iv{K:Ac}{a:Addr}{xs:List V}{g:TG}{tb:TS}{D:Ends}{σ:St}{H:Hp}(b:Nat->St->Hp->Prop)(l:b 0 σ H)(o:∀i σ H,i<=xs.length->b i σ H->SqL K H a xs)(r:∀i x σ H,xs[i]?=some x->b i σ H->g x σ H fun d H2=>tb {D with nx:=b (i+1),ct:=b (i+1),bk:=D.nx} d H2)(hd:∀σ H,b xs.length σ H->D.nx σ H):∃W:Nat->Nat->St->Hp->Prop,(∃m,W 0 m σ H)/\∀i m σ H,W i m σ H->
   ((dG K a).stop i H/\D.nx σ H)\/((dG K a).go i H/\∃N:St->Hp->Prop,(∀f H',N f H'->∃h,h<m/\W (i+1) h f H')/\∀x H',(dG K a).yld i H x H'->g x σ H' fun d H2=>tb {D with nx:=N,ct:=N,bk:=D.nx} d H2):=by
 refine⟨fun i m σ H=>m=xs.length-i/\i<=xs.length/\b i σ H,⟨xs.length,by simp,AX _,l⟩,?_⟩;rintro i m σ H ⟨rfl,hi,p⟩;have q:=o i σ H hi p
 by_cases c:i<xs.length
 ·refine .inr ⟨⟨xs,xs[i],q,by simp[c]⟩,b (i+1),fun f H' j=>⟨xs.length-(i+1),ω,rfl,c,j⟩,fun x H' y=>?_⟩
  obtain⟨e,y⟩:=y;subst e;exact r i x σ _ (y xs q) p
 ·have e:i=xs.length:=ω
  subst e;exact .inl ⟨⟨xs,q,Af _⟩,hd σ H p⟩
def Jf{K:Ac}{a:Addr}{xs:List V}{g:TG}{tb:TS}{D:Ends}{σ:St}{H:Hp}(b:Nat->St->Hp->Prop)(l:b 0 σ H)(o:∀i σ H,i<=xs.length->b i σ H->SqT K H a xs)(r:∀i x σ H,xs[i]?=some x->b i σ H->g x σ H fun d H2=>tb {D with nx:=b (i+1),ct:=b (i+1),bk:=D.nx} d H2)(hd:∀σ H,b xs.length σ H->D.nx σ H):∃W:Nat->Nat->St->Hp->Prop,(∃m,W 0 m σ H)/\∀i m σ H,W i m σ H->
   ((kl K a).stop i H/\D.nx σ H)\/((kl K a).go i H/\∃N:St->Hp->Prop,(∀f H',N f H'->∃h,h<m/\W (i+1) h f H')/\∀x H',(kl K a).yld i H x H'->g x σ H' fun d H2=>tb {D with nx:=N,ct:=N,bk:=D.nx} d H2):=by
 refine⟨fun i m σ H=>m=xs.length-i/\i<=xs.length/\b i σ H,⟨xs.length,by simp,AX _,l⟩,?_⟩;rintro i m σ H ⟨rfl,hi,p⟩;have q:=o i σ H hi p
 by_cases c:i<xs.length
 ·refine .inr ⟨⟨xs,xs[i],q,by simp[c]⟩,b (i+1),fun f H' j=>⟨xs.length-(i+1),ω,rfl,c,j⟩,fun x H' y=>?_⟩
  obtain⟨e,y⟩:=y;subst e;exact r i x σ _ (y xs q) p
 ·have e:i=xs.length:=ω
  subst e;exact .inl ⟨⟨xs,q,Af _⟩,hd σ H p⟩
def vu{lo:Int}{n:Nat}{g:TG}{tb:TS}{D:Ends}{σ:St}{H:Hp}(b:Nat->St->Hp->Prop)(j:b 0 σ H)(l:∀i σ H,i<n->b i σ H->g (.int (lo+i)) σ H fun c H2=>tb {D with nx:=b (i+1),ct:=b (i+1),bk:=D.nx} c H2)(hd:∀σ H,b n σ H->D.nx σ H):∃W:Nat->Nat->St->Hp->Prop,(∃m,W 0 m σ H)/\∀i m σ H,W i m σ H->
   ((ge lo n).stop i H/\D.nx σ H)\/((ge lo n).go i H/\∃N:St->Hp->Prop,(∀d H',N d H'->∃f,f<m/\W (i+1) f d H')/\∀x H',(ge lo n).yld i H x H'->g x σ H' fun c H2=>tb {D with nx:=N,ct:=N,bk:=D.nx} c H2):=by
 refine⟨fun i m σ H=>m=n-i/\i<=n/\b i σ H,⟨n,by simp,AX _,j⟩,?_⟩;rintro i m σ H ⟨rfl,hi,p⟩
 by_cases a:i<n
 ·refine .inr ⟨a,b (i+1),fun d H' h=>⟨n-(i+1),ω,rfl,a,h⟩,fun x H' y=>?_⟩
  obtain⟨e,y⟩:=y;subst e y;exact l i σ _ a p
 ·have e:i=n:=ω
  subst e;exact .inl ⟨Af _,hd σ H p⟩
abbrev R2:=V->V->Hp->VK->Prop
def c7(X:Cx)(f:Value->Value->Sem Value)(r:R2):Prop:=
 ∀(aa:Ψ)(s:Shared)(σ:St)(H:Hp)(x y:V)(v u:Value)(Q:VK),Inv X aa σ H s->RelV x v->RelV y u->r x y H Q->
  wpAny (model X.prog X.w) X.A (f v u) (EP X aa σ Q) X.xe s
def vB(X:Cx)(f:Value->Sem Value)(r:V->Hp->VK->Prop):Prop:=
 ∀(aa:Ψ)(s:Shared)(σ:St)(H:Hp)(x:V)(v:Value)(Q:VK),Inv X aa σ H s->RelV x v->r x H Q->
  wpAny (model X.prog X.w) X.A (f v) (EP X aa σ Q) X.xe s
def dy(X:Cx)(f:Value)(r:List V->Hp->VK->Prop):Prop:=
 ∀(aa:Ψ)(s:Shared)(σ:St)(H:Hp)(xs:List V)(us:List Value)(Q:VK),Inv X aa σ H s->Vals xs us->r xs H Q->
  wpAny (model X.prog X.w) X.A (call f us) (EP X aa σ Q) X.xe s
def bC(r:R2)(ta tb:TE):TE:=fun σ H Q=>ta σ H fun x H1=>tb σ H1 fun y H2=>r x y H2 Q
def vD(r:V->Hp->VK->Prop)(ta:TE):TE:=fun σ H Q=>ta σ H fun x H1=>r x H1 Q
def rI(C:Int->Int->Prop)(g:Int->Int->V):R2:=fun x y H Q=>∃i j,x=.int i/\y=.int j/\C i j/\Q (g i j) H
def eW(g:Int->Int->V):R2:=fun x y H Q=>∃i j,x=.int i/\y=.int j/\Q (g i j) H
def rU(g:Int->V):V->Hp->VK->Prop:=fun x H Q=>∃i,x=.int i/\Q (g i) H
section
variable{X:Cx}{a b c:Expr}{ta tb tc:TE}{pos:Pos}
def km(ha:PE X a ta)(hb:PE X b tb){aa:Ψ}{s:Shared}{σ:St}{H:Hp}{R:V->V->Hp->Prop}(I:Inv X aa σ H s)(h:ta σ H fun x H1=>tb σ H1 fun y H2=>R x y H2){Q:Ω}{f:Value->Value->Sem Value}(hf:∀v u c x y H2,Inv X aa σ H2 c->RelV x v->RelV y u->R x y H2->wpAny (model X.prog X.w) X.A (f v u) Q X.xe c):wpAny (model X.prog X.w) X.A (eval a X.env) (fun v d=>wpAny (model X.prog X.w) X.A (eval b X.env) (fun u e=>wpAny (model X.prog X.w) X.A (f v u) Q X.xe e) X.xe d) X.xe s:=by
 refine aV (ha aa s σ H _ I h) fun v g ⟨x,H1,p,i,j⟩=>?_;refine aV (hb aa g σ H1 _ p j) fun u c ⟨y,H2,q,l,o⟩=>?_;exact hf v u c x y H2 q i l o
def zn{op:Operator}{r:R2}(f:c7 X (binaryOp op) r)(ha:PE X a ta)(hb:PE X b tb):PE X (.BinOp a op b pos) (bC r ta tb):=by
 intro aa s σ H Q I h;exact wpAny_BinOp (km ha hb I h fun v u c x y H2 g d e q=>f aa c σ H2 x y v u Q g d e q)
def l0{op:UnaryOp}{r:V->Hp->VK->Prop}(e:vB X (unaryOp op) r)(ha:PE X a ta):PE X (.UnaryOp op a pos) (vD r ta):=by
 intro aa s σ H Q I h;exact UnaryOp_ (aV (ha aa s σ H _ I h) fun v b ⟨x,H1,f,c,d⟩=>e aa b σ H1 x v Q f c d)
def qv{f:Value->Value->Sem Value}{C:Int->Int->Prop}{g:Int->Int->Int}(rule:∀(i j:Int)(t u:Tok)(s:Shared)(Q:Ω)(E:Ω),C i j->Q (.int (g i j) s.toks) {s with toks:=s.toks+1}->wpAny (model X.prog X.w) X.A (f (.int i t) (.int j u)) Q E s):c7 X f (rI C fun i j=>.int (g i j)):=by
 intro aa s σ H x y v u Q I a b h;obtain⟨i,j,rfl,rfl,hc,q⟩:=h;obtain⟨t,rfl⟩:=a;obtain⟨t',rfl⟩:=b;exact rule i j t t' s _ _ hc ⟨.int (g i j),H,I.tok _,⟨_,rfl⟩,q⟩
def nT{f:Value->Value->Sem Value}{g:Int->Int->Int}(rule:∀(i j:Int)(t u:Tok)(s:Shared)(Q:Ω)(E:Ω),Q (.int (g i j) s.toks) {s with toks:=s.toks+1}->wpAny (model X.prog X.w) X.A (f (.int i t) (.int j u)) Q E s):c7 X f (eW fun i j=>.int (g i j)):=by
 intro aa s σ H x y v u Q I a b h;obtain⟨i,j,rfl,rfl,q⟩:=h;obtain⟨t,rfl⟩:=a;obtain⟨t',rfl⟩:=b;exact rule i j t t' s _ _ ⟨.int (g i j),H,I.tok _,⟨_,rfl⟩,q⟩
def i6{f:Value->Value->Sem Value}{g:Int->Int->Bool}(rule:∀(i j:Int)(t u:Tok)(s:Shared)(Q:Ω)(E:Ω),Q (.bool (g i j)) s->wpAny (model X.prog X.w) X.A (f (.int i t) (.int j u)) Q E s):c7 X f (eW fun i j=>.bl (g i j)):=by
 intro aa s σ H x y v u Q I a b h;obtain⟨i,j,rfl,rfl,q⟩:=h;obtain⟨t,rfl⟩:=a;obtain⟨t',rfl⟩:=b;exact rule i j t t' s _ _ ⟨.bl (g i j),H,I,rfl,q⟩
def vF(i j:Int):Prop:=0<j/\j<1073741824
def nU(i j:Int):Prop:=0<=j/\j<=1000000/\i.natAbs<2 ^ 64
def CMul(i j:Int):Prop:=(-(2 ^ 64)<i/\i<2 ^ 64)\/(-(2 ^ 64)<j/\j<2 ^ 64)
def CMul.ok{i j:Int}(h:CMul i j):IntMulOk i j:=by
 rcases h with ⟨h1,h2⟩|⟨h1,h2⟩
 ·exact .of_left (intBits_le_64 h1 h2)
 ·exact .of_right (intBits_le_64 h1 h2)
def dL:c7 X (binaryOp .Add) (eW fun i j=>.int (i+j)):=nT fun _ _ _ _ _ _ _ q=>add_int q
def gJ:c7 X (binaryOp .Sub) (eW fun i j=>.int (i-j)):=nT fun _ _ _ _ _ _ _ q=>sub_int q
def fW:c7 X (binaryOp .Mult) (rI CMul fun i j=>.int (i*j)):=qv fun _ _ _ _ _ _ _ hc q=>mul_int q hc.ok
def Eg:c7 X (binaryOp .FloorDiv) (rI vF fun i j=>.int (i / j)):=qv fun i j _ _ _ _ _ hc q=>by
 have h1:(0:Int)<j:=hc.1;have h2:j<1073741824:=hc.2;exact floordiv_int ω (by rw[Int.fdiv_eq_ediv_of_nonneg i ω];exact q) (.inl (PyProof.noPylong_small ω))
def eX:c7 X (binaryOp .Mod) (rI (fun _ j=>0<j) fun i j=>.int (i%j)):=qv fun i j _ _ _ _ _ hc q=>by
 have h1:(0:Int)<j:=hc;exact mod_int' ω (by rw[Int.fmod_eq_emod_of_nonneg i ω];exact q)
def nV:c7 X (binaryOp .Pow) (rI nU fun i j=>.int (i ^ j.toNat)):=qv fun _ _ _ _ _ _ _ hc q=>pow_int_small hc.1 hc.2.1 hc.2.2 q
def Jg{f:Value->Sem Value}{g:Int->Int}(rule:∀(i:Int)(t:Tok)(s:Shared)(Q:Ω)(E:Ω),Q (.int (g i) s.toks) {s with toks:=s.toks+1}->wpAny (model X.prog X.w) X.A (f (.int i t)) Q E s):vB X f (rU fun i=>.int (g i)):=by
 intro aa s σ H x v Q I a h;obtain⟨i,rfl,q⟩:=h;obtain⟨t,rfl⟩:=a;exact rule i t s _ _ ⟨.int (g i),H,I.tok _,⟨_,rfl⟩,q⟩
def l3:vB X (unaryOp .USub) (rU fun i=>.int (-i)):=Jg fun _ _ _ _ _ q=>neg_int q
end
def n3:V->V->Bool
 |.non,.non=>true|.non,.int _=>true|.int _,.non=>true|.non,.bl _=>true|.bl _,.non=>true|.non,.str _=>true|.str _,.non=>true
 |.int _,.int _=>true|.bl _,.bl _=>true|.str _,.str _=>true|.byt _,.byt _=>true
 |.int _,.str _=>true|.str _,.int _=>true|.bl _,.str _=>true|.str _,.bl _=>true
 |_,_=>false
def ko:R2:=fun x y H Q=>n3 x y=true/\Q (.bl (decide (x=y))) H
def vL:R2:=fun x y H Q=>n3 x y=true/\Q (.bl (!decide (x=y))) H
def Eh{i j:Int}:decide (V.int i=V.int j)=(i==j):=by
 rw[Qm];simp
def gP{i j:Bool}:decide (V.bl i=V.bl j)=(i==j):=by
 rw[Qm];simp
def Ei{i j:Str}:decide (V.str i=V.str j)=(i==j):=by
 rw[Qm];simp
def Ej{i j:Array UInt8}:decide (V.byt i=V.byt j)=(i.toList==j.toList):=by
 rw[Qm];cases i;cases j;simp
section
variable{X:Cx}{a b c:Expr}{ta tb tc:TE}{pos:Pos}
def aK{aa:Ψ}{σ:St}{H:Hp}{s:Shared}{Q:VK}{k a:Bool}(I:Inv X aa σ H s)(q:Q (.bl k) H)(e:k=a):EP X aa σ Q (.bool a) s:=by
 subst e;exact⟨.bl k,H,I,rfl,q⟩
def ew:c7 X (compareOp .Eq) ko:=by
 intro aa s σ H x y v u Q I c a h;obtain⟨b,q⟩:=h;cases x with
 |non=>
  cases c;cases y with
  |non=>cases a;exact PySem.EqNone.eq_none_none (aK I q (by simp))
  |bl j=>cases a;exact PySem.EqNone.eq_none_bool (aK I q (by simp))
  |int j=>obtain⟨t',rfl⟩:=a;exact PySem.EqNone.eq_none_int (aK I q (by simp))
  |str j=>obtain⟨t',rfl⟩:=a;exact PySem.EqNone.eq_none_str (aK I q (by simp))
  |_=>exact absurd (show false=true from b) Aq
 |bl i=>
  cases c;cases y with
  |non=>cases a;exact PySem.EqNone.eq_bool_none (aK I q (by simp))
  |bl j=>cases a;exact eq_bool (aK I q gP)
  |str j=>obtain⟨t',rfl⟩:=a;exact PySem.EqMixed.eq_bool_str (aK I q (by simp))
  |_=>exact absurd (show false=true from b) Aq
 |int i=>
  obtain⟨t,rfl⟩:=c;cases y with
  |non=>cases a;exact PySem.EqNone.eq_int_none (aK I q (by simp))
  |int j=>obtain⟨t',rfl⟩:=a;exact eq_int (aK I q Eh)
  |str j=>obtain⟨t',rfl⟩:=a;exact PySem.EqMixed.eq_int_str (aK I q (by simp))
  |_=>exact absurd (show false=true from b) Aq
 |str i=>
  obtain⟨t,rfl⟩:=c;cases y with
  |non=>cases a;exact PySem.EqNone.eq_str_none (aK I q (by simp))
  |bl j=>cases a;exact PySem.EqMixed.eq_str_bool (aK I q (by simp))
  |int j=>obtain⟨t',rfl⟩:=a;exact PySem.EqMixed.eq_str_int (aK I q (by simp))
  |str j=>obtain⟨t',rfl⟩:=a;exact eq_str (aK I q Ei)
  |_=>exact absurd (show false=true from b) Aq
 |byt i=>
  obtain⟨t,rfl⟩:=c;cases y with
  |byt j=>obtain⟨t',rfl⟩:=a;exact PySem.W.eq_bytes (aK I q Ej)
  |_=>exact absurd (show false=true from b) Aq
 |_=>cases y<;>exact absurd (show false=true from b) Aq
def jJ:c7 X (compareOp .NotEq) vL:=by
 intro aa s σ H x y v u Q I c a h;obtain⟨b,q⟩:=h;cases x with
 |non=>
  cases c;cases y with
  |non=>cases a;exact PySem.EqNone.ne_none_none (aK I q (by simp))
  |bl j=>cases a;exact PySem.EqNone.ne_none_bool (aK I q (by simp))
  |int j=>obtain⟨t',rfl⟩:=a;exact PySem.EqNone.ne_none_int (aK I q (by simp))
  |str j=>obtain⟨t',rfl⟩:=a;exact PySem.EqNone.ne_none_str (aK I q (by simp))
  |_=>exact absurd (show false=true from b) Aq
 |bl i=>
  cases c;cases y with
  |non=>cases a;exact PySem.EqNone.ne_bool_none (aK I q (by simp))
  |bl j=>cases a;exact ne_bool (aK I q (congrArg not gP))
  |str j=>obtain⟨t',rfl⟩:=a;exact PySem.EqMixed.ne_bool_str (aK I q (by simp))
  |_=>exact absurd (show false=true from b) Aq
 |int i=>
  obtain⟨t,rfl⟩:=c;cases y with
  |non=>cases a;exact PySem.EqNone.ne_int_none (aK I q (by simp))
  |int j=>obtain⟨t',rfl⟩:=a;exact ne_int (aK I q (congrArg not Eh))
  |str j=>obtain⟨t',rfl⟩:=a;exact PySem.EqMixed.ne_int_str (aK I q (by simp))
  |_=>exact absurd (show false=true from b) Aq
 |str i=>
  obtain⟨t,rfl⟩:=c;cases y with
  |non=>cases a;exact PySem.EqNone.ne_str_none (aK I q (by simp))
  |bl j=>cases a;exact PySem.EqMixed.ne_str_bool (aK I q (by simp))
  |int j=>obtain⟨t',rfl⟩:=a;exact PySem.EqMixed.ne_str_int (aK I q (by simp))
  |str j=>obtain⟨t',rfl⟩:=a;exact ne_str (aK I q (congrArg not Ei))
  |_=>exact absurd (show false=true from b) Aq
 |byt i=>
  obtain⟨t,rfl⟩:=c;cases y with
  |byt j=>obtain⟨t',rfl⟩:=a;exact PySem.W.ne_bytes (aK I q (congrArg not Ej))
  |_=>exact absurd (show false=true from b) Aq
 |_=>cases y<;>exact absurd (show false=true from b) Aq
def kr:c7 X (compareOp .Lt) (eW fun i j=>.bl (decide (i<j))):=i6 fun _ _ _ _ _ _ _ q=>lt_int q
def ku:c7 X (compareOp .LtE) (eW fun i j=>.bl (decide (i<=j))):=i6 fun _ _ _ _ _ _ _ q=>le_int q
def kw:c7 X (compareOp .Gt) (eW fun i j=>.bl (decide (j<i))):=i6 fun _ _ _ _ _ _ _ q=>gt_int q
def Jh:c7 X (compareOp .GtE) (eW fun i j=>.bl (decide (j<=i))):=i6 fun _ _ _ _ _ _ _ q=>ge_int q
def vR:c7 X (compareOp .Is) (fun x y H Q=>y=.non/\Q (.bl (decide (x=.non))) H):=by
 intro aa s σ H x y v u Q I a b h;obtain⟨rfl,q⟩:=h;cases b;refine is_none_gen (aK I q ?_);cases x<;>first
  |(cases a;rfl)
  |(obtain⟨t,rfl⟩:=a;rfl)
def ax(b:Expr){op:CmpOp}(h:op≠.In:=by decide)(h2:op≠.NotIn:=by decide):behindInMarks op b=false:=by
 have e1:(op==CmpOp.In)=false:=by cases op<;>first|rfl|exact absurd rfl h
 have e2:(op==CmpOp.NotIn)=false:=by cases op<;>first|rfl|exact absurd rfl h2
 cases b<;>simp[behindInMarks,e1,e2]
def n4{op:CmpOp}{r:R2}(f:c7 X (compareOp op) r)(ha:PE X a ta)(hb:PE X b tb)(hm:behindInMarks op b=false):PE X (.Compare a [op] [b] pos) (bC r ta tb):=by
 intro aa s σ H Q I h;exact wpAny_Compare1 (km ha hb I h fun v u c x y H2 g d e q=>f aa c σ H2 x y v u Q g d e q) hm
def dN(t:TE):TT:=fun σ H Q=>t σ H fun x H'=>∃k,x=.bl k/\Q k H'
def zl{op:CmpOp}{r:R2}(q:c7 X (compareOp op) r)(ha:PE X a ta)(hb:PE X b tb)(hm:behindInMarks op b=false):PT X (.Compare a [op] [b] pos) (dN (bC r ta tb)):=by
 intro aa s σ H Q I h;refine wpAny_isTrue_Compare1 (aV (ha aa s σ H _ I h) fun v d ⟨x,H1,w,f,g⟩=>aV (hb aa d σ H1 _ w g) fun u i ⟨y,H2,A,j,l⟩=>
  aV (q aa i σ H2 x y v u _ A f j l) fun c E ⟨z,C,D,o,k,e,p⟩=>?_) hm
 subst e;cases o;exact wpAny_truthy_bool ⟨C,D,p⟩
def Ji(r c:R2)(ta tb tc:TE):TE:=fun σ H Q=>ta σ H fun x H1=>tb σ H1 fun y H2=>r x y H2 fun z a=>∃k,z=.bl k/\
 (if k=true then tc σ a fun b d=>c y b d Q else Q (.bl false) a)
def qx{op f:CmpOp}{r l:R2}(T:c7 X (compareOp op) r)(g:c7 X (compareOp f) l)(ha:PE X a ta)(hb:PE X b tb)(hc:PE X c tc)(hm:lastMarks [op,f] [b,c]=false:=by with_unfolding_all rfl):PT X (.Compare a [op,f] [b,c] pos) (dN (Ji r l ta tb tc)):=by
 intro aa s σ H Q I h;refine isTrue_chain (aV (ha aa s σ H _ I h) fun v q ⟨x,H1,U,w,A⟩=>test_link (aV (hb aa q σ H1 _ U A) fun u C ⟨y,H2,W,i,D⟩=>
  aV (T aa C σ H2 x y v u _ W w i D) fun d E ⟨z,o,p,F,k,e,j⟩=>?_)) hm
 subst e;cases F;refine wpAny_truthy_bool ?_;cases k with
 |false=>
  obtain⟨k',e',S⟩:=j;cases e';exact ite_ff ⟨o,p,S⟩
 |true=>
  refine ite_tt (test_last (aV (hc aa E σ o _ p j) fun G J ⟨L,Y,I4,M,N⟩=>aV (g aa J σ Y y L u G _ I4 i M N) fun d' s5 ⟨z2,H5,I5,O,k2,e2,P⟩=>?_));subst e2;cases O;exact wpAny_truthy_bool ⟨H5,I5,P⟩
def dt:(sizeLine:Nat)<2 ^ 63:=by rw[sizeLine_eq];decide
def vals1{x:V}{us:List Value}(r:Vals [x] us):∃u,us=[u]/\RelV x u:=by
 cases r with
 |cons r1 r2=>cases r2;exact⟨_,rfl,r1⟩
def vals2{x y:V}{us:List Value}(r:Vals [x,y] us):∃u a,us=[u,a]/\RelV x u/\RelV y a:=by
 cases r with
 |cons r1 r2=>
  cases r2 with
  |cons r3 r4=>cases r4;exact⟨_,_,rfl,r1,r3⟩
def Jj(hc:X.calm=true):dy X (.builtin "max") (fun xs H Q=>∃i j,xs=[.int i,.int j]/\Q (.int (if j>i then j else i)) H):=by
 intro aa s σ H xs us Q I r h;obtain⟨i,j,rfl,q⟩:=h;obtain⟨u,b,rfl,⟨t,rfl⟩,⟨t',rfl⟩⟩:=vals2 r;refine max_two_ints (I.ok.hd hc) fun h' tk k=>⟨_,H,I.kept k,?_,q⟩
 by_cases a:j>i
 ·rw[Sa a,Sa a];exact⟨_,rfl⟩
 ·rw[Sb a,Sb a];exact⟨_,rfl⟩
def v1(K:Ac)(x:V)(H:Hp)(n:Nat):Prop:=
 match x with
 |.str y=>y.length<=sizeLine/\n=y.length
 |.byt y=>y.size<=sizeLine/\n=y.size
 |.ref p=>(∃xs,SqL K H p xs/\n=xs.length)\/∃xs,SqT K H p xs/\n=xs.length
 |_=>False
def Ek:dy X (.builtin "len") (fun xs H Q=>∃x n,xs=[x]/\v1 X.K x H n/\Q (.int n) H):=by
 intro aa s σ H xs us Q I r h;obtain⟨x,n,rfl,e,q⟩:=h;obtain⟨u,rfl,b⟩:=vals1 r;have f:=dt;have g:sizeLine=16777216:=sizeLine_eq;cases x with
 |str y=>
  obtain⟨t,rfl⟩:=b;obtain⟨hy,e'⟩:y.length<=sizeLine/\n=y.length:=e;subst e';exact len_str ω ⟨.int _,H,I.tok _,⟨_,rfl⟩,q⟩
 |byt y=>
  obtain⟨t,rfl⟩:=b;obtain⟨hy,e'⟩:y.size<=sizeLine/\n=y.size:=e;subst e';exact PySem.W.len_bytes ω ⟨.int _,H,I.tok _,⟨_,rfl⟩,q⟩
 |ref p=>
  cases b;have e':(∃xs,SqL X.K H p xs/\n=xs.length)\/∃xs,SqT X.K H p xs/\n=xs.length:=e;rcases e' with ⟨xs,hx,e'⟩|⟨xs,hx,e'⟩
  ·subst e'
   obtain⟨ae,c,d,hz⟩:=I.list hx;have a:=c.length;exact Calls.call_len_list d.isList (by simp only[Al];omega) ⟨.int xs.length,H,I.tok _,⟨_,by simp only[Al];rw[a]⟩,q⟩
  ·subst e'
   obtain⟨ae,c,d,hz⟩:=I.tuple hx;have a:=c.length;exact len_tuple d (by simp only[Al];omega) ⟨.int xs.length,H,I.tok _,⟨_,by simp only[Al];rw[a]⟩,q⟩
 |_=>exact(show False from e).elim
end
structure ObjM(h:Heap)(x dx C:Addr)(mA:Str->Option Value):Prop where
 obj:h.get? x=some (R6 C dx)
 ns:h.Ns1 dx mA
 ne:dx≠x
def Jk{h:Heap}{dx:Addr}{mA:Str->Option Value}(n:h.Ns1 dx mA):∃b,h.get? dx=some b/\∀name,R7 name b=some (mA name):=by
 obtain⟨o,es,ep,c,hd,hk,_,hm⟩:=n;refine⟨o,c,fun name=>?_⟩;have e:=hm name;unfold nsFind findBy at e;rw[<-Array.find?_toList] at e;unfold R7;rw[hd];dsimp only;split
 ·rename_i y q
  rw[q] at e;exact congrArg some e
 ·rename_i q
  rw[q] at e;have a:es.toList.any (·.refKey)=false:=by
   rw[Q5];intro y hy;obtain⟨z,t,d⟩:=hk y (Array.mem_toList_iff.mp hy);simp[DictEntry.refKey,d]
  have f:¬es.toList.any (·.refKey)=true:=by rw[a];exact Aq
  rw[Sb f];exact congrArg some e
def ObjM.look{h:Heap}{x dx C:Addr}{mA:Str->Option Value}(I:ObjM h x dx C mA):∃a,PySem.W.InstAt h x (R6 C dx) C (some a)/\∀name,R7 name a=some (mA name):=
 let ⟨a,ho,hl⟩:=Jk I.ns
 ⟨a,⟨I.obj,rfl,rfl,ho⟩,hl⟩
section
variable{prog:Program}{w:World}{A:Around}{E:Ω}{s:Shared}{K:Ac}{x dx C f:Addr}{mA:Str->Option Value}{name:Str}{v:Value}
def v8{b:Bool}{Q:Ω}(X:K.In s.heap)(I:ObjM s.heap x dx C mA)(c:RU K C name=true)(hh:PySem.W.hasDictIn K C=true)(ha:Bd K (.ref C) name=some none)(d:mA name=some v)(e:PySem.W.handedIn v=true)(h:Q v {s with toks:=s.toks+1}):wpAny (model prog w) A (getAttr (.ref x) name b) Q E s:=by
 obtain⟨f,J,a⟩:=I.look;exact PySem.W.get_value X J (PySem.W.plainGet_of c).1 (PySem.W.findObj_own hh ha rfl (by rw[a,d])) e h
end
def RelO.some_of{v:V}{o:Option Value}(r:RelO (some v) o):∃u,o=some u/\RelV v u:=by
 cases o with
 |none=>exact(show False from r).elim
 |some u=>exact⟨u,rfl,r⟩
section
variable{P:Program}{w:World}{H H':Hp}{h h':Heap}{a C dx:Addr}{fs uF:List (Str×V)}
def Jl(b:HOk P w H h)(e:H a=some (.ins C dx fs)):∃mA,ObjM h a dx C mA/\(∀f,RelO (fs.lookup f) (mA f))/\PySem.Within mA (fs.map (·.1))/\fs.length<=1000/\H dx=some (.own a):=by
 obtain⟨d,z,ne,ob,mA,n,r,q⟩:=(show zw P w H h a (.ins C dx fs) from b a _ e);exact⟨mA,⟨ob,n,ne⟩,r,q,z,d⟩
end
structure Cls(K:Ac)(C:Addr):Prop where
 pg:RU K C Str.empty=true
 hd:PySem.W.hasDictIn K C=true
 po:PySem.W.plainOver K C=true
 sa:Bd K (.ref C) "__setattr__"=some (some (.builtin "object.__setattr__"))
def Cls.get{K:Ac}{C:Addr}(c:Cls K C)(f:Str):RU K C f=true:=c.pg
structure Con(K:Ac)(C:Addr)(f:Str)(v:V)(u:Value):Prop where
 at_:Bd K (.ref C) f=some (some u)
 rel:RelV v u
 get:Qu K u "__get__"=some none
 cp:PySem.W.copiedNames.contains f=false
section
variable{X:Cx}{aa:Ψ}{σ:St}{H:Hp}{s:Shared}{A:Around}{E:Ω}{Q:Ω}{c:Value}{b:Bool}
inductive dj(K:Ac)(H:Hp):V->Value->Prop where
 |non:dj K H .non (.type "NoneType")
 |bl (x:Bool):dj K H (.bl x) (.type "bool")
 |int (i:Int):dj K H (.int i) (.type "int")
 |str (x:Str):dj K H (.str x) (.type "str")
 |flt (x:UInt64):dj K H (.flt x) (.type "float")
 |lst {a:Addr} {xs:List V} (e:H a=some (.lst xs)):dj K H (.ref a) (.type "list")
 |frz {a:Addr} {o:Obj} {xs:List V} (e:H a=some (.frz o (.lst xs))):dj K H (.ref a) (.type "list")
 |tup {a:Addr} {xs:List V} (e:H a=some (.tup xs)):dj K H (.ref a) (.type "tuple")
 |dK {a:Addr} {kvs:List (Key×V)} (e:H a=some (.dK kvs)):dj K H (.ref a) (.type "dict")
 |dT {a:Addr} {kvs:List (List Key×V)} (e:H a=some (.dT kvs)):dj K H (.ref a) (.type "dict")
 |ins {a C dx:Addr} {fs:List (Str×V)} (e:H a=some (.ins C dx fs)) (cl:Cls K C) (ha:Bd K (.ref C) "__class__"=some (some (.builtin "object.__class__")))
   (hn:Qu K (.builtin "object.__class__") "__get__"=some (some (.builtin "getset_descriptor.__get__"))) (pS:Q1 K (.builtin "object.__class__")=some true)
   (hm:Qq K C (.type "object")=some true):dj K H (.ref a) (.ref C)
def El{x:V}{u t:Value}(I:Inv X aa σ H s)(d:RelV x u)(ty:dj X.K H x t)(e:A4 X.K t c=some b)(h:∀tk,Q (.bool b) {s with toks:=tk}):wpAny (model X.prog X.w) A (call (.builtin "isinstance") [u,c]) Q E s:=by
 cases ty with
 |non=>cases(show u=Value.none from d);exact Py PySem.W.kitx_none I.kIn True.intro e (fun z=>nomatch z) h
 |bl y=>cases(show u=Value.bool y from d);exact Py PySem.W.kitx_bool I.kIn True.intro e (fun z=>nomatch z) h
 |int i=>obtain⟨t,q⟩:=(show ∃t,u=Value.int i t from d);cases q;exact Py PySem.W.kitx_int I.kIn True.intro e (fun z=>nomatch z) h
 |str y=>obtain⟨t,q⟩:=(show ∃t,u=Value.str y t from d);cases q;exact Py PySem.W.kitx_str I.kIn True.intro e (fun z=>nomatch z) h
 |flt y=>obtain⟨t,q⟩:=(show ∃t,u=Value.float y t from d);cases q;exact Py PySem.W.kitx_float I.kIn True.intro e (fun z=>nomatch z) h
 |@lst a xs ea=>
  cases(show u=Value.ref a from d);obtain⟨_,_,n,_,h1⟩:=(show zw X.prog X.w H s.heap a (.lst xs) from I.hok a _ ea);exact Py PySem.W.kitx_list I.kIn ⟨_,h1,rfl⟩ e (fun z=>nomatch z) h
 |@frz a ob xs ea=>
  cases(show u=Value.ref a from d);obtain⟨_,_,_,n,_,h1⟩:=(show zw X.prog X.w H s.heap a (.frz ob (.lst xs)) from I.hok a _ ea);exact Py PySem.W.kitx_list I.kIn ⟨_,h1,rfl⟩ e (fun z=>nomatch z) h
 |@tup a xs ea=>
  cases(show u=Value.ref a from d);obtain⟨_,_,_,p⟩:=(show zw X.prog X.w H s.heap a (.tup xs) from I.hok a _ ea);obtain⟨o,h1,h2,_⟩:=p;exact Py PySem.W.kitx_tuple I.kIn ⟨o,h1,h2⟩ e (fun z=>nomatch z) h
 |@dK a kvs ea=>
  cases(show u=Value.ref a from d);obtain⟨_,_,vs,_,p⟩:=(show zw X.prog X.w H s.heap a (.dK kvs) from I.hok a _ ea);obtain⟨o,es,ep,h1,h2,_⟩:=p;exact Py PySem.W.kitx_dict I.kIn ⟨o,h1,h2.1⟩ e (fun z=>nomatch z) h
 |@dT a kvs ea=>
  cases(show u=Value.ref a from d);obtain⟨_,_,xs,_,o,es,ep,h1,h2,_⟩:=(show zw X.prog X.w H s.heap a (.dT kvs) from I.hok a _ ea);exact Py PySem.W.kitx_dict I.kIn ⟨o,h1,h2.1⟩ e (fun z=>nomatch z) h
 |@ins a C dx fs ea cl ha hn pS hm=>
  cases(show u=Value.ref a from d);obtain⟨mA,O,_⟩:=Jl I.hok ea;obtain⟨f,J,_⟩:=O.look;exact Py (PySem.W.kitx_own (cl.get _) cl.hd ha hn pS hm) I.kIn J e (fun z=>nomatch z) h
end
structure Room(k:Nat)(A:Around):Prop where
 hd:A.handled=none
 dp:A.depth+3*k+5<recursionLimit
 un:A.units+16*k+200<cLine
def Room.mono{j k:Nat}{A:Around}(r:Room k A)(h:j<=k):Room j A:=⟨r.hd,by have:=r.dp;omega,by have:=r.un;omega⟩
def Room.deeper{k:Nat}{A:Around}(r:Room (k+1) A)(env:Env):Room k (A.deeper env):=
 ⟨r.hd,by have:=r.dp;show A.depth+1+3*k+5<_;omega,by have:=r.un;show A.units+3+16*k+200<_;omega⟩
def Room.in1{k:Nat}{A:Around}(r:Room (k+1) A):Room k A.in1:=
 ⟨r.hd,by have:=r.dp;show A.depth+3*k+5<_;omega,by have:=r.un;show A.units+1+16*k+200<_;omega⟩
def Room.depth{k:Nat}{A:Around}(r:Room k A):A.depth<recursionLimit:=by have:=r.dp;omega
def Room.units{k:Nat}{A:Around}(r:Room k A):A.units+64<cLine:=by have:=r.un;omega
def bD:TA:=fun _ H Q=>Q [] H
def dh(ta:TE)(a:TA):TA:=fun σ H Q=>ta σ H fun x H1=>a σ H1 fun xs H2=>Q (x::xs) H2
section
variable{X:Cx}{e:Expr}{es:List Expr}{te:TE}{t:TA}{pos:Pos}
def ak:PA X [] bD:=fun _ _ _ _ H Q I h=>Calls.spliced_nil ⟨[],H,I,.nil,h⟩
def ac(ha:PE X e te)(hr:PA X es t)(g:starEach (e::es) X.env=(false,eval e X.env)::starEach es X.env:=by rfl):PA X (e::es) (dh te t):=by
 intro pos aa s σ H Q I h;rw[g];show wpAny _ _ (spliced ((false,eval e X.env)::backTo pos (starEach es X.env))) _ _ s;refine Calls.spliced_cons (aV (ha aa s σ H _ I h) fun u a ⟨x,H1,i,b,c⟩=>?_);exact aV (hr pos aa a σ H1 _ i c) fun us l ⟨xs,H2,j,d,f⟩=>⟨x::xs,H2,j,.cons b d,f⟩
def dk(t:TA):TE:=fun σ H Q=>t σ H fun xs H1=>xs.length<=sizeLine/\∀p,H1 p=none->Q (.ref p) (upd H1 p (.tup xs))
def v9(t:TA):TE:=fun σ H Q=>t σ H fun xs H1=>xs.length<=sizeLine/\∀p,H1 p=none->Q (.ref p) (upd H1 p (.lst xs))
def eZ{x1}(h:PA X es t):PE X (.Tuple es x1 pos) (dk t):=by
 intro aa s σ H Q I hq;refine wpAny_Tuple_spliced (aV (h pos aa s σ H _ I hq) fun us a ⟨xs,H1,I1,r,z,q⟩=>⟨by rw[<-r.length];exact z,?_⟩);have hf:H1 a⁻¹=none:=I1.hok.fresh (Af _);refine⟨.ref a⁻¹,upd H1 a⁻¹ (.tup xs),I1.laid (t':=a.toks) (fun b u e=>Ad _ e) (Af _) ?_,rfl,q _ hf⟩;exact⟨z,us,r,⟨_,An _ rfl,rfl,_,rfl⟩⟩
def zO(h:PA X es t):PE X (.List es pos) (v9 t):=by
 intro aa s σ H Q I hq;refine wpAny_List_spliced (aV (h pos aa s σ H _ I hq) fun us a ⟨xs,H1,I1,r,z,q⟩=>⟨by rw[<-r.length];exact z,?_⟩);have hf:H1 a⁻¹=none:=I1.hok.fresh (Af _);refine⟨.ref a⁻¹,upd H1 a⁻¹ (.lst xs),I1.laid (t':=a.toks) (fun b u e=>Ad _ e) (Af _) ?_,rfl,q _ hf⟩;exact⟨z,us,0,r,An _ rfl⟩
end
abbrev Sp:=List V->Hp->VK->XK->Prop
abbrev eD:=List Env->Hp->Shared->XK->Ω
structure Env0(P:Program)(w:World)(K:Ac)(mg:Str->Option Value)(base:Heap)(A:Around)(outer:List Env)(s:Shared)(H:Hp):Prop where
 frames:A.frames=some outer
 mod:Mod K mg base
 bs:∀b o,base.get? b=some o->s.heap.get? b=some o/\H b=none
 bsz:base.objs.size<=s⁻¹
 funs:s.heap.FunFrames base outer
 frf:∀b∈frs outer,H b=none
 hok:HOk P w H s.heap
 bare:AllBare s.gens
def CE(outer:List Env)(P:Program)(w:World)(H:Hp)(s:Shared)(Q:VK)(u:Value)(s':Shared):Prop:=
 ∃v H',s'.os=s.os/\AllBare s'.gens/\Un (frs outer) [] H H' s.heap s'.heap/\HOk P w H' s'.heap/\RelV v u/\Q v H'
def CR(CX:eD)(outer:List Env)(P:Program)(w:World)(H:Hp)(s:Shared)(Q:VK)(E:XK)(r:Result)(s':Shared):Prop:=
 match r with
 |.ok (.ret u)=>CE outer P w H s Q u s'
 |.ok _=>False
 |.error e=>CX outer H s E e s'
structure FnOk(P:Program)(w:World)(K:Ac)(mg:Str->Option Value)(base:Heap)(CX:eD)(k:Nat)(f:Addr)(fd:FuncData)(ps:List Str)(sp:Sp):Prop where
 len:∀vs H Q E,sp vs H Q E->vs.length=ps.length
 run:∀(A:Around)(outer:List Env)(s:Shared)(H:Hp)(args:Args)(us:List Value)(vs:List V)(Q:VK)(E:XK),Room k A->Env0 P w K mg base A outer s H->BindsTo s fd args (ps.zip us)->Vals vs us->sp vs H Q E->
  codeAny (model P w) A (.call (.ref f) args) (CR CX outer P w H s Q E) s
def Env0.in1{P:Program}{w:World}{K:Ac}{mg:Str->Option Value}{base:Heap}{A:Around}{outer:List Env}{s:Shared}{H:Hp}(e:Env0 P w K mg base A outer s H):Env0 P w K mg base A.in1 outer s H:=⟨e.frames,e.mod,e.bs,e.bsz,e.funs,e.frf,e.hok,e.bare⟩
section
variable{X:Cx}{aa:Ψ}{σ:St}{H:Hp}{s s':Shared}
def Inv.env0(I:Inv X aa σ H s):Env0 X.prog X.w X.K X.mg X.base X.A X.stack s H:=
 ⟨I.ok.frames,I.ok.mod,I.bs,Ay I.ok.bsz I.sz,I.stack,I.stkFree,I.hok,I.bare⟩
def Inv.after{Q:VK}{u:Value}(I:Inv X aa σ H s)(h:CE X.stack X.prog X.w H s Q u s'):EP X aa σ Q u s':=by
 obtain⟨v,H',os,a,un,c,r,q⟩:=h;obtain⟨hh,g,d,t,e⟩:=s';obtain rfl:e=s.os:=os;exact⟨v,H',I.call (h':=hh) (g':=g) (d':=d) (t':=t) (ch:=[]) un c a (fun b z=>absurd z (by simp)),r,q⟩
end
def n6(sp:Sp)(dA:List V)(E:XK)(t:TA):TE:=fun σ H Q=>t σ H fun vs H1=>sp (vs++dA) H1 Q E
def Binds(K:Ac)(fd:FuncData)(ps:List Str)(ds:List Value):Prop:=
 ∀(s:Shared)(us:List Value),K.In s.heap->(us++ds).length=ps.length->BindsTo s fd ⟨us,[]⟩ (ps.zip (us++ds))
def Binds.all{K:Ac}{fd:FuncData}{ps:List Str}(h:∀us:List Value,us.length=ps.length->bindArgs fd ⟨us,[]⟩=pure (ps.zip us)):Binds K fd ps []:=fun s us _ a=>by
 rw[Po] at a ⊢;exact .of_eq (h us a)
def de(CX:eD)(X:Cx)(E:XK):Prop:=∀(aa:Ψ)(σ:St)(H:Hp)(s:Shared)(e:Value)(s':Shared),Inv X aa σ H s->CX X.stack H s E e s'->X.xe e s'
section
variable{X:Cx}{CX:eD}{k:Nat}{f C:Addr}{fd:FuncData}{ps:List Str}{sp:Sp}{dA:List V}{ds:List Value}{E:XK}{x m:Str}{p pos a9:Pos}{e o:Expr}{es:List Expr}{ta:TE}{t:TA}
def Jm{aa:Ψ}{σ:St}{H:Hp}{s:Shared}{Q:VK}{us:List Value}{vs:List V}(F:FnOk X.prog X.w X.K X.mg X.base CX k f fd ps sp)(hr:Room k X.A)(hb:Binds X.K fd ps ds)(hd:Vals dA ds)(hx:de CX X E)(I:Inv X aa σ H s)(r:Vals vs us)(h:sp (vs++dA) H Q E):wpAny (model X.prog X.w) X.A (call (.ref f) us) (EP X aa σ Q) X.xe s:=by
 have a:Vals (vs++dA) (us++ds):=r.append hd;have b:(us++ds).length=ps.length:=by rw[<-a.length];exact F.len _ _ _ _ h
 refine wpAny_call (codeAny_mono (F.run X.A X.stack s H ⟨us,[]⟩ (us++ds) (vs++dA) Q E hr I.env0 (hb s us I.kIn b) a h) fun r s' hq=>?_);cases r with
 |error e=>exact hx aa σ H s e s' I hq
 |ok fl=>
  cases fl with
  |ret u=>exact I.after hq
  |next=>exact False.elim hq
  |brk=>exact False.elim hq
  |cont=>exact False.elim hq
def zR(F:FnOk X.prog X.w X.K X.mg X.base CX k f fd ps sp)(hr:Room k X.A)(b:Gl X x)(hm:X.mg x=some (.ref f))(hk:QA X.K (.ref f)=true)(hb:Binds X.K fd ps ds)(hd:Vals dA ds)(hx:de CX X E)(ha:PA X (e::es) t)(c:(x==("__debug__":Str))=false:=by decide)(he:starEach (e::es) X.env=(false,eval e X.env)::starEach es X.env:=by rfl)(a:(backTo pos (starEach es X.env)).any (·.1)=false:=by rfl):PE X (.Call (.Name x p) (e::es) [] pos) (n6 sp dA E t):=by
 intro aa s σ H Q I h;refine wpAny_Call_Name_kw (qo I b hm ?_ c);refine PySem.W.callWith_K (h₀:=X.base) I.ok.mod.kin hk (aV (ha pos aa s σ H _ I h) fun us d ⟨vs,H1,I1,r,q⟩=>⟨I1.kIn,?_⟩) he a;exact Jm F hr hb hd hx I1 r q
structure Mk(K:Ac)(C f:Addr):Prop where
 makes:PySem.W.makesIn K C=true
 init:Bd K (.ref C) "__init__"=some (some (.ref f))
 fn:PySem.W.isFn K (.ref f)=true
 kp:QA K (.ref C)=true
end
structure zm(N P:List Str)(sc:Scope):Prop where
 kind:sc.kind=.function
 co:sc.isCoroutine=false
 gen:sc.isGenerator=false
 nd:N.Nodup
 pre:N.take P.length=P
 par:∀x∈P,sc.names.lookup x=some .local\/sc.names.lookup x=some .cell
 nofree:∀y∈sc.names,y.2≠.free
def Em{kindOf:Str->Option NameKind}{x:Str}:∀{binds:List (Str×Value)}{m:Str->Option Value},(∀v,(x,v)∉binds)->bindL kindOf binds m x=m x
 |[],_,_=>rfl
 |(n,v)::r,m,h=>by
  unfold bindL;rw[Em fun w hw=>h w (Ax _ hw)];split
  ·have:x≠n:=by rintro rfl;exact h v Az
   simp[this]
  ·rfl
def En{kindOf:Str->Option NameKind}{x:Str}:∀{binds:List (Str×Value)}{m:Str->Option Value},(∀v,(x,v)∉binds)->bindC kindOf binds m x=m x
 |[],_,_=>rfl
 |(n,v)::r,m,h=>by
  unfold bindC;rw[En fun w hw=>h w (Ax _ hw)];split
  ·rfl
  ·have:x≠n:=by rintro rfl;exact h v Az
   simp[this]
def Eo{kindOf:Str->Option NameKind}{x:Str}{v:Value}:∀{P:List Str}{vs:List Value}{i:Nat}{m:Str->Option Value},P.Nodup->P[i]?=some x->vs[i]?=some v->kindOf x=some .local->
  bindL kindOf (P.zip vs) m x=some v
 |[],_,_,_,_,h,_,_=>by simp at h
 |_::_,[],_,_,_,_,h,_=>by simp at h
 |p::P,w::vs,0,m,nd,h1,h2,hk=>by
  simp at h1 h2;subst h1;subst h2;show bindL kindOf ((p,w)::P.zip vs) m p=_;unfold bindL;rw[Em fun v a=>(Pg.mp nd).1 (Q2 a).1,Sa hk];simp
 |p::P,w::vs,i+1,m,nd,h1,h2,hk=>by
  show bindL kindOf ((p,w)::P.zip vs) m x=_;unfold bindL;exact Eo (i:=i) (Pg.mp nd).2 (by simpa using h1) (by simpa using h2) hk
def Ep{kindOf:Str->Option NameKind}{x:Str}{v:Value}:∀{P:List Str}{vs:List Value}{i:Nat}{m:Str->Option Value},P.Nodup->P[i]?=some x->vs[i]?=some v->kindOf x≠some .local->
  bindC kindOf (P.zip vs) m x=some v
 |[],_,_,_,_,h,_,_=>by simp at h
 |_::_,[],_,_,_,_,h,_=>by simp at h
 |p::P,w::vs,0,m,nd,h1,h2,hk=>by
  simp at h1 h2;subst h1;subst h2;show bindC kindOf ((p,w)::P.zip vs) m p=_;unfold bindC;rw[En fun v a=>(Pg.mp nd).1 (Q2 a).1,Sb hk];simp
 |p::P,w::vs,i+1,m,nd,h1,h2,hk=>by
  show bindC kindOf ((p,w)::P.zip vs) m x=_;unfold bindC;exact Ep (i:=i) (Pg.mp nd).2 (by simpa using h1) (by simpa using h2) hk
def start(N:List Str)(vs:List V):St:=vs.map some++Rz (N.length-vs.length) none
def cv(CX:eD)(P:Program)(w:World)(K:Ac)(mg:Str->Option Value)(base:Heap)(N:List Str)(a:Str)(scope:Scope)(f:Addr)(b:Value)(A:Around)(outer:List Env)(s:Shared)(H:Hp)(E:XK):Cx where
 prog:=P
 w:=w
 K:=K
 mg:=mg
 base:=base
 A:=A.deeper (envOfC a scope s⁻¹ f b)
 N:=N
 s₀:=s
 H₀:=H
 env:=envOfC a scope s⁻¹ f b
 outer:=outer
 stack:=envOfC a scope s⁻¹ f b::outer
 ex:=[]
 calm:=true
 fn:=fun _=>true
 pn:=[]
 xe:=fun e s'=>wpAny (model P w) (A.deeper (envOfC a scope s⁻¹ f b)) (leaving (envOfC a scope s⁻¹ f b) e) (fun _ c=>CX outer H s E e c) (fun e' c=>CX outer H s E e' c) s'
def Er{sc:Scope}{n:Nat}{x:Str}(h:sc.names.lookup x=some .cell):∃c,(Bh n sc.names []).lookup x=some c:=by
 have q:=P7 sc.names n [] (.inl h);exact Pn.mp q
def Es{CX:eD}{P:Program}{w:World}{K:Ac}{mg:Str->Option Value}{base:Heap}{N ps:List Str}{l:Str}{scope:Scope}{f:Addr}{o:Value}{A:Around}{outer:List Env}{s C:Shared}{H:Hp}{E:XK}{us:List Value}{vs:List V}(S:zm N ps scope)(hd:A.handled=none)(d:Env0 P w K mg base A outer s H)(I:vs.length=ps.length)(r:Vals vs us)(x:InCallC s s⁻¹ (bindL (envOfC l scope s⁻¹ f o).kindOf (ps.zip us) fun _=>none) (Bh (s⁻¹+1) scope.names []) (bindC (envOfC l scope s⁻¹ f o).kindOf (ps.zip us) fun _=>none) C):Inv (cv CX P w K mg base N l scope f o A outer s H E) [] (start N vs) H C:=by
 have F:ps.length<=N.length:=by have:=congrArg List.length S.pre;rw[Aw] at this;omega
 obtain⟨h1,tk,rfl,hk⟩:=x.done;have g:∀b:Addr,b∉(cv CX P w K mg base N l scope f o A outer s H E).ex:=fun b z=>absurd (show b∈([]:List Addr) from z) (by simp);refine⟨⟨d.mod,S.kind,rfl,rfl,Af _,fun y z c h1 h2=>?_,fun y hy=>?_,fun y c _ h=>?_,fun _=>hd,Around.frames_deeper d.frames,.inr ⟨rfl,rfl⟩,fun b z=>absurd z (g b),d.bs,d.bsz,fun b _ _=>g b,fun b z=>absurd z (g b),d.funs,d.frf⟩,
  rfl,d.bare,Un.kept hk,⟨_,x.toInCall.ns,fun i y v h1 h2 G=>?_⟩,fun y c h=>⟨_,x.cell y c h⟩,d.hok.fresh (Af _),fun y c h=>?_,fun p hp=>absurd (show p∈([]:Ψ) from hp) (by simp),d.hok.kept hk,?_⟩
 ·exact name_of_addr x.apart (A6 h1) (A6 h2)
 ·have hy:scope.names.lookup y=some .cell\/scope.names.lookup y=some .free:=hy
  rcases hy with hy|hy
  ·exact Er hy
  ·exact absurd rfl (S.nofree _ (A6 hy))
 ·exact Qg (x.above y c (A6 h))
 ·have hi:i<vs.length:=by
   unfold start at h2
   by_cases hi:i<vs.length
   ·exact hi
   ·rw[P8 (by simpa using hi)] at h2
    rw[List.getElem?_replicate] at h2;split at h2<;>cases h2
  have ha:vs[i]?=some v:=by
   unfold start at h2;rw[Qd (by simpa using hi),Ai] at h2;cases e:vs[i]? with
   |none=>rw[e] at h2;cases h2
   |some a=>rw[e] at h2;cases h2;rfl
  obtain⟨u,hu,D⟩:=r.get ha;have hp:ps[i]?=some y:=by
   rw[<-S.pre,PU ω];exact h1
  have j:ps.Nodup:=by rw[<-S.pre];exact S.nd.sublist (List.take_sublist _ _)
  refine⟨u,D,?_⟩;rcases S.par y (Ao hp) with k|k
  ·exact .inl ⟨k,Eo j hp hu k⟩
  ·obtain⟨c,e⟩:=Er (n:=s⁻¹+1) k
   refine .inr ⟨.inl k,c,e,?_⟩;have q:=x.cell y c e;rw[Ep j hp hu (by show scope.names.lookup y≠_;rw[k];decide)] at q;exact q
 ·exact d.hok.fresh (Qg (x.above y c (A6 h)))
 ·unfold start
  show _=N.length;rw[Ap,Ab,List.length_replicate];omega
def wf{CX:eD}{P:Program}{w:World}{K:Ac}{mg:Str->Option Value}{base:Heap}{k:Nat}{f:Addr}{name a:Str}{i:Arguments}{body:List Stmt}{scope:Scope}{j kV l p cdv ct Y:Value}{C od:Option Addr}{L:Array (Option Value)}{N ps:List Str}{sp:Sp}(lk:K.lookup f=some ⟨Y,od,.func (Qp name a i body scope j kV l p C cdv ct),L⟩)(M:Q6 K cdv a=true)(S:zm N ps scope)(len:∀vs H Q E,sp vs H Q E->vs.length=ps.length)(aG:∀(A:Around)(outer:List Env)(s:Shared)(H:Hp)(vs:List V)(Q:VK)(E:XK),Room k (A.deeper (envOfC a scope s⁻¹ f cdv))->sp vs H Q E->
   ∃t,PSs (cv CX P w K mg base N a scope f cdv A outer s H E) body t/\t {nx:=fun _ H'=>Q .non H',rt:=Q} (start N vs) H):
  FnOk P w K mg base CX (k+1) f (Qp name a i body scope j kV l p C cdv ct) ps sp:=by
 refine⟨len,fun A outer s H args us vs Q E hr d hb r D=>?_⟩;have T:=len _ _ _ _ D;have G:K.In s.heap:=d.mod.kin.keeps fun b o e=>(d.bs b o e).1;have U:s.heap.NoLimit:=d.mod.nolimit.keeps fun b o e=>(d.bs b o e).1;have X:∀y∈ps.zip us,scope.names.lookup y.1=some .local\/(scope.names.lookup y.1=some .cell/\((Bh (s⁻¹+1) scope.names []).lookup y.1).isSome=true):=fun⟨n,v⟩ hy=>by
  rcases S.par n (Q2 hy).1 with q|q
  ·exact .inl q
  ·exact .inr ⟨q,P7 _ _ _ (.inl q)⟩
 refine codeAny_call_function hr.depth (G _ _ lk) rfl S.co S.gen rfl (PySem.W.codeRec_of G M) (hb _ _ _ _ ?_);refine wpAny_newFunctionEnv_cells S.kind X fun env he F x=>?_;subst he;refine⟨U.keeps x.toInCall.keep,codeAny_func ?_⟩;obtain⟨t,ht,hq⟩:=aG A outer s H vs Q E (hr.deeper _) D;have I:Inv (cv CX P w K mg base N a scope f cdv A outer s H E) [] (start N vs) H F:=Es S hr.hd d T r x;refine wpAny_mono (ht [] F (start N vs) H _ I hq) (fun O s' c=>?_) fun e s' c=>c;have fin:∀{g:St}{H':Hp}{v:V}{u:Value},Inv (cv CX P w K mg base N a scope f cdv A outer s H E) [] g H' s'->RelV v u->Q v H'->CE outer P w H s Q u s':=
  fun{g H' v u} J h q=>⟨v,H',J.os,J.bare,J.base,J.hok,h,q⟩
 cases O with
 |ret u=>
  obtain⟨v,g,H',J,h,q⟩:=c;exact fin J h q
 |next=>
  obtain⟨g,H',J,q⟩:=c;exact fin (v:=V.non) (u:=Value.none) J rfl q
 |brk=>
  obtain⟨_,_,_,q⟩:=c;exact False.elim q
 |cont=>
  obtain⟨_,_,_,q⟩:=c;exact False.elim q
section
variable{X:Cx}{x:Str}{p pos:Pos}{e:Expr}{es:List Expr}{t:TA}{id T:String}{r:List V->Hp->VK->Prop}
def jM(r:List V->Hp->VK->Prop)(t:TA):TE:=fun σ H Q=>t σ H fun vs H1=>r vs H1 Q
def zj(hc:dy X (.builtin id) r)(f:Gl X x)(hm:X.mg x=none)(g:AV x=some (.builtin id))(ha:PA X (e::es) t)(i:x≠"__name__":=by decide)(j:(x==("__debug__":Str))=false:=by decide)
  (he:starEach (e::es) X.env=(false,eval e X.env)::starEach es X.env:=by rfl) (a:(backTo pos (starEach es X.env)).any (·.1)=false:=by rfl):PE X (.Call (.Name x p) (e::es) [] pos) (jM r t):=by
 intro aa s σ H Q I h;refine wpAny_Call_Name_kw (jD I f hm g ?_ i j);exact PyProof.Rows.callWith_builtin1 (aV (ha pos aa s σ H _ I h) fun us b ⟨vs,H1,l,c,d⟩=>hc aa b σ H1 vs us Q l c d) he a
def zp(hc:dy X (.type T) r)(f:Gl X x)(hm:X.mg x=none)(g:AV x=some (.type T))(ha:PA X (e::es) t)(i:x≠"__name__":=by decide)(j:(x==("__debug__":Str))=false:=by decide)
  (he:starEach (e::es) X.env=(false,eval e X.env)::starEach es X.env:=by rfl) (a:(backTo pos (starEach es X.env)).any (·.1)=false:=by rfl):PE X (.Call (.Name x p) (e::es) [] pos) (jM r t):=by
 intro aa s σ H Q I h;refine wpAny_Call_Name_kw (jD I f hm g ?_ i j);exact P6 (aV (ha pos aa s σ H _ I h) fun us b ⟨vs,H1,l,c,d⟩=>hc aa b σ H1 vs us Q l c d) he a
end
end L2
namespace HT
open PySem PyProof.Rows
def lexLt:List Int->List Int->Bool
 |[],[]=>false
 |[],_::_=>true
 |_::_,[]=>false
 |x::xs,y::ys=>if x=y then lexLt xs ys else decide (x<y)
def zx(x y:Int)(xs ys:List Int):lexLt (x::xs) (y::ys)=if x=y then lexLt xs ys else decide (x<y):=rfl
def Et:lexLt [] []=false:=rfl
def zV(y:Int)(ys:List Int):lexLt [] (y::ys)=true:=rfl
def Eu(x:Int)(xs:List Int):lexLt (x::xs) []=false:=rfl
def Jn(A:Around)(s:Shared)(a:Int)(t:Tok)(c:Int)(u:Tok):∃e,SeqAt.EqAt A s (.int a t) (.int c u) e/\(e=true↔a=c):=
 ⟨(a==c),SeqAt.EqAt.int_int a t c u,by simp⟩
def Jo(A:Around)(s:Shared)(a:Int)(t:Tok)(c:Int)(u:Tok)(prog:Program)(w:World)(E:Ω)(Q:Ω)(h:Q (.bool (decide (a<c))) s):wpAny (model prog w) A (richCompare .Lt (.int a t) (.int c u)) Q E s:=
 (PyProof.Rows.lt_int h:wpAny (model prog w) A (compareOp .Lt (.int a t) (.int c u)) Q E s)
section
open PySem.SeqAt
open PySem.AutoSeq1 (wpAny_loadPart')
open PySem.MeetsSeq PySem.MeetsSeq2 PySem.MeetsSeq3
def Jp(l b:Addr)(p r:Array Value)(n n2:Nat)(dd L:Option Addr)(M N:Array (Option Value))(ns D:List Int)(hi:IntsAre p.toList ns)(H:IntsAre r.toList D):Meets (Builtin.«tuple.__lt__» ⟨[.ref l,.ref b],[]⟩)
   (fun _ R s=>s.heap.get? l=some {cls:=.type "tuple",dict:=dd,data:=.seq p n,slots:=M}/\s.heap.get? b=some {cls:=.type "tuple",dict:=L,data:=.seq r n2,slots:=N}/\
    R (.ok (.ret (.bool (lexLt ns D)))) s):=
 .of_wp fun prog w A R s h=>by
  obtain⟨hp,g,d,tk,os⟩:=s;obtain⟨I,hb,h⟩:=h;have f2:=AutoSeq1.sub_tuple_tuple;have Q:p.size=ns.length:=by rw[<-hi.length];simp
  have S:r.size=D.length:=by rw[<-H.length];simp
  wp_walk using wpAny_loadPart' I,wpAny_loadPart' hb,wpAny_forIn_list _ (fun rest b s'=>b.1=none/\s'=⟨hp,g,d,tk,os⟩/\∃(vs v:List Value)(j o:List Int),rest=vs.zip v/\
   IntsAre vs j/\IntsAre v o/\j.length+r.size=o.length+p.size/\R (.ok (.ret (.bool (lexLt j o)))) ⟨hp,g,d,tk,os⟩) _
  case turn=>
   rintro⟨y,x⟩ rest b s' ⟨hb',rfl,vs,v,j,o,hz,E,C,f,i⟩;cases E with
   |nil=>rw[List.zip_nil_left] at hz;cases hz
   |cons a t hvi'=>
    cases C with
    |nil=>rw[List.zip_nil_right] at hz;cases hz
    |cons c u hwi'=>
     rw[RC] at hz;injection hz with hyx cD
     injection hyx with hy hx
     subst hy hx;rw[zx] at i;simp only[At] at f;obtain⟨e,he,F⟩:=Jn A.in1 ⟨hp,g,d,tk,os⟩ a t c u;refine Aa (he prog w _ _ ?_);cases e with
     |true=>
      rw[Sa (F.mp rfl)] at i
      wp_walk
      exact⟨rfl,rfl,_,_,_,_,cD,hvi',hwi',ω,i⟩
     |false=>
      rw[Sb (fun q=>absurd (F.mpr q) Aq)] at i;have J:=Jo A.in1 ⟨hp,g,d,tk,os⟩ a t c u prog w
      wp_walk using J
      exact⟨_,rfl,by simpa using i⟩
  case fin=>
   rintro⟨O,P⟩ s' ⟨hb',rfl,vs,v,j,o,hz,E,C,f,i⟩;simp only at hb';subst hb';have G:lexLt j o=decide (p.size<r.size):=by
    cases E with
    |nil=>
     cases C with
     |nil=>
      simp only[Pz] at f;rw[Et];exact(Sd ω).symm
     |cons c u hw=>
      simp only[Pz,At] at f;rw[zV];exact(Sc ω).symm
    |cons a t G=>
     cases C with
     |nil=>
      simp only[Pz,At] at f;rw[Eu];exact(Sd ω).symm
     |cons c u hw=>
      rw[RC] at hz;cases hz
   rw[G] at i
   wp_walk
   exact⟨_,rfl,by simpa[Builtin.Tuple.tupleCompareSizes] using i⟩
  case h=>
   exact⟨rfl,rfl,p.toList,r.toList,ns,D,rfl,hi,H,ω,h⟩
end
section
variable{prog:Program}{w:World}{A:Around}{E:Ω}{s:Shared}
def Jq{l b:Addr}{c d:Array Value}{ns a:List Int}{Q:Ω}(q:IsTup s.heap l c)(hb:IsTup s.heap b d)(hi:IntsAre c.toList ns)(r:IntsAre d.toList a)(hu:A.units<cLine)(h:Q (.bool (lexLt ns a)) s):wpAny (model prog w) A (compareOp .Lt (.ref l) (.ref b)) Q E s:=by
 obtain⟨⟨cls,dd,data,j⟩,e,hc,n,hd⟩:=id q;obtain⟨⟨u,o,data2,p⟩,f,g,n2,i⟩:=id hb;simp only at hc hd g i;subst hc hd g i;exact richCompare_meets_room (op:=.Lt) ⟨_,e,rfl⟩ ⟨_,f,rfl⟩ PySem.F.slot_tuple_lt PySem.F.entry_tuple_lt (PySem.F.args_tuple_lt_2 _ _) (Jp l b c d n n2 dd o j p ns a hi r)
  ⟨e,f,show Value.bool (lexLt ns a)≠Value.notImplemented/\Q (.bool (lexLt ns a)) s from⟨(fun x=>nomatch x),h⟩⟩ hu
def Jr{t b:Addr}{vs a:List Value}{Q:Ω}(ht:IsTup s.heap t vs.toArray)(hb:IsTup s.heap b a.toArray)(l:vs≠[])(h1:a=[]->Q (.ref t) s)(h2:a≠[]->Q (.ref s⁻¹) {s with heap:=s.heap.push {cls:=.type "tuple",data:=.seq (vs++a).toArray}})(hsz:vs.length+a.length<=sizeLine):wpAny (model prog w) A (binaryOp .Add (.ref t) (.ref b)) Q E s:=by
 obtain⟨⟨cls,dd,data,f⟩,c,hc,n,hd⟩:=id ht;obtain⟨⟨o,g,data2,h⟩,d,i,n2,j⟩:=id hb;simp only at hc hd i j;subst hc hd i j;have e:vs.toArray++a.toArray=(vs++a).toArray:=by simp
 by_cases hw:a=[]
 ·exact concat_meets ⟨_,c,rfl⟩ ⟨_,d,rfl⟩ noFill_tuple_add seq_tuple_add Q7 Q3 (QW _ _)
   (tuple_addW1 t b vs.toArray a.toArray n n2 dd g f h (by simpa using l) (by simp[hw])) ⟨c,d,h1 hw⟩
 ·refine concat_meets ⟨_,c,rfl⟩ ⟨_,d,rfl⟩ noFill_tuple_add seq_tuple_add Q7 Q3 (QW _ _)
   (tuple_addW2 t b vs.toArray a.toArray n n2 dd g f h (by simpa using l) (by simpa using hw) (by rw[Al,Al];exact hsz)) ⟨c,d,?_⟩
  rw[e];exact h2 hw
def sIx(n d:Nat):Option Int->Nat
 |none=>d
 |some v=>if v<0 then(v+(n:Int)).toNat else min v.toNat n
def wj(n d:Nat):sIx n d none=d:=rfl
def qz(n d k:Nat):sIx n d (some (k:Int))=min k n:=by
 show(if(k:Int)<0 then((k:Int)+(n:Int)).toNat else min (k:Int).toNat n)=min k n;rw[Sb ω,Qj]
def Js(n d:Nat)(hd:d<=n)(o:Option Int):sIx n d o<=n:=by
 cases o with
 |none=>exact hd
 |some v=>
  show(if v<0 then(v+(n:Int)).toNat else min v.toNat n)<=n
  by_cases a:v<0
  ·rw[Sa a];omega
  ·rw[Sb a];exact Rj _ _
def Ev(v:Int)(n d:Nat):(if v<0 then max (v+(n:Int)) 0 else min v (n:Int))=((sIx n d (some v):Nat):Int):=by
 show(if v<0 then max (v+(n:Int)) 0 else min v (n:Int))=(((if v<0 then(v+(n:Int)).toNat else min v.toNat n):Nat):Int)
 by_cases a:v<0
 ·simp only[Sa a];omega
 ·simp only[Sb a];omega
def Jt(lo hi:Option Int)(n:Nat):Builtin.Slice.sliceAdjust lo hi 1 (n:Int)=(((sIx n 0 lo:Nat):Int),((sIx n n hi:Nat):Int)):=by
 have h1:¬((1:Int)<0):=ω
 unfold Builtin.Slice.sliceAdjust;simp only[h1,if_false];refine Prod.ext ?_ ?_
 ·cases lo with
  |none=>rfl
  |some v=>exact Ev v n 0
 ·cases hi with
  |none=>rfl
  |some v=>exact Ev v n n
def Ju(i j:Nat):Builtin.Slice.slicePlaces (i:Int) (j:Int) 1=j-i:=by
 unfold Builtin.Slice.slicePlaces;have h1:(1:Int)>0:=ω
 simp only[h1,if_true,Int.ediv_one];split<;>omega
def Ew{v:Value}{o:Option Int}{Q:Option Int->Shared->Prop}(p:IsPart v o)(h:Q o s):wpAny (model prog w) A (Builtin.Slice.slicePartIndex v) Q E s:=by
 cases p with
 |none=>exact slicePart_none h
 |int i t=>exact slicePart_int h
def Ex{e:Addr}{c d:Value}{lo hi:Option Int}{n:Nat}{Q:Int×Int×Nat->Shared->Prop}(f:s.heap.IsSliceOf e c d .none)(g:IsPart c lo)(i:IsPart d hi)(h:Q (((sIx n 0 lo:Nat):Int),1,sIx n n hi-sIx n 0 lo) s):wpAny (model prog w) A (Builtin.Slice.sliceApplied (.ref e) (pure (n:Int))) Q E s:=by
 obtain⟨os,a,hcs,b⟩:=id f;unfold Builtin.Slice.sliceApplied Builtin.Slice.sliceFields;refine Aa (Aa (AO a b (x:=c) rfl (Aa (AO a b (x:=d) rfl (Aa (AO a b (x:=.none) rfl (Ae ?_)))))));refine Aa (slicePart_none ?_);show wpAny _ _ (if((1:Int)==0)=true then _ else _) _ _ s;rw[Sb ξ];refine Aa (Ew g (Aa (Ew i (Aa (Ae ?_)))));show wpAny _ _ (match Builtin.Slice.sliceAdjust lo hi 1 (n:Int) with|(lo,hi)=>pure (lo,(1:Int),Builtin.Slice.slicePlaces lo hi 1)) _ _ s;rw[Jt lo hi n];show wpAny _ _ (pure (((sIx n 0 lo:Nat):Int),(1:Int),Builtin.Slice.slicePlaces ((sIx n 0 lo:Nat):Int) ((sIx n n hi:Nat):Int) 1)) _ _ s;rw[Ju];exact Ae h
def Jv(xs:Array Value)(i k:Nat):((AI k).filterMap fun(m:Nat)=>xs[((i:Int)+(m:Int)*1).toNat]?).toArray=((xs.toList.drop i).take k).toArray:=by
 have e:(fun(m:Nat)=>xs[((i:Int)+(m:Int)*1).toNat]?)=fun m=>xs[i+m]?:=by
  funext m
  have:((i:Int)+(m:Int)*1).toNat=i+m:=ω
  rw[this]
 rw[e];have:=pick_run xs i k;rw[List.filterMap_map] at this;have e2:((fun x=>xs[x]?) ∘ fun x=>i+x)=fun m=>xs[i+m]?:=rfl;rw[e2] at this;rw[this]
def Jw{t c:Addr}{a:Array Value}{d e:Value}{lo hi:Option Int}{Q:Ω}(ht:IsTup s.heap t a)(f:s.heap.IsSliceOf c d e .none)(l:IsPart d lo)(o:IsPart e hi)(hw:¬(sIx a.size 0 lo=0/\sIx a.size a.size hi=a.size))(h:Q (.ref s⁻¹) {s with heap:=s.heap.push {cls:=.type "tuple",data:=.seq ((a.toList.drop (sIx a.size 0 lo)).take (sIx a.size a.size hi-sIx a.size 0 lo)).toArray}})(hsz:a.size<=sizeLine):wpAny (model prog w) A (getItem (.ref t) (.ref c)) Q E s:=by
 have b:sizeOk (.seq ((a.toList.drop (sIx a.size 0 lo)).take (sIx a.size a.size hi-sIx a.size 0 lo)).toArray):=by
  show((a.toList.drop (sIx a.size 0 lo)).take (sIx a.size a.size hi-sIx a.size 0 lo)).toArray.size<=sizeLine;rw[Al,Aw,PB,Qo];omega
 have r:sIx a.size a.size hi<=a.size:=Js _ _ (Af _) hi;obtain⟨os,g,hcs,p⟩:=id f;have i:s.TypeIs (.ref c) "slice":=⟨os,g,hcs⟩;unfold getItem
 try with_reducible refine AD ?_
 first|refine Aa (Ae ?_)|skip
 refine Aa (wpAny_sequenceKey ht.typeIs ξ ?_);refine Aa (wpAny_callSpecial?_slot (name:=Str.ofString "__getitem__") ht.typeIs Qc
  (AZ Qc ht.typeIs entry_tuple_getitem ?_ (args_tuple_getitem _ _)))
 show wpAny _ _ (Builtin.Tuple.tupleItemsOf (.ref t) >>= _) _ _ s;refine Aa (tupleItemsOf_ ht ?_);refine Aa (wpAny_typeOf i ?_);rw[Sa ξ];refine Aa (Ex f l o ?_);have j:¬((((sIx a.size 0 lo:Nat):Int)==0&&(1:Int)==1&&(sIx a.size a.size hi-sIx a.size 0 lo)==a.size)=true):=by
  intro q;rw[AF,AF] at q;have u:((sIx a.size 0 lo:Nat):Int)=0:=eq_of_beq q.1.1;have v:sIx a.size a.size hi-sIx a.size 0 lo=a.size:=eq_of_beq q.2;exact hw ⟨ω,ω⟩
 show wpAny _ _ (if(((sIx a.size 0 lo:Nat):Int)==0&&(1:Int)==1&&(sIx a.size a.size hi-sIx a.size 0 lo)==a.size)=true then _ else _) _ _ s;rw[Sb j,Jv]
 first
  |exact Aa (m:=Builtin.Tuple.tupleExact _) (AQ (Ae ⟨_,rfl,Ae h⟩) b)
  |exact Aa (m:=Builtin.Tuple.tupleExact _) (AQ (Aa (Ae (Ae ⟨_,rfl,Ae h⟩))) b)
  |exact Aa (Aa (m:=Builtin.Tuple.tupleExact _) (AQ (Ae (Ae ⟨_,rfl,Ae h⟩)) b))
  |exact Aa (Aa (m:=Builtin.Tuple.tupleExact _) (AQ (Ae ⟨_,rfl,Ae h⟩) b))
end
end HT
namespace L2
open PySem PySem.Spec PyProof.Rows
abbrev TO:=St->Hp->(Option Int->Hp->Prop)->Prop
def PO(X:Cx)(e:Option Expr)(t:TO):Prop:=
 ∀(aa:Ψ)(s:Shared)(σ:St)(H:Hp)(Q:Option Int->Hp->Prop),Inv X aa σ H s->t σ H Q->
  wpAny (model X.prog X.w) X.A (evalPart e X.env) (fun u s'=>∃o H',Inv X aa σ H' s'/\IsPart u o/\Q o H') X.xe s
def qA:TO:=fun _ H Q=>Q none H
def qB(t:TE):TO:=fun σ H Q=>t σ H fun x H1=>∃i,x=.int i/\Q (some i) H1
def intsAre_of{ns:List Int}:∀{us:List Value},Vals (ns.map V.int) us->IntsAre us ns:=by
 induction ns with
 |nil=>intro us r;rw[Q8] at r;cases r;exact .nil
 |cons n ns ih=>
  intro us r;rw[As] at r;cases r with
  |cons r1 r2=>
   obtain⟨t,e⟩:=r1;subst e;exact .cons n t (ih r2)
section
variable{X:Cx}{e:Expr}{te:TE}{lo hi:Option Expr}{tl th:TO}{pos p2:Pos}
def ix:PO X none qA:=by
 intro aa s σ H Q I h;rw[evalPart_none];exact Ae ⟨none,H,I,.none,h⟩
def iz(h:PE X e te):PO X (some e) (qB te):=by
 intro aa s σ H Q I hw;rw[evalPart_some];refine aV (h aa s σ H _ I hw) fun u d ⟨x,H1,c,a,b⟩=>?_;obtain⟨i,rfl,q⟩:=b;obtain⟨t,rfl⟩:=a;exact⟨some i,H1,c,.int i t,q⟩
def qH(X:Cx)(r:V->Option Int->Option Int->Hp->VK->Prop):Prop:=
 ∀(aa:Ψ)(s:Shared)(σ:St)(H:Hp)(x:V)(v a b:Value)(lo hi:Option Int)(c:Addr)(Q:VK),Inv X aa σ H s->RelV x v->s.heap.IsSliceOf c a b .none->IsPart a lo->IsPart b hi->r x lo hi H Q->
  ∃T id,typeLookup (.type T) "__getitem__"=pure (some (.builtin id))/\s.TypeIs v T/\wpAny (model X.prog X.w) X.A (getItem v (.ref c)) (EP X aa σ Q) X.xe s
def qI(r:V->Option Int->Option Int->Hp->VK->Prop)(te:TE)(tl th:TO):TE:=fun σ H Q=>te σ H fun x H1=>tl σ H1 fun l H2=>th σ H2 fun u a=>r x l u a Q
def iC{r:V->Option Int->Option Int->Hp->VK->Prop}(hr:qH X r)(he:PE X e te)(G:PO X lo tl)(hu:PO X hi th):PE X (.Subscript e (.Slice lo hi none p2) pos) (qI r te tl th):=by
 intro aa s σ H Q I h;refine Subscript_ (aV (he aa s σ H _ I h) fun v g ⟨x,H1,J,i,j⟩=>?_);refine wpAny_Slice (aV (G aa g σ H1 _ J j) fun c o ⟨l,H2,L,p,y⟩=>aV (hu aa o σ H2 _ L y) fun d a ⟨u,f,I3,C,D⟩=>?_);rw[evalPart_none];refine Ae ?_;have M:Inv X aa σ f {a with heap:=a.heap.push {cls:=.type "slice",data:=.fields #[c,d,.none]}}:=I3.kept (t':=a.toks) fun b ob q=>Ad _ q;obtain⟨T,id,E,ht,F⟩:=hr aa {a with heap:=a.heap.push {cls:=.type "slice",data:=.fields #[c,d,.none]}} σ f x v c d l u a⁻¹ Q M i (Heap.IsSliceOf.new ..) p C D;show wpAny (model X.prog X.w) X.A (subscriptTail e (.Slice lo hi none p2) v (.ref a⁻¹)) (EP X aa σ Q) X.xe {a with heap:=a.heap.push {cls:=.type "slice",data:=.fields #[c,d,.none]}};exact tail_any (ops:=[.ref a⁻¹,v]) ht E F (by with_unfolding_all rfl)
def cz(xs:List V)(lo hi:Option Int):List V:=(xs.drop (HT.sIx xs.length 0 lo)).take (HT.sIx xs.length xs.length hi-HT.sIx xs.length 0 lo)
def Ey(xs:List V)(lo hi:Option Int):(cz xs lo hi).length<=xs.length:=by
 unfold cz;rw[Aw,PB];omega
def n7(K:Ac):V->Option Int->Option Int->Hp->VK->Prop:=fun x lo hi H Q=>∃a xs,x=.ref a/\SqT K H a xs/\
 ¬(HT.sIx xs.length 0 lo=0/\HT.sIx xs.length xs.length hi=xs.length)/\∀p,H p=none->Q (.ref p) (upd H p (.tup (cz xs lo hi)))
def wl:qH X (n7 X.K):=by
 intro aa s σ H x v i j lo hi l Q I d e f g h;obtain⟨a,xs,rfl,hx,hw,q⟩:=h;cases d;obtain⟨ae,r,ht,hz⟩:=I.tuple hx;have c:ae.toArray.size=xs.length:=by rw[Al];exact r.length.symm
 refine⟨"tuple",_,PyProof.Rows.slot_tuple_getitem.lookup,ht.typeIs,?_⟩;refine HT.Jw ht e f g (by rw[c];exact hw) ?_ (by rw[c];exact hz);rw[c];refine⟨.ref s⁻¹,_,I.laid (t':=s.toks) (o:=.tup (cz xs lo hi)) (fun b ob q=>Ad _ q) (Af _) ?_,rfl,q _ (I.hok.fresh (Af _))⟩;exact⟨Ay (Ey xs lo hi) hz,_,(r.drop (HT.sIx xs.length 0 lo)).take (HT.sIx xs.length xs.length hi-HT.sIx xs.length 0 lo),IsTup.new _ _⟩
def Vals.nil_iff{xs:List V}{us:List Value}(r:Vals xs us):us=[]↔xs=[]:=by
 cases r with
 |nil=>simp
 |cons _ _=>simp
end
def i8(n:Nat)(i:Int):Option Nat:=if 0<=i then(if i<n then some i.toNat else none) else if -(n:Int)<=i then some (i+n).toNat else none
def fY{a:Type}(xs:List a)(i:Int):Option a:=(i8 xs.length i).bind fun j=>xs[j]?
def Ez{n:Nat}{i:Int}{j:Nat}(h:i8 n i=some j):seqIndex? i n=some j/\j<n/\-(n:Int)<=i/\i<n:=by
 unfold i8 at h
 by_cases a:0<=i
 ·rw[Sa a] at h
  by_cases h1:i<n
  ·rw[Sa h1] at h
   have e:i.toNat=j:=Ag h;exact⟨by rw[seqIndex_of a h1,e],ω,ω,h1⟩
  ·rw[Sb h1] at h;cases h
 ·rw[Sb a] at h
  by_cases h1:-(n:Int)<=i
  ·rw[Sa h1] at h
   have e:(i+n).toNat=j:=Ag h;exact⟨by rw[seqIndex_neg ω h1,e],ω,h1,ω⟩
  ·rw[Sb h1] at h;cases h
def EA{a:Type}{xs:List a}{i:Int}{v:a}(h:fY xs i=some v):∃j,seqIndex? i xs.length=some j/\xs[j]?=some v/\j<xs.length/\-(xs.length:Int)<=i/\i<xs.length:=by
 unfold fY at h;cases e:i8 xs.length i with
 |none=>rw[e] at h;cases h
 |some j=>
  rw[e] at h;obtain⟨h1,h2,b,c⟩:=Ez e;exact⟨j,h1,h,h2,b,c⟩
def gS{a:Type}{xs:List a}{j:Nat}{v:a}(h:xs[j]?=some v):fY xs (j:Int)=some v:=by
 have b:j<xs.length:=(KK.mp h).1;have e:i8 xs.length (j:Int)=some j:=by
  unfold i8;rw[Sa ω,Sa ω];simp
 unfold fY;rw[e];exact h
def Jx{a:Type}(xs:List a)(v:a):fY (xs++[v]) (-1)=some v:=by
 have b:(xs++[v]).length=xs.length+1:=by simp
 have e:i8 (xs++[v]).length (-1)=some xs.length:=by
  unfold i8;rw[b,Sb ξ,Sa ω]
  congr 1
  omega
 unfold fY;rw[e];show(xs++[v])[xs.length]?=some v;simp
def Jy(b:Expr):Prop:=∀o i,subscripted b false o i=operate [o,i] (getItem o i)
def wm(X:Cx)(r:R2):Prop:=
 ∀(aM slice:Expr)(aa:Ψ)(s:Shared)(σ:St)(H:Hp)(x y:V)(v u:Value)(Q:VK),Inv X aa σ H s->RelV x v->RelV y u->r x y H Q->
  subscripted slice false v u=operate [v,u] (getItem v u)->wpAny (model X.prog X.w) X.A (subscriptTail aM slice v u) (EP X aa σ Q) X.xe s
def wC(X:Cx)(id:String)(r:V->List V->Hp->VK->Prop):Prop:=
 ∀(aa:Ψ)(s:Shared)(σ:St)(H:Hp)(x:V)(xs:List V)(v:Value)(us:List Value)(Q:VK),Inv X aa σ H s->RelV x v->Vals xs us->r x xs H Q->
  wpAny (model X.prog X.w) X.A (call (.builtin id) (v::us)) (EP X aa σ Q) X.xe s
section
variable{X:Cx}{a b:Expr}{ta tb:TE}{pos:Pos}
def zJ{r:R2}(hr:wm X r)(ha:PE X a ta)(hb:PE X b tb)(f:Jy b):PE X (.Subscript a b pos) (bC r ta tb):=by
 intro aa s σ H Q I h;exact Subscript_ (km ha hb I h fun v u c x y H2 g d e q=>hr a b aa c σ H2 x y v u Q g d e q (f _ _))
def wG(K:Ac):R2:=fun x y H Q=>∃p xs i v,x=.ref p/\y=.int i/\SqL K H p xs/\fY xs i=some v/\Q v H
def i'(K:Ac):R2:=fun x y H Q=>∃p xs i v,x=.ref p/\y=.int i/\SqT K H p xs/\fY xs i=some v/\Q v H
def zS:wm X (wG X.K):=by
 intro aM slice aa s σ H x y v u Q I f g h c;obtain⟨p,xs,i,z,rfl,rfl,hq,he,q⟩:=h;cases f;obtain⟨t,rfl⟩:=g;obtain⟨ae,r,a,hz⟩:=I.list hq;obtain⟨j,h1,h2,D,l,o⟩:=EA he;obtain⟨w,d,A⟩:=r.get h2;have C:=r.length;have E:=dt;have fin:EP X aa σ Q w s:=⟨z,H,I,A,q⟩
 by_cases e:0<=i
 ·have b:i.toNat=j:=by
   rw[seqIndex_of e o] at h1;exact Ag h1
  exact item_listR a.isList e ω (by rw[b];simpa using d) fin c
 ·have b:(i+(ae.toArray.size:Int)).toNat=j:=by
   rw[seqIndex_neg ω l] at h1;rw[Al,<-C];exact Ag h1
  exact subscriptTail_builtinR (x:=w) a.isList.typeIs slot_list_getitem.lookup
   (wpAny_getItem_list_neg (Q:=fun r s'=>r=w/\EP X aa σ Q r s') a.isList ω (by rw[Al]<;>omega) ω (by rw[b];simpa using d) ⟨rfl,fin⟩) c
def zZ:wm X (i' X.K):=by
 intro aM slice aa s σ H x y v u Q I b c h d;obtain⟨p,xs,i,z,rfl,rfl,hq,he,q⟩:=h;cases b;obtain⟨t,rfl⟩:=c;obtain⟨ae,r,a,hz⟩:=I.tuple hq;obtain⟨j,h1,h2,l,o,A⟩:=EA he;obtain⟨w,e,f⟩:=r.get h2;have g:=r.length;have C:=dt;have fin:EP X aa σ Q w s:=⟨z,H,I,f,q⟩;exact subscriptTail_builtinR (x:=w) a.typeIs slot_tuple_getitem.lookup
  (getItem_tuple (j:=j) (Q:=fun r s'=>r=w/\EP X aa σ Q r s') a ω ω (by rw[Al,<-g];exact h1) (by simpa using e) ⟨rfl,fin⟩) d
def Jz(ae:List Value)(n j:Nat)(u:Value):AH (·.setIfInBounds j u) {cls:=.type "list",data:=.seq ae.toArray n}={cls:=.type "list",data:=.seq (ae.set j u).toArray n}:=by
 simp[AH]
def Inv.lst{aa:Ψ}{σ:St}{H:Hp}{s:Shared}{p:Addr}{xs:List V}(I:Inv X aa σ H s)(h:H p=some (.lst xs)):∃(ae:List Value)(n:Nat),Vals xs ae/\s.heap.get? p=some {cls:=.type "list",data:=.seq ae.toArray n}/\xs.length<=sizeLine:=by
 obtain⟨z,ae,n,r,e⟩:=I.hok p _ h;exact⟨ae,n,r,e,z⟩
def Inv.lstUpd{aa:Ψ}{σ:St}{H:Hp}{s:Shared}{p:Addr}{xs ys:List V}{ae its':List Value}{n a:Nat}{f:Obj->Obj}(I:Inv X aa σ H s)(h:H p=some (.lst xs))(c:s.heap.get? p=some {cls:=.type "list",data:=.seq ae.toArray n})(hf:f {cls:=.type "list",data:=.seq ae.toArray n}={cls:=.type "list",data:=.seq its'.toArray a})(r:Vals ys its')(hz:ys.length<=sizeLine)(t:Nat):Inv X aa σ (upd H p (.lst ys)) {s with heap:=s.heap.update p f,toks:=t}:=by
 have e:(s.heap.update p f).get? p=some {cls:=.type "list",data:=.seq its'.toArray a}:=by
  rw[Heap.get?_update_self f c (by rw[hf]<;>rfl),hf]
 refine I.write (x:=p) (e:=p) (by rw[h];trivial) (.inl rfl) (fun b u hb q=>(AE _ _ (Ne.symm hb)).trans q) ⟨_,e⟩ ?_;exact⟨hz,its',a,r,e⟩
def JA:V->V->V->Hp->(Hp->Prop)->Prop:=fun o i v H Q=>∃p xs k j,o=.ref p/\i=.int k/\H p=some (.lst xs)/\i8 xs.length k=some j/\Q (upd H p (.lst (xs.set j v)))
def set_list:nO X JA:=by
 intro aa s σ H o i v y A u Q I g l w h;obtain⟨p,xs,k,j,rfl,rfl,hp,x,q⟩:=h;cases g;obtain⟨t,rfl⟩:=l;obtain⟨ae,n,r,a,hz⟩:=I.lst hp;obtain⟨h1,h2,c,d⟩:=Ez x;have b:=r.length;have C:=dt;have f:Inv X aa σ (upd H p (.lst (xs.set j v))) {s with heap:=s.heap.update p (AH (·.setIfInBounds j u))}:=
  I.lstUpd hp a (Jz ae n j u) (r.set w j) (by rw[List.length_set];exact hz) s.toks
 by_cases e:0<=k
 ·have hk:k.toNat=j:=by
   rw[seqIndex_of e d] at h1;exact Ag h1
  exact PySem.W.ki_setAt a e ω (by rw[Al,<-b];exact d) (by rw[hk];exact⟨_,f,q⟩)
 ·have hk:(k+(ae.toArray.size:Int)).toNat=j:=by
   rw[seqIndex_neg ω c] at h1;rw[Al,<-b];exact Ag h1
  exact PySem.W.ki_setBack a ω (by rw[Al,<-b];exact c) ω (by rw[hk];exact⟨_,f,q⟩)
def JB(lo hi:Option Int)(n:Nat):(sliceBounds lo hi none n).1=((HT.sIx n 0 lo:Nat):Int)/\(sliceBounds lo hi none n).2.1=((HT.sIx n n hi:Nat):Int)/\(sliceBounds lo hi none n).2.2=1:=by
 refine⟨?_,?_,rfl⟩
 ·cases lo with
  |none=>simp[sliceBounds,HT.sIx]
  |some i=>
   simp only[sliceBounds,HT.sIx,Option.getD_none,show(1:Int)>0 from ξ,if_true]
   by_cases h:i<0
   ·simp only[h,if_true]<;>omega
   ·simp only[h,if_false]<;>omega
 ·cases hi with
  |none=>simp[sliceBounds,HT.sIx]
  |some i=>
   simp only[sliceBounds,HT.sIx,Option.getD_none,show(1:Int)>0 from ξ,if_true]
   by_cases h:i<0
   ·simp only[h,if_true]<;>omega
   ·simp only[h,if_false]<;>omega
def JC(ae:List Value)(lo hi:Option Int):slicePick ae.toArray lo hi none=((ae.drop (HT.sIx ae.length 0 lo)).take (HT.sIx ae.length ae.length hi-HT.sIx ae.length 0 lo)).toArray:=by
 obtain⟨h1,h2,a⟩:=JB lo hi ae.toArray.size;unfold slicePick;rw[h1,h2,a];simp only[sliceRange_one,pick_run,Al]<;>rfl
def wX(K:Ac):V->Option Int->Option Int->Hp->VK->Prop:=fun x lo hi H Q=>∃a xs,x=.ref a/\SqL K H a xs/\∀p,H p=none->Q (.ref p) (upd H p (.lst (cz xs lo hi)))
def EC:qH X (wX X.K):=by
 intro aa s σ H x v i j lo hi l Q I d e f g h;obtain⟨a,xs,rfl,hx,q⟩:=h;cases d;obtain⟨ae,r,ht,hz⟩:=I.list hx;have c:=r.length;refine⟨"list",_,slot_list_getitem.lookup,ht.isList.typeIs,?_⟩;refine wpAny_getItem_list_slice ht.isList e f g .none (by simp) ?_ (by rw[Al]<;>omega);rw[JC,<-c];refine⟨.ref s⁻¹,_,I.laid (t':=s.toks) (o:=.lst (cz xs lo hi)) (fun b ob q=>Ad _ q) (Af _) ?_,rfl,q _ (I.hok.fresh (Af _))⟩;exact⟨Ay (Ey xs lo hi) hz,_,0,(r.drop (HT.sIx xs.length 0 lo)).take (HT.sIx xs.length xs.length hi-HT.sIx xs.length 0 lo),An _ rfl⟩
def fJ:V->Bool
 |.non=>true
 |.bl _=>true
 |.int _=>true
 |.str _=>true
 |_=>false
def fg:V->V->Bool
 |.non,.non=>true
 |.bl a,.bl b=>a==b
 |.bl a,.int b=>(if a then 1 else 0)==b
 |.int a,.bl b=>a==(if b then 1 else 0)
 |.int a,.int b=>a==b
 |.str a,.str b=>a==b
 |_,_=>false
def JD{A:Around}{s:Shared}{y x:V}{u v:Value}(d:RelV y u)(c:RelV x v)(e:fJ y=true)(fx:fJ x=true):SeqAt.EqAt A s u v (fg y x):=by
 cases y with
 |non=>
  cases d;cases x with
  |non=>cases c;exact SeqAt.EqAt.same _
  |bl b=>cases c;exact SeqAt.EqAt.none_bool b
  |int b=>obtain⟨t,rfl⟩:=c;exact SeqAt.EqAt.none_int b t
  |str b=>obtain⟨t,rfl⟩:=c;exact SeqAt.EqAt.none_str b t
  |_=>exact absurd (show false=true from fx) Aq
 |bl a=>
  cases d;cases x with
  |non=>cases c;exact SeqAt.EqAt.bool_none a
  |bl b=>cases c;exact SeqAt.EqAt.bool_bool a b
  |int b=>obtain⟨t,rfl⟩:=c;exact SeqAt.EqAt.bool_int a b t
  |str b=>obtain⟨t,rfl⟩:=c;exact SeqAt.EqAt.bool_str a b t
  |_=>exact absurd (show false=true from fx) Aq
 |int a=>
  obtain⟨t',rfl⟩:=d;cases x with
  |non=>cases c;exact SeqAt.EqAt.int_none a t'
  |bl b=>cases c;exact SeqAt.EqAt.int_bool a t' b
  |int b=>obtain⟨t,rfl⟩:=c;exact SeqAt.EqAt.int_int a t' b t
  |str b=>obtain⟨t,rfl⟩:=c;exact SeqAt.EqAt.int_str a t' b t
  |_=>exact absurd (show false=true from fx) Aq
 |str a=>
  obtain⟨t',rfl⟩:=d;cases x with
  |non=>cases c;exact SeqAt.EqAt.str_none a t'
  |bl b=>cases c;exact SeqAt.EqAt.str_bool a t' b
  |int b=>obtain⟨t,rfl⟩:=c;exact SeqAt.EqAt.str_int a t' b t
  |str b=>obtain⟨t,rfl⟩:=c;exact SeqAt.EqAt.str_str a t' b t
  |_=>exact absurd (show false=true from fx) Aq
 |_=>exact absurd (show false=true from e) Aq
def eO(x:V)(u:Value):Bool:=match u with
 |.none=>fg .non x
 |.bool b=>fg (.bl b) x
 |.int i _=>fg (.int i) x
 |.str z _=>fg (.str z) x
 |_=>false
def qJ{x y:V}{u:Value}(r:RelV y u)(f:fJ y=true):eO x u=fg y x:=by
 cases y with
 |non=>cases r;rfl
 |bl b=>cases r;rfl
 |int i=>obtain⟨t,rfl⟩:=r;rfl
 |str z=>obtain⟨t,rfl⟩:=r;rfl
 |_=>exact absurd (show false=true from f) Aq
def w6{x:V}:∀{xs:List V}{us:List Value},Vals xs us->xs.all fJ=true->us.any (eO x)=xs.any fun y=>fg y x
 |_,_,.nil,_=>rfl
 |y::xs,u::us,.cons r t,f=>by
  rw[RR,AF] at f;rw[QX,QX,qJ r f.1,w6 t f.2]
def n8{A:Around}{s:Shared}{x:V}{v:Value}(a:RelV x v)(fx:fJ x=true):∀{xs:List V}{us:List Value},Vals xs us->xs.all fJ=true->∀u∈us,SeqAt.EqAt A s u v (eO x u)
 |_,_,.nil,_=>fun u hu=>by cases hu
 |y::xs,u::us,.cons r t,f=>fun b hu=>by
  rw[RR,AF] at f;rcases Pa.mp hu with rfl|hu
  ·rw[qJ r f.1];exact JD r a f.1 fx
  ·exact n8 a fx t f.2 b hu
def ED(x:V)(xs:List V):Bool:=xs.any fun y=>fg y x
def JE(K:Ac)(neg:Bool):R2:=fun x y H Q=>∃p xs,y=.ref p/\(SqL K H p xs\/SqT K H p xs)/\fJ x=true/\xs.all fJ=true/\Q (.bl (if neg then !ED x xs else ED x xs)) H
def JF:c7 X (compareOp .NotIn) (JE X.K true):=by
 intro aa s σ H x y v u Q I b c h;obtain⟨p,xs,rfl,hq,fx,fs,q⟩:=h;cases c;rcases hq with hq|hq
 ·obtain⟨ae,r,a,hz⟩:=I.list hq
  refine SeqAt.notIn_listAt (eO x) a.isList (fun w hw=>n8 b fx r fs w (by simpa using hw)) ⟨.bl _,H,I,rfl,?_⟩;rw[show ae.toArray.any (eO x)=ae.any (eO x) by simp,w6 r fs];exact q
 ·obtain⟨ae,r,a,hz⟩:=I.tuple hq
  refine SeqAt.notIn_tupleAt (eO x) a (fun w hw=>n8 b fx r fs w (by simpa using hw)) ⟨.bl _,H,I,rfl,?_⟩;rw[show ae.toArray.any (eO x)=ae.any (eO x) by simp,w6 r fs];exact q
def zh:dy X (.builtin "len") (fun xs H Q=>∃p ys,xs=[.ref p]/\(SqL X.K H p ys\/SqT X.K H p ys)/\Q (.int ys.length) H):=by
 intro aa s σ H xs us Q I r h;obtain⟨p,ys,rfl,hq,q⟩:=h;obtain⟨u,rfl,d⟩:=vals1 r;cases d;have e:=dt;rcases hq with hq|hq
 ·obtain⟨ae,b,c,hz⟩:=I.list hq
  have a:=b.length;exact Calls.call_len_list c.isList (by simp only[Al]<;>omega) ⟨.int ys.length,H,I.tok _,⟨s.toks+1,by rw[Al,a]⟩,q⟩
 ·obtain⟨ae,b,c,hz⟩:=I.tuple hq
  have a:=b.length;exact len_tuple c (by simp only[Al]<;>omega) ⟨.int ys.length,H,I.tok _,⟨s.toks+1,by rw[Al,a]⟩,q⟩
def EE:dy X (.type "list") (fun xs H Q=>∃p ys,xs=[.ref p]/\(SqL X.K H p ys\/SqT X.K H p ys)/\∀l,H l=none->Q (.ref l) (upd H l (.lst ys))):=by
 intro aa s σ H xs us Q I r h;obtain⟨p,ys,rfl,hq,q⟩:=h;obtain⟨u,rfl,i⟩:=vals1 r;cases i;have fin:∀(ae:List Value),Vals ys ae->ys.length<=sizeLine->∀(h':Heap)(c':Nat),(∀b o',s.heap.get? b=some o'->h'.get? b=some o')->
   h'.get? s⁻¹=some {cls:=.type "list",dict:=none,data:=.seq ae.toArray c',slots:=#[]}->EP X aa σ Q (.ref s⁻¹) {s with heap:=h'}:=fun ae a hz h' c' c e=>
  ⟨.ref s⁻¹,_,I.laid (t':=s.toks) c (Af _) (show zw X.prog X.w _ h' _ (.lst ys) from⟨hz,ae,c',a,e⟩),rfl,q _ (I.hok.fresh (Af _))⟩
 rcases hq with hq|hq
 ·obtain⟨ae,a,f,hz⟩:=I.list hq
  have d:=a.length;obtain⟨o,g,hc,n,hd⟩:=f.isList;exact call_list_seq p (.inl rfl) g hc hd (fun h' c' c e=>fin ae a hz h' c' c e) (by simp only[Al]<;>omega)
 ·obtain⟨ae,a,f,hz⟩:=I.tuple hq
  have d:=a.length;obtain⟨o,g,hc,n,hd⟩:=f;exact call_list_seq p (.inr rfl) g hc hd (fun h' c' c e=>fin ae a hz h' c' c e) (by simp only[Al]<;>omega)
def xg:dy X (.type "tuple") (fun xs H Q=>∃p ys,xs=[.ref p]/\((SqL X.K H p ys/\∀l,H l=none->Q (.ref l) (upd H l (.tup ys)))\/(SqT X.K H p ys/\Q (.ref p) H))):=by
 intro aa s σ H xs us Q I r h;obtain⟨p,ys,rfl,h⟩:=h;obtain⟨u,rfl,g⟩:=vals1 r;cases g;rcases h with ⟨hq,q⟩|⟨hq,q⟩
 ·obtain⟨ae,a,c,hz⟩:=I.list hq
  have d:=a.length;refine call_tuple_list c.isList (fun h' f=>?_) (by simp only[Al]<;>omega);have I1:Inv X aa σ H {s with heap:=h'}:=I.kept (t':=s.toks) f;have i:Inv X aa σ (upd H h'.objs.size (.tup ys)) {s with heap:=h'.push {cls:=.type "tuple",data:=.seq ae.toArray}}:=
   I1.laid (t':=s.toks) (fun b o e=>Ad _ e) (Af _) (show zw X.prog X.w _ _ _ (.tup ys) from⟨hz,ae,a,IsTup.new _ _⟩)
  exact⟨.ref h'.objs.size,_,i,rfl,q _ (I1.hok.fresh (Af _))⟩
 ·obtain⟨ae,a,c,hz⟩:=I.tuple hq
  exact call_tuple_same c ⟨.ref p,H,I,rfl,q⟩
def EF(K:Ac)(T:String)(x:V)(H:Hp):Prop:=match x with
 |.str _=>T="str"
 |.int _=>T="int"
 |.ref p=>(T="list"/\∃xs,SqL K H p xs)\/(T="tuple"/\∃o,K.lookup p=some o/\o.cls=.type "tuple"/\o.dict=none) \/
   (T="dict"/\((∃kvs,H p=some (.dK kvs))\/∃kvs,H p=some (.dT kvs)))\/(T="set"/\∃S n,H p=some (.set S n))
 |_=>False
def JG{aa:Ψ}{σ:St}{H:Hp}{s:Shared}{T:String}{x:V}{v:Value}(I:Inv X aa σ H s)(r:RelV x v)(ty:EF X.K T x H):s.TypeIs v T/\∀a,v=.ref a->∃ob,s.heap.get? a=some ob/\ob.dict=none:=by
 cases x with
 |str z=>
  obtain⟨t,rfl⟩:=r;cases(show T="str" from ty);exact⟨typeIs_str s z t,fun _ e=>nomatch e⟩
 |int i=>
  obtain⟨t,rfl⟩:=r;cases(show T="int" from ty);exact⟨typeIs_int s i t,fun _ e=>nomatch e⟩
 |ref p=>
  cases r;rcases ty with ⟨rfl,xs,hq⟩|⟨rfl,o,hk,hc,hd⟩|⟨rfl,hk⟩|⟨rfl,S,n,hk⟩
  ·obtain⟨ae,_,b,_⟩:=I.list hq
   refine⟨b.isList.typeIs,fun a e=>?_⟩;cases e;obtain⟨o,n,e,c,hd,_⟩:=b;exact⟨o,e,hd⟩
  ·refine⟨⟨o,I.kIn p o hk,hc⟩,fun a e=>?_⟩
   cases e;exact⟨o,I.kIn _ o hk,hd⟩
  ·have z:∃o,s.heap.get? p=some o/\o.ExactDict:=by
    rcases hk with ⟨kvs,hk⟩|⟨kvs,hk⟩
    ·obtain⟨_,_,_,_,o,_,_,e,ex,_⟩:=I.hok p _ hk
     exact⟨o,e,ex⟩
    ·obtain⟨_,_,_,_,o,_,_,e,ex,_⟩:=I.hok p _ hk
     exact⟨o,e,ex⟩
   obtain⟨o,e,ex⟩:=z;refine⟨⟨o,e,ex.1⟩,fun a e2=>?_⟩;cases e2;exact⟨o,e,ex.2.1⟩
  ·obtain⟨o,_,_,_,e,ex,_⟩:=I.hok p _ hk
   refine⟨⟨o,e,ex.1⟩,fun a e2=>?_⟩;cases e2;exact⟨o,e,ex.2.1⟩
 |_=>exact False.elim ty
def JH(K:Ac)(T:String)(r:V->List V->Hp->VK->Prop)(to:TE)(t:TA):TE:=fun σ H Q=>to σ H fun x H1=>EF K T x H1/\t σ H1 fun xs H2=>r x xs H2 Q
variable{o e:Expr}{es:List Expr}{to:TE}{t:TA}{name:Str}{a9 ay:Pos}{T id:String}{r:V->List V->Hp->VK->Prop}
def g0(p:PlainAttrs T)(slot:Slot T name id)(q:typeOf (.builtin id)=pure (.type "method_descriptor"))(hm:wC X id r)(u:PE X o to)(ha:PA X (e::es) t)(w:attributeBase o name X.env (eval o X.env)=eval o X.env:=by rfl)
  (y:((backTo ay (starEach (e::es) X.env)).all (fun x=>!x.1)&&(backToKw ay (keywordEach [] X.env)).all (fun x=>x.1.isSome)
   && decide ((e::es).length+([]:List Keyword).length+(if([]:List Keyword).isEmpty then 0 else 1)<30))=true:=by rfl)
  (A:(a9.endLine==ay.line)=true:=by rfl) (C:starEach (e::es) X.env=(false,eval e X.env)::starEach es X.env:=by rfl) (D:(backTo ay (starEach es X.env)).any (·.1)=false:=by rfl) :
  PE X (.Call (.Attribute o name a9) (e::es) [] ay) (JH X.K T r to t):=by
 intro aa s σ H Q I h;refine wpAny_Call_method_late w y A rfl (aV (u aa s σ H _ I h) fun v f ⟨x,H1,d,b,ty,g⟩=>?_);obtain⟨h1,h2⟩:=JG d b ty;refine⟨T,id,p,slot,q,h1,h2,?_⟩;have c:=ha ay aa f σ H1 _ d g;rw[C] at c ⊢;refine Calls.callWith_builtin (by show(false|| (backTo ay (starEach es X.env)).any (·.1))=false;rw[D]<;>rfl) (Calls.evalArgs_plain ?_);exact aV c fun us i ⟨vs,H2,E,j,l⟩=>hm aa i σ H2 x vs v us Q E b j l
end
def kx(X:Cx)(id:String)(r:V->List V->Hp->VK->Prop):Prop:=
 ∀(aa:Ψ)(s:Shared)(σ:St)(H:Hp)(x:V)(xs:List V)(v:Value)(us:List Value)(Q:VK),Inv X aa σ H s->RelV x v->Vals xs us->r x xs H Q->
  wpAny (model X.prog X.w) X.A (call (.builtin id) (v::us)) (EP X aa σ Q) X.xe s
def Vals.one{x:V}{us:List Value}(h:Vals [x] us):∃u,us=[u]/\RelV x u:=by
 cases h with|cons r t=>cases t;exact⟨_,rfl,r⟩
def Vals.two{x y:V}{us:List Value}(h:Vals [x,y] us):∃u v,us=[u,v]/\RelV x u/\RelV y v:=by
 cases h with|cons r t=>obtain⟨v,rfl,q⟩:=Vals.one t;exact⟨_,_,rfl,r,q⟩
def Vals.zero:∀{us:List Value},Vals [] us->us=[]
 |_,.nil=>rfl
def Vals.eraseIdx:∀{xs:List V}{us:List Value}(i:Nat),Vals xs us->Vals (xs.eraseIdx i) (us.eraseIdx i)
 |_,_,_,.nil=>.nil
 |_,_,0,.cons _ t=>t
 |_,_,i+1,.cons r t=>.cons r (Vals.eraseIdx i t)
def Vals.reverse{xs:List V}{us:List Value}(h:Vals xs us):Vals xs.reverse us.reverse:=by
 induction h with
 |nil=>exact .nil
 |cons r t ih=>rw[List.reverse_cons,List.reverse_cons];exact Vals.append ih (.cons r .nil)
def EG{a:Type}:∀(l:List a)(i:Nat),(l.eraseIdx i).length<=l.length
 |[],_=>Af _
 |_::_,0=>Qv _
 |_::r,i+1=>RV (EG r i)
section
variable{X:Cx}{aa:Ψ}{σ:St}{H:Hp}{s:Shared}{l b:Addr}{xs ys zs:List V}
def Inv.lset{ae its':List Value}{n:Nat}{f:Array Value->Array Value}{t':Nat}(I:Inv X aa σ H s)(a:H l=some (.lst xs))(e:s.heap.get? l=some {cls:=.type "list",data:=.seq ae.toArray n})(hf:f ae.toArray=its'.toArray)(b:Vals ys its')(hz:ys.length<=sizeLine):Inv X aa σ (upd H l (.lst ys)) {s with heap:=s.heap.update l (AH f),toks:=t'}:=by
 have q:=PySem.IsL.update e f;rw[hf] at q;refine I.write (x:=l) (e:=l) (by rw[a];exact trivial) (.inl rfl) (fun c u hb hu=>(AE s.heap (AH f) (Ne.symm hb)).trans hu) ⟨_,q⟩ ?_;exact⟨hz,its',_,b,q⟩
def Inv.lnew{ae:List Value}{t':Nat}(I:Inv X aa σ H s)(a:Vals ys ae)(hz:ys.length<=sizeLine):Inv X aa σ (upd H s⁻¹ (.lst ys)) {s with heap:=s.heap.push {cls:=.type "list",data:=.seq ae.toArray},toks:=t'}:=
 I.laid (fun _ _ q=>Ad _ q) (Af _) ⟨hz,ae,0,a,An _ rfl⟩
def Inv.fresh(I:Inv X aa σ H s):H s⁻¹=none:=I.hok.fresh (Af _)
def Inv.lstM(I:Inv X aa σ H s)(a:H l=some (.lst xs)):xs.length<=sizeLine/\∃(ae:List Value)(n:Nat),Vals xs ae/\xs.length=ae.length/\s.heap.get? l=some {cls:=.type "list",data:=.seq ae.toArray n}:=by
 obtain⟨z,ae,n,r,e⟩:=I.hok l _ a;exact⟨z,ae,n,r,r.length,e⟩
def JI{n:Nat}(h:n<=sizeLine):Builtin.List.listTooLong n=false:=by
 unfold Builtin.List.listTooLong;exact Sd ω
end
section
variable{X:Cx}
def zmu:V->List V->Hp->VK->Prop:=fun x vs H Q=>∃l xs y,x=.ref l/\vs=[y]/\H l=some (.lst xs)/\xs.length<sizeLine/\Q .non (upd H l (.lst (xs++[y])))
def l':kx X "list.append" zmu:=by
 intro aa s σ H x vs v us Q I b c h;obtain⟨l,xs,y,rfl,rfl,a,hz,q⟩:=h;cases b;obtain⟨u,rfl,d⟩:=c.one;obtain⟨z,ae,n,r,f,e⟩:=I.lstM a;refine call_meets F.slot_list_append ⟨_,e,rfl⟩ F.entry_list_append (F.args_list_append_2 _ _) (PySem.list_append l ae.toArray n u (by rw[Al];omega)) ⟨e,?_⟩;refine⟨.non,_,I.lset (its':=ae++[u]) a e (by simp) (r.append (.cons d .nil)) ?_,rfl,q⟩;rw[Ap,List.length_singleton];omega
def zma:V->List V->Hp->VK->Prop:=fun x vs H Q=>∃l b xs zs,x=.ref l/\vs=[.ref b]/\H l=some (.lst xs)/\H b=some (.lst zs)/\xs.length+zs.length<=sizeLine/\Q .non (upd H l (.lst (xs++zs)))
def JJ:kx X "list.extend" zma:=by
 intro aa s σ H x vs v us Q I f g h;obtain⟨l,b,xs,zs,rfl,rfl,d,i,hz,q⟩:=h;cases f;obtain⟨u,rfl,j⟩:=g.one;cases j;obtain⟨z,ae,n,r,w,e⟩:=I.lstM d;obtain⟨y,c,n2,o,p,e2⟩:=I.lstM i;have hsz:ae.toArray.size+c.toArray.size<=sizeLine:=by rw[Al,Al];omega
 have a:¬(!ae.toArray.isEmpty&&Builtin.List.listTooLong (ae.toArray.size+c.toArray.size))=true:=by
  rw[JI hsz,Q9];exact Aq
 refine call_meets F.slot_list_extend ⟨_,e,rfl⟩ F.entry_list_extend (F.args_list_extend_2 _ _)
  (AutoSeq1.list_extend_list_list_0 l ae.toArray n b c.toArray n2 a (by rw[Al];omega) ω) ⟨e,e2,?_⟩
 refine⟨.non,_,I.lset (its':=ae++c) d e (by simp) (r.append o) ?_,rfl,q⟩;rw[Ap];omega
def xi:R2:=fun x y H Q=>∃l b xs zs,x=.ref l/\y=.ref b/\H l=some (.lst xs)/\H b=some (.lst zs)/\xs.length+zs.length<=sizeLine/\∀p,H p=none->Q (.ref p) (upd H p (.lst (xs++zs)))
def me:c7 X (binaryOp .Add) xi:=by
 intro aa s σ H x y v u Q I c d h;obtain⟨l,b,xs,zs,rfl,rfl,f,g,hz,q⟩:=h;cases c;cases d;obtain⟨z,ae,n,r,p,e⟩:=I.lstM f;obtain⟨w,a,n2,i,j,e2⟩:=I.lstM g;refine PySem.P.add_list e e2 ?_ (by rw[Al,Al];omega);have o:ae.toArray++a.toArray=(ae++a).toArray:=by simp
 rw[o];exact⟨.ref _,_,I.lnew (t':=s.toks) (r.append i) (by rw[Ap];omega),rfl,q _ I.fresh⟩
end
section
variable{prog:Program}{w:World}{A:Around}{E:Ω}{s:Shared}
set_option maxRecDepth 100000 in
end
section
variable{κ:Type}[DecidableEq κ]
def bv(kvs:List (κ×V))(k:κ):Option V:=(kvs.find? fun kv=>decide (kv.1=k)).map (·.2)
def putK(kvs:List (κ×V))(k:κ)(v:V):List (κ×V):=
 if(kvs.any fun kv=>decide (kv.1=k))=true then kvs.map (fun kv=>if kv.1=k then(kv.1,v) else kv) else kvs++[(k,v)]
def O'(kvs:List (κ×V))(k:κ):List (κ×V):=kvs.filter fun kv=>decide (kv.1≠k)
def og{p:κ×V}{r:List (κ×V)}{k:κ}(e:p.1=k):bv (p::r) k=some p.2:=by simp[bv,PL,e]
def oh{p:κ×V}{r:List (κ×V)}{k:κ}(e:¬p.1=k):bv (p::r) k=bv r k:=by simp[bv,PL,e]
def oq(k:κ):∀kvs:List (κ×V),(kvs.any fun kv=>decide (kv.1=k))=(bv kvs k).isSome
 |[]=>rfl
 |p::r=>by
  rw[QX]
  by_cases e:p.1=k
  ·simp only[og e,Sc e,Bool.true_or,Option.isSome_some]
  ·rw[oh e,Sd e,Bool.false_or];exact oq k r
def xp(kvs:List (κ×V))(k:κ)(v:V):(putK kvs k v).length<=kvs.length+1:=by
 unfold putK;split
 ·rw[Ab];omega
 ·rw[Ap,At,Pz];omega
def RelO.isSome_eq{o:Option V}{u:Option Value}(r:RelO o u):o.isSome=u.isSome:=by
 cases o with
 |none=>cases u with
  |none=>rfl
  |some _=>exact(show False from r).elim
 |some _=>cases u with
  |none=>exact(show False from r).elim
  |some _=>rfl
def RelO.getD{o:Option V}{u:Option Value}{d:V}{d':Value}(r:RelO o u)(a:RelV d d'):RelV (o.getD d) (u.getD d'):=by
 cases o with
 |none=>cases u with
  |none=>exact a
  |some _=>exact(show False from r).elim
 |some _=>cases u with
  |none=>exact(show False from r).elim
  |some _=>exact r
def KV.val{kvs:List (κ×V)}{vs:List (κ×Value)}(r:KV kvs vs)(k:κ):RelO (bv kvs k) (valueAt vs k):=by
 unfold KV at r
 induction r with
 |nil=>exact True.intro
 |@cons p q ps a h t c=>
  obtain⟨h1,h2⟩:=h
  by_cases e:p.1=k
  ·have e':q.1=k:=h1.symm.trans e
   have b:valueAt (q::a) k=some q.2:=by simp[valueAt,PL,e']
   rw[og e,b];exact h2
  ·have e':¬q.1=k:=fun z=>e (h1.trans z)
   have b:valueAt (q::a) k=valueAt a k:=by simp[valueAt,PL,e']
   rw[oh e,b];exact c
def KV.any{kvs:List (κ×V)}{vs:List (κ×Value)}(r:KV kvs vs)(k:κ):(kvs.any fun kv=>decide (kv.1=k))=vs.any fun kv=>decide (kv.1=k):=by
 unfold KV at r
 induction r with
 |nil=>rfl
 |cons h t ih=>rw[QX,QX,ih,h.1]
def KV.repl{kvs:List (κ×V)}{vs:List (κ×Value)}(r:KV kvs vs)(k:κ){y:V}{u:Value}(a:RelV y u):KV (kvs.map fun kv=>if kv.1=k then(kv.1,y) else kv) (vs.map fun kv=>if kv.1=k then(kv.1,u) else kv):=by
 unfold KV at r ⊢
 induction r with
 |nil=>exact .nil
 |@cons p q ps qs h t ih=>
  rw[As,As];refine .cons ?_ ih;obtain⟨h1,h2⟩:=h
  by_cases e:p.1=k
  ·rw[Sa e,Sa (h1.symm.trans e)];exact⟨h1,a⟩
  ·rw[Sb e,Sb (fun z=>e (h1.trans z))];exact⟨h1,h2⟩
def KV.put{kvs:List (κ×V)}{vs:List (κ×Value)}(r:KV kvs vs)(k:κ){y:V}{u:Value}(a:RelV y u):KV (putK kvs k y) (stored vs k u):=by
 unfold putK stored;rw[r.any k]
 by_cases e:(vs.any fun kv=>decide (kv.1=k))=true
 ·rw[Sa e,Sa e];exact r.repl k a
 ·rw[Sb e,Sb e];exact Paired.snoc r ⟨rfl,a⟩
def KV.length{kvs:List (κ×V)}{vs:List (κ×Value)}(r:KV kvs vs):kvs.length=vs.length:=AY r
end
def ot{P:Program}{w:World}{k:Key}{u:Value}(r:RelV (kV k) u):(zr P w).is k u=true:=by
 cases k with
 |inl i=>obtain⟨t,e⟩:=(show ∃t,u=Value.int i t from r);subst e;exact uy P w i t
 |inr x=>obtain⟨t,e⟩:=(show ∃t,u=Value.str x t from r);subst e;exact IK P w x t
def EH{P:Program}{w:World}:∀{ks:List Key}{us:List Value},Vals (ks.map kV) us->ItemsAre (zr P w) ks us
 |[],_,r=>by rw[Q8] at r;cases r;exact .nil
 |k::ks,_,r=>by
  rw[As] at r;cases r with
  |cons h t=>exact .cons (ot h) (EH t)
abbrev KT(H:Hp):List (List Key×V)->List (List Key×Addr×Value)->Prop:=Paired fun p q=>p.1=q.1/\H q.2.1=some (.tup (p.1.map kV))/\RelV p.2 q.2.2
def KT.val{H:Hp}{kvs:List (List Key×V)}{xs:List (List Key×Addr×Value)}(r:KT H kvs xs)(k:List Key):RelO (bv kvs k) ((atKey xs k).map (·.2)):=by
 induction r with
 |nil=>exact True.intro
 |@cons p q ps a h t c=>
  obtain⟨h1,_,h2⟩:=h
  by_cases e:p.1=k
  ·have e':q.1=k:=h1.symm.trans e
   have b:atKey (q::a) k=some q.2:=by simp[atKey,PL,e']
   rw[og e,b];exact h2
  ·have e':¬q.1=k:=fun z=>e (h1.trans z)
   have b:atKey (q::a) k=atKey a k:=by simp[atKey,PL,e']
   rw[oh e,b];exact c
def KT.repl{H:Hp}{kvs:List (List Key×V)}{xs:List (List Key×Addr×Value)}(r:KT H kvs xs)(k:List Key){y:V}{u:Value}(b:RelV y u):KT H (kvs.map fun kv=>if kv.1=k then(kv.1,y) else kv) (xs.map (putAt k u)):=by
 induction r with
 |nil=>exact .nil
 |@cons p q ps qs h t ih=>
  rw[As,As];refine .cons ?_ ih;obtain⟨h1,h2,a⟩:=h;unfold putAt
  by_cases e:p.1=k
  ·rw[Sa e,Sa (h1.symm.trans e)];exact⟨h1,h2,b⟩
  ·rw[Sb e,Sb (fun z=>e (h1.trans z))];exact⟨h1,h2,a⟩
def KT.put{H:Hp}{kvs:List (List Key×V)}{xs:List (List Key×Addr×Value)}(r:KT H kvs xs)(k:List Key){b:Addr}{y:V}{u:Value}(hb:H b=some (.tup (k.map kV)))(a:RelV y u):KT H (putK kvs k y) (storedH xs k b u):=by
 have e:(kvs.any fun kv=>decide (kv.1=k))=(atKey xs k).isSome:=by
  rw[oq,(r.val k).isSome_eq,Option.isSome_map]
 unfold putK storedH;rw[e]
 by_cases q:(atKey xs k).isSome=true
 ·rw[Sa q,Sa q];exact r.repl k a
 ·rw[Sb q,Sb q];exact Paired.snoc r ⟨rfl,hb,a⟩
def KT.keeps{H H':Hp}{kvs:List (List Key×V)}{xs:List (List Key×Addr×Value)}(r:KT H kvs xs)(ht:∀b ys,H b=some (.tup ys)->H' b=some (.tup ys)):KT H' kvs xs:=
 Paired.mapP r fun _ _ z=>⟨z.1,ht _ _ z.2.1,z.2.2⟩
section
variable{P:Program}{w:World}{H:Hp}{h:Heap}{a:Addr}
def EI{u:HO}(ok:HOk P w H h)(e:Rd H a u):zw P w H h a u:=e.ok ok
def mf{kvs:List (Key×V)}(ok:HOk P w H h)(e:Rd H a (.dK kvs)):kvs.length<=sizeLine/\(a==sysModules)=false/\∃vs,KV kvs vs/\h.DictOf (zr P w) a vs:=
 show zw P w H h a (.dK kvs) from EI ok e
def xC{kvs:List (Key×V)}(ok:HOk P w H h)(e:H a=some (.dK kvs)):kvs.length<=sizeLine/\(a==sysModules)=false/\∃vs,KV kvs vs/\h.DictOf (zr P w) a vs:=mf ok (.inl e)
def kz{ks:List Key}(ok:HOk P w H h)(e:H a=some (.tup (ks.map kV))):(tupleKind (zr P w)).is h ks a:=by
 obtain⟨_,ae,r,o,h1,h2,n,b⟩:=(show zw P w H h a (.tup (ks.map kV)) from ok a _ e);exact⟨o,ae.toArray,n,h1,h2,b,by simpa using EH r⟩
def mh{kvs:List (List Key×V)}(ok:HOk P w H h)(e:Rd H a (.dT kvs)):kvs.length<=sizeLine/\(a==sysModules)=false/\
  ∃xs,KT H kvs xs/\h.DictOfH (tupleKind (zr P w)) a xs:=by
 obtain⟨z,y,xs,r,o,es,ep,h1,h2,b,c,d⟩:=(show zw P w H h a (.dT kvs) from EI ok e);refine⟨z,y,xs,r,o,es,ep,h1,h2,b,c,fun x hx=>?_,d⟩;have all:∀{l:List (List Key×V)}{m:List (List Key×Addr×Value)},KT H l m->∀x∈m,(tupleKind (zr P w)).is h x.1 x.2.1:=by
  intro l m q
  induction q with
  |nil=>intro x hx;exact nomatch hx
  |@cons p q ps qs hq t ih=>
   intro x hx;rcases Pa.mp hx with e|hx
   ·subst e
    exact kz ok (by rw[<-hq.1];exact hq.2.1)
   ·exact ih x hx
 exact all r x hx
def EJ{kvs:List (List Key×V)}(ok:HOk P w H h)(e:H a=some (.dT kvs)):kvs.length<=sizeLine/\(a==sysModules)=false/\
  ∃xs,KT H kvs xs/\h.DictOfH (tupleKind (zr P w)) a xs:=mh ok (.inl e)
end
def DGet(H:Hp)(a:Addr)(y:V)(r:Option V):Prop:=
 (∃kvs k,Rd H a (.dK kvs)/\y=kV k/\r=bv kvs k)\/∃kvs k b,Rd H a (.dT kvs)/\y=.ref b/\H b=some (.tup (k.map kV))/\r=bv kvs k
def DPut(H:Hp)(a:Addr)(y v:V)(H':Hp):Prop:=
 (∃kvs k,H a=some (.dK kvs)/\y=kV k/\kvs.length<sizeLine/\H'=upd H a (.dK (putK kvs k v))) \/
 ∃kvs k b,H a=some (.dT kvs)/\y=.ref b/\H b=some (.tup (k.map kV))/\kvs.length<sizeLine/\H'=upd H a (.dT (putK kvs k v))
def DGet.k{H:Hp}{a:Addr}{kvs:List (Key×V)}{k:Key}(e:H a=some (.dK kvs)):DGet H a (kV k) (bv kvs k):=.inl ⟨kvs,k,.inl e,rfl,rfl⟩
def DGet.t{H:Hp}{a b:Addr}{kvs:List (List Key×V)}{k:List Key}(e:H a=some (.dT kvs))(c:H b=some (.tup (k.map kV))):DGet H a (.ref b) (bv kvs k):=.inr ⟨kvs,k,b,.inl e,rfl,c,rfl⟩
def DPut.k{H:Hp}{a:Addr}{kvs:List (Key×V)}{k:Key}{v:V}(e:H a=some (.dK kvs))(b:kvs.length<sizeLine):DPut H a (kV k) v (upd H a (.dK (putK kvs k v))):=.inl ⟨kvs,k,e,rfl,b,rfl⟩
def DPut.t{H:Hp}{a b:Addr}{kvs:List (List Key×V)}{k:List Key}{v:V}(e:H a=some (.dT kvs))(c:H b=some (.tup (k.map kV)))(d:kvs.length<sizeLine):DPut H a (.ref b) v (upd H a (.dT (putK kvs k v))):=.inr ⟨kvs,k,b,e,rfl,c,d,rfl⟩
section
variable{X:Cx}{aa:Ψ}{σ:St}{H:Hp}{s:Shared}{a:Addr}{y v:V}{u r:Value}{o:Option V}{A:Around}{E:Ω}
def Inv.big(I:Inv X aa σ H s):sysModules<s⁻¹:=by
 have h:mainGlobals<s⁻¹:=(I.mod.glob.keeps I.bk).lt;exact QN ξ h
def JK{Q:Ω}(hu:A.units+1<cLine)(I:Inv X aa σ H s)(g:DGet H a y (some v))(j:RelV y u)(h:∀d s',Inv X aa σ H s'->RelV v d->Q d s'):wpAny (model X.prog X.w) A (getItem (.ref a) u) Q E s:=by
 rcases g with ⟨kvs,k,e,f,l⟩|⟨kvs,k,b,e,f,q,l⟩
 ·subst f
  obtain⟨z,hd,vs,c,dd⟩:=mf I.hok e;obtain⟨d,hw,i⟩:=RelO.some_of (v:=v) (o:=valueAt vs k) (by rw[l];exact c.val k);exact wpAny_getItem_of (ot j) dd.mapOf hw (h d _ (I.tok _) i)
 ·subst f
  cases(show u=Value.ref b from j);obtain⟨z,hd,xs,c,dd⟩:=mh I.hok e;obtain⟨d,hw,i⟩:=RelO.some_of (v:=v) (o:=(atKey xs k).map (·.2)) (by rw[l];exact c.val k);obtain⟨p,hp,r⟩:=P9.mp hw;refine wpAny_getItem_heap (tupleKind_room_in1 hu) (kz I.hok q) dd hp ?_;rw[r];exact h d _ (I.tok _) i
def xH{Q:Ω}(hu:A.units+1<cLine)(I:Inv X aa σ H s)(g:DGet H a y o)(f:RelV y u)(h:∀s',Inv X aa σ H s'->Q (.bool o.isSome) s'):wpAny (model X.prog X.w) A (compareOp .In u (.ref a)) Q E s:=by
 rcases g with ⟨kvs,k,e,d,l⟩|⟨kvs,k,b,e,d,i,l⟩
 ·subst d
  obtain⟨z,hd,vs,c,dd⟩:=mf I.hok e;refine wpAny_in_of (ot f) hd dd.mapOf ?_;rw[<-(c.val k).isSome_eq,<-l];exact h _ (I.tok _)
 ·subst d
  cases(show u=Value.ref b from f);obtain⟨z,hd,xs,c,dd⟩:=mh I.hok e;refine wpAny_in_heap (tupleKind_room_in1 hu) (kz I.hok i) hd dd ?_;have q:=(c.val k).isSome_eq;rw[Option.isSome_map] at q;rw[<-q,<-l];exact h _ (I.tok _)
def qM{h':Heap}{t':Nat}{ob:HO}(I:Inv X aa σ H s)(c:nE (H a))(d:Heap.SameBut a s.heap h')(he:∃q,h'.get? a=some q)(new:zw X.prog X.w (upd H a ob) h' a ob):Inv X aa σ (upd H a ob) {s with heap:=h',toks:=t'}:=
 I.write (x:=a) (e:=a) c (.inl rfl) (fun b q hb z=>(d.2 b hb).trans z) he new
def dk_new{P:Program}{w:World}{H':Hp}{h':Heap}{kvs:List (Key×V)}{vs:List (Key×Value)}(z:kvs.length<=sizeLine)(hd:(a==sysModules)=false)(b:KV kvs vs)(dd:h'.DictOf (zr P w) a vs):zw P w H' h' a (.dK kvs):=⟨z,hd,vs,b,dd⟩
def JL{H':Hp}{Q:Unit->Shared->Prop}(hu:A.units+1<cLine)(I:Inv X aa σ H s)(g:DPut H a y v H')(F:RelV y u)(x:RelV v r)(h:∀s',Inv X aa σ H' s'->Q () s'):wpAny (model X.prog X.w) A (setItem (.ref a) u r) Q E s:=by
 rcases g with ⟨kvs,k,e,o,l,p⟩|⟨kvs,k,b,e,o,C,l,p⟩
 ·subst o p
  obtain⟨z,hd,vs,d,dd⟩:=xC I.hok e;have hz:vs.length<=sizeLine:=by rw[<-d.length];exact z
  have j:(putK kvs k v).length<=sizeLine:=by have:=xp kvs k v;omega
  refine wpAny_setItem_pairs (hsz:=hz) (ot F) dd fun h' f i=>h _ ?_;have he:∃q,h'.get? a=some q:=let ⟨q,_,_,hq,_⟩:=f;⟨q,hq⟩;exact qM I (by rw[e];exact True.intro) i he (dk_new j hd (d.put k x) f)
 ·subst o p
  cases(show u=Value.ref b from F);obtain⟨z,hd,xs,d,dd⟩:=EJ I.hok e;have hz:xs.length<=sizeLine:=by rw[<-AY d];exact z
  have j:(putK kvs k v).length<=sizeLine:=by have:=xp kvs k v;omega
  refine wpAny_setItem_heap (hsz:=hz) (tupleKind_room_in1 hu) (kz I.hok C) dd fun h' f i=>h _ ?_;obtain⟨q,es,ep,hq,h2,G,J,_,L⟩:=f;refine qM I (by rw[e];exact True.intro) i ⟨q,hq⟩ ⟨j,hd,_,(d.put k C x).keeps fun c ys D=>?_,q,es,ep,hq,h2,G,J,L⟩;rw[al (a7 D e (fun z=>nomatch z))];exact D
end
def ou(i:Expr):Prop:=∀a b,subscripted i false a b=operate [a,b] (getItem a b)
def JM{prog:Program}{w:World}{A:Around}{E:Ω}{s:Shared}{env:Env}{aM slice:Expr}{pos:Pos}{T id:String}{Q:Ω}(j:typeLookup (.type T) "__getitem__"=pure (some (.builtin id)))(l:ou slice)(h:wpAny (model prog w) A (eval aM env) (fun o c=>wpAny (model prog w) A (eval slice env) (fun i a=>a.TypeIs o T/\wpAny (model prog w) A (getItem o i) Q E a) E c) E s):wpAny (model prog w) A (eval (.Subscript aM slice pos) env) Q E s:=by
 refine Subscript_ (wpAny_mono h (fun o c f=>wpAny_mono f (fun i a b=>?_) fun _ _ x=>x) fun _ _ x=>x);obtain⟨e,b⟩:=b;unfold subscriptTail;refine Aa ?_;rw[getitemInPython_of_ne e.not_modules];refine Aa (wpAny_specialOf e j ?_);have fin:wpAny (model prog w) A (subscripted slice false o i) (fun r d=>wpAny (model prog w) A (letTemporaryGo aM o r >>= fun _=>pure r) Q E d) E a:=by
  rw[l o i];exact wpAny_operating (wpAny_mono b (fun r d g=>Aa (wpAny_letTemporaryGo (Ae g))) fun _ _ x=>x)
 first
  |exact Ae (Aa fin)
  |exact Aa (Ae (Aa fin))
  |exact Aa fin
def JN{X:Cx}{aa:Ψ}{σ:St}{H:Hp}{s:Shared}{a:Addr}{y:V}{o:Option V}(I:Inv X aa σ H s)(g:DGet H a y o):s.TypeIs (.ref a) "dict":=by
 rcases g with ⟨kvs,k,e,_,_⟩|⟨kvs,k,b,e,_,_,_⟩
 ·obtain⟨_,_,vs,_,dd⟩:=mf I.hok e
  exact dd.typeIs
 ·obtain⟨_,_,xs,_,dd⟩:=mh I.hok e
  exact dd.typeIs
def gf(td ty:TE):TE:=fun σ H Q=>td σ H fun x H1=>ty σ H1 fun y H2=>∃a v,x=.ref a/\DGet H2 a y (some v)/\Q v H2
def kA(ty td:TE):TE:=fun σ H Q=>ty σ H fun y H1=>td σ H1 fun x H2=>∃a o,x=.ref a/\DGet H2 a y o/\Q (.bl o.isSome) H2
def JO(td ty tv:TE):TS:=fun D σ H=>tv σ H fun v H1=>td σ H1 fun x H2=>ty σ H2 fun y c=>∃a b,x=.ref a/\DPut c a y v b/\D.nx σ b
section
variable{X:Cx}{o i e aM:Expr}{pos aQ eh:Pos}{td ty tv:TE}
def zC(hu:X.A.units+1<cLine)(p:PE X o td)(hi:PE X i ty)(q:ou i):PE X (.Subscript o i pos) (gf td ty):=by
 intro aa s σ H Q I h;refine JM PySem.F.slot_dict_getitem.lookup q (aV (p aa s σ H _ I h) fun u c ⟨x,H1,r,d,e⟩=>aV (hi aa c σ H1 _ r e) fun C D ⟨y,H2,b,f,a,v,ex,g,j⟩=>?_);subst ex;obtain rfl:u=Value.ref a:=d;exact⟨JN b g,JK hu b g f fun E G w l=>⟨v,H2,w,l,j⟩⟩
def xS(hu:X.A.units+1<cLine)(hi:PE X i ty)(l:PE X o td):PC X .In i o (kA ty td):=by
 intro aa s σ H Q I h;refine aV (hi aa s σ H _ I h) fun v b ⟨y,H1,p,c,d⟩=>aV (l aa b σ H1 _ p d) fun u w ⟨x,H2,q,e,a,f,ex,g,j⟩=>?_;subst ex;obtain rfl:u=Value.ref a:=e;exact xH hu q g c fun C r=>⟨.bl f.isSome,H2,r,rfl,j⟩
def hB(hu:X.A.units+1<cLine)(q:PE X o td)(hi:PE X i ty)(w:PE X aM tv)(C:swapsWith aM (some (.Subscript o i aQ)) pos.line X.env=pure false):PS X (.Assign [.Subscript o i aQ] aM pos) (JO td ty tv):=by
 intro aa s σ H D I h;refine wpAny_Assign_Subscript (aV (w aa s σ H _ I h) fun r b ⟨v,H1,E,c,d⟩=>aV (q aa b σ H1 _ E d) fun u e ⟨x,H2,F,f,j⟩=>aV (hi aa e σ H2 _ F j) fun M N ⟨y,P,G,l,a,J,ex,g,p⟩=>?_) C;subst ex;obtain rfl:u=Value.ref a:=f;exact JL hu G g l c fun O L=>⟨σ,J,L,p⟩
end
def JP{P:Program}{w:World}{H:Hp}(h:Heap)(hb:sysModules<h.objs.size):zw P w H (h.push {cls:=.type "dict",data:=.dict #[]}) h.objs.size (.dK []):=
 ⟨AX _,beq_eq_false_iff_ne.mpr (Ne.symm (Ar hb)),[],.nil,Heap.DictOf.new h⟩
def EK{P:Program}{w:World}{H:Hp}(h:Heap)(hb:sysModules<h.objs.size):zw P w H (h.push {cls:=.type "dict",data:=.dict #[]}) h.objs.size (.dT []):=
 ⟨AX _,beq_eq_false_iff_ne.mpr (Ne.symm (Ar hb)),[],.nil,_,#[],0,An _ rfl,⟨rfl,rfl,rfl⟩,rfl,rfl,PV⟩
def JQ:TE:=fun _ H Q=>∀p,H p=none->Q (.ref p) (upd H p (.dK []))
def JR:TE:=fun _ H Q=>∀p,H p=none->Q (.ref p) (upd H p (.dT []))
section
variable{X:Cx}{pos:Pos}
def EL:PE X (.Dict [] [] pos) JQ:=fun aa s σ H Q I h=>
 wpAny_Dict_empty ⟨.ref s⁻¹,_,I.laid (a:=s⁻¹) (o:=.dK []) (t':=s.toks) (fun _ _ q=>Ad _ q) (Af _) (JP s.heap I.big),rfl,h _ (I.hok.fresh (Af _))⟩
def ja:PE X (.Dict [] [] pos) JR:=fun aa s σ H Q I h=>
 wpAny_Dict_empty ⟨.ref s⁻¹,_,I.laid (a:=s⁻¹) (o:=.dT []) (t':=s.toks) (fun _ _ q=>Ad _ q) (Af _) (EK s.heap I.big),rfl,h _ (I.hok.fresh (Af _))⟩
end
def xX:List (TE×TE)->St->Hp->(List (V×V)->Hp->Prop)->Prop
 |[],_,H,Q=>Q [] H
 |(tk,tv)::r,σ,H,Q=>tk σ H fun x H1=>tv σ H1 fun y H2=>xX r σ H2 fun ps a=>Q ((x,y)::ps) a
abbrev VV:List (V×V)->List (Value×Value)->Prop:=Paired fun p q=>RelV p.1 q.1/\RelV p.2 q.2
def x0(X:Cx)(pos:Pos)(a:List (Option Expr))(b:List Expr)(c:List (TE×TE)):Prop:=
 ∀(aa:Ψ)(s:Shared)(σ:St)(H:Hp)(Q:List (V×V)->Hp->Prop),Inv X aa σ H s->xX c σ H Q->
  wpAny (model X.prog X.w) X.A (evalPairs (pairTrees a b X.env pos)) (fun vs s'=>∃ps H',Inv X aa σ H' s'/\VV ps vs/\Q ps H') X.xe s
def JS{X:Cx}{pos:Pos}:x0 X pos [] [] []:=fun aa s σ H Q I h=>pairTrees_nil_walk ⟨[],H,I,.nil,h⟩
def JT{X:Cx}{pos:Pos}{k v:Expr}{ks:List (Option Expr)}{vs:List Expr}{tk tv:TE}{b:List (TE×TE)}(hk:PE X k tk)(l:PE X v tv)(hr:x0 X pos ks vs b):x0 X pos (some k::ks) (v::vs) ((tk,tv)::b):=fun aa s σ H Q I h=>
 pairTrees_cons_walk (aV (hk aa s σ H _ I h) fun u c ⟨x,H1,o,d,e⟩=>aV (l aa c σ H1 _ o e) fun w f ⟨y,H2,p,g,i⟩=>
  aV (hr aa f σ H2 _ p i) fun A C ⟨ps,q,r,a,j⟩=>⟨(x,y)::ps,q,r,.cons ⟨d,g⟩ a,j⟩)
structure M1(X:Cx)(o:Expr)(m:Str)(a9:Pos)(e:Expr)(ay:Pos):Prop where
 base:attributeBase o m X.env (eval o X.env)=eval o X.env
 few:((backTo ay (starEach [e] X.env)).all (fun x=>!x.1)&&(backToKw ay (keywordEach [] X.env)).all (fun x=>x.1.isSome)
  && decide (([e]:List Expr).length+([]:List Keyword).length+(if([]:List Keyword).isEmpty then 0 else 1)<30))=true
 line:(a9.endLine==ay.line)=true
 trees:backTo ay (starEach [e] X.env)=[(false,eval e X.env)]
structure M2(X:Cx)(o:Expr)(m:Str)(a9:Pos)(e f:Expr)(ay:Pos):Prop where
 base:attributeBase o m X.env (eval o X.env)=eval o X.env
 few:((backTo ay (starEach [e,f] X.env)).all (fun x=>!x.1)&&(backToKw ay (keywordEach [] X.env)).all (fun x=>x.1.isSome)
  && decide (([e,f]:List Expr).length+([]:List Keyword).length+(if([]:List Keyword).isEmpty then 0 else 1)<30))=true
 line:(a9.endLine==ay.line)=true
 trees:backTo ay (starEach [e,f] X.env)=[(false,eval e X.env),(false,eval f X.env)]
def IsD(H:Hp)(a:Addr):Prop:=(∃kvs,Rd H a (.dK kvs))\/∃kvs,Rd H a (.dT kvs)
def JU{X:Cx}{aa:Ψ}{σ:St}{H:Hp}{s:Shared}{a:Addr}(I:Inv X aa σ H s)(d:IsD H a):s.TypeIs (.ref a) "dict"/\(∀b,Value.ref a=.ref b->∃ob,s.heap.get? b=some ob/\ob.dict=none)/\(a==sysModules)=false:=by
 rcases d with ⟨kvs,e⟩|⟨kvs,e⟩
 ·obtain⟨_,hd,vs,_,dd⟩:=mf I.hok e
  refine⟨dd.typeIs,fun b q=>?_,hd⟩;cases q;obtain⟨ob,_,_,h1,h2,_⟩:=dd;exact⟨ob,h1,h2.2.1⟩
 ·obtain⟨_,hd,xs,_,dd⟩:=mh I.hok e
  refine⟨dd.typeIs,fun b q=>?_,hd⟩;cases q;obtain⟨ob,_,_,h1,h2,_⟩:=dd;exact⟨ob,h1,h2.2.1⟩
section
variable{X:Cx}{aa:Ψ}{σ:St}{H:Hp}{s:Shared}{a:Addr}{y d:V}{u r:Value}{o:Option V}{A:Around}{E:Ω}
def JV{Q:Ω}(hu:A.units+1<cLine)(I:Inv X aa σ H s)(g:DGet H a y o)(j:RelV y u)(p:RelV d r)(h:∀i s',Inv X aa σ H s'->RelV (o.getD d) i->Q i s'):wpAny (model X.prog X.w) A (call (.builtin "dict.get") [.ref a,u,r]) Q E s:=by
 rcases g with ⟨kvs,k,e,f,l⟩|⟨kvs,k,b,e,f,q,l⟩
 ·subst f
  obtain⟨z,hd,vs,c,dd⟩:=mf I.hok e;refine call_meetsIn Rh dd.typeIs PySem.F.entry_dict_get (PySem.F.args_dict_get_3 _ _ _) (meets_dict_get_default (zr X.prog X.w) a (ot j) hd r) ⟨_,dd.mapOf,h _ _ (I.tok _) ?_⟩;rw[l];exact(c.val k).getD p
 ·subst f
  cases(show u=Value.ref b from j);obtain⟨z,hd,xs,c,dd⟩:=mh I.hok e;refine call_meetsIn Rh dd.typeIs PySem.F.entry_dict_get (PySem.F.args_dict_get_3 _ _ _) (meetsH_dict_get_default (tupleKind (zr X.prog X.w)) a b hd r) ⟨tupleKind_room_in1 hu,k,xs,kz I.hok q,dd,h _ _ (I.tok _) ?_⟩;rw[l];exact(c.val k).getD p
end
def JW(td ty tx:TE):TE:=fun σ H Q=>td σ H fun x H1=>∃a,x=.ref a/\IsD H1 a/\ty σ H1 fun y H2=>tx σ H2 fun z b=>∃o,DGet b a y o/\Q (o.getD z) b
section
variable{X:Cx}{o e f:Expr}{a9 ay:Pos}{td ty tx:TE}
def x5(hu:X.A.units+1<cLine)(E:PE X o td)(he:PE X e ty)(hf:PE X f tx)(m:M2 X o "get" a9 e f ay):PE X (.Call (.Attribute o "get" a9) [e,f] [] ay) (JW td ty tx):=by
 intro aa s σ H Q I h;refine wpAny_Call_method m.base m.few m.line PySem.F.plainAttrs_dict Rh PySem.F.type_dict_get (aV (E aa s σ H _ I h) fun u c ⟨x,H1,b,i,a,ex,d,j⟩=>?_);subst ex;obtain rfl:u=Value.ref a:=i;obtain⟨C,D,_⟩:=JU b d;refine⟨C,D,?_⟩;rw[m.trees];refine Calls.callWith_builtin rfl (Calls.evalArgs_plain (Calls.spliced_cons (aV (he aa c σ H1 _ b j) fun N l ⟨y,H2,G,p,q⟩=>
  Calls.spliced_cons (aV (hf aa l σ H2 _ G q) fun O P ⟨z,J,L,r,S,g,v⟩=>Calls.spliced_nil ?_))))
 exact JV hu L g p r fun T U M w=>⟨_,J,M,w,v⟩
end
end L2
namespace Att
open PySem PySem.W PySem.Calls PyProof.Rows
def JX{P:Params}{h:Heap}:∀(ns:List Int)(vs:List Value),WellAll P h vs (ns.map WData.int)->IntsAre vs ns:=by
 intro ns
 induction ns with
 |nil=>
  intro vs w;rw[Q8] at w;cases w;exact .nil
 |cons n ns ih=>
  intro vs w;rw[As] at w;cases w with
  |cons a b=>
   cases a;exact .cons _ _ (ih _ b)
def JY{l:OpenLaw}{n:Nat}(p:l.most=some n){P:Params}{h:Heap}{args:List WData}{g:List Value}(i:l.row.toRowW.claim.pre args=true)(u:WellAll P h g args):∃a vs ns,g=[Value.ref a]/\args=[WData.list (ns.map WData.int)]/\h.get? a=some {cls:=.type "list",data:=.seq vs.toArray}/\IntsAre vs ns/\ns.length<=n:=by
 have f:WShape.hasAll [] args [.list .int]=true:=(pre_splitW i).1;have hc:l.pre.holds [] {args:=args}=true:=(pre_splitW i).2;obtain⟨d,r,rfl,h1,h2⟩:=hasAllW_cons f;obtain rfl:=hasAllW_nil h2;obtain⟨xs,rfl,j⟩:=hasW_list h1;obtain⟨ns,rfl⟩:=items_int j;have b:ns.length<=n:=by
  unfold OpenLaw.pre at hc;have c:(WTm.not (.lt (.lit (.int (n:Int))) (.len (.arg 0)))).holds [] {args:=[.list (ns.map .int)]}=true:=by
   have c:=(holds_andW hc).1;rw[p] at c;exact c
  have e:=condW_of c (w_not (w_lt w_lit (w_len_list (w_arg rfl))));rw[Ab] at e;refine RW fun q=>?_;have o:(n:Int)<((ns.length:Nat):Int):=ω
  first
   |(rw[Sc o] at e;exact absurd e ξ)
   |(simp at e;omega)
 cases u with
 |cons w1 w2=>
  cases w2;cases w1 with
  |list ho hall=>exact⟨_,_,ns,rfl,rfl,ho,JX ns _ hall,b⟩
def JZ(l:OpenLaw)(args:List WData):l.row.toRowW.claim.post args (.bool true) args=true:=
 postW_of (r:=l.row.toRowW) (X:=(true==true))
  (show WShape.has [] (.bool true) .bool=true by first|rfl|decide|simp[WShape.has,WShape.arms,WShape.armsAll])
  (show(WTm.eq .res (.lit (.bool true))).value [] {args:=args,res:=some (.bool true),after:=args}=some (.bool (true==true)) from w_eq_bool (w_res rfl) w_lit) rfl
def EM{l:OpenLaw}{n:Nat}{q:Program}{p:List Str}{u:(Str->Option Value)->Heap->Prop}{v:World->Heap->Prop}{d:DefRec}(M:l.most=some n)(N:d.params.defaults=[])(call:∀(w:World)(s₀ b:Shared)(mg g:Str->Option Value)(fa:Addr)(o:Obj)(h e i:Value)(a:Addr)(vs:List Value)(ns:List Int),
   Ground q p [] u w s₀ mg g b.heap->v w b.heap->
   b.heap.get? fa=some o->o.data=.func (docDef d.name d.params d.body d.scope h e i)->b.heap.CodeRec e d.name->mg d.name=some (.ref fa)->
   b.heap.get? a=some {cls:=.type "list",data:=.seq vs.toArray}->IntsAre vs ns->ns.length<=n->b.gens=#[]->
   codeAny (model l.prog w) callerA (.call (.ref fa) ⟨[.ref a],[]⟩) (fun r s'=>r=.ok (.ret (.bool true))/\OldK b.heap s'.heap/\s'.os=b.os/\AllBare s'.gens) b):
  WalkO q p u v l.row.toRowW d [] (fun f vs=>PySem.call f vs):=by
 intro w s₀ b mg g G Y fa o h e i x kV y hd A j C D args O as E P Q F S;obtain rfl:x=.none:=Dflts.none j N;obtain rfl:kV=.none:=Dflts.noKw j;obtain⟨a,vs,ns,rfl,rfl,H,I,c⟩:=JY M E F;refine enter_call (codeAny_mono (call w s₀ b mg g fa o h e i a vs ns G Y y (fd_plain hd) A C H I c D) fun r s' hq=>?_);obtain⟨rfl,h2,J,L⟩:=hq;exact⟨.inl ⟨.bool true,.bool true,[],rfl,fun _=>rfl,.bool true,JZ l _,fun _=>⟨List.Pairwise.nil,fun _ hm=>(nomatch hm)⟩⟩,h2,J,L⟩
section
variable{prog:Program}{w:World}{A:Around}{E:Ω}{s:Shared}{K:Frag}
def ledger(h:Heap)(L d:Addr):Ψ:=(AI h.objs.size).filterMap fun a=>if a=L\/a=d then none else(h.get? a).map fun o=>(a,o)
end
end Att
namespace L2
open PySem PySem.Spec PyProof.Rows
def ya:∀{vs:List Value}{ns:List Int},IntsAre vs ns->Vals (ns.map V.int) vs
 |_,_,.nil=>.nil
 |_,_,.cons n t h=>.cons ⟨t,rfl⟩ (ya h)
def kF(H:Hp):Prop:=∀b,H b=none\/∃o xs,H b=some (.frz o (.lst xs))
def J0{P:Program}{w:World}{K:Ac}{mg y:Str->Option Value}{CX:eD}{k:Nat}{fa a:Addr}{fd:FuncData}{x:Str}{sp:Sp}{c:Shared}{vs:List Value}{ns:List Int}(L:K.In c.heap)(I:c.heap.Ns mainGlobals mg)(hb:c.heap.Ns builtinsNs y)(Y:∀x:Str,x≠"__name__"->y x=AV x)(ia:c.heap.NoLimit)(hg:c.gens=#[])(ha:c.heap.get? a=some {cls:=.type "list",data:=.seq vs.toArray})(hi:IntsAre vs ns)(J:ns.length<=sizeLine)(hr:Room k callerA)(F:∀base:Heap,K.In base->base.Ns mainGlobals mg->FnOk P w K mg base CX k fa fd [x] sp)(dX:∀(s:Shared)(u:Value),BindsTo s fd ⟨[u],[]⟩ [(x,u)])(bE:∀H:Hp,kF H->SqL K H a (ns.map V.int)->sp [.ref a] H (fun v _=>v=.bl true) fun _ _ _=>False)(iw:∀H e s',CX [] H c (fun _ _ _=>False) e s'->False):codeAny (model P w) callerA (.call (.ref fa) ⟨[.ref a],[]⟩) (fun r s'=>r=.ok (.ret (.bool true))/\OldK c.heap s'.heap/\s'.os=c.os/\AllBare s'.gens) c:=by
 have D:=ya hi;have S:=hi.length;have g:∀H:Hp,kF H->SqL K H a (ns.map V.int)->HOk P w H c.heap->(∀b,H b≠none->b=a)->(H a≠none->K.lookup a=none)->
   codeAny (model P w) callerA (.call (.ref fa) ⟨[.ref a],[]⟩) (fun r s'=>r=.ok (.ret (.bool true))/\OldK c.heap s'.heap/\s'.os=c.os/\AllBare s'.gens) c:=by
  intro H A M i C N;have E:∀{b:Addr}{o:Obj},c.heap.get? b=some o->H b=none->(cI c.heap H).get? b=some o:=fun e n=>D6 e n;have p:∀{b:Addr}{o:Obj}{es:Array DictEntry}{ep:Nat},c.heap.get? b=some o->o.data=.dict es ep->H b=none:=fun{b o es ep} e d=>by
   cases q:H b with
   |none=>rfl
   |some u=>
    have e':b=a:=C b (by rw[q];simp);subst e';rw[ha] at e;cases e;have d':Data.seq vs.toArray _=Data.dict es ep:=d;cases d'
  have f:∀{b:Addr}{m:Str->Option Value},c.heap.Ns b m->(cI c.heap H).Ns b m:=fun{b m} ⟨o,es,ep,e,d,r⟩=>⟨o,es,ep,E e (p e d),d,r⟩;have G:K.In (cI c.heap H):=fun b o e=>E (L b o e) (by
   cases q:H b with
   |none=>rfl
   |some u=>
    have e':b=a:=C b (by rw[q];simp);subst e';rw[N (by rw[q];simp)] at e;cases e)
  have T:Mod K mg (cI c.heap H):=⟨G,f I,⟨y,f hb,Y⟩,let ⟨mc,h1,h2⟩:=ia;⟨mc,f h1,h2⟩⟩;have U:Env0 P w K mg (cI c.heap H) callerA [] c H:=⟨rfl,T,fun b o e=>D8 e,Nat.le_of_eq (D0 _ _),trivial,fun b hb=>absurd (show b∈([]:List Addr) from hb) (by simp),i,.of_eq hg⟩;refine codeAny_mono ((F _ G (f I)).run callerA [] c H ⟨[.ref a],[]⟩ [.ref a] [.ref a] _ _ hr U (dX c (.ref a)) (.cons rfl .nil) (bE H A M)) fun r s' h=>?_;cases r with
  |error e=>exact(iw H e s' h).elim
  |ok fl=>
   cases fl with
   |next=>exact False.elim h
   |brk=>exact False.elim h
   |cont=>exact False.elim h
   |ret u=>
    obtain⟨v,H',os,j,un,O,Q,q⟩:=h;have W:v=.bl true:=q;subst W;obtain rfl:u=Value.bool true:=Q;refine⟨rfl,OldK.of_keep fun b o e=>?_,os,j⟩;cases q:H b with
    |none=>exact un.keep b o e q (by intro z;exact absurd (show b∈([]:List Addr) from z) (by simp)) (by simp)
    |some u=>
     rcases A b with z|⟨ob,xs,z⟩
     ·rw[q] at z;cases z
     ·have X:=un.frzs b ob _ z
      obtain⟨e1,_⟩:=i b _ z;obtain⟨e2,_⟩:=O b _ X;rw[e] at e1;cases e1;exact e2
 cases hk:K.lookup a with
 |some o=>
  have e:=L a o hk;rw[ha] at e;cases e;refine g (fun _=>none) (fun _=>.inl rfl) (.inr ⟨_,vs.toArray,_,hk,rfl,rfl,rfl,by rw[Al,S];exact J,by simpa using D⟩) (fun b u z=>by have l:(none:Option HO)=some u:=z;cases l) (fun b z=>absurd rfl z) fun z=>absurd rfl z
 |none=>
  refine g (fun b=>if b=a then some (.frz {cls:=.type "list",data:=.seq vs.toArray} (.lst (ns.map V.int))) else none) (fun b=>?_) (.inl (.inr ⟨{cls:=.type "list",data:=.seq vs.toArray},Sa rfl⟩)) (fun b u z=>?_) (fun b z=>?_) fun _=>hk
  ·by_cases hb:b=a
   ·exact .inr ⟨_,_,Sa hb⟩
   ·exact .inl (Sb hb)
  ·by_cases hb:b=a
   ·have l:=(Sa hb).symm.trans z
    cases l;subst hb;exact⟨ha,by rw[Ab];exact J,vs,_,D,ha⟩
   ·have l:=(Sb hb).symm.trans z
    cases l
  ·by_cases hb:b=a
   ·exact hb
   ·exact absurd (Sb hb) z
abbrev EN{K:Ac}{h:Heap}(_:K.In h):Ac:=K
def J1{l:PySem.W.OpenLaw}{n k:Nat}{q:Program}{J:List Str}{S:(Str->Option Value)->Heap->Prop}{j:World->Heap->Prop}{d:DefRec}{K:Params->Ac}{CX:World->eD}{sp:World->Sp}{x:Str}(L:l.most=some n)(M:n<=sizeLine)(N:d.params.defaults=[])(hr:Room k callerA)(O:∀(w:World)(h:Heap),j w h->(K w.params).In h)(F:∀(w:World)(mg:Str->Option Value)(fa:Addr)(h:Heap),(K w.params).In h->h.Ns mainGlobals mg->mg d.name=some (.ref fa)->
   ∃fd:FuncData,(∀(s:Shared)(u:Value),BindsTo s fd ⟨[u],[]⟩ [(x,u)])/\
    ∀base:Heap,(K w.params).In base->base.Ns mainGlobals mg->FnOk l.prog w (K w.params) mg base (CX w) k fa fd [x] (sp w))
  (P:∀(w:World)(H:Hp)(a:Addr)(ns:List Int),ns.length<=n->kF H->SqL (K w.params) H a (ns.map V.int)->sp w [.ref a] H (fun v _=>v=.bl true) fun _ _ _=>False)
  (Q:∀(w:World)(H:Hp)(s:Shared)(e:Value)(s':Shared),CX w [] H s (fun _ _ _=>False) e s'->False) :
  PySem.W.WalkO q J S j l.row.toRowW d [] (fun f vs=>PySem.call f vs):=by
 refine Att.EM L N fun w s₀ p mg U fa o X cd ba a vs ns G Y ho hd bf r y A c C=>?_;have i:=O w _ Y;obtain⟨fd,hb,I⟩:=F w mg fa _ i G.T.g r;exact J0 i G.T.g G.T.b G.T.builtins G.T.nolimit C y A (Ay c M) hr I hb (fun H D E=>P w H a ns c D E) fun H e s'=>Q w H p e s'
end L2
/- THE LAST THEOREM (shape;LID,My.* are yours):
  My.Adr: a structure of kG addresses that your layer names (classes,functions);My.Txt K t: a structure (Prop) of kG equations over K;
  My.txt_mk:{K} {implicit addresses ..} (e1:nsIn K mainGlobals "law"=some (some (.ref f))) (e2:K.lookup f=some ⟨oc,od,.func (fnOf "law" "law" bz body scope dV kV ba pm an cdv ct),sl⟩) (e3:codeIn K cdv "law"=true) ..:∃t,My.Txt K t
set_option maxRecDepth 100000 in
set_option maxHeartbeats 0 in
theorem PySem.Challenge.cw_LID_holds:PySem.Challenge.rw_LID.Holds := by
 w_on;o_law;k_head;(case hw=>w_witness2)
 k_fill
 refine L2.J1 (l:=PySem.Challenge.rw_LID) (n:=63) (k:=40) (x:="script") (CX:=fun w=>..) (sp:=fun _=>My.sp_law) rfl ξ rfl ⟨rfl,ξ,ξ⟩ (fun w h Y=>PySem.W.kIn_of Y) ?F ?S ?C
 case F=>
  intro w mg fa h f G g;have T:∃t,My.Txt (L2.EN f) t:=by
   dsimp only[L2.EN]                          -- K must stand as «<heap const> w.params» for k_is
   refine' My.txt_mk ?e1 ?e2 ?e3 ..
   (case e1 => PySem.W.k_is)                    -- in e order: a name -> ae address -> ae object -> ae parts
   (case e2=>PySem.W.k_is)
   ..
  obtain⟨t,T⟩:=T;have i:=g.symm.trans (Qx f G T.law);cases i                                       -- fa is e law's own address
  exact⟨_,fun s u => .of_eq rfl,fun base c d => My.law_fn T c d⟩     -- if «.of_eq rfl» comes too early: refine' ⟨_,?b,fun base c d => My.law_fn T c d⟩;exact fun s u => .of_eq rfl
 case S=>exact fun w H a ns j o p=>..
 case C=>exact ..
(e tactic k_is has q namespace: write k_is) -/
namespace L2
open PySem PySem.Spec PyProof.Rows
def zbV(s:Stmt):Arguments:=match s with
 |.FunctionDef _ a _ _ _ _ _ _ _ _=>a
 |_=>{posonlyargs:=[],args:=[],vararg:=none,kwonlyargs:=[],kw_defaults:=[],kwarg:=none,defaults:=[]}
def zah(s:Stmt):List Stmt:=match s with
 |.FunctionDef _ _ b _ _ _ _ _ _ _=>b
 |_=>[]
def zb(s:Stmt):Scope:=match s with
 |.FunctionDef _ _ _ _ _ _ sc _ _ _=>sc
 |_=>{kind:=.function,names:=[],isGenerator:=false,isCoroutine:=false}
abbrev aR:eD:=fun _ _ _ _ _ _=>False
abbrev E0:XK:=fun _ _ _=>False
def aH{X:Cx}:de aR X E0:=fun _ _ _ _ _ _ _ h=>h.elim
structure Fun(K:Ac)(x af:Str)(st:Stmt)(f:Addr)(fd:FuncData):Prop where
 ex:∃(oc:Value)(od:Option Addr)(kV ba pm:Value)(an:Option Addr)(cdv ct:Value)(bW:Array (Option Value)),
  fd=Qp x af (zbV st) (zah st) (zb st) .none kV ba pm an cdv ct/\K.lookup f=some ⟨oc,od,.func fd,bW⟩/\Q6 K cdv af=true
 kp:QA K (.ref f)=true
section
variable{P:Program}{w:World}{K:Ac}{mg:Str->Option Value}{base:Heap}
def Fun.ok{x a:Str}{st:Stmt}{f:Addr}{fd:FuncData}{N ps:List Str}{k:Nat}{sp:Sp}(F:Fun K x a st f fd)(S:zm N ps (zb st))(len:∀vs H Q E,sp vs H Q E->vs.length=ps.length)(d:∀(cdv:Value)(A:Around)(outer:List Env)(s:Shared)(H:Hp)(vs:List V)(Q:VK)(E:XK),Room k (A.deeper (envOfC a (zb st) s⁻¹ f cdv))->sp vs H Q E->
   ∃t,PSs (cv aR P w K mg base N a (zb st) f cdv A outer s H E).nox (zah st) t/\t {nx:=fun _ H'=>Q .non H',rt:=Q} (start N vs) H):FnOk P w K mg base aR (k+1) f fd ps sp:=by
 obtain⟨e,g,kV,i,j,l,cdv,ct,o,rfl,lk,c⟩:=F.ex;refine wf lk c S len fun A outer s H vs Q E hr b=>?_;obtain⟨t,h,q⟩:=d cdv A outer s H vs Q E hr b;exact⟨t,h.nox,q⟩
def Fun.binds{x d:Str}{st:Stmt}{f:Addr}{fd:FuncData}{ps:List Str}(F:Fun K x d st f fd)(h:∀(kV a b:Value)(c:Option Addr)(cdv ct:Value)(us:List Value),us.length=ps.length->bindArgs (Qp x d (zbV st) (zah st) (zb st) .none kV a b c cdv ct) ⟨us,[]⟩=pure (ps.zip us)):Binds K fd ps []:=by
 obtain⟨e,g,kV,a,b,c,cdv,ct,i,rfl,lk,j⟩:=F.ex;exact .all (h kV a b c cdv ct)
def J2{x a:Str}{st:Stmt}{f:Addr}{h:Value}{i e:Option Addr}{g:Array (Option Value)}{kV b d cdv ct:Value}(l:K.lookup f=some ⟨h,i,.func (Qp x a (zbV st) (zah st) (zb st) .none kV b d e cdv ct),g⟩)(c:Q6 K cdv a=true)(k:QA K (.ref f)=true):Fun K x a st f (Qp x a (zbV st) (zah st) (zb st) .none kV b d e cdv ct):=⟨⟨h,i,kV,b,d,e,cdv,ct,g,rfl,l,c⟩,k⟩
end
def fK{A:Around}{k:Nat}(hr:Room k A):A.units+1<cLine:=Nat.lt_of_le_of_lt (Nat.add_le_add_left (by decide:1<=64) _) hr.units
section
variable{X:Cx}
def pv(i:Nat){x:Str}{pos:Pos}(a:X.N[i]?=some x:=by rfl)(b:nG X.env.scope x:=by first|exact Or.inl rfl|exact Or.inr (Or.inl rfl)|exact Or.inr (Or.inr rfl))(hd:(x==("__debug__":Str))=false:=by decide)
  (c:(x==("__classdict__":Str))=false:=by decide):PE X (.Name x pos) (aw i):=IM a b hd c
end
def aN{A B:Prop}(h:B):if false=true then A else B:=by
 rw[Sb Aq];exact h
def a6{A B:Prop}(h:A):if true=true then A else B:=by
 rw[Sa rfl];exact h
def cP{c A B:Prop}[Decidable c](h1:c->A)(h2:¬c->B):if c then A else B:=by
 by_cases h:c
 ·rw[Sa h]
  exact h1 h
 ·rw[Sb h]
  exact h2 h
def Same(H H':Hp):Prop:=∀b o,H b=some o->H' b=some o
def Same.refl(H:Hp):Same H H:=fun _ _ h=>h
def Same.trans{H H1 H2:Hp}(a:Same H H1)(b:Same H1 H2):Same H H2:=fun c o h=>b c o (a c o h)
def Same.free{H H':Hp}(e:Same H H'){l:Addr}(h:H' l=Option.none):H l=Option.none:=by
 cases q:H l with
 |none=>rfl
 |some o=>
  rw[e l o q] at h;cases h
def Same.seq{K:Ac}{H H':Hp}{a:Addr}{xs:List V}(e:Same H H')(h:SqL K H a xs):SqL K H' a xs:=by
 rcases h with (h|⟨o,h⟩)|h
 ·exact .inl (.inl (e _ _ h))
 ·exact .inl (.inr ⟨o,e _ _ h⟩)
 ·exact .inr h
end L2
end
section
namespace Tim
open PySem PyProof.Rows
def R(ρ:Keyed->Int)(xs:Array Keyed)(i:Nat):Int:=match xs[i]? with
 |some p=>ρ p
 |none=>0
def ow{ρ:Keyed->Int}{xs ys:Array Keyed}{i j:Nat}(h:xs[i]?=ys[j]?):R ρ xs i=R ρ ys j:=by unfold R;rw[h]
def je{ρ:Keyed->Int}{xs:Array Keyed}{i:Nat}{p:Keyed}(h:xs[i]?=some p):R ρ xs i=ρ p:=by unfold R;rw[h]
def cx(ρ:Keyed->Int)(xs:Array Keyed)(lo hi:Nat):Prop:=∀i j,lo<=i->i<=j->j<hi->R ρ xs i<=R ρ xs j
def mi(ρ:Keyed->Int)(xs:Array Keyed)(lo hi:Nat):Prop:=∀i j,lo<=i->i<=j->j<hi->R ρ xs j<=R ρ xs i
def yb{ρ:Keyed->Int}{xs:Array Keyed}{i j:Nat}(a:j<=xs.size)(k:Nat):R ρ (mirror xs i j ((j-i) / 2)) k=if i<=k/\k<j then R ρ xs (i+j-1-k) else R ρ xs k:=by
 have e:=getElem?_mirror_all (i:=i) a k
 by_cases h1:i<=k/\k<j
 ·rw[Sa h1] at e ⊢;exact ow e
 ·rw[Sb h1] at e ⊢;exact ow e
def zT{ρ:Keyed->Int}{xs:Array Keyed}{i j:Nat}(b:j<=xs.size)(a:∀k,i<=k->k<j->R ρ xs k=R ρ xs (j-1))(k:Nat):R ρ (mirror xs i j ((j-i) / 2)) k=R ρ xs k:=by
 rw[yb b];split
 ·rw[a _ ω ω,a k ω ω]
 ·rfl
def EO{ρ:Keyed->Int}{xs:Array Keyed}{src d:Nat}(a:src<xs.size)(hd:d<=src)(k:Nat):R ρ (bubble xs src d) k=if k=src-d then R ρ xs src else if src-d<k/\k<=src then R ρ xs (k-1) else R ρ xs k:=by
 have e:=getElem?_bubble a d hd k
 by_cases h1:k=src-d
 ·rw[Sa h1] at e ⊢;exact ow e
 ·rw[Sb h1] at e ⊢
  by_cases h2:src-d<k/\k<=src
  ·rw[Sa h2] at e ⊢;exact ow e
  ·rw[Sb h2] at e ⊢;exact ow e
structure fZ(prog:Program)(w:World)(A:Around)(s:Shared)(κ:SortKind)(a₀:Array Keyed)(ρ:Keyed->Int):Prop where
 lt:∀x y,x∈a₀.toList->y∈a₀.toList->∀(Q:Bool->Shared->Prop)(E:Ω),Q (decide (ρ x<ρ y)) s->wpAny (model prog w) A (keyLt' κ x.1 y.1) Q E s
structure B(κ:SortKind)(a₀:Array Keyed)(st:SortSt):Prop where
 perm:(arrOf st).Perm a₀
 kind:kindOf st=κ
 failed:failedOf st=none
def B.size{κ:SortKind}{a₀:Array Keyed}{st:SortSt}(h:B κ a₀ st):(arrOf st).size=a₀.size:=h.perm.size_eq
def B.setArr{κ:SortKind}{a₀:Array Keyed}{st:SortSt}(h:B κ a₀ st){xs:Array Keyed}(hp:xs.Perm (arrOf st)):B κ a₀ (setArr st xs):=⟨hp.trans h.perm,h.kind,h.failed⟩
def B.mem{κ:SortKind}{a₀:Array Keyed}{st:SortSt}(h:B κ a₀ st){p:Keyed}(hp:p∈(arrOf st).toList):p∈a₀.toList:=(Array.perm_iff_toList_perm.mp h.perm).mem_iff.mp hp
def EQ{xs:Array Keyed}{i:Nat}(hi:i<xs.size):∃p,xs[i]?=some p/\p∈xs.toList:=⟨xs[i],getElem?_pos _ i hi,by simp⟩
structure Pre(lo:Nat)(st aj:SortSt):Prop where
 arr:∀k,k<lo->(arrOf aj)[k]?=(arrOf st)[k]?
 pend:pendingOf aj=pendingOf st
def Pre.refl{lo:Nat}{st:SortSt}:Pre lo st st:=⟨fun _ _=>rfl,rfl⟩
def Pre.trans{lo:Nat}{a b c:SortSt}(x:Pre lo a b)(y:Pre lo b c):Pre lo a c:=⟨fun k h=>(y.arr k h).trans (x.arr k h),y.pend.trans x.pend⟩
def Pre.mir{lo i j:Nat}{st:SortSt}(a:j<=(arrOf st).size)(hi:lo<=i):Pre lo st (setArr st (mirror (arrOf st) i j ((j-i) / 2))):=
 ⟨fun k h=>by show(mirror _ _ _ _)[k]?=_;rw[getElem?_mirror_all a,Sb ω],rfl⟩
def Pre.bub{lo src d:Nat}{st:SortSt}(a:src<(arrOf st).size)(hd:d<=src)(b:lo<=src-d):Pre lo st (setArr st (bubble (arrOf st) src d)):=
 ⟨fun k h=>by show(bubble _ _ _)[k]?=_;rw[getElem?_bubble a d hd,Sb ω,Sb ω],rfl⟩
section
variable{prog:Program}{w:World}{A:Around}{E:Ω}{s:Shared}{κ:SortKind}{a₀:Array Keyed}{ρ:Keyed->Int}
def J3(C:fZ prog w A s κ a₀ ρ){st:SortSt}(a:B κ a₀ st){x y:Keyed}(hx:x∈a₀.toList)(hy:y∈a₀.toList){Q:Option Bool->SortSt->Prop}(h:Q (some (decide (ρ x<ρ y))) st):wpS (model prog w) A E s (lt' x y) Q st:=by
 rw[lt'_eq];refine wpS_bind (wpS_get ?_);rw[a.kind];refine wpS_bind (wpS_lift (wpAny_attempt (C.lt x y hx hy _ _ ⟨rfl,?_⟩)));exact wpS_pure h
def ER{st:SortSt}{xs:Array Keyed}{i:Nat}{p:Keyed}(h:xs[i]?=some p){Q:Keyed->SortSt->Prop}(hq:Q p st):wpS (model prog w) A E s (elem' xs i) Q st:=by
 rw[elem'_eq,h];exact wpS_pure hq
def oy(C:fZ prog w A s κ a₀ ρ){st:SortSt}(a:B κ a₀ st){i j:Nat}(hi:i<a₀.size)(d:j<a₀.size){Q:Option Bool->SortSt->Prop}(h:Q (some (decide (R ρ (arrOf st) i<R ρ (arrOf st) j))) st):wpS (model prog w) A E s (ltAt' i j) Q st:=by
 obtain⟨p,e1,b⟩:=EQ (xs:=arrOf st) (i:=i) (by rw[a.size];exact hi);obtain⟨q,e2,c⟩:=EQ (xs:=arrOf st) (i:=j) (by rw[a.size];exact d);rw[ltAt'_eq];refine wpS_bind (wpS_get ?_);show wpS _ _ _ _ (do let x <-elem' (arrOf st) i;let y <-elem' (arrOf st) j;lt' x y) Q st;refine wpS_bind (ER e1 (wpS_bind (ER e2 (J3 C a (a.mem b) (a.mem c) ?_))));rw[je e1,je e2] at h;exact h
def asc(lo a b:Nat):StateT SortSt Sem AscSt:=
 forIn [a:b] ((none,a):AscSt) fun _ __s=>do
  let __x <-ltAt' (lo+__s.snd) (lo+__s.snd-1)
  match __x with
  |some smaller=>if smaller=true then pure (ForInStep.done (none,__s.snd)) else pure (ForInStep.yield (none,__s.snd+1))
  |_=>pure (ForInStep.done (some none,__s.snd))
def oz(lo n a:Nat):StateT SortSt Sem (Option Nat):=do
 reverseSlice' lo (lo+n)
 let __s <-asc lo n a
 match __s.fst with
 |some r=>pure r
 |none=>pure (some __s.snd)
def qQ(lo n a:Nat):StateT SortSt Sem DescSt:=
 forIn [n:a] ((none,n,0):DescSt) fun _ __s=>do
  let __x <-ltAt' (lo+__s.snd.fst) (lo+__s.snd.fst-1)
  match __x with
  |some smaller=>
   if smaller=true then
    if __s.snd.snd>0 then do
     reverseSlice' (lo+__s.snd.fst-(__s.snd.snd+1)) (lo+__s.snd.fst)
     pure (ForInStep.yield (none,__s.snd.fst+1,0))
    else pure (ForInStep.yield (none,__s.snd.fst+1,0))
   else do
    let __x <-ltAt' (lo+__s.snd.fst-1) (lo+__s.snd.fst)
    match __x with
    |some larger=>
     if larger=true then pure (ForInStep.done (none,__s.snd.fst,__s.snd.snd))
     else pure (ForInStep.yield (none,__s.snd.fst+1,__s.snd.snd+1))
    |_=>pure (ForInStep.done (some none,__s.snd.fst,__s.snd.snd))
  |_=>pure (ForInStep.done (some none,__s.snd.fst,__s.snd.snd))
def oC(lo n a:Nat):StateT SortSt Sem (Option Nat):=do
 liftM (rule "list.sort.descending-run")
 let __s <-qQ lo (n+1) a
 match __s.fst with
 |some r=>pure r
 |none=>
  if __s.snd.snd>0 then do
   reverseSlice' (lo+__s.snd.fst-(__s.snd.snd+1)) (lo+__s.snd.fst)
   oz lo __s.snd.fst a
  else oz lo __s.snd.fst a
def bi{b c:Type}{m:StateT SortSt Sem b}{f g:b->StateT SortSt Sem c}(h:∀a,f a=g a):(m >>= f)=(m >>= g):=by
 have e:f=g:=funext h;rw[e]
def J4(lo d:Nat):countRun' lo d=(do
  let __s <-asc lo 1 d
  match __s.fst with
  |some r=>pure r
  |none=>
   if(__s.snd==d)=true then pure (some __s.snd)
   else if __s.snd>1 then do
    let __x <-ltAt' lo (lo+__s.snd-1)
    match __x with
    |some rose=>if rose=true then pure (some __s.snd) else do
      reverseSlice' lo (lo+__s.snd)
      oC lo __s.snd d
    |_=>pure none
   else oC lo __s.snd d):=by
 rw[countRun'_eq];unfold oC oz qQ asc;refine bi fun g=>?_;obtain⟨r,n⟩:=g;cases r with
 |some r=>rfl
 |none=>
  dsimp only;split
  ·rfl
  ·split
   ·refine bi fun x=>?_
    cases x with
    |none=>rfl
    |some rose=>
     dsimp only;split
     ·rfl
     ·refine bi fun _r=>bi fun _u=>bi fun e=>?_
      obtain⟨c,n2,h⟩:=e;cases c with
      |some c=>rfl
      |none=>
       dsimp only;split
       ·refine bi fun _v=>bi fun _w=>bi fun a=>?_
        obtain⟨b,f⟩:=a;cases b<;>rfl
       ·refine bi fun _w=>bi fun a=>?_
        obtain⟨b,f⟩:=a;cases b<;>rfl
   ·refine bi fun _u=>bi fun e=>?_
    obtain⟨c,n2,h⟩:=e;cases c with
    |some c=>rfl
    |none=>
     dsimp only;split
     ·refine bi fun _v=>bi fun _w=>bi fun a=>?_
      obtain⟨b,f⟩:=a;cases b<;>rfl
     ·refine bi fun _w=>bi fun a=>?_
      obtain⟨b,f⟩:=a;cases b<;>rfl
def ES(C:fZ prog w A s κ a₀ ρ){st:SortSt}{lo a d:Nat}{Q:AscSt->SortSt->Prop}(G:lo+d<=a₀.size)(ha:1<=a)(u:a<=d)(v:B κ a₀ st)(y:cx ρ (arrOf st) lo (lo+a))(h:∀n,a<=n->n<=d->cx ρ (arrOf st) lo (lo+n)->(n=d\/R ρ (arrOf st) (lo+n)<R ρ (arrOf st) (lo+n-1))->Q (none,n) st):wpS (model prog w) A E s (asc lo a d) Q st:=by
 unfold asc;refine wpS_forRange (I:=fun x c f=>f=st/\c=(none,x)/\cx ρ (arrOf st) lo (lo+x)) ?step ?fin ⟨rfl,rfl,y⟩
 case fin=>
  rintro c f ⟨rfl,rfl,e⟩;rw[show max a d=d from ω] at e ⊢;exact h d u (Af _) e (.inl rfl)
 case step=>
  rintro x c f r F ⟨rfl,rfl,e⟩;dsimp only;refine wpS_bind (oy C v ω ω ?_)
  by_cases b:R ρ (arrOf f) (lo+x)<R ρ (arrOf f) (lo+x-1)
  ·simp only[b,decide_true,if_true]
   exact wpS_pure (h x r ω e (.inr b))
  ·simp only[b,decide_false,AG,if_false]
   refine wpS_pure ⟨rfl,rfl,fun i j p q D=>?_⟩
   by_cases l:j<lo+x
   ·exact e i j p q l
   ·have g:j=lo+x:=ω
    subst g
    by_cases o:i=lo+x
    ·subst o;exact P4 _
    ·exact Int.le_trans (e i (lo+x-1) p ω ω) (Int.not_lt.mp b)
def qR{st:SortSt}{i j:Nat}{Q:Unit->SortSt->Prop}(h:Q () (setArr st (mirror (arrOf st) i j ((j-i) / 2)))):wpS (model prog w) A E s (reverseSlice' i j) Q st:=by
 rw[reverseSlice'_eq];exact wpS_modify h
abbrev Got(κ:SortKind)(a₀:Array Keyed)(ρ:Keyed->Int)(lo aq:Nat)(st:SortSt)(Q:Option Nat->SortSt->Prop):Prop:=
 ∀m aj,B κ a₀ aj->Pre lo st aj->1<=m->m<=aq->cx ρ (arrOf aj) lo (lo+m)->Q (some m) aj
def ET(C:fZ prog w A s κ a₀ ρ){st e:SortSt}{lo n a:Nat}{Q:Option Nat->SortSt->Prop}(l:lo+a<=a₀.size)(h1:1<=n)(c:n<=a)(f:B κ a₀ st)(o:Pre lo e st)(p:mi ρ (arrOf st) lo (lo+n))(h:Got κ a₀ ρ lo a e Q):wpS (model prog w) A E s (oz lo n a) Q st:=by
 unfold oz;have hsz:lo+n<=(arrOf st).size:=by rw[f.size];omega
 refine wpS_bind (qR ?_);have d:B κ a₀ (setArr st (mirror (arrOf st) lo (lo+n) ((lo+n-lo) / 2))):=f.setArr (mirror_perm _ _ _ _);refine wpS_bind (ES C l h1 c d ?_ fun m q g b _=>wpS_pure (h m _ d (o.trans (.mir hsz (Af _))) ω g b));intro i j r u v;show R ρ (mirror (arrOf st) lo (lo+n) ((lo+n-lo) / 2)) i<=R ρ (mirror (arrOf st) lo (lo+n) ((lo+n-lo) / 2)) j;rw[yb hsz,yb hsz,Sa ω,Sa ω];exact p _ _ ω ω ω
def J5(C:fZ prog w A s κ a₀ ρ){st G:SortSt}{lo n r:Nat}{Q:DescSt->SortSt->Prop}(T:lo+r<=a₀.size)(h1:1<=n)(H:n<=r)(N:B κ a₀ st)(O:Pre lo G st)(P:mi ρ (arrOf st) lo (lo+n))(h:∀m e a,B κ a₀ a->Pre lo G a->n<=m->m<=r->mi ρ (arrOf a) lo (lo+m)->e+1<=m->(∀i,lo+m-(e+1)<=i->i<lo+m->R ρ (arrOf a) i=R ρ (arrOf a) (lo+m-1))->Q (none,m,e) a):wpS (model prog w) A E s (qQ lo n r) Q st:=by
 unfold qQ;refine wpS_forRange (I:=fun x c a=>∃e,c=(none,x,e)/\B κ a₀ a/\Pre lo G a/\mi ρ (arrOf a) lo (lo+x)/\e+1<=x/\
   (∀i,lo+x-(e+1)<=i->i<lo+x->R ρ (arrOf a) i=R ρ (arrOf a) (lo+x-1))) ?step ?fin ⟨0,rfl,N,O,P,ω,fun i h1 h2=>by congr 1;omega⟩
 case fin=>
  rintro c a ⟨e,rfl,g,y,l,hq,he⟩;rw[show max n r=r from ω] at l hq he ⊢;exact h r e a g y H (Af _) l hq he
 case step=>
  rintro x c a M S ⟨e,rfl,g,y,l,hq,he⟩;dsimp only;have hsz:lo+x<=(arrOf a).size:=by rw[g.size];omega
  refine wpS_bind (oy C g ω ω ?_)
  by_cases d:R ρ (arrOf a) (lo+x)<R ρ (arrOf a) (lo+x-1)
  ·simp only[d,decide_true,if_true]
   have f:∀xs:Array Keyed,(∀k,R ρ xs k=R ρ (arrOf a) k)->mi ρ xs lo (lo+(x+1)):=by
    intro xs hk i j D F L;rw[hk,hk]
    by_cases u:j<lo+x
    ·exact l i j D F u
    ·have q:j=lo+x:=ω
     subst q
     by_cases v:i=lo+x
     ·subst v;exact P4 _
     ·exact Int.le_trans (R0 d) (l i (lo+x-1) D ω ω)
   by_cases p:e>0
   ·rw[Sa p]
    refine wpS_bind (qR (wpS_pure ⟨0,rfl,g.setArr (mirror_perm _ _ _ _),y.trans (.mir hsz ω),f _ (zT hsz he),ω,fun i h1 h2=>by congr 1;omega⟩))
   ·rw[Sb p]
    exact wpS_pure ⟨0,rfl,g,y,f _ (fun _=>rfl),ω,fun i h1 h2=>by congr 1;omega⟩
  ·simp only[d,decide_false,AG,if_false]
   refine wpS_bind (oy C g ω ω ?_)
   by_cases b:R ρ (arrOf a) (lo+x-1)<R ρ (arrOf a) (lo+x)
   ·simp only[b,decide_true,if_true]
    exact wpS_pure (h x e a g y M ω l hq he)
   ·simp only[b,decide_false,AG,if_false]
    have o:R ρ (arrOf a) (lo+x)=R ρ (arrOf a) (lo+x-1):=ω
    refine wpS_pure ⟨e+1,rfl,g,y,fun i j D F L=>?_,ω,fun i h1 h2=>?_⟩
    ·by_cases u:j<lo+x
     ·exact l i j D F u
     ·have q:j=lo+x:=ω
      subst q
      by_cases v:i=lo+x
      ·subst v;exact P4 _
      ·rw[o];exact l i (lo+x-1) D ω ω
    ·rw[show lo+(x+1)-1=lo+x from ω]
     by_cases J:i=lo+x
     ·subst J;rfl
     ·rw[o];exact he i ω ω
def EU(C:fZ prog w A s κ a₀ ρ){st p:SortSt}{lo n b:Nat}{Q:Option Nat->SortSt->Prop}(e:lo+b<=a₀.size)(f:n+1<=b)(x:B κ a₀ st)(y:Pre lo p st)(D:mi ρ (arrOf st) lo (lo+(n+1)))(h:Got κ a₀ ρ lo b p Q):wpS (model prog w) A E s (oC lo n b) Q st:=by
 unfold oC;refine wpS_bind (wpS_lift (wpAny_rule ⟨rfl,?_⟩));refine wpS_bind (J5 C e ω f x y D fun m q c d g F l o hq he=>?_);dsimp only;have hsz:lo+m<=(arrOf c).size:=by rw[d.size];omega
 by_cases a:q>0
 ·rw[Sa a]
  refine wpS_bind (qR (ET C e ω l (d.setArr (mirror_perm _ _ _ _)) (g.trans (.mir hsz ω)) ?_ h));intro i j r u v;show R ρ (mirror (arrOf c) _ _ _) j<=R ρ (mirror (arrOf c) _ _ _) i;rw[zT hsz he,zT hsz he];exact o i j r u v
 ·rw[Sb a]
  exact ET C e ω l d g o h
def J6(C:fZ prog w A s κ a₀ ρ){st:SortSt}{lo o:Nat}{Q:Option Nat->SortSt->Prop}(v:lo+o<=a₀.size)(h1:1<=o)(c:B κ a₀ st)(h:Got κ a₀ ρ lo o st Q):wpS (model prog w) A E s (countRun' lo o) Q st:=by
 rw[J4];refine wpS_bind (ES C v (Af 1) h1 c (fun i j f y D=>by have:i=j:=ω;subst this;exact P4 _) fun n F G q H=>?_);dsimp only
 by_cases d:n=o
 ·rw[Sa (by simpa using d)]
  exact wpS_pure (h n st c .refl F G q)
 ·rw[Sb (by simpa using d)]
  have g:R ρ (arrOf st) (lo+n)<R ρ (arrOf st) (lo+n-1):=H.resolve_left d
  by_cases p:n>1
  ·rw[Sa p]
   refine wpS_bind (oy C c ω ω ?_)
   by_cases b:R ρ (arrOf st) lo<R ρ (arrOf st) (lo+n-1)
   ·simp only[b,decide_true,if_true]
    exact wpS_pure (h n st c .refl F G q)
   ·simp only[b,decide_false,AG,if_false]
    have hsz:lo+n<=(arrOf st).size:=by rw[c.size];omega
    have a:∀k,lo<=k->k<lo+n->R ρ (arrOf st) k=R ρ (arrOf st) (lo+n-1):=by
     intro k f hk;have J:=q lo k ω f hk;have L:=q k (lo+n-1) f ω ω;omega
    refine wpS_bind (qR (EU C v ω (c.setArr (mirror_perm _ _ _ _)) (.mir hsz (Af _)) ?_ h));intro i j f y D;show R ρ (mirror (arrOf st) _ _ _) j<=R ρ (mirror (arrOf st) _ _ _) i;rw[zT hsz a,zT hsz a]
    by_cases x:j<lo+n
    ·rw[a i ω ω,a j ω x];exact P4 _
    ·have r:j=lo+n:=ω
     subst r
     by_cases e:i=lo+n
     ·subst e;exact P4 _
     ·rw[a i ω ω];exact R0 g
  ·rw[Sb p]
   have l:n=1:=ω
   subst l;refine EU C v ω c .refl ?_ h;intro i j f y D
   by_cases e:i=j
   ·subst e;exact P4 _
   ·have I:i=lo:=ω
    have u:j=lo+1:=ω
    subst I;subst u;exact R0 g
def J7(C:fZ prog w A s κ a₀ ρ){st:SortSt}{lo n ok:Nat}{Q:Bool->SortSt->Prop}(P:lo+n<=a₀.size)(L:ok<=n)(M:B κ a₀ st)(N:cx ρ (arrOf st) lo (lo+ok))(h:∀a,B κ a₀ a->Pre lo st a->cx ρ (arrOf a) lo (lo+n)->Q true a):wpS (model prog w) A E s (binarySort' lo n ok) Q st:=by
 rw[binarySort'_eq];refine wpS_bind (wpS_mono (wpS_forRange (I:=fun k c a=>c=(none,())/\B κ a₀ a/\Pre lo st a/\cx ρ (arrOf a) lo (lo+min k n))
  (Q:=fun c a=>c=(none,())/\B κ a₀ a/\Pre lo st a/\cx ρ (arrOf a) lo (lo+n)) ?step ?fin ?init) ?post)
 case post=>
  rintro c a ⟨rfl,f,p,e⟩;exact wpS_pure (h a f p e)
 case init=>
  refine⟨rfl,M,.refl,fun i j y D F=>?_⟩
  by_cases h1:ok=0
  ·have:i=j:=ω
   subst this;exact P4 _
  ·exact N i j y D ω
 case fin=>
  rintro c a ⟨hc,f,p,e⟩;refine⟨hc,f,p,?_⟩
  rwa [show min (max (max ok 1) n) n=n from ω] at e
 case step=>
  rintro k c a S O ⟨rfl,f,p,e⟩;rw[show min k n=k from ω] at e;have hk:lo+k<a₀.size:=ω
  refine wpS_bind (wpS_mono (wpS_forRange (I:=fun x c d=>d=a/\∃l r,c=(none,l,r)/\l<=r/\r<=k/\r-l<=k-x/\
    (∀i,i<l->R ρ (arrOf a) (lo+i)<=R ρ (arrOf a) (lo+k))/\(∀i,r<=i->i<k->R ρ (arrOf a) (lo+k)<R ρ (arrOf a) (lo+i)))
   (Q:=fun c d=>d=a/\∃l r,c=(none,l,r)/\l<=k/\
    (∀i,i<l->R ρ (arrOf a) (lo+i)<=R ρ (arrOf a) (lo+k))/\(∀i,l<=i->i<k->R ρ (arrOf a) (lo+k)<R ρ (arrOf a) (lo+i))) ?istep ?ifin ?iinit) ?ipost)
  case iinit=>exact⟨rfl,0,k,rfl,ω,ω,ω,fun i hi=>ω,fun i h1 h2=>ω⟩
  case ifin=>
   rintro c d ⟨rfl,l,r,rfl,G,u,hm,g,o⟩;have:l=r:=ω
   subst this;exact⟨rfl,l,l,rfl,u,g,o⟩
  case istep=>
   rintro x c d _ T ⟨rfl,l,r,rfl,G,u,hm,g,o⟩;dsimp only
   by_cases q:l ≥ r
   ·rw[Sa q]
    have:l=r:=ω
    subst this;exact wpS_pure ⟨rfl,l,l,rfl,u,g,o⟩
   ·rw[Sb q]
    refine wpS_bind (oy C f hk ω ?_)
    by_cases b:R ρ (arrOf d) (lo+k)<R ρ (arrOf d) (lo+(l+r) / 2)
    ·simp only[b,decide_true,if_true]
     refine wpS_pure ⟨rfl,l,(l+r) / 2,rfl,ω,ω,ω,g,fun i h1 h2=>?_⟩;exact Int.lt_of_lt_of_le b (e _ _ ω ω ω)
    ·simp only[b,decide_false,AG,if_false]
     refine wpS_pure ⟨rfl,(l+r) / 2+1,r,rfl,ω,ω,ω,fun i h1=>?_,o⟩;exact Int.le_trans (e (lo+i) (lo+(l+r) / 2) ω ω ω) (Int.not_lt.mp b)
  case ipost=>
   rintro c d ⟨rfl,l,r,rfl,U,g,o⟩;show wpS _ _ _ _ (do moveDown' (lo+k) (lo+l);pure (ForInStep.yield (none,()))) _ _;rw[moveDown'_eq];have v:lo+k<(arrOf d).size:=by rw[f.size];exact hk
   refine wpS_bind (wpS_modify (wpS_pure ⟨rfl,f.setArr (bubble_perm _ _ _),p.trans (.bub v ω ω),?_⟩));rw[show min (k+1) n=k+1 from ω];intro i j y D F;show R ρ (bubble (arrOf d) (lo+k) (lo+k-(lo+l))) i<=R ρ (bubble (arrOf d) (lo+k) (lo+k-(lo+l))) j;rw[EO v ω,EO v ω,show lo+k-(lo+k-(lo+l))=lo+l from ω];have H:∀i,lo<=i->i<lo+l->R ρ (arrOf d) i<=R ρ (arrOf d) (lo+k):=fun i h1 h2=>by
    have:=g (i-lo) ω;rwa [show lo+(i-lo)=i from ω] at this
   have J:∀i,lo+l<=i->i<lo+k->R ρ (arrOf d) (lo+k)<R ρ (arrOf d) i:=fun i h1 h2=>by
    have:=o (i-lo) ω ω;rwa [show lo+(i-lo)=i from ω] at this
   repeat' split
   all_goals first
    |(exfalso;omega)
    |exact P4 _
    |exact H _ ω ω
    |exact R0 (J _ ω ω)
    |exact e _ _ ω ω ω
def J8(C:fZ prog w A s κ a₀ ρ){st:SortSt}{Q:Unit->SortSt->Prop}(F:B κ a₀ st)(hp:pendingOf st=#[])(h1:1<=a₀.size)(N:a₀.size<64)(h:∀a,B κ a₀ a->cx ρ (arrOf a) 0 a₀.size->Q () a):wpS (model prog w) A E s sortRuns' Q st:=by
 rw[sortRuns'_eq];refine wpS_bind (wpS_get ?_);dsimp only;have M:minRun' a₀.size a₀.size 0=a₀.size:=by
  obtain⟨f,hf⟩:∃f,a₀.size=f+1:=⟨a₀.size-1,ω⟩;have:minRun' (f+1) a₀.size 0=a₀.size:=by rw[minRun'_succ,Sa N];rfl
  rwa [<-hf] at this
 simp only[F.size,M];refine wpS_bind (wpS_mono (wpS_forRange
  (I:=fun x c a=>(x=0/\c=(none,0)/\B κ a₀ a/\pendingOf a=#[])\/(1<=x/\c=(none,a₀.size)/\B κ a₀ a/\(pendingOf a).size<=1/\cx ρ (arrOf a) 0 a₀.size))
  (Q:=fun c a=>c=(none,a₀.size)/\B κ a₀ a/\(pendingOf a).size<=1/\cx ρ (arrOf a) 0 a₀.size) ?step ?fin (.inl ⟨rfl,rfl,F,hp⟩)) ?post)
 case fin=>
  rintro c a (⟨hx,_,_⟩|⟨_,hc,l⟩)
  ·omega
  ·exact⟨hc,l⟩
 case step=>
  rintro x c a _ hx (⟨rfl,rfl,o,v⟩|⟨P,rfl,l⟩)
  ·dsimp only
   rw[Sb ω];simp only[R1,Nat.min_self];refine wpS_bind (J6 C ω ω o fun m i r P2 O G j=>?_);dsimp only;have tl:∀d,B κ a₀ d->pendingOf d=#[]->cx ρ (arrOf d) 0 a₀.size->B κ a₀ (setPending d ((pendingOf d).push (0,a₀.size,0)))/\(pendingOf (setPending d ((pendingOf d).push (0,a₀.size,0)))).size<=1/\cx ρ (arrOf (setPending d ((pendingOf d).push (0,a₀.size,0)))) 0 a₀.size:=
    fun d b p q=>⟨⟨b.perm,b.kind,b.failed⟩,by show((pendingOf d).push _).size<=1;rw[p];exact Af 1,q⟩
   by_cases g:m<a₀.size
   ·rw[Sa g]
    refine wpS_bind (wpS_lift (wpAny_rule ⟨rfl,?_⟩));refine wpS_bind (J7 C ω G r j fun d H P3 u=>?_);simp only[RS,AG,if_false];refine wpS_bind (wpS_get ?_);have y:pendingOf d=#[]:=by rw[P3.pend,P2.pend];exact v
    have hb:(pendingOf d).back?=none:=by rw[y];rfl
    rw[hb];dsimp only;simp only[Nat.zero_add] at u ⊢;exact wpS_bind (wpS_modify (wpS_pure (.inr ⟨ω,rfl,tl d H y u⟩)))
   ·rw[Sb g]
    have hm:m=a₀.size:=ω
    subst hm;refine wpS_bind (wpS_get ?_);have D:pendingOf i=#[]:=by rw[P2.pend];exact v
    have hb:(pendingOf i).back?=none:=by rw[D];rfl
    rw[hb];dsimp only;simp only[Nat.zero_add] at j ⊢;exact wpS_bind (wpS_modify (wpS_pure (.inr ⟨ω,rfl,tl i r D j⟩)))
  ·dsimp only
   rw[Sa (Af _)];exact wpS_pure ⟨rfl,l⟩
 case post=>
  rintro c a ⟨rfl,o,J,L⟩;dsimp only;refine wpS_bind (wpS_mono (wpS_forRange (I:=fun _ c e=>e=a/\c=(none,())) (Q:=fun c e=>e=a/\c=(none,())) ?_ (fun _ _ hh=>hh) ⟨rfl,rfl⟩) ?_)
  ·rintro x c e _ _ ⟨rfl,rfl⟩
   refine wpS_bind (wpS_get ?_);rw[Sa J];exact wpS_pure ⟨rfl,rfl⟩
  ·rintro c e ⟨rfl,rfl⟩
   exact wpS_pure (h _ o L)
end
end Tim
end
section
namespace cx
open PySem PyProof.Rows HT
def yk:∀a:List Int,lexLt a a=false
 |[]=>rfl
 |x::a=>by rw[zx,Sa rfl];exact yk a
def ml:∀{a b c:List Int},lexLt a b=true->lexLt b c=true->lexLt a c=true
 |[],[],_,h,_=>by cases h
 |[],_::_,[],_,h=>by cases h
 |[],_::_,_::_,_,_=>rfl
 |_::_,[],_,h,_=>by cases h
 |_::_,_::_,[],_,h=>by cases h
 |x::a,y::b,z::c,h1,h2=>by
  rw[zx] at h1 h2 ⊢
  by_cases e1:x=y
  ·rw[Sa e1] at h1
   by_cases e2:y=z
   ·rw[Sa e2] at h2
    rw[Sa (e1.trans e2)];exact ml h1 h2
   ·rw[Sb e2] at h2
    rw[Sb ω];have:=Se h2;exact Sc ω
  ·rw[Sb e1] at h1
   have d:=Se h1
   by_cases e2:y=z
   ·rw[Sb ω]
    exact Sc ω
   ·rw[Sb e2] at h2
    have e:=Se h2;rw[Sb ω];exact Sc ω
def EV:∀{a b:List Int},lexLt a b=false->lexLt b a=false->a=b
 |[],[],_,_=>rfl
 |[],_::_,h,_=>by cases h
 |_::_,[],_,h=>by cases h
 |x::a,y::b,h1,h2=>by
  rw[zx] at h1 h2
  by_cases e:x=y
  ·subst e
   rw[Sa rfl] at h1 h2;rw[EV h1 h2]
  ·rw[Sb e] at h1
   rw[Sb (Ne.symm e)] at h2;have:=of_decide_eq_false h1;have:=of_decide_eq_false h2;omega
def rk(ls:Ξ)(l:List Int):Int:=((ls.filter fun m=>lexLt m l).length:Nat)
def EW{ls:Ξ}{l m:List Int}(f:l∈ls)(hm:m∈ls):decide (rk ls l<rk ls m)=lexLt l m:=by
 have mono:∀{a b:List Int},(∀x,lexLt x a=true->lexLt x b=true)->∀k:Ξ,(k.filter fun x=>lexLt x a).length<=(k.filter fun x=>lexLt x b).length:=by
  intro a b d k
  induction k with
  |nil=>exact Af _
  |cons x k ih=>
   rw[QO,QO]
   by_cases q:lexLt x a=true
   ·rw[Sa q,Sa (d x q),At,At];omega
   ·rw[Sb q]
    split
    ·rw[At];omega
    ·exact ih
 have c:∀{a b:List Int},(∀x,lexLt x a=true->lexLt x b=true)->lexLt a b=true->∀k:Ξ,a∈k->(k.filter fun x=>lexLt x a).length<(k.filter fun x=>lexLt x b).length:=by
  intro a b d h k
  induction k with
  |nil=>intro q;cases q
  |cons x k ih=>
   intro hk;rw[QO,QO];rcases Pa.mp hk with e|e
   ·subst e
    rw[Sb (by rw[yk];exact Aq),Sa h,At];have:=mono d k;omega
   ·have:=ih e
    by_cases q:lexLt x a=true
    ·rw[Sa q,Sa (d x q),At,At];omega
    ·rw[Sb q]
     split
     ·rw[At];omega
     ·exact this
 unfold rk;cases q:lexLt l m with
 |true=>
  have:=c (a:=l) (b:=m) (fun x hx=>ml hx q) q ls f;exact Sc ω
 |false=>
  have:=mono (a:=m) (b:=l) (fun x hx=>by
   cases z:lexLt x l with
   |true=>rfl
   |false=>
    cases z2:lexLt l x with
    |true=>rw[ml z2 hx] at q;cases q
    |false=>rw[EV z z2] at hx;rw[hx] at q;cases q) ls
  exact Sd ω
structure By(prog:Program)(w:World)(A:Around)(good:Heap->Prop)(us:List Value)(ls:Ξ):Prop where
 len:us.length=ls.length
 fn:∀(i j:Nat) u l m,us[i]?=some u->us[j]?=some u->ls[i]?=some l->ls[j]?=some m->l=m
 ask:2<=us.length->∃κ:SortKind,(∀(s:Shared)(Q:SortKind->Shared->Prop)(E:Ω),good s.heap->Q κ s->wpAny (model prog w) A (keyKind' us.toArray) Q E s)/\
  ∀(i j:Nat) u v l m,us[i]?=some u->us[j]?=some v->ls[i]?=some l->ls[j]?=some m->∀(s:Shared)(Q:Bool->Shared->Prop)(E:Ω),good s.heap->Q (lexLt l m) s->wpAny (model prog w) A (keyLt' κ u v) Q E s
open Classical in
noncomputable def mq(us:List Value)(ls:Ξ)(u:Value):List Int:=if h:∃l,∃i:Nat,us[i]?=some u/\ls[i]?=some l then h.choose else []
def oD{us:List Value}{ls:Ξ}(fn:∀(i j:Nat) u l m,us[i]?=some u->us[j]?=some u->ls[i]?=some l->ls[j]?=some m->l=m){i:Nat}{u:Value}{l:List Int}(h1:us[i]?=some u)(h2:ls[i]?=some l):mq us ls u=l:=by
 unfold mq;have h:∃l,∃i:Nat,us[i]?=some u/\ls[i]?=some l:=⟨l,i,h1,h2⟩;rw[dif_pos h];obtain⟨j,e1,e2⟩:=h.choose_spec;exact fn j i u _ l e1 h1 e2 h2
noncomputable def mr(us:List Value)(ls:Ξ)(p:Keyed):Int:=rk ls (mq us ls p.1)
section
variable{prog:Program}{w:World}{A:Around}{E:Ω}{s:Shared}{good:Heap->Prop}{us vs:List Value}{ls:Ξ}
def jN(h:us.length=vs.length){p:Keyed}(hp:p∈(us.toArray.zip vs.toArray).toList):∃i:Nat,us[i]?=some p.1/\vs[i]?=some p.2:=by
 have e:(us.toArray.zip vs.toArray).toList=us.zip vs:=by simp
 rw[e] at hp;obtain⟨i,hi,e2⟩:=List.mem_iff_getElem.mp hp;rw[List.getElem_zip] at e2;rw[QG] at hi;refine⟨i,?_,?_⟩
 ·rw[Ah ω,<-e2]
 ·rw[Ah ω,<-e2]
def J9(B:By prog w A good us ls)(d:us.length=vs.length)(f:good s.heap){κ:SortKind}(h2:2<=us.length)(p:us.length<64)(hk:∀(i j:Nat) u v l m,us[i]?=some u->us[j]?=some v->ls[i]?=some l->ls[j]?=some m->∀(s:Shared)(Q:Bool->Shared->Prop)(E:Ω),good s.heap->Q (lexLt l m) s->wpAny (model prog w) A (keyLt' κ u v) Q E s){Q:Unit->SortSt->Prop}(h:∀a,(arrOf a).Perm (us.toArray.zip vs.toArray)->failedOf a=none->Tim.cx (mr us ls) (arrOf a) 0 vs.length->Q () a):wpS (model prog w) A E s sortRuns' Q (SortSt.mk' κ (us.toArray.zip vs.toArray) #[] 7 none):=by
 have hz:(us.toArray.zip vs.toArray).size=vs.length:=by simp;omega
 refine Tim.J8 (κ:=κ) (a₀:=us.toArray.zip vs.toArray) (ρ:=mr us ls) ⟨fun x y hx hy g o hq=>?_⟩ ⟨Array.Perm.refl _,rfl,rfl⟩ rfl (by rw[hz];omega) (by rw[hz];omega) fun a b e=>h a b.perm b.failed (by rw[<-hz];exact e);obtain⟨i,e1,_⟩:=jN d hx;obtain⟨j,e2,_⟩:=jN d hy;have hi:i<ls.length:=by rw[<-B.len];exact(KK.mp e1).1
 have c:j<ls.length:=by rw[<-B.len];exact(KK.mp e2).1
 have f1:ls[i]?=some ls[i]:=Ah hi;have f2:ls[j]?=some ls[j]:=Ah c;refine hk i j _ _ _ _ e1 e2 f1 f2 s g o f ?_;unfold mr at hq;rw[oD B.fn e1 f1,oD B.fn e2 f2,EW (Pq hi) (Pq c)] at hq;exact hq
def cG{a b:Type}:∀(l:List a)(m:List b)(i:Nat),(l.zip m)[i]?=(l[i]?).bind fun x=>(m[i]?).map fun y=>(x,y)
 |[],m,i=>by simp
 |x::l,[],i=>by cases h:(x::l)[i]?<;>simp
 |x::l,y::m,0=>rfl
 |x::l,y::m,i+1=>by
  rw[RC,Q4,Q4,Q4];exact cG l m i
def J_(B:By prog w A good us ls)(o:us.length=vs.length){xs:Array Keyed}(hp:xs.Perm (us.toArray.zip vs.toArray))(C:Tim.cx (mr us ls) xs 0 vs.length):∃ps:List (List Int×Value),ps.Perm (ls.zip vs)/\xs.toList.map (·.2)=ps.map (·.2)/\ps.Pairwise fun(a b:List Int×Value)=>HT.lexLt b.1 a.1=false:=by
 have f:xs.toList.Perm (us.zip vs):=by
  have:=Array.perm_iff_toList_perm.mp hp
  simpa using this
 refine⟨xs.toList.map fun p=>(mq us ls p.1,p.2),?_,by rw[Aj];rfl,?_⟩
 ·have e:(us.zip vs).map (fun p:Keyed=>(mq us ls p.1,p.2))=ls.zip vs:=by
   apply RJ;intro i;rw[Ai,cG,cG];cases e1:us[i]? with
   |none=>
    have:ls[i]?=none:=PD (by rw[<-B.len];exact List.getElem?_eq_none_iff.mp e1);rw[this];rfl
   |some u=>
    have hi:i<ls.length:=by rw[<-B.len];exact(KK.mp e1).1
    have f1:ls[i]?=some ls[i]:=Ah hi;rw[f1];cases e2:vs[i]? with
    |none=>rfl
    |some v=>
     show some (mq us ls u,v)=some (ls[i],v);rw[oD B.fn e1 f1]
  rw[<-e];exact f.map _
 ·rw[AS,Pw]
  intro i j hi l r;have hsz:xs.size=vs.length:=by
   have:=f.length_eq;rw[Qo,QG] at this;omega
  rw[Qo] at hi l;have q:=C i j (AX _) (Qg r) ω;have x:xs[i]?=some xs[i]:=getElem?_pos xs i hi;have y:xs[j]?=some xs[j]:=getElem?_pos xs j l;rw[Tim.je x,Tim.je y] at q;simp only[Array.getElem_toList];obtain⟨g,g1,_⟩:=jN o (p:=xs[i]) (by
   have:=f.mem_iff.mp (show xs[i]∈xs.toList by simp)
   simpa using this)
  obtain⟨h,g2,_⟩:=jN o (p:=xs[j]) (by
   have:=f.mem_iff.mp (show xs[j]∈xs.toList by simp)
   simpa using this)
  have c:g<ls.length:=by rw[<-B.len];exact(KK.mp g1).1
  have d:h<ls.length:=by rw[<-B.len];exact(KK.mp g2).1
  have f1:ls[g]?=some ls[g]:=Ah c;have f2:ls[h]?=some ls[h]:=Ah d;unfold mr at q;rw[oD B.fn g1 f1,oD B.fn g2 f2] at q ⊢;have:=EW (ls:=ls) (Pq d) (Pq c);rw[<-this];exact Sd ω
end
end cx
end
section
namespace cx
open PySem PyProof.Rows PySem.W
section
variable{prog:Program}{w:World}{A:Around}{E:Ω}{s:Shared}{good:Heap->Prop}{us vs:List Value}{ls:Ξ}
def EY{ns:List Int}(hi:IntsAre us ns):By prog w A (fun _=>True) us (ns.map fun n=>[n]):=by
 have b:=hi.length;have a:∀(i:Nat) u l,us[i]?=some u->(ns.map fun n=>[n])[i]?=some l->∃n t,u=.int n t/\l=[n]:=fun i u l h1 h2=>by
  obtain⟨t,e⟩:=IntsAre.int_at hi i u h1;rw[Ai] at h2;cases e2:ns[i]? with
  |none=>rw[e2] at h2;cases h2
  |some n=>
   rw[e2] at h2;have e3:ns.getD i 0=n:=by rw[List.getD_eq_getElem?_getD,e2];rfl
   rw[e3] at e;exact⟨n,t,e,(Ag h2).symm⟩
 refine⟨by rw[Ab,b],fun i j u l m h1 h2 d f=>?_,fun h2=>⟨oneType',fun s Q E _ hq=>?_,fun i j u v l m h1 h2 d f s Q E _ hq=>?_⟩⟩
 ·obtain⟨n,t,e1,rfl⟩:=a i u l h1 d
  obtain⟨c,t',e2,rfl⟩:=a j u m h2 f;rw[e1] at e2;cases e2
  rfl
 ·match us,hi,h2 with
  |[],_,h2=>simp at h2
  |[_],_,h2=>simp at h2
  |v₁::v₂::rest,hi,_=>
   rw[keyKind_ints hi];exact Ae hq
 ·obtain⟨n,t,rfl,rfl⟩:=a i u l h1 d
  obtain⟨c,t',rfl,rfl⟩:=a j v m h2 f;refine kat_lt_int ?_;have:HT.lexLt [n] [c]=decide (n<c):=by
   rw[HT.zx]
   by_cases e:n=c
   ·rw[Sa e,HT.Et];exact(Sd ω).symm
   ·rw[Sb e]
  rw[this] at hq;exact hq
def IsPr(h:Heap)(u:Value)(l:List Int):Prop:=∃(a b:Addr)(n:Int)(t:Tok)(ae:List Value)(ps:List Int),u=.ref a/\l=n::ps/\IsTup h a #[.int n t,.ref b]/\IsTup h b ae.toArray/\IntsAre ae ps
def IsTup.inj{h:Heap}{a:Addr}{xs ys:Array Value}(h1:IsTup h a xs)(h2:IsTup h a ys):xs=ys:=by
 obtain⟨o,e,_,n,d⟩:=h1;obtain⟨o',e',_,b,d'⟩:=h2;rw[e] at e';cases e';rw[d] at d';injection d'
def IntsAre.inj{vs:List Value}{ns a:List Int}(h:IntsAre vs ns)(g:IntsAre vs a):ns=a:=by
 induction h generalizing a with
 |nil=>cases g;rfl
 |cons n t h ih=>cases g with|cons _ _ h'=>rw[ih h']
def IsPr.inj{h:Heap}{u:Value}{l m:List Int}(h1:IsPr h u l)(h2:IsPr h u m):l=m:=by
 obtain⟨a,b,n,t,ae,ps,rfl,rfl,c,d,i1⟩:=h1;obtain⟨j,o,p,t',its',q,e,rfl,f,g,i⟩:=h2;cases e;have:=cx.IsTup.inj c f;cases this;have e2:=cx.IsTup.inj d g;have e3:ae=its':=by simpa using e2
 subst e3;rw[IntsAre.inj i1 i]
def Ka{x y:Value}{l m:List Int}{Q:Bool->Shared->Prop}(h1:IsPr s.heap x l)(h2:IsPr s.heap y m)(hu:A.units<cLine)(hq:Q (HT.lexLt l m) s):wpAny (model prog w) A (keyLt' (tuples' true) x y) Q E s:=by
 obtain⟨a,b,n,t,ae,ps,rfl,rfl,H,u,i1⟩:=h1;obtain⟨J,v,g,t',its',C,rfl,rfl,I,D,F⟩:=h2;obtain⟨o,e,hc,k,d⟩:=id H;obtain⟨o',e',hc',L,d'⟩:=id I;refine kat_lt e d e' d' ?_;show KatLex prog w A true (decide (2<2)) Q [(.int n t,.int g t'),(.ref b,.ref v)] 0 s;rw[HT.zx] at hq;refine kat_cons (wpAny_mono (SeqAt.EqAt.int_int n t g t' prog w (fun _ _=>False) _ ⟨rfl,rfl⟩:wpAny (model prog w) A (eqBool (.int n t) (.int g t')) (fun e s'=>e=(n==g)/\s'=s) (fun _ _=>False) s) (fun e1 j he=>?_) fun _ _ z=>z);obtain⟨rfl,rfl⟩:=he
 by_cases p:n=g
 ·have r:(n==g)=true:=by simpa using p
  rw[r];rw[Sa p] at hq;refine kat_yes (kat_cons ?_);have G:∀{c:Addr}{cs:List Value}{i:List Int},IsTup j.heap c cs.toArray->IntsAre cs i->IsTupleKey (L2.zr prog w) j.heap (i.map Sum.inl) c:=fun{c cs i} hc hi=>by
   obtain⟨o,e,q,k,d⟩:=hc;refine⟨o,cs.toArray,k,e,q,d,?_⟩;have:∀{cs:List Value}{i:List Int},IntsAre cs i->ItemsAre (L2.zr prog w) (i.map Sum.inl) cs:=by
    intro cs i hi
    induction hi with
    |nil=>exact .nil
    |cons n t h ih=>exact .cons (L2.uy prog w n t) ih
   simpa using this hi
  refine wpAny_eqBool_tuple (knd:=L2.zr prog w) hu (G u i1) (G D F) ?_
  by_cases ep:ps=C
  ·subst ep
   rw[Sc rfl];rw[yk] at hq;exact kat_yes (kat_nil hq)
  ·have:¬(ps.map Sum.inl:List L2.Key)=C.map Sum.inl:=fun z=>ep (QD (f:=(Sum.inl:Int->L2.Key)) (fun x y h=>Sum.inl.inj h)|>.mp z)
   rw[Sd this];refine kat_no ?_;show wpAny (model prog w) A (oneLt' false (.ref b) (.ref v)) Q (fun _ _=>False) j;exact kat_one _ _ (HT.Jq u D (by simpa using i1) (by simpa using F) hu hq)
 ·have r:(n==g)=false:=by simpa using p
  rw[r];rw[Sb p] at hq;refine kat_no ?_;show wpAny (model prog w) A (oneLt' true (.int n t) (.int g t')) Q (fun _ _=>False) j;exact oneLt_int hq
def EZ{h:Heap}:∀{us:List Value}{ls:Ξ},us.length=ls.length->(∀(i:Nat) u l,us[i]?=some u->ls[i]?=some l->IsPr h u l)->∃fs,KatTups h us fs/\fs.length=us.length/\∀f∈fs,∃n t,f=Value.int n t
 |[],[],_,_=>⟨[],.nil,rfl,fun f hf=>nomatch hf⟩
 |u::us,l::ls,hl,hp=>by
  obtain⟨fs,c,g,j⟩:=EZ (us:=us) (ls:=ls) (by simpa using hl) fun i u l h1 h2=>hp (i+1) u l (by simpa using h1) (by simpa using h2);obtain⟨a,b,n,t,ae,ps,rfl,rfl,p,q,i1⟩:=hp 0 u l rfl rfl;obtain⟨o,e,hc,k,d⟩:=id p;refine⟨.int n t::fs,.cons e hc d rfl c,by simp[g],fun f hf=>?_⟩;rcases Pa.mp hf with rfl|hf
  ·exact⟨n,t,rfl⟩
  ·exact j f hf
 |[],_::_,h,_=>by simp at h
 |_::_,[],h,_=>by simp at h
def Kb(e:us.length=ls.length)(hu:A.units<cLine)(p:∃h,good h)(hp:∀h,good h->∀(i:Nat) u l,us[i]?=some u->ls[i]?=some l->IsPr h u l):By prog w A good us ls:=by
 refine⟨e,fun i j u l m h1 h2 b c=>?_,fun h2=>⟨tuples' true,fun s Q E a hq=>?_,fun i j u v l m h1 h2 b c s Q E a hq=>?_⟩⟩
 ·obtain⟨h,d⟩:=p
  exact(hp h d i u l h1 b).inj (hp h d j u m h2 c)
 ·obtain⟨fs,g,q,o⟩:=EZ e (hp _ a)
  refine kat_kind (T:=.type "int") g ω (fun f hf=>?_) ξ hq;obtain⟨n,t,rfl⟩:=o f hf;exact Looks.of_pure rfl
 ·exact Ka (hp _ a i u l h1 b) (hp _ a j v m h2 c) hu hq
end
def Out(ls:Ξ)(vs out:List Value):Prop:=∃ps:List (List Int×Value),ps.Perm (ls.zip vs)/\out=ps.map (·.2)/\ps.Pairwise fun(a b:List Int×Value)=>HT.lexLt b.1 a.1=false
section
variable{prog:Program}{w:World}{A:Around}{E:Ω}{s:Shared}{good:Heap->Prop}{us vs:List Value}{ls:Ξ}
def Kc(a:ls.length=vs.length)(hu:us.length=vs.length)(h2:vs.length<2):Out ls vs ((us.toArray.zip vs.toArray).map (·.2)).toList:=by
 have e:((us.toArray.zip vs.toArray).map (·.2)).toList=vs:=by
  rw[Array.toList_map,show(us.toArray.zip vs.toArray).toList=us.zip vs by simp,List.map_snd_zip ω]
 rw[e];refine⟨ls.zip vs,List.Perm.refl _,by rw[List.map_snd_zip ω],?_⟩;have hz:(ls.zip vs).length<2:=by rw[QG];omega
 match ls.zip vs,hz with
 |[],_=>exact List.Pairwise.nil
 |[x],_=>simp
 |_::_::_,h=>simp only[At] at h;omega
def Kd(B:By prog w A good us ls)(c:us.length=vs.length)(l:vs.length<64)(i:good s.heap){P:PySem.Fin->Shared->Prop}{G:Unit×SortSt->Sem PySem.Fin}(h:∀a,Out ls vs ((arrOf a).map (·.2)).toList->(arrOf a).size=vs.length->failedOf a=none->wpAny (model prog w) A (G (PUnit.unit,a)) P E s):wpAny (model prog w) A (if vs.toArray.size<2 then(pure general' >>= fun kind=>(if vs.toArray.size<2 then pure () else sortRuns').run (SortSt.mk' kind (us.toArray.zip vs.toArray) #[] 7 none) >>= G)
   else(keyKind' us.toArray >>= fun kind=>(if vs.toArray.size<2 then pure () else sortRuns').run (SortSt.mk' kind (us.toArray.zip vs.toArray) #[] 7 none) >>= G)) P E s:=by
 have b:(us.toArray.zip vs.toArray).size=vs.length:=by rw[Array.size_zip,Al,Al];omega
 by_cases h2:vs.toArray.size<2
 ·rw[Sa h2]
  refine Aa (Ae ?_);rw[Sa h2];rw[StateT.run_pure];refine Aa (Ae ?_)
  try dsimp only
  rw[Al] at h2;exact h (SortSt.mk' general' (us.toArray.zip vs.toArray) #[] 7 none) (Kc (by rw[<-B.len];exact c) c h2) b rfl
 ·rw[Sb h2,Sb h2]
  rw[Al] at h2;obtain⟨κ,k1,k2⟩:=B.ask ω;refine Aa (k1 s _ E i ?_);refine Aa (wpAny_mono (J9 (Q:=fun _ a=>(arrOf a).Perm (us.toArray.zip vs.toArray)/\failedOf a=none/\Tim.cx (mr us ls) (arrOf a) 0 vs.length) B c i ω ω k2 fun a d f g=>⟨d,f,g⟩) ?_ fun _ _ e=>e);rintro⟨⟨⟩,a⟩ s' ⟨rfl,hp,hf,j⟩
  try dsimp only
  exact h a (by
   obtain⟨ps,d,f,g⟩:=J_ B c hp j;exact⟨ps,d,by rw[Array.toList_map];exact f,g⟩) (by rw[hp.size_eq];exact b) hf
def E1{a:Addr}{n:Nat}{P:PySem.Fin->Shared->Prop}(c:s.heap.get? a=some (seqObj "list" vs.toArray n))(B:By prog w A good vs ls)(g:∀h',(∀b o,b≠a->s.heap.get? b=some o->h'.get? b=some o)->good h')(hz:vs.length<=sizeLine)(i:vs.length<64)(h:∀out:Array Value,Out ls vs out.toList->P (.done (.ret .none)) {s with heap:=sortedHeap s.heap a vs out}):wpAny (model prog w) A (Builtin.«list.sort» ⟨[.ref a],[]⟩) P E s:=by
 rw[list_sort_plain];have ha:a<s⁻¹:=Am c;refine Aa (listItems_at c rfl ?_);refine Aa (listUpdate_at c rfl ?_ (by rw[Al];exact hz) (AX _));obtain⟨e1,d⟩:∃e1,(s.heap.update a (AH fun _=>#[])).get? a=some (seqObj "list" #[] e1):=⟨_,get?_update_seq c (fun _=>#[])⟩;refine Aa (seqEpoch_at d rfl ?_);refine Aa (wpAny_newTuple ?_ (by show vs.length<=_;exact hz));refine Aa (wpAny_newList ?_ (AX _));refine AD ?_;have f:(((s.heap.update a (AH fun _=>#[])).push (seqObj "tuple" vs.toArray 0)).push (seqObj "list" #[] 0)).get? a=some (seqObj "list" #[] e1):=by
  rw[Heap.get?_push_ne _ _ _ (by rw[size_push',Heap.size_update];exact Ar (Ba ha)),Heap.get?_push_ne _ _ _ (by rw[Heap.size_update];exact Ar ha)];exact d
 show wpAny (model prog w) A _ P E {s with heap:=((s.heap.update a (AH fun _=>#[])).push (seqObj "tuple" vs.toArray 0)).push (seqObj "list" #[] 0)};dsimp only;refine Kd (s:={s with heap:=((s.heap.update a (AH fun _=>#[])).push (seqObj "tuple" vs.toArray 0)).push (seqObj "list" #[] 0)}) B rfl i (g _ fun b o hb e=>Ad _ (Ad _ (by rw[Heap.get?_update_ne _ _ _ _ hb];exact e))) fun j c hsz hf=>?_;dsimp only;refine Aa (seqEpoch_at f rfl ?_);refine Aa (listUpdate_at f rfl ?_ (AX _) (Ay (Nat.le_of_eq ((Array.size_map ..).trans hsz)) (RK hz)));rw[hf];simp only[bne_self_eq_false,AG,if_false];exact Ae (h _ c)
def E2{l:Addr}{Q:Ω}(e:s.heap.IsList l vs.toArray)(B:By prog w A.in1.in1 good vs ls)(f:∀h',(∀b o,s.heap.get? b=some o->h'.get? b=some o)->good h')(hz:vs.length<=sizeLine)(g:vs.length<64)(h:∀out:Array Value,Out ls vs out.toList->Q (.ref (s⁻¹+1)) {s with heap:=sortedAll s.heap vs out}):wpAny (model prog w) A (call (.builtin "sorted") [.ref l]) Q E s:=by
 refine Calls.call_function_entry kind_sorted plain_sorted entry_sorted (args_sorted1 _) ?_;unfold Builtin.«sorted»;refine Aa (m:=checkCount "sorted" 1 1 _) (Ae ?_);refine Aa (collect_list e ?_ hz);refine Aa (wpAny_newList ?_ hz);have hsz:((s.heap.push (seqObj "list" #[] 0)).update s⁻¹ (AH (·++vs.toArray))).objs.size=s⁻¹+1:=by
  rw[Heap.size_update,size_push']
 have c:(((s.heap.push (seqObj "list" #[] 0)).update s⁻¹ (AH (·++vs.toArray))).push (seqObj "list" vs.toArray 0)).get? (s⁻¹+1)=some (seqObj "list" vs.toArray 0):=by
  rw[<-hsz];exact An _ rfl
 have keep:∀b o,s.heap.get? b=some o->(((s.heap.push (seqObj "list" #[] 0)).update s⁻¹ (AH (·++vs.toArray))).push (seqObj "list" vs.toArray 0)).get? b=some o:=fun b o q=>by
  have a:b<s⁻¹:=Am q;rw[Heap.get?_push_ne _ _ _ (by rw[hsz];exact Ar (Ba a)),Heap.get?_update_ne _ _ _ _ (Ar a),Heap.get?_push_ne _ _ _ (Ar a)];exact q
 show wpAny _ _ _ _ _ {s with heap:=((s.heap.push (seqObj "list" #[] 0)).update s⁻¹ (AH (·++vs.toArray))).push (seqObj "list" vs.toArray 0)};rw[hsz];refine Aa (AD (AZ slot_list_sort ⟨_,c,rfl⟩ entry_list_sort (E1 (s:={s with heap:=((s.heap.push (seqObj "list" #[] 0)).update s⁻¹ (AH (·++vs.toArray))).push (seqObj "list" vs.toArray 0)}) c B (fun h' hk=>f h' fun b o q=>hk b o (Ar (Ba (Am q))) (keep b o q)) hz g fun out d=>⟨_,rfl,?_⟩) (args_list_sort _)));exact Ae ⟨_,rfl,h out d⟩
end
end cx
end
section
namespace L2
open PySem PySem.Spec PyProof.Rows
def clOf(cells:List (Str×Addr)):List (Str×NameKind)->List (Str×Addr)->List (Str×Addr)
 |[],acc=>acc
 |(n,k)::r,acc=>if(k==.free)=true then clOf cells r ((n,(cells.lookup n).getD 0)::acc) else clOf cells r acc
def E3{env:Env}:∀(names:List (Str×NameKind))(acc:List (Str×Addr)),(∀x∈names,x.2=.free->∃c,env.cells.lookup x.1=some c)-> (forIn names acc fun x(r:List (Str×Addr))=>if(x.2==.free)=true then do let c <-cellOf env x.1;pure (ForInStep.yield ((x.1,c)::r)) else pure (ForInStep.yield r):Sem (List (Str×Addr)))=pure (clOf env.cells names acc)
 |[],acc,_=>rfl
 |(n,k)::r,acc,h=>by
  rw[Rp];have b:=fun a=>E3 (env:=env) r a fun x hx=>h x (Ax _ hx);unfold clOf
  by_cases hk:(k==A5)=true
  ·have d:k=.free:=by cases k<;>first|rfl|cases hk
   obtain⟨c,hc⟩:=h (n,k) Az d;simp only[hk,if_true];unfold cellOf;rw[hc];simp only[pure_bind,RX];exact b _
  ·simp only[hk,AG,if_false,pure_bind]
   exact b _
def Ke{scope:Scope}{env:Env}(h:∀x∈scope.names,x.2=.free->∃c,env.cells.lookup x.1=some c):closureFor scope env=pure (clOf env.cells scope.names []):=by
 rw[<-E3 scope.names [] h];unfold closureFor;simp
def yl{x:Str}{c:Addr}:∀{l:List (Str×Addr)},(x,c)∈l->∃d,l.lookup x=some d
 |[],h=>nomatch h
 |(y,d)::l,h=>by
  rw[AT]
  by_cases e:x=y
  ·subst e;exact⟨d,by simp⟩
  ·have hb:(x==y)=false:=by simpa using e
   rw[hb];rcases Pa.mp h with q|q
   ·cases q;exact absurd rfl e
   ·exact yl q
def qU{cells:List (Str×Addr)}{x:Str}:∀{names:List (Str×NameKind)}{acc:List (Str×Addr)},((x,A5)∈names\/∃c,(x,c)∈acc)->∃c,(x,c)∈clOf cells names acc
 |[],acc,h=>h.elim (fun q=>nomatch q) id
 |(n,k)::r,acc,h=>by
  unfold clOf
  by_cases hk:(k==A5)=true
  ·rw[Sa hk]
   refine qU ?_;rcases h with h|⟨c,h⟩
   ·rcases Pa.mp h with q|q
    ·cases q;exact .inr ⟨_,Az⟩
    ·exact .inl q
   ·exact .inr ⟨c,Ax _ h⟩
  ·rw[Sb hk]
   refine qU ?_;rcases h with h|h
   ·rcases Pa.mp h with q|q
    ·cases q;exact absurd rfl hk
    ·exact .inl q
   ·exact .inr h
def eF(X:Cx)(scope:Scope)(N:List Str)(a:List (Str×Addr))(C:Addr)(s₀:Shared)(H₀:Hp)(ex:List Addr):Cx where
 prog:=X.prog
 w:=X.w
 K:=X.K
 mg:=X.mg
 base:=X.base
 A:=X.A
 N:=N
 s₀:=s₀
 H₀:=H₀
 env:=compEnvC scope a C X.env
 outer:=X.stack
 stack:=X.stack
 ex:=ex
 fn:=fun _=>false
 calm:=X.calm
 pn:=X.pn
 xe:=fun _ _=>False
def iD(X:Cx)(aX:List Expr)(t:TT):Prop:=
 ∀(aa:Ψ)(s:Shared)(σ:St)(H:Hp)(Q:Bool->Hp->Prop),Inv X aa σ H s->t σ H Q->
  wpAny (model X.prog X.w) X.A (forIn aX true fun c r=>if r=true then do let ok <-isTrue c X.env (eval c X.env);pure (ForInStep.yield ok) else pure (ForInStep.yield r)) (TP X aa σ Q) X.xe s
def cQ:TT:=fun _ H Q=>Q true H
def zX{X:Cx}:iD X [] cQ:=fun _ _ _ H _ I h=>wpAny_tests_nil ⟨H,I,h⟩
def zQ{X:Cx}{c:Expr}{t:TT}(h:PT X c t):iD X [c] t:=fun aa s σ H Q I hw=>wpAny_tests_one (h aa s σ H Q I hw)
def oI(au:List (Option Nat))(σ:St):St:=au.map fun c=>match c with
 |none=>none
 |some j=>(σ[j]?).getD none
def zU(J:It)(g:TG)(tc:TT)(te:TE)(σ:St)(H1:Hp)(D:Addr)(Q:VK):Prop:=
 ∃W:Nat->Nat->St->Hp->Prop,(∃m,W 0 m σ (upd H1 D (.lst [])))/\
 ∀i m d H2,W i m d H2->(J.stop i H2/\Q (.ref D) H2)\/(J.go i H2/\∀x h,J.yld i H2 x h->g x d h fun c j=>tc c j fun b e=>
  if b=true then te c e fun y f=>∃ys a,f D=some (.lst ys)/\ys.length<sizeLine/\a<m/\W (i+1) a c (upd f D (.lst (ys++[y])))
  else ∃a,a<m/\W (i+1) a c e)
def jO(wi:TI)(au:List (Option Nat))(g:TG)(tc:TT)(te:TE):TE:=fun σ H Q=>wi σ H fun J H1=>∀D,H1 D=none->zU J g tc te (oI au σ) H1 D Q
def mu(N N':List Str)(au:List (Option Nat))(scope:Scope):Prop:=
 au.length=N'.length/\∀i j:Nat,au[i]?=some (some j)->∃x:Str,N'[i]?=some x/\N[j]?=some x/\scope.names.lookup x=some .free
def qV{cells:List (Str×Addr)}{x:Str}{c:Addr}:∀{names:List (Str×NameKind)}{acc:List (Str×Addr)},(∀y∈names,y.2=.free->∃d,cells.lookup y.1=some d)->(∀p∈acc,False)->(x,c)∈clOf cells names acc->cells.lookup x=some c/\(x,A5)∈names:=by
 have g:∀{names:List (Str×NameKind)}{acc:List (Str×Addr)},(∀y∈names,y.2=.free->∃d,cells.lookup y.1=some d)->(x,c)∈clOf cells names acc->(x,c)∈acc\/(cells.lookup x=some c/\(x,A5)∈names):=by
  intro names
  induction names with
  |nil=>intro acc _ h;exact .inl h
  |cons y r i=>
   intro acc b h;obtain⟨n,k⟩:=y;unfold clOf at h;have j:∀y∈r,y.2=.free->∃d,cells.lookup y.1=some d:=fun y hy=>b y (Ax _ hy)
   by_cases hk:(k==A5)=true
   ·have l:k=.free:=by cases k<;>first|rfl|cases hk
    obtain⟨d,hd⟩:=b (n,k) Az l;rw[Sa hk] at h;rcases i j h with q|⟨e,f⟩
    ·rcases Pa.mp q with q|q
     ·refine .inr ⟨?_,?_⟩
      ·have a:cells.lookup n=some d:=hd
       rw[a] at q;cases q;exact a
      ·cases q
       rw[l];exact Az
     ·exact .inl q
    ·exact .inr ⟨e,Ax _ f⟩
   ·rw[Sb hk] at h
    rcases i j h with q|⟨e,f⟩
    ·exact .inl q
    ·exact .inr ⟨e,Ax _ f⟩
 intro names acc b ha h;rcases g b h with q|q
 ·exact(ha _ q).elim
 ·exact q
def cf_mem:∀(names:List (Str×NameKind))(h:Heap)(acc:List (Str×Addr))(x:Str)(c:Addr),(x,c)∈Bh h.objs.size names acc->(x,c)∈acc\/((x,NameKind.cell)∈names/\h.objs.size<=c/\(pushCells h names).IsCell c none)
 |[],h,acc,x,c,hm=>.inl hm
 |(n,k)::r,h,acc,x,c,hm=>by
  rw[cellsFrom.eq_2] at hm;have ep:pushCells h ((n,k)::r)=if(k==NameKind.cell)=true then pushCells (h.push {cls:=Value.type "cell",data:=Data.cell none}) r else pushCells h r:=rfl
  by_cases hk:(k==NameKind.cell)=true
  ·have e:k=.cell:=by cases k<;>first|rfl|cases hk
   rw[Sa hk] at hm;rw[ep,Sa hk];have es:(h.push {cls:=Value.type "cell",data:=Data.cell none}).objs.size=h.objs.size+1:=Heap.size_push ..;rw[<-es] at hm;rcases cf_mem r _ _ x c hm with q|⟨b,a,d⟩
   ·rcases Pa.mp q with q|q
    ·cases q
     refine .inr ⟨by rw[e];exact Az,Af _,_,pushCells_keeps r _ _ _ (An _ rfl),rfl⟩
    ·exact .inl q
   ·rw[es] at a
    exact .inr ⟨Ax _ b,RM a,d⟩
  ·rw[Sb hk] at hm
   rw[ep,Sb hk];rcases cf_mem r h acc x c hm with q|⟨b,a,d⟩
   ·exact .inl q
   ·exact .inr ⟨Ax _ b,a,d⟩
def yo:∀(names:List (Str×NameKind))(n:Nat)(acc:List (Str×Addr)),(∀x y c,(x,c)∈acc->(y,c)∈acc->x=y)->(∀p∈acc,p.2<n)->∀x y c,(x,c)∈Bh n names acc->(y,c)∈Bh n names acc->x=y
 |[],n,acc,hi,_,x,y,c,h1,h2=>hi x y c h1 h2
 |(m,k)::r,n,acc,hi,hl,x,y,c,h1,h2=>by
  rw[cellsFrom.eq_2] at h1 h2
  by_cases hk:(k==NameKind.cell)=true
  ·rw[Sa hk] at h1 h2
   refine yo r (n+1) ((m,n)::acc) (fun x y c p q=>?_) (fun p hp=>?_) x y c h1 h2
   ·rcases Pa.mp p with p|p<;>rcases Pa.mp q with q|q
    ·cases p;cases q;rfl
    ·cases p
     have:n<n:=hl _ q;omega
    ·cases q
     have:n<n:=hl _ p;omega
    ·exact hi x y c p q
   ·rcases Pa.mp hp with rfl|hp
    ·exact QP _
    ·exact Ba (hl p hp)
  ·rw[Sb hk] at h1 h2
   exact yo r n acc hi hl x y c h1 h2
def Kf{M:Model}{A:Around}{E:Ω}{s:Shared}{scope:Scope}{globals:Addr}{a:List (Str×Addr)}{f:Str}{env:Env}{Q:Env->Shared->Prop}(h:∀d:Heap,(d.Ns s⁻¹ fun _=>none)->(∀b o,s.heap.get? b=some o->d.get? b=some o)->
   (∀x c,(x,c)∈Bh (s⁻¹+1) scope.names a->(x,c)∈a\/((x,NameKind.cell)∈scope.names/\s⁻¹+1<=c/\d.IsCell c none))->
   Q (newEnv scope s⁻¹ globals (Bh (s⁻¹+1) scope.names a) f none .none (some env) builtinsNs) {s with heap:=d}):
  wpAny M A (newFunctionEnv scope globals a [] f none Value.none (some env)) Q E s:=by
 unfold newFunctionEnv;refine Aa (wpAny_alloc ?_);refine Aa (wpAny_layCells _ (fun name kind cells=>rfl) scope.names a _ _ ?_);have es:(s.heap.push {cls:=Value.type "dict",data:=Data.dict #[]}).objs.size=s⁻¹+1:=Heap.size_push ..;have:=h (pushCells (s.heap.push {cls:=Value.type "dict",data:=Data.dict #[]}) scope.names) ((Heap.Ns.new s.heap (.type "dict")).keeps fun b o e=>pushCells_keeps _ _ _ _ e) (fun b o e=>pushCells_keeps _ _ _ _ (Ad _ e)) (fun x c hm=>by
  rw[<-es] at hm ⊢;exact cf_mem scope.names _ a x c hm)
 show wpAny M A _ _ _ _;refine Aa (Ae ?_);refine Ae ?_;rw[<-es] at this;exact this
def cxD(X:Cx)(scope:Scope)(N:List Str)(a:List (Str×Addr))(C:Addr)(s₀:Shared)(H₀:Hp)(ex:List Addr):Cx:={eF X scope N a C s₀ H₀ ex with fn:=fun x=>decide (scope.names.lookup x=some .cell)}
section
variable{X:Cx}{scope:Scope}{N':List Str}{au:List (Option Nat)}{tg iter bF:Expr}{aX:List Expr}{wi:TI}{g:TG}{tc:TT}{te:TE}{pos:Pos}
def yp{scope:Scope}{env:Env}{x:Str}:∀{names:List (Str×NameKind)},(names.lookup x=some .free\/names.lookup x=some .cell)-> ((names.map fun(n,k)=>if(k==A5&&env.scope.kind==.function&&env.kindOf n==some .cell) then(n,NameKind.cell) else(n,k)).lookup x=some .free \/
   (names.map fun(n,k)=>if(k==A5&&env.scope.kind==.function&&env.kindOf n==some .cell) then(n,NameKind.cell) else(n,k)).lookup x=some .cell)
 |[],h=>by simp at h
 |(n,k)::r,h=>by
  have a:=@yp scope env x r;show List.lookup x ((if(k==A5&&env.scope.kind==.function&&env.kindOf n==some .cell)=true then(n,NameKind.cell) else(n,k))::_)=_\/List.lookup x ((if(k==A5&&env.scope.kind==.function&&env.kindOf n==some .cell)=true then(n,NameKind.cell) else(n,k))::_)=_;cases hx:x==n with
  |true=>
   simp only[AT,hx] at h
   by_cases hc:(k==A5&&env.scope.kind==.function&&env.kindOf n==some .cell)=true
   ·rw[Sa hc];simp[AT,hx]
   ·rw[Sb hc];simp only[AT,hx];exact h
  |false=>
   simp only[AT,hx] at h
   by_cases hc:(k==A5&&env.scope.kind==.function&&env.kindOf n==some .cell)=true
   ·rw[Sa hc];simp only[AT,hx];exact a h
   ·rw[Sb hc];simp only[AT,hx];exact a h
def yq{env:Env}{x:Str}{a:NameKind}:∀{names:List (Str×NameKind)},(names.map fun(n,k)=>if(k==A5&&env.scope.kind==.function&&env.kindOf n==some .cell) then(n,NameKind.cell) else(n,k)).lookup x=some a->
  ∃b,names.lookup x=some b/\(a=b\/(b=.free/\a=.cell))
 |[],h=>by simp at h
 |(n,k)::r,h=>by
  have c:=@yq env x a r;have h':List.lookup x ((if(k==A5&&env.scope.kind==.function&&env.kindOf n==some .cell)=true then(n,NameKind.cell) else(n,k))::_)=some a:=h;cases hx:x==n with
  |true=>
   simp only[AT,hx]
   by_cases hc:(k==A5&&env.scope.kind==.function&&env.kindOf n==some .cell)=true
   ·rw[Sa hc] at h'
    simp only[AT,hx] at h';cases h';have hk:k=.free:=by
     rw[AF,AF] at hc;cases k<;>first|rfl|exact absurd hc.1.1 ξ
    exact⟨k,rfl,.inr ⟨hk,rfl⟩⟩
   ·rw[Sb hc] at h'
    simp only[AT,hx] at h';cases h';exact⟨_,rfl,.inl rfl⟩
  |false=>
   simp only[AT,hx]
   by_cases hc:(k==A5&&env.scope.kind==.function&&env.kindOf n==some .cell)=true
   ·rw[Sa hc] at h';simp only[AT,hx] at h';exact c h'
   ·rw[Sb hc] at h';simp only[AT,hx] at h';exact c h'
structure Left(X:Cx)(aa:Ψ)(σ:St)(H':Hp)(s4:Shared)(C:Addr):Prop where
 ns:∃m,s4.heap.Ns C m
 far:X.s₀⁻¹<=C
 nl:C≠X.env.locals
 nc:∀x c,X.env.cells.lookup x=some c->c≠C
 np:∀p∈X.pn++aa,p.1≠C
 no:H' C=none
 back:∀h',Heap.SameBut C s4.heap h'->Inv X aa σ H' {s4 with heap:=h'}
def E4{use:Option (Value->Sem Unit)}{R:Ω}{pp:Pos}(hc:X.calm=true)(hk:scope.kind=.function)(dc:∀y∈scope.names,y.2=.cell->scope.names.lookup y.1=some .cell)(aA:∀y∈scope.names,y.2=.free->scope.names.lookup y.1=some .free)(aB:∀y∈scope.names,y.2=.local->scope.names.lookup y.1=some .local)(hfr:∀y∈scope.names,y.2=.free->X.env.kindOf y.1=some .cell\/X.env.kindOf y.1=some .free)(bg:mu X.N N' au scope)(hi:PI X tg iter wi)(hg:∀cl C s₀ H₀ ex,PG (cxD X scope N' cl C s₀ H₀ ex) tg g)(ht:∀cl C s₀ H₀ ex,iD (cxD X scope N' cl C s₀ H₀ ex) aX tc)(he:∀cl C s₀ H₀ ex,PE (cxD X scope N' cl C s₀ H₀ ex) bF te)(hs:∀x,foldedSetIterable iter X.env x=pure x){aa:Ψ}{s:Shared}{σ:St}{H:Hp}{Q:VK}(I:Inv X aa σ H s)(h:jO wi au g tc te σ H Q)(fin:∀(D C:Addr)(H':Hp)(P:Shared)(f:Flow),Left X aa σ H' P C->Q (.ref D) H'->compPost (model X.prog X.w) X.A X.xe use R (.ref D) C (.ok f) P):wpAny (model X.prog X.w) X.A (comprehension (.ListComp bF [⟨tg,iter,aX,0⟩] scope pos) scope X.env pp (newList []) (firstAsync [⟨tg,iter,aX,0⟩]) (firstIter [⟨tg,iter,aX,0⟩] X.env) use) R X.xe s:=by
 have S:∀y∈scope.names,y.2=.free->∃c,X.env.cells.lookup y.1=some c:=fun y hy e=>I.ok.has y.1 (hfr y hy e);refine wpAny_comprehension_free (use:=use) rfl hs (Ke S) hk aB ?_;refine aV (hi aa s σ H _ I h) fun xv s1 h1=>aV h1 fun pO O h2=>?_;obtain⟨it,M,tn,J,H2,e,I2,T,eP,f2,q⟩:=h2;subst e;have lH:H2 O⁻¹=none:=I2.hok.fresh (Af _);obtain⟨W,⟨m0,w0⟩,turn⟩:=q O⁻¹ lH;refine AQ (Kf fun ar cW ck cu=>?_);dsimp only at cW ck cu ⊢;generalize hD:O⁻¹=D at *;obtain⟨l,e3⟩:∃l:Shared,l={O with heap:=O.heap.push {cls:=.type "list",dict:=none,data:=.seq ([]:List Value).toArray}}:=⟨_,rfl⟩;have h3:l.heap=O.heap.push {cls:=.type "list",dict:=none,data:=.seq ([]:List Value).toArray}:=by rw[e3]
 rw[<-h3] at cW ck cu ⊢;have ah:l⁻¹=D+1:=by rw[h3,Heap.size_push,hD]
 have I3:Inv X aa σ (upd H2 D (.lst [])) l:=by
  rw[e3,<-hD];exact I2.lnew (t':=O.toks) (ys:=[]) .nil (AX _)
 obtain⟨Xc,E⟩:∃Xc,Xc=cxD X scope N' (Bh (l⁻¹+1) scope.names (clOf X.env.cells scope.names [])) l⁻¹ l (upd H2 D (.lst [])) M:=⟨_,rfl⟩;have pH:PG Xc tg g:=by rw[E];exact hg _ _ _ _ _
 have ht':iD Xc aX tc:=by rw[E];exact ht _ _ _ _ _
 have he':PE Xc bF te:=by rw[E];exact he _ _ _ _ _
 have xP:Xc.prog=X.prog:=by rw[E];rfl
 have xw:Xc.w=X.w:=by rw[E];rfl
 have xK:Xc.K=X.K:=by rw[E];rfl
 have xA:Xc.A=X.A:=by rw[E];rfl
 have xc:Xc.calm=true:=by rw[E];exact hc
 have xe:Xc.env=compEnvC scope (Bh (l⁻¹+1) scope.names (clOf X.env.cells scope.names [])) l⁻¹ X.env:=by rw[E];rfl
 have xE:Xc.xe=fun _ _=>False:=by rw[E];rfl
 have G:∀x c,(Bh (l⁻¹+1) scope.names (clOf X.env.cells scope.names [])).lookup x=some c->(X.env.cells.lookup x=some c/\scope.names.lookup x=some .free)\/(scope.names.lookup x=some .cell/\l⁻¹+1<=c/\ar.IsCell c none):=fun x c e=>by
  rcases cu x c (A6 e) with q|⟨q1,q2,q3⟩
  ·obtain⟨q4,q5⟩:=qV S (fun p hp=>absurd hp (by simp)) q
   exact .inl ⟨q4,aA _ q5 rfl⟩
  ·exact .inr ⟨dc _ q1 rfl,q2,q3⟩
 have hlow:∀p∈clOf X.env.cells scope.names [],p.2<l⁻¹+1:=fun p hp=>by
  obtain⟨q4,_⟩:=qV S (fun p hp=>absurd hp (by simp)) (x:=p.1) (c:=p.2) hp;obtain⟨v,o,ho,_⟩:=I3.cell p.1 p.2 q4;exact Ba (Am ho)
 have U:∀b∈M,b≠D/\b<D:=fun b hb=>by
  obtain⟨ob,eb,_⟩:=T.obj 0 _ eP b hb;have:=Am eb;rw[hD] at this;exact⟨Ar this,this⟩
 have hfs:∀b∈frs X.stack,b<D:=fun b hb=>by
  obtain⟨_,ob,eb,_⟩:=I2.stack.mem hb;have:=Am eb;rw[hD] at this;exact this
 have F:∀b o,l.heap.get? b=some o->ar.get? b=some o:=ck;have wQ:(upd H2 D (.lst [])) l⁻¹=none:=I3.hok.fresh (Af _);have Ic:Inv Xc aa (oI au σ) (upd H2 D (.lst [])) {l with heap:=ar}:=by
  have okc:Xc.Ok:=by
   rw[E];refine⟨I.ok.mod,hk,I.ok.glob,I.ok.blt,Af _,fun x y c a b=>yo scope.names _ _ (fun x y c p q=>I.ok.inj x y c (qV S (fun p hp=>absurd hp (by simp)) p).1 (qV S (fun p hp=>absurd hp (by simp)) q).1) hlow x y c (A6 a) (A6 b),fun x hx=>?_,(fun x c a e=>by
    rcases G x c e with ⟨_,q⟩|⟨_,q,_⟩
    ·have a':=Se a
     rw[q] at a';cases a'
    ·exact RM q),I.ok.hd,I.ok.frames,.inl rfl,fun b hb=>⟨?_,fun x c e=>?_⟩,fun b o e=>?_,?_,fun b o e z=>?_,fun b hb z=>?_,?_,fun b hb=>?_⟩
   ·have hx':(relabel scope X.env).names.lookup x=some .cell\/(relabel scope X.env).names.lookup x=some .free:=hx
    have key:∃k',scope.names.lookup x=some k'/\(k'=.free\/k'=.cell):=by
     rcases hx' with q|q
     ·obtain⟨k',e1,e2⟩:=yq q
      rcases e2 with e2|⟨e2,_⟩
      ·exact⟨k',e1,.inr e2.symm⟩
      ·exact⟨k',e1,.inl e2⟩
     ·obtain⟨k',e1,e2⟩:=yq q
      rcases e2 with e2|⟨e2,_⟩
      ·exact⟨k',e1,.inl e2.symm⟩
      ·exact⟨k',e1,.inl e2⟩
    obtain⟨k',e1,e2⟩:=key;have hm:=A6 e1;rcases e2 with rfl|rfl
    ·obtain⟨c,hc'⟩:=qU (cells:=X.env.cells) (acc:=[]) (.inl hm)
     obtain⟨d,hd⟩:=yl hc';exact Pn.mp (P7 scope.names (l⁻¹+1) _ (.inr (by rw[hd];rfl)))
    ·exact Pn.mp (P7 scope.names (l⁻¹+1) _ (.inl e1))
   ·show b≠l⁻¹
    exact Ar (by rw[ah];exact Ba (U b hb).2)
   ·rcases G x c e with ⟨q,_⟩|⟨_,q,_⟩
    ·exact(f2 b hb).2.2.2.2.1 x c q
    ·have h1:b<l⁻¹+1:=by rw[ah];exact Ba (Ba (U b hb).2)
     exact AW (Au h1 q)
   ·exact I3.bs b o e
   ·exact Ay I.ok.bsz I3.sz
   ·obtain⟨f,_,_,fx,_,_⟩:=f2 b z
    rcases fx with fx|fx
    ·exact I.ok.noex b o e fx
    ·have:=Au (Am e) I.ok.bsz
     omega
   ·rcases Pa.mp (I2.stkSub b z) with r|r
    ·exact(f2 b hb).2.1 r
    ·exact(f2 b hb).2.2.1 r
   ·exact I3.stack
   ·exact I3.stkFree b hb
  refine⟨okc,(by rw[E];rfl),I3.bare,?_,?_,fun x c e=>?_,?_,fun x c e=>?_,fun p hp=>?_,?_,?_⟩
  ·rw[E]
   exact Un.kept F
  ·rw[xe]
   refine⟨_,cW,fun i x v e1 e2 e3=>?_⟩;obtain⟨c1,c2⟩:=bg;unfold oI at e2;rw[Ai] at e2;cases e4:au[i]? with
   |none=>rw[e4] at e2;cases e2
   |some cc=>
    rw[e4] at e2;cases cc with
    |none=>cases e2
    |some j=>
     obtain⟨y,d1,d2,d3⟩:=c2 i j e4;have su:N'[i]?=some x:=by rw[E] at e1;exact e1
     rw[d1] at su;have wF:y=x:=Ag su;subst wF;have e5:σ[j]?=some (some v):=by
      simp only[Pp,Be] at e2;cases e6:σ[j]? with
      |none=>rw[e6] at e2;cases e2
      |some ov=>rw[e6] at e2;simp only[RX] at e2;rw[e2]
     have hm:=A6 d3;have vM:nG X.env.scope y:=by
      rcases hfr _ hm rfl with q|q
      ·exact .inr (.inl q)
      ·exact .inr (.inr q)
     obtain⟨m,_,hl⟩:=I3.loc;obtain⟨u,ru,lk⟩:=hl j y v d2 e5 vM;refine⟨u,ru,?_⟩;have wn:∃c,X.env.cells.lookup y=some c/\l.heap.IsCell c (some u):=by
      rcases lk with ⟨k1,_⟩|⟨_,c,k2,k3⟩
      ·rcases hfr _ hm rfl with q|q
       ·rw[k1] at q;cases q
       ·rw[k1] at q;cases q
      ·exact⟨c,k2,k3⟩
     obtain⟨c,k2,k3⟩:=wn;obtain⟨d,hd'⟩:=qU (cells:=X.env.cells) (acc:=[]) (.inl hm);obtain⟨d',aI⟩:=yl hd';obtain⟨d2,i5⟩:=Pn.mp (P7 scope.names (l⁻¹+1) (clOf X.env.cells scope.names []) (x:=y) (.inr (by rw[aI];rfl)));have:c=d2:=by
      rcases G y d2 i5 with ⟨q,_⟩|⟨q,_⟩
      ·rw[k2] at q
       exact Ag q
      ·rw[d3] at q;cases q
     subst this;refine .inr ⟨?_,c,i5,k3.keeps F⟩;have rl:=yp (scope:=scope) (env:=X.env) (x:=y) (names:=scope.names) (.inl d3);rcases rl with q|q
     ·exact .inr q
     ·exact .inl q
  ·rw[xe] at e
   rcases G x c e with ⟨q,_⟩|⟨_,_,q⟩
   ·obtain⟨v,k3⟩:=I3.cell x c q
    exact⟨v,k3.keeps F⟩
   ·exact⟨_,q⟩
  ·rw[xe];exact wQ
  ·rw[xe] at e
   rcases G x c e with ⟨q,_⟩|⟨_,q,_⟩
   ·exact I3.freeC x c q
   ·exact I3.hok.fresh (RM q)
  ·have cC:p∈X.pn++aa:=by rw[E] at hp;exact hp
   obtain⟨a1,a2,a3,a4,a5⟩:=I3.pin p cC;refine⟨F _ _ a1,a2,?_,?_,a5⟩
   ·rw[xe]
    show p.1≠l⁻¹;exact Ar (Am a1)
   ·rw[E]
    intro z;rcases Pa.mp (I3.stkSub p.1 z) with r|r
    ·exact a3 r
    ·exact a4 r
  ·rw[xP,xw]
   exact I3.hok.kept F
  ·unfold oI
   rw[Ab,bg.1,E]
   rfl
 have leave:∀{L:St}{H':Hp}{P:Shared}{h':Heap},Inv Xc aa L H' P->Heap.SameBut l⁻¹ P.heap h'->Inv X aa σ H' {P with heap:=h'}:=fun{L H' P h'} I4 aC=>by
  have hlt:∀b o,O.heap.get? b=some o->b≠D/\b≠l⁻¹:=fun b o e=>by
   have hb:=Am e;rw[hD] at hb;exact⟨Ar hb,Ar (by rw[ah];exact Ba hb)⟩
  have up3:∀b o,O.heap.get? b=some o->l.heap.get? b=some o:=fun b o e=>by rw[h3];exact Ad _ e
  have base:Un (frs X.stack) M (upd H2 D (.lst [])) H' l.heap P.heap:=by
   have:=I4.base;rw[E] at this;exact this
  have hCn:H' l⁻¹=none:=by
   have:=I4.free;rw[xe] at this;exact this
  have os4:P.os=O.os:=by
   have:=I4.os;rw[E] at this;rw[this];show l.os=O.os;rw[e3]
  refine I2.call' (s':={P with heap:=h'}) (ch:=M) os4 ⟨fun b o q n hb hx=>?_,fun b o q n hb hx=>?_,fun b o q n hx=>?_,fun b o q hx=>?_,fun b xs q=>?_,fun b o u q=>?_,fun b ps q=>?_⟩ ?_ I4.bare fun b hb=>?_
  ·obtain⟨n1,n2⟩:=hlt b o q
   exact(aC.2 b n2).trans (base.keep b o (up3 b o q) (by rw[al n1];exact n) hb hx)
  ·obtain⟨n1,n2⟩:=hlt b o q
   obtain⟨sl,e⟩:=base.slot b o (up3 b o q) (by rw[al n1];exact n) hb hx;exact⟨sl,(aC.2 b n2).trans e⟩
  ·obtain⟨n1,n2⟩:=hlt b o q
   exact base.free b o (up3 b o q) (by rw[al n1];exact n) hx
  ·obtain⟨n1,n2⟩:=hlt b o q
   obtain⟨o',e⟩:=base.there b o (up3 b o q) hx;exact⟨o',(aC.2 b n2).trans e⟩
  ·exact base.tups b xs (by rw[al (zg q lH)];exact q)
  ·exact base.frzs b o u (by rw[al (zg q lH)];exact q)
  ·exact base.tbls b ps (by rw[al (zg q lH)];exact q)
  ·intro b u e
   have lV:=I4.hok b u e;rw[xP,xw] at lV;refine lV.stay (fun c v hc q=>(aC.2 c ?_).trans q) (fun _ q=>q) fun _ _ q=>q;rintro rfl;rcases hc with z|z
   ·rw[<-z,hCn] at e;cases e
   ·rw[hCn] at z;cases z
  ·obtain⟨f0,f1,f3,f4,f5,f6⟩:=f2 b hb
   exact⟨f4,f1,f5,f6⟩
 have Y:∀{H':Hp},(∀b∈M,H' b=none)->∀b∈M,be Xc aa H' b:=fun{H'} hn b hb=>by
  obtain⟨f0,f1,f3,f4,f5,f6⟩:=f2 b hb;refine⟨hn b hb,?_,?_,.inl (by rw[E];exact hb),fun x c e=>?_,fun p hp=>?_⟩
  ·rw[xe]
   show b≠l⁻¹;exact Ar (by rw[ah];exact Ba (U b hb).2)
  ·rw[E]
   intro z;rcases Pa.mp (I2.stkSub b z) with r|r
   ·exact f1 r
   ·exact f3 r
  ·rw[xe] at e
   rcases G x c e with ⟨q,_⟩|⟨_,q,_⟩
   ·exact f5 x c q
   ·have h1:b<l⁻¹+1:=by rw[ah];exact Ba (Ba (U b hb).2)
    exact AW (Au h1 q)
  ·rw[E] at hp
   exact f6 p hp
 subst E;have jy:∀n s',(∃i L H',Inv (cxD X scope N' (Bh (l⁻¹+1) scope.names (clOf X.env.cells scope.names [])) l⁻¹ l (upd H2 D (.lst [])) M) aa L H' s'/\tn i s'.heap/\(∀b∈M,H' b=none)/\W i n L H')->
   codeAny (model X.prog X.w) X.A (.compLoop (.ListComp bF [⟨tg,iter,aX,0⟩] scope pos) 0 (.ref it) (.ref D) (compEnvC scope (Bh (l⁻¹+1) scope.names (clOf X.env.cells scope.names [])) l⁻¹ X.env)) (compPost (model X.prog X.w) X.A X.xe use R (.ref D) l⁻¹) s':=by
  intro n0 BH u3;refine codeAny_loop rfl (fun n s'=>∃i L H',Inv (cxD X scope N' (Bh (l⁻¹+1) scope.names (clOf X.env.cells scope.names [])) l⁻¹ l (upd H2 D (.lst [])) M) aa L H' s'/\tn i s'.heap/\(∀b∈M,H' b=none)/\W i n L H') (fun n s' hI=>?_) n0 u3;obtain⟨i,L,H',I',aj,sM,w'⟩:=hI;show wpAny _ X.A ((compTurn (.ListComp bF [⟨tg,iter,aX,0⟩] scope pos) 0 (.ref it) (.ref D) (compEnvC scope (Bh (l⁻¹+1) scope.names (clOf X.env.cells scope.names [])) l⁻¹ X.env)).onRaise (fun x=>do noteFrame x (compEnvC scope (Bh (l⁻¹+1) scope.names (clOf X.env.cells scope.names [])) l⁻¹ X.env);theTreesLotGoes x)) _ _ s';refine wpAny_noted ?_;rw[compTurn_list];refine Aa (wpAny_standAt (Aa ?_));rcases turn i n L H' w' with ⟨stop,qn⟩|⟨go,step⟩
  ·refine aV (T.done (cxD X scope N' (Bh (l⁻¹+1) scope.names (clOf X.env.cells scope.names [])) l⁻¹ l (upd H2 D (.lst [])) M) rfl rfl rfl hc i aa s' L H' _ I' (Y sM) aj stop) fun r P ⟨hr,I4⟩=>?_
   subst hr;refine Ae ?_;obtain⟨m,hn,_⟩:=id I4.loc;refine fin D _ H' P _ ⟨⟨m,hn⟩,I3.sz,fun e=>?_,fun x c e=>?_,fun p hp=>Ar (Am (I3.pin p hp).1),I4.free,fun h' aC=>leave I4 aC⟩ qn
   ·obtain⟨m3,xT,_⟩:=I3.loc
    obtain⟨o3,_,_,cB,_⟩:=xT;exact absurd e.symm (Ar (Am cB))
   ·obtain⟨v,hv⟩:=I3.cell x c e
    obtain⟨o3,cB,_⟩:=hv;exact Ar (Am cB)
  ·refine aV (T.item (cxD X scope N' (Bh (l⁻¹+1) scope.names (clOf X.env.cells scope.names [])) l⁻¹ l (upd H2 D (.lst [])) M) rfl rfl rfl hc i aa s' L H' _ I' (Y sM) aj go) fun r P ⟨u,hr,h4⟩=>?_
   subst hr;refine Aa (aV h4 fun _ s5 ⟨x,H5,I5,r5,y5,st5,fr5⟩=>?_);have nv:=I5.pinned (Y fr5) (T.obj _ _ st5);refine Aa (wpAny_mono (pH _ s5 L H5 x u _ nv r5 (step x H5 y5)) (fun _ s6 h6=>?_) fun _ _ z=>z.elim);obtain⟨jn,H6,I6,q6⟩:=h6;refine Aa (wpAny_mono (ht' _ s6 jn H6 _ I6 q6) (fun ok s7 h7=>?_) fun _ _ z=>z.elim);obtain⟨H7,I7,q7⟩:=h7;have again:∀{lL:St}{H8:Hp}{s8:Shared}{m':Nat},Inv (cxD X scope N' (Bh (l⁻¹+1) scope.names (clOf X.env.cells scope.names [])) l⁻¹ l (upd H2 D (.lst [])) M) (aa++nS M s5.heap) lL H8 s8->m'<n->W (i+1) m' lL H8->
     ∃m,m<n/\∃i L H',Inv (cxD X scope N' (Bh (l⁻¹+1) scope.names (clOf X.env.cells scope.names [])) l⁻¹ l (upd H2 D (.lst [])) M) aa L H' s8/\tn i s8.heap/\(∀b∈M,H' b=none)/\W i m L H':=fun{lL H8 s8 m'} I8 hm w8=>by
    refine⟨m',hm,i+1,lL,H8,I8.unpinned,T.keep _ _ _ st5 fun b hb o e=>(I8.pin (b,o) (AN _ (AN _ (qu hb e)))).1,fun b hb=>?_,w8⟩;obtain⟨o,e,d⟩:=T.obj _ _ st5 b hb;exact(I8.pin (b,o) (AN _ (AN _ (qu hb e)))).2.1
   cases ok with
   |false=>
    obtain⟨m',hm,w7⟩:=q7;exact Ae ⟨rfl,again I7 hm w7⟩
   |true=>
    refine Aa (Aa (wpAny_mono (he' _ s7 jn H7 _ I7 q7) (fun v s8 h8=>?_) fun _ _ z=>z.elim));obtain⟨y,H8,I8,r8,ys,m',kP,vV,wR,w8⟩:=h8;refine Aa (wpAny_mono (l' (X:=cxD X scope N' (Bh (l⁻¹+1) scope.names (clOf X.env.cells scope.names [])) l⁻¹ l (upd H2 D (.lst [])) M) _ s8 jn H8 (.ref D) [y] (.ref D) [v] (fun _ H9=>H9=upd H8 D (.lst (ys++[y]))) I8 rfl (.cons r8 .nil) ⟨D,ys,y,rfl,rfl,kP,vV,rfl⟩) (fun _ s9 h9=>?_) fun _ _ z=>z.elim);obtain⟨_,H9,I9,_,e9⟩:=h9;subst e9;exact Ae (Ae ⟨rfl,again I9 wR w8⟩)
 have start:∃i L H',Inv (cxD X scope N' (Bh (l⁻¹+1) scope.names (clOf X.env.cells scope.names [])) l⁻¹ l (upd H2 D (.lst [])) M) aa L H' {l with heap:=ar}/\tn i ({l with heap:=ar}:Shared).heap/\(∀b∈M,H' b=none)/\W i m0 L H':=by
  refine⟨0,oI au σ,upd H2 D (.lst []),Ic,T.keep 0 _ _ eP fun b hb o e=>F b o (by rw[h3];exact Ad _ e),fun b hb=>?_,w0⟩;rw[al (U b hb).1];exact(f2 b hb).1
 have es:({O with heap:=ar}:Shared)={l with heap:=ar}:=by rw[e3]
 show codeAny (model X.prog X.w) X.A _ _ ({O with heap:=ar}:Shared);rw[es];refine codeAny_compStart_list (jy m0 _ start) (T.self _ 0 _ _ _ ?_ (jy m0 _ start));exact T.keep 0 _ _ eP fun b hb o e=>F b o (by rw[h3];exact Ad _ e)
def mw(b:∀y∈scope.names,y.2≠.cell)(a:List (Str×Addr))(C:Addr)(s₀:Shared)(H₀:Hp)(ex:List Addr):eF X scope N' a C s₀ H₀ ex=cxD X scope N' a C s₀ H₀ ex:=by
 unfold cxD;have:(fun x=>decide (scope.names.lookup x=some NameKind.cell))=fun _=>false:=by
  funext x
  exact Sd fun e=>b _ (A6 e) rfl
 rw[this]
 rfl
def Kg{use:Option (Value->Sem Unit)}{R:Ω}{d:Pos}(hc:X.calm=true)(hk:scope.kind=.function)(b:∀y∈scope.names,y.2≠.cell)(i:∀y∈scope.names,y.2=.free->scope.names.lookup y.1=some .free)(j:∀y∈scope.names,y.2=.local->scope.names.lookup y.1=some .local)(hfr:∀y∈scope.names,y.2=.free->X.env.kindOf y.1=some .cell\/X.env.kindOf y.1=some .free)(l:mu X.N N' au scope)(hi:PI X tg iter wi)(o:∀a C s₀ H₀ ex,PG (eF X scope N' a C s₀ H₀ ex) tg g)(ht:∀a C s₀ H₀ ex,iD (eF X scope N' a C s₀ H₀ ex) aX tc)(he:∀a C s₀ H₀ ex,PE (eF X scope N' a C s₀ H₀ ex) bF te)(p:∀x,foldedSetIterable iter X.env x=pure x){aa:Ψ}{s:Shared}{σ:St}{H:Hp}{Q:VK}(I:Inv X aa σ H s)(h:jO wi au g tc te σ H Q)(fin:∀(D C:Addr)(H':Hp)(c:Shared)(f:Flow),Left X aa σ H' c C->Q (.ref D) H'->compPost (model X.prog X.w) X.A X.xe use R (.ref D) C (.ok f) c):wpAny (model X.prog X.w) X.A (comprehension (.ListComp bF [⟨tg,iter,aX,0⟩] scope pos) scope X.env d (newList []) (firstAsync [⟨tg,iter,aX,0⟩]) (firstIter [⟨tg,iter,aX,0⟩] X.env) use) R X.xe s:=
 E4 hc hk (fun y hy e=>absurd e (b y hy)) i j hfr l hi (fun a C s₀ H₀ ex=>mw (X:=X) (N':=N') b a C s₀ H₀ ex▸o a C s₀ H₀ ex) (fun a C s₀ H₀ ex=>mw (X:=X) (N':=N') b a C s₀ H₀ ex▸ht a C s₀ H₀ ex) (fun a C s₀ H₀ ex=>mw (X:=X) (N':=N') b a C s₀ H₀ ex▸he a C s₀ H₀ ex) p I h fin
def Kh(hc:X.calm=true)(hk:scope.kind=.function)(b:∀y∈scope.names,y.2≠.cell)(e:∀y∈scope.names,y.2=.free->scope.names.lookup y.1=some .free)(i:∀y∈scope.names,y.2=.local->scope.names.lookup y.1=some .local)(hfr:∀y∈scope.names,y.2=.free->X.env.kindOf y.1=some .cell\/X.env.kindOf y.1=some .free)(j:mu X.N N' au scope)(hi:PI X tg iter wi)(l:∀a C s₀ H₀ ex,PG (eF X scope N' a C s₀ H₀ ex) tg g)(ht:∀a C s₀ H₀ ex,iD (eF X scope N' a C s₀ H₀ ex) aX tc)(he:∀a C s₀ H₀ ex,PE (eF X scope N' a C s₀ H₀ ex) bF te)(o:∀x,foldedSetIterable iter X.env x=pure x:=by intro _;rfl):PE X (.ListComp bF [⟨tg,iter,aX,0⟩] scope pos) (jO wi au g tc te):=by
 intro aa s σ H Q I h;rw[eval_ListComp];refine Kg (use:=none) hc hk b e i hfr j hi l ht he o I h fun D C H' p f L q=>?_;obtain⟨m,d⟩:=L.ns;exact⟨m,d,fun h' c=>⟨.ref D,H',L.back h' c,rfl,q⟩⟩
end
end L2
end
section
namespace Zp
open PySem PySem.Spec PyProof.Rows
section
variable{prog:Program}{w:World}{A:Around}{E:Ω}{s:Shared}
def Ki{it t:Addr}{i:Nat}{c:Array Value}{x:Value}{Q:Ω}(b:s.heap.IsTupleIter it t i)(ht:s.heap.IsTuple t c)(hx:c[i]?=some x)(e:∀h',h'.IsTupleIter it t (i+1)->Heap.SameBut it s.heap h'->Q x {s with heap:=h'}):wpAny (model prog w) A (Builtin.SmallTypes.nextOf (.ref it)) Q E s:=by
 obtain⟨o,a,hc,hd⟩:=id b;obtain⟨f,hol,_,g,d⟩:=ht;unfold Builtin.SmallTypes.nextOf;refine Aa (wpAny_callSpecial?_slot (name:=Str.ofString "__next__") b.typeIs F.slot_tuple_iterator_next (AZ F.slot_tuple_iterator_next b.typeIs F.entry_tuple_iterator_next ?_ (F.args_tuple_iterator_next_1 _)));show wpAny _ _ (field (.ref it) 0 >>= _) _ _ s;refine Aa (AO a hd (x:=.ref t) rfl ?_);show wpAny _ _ (if(Value.ref t==Value.none)=true then _ else _) _ _ s;rw[Sb (show ¬((Value.ref t==Value.none)=true) from Aq)];show wpAny _ _ (field (.ref it) 1 >>= _) _ _ s;refine Aa (AO a hd (x:=.int i 0) rfl ?_);show wpAny _ _ (seqItems? (.ref t) >>= _) _ _ s;refine Aa (A8 hol d ?_);simp only[Qj,hx];refine Aa (wpAny_setField a hd (by simp) (Ae ⟨x,rfl,Ae (e _ ?_ (AR ..))⟩));exact⟨_,Heap.get?_update_self _ a (Obj.isFreed_of_fields (Obj.data_mapFields hd _)),(Obj.cls_mapFields ..).trans hc,by
  rw[Obj.data_mapFields hd];simp[rawInt]⟩
def Kj{it t:Addr}{i:Nat}{d:Array Value}{Q:Ω}(hh:A.handled=none)(c:s.heap.IsTupleIter it t i)(ht:s.heap.IsTuple t d)(hx:d[i]?=none)(g:∀h' e,Heap.ExtBut it s.heap h'->(∃o,h'.get? e=some o/\o.cls=.type "StopIteration")->E (.ref e) {s with heap:=h'}):wpAny (model prog w) A (Builtin.SmallTypes.nextOf (.ref it)) Q E s:=by
 obtain⟨o,b,hc,hd⟩:=id c;obtain⟨h,hol,_,j,f⟩:=ht;unfold Builtin.SmallTypes.nextOf;refine Aa (wpAny_callSpecial?_slot (name:=Str.ofString "__next__") c.typeIs F.slot_tuple_iterator_next (AZ F.slot_tuple_iterator_next c.typeIs F.entry_tuple_iterator_next ?_ (F.args_tuple_iterator_next_1 _)));show wpAny _ _ (field (.ref it) 0 >>= _) _ _ s;refine Aa (AO b hd (x:=.ref t) rfl ?_);show wpAny _ _ (if(Value.ref t==Value.none)=true then _ else _) _ _ s;rw[Sb (show ¬((Value.ref t==Value.none)=true) from Aq)];show wpAny _ _ (field (.ref it) 1 >>= _) _ _ s;refine Aa (AO b hd (x:=.int i 0) rfl ?_);show wpAny _ _ (seqItems? (.ref t) >>= _) _ _ s;refine Aa (A8 hol f ?_);simp only[Qj,hx];refine Aa (wpAny_rule (Aa (wpAny_setField b hd (by simp) ?_)));show wpAny _ _ (newExc (.type "StopIteration") [] >>= _) _ _ _;refine Aa ?_;simp only[newExc,newTuple];refine Aa (AQ ?_ (by size_fits));refine Aa (m:=firstArgMember _ _) (wpAny_of_eq (a:=Value.none) (by first|rfl|(simp only[firstArgMember];rfl)) ?_);refine AQ ?_ (by size_fits);simp only[raiseNew];refine Aa (wpAny_handled ?_)
 first|rw[show A.in1.handled=none from hh]|rw[hh]
 refine Aa (Ae (wpAny_throw ?_));exact g _ _ (((AR ..).extBut.push _).push _) ⟨_,An _ rfl,rfl⟩
end
def Kk{h h':Heap}{a:Addr}{b:Array Value}(x:h.IsTuple a b)(e:∀o,h.get? a=some o->h'.get? a=some o):h'.IsTuple a b:=let ⟨o,ho,r⟩:=x;⟨o,e o ho,r⟩
def E5{prog:Program}{w:World}{A:Around}(hh:A.handled=none)(it t:Addr)(b:t≠it)(a:Array Value):Draws prog w A it [it,t] a.size (fun i v=>a[i]?=some v) (fun i h=>h.IsTupleIter it t i/\h.IsTuple t a) where
 live:=fun _ _ st=>let ⟨o,ho,_⟩:=st.1;⟨o,ho⟩
 frame:=fun _ _ _ st hk=>⟨st.1.at fun o e=>hk it (by simp) o e,Kk st.2 fun o e=>hk t (by simp) o e⟩
 item:=fun i s Q E hi st d=>by
  refine Ki st.1 st.2 (x:=a[i]) (by simp[hi]) fun h' f c=>?_;exact d _ h' s.toks (by simp[hi]) ⟨f,st.2.extBut c.extBut b⟩ c
 done:=fun s Q E st g=>Kj hh st.1 st.2 (by simp) g
structure Apart(z TI TO i1 i2:Addr)(cg cm:List Addr):Prop where
 z1:z∉cg
 z2:z∉cm
 o1:TO∉cg
 o2:TO∉cm
 m1:i1∈cg
 m2:i2∈cm
 x12:i1∉cm
 x21:i2∉cg
 TIz:TI≠z
 TOz:TO≠z
 TITO:TI≠TO
 TIi1:TI≠i1
 TIi2:TI≠i2
section
variable{prog:Program}{w:World}{A:Around}{E:Ω}{s:Shared}{z TI TO i1 i2:Addr}{cg cm:List Addr}{n1 n2 i:Nat}{P1 P2:Nat->Value->Prop}{S1 S2:Nat->Heap->Prop}{a b:Value}
def Kl{Q:Ω}(D1:Draws prog w A i1 cg n1 P1 S1)(D2:Draws prog w A i2 cm n2 P2 S2)(D:Apart z TI TO i1 i2 cg cm)(hz:IsZip s.heap z TI TO .none)(dO:IsPair s.heap TI (.ref i1) (.ref i2))(dS:IsPair s.heap TO a b)(h1:S1 i s.heap)(h2:S2 i s.heap)(l1:i<n1)(l2:i<n2)(hQ:∀x y h' tk,P1 i x->P2 i y->IsZip h' z TI TO (rawInt s⁻¹)->IsPair h' TO x y->S1 (i+1) h'->S2 (i+1) h'->IsPair h' s⁻¹ x y->h'.objs.size=s⁻¹+1->
   (∀c o,c≠z->c≠TO->c≠i1->c≠i2->s.heap.get? c=some o->h'.get? c=some o)->Q (.ref s⁻¹) {s with heap:=h',toks:=tk}):
  wpAny (model prog w) A (Builtin.«zip.__next__» ⟨[.ref z],[]⟩) (fun fin s'=>∃v,fin=.done (.ret v)/\Q v s') E s:=by
 have g:∀c∈cg,c≠z:=fun c hc e=>D.z1 (e▸hc);have J:∀c∈cm,c≠z:=fun c hc e=>D.z2 (e▸hc);have L:∀c∈cg,c≠TO:=fun c hc e=>D.o1 (e▸hc);have M:∀c∈cm,c≠TO:=fun c hc e=>D.o2 (e▸hc);have nZ:∀c∈cm,c≠i1:=fun c hc e=>D.x12 (e▸hc);have yO:∀c∈cg,c≠i2:=fun c hc e=>D.x21 (e▸hc);have kM:i1≠z:=g _ D.m1;have lX:i2≠z:=J _ D.m2;have im:TO≠i1:=(L _ D.m1).symm;have nz:TO≠i2:=(M _ D.m2).symm;show wpAny _ _ (field (.ref z) 2 >>= _) _ _ _;refine Aa (AO hz rfl (x:=.bool false) rfl ?_);show wpAny _ _ (field (.ref z) 3 >>= _) _ _ _;refine Aa (AO hz rfl (x:=.ref TI) rfl ?_);refine Aa (A8 dO rfl ?_);show wpAny _ _ (Builtin.SmallTypes.ownedTupleIsFree (.ref z) >>= _) _ _ _;refine Aa ?_;unfold Builtin.SmallTypes.ownedTupleIsFree;refine Aa (AO hz rfl (x:=.none) rfl (Ae ?_));simp only[if_true];refine Aa (wpAny_rule ?_);refine Aa (AO hz rfl (x:=.ref TO) rfl ?_);refine Aa (Bc hz (by simp) fun g1 d k1=>?_);replace d:IsZip g1 z TI TO .ellipsis:=d;refine Aa ?_;simp only[List.zipIdx_cons,List.zipIdx_nil,Rp,List.forIn_nil];refine Aa (Aa (wpAny_onRaise ?_));show wpAny _ _ (Builtin.SmallTypes.nextOf (.ref i1) >>= _) _ _ _;refine Aa (D1.item i _ _ _ l1 (D1.frame _ _ _ h1 fun c hc o e=>k1.extBut c o (g c hc) e) fun x g2 lv W X k2=>Ae ?_);have N:IsPair g2 TO a b:=k2.extBut _ _ im (k1.extBut _ _ D.TOz dS);refine Aa (A8 N rfl ?_);refine Aa (wpAny_updateSeq_pair N fun g3 u k3=>?_);replace u:IsPair g3 TO x b:=u;refine Aa (wpAny_letGo (Ae ?_));refine Aa (Aa (wpAny_onRaise ?_));show wpAny _ _ (Builtin.SmallTypes.nextOf (.ref i2) >>= _) _ _ _;refine Aa (D2.item i _ _ _ l2 (D2.frame _ _ _ h2 fun c hc o e=>k3.extBut c o (M c hc) (k2.extBut c o (nZ c hc) (k1.extBut c o (J c hc) e))) fun y g4 BF Y s4 h=>Ae ?_);have O:IsPair g4 TO x b:=h.extBut _ _ nz u;refine Aa (A8 O rfl ?_);refine Aa (wpAny_updateSeq_pair O fun g5 l k5=>?_);replace l:IsPair g5 TO x y:=l;refine Aa (wpAny_letGo (Ae (Ae ?_)));refine Aa (A8 l rfl ?_);refine Aa (wpAny_newTuple ?_);have hsz:g5.objs.size=s⁻¹:=by rw[k5.1,h.1,k3.1,k2.1,k1.1]
 have P:IsZip g5 z TI TO .ellipsis:=k5.extBut _ _ D.TOz.symm (h.extBut _ _ lX.symm (k3.extBut _ _ D.TOz.symm (k2.extBut _ _ kM.symm d)));have kk:∀c o,c≠z->c≠TO->c≠i1->c≠i2->s.heap.get? c=some o->g5.get? c=some o:=fun c o f p C F e=>
  k5.extBut _ _ p (h.extBut _ _ F (k3.extBut _ _ p (k2.extBut _ _ C (k1.extBut _ _ f e))))
 have d1:S1 (i+1) g5:=D1.frame _ _ _ X fun c hc o e=>k5.extBut c o (L c hc) (h.extBut c o (yO c hc) (k3.extBut c o (L c hc) e));have d2:S2 (i+1) g5:=D2.frame _ _ _ s4 fun c hc o e=>k5.extBut c o (M c hc) e;have S:z<g5.objs.size:=Am P;have e1:∀c∈cg,∀o,g5.get? c=some o->c<g5.objs.size:=fun c _ o e=>Am e;show wpAny _ _ (Builtin.SmallTypes.ownedTupleHandOut (.ref z) (.ref g5.objs.size) >>= _) _ _ _;refine Aa ?_;unfold Builtin.SmallTypes.ownedTupleHandOut;have z6:IsZip (g5.push {cls:=.type "tuple",data:=.seq #[x,y]}) z TI TO .ellipsis:=Ad _ P;refine Aa (Bc z6 (by simp) fun g7 G H=>?_);replace G:IsZip g7 z TI TO (rawInt g5.objs.size):=G;refine Bc G (by simp) fun j q I=>?_;replace q:IsZip j z TI TO (rawInt g5.objs.size):=q;have r:∀c o,c≠z->g5.get? c=some o->j.get? c=some o:=fun c o f e=>I.extBut _ _ f (H.extBut _ _ f (Ad _ e));have U:IsPair j g5.objs.size x y:=I.extBut _ _ (AW S) (H.extBut _ _ (AW S) (An _ rfl));have T:j.objs.size=g5.objs.size+1:=by rw[I.1,H.1,Heap.size_push]
 rw[hsz] at q U T;refine Ae ⟨_,rfl,?_⟩;show Q (.ref g5.objs.size) _;rw[hsz];exact hQ x y j _ W Y q (r _ _ D.TOz l) (D1.frame _ _ _ d1 fun c hc o e=>r c o (g c hc) e) (D2.frame _ _ _ d2 fun c hc o e=>r c o (J c hc) e) U T fun c o f p C F e=>r c o f (kk c o f p C F e)
def Km{Q:Fin->Shared->Prop}(D1:Draws prog w A i1 cg n1 P1 S1)(D2:Draws prog w A i2 cm n2 P2 S2)(D:Apart z TI TO i1 i2 cg cm)(hz:IsZip s.heap z TI TO .none)(U:IsPair s.heap TI (.ref i1) (.ref i2))(W:IsPair s.heap TO a b)(h1:S1 i s.heap)(h2:S2 i s.heap)(L:i=n1\/(i<n1/\i=n2))(H:∀h' e tk,(∀c o,c≠z->c≠TO->c≠i1->c≠i2->s.heap.get? c=some o->h'.get? c=some o)->(∃o,h'.get? e=some o/\o.cls=.type "StopIteration")->E (.ref e) {s with heap:=h',toks:=tk}):wpAny (model prog w) A (Builtin.«zip.__next__» ⟨[.ref z],[]⟩) Q E s:=by
 have j:∀c∈cg,c≠z:=fun c hc e=>D.z1 (e▸hc);have v:∀c∈cm,c≠z:=fun c hc e=>D.z2 (e▸hc);have N:∀c∈cg,c≠TO:=fun c hc e=>D.o1 (e▸hc);have O:∀c∈cm,c≠TO:=fun c hc e=>D.o2 (e▸hc);have P:∀c∈cm,c≠i1:=fun c hc e=>D.x12 (e▸hc);have y:i1≠z:=j _ D.m1;have S:i2≠z:=v _ D.m2;have T:TO≠i1:=(N _ D.m1).symm;show wpAny _ _ (field (.ref z) 2 >>= _) _ _ _;refine Aa (AO hz rfl (x:=.bool false) rfl ?_);show wpAny _ _ (field (.ref z) 3 >>= _) _ _ _;refine Aa (AO hz rfl (x:=.ref TI) rfl ?_);refine Aa (A8 U rfl ?_);show wpAny _ _ (Builtin.SmallTypes.ownedTupleIsFree (.ref z) >>= _) _ _ _;refine Aa ?_;unfold Builtin.SmallTypes.ownedTupleIsFree;refine Aa (AO hz rfl (x:=.none) rfl (Ae ?_));simp only[if_true];refine Aa (wpAny_rule ?_);refine Aa (AO hz rfl (x:=.ref TO) rfl ?_);refine Aa (Bc hz (by simp) fun g1 d k1=>?_);replace d:IsZip g1 z TI TO .ellipsis:=d;refine Aa ?_;simp only[List.zipIdx_cons,List.zipIdx_nil,Rp,List.forIn_nil];refine Aa (Aa (wpAny_onRaise ?_));have f1:=D1.frame _ _ _ h1 fun c hc o e=>k1.extBut c o (j c hc) e;rcases L with p|⟨M,p⟩
 ·show wpAny _ _ (Builtin.SmallTypes.nextOf (.ref i1) >>= _) _ _ _
  refine Aa (D1.done _ _ _ (p▸f1) fun g2 e k2 he=>?_);obtain⟨q,f,h⟩:=he;have C:IsZip g2 z TI TO .ellipsis:=k2 _ _ y.symm d;have r:e≠z:=fun x=>by subst x;rw[C] at f;cases f;simp at h
  refine Bc C (by simp) fun g3 _ k3=>H g3 e _ (fun c o g _ l _ x=>k3.extBut _ _ g (k2 _ _ l (k1.extBut _ _ g x))) ⟨q,k3.extBut _ _ r f,h⟩
 ·show wpAny _ _ (Builtin.SmallTypes.nextOf (.ref i1) >>= _) _ _ _
  refine Aa (D1.item i _ _ _ M f1 fun x g2 X Y s2 k2=>Ae ?_);have F:IsPair g2 TO a b:=k2.extBut _ _ T (k1.extBut _ _ D.TOz W);refine Aa (A8 F rfl ?_);refine Aa (wpAny_updateSeq_pair F fun g3 t3 k3=>?_);refine Aa (wpAny_letGo (Ae ?_));refine Aa (Aa (wpAny_onRaise ?_));have f2:S2 i g3:=D2.frame _ _ _ h2 fun c hc o e=>k3.extBut c o (O c hc) (k2.extBut c o (P c hc) (k1.extBut c o (v c hc) e));show wpAny _ _ (Builtin.SmallTypes.nextOf (.ref i2) >>= _) _ _ _;refine Aa (D2.done _ _ _ (p▸f2) fun g4 e u he=>?_);obtain⟨q,f,h⟩:=he;have G:IsZip g4 z TI TO .ellipsis:=u _ _ S.symm (k3.extBut _ _ D.TOz.symm (k2.extBut _ _ y.symm d));have r:e≠z:=fun x=>by subst x;rw[G] at f;cases f;simp at h
  refine Bc G (by simp) fun g5 _ k5=>H g5 e _ (fun c o g I l J x=>k5.extBut _ _ g (u _ _ J (k3.extBut _ _ I (k2.extBut _ _ l (k1.extBut _ _ g x))))) ⟨q,k5.extBut _ _ r f,h⟩
end
def Kn{prog:Program}{w:World}{A:Around}{z TI TO i1 i2:Addr}{cg cm:List Addr}{n1 n2:Nat}{P1 P2:Nat->Value->Prop}{S1 S2:Nat->Heap->Prop}(D1:Draws prog w A.in1 i1 cg n1 P1 S1)(D2:Draws prog w A.in1 i2 cm n2 P2 S2)(D:Apart z TI TO i1 i2 cg cm):WalksT prog w A z (z::TI::TO::(cg++cm)) [z,TO,i1,i2] (min n1 n2) (fun i u=>∃x y,P1 i x/\P2 i y/\u=#[x,y])
   (fun i h=>IsZip h z TI TO .none/\IsPair h TI (.ref i1) (.ref i2)/\(∃a b,IsPair h TO a b)/\S1 i h/\S2 i h)
   (fun i T h=>IsZip h z TI TO (rawInt T)/\IsPair h TI (.ref i1) (.ref i2)/\(∃a b,IsPair h TO a b)/\S1 (i+1) h/\S2 (i+1) h/\T≠z/\T≠TO/\T≠i1/\T≠i2) where
 sub:=fun c hc=>by
  simp at hc ⊢;rcases hc with rfl|rfl|rfl|rfl
  ·simp
  ·simp
  ·exact .inr (.inr (.inr (.inl D.m1)))
  ·exact .inr (.inr (.inr (.inr D.m2)))
 frame:=fun i h h' d hk=>by
  obtain⟨hz,g,⟨a,b,j⟩,h1,h2⟩:=d;exact⟨hk z (by simp) _ hz,hk TI (by simp) _ g,⟨a,b,hk TO (by simp) _ j⟩,D1.frame _ _ _ h1 fun c hc o e=>hk c (by simp[hc]) o e,D2.frame _ _ _ h2 fun c hc o e=>hk c (by simp[hc]) o e⟩
 item:=fun i s Q E hi d l=>by
  obtain⟨hz,g,⟨a,b,j⟩,h1,h2⟩:=d;have f:s.TypeIs (.ref z) "zip":=⟨_,hz,rfl⟩;unfold pyNext;refine Aa (wpAny_attempt (wpAny_callSpecial?_slot (name:=Str.ofString "__next__") f F.slot_zip_next (AZ F.slot_zip_next f F.entry_zip_next
   (Kl D1 D2 D hz g j h1 h2 (Au hi (Nat.min_le_left ..)) (Au hi (Rj ..)) fun x y h' tk v C G H I J L Y hk=>Ae ?_) (F.args_zip_next_1 _))))
  have lt:∀{c o},s.heap.get? c=some o->s⁻¹≠c:=fun e=>AW (Am e);obtain⟨o1,M⟩:=D1.live _ _ h1;obtain⟨o2,N⟩:=D2.live _ _ h2;exact l s⁻¹ #[x,y] h' tk ⟨_,_,v,C,rfl⟩ (Af _) ⟨_,L,rfl,_,rfl⟩ ⟨G,hk _ _ D.TIz D.TITO D.TIi1 D.TIi2 g,⟨_,_,H⟩,I,J,lt hz,lt j,lt M,lt N⟩
   fun c o hc e=>hk c o (fun x=>hc (by simp[x])) (fun x=>hc (by simp[x])) (fun x=>hc (by simp[x])) (fun x=>hc (by simp[x])) e
 go:=fun aZ k pos i T s Q E hm l=>by
  obtain⟨hz,g,⟨a,b,j⟩,h1,h2,_⟩:=hm;refine wpAny_letOwnedTupleGo_zip hz fun h' r p=>l h' ⟨r,p.extBut _ _ D.TIz g,⟨a,b,p.extBut _ _ D.TOz j⟩,
   D1.frame _ _ _ h1 fun c hc o e=>p.extBut c o (fun q=>D.z1 (q▸hc)) e,D2.frame _ _ _ h2 fun c hc o e=>p.extBut c o (fun q=>D.z2 (q▸hc)) e⟩ fun c o hc e=>p.extBut _ _ (fun x=>hc (by simp[x])) e
 apart:=fun i T h hm f=>by
  obtain⟨_,_,_,_,_,O,P,S,U⟩:=hm;simp at f;rcases f with rfl|rfl|rfl|rfl
  ·exact O rfl
  ·exact P rfl
  ·exact S rfl
  ·exact U rfl
 done:=fun s Q E d l=>by
  obtain⟨hz,g,⟨a,b,j⟩,h1,h2⟩:=d;have f:s.TypeIs (.ref z) "zip":=⟨_,hz,rfl⟩;have X:min n1 n2=n1\/(min n1 n2<n1/\min n1 n2=n2):=ω
  unfold pyNext;refine Aa (wpAny_attempt (wpAny_callSpecial?_slot (name:=Str.ofString "__next__") f F.slot_zip_next
   (AZ F.slot_zip_next f F.entry_zip_next (Km D1 D2 D hz g j h1 h2 X fun h' e tk hk he=>?_) (F.args_zip_next_1 _))))
  obtain⟨o,W,hc⟩:=he;refine Aa (wpAny_isInstance (T:="StopIteration") (b:=true) ⟨o,W,hc⟩ isSubtype_stop ?_);exact Ae (l _ tk fun c o hc e=>hk c o (fun x=>hc (by simp[x])) (fun x=>hc (by simp[x])) (fun x=>hc (by simp[x])) (fun x=>hc (by simp[x])) e)
 self:=fun i s Q E d l=>wpAny_pyIter_zip d.1 l
end Zp
end
section
namespace L2
open PySem PySem.Spec PyProof.Rows
section
variable{X:Cx}{aa:Ψ}{σ:St}{H:Hp}{s:Shared}{h':Heap}
def Inv.turneds{t':Nat}{ch:List Addr}(I:Inv X aa σ H s)(hf:∀b∈ch,be X aa H b)(k:∀b o,b∉ch->s.heap.get? b=some o->h'.get? b=some o):Inv X aa σ H {s with heap:=h',toks:=t'}:=by
 have a:∀b u,H b=some u->b∉ch:=fun b u e z=>by have:=(hf b z).1;rw[this] at e;cases e
 refine I.step (g':=s.gens) (d':=s.drawn) (ch:=ch) (fun b hb=>?_) (fun b o _ _ hc e _=>k b o hc e) (fun b o _ _ hc e _=>⟨o.slots,k b o hc e⟩) (fun _ _ _ _ n=>n)
  (fun b o hc e=>⟨o,k b o hc e⟩) (fun _ _ e=>e) (fun _ _ _ e=>e) (fun b ps e=>⟨#[],by rw[e];simp⟩) (fun m hm=>?_) (fun b u e=>?_) I.bare
 ·obtain⟨i,f1,f2,d,f,g⟩:=hf b hb
  exact⟨d,f1,f,g⟩
 ·obtain⟨o,es,ep,h,r⟩:=hm
  exact⟨o,es,ep,k _ o (fun z=>(hf _ z).2.1 rfl) h,r⟩
 ·refine(I.hok b u e).stay (fun c v hc q=>k c v ?_ q) (fun _ q=>q) fun _ _ q=>q
  rcases hc with z|z
  ·rw[z];exact a b u e
  ·exact a c _ z
def Inv.adopt{a:Addr}{o:HO}(I:Inv X aa σ H s)(d:H a=none)(h1:X.s₀⁻¹<=a)(h2:a≠X.env.locals)(f:∀x c,X.env.cells.lookup x=some c->c≠a)(g:∀p∈X.pn++aa,p.1≠a)(new:zw X.prog X.w (upd H a o) s.heap a o):Inv X aa σ (upd H a o) s:=by
 refine I.step (h':=s.heap) (g':=s.gens) (t':=s.toks) (d':=s.drawn) (ch:=[a]) (fun b hb=>?_) (fun b o _ _ hc e _=>e) (fun b o _ _ hc e _=>⟨o.slots,e⟩) (fun b o hc e n=>?_)
  (fun b o hc e=>⟨o,e⟩) (fun b xs e=>?_) (fun b o u e=>?_) (fun b ps e=>⟨#[],?_⟩) (fun m hm=>hm) (fun b u e=>?_) I.bare
 ·have e:b=a:=by simpa using hb
  subst e;exact⟨.inr h1,h2,f,g⟩
 ·rw[al (fun z=>hc (by simp[z]))];exact n
 ·rw[al (zg e d)];exact e
 ·rw[al (zg e d)];exact e
 ·rw[al (zg e d),e];simp
 ·by_cases hb:b=a
  ·subst hb;rw[ag] at e;cases e;exact new
  ·rw[al hb] at e
   exact(I.hok b u e).stay (fun _ _ _ q=>q) (fun c q=>by rw[al (zg q d)];exact q) fun c xs q=>by rw[al (zg q d)];exact q
def Inv.grown{t':Nat}{ch:List Addr}{a:Addr}{o:HO}(I:Inv X aa σ H s)(hf:∀b∈ch,be X aa H b)(k:∀b o,b∉ch->s.heap.get? b=some o->h'.get? b=some o)(hp:s⁻¹<=a)(new:zw X.prog X.w (upd H a o) h' a o):Inv X aa σ (upd H a o) {s with heap:=h',toks:=t'}:=by
 have I1:Inv X aa σ H {s with heap:=h',toks:=t'}:=I.turneds hf k;obtain⟨c,f1,f2,f,d,e⟩:=I.fpOk hp (I.hok.fresh hp);exact I1.adopt c (Ay I.sz hp) f1 d e new
def E6{b t:Addr}{o:Obj}(I:Inv X aa σ H s)(f:be X aa H b)(hk:X.K.lookup t=some o):t≠b:=by
 intro z;subst z;have e:=I.ok.mod.kin t o hk;rcases f.2.2.2.1 with q|q
 ·exact I.ok.noex t o e q
 ·exact absurd (Au (Am (I.ok.bs t o e).1) q) (Qw _)
def E7{b t:Addr}{xs:List V}(I:Inv X aa σ H s)(f:be X aa H b)(h:SqT X.K H t xs):t≠b:=by
 rcases h with (h|⟨o,h⟩)|⟨o,_,_,hk,_⟩
 ·exact zg h f.1
 ·exact zg h f.1
 ·exact E6 I f hk
def Ko{b t:Addr}{xs:List V}(I:Inv X aa σ H s)(f:be X aa H b)(h:SqL X.K H t xs):t≠b:=by
 rcases h with (h|⟨o,h⟩)|⟨o,_,_,hk,_⟩
 ·exact zg h f.1
 ·exact zg h f.1
 ·exact E6 I f hk
end
def E8{P:Program}{w:World}{K:Ac}{J:It}{a wr:List Addr}{it:Addr}{c:Nat->Heap->Prop}{aZ:List Expr}{k:Nat}{pos:Pos}(mem:it∈a)(obj:∀i h,c i h->∀b∈a,∃o,h.get? b=some o/\∀v,o.data≠.cell v)(keep:∀i h h',c i h->(∀b∈a,∀o,h.get? b=some o->h'.get? b=some o)->c i h')(hw:∀b∈wr,b∈a)(W:∀(X:Cx),X.prog=P->X.w=w->X.K=K->X.calm=true->∀(i:Nat)(aa:Ψ)(s:Shared)(σ:St)(H:Hp),Inv X aa σ H s->(∀b∈a,be X aa H b)->c i s.heap->(J.go i H\/J.stop i H)->
   ∃(C:List Addr)(n:Nat)(Pt:Nat->Array Value->Prop)(S:Nat->Heap->Prop)(D:Nat->Addr->Heap->Prop),WalksT P w X.A it C wr n Pt S D/\S i s.heap/\(∀j h,S j h->c j h)/\
    (J.go i H->i<n/\∀d,Pt i d->∃xs:List V,Vals xs d.toList/\xs.length<=sizeLine/\∀p,H p=none->J.yld i H (.ref p) (upd H p (.tup xs)))/\(J.stop i H->i=n))
  (self:∀(A:Around)(i:Nat)(s:Shared)(Q:Ω)(E:Ω),c i s.heap->Q (.ref it) s->wpAny (model P w) A (pyIter (.ref it)) Q E s) :
  Turn P w K (.Tuple aZ k pos) J a it c where
 mem:=mem
 obj:=obj
 keep:=keep
 item:=by
  intro X f l r hc i aa s σ H E I hf st u;obtain⟨C,n,Pt,S,D,WT,F,G,g,_⟩:=W X f l r hc i aa s σ H I hf st (.inl u);obtain⟨hi,U⟩:=g u;subst f l r;refine WT.item i s _ _ hi F fun T d h' tk hp y L hm hk=>⟨.ref T,rfl,?_⟩;obtain⟨xs,Y,hz,hy⟩:=U d hp;have I1:Inv X aa σ (upd H T (.tup xs)) {s with heap:=h',toks:=tk}:=I.grown (ch:=wr) (fun b hb=>hf b (hw b hb)) hk y (show zw X.prog X.w _ h' T (.tup xs) from⟨hz,d.toList,Y,by have q:IsTup h' T d:=L;simpa using q⟩);have yW:∀b∈a,b≠T:=fun b hb=>by
   obtain⟨o,e,_⟩:=obj i _ st b hb;exact Ar (Au (Am e) y)
  have x:∀b∈a,be X aa (upd H T (.tup xs)) b:=fun b hb=>by
   obtain⟨f0,fr⟩:=hf b hb;exact⟨by rw[al (yW b hb)];exact f0,fr⟩
  refine WT.go aZ k pos i T _ _ _ hm fun M N O=>?_;have I2:Inv X aa σ (upd H T (.tup xs)) {s with heap:=M,toks:=tk}:=I1.turneds (s:={s with heap:=h',toks:=tk}) (t':=tk) (ch:=wr) (fun b hb=>x b (hw b hb)) O;exact⟨.ref T,_,I2,rfl,hy T (I.hok.fresh y),G _ _ N,fun b hb=>(x b hb).1⟩
 done:=by
  intro X f l r hc i aa s σ H E I hf st u;obtain⟨C,n,Pt,S,D,WT,F,G,_,g⟩:=W X f l r hc i aa s σ H I hf st (.inr u);subst f l r;have e:=g u;subst e;exact WT.done s _ _ F fun h' tk hk=>⟨rfl,I.turneds (ch:=wr) (fun b hb=>hf b (hw b hb)) hk⟩
 self:=self
def yr(K:Ac)(a b:Addr):It:=
 ⟨fun i H=>∃xs ys,SqT K H a xs/\SqT K H b ys/\i<min xs.length ys.length,
  fun i H v H'=>∃p x y,v=.ref p/\H p=none/\H'=upd H p (.tup [x,y])/\(∀xs,SqT K H a xs->xs[i]?=some x)/\∀ys,SqT K H b ys->ys[i]?=some y,
  fun i H=>∃xs ys,SqT K H a xs/\SqT K H b ys/\i=min xs.length ys.length⟩
def eG:(2:Nat)<=sizeLine:=by rw[sizeLine_eq];decide
def Kp{P:Program}{w:World}{K:Ac}{aZ:List Expr}{k:Nat}{pos:Pos}(N O z TI TO i1 i2:Addr)(hd:TI≠z/\TO≠z/\TI≠TO/\TI≠i1/\TI≠i2/\z≠i1/\z≠i2/\TO≠i1/\TO≠i2/\i1≠i2):Turn P w K (.Tuple aZ k pos) (yr K N O) [z,TI,TO,i1,i2] z (fun i h=>IsZip h z TI TO .none/\IsPair h TI (.ref i1) (.ref i2)/\(∃a b,IsPair h TO a b)/\h.IsTupleIter i1 N i/\h.IsTupleIter i2 O i):=by
 obtain⟨d1,d2,d3,d4,d5,d6,d7,d8,d9,kN⟩:=hd;refine E8 (wr:=[z,TO,i1,i2]) (by simp) (fun i h st b hb=>?_) (fun i h h' st c=>?_) (fun b hb=>?_) (fun X hP hw hK hc i aa s σ H I hf st i9=>?_) fun A i s Q E st h=>wpAny_pyIter_zip st.1 h
 ·obtain⟨d,l,⟨a,b',q⟩,⟨o4,r,_,S⟩,⟨o5,C,_,e5⟩⟩:=st
  simp at hb;rcases hb with rfl|rfl|rfl|rfl|rfl
  ·exact⟨_,d,fun v z=>by cases z⟩
  ·exact⟨_,l,fun v z=>by cases z⟩
  ·exact⟨_,q,fun v z=>by cases z⟩
  ·exact⟨_,r,fun v z=>by rw[S] at z;cases z⟩
  ·exact⟨_,C,fun v z=>by rw[e5] at z;cases z⟩
 ·obtain⟨d,l,⟨a,b',q⟩,r,C⟩:=st
  exact⟨c z (by simp) _ d,c TI (by simp) _ l,⟨a,b',c TO (by simp) _ q⟩,r.at fun o e=>c i1 (by simp) o e,C.at fun o e=>c i2 (by simp) o e⟩
 ·simp at hb ⊢
  rcases hb with rfl|rfl|rfl|rfl<;>simp
 ·subst hP hw hK
  have hd:∃xs ys,SqT X.K H N xs/\SqT X.K H O ys:=by
   rcases i9 with ⟨xs,ys,a,b,_⟩|⟨xs,ys,a,b,_⟩
   ·exact⟨xs,ys,a,b⟩
   ·exact⟨xs,ys,a,b⟩
  obtain⟨xs,ys,D,F⟩:=hd;obtain⟨us,r1,p1,_⟩:=I.tuple D;obtain⟨ws,r2,p2,_⟩:=I.tuple F;have L:=r1.length;have M:=r2.length;have hh:=I.ok.hd hc;obtain⟨d,l,q,r,C⟩:=st;have f:=fun b hb=>E7 I (hf b hb) D;have T:=fun b hb=>E7 I (hf b hb) F;have AP:Zp.Apart z TI TO i1 i2 [i1,N] [i2,O]:=by
   refine⟨?_,?_,?_,?_,by simp,by simp,?_,?_,d1,d2,d3,d4,d5⟩
   ·simp;exact⟨d6,(f z (by simp)).symm⟩
   ·simp;exact⟨d7,(T z (by simp)).symm⟩
   ·simp;exact⟨d8,(f TO (by simp)).symm⟩
   ·simp;exact⟨d9,(T TO (by simp)).symm⟩
   ·simp;exact⟨kN,(T i1 (by simp)).symm⟩
   ·simp;exact⟨kN.symm,(f i2 (by simp)).symm⟩
  have WZ:=Zp.Kn (prog:=X.prog) (w:=X.w) (A:=X.A) (Zp.E5 (A:=X.A.in1) hh i1 N (f i1 (by simp)) us.toArray) (Zp.E5 (A:=X.A.in1) hh i2 O (T i2 (by simp)) ws.toArray) AP;refine⟨_,_,_,_,_,WZ,⟨d,l,q,⟨r,p1⟩,⟨C,p2⟩⟩,fun j h st=>⟨st.1,st.2.1,st.2.2.1,st.2.2.2.1.1,st.2.2.2.2.1⟩,fun g=>?_,fun g=>?_⟩
  ·obtain⟨G,J,U,W,hi⟩:=g
   have e1:=I.tuple_inj U D;have e2:=I.tuple_inj W F;subst e1 e2;refine⟨by simpa[<-L,<-M] using hi,fun bh hp=>?_⟩;obtain⟨x,y,px,py,rfl⟩:=hp;have oN:us[i]?=some x:=by simpa using px
   have Y:ws[i]?=some y:=by simpa using py
   have lx:i<G.length:=ω
   have ly:i<J.length:=ω
   have gx:G[i]?=some G[i]:=by simp[lx]
   have gy:J[i]?=some J[i]:=by simp[ly]
   obtain⟨u,e3,ru⟩:=r1.get gx;obtain⟨u',S,dE⟩:=r2.get gy;rw[oN] at e3;cases e3;rw[Y] at S;cases S;refine⟨[G[i],J[i]],.cons ru (.cons dE .nil),eG,fun p hp=>⟨p,_,_,rfl,hp,rfl,fun zs hz=>?_,fun zs hz=>?_⟩⟩
   ·rw[I.tuple_inj hz D];exact gx
   ·rw[I.tuple_inj hz F];exact gy
  ·obtain⟨G,J,U,W,hi⟩:=g
   have e1:=I.tuple_inj U D;have e2:=I.tuple_inj W F;subst e1 e2
   simpa[<-L,<-M] using hi
def Kq(b e:Addr)(xs ys:Array Value):Meets (Builtin.«zip.__new__» ⟨[.type "zip",.ref b,.ref e],[]⟩) (fun _ R s=>s.heap.IsTuple b xs/\s.heap.IsTuple e ys/\
   ∀h',IsZip h' (s⁻¹+4) (s⁻¹+2) (s⁻¹+3) .none->IsPair h' (s⁻¹+2) (.ref s⁻¹) (.ref (s⁻¹+1))->
   IsPair h' (s⁻¹+3) .none .none->h'.IsTupleIter s⁻¹ b 0->h'.IsTupleIter (s⁻¹+1) e 0->
   (∀c o,s.heap.get? c=some o->h'.get? c=some o)->R (.ok (.ret (.ref (s⁻¹+4)))) {s with heap:=h'}):=
 .of_wp fun prog w A R s h=>by
  obtain⟨hp,g,d,tk,os⟩:=s;obtain⟨f,i,h⟩:=h;have p:=sub_zip;have j:Heap.IsTuple (Shared.heap ⟨hp,g,d,tk,os⟩) b xs:=f;have l:Heap.IsTuple (Shared.heap ⟨hp.push {cls:=.type "tuple_iterator",data:=.fields #[.ref b,.int 0 0]},g,d,tk,os⟩) e ys:=Heap.IsTuple.push i _
  wp_walk using wpAny_pyIter_tuple j,wpAny_pyIter_tuple l
  refine⟨_,rfl,?_⟩;dsimp only at h ⊢;have a:∀(h:Heap)(o:Obj),(h.push o).objs.size=h.objs.size+1:=fun h o=>Heap.size_push ..;simp only[a,Nat.add_assoc,Nat.reduceAdd];refine h _ ?_ ?_ ?_ ?_ ?_ fun c o x=>Ad _ (Ad _ (Ad _ (Ad _ (Ad _ x))))
  ·exact Heap.get?_push_at (by simp only[a]) rfl
  ·exact Ad _ (Ad _ (Heap.get?_push_at (by simp only[a]) rfl))
  ·exact Ad _ (Heap.get?_push_at (by simp only[a]) rfl)
  ·exact⟨_,Ad _ (Ad _ (Ad _ (Ad _ (An _ rfl)))),rfl,rfl⟩
  ·exact⟨_,Ad _ (Ad _ (Ad _ (Heap.get?_push_at (by simp only[a]) rfl))),rfl,rfl⟩
section
variable{X:Cx}{aZ:List Expr}{k:Nat}{eh:Pos}
def yx(K:Ac)(ta:TA):TI:=fun σ H R=>ta σ H fun vs H1=>∃a b,vs=[.ref a,.ref b]/\(∃xs,SqT K H1 a xs)/\(∃ys,SqT K H1 b ys)/\R (yr K a b) H1
def Kr{a b:Expr}{ta:TA}{p pos:Pos}(J:Gl X "zip")(hm:X.mg "zip"=none)(L:AV "zip"=some (.type "zip"))(ha:PA X [a,b] ta)(M:starEach [a,b] X.env=[(false,eval a X.env),(false,eval b X.env)]:=by rfl)(j:starEach [b] X.env=[(false,eval b X.env)]:=by rfl):PI X (.Tuple aZ k eh) (.Call (.Name "zip" p) [a,b] [] pos) (yx X.K ta):=by
 intro aa s σ H R I h;refine Call_ (jD I J hm L (P6 (aV (ha pos aa s σ H _ I h) fun us c ⟨vs,H1,I1,l,d⟩=>?_) (by rw[M,j]) (by rw[j];rfl)));obtain⟨g,i,e,⟨xs,d⟩,⟨ys,y⟩,q⟩:=d;subst e;obtain⟨u,O,rfl,A,C⟩:=vals2 l;cases A;cases C;obtain⟨D,_,E,_⟩:=I1.tuple d;obtain⟨G,_,p2,_⟩:=I1.tuple y;refine callType_new F.called_zip ξ (F.typeCall_zip_2 _ _) (F.newCall_zip_2 _ _) (fun obj=>F.args_object_init_3 obj _ _) F.entry_zip_new (Kq g i D.toArray G.toArray) ⟨E,p2,fun h' f o r v w x=>?_⟩;refine⟨⟨_,f,rfl⟩,wpAny_pyIter_zip f ?_⟩;have N:Inv X aa σ H1 {c with heap:=h'}:=I1.kept (t':=c.toks) x;refine⟨c⁻¹+4,[c⁻¹+4,c⁻¹+2,c⁻¹+3,c⁻¹,c⁻¹+1],_,_,H1,rfl,N,Kp g i _ _ _ _ _ (by refine⟨?_,?_,?_,?_,?_,?_,?_,?_,?_,?_⟩<;>(intro z;have P:(_:Nat)=_:=z;omega)),⟨f,o,⟨_,_,r⟩,v,w⟩,fun b hb=>?_,q⟩;have hb':c⁻¹<=b:=by
  simp only[Pa,RY,or_false] at hb;rcases hb with rfl|rfl|rfl|rfl|rfl
  ·exact QQ _ _
  ·exact QQ _ _
  ·exact QQ _ _
  ·exact Af _
  ·exact QQ _ _
 exact I1.fpOk hb' (I1.hok.fresh hb')
end
def mx(K:Ac)(a:Addr):It:=
 ⟨fun i H=>∃xs,SqL K H a xs/\i<xs.length,
  fun i H v H'=>∃p x,v=.ref p/\H p=none/\H'=upd H p (.tup [.int i,x])/\∀xs,SqL K H a xs->xs[i]?=some x,
  fun i H=>∃xs,SqL K H a xs/\i=xs.length⟩
def Ks{P:Program}{w:World}{K:Ac}{aZ:List Expr}{k:Nat}{pos:Pos}(a e it:Addr)(hd:e≠it):Turn P w K (.Tuple aZ k pos) (mx K a) [e,it] e (fun i h=>(∃d,IsEnum h e it i d)/\h.IsListIter it a i):=by
 refine E8 (wr:=[e,it]) (by simp) (fun i h st b hb=>?_) (fun i h h' st G=>?_) (fun b hb=>hb) (fun X M hw N hc i aa s σ H I hf st O=>?_) fun A i s Q E st h=>?_
 ·obtain⟨⟨d,c⟩,⟨o4,l,_,S⟩⟩:=st
  simp at hb;rcases hb with rfl|rfl
  ·exact⟨_,c,fun v z=>by cases z⟩
  ·exact⟨_,l,fun v z=>by rw[S] at z;cases z⟩
 ·obtain⟨⟨d,c⟩,l⟩:=st
  exact⟨⟨d,G e (by simp) _ c⟩,l.at fun o q=>G it (by simp) o q⟩
 ·subst M hw N
  have F:∃xs,SqL X.K H a xs:=by
   rcases O with ⟨xs,q,_⟩|⟨xs,q,_⟩
   ·exact⟨xs,q⟩
   ·exact⟨xs,q⟩
  obtain⟨xs,r⟩:=F;obtain⟨us,J,T,_⟩:=I.list r;have y:=J.length;have hh:=I.ok.hd hc;obtain⟨c,l⟩:=st;have f:=fun b hb=>Ko I (hf b hb) r;have WZ:=WalksT.enumerateD (prog:=X.prog) (w:=X.w) (A:=X.A) (Draws.list (A:=X.A.in1) hh it a (f it (by simp)) us.toArray) e hd (by simp;exact⟨hd,(f e (by simp)).symm⟩) (by simp);refine⟨_,_,_,_,_,WZ,⟨c,l,T.isList⟩,fun j h st=>⟨st.1,st.2.1⟩,fun g=>?_,fun g=>?_⟩
  ·obtain⟨C,D,hi⟩:=g
   have e1:=I.list_inj D r;subst e1;refine⟨by simpa[<-y] using hi,fun bh hp=>?_⟩;obtain⟨t,x,U,rfl⟩:=hp;have Y:us[i]?=some x:=by simpa using U
   have L:C[i]?=some C[i]:=by simp[hi]
   obtain⟨u,e3,W⟩:=J.get L;rw[Y] at e3;cases e3;refine⟨[.int i,C[i]],.cons ⟨_,rfl⟩ (.cons W .nil),eG,fun p hp=>⟨p,_,rfl,hp,rfl,fun zs hz=>?_⟩⟩;rw[I.list_inj hz r];exact L
  ·obtain⟨C,D,hi⟩:=g
   have e1:=I.list_inj D r;subst e1
   simpa[<-y] using hi
 ·obtain⟨⟨d,c⟩,_⟩:=st
  exact wpAny_pyIter_enum c h
section
variable{X:Cx}{aZ:List Expr}{k:Nat}{eh:Pos}
def Kt(K:Ac)(ta:TA):TI:=fun σ H R=>ta σ H fun vs H1=>∃a,vs=[.ref a]/\(∃xs,SqL K H1 a xs)/\R (mx K a) H1
def yz{a:Expr}{ta:TA}{p pos:Pos}(v:Gl X "enumerate")(hm:X.mg "enumerate"=none)(w:AV "enumerate"=some (.type "enumerate"))(ha:PA X [a] ta)(x:starEach [a] X.env=[(false,eval a X.env)]:=by rfl):PI X (.Tuple aZ k eh) (.Call (.Name "enumerate" p) [a] [] pos) (Kt X.K ta):=by
 intro aa s σ H R I h;refine Call_ (jD I v hm w (P6 (aV (ha pos aa s σ H _ I h) fun us c ⟨vs,H1,I1,g,d⟩=>?_) x rfl));obtain⟨l,e,⟨xs,d⟩,q⟩:=d;subst e;obtain⟨u,rfl,o⟩:=vals1 g;cases o;obtain⟨C,_,r,_⟩:=I1.list d;refine call_enumerate_list r.isList fun h' f i A j=>?_;refine wpAny_pyIter_enum f ?_;have y:Inv X aa σ H1 {c with heap:=h'}:=I1.kept (t':=c.toks) j;refine⟨c⁻¹+1,[c⁻¹+1,c⁻¹],_,_,H1,rfl,y,Ks l _ _ (by intro z;have D:(_:Nat)=_:=z;omega),⟨⟨_,f⟩,i⟩,fun b hb=>?_,q⟩;have hb':c⁻¹<=b:=by
  simp only[Pa,RY,or_false] at hb;rcases hb with rfl|rfl
  ·exact QQ _ _
  ·exact Af _
 exact I1.fpOk hb' (I1.hok.fresh hb')
def E9{K:Ac}{a:Addr}{xs:List V}{g:TG}{tb:TS}{D:Ends}{σ:St}{H:Hp}(b:Nat->St->Hp->Prop)(r:b 0 σ H)(u:∀i σ H,i<=xs.length->b i σ H->SqL K H a xs)(v:∀i x p σ H,xs[i]?=some x->b i σ H->H p=none->g (.ref p) σ (upd H p (.tup [.int i,x])) fun d H2=>tb {D with nx:=b (i+1),ct:=b (i+1),bk:=D.nx} d H2)(hd:∀σ H,b xs.length σ H->D.nx σ H):∃W:Nat->Nat->St->Hp->Prop,(∃m,W 0 m σ H)/\∀i m σ H,W i m σ H->
   ((mx K a).stop i H/\D.nx σ H)\/((mx K a).go i H/\∃N:St->Hp->Prop,(∀f H',N f H'->∃h,h<m/\W (i+1) h f H')/\∀x H',(mx K a).yld i H x H'->g x σ H' fun d H2=>tb {D with nx:=N,ct:=N,bk:=D.nx} d H2):=by
 refine⟨fun i m σ H=>m=xs.length-i/\i<=xs.length/\b i σ H,⟨xs.length,by simp,AX _,r⟩,?_⟩;rintro i m σ H ⟨rfl,hi,p⟩;have q:=u i σ H hi p
 by_cases c:i<xs.length
 ·refine .inr ⟨⟨xs,q,c⟩,b (i+1),fun f H' j=>⟨xs.length-(i+1),ω,rfl,c,j⟩,fun x H' y=>?_⟩
  obtain⟨l,o,rfl,hp,rfl,y⟩:=y;exact v i o l σ _ (y xs q) p hp
 ·have e:i=xs.length:=ω
  subst e;exact .inl ⟨⟨xs,q,rfl⟩,hd σ H p⟩
def eH:∀{bs:List Bool}{us:List Value},Vals (bs.map V.bl) us->LSm.BoolsAre us bs
 |[],_,.nil=>.nil
 |b::bs,_,.cons r t=>by cases r;exact .cons b (eH t)
def E_(hc:X.calm=true):dy X (.builtin "all") (fun xs H Q=>∃(l:Addr)(bs:List Bool),xs=[.ref l]/\SqL X.K H l (bs.map V.bl)/\Q (.bl (bs.all id)) H):=by
 intro aa s σ H xs us Q I r h;obtain⟨l,bs,rfl,hq,q⟩:=h;obtain⟨u,rfl,g⟩:=vals1 r;cases g;obtain⟨ae,j,o,_⟩:=I.list hq;have hh:=I.ok.hd hc;have a:=o.isList;have hb:=eH j;have c:l<s⁻¹:=by obtain⟨_,e,_⟩:=a;exact Am e
 refine call_all_walk (wpAny_pyIter_list a ?_);refine⟨s⁻¹,[s⁻¹,l],[s⁻¹],ae.toArray.size,_,_,fun i=>(bs[i]?).getD true,rfl,Walks.list (A:=X.A.in1) hh _ l (Ar c) ae.toArray,
  ⟨⟨_,An _ rfl,rfl,rfl⟩,a.push _⟩,fun i v s' p w f d=>?_,fun h' tk hk=>?_⟩
 ·obtain⟨b,e,rfl⟩:=hb.get i v (by simpa using f)
  simp only[e,RX] at d;exact wpAny_truthy_bool d
 ·have e:((AI ae.toArray.size).all fun i=>(bs[i]?).getD true)=bs.all id:=by
   rw[Al,hb.length];exact LSm.range_all bs
  rw[e];exact⟨.bl _,H,I.kept (LSm.kept_iter hk),rfl,q⟩
end
section
variable{K:Ac}{a:Addr}{xs:List V}{g:TG}{tc:TT}{te:TE}{σ:St}{H1:Hp}{Q:VK}{D:Addr}
def yK(n:Nat)(a:Nat->St->List V->Hp->Prop)(i m:Nat)(σ:St)(H:Hp):Prop:=m=n-i/\i<=n/\∃ys,ys.length<=i/\a i σ ys H
def eI(n:Nat)(d:Nat->St->List V->Hp->Prop)(D:Addr)(i:Nat)(c:St):VK:=fun y b=>∃ys a,b D=some (.lst ys)/\ys.length<sizeLine/\a<n-i/\yK n d (i+1) a c (upd b D (.lst (ys++[y])))
def du(n:Nat)(c:Nat->St->List V->Hp->Prop)(i:Nat)(b:St)(d:Hp):Prop:=∃a,a<n-i/\yK n c (i+1) a b d
def bw{n:Nat}{c:Nat->St->List V->Hp->Prop}{i:Nat}{b:St}{ys:List V}{y:V}{a:Hp}(d:n<=sizeLine)(hi:i<n)(f:ys.length<=i)(e:a D=some (.lst ys))(p:c (i+1) b (ys++[y]) (upd a D (.lst (ys++[y])))):eI n c D i b y a:=
 ⟨ys,n-(i+1),e,ω,ω,rfl,hi,ys++[y],by simp;omega,p⟩
def cV{n:Nat}{b:Nat->St->List V->Hp->Prop}{i:Nat}{a:St}{ys:List V}{c:Hp}(hi:i<n)(d:ys.length<=i)(p:b (i+1) a ys c):du n b i a c:=
 ⟨n-(i+1),ω,rfl,hi,ys,ω,p⟩
def kH{J:It}(n:Nat)(a:Nat->St->List V->Hp->Prop)(l:a 0 σ [] (upd H1 D (.lst [])))(o:∀σ ys H,a n σ ys H->J.stop n H)(q:∀i σ ys H,i<n->a i σ ys H->J.go i H)(r:∀i σ ys H x H',i<n->ys.length<=i->a i σ ys H->J.yld i H x H'->g x σ H' fun d u=>tc d u fun b h=>if b=true then te d h (eI n a D i d) else du n a i d h)(hd:∀σ ys H,a n σ ys H->Q (.ref D) H):zU J g tc te σ H1 D Q:=by
 refine⟨yK n a,⟨n,by simp,AX _,[],Af _,l⟩,?_⟩;rintro i m f H2 ⟨rfl,hi,ys,j,p⟩
 by_cases c:i<n
 ·exact .inr ⟨q i f ys H2 c p,fun x v y=>r i f ys H2 x v c j p y⟩
 ·have e:i=n:=ω
  subst e;exact .inl ⟨o f ys H2 p,hd f ys H2 p⟩
def zE(c:Nat->St->List V->Hp->Prop)(j:c 0 σ [] (upd H1 D (.lst [])))(f:∀i σ ys H,c i σ ys H->SqL K H a xs)(l:∀i σ ys H x,xs[i]?=some x->i<xs.length->ys.length<=i->c i σ ys H->g x σ H fun d o=>tc d o fun b h=>if b=true then te d h (eI xs.length c D i d) else du xs.length c i d h)(hd:∀σ ys H,c xs.length σ ys H->Q (.ref D) H):zU (dG K a) g tc te σ H1 D Q:=by
 refine kH xs.length c j (fun σ ys H p=>⟨xs,f _ _ _ _ p,Af _⟩) (fun i σ ys H hi p=>⟨xs,xs[i],f _ _ _ _ p,by simp[hi]⟩) (fun i σ ys H x H' hi hy p y=>?_) hd;obtain⟨e,y⟩:=y;subst e;exact l i σ ys _ x (y xs (f _ _ _ _ p)) hi hy p
def Ku(c:Nat->St->List V->Hp->Prop)(j:c 0 σ [] (upd H1 D (.lst [])))(f:∀i σ ys H,c i σ ys H->SqT K H a xs)(l:∀i σ ys H x,xs[i]?=some x->i<xs.length->ys.length<=i->c i σ ys H->g x σ H fun d o=>tc d o fun b h=>if b=true then te d h (eI xs.length c D i d) else du xs.length c i d h)(hd:∀σ ys H,c xs.length σ ys H->Q (.ref D) H):zU (kl K a) g tc te σ H1 D Q:=by
 refine kH xs.length c j (fun σ ys H p=>⟨xs,f _ _ _ _ p,Af _⟩) (fun i σ ys H hi p=>⟨xs,xs[i],f _ _ _ _ p,by simp[hi]⟩) (fun i σ ys H x H' hi hy p y=>?_) hd;obtain⟨e,y⟩:=y;subst e;exact l i σ ys _ x (y xs (f _ _ _ _ p)) hi hy p
def qX{lo:Int}{n:Nat}(a:Nat->St->List V->Hp->Prop)(f:a 0 σ [] (upd H1 D (.lst [])))(h:∀i σ ys H,i<n->ys.length<=i->a i σ ys H->g (.int (lo+i)) σ H fun c j=>tc c j fun b d=>if b=true then te c d (eI n a D i c) else du n a i c d)(hd:∀σ ys H,a n σ ys H->Q (.ref D) H):zU (ge lo n) g tc te σ H1 D Q:=by
 refine kH n a f (fun σ ys H p=>Af _) (fun i σ ys H hi p=>hi) (fun i σ ys H x H' hi hy p y=>?_) hd;obtain⟨e,y⟩:=y;subst e y;exact h i σ ys _ hi hy p
def Kv{e f:Addr}{ys:List V}(a:Nat->St->List V->Hp->Prop)(r:a 0 σ [] (upd H1 D (.lst [])))(c:∀i σ zs H,a i σ zs H->SqT K H e xs/\SqT K H f ys)(u:∀i σ zs H p x y,xs[i]?=some x->ys[i]?=some y->i<min xs.length ys.length->zs.length<=i->a i σ zs H->H p=none->g (.ref p) σ (upd H p (.tup [x,y])) fun d w=>tc d w fun b h=>if b=true then te d h (eI (min xs.length ys.length) a D i d) else du (min xs.length ys.length) a i d h)(hd:∀σ zs H,a (min xs.length ys.length) σ zs H->Q (.ref D) H):zU (yr K e f) g tc te σ H1 D Q:=by
 refine kH (min xs.length ys.length) a r (fun σ zs H p=>⟨xs,ys,(c _ _ _ _ p).1,(c _ _ _ _ p).2,rfl⟩) (fun i σ zs H hi p=>⟨xs,ys,(c _ _ _ _ p).1,(c _ _ _ _ p).2,hi⟩) (fun i σ zs H v H' hi hy p y=>?_) hd;obtain⟨j,x,l,rfl,hp,rfl,o,q⟩:=y;exact u i σ zs H j x l (o xs (c _ _ _ _ p).1) (q ys (c _ _ _ _ p).2) hi hy p hp
end
end L2
end
section
namespace Dk
open PySem PySem.Spec PyProof.Rows
def IsD(h:Heap)(d:Addr)(es:Array DictEntry)(ep:Nat):Prop:=∃o,h.get? d=some o/\o.ExactDict/\o.data=.dict es ep
def IsD.at{h h':Heap}{d:Addr}{es:Array DictEntry}{ep:Nat}(x:IsD h d es ep)(k:∀o,h.get? d=some o->h'.get? d=some o):IsD h' d es ep:=let ⟨o,ho,r⟩:=x;⟨o,k o ho,r⟩
def IsD.lt{h:Heap}{d:Addr}{es:Array DictEntry}{ep:Nat}(x:IsD h d es ep):d<h.objs.size:=let ⟨_,ho,_⟩:=x;Am ho
section
variable{prog:Program}{w:World}{A:Around}{E:Ω}{s:Shared}{it d:Addr}{i ep:Nat}{es:Array DictEntry}
def IsD.typeIs(x:IsD s.heap d es ep):s.TypeIs (.ref d) "dict":=let ⟨o,ho,r⟩:=x;⟨o,ho,r.1.1⟩
def iter{Q:Ω}(hd:(d==sysModules)=false)(hm:IsD s.heap d es ep)(e:Q (.ref s⁻¹) {s with heap:=s.heap.push {cls:=.type "dict_keyiterator",data:=.fields #[.ref d,.int 0 0,.int es.size 0,.int ep 0]}}):wpAny (model prog w) A (pyIter (.ref d)) Q E s:=by
 have a:=hm.typeIs;obtain⟨o,b,hc,c⟩:=id hm;refine wpAny_pyIter_slot a PySem.F.slot_dict_iter (AZ PySem.F.slot_dict_iter a PySem.F.entry_dict_iter ?_ (PySem.F.args_dict_iter_1 _));unfold Builtin.«dict.__iter__»;refine Aa ?_;unfold Builtin.Dict.dictSlotNone;refine Aa (wpAny_notOrdered_dict a ?_);show wpAny _ _ (pure (Value.ref d)) _ _ s;refine Ae ?_;show wpAny _ _ (Builtin.Dict.showsAll d >>= _) _ _ s;unfold Builtin.Dict.showsAll;rw[Sb (by rw[hd];exact Aq)];refine Aa (Ae ?_);refine Aa (A9 b c ?_);refine Aa (wpAny_dictEpoch b c ?_);refine Aa (AQ (Ae ⟨_,rfl,"dict_keyiterator",_,⟨_,An _ rfl,rfl⟩,PySem.F.slot_dict_keyiterator_next.lookup,?_⟩))
 simpa[rawInt] using e
def item{Q:Option Value->Shared->Prop}(a:s.heap.IsKeyIter it d i es.size ep)(hm:IsD s.heap d es ep)(hx:i<es.size)(g:∀h',h'.IsKeyIter it d (i+1) es.size ep->Heap.SameBut it s.heap h'->Q (some es[i].key) {s with heap:=h'}):wpAny (model prog w) A (pyNext (.ref it)) Q E s:=by
 obtain⟨o,b,hc,hd⟩:=id a;obtain⟨h,c,j,hdd⟩:=id hm;unfold pyNext;refine Aa (wpAny_attempt (wpAny_callSpecial?_slot (name:=Str.ofString "__next__") a.typeIs P0
  (AZ P0 a.typeIs QY ?_ (QS _))))
 refine Aa (Ae ?_);refine Aa ?_;refine Aa ?_
 first|refine Aa (wpAny_typeNameOfWhole_keyiter a.typeIs (Ae ?_))|refine Aa (wpAny_typeNameOf_keyiter a.typeIs (Ae ?_))
 refine Aa (wpAny_fieldsOf b hd ?_);have f:Builtin.Dict_items.ownsTuple "dict_keyiterator"=false:=ξ
 simp only[f,AG,if_false];show wpAny _ _ (if(Value.ref d==Value.none)=true then _ else _) _ _ s;rw[Sb (show ¬((Value.ref d==Value.none)=true) from Aq)];refine Aa (Ae ?_);refine Aa (A9 c hdd ?_);rw[Sb (by simp)];refine Aa (Ae ?_);refine Aa (wpAny_dictEpoch c hdd ?_);rw[Sb (by simp)];refine Ae ?_;simp only[show ¬((i:Int)<0) from ω,if_false,Qj,Qe hx];refine Aa ?_
 first|refine Aa (wpAny_typeNameOfWhole_keyiter a.typeIs (Ae ?_))|refine Aa (wpAny_typeNameOf_keyiter a.typeIs (Ae ?_))
 refine Aa (wpAny_isOneOf_keyiter a.typeIs ?_);show wpAny _ _ (setField (.ref it) 1 (rawInt ((i:Int)+1)) >>= _) _ _ s;refine Aa (wpAny_setField b hd (by simp) ?_);have e:(s.heap.update it (Obj.mapFields (·.setIfInBounds 1 (rawInt ((i:Int)+1))))).IsKeyIter it d (i+1) es.size ep:=
  ⟨_,Heap.get?_update_self _ b (Obj.isFreed_of_fields (Obj.data_mapFields hd _)),(Obj.cls_mapFields ..).trans hc,by rw[Obj.data_mapFields hd];simp[rawInt]⟩
 refine Aa (AD ?_);refine Aa (wpAny_isOneOf_keyiter (s:={s with heap:=s.heap.update it (Obj.mapFields (·.setIfInBounds 1 (rawInt ((i:Int)+1))))}) e.typeIs ?_);show wpAny _ _ (pure es[i].key) _ _ _;exact Ae (Ae ⟨_,rfl,Ae (g _ e (AR ..))⟩)
def done{Q:Option Value->Shared->Prop}(hh:A.handled=none)(c:s.heap.IsKeyIter it d es.size es.size ep)(hm:IsD s.heap d es ep)(h:∀h',Heap.ExtBut it s.heap h'->Q none {s with heap:=h'}):wpAny (model prog w) A (pyNext (.ref it)) Q E s:=by
 obtain⟨o,e,hc,hd⟩:=id c;obtain⟨i,f,j,hdd⟩:=id hm;unfold pyNext;refine Aa (wpAny_attempt (wpAny_callSpecial?_slot (name:=Str.ofString "__next__") c.typeIs P0
  (AZ P0 c.typeIs QY ?_ (QS _))))
 refine Aa (Ae ?_);refine Aa ?_;refine Aa ?_
 first|refine Aa (wpAny_typeNameOfWhole_keyiter c.typeIs (Ae ?_))|refine Aa (wpAny_typeNameOf_keyiter c.typeIs (Ae ?_))
 refine Aa (wpAny_fieldsOf e hd ?_);have g:Builtin.Dict_items.ownsTuple "dict_keyiterator"=false:=ξ
 simp only[g,AG,if_false];show wpAny _ _ (if(Value.ref d==Value.none)=true then _ else _) _ _ s;rw[Sb (show ¬((Value.ref d==Value.none)=true) from Aq)];refine Aa (Ae ?_);refine Aa (A9 f hdd ?_);rw[Sb (by simp)];refine Aa (Ae ?_);refine Aa (wpAny_dictEpoch f hdd ?_);rw[Sb (by simp)];refine Ae ?_;simp only[show ¬((es.size:Int)<0) from ω,if_false,Qj,Array.getElem?_eq_none (Af es.size)];refine Aa ?_
 first|refine Aa (wpAny_typeNameOfWhole_keyiter c.typeIs (Ae ?_))|refine Aa (wpAny_typeNameOf_keyiter c.typeIs (Ae ?_))
 show wpAny _ _ (setField (.ref it) 0 .none >>= _) _ _ s;refine Aa (wpAny_setField e hd (by simp) ?_);show wpAny _ _ (newExc (.type "StopIteration") [] >>= _) _ _ _;refine Aa ?_;simp only[newExc,newTuple];refine Aa (AQ ?_ (by size_fits));refine Aa (m:=firstArgMember _ _) (wpAny_of_eq (a:=Value.none) (by first|rfl|(simp only[firstArgMember];rfl)) ?_);refine AQ ?_ (by size_fits);simp only[raiseNew];refine Aa (wpAny_handled ?_);rw[show A.in1.handled=none from hh];refine Aa (Ae (wpAny_throw ?_));refine Aa (wpAny_isInstance (T:="StopIteration") (b:=true) ⟨_,An _ rfl,rfl⟩ isSubtype_stop ?_);exact Ae (h _ (((AR ..).extBut.push _).push _))
def walks(hh:A.handled=none)(I d:Addr)(c:d≠I)(es:Array DictEntry)(ep:Nat):Walks prog w A I [I,d] [I] es.size (fun i v=>∃e,es[i]?=some e/\v=e.key) (fun i h=>h.IsKeyIter I d i es.size ep/\IsD h d es ep) where
 sub:=fun b hb=>by simp at hb ⊢;exact .inl hb
 frame:=fun i h h' st k=>⟨let ⟨o,ho,r⟩:=st.1;⟨o,k I (by simp) o ho,r⟩,st.2.at fun o e=>k d (by simp) o e⟩
 item:=fun i s Q E hi st a=>item st.1 st.2 hi fun h' f sb=>a _ h' s.toks ⟨es[i],by simp[hi],rfl⟩ ⟨f,st.2.at fun o e=>(sb.2 d c).trans e⟩ fun b o hb e=>(sb.2 b (fun z=>hb (by simp[z]))).trans e
 done:=fun s Q E st a=>done hh st.1 st.2 fun h' g=>a h' s.toks fun b o hb e=>g b o (fun z=>hb (by simp[z])) e
 self:=fun i s Q E st a=>wpAny_pyIter_keyiter st.1 a
def src(lo:(d==sysModules)=false):PySem.W.KdlSrc prog w "dict" d d es.size (fun i v=>∃e,es[i]?=some e/\v=e.key) (fun h=>IsD h d es ep) where
 type:=fun _ hm=>hm.typeIs
 there:=fun _ hm=>⟨hm.lt,hm.lt⟩
 keep:=fun _ _ hm hk=>hm.at fun o e=>hk d (.inl rfl) o e
 notList:=ξ
 notTuple:=ξ
 hint:=fun _ _ _ _ hm hq=>PySem.W.kdl_hint_dict hm.typeIs hq
 iter:=fun _ s hh hm=>⟨_,_,(fun _ _ hq=>iter lo hm hq),walks hh _ d (Ar hm.lt) es ep,⟨⟨_,An _ rfl,rfl,rfl⟩,hm.at fun o e=>Ad _ e⟩⟩
end
end Dk
namespace L2
open PySem PySem.Spec PyProof.Rows
section
variable{X:Cx}
def Fa{P:Program}{w:World}{k:Key}{u:Value}(h:(zr P w).is k u=true):RelV (kV k) u:=by
 rcases aS h with ⟨i,t,rfl,rfl⟩|⟨x,t,rfl,rfl⟩
 ·exact⟨t,rfl⟩
 ·exact⟨t,rfl⟩
def Kw(hc:X.calm=true):dy X (.type "list") (fun xs H Q=>∃a kvs,xs=[.ref a]/\H a=some (.dT kvs)/\
  ∀(bs:List Addr),Paired (fun(p:List Key×V) b=>H b=some (.tup (p.1.map kV))) kvs bs->∀l,H l=none->Q (.ref l) (upd H l (.lst (bs.map V.ref)))):=by
 intro aa s σ H xs us Q I r h;obtain⟨a,kvs,rfl,hq,q⟩:=h;obtain⟨u,rfl,j⟩:=vals1 r;cases j;obtain⟨z,y,ys,c,o,es,ep,h1,h2,v,d,D⟩:=(show zw X.prog X.w H s.heap a (.dT kvs) from I.hok a _ hq);have f:es.size=kvs.length:=by
  have:=congrArg List.length d;rw[Ab,<-AY c] at this
  simpa using this
 refine RZ (Dk.src (ep:=ep) (es:=es) y) (I.ok.hd hc) ⟨o,h1,h2,v⟩ (by rw[f];exact z) fun h' tk acc c' g e it=>?_;obtain⟨n1,n2⟩:=it;have x:Paired (fun(p:List Key×V) b=>H b=some (.tup (p.1.map kV))) kvs (ys.map (·.2.1)):=by
  have:∀{l:List (List Key×V)}{m:List (List Key×Addr×Value)},KT H l m->Paired (fun(p:List Key×V) b=>H b=some (.tup (p.1.map kV))) l (m.map (·.2.1)):=by
   intro l m q
   induction q with
   |nil=>exact .nil
   |cons hq t ih=>exact .cons hq.2.1 ih
  exact this c
 have A:acc.toList=(ys.map (·.2.1)).map Value.ref:=by
  apply RJ;intro i;have hy:ys.length=acc.size:=by rw[n1,f];exact(AY c).symm
  by_cases hi:i<acc.size
  ·obtain⟨e',g1,g2⟩:=n2 i acc[i] (by simp[hi])
   have g3:es.toList[i]?=some e':=by simpa using g1
   rw[d,Ai] at g3;have g4:ys[i]?=some ys[i]:=by simp[hy,hi]
   rw[g4] at g3;simp only[Pp,Be] at g3;simp only[Ai,g4,Pp,Array.getElem?_toList,Qe hi];rw[g2,<-g3]
   rfl
  ·have g1:acc.toList.length<=i:=by simp;omega
   have g2:((ys.map (·.2.1)).map Value.ref).length<=i:=by simp[hy];omega
   rw[PD g1,PD g2]
 have C:Vals ((ys.map (·.2.1)).map V.ref) acc.toList:=by
  rw[A];generalize ys.map (·.2.1)=bs
  induction bs with
  |nil=>exact .nil
  |cons b bs ih=>exact .cons rfl ih
 refine⟨.ref s⁻¹,_,I.laid g (Af _) (show zw X.prog X.w _ h' _ (.lst ((ys.map (·.2.1)).map V.ref)) from⟨?_,acc.toList,c',C,by simpa using e⟩),rfl,q _ x _ (I.hok.fresh (Af _))⟩;simp only[Ab];rw[<-AY c];exact z
def Kx(hc:X.calm=true):dy X (.type "list") (fun xs H Q=>∃a kvs,xs=[.ref a]/\H a=some (.dK kvs)/\∀l,H l=none->Q (.ref l) (upd H l (.lst (kvs.map fun kv=>kV kv.1)))):=by
 intro aa s σ H xs us Q I r h;obtain⟨a,kvs,rfl,hq,q⟩:=h;obtain⟨u,rfl,d⟩:=vals1 r;cases d;obtain⟨z,y,vs,b,dd⟩:=xC I.hok hq;obtain⟨ep,dd⟩:=dd.dictAt;have f:=b.length;refine RZ (PySem.W.kdl_dict (knd:=zr X.prog X.w) (kvs:=vs) (ep:=ep) y) (I.ok.hd hc) dd (by rw[<-f];exact z) fun h' tk acc c' c e it=>?_;obtain⟨n1,n2⟩:=it;have g:Vals (kvs.map fun kv=>kV kv.1) acc.toList:=by
  have key:∀{l:List (Key×V)}{m:List (Key×Value)}{as:List Value},KV l m->as.length=m.length->(∀(i:Nat) v,as[i]?=some v->∃k x,m[i]?=some (k,x)/\(zr X.prog X.w).is k v=true)->Vals (l.map fun kv=>kV kv.1) as:=by
   intro l m as q
   induction q generalizing as with
   |nil=>intro h1 _;cases as with
    |nil=>exact .nil
    |cons _ _=>simp at h1
   |@cons p q' ps qs hq t ih=>
    intro h1 h2;cases as with
    |nil=>simp at h1
    |cons v as=>
     obtain⟨k,x,g1,g2⟩:=h2 0 v rfl;simp only[List.getElem?_cons_zero,Be] at g1;refine .cons ?_ (ih (by simpa using h1) fun i v e=>by simpa using h2 (i+1) v (by simpa using e));have:p.1=k:=by rw[hq.1,g1]
     show RelV (kV p.1) v;rw[this];exact Fa g2
  exact key b (by simpa using n1) fun i v e=>n2 i v (by simpa using e)
 refine⟨.ref s⁻¹,_,I.laid c (Af _) (show zw X.prog X.w _ h' _ (.lst (kvs.map fun kv=>kV kv.1)) from⟨?_,acc.toList,c',g,by simpa using e⟩),rfl,q _ (I.hok.fresh (Af _))⟩
 simpa using z
end
end L2
end
section
namespace L2
open PySem PySem.Spec PyProof.Rows
def Tp(H:Hp)(a:Addr)(ps:List Int):Prop:=H a=some (.tup (ps.map V.int))
abbrev Tps(H:Hp)(as:List Addr)(ad:Ξ):Prop:=Paired (fun a ps=>Tp H a ps) as ad
def Same.tp{H H':Hp}{a:Addr}{ps:List Int}(e:Same H H')(h:Tp H a ps):Tp H' a ps:=e _ _ h
def Same.tps{H H':Hp}{as:List Addr}{ad:Ξ}(e:Same H H')(h:Tps H as ad):Tps H' as ad:=Paired.mapP h fun _ _ q=>e.tp q
def Same.new{H:Hp}{a:Addr}{o:HO}(h:H a=none):Same H (upd H a o):=fun b u e=>by rw[al (zg e h)];exact e
def Same.then{H H1:Hp}{a:Addr}{o:HO}(e:Same H H1)(h:H a=none):Same H (upd H1 a o):=fun b u q=>by rw[al (zg q h)];exact e b u q
def Tps.length{H:Hp}{as:List Addr}{ad:Ξ}(h:Tps H as ad):as.length=ad.length:=AY h
def Tps.get{H:Hp}:∀{as:List Addr}{ad:Ξ}{i:Nat}{a:Addr},Tps H as ad->as[i]?=some a->∃ps,ad[i]?=some ps/\Tp H a ps
 |_,_,_,_,.nil,e=>by simp at e
 |_,_,0,_,.cons r _,e=>by simp at e;subst e;exact⟨_,rfl,r⟩
 |_,_,i+1,a,.cons _ t,e=>by
  obtain⟨u,h1,h2⟩:=Tps.get (i:=i) (a:=a) t (by simpa using e);exact⟨u,by simpa using h1,h2⟩
def Tps.snoc{H:Hp}{as:List Addr}{ad:Ξ}{a:Addr}{ps:List Int}(h:Tps H as ad)(q:Tp H a ps):Tps H (as++[a]) (ad++[ps]):=by
 induction h with
 |nil=>exact .cons q .nil
 |cons r t ih=>exact .cons r ih
def Tps.append{H:Hp}{as bs:List Addr}{ad a:Ξ}(h:Tps H as ad)(q:Tps H bs a):Tps H (as++bs) (ad++a):=by
 induction h with
 |nil=>exact q
 |cons r t ih=>exact .cons r ih
def Tps.take{H:Hp}:∀{as:List Addr}{ad:Ξ}(n:Nat),Tps H as ad->Tps H (as.take n) (ad.take n)
 |_,_,0,_=>.nil
 |_,_,_+1,.nil=>.nil
 |_,_,n+1,.cons r t=>.cons r (Tps.take n t)
def Tps.drop{H:Hp}:∀{as:List Addr}{ad:Ξ}(n:Nat),Tps H as ad->Tps H (as.drop n) (ad.drop n)
 |_,_,0,r=>r
 |_,_,_+1,.nil=>.nil
 |_,_,n+1,.cons _ t=>Tps.drop n t
def a8:∀{as:List Addr}{us:List Value},Vals (as.map V.ref) us->us=as.map Value.ref
 |[],_,.nil=>rfl
 |a::as,_,.cons r t=>by cases r;rw[a8 t];rfl
def Fb{b:Type}(f:b->Addr):∀l:List b,Vals (l.map fun q=>V.ref (f q)) (l.map fun q=>Value.ref (f q))
 |[]=>.nil
 |a::l=>.cons rfl (Fb f l)
section
variable{X:Cx}
def Fc{prog:Program}{w:World}{h:Heap}{c:Addr}{cs:List Value}{a:List Int}(hc:IsTup h c cs.toArray)(hi:IntsAre cs a):IsTupleKey (zr prog w) h (a.map Sum.inl) c:=by
 obtain⟨o,e,b,k,d⟩:=hc;refine⟨o,cs.toArray,k,e,b,d,?_⟩;have:∀{cs:List Value}{a:List Int},IntsAre cs a->ItemsAre (zr prog w) (a.map Sum.inl) cs:=by
  intro cs a hi
  induction hi with
  |nil=>exact .nil
  |cons n t h ih=>exact .cons (uy prog w n t) ih
 simpa using this hi
def gg{ps a:List Int}:(ps.map Sum.inl:List Key)=a.map Sum.inl↔ps=a:=
 ⟨fun z=>(QD (f:=(Sum.inl:Int->Key)) (fun x y h=>Sum.inl.inj h)).mp z,fun z=>by rw[z]⟩
def Ky{aa:Ψ}{σ:St}{H:Hp}{s:Shared}{A:Around}{a b:Addr}{ps c:List Int}(I:Inv X aa σ H s)(ha:Tp H a ps)(hb:Tp H b c)(hu:A.units<cLine):SeqAt.EqAt A s (.ref a) (.ref b) (decide (ps=c)):=by
 intro prog w E Q h;obtain⟨ae,d,e,_⟩:=I.tuple (SqT.of ha);obtain⟨g,f,p2,_⟩:=I.tuple (SqT.of hb);refine wpAny_eqBool_tuple (knd:=zr prog w) hu (Fc e (intsAre_of d)) (Fc p2 (intsAre_of f)) ?_;rw[show decide ((ps.map Sum.inl:List Key)=c.map Sum.inl)=decide (ps=c) from by simp only[gg]];exact h
def yN:R2:=fun x y H Q=>∃a b xs ys,x=.ref a/\y=.ref b/\H a=some (.tup xs)/\H b=some (.tup ys)/\xs.length+ys.length<=sizeLine/\∀p H',Same H H'->H' p=some (.tup (xs++ys))->Q (.ref p) H'
def q8:c7 X (binaryOp .Add) yN:=by
 intro aa s σ H x y v u Q I l p h;obtain⟨a,b,xs,ys,rfl,rfl,ha,hb,hz,q⟩:=h;cases l;cases p;obtain⟨ae,c,e,_⟩:=I.tuple (SqT.of ha);obtain⟨r,d,p2,_⟩:=I.tuple (SqT.of hb)
 by_cases hx:xs=[]
 ·subst hx
  have e1:=c.nil_iff.mpr rfl;subst e1;obtain⟨⟨cls,dd,data,w⟩,f,hc,n,hd⟩:=id e;obtain⟨⟨D,A,data2,C⟩,g,i,n2,j⟩:=id p2;simp only at hc hd i j;subst hc hd i j;exact concat_meets ⟨_,f,rfl⟩ ⟨_,g,rfl⟩ noFill_tuple_add seq_tuple_add Q7 Q3 (QW _ _)
   (tuple_addW0 a b (List.toArray []) r.toArray n n2 dd A w C (by simp)) ⟨f,g,.ref b,H,I,rfl,q b H (Same.refl H) (by simpa using hb)⟩
 ·refine HT.Jr e p2 (fun z=>hx (c.nil_iff.mp z)) (fun z=>⟨.ref a,H,I,rfl,q a H (Same.refl H) ?_⟩) (fun z=>?_) (by rw[<-c.length,<-d.length];exact hz)
  ·rw[d.nil_iff.mp z,Po];exact ha
  ·have hf:=I.hok.fresh (Af s⁻¹)
   refine⟨.ref s⁻¹,_,I.laid (t':=s.toks) (o:=.tup (xs++ys)) (fun b ob q=>Ad _ q) (Af _) ?_,rfl,q _ _ (Same.new hf) ag⟩;exact⟨by rw[Ap];exact hz,_,c.append d,IsTup.new _ _⟩
def fj(neg:Bool)(K:Ac):R2:=fun x y H Q=>∃a l ps as ad,x=.ref a/\y=.ref l/\Tp H a ps/\SqL K H l (as.map V.ref)/\Tps H as ad/\Q (.bl (if neg then !decide (ps∈ad) else decide (ps∈ad))) H
def jQ(H:Hp)(ps:List Int)(u:Value):Bool:=match u with
 |.ref b=>(match H b with|some (.tup xs)=>decide (xs=ps.map V.int)|_=>false)
 |_=>false
def Kz{ps a:List Int}:(ps.map V.int:List V)=a.map V.int↔ps=a:=
 ⟨fun z=>(QD (f:=V.int) (fun x y h=>V.int.inj h)).mp z,fun z=>by rw[z]⟩
def yP{H:Hp}{b:Addr}{ps a:List Int}(h:Tp H b a):jQ H ps (.ref b)=decide (a=ps):=by
 show(match H b with|some (.tup xs)=>decide (xs=ps.map V.int)|_=>false)=_;rw[show H b=some (.tup (a.map V.int)) from h];simp only[Kz]
def KA{H:Hp}{ps:List Int}{as:List Addr}{ad:Ξ}(h:Tps H as ad):(as.map Value.ref).any (jQ H ps)=decide (ps∈ad):=by
 induction h with
 |nil=>simp
 |@cons a qs as ad r t ih=>
  rw[As,QX,ih,yP r]
  by_cases e:qs=ps
  ·subst e;simp
  ·have:¬ps=qs:=fun z=>e z.symm
   simp[e,this]
def Fd{aa:Ψ}{σ:St}{H:Hp}{s:Shared}{A:Around}{a:Addr}{ps:List Int}(I:Inv X aa σ H s)(ha:Tp H a ps)(hu:A.units<cLine):∀{as:List Addr}{ad:Ξ},Tps H as ad->∀u∈as.map Value.ref,SeqAt.EqAt A s u (.ref a) (jQ H ps u):=by
 intro as ad h
 induction h with
 |nil=>intro u hu;simp at hu
 |@cons b qs as ad r t ih=>
  intro u hm;rw[As] at hm;rcases Pa.mp hm with rfl|hm
  ·rw[yP r];exact Ky I r ha hu
  ·exact ih u hm
def yQ(hu:X.A.in1.units<cLine):c7 X (compareOp .NotIn) (fj true X.K):=by
 intro aa s σ H x y v u Q I b c h;obtain⟨a,l,ps,as,ad,rfl,rfl,ha,d,hp,q⟩:=h;cases b;cases c;obtain⟨ae,r,e,hz⟩:=I.list d;obtain rfl:=a8 r;refine SeqAt.notIn_listAt (jQ H ps) e.isList (fun w hw=>Fd I ha hu hp w (by simpa using hw)) ⟨.bl _,H,I,rfl,?_⟩;rw[show(as.map Value.ref).toArray.any (jQ H ps)=(as.map Value.ref).any (jQ H ps) by simp,KA hp];exact q
def yT{aa:Ψ}{σ:St}{H:Hp}{s:Shared}{a:Addr}{ps:List Int}(I:Inv X aa σ H s)(ha:Tp H a ps):Reads s.heap (.ref a) (.tuple (ps.map PyData.int)) []:=by
 obtain⟨ae,r,p,_⟩:=I.tuple (SqT.of ha);obtain⟨o,b,hc,n,hd⟩:=id p;exact .tuple b hc hd ((PySem.W.ke_carried (intsAre_of r)).reads s.heap)
def KB{aa:Ψ}{σ:St}{H:Hp}{s:Shared}(I:Inv X aa σ H s):∀{as:List Addr}{ad:Ξ},Tps H as ad->ReadsAll s.heap (as.map Value.ref) (ad.map fun ps=>PyData.tuple (ps.map PyData.int)) []:=by
 intro as ad h
 induction h with
 |nil=>exact .nil
 |cons r t ih=>exact .cons (as:=[]) (bs:=[]) (yT I r) ih
def Fe{aa:Ψ}{σ:St}{H:Hp}{s:Shared}{l:Addr}{as:List Addr}{ad:Ξ}(I:Inv X aa σ H s)(b:SqL X.K H l (as.map V.ref))(h:Tps H as ad):Reads s.heap (.ref l) (.list (ad.map fun ps=>PyData.tuple (ps.map PyData.int))) [l]:=by
 obtain⟨ae,r,p,_⟩:=I.list b;obtain rfl:=a8 r;obtain⟨o,a,hc,n,hd⟩:=p.isList;exact .list a hc hd (by simpa using KB I h)
def Ff(ps:List Int):PyData.canLay0 (.tuple (ps.map PyData.int))=true:=by simp[PyData.canLay0,PySem.W.ke_canLayAll0]
def Fg(ps:List Int):PyData.depth (.tuple (ps.map PyData.int))=1:=by simp[PyData.depth,PySem.W.ke_depthAll]
def Fh(ps:List Int):SeqAt.shaped (.tuple (ps.map PyData.int))=true:=by
 simp[SeqAt.shaped,Ff,Fg]
def Fi:∀ad:Ξ,PyData.canLayAll0 (ad.map fun ps=>PyData.tuple (ps.map PyData.int))=true
 |[]=>rfl
 |ps::r=>by rw[As,PyData.canLayAll0,Ff,Fi r];rfl
def Fj:∀ad:Ξ,PyData.depthAll (ad.map fun ps=>PyData.tuple (ps.map PyData.int))<=1
 |[]=>AX _
 |ps::r=>by rw[As,PyData.depthAll,Fg];exact Nat.max_le.mpr ⟨Af _,Fj r⟩
def Fl(ad:Ξ):SeqAt.shaped (.list (ad.map fun ps=>PyData.tuple (ps.map PyData.int)))=true:=by
 have:=Fj ad;have e:PyData.depth (.list (ad.map fun ps=>PyData.tuple (ps.map PyData.int)))<=64:=by rw[PyData.depth];omega
 unfold SeqAt.shaped;rw[Sc e,PyData.canLay0,Fi]
 rfl
def Fm:∀ad c:Ξ,sameAll (ad.map fun ps=>PyData.tuple (ps.map PyData.int)) (c.map fun ps=>PyData.tuple (ps.map PyData.int))=decide (ad=c)
 |[],[]=>by simp[sameAll]
 |[],_::_=>by simp[sameAll]
 |_::_,[]=>by simp[sameAll]
 |a::r,b::t=>by
  simp only[As,sameAll,same,PySem.W.ke_sameAll,Fm r t]
  by_cases h:a=b<;>by_cases h':r=t<;>simp[h,h']
def Fo(ps:List Int):(Shape.tuples .int).has (.tuple (ps.map PyData.int))=true:=by simp[Shape.has]
def Fq(ad:Ξ):(Shape.list (.tuples .int)).has (.list (ad.map fun ps=>PyData.tuple (ps.map PyData.int)))=true:=by simp[Shape.has]
def kL(neg:Bool)(K:Ac):R2:=fun x y H Q=>(∃a b ps c,x=.ref a/\y=.ref b/\Tp H a ps/\Tp H b c/\Q (.bl (if neg then !decide (ps=c) else decide (ps=c))) H) \/
 (∃l m as bs ad d,x=.ref l/\y=.ref m/\SqL K H l (as.map V.ref)/\Tps H as ad/\SqL K H m (bs.map V.ref)/\Tps H bs d/\Q (.bl (if neg then !decide (ad=d) else decide (ad=d))) H)
def rf(hu:X.A.units+64<cLine):c7 X (compareOp .NotEq) (kL true X.K):=by
 intro aa s σ H x y v u Q I e f h;rcases h with ⟨a,b,ps,c,rfl,rfl,ha,hb,q⟩|⟨l,m,as,bs,ad,d,rfl,rfl,g,hp,hm,hq,q⟩
 ·cases e
  cases f;refine ne_dataH_same (yT I ha) (yT I hb) (Fh _) (Fh _) hu (SeqAt.noMix_of_shape (.tuples .int) rfl _ _ (Fo _) (Fo _)) ?_;rw[show same (.tuple (ps.map PyData.int)) (.tuple (c.map PyData.int))=decide (ps=c) from by simp only[same];exact PySem.W.ke_sameAll ps c];exact⟨.bl _,H,I,rfl,q⟩
 ·cases e
  cases f;refine ne_dataH_same (Fe I g hp) (Fe I hm hq) (Fl _) (Fl _) hu (SeqAt.noMix_of_shape (.list (.tuples .int)) rfl _ _ (Fq _) (Fq _)) ?_;rw[show same (.list (ad.map fun ps=>PyData.tuple (ps.map PyData.int))) (.list (d.map fun ps=>PyData.tuple (ps.map PyData.int)))=decide (ad=d) from by simp only[same];exact Fm ad d];exact⟨.bl _,H,I,rfl,q⟩
def znf:V->List V->Hp->VK->Prop:=fun x vs H Q=>∃l xs i y,x=.ref l/\vs=[.int i,y]/\H l=some (.lst xs)/\0<=i/\i<=xs.length/\xs.length<sizeLine/\Q .non (upd H l (.lst (xs.take i.toNat++y::xs.drop i.toNat)))
def KC:kx X "list.insert" znf:=by
 intro aa s σ H x vs v us Q I c d h;obtain⟨l,xs,i,y,rfl,rfl,a,j,hi,hz,q⟩:=h;cases c;obtain⟨u,b,rfl,f,g⟩:=d.two;obtain⟨t,rfl⟩:=f;obtain⟨z,ae,n,r,o,e⟩:=I.lstM a;have p:sizeLine<2 ^ 62:=by rw[sizeLine_eq];decide
 have hf:Builtin.List.listFitsIndex i=true:=by
  unfold Builtin.List.listFitsIndex;simp only[AF,decide_eq_true_eq];constructor<;>omega
 refine call_meets F.slot_list_insert ⟨_,e,rfl⟩ F.entry_list_insert (F.args_list_insert_3 _ _ _) (PySem.AutoSeq1.list_insert_list_int_val_1 l ae.toArray n i t b (by simp[hf]) (by rw[Al];omega)) ⟨e,?_⟩;refine⟨.non,_,I.lset (its':=ae.take i.toNat++b::ae.drop i.toNat) (t':=s.toks) a e ?_ ((r.take _).append (.cons g (r.drop _))) ?_,rfl,q⟩
 ·have hk:(if i<0 then(i+(ae.toArray.size:Int)).toNat else min i.toNat ae.toArray.size)=i.toNat:=by
   rw[Sb ω,Al];omega
  dsimp only;rw[hk];simp;exact AB (by rw[PB];exact Af _)
 ·rw[Ap,At,Aw,PB]
  omega
def KD:dy X (.type "int") (fun xs H Q=>∃x n,xs=[.str x]/\PySem.intText? x=some n/\x.length<=640/\Q (.int n) H):=by
 intro aa s σ H xs us Q I r h;obtain⟨x,n,rfl,a,b,q⟩:=h;obtain⟨u,rfl,t,rfl⟩:=vals1 r;exact PySem.W.KIN.call_text a b ⟨.int n,H,I.tok _,⟨_,rfl⟩,q⟩
end
end L2
end
section
namespace L2
open PySem PySem.Spec PyProof.Rows
section
variable{X:Cx}{aa:Ψ}{σ:St}{H:Hp}{s:Shared}
def KF{A:Around}(h:A.units+64<cLine):A.in1.in1.units<cLine:=by show A.units+1+1<cLine;omega
def in1_units{A:Around}(h:A.units+64<cLine):A.in1.units<cLine:=by show A.units+1<cLine;omega
def Fu:dy X (.builtin "sorted") (fun xs H Q=>∃(l:Addr)(ns:List Int),xs=[.ref l]/\SqL X.K H l (ns.map V.int)/\ns.length<64/\∀(D:Addr)(d:List Int),d.Perm ns->d.Pairwise (·<=·)->H D=none->Q (.ref D) (upd H D (.lst (d.map V.int)))):=by
 intro aa s σ H xs us Q I r h;obtain⟨l,ns,rfl,hq,C,q⟩:=h;obtain⟨u,rfl,o⟩:=vals1 r;cases o;obtain⟨ae,f,v,hz⟩:=I.list hq;have hi:IntsAre ae ns:=intsAre_of f;have a:=f.length;rw[Ab] at a hz;refine cx.E2 (ls:=ns.map fun n=>[n]) (good:=fun _=>True) v.isList (cx.EY hi) (fun _ _=>trivial) ω ω fun out b=>?_;obtain⟨ps,hp,b,x⟩:=b;have all:∀p∈ps,∃n t,p.1=[n]/\p.2=Value.int n t:=fun p j=>by
  obtain⟨i,e⟩:=Pc.mp (hp.mem_iff.mp j);rw[cx.cG,Ai] at e;cases e1:ns[i]? with
  |none=>rw[e1] at e;simp at e
  |some n=>
   obtain⟨t,e2⟩:=hi.get i n e1;rw[e1,e2] at e;simp only[Pp,Rk,Be] at e;subst e;exact⟨n,t,rfl,rfl⟩
 have y:∀ps:List (List Int×Value),(∀p∈ps,∃n t,p.1=[n]/\p.2=Value.int n t)->Vals ((ps.map fun p=>p.1.headD 0).map V.int) (ps.map (·.2)):=by
  intro ps
  induction ps with
  |nil=>intro _;exact .nil
  |cons p ps ih=>
   intro h;obtain⟨n,t,e1,e2⟩:=h p Az;refine .cons ?_ (ih fun q hq=>h q (Ax _ hq));show RelV (V.int (p.1.headD 0)) p.2;rw[e1,e2];exact⟨t,rfl⟩
 have g:(ps.map fun p=>p.1.headD 0).Perm ns:=by
  have h1:=hp.map (fun p:List Int×Value=>p.1.headD 0);have e:((ns.map fun n=>[n]).zip ae).map (fun p:List Int×Value=>p.1.headD 0)=ns:=by
   rw[show(fun p:List Int×Value=>p.1.headD 0)=(fun l:List Int=>l.headD 0) ∘ Prod.fst from rfl,<-Aj,Rl (by rw[Ab];omega),Aj];exact Rw ns
  rw[e] at h1;exact h1
 have A:(ps.map fun p=>p.1.headD 0).Pairwise (·<=·):=by
  rw[AS];refine x.imp_of_mem fun{p q} h1 h2 c=>?_;obtain⟨n,t,e1,_⟩:=all p h1;obtain⟨m,t',e2,_⟩:=all q h2;rw[e1,e2,HT.zx] at c;rw[e1,e2];show n<=m
  by_cases e:m=n
  ·omega
  ·rw[Sb e] at c
   have:=of_decide_eq_false c;omega
 obtain⟨e,he⟩:=sortedAll_at s.heap ae out;refine⟨.ref (s⁻¹+1),_,I.laid (t':=s.toks) (fun _ _=>sortedAll_old) (Qv _) (show zw X.prog X.w _ _ _ (.lst ((ps.map fun p=>p.1.headD 0).map V.int)) from⟨?_,out.toList,e,?_,?_⟩),rfl,q _ _ g A (I.hok.fresh (Qv _))⟩
 ·rw[Ab,g.length_eq];exact hz
 ·rw[b];exact y ps all
 ·simpa using he
def oO(H:Hp)(p:Addr)(l:List Int):Prop:=∃n b ps,l=n::ps/\H p=some (.tup [.int n,.ref b])/\Tp H b ps
def mz{p:Addr}{l:List Int}(I:Inv X aa σ H s)(h:oO H p l):cx.IsPr s.heap (.ref p) l:=by
 obtain⟨n,b,ps,rfl,h1,h2⟩:=h;obtain⟨ae,a,c,_⟩:=I.tuple (SqT.of (K:=X.K) h1);obtain⟨u,g,rfl,⟨t,rfl⟩,d⟩:=vals2 a;cases d;obtain⟨e,f,p2,_⟩:=I.tuple (SqT.of (K:=X.K) h2);exact⟨p,b,n,t,e,ps,rfl,rfl,c,p2,intsAre_of f⟩
def KG{h h':Heap}{u:Value}{l:List Int}(k:∀b o,h.get? b=some o->h'.get? b=some o)(x:cx.IsPr h u l):cx.IsPr h' u l:=by
 obtain⟨a,b,n,t,ae,ps,e1,e2,⟨o,d,hc⟩,⟨o',c,hc'⟩,i⟩:=x;exact⟨a,b,n,t,ae,ps,e1,e2,⟨o,k _ _ d,hc⟩,⟨o',k _ _ c,hc'⟩,i⟩
def kR{a b:Type}{R:a->b->Prop}{l:List a}{m:List b}(p:Paired R l m):∀(i:Nat) x y,l[i]?=some x->m[i]?=some y->R x y:=by
 induction p with
 |nil=>intro i x y h;simp at h
 |cons r t ih=>
  intro i x y h1 h2;cases i with
  |zero=>simp at h1 h2;subst h1 h2;exact r
  |succ i=>exact ih i x y (by simpa using h1) (by simpa using h2)
def addrOf:Value->Addr
 |.ref a=>a
 |_=>0
def KH(hu:X.A.units+64<cLine):dy X (.builtin "sorted") (fun xs H Q=>∃(l:Addr)(as:List Addr)(ls:Ξ),xs=[.ref l]/\SqL X.K H l (as.map V.ref)/\Paired (oO H) as ls/\ls.length<64/\
  ∀(D:Addr)(g:List (List Int×Addr)),g.Perm (ls.zip as)->g.Pairwise (fun a b=>HT.lexLt b.1 a.1=false)->H D=none->Q (.ref D) (upd H D (.lst (g.map fun q=>V.ref q.2)))):=by
 intro aa s σ H xs us Q I r h;obtain⟨l,as,ls,rfl,hq,hp,J,q⟩:=h;obtain⟨u,rfl,y⟩:=vals1 r;cases y;obtain⟨ae,j,C,hz⟩:=I.list hq;have c:=j.length;obtain rfl:=a8 j;rw[Ab] at c hz;have F:=AY hp;have G:∀h:Heap,(∀b o,s.heap.get? b=some o->h.get? b=some o)->∀(i:Nat) u l,(as.map Value.ref)[i]?=some u->ls[i]?=some l->cx.IsPr h u l:=fun h hk i u l h1 h2=>by
  rw[Ai] at h1;cases e:as[i]? with
  |none=>rw[e] at h1;simp at h1
  |some a=>
   rw[e] at h1;obtain rfl:=Ag h1;exact KG hk (mz I (kR hp i a l e h2))
 refine cx.E2 (ls:=ls) (good:=fun h=>∀b o,s.heap.get? b=some o->h.get? b=some o) C.isList (cx.Kb (by rw[Ab];exact F) (KF hu) ⟨s.heap,fun _ _ e=>e⟩ G) (fun h' hk=>hk) (by rw[Ab];exact hz) (by rw[Ab];omega) fun out d=>?_;obtain⟨ps,v,d,E⟩:=d;have all:∀p∈ps,p.2=Value.ref (addrOf p.2):=fun p f=>by
  have:=(Q2 (v.mem_iff.mp f:(p.1,p.2)∈ls.zip (as.map Value.ref))).2;obtain⟨a,_,e⟩:=Bp.mp this;rw[<-e];rfl
 have x:(ps.map fun p=>(p.1,addrOf p.2)).Perm (ls.zip as):=by
  have h1:=v.map (fun p:List Int×Value=>(p.1,addrOf p.2));have e:(ls.zip (as.map Value.ref)).map (fun p:List Int×Value=>(p.1,addrOf p.2))=ls.zip as:=by
   rw[List.zip_map_right,Aj];exact(AA fun p _=>rfl).trans (Rw _)
  rw[e] at h1;exact h1
 obtain⟨e,he⟩:=sortedAll_at s.heap (as.map Value.ref) out;have ex:out.toList=((ps.map fun p=>(p.1,addrOf p.2)).map fun q=>Value.ref q.2):=by
  rw[d,Aj];exact AA fun p f=>all p f
 refine⟨.ref (s⁻¹+1),_,I.laid (t':=s.toks) (fun _ _=>sortedAll_old) (Qv _) (show zw X.prog X.w _ _ _ (.lst ((ps.map fun p=>(p.1,addrOf p.2)).map fun q=>V.ref q.2)) from⟨?_,out.toList,e,?_,?_⟩),rfl,q _ _ x ?_ (I.hok.fresh (Qv _))⟩
 ·rw[Ab,x.length_eq,QG];omega
 ·rw[ex]
  exact Fb (fun q:List Int×Addr=>q.2) _
 ·simpa using he
 ·rw[AS];exact E
def gh{b:Addr}(h:be X aa H b):∀c∈[b],be X aa H c:=fun c hc=>by rw[Pb.mp hc];exact h
def ri{b:Addr}(I:Inv X aa σ H s)(f:be X aa H b):b∉frs X.stack:=fun hb=>by
 rcases Pa.mp (I.stkSub b hb) with e|e
 ·exact f.2.1 e
 ·exact f.2.2.1 e
end
end L2
end
section
namespace STb
def dd{a:Type}[DecidableEq a](l:List a):List a:=l.foldl (fun acc x=>if x∈acc then acc else acc++[x]) []
def rn{a:Type}[DecidableEq a](l:List a)(x:a):dd (l++[x])=if x∈dd l then dd l else dd l++[x]:=by unfold dd;rw[Qk];rfl
def kW{a:Type}[DecidableEq a](l:List a):(dd l).length<=l.length:=by
 have:∀(l acc:List a),(l.foldl (fun acc x=>if x∈acc then acc else acc++[x]) acc).length<=acc.length+l.length:=by
  intro l
  induction l with
  |nil=>intro acc;simp
  |cons x l ih=>
   intro acc;rw[Qn];refine Ay (ih _) ?_;split
   ·rw[At];omega
   ·rw[Ap,At,At,Pz];omega
 simpa[dd] using this l []
def jf{a:Type}[DecidableEq a](l:List a)(x:a):x∈dd l↔x∈l:=by
 have:∀(l acc:List a),x∈(l.foldl (fun acc x=>if x∈acc then acc else acc++[x]) acc)↔x∈acc\/x∈l:=by
  intro l
  induction l with
  |nil=>intro acc;simp
  |cons y l ih=>
   intro acc;rw[Qn,ih]
   by_cases h:y∈acc
   ·rw[Sa h,Pa]
    constructor
    ·rintro(q|q)
     ·exact .inl q
     ·exact .inr (.inr q)
    ·rintro(q|q|q)
     ·exact .inl q
     ·subst q;exact .inl h
     ·exact .inr q
   ·rw[Sb h,Pe,Pb,Pa]
    constructor
    ·rintro((q|q)|q)
     ·exact .inl q
     ·exact .inr (.inl q)
     ·exact .inr (.inr q)
    ·rintro(q|q|q)
     ·exact .inl (.inl q)
     ·exact .inl (.inr q)
     ·exact .inr q
 simpa[dd] using this l []
def ro{c:Type}[DecidableEq c](l:List c):(dd l).Nodup:=by
 have:∀(l acc:List c),acc.Nodup->(l.foldl (fun acc x=>if x∈acc then acc else acc++[x]) acc).Nodup:=by
  intro l
  induction l with
  |nil=>intro acc h;exact h
  |cons y l ih=>
   intro acc h;rw[Qn]
   by_cases q:y∈acc
   ·rw[Sa q];exact ih acc h
   ·rw[Sb q]
    refine ih _ ?_;rw[Pk];refine⟨h,by simp,fun a ha b hb e=>?_⟩;rw[Pb] at hb;subst hb;subst e;exact q ha
 exact this l [] PV
def KI{a:Type}[DecidableEq a](l m:List a):(dd (l++m)).length<=(dd l).length+m.length:=by
 have:∀(m acc:List a),(m.foldl (fun acc x=>if x∈acc then acc else acc++[x]) acc).length<=acc.length+m.length:=by
  intro m
  induction m with
  |nil=>intro acc;simp
  |cons x l ih=>
   intro acc;rw[Qn];refine Ay (ih _) ?_;split
   ·rw[At];omega
   ·rw[Ap,At,At,Pz];omega
 unfold dd;rw[Qk];exact this m _
def KJ{a:Type}[DecidableEq a](l:List a)(h:∀(k:Nat) x,l[k]?=some x->x∉l.take k):dd l=l:=by
 have:∀k,k<=l.length->dd (l.take k)=l.take k:=by
  intro k
  induction k with
  |zero=>intro _;rfl
  |succ k ih=>
   intro hk;have hx:l[k]?=some l[k]:=Ah ω;rw[RN,hx];show dd (l.take k++[l[k]])=_;rw[rn,ih ω,Sb (h k _ hx)]
   rfl
 have q:=this l.length (Af _);rw[AB (Af _)] at q;exact q
def KL{a:Type}[DecidableEq a](l:List a){k:Nat}{x:a}(h:l[k]?=some x)(hx:x∈l.take k):(dd l).length<l.length:=by
 have hk:k<l.length:=(KK.mp h).1;have e:l=(l.take k++[x])++l.drop (k+1):=by
  have:=Ri (k+1) l;rw[RN,h] at this;exact this.symm
 have h1:=KI (l.take k++[x]) (l.drop (k+1));rw[<-e,rn,Sa ((jf _ _).mpr hx)] at h1;have h2:=kW (l.take k);rw[Aw] at h2;rw[PB] at h1;omega
def KM{a:Type}[DecidableEq a](l:List a):(dd l).length<l.length↔∃(k:Nat)(x:a),l[k]?=some x/\x∈l.take k:=by
 constructor
 ·intro h
  apply Classical.byContradiction;intro n;have:=KJ l fun k x e hx=>n ⟨k,x,e,hx⟩;rw[this] at h;exact Qw _ h
 ·rintro⟨k,x,e,hx⟩
  exact KL l e hx
end STb
end
section
namespace STb
open PySem PySem.SetTable PyProof.Rows
end STb
namespace L2
open PySem PySem.Spec PyProof.Rows
def KO(D:Addr)(n:Nat):HO:=.ext fun h=>∃o es ep t,h.get? D=some o/\o.ExactSet/\o.data=.set es ep t/\t.fits es.size=true/\es.size=n/\n<=100
section
variable{X:Cx}
def KP{prog:Program}{w:World}{h:Heap}{c:Addr}{cs:List Value}{a:List Int}(hc:IsTup h c cs.toArray)(hi:IntsAre cs a):IsTupleKey (intKind prog w) h a c:=by
 obtain⟨o,e,b,k,d⟩:=hc;refine⟨o,cs.toArray,k,e,b,d,?_⟩;have:∀{cs:List Value}{a:List Int},IntsAre cs a->ItemsAre (intKind prog w) a cs:=by
  intro cs a hi
  induction hi with
  |nil=>exact .nil
  |cons n t h ih=>exact .cons (by show Value.isInt n (.int n t)=true;simp[Value.isInt]) ih
 simpa using this hi
end
end L2
end
section
namespace Spl
open PySem PySem.Spec PySem.Builtin PySem.Builtin.Str PyProof.Rows
section
variable{prog:Program}{w:World}{A:Around}{E:Ω}{s:Shared}{x y:PySem.Str}{t u:Tok}{Q:Ω}
def split1(hy:(y.length==0)=false)(h:∀(l:List (PySem.Str×Tok)) k,l.map (·.1)=Txt.split x y->Q (.ref s⁻¹) {s with heap:=s.heap.push {cls:=.type "list",data:=.seq (strValues l).toArray},toks:=k})(hsz:x.length+2<=sizeLine):wpAny (model prog w) A (call (.builtin "str.split") [.str x t,.str y u]) Q E s:=by
 have a:(partsBetween x (occurrences x y 0 x.length (x.length+1)) y.length).length<=sizeLine:=by
  have e1:=StrLaws.occ_length_le x y 0 x.length (x.length+1);rw[length_partsBetween];omega
 cases h1:(decide (x.length<y.length)|| decide (strKind x<strKind y))
 ·cases hf:(occurrences x y 0 x.length (x.length+1)).isEmpty
  ·refine call_meets F.slot_str_split (typeIs_str _ _ _) F.entry_str_split (F.args_str_split_2 _ _) (meets_str_split_sep x y t u h1 hy hf ω a) ?_
   show wants Q E _ {s with toks:=_,heap:=s.heap.push {cls:=.type "list",data:=.seq (strsFrom s.toks (partsBetween x (occurrences x y 0 x.length (x.length+1)) y.length)).toArray}};rw[strsFrom_eq];exact h (numbered s.toks _) _ ((numbered_texts _ _).trans ((Sb (ne_true_of_eq_false h1)).trans (Sb (ne_true_of_eq_false hf))).symm)
  ·exact call_meets F.slot_str_split (typeIs_str _ _ _) F.entry_str_split (F.args_str_split_2 _ _) (meets_str_split_not_found x y t u h1 hy hf)
    (h [(x,t)] s.toks ((Sb (ne_true_of_eq_false h1)).trans (Sa hf)).symm)
 ·exact call_meets F.slot_str_split (typeIs_str _ _ _) F.entry_str_split (F.args_str_split_2 _ _) (meets_str_split_cannot_occur x y t u h1)
   (h [(x,t)] s.toks (Sa h1).symm)
end
end Spl
namespace L2
open PySem PySem.Spec PyProof.Rows
section
variable{X:Cx}
def Fv:∀(l:List (PySem.Str×Tok)),Vals ((l.map (·.1)).map V.str) (strValues l)
 |[]=>.nil
 |p::l=>.cons ⟨p.2,rfl⟩ (Fv l)
def zoz:V->List V->Hp->VK->Prop:=fun x vs H Q=>∃z y,x=.str z/\vs=[.str y]/\(y.length==0)=false/\z.length+2<=sizeLine/\(Txt.split z y).length<=sizeLine/\∀D,H D=none->Q (.ref D) (upd H D (.lst ((Txt.split z y).map V.str)))
def KQ:kx X "str.split" zoz:=by
 intro aa s σ H x vs v us Q I a c h;obtain⟨z,y,rfl,rfl,hy,hz,d,q⟩:=h;obtain⟨t,rfl⟩:=a;obtain⟨u,rfl,f⟩:=c.one;obtain⟨t',rfl⟩:=f;refine Spl.split1 hy (fun l k e=>?_) hz;refine⟨.ref s⁻¹,_,I.laid (t':=k) (o:=.lst ((Txt.split z y).map V.str)) (fun b ob q=>Ad _ q) (Af _) ?_,rfl,q _ (I.hok.fresh (Af _))⟩;refine⟨by rw[Ab];exact d,strValues l,0,?_,An _ rfl⟩;rw[<-e];exact Fv l
def rx(x:PySem.Str):It:=⟨fun i _=>i<x.cps.size,fun i H v H'=>H'=H/\∃c,x.cps[i]?=some c/\v=.str ⟨#[c]⟩,fun i _=>i=x.cps.size⟩
def Fx{P:Program}{w:World}{K:Ac}{tg:Expr}(x:PySem.Str)(it:Addr)(T:String)(D:["enumerate","zip","dict_itemiterator","dict_reverseitemiterator","odict_iterator","itertools.zip_longest","itertools.pairwise"].contains T=false)(t:Tok)(W:∀A':Around,A'.handled=none->Walks P w A' it [it] [it] x.cps.size (SignAt x) (fun i h=>h.IsStrIter it T x t i))(F:∀(A:Around)(i:Nat)(s:Shared)(Q:Ω)(E:Ω),s.heap.IsStrIter it T x t i->Q (.ref it) s->wpAny (model P w) A (pyIter (.ref it)) Q E s):Turn P w K tg (rx x) [it] it (fun i h=>h.IsStrIter it T x t i) where
 mem:=by simp
 obj:=fun i h st b hb=>by
  have e:b=it:=by simpa using hb
  subst e;obtain⟨o,e,c,d⟩:=st;exact⟨o,e,fun v z=>by rw[d] at z;cases z⟩
 keep:=fun i h h' st k=>by
  obtain⟨o,e,c⟩:=st;exact⟨o,k it (by simp) o e,c⟩
 item:=by
  intro X a hw f hc i aa s σ H E I hf st g;subst a hw f;obtain⟨l,f1,f2,p,q,r⟩:=hf it (by simp);refine(W X.A (I.ok.hd hc)).item i s _ _ g st fun v h' tk C y j=>?_;obtain⟨c,u,hx,rfl⟩:=C;have G:Inv X aa σ H {s with heap:=h',toks:=tk}:=I.turned (fun b o hb e=>j b o (by simpa using hb) e) l f1 p q r;obtain⟨o,e1,e2,e3⟩:=id y;exact⟨_,rfl,nQ (s:={s with heap:=h',toks:=tk}) e1 e2 e3 D ⟨.str ⟨#[c]⟩,H,G,⟨u,rfl⟩,⟨rfl,c,hx,rfl⟩,y,fun b hb=>(hf b hb).1⟩⟩
 done:=by
  intro X a hw f hc i aa s σ H E I hf st g;subst a hw f;obtain⟨l,f1,f2,p,q,r⟩:=hf it (by simp);have hi:i=x.cps.size:=g;subst hi;exact(W X.A (I.ok.hd hc)).done s _ _ st fun h' tk j=>⟨rfl,I.turned (fun b o hb e=>j b o (by simpa using hb) e) l f1 p q r⟩
 self:=F
def yU(te:TE):TI:=fun σ H R=>te σ H fun v H1=>∃x,v=.str x/\R (rx x) H1
def KR{tg l:Expr}{tl:TE}(j:PE X l tl):PI X tg l (yU tl):=by
 intro aa s σ H R I h;refine aV (j aa s σ H _ I h) fun v a ⟨x,H1,I1,f,g⟩=>?_;obtain⟨z,e,q⟩:=g;subst e;obtain⟨t,rfl⟩:=f;have fin:∀(o:Obj),Inv X aa σ H1 {a with heap:=a.heap.push o}:=fun o=>I1.kept (t':=a.toks) fun b o e=>Ad _ e;have d:∀b∈[a⁻¹],be X aa H1 b:=fun b hb=>by
  have e:b=a⁻¹:=by simpa using hb
  subst e;exact I1.fpOk (Af _) (I1.hok.fresh (Af _))
 cases ha:z.cps.all (·<128)
 ·refine wpAny_pyIter_wide ha ?_
  exact⟨a⁻¹,[a⁻¹],_,_,H1,rfl,fin _,Fx z _ "str_iterator" ξ t (fun p c=>Walks.strWide c _ z t) (fun A i s Q E st h=>wpAny_pyIter_striter_wide st h),⟨_,An _ rfl,rfl,rfl⟩,d,q⟩
 ·refine wpAny_pyIter_ascii ha ?_
  exact⟨a⁻¹,[a⁻¹],_,_,H1,rfl,fin _,Fx z _ "str_ascii_iterator" ξ t (fun p c=>Walks.strAscii c _ z t) (fun A i s Q E st h=>wpAny_pyIter_striter_ascii st h),⟨_,An _ rfl,rfl,rfl⟩,d,q⟩
def KS{g:TG}{tc:TT}{te:TE}{σ:St}{H1:Hp}{Q:VK}{D:Addr}{x:PySem.Str}(a:Nat->St->List V->Hp->Prop)(h:a 0 σ [] (upd H1 D (.lst [])))(j:∀i σ ys H c,x.cps[i]?=some c->i<x.cps.size->ys.length<=i->a i σ ys H->g (.str ⟨#[c]⟩) σ H fun d l=>tc d l fun b f=>if b=true then te d f (eI x.cps.size a D i d) else du x.cps.size a i d f)(hd:∀σ ys H,a x.cps.size σ ys H->Q (.ref D) H):zU (rx x) g tc te σ H1 D Q:=by
 refine kH x.cps.size a h (fun σ ys H p=>rfl) (fun i σ ys H hi p=>hi) (fun i σ ys H v H' hi hy p y=>?_) hd;obtain⟨e,c,hc,rfl⟩:=y;subst e;exact j i σ ys _ c hc hi hy p
end
end L2
end
section
namespace K1
open STb
def subs(ps:List Int):Ξ:=ps.foldl (fun a x=>a++a.map (·++[x])) [[]]
def parts(ps:List Int):Ξ:=(subs ps).drop 1
def Fy(ps:List Int)(x:Int):subs (ps++[x])=subs ps++(subs ps).map (·++[x]):=by unfold subs;rw[Qk];rfl
def yX(ps:List Int):(subs ps).length=2 ^ ps.length:=by
 have:∀(ps:List Int)(acc:Ξ),(ps.foldl (fun a x=>a++a.map (·++[x])) acc).length=acc.length*2 ^ ps.length:=by
  intro ps
  induction ps with
  |nil=>intro acc;simp
  |cons x ps ih=>
   intro acc;rw[Qn,ih,Ap,Ab,At,Nat.pow_succ];rw[<-Nat.two_mul,Nat.mul_comm 2,Nat.mul_assoc,Nat.mul_comm 2]
 simpa[subs] using this ps [[]]
def Fz(ps:List Int):∃t,subs ps=[]::t/\∀q∈t,q≠[]:=by
 have:∀(ps:List Int)(acc:Ξ),(∃t,acc=[]::t/\∀q∈t,q≠[])->∃t,ps.foldl (fun a x=>a++a.map (·++[x])) acc=[]::t/\∀q∈t,q≠[]:=by
  intro ps
  induction ps with
  |nil=>intro acc h;exact h
  |cons x ps ih=>
   rintro acc ⟨t,rfl,h⟩;rw[Qn];refine ih _ ⟨t++([]::t).map (·++[x]),rfl,fun q hq=>?_⟩;rcases Pe.mp hq with hq|hq
   ·exact h q hq
   ·obtain⟨r,_,rfl⟩:=Bp.mp hq
    simp
 exact this ps [[]] ⟨[],rfl,fun q hq=>nomatch hq⟩
def KU(ps:List Int):(subs ps).filter (fun q=>!decide (q=[]))=parts ps:=by
 obtain⟨t,e,h⟩:=Fz ps;unfold parts;rw[e];show List.filter _ ([]::t)=t;rw[QO,Sb (by simp)];exact List.filter_eq_self.mpr fun q hq=>by simp[h q hq]
def oQ(ps:List Int):(parts ps).length=2 ^ ps.length-1:=by unfold parts;rw[PB,yX]
def KW(ps:List Int):∀q∈subs ps,q.length<=ps.length:=by
 have:∀(ps:List Int)(acc:Ξ)(n:Nat),(∀q∈acc,q.length<=n)->∀q∈ps.foldl (fun a x=>a++a.map (·++[x])) acc,q.length<=n+ps.length:=by
  intro ps
  induction ps with
  |nil=>intro acc n h q hq;simpa using h q hq
  |cons x ps ih=>
   intro acc n h q hq;rw[Qn] at hq;have:=ih _ (n+1) (fun r hr=>by
    rcases Pe.mp hr with hr|hr
    ·exact RK (h r hr)
    ·obtain⟨u,hu,rfl⟩:=Bp.mp hr
     rw[Ap];exact RV (h u hu)) q hq
   rw[At];omega
 intro q hq;have:=this ps [[]] 0 (fun r hr=>by simp at hr;subst hr;exact Af _) q hq;omega
def a_:List Int->Bool
 |a::b::r=>decide (a<b)&&a_ (b::r)
 |_=>true
def FB:∀ps:List Int,((ps.zip (ps.drop 1)).map fun p=>decide (p.1<p.2)).all id=a_ ps
 |[]=>rfl
 |[_]=>rfl
 |a::b::r=>by
  have:=FB (b::r);unfold a_;rw[<-this]
  rfl
def y7:∀ps:List Int,a_ ps=true↔∀(i:Nat) a b,ps[i]?=some a->ps[i+1]?=some b->a<b
 |[]=>by simp[a_]
 |[x]=>by simp[a_]
 |x::y::r=>by
  unfold a_;rw[AF,decide_eq_true_eq,y7 (y::r)];constructor
  ·rintro⟨h1,h2⟩ i a b ha hb
   cases i with
   |zero=>simp at ha hb;subst ha hb;exact h1
   |succ i=>exact h2 i a b (by simpa using ha) (by simpa using hb)
  ·intro h
   exact⟨h 0 x y rfl rfl,fun i a b ha hb=>h (i+1) a b (by simpa using ha) (by simpa using hb)⟩
def FC(ps:List Int)(h:a_ ps=true):∀(d i:Nat) a b,ps[i]?=some a->ps[i+d]?=some b->a<=b:=by
 intro d
 induction d with
 |zero=>intro i a b ha hb;rw[Nat.add_zero,ha] at hb;cases hb;exact P4 _
 |succ d ih=>
  intro i a b ha hb;have c:i+(d+1)<ps.length:=(KK.mp hb).1;have hc:ps[i+d]?=some ps[i+d]:=Ah ω;have h1:=ih i a _ ha hc;have h2:=(y7 ps).mp h (i+d) _ b hc hb;omega
def fL(ps:List Int):Bool:=decide (1<=ps.length)&&decide (ps.length<=5)&&!(decide (ps.headD 0<0))&&!(decide (99<ps.getLastD 0))&&a_ ps
def fv(ps:List Int):Bool:=decide (1<=ps.length)&&decide (ps.length<=5)&&ps.all (fun p=>decide (0<=p)&&decide (p<=99))&&a_ ps
def rz(ps:List Int):fL ps=fv ps:=by
 unfold fL fv;cases ps with
 |nil=>rfl
 |cons x r=>
  by_cases hr:a_ (x::r)=true
  ·rw[hr,Bool.and_true,Bool.and_true]
   by_cases c:(x::r).length<=5
   ·have e1:(x::r).getLastD 0=(x::r)[(x::r).length-1]:=by
     rw[List.getLastD_eq_getLast?,List.getLast?_eq_getElem?,Ah (by simp)];rfl
    have key:(!(decide ((x::r).headD 0<0))&&!(decide (99<(x::r).getLastD 0)))=(x::r).all (fun p=>decide (0<=p)&&decide (p<=99)):=by
     rw[Qm];rw[AF,Ra,Ra,decide_eq_false_iff_not,decide_eq_false_iff_not,PP];constructor
     ·rintro⟨a,b⟩ p hp
      obtain⟨i,hi⟩:=Pc.mp hp;have d:i<(x::r).length:=(KK.mp hi).1;have g1:=FC (x::r) hr i 0 x p rfl (by simpa using hi);have g2:=FC (x::r) hr ((x::r).length-1-i) i p ((x::r)[(x::r).length-1]) hi (by
       rw[show i+((x::r).length-1-i)=(x::r).length-1 from ω];exact Ah (by simp))
      rw[e1] at b;have e:¬x<0:=a;simp only[AF,decide_eq_true_eq];constructor<;>omega
     ·intro h
      have g1:=h x Az;have g2:=h ((x::r)[(x::r).length-1]) (Pq _);rw[e1];simp only[AF,decide_eq_true_eq] at g1 g2;constructor
      ·show ¬x<0;omega
      ·omega
    rw[<-key];simp only[Bool.and_assoc]
   ·rw[Sd c];simp
  ·have:a_ (x::r)=false:=by simpa using hr
   rw[this,Q9,Q9]
def dY(ad:Ξ):Bool:=decide (ad.length<=20)&&ad.all fL&&!(decide ((dd ad).length<ad.length))&&decide ((dd (ad.flatMap parts)).length<=200)
def FD(ad:Ξ)(k:Nat):Prop:=∀(i:Nat) ps,i<k->ad[i]?=some ps->ps∉ad.take i/\fv ps=true
def KY(ad:Ξ)(h:ad.length<=20)(a:FD ad ad.length):dY ad=decide ((dd (ad.flatMap parts)).length<=200):=by
 unfold dY;have h1:ad.all fL=true:=PP.mpr fun ps hp=>by
  obtain⟨i,hi⟩:=Pc.mp hp;rw[rz];exact(a i ps (KK.mp hi).1 hi).2
 have h2:¬(dd ad).length<ad.length:=fun z=>by
  obtain⟨k,x,e,hx⟩:=(KM ad).mp z;exact(a k x (KK.mp e).1 e).1 hx
 rw[Sc h,h1,Sd h2]
 rfl
end K1
end
section
namespace L2
open PySem PySem.Spec PyProof.Rows
def ji(N N':List Str)(au:List (Option Nat))(scope:Scope):Bool:=decide (au.length=N'.length)&&(au.zip N').all fun p=>match p.1 with
 |none=>true
 |some j=>decide (N[j]?=some p.2)&&decide (scope.names.lookup p.2=some .free)
def FE{N N':List Str}{au:List (Option Nat)}{scope:Scope}(h:ji N N' au scope=true):mu N N' au scope:=by
 unfold ji at h;rw[AF,decide_eq_true_eq,PP] at h;refine⟨h.1,fun i j e=>?_⟩;have hi:i<au.length:=(KK.mp e).1;have e2:N'[i]?=some N'[i]:=Ah (by rw[<-h.1];exact hi);have:=h.2 (some j,N'[i]) (Pc.mpr ⟨i,by rw[cx.cG,e,e2];rfl⟩);simp only[AF,decide_eq_true_eq] at this;exact⟨N'[i],e2,this.1,this.2⟩
section
variable{X:Cx}{scope:Scope}{au:List (Option Nat)}{tg iter bF:Expr}{aX:List Expr}{wi:TI}{g:TG}{tc:TT}{te:TE}{pos:Pos}
def zq(N N':List Str)(au:List (Option Nat))(hi:PI X tg iter wi)(b:∀a C s₀ H₀ ex,PG (eF X scope N' a C s₀ H₀ ex) tg g)(ht:∀a C s₀ H₀ ex,iD (eF X scope N' a C s₀ H₀ ex) aX tc)(he:∀a C s₀ H₀ ex,PE (eF X scope N' a C s₀ H₀ ex) bF te)(hc:X.calm=true:=by rfl)(hk:scope.kind=.function:=by rfl)(c:∀y∈scope.names,y.2≠.cell:=by decide +kernel)(d:∀y∈scope.names,y.2=.free->scope.names.lookup y.1=some .free:=by decide +kernel)(e:∀y∈scope.names,y.2=.local->scope.names.lookup y.1=some .local:=by decide +kernel)(hfr:∀y∈scope.names,y.2=.free->X.env.kindOf y.1=some .cell\/X.env.kindOf y.1=some .free)(f:X.N=N:=by rfl)(h:ji N N' au scope=true:=by decide +kernel)(i:∀x,foldedSetIterable iter X.env x=pure x:=by intro _;rfl):PE X (.ListComp bF [⟨tg,iter,aX,0⟩] scope pos) (jO wi au g tc te):=
 Kh hc hk c d e hfr (FE (by rw[f];exact h)) hi b ht he i
end
def dI{env:Env}{scope:Scope}(h:scope.names.all (fun y=>decide (y.2≠.free))=true):∀y∈scope.names,y.2=.free->env.kindOf y.1=some .cell\/env.kindOf y.1=some .free:=fun y hy e=>
 absurd e (Se (PP.mp h y hy))
def bx{env:Env}{scope:Scope}(sc:Scope)(h:scope.names.all (fun y=>decide (y.2≠.free)|| decide (sc.names.lookup y.1=some .cell)|| decide (sc.names.lookup y.1=some .free))=true)(a:env.scope=sc:=by rfl):∀y∈scope.names,y.2=.free->env.kindOf y.1=some .cell\/env.kindOf y.1=some .free:=fun y hy e=>by
 subst a;have:=PP.mp h y hy;simp only[Bool.or_eq_true,decide_eq_true_eq] at this;rcases this with (q|q)|q
 ·exact absurd e q
 ·exact .inl q
 ·exact .inr q
def cJ(l:List Str)(h:l.Nodup:=by decide +kernel):l.Nodup:=h
def kX{te:TE}{σ:St}{H:Hp}{P:VK}{S:Hp->Prop}(h:te σ H P):cQ σ H fun b a=>if b=true then te σ a P else S a:=by
 show if true=true then te σ H P else S H;rw[Sa rfl];exact h
def dv{i:Nat}{v:V}{te:TE}{σ:St}{H:Hp}{P:St->VK}{S:St->Hp->Prop}(h:te (σ.set i (some v)) H (P (σ.set i (some v)))):zK i v σ H fun a d=>cQ a d fun b c=>if b=true then te a c (P a) else S a c:=kX (S:=S (σ.set i (some v))) h
def zt{J:It}{g:TG}{tc:TT}{te:TE}{σ:St}{H1:Hp}{Q:VK}{D:Addr}(h:zU J g tc te σ H1 D Q):zU J g tc te σ H1 D Q:=h
def Paired.of_at{c d:Type}{R:c->d->Prop}:∀{l:List c}{m:List d},l.length=m.length->(∀(i:Nat) x y,l[i]?=some x->m[i]?=some y->R x y)->Paired R l m
 |[],[],_,_=>.nil
 |x::l,y::m,h,f=>.cons (f 0 x y rfl rfl) (Paired.of_at (by simpa using h) fun i a b h1 h2=>f (i+1) a b (by simpa using h1) (by simpa using h2))
 |[],_::_,h,_=>by simp at h
 |_::_,[],h,_=>by simp at h
end L2
end
section
namespace HT
open PySem PyProof.Rows
section
variable{prog:Program}{w:World}{A:Around}{E:Ω}{s:Shared}
def KZ{t b:Addr}{a:Array Value}{c d:Value}{lo hi:Option Int}{Q:Ω}(ht:IsTup s.heap t a)(e:s.heap.IsSliceOf b c d .none)(j:IsPart c lo)(l:IsPart d hi)(hw:sIx a.size 0 lo=0/\sIx a.size a.size hi=a.size)(h:Q (.ref t) s):wpAny (model prog w) A (getItem (.ref t) (.ref b)) Q E s:=by
 obtain⟨os,f,hcs,o⟩:=id e;have g:s.TypeIs (.ref b) "slice":=⟨os,f,hcs⟩;obtain⟨p,r,q,nt,u⟩:=id ht;unfold getItem
 try with_reducible refine AD ?_
 first|refine Aa (Ae ?_)|skip
 refine Aa (wpAny_sequenceKey ht.typeIs ξ ?_);refine Aa (wpAny_callSpecial?_slot (name:=Str.ofString "__getitem__") ht.typeIs Qc
  (AZ Qc ht.typeIs entry_tuple_getitem ?_ (args_tuple_getitem _ _)))
 show wpAny _ _ (Builtin.Tuple.tupleItemsOf (.ref t) >>= _) _ _ s;refine Aa (tupleItemsOf_ ht ?_);refine Aa (wpAny_typeOf g ?_);rw[Sa ξ];refine Aa (Ex e j l ?_);have i:((((sIx a.size 0 lo:Nat):Int)==0&&(1:Int)==1&&(sIx a.size a.size hi-sIx a.size 0 lo)==a.size)=true):=by
  rw[hw.1,hw.2];simp
 show wpAny _ _ (if(((sIx a.size 0 lo:Nat):Int)==0&&(1:Int)==1&&(sIx a.size a.size hi-sIx a.size 0 lo)==a.size)=true then _ else _) _ _ s;rw[Sa i];refine Aa ?_;unfold Builtin.Tuple.tupleIsExact;refine Aa (wpAny_typeOf ht.typeIs (Ae ?_));rw[Sa ξ];refine Aa (wpAny_rule ?_);exact Ae ⟨_,rfl,Ae h⟩
end
end HT
namespace L2
open PySem PySem.Spec PyProof.Rows
section
variable{X:Cx}
def k4:V->Option Int->Option Int->Hp->VK->Prop:=fun x lo hi H Q=>∃a xs,x=.ref a/\H a=some (.tup xs)/\∀p H',Same H H'->H' p=some (.tup (cz xs lo hi))->Q (.ref p) H'
def mB:qH X k4:=by
 intro aa s σ H x v g i lo hi j Q I c d e f h;obtain⟨a,xs,rfl,hx,q⟩:=h
 by_cases hw:HT.sIx xs.length 0 lo=0/\HT.sIx xs.length xs.length hi=xs.length
 ·cases c
  obtain⟨ae,r,ht,hz⟩:=I.tuple (SqT.of (K:=X.K) hx);have b:ae.toArray.size=xs.length:=by rw[Al];exact r.length.symm
  refine⟨"tuple",_,PyProof.Rows.slot_tuple_getitem.lookup,ht.typeIs,HT.KZ ht d e f (by rw[b];exact hw) ⟨.ref a,H,I,rfl,q a H (Same.refl H) ?_⟩⟩;rw[hx];unfold cz;rw[hw.1,hw.2,List.drop_zero,R1,AB (Af _)]
 ·exact wl aa s σ H (.ref a) v g i lo hi j Q I c d e f ⟨a,xs,rfl,SqT.of hx,hw,fun p hp=>q p _ (Same.new hp) ag⟩
end
end L2
end
section
namespace K66
open K1
open PySem L2
def top(i:Nat):Stmt:=PySem.Challenge.pw_seamwright_k66_whole_holes_at_times.main.body.getD i (.Pass ⟨0,0,0,0⟩)
abbrev zc:Stmt:=top 11
structure Bt(mg:Str->Option Value):Prop where
 len:mg "len"=none
 all:mg "all"=none
 zip:mg "zip"=none
 sorted:mg "sorted"=none
 set:mg "set"=none
 list:mg "list"=none
 tuple:mg "tuple"=none
 range:mg "range"=none
 enumerate:mg "enumerate"=none
 int:mg "int"=none
 isinstance:mg "isinstance"=none
 reversed:mg "reversed"=none
 bool:mg "bool"=none
def c5:AV "len"=some (.builtin "len"):=δ
def FF:AV "all"=some (.builtin "all"):=δ
def K0:AV "zip"=some (.type "zip"):=δ
def rA:AV "sorted"=some (.builtin "sorted"):=δ
def fy:AV "list"=some (.type "list"):=δ
def zz:AV "tuple"=some (.type "tuple"):=δ
def A_:AV "enumerate"=some (.type "enumerate"):=δ
def Bk:AV "int"=some (.type "int"):=δ
def z0:AV "isinstance"=some (.builtin "isinstance"):=δ
def FG:AV "bool"=some (.type "bool"):=δ
def ze{n:Nat}(h:n<=100000):n<=sizeLine:=by rw[sizeLine_eq];omega
def zP{n:Nat}(h:n<=100000):n<sizeLine:=by rw[sizeLine_eq];omega
def K2(x:Int)(r:List Int):fY ((x::r).map V.int) (-1)=some (.int ((x::r).getLastD 0)):=by
 obtain⟨q,z,e⟩:∃q z,x::r=q++[z]:=⟨(x::r).dropLast,(x::r).getLast (List.cons_ne_nil x r),(List.dropLast_concat_getLast (List.cons_ne_nil x r)).symm⟩;rw[e,Ak,List.getLastD_eq_getLast?,List.getLast?_append];exact Jx _ _
def rC{ps:List Int}{i:Nat}{x:V}(h:(ps.map V.int)[i]?=some x):∃p,ps[i]?=some p/\x=.int p:=by
 rw[Ai] at h;cases e:ps[i]? with
 |none=>rw[e] at h;cases h
 |some p=>rw[e] at h;exact⟨p,rfl,(Ag h).symm⟩
def zL{as:List Addr}{i:Nat}{x:V}(h:(as.map V.ref)[i]?=some x):∃a,as[i]?=some a/\x=.ref a:=by
 rw[Ai] at h;cases e:as[i]? with
 |none=>rw[e] at h;cases h
 |some p=>rw[e] at h;exact⟨p,rfl,(Ag h).symm⟩
def AC{a:Type}{l:List a}{i:Nat}{x:a}(h:l[i]?=some x):l.take (i+1)=l.take i++[x]:=by rw[RN,h];rfl
def take_all{a:Type}(l:List a):l.take l.length=l:=AB (Af _)
def Br(x:Int)(r:List Int):cz ((x::r).map V.int) (some 1) none=r.map V.int:=by
 unfold cz;have e:HT.sIx ((x::r).map V.int).length 0 (some 1)=1:=by
  have:=HT.qz ((x::r).map V.int).length 0 1;rw[show((1:Nat):Int)=1 from rfl] at this;rw[this,Ab,At];omega
 rw[e,HT.wj];show List.take _ (r.map V.int)=_;rw[AB (by simp)]
section
variable{P:Program}{w:World}{K:Ac}{mg:Str->Option Value}{base:Heap}
def FH:Sp:=fun vs H Q _=>∃a ps,vs=[.ref a]/\Tp H a ps/\∀H',Same H H'->Q (.bl (fL ps)) H'
def K3:zm ["numbers"] ["numbers"] (zb zc):=⟨rfl,rfl,rfl,δ,rfl,δ,δ⟩
def K4{f:Addr}{fd:FuncData}{U W:Tok}(F:Fun K "is_piece" "is_piece" zc f fd)(B:Bt mg)(X:mg "MOST_POINTS"=some (.int 5 U))(Y:mg "LAST_POINT"=some (.int 99 W)):FnOk P w K mg base aR 1 f fd ["numbers"] FH:=by
 refine F.ok K3 (fun vs H Q E h=>?_) (fun cdv A outer s H vs Q E hr h=>?_)
 ·obtain⟨a,ps,rfl,_⟩:=h;rfl
 ·obtain⟨a,ps,rfl,ha,k⟩:=h
  refine⟨_,za (cT (ip (qx ku ku zd (zj zh rfl B.len c5 (ac (pv 0) ak)) (lR rfl X (v:=.int 5) ⟨_,rfl⟩))) (zf (zo fC)) zv)
   (za (cT (PW.pt (iX (zl kr (zJ zZ (pv 0) zd (fun _ _=>rfl)) zd (ax _)) (ke (zl kw (zJ zZ (pv 0) (l0 l3 zd) (fun _ _=>rfl)) (lR rfl Y (v:=.int 99) ⟨_,rfl⟩) (ax _))))) (zf (zo fC)) zv)
   (zf (zo (zj (E_ rfl) rfl B.all FF (ac
    (zq ["numbers"] ["low","high"] [none,none] (Kr rfl B.zip K0 (ac (pv 0) (ac (iC wl (pv 0) (iz zd) ix) ak)))
     (fun I C s₀ H₀ ex=>nP rfl (zW (zi (i:=0) (cJ ["low","high"]) rfl (Or.inl rfl)) (zW (zi (i:=1) (cJ ["low","high"]) rfl (Or.inl rfl)) lS)))
     (fun I C s₀ H₀ ex=>zX) (fun I C s₀ H₀ ex=>n4 kr (pv 0) (pv 1) (ax _)) (hfr:=dI δ) (g:=i3 K 2 (kj (zK 0) (kj (zK 1) i0)))) ak))))),?_⟩
  have o:fL ps=false->Q (.bl false) H:=fun e=>by have:=k H (Same.refl H);rw[e] at this;exact this
  refine⟨_,rfl,a,_,rfl,.inr (SqT.of ha),_,_,rfl,rfl,_,rfl,?_⟩;rw[Ab];refine cP (fun h1=>?_) (fun h1=>?_)
  ·refine⟨_,_,rfl,rfl,_,rfl,?_⟩
   have b:1<=ps.length:=by have:=Se h1;omega
   cases h5:decide ((ps.length:Int)<=5) with
   |false=>
    have c:¬ps.length<=5:=by have:=of_decide_eq_false h5;omega
    exact a6 (o (by unfold fL;rw[Sd c];simp))
   |true=>
    have c:ps.length<=5:=by have:=Se h5;omega
    refine aN ?_;obtain⟨x,r,rfl⟩:∃x r,ps=x::r:=by
     cases ps with
     |nil=>simp at b
     |cons x r=>exact⟨x,r,rfl⟩
    refine⟨_,rfl,a,_,_,_,rfl,rfl,SqT.of ha,gS (j:=0) rfl,_,_,rfl,rfl,_,rfl,?_⟩;refine cP (fun hx=>?_) (fun hx=>?_)
    ·refine a6 (o ?_)
     unfold fL;rw[show decide ((x::r).headD 0<0)=true from hx];simp
    ·refine⟨_,rfl,_,rfl,a,_,_,_,rfl,rfl,SqT.of ha,K2 x r,_,_,rfl,rfl,_,rfl,?_⟩
     cases hl:decide (99<(x::r).getLastD 0) with
     |true=>
      refine a6 (o ?_);unfold fL;rw[hl];simp
     |false=>
      refine aN ?_;refine⟨_,rfl,_,rfl,_,rfl,a,_,rfl,SqT.of ha,?_,fun p hp=>?_⟩
      ·intro z
       have e:=HT.qz ((x::r).map V.int).length 0 1;rw[show((1:Nat):Int)=1 from rfl,z.1,Ab,At] at e;omega
      ·rw[Br]
       have G:Same H (upd H p (.tup (r.map V.int))):=Same.new hp;refine⟨a,p,rfl,⟨_,SqT.of (G.tp ha)⟩,⟨_,SqT.of ag⟩,fun D J=>?_⟩;have hm:min ((x::r).map V.int).length (r.map V.int).length=r.length:=by simp
       refine zt (Kv (K:=K) (xs:=(x::r).map V.int) (ys:=r.map V.int) (fun i σ zs d=>∃u y,σ=[u,y]/\Same (upd H p (.tup (r.map V.int))) d/\d D=some (.lst zs)/\zs=((((x::r).zip r).map fun q=>decide (q.1<q.2)).take i).map V.bl)
        ⟨none,none,rfl,Same.new J,ag,rfl⟩ (fun i σ zs d ⟨_,_,_,sm,_⟩=>⟨SqT.of (sm.tp (G.tp ha)),SqT.of (sm _ _ ag)⟩) ?_ ?_)
       ·rintro i σ zs d N y1 y2 e1 e2 hi hz ⟨u,y,rfl,sm,l,rfl⟩ L
        obtain⟨O,g1,rfl⟩:=rC e1;obtain⟨S,g2,rfl⟩:=rC e2;refine⟨N,_,rfl,SqT.of ag,rfl,_,_,rfl,_,_,rfl,rfl,kX ?_⟩;refine⟨_,rfl,_,rfl,_,_,rfl,rfl,bw (Ay (Rj _ _) (by rw[Ab];exact ze (by simp at c;omega))) hi hz (by rw[al (zg l L)];exact l) ⟨_,_,rfl,?_,ag,?_⟩⟩
        ·exact(sm.then (sm.free L)).then J
        ·have e3:(((x::r).zip r).map fun q=>decide (q.1<q.2))[i]?=some (decide (O<S)):=by
          rw[Ai,cx.cG,g1,g2];rfl
         rw[AC e3,Ak];rfl
       ·rintro σ zs d ⟨u,y,rfl,sm,l,rfl⟩
        refine⟨D,(((x::r).zip r).map fun q=>decide (q.1<q.2)),rfl,SqL.of ?_,?_⟩
        ·rw[l,hm,AB (by simp)]
        ·have:=k d (G.trans sm)
         have M:=FB (x::r);rw[show(x::r).drop 1=r from rfl] at M;rw[M];have T:fL (x::r)=a_ (x::r):=by
          unfold fL;rw[Sc b,Sc c,hl];rw[show decide ((x::r).headD 0<0)=false from by simpa using hx]
          rfl
         rw[T] at this;exact this
  ·refine⟨_,rfl,a6 (o ?_)⟩
   have b:¬1<=ps.length:=fun z=>h1 (Sc ω);unfold fL;rw[Sd b]
   rfl
end
end K66
end
section
namespace K66
open K1
open PySem L2
section
variable{P:Program}{w:World}{K:Ac}{mg:Str->Option Value}{base:Heap}
def FI:Sp:=fun vs H Q _=>∃a ps,vs=[.ref a]/\Tp H a ps/\ps.length<=5/\∀D as H',Same H H'->H D=none->H' D=some (.lst (as.map V.ref))->Tps H' as (parts ps)->Q (.ref D) H'
def jj{n:Nat}(h:n<=5):2 ^ n<=32:=by
 have:2 ^ n<=2 ^ 5:=Nat.pow_le_pow_right ξ h;exact this
def K5{H2:Hp}{as:List Addr}{fs:Ξ}{q:Int}{D:Addr}{l:Addr}{Q:VK}(F:H2 l=some (.lst (as.map V.ref)))(ht:Tps H2 as fs)(hz:as.length<=100)(G:∀f∈fs,f.length<=100)(r:H2 D=none)(k:∀bs b,Same H2 b->b D=some (.lst (bs.map V.ref))->Tps b bs (fs.map (·++[q]))->Q (.ref D) b):zU (dG K l) (zK 0) cQ (bC yN (aw 0) (dk (dh (aw 1) bD))) [none,some (.int q)] H2 D Q:=by
 have C:=ht.length;refine zE (xs:=as.map V.ref) (fun j σ ys b=>∃bs v,σ=[v,some (.int q)]/\Same H2 b/\b D=some (.lst ys)/\ys=bs.map V.ref/\Tps b bs ((fs.take j).map (·++[q]))) ?_ ?_ ?_ ?_
 ·exact⟨[],none,rfl,Same.new r,ag,rfl,.nil⟩
 ·rintro j σ ys b ⟨bs,v,rfl,sm,d,rfl,hb⟩
  exact SqL.of (sm _ _ F)
 ·rintro j σ ys b x hx y hy ⟨bs,v,rfl,sm,d,rfl,hb⟩
  obtain⟨a,A,rfl⟩:=zL hx;obtain⟨f,i,hf⟩:=ht.get A;refine dv ?_;refine⟨_,rfl,_,rfl,ze (by simp),fun t u=>?_⟩;have E:=sm.tp hf;have o:Same b (upd b t (.tup [.int q])):=Same.new u;refine⟨a,t,_,_,rfl,rfl,o _ _ E,ag,?_,fun p h w hp=>?_⟩
  ·rw[Ab]
   exact ze (by have:=G f (Ao i);simp;omega)
  ·have g:Same b h:=o.trans w
   refine bw (ys:=bs.map V.ref) (by rw[Ab];exact ze ω) y hy (g _ _ d) ⟨bs++[p],_,rfl,(sm.trans g).then r,ag,by rw[Ak];rfl,?_⟩;rw[AC i,Ak];have H:p≠D:=a7 hp (g _ _ d) (by intro z;cases z);have keep:∀c xs,h c=some (.tup xs)->upd h D (.lst (bs.map V.ref++[V.ref p])) c=some (.tup xs):=fun c xs e=>by
    rw[al (a7 e (g _ _ d) (by intro z;cases z))];exact e
   refine Tps.snoc (Paired.mapP (g.tps hb) fun c xs e=>keep c _ e) (keep p _ ?_);rw[hp,Ak];rfl
 ·rintro σ ys b ⟨bs,v,rfl,sm,d,rfl,hb⟩
  rw[Ab,C,take_all] at hb;exact k bs b sm d hb
end
end K66
end
section
namespace K66
open K1
open PySem L2 STb
def Tps.upd{H:Hp}{d:Addr}{o o':HO}{as:List Addr}{ad:Ξ}(h:Tps H as ad)(hd:H d=some o')(b:∀xs,o'≠.tup xs):Tps (L2.upd H d o) as ad:=
 Paired.mapP h fun a ps e=>by
  show L2.upd H d o a=_;rw[al (a7 (show H a=some _ from e) hd fun z=>b _ z.symm)];exact e
def fM(seq:Ξ):List (List Key×V):=(dd seq).map fun ps=>((ps.map Sum.inl:List Key),V.bl true)
def FJ(seq:Ξ):(fM seq).length<=seq.length:=by unfold fM;rw[Ab];exact kW seq
def FK(seq:Ξ)(ps:List Int):putK (fM seq) (ps.map Sum.inl) (.bl true)=fM (seq++[ps]):=by
 unfold putK fM;rw[rn];have ha:(((dd seq).map fun ps=>((ps.map Sum.inl:List Key),V.bl true)).any fun kv=>decide (kv.1=ps.map Sum.inl))=decide (ps∈dd seq):=by
  rw[List.any_map]
  by_cases h:ps∈dd seq
  ·rw[Sc h,Qs]
   exact⟨ps,h,by simp⟩
  ·rw[Sd h,Q5]
   intro q hq;simp only[Function.comp,decide_eq_true_eq,gg];rintro rfl;exact h hq
 rw[ha]
 by_cases h:ps∈dd seq
 ·rw[Sc h,Sa rfl,Sa h,Aj]
  refine AA fun q hq=>?_;simp only[Function.comp];split<;>rfl
 ·rw[Sd h,Sb (by simp),Sb h,Ak]
  rfl
def K6{H:Hp}{seq:Ξ}{bs:List Addr}(h:Paired (fun(p:List Key×V) b=>H b=some (.tup (p.1.map kV))) (fM seq) bs):Tps H bs (dd seq):=by
 unfold fM at h;generalize dd seq=l at h
 induction l generalizing bs with
 |nil=>cases h;exact .nil
 |cons x l ih=>
  rw[As] at h;cases h with
  |cons r t=>
   refine .cons ?_ (ih t);show H _=_;rw[r,Aj]
   rfl
def FM(ad:Ξ)(h:∀ps∈ad,ps.length<=5):(ad.flatMap parts).length<=31*ad.length:=by
 induction ad with
 |nil=>simp
 |cons x l ih=>
  rw[Bf,Ap,oQ,At];have:=ih fun ps hp=>h ps (Ax _ hp);have:=jj (h x Az);omega
def K7{ad:Ξ}{i:Nat}{ps:List Int}(h:ad[i]?=some ps):(ad.take (i+1)).flatMap parts=(ad.take i).flatMap parts++parts ps:=by
 rw[AC h,Rt];simp
def Told(H H2:Hp)(ad:Ξ)(D:Addr)(c:List (List Int×Addr)):Prop:=
 Same H H2/\H D=none/\H2 D=some (.lst (c.map fun q=>V.ref q.2))/\(∀q∈c,Tp H2 q.2 q.1)/\(c.map (·.1)).Perm (dd (ad.flatMap parts))/\c.Pairwise (fun a b=>HT.lexLt ((b.1.length:Int)::b.1) ((a.1.length:Int)::a.1)=false)
section
variable{P:Program}{w:World}{K:Ac}{mg:Str->Option Value}{base:Heap}
def FN(K:Ac):Sp:=fun vs H Q _=>∃l as ad,vs=[.ref l]/\SqL K H l (as.map V.ref)/\Tps H as ad/\(∀ps∈ad,ps.length<=5)/\ad.length<=20/\(dd (ad.flatMap parts)).length<64/\∀D H2 a,Told H H2 ad D a->Q (.ref D) H2
end
end K66
end
section
namespace K66
open K1
open PySem L2 STb
abbrev Bs:Stmt:=top 36
abbrev k7:Stmt:=top 37
abbrev oR:Stmt:=top 38
def FO(x y:Int):Prop:=0<=x/\(y=0\/(y=1/\x<4294967296))
def zM(H:Hp)(p:Addr):Prop:=∃x y,H p=some (.lst [.int x,.int y])/\FO x y
def zD(p:Addr)(H H':Hp):Prop:=∀b o,b≠p->H b=some o->H' b=some o
def zD.trans{p:Addr}{H H1 H2:Hp}(a:zD p H H1)(b:zD p H1 H2):zD p H H2:=fun c o hc e=>b c o hc (a c o hc e)
def zD.of{p:Addr}{H H1:Hp}(a:Same H H1):zD p H H1:=fun c o _ e=>a c o e
def zD.free{p:Addr}{H H':Hp}(e:zD p H H')(hb:zM H p)(hb':zM H' p){l:Addr}(h:H' l=none):H l=none:=by
 cases q:H l with
 |none=>rfl
 |some o=>
  obtain⟨x,y,e1,_⟩:=hb';have a:l≠p:=fun z=>by rw[z,e1] at h;cases h
  rw[e l o a q] at h;cases h
def zM.same{H H':Hp}{p:Addr}(b:zM H p)(e:Same H H'):zM H' p:=let ⟨x,y,h,o⟩:=b;⟨x,y,e _ _ h,o⟩
def zM.ne{H:Hp}{p l:Addr}{as:List Addr}(b:zM H p)(h:H l=some (.lst (as.map V.ref))):l≠p:=by
 obtain⟨x,y,e,_⟩:=b;refine a7 h e fun z=>?_;injection z with z
 cases as with
 |nil=>cases z
 |cons a r=>rw[As] at z;cases z
def zM.net{H:Hp}{p t:Addr}{xs:List V}(b:zM H p)(h:H t=some (.tup xs)):t≠p:=by
 obtain⟨x,y,e,_⟩:=b;exact a7 h e (by intro z;cases z)
def zD.tp{p:Addr}{H H':Hp}{a:Addr}{ps:List Int}(e:zD p H H')(b:zM H p)(h:Tp H a ps):Tp H' a ps:=e _ _ (b.net h) h
def zD.tps{p:Addr}{H H':Hp}{as:List Addr}{ad:Ξ}(e:zD p H H')(b:zM H p)(h:Tps H as ad):Tps H' as ad:=Paired.mapP h fun _ _ q=>e.tp b q
def zD.then{p:Addr}{H H1:Hp}{a:Addr}{o:HO}(e:zD p H H1)(h:H a=none):zD p H (L2.upd H1 a o):=fun b u hb q=>by rw[al (zg q h)];exact e b u hb q
def zM.upd{H:Hp}{p l:Addr}{o:HO}(b:zM H p)(h:l≠p):zM (L2.upd H l o) p:=let ⟨x,y,e,k⟩:=b;⟨x,y,by rw[al h.symm];exact e,k⟩
def zM.new{H:Hp}{p l:Addr}{o:HO}(b:zM H p)(h:H l=none):zM (L2.upd H l o) p:=b.same (Same.new h)
section
variable{P:Program}{w:World}{K:Ac}{mg:Str->Option Value}{base:Heap}
def FP(K:Ac):Sp:=fun vs H Q _=>∃(l:Addr)(ns:List Int),vs=[.ref l,.int 0]/\SqL K H l (ns.map V.int)/\∀n,Q (.int n) H
def K8:zm ["script","k"] ["script","k"] (zb Bs):=⟨rfl,rfl,rfl,δ,rfl,δ,δ⟩
def K9{f:Addr}{fd:FuncData}(F:Fun K "_law_cell_at" "_law_cell_at" Bs f fd)(B:Bt mg):FnOk P w K mg base aR 1 f fd ["script","k"] (FP K):=by
 refine F.ok K8 (fun vs H Q E h=>?_) (fun cdv A outer s H vs Q E hr h=>?_)
 ·obtain⟨l,ns,rfl,_⟩:=h;rfl
 ·obtain⟨l,ns,rfl,a,k⟩:=h
  refine⟨_,za (cT (zl kr (pv 1) (zj zh rfl B.len c5 (ac (pv 0) ak)) (ax _)) (zf (zo (zJ zS (pv 0) (pv 1) (fun _ _=>rfl)))) zv) (zf (zo zd)),?_⟩;refine⟨_,rfl,_,rfl,l,_,rfl,.inl a,_,_,rfl,rfl,_,rfl,?_⟩;refine cP (fun h1=>?_) (fun h1=>?_)
  ·cases ns with
   |nil=>have:=Se h1;simp at this
   |cons n ns=>exact⟨_,rfl,_,rfl,l,_,_,_,rfl,rfl,a,gS (j:=0) rfl,k n⟩
  ·exact k 0
def FQ:Sp:=fun vs H Q _=>∃n,vs=[.int n]/\∀p x y,H p=none->FO x y->Q (.ref p) (upd H p (.lst [.int x,.int y]))
def K_:zm ["cell"] ["cell"] (zb k7):=⟨rfl,rfl,rfl,δ,rfl,δ,δ⟩
def K'{f:Addr}{fd:FuncData}(F:Fun K "_law_box" "_law_box" k7 f fd):FnOk P w K mg base aR 1 f fd ["cell"] FQ:=by
 refine F.ok K_ (fun vs H Q E h=>?_) (fun cdv A outer s H vs Q E hr h=>?_)
 ·obtain⟨n,rfl,_⟩:=h;rfl
 ·obtain⟨n,rfl,k⟩:=h
  refine⟨_,za (cT (zl Jh (pv 0) (zn nV zd zd) (ax _)) (zf (zo (zO (ac (zn gJ (pv 0) (zn nV zd zd)) (ac zd ak))))) zv)
   (zf (zo (zO (ac (zn eX (zn dL (zn fW (zn eX (pv 0) (zn nV zd zd)) zd) zd) zd) (ac zd ak))))),?_⟩
  have hc:nU 10 18:=⟨ξ,ξ,ξ⟩;have a:(10:Int) ^ (18:Int).toNat=1000000000000000000:=ξ
  refine⟨_,rfl,_,_,rfl,rfl,hc,_,_,rfl,rfl,_,rfl,?_⟩;refine cP (fun h1=>?_) (fun h1=>?_)
  ·refine⟨_,rfl,_,_,rfl,rfl,hc,_,_,rfl,rfl,ze (by simp),fun p hp=>k p _ 0 hp ⟨?_,.inl rfl⟩⟩
   have:=Se h1;omega
  ·refine⟨_,rfl,_,_,rfl,rfl,hc,_,_,rfl,rfl,(by show(0:Int)<10 ^ (18:Int).toNat;rw[a];decide),_,_,rfl,rfl,.inr ⟨ξ,ξ⟩,_,_,rfl,rfl,_,_,rfl,rfl,(by show(0:Int)<2147483629;decide),ze (by simp),fun p hp=>k p _ 1 hp ⟨?_,.inr ⟨rfl,?_⟩⟩⟩
   ·exact PZ _ ξ
   ·have:=Px (n%10 ^ (18:Int).toNat*69621+7001) (show(0:Int)<2147483629 from ξ)
    omega
def k8:Sp:=fun vs H Q _=>∃p m,vs=[.ref p,.int m]/\zM H p/\0<m/\m<1073741824/\∀r H',0<=r->r<m->zD p H H'->zM H' p->Q (.int r) H'
def Bz:zm ["box","most","found","mixed"] ["box","most"] (zb oR):=⟨rfl,rfl,rfl,δ,rfl,δ,δ⟩
def BB{f:Addr}{fd:FuncData}(F:Fun K "_law_take" "_law_take" oR f fd):FnOk P w K mg base aR 1 f fd ["box","most"] k8:=by
 refine F.ok Bz (fun vs H Q E h=>?_) (fun cdv A outer s H vs Q E hr h=>?_)
 ·obtain⟨p,m,rfl,_⟩:=h;rfl
 ·obtain⟨p,m,rfl,⟨x,y,hp,d,g⟩,a,hm,k⟩:=h
  refine⟨_,za (cT (zl ew (zJ zS (pv 0) zd (fun _ _=>rfl)) zd (ax _))
    (za (zk (i:=2) Bz.nd rfl (Or.inl rfl) (zn eX (zJ zS (pv 0) zd (fun _ _=>rfl)) (pv 1)))
    (za (qr (zn Eg (zJ zS (pv 0) zd (fun _ _=>rfl)) (pv 1)) (ve (pv 0) zd set_list))
    (zf (zo (pv 2))))) zv)
   (za (zk (i:=3) Bz.nd rfl (Or.inl rfl) (zn eX (zn dL (zn dL (zn fW (zJ zS (pv 0) zd (fun _ _=>rfl)) (zJ zS (pv 0) zd (fun _ _=>rfl))) (zn fW zd (zJ zS (pv 0) zd (fun _ _=>rfl)))) zd) zd))
   (za (qr (zn eX (zn dL (zn dL (zn fW (pv 3) (pv 3)) (zn fW zd (pv 3))) zd) zd) (ve (pv 0) zd set_list))
   (zf (zo (zn eX (zn Eg (zJ zS (pv 0) zd (fun _ _=>rfl)) zd) (pv 1)))))),?_⟩
  have c:fY ([.int x,.int y]:List V) 0=some (.int x):=gS (j:=0) rfl;have D:fY ([.int x,.int y]:List V) 1=some (.int y):=gS (j:=1) rfl;refine⟨_,rfl,p,_,_,_,rfl,rfl,SqL.of hp,D,rfl,_,rfl,?_⟩;refine cP (fun h1=>?_) (fun h1=>?_)
  ·refine⟨_,rfl,p,_,_,_,rfl,rfl,SqL.of hp,c,_,rfl,_,_,rfl,rfl,a,?_⟩
   refine⟨_,rfl,p,_,_,_,rfl,rfl,SqL.of hp,c,_,rfl,_,_,rfl,rfl,⟨a,hm⟩,_,rfl,p,_,_,0,rfl,rfl,hp,rfl,?_⟩;refine⟨_,rfl,k (x%m) _ (PZ _ ω) (Px _ a) (fun b o hb e=>by rw[al hb];exact e) ⟨x / m,y,ag,Int.ediv_nonneg d ω,?_⟩⟩;rcases g with q|⟨q,hx⟩
   ·exact .inl q
   ·refine .inr ⟨q,Int.lt_of_le_of_lt (Int.ediv_le_self _ d) hx⟩
  ·have hy:y=1/\x<4294967296:=by
    rcases g with q|q
    ·exact absurd (by subst q;rfl) h1
    ·exact q
   obtain⟨rfl,hx⟩:=hy;have hb:CMul x x:=.inl ⟨ω,ω⟩;refine⟨_,rfl,p,_,_,_,rfl,rfl,SqL.of hp,c,_,rfl,p,_,_,_,rfl,rfl,SqL.of hp,c,_,_,rfl,rfl,hb,_,rfl,p,_,_,_,rfl,rfl,SqL.of hp,c,_,_,rfl,rfl,.inl ⟨ξ,ξ⟩,_,_,rfl,rfl,_,_,rfl,rfl,_,_,rfl,rfl,(by show(0:Int)<2147483647;decide),?_⟩;have G:=PZ (x*x+39373*x+12345) (show(2147483647:Int)≠0 from ξ);have I:=Px (x*x+39373*x+12345) (show(0:Int)<2147483647 from ξ);obtain⟨z,l⟩:∃z,z=(x*x+39373*x+12345)%2147483647:=⟨_,rfl⟩;rw[<-l] at G I;show nK _ _ _ ([some (.ref p),some (.int m),none,some (.int ((x*x+39373*x+12345)%2147483647))]:St) H;rw[<-l];refine⟨_,rfl,_,rfl,_,_,rfl,rfl,.inl ⟨ω,ω⟩,_,rfl,_,_,rfl,rfl,.inl ⟨ξ,ξ⟩,_,_,rfl,rfl,_,_,rfl,rfl,_,_,rfl,rfl,(by show(0:Int)<2147483587;decide),_,rfl,p,_,_,0,rfl,rfl,hp,rfl,?_⟩;have v:=PZ (z*z+16807*z+7) (show(2147483587:Int)≠0 from ξ);have g1:=Px (z*z+16807*z+7) (show(0:Int)<2147483587 from ξ);obtain⟨u,r⟩:∃u,u=(z*z+16807*z+7)%2147483587:=⟨_,rfl⟩;rw[<-r] at v g1;have C:upd H p (.lst [.int ((z*z+16807*z+7)%2147483587),.int 1]) p=some (.lst [.int u,.int 1]):=by rw[r];exact ag
   refine⟨_,rfl,p,_,_,_,rfl,rfl,SqL.of C,gS (j:=0) rfl,_,_,rfl,rfl,⟨ξ,ξ⟩,_,rfl,_,_,rfl,rfl,a,?_⟩;exact k _ _ (PZ _ ω) (Px _ a) (fun b o hb e=>by rw[al hb];exact e) ⟨u,1,C,v,.inr ⟨rfl,ω⟩⟩
end
end K66
end
section
namespace K66
open K1
open PySem L2 STb
abbrev oS:Stmt:=top 39
abbrev BE:Stmt:=top 40
section
variable{P:Program}{w:World}{K:Ac}{mg:Str->Option Value}{base:Heap}
def La{H2:Hp}{as:List Addr}{fs:Ξ}{D l:Addr}{Q:VK}(E:H2 l=some (.lst (as.map V.ref)))(ht:Tps H2 as fs)(hz:as.length<=100)(w:H2 D=none)(k:∀bs b,Same H2 b->b D=some (.lst (bs.map V.ref))->Tps b bs (fs.filter fun q=>!decide (q=[]))->Q (.ref D) b):zU (dG K l) (zK 0) (dN (bC (kL true K) (aw 0) (dk bD))) (aw 0) [none] H2 D Q:=by
 have C:=ht.length;refine zE (xs:=as.map V.ref) (fun j σ ys b=>∃bs v,σ=[v]/\Same H2 b/\b D=some (.lst ys)/\ys=bs.map V.ref/\Tps b bs ((fs.take j).filter fun q=>!decide (q=[]))) ?_ ?_ ?_ ?_
 ·exact⟨[],none,rfl,Same.new w,ag,rfl,.nil⟩
 ·rintro j σ ys b ⟨bs,v,rfl,sm,g,rfl,hb⟩
  exact SqL.of (sm _ _ E)
 ·rintro j σ ys b x hx i hy ⟨bs,v,rfl,sm,g,rfl,hb⟩
  obtain⟨a,A,rfl⟩:=zL hx;obtain⟨f,p,hf⟩:=ht.get A;refine⟨_,rfl,ze (by simp),fun t y=>?_⟩;have r:=sm.tp hf;have d:Same b (upd b t (.tup [])):=Same.new y;refine .inl ⟨a,t,f,[],rfl,rfl,d.tp r,ag,_,rfl,?_⟩;have u:=sm.trans d;have keep:∀(o:HO) c xs,upd b t (.tup []) c=some (.tup xs)->upd (upd b t (.tup [])) D o c=some (.tup xs):=fun o c xs e=>by
   rw[al (a7 e (d _ _ g) (by intro z;cases z))];exact e
  by_cases h:f=[]
  ·subst h
   refine aN (cV i hy ⟨bs,_,rfl,u,d _ _ g,rfl,?_⟩);rw[AC p,AJ]
   simpa using d.tps hb
  ·rw[Sa rfl,show(!decide (f=[]))=true by simp[h]]
   refine a6 ⟨_,rfl,bw (ys:=bs.map V.ref) (by rw[Ab];exact ze ω) i hy (d _ _ g) ⟨bs++[a],_,rfl,u.then w,ag,by rw[Ak];rfl,?_⟩⟩;rw[AC p,AJ,show [f].filter (fun q=>!decide (q=[]))=[f] by simp[h]];exact Tps.snoc (Paired.mapP (d.tps hb) fun c xs e=>keep _ c _ e) (keep _ a _ (d.tp r))
 ·rintro σ ys b ⟨bs,v,rfl,sm,g,rfl,hb⟩
  rw[Ab,C,take_all] at hb;exact k bs b sm g hb
def rD:zm ["piece","found","point"] ["piece"] (zb oS):=⟨rfl,rfl,rfl,δ,rfl,δ,δ⟩
def Lb{f:Addr}{fd:FuncData}(F:Fun K "_law_parts" "_law_parts" oS f fd):FnOk P w K mg base aR 1 f fd ["piece"] FI:=by
 refine F.ok rD (fun vs H Q E h=>?_) (fun cdv A outer s H vs Q E hr h=>?_)
 ·obtain⟨a,ps,rfl,_⟩:=h;rfl
 ·obtain⟨a,ps,rfl,ha,I,k⟩:=h
  have L:=hr.units;refine⟨_,za (zk (i:=1) rD.nd rfl (Or.inl rfl) (zO (ac (eZ ak) ak)))
   (za (el AK rfl (Ee (pv 0)) (zi (i:=2) rD.nd rfl (Or.inr rfl))
    (zf (zk (i:=1) rD.nd rfl (Or.inl rfl) (zn me (pv 1) (zq ["piece","found","point"] ["part","point"] [none,some 2] (zu (pv 1)) (fun d C s₀ H₀ ex=>zi (i:=0) (cJ ["part","point"]) rfl (Or.inl rfl)) (fun d C s₀ H₀ ex=>zX)
     (fun d C s₀ H₀ ex=>zn q8 (pv 0) (eZ (ac (pv 1) ak))) (hfr:=bx (zb oS) δ))))))
   (zf (zo (zq ["piece","found","point"] ["part"] [none] (zu (pv 1)) (fun d C s₀ H₀ ex=>zi (i:=0) (cJ ["part"]) rfl (Or.inl rfl)) (fun d C s₀ H₀ ex=>zQ (zl (rf L) (pv 0) (eZ ak) (ax _)))
     (fun d C s₀ H₀ ex=>pv 0) (hfr:=dI δ) (tc:=dN (bC (kL true K) (aw 0) (dk bD))))))),?_⟩
  refine⟨ze (by simp),fun e he=>⟨ze (by simp),fun l b=>?_⟩⟩;have u:Same H (upd (upd H e (.tup [])) l (.lst [.ref e])):=(Same.new he).then ((Same.new he).free b);have M:e≠l:=zg (H:=upd H e (.tup [])) ag b;refine⟨_,rfl,a,rfl,⟨_,SqT.of (u _ _ ha)⟩,Jf (K:=K) (a:=a) (xs:=ps.map V.int) (fun i σ H2=>∃l as v,σ=[some (.ref a),some (.ref l),v]/\Same H H2/\H l=none/\H2 l=some (.lst (as.map V.ref))/\Tps H2 as (subs (ps.take i)))
   ⟨l,[e],none,rfl,u,(Same.new he).free b,ag,.cons (by show upd _ _ _ e=_;rw[al M];exact ag) .nil⟩ (fun i σ H2 _ ⟨_,_,_,_,sm,_⟩=>SqT.of (sm _ _ ha)) ?_ ?_⟩
  ·rintro i x σ H2 hx ⟨l,as,v,rfl,sm,J,b,ht⟩
   obtain⟨q,eq,rfl⟩:=rC hx;have hi:i<ps.length:=(KK.mp eq).1;have p:=ht.length;have O:as.length<=32:=by
    rw[p,yX,Aw];exact jj ω
   have hm:∀f∈subs (ps.take i),f.length<=100:=fun f hf=>by
    have:=KW _ f hf;rw[Aw] at this;omega
   refine⟨_,rfl,_,rfl,l,rfl,⟨_,SqL.of b⟩,fun D j=>zt (K5 b ht ω hm j fun bs G c o hb=>?_)⟩;have N:=hb.length;rw[Ab] at N;refine⟨l,D,_,_,rfl,rfl,c _ _ b,o,by rw[Ab,Ab];exact ze ω,fun r g=>?_⟩;have y:H r=none:=(sm.trans c).free g;refine⟨r,as++bs,_,rfl,(sm.trans c).then y,y,by rw[ag,Ak],?_⟩;rw[AC eq,Fy];exact(Same.new g).tps ((c.tps ht).append hb)
  ·rintro σ H2 ⟨l,as,v,rfl,sm,J,b,ht⟩
   rw[Ab,take_all] at ht;have p:=ht.length;refine⟨_,rfl,l,rfl,⟨_,SqL.of b⟩,fun D j=>zt (La b ht (by rw[p,yX];have:=jj I;omega) j fun bs G c o hb=>?_)⟩;rw[KU] at hb;exact k D bs G (sm.trans c) (sm.free j) o hb
def Lc{H2:Hp}{bs:List Addr}{fs:Ξ}{D l:Addr}{Q:VK}(F:H2 l=some (.lst (bs.map V.ref)))(ht:Tps H2 bs fs)(hz:bs.length<=1000)(u:H2 D=none)(k:∀(cs:List Addr) a,Same H2 a->a D=some (.lst (cs.map V.ref))->cs.length=bs.length->(∀(i:Nat) c,cs[i]?=some c->∃b f,bs[i]?=some b/\fs[i]?=some f/\a c=some (.tup [.int f.length,.ref b]))->Q (.ref D) a):zU (dG K l) (zK 0) cQ (dk (dh (jM (fun xs H Q=>∃p ys,xs=[V.ref p]/\(SqL K H p ys\/SqT K H p ys)/\Q (.int ys.length) H) (dh (aw 0) bD)) (dh (aw 0) bD))) [none] H2 D Q:=by
 have G:=ht.length;refine zE (xs:=bs.map V.ref) (fun j σ ys a=>∃(cs:List Addr)(v:Option V),σ=[v]/\Same H2 a/\a D=some (.lst ys)/\ys=cs.map V.ref/\cs.length=j/\∀(i:Nat) c,cs[i]?=some c->∃b f,bs[i]?=some b/\fs[i]?=some f/\a c=some (.tup [.int f.length,.ref b])) ?_ ?_ ?_ ?_
 ·exact⟨[],none,rfl,Same.new u,ag,rfl,rfl,fun i c e=>by simp at e⟩
 ·rintro j σ ys a ⟨cs,v,rfl,sm,g,rfl,q,hc⟩
  exact SqL.of (sm _ _ F)
 ·rintro j σ ys a x hx q hy ⟨cs,v,rfl,sm,g,rfl,d,hc⟩
  obtain⟨b,r,rfl⟩:=zL hx;obtain⟨f,y,hf⟩:=ht.get r;refine dv ?_;refine⟨_,rfl,b,_,rfl,.inr (SqT.of (sm.tp hf)),_,rfl,ze (by simp),fun t w=>?_⟩;rw[show(f.map V.int).length=f.length from Ab _];have h:Same a (upd a t (.tup [.int f.length,.ref b])):=Same.new w;have keep:∀(o:HO) c xs,upd a t (.tup [.int f.length,.ref b]) c=some (.tup xs)->upd (upd a t (.tup [.int f.length,.ref b])) D o c=some (.tup xs):=fun o c xs e=>by
   rw[al (a7 e (h _ _ g) (by intro z;cases z))];exact e
  refine bw (ys:=cs.map V.ref) (by rw[Ab];exact ze ω) q hy (h _ _ g) ⟨cs++[t],_,rfl,(sm.trans h).then u,ag,by rw[Ak];rfl,by rw[Ap,d];rfl,fun i c e=>?_⟩
  by_cases hi:i<cs.length
  ·rw[Qd hi] at e
   obtain⟨A,C,e1,e2,e3⟩:=hc i c e;exact⟨A,C,e1,e2,keep _ c _ (h _ _ e3)⟩
  ·rw[P8 ω] at e
   have E:i-cs.length=0:=by
    rcases Nat.eq_zero_or_pos (i-cs.length) with z|z
    ·exact z
    ·rw[PD (by simp only[At,Pz];omega)] at e;cases e
   rw[E] at e;obtain rfl:t=c:=by simpa using e
   have:i=j:=ω
   subst this;exact⟨b,f,r,y,keep _ t _ ag⟩
 ·rintro σ ys a ⟨cs,v,rfl,sm,g,rfl,d,hc⟩
  rw[Ab] at d;exact k cs a sm g d hc
def jZ(H:Hp)(c:Addr):Addr:=match H c with
 |some (.tup [_,.ref b])=>b
 |_=>0
def Ld{H2:Hp}{cs:List Addr}{D l:Addr}{Q:VK}(i:H2 l=some (.lst (cs.map V.ref)))(ht:∀c∈cs,∃n b,H2 c=some (.tup [.int n,.ref b]))(hz:cs.length<=1000)(g:H2 D=none)(k:∀a,Same H2 a->a D=some (.lst (cs.map fun c=>V.ref (jZ H2 c)))->Q (.ref D) a):zU (dG K l) (zK 0) cQ (bC (i' K) (aw 0) (tC (.int 1))) [none] H2 D Q:=by
 refine zE (xs:=cs.map V.ref) (fun j σ ys a=>∃v,σ=[v]/\Same H2 a/\a D=some (.lst ys)/\ys=(cs.take j).map fun c=>V.ref (jZ H2 c)) ?_ ?_ ?_ ?_
 ·exact⟨none,rfl,Same.new g,ag,rfl⟩
 ·rintro j σ ys a ⟨v,rfl,sm,d,rfl⟩
  exact SqL.of (sm _ _ i)
 ·rintro j σ ys a x hx h hy ⟨v,rfl,sm,d,rfl⟩
  obtain⟨c,f,rfl⟩:=zL hx;obtain⟨n,b,e⟩:=ht c (Ao f);refine dv ?_;refine⟨_,rfl,c,_,_,_,rfl,rfl,SqT.of (sm _ _ e),gS (j:=1) rfl,bw (by rw[Ab];exact ze ω) h hy d ⟨_,rfl,sm.then g,ag,?_⟩⟩;rw[AC f,Ak];have:jZ H2 c=b:=by unfold jZ;rw[e]
  rw[<-this];rfl
 ·rintro σ ys a ⟨v,rfl,sm,d,rfl⟩
  rw[Ab,take_all] at d;exact k a sm d
def oT:zm ["web","found","piece","part","ranked"] ["web"] (zb BE):=⟨rfl,rfl,rfl,δ,rfl,δ,δ⟩
def Le{f fp:Addr}{fd nj:FuncData}(F:Fun K "_law_pieces" "_law_pieces" BE f fd)(B:Bt mg)(Fp:Fun K "_law_parts" "_law_parts" oS fp nj)(bp:Binds K nj ["piece"] [])(mp:mg "_law_parts"=some (.ref fp)):FnOk P w K mg base aR 2 f fd ["web"] (FN K):=by
 have Gp:FnOk P w K mg base aR 1 fp nj ["piece"] FI:=Lb Fp;refine F.ok oT (fun vs H Q E h=>?_) (fun cdv A outer s H vs Q E hr h=>?_)
 ·obtain⟨l,as,ad,rfl,_⟩:=h;rfl
 ·obtain⟨l,as,ad,rfl,hl,ht,h5,kZ,eM,k⟩:=h
  have hu:=fK hr;have aD:=hr.units;refine⟨_,za (zk (i:=1) oT.nd rfl (Or.inl rfl) ja)
   (za (el AK rfl (zu (pv 0)) (zi (i:=2) oT.nd rfl (Or.inl rfl))
    (zf (el AK rfl (zu (zR Gp hr rfl mp Fp.kp bp .nil aH (ac (pv 2) ak))) (zi (i:=3) oT.nd rfl (Or.inl rfl))
     (zf (hB hu (pv 1) (pv 3) fC rfl)))))
   (za (zk (i:=4) oT.nd rfl (Or.inl rfl) (zj (KH aD) rfl B.sorted rA (ac
    (zq ["web","found","piece","part","ranked"] ["piece"] [none] (zu (zp (Kw rfl) rfl B.list fy (ac (pv 1) ak))) (fun J C s₀ H₀ ex=>zi (i:=0) (cJ ["piece"]) rfl (Or.inl rfl)) (fun J C s₀ H₀ ex=>zX)
     (fun J C s₀ H₀ ex=>eZ (ac (zj zh rfl B.len c5 (ac (pv 0) ak)) (ac (pv 0) ak))) (hfr:=dI δ) (te:=dk (dh (jM (fun xs H Q=>∃p ys,xs=[V.ref p]/\(SqL K H p ys\/SqT K H p ys)/\Q (.int ys.length) H) (dh (aw 0) bD)) (dh (aw 0) bD)))) ak)))
   (zf (zo (zq ["web","found","piece","part","ranked"] ["one"] [none] (zu (pv 4)) (fun J C s₀ H₀ ex=>zi (i:=0) (cJ ["one"]) rfl (Or.inl rfl)) (fun J C s₀ H₀ ex=>zX)
     (fun J C s₀ H₀ ex=>zJ zZ (pv 0) zd (fun _ _=>rfl)) (hfr:=dI δ) (te:=bC (i' K) (aw 0) (tC (.int 1)))))))),?_⟩
  intro d hd;have aE:=ht.length;refine⟨_,rfl,l,rfl,⟨_,(Same.new hd).seq hl⟩,iv (K:=K) (a:=l) (xs:=as.map V.ref) (fun i σ H2=>∃v G u,σ=[some (.ref l),some (.ref d),v,G,u]/\Same H H2/\H2 d=some (.dT (fM ((ad.take i).flatMap parts))))
   ⟨none,none,none,rfl,Same.new hd,ag⟩ (fun i σ H2 _ ⟨_,_,_,_,sm,_⟩=>sm.seq hl) ?_ ?_⟩
  ·rintro i x σ H2 hx ⟨v,G,u,rfl,sm,M⟩
   obtain⟨a,ea,rfl⟩:=zL hx;obtain⟨ps,aY,bP⟩:=ht.get ea;have jP:=h5 ps (Ao aY);have hi:i<ad.length:=(KK.mp aY).1;refine⟨_,rfl,a,ps,rfl,sm.tp bP,jP,fun D cs o r c8 L hcs=>⟨D,rfl,⟨_,SqL.of L⟩,?_⟩⟩;have wY:=hcs.length;have tQ:D≠d:=a7 L (r _ _ M) (by intro z;cases z);refine iv (K:=K) (a:=D) (xs:=cs.map V.ref) (fun j σ I=>∃G,σ=[some (.ref l),some (.ref d),some (.ref a),G,u]/\Same H I/\I D=some (.lst (cs.map V.ref))/\Tps I cs (parts ps)/\I d=some (.dT (fM ((ad.take i).flatMap parts++(parts ps).take j))))
    ⟨_,rfl,sm.trans r,L,hcs,by rw[RD,Po];exact r _ _ M⟩ (fun j σ I _ ⟨_,_,_,q,_⟩=>SqL.of q) ?_ ?_
   ·rintro j x σ I hx ⟨G,rfl,bq,dW,iF,N⟩
    obtain⟨c,ec,rfl⟩:=zL hx;obtain⟨f,ef,hf⟩:=iF.get ec;have O:(fM ((ad.take i).flatMap parts++(parts ps).take j)).length<sizeLine:=by
     refine zP (Ay (FJ _) ?_);rw[Ap];have h1:=FM (ad.take i) (fun q hq=>h5 q (QJ hq));have h2:=oQ ps;have Y:=jj jP;rw[Aw] at h1 ⊢;omega
    refine⟨_,rfl,_,rfl,d,_,rfl,DPut.t (k:=f.map Sum.inl) N (by rw[Aj];exact hf) O,⟨_,rfl,bq.then hd,?_,?_,?_⟩⟩
    ·rw[al tQ];exact dW
    ·exact Tps.upd iF N (by intro xs z;cases z)
    ·rw[ag,FK,RO,<-AC ef]
   ·rintro σ I ⟨G,rfl,bq,dW,iF,N⟩
    refine⟨_,_,_,rfl,bq,?_⟩;rw[Ab,wY,take_all] at N;rw[K7 aY];exact N
  ·rintro σ H2 ⟨v,G,u,rfl,sm,M⟩
   rw[Ab,aE,take_all] at M;refine⟨_,rfl,d,_,rfl,M,fun bs hb l2 W=>?_⟩;have tb:=K6 hb;have nw:=tb.length;have kB:(dd (ad.flatMap parts)).length<=620:=by
    have h1:=kW (ad.flatMap parts);have h2:=FM ad h5;omega
   have U:Same H2 (upd H2 l2 (.lst (bs.map V.ref))):=Same.new W;refine⟨l2,rfl,⟨_,SqL.of ag⟩,fun D L=>zt (Lc (K:=K) ag (U.tps tb) ω L fun cs o r ah hcl hc=>?_)⟩;have cM:=r.tps (U.tps tb);refine⟨D,cs,(dd (ad.flatMap parts)).map fun f=>((f.length:Int)::f),rfl,SqL.of ah,?_,(by rw[Ab];exact eM),fun R g hp hs hR=>?_⟩
   ·refine Paired.of_at (by rw[Ab];omega) fun i c y e1 e2=>?_
    obtain⟨b,f,g1,g2,g3⟩:=hc i c e1;rw[Ai,g2] at e2;obtain rfl:=Ag e2;exact⟨_,b,f,rfl,g3,kR cM i b f g1 g2⟩
   ·have S:Same o (upd o R (.lst (g.map fun q=>V.ref q.2))):=Same.new hR
    have hq:∀q∈g,∃b f,q.1=((f:List Int).length:Int)::f/\o q.2=some (.tup [.int f.length,.ref b])/\Tp o b f:=fun q hq=>by
     obtain⟨m,em⟩:=Pc.mp (hp.mem_iff.mp hq);rw[cx.cG,Ai] at em;cases e2:cs[m]? with
     |none=>rw[e2] at em;cases h:(dd (ad.flatMap parts))[m]?<;>rw[h] at em<;>cases em
     |some c=>
      obtain⟨b,f,g1,g2,g3⟩:=hc m c e2;rw[g2,e2] at em;obtain rfl:(((f.length:Int)::f),c)=q:=Ag em;exact⟨b,f,rfl,g3,kR cM m b f g1 g2⟩
    have hql:g.length<=620:=by rw[hp.length_eq,QG,Ab];omega
    refine⟨_,rfl,R,rfl,⟨_,SqL.of ag⟩,fun D2 bb=>zt (Ld (K:=K) (cs:=g.map (·.2)) (by rw[ag,Aj];rfl) (fun c vh=>?_) (by rw[Ab];omega) bb fun H5 bN bX=>?_)⟩
    ·obtain⟨q,X,rfl⟩:=Bp.mp vh
     obtain⟨b,f,_,g2,_⟩:=hq q X;exact⟨_,b,S _ _ g2⟩
    ·have mo:Same H H5:=((sm.trans U).trans r).trans (S.trans bN)
     have snd:∀q∈g,∀b f,o q.2=some (.tup [.int (f:List Int).length,.ref b])->jZ (upd o R (.lst (g.map fun q=>V.ref q.2))) q.2=b:=fun q _ b f e=>by
      unfold jZ;rw[S _ _ e]
     refine k D2 H5 (g.map fun q=>(q.1.tail,jZ (upd o R (.lst (g.map fun q=>V.ref q.2))) q.2)) ⟨mo,(((sm.trans U).trans r).trans S).free bb,?_,fun q X=>?_,?_,?_⟩
     ·rw[bX,Aj,Aj];rfl
     ·obtain⟨T,h0,rfl⟩:=Bp.mp X
      obtain⟨b,f,g1,g2,g3⟩:=hq T h0;show Tp H5 (jZ _ T.2) T.1.tail;rw[snd T h0 b f g2,g1];exact bN.tp (S.tp g3)
     ·rw[Aj]
      have h1:=hp.map (fun q:List Int×Addr=>q.1.tail);have e:((((dd (ad.flatMap parts)).map fun f=>((f.length:Int)::f)).zip cs).map fun q:List Int×Addr=>q.1.tail)=dd (ad.flatMap parts):=by
       rw[show(fun q:List Int×Addr=>q.1.tail)=(fun l:List Int=>l.tail) ∘ Prod.fst from rfl,<-Aj,Rl (by rw[Ab];omega),Aj];exact Rw _
      rw[e] at h1;exact h1
     ·rw[AS]
      refine hs.imp_of_mem fun{p q} h1 h2 Y=>?_;obtain⟨_,f,g1,_⟩:=hq p h1;obtain⟨_,f',qE,_⟩:=hq q h2;rw[g1,qE] at Y;rw[g1,qE];exact Y
end
end K66
end
section
namespace K66
open K1
open PySem L2 STb
abbrev rE:Stmt:=top 41
abbrev oV:Stmt:=top 42
def texts:List Str:=(["","0","01 12 02","012 013 023 123","01 02 03","012 023 034 014","0123","01 23 45","012 34"]:List Str)++(["012 123 234 034 014","01 12 23 03 13","012 013 014","0 1 2 3"]:List Str)++(["01 12 02 34 45 35","023 234 1"]:List Str)
++(["014 015 023 025 034 123 124 135 245 345","012 013 024 034 125 135 245 345"]:List Str)++(["01234","0123 0124 0134 0234 1234"]:List Str)++(["013 123 234 024 014 145 125 025 056 016 126 267 027 037 345 356 367"]:List Str)
def wordsOf(n:Nat):List Str:=Txt.split (texts.getD n "") " "
def digits(x:Str):List Int:=x.cps.toList.map fun(c:Nat)=>((c:Int)-48)
def known(n:Nat):Ξ:=((wordsOf n).filter fun(x:Str)=>!decide (x="")).map digits
def Lf:∀n,n<20->(texts.getD n "").length+2<=1000/\(wordsOf n).length<=20/\∀x∈wordsOf n,x.cps.size<=5/\∀c∈x.cps.toList,48<=c/\c<=57:=δ
def Lg:∀c,48<=c->c<=57->intText? ⟨#[c]⟩=some ((c:Int)-48):=by
 intro c h1 h2;have:∀c,c<58->48<=c->intText? ⟨#[c]⟩=some ((c:Int)-48):=δ
 exact this c ω h1
section
variable{P:Program}{w:World}{K:Ac}{mg:Str->Option Value}{base:Heap}
def FR:Sp:=fun vs H Q _=>∃n:Nat,vs=[.int n]/\n<20/\∀D as H',Same H H'->H D=none->H' D=some (.lst (as.map V.ref))->Tps H' as (known n)->Q (.ref D) H'
def k9:zm ["number","some","web","word"] ["number"] (zb rE):=⟨rfl,rfl,rfl,δ,rfl,δ,δ⟩
def Lh{H2:Hp}{x:Str}{D:Addr}{Q:VK}(hx:x.cps.size<=5)(hc:∀c∈x.cps.toList,48<=c/\c<=57)(f:H2 D=none)(k:∀a,Same H2 a->a D=some (.lst ((digits x).map V.int))->Q (.ref D) a):zU (rx x) (zK 0) cQ (jM (fun xs H Q=>∃x n,xs=[.str x]/\intText? x=some n/\x.length<=640/\Q (.int n) H) (dh (aw 0) bD)) [none] H2 D Q:=by
 refine KS (fun j σ ys a=>∃v,σ=[v]/\Same H2 a/\a D=some (.lst ys)/\ys=((digits x).take j).map V.int) ?_ ?_ ?_
 ·exact⟨none,rfl,Same.new f,ag,rfl⟩
 ·rintro j σ ys a c g h hy ⟨v,rfl,sm,d,rfl⟩
  have b:x.cps.toList[j]?=some c:=by simpa using g
  obtain⟨i,l⟩:=hc c (Ao b);refine dv ?_;refine⟨_,rfl,⟨#[c]⟩,_,rfl,Lg c i l,by show 1<=640;decide,bw (ze ω) h hy d ⟨_,rfl,sm.then f,ag,?_⟩⟩;have e:(digits x)[j]?=some ((c:Int)-48):=by unfold digits;rw[Ai,b];rfl
  rw[AC e,Ak];rfl
 ·rintro σ ys a ⟨v,rfl,sm,d,rfl⟩
  rw[AB (by unfold digits;simp)] at d;exact k a sm d
def Li{f:Addr}{fd:FuncData}(F:Fun K "_law_known" "_law_known" rE f fd)(B:Bt mg):FnOk P w K mg base aR 1 f fd ["number"] FR:=by
 refine F.ok k9 (fun vs H Q E h=>?_) (fun cdv A outer s H vs Q E hr h=>?_)
 ·obtain⟨n,rfl,_⟩:=h;rfl
 ·obtain⟨n,rfl,hn,k⟩:=h
  refine⟨_,za (zk (i:=1) k9.nd rfl (Or.inl rfl) (zO (ac pe_str (ac pe_str (ac pe_str (ac pe_str (ac pe_str (ac pe_str (ac pe_str (ac pe_str (ac pe_str ak)))))))))))
   (za (zk (i:=1) k9.nd rfl (Or.inl rfl) (zn me (pv 1) (zO (ac pe_str (ac pe_str (ac pe_str (ac pe_str (ac pe_str (ac pe_str ak)))))))))
   (za (zk (i:=1) k9.nd rfl (Or.inl rfl) (zn me (pv 1) (zO (ac pe_str (ac pe_str ak)))))
   (za (zk (i:=1) k9.nd rfl (Or.inl rfl) (zn me (pv 1) (zO (ac pe_str (ac pe_str ak)))))
   (za (fD (g0 Ph Qh Qi l' (pv 1) (ac pe_str ak)))
   (za (zk (i:=2) k9.nd rfl (Or.inl rfl) (zO ak))
   (za (el AK rfl (zu (g0 PySem.F.plainAttrs_str PySem.F.slot_str_split PySem.F.type_str_split KQ (zJ zS (pv 1) (zn eX (pv 0) zd) (fun _ _=>rfl)) (ac pe_str ak))) (zi (i:=3) k9.nd rfl (Or.inl rfl))
    (zf (cT (zl jJ (pv 3) pe_str (ax _))
     (zf (fD (g0 Ph Qh Qi l' (pv 2) (ac (zp xg rfl B.tuple zz (ac
      (zq ["number","some","web","word"] ["sign"] [none] (KR (pv 3)) (fun u C s₀ H₀ ex=>zi (i:=0) (cJ ["sign"]) rfl (Or.inl rfl)) (fun u C s₀ H₀ ex=>zX)
       (fun u C s₀ H₀ ex=>zp KD rfl B.int Bk (ac (pv 0) ak)) (hfr:=dI δ)) ak)) ak)))) zv)))
   (zf (zo (pv 2))))))))),?_⟩
  have t20:texts.length=20:=rfl;have jh:fY (texts.map V.str) ((n:Int)%20)=some (.str (texts.getD n "")):=by
   rw[show(n:Int)%20=(n:Int) from ω];refine gS ?_;have e:texts[n]?=some texts[n]:=Ah ω;rw[Ai,List.getD_eq_getElem?_getD,e];rfl
  obtain⟨g1,g2,g3⟩:=Lf n hn;refine⟨ze (by simp),fun T h1=>?_⟩;have s1:=Same.new (H:=H) (o:=.lst [.str "",.str "0",.str "01 12 02",.str "012 013 023 123",.str "01 02 03",.str "012 023 034 014",.str "0123",.str "01 23 45",.str "012 34"]) h1;refine⟨_,rfl,ze (by simp),fun U G=>⟨T,U,_,_,rfl,rfl,Same.new G _ _ ag,ag,ze (by simp),fun W X=>?_⟩⟩;have s3:=(s1.trans (Same.new G)).trans (Same.new (o:=.lst ((texts.take 15).map V.str)) X);refine⟨_,rfl,ze (by simp),fun Y I=>⟨W,Y,_,_,rfl,rfl,Same.new I _ _ ag,ag,ze (by simp),fun l4 h4=>?_⟩⟩;have M:=(s3.trans (Same.new I)).trans (Same.new (o:=.lst ((texts.take 17).map V.str)) h4);refine⟨_,rfl,ze (by simp),fun m4 l=>⟨l4,m4,_,_,rfl,rfl,Same.new l _ _ ag,ag,ze (by simp),fun c J=>?_⟩⟩;have s5:=(M.trans (Same.new l)).trans (Same.new (o:=.lst ((texts.take 19).map V.str)) J);have wV:H c=none:=(M.trans (Same.new l)).free J;refine⟨_,rfl,.inl ⟨rfl,_,SqL.of ag⟩,c,_,_,rfl,rfl,ag,zP (by simp),ze (by simp),fun b p=>?_⟩;generalize hH6:upd (upd _ c _) c _=H6 at p;have e6:H6 c=some (.lst (texts.map V.str)):=by rw[<-hH6,ag];rfl
  have N:Same H H6:=by
   rw[<-hH6];exact s5.then wV
  have d:H b=none:=N.free p;have O:Same H (upd H6 b (.lst [])):=N.then d;have e7:upd H6 b (.lst []) c=some (.lst (texts.map V.str)):=Same.new p _ _ e6;refine⟨_,rfl,_,rfl,_,_,rfl,rfl,(by show(0:Int)<20;decide),c,_,_,_,rfl,rfl,SqL.of e7,jh,rfl,_,_,rfl,rfl,ξ,ze ω,ze (show(wordsOf n).length<=100000 from ω),fun D L=>⟨D,rfl,⟨_,SqL.of ag⟩,?_⟩⟩;have S:b≠D:=zg (H:=upd H6 b (.lst [])) ag L;have c8:H D=none:=O.free L;refine iv (K:=K) (a:=D) (xs:=(wordsOf n).map V.str) (fun i σ H2=>∃as v,σ=[some (.int n),some (.ref c),some (.ref b),v]/\Same H H2/\H2 D=some (.lst ((wordsOf n).map V.str))/\H2 b=some (.lst (as.map V.ref))/\Tps H2 as ((((wordsOf n).take i).filter fun(x:Str)=>!decide (x="")).map digits))
   ⟨[],none,rfl,O.then c8,ag,by rw[al S];exact ag,.nil⟩ (fun i σ H2 _ ⟨_,_,_,_,q,_⟩=>SqL.of q) ?_ ?_
  ·rintro i x σ H2 hx ⟨as,v,rfl,sm,r,g,ht⟩
   rw[Ai] at hx;cases ex:(wordsOf n)[i]? with
   |none=>rw[ex] at hx;cases hx
   |some y=>
    rw[ex] at hx;obtain rfl:=Ag hx;have hi:i<(wordsOf n).length:=(KK.mp ex).1;obtain⟨y5,yc⟩:=g3 y (Ao ex);refine⟨_,rfl,rfl,_,rfl,?_⟩
    by_cases hy:y=""
    ·subst hy
     refine aN ⟨as,_,rfl,sm,r,g,?_⟩;rw[AC ex,AJ,Ak]
     simpa using ht
    ·rw[show(!decide (V.str y=V.str ""))=true from by simp[hy]]
     refine a6 ⟨_,rfl,.inl ⟨rfl,_,SqL.of g⟩,_,rfl,y,rfl,fun D2 vx=>zt (Lh y5 yc vx fun H3 bA ah=>⟨D2,_,rfl,.inl ⟨SqL.of ah,fun t bu=>?_⟩⟩)⟩;have j:Same H2 (upd H3 t (.tup ((digits y).map V.int))):=bA.trans (Same.new bu);have aE:=ht.length;have tw:as.length<=20:=by
      rw[aE,Ab];exact Ay (PF _ _) (by rw[Aw];omega)
     refine⟨b,_,_,rfl,rfl,j _ _ g,zP (by rw[Ab];omega),⟨as++[t],_,rfl,(sm.trans j).then d,?_,by rw[ag,Ak];rfl,?_⟩⟩
     ·rw[al S.symm];exact j _ _ r
     ·rw[AC ex,AJ,Ak,show [y].filter (fun(x:Str)=>!decide (x=""))=[y] by simp[hy]]
      exact Tps.upd (Tps.snoc (j.tps ht) ag) (j _ _ g) (by intro xs z;cases z)
  ·rintro σ H2 ⟨as,v,rfl,sm,r,g,ht⟩
   rw[Ab,take_all] at ht;exact⟨_,rfl,k b as H2 sm d g ht⟩
def dD(first a:Int)(ps:List Int):List Int:=ps.map fun x=>first+a*x
def FS:Sp:=fun vs H Q _=>∃p l as ad,vs=[.ref p,.ref l]/\zM H p/\H l=some (.lst (as.map V.ref))/\Tps H as ad/\ad.length<=20/\(∀ps∈ad,ps.length<=10)/\
 ∀D bs b first a H',zD p H H'->zM H' p->H D=none->H' D=some (.lst (bs.map V.ref))->Tps H' bs b->0<=first->first<12->1<=a->a<=3->b.Perm (ad.map (dD first a))->Q (.ref D) H'
def oX:zm ["box","web","gap","first","found","piece"] ["box","web"] (zb oV):=⟨rfl,rfl,rfl,δ,rfl,δ,δ⟩
def Lj{H2:Hp}{a D:Addr}{ps:List Int}{first c:Int}{Q:VK}(ha:Tp H2 a ps)(hz:ps.length<=10)(h:1<=c/\c<=3)(f:H2 D=none)(k:∀b,Same H2 b->b D=some (.lst ((dD first c ps).map V.int))->Q (.ref D) b):zU (kl K a) (zK 0) cQ (bC (eW fun i j=>.int (i+j)) (aw 1) (bC (rI CMul fun i j=>.int (i*j)) (aw 2) (aw 0))) [none,some (.int first),some (.int c)] H2 D Q:=by
 refine Ku (xs:=ps.map V.int) (fun j σ ys b=>∃v,σ=[v,some (.int first),some (.int c)]/\Same H2 b/\b D=some (.lst ys)/\ys=((dD first c ps).take j).map V.int) ?_ ?_ ?_ ?_
 ·exact⟨none,rfl,Same.new f,ag,rfl⟩
 ·rintro j σ ys b ⟨v,rfl,sm,d,rfl⟩
  exact SqT.of (sm.tp ha)
 ·rintro j σ ys b x hx g hy ⟨v,rfl,sm,d,rfl⟩
  obtain⟨q,eq,rfl⟩:=rC hx;refine dv ?_;refine⟨_,rfl,_,rfl,_,rfl,_,_,rfl,rfl,.inl ⟨ω,ω⟩,_,_,rfl,rfl,bw (by rw[Ab];exact ze ω) g hy d ⟨_,rfl,sm.then f,ag,?_⟩⟩;have e:(dD first c ps)[j]?=some (first+c*q):=by unfold dD;rw[Ai,eq];rfl
  rw[AC e,Ak];rfl
 ·rintro σ ys b ⟨v,rfl,sm,d,rfl⟩
  rw[AB (by unfold dD;simp)] at d;exact k b sm d
def Lk{f M:Addr}{fd N:FuncData}(F:Fun K "_law_named" "_law_named" oV f fd)(B:Bt mg)(Ft:Fun K "_law_take" "_law_take" oR M N)(O:Binds K N ["box","most"] [])(mt:mg "_law_take"=some (.ref M)):FnOk P w K mg base aR 2 f fd ["box","web"] FS:=by
 have S:FnOk P w K mg base aR 1 M N ["box","most"] k8:=BB Ft;refine F.ok oX (fun vs H Q E h=>?_) (fun cdv A outer s H vs Q E hr h=>?_)
 ·obtain⟨p,l,as,ad,rfl,_⟩:=h;rfl
 ·obtain⟨p,l,as,ad,rfl,hb,I,ht,kZ,uu,k⟩:=h
  refine⟨_,za (zk (i:=2) oX.nd rfl (Or.inr rfl) (zn dL zd (zR S hr rfl mt Ft.kp O .nil aH (ac (pv 0) (ac zd ak)))))
   (za (zk (i:=3) oX.nd rfl (Or.inr rfl) (zR S hr rfl mt Ft.kp O .nil aH (ac (pv 0) (ac zd ak))))
   (za (zk (i:=4) oX.nd rfl (Or.inl rfl) (zO ak))
   (za (el AK rfl (zu (pv 1)) (zi (i:=5) oX.nd rfl (Or.inl rfl))
    (zf (fD (g0 Ph PySem.F.slot_list_insert PySem.F.type_list_insert KC (pv 4)
     (ac (zR S hr rfl mt Ft.kp O .nil aH (ac (pv 0) (ac (zn dL (zj zh rfl B.len c5 (ac (pv 4) ak)) zd) ak)))
     (ac (zp xg rfl B.tuple zz (ac
      (zq ["box","web","gap","first","found","piece"] ["point","first","gap"] [none,some 3,some 2] (Ee (pv 5)) (fun T C s₀ H₀ ex=>zi (i:=0) (cJ ["point","first","gap"]) rfl (Or.inl rfl)) (fun T C s₀ H₀ ex=>zX)
       (fun T C s₀ H₀ ex=>zn dL (pv 1) (zn fW (pv 2) (pv 0))) (hfr:=bx (zb oV) δ)) ak)) ak))))))
   (zf (zo (pv 4)))))),?_⟩
  refine⟨_,rfl,p,3,rfl,hb,ξ,ξ,fun c H1 a1 a2 gU e8=>⟨_,_,rfl,rfl,?_⟩⟩;refine⟨_,rfl,p,12,rfl,e8,ξ,ξ,fun d H2 c1 c2 jS U=>⟨ze (by simp),fun D W=>?_⟩⟩;have L:=gU.trans jS;have y:H D=none:=L.free hb U W;have X:l≠p:=hb.ne I;have aE:=ht.length;refine⟨_,rfl,l,rfl,⟨_,SqL.of ((L.then y) _ _ X I)⟩,iv (K:=K) (a:=l) (xs:=as.map V.ref) (fun i σ e=>∃bs b v,σ=[some (.ref p),some (.ref l),some (.int (1+c)),some (.int d),some (.ref D),v]/\zD p H e/\zM e p/\e D=some (.lst (bs.map V.ref))/\Tps e bs b/\b.Perm ((ad.take i).map (dD d (1+c))))
   ⟨[],[],none,rfl,L.then y,U.new W,ag,.nil,List.Perm.nil⟩ (fun i σ e _ ⟨_,_,_,_,sb,_⟩=>SqL.of (sb _ _ X I)) ?_ ?_⟩
  ·rintro i x σ e hx ⟨bs,b,v,rfl,u,j,g,hq,hp⟩
   obtain⟨a,ea,rfl⟩:=zL hx;obtain⟨ps,J,bP⟩:=ht.get ea;have hi:i<ad.length:=(KK.mp J).1;have nw:=hq.length;have hql:b.length=i:=by rw[hp.length_eq,Ab,Aw];omega
   have o:D≠p:=j.ne g;refine⟨_,rfl,.inl ⟨rfl,_,SqL.of g⟩,_,rfl,_,rfl,D,_,rfl,.inl (SqL.of g),_,_,rfl,rfl,p,_,rfl,j,by rw[Ab];omega,by rw[Ab];omega,fun r H4 r0 pJ q cw=>?_⟩;rw[Ab] at pJ;have Y:Tp H4 a ps:=(u.trans q).tp hb bP;refine⟨_,rfl,a,rfl,⟨_,SqT.of Y⟩,fun D2 bb=>zt (Lj Y (uu ps (Ao J)) ⟨ω,ω⟩ bb fun H5 bN bX=>⟨D2,_,rfl,.inl ⟨SqL.of bX,fun t bu=>?_⟩⟩)⟩;have G:Same H4 (upd H5 t (.tup ((dD d (1+c) ps).map V.int))):=bN.trans (Same.new bu);have dW:=q _ _ o g;have lq:=G _ _ dW;have b0:=cw.same G;refine⟨D,_,r,_,rfl,rfl,lq,r0,by rw[Ab];omega,zP (by rw[Ab];omega),⟨bs.take r.toNat++t::bs.drop r.toNat,b.take r.toNat++dD d (1+c) ps::b.drop r.toNat,_,rfl,((u.trans q).trans (zD.of G)).then y,b0.upd o,?_,?_,?_⟩⟩
   ·rw[ag,Ak,As,QZ,RT]
   ·have tq:=G.tps (q.tps j hq)
    exact Tps.upd (Tps.append (tq.take _) (.cons ag (tq.drop _))) lq (by intro xs z;cases z)
   ·rw[AC J,Ak]
    have h1:(b.take r.toNat++dD d (1+c) ps::b.drop r.toNat).Perm (dD d (1+c) ps::b):=by
     have:=List.perm_middle (a:=dD d (1+c) ps) (l₁:=b.take r.toNat) (l₂:=b.drop r.toNat)
     rwa [Ri] at this
    exact h1.trans ((List.perm_append_singleton _ _).symm.trans (List.Perm.append_right _ hp))
  ·rintro σ e ⟨bs,b,v,rfl,u,j,g,hq,hp⟩
   rw[Ab,aE,take_all] at hp;exact⟨_,rfl,k D bs b d (1+c) e u j y g hq c1 c2 ω ω hp⟩
end
end K66
end
section
namespace K66
open K1
open PySem L2 STb
abbrev lj:Stmt:=top 43
def iJ(seq:List Int):List (Key×V):=(dd seq).map fun n=>((Sum.inl n:Key),V.bl true)
def Ll(seq:List Int):(iJ seq).length<=seq.length:=by unfold iJ;rw[Ab];exact kW seq
def Lm(seq:List Int)(n:Int):putK (iJ seq) (Sum.inl n) (.bl true)=iJ (seq++[n]):=by
 unfold putK iJ;rw[rn];have ha:(((dd seq).map fun n=>((Sum.inl n:Key),V.bl true)).any fun kv=>decide (kv.1=Sum.inl n))=decide (n∈dd seq):=by
  rw[List.any_map]
  by_cases h:n∈dd seq
  ·rw[Sc h,Qs]
   exact⟨n,h,by simp⟩
  ·rw[Sd h,Q5]
   intro q hq;simp only[Function.comp,decide_eq_true_eq,Sum.inl.injEq];rintro rfl;exact h hq
 rw[ha]
 by_cases h:n∈dd seq
 ·rw[Sc h,Sa rfl,Sa h,Aj]
  refine AA fun q hq=>?_;simp only[Function.comp];split<;>rfl
 ·rw[Sd h,Sb (by simp),Sb h,Ak]
  rfl
def Ln(seq:List Int):((iJ seq).map fun kv=>kV kv.1)=(dd seq).map V.int:=by unfold iJ;rw[Aj];rfl
def Lo{c:List Int}(h1:c.Pairwise (·<=·))(h2:c.Nodup):a_ c=true:=by
 rw[y7];intro i a b ha hb;obtain⟨d,f⟩:=KK.mp ha;obtain⟨e,g⟩:=KK.mp hb;have g1:=Pw.mp h1 i (i+1) d e ω;have g2:=Pw.mp h2 i (i+1) d e ω;rw[f,g] at g1 g2;omega
def j7(ad:Ξ):Prop:=ad.Nodup/\∀ps∈ad,ps≠[]/\ps.length<=4/\a_ ps=true/\∀x∈ps,0<=x/\x<=5
def Base(b:Ξ):Prop:=(∃n,n<20/\b=known n)\/(b.length<=5/\j7 b)
def Drawn(c:Ξ):Prop:=∃b first a,Base b/\0<=first/\first<12/\1<=a/\a<=3/\c.Perm (b.map (dD first a))
def Lp:∀n,n<20->(known n).length<=20/\∀ps∈known n,ps≠[]/\ps.length<=5:=δ
section
variable{P:Program}{w:World}{K:Ac}{mg:Str->Option Value}{base:Heap}
def FT:Sp:=fun vs H Q _=>∃p,vs=[.ref p]/\zM H p/\∀D bs a H',zD p H H'->zM H' p->H D=none->H' D=some (.lst (bs.map V.ref))->Tps H' bs a->Drawn a->Q (.ref D) H'
def mC:zm ["box","found","k","some","j","piece"] ["box"] (zb lj):=⟨rfl,rfl,rfl,δ,rfl,δ,δ⟩
def Lq{f ft fn fk:Addr}{fd d_ pd l6:FuncData}(F:Fun K "_law_web" "_law_web" lj f fd)(B:Bt mg)(Ft:Fun K "_law_take" "_law_take" oR ft d_)(T:Binds K d_ ["box","most"] [])(mt:mg "_law_take"=some (.ref ft))(Fn:Fun K "_law_named" "_law_named" oV fn pd)(bn:Binds K pd ["box","web"] [])(mn:mg "_law_named"=some (.ref fn))(Fk:Fun K "_law_known" "_law_known" rE fk l6)(bk:Binds K l6 ["number"] [])(mk:mg "_law_known"=some (.ref fk)):FnOk P w K mg base aR 3 f fd ["box"] FT:=by
 have Gt:FnOk P w K mg base aR 1 ft d_ ["box","most"] k8:=BB Ft;have Gn:FnOk P w K mg base aR 2 fn pd ["box","web"] FS:=Lk Fn B Ft T mt;have Gk:FnOk P w K mg base aR 1 fk l6 ["number"] FR:=Li Fk B;refine F.ok mC (fun vs H Q E h=>?_) (fun cdv A outer s H vs Q E hr h=>?_)
 ·obtain⟨p,rfl,_⟩:=h;rfl
 ·obtain⟨p,rfl,hb,k⟩:=h
  have hu:=fK hr;have aD:=hr.units;have S:Room 1 _:=hr.mono ξ;refine⟨_,za (cT (zl ew (zR Gt S rfl mt Ft.kp T .nil aH (ac (pv 0) (ac zd ak))) zd (ax _))
    (zf (zo (zR Gn hr rfl mn Fn.kp bn .nil aH (ac (pv 0) (ac (zR Gk S rfl mk Fk.kp bk .nil aH (ac (zR Gt S rfl mt Ft.kp T .nil aH (ac (pv 0) (ac zd ak))) ak)) ak))))) zv)
   (za (zk (i:=1) mC.nd rfl (Or.inl rfl) (zO ak))
   (za (el AK rfl (lY rfl B.range (ac (zR Gt S rfl mt Ft.kp T .nil aH (ac (pv 0) (ac zd ak))) ak)) (zi (i:=2) mC.nd rfl (Or.inl rfl))
    (za (zk (i:=3) mC.nd rfl (Or.inl rfl) EL)
    (za (el AK rfl (lY rfl B.range (ac (zn dL zd (zR Gt S rfl mt Ft.kp T .nil aH (ac (pv 0) (ac zd ak)))) ak)) (zi (i:=4) mC.nd rfl (Or.inl rfl))
     (zf (hB hu (pv 3) (zR Gt S rfl mt Ft.kp T .nil aH (ac (pv 0) (ac zd ak))) fC rfl)))
    (za (zk (i:=5) mC.nd rfl (Or.inl rfl) (zp xg rfl B.tuple zz (ac (zj Fu rfl B.sorted rA (ac (zp (Kx rfl) rfl B.list fy (ac (pv 3) ak)) ak)) ak)))
    (zf (cT (zl (yQ (in1_units aD)) (pv 5) (pv 1) (by with_unfolding_all rfl)) (zf (fD (g0 Ph Qh Qi l' (pv 1) (ac (pv 5) ak)))) zv))))))
   (zf (zo (zR Gn hr rfl mn Fn.kp bn .nil aH (ac (pv 0) (ac (pv 1) ak))))))),?_⟩
  refine⟨_,rfl,p,2,rfl,hb,ξ,ξ,fun r H1 r0 r1 gU e8=>⟨rfl,_,rfl,?_⟩⟩;refine cP (fun h1=>?_) (fun h1=>?_)
  ·refine⟨_,rfl,_,rfl,p,20,rfl,e8,ξ,ξ,fun n H2 n0 n1 jS bM=>?_⟩
   obtain⟨m,rfl⟩:=P5 n0;refine⟨m,rfl,ω,fun D as H3 bA c8 hD ht=>?_⟩;obtain⟨g1,g2⟩:=Lp m ω;have U:=(gU.trans jS).trans (zD.of bA);have aW:=bM.same bA;refine⟨p,D,as,known m,rfl,aW,hD,ht,g1,fun ps hp=>by have:=(g2 ps hp).2;omega,fun D' bs aF first aJ C G u nH dW N c1 c2 c3 c4 eB=>?_⟩;exact k D' bs aF C (U.trans G) u (U.free hb aW nH) dW N ⟨known m,first,aJ,.inl ⟨m,ω,rfl⟩,c1,c2,c3,c4,eB⟩
  ·refine⟨ze (by simp),fun L hL=>?_⟩
   have Y:H L=none:=gU.free hb e8 hL;refine⟨_,rfl,p,6,rfl,e8.new hL,ξ,ξ,fun r6 H3 a1 a2 U aW=>⟨r6,rfl,ω,ω,?_⟩⟩;have lI:L≠p:=zM.ne (as:=[]) (e8.new hL) ag;have iG:zD p H H3:=(gU.then Y).trans U;refine vu (lo:=0) (n:=r6.toNat) (fun i σ C=>∃as ad v2 v3 I v5,σ=[some (.ref p),some (.ref L),v2,v3,I,v5]/\zD p H C/\zM C p/\C L=some (.lst (as.map V.ref))/\Tps C as ad/\j7 ad/\ad.length<=i)
    ⟨[],[],none,none,none,none,rfl,iG,aW,U _ _ lI ag,.nil,⟨PV,fun ps h=>nomatch h⟩,Af _⟩ ?_ ?_
   ·rintro i σ C hi ⟨as,ad,v2,v3,I,v5,rfl,G,u,eY,N,c,W⟩
    have aE:=N.length;intro d hd;have l8:H d=none:=G.free hb u hd;have uX:L≠d:=zg eY hd;refine⟨_,rfl,p,4,rfl,u.new hd,ξ,ξ,fun r4 H5 e1 e2 O da=>⟨_,_,rfl,rfl,_,rfl,ω,ω,?_⟩⟩;have kQ:d≠p:=by
     obtain⟨x,y,e,_⟩:=u.new (o:=.dK []) hd;exact a7 ag e (by intro z;cases z)
    have s4:=Same.new (o:=.dK []) hd;refine vu (lo:=0) (n:=(1+r4).toNat) (fun j σ q=>∃seq I,σ=[some (.ref p),some (.ref L),some (.int (0+i)),some (.ref d),I,v5]/\zD p H q/\zM q p/\q L=some (.lst (as.map V.ref))/\Tps q as ad/\q d=some (.dK (iJ seq))/\seq.length=j/\∀x∈seq,0<=x/\x<=5)
     ⟨[],_,rfl,(G.then l8).trans O,da,O _ _ lI (s4 _ _ eY),O.tps (u.new hd) (s4.tps N),O _ _ kQ ag,rfl,fun x h=>nomatch h⟩ ?_ ?_
    ·rintro j σ q hj ⟨seq,I,rfl,b_,b0,J,X,iA,k_,nu⟩
     refine⟨_,rfl,_,rfl,p,6,rfl,b0,ξ,ξ,fun r H7 f1 f2 v cY=>⟨d,_,rfl,DPut.k (k:=Sum.inl r) (v _ _ kQ iA) (zP (by have:=Ll seq;omega)),⟨seq++[r],_,rfl,(b_.trans v).then l8,cY.upd kQ,?_,?_,by rw[ag,Lm],by rw[Ap,k_];rfl,?_⟩⟩⟩
     ·rw[al uX];exact v _ _ lI J
     ·exact Tps.upd (v.tps b0 X) (v _ _ kQ iA) (by intro xs z;cases z)
     ·intro x hx
      rcases Pe.mp hx with hx|hx
      ·exact nu x hx
      ·rw[Pb] at hx;subst hx;omega
    ·rintro σ q ⟨seq,I,rfl,b_,b0,J,X,iA,k_,nu⟩
     refine⟨_,rfl,d,_,rfl,iA,fun l2 hl2=>⟨l2,dd seq,rfl,SqL.of (by rw[ag,Ln]),(by have:=kW seq;omega),fun D2 g hp hs bb=>⟨D2,_,rfl,.inl ⟨SqL.of ag,fun t bu=>?_⟩⟩⟩⟩;have l:Same q (upd (upd (upd q l2 (.lst ((iJ seq).map fun kv=>kV kv.1))) D2 (.lst (g.map V.int))) t (.tup (g.map V.int))):=((Same.new hl2).trans (Same.new bb)).trans (Same.new bu);generalize hH7:upd (upd (upd q l2 (.lst ((iJ seq).map fun kv=>kV kv.1))) D2 (.lst (g.map V.int))) t (.tup (g.map V.int))=H7 at l;have sR:Tp H7 t g:=by rw[<-hH7];exact ag
     have v:=b_.trans (zD.of l);have cY:=b0.same l;refine⟨_,rfl,_,rfl,t,L,g,as,ad,rfl,rfl,sR,SqL.of (l _ _ J),l.tps X,_,rfl,?_⟩;have nq:g≠[]/\g.length<=4/\a_ g=true/\∀x∈g,0<=x/\x<=5:=by
      refine⟨fun z=>?_,?_,Lo hs (hp.nodup_iff.mpr (ro seq)),fun x hx=>nu x ((jf seq x).mp (hp.mem_iff.mp hx))⟩
      ·have h0:dd seq=[]:=by rw[z] at hp;exact(List.nil_perm.mp hp)
       cases hq:seq with
       |nil=>rw[hq] at k_;simp at k_;omega
       |cons x r=>
        have:=(jf seq x).mpr (by rw[hq];exact Az);rw[h0] at this;cases this
      ·have:=kW seq
       rw[hp.length_eq];omega
     by_cases M:g∈ad
     ·rw[Sc M]
      exact aN ⟨as,ad,_,_,_,_,rfl,v,cY,l _ _ J,l.tps X,c,ω⟩
     ·rw[Sd M]
      refine a6 ⟨_,rfl,.inl ⟨rfl,_,SqL.of (l _ _ J)⟩,_,rfl,L,_,_,rfl,rfl,l _ _ J,zP (by rw[Ab];omega),⟨as++[t],ad++[g],_,_,_,_,rfl,v.then Y,cY.upd lI,by rw[ag,Ak];rfl,Tps.upd (Tps.snoc (l.tps X) sR) (l _ _ J) (by intro xs z;cases z),⟨?_,?_⟩,by rw[Ap];simp;omega⟩⟩
      ·rw[Pk]
       refine⟨c.1,by simp,fun a ha b hb' e=>?_⟩;rw[Pb] at hb';subst hb';subst e;exact M ha
      ·intro ps bP
       rcases Pe.mp bP with h|h
       ·exact c.2 ps h
       ·rw[Pb] at h;subst h;exact nq
   ·rintro σ C ⟨as,ad,v2,v3,I,v5,rfl,G,u,eY,N,c,W⟩
    refine⟨_,rfl,_,rfl,p,L,as,ad,rfl,u,eY,N,ω,fun ps hp=>by have:=(c.2 ps hp).2.1;omega,fun D' bs aF first aJ H5 O da nH bX kC c1 c2 c3 c4 eB=>?_⟩;exact k D' bs aF H5 (G.trans O) da (G.free hb u nH) bX kC ⟨ad,first,aJ,.inr ⟨ω,c⟩,c1,c2,c3,c4,eB⟩
end
end K66
end
section
namespace K1
open PySem L2 STb
def FU:∀a b:List Int,HT.lexLt a b=true->HT.lexLt b a=false
 |[],[],h=>rfl
 |[],_::_,h=>rfl
 |_::_,[],h=>by rw[HT.Eu] at h;exact absurd h Aq
 |x::xs,y::ys,h=>by
  rw[HT.zx] at h ⊢
  by_cases e:x=y
  ·rw[Sa e] at h;rw[Sa e.symm];exact FU xs ys h
  ·rw[Sb e] at h;rw[Sb (fun z=>e z.symm)]
   have:=Se h;exact Sd ω
def rG:∀a b:List Int,HT.lexLt a b=false->HT.lexLt b a=false->a=b
 |[],[],_,_=>rfl
 |[],_::_,h,_=>by rw[HT.zV] at h;exact absurd h ξ
 |_::_,[],_,h=>by rw[HT.zV] at h;exact absurd h ξ
 |x::xs,y::ys,h,h'=>by
  rw[HT.zx] at h h'
  by_cases e:x=y
  ·rw[Sa e] at h;rw[Sa e.symm] at h'
   rw[e,rG xs ys h h']
  ·rw[Sb e] at h;rw[Sb (fun z=>e z.symm)] at h'
   have:=of_decide_eq_false h;have:=of_decide_eq_false h';omega
def ml:∀a b c:List Int,HT.lexLt b a=false->HT.lexLt c b=false->HT.lexLt c a=false
 |[],b,c,_,_=>by cases c with
  |nil=>rfl
  |cons _ _=>rfl
 |_::_,[],c,h,_=>by rw[HT.zV] at h;exact absurd h ξ
 |_::_,_::_,[],_,h=>by rw[HT.zV] at h;exact absurd h ξ
 |x::xs,y::ys,z::zs,h,h'=>by
  rw[HT.zx] at h h' ⊢
  by_cases e:y=x
  ·rw[Sa e] at h
   by_cases e2:z=y
   ·rw[Sa e2] at h';rw[Sa (e2.trans e)];exact ml xs ys zs h h'
   ·rw[Sb e2] at h';rw[Sb ω]
    have:=of_decide_eq_false h';exact Sd ω
  ·rw[Sb e] at h
   have h1:=of_decide_eq_false h
   by_cases e2:z=y
   ·rw[Sb ω]
    exact Sd ω
   ·rw[Sb e2] at h'
    have h2:=of_decide_eq_false h';rw[Sb ω];exact Sd ω
def key(p:List Int):List Int:=(p.length:Int)::p
def kle(a b:List Int):Bool:=!HT.lexLt (key b) (key a)
def mD{a b:List Int}:kle a b=true↔HT.lexLt (key b) (key a)=false:=by unfold kle;simp
def canon(ad:Ξ):Ξ:=(dd (ad.flatMap parts)).mergeSort kle
def rH(ad:Ξ):(canon ad).Perm (dd (ad.flatMap parts)):=List.mergeSort_perm _ _
def FV(ad:Ξ):(canon ad).Pairwise (fun a b=>kle a b=true):=by
 refine List.pairwise_mergeSort (fun a b c h1 h2=>?_) (fun a b=>?_) _
 ·rw[mD] at h1 h2 ⊢;exact ml _ _ _ h1 h2
 ·rw[Bool.or_eq_true,mD,mD]
  cases h:HT.lexLt (key b) (key a) with
  |false=>exact .inl rfl
  |true=>exact .inr (FU _ _ h)
def FW{ad:Ξ}{x:List Int}:x∈canon ad↔x∈ad.flatMap parts:=by rw[(rH ad).mem_iff,jf]
def FX(ad:Ξ):(canon ad).Nodup:=(rH ad).nodup_iff.mpr (ro _)
def FY(ad:Ξ):(canon ad).length=(dd (ad.flatMap parts)).length:=(rH ad).length_eq
def Lr{l m:Ξ}(hp:l.Perm m)(h1:l.Pairwise (fun a b=>kle a b=true))(h2:m.Pairwise (fun a b=>kle a b=true)):l=m:=by
 refine List.Perm.eq_of_pairwise (fun a b _ _ g1 g2=>?_) h1 h2 hp;rw[mD] at g1 g2;have:=rG _ _ g2 g1;unfold key at this;exact(List.cons.inj this).2
def canon_of{ad l:Ξ}(hp:l.Perm (dd (ad.flatMap parts)))(c:l.Pairwise (fun a b=>HT.lexLt ((b.length:Int)::b) ((a.length:Int)::a)=false)):l=canon ad:=
 Lr (hp.trans (rH ad).symm) (c.imp fun h=>mD.mpr h) (FV ad)
def rQ:∀(n:Nat)(p q:List Int),p.length=n->(q∈subs p↔q.Sublist p)
 |0,p,q,h=>by
  obtain rfl:=Pf h;show q∈[[]]↔_;simp
 |n+1,p,q,h=>by
  obtain⟨r,x,rfl⟩:∃r x,p=r++[x]:=by
   rcases List.eq_nil_or_concat p with e|⟨r,x,e⟩
   ·rw[e] at h;cases h
   ·exact⟨r,x,by rw[e,List.concat_eq_append]⟩
  have hr:r.length=n:=by simpa using h
  rw[Fy,Pe,rQ n r q hr,Bp,List.sublist_append_iff];constructor
  ·rintro(h1|⟨y,hy,rfl⟩)
   ·exact⟨q,[],by simp,h1,List.nil_sublist _⟩
   ·exact⟨y,[x],rfl,(rQ n r y hr).mp hy,List.Sublist.refl _⟩
  ·rintro⟨a,d,rfl,b,c⟩
   cases c with
   |cons _ h=>
    obtain rfl:=List.sublist_nil.mp h;exact .inl (by simpa using b)
   |cons_cons _ h=>
    obtain rfl:=List.sublist_nil.mp h;exact .inr ⟨a,(rQ n r a hr).mpr b,rfl⟩
def j8{p q:List Int}:q∈parts p↔q≠[]/\q.Sublist p:=by
 obtain⟨t,e,ht⟩:=Fz p;have a:=rQ p.length p q rfl;rw[e] at a;unfold parts;rw[e];show q∈t↔_;constructor
 ·intro h
  exact⟨ht q h,a.mp (Ax _ h)⟩
 ·rintro⟨h1,h2⟩
  rcases Pa.mp (a.mpr h2) with h|h
  ·exact absurd h h1
  ·exact h
def rS:∀p:List Int,a_ p=true↔p.Pairwise (·<·)
 |[]=>by simp[a_]
 |[a]=>by simp[a_]
 |a::b::r=>by
  have c:=rS (b::r);rw[show a_ (a::b::r)=(decide (a<b)&&a_ (b::r)) from rfl,AF,decide_eq_true_eq,c,PK (a:=a)];constructor
  ·rintro⟨h1,h2⟩
   refine⟨fun x hx=>?_,h2⟩;rcases Pa.mp hx with rfl|hx
   ·exact h1
   ·have:=(PK.mp h2).1 x hx
    omega
  ·rintro⟨h1,h2⟩
   exact⟨h1 b Az,h2⟩
def jm{p:List Int}:fv p=true↔p≠[]/\p.length<=5/\(∀x∈p,0<=x/\x<=99)/\p.Pairwise (·<·):=by
 unfold fv;simp only[AF,decide_eq_true_eq,PP,rS];constructor
 ·rintro⟨⟨⟨h1,h2⟩,a⟩,b⟩
  exact⟨fun z=>by rw[z] at h1;simp at h1,h2,a,b⟩
 ·rintro⟨h1,h2,a,b⟩
  refine⟨⟨⟨?_,h2⟩,a⟩,b⟩;cases p with
  |nil=>exact absurd rfl h1
  |cons _ _=>simp
def Ls{p q:List Int}(h:fv p=true)(hq:q∈parts p):fv q=true:=by
 rw[jm] at h ⊢;rw[j8] at hq;exact⟨hq.1,Ay hq.2.length_le h.2.1,fun x hx=>h.2.2.1 x (hq.2.subset hx),h.2.2.2.sublist hq.2⟩
def Lu{ad:Ξ}(g:ad.Nodup)(hp:∀p∈ad,fv p=true):FD ad ad.length:=by
 intro i p hi e;refine⟨fun hm=>?_,hp p (Ao e)⟩;obtain⟨j,b⟩:=Pc.mp hm;obtain⟨c,a⟩:=KK.mp b;rw[Aw] at c;obtain⟨d,f⟩:=KK.mp e;have:=Pw.mp g j i ω d ω;rw[List.getElem_take] at a;exact this (a.trans f.symm)
def Lv{ad:Ξ}(a:ad.length<=20)(b:ad.Nodup)(hp:∀p∈ad,fv p=true)(h:(dd (ad.flatMap parts)).length<=200):dY ad=true:=by
 rw[KY ad a (Lu b hp),Sc h]
def BI{ad:Ξ}(h:dY ad=true):ad.length<=20/\(∀p∈ad,fv p=true)/\(∀p∈ad,p.length<=5)/\(dd (ad.flatMap parts)).length<=200:=by
 unfold dY at h;simp only[AF,decide_eq_true_eq,PP] at h;obtain⟨⟨⟨h1,h2⟩,c⟩,b⟩:=h;have a:∀p∈ad,fv p=true:=fun p hp=>by rw[<-rz];exact h2 p hp
 exact⟨h1,a,fun p hp=>(jm.mp (a p hp)).2.1,b⟩
def over(o p:List Int):Bool:=decide (p.length<o.length)&&p.all fun x=>decide (x∈o)
end K1
end
section
namespace K66
open K1
open PySem L2 STb
def Lw(b:Ξ):Prop:=b.Nodup/\b.length<=17/\(∀ps∈b,ps≠[]/\ps.length<=5/\a_ ps=true/\∀x∈ps,0<=x/\x<=7)/\(b.flatMap parts).length<=200
def Lx:∀n,n<20->(known n).Nodup/\(known n).length<=17/\(∀ps∈known n,ps≠[]/\ps.length<=5/\a_ ps=true/\∀x∈ps,0<=x/\x<=7)/\((known n).flatMap parts).length<=200:=δ
def FZ{m:Nat}:∀{b:Ξ},(∀ps∈b,(parts ps).length<=m)->(b.flatMap parts).length<=m*b.length
 |[],_=>by simp
 |p::r,h=>by
  have h1:=h p Az;have h2:=FZ (b:=r) fun q hq=>h q (Ax _ hq);rw[Bf,Ap,At,Nat.mul_succ];omega
def Ly{b:Ξ}(h:Base b):Lw b:=by
 rcases h with ⟨n,c,rfl⟩|⟨f,a⟩
 ·exact Lx n c
 ·refine⟨a.1,ω,fun ps hp=>?_,?_⟩
  ·obtain⟨h1,h2,d,e⟩:=a.2 ps hp
   exact⟨h1,ω,d,fun x hx=>by have:=e x hx;omega⟩
  ·have:=FZ (m:=15) (b:=b) fun ps hp=>by
    rw[oQ];have h2:=(a.2 ps hp).2.1;have:2 ^ ps.length<=2 ^ 4:=Nat.pow_le_pow_right ξ h2;omega
   omega
def LA{first a:Int}(b:1<=a){p q:List Int}(h:dD first a p=dD first a q):p=q:=by
 unfold dD at h;refine(QD (f:=fun x=>first+a*x) (fun x y e=>?_)).mp h;have:a*x=a*y:=ω
 exact Int.eq_of_mul_eq_mul_left ω this
def LB{first f:Int}(i:0<=first)(h1:first<12)(j:1<=f)(l:f<=3){p:List Int}(h:p≠[]/\p.length<=5/\a_ p=true/\∀x∈p,0<=x/\x<=7):fv (dD first f p)=true:=by
 obtain⟨a,b,c,d⟩:=h;rw[jm];unfold dD;refine⟨fun z=>a (QT.mp z),by rw[Ab];exact b,fun y hy=>?_,?_⟩
 ·obtain⟨x,hx,rfl⟩:=Bp.mp hy
  have:=d x hx;have g:f=1\/f=2\/f=3:=ω
  rcases g with rfl|rfl|rfl<;>omega
 ·rw[rS] at c
  rw[AS];refine c.imp fun{x y} e=>?_;have:f*x<f*y:=Int.mul_lt_mul_of_pos_left e ω;omega
def LC{q:Ξ}(h:Drawn q):dY q=true/\q.Nodup/\q.length<=17:=by
 obtain⟨b,first,d,hb,f,h1,a,g,hp⟩:=h;obtain⟨n1,n2,i,j⟩:=Ly hb;have l:q.length<=17:=by rw[hp.length_eq,Ab];exact n2
 have c:q.Nodup:=by
  rw[hp.nodup_iff];unfold List.Nodup at n1 ⊢;rw[AS];exact n1.imp fun{x y} e z=>e (LA a z)
 refine⟨Lv ω c (fun p hm=>?_) ?_,c,l⟩
 ·obtain⟨r,hr,rfl⟩:=Bp.mp (hp.mem_iff.mp hm)
  exact LB f h1 a g (i r hr)
 ·refine Ay (kW _) ?_
  rw[(hp.flatMap_right parts).length_eq];have:∀b:Ξ,((b.map (dD first d)).flatMap parts).length=(b.flatMap parts).length:=by
   intro b
   induction b with
   |nil=>rfl
   |cons p r ih=>
    rw[As,Bf,Bf,Ap,Ap,ih,oQ,oQ];unfold dD;rw[Ab]
  rw[this];exact j
end K66
end
section
namespace K1
open PySem L2 STb
def rims(q:List Int):Ξ:=if q.length=1 then [] else(AI q.length).map fun k=>q.take k++q.drop (k+1)
def j9(q:List Int):(rims q).length<=q.length:=by
 unfold rims;split
 ·exact AX _
 ·simp
def BK{p q:List Int}:p∈rims q↔q.length≠1/\∃k,k<q.length/\p=q.take k++q.drop (k+1):=by
 unfold rims;split
 next h=>simp[h]
 next h=>
  rw[Bp];constructor
  ·rintro⟨k,hk,rfl⟩
   exact⟨h,k,PJ.mp hk,rfl⟩
  ·rintro⟨_,k,hk,rfl⟩
   exact⟨k,PJ.mpr hk,rfl⟩
def B0:∀(o p:List Int),o.Pairwise (·<·)->p.Pairwise (·<·)->(∀x∈p,x∈o)->p.Sublist o
 |[],p,_,_,h=>by
  cases p with
  |nil=>exact List.Sublist.slnil
  |cons a r=>exact absurd (h a Az) (by simp)
 |b::o,p,ho,hp,h=>by
  obtain⟨f,c⟩:=PK.mp ho;cases p with
  |nil=>exact List.nil_sublist _
  |cons a r=>
   obtain⟨d,g⟩:=PK.mp hp
   by_cases e:a=b
   ·subst e
    refine(B0 o r c g fun x hx=>?_).cons_cons a;rcases Pa.mp (h x (Ax _ hx)) with rfl|q
    ·have:=d x hx;omega
    ·exact q
   ·have ha:a∈o:=by
     rcases Pa.mp (h a Az) with q|q
     ·exact absurd q e
     ·exact q
    have i:=f a ha;refine(B0 o (a::r) c hp fun x hx=>?_).cons b;rcases Pa.mp (h x hx) with q|q
    ·exfalso
     rcases Pa.mp hx with z|z
     ·omega
     ·have:=d x z;omega
    ·exact q
def F0{p q:List Int}{k:Nat}(hk:k<q.length)(h:p=q.take k++q.drop (k+1)):p.Sublist q/\p.length<q.length:=by
 subst h;refine⟨?_,?_⟩
 ·have h1:(q.take k++q.drop (k+1)).Sublist (q.take k++q.drop k):=(List.Sublist.refl _).append (by
   rw[show q.drop (k+1)=(q.drop k).drop 1 by rw[List.drop_drop]];exact List.drop_sublist _ _)
  rwa [Ri] at h1
 ·rw[Ap,Aw,PB]
  omega
end K1
end
section
namespace K66
open K1
open PySem L2 STb
def LD:∀n,n<20->(dd ((known n).flatMap parts)).length<=56:=δ
def six:Ξ:=(parts [0,1,2,3,4,5]).filter fun q=>decide (q.length<=4)
def LF:six.length=56:=δ
def LG{b:Ξ}(h:Base b):(dd (b.flatMap parts)).length<=56:=by
 rcases h with ⟨n,a,rfl⟩|⟨d,c⟩
 ·exact LD n a
 ·rw[<-LF]
  refine(ro _).length_le_of_subset fun x hx=>?_;rw[jf,Ps] at hx;obtain⟨p,hp,hx⟩:=hx;obtain⟨_,e,hr,hb⟩:=c.2 p hp;rw[j8] at hx;have f:=hx.2.length_le;unfold six;rw[Pd,j8];refine⟨⟨hx.1,hx.2.trans (B0 _ _ ξ ((rS p).mp hr) fun y hy=>?_)⟩,Sc ω⟩;have:=hb y hy;have:y=0\/y=1\/y=2\/y=3\/y=4\/y=5:=ω
  rcases this with rfl|rfl|rfl|rfl|rfl|rfl<;>decide
def LH{q:Ξ}(h:Drawn q):(dd (q.flatMap parts)).length<=56:=by
 obtain⟨b,first,d,hb,_,_,_,_,hp⟩:=h;refine Ay ?_ (LG hb);have e:((dd (b.flatMap parts)).map (dD first d)).length=(dd (b.flatMap parts)).length:=Ab _;rw[<-e];refine(ro _).length_le_of_subset fun x hx=>?_;rw[jf,Ps] at hx;obtain⟨p,hm,hx⟩:=hx;obtain⟨r,hr,rfl⟩:=Bp.mp (hp.mem_iff.mp hm);rw[j8] at hx;obtain⟨a,c⟩:=hx;unfold dD at c;obtain⟨y,hy,rfl⟩:=List.sublist_map_iff.mp c;refine Bp.mpr ⟨y,?_,rfl⟩;rw[jf,Ps];exact⟨r,hr,j8.mpr ⟨fun z=>a (by rw[z];rfl),hy⟩⟩
end K66
end
section
namespace K66
open K1
open PySem L2 STb
def F2{H:Hp}:∀{a:List (List Int×Addr)},(∀q∈a,Tp H q.2 q.1)->Tps H (a.map (·.2)) (a.map (·.1))
 |[],_=>.nil
 |q::r,h=>.cons (h q Az) (F2 fun x hx=>h x (Ax _ hx))
def LI{H H2:Hp}{ad:Ξ}{D:Addr}{a:List (List Int×Addr)}(t:Told H H2 ad D a):∃bs,Same H H2/\H D=none/\H2 D=some (.lst (bs.map V.ref))/\Tps H2 bs (canon ad):=by
 obtain⟨sm,b,c,hq,hp,d⟩:=t;have e:a.map (·.1)=canon ad:=canon_of hp (List.pairwise_map.mpr d);refine⟨a.map (·.2),sm,b,by rw[c,Aj];rfl,?_⟩;rw[<-e];exact F2 hq
end K66
end
section
namespace K66
open K1
open PySem L2 STb
abbrev oY:Stmt:=top 12
def jo(xs:List V)(i:Nat)(h:i<=xs.length):cz xs none (some (i:Int))=xs.take i:=by
 unfold cz;rw[HT.wj,HT.qz,Nat.min_eq_left h,List.drop_zero,R1]
def lA(xs:List V)(i:Nat)(h:i<=xs.length):cz xs (some (i:Int)) none=xs.drop i:=by
 unfold cz;rw[HT.wj,HT.qz,Nat.min_eq_left h];exact AB (by rw[PB];exact Af _)
abbrev jp:TE:=bC yN (qI k4 (aw 1) qA (qB (aw 0))) (qI k4 (aw 1) (qB (bC (eW fun i j=>.int (i+j)) (aw 0) (tC (.int 1)))) qA)
section
variable{P:Program}{w:World}{K:Ac}{mg:Str->Option Value}{base:Heap}
def LJ{H2:Hp}{a D:Addr}{ps:List Int}{Q:VK}(ha:Tp H2 a ps)(hz:ps.length<=5)(p:H2 D=none)(k:∀(b:Hp)(bs:List Addr),Same H2 b->b D=some (.lst (bs.map V.ref))->Tps b bs ((AI ps.length).map fun k=>ps.take k++ps.drop (k+1))->Q (.ref D) b):zU (ge 0 ps.length) (zK 0) cQ jp [none,some (.ref a)] H2 D Q:=by
 refine qX (fun j σ ys b=>∃(v:Option V)(bs:List Addr),σ=[v,some (.ref a)]/\Same H2 b/\b D=some (.lst ys)/\ys=bs.map V.ref/\Tps b bs (((AI ps.length).map fun k=>ps.take k++ps.drop (k+1)).take j)) ?_ ?_ ?_
 ·exact⟨none,[],rfl,Same.new p,ag,rfl,.nil⟩
 ·rintro j σ ys b o hy ⟨v,bs,rfl,sm,c,rfl,hb⟩
  have e:((AI ps.length).map fun k=>ps.take k++ps.drop (k+1))[j]?=some (ps.take j++ps.drop (j+1)):=by rw[Ai,Qy o];rfl
  refine dv ?_;refine⟨_,rfl,_,rfl,_,rfl,a,_,rfl,sm.tp ha,fun q w f g=>⟨_,rfl,_,rfl,_,_,rfl,rfl,_,rfl,a,_,rfl,f _ _ (sm.tp ha),fun p2 x h i=>?_⟩⟩;rw[show(0:Int)+((j:Nat):Int)=((j:Nat):Int) from ω,jo _ _ (by rw[Ab];omega),<-QZ] at g;rw[show(0:Int)+((j:Nat):Int)+1=((j+1:Nat):Int) from ω,lA _ _ (by rw[Ab];omega),<-RT] at i;refine⟨q,p2,_,_,rfl,rfl,h _ _ g,i,ze (by simp;omega),fun r y u l=>?_⟩;rw[<-Ak] at l;have d:=(f.trans h).trans u;refine bw (ze ω) o hy (d _ _ c) ⟨_,bs++[r],rfl,(sm.trans d).then p,ag,by rw[Ak];rfl,?_⟩;rw[AC e];exact Tps.upd (Tps.snoc (d.tps hb) l) (d _ _ c) (by intro xs z;cases z)
 ·rintro σ ys b ⟨v,bs,rfl,sm,c,rfl,hb⟩
  rw[AB (by simp)] at hb;exact k b bs sm c hb
def mF:Sp:=fun vs H Q _=>∃a ps,vs=[.ref a]/\Tp H a ps/\ps.length<=5/\∀D H2(bs:List Addr),Same H H2->H D=none->H2 D=some (.lst (bs.map V.ref))->Tps H2 bs (rims ps)->Q (.ref D) H2
def LK:zm ["piece"] ["piece"] (zb oY):=⟨rfl,rfl,rfl,δ,rfl,δ,δ⟩
def F5{f:Addr}{fd:FuncData}(F:Fun K "rims_of" "rims_of" oY f fd)(B:Bt mg):FnOk P w K mg base aR 1 f fd ["piece"] mF:=by
 refine F.ok LK (fun vs H Q E h=>?_) (fun cdv A outer s H vs Q E hr h=>?_)
 ·obtain⟨a,ps,rfl,_⟩:=h;rfl
 ·obtain⟨a,ps,rfl,ha,e,k⟩:=h
  refine⟨_,za (cT (zl ew (zj zh rfl B.len c5 (ac (pv 0) ak)) zd (ax _)) (zf (zo (zO ak))) zv)
   (zf (zo (zq ["piece"] ["k","piece"] [none,some 0] (lY rfl B.range (ac (zj zh rfl B.len c5 (ac (pv 0) ak)) ak)) (fun c C s₀ H₀ ex=>zi (i:=0) (cJ ["k","piece"]) rfl (Or.inl rfl)) (fun c C s₀ H₀ ex=>zX)
    (fun c C s₀ H₀ ex=>zn q8 (iC mB (pv 1) ix (iz (pv 0))) (iC mB (pv 1) (iz (zn dL (pv 0) zd)) ix)) (hfr:=bx (zb oY) δ) (te:=jp)))),?_⟩
  refine⟨_,rfl,a,_,rfl,.inr (SqT.of ha),rfl,_,rfl,?_⟩;rw[Ab]
  by_cases h1:ps.length=1
  ·rw[show decide (V.int (ps.length:Int)=V.int 1)=true from Sc (by rw[h1];rfl)]
   refine a6 ⟨ze (by simp),fun D b=>k D _ [] (Same.new b) b ag ?_⟩;unfold rims;rw[Sa h1];exact .nil
  ·rw[show decide (V.int (ps.length:Int)=V.int 1)=false from Sd fun z=>h1 (by injection z with z;omega)]
   refine aN ⟨_,rfl,a,_,rfl,.inr (SqT.of ha),_,rfl,by rw[Ab];omega,by rw[Ab];omega,fun D b=>?_⟩;rw[Ab];refine zt (LJ ha e b fun g bs sm d hb=>k D g bs sm b d ?_);unfold rims;rw[Sb h1];exact hb
def F_(seq:Ξ)(p:List Int):(bv (fM seq) (p.map Sum.inl)).isSome=decide (p∈seq):=by
 rw[<-oq,Qm,Qs,decide_eq_true_eq];unfold fM;constructor
 ·rintro⟨kv,hm,e⟩
  obtain⟨q,hq,rfl⟩:=Bp.mp hm;have e':=Se e;have:q=p:=(QD (f:=(Sum.inl:Int->Key)) (fun x y h=>Sum.inl.inj h)).mp e';rw[<-this];exact(jf seq q).mp hq
 ·intro h
  exact⟨_,Bp.mpr ⟨p,(jf seq p).mpr h,rfl⟩,by simp⟩
end
end K66
end
section
namespace Dk
open PySem PySem.Spec PyProof.Rows
end Dk
namespace L2
open PySem PySem.Spec PyProof.Rows
section
variable{X:Cx}
def zA(hc:X.calm=true):dy X (.type "list") (fun xs H Q=>∃a kvs,xs=[.ref a]/\Rd H a (.dT kvs)/\
  ∀(bs:List Addr),Paired (fun(p:List Key×V) b=>H b=some (.tup (p.1.map kV))) kvs bs->∀l,H l=none->Q (.ref l) (upd H l (.lst (bs.map V.ref)))):=by
 intro aa s σ H xs us Q I r h;obtain⟨a,kvs,rfl,hq,q⟩:=h;obtain⟨u,rfl,j⟩:=vals1 r;cases j;obtain⟨z,y,ys,c,o,es,ep,h1,h2,v,d,D⟩:=(show zw X.prog X.w H s.heap a (.dT kvs) from hq.ok I.hok);have f:es.size=kvs.length:=by
  have:=congrArg List.length d;rw[Ab,<-AY c] at this
  simpa using this
 refine RZ (Dk.src (ep:=ep) (es:=es) y) (I.ok.hd hc) ⟨o,h1,h2,v⟩ (by rw[f];exact z) fun h' tk acc c' g e it=>?_;obtain⟨n1,n2⟩:=it;have x:Paired (fun(p:List Key×V) b=>H b=some (.tup (p.1.map kV))) kvs (ys.map (·.2.1)):=by
  have:∀{l:List (List Key×V)}{m:List (List Key×Addr×Value)},KT H l m->Paired (fun(p:List Key×V) b=>H b=some (.tup (p.1.map kV))) l (m.map (·.2.1)):=by
   intro l m q
   induction q with
   |nil=>exact .nil
   |cons hq t ih=>exact .cons hq.2.1 ih
  exact this c
 have A:acc.toList=(ys.map (·.2.1)).map Value.ref:=by
  apply RJ;intro i;have hy:ys.length=acc.size:=by rw[n1,f];exact(AY c).symm
  by_cases hi:i<acc.size
  ·obtain⟨e',g1,g2⟩:=n2 i acc[i] (by simp[hi])
   have g3:es.toList[i]?=some e':=by simpa using g1
   rw[d,Ai] at g3;have g4:ys[i]?=some ys[i]:=by simp[hy,hi]
   rw[g4] at g3;simp only[Pp,Be] at g3;simp only[Ai,g4,Pp,Array.getElem?_toList,Qe hi];rw[g2,<-g3]
   rfl
  ·have g1:acc.toList.length<=i:=by simp;omega
   have g2:((ys.map (·.2.1)).map Value.ref).length<=i:=by simp[hy];omega
   rw[PD g1,PD g2]
 have C:Vals ((ys.map (·.2.1)).map V.ref) acc.toList:=by
  rw[A];generalize ys.map (·.2.1)=bs
  induction bs with
  |nil=>exact .nil
  |cons b bs ih=>exact .cons rfl ih
 refine⟨.ref s⁻¹,_,I.laid g (Af _) (show zw X.prog X.w _ h' _ (.lst ((ys.map (·.2.1)).map V.ref)) from⟨?_,acc.toList,c',C,by simpa using e⟩),rfl,q _ x _ (I.hok.fresh (Af _))⟩;simp only[Ab];rw[<-AY c];exact z
def F'{H:Hp}:∀{l:List (List Key×V)}{m:List (List Key×Addr×Value)}{i:Nat}{kv:List Key×V},KT H l m->l[i]?=some kv->∃w,m[i]?=some w/\kv.1=w.1/\RelV kv.2 w.2.2
 |_,_,0,_,.cons h _,e=>by cases e;exact⟨_,rfl,h.1,h.2.2⟩
 |_,_,i+1,_,.cons _ t,e=>F' (i:=i) t (by simpa using e)
end
end L2
end
section
namespace L2
open PySem PySem.Spec PyProof.Rows
section
variable{X:Cx}
def mI(d:Addr)(o:Obj)(kvs:List (List Key×V)):It:=⟨fun i H=>i<kvs.length/\H d=some (.frz o (.dT kvs)),fun i H v H'=>H'=H/\∃kv b,kvs[i]?=some kv/\v=.ref b/\H b=some (.tup (kv.1.map kV)),fun i H=>i=kvs.length/\H d=some (.frz o (.dT kvs))⟩
def kt_at{H:Hp}:∀{l:List (List Key×V)}{m:List (List Key×Addr×Value)}{i:Nat}{kv:List Key×V},KT H l m->l[i]?=some kv->∃w,m[i]?=some w/\H w.2.1=some (.tup (kv.1.map kV))
 |_,_,0,_,.cons h _,e=>by cases e;exact⟨_,rfl,h.2.1⟩
 |_,_,i+1,_,.cons _ t,e=>kt_at (i:=i) t (by simpa using e)
def LL{P:Program}{w:World}{K:Ac}{tg:Expr}(d it:Addr){o:Obj}{kvs:List (List Key×V)}{es:Array DictEntry}{ep:Nat}(hx:o.ExactDict)(C:o.data=.dict es ep)(hsz:es.size=kvs.length):Turn P w K tg (mI d o kvs) [it] it (fun i h=>h.IsKeyIter it d i es.size ep) where
 mem:=by simp
 obj:=fun i h st b hb=>by
  have e:b=it:=by simpa using hb
  subst e;obtain⟨o,e,c,dd⟩:=st;exact⟨o,e,fun v z=>by rw[dd] at z;cases z⟩
 keep:=fun i h h' st k=>by
  obtain⟨o,e,c⟩:=st;exact⟨o,k it (by simp) o e,c⟩
 item:=by
  intro X f hw g hc i aa s σ H E I hf st j;subst f hw g;obtain⟨l,f1,f2,p,q,r⟩:=hf it (by simp);obtain⟨hi,u⟩:=j;obtain⟨F,z,U,ys,x,o',W,Y,h1,h2,M,N,h5⟩:=(show zw X.prog X.w H s.heap d (.frz o (.dT kvs)) from I.hok d _ u);obtain rfl:o=o':=Ag (F.symm.trans h1);have y:=C.symm.trans M;injection y with y hep
  subst y;have hm:Dk.IsD s.heap d es ep:=⟨o,F,hx,C⟩;have a:i<es.size:=by rw[hsz];exact hi
  refine Dk.item st hm a fun h' D sb=>?_;have T:Inv X aa σ H {s with heap:=h'}:=I.turned (t':=s.toks) (fun b o hb e=>(sb.2 b hb).trans e) l f1 p q r;obtain⟨oi,e1,e2,e3⟩:=id D;have J:kvs[i]?=some kvs[i]:=Ah hi;obtain⟨G,O,hb⟩:=kt_at x J;have g3:es.toList[i]?=some es[i]:=by simp[a]
  rw[N,Ai,O] at g3;simp only[Pp,Be] at g3;have S:es[i].key=.ref G.2.1:=by rw[<-g3];rfl
  exact⟨_,rfl,nQ (s:={s with heap:=h'}) e1 e2 e3 ξ ⟨.ref G.2.1,H,T,by rw[S];rfl,⟨rfl,_,_,J,rfl,hb⟩,D,fun b hb=>(hf b hb).1⟩⟩
 done:=by
  intro X f hw g hc i aa s σ H E I hf st j;subst f hw g;obtain⟨l,f1,f2,p,q,r⟩:=hf it (by simp);obtain⟨hi,u⟩:=j;have hm:Dk.IsD s.heap d es ep:=⟨o,(show zw X.prog X.w H s.heap d (.frz o (.dT kvs)) from I.hok d _ u).1,hx,C⟩;have a:i=es.size:=by rw[hsz];exact hi
  subst a;exact Dk.done (I.ok.hd hc) st hm fun h' L=>⟨rfl,I.turned (t':=s.toks) (fun b o hb e=>L b o hb e) l f1 p q r⟩
 self:=fun A i s Q E st h=>wpAny_pyIter_keyiter st h
def LM(te:TE):TI:=fun σ H R=>te σ H fun x H1=>∃d kvs,x=.ref d/\Rd H1 d (.dT kvs)/\∀o H2,H2 d=some (.frz o (.dT kvs))->(∀b,b≠d->H2 b=H1 b)->R (mI d o kvs) H2
def rT{tg l:Expr}{tl:TE}(F:PE X l tl):PI X tg l (LM tl):=by
 intro aa s σ H R I h;refine aV (F aa s σ H _ I h) fun v a ⟨x,H1,I1,u,y⟩=>?_;obtain⟨d,kvs,e,hd,q⟩:=y;subst e;cases u;have go:∀(o:Obj)(H2:Hp),Inv X aa σ H2 a->H2 d=some (.frz o (.dT kvs))->(∀b,b≠d->H2 b=H1 b)->wpAny (model X.prog X.w) X.A (pyIter (.ref d)) (vp X aa σ tg R) X.xe a:=by
  intro o H2 I2 p C;obtain⟨E,z,g,ys,c,o',es,ep,h1,h2,f,j,r⟩:=(show zw X.prog X.w H2 a.heap d (.frz o (.dT kvs)) from I2.hok d _ p);obtain rfl:o=o':=Ag (E.symm.trans h1);have hsz:es.size=kvs.length:=by
   have:=congrArg List.length j;rw[Ab,<-AY c] at this
   simpa using this
  have hm:Dk.IsD a.heap d es ep:=⟨o,h1,h2,f⟩;refine Dk.iter g hm ?_;have hfr:H2 a⁻¹=none:=I2.hok.fresh (Af _);refine⟨a⁻¹,[a⁻¹],_,_,_,rfl,I2.kept (t':=a.toks) fun b o e=>Ad _ e,LL d _ h2 f hsz,⟨_,An _ rfl,rfl,rfl⟩,fun b hb=>?_,q o H2 p C⟩;have e:b=a⁻¹:=by simpa using hb
  subst e;exact I2.fpOk (Af _) hfr
 rcases hd with hd|⟨o,hd⟩
 ·obtain⟨z,g,ys,c,o,es,ep,h1,h2,f,j,r⟩:=(show zw X.prog X.w H1 a.heap d (.dT kvs) from I1.hok d _ hd)
  have i:KT (upd H1 d (.frz o (.dT kvs))) kvs ys:=KT.keeps c fun b zs e=>by rw[al (fun D=>by rw[D,hd] at e;cases e)];exact e
  exact go o (upd H1 d (.frz o (.dT kvs))) (qM (ob:=.frz o (.dT kvs)) (t':=a.toks) I1 (by rw[hd];exact True.intro) (Heap.SameBut.refl _ _) ⟨o,h1⟩ ⟨h1,z,g,ys,i,o,es,ep,h1,h2,f,j,r⟩) ag fun b hb=>al hb
 ·exact go o H1 I1 hd fun _ _=>rfl
def Ga{d:Addr}{o:Obj}{kvs:List (List Key×V)}{g:TG}{tb:TS}{D:Ends}{σ:St}{H:Hp}(a:Nat->St->Hp->Prop)(u:a 0 σ H)(v:∀i σ H,i<=kvs.length->a i σ H->H d=some (.frz o (.dT kvs)))(w:∀i kv b σ H,kvs[i]?=some kv->H b=some (.tup (kv.1.map kV))->a i σ H->g (.ref b) σ H fun f H2=>tb {D with nx:=a (i+1),ct:=a (i+1),bk:=D.nx} f H2)(hd:∀σ H,a kvs.length σ H->D.nx σ H):∃W:Nat->Nat->St->Hp->Prop,(∃m,W 0 m σ H)/\∀i m σ H,W i m σ H->
   ((mI d o kvs).stop i H/\D.nx σ H)\/((mI d o kvs).go i H/\∃N:St->Hp->Prop,(∀h H',N h H'->∃j,j<m/\W (i+1) j h H')/\∀x H',(mI d o kvs).yld i H x H'->g x σ H' fun f H2=>tb {D with nx:=N,ct:=N,bk:=D.nx} f H2):=by
 refine⟨fun i m σ H=>m=kvs.length-i/\i<=kvs.length/\a i σ H,⟨kvs.length,by simp,AX _,u⟩,?_⟩;rintro i m σ H ⟨rfl,hi,p⟩;have q:=v i σ H hi p
 by_cases c:i<kvs.length
 ·refine .inr ⟨⟨c,q⟩,a (i+1),fun h H' l=>⟨kvs.length-(i+1),ω,rfl,c,l⟩,fun x H' y=>?_⟩
  obtain⟨e,kv,b,r,rfl,hb⟩:=y;subst e;exact w i kv b σ _ r hb p
 ·have:i=kvs.length:=ω
  subst this;exact .inl ⟨⟨rfl,q⟩,hd σ H p⟩
end
end L2
end
section
namespace L2
open PySem PySem.Spec PyProof.Rows
def Rd.same{H H':Hp}{a:Addr}{u:HO}(r:Rd H a u)(s:Same H H'):Rd H' a u:=by
 rcases r with r|⟨o,r⟩
 ·exact .inl (s _ _ r)
 ·exact .inr ⟨o,s _ _ r⟩
end L2
end
section
namespace Dk
open PySem PySem.Spec PyProof.Rows
def II(h:Heap)(it d:Addr)(i n ep:Nat):Prop:=∃(c:Value)(b:Bool)(k v:Value),(c=.none\/∃a:Addr,c=rawInt a)/\
 h.get? it=some {cls:=.type "dict_itemiterator",dict:=none,data:=.fields #[c,.bool b,.ref d,.int i 0,.int n 0,.int ep 0,k,v],slots:=#[]}
def II.at{h h':Heap}{it d:Addr}{i n ep:Nat}(x:II h it d i n ep)(k:∀o,h.get? it=some o->h'.get? it=some o):II h' it d i n ep:=by
 obtain⟨a,b,k0,c,hf,e⟩:=x;exact⟨a,b,k0,c,hf,k _ e⟩
section
variable{prog:Program}{w:World}{A:Around}{E:Ω}{s:Shared}{it d v:Addr}{i ep:Nat}{es:Array DictEntry}
def LN{a:Addr}{Q:Option Obj->Shared->Prop}(h:Q (s.heap.get? a) s):wpAny (model prog w) A (loadIfAlive a) Q E s:=fun _ _ _=>h
def oZ{Q:Ω}(a:s.heap.IsItemsView v d)(hm:IsD s.heap d es ep)(h:Q (.ref s⁻¹) {s with heap:=s.heap.push {cls:=.type "dict_itemiterator",data:=.fields #[.none,.bool false,.ref d,.int 0 0,.int es.size 0,.int ep 0,.none,.none]}}):wpAny (model prog w) A (pyIter (.ref v)) Q E s:=by
 obtain⟨i,e,j,f⟩:=id a;obtain⟨o,b,hc,c⟩:=id hm;refine wpAny_pyIter_slot a.typeIs Rq (AZ Rq a.typeIs PySem.F.entry_dict_items_iter ?_ (PySem.F.args_dict_items_iter_1 _));unfold Builtin.«dict_items.__iter__»;refine Aa (Ae ?_);refine Aa ?_;unfold Builtin.Dict_items.dictOf;refine Aa (AO e f (x:=.ref d) rfl (Ae ?_));refine Aa ?_;unfold Builtin.Dict_items.newIterator;refine Aa (A9 b c ?_);refine Aa (wpAny_dictEpoch b c ?_);have g:Builtin.Dict_items.ownsTuple "dict_itemiterator"=true:=ξ
 simp only[g,if_true];refine AQ (Ae ⟨_,rfl,"dict_itemiterator",_,⟨_,An _ rfl,rfl⟩,PySem.F.slot_dict_itemiterator_next.lookup,?_⟩)
  (by simp only[sizeOk,Builtin.Dict_items.ownedTupleFields,Al,Ap,At,Pz,sizeLine_eq];omega)
 simpa[rawInt,Builtin.Dict_items.ownedTupleFields] using h
def o0{Q:Option Value->Shared->Prop}(r:II s.heap it d i es.size ep)(hm:IsD s.heap d es ep)(hx:i<es.size)(I:∀h',II h' it d (i+1) es.size ep->h'.get? s⁻¹=some {cls:=.type "tuple",data:=.seq #[es[i].key,es[i].val]}->
   (∀b o,b≠it->s.heap.get? b=some o->h'.get? b=some o)->Q (some (.ref s⁻¹)) {s with heap:=h'}):wpAny (model prog w) A (pyNext (.ref it)) Q E s:=by
 obtain⟨hp,g,p,tk,os⟩:=s;obtain⟨S,T,ok,U,q_,r⟩:=r;obtain⟨od,bO,bf,hdd⟩:=id hm;have q:Shared.TypeIs ⟨hp,g,p,tk,os⟩ (.ref it) "dict_itemiterator":=⟨_,r,rfl⟩;unfold pyNext;refine Aa (wpAny_attempt (wpAny_callSpecial?_slot (name:=Str.ofString "__next__") q PX
  (AZ PX q QU ?_ (QR _))))
 refine Aa (Ae ?_);refine Aa ?_;refine Aa ?_
 first|refine Aa (wpAny_typeNameOfWhole_itemiter q (Ae ?_))|refine Aa (wpAny_typeNameOf_itemiter q (Ae ?_))
 refine Aa (wpAny_fieldsOf r rfl ?_);have cj:Builtin.Dict_items.ownsTuple "dict_itemiterator"=true:=ξ
 simp only[cj,if_true];show wpAny _ _ (if(Value.ref d==Value.none)=true then _ else _) _ _ _;rw[Sb (show ¬((Value.ref d==Value.none)=true) from Aq)];refine Aa (Ae ?_);refine Aa (A9 bO hdd ?_);rw[Sb (by simp)];refine Aa (Ae ?_);refine Aa (wpAny_dictEpoch bO hdd ?_);rw[Sb (by simp)];refine Ae ?_;simp only[show ¬((i:Int)<0) from ω,if_false,Qj,Qe hx];refine Aa ?_
 first|refine Aa (wpAny_typeNameOfWhole_itemiter q (Ae ?_))|refine Aa (wpAny_typeNameOf_itemiter q (Ae ?_))
 refine Aa (wpAny_isOneOf_itemiter q ?_);show wpAny _ _ (setField (.ref it) 3 (rawInt ((i:Int)+1)) >>= _) _ _ ⟨hp,g,p,tk,os⟩;refine Aa (Bc r (by simp) fun j u v=>?_);replace v:Heap.SameBut it hp j:=v;replace u:j.get? it=some {cls:=.type "dict_itemiterator",dict:=none,data:=.fields #[S,.bool T,.ref d,.int ((i+1:Nat):Int) 0,.int es.size 0,.int ep 0,ok,U],slots:=#[]}:=by
  have e:((i+1:Nat):Int)=(i:Int)+1:=ω
  rw[e];simpa[rawInt] using u
 have f:Shared.TypeIs ⟨j,g,p,tk,os⟩ (.ref it) "dict_itemiterator":=⟨_,u,rfl⟩;refine Aa (AD ?_);refine Aa (wpAny_isOneOf_itemiter f ?_);refine Aa (wpAny_isOneOf_itemiter f ?_);show wpAny _ _ (Builtin.Dict_items.pairFromOwner (.ref it) 6 es[i].key es[i].val) _ _ ⟨j,g,p,tk,os⟩;unfold Builtin.Dict_items.pairFromOwner;refine Aa (wpAny_newTuple ?_);have l:(j.push {cls:=.type "tuple",data:=.seq #[es[i].key,es[i].val]}).get? it=some {cls:=.type "dict_itemiterator",dict:=none,data:=.fields #[S,.bool T,.ref d,.int ((i+1:Nat):Int) 0,.int es.size 0,.int ep 0,ok,U],slots:=#[]}:=Ad _ u;generalize hh₂:j.push {cls:=.type "tuple",data:=.seq #[es[i].key,es[i].val]}=bG at l;have W:j.objs.size=hp.objs.size:=v.1;have C:it<hp.objs.size:=Am r;have X:bG.get? hp.objs.size=some {cls:=.type "tuple",data:=.seq #[es[i].key,es[i].val]}:=by rw[<-hh₂,<-W];exact An _ rfl
 have h:∀b o,b≠it->hp.get? b=some o->bG.get? b=some o:=fun b o hb e=>by rw[<-hh₂];exact Ad _ (v.extBut b o hb e)
 show wpAny _ _ (Builtin.Dict_items.ownedTupleIsFree (.ref it) >>= _) _ _ ⟨bG,g,p,tk,os⟩;rw[W];clear hh₂ u v f W j;have free:∀(E':Ω)(R:Ω),(∀h',II h' it d (i+1) es.size ep->h'.get? hp.objs.size=some {cls:=.type "tuple",data:=.seq #[es[i].key,es[i].val]}->
   (∀b o,b≠it->hp.get? b=some o->h'.get? b=some o)->R (.ref hp.objs.size) ⟨h',g,p,tk,os⟩)->wpAny (model prog w) A.in1 (do
    let eR:=[<-field (.ref it) 6,<-field (.ref it) (6+1)]
    setField (.ref it) 6 es[i].key;setField (.ref it) (6+1) es[i].val
    setField (.ref it) 0 (rawInt hp.objs.size);setField (.ref it) 1 (.bool false)
    letGo eR [.ref hp.objs.size]
    return .ref hp.objs.size) R E' ⟨bG,g,p,tk,os⟩:=by
  intro E' R hR;refine Aa (AO l rfl (x:=ok) rfl ?_);refine Aa (AO l rfl (x:=U) rfl ?_);refine Aa (Bc l (by simp) fun y J c=>?_);replace c:Heap.SameBut it bG y:=c;refine Aa (Bc J (by simp) fun Y jB D=>?_);replace D:Heap.SameBut it y Y:=D;refine Aa (Bc jB (by simp) fun jL jR G=>?_);replace G:Heap.SameBut it Y jL:=G;refine Aa (Bc jR (by simp) fun L M H=>?_);replace H:Heap.SameBut it jL L:=H;replace M:L.get? it=some {cls:=.type "dict_itemiterator",dict:=none,data:=.fields #[rawInt hp.objs.size,.bool false,.ref d,.int ((i+1:Nat):Int) 0,.int es.size 0,.int ep 0,es[i].key,es[i].val],slots:=#[]}:=M;refine Aa (wpAny_letGo (Ae (hR L ⟨_,_,_,_,.inr ⟨_,rfl⟩,M⟩ ?_ ?_)))
  ·exact H.extBut _ _ (AW C) (G.extBut _ _ (AW C) (D.extBut _ _ (AW C) (c.extBut _ _ (AW C) X)))
  ·exact fun b o hb e=>H.extBut b o hb (G.extBut b o hb (D.extBut b o hb (c.extBut b o hb (h b o hb e))))
 refine Aa ?_;unfold Builtin.Dict_items.ownedTupleIsFree;refine Aa (AO l rfl (x:=S) rfl ?_);rcases q_ with rfl|⟨a,rfl⟩
 ·refine Ae ?_
  simp only[if_true];exact free _ _ fun h' N O P=>Ae ⟨_,rfl,Ae (I h' N O P)⟩
 ·dsimp only[rawInt]
  refine Aa (LN ?_);cases hal:bG.get? ((a:Int)).toNat with
  |none=>
   simp only[Option.isNone_none,if_true];refine Ae ?_;simp only[if_true];exact free _ _ fun h' N O P=>Ae ⟨_,rfl,Ae (I h' N O P)⟩
  |some oa=>
   simp only[Option.isNone_some,AG,if_false];refine Aa (AO l rfl (x:=.bool T) rfl ?_);refine wpAny_ite_split (fun _=>?_) (fun _=>?_)
   ·refine Aa (Bc l (by simp) fun y J c=>?_)
    replace c:Heap.SameBut it bG y:=c;refine Ae ?_;simp only[AG,if_false];refine Ae (Ae ⟨_,rfl,Ae (I y ⟨_,_,_,_,.inr ⟨a,rfl⟩,J⟩ ?_ ?_)⟩)
    ·exact c.extBut _ _ (AW C) X
    ·exact fun b o hb e=>c.extBut b o hb (h b o hb e)
   ·refine Ae ?_
    simp only[AG,if_false];exact Ae (Ae ⟨_,rfl,Ae (I bG ⟨_,_,_,_,.inr ⟨a,rfl⟩,l⟩ X h)⟩)
def B1{Q:Option Value->Shared->Prop}(hh:A.handled=none)(e:II s.heap it d es.size es.size ep)(hm:IsD s.heap d es ep)(h:∀h',Heap.ExtBut it s.heap h'->Q none {s with heap:=h'}):wpAny (model prog w) A (pyNext (.ref it)) Q E s:=by
 obtain⟨i,j,ok,l,o,e⟩:=e;obtain⟨p,f,q,hdd⟩:=id hm;have c:s.TypeIs (.ref it) "dict_itemiterator":=⟨_,e,rfl⟩;unfold pyNext;refine Aa (wpAny_attempt (wpAny_callSpecial?_slot (name:=Str.ofString "__next__") c PX
  (AZ PX c QU ?_ (QR _))))
 refine Aa (Ae ?_);refine Aa ?_;refine Aa ?_
 first|refine Aa (wpAny_typeNameOfWhole_itemiter c (Ae ?_))|refine Aa (wpAny_typeNameOf_itemiter c (Ae ?_))
 refine Aa (wpAny_fieldsOf e rfl ?_);have g:Builtin.Dict_items.ownsTuple "dict_itemiterator"=true:=ξ
 simp only[g,if_true];show wpAny _ _ (if(Value.ref d==Value.none)=true then _ else _) _ _ s;rw[Sb (show ¬((Value.ref d==Value.none)=true) from Aq)];refine Aa (Ae ?_);refine Aa (A9 f hdd ?_);rw[Sb (by simp)];refine Aa (Ae ?_);refine Aa (wpAny_dictEpoch f hdd ?_);rw[Sb (by simp)];refine Ae ?_;simp only[show ¬((es.size:Int)<0) from ω,if_false,Qj,Array.getElem?_eq_none (Af es.size)];refine Aa ?_
 first|refine Aa (wpAny_typeNameOfWhole_itemiter c (Ae ?_))|refine Aa (wpAny_typeNameOf_itemiter c (Ae ?_))
 show wpAny _ _ (setField (.ref it) 2 .none >>= _) _ _ s;refine Aa (wpAny_setField e rfl (by simp) ?_);show wpAny _ _ (newExc (.type "StopIteration") [] >>= _) _ _ _;refine Aa ?_;simp only[newExc,newTuple];refine Aa (AQ ?_ (by size_fits));refine Aa (m:=firstArgMember _ _) (wpAny_of_eq (a:=Value.none) (by first|rfl|(simp only[firstArgMember];rfl)) ?_);refine AQ ?_ (by size_fits);simp only[raiseNew];refine Aa (wpAny_handled ?_);rw[show A.in1.handled=none from hh];refine Aa (Ae (wpAny_throw ?_));refine Aa (wpAny_isInstance (T:="StopIteration") (b:=true) ⟨_,An _ rfl,rfl⟩ isSubtype_stop ?_);exact Ae (h _ (((AR ..).extBut.push _).push _))
def eK(h:Heap)(es:Array DictEntry)(ts:List Addr)(i:Nat):Prop:=ts.length=i/\ts.Nodup/\∀(j:Nat) t,ts[j]?=some t->∃e,es[j]?=some e/\h.get? t=some {cls:=.type "tuple",data:=.seq #[e.key,e.val]}
def LO{S:Addr}{res:Value}{R:Result->Shared->Prop}{z:Nat}(hh:A.handled=none)(hn:es.size<=sizeLine)(O:S≠it)(ii:S≠d)(ll:it≠d):∀(k i:Nat)(s:Shared)(ts:List Addr)(c:Nat),es.size-i=k->i<=es.size->II s.heap it d i es.size ep->IsD s.heap d es ep->
   s.heap.get? S=some {cls:=.type "list",dict:=none,data:=.seq (ts.map Value.ref).toArray c,slots:=#[]}->eK s.heap es ts i->z<=s⁻¹->(∀t∈ts,z<=t)->
   (∀h' tk q c',h'.get? S=some {cls:=.type "list",dict:=none,data:=.seq (q.map Value.ref).toArray c',slots:=#[]}->eK h' es q es.size->(∀t∈q,z<=t)->
    (∀b o,b≠S->b≠it->s.heap.get? b=some o->h'.get? b=some o)->R (.ok (.ret res)) {s with heap:=h',toks:=tk})->
   codeAny (model prog w) A (.builtin "list.extend.loop" ⟨[.ref S,.ref it,res],[]⟩) R s:=by
 have f:∀{h h':Heap}{ts:List Addr}{i:Nat}{v x:Obj},h.get? S=some v->v.cls=.type "list"->h.get? it=some x->x.cls=.type "dict_itemiterator"->(∀b o,b≠S->b≠it->h.get? b=some o->h'.get? b=some o)->eK h es ts i->eK h' es ts i:=by
  intro h h' ts i v x g P X Q Y C;refine⟨C.1,C.2.1,fun j t e=>?_⟩;obtain⟨W,e1,e2⟩:=C.2.2 j t e;refine⟨W,e1,Y _ _ (fun y=>?_) (fun y=>?_) e2⟩
  ·rw[y,g] at e2;rw[Ag e2] at P;exact absurd (show Value.type "tuple"=Value.type "list" from P) ξ
  ·rw[y,X] at e2;rw[Ag e2] at Q;exact absurd (show Value.type "tuple"=Value.type "dict_itemiterator" from Q) ξ
 intro k
 induction k with
 |zero=>
  intro i s ts c hk hi p hm g ht hz D E;have M:i=es.size:=ω
  subst M;obtain⟨f0,fb,k0,v0,_,J⟩:=id p;refine A0 PySem.F.entry_extend_loop ?_;rw[AM Qf _];show wpAny _ A.in1 (pyNext (.ref it) >>= _) _ _ s;refine Aa (B1 (A:=A.in1) hh p hm fun h' G=>?_);exact Ae (E h' s.toks ts c (G _ _ O g) (f g rfl J rfl (fun b o _ hb e=>G b o hb e) ht) D fun b o _ hb e=>G b o hb e)
 |succ k ih=>
  intro i s ts c hk hi p hm g ht hz D E;have l:i<es.size:=ω
  obtain⟨f0,fb,k0,v0,_,J⟩:=id p;refine A0 PySem.F.entry_extend_loop ?_;rw[AM Qf _];show wpAny _ A.in1 (pyNext (.ref it) >>= _) _ _ s;refine Aa (o0 (A:=A.in1) p hm l fun h1 T U k1=>?_);have N:=k1 S _ O g;have hsz:s⁻¹<h1.objs.size:=Am U;obtain⟨y_,z_,gZ,BP,_,pN⟩:=id T;have tO:eK h1 es (ts++[s⁻¹]) (i+1):=by
   have t0:=f g rfl J rfl (fun b o _ hb e=>k1 b o hb e) ht;refine⟨by rw[Ap,ht.1];rfl,?_,fun j t e=>?_⟩
   ·rw[Pk]
    refine⟨ht.2.1,by simp,fun a ha b hb=>?_⟩;have hb':b=s⁻¹:=by simpa using hb
    obtain⟨j,L⟩:=QK ha;obtain⟨W,_,e2⟩:=ht.2.2 j a L;rw[hb'];exact Ar (Am e2)
   ·by_cases L:j<ts.length
    ·rw[Qd L] at e
     exact t0.2.2 j t e
    ·have vE:j=i:=by
      have:=(KK.mp e).1;rw[Ap] at this;simp at this;have:=ht.1;omega
     subst vE;rw[P8 ω,ht.1,Nat.sub_self] at e;have:t=s⁻¹:=(Ag e).symm;rw[this];exact⟨_,Qe l,U⟩
  show wpAny _ A.in1 (updateSeq S (·.push (.ref s⁻¹)) >>= _) _ _ _;refine Aa ?_;have u:∀b o,b≠S->h1.get? b=some o->(h1.update S (AH (·.push (Value.ref s⁻¹)))).get? b=some o:=fun b o hb e=>(AE _ _ (Ne.symm hb)).trans e;have e0:((ts.map Value.ref).toArray.push (.ref s⁻¹))=((ts++[s⁻¹]).map Value.ref).toArray:=by simp
  obtain⟨I,gz⟩:∃I,(h1.update S (AH (·.push (Value.ref s⁻¹)))).get? S=some {cls:=.type "list",dict:=none,data:=.seq ((ts++[s⁻¹]).map Value.ref).toArray I,slots:=#[]}:=by
   rw[<-e0];exact⟨_,Heap.get?_update_self _ N rfl⟩
  refine wpAny_updateSeq N rfl (Ae ⟨Bb Qf _,ih (i+1) _ (ts++[s⁻¹]) I ω l (T.at fun o e=>u _ o (Ne.symm O) e) ((hm.at fun o e=>k1 _ o (Ne.symm ll) e).at fun o e=>u _ o (Ne.symm ii) e) gz (f N rfl pN rfl (fun b o hb _ e=>u b o hb e) tO) ?_ ?_ fun h' tk q c' e1 e2 e3 e4=>?_⟩)
   (by simp only[Al,Ab];rw[ht.1];omega) (by simp only[Array.size_push,Al,Ab];rw[ht.1];omega)
  ·have:(h1.update S (AH (·.push (Value.ref s⁻¹)))).objs.size=h1.objs.size:=(AR ..).1
   show z<=(h1.update S (AH (·.push (Value.ref s⁻¹)))).objs.size;rw[this];omega
  ·intro t H
   rcases Pe.mp H with y|y
   ·exact D t y
   ·have:t=s⁻¹:=by simpa using y
    rw[this];exact hz
  ·exact E h' tk q c' e1 e2 e3 fun b o hb r e=>e4 b o hb r (u b o hb (k1 b o r e))
end
end Dk
end
section
namespace Dk
open PySem PySem.Spec PyProof.Rows
section
variable{prog:Program}{w:World}{A:Around}{E:Ω}{s:Shared}{r d:Addr}{ep:Nat}{es:Array DictEntry}
def LP{Q:Bool->Shared->Prop}(c:s.TypeIs (.ref r) "dict_items")(h:Q false s):wpAny (model prog w) A (Builtin.List.listLengthHint (.ref r)) Q E s:=by
 unfold Builtin.List.listLengthHint;refine Aa (wpAny_specialOf c PySem.F.slot_dict_items_len.lookup ?_);generalize ll:("dict_items.__len__":String)=id0
 wp_delta
 rw[show splitId id0=some ("dict_items","__len__") from by subst ll;decide +kernel];subst ll;refine Aa (wpAny_isInstance (T:="dict_items") (b:=true) c (by rw[isSubtype_type];kernel_rfl) ?_);refine wpAny_ite_split (fun a=>absurd a ξ) (fun _=>?_);refine wpAny_ite_split (fun _=>?_) (fun a=>absurd δ a);refine Aa (wpAny_typeOf c ?_);exact Ae h
def LQ{R:Result->Shared->Prop}{z:Nat}(hh:A.handled=none)(l:s.heap.IsItemsView r d)(hm:IsD s.heap d es ep)(M:es.size<=sizeLine)(S:Addr)(N:S≠r)(q:S≠d)(hz:z<=s⁻¹)(res:Value)(u:Nat)(v:s.heap.get? S=some {cls:=.type "list",data:=.seq #[] u})(O:∀h' tk ts c',(∀b o,b≠S->s.heap.get? b=some o->h'.get? b=some o)->h'.get? S=some {cls:=.type "list",dict:=none,data:=.seq (ts.map Value.ref).toArray c',slots:=#[]}->eK h' es ts es.size->(∀t∈ts,z<=t)->R (.ok (.ret res)) {s with heap:=h',toks:=tk}):wpAny (model prog w) A.in1 (Builtin.List.listExtendWith (.ref S) (.ref r) res)
   (fun fin s'=>match fin with|.done f=>R (.ok f) s'|.again c'=>c'.quiet=true/\codeAny (model prog w) A c' R s') (fun e s'=>R (.error e) s') s:=by
 have a:S≠s⁻¹:=Ar (Am v);have H:s⁻¹≠d:=AW hm.lt;have key:∀(h:Heap)(g tk:Nat),II h s⁻¹ d 0 es.size ep->s⁻¹<=h.objs.size->(∀b o,b≠S->s.heap.get? b=some o->h.get? b=some o)->
   h.get? S=some {cls:=.type "list",data:=.seq #[] g}->codeAny (model prog w) A (.builtin "list.extend.loop" ⟨[.ref S,.ref s⁻¹,res],[]⟩) R {s with heap:=h,toks:=tk}:=by
  intro h g tk i x hk c;refine LO (z:=z) hh M a q H es.size 0 _ [] g rfl (AX _) i (hm.at fun o e=>hk _ o (Ne.symm q) e) c ⟨rfl,PV,fun j t e=>by simp at e⟩ (Ay hz x) (fun t ht=>nomatch ht) fun h' C D c' e1 e2 e3 E=>?_;exact O h' C D c' (fun b o hb e=>E b o hb (fun y=>absurd (Am e) (by rw[y];exact Qw _)) (hk b o hb e)) e1 e2 e3
 unfold Builtin.List.listExtendWith;refine Aa (wpAny_typeOf (T:="dict_items") l.typeIs ?_);have h1:Builtin.List.listSameRef (.ref S) (.ref r)=false:=by simp[Builtin.List.listSameRef,N]
 have h2:(Value.type "dict_items" == Value.type "list")=false:=ξ
 have I:(Value.type "dict_items" == Value.type "tuple")=false:=ξ
 simp only[h1,h2,I,Bool.or_false,AG,if_false];refine Aa (oZ l hm ?_);have c:=Ad {cls:=.type "dict_itemiterator",data:=.fields #[.none,.bool false,.ref d,.int 0 0,.int es.size 0,.int ep 0,.none,.none]} v;have st:II (s.heap.push {cls:=.type "dict_itemiterator",data:=.fields #[.none,.bool false,.ref d,.int 0 0,.int es.size 0,.int ep 0,.none,.none]}) s⁻¹ d 0 es.size ep:=⟨_,_,_,_,.inl rfl,An _ rfl⟩;have J:Shared.TypeIs {s with heap:=s.heap.push {cls:=.type "dict_itemiterator",data:=.fields #[.none,.bool false,.ref d,.int 0 0,.int es.size 0,.int ep 0,.none,.none]}} (.ref r) "dict_items":=by
  obtain⟨o,G,hc,_⟩:=l;exact⟨o,Ad _ G,hc⟩
 refine Aa (AD (LP J ?_));have hsz:∀o:Obj,s⁻¹<=(s.heap.push o).objs.size:=fun o=>by rw[Heap.size_push];omega
 refine wpAny_ite_split (fun _=>?_) (fun _=>Ae ⟨Bb Qf _,key _ u _ st (hsz _) (fun b o _ e=>Ad _ e) c⟩);refine Aa (wpAny_rule ?_);refine Aa ?_;show wpAny _ _ (updateSeq S (·.push .none) >>= fun _=>updateSeq S (·.pop)) _ _ _;refine Aa (wpAny_updateSeq c rfl ?_);have p:=Heap.get?_update_self (AH (·.push Value.none)) c rfl;refine wpAny_updateSeq (hz:=by seq_fits) p rfl ?_;have L:=Heap.get?_update_self (AH (·.pop)) p rfl;refine Ae ⟨Bb Qf _,key _ _ _ ?_ ?_ (fun b o hb e=>?_) L⟩
 ·exact(st.at fun o e=>(AE _ _ a).trans e).at fun o e=>(AE _ _ a).trans e
 ·rw[(AR ..).1,(AR ..).1];exact hsz _
 ·exact(AE _ _ (Ne.symm hb)).trans ((AE _ _ (Ne.symm hb)).trans (Ad _ e))
def LR{R:Result->Shared->Prop}{z:Nat}(hh:A.handled=none)(u:s.heap.IsItemsView r d)(hm:IsD s.heap d es ep)(v:es.size<=sizeLine)(S:Addr)(g:S≠r)(h:S≠d)(hz:z<=s⁻¹)(c:s.heap.get? S=some {cls:=.type "list",data:=.seq #[]})(x:∀h' tk ts c',(∀b o,b≠S->s.heap.get? b=some o->h'.get? b=some o)->h'.get? S=some {cls:=.type "list",dict:=none,data:=.seq (ts.map Value.ref).toArray c',slots:=#[]}->eK h' es ts es.size->(∀t∈ts,z<=t)->R (.ok (.ret .none)) {s with heap:=h',toks:=tk}):wpAny (model prog w) A.in1 (Builtin.«list.__init__» ⟨[.ref S,.ref r],[]⟩)
   (fun fin s'=>match fin with|.done f=>R (.ok f) s'|.again c'=>c'.quiet=true/\codeAny (model prog w) A c' R s') (fun e s'=>R (.error e) s') s:=by
 show wpAny _ _ (do let eR <-Builtin.List.listItems (.ref S);Builtin.List.listUpdate (.ref S) (fun _=>#[]);letGo eR.toList.reverse;Builtin.List.listExtendWith (.ref S) (.ref r) .none) _ _ s;refine Aa ?_;unfold Builtin.List.listItems;refine Aa (A8 c rfl (Ae ?_));show wpAny _ _ (updateSeq S (fun _=>#[]) >>= fun _=>letGo (#[]:Array Value).toList.reverse >>= fun _=>Builtin.List.listExtendWith (.ref S) (.ref r) .none) _ _ s;refine Aa (wpAny_updateSeq c rfl ?_);have q:=Heap.get?_update_self (AH (fun _=>(#[]:Array Value))) c rfl;have a:∀b o,b≠S->s.heap.get? b=some o->(s.heap.update S (AH (fun _=>(#[]:Array Value)))).get? b=some o:=
  fun b o hb e=>(AE _ _ (Ne.symm hb)).trans e
 refine Aa (wpAny_letGo ?_);obtain⟨o,p,hc,hd⟩:=id u;refine LQ (s:={s with heap:=s.heap.update S (AH (fun _=>(#[]:Array Value)))}) hh ⟨o,a _ _ (Ne.symm g) p,hc,hd⟩ (hm.at fun o e=>a _ o (Ne.symm h) e) v S g h (by show z<=(s.heap.update S (AH (fun _=>(#[]:Array Value)))).objs.size;rw[(AR ..).1];exact hz) .none _ q fun h' tk ts c' hk i j l=>?_;exact x h' tk ts c' (fun b o hb e=>hk b o hb (a b o hb e)) i j l
def LS{Q:Ω}(hh:A.handled=none)(l:s.heap.IsItemsView r d)(hm:IsD s.heap d es ep)(p:es.size<=sizeLine)(q:∀h' tk ts c',(∀b o,s.heap.get? b=some o->h'.get? b=some o)->h'.get? s⁻¹=some {cls:=.type "list",dict:=none,data:=.seq (ts.map Value.ref).toArray c',slots:=#[]}->eK h' es ts es.size->(∀t∈ts,s⁻¹<t)->Q (.ref s⁻¹) {s with heap:=h',toks:=tk}):wpAny (model prog w) A (call (.type "list") [.ref r]) Q E s:=by
 refine callType_codes (Q₁:=fun obj a=>obj=.ref s⁻¹/\a={s with heap:=s.heap.push {cls:=.type "list",data:=.seq #[]}}) PySem.F.called_list (PySem.F.typeCall_list_1 _) PySem.F.entry_list_init
  (code_list_new _ ⟨rfl,rfl⟩) fun obj a g=>?_
 obtain⟨rfl,rfl⟩:=g;have f:(s.heap.push {cls:=.type "list",data:=.seq #[]}).get? s⁻¹=some {cls:=.type "list",data:=.seq #[]}:=An _ rfl;obtain⟨o,c,hc,hd⟩:=id l;refine⟨⟨_,f,rfl⟩,PySem.F.args_list_init_2 _ _,LR (A:=A.in1) (z:=s⁻¹+1) hh ⟨o,Ad _ c,hc,hd⟩ (hm.at fun o e=>Ad _ e) p _ (AW (Am c)) (AW hm.lt) (by show _<=(s.heap.push _).objs.size;rw[Heap.size_push];exact Af _) f fun h' tk ts c' hk h i j=>?_⟩;exact⟨rfl,q h' tk ts c' (fun b o e=>hk b o (Ar (Am e)) (Ad _ e)) h i fun t ht=>j t ht⟩
end
end Dk
namespace L2
open PySem PySem.Spec PyProof.Rows
section
variable{X:Cx}{aa:Ψ}{σ:St}{H:Hp}{s:Shared}
def hE:∀(a:List (Addr×List V))(H:Hp),Inv X aa σ H s->(a.map (·.1)).Nodup->(∀r∈a,be X aa H r.1/\X.s₀⁻¹<=r.1/\r.2.length<=sizeLine/\∃ae:List Value,Vals r.2 ae/\IsTup s.heap r.1 ae.toArray)->
  ∃H',Inv X aa σ H' s/\Same H H'/\∀r∈a,H' r.1=some (.tup r.2)
 |[],H,I,_,_=>⟨H,I,Same.refl _,fun r hr=>nomatch hr⟩
 |r::rest,H,I,hn,h=>by
  obtain⟨⟨c,f1,f2,w,d,e⟩,f,hz,ae,i,j⟩:=h r Az;have b:(r.1::rest.map (·.1)).Nodup:=hn;rw[Pg] at b;have v:=I.adopt (o:=.tup r.2) c f f1 d e ⟨hz,ae,i,j⟩;have p:=Same.new (o:=.tup r.2) c;obtain⟨H',u,sm,g⟩:=hE rest (upd H r.1 (.tup r.2)) v b.2 fun q hq=>by
   obtain⟨⟨l,g1⟩,g2⟩:=h q (Ax _ hq);refine⟨⟨?_,g1⟩,g2⟩;rw[al (fun y=>b.1 (by rw[<-y];exact Bp.mpr ⟨q,hq,rfl⟩))];exact l
  refine⟨H',u,p.trans sm,fun q hq=>?_⟩;rcases Pa.mp hq with rfl|hq
  ·exact sm _ _ ag
  ·exact g q hq
end
section
variable{X:Cx}
def ph(v d:Addr):HO:=.ext fun h=>h.IsItemsView v d
def zjM:V->List V->Hp->VK->Prop:=fun x vs H Q=>∃d kvs,x=.ref d/\vs=[]/\Rd H d (.dT kvs)/\∀v,H v=none->Q (.ref v) (upd H v (ph v d))
def f_:wC X "dict.items" zjM:=by
 intro aa s σ H x vs v us Q I e f h;obtain⟨d,kvs,rfl,rfl,hd,q⟩:=h;cases e;obtain rfl:=f.zero;obtain⟨z,g,ys,i,o,es,ep,h1,h2,r,u,y⟩:=(show zw X.prog X.w H s.heap d (.dT kvs) from hd.ok I.hok);have a:s.TypeIs (.ref d) "dict":=⟨o,h1,h2.1⟩;have l:MeetsIn X.prog X.w (Builtin.«dict.items» ⟨[.ref d],[]⟩) (fun _ R s=>s.TypeIs (.ref d) "dict"/\R (.ok (.ret (.ref s⁻¹))) {s with heap:=s.heap.push {cls:=.type "dict_items",data:=.fields #[.ref d]}}):=
  .of_wp fun A R s ⟨a,h⟩=>by
   unfold Builtin.«dict.items»;refine Aa ?_;unfold Builtin.Dict.noArgs;refine Aa (wpAny_notOrdered_dict a ?_);show wpAny _ _ (pure d) _ _ s;refine Ae ?_;show wpAny _ _ (Builtin.Dict.showsAll d >>= _) _ _ s;unfold Builtin.Dict.showsAll;rw[Sb (by rw[g];exact Aq)];refine Aa (Ae ?_);exact Aa (AQ (Ae ⟨_,rfl,h⟩))
 refine call_meetsIn PySem.F.slot_dict_items a PySem.F.entry_dict_items (PySem.F.args_dict_items_1 _) l ⟨a,?_⟩;refine⟨.ref s⁻¹,_,I.laid (t':=s.toks) (o:=ph s⁻¹ d) (fun b ob q=>Ad _ q) (Af _) ?_,rfl,q _ (I.hok.fresh (Af _))⟩;refine⟨⟨_,An _ rfl,rfl,rfl⟩,⟨_,An _ rfl⟩,fun h1 h2 p k=>?_⟩;obtain⟨o,j,c⟩:=p;exact⟨o,k o j,c⟩
def LV(to:TE):TE:=fun σ H Q=>to σ H fun x H1=>zjM x [] H1 Q
def LW{o:Expr}{to:TE}{a9 ay:Pos}(i:PE X o to)(j:attributeBase o "items" X.env (eval o X.env)=eval o X.env:=by rfl)(l:(a9.endLine==ay.line)=true:=by rfl):PE X (.Call (.Attribute o "items" a9) [] [] ay) (LV to):=by
 intro aa s σ H Q I h;refine wpAny_Call_method0_late j l (aV (i aa s σ H _ I h) fun v b ⟨x,H1,I1,f,c⟩=>?_);have g:=c;obtain⟨d,kvs,rfl,_,hd,_⟩:=c;cases f;obtain⟨_,_,_,_,ob,_,_,e,ex,_⟩:=(show zw X.prog X.w H1 b.heap d (.dT kvs) from hd.ok I1.hok);exact⟨"dict","dict.items",PySem.F.plainAttrs_dict,PySem.F.slot_dict_items,PySem.F.type_dict_items,⟨ob,e,ex.1⟩,(fun a z=>by cases z;exact⟨ob,e,ex.2.1⟩),Calls.callWith_builtin rfl (PySem.evalArgs_none (f_ aa b σ H1 (.ref d) [] (.ref d) [] Q I1 rfl .nil g))⟩
def LX(hc:X.calm=true):dy X (.type "list") (fun xs H Q=>∃v d kvs,xs=[.ref v]/\H v=some (ph v d)/\Rd H d (.dT kvs)/\
  ∀H'(l:Addr)(ts:List Addr),Same H H'->H l=none->H' l=some (.lst (ts.map V.ref))->Paired (fun t(kv:List Key×V)=>∃b,H' t=some (.tup [.ref b,kv.2])/\H' b=some (.tup (kv.1.map kV))) ts kvs->Q (.ref l) H'):=by
 intro aa s σ H xs us Q I r h;obtain⟨v,d,kvs,rfl,U,hd,q⟩:=h;obtain⟨u,rfl,W⟩:=vals1 r;cases W;have wT:s.heap.IsItemsView v d:=(show zw X.prog X.w H s.heap v (ph v d) from I.hok v _ U).1;obtain⟨z,hs,ys,e,o,es,ep,h1,h2,Y,G,h5⟩:=(show zw X.prog X.w H s.heap d (.dT kvs) from hd.ok I.hok);have hsz:es.size=kvs.length:=by
  have:=congrArg List.length G;rw[Ab,<-AY e] at this
  simpa using this
 refine Dk.LS (I.ok.hd hc) wT ⟨o,h1,h2,Y⟩ (by rw[hsz];exact z) fun h' tk ts c' P S D T=>?_;have N:H s⁻¹=none:=I.hok.fresh (Af _);have vv:∀ts:List Addr,Vals (ts.map V.ref) (ts.map Value.ref):=fun ts=>by
  induction ts with
  |nil=>exact .nil
  |cons b bs ih=>exact .cons rfl ih
 have I1:Inv X aa σ (upd H s⁻¹ (.lst (ts.map V.ref))) {s with heap:=h',toks:=tk}:=I.laid P (Af _) ⟨by rw[Ab,D.1,hsz];exact z,_,c',vv ts,S⟩;have O:=Same.new (o:=.lst (ts.map V.ref)) N;have C:ts.length=kvs.length:=by rw[D.1,hsz]
 have row:∀(j:Nat)(t:Addr)(kv:List Key×V),ts[j]?=some t->kvs[j]?=some kv->∃(y:List Key×Addr×Value),H y.2.1=some (.tup (kv.1.map kV))/\RelV kv.2 y.2.2/\ys[j]?=some y/\h'.get? t=some {cls:=.type "tuple",data:=.seq #[.ref y.2.1,y.2.2]}:=by
  intro j t kv e1 e2;obtain⟨en,g1,g2⟩:=D.2.2 j t e1;obtain⟨y,g3,g4,g5⟩:=F' e e2;obtain⟨y',J,g7⟩:=kt_at e e2;rw[g3] at J;obtain rfl:=Ag J;have F:es.toList[j]?=some en:=by simpa using g1
  rw[G,Ai,g3] at F;simp only[Pp,Be] at F;refine⟨y,g7,g5,g3,?_⟩;rw[g2,<-F]
  rfl
 let rows:List (Addr×List V):=(ts.zip (ys.zip kvs)).map fun q=>(q.1,[.ref q.2.1.2.1,q.2.2.2])
 have hyl:ys.length=kvs.length:=(AY e).symm;have ut:rows.map (·.1)=ts:=by
  show((ts.zip (ys.zip kvs)).map fun q=>(q.1,[V.ref q.2.1.2.1,q.2.2.2])).map (·.1)=ts;rw[Aj];show(ts.zip (ys.zip kvs)).map Prod.fst=ts;rw[Rl];rw[QG];omega
 have p:∀(j:Nat)(t:Addr)(kv:List Key×V)(y:List Key×Addr×Value),ts[j]?=some t->kvs[j]?=some kv->ys[j]?=some y->(t,[V.ref y.2.1,kv.2])∈rows:=by
  intro j t kv y e1 e2 e3;refine Bp.mpr ⟨(t,y,kv),Ao (i:=j) ?_,rfl⟩;rw[Qt];exact⟨e1,by rw[Qt];exact⟨e3,e2⟩⟩
 obtain⟨H',I',sm,g⟩:=hE rows _ I1 (by rw[ut];exact D.2.1) fun r hr=>by
  obtain⟨⟨t,y,kv⟩,hq,rfl⟩:=Bp.mp hr;obtain⟨j,L⟩:=QK hq;rw[Qt] at L;obtain⟨M,E⟩:=L;rw[Qt] at E;obtain⟨E,j3⟩:=E;obtain⟨y',g1,g2,g3,g4⟩:=row j t kv M j3;rw[E] at g3;obtain rfl:=Ag g3;have A:s⁻¹<t:=T t (Ao M);refine⟨I.fpOk (Qg A) ?_,Ay I.sz (Qg A),by show 2<=sizeLine;rw[sizeLine_eq];omega,[.ref y.2.1,y.2.2],.cons rfl (.cons g2 .nil),⟨_,g4,rfl,_,rfl⟩⟩;rw[al (AW A)];exact I.hok.fresh (Qg A)
 have key:∀(a:List Addr)(b:List (List Key×V)),a.length=b.length->(∀(j:Nat) t kv,a[j]?=some t->b[j]?=some kv->∃c,H' t=some (.tup [.ref c,kv.2])/\H' c=some (.tup (kv.1.map kV)))->Paired (fun t(kv:List Key×V)=>∃b,H' t=some (.tup [.ref b,kv.2])/\H' b=some (.tup (kv.1.map kV))) a b:=by
  intro a
  induction a with
  |nil=>
   intro b hb _;cases b with
   |nil=>exact .nil
   |cons x y=>simp at hb
  |cons x a ih=>
   intro b hb f;cases b with
   |nil=>simp at hb
   |cons y b=>exact .cons (f 0 x y rfl rfl) (ih b (by simpa using hb) fun j t kv e1 e2=>f (j+1) t kv (by simpa using e1) (by simpa using e2))
 refine⟨.ref s⁻¹,H',I',rfl,q H' _ ts (O.trans sm) N (sm _ _ ag) (key _ _ C fun j t kv e1 e2=>?_)⟩;obtain⟨y,g1,g2,g3,g4⟩:=row j t kv e1 e2;exact⟨y.2.1,g _ (p j t kv y e1 e2 g3),sm _ _ (O _ _ g1)⟩
end
end L2
end
section
namespace K66
open K1
open PySem L2 STb
abbrev rX:Stmt:=top 44
abbrev B9(K:Ac):List V->Hp->VK->Prop:=fun xs H Q=>∃p ys,xs=[.ref p]/\(SqL K H p ys\/SqT K H p ys)/\Q (.int ys.length) H
abbrev pi(K:Ac):TT:=dN (bC (eW fun i j=>.bl (decide (j<i))) (jM (B9 K) (dh (aw 1) bD)) (tC (.int 1)))
section
variable{P:Program}{w:World}{K:Ac}{mg:Str->Option Value}{base:Heap}
def LY{H2:Hp}{a D:Addr}{ps:List Int}{Q:VK}(ha:Tp H2 a ps)(hz:ps.length<=5)(q:H2 D=none)(k:∀(b:Hp)(bs:List Addr),Same H2 b->b D=some (.lst (bs.map V.ref))->Tps b bs (rims ps)->Q (.ref D) b):zU (ge 0 ps.length) (zK 0) (pi K) jp [none,some (.ref a)] H2 D Q:=by
 refine qX (fun j σ ys b=>∃(v:Option V)(bs:List Addr),σ=[v,some (.ref a)]/\Same H2 b/\b D=some (.lst ys)/\ys=bs.map V.ref/\Tps b bs ((rims ps).take j)) ?_ ?_ ?_
 ·exact⟨none,[],rfl,Same.new q,ag,rfl,by rw[RD];exact .nil⟩
 ·rintro j σ ys b f hy ⟨v,bs,rfl,sm,c,rfl,hb⟩
  refine⟨_,rfl,a,_,rfl,.inr (SqT.of (sm.tp ha)),_,_,rfl,rfl,_,rfl,?_⟩;rw[Ab]
  by_cases h1:ps.length=1
  ·have g:rims ps=[]:=by unfold rims;rw[Sa h1]
   rw[Sd ω];refine aN (cV f hy ⟨_,bs,rfl,sm,c,rfl,?_⟩);rw[g] at hb ⊢;rw[List.take_nil] at hb ⊢;exact hb
  ·have g:rims ps=(AI ps.length).map fun k=>ps.take k++ps.drop (k+1):=by unfold rims;rw[Sb h1]
   rw[Sc ω];refine a6 ?_;have e:(rims ps)[j]?=some (ps.take j++ps.drop (j+1)):=by rw[g,Ai,Qy f];rfl
   refine⟨_,rfl,_,rfl,_,rfl,a,_,rfl,sm.tp ha,fun r x h i=>⟨_,rfl,_,rfl,_,_,rfl,rfl,_,rfl,a,_,rfl,h _ _ (sm.tp ha),fun p2 y l o=>?_⟩⟩;rw[show(0:Int)+((j:Nat):Int)=((j:Nat):Int) from ω,jo _ _ (by rw[Ab];omega),<-QZ] at i;rw[show(0:Int)+((j:Nat):Int)+1=((j+1:Nat):Int) from ω,lA _ _ (by rw[Ab];omega),<-RT] at o;refine⟨r,p2,_,_,rfl,rfl,l _ _ i,o,ze (by simp;omega),fun u A w p=>?_⟩;rw[<-Ak] at p;have d:=(h.trans l).trans w;refine bw (ze ω) f hy (d _ _ c) ⟨_,bs++[u],rfl,(sm.trans d).then q,ag,by rw[Ak];rfl,?_⟩;rw[AC e];exact Tps.upd (Tps.snoc (d.tps hb) p) (d _ _ c) (by intro xs z;cases z)
 ·rintro σ ys b ⟨v,bs,rfl,sm,c,rfl,hb⟩
  rw[AB (j9 ps)] at hb;exact k b bs sm c hb
def LZ:zm ["piece"] ["piece"] (zb rX):=⟨rfl,rfl,rfl,δ,rfl,δ,δ⟩
def L4{f:Addr}{fd:FuncData}(F:Fun K "_law_rims" "_law_rims" rX f fd)(B:Bt mg):FnOk P w K mg base aR 1 f fd ["piece"] mF:=by
 refine F.ok LZ (fun vs H Q E h=>?_) (fun cdv A outer s H vs Q E hr h=>?_)
 ·obtain⟨a,ps,rfl,_⟩:=h;rfl
 ·obtain⟨a,ps,rfl,ha,e,k⟩:=h
  refine⟨_,zf (zo (zq ["piece"] ["k","piece"] [none,some 0] (lY rfl B.range (ac (zj zh rfl B.len c5 (ac (pv 0) ak)) ak)) (fun b C s₀ H₀ ex=>zi (i:=0) (cJ ["k","piece"]) rfl (Or.inl rfl))
    (fun b C s₀ H₀ ex=>zQ (zl kw (zj zh rfl B.len c5 (ac (pv 1) ak)) zd (ax _)))
    (fun b C s₀ H₀ ex=>zn q8 (iC mB (pv 1) ix (iz (pv 0))) (iC mB (pv 1) (iz (zn dL (pv 0) zd)) ix)) (hfr:=bx (zb rX) δ) (tc:=pi K) (te:=jp))),?_⟩
  refine⟨_,rfl,a,_,rfl,.inr (SqT.of ha),_,rfl,by rw[Ab];omega,by rw[Ab];omega,fun D c=>?_⟩;rw[Ab];exact zt (LY ha e c fun g bs sm d hb=>k D g bs sm c d hb)
def fz{H:Hp}{b:Addr}{ps:List Int}(h:Tp H b ps):H b=some (.tup ((ps.map Sum.inl:List Key).map kV)):=by rw[Aj];exact h
def Cf{H2:Hp}{L D:Addr}{as:List Addr}{kn:Ξ}{Q:VK}{p:List Int->Bool}{tc:TT}{c:List (Option V)}(r:∀(o:Addr)(os:List Int)(H:Hp)(R:Bool->Hp->Prop),Same H2 H->Tp H o os->os∈kn->(∀H',Same H H'->R (p os) H')->tc (some (.ref o)::c) H R)(u:SqL K H2 L (as.map V.ref))(ht:Tps H2 as kn)(hz:kn.length<=1000)(h:H2 D=none)(k:∀a bs,Same H2 a->a D=some (.lst (bs.map V.ref))->Tps a bs (kn.filter p)->Q (.ref D) a):zU (dG K L) (zK 0) tc (aw 0) (none::c) H2 D Q:=by
 have l:=ht.length;refine zE (xs:=as.map V.ref) (fun j σ ys a=>∃(v:Option V)(bs:List Addr),σ=v::c/\Same H2 a/\a D=some (.lst ys)/\ys=bs.map V.ref/\Tps a bs ((kn.take j).filter p)) ?_ ?_ ?_ ?_
 ·exact⟨none,[],rfl,Same.new h,ag,rfl,.nil⟩
 ·rintro j σ ys a ⟨v,bs,rfl,sm,d,rfl,_⟩
  exact sm.seq u
 ·rintro j σ ys a x hx f hy ⟨v,bs,rfl,sm,d,rfl,hb⟩
  obtain⟨o,i,rfl⟩:=zL hx;obtain⟨os,e,g⟩:=ht.get i;have q:(as.map V.ref).length<=sizeLine:=by rw[Ab];exact ze ω
  refine r o os a _ sm (sm.tp g) (Ao e) fun w b=>?_;cases hp:p os
  ·refine aN (cV f hy ⟨_,bs,rfl,sm.trans b,b _ _ d,rfl,?_⟩)
   rw[AC e,AJ,Pi (by rw[hp];simp),PM,Po];exact b.tps hb
  ·refine a6 ⟨_,rfl,bw q f hy (b _ _ d) ⟨_,bs++[o],rfl,(sm.trans b).then h,ag,by rw[Ak];rfl,?_⟩⟩
   rw[AC e,AJ,Pj hp];exact Tps.upd (Tps.snoc (b.tps hb) ((sm.trans b).tp g)) (b _ _ d) (by intro xs z;cases z)
 ·rintro σ ys a ⟨v,bs,rfl,sm,d,rfl,hb⟩
  rw[Ab,l,AB (Af _)] at hb;exact k a bs sm d hb
end
end K66
end
section
namespace DCp
open PySem
def Cn:mroOf (.type "dict")=pure [.type "dict",.type "object"]:=by rw[mroOf_type];kernel_rfl
def L5:typeLookup (.type "dict") "__new__"=pure (some (.builtin "dict.__new__")):=by rw[typeLookup_type,builtinLookup_eq_fast];kernel_rfl
def zG:TypeCalled "dict" "dict.__new__" "dict.__init__":=
 ⟨δ,δ,⟨_,_,Cn⟩,madeBy_type Cn L5 δ,δ,by rw[isSubtype_type];kernel_rfl,PySem.F.slot_dict_init⟩
def L6(a:Value):checkTypeCall "dict" ⟨[a],[]⟩=pure ():=by kernel_rfl
def L7(a:Value):checkBuiltinCall "dict.__new__" ⟨[.type "dict",a],[]⟩=pure ():=by kernel_rfl
def L8:entryFor table "dict.__new__"=some Builtin.«dict.__new__»:=entryFor_of_tree (by kernel_rfl)
def Gb:plainId "dict.__new__"=true:=δ
def Gc:isSubtype (.type "dict") (.type "dict")=pure true:=by rw[isSubtype_type];kernel_rfl
section
variable{prog:Program}{w:World}{A:Around}{E:Ω}{s:Shared}
def L9(a:Value){Q₁:Ω}(h:Q₁ (.ref s⁻¹) {s with heap:=s.heap.push {cls:=.type "dict",data:=.dict #[]}}):codeAny (model prog w) A (.call (.builtin "dict.__new__") ⟨[.type "dict",a],[]⟩) (wants Q₁ E) s:=by
 refine codeAny_of_tree (show wpAny _ A.in1 (do checkBuiltinCall "dict.__new__" ⟨[.type "dict",a],[]⟩;again (.builtin "dict.__new__" ⟨[.type "dict",a],[]⟩)) _ _ s from Aa (wpAny_of_eq (L7 a) (Ae ⟨Bb Gb _,A0 L8 ?_⟩)));rw[AM Gb _];unfold Builtin.«dict.__new__»;have b:=Gc;have c:=Cn;obtain⟨hp,g,d,tk,os⟩:=s;dsimp only;refine Aa (wpAny_of_eq (a:=true) rfl ?_);simp only[RS,AG,if_false];refine Aa (wpAny_of_eq b ?_);simp only[RS,AG,if_false];refine Aa (wpAny_of_eq c ?_);rw[Sb ξ];refine Aa (AQ ?_);exact Ae h
end
end DCp
end
section
namespace L2
open PySem PySem.Spec PyProof.Rows
def L_{P:Program}{w:World}(ps:List Int):tupleKeyHash (zr P w) (ps.map Sum.inl)=tupleKeyHash (intKind P w) ps:=by
 unfold tupleKeyHash;rw[Aj]
 rfl
end L2
end
section
namespace DPr
open PySem PyProof.Rows
section
variable{prog:Program}{w:World}{A:Around}{E:Ω}{s:Shared}
def Ma:typeLookup (.type "list") "keys"=pure none:=by rw[typeLookup_type,builtinLookup_eq_fast];kernel_rfl
def Mb{a:Addr}{o:Obj}{xs:Array Value}{k:Nat}{Q:Option Value->Shared->Prop}(hx:s.heap.get? a=some o)(hc:o.cls=.type "list")(i:o.data=.seq xs k)(hd:o.dict=none)(l:A.handled=none)(h:∀h' tk e,Heap.NewExcOf s.heap h' e "AttributeError"->Q none {s with heap:=h',toks:=tk}):wpAny (model prog w) A (getAttr? (.ref a) "keys") Q E s:=by
 obtain⟨c,v,x,j⟩:=o;simp only at hc i hd;subst hc i hd;obtain⟨hp,g,d,tk,os⟩:=s;have f:∀b,(⟨hp,g,d,b,os⟩:Shared).TypeIs (.ref a) "list":=fun _=>⟨_,hx,rfl⟩;have f1:=sub_AttributeError;have q:=F.slot_list_getattribute.lookup;have r:=F.slot_list_getattribute.bind (.ref a);have u:=am_list_getattr_none;unfold getAttr? getAttrBy? getAttrBy
 repeat(any_goals(first|assumption|exact f _|((with_reducible show wpAny _ _ (call (Value.builtin "list.__getattribute__") _ _) _ _ _);refine call_meets F.slot_list_getattribute (f _) am_entry_list_getattribute (F.args_list_getattribute_2 _ _) (meets_getattribute_miss_list a xs k j "keys" _ Ma ξ (by size_fits)) ⟨hx,l,fun h' b e hx'=>?_⟩)|wp_step))
 obtain⟨t',p,he⟩:=hx'.there;show wpAny _ _ (getattributeRaised _ _ _ _ _ _ _) _ _ _;unfold getattributeRaised
 repeat(any_goals(first|assumption|wp_step))
 exact h _ _ _ hx'.of
def Gd:entryFor table "dict.update.loop"=some Builtin.«dict.update.loop»:=entryFor_of_tree (by kernel_rfl)
def rY:plainId "dict.update.loop"=true:=δ
abbrev lp(D I:Addr)(i:Int):Code:=.builtin "dict.update.loop" ⟨[.ref D,.ref I,rawInt i,.none],[]⟩
variable{K:Type}[DecidableEq K]{knd:KeyKind prog w K}
abbrev Pr(K:Type):Type:=Addr×List K×Addr×Value
def Good(knd:KeyKind prog w K)(h:Heap)(x:Pr K):Prop:=h.IsTuple x.1 #[.ref x.2.2.1,x.2.2.2]/\IsTupleKey knd h x.2.1 x.2.2.1
def pj(xs:List (List K×Addr×Value))(ts:List (Pr K)):List (List K×Addr×Value):=ts.foldl (fun acc x=>storedH acc x.2.1 x.2.2.1 x.2.2.2) xs
def Ge{h h':Heap}{x:Pr K}{D I:Addr}{o:Obj}(g:Good knd h x)(y:∃o,h.get? D=some o/\o.cls=.type "dict")(A:∃o,h.get? I=some o/\o.cls=.type "list_iterator")(i:∀b o,b≠D->b≠I->h.get? b=some o->h'.get? b=some o):Good knd h' x:=by
 obtain⟨⟨j,e1,e,l⟩,p,it,n,e2,f,q⟩:=g;obtain⟨C,r,u⟩:=y;obtain⟨E,v,w⟩:=A;have ne:∀{a:Addr}{d:Obj},h.get? a=some d->d.cls=.type "tuple"->a≠D/\a≠I:=fun{a d} c ca=>by
  refine⟨fun z=>?_,fun z=>?_⟩
  ·rw[z,r] at c
   rw[<-Ag c,u] at ca;exact absurd ca ξ
  ·rw[z,v] at c
   rw[<-Ag c,w] at ca;exact absurd ca ξ
 exact⟨⟨j,i _ _ (ne e1 e).1 (ne e1 e).2 e1,e,l⟩,p,it,n,i _ _ (ne e2 f).1 (ne e2 f).2 e2,f,q⟩
def Gf{h h':Heap}{D I:Addr}{xs:List (List K×Addr×Value)}(d:h.DictOfH (tupleKind knd) D xs)(c:D≠I)(r:∃o,h.get? I=some o/\o.cls=.type "list_iterator")(e:∀b o,b≠I->h.get? b=some o->h'.get? b=some o):h'.DictOfH (tupleKind knd) D xs:=by
 obtain⟨o,es,ep,f,hc,hd,he,g,i⟩:=d;obtain⟨u,j,l⟩:=r;refine⟨o,es,ep,e _ _ c f,hc,hd,he,fun x hx=>?_,i⟩;obtain⟨p,it,n,e2,a,q⟩:=g x hx;refine⟨p,it,n,e _ _ (fun z=>?_) e2,a,q⟩;rw[z,j] at e2;rw[<-Ag e2,l] at a;exact absurd a ξ
def pair_items{t:Addr}{b:Array Value}{Q:List Value->Shared->Prop}(ht:s.heap.IsTuple t b)(h:Q b.toList s):wpAny (model prog w) A (Builtin.Dict.pairItems (.ref t)) Q E s:=by
 obtain⟨o,a,hc,n,hd⟩:=ht;unfold Builtin.Dict.pairItems;refine Aa (wpAny_typeOf (show s.TypeIs (.ref t) "tuple" from⟨o,a,hc⟩) ?_);rw[Sa ξ];exact Aa (A8 a hd (Ae h))
def Mc(xs:List (List K×Addr×Value))(k:List K)(a:Addr)(v:Value):(storedH xs k a v).length<=xs.length+1:=by
 unfold storedH;split
 ·rw[Ab];omega
 ·rw[Ap];simp
def Gg{D I L:Addr}{ts:List (Pr K)}{R:Result->Shared->Prop}(hh:A.handled=none)(hu:A.units+1<cLine)(p:D≠I)(E:L≠D)(r:L≠I):∀(k j:Nat)(s:Shared)(xs:List (List K×Addr×Value)),ts.length-j=k->j<=ts.length->s.heap.IsListIter I L j->s.heap.IsList L (ts.map fun x=>Value.ref x.1).toArray->(∀x∈ts,Good knd s.heap x)->
   s.heap.DictOfH (tupleKind knd) D xs->xs.length+k<=sizeLine->
   (∀h' tk,h'.DictOfH (tupleKind knd) D (pj xs (ts.drop j))->(∀b o,b≠D->b≠I->s.heap.get? b=some o->h'.get? b=some o)->R (.ok (.ret .none)) {s with heap:=h',toks:=tk})->
   codeAny (model prog w) A (lp D I j) R s
 |0,j,s,xs,hk,hj,az,hl,hg,hd,hz,hQ=>by
  have P:j=ts.length:=ω
  subst P;have W:=Walks.list (prog:=prog) (w:=w) (A:=A.in1) hh I L r (ts.map fun x=>Value.ref x.1).toArray;refine A0 Gd ?_;rw[AM rY _];unfold Builtin.«dict.update.loop»;dsimp only[rawInt];refine Aa (W.done s _ _ ⟨by simpa using az,hl⟩ fun h' tk d=>?_);dsimp only;unfold Builtin.Dict.addKeywords;refine Aa (wpAny_of_eq (a:=()) rfl ?_);obtain⟨c,f,g,_⟩:=az;refine Ae (hQ h' tk ?_ fun b o _ hb e=>d b o (by simpa using hb) e);rw[List.drop_length];exact Gf hd p ⟨c,f,g⟩ fun b o hb e=>d b o (by simpa using hb) e
 |k+1,j,s,xs,hk,hj,az,hl,hg,hd,hz,hQ=>by
  have W:=Walks.list (prog:=prog) (w:=w) (A:=A.in1) hh I L r (ts.map fun x=>Value.ref x.1).toArray;have h:j<ts.length:=ω
  refine A0 Gd ?_;rw[AM rY _];unfold Builtin.«dict.update.loop»;dsimp only[rawInt];refine Aa (W.item j s _ _ (by simpa using h) ⟨az,hl⟩ fun v h1 tk F u d=>?_);have Q:v=.ref (ts[j]).1:=by
   have:(ts.map fun x=>Value.ref x.1).toArray[j]?=some (Value.ref (ts[j]).1):=by simp[h]
   exact Ag (F.symm.trans this)
  subst Q;have U:=hg ts[j] (Pq h);obtain⟨c,f,g,_⟩:=id az;have y:∃o,s.heap.get? D=some o/\o.cls=.type "dict":=by
   obtain⟨o,es,ep,M,hc,_⟩:=hd;exact⟨o,M,hc.1⟩
  have i:∀b o,b≠D->b≠I->s.heap.get? b=some o->h1.get? b=some o:=fun b o _ hb e=>d b o (by simpa using hb) e;have S:∀x∈ts,Good knd h1 x:=fun x hx=>Ge (o:=c) (hg x hx) y ⟨c,f,g⟩ i;have T:h1.DictOfH (tupleKind knd) D xs:=Gf hd p ⟨c,f,g⟩ fun b o hb e=>d b o (by simpa using hb) e;obtain⟨N,O⟩:=S ts[j] (Pq h);dsimp only;refine Aa (AD (Aa (wpAny_tryCatch (pair_items (s:={s with heap:=h1,toks:=tk}) N ?_))));dsimp only;refine AD (wpAny_dictSet_heap (knd:=tupleKind knd) (s:={s with heap:=h1,toks:=tk}) (hsz:=by omega) (tupleKind_room_in1 hu) O T fun h2 G sb=>?_);have C:∀b o,b≠D->b≠I->s.heap.get? b=some o->h2.get? b=some o:=fun b o hb hi e=>by rw[sb.2 b hb];exact i b o hb hi e
  have l:h2.IsListIter I L (j+1):=u.1.at fun o e=>by rw[sb.2 I (Ne.symm p)];exact e
  have q:h2.IsList L (ts.map fun x=>Value.ref x.1).toArray:=u.2.at fun o e=>by rw[sb.2 L E];exact e
  refine Ae ⟨Bb rY _,?_⟩;refine Gg hh hu p E r k (j+1) {s with heap:=h2,toks:=_} _ ω ω l q (fun x hx=>Ge (o:=c) (hg x hx) y ⟨c,f,g⟩ C) G (by have:=Mc xs (ts[j]).2.1 (ts[j]).2.2.1 (ts[j]).2.2.2;omega) fun h' H J k3=>hQ h' H ?_ fun b o hb hi e=>k3 b o hb hi (C b o hb hi e);rw[PQ h];exact J
end
end DPr
end
section
namespace DPr
open PySem PyProof.Rows DCp
section
variable{prog:Program}{w:World}{A:Around}{E:Ω}{s:Shared}{K:Type}[DecidableEq K]{knd:KeyKind prog w K}
def zN{L:Addr}{o:Obj}{n:Nat}{ts:List (Pr K)}{Q:Ω}(hh:A.handled=none)(hu:A.units+2<cLine)(J:s.heap.get? L=some o)(hc:o.cls=.type "list")(M:o.data=.seq (ts.map fun x=>Value.ref x.1).toArray n)(Y:o.dict=none)(hg:∀x∈ts,Good knd s.heap x)(hz:ts.length<=sizeLine)(h:∀h' tk,h'.DictOfH (tupleKind knd) s⁻¹ (pj [] ts)->(∀b o,b<s⁻¹->s.heap.get? b=some o->h'.get? b=some o)->Q (.ref s⁻¹) {s with heap:=h',toks:=tk}):wpAny (model prog w) A (call (.type "dict") [.ref L]) Q E s:=by
 obtain⟨c,tl,kg⟩:=zG.mro;have q9:=zG.made;have bT:=zG.sub;refine wpAny_call (codeAny_of_tree ?_);show wpAny _ _ (callAny (.type "dict") _) _ _ _;refine Ae ⟨Code.quiet_builtin _ δ,A0 F.entry_type_call ?_⟩;rw[Around.under_plain (weight_type_call_type "dict" [.ref L] []) rfl];have h1:=zG.notType;have h2:=zG.canCreate;have tM:=L6 (.ref L)
 repeat(any_goals(first|assumption|wp_step))
 refine codeAny_mono (L9 (.ref L) (E:=E) (Q₁:=fun obj l=>obj=.ref s⁻¹/\l={s with heap:=s.heap.push {cls:=.type "dict",data:=.dict #[]}}) ⟨rfl,rfl⟩) fun r l hr=>?_;cases r with
 |error e=>exact hr
 |ok fl=>
  cases fl with
  |ret obj=>
   obtain⟨rfl,rfl⟩:=hr;have v:(s.heap.push {cls:=.type "dict",data:=.dict #[]}).get? s⁻¹=some {cls:=.type "dict",data:=.dict #[]}:=An _ rfl;have y:Shared.TypeIs {s with heap:=s.heap.push {cls:=.type "dict",data:=.dict #[]}} (.ref s⁻¹) "dict":=⟨_,v,rfl⟩;have BJ:=zG.init.lookup;have Cu:=zG.init.bind (.ref s⁻¹)
   repeat(any_goals(first|assumption|wp_step))
   refine codeAny_mono (codeAny_call_builtin (R:=wants (fun r p=>r=.none/\∃h' tk,p={s with heap:=h',toks:=tk}/\h'.DictOfH (tupleKind knd) s⁻¹ (pj [] ts)/\
     (∀b o,b<s⁻¹->s.heap.get? b=some o->h'.get? b=some o)) E) zG.init.plain F.entry_dict_init (zG.init.check _ _ _ _ _ _ _ _ y (F.args_dict_init_2 _ _) ?_)) fun N p d=>?_
   ·have C:L<s⁻¹:=Am J
    have a:(s.heap.push {cls:=.type "dict",data:=.dict #[]}).get? L=some o:=Ad _ J;have X:Shared.TypeIs {s with heap:=s.heap.push {cls:=.type "dict",data:=.dict #[]}} (.ref L) "list":=⟨o,a,hc⟩;unfold Builtin.«dict.__init__»;refine Aa ?_;unfold Builtin.Dict.selfAndRest;refine Aa (wpAny_notOrdered_dict y ?_);refine Aa (show wpAny _ _ (pure s⁻¹) _ _ _ from Ae ?_);refine Ae ?_;show wpAny _ _ (Builtin.Dict.updateCommon "dict.__init__" "dict" s⁻¹ [Value.ref L] []) _ _ _;unfold Builtin.Dict.updateCommon Builtin.Dict.updateFrom;dsimp only;refine Aa (wpAny_typeOf X ?_);rw[Sa ξ];refine Aa (Mb (s:={s with heap:=s.heap.push {cls:=.type "dict",data:=.dict #[]}}) a hc M Y hh fun h2 q e2 f=>?_);rw[Sa (by rfl)];refine Aa (wpAny_rule ?_);have G:h2.IsList L (ts.map fun x=>Value.ref x.1).toArray:=⟨o,f.keeps _ _ a,hc,n,M⟩;refine Aa (wpAny_pyIter_list (s:={s with heap:=h2,toks:=q}) G ?_);have H:h2.get? s⁻¹=some {cls:=.type "dict",data:=.dict #[]}:=f.keeps _ _ v;have g:s⁻¹<h2.objs.size:=Am H;have i:∀b ob,h2.get? b=some ob->(h2.push {cls:=.type "list_iterator",data:=.fields #[.ref L,.int 0 0]}).get? b=some ob:=fun b ob e=>Ad _ e;have j:∀b ob,s.heap.get? b=some ob->(h2.push {cls:=.type "list_iterator",data:=.fields #[.ref L,.int 0 0]}).get? b=some ob:=fun b ob e=>i _ _ (f.keeps _ _ (Ad _ e));refine Ae ⟨Bb rY _,?_⟩;refine Gg (knd:=knd) (ts:=ts) (L:=L) (D:=s⁻¹) (I:=h2.objs.size) (by exact hh) (by first|exact hu|(show A.units+1<cLine;omega)) (Ar g) (Ar C) (Ar (QN C g)) ts.length 0 {s with heap:=h2.push {cls:=.type "list_iterator",data:=.fields #[.ref L,.int 0 0]},toks:=q} [] ω (AX _)
     ⟨_,An _ rfl,rfl,rfl⟩ (G.at fun ob e=>i _ _ e) (fun x hx=>?_) ⟨_,#[],0,i _ _ H,⟨rfl,rfl,rfl⟩,rfl,rfl,(fun x hx=>nomatch hx),PV⟩ (by simpa using hz) fun h' u dd k3=>⟨rfl,h',u,rfl,dd,fun b ob hb e=>k3 b ob (Ar hb) (Ar (QN hb g)) (j _ _ e)⟩
    obtain⟨⟨O,e1,P⟩,S,it,m,e2,T⟩:=hg x hx;exact⟨⟨O,j _ _ e1,P⟩,S,it,m,j _ _ e2,T⟩
   ·cases N with
    |error e=>exact d
    |ok fl₂=>
     cases fl₂ with
     |ret r=>
      obtain⟨rfl,h',u,rfl,U,W⟩:=d
      repeat(any_goals(first|assumption|wp_step))
      exact h _ _ U W
     |_=>exact d.elim
  |_=>exact hr.elim
end
end DPr
namespace L2
open PySem PySem.Spec PyProof.Rows
def rZ(kvs:List (List Key×V)):List (List Key×V):=kvs.foldl (fun acc kv=>putK acc kv.1 kv.2) []
section
variable{X:Cx}
def Gh:∀(kvs acc:List (List Key×V)),(kvs.foldl (fun acc kv=>putK acc kv.1 kv.2) acc).length<=acc.length+kvs.length
 |[],acc=>by simp
 |kv::r,acc=>by
  rw[Qn];have h1:=Gh r (putK acc kv.1 kv.2);have h2:=xp acc kv.1 kv.2;rw[At];omega
def zN(hc:X.calm=true)(hu:X.A.units+64<cLine):dy X (.type "dict") (fun xs H Q=>∃(l:Addr)(ts:List Addr)(kvs:List (List Key×V)),xs=[.ref l]/\SqL X.K H l (ts.map V.ref)/\
  Paired (fun t(kv:List Key×V)=>∃b,H t=some (.tup [.ref b,kv.2])/\H b=some (.tup (kv.1.map kV))) ts kvs/\∀D,H D=none->Q (.ref D) (upd H D (.dT (rZ kvs)))):=by
 intro aa s σ H xs us Q I r h;obtain⟨l,ts,kvs,rfl,hq,hp,q⟩:=h;obtain⟨u,rfl,f⟩:=vals1 r;cases f;obtain⟨ae,g,⟨o,n,e1,i,j,p⟩,hz⟩:=I.list hq;obtain rfl:=a8 g;have P:=AY hp;have get:∀{ts:List Addr}{kvs:List (List Key×V)},Paired (fun t(kv:List Key×V)=>∃b,H t=some (.tup [.ref b,kv.2])/\H b=some (.tup (kv.1.map kV))) ts kvs->
   ∃ps:List (DPr.Pr Key),ps.map (fun x=>Value.ref x.1)=ts.map Value.ref/\(∀x∈ps,DPr.Good (zr X.prog X.w) s.heap x)/\∀acc(ys:List (List Key×Addr×Value)),KT H acc ys->KT H (kvs.foldl (fun acc kv=>putK acc kv.1 kv.2) acc) (DPr.pj ys ps):=by
  intro ts kvs z
  induction z with
  |nil=>exact⟨[],rfl,(fun x hx=>nomatch hx),fun acc ys k=>k⟩
  |@cons t kv ts kvs hh t' ih=>
   obtain⟨ps,g1,g2,g3⟩:=ih;obtain⟨b,ht,hb⟩:=hh;obtain⟨ae,y,C,_⟩:=I.tuple (SqT.of (K:=X.K) ht);obtain⟨vs,e2,E⟩:∃v,ae=[.ref b,v]/\RelV kv.2 v:=by
    cases y with
    |cons ra rb=>
     cases rb with
     |cons rc rd=>
      cases rd;cases ra;exact⟨_,rfl,rc⟩
   subst e2;refine⟨(t,kv.1,b,vs)::ps,by rw[As,As,g1],fun x hx=>?_,fun acc ys k=>?_⟩
   ·rcases Pa.mp hx with rfl|hx
    ·exact⟨C,kz I.hok hb⟩
    ·exact g2 x hx
   ·exact g3 _ _ (k.put kv.1 hb E)
 obtain⟨ps,g1,g2,g3⟩:=get hp;have N:ps.length=kvs.length:=by
  have:=congrArg List.length g1;rw[Ab,Ab] at this;omega
 rw[Ab] at hz;refine DPr.zN (knd:=zr X.prog X.w) (ts:=ps) (n:=n) (I.ok.hd hc) ω e1 i (by rw[g1];exact p) j g2 ω fun h' tk dd d=>?_;have a:=g3 [] [] .nil;have c:H s⁻¹=none:=I.hok.fresh (Af _);obtain⟨F,es,ep,G,h2,J,L,O,M⟩:=dd;refine⟨.ref s⁻¹,_,I.laid (o:=.dT (rZ kvs)) (fun b u e=>d b u (Am e) e) (Af _) ⟨?_,?_,DPr.pj [] ps,a.keeps fun b ys e=>?_,F,es,ep,G,h2,J,L,M⟩,rfl,q _ c⟩
 ·have:=Gh kvs []
  unfold rZ;simp at this;omega
 ·exact beq_eq_false_iff_ne.mpr (AW I.big)
 ·rw[al (zg e c)];exact e
end
end L2
end
section
namespace L2
open PySem PySem.Spec PyProof.Rows
section
variable{X:Cx}
def Gi:dy X (.builtin "isinstance") (fun xs H Q=>∃n,xs=[.int n,.ty "int"]/\Q (.bl true) H):=by
 intro aa s σ H xs us Q I r h;obtain⟨n,rfl,q⟩:=h;obtain⟨u,c,rfl,a,b⟩:=vals2 r;cases b;exact El I a (.int n) (by first|rfl|kernel_rfl|decide +kernel) fun tk=>⟨.bl true,H,I.tok _,rfl,q⟩
def Gj:dy X (.builtin "isinstance") (fun xs H Q=>∃n,xs=[.int n,.ty "bool"]/\Q (.bl false) H):=by
 intro aa s σ H xs us Q I r h;obtain⟨n,rfl,q⟩:=h;obtain⟨u,c,rfl,a,b⟩:=vals2 r;cases b;exact El I a (.int n) (by first|rfl|kernel_rfl|decide +kernel) fun tk=>⟨.bl false,H,I.tok _,rfl,q⟩
end
end L2
end
section
namespace K66
open K1
open PySem L2 STb
abbrev Ch:Type:=List (List Int×Int)
def ksC(cs:Ch):Ξ:=cs.map (·.1)
def aL(cs:Ch):List (List Key×V):=cs.map fun c=>((c.1.map Sum.inl:List Key),V.int c.2)
def bV(cs:Ch)(ps:List Int)(n:Int):Ch:=if ps∈ksC cs then cs.map (fun c=>if c.1=ps then(c.1,n) else c) else cs++[(ps,n)]
def gk(cs:Ch):(aL cs).length=cs.length:=Ab _
def gr(cs:Ch):(ksC cs).length=cs.length:=Ab _
def mO(cs:Ch)(ps:List Int)(n:Int):putK (aL cs) (ps.map Sum.inl) (.int n)=aL (bV cs ps n):=by
 unfold putK aL bV;have ha:((cs.map fun c=>((c.1.map Sum.inl:List Key),V.int c.2)).any fun kv=>decide (kv.1=ps.map Sum.inl))=decide (ps∈ksC cs):=by
  rw[List.any_map]
  by_cases h:ps∈ksC cs
  ·rw[Sc h,Qs]
   obtain⟨c,hc,e⟩:=Bp.mp h;exact⟨c,hc,Sc (gg.mpr e)⟩
  ·rw[Sd h,Q5]
   intro c hc;simp only[Function.comp,decide_eq_true_eq,gg];rintro rfl;exact h (Bp.mpr ⟨c,hc,rfl⟩)
 rw[ha]
 by_cases h:ps∈ksC cs
 ·rw[Sc h,Sa rfl,Sa h,Aj,Aj]
  refine AA fun c hc=>?_;simp only[Function.comp]
  by_cases e:c.1=ps
  ·rw[Sa e,Sa (gg.mpr e)]
  ·rw[Sb e,Sb (fun z=>e (gg.mp z))]
 ·rw[Sd h,Sb (by simp),Sb h,Ak]
  rfl
def Gm(cs:Ch)(ps:List Int)(n:Int):ksC (bV cs ps n)=if ps∈ksC cs then ksC cs else ksC cs++[ps]:=by
 unfold bV
 by_cases h:ps∈ksC cs
 ·rw[Sa h,Sa h]
  unfold ksC;rw[Aj];refine AA fun c _=>?_;simp only[Function.comp];split<;>rfl
 ·rw[Sb h,Sb h]
  unfold ksC;rw[Ak]
  rfl
def Go{cs:Ch}(ps:List Int)(n:Int)(h:(ksC cs).Nodup):(ksC (bV cs ps n)).Nodup:=by
 rw[Gm]
 by_cases e:ps∈ksC cs
 ·rw[Sa e];exact h
 ·rw[Sb e,Pk]
  refine⟨h,by simp,fun a ha b hb z=>?_⟩;rw[Pb] at hb;subst hb;subst z;exact e ha
def putC_mem{cs:Ch}{ps q:List Int}{n:Int}(h:q∈ksC (bV cs ps n)):q∈ksC cs\/q=ps:=by
 rw[Gm] at h
 by_cases e:ps∈ksC cs
 ·rw[Sa e] at h;exact .inl h
 ·rw[Sb e] at h
  rcases Pe.mp h with h|h
  ·exact .inl h
  ·exact .inr (Pb.mp h)
def Gq(cs:Ch)(ps:List Int)(n:Int):(bV cs ps n).length<=cs.length+1:=by
 unfold bV;split
 ·rw[Ab];omega
 ·rw[Ap];simp
def zY:∀{cs:Ch},(ksC cs).Nodup->∀c∈cs,bv (aL cs) (c.1.map Sum.inl)=some (.int c.2)
 |[],_,c,hc=>absurd hc (by simp)
 |d::cs,h,c,hc=>by
  have h':(d.1::ksC cs).Nodup:=h;rw[Pg] at h';unfold bv aL;rw[As,PL];rcases Pa.mp hc with rfl|hc
  ·rw[Sc rfl];rfl
  ·have a:¬d.1.map Sum.inl=(c.1.map Sum.inl:List Key):=fun z=>h'.1 (by rw[gg.mp z];exact Bp.mpr ⟨c,hc,rfl⟩)
   rw[Sd a];exact zY h'.2 c hc
def hF{H:Hp}{cs:Ch}{bs:List Addr}(h:Paired (fun(p:List Key×V) b=>H b=some (.tup (p.1.map kV))) (aL cs) bs):Tps H bs (ksC cs):=by
 unfold aL at h;unfold ksC
 induction cs generalizing bs with
 |nil=>cases h;exact .nil
 |cons x l ih=>
  rw[As] at h;cases h with
  |cons r t=>
   refine .cons ?_ (ih t);show H _=_;rw[r,Aj]
   rfl
abbrev dm(c:List Int×Int):Bool:=!decide (V.int c.2=V.int 0)
abbrev pk:Stmt:=top 16
abbrev jq:Stmt:=top 17
def Cq(H:Hp)(t:Addr)(c:List Int×Int):Prop:=∃b,H t=some (.tup [.ref b,.int c.2])/\Tp H b c.1
def Prs(H:Hp)(ts:List Addr)(cs:Ch):Prop:=Paired (Cq H) ts cs
def Prs.same{H H':Hp}{ts:List Addr}{cs:Ch}(h:Prs H ts cs)(s:Same H H'):Prs H' ts cs:=Paired.mapP h fun _ _ ⟨b,e1,e2⟩=>⟨b,s _ _ e1,s.tp e2⟩
def Prs.length{H:Hp}{ts:List Addr}{cs:Ch}(h:Prs H ts cs):ts.length=cs.length:=AY h
def Prs.upd{H:Hp}{d:Addr}{o o':HO}{ts:List Addr}{cs:Ch}(h:Prs H ts cs)(hd:H d=some o')(a:∀xs,o'≠.tup xs):Prs (L2.upd H d o) ts cs:=
 Paired.mapP h fun t c ⟨b,e1,e2⟩=>⟨b,by rw[al (a7 e1 hd fun z=>a _ z.symm)];exact e1,by show L2.upd H d o b=_;rw[al (a7 (show H b=some _ from e2) hd fun z=>a _ z.symm)];exact e2⟩
def Prs.snoc{H:Hp}{ts:List Addr}{cs:Ch}{t:Addr}{c:List Int×Int}(h:Prs H ts cs)(q:Cq H t c):Prs H (ts++[t]) (cs++[c]):=Paired.snoc h q
def Prs.append{H:Hp}{ts us:List Addr}{cs ds:Ch}(h:Prs H ts cs)(q:Prs H us ds):Prs H (ts++us) (cs++ds):=by
 induction h with
 |nil=>exact q
 |cons r t ih=>exact .cons r ih
def Prs.get{H:Hp}:∀{ts:List Addr}{cs:Ch}{i:Nat}{t:Addr},Prs H ts cs->ts[i]?=some t->∃c,cs[i]?=some c/\Cq H t c
 |_,_,0,_,.cons h _,e=>by cases e;exact⟨_,rfl,h⟩
 |_,_,i+1,_,.cons _ t,e=>Prs.get (i:=i) t (by simpa using e)
def am(cs:Ch)(q:List Int):Int:=((cs.find? fun c=>decide (c.1=q)).map (·.2)).getD 0
def CD(cs:Ch)(q:List Int):(bv (aL cs) (q.map Sum.inl)).getD (.int 0)=.int (am cs q):=by
 unfold bv am aL
 induction cs with
 |nil=>rfl
 |cons c r ih=>
  rw[As,PL,PL]
  by_cases e:c.1=q
  ·rw[Sc e,Sc (gg.mpr e)];rfl
  ·rw[Sd e,Sd (fun z=>e (gg.mp z))];exact ih
def jr(acc:Ch)(t:List Int×Int):Ch:=bV acc t.1 (am acc t.1+t.2)
def bd(ts:Ch):Ch:=ts.foldl jr []
def cX(ts:Ch):Ch:=(bd ts).filter dm
def pl(ts:Ch)(t:List Int×Int):bd (ts++[t])=jr (bd ts) t:=by unfold bd;rw[Qk];rfl
def r_{c:Type}{P:List c->Prop}(d:P [])(e:∀l x,P l->P (l++[x]))(l:List c):P l:=by
 have:∀n,∀l:List c,l.length=n->P l:=by
  intro n
  induction n with
  |zero=>intro l a;rw[Pf a];exact d
  |succ n ih=>
   intro l a;have b:l≠[]:=fun z=>by rw[z] at a;simp at a
   rw[<-List.dropLast_concat_getLast b];exact e _ _ (ih _ (by rw[List.length_dropLast];omega))
 exact this _ l rfl
def sd(ts:Ch):(ksC (bd ts)).Nodup:=r_ (P:=fun ts=>(ksC (bd ts)).Nodup) PV (fun l x h=>by rw[pl];exact Go _ _ h) ts
def pq(ts:Ch):(bd ts).length<=ts.length:=r_ (P:=fun ts=>(bd ts).length<=ts.length) (Af _) (fun l x h=>by
 rw[pl,Ap];have:=Gq (bd l) x.1 (am (bd l) x.1+x.2);unfold jr;simp;omega) ts
def CF{cs:Ch}{q:List Int}(v:Int)(h:q∉ksC cs):bV cs q v=cs++[(q,v)]:=by unfold bV;rw[Sb h]
def sg(k:Nat)(n:Int):Int:=if(k:Int)%2=0 then n else -n
def br(ps:List Int)(n:Int):Ch:=(rims ps).zipIdx.map fun q=>(q.1,sg q.2 n)
def si(ps:List Int)(n:Int):(br ps n).length=(rims ps).length:=by unfold br;rw[Ab,RE]
abbrev Gr:TE:=dk (dh (aw 1) (dh (Eb (dN (bC ko (bC (rI (fun _ j=>0<j) fun i j=>.int (i%j)) (aw 0) (tC (.int 2))) (tC (.int 0)))) (aw 2) (vD (rU fun i=>.int (-i)) (aw 2))) bD))
section
variable{P:Program}{w:World}{K:Ac}{mg:Str->Option Value}{base:Heap}
def Md{H2:Hp}{L D:Addr}{as:List Addr}{f:Ξ}{n:Int}{Q:VK}(u:H2 L=some (.lst (as.map V.ref)))(ht:Tps H2 as f)(hz:f.length<=1000)(A:H2 D=none)(k:∀(b:Hp)(ts:List Addr),Same H2 b->b D=some (.lst (ts.map V.ref))->Prs b ts (f.zipIdx.map fun q=>(q.1,sg q.2 n))->Q (.ref D) b):zU (mx K L) (i3 K 2 (kj (zK 0) (kj (zK 1) i0))) cQ Gr [none,none,some (.int n)] H2 D Q:=by
 have I:=ht.length;refine kH as.length (fun j σ ys b=>∃(c d:Option V)(ts:List Addr),σ=[c,d,some (.int n)]/\Same H2 b/\b D=some (.lst ys)/\ys=ts.map V.ref/\Prs b ts ((f.zipIdx.map fun q=>(q.1,sg q.2 n)).take j)) ?_ ?_ ?_ ?_ ?_
 ·exact⟨none,none,[],rfl,Same.new A,ag,rfl,.nil⟩
 ·rintro σ ys b ⟨c,d,ts,rfl,sm,h,rfl,hp⟩
  exact⟨_,SqL.of (sm _ _ u),by rw[Ab]⟩
 ·rintro i σ ys b hi ⟨c,d,ts,rfl,sm,h,rfl,hp⟩
  exact⟨_,SqL.of (sm _ _ u),by rw[Ab];exact hi⟩
 ·rintro i σ ys b x H' hi hy ⟨c,d,ts,rfl,sm,h,rfl,hp⟩ ⟨p,y,rfl,E,rfl,F⟩
  have J:=F _ (SqL.of (sm _ _ u));obtain⟨a,G,rfl⟩:=zL J;obtain⟨r,H,hr⟩:=ht.get G;have M:=Same.new (o:=.tup [.int i,.ref a]) E;have e:(f.zipIdx.map fun q=>(q.1,sg q.2 n))[i]?=some (r,sg i n):=by rw[Ai,Ro,H];simp
  have N:as.length<=sizeLine:=ze ω;have fin:∀(t:Addr)(v:Int),v=sg i n->upd b p (.tup [.int i,.ref a]) t=none->eI as.length (fun j σ ys b=>∃(c d:Option V)(ts:List Addr),σ=[c,d,some (.int n)]/\Same H2 b/\b D=some (.lst ys)/\ys=ts.map V.ref/\Prs b ts ((f.zipIdx.map fun q=>(q.1,sg q.2 n)).take j)) D i [some (.int i),some (.ref a),some (.int n)] (.ref t) (upd (upd b p (.tup [.int i,.ref a])) t (.tup [.ref a,.int v])):=by
   intro t v C g;have l:=M.trans (Same.new (o:=.tup [.ref a,.int v]) g);have w:=l _ _ h;refine bw N hi hy w ⟨_,_,ts++[t],rfl,(sm.trans l).then A,ag,by rw[Ak];rfl,?_⟩;rw[AC e];exact Prs.upd (Prs.snoc (hp.same l) ⟨a,by rw[ag,C],l.tp (sm.tp hr)⟩) w (by intro xs z;cases z)
  refine⟨p,_,rfl,SqT.of ag,rfl,_,_,rfl,_,_,rfl,rfl,kX ?_⟩;refine⟨_,rfl,_,rfl,_,_,rfl,rfl,(by show(0:Int)<2;decide),rfl,_,rfl,?_⟩
  by_cases hk:(i:Int)%2=0
  ·rw[Sc (congrArg V.int hk)]
   exact a6 ⟨_,rfl,ze (by simp),fun t g=>fin t n (by unfold sg;rw[Sa hk]) g⟩
  ·rw[Sd (fun z=>hk (by injection z))]
   exact aN ⟨_,rfl,_,rfl,ze (by simp),fun t g=>fin t (-n) (by unfold sg;rw[Sb hk]) g⟩
 ·rintro σ ys b ⟨c,d,ts,rfl,sm,h,rfl,hp⟩
  rw[I,AB (by rw[Ab,RE];exact Af _)] at hp;exact k b ts sm h hp
def Gu:Sp:=fun vs H Q _=>∃a ps n,vs=[.ref a,.int n]/\Tp H a ps/\ps.length<=5/\∀D H2(ts:List Addr),Same H H2->H D=none->H2 D=some (.lst (ts.map V.ref))->Prs H2 ts (br ps n)->Q (.ref D) H2
def Me:zm ["piece","often"] ["piece","often"] (zb pk):=⟨rfl,rfl,rfl,δ,rfl,δ,δ⟩
def Mf{f fr:Addr}{fd b:FuncData}(F:Fun K "seam_terms" "seam_terms" pk f fd)(B:Bt mg)(Fr:Fun K "rims_of" "rims_of" oY fr b)(r:Binds K b ["piece"] [])(u:mg "rims_of"=some (.ref fr)):FnOk P w K mg base aR 2 f fd ["piece","often"] Gu:=by
 have x:FnOk P w K mg base aR 1 fr b ["piece"] mF:=F5 Fr B;refine F.ok Me (fun vs H Q E h=>?_) (fun cdv A outer s H vs Q E hr h=>?_)
 ·obtain⟨a,ps,n,rfl,_⟩:=h;rfl
 ·obtain⟨a,ps,n,rfl,ha,q,k⟩:=h
  refine⟨_,zf (zo (zq ["piece","often"] ["k","rim","often"] [none,none,some 1] (yz rfl B.enumerate A_ (ac (zR x hr rfl u Fr.kp r .nil aH (ac (pv 0) ak)) ak))
   (fun c C s₀ H₀ ex=>nP rfl (zW (zi (i:=0) (cJ ["k","rim","often"]) rfl (Or.inl rfl)) (zW (zi (i:=1) (cJ ["k","rim","often"]) rfl (Or.inl rfl)) lS)))
   (fun c C s₀ H₀ ex=>zX) (fun c C s₀ H₀ ex=>eZ (ac (pv 1) (ac (IS (zl ew (zn eX (pv 0) zd) zd (ax _)) (pv 2) (l0 l3 (pv 2))) ak)))
   (hfr:=bx (zb pk) δ) (g:=i3 K 2 (kj (zK 0) (kj (zK 1) i0))) (te:=Gr))),?_⟩
  have y:=j9 ps;exact⟨_,rfl,a,ps,rfl,ha,q,fun L H1 bs d l e hb=>⟨L,rfl,⟨_,SqL.of e⟩,fun D j=>zt (Md e hb ω j fun v ts o p hp=>k D v ts (d.trans o) (d.free j) p hp)⟩⟩
def sk(K:Ac):Sp:=fun vs H Q _=>∃l ts cs,vs=[.ref l]/\SqL K H l (ts.map V.ref)/\Prs H ts cs/\cs.length<=1000/\∀D H',Same H H'->H D=none->H' D=some (.dT (aL (cX cs)))->Q (.ref D) H'
def mP:zm ["terms","sums","piece","weight","told"] ["terms"] (zb jq):=⟨rfl,rfl,rfl,δ,rfl,δ,δ⟩
def Mg{f:Addr}{fd:FuncData}(F:Fun K "sum_of" "sum_of" jq f fd):FnOk P w K mg base aR 1 f fd ["terms"] (sk K):=by
 refine F.ok mP (fun vs H Q E h=>?_) (fun cdv A outer s H vs Q E hr h=>?_)
 ·obtain⟨l,ts,cs,rfl,_⟩:=h;rfl
 ·obtain⟨l,ts,cs,rfl,hl,hp,hz,k⟩:=h
  have hu:=fK hr;have pG:=hp.length;refine⟨_,za (zk (i:=1) mP.nd rfl (Or.inl rfl) ja)
   (za (el AK rfl (zu (pv 0)) (nP rfl (zW (zi (i:=2) mP.nd rfl (Or.inl rfl)) (zW (zi (i:=3) mP.nd rfl (Or.inl rfl)) lS)))
    (zf (hB hu (pv 1) (pv 2) (zn dL (x5 hu (pv 1) (pv 2) zd ⟨rfl,rfl,rfl,rfl⟩) (pv 3)) rfl)))
   (za (zk (i:=4) mP.nd rfl (Or.inl rfl) ja)
   (za (el AK rfl (rT (pv 1)) (zi (i:=2) mP.nd rfl (Or.inl rfl))
    (zf (cT (zl jJ (zC hu (pv 1) (pv 2) (fun _ _=>rfl)) zd (ax _)) (zf (hB hu (pv 4) (pv 2) (zC hu (pv 1) (pv 2) (fun _ _=>rfl)) rfl)) zv)))
   (zf (zo (pv 4)))))),?_⟩
  intro d hd;refine⟨_,rfl,l,rfl,⟨_,(Same.new hd).seq hl⟩,iv (K:=K) (a:=l) (xs:=ts.map V.ref) (fun i σ H2=>∃(y J:Option V),σ=[some (.ref l),some (.ref d),y,J,none]/\Same H H2/\H2 d=some (.dT (aL (bd (cs.take i)))))
   ⟨none,none,rfl,Same.new hd,ag⟩ (fun i σ H2 _ ⟨_,_,_,sm,_⟩=>sm.seq hl) ?_ ?_⟩
  ·rintro i x σ H2 hx ⟨y,J,rfl,sm,r⟩
   obtain⟨t,et,rfl⟩:=zL hx;obtain⟨c,D,b,e1,e2⟩:=hp.get et;have qt:H2 b=some (.tup ((c.1.map Sum.inl:List Key).map kV)):=by rw[Aj];exact sm.tp e2
   have q:(aL (bd (cs.take i))).length<sizeLine:=by
    rw[gk];have:=pq (cs.take i);rw[Aw] at this;exact zP ω
   refine⟨t,_,rfl,SqT.of (sm _ _ e1),rfl,_,_,rfl,_,_,rfl,rfl,?_⟩;refine⟨_,rfl,d,rfl,.inr ⟨_,.inl r⟩,_,rfl,_,DGet.t (k:=c.1.map Sum.inl) r qt,?_⟩;rw[CD];refine⟨_,rfl,_,_,rfl,rfl,_,rfl,_,rfl,d,_,rfl,DPut.t (k:=c.1.map Sum.inl) r qt q,⟨_,_,rfl,sm.then hd,?_⟩⟩;rw[ag,mO,AC D,pl]
   rfl
  ·rintro σ H2 ⟨y,J,rfl,sm,r⟩
   rw[Ab,pG,take_all] at r;intro T hT;have U:H T=none:=sm.free hT;have O:d≠T:=zg r hT;have W:=sd cs;have ir:=pq cs;unfold cX at k;generalize bd cs=p at r W ir k;refine⟨_,rfl,d,aL p,rfl,.inl (by rw[al O];exact r),fun o H3 i5 bL=>Ga (fun i σ v=>∃(y:Option V),σ=[some (.ref l),some (.ref d),y,J,some (.ref T)]/\Same H v/\v d=some (.frz o (.dT (aL p)))/\v T=some (.dT (aL ((p.take i).filter dm))))
    ⟨_,rfl,fun b u e=>by rw[bL b (zg e hd),al (zg e U)];exact sm _ _ e,i5,by rw[bL T (Ne.symm O)];exact ag⟩ (fun i σ v _ ⟨_,_,_,h,_⟩=>h) ?_ ?_⟩
   ·rintro i kv b σ v L hb ⟨y,rfl,M,N,G⟩
    have hi:i<p.length:=by
     have:=(KK.mp L).1;rw[gk] at this;exact this
    have D:p[i]?=some p[i]:=Ah hi;obtain rfl:(((p[i]).1.map Sum.inl:List Key),V.int (p[i]).2)=kv:=by
     unfold aL at L;rw[Ai,D] at L;exact Ag L
    have I:p[i]∈p:=Pq hi;have g_:(p[i]).1∉ksC ((p.take i).filter dm):=fun z=>by
     obtain⟨c',hc',e'⟩:=Bp.mp z;obtain⟨j,S⟩:=QK ((Pd.mp hc').1);have X:j<i:=by
      have:=(KK.mp S).1;rw[Aw] at this;omega
     rw[PU X] at S;have h1:(ksC p)[j]?=some (p[i]).1:=by unfold ksC;rw[Ai,S];exact congrArg some e'
     have h2:(ksC p)[i]?=some (p[i]).1:=by unfold ksC;rw[Ai,D];rfl
     have Y:j<(ksC p).length:=by rw[gr];omega
     have:=(PR Y W).mp (h1.trans h2.symm);omega
    have q:(aL ((p.take i).filter dm)).length<sizeLine:=by
     rw[gk];have:=PF dm (p.take i);rw[Aw] at this;exact zP ω
    have g:DGet v d (.ref b) (some (.int (p[i]).2)):=.inr ⟨aL p,(p[i]).1.map Sum.inl,b,.inr ⟨o,N⟩,rfl,hb,(zY W _ I).symm⟩;have xZ:T≠d:=Ne.symm O;refine⟨_,rfl,_,rfl,d,_,rfl,g,rfl,_,rfl,?_⟩;cases hz0:dm p[i] with
    |true=>
     have C:(!decide (V.int (p[i]).2=V.int 0))=true:=hz0;rw[C];refine a6 ⟨_,rfl,_,rfl,d,_,rfl,g,_,rfl,_,rfl,T,_,rfl,DPut.t (k:=(p[i]).1.map Sum.inl) G hb q,⟨_,rfl,M.then U,by rw[al O];exact N,?_⟩⟩;rw[ag,mO,CF _ g_,AC D,AJ,Pj hz0]
     rfl
    |false=>
     have C:(!decide (V.int (p[i]).2=V.int 0))=false:=hz0;rw[C];refine aN ⟨_,rfl,M,N,?_⟩;rw[AC D,AJ,Pi (by rw[hz0];decide),PM,Po];exact G
   ·rintro σ v ⟨y,rfl,M,N,G⟩
    rw[gk,take_all] at G;exact⟨_,rfl,k T v M U G⟩
end
def zH(c:List Int×Int)(r:Ch)(x:List Int):am (c::r) x=if c.1=x then c.2 else am r x:=by
 unfold am;rw[PL]
 by_cases e:c.1=x
 ·rw[Sc e,Sa e];rfl
 ·rw[Sd e,Sb e]
def zB:∀{cs:Ch}{x:List Int},x∉ksC cs->am cs x=0
 |[],_,_=>rfl
 |c::r,x,h=>by
  rw[zH,Sb (fun z=>h (by unfold ksC;rw[As,z];exact Az))];exact zB fun z=>h (Ax _ z)
def v8(q:List Int)(v:Int)(x:List Int):∀cs:Ch,am (cs.map fun c=>if c.1=q then(c.1,v) else c) x=if x=q/\q∈ksC cs then v else am cs x
 |[]=>by simp[am,ksC]
 |c::r=>by
  rw[As,zH,zH,v8 q v x r];have hm:(q∈ksC (c::r))↔(c.1=q\/q∈ksC r):=by
   show q∈c.1::ksC r↔_;rw[Pa];constructor
   ·rintro(h|h)
    ·exact .inl h.symm
    ·exact .inr h
   ·rintro(h|h)
    ·exact .inl h.symm
    ·exact .inr h
  by_cases e:c.1=q
  ·rw[Sa e]
   by_cases f:x=q
   ·subst f
    rw[Sa e,Sa ⟨rfl,hm.mpr (.inl e)⟩]
   ·rw[Sb (fun z=>f (z.symm.trans e)),Sb (fun z=>f z.1),Sb (fun z=>f z.1),Sb (fun z=>f (z.symm.trans e))]
  ·rw[Sb e]
   by_cases f:c.1=x
   ·rw[Sa f,Sa f,Sb (fun z=>e (f.trans z.1))]
   ·rw[Sb f,Sb f]
    by_cases g:x=q/\q∈ksC r
    ·rw[Sa g,Sa ⟨g.1,hm.mpr (.inr g.2)⟩]
    ·rw[Sb g,Sb (fun z=>g ⟨z.1,(hm.mp z.2).resolve_left e⟩)]
def Gv(q:List Int)(v:Int)(x:List Int):∀cs:Ch,am (cs++[(q,v)]) x=if x∈ksC cs then am cs x else if q=x then v else 0
 |[]=>by simp[am,ksC];split<;>rfl
 |c::r=>by
  rw[List.cons_append,zH,zH,Gv q v x r]
  by_cases e:c.1=x
  ·rw[Sa e,Sa e,Sa (by show x∈c.1::ksC r;rw[e];exact Az)]
  ·rw[Sb e,Sb e]
   by_cases h:x∈ksC r
   ·rw[Sa h,Sa (show x∈ksC (c::r) from Ax _ h)]
   ·have a:¬x∈ksC (c::r):=fun z=>by
     rcases Pa.mp (show x∈c.1::ksC r from z) with z|z
     ·exact e z.symm
     ·exact h z
    rw[Sb h,Sb a]
def Gw(cs:Ch)(q:List Int)(v:Int)(x:List Int):am (bV cs q v) x=if x=q then v else am cs x:=by
 unfold bV
 by_cases h:q∈ksC cs
 ·rw[Sa h,v8]
  by_cases e:x=q
  ·rw[Sa ⟨e,h⟩,Sa e]
  ·rw[Sb (fun z=>e z.1),Sb e]
 ·rw[Sb h,Gv]
  by_cases e:x=q
  ·subst e
   rw[Sb h,Sa rfl,Sa rfl]
  ·rw[Sb e]
   by_cases g:x∈ksC cs
   ·rw[Sa g]
   ·rw[Sb g,Sb (fun z=>e z.symm),zB g]
def di(ts:Ch)(x:List Int):Int:=(ts.map fun c=>if c.1=x then c.2 else 0).sum
def Mh(ts:Ch)(t:List Int×Int)(x:List Int):di (ts++[t]) x=di ts x+if t.1=x then t.2 else 0:=by
 unfold di;rw[Ak,List.sum_append];simp
def so(ts:Ch)(t:List Int×Int)(x:List Int):di (t::ts) x=(if t.1=x then t.2 else 0)+di ts x:=by unfold di;rw[As,PN]
def Gx(ts us:Ch)(x:List Int):di (ts++us) x=di ts x+di us x:=by unfold di;rw[Ak,List.sum_append]
def Mi(x:List Int)(ts:Ch):am (bd ts) x=di ts x:=r_ (P:=fun ts=>am (bd ts) x=di ts x) rfl (fun l t h=>by
 rw[pl,Mh];unfold jr;rw[Gw]
 by_cases e:x=t.1
 ·subst e
  rw[Sa rfl,Sa rfl,h]
 ·rw[Sb e,Sb (fun z=>e z.symm),h];omega) ts
def sr(x:List Int):∀{cs:Ch},(ksC cs).Nodup->am (cs.filter dm) x=am cs x
 |[],_=>rfl
 |c::r,h=>by
  have h':(c.1::ksC r).Nodup:=h;rw[Pg] at h';have a:=sr x h'.2;cases hz:dm c with
  |true=>rw[Pj hz,zH,zH,a]
  |false=>
   have b:c.2=0:=by
    have:(!decide (V.int c.2=V.int 0))=false:=hz;have:=Se (by simpa using this:decide (V.int c.2=V.int 0)=true);injection this
   rw[Pi (by rw[hz];decide),zH,a]
   by_cases e:c.1=x
   ·rw[Sa e,b]
    exact zB (by rw[<-e];exact h'.1)
   ·rw[Sb e]
def sv(ts:Ch)(x:List Int):am (cX ts) x=di ts x:=by unfold cX;rw[sr x (sd ts),Mi]
def zF(ts:Ch):(ksC (cX ts)).Nodup:=(sd ts).sublist ((Qz (p:=dm) (l:=bd ts)).map _)
def CG(ts:Ch):(cX ts).length<=ts.length:=Ay (PF _ _) (pq ts)
def js:∀{cs:Ch},(ksC cs).Nodup->∀c∈cs,am cs c.1=c.2
 |[],_,c,h=>absurd h (by simp)
 |d::r,h,c,hc=>by
  have h':(d.1::ksC r).Nodup:=h;rw[Pg] at h';rw[zH];rcases Pa.mp hc with e|hc'
  ·rw[e,Sa rfl]
  ·rw[Sb (fun z=>h'.1 (by rw[z];exact Bp.mpr ⟨c,hc',rfl⟩))]
   exact js h'.2 c hc'
def Gy{ts:Ch}{c:List Int×Int}(h:c∈cX ts):c.2≠0/\di ts c.1=c.2:=by
 refine⟨fun z=>?_,?_⟩
 ·have:=(Pd.mp h).2
  have:(!decide (V.int c.2=V.int 0))=true:=this;rw[z] at this;exact absurd this ξ
 ·rw[<-sv]
  exact js (zF ts) c h
def Mj{ts:Ch}{x:List Int}(h:∀t∈ts,t.1≠x):di ts x=0:=by
 induction ts with
 |nil=>rfl
 |cons t r ih=>rw[so,Sb (h t Az),ih fun u hu=>h u (Ax _ hu)];rfl
def Ml{ts:Ch}{x:List Int}(h:di ts x≠0):∃t∈ts,t.1=x:=by
 refine Classical.byContradiction fun z=>h (Mj fun t ht e=>z ⟨t,ht,e⟩)
def mR(ts:Ch):Ch:=ts.foldl (fun acc t=>bV acc t.1 t.2) []
def Gz:∀(ts acc:Ch),(aL ts).foldl (fun acc kv=>putK acc kv.1 kv.2) (aL acc)=aL (ts.foldl (fun acc t=>bV acc t.1 t.2) acc)
 |[],_=>rfl
 |t::r,acc=>by
  show(aL r).foldl _ (putK (aL acc) (t.1.map Sum.inl) (.int t.2))=_;rw[mO];exact Gz r _
def sy(ts:Ch):rZ (aL ts)=aL (mR ts):=Gz ts []
def Mm{ps:List Int}(h:ps.Nodup):(rims ps).Nodup:=by
 unfold rims;split
 ·exact PV
 ·have key:∀j k,j<k->k<ps.length->ps.take j++ps.drop (j+1)≠ps.take k++ps.drop (k+1):=by
   intro j k d hk e;have e1:(ps.take j++ps.drop (j+1))[j]?=(ps.take k++ps.drop (k+1))[j]?:=by rw[e]
   rw[P8 (by rw[Aw];omega),Qd (by rw[Aw];omega),PU d,List.getElem?_drop,Aw,Nat.min_eq_left ω] at e1;rw[show j+1+(j-j)=j+1 from ω] at e1;have:=(PR ω h).mp e1;omega
  unfold List.Nodup;rw[AS];refine(List.nodup_range (n:=ps.length)).imp_of_mem fun{a b} ha hb c e=>?_;rw[PJ] at ha hb;rcases RF c with z|z
  ·exact key a b z hb e
  ·exact key b a z ha e.symm
def CH(ps:List Int)(n:Int):ksC (br ps n)=rims ps:=by
 unfold ksC br;rw[Aj];exact QV 0 (rims ps)
def Mn(ps:List Int)(n:Int)(x:List Int):di (br ps n) x=n*di (br ps 1) x:=by
 unfold br;generalize (rims ps).zipIdx=l
 induction l with
 |nil=>simp[di]
 |cons q r ih=>
  rw[As,As,so,so,ih,Int.mul_add]
  congr 1
  by_cases e:q.1=x
  ·rw[Sa e,Sa e]
   unfold sg;split<;>simp
  ·rw[Sb e,Sb e];simp
def GA(f:List Int×Int->Ch)(x:List Int):∀cs:Ch,di (cs.flatMap f) x=(cs.map fun c=>di (f c) x).sum
 |[]=>rfl
 |c::r=>by rw[Bf,Gx,As,PN,GA f x r]
abbrev CI:Stmt:=top 15
def Mo{H:Hp}{d b:Addr}{kvs:List (List Key×V)}{o:HO}(r:Rd H d (.dT kvs))(h:H b=some o)(h1:∀k,o≠.dT k)(h2:∀q k,o≠.frz q (.dT k)):b≠d:=by
 rintro rfl;rcases r with r|⟨q,r⟩
 ·exact h1 _ (Ag (h.symm.trans r))
 ·exact h2 _ _ (Ag (h.symm.trans r))
def zD.lst{H H':Hp}{d b:Addr}{kvs:List (List Key×V)}{xs:List V}(s:zD d H H')(r:Rd H d (.dT kvs))(h:H b=some (.lst xs)):H' b=some (.lst xs):=s _ _ (Mo r h (by intro k z;cases z) (by intro q k z;cases z)) h
def zD.freeD{H H':Hp}{d l:Addr}{u:HO}(s:zD d H H')(r:Rd H' d u)(h:H' l=none):H l=none:=by
 cases q:H l with
 |none=>rfl
 |some o=>
  have a:l≠d:=fun z=>by
   rw[z] at h;rcases r with r|⟨_,r⟩<;>rw[h] at r<;>cases r
  rw[s _ _ a q] at h;cases h
def zD.thenD{H H1:Hp}{d a:Addr}{o:HO}(e:zD d H H1)(h:H a=none):zD d H (L2.upd H1 a o):=fun b u hb q=>by rw[al (zg q h)];exact e b u hb q
def GB{cs:Ch}{i:Nat}{kv:List Key×V}(h:(aL cs)[i]?=some kv):∃c,cs[i]?=some c/\kv=((c.1.map Sum.inl:List Key),V.int c.2):=by
 unfold aL at h;rw[Ai] at h;cases e:cs[i]? with
 |none=>rw[e] at h;cases h
 |some c=>rw[e] at h;exact⟨c,rfl,(Ag h).symm⟩
def sA{H:Hp}{b:Addr}{ps:List Int}(h:H b=some (.tup ((ps.map Sum.inl:List Key).map kV))):Tp H b ps:=by rw[Aj] at h;exact h
def GC{cs:Ch}{i:Nat}{c:List Int×Int}(f:List Int×Int->Ch)(h:cs[i]?=some c):(cs.take (i+1)).flatMap f=(cs.take i).flatMap f++f c:=by rw[AC h,Rt];simp
def mS{cs:Ch}(h:∀c∈cs,c.1.length<=5):(cs.flatMap fun c=>br c.1 c.2).length<=5*cs.length:=by
 induction cs with
 |nil=>simp
 |cons c r ih=>
  rw[Bf,Ap,At,si];have:=ih fun d hd=>h d (Ax _ hd);have:=j9 c.1;have:=h c Az;omega
section
variable{P:Program}{w:World}{K:Ac}{mg:Str->Option Value}{base:Heap}
def GD:Sp:=fun vs H Q _=>∃d cs,vs=[.ref d]/\Rd H d (.dT (aL cs))/\(ksC cs).Nodup/\cs.length<=200/\(∀c∈cs,c.1.length<=5)/\
 ∀D H',zD d H H'->Rd H' d (.dT (aL cs))->H D=none->H' D=some (.dT (aL (cX (cs.flatMap fun c=>br c.1 c.2))))->Q (.ref D) H'
def CJ:zm ["chain","terms","piece"] ["chain"] (zb CI):=⟨rfl,rfl,rfl,δ,rfl,δ,δ⟩
def Mp{f M fs:Addr}{fd N O:FuncData}(F:Fun K "seam_of" "seam_of" CI f fd)(Ft:Fun K "seam_terms" "seam_terms" pk M N)(bt:Binds K N ["piece","often"] [])(mt:mg "seam_terms"=some (.ref M))(Gt:FnOk P w K mg base aR 2 M N ["piece","often"] Gu)(Fs:Fun K "sum_of" "sum_of" jq fs O)(bs:Binds K O ["terms"] [])(ms:mg "sum_of"=some (.ref fs))(Gs:FnOk P w K mg base aR 1 fs O ["terms"] (sk K)):FnOk P w K mg base aR 3 f fd ["chain"] GD:=by
 refine F.ok CJ (fun vs H Q E h=>?_) (fun cdv A outer s H vs Q E hr h=>?_)
 ·obtain⟨d,cs,rfl,_⟩:=h;rfl
 ·obtain⟨d,cs,rfl,hd,J,qe,y,k⟩:=h
  have hu:=fK hr;have cR:Room 1 _:=hr.mono ξ;have uR:Room 2 _:=hr.mono ξ;refine⟨_,za (zk (i:=1) CJ.nd rfl (Or.inl rfl) (zO ak))
   (za (el AK rfl (rT (pv 0)) (zi (i:=2) CJ.nd rfl (Or.inl rfl))
    (zf (fD (g0 Ph PySem.F.slot_list_extend PySem.F.type_list_extend JJ (pv 1) (ac (zR Gt uR rfl mt Ft.kp bt .nil aH (ac (pv 2) (ac (zC hu (pv 0) (pv 2) (fun _ _=>rfl)) ak))) ak)))))
   (zf (zo (zR Gs cR rfl ms Fs.kp bs .nil aH (ac (pv 1) ak))))),?_⟩
  refine⟨ze (by simp),fun L p=>?_⟩;have W:d≠L:=by
   rcases hd with r|⟨_,r⟩
   ·exact zg r p
   ·exact zg r p
  refine⟨_,rfl,d,aL cs,rfl,hd.same (Same.new p),fun o H3 i5 S=>Ga (fun i σ l=>∃(I:Option V)(ts:List Addr),σ=[some (.ref d),some (.ref L),I]/\zD d H l/\l d=some (.frz o (.dT (aL cs)))/\l L=some (.lst (ts.map V.ref))/\Prs l ts ((cs.take i).flatMap fun c=>br c.1 c.2))
   ⟨none,[],rfl,fun b u hb e=>by rw[S b hb,al (zg e p)];exact e,i5,by rw[S L (Ne.symm W)];exact ag,.nil⟩ (fun i σ l _ ⟨_,_,_,_,h,_⟩=>h) ?_ ?_⟩
  ·rintro i kv b σ l gi hb ⟨I,ts,rfl,C,q,v,x⟩
   obtain⟨c,U,rfl⟩:=GB gi;have a:=Ao U;have g:DGet l d (.ref b) (some (.int c.2)):=.inr ⟨aL cs,c.1.map Sum.inl,b,.inr ⟨o,q⟩,rfl,hb,(zY J c a).symm⟩;refine⟨_,rfl,.inl ⟨rfl,_,SqL.of v⟩,_,rfl,_,rfl,_,rfl,d,_,rfl,g,b,c.1,c.2,rfl,sA hb,y c a,fun D5 Y us j wp G T=>?_⟩;have hlt:=x.length;have sG:=T.length;have X:=mS (cs:=cs.take i) fun c hc=>y c (QJ hc);rw[Aw] at X;rw[si] at sG;have:=j9 c.1;have:=y c a;refine⟨L,D5,_,_,rfl,rfl,j _ _ v,G,by rw[Ab,Ab];exact ze ω,⟨_,ts++us,rfl,(C.trans (zD.of j)).thenD p,by rw[al W];exact j _ _ q,by rw[ag,Ak],?_⟩⟩;rw[GC _ U];exact Prs.upd ((x.same j).append T) (j _ _ v) (by intro xs z;cases z)
  ·rintro σ l ⟨I,ts,rfl,C,q,v,x⟩
   rw[gk,take_all] at x;have X:=mS y;refine⟨_,rfl,L,ts,_,rfl,SqL.of v,x,ω,fun D Y j c8 G=>?_⟩;exact k D Y (C.trans (zD.of j)) (.inr ⟨o,j _ _ q⟩) (C.freeD (.inr ⟨o,q⟩) c8) G
end
abbrev jt(cs:Ch):Ch:=cX (cs.flatMap fun c=>br c.1 c.2)
def tau(q x:List Int):Int:=di (br q 1) x
def lin(cs:Ch)(x:List Int):Int:=(cs.map fun c=>c.2*tau c.1 x).sum
def GE(c:List Int×Int)(r:Ch)(x:List Int):lin (c::r) x=c.2*tau c.1 x+lin r x:=by unfold lin;rw[As,PN]
def pu(cs:Ch)(x:List Int):am (jt cs) x=lin cs x:=by
 rw[sv,GA];unfold lin
 congr 1
 exact AA fun c _=>Mn c.1 c.2 x
def dl(x l:List Int):Int:=if l=x then 1 else 0
def sB(q x:List Int):tau q x=((rims q).zipIdx.map fun r=>sg r.2 1*dl x r.1).sum:=by
 unfold tau di br;rw[Aj]
 congr 1
 refine AA fun r _=>?_;show(if r.1=x then sg r.2 1 else 0)=sg r.2 1*dl x r.1;unfold dl
 by_cases e:r.1=x
 ·rw[Sa e,Sa e,Int.mul_one]
 ·rw[Sb e,Sb e,Rb]
def Mq(x:List Int):∀ps:List Int,ps.length<=5->lin (br ps 1) x=0
 |[],_=>by simp[lin,br,rims,AI,List.range.loop]
 |[a],_=>by simp[lin,br,rims]
 |[a,b],_=>by simp[lin,br,rims,sB,AI,List.range.loop]
 |[a,b,c],_=>by
  simp[lin,br,rims,sB,AI,List.range.loop,sg];omega
 |[a,b,c,d],_=>by
  simp[lin,br,rims,sB,AI,List.range.loop,sg];omega
 |[a,b,c,d,e],_=>by
  simp[lin,br,rims,sB,AI,List.range.loop,sg];omega
 |_::_::_::_::_::_::_,h=>by simp at h
def CK{cs:Ch}(h:(ksC cs).Nodup)(x:List Int):di cs x=am cs x:=by
 induction cs with
 |nil=>rfl
 |cons c r ih=>
  have h':(c.1::ksC r).Nodup:=h;rw[Pg] at h';rw[so,zH,ih h'.2]
  by_cases e:c.1=x
  ·rw[Sa e,Sa e,zB (by rw[<-e];exact h'.1)];omega
  ·rw[Sb e,Sb e];omega
end K66
end
section
namespace K1
def sg(q:List Int):Int:=1-2*(1-(q.length:Int)%2)
def GF{ad:Ξ}{q:List Int}:q∈canon ad↔q≠[]/\∃t∈ad,q.Sublist t:=by
 rw[FW,Ps];constructor
 ·rintro⟨t,ht,hq⟩
  exact⟨(j8.mp hq).1,t,ht,(j8.mp hq).2⟩
 ·rintro⟨h,t,ht,hq⟩
  exact⟨t,ht,j8.mpr ⟨h,hq⟩⟩
abbrev hol(t p:List Int):Bool:=(p.map fun x=>decide (x∈t)).all id
section
variable{ad:Ξ}{p:List Int}
def CL(hw:dY ad=true){q:List Int}(h:q∈canon ad):fv q=true:=by
 obtain⟨t,ht,hx⟩:=Ps.mp (FW.mp h);exact Ls ((BI hw).2.1 t ht) hx
abbrev cy(p t:List Int):List Int:=t.filter fun x=>decide (x∉p)
end
end K1
end
section
namespace K1
open PySem L2 STb
def iK(met:Ξ)(p:List Int):Bool:=fL p&&!decide (p∈met)&&(rims p).all fun r=>decide (r∈met)
def bo(l:Ξ):Prop:=∀i p,l[i]?=some p->iK (l.take i) p=true
def sE{met:Ξ}{p:List Int}:iK met p=true↔fv p=true/\p∉met/\∀r∈rims p,r∈met:=by
 unfold iK;rw[AF,AF,rz,Ra,decide_eq_false_iff_not,PP,and_assoc];exact and_congr_right fun _=>and_congr_right fun _=>⟨fun h r hr=>Se (h r hr),fun h r hr=>Sc (h r hr)⟩
def GG:bo []:=fun i p h=>by simp at h
def GH{l:Ξ}{p:List Int}(h:bo l)(a:iK l p=true):bo (l++[p]):=fun i q e=>by
 rcases QE i l.length with c|c
 ·rw[Qd c] at e
  rw[List.take_append_of_le_length ω];exact h i q e
 ·have hi:i=l.length:=by
   have:=(KK.mp e).1;rw[Ap,List.length_singleton] at this;omega
  subst hi;rw[P8 (Af _),Nat.sub_self] at e;cases e;rw[List.take_left']
  ·exact a
  ·rfl
def sI{l:Ξ}(h:bo l){p:List Int}(hp:p∈l):fv p=true/\∀r∈rims p,r∈l:=by
 obtain⟨i,e⟩:=Pc.mp hp;obtain⟨h1,_,a⟩:=sE.mp (h i p e);exact⟨h1,fun r hr=>QJ (a r hr)⟩
def Mr{l:Ξ}(h:bo l):l.Nodup:=by
 refine Qa.mpr (Pw.mpr fun i j hi a b e=>?_);refine(sE.mp (h j l[j] (Ah a))).2.1 (Pc.mpr ⟨i,?_⟩);rw[PU b,Ah hi,e]
end K1
end
section
namespace Bar
abbrev Ch:=Nat->Int
structure Pr(p:Int):Prop where
 two:2<=p
 two_way:∀a b,p ∣ a*b->p ∣ a\/p ∣ b
 into:∀w g,¬p ∣ w->∃k:Nat,(k:Int)<p/\p ∣ (k:Int)*w-g
def mz{n:Nat}(h2:2<=n)(h:∀a:Fin n,∀b:Fin n,(a.1*b.1)%n=0->a.1=0\/b.1=0)(hi:∀w:Fin n,∀g:Fin n,w.1=0\/∃k:Fin n,(k.1*w.1)%n=g.1):Pr (n:Int):=by
 have fin:∀a:Int,∃x:Fin n,(x.1:Int)=a%n:=fun a=>by
  have c:0<=a%(n:Int):=PZ _ ω;have h1:a%(n:Int)<n:=Px _ ω;exact⟨⟨(a%(n:Int)).toNat,ω⟩,by simp only;omega⟩
 refine⟨ω,fun a b hd=>?_,fun w g hw=>?_⟩
 ·obtain⟨x,hx⟩:=fin a
  obtain⟨y,hy⟩:=fin b;have e:(a*b)%(n:Int)=0:=QB hd;rw[R3,<-hx,<-hy] at e;have e2:(x.1*y.1)%n=0:=by exact_mod_cast e
  rcases h x y e2 with z|z
  ·left
   refine PH ?_;rw[<-hx,z];rfl
  ·right
   refine PH ?_;rw[<-hy,z];rfl
 ·obtain⟨x,hx⟩:=fin w
  obtain⟨y,hy⟩:=fin g;rcases hi x y with z|⟨k,hk⟩
  ·refine absurd (PH ?_) hw
   rw[<-hx,z];rfl
  ·refine⟨k.1,by exact_mod_cast k.2,?_⟩
   refine PH ?_;have e:((k.1:Int)*w)%n=g%n:=by
    rw[R3,<-hx,<-hy,<-hk]
    push_cast
    rw[R3,Int.emod_emod,<-R3]
   rw[Int.sub_emod,e,QF]
   rfl
def Ms:Pr 2:=mz (n:=2) ξ ξ ξ
def Mt:Pr 3:=mz (n:=3) ξ ξ ξ
def Mu:Pr 5:=mz (n:=5) ξ ξ ξ
def Mv:Pr 7:=mz (n:=7) ξ ξ ξ
def Z(p:Int)(f:Ch):Prop:=∀u,p ∣ f u
def Yg(p:Int)(f:Ch)(t:Nat):Prop:=¬p ∣ f t/\∀u,t<u->p ∣ f u
def Bl(p:Int)(f:Ch)(T:Nat):Prop:=∀u,T<=u->p ∣ f u
abbrev bj(f:Ch)(a:Int)(g:Ch):Ch:=fun u=>f u-a*g u
def lB{p a x y:Int}(h:p ∣ x)(k:p ∣ y):p ∣ x-a*y:=Pv h (AU k (A7 _ _))
def Mw{p a x y:Int}(h:p ∣ x-a*y)(k:p ∣ y):p ∣ x:=by
 have:=Bg h (AU k (A7 a y))
 rwa [Int.sub_add_cancel] at this
def Yg.uniq{p:Int}{f:Ch}{a b:Nat}(h:Yg p f a)(k:Yg p f b):a=b:=by
 rcases Nat.lt_trichotomy a b with z|z|z
 ·exact absurd (h.2 b z) k.1
 ·exact z
 ·exact absurd (k.2 a z) h.1
def Yg.not_z{p:Int}{f:Ch}{a:Nat}(h:Yg p f a):¬Z p f:=fun z=>h.1 (z a)
def Sp(p:Int):List (Nat×Ch)->Ch->Prop
 |[],f=>Z p f
 |r::L,f=>∃a,Sp p L (bj f a r.2)
def pw{p:Int}:∀{L:List (Nat×Ch)}{f g:Ch},(∀u,p ∣ f u-g u)->Sp p L g->Sp p L f
 |[],f,g,h,hg=>fun u=>by
  have:=Bg (h u) (hg u)
  rwa [Int.sub_add_cancel] at this
 |r::L,f,g,h,⟨a,hg⟩=>⟨a,pw (fun u=>by
   have e:bj f a r.2 u-bj g a r.2 u=f u-g u:=by show f u-a*r.2 u-(g u-a*r.2 u)=_;omega
   rw[e];exact h u) hg⟩
def jv{p:Int}:∀{L:List (Nat×Ch)}{f:Ch},Z p f->Sp p L f
 |[],f,h=>h
 |r::L,f,h=>⟨0,jv fun u=>by show p ∣ f u-0*r.2 u;rw[R4,Rc];exact h u⟩
def CM{p:Int}{r:Nat×Ch}{L:List (Nat×Ch)}{f:Ch}(h:Sp p L f):Sp p (r::L) f:=
 ⟨0,pw (fun u=>by
  have e:bj f 0 r.2 u-f u=0:=by show f u-0*r.2 u-f u=0;rw[R4];omega
  rw[e];exact Av _) h⟩
def sp_yg{p:Int}(P:Pr p):∀{L:List (Nat×Ch)},(L.map (·.1)).Nodup->(∀r∈L,Yg p r.2 r.1)->∀{f:Ch},Sp p L f->Z p f\/∃r∈L,Yg p f r.1
 |[],_,_,f,h=>.inl h
 |r::L,d,hy,f,⟨a,h⟩=>by
  rw[As,Pg] at d;have hr:=hy r (.head _);have b:∀u,f u=bj f a r.2 u+a*r.2 u:=fun u=>by show f u=f u-a*r.2 u+a*r.2 u;omega
  rcases sp_yg P d.2 (fun q hq=>hy q (.tail _ hq)) h with z|⟨q,hq,z⟩
  ·by_cases c:p ∣ a
   ·left
    intro u;rw[b u];exact Bg (z u) (AU c (Ql _ _))
   ·right
    refine⟨r,.head _,fun e=>?_,fun u hu=>?_⟩
    ·have:p ∣ a*r.2 r.1:=by
      have:=Pv e (z r.1)
      rwa [show f r.1-bj f a r.2 r.1=a*r.2 r.1 from by rw[b r.1];omega] at this
     rcases P.two_way _ _ this with k|k
     ·exact c k
     ·exact hr.1 k
    ·rw[b u]
     exact Bg (z u) (AU (hr.2 u hu) (A7 _ _))
  ·have g:q.1≠r.1:=fun e=>d.1 (e▸Ru hq)
   by_cases c:p ∣ a
   ·right
    refine⟨q,.tail _ hq,fun e=>z.1 ?_,fun u hu=>?_⟩
    ·exact dvd_of e c
    ·rw[b u]
     exact Bg (z.2 u hu) (AU c (Ql _ _))
   ·rcases RF g with lt|lt
    ·right
     refine⟨r,.head _,fun e=>?_,fun u hu=>?_⟩
     ·have k:=Pv e (z.2 r.1 lt)
      rw[show f r.1-bj f a r.2 r.1=a*r.2 r.1 from by rw[b r.1];omega] at k;rcases P.two_way _ _ k with k|k
      ·exact c k
      ·exact hr.1 k
     ·rw[b u]
      exact Bg (z.2 u ω) (AU (hr.2 u hu) (A7 _ _))
    ·right
     refine⟨q,.tail _ hq,fun e=>z.1 (lB e (hr.2 q.1 lt)),fun u hu=>?_⟩;rw[b u];exact Bg (z.2 u hu) (AU (hr.2 u ω) (A7 _ _))
where
 dvd_of {p a x y:Int} (e:p ∣ x) (c:p ∣ a):p ∣ x-a*y:=Pv e (AU c (Ql _ _))
structure Sm(p:Int)(S:Ch->Ch):Prop where
 lin:∀f a g u,S (bj f a g) u=S f u-a*S g u
 z:∀{f},Z p f->Z p (S f)
structure Row where
 b:Nat
 d:Option Nat
 r:Ch
 g:Ch
structure CN(p:Int)(S:Ch->Ch)(T:Nat)(x:Row):Prop where
 born:x.b<T
 yg:Yg p x.r x.b
 cyc:Z p (S x.r)
 gone:∀t,x.d=some t->t<T/\x.b<t/\Yg p x.g t/\∀u,p ∣ S x.g u-x.r u
structure Rows(p:Int)(S:Ch->Ch)(T:Nat)(L:List Row):Prop where
 ok:∀x∈L,CN p S T x
 nd:(L.map (·.b)).Nodup
 all:∀t,t<T->(∃x∈L,x.b=t)\/∃x∈L,x.d=some t
 one:∀x∈L,∀y∈L,y.d≠some x.b
 two:∀x∈L,∀y∈L,∀t,x.d=some t->y.d=some t->x=y
def CO{L:List Row}(a:(L.map (·.b)).Nodup){x y:Row}(hx:x∈L)(hy:y∈L)(e:x.b=y.b):x=y:=by
 induction L with
 |nil=>cases hx
 |cons q L ih=>
  rw[As,Pg] at a;rcases Pa.mp hx with rfl|hx'
  ·rcases Pa.mp hy with rfl|hy'
   ·rfl
   ·exact absurd (Bp.mpr ⟨y,hy',e.symm⟩) a.1
  ·rcases Pa.mp hy with rfl|hy'
   ·exact absurd (Bp.mpr ⟨x,hx',e⟩) a.1
   ·exact ih a.2 hx' hy'
def dl(t:Nat)(L:List Row):List (Nat×Ch):=(L.filter fun x=>match x.d with|some d=>decide (d<t)|none=>false).map fun x=>(x.b,x.r)
def dl_mem{t:Nat}{L:List Row}{q:Nat×Ch}:q∈dl t L↔∃x∈L,∃d,x.d=some d/\d<t/\q=(x.b,x.r):=by
 unfold dl;rw[Bp];constructor
 ·rintro⟨x,hx,rfl⟩
  rw[Pd] at hx;obtain⟨h1,h2⟩:=hx;cases e:x.d with
  |none=>rw[e] at h2;cases h2
  |some d=>rw[e] at h2;exact⟨x,h1,d,e,Se h2,rfl⟩
 ·rintro⟨x,hx,d,e,hd,rfl⟩
  refine⟨x,Pd.mpr ⟨hx,?_⟩,rfl⟩;rw[e];exact Sc hd
def dl_nd{t:Nat}{L:List Row}(a:(L.map (·.b)).Nodup):((dl t L).map (·.1)).Nodup:=by
 unfold dl;rw[Aj];exact List.Sublist.nodup (List.Sublist.map _ Qz) a
def CP{p a:Int}{x:Nat×Ch}:∀{L:List (Nat×Ch)}{f g:Ch},x∈L->(∀u,p ∣ bj g a x.2 u-f u)->Sp p L f->Sp p L g
 |r::L,f,g,hx,h,⟨k,hk⟩=>by
  rcases Pa.mp hx with rfl|hx
  ·refine⟨k+a,pw (fun u=>?_) hk⟩
   have e:bj g (k+a) x.2 u-bj f k x.2 u=bj g a x.2 u-f u:=by
    show g u-(k+a)*x.2 u-(f u-k*x.2 u)=g u-a*x.2 u-f u;rw[Int.add_mul];omega
   rw[e];exact h u
  ·refine⟨k,CP (a:=a) (f:=bj f k r.2) hx (fun u=>?_) hk⟩
   have e:bj (bj g k r.2) a x.2 u-bj f k r.2 u=bj g a x.2 u-f u:=by
    show g u-k*r.2 u-a*x.2 u-(f u-k*r.2 u)=g u-a*x.2 u-f u;omega
   rw[e];exact h u
def CQ{p:Int}{L':List (Nat×Ch)}:∀{L:List (Nat×Ch)}{f:Ch},(∀x∈L,x∈L')->Sp p L f->Sp p L' f
 |[],f,_,h=>jv h
 |r::L,f,hs,⟨a,h⟩=>CP (a:=a) (f:=bj f a r.2) (hs r (.head _)) (fun u=>by rw[QF];exact Av _) (CQ (fun x hx=>hs x (.tail _ hx)) h)
def sJ{p:Int}(P:Pr p){f g:Ch}{T:Nat}(hf:Bl p f (T+1))(b:Yg p g T):∃a:Int,Bl p (bj f a g) T/\(¬p ∣ f T->¬p ∣ a):=by
 obtain⟨k,_,hk⟩:=P.into (g T) (f T) b.1;refine⟨k,fun u hu=>?_,fun c ha=>c ?_⟩
 ·rcases Nat.eq_or_lt_of_le hu with rfl|hu
  ·have:=QL.mpr hk
   rwa [show -((k:Int)*g T-f T)=bj f k g T from by show _=f T-k*g T;omega] at this
  ·exact lB (hf u hu) (b.2 u hu)
 ·have h1:p ∣ (k:Int)*g T:=AU ha (Ql _ _)
  have:=Pv h1 hk
  rwa [show(k:Int)*g T-((k:Int)*g T-f T)=f T from ω] at this
def pz{p:Int}(P:Pr p){S:Ch->Ch}(c:Sm p S){T:Nat}{L:List Row}(R:Rows p S T L):∀t,t<=T->∀f,Bl p f t->Sp p (dl t L) (S f)
 |0,_,f,hf=>jv (c.z fun u=>hf u (AX _))
 |t+1,ht,f,hf=>by
  have more:∀x∈dl t L,x∈dl (t+1) L:=fun q hq=>by
   obtain⟨x,hx,d,e,hd,rfl⟩:=dl_mem.mp hq;exact dl_mem.mpr ⟨x,hx,d,e,ω,rfl⟩
  rcases R.all t ht with ⟨x,hx,rfl⟩|⟨x,hx,e⟩
  ·have o:=R.ok x hx
   obtain⟨a,ha,_⟩:=sJ P hf o.yg;refine pw (fun u=>?_) (CQ more (pz P c R _ ω _ ha));rw[c.lin];rw[show S f u-(S f u-a*S x.r u)=a*S x.r u from ω];exact AU (o.cyc u) (A7 _ _)
  ·have o:=(R.ok x hx).gone t e
   obtain⟨a,ha,_⟩:=sJ P hf o.2.2.1;refine CP (a:=a) (x:=(x.b,x.r)) (dl_mem.mpr ⟨x,hx,t,e,ω,rfl⟩) (fun u=>?_) (CQ more (pz P c R _ ω _ ha));rw[c.lin];rw[show bj (S f) a x.r u-(S f u-a*S x.g u)=a*(S x.g u-x.r u) from by show S f u-a*x.r u-(S f u-a*S x.g u)=_;rw[RP];omega];exact AU (o.2.2.2 u) (A7 _ _)
def Mx{p:Int}(P:Pr p){S:Ch->Ch}(j:Sm p S){T:Nat}{L:List Row}(R:Rows p S T L){c:Ch}{t:Nat}(hc:Bl p c T)(A:Z p (S c))(hy:Yg p c t):∃x∈L,x.b=t:=by
 have ht:t<T:=Nat.lt_of_not_le fun z=>hy.1 (hc t z);rcases R.all t ht with h|⟨x,hx,e⟩
 ·exact h
 ·exfalso
  have o:=(R.ok x hx).gone t e;obtain⟨a,ha,l⟩:=sJ P (T:=t) (f:=c) (g:=x.g) (fun u hu=>hy.2 u hu) o.2.2.1;have v:=l hy.1;have w:=pz P j R t ω _ ha;have ox:=(R.ok x hx).yg;have eq:∀u,p ∣ S (bj c a x.g) u+a*x.r u:=fun u=>by
   rw[j.lin];have h1:=lB (a:=a) (A u) (o.2.2.2 u)
   rwa [show S c u-a*(S x.g u-x.r u)=S c u-a*S x.g u+a*x.r u from by rw[RP];omega] at h1
  have i:Yg p (S (bj c a x.g)) x.b:=by
   refine⟨fun z=>?_,fun u hu=>?_⟩
   ·have k:=Pv (eq x.b) z
    rw[show S (bj c a x.g) x.b+a*x.r x.b-S (bj c a x.g) x.b=a*x.r x.b from ω] at k;rcases P.two_way _ _ k with k|k
    ·exact v k
    ·exact ox.1 k
   ·have k:=Pv (eq u) (AU (ox.2 u hu) (A7 a (x.r u)))
    rwa [show S (bj c a x.g) u+a*x.r u-a*x.r u=S (bj c a x.g) u from ω] at k
  rcases sp_yg P (dl_nd R.nd) (fun q hq=>by
   obtain⟨y,hy',d,e',hd,rfl⟩:=dl_mem.mp hq;exact(R.ok y hy').yg) w with z|⟨q,hq,z⟩
  ·exact i.not_z z
  ·obtain⟨y,hy',d,e',hd,rfl⟩:=dl_mem.mp hq
   have:=CO R.nd hx hy' (i.uniq z);subst this;rw[e] at e';cases e';omega
def Mz{p:Int}{S:Ch->Ch}{T:Nat}{L:List Row}(R:Rows p S T L){z g:Ch}(hz:Yg p z T)(hc:Z p (S z)):Rows p S (T+1) (L++[⟨T,none,z,g⟩]):=by
 have c:∀x∈L,CN p S (T+1) x:=fun x hx=>by
  have o:=R.ok x hx;exact⟨by have:=o.born;omega,o.yg,o.cyc,fun t e=>by
   obtain⟨a,b⟩:=o.gone t e;exact⟨ω,b⟩⟩
 refine⟨fun x hx=>?_,?_,fun t ht=>?_,fun x hx y hy=>?_,fun x hx y hy t e1 e2=>?_⟩
 ·rcases Pe.mp hx with hx|hx
  ·exact c x hx
  ·rw[Pb.mp hx]
   exact⟨QP _,hz,hc,fun t e=>nomatch e⟩
 ·rw[Ak,Pk]
  refine⟨R.nd,by simp,fun a ha b hb=>?_⟩;obtain⟨x,hx,rfl⟩:=Bp.mp ha;have:=(R.ok x hx).born;simp at hb;omega
 ·rcases QE t T with h|h
  ·rcases R.all t h with ⟨x,hx,e⟩|⟨x,hx,e⟩
   ·exact .inl ⟨x,Pu _ hx,e⟩
   ·exact .inr ⟨x,Pu _ hx,e⟩
  ·exact .inl ⟨_,AN _ (.head _),by show T=t;omega⟩
 ·rcases Pe.mp hy with hy|hy
  ·rcases Pe.mp hx with hx|hx
   ·exact R.one x hx y hy
   ·rw[Pb.mp hx]
    intro e;have:=((R.ok y hy).gone _ e).1;simp at this
  ·rw[Pb.mp hy]
   intro e;cases e
 ·rcases Pe.mp hx with hx|hx
  ·rcases Pe.mp hy with hy|hy
   ·exact R.two x hx y hy t e1 e2
   ·rw[Pb.mp hy] at e2;cases e2
  ·rw[Pb.mp hx] at e1;cases e1
def kill(b T:Nat)(r g:Ch)(L:List Row):List Row:=L.map fun x=>if x.b=b then⟨b,some T,r,g⟩ else x
def MA{b T:Nat}{r g:Ch}{L:List Row}:(kill b T r g L).map (·.b)=L.map (·.b):=by
 unfold kill;rw[Aj];refine AA fun x _=>?_;show(if x.b=b then(⟨b,some T,r,g⟩:Row) else x).b=x.b
 by_cases e:x.b=b
 ·rw[Sa e];exact e.symm
 ·rw[Sb e]
def MB{p:Int}{S:Ch->Ch}{T:Nat}{L:List Row}(R:Rows p S T L){r g:Ch}{c:Row}(f:c∈L)(hd:c.d=none)(hr:Yg p r c.b)(hc:Z p (S r))(l:Yg p g T)(q:∀u,p ∣ S g u-r u):Rows p S (T+1) (kill c.b T r g L):=by
 have mem:∀y,y∈kill c.b T r g L->y=⟨c.b,some T,r,g⟩\/(y∈L/\y.b≠c.b):=fun y hy=>by
  obtain⟨x,hx,rfl⟩:=Bp.mp hy
  by_cases e:x.b=c.b
  ·rw[Sa e];exact .inl rfl
  ·rw[Sb e];exact .inr ⟨hx,e⟩
 have keep:∀x∈L,x.b≠c.b->x∈kill c.b T r g L:=fun x hx e=>Bp.mpr ⟨x,hx,Sb e⟩;have new:(⟨c.b,some T,r,g⟩:Row)∈kill c.b T r g L:=Bp.mpr ⟨c,f,Sa rfl⟩;refine⟨fun y hy=>?_,by rw[MA];exact R.nd,fun t ht=>?_,fun x hx y hy=>?_,fun x hx y hy t e1 e2=>?_⟩
 ·rcases mem y hy with rfl|⟨hy,_⟩
  ·exact⟨by have:=(R.ok c f).born;show c.b<T+1;omega,hr,hc,fun t e=>by
    cases e;exact⟨QP _,(R.ok c f).born,l,q⟩⟩
  ·have o:=R.ok y hy
   exact⟨by have:=o.born;omega,o.yg,o.cyc,fun t e=>by
    obtain⟨a,b⟩:=o.gone t e;exact⟨ω,b⟩⟩
 ·rcases QE t T with h|h
  ·rcases R.all t h with ⟨x,hx,e⟩|⟨x,hx,e⟩
   ·by_cases i:x.b=c.b
    ·exact .inl ⟨_,new,by show c.b=t;omega⟩
    ·exact .inl ⟨x,keep x hx i,e⟩
   ·refine .inr ⟨x,keep x hx fun i=>?_,e⟩
    have:=CO R.nd hx f i;subst this;rw[hd] at e;cases e
  ·exact .inr ⟨_,new,by show some T=some t;rw[show T=t from ω]⟩
 ·rcases mem x hx with rfl|⟨hx,nx⟩
  ·rcases mem y hy with rfl|⟨hy,j⟩
   ·intro e
    have:=(R.ok c f).born;have e':T=c.b:=Ag e;omega
   ·exact R.one c f y hy
  ·rcases mem y hy with rfl|⟨hy,j⟩
   ·intro e
    have:=(R.ok x hx).born;cases e;omega
   ·exact R.one x hx y hy
 ·rcases mem x hx with rfl|⟨hx,nx⟩
  ·rcases mem y hy with rfl|⟨hy,j⟩
   ·rfl
   ·cases e1
    have:=((R.ok y hy).gone _ e2).1;omega
  ·rcases mem y hy with rfl|⟨hy,j⟩
   ·cases e2
    have:=((R.ok x hx).gone _ e1).1;omega
   ·exact R.two x hx y hy t e1 e2
structure WO(p:Int)(S:Ch->Ch)(T:Nat)(left fill:Ch):Prop where
 sm:∀u,p ∣ S fill u-left u
 yg:Yg p fill T
 bl:Bl p left T
def WO.closed{p:Int}{S:Ch->Ch}{T:Nat}{l f:Ch}(W:WO p S T l f)(a:Sm p S)(b:Z p (S (S f))):Z p (S l):=fun u=>by
 have h:=a.z (f:=bj (S f) 1 l) (fun u=>by show p ∣ S f u-1*l u;rw[RQ];exact W.sm u) u;rw[a.lin,RQ] at h;have:=Pv (b u) h
 rwa [show S (S f) u-(S (S f) u-S l u)=S l u from ω] at this
def WO.step{p:Int}{S:Ch->Ch}(c:Sm p S){T:Nat}{L:List Row}(R:Rows p S T L){l f:Ch}(W:WO p S T l f){x:Row}{d:Nat}(hx:x∈L)(hd:x.d=some d)(hy:Yg p l x.b){k:Int}(hk:p ∣ k*x.r x.b-l x.b):WO p S T (bj l k x.r) (bj f k x.g)/\Bl p (bj l k x.r) x.b:=by
 have o:=R.ok x hx;obtain⟨g1,g2,g3,g4⟩:=o.gone d hd;refine⟨⟨fun u=>?_,⟨fun z=>W.yg.1 (Mw z (g3.2 T g1)),fun u hu=>lB (W.yg.2 u hu) (g3.2 u ω)⟩,fun u hu=>lB (W.bl u hu) (o.yg.2 u (by have:=o.born;omega))⟩,fun u hu=>?_⟩
 ·rw[c.lin]
  have:=lB (a:=k) (W.sm u) (g4 u)
  rwa [show S f u-l u-k*(S x.g u-x.r u)=S f u-k*S x.g u-bj l k x.r u from by show _=S f u-k*S x.g u-(l u-k*x.r u);rw[RP];omega] at this
 ·rcases Nat.eq_or_lt_of_le hu with rfl|hu
  ·have:=QL.mpr hk
   rwa [show -(k*x.r x.b-l x.b)=bj l k x.r x.b from by show _=l x.b-k*x.r x.b;omega] at this
  ·exact lB (hy.2 u hu) (o.yg.2 u hu)
def cS(cs:List (List Int×Int))(q:List Int):Int:=((cs.find? fun c=>decide (c.1=q)).map (·.2)).getD 0
def GI(c:List Int×Int)(r:List (List Int×Int))(x:List Int):cS (c::r) x=if c.1=x then c.2 else cS r x:=by
 unfold cS;rw[PL]
 by_cases e:c.1=x
 ·rw[Sc e,Sa e];rfl
 ·rw[Sd e,Sb e]
def GJ{x:List Int}:∀{cs:List (List Int×Int)},x∉cs.map (·.1)->cS cs x=0
 |[],_=>rfl
 |c::r,h=>by
  rw[As,Pa,not_or] at h;rw[GI,Sb (Ne.symm h.1),GJ h.2]
def sK{a:Type}(f g:a->Int):∀l:List a,(l.map fun x=>f x+g x).sum=(l.map f).sum+(l.map g).sum
 |[]=>rfl
 |x::l=>by rw[As,PN,As,PN,As,PN,sK f g l];omega
def sN{b:Type}(a:Int)(f:b->Int):∀l:List b,(l.map fun x=>a*f x).sum=a*(l.map f).sum
 |[]=>by simp
 |x::l=>by rw[As,PN,As,PN,sN a f l,Int.mul_add]
def sQ{a:Type}:∀l:List a,(l.map fun _=>(0:Int)).sum=0
 |[]=>rfl
 |x::l=>by rw[As,PN,sQ l];rfl
def GK{a:Type}{p:Int}(f:a->Int):∀l:List a,(∀x∈l,p ∣ f x)->p ∣ (l.map f).sum
 |[],_=>Av _
 |x::l,h=>by rw[As,PN];exact Bg (h x (.head _)) (GK f l fun y hy=>h y (.tail _ hy))
def GL{a b:Type}(f:a->b->Int)(m:List b):∀l:List a,(l.map fun x=>(m.map fun y=>f x y).sum).sum=(m.map fun y=>(l.map fun x=>f x y).sum).sum
 |[]=>by simp only[Q8,List.sum_nil];exact(sQ m).symm
 |x::l=>by
  rw[As,PN,GL f m l,<-sK]
  congr 1
def GM{e:List Int->Int}{q:List Int}{v:Int}:∀{l:Ξ},l.Nodup->(l.map fun x=>if q=x then v*e x else 0).sum=if q∈l then v*e q else 0
 |[],_=>by simp
 |x::l,nd=>by
  rw[Pg] at nd;rw[As,PN,GM nd.2]
  by_cases h:q=x
  ·subst h
   rw[Sa rfl,Sb nd.1,Sa Az];omega
  ·rw[Sb h]
   by_cases k:q∈l
   ·rw[Sa k,Sa (Ax _ k)];omega
   ·rw[Sb k,Sb (fun z=>(Pa.mp z).elim h k)];rfl
def CS{oo:Ξ}(a:oo.Nodup)(e:List Int->Int):∀{cs:List (List Int×Int)},(cs.map (·.1)).Nodup->(∀c∈cs,c.1∈oo)->(cs.map fun c=>c.2*e c.1).sum=(oo.map fun x=>cS cs x*e x).sum
 |[],_,_=>by
  have:(oo.map fun x=>cS [] x*e x)=oo.map fun _=>(0:Int):=AA fun x _=>by show 0*e x=0;rw[R4]
  rw[this,sQ];rfl
 |c::r,hn,hs=>by
  rw[As,Pg] at hn;rw[As,PN,CS a e hn.2 fun d hd=>hs d (.tail _ hd)];have e1:(oo.map fun x=>cS (c::r) x*e x)=oo.map fun x=>(if c.1=x then c.2*e x else 0)+cS r x*e x:=by
   refine AA fun x _=>?_;rw[GI]
   by_cases h:c.1=x
   ·rw[Sa h,Sa h,<-h,GJ hn.1];omega
   ·rw[Sb h,Sb h];omega
  rw[e1,sK,GM a,Sa (hs c (.head _))]
def cat(oo:Ξ)(F:List Int->Int):Ch:=fun u=>match oo[u]? with
 |some x=>F x
 |none=>0
def iL{oo:Ξ}{F:List Int->Int}{u:Nat}{x:List Int}(h:oo[u]?=some x):cat oo F u=F x:=by unfold cat;rw[h]
def CT{oo:Ξ}{F:List Int->Int}{u:Nat}(h:oo.length<=u):cat oo F u=0:=by unfold cat;rw[PD h]
def sm(oo:Ξ)(tau:List Int->List Int->Int)(f:Ch):Ch:=fun u=>match oo[u]? with
 |some y=>(oo.zipIdx.map fun q=>f q.2*tau q.1 y).sum
 |none=>0
def MC(oo:Ξ)(tau:List Int->List Int->Int)(f:Ch)(a:Int)(g:Ch)(u:Nat):sm oo tau (bj f a g) u=sm oo tau f u-a*sm oo tau g u:=by
 unfold sm;cases e:oo[u]? with
 |none=>show(0:Int)=0-a*0;omega
 |some y=>
  show(oo.zipIdx.map fun q=>bj f a g q.2*tau q.1 y).sum=(oo.zipIdx.map fun q=>f q.2*tau q.1 y).sum-a*(oo.zipIdx.map fun q=>g q.2*tau q.1 y).sum;have e1:(oo.zipIdx.map fun q=>bj f a g q.2*tau q.1 y)=oo.zipIdx.map fun q=>f q.2*tau q.1 y+(-a)*(g q.2*tau q.1 y):=by
   refine AA fun q _=>?_;show(f q.2-a*g q.2)*tau q.1 y=_;rw[Int.sub_mul,Int.mul_assoc,Int.neg_mul];omega
  rw[e1,sK,sN,Int.neg_mul];omega
def lD(p:Int)(oo:Ξ)(tau:List Int->List Int->Int):Sm p (sm oo tau):=by
 refine⟨fun f a g u=>MC oo tau f a g u,fun{f} h u=>?_⟩;unfold sm;cases e:oo[u]? with
 |none=>exact Av _
 |some y=>exact GK _ _ fun q _=>AU (h q.2) (Ql _ _)
def jN{oo:Ξ}{q:List Int×Nat}(h:q∈oo.zipIdx):oo[q.2]?=some q.1:=by
 have:=List.mem_zipIdx_iff_getElem? (x:=q) (l:=oo);exact this.mp h
def MD{oo:Ξ}(a:oo.Nodup){tau:List Int->List Int->Int}{cs:List (List Int×Int)}(b:(cs.map (·.1)).Nodup)(d:∀c∈cs,c.1∈oo){u:Nat}{y:List Int}(h:oo[u]?=some y):sm oo tau (cat oo (cS cs)) u=(cs.map fun c=>c.2*tau c.1 y).sum:=by
 rw[CS a (fun x=>tau x y) b d];unfold sm;rw[h];show(oo.zipIdx.map fun q=>cat oo (cS cs) q.2*tau q.1 y).sum=_;have e1:(oo.zipIdx.map fun q=>cat oo (cS cs) q.2*tau q.1 y)=oo.zipIdx.map ((fun x=>cS cs x*tau x y) ∘ Prod.fst):=AA fun q hq=>by
  show cat oo (cS cs) q.2*tau q.1 y=cS cs q.1*tau q.1 y;rw[iL (jN hq)]
 rw[e1,<-Aj,QV]
def ME{oo:Ξ}{tau:List Int->List Int->Int}(hdd:∀x∈oo,∀y∈oo,(oo.map fun z=>tau x z*tau z y).sum=0)(f:Ch)(u:Nat):sm oo tau (sm oo tau f) u=0:=by
 show(match oo[u]? with|some y=>(oo.zipIdx.map fun q:List Int×Nat=>sm oo tau f q.2*tau q.1 y).sum|none=>(0:Int))=0;cases e:oo[u]? with
 |none=>rfl
 |some y=>
  show(oo.zipIdx.map fun q=>sm oo tau f q.2*tau q.1 y).sum=0;have hy:=Ao e;have e1:(oo.zipIdx.map fun q=>sm oo tau f q.2*tau q.1 y)=oo.zipIdx.map fun q=>(oo.zipIdx.map fun r=>f r.2*(tau r.1 q.1*tau q.1 y)).sum:=AA fun q hq=>by
   have e2:sm oo tau f q.2=(oo.zipIdx.map fun r=>f r.2*tau r.1 q.1).sum:=by
    show(match oo[q.2]? with|some y=>(oo.zipIdx.map fun r:List Int×Nat=>f r.2*tau r.1 y).sum|none=>(0:Int))=_;rw[jN hq]
   rw[e2,Int.mul_comm,<-sN]
   congr 1
   refine AA fun r _=>?_;rw[Int.mul_comm,Int.mul_assoc]
  rw[e1,GL];have e3:(oo.zipIdx.map fun r=>(oo.zipIdx.map fun q=>f r.2*(tau r.1 q.1*tau q.1 y)).sum)=oo.zipIdx.map fun _=>(0:Int):=AA fun r hr=>by
   have hx:=Ao (jN hr);rw[sN];have a:(oo.zipIdx.map fun q=>tau r.1 q.1*tau q.1 y)=oo.zipIdx.map ((fun z=>tau r.1 z*tau z y) ∘ Prod.fst):=rfl;rw[a,<-Aj,QV,hdd _ hx _ hy,Rb]
  rw[e3,sQ]
end Bar
end
section
namespace K66
open K1
open PySem L2 STb
def CU{g:Int->Int}(a:g 0=0)(x:List Int):∀cs:Ch,am (cs.map fun c=>(c.1,g c.2)) x=g (am cs x)
 |[]=>a.symm
 |c::r=>by
  rw[As,zH,zH,CU a x r];split<;>rfl
def sU(g:List Int×Int->Int)(cs:Ch):ksC (cs.map fun c=>(c.1,g c))=ksC cs:=by unfold ksC;rw[Aj];rfl
def CV{g:Int->Int}(a:g 0=0){cs:Ch}(b:(ksC cs).Nodup)(x:List Int):di (cs.map fun c=>(c.1,g c.2)) x=g (am cs x):=by
 rw[CK (by rw[sU fun c=>g c.2];exact b),CU a]
def CW{ts:Ch}{c:List Int×Int}(h:c∈cX ts):∃t∈ts,t.1=c.1:=by
 obtain⟨h1,h2⟩:=Gy h;exact Ml (by rw[h2];exact h1)
def md(p:Int)(cs:Ch):Ch:=cX (cs.map fun c=>(c.1,c.2%p))
def GN{p:Int}{cs:Ch}(a:(ksC cs).Nodup)(x:List Int):am (md p cs) x=am cs x%p:=by
 unfold md;rw[sv,CV (g:=fun v=>v%p) (Int.zero_emod p) a]
structure ChP(p:Int)(cs:Ch):Prop where
 nd:(ksC cs).Nodup
 lo:∀c∈cs,1<=c.2/\c.2<p
def GO{p:Int}(hp:0<p){cs:Ch}(a:(ksC cs).Nodup):ChP p (md p cs):=by
 refine⟨zF _,fun c hc=>?_⟩;obtain⟨h1,h2⟩:=Gy hc;rw[CV (g:=fun v=>v%p) (Int.zero_emod p) a] at h2;have:=PZ (am cs c.1) (b:=p) ω;have:=Px (am cs c.1) hp;have h2:am cs c.1%p=c.2:=h2;omega
def GP{p:Int}{cs:Ch}{q:List Int}(h:q∈ksC (md p cs)):q∈ksC cs:=by
 obtain⟨c,hc,rfl⟩:=Bp.mp h;obtain⟨t,ht,e⟩:=CW hc;obtain⟨d,hd,rfl⟩:=Bp.mp ht;exact e▸Bp.mpr ⟨d,hd,rfl⟩
def MF{cs:Ch}{x:List Int}(h:am cs x≠0):x∈ksC cs:=Classical.byContradiction fun z=>h (zB z)
def ChP.range{p:Int}(hp:0<p){cs:Ch}(h:ChP p cs)(x:List Int):0<=am cs x/\am cs x<p:=by
 by_cases e:x∈ksC cs
 ·obtain⟨c,hc,rfl⟩:=Bp.mp e
  rw[js h.nd c hc];have:=h.lo c hc;omega
 ·rw[zB e];omega
def ChP.at{p:Int}{cs:Ch}(h:ChP p cs){x:List Int}(hx:x∈ksC cs):1<=am cs x/\am cs x<p:=by
 obtain⟨c,hc,rfl⟩:=Bp.mp hx;rw[js h.nd c hc];exact h.lo c hc
def less(p:Int)(a:Ch)(k:Int)(b:Ch):Ch:=md p (cX (a++b.map fun c=>(c.1,-k*c.2)))
def less_get{p k:Int}{a b:Ch}(c:(ksC a).Nodup)(d:(ksC b).Nodup)(x:List Int):am (less p a k b) x=(am a x-k*am b x)%p:=by
 unfold less;rw[GN (zF _),sv,Gx,CK c,CV (g:=fun v=>-k*v) (Rb _) d,Int.neg_mul]
 rfl
def GQ{p:Int}(hp:0<p){k:Int}{a b:Ch}:ChP p (less p a k b):=GO hp (zF _)
def less_key{p k:Int}{a b:Ch}{q:List Int}(h:q∈ksC (less p a k b)):q∈ksC a\/q∈ksC b:=by
 have h:=GP h;obtain⟨c,hc,rfl⟩:=Bp.mp h;obtain⟨t,ht,e⟩:=CW hc;rcases Pe.mp ht with ht|ht
 ·exact .inl (e▸Bp.mpr ⟨t,ht,rfl⟩)
 ·obtain⟨d,hd,rfl⟩:=Bp.mp ht
  exact .inr (e▸Bp.mpr ⟨d,hd,rfl⟩)
abbrev sb(p:Int)(cs:Ch):Ch:=md p (jt cs)
def CY{p:Int}(cs:Ch)(x:List Int):am (sb p cs) x=lin cs x%p:=by rw[GN (zF _),pu]
def sW{p:Int}{cs:Ch}{q:List Int}(h:q∈ksC (sb p cs)):∃c∈cs,q∈rims c.1:=by
 have h:=GP h;obtain⟨c,hc,rfl⟩:=Bp.mp h;obtain⟨t,ht,e⟩:=CW hc;obtain⟨d,hd,ht⟩:=Ps.mp ht;refine⟨d,hd,?_⟩;rw[<-CH d.1 d.2,<-e];exact Bp.mpr ⟨t,ht,rfl⟩
structure d0(oo:Ξ):Prop where
 o:bo oo
 nd:oo.Nodup
 rim:∀q∈oo,∀r∈rims q,r∈oo
 le:∀q∈oo,q.length<=5
 pn:∀q∈oo,q.Nodup
def GR{oo:Ξ}(h:bo oo):d0 oo:=
 ⟨h,Mr h,fun q hq=>(sI h hq).2,fun q hq=>(jm.mp (sI h hq).1).2.1,fun q hq=>by
  have:=(jm.mp (sI h hq).1);exact List.Pairwise.imp (fun h=>ω) this.2.2.2⟩
abbrev aT(oo:Ξ)(cs:Ch):Bar.Ch:=Bar.cat oo (am cs)
def zI{oo:Ξ}{cs:Ch}{u:Nat}{x:List Int}(h:oo[u]?=some x):aT oo cs u=am cs x:=Bar.iL h
def iM{oo:Ξ}{cs:Ch}{u:Nat}(h:oo.length<=u):aT oo cs u=0:=Bar.CT h
abbrev So(oo:Ξ):Bar.Ch->Bar.Ch:=Bar.sm oo tau
section
variable{p:Int}{oo:Ξ}{cs:Ch}
def CZ(O:d0 oo)(b:(ksC cs).Nodup)(a:∀q∈ksC cs,q∈oo){u:Nat}{y:List Int}(h:oo[u]?=some y):So oo (aT oo cs) u=lin cs y:=
 Bar.MD (tau:=tau) O.nd b (fun c hc=>a _ (Bp.mpr ⟨c,hc,rfl⟩)) h
def hdd(O:d0 oo):∀x∈oo,∀y∈oo,(oo.map fun z=>tau x z*tau z y).sum=0:=fun x hx y hy=>by
 have a:(ksC (br x 1)).Nodup:=by rw[CH];exact Mm (O.pn x hx)
 have h:=Bar.CS O.nd (fun z=>tau z y) (cs:=br x 1) a (fun c hc=>O.rim x hx _ (by rw[<-CH x 1];exact Bp.mpr ⟨c,hc,rfl⟩));have h2:lin (br x 1) y=0:=Mq y x (O.le x hx);have e:(oo.map fun z=>tau x z*tau z y)=oo.map fun z=>Bar.cS (br x 1) z*tau z y:=AA fun z _=>by
  show di (br x 1) z*_=am (br x 1) z*_;rw[CK a]
 rw[e,<-h];exact h2
def mV(a p:Int):p ∣ a-a%p:=⟨a / p,by have:=Int.emod_add_mul_ediv a p;omega⟩
def MG(O:d0 oo)(b:(ksC cs).Nodup)(a:∀q∈ksC cs,q∈oo)(u:Nat):p ∣ So oo (aT oo cs) u-aT oo (sb p cs) u:=by
 cases e:oo[u]? with
 |none=>
  have h1:So oo (aT oo cs) u=0:=by
   show(match oo[u]? with|some y=>(oo.zipIdx.map fun q:List Int×Nat=>aT oo cs q.2*tau q.1 y).sum|none=>(0:Int))=0;rw[e]
  rw[h1,iM (by simpa using e)];exact Av _
 |some y=>
  rw[CZ O b a e,zI e,CY];exact mV _ _
def C0{k:Int}{a b:Ch}(c:(ksC a).Nodup)(d:(ksC b).Nodup)(u:Nat):p ∣ Bar.bj (aT oo a) k (aT oo b) u-aT oo (less p a k b) u:=by
 show p ∣ aT oo a u-k*aT oo b u-aT oo (less p a k b) u;cases e:oo[u]? with
 |none=>
  have h:oo.length<=u:=by simpa using e
  rw[iM h,iM h,iM h,Rb];exact Av _
 |some y=>
  rw[zI e,zI e,zI e,less_get c d];exact mV _ _
abbrev Cg(p:Int)(f g:Bar.Ch):Prop:=∀u,p ∣ f u-g u
def Cg.dvd{f g:Bar.Ch}(h:Cg p f g)(u:Nat):p ∣ f u↔p ∣ g u:=by
 constructor
 ·intro z
  have:=Pv z (h u)
  rwa [show f u-(f u-g u)=g u from ω] at this
 ·intro z
  have:=Bg (h u) z
  rwa [show f u-g u+g u=f u from ω] at this
def Cg.yg{f g:Bar.Ch}(h:Cg p f g){t:Nat}(y:Bar.Yg p f t):Bar.Yg p g t:=⟨fun z=>y.1 ((h.dvd t).mpr z),fun u hu=>(h.dvd u).mp (y.2 u hu)⟩
def Cg.bl{f g:Bar.Ch}(h:Cg p f g){t:Nat}(y:Bar.Bl p f t):Bar.Bl p g t:=fun u hu=>(h.dvd u).mp (y u hu)
def Cg.z{f g:Bar.Ch}(h:Cg p f g)(y:Bar.Z p f):Bar.Z p g:=fun u=>(h.dvd u).mp (y u)
def Cg.s{f g:Bar.Ch}(h:Cg p f g):Cg p (So oo f) (So oo g):=fun u=>by
 have e:=(Bar.lD p oo tau).z (f:=Bar.bj f 1 g) (fun u=>by show p ∣ f u-1*g u;rw[RQ];exact h u) u;rw[(Bar.lD p oo tau).lin,RQ] at e;exact e
def MH{T:Nat}{l f d e:Bar.Ch}(W:Bar.WO p (So oo) T l f)(g:Cg p l d)(hf:Cg p f e):Bar.WO p (So oo) T d e:=by
 refine⟨fun u=>?_,hf.yg W.yg,g.bl W.bl⟩;have a:=W.sm u;have b:=hf.s (oo:=oo) u;have c:=g u;have:=Bg (Pv a b) c
 rwa [show So oo f u-l u-(So oo f u-So oo e u)+(l u-d u)=So oo e u-d u from ω] at this
def GS(O:d0 oo)(h:ChP p cs)(hp:0<p){t:Nat}{y:List Int}(hy:y∈ksC cs)(ht:oo[t]?=some y)(hm:∀x∈ksC cs,∀u,oo[u]?=some x->u<=t):Bar.Yg p (aT oo cs) t:=by
 refine⟨fun z=>?_,fun u hu=>?_⟩
 ·rw[zI ht] at z
  have:=h.at hy;have:=Q0 ω z;omega
 ·cases e:oo[u]? with
  |none=>rw[iM (by simpa using e)];exact Av _
  |some x=>
   rw[zI e];have:x∉ksC cs:=fun hx=>by have:=hm x hx u e;omega
   rw[zB this];exact Av _
def C1{t:Nat}(h:Bar.Yg p (aT oo cs) t):∃y,oo[t]?=some y/\y∈ksC cs:=by
 cases e:oo[t]? with
 |none=>exact absurd (by rw[iM (by simpa using e)];exact Av _) h.1
 |some x=>
  refine⟨x,rfl,MF fun z=>h.1 ?_⟩;rw[zI e,z];exact Av _
def GT(h:ChP p cs){t:Nat}(hy:Bar.Yg p (aT oo cs) t){x:List Int}(hx:x∈ksC cs){u:Nat}(e:oo[u]?=some x):u<=t:=by
 refine RW fun z=>?_;have d:=hy.2 u z;rw[zI e] at d;have:=h.at hx;have:=Q0 ω d;omega
def MI:Bar.Z p (aT oo []):=fun u=>by
 cases e:oo[u]? with
 |none=>rw[iM (by simpa using e)];exact Av _
 |some x=>rw[zI e];exact Av _
end
structure aU where
 hi:Int
 b:Nat
 d:Option Nat
 c:Ch
 g:Ch
structure C3(p:Int)(oo:Ξ)(x:aU):Prop where
 c:ChP p x.c
 ci:∀q∈ksC x.c,q∈oo/\(q.length:Int)=x.hi+1
 g:∀t,x.d=some t->ChP p x.g/\∀q∈ksC x.g,q∈oo/\(q.length:Int)=x.hi+2
abbrev hJ(oo:Ξ)(x:aU):Bar.Row:=⟨x.b,x.d,aT oo x.c,aT oo x.g⟩
structure cH(p:Int)(oo:Ξ)(T:Nat)(L:List aU):Prop where
 ok:∀x∈L,C3 p oo x
 rows:Bar.Rows p (So oo) T (L.map (hJ oo))
 srt:(L.map (·.b)).Pairwise (·<·)
def MJ{p:Int}{oo:Ξ}:cH p oo 0 []:=⟨(fun x hx=>nomatch hx),⟨(fun x hx=>nomatch hx),PV,(fun t ht=>absurd ht (Nat.not_lt_zero _)),(fun x hx=>nomatch hx),(fun x hx=>nomatch hx)⟩,List.Pairwise.nil⟩
def fB(L:List aU)(x:aU):List aU:=L.map fun y=>if y.b=x.b then x else y
structure Wk(p:Int)(oo:Ξ)(T:Nat)(q:List Int)(left fill:Ch):Prop where
 l:ChP p left
 li:∀k∈ksC left,k∈oo/\k.length+1=q.length
 f:ChP p fill
 fi:∀k∈ksC fill,k∈oo/\k.length=q.length
 wo:Bar.WO p (So oo) T (aT oo left) (aT oo fill)
section
variable{p:Int}{oo:Ξ}{T:Nat}{q:List Int}{left fill:Ch}{L:List aU}
def GU{q r:List Int}(h:r∈rims q):r.length+1=q.length:=by
 obtain⟨h1,k,hk,rfl⟩:=BK.mp h;rw[Ap,Aw,PB];omega
def GV(O:d0 oo)(hp:2<=p)(d:oo[T]?=some q):Wk p oo T q (sb p [(q,1)]) [(q,1)]:=by
 have hq:q∈oo:=Ao d;have g:(ksC [(q,(1:Int))]).Nodup:=by simp[ksC]
 have hf:ChP p [(q,1)]:=⟨g,fun c hc=>by rw[Pb.mp hc];exact⟨P4 _,by show(1:Int)<p;omega⟩⟩;have hk:∀k∈ksC [(q,(1:Int))],k=q:=fun k hk=>by simpa[ksC] using hk
 refine⟨GO ω (zF _),fun k a=>?_,hf,fun k a=>by rw[hk k a];exact⟨hq,rfl⟩,⟨fun u=>MG O g (fun k a=>by rw[hk k a];exact hq) u,?_,fun u hu=>?_⟩⟩
 ·obtain⟨c,hc,hr⟩:=sW a
  rw[Pb.mp hc] at hr;exact⟨O.rim q hq k hr,GU hr⟩
 ·refine GS O hf ω (y:=q) (by simp[ksC]) d fun x hx u e=>?_
  rw[hk x hx] at e;obtain⟨h1,e1⟩:=KK.mp e;have:=(PR h1 O.nd).mp (e.trans d.symm);omega
 ·cases e:oo[u]? with
  |none=>rw[iM (by simpa using e)];exact Av _
  |some y=>
   rw[zI e];have h:y∉ksC (sb p [(q,1)]):=fun hy=>by
    obtain⟨c,hc,hr⟩:=sW hy;rw[Pb.mp hc] at hr;have f:=(sE.mp (O.o T q d)).2.2 y hr;obtain⟨j,b⟩:=Pc.mp f;have i:j<T:=by
     have:=(KK.mp b).1;rw[Aw] at this;omega
    rw[PU i] at b;obtain⟨h1,_⟩:=KK.mp b;have:=(PR h1 O.nd).mp (b.trans e.symm);omega
   rw[zB h];exact Av _
def Wk.cyc(O:d0 oo)(W:Wk p oo T q left fill):Bar.Z p (So oo (aT oo left)):=
 W.wo.closed (Bar.lD p oo tau) fun u=>by rw[show So oo (So oo (aT oo fill)) u=0 from Bar.ME (hdd O) _ _];exact Av _
def MK(P:Bar.Pr p)(O:d0 oo)(R:cH p oo T L)(W:Wk p oo T q left fill){t:Nat}(hy:Bar.Yg p (aT oo left) t):∃x∈L,x.b=t:=by
 obtain⟨x,hx,e⟩:=Bar.Mx P (Bar.lD p oo tau) R.rows W.wo.bl (W.cyc O) hy;obtain⟨y,hy,rfl⟩:=Bp.mp hx;exact⟨y,hy,e⟩
def hV(R:cH p oo T L){x:aU}(hx:x∈L):Bar.CN p (So oo) T (hJ oo x):=R.rows.ok _ (Bp.mpr ⟨x,hx,rfl⟩)
def pE(R:cH p oo T L){x:aU}(hx:x∈L):∃y,oo[x.b]?=some y/\y∈ksC x.c:=C1 (hV R hx).yg
def ML(hp:0<p)(R:cH p oo T L)(W:Wk p oo T q left fill){x:aU}(hx:x∈L){e:Nat}(hd:x.d=some e){y:List Int}(hy:Bar.Yg p (aT oo left) x.b)(ht:oo[x.b]?=some y)(i:y∈ksC left){k:Int}(hk:p ∣ k*am x.c y-am left y):Wk p oo T q (less p left k x.c) (less p fill k x.g)/\Bar.Bl p (aT oo (less p left k x.c)) x.b:=by
 have o:=R.ok x hx;obtain⟨j,r⟩:=o.g e hd;have hsz:x.hi+2=q.length:=by
  obtain⟨w,h1,h2⟩:=pE R hx;rw[ht] at h1;cases h1;have a:=(o.ci y h2).2;have b:=(W.li y i).2;omega
 obtain⟨u,v⟩:=Bar.WO.step (Bar.lD p oo tau) R.rows W.wo (x:=hJ oo x) (d:=e) (Bp.mpr ⟨x,hx,rfl⟩) hd hy (k:=k) (by show p ∣ k*aT oo x.c x.b-aT oo left x.b;rw[zI ht,zI ht];exact hk);refine⟨⟨GQ hp,fun z hz=>?_,GQ hp,fun z hz=>?_,MH u (C0 W.l.nd o.c.nd) (C0 W.f.nd j.nd)⟩,Cg.bl (C0 W.l.nd o.c.nd) v⟩
 ·rcases less_key hz with h|h
  ·exact W.li z h
  ·obtain⟨a,b⟩:=o.ci z h
   exact⟨a,ω⟩
 ·rcases less_key hz with h|h
  ·exact W.fi z h
  ·obtain⟨a,b⟩:=r z h
   exact⟨a,ω⟩
def MM(O:d0 oo)(R:cH p oo T L)(W:Wk p oo T q [] fill):cH p oo (T+1) (L++[⟨(q.length:Int)-1,T,none,fill,[]⟩]):=by
 refine⟨fun x hx=>?_,?_,?_⟩
 ·rcases Pe.mp hx with hx|hx
  ·exact R.ok x hx
  ·rw[Pb.mp hx]
   exact⟨W.f,fun k hk=>⟨(W.fi k hk).1,by have:=(W.fi k hk).2;show(k.length:Int)=(q.length:Int)-1+1;omega⟩,fun t e=>nomatch e⟩
 ·rw[Ak]
  refine Bar.Mz R.rows (z:=aT oo fill) (g:=aT oo []) W.wo.yg fun u=>?_;have h1:=W.wo.sm u;have h2:=MI (p:=p) (oo:=oo) u;have:=Bg h1 h2
  rwa [show So oo (aT oo fill) u-aT oo [] u+aT oo [] u=So oo (aT oo fill) u from ω] at this
 ·rw[Ak,List.pairwise_append]
  refine⟨R.srt,List.pairwise_singleton _ _,fun a ha b hb=>?_⟩;obtain⟨x,hx,rfl⟩:=Bp.mp ha;rw[As,Q8,Pb] at hb;have:=(hV R hx).born;rw[hb];exact this
def MN{a:aU}:(fB L a).map (·.b)=L.map (·.b):=by
 unfold fB;rw[Aj];refine AA fun y _=>?_;show(if y.b=a.b then a else y).b=y.b
 by_cases e:y.b=a.b
 ·rw[Sa e];exact e.symm
 ·rw[Sb e]
def MO(O:d0 oo)(R:cH p oo T L)(W:Wk p oo T q left fill){x:aU}(hx:x∈L)(hd:x.d=none)(hy:Bar.Yg p (aT oo left) x.b):cH p oo (T+1) (fB L ⟨(q.length:Int)-2,x.b,some T,left,fill⟩):=by
 refine⟨fun y hy=>?_,?_,?_⟩
 ·obtain⟨z,hz,rfl⟩:=Bp.mp hy
  by_cases e:z.b=x.b
  ·rw[Sa e]
   refine⟨W.l,fun k hk=>⟨(W.li k hk).1,?_⟩,fun t _=>⟨W.f,fun k hk=>⟨(W.fi k hk).1,?_⟩⟩⟩
   ·have:=(W.li k hk).2
    show(k.length:Int)=(q.length:Int)-2+1;omega
   ·have:=(W.fi k hk).2
    show(k.length:Int)=(q.length:Int)-2+2;omega
  ·rw[Sb e];exact R.ok z hz
 ·have e:(fB L ⟨(q.length:Int)-2,x.b,some T,left,fill⟩).map (hJ oo)=Bar.kill (hJ oo x).b T (aT oo left) (aT oo fill) (L.map (hJ oo)):=by
   unfold fB Bar.kill;rw[Aj,Aj];refine AA fun y _=>?_;show hJ oo (if y.b=x.b then _ else y)=if y.b=x.b then _ else hJ oo y
   by_cases e:y.b=x.b
   ·rw[Sa e,Sa e]
   ·rw[Sb e,Sb e]
  rw[e];exact Bar.MB R.rows (Bp.mpr ⟨x,hx,rfl⟩) hd hy (W.cyc O) W.wo.yg W.wo.sm
 ·rw[MN];exact R.srt
end
end K66
end
section
namespace L2
open PySem PySem.Spec PyProof.Rows
def MP(f:Array Value->Array Value)(o:Obj):(o.mapFields f).dict=o.dict:=by unfold Obj.mapFields;split<;>rfl
def Xc(h:Heap)(x:Addr)(C:Value)(T:Option Addr):Prop:=
 ∃b vs,h.get? x=some b/\b.cls=C/\b.dict=none/\b.data=.fields vs/\1<vs.size/\((T=none/\vs[1]?=some .none)\/∃a c ts,T=some a/\vs[1]?=some (.ref a)/\a≠x/\h.get? a=some c/\c.data=.fields ts/\ts[3]?=some .none)
def mX(fr:List Addr)(x:Addr)(T:Option Addr)(h h':Heap):Prop:=
 (∀b o,h.get? b=some o->b≠x->T≠some b->b∉fr->h'.get? b=some o)/\(∀b o,h.get? b=some o->b∈fr->∃a,h'.get? b=some {o with slots:=a})/\h.objs.size<=h'.objs.size
section
variable{M:Model}{A:Around}{E:Ω}{s:Shared}
def ti{base:Heap}{env:Env}{outer:List Env}{L x:Addr}{j:Obj}{vs:Array Value}{head:Value}{O:Bool}{Q:Unit->Shared->Prop}(hfr:A.frames=some (env::outer))(G:s.heap.FunFrames base (env::outer))(hf:env.frame=some L)(he:s.heap.get? x=some j)(P:j.dict=none)(hd:j.data=.fields vs)(hsz:1<vs.size)(h:∀h' T',s⁻¹<=T'->Xc h' x j.cls (some T')->mX ((env::outer).filterMap (·.frame)) x none s.heap h'->Q () {s with heap:=h'}):wpAny M A (do let a <-frameOf env;let d <-entryPlaceOf L O;let b <-EntryCells.newEntry head a .none (rawInt L) .none d;setField (.ref x) 1 b) (fun _ s'=>wpAny M A (setFlight (.ref x) none) Q E s') E s:=by
 have g:x∉(env::outer).filterMap (·.frame):=fun hm=>by
  obtain⟨_,o,p,I⟩:=G.mem hm;rw[he] at p;injection p with p;subst p;exact I vs hd
 refine Aa (wpAny_frameOf_fun hfr G hf fun c l=>?_);refine Aa (wpAny_entryPlaceOf fun d i=>?_);unfold EntryCells.newEntry newFields;refine Aa (AQ ?_ (i.sizeOk5 _ _ _ _ _));have y:c.get? x=some j:=(l.2.1 x g).trans he;have C:=Ad (h:=c) {cls:=.type "traceback",dict:=none,data:=.fields ([head,.ref L,.none,rawInt L,.none]++(if d.isEmpty then Rz 6 Value.none else d)).toArray} y;refine wpAny_setField C hd hsz ?_;have u:c.objs.size≠x:=AW (Am y);have v:=Obj.data_mapFields hd (·.setIfInBounds 1 (Value.ref c.objs.size));have D:=Heap.get?_update_self (Obj.mapFields (·.setIfInBounds 1 (Value.ref c.objs.size))) C (Obj.isFreed_of_fields v);have F:=(AE (c.push {cls:=.type "traceback",dict:=none,data:=.fields ([head,.ref L,.none,rawInt L,.none]++(if d.isEmpty then Rz 6 Value.none else d)).toArray})
  (Obj.mapFields (·.setIfInBounds 1 (Value.ref c.objs.size))) (Ne.symm u)).trans (An c rfl)
 unfold setFlight;refine Aa (AO D v (x:=.ref c.objs.size) (by simp[hsz]) ?_);rw[Sa (show(Value.ref c.objs.size != Value.none)=true from by simp)];have S:c.objs.size=s⁻¹:=l.1;refine wpAny_setField F rfl (by simp only[Al,Ap,At,Pz]<;>omega) (h _ c.objs.size ω ?_ ?_)
 ·refine⟨_,_,?_,Obj.cls_mapFields _ _,(MP _ _).trans P,v,by simpa using hsz,.inr ⟨c.objs.size,_,_,rfl,by simp[hsz],u,Heap.get?_update_self _ F (Obj.isFreed_of_fields (Obj.data_mapFields rfl _)),Obj.data_mapFields rfl _,?_⟩⟩
  ·rw[AE _ _ u];exact D
  ·first|(simp;done)|(rcases i with rfl|⟨_,_,_,_,_,_,_,rfl⟩<;>simp)
 ·have keep:∀b o,b≠x->c.get? b=some o->
    (((c.push {cls:=.type "traceback",dict:=none,data:=.fields ([head,.ref L,.none,rawInt L,.none]++(if d.isEmpty then Rz 6 Value.none else d)).toArray}).update x (Obj.mapFields (·.setIfInBounds 1 (Value.ref c.objs.size)))).update c.objs.size
     (Obj.mapFields (·.setIfInBounds 3 ((none:Option Addr).elim Value.none fun f=>rawInt f)))).get? b=some o:=fun b o q hb=>by
   have w:c.objs.size≠b:=AW (Am hb);rw[AE _ _ w,AE _ _ (Ne.symm q)];exact Ad _ hb
  refine⟨fun b o hb H _ r=>keep b o H ((l.2.1 b r).trans hb),fun b o hb r=>?_,?_⟩
  ·obtain⟨J,N⟩:=l.2.2 b o hb
   exact⟨J,keep b _ (fun e=>g (e▸r)) N⟩
  ·rw[Heap.size_update,Heap.size_update,Heap.size_push]
   show s⁻¹<=c.objs.size+1;omega
def MQ{base:Heap}{env:Env}{outer:List Env}{L x:Addr}{C:Value}{T:Option Addr}{Q:Unit->Shared->Prop}(hfr:A.frames=some (env::outer))(p:s.heap.FunFrames base (env::outer))(hf:env.frame=some L)(he:Xc s.heap x C T)(h:∀h' T',s⁻¹<=T'->Xc h' x C (some T')->mX ((env::outer).filterMap (·.frame)) x T s.heap h'->Q () {s with heap:=h'}):wpAny M A (leaving env (.ref x)) Q E s:=by
 obtain⟨F,vs,he,rfl,u,hd,hsz,h1⟩:=he;unfold leaving noteFrame;simp only[hf];rcases h1 with ⟨rfl,h1⟩|⟨a,G,ts,rfl,h1,D,j,l,v⟩
 ·refine Aa (Aa (AO he hd h1 ?_))
  rw[Sb ξ];exact ti hfr p hf he u hd hsz h
 ·refine Aa (Aa (AO he hd h1 ?_))
  rw[Sa (show(Value.ref a != Value.none)=true from by simp)];refine Aa (AO j l v ?_);rw[Sb (show ¬((Value.none==rawInt L)=true) from by simp[rawInt])];refine Aa (wpAny_setField j l (QM.mp v).1 ?_);have g:∀b,b≠a->(s.heap.update a (Obj.mapFields (·.setIfInBounds 3 Value.none))).get? b=s.heap.get? b:=fun b hb=>AE _ _ (Ne.symm hb);have w:∀b o,s.heap.get? b=some o->(∀vs,o.data≠.fields vs)->b≠a:=fun b o hb c q=>by
   rw[q,j] at hb;injection hb with hb;subst hb;exact c ts l
  refine ti hfr (p.of_keeps fun b o hb c=>⟨o,(g b (w b o hb c)).trans hb,rfl⟩) hf ((g x (Ne.symm D)).trans he) u hd hsz fun h' T' r hx hk=>h h' T' (by rw[Heap.size_update] at r;exact r) hx ?_;obtain⟨k1,k2,k3⟩:=hk;refine⟨fun b o hb y i f=>k1 b o ((g b fun e=>i (by rw[e])).trans hb) y (by simp) f,fun b o hb f=>?_,by rw[Heap.size_update] at k3;exact k3⟩;obtain⟨_,o',d,c⟩:=p.mem f;rw[hb] at d;cases d;exact k2 b o ((g b (w b o hb c)).trans hb) f
end
def eQ(P:Program)(w:World):eD:=fun outer H s E e s'=>∃(x C:Addr)(T:Option Addr)(H':Hp),e=.ref x/\s'.os=s.os/\AllBare s'.gens/\Un (frs outer) [] H H' s.heap s'.heap/\HOk P w H' s'.heap/\
 H' x=none/\s.heap.get? x=none/\(∀a,T=some a->H' a=none/\s.heap.get? a=none)/\Xc s'.heap x (.ref C) T/\E e (some C) H'
def GW{P:Program}{w:World}{H:Hp}{h h':Heap}{fr:List Addr}{x:Addr}{T:Option Addr}(f:HOk P w H h)(k:mX fr x T h h')(hx:H x=none)(g:∀a,T=some a->H a=none)(hf:∀b∈fr,H b=none):HOk P w H h':=by
 intro b u e;refine(f b u e).stay (fun c v hc q=>k.1 c v q ?_ ?_ ?_) (fun _ q=>q) fun _ _ q=>q
 all_goals
  have d:H c≠none:=by
   rcases hc with z|z
   ·rw[z,e];simp
   ·rw[z];simp
 ·exact fun z=>d (z▸hx)
 ·exact fun z=>d (g c z)
 ·exact fun z=>d (hf c z)
def C4{P:Program}{w:World}{K:Ac}{mg:Str->Option Value}{base:Heap}{N:List Str}{d:Str}{scope:Scope}{f:Addr}{g:Value}{A:Around}{outer:List Env}{s:Shared}{H:Hp}{E:XK}{aa:Ψ}{σ:St}{H':Hp}{s':Shared}{x C:Addr}{T:Option Addr}(I:Inv (cv (eQ P w) P w K mg base N d scope f g A outer s H E) aa σ H' s')(hx:Xc s'.heap x (.ref C) T)(r:H' x=none)(u:s.heap.get? x=none)(v:∀a,T=some a->H' a=none/\s.heap.get? a=none)(G:E (.ref x) (some C) H'):(cv (eQ P w) P w K mg base N d scope f g A outer s H E).xe (.ref x) s':=by
 show wpAny (model P w) (A.deeper (envOfC d scope s⁻¹ f g)) (leaving (envOfC d scope s⁻¹ f g) (.ref x)) _ _ s';refine MQ I.ok.frames I.stack rfl hx fun h' T' l hx' hk=>?_;have hfr:=I.stkFree;have hsz:s⁻¹<=s'⁻¹:=I.sz;have F:∀b o,s.heap.get? b=some o->b≠x/\T≠some b/\b≠s⁻¹:=fun b o e=>by
  have hb:=Am e;exact⟨fun z=>(by rw[z,u] at e;cases e),fun z=>(by rw[(v b z).2] at e;cases e),Ar hb⟩
 have p:∀b o o',s.heap.get? b=some o->s'.heap.get? b=some o'->b∉frs outer->h'.get? b=some o':=fun b o o' e e' hb=>by
  obtain⟨n1,n2,y⟩:=F b o e;refine hk.1 b o' e' n1 n2 fun hm=>?_;have j:b∈s⁻¹::frs outer:=hm;rcases Pa.mp j with z|z
  ·exact y z
  ·exact hb z
 have c:∀b o',s'.heap.get? b=some o'->b∈frs outer->∃i,h'.get? b=some {o' with slots:=i}:=fun b o' e' hb=>hk.2.1 b o' e' (show b∈s⁻¹::frs outer from Ax _ hb);have h:∀b:Addr,b∉(cv (eQ P w) P w K mg base N d scope f g A outer s H E).ex:=fun b z=>absurd (show b∈([]:List Addr) from z) (by simp);refine⟨x,C,some T',H',rfl,I.os,I.bare,⟨fun b o q n hb hx=>?_,fun b o q n hb hx=>?_,fun b o q n hx=>I.base.free b o q n (h b),fun b o q hx=>?_,I.base.tups,I.base.frzs,I.base.tbls⟩,GW I.hok hk r (fun a e=>(v a e).1) hfr,r,u,fun a e=>?_,hx',G⟩
 ·exact p b o o q (I.base.keep b o q n hb (h b)) hb
 ·obtain⟨i,e⟩:=I.base.slot b o q n hb (h b)
  obtain⟨D,e'⟩:=c b _ e hb;exact⟨D,e'⟩
 ·obtain⟨o',e⟩:=I.base.there b o q (h b)
  by_cases hb:b∈frs outer
  ·obtain⟨i,e'⟩:=c b o' e hb
   exact⟨_,e'⟩
  ·exact⟨o',p b o o' q e hb⟩
 ·cases e
  refine⟨I.hok.fresh l,?_⟩;cases q:s.heap.get? T' with
  |none=>rfl
  |some o=>exact absurd (Am q) (Nat.not_lt.mpr (Ay hsz l))
def hY{P:Program}{w:World}{K:Ac}{mg:Str->Option Value}{base:Heap}{N:List Str}{i:Str}{scope:Scope}{f:Addr}{j:Value}{A:Around}{outer:List Env}{s:Shared}{H:Hp}{E:XK}:de (eQ P w) (cv (eQ P w) P w K mg base N i scope f j A outer s H E) E:=by
 rintro aa σ H1 l e p I ⟨x,C,T,H',rfl,os,d,un,g,r,u,h,hx,v⟩;have y:Inv (cv (eQ P w) P w K mg base N i scope f j A outer s H E) aa σ H' p:=I.call' (ch:=[]) os un g d (fun b z=>absurd z (by simp));have c:∀b,l.heap.get? b=none->s.heap.get? b=none:=fun b hb=>by
  cases q:s.heap.get? b with
  |none=>rfl
  |some o=>
   obtain⟨o',e⟩:=I.base.there b o q (fun z=>absurd (show b∈([]:List Addr) from z) (by simp));rw[hb] at e;cases e
 exact C4 y hx r (c x u) (fun a e=>⟨(h a e).1,c a (h a e).2⟩) v
def Fun.ok1{P:Program}{w:World}{K:Ac}{mg:Str->Option Value}{base:Heap}{x a:Str}{st:Stmt}{f:Addr}{fd:FuncData}{N ps:List Str}{k:Nat}{sp:Sp}(F:Fun K x a st f fd)(S:zm N ps (zb st))(len:∀vs H Q E,sp vs H Q E->vs.length=ps.length)(d:∀(cdv:Value)(A:Around)(outer:List Env)(s:Shared)(H:Hp)(vs:List V)(Q:VK)(E:XK),Room k (A.deeper (envOfC a (zb st) s⁻¹ f cdv))->sp vs H Q E->
   ∃t,PSs (cv (eQ P w) P w K mg base N a (zb st) f cdv A outer s H E) (zah st) t/\t {nx:=fun _ H'=>Q .non H',rt:=Q} (start N vs) H):FnOk P w K mg base (eQ P w) (k+1) f fd ps sp:=by
 obtain⟨e,g,kV,h,i,j,cdv,ct,l,rfl,lk,c⟩:=F.ex;exact wf lk c S len fun A outer s H vs Q E hr b=>d cdv A outer s H vs Q E hr b
def MR{P:Program}{w:World}{H:Hp}{h:Heap}{a:Addr}{o:HO}(x:zw P w H h a o):∃ob,h.get? a=some ob:=by
 cases o with
 |lst xs=>obtain⟨_,_,_,_,e⟩:=x;exact⟨_,e⟩
 |tup xs=>obtain⟨_,_,_,o,e,_⟩:=x;exact⟨_,e⟩
 |dK kvs=>obtain⟨_,_,_,_,o,_,_,e,_⟩:=x;exact⟨_,e⟩
 |dT kvs=>obtain⟨_,_,_,_,o,_,_,e,_⟩:=x;exact⟨_,e⟩
 |set S n=>obtain⟨o,_,_,_,e,_⟩:=x;exact⟨_,e⟩
 |ins C dx fs=>obtain⟨_,_,_,e,_⟩:=x;exact⟨_,e⟩
 |own y=>exact x
 |xd fs=>obtain⟨_,⟨_,_,_,e,_⟩,_⟩:=x;exact⟨_,e⟩
 |met f y=>exact⟨_,x⟩
 |rng lo hi=>obtain⟨_,_,_,e⟩:=x;exact⟨_,e⟩
 |frz ob u=>exact⟨_,x.1⟩
 |tbl ps=>exact⟨_,x⟩
 |ext φ=>exact x.2.1
def C5{K:Ac}{h:Heap}{C:Addr}{c:List Value}{j:String}(X:K.In h)(q:PY K C c j=true):∃bm N nm b bs hdct sn sub ab col dd k0 k1 k2 k3 k5,∃f:Str->Option Value,f "__init__"=none/\(∀T,c.contains (.type T)=true->bm.contains (.type T)=true)/\∀h':Heap,K.In h'->h'.get? C=some (excClassObj nm b C N bs bm hdct sn sub ab col dd k0 k1 k2 k3 k5 j)/\h'.Ns N f/\OwnTail h' c bm:=by
 unfold PY at q;split at q
 ·rename_i dd cd sl ho
  split at q
  ·rename_i C' bm k0 k1 k2 k3 n k5 hm hs
   simp only[AF,beq_iff_eq,Ra] at q;obtain⟨⟨⟨⟨⟨rfl,rfl⟩,g⟩,ht⟩,a⟩,i⟩:=q;obtain⟨nm,bs,mro,ns,b,hd,sn,sub,ab,col,v⟩:=cd;dsimp only at hm g a i;subst hm g;have r:sl=#[k0,k1,k2,k3,some (.builtin n),k5]:=by
    obtain⟨l⟩:=sl;simp only at hs;rw[hs]
   subst r;refine⟨bm,ns,nm,b,bs,hd,sn,sub,ab,col,dd,k0,k1,k2,k3,k5,h.nsMap ns,PySem.W.nsMap_none_of_in X a i,fun T p=>(PySem.W.tail_of_in X ht).hasType p,fun h' d=>⟨d _ _ ho,?_,PySem.W.tail_of_in d ht⟩⟩;have u:h.Ns ns (h.nsMap ns):=.of_isNs (PySem.W.isNs_of_in X a);unfold PySem.W.nsOkIn at a;split at a
   ·rename_i c1 d1 es1 ep1 sl1 eE
    exact u.at' fun o e=>by
     rw[X _ _ eE] at e;rw[<-e];exact d _ _ eE
   ·cases a
  ·cases q
 ·cases q
abbrev j_:List Value:=[.type "ValueError",.type "Exception",.type "BaseException",.type "object"]
section
variable{X:Cx}
def MS(EX:XK)(C:Addr):TS:=fun _ _ H=>∀x,H x=none->EX (.ref x) (some C) H
def GX{x:Str}{C:Addr}{b:Str}{j:Nat}{M d ay pos:Pos}{EX:XK}(hc:X.calm=true)(O:Gl X x)(hm:X.mg x=some (.ref C))(q:PY X.K C j_ "ValueError.__new__"=true)(P:∀(aa:Ψ)(σ:St)(H:Hp)(s:Shared)(x:Addr),Inv X aa σ H s->Xc s.heap x (.ref C) none->H x=none->X.s₀.heap.get? x=none->EX (.ref x) (some C) H->X.xe (.ref x) s)(hex:X.ex=[]:=by rfl)(hd:(x==("__debug__":Str))=false:=by decide)(Q:(backTo ay (starEach [Expr.Constant (.str b) j d] X.env)).any (·.1)=false:=by rfl):PS X (.Raise (some (.Call (.Name x M) [.Constant (.str b) j d] [] ay)) none pos) (MS EX C):=by
 intro aa s σ H D I h;obtain⟨bm,N,nm,r,bs,hdct,sn,sub,ab,col,dd,k0,k1,k2,k3,k5,U,w,y,A⟩:=C5 I.kIn q;refine wpAny_Raise_call_subU (C:=C) (nm:=nm) (q:=r) (N:=N) (bs:=bs) (bm:=bm) (hdct:=hdct) (sn:=sn) (sub:=sub) (ab:=ab) (col:=col) (dd:=dd) (k0:=k0) (k1:=k1) (k2:=k2) (k3:=k3) (k5:=k5) RG PySem.F.excBase_ValueError.hasB RG (y _ PySem.F.excBase_ValueError.hasBase) (I.ok.hd hc) Q w ?_;refine aV (lR (v:=.ref C) O hm rfl hd aa s σ H (fun v H1=>v=.ref C/\H1=H) I ⟨rfl,rfl⟩) fun f g ⟨v,H1,S,i,e1,e2⟩=>?_;subst e1 e2;cases i;refine⟨rfl,?_⟩;have L:=(ac pe_str ak:PA X [Expr.Constant (.str b) j d] _) ay aa g σ H1 (fun vs H2=>vs=[.str b]/\H2=H1) S ⟨rfl,rfl⟩;refine Calls.evalArgs_plain (aV L fun us c ⟨vs,H2,I2,l,e3,p⟩=>?_);subst e3 p;obtain⟨E,G,J⟩:=A c.heap I2.kIn;refine⟨rfl,?_,E,G,J,fun h' e hm=>?_⟩
 ·rw[<-l.length];show 1<=sizeLine;decide
 obtain⟨t,ht,_,_⟩:=hm.there;have T:Inv X aa σ H2 {c with heap:=h'}:=I2.kept (t':=c.toks) hm.keeps;have he:H2 e=none:=by
  cases z:H2 e with
  |none=>rfl
  |some u=>
   obtain⟨o,a⟩:=MR (I2.hok e u z);rw[hm.new] at a;cases a
 refine P aa σ H2 _ e T ⟨_,_,ht,rfl,rfl,rfl,(by show 1<6;decide),.inl ⟨rfl,rfl⟩⟩ he ?_ (h e he);cases z:X.s₀.heap.get? e with
 |none=>rfl
 |some o=>
  obtain⟨o',a⟩:=I2.base.there e o z (by rw[hex];simp);rw[hm.new] at a;cases a
end
section
variable{M:Model}{A:Around}{E:Ω}{s:Shared}
def MT{base:Heap}{env:Env}{outer:List Env}{L x:Addr}{C:Value}{T:Option Addr}{Q:Unit->Shared->Prop}(hfr:A.frames=some (env::outer))(p:s.heap.FunFrames base (env::outer))(hf:env.frame=some L)(he:Xc s.heap x C T)(h:∀h' T',s⁻¹<=T'->Xc h' x C (some T')->mX ((env::outer).filterMap (·.frame)) x T s.heap h'->Q () {s with heap:=h'}):wpAny M A (noteFrame (.ref x) env) (fun _ y=>wpAny M A (setFlight (.ref x) none) Q E y) E s:=by
 obtain⟨G,vs,he,rfl,u,hd,hsz,h1⟩:=he;unfold noteFrame;simp only[hf];rcases h1 with ⟨rfl,h1⟩|⟨a,H,ts,rfl,h1,F,j,l,v⟩
 ·refine Aa (AO he hd h1 ?_)
  rw[Sb ξ];exact ti hfr p hf he u hd hsz h
 ·refine Aa (AO he hd h1 ?_)
  rw[Sa (show(Value.ref a != Value.none)=true from by simp)];refine Aa (AO j l v ?_);rw[Sb (show ¬((Value.none==rawInt L)=true) from by simp[rawInt])];refine Aa (wpAny_setField j l (QM.mp v).1 ?_);have g:∀b,b≠a->(s.heap.update a (Obj.mapFields (·.setIfInBounds 3 Value.none))).get? b=s.heap.get? b:=fun b hb=>AE _ _ (Ne.symm hb);have w:∀b o,s.heap.get? b=some o->(∀vs,o.data≠.fields vs)->b≠a:=fun b o hb c q=>by
   rw[q,j] at hb;injection hb with hb;subst hb;exact c ts l
  refine ti hfr (p.of_keeps fun b o hb c=>⟨o,(g b (w b o hb c)).trans hb,rfl⟩) hf ((g x (Ne.symm F)).trans he) u hd hsz fun h' T' r hx hk=>h h' T' (by rw[Heap.size_update] at r;exact r) hx ?_;obtain⟨k1,k2,k3⟩:=hk;refine⟨fun b o hb D i f=>k1 b o ((g b fun e=>i (by rw[e])).trans hb) D (by simp) f,fun b o hb f=>?_,by rw[Heap.size_update] at k3;exact k3⟩;obtain⟨_,o',d,c⟩:=p.mem f;rw[hb] at d;cases d;exact k2 b o ((g b (w b o hb c)).trans hb) f
def MU{x:Addr}{C:Value}{T:Addr}{Q:Unit->Shared->Prop}(he:Xc s.heap x C (some T))(h:∀h',Xc h' x C (some T)->mX [] x (some T) s.heap h'->Q () {s with heap:=h'}):wpAny M A (setFlight (.ref x) none) Q E s:=by
 obtain⟨j,vs,he,rfl,l,hd,hsz,h1⟩:=he;rcases h1 with ⟨z,_⟩|⟨a,r,ts,z,h1,g,i,f,p⟩
 ·cases z
 cases z;unfold setFlight;refine Aa (AO he hd h1 ?_);rw[Sa (show(Value.ref T != Value.none)=true from by simp)];have c:=(QM.mp p).1;refine wpAny_setField i f c (h _ ?_ ?_)
 ·refine⟨j,vs,?_,rfl,l,hd,hsz,.inr ⟨T,_,_,rfl,h1,g,Heap.get?_update_self _ i (Obj.isFreed_of_fields (Obj.data_mapFields f _)),Obj.data_mapFields f _,?_⟩⟩
  ·rw[AE _ _ g];exact he
  ·simp[c]
 ·refine⟨fun b o hb q d _=>?_,fun b o _ z=>absurd z (by simp),by rw[Heap.size_update];exact Af _⟩
  rw[AE _ _ (fun e=>d (by rw[e]))];exact hb
def MV{C S:Addr}{nm q N bs bm hdct sn sub ab col dd k0 k1 k2 k3 k5 bJ}{iU q' N' i4 fh bZ iZ dH iO dF cZ gZ jl iR iT iP cq}{h:Heap}{g:Array GenState}{d:Drawn}{t:Nat}{os:OsState}{e:Addr}{b:Obj}{Q:Bool->Shared->Prop}(i:h.get? C=some (excClassObj nm q C N bs bm hdct sn sub ab col dd k0 k1 k2 k3 k5 bJ))(c:h.get? S=some (excClassObj iU q' S N' i4 fh bZ iZ dH iO dF cZ gZ jl iR iT iP cq))(he:h.get? e=some b)(j:b.cls=.ref C)(l:fh.contains (.type "BaseException")=true)(o:(Value.ref C::bm).contains (.ref S)=true)(hq:Q true ⟨h,g,d,t,os⟩):wpAny M A (excMatches (.ref e) (.ref S)) Q E ⟨h,g,d,t,os⟩:=by
 have a:(Value.ref S::fh).contains (.type "BaseException")=true:=by rw[List.contains_cons,l,Bool.or_true]
 have f:=tc_notTuple;unfold excMatches
 repeat(first|(with_reducible refine wpAny_loadPart_at he ?_;rw[j])|with_reducible refine wpAny_loadPart_at c ?_|(with_reducible refine wpAny_isSubtype_exc c ?_;rw[a])|(with_reducible refine wpAny_isSubtype_exc i ?_;rw[o])|wp_step)
 exact hq
end
section
variable{X:Cx}{aa:Ψ}{σ:List (Option V)}{H H':Hp}{s:Shared}{h':Heap}
structure Off(X:Cx)(aa:Ψ)(x:Addr):Prop where
 s0:X.s₀.heap.get? x=none
 lo:x≠X.env.locals
 ce:∀y c,X.env.cells.lookup y=some c->c≠x
 pn:∀p∈X.pn++aa,p.1≠x
def Inv.off(I:Inv X aa σ H s)(hex:X.ex=[]){x:Addr}(h:s.heap.get? x=none):Off X aa x:=by
 refine⟨?_,fun e=>?_,fun y c e z=>?_,fun p hp z=>?_⟩
 ·cases q:X.s₀.heap.get? x with
  |none=>rfl
  |some o=>
   obtain⟨o',e⟩:=I.base.there x o q (by rw[hex];simp);rw[h] at e;cases e
 ·obtain⟨m,⟨o,_,_,a,_⟩,_⟩:=I.loc
  rw[<-e,h] at a;cases a
 ·obtain⟨v,o,a,_⟩:=I.cell y c e
  rw[z,h] at a;cases a
 ·have:=(I.pin p hp).1
  rw[z,h] at this;cases this
def Inv.stepN{ch:List Addr}(I:Inv X aa σ H s)(j:∀b∈ch,Off X aa b)(keep:∀b o,b≠X.env.locals->b∉X.fs->b∉ch->s.heap.get? b=some o->H b=none->h'.get? b=some o)(slot:∀b o,b≠X.env.locals->b∈X.fs->b∉ch->s.heap.get? b=some o->H b=none->∃A,h'.get? b=some {o with slots:=A})(free:∀b o,b∉ch->s.heap.get? b=some o->H b=none->H' b=none)(there:∀b o,b∉ch->s.heap.get? b=some o->∃o',h'.get? b=some o')(tups:∀b xs,H b=some (.tup xs)->H' b=some (.tup xs))(frzs:∀b o u,H b=some (.frz o u)->H' b=some (.frz o u))(tbls:∀b ps,H b=some (.tbl ps)->∃more,H' b=some (.tbl (ps++more)))(ns:∀m,s.heap.Ns X.env.locals m->h'.Ns X.env.locals m)(C:HOk X.prog X.w H' h'):Inv X aa σ H' {s with heap:=h'}:=by
 have h:∀b o,X.s₀.heap.get? b=some o->b≠X.env.locals:=fun b o e=>Ar (Au (Am e) I.ok.above);have y:∀b o,X.s₀.heap.get? b=some o->b∉ch:=fun b o e hb=>by
  rw[(j b hb).s0] at e;cases e
 have a:∀x c,X.env.cells.lookup x=some c->∀v,s.heap.IsCell c v->h'.IsCell c v:=fun x c e v ⟨o,g,hd⟩=>by
  have f:c∉ch:=fun z=>(j c z).ce x c e rfl
  by_cases hc:c∈X.fs
  ·obtain⟨A,q⟩:=slot c o (I.cne x c e) hc f g (I.freeC x c e)
   exact⟨_,q,hd⟩
  ·exact⟨o,keep c o (I.cne x c e) hc f g (I.freeC x c e),hd⟩
 refine⟨I.ok,I.os,I.bare,⟨fun b o e n hb hx=>?_,fun b o e n hb hx=>?_,fun b o e n hx=>?_,fun b o e hx=>?_,fun b xs e=>tups b xs (I.base.tups b xs e),fun b o xs e=>frzs b o xs (I.base.frzs b o xs e),fun b ps e=>?_⟩,?_,fun x c e=>?_,?_,fun x c e=>?_,fun p hp=>?_,C,I.len⟩
 ·exact keep b o (h b o e) hb (y b o e) (I.base.keep b o e n hb hx) (I.base.free b o e n hx)
 ·obtain⟨A,e1⟩:=I.base.slot b o e n hb hx
  obtain⟨E,e2⟩:=slot b _ (h b o e) hb (y b o e) e1 (I.base.free b o e n hx);exact⟨E,e2⟩
 ·obtain⟨o',e1⟩:=I.base.there b o e hx
  exact free b o' (y b o e) e1 (I.base.free b o e n hx)
 ·obtain⟨o',e1⟩:=I.base.there b o e hx
  exact there b o' (y b o e) e1
 ·obtain⟨F,e1⟩:=I.base.tbls b ps e
  obtain⟨G,e2⟩:=tbls b _ e1;exact⟨F++G,by rw[e2,Array.append_assoc]⟩
 ·obtain⟨m,J,L⟩:=I.loc
  refine⟨m,ns m J,fun i x v e1 e2 e3=>?_⟩;obtain⟨u,r,l⟩:=L i x v e1 e2 e3;refine⟨u,r,?_⟩;rcases l with l|⟨k,c,e,z⟩
  ·exact .inl l
  ·exact .inr ⟨k,c,e,a x c e _ z⟩
 ·obtain⟨v,z⟩:=I.cell x c e
  exact⟨v,a x c e v z⟩
 ·obtain⟨m,⟨o,_,_,g,_⟩,_⟩:=I.loc
  exact free _ o (fun z=>(j _ z).lo rfl) g I.free
 ·obtain⟨v,o,g,hd⟩:=I.cell x c e
  exact free c o (fun z=>(j c z).ce x c e rfl) g (I.freeC x c e)
 ·obtain⟨e,n,ne,D,d⟩:=I.pin p hp
  have f:p.1∉ch:=fun z=>(j p.1 z).pn p hp rfl;exact⟨keep p.1 p.2 ne D f e n,free p.1 p.2 f e n,ne,D,d⟩
def Inv.xkeep{fr:List Addr}{x:Addr}{T:Option Addr}(I:Inv X aa σ H s)(k:mX fr x T s.heap h')(hfr:∀b∈fr,b∈frs X.stack)(ox:Off X aa x)(hx:H x=none)(d:∀a,T=some a->Off X aa a/\H a=none):Inv X aa σ H {s with heap:=h'}:=by
 have c:∀b o,b∉(x::T.toList)->s.heap.get? b=some o->∃c,h'.get? b=some {o with slots:=c}:=fun b o hc e=>by
  by_cases hb:b∈fr
  ·exact k.2.1 b o e hb
  ·exact⟨o.slots,k.1 b o e (fun z=>hc (by simp[z])) (fun z=>hc (by simp[z])) hb⟩
 refine I.stepN (ch:=x::T.toList) (fun b hb=>?_) (fun b o f hb hc e _=>?_) (fun b o _ _ hc e _=>c b o hc e) (fun _ _ _ _ n=>n) (fun b o hc e=>?_) (fun _ _ e=>e) (fun _ _ _ e=>e) (fun b ps e=>⟨#[],by rw[e];simp⟩) (fun m hm=>?_) (GW I.hok k hx (fun a e=>(d a e).2) fun b hb=>I.stkFree b (hfr b hb))
 ·rcases Pa.mp hb with z|z
  ·rw[z];exact ox
  ·exact(d b (by simpa using z)).1
 ·exact k.1 b o e (fun z=>hc (by simp[z])) (fun z=>hc (by simp[z])) fun z=>(Pa.mp (I.stkSub b (hfr b z))).elim f hb
 ·obtain⟨z,e⟩:=c b o hc e
  exact⟨_,e⟩
 ·obtain⟨o,es,ep,g,r⟩:=hm
  obtain⟨z,e⟩:=c _ o (fun z=>by
   rcases Pa.mp z with z|z
   ·exact ox.lo z.symm
   ·exact(d _ (by simpa using z)).1.lo rfl) g
  exact⟨_,es,ep,e,r⟩
abbrev ee(x C:Addr):HO:=.ext fun h=>∃o,PySem.W.InstAt h x o C none
def Inv.know{x C:Addr}{T:Option Addr}(I:Inv X aa σ H s)(hx:H x=none)(ox:Off X aa x)(e:Xc s.heap x (.ref C) T):Inv X aa σ (upd H x (ee x C)) s:=by
 obtain⟨a,vs,he,hc,g,h,_⟩:=e;have i:PySem.W.notCls a=true:=by unfold PySem.W.notCls;rw[h]
 have d:match a.dict,(none:Option Obj) with|some dx,some o=>s.heap.get? dx=some o|none,none=>True|_,_=>False:=by rw[g];trivial
 have ne:∀b u,H b=some u->b≠x:=fun b u e z=>by rw[z,hx] at e;cases e
 refine I.stepN (h':=s.heap) (ch:=[x]) (fun b hb=>?_) (fun b o _ _ _ e _=>e) (fun b o _ _ _ e _=>⟨o.slots,e⟩) (fun b o hc _ n=>?_) (fun b o _ e=>⟨o,e⟩) (fun b xs e=>?_) (fun b o u e=>?_) (fun b ps e=>⟨#[],?_⟩) (fun m hm=>hm) (fun b u e=>?_)
 ·obtain rfl:b=x:=by simpa using hb
  exact ox
 ·rw[al (fun z=>hc (by simp[z]))];exact n
 ·rw[al (ne b _ e)];exact e
 ·rw[al (ne b _ e)];exact e
 ·rw[al (ne b _ e),e];simp
 ·by_cases hb:b=x
  ·subst hb
   rw[ag] at e;cases e;refine⟨⟨a,he,hc,i,d⟩,⟨a,he⟩,fun h1 h2 ⟨o,e1,e2,e3,f⟩ q=>⟨o,q o e1,e2,e3,?_⟩⟩;cases z:o.dict with
   |none=>trivial
   |some dx=>rw[z] at f;exact f.elim
  ·rw[al hb] at e
   refine(I.hok b u e).stay (fun c v _ q=>q) (fun c q=>?_) fun c xs q=>?_
   ·rw[al (ne c _ q)];exact q
   ·rw[al (ne c _ q)];exact q
end
section
variable{X:Cx}{aa bK:Ψ}{σ:List (Option V)}{H H':Hp}{s:Shared}{h':Heap}{EB:XK}
def MW(X:Cx)(aa:Ψ)(EB:XK):Ω:=fun e s=>∃(x C:Addr)(T:Option Addr)(σ:St)(H:Hp),e=.ref x/\Inv X aa σ H s/\Xc s.heap x (.ref C) T/\H x=none/\Off X aa x/\(∀a,T=some a->Off X aa a/\H a=none)/\EB (.ref x) (some C) H
abbrev XB(X:Cx)(aa:Ψ)(EB:XK):Cx:={X with pn:=X.pn++aa,xe:=MW X aa EB}
abbrev XH(X:Cx)(aa:Ψ)(x:Addr):Cx:={X with A:=X.A.mark (some (.ref x)),calm:=false,pn:=X.pn++aa,xe:=fun _ _=>False}
def Inv.toB(I:Inv X aa σ H s):Inv (XB X aa EB) [] σ H s:=
 ⟨⟨I.ok.mod,I.ok.kind,I.ok.glob,I.ok.blt,I.ok.above,I.ok.inj,I.ok.has,I.ok.cab,I.ok.hd,I.ok.frames,I.ok.stk,I.ok.exf,I.ok.bs,I.ok.bsz,I.ok.noex,I.ok.exfs,I.ok.funs,I.ok.frf⟩,I.os,I.bare,I.base,I.loc,I.cell,I.free,I.freeC,
  fun p hp=>I.pin p (by simpa using hp),I.hok,I.len⟩
def Inv.ofB(I:Inv (XB X aa EB) bK σ H s):Inv X aa σ H s:=
 ⟨⟨I.ok.mod,I.ok.kind,I.ok.glob,I.ok.blt,I.ok.above,I.ok.inj,I.ok.has,I.ok.cab,I.ok.hd,I.ok.frames,I.ok.stk,I.ok.exf,I.ok.bs,I.ok.bsz,I.ok.noex,I.ok.exfs,I.ok.funs,I.ok.frf⟩,I.os,I.bare,I.base,I.loc,I.cell,I.free,I.freeC,
  fun p hp=>I.pin p (Pu _ hp),I.hok,I.len⟩
def Inv.toH{x:Addr}(I:Inv X aa σ H s):Inv (XH X aa x) [] σ H s:=
 ⟨⟨I.ok.mod,I.ok.kind,I.ok.glob,I.ok.blt,I.ok.above,I.ok.inj,I.ok.has,I.ok.cab,(fun z=>nomatch z),I.ok.frames,I.ok.stk,I.ok.exf,I.ok.bs,I.ok.bsz,I.ok.noex,I.ok.exfs,I.ok.funs,I.ok.frf⟩,I.os,I.bare,I.base,I.loc,I.cell,I.free,I.freeC,
  fun p hp=>I.pin p (by simpa using hp),I.hok,I.len⟩
def Inv.ofH{x:Addr}(I:Inv (XH X aa x) bK σ H s)(hd:X.calm=true->X.A.handled=none):Inv X aa σ H s:=
 ⟨⟨I.ok.mod,I.ok.kind,I.ok.glob,I.ok.blt,I.ok.above,I.ok.inj,I.ok.has,I.ok.cab,hd,I.ok.frames,I.ok.stk,I.ok.exf,I.ok.bs,I.ok.bsz,I.ok.noex,I.ok.exfs,I.ok.funs,I.ok.frf⟩,I.os,I.bare,I.base,I.loc,I.cell,I.free,I.freeC,
  fun p hp=>I.pin p (Pu _ hp),I.hok,I.len⟩
def SP.ofB{D:Ends}{f:Flow}{s':Shared}(h:SP (XB X aa EB) [] D f s'):SP X aa D f s':=by
 cases f with
 |next=>obtain⟨a,H',I,q⟩:=h;exact⟨a,H',I.ofB,q⟩
 |brk=>obtain⟨a,H',I,q⟩:=h;exact⟨a,H',I.ofB,q⟩
 |cont=>obtain⟨a,H',I,q⟩:=h;exact⟨a,H',I.ofB,q⟩
 |ret u=>obtain⟨v,a,H',I,r,q⟩:=h;exact⟨v,a,H',I.ofB,r,q⟩
def GY(hex:X.ex=[]):de (eQ X.prog X.w) (XB X aa EB) EB:=by
 rintro bK σ H1 g e h I ⟨x,C,T,H',rfl,os,c,un,d,i,j,f,hx,l⟩;have I2:Inv (XB X aa EB) bK σ H' h:=I.call' (ch:=[]) os un d c (fun b z=>absurd z (by simp));have J:Inv X aa σ H1 g:=I.ofB;exact⟨x,C,T,σ,H',rfl,I2.ofB,hx,i,J.off hex j,fun a e=>⟨J.off hex (f a e).2,(f a e).1⟩,l⟩
def Inv.gone{i:Nat}{n:Str}{m:Str->Option Value}{u:Option Value}(I:Inv X aa σ H s)(D:X.N.Nodup)(hi:X.N[i]?=some n)(E:∀(i:Nat)(x:Str)(v:V),X.N[i]?=some x->σ[i]?=some (some v)->nG X.env.scope x->∃u,RelV v u/\Look X.env s.heap m x u)(F:h'.Ns X.env.locals fun y=>if y=n then u else m y)(a:Heap.SameBut X.env.locals s.heap h'):Inv X aa (σ.set i none) H {s with heap:=h'}:=by
 have f:i<σ.length:=by rw[I.len];exact(KK.mp hi).1
 refine⟨I.ok,I.os,I.bare,⟨fun b o e n hb hx=>?_,fun b o e n hb hx=>?_,I.base.free,fun b o e hx=>?_,I.base.tups,I.base.frzs,I.base.tbls⟩,⟨_,F,fun j y l e1 e2 e3=>?_⟩,fun y c e=>?_,I.free,I.freeC,fun p hp=>?_,fun b ob e=>?_,by simpa using I.len⟩
 ·exact(a.2 b (Ar (Au (Am e) I.ok.above))).trans (I.base.keep b o e n hb hx)
 ·obtain⟨r,e1⟩:=I.base.slot b o e n hb hx
  exact⟨r,(a.2 b (Ar (Au (Am e) I.ok.above))).trans e1⟩
 ·obtain⟨o',e1⟩:=I.base.there b o e hx
  exact⟨o',(a.2 b (Ar (Au (Am e) I.ok.above))).trans e1⟩
 ·by_cases g:j=i
  ·subst g
   rw[QC f] at e2;cases e2
  ·rw[Rn (Ne.symm g)] at e2
   obtain⟨w,A,q⟩:=E j y l e1 e2 e3;refine⟨w,A,?_⟩;rcases q with ⟨k,e⟩|⟨k,c,e,z⟩
   ·refine .inl ⟨k,?_⟩
    have:y≠n:=fun e=>g (uD D e1 (e▸hi));simp[this,e]
   ·exact .inr ⟨k,c,e,z.sameBut a (I.cne y c e)⟩
 ·obtain⟨h,z⟩:=I.cell y c e
  exact⟨h,z.sameBut a (I.cne y c e)⟩
 ·obtain⟨e,n,ne,C,d⟩:=I.pin p hp
  exact⟨(a.2 p.1 ne).trans e,n,ne,C,d⟩
 ·refine(I.hok b ob e).stay (fun c h hc q=>(a.2 c ?_).trans q) (fun _ q=>q) fun _ _ q=>q
  rintro rfl;rcases hc with z|z
  ·rw[<-z,I.free] at e;cases e
  ·rw[I.free] at z;cases z
def hZ(K:Ac)(C S:Addr):Prop:=∀h:Heap,K.In h->∃nm q N bs bm hdct sn sub ab col dd k0 k1 k2 k3 k5 b c d N' e a f g i j l o p r u v w x,
 h.get? C=some (excClassObj nm q C N bs bm hdct sn sub ab col dd k0 k1 k2 k3 k5 b)/\h.get? S=some (excClassObj c d S N' e a f g i j l o p r u v w x)/\
 a.contains (.type "BaseException")=true/\(Value.ref C::bm).contains (.ref S)=true
def C6(K:Ac)(n ie:Nat)(S:Addr)(d:TS)(D:Ends):XK:=fun e c H'=>∃x C,e=.ref x/\c=some C/\hZ K C S/\∀a:St,a.length=n->
 d {nx:=fun b H2=>D.nx (b.set ie none) H2,rt:=fun _ _=>False} (a.set ie (some (.ref x))) (upd H' x (ee x C))
def C7(K:Ac)(n ie:Nat)(S:Addr)(t:XK->TS)(a:TS):TS:=fun D σ H=>t (C6 K n ie S a D) D σ H
def GZ{n:Str}{ie:Nat}{p:Str}{S:Addr}{body O:List Stmt}{P:Stmt}{t:XK->TS}{Q:TS}{np U pos:Pos}(hex:X.ex=[])(A:X.N.Nodup)(j:X.N[ie]?=some n)(g:X.env.scope.names.lookup n=some .local)(c:X.stack=X.env::X.outer)(hfr:X.env.frame=some X.env.locals)(xt:Gl X p)(xD:X.mg p=some (.ref S))(hb:∀aa EB,PSs (XB X aa EB) body (t EB))(hH:∀aa x,PSs (XH X aa x) (P::O) Q)(hd:(p==("__debug__":Str))=false:=by decide):PS X (.Try body [.ExceptHandler (some (.Name p np)) (some n) (P::O) U] [] [] pos) (C7 X.K X.N.length ie S t Q):=by
 intro aa s σ H D I h;refine wpAny_Try_except (wpAny_mono (hb aa _ [] s σ H D I.toB h) (fun f d q=>?_) (fun e d q=>?_))
 ·have i:SP X aa D f d:=q.ofB
  cases f with
  |next=>exact wpAny_execs_nil i
  |brk=>exact i
  |cont=>exact i
  |ret u=>exact i
 obtain⟨x,C,T,o,H1,rfl,I1,hx,w,ox,hT,x',C',e1,e2,sub,k⟩:=q;cases e1;cases e2;have vO:=c;refine MT (base:=X.base) (outer:=X.outer) (L:=X.env.locals) (by rw[<-c];exact I1.ok.frames) (by rw[<-c];exact I1.stack) hfr hx fun h2 T2 E F oK=>?_;have I2:Inv X aa o H1 {d with heap:=h2}:=I1.xkeep oK (fun b z=>by rw[c];exact z) ox w hT;have ua:d.heap.get? T2=none:=Heap.get?_none_of_le E;have ww:Off X aa T2:=I1.off hex ua;have yj:H1 T2=none:=I1.hok.fresh E;refine wpAny_handleBy_cons (codeAny_handlers_test ?_) (by intro q;cases q);refine qo (X:=XH X aa x) (I2.toH (x:=x)) xt xD ?_ hd;obtain⟨nm,q,N,bs,bm,hdct,sn,dH,ab,col,dd,k0,k1,k2,k3,k5,bJ,iU,i,N',i4,fh,bZ,iZ,p4,iO,dF,cZ,gZ,jl,iR,iT,iP,cq,hC,hS,dQ,bT⟩:=sub h2 I2.kIn;obtain⟨oe,vs,fR,y,_⟩:=id F;refine MV hC hS fR y dQ bT ?_;show codeAny _ _ _ _ _;refine codeAny_handlers_suite_as ?_;refine MU F fun r xV lV=>?_;have I4:Inv X aa o H1 {d with heap:=r}:=I2.xkeep (h':=r) lV (fun b z=>absurd z (by simp)) ox w (fun a e=>by cases e;exact⟨ww,yj⟩);have I5:Inv X aa o (upd H1 x (ee x C)) {d with heap:=r}:=I4.know w ox xV;refine qm (X:=XH X aa x) (I5.toH (x:=x)) A j (.inl g) (v:=.ref x) rfl (fun s6 I6=>?_) (.inr g);refine wpAny_mono (hH aa x [] s6 _ _ _ I6 (k o I1.len)) (fun f G l=>?_) fun _ _ z=>z.elim;cases f with
 |brk=>obtain⟨_,_,_,z⟩:=l;exact z.elim
 |cont=>obtain⟨_,_,_,z⟩:=l;exact z.elim
 |ret u=>obtain⟨_,_,_,_,_,z⟩:=l;exact z.elim
 |next=>
  obtain⟨J,W,I7,d7⟩:=l;have I7':Inv X aa J W G:=I7.ofH I.ok.hd;show wpAny _ _ (do bindName X.env n .none;unbindBehindTheSuite X.env n U) _ _ G;refine Aa (wpAny_bindName (qm I7' A j (.inl g) (v:=.non) rfl (fun s8 I8=>?_) (.inr g)));obtain⟨m,hn,M⟩:=id I8.loc;have l7:ie<J.length:=by rw[I7'.len];exact(KK.mp j).1
  obtain⟨u,_,lk⟩:=M ie n .non j (by rw[QC l7]) (.inl g);have kn:X.env.kindOf n=some .local:=g;have hm:m n=some u:=by
   rcases lk with ⟨_,e⟩|⟨z,_⟩
   ·exact e
   ·rw[kn] at z;rcases z with z|z<;>cases z
  unfold unbindBehindTheSuite;refine wpAny_onRaise (wpAny_unbindName_local kn hn hm (by rw[I.ok.kind];rfl) fun h9 u9 xq yw=>?_);have Y:=I8.gone A j M xq yw;rw[List.set_set] at Y;exact⟨_,W,Y,d7⟩
end
def MX{K:Ac}{C:Addr}{name:Str}{a g:Value}(hc:(QH K C).isSome=true)(ha:Bd K (.ref C) name=some (some a))(b:Qu K a "__get__"=some (some g))(ht:Q1 K a=some true):PySem.W.findObj K C none name=some (.bind g a):=by
 obtain⟨c,hc⟩:=Pn.mp hc;unfold PySem.W.findObj;rw[hc,Rk,ha,Rk];simp[b,ht]
structure eL(K:Ac)(D:Addr):Prop where
 ga:Bd K (.ref D) "__getattribute__"=some (some (.builtin "BaseException.__getattribute__"))
 gt:Bd K (.ref D) "__getattr__"=some none
 cls:(QH K D).isSome=true
 find:Bd K (.ref D) "__class__"=some (some (.builtin "object.__class__"))
 spec:Qu K (.builtin "object.__class__") "__get__"=some (some (.builtin "getset_descriptor.__get__"))
 tk:Q1 K (.builtin "object.__class__")=some true
 mro:Qq K D (.type "object")=some true
 mroB:Qq K D (.type "BaseException")=some true
section
variable{prog:Program}{w:World}{A:Around}{E:Ω}{s:Shared}{K:Ac}{x D:Addr}{ox:Obj}
def MY{M:Model}{b:Value}{Q:Unit->Shared->Prop}(c:eL K D)(X:K.In s.heap)(I:PySem.W.InstAt s.heap x ox D none)(hq:Q () s):wpAny M A (checkBuiltinCall "BaseException.__getattribute__" ⟨[.ref x,b],[]⟩) Q E s:=by
 obtain⟨hh,g,d,t,os⟩:=s;have hk:builtinKind "BaseException.__getattribute__"=some .slot:=δ
 have a:splitId "BaseException.__getattribute__"=some ("BaseException","__getattribute__"):=δ
 have ha:=F.args_bexc_ga (.ref x) b;have L0:=I.type (M:=M);have L1:=PySem.W.looks_mroIn (M:=M) X c.mroB;simp only[checkBuiltinCall,hk,a];refine Aa ?_;unfold isInstance;refine Aa (L0.at (L1.at ?_))
 repeat(first|assumption|wp_step)
def MZ{tk:Tok}{Q:Fin->Shared->Prop}(c:eL K D)(X:K.In s.heap)(I:PySem.W.InstAt s.heap x ox D none)(hq:Q (.done (.ret (.ref D))) s):wpAny (model prog w) A (Builtin.«object.__getattribute__» ⟨[.ref x,.str "__class__" tk],[]⟩) Q E s:=by
 obtain⟨hh,g,d,t,os⟩:=s;have hf:=MX c.cls c.find c.spec c.tk;have L0:=I.type (M:=model prog w);have L1:=PySem.W.looks_find (M:=model prog w) X I hf;unfold Builtin.«object.__getattribute__»
 repeat(first|with_reducible refine Aa (L0.at ?_)|with_reducible refine Aa (L1.at ?_)|wp_step)
 exact PySem.W.class_get (s:=⟨hh,g,d,t,os⟩) X I c.mro (Ae hq)
def M0{Q:Option Value->Shared->Prop}(c:eL K D)(X:K.In s.heap)(I:PySem.W.InstAt s.heap x ox D none)(h:Q (some (.ref D)) {s with toks:=s.toks+1}):wpAny (model prog w) A (getAttr? (.ref x) "__class__") Q E s:=by
 obtain⟨hh,g,d,t,os⟩:=s;have L0:=I.type (M:=model prog w);have L1:=PySem.W.looks_findIn (M:=model prog w) X c.ga;have L2:=PySem.W.looks_findIn (M:=model prog w) X c.gt;have FA:=F.excAttr_ValueError;have a:=FA.ga.bind (.ref x);have b:(Value.builtin "BaseException.__getattribute__" == Value.builtin "object.__getattribute__")=false:=δ
 unfold getAttr? getAttrBy? getAttrBy;refine Aa (wpAny_mkText (Aa (wpAny_attempt (AD (Aa (L0.at (Aa (L1.at ?_))))))));dsimp only;rw[Sb (by rw[b,Q9];decide)];unfold getAttrByItsOwn hookBefore;rw[Sa (show onTheHeap (.ref D)=true from rfl)];refine Aa (L2.at ?_);refine Aa (wpAny_attempt (AD ?_));unfold callGetattribute boundAndCalled;rw[Bool.false_and,Sb Aq,a];refine Aa (Ae ?_);refine wpAny_call (codeAny_call_builtin FA.ga.plain F.entry_bexc_ga (MY (s:=⟨hh,g,d,t+1,os⟩) c X I (MZ (s:=⟨hh,g,d,t+1,os⟩) c X I ?_)));exact PySem.W.handed_on rfl (Ae h)
end
def M5{K:Ac}{x D:Addr}{ox:Obj}(c:eL K D):PySem.W.KitX K (.ref x) (.ref D) (fun h=>PySem.W.InstAt h x ox D none) where
 ty:=fun _ _ _ I=>I.type
 it:=fun _ _ X _=>by
  obtain⟨d,a⟩:=Pn.mp c.cls;unfold QH at a;split at a
  ·rename_i c' d' cd' fX ho
   intro g i j s' k q;unfold isType loadHead;exact Aa (wpAny_loadPart (k _ _ (X _ _ ho)) (Ae q))
  ·cases a
 ne:=fun h tp dd ae n f X b=>by
  obtain⟨d,a⟩:=Pn.mp c.cls;refine Bool.eq_false_iff.mpr fun q=>?_;have e:D=tp:=Value.ref.inj (beq_iff_eq.mp q);subst e;unfold QH at a;split at a
  ·rename_i c' d' cd' fX ho
   have z:=(X _ _ ho).symm.trans b;cases z
  ·cases a
 ca:=fun X I k=>M0 c X I k
section
variable{X:Cx}
def G0{c:V}{a:Value}{b:Bool}{C:Addr}(g:∀u,RelV c u->u=a)(i:eL X.K C)(e:A4 X.K (.ref C) a=some b):dy X (.builtin "isinstance") (fun xs H Q=>∃x,xs=[.ref x,c]/\H x=some (ee x C)/\Q (.bl b) H):=by
 intro aa s σ H xs us Q I r h;obtain⟨x,rfl,hx,q⟩:=h;obtain⟨u,j,rfl,d,f⟩:=vals2 r;obtain rfl:=g _ f;cases(show u=Value.ref x from d);obtain⟨⟨o,p⟩,_⟩:=(show zw X.prog X.w H s.heap x (ee x C) from I.hok x _ hx);exact Py (M5 i) I.kIn p e (fun z=>nomatch z) fun tk=>⟨.bl b,H,I.tok _,rfl,q⟩
end
structure zb4(k:Nat)(A:Around):Prop where
 dp:A.depth+3*k+5<recursionLimit
 un:A.units+16*k+200<cLine
def Room.mark{k:Nat}{A:Around}(r:Room k A)(v:Option Value):zb4 k (A.mark v):=⟨r.dp,r.un⟩
def zb4.deeper{k:Nat}{A:Around}(r:zb4 (k+1) A)(env:Env):zb4 k (A.deeper env):=
 ⟨by have:=r.dp;show A.depth+1+3*k+5<_;omega,by have:=r.un;show A.units+3+16*k+200<_;omega⟩
def zb4.depth{k:Nat}{A:Around}(r:zb4 k A):A.depth<recursionLimit:=by have:=r.dp;omega
def zb4.units{k:Nat}{A:Around}(r:zb4 k A):A.units+64<cLine:=by have:=r.un;omega
structure mY(P:Program)(w:World)(K:Ac)(mg:Str->Option Value)(base:Heap)(k:Nat)(f:Addr)(fd:FuncData)(ps:List Str)(sp:Sp):Prop where
 len:∀vs H Q E,sp vs H Q E->vs.length=ps.length
 run:∀(A:Around)(outer:List Env)(s:Shared)(H:Hp)(args:Args)(us:List Value)(vs:List V)(Q:VK)(E:XK),zb4 k A->Env0 P w K mg base A outer s H->BindsTo s fd args (ps.zip us)->Vals vs us->sp vs H Q E->
  codeAny (model P w) A (.call (.ref f) args) (CR aR outer P w H s Q E) s
abbrev pI(P:Program)(w:World)(K:Ac)(mg:Str->Option Value)(base:Heap)(N:List Str)(af:Str)(scope:Scope)(f:Addr)(cd:Value)(A:Around)(outer:List Env)(s:Shared)(H:Hp)(E:XK):Cx:=
 {cv aR P w K mg base N af scope f cd A outer s H E with calm:=false,xe:=fun _ _=>False}
def M6{P:Program}{w:World}{K:Ac}{mg:Str->Option Value}{base:Heap}{N ps:List Str}{b:Str}{scope:Scope}{f:Addr}{c:Value}{A:Around}{outer:List Env}{s d:Shared}{H:Hp}{E:XK}{us:List Value}{vs:List V}(S:zm N ps scope)(a:Env0 P w K mg base A outer s H)(e:vs.length=ps.length)(r:Vals vs us)(x:InCallC s s⁻¹ (bindL (envOfC b scope s⁻¹ f c).kindOf (ps.zip us) fun _=>none) (Bh (s⁻¹+1) scope.names []) (bindC (envOfC b scope s⁻¹ f c).kindOf (ps.zip us) fun _=>none) d):Inv (pI P w K mg base N b scope f c A outer s H E) [] (start N vs) H d:=by
 have I:Inv (cv aR P w K mg base N b scope f c {A with handled:=none} outer s H E) [] (start N vs) H d:=Es (A:={A with handled:=none}) S rfl ⟨a.frames,a.mod,a.bs,a.bsz,a.funs,a.frf,a.hok,a.bare⟩ e r x;exact⟨⟨I.ok.mod,I.ok.kind,I.ok.glob,I.ok.blt,I.ok.above,I.ok.inj,I.ok.has,I.ok.cab,(fun z=>nomatch z),Around.frames_deeper a.frames,I.ok.stk,I.ok.exf,I.ok.bs,I.ok.bsz,I.ok.noex,I.ok.exfs,I.ok.funs,I.ok.frf⟩,I.os,I.bare,I.base,I.loc,I.cell,I.free,I.freeC,I.pin,I.hok,I.len⟩
def M7{P:Program}{w:World}{K:Ac}{mg:Str->Option Value}{base:Heap}{k:Nat}{f:Addr}{name a:Str}{i:Arguments}{body:List Stmt}{scope:Scope}{j kV l p cdv ct Y:Value}{C od:Option Addr}{L:Array (Option Value)}{N ps:List Str}{sp:Sp}(lk:K.lookup f=some ⟨Y,od,.func (Qp name a i body scope j kV l p C cdv ct),L⟩)(M:Q6 K cdv a=true)(S:zm N ps scope)(len:∀vs H Q E,sp vs H Q E->vs.length=ps.length)(aG:∀(A:Around)(outer:List Env)(s:Shared)(H:Hp)(vs:List V)(Q:VK)(E:XK),zb4 k (A.deeper (envOfC a scope s⁻¹ f cdv))->sp vs H Q E->
   ∃t,PSs (pI P w K mg base N a scope f cdv A outer s H E) body t/\t {nx:=fun _ H'=>Q .non H',rt:=Q} (start N vs) H):
  mY P w K mg base (k+1) f (Qp name a i body scope j kV l p C cdv ct) ps sp:=by
 refine⟨len,fun A outer s H args us vs Q E hr d hb r D=>?_⟩;have T:=len _ _ _ _ D;have G:K.In s.heap:=d.mod.kin.keeps fun b o e=>(d.bs b o e).1;have U:s.heap.NoLimit:=d.mod.nolimit.keeps fun b o e=>(d.bs b o e).1;have X:∀y∈ps.zip us,scope.names.lookup y.1=some .local\/(scope.names.lookup y.1=some .cell/\((Bh (s⁻¹+1) scope.names []).lookup y.1).isSome=true):=fun⟨n,v⟩ hy=>by
  rcases S.par n (Q2 hy).1 with q|q
  ·exact .inl q
  ·exact .inr ⟨q,P7 _ _ _ (.inl q)⟩
 refine codeAny_call_function hr.depth (G _ _ lk) rfl S.co S.gen rfl (PySem.W.codeRec_of G M) (hb _ _ _ _ ?_);refine wpAny_newFunctionEnv_cells S.kind X fun env he F x=>?_;subst he;refine⟨U.keeps x.toInCall.keep,codeAny_func ?_⟩;obtain⟨t,ht,hq⟩:=aG A outer s H vs Q E (hr.deeper _) D;have I:Inv (pI P w K mg base N a scope f cdv A outer s H E) [] (start N vs) H F:=M6 S d T r x;refine wpAny_mono (ht [] F (start N vs) H _ I hq) (fun O s' c=>?_) fun e s' c=>c.elim;have fin:∀{g:St}{H':Hp}{v:V}{u:Value},Inv (pI P w K mg base N a scope f cdv A outer s H E) [] g H' s'->RelV v u->Q v H'->CE outer P w H s Q u s':=
  fun{g H' v u} J h q=>⟨v,H',J.os,J.bare,J.base,J.hok,h,q⟩
 cases O with
 |ret u=>
  obtain⟨v,g,H',J,h,q⟩:=c;exact fin J h q
 |next=>
  obtain⟨g,H',J,q⟩:=c;exact fin (v:=V.non) (u:=Value.none) J rfl q
 |brk=>
  obtain⟨_,_,_,q⟩:=c;exact False.elim q
 |cont=>
  obtain⟨_,_,_,q⟩:=c;exact False.elim q
def Fun.okN{P:Program}{w:World}{K:Ac}{mg:Str->Option Value}{base:Heap}{x a:Str}{st:Stmt}{f:Addr}{fd:FuncData}{N ps:List Str}{k:Nat}{sp:Sp}(F:Fun K x a st f fd)(S:zm N ps (zb st))(len:∀vs H Q E,sp vs H Q E->vs.length=ps.length)(d:∀(cdv:Value)(A:Around)(outer:List Env)(s:Shared)(H:Hp)(vs:List V)(Q:VK)(E:XK),zb4 k (A.deeper (envOfC a (zb st) s⁻¹ f cdv))->sp vs H Q E->
   ∃t,PSs (pI P w K mg base N a (zb st) f cdv A outer s H E) (zah st) t/\t {nx:=fun _ H'=>Q .non H',rt:=Q} (start N vs) H):mY P w K mg base (k+1) f fd ps sp:=by
 obtain⟨e,g,kV,h,i,j,cdv,ct,l,rfl,lk,c⟩:=F.ex;exact M7 lk c S len fun A outer s H vs Q E hr b=>d cdv A outer s H vs Q E hr b
section
variable{X:Cx}{k:Nat}{f:Addr}{fd:FuncData}{ps:List Str}{sp:Sp}{dA:List V}{ds:List Value}{E:XK}{x:Str}{p pos:Pos}{e:Expr}{es:List Expr}{t:TA}
def G1(F:mY X.prog X.w X.K X.mg X.base k f fd ps sp)(hr:zb4 k X.A)(g:Gl X x)(hm:X.mg x=some (.ref f))(hk:QA X.K (.ref f)=true)(hb:Binds X.K fd ps ds)(hd:Vals dA ds)(ha:PA X (e::es) t)(i:(x==("__debug__":Str))=false:=by decide)(he:starEach (e::es) X.env=(false,eval e X.env)::starEach es X.env:=by rfl)(a:(backTo pos (starEach es X.env)).any (·.1)=false:=by rfl):PE X (.Call (.Name x p) (e::es) [] pos) (n6 sp dA E t):=by
 intro aa s σ H Q I h;refine wpAny_Call_Name_kw (qo I g hm ?_ i);refine PySem.W.callWith_K (h₀:=X.base) I.ok.mod.kin hk (aV (ha pos aa s σ H _ I h) fun us b ⟨vs,H1,I1,r,q⟩=>⟨I1.kIn,?_⟩) he a;have c:Vals (vs++dA) (us++ds):=r.append hd;have d:(us++ds).length=ps.length:=by rw[<-c.length];exact F.len _ _ _ _ q
 refine wpAny_call (codeAny_mono (F.run X.A X.stack b H1 ⟨us,[]⟩ (us++ds) (vs++dA) Q E hr I1.env0 (hb b us I1.kIn d) c q) fun r s' hq=>?_);cases r with
 |error e=>exact hq.elim
 |ok fl=>
  cases fl with
  |ret u=>exact I1.after hq
  |next=>exact False.elim hq
  |brk=>exact False.elim hq
  |cont=>exact False.elim hq
end
section
variable{X:Cx}
abbrev znj:V->List V->Hp->VK->Prop:=fun x vs H Q=>∃(l:Addr)(ys:List V)(y:V),x=.ref l/\vs=[y]/\H l=some (.lst ys)/\ys.all fJ=true/\fJ y=true/\Q (.int (ys.countP fun z=>fg z y)) H
abbrev zmi:V->List V->Hp->VK->Prop:=fun x vs H Q=>∃(l:Addr)(ys:List V)(y:V)(j:Nat),x=.ref l/\vs=[y]/\H l=some (.lst ys)/\ys.all fJ=true/\fJ y=true/\j<1000/\((ys[j]?).map fun z=>fg z y)=some true/\(∀m,m<j->((ys[m]?).map fun z=>fg z y)=some false)/\Q (.int j) H
def M8{x:V}{xs:List V}{us:List Value}(h:Vals xs us)(f:xs.all fJ=true):us.countP (eO x)=xs.countP fun y=>fg y x:=by
 induction h with
 |nil=>rfl
 |cons r t ih=>
  rw[RR,AF] at f;rw[List.countP_cons,List.countP_cons,qJ r f.1,ih f.2]
def G2{x:V}{xs:List V}{us:List Value}(h:Vals xs us)(f:xs.all fJ=true):∀m:Nat,(us[m]?).map (eO x)=(xs[m]?).map fun y=>fg y x:=by
 induction h with
 |nil=>intro m;simp
 |cons r t ih=>
  rw[RR,AF] at f;intro m;cases m with
  |zero=>simp[qJ r f.1]
  |succ m=>simpa using ih f.2 m
def M9:kx X "list.count" znj:=by
 intro aa s σ H x vs v us Q I b d h;obtain⟨l,ys,y,rfl,rfl,g,a,i,q⟩:=h;cases b;obtain⟨u,rfl,j⟩:=d.one;obtain⟨z,ae,c,r,p,e⟩:=I.lstM g;refine call_meets F.slot_list_count ⟨_,e,rfl⟩ F.entry_list_count (F.args_list_count_2 _ _) (SeqAt.list_countAt l ae.toArray c none #[] u (eO y)) ⟨e,fun f hy=>?_,?_⟩
 ·exact n8 j i r a f (by simpa using hy)
 ·have o:ae.toArray.toList.countP (eO y)=ys.countP fun z=>fg z y:=M8 r a
  exact⟨.int (ys.countP fun z=>fg z y),H,I.tok _,⟨_,by rw[<-o]⟩,q⟩
def M_:kx X "list.index" zmi:=by
 intro aa s σ H x vs v us Q I f g h;obtain⟨l,ys,y,j,rfl,rfl,p,a,w,C,h1,h2,q⟩:=h;cases f;obtain⟨u,rfl,A⟩:=g.one;obtain⟨z,ae,c,r,D,e⟩:=I.lstM p;have g1:=(G2 (x:=y) r a j).trans h1;have d:j<ae.toArray.size:=by
  rcases QE j ae.length with q|q
  ·simpa using q
  ·rw[PD q] at g1;cases g1
 have get:∀(m:Nat)(hm:m<ae.toArray.size),(ae[m]?).map (eO y)=some (eO y ae.toArray[m]):=fun m hm=>by
  rw[Ah (by simpa using hm)];rfl
 have b:(j:Int)<2 ^ 63-1:=by
  have h1:(j:Int)<1000:=ω
  have h2:(1000:Int)<2 ^ 63-1:=ξ
  omega
 refine call_meets F.slot_list_index ⟨_,e,rfl⟩ F.entry_list_index (F.args_list_index_2 _ _) (SeqAt.list_indexAt l ae.toArray c none #[] u (eO y) j d b ?_ ?_) ⟨e,fun i hy=>?_,?_⟩
 ·exact Ag ((get j d).symm.trans g1)
 ·intro m hm o
  exact Ag ((get m hm).symm.trans ((G2 (x:=y) r a m).trans (h2 m o)))
 ·exact n8 A w r a i (by simpa using hy)
 ·exact⟨.int j,H,I.tok _,⟨_,rfl⟩,q⟩
end
def M'{K:Ac}{C S:Addr}(G:PY K C j_ "ValueError.__new__"=true)(H:PY K S j_ "ValueError.__new__"=true)(m:Qq K C (.ref S)=some true):hZ K C S:=by
 intro h X;obtain⟨bm,N,nm,e,bs,hdct,sn,sub,ab,col,dd,k0,k1,k2,k3,k5,I,_,J,d⟩:=C5 X G;obtain⟨f,N',i,j,l,o,p,q,r,u,v,w,x,y,A,D,M,_,E,F⟩:=C5 X H;refine⟨nm,e,N,bs,bm,hdct,sn,sub,ab,col,dd,k0,k1,k2,k3,k5,_,i,j,N',l,f,o,p,q,r,u,v,w,x,y,A,D,_,(d h X).1,(F h X).1,E _ ξ,?_⟩;have g:=(d h X).1;unfold Qq at m;obtain⟨L,a,b⟩:=Option.bind_eq_some_iff.mp m;unfold QH at a;split at a
 ·rename_i c' d' cd' fX ho
  cases a;have z:=(X _ _ ho).symm.trans g;injection z with z
  have c:=congrArg Obj.data z;injection c with c
  subst c;split at b
  ·cases b
  ·exact Ag b
 ·cases a
def Na{K:Ac}{C:Addr}{bm:List Value}{n:String}(q:PY K C bm n=true):(QH K C).isSome=true:=by
 unfold PY at q;unfold QH;split at q
 ·rename_i ho;rw[ho];rfl
 ·cases q
def Cl(P:Program)(w:World)(K:Ac)(mg:Str->Option Value)(base:Heap)(CX:eD)(x:Str)(ps:List Str)(k:Nat)(sp:Sp):Prop:=
 ∃(f:Addr)(fd:FuncData),QA K (.ref f)=true/\Binds K fd ps []/\mg x=some (.ref f)/\FnOk P w K mg base CX k f fd ps sp
section
variable{X:Cx}{CX:eD}{k n:Nat}{ps:List Str}{sp:Sp}{E:XK}{x:Str}{p pos:Pos}{e:Expr}{es:List Expr}{t:TA}
def zy(C:Cl X.prog X.w X.K X.mg X.base CX x ps k sp)(hr:Room n X.A)(b:Gl X x)(hx:de CX X E)(ha:PA X (e::es) t)(c:k<=n:=by decide)(d:(x==("__debug__":Str))=false:=by decide)
  (he:starEach (e::es) X.env=(false,eval e X.env)::starEach es X.env:=by rfl) (a:(backTo pos (starEach es X.env)).any (·.1)=false:=by rfl):PE X (.Call (.Name x p) (e::es) [] pos) (n6 sp [] E t):=by
 obtain⟨f,fd,hk,hb,hm,F⟩:=C;exact zR F (hr.mono c) b hm hk hb .nil hx ha d he a
end
section
variable{P:Program}{w:World}{K:Ac}{mg:Str->Option Value}{base:Heap}{CX:eD}{k:Nat}{f:Addr}{fd:FuncData}{x:Str}{st:Stmt}{ps:List Str}{sp sq:Sp}
def FnOk.or(F:FnOk P w K mg base CX k f fd ps sp)(G:FnOk P w K mg base CX k f fd ps sq):FnOk P w K mg base CX k f fd ps (fun vs H Q E=>sp vs H Q E\/sq vs H Q E):=
 ⟨fun vs H Q E h=>h.elim (F.len vs H Q E) (G.len vs H Q E),fun A outer s H args us vs Q E hr he hb a h=>h.elim (F.run A outer s H args us vs Q E hr he hb a) (G.run A outer s H args us vs Q E hr he hb a)⟩
def cU(F:Fun K x x st f fd)(b:Binds K fd ps [])(m:mg x=some (.ref f))(G:FnOk P w K mg base CX k f fd ps sp):Cl P w K mg base CX x ps k sp:=⟨f,fd,F.kp,b,m,G⟩
structure Df(K:Ac)(x:Str)(st:Stmt)(f:Addr):Prop where
 ex:∃fd,Fun K x x st f fd
 a:Rx K mainGlobals x=some (some (.ref f))
def C8{h:Value}{i e:Option Addr}{g:Array (Option Value)}{kV b d cdv ct:Value}(a:Rx K mainGlobals x=some (some (.ref f)))(l:K.lookup f=some ⟨h,i,.func (Qp x x (zbV st) (zah st) (zb st) .none kV b d e cdv ct),g⟩)(c:Q6 K cdv x=true)(k:QA K (.ref f)=true):Df K x st f:=⟨⟨_,J2 l c k⟩,a⟩
structure Nn(K:Ac)(x:Str)(v:Option Value):Prop where
 e:Rx K mainGlobals x=some v
abbrev BA(x:Str)(st:Stmt)(us:List Value)(r:List (Str×Value)):Prop:=∀(kV ba pm:Value)(an:Option Addr)(cdv ct:Value),bindArgs (Qp x x (zbV st) (zah st) (zb st) .none kV ba pm an cdv ct) ⟨us,[]⟩=pure r
variable{h:Heap}(X:K.In h)(G:h.Ns mainGlobals mg)
include X G
theorem Nn.m{v:Value}(n:Nn K x (some v)):mg x=some v:=Qx X G n.e
theorem Nn.n(n:Nn K x none):mg x=none:=PySem.W.mg_none_of X G n.e
theorem Df.m(D:Df K x st f):mg x=some (.ref f):=Qx X G D.a
theorem Df.g1(D:Df K x st f)(p:Str)(hb:∀a,BA x st [a] [(p,a)]:=by exact fun _ _ _ _ _ _ _=>rfl):∃fd,Fun K x x st f fd/\Binds K fd [p] []/\mg x=some (.ref f):=by
 obtain⟨⟨fd,F⟩,a⟩:=D;refine⟨fd,F,F.binds fun _ _ _ _ _ _ us b=>?_,Qx X G a⟩
 match us,b with
 |[a],_=>exact hb a _ _ _ _ _ _
theorem Df.g2(D:Df K x st f)(p q:Str)(hb:∀a b,BA x st [a,b] [(p,a),(q,b)]:=by exact fun _ _ _ _ _ _ _ _=>rfl):∃fd,Fun K x x st f fd/\Binds K fd [p,q] []/\mg x=some (.ref f):=by
 obtain⟨⟨fd,F⟩,a⟩:=D;refine⟨fd,F,F.binds fun _ _ _ _ _ _ us c=>?_,Qx X G a⟩
 match us,c with
 |[a,b],_=>exact hb a b _ _ _ _ _ _
theorem Df.g3(D:Df K x st f)(p q r:Str)(hb:∀a b c,BA x st [a,b,c] [(p,a),(q,b),(r,c)]:=by exact fun _ _ _ _ _ _ _ _ _=>rfl):∃fd,Fun K x x st f fd/\Binds K fd [p,q,r] []/\mg x=some (.ref f):=by
 obtain⟨⟨fd,F⟩,a⟩:=D;refine⟨fd,F,F.binds fun _ _ _ _ _ _ us d=>?_,Qx X G a⟩
 match us,d with
 |[a,b,c],_=>exact hb a b c _ _ _ _ _ _
theorem Df.g4(D:Df K x st f)(p q r s:Str)(hb:∀a b c d,BA x st [a,b,c,d] [(p,a),(q,b),(r,c),(s,d)]:=by exact fun _ _ _ _ _ _ _ _ _ _=>rfl):∃fd,Fun K x x st f fd/\Binds K fd [p,q,r,s] []/\mg x=some (.ref f):=by
 obtain⟨⟨fd,F⟩,a⟩:=D;refine⟨fd,F,F.binds fun _ _ _ _ _ _ us e=>?_,Qx X G a⟩
 match us,e with
 |[a,b,c,d],_=>exact hb a b c d _ _ _ _ _ _
theorem Df.g5(D:Df K x st f)(p q r s u:Str)(hb:∀a b c d e,BA x st [a,b,c,d,e] [(p,a),(q,b),(r,c),(s,d),(u,e)]:=by exact fun _ _ _ _ _ _ _ _ _ _ _=>rfl):∃fd,Fun K x x st f fd/\Binds K fd [p,q,r,s,u] []/\mg x=some (.ref f):=by
 obtain⟨⟨fd,F⟩,a⟩:=D;refine⟨fd,F,F.binds fun _ _ _ _ _ _ us g=>?_,Qx X G a⟩
 match us,g with
 |[a,b,c,d,e],_=>exact hb a b c d e _ _ _ _ _ _
omit X G
theorem Nb{C:Addr}(a:Bd K (.ref C) "__getattribute__"=some (some (.builtin "BaseException.__getattribute__")))(b:Bd K (.ref C) "__getattr__"=some none)(q:PY K C j_ "ValueError.__new__"=true)(c:Bd K (.ref C) "__class__"=some (some (.builtin "object.__class__")))(d:Qu K (.builtin "object.__class__") "__get__"=some (some (.builtin "getset_descriptor.__get__")))(e:Q1 K (.builtin "object.__class__")=some true)(f:Qq K C (.type "object")=some true)(g:Qq K C (.type "BaseException")=some true):eL K C:=
 ⟨a,b,Na q,c,d,e,f,g⟩
end
def zcV(H:Hp)(c:Addr)(b:Str):Prop:=∃a vs t,H c=some (.frz a (.own 0))/\a.data=.fields vs/\vs[1]?=some (.str b t)
def Tab(H:Hp)(P:Addr)(pos:Pos)(a:Str):Prop:=
 H P=some (.tbl #[])\/∃c',H P=some (.tbl #[rawInt pos.line,rawInt pos.col,.ref c'])/\zcV H c' a
def zax(H H':Hp):Prop:=∀b o,(∀ps,o≠HO.tbl ps)->H b=some o->H' b=some o
def zax.refl(H:Hp):zax H H:=fun _ _ _ h=>h
def zax.trans{H H1 H2:Hp}(a:zax H H1)(b:zax H1 H2):zax H H2:=fun c o n h=>b c o n (a c o n h)
def Same.toN{H H':Hp}(a:Same H H'):zax H H':=fun c o _ h=>a c o h
def zcV.same{H H':Hp}{c:Addr}{q:Str}(x:zcV H c q)(a:zax H H'):zcV H' c q:=
 let ⟨oc,vs,t,e,r⟩:=x;⟨oc,vs,t,a _ _ (fun _ z=>nomatch z) e,r⟩
def Tab.same{H H':Hp}{P:Addr}{pos:Pos}{q:Str}(x:Tab H P pos q)(a:Same H H'):Tab H' P pos q:=by
 rcases x with e|⟨c,e,k⟩
 ·exact .inl (a _ _ e)
 ·exact .inr ⟨c,a _ _ e,k.same a.toN⟩
def Tab.keep{H H':Hp}{P:Addr}{pos:Pos}{q:Str}(x:Tab H P pos q)(a:zax H H')(k:∀ps,H P=some (.tbl ps)->H' P=some (.tbl ps)):Tab H' P pos q:=by
 rcases x with e|⟨c,e,b⟩
 ·exact .inl (k _ e)
 ·exact .inr ⟨c,k _ e,b.same a⟩
def zhe(H:Hp)(f:Addr)(a:Str)(args:Arguments)(body:Expr)(sc:Scope)(y:Str)(cc:Addr):Prop:=
 ∃b c' c,H f=some (.frz (Rr "<lambda>" a args body sc [(y,cc)] b c' c) (.own 0))/\zcV H c' a
def zhe.same{H H':Hp}{f:Addr}{b:Str}{args:Arguments}{body:Expr}{sc:Scope}{y:Str}{cc:Addr}(x:zhe H f b args body sc y cc)(a:zax H H'):zhe H' f b args body sc y cc:=
 let ⟨pm,c',bU,e,k⟩:=x;⟨pm,c',bU,a _ _ (fun _ z=>nomatch z) e,k.same a⟩
section
variable{X:Cx}{aa:Ψ}{σ:St}{H:Hp}{s:Shared}
def Inv.codeRec{c:Addr}{q:Str}(I:Inv X aa σ H s)(x:zcV H c q):s.heap.CodeRec (.ref c) q:=by
 obtain⟨a,vs,t,e,e1,e2⟩:=x;exact⟨c,a,vs,t,rfl,(I.hok _ _ e).1,e1,e2⟩
def tm(X:Cx)(A:Around)(s:Shared)(H:Hp)(f:Addr)(a:Str)(sc:Scope)(p y:Str)(cc c':Addr):Cx where
 prog:=X.prog
 w:=X.w
 K:=X.K
 mg:=X.mg
 base:=X.base
 A:=A.deeper (Ry a sc s⁻¹ f (.ref c') [(y,cc)])
 N:=[p,y]
 s₀:=s
 H₀:=H
 env:=Ry a sc s⁻¹ f (.ref c') [(y,cc)]
 outer:=X.stack
 stack:=Ry a sc s⁻¹ f (.ref c') [(y,cc)]::X.stack
 ex:=[]
 calm:=X.calm
 fn:=fun _=>false
 pn:=[]
 xe:=fun _ _=>False
structure G3(p y:Str)(sc:Scope):Prop where
 kind:sc.kind=.function
 co:sc.isCoroutine=false
 gen:sc.isGenerator=false
 loc:sc.names.lookup p=some .local
 fre:sc.names.lookup y=some .free
 nocell:∀x∈sc.names,x.2≠.cell
 only:∀x,sc.names.lookup x=some .free->x=y
def Nc{A:Around}{f:Addr}{C:Str}{args:Arguments}{body:Expr}{sc:Scope}{p y:Str}{cc:Addr}{iy:Nat}{va vy:V}{u:Value}{te:TE}{Q:VK}(I:Inv X aa σ H s)(g:Env0 X.prog X.w X.K X.mg X.base A X.stack s H)(hA:A.handled=X.A.handled)(hd:A.depth<recursionLimit)(L:zhe H f C args body sc y cc)(S:G3 p y sc)(hc:X.env.cells.lookup y=some cc)(hN:X.N[iy]?=some y)(mH:σ[iy]?=some (some vy))(T:X.env.kindOf y=some .cell\/X.env.kindOf y=some .free)(hb:∀M c' O,bindArgs (Re "<lambda>" C args body sc [(y,cc)] M (.ref c') O) ⟨[u],[]⟩=pure [(p,u)])(hu:RelV va u)(aG:∀c',PE (tm X A s H f C sc p y cc c') body te)(h:te [some va,some vy] H Q):codeAny (model X.prog X.w) A (.call (.ref f) ⟨[u],[]⟩) (fun r s'=>∃v,r=.ok (.ret v)/\CE X.stack X.prog X.w H s Q v s') s:=by
 obtain⟨M,c',O,ef,ec⟩:=L;have hf:=(I.hok _ _ ef).1;have bf:=I.codeRec ec;obtain⟨m,hm,hl⟩:=I.loc;obtain⟨P,ry,ly⟩:=hl iy y vy hN mH (T.elim (fun z=>.inr (.inl z)) fun z=>.inr (.inr z));have av:s.heap.IsCell cc (some P):=by
  rcases ly with ⟨k,_⟩|⟨_,c,e1,e2⟩
  ·rcases T with z|z<;>(rw[k] at z;cases z)
  ·rw[hc] at e1;cases e1;exact e2
 have j:H cc=none:=I.freeC y cc hc;refine PySem.W.kla_callFunE hd hf rfl S.co S.gen rfl bf ?_;rw[hb M c' O];refine Ae (wpAny_newFunctionEnv S.nocell (fun x hx=>by rw[Pb.mp hx];exact S.loc) (fun G U Y=>?_) S.kind);have E:∀b o,s.heap.get? b=some o->G.get? b=some o:=fun b o e=>Y.extBut b o (Ar (Am e)) (Ad _ e);refine⟨I.nolimit.keeps E,?_⟩;show codeAny _ _ (.expr body (Ry C sc s⁻¹ f (.ref c') [(y,cc)])) _ _;have F:∀x c,(Ry C sc s⁻¹ f (.ref c') [(y,cc)]).cells.lookup x=some c->x=y/\c=cc:=fun x c e=>by
  have e':([(y,cc)]:List (Str×Addr)).lookup x=some c:=e;rw[AT] at e';cases hx:x==y with
  |true=>rw[hx] at e';cases e';exact⟨eq_of_beq hx,rfl⟩
  |false=>rw[hx] at e';cases e'
 have D:([(y,cc)]:List (Str×Addr)).lookup y=some cc:=by rw[AT,beq_self_eq_true]
 have d:G.IsCell cc (some P):=by
  obtain⟨o,e1,e2⟩:=av;exact⟨o,E _ _ e1,e2⟩
 have J:Inv (tm X A s H f C sc p y cc c') [] [some va,some vy] H {s with heap:=G,toks:=s.toks+[(p,u)].length}:=by
  have l:∀b:Addr,b∉(tm X A s H f C sc p y cc c').ex:=fun b z=>absurd (show b∈([]:List Addr) from z) (by simp);refine⟨⟨g.mod,S.kind,rfl,rfl,Af _,fun a b c h1 h2=>?_,fun x hx=>?_,fun x c h _=>(by cases h),fun hc=>?_,Around.frames_deeper g.frames,.inr ⟨rfl,rfl⟩,fun b z=>absurd z (l b),g.bs,g.bsz,fun b _ _=>l b,fun b z=>absurd z (l b),g.funs,g.frf⟩,
   rfl,g.bare,Un.kept E,⟨_,U,fun i x v h1 h2 h3=>?_⟩,fun x c h=>?_,g.hok.fresh (Af _),fun x c h=>?_,fun p hp=>absurd (show p∈([]:Ψ) from hp) (by simp),g.hok.kept E,rfl⟩
  ·exact(F _ _ h1).1.trans (F _ _ h2).1.symm
  ·rcases hx with hx|hx
   ·exact absurd rfl (S.nocell _ (A6 (show sc.names.lookup x=some .cell from hx)))
   ·obtain rfl:=S.only x hx
    exact⟨cc,D⟩
  ·exact hA.trans (I.ok.hd hc)
  ·match i,h1,h2 with
   |0,h1,h2=>
    obtain rfl:=Ag h1;obtain rfl:=Ag (Ag h2);exact⟨u,hu,.inl ⟨S.loc,by simp⟩⟩
   |1,h1,h2=>
    obtain rfl:=Ag h1;obtain rfl:=Ag (Ag h2);exact⟨P,ry,.inr ⟨.inr S.fre,cc,D,d⟩⟩
   |i+2,h1,h2=>exact nomatch (show(none:Option Str)=some x from h1)
  ·obtain⟨rfl,rfl⟩:=F _ _ h
   exact⟨_,d⟩
  ·obtain⟨rfl,rfl⟩:=F _ _ h
   exact j
 refine PySem.W.kla_codeExpr (wpAny_mono (aG c' [] _ _ H Q J h) (fun v s' hs=>?_) fun _ _ z=>False.elim z);obtain⟨v',H',J',rv,q⟩:=hs;exact⟨v,rfl,v',H',J'.os,J'.bare,J'.base,J'.hok,rv,q⟩
end
def BM(mg:Str->Option Value)(base:Heap):Prop:=∃bm o,mg "__builtins__"=some (.ref bm)/\bm≠builtinsNs/\bm≠mainGlobals/\base.get? bm=some o/\o.cls=.type "module"/\o.dict=some builtinsNs/\o.data=.plain
def C9(P:Addr)(a:Str)(args:Arguments)(body:Expr)(sc:Scope)(pos:Pos)(y:Str)(cc:Addr):TE:=fun _ H Q=>Tab H P pos a/\∀f H',zax H H'->(∀b ps,b≠P->H b=some (.tbl ps)->H' b=some (.tbl ps))->Tab H' P pos a->zhe H' f a args body sc y cc->Q (.ref f) H'
section
variable{X:Cx}{aa:Ψ}{σ:St}{H:Hp}{s:Shared}
def Nd{ps:Array Value}{P c':Addr}{j fo:Obj}{h':Heap}{tk:Nat}{more:Array Value}(I:Inv X aa σ H s)(f:H P=some (.tbl ps))(hx:Heap.ExtBut P s.heap h')(g:s⁻¹<=c')(h:c'<h'.objs.size)(q:h'.get? c'=some j)(r:h'.get? P=some (Rf (ps++more)))(w:fo.isFreed=false):Inv X aa σ (upd (upd (upd H P (.tbl (ps++more))) c' (.frz j (.own 0))) h'.objs.size (.frz fo (.own 0))) {s with heap:=h'.push fo,toks:=tk}:=by
 have i:∀b o,b≠P->s.heap.get? b=some o->(h'.push fo).get? b=some o:=fun b o n e=>Ad _ (hx b o n e);have F:P<s⁻¹:=I.hok.lt f;have p:∀{b o},s.heap.get? b=some o->b≠c'/\b≠h'.objs.size:=fun e=>⟨Ar (Au (Am e) g),Ar (QN (Au (Am e) g) h)⟩;have c:∀{b o},H b=some o->b≠c'/\b≠h'.objs.size:=fun e=>⟨Ar (Au (I.hok.lt e) g),Ar (QN (Au (I.hok.lt e) g) h)⟩;have l:∀{b},H b=none->b≠P:=fun n z=>by rw[z,f] at n;cases n
 have a:∀{b},b≠P->b≠c'->b≠h'.objs.size->(upd (upd (upd H P (.tbl (ps++more))) c' (.frz j (.own 0))) h'.objs.size (.frz fo (.own 0))) b=H b:=fun n1 n2 y=>by rw[al y,al n2,al n1]
 have A:c'≠h'.objs.size:=Ar h;have C:P≠c':=(c f).1;have D:P≠h'.objs.size:=(c f).2;refine I.call' (ch:=[]) rfl ⟨fun b o e n _ _=>i b o (l n) e,fun b o e n _ _=>⟨o.slots,i b o (l n) e⟩,fun b o e n _=>?_,fun b o e _=>?_,fun b xs e=>?_,fun b o u e=>?_,fun b E e=>?_⟩ (fun b u e=>?_) I.bare (fun b z=>nomatch z)
 ·rw[a (l n) (p e).1 (p e).2];exact n
 ·by_cases hb:b=P
  ·subst hb;exact⟨_,Ad _ r⟩
  ·exact⟨o,i b o hb e⟩
 ·rw[a (fun z=>by rw[z,f] at e;cases e) (c e).1 (c e).2];exact e
 ·rw[a (fun z=>by rw[z,f] at e;cases e) (c e).1 (c e).2];exact e
 ·by_cases hb:b=P
  ·subst hb
   rw[f] at e;cases e;exact⟨more,by rw[al D,al C,ag]⟩
  ·exact⟨#[],by rw[a hb (c e).1 (c e).2,e];simp⟩
 ·by_cases x:b=h'.objs.size
  ·subst x
   rw[ag] at e;cases e;exact⟨An _ w,fo,An _ w⟩
  ·rw[al x] at e
   by_cases h2:b=c'
   ·subst h2
    rw[ag] at e;cases e;exact⟨Ad _ q,j,Ad _ q⟩
   ·rw[al h2] at e
    by_cases h1:b=P
    ·subst h1
     rw[ag] at e;cases e;exact Ad _ r
    ·rw[al h1] at e
     refine(I.hok b u e).stay (fun d v hd e'=>i d v ?_ e') (fun d e'=>?_) fun d xs e'=>?_
     ·rcases hd with rfl|hd
      ·exact h1
      ·exact fun z=>by rw[z,f] at hd;cases hd
     ·rw[a (fun z=>by rw[z,f] at e';cases e') (c e').1 (c e').2];exact e'
     ·rw[a (fun z=>by rw[z,f] at e';cases e') (c e').1 (c e').2];exact e'
def Nf{P c cc:Addr}{args:Arguments}{body:Expr}{sc:Scope}{pos:Pos}{y:Str}(hC:PySem.W.CodeHd X.base c P)(A:X.env.code=.ref c)(dQ:BM X.mg X.base)(q:closureFor sc X.env=pure [(y,cc)])(ij:defaultsOf args X.env=([],[]):=by rfl):PE X (.Lambda args body sc pos) (C9 P (X.env.qual++"<lambda>") args body sc pos y cc):=by
 intro aa s σ H Q I ⟨ht,h⟩;refine PySem.W.kla_eval ij ?_;have v:s.heap.Ns mainGlobals X.mg:=I.ok.mod.glob.keeps I.bk;have C:=hC.keeps I.bk;obtain⟨bm,ob,F,G,L,u,M,N,O⟩:=dQ;have w:∀{j},H P=some (.tbl j)->s.heap.BuiltinsAt X.mg P:=fun{j} a=>⟨bm,ob,F,G,L,(fun z=>by have e:=(I.bs _ _ u).2;rw[z,a] at e;cases e),I.bk _ _ u,M,N,O⟩;have x:∀{j},H P=some (.tbl j)->s.heap.get? P=some (Rf j):=fun a=>I.hok _ _ a;have U:∀{j},H P=some (.tbl j)->mainGlobals≠P:=fun{j} a z=>by
  obtain⟨o,es,ep,e,d,_⟩:=I.ok.mod.glob;have e':=(I.bs _ _ e).2;rw[z,a] at e';cases e'
 rcases ht with a|⟨c',a,hc'⟩
 ·refine PySem.W.kla_makeFunction q I.ok.glob v A C (x a) trivial rfl (U a) (w a) fun c' g h' tk hx f i D E=>?_
  obtain⟨yA,r,vs,t,e2,S,hd,T⟩:=D;cases e2;have Y:P≠c':=Ar (Au (I.hok.lt a) f);have oJ:P≠h'.objs.size:=Ar (QN (Au (I.hok.lt a) f) i);have vU:c'≠h'.objs.size:=Ar i;have J:=Nd (tk:=tk) (fo:=Rr "<lambda>" (X.env.qual++"<lambda>") args body sc [(y,cc)] ((X.mg "__name__").getD .none) c' g) I a hx f i S E rfl;have sm:∀b o,b≠P->H b=some o->(upd (upd (upd H P (.tbl (#[]++#[rawInt pos.line,rawInt pos.col,.ref c']))) c' (.frz r (.own 0))) h'.objs.size (.frz (Rr "<lambda>" (X.env.qual++"<lambda>") args body sc [(y,cc)] ((X.mg "__name__").getD .none) c' g) (.own 0))) b=some o:=fun b o n e=>by
   have l:=I.hok.lt e;rw[al (Ar (QN (Au l f) i)),al (Ar (Au l f)),al n];exact e
  have p:zcV (upd (upd (upd H P (.tbl (#[]++#[rawInt pos.line,rawInt pos.col,.ref c']))) c' (.frz r (.own 0))) h'.objs.size (.frz (Rr "<lambda>" (X.env.qual++"<lambda>") args body sc [(y,cc)] ((X.mg "__name__").getD .none) c' g) (.own 0))) c' (X.env.qual++"<lambda>"):=⟨r,vs,t,by rw[al vU,ag],hd,T⟩;refine⟨.ref h'.objs.size,_,J,rfl,h _ _ (fun b o n e=>sm b o (fun z=>by rw[z,a] at e;cases e;exact n _ rfl) e) (fun b ps n e=>sm b _ n e) (.inr ⟨c',by rw[al oJ,al Y,ag];simp,p⟩) ⟨_,c',g,ag,p⟩⟩
 ·have hf:codeAmong pos (#[rawInt pos.line,rawInt pos.col,.ref c']:Array Value).toList=some (.ref c'):=by simp[codeAmong,rawInt]
  refine PySem.W.kla_makeFunctionHit q I.ok.glob v A C (x a) trivial hf (w a) fun g h' tk hk hsz=>?_;have J:Inv X aa σ (upd H h'.objs.size (.frz {cls:=.type "function",data:=.func (Re "<lambda>" (X.env.qual++"<lambda>") args body sc [(y,cc)] ((X.mg "__name__").getD .none) (.ref c') g)} (.own 0))) {s with heap:=h'.push {cls:=.type "function",data:=.func (Re "<lambda>" (X.env.qual++"<lambda>") args body sc [(y,cc)] ((X.mg "__name__").getD .none) (.ref c') g)},toks:=tk}:=
   I.laid (fun b o e=>Ad _ (hk b o e)) hsz ⟨An _ rfl,_,An _ rfl⟩
  have hn:H h'.objs.size=none:=I.hok.fresh hsz;have sm:=Same.new (o:=HO.frz {cls:=.type "function",data:=.func (Re "<lambda>" (X.env.qual++"<lambda>") args body sc [(y,cc)] ((X.mg "__name__").getD .none) (.ref c') g)} (.own 0)) hn;exact⟨.ref h'.objs.size,_,J,rfl,h _ _ sm.toN (fun b ps _ e=>sm b _ e) (Tab.same (.inr ⟨c',a,hc'⟩) sm) ⟨_,c',g,ag,hc'.same sm.toN⟩⟩
end
def Ng{P:Program}{w:World}{K:Ac}{mg M:Str->Option Value}{CX:eD}{k:Nat}{fa a:Addr}{fd:FuncData}{x:Str}{sp:Sp}{c:Shared}{vs:List Value}{ns:List Int}{tabs:List (Addr×Addr)}(O:K.In c.heap)(N:c.heap.Ns mainGlobals mg)(hb:c.heap.Ns builtinsNs M)(pB:∀x:Str,x≠"__name__"->M x=AV x)(ia:c.heap.NoLimit)(hg:c.gens=#[])(dQ:∃bm ob,mg "__builtins__"=some (.ref bm)/\bm≠builtinsNs/\c.heap.get? bm=some ob/\ob.cls=.type "module"/\ob.dict=some builtinsNs/\ob.data=.plain)(I:PySem.W.TabsAt tabs c.heap)(jY:R8 K=true)(ha:c.heap.get? a=some {cls:=.type "list",data:=.seq vs.toArray})(hi:IntsAre vs ns)(hl:ns.length<=sizeLine)(hr:Room k callerA)(F:∀base:Heap,K.In base->base.Ns mainGlobals mg->BM mg base->PySem.W.CodeAll tabs base->FnOk P w K mg base CX k fa fd [x] sp)(dX:∀(s:Shared)(u:Value),BindsTo s fd ⟨[u],[]⟩ [(x,u)])(bE:∀H:Hp,SqL K H a (ns.map V.int)->(∀q∈tabs,H q.2=some (.tbl #[]))->sp [.ref a] H (fun v _=>v=.bl true) fun _ _ _=>False)(iw:∀H e s',CX [] H c (fun _ _ _=>False) e s'->False):codeAny (model P w) callerA (.call (.ref fa) ⟨[.ref a],[]⟩) (fun r s'=>r=.ok (.ret (.bool true))/\OldK c.heap s'.heap/\s'.os=c.os/\AllBare s'.gens) c:=by
 have X:=ya hi;have h_:=hi.length;have A:∀{b},b∈tabs.map (·.2)->c.heap.get? b=some (Rf #[]):=fun hb=>by
  obtain⟨q,hq,rfl⟩:=Bp.mp hb;exact(I q hq).2
 have Y:a∉tabs.map (·.2):=fun z=>by
  have e:=A z;rw[ha] at e;cases e
 have KT:∀{b},b∈tabs.map (·.2)->K.lookup b=none:=fun{b} hb=>by
  cases e:K.lookup b with
  |none=>rfl
  |some o=>
   have e1:=O b o e;rw[A hb] at e1;have h2:=PP.mp jY (b,o) (PySem.W.mem_of_lookupK e);obtain rfl:=Ag e1;exact absurd (show false=true from h2) Aq
 have j:∀H:Hp,(∀b,b∉tabs.map (·.2)->H b=none\/∃o xs,H b=some (.frz o (.lst xs)))->(∀b,b∈tabs.map (·.2)->H b=some (.tbl #[]))->SqL K H a (ns.map V.int)->HOk P w H c.heap->(∀b,H b≠none->b=a\/b∈tabs.map (·.2))->(H a≠none->K.lookup a=none)->
   codeAny (model P w) callerA (.call (.ref fa) ⟨[.ref a],[]⟩) (fun r s'=>r=.ok (.ret (.bool true))/\OldK c.heap s'.heap/\s'.os=c.os/\AllBare s'.gens) c:=by
  intro H hO Q hS C S hK;have G:∀{b:Addr}{o:Obj},c.heap.get? b=some o->H b=none->(cI c.heap H).get? b=some o:=fun e n=>D6 e n;have p:∀{b:Addr}{o:Obj},c.heap.get? b=some o->(∀xs n,o.data≠.seq xs n)->o≠Rf #[]->H b=none:=fun{b o} e d d2=>by
   cases q:H b with
   |none=>rfl
   |some u=>
    rcases S b (by rw[q];simp) with e'|e'
    ·subst e'
     rw[ha] at e;cases e;exact absurd rfl (d _ _)
    ·rw[A e'] at e;cases e
     exact absurd rfl d2
  have f:∀{b:Addr}{m:Str->Option Value},c.heap.Ns b m->(cI c.heap H).Ns b m:=fun{b m} ⟨o,es,ep,e,d,r⟩=>⟨o,es,ep,G e (p e (fun _ _ z=>by rw[d] at z;cases z) fun z=>by rw[z] at d;cases d),d,r⟩;have kt:K.In (cI c.heap H):=fun b o e=>G (O b o e) (by
   cases q:H b with
   |none=>rfl
   |some u=>
    rcases S b (by rw[q];simp) with e'|e'
    ·subst e'
     rw[hK (by rw[q];simp)] at e;cases e
    ·rw[KT e'] at e;cases e)
  have hM:Mod K mg (cI c.heap H):=⟨kt,f N,⟨M,f hb,pB⟩,let ⟨mc,h1,h2⟩:=ia;⟨mc,f h1,h2⟩⟩;have e0:Env0 P w K mg (cI c.heap H) callerA [] c H:=⟨rfl,hM,fun b o e=>D8 e,Nat.le_of_eq (D0 _ _),trivial,fun b hb=>absurd (show b∈([]:List Addr) from hb) (by simp),C,.of_eq hg⟩;obtain⟨bm,ob,b1,b2,E,b4,b5,y⟩:=dQ;have vg:bm≠mainGlobals:=fun q=>by
   obtain⟨o,es,ep,e,hd,_⟩:=N;rw[q,e] at E;cases E;rw[hd] at y;cases y
  have L:BM mg (cI c.heap H):=⟨bm,ob,b1,b2,vg,G E (p E (fun _ _ z=>by rw[y] at z;cases z) fun z=>by rw[z] at y;cases y),b4,b5,y⟩;have oM:PySem.W.CodeAll tabs (cI c.heap H):=.of fun q hq=>by
   obtain⟨o,yd,my,tf,jz,tg,vW,text,tt,e1,J,T,r⟩:=(I q hq).1;exact⟨o,yd,my,tf,jz,tg,vW,text,tt,G e1 (p e1 (fun _ _ z=>by rw[T] at z;cases z) fun z=>by rw[z] at J;cases J),J,T,r⟩
  refine codeAny_mono ((F _ kt (f N) L oM).run callerA [] c H ⟨[.ref a],[]⟩ [.ref a] [.ref a] _ _ hr e0 (dX c (.ref a)) (.cons rfl .nil) (bE H hS fun q hq=>Q _ (Ru hq))) fun r s' h=>?_;cases r with
  |error e=>exact(iw H e s' h).elim
  |ok fl=>
   cases fl with
   |next=>exact False.elim h
   |brk=>exact False.elim h
   |cont=>exact False.elim h
   |ret u=>
    obtain⟨v,H',os,D,un,U,r',q⟩:=h;have q':v=.bl true:=q;subst q';obtain rfl:u=Value.bool true:=r';have keep:∀b o,b∉tabs.map (·.2)->c.heap.get? b=some o->s'.heap.get? b=some o:=fun b o hb e=>by
     cases q:H b with
     |none=>exact un.keep b o e q (by intro z;exact absurd (show b∈([]:List Addr) from z) (by simp)) (by simp)
     |some u=>
      rcases hO b hb with z|⟨ob,xs,z⟩
      ·rw[q] at z;cases z
      ·have z2:=un.frzs b ob _ z
       obtain⟨e1,_⟩:=C b _ z;obtain⟨e2,_⟩:=U b _ z2;rw[e] at e1;cases e1;exact e2
    have l:∀b,b∈tabs.map (·.2)->∃more,s'.heap.get? b=some (Rf more):=fun b hb=>by
     obtain⟨more,e⟩:=un.tbls b _ (Q b hb);exact⟨#[]++more,U b _ e⟩
    refine⟨rfl,⟨fun b o e=>?_,fun b o e=>?_⟩,os,D⟩
    ·by_cases hb:b∈tabs.map (·.2)
     ·obtain⟨more,e2⟩:=l b hb
      have e1:=A hb;rw[e] at e1;cases e1;obtain⟨q,hq,rfl⟩:=Bp.mp hb;exact .inr (.inl ⟨((I q hq).1.tab (I q hq).2).isCodeTable,rfl,#[],more,rfl,by simpa using e2⟩)
     ·exact .inl (keep b o hb e)
    ·by_cases hb:b∈tabs.map (·.2)
     ·obtain⟨more,e2⟩:=l b hb
      exact⟨_,e2⟩
     ·exact⟨o,keep b o hb e⟩
 cases hk:K.lookup a with
 |some o=>
  have e:=O a o hk;rw[ha] at e;cases e;refine j (fun b=>if b∈tabs.map (·.2) then some (.tbl #[]) else none) (fun b hb=>.inl (Sb hb)) (fun b hb=>Sa hb) (.inr ⟨_,vs.toArray,_,hk,rfl,rfl,rfl,by rw[Al,h_];exact hl,by simpa using X⟩) (fun b u z=>?_) (fun b z=>?_) fun z=>absurd (Sb Y) z
  ·by_cases hb:b∈tabs.map (·.2)
   ·have g:=(Sa hb).symm.trans z
    cases g;exact A hb
   ·have g:=(Sb hb).symm.trans z
    cases g
  ·by_cases hb:b∈tabs.map (·.2)
   ·exact .inr hb
   ·exact absurd (Sb hb) z
 |none=>
  refine j (fun b=>if b∈tabs.map (·.2) then some (.tbl #[]) else if b=a then some (.frz {cls:=.type "list",data:=.seq vs.toArray} (.lst (ns.map V.int))) else none) (fun b hb=>?_) (fun b hb=>Sa hb) (.inl (.inr ⟨{cls:=.type "list",data:=.seq vs.toArray},(Sb Y).trans (Sa rfl)⟩)) (fun b u z=>?_) (fun b z=>?_) fun _=>hk
  ·by_cases i:b=a
   ·exact .inr ⟨_,_,(Sb hb).trans (Sa i)⟩
   ·exact .inl ((Sb hb).trans (Sb i))
  ·by_cases hb:b∈tabs.map (·.2)
   ·have g:=(Sa hb).symm.trans z
    cases g;exact A hb
   ·by_cases i:b=a
    ·have g:=((Sb hb).trans (Sa i)).symm.trans z
     cases g;subst i;exact⟨ha,by rw[Ab];exact hl,vs,_,X,ha⟩
    ·have g:=((Sb hb).trans (Sb i)).symm.trans z
     cases g
  ·by_cases hb:b∈tabs.map (·.2)
   ·exact .inr hb
   ·by_cases i:b=a
    ·exact .inl i
    ·exact absurd ((Sb hb).trans (Sb i)) z
def Nh{l:PySem.W.OpenLaw}{n k:Nat}{q:Program}{O:List Str}{XP:(Str->Option Value)->Heap->Prop}{r:World->Heap->Prop}{d:DefRec}{K:Params->Ac}{CX:eD}{sp:World->Sp}{x:Str}{tabs:List (Addr×Addr)}{xs:List Str}(P:l.most=some n)(Q:n<=sizeLine)(S:d.params.defaults=[])(hr:Room k callerA)(U:∀(w:World)(h:Heap),r w h->(K w.params).In h)(X:∀p,R8 (K p)=true)(hx:∀p,xs.map (Qr (K p))=tabs.map some)(eJ:∀x∈xs,((recsOf q).find? (fun e=>e.name==x)).isSome=true)(F:∀(w:World)(mg:Str->Option Value)(fa:Addr)(h:Heap),(K w.params).In h->h.Ns mainGlobals mg->mg d.name=some (.ref fa)->
   ∃fd:FuncData,(∀(s:Shared)(u:Value),BindsTo s fd ⟨[u],[]⟩ [(x,u)])/\
    ∀base:Heap,(K w.params).In base->base.Ns mainGlobals mg->BM mg base->PySem.W.CodeAll tabs base->FnOk l.prog w (K w.params) mg base CX k fa fd [x] (sp w))
  (bE:∀(w:World)(H:Hp)(a:Addr)(ns:List Int),ns.length<=n->SqL (K w.params) H a (ns.map V.int)->(∀q∈tabs,H q.2=some (.tbl #[]))->sp w [.ref a] H (fun v _=>v=.bl true) fun _ _ _=>False)
  (iw:∀(H:Hp)(s:Shared)(e:Value)(s':Shared),CX [] H s (fun _ _ _=>False) e s'->False) :
  PySem.W.WalkO q O XP r l.row.toRowW d [] (fun f vs=>PySem.call f vs):=by
 refine Att.EM P S fun w s₀ j mg mb fa o pm cd ba a vs ns G Y ho hd bf A C D c E=>?_;have i:=U w _ Y;obtain⟨fd,hb,L⟩:=F w mg fa _ i G.T.g A;have N:PySem.W.TabsAt tabs j.heap:=fun t ht=>by
  have h1:some t∈xs.map (Qr (K w.params)):=by rw[hx];exact Ru ht
  obtain⟨y,hy,e⟩:=Bp.mp h1;obtain⟨dr,M⟩:=Pn.mp (eJ y hy);exact PySem.W.tab_of G.T i M e
 exact Ng i G.T.g G.T.b G.T.builtins G.T.nolimit E G.T.bmain N (X _) C D (Ay c Q) hr L hb (fun H I J=>bE w H a ns c I J) fun H e s'=>iw H j e s'
section
variable{X:Cx}{aa:Ψ}{σ:St}{H:Hp}{s:Shared}
def Ni{f l S I:Addr}{as:List Addr}{ns:List Int}{R:Result->Shared->Prop}(hh:X.A.handled=none)(hl:SqL X.K H l (as.map V.ref))(aE:ns.length=as.length)(Q:be X aa H S)(p:be X aa H I)(E:S≠I)(eV:l≠I)(run:∀s',Inv X aa σ H s'->∀(j:Nat) a n,as[j]?=some a->ns[j]?=some n->codeAny (model X.prog X.w) X.A.in1 (.call (.ref f) ⟨[.ref a],[]⟩) (fun r x=>∃v,r=.ok (.ret v)/\CE X.stack X.prog X.w H s' (fun v H'=>v=.int n/\H'=H) v x) s')(hR:∀(j:Nat) a n s',Inv X aa σ H s'->as[j]?=some a->ns[j]?=some n->(∀m∈ns,m<=n)->R (.ok (.ret (.ref a))) s'):∀(r j i:Nat)(s':Shared)(a:Addr)(n:Int)(t:Tok)(c:Nat),as.length-(j+1)=r->j+1<=as.length->Inv X aa σ H s'->s'.heap.get? S=some (seqObj "list" #[.ref a,.int n t] c)->
   s'.heap.IsListIter I l (j+1)->as[i]?=some a->ns[i]?=some n->(∀(h:Nat) m,h<=j->ns[h]?=some m->m<=n)->
   codeAny (model X.prog X.w) X.A (.builtin "max.loop" ⟨[.ref I,.ref f,.ref S],[]⟩) R s':=by
 have g:(toString "max"++toString ".loop":String)="max.loop":=ξ
 have W:=Walks.list (prog:=X.prog) (w:=X.w) (A:=X.A.in1) hh I l eV (as.map Value.ref).toArray;have hsz:(as.map Value.ref).toArray.size=as.length:=by rw[Al,Ab]
 have M:∀s',Inv X aa σ H s'->s'.heap.IsList l (as.map Value.ref).toArray:=fun s' Ik=>by
  obtain⟨ae,r1,p1,_⟩:=Ik.list hl;obtain rfl:=a8 r1;exact p1.isList
 intro r
 induction r with
 |zero=>
  intro j i s' a n t c hr hj Ik G T U Y O;have hin:j+1=as.length:=ω
  refine A0 Qb ?_;rw[AM AL _];show wpAny _ X.A.in1 (seqItems? (.ref S) >>= _) _ _ _;refine Aa (A8 G rfl ?_);show wpAny _ X.A.in1 (tryCatch (pyNext (.ref I)) _ >>= _) _ _ _;refine Aa (wpAny_tryCatch (W.done _ _ _ ⟨by rw[hsz,<-hin];exact T,M _ Ik⟩ fun h' y J=>?_));have I1:Inv X aa σ H {s' with heap:=h',toks:=y}:=Inv.turneds (t':=y) (ch:=[I]) Ik (gh p) fun b o hb q=>J b o hb q;have cb:=J S _ (by simpa using E) G;have P:=AR h' S (AH fun _=>(#[]:Array Value));show wpAny _ X.A.in1 (updateSeq S (fun _=>#[]) >>= _) _ _ _;refine Aa ?_;refine wpAny_updateSeq (s:={s' with heap:=h',toks:=y}) cb rfl (Aa (wpAny_letGo (Ae ?_)));refine hR i a n _ (Inv.turneds (s:={s' with heap:=h',toks:=y}) (t':=y) (ch:=[S]) I1 (gh Q) fun b o hb q=>(P.2 b (fun z=>hb (by simp[z]))).trans q) U Y fun m hm=>?_;obtain⟨h,e'⟩:=Pc.mp hm;have:=(KK.mp e').1;exact O h m ω e'
 |succ r ih=>
  intro j i s' a n t c hr hj Ik G T U Y O;have d:j+1<as.length:=ω
  refine A0 Qb ?_;rw[AM AL _];show wpAny _ X.A.in1 (seqItems? (.ref S) >>= _) _ _ _;refine Aa (A8 G rfl ?_);show wpAny _ X.A.in1 (tryCatch (pyNext (.ref I)) _ >>= _) _ _ _;refine Aa (wpAny_tryCatch (W.item (j+1) _ _ _ (by rw[hsz];exact d) ⟨T,M _ Ik⟩ fun v h' y hP cF J=>?_));have e1:as[j+1]?=some (as[j+1]'(d)):=Ah d;have e2:ns[j+1]?=some (ns[j+1]'ω):=Ah ω;have hv:v=.ref (as[j+1]'(d)):=by
   have:(as.map Value.ref)[j+1]?=some v:=by simpa using hP
   rw[Ai,e1] at this;exact(Ag this).symm
  subst hv;obtain⟨gc,db,bR,bO⟩:=id cF.1;have I1:Inv X aa σ H {s' with heap:=h',toks:=y}:=Inv.turneds (t':=y) (ch:=[I]) Ik (gh p) fun b o hb q=>J b o hb q;have cb:=J S _ (by simpa using E) G;generalize as[j+1]'(d)=C at e1 ⊢;generalize (ns[j+1]'ω)=n2 at e2;show wpAny _ X.A.in1 (tryCatch (holding [.ref C] (call (.ref f) [.ref C])) _ >>= _) _ _ _;refine Aa (wpAny_tryCatch (AD (wpAny_call (codeAny_mono (run _ I1 (j+1) _ _ e1 e2) fun r x hq=>?_))));obtain⟨u,rfl,v,H',os,L,un,hok,ru,rfl,rfl⟩:=hq;obtain⟨D,rfl⟩:=ru;have I2:Inv X aa σ H' x:=I1.call' os un hok L (fun b z=>nomatch z);have iN:=un.keep S _ cb Q.1 (ri I1 Q) (by simp);have kJ:=un.keep I _ db p.1 (ri I1 p) (by simp);have N:x.heap.IsListIter I l (j+1+1):=⟨gc,kJ,bR,bO⟩
  try dsimp only
  show wpAny _ X.A.in1 (tryCatch (holding [.ref C,.int n2 D] (richCompare .Gt (.int n2 D) (.int n t) >>= _)) _ >>= _) _ _ _;refine Aa (wpAny_tryCatch (AD (Aa (gt_int ?_))));refine Aa (AD (wpAny_truthy_bool ?_));refine Aa (wpAny_letGo (Ae ?_))
  by_cases hb':n<n2
  ·have P:=AR x.heap S (AH fun _=>#[.ref C,.int n2 D])
   obtain⟨c2,bS⟩:∃c2,(x.heap.update S (AH fun _=>#[.ref C,.int n2 D])).get? S=some (seqObj "list" #[.ref C,.int n2 D] c2):=⟨_,get?_update_seq iN fun _=>#[.ref C,.int n2 D]⟩;simp only[hb',decide_true,if_true];refine Aa ?_;refine wpAny_updateSeq iN rfl (Aa (wpAny_letGo ?_));rw[g];refine Ae ⟨Bb AL _,ih (j+1) (j+1) _ C n2 D c2 ω d (Inv.turneds (t':=x.toks) (ch:=[S]) I2 (gh Q) fun b o hb q=>(P.2 b (fun z=>hb (by simp[z]))).trans q) bS ⟨gc,(P.2 I E.symm).trans kJ,bR,bO⟩ e1 e2 fun h m hj' em=>?_⟩
   by_cases e:h=j+1
   ·subst e
    rw[e2] at em;cases em;exact P4 _
   ·have:=O h m ω em
    omega
  ·simp only[hb',decide_false,AG,if_false]
   refine Aa (wpAny_letGo ?_);rw[g];refine Ae ⟨Bb AL _,ih (j+1) i x a n t c ω d I2 iN N U Y fun h m hj' em=>?_⟩
   by_cases e:h=j+1
   ·subst e
    rw[e2] at em;cases em;omega
   ·exact O h m ω em
def Nj{f l:Addr}{as:List Addr}{ns:List Int}{Q:Ω}(hh:X.A.handled=none)(I:Inv X aa σ H s)(Y:SqL X.K H l (as.map V.ref))(aE:ns.length=as.length)(c:0<as.length)(run:∀s',Inv X aa σ H s'->∀(j:Nat) a n,as[j]?=some a->ns[j]?=some n->codeAny (model X.prog X.w) X.A.in1 (.call (.ref f) ⟨[.ref a],[]⟩) (fun r p=>∃v,r=.ok (.ret v)/\CE X.stack X.prog X.w H s' (fun v H'=>v=.int n/\H'=H) v p) s')(h:∀(j:Nat) a n s',Inv X aa σ H s'->as[j]?=some a->ns[j]?=some n->(∀m∈ns,m<=n)->Q (.ref a) s'):wpAny (model X.prog X.w) X.A (call (.builtin "max") [.ref l] [(Str.ofString "key",.ref f)]) Q X.xe s:=by
 have d:(toString "max"++toString ".loop":String)="max.loop":=ξ
 have C:∀s',Inv X aa σ H s'->s'.heap.IsList l (as.map Value.ref).toArray:=fun s' Ik=>by
  obtain⟨ae,r1,p1,_⟩:=Ik.list Y;obtain rfl:=a8 r1;exact p1.isList
 have N:=C s I;obtain⟨ol,hol,_⟩:=id N;have i7:l<s⁻¹:=Am hol;refine kmk_tree PySem.F.kind_max PySem.F.plain_max PySem.F.entry_max (kmk_max_key _ _) ?_;show wpAny _ X.A.in1 (Builtin.Builtins.bindParams "max" ["key","default"] 0 ⟨[],[(Str.ofString "key",.ref f)]⟩ >>= _) _ _ s;refine Aa (wpAny_of_eq (show Builtin.Builtins.bindParams "max" ["key","default"] 0 ⟨[],[(Str.ofString "key",.ref f)]⟩=pure [some (.ref f),none] from rfl) ?_);refine Aa (Ae ?_);refine Aa (wpAny_pyIter_list N ?_);refine Aa (wpAny_newList ?_ (AX _));rw[d];have J:(s.heap.push {cls:=.type "list_iterator",data:=.fields #[.ref l,.int 0 0]}).objs.size=s⁻¹+1:=size_push' ..;have O:l≠s⁻¹:=Ar i7;have i:(s.heap.push {cls:=.type "list_iterator",data:=.fields #[.ref l,.int 0 0]}).objs.size≠s⁻¹:=by rw[J];exact AW (QP _)
 have e:be X aa H s⁻¹:=I.fpOk (Af _) (I.hok.fresh (Af _));have D:be X aa H (s.heap.push {cls:=.type "list_iterator",data:=.fields #[.ref l,.int 0 0]}).objs.size:=I.fpOk (by rw[J];exact Qv _) (I.hok.fresh (by rw[J];exact Qv _));refine Ae ⟨Bb AL _,?_⟩;have I0:Inv X aa σ H {s with heap:=(s.heap.push {cls:=.type "list_iterator",data:=.fields #[.ref l,.int 0 0]}).push (seqObj "list" #[] 0)}:=I.kept (t':=s.toks) fun b u q=>Ad _ (Ad _ q);have gI:((s.heap.push {cls:=.type "list_iterator",data:=.fields #[.ref l,.int 0 0]}).push (seqObj "list" #[] 0)).get? s⁻¹=some {cls:=.type "list_iterator",data:=.fields #[.ref l,.int 0 0]}:=
  Ad _ (An _ rfl)
 have P:((s.heap.push {cls:=.type "list_iterator",data:=.fields #[.ref l,.int 0 0]}).push (seqObj "list" #[] 0)).get? (s.heap.push {cls:=.type "list_iterator",data:=.fields #[.ref l,.int 0 0]}).objs.size=some (seqObj "list" #[] 0):=An _ rfl;have W:=Walks.list (prog:=X.prog) (w:=X.w) (A:=X.A.in1) hh s⁻¹ l O (as.map Value.ref).toArray;have hsz:(as.map Value.ref).toArray.size=as.length:=by rw[Al,Ab]
 generalize (s.heap.push {cls:=.type "list_iterator",data:=.fields #[.ref l,.int 0 0]}).objs.size=S at *;refine A0 Qb ?_;rw[AM AL _];show wpAny _ X.A.in1 (seqItems? (.ref S) >>= _) _ _ _;refine Aa (A8 P rfl ?_);show wpAny _ X.A.in1 (tryCatch (pyNext (.ref s⁻¹)) _ >>= _) _ _ _;refine Aa (wpAny_tryCatch (W.item 0 _ _ _ (by rw[hsz];exact c) ⟨⟨_,gI,rfl,rfl⟩,C _ I0⟩ fun v h' L hP cF M=>?_));have e1:as[0]?=some (as[0]'(c)):=Ah c;have e2:ns[0]?=some (ns[0]'ω):=Ah ω;have hv:v=.ref (as[0]'(c)):=by
  have:(as.map Value.ref)[0]?=some v:=by simpa using hP
  rw[Ai,e1] at this;exact(Ag this).symm
 subst hv;obtain⟨gc,db,bR,bO⟩:=id cF.1;have I1:Inv X aa σ H {s with heap:=h',toks:=L}:=Inv.turneds (s:={s with heap:=(s.heap.push {cls:=.type "list_iterator",data:=.fields #[.ref l,.int 0 0]}).push (seqObj "list" #[] 0)}) (t':=L) (ch:=[s⁻¹]) I0 (gh e) fun b o hb q=>M b o hb q;have cb:=M S _ (by simpa using i) P;generalize as[0]'(c)=g at e1 ⊢;generalize (ns[0]'ω)=n2 at e2;show wpAny _ X.A.in1 (tryCatch (holding [.ref g] (call (.ref f) [.ref g])) _ >>= _) _ _ _;refine Aa (wpAny_tryCatch (AD (wpAny_call (codeAny_mono (run _ I1 0 _ _ e1 e2) fun r p hq=>?_))));obtain⟨u,rfl,v,H',os,y,un,G,ru,rfl,rfl⟩:=hq;obtain⟨x,rfl⟩:=ru;have I2:Inv X aa σ H' p:=I1.call' os un G y (fun b z=>nomatch z);have T:=un.keep S _ cb D.1 (ri I1 D) (by simp);have kJ:=un.keep s⁻¹ _ db e.1 (ri I1 e) (by simp)
 try dsimp only
 have U:=AR p.heap S (AH fun _=>#[.ref g,.int n2 x]);obtain⟨E,bS⟩:∃E,(p.heap.update S (AH fun _=>#[.ref g,.int n2 x])).get? S=some (seqObj "list" #[.ref g,.int n2 x] E):=⟨_,get?_update_seq T fun _=>#[.ref g,.int n2 x]⟩;show wpAny _ X.A.in1 (updateSeq S (fun _=>#[.ref g,.int n2 x]) >>= _) _ _ _;refine Aa ?_;refine wpAny_updateSeq T rfl ?_;rw[d];refine Ae ⟨Bb AL _,Ni hh Y aE D e i O run (fun j a n s' Ij ea en hb=>h j a n s' Ij ea en hb) _ 0 0 _ g n2 x E rfl c (Inv.turneds (t':=p.toks) (ch:=[S]) I2 (gh D) fun b o hb q=>(U.2 b (fun z=>hb (by simp[z]))).trans q) bS ⟨gc,(U.2 _ i.symm).trans kJ,bR,bO⟩ e1 e2 fun j' m hj' em=>?_⟩;obtain rfl:j'=0:=ω
 rw[e2] at em;cases em;exact P4 _
end
def Nk(K:Ac)(P:Addr)(pos:Pos)(c:Str)(iy:Nat)(te:TE)(ta:TA):TE:=fun σ H Q=>ta σ H fun vs H1=>∃(l:Addr)(as:List Addr)(ns:List Int)(vy:V),vs=[.ref l]/\SqL K H1 l (as.map V.ref)/\ns.length=as.length/\0<as.length/\σ[iy]?=some (some vy)/\Tab H1 P pos c/\
 (∀H2,zax H1 H2->∀(j:Nat) a n,as[j]?=some a->ns[j]?=some n->te [some (.ref a),some vy] H2 fun v H'=>v=.int n/\H'=H2)/\
 ∀H2(j:Nat) a n,zax H1 H2->(∀b ps,b≠P->H1 b=some (.tbl ps)->H2 b=some (.tbl ps))->Tab H2 P pos c->as[j]?=some a->ns[j]?=some n->(∀m∈ns,m<=n)->Q (.ref a) H2
section
variable{X:Cx}{a:Expr}{ta:TA}{p p2 pos il fQ:Pos}{P c cc:Addr}{args:Arguments}{body:Expr}{sc:Scope}{x y:Str}{iy k:Nat}{te:TE}
def Nl(hr:Room (k+2) X.A)(hg:Gl X "max")(hm:X.mg "max"=none)(hv:AV "max"=some (.builtin "max"))(hC:PySem.W.CodeHd X.base c P)(dw:X.env.code=.ref c)(dQ:BM X.mg X.base)(E:closureFor sc X.env=pure [(y,cc)])(av:X.env.cells.lookup y=some cc)(hk:X.env.kindOf y=some .cell)(hN:X.N[iy]?=some y)(S:G3 x y sc)(hb:∀C cl i c' r u,bindArgs (Re "<lambda>" C args body sc cl i (.ref c') r) ⟨[u],[]⟩=pure [(x,u)])(aG:∀s H f C c',PE (tm X X.A.in1 s H f C sc x y cc c') body te)(ha:PA X [a] ta)(hc:X.calm=true)(he:starEach [a] X.env=[(false,eval a X.env)]:=by rfl)(ij:defaultsOf args X.env=([],[]):=by rfl):PE X (.Call (.Name "max" p) [a] [⟨some "key",.Lambda args body sc fQ,il⟩] pos) (Nk X.K P fQ (X.env.qual++"<lambda>") iy te ta):=by
 intro aa s σ H Q I h;refine wpAny_Call_Name_kw (jD I hg hm hv ?_);refine callWith_kw ?_ (by rw[he];rfl) (by rw[he];rfl) rfl rfl;refine aV (ha pos aa s σ H _ I h) fun us F ⟨vs,H1,I1,G,J⟩=>?_;obtain⟨l,as,ns,vy,rfl,hl,qe,h0,mH,ht,vK,q⟩:=J;obtain⟨u,rfl,ru⟩:=vals1 G;cases ru;refine kws_cons (aV (Nf (P:=P) (args:=args) (body:=body) (pos:=fQ) hC dw dQ E ij aa F σ H1 (fun v H2=>∃f,v=.ref f/\zax H1 H2/\(∀b ps,b≠P->H1 b=some (.tbl ps)->H2 b=some (.tbl ps))/\Tab H2 P fQ (X.env.qual++"<lambda>")/\zhe H2 f (X.env.qual++"<lambda>") args body sc y cc) I1 ⟨ht,fun f H2 M O T U=>⟨f,rfl,M,O,T,U⟩⟩) fun u2 Y wg=>?_);obtain⟨v2,H2,I2,r2,f,rfl,sm,cN,tb,L⟩:=wg;cases r2;refine kws_nil ?_;show wpAny (model X.prog X.w) X.A (call (.builtin "max") [.ref l] [(Str.ofString "key",.ref f)]) _ _ Y;have D:SqL X.K H2 l (as.map V.ref):=by
  rcases hl with (z|⟨o,z⟩)|z
  ·exact .inl (.inl (sm _ _ (fun _ e=>nomatch e) z))
  ·exact .inl (.inr ⟨o,sm _ _ (fun _ e=>nomatch e) z⟩)
  ·exact .inr z
 refine Nj (I.ok.hd hc) I2 D qe h0 (fun s' I' j a n d g=>?_) fun j a n s' I' d g hb=>⟨.ref a,_,I',rfl,q H2 j a n sm cN tb d g hb⟩;exact Nc (va:=.ref a) (vy:=vy) (iy:=iy) I' I'.env0.in1 rfl (Room.in1 hr).depth L S av hN mH (.inl hk) (fun i c' r=>hb _ _ i c' r _) rfl (fun c'=>aG s' H2 f _ c') (vK H2 sm j a n d g)
end
def zax.tp{H H':Hp}{a:Addr}{ps:List Int}(e:zax H H')(h:Tp H a ps):Tp H' a ps:=e _ _ (fun _ z=>nomatch z) h
def zax.tps{H H':Hp}{as:List Addr}{ad:Ξ}(e:zax H H')(h:Tps H as ad):Tps H' as ad:=Paired.mapP h fun _ _ q=>e.tp q
def zax.seq{K:Ac}{H H':Hp}{l:Addr}{xs:List V}(e:zax H H')(h:SqL K H l xs):SqL K H' l xs:=by
 rcases h with (z|⟨o,z⟩)|z
 ·exact .inl (.inl (e _ _ (fun _ q=>nomatch q) z))
 ·exact .inl (.inr ⟨o,e _ _ (fun _ q=>nomatch q) z⟩)
 ·exact .inr z
def zax.free{H H':Hp}{P:Addr}{pos:Pos}{a:Str}(e:zax H H')(c:∀b ps,b≠P->H b=some (.tbl ps)->H' b=some (.tbl ps))(tb:Tab H' P pos a){l:Addr}(h:H' l=none):H l=none:=by
 cases q:H l with
 |none=>rfl
 |some o=>
  have:H' l=some o:=by
   by_cases z:∃ps,o=.tbl ps
   ·obtain⟨ps,rfl⟩:=z
    refine c l ps (fun y=>?_) q;subst y;rcases tb with t|⟨_,t,_⟩<;>(rw[h] at t;cases t)
   ·exact e l o (fun ps y=>z ⟨ps,y⟩) q
  rw[h] at this;cases this
def Nm{p y:Str}:∀x,([(p,NameKind.local),(y,A5)]:List (Str×NameKind)).lookup x=some .free->x=y:=fun x h=>by
 rw[AT] at h;cases h1:x==p with
 |true=>rw[h1] at h;cases h
 |false=>
  rw[h1] at h;have h':([(y,A5)]:List (Str×NameKind)).lookup x=some .free:=h;rw[AT] at h';cases h2:x==y with
  |true=>exact eq_of_beq h2
  |false=>rw[h2] at h';cases h'
end L2
end
section
namespace Dk
open PySem
section
variable{prog:Program}{w:World}{A:Around}{E:Ω}{s:Shared}
def No(d:Addr)(hd:(d==sysModules)=false):MeetsIn prog w (Builtin.«dict.__len__» ⟨[.ref d],[]⟩) (fun _ R s=>∃es ep,IsD s.heap d es ep/\R (.ok (.ret (.int es.size s.toks))) {s with toks:=s.toks+1}):=
 .of_wp fun A R s ⟨es,ep,hm,h⟩=>by
  obtain⟨o,a,hc,b⟩:=hm;show wpAny _ _ (dictSize d >>= _) _ _ s;unfold dictSize;refine Aa (Aa (A9 a b (Ae ?_)));show wpAny _ _ (Builtin.Dict.pendingCount d >>= _) _ _ s;refine Aa (wpAny_pendingCount_other hd ?_);refine wpAny_ret_mkInt ?_;rw[Nat.add_zero];exact h
def Ek{d:Addr}{es:Array DictEntry}{ep:Nat}{Q:Ω}(hd:(d==sysModules)=false)(hm:IsD s.heap d es ep)(a:(es.size:Int)<2 ^ 63)(h:Q (.int es.size (s.toks+1)) {s with toks:=s.toks+1+1}):wpAny (model prog w) A (call (.builtin "len") [.ref d]) Q E s:=by
 refine Calls.call_function_entry kind_len plain_len entry_len (args_len1 _) ?_;unfold Builtin.«len»;refine Aa (m:=oneArg "len" _) (Ae ?_);refine Aa (m:=callSpecial? (.ref d) (Str.ofString "__len__")) (wpAny_callSpecial?_slot (name:=Str.ofString "__len__") hm.typeIs F.slot_dict_len
  (call_meetsIn F.slot_dict_len hm.typeIs F.entry_dict_len (F.args_dict_len_1 _) (No d hd) ⟨es,ep,hm,?_⟩))
 show wpAny _ _ _ _ _ {s with toks:=s.toks+1};refine Aa (AD (Ae ?_));refine Aa (wpAny_letGo ?_);show wpAny _ _ (if((es.size:Nat):Int)<0 then _ else _) _ _ _;rw[Sb ω];show wpAny _ _ (if((es.size:Nat):Int) ≥ 2 ^ 63 then _ else _) _ _ _;rw[Sb ω];exact Aa (wpAny_mkInt (Ae ⟨_,rfl,h⟩))
end
end Dk
namespace L2
open PySem PySem.Spec PyProof.Rows
section
variable{X:Cx}
def C_:dy X (.builtin "len") (fun xs H Q=>∃a kvs,xs=[V.ref a]/\Rd H a (.dT kvs)/\Q (.int kvs.length) H):=by
 intro aa s σ H xs us Q I r h;obtain⟨a,kvs,rfl,ha,q⟩:=h;obtain⟨u,rfl,d⟩:=vals1 r;cases d;obtain⟨z,y,ys,b,o,es,ep,h1,h2,e,f,g⟩:=(show zw X.prog X.w H s.heap a (.dT kvs) from ha.ok I.hok);have c:es.size=kvs.length:=by
  have:=congrArg List.length f;rw[Ab,<-AY b] at this
  simpa using this
 refine Dk.Ek y ⟨o,h1,h2,e⟩ (by rw[c];rw[sizeLine_eq] at z;omega) ⟨.int kvs.length,H,I.tok _,⟨_,by rw[c]⟩,q⟩
end
end L2
end
section
namespace L2
open PySem PySem.Spec PyProof.Rows
section
variable{X:Cx}{aa:Ψ}{σ:St}{H:Hp}{s:Shared}{D:Addr}{o:Obj}{kvs:List (List Key×V)}
def Inv.thaw(I:Inv X aa σ H s)(g:X.H₀ D=none)(d:H D=some (.frz o (.dT kvs))):Inv X aa σ (upd H D (.dT kvs)) s:=by
 have ne:∀{b:Addr},H b=none->b≠D:=fun{b} e=>(zg d e).symm;refine⟨I.ok,I.os,I.bare,⟨I.base.keep,I.base.slot,fun b u e n hx=>?_,I.base.there,fun b xs e=>?_,fun b ob u e=>?_,fun b ps e=>?_⟩,I.loc,I.cell,?_,fun x c e=>?_,fun p hp=>?_,fun b u e=>?_,I.len⟩
 ·have:=I.base.free b u e n hx
  rw[al (ne this)];exact this
 ·have:=I.base.tups b xs e
  rw[al (a7 this d (by intro z;cases z))];exact this
 ·have hb:b≠D:=fun z=>by rw[z,g] at e;cases e
  rw[al hb];exact I.base.frzs b ob u e
 ·have hb:b≠D:=fun z=>by rw[z,g] at e;cases e
  rw[al hb];exact I.base.tbls b ps e
 ·rw[al (ne I.free)];exact I.free
 ·rw[al (ne (I.freeC x c e))];exact I.freeC x c e
 ·obtain⟨h,f,i⟩:=I.pin p hp
  exact⟨h,by rw[al (ne f)];exact f,i⟩
 ·have st:∀{a:Addr}{v:HO},zw X.prog X.w H s.heap a v->zw X.prog X.w (upd H D (.dT kvs)) s.heap a v:=fun{a v} x=>
   x.stay (fun _ _ _ q=>q) (fun c q=>by rw[al (a7 q d (by intro z;cases z))];exact q) fun c xs q=>by rw[al (a7 q d (by intro z;cases z))];exact q
  by_cases hb:b=D
  ·subst hb
   rw[ag] at e;cases e;have hx:=I.hok b _ d;exact st (show s.heap.get? b=some o/\zw X.prog X.w H s.heap b (.dT kvs) from hx).2
  ·rw[al hb] at e
   exact st (I.hok b u e)
end
end L2
end
section
namespace Dk
open PySem PySem.Spec PyProof.Rows
end Dk
namespace L2
open PySem PySem.Spec PyProof.Rows
section
variable{X:Cx}
def G4(tk tv:TE):TE:=fun σ H Q=>∀p,H p=none->xX [(tk,tv)] σ (upd H p (.dT [])) fun ps H2=>∃b k v,ps=[(.ref b,v)]/\H2 p=some (.dT [])/\H2 b=some (.tup (List.map kV k))/\Q (.ref p) (upd H2 p (.dT [(k,v)]))
def Da{j l:Expr}{pos:Pos}{tk tv:TE}(hu:X.A.units+1<cLine)(hk:PE X j tk)(J:PE X l tv):PE X (.Dict [some j] [l] pos) (G4 tk tv):=by
 intro aa s σ H Q I q;have G:=I.hok.fresh (Af s⁻¹);have L:=I.laid (a:=s⁻¹) (o:=.dT []) (h':=s.heap.push {cls:=.type "dict",data:=.dict #[]}) (t':=s.toks) (fun _ _ q=>Ad _ q) (Af _) (EK s.heap I.big);refine wpAny_Dict_any rfl rfl (by simp) (by simp) (aV (JT hk J JS aa _ σ _ _ L (q _ G)) fun M N ⟨ps,H2,I2,d,b,k,v,ep,e,f,p⟩=>?_);subst ep;cases d with
 |@cons p' w0 lw qs' h t=>
  cases t;obtain⟨x,O⟩:=w0;obtain⟨y,C⟩:=h;cases(show x=Value.ref b from y);obtain⟨z,hd,xs,d,dd⟩:=EJ I2.hok e;cases d;unfold storeAll;rw[Rp];refine Aa (Aa (wpAny_dictSet_heap (hsz:=AX _) (knd:=tupleKind (zr X.prog X.w)) (by show X.A.units<cLine;omega) (kz I2.hok f) dd fun h' r u=>Ae ?_));show wpAny _ _ (forIn _ _ _) _ _ _;rw[List.forIn_nil];refine Ae ⟨.ref s⁻¹,_,?_,rfl,p⟩;obtain⟨i,es,ep,hq,h2,D,E,_,F⟩:=r;refine qM I2 (by rw[e];exact True.intro) u ⟨i,hq⟩ ⟨by show 1<=sizeLine;rw[sizeLine_eq];omega,hd,_,(KT.put (kvs:=[]) .nil k f C).keeps fun c ys g=>?_,i,es,ep,hq,h2,D,E,F⟩;rw[al (a7 g e (fun z=>nomatch z))];exact g
end
end L2
end
section
namespace L2
open PySem PySem.Spec PyProof.Rows
def G5{P:Program}{w:World}{H:Hp}{h:Heap}{a:Addr}{kvs:List (List Key×V)}{ad:Ξ}(ok:HOk P w H h)(hq:Rd H a (.dT kvs))(hp:kvs.map (·.1)=ad.map (·.map Sum.inl)):(a==sysModules)=false/\∃xs:List (List Int×Addr×Value),(∀v d,h.DictOfH (tupleKind (intKind v d)) a xs)/\xs.length=kvs.length/\∀(i:Nat) x,xs[i]?=some x->ad[i]?=some x.1/\∃kv,kvs[i]?=some kv/\RelV kv.2 x.2.2:=by
 obtain⟨z,y,ys,g,o,es,ep,h1,h2,C,D,A⟩:=(show zw P w H h a (.dT kvs) from hq.ok ok);have key:∀{l:List (List Key×V)}{m:List (List Key×Addr×Value)}{c:Ξ},KT H l m->l.map (·.1)=c.map (·.map Sum.inl)->
   ∃xs:List (List Int×Addr×Value),m=xs.map (fun x=>(x.1.map Sum.inl,x.2))/\xs.map (·.1)=c/\(∀x∈xs,Tp H x.2.1 x.1)/\xs.length=l.length/\∀(i:Nat) x,xs[i]?=some x->c[i]?=some x.1/\∃kv,l[i]?=some kv/\RelV kv.2 x.2.2:=by
  intro l m c q
  induction q generalizing c with
  |nil=>intro e;cases c with
   |nil=>exact⟨[],rfl,rfl,(fun x hx=>by cases hx),rfl,(fun i x e=>by simp at e)⟩
   |cons p ps=>simp at e
  |@cons p q' ps qs' hq t ih=>intro e;cases c with
   |nil=>simp at e
   |cons r rs=>
    simp only[As,List.cons.injEq] at e;obtain⟨xs,e1,e2,e3,j,u⟩:=ih e.2;have hk:=hq.2.1;rw[e.1,Aj] at hk;refine⟨(r,q'.2)::xs,?_,by rw[As,e2],fun x hx=>?_,by simp[j],fun i x ex=>?_⟩
    ·rw[As,<-e1,<-e.1,hq.1]
    ·rcases Pa.mp hx with rfl|hx
     ·exact hk
     ·exact e3 x hx
    ·cases i with
     |zero=>
      simp at ex;subst ex;exact⟨rfl,p,rfl,hq.2.2⟩
     |succ i=>simpa using u i x (by simpa using ex)
 obtain⟨xs,e1,e2,e3,j,u⟩:=key g hp;refine⟨y,xs,fun v d=>⟨o,es,ep,h1,h2,C,?_,fun x hx=>?_,?_⟩,j,u⟩
 ·rw[D,e1,Aj]
  refine AA fun x _=>?_;show DictEntry.mk (tupleKeyHash (zr P w) (x.1.map Sum.inl)) (.ref x.2.1) x.2.2=DictEntry.mk (tupleKeyHash (intKind v d) x.1) (.ref x.2.1) x.2.2;rw[L_]
  rfl
 ·obtain⟨_,ae,r,p⟩:=(show zw P w H h x.2.1 (.tup (x.1.map V.int)) from ok x.2.1 _ (e3 x hx))
  exact KP p (intsAre_of r)
 ·have E:xs.map (fun x=>x.1.map (Sum.inl:Int->Key))=(xs.map (·.1)).map (·.map Sum.inl):=by rw[Aj];rfl
  rw[e1,Aj] at A;have F:((xs.map (·.1)).map (·.map (Sum.inl:Int->Key))).Nodup:=by rw[<-E];exact A
  exact List.Pairwise.of_map _ (fun a b f e=>f (by rw[e])) F
end L2
end
section
namespace DEq
open PySem
section
variable{prog:Program}{w:World}{K:Type}[DecidableEq K]{knd:HeapKind prog w K}{A:Around}{E:Ω}{s:Shared}
def Np{id:String}{a b:Addr}{xs ys:List (K×Addr×Value)}{Q:Bool->Shared->Prop}(hu:knd.room A)(ha:(a==sysModules)=false)(hb:(b==sysModules)=false)(hx:s.heap.DictOfH knd a xs)(hy:s.heap.DictOfH knd b ys)(W:xs.length=ys.length)(X:∀(i:Nat) k p v,xs[i]?=some (k,p,v)->∃(j:Nat)(q:Addr)(n:Int)(t t':Tok),v=.int n t/\ys[j]?=some (k,q,.int n t'))(h:Q true s):wpAny (model prog w) A (Builtin.Dict.samePairs id a b) Q E s:=by
 obtain⟨oa,c,pa,f,qa,g,H,N,vb⟩:=hx;obtain⟨ob,O,pb,l,e8,o,u,P,I⟩:=hy;have J:=size_of_entries (knd:=knd) H;have sb:=size_of_entries (knd:=knd) u;unfold Builtin.Dict.samePairs Builtin.Dict.showsAll;rw[Sb (by rw[ha];exact Aq),Sb (by rw[hb];exact Aq)];refine Aa (Ae (Aa (Ae ?_)));refine Aa (A9 f g ?_);dsimp only;refine Aa (A9 l o ?_);rw[Sb (by rw[J,sb,W];simp)];refine Aa (wpAny_dictEpoch f g ?_);refine Aa ?_;rw[Std.Legacy.Range.forIn_eq_forIn_range'];simp only[Std.Legacy.Range.size,R1,Nat.add_sub_cancel,Nat.div_one];refine wpAny_forIn_list _ (fun rest r s'=>s'=s/\r.1=none/\∃i,rest=List.range' i (c.size-i)/\i<=c.size) _ ?_ ?_ _ _ ⟨rfl,rfl,0,by simp,AX _⟩
 ·rintro x rest r s' ⟨rfl,C,i,hr,hi⟩
  have d:i<c.size:=by
   rcases QE i c.size with h|h
   ·exact h
   ·rw[Nat.sub_eq_zero_of_le h] at hr;simp at hr
  obtain⟨rfl,S⟩:x=i/\rest=List.range' (i+1) (c.size-(i+1)):=by
   have e:c.size-i=(c.size-(i+1))+1:=ω
   rw[e,List.range'_succ] at hr;injection hr with h1 h2
   exact⟨h1,h2⟩
  obtain⟨⟨k,p,v⟩,D⟩:∃y,xs[x]?=some y:=⟨xs[x]'(by rw[<-J];exact d),Ah _⟩;obtain⟨T,q,n,t,t',rfl,F⟩:=X x k p v D;have hex:c[x]?=some ⟨knd.hash k,.ref p,.int n t⟩:=by rw[entry_at H x,D];rfl
  have G:knd.is s'.heap k p:=N _ (Ao D);refine Aa (A9 f g ?_);rw[hex];dsimp only;refine Aa (AD (Aa (wpAny_dictFind_heap hu G l o u P I (fun L=>absurd F (L T _)) fun j Y M=>?_)));obtain rfl:=idxH_unique I M F;dsimp only;refine Aa (A9 l o ?_);have U:O[j]?=some ⟨knd.hash k,.ref q,.int n t'⟩:=by rw[entry_at u j,F];rfl
  rw[U];dsimp only;refine AD (wpAny_eqBool_int ?_);rw[Sb (by simp)];refine Aa (wpAny_dictEpoch f g ?_);rw[Sb (by simp)];exact Ae ⟨rfl,rfl,x+1,S,d⟩
 ·rintro⟨r1,r2⟩ s' ⟨rfl,C,_⟩
  simp only at C;subst C;exact Ae h
def Nq{id:String}{a b:Addr}{xs ys:List (K×Addr×Value)}{Q:Bool->Shared->Prop}(ha:(a==sysModules)=false)(hb:(b==sysModules)=false)(hx:s.heap.DictOfH knd a xs)(hy:s.heap.DictOfH knd b ys)(l:xs.length≠ys.length)(h:Q false s):wpAny (model prog w) A (Builtin.Dict.samePairs id a b) Q E s:=by
 obtain⟨o,p,q,c,r,d,e,u,v⟩:=hx;obtain⟨ob,x,y,f,C,g,i,D,F⟩:=hy;have j:=size_of_entries (knd:=knd) e;have sb:=size_of_entries (knd:=knd) i;unfold Builtin.Dict.samePairs Builtin.Dict.showsAll;rw[Sb (by rw[ha];exact Aq),Sb (by rw[hb];exact Aq)];refine Aa (Ae (Aa (Ae ?_)));refine Aa (A9 c d ?_);dsimp only;refine Aa (A9 f g ?_);rw[Sa (by rw[j,sb];simpa using l)];exact Aa (wpAny_rule (Ae h))
def Nr{a b:Addr}{r:Bool}{Q:Ω}(c:A.units<cLine)(hx:s.TypeIs (.ref a) "dict")(hy:s.TypeIs (.ref b) "dict")(d:∀(id:String)(R:Bool->Shared->Prop)(f:Ω)(A':Around),A'.units<=A.units+8->R r s->wpAny (model prog w) A' (Builtin.Dict.samePairs id a b) R f s)(h:Q (.bool (!r)) s):wpAny (model prog w) A (compareOp .NotEq (.ref a) (.ref b)) Q E s:=by
 show wpAny _ _ (richCompare .NotEq (.ref a) (.ref b)) _ _ _;refine wpAny_richCompare_same_room (op:=.NotEq) hx hy F.slot_dict_ne (AZ F.slot_dict_ne hx F.entry_dict_ne ?_ (F.args_dict_ne_2 _ _)) c;unfold Builtin.«dict.__ne__»
 wp_delta
 refine Aa ?_;unfold Builtin.Dict.dictSlotArgs;refine Aa (wpAny_notOrdered_dict hx ?_);refine Aa (show wpAny _ _ (pure (Value.ref a,[Value.ref b])) _ _ _ from Ae ?_);refine Ae ?_;dsimp only;refine Aa (wpAny_isInstance hy DCp.Gc ?_);simp only[RS,AG,if_false];refine Aa (show wpAny _ _ (pure a) _ _ _ from Ae ?_);refine Aa (show wpAny _ _ (pure b) _ _ _ from Ae ?_);refine Aa (d _ _ _ _ (by show A.units+1<=_;omega) ?_);refine Ae ⟨_,rfl,(fun e=>nomatch e),?_⟩;cases r<;>exact h
end
end DEq
namespace L2
open PySem PySem.Spec PyProof.Rows
def fZ(H:Hp)(a b:Addr)(r:Bool):Prop:=∃(kvs c:List (List Key×V))(ad d:Ξ)(ns:List Int),Rd H a (.dT kvs)/\Rd H b (.dT c)/\kvs.map (·.1)=ad.map (·.map Sum.inl)/\c.map (·.1)=d.map (·.map Sum.inl)/\kvs.map (·.2)=ns.map V.int/\
 ((r=true/\kvs.length=c.length/\∀kv∈kvs,kv∈c)\/(r=false/\kvs.length≠c.length))
section
variable{X:Cx}
def Nt{aa:Ψ}{s:Shared}{σ:St}{H:Hp}{a b:Addr}{r:Bool}(I:Inv X aa σ H s)(hu:X.A.units+64<cLine)(h:fZ H a b r):s.TypeIs (.ref a) "dict"/\s.TypeIs (.ref b) "dict"/\
  ∀(id:String)(R:Bool->Shared->Prop)(C:Ω)(A':Around),A'.units<=X.A.units+8->R r s->wpAny (model X.prog X.w) A' (Builtin.Dict.samePairs id a b) R C s:=by
 obtain⟨kvs,Q,ad,S,ns,ha,hb,hp,o,D,hc⟩:=h;obtain⟨q,xs,d,T,E⟩:=G5 I.hok ha hp;obtain⟨u,ys,f,bl,F⟩:=G5 I.hok hb o;refine⟨(d X.prog X.w).typeIs,(f X.prog X.w).typeIs,fun id R C A' P l=>?_⟩;rcases hc with ⟨rfl,G,hm⟩|⟨rfl,G⟩
 ·refine DEq.Np (knd:=tupleKind (intKind X.prog X.w)) (show A'.units<cLine from ω) q u (d _ _) (f _ _) ω (fun i k p v e=>?_) l
  obtain⟨g1,kv,g2,g3⟩:=E i _ e;obtain⟨j,g⟩:=QK (hm kv (Ao g2));have M:j<ys.length:=by have:=(KK.mp g).1;omega
  have y:ys[j]?=some ys[j]:=Ah M;obtain⟨f1,U,f2,x⟩:=F j ys[j] y;rw[g] at f2;obtain rfl:=Ag f2;have k1:kv.1=k.map Sum.inl:=by
   have:=congrArg (·[i]?) hp;simp only[Ai,g2,g1,Pp,Be] at this;exact this
  have k2:kv.1=ys[j].1.map Sum.inl:=by
   have:=congrArg (·[j]?) o;simp only[Ai,g,f1,Pp,Be] at this;exact this
  have N:ys[j].1=k:=gg.mp (k2.symm.trans k1);have c:=congrArg (·[i]?) D;simp only[Ai,g2,Pp] at c;cases en:ns[i]? with
  |none=>rw[en] at c;simp at c
  |some n=>
   rw[en] at c;have O:kv.2=V.int n:=by simpa using c
   rw[O] at g3 x;obtain⟨t,J⟩:=(show ∃t,v=Value.int n t from g3);obtain⟨t',L⟩:=(show ∃t,ys[j].2.2=Value.int n t from x);refine⟨j,ys[j].2.1,n,t,t',J,?_⟩;rw[y,<-N,<-L]
 ·exact DEq.Nq (knd:=tupleKind (intKind X.prog X.w)) q u (d _ _) (f _ _) ω l
def G6(hu:X.A.units+64<cLine):c7 X (compareOp .NotEq) (fun x y H Q=>∃a b r,x=.ref a/\y=.ref b/\fZ H a b r/\Q (.bl (!r)) H):=by
 intro aa s σ H x y v u Q I c d h;obtain⟨a,b,r,rfl,rfl,hc,q⟩:=h;cases c;cases d;obtain⟨e,f,g⟩:=Nt I hu hc;exact DEq.Nr ω e f g ⟨.bl (!r),H,I,rfl,q⟩
end
end L2
end
section
namespace K66
open K1
open PySem L2 STb
abbrev tu:Stmt:=top 19
abbrev Db:Stmt:=top 20
abbrev Dc:Stmt:=top 24
section
variable{P:Program}{w:World}{K:Ac}{mg:Str->Option Value}{base:Heap}{f:Addr}{fd:FuncData}
def Nu{H2:Hp}{L d D:Addr}{as:List Addr}{kn seq:Ξ}{Q:VK}(i:SqL K H2 L (as.map V.ref))(ht:Tps H2 as kn)(hd:H2 d=some (.dT (fM seq)))(hz:kn.length<=1000)(c:H2 D=none)(k:∀(a:Hp),Same H2 a->a D=some (.lst ((kn.map fun p=>decide (p∈seq)).map V.bl))->Q (.ref D) a):zU (dG K L) (zK 0) cQ (kA (aw 0) (aw 1)) [none,some (.ref d)] H2 D Q:=by
 have l:=ht.length;refine zE (xs:=as.map V.ref) (fun j σ ys a=>∃(v:Option V),σ=[v,some (.ref d)]/\Same H2 a/\a D=some (.lst ys)/\ys=((kn.map fun p=>decide (p∈seq)).take j).map V.bl) ?_ ?_ ?_ ?_
 ·exact⟨none,rfl,Same.new c,ag,rfl⟩
 ·rintro j σ ys a ⟨v,rfl,sm,b,rfl⟩
  exact sm.seq i
 ·rintro j σ ys a x hx f hy ⟨v,rfl,sm,b,rfl⟩
  obtain⟨o,g,rfl⟩:=zL hx;obtain⟨p,ep,hp⟩:=ht.get g;have h:(as.map V.ref).length<=sizeLine:=by rw[Ab];exact ze ω
  have e:(kn.map fun p=>decide (p∈seq))[j]?=some (decide (p∈seq)):=by rw[Ai,ep];rfl
  refine dv ⟨_,rfl,_,rfl,d,_,rfl,DGet.t (k:=p.map Sum.inl) (sm _ _ hd) (by rw[Aj];exact sm.tp hp),?_⟩;rw[F_];exact bw h f hy b ⟨_,rfl,sm.then c,ag,by rw[AC e,Ak];rfl⟩
 ·rintro σ ys a ⟨v,rfl,sm,b,rfl⟩
  rw[AB (by rw[Ab,Ab];omega)] at b;exact k a sm b
def G7(K:Ac):Sp:=fun vs H Q _=>∃l as ad,vs=[.ref l]/\SqL K H l (as.map V.ref)/\Tps H as ad/\ad.length<=200/\∀b H',(b=true↔bo ad)->Same H H'->Q (.bl b) H'
def Dd:zm ["order","seen","piece"] ["order"] (zb tu):=⟨rfl,rfl,rfl,δ,rfl,δ,δ⟩
def Nv{nF:Tok}(F:Fun K "is_order" "is_order" tu f fd)(B:Bt mg)(mM:mg "MOST_PIECES"=some (.int 200 nF))(Ci:Cl P w K mg base aR "is_piece" ["numbers"] 1 FH)(Cr:Cl P w K mg base aR "rims_of" ["piece"] 1 mF):FnOk P w K mg base aR 2 f fd ["order"] (G7 K):=by
 refine F.ok Dd (fun vs H Q E h=>?_) (fun cdv A outer s H vs Q E hr h=>?_)
 ·obtain⟨l,as,ad,rfl,_⟩:=h;rfl
 ·obtain⟨l,as,ad,rfl,u,ht,aO,k⟩:=h
  have hu:=fK hr;refine⟨_,za (cT (zl kw (zj zh rfl B.len c5 (ac (pv 0) ak)) (lR rfl mM (v:=.int 200) ⟨_,rfl⟩) (ax _)) (zf (zo fC)) zv)
   (za (zk (i:=1) Dd.nd rfl (Or.inr rfl) ja)
   (za (el AK rfl (zu (pv 0)) (zi (i:=2) Dd.nd rfl (Or.inl rfl))
    (za (cT (PW.pt (iX (ip (jF (zy Ci hr rfl aH (ac (pv 2) ak)))) (ke (D_ (xS hu (pv 2) (pv 1)) (by with_unfolding_all rfl))))) (zf (zo fC)) zv)
    (za (cT (ip (jF (zj (E_ rfl) rfl B.all FF (ac (zq ["order","seen","piece"] ["rim","seen"] [none,some 1] (zu (zy Cr hr rfl aH (ac (pv 2) ak))) (fun J C s₀ H₀ ex=>zi (i:=0) (cJ ["rim","seen"]) rfl (Or.inl rfl)) (fun J C s₀ H₀ ex=>zX)
     (fun J C s₀ H₀ ex=>IN (xS hu (pv 0) (pv 1)) (by with_unfolding_all rfl)) (hfr:=bx (zb tu) δ) (te:=kA (aw 0) (aw 1))) ak)))) (zf (zo fC)) zv)
    (zf (hB hu (pv 1) (pv 2) fC rfl)))))
   (zf (zo fC)))),?_⟩
  have W:=ht.length;refine⟨_,rfl,l,_,rfl,.inl u,_,_,rfl,rfl,_,rfl,?_⟩;rw[Ab,Sd ω];refine aN fun d hd=>?_;refine⟨_,rfl,l,rfl,⟨_,(Same.new hd).seq u⟩,iv (K:=K) (a:=l) (xs:=as.map V.ref) (fun i σ H2=>∃(v:Option V),σ=[some (.ref l),some (.ref d),v]/\Same H H2/\H2 d=some (.dT (fM (ad.take i)))/\bo (ad.take i))
   ⟨none,rfl,Same.new hd,ag,GG⟩ (fun i σ H2 _ ⟨_,_,sm,_⟩=>sm.seq u) ?_ ?_⟩
  ·rintro i x σ H2 hx ⟨v,rfl,sm,g,j⟩
   obtain⟨a,U,rfl⟩:=zL hx;obtain⟨p,ep,hp⟩:=ht.get U;have hi:i<ad.length:=(KK.mp ep).1;have y:iK (ad.take i) p=false->∀H',Same H H'->Q (.bl false) H':=fun e H' s'=>k false H' ⟨fun z=>(by cases z),fun z=>by rw[z i p ep] at e;cases e⟩ s';refine⟨_,rfl,a,p,rfl,sm.tp hp,fun O c=>⟨_,rfl,?_⟩⟩;cases fT:fL p with
   |false=>exact a6 (y (by unfold iK;rw[fT];rfl) O (sm.trans c))
   |true=>
   have X:p.length<=5:=(jm.mp (by rw[<-rz];exact fT)).2.1;refine aN ⟨_,rfl,_,rfl,d,_,rfl,DGet.t (k:=p.map Sum.inl) (c _ _ g) (by rw[Aj];exact(sm.trans c).tp hp),_,rfl,?_⟩;rw[F_]
   by_cases b:p∈ad.take i
   ·rw[Sc b]
    exact a6 (y (by unfold iK;rw[fT,Sc b];rfl) O (sm.trans c))
   rw[Sd b];have N:=sm.trans c;refine aN ⟨_,rfl,a,p,rfl,N.tp hp,X,fun RL H4 rs o _ L S=>⟨RL,rfl,⟨_,SqL.of L⟩,fun D T=>zt (Nu (SqL.of L) S (o _ _ (c _ _ g)) (Ay (j9 p) ω) T fun H5 M q=>⟨D,_,rfl,SqL.of q,_,rfl,?_⟩)⟩⟩;have G:=N.trans (o.trans M);have Y:=M _ _ (o _ _ (c _ _ g));cases hall:(((rims p).map fun r=>decide (r∈ad.take i)).all id) with
   |false=>exact a6 (y (by unfold iK;rw[List.all_map] at hall;rw[show((rims p).all fun r=>decide (r∈ad.take i))=false from hall,Q9]) H5 G)
   |true=>
   have I:iK (ad.take i) p=true:=by unfold iK;rw[List.all_map] at hall;rw[fT,Sd b,show((rims p).all fun r=>decide (r∈ad.take i))=true from hall];rfl
   refine aN ⟨_,rfl,_,rfl,d,_,rfl,DPut.t (k:=p.map Sum.inl) Y (by rw[Aj];exact G.tp hp) (zP (Ay (FJ _) (by rw[Aw];omega))),⟨_,rfl,G.then hd,?_,?_⟩⟩
   ·rw[ag,FK,<-AC ep]
   ·rw[AC ep];exact GH j I
  ·rintro σ H2 ⟨v,rfl,sm,g,j⟩
   rw[Ab,W,take_all] at j;exact k true H2 ⟨fun _=>j,fun _=>rfl⟩ sm
def De(K:Ac):Sp:=fun vs H Q _=>∃l as ad,vs=[.ref l]/\SqL K H l (as.map V.ref)/\Tps H as ad/\ad.length<=200/\bo ad/\∀H',Same H H'->Q .non H'
def Nw:zm ["order"] ["order"] (zb Db):=⟨rfl,rfl,rfl,δ,rfl,δ,δ⟩
def Nx(F:Fun K "must_be_order" "must_be_order" Db f fd)(g:Cl P w K mg base aR "is_order" ["order"] 2 (G7 K)):FnOk P w K mg base aR 3 f fd ["order"] (De K):=by
 refine F.ok Nw (fun vs H Q E h=>?_) (fun cdv A outer s H vs Q E hr h=>?_)
 ·obtain⟨l,as,ad,rfl,_⟩:=h;rfl
 ·obtain⟨l,as,ad,rfl,c,ht,d,e,k⟩:=h
  refine⟨_,zf (cT (ip (jF (zy g hr rfl aH (ac (pv 0) ak)))) Ec zv),?_⟩;refine⟨_,rfl,l,as,ad,rfl,c,ht,d,fun b H1 hb a=>⟨_,rfl,?_⟩⟩;obtain rfl:b=true:=hb.mpr e;exact aN (k H1 a)
def Dg:Sp:=fun vs H Q _=>∃p:Int,vs=[.int p]/\(p=2\/p=3\/p=5\/p=7)/\Q .non H
def Ny:zm ["prime"] ["prime"] (zb Dc):=⟨rfl,rfl,rfl,δ,rfl,δ,δ⟩
def Nz{t:Addr}(F:Fun K "must_be_prime" "must_be_prime" Dc f fd)(a:mg "PRIMES"=some (.ref t))(b:∀H,SqT K H t [.int 2,.int 3,.int 5,.int 7]):FnOk P w K mg base aR 1 f fd ["prime"] Dg:=by
 refine F.ok Ny (fun vs H Q E h=>?_) (fun cdv A outer s H vs Q E hr h=>?_)
 ·obtain⟨p,rfl,_⟩:=h;rfl
 ·obtain⟨p,rfl,hp,k⟩:=h
  refine⟨_,zf (cT (zl JF (pv 0) (lR (v:=.ref t) rfl a rfl) (by with_unfolding_all rfl)) Ec zv),?_⟩;refine⟨_,rfl,t,_,rfl,.inr (b _),rfl,rfl,_,rfl,?_⟩;rcases hp with rfl|rfl|rfl|rfl<;>exact aN k
end
end K66
end
section
namespace L2
open PySem PySem.Spec PyProof.Rows
structure Pl(o:HO):Prop where
 t:∀ps,o≠.tbl ps
 d:∀k,o≠.dT k
 z:∀ob k,o≠.frz ob (.dT k)
structure SF(P:Addr)(pos:Pos)(q:Str)(H H':Hp):Prop where
 keep:∀b o,Pl o->H b=some o->H' b=some o
 rd:∀{b kvs},Rd H b (.dT kvs)->Rd H' b (.dT kvs)
 dom:∀{b},H' b=none->H b=none
 tab:Tab H P pos q->Tab H' P pos q
section
variable{P:Addr}{pos:Pos}{q:Str}{H H' H1 H2:Hp}{a b d l:Addr}
def SF.refl(H:Hp):SF P pos q H H:=⟨fun _ _ _ h=>h,fun h=>h,fun h=>h,fun h=>h⟩
def SF.trans(x:SF P pos q H H1)(y:SF P pos q H1 H2):SF P pos q H H2:=⟨fun b o n h=>y.keep b o n (x.keep b o n h),fun h=>y.rd (x.rd h),fun h=>x.dom (y.dom h),fun h=>y.tab (x.tab h)⟩
def Same.sf(s:Same H H'):SF P pos q H H':=⟨fun b o _ h=>s b o h,fun h=>h.same s,fun h=>s.free h,fun t=>t.same s⟩
def NA{xs:List V}:Pl (.lst xs):=⟨(fun _ z=>nomatch z),(fun _ z=>nomatch z),(fun _ _ z=>nomatch z)⟩
def NB{xs:List V}:Pl (.tup xs):=⟨(fun _ z=>nomatch z),(fun _ z=>nomatch z),(fun _ _ z=>nomatch z)⟩
def NC{xs:List (Key×V)}:Pl (.dK xs):=⟨(fun _ z=>nomatch z),(fun _ z=>nomatch z),(fun _ _ z=>nomatch z)⟩
def SF.lst(x:SF P pos q H H'){xs:List V}(h:H a=some (.lst xs)):H' a=some (.lst xs):=x.keep _ _ NA h
def SF.tup(x:SF P pos q H H'){xs:List V}(h:H a=some (.tup xs)):H' a=some (.tup xs):=x.keep _ _ NB h
def SF.dK(x:SF P pos q H H'){xs:List (Key×V)}(h:H a=some (.dK xs)):H' a=some (.dK xs):=x.keep _ _ NC h
def SF.tp(x:SF P pos q H H'){ps:List Int}(h:Tp H a ps):Tp H' a ps:=x.tup h
def SF.tps(x:SF P pos q H H'){as:List Addr}{ad:Ξ}(h:Tps H as ad):Tps H' as ad:=Paired.mapP h fun _ _ q=>x.tp q
def SF.seq{K:Ac}(x:SF P pos q H H'){xs:List V}(h:SqL K H l xs):SqL K H' l xs:=by
 rcases h with (z|⟨o,z⟩)|z
 ·exact .inl (.inl (x.lst z))
 ·exact .inl (.inr ⟨o,x.keep _ _ ⟨(fun _ z=>nomatch z),(fun _ z=>nomatch z),(fun _ _ z=>nomatch z)⟩ z⟩)
 ·exact .inr z
def Tab.off{o b:HO}(t:Tab H P pos q)(h:H a=some b)(h1:∀ps,b≠.tbl ps)(h2:∀ob u,b≠.frz ob u):Tab (upd H a o) P pos q:=by
 have d:P≠a:=fun z=>by subst z;rcases t with e|⟨_,e,_⟩<;>exact h1 _ (Ag (h.symm.trans e))
 rcases t with e|⟨c,e,f,vs,g,e2,r⟩
 ·exact .inl (by rw[al d];exact e)
 ·exact .inr ⟨c,by rw[al d];exact e,f,vs,g,by rw[al (fun z=>by subst z;exact h2 _ _ (Ag (h.symm.trans e2)))];exact e2,r⟩
def mZ{kvs:List (List Key×V)}(h:Rd H d (.dT kvs)):∃o,H d=some o:=by
 rcases h with e|⟨o,e⟩
 ·exact⟨_,e⟩
 ·exact⟨_,e⟩
def SF.put{o c:HO}(x:SF P pos q H H1)(f:H a=none)(h:H1 a=some c)(h1:∀ps,c≠.tbl ps:=by intro ps z;cases z)(h2:∀ob u,c≠.frz ob u:=by intro ob u z;cases z):SF P pos q H (upd H1 a o):=by
 have ne:∀{b:Addr}{u:HO},H b=some u->b≠a:=fun e=>zg e f;refine⟨fun b u n e=>by rw[al (ne e)];exact x.keep b u n e,fun{b k} e=>?_,fun{b} e=>?_,fun t=>(x.tab t).off h h1 h2⟩
 ·obtain⟨u,d⟩:=mZ e
  unfold Rd;rw[al (ne d)];exact x.rd e
 ·by_cases z:b=a
  ·subst z;rw[ag] at e;cases e
  ·rw[al z] at e;exact x.dom e
def SF.new{o:HO}(x:SF P pos q H H1)(h:H1 a=none):SF P pos q H (upd H1 a o):=x.trans (Same.sf (Same.new h))
def SF.one{kvs:List (List Key×V)}(hd:Rd H d (.dT kvs))(h:Rd H1 d (.dT kvs))(a:∀b,b≠d->H1 b=H b):SF P pos q H H1:=by
 have f:∀{b:Addr}{u:HO},H b=some u->(∀k,u≠.dT k)->(∀ob k,u≠.frz ob (.dT k))->b≠d:=fun{b u} e n1 n2 z=>by
  subst z;rcases hd with r|⟨ob,r⟩
  ·exact n1 _ (Ag (e.symm.trans r))
  ·exact n2 _ _ (Ag (e.symm.trans r))
 refine⟨fun b u n e=>by rw[a b (f e n.d n.z)];exact e,fun{b k} e=>?_,fun{b} e=>?_,fun t=>?_⟩
 ·by_cases z:b=d
  ·subst z
   have:HO.dT k=HO.dT kvs:=by
    rcases e with e|⟨l,e⟩<;>rcases hd with r|⟨o,r⟩<;>rw[e] at r<;>cases r<;>rfl
   rw[this];exact h
  ·unfold Rd;rw[a b z];exact e
 ·by_cases z:b=d
  ·subst z
   obtain⟨u,g⟩:=mZ h;rw[e] at g;cases g
  ·rw[a b z] at e;exact e
 ·rcases t with e|⟨c,e,i,vs,j,e2,r⟩
  ·exact .inl (by rw[a _ (f e (fun _ z=>nomatch z) (fun _ _ z=>nomatch z))];exact e)
  ·exact .inr ⟨c,by rw[a _ (f e (fun _ z=>nomatch z) (fun _ _ z=>nomatch z))];exact e,i,vs,j,by rw[a _ (f e2 (fun _ z=>nomatch z) (fun _ _ z=>nomatch z))];exact e2,r⟩
def SF.lam(s:zax H H1)(a:∀b ps,b≠P->H b=some (.tbl ps)->H1 b=some (.tbl ps))(tb:Tab H1 P pos q):SF P pos q H H1:=
 ⟨fun b o n e=>s b o n.t e,fun{b k} e=>by
  rcases e with e|⟨o,e⟩
  ·exact .inl (s _ _ (fun _ z=>nomatch z) e)
  ·exact .inr ⟨o,s _ _ (fun _ z=>nomatch z) e⟩,fun h=>s.free a tb h,fun _=>tb⟩
end
section
variable{X:Cx}{scope:Scope}{N':List Str}{au:List (Option Nat)}{tg iter bF:Expr}{aX:List Expr}{wi:TI}{g:TG}{tc:TT}{te:TE}{pos:Pos}
def ND{i:Nat}{x:Str}{aQ w:Pos}(hc:X.calm=true)(hk:scope.kind=.function)(F:∀y∈scope.names,y.2=.cell->scope.names.lookup y.1=some .cell)(O:∀y∈scope.names,y.2=.free->scope.names.lookup y.1=some .free)(P:∀y∈scope.names,y.2=.local->scope.names.lookup y.1=some .local)(hfr:∀y∈scope.names,y.2=.free->X.env.kindOf y.1=some .cell\/X.env.kindOf y.1=some .free)(Q:mu X.N N' au scope)(hi:PI X tg iter wi)(S:∀d C s₀ H₀ ex,PG (cxD X scope N' d C s₀ H₀ ex) tg g)(ht:∀d C s₀ H₀ ex,iD (cxD X scope N' d C s₀ H₀ ex) aX tc)(he:∀d C s₀ H₀ ex,PE (cxD X scope N' d C s₀ H₀ ex) bF te)(T:∀x,foldedSetIterable iter X.env x=pure x)(U:X.N.Nodup)(p:X.N[i]?=some x)(hx:Loc X.env.scope x)(hf:X.fn x=true\/X.env.scope.names.lookup x=some .local)(W:swapsWith (.ListComp bF [⟨tg,iter,aX,0⟩] scope pos) (some (.Name x aQ)) w.line X.env=pure true):PS X (.Assign [.Name x aQ] (.ListComp bF [⟨tg,iter,aX,0⟩] scope pos) w) (gE (jO wi au g tc te) (zK i)):=by
 intro aa s σ H D I h;rw[exec_Assign_Name_used _ _ _ _ W];refine Aa (wpAny_standAt (Aa ?_));show wpAny _ X.A (do let _ <-comprehension (.ListComp bF [⟨tg,iter,aX,0⟩] scope pos) scope X.env _ (newList []) (firstAsync [⟨tg,iter,aX,0⟩]) (firstIter [⟨tg,iter,aX,0⟩] X.env) (some (assign (.Name x aQ) X.env))) _ _ s;refine Aa (wpAny_mono (E4 (use:=some (assign (.Name x aQ) X.env)) (R:=fun _ s'=>SP X aa D .next s') hc hk F O P hfr Q hi S ht he T I h fun E C H' r f L q=>?_) (fun _ s' hq=>Ae (Ae hq)) fun _ _ e=>e);show wpAny _ X.A (assign (.Name x aQ) X.env (.ref E)) _ _ r;refine wpAny_assign_Name (D9 (v:=.ref E) (L.back r.heap (Heap.SameBut.refl _ _)) U p hx rfl (fun G I5 ⟨a,l,ha⟩=>?_) hf);have M:C≠a:=by
  rcases ha with e|e
  ·rw[e];exact L.nl
  ·exact fun z=>L.nc x a e z.symm
 obtain⟨m,J⟩:=L.ns;refine⟨m,J.sameBut l M,fun h' j=>⟨_,H',?_,q⟩⟩;refine I5.call' (s':={G with heap:=h'}) (ch:=[C]) rfl ⟨fun b o q n hb hx=>?_,fun b o q n hb hx=>?_,fun b o q n hx=>n,fun b o q hx=>?_,fun b xs q=>q,fun b o u q=>q,fun b ps q=>⟨#[],by simpa using q⟩⟩ ?_ I5.bare fun b hb=>?_
 ·exact(j.2 b (by simpa using hx)).trans q
 ·exact⟨o.slots,(j.2 b (by simpa using hx)).trans q⟩
 ·exact⟨o,(j.2 b (by simpa using hx)).trans q⟩
 ·intro b u e
  refine(I5.hok b u e).stay (fun c v hc q=>(j.2 c ?_).trans q) (fun _ q=>q) fun _ _ q=>q;rintro rfl;rcases hc with z|z
  ·rw[<-z,L.no] at e;cases e
  ·rw[L.no] at z;cases z
 ·have e:b=C:=by simpa using hb
  subst e;exact⟨.inr L.far,L.nl,L.nc,L.np⟩
def NE{i:Nat}{x:Str}{aQ d:Pos}(hc:X.calm=true)(hk:scope.kind=.function)(b:∀y∈scope.names,y.2≠.cell)(f:∀y∈scope.names,y.2=.free->scope.names.lookup y.1=some .free)(h:∀y∈scope.names,y.2=.local->scope.names.lookup y.1=some .local)(hfr:∀y∈scope.names,y.2=.free->X.env.kindOf y.1=some .cell\/X.env.kindOf y.1=some .free)(j:mu X.N N' au scope)(hi:PI X tg iter wi)(l:∀a C s₀ H₀ ex,PG (eF X scope N' a C s₀ H₀ ex) tg g)(ht:∀a C s₀ H₀ ex,iD (eF X scope N' a C s₀ H₀ ex) aX tc)(he:∀a C s₀ H₀ ex,PE (eF X scope N' a C s₀ H₀ ex) bF te)(o:∀x,foldedSetIterable iter X.env x=pure x)(p:X.N.Nodup)(c:X.N[i]?=some x)(hx:Loc X.env.scope x)(hf:X.fn x=true\/X.env.scope.names.lookup x=some .local)(q:swapsWith (.ListComp bF [⟨tg,iter,aX,0⟩] scope pos) (some (.Name x aQ)) d.line X.env=pure true):PS X (.Assign [.Name x aQ] (.ListComp bF [⟨tg,iter,aX,0⟩] scope pos) d) (gE (jO wi au g tc te) (zK i)):=
 ND hc hk (fun y hy e=>absurd e (b y hy)) f h hfr j hi (fun a C s₀ H₀ ex=>mw (X:=X) (N':=N') b a C s₀ H₀ ex▸l a C s₀ H₀ ex) (fun a C s₀ H₀ ex=>mw (X:=X) (N':=N') b a C s₀ H₀ ex▸ht a C s₀ H₀ ex) (fun a C s₀ H₀ ex=>mw (X:=X) (N':=N') b a C s₀ H₀ ex▸he a C s₀ H₀ ex) o p c hx hf q
end
section
variable{X:Cx}{scope:Scope}{au:List (Option Nat)}{tg iter bF:Expr}{aX:List Expr}{wi:TI}{g:TG}{tc:TT}{te:TE}{pos:Pos}
def m_{i:Nat}{x:Str}{aQ d:Pos}(b:X.N.Nodup)(c:X.N[i]?=some x)(hx:Loc X.env.scope x)(N N':List Str)(au:List (Option Nat))(hi:PI X tg iter wi)(e:∀a C s₀ H₀ ex,PG (eF X scope N' a C s₀ H₀ ex) tg g)(ht:∀a C s₀ H₀ ex,iD (eF X scope N' a C s₀ H₀ ex) aX tc)(he:∀a C s₀ H₀ ex,PE (eF X scope N' a C s₀ H₀ ex) bF te)(hc:X.calm=true:=by rfl)(hk:scope.kind=.function:=by rfl)(f:∀y∈scope.names,y.2≠.cell:=by decide +kernel)(h:∀y∈scope.names,y.2=.free->scope.names.lookup y.1=some .free:=by decide +kernel)(j:∀y∈scope.names,y.2=.local->scope.names.lookup y.1=some .local:=by decide +kernel)(hfr:∀y∈scope.names,y.2=.free->X.env.kindOf y.1=some .cell\/X.env.kindOf y.1=some .free)(l:X.N=N:=by rfl)(o:ji N N' au scope=true:=by decide +kernel)(p:∀x,foldedSetIterable iter X.env x=pure x:=by intro _;rfl)(hf:X.fn x=true\/X.env.scope.names.lookup x=some .local:=by first|exact .inl rfl|exact .inr rfl|assumption)(q:swapsWith (.ListComp bF [⟨tg,iter,aX,0⟩] scope pos) (some (.Name x aQ)) d.line X.env=pure true:=by rfl):PS X (.Assign [.Name x aQ] (.ListComp bF [⟨tg,iter,aX,0⟩] scope pos) d) (gE (jO wi au g tc te) (zK i)):=
 NE hc hk f h j hfr (FE (by rw[l];exact o)) hi e ht he p b c hx hf q
end
def Fun.ok0c{P:Program}{w:World}{K:Ac}{mg:Str->Option Value}{base:Heap}{x a:Str}{st:Stmt}{f c:Addr}{fd:FuncData}{N ps:List Str}{k:Nat}{sp:Sp}(F:Fun K x a st f fd)(hc:fd.code=.ref c)(S:zm N ps (zb st))(len:∀vs H Q E,sp vs H Q E->vs.length=ps.length)(g:∀(A:Around)(outer:List Env)(s:Shared)(H:Hp)(vs:List V)(Q:VK)(E:XK),Room k (A.deeper (envOfC a (zb st) s⁻¹ f (.ref c)))->sp vs H Q E->
   ∃t,PSs (cv aR P w K mg base N a (zb st) f (.ref c) A outer s H E).nox (zah st) t/\t {nx:=fun _ H'=>Q .non H',rt:=Q} (start N vs) H):FnOk P w K mg base aR (k+1) f fd ps sp:=by
 obtain⟨i,j,kV,l,o,p,cdv,ct,r,rfl,lk,d⟩:=F.ex;have e:cdv=.ref c:=hc;subst e;refine wf lk d S len fun A outer s H vs Q E hr b=>?_;obtain⟨t,h,q⟩:=g A outer s H vs Q E hr b;exact⟨t,h.nox,q⟩
end L2
namespace K66
open K1
open PySem L2 STb
abbrev Dh:Stmt:=top 27
abbrev Di:Stmt:=top 29
abbrev tD:Stmt:=top 30
abbrev tF:Stmt:=top 31
abbrev tH:Stmt:=top 32
def pL:AV "max"=some (.builtin "max"):=δ
abbrev nf:Pos:=⟨103,32,103,58⟩
abbrev qY:Str:=(("youngest_of":Str)++".<locals>.")++"<lambda>"
abbrev SY(Pt:Addr)(H H':Hp):Prop:=SF Pt nf qY H H'
abbrev TY(Pt:Addr)(H:Hp):Prop:=Tab H Pt nf qY
def eA(oo:Ξ):Ch:=oo.zipIdx.map fun q=>(q.1,(q.2:Int))
def G8(oo:Ξ):ksC (eA oo)=oo:=by
 unfold ksC eA;rw[Aj];exact QV 0 oo
def Dj{oo:Ξ}(a:oo.Nodup){t:Nat}{y:List Int}(h:oo[t]?=some y):bv (aL (eA oo)) (y.map Sum.inl)=some (.int t):=by
 have hm:(y,(t:Int))∈eA oo:=Bp.mpr ⟨(y,t),by rw[List.mem_zipIdx_iff_getElem?];exact h,rfl⟩;exact zY (by rw[G8];exact a) _ hm
section
variable{P:Program}{w:World}{K:Ac}{mg:Str->Option Value}{base:Heap}{f:Addr}{fd:FuncData}{Pt:Addr}
def NF{pos:Pos}{q:Str}{H H1:Hp}{d:Addr}{kvs:List (List Key×V)}(s:zD d H H1)(hd:Rd H d (.dT kvs))(h:Rd H1 d (.dT kvs)):SF Pt pos q H H1:=by
 have a:∀{b:Addr}{u:HO},H b=some u->(∀k,u≠.dT k)->(∀ob k,u≠.frz ob (.dT k))->b≠d:=fun{b u} e n1 n2 z=>by
  subst z;rcases hd with r|⟨ob,r⟩
  ·exact n1 _ (Ag (e.symm.trans r))
  ·exact n2 _ _ (Ag (e.symm.trans r))
 refine⟨fun b u n e=>s _ _ (a e n.d n.z) e,fun{b k} e=>?_,fun{b} e=>?_,fun t=>?_⟩
 ·by_cases z:b=d
  ·subst z
   have:HO.dT k=HO.dT kvs:=by
    rcases e with e|⟨j,e⟩<;>rcases hd with r|⟨l,r⟩<;>rw[e] at r<;>cases r<;>rfl
   rw[this];exact h
  ·rcases e with e|⟨o,e⟩
   ·exact .inl (s _ _ z e)
   ·exact .inr ⟨o,s _ _ z e⟩
 ·by_cases z:b=d
  ·subst z
   obtain⟨u,f⟩:=mZ h;rw[e] at f;cases f
  ·cases q:H b with
   |none=>rfl
   |some o=>rw[s _ _ z q] at e;cases e
 ·rcases t with e|⟨c,e,g,vs,i,e2,r⟩
  ·exact .inl (s _ _ (a e (fun _ z=>nomatch z) (fun _ _ z=>nomatch z)) e)
  ·exact .inr ⟨c,s _ _ (a e (fun _ z=>nomatch z) (fun _ _ z=>nomatch z)) e,g,vs,i,s _ _ (a e2 (fun _ z=>nomatch z) (fun _ _ z=>nomatch z)) e2,r⟩
def G9{H2:Hp}{d D:Addr}{o:Obj}{cs:Ch}{rest:List (Option V)}{te:TE}{g:List Int×Int->Int}{Q:VK}(hd:H2 d=some (.frz o (.dT (aL cs))))(hz:cs.length<=1000)(step:∀(c:List Int×Int)(b:Addr)(a:Hp)(R:VK),c∈cs->Same H2 a->Tp a b c.1->(∀t,a t=none->R (.ref t) (upd a t (.tup [.ref b,.int (g c)])))->te (some (.ref b)::rest) a R)(r:H2 D=none)(k:∀(a:Hp)(ts:List Addr),Same H2 a->a D=some (.lst (ts.map V.ref))->Prs a ts (cs.map fun c=>(c.1,g c))->Q (.ref D) a):zU (mI d o (aL cs)) (zK 0) cQ te (none::rest) H2 D Q:=by
 refine kH cs.length (fun j σ ys a=>∃(v:Option V)(ts:List Addr),σ=v::rest/\Same H2 a/\a D=some (.lst ys)/\ys=ts.map V.ref/\Prs a ts ((cs.map fun c=>(c.1,g c)).take j)) ?_ ?_ ?_ ?_ ?_
 ·exact⟨none,[],rfl,Same.new r,ag,rfl,.nil⟩
 ·rintro σ ys a ⟨v,ts,rfl,sm,f,rfl,hp⟩
  exact⟨(gk cs).symm,sm _ _ hd⟩
 ·rintro i σ ys a hi ⟨v,ts,rfl,sm,f,rfl,hp⟩
  exact⟨by rw[gk];exact hi,sm _ _ hd⟩
 ·rintro i σ ys a x H' hi hy ⟨v,ts,rfl,sm,f,rfl,hp⟩ ⟨rfl,kv,b,w,rfl,p⟩
  obtain⟨c,q,rfl⟩:=GB w;have h:=Ao q;have e:(cs.map fun c=>(c.1,g c))[i]?=some (c.1,g c):=by rw[Ai,q];rfl
  refine dv (step c b _ _ h sm (sA p) fun t u=>?_);have l:=Same.new (o:=.tup [.ref b,.int (g c)]) u;refine bw (ze ω) hi hy (l _ _ f) ⟨_,ts++[t],rfl,(sm.trans l).then r,ag,by rw[Ak];rfl,?_⟩;rw[AC e];exact Prs.upd (Prs.snoc (hp.same l) ⟨b,ag,l.tp (sA p)⟩) (l _ _ f) (by intro xs z;cases z)
 ·rintro σ ys a ⟨v,ts,rfl,sm,f,rfl,hp⟩
  rw[AB (by rw[Ab];exact Af _)] at hp;exact k a ts sm f hp
def G_(K:Ac):Sp:=fun vs H Q _=>∃l as oo,vs=[.ref l]/\SqL K H l (as.map V.ref)/\Tps H as oo/\oo.Nodup/\oo.length<=200/\∀D H',Same H H'->H D=none->H' D=some (.dT (aL (eA oo)))->Q (.ref D) H'
def tK:zm ["order","times","time","piece"] ["order"] (zb Dh):=⟨rfl,rfl,rfl,δ,rfl,δ,δ⟩
def NG(F:Fun K "times_of" "times_of" Dh f fd)(B:Bt mg):FnOk P w K mg base aR 1 f fd ["order"] (G_ K):=by
 refine F.ok tK (fun vs H Q E h=>?_) (fun cdv A outer s H vs Q E hr h=>?_)
 ·obtain⟨l,as,oo,rfl,_⟩:=h;rfl
 ·obtain⟨l,as,oo,rfl,v,ht,C,L,k⟩:=h
  have hu:=fK hr;have G:=ht.length;refine⟨_,za (zk (i:=1) tK.nd rfl (Or.inl rfl) ja)
   (za (el AK rfl (yz rfl B.enumerate A_ (ac (pv 0) ak)) (nP rfl (zW (zi (i:=2) tK.nd rfl (Or.inl rfl)) (zW (zi (i:=3) tK.nd rfl (Or.inl rfl)) lS)))
    (zf (hB hu (pv 1) (pv 3) (pv 2) rfl)))
   (zf (zo (pv 1)))),?_⟩
  intro d hd;refine⟨_,rfl,l,rfl,⟨_,(Same.new hd).seq v⟩,E9 (K:=K) (a:=l) (xs:=as.map V.ref) (fun i σ H2=>∃(c g:Option V),σ=[some (.ref l),some (.ref d),c,g]/\Same H H2/\H2 d=some (.dT (aL ((eA oo).take i))))
   ⟨none,none,rfl,Same.new hd,ag⟩ (fun i σ H2 _ ⟨_,_,_,sm,_⟩=>sm.seq v) ?_ ?_⟩
  ·rintro i x p σ H2 hx ⟨c,g,rfl,sm,b⟩ hp
   obtain⟨a,D,rfl⟩:=zL hx;obtain⟨y,q,hy⟩:=ht.get D;have u:=Same.new (o:=.tup [.int i,.ref a]) hp;have e:(eA oo)[i]?=some (y,(i:Int)):=by unfold eA;rw[Ai,Ro,q];simp
   have hi:i<oo.length:=(KK.mp q).1;have I:y∉ksC ((eA oo).take i):=fun z=>by
    unfold ksC at z;rw[QZ] at z;have z:y∈(ksC (eA oo)).take i:=z;rw[G8] at z;obtain⟨j,r⟩:=Pc.mp z;have J:j<i:=by
     have:=(KK.mp r).1;rw[Aw] at this;omega
    rw[PU J] at r;have:=(PR ω C).mp (r.trans q.symm);omega
   refine⟨p,_,rfl,SqT.of ag,rfl,_,_,rfl,_,_,rfl,rfl,?_⟩;refine⟨_,rfl,_,rfl,_,rfl,d,_,rfl,DPut.t (k:=y.map Sum.inl) (u _ _ b) (by rw[Aj];exact u.tp (sm.tp hy)) (zP (by rw[gk,Aw];omega)),⟨_,_,rfl,(sm.trans u).then hd,?_⟩⟩;rw[ag,mO,CF _ I,AC e]
  ·rintro σ H2 ⟨c,g,rfl,sm,b⟩
   have:(as.map V.ref).length=(eA oo).length:=by unfold eA;rw[Ab,Ab,RE];exact G
   rw[this,take_all] at b;exact⟨_,rfl,k d H2 sm hd b⟩
def Yst(oo:Ξ)(cs:Ch)(y:List Int)(t:Nat):Prop:=y∈ksC cs/\oo[t]?=some y/\∀x∈ksC cs,∀u,oo[u]?=some x->u<=t
def Dl(Pt:Addr):Sp:=fun vs H Q _=>∃d T cs oo,vs=[.ref d,.ref T]/\Rd H d (.dT (aL cs))/\Rd H T (.dT (aL (eA oo)))/\oo.Nodup/\cs≠[]/\(∀q∈ksC cs,q∈oo)/\TY Pt H/\
 ∀b y t H',SY Pt H H'->Tp H' b y->Yst oo cs y t->Q (.ref b) H'
def NH:zm ["chain","times"] ["chain","times"] (zb Di):=⟨rfl,rfl,rfl,δ,rfl,δ,δ⟩
def NI{c:Addr}(F:Fun K "youngest_of" "youngest_of" Di f fd)(B:Bt mg)(fI:mg "max"=none)(bf:fd.code=.ref c)(hC:PySem.W.CodeHd base c Pt)(dQ:BM mg base):FnOk P w K mg base aR 4 f fd ["chain","times"] (Dl Pt):=by
 refine F.ok0c bf NH (fun vs H Q E h=>?_) (fun A outer s H vs Q E hr h=>?_)
 ·obtain⟨d,T,cs,oo,rfl,_⟩:=h;rfl
 ·obtain⟨d,T,cs,oo,rfl,hd,X,I,C,i,tb,k⟩:=h
  refine⟨_,zf (zo (Nl (k:=1) (iy:=1) (x:="piece") (y:="times") (te:=gf (aw 1) (aw 0)) hr rfl fI pL hC rfl dQ rfl rfl rfl rfl ⟨rfl,rfl,rfl,rfl,rfl,δ,Nm⟩ (fun _ _ _ _ _ _=>rfl)
    (fun s H f af c'=>zC (fK ((Room.in1 hr).deeper _)) (pv 1) (pv 0) (fun _ _=>rfl)) (ac (zp (zA rfl) rfl B.list fy (ac (pv 0) ak)) ak) rfl)),?_⟩
  refine⟨_,rfl,d,aL cs,rfl,hd,fun bs M L N=>?_⟩;have tk:=hF M;have J:=tk.length;rw[gr] at J;have p:=Same.new (o:=.lst (bs.map V.ref)) N;have y8:∀y∈ksC cs,∃t:Nat,oo[t]?=some y:=fun y hy=>Pc.mp (i y hy);have D:∀y∈ksC cs,oo[oo.idxOf y]?=some y:=fun y hy=>by
   have h:=List.idxOf_lt_length_of_mem (i y hy);rw[Ah h,List.getElem_idxOf h]
  refine⟨L,bs,(ksC cs).map fun y=>(oo.idxOf y:Int),.ref T,rfl,SqL.of ag,by rw[Ab,gr];omega,?_,rfl,tb.same p,fun H2 b j a n v g=>?_,fun H2 j a n b O S v g U=>?_⟩
  ·cases cs with
   |nil=>exact absurd rfl C
   |cons c r=>simp at J;omega
  ·obtain⟨y,l,hy⟩:=(p.tps tk).get v
   rw[Ai,l] at g;obtain rfl:=Ag g;have q:=Ao l;have Y:Rd H2 T (.dT (aL (eA oo))):=by
    rcases X.same p with e|⟨o,e⟩
    ·exact .inl (b _ _ (fun _ z=>nomatch z) e)
    ·exact .inr ⟨o,b _ _ (fun _ z=>nomatch z) e⟩
   refine⟨_,rfl,_,rfl,T,.int (oo.idxOf y),rfl,.inr ⟨aL (eA oo),y.map Sum.inl,a,Y,rfl,by rw[Aj];exact b.tp hy,(Dj I (D y q)).symm⟩,rfl,rfl⟩
  ·obtain⟨y,l,hy⟩:=(p.tps tk).get v
   rw[Ai,l] at g;obtain rfl:=Ag g;have q:=Ao l;refine k a y (oo.idxOf y) H2 ((Same.sf p).trans (SF.lam b O S)) (b.tp hy) ⟨q,D y q,fun x hx u G=>?_⟩;have h1:=U (oo.idxOf x:Int) (Bp.mpr ⟨x,hx,rfl⟩);have h2:=(PR (KK.mp G).1 I).mp (G.trans (D x hx).symm);have h1:((oo.idxOf x:Nat):Int)<=((oo.idxOf y:Nat):Int):=h1;omega
def Dm(Pt:Addr):Sp:=fun vs H Q _=>∃d cs p,vs=[.ref d,.int p]/\Rd H d (.dT (aL cs))/\(ksC cs).Nodup/\cs.length<=1000/\0<p/\∀D H',SY Pt H H'->H D=none->H' D=some (.dT (aL (md p cs)))->Q (.ref D) H'
def NJ:zm ["chain","prime"] ["chain","prime"] (zb tD):=⟨rfl,rfl,rfl,δ,rfl,δ,δ⟩
abbrev NK:TE:=dk (dh (aw 0) (dh (bC (rI (fun _ j=>0<j) fun i j=>.int (i%j)) (gf (aw 1) (aw 0)) (aw 2)) bD))
def NL(F:Fun K "taken_by" "taken_by" tD f fd)(L:Cl P w K mg base aR "sum_of" ["terms"] 1 (sk K)):FnOk P w K mg base aR 2 f fd ["chain","prime"] (Dm Pt):=by
 refine F.ok NJ (fun vs H Q E h=>?_) (fun cdv A outer s H vs Q E hr h=>?_)
 ·obtain⟨d,cs,p,rfl,_⟩:=h;rfl
 ·obtain⟨d,cs,p,rfl,hd,J,hz,hp,k⟩:=h
  have hu:=fK hr;refine⟨_,zf (zo (zy L hr rfl aH (ac (zq ["chain","prime"] ["piece","chain","prime"] [none,some 0,some 1] (rT (pv 0)) (fun e C s₀ H₀ ex=>zi (i:=0) (cJ ["piece","chain","prime"]) rfl (Or.inl rfl)) (fun e C s₀ H₀ ex=>zX)
   (fun e C s₀ H₀ ex=>eZ (ac (pv 0) (ac (zn eX (zC hu (pv 1) (pv 0) (fun _ _=>rfl)) (pv 2)) ak))) (hfr:=bx (zb tD) δ) (te:=NK)) ak))),?_⟩
  refine⟨_,rfl,d,aL cs,rfl,hd,fun o H1 a q=>fun D r=>zt (G9 (g:=fun c=>c.2%p) a hz (fun c b l R hc sm hb u=>?_) r fun H2 ts j v x=>?_)⟩
  ·refine⟨_,rfl,_,rfl,_,rfl,d,_,rfl,.inr ⟨aL cs,c.1.map Sum.inl,b,.inr ⟨o,sm _ _ a⟩,rfl,by rw[Aj];exact hb,(zY J c hc).symm⟩,_,rfl,_,_,rfl,rfl,hp,ze (by simp),fun t ht=>u t ht⟩
  ·have f1:SY Pt H H1:=SF.one hd (.inr ⟨o,a⟩) q
   refine⟨D,ts,_,rfl,SqL.of v,x,by rw[Ab];exact hz,fun R l y G I=>?_⟩;exact k R l (f1.trans (Same.sf (j.trans y))) (f1.dom (j.free G)) I
def G':Sp:=fun vs H Q _=>∃wt g p,vs=[.int wt,.int g,.int p]/\(-(2 ^ 64)<wt/\wt<2 ^ 64)/\2<=p/\p<=100/\(∃k:Nat,(k:Int)<p/\p ∣ (k:Int)*wt-g)/\∀(k:Int) H',0<=k->k<p->p ∣ k*wt-g->Same H H'->Q (.int k) H'
def NM:zm ["weight","goal","prime"] ["weight","goal","prime"] (zb tF):=⟨rfl,rfl,rfl,δ,rfl,δ,δ⟩
abbrev Ha:TT:=dN (bC ko (bC (rI (fun _ j=>0<j) fun i j=>.int (i%j)) (bC (eW fun i j=>.int (i-j)) (bC (rI CMul fun i j=>.int (i*j)) (aw 0) (aw 1)) (aw 2)) (aw 3)) (tC (.int 0)))
def NN{H2:Hp}{D:Addr}{wt g p:Int}{n:Nat}{Q:VK}(d:n<=100)(hw:-(2 ^ 64)<wt/\wt<2 ^ 64)(hp:0<p)(c:H2 D=none)(k:∀a,Same H2 a->a D=some (.lst (((AI n).filter fun j:Nat=>decide (((j:Int)*wt-g)%p=0)).map fun j:Nat=>V.int j))->Q (.ref D) a):zU (ge 0 n) (zK 0) Ha (aw 0) [none,some (.int wt),some (.int g),some (.int p)] H2 D Q:=by
 refine qX (fun j σ ys a=>∃(v:Option V),σ=[v,some (.int wt),some (.int g),some (.int p)]/\Same H2 a/\a D=some (.lst ys)/\ys=(((AI n).take j).filter fun j:Nat=>decide (((j:Int)*wt-g)%p=0)).map fun j:Nat=>V.int j) ?_ ?_ ?_
 ·exact⟨none,rfl,Same.new c,ag,rfl⟩
 ·rintro i σ ys a hi hy ⟨v,rfl,sm,b,rfl⟩
  have e:(AI n)[i]?=some i:=by rw[Qy hi]
  refine⟨_,rfl,_,rfl,_,_,rfl,rfl,.inr hw,_,rfl,_,_,rfl,rfl,_,rfl,_,_,rfl,rfl,hp,rfl,_,rfl,?_⟩;rw[show(0:Int)+(i:Int)=i from ω]
  by_cases h:((i:Int)*wt-g)%p=0
  ·rw[Sc (congrArg V.int h)]
   refine a6 ⟨_,rfl,bw (ze ω) hi hy b ⟨_,rfl,sm.then c,ag,?_⟩⟩;rw[AC e,AJ,Pj (by exact Sc h),PM,Ak]
   rfl
  ·rw[Sd (fun z=>h (by injection z))]
   refine aN (cV hi hy ⟨_,rfl,sm,b,?_⟩);rw[AC e,AJ,Pi (by simpa using h),PM,Po]
 ·rintro σ ys a ⟨v,rfl,sm,b,rfl⟩
  rw[AB (by rw[QI];exact Af _)] at b;exact k a sm b
def NO(F:Fun K "times_into" "times_into" tF f fd)(B:Bt mg):FnOk P w K mg base aR 1 f fd ["weight","goal","prime"] G':=by
 refine F.ok NM (fun vs H Q E h=>?_) (fun cdv A outer s H vs Q E hr h=>?_)
 ·obtain⟨wt,g,p,rfl,_⟩:=h;rfl
 ·obtain⟨wt,g,p,rfl,hw,h2,u,⟨k0,k1,k2⟩,k⟩:=h
  refine⟨_,zf (zo (zJ zS (zq ["weight","goal","prime"] ["often","weight","goal","prime"] [none,some 0,some 1,some 2] (lY rfl B.range (ac (pv 2) ak)) (fun a C s₀ H₀ ex=>zi (i:=0) (cJ ["often","weight","goal","prime"]) rfl (Or.inl rfl)) (fun a C s₀ H₀ ex=>zQ (zl ew (zn eX (zn gJ (zn fW (pv 0) (pv 1)) (pv 2)) (pv 3)) zd (ax _)))
   (fun a C s₀ H₀ ex=>pv 0) (hfr:=bx (zb tF) δ) (tc:=Ha) (te:=aw 0)) zd (fun _ _=>rfl))),?_⟩
  refine⟨_,rfl,p,rfl,ω,ω,fun D c=>zt (NN (n:=p.toNat) ω hw ω c fun H1 d b=>?_)⟩;have hm:k0∈(AI p.toNat).filter fun j:Nat=>decide (((j:Int)*wt-g)%p=0):=Pd.mpr ⟨PJ.mpr ω,Sc (QB k2)⟩;cases e:(AI p.toNat).filter fun j:Nat=>decide (((j:Int)*wt-g)%p=0) with
  |nil=>rw[e] at hm;cases hm
  |cons j r=>
   have q:j∈(AI p.toNat).filter fun j:Nat=>decide (((j:Int)*wt-g)%p=0):=by rw[e];exact .head _
   obtain⟨l,o⟩:=Pd.mp q;have:=PJ.mp l;rw[e] at b;exact⟨D,_,0,.int j,rfl,rfl,SqL.of b,gS (j:=0) rfl,k j H1 ω ω (PH (Se o)) d⟩
def Hb(Pt:Addr):Sp:=fun vs H Q _=>∃d e a b k p,vs=[.ref d,.int k,.ref e,.int p]/\Rd H d (.dT (aL a))/\Rd H e (.dT (aL b))/\(ksC a).Nodup/\(ksC b).Nodup/\a.length<=200/\b.length<=200/\0<p/\(-(2 ^ 64)<k/\k<2 ^ 64)/\∀D H',SY Pt H H'->H D=none->H' D=some (.dT (aL (less p a k b)))->Q (.ref D) H'
def Hc:zm ["chain","often","other","prime","taken"] ["chain","often","other","prime"] (zb tH):=⟨rfl,rfl,rfl,δ,rfl,δ,δ⟩
abbrev NP:TE:=dk (dh (aw 0) (dh (bC (rI CMul fun i j=>.int (i*j)) (vD (rU fun i=>.int (-i)) (aw 1)) (gf (aw 2) (aw 0))) bD))
def NQ(F:Fun K "less_by" "less_by" tH f fd)(B:Bt mg)(Cs:Cl P w K mg base aR "sum_of" ["terms"] 1 (sk K))(Ct:Cl P w K mg base aR "taken_by" ["chain","prime"] 2 (Dm Pt)):FnOk P w K mg base aR 3 f fd ["chain","often","other","prime"] (Hb Pt):=by
 refine F.ok Hc (fun vs H Q E h=>?_) (fun cdv A outer s H vs Q E hr h=>?_)
 ·obtain⟨d,e,a,b,k,p,rfl,_⟩:=h;rfl
 ·obtain⟨d,e,a,b,n,p,rfl,hd,he,na,nb,la,lb,hp,hn,k⟩:=h
  have hu:=fK hr;refine⟨_,za (m_ (i:=4) Hc.nd rfl (Or.inl rfl) ["chain","often","other","prime","taken"] ["piece","often","other"] [none,some 1,some 2] (rT (pv 2)) (fun G C s₀ H₀ ex=>zi (i:=0) (cJ ["piece","often","other"]) rfl (Or.inl rfl)) (fun G C s₀ H₀ ex=>zX)
    (fun G C s₀ H₀ ex=>eZ (ac (pv 0) (ac (zn fW (l0 l3 (pv 1)) (zC hu (pv 2) (pv 0) (fun _ _=>rfl))) ak))) (hfr:=bx (zb tH) δ) (te:=NP))
   (zf (zo (zy Ct hr rfl aH (ac (zy Cs hr rfl aH (ac (zn me (zp (LX rfl) rfl B.list fy (ac (LW (pv 0)) ak)) (pv 4)) ak)) (ac (pv 3) ak))))),?_⟩
  refine⟨_,rfl,e,aL b,rfl,he,fun o H1 u O=>fun D T=>zt (G9 (g:=fun c=>-n*c.2) u ω (fun c t H3 R hc sm hb U=>?_) T fun H2 ts W X I=>?_)⟩
  ·refine⟨_,rfl,_,rfl,_,rfl,_,rfl,_,rfl,e,_,rfl,.inr ⟨aL b,c.1.map Sum.inl,t,.inr ⟨o,sm _ _ u⟩,rfl,by rw[Aj];exact hb,(zY nb c hc).symm⟩,_,_,rfl,rfl,.inl ω,ze (by simp),fun t ht=>U t ht⟩
  ·have f1:SY Pt H H1:=SF.one he (.inr ⟨o,u⟩) O
   have f2:SY Pt H H2:=f1.trans (Same.sf W);refine⟨_,rfl,d,aL a,rfl,rfl,f2.rd hd,fun v Y=>?_⟩;have J:=Same.new (o:=ph v d) Y;refine⟨v,d,aL a,rfl,ag,(f2.rd hd).same J,fun j l us s4 kh xh fq=>⟨_,rfl,?_⟩⟩;have L:Prs j us a:=by
    have:∀{us:List Addr}{a:Ch},Paired (fun t(kv:List Key×V)=>∃b,j t=some (.tup [.ref b,kv.2])/\j b=some (.tup (kv.1.map kV))) us (aL a)->Prs j us a:=by
     intro us a
     induction a generalizing us with
     |nil=>intro h;cases h;exact .nil
     |cons c r ih=>
      intro h;cases h with
      |cons q t=>
       obtain⟨b,q1,q2⟩:=q;exact .cons ⟨b,q1,sA q2⟩ (ih t)
    exact this fq
   have x:=J.trans s4;have sG:=L.length;have y:=I.length;rw[Ab] at y;refine⟨l,D,_,_,rfl,rfl,xh,x _ _ X,by rw[Ab,Ab];exact ze ω,fun q hq=>?_⟩;have M:=Same.new (o:=.lst (us.map V.ref++ts.map V.ref)) hq;refine⟨q,us++ts,a++b.map fun c=>(c.1,-n*c.2),rfl,SqL.of (by rw[ag,Ak]),(L.append (I.same x)).same M,by rw[Ap,Ab];omega,fun S H6 s6 Cv uk=>?_⟩;have N:SY Pt H H6:=f2.trans (Same.sf ((x.trans M).trans s6));refine⟨_,rfl,S,_,p,rfl,.inl uk,zF _,Ay (CG _) (by rw[Ap,Ab];omega),hp,fun D7 H7 f7 c8 gw=>?_⟩;exact k D7 H7 (N.trans f7) (N.dom c8) gw
end
end K66
end
section
namespace K66
open K1
open PySem L2 STb
abbrev Dn:Stmt:=top 28
structure RA where
 x:aU
 t:Addr
 c:Addr
 g:Addr
def RwAt(H:Hp)(r:RA):Prop:=Rd H r.c (.dT (aL r.x.c))/\((r.x.d=none/\H r.t=some (.tup [.int r.x.hi,.int r.x.b,.non,.ref r.c,.non]))\/∃e:Nat,r.x.d=some e/\Rd H r.g (.dT (aL r.x.g))/\H r.t=some (.tup [.int r.x.hi,.int r.x.b,.int e,.ref r.c,.ref r.g]))
def RwAt.sf{P:Addr}{pos:Pos}{q:Str}{H H':Hp}{r:RA}(h:RwAt H r)(s:SF P pos q H H'):RwAt H' r:=by
 obtain⟨h1,h2⟩:=h;refine⟨s.rd h1,?_⟩;rcases h2 with ⟨e,h2⟩|⟨e,h2,a,b⟩
 ·exact .inl ⟨e,s.tup h2⟩
 ·exact .inr ⟨e,h2,s.rd a,s.tup b⟩
def ei(L:List RA):List (Key×V):=L.map fun r=>((Sum.inl (r.x.b:Int):Key),V.ref r.t)
abbrev dn(L:List RA):List aU:=L.map RA.x
def Do:∀{L:List RA},((dn L).map (·.b)).Nodup->∀{r:RA},r∈L->bv (ei L) (Sum.inl (r.x.b:Int))=some (.ref r.t)
 |q::L,nd,r,hr=>by
  rw[show(dn (q::L)).map (·.b)=q.x.b::(dn L).map (·.b) from rfl,Pg] at nd;show bv ((Sum.inl (q.x.b:Int),V.ref q.t)::ei L) _=_
  by_cases e:(q.x.b:Int)=r.x.b
  ·rcases Pa.mp hr with rfl|hr'
   ·exact og rfl
   ·exact absurd (Bp.mpr ⟨r.x,Bp.mpr ⟨r,hr',rfl⟩,ω⟩) nd.1
  ·rw[oh (fun z=>e (by injection z))]
   rcases Pa.mp hr with rfl|hr'
   ·exact absurd rfl e
   ·exact Do nd.2 hr'
def tR{oo:Ξ}{cs:Ch}(a:(ksC cs).Nodup)(h:∀q∈ksC cs,q∈oo):cs.length<=oo.length:=by
 have:=a.length_le_of_subset h
 rwa [gr] at this
def Yst.yg{p:Int}{oo:Ξ}{cs:Ch}{y:List Int}{t:Nat}(h:Yst oo cs y t)(O:d0 oo)(hc:ChP p cs)(hp:0<p):Bar.Yg p (aT oo cs) t:=GS O hc hp h.1 h.2.1 h.2.2
def Hd{cs:Ch}(h:¬cs.length=0):cs≠[]:=fun z=>h (by rw[z];rfl)
section
variable{P:Program}{w:World}{K:Ac}{mg:Str->Option Value}{base:Heap}{f:Addr}{fd:FuncData}{Pt:Addr}
structure WIn(Pt:Addr)(H:Hp)(R T:Addr)(L:List RA)(oo:Ξ)(p:Int)(t:Nat):Prop where
 hR:H R=some (.dK (ei L))
 rw:∀r∈L,RwAt H r
 hT:Rd H T (.dT (aL (eA oo)))
 O:d0 oo
 few:oo.length<=200
 pr:Bar.Pr p
 p7:p<=7
 pap:cH p oo t (dn L)
 tb:TY Pt H
def WIn.sf{H H':Hp}{R T:Addr}{L:List RA}{oo:Ξ}{p:Int}{t:Nat}(x:WIn Pt H R T L oo p t)(s:SY Pt H H'):WIn Pt H' R T L oo p t:=
 ⟨s.dK x.hR,fun r hr=>(x.rw r hr).sf s,s.rd x.hT,x.O,x.few,x.pr,x.p7,x.pap,s.tab x.tb⟩
def He(Pt:Addr):Sp:=fun vs H Q _=>∃a R T L q oo t p,vs=[.ref a,.ref R,.ref T,.int p]/\Tp H a q/\WIn Pt H R T L oo p t/\oo[t]?=some q/\
 ∀u c g left fill H',SY Pt H H'->H c=none->H g=none->c≠g->H u=none->H' u=some (.tup [.ref c,.ref g])->Rd H' c (.dT (aL left))->Rd H' g (.dT (aL fill))->Wk p oo t q left fill->
  (left=[]\/∃y e,Yst oo left y e/\∃r∈L,r.x.b=e/\r.x.d=none)->Q (.ref u) H'
abbrev NR:List Str:=["piece","rows","times","prime","filling","left","young","row","often"]
def ka:zm NR ["piece","rows","times","prime"] (zb Dn):=⟨rfl,rfl,rfl,δ,rfl,δ,δ⟩
def NS(F:Fun K "worked_off" "worked_off" Dn f fd)(B:Bt mg)(Cm:Cl P w K mg base aR "seam_of" ["chain"] 3 GD)(Ct:Cl P w K mg base aR "taken_by" ["chain","prime"] 2 (Dm Pt))(Cy:Cl P w K mg base aR "youngest_of" ["chain","times"] 4 (Dl Pt))(Ci:Cl P w K mg base aR "times_into" ["weight","goal","prime"] 1 G')(dB:Cl P w K mg base aR "less_by" ["chain","often","other","prime"] 3 (Hb Pt)):FnOk P w K mg base aR 5 f fd ["piece","rows","times","prime"] (He Pt):=by
 refine F.ok ka (fun vs H Q E h=>?_) (fun cdv A outer s H vs Q E hr h=>?_)
 ·obtain⟨a,R,T,L,q,oo,t,p,rfl,_⟩:=h;rfl
 ·obtain⟨a,R,T,L,q,oo,t,p,rfl,ha,I,hq,k⟩:=h
  have hu:=fK hr;have h2:=I.pr.two;have h7:=I.p7;have qj:=Ao hq;refine⟨_,za (zk (i:=4) ka.nd rfl (Or.inl rfl) (Da hu (pv 0) zd))
   (za (zk (i:=5) ka.nd rfl (Or.inl rfl) (zy Ct hr rfl aH (ac (zy Cm hr rfl aH (ac (pv 4) ak)) (ac (pv 3) ak))))
   (za (vl AK (zl kw (zj C_ rfl B.len c5 (ac (pv 5) ak)) zd (ax _))
    (za (zk (i:=6) ka.nd rfl (Or.inl rfl) (zy Cy hr rfl aH (ac (pv 5) (ac (pv 2) ak))))
    (za (zk (i:=7) ka.nd rfl (Or.inl rfl) (zC hu (pv 1) (zC hu (pv 2) (pv 6) (fun _ _=>rfl)) (fun _ _=>rfl)))
    (za (cT (zl vR (zJ zZ (pv 7) zd (fun _ _=>rfl)) kc (ax _)) (zf IV) zv)
    (za (zk (i:=8) ka.nd rfl (Or.inl rfl) (zy Ci hr rfl aH (ac (zC hu (zJ zZ (pv 7) zd (fun _ _=>rfl)) (pv 6) (fun _ _=>rfl)) (ac (zC hu (pv 5) (pv 6) (fun _ _=>rfl)) (ac (pv 3) ak)))))
    (za (zk (i:=5) ka.nd rfl (Or.inl rfl) (zy dB hr rfl aH (ac (pv 5) (ac (pv 8) (ac (zJ zZ (pv 7) zd (fun _ _=>rfl)) (ac (pv 3) ak))))))
    (zf (zk (i:=4) ka.nd rfl (Or.inl rfl) (zy dB hr rfl aH (ac (pv 4) (ac (pv 8) (ac (zJ zZ (pv 7) zd (fun _ _=>rfl)) (ac (pv 3) ak)))))))))))))
   (zf (zo (eZ (ac (pv 5) (ac (pv 4) ak))))))),?_⟩
  intro U fe;have ma:=Same.new (o:=.dT []) fe;refine⟨_,rfl,a,q.map Sum.inl,.int 1,rfl,ag,by rw[Aj];exact ma.tp ha,?_⟩;rw[DZ];have s1:=Same.new (o:=.dT [((q.map Sum.inl:List Key),V.int 1)]) fe;have gY:upd H U (.dT [((q.map Sum.inl:List Key),V.int 1)]) U=some (.dT (aL [(q,1)])):=ag;generalize upd H U (.dT [((q.map Sum.inl:List Key),V.int 1)])=H1 at s1 gY;refine⟨_,rfl,U,[(q,1)],rfl,.inl gY,by simp[ksC],by simp,fun c hc=>by rw[Pb.mp hc];exact I.O.le q qj,fun M H2 jS mJ BV yE=>?_⟩;have f2:SY Pt H H2:=(Same.sf s1).trans (NF jS (.inl gY) mJ);have jW:(jt [(q,(1:Int))]).length<=1000:=by
   refine Ay (CG _) ?_;have:=mS (cs:=[(q,(1:Int))]) fun c hc=>by rw[Pb.mp hc];exact I.O.le q qj
   simp at this ⊢;omega
  refine⟨_,rfl,M,_,p,rfl,.inl yE,zF _,jW,ω,fun c0 H3 f3 gF ui=>?_⟩;have wO:=f2.trans f3;refine⟨fun m σ G=>∃(left fill:Ch)(c g:Addr)(J N C:Option V),σ=[some (.ref a),some (.ref R),some (.ref T),some (.int p),some (.ref g),some (.ref c),J,N,C]/\SY Pt H G/\H c=none/\H g=none/\c≠g/\Rd G c (.dT (aL left))/\Rd G g (.dT (aL fill))/\Wk p oo t q left fill/\Bar.Bl p (aT oo left) m,
   ⟨t,_,_,c0,U,none,none,none,rfl,wO,f2.dom gF,fe,fun z=>?_,.inl ui,f3.rd mJ,GV I.O h2 hq,(GV I.O h2 hq).wo.bl⟩,?_⟩
  ·subst z
   obtain⟨o,eo⟩:=mZ mJ;rw[gF] at eo;cases eo
  ·rintro m σ G ⟨left,fill,c,g,J,N,C,rfl,f4,hc,hg,n5,Y,rg,W,bl⟩
   have fin:∀(J N C:Option V)(j:Hp),SY Pt G j->(left=[]\/∃y t0,Yst oo left y t0/\∃r∈L,r.x.b=t0/\r.x.d=none)->dk (dh (aw 5) (dh (aw 4) bD)) [some (.ref a),some (.ref R),some (.ref T),some (.int p),some (.ref g),some (.ref c),J,N,C] j Q:=by
    intro J N C j v hw;have S:=f4.trans v;refine⟨_,rfl,_,rfl,ze (by simp),fun u kY=>?_⟩;have X:=Same.new (o:=.tup [.ref c,.ref g]) kY;exact k u c g left fill _ (S.trans (Same.sf X)) hc hg n5 (S.dom kY) ag ((v.rd Y).same X) ((v.rd rg).same X) W hw
   refine⟨_,rfl,c,aL left,rfl,Y,_,_,rfl,rfl,_,rfl,?_⟩;rw[gk]
   by_cases hl:left.length=0
   ·have dR:left=[]:=Pf hl
    rw[Sd ω];exact aN (fin J N C G (SF.refl G) (.inl dR))
   rw[Sc ω];have I4:=I.sf f4;refine a6 ⟨_,fun ao H' h=>h,?_⟩;refine⟨_,rfl,_,rfl,c,T,left,oo,rfl,Y,I4.hT,I.O.nd,Hd hl,fun z hz=>(W.li z hz).1,I4.tb,fun b y t0 j v hb hy=>?_⟩;have S:=f4.trans v;have I5:=I4.sf v;have jg:=hy.yg I.O W.l ω;obtain⟨x,hx,ex⟩:=MK I.pr I.O I.pap W jg;obtain⟨r,hr',rfl⟩:=Bp.mp hx;subst ex;have gT:DGet j T (.ref b) (some (.int r.x.b)):=.inr ⟨aL (eA oo),y.map Sum.inl,b,I5.hT,rfl,by rw[Aj];exact hb,(Dj I.O.nd hy.2.1).symm⟩;have hnd:((dn L).map (·.b)).Nodup:=I.pap.srt.imp fun h=>ω
   have gR:DGet j R (.int r.x.b) (some (.ref r.t)):=by
    have:=DGet.k (k:=Sum.inl (r.x.b:Int)) I5.hR
    rwa [Do hnd hr'] at this
   refine⟨_,rfl,_,rfl,_,rfl,T,_,rfl,gT,R,_,rfl,gR,?_⟩;obtain⟨sV,h5⟩:=I5.rw r hr';have D:=I.pap.ok r.x hx;obtain⟨y',ey,qf⟩:=pE I.pap hx;rw[hy.2.1] at ey;cases ey;rcases h5 with ⟨ed,ht⟩|⟨e,ed,xJ,ht⟩
   ·refine⟨_,rfl,r.t,_,2,.non,rfl,rfl,SqT.of ht,rfl,rfl,_,rfl,a6 ?_⟩
    exact fin _ _ C j v (.inr ⟨y,_,hy,r,hr',rfl,ed⟩)
   ·refine⟨_,rfl,r.t,_,2,.int e,rfl,rfl,SqT.of ht,rfl,rfl,_,rfl,aN ?_⟩
    obtain⟨lT,ju⟩:=D.g e ed;have qp:j b=some (.tup ((y.map Sum.inl:List Key).map kV)):=by rw[Aj];exact hb
    have g1:DGet j r.c (.ref b) (some (.int (am r.x.c y))):=by
     obtain⟨cc,df,rfl⟩:=Bp.mp qf;refine .inr ⟨aL r.x.c,cc.1.map Sum.inl,b,sV,rfl,qp,?_⟩;rw[zY D.c.nd cc df,js D.c.nd cc df]
    have g2:DGet j c (.ref b) (some (.int (am left y))):=by
     obtain⟨cc,df,e3⟩:=Bp.mp hy.1;subst e3;refine .inr ⟨aL left,cc.1.map Sum.inl,b,v.rd Y,rfl,qp,?_⟩;rw[zY W.l.nd cc df,js W.l.nd cc df]
    have qa:=D.c.at qf;refine⟨_,rfl,r.t,_,3,.ref r.c,rfl,rfl,SqT.of ht,rfl,_,rfl,r.c,_,rfl,g1,_,rfl,_,rfl,c,_,rfl,g2,_,rfl,_,_,p,rfl,ω,h2,ω,I.pr.into _ _ (fun z=>by have:=Q0 ω z;omega),fun kk H6 k0 k1 kd X=>?_⟩;have jH:SY Pt j H6:=Same.sf X;have lc:left.length<=200:=Ay (tR W.l.nd fun z hz=>(W.li z hz).1) I.few;have lr:r.x.c.length<=200:=Ay (tR D.c.nd fun z hz=>(D.ci z hz).1) I.few;have lf:fill.length<=200:=Ay (tR W.f.nd fun z hz=>(W.fi z hz).1) I.few;have lg:r.x.g.length<=200:=Ay (tR lT.nd fun z hz=>(ju z hz).1) I.few;refine⟨_,rfl,_,rfl,_,rfl,r.t,_,3,.ref r.c,rfl,rfl,SqT.of (jH.tup ht),rfl,_,rfl,c,r.c,left,r.x.c,kk,p,rfl,jH.rd (v.rd Y),jH.rd sV,W.l.nd,D.c.nd,lc,lr,ω,ω,fun c' H7 f7 o8 gv=>?_⟩;have kq:=jH.trans f7;refine⟨_,rfl,_,rfl,_,rfl,r.t,_,4,.ref r.g,rfl,rfl,SqT.of (kq.tup ht),rfl,_,rfl,g,r.g,fill,r.x.g,kk,p,rfl,kq.rd (v.rd rg),kq.rd xJ,W.f.nd,lT.nd,lf,lg,ω,ω,fun g' H8 f8 gW kK=>?_⟩;have yY:=(S.trans kq).trans f8;obtain⟨W',wK⟩:=ML ω I.pap W hx ed jg hy.2.1 hy.1 kd;refine⟨r.x.b,?_,_,_,c',g',_,_,_,rfl,yY,(S.trans jH).dom o8,(S.trans kq).dom gW,fun z=>?_,f8.rd (.inl gv),.inl kK,W',wK⟩
    ·refine Nat.lt_of_not_le fun z=>jg.1 (bl _ z)
    ·subst z
     rw[gv] at gW;cases gW
end
end K66
end
section
namespace L2
open PySem PySem.Spec PyProof.Rows
def Hf{H:Hp}{b:Addr}{k a:List (List Key×V)}(e:Rd H b (.dT k))(r:Rd H b (.dT a)):k=a:=by
 rcases e with e|⟨c,e⟩<;>rcases r with r|⟨d,r⟩<;>rw[e] at r<;>cases r<;>rfl
def SF.many{P:Addr}{pos:Pos}{q:Str}{H H1:Hp}(h:∀b,H1 b=H b\/∃kvs,Rd H b (.dT kvs)/\Rd H1 b (.dT kvs)):SF P pos q H H1:=by
 have a:∀{b:Addr}{u:HO},H b=some u->(∀k,u≠.dT k)->(∀ob k,u≠.frz ob (.dT k))->H1 b=some u:=fun{b u} e n1 n2=>by
  rcases h b with z|⟨k,r,_⟩
  ·rw[z];exact e
  ·rcases r with r|⟨ob,r⟩
   ·exact absurd (Ag (e.symm.trans r)) (n1 _)
   ·exact absurd (Ag (e.symm.trans r)) (n2 _ _)
 refine⟨fun b u n e=>a e n.d n.z,fun{b k} e=>?_,fun{b} e=>?_,fun t=>?_⟩
 ·rcases h b with z|⟨i,r,f⟩
  ·unfold Rd;rw[z];exact e
  ·rw[Hf e r];exact f
 ·rcases h b with z|⟨i,r,f⟩
  ·rw[<-z];exact e
  ·obtain⟨u,g⟩:=mZ f
   rw[e] at g;cases g
 ·rcases t with e|⟨c,e,j,vs,l,e2,r⟩
  ·exact .inl (a e (fun _ z=>nomatch z) (fun _ _ z=>nomatch z))
  ·exact .inr ⟨c,a e (fun _ z=>nomatch z) (fun _ _ z=>nomatch z),j,vs,l,a e2 (fun _ z=>nomatch z) (fun _ _ z=>nomatch z),r⟩
section
variable{X:Cx}{aa:Ψ}{σ:St}{H:Hp}{s:Shared}
def Inv.thaws(I:Inv X aa σ H s):∀as:List Addr,(∀a∈as,X.H₀ a=none/\∃kvs,Rd H a (.dT kvs))->∃H2,Inv X aa σ H2 s/\(∀b,b∉as->H2 b=H b)/\∀a∈as,∀kvs,Rd H a (.dT kvs)->H2 a=some (.dT kvs)
 |[],_=>⟨H,I,fun _ _=>rfl,fun a ha=>nomatch ha⟩
 |a::as,h=>by
  obtain⟨H2,I2,f,g⟩:=I.thaws as fun b hb=>h b (.tail _ hb)
  by_cases m:a∈as
  ·exact⟨H2,I2,fun b hb=>f b fun z=>hb (.tail _ z),fun b hb=>by
    rcases Pa.mp hb with rfl|hb'
    ·exact g b m
    ·exact g b hb'⟩
  ·obtain⟨j,kvs,r⟩:=h a (.head _)
   have e2:=f a m;have d:Rd H2 a (.dT kvs):=by unfold Rd;rw[e2];exact r
   have fin:∀e:Hp,Inv X aa σ e s->e a=some (.dT kvs)->(∀b,b≠a->e b=H2 b)->∃H2,Inv X aa σ H2 s/\(∀b,b∉a::as->H2 b=H b)/\∀c∈a::as,∀kvs,Rd H c (.dT kvs)->H2 c=some (.dT kvs):=fun e l e3 i=>by
    refine⟨e,l,fun b hb=>?_,fun c hc k rk=>?_⟩
    ·rw[Pa,not_or] at hb
     rw[i b hb.1];exact f b hb.2
    ·by_cases z:c=a
     ·subst z;rw[Hf rk r];exact e3
     ·rw[i c z];exact g c ((Pa.mp hc).resolve_left z) k rk
   rcases d with d|⟨ob,d⟩
   ·exact fin H2 I2 d fun _ _=>rfl
   ·exact fin _ (I2.thaw j d) ag fun b hb=>al hb
def NT(c:Hp)(t:TE):TE:=fun σ H Q=>t σ H fun x H1=>∃as:List Addr,(∀a∈as,c a=none/\∃kvs,Rd H1 a (.dT kvs))/\∀H2,(∀b,b∉as->H2 b=H1 b)->(∀a∈as,∀kvs,Rd H1 a (.dT kvs)->H2 a=some (.dT kvs))->Q x H2
def NU{e:Expr}{t:TE}(h:PE X e t):PE X e (NT X.H₀ t):=by
 intro aa s σ H Q I q;refine aV (h aa s σ H _ I q) fun v f ⟨x,H1,I1,a,as,ha,k⟩=>?_;obtain⟨H2,d,b,c⟩:=I1.thaws as ha;exact⟨x,H2,d,a,k H2 b c⟩
def NV{P:Addr}{pos:Pos}{q:Str}{H1 H2:Hp}{as:List Addr}(h1:∀a∈as,∃kvs,Rd H1 a (.dT kvs))(c:∀b,b∉as->H2 b=H1 b)(d:∀a∈as,∀kvs,Rd H1 a (.dT kvs)->H2 a=some (.dT kvs)):SF P pos q H1 H2:=
 SF.many fun b=>by
  by_cases m:b∈as
  ·obtain⟨k,r⟩:=h1 b m
   exact .inr ⟨k,r,.inl (d b m k r)⟩
  ·exact .inl (c b m)
end
end L2
end
section
namespace STb
open PySem PySem.SetTable PyProof.Rows cx PySem.W
section
variable{prog:Program}{w:World}{A:Around}{E:Ω}{s:Shared}{S:Addr}
def NW{T:String}{r d:Addr}{n:Nat}{P:Nat->Value->Prop}{j:Heap->Prop}{R:List Value->Shared->Prop}(K:KdlSrc prog w T r d n P j)(hh:A.handled=none)(i:j s.heap)(l:n<=sizeLine)(h:∀(h':Heap)(tk:Nat)(acc:Array Value),s⁻¹<=h'.objs.size->(∀b o,s.heap.get? b=some o->h'.get? b=some o)->ItemsOf P acc n->R acc.toList {s with heap:=h',toks:=tk}):wpAny (model prog w) A (collect (.ref r)) R E s:=by
 obtain⟨hr,hd⟩:=K.there _ i;unfold collect;refine Aa (wpAny_runValue (A0 entry_proto_collect' ?_));rw[AM PySem.F.plain_proto_collect _];show wpAny _ A.in1 (do again (.builtin "list.__iadd__" ⟨[<-newList [],.ref r],[]⟩)) _ _ s;refine Aa (AQ (Ae ⟨Bb PySem.F.plain_list_iadd _,A0 entry_list_iadd' ?_⟩));rw[AM PySem.F.plain_list_iadd _];show wpAny _ A.in1 (Builtin.List.listExtendWith (.ref s⁻¹) (.ref r) (.ref s⁻¹)) _ _ _;have fin:∀(h':Heap)(tk:Nat)(acc:Array Value)(c:Nat),(∀b o,s.heap.get? b=some o->h'.get? b=some o)->h'.get? s⁻¹=some {cls:=.type "list",dict:=none,data:=.seq acc c,slots:=#[]}->ItemsOf P acc n->
   wpAny (model prog w) A (do match (<-load s⁻¹).data with
    |.seq xs _=>pure xs.toList
    |_=>unsupported "internal:collect") R E {s with heap:=h',toks:=tk}:=fun h' tk acc c hk a g=>Aa (wpAny_load a (Ae (h h' tk acc (Qg (Am a)) hk g)))
 refine wpAny_mono (kdl_extend (A:=A) (s:={s with heap:=s.heap.push {cls:=.type "list",data:=.seq ([]:List Value).toArray}})
  (R:=fun q s'=>∃h' tk acc c,q=Except.ok (Flow.ret (.ref s⁻¹))/\s'={s with heap:=h',toks:=tk}/\(∀b o,s.heap.get? b=some o->h'.get? b=some o)/\h'.get? s⁻¹=some {cls:=.type "list",dict:=none,data:=.seq acc c,slots:=#[]}/\ItemsOf P acc n)
  K hh (K.keep _ _ i fun b _ o e=>Ad _ e) s⁻¹ (AW hr) (AW hd) (.ref s⁻¹) 0 (An _ rfl)
  (fun h' tk acc c hk a g=>⟨h',tk,acc,c,rfl,rfl,fun b o e=>hk b o (Ar (Am e)) (Ad _ e),a,g⟩) l) (fun f s' x=>?_) fun e s' x=>?_
 ·cases f with
  |done f=>
   obtain⟨h',tk,acc,c,e,rfl,hk,a,g⟩:=x;cases e;exact fin h' tk acc c hk a g
  |again fU=>
   refine⟨x.1,codeAny_mono x.2 fun q p y=>?_⟩;obtain⟨h',tk,acc,c,rfl,rfl,hk,a,g⟩:=y;exact fin h' tk acc c hk a g
 ·obtain⟨_,_,_,_,e',_⟩:=x
  cases e'
end
end STb
namespace L2
open PySem PySem.Spec PyProof.Rows
section
variable{X:Cx}
def NX{ns:List Int}{ae:List Value}{out:List Value}(hi:IntsAre ae ns)(c:cx.Out (ns.map fun n=>[n]) ae out):∃b:List Int,Vals (b.map V.int) out/\b.Perm ns/\b.Pairwise (·<=·):=by
 obtain⟨ps,hp,c,g⟩:=c;have d:ae.length=ns.length:=hi.length;have all:∀p∈ps,∃n t,p.1=[n]/\p.2=Value.int n t:=fun p f=>by
  obtain⟨i,e⟩:=Pc.mp (hp.mem_iff.mp f);rw[cx.cG,Ai] at e;cases e1:ns[i]? with
  |none=>rw[e1] at e;simp at e
  |some n=>
   obtain⟨t,e2⟩:=hi.get i n e1;rw[e1,e2] at e;simp only[Pp,Rk,Be] at e;subst e;exact⟨n,t,rfl,rfl⟩
 have j:∀ps:List (List Int×Value),(∀p∈ps,∃n t,p.1=[n]/\p.2=Value.int n t)->Vals ((ps.map fun p=>p.1.headD 0).map V.int) (ps.map (·.2)):=by
  intro ps
  induction ps with
  |nil=>intro _;exact .nil
  |cons p ps ih=>
   intro h;obtain⟨n,t,e1,e2⟩:=h p Az;refine .cons ?_ (ih fun q hq=>h q (Ax _ hq));show RelV (V.int (p.1.headD 0)) p.2;rw[e1,e2];exact⟨t,rfl⟩
 refine⟨ps.map fun p=>p.1.headD 0,by rw[c];exact j ps all,?_,?_⟩
 ·have h1:=hp.map (fun p:List Int×Value=>p.1.headD 0)
  have e:((ns.map fun n=>[n]).zip ae).map (fun p:List Int×Value=>p.1.headD 0)=ns:=by
   rw[show(fun p:List Int×Value=>p.1.headD 0)=(fun l:List Int=>l.headD 0) ∘ Prod.fst from rfl,<-Aj,Rl (by rw[Ab];lia),Aj];exact Rw ns
  rw[e] at h1;exact h1
 ·rw[AS]
  refine g.imp_of_mem fun{p q} h1 h2 a=>?_;obtain⟨n,t,e1,_⟩:=all p h1;obtain⟨m,t',e2,_⟩:=all q h2;rw[e1,e2,HT.zx] at a;rw[e1,e2];show n<=m
  by_cases e:m=n
  ·lia
  ·rw[Sb e] at a
   have:=of_decide_eq_false a
   lia
end
end L2
end
section
namespace STb
open PySem PySem.SetTable PyProof.Rows cx PySem.W
section
variable{prog:Program}{w:World}{A:Around}{E:Ω}{s:Shared}
def NY{T:String}{r d:Addr}{n:Nat}{P:Nat->Value->Prop}{i:Heap->Prop}{ns:List Int}{Q:Ω}(K:KdlSrc prog w T r d n P i)(hh:A.handled=none)(c:i s.heap)(p:n<64)(hi:∀acc:Array Value,ItemsOf P acc n->IntsAre acc.toList ns)(h:∀(D:Addr)(h':Heap)(tk e:Nat)(ae:List Value)(out:Array Value),s⁻¹<=D->(∀b o,s.heap.get? b=some o->h'.get? b=some o)->h'.get? D=some (seqObj "list" out e)->IntsAre ae ns->Out (ns.map fun n=>[n]) ae out.toList->Q (.ref D) {s with heap:=h',toks:=tk}):wpAny (model prog w) A (call (.builtin "sorted") [.ref r]) Q E s:=by
 refine Calls.call_function_entry kind_sorted plain_sorted entry_sorted (args_sorted1 _) ?_;unfold Builtin.«sorted»;refine Aa (m:=checkCount "sorted" 1 1 _) (Ae ?_);refine Aa (NW (A:=A.in1) K hh c (by rw[sizeLine_eq];omega) fun h' tk acc j hk f=>?_);have hi:=hi acc f;have g:acc.toList.length=n:=by rw[Qo];exact f.1
 refine Aa (wpAny_newList ?_ (by rw[g,sizeLine_eq];omega));have a:(h'.push (seqObj "list" acc.toList.toArray 0)).get? h'.objs.size=some (seqObj "list" acc.toList.toArray 0):=An _ rfl;refine Aa (AD (AZ slot_list_sort ⟨_,a,rfl⟩ entry_list_sort (E1 (s:={s with heap:=h'.push (seqObj "list" acc.toList.toArray 0),toks:=tk}) (good:=fun _=>True) a (EY hi) (fun _ _=>trivial) (by rw[g,sizeLine_eq];omega) ω fun out l=>⟨_,rfl,?_⟩) (args_list_sort _)));obtain⟨e,he⟩:=sortedHeap_at (out:=out) a;refine Ae ⟨_,rfl,h h'.objs.size _ tk e acc.toList out j (fun b o e=>?_) he hi l⟩;have hb:b<h'.objs.size:=Am (hk b o e);rw[sortedHeap_old (Ar hb) (by rw[size_push'];exact Ba hb)];exact Ad _ (hk b o e)
end
end STb
namespace L2
open PySem PySem.Spec PyProof.Rows
section
variable{X:Cx}
abbrev dZ(ps:List (Int×V)):HO:=.dK (ps.map fun p=>(Sum.inl p.1,p.2))
def ints_of{ps:List (Int×V)}:∀{m:List (Key×Value)}{as:List Value},KV (ps.map fun p=>((Sum.inl p.1:Key),p.2)) m->as.length=m.length->(∀(i:Nat) v,as[i]?=some v->∃k x,m[i]?=some (k,x)/\(zr X.prog X.w).is k v=true)->IntsAre as (ps.map (·.1)):=by
 induction ps with
 |nil=>
  intro m as q h1 _;cases q;cases as with
  |nil=>exact .nil
  |cons _ _=>simp at h1
 |cons p ps ih=>
  intro m as q h1 h2;cases q with
  |@cons _ q' _ qs hq t=>
   cases as with
   |nil=>simp at h1
   |cons v as=>
    obtain⟨k,x,g1,g2⟩:=h2 0 v rfl;simp only[List.getElem?_cons_zero,Be] at g1;have hk:(Sum.inl p.1:Key)=k:=by rw[g1] at hq;exact hq.1
    subst hk;obtain⟨t',e2⟩:∃t',v=Value.int p.1 t':=Fa g2;subst e2;exact .cons _ _ (ih t (by simpa using h1) fun i v e=>by simpa using h2 (i+1) v (by simpa using e))
def NZ(hc:X.calm=true):dy X (.builtin "sorted") (fun xs H Q=>∃a ps,xs=[.ref a]/\H a=some (dZ ps)/\ps.length<64/\∀(D:Addr)(d:List Int),d.Perm (ps.map (·.1))->d.Pairwise (·<=·)->H D=none->Q (.ref D) (upd H D (.lst (d.map V.int)))):=by
 intro aa s σ H xs us Q I r h;obtain⟨a,ps,rfl,hq,hz,q⟩:=h;obtain⟨u,rfl,p⟩:=vals1 r;cases p;obtain⟨z,y,vs,c,dd⟩:=xC I.hok hq;obtain⟨ep,dd⟩:=dd.dictAt;have C:ps.length=vs.length:=by simpa using c.length
 refine STb.NY (ns:=ps.map (·.1)) (PySem.W.kdl_dict (knd:=zr X.prog X.w) (kvs:=vs) (ep:=ep) y) (I.ok.hd hc) dd ω (fun acc it=>ints_of (X:=X) c (by simpa using it.1) fun i v e=>it.2 i v (by simpa using e)) fun D h' tk e ae out f j he hi l=>?_;obtain⟨ks,x,g,A⟩:=NX hi l;have hk:ks.length=ps.length:=by simpa using g.length_eq
 refine⟨.ref D,_,I.laid (o:=.lst (ks.map V.int)) (fun b u e=>j b u e) f (show zw X.prog X.w _ _ _ (.lst (ks.map V.int)) from⟨by rw[Ab,sizeLine_eq];omega,out.toList,e,x,by simpa using he⟩),rfl,q _ _ g A (I.hok.fresh f)⟩
end
end L2
end
section
namespace K66
open K1
open PySem L2 STb
abbrev Dp:Stmt:=top 25
abbrev tT:Stmt:=top 26
def dq(L:List RA)(x:RA):List RA:=L.map fun y=>if y.x.b=x.x.b then x else y
def N0(L:List RA)(x:RA):dn (dq L x)=fB (dn L) x.x:=by
 unfold dn dq fB;rw[Aj,Aj];refine AA fun y _=>?_;show(if y.x.b=x.x.b then x else y).x=if y.x.b=x.x.b then x.x else y.x;split<;>rfl
def N1{L:List RA}{b:Nat}{t:Addr}(h:∀r∈L,r.x.b≠b):putK (ei L) (Sum.inl (b:Int)) (.ref t)=ei L++[(Sum.inl (b:Int),.ref t)]:=by
 unfold putK;rw[Sb];intro z;obtain⟨kv,hk,e⟩:=Qs.mp z;obtain⟨r,hr,rfl⟩:=Bp.mp hk;have e:=Se e;have:(r.x.b:Int)=b:=by injection e
 exact h r hr ω
def N2{L:List RA}{x:RA}(h:∃r∈L,r.x.b=x.x.b):putK (ei L) (Sum.inl (x.x.b:Int)) (.ref x.t)=ei (dq L x):=by
 obtain⟨r,hr,e⟩:=h;unfold putK;have ha:((ei L).any fun kv=>decide (kv.1=(Sum.inl (x.x.b:Int):Key)))=true:=Qs.mpr ⟨_,Bp.mpr ⟨r,hr,rfl⟩,Sc (by show(Sum.inl (r.x.b:Int):Key)=_;rw[e])⟩;rw[Sa ha];unfold ei dq;rw[Aj,Aj];refine AA fun y _=>?_;show(if(Sum.inl (y.x.b:Int):Key)=Sum.inl (x.x.b:Int) then((Sum.inl (y.x.b:Int):Key),V.ref x.t) else(Sum.inl (y.x.b:Int),V.ref y.t))=(Sum.inl ((if y.x.b=x.x.b then x else y).x.b:Int),V.ref (if y.x.b=x.x.b then x else y).t)
 by_cases z:y.x.b=x.x.b
 ·rw[Sa (by rw[z]),Sa z,z]
 ·have hq:¬(Sum.inl (y.x.b:Int):Key)=Sum.inl (x.x.b:Int):=fun q=>z (Int.ofNat.inj (Sum.inl.inj q))
  rw[Sb hq,Sb z]
def dcs(r:RA):List Addr:=match r.x.d with
 |none=>[r.c]
 |some _=>[r.c,r.g]
def Hg{H:Hp}{r:RA}(h:RwAt H r){a:Addr}(ha:a∈dcs r):∃kvs,Rd H a (.dT kvs):=by
 obtain⟨h1,h2⟩:=h;unfold dcs at ha;rcases h2 with ⟨e,_⟩|⟨e,e1,b,_⟩
 ·rw[e] at ha
  rw[Pb.mp ha];exact⟨_,h1⟩
 ·rw[e1] at ha
  rcases Pa.mp ha with rfl|ha
  ·exact⟨_,h1⟩
  ·rw[Pb.mp ha];exact⟨_,b⟩
structure Apt(H:Hp)(L:List RA):Prop where
 nd:(L.flatMap dcs).Nodup
 new:∀a∈L.flatMap dcs,H a=none
def Apt.snoc{H:Hp}{L:List RA}{r:RA}(h:Apt H L)(n1:(dcs r).Nodup)(n2:∀a∈dcs r,H a=none)(c:∀a∈dcs r,a∉L.flatMap dcs):Apt H (L++[r]):=by
 have e:(L++[r]).flatMap dcs=L.flatMap dcs++dcs r:=by rw[Rt];simp
 refine⟨?_,fun a ha=>?_⟩
 ·rw[e,Pk]
  exact⟨h.nd,n1,fun a ha b hb z=>c b hb (z▸ha)⟩
 ·rw[e] at ha
  rcases Pe.mp ha with ha|ha
  ·exact h.new a ha
  ·exact n2 a ha
def put_dcs{L:List RA}{x:RA}{a:Addr}(h:a∈(dq L x).flatMap dcs):a∈L.flatMap dcs\/a∈dcs x:=by
 obtain⟨y,hy,ha⟩:=Ps.mp h;obtain⟨z,hz,rfl⟩:=Bp.mp hy
 by_cases e:z.x.b=x.x.b
 ·rw[Sa e] at ha;exact .inr ha
 ·rw[Sb e] at ha;exact .inl (Ps.mpr ⟨z,hz,ha⟩)
def Apt.put{H:Hp}{L:List RA}{x:RA}(h:Apt H L)(hb:((dn L).map (·.b)).Nodup)(n1:(dcs x).Nodup)(n2:∀a∈dcs x,H a=none)(i:∀a∈dcs x,a∉L.flatMap dcs):Apt H (dq L x):=by
 refine⟨?_,fun a ha=>?_⟩
 ·have d:∀M:List RA,((dn M).map (·.b)).Nodup->(M.flatMap dcs).Nodup->(∀a∈dcs x,a∉M.flatMap dcs)->((dq M x).flatMap dcs).Nodup:=by
   intro M
   induction M with
   |nil=>intro _ _ _;exact PV
   |cons y M ih=>
    intro hb c hx;rw[show(dn (y::M)).map (·.b)=y.x.b::(dn M).map (·.b) from rfl,Pg] at hb;rw[Bf,Pk] at c;have hx':∀a∈dcs x,a∉M.flatMap dcs:=fun a ha z=>hx a ha (by rw[Bf];exact AN _ z);have f:=ih hb.2 c.2.1 hx';show(((if y.x.b=x.x.b then x else y)::dq M x).flatMap dcs).Nodup;rw[Bf,Pk]
    by_cases e:y.x.b=x.x.b
    ·rw[Sa e]
     refine⟨n1,f,fun a ha b hb' z=>?_⟩;subst z;rcases put_dcs hb' with q|q
     ·exact hx' a ha q
     ·have g:dq M x=M:=by
       unfold dq;refine(AA fun z hz=>?_).trans (Rw _);rw[Sb];intro e2;exact hb.1 (Bp.mpr ⟨z.x,Bp.mpr ⟨z,hz,rfl⟩,ω⟩)
      rw[g] at hb';exact hx' a ha hb'
    ·rw[Sb e]
     refine⟨c.1,f,fun a ha b hb' z=>?_⟩;subst z;rcases put_dcs hb' with q|q
     ·exact c.2.2 a ha a q rfl
     ·exact hx a q (by rw[Bf];exact Pu _ ha)
  exact d L hb h.nd i
 ·rcases put_dcs ha with q|q
  ·exact h.new a q
  ·exact n2 a q
def tV{H:Hp}{a R:Addr}{o:HO}{kv:List (Key×V)}{kvs:List (List Key×V)}(h:Rd H a (.dT kvs))(b:H R=some (.dK kv)):Rd (upd H R o) a (.dT kvs):=by
 have ne:a≠R:=fun z=>by
  subst z;rcases h with e|⟨_,e⟩<;>(rw[b] at e;cases e)
 unfold Rd;rw[al ne];exact h
def tY{H:Hp}{r:RA}{R:Addr}{o:HO}{kv:List (Key×V)}(h:RwAt H r)(a:H R=some (.dK kv)):RwAt (upd H R o) r:=by
 obtain⟨h1,h2⟩:=h;refine⟨tV h1 a,?_⟩;rcases h2 with ⟨e,h2⟩|⟨e,h2,c,b⟩
 ·exact .inl ⟨e,by rw[al (a7 h2 a (by intro z;cases z))];exact h2⟩
 ·exact .inr ⟨e,h2,tV c a,by rw[al (a7 b a (by intro z;cases z))];exact b⟩
def N3{l m:List Int}(hp:l.Perm m)(h1:l.Pairwise (·<=·))(h2:m.Pairwise (·<=·)):l=m:=
 List.Perm.eq_of_pairwise (fun a b _ _ g1 g2=>Int.le_antisymm g1 g2) h1 h2 hp
def kb(L:List RA):List Int:=L.map fun r=>(r.x.b:Int)
section
variable{P:Program}{w:World}{K:Ac}{mg:Str->Option Value}{base:Heap}{f:Addr}{fd:FuncData}{Pt:Addr}
def N4{H2:Hp}{S R D:Addr}{L:List RA}{Q:VK}(l:SqL K H2 S ((kb L).map V.int))(o:H2 R=some (.dK (ei L)))(p:((dn L).map (·.b)).Nodup)(hz:L.length<=1000)(h:H2 D=none)(k:∀(a:Hp),Same H2 a->a D=some (.lst (L.map fun r=>V.ref r.t))->Q (.ref D) a):zU (dG K S) (zK 0) cQ (gf (aw 1) (aw 0)) [none,some (.ref R)] H2 D Q:=by
 have f:((kb L).map V.int).length=L.length:=by unfold kb;rw[Ab,Ab]
 refine zE (xs:=(kb L).map V.int) (fun j σ ys a=>∃(v:Option V),σ=[v,some (.ref R)]/\Same H2 a/\a D=some (.lst ys)/\ys=(L.map fun r=>V.ref r.t).take j) ?_ ?_ ?_ ?_
 ·exact⟨none,rfl,Same.new h,ag,rfl⟩
 ·rintro j σ ys a ⟨v,rfl,sm,c,rfl⟩
  exact sm.seq l
 ·rintro j σ ys a x hx i hy ⟨v,rfl,sm,c,rfl⟩
  unfold kb at hx;rw[Aj,Ai] at hx;obtain⟨r,d,rfl⟩:=P9.mp hx;have e:(L.map fun r=>V.ref r.t)[j]?=some (.ref r.t):=by rw[Ai,d];rfl
  have g:DGet a R (.int r.x.b) (some (.ref r.t)):=by
   have:=DGet.k (k:=Sum.inl (r.x.b:Int)) (sm _ _ o)
   rwa [Do p (Ao d)] at this
  refine dv ⟨_,rfl,_,rfl,R,_,rfl,g,bw (by rw[f];exact ze ω) i hy c ⟨_,rfl,sm.then h,ag,by rw[AC e]⟩⟩
 ·rintro σ ys a ⟨v,rfl,sm,c,rfl⟩
  rw[f,AB (by rw[Ab];exact Af _)] at c;exact k a sm c
structure Dq(p:Int)(oo:Ξ)(H':Hp)(D:Addr)(L:List RA):Prop where
 hD:H' D=some (.lst (L.map fun r=>V.ref r.t))
 rw:∀r∈L,RwAt H' r
 pap:cH p oo oo.length (dn L)
def Dr{p:Int}{oo:Ξ}{T:Nat}{L:List RA}(h:cH p oo T (dn L))(c:T<=oo.length):L.length<=oo.length:=by
 have a:((dn L).map (·.b)).Nodup:=h.srt.imp fun h=>ω
 have:=a.length_le_of_subset (l₂:=AI oo.length) fun b hb=>by
  obtain⟨x,hx,rfl⟩:=Bp.mp hb;have:=(hV h hx).born;have this:x.b<T:=this;exact PJ.mpr ω
 rw[QI,Ab,Ab] at this;exact this
def isP(p:Int):Prop:=p=2\/p=3\/p=5\/p=7
def isP.pr{p:Int}(h:isP p):Bar.Pr p/\p<=7:=by
 rcases h with rfl|rfl|rfl|rfl
 ·exact⟨Bar.Ms,ξ⟩
 ·exact⟨Bar.Mt,ξ⟩
 ·exact⟨Bar.Mu,ξ⟩
 ·exact⟨Bar.Mv,ξ⟩
def Hh(K:Ac)(Pt:Addr):Sp:=fun vs H Q _=>∃l as oo p,vs=[.ref l,.int p]/\SqL K H l (as.map V.ref)/\Tps H as oo/\bo oo/\oo.length<=60/\isP p/\TY Pt H/\
 ∀D L H',SY Pt H H'->H D=none->Dq p oo H' D L->Apt H L->(∀a∈L.flatMap dcs,∃kvs,H' a=some (.dT kvs))->Q (.ref D) H'
abbrev Hi:List Str:=["order","prime","times","rows","time","piece","found","born"]
def lF:zm Hi ["order","prime"] (zb tT):=⟨rfl,rfl,rfl,δ,rfl,δ,δ⟩
def N5(F:Fun K "paper" "paper" tT f fd)(B:Bt mg)(Co:Cl P w K mg base aR "must_be_order" ["order"] 3 (De K))(Cp:Cl P w K mg base aR "must_be_prime" ["prime"] 1 Dg)(Ct:Cl P w K mg base aR "times_of" ["order"] 1 (G_ K))(Cw:Cl P w K mg base aR "worked_off" ["piece","rows","times","prime"] 5 (He Pt))(Cy:Cl P w K mg base aR "youngest_of" ["chain","times"] 4 (Dl Pt)):FnOk P w K mg base aR 6 f fd ["order","prime"] (Hh K Pt):=by
 refine F.ok lF (fun vs H Q E h=>?_) (fun cdv A outer s H vs Q E hr h=>?_)
 ·obtain⟨l,as,oo,p,rfl,_⟩:=h;rfl
 ·obtain⟨l,as,oo,p,rfl,hl,ht,ho,I,hp,tb,k⟩:=h
  have hu:=fK hr;have O:=GR ho;have fA:=I;have I:oo.length<=200:=ω
  obtain⟨fE,e_⟩:=hp.pr;have h2:=fE.two;have aE:=ht.length;refine⟨_,za (fD (zy Co hr rfl aH (ac (pv 0) ak))) (za (fD (zy Cp hr rfl aH (ac (pv 1) ak)))
   (za (zk (i:=2) lF.nd rfl (Or.inl rfl) (zy Ct hr rfl aH (ac (pv 0) ak)))
   (za (zk (i:=3) lF.nd rfl (Or.inr rfl) EL)
   (za (el AK rfl (yz rfl B.enumerate A_ (ac (pv 0) ak)) (nP rfl (zW (zi (i:=4) lF.nd rfl (Or.inl rfl)) (zW (zi (i:=5) lF.nd rfl (Or.inl rfl)) lS)))
    (za (zk (i:=6) lF.nd rfl (Or.inl rfl) (zy Cw hr rfl aH (ac (pv 5) (ac (pv 3) (ac (pv 2) (ac (pv 1) ak))))))
    (zf (cT (zl ew (zj C_ rfl B.len c5 (ac (zJ zZ (pv 6) zd (fun _ _=>rfl)) ak)) zd (ax _))
     (zf (hB hu (pv 3) (pv 4) (eZ (ac (zn gJ (zj zh rfl B.len c5 (ac (pv 5) ak)) zd) (ac (pv 4) (ac kc (ac (zJ zZ (pv 6) zd (fun _ _=>rfl)) (ac kc ak)))))) rfl))
     (za (zk (i:=7) lF.nd rfl (Or.inl rfl) (zC hu (pv 2) (zy Cy hr rfl aH (ac (zJ zZ (pv 6) zd (fun _ _=>rfl)) (ac (pv 2) ak))) (fun _ _=>rfl)))
     (zf (hB hu (pv 3) (pv 7) (eZ (ac (zn gJ (zj zh rfl B.len c5 (ac (pv 5) ak)) zd) (ac (pv 7) (ac (pv 4) (ac (zJ zZ (pv 6) zd (fun _ _=>rfl)) (ac (zJ zZ (pv 6) zd (fun _ _=>rfl)) ak)))))) rfl)))))))
   (zf (zo (NU (zq Hi ["born","rows"] [none,some 3] (zu (zj (NZ rfl) rfl B.sorted rA (ac (pv 3) ak))) (fun _ _ _ _ _=>zi (i:=0) (cJ ["born","rows"]) rfl (Or.inl rfl)) (fun _ _ _ _ _=>zX)
    (fun _ _ _ _ _=>zC hu (pv 1) (pv 0) (fun _ _=>rfl)) (hfr:=bx (zb tT) δ) (te:=gf (aw 1) (aw 0)))))))))),?_⟩
  refine⟨_,rfl,l,as,oo,rfl,hl,ht,I,ho,fun H1 s1=>?_⟩;refine⟨_,rfl,p,rfl,hp,?_⟩;refine⟨_,rfl,l,as,oo,rfl,s1.seq hl,s1.tps ht,O.nd,I,fun T H2 s2 kO kU R hR=>?_⟩;have i_:=s1.trans s2;have s3:=Same.new (o:=.dK []) hR;have sh:=i_.trans s3;have lW:H R=none:=i_.free hR;refine⟨_,rfl,l,rfl,⟨_,sh.seq hl⟩,E9 (K:=K) (a:=l) (xs:=as.map V.ref) (fun i σ U=>∃(v4 v5 v6 v7:Option V)(L:List RA),σ=[some (.ref l),some (.int p),some (.ref T),some (.ref R),v4,v5,v6,v7]/\SY Pt H U/\WIn Pt U R T L oo p i/\Apt H L)
   ⟨none,none,none,none,[],rfl,Same.sf sh,⟨ag,(fun r hr=>nomatch hr),.inl (s3 _ _ kU),O,I,fE,e_,MJ,tb.same sh⟩,⟨PV,(fun a ha=>nomatch ha)⟩⟩ (fun i σ U _ ⟨_,_,_,_,_,_,f,_⟩=>f.seq hl) ?_ ?_⟩
  ·rintro i x pr σ U hx ⟨v4,v5,v6,v7,L,rfl,f4,I4,ap⟩ n_
   obtain⟨a,ea,rfl⟩:=zL hx;obtain⟨q,eq,hq⟩:=ht.get ea;have hi:i<oo.length:=(KK.mp eq).1;have J:=Same.new (o:=.tup [.int i,.ref a]) n_;have Y:=f4.trans (Same.sf J);have I5:=I4.sf (Same.sf J);refine⟨pr,_,rfl,SqT.of ag,rfl,_,_,rfl,_,_,rfl,rfl,?_⟩;generalize upd U pr (.tup [.int i,.ref a])=H5 at J Y I5;refine⟨_,rfl,_,rfl,_,rfl,_,rfl,a,R,T,L,q,oo,i,p,rfl,Y.tp hq,I5,eq,fun u c g left fill H6 f6 gF fe n5 BC kT pf rq W hw=>?_⟩;have oG:=Y.trans f6;have I6:=I5.sf f6;have v:∀b∈L.flatMap dcs,∃o,H5 b=some o:=fun b hb=>by
    obtain⟨r,hr,hb⟩:=Ps.mp hb;obtain⟨kvs,hk⟩:=Hg (I5.rw r hr) hb;exact mZ hk
   have cn:c∉L.flatMap dcs:=fun z=>by obtain⟨o,e⟩:=v c z;rw[gF] at e;cases e
   have gn:g∉L.flatMap dcs:=fun z=>by obtain⟨o,e⟩:=v g z;rw[fe] at e;cases e
   refine⟨_,rfl,u,_,0,.ref c,rfl,rfl,SqT.of kT,rfl,c,aL left,rfl,pf,rfl,_,rfl,?_⟩;rw[gk];have jG:=Dr I5.pap (Qg hi);have gB:(ei L).length<sizeLine:=by unfold ei;rw[Ab];exact zP ω
   have M:((dn L).map (·.b)).Nodup:=I5.pap.srt.imp fun h=>ω
   by_cases hz:left.length=0
   ·have dR:left=[]:=Pf hz
    subst dR;rw[Sc (by rfl)];refine a6 ⟨_,rfl,a,_,rfl,.inr (SqT.of (oG.tp hq)),_,_,rfl,rfl,_,rfl,_,rfl,u,_,1,.ref g,rfl,rfl,SqT.of kT,rfl,ze (by simp),fun t eU=>?_⟩;have s7:=Same.new (o:=.tup [.int ((List.map V.int q).length-1),.int i,.non,.ref g,.non]) eU;refine⟨_,rfl,_,rfl,R,_,rfl,DPut.k (k:=Sum.inl (i:Int)) (s7 _ _ I6.hR) gB,?_⟩;have hb:∀r∈L,r.x.b≠i:=fun r hr=>by
     have:=(hV I5.pap (Bp.mpr ⟨r,hr,rfl⟩)).born;have this:r.x.b<i:=this;omega
    rw[N1 hb];have gN:ei L++[((Sum.inl (i:Int):Key),V.ref t)]=ei (L++[⟨⟨(q.length:Int)-1,i,none,fill,[]⟩,t,g,g⟩]):=by unfold ei;rw[Ak];rfl
    have iS:=s7 _ _ I6.hR;have d:=oG.trans (Same.sf (P:=Pt) (pos:=nf) (q:=qY) s7);have I7:=I6.sf (Same.sf (P:=Pt) (pos:=nf) (q:=qY) s7);have rF:=rq.same s7;have gD:=ag (H:=H6) (a:=t) (o:=.tup [.int ((List.map V.int q).length-1),.int i,.non,.ref g,.non]);generalize upd H6 t (.tup [.int ((List.map V.int q).length-1),.int i,.non,.ref g,.non])=X at s7 iS d I7 rF gD;rw[Ab] at gD;refine⟨_,_,_,_,L++[⟨⟨(q.length:Int)-1,i,none,fill,[]⟩,t,g,g⟩],rfl,d.put lW iS,⟨by rw[ag,gN],fun r hr=>?_,tV I7.hT iS,O,I,fE,e_,?_,I7.tb.off iS (by intro ps z;cases z) (by intro ob u z;cases z)⟩,ap.snoc (by simp[dcs]) (fun b hb=>?_) (fun b hb=>?_)⟩
    ·rcases Pe.mp hr with hr|hr
     ·exact tY (I7.rw r hr) iS
     ·rw[Pb.mp hr]
      exact tY ⟨rF,.inl ⟨rfl,gD⟩⟩ iS
    ·have e:dn (L++[⟨⟨(q.length:Int)-1,i,none,fill,[]⟩,t,g,g⟩])=dn L++[⟨(q.length:Int)-1,i,none,fill,[]⟩]:=by unfold dn;rw[Ak];rfl
     rw[e];exact MM O I5.pap W
    ·rw[Pb.mp (show b∈[g] from hb)];exact Y.dom fe
    ·rw[Pb.mp (show b∈[g] from hb)];exact gn
   ·rw[Sd (fun z=>hz (by injection z with z;omega))]
    rcases hw with hw|⟨y,t0,hy,j,qb,eb,ed⟩
    ·exact absurd (by rw[hw];rfl) hz
    subst eb;refine aN ⟨_,rfl,_,rfl,u,_,0,.ref c,rfl,rfl,SqT.of kT,rfl,_,rfl,c,T,left,oo,rfl,pf,I6.hT,O.nd,Hd hz,fun z G=>(W.li z G).1,I6.tb,fun b y' Cz X d cY hy'=>?_⟩;have jg:=hy.yg O W.l ω;have n9:=hy'.yg O W.l ω;have et:=jg.uniq n9;subst et;have rP:=oG.trans d;have I7:=I6.sf d;have gT:DGet X T (.ref b) (some (.int j.x.b)):=.inr ⟨aL (eA oo),y'.map Sum.inl,b,I7.hT,rfl,by rw[Aj];exact cY,(Dj O.nd hy'.2.1).symm⟩;have rL:=d.tup kT;refine⟨T,_,rfl,gT,?_⟩;refine⟨_,rfl,a,_,rfl,.inr (SqT.of (rP.tp hq)),_,_,rfl,rfl,_,rfl,_,rfl,_,rfl,u,_,0,.ref c,rfl,rfl,SqT.of rL,rfl,_,rfl,u,_,1,.ref g,rfl,rfl,SqT.of rL,rfl,ze (by simp),fun t gD=>?_⟩;have s8:=Same.new (o:=.tup [.int ((List.map V.int q).length-2),.int j.x.b,.int i,.ref c,.ref g]) gD;have N:=s8 _ _ I7.hR;have f8:=rP.trans (Same.sf (P:=Pt) (pos:=nf) (q:=qY) s8);have I8:=I7.sf (Same.sf (P:=Pt) (pos:=nf) (q:=qY) s8);have dM:=(d.rd pf).same s8;have kK:=(d.rd rq).same s8;have lZ:=ag (H:=X) (a:=t) (o:=.tup [.int ((List.map V.int q).length-2),.int j.x.b,.int i,.ref c,.ref g]);refine⟨_,rfl,_,rfl,R,_,rfl,DPut.k (k:=Sum.inl (j.x.b:Int)) N gB,?_⟩;generalize upd X t (.tup [.int ((List.map V.int q).length-2),.int j.x.b,.int i,.ref c,.ref g])=H8 at s8 N f8 I8 dM kK lZ;rw[Ab] at lZ;have gN:putK (ei L) (Sum.inl (j.x.b:Int)) (.ref t)=ei (dq L ⟨⟨(q.length:Int)-2,j.x.b,some i,left,fill⟩,t,c,g⟩):=N2 (x:=⟨⟨(q.length:Int)-2,j.x.b,some i,left,fill⟩,t,c,g⟩) ⟨j,qb,rfl⟩;rw[gN];refine⟨_,_,_,_,dq L ⟨⟨(q.length:Int)-2,j.x.b,some i,left,fill⟩,t,c,g⟩,rfl,f8.put lW N,⟨ag,fun r hr=>?_,tV I8.hT N,O,I,fE,e_,?_,I8.tb.off N (by intro ps z;cases z) (by intro ob u z;cases z)⟩,ap.put M ?_ (fun b hb=>?_) (fun b hb=>?_)⟩
    ·obtain⟨z,G,rfl⟩:=Bp.mp hr
     by_cases e:z.x.b=j.x.b
     ·rw[Sa e]
      exact tY ⟨dM,.inr ⟨i,rfl,kK,lZ⟩⟩ N
     ·rw[Sb e]
      exact tY (I8.rw z G) N
    ·rw[N0]
     exact MO O I5.pap W (Bp.mpr ⟨j,qb,rfl⟩) ed jg
    ·show [c,g].Nodup
     simp[n5]
    ·have hb:b∈[c,g]:=hb
     rcases Pa.mp hb with rfl|hb
     ·exact Y.dom gF
     ·rw[Pb.mp hb];exact Y.dom fe
    ·have hb:b∈[c,g]:=hb
     rcases Pa.mp hb with rfl|hb
     ·exact cn
     ·rw[Pb.mp hb];exact gn
  ·rintro σ U ⟨v4,v5,v6,v7,L,rfl,f4,I4,ap⟩
   rw[Ab,aE] at I4;have jG:=Dr I4.pap (Af _);have M:((dn L).map (·.b)).Nodup:=I4.pap.srt.imp fun h=>ω
   have ez:(.dK (ei L):HO)=dZ (L.map fun r=>((r.x.b:Int),V.ref r.t)):=by
    unfold ei;show _=HO.dK _;rw[Aj];rfl
   refine⟨_,rfl,R,L.map fun r=>((r.x.b:Int),V.ref r.t),rfl,by rw[<-ez];exact I4.hR,by rw[Ab];omega,fun S ms nq l_ hS=>?_⟩;have em:ms=kb L:=by
    refine N3 (nq.trans ?_) l_ ?_
    ·rw[Aj];exact List.Perm.refl _
    ·have:=I4.pap.srt
     unfold kb;rw[AS] at this ⊢;rw[AS] at this;exact this.imp fun h=>ω
   subst em;have J:=Same.new (o:=.lst ((kb L).map V.int)) hS;refine⟨S,rfl,⟨_,SqL.of ag⟩,fun D hD=>zt (N4 (SqL.of ag) (J _ _ I4.hR) M ω hD fun H6 s6 lq=>?_)⟩;have f6:SY Pt U H6:=Same.sf (J.trans s6);have I6:=I4.sf f6;have kI:∀b∈L.flatMap dcs,∃kvs,Rd H6 b (.dT kvs):=fun b hb=>by
    obtain⟨r,hr,hb⟩:=Ps.mp hb;exact Hg (I6.rw r hr) hb
   refine⟨L.flatMap dcs,fun b hb=>⟨ap.new b hb,kI b hb⟩,fun X o7 d7=>?_⟩;have d:SY Pt H6 X:=NV kI o7 d7;refine k D L X ((f4.trans f6).trans d) ((f4.trans (Same.sf J)).dom hD) ⟨d.lst lq,fun r hr=>(I6.rw r hr).sf d,I4.pap⟩ ap fun b hb=>?_;obtain⟨kvs,hk⟩:=kI b hb;exact⟨kvs,d7 b hb kvs hk⟩
end
end K66
end
section
namespace Bar
section
variable{p:Int}{S:Ch->Ch}{T:Nat}{L L':List Row}
def low(P:Pr p)(w:Sm p S)(R:Rows p S T L){x:Row}(hx:x∈L){t:Nat}(hd:x.d=some t){f:Ch}(hf:Yg p f t):∃u,x.b<=u/\Yg p (S f) u:=by
 have o:=(R.ok x hx).gone t hd;have ox:=(R.ok x hx).yg;obtain⟨a,ha,A⟩:=sJ P (T:=t) (f:=f) (g:=x.g) (fun u hu=>hf.2 u hu) o.2.2.1;have C:=A hf.1;have D:=pz P w R t ω _ ha;have eq:∀u,p ∣ S f u-(S (bj f a x.g) u+a*x.r u):=fun u=>by
  rw[w.lin];have h1:=AU (o.2.2.2 u) (A7 a (S x.g u-x.r u))
  rwa [show a*(S x.g u-x.r u)=S f u-(S f u-a*S x.g u+a*x.r u) from by rw[RP];omega] at h1
 have c:∀u,p ∣ S f u↔p ∣ S (bj f a x.g) u+a*x.r u:=fun u=>by
  constructor
  ·intro z
   have:=Pv z (eq u)
   rwa [show S f u-(S f u-(S (bj f a x.g) u+a*x.r u))=S (bj f a x.g) u+a*x.r u from ω] at this
  ·intro z
   have:=Bg (eq u) z
   rwa [show S f u-(S (bj f a x.g) u+a*x.r u)+(S (bj f a x.g) u+a*x.r u)=S f u from ω] at this
 have l:¬p ∣ a*x.r x.b:=fun z=>(P.two_way _ _ z).elim C ox.1;have v:(∀u,x.b<=u->p ∣ S (bj f a x.g) u)->Yg p (S f) x.b:=fun h=>by
  refine⟨fun z=>l ?_,fun u hu=>(c u).mpr (Bg (h u ω) (AU (ox.2 u hu) (A7 _ _)))⟩;have:=Pv ((c _).mp z) (h x.b (Af _))
  rwa [show S (bj f a x.g) x.b+a*x.r x.b-S (bj f a x.g) x.b=a*x.r x.b from ω] at this
 rcases sp_yg P (dl_nd R.nd) (fun q hq=>by
  obtain⟨y,hy',d,e',i,rfl⟩:=dl_mem.mp hq;exact(R.ok y hy').yg) D with z|⟨q,hq,z⟩
 ·exact⟨x.b,Af _,v fun u _=>z u⟩
 ·obtain⟨y,hy',d,e',i,rfl⟩:=dl_mem.mp hq
  have j:y.b≠x.b:=fun e=>by
   have:=CO R.nd hy' hx e;subst this;rw[hd] at e';cases e';omega
  rcases RF j with lt|lt
  ·exact⟨x.b,Af _,v fun u hu=>z.2 u (by show y.b<u;omega)⟩
  ·refine⟨y.b,ω,fun e=>z.1 ?_,fun u hu=>(c u).mpr (Bg (z.2 u hu) (AU (ox.2 u ω) (A7 _ _)))⟩
   have:=Pv ((c _).mp e) (AU (ox.2 y.b lt) (A7 a (x.r y.b)))
   rwa [show S (bj f a x.g) y.b+a*x.r y.b-a*x.r y.b=S (bj f a x.g) y.b from ω] at this
def N6(P:Pr p)(h:Sm p S)(R:Rows p S T L)(R':Rows p S T L'){x:Row}(hx:x∈L){t:Nat}(hd:x.d=some t):∃y∈L',y.d=some t/\y.b=x.b:=by
 have ht:=((R.ok x hx).gone t hd).1;have key:∀{A B:List Row},Rows p S T A->Rows p S T B->∀{x y:Row},x∈A->y∈B->x.d=some t->y.d=some t->x.b<=y.b:=by
  intro A B RA RB x y hx hy e1 e2;have o:=(RB.ok y hy).gone t e2;obtain⟨u,hu,c⟩:=low P h RA hx e1 o.2.2.1;have a:=(RB.ok y hy).yg;have j:Yg p (S y.g) y.b:=by
   refine⟨fun z=>a.1 ?_,fun v i=>?_⟩
   ·have:=Pv z (o.2.2.2 y.b)
    rwa [show S y.g y.b-(S y.g y.b-y.r y.b)=y.r y.b from ω] at this
   ·have:=Bg (o.2.2.2 v) (a.2 v i)
    rwa [show S y.g v-y.r v+y.r v=S y.g v from ω] at this
  have:=c.uniq j;omega
 rcases R'.all t ht with ⟨y,hy,e⟩|⟨y,hy,e⟩
 ·exfalso
  have a:=R'.ok y hy;obtain⟨u,_,c⟩:=low P h R hx hd (f:=y.r) (by rw[<-e];exact a.yg);exact c.not_z a.cyc
 ·exact⟨y,hy,e,Nat.le_antisymm (key R' R hy hx e hd) (key R R' hx hy hd e)⟩
end
end Bar
end
section
namespace K66
open K1
open PySem L2 STb
def Hj{p:Int}{oo:Ξ}{T:Nat}{A B:List aU}(P:Bar.Pr p)(a:cH p oo T A)(b:cH p oo T B){x:aU}(hx:x∈A){t:Nat}(hd:x.d=some t):∃y∈B,y.d=some t/\y.b=x.b:=by
 obtain⟨y,hy,h1,h2⟩:=Bar.N6 P (Bar.lD p oo tau) a.rows b.rows (x:=hJ oo x) (Bp.mpr ⟨x,hx,rfl⟩) hd;obtain⟨z,hz,rfl⟩:=Bp.mp hy;exact⟨z,hz,h1,h2⟩
def Hk{p:Int}{oo:Ξ}{T:Nat}{A B:List aU}(P:Bar.Pr p)(a:cH p oo T A)(b:cH p oo T B){x:aU}(hx:x∈A):∃y∈B,y.b=x.b:=by
 have ht:x.b<T:=(hV a hx).born;rcases b.rows.all x.b ht with ⟨y,hy,e⟩|⟨y,hy,e⟩
 ·obtain⟨z,hz,rfl⟩:=Bp.mp hy
  exact⟨z,hz,e⟩
 ·obtain⟨z,hz,rfl⟩:=Bp.mp hy
  obtain⟨v,c,h1,h2⟩:=Hj P b a hz e;exact absurd h1 (a.rows.one (hJ oo x) (Bp.mpr ⟨x,hx,rfl⟩) (hJ oo v) (Bp.mpr ⟨v,c,rfl⟩))
def N7{l m:List Nat}(h1:l.Pairwise (·<·))(h2:m.Pairwise (·<·))(h:∀x,x∈l↔x∈m):l=m:=
 List.Perm.eq_of_pairwise (le:=fun a b=>a<=b) (fun a b _ _ g1 g2=>Nat.le_antisymm g1 g2) (h1.imp fun h=>Qg h) (h2.imp fun h=>Qg h) ((List.perm_ext_iff_of_nodup (h1.imp fun h=>ω) (h2.imp fun h=>ω)).mpr h)
def tri(x:aU):List V:=[.int x.hi,.int x.b,match x.d with|none=>.non|some e=>.int e]
def N8{p:Int}{oo:Ξ}{T:Nat}{A B:List aU}(P:Bar.Pr p)(a:cH p oo T A)(b:cH p oo T B):A.map tri=B.map tri:=by
 have c:A.map (·.b)=B.map (·.b):=N7 a.srt b.srt fun t=>by
  constructor
  ·intro h
   obtain⟨x,hx,rfl⟩:=Bp.mp h;obtain⟨y,hy,e⟩:=Hk P a b hx;exact Bp.mpr ⟨y,hy,e⟩
  ·intro h
   obtain⟨x,hx,rfl⟩:=Bp.mp h;obtain⟨y,hy,e⟩:=Hk P b a hx;exact Bp.mpr ⟨y,hy,e⟩
 have j:A.length=B.length:=by simpa using congrArg List.length c
 have inj:∀{M:List aU},(M.map (·.b)).Pairwise (·<·)->∀{x y:aU},x∈M->y∈M->x.b=y.b->x=y:=by
  intro M
  induction M with
  |nil=>intro _ x y hx;cases hx
  |cons m M ih=>
   intro h x y hx hy e;rw[As,PK] at h;rcases Pa.mp hx with rfl|hx'<;>rcases Pa.mp hy with rfl|hy'
   ·rfl
   ·have:=h.1 y.b (Bp.mpr ⟨y,hy',rfl⟩);omega
   ·have:=h.1 x.b (Bp.mpr ⟨x,hx',rfl⟩);omega
   ·exact ih h.2 hx' hy' e
 have step:∀{A B:List aU},cH p oo T A->cH p oo T B->∀{x y:aU},x∈A->y∈B->x.b=y.b->∀t,x.d=some t->y.d=some t:=by
  intro A B a b x y hx hy e t hd;obtain⟨z,hz,h1,h2⟩:=Hj P a b hx hd;have:=inj b.srt hz hy ω;rw[<-this];exact h1
 refine List.ext_getElem (by rw[Ab,Ab,j]) fun i h1 h2=>?_;rw[Ab] at h1 h2;rw[List.getElem_map,List.getElem_map];have hx:=Pq h1;have hy:=Pq h2;have e:A[i].b=B[i].b:=by
  have:=congrArg (fun l=>l[i]?) c;simp only[Ai,Ah h1,Ah h2,Pp,Be] at this;exact this
 generalize A[i]=x at hx e;generalize B[i]=y at hy e;have o:x.hi=y.hi:=by
  obtain⟨q,h1,h2⟩:=pE a hx;obtain⟨u,f,g⟩:=pE b hy;rw[e,f] at h1;cases h1;have:=((a.ok x hx).ci q h2).2;have:=((b.ok y hy).ci q g).2;omega
 have r:x.d=y.d:=by
  cases hd:x.d with
  |some t=>exact(step a b hx hy e t hd).symm
  |none=>
   cases hd':y.d with
   |none=>rfl
   |some t=>rw[step b a hy hx e.symm t hd'] at hd;cases hd
 unfold tri;rw[o,e,r]
section
variable{P:Program}{w:World}{K:Ac}{mg:Str->Option Value}{base:Heap}{f:Addr}{fd:FuncData}{Pt:Addr}
def RwAt.all{H:Hp}{r:RA}(h:RwAt H r):∃a b:V,H r.t=some (.tup (tri r.x++[a,b])):=by
 obtain⟨_,⟨e,h⟩|⟨e,e1,_,h⟩⟩:=h
 ·exact⟨.ref r.c,.non,by rw[h];unfold tri;rw[e];rfl⟩
 ·exact⟨.ref r.c,.ref r.g,by rw[h];unfold tri;rw[e1];rfl⟩
abbrev Hl(K:Ac):TE:=qI (n7 K) (aw 0) qA (qB (tC (.int 3)))
def N9{H2:Hp}{S D:Addr}{L:List RA}{Q:VK}(w:SqL K H2 S (L.map fun r=>V.ref r.t))(hr:∀r∈L,RwAt H2 r)(hz:L.length<=1000)(p:H2 D=none)(k:∀(b:Hp)(us:List Addr),Same H2 b->b D=some (.lst (us.map V.ref))->Paired (fun u x=>b u=some (.tup x)) us ((dn L).map tri)->Q (.ref D) b):zU (dG K S) (zK 0) cQ (Hl K) [none] H2 D Q:=by
 have l:(L.map fun r=>V.ref r.t).length=L.length:=Ab _;refine zE (xs:=L.map fun r=>V.ref r.t) (fun j σ ys b=>∃(v:Option V)(us:List Addr),σ=[v]/\Same H2 b/\b D=some (.lst ys)/\ys=us.map V.ref/\Paired (fun u x=>b u=some (.tup x)) us (((dn L).map tri).take j)) ?_ ?_ ?_ ?_
 ·exact⟨none,[],rfl,Same.new p,ag,rfl,.nil⟩
 ·rintro j σ ys b ⟨v,us,rfl,sm,c,rfl,hp⟩
  exact sm.seq w
 ·rintro j σ ys b x hx q hy ⟨v,us,rfl,sm,c,rfl,hp⟩
  rw[Ai] at hx;obtain⟨r,f,rfl⟩:=P9.mp hx;have e:((dn L).map tri)[j]?=some (tri r.x):=by rw[Ai,Ai,f];rfl
  obtain⟨g,i,ht⟩:=(hr r (Ao f)).all;refine dv ⟨_,rfl,3,rfl,r.t,_,rfl,SqT.of (sm _ _ ht),(show ¬(HT.sIx 5 0 none=0/\HT.sIx 5 5 (some 3)=5) from ξ),fun u hu=>?_⟩;have d:=Same.new (o:=.tup (cz (tri r.x++[g,i]) none (some 3))) hu;refine bw (by rw[l];exact ze ω) q hy (d _ _ c) ⟨_,us++[u],rfl,(sm.trans d).then p,ag,by rw[Ak];rfl,?_⟩;rw[AC e];have ne:∀{a:Addr}{x:List V},upd b u (.tup (cz (tri r.x++[g,i]) none (some 3))) a=some (.tup x)->a≠D:=fun h=>a7 h (d _ _ c) (by intro z;cases z);refine Paired.snoc (Paired.mapP hp fun a x h=>?_) ?_
  ·rw[al (ne (d _ _ h))];exact d _ _ h
  ·rw[al (ne ag),ag];rfl
 ·rintro σ ys b ⟨v,us,rfl,sm,c,rfl,hp⟩
  rw[l,AB (by rw[Ab,Ab];exact Af _)] at hp;exact k b us sm c hp
def ng(K:Ac)(Pt:Addr):Sp:=fun vs H Q _=>∃l as oo p,vs=[.ref l,.int p]/\SqL K H l (as.map V.ref)/\Tps H as oo/\bo oo/\oo.length<=60/\isP p/\TY Pt H/\
 ∀D us xs H',SY Pt H H'->H D=none->H' D=some (.lst (us.map V.ref))->Paired (fun u x=>H' u=some (.tup x)) us (xs.map tri)->cH p oo oo.length xs->Q (.ref D) H'
def N_:zm ["order","prime"] ["order","prime"] (zb Dp):=⟨rfl,rfl,rfl,δ,rfl,δ,δ⟩
def Oa(F:Fun K "bars" "bars" Dp f fd)(v:Cl P w K mg base aR "paper" ["order","prime"] 6 (Hh K Pt)):FnOk P w K mg base aR 7 f fd ["order","prime"] (ng K Pt):=by
 refine F.ok N_ (fun vs H Q E h=>?_) (fun cdv A outer s H vs Q E hr h=>?_)
 ·obtain⟨l,as,oo,p,rfl,_⟩:=h;rfl
 ·obtain⟨l,as,oo,p,rfl,j,ht,o,q,hp,tb,k⟩:=h
  refine⟨_,zf (zo (zq ["order","prime"] ["row"] [none] (zu (zy v hr rfl aH (ac (pv 0) (ac (pv 1) ak)))) (fun b C s₀ H₀ ex=>zi (i:=0) (cJ ["row"]) rfl (Or.inl rfl)) (fun b C s₀ H₀ ex=>zX)
   (fun b C s₀ H₀ ex=>iC wl (pv 0) ix (iz zd)) (hfr:=dI δ) (te:=Hl K))),?_⟩
  refine⟨_,rfl,_,rfl,l,as,oo,p,rfl,j,ht,o,q,hp,tb,fun D L H1 f1 x a y hf=>?_⟩;have G:=Dr a.pap (Af _);refine⟨D,rfl,⟨_,SqL.of a.hD⟩,fun r c=>zt (N9 (SqL.of a.hD) a.rw ω c fun u us d e g=>?_)⟩;exact k r us (dn L) u (f1.trans (Same.sf d)) (f1.dom c) e g a.pap
end
abbrev Ds:Stmt:=top 21
abbrev Dt:Stmt:=top 33
abbrev pM:Stmt:=top 34
def Hm{p:Int}{oo:Ξ}{T:Nat}{L:List aU}(h:cH p oo T L):L.length<=T:=by
 have a:(L.map (·.b)).Nodup:=h.srt.imp fun h=>ω
 have:=a.length_le_of_subset (l₂:=AI T) fun b hb=>by
  obtain⟨x,hx,rfl⟩:=Bp.mp hb;have:=(hV h hx).born;have this:x.b<T:=this;exact PJ.mpr this
 rw[Ab,QI] at this;exact this
section
variable{P:Program}{w:World}{K:Ac}{mg:Str->Option Value}{base:Heap}{f:Addr}{fd:FuncData}{Pt:Addr}
def Hn(K:Ac)(fN:Addr):Sp:=fun vs H Q E=>∃(l:Addr)(xs:List V)(t:Int),vs=[.ref l,.int t]/\SqL K H l xs/\((0<=t/\t<xs.length)->Q .non H)/\(¬(0<=t/\t<xs.length)->∀x,H x=none->E (.ref x) (some fN) H)
def Ob:zm ["order","time"] ["order","time"] (zb Ds):=⟨rfl,rfl,rfl,δ,rfl,δ,δ⟩
def Oc{f fN:Addr}{fd:FuncData}(F:Fun K "must_be_time" "must_be_time" Ds f fd)(B:Bt mg)(p:mg "NoNumber"=some (.ref fN))(q:PY K fN j_ "ValueError.__new__"=true):FnOk P w K mg base (eQ P w) 1 f fd ["order","time"] (Hn K fN):=by
 refine F.ok1 Ob (fun vs H Q E h=>?_) (fun cdv A outer s H vs Q E hr h=>?_)
 ·obtain⟨l,xs,t,rfl,_⟩:=h;rfl
 ·obtain⟨l,xs,t,rfl,o,k,b⟩:=h
  refine⟨_,zf (cT (ip (qx ku kr zd (pv 1) (zj zh rfl B.len c5 (ac (pv 0) ak)))) (zf (GX (C:=fN) (EX:=E) rfl rfl p q (fun aa σ H' s' x I hx d i j=>C4 I hx d i (fun a e=>nomatch e) j))) zv),?_⟩;refine⟨_,rfl,_,_,rfl,rfl,_,rfl,cP (fun g=>?_) (fun g=>⟨_,rfl,a6 fun x hx=>b (fun z=>g (Sc z.1)) x hx⟩)⟩;refine⟨_,rfl,l,_,rfl,.inl o,_,_,rfl,rfl,_,rfl,?_⟩
  by_cases c:t<xs.length
  ·rw[Sc c]
   exact aN (k ⟨Se g,c⟩)
  ·rw[Sd c]
   exact a6 fun x hx=>b (fun z=>c z.2) x hx
def tZ{H2:Hp}{S D:Addr}{us:List Addr}{xs:List aU}{tc:TT}{rest:St}{pr:aU->Bool}{Q:VK}(o:∀(u:Addr)(x:aU)(b:Hp)(R:Bool->Hp->Prop),b u=some (.tup (tri x))->R (pr x) b->tc (some (.ref u)::rest) b R)(p:SqL K H2 S (us.map V.ref))(hp:Paired (fun u x=>H2 u=some (.tup x)) us (xs.map tri))(hz:xs.length<=1000)(g:H2 D=none)(k:∀(b:Hp)(c:List Addr),Same H2 b->b D=some (.lst (c.map V.ref))->Paired (fun u x=>b u=some (.tup x)) c ((xs.filter pr).map tri)->Q (.ref D) b):zU (dG K S) (zK 0) tc (aw 0) (none::rest) H2 D Q:=by
 have l:us.length=xs.length:=by rw[hp.length,Ab]
 refine zE (xs:=us.map V.ref) (fun j σ ys b=>∃(v:Option V)(c:List Addr),σ=v::rest/\Same H2 b/\b D=some (.lst ys)/\ys=c.map V.ref/\Paired (fun u x=>b u=some (.tup x)) c (((xs.take j).filter pr).map tri)) ?_ ?_ ?_ ?_
 ·exact⟨none,[],rfl,Same.new g,ag,rfl,.nil⟩
 ·rintro j σ ys b ⟨v,c,rfl,sm,d,rfl,hw⟩
  exact sm.seq p
 ·rintro j σ ys b x hx e hy ⟨v,c,rfl,sm,d,rfl,hw⟩
  obtain⟨u,i,rfl⟩:=zL hx;have q:j<us.length:=by rw[Ab] at e;exact e
  obtain⟨r,f⟩:∃r,xs[j]?=some r:=⟨_,Ah ω⟩;have hu:=kR hp j _ _ i (by rw[Ai,f];rfl);refine o u r b _ (sm _ _ hu) ?_;cases fE:pr r with
  |false=>
   refine aN (cV e hy ⟨_,c,rfl,sm,d,rfl,?_⟩);rw[AC f,AJ,Pi (by rw[fE];intro z;cases z),PM,Po];exact hw
  |true=>
   refine a6 ⟨_,rfl,bw (by rw[Ab];exact ze ω) e hy d ⟨_,c++[u],rfl,sm.then g,ag,by rw[Ak];rfl,?_⟩⟩;rw[AC f,AJ,Pj fE,PM,Ak];have ne:∀{a:Addr}{x:List V},b a=some (.tup x)->a≠D:=fun h=>a7 h d (by intro z;cases z);refine Paired.snoc (Paired.mapP hw fun a x h=>?_) ?_
   ·rw[al (ne h)];exact h
   ·rw[al (ne (sm _ _ hu))];exact sm _ _ hu
 ·rintro σ ys b ⟨v,c,rfl,sm,d,rfl,hw⟩
  rw[Ab,l,take_all] at hw;exact k b c sm d hw
abbrev Du:R2:=fun x y H Q=>y=.non/\Q (.bl (decide (x=.non))) H
abbrev t1(K:Ac)(j:Int):TE:=bC (i' K) (aw 0) (tC (.int j))
abbrev Dv(K:Ac):TT:=nJ (dN (bC ko (t1 K 0) (aw 1))) (dN (bC (eW fun i j=>.bl (decide (i<=j))) (t1 K 1) (aw 2)))
abbrev Dw(K:Ac):TT:=Ea (dN (bC Du (t1 K 2) (tC .non))) (dN (bC (eW fun i j=>.bl (decide (j<i))) (t1 K 2) (aw 1)))
def gu(hi e:Int)(x:aU):Bool:=decide (x.hi=hi/\(x.b:Int)<=e)
def jx(lt:Int)(x:aU):Bool:=match x.d with|none=>true|some t=>decide (lt<(t:Int))
def Ho{hi e:Int}(u:Addr)(x:aU)(a:Hp)(R:Bool->Hp->Prop)(h:a u=some (.tup (tri x)))(r:R (gu hi e x) a):Dv K [some (.ref u),some (.int hi),some (.int e)] a R:=by
 refine⟨_,rfl,u,_,0,_,rfl,rfl,SqT.of h,rfl,_,rfl,rfl,_,rfl,?_⟩
 by_cases c:x.hi=hi
 ·rw[Sc (by rw[c])]
  refine a6 ⟨_,rfl,u,_,1,_,rfl,rfl,SqT.of h,rfl,_,rfl,_,_,rfl,rfl,_,rfl,?_⟩;rw[show decide ((x.b:Int)<=e)=gu hi e x by unfold gu;rw[decide_eq_decide];exact⟨fun z=>⟨c,z⟩,fun z=>z.2⟩];exact r
 ·rw[Sd (fun z=>c (V.int.inj z))]
  refine aN ?_;rw[show false=gu hi e x by unfold gu;exact(Sd fun z=>c z.1).symm];exact r
def Hq{lt:Int}(u:Addr)(x:aU)(a:Hp)(R:Bool->Hp->Prop)(h:a u=some (.tup (tri x)))(r:R (jx lt x) a):Dw K [some (.ref u),some (.int lt)] a R:=by
 unfold jx at r;unfold tri at h;cases hd:x.d with
 |none=>
  rw[hd] at r h;refine⟨_,rfl,u,_,2,_,rfl,rfl,SqT.of h,rfl,rfl,_,rfl,?_⟩;exact a6 r
 |some t=>
  rw[hd] at r h;refine⟨_,rfl,u,_,2,_,rfl,rfl,SqT.of h,rfl,rfl,_,rfl,?_⟩;rw[Sd (fun z=>nomatch z)];exact aN ⟨_,rfl,u,_,2,_,rfl,rfl,SqT.of h,rfl,_,rfl,_,_,rfl,rfl,_,rfl,r⟩
def cnt(xs:List aU)(hi e lt:Int):Nat:=((xs.filter (gu hi e)).filter (jx lt)).length
def Dx(K:Ac)(Pt fN:Addr):Sp:=fun vs H Q E=>∃(l:Addr)(as:List Addr)(oo:Ξ)(p hi e lt:Int),vs=[.ref l,.int p,.int hi,.int e,.int lt]/\SqL K H l (as.map V.ref)/\Tps H as oo/\bo oo/\oo.length<=60/\isP p/\TY Pt H/\
 (∀xs H',(0<=e/\e<=lt/\lt<oo.length)->SY Pt H H'->cH p oo oo.length xs->Q (.int (cnt xs hi e lt)) H')/\
 (∀H',¬(0<=e/\e<=lt/\lt<oo.length)->SY Pt H H'->∀x,H' x=none->E (.ref x) (some fN) H')
def Hr:zm ["order","prime","high","early","late","there"] ["order","prime","high","early","late"] (zb pM):=⟨rfl,rfl,rfl,δ,rfl,δ,δ⟩
def Od{fN:Addr}(F:Fun K "lasting" "lasting" pM f fd)(B:Bt mg)(mN:mg "NoNumber"=some (.ref fN))(qN:PY K fN j_ "ValueError.__new__"=true)(Co:Cl P w K mg base aR "must_be_order" ["order"] 3 (De K))(Cp:Cl P w K mg base aR "must_be_prime" ["prime"] 1 Dg)(J:Cl P w K mg base (eQ P w) "must_be_time" ["order","time"] 1 (Hn K fN))(Cb:Cl P w K mg base aR "bars" ["order","prime"] 7 (ng K Pt)):FnOk P w K mg base (eQ P w) 8 f fd ["order","prime","high","early","late"] (Dx K Pt fN):=by
 refine F.ok1 Hr (fun vs H Q E h=>?_) (fun cdv A outer s H vs Q E hr h=>?_)
 ·obtain⟨l,as,oo,p,hi,e,lt,rfl,_⟩:=h;rfl
 ·obtain⟨l,as,oo,p,hi,e,lt,rfl,j,ht,y,fA,hp,tb,k,kE⟩:=h
  refine⟨_,za (fD (zy Co hr rfl aH (ac (pv 0) ak)))
   (za (fD (zy Cp hr rfl aH (ac (pv 1) ak)))
   (za (fD (zy J hr rfl (hY (E:=E)) (ac (pv 0) (ac (pv 3) ak))))
   (za (fD (zy J hr rfl (hY (E:=E)) (ac (pv 0) (ac (pv 4) ak))))
   (za (cT (zl kr (pv 4) (pv 3) (ax _)) (zf (GX (C:=fN) (EX:=E) rfl rfl mN qN (fun aa σ H' s' x I hx L M N=>C4 I hx L M (fun a e=>nomatch e) N))) zv)
   (za (m_ (i:=5) Hr.nd rfl (Or.inl rfl) ["order","prime","high","early","late","there"] ["bar","high","early"] [none,some 2,some 3] (zu (zy Cb hr rfl aH (ac (pv 0) (ac (pv 1) ak)))) (fun d C s₀ H₀ ex=>zi (i:=0) (cJ ["bar","high","early"]) rfl (Or.inl rfl))
    (fun d C s₀ H₀ ex=>zQ (PW.pt (uN (zl ew (zJ zZ (pv 0) zd (fun _ _=>rfl)) (pv 1) (ax _)) (uM (zl ku (zJ zZ (pv 0) zd (fun _ _=>rfl)) (pv 2) (ax _))))))
    (fun d C s₀ H₀ ex=>pv 0) (hfr:=bx (zb pM) δ) (tc:=Dv K) (te:=aw 0))
   (zf (zo (zj zh rfl B.len c5 (ac (zq ["order","prime","high","early","late","there"] ["bar","late"] [none,some 4] (zu (pv 5)) (fun d C s₀ H₀ ex=>zi (i:=0) (cJ ["bar","late"]) rfl (Or.inl rfl))
    (fun d C s₀ H₀ ex=>zQ (PW.pt (iX (zl vR (zJ zZ (pv 0) zd (fun _ _=>rfl)) kc (ax _)) (ke (zl kw (zJ zZ (pv 0) zd (fun _ _=>rfl)) (pv 1) (ax _))))))
    (fun d C s₀ H₀ ex=>pv 0) (hfr:=bx (zb pM) δ) (tc:=Dw K) (te:=aw 0)) ak))))))))),?_⟩
  have aE:=ht.length;have aO:oo.length<=200:=ω
  refine⟨_,rfl,l,as,oo,rfl,j,ht,aO,y,fun H1 b=>⟨_,rfl,p,rfl,hp,?_⟩⟩;have o:¬(0<=e/\e<=lt/\lt<oo.length)->∀x,H1 x=none->E (.ref x) (some fN) H1:=fun z x hx=>kE H1 z (Same.sf b) x hx;have q:((as.map V.ref).length:Int)=oo.length:=by rw[Ab,aE]
  refine⟨_,rfl,_,rfl,l,_,e,rfl,b.seq j,fun g=>?_,fun g x hx=>o (fun z=>g ⟨z.1,by rw[q];omega⟩) x hx⟩;refine⟨_,rfl,_,rfl,l,_,lt,rfl,b.seq j,fun g'=>?_,fun g' x hx=>o (fun z=>g' ⟨ω,by rw[q];omega⟩) x hx⟩;rw[q] at g g';refine⟨_,rfl,_,rfl,_,_,rfl,rfl,_,rfl,?_⟩
  by_cases c:lt<e
  ·rw[Sc c]
   exact a6 fun x hx=>o (fun z=>ω) x hx
  rw[Sd c];refine aN ⟨_,rfl,_,rfl,l,as,oo,p,rfl,b.seq j,b.tps ht,y,fA,hp,(Same.sf b).tab tb,fun D us xs H2 f2 c8 r hu u=>?_⟩;have G:xs.length<=1000:=by have:=Hm u;omega
  refine⟨D,rfl,⟨_,SqL.of r⟩,fun D2 O=>zt (tZ Ho (SqL.of r) hu G O fun H3 ws S v hw=>?_)⟩;refine⟨_,rfl,D2,rfl,⟨_,SqL.of v⟩,fun D4 T=>zt (tZ Hq (SqL.of v) hw (Ay (PF _ _) G) T fun H5 vs U X Y=>?_)⟩;refine⟨D4,_,rfl,.inl (SqL.of X),?_⟩;have:=k xs H5 ⟨g.1,ω,g'.2⟩ (((Same.sf b).trans f2).trans (Same.sf (S.trans U))) u;rw[Ab,Y.length,Ab];exact this
def Ht(K:Ac)(Pt fN:Addr):Sp:=fun vs H Q E=>∃(l:Addr)(as:List Addr)(oo:Ξ)(p hi e:Int),vs=[.ref l,.int p,.int hi,.int e]/\SqL K H l (as.map V.ref)/\Tps H as oo/\bo oo/\oo.length<=60/\isP p/\TY Pt H/\
 (∀xs H',(0<=e/\e<oo.length)->SY Pt H H'->cH p oo oo.length xs->Q (.int (cnt xs hi e e)) H')/\
 (∀H',¬(0<=e/\e<oo.length)->SY Pt H H'->∀x,H' x=none->E (.ref x) (some fN) H')
def Oe:zm ["order","prime","high","time"] ["order","prime","high","time"] (zb Dt):=⟨rfl,rfl,rfl,δ,rfl,δ,δ⟩
def Of{fN:Addr}(F:Fun K "alive" "alive" Dt f fd)(i:Cl P w K mg base (eQ P w) "lasting" ["order","prime","high","early","late"] 8 (Dx K Pt fN)):FnOk P w K mg base (eQ P w) 9 f fd ["order","prime","high","time"] (Ht K Pt fN):=by
 refine F.ok1 Oe (fun vs H Q E h=>?_) (fun cdv A outer s H vs Q E hr h=>?_)
 ·obtain⟨l,as,oo,p,hi,e,rfl,_⟩:=h;rfl
 ·obtain⟨l,as,oo,p,hi,e,rfl,a,ht,b,c,hp,tb,k,d⟩:=h
  refine⟨_,zf (zo (zy i hr rfl (hY (E:=E)) (ac (pv 0) (ac (pv 1) (ac (pv 2) (ac (pv 3) (ac (pv 3) ak))))))),?_⟩;exact⟨_,rfl,_,rfl,_,rfl,_,rfl,_,rfl,l,as,oo,p,hi,e,e,rfl,a,ht,b,c,hp,tb,fun xs H' g=>k xs H' ⟨g.1,g.2.2⟩,fun H' g=>d H' fun z=>g ⟨z.1,P4 _,z.2⟩⟩
end
abbrev t4:Stmt:=top 47
def t5:AV "dict"=some (.type "dict"):=δ
def t7(ts:Ch):(ksC ts).Nodup->mR ts=ts:=r_ (P:=fun ts=>(ksC ts).Nodup->mR ts=ts) (fun _=>rfl) (fun l t a h=>by
 have h':(ksC l++[t.1]).Nodup:=by
  have:ksC (l++[t])=ksC l++[t.1]:=by unfold ksC;rw[Ak];rfl
  rw[<-this];exact h
 rw[Pk] at h';have e1:mR (l++[t])=bV (mR l) t.1 t.2:=by unfold mR;rw[Qk];rfl
 rw[e1,a h'.1,CF _ (fun z=>h'.2.2 t.1 z t.1 (by simp) rfl)]) ts
def Oh(k:Nat)(n:Int):n*(1-(k:Int)%2*2)=sg k n:=by
 unfold sg
 by_cases h:(k:Int)%2=0
 ·rw[Sa h,h];simp
 ·have:(k:Int)%2=1:=ω
  rw[Sb h,this];simp
def Oi{ps:List Int}(h:ps.length=1)(n:Int):br ps n=[]:=by unfold br rims;rw[Sa h];rfl
def Oj{ps:List Int}(h:ps.length≠1)(n:Int){k:Nat}(hk:k<ps.length):(br ps n)[k]?=some (ps.take k++ps.drop (k+1),sg k n):=by
 unfold br rims;rw[Sb h,Ai,Ro,Ai,Qy hk];simp
abbrev Dy:TT:=dN (bC vL (gf (aw 1) (aw 0)) (tC (.int 0)))
abbrev pP:TE:=dk (dh (aw 0) (dh (gf (aw 1) (aw 0)) bD))
section
variable{P:Program}{w:World}{K:Ac}{mg:Str->Option Value}{base:Heap}
def Hu{H2:Hp}{L D d:Addr}{as:List Addr}{e:Ch}{Q:VK}(F:H2 L=some (.lst (as.map V.ref)))(ht:Tps H2 as (ksC e))(hd:H2 d=some (.dT (aL e)))(G:(ksC e).Nodup)(hz:e.length<=1000)(A:H2 D=none)(k:∀(b:Hp)(ts:List Addr),Same H2 b->b D=some (.lst (ts.map V.ref))->Prs b ts (e.filter dm)->Q (.ref D) b):zU (dG K L) (zK 0) Dy pP [none,some (.ref d)] H2 D Q:=by
 have y:=ht.length;rw[gr] at y;refine zE (xs:=as.map V.ref) (fun j σ ys b=>∃(v:Option V)(ts:List Addr),σ=[v,some (.ref d)]/\Same H2 b/\b D=some (.lst ys)/\ys=ts.map V.ref/\Prs b ts ((e.take j).filter dm)) ?_ ?_ ?_ ?_
 ·exact⟨none,[],rfl,Same.new A,ag,rfl,.nil⟩
 ·rintro j σ ys b ⟨v,ts,rfl,sm,l,rfl,hp⟩
  exact SqL.of (sm _ _ F)
 ·rintro j σ ys b x hx u hy ⟨v,ts,rfl,sm,l,rfl,hp⟩
  obtain⟨a,E,rfl⟩:=zL hx;obtain⟨ps,p,w⟩:=ht.get E;unfold ksC at p;rw[Ai] at p;obtain⟨c,q,rfl⟩:∃c,e[j]?=some c/\c.1=ps:=by
   cases h:e[j]? with
   |none=>rw[h] at p;cases p
   |some c=>rw[h] at p;exact⟨c,rfl,Ag p⟩
  have hsz:(as.map V.ref).length<=sizeLine:=by rw[Ab];exact ze ω
  have g:∀r,Same b r->DGet r d (.ref a) (some (.int c.2)):=fun r f=>.inr ⟨aL e,c.1.map Sum.inl,a,.inl (f _ _ (sm _ _ hd)),rfl,fz (f.tp (sm.tp w)),(zY G c (Ao q)).symm⟩;refine⟨_,rfl,_,rfl,d,_,rfl,g b (Same.refl _),rfl,_,rfl,?_⟩;cases hz0:dm c with
  |true=>
   have i:(!decide (V.int c.2=V.int 0))=true:=hz0;rw[i];refine a6 ⟨_,rfl,_,rfl,_,rfl,d,_,rfl,g b (Same.refl _),ze (by simp),fun t C=>?_⟩;have f:=Same.new (o:=.tup [.ref a,.int c.2]) C;refine bw hsz u hy (f _ _ l) ⟨_,ts++[t],rfl,(sm.trans f).then A,ag,by rw[Ak];rfl,?_⟩;rw[AC q,AJ,Pj hz0];exact Prs.upd (Prs.snoc (hp.same f) ⟨a,ag,f.tp (sm.tp w)⟩) (f _ _ l) (by intro xs z;cases z)
  |false=>
   have i:(!decide (V.int c.2=V.int 0))=false:=hz0;rw[i];refine aN (cV u hy ⟨_,ts,rfl,sm,l,rfl,?_⟩);rw[AC q,AJ,Pi (by rw[hz0];decide),PM,Po];exact hp
 ·rintro σ ys b ⟨v,ts,rfl,sm,l,rfl,hp⟩
  rw[Ab,y,take_all] at hp;exact k b ts sm l hp
def t_{H:Hp}{ts:List Addr}{cs:Ch}(h:Prs H ts cs):Paired (fun t(kv:List Key×V)=>∃b,H t=some (.tup [.ref b,kv.2])/\H b=some (.tup (kv.1.map kV))) ts (aL cs):=by
 unfold aL
 induction h with
 |nil=>exact .nil
 |cons r t ih=>
  obtain⟨b,e1,e2⟩:=r;exact .cons ⟨b,e1,fz e2⟩ ih
def Dz:Sp:=fun vs H Q _=>∃d cs,vs=[.ref d]/\Rd H d (.dT (aL cs))/\(ksC cs).Nodup/\(∀c∈cs,c.1.length<=5/\c.1≠[])/\cs.length<=100/\
 ∀D H',Same H H'->H D=none->H' D=some (.dT (aL (cX (cs.flatMap fun c=>br c.1 c.2))))->Q (.ref D) H'
def pR:zm ["chain","found","piece","k","rim"] ["chain"] (zb t4):=⟨rfl,rfl,rfl,δ,rfl,δ,δ⟩
def Ol{f:Addr}{fd:FuncData}(F:Fun K "_law_seam" "_law_seam" t4 f fd)(B:Bt mg)(jd:mg "dict"=none):FnOk P w K mg base aR 1 f fd ["chain"] Dz:=by
 refine F.ok pR (fun vs H Q E h=>?_) (fun cdv A outer s H vs Q E hr h=>?_)
 ·obtain⟨d,cs,rfl,_⟩:=h;rfl
 ·obtain⟨d,cs,rfl,hd,hnd,h5,hz,k⟩:=h
  have hu:=fK hr;have aD:=hr.units;refine⟨_,za (zk (i:=1) pR.nd rfl (Or.inr rfl) ja)
   (za (el AK rfl (zu (zp (zA rfl) rfl B.list fy (ac (pv 0) ak))) (zi (i:=2) pR.nd rfl (Or.inl rfl))
    (zf (el AK rfl (lY rfl B.range (ac (zj zh rfl B.len c5 (ac (pv 2) ak)) ak)) (zi (i:=3) pR.nd rfl (Or.inl rfl))
     (za (zk (i:=4) pR.nd rfl (Or.inl rfl) (zn q8 (iC mB (pv 2) ix (iz (pv 3))) (iC mB (pv 2) (iz (zn dL (pv 3) zd)) ix)))
     (zf (cT (zl (rf aD) (pv 4) (eZ ak) (ax _))
      (zf (hB hu (pv 1) (pv 4) (zn dL (x5 hu (pv 1) (pv 4) zd ⟨rfl,rfl,rfl,rfl⟩) (zn fW (zC hu (pv 0) (pv 2) (fun _ _=>rfl)) (zn gJ zd (zn fW (zn eX (pv 3) zd) zd)))) rfl)) zv))))))
   (zf (zo (zp (zN rfl aD) rfl jd t5 (ac
    (zq ["chain","found","piece","k","rim"] ["rim","found"] [none,some 1] (zu (zp (zA rfl) rfl B.list fy (ac (pv 1) ak))) (fun _ _ _ _ _=>zi (i:=0) (cJ ["rim","found"]) rfl (Or.inl rfl))
     (fun _ _ _ _ _=>zQ (zl jJ (zC hu (pv 1) (pv 0) (fun _ _=>rfl)) zd (ax _))) (fun _ _ _ _ _=>eZ (ac (pv 0) (ac (zC hu (pv 1) (pv 0) (fun _ _=>rfl)) ak))) (hfr:=bx (zb t4) δ) (tc:=Dy) (te:=pP)) ak))))),?_⟩
  intro S hS;have sS:=Same.new (o:=.dT []) hS;refine⟨_,rfl,d,aL cs,rfl,hd.same sS,fun bs pb L hL=>?_⟩;have tb:=hF pb;have sL:=Same.new (o:=.lst (bs.map V.ref)) hL;have uK:S≠L:=zg (ag (H:=H) (a:=S) (o:=.dT [])) hL;have jb:=tb.length;rw[gr] at jb;refine⟨L,rfl,⟨_,SqL.of ag⟩,iv (K:=K) (a:=L) (xs:=bs.map V.ref) (fun i σ H2=>∃(v2 q r:Option V),σ=[some (.ref d),some (.ref S),v2,q,r]/\Same H H2/\H2 L=some (.lst (bs.map V.ref))/\Tps H2 bs (ksC cs)/\H2 S=some (.dT (aL (bd ((cs.take i).flatMap fun c=>br c.1 c.2)))))
   ⟨none,none,none,rfl,sS.trans sL,ag,sL.tps tb,sL _ _ ag⟩ (fun i σ H2 _ ⟨_,_,_,_,_,h,_⟩=>SqL.of h) ?_ ?_⟩
  ·rintro i x σ H2 hx ⟨v2,q,r,rfl,sm,c6,jX,G⟩
   obtain⟨b,eb,rfl⟩:=zL hx;obtain⟨ps,I,bP⟩:=jX.get eb;unfold ksC at I;rw[Ai] at I;obtain⟨c,ec,rfl⟩:∃c,cs[i]?=some c/\c.1=ps:=by
    cases h:cs[i]? with
    |none=>rw[h] at I;cases I
    |some c=>rw[h] at I;exact⟨c,rfl,Ag I⟩
   have g:=Ao ec;obtain⟨fV,hcn⟩:=h5 c g;have hi:i<cs.length:=(KK.mp ec).1;refine⟨_,rfl,b,_,rfl,.inr (SqT.of bP),_,rfl,by rw[Ab];omega,by rw[Ab];omega,?_⟩;rw[Ab];refine vu (lo:=0) (n:=((c.1.length:Int)).toNat) (fun j σ v=>∃(q r:Option V),σ=[some (.ref d),some (.ref S),some (.ref b),q,r]/\Same H v/\v L=some (.lst (bs.map V.ref))/\Tps v bs (ksC cs)/\Tp v b c.1/\v S=some (.dT (aL (bd ((cs.take i).flatMap (fun c=>br c.1 c.2)++(br c.1 c.2).take j)))))
    ⟨_,_,rfl,sm,c6,jX,bP,by rw[RD,Po];exact G⟩ ?_ ?_
   ·rintro j σ v hj ⟨q,r,rfl,N,W,X,u,J⟩
    have hj':j<c.1.length:=ω
    refine⟨_,rfl,_,rfl,_,rfl,b,_,rfl,u,fun p1 H4 U ev=>⟨_,rfl,_,rfl,_,_,rfl,rfl,_,rfl,b,_,rfl,U _ _ u,fun p2 H5 bN bI=>?_⟩⟩;rw[show(0:Int)+((j:Nat):Int)=((j:Nat):Int) from ω,jo _ _ (by rw[Ab];omega),<-QZ] at ev;rw[show(0:Int)+((j:Nat):Int)+1=((j+1:Nat):Int) from ω,lA _ _ (by rw[Ab];omega),<-RT] at bI;refine⟨p1,p2,_,_,rfl,rfl,bN _ _ ev,bI,ze (by simp;omega),fun Y H6 jU cE=>?_⟩;rw[<-Ak] at cE;have s6:=(U.trans bN).trans jU;refine⟨_,rfl,ze (by simp),fun t bu=>?_⟩;have sT:=Same.new (o:=.tup []) bu;have e:=s6.trans sT;have e_:Tp _ Y (c.1.take j++c.1.drop (j+1)):=sT _ _ cE;refine .inl ⟨Y,t,_,[],rfl,rfl,e_,ag,_,rfl,?_⟩;rw[Sa rfl];have O:=e _ _ J
    by_cases h1:c.1.length=1
    ·have xm:j=0:=ω
     subst xm;have e0:c.1.take 0++c.1.drop (0+1)=[]:=by
      rw[RD,List.nil_append];exact List.drop_eq_nil_of_le ω
     rw[e0,Sc rfl];refine aN ⟨_,_,rfl,N.trans e,e _ _ W,e.tps X,e.tp u,?_⟩;rw[Oi h1,List.take_nil] at J ⊢;exact e _ _ J
    ·have hne:¬(c.1.take j++c.1.drop (j+1)=[]):=fun z=>by
      have e9:=congrArg List.length z;rw[Ap,Aw,PB,Pz] at e9;have:c.1.length≠0:=fun y=>hcn (Pf y);omega
     rw[Sd hne];have xU:=Oj h1 c.2 hj';have jV:((cs.take i).flatMap (fun c=>br c.1 c.2)++(br c.1 c.2).take j).length<=600:=by
      have:=mS (cs:=cs.take i) fun c hc=>(h5 c (QJ hc)).1;rw[Aw] at this;have h2:=si c.1 c.2;have h3:=j9 c.1;rw[Ap,Aw];omega
     have T:(aL (bd ((cs.take i).flatMap (fun c=>br c.1 c.2)++(br c.1 c.2).take j))).length<sizeLine:=by
      rw[gk];have:=pq ((cs.take i).flatMap (fun c=>br c.1 c.2)++(br c.1 c.2).take j);exact zP ω
     have uE:=(hd.same (N.trans e));refine a6 ⟨_,rfl,S,rfl,.inr ⟨_,.inl O⟩,_,rfl,_,.inr ⟨_,(c.1.take j++c.1.drop (j+1)).map Sum.inl,Y,.inl O,rfl,fz e_,rfl⟩,?_⟩;rw[CD];refine⟨_,rfl,_,rfl,d,.int c.2,rfl,.inr ⟨aL cs,c.1.map Sum.inl,b,uE,rfl,fz (e.tp u),(zY hnd c g).symm⟩,_,rfl,_,_,rfl,rfl,(by show(0:Int)<2;decide),_,_,rfl,rfl,.inr ⟨ξ,ξ⟩,_,_,rfl,rfl,_,_,rfl,rfl,.inr ⟨?_,?_⟩,_,_,rfl,rfl,_,rfl,_,rfl,S,_,rfl,DPut.t (k:=(c.1.take j++c.1.drop (j+1)).map Sum.inl) O (fz e_) T,⟨_,_,rfl,(N.trans e).then hS,?_,Tps.upd (e.tps X) O (by intro xs z;cases z),?_,?_⟩⟩
     ·show -(18446744073709551616:Int)<1-(0+(j:Int))%2*2
      omega
     ·show 1-(0+(j:Int))%2*2<(18446744073709551616:Int)
      omega
     ·rw[al (Ne.symm uK)];exact e _ _ W
     ·show upd _ S _ b=_
      rw[al (a7 (show _=some _ from e.tp u) O (by intro z;cases z))];exact e.tp u
     ·rw[ag,show(0:Int)+(j:Int)=(j:Int) from ω,Oh,mO,AC xU,<-RO,pl]
      rfl
   ·rintro σ v ⟨q,r,rfl,N,W,X,u,J⟩
    refine⟨_,_,_,rfl,N,W,X,?_⟩;rw[GC _ ec];rw[show(br c.1 c.2).take ((c.1.length:Int)).toNat=br c.1 c.2 from AB (by rw[si];have:=j9 c.1;omega)] at J;exact J
  ·rintro σ H2 ⟨v2,q,r,rfl,sm,c6,jX,G⟩
   rw[Ab,jb,take_all] at G;unfold cX at k;have hn:=sd (cs.flatMap fun c=>br c.1 c.2);have ir:=pq (cs.flatMap fun c=>br c.1 c.2);have jV:=mS (cs:=cs) fun c hc=>(h5 c hc).1;generalize bd (cs.flatMap fun c=>br c.1 c.2)=ss at G hn ir k;refine⟨_,rfl,S,aL ss,rfl,.inl G,fun es pe M hM=>⟨M,rfl,⟨_,SqL.of ag⟩,fun D hD=>zt (Hu ag ((Same.new hM).tps (hF pe)) (Same.new hM _ _ G) hn ω hD fun H4 ts U dW fq=>?_)⟩⟩;refine⟨D,ts,aL (ss.filter dm),rfl,SqL.of dW,t_ fq,fun R hR=>?_⟩;rw[sy,t7 _ (hn.sublist ((Qz (p:=dm) (l:=ss)).map _))];have s4:=(sm.trans (Same.new hM)).trans U;exact k R _ (s4.trans (Same.new hR)) (s4.free hR) ag
end
end K66
end
section
namespace Bar
section
variable{κ:Type}
def bc:List Int->List (κ->Int)->κ->Int
 |a::c,v::L=>fun u=>a*v u+bc c L u
 |_,_=>fun _=>0
def dJ(p:Nat):Nat->Ξ
 |0=>[[]]
 |n+1=>(dJ p n).flatMap fun c=>(AI p).map fun a:Nat=>(a:Int)::c
def DA(p:Nat):∀n,(dJ p n).length=p ^ n
 |0=>rfl
 |n+1=>by
  have:∀l:Ξ,(l.flatMap fun c=>(AI p).map fun a:Nat=>(a:Int)::c).length=l.length*p:=by
   intro l
   induction l with
   |nil=>simp
   |cons c l ih=>rw[Bf,Ap,Ab,QI,ih,At,Nat.add_mul];omega
  show(((dJ p n).flatMap fun c=>(AI p).map fun a:Nat=>(a:Int)::c)).length=_;rw[this,DA p n,Nat.pow_succ]
def pT{p:Nat}:∀{n:Nat}{c:List Int},c∈dJ p n↔c.length=n/\∀x∈c,0<=x/\x<(p:Int)
 |0,c=>by
  show c∈[[]]↔_;rw[Pb];constructor
  ·rintro rfl;exact⟨rfl,fun x hx=>nomatch hx⟩
  ·intro h;exact Pf h.1
 |n+1,c=>by
  show c∈(dJ p n).flatMap (fun c=>(AI p).map fun a:Nat=>(a:Int)::c)↔_;rw[Ps];constructor
  ·rintro⟨d,hd,h⟩
   obtain⟨a,ha,rfl⟩:=Bp.mp h;obtain⟨h1,h2⟩:=pT.mp hd;have:=PJ.mp ha;refine⟨by rw[At,h1],fun x hx=>?_⟩;rcases Pa.mp hx with rfl|hx
   ·omega
   ·exact h2 x hx
  ·rintro⟨h1,h2⟩
   cases c with
   |nil=>simp at h1
   |cons a d=>
    have ha:=h2 a (.head _);refine⟨d,pT.mpr ⟨by simpa using h1,fun x hx=>h2 x (.tail _ hx)⟩,Bp.mpr ⟨a.toNat,PJ.mpr ω,?_⟩⟩;rw[Int.toNat_of_nonneg ha.1]
def Hv(p:Nat):∀n,(dJ p n).Nodup
 |0=>by simp[dJ]
 |n+1=>by
  show((dJ p n).flatMap fun c=>(AI p).map fun a:Nat=>(a:Int)::c).Pairwise (·≠·);rw[List.pairwise_flatMap];refine⟨fun c _=>?_,(Hv p n).imp fun{a b} h x hx y hy e=>?_⟩
  ·rw[AS]
   exact List.nodup_range.imp fun h e=>h (by injection e with e;omega)
  ·obtain⟨i,_,rfl⟩:=Bp.mp hx
   obtain⟨j,_,rfl⟩:=Bp.mp hy;injection e with _ e
   exact h e
def Hw:∀(c d:List Int)(L:List (κ->Int)),c.length=L.length->d.length=L.length->∀u,bc (R5 (fun a b=>a-b) c d) L u=bc c L u-bc d L u
 |c,d,[],h1,h2,u=>by rw[Pf h1,Pf h2];rfl
 |[],_,_::_,h1,_,_=>by simp at h1
 |_::_,[],_::_,_,h2,_=>by simp at h2
 |a::c,b::d,v::L,h1,h2,u=>by
  show(a-b)*v u+bc _ L u=a*v u+bc c L u-(b*v u+bc d L u);rw[Hw c d L (by simpa using h1) (by simpa using h2),Int.sub_mul];omega
def Hx(p:Int):∀(c:List Int)(L:List (κ->Int))(u:κ),p ∣ bc c L u-bc (c.map (·%p)) L u
 |[],[],_=>Av _
 |[],_::_,_=>Av _
 |_::_,[],_=>Av _
 |a::c,v::L,u=>by
  show p ∣ a*v u+bc c L u-(a%p*v u+bc (c.map (·%p)) L u);have h1:=Hx p c L u;have h2:p ∣ (a-a%p)*v u:=AU ⟨a / p,by have:=Int.emod_add_mul_ediv a p;omega⟩ (Ql _ _);have:=Bg h2 h1
  rwa [show(a-a%p)*v u+(bc c L u-bc (c.map (·%p)) L u)=a*v u+bc c L u-(a%p*v u+bc (c.map (·%p)) L u) by rw[Int.sub_mul];omega] at this
def Hy(k:Int):∀(c d:List Int)(L:List (κ->Int)),c.length=L.length->d.length=L.length->∀u,bc (R5 (fun a b=>k*a+b) c d) L u=k*bc c L u+bc d L u
 |c,d,[],h1,h2,u=>by rw[Pf h1,Pf h2];show(0:Int)=k*0+0;omega
 |[],_,_::_,h1,_,_=>by simp at h1
 |_::_,[],_::_,_,h2,_=>by simp at h2
 |a::c,b::d,v::L,h1,h2,u=>by
  show(k*a+b)*v u+bc _ L u=k*(a*v u+bc c L u)+(b*v u+bc d L u);rw[Hy k c d L (by simpa using h1) (by simpa using h2),Int.add_mul,Int.mul_add,Int.mul_assoc];omega
def bY(p:Int)(B:List (κ->Int))(f:κ->Int):Prop:=∃d:List Int,d.length=B.length/\∀u,p ∣ f u-bc d B u
def DB:∀(L:List (κ->Int))(u:κ),bc (L.map fun _=>0) L u=0
 |[],_=>rfl
 |v::L,u=>by show 0*v u+bc (L.map fun _=>0) L u=0;rw[DB L u];omega
def ni{p:Int}{B:List (κ->Int)}{f:κ->Int}(h:∀u,p ∣ f u):bY p B f:=⟨B.map fun _=>0,Ab _,fun u=>by rw[DB];simpa using h u⟩
def pV{p k:Int}{B:List (κ->Int)}{f g:κ->Int}(hf:bY p B f)(i:bY p B g):bY p B fun u=>k*f u+g u:=by
 obtain⟨c,h1,h2⟩:=hf;obtain⟨d,e,h⟩:=i;refine⟨R5 (fun a b=>k*a+b) c d,by rw[List.length_zipWith];omega,fun u=>?_⟩;rw[Hy k c d B h1 e];have:=Bg (AU (h2 u) (A7 k _)) (h u)
 rwa [show k*(f u-bc c B u)+(g u-bc d B u)=k*f u+g u-(k*bc c B u+bc d B u) by rw[RP];omega] at this
def iQ{p:Int}{B:List (κ->Int)}{f g:κ->Int}(h:∀u,p ∣ f u-g u)(c:bY p B g):bY p B f:=by
 obtain⟨d,a,b⟩:=c;refine⟨d,a,fun u=>?_⟩;have:=Bg (h u) (b u)
 rwa [show f u-g u+(g u-bc d B u)=f u-bc d B u from ω] at this
def DC{p:Int}{B:List (κ->Int)}:∀(c:List Int)(A:List (κ->Int)),(∀v∈A,bY p B v)->bY p B (bc c A)
 |[],[],_=>ni fun u=>Av _
 |[],_::_,_=>ni fun u=>Av _
 |_::_,[],_=>ni fun u=>Av _
 |a::c,v::A,h=>pV (h v (.head _)) (DC c A fun w hw=>h w (.tail _ hw))
def nk{p:Int}{A B:List (κ->Int)}{f:κ->Int}(h:bY p A f)(a:∀v∈A,bY p B v):bY p B f:=by
 obtain⟨d,h1,h2⟩:=h;exact iQ h2 (DC d A a)
def lG{p:Int}:∀{B:List (κ->Int)}{v:κ->Int},v∈B->bY p B v
 |w::B,v,h=>by
  rcases Pa.mp h with rfl|h
  ·refine⟨1::B.map fun _=>0,by rw[At,Ab,At],fun u=>?_⟩
   show p ∣ v u-(1*v u+bc (B.map fun _=>0) B u);rw[DB,RQ,Int.add_zero,QF];exact Av _
  ·obtain⟨d,h1,h2⟩:=lG h
   refine⟨0::d,by rw[At,At,h1],fun u=>?_⟩;show p ∣ v u-(0*w u+bc d B u);rw[R4,Int.zero_add];exact h2 u
def DD(p:Int)(A:List (κ->Int)):Prop:=∀c:List Int,c.length=A.length->(∀u,p ∣ bc c A u)->∀x∈c,p ∣ x
def Hz{p:Int}:∀{c d:List Int},c.length=d.length->(∀x∈c,0<=x/\x<p)->(∀x∈d,0<=x/\x<p)->(∀x∈R5 (fun a b=>a-b) c d,p ∣ x)->c=d
 |[],[],_,_,_,_=>rfl
 |a::c,b::d,hl,h1,h2,h=>by
  have e:p ∣ a-b:=h _ (.head _);have f:=h1 a (.head _);have g:=h2 b (.head _);have:a=b:=by
   obtain⟨k,hk⟩:=e;have:k=0:=by
    rcases Int.lt_trichotomy k 0 with z|z|z
    ·have:p*k<=p*(-1):=Int.mul_le_mul_of_nonneg_left ω ω
     omega
    ·exact z
    ·have:p*1<=p*k:=Int.mul_le_mul_of_nonneg_left ω ω
     omega
   subst this;omega
  rw[this,Hz (by simpa using hl) (fun x hx=>h1 x (.tail _ hx)) (fun x hx=>h2 x (.tail _ hx)) fun x hx=>h x (.tail _ hx)]
def HA{p:Nat}(hp:2<=p){A B:List (κ->Int)}(ind:DD (p:Int) A)(sp:∀v∈A,bY (p:Int) B v):A.length<=B.length:=by
 have key:∀c:List Int,∃d:List Int,d.length=B.length/\(∀x∈d,0<=x/\x<(p:Int))/\∀u,(p:Int) ∣ bc c A u-bc d B u:=fun c=>by
  obtain⟨d,h1,h2⟩:=DC c A sp;refine⟨d.map (·%(p:Int)),by rw[Ab];exact h1,fun x hx=>?_,fun u=>?_⟩
  ·obtain⟨y,_,rfl⟩:=Bp.mp hx
   exact⟨PZ _ ω,Px _ ω⟩
  ·have:=Bg (h2 u) (Hx (p:Int) d B u)
   rwa [show bc c A u-bc d B u+(bc d B u-bc (d.map (·%(p:Int))) B u)=bc c A u-bc (d.map (·%(p:Int))) B u from ω] at this
 have o:((dJ p A.length).map fun c=>(key c).choose).Nodup:=by
  unfold List.Nodup;rw[AS];refine(Hv p A.length).imp_of_mem fun{a b} ha hb f e=>f ?_;obtain⟨h,i⟩:=pT.mp ha;obtain⟨j,l⟩:=pT.mp hb;refine Hz (p:=(p:Int)) ω i l (ind _ (by rw[List.length_zipWith];omega) fun u=>?_);rw[Hw a b A h j];have g:=(key a).choose_spec.2.2 u;have q:=(key b).choose_spec.2.2 u;rw[e] at g;have:=Pv g q
  rwa [show bc a A u-bc (key b).choose B u-(bc b A u-bc (key b).choose B u)=bc a A u-bc b A u from ω] at this
 have:=o.length_le_of_subset (l₂:=dJ p B.length) fun d hd=>by
  obtain⟨c,_,rfl⟩:=Bp.mp hd;exact pT.mpr ⟨(key c).choose_spec.1,(key c).choose_spec.2.1⟩
 rw[Ab,DA,DA] at this;exact(Nat.pow_le_pow_iff_right ω).mp this
end
def zl2{p:Int}:∀(c:List Int)(L:List (Nat×Ch)),Sp p L (bc c (L.map (·.2)))
 |[],[]=>fun u=>Av _
 |_::_,[]=>fun u=>Av _
 |[],_::_=>jv fun u=>Av _
 |a::c,r::L=>⟨a,pw (fun u=>by
   show p ∣ a*r.2 u+bc c (L.map (·.2)) u-a*r.2 u-bc c (L.map (·.2)) u;rw[show a*r.2 u+bc c (L.map (·.2)) u-a*r.2 u-bc c (L.map (·.2)) u=0 from ω];exact Av _) (zl2 c L)⟩
def HB{p:Int}(P:Pr p):∀{L:List (Nat×Ch)},(L.map (·.1)).Nodup->(∀r∈L,Yg p r.2 r.1)->DD p (L.map (·.2))
 |[],_,_,c,hl,_,x,hx=>by
  rw[Q8,Pz] at hl;rw[Pf hl] at hx;cases hx
 |r::L,d,hy,c,hl,hz,x,hx=>by
  rw[As,Pg] at d;cases c with
  |nil=>cases hx
  |cons a c=>
   have b:∀u,p ∣ a*r.2 u+bc c (L.map (·.2)) u:=hz;have e:=hy r (.head _);have f:p ∣ a:=Classical.byContradiction fun h=>by
    have g:Yg p (bc c (L.map (·.2))) r.1:=by
     refine⟨fun z=>?_,fun u hu=>?_⟩
     ·have:=Pv (b r.1) z
      rw[show a*r.2 r.1+bc c (L.map (·.2)) r.1-bc c (L.map (·.2)) r.1=a*r.2 r.1 from ω] at this;exact(P.two_way _ _ this).elim h e.1
     ·have:=Pv (b u) (AU (e.2 u hu) (A7 a _))
      rwa [show a*r.2 u+bc c (L.map (·.2)) u-a*r.2 u=bc c (L.map (·.2)) u from ω] at this
    rcases sp_yg P d.2 (fun q hq=>hy q (.tail _ hq)) (zl2 c L) with z|⟨q,hq,z⟩
    ·exact g.not_z z
    ·exact d.1 (Bp.mpr ⟨q,hq,z.uniq g⟩)
   have hr:∀u,p ∣ bc c (L.map (·.2)) u:=fun u=>by
    have:=Pv (b u) (AU f (Ql a (r.2 u)))
    rwa [show a*r.2 u+bc c (L.map (·.2)) u-a*r.2 u=bc c (L.map (·.2)) u from ω] at this
   rcases Pa.mp hx with rfl|hx
   ·exact f
   ·exact HB P d.2 (fun q hq=>hy q (.tail _ hq)) c (by simpa using hl) hr x hx
structure Lz(p:Int)(oo:Ξ)(A:List (Nat×(List Int->Int))):Prop where
 nd:(A.map (·.1)).Nodup
 yg:∀r∈A,Yg p (cat oo r.2) r.1
def DE(oo:Ξ):∀(c:List Int)(A:List (List Int->Int))(u:Nat),cat oo (bc c A) u=bc c (A.map (cat oo)) u
 |[],[],u=>by unfold cat;cases oo[u]?<;>rfl
 |[],_::_,u=>by unfold cat;cases oo[u]?<;>rfl
 |_::_,[],u=>by unfold cat;cases oo[u]?<;>rfl
 |a::c,v::A,u=>by
  have b:=DE oo c A u;show _=a*cat oo v u+bc c (A.map (cat oo)) u;rw[<-b];cases e:oo[u]? with
  |none=>unfold cat;rw[e];show(0:Int)=a*0+0;omega
  |some x=>rw[iL e,iL e,iL e];rfl
def Lz.ind{p:Int}(P:Pr p){oo:Ξ}{A:List (Nat×(List Int->Int))}(h:Lz p oo A):DD p (A.map (·.2)):=fun c a hz=>by
 have e:(A.map fun r=>(r.1,cat oo r.2)).map (·.1)=A.map (·.1):=by rw[Aj];rfl
 have e2:(A.map fun r=>(r.1,cat oo r.2)).map (·.2)=(A.map (·.2)).map (cat oo):=by rw[Aj,Aj];rfl
 have:=HB P (L:=A.map fun r=>(r.1,cat oo r.2)) (by rw[e];exact h.nd) (fun r hr=>by
  obtain⟨q,hq,rfl⟩:=Bp.mp hr;exact h.yg q hq)
 rw[e2] at this;refine this c (by rw[Ab];exact a) fun u=>?_;rw[<-DE];unfold cat;cases oo[u]? with
 |none=>exact Av _
 |some x=>exact hz x
def HC{p:Nat}(P:Pr (p:Int)){d e:Ξ}{A B:List (Nat×(List Int->Int))}(f:Lz p d A)(g:Lz p e B)(h1:∀r∈A,bY (p:Int) (B.map (·.2)) r.2)(h2:∀r∈B,bY (p:Int) (A.map (·.2)) r.2):A.length=B.length:=by
 have hp:2<=p:=by have:=P.two;omega
 have a:=HA hp (f.ind P) (B:=B.map (·.2)) fun v c=>by
  obtain⟨r,hr,rfl⟩:=Bp.mp c;exact h1 r hr
 have b:=HA hp (g.ind P) (B:=A.map (·.2)) fun v c=>by
  obtain⟨r,hr,rfl⟩:=Bp.mp c;exact h2 r hr
 rw[Ab,Ab] at a b;omega
end Bar
end
section
namespace MxT
open PySem PySem.Spec PyProof.Rows
def DF:∀{vs:List Value}{ns:List Int}{i:Nat},IntsAre vs ns->(h:i<vs.length)->∃n t,ns[i]?=some n/\vs[i]=.int n t
 |_,_,0,.cons n t _,_=>⟨n,t,rfl,rfl⟩
 |_,_,i+1,.cons n t r,h=>by
  obtain⟨m,t',e1,e2⟩:=DF (i:=i) r (by simpa using h);exact⟨m,t',by simpa using e1,by simpa using e2⟩
def DG:∀{vs:List Value}{ns:List Int},IntsAre vs ns->vs.length=ns.length
 |_,_,.nil=>rfl
 |_,_,.cons _ _ r=>by rw[At,At,DG r]
def Om{prog:Program}{w:World}{A:Around}{E:Ω}{s:Shared}{a c:Int}{t u:Tok}{Q:Ω}(h:Q (.bool (decide (c<a))) s):wpAny (model prog w) A (richCompare .Gt (.int a t) (.int c u)) Q E s:=gt_int h
def On(l b:Addr)(f j:Array Value)(n n2:Nat)(dd O:Option Addr)(P Q:Array (Option Value))(p q:List Int):Meets (Builtin.«tuple.__gt__» ⟨[.ref l,.ref b],[]⟩)
   (fun A R s=>s.heap.get? l=some {cls:=.type "tuple",dict:=dd,data:=.seq f n,slots:=P}/\s.heap.get? b=some {cls:=.type "tuple",dict:=O,data:=.seq j n2,slots:=Q}/\
    IntsAre f.toList p/\IntsAre j.toList q/\R (.ok (.ret (.bool (HT.lexLt q p)))) s):=
 .of_wp fun prog w A R s h=>by
  obtain⟨hp,g,d,tk,os⟩:=s;obtain⟨C,hb,i1,i2,h⟩:=h;have f2:=AutoSeq1.sub_tuple_tuple;have n1:=DG i1;have L:=DG i2;have v:(f.toList.zip j.toList).length=min f.size j.size:=by simp
  wp_walk using wpAny_loadPart' C,wpAny_loadPart' hb,wpAny_forIn_list _ (fun rest b s'=>b.1=none/\s'=⟨hp,g,d,tk,os⟩/\∃i,rest=(f.toList.zip j.toList).drop i/\i<=min f.size j.size/\
   R (.ok (.ret (.bool (HT.lexLt (q.drop i) (p.drop i))))) ⟨hp,g,d,tk,os⟩) _
  case turn=>
   rintro⟨y,x⟩ rest b s' ⟨hb',rfl,i,hz,hi,o⟩;have r:i<(f.toList.zip j.toList).length:=by
    rcases QE i (f.toList.zip j.toList).length with h'|h'
    ·exact h'
    ·rw[Rg h'] at hz;cases hz
   have hm:i<min f.size j.size:=v▸r;have h1:i<f.size:=Au hm (Nat.min_le_left _ _);have h2:i<j.size:=Au hm (Rj _ _);rw[PQ r] at hz;injection hz with hyx cD
   have hy:y=f[i]:=by have:=congrArg Prod.fst hyx;simpa using this
   have hx:x=j[i]:=by have:=congrArg Prod.snd hyx;simpa using this
   obtain⟨a,ta,D,va⟩:=DF i1 (i:=i) (by simpa using h1);obtain⟨c,tc,E,F⟩:=DF i2 (i:=i) (by simpa using h2);have hy':y=.int a ta:=by rw[hy];simpa using va
   have hx':x=.int c tc:=by rw[hx];simpa using F
   subst hy' hx';obtain⟨G,H⟩:=KK.mp D;obtain⟨I,J⟩:=KK.mp E;rw[PQ G,PQ I,H,J,HT.zx] at o;refine Aa (wpAny_eqBool_int ?_)
   by_cases e:a=c
   ·subst e
    rw[Sa rfl] at o;simp only[beq_self_eq_true]
    wp_walk
    exact⟨rfl,rfl,i+1,cD,ω,o⟩
   ·have M:(a==c)=false:=by simpa using e
    rw[Sb (fun z=>e z.symm)] at o;rw[M]
    wp_walk using Om
    exact⟨_,rfl,o⟩
  case fin=>
   rintro⟨S,T⟩ s' ⟨hb',rfl,i,hz,hi,o⟩;simp only at hb';subst hb';have N:min f.size j.size<=i:=by
    rcases QE i (f.toList.zip j.toList).length with h'|h'
    ·rw[PQ h'] at hz;cases hz
    ·exact v▸h'
   have U:i=min f.size j.size:=ω
   wp_walk
   refine⟨_,rfl,?_⟩;have e1:p.length=f.size:=by rw[<-n1];simp
   have e2:q.length=j.size:=by rw[<-L];simp
   have:HT.lexLt (q.drop i) (p.drop i)=decide (j.size<f.size):=by
    by_cases z:j.size<f.size
    ·rw[Sc z,Rg (show q.length<=i from ω)]
     have u:i<p.length:=ω
     rw[PQ u];rfl
    ·rw[Sd z,Rg (show p.length<=i from ω)]
     cases q.drop i<;>rfl
   rw[this] at o
   simpa[Builtin.Tuple.tupleCompareSizes] using o
  case h=>
   exact⟨rfl,rfl,0,rfl,AX _,by simpa using h⟩
def Oo{prog:Program}{w:World}{A:Around}{E:Ω}{s:Shared}{l b:Addr}{d e:Array Value}{a c:List Int}{Q:Ω}(r:s.heap.IsTuple l d)(hb:s.heap.IsTuple b e)(i1:IntsAre d.toList a)(i2:IntsAre e.toList c)(hu:A.units<cLine)(h:Q (.bool (HT.lexLt c a)) s):wpAny (model prog w) A (richCompare .Gt (.ref l) (.ref b)) Q E s:=by
 obtain⟨⟨cls,dd,data,o⟩,f,hc,n,hd⟩:=id r;obtain⟨⟨u,p,data2,q⟩,g,i,n2,j⟩:=id hb;simp only at hc hd i j;subst hc hd i j;exact richCompare_meets_room (op:=.Gt) ⟨_,f,rfl⟩ ⟨_,g,rfl⟩ F.slot_tuple_gt F.entry_tuple_gt (F.args_tuple_gt_2 _ _) (On l b d e n n2 dd p o q a c)
  ⟨f,g,i1,i2,show Value.bool (HT.lexLt c a)≠Value.notImplemented/\Q (.bool (HT.lexLt c a)) s from⟨(fun x=>nomatch x),h⟩⟩ hu
end MxT
namespace L2
open PySem PySem.Spec PyProof.Rows
def pW:∀{a b:List Int},HT.lexLt a b=true->HT.lexLt b a=false
 |[],[],h=>by cases h
 |[],_::_,_=>rfl
 |_::_,[],h=>by cases h
 |x::a,y::b,h=>by
  rw[HT.zx] at h ⊢
  by_cases e:x=y
  ·rw[Sa e] at h;rw[Sa e.symm];exact pW h
  ·rw[Sb e] at h;rw[Sb (fun z=>e z.symm)]
   have:=Se h;exact Sd ω
def DH:∀{a b c:List Int},HT.lexLt b a=false->HT.lexLt c b=false->HT.lexLt c a=false
 |[],_,[],_,_=>rfl
 |[],_,_::_,_,_=>rfl
 |x::a,[],_,h,_=>by cases h
 |x::a,y::b,[],_,h=>by cases h
 |x::a,y::b,z::c,h1,h2=>by
  rw[HT.zx] at h1 h2 ⊢
  by_cases e1:y=x
  ·subst e1
   rw[Sa rfl] at h1
   by_cases e2:z=y
   ·rw[Sa e2] at h2 ⊢;exact DH h1 h2
   ·rw[Sb e2] at h2 ⊢;exact h2
  ·rw[Sb e1] at h1
   have h1:=of_decide_eq_false h1
   by_cases e2:z=y
   ·rw[e2,Sb e1];exact Sd h1
   ·rw[Sb e2] at h2
    have h2:=of_decide_eq_false h2;rw[Sb ω];exact Sd ω
section
variable{X:Cx}{aa:Ψ}{σ:St}{H:Hp}{s:Shared}
def Op{l S I:Addr}{as:List Addr}{ns:Ξ}{R:Result->Shared->Prop}(hh:X.A.handled=none)(hu:X.A.units+1<cLine)(hl:SqL X.K H l (as.map V.ref))(ht:Tps H as ns)(c9:be X aa H S)(E:be X aa H I)(u:S≠I)(eV:l≠I)(hR:∀(j:Nat) a n s',Inv X aa σ H s'->as[j]?=some a->ns[j]?=some n->(∀m∈ns,HT.lexLt n m=false)->R (.ok (.ret (.ref a))) s'):∀(r j i:Nat)(s':Shared)(a:Addr)(n:List Int)(c:Nat),as.length-(j+1)=r->j+1<=as.length->Inv X aa σ H s'->s'.heap.get? S=some (seqObj "list" #[.ref a,.ref a] c)->
   s'.heap.IsListIter I l (j+1)->as[i]?=some a->ns[i]?=some n->(∀(p:Nat) m,p<=j->ns[p]?=some m->HT.lexLt n m=false)->
   codeAny (model X.prog X.w) X.A (.builtin "max.loop" ⟨[.ref I,.none,.ref S],[]⟩) R s':=by
 have aE:=ht.length;have h:(toString "max"++toString ".loop":String)="max.loop":=ξ
 have W:=Walks.list (prog:=X.prog) (w:=X.w) (A:=X.A.in1) hh I l eV (as.map Value.ref).toArray;have hsz:(as.map Value.ref).toArray.size=as.length:=by rw[Al,Ab]
 have C:∀s',Inv X aa σ H s'->s'.heap.IsList l (as.map Value.ref).toArray:=fun s' Ik=>by
  obtain⟨ae,Q,T,_⟩:=Ik.list hl;obtain rfl:=a8 Q;exact T.isList
 intro r
 induction r with
 |zero=>
  intro j i s' a n c hr hj Ik x N G J L;have U:j+1=as.length:=ω
  refine A0 Qb ?_;rw[AM AL _];show wpAny _ X.A.in1 (seqItems? (.ref S) >>= _) _ _ _;refine Aa (A8 x rfl ?_);show wpAny _ X.A.in1 (tryCatch (pyNext (.ref I)) _ >>= _) _ _ _;refine Aa (wpAny_tryCatch (W.done _ _ _ ⟨by rw[hsz,<-U];exact N,C _ Ik⟩ fun h' g y=>?_));have I1:Inv X aa σ H {s' with heap:=h',toks:=g}:=Inv.turneds (t':=g) (ch:=[I]) Ik (gh E) fun b o hb q=>y b o hb q;have D:=y S _ (by simpa using u) x;have M:=AR h' S (AH fun _=>(#[]:Array Value));show wpAny _ X.A.in1 (updateSeq S (fun _=>#[]) >>= _) _ _ _;refine Aa ?_;refine wpAny_updateSeq (s:={s' with heap:=h',toks:=g}) D rfl (Aa (wpAny_letGo (Ae ?_)));refine hR i a n _ (Inv.turneds (s:={s' with heap:=h',toks:=g}) (t':=g) (ch:=[S]) I1 (gh c9) fun b o hb q=>(M.2 b (fun z=>hb (by simp[z]))).trans q) G J fun m hm=>?_;obtain⟨p,e'⟩:=Pc.mp hm;have:=(KK.mp e').1;exact L p m ω e'
 |succ r ih=>
  intro j i s' a n c hr hj Ik x N G J L;have d:j+1<as.length:=ω
  refine A0 Qb ?_;rw[AM AL _];show wpAny _ X.A.in1 (seqItems? (.ref S) >>= _) _ _ _;refine Aa (A8 x rfl ?_);show wpAny _ X.A.in1 (tryCatch (pyNext (.ref I)) _ >>= _) _ _ _;refine Aa (wpAny_tryCatch (W.item (j+1) _ _ _ (by rw[hsz];exact d) ⟨N,C _ Ik⟩ fun v h' g hP Y y=>?_));have e1:as[j+1]?=some (as[j+1]'(d)):=Ah d;have e2:ns[j+1]?=some (ns[j+1]'ω):=Ah ω;have hv:v=.ref (as[j+1]'(d)):=by
   have:(as.map Value.ref)[j+1]?=some v:=by simpa using hP
   rw[Ai,e1] at this;exact(Ag this).symm
  subst hv;have I1:Inv X aa σ H {s' with heap:=h',toks:=g}:=Inv.turneds (t':=g) (ch:=[I]) Ik (gh E) fun b o hb q=>y b o hb q;have D:=y S _ (by simpa using u) x;generalize as[j+1]'(d)=f at e1 ⊢;generalize (ns[j+1]'ω)=n2 at e2;obtain⟨p_,iW,gG⟩:=ht.get e1;rw[e2] at iW;obtain rfl:=Ag iW;obtain⟨n',re,dP⟩:=ht.get G;rw[J] at re;obtain rfl:=Ag re;obtain⟨i1,Q,T,_⟩:=I1.tuple (SqT.of (K:=X.K) gG);obtain⟨i2,r2,p2,_⟩:=I1.tuple (SqT.of (K:=X.K) dP);show wpAny _ X.A.in1 (tryCatch (holding [.ref f,.ref f] (richCompare .Gt (.ref f) (.ref a) >>= _)) _ >>= _) _ _ _;refine Aa (wpAny_tryCatch (AD (Aa (MxT.Oo T p2 (by simpa using intsAre_of Q) (by simpa using intsAre_of r2) (by show X.A.units+1<cLine;exact hu) ?_))));refine Aa (AD (wpAny_truthy_bool ?_));refine Aa (wpAny_letGo (Ae ?_));cases hb':HT.lexLt n n2 with
  |true=>
   have M:=AR h' S (AH fun _=>#[.ref f,.ref f]);obtain⟨P,bS⟩:∃P,(h'.update S (AH fun _=>#[.ref f,.ref f])).get? S=some (seqObj "list" #[.ref f,.ref f] P):=⟨_,get?_update_seq D fun _=>#[.ref f,.ref f]⟩;simp only[if_true];refine Aa ?_;refine wpAny_updateSeq (s:={s' with heap:=h',toks:=g}) D rfl (Aa (wpAny_letGo ?_));rw[h];obtain⟨gc,db,bR,bO⟩:=id Y.1;refine Ae ⟨Bb AL _,ih (j+1) (j+1) _ f n2 P ω d (Inv.turneds (s:={s' with heap:=h',toks:=g}) (t':=g) (ch:=[S]) I1 (gh c9) fun b o hb q=>(M.2 b (fun z=>hb (by simp[z]))).trans q) bS ⟨gc,(M.2 I u.symm).trans db,bR,bO⟩ e1 e2 fun p m O em=>?_⟩
   by_cases e:p=j+1
   ·subst e
    rw[e2] at em;cases em;cases q:HT.lexLt n2 n2 with
    |false=>rfl
    |true=>rw[pW q] at q;cases q
   ·exact DH (L p m ω em) (pW hb')
  |false=>
   simp only[AG,if_false];refine Aa (wpAny_letGo ?_);rw[h];refine Ae ⟨Bb AL _,ih (j+1) i _ a n c ω d I1 D Y.1 G J fun p m O em=>?_⟩
   by_cases e:p=j+1
   ·subst e
    rw[e2] at em;cases em;exact hb'
   ·exact L p m ω em
def DI(hc:X.calm=true)(hu:X.A.units+64<cLine):dy X (.builtin "max") (fun xs H Q=>∃(l:Addr)(as:List Addr)(ns:Ξ),xs=[.ref l]/\SqL X.K H l (as.map V.ref)/\Tps H as ns/\ns≠[]/\∀(j:Nat) a n,as[j]?=some a->ns[j]?=some n->(∀m∈ns,HT.lexLt n m=false)->Q (.ref a) H):=by
 intro aa s σ H xs us Q I r h;obtain⟨l,as,ns,rfl,D,ht,oH,h⟩:=h;obtain⟨u,rfl,ru⟩:=vals1 r;cases ru;have hh:=I.ok.hd hc;have aE:=ht.length;have c:0<as.length:=by have:=List.length_pos_iff.mpr oH;omega
 have e:(toString "max"++toString ".loop":String)="max.loop":=ξ
 have i:∀s',Inv X aa σ H s'->s'.heap.IsList l (as.map Value.ref).toArray:=fun s' Ik=>by
  obtain⟨ae,r1,p1,_⟩:=Ik.list D;obtain rfl:=a8 r1;exact p1.isList
 have E:=i s I;obtain⟨ol,hol,_⟩:=id E;have i7:l<s⁻¹:=Am hol;refine call_function_tree PySem.F.kind_max PySem.F.plain_max PySem.F.entry_max (PySem.F.args_max1 _) ?_;show wpAny _ X.A.in1 (Builtin.Builtins.bindParams "max" ["key","default"] 0 ⟨[],[]⟩ >>= _) _ _ s;refine Aa (wpAny_of_eq (show Builtin.Builtins.bindParams "max" ["key","default"] 0 ⟨[],[]⟩=pure [none,none] from rfl) ?_);refine Aa (Ae ?_);refine Aa (wpAny_pyIter_list E ?_);refine Aa (wpAny_newList ?_ (AX _));rw[e];have y:(s.heap.push {cls:=.type "list_iterator",data:=.fields #[.ref l,.int 0 0]}).objs.size=s⁻¹+1:=size_push' ..;have G:l≠s⁻¹:=Ar i7;have f:(s.heap.push {cls:=.type "list_iterator",data:=.fields #[.ref l,.int 0 0]}).objs.size≠s⁻¹:=by rw[y];exact AW (QP _)
 have p:be X aa H s⁻¹:=I.fpOk (Af _) (I.hok.fresh (Af _));have J:be X aa H (s.heap.push {cls:=.type "list_iterator",data:=.fields #[.ref l,.int 0 0]}).objs.size:=I.fpOk (by rw[y];exact Qv _) (I.hok.fresh (by rw[y];exact Qv _));refine Ae ⟨Bb AL _,?_⟩;have O:Inv X aa σ H {s with heap:=(s.heap.push {cls:=.type "list_iterator",data:=.fields #[.ref l,.int 0 0]}).push (seqObj "list" #[] 0)}:=I.kept (t':=s.toks) fun b u q=>Ad _ (Ad _ q);have gI:((s.heap.push {cls:=.type "list_iterator",data:=.fields #[.ref l,.int 0 0]}).push (seqObj "list" #[] 0)).get? s⁻¹=some {cls:=.type "list_iterator",data:=.fields #[.ref l,.int 0 0]}:=
  Ad _ (An _ rfl)
 have L:((s.heap.push {cls:=.type "list_iterator",data:=.fields #[.ref l,.int 0 0]}).push (seqObj "list" #[] 0)).get? (s.heap.push {cls:=.type "list_iterator",data:=.fields #[.ref l,.int 0 0]}).objs.size=some (seqObj "list" #[] 0):=An _ rfl;have W:=Walks.list (prog:=X.prog) (w:=X.w) (A:=X.A.in1) hh s⁻¹ l G (as.map Value.ref).toArray;have hsz:(as.map Value.ref).toArray.size=as.length:=by rw[Al,Ab]
 generalize (s.heap.push {cls:=.type "list_iterator",data:=.fields #[.ref l,.int 0 0]}).objs.size=S at *;refine A0 Qb ?_;rw[AM AL _];show wpAny _ X.A.in1 (seqItems? (.ref S) >>= _) _ _ _;refine Aa (A8 L rfl ?_);show wpAny _ X.A.in1 (tryCatch (pyNext (.ref s⁻¹)) _ >>= _) _ _ _;refine Aa (wpAny_tryCatch (W.item 0 _ _ _ (by rw[hsz];exact c) ⟨⟨_,gI,rfl,rfl⟩,i _ O⟩ fun v h' g P T C=>?_));have e1:as[0]?=some (as[0]'(c)):=Ah c;have e2:ns[0]?=some (ns[0]'ω):=Ah ω;have hv:v=.ref (as[0]'(c)):=by
  have:(as.map Value.ref)[0]?=some v:=by simpa using P
  rw[Ai,e1] at this;exact(Ag this).symm
 subst hv;obtain⟨gc,db,bR,bO⟩:=id T.1;have I1:Inv X aa σ H {s with heap:=h',toks:=g}:=Inv.turneds (s:={s with heap:=(s.heap.push {cls:=.type "list_iterator",data:=.fields #[.ref l,.int 0 0]}).push (seqObj "list" #[] 0)}) (t':=g) (ch:=[s⁻¹]) O (gh p) fun b o hb q=>C b o hb q;have M:=C S _ (by simpa using f) L;generalize as[0]'(c)=d at e1 ⊢;generalize (ns[0]'ω)=n2 at e2;have N:=AR h' S (AH fun _=>#[.ref d,.ref d]);obtain⟨x,bS⟩:∃x,(h'.update S (AH fun _=>#[.ref d,.ref d])).get? S=some (seqObj "list" #[.ref d,.ref d] x):=⟨_,get?_update_seq M fun _=>#[.ref d,.ref d]⟩;show wpAny _ X.A.in1 (updateSeq S (fun _=>#[.ref d,.ref d]) >>= _) _ _ _;refine Aa ?_;refine wpAny_updateSeq (s:={s with heap:=h',toks:=g}) M rfl ?_;rw[e];refine Ae ⟨Bb AL _,Op hh ω D ht J p f G (fun j a n s' Ij U Y hb=>?_) _ 0 0 _ d n2 x rfl c (Inv.turneds (s:={s with heap:=h',toks:=g}) (t':=g) (ch:=[S]) I1 (gh J) fun b o hb q=>(N.2 b (fun z=>hb (by simp[z]))).trans q) bS ⟨gc,(N.2 _ f.symm).trans db,bR,bO⟩ e1 e2 fun j' m hj' em=>?_⟩
 ·exact⟨.ref a,H,Ij,rfl,h j a n U Y hb⟩
 ·obtain rfl:j'=0:=ω
  rw[e2] at em;cases em;cases q:HT.lexLt n2 n2 with
  |false=>rfl
  |true=>rw[pW q] at q;cases q
end
end L2
end
section
namespace K66
open K1
open PySem L2 STb
def DJ{cs:Ch}(h:(ksC cs).Nodup):(ksC (cs.filter dm)).Nodup:=(List.filter_sublist.map _).nodup h
def DK{c:List Int×Int}:dm c=true↔c.2≠0:=by
 unfold dm;simp
def fP(p:Int)(cs:Ch):Ch:=(cs.map fun c=>(c.1,c.2%p)).filter dm
def HE{p:Int}{cs:Ch}(a:(ksC cs).Nodup):(ksC (fP p cs)).Nodup:=DJ (by rw[sU];exact a)
def HF{p:Int}{cs:Ch}(a:(ksC cs).Nodup)(x:List Int):am (fP p cs) x=am cs x%p:=by
 unfold fP;rw[sr x (by rw[sU];exact a),CU (g:=fun v=>v%p) (Int.zero_emod p)]
def Oq{p:Int}(hp:0<p){cs:Ch}(a:(ksC cs).Nodup):ChP p (fP p cs):=⟨HE a,fun c hc=>by
 obtain⟨h1,h2⟩:=Pd.mp hc;obtain⟨d,hd,rfl⟩:=Bp.mp h1;have:=DK.mp h2;have:=PZ d.2 (b:=p) ω;have:=Px d.2 hp;show 1<=d.2%p/\d.2%p<p;have e:d.2%p≠0:=DK.mp h2;omega⟩
def HG{cs:Ch}{q:List Int}(h:q∈ksC (cs.filter dm)):q∈ksC cs:=by
 obtain⟨c,hc,rfl⟩:=Bp.mp h;exact Bp.mpr ⟨c,(Pd.mp hc).1,rfl⟩
def put_in{cs:Ch}{ps:List Int}{n:Int}{c:List Int×Int}(h:c∈bV cs ps n):c∈cs\/c=(ps,n):=by
 unfold bV at h;split at h
 ·obtain⟨d,hd,e⟩:=Bp.mp h
  split at e
  ·rename_i q
   exact .inr (by rw[<-e,q])
  ·exact .inl (e▸hd)
 ·rcases Pe.mp h with h|h
  ·exact .inl h
  ·exact .inr (Pb.mp h)
def Os{p:Int}{cs:Ch}{q:List Int}(h:q∈ksC (fP p cs)):q∈ksC cs:=by
 rw[<-sU (fun c=>c.2%p) cs];exact HG h
def lsK(p k:Int)(h:Ch)(c:List Int×Int):Ch:=bV h c.1 ((am h c.1-k*c.2)%p)
def ib(p k:Int)(h b:Ch):Ch:=(b.foldl (lsK p k) h).filter dm
def ud{p k:Int}:∀(b h:Ch),(ksC h).Nodup->(ksC (b.foldl (lsK p k) h)).Nodup
 |[],_,n=>n
 |c::b,h,n=>ud b _ (Go _ _ n)
def HH{p k:Int}(hp:0<p):∀(b h:Ch),(∀c∈h,0<=c.2/\c.2<p)->∀c∈b.foldl (lsK p k) h,0<=c.2/\c.2<p
 |[],_,n=>n
 |c::b,h,n=>HH hp b _ fun d hd=>by
  rcases put_in hd with hd|rfl
  ·exact n d hd
  ·exact⟨PZ _ ω,Px _ hp⟩
def lsK_key{p k:Int}:∀(b h:Ch){q:List Int},q∈ksC (b.foldl (lsK p k) h)->q∈ksC h\/q∈ksC b
 |[],_,_,n=>.inl n
 |c::b,h,q,n=>by
  rcases lsK_key b _ n with n|n
  ·rcases putC_mem n with n|rfl
   ·exact .inl n
   ·exact .inr (.head _)
  ·exact .inr (.tail _ n)
def HI{p k:Int}(x:List Int):∀(b h:Ch),(ksC b).Nodup->am (b.foldl (lsK p k) h) x=if x∈ksC b then(am h x-k*am b x)%p else am h x
 |[],h,_=>(Sb (fun z=>nomatch z)).symm
 |c::b,h,n=>by
  have a:c.1∉ksC b/\(ksC b).Nodup:=Pg.mp n;show am (b.foldl (lsK p k) (lsK p k h c)) x=_;rw[HI x b _ a.2];unfold lsK;rw[Gw];have hk:ksC (c::b)=c.1::ksC b:=rfl
  by_cases e:x=c.1
  ·subst e
   rw[Sb a.1,Sa rfl,Sa (by rw[hk];exact .head _),js n c (.head _)]
  ·rw[Sb e,hk]
   have d:am (c::b) x=am b x:=by
    unfold am;rw[List.find?_cons_of_neg (by simpa using fun z=>e z.symm)]
   by_cases hx:x∈ksC b
   ·rw[Sa hx,Sa (.tail _ hx),d]
   ·rw[Sb hx,Sb (fun z=>(Pa.mp z).elim e hx)]
def HJ{p k:Int}(hp:0<p){h b:Ch}(ok:ChP p h):ChP p (ib p k h b):=⟨DJ (ud _ _ ok.nd),fun c hc=>by
 obtain⟨h1,h2⟩:=Pd.mp hc;have:=DK.mp h2;have:=HH hp b h (fun d hd=>by have:=ok.lo d hd;omega) c h1;omega⟩
def Ot{p k:Int}(hp:0<p){h b:Ch}(ok:ChP p h)(a:(ksC b).Nodup)(x:List Int):am (ib p k h b) x=(am h x-k*am b x)%p:=by
 unfold ib;rw[sr x (ud _ _ ok.nd),HI x b h a]
 by_cases e:x∈ksC b
 ·rw[Sa e]
 ·rw[Sb e,zB e,Rb,Rc]
  have:=ok.range hp x;exact(Int.emod_eq_of_lt this.1 this.2).symm
def lsF_key{p k:Int}{h b:Ch}{q:List Int}(hq:q∈ksC (ib p k h b)):q∈ksC h\/q∈ksC b:=lsK_key b h (HG hq)
abbrev LU(U:Ξ):Prop:=U.Pairwise fun a b=>HT.lexLt a b=true
def Ou{a b c:List Int}(h:HT.lexLt a b=true)(g:HT.lexLt b c=true):HT.lexLt a c=true:=by
 cases d:HT.lexLt a c with
 |true=>rfl
 |false=>rw[DH (a:=c) (b:=a) (c:=b) d (pW h)] at g;cases g
def HK:∀(U:Ξ)(k:List Int),LU U->∃W,LU W/\W.length<=U.length+1/\∀x,x∈W↔x=k\/x∈U
 |[],k,_=>⟨[k],List.pairwise_singleton _ _,Af _,fun x=>by simp⟩
 |a::U,k,h=>by
  obtain⟨h1,h2⟩:=PK.mp h
  by_cases e:k=a
  ·exact⟨a::U,h,Qv _,fun x=>by subst e;simp⟩
  cases c:HT.lexLt k a with
  |true=>
   refine⟨k::a::U,PK.mpr ⟨fun b hb=>?_,h⟩,Af _,fun x=>by simp⟩;rcases Pa.mp hb with rfl|hb
   ·exact c
   ·exact Ou c (h1 b hb)
  |false=>
   have j:HT.lexLt a k=true:=by
    cases d:HT.lexLt a k with
    |true=>rfl
    |false=>exact absurd (rG k a c d) e
   obtain⟨W,g,i,f⟩:=HK U k h2;refine⟨a::W,PK.mpr ⟨fun b hb=>?_,g⟩,RV i,fun x=>?_⟩
   ·rcases(f b).mp hb with rfl|hb
    ·exact j
    ·exact h1 b hb
   ·rw[Pa,f,Pa]
    constructor
    ·rintro(q|q|q)
     ·exact .inr (.inl q)
     ·exact .inl q
     ·exact .inr (.inr q)
    ·rintro(q|q|q)
     ·exact .inr (.inl q)
     ·exact .inl q
     ·exact .inr (.inr q)
def HL:∀ks:Ξ,∃U,LU U/\U.length<=ks.length/\∀x,x∈U↔x∈ks
 |[]=>⟨[],List.Pairwise.nil,Af _,fun _=>Iff.rfl⟩
 |k::ks=>by
  obtain⟨U,h1,h2,a⟩:=HL ks;obtain⟨W,b,d,c⟩:=HK U k h1;exact⟨W,b,by rw[At];omega,fun x=>by rw[c,a,Pa]⟩
def Top(cs:Ch)(y:List Int):Prop:=y∈ksC cs/\∀m∈ksC cs,HT.lexLt y m=false
section
variable{p:Int}{U:Ξ}{R:List Ch}{es:List (List Int×Ch)}{row ai:Ch}{m:Nat}
def HM(h:LU U){u t:Nat}{x y:List Int}(hx:U[u]?=some x)(hy:U[t]?=some y)(l:HT.lexLt y x=false):u<=t:=by
 refine RW fun z=>?_;obtain⟨h1,rfl⟩:=KK.mp hx;obtain⟨h2,rfl⟩:=KK.mp hy;rw[Pw.mp h t u h2 h1 z] at l;cases l
def Ov(h:LU U){cs:Ch}(hp:0<p)(ok:ChP p cs){y:List Int}(tp:Top cs y){t:Nat}(ht:U[t]?=some y):Bar.Yg p (aT U cs) t:=by
 refine⟨fun z=>?_,fun u hu=>?_⟩
 ·rw[zI ht] at z
  have:=ok.at tp.1;have:=Q0 ω z;omega
 ·cases e:U[u]? with
  |none=>rw[iM (by simpa using e)];exact Av _
  |some x=>
   rw[zI e];have:x∉ksC cs:=fun hx=>by have:=HM h e ht (tp.2 x hx);omega
   rw[zB this];exact Av _
structure HdOk(p:Int)(U:Ξ)(R:List Ch)(es:List (List Int×Ch)):Prop where
 nd:(es.map (·.1)).Nodup
 ok:∀e∈es,ChP p e.2/\Top e.2 e.1/\∀q∈ksC e.2,q∈U
 sp:∀e∈es,Bar.bY p (R.map am) (am e.2)
abbrev lJ(es:List (List Int×Ch)):List (List Int->Int):=es.map fun e=>am e.2
def uf{y:List Int}(h:y∈U):U[U.idxOf y]?=some y:=by
 rw[Ah (List.idxOf_lt_length_of_mem h),List.getElem_idxOf]
def HdOk.lz(h:HdOk p U R es)(hp:0<p)(f:LU U):Bar.Lz p U (es.map fun e=>(U.idxOf e.1,am e.2)):=by
 have c:∀e∈es,e.1∈U:=fun e he=>(h.ok e he).2.2 _ (h.ok e he).2.1.1;refine⟨?_,fun r hr=>?_⟩
 ·rw[Aj]
  have:=h.nd;rw[Qa,AS] at this ⊢;refine(List.Pairwise.and_mem.mp this).imp fun{a b} ⟨ha,hb,d⟩ z=>d ?_;have e1:=uf (c a ha);have e2:=uf (c b hb);rw[show U.idxOf a.1=U.idxOf b.1 from z] at e1;exact Ag (e1.symm.trans e2)
 ·obtain⟨e,he,rfl⟩:=Bp.mp hr
  exact Ov f hp (h.ok e he).1 (h.ok e he).2.1 (uf (c e he))
def Ow:(es.map fun e=>(U.idxOf e.1,am e.2)).map (·.2)=lJ es:=by rw[Aj];rfl
structure gd(p:Int)(U:Ξ)(R:List Ch)(es:List (List Int×Ch))(row ai:Ch)(m:Nat):Prop where
 ok:ChP p ai
 u:∀q∈ksC ai,∃u,u<m/\U[u]?=some q
 s1:Bar.bY p (lJ es) fun x=>am row x-am ai x
 s2:Bar.bY p (R.map am) (am ai)
def Ox(hp:0<p)(hr:row∈R)(a:(ksC row).Nodup)(hu:∀q∈ksC row,q∈U):gd p U R es row (fP p row) U.length:=by
 refine⟨Oq hp a,fun q hq=>?_,Bar.ni fun x=>?_,Bar.iQ (fun x=>?_) (Bar.lG (Bp.mpr ⟨row,hr,rfl⟩))⟩
 ·obtain⟨u,e⟩:=Pc.mp (hu q (Os hq))
  exact⟨u,(KK.mp e).1,e⟩
 ·rw[HF a];exact mV _ _
 ·rw[HF a]
  have:=mV (am row x) p;rw[show am row x%p-am row x=-(am row x-am row x%p) from ω];exact QL.mpr this
def Oy(hp:0<p)(j:LU U)(hd:HdOk p U R es)(h:gd p U R es row ai m){y:List Int}{b:Ch}(hb:(y,b)∈es)(tp:Top ai y){k:Int}(hk:k*am b y%p=am ai y):∃u,u<m/\gd p U R es row (ib p k ai b) u:=by
 obtain⟨a,f,c⟩:=h.u y tp.1;obtain⟨g,tb,i⟩:=hd.ok _ hb;have get:=fun x=>Ot (k:=k) hp h.ok g.nd x;have d:∀x,p ∣ (am ai x-k*am b x)-am (ib p k ai b) x:=fun x=>by rw[get];exact mV _ _
 refine⟨a,f,HJ hp h.ok,fun q hq=>?_,Bar.iQ (fun x=>?_) (Bar.pV (k:=k) (Bar.lG (Bp.mpr ⟨_,hb,rfl⟩)) h.s1),Bar.iQ (fun x=>?_) (Bar.pV (k:=-k) (hd.sp _ hb) h.s2)⟩
 ·have ne:q≠y:=fun z=>by
   subst z;have h1:=(HJ (k:=k) (b:=b) hp h.ok).at hq;rw[get,<-hk] at h1;have:p ∣ (k*am b q%p-k*am b q):=by
    have:=mV (k*am b q) p;rw[show k*am b q%p-k*am b q=-(k*am b q-k*am b q%p) from ω];exact QL.mpr this
   rw[QB this] at h1;omega
  have fin:∀u,U[u]?=some q->HT.lexLt y q=false->∃u,u<a/\U[u]?=some q:=fun u e l=>by
   have:=HM j e c l;refine⟨u,Nat.lt_of_le_of_ne this fun z=>?_,e⟩;subst z;exact ne (Ag (e.symm.trans c))
  rcases lsF_key hq with hq|hq
  ·obtain⟨u,_,e⟩:=h.u q hq
   exact fin u e (tp.2 q hq)
  ·obtain⟨u,e⟩:=Pc.mp (i q hq)
   exact fin u e (tb.2 q hq)
 ·have:=d x
  rw[show am row x-am (ib p k ai b) x-(k*am b x+(am row x-am ai x))=am ai x-k*am b x-am (ib p k ai b) x from ω];exact this
 ·have:=QL.mpr (d x)
  rw[show -(am ai x-k*am b x-am (ib p k ai b) x)=am (ib p k ai b) x-(-k*am b x+am ai x) by rw[Int.neg_mul];omega] at this;exact this
def CM{e:List Int×Ch}{f:List Int->Int}(h:Bar.bY p (lJ es) f):Bar.bY p (lJ (es++[e])) f:=Bar.nk h fun v a=>by
 obtain⟨q,hq,rfl⟩:=Bp.mp a;exact Bar.lG (Bp.mpr ⟨q,Pu _ hq,rfl⟩)
def Oz(h:gd p U R es row [] m):Bar.bY p (lJ es) (am row):=Bar.iQ (fun x=>by
 show p ∣ am row x-(am row x-0);rw[Rc,QF];exact Av _) h.s1
def OA(hd:HdOk p U R es)(h:gd p U R es row ai m){y:List Int}(tp:Top ai y)(c:y∉es.map (·.1)):HdOk p U R (es++[(y,ai)])/\Bar.bY p (lJ (es++[(y,ai)])) (am row):=by
 refine⟨⟨?_,fun e he=>?_,fun e he=>?_⟩,?_⟩
 ·rw[Ak,Pk]
  refine⟨hd.nd,by simp,fun a ha b hb z=>?_⟩;obtain rfl:b=y:=by simpa using hb
  exact c (z▸ha)
 ·rcases Pe.mp he with he|he
  ·exact hd.ok e he
  ·obtain rfl:=Pb.mp he
   exact⟨h.ok,tp,fun q hq=>by obtain⟨u,_,e⟩:=h.u q hq;exact Ao e⟩
 ·rcases Pe.mp he with he|he
  ·exact hd.sp e he
  ·obtain rfl:=Pb.mp he
   exact h.s2
 ·refine Bar.iQ (fun x=>?_) (Bar.pV (k:=1) (CM (e:=(y,ai)) h.s1) (Bar.lG (Bp.mpr ⟨(y,ai),AN _ (.head _),rfl⟩)))
  show p ∣ am row x-(1*(am row x-am ai x)+am ai x);rw[show am row x-(1*(am row x-am ai x)+am ai x)=0 from ω];exact Av _
def HN(a:LU U){cs:Ch}(ok:ChP p cs)(h:∀q∈ksC cs,q∈U):cs.length<=U.length:=by
 rw[<-gr];exact ok.nd.length_le_of_subset h
end
abbrev ny:Stmt:=top 48
abbrev lK:R2:=rI (fun _ j=>0<j) fun i j=>.int (i%j)
abbrev HP:TT:=dN (bC vL (bC lK (gf (aw 1) (aw 0)) (aw 2)) (tC (.int 0)))
abbrev HQ:TE:=dk (dh (aw 0) (dh (bC lK (gf (aw 1) (aw 0)) (aw 2)) bD))
section
variable{P:Program}{w:World}{K:Ac}{mg:Str->Option Value}{base:Heap}{f:Addr}{fd:FuncData}
def OB{H2:Hp}{L D d:Addr}{as:List Addr}{e:Ch}{p:Int}{Q:VK}(A:0<p)(G:H2 L=some (.lst (as.map V.ref)))(ht:Tps H2 as (ksC e))(hd:H2 d=some (.dT (aL e)))(H:(ksC e).Nodup)(hz:e.length<=1000)(C:H2 D=none)(k:∀(b:Hp)(ts:List Addr),Same H2 b->b D=some (.lst (ts.map V.ref))->Prs b ts (fP p e)->Q (.ref D) b):zU (dG K L) (zK 0) HP HQ [none,some (.ref d),some (.int p)] H2 D Q:=by
 have y:=ht.length;rw[gr] at y;refine zE (xs:=as.map V.ref) (fun j σ ys b=>∃(v:Option V)(ts:List Addr),σ=[v,some (.ref d),some (.int p)]/\Same H2 b/\b D=some (.lst ys)/\ys=ts.map V.ref/\Prs b ts (fP p (e.take j))) ?_ ?_ ?_ ?_
 ·exact⟨none,[],rfl,Same.new C,ag,rfl,.nil⟩
 ·rintro j σ ys b ⟨v,ts,rfl,sm,i,rfl,hp⟩
  exact SqL.of (sm _ _ G)
 ·rintro j σ ys b x hx u hy ⟨v,ts,rfl,sm,i,rfl,hp⟩
  obtain⟨a,F,rfl⟩:=zL hx;obtain⟨ps,l,w⟩:=ht.get F;unfold ksC at l;rw[Ai] at l;obtain⟨c,q,rfl⟩:=P9.mp l;have hsz:(as.map V.ref).length<=sizeLine:=by rw[Ab];exact ze ω
  have g:∀r,Same b r->DGet r d (.ref a) (some (.int c.2)):=fun r f=>.inr ⟨aL e,c.1.map Sum.inl,a,.inl (f _ _ (sm _ _ hd)),rfl,fz (f.tp (sm.tp w)),(zY H c (Ao q)).symm⟩;refine⟨_,rfl,_,rfl,d,_,rfl,g b (Same.refl _),_,rfl,_,_,rfl,rfl,A,rfl,_,rfl,?_⟩;have em:fP p (e.take j++[c])=fP p (e.take j)++[(c.1,c.2%p)].filter dm:=by unfold fP;rw[Ak,AJ];rfl
  cases hz0:dm (c.1,c.2%p) with
  |true=>
   have h:(!decide (V.int (c.2%p)=V.int 0))=true:=hz0;rw[h];refine a6 ⟨_,rfl,_,rfl,_,rfl,d,_,rfl,g b (Same.refl _),_,rfl,_,_,rfl,rfl,A,ze (by simp),fun t E=>?_⟩;have f:=Same.new (o:=.tup [.ref a,.int (c.2%p)]) E;refine bw hsz u hy (f _ _ i) ⟨_,ts++[t],rfl,(sm.trans f).then C,ag,by rw[Ak];rfl,?_⟩;rw[AC q,em,Pj hz0];exact Prs.upd (Prs.snoc (hp.same f) ⟨a,ag,f.tp (sm.tp w)⟩) (f _ _ i) (by intro xs z;cases z)
  |false=>
   have h:(!decide (V.int (c.2%p)=V.int 0))=false:=hz0;rw[h];refine aN (cV u hy ⟨_,ts,rfl,sm,i,rfl,?_⟩);rw[AC q,em,Pi (by rw[hz0];decide),PM,Po];exact hp
 ·rintro σ ys b ⟨v,ts,rfl,sm,i,rfl,hp⟩
  rw[Ab,y,take_all] at hp;exact k b ts sm i hp
abbrev Hs:=List (Addr×List Int×Ch)
def ic(a:Hs):List (List Key×V):=a.map fun h=>(h.2.1.map Sum.inl,V.ref h.1)
abbrev ek(hs:Hs):List (List Int×Ch):=hs.map (·.2)
def DL(a:Hs):(ek a).map (·.1)=a.map fun h=>h.2.1:=by unfold ek;rw[Aj];rfl
def HS(a:Hs)(q:List Int):(bv (ic a) (q.map Sum.inl)).isSome=decide (q∈(ek a).map (·.1)):=by
 rw[<-oq,Qm,Qs,decide_eq_true_eq,DL];unfold ic;constructor
 ·rintro⟨kv,hm,e⟩
  obtain⟨h,hh,rfl⟩:=Bp.mp hm;exact Bp.mpr ⟨h,hh,gg.mp (Se e)⟩
 ·intro h
  obtain⟨e,he,rfl⟩:=Bp.mp h;exact⟨_,Bp.mpr ⟨e,he,rfl⟩,Sc rfl⟩
def HU:∀{a:Hs},((ek a).map (·.1)).Nodup->∀h∈a,bv (ic a) (h.2.1.map Sum.inl)=some (.ref h.1)
 |[],_,h,hc=>absurd hc (by simp)
 |d::a,n,h,hc=>by
  have c:d.2.1∉(ek a).map (·.1)/\((ek a).map (·.1)).Nodup:=Pg.mp n;rcases Pa.mp hc with rfl|hc
  ·exact og (p:=(h.2.1.map Sum.inl,V.ref h.1)) rfl
  ·have b:¬d.2.1.map Sum.inl=(h.2.1.map Sum.inl:List Key):=fun z=>c.1 (by rw[gg.mp z,DL];exact Bp.mpr ⟨h,hc,rfl⟩)
   exact(oh (p:=(d.2.1.map Sum.inl,V.ref d.1)) b).trans (HU c.2 h hc)
def OC{a:Hs}{q:List Int}{c:Addr}{cs:Ch}(h:q∉(ek a).map (·.1)):putK (ic a) (q.map Sum.inl) (.ref c)=ic (a++[(c,q,cs)]):=by
 unfold putK;rw[Sb (by
  rw[oq,HS]
  simpa using h)]
 unfold ic;rw[Ak]
 rfl
def DM{H:Hp}{L:Addr}{bs:List Addr}{ai:Ch}(d:H L=none)(e:Paired (fun(p:List Key×V) b=>H b=some (.tup (p.1.map kV))) (aL ai) bs){j:Nat}{a:Addr}{n:List Int}(f:bs[j]?=some a)(c:(ksC ai)[j]?=some n)(hm:∀m∈ksC ai,HT.lexLt n m=false):Tp (upd H L (.lst (bs.map V.ref))) a n/\Top ai n:=by
 have s:=Same.new (o:=.lst (bs.map V.ref)) d;have tb:=s.tps (hF e);obtain⟨q,eq,hq⟩:=tb.get f;rw[c] at eq;cases eq;exact⟨hq,Ao c,hm⟩
def DN{H:Hp}{c z:Addr}{ai:Ch}(hc:H c=some (.dT (aL ai)))(hz:H z=some (.dT [])):fZ H c z (decide (ai=[])):=by
 refine⟨aL ai,[],ksC ai,[],ai.map (·.2),.inl hc,.inl hz,?_,rfl,?_,?_⟩
 ·unfold aL ksC;rw[Aj,Aj];rfl
 ·unfold aL;rw[Aj,Aj];rfl
 ·cases ai with
  |nil=>exact .inl ⟨by simp,rfl,fun kv h=>nomatch h⟩
  |cons a r=>exact .inr ⟨by simp,by unfold aL;simp⟩
abbrev HV:TT:=dN (bC ko (bC lK (bC (rI CMul fun i j=>.int (i*j)) (aw 0) (gf (aw 1) (aw 2))) (aw 3)) (gf (aw 4) (aw 2)))
def OD{H2:Hp}{D o t h:Addr}{wt g p:Int}{n:Nat}{Q:VK}(f:n<=100)(hw:-(2 ^ 64)<wt/\wt<2 ^ 64)(hp:0<p)(c:H2 D=none)(d:∀a,Same H2 a->DGet a o (.ref t) (some (.int wt)))(hh:∀a,Same H2 a->DGet a h (.ref t) (some (.int g)))(k:∀a,Same H2 a->a D=some (.lst (((AI n).filter fun j:Nat=>decide ((1+(j:Int))*wt%p=g)).map fun j:Nat=>V.int (1+j)))->Q (.ref D) a):zU (ge 1 n) (zK 0) HV (aw 0) [none,some (.ref o),some (.ref t),some (.int p),some (.ref h)] H2 D Q:=by
 refine qX (fun j σ ys a=>∃(v:Option V),σ=[v,some (.ref o),some (.ref t),some (.int p),some (.ref h)]/\Same H2 a/\a D=some (.lst ys)/\ys=(((AI n).take j).filter fun j:Nat=>decide ((1+(j:Int))*wt%p=g)).map fun j:Nat=>V.int (1+j)) ?_ ?_ ?_
 ·exact⟨none,rfl,Same.new c,ag,rfl⟩
 ·rintro i σ ys a hi hy ⟨v,rfl,sm,b,rfl⟩
  have e:(AI n)[i]?=some i:=by rw[Qy hi]
  refine⟨_,rfl,_,rfl,_,rfl,o,_,rfl,d a sm,_,_,rfl,rfl,.inr hw,_,rfl,_,_,rfl,rfl,hp,_,rfl,_,rfl,h,_,rfl,hh a sm,rfl,_,rfl,?_⟩
  by_cases h:(1+(i:Int))*wt%p=g
  ·rw[Sc (congrArg V.int h)]
   refine a6 ⟨_,rfl,bw (ze ω) hi hy b ⟨_,rfl,sm.then c,ag,?_⟩⟩;rw[AC e,AJ,Pj (by exact Sc h),PM,Ak]
   rfl
  ·rw[Sd (fun z=>h (by injection z))]
   refine aN (cV hi hy ⟨_,rfl,sm,b,?_⟩);rw[AC e,AJ,Pi (by simpa using h),PM,Po]
 ·rintro σ ys a ⟨v,rfl,sm,b,rfl⟩
  rw[AB (by rw[QI];exact Af _)] at b;exact k a sm b
def HW{cs:Ch}{x y:List Int}(a:Top cs x)(b:Top cs y):x=y:=rG x y (a.2 y b.1) (b.2 x a.1)
def OE{p wt g:Int}(hp:isP p)(hw:1<=wt/\wt<p)(a:1<=g/\g<p):∃j:Nat,j<(p-1).toNat/\(1+(j:Int))*wt%p=g:=by
 obtain⟨k,k1,k2⟩:=hp.pr.1.into wt g fun z=>by have:=Q0 ω z;omega
 cases k with
 |zero=>
  rw[show(((0:Nat):Int))*wt-g=-g by simp] at k2;have:=Q0 ω (QL.mp k2);omega
 |succ j=>
  refine⟨j,ω,?_⟩;have e:(1+(j:Int))*wt=((j+1:Nat):Int)*wt-g+g:=by
   rw[show((j+1:Nat):Int)=1+(j:Int) from ω];omega
  rw[e,Int.add_emod,QB k2,Int.zero_add,Int.emod_emod,Int.emod_eq_of_lt ω a.2]
def HX(K:Ac):Sp:=fun vs H Q _=>∃(l:Addr)(ds:List Addr)(a:List Ch)(p:Int),vs=[.ref l,.int p]/\SqL K H l (ds.map V.ref)/\Paired (fun d cs=>H d=some (.dT (aL cs))) ds a/\(∀cs∈a,(ksC cs).Nodup)/\(a.flatMap ksC).length<=500/\a.length<=500/\isP p/\
 ∀U A H',Same H H'->Bar.Lz p U A->(∀r∈A,Bar.bY p (a.map am) r.2)->(∀cs∈a,Bar.bY p (A.map (·.2)) (am cs))->Q (.int A.length) H'
abbrev nR:List Str:=["rows","prime","heads","row","here","top","other","often","key"]
def jC:zm nR ["rows","prime"] (zb ny):=⟨rfl,rfl,rfl,δ,rfl,δ,δ⟩
def OF(F:Fun K "_law_rank" "_law_rank" ny f fd)(B:Bt mg)(jd:mg "dict"=none)(fI:mg "max"=none):FnOk P w K mg base aR 1 f fd ["rows","prime"] (HX K):=by
 refine F.ok jC (fun vs H Q E h=>?_) (fun cdv A outer s H vs Q E hr h=>?_)
 ·obtain⟨l,ds,v,p,rfl,_⟩:=h;rfl
 ·obtain⟨l,ds,v,p,rfl,hl,ff,hnd,BN,Bu,hp,k⟩:=h
  have hu:=fK hr;have aD:=hr.units;have fu:0<p:=by have:=hp.pr.1.two;omega
  have e_:=hp.pr.2;obtain⟨U,lu,lU,mU⟩:=HL (v.flatMap ksC);have inU:∀cs∈v,∀q∈ksC cs,q∈U:=fun cs hc q hq=>(mU q).mpr (Ps.mpr ⟨cs,hc,hq⟩);refine⟨_,za (zk (i:=2) jC.nd rfl (Or.inl rfl) ja)
   (za (el AK rfl (zu (pv 0)) (zi (i:=3) jC.nd rfl (Or.inr rfl))
    (za (zk (i:=4) jC.nd rfl (Or.inr rfl) (zp (zN rfl aD) rfl jd t5 (ac (zq nR ["key","row","prime"] [none,some 3,some 1] (zu (zp (zA rfl) rfl B.list fy (ac (pv 3) ak))) (fun _ _ _ _ _=>zi (i:=0) (cJ ["key","row","prime"]) rfl (Or.inl rfl))
     (fun _ _ _ _ _=>zQ (zl jJ (zn eX (zC hu (pv 1) (pv 0) (fun _ _=>rfl)) (pv 2)) zd (ax _))) (fun _ _ _ _ _=>eZ (ac (pv 0) (ac (zn eX (zC hu (pv 1) (pv 0) (fun _ _=>rfl)) (pv 2)) ak))) (hfr:=bx (zb ny) δ) (tc:=HP) (te:=HQ)) ak)))
    (za (vl AK (PW.pt (uN (zl (G6 aD) (pv 4) ja (ax _)) (uM (D_ (xS hu (zj (DI rfl aD) rfl fI pL (ac (zp (zA rfl) rfl B.list fy (ac (pv 4) ak)) ak)) (pv 2)) (by with_unfolding_all rfl)))))
     (za (zk (i:=5) jC.nd rfl (Or.inr rfl) (zj (DI rfl aD) rfl fI pL (ac (zp (zA rfl) rfl B.list fy (ac (pv 4) ak)) ak)))
     (za (zk (i:=6) jC.nd rfl (Or.inr rfl) (zC hu (pv 2) (pv 5) (fun _ _=>rfl)))
     (za (zk (i:=7) jC.nd rfl (Or.inl rfl) (zJ zS (zq nR ["k","other","top","prime","here"] [none,some 6,some 5,some 1,some 4] (Jd rfl B.range (ac zd (ac (pv 1) ak))) (fun _ _ _ _ _=>zi (i:=0) (cJ ["k","other","top","prime","here"]) rfl (Or.inl rfl))
      (fun _ _ _ _ _=>zQ (zl ew (zn eX (zn fW (pv 0) (zC hu (pv 1) (pv 2) (fun _ _=>rfl))) (pv 3)) (zC hu (pv 4) (pv 2) (fun _ _=>rfl)) (ax _))) (fun _ _ _ _ _=>pv 0) (hfr:=bx (zb ny) δ) (tc:=HV) (te:=aw 0)) zd (fun _ _=>rfl)))
     (za (el AK rfl (zu (zp (zA rfl) rfl B.list fy (ac (pv 6) ak))) (zi (i:=8) jC.nd rfl (Or.inl rfl))
      (zf (hB hu (pv 4) (pv 8) (zn eX (zn gJ (x5 hu (pv 4) (pv 8) zd ⟨rfl,rfl,rfl,rfl⟩) (zn fW (pv 7) (zC hu (pv 6) (pv 8) (fun _ _=>rfl)))) (pv 1)) rfl)))
     (zf (zk (i:=4) jC.nd rfl (Or.inr rfl) (zp (zN rfl aD) rfl jd t5 (ac (zq nR ["key","here"] [none,some 4] (zu (zp (zA rfl) rfl B.list fy (ac (pv 4) ak))) (fun _ _ _ _ _=>zi (i:=0) (cJ ["key","here"]) rfl (Or.inl rfl))
      (fun _ _ _ _ _=>zQ (zl jJ (zC hu (pv 1) (pv 0) (fun _ _=>rfl)) zd (ax _))) (fun _ _ _ _ _=>eZ (ac (pv 0) (ac (zC hu (pv 1) (pv 0) (fun _ _=>rfl)) ak))) (hfr:=bx (zb ny) δ) (tc:=Dy) (te:=pP)) ak)))))))))
    (zf (cT (zl (G6 aD) (pv 4) ja (ax _)) (zf (hB hu (pv 2) (zj (DI rfl aD) rfl fI pL (ac (zp (zA rfl) rfl B.list fy (ac (pv 4) ak)) ak)) (pv 4) rfl)) zv)))))
   (zf (zo (zj C_ rfl B.len c5 (ac (pv 2) ak))))),?_⟩
  intro hd sO;have aE:ds.length=v.length:=ff.length;have s0:=Same.new (o:=.dT []) sO;refine⟨_,rfl,l,rfl,⟨_,s0.seq hl⟩,iv (K:=K) (a:=l) (xs:=ds.map V.ref) (fun i σ H2=>∃(I:Hs)(v3 v4 v5 v6 v7 O:Option V),σ=[some (.ref l),some (.int p),some (.ref hd),v3,v4,v5,v6,v7,O]/\Same H H2/\H2 hd=some (.dT (ic I))/\(∀h∈I,H2 h.1=some (.dT (aL h.2.2))/\h.1≠hd)/\I.length<=i/\HdOk p U v (ek I)/\∀cs∈v.take i,Bar.bY p (lJ (ek I)) (am cs))
   ⟨[],none,none,none,none,none,none,rfl,s0,ag,(fun h z=>nomatch z),Af _,⟨PV,(fun e z=>nomatch z),(fun e z=>nomatch z)⟩,fun cs z=>nomatch z⟩ (fun i σ H2 _ ⟨_,_,_,_,_,_,_,_,sm,_⟩=>sm.seq hl) ?_ ?_⟩
  ·rintro i x σ H2 hx ⟨I,v3,v4,v5,v6,v7,O,rfl,sm,c_,T,yf,HD,done⟩
   obtain⟨d,ed,rfl⟩:=zL hx;have hi:i<v.length:=by have:=(KK.mp ed).1;omega
   obtain⟨row,er⟩:∃r,v[i]?=some r:=⟨_,Ah hi⟩;have fF:=Ao er;have aI:H2 d=some (.dT (aL row)):=sm _ _ (kR ff i _ _ ed er);have mK:=hnd row fF;have tj:row.length<=500:=by
    have:=(List.sublist_flatten_of_mem (Bp.mpr ⟨row,fF,rfl⟩):(ksC row).Sublist (v.map ksC).flatten).length_le;rw[<-List.flatMap_def,gr] at this;omega
   refine⟨_,rfl,d,aL row,rfl,.inl aI,fun bs pb L hL=>⟨L,rfl,⟨_,SqL.of ag⟩,fun D hD=>zt (OB fu ag ((Same.new hL).tps (hF pb)) (Same.new hL _ _ aI) mK ω hD fun H3 ts s3 ah cE=>?_)⟩⟩;refine⟨D,ts,aL (fP p row),rfl,SqL.of ah,t_ cE,fun c0 gF=>?_⟩;rw[sy,t7 _ (HE mK)];have qq:=(Same.new hL).trans s3;have ik:=qq.trans (Same.new (o:=.dT (aL (fP p row))) gF);have gC:∀{c:Addr},H2 c=none->hd≠c:=fun e z=>by subst z;rw[c_] at e;cases e
   have ne_hs:∀{c:Addr},H2 c=none->∀h∈I,h.1≠c:=fun e h hh z=>by subst z;rw[(T h hh).1] at e;cases e
   refine⟨fun m σ H4=>∃(ai:Ch)(c:Addr)(v5 v6 v7 O:Option V),σ=[some (.ref l),some (.int p),some (.ref hd),some (.ref d),some (.ref c),v5,v6,v7,O]/\Same H2 H4/\H2 c=none/\H4 c=some (.dT (aL ai))/\gd p U v (ek I) row ai m,
    ⟨U.length,fP p row,c0,_,_,_,_,rfl,ik,qq.free gF,ag,Ox fu fF mK (inU row fF)⟩,?_⟩
   rintro m σ H4 ⟨ai,c,v5,v6,v7,O,rfl,s4,hc,o9,HR⟩;have jI:=HR.ok;have lh:ai.length<=500:=Ay (HN lu jI fun q hq=>by obtain⟨u,_,e⟩:=HR.u q hq;exact Ao e) ω;refine⟨_,rfl,fun z hz=>⟨c,z,_,rfl,rfl,DN (Same.new hz _ _ o9) ag,_,rfl,?_⟩⟩;have sz:=Same.new (o:=.dT []) hz
   by_cases J:ai=[]
   ·rw[Sc J]
    refine aN ?_;refine aN ?_;have s5:=s4.trans sz;refine⟨_,rfl,fun z2 hX=>⟨c,z2,_,rfl,rfl,DN (Same.new hX _ _ (sz _ _ o9)) ag,_,rfl,?_⟩⟩;rw[Sc J];have S:=s5.trans (Same.new (o:=.dT []) hX);refine aN ⟨I,_,_,_,_,_,_,rfl,sm.trans S,S _ _ c_,fun h hh=>⟨S _ _ (T h hh).1,(T h hh).2⟩,ω,HD,fun cs hcs=>?_⟩;rw[AC er] at hcs;rcases Pe.mp hcs with hcs|hcs
    ·exact done cs hcs
    ·obtain rfl:=Pb.mp hcs
     subst J;exact Oz HR
   rw[Sd J];have qK:=sz _ _ o9;refine a6 ⟨_,rfl,c,aL ai,rfl,.inl qK,fun rM qZ L1 fm=>⟨L1,rM,ksC ai,rfl,SqL.of ag,(Same.new fm).tps (hF qZ),fun z=>J (QT.mp z),fun j1 a0 y ux uI gM=>?_⟩⟩;obtain⟨gb,ty⟩:=DM fm qZ ux uI gM;refine⟨_,rfl,hd,_,rfl,.inr ⟨ic I,y.map Sum.inl,a0,.inl (Same.new fm _ _ (sz _ _ (s4 _ _ c_))),rfl,fz gb,rfl⟩,_,rfl,?_⟩;have rj:=Same.new (o:=.lst (rM.map V.ref)) fm;have s5:=s4.trans (sz.trans rj);have fV:=rj _ _ qK;rw[HS]
   by_cases hy:y∈(ek I).map (·.1)
   ·rw[Sc hy]
    refine a6 ⟨_,fun ao H' h=>h,?_⟩;refine⟨_,rfl,c,aL ai,rfl,.inl fV,fun gK jE L2 c6=>⟨L2,gK,ksC ai,rfl,SqL.of ag,(Same.new c6).tps (hF jE),fun z=>J (QT.mp z),fun j2 a G oj nA gj=>?_⟩⟩;obtain⟨ha,oP⟩:=DM c6 jE oj nA gj;obtain rfl:=HW ty oP;have iE:=Same.new (o:=.lst (gK.map V.ref)) c6;have S:=s5.trans iE;have jk:=iE _ _ fV;generalize upd _ L2 (.lst (gK.map V.ref))=H6 at iE S jk ha;rw[DL] at hy;obtain⟨h,hh,ey⟩:=Bp.mp hy;obtain⟨o,G,b⟩:=h;obtain rfl:G=y:=ey;have hb:(G,b)∈ek I:=Bp.mpr ⟨_,hh,rfl⟩;obtain⟨ig,tb,ub⟩:=HD.ok _ hb;have ho:H6 o=some (.dT (aL b)):=S _ _ (T _ hh).1;have lb:b.length<=500:=Ay (HN lu ig ub) ω;have wb:1<=am b G/\am b G<p:=ig.at tb.1;have wh:=jI.at ty.1;have gO:∀Y,Same H6 Y->DGet Y o (.ref a) (some (.int (am b G))):=fun Y N=>.inr ⟨aL b,G.map Sum.inl,a,.inl (N _ _ ho),rfl,fz (N.tp ha),(by
     obtain⟨cc,df,e⟩:=Bp.mp tb.1;have e:cc.1=G:=e;rw[<-e,js ig.nd cc df];exact(zY ig.nd cc df).symm)⟩
    have gH:∀Y,Same H6 Y->DGet Y c (.ref a) (some (.int (am ai G))):=fun Y N=>.inr ⟨aL ai,G.map Sum.inl,a,.inl (N _ _ jk),rfl,fz (N.tp ha),(by
     obtain⟨cc,df,e⟩:=Bp.mp ty.1;rw[<-e,js jI.nd cc df];exact(zY jI.nd cc df).symm)⟩
    refine⟨_,rfl,_,rfl,hd,_,rfl,.inr ⟨ic I,G.map Sum.inl,a,.inl (S _ _ c_),rfl,fz ha,(HU HD.nd _ hh).symm⟩,?_⟩;refine⟨_,rfl,1,p,rfl,⟨ω,ω,ω,ω⟩,fun D2 bb=>zt (OD (wt:=am b G) (g:=am ai G) ω ⟨ω,ω⟩ fu bb gO gH fun Y N gw=>?_)⟩;obtain⟨j0,j1,j2⟩:=OE hp wb wh;have hm:j0∈(AI (p-1).toNat).filter fun j:Nat=>decide ((1+(j:Int))*am b G%p=am ai G):=Pd.mpr ⟨PJ.mpr j1,Sc j2⟩;cases e:(AI (p-1).toNat).filter fun j:Nat=>decide ((1+(j:Int))*am b G%p=am ai G) with
    |nil=>rw[e] at hm;cases hm
    |cons j r=>
    have hj:j∈(AI (p-1).toNat).filter fun j:Nat=>decide ((1+(j:Int))*am b G%p=am ai G):=by rw[e];exact .head _
    obtain⟨j3,j4⟩:=Pd.mp hj;have j5:=PJ.mp j3;have j6:(1+(j:Int))*am b G%p=am ai G:=Se j4;rw[e] at gw;refine⟨D2,_,0,.int (1+j),rfl,rfl,SqL.of gw,gS (j:=0) rfl,?_⟩;have gv:=N _ _ jk;have vG:=N _ _ ho;have uz:=S.trans N;refine⟨_,rfl,o,aL b,rfl,.inl vG,fun lE yI L3 fc=>?_⟩;have o6:=Same.new (o:=.lst (lE.map V.ref)) fc;have cM:=o6.tps (hF yI);have cL:c≠L3:=zg gv fc;have qL:=cM.length;rw[gr] at qL;refine⟨L3,rfl,⟨_,SqL.of ag⟩,iv (K:=K) (a:=L3) (xs:=lE.map V.ref) (fun i σ H8=>∃(O:Option V),σ=[some (.ref l),some (.int p),some (.ref hd),some (.ref d),some (.ref c),some (.ref a),some (.ref o),some (.int (1+j)),O]/\Same H2 H8/\H8 L3=some (.lst (lE.map V.ref))/\Tps H8 lE (ksC b)/\H8 c=some (.dT (aL ((b.take i).foldl (lsK p (1+j)) ai)))/\((b.take i).foldl (lsK p (1+j)) ai).length<=500+i)
     ⟨_,rfl,uz.trans o6,ag,cM,o6 _ _ gv,by simpa using lh⟩ (fun i σ H8 _ ⟨_,_,_,h,_⟩=>SqL.of h) ?_ ?_⟩
    ·rintro i x σ H8 hx ⟨O,rfl,s8,kf,mv,W,gX⟩
     obtain⟨q0,xQ,rfl⟩:=zL hx;obtain⟨ps,aY,bP⟩:=mv.get xQ;unfold ksC at aY;rw[Ai] at aY;obtain⟨cc,ec,rfl⟩:=P9.mp aY;have hi':i<b.length:=(KK.mp ec).1;have hmem:=Ao ec;refine⟨_,rfl,c,rfl,.inr ⟨_,.inl W⟩,_,rfl,_,.inr ⟨_,cc.1.map Sum.inl,q0,.inl W,rfl,fz bP,rfl⟩,?_⟩;rw[CD];refine⟨_,rfl,_,rfl,_,rfl,o,.int cc.2,rfl,.inr ⟨aL b,cc.1.map Sum.inl,q0,.inl (s8 _ _ (T _ hh).1),rfl,fz bP,(zY ig.nd cc hmem).symm⟩,_,_,rfl,rfl,.inl ⟨ω,ω⟩,_,_,rfl,rfl,_,rfl,_,_,rfl,rfl,fu,_,rfl,_,rfl,c,_,rfl,DPut.t (k:=cc.1.map Sum.inl) W (fz bP) (zP (by rw[gk];omega)),⟨_,rfl,s8.then hc,?_,Tps.upd mv W (by intro xs z;cases z),?_,?_⟩⟩
     ·rw[al (Ne.symm cL)];exact kf
     ·rw[ag,mO,AC ec,Qk]
      rfl
     ·rw[AC ec,Qk]
      show(bV _ cc.1 _).length<=_;have:=Gq ((b.take i).foldl (lsK p (1+j)) ai) cc.1 ((am ((b.take i).foldl (lsK p (1+j)) ai) cc.1-(1+(j:Int))*cc.2)%p);omega
    ·rintro σ H8 ⟨O,rfl,s8,kf,mv,W,gX⟩
     rw[Ab,qL,take_all] at W gX;have nX:=ud (p:=p) (k:=1+j) b ai jI.nd;have XF:ib p (1+j) ai b=(b.foldl (lsK p (1+j)) ai).filter dm:=rfl;obtain⟨u,xB,oF⟩:=Oy fu lu HD HR hb ty j6;rw[XF] at oF;generalize b.foldl (lsK p (1+j)) ai=X at W gX nX oF;refine⟨_,rfl,c,aL X,rfl,.inl W,fun es pe M hM=>⟨M,rfl,⟨_,SqL.of ag⟩,fun D3 ah=>zt (Hu ag ((Same.new hM).tps (hF pe)) (Same.new hM _ _ W) nX ω ah fun H9 ts s9 nC uA=>?_)⟩⟩;refine⟨D3,ts,aL (X.filter dm),rfl,SqL.of nC,t_ uA,fun R hR=>?_⟩;rw[sy,t7 _ (DJ nX)];have mQ:=(s8.trans (Same.new hM)).trans s9;exact⟨u,xB,X.filter dm,R,_,_,_,_,rfl,mQ.trans (Same.new hR),mQ.free hR,ag,oF⟩
   ·rw[Sd hy]
    refine aN ?_;refine⟨_,rfl,fun z2 hX=>⟨c,z2,_,rfl,rfl,DN (Same.new hX _ _ fV) ag,_,rfl,?_⟩⟩;have sj:=Same.new (o:=.dT []) hX;rw[Sd J];have S:=s5.trans sj;have jk:=sj _ _ fV;refine a6 ⟨_,rfl,_,rfl,_,rfl,c,aL ai,rfl,.inl jk,fun gK jE L2 c6=>⟨L2,gK,ksC ai,rfl,SqL.of ag,(Same.new c6).tps (hF jE),fun z=>J (QT.mp z),fun j2 a G oj nA gj=>?_⟩⟩;obtain⟨ha,oP⟩:=DM c6 jE oj nA gj;obtain rfl:=HW ty oP;have iE:=Same.new (o:=.lst (gK.map V.ref)) c6;have N:=S.trans iE;have gv:=iE _ _ jk;generalize upd _ L2 (.lst (gK.map V.ref))=Y at iE N gv ha;obtain⟨w5,yt⟩:=OA HD HR ty hy;have l9:=N _ _ c_;refine⟨hd,_,rfl,DPut.t (k:=y.map Sum.inl) l9 (fz ha) (zP (by unfold ic;rw[Ab];omega)),I++[(c,y,ai)],_,_,_,_,_,_,rfl,(sm.trans N).then sO,?_,fun h hh=>?_,by rw[Ap];simp;omega,?_,fun cs hcs=>?_⟩
    ·rw[ag,OC (cs:=ai) hy]
    ·rcases Pe.mp hh with hh|hh
     ·exact⟨by rw[al (T h hh).2];exact N _ _ (T h hh).1,(T h hh).2⟩
     ·obtain rfl:=Pb.mp hh
      exact⟨by rw[al (Ne.symm (gC hc))];exact gv,Ne.symm (gC hc)⟩
    ·rw[show ek (I++[(c,y,ai)])=ek I++[(y,ai)] by unfold ek;rw[Ak];rfl]
     exact w5
    ·rw[show ek (I++[(c,y,ai)])=ek I++[(y,ai)] by unfold ek;rw[Ak];rfl]
     rw[AC er] at hcs;rcases Pe.mp hcs with hcs|hcs
     ·exact CM (done cs hcs)
     ·obtain rfl:=Pb.mp hcs
      exact yt
  ·rintro σ H2 ⟨I,v3,v4,v5,v6,v7,O,rfl,sm,c_,T,yf,HD,done⟩
   rw[Ab,aE,take_all] at done;refine⟨_,rfl,hd,_,rfl,.inl c_,?_⟩;have:=k U ((ek I).map fun e=>(U.idxOf e.1,am e.2)) H2 sm (HD.lz fu lu) (fun r hr=>by
    obtain⟨e,he,rfl⟩:=Bp.mp hr;exact HD.sp e he) (fun cs hcs=>by rw[Ow];exact done cs hcs)
   rw[Ab,Ab] at this;unfold ic;rw[Ab];exact this
end
section
variable{p:Int}{oo:Ξ}{xs:List aU}
def HY:∀{L:List (Nat×Bar.Ch)}{f:Bar.Ch},Bar.Sp p L f->Bar.bY p (L.map (·.2)) f
 |[],f,h=>⟨[],rfl,fun u=>by
   show p ∣ f u-0;rw[Rc];exact h u⟩
 |r::L,f,⟨a,h⟩=>by
  obtain⟨d,b,hd⟩:=HY h;refine⟨a::d,by simpa using b,fun u=>?_⟩;have:=hd u;rw[show f u-Bar.bc (a::d) ((r::L).map (·.2)) u=f u-a*r.2 u-Bar.bc d (L.map (·.2)) u by
   show f u-(a*r.2 u+Bar.bc d (L.map (·.2)) u)=_;omega]
  exact this
def DO{κ:Type}{A B:List (κ->Int)}{f:κ->Int}(h:Bar.bY p A f)(b:∀v∈A,v∈B\/∀u,p ∣ v u):Bar.bY p B f:=Bar.nk h fun v a=>(b v a).elim Bar.lG Bar.ni
def cy{κ:Type}(m:κ->Bool)(f:κ->Int):κ->Int:=fun u=>if m u=true then f u else 0
def HZ{κ:Type}(m:κ->Bool):∀(d:List Int)(B:List (κ->Int))(u:κ),Bar.bc d (B.map (cy m)) u=cy m (Bar.bc d B) u
 |[],[],u=>by unfold cy;split<;>rfl
 |[],_::_,u=>by unfold cy;split<;>rfl
 |_::_,[],u=>by unfold cy;split<;>rfl
 |a::d,v::B,u=>by
  have b:=HZ m d B u;show a*cy m v u+Bar.bc d (B.map (cy m)) u=_;rw[b];unfold cy
  by_cases h:m u=true
  ·rw[Sa h,Sa h,Sa h];rfl
  ·rw[Sb h,Sb h,Sb h];omega
def DP{κ:Type}(m:κ->Bool){B:List (κ->Int)}{f:κ->Int}(h:Bar.bY p B f):Bar.bY p (B.map (cy m)) (cy m f):=by
 obtain⟨d,a,hd⟩:=h;refine⟨d,by rw[Ab];exact a,fun u=>?_⟩;rw[HZ];unfold cy;split
 ·exact hd u
 ·exact Av _
def H_{y:List Int}:∀(d:List Int)(A:List (List Int->Int)),(∀v∈A,v y=0)->Bar.bc d A y=0
 |[],[],_=>rfl
 |[],_::_,_=>rfl
 |_::_,[],_=>rfl
 |a::d,v::A,h=>by
  show a*v y+Bar.bc d A y=0;rw[h v (.head _),H_ d A fun w hw=>h w (.tail _ hw),Rb];rfl
def OG{A:List (List Int->Int)}{f:List Int->Int}(h:Bar.bY p (A.map (Bar.cat oo)) (Bar.cat oo f))(c:∀v∈A,∀y,y∉oo->v y=0)(hf:∀y,y∉oo->p ∣ f y):Bar.bY p A f:=by
 obtain⟨d,b,hd⟩:=h;refine⟨d,by rw[b,Ab],fun y=>?_⟩
 by_cases hy:y∈oo
 ·obtain⟨u,e⟩:=Pc.mp hy
  have:=hd u;rw[<-Bar.DE,Bar.iL e,Bar.iL e] at this;exact this
 ·rw[H_ d A fun v a=>c v a y hy,Rc]
  exact hf y hy
abbrev sq(q:List Int):List Int->Int:=am (jt [(q,1)])
def OH(q y:List Int):sq q y=tau q y:=by
 show am (jt [(q,1)]) y=_;rw[pu,GE];show 1*tau q y+0=_;omega
def Ia(O:d0 oo){cs:Ch}(a:∀q∈ksC cs,q∈oo){y:List Int}(hy:y∉oo):p ∣ lin cs y:=by
 refine PH ?_;rw[<-CY];refine zB fun z=>hy ?_;obtain⟨c,hc,hr⟩:=sW z;exact O.rim _ (a _ (Bp.mpr ⟨c,hc,rfl⟩)) _ hr
def gA(e:Nat)(x:aU):Bool:=match x.d with|some t=>decide (t<=e)|none=>false
def pX{e:Nat}{x:aU}:gA e x=true↔∃t,x.d=some t/\t<=e:=by
 unfold gA;cases x.d with
 |none=>simp
 |some t=>simp
abbrev dU(e:Nat)(h:Int)(x:aU):Bool:=gA e x&&decide (x.hi=h)
def Ib(R:cH p oo oo.length xs){x:aU}(hx:x∈xs){y:List Int}(hy:y∉oo):am x.c y=0:=zB fun z=>hy ((R.ok x hx).ci y z).1
def OI{q y:List Int}(h:(y.length:Int)≠(q.length:Int)-1):p ∣ sq q y:=by
 refine PH ?_;show am (jt [(q,1)]) y%p=0;rw[pu,<-CY];refine zB fun z=>h ?_;obtain⟨c,hc,hr⟩:=sW z;obtain rfl:=Pb.mp hc;have:=GU hr;show(y.length:Int)=(q.length:Int)-1;have this:y.length+1=q.length:=this;omega
def Ie(P:Bar.Pr p)(O:d0 oo)(R:cH p oo oo.length xs){q:List Int}{t e:Nat}(ht:oo[t]?=some q)(te:t<=e)(he:e<oo.length):Bar.bY p ((xs.filter (dU e ((q.length:Int)-2))).map fun x=>am x.c) (sq q):=by
 have hq:=Ao ht;have b:∀z∈ksC [(q,(1:Int))],z∈oo:=fun z hz=>by
  obtain rfl:z=q:=by simpa[ksC] using hz
  exact hq
 have f:(ksC [(q,(1:Int))]).Nodup:=by simp[ksC]
 have bl:Bar.Bl p (aT oo [(q,1)]) (e+1):=fun u hu=>by
  cases eu:oo[u]? with
  |none=>rw[iM (by simpa using eu)];exact Av _
  |some y=>
   rw[zI eu];rw[zB fun z=>?_]
   ·exact Av _
   ·obtain rfl:y=q:=by simpa[ksC] using z
    have:=(PR (KK.mp eu).1 O.nd).mp (eu.trans ht.symm);omega
 have i:=HY (Bar.pz P (Bar.lD p oo tau) R.rows (e+1) ω _ bl);have j:Bar.bY p ((xs.filter (gA e)).map fun x=>am x.c) (sq q):=by
  refine OG (oo:=oo) ?_ (fun v a y hy=>?_) fun y hy=>?_
  ·refine DO (Bar.iQ (fun u=>?_) i) fun v a=>.inl ?_
   ·cases eu:oo[u]? with
    |none=>
     rw[Bar.CT (by simpa using eu)];have:Bar.sm oo tau (aT oo [(q,1)]) u=0:=by unfold Bar.sm;rw[eu]
     rw[this,QF];exact Av _
    |some y=>
     have:=CZ O f b eu;have this:Bar.sm oo tau (aT oo [(q,1)]) u=lin [(q,1)] y:=this;rw[Bar.iL eu,this];show p ∣ am (jt [(q,1)]) y-_;rw[pu,QF];exact Av _
   ·obtain⟨r,hr,rfl⟩:=Bp.mp a
    obtain⟨x,hx,d,g,ld,rfl⟩:=Bar.dl_mem.mp hr;obtain⟨z,hz,rfl⟩:=Bp.mp hx;rw[Aj];exact Bp.mpr ⟨z,Pd.mpr ⟨hz,pX.mpr ⟨d,g,ω⟩⟩,rfl⟩
  ·obtain⟨x,hx,rfl⟩:=Bp.mp a
   exact Ib R (Pd.mp hx).1 hy
  ·show p ∣ am (jt [(q,1)]) y
   rw[pu];exact Ia O b hy
 have l:=DP (fun y:List Int=>decide ((y.length:Int)=(q.length:Int)-1)) j;refine Bar.iQ (fun y=>?_) (DO l fun v a=>?_)
 ·unfold cy
  by_cases h:(y.length:Int)=(q.length:Int)-1
  ·rw[Sa (Sc h),QF];exact Av _
  ·rw[Sb (fun z=>h (Se z)),Rc];exact OI h
 ·rw[Aj] at a
  obtain⟨x,hx,rfl⟩:=Bp.mp a;obtain⟨hx,hd⟩:=Pd.mp hx
  by_cases hh:x.hi=(q.length:Int)-2
  ·left
   refine Bp.mpr ⟨x,Pd.mpr ⟨hx,by rw[AF];exact⟨hd,Sc hh⟩⟩,funext fun y=>?_⟩;show am x.c y=cy _ (am x.c) y;unfold cy;split
   ·rfl
   ·rename_i z
    exact zB fun w=>z (Sc (by have:=((R.ok x hx).ci y w).2;omega))
  ·right
   intro y;show p ∣ cy _ (am x.c) y;unfold cy;split
   ·rename_i z
    have z:=Se z;rw[zB fun w=>hh (by have:=((R.ok x hx).ci y w).2;omega)];exact Av _
   ·exact Av _
def Ig{B:List (List Int->Int)}:∀(cs:Ch),(∀c∈cs,sq c.1∈B)->Bar.bY p B (lin cs)
 |[],_=>Bar.ni fun u=>Av _
 |c::cs,h=>by
  have:=Bar.pV (k:=c.2) (Bar.lG (p:=p) (h c (.head _))) (Ig cs fun d hd=>h d (.tail _ hd));refine Bar.iQ (fun u=>?_) this;rw[GE,OH,QF];exact Av _
abbrev upto(oo:Ξ)(e:Nat)(s:Int):Ξ:=(oo.take (e+1)).filter fun q=>decide ((q.length:Int)=s)
def io{e:Nat}{s:Int}{q:List Int}:q∈upto oo e s↔(∃t,t<=e/\oo[t]?=some q)/\(q.length:Int)=s:=by
 unfold upto;rw[Pd,decide_eq_true_eq,Pc];constructor
 ·rintro⟨⟨t,ht⟩,e⟩
  rw[List.getElem?_take] at ht;split at ht
  ·exact⟨⟨t,ω,ht⟩,e⟩
  ·cases ht
 ·rintro⟨⟨t,h,ht⟩,e⟩
  exact⟨⟨t,by rw[List.getElem?_take,Sa ω];exact ht⟩,e⟩
def Ih(O:d0 oo)(R:cH p oo oo.length xs){x:aU}(hx:x∈xs){t e:Nat}(hd:x.d=some t)(te:t<=e):Bar.bY p ((upto oo e (x.hi+2)).map sq) (am x.c):=by
 have o:=(hV R hx).gone t hd;obtain⟨f,b⟩:=(R.ok x hx).g t hd;refine Bar.iQ (fun y=>?_) (Ig x.g fun c hc=>?_)
 ·by_cases hy:y∈oo
  ·obtain⟨u,a⟩:=Pc.mp hy
   have h1:=o.2.2.2 u;have h1:p ∣ So oo (aT oo x.g) u-aT oo x.c u:=h1;rw[CZ O f.nd (fun q hq=>(b q hq).1) a,zI a] at h1;have:=QL.mpr h1
   rwa [show -(lin x.g y-am x.c y)=am x.c y-lin x.g y from ω] at this
  ·rw[Ib R hx hy,Int.zero_sub]
   exact QL.mpr (Ia O (fun q hq=>(b q hq).1) hy)
 ·have hk:c.1∈ksC x.g:=Bp.mpr ⟨c,hc,rfl⟩
  obtain⟨h,i⟩:=b c.1 hk;obtain⟨u,a⟩:=Pc.mp h;have yg:Bar.Yg p (aT oo x.g) t:=o.2.2.1;have:=GT f yg hk a;exact Bp.mpr ⟨c.1,io.mpr ⟨⟨u,ω,a⟩,i⟩,rfl⟩
def isP.nat(h:isP p):∃n:Nat,p=(n:Int):=by
 rcases h with rfl|rfl|rfl|rfl
 ·exact⟨2,rfl⟩
 ·exact⟨3,rfl⟩
 ·exact⟨5,rfl⟩
 ·exact⟨7,rfl⟩
def DQ(R:cH p oo oo.length xs)(F:aU->Bool):((xs.filter F).map (·.b)).Nodup:=by
 have:(xs.map (·.b)).Nodup:=R.srt.imp fun h=>ω
 exact this.sublist (List.filter_sublist.map _)
def Ii(hp:isP p)(O:d0 oo)(R:cH p oo oo.length xs){e:Nat}{s:Int}(he:e<oo.length){U:Ξ}{A:List (Nat×(List Int->Int))}(g:Bar.Lz p U A)(h1:∀r∈A,Bar.bY p ((upto oo e s).map sq) r.2)(h2:∀q∈upto oo e s,Bar.bY p (A.map (·.2)) (sq q)):A.length=(xs.filter (dU e (s-2))).length:=by
 have P:=hp.pr.1;obtain⟨n,rfl⟩:=hp.nat;have f:Bar.Lz (n:Int) oo ((xs.filter (dU e (s-2))).map fun x=>(x.b,am x.c)):=by
  refine⟨by rw[Aj];exact DQ R _,fun r hr=>?_⟩;obtain⟨x,hx,rfl⟩:=Bp.mp hr;exact(hV R (Pd.mp hx).1).yg
 have e2:((xs.filter (dU e (s-2))).map fun x=>(x.b,am x.c)).map (·.2)=(xs.filter (dU e (s-2))).map fun x=>am x.c:=by rw[Aj];rfl
 have:=Bar.HC P g f (fun r hr=>?_) fun r hr=>?_
 ·rw[this,Ab]
 ·rw[e2]
  refine Bar.nk (h1 r hr) fun v a=>?_;obtain⟨q,hq,rfl⟩:=Bp.mp a;obtain⟨⟨t,te,ht⟩,d⟩:=io.mp hq;have:=Ie P O R ht te he
  rwa [d] at this
 ·obtain⟨x,hx,rfl⟩:=Bp.mp hr
  obtain⟨hx,hk⟩:=Pd.mp hx;obtain⟨hd,hh⟩:=Pm.mp hk;obtain⟨t,ht,te⟩:=pX.mp hd;have hh:=Se hh;have:=Ih O R hx ht te;rw[hh,show s-2+2=s from ω] at this;refine Bar.nk this fun v a=>?_;obtain⟨q,hq,rfl⟩:=Bp.mp a;exact h2 q hq
abbrev nt(nY:Ξ)(y:List Int):Bool:=decide (y∉nY)
def OJ(hp:isP p)(O:d0 oo)(R:cH p oo oo.length xs){e lt:Nat}{h:Int}(o:lt<oo.length){U:Ξ}{A:List (Nat×(List Int->Int))}(C:Bar.Lz p U A)(h1:∀r∈A,Bar.bY p ((upto oo lt (h+2)).map fun q=>cy (nt (upto oo e (h+1))) (sq q)) r.2)(h2:∀q∈upto oo lt (h+2),Bar.bY p (A.map (·.2)) (cy (nt (upto oo e (h+1))) (sq q))):A.length=(xs.filter fun x=>dU lt h x&&decide (e<x.b)).length:=by
 have P:=hp.pr.1;obtain⟨n,rfl⟩:=hp.nat;have em:(upto oo lt (h+2)).map (fun q=>cy (nt (upto oo e (h+1))) (sq q))=((upto oo lt (h+2)).map sq).map (cy (nt (upto oo e (h+1)))):=by rw[Aj];rfl
 rw[em] at h1;have l:Bar.Lz (n:Int) oo ((xs.filter fun x=>dU lt h x&&decide (e<x.b)).map fun x=>(x.b,cy (nt (upto oo e (h+1))) (am x.c))):=by
  refine⟨by rw[Aj];exact DQ R _,fun r hr=>?_⟩;obtain⟨x,hx,rfl⟩:=Bp.mp hr;obtain⟨hx,hk⟩:=Pd.mp hx;have hb:=Se (Pm.mp hk).2;have yg:Bar.Yg (n:Int) (aT oo x.c) x.b:=(hV R hx).yg;obtain⟨y,f,hy⟩:=C1 yg;refine⟨fun z=>yg.1 ?_,fun u hu=>?_⟩
  ·have z:(n:Int) ∣ Bar.cat oo (cy (nt (upto oo e (h+1))) (am x.c)) x.b:=z
   rw[Bar.iL f] at z;unfold cy at z;have nm:y∉upto oo e (h+1):=fun w=>by
    obtain⟨⟨t,te,ht⟩,_⟩:=io.mp w;have:=(PR (KK.mp f).1 O.nd).mp (f.trans ht.symm);omega
   rw[Sa (Sc nm)] at z;rw[zI f];exact z
  ·have k:=yg.2 u hu
   show(n:Int) ∣ Bar.cat oo (cy (nt (upto oo e (h+1))) (am x.c)) u;cases d:oo[u]? with
   |none=>rw[Bar.CT (by simpa using d)];exact Av _
   |some w=>
    rw[zI d] at k;rw[Bar.iL d];unfold cy;split
    ·exact k
    ·exact Av _
 have e2:((xs.filter fun x=>dU lt h x&&decide (e<x.b)).map fun x=>(x.b,cy (nt (upto oo e (h+1))) (am x.c))).map (·.2)=(xs.filter fun x=>dU lt h x&&decide (e<x.b)).map fun x=>cy (nt (upto oo e (h+1))) (am x.c):=by rw[Aj];rfl
 have:=Bar.HC P C l (fun r hr=>?_) fun r hr=>?_
 ·rw[this,Ab]
 ·rw[e2]
  refine Bar.nk (h1 r hr) fun v a=>?_;obtain⟨w,hw,rfl⟩:=Bp.mp a;obtain⟨q,hq,rfl⟩:=Bp.mp hw;obtain⟨⟨t,te,ht⟩,i⟩:=io.mp hq;have g:=Ie P O R ht te o;rw[i,show h+2-2=h from ω] at g;refine DO (DP (nt (upto oo e (h+1))) g) fun v a=>?_;rw[Aj] at a;obtain⟨x,hx,rfl⟩:=Bp.mp a;obtain⟨hx,hk⟩:=Pd.mp hx
  by_cases hb:e<x.b
  ·exact .inl (Bp.mpr ⟨x,Pd.mpr ⟨hx,Pm.mpr ⟨hk,Sc hb⟩⟩,rfl⟩)
  ·right
   intro y;show(n:Int) ∣ cy _ (am x.c) y;unfold cy;split
   ·rename_i z
    have z:=Se z;rw[zB fun w=>z ?_]
    ·exact Av _
    ·obtain⟨hy,j⟩:=(R.ok x hx).ci y w
     obtain⟨u,d⟩:=Pc.mp hy;have:=GT (R.ok x hx).c (hV R hx).yg w d;have this:u<=x.b:=this;have:=Se (Pm.mp hk).2;exact io.mpr ⟨⟨u,ω,d⟩,by rw[j,this]⟩
   ·exact Av _
 ·obtain⟨x,hx,rfl⟩:=Bp.mp hr
  obtain⟨hx,hk⟩:=Pd.mp hx;obtain⟨hd,hh⟩:=Pm.mp (Pm.mp hk).1;obtain⟨t,ht,te⟩:=pX.mp hd;have hh:=Se hh;have:=Ih O R hx ht te;rw[hh] at this;refine Bar.nk (DP (nt (upto oo e (h+1))) this) fun v a=>?_;obtain⟨w,hw,rfl⟩:=Bp.mp a;obtain⟨q,hq,rfl⟩:=Bp.mp hw;exact h2 q hq
abbrev iV(e:Nat)(h:Int)(x:aU):Bool:=decide (x.hi=h)&&decide (x.b<=e)
def pY(O:d0 oo){t:Nat}{q:List Int}(h:oo[t]?=some q):oo.idxOf q=t:=by
 have:=uf (U:=oo) (Ao h);exact(PR (KK.mp this).1 O.nd).mp (this.trans h.symm)
def many(O:d0 oo)(R:cH p oo oo.length xs){e:Nat}(s:Int)(he:e<oo.length):(upto oo e s).length=(xs.filter (iV e (s-1))).length+(xs.filter (dU e (s-2))).length:=by
 have l:((upto oo e s).map oo.idxOf).Nodup:=by
  have o:(upto oo e s).Nodup:=(O.nd.sublist (List.take_sublist _ _)).sublist Qz;rw[Qa,AS];refine(List.Pairwise.and_mem.mp o).imp fun{a b} ⟨ha,hb,j⟩ z=>j ?_;obtain⟨⟨t,_,ht⟩,_⟩:=io.mp ha;obtain⟨⟨u,_,hu⟩,_⟩:=io.mp hb;rw[pY O ht,pY O hu] at z;subst z;exact Ag (ht.symm.trans hu)
 have i:∀{x:aU},x∈xs.filter (dU e (s-2))->x∈xs/\∃t,x.d=some t/\t<=e/\x.hi=s-2:=fun{x} hx=>by
  obtain⟨hx,hk⟩:=Pd.mp hx;obtain⟨hd,hh⟩:=Pm.mp hk;obtain⟨t,ht,te⟩:=pX.mp hd;exact⟨hx,t,ht,te,Se hh⟩
 have v:((xs.filter (iV e (s-1))).map (·.b)++(xs.filter (dU e (s-2))).map fun x=>x.d.getD 0).Nodup:=by
  rw[Pk];refine⟨DQ R _,?_,fun a ha b hb z=>?_⟩
  ·rw[Qa,AS]
   have:=R.srt;rw[AS] at this;refine(List.Pairwise.and_mem.mp (this.sublist (Qz (p:=dU e (s-2))))).imp fun{a b} ⟨ha,hb,j⟩ z=>?_;obtain⟨ha,t,ta,_⟩:=i ha;obtain⟨hb,u,tb,_⟩:=i hb;rw[ta,tb] at z;have z:t=u:=z;subst z;have:=congrArg Bar.Row.b (R.rows.two _ (Bp.mpr ⟨a,ha,rfl⟩) _ (Bp.mpr ⟨b,hb,rfl⟩) t ta tb);have this:a.b=b.b:=this;omega
  ·obtain⟨x,hx,rfl⟩:=Bp.mp ha
   obtain⟨y,hy,rfl⟩:=Bp.mp hb;obtain⟨hy,t,ty,_⟩:=i hy;rw[ty] at z;have z:x.b=t:=z;exact R.rows.one _ (Bp.mpr ⟨x,(Pd.mp hx).1,rfl⟩) _ (Bp.mpr ⟨y,hy,rfl⟩) (by show y.d=some x.b;rw[ty,z])
 have f:∀{x:aU}{t:Nat},x∈xs->x.d=some t->∃y,oo[t]?=some y/\(y.length:Int)=x.hi+2:=fun{x t} hx hd=>by
  have yg:Bar.Yg p (aT oo x.g) t:=((hV R hx).gone t hd).2.2.1;obtain⟨y,c,hy⟩:=C1 yg;exact⟨y,c,(((R.ok x hx).g t hd).2 y hy).2⟩
 have h:∀{x:aU},x∈xs->∃y,oo[x.b]?=some y/\(y.length:Int)=x.hi+1:=fun{x} hx=>by
  obtain⟨y,c,hy⟩:=pE R hx;exact⟨y,c,((R.ok x hx).ci y hy).2⟩
 have w:=l.length_le_of_subset (l₂:=(xs.filter (iV e (s-1))).map (·.b)++(xs.filter (dU e (s-2))).map fun x=>x.d.getD 0) fun t ht=>by
  obtain⟨q,hq,rfl⟩:=Bp.mp ht;obtain⟨⟨t,te,ht⟩,C⟩:=io.mp hq;rw[pY O ht];rcases R.rows.all t ω with ⟨r,hr,e'⟩|⟨r,hr,e'⟩
  ·obtain⟨x,hx,rfl⟩:=Bp.mp hr
   have e':x.b=t:=e';subst e';obtain⟨y,c,hy⟩:=h hx;rw[ht] at c;cases c;exact Pu _ (Bp.mpr ⟨x,Pd.mpr ⟨hx,Pm.mpr ⟨Sc ω,Sc te⟩⟩,rfl⟩)
  ·obtain⟨x,hx,rfl⟩:=Bp.mp hr
   have e':x.d=some t:=e';obtain⟨y,c,hy⟩:=f hx e';rw[ht] at c;cases c;exact AN _ (Bp.mpr ⟨x,Pd.mpr ⟨hx,Pm.mpr ⟨pX.mpr ⟨t,e',te⟩,Sc ω⟩⟩,by rw[e'];rfl⟩)
 have A:=v.length_le_of_subset (l₂:=(upto oo e s).map oo.idxOf) fun t ht=>by
  rcases Pe.mp ht with ht|ht
  ·obtain⟨x,hx,rfl⟩:=Bp.mp ht
   obtain⟨hx,hk⟩:=Pd.mp hx;obtain⟨h1,h2⟩:=Pm.mp hk;have h1:=Se h1;have h2:=Se h2;obtain⟨y,c,hy⟩:=h hx;exact Bp.mpr ⟨y,io.mpr ⟨⟨x.b,h2,c⟩,ω⟩,pY O c⟩
  ·obtain⟨x,hx,rfl⟩:=Bp.mp ht
   obtain⟨hx,t,ht,te,hh⟩:=i hx;obtain⟨y,c,hy⟩:=f hx ht;rw[ht];exact Bp.mpr ⟨y,io.mpr ⟨⟨t,te,c⟩,ω⟩,pY O c⟩
 rw[Ap,Ab,Ab,Ab] at w A;omega
def part(F G:aU->Bool):∀L:List aU,(L.filter F).length=(L.filter fun x=>F x&&G x).length+(L.filter fun x=>F x&&!G x).length
 |[]=>rfl
 |x::L=>by
  have a:=part F G L;cases f:F x<;>cases g:G x<;>simp[f,g]<;>omega
def OK(e lt:Nat)(h:Int):((cnt xs h e lt:Nat):Int)=((xs.filter (iV e h)).length:Int)-(((xs.filter (dU lt h)).length:Int)-((xs.filter fun x=>dU lt h x&&decide (e<x.b)).length:Int)):=by
 have a:=part (iV e h) (gA lt) xs;have p2:=part (dU lt h) (fun x=>decide (e<x.b)) xs;have e1:(xs.filter fun x=>iV e h x&&gA lt x)=xs.filter fun x=>dU lt h x&&!decide (e<x.b):=by
  refine List.filter_congr fun x _=>?_;rw[show(!decide (e<x.b))=decide (x.b<=e) by rw[<-decide_not];exact decide_eq_decide.mpr ω];show(decide (x.hi=h)&&decide (x.b<=e)&&gA lt x)=(gA lt x&&decide (x.hi=h)&&decide (x.b<=e));cases gA lt x<;>cases decide (x.hi=h)<;>cases decide (x.b<=e)<;>rfl
 have e2:cnt xs h e lt=(xs.filter fun x=>iV e h x&&!gA lt x).length:=by
  unfold cnt;rw[RH]
  congr 1
  refine List.filter_congr fun x _=>?_;have c:jx lt x=!gA lt x:=by
   unfold jx gA;cases x.d with
   |none=>rfl
   |some t=>
    show decide ((lt:Int)<(t:Int))=!decide (t<=lt);rw[<-decide_not];exact decide_eq_decide.mpr ω
  have f:gu h e x=iV e h x:=by
   unfold gu;show decide (x.hi=h/\(x.b:Int)<=(e:Int))=(decide (x.hi=h)&&decide (x.b<=e));rw[<-Bool.decide_and];exact decide_eq_decide.mpr ω
  rw[c,f,Bool.and_comm]
 rw[e2];rw[e1] at a;omega
end
abbrev nB:Stmt:=top 49
section
variable{P:Program}{w:World}{K:Ac}{mg:Str->Option Value}{base:Heap}{f:Addr}{fd:FuncData}
abbrev DR(K:Ac)(j:Int):TT:=dN (bC ko (jM (B9 K) (dh (aw 0) bD)) (bC (eW fun i j=>.int (i+j)) (aw 1) (tC (.int j))))
def Il{H2:Hp}{L D:Addr}{as:List Addr}{kn:Ξ}{Q:VK}{h j:Int}(d:SqL K H2 L (as.map V.ref))(ht:Tps H2 as kn)(hz:kn.length<=1000)(e:H2 D=none)(k:∀a bs,Same H2 a->a D=some (.lst (bs.map V.ref))->Tps a bs (kn.filter fun q=>decide ((q.length:Int)=h+j))->Q (.ref D) a):zU (dG K L) (zK 0) (DR K j) (aw 0) [none,some (.int h)] H2 D Q:=by
 refine Cf (p:=fun q=>decide ((q.length:Int)=h+j)) (fun o os H' R sm b _ c=>⟨_,rfl,o,_,rfl,.inr (SqT.of b),_,rfl,_,_,rfl,rfl,rfl,_,rfl,?_⟩) d ht hz e k;have:=c H' (Same.refl _);rw[Ab];rw[show decide ((os.length:Int)=h+j)=decide (V.int (os.length:Int)=V.int (h+j)) from decide_eq_decide.mpr ⟨fun z=>by rw[z],fun z=>by injection z⟩] at this;exact this
abbrev bB(q:List Int):Ch:=jt [(q,1)]
abbrev DS:TE:=n6 Dz [] E0 (dh (G4 (aw 0) (tC (.int 1))) bD)
abbrev Dcs(H:Hp)(ds:List Addr)(rows:List Ch):Prop:=Paired (fun d cs=>H d=some (.dT (aL cs))) ds rows
def Dcs.same{H H':Hp}{ds:List Addr}{c:List Ch}(h:Dcs H ds c)(s:Same H H'):Dcs H' ds c:=Paired.mapP h fun a b e=>s _ _ e
def Dcs.put{H:Hp}{ds:List Addr}{c:List Ch}(h:Dcs H ds c){L:Addr}{ys zs:List V}(e:H L=some (.lst ys)):Dcs (upd H L (.lst zs)) ds c:=Paired.mapP h fun a b q=>by
 rw[al (a7 q e (by intro z;cases z))];exact q
def Im{H2:Hp}{L D:Addr}{as:List Addr}{kn:Ξ}{Q:VK}(F:SqL K H2 L (as.map V.ref))(ht:Tps H2 as kn)(G:∀q∈kn,q.length<=5/\q≠[])(hz:kn.length<=500)(i:H2 D=none)(k:∀b ds,Same H2 b->b D=some (.lst (ds.map V.ref))->Dcs b ds (kn.map bB)->Q (.ref D) b):zU (dG K L) (zK 0) cQ DS [none] H2 D Q:=by
 have w:=ht.length;refine zE (xs:=as.map V.ref) (fun j σ ys b=>∃(v:Option V)(ds:List Addr),σ=[v]/\Same H2 b/\b D=some (.lst ys)/\ys=ds.map V.ref/\Dcs b ds ((kn.take j).map bB)) ?_ ?_ ?_ ?_
 ·exact⟨none,[],rfl,Same.new i,ag,rfl,.nil⟩
 ·rintro j σ ys b ⟨v,ds,rfl,sm,e,rfl,hp⟩
  exact sm.seq F
 ·rintro j σ ys b x hx r hy ⟨v,ds,rfl,sm,e,rfl,hp⟩
  obtain⟨a,u,rfl⟩:=zL hx;obtain⟨q,eq,hq⟩:=ht.get u;have y:=Ao eq;refine dv ?_;intro g h;have A:=Same.new (o:=.dT []) h;refine⟨_,rfl,a,q.map Sum.inl,.int 1,rfl,ag,by rw[Aj];exact A.tp (sm.tp hq),?_⟩;rw[DZ];have C:=Same.new (o:=.dT [((q.map Sum.inl:List Key),V.int 1)]) h;have E:upd b g (.dT [((q.map Sum.inl:List Key),V.int 1)]) g=some (.dT (aL [(q,1)])):=ag;refine⟨g,[(q,1)],rfl,.inl E,by simp[ksC],fun c hc=>by rw[Pb.mp hc];exact G q y,by simp,fun d I l H p=>?_⟩;have f:=C.trans l;refine bw (by rw[Ab];exact ze ω) r hy (f _ _ e) ⟨_,ds++[d],rfl,(sm.trans f).then i,ag,by rw[Ak];rfl,?_⟩;rw[AC eq,Ak];exact Dcs.put (Paired.snoc (hp.same f) p) (f _ _ e)
 ·rintro σ ys b ⟨v,ds,rfl,sm,e,rfl,hp⟩
  rw[Ab,w,take_all] at hp;exact k b ds sm e hp
abbrev Io(K:Ac):TT:=dN (bC (fj true K) (aw 0) (aw 2))
abbrev eT(on:Ξ)(ss:Ch):Ch:=ss.filter fun c=>nt on c.1
def Ip{on:Ξ}{a:Ch}(h:(ksC a).Nodup):(ksC (eT on a)).Nodup:=(List.filter_sublist.map _).nodup h
def Iq{on:Ξ}(x:List Int):∀(a:Ch),am (eT on a) x=cy (nt on) (am a) x
 |[]=>by unfold cy;split<;>rfl
 |c::a=>by
  have b:=Iq (on:=on) x a;unfold cy at b ⊢;have d:nt on c.1=true->eT on (c::a)=c::eT on a:=fun m=>Pj (p:=fun c:List Int×Int=>nt on c.1) m;have fn:¬nt on c.1=true->eT on (c::a)=eT on a:=fun m=>Pi (p:=fun c:List Int×Int=>nt on c.1) m
  by_cases e:c.1=x
  ·have g1:∀l:Ch,am (c::l) x=c.2:=fun l=>by unfold am;rw[List.find?_cons_of_pos (by simpa using e)];rfl
   by_cases m:nt on c.1=true
   ·rw[Sa (e▸m),g1,d m,g1]
   ·rw[fn m,b,Sb (e▸m),Sb (e▸m)]
  ·have g1:∀l:Ch,am (c::l) x=am l x:=fun l=>by unfold am;rw[List.find?_cons_of_neg (by simpa using e)]
   by_cases m:nt on c.1=true
   ·rw[d m,g1,g1];exact b
   ·rw[fn m,g1];exact b
def OL{H2:Hp}{L D d O:Addr}{as os:List Addr}{e:Ch}{on:Ξ}{Q:VK}(A:H2 L=some (.lst (as.map V.ref)))(ht:Tps H2 as (ksC e))(hd:H2 d=some (.dT (aL e)))(C:SqL K H2 O (os.map V.ref))(E:Tps H2 os on)(F:(ksC e).Nodup)(hz:e.length<=1000)(u:H2 D=none)(k:∀(b:Hp)(ts:List Addr),Same H2 b->b D=some (.lst (ts.map V.ref))->Prs b ts (eT on e)->Q (.ref D) b):zU (dG K L) (zK 0) (Io K) pP [none,some (.ref d),some (.ref O)] H2 D Q:=by
 have r:=ht.length;rw[gr] at r;refine zE (xs:=as.map V.ref) (fun j σ ys b=>∃(v:Option V)(ts:List Addr),σ=[v,some (.ref d),some (.ref O)]/\Same H2 b/\b D=some (.lst ys)/\ys=ts.map V.ref/\Prs b ts (eT on (e.take j))) ?_ ?_ ?_ ?_
 ·exact⟨none,[],rfl,Same.new u,ag,rfl,.nil⟩
 ·rintro j σ ys b ⟨v,ts,rfl,sm,f,rfl,hp⟩
  exact SqL.of (sm _ _ A)
 ·rintro j σ ys b x hx q hy ⟨v,ts,rfl,sm,f,rfl,hp⟩
  obtain⟨a,y,rfl⟩:=zL hx;obtain⟨ps,h,i⟩:=ht.get y;unfold ksC at h;rw[Ai] at h;obtain⟨c,l,rfl⟩:=P9.mp h;have hsz:(as.map V.ref).length<=sizeLine:=by rw[Ab];exact ze ω
  refine⟨_,rfl,_,rfl,a,O,c.1,os,on,rfl,rfl,sm.tp i,sm.seq C,sm.tps E,_,rfl,?_⟩;rw[Sa rfl];have em:eT on (e.take j++[c])=eT on (e.take j)++[c].filter fun c=>nt on c.1:=AJ _ _
  by_cases m:c.1∈on
  ·rw[Sc m]
   refine aN (cV q hy ⟨_,ts,rfl,sm,f,rfl,?_⟩);rw[AC l,em,Pi (by rw[show nt on c.1=false from Sd (fun z=>z m)];decide),PM,Po];exact hp
  ·rw[Sd m]
   refine a6 ⟨_,rfl,_,rfl,_,rfl,d,_,rfl,.inr ⟨aL e,c.1.map Sum.inl,a,.inl (sm _ _ hd),rfl,fz (sm.tp i),(zY F c (Ao l)).symm⟩,ze (by simp),fun t w=>?_⟩;have g:=Same.new (o:=.tup [.ref a,.int c.2]) w;refine bw hsz q hy (g _ _ f) ⟨_,ts++[t],rfl,(sm.trans g).then u,ag,by rw[Ak];rfl,?_⟩;rw[AC l,em,Pj (p:=fun c:List Int×Int=>nt on c.1) (show nt on c.1=true from Sc m)];exact Prs.upd (Prs.snoc (hp.same g) ⟨a,ag,g.tp (sm.tp i)⟩) (g _ _ f) (by intro xs z;cases z)
 ·rintro σ ys b ⟨v,ts,rfl,sm,f,rfl,hp⟩
  rw[Ab,r,take_all] at hp;exact k b ts sm f hp
def Ir{q:List Int}(h:q.length<=5):(bB q).length<=5:=by
 refine Ay (CG _) ?_;have:=mS (cs:=[(q,(1:Int))]) fun c hc=>by rw[Pb.mp hc];exact h
 simpa using this
def Iu{a:Type}(g:a->Ξ)(n:Nat):∀l:List a,(∀x∈l,(g x).length<=n)->(l.flatMap g).length<=n*l.length
 |[],_=>Af _
 |x::l,h=>by
  have:=Iu g n l fun y hy=>h y (.tail _ hy);have h1:=h x (.head _);rw[Bf,Ap,At,Nat.mul_succ];omega
abbrev nL:List Str:=["order","prime","high","early","late","ones","over_it","closed","seams","later","row"]
def lM:zm nL ["order","prime","high","early","late"] (zb nB):=⟨rfl,rfl,rfl,δ,rfl,δ,δ⟩
def p0(K:Ac):Sp:=fun vs H Q _=>∃(l:Addr)(as:List Addr)(oo:Ξ)(xs:List aU)(p h:Int)(e lt:Nat),vs=[.ref l,.int p,.int h,.int e,.int lt]/\SqL K H l (as.map V.ref)/\Tps H as oo/\bo oo/\oo.length<=60/\isP p/\e<=lt/\lt<oo.length/\cH p oo oo.length xs/\∀H',Same H H'->Q (.int (cnt xs h e lt)) H'
def OM(F:Fun K "_law_lasting" "_law_lasting" nB f fd)(B:Bt mg)(jd:mg "dict"=none)(Cs:Cl P w K mg base aR "_law_seam" ["chain"] 1 Dz)(Cr:Cl P w K mg base aR "_law_rank" ["rows","prime"] 1 (HX K)):FnOk P w K mg base aR 2 f fd ["order","prime","high","early","late"] (p0 K):=by
 refine F.ok lM (fun vs H Q E h=>?_) (fun cdv A outer s H vs Q E hr h=>?_)
 ·obtain⟨l,as,oo,xs,p,h,e,lt,rfl,_⟩:=h;rfl
 ·obtain⟨l,as,oo,xs,p,h,e,lt,rfl,hl,ht,ho,fA,hp,BD,D,R,k⟩:=h
  have hu:=fK hr;have aD:=hr.units;have O:=GR ho;refine⟨_,za (zk (i:=5) lM.nd rfl (Or.inr rfl) (zq nL ["piece","high"] [none,some 2] (zu (iC EC (pv 0) ix (iz (zn dL (pv 3) zd)))) (fun u C s₀ H₀ ex=>zi (i:=0) (cJ ["piece","high"]) rfl (Or.inl rfl))
    (fun u C s₀ H₀ ex=>zQ (zl ew (zj zh rfl B.len c5 (ac (pv 0) ak)) (zn dL (pv 1) zd) (ax _))) (fun u C s₀ H₀ ex=>pv 0) (hfr:=bx (zb nB) δ) (tc:=DR K 1) (te:=aw 0)))
   (za (m_ (i:=6) lM.nd rfl (Or.inl rfl) nL ["piece","high"] [none,some 2] (zu (iC EC (pv 0) ix (iz (zn dL (pv 4) zd)))) (fun u C s₀ H₀ ex=>zi (i:=0) (cJ ["piece","high"]) rfl (Or.inl rfl))
    (fun u C s₀ H₀ ex=>zQ (zl ew (zj zh rfl B.len c5 (ac (pv 0) ak)) (zn dL (pv 1) zd) (ax _))) (fun u C s₀ H₀ ex=>pv 0) (hfr:=bx (zb nB) δ) (tc:=DR K 2) (te:=aw 0))
   (za (zk (i:=7) lM.nd rfl (Or.inl rfl) (zn gJ (zj zh rfl B.len c5 (ac (pv 5) ak)) (zy Cr hr rfl aH (ac (zq nL ["piece"] [none] (zu (pv 5)) (fun u C s₀ H₀ ex=>zi (i:=0) (cJ ["piece"]) rfl (Or.inl rfl)) (fun u C s₀ H₀ ex=>zX)
     (fun u C s₀ H₀ ex=>zy Cs hr rfl aH (ac (Da hu (pv 0) zd) ak)) (hfr:=dI δ) (te:=DS)) (ac (pv 1) ak)))))
   (za (m_ (i:=8) lM.nd rfl (Or.inl rfl) nL ["piece"] [none] (zu (pv 6)) (fun u C s₀ H₀ ex=>zi (i:=0) (cJ ["piece"]) rfl (Or.inl rfl)) (fun u C s₀ H₀ ex=>zX)
     (fun u C s₀ H₀ ex=>zy Cs hr rfl aH (ac (Da hu (pv 0) zd) ak)) (hfr:=dI δ) (te:=DS))
   (za (zk (i:=9) lM.nd rfl (Or.inl rfl) (zO ak))
   (za (el AK rfl (zu (pv 8)) (zi (i:=10) lM.nd rfl (Or.inr rfl))
    (zf (fD (g0 Ph Qh Qi l' (pv 9) (ac (zp (zN rfl aD) rfl jd t5 (ac (zq nL ["piece","row","ones"] [none,some 10,some 5] (zu (zp (zA rfl) rfl B.list fy (ac (pv 10) ak))) (fun u C s₀ H₀ ex=>zi (i:=0) (cJ ["piece","row","ones"]) rfl (Or.inl rfl))
     (fun u C s₀ H₀ ex=>zQ (zl (r:=fj true K) (yQ (in1_units aD)) (pv 0) (pv 2) (by with_unfolding_all rfl))) (fun u C s₀ H₀ ex=>eZ (ac (pv 0) (ac (zC hu (pv 1) (pv 0) (fun _ _=>rfl)) ak))) (hfr:=bx (zb nB) δ) (tc:=Io K) (te:=pP)) ak)) ak)))))
   (zf (zo (zn gJ (pv 7) (zn gJ (zy Cr hr rfl aH (ac (pv 8) (ac (pv 1) ak))) (zy Cr hr rfl aH (ac (pv 9) (ac (pv 1) ak)))))))))))),?_⟩
  have aE:=ht.length;have oE:∀(n:Nat)(s:Int),(upto oo n s).length<=60:=fun n s=>Ay (PF _ _) (by rw[Aw];omega);have rR:∀n:Nat,n<oo.length->cz (as.map V.ref) none (some ((n:Int)+1))=(as.take (n+1)).map V.ref:=fun n hn=>by
   rw[show(n:Int)+1=((n+1:Nat):Int) from ω,jo _ _ (by rw[Ab];omega),QZ]
  have v:∀(n:Nat)(s:Int),∀q∈upto oo n s,q.length<=5/\q≠[]:=fun n s q hq=>by
   obtain⟨⟨t,_,ht⟩,_⟩:=io.mp hq;have hm:=Ao ht;have:=jm.mp (sI ho hm).1;exact⟨this.2.1,fun z=>by rw[z] at this;simp at this⟩
  have gm:∀L:Ξ,(L.map bB).map am=L.map sq:=fun L=>by rw[Aj];rfl
  have b:∀(n:Nat)(s:Int)(g:Ch->Ch),(∀c,(g c).length<=c.length)->(((upto oo n s).map fun q=>g (bB q)).flatMap ksC).length<=500:=fun n s g hg=>by
   have:=Iu ksC 5 ((upto oo n s).map fun q=>g (bB q)) fun c hc=>by
    obtain⟨q,hq,rfl⟩:=Bp.mp hc;rw[gr];exact Ay (hg _) (Ir (v n s q hq).1)
   rw[Ab] at this;have:=oE n s;omega
  refine⟨_,rfl,_,rfl,_,_,rfl,rfl,_,rfl,l,_,rfl,hl,fun C hC=>?_⟩;rw[rR e ω];have sC:=Same.new (o:=.lst ((as.take (e+1)).map V.ref)) hC;refine⟨C,rfl,⟨_,SqL.of ag⟩,fun Y kS=>zt (Il (h:=h) (j:=1) (kn:=oo.take (e+1)) (SqL.of ag) (sC.tps (Tps.take (e+1) ht)) (by rw[Aw];omega) kS fun H1 os s1 om eE=>?_)⟩;have mE:=sC.trans s1;refine⟨_,rfl,_,rfl,_,_,rfl,rfl,_,rfl,l,_,rfl,mE.seq hl,fun C2 t9=>?_⟩;rw[rR lt D];have rJ:=Same.new (o:=.lst ((as.take (lt+1)).map V.ref)) t9;refine⟨C2,rfl,⟨_,SqL.of ag⟩,fun D2 bb=>zt (Il (h:=h) (j:=2) (kn:=oo.take (lt+1)) (SqL.of ag) ((mE.trans rJ).tps (Tps.take (lt+1) ht)) (by rw[Aw];omega) bb fun H2 ps s2 jw cA=>?_)⟩;have i_:=rJ.trans s2;have rN:=mE.trans i_;have X:=i_ _ _ om;have ho':=i_.tps eE;have iB:Tps H2 os (upto oo e (h+1)):=ho';have oU:Tps H2 ps (upto oo lt (h+2)):=cA;have BT:=oE e (h+1);have CB:=oE lt (h+2);refine⟨_,rfl,Y,_,rfl,.inl (SqL.of X),?_⟩;rw[Ab,iB.length];refine⟨_,rfl,Y,rfl,⟨_,SqL.of X⟩,fun D3 ah=>zt (Im (SqL.of X) iB (v e (h+1)) ω ah fun H3 ds s3 mL ff=>?_)⟩;refine⟨_,rfl,D3,ds,_,p,rfl,SqL.of mL,ff,fun cs hcs=>?_,b e (h+1) id fun c=>Af _,by rw[Ab];omega,hp,fun U1 A1 H4 s4 z1 z2 z3=>?_⟩
  ·obtain⟨q,_,rfl⟩:=Bp.mp hcs
   exact zF _
  rw[gm] at z2;have r1:=Ii hp O R (e:=e) (s:=h+1) ω z1 z2 fun q hq=>z3 _ (Bp.mpr ⟨q,hq,rfl⟩);have U:=s3.trans s4;have B7:=rN.trans U;refine⟨_,_,rfl,rfl,?_⟩;refine⟨_,rfl,D2,rfl,⟨_,SqL.of (U _ _ jw)⟩,fun D5 bX=>zt (Im (SqL.of (U _ _ jw)) (U.tps oU) (v lt (h+2)) ω bX fun H5 es s5 iH oW=>?_)⟩;have rW:=U.trans s5;refine⟨ze (by simp),fun LT iq=>?_⟩;have rp:=Same.new (o:=.lst []) iq;have pC:es.length=(upto oo lt (h+2)).length:=by
   have:=AY oW;rw[Ab] at this;exact this
  have ky:=rN.trans rW;refine⟨_,rfl,D5,rfl,⟨_,SqL.of (rp _ _ iH)⟩,iv (K:=K) (a:=D5) (xs:=es.map V.ref) (fun i σ G=>∃(bs:List Addr)(mj:Option V),σ=[some (.ref l),some (.int p),some (.int h),some (.int e),some (.int lt),some (.ref Y),some (.ref D2),some (.int (((upto oo e (h+1)).length:Int)-(A1.length:Int))),some (.ref D5),some (.ref LT),mj]/\Same H5 G/\G LT=some (.lst (bs.map V.ref))/\Dcs G bs (((upto oo lt (h+2)).take i).map fun q=>eT (upto oo e (h+1)) (bB q)))
   ⟨[],none,rfl,rp,ag,.nil⟩ (fun i σ G _ ⟨_,_,_,sm,_⟩=>SqL.of (sm _ _ iH)) ?_ ?_⟩
  ·rintro i x σ G hx ⟨bs,mj,rfl,sm,W,T⟩
   obtain⟨d,ed,rfl⟩:=zL hx;have hi:i<(upto oo lt (h+2)).length:=by have:=(KK.mp ed).1;omega
   obtain⟨q,eq⟩:∃q,(upto oo lt (h+2))[i]?=some q:=⟨_,Ah hi⟩;have pD:=kR oW i _ _ ed (by rw[Ai,eq];rfl:((upto oo lt (h+2)).map bB)[i]?=some (bB q));have iA:=sm _ _ pD;have sH:=rW.trans sm;have l5:=Ir (v lt (h+2) q (Ao eq)).1;refine⟨_,rfl,.inl ⟨rfl,_,SqL.of W⟩,?_⟩;refine⟨_,rfl,d,aL (bB q),rfl,.inl iA,fun cs pc M I=>⟨M,rfl,⟨_,SqL.of ag⟩,fun D7 gw=>zt (OL (O:=Y) ag ((Same.new I).tps (hF pc)) (Same.new I _ _ iA) (SqL.of (Same.new I _ _ (sH _ _ X))) ((sH.trans (Same.new I)).tps iB) (zF _) ω gw fun H7 ts J iu e_=>?_)⟩⟩;refine⟨D7,ts,aL (eT (upto oo e (h+1)) (bB q)),rfl,SqL.of iu,t_ e_,fun N hN=>?_⟩;rw[sy,t7 _ (Ip (zF _))];have S:=((Same.new I).trans J).trans (Same.new (o:=.dT (aL (eT (upto oo e (h+1)) (bB q)))) hN);have kf:=S _ _ W;have jb:bs.length=((upto oo lt (h+2)).take i).length:=by
    have:=AY T;rw[Ab] at this;exact this
   refine⟨LT,_,_,rfl,rfl,kf,zP (by rw[Ab,jb,Aw];omega),bs++[N],_,rfl,(sm.trans S).then iq,by rw[ag,Ak];rfl,?_⟩;rw[AC eq,Ak];exact Dcs.put (Paired.snoc (Dcs.same T S) ag) kf
  ·rintro σ G ⟨bs,mj,rfl,sm,W,T⟩
   rw[Ab,pC,take_all] at T;refine⟨_,rfl,_,rfl,_,rfl,D5,es,_,p,rfl,SqL.of (sm _ _ iH),Dcs.same oW sm,fun cs hcs=>?_,b lt (h+2) id fun c=>Af _,by rw[Ab];omega,hp,fun U2 A2 H7 J y1 y2 y3=>?_⟩
   ·obtain⟨q,_,rfl⟩:=Bp.mp hcs
    exact zF _
   rw[gm] at y2;have r2:=Ii hp O R (e:=lt) (s:=h+2) D y1 y2 fun q hq=>y3 _ (Bp.mpr ⟨q,hq,rfl⟩);refine⟨_,rfl,_,rfl,LT,bs,_,p,rfl,SqL.of (J _ _ W),Dcs.same T J,fun cs hcs=>?_,b lt (h+2) (eT (upto oo e (h+1))) fun c=>PF _ _,by rw[Ab];omega,hp,fun U3 A3 H8 S x1 x2 x3=>?_⟩
   ·obtain⟨q,_,rfl⟩:=Bp.mp hcs
    exact Ip (zF _)
   have gl:∀q:List Int,am (eT (upto oo e (h+1)) (bB q))=cy (nt (upto oo e (h+1))) (sq q):=fun q=>funext fun y=>Iq y _;have wd:∀r∈A3,Bar.bY p ((upto oo lt (h+2)).map fun q=>cy (nt (upto oo e (h+1))) (sq q)) r.2:=fun r hr=>by
    have:=x2 r hr;rw[Aj] at this;have ec:(upto oo lt (h+2)).map (am ∘ fun q=>eT (upto oo e (h+1)) (bB q))=(upto oo lt (h+2)).map fun q=>cy (nt (upto oo e (h+1))) (sq q):=AA fun q _=>gl q
    rwa [ec] at this
   have r3:=OJ hp O R (e:=e) (lt:=lt) (h:=h) D x1 wd fun q hq=>by
    have:=x3 _ (Bp.mpr ⟨q,hq,rfl⟩)
    rwa [gl] at this
   refine⟨_,_,rfl,rfl,_,_,rfl,rfl,?_⟩;have fin:=k H8 (ky.trans ((sm.trans J).trans S));rw[OK e lt h] at fin;have mn:=many O R (e:=e) (h+1) ω;rw[show h+1-1=h from ω] at mn;rw[show h+2-2=h from ω] at r2;rw[r2,r3,r1,mn];rw[show((((xs.filter (iV e h)).length+(xs.filter (dU e (h+1-2))).length:Nat):Int)-((xs.filter (dU e (h+1-2))).length:Int))=((xs.filter (iV e h)).length:Int) from ω];exact fin
end
end K66
end
section
namespace K66
open K1
open PySem L2
abbrev p3:Stmt:=top 50
def DT(C:Addr)(i:Nat)(b:Bool):TE:=fun σ H Q=>∃x,σ[i]?=some (some (.ref x))/\H x=some (ee x C)/\Q (.bl b) H
section
variable{X:Cx}
def nD{n a:Str}{i:Nat}{C d:Addr}{b:Bool}{g f j pos:Pos}(l:eL X.K C)(y:A4 X.K (.ref C) (.ref d)=some b)(o:X.mg "isinstance"=none)(p:X.mg a=some (.ref d))(r:Gl X "isinstance")(w:Gl X a)(he:PE X (.Name n f) (aw i))(A:(a==("__debug__":Str))=false:=by decide):PE X (.Call (.Name "isinstance" g) [.Name n f,.Name a j] [] pos) (DT C i b):=by
 intro aa s σ H Q I h;obtain⟨x,e,hx,q⟩:=h;refine(show PE X _ _ from zj (G0 (c:=.ref d) (fun u h=>h) l y) r o z0 (ac he (ac (lR (v:=.ref d) w p rfl (hd:=A)) ak))) aa s σ H Q I ?_;exact⟨_,e,x,rfl,hx,q⟩
end
structure Mk(K:Ac)(C f0 f1 f2 f3 f4 f5:Addr)(b1 b2:Bool):Prop where
 xc:eL K C
 y0:A4 K (.ref C) (.ref f0)=some false
 y1:A4 K (.ref C) (.ref f1)=some false
 y2:A4 K (.ref C) (.ref f2)=some false
 y3:A4 K (.ref C) (.ref f3)=some b1
 y4:A4 K (.ref C) (.ref f4)=some b2
 y5:A4 K (.ref C) (.ref f5)=some false
 yv:A4 K (.ref C) (.type "ValueError")=some true
section
variable{P:Program}{w:World}{K:Ac}{mg:Str->Option Value}{base:Heap}
def DU(fO fN:Addr):Sp:=fun vs H Q _=>∃x,vs=[.ref x]/\((H x=some (ee x fO)/\∀H',Same H H'->Q (.str "order") H')\/(H x=some (ee x fN)/\∀H',Same H H'->Q (.str "number") H'))
def DV:zm ["e","marks"] ["e"] (zb p3):=⟨rfl,rfl,rfl,δ,rfl,δ,δ⟩
def ON{f J f1 f2 g j L:Addr}{fd:FuncData}(F:Fun K "_law_which" "_law_which" p3 f fd)(l:mg "isinstance"=none)(W:mg "ValueError"=none)(X:mg "NoWeb"=some (.ref J))(Y:mg "NoPiece"=some (.ref f1))(m2:mg "NoPush"=some (.ref f2))(m3:mg "NoOrder"=some (.ref g))(m4:mg "NoNumber"=some (.ref j))(m5:mg "NoChain"=some (.ref L))(M1:Mk K g J f1 f2 g j L true false)(M2:Mk K j J f1 f2 g j L false true):mY P w K mg base 1 f fd ["e"] (DU g j):=by
 refine F.okN DV (fun vs H Q E h=>?_) (fun cdv A outer s H vs Q E hr h=>?_)
 ·obtain⟨x,rfl,_⟩:=h;rfl
 ·obtain⟨x,rfl,h⟩:=h
  have G:∃C b d st,Mk K C J f1 f2 g j L b d/\H x=some (ee x C)/\((b=true/\d=false/\st="order")\/(b=false/\d=true/\st="number"))/\∀H',Same H H'->Q (.str st) H':=by
   rcases h with ⟨h,k⟩|⟨h,k⟩
   ·exact⟨g,true,false,"order",M1,h,.inl ⟨rfl,rfl,rfl⟩,k⟩
   ·exact⟨j,false,true,"number",M2,h,.inr ⟨rfl,rfl,rfl⟩,k⟩
  obtain⟨C,b,d,st,M,hx,hb,k⟩:=G;refine⟨_,za (zk (i:=1) DV.nd rfl (Or.inl rfl) (zO (ac (nD M.xc M.y0 l X rfl rfl (pv 0)) (ac (nD M.xc M.y1 l Y rfl rfl (pv 0)) (ac (nD M.xc M.y2 l m2 rfl rfl (pv 0)) (ac (nD M.xc M.y3 l m3 rfl rfl (pv 0)) ak))))))
   (za (zk (i:=1) DV.nd rfl (Or.inl rfl) (zn me (pv 1) (zO (ac (nD M.xc M.y4 l m4 rfl rfl (pv 0)) (ac (nD M.xc M.y5 l m5 rfl rfl (pv 0)) ak)))))
   (za (cT (PW.pt (iX (zl jJ (g0 Ph PySem.F.slot_list_count PySem.F.type_list_count M9 (pv 1) (ac fC ak)) zd (ax _)) (ke (ip (jF (zj (G0 (c:=.ty "ValueError") (fun u h=>h) M.xc M.yv) rfl l z0 (ac (pv 0) (ac (nI (v:=.ty "ValueError") rfl W PyProof.Rows.Boot.«ValueError» rfl) ak))))))))
     (zf (zo pe_str)) zv)
    (zf (zo (zJ zS (zO (ac pe_str (ac pe_str (ac pe_str (ac pe_str (ac pe_str (ac pe_str ak))))))) (g0 Ph PySem.F.slot_list_index PySem.F.type_list_index M_ (pv 1) (ac fC ak)) (fun _ _=>rfl)))))),?_⟩
  refine⟨x,rfl,hx,x,rfl,hx,x,rfl,hx,x,rfl,hx,ze (by simp),fun p hp=>?_⟩;have O:=Same.new (o:=.lst [.bl false,.bl false,.bl false,.bl b]) hp;refine⟨_,rfl,x,rfl,O _ _ hx,x,rfl,O _ _ hx,ze (by simp),fun p2 S=>?_⟩;have U:=O.trans (Same.new (o:=.lst [.bl d,.bl false]) S);refine⟨p,p2,_,_,rfl,rfl,(Same.new S) _ _ ag,ag,ze (by simp),fun r T=>?_⟩;have I:=U.trans (Same.new (o:=.lst [.bl false,.bl false,.bl false,.bl b,.bl d,.bl false]) T);have q:=ag (H:=upd (upd H p (.lst [.bl false,.bl false,.bl false,.bl b])) p2 (.lst [.bl d,.bl false])) (a:=r) (o:=.lst [.bl false,.bl false,.bl false,.bl b,.bl d,.bl false]);rcases hb with ⟨rfl,rfl,rfl⟩|⟨rfl,rfl,rfl⟩
  ·refine⟨_,rfl,.inl ⟨rfl,_,SqL.of q⟩,r,_,.bl true,rfl,rfl,q,rfl,?_⟩
   refine⟨rfl,rfl,false,(by first|rfl|decide),aN ⟨_,rfl,x,rfl,I _ _ hx,?_⟩⟩;refine⟨true,rfl,aN ⟨ze (by simp),fun N y=>?_⟩⟩;have D:=(Same.new (o:=.lst [.str "web",.str "piece",.str "push",.str "order",.str "number",.str "chain"]) y) _ _ q;refine⟨_,rfl,.inl ⟨rfl,_,SqL.of D⟩,r,_,.bl true,3,rfl,rfl,D,ξ,rfl,ξ,ξ,(fun m hm=>?_),N,_,3,_,rfl,rfl,SqL.of ag,rfl,k _ (I.trans (Same.new y))⟩;have:m=0\/m=1\/m=2:=ω
   rcases this with rfl|rfl|rfl<;>decide
  ·refine⟨_,rfl,.inl ⟨rfl,_,SqL.of q⟩,r,_,.bl true,rfl,rfl,q,rfl,?_⟩
   refine⟨rfl,rfl,false,(by first|rfl|decide),aN ⟨_,rfl,x,rfl,I _ _ hx,?_⟩⟩;refine⟨true,rfl,aN ⟨ze (by simp),fun N y=>?_⟩⟩;have D:=(Same.new (o:=.lst [.str "web",.str "piece",.str "push",.str "order",.str "number",.str "chain"]) y) _ _ q;refine⟨_,rfl,.inl ⟨rfl,_,SqL.of D⟩,r,_,.bl true,4,rfl,rfl,D,ξ,rfl,ξ,ξ,(fun m hm=>?_),N,_,4,_,rfl,rfl,SqL.of ag,rfl,k _ (I.trans (Same.new y))⟩;have:m=0\/m=1\/m=2\/m=3:=ω
   rcases this with rfl|rfl|rfl|rfl<;>decide
end
end K66
end
section
namespace K66
open K1
open PySem L2 STb
abbrev DW:Stmt:=top 51
abbrev lN:Stmt:=top 52
section
variable{P:Program}{w:World}{K:Ac}{mg:Str->Option Value}{base:Heap}{f fw fO fN fS Pt:Addr}{fd jc:FuncData}
def p6(K:Ac)(Pt:Addr):Sp:=fun vs H Q _=>∃(l:Addr)(as:List Addr)(oo:Ξ)(p hi e lt:Int),vs=[.ref l,.int p,.int hi,.int e,.int lt]/\SqL K H l (as.map V.ref)/\Tps H as oo/\bo oo/\oo.length<=60/\isP p/\TY Pt H/\
 (∀xs H',(0<=e/\e<=lt/\lt<oo.length)->SY Pt H H'->cH p oo oo.length xs->Q (.int (cnt xs hi e lt)) H')/\
 (∀H',¬(0<=e/\e<=lt/\lt<oo.length)->SY Pt H H'->Q (.str "number") H')
def qc:zm ["order","prime","high","early","late","told","e"] ["order","prime","high","early","late"] (zb DW):=⟨rfl,rfl,rfl,δ,rfl,δ,δ⟩
def OO(F:Fun K "_law_asked" "_law_asked" DW f fd)(D:mg "SeamError"=some (.ref fS))(J:Cl P w K mg base (eQ P w) "lasting" ["order","prime","high","early","late"] 8 (Dx K Pt fN))(Fw:Fun K "_law_which" "_law_which" p3 fw jc)(G:Binds K jc ["e"] [])(I:mg "_law_which"=some (.ref fw))(L:mY P w K mg base 1 fw jc ["e"] (DU fO fN))(S:hZ K fN fS):FnOk P w K mg base aR 9 f fd ["order","prime","high","early","late"] (p6 K Pt):=by
 refine F.ok qc (fun vs H Q E h=>?_) (fun cdv A outer s H vs Q E hr h=>?_)
 ·obtain⟨l,as,oo,p,hi,e,lt,rfl,_⟩:=h;rfl
 ·have C:Room 1 _:=hr.mono ξ
  refine⟨_,za (zk (i:=5) qc.nd rfl (Or.inl rfl) kc)
   (za (GZ (ie:=6) (S:=fS) rfl qc.nd rfl rfl rfl rfl rfl D
    (fun aa EB=>zf (zk (i:=5) qc.nd rfl (Or.inl rfl) (zy J hr rfl (GY rfl) (ac (pv 0) (ac (pv 1) (ac (pv 2) (ac (pv 3) (ac (pv 4) ak))))))))
    (fun aa x=>zf (zk (i:=5) qc.nd rfl (Or.inl rfl) (G1 (E:=E0) L (C.mark _) rfl I Fw.kp G .nil (ac (pv 6) ak)))))
   (zf (zo (pv 5)))),?_⟩
  obtain⟨l,as,oo,p,hi,e,lt,rfl,j,ht,u,v,hp,tb,k,y⟩:=h;refine⟨_,rfl,_,rfl,_,rfl,_,rfl,_,rfl,l,as,oo,p,hi,e,lt,rfl,j,ht,u,v,hp,tb,fun xs H' g f1 o=>⟨_,rfl,k xs H' g f1 o⟩,fun H1 g f1 x hx=>⟨x,fN,rfl,rfl,S,fun q j=>?_⟩⟩
  match q,j with
  |[a,b,c,d,e,g1,h1],_=>exact⟨_,rfl,x,rfl,.inr ⟨ag,fun H2 r=>⟨_,rfl,y H2 g (f1.trans (Same.sf ((Same.new hx).trans r)))⟩⟩⟩
def qh(K:Ac)(Pt:Addr):Sp:=fun vs H Q _=>∃(l:Addr)(as:List Addr)(oo:Ξ)(p hi e:Int),vs=[.ref l,.int p,.int hi,.int e]/\SqL K H l (as.map V.ref)/\Tps H as oo/\bo oo/\oo.length<=60/\isP p/\TY Pt H/\
 (∀xs H',(0<=e/\e<oo.length)->SY Pt H H'->cH p oo oo.length xs->Q (.int (cnt xs hi e e)) H')/\
 (∀H',¬(0<=e/\e<oo.length)->SY Pt H H'->Q (.str "number") H')
def qi:zm ["order","prime","high","time","told","e"] ["order","prime","high","time"] (zb lN):=⟨rfl,rfl,rfl,δ,rfl,δ,δ⟩
def OP(F:Fun K "_law_one" "_law_one" lN f fd)(D:mg "SeamError"=some (.ref fS))(J:Cl P w K mg base (eQ P w) "alive" ["order","prime","high","time"] 9 (Ht K Pt fN))(Fw:Fun K "_law_which" "_law_which" p3 fw jc)(G:Binds K jc ["e"] [])(I:mg "_law_which"=some (.ref fw))(L:mY P w K mg base 1 fw jc ["e"] (DU fO fN))(S:hZ K fN fS):FnOk P w K mg base aR 10 f fd ["order","prime","high","time"] (qh K Pt):=by
 refine F.ok qi (fun vs H Q E h=>?_) (fun cdv A outer s H vs Q E hr h=>?_)
 ·obtain⟨l,as,oo,p,hi,e,rfl,_⟩:=h;rfl
 ·have C:Room 1 _:=hr.mono ξ
  refine⟨_,za (zk (i:=4) qi.nd rfl (Or.inl rfl) kc)
   (za (GZ (ie:=5) (S:=fS) rfl qi.nd rfl rfl rfl rfl rfl D
    (fun aa EB=>zf (zk (i:=4) qi.nd rfl (Or.inl rfl) (zy J hr rfl (GY rfl) (ac (pv 0) (ac (pv 1) (ac (pv 2) (ac (pv 3) ak)))))))
    (fun aa x=>zf (zk (i:=4) qi.nd rfl (Or.inl rfl) (G1 (E:=E0) L (C.mark _) rfl I Fw.kp G .nil (ac (pv 5) ak)))))
   (zf (zo (pv 4)))),?_⟩
  obtain⟨l,as,oo,p,hi,e,rfl,j,ht,u,v,hp,tb,k,y⟩:=h;refine⟨_,rfl,_,rfl,_,rfl,_,rfl,l,as,oo,p,hi,e,rfl,j,ht,u,v,hp,tb,fun xs H' g f1 o=>⟨_,rfl,k xs H' g f1 o⟩,fun H1 g f1 x hx=>⟨x,fN,rfl,rfl,S,fun q j=>?_⟩⟩
  match q,j with
  |[a,b,c,d,e,g1],_=>exact⟨_,rfl,x,rfl,.inr ⟨ag,fun H2 r=>⟨_,rfl,y H2 g (f1.trans (Same.sf ((Same.new hx).trans r)))⟩⟩⟩
end
abbrev cK:Stmt:=top 53
abbrev lP:List Str:=["script","box","order","prime","high","many","joint","far","early","late","handed","told","one","some","count"]
def eN:zm lP ["script"] (zb cK):=⟨rfl,rfl,rfl,δ,rfl,δ,δ⟩
def Iv{h e lt:Int}:∀{xs ys:List aU},xs.map tri=ys.map tri->cnt xs h e lt=cnt ys h e lt
 |[],[],_=>rfl
 |[],_::_,z=>by cases z
 |_::_,[],z=>by cases z
 |x::xs,y::ys,z=>by
  rw[As,As] at z;have a:tri x=tri y:=by injection z
  have f:xs.map tri=ys.map tri:=by injection z
  have c:=Iv (h:=h) (e:=e) (lt:=lt) f;unfold tri at a;have g:x.hi=y.hi:=by injection a with w1;injection w1
  have i:x.b=y.b:=by injection a with _ w1;injection w1 with w1;injection w1 with w1;exact Int.ofNat.inj w1
  have j:x.d=y.d:=by
   injection a with _ w1;injection w1 with _ w1;injection w1 with w1
   cases hx:x.d<;>cases hy:y.d<;>rw[hx,hy] at w1<;>first|rfl|(injection w1 with w1;exact congrArg some (Int.ofNat.inj w1))|cases w1
  have l:gu h e x=gu h e y:=by unfold gu;rw[g,i]
  have o:jx lt x=jx lt y:=by unfold jx;rw[j]
  unfold cnt at c ⊢;rw[RH,RH] at c ⊢;cases c1:gu h e y<;>cases c2:jx lt y<;>simp[l,o,c1,c2,c]
section
variable{P:Program}{w:World}{K:Ac}{mg:Str->Option Value}{base:Heap}{f:Addr}{fd:FuncData}{Pt:Addr}{cdv:Value}{A:Around}{outer:List Env}{s:Shared}{H:Hp}{E:XK}{Q:VK}
def OQ(hr:Room 10 (A.deeper (Rv "law" (zb cK) s⁻¹ f cdv)))(B:Bt mg)(Ca:Cl P w K mg base aR "_law_asked" ["order","prime","high","early","late"] 9 (p6 K Pt))(Co:Cl P w K mg base aR "_law_one" ["order","prime","high","time"] 10 (qh K Pt))(dB:Cl P w K mg base aR "_law_lasting" ["order","prime","high","early","late"] 2 (p0 K))(Cb:Cl P w K mg base aR "bars" ["order","prime"] 7 (ng K Pt)):∃tr,PSs (cv aR P w K mg base lP "law" (zb cK) f cdv A outer s H E).nox (List.drop 10 (zah cK)) tr/\
   ∀(a p OR:Addr)(os:List Addr)(oo:Ξ)(pr h e lt:Int)(W X Y:Option V)(H2:Hp),H2 OR=some (.lst (os.map V.ref))->Tps H2 os oo->bo oo->oo.length<=60->isP pr->TY Pt H2->(∀H',Q (.bl true) H')->
    tr {nx:=fun _ H'=>Q .non H',rt:=Q} [some (.ref a),some (.ref p),some (.ref OR),some (.int pr),some (.int h),W,X,Y,some (.int e),some (.int lt),none,none,none,none,none] H2:=by
 have aD:=hr.units;refine⟨_,za (zk (i:=10) eN.nd rfl (Or.inl rfl) (zp EE rfl B.list fy (ac (pv 2) ak)))
  (za (zk (i:=11) eN.nd rfl (Or.inl rfl) (zy Ca hr rfl aH (ac (pv 10) (ac (pv 3) (ac (pv 4) (ac (pv 8) (ac (pv 9) ak)))))))
  (za (zk (i:=12) eN.nd rfl (Or.inl rfl) (zy Co hr rfl aH (ac (pv 10) (ac (pv 3) (ac (pv 4) (ac (pv 8) ak))))))
  (za (cT (zl (rf aD) (pv 10) (pv 2) (ax _)) (zf (zo fC)) zv)
  (za (cT (ip (qx ku kr zd (pv 8) (zj zh rfl B.len c5 (ac (pv 2) ak)))) (zf (zo (IR (n4 ew (pv 11) pe_str (ax _)) (IQ (n4 ew (pv 12) pe_str (ax _)))))) zv)
  (za (cT (PW.pt (iX (jF (zj Gj rfl B.isinstance z0 (ac (pv 12) (ac (nI (v:=.ty "bool") rfl B.bool FG rfl) ak)))) (iX (ip (jF (zj Gi rfl B.isinstance z0 (ac (pv 12) (ac (nI (v:=.ty "int") rfl B.int Bk rfl) ak))))) (ke (zl jJ (pv 12) (zy dB hr rfl aH (ac (pv 2) (ac (pv 3) (ac (pv 4) (ac (pv 8) (ac (pv 8) ak)))))) (ax _)))))) (zf (zo fC)) zv)
  (za (cT (ip (qx ku kr (pv 8) (pv 9) (zj zh rfl B.len c5 (ac (pv 2) ak)))) (zf (zo (n4 ew (pv 11) pe_str (ax _)))) zv)
  (za (m_ (i:=13) eN.nd rfl (Or.inl rfl) lP ["bar","high","early"] [none,some 4,some 8] (zu (zy Cb hr rfl aH (ac (pv 10) (ac (pv 3) ak)))) (fun G C s₀ H₀ ex=>zi (i:=0) (cJ ["bar","high","early"]) rfl (Or.inl rfl))
    (fun G C s₀ H₀ ex=>zQ (PW.pt (uN (zl ew (zJ zZ (pv 0) zd (fun _ _=>rfl)) (pv 1) (ax _)) (uM (zl ku (zJ zZ (pv 0) zd (fun _ _=>rfl)) (pv 2) (ax _))))))
    (fun G C s₀ H₀ ex=>pv 0) (hfr:=bx (zb cK) δ) (tc:=Dv K) (te:=aw 0))
  (za (zk (i:=14) eN.nd rfl (Or.inl rfl) (zj zh rfl B.len c5 (ac (zq lP ["bar","late"] [none,some 9] (zu (pv 13)) (fun G C s₀ H₀ ex=>zi (i:=0) (cJ ["bar","late"]) rfl (Or.inl rfl))
    (fun G C s₀ H₀ ex=>zQ (PW.pt (iX (zl vR (zJ zZ (pv 0) zd (fun _ _=>rfl)) kc (ax _)) (ke (zl kw (zJ zZ (pv 0) zd (fun _ _=>rfl)) (pv 1) (ax _))))))
    (fun G C s₀ H₀ ex=>pv 0) (hfr:=bx (zb cK) δ) (tc:=Dw K) (te:=aw 0)) ak)))
  (za (cT (PW.pt (iX (jF (zj Gj rfl B.isinstance z0 (ac (pv 11) (ac (nI (v:=.ty "bool") rfl B.bool FG rfl) ak)))) (iX (ip (jF (zj Gi rfl B.isinstance z0 (ac (pv 11) (ac (nI (v:=.ty "int") rfl B.int Bk rfl) ak))))) (ke (zl jJ (pv 11) (pv 14) (ax _)))))) (zf (zo fC)) zv)
  (zf (zo (n4 ew (pv 11) (zy dB hr rfl aH (ac (pv 2) (ac (pv 3) (ac (pv 4) (ac (pv 8) (ac (pv 9) ak)))))) (ax _))))))))))))),?_⟩
 intro a p OR os oo pr h e lt W X Y H2 hO ho x d hp tb k;have J:((os.map V.ref).length:Int)=oo.length:=by rw[Ab,ho.length]
 refine⟨_,rfl,OR,_,rfl,.inl (SqL.of hO),fun r wI=>?_⟩;have T:=Same.new (o:=.lst (os.map V.ref)) wI;have u:upd H2 r (.lst (os.map V.ref)) r=some (.lst (os.map V.ref)):=ag;have l:=T _ _ hO;have j:=T.tps ho;have L:=(Same.sf T:SY Pt _ _).tab tb;generalize upd H2 r (.lst (os.map V.ref))=H3 at u l j L;refine⟨_,rfl,_,rfl,_,rfl,_,rfl,_,rfl,r,os,oo,pr,h,e,lt,rfl,SqL.of u,j,x,d,hp,L,fun xs H4 g q pp=>?_,fun H4 g q=>?_⟩
 ·refine⟨_,rfl,_,rfl,_,rfl,_,rfl,r,os,oo,pr,h,e,rfl,SqL.of (q.lst u),q.tps j,x,d,hp,q.tab L,fun N M g1 I O=>?_,fun M g1=>absurd ⟨g.1,ω⟩ g1⟩
  have b:=q.trans I;obtain⟨y,rfl⟩:=P5 g1.1;refine⟨_,rfl,_,rfl,.inr ⟨r,OR,os,os,oo,oo,rfl,rfl,SqL.of (b.lst u),b.tps j,SqL.of (b.lst l),b.tps j,_,rfl,?_⟩⟩;rw[Sa rfl,Sc rfl];refine aN ⟨_,rfl,_,_,rfl,rfl,_,rfl,cP (fun _=>?_) (fun g'=>absurd (Sc g1.1) g')⟩;refine⟨_,rfl,OR,_,rfl,.inl (SqL.of (b.lst l)),_,_,rfl,rfl,_,rfl,?_⟩;rw[J,Sc g1.2];refine aN ⟨_,rfl,_,rfl,_,rfl,aN ⟨_,rfl,_,rfl,_,rfl,aN ⟨_,rfl,_,rfl,_,rfl,_,rfl,_,rfl,_,rfl,OR,os,oo,N,pr,h,y,y,rfl,SqL.of (b.lst l),b.tps j,x,d,hp,Af _,ω,O,fun U S=>⟨rfl,_,rfl,?_⟩⟩⟩⟩;rw[Sc rfl];have F:=b.trans (Same.sf S);refine aN ⟨_,rfl,_,rfl,_,_,rfl,rfl,_,rfl,?_⟩;refine cP (fun _=>?_) (fun g'=>absurd (Sc g.2.1) g');refine⟨_,rfl,OR,_,rfl,.inl (SqL.of (F.lst l)),_,_,rfl,rfl,_,rfl,?_⟩;rw[J,Sc g.2.2];obtain⟨ln,rfl⟩:=P5 (show 0<=lt from ω);refine aN ⟨_,rfl,_,rfl,r,os,oo,pr,rfl,SqL.of (F.lst u),F.tps j,x,d,hp,F.tab L,fun D us w_ H7 f7 c8 hD hu qC=>?_⟩;have yh:=F.trans f7;have lx:w_.length<=1000:=by have:=Hm qC;omega
  refine⟨D,rfl,⟨_,SqL.of hD⟩,fun D2 bb=>zt (tZ Ho (SqL.of hD) hu lx bb fun H8 ws s8 kP hw=>?_)⟩;refine⟨_,rfl,D2,rfl,⟨_,SqL.of kP⟩,fun D4 dW=>zt (tZ Hq (SqL.of kP) hw (Ay (PF _ _) lx) dW fun H9 vs s9 nC hv=>?_)⟩;refine⟨D4,_,rfl,.inl (SqL.of nC),?_⟩;have sx:=yh.trans (Same.sf (s8.trans s9));have ec:((vs.map V.ref).length:Int)=(cnt xs h y ln:Nat):=by
   rw[Ab,hv.length,Ab];exact congrArg Int.ofNat (Iv (N8 hp.pr.1 qC pp))
  rw[ec];refine⟨_,rfl,_,rfl,_,rfl,aN ⟨_,rfl,_,rfl,_,rfl,aN ⟨_,rfl,_,rfl,rfl,_,rfl,?_⟩⟩⟩;rw[Sc rfl];refine aN ⟨_,rfl,_,rfl,_,rfl,_,rfl,_,rfl,_,rfl,OR,os,oo,xs,pr,h,y,ln,rfl,SqL.of (sx.lst l),sx.tps j,x,d,hp,ω,ω,pp,fun pK mQ=>⟨rfl,?_⟩⟩;rw[Sc rfl];exact k pK
 ·refine⟨_,rfl,_,rfl,_,rfl,_,rfl,r,os,oo,pr,h,e,rfl,SqL.of (q.lst u),q.tps j,x,d,hp,q.tab L,fun N M g1 I O=>?_,fun M g1 I=>?_⟩
  have b:=q.trans I;obtain⟨y,rfl⟩:=P5 g1.1;refine⟨_,rfl,_,rfl,.inr ⟨r,OR,os,os,oo,oo,rfl,rfl,SqL.of (b.lst u),b.tps j,SqL.of (b.lst l),b.tps j,_,rfl,?_⟩⟩;rw[Sa rfl,Sc rfl];refine aN ⟨_,rfl,_,_,rfl,rfl,_,rfl,cP (fun _=>?_) (fun g'=>absurd (Sc g1.1) g')⟩;refine⟨_,rfl,OR,_,rfl,.inl (SqL.of (b.lst l)),_,_,rfl,rfl,_,rfl,?_⟩;rw[J,Sc g1.2];refine aN ⟨_,rfl,_,rfl,_,rfl,aN ⟨_,rfl,_,rfl,_,rfl,aN ⟨_,rfl,_,rfl,_,rfl,_,rfl,_,rfl,_,rfl,OR,os,oo,N,pr,h,y,y,rfl,SqL.of (b.lst l),b.tps j,x,d,hp,Af _,ω,O,fun U S=>⟨rfl,_,rfl,?_⟩⟩⟩⟩;rw[Sc rfl];have F:=b.trans (Same.sf S);refine aN ⟨_,rfl,_,rfl,_,_,rfl,rfl,_,rfl,?_⟩;refine cP (fun c=>?_) (fun c=>⟨_,rfl,a6 ⟨_,rfl,rfl,?_⟩⟩)
  ·have c:=Se c
   refine⟨_,rfl,OR,_,rfl,.inl (SqL.of (F.lst l)),_,_,rfl,rfl,_,rfl,?_⟩;rw[J,Sd (fun z=>g ⟨g1.1,c,z⟩)];refine a6 ⟨_,rfl,rfl,?_⟩;rw[Sc rfl];exact k U
  ·rw[Sc rfl]
   exact k U
  have b:=q.trans I;refine⟨_,rfl,_,rfl,.inr ⟨r,OR,os,os,oo,oo,rfl,rfl,SqL.of (b.lst u),b.tps j,SqL.of (b.lst l),b.tps j,_,rfl,?_⟩⟩;rw[Sa rfl,Sc rfl];have fin:(∀H',Q (.bl true) H'):=k;refine aN ⟨_,rfl,_,_,rfl,rfl,_,rfl,cP (fun c=>?_) (fun c=>⟨_,rfl,a6 ⟨_,rfl,rfl,?_⟩⟩)⟩
  ·have c:=Se c
   refine⟨_,rfl,OR,_,rfl,.inl (SqL.of (b.lst l)),_,_,rfl,rfl,_,rfl,?_⟩;rw[J,Sd (fun z=>g1 ⟨c,z⟩)];refine a6 ⟨_,rfl,rfl,?_⟩;rw[Sc rfl];refine⟨_,rfl,a6 ⟨_,rfl,rfl,?_⟩⟩;rw[Sc rfl];exact k M
  ·rw[Sc rfl]
   refine⟨_,rfl,a6 ⟨_,rfl,rfl,?_⟩⟩;rw[Sc rfl];exact k M
end
end K66
end
section
namespace L2
open PySem PySem.Spec PyProof.Rows
section
variable{prog:Program}{w:World}{A:Around}{E:Ω}{s:Shared}
def OS{l:Addr}{x y:Value}{Q:List Value->Shared->Prop}(hh:A.handled=none)(i:s.heap.IsList l #[x,y])(h:∀h' tk,(∀b o,b≠s⁻¹->s.heap.get? b=some o->h'.get? b=some o)->Q [x,y] {s with heap:=h',toks:=tk}):wpAny (model prog w) A (unpackItems (.ref l) 2 none) Q E s:=by
 obtain⟨d,hol,e,C⟩:=id i;have D:l<s⁻¹:=Am hol;have G:l≠s⁻¹:=Ar D;have W:=Walks.list (prog:=prog) (w:=w) (A:=A) hh s⁻¹ l G #[x,y];show wpAny _ A (notIterableAtAll (.ref l) >>= _) _ _ _;refine Aa ?_;show wpAny _ A (specialOf (.ref l) "__iter__" >>= _) _ _ _;refine Aa (wpAny_specialOf (T:="list") ⟨d,hol,e⟩ PySem.F.slot_list_iter.lookup ?_);refine Ae ?_;show wpAny _ A (holding [.ref l] (pyIter (.ref l)) >>= _) _ _ _;refine Aa (AD (wpAny_pyIter_list i ?_));have f:(s.heap.push {cls:=.type "list_iterator",data:=.fields #[.ref l,.int 0 0]}).get? s⁻¹=some {cls:=.type "list_iterator",data:=.fields #[.ref l,.int 0 0]}:=An _ rfl;have k0:∀b o,s.heap.get? b=some o->(s.heap.push {cls:=.type "list_iterator",data:=.fields #[.ref l,.int 0 0]}).get? b=some o:=fun b o q=>Ad _ q;have g:(s.heap.push {cls:=.type "list_iterator",data:=.fields #[.ref l,.int 0 0]}).IsList l #[x,y]:=⟨d,k0 _ _ hol,e,C⟩;generalize s.heap.push {cls:=.type "list_iterator",data:=.fields #[.ref l,.int 0 0]}=h0 at f k0 g;have H:h0.IsListIter s⁻¹ l 0:=⟨_,f,rfl,rfl⟩;show wpAny _ A (holding [.ref s⁻¹] (pyNext (.ref s⁻¹) >>= _) >>= _) _ _ _;refine Aa (AD (Aa (W.item 0 _ _ _ (by simp) ⟨H,g⟩ fun v h1 L a j k1=>?_)));obtain rfl:x=v:=Ag a;have I:h1.IsListIter s⁻¹ l 1/\h1.IsList l #[x,y]:=j;show wpAny _ A (holding [x] (draw (.ref s⁻¹) 1) >>= _) _ _ _;refine Aa (AD ?_);show wpAny _ A (pyNext (.ref s⁻¹) >>= _) _ _ _;refine Aa (W.item 1 _ _ _ (by simp) I fun v h2 M a p k2=>?_);obtain rfl:y=v:=Ag a;have J:h2.IsListIter s⁻¹ l 2/\h2.IsList l #[x,y]:=p;show wpAny _ A (holding [y] (draw (.ref s⁻¹) 0) >>= _) _ _ _;refine Aa (AD (Ae ?_));refine Ae ?_;refine Ae ?_;show wpAny _ A (holding [x,y] (pyNext (.ref s⁻¹)) >>= _) _ _ _;refine Aa (AD (W.done _ _ _ J fun r u k3=>?_));refine Ae (h r u fun b o hb q=>?_);have c:¬b∈[s⁻¹]:=by simpa using hb
 exact k3 b o c (k2 b o c (k1 b o c (k0 b o q)))
def OT{env:Env}{aZ:List Expr}{k:Nat}{pos:Pos}{l:Addr}{x y:Value}{Q:Unit->Shared->Prop}(hh:A.handled=none)(c:s.heap.IsList l #[x,y])(d:(assignEach aZ env).length=2)(a:(assignEach aZ env).findIdx? (·.1)=none)(h:∀h' tk,(∀b o,b≠s⁻¹->s.heap.get? b=some o->h'.get? b=some o)->wpAny (model prog w) A (assignInOrder ((assignEach aZ env).map (·.2)) [x,y]) Q E {s with heap:=h',toks:=tk}):wpAny (model prog w) A (assign (.Tuple aZ k pos) env (.ref l)) Q E s:=by
 rw[assign_Tuple];refine Aa (wpAny_standAt ?_);unfold unpack;rw[d,a];exact Aa (AD (OS hh c h))
end
section
variable{X:Cx}{pos:Pos}
def OU(K:Ac)(t:iY):TG:=fun v σ H Q=>∃a x y,v=.ref a/\SqL K H a [x,y]/\t [x,y] σ H Q
def OV{es:List Expr}{k:Nat}{t:iY}(hc:X.calm=true)(h:nN X es t)(f:(assignEach es X.env).length=2:=by rfl)(d:(assignEach es X.env).findIdx? (·.1)=none:=by rfl):PG X (.Tuple es k pos) (OU X.K t):=by
 intro aa s σ H v u Q I r hw;obtain⟨a,x,y,e1,hq,hw⟩:=hw;subst e1;cases r;obtain⟨ae,c,ht,hz⟩:=I.list hq;cases c with
 |cons r1 c=>
  cases c with
  |cons r2 c=>
   cases c;refine OT (I.ok.hd hc) ht.isList f d fun h' tk hx=>?_;have g:Inv X aa σ H {s with heap:=h',toks:=tk}:=I.kept (t':=tk) fun b o e=>hx b o (Ar (Am e)) e;exact h aa _ σ H [x,y] _ Q g (.cons r1 (.cons r2 .nil)) hw
end
end L2
end
section
namespace L2.Rm
open PySem PySem.Spec PySem.MeetsSeq PySem.SeqAt
open PySem.AutoSeq1 (wpAny_loadPart')
abbrev Pre(l:Addr)(ae:Array Value)(n:Nat)(x:Value)(e:Value->Bool)(j:Nat):PySem.Spec:=fun A R s=>
 s.heap.get? l=some {cls:=.type "list",dict:=none,data:=.seq ae n,slots:=#[]}/\(∀y,y∈ae->EqAt A.in1 s y x (e y))/\R (.ok (.ret .none)) {s with heap:=s.heap.update l (AH fun xs=>xs.eraseIdxIfInBounds j)}
section
variable{l:Addr}{ae:Array Value}{n:Nat}{x:Value}{e:Value->Bool}{j:Nat}
def OW(f:j<ae.size)(v:e ae[j]=true)(hz:ae.size<=sizeLine)(k:Nat):∀i:Nat,j-i=k->i<=j->(∀m(hm:m<ae.size),i<=m->m<j->e ae[m]=false)->Meets (Builtin.«list.remove.loop» ⟨[.ref l,x,rawInt i],[]⟩) (Pre l ae n x e j):=by
 induction k with
 |zero=>
  intro i e1 e2 d prog w A R s h;obtain⟨g,o,p,q,r⟩:=s;obtain⟨c,hq,h⟩:=h;obtain rfl:i=j:=ω
  wp_walk using wpAny_loadPart' c
  rw[show ae[((i:Nat):Int).toNat]?=some ae[i] by simp[f]];refine Aa (hq _ (Array.getElem_mem f) prog w _ _ ?_);rw[v];have u:(ae.eraseIdxIfInBounds i).size<=sizeLine+1:=RK (Ay (size_erased ae i) hz)
  wp_walk using (wpAny_updateSeq c rfl (hz:=hz) (_hz':=u)),wpAny_loadPart' c
  simpa using h
 |succ k ih=>
  intro i e1 e2 d prog w A R s h;obtain⟨g,o,p,q,r⟩:=s;obtain⟨c,hq,h⟩:=h;have lt:i<ae.size:=ω
  wp_walk using wpAny_loadPart' c
  rw[show ae[((i:Nat):Int).toNat]?=some ae[i] by simp[lt]];refine Aa (hq _ (Array.getElem_mem lt) prog w _ _ ?_);rw[d i lt (Af _) ω]
  wp_walk
  rw[show((i:Int)+1)=((i+1:Nat):Int) by push_cast;rfl];refine⟨Bb plain_remove_loop _,A0 entry_remove_loop ?_⟩;rw[AM plain_remove_loop _];exact ih (i+1) ω ω (fun m hm a b=>d m hm ω b) prog w A R _ ⟨c,hq,h⟩
def rm(c:j<ae.size)(d:e ae[j]=true)(f:∀m(hm:m<ae.size),m<j->e ae[m]=false)(hz:ae.size<=sizeLine):Meets (Builtin.«list.remove» ⟨[.ref l,x],[]⟩) (Pre l ae n x e j):=by
 intro prog w A R s h;obtain⟨g,i,o,p,q⟩:=s;obtain⟨a,hq,h⟩:=h
 wp_walk using wpAny_loadPart' a
 refine⟨Bb plain_remove_loop _,A0 entry_remove_loop ?_⟩;rw[AM plain_remove_loop _];exact OW c d hz _ 0 rfl (AX _) (fun m hm _ b=>f m hm b) prog w A R _ ⟨a,hq,h⟩
end
end L2.Rm
namespace L2
open PySem PySem.Spec PyProof.Rows
def zmF:V->List V->Hp->VK->Prop:=fun x vs H Q=>∃l a as ad ps j,x=.ref l/\vs=[.ref a]/\H l=some (.lst (List.map V.ref as))/\Tps H as ad/\Tp H a ps/\ad[j]?=some ps/\(∀m q,m<j->ad[m]?=some q->q≠ps)/\Q .non (upd H l (.lst ((as.eraseIdx j).map V.ref)))
def Iw{b c:Type}(f:b->c):∀(l:List b)(i:Nat),(l.eraseIdx i).map f=(l.map f).eraseIdx i
 |[],_=>rfl
 |_::_,0=>rfl
 |a::r,i+1=>by show f a::(r.eraseIdx i).map f=f a::(r.map f).eraseIdx i;rw[Iw f r i]
section
variable{X:Cx}
def OX(hu:X.A.in1.units<cLine):kx X "list.remove" zmF:=by
 intro aa s σ H x vs v us Q I g i h;obtain⟨l,a,as,ad,ps,j,rfl,rfl,d,ht,ha,f,p,q⟩:=h;cases g;obtain⟨u,rfl,w⟩:=i.one;cases w;obtain⟨z,ae,n,r,C,e⟩:=I.lstM d;obtain rfl:=a8 r;have E:=ht.length;have G:j<ad.length:=(KK.mp f).1;have c:∀m(hm:m<(as.map Value.ref).toArray.size) q,ad[m]?=some q->jQ H ps ((as.map Value.ref).toArray[m])=decide (q=ps):=fun m hm q hq=>by
  have b:m<as.length:=by simpa using hm
  obtain⟨D,e1,e2⟩:=ht.get (Ah b);rw[hq] at e1;cases e1;have:(as.map Value.ref).toArray[m]=.ref as[m]:=by simp
  rw[this];exact yP e2
 refine call_meets F.slot_list_remove ⟨_,e,rfl⟩ F.entry_list_remove (F.args_list_remove_2 _ _)
  (Rm.rm (e:=jQ H ps) (j:=j) (by simp;omega) (by rw[c j _ ps f];exact Sc rfl) (fun m hm o=>?_) (by rw[Al];rw[Ab] at z C;omega)) ⟨e,fun y hy=>Fd I ha hu ht y (by simpa using hy),?_⟩
 ·have b:m<ad.length:=ω
  rw[c m hm _ (Ah b)];exact Sd (p m _ o (Ah b))
 ·refine⟨.non,_,I.lset (its':=(as.map Value.ref).eraseIdx j) d e ?_ ?_ ?_,rfl,q⟩
  ·show(as.map Value.ref).toArray.eraseIdxIfInBounds j=((as.map Value.ref).eraseIdx j).toArray
   rw[List.eraseIdxIfInBounds_toArray]
  ·rw[Iw]
   exact r.eraseIdx j
  ·have:=EG as j
   rw[Ab] at z ⊢;omega
end
end L2
end
section
namespace L2
open PySem PySem.Spec PyProof.Rows
def OY{env env0:Env}{scope a:Scope}(b:env.scope=relabel a env0)(h:scope.names.all (fun y=>decide (y.2≠.free)|| decide (a.names.lookup y.1=some .cell)|| decide (a.names.lookup y.1=some .free))=true):∀y∈scope.names,y.2=.free->env.kindOf y.1=some .cell\/env.kindOf y.1=some .free:=by
 intro y hy e;have:=PP.mp h y hy;simp only[Bool.or_eq_true,decide_eq_true_eq] at this;have key:a.names.lookup y.1=some .free\/a.names.lookup y.1=some .cell:=by
  rcases this with (q|q)|q
  ·exact absurd e q
  ·exact .inr q
  ·exact .inl q
 have:=yp (scope:=a) (env:=env0) key;unfold Env.kindOf;rw[b];rcases this with q|q
 ·exact .inr q
 ·exact .inl q
end L2
end
section
namespace K66
open K1
open PySem L2 STb
abbrev um:Stmt:=top 46
def OZ{a b:List Int}(h:kle a b=true):a.length<=b.length:=by
 rw[mD] at h;rcases QE b.length a.length with c|c
 ·exfalso
  have:HT.lexLt (key b) (key a)=true:=by
   show HT.lexLt ((b.length:Int)::b) ((a.length:Int)::a)=true;rw[HT.zx,Sb ω];exact Sc ω
  rw[this] at h;cases h
 ·exact c
def Tps.erase{H:Hp}:∀{as:List Addr}{ad:Ξ}(n:Nat),Tps H as ad->Tps H (as.eraseIdx n) (ad.eraseIdx n)
 |_,_,_,.nil=>.nil
 |_,_,0,.cons _ t=>t
 |_,_,n+1,.cons r t=>.cons r (Tps.erase n t)
def Ix{b:Type}:∀{l:List b}{j:Nat}{x:b},l[j]?=some x->l.Perm (x::l.eraseIdx j)
 |[],_,_,h=>by simp at h
 |a::r,0,x,h=>by
  have e:a=x:=by simpa using h
  subst e;exact List.Perm.refl _
 |a::r,j+1,x,h=>((Ix (l:=r) (j:=j) (by simpa using h)).cons a).trans (List.Perm.swap x a _)
structure Og(ad f l:Ξ):Prop where
 pm:(f++l).Perm (canon ad)
 sb:l.Sublist (canon ad)
 od:bo f
def cf(f:Ξ)(p:List Int):Bool:=decide (((rims p).filter fun q=>!decide (q∈f)).length=0)
def Iy{f:Ξ}{p:List Int}:cf f p=true↔∀q∈rims p,q∈f:=by
 unfold cf;rw[decide_eq_true_eq,List.length_eq_zero_iff,List.filter_eq_nil_iff];refine⟨fun h q hq=>?_,fun h q hq=>?_⟩
 ·have:=h q hq
  cases e:decide (q∈f) with
  |true=>exact Se e
  |false=>rw[e] at this;exact absurd rfl this
 ·rw[Sc (h q hq)];decide
section
variable{ad f l:Ξ}(hw:dY ad=true)(g:Og ad f l)
include hw g
theorem Og.rim{p q:List Int}(hp:p∈canon ad)(hq:q∈rims p):q∈f\/q∈l:=by
 obtain⟨h1,k,hk,e⟩:=BK.mp hq;obtain⟨a,b⟩:=F0 hk e;have d:q≠[]:=fun z=>by
  rw[z] at e;have:=congrArg List.length e;rw[Ap,Aw,PB,Pz] at this;have:=List.length_pos_iff.mpr (jm.mp (CL hw hp)).1;omega
 have:q∈canon ad:=by
  obtain⟨_,t,ht,c⟩:=GF.mp hp;exact GF.mpr ⟨d,t,ht,a.trans c⟩
 exact Pe.mp (g.pm.mem_iff.mpr this)
theorem Og.able{a:List Int}{r:Ξ}(e:l=a::r):cf f a=true:=by
 subst e;refine Iy.mpr fun q hq=>?_;have ha:a∈canon ad:=g.sb.subset Az;rcases Og.rim hw g ha hq with h|h
 ·exact h
 ·exfalso
  obtain⟨h1,k,hk,e⟩:=BK.mp hq;have b:=(F0 hk e).2;rcases Pa.mp h with z|z
  ·rw[z] at b;omega
  ·have hp:=(FV ad).sublist g.sb
   have:=OZ ((PK.mp hp).1 q z);omega
theorem Og.next{p:List Int}{j:Nat}(c:l[j]?=some p)(ha:cf f p=true):Og ad (f++[p]) (l.eraseIdx j):=by
 have a:p∈l:=Ao c;have d:p∈canon ad:=g.sb.subset a;have b:(f++l).Nodup:=g.pm.nodup_iff.mpr (FX ad);refine⟨?_,(List.eraseIdx_sublist _ _).trans g.sb,GH g.od (sE.mpr ⟨CL hw d,fun h=>?_,Iy.mp ha⟩)⟩
 ·rw[RO]
  exact(List.Perm.append_left f (Ix c).symm).trans g.pm
 ·exact(Pk.mp b).2.2 p h p a rfl
end
def O0{l:Ξ}(a:l.Nodup){p:List Int}(hp:p∈l):∃j:Nat,l[j]?=some p/\∀m q,m<j->l[m]?=some q->q≠p:=by
 obtain⟨j,e⟩:=Pc.mp hp;refine⟨j,e,fun m q hm eq z=>?_⟩;subst z;have h1:=(KK.mp e);have h2:=(KK.mp eq);have:=Pw.mp (Qa.mp a) m j h2.1 h1.1 hm;exact this (by rw[h2.2,h1.2])
abbrev Iz:List Str:=["box","known","left","found","able","piece"]
abbrev DX(K:Ac):TE:=jO (Ed K (n6 mF [] E0 (dh (aw 0) bD))) [none,some 1] (zK 0) (dN (bC (fj true K) (aw 0) (aw 1))) (aw 0)
abbrev O1(K:Ac):TT:=dN (bC ko (jM (B9 K) (dh (DX K) bD)) (tC (.int 0)))
section
variable{P:Program}{w:World}{K:Ac}{mg:Str->Option Value}{base:Heap}
def O2{H2:Hp}{L c D:Addr}{as fs:List Addr}{kn a:Ξ}{Q:VK}(f:SqL K H2 L (as.map V.ref))(ht:Tps H2 as kn)(g:SqL K H2 c (fs.map V.ref))(hf:Tps H2 fs a)(hz:kn.length<=1000)(h:H2 D=none)(k:∀(b:Hp)(bs:List Addr),Same H2 b->b D=some (.lst (bs.map V.ref))->Tps b bs (kn.filter fun p=>!decide (p∈a))->Q (.ref D) b):zU (dG K L) (zK 0) (dN (bC (fj true K) (aw 0) (aw 1))) (aw 0) [none,some (.ref c)] H2 D Q:=by
 refine Cf (p:=fun p=>!decide (p∈a)) (fun o os H' R sm d _ e=>⟨_,rfl,_,rfl,o,c,os,fs,a,rfl,rfl,d,sm.seq g,sm.tps hf,_,rfl,?_⟩) f ht hz h k;rw[Sa rfl];exact e H' (Same.refl _)
def IA(K:Ac):Sp:=fun vs H Q _=>∃p l as ad,vs=[.ref p,.ref l]/\zM H p/\SqL K H l (as.map V.ref)/\H l=some (.lst (as.map V.ref))/\Tps H as (canon ad)/\dY ad=true/\∀D H' bs a,zD p H H'->zM H' p->H' D=some (.lst (bs.map V.ref))->Tps H' bs a->bo a->a.Perm (canon ad)->Q (.ref D) H'
def qk:zm Iz ["box","known"] (zb um):=⟨rfl,rfl,rfl,δ,rfl,δ,δ⟩
def O3{f:Addr}{fd:FuncData}(F:Fun K "_law_order" "_law_order" um f fd)(B:Bt mg)(Ct:Cl P w K mg base aR "_law_take" ["box","most"] 1 k8)(Cr:Cl P w K mg base aR "_law_rims" ["piece"] 1 mF):FnOk P w K mg base aR 2 f fd ["box","known"] (IA K):=by
 refine F.ok qk (fun vs H Q E h=>?_) (fun cdv A outer s H vs Q E hr h=>?_)
 ·obtain⟨p,l,as,ad,rfl,_⟩:=h;rfl
 ·obtain⟨p,l,as,ad,rfl,hb,hl,Bn,ht,hw,k⟩:=h
  have aD:=hr.units;refine⟨_,za (zk (i:=2) qk.nd rfl (Or.inl rfl) (zp EE rfl B.list fy (ac (pv 1) ak)))
   (za (zk (i:=3) qk.nd rfl (Or.inr rfl) (zO ak))
   (za (vl AK (zl (rf aD) (pv 2) (zO ak) (ax _))
    (za (m_ (i:=4) qk.nd rfl (Or.inl rfl) Iz ["piece","found"] [none,some 3] (zu (pv 2)) (fun U C s₀ H₀ ex=>zi (i:=0) (cJ ["piece","found"]) rfl (Or.inl rfl))
     (fun U C s₀ H₀ ex=>zQ (zl ew (zj zh rfl B.len c5 (ac (zq ["piece","found"] ["rim","found"] [none,some 1] (zu (zy Cr hr rfl aH (ac (pv 0) ak))) (fun U C s₀ H₀ ex=>zi (i:=0) (cJ ["rim","found"]) rfl (Or.inl rfl))
      (fun U C s₀ H₀ ex=>zQ (zl (r:=fj true K) (yQ (in1_units aD)) (pv 0) (pv 1) (by with_unfolding_all rfl))) (fun U C s₀ H₀ ex=>pv 0) (hfr:=OY rfl δ) (tc:=dN (bC (fj true K) (aw 0) (aw 1)))) ak)) zd (ax _)))
     (fun U C s₀ H₀ ex=>pv 0) (hfr:=bx (zb um) δ) (tc:=O1 K))
    (za (zk (i:=5) qk.nd rfl (Or.inl rfl) (zJ zS (pv 4) (zy Ct hr rfl aH (ac (pv 0) (ac (zj zh rfl B.len c5 (ac (pv 4) ak)) ak))) (fun _ _=>rfl)))
    (za (fD (g0 Ph Qh Qi l' (pv 3) (ac (pv 5) ak)))
    (zf (fD (g0 Ph PySem.F.slot_list_remove PySem.F.type_list_remove (OX (in1_units aD)) (pv 2) (ac (pv 5) ak))))))))
   (zf (zo (pv 3))))),?_⟩
  obtain⟨_,_,_,aO⟩:=BI hw;rw[<-FY] at aO;refine⟨_,rfl,l,_,rfl,.inl hl,fun v mW=>⟨ze (by simp),fun g lC=>?_⟩⟩;have sL:=Same.new (o:=.lst (as.map V.ref)) mW;have sF:=Same.new (o:=.lst []) lC;have s2:=sL.trans sF;have nW:=sF _ _ (ag (H:=H) (a:=v) (o:=.lst (as.map V.ref)));have qF:v≠g:=zg (ag (H:=H) (a:=v) (o:=.lst (as.map V.ref))) lC;have rh:v≠p:=by obtain⟨x,y,h,_⟩:=hb;exact Ne.symm (zg h mW)
  have X:g≠p:=by obtain⟨x,y,h,_⟩:=hb.same sL;exact Ne.symm (zg h lC)
  have Y:H g=none:=sL.free lC;refine⟨fun m σ J=>∃(ls fs:List Addr)(c d:Ξ)(v4 v5:Option V),m=c.length/\σ=[some (.ref p),some (.ref l),some (.ref v),some (.ref g),v4,v5]/\zD p H J/\zM J p/\J v=some (.lst (ls.map V.ref))/\Tps J ls c/\J g=some (.lst (fs.map V.ref))/\Tps J fs d/\Og ad d c,
   ⟨_,as,[],canon ad,[],none,none,rfl,rfl,fun b o _ e=>s2 _ _ e,hb.same s2,nW,s2.tps ht,ag,.nil,⟨List.Perm.refl _,List.Sublist.refl _,GG⟩⟩,?_⟩
  rintro m σ J ⟨ls,fs,c,d,v4,v5,rfl,rfl,cr,aW,fc,pA,we,hU,N⟩;have i7:=pA.length;have jV:=hU.length;have hpl:=N.pm.length_eq;rw[Ap] at hpl;refine⟨_,rfl,ze (by simp),fun T hT=>.inr ⟨v,T,ls,[],c,[],rfl,rfl,SqL.of ((Same.new hT) _ _ fc),(Same.new hT).tps pA,SqL.of ag,.nil,_,rfl,?_⟩⟩;have I:=Same.new (o:=.lst []) hT;have nh:zD p H _:=fun b o G e=>I _ _ (cr b o G e);have O:=aW.same I;have iq:=I _ _ fc;have o_:=I.tps pA;have k6:=I _ _ we;have lO:=I.tps hU;generalize upd J T (.lst [])=H4 at I nh O iq o_ k6 lO;rw[Sa rfl];cases hW:c with
  |nil=>
   rw[Sc rfl];refine aN ⟨_,rfl,k g H4 fs d nh O k6 lO N.od ?_⟩;have:=N.pm;rw[hW,Po] at this;exact this
  |cons a0 r0=>
   rw[Sd (by simp),<-hW];refine a6 ⟨_,fun ao H' h=>h,?_⟩;refine⟨_,rfl,v,rfl,⟨_,SqL.of iq⟩,fun D hD=>zt (Cf (p:=cf d) (fun o os H' R sm ho W hR=>?_) (SqL.of iq) o_ ω hD fun H5 cs L bX fV=>?_)⟩
   ·have uU:os.length<=5:=(jm.mp (CL hw (N.sb.subset W))).2.1
    refine⟨_,rfl,o,os,rfl,ho,uU,fun RL u rs s6 _ qD wN=>⟨RL,rfl,⟨_,SqL.of qD⟩,fun D7 gw=>zt (O2 (SqL.of qD) wN (SqL.of ((sm.trans s6) _ _ k6)) ((sm.trans s6).tps lO) (Ay (j9 _) ω) gw fun H7 bs s7 iu cY=>⟨D7,_,rfl,.inl (SqL.of iu),rfl,_,rfl,?_⟩)⟩⟩;have jb:=cY.length;have:=hR H7 (s6.trans s7);rw[Ab,jb];have e:decide (V.int ((((rims os).filter fun q=>!decide (q∈d)).length:Nat):Int)=V.int 0)=cf d os:=by
     unfold cf;rw[Qm,decide_eq_true_eq,decide_eq_true_eq];exact⟨fun h=>by injection h with h;omega,fun h=>by rw[h];rfl⟩
    rw[e];exact this
   have hcl:=fV.length;have hne:0<(c.filter (cf d)).length:=List.length_pos_of_mem (Pd.mpr ⟨by rw[hW];exact Az,Og.able hw N hW⟩);have yV:=PF (cf d) c;have da:=O.same L;refine⟨_,rfl,_,rfl,_,rfl,D,_,rfl,.inl (SqL.of bX),?_⟩;refine⟨p,_,rfl,da,by rw[Ab];omega,by rw[Ab];omega,fun r6 u vA pJ M b0=>?_⟩;rw[Ab,hcl] at pJ;obtain⟨n,rfl⟩:=P5 vA;have hn:n<(c.filter (cf d)).length:=ω
   have en:(c.filter (cf d))[n]?=some (c.filter (cf d))[n]:=Ah hn;have iW:cs[n]?=some (cs[n]'ω):=Ah ω;have hq:=Pq hn;generalize (c.filter (cf d))[n]=q at en hq;generalize cs[n]'ω=t at iW;obtain⟨hql,wq⟩:=Pd.mp hq;have qw:D≠p:=da.ne bX;have B8:=I.trans L;refine⟨D,_,_,.ref t,rfl,rfl,SqL.of (M _ _ qw bX),gS (by rw[Ai,iW];rfl),?_⟩;have kC:Tp H5 t q:=kR fV n t q iW en;have eU:Tp u t q:=M _ _ (da.net kC) kC;have jA:=M _ _ X (L _ _ k6);have vk:=M.tps da (L.tps lO);have dg:=M _ _ rh (L _ _ iq);have v_:=M.tps da (L.tps o_);have oA:zD p H u:=fun b o G e=>M b o G (L _ _ (nh b o G e));refine⟨_,rfl,.inl ⟨rfl,_,SqL.of jA⟩,_,rfl,g,_,.ref t,rfl,rfl,jA,by rw[Ab];exact zP ω,?_⟩;have rK:=ag (H:=u) (a:=g) (o:=.lst (fs.map V.ref++[.ref t]));have jK:upd u g (.lst (fs.map V.ref++[.ref t])) v=some (.lst (ls.map V.ref)):=by rw[al qF];exact dg
   have S:Tps (upd u g (.lst (fs.map V.ref++[.ref t]))) ls c:=Tps.upd v_ jA (by intro xs z;cases z);have qP:Tps (upd u g (.lst (fs.map V.ref++[.ref t]))) (fs++[t]) (d++[q]):=Tps.upd (Tps.snoc vk eU) jA (by intro xs z;cases z);have gD:Tp (upd u g (.lst (fs.map V.ref++[.ref t]))) t q:=by
    show upd u g _ t=_;rw[al (a7 eU jA (by intro z;cases z))];exact eU
   have cY:=b0.upd (o:=.lst (fs.map V.ref++[.ref t])) X;have jT:zD p H (upd u g (.lst (fs.map V.ref++[.ref t]))):=fun b o G e=>by rw[al (zg e Y)];exact oA b o G e
   generalize upd u g (.lst (fs.map V.ref++[.ref t]))=H7 at rK jK S qP gD cY jT;have hnd:c.Nodup:=(FX ad).sublist N.sb;obtain⟨j,ej,hG⟩:=O0 hnd hql;refine⟨_,rfl,.inl ⟨rfl,_,SqL.of jK⟩,_,rfl,v,t,ls,c,q,j,rfl,rfl,jK,S,gD,ej,hG,?_⟩;refine⟨_,?_,ls.eraseIdx j,fs++[t],c.eraseIdx j,d++[q],_,_,rfl,rfl,fun b o G e=>by rw[al (zg e mW)];exact jT b o G e,cY.upd rh,ag,Tps.upd (Tps.erase j S) jK (by intro xs z;cases z),by rw[al (Ne.symm qF),rK,Ak];rfl,Tps.upd qP jK (by intro xs z;cases z),Og.next hw N ej wq⟩;have hj:=(KK.mp ej).1;rw[List.length_eraseIdx_of_lt hj];omega
end
def DY{ns:List Int}{r:Int}(a:0<=r)(h1:r<ns.length):∃z,z∈ns/\fY (ns.map V.int) r=some (.int z):=by
 obtain⟨n,rfl⟩:=P5 a;have e:ns[n]?=some ns[n]:=Ah ω;exact⟨ns[n],Pq _,gS (by rw[Ai,e];rfl)⟩
structure Fr(Pt p:Addr)(H:Hp)(OR:Addr)(os:List Addr)(oo:Ξ):Prop where
 hb:zM H p
 hO:H OR=some (.lst (os.map V.ref))
 ho:Tps H os oo
 tb:TY Pt H
section
variable{Pt p OR:Addr}{H H':Hp}{os:List Addr}{oo:Ξ}
def IB(t:TY Pt H)(sb:zD p H H')(hb:zM H p):TY Pt H':=by
 obtain⟨x,y,e,_⟩:=hb;have a:Pt≠p:=fun z=>by rw[<-z] at e;rcases t with e'|⟨_,e',_⟩<;>(rw[e] at e';cases e')
 rcases t with e1|⟨c,e1,b,vs,d,e2,r⟩
 ·exact .inl (sb _ _ a e1)
 ·exact .inr ⟨c,sb _ _ a e1,b,vs,d,sb _ _ (fun z=>by rw[z,e] at e2;cases e2) e2,r⟩
def Fr.same(z:Fr Pt p H OR os oo)(s:Same H H'):Fr Pt p H' OR os oo:=⟨z.hb.same s,s _ _ z.hO,s.tps z.ho,(Same.sf s:SY Pt _ _).tab z.tb⟩
def Fr.sb(z:Fr Pt p H OR os oo)(hp:OR≠p)(s:zD p H H')(hb:zM H' p):Fr Pt p H' OR os oo:=⟨hb,s _ _ hp z.hO,s.tps z.hb z.ho,IB z.tb s z.hb⟩
def Fr.put(z:Fr Pt p H OR os oo){J:Addr}{xs ys:List V}(a:H J=some (.lst xs))(h1:J≠p)(h2:J≠OR):Fr Pt p (upd H J (.lst ys)) OR os oo:=by
 refine⟨z.hb.upd h1,by rw[al (Ne.symm h2)];exact z.hO,Tps.upd z.ho a (by intro xs z;cases z),?_⟩;rcases z.tb with e1|⟨c,e1,b,vs,d,e2,r⟩
 ·exact .inl (by rw[al (a7 e1 a (by intro z;cases z))];exact e1)
 ·exact .inr ⟨c,by rw[al (a7 e1 a (by intro z;cases z))];exact e1,b,vs,d,by rw[al (a7 e2 a (by intro z;cases z))];exact e2,r⟩
end
section
variable{P:Program}{w:World}{K:Ac}{mg:Str->Option Value}{base:Heap}{f:Addr}{fd:FuncData}{Pt:Addr}{cdv:Value}{A:Around}{outer:List Env}{s:Shared}{H:Hp}{E:XK}{Q:VK}
def O4(hr:Room 10 (A.deeper (Rv "law" (zb cK) s⁻¹ f cdv)))(B:Bt mg)(C:Cl P w K mg base aR "_law_take" ["box","most"] 1 k8)(Ca:Cl P w K mg base aR "_law_asked" ["order","prime","high","early","late"] 9 (p6 K Pt))(Co:Cl P w K mg base aR "_law_one" ["order","prime","high","time"] 10 (qh K Pt))(dB:Cl P w K mg base aR "_law_lasting" ["order","prime","high","early","late"] 2 (p0 K))(Cb:Cl P w K mg base aR "bars" ["order","prime"] 7 (ng K Pt)):∃q,PSs (cv aR P w K mg base lP "law" (zb cK) f cdv A outer s H E).nox (List.drop 8 (zah cK)) q/\
   ∀(a p OR b:Addr)(os:List Addr)(oo:Ξ)(pr h e lt:Int)(g:Option V)(H2:Hp),Fr Pt p H2 OR os oo->bo oo->oo.length<=60->isP pr->H2 b=some (.lst [.int e,.int lt])->b≠p->b≠OR->OR≠p->(∀H',Q (.bl true) H')->
    q {nx:=fun _ H'=>Q .non H',rt:=Q} [some (.ref a),some (.ref p),some (.ref OR),some (.int pr),some (.int h),g,some (.ref b),none,none,none,none,none,none,none,none] H2:=by
 obtain⟨vz,yF,gQ⟩:=OQ (f:=f) (cdv:=cdv) (A:=A) (outer:=outer) (s:=s) (H:=H) (Q:=Q) (E:=E) hr B Ca Co dB Cb;have R9:∃q,PSs (cv aR P w K mg base lP "law" (zb cK) f cdv A outer s H E).nox (List.drop 9 (zah cK)) q/\
   ∀(a p OR b:Addr)(os:List Addr)(oo:Ξ)(pr h e lt:Int)(g D:Option V)(H2:Hp),Fr Pt p H2 OR os oo->bo oo->oo.length<=60->isP pr->H2 b=some (.lst [.int e,.int lt])->(∀H',Q (.bl true) H')->
    q {nx:=fun _ H'=>Q .non H',rt:=Q} [some (.ref a),some (.ref p),some (.ref OR),some (.int pr),some (.int h),g,some (.ref b),D,none,none,none,none,none,none,none] H2:=
  ⟨_,za (qr (pv 6) (OV rfl (zW (zi (i:=8) eN.nd rfl (Or.inr rfl)) (zW (zi (i:=9) eN.nd rfl (Or.inr rfl)) lS)))) yF,
   fun a p OR b os oo pr h e lt g D H2 z l d hp F k=>⟨_,rfl,b,_,_,rfl,SqL.of F,_,_,rfl,_,_,rfl,rfl,gQ a p OR os oo pr h e lt g (some (.ref b)) D H2 z.hO z.ho l d hp z.tb k⟩⟩
 obtain⟨y9,p9,I⟩:=R9;refine⟨_,za (cT (zl ew (zy C hr rfl aH (ac (pv 1) (ac zd ak))) zd (ax _))
   (za (zk (i:=7) eN.nd rfl (Or.inl rfl) (zy C hr rfl aH (ac (pv 1) (ac (zn nV zd zd) ak))))
   (zf (qr (zJ zS (zO (ac (l0 l3 zd) (ac (zj zh rfl B.len c5 (ac (pv 2) ak)) (ac (zn gJ (l0 l3 zd) (pv 7)) (ac (zn dL (zj zh rfl B.len c5 (ac (pv 2) ak)) (pv 7)) ak)))))
     (zy C hr rfl aH (ac (pv 1) (ac zd ak))) (fun _ _=>rfl)) (ve (pv 6) (zy C hr rfl aH (ac (pv 1) (ac zd ak))) set_list)))) zv) p9,?_⟩
 intro a p OR b os oo pr h e lt g H2 z l d hp F j M op k;refine⟨_,rfl,p,8,rfl,z.hb,ξ,ξ,fun r H3 r0 r1 N aW=>⟨rfl,_,rfl,?_⟩⟩;have J:=z.sb op N aW;have W:=N _ _ j F;refine cP (fun _=>?_) (fun _=>I a p OR b os oo pr h e lt g none H3 J l d hp W k);refine⟨_,rfl,_,_,rfl,rfl,⟨ξ,ξ,ξ⟩,p,_,rfl,J.hb,ξ,ξ,fun c H4 _ _ O cw=>?_⟩;have u:=J.sb op O cw;have yB:=O _ _ j W;refine⟨_,rfl,_,rfl,OR,_,rfl,.inl (SqL.of u.hO),_,rfl,_,rfl,_,_,rfl,rfl,_,rfl,OR,_,rfl,.inl (SqL.of u.hO),_,rfl,_,_,rfl,rfl,ze (by simp),fun L S=>?_⟩;have X:=Same.new (o:=.lst ([-1,((os.map V.ref).length:Int),-1-c,((os.map V.ref).length:Int)+c].map V.int)) S;have Y:=u.same X;have xI:=X _ _ yB;have uT:=ag (H:=H4) (a:=L) (o:=.lst ([-1,((os.map V.ref).length:Int),-1-c,((os.map V.ref).length:Int)+c].map V.int));have nL:L≠p:=by obtain⟨x,y,h,_⟩:=u.hb;exact Ne.symm (zg h S)
 refine⟨_,rfl,p,4,rfl,Y.hb,ξ,ξ,fun r5 H6 mG oB G b0=>?_⟩;have z6:=Y.sb op G b0;have kD:=G _ _ j xI;obtain⟨t,_,et⟩:=DY (ns:=[-1,((os.map V.ref).length:Int),-1-c,((os.map V.ref).length:Int)+c]) mG oB;refine⟨L,_,_,_,rfl,rfl,SqL.of (G _ _ nL uT),et,?_⟩;refine⟨_,rfl,_,rfl,p,2,rfl,z6.hb,ξ,ξ,fun T H7 Bx Cj U cY=>?_⟩;have z7:=z6.sb op U cY;have v:=U _ _ j kD;have uY:T=0\/T=1:=ω
 rcases uY with rfl|rfl
 ·exact⟨b,_,0,0,rfl,rfl,v,rfl,I a p OR b os oo pr h t lt g _ _ (z7.put v j M) l d hp ag k⟩
 ·exact⟨b,_,1,1,rfl,rfl,v,rfl,I a p OR b os oo pr h e t g _ _ (z7.put v j M) l d hp ag k⟩
def O5(hr:Room 10 (A.deeper (Rv "law" (zb cK) s⁻¹ f cdv)))(B:Bt mg)(fI:mg "max"=none)(d:Cl P w K mg base aR "_law_take" ["box","most"] 1 k8)(Ca:Cl P w K mg base aR "_law_asked" ["order","prime","high","early","late"] 9 (p6 K Pt))(Co:Cl P w K mg base aR "_law_one" ["order","prime","high","time"] 10 (qh K Pt))(dB:Cl P w K mg base aR "_law_lasting" ["order","prime","high","early","late"] 2 (p0 K))(Cb:Cl P w K mg base aR "bars" ["order","prime"] 7 (ng K Pt)):∃I,PSs (cv aR P w K mg base lP "law" (zb cK) f cdv A outer s H E).nox (List.drop 5 (zah cK)) I/\
   ∀(a p OR:Addr)(os:List Addr)(oo:Ξ)(pr h:Int)(H2:Hp),Fr Pt p H2 OR os oo->bo oo->oo.length<=60->isP pr->OR≠p->(∀H',Q (.bl true) H')->
    I {nx:=fun _ H'=>Q .non H',rt:=Q} [some (.ref a),some (.ref p),some (.ref OR),some (.int pr),some (.int h),none,none,none,none,none,none,none,none,none,none] H2:=by
 obtain⟨Bw,p8,L⟩:=O4 (f:=f) (cdv:=cdv) (A:=A) (outer:=outer) (s:=s) (H:=H) (Q:=Q) (E:=E) hr B d Ca Co dB Cb;refine⟨_,za (zk (i:=5) eN.nd rfl (Or.inl rfl) (zj (Jj rfl) rfl fI pL (ac zd (ac (zj zh rfl B.len c5 (ac (pv 2) ak)) ak))))
  (za (zk (i:=6) eN.nd rfl (Or.inl rfl) (zO (ac (zy d hr rfl aH (ac (pv 1) (ac (pv 5) ak))) (ac (zy d hr rfl aH (ac (pv 1) (ac (pv 5) ak))) ak))))
  (za (cT (zl kw (zy d hr rfl aH (ac (pv 1) (ac zd ak))) zd (ax _)) (zf (zk (i:=6) eN.nd rfl (Or.inl rfl) (zj Fu rfl B.sorted rA (ac (pv 6) ak)))) zv) p8)),?_⟩
 intro a p OR os oo pr h H2 z C b hp op k;have hn:(os.map V.ref).length=oo.length:=by rw[Ab,z.ho.length]
 refine⟨_,rfl,OR,_,rfl,.inl (SqL.of z.hO),1,_,rfl,?_⟩;have l:0<(if((os.map V.ref).length:Int)>1 then((os.map V.ref).length:Int) else 1):=by split<;>omega
 have u:(if((os.map V.ref).length:Int)>1 then((os.map V.ref).length:Int) else 1)<1073741824:=by rw[hn];split<;>omega
 generalize (if((os.map V.ref).length:Int)>1 then((os.map V.ref).length:Int) else 1)=mm at l u;refine⟨_,rfl,_,rfl,p,mm,rfl,z.hb,l,u,fun e H3 _ _ X Y=>?_⟩;have M:=z.sb op X Y;refine⟨_,rfl,_,rfl,p,mm,rfl,M.hb,l,u,fun lt H4 _ _ bQ cw=>?_⟩;have v:=M.sb op bQ cw;refine⟨ze (by simp),fun W g=>?_⟩;have s5:=Same.new (o:=.lst [.int e,.int lt]) g;have N:=v.same s5;have O:∀{H':Hp}{J:Addr},Fr Pt p H' OR os oo->H' J=none->J≠p:=fun z h e=>by subst e;obtain⟨x,y,q,_⟩:=z.hb;rw[h] at q;cases q
 have S:∀{H':Hp}{J:Addr},Fr Pt p H' OR os oo->H' J=none->J≠OR:=fun z h e=>by subst e;have q:=z.hO;rw[h] at q;cases q
 have T:=O v g;have j2:=S v g;refine⟨_,rfl,p,3,rfl,N.hb,ξ,ξ,fun r H6 _ _ F b0=>⟨_,_,rfl,rfl,_,rfl,?_⟩⟩;have c:=N.sb op F b0;have U:=F _ _ T ag;refine cP (fun _=>?_) (fun _=>L a p OR W os oo pr h e lt _ H6 c C b hp U T j2 op k);refine⟨_,rfl,W,[e,lt],rfl,SqL.of U,by simp,fun D G pm _ j=>?_⟩;obtain⟨e',lt',rfl⟩:∃e' lt',G=[e',lt']:=by
  have:=pm.length_eq
  match G,this with
  |[x,y],_=>exact⟨x,y,rfl⟩
 exact L a p OR D os oo pr h e' lt' _ _ (c.same (Same.new j)) C b hp ag (O c j) (S c j) op k
def up(K:Ac)(Pt:Addr):Sp:=fun vs H Q _=>∃(a:Addr)(ns:List Int),vs=[.ref a]/\SqL K H a (ns.map V.int)/\ns.length<=63/\H Pt=some (.tbl #[])/\∀H',Q (.bl true) H'
def O6(F:Fun K "law" "law" cK f fd)(B:Bt mg)(fI:mg "max"=none)(Cc:Cl P w K mg base aR "_law_cell_at" ["script","k"] 1 (FP K))(yJ:Cl P w K mg base aR "_law_box" ["cell"] 1 FQ)(b:Cl P w K mg base aR "_law_take" ["box","most"] 1 k8)(Cw:Cl P w K mg base aR "_law_web" ["box"] 3 FT)(Cp:Cl P w K mg base aR "_law_pieces" ["web"] 2 (FN K))(Cd:Cl P w K mg base aR "_law_order" ["box","known"] 2 (IA K))(Ca:Cl P w K mg base aR "_law_asked" ["order","prime","high","early","late"] 9 (p6 K Pt))(Co:Cl P w K mg base aR "_law_one" ["order","prime","high","time"] 10 (qh K Pt))(dB:Cl P w K mg base aR "_law_lasting" ["order","prime","high","early","late"] 2 (p0 K))(Cb:Cl P w K mg base aR "bars" ["order","prime"] 7 (ng K Pt)):FnOk P w K mg base aR 11 f fd ["script"] (up K Pt):=by
 refine F.ok eN (fun vs H Q E h=>?_) (fun cdv A outer s H vs Q E hr h=>?_)
 ·obtain⟨a,ns,rfl,_⟩:=h;rfl
 ·obtain⟨a,nn,rfl,hS,hn,vj,k⟩:=h
  obtain⟨B3,p5,J⟩:=O5 (f:=f) (cdv:=cdv) (A:=A) (outer:=outer) (s:=s) (H:=H) (Q:=Q) (E:=E) hr B fI b Ca Co dB Cb;refine⟨_,za (zk (i:=1) eN.nd rfl (Or.inl rfl) (zy yJ hr rfl aH (ac (zy Cc hr rfl aH (ac (pv 0) (ac zd ak))) ak)))
   (za (zk (i:=2) eN.nd rfl (Or.inl rfl) (zy Cd hr rfl aH (ac (pv 1) (ac (zy Cp hr rfl aH (ac (zy Cw hr rfl aH (ac (pv 1) ak)) ak)) ak))))
   (za (zk (i:=3) eN.nd rfl (Or.inl rfl) (zJ zS (zO (ac zd (ac zd (ac zd (ac zd ak))))) (zy b hr rfl aH (ac (pv 1) (ac zd ak))) (fun _ _=>rfl)))
   (za (zk (i:=4) eN.nd rfl (Or.inr rfl) (zn gJ (zy b hr rfl aH (ac (pv 1) (ac zd ak))) zd))
   (za (cT (zl ew (zy b hr rfl aH (ac (pv 1) (ac zd ak))) zd (ax _))
    (zf (zk (i:=4) eN.nd rfl (Or.inr rfl) (zn fW (zJ zS (zO (ac (l0 l3 zd) (ac zd ak))) (zy b hr rfl aH (ac (pv 1) (ac zd ak))) (fun _ _=>rfl)) (zn dL zd (zy b hr rfl aH (ac (pv 1) (ac (zn nV zd zd) ak))))))) zv) p5)))),?_⟩
  refine⟨_,rfl,a,nn,rfl,hS,fun n=>⟨n,rfl,fun p x y hp vJ=>?_⟩⟩;have sp:=Same.new (o:=.lst [.int x,.int y]) hp;have l:zM (upd H p (.lst [.int x,.int y])) p:=⟨x,y,ag,vJ⟩;have U:TY Pt (upd H p (.lst [.int x,.int y])):=Tab.same (.inl vj) sp;generalize upd H p (.lst [.int x,.int y])=H0 at sp l U;refine⟨_,rfl,_,rfl,p,rfl,l,fun O os ad H1 gU e8 _ xn eE r=>?_⟩;obtain⟨hw,hnd,N⟩:=LC r;obtain⟨kZ,qG,h5,aO⟩:=BI hw;have B5:=LH r;refine⟨O,os,ad,rfl,SqL.of xn,eE,h5,ω,ω,fun KN H2 q2 t2=>?_⟩;obtain⟨ks,S,_,T,oK⟩:=LI t2;refine⟨p,KN,ks,ad,rfl,e8.same S,SqL.of T,T,oK,hw,fun OR H3 e d cr j u wu v fT=>?_⟩;have iG:zD p H0 H3:=(gU.trans (zD.of S)).trans cr;have z3:Fr Pt p H3 OR e d:=⟨j,u,wu,IB U iG l⟩;have op:OR≠p:=j.ne u;have c:d.length<=60:=by rw[fT.length_eq,FY];omega
  refine⟨ze (by simp),fun L C=>?_⟩;have s4:=Same.new (o:=.lst ([2,3,5,7].map V.int)) C;have W:=z3.same s4;have nL:L≠p:=by obtain⟨x,y,h,_⟩:=j;exact Ne.symm (zg h C)
  refine⟨_,rfl,p,4,rfl,W.hb,ξ,ξ,fun r5 H5 mG oB D da=>?_⟩;obtain⟨m,hm,em⟩:=DY (ns:=[2,3,5,7]) mG oB;have X:isP m:=by
   simp only[Pa,RY,or_false] at hm;exact hm
  refine⟨L,_,_,_,rfl,rfl,SqL.of (D _ _ nL ag),em,?_⟩;have Y:=W.sb op D da;refine⟨_,rfl,p,9,rfl,Y.hb,ξ,ξ,fun r6 H6 _ _ b_ b0=>⟨_,_,rfl,rfl,?_⟩⟩;have z6:=Y.sb op b_ b0;refine⟨_,rfl,p,9,rfl,z6.hb,ξ,ξ,fun r7 H7 _ _ dC cY=>⟨rfl,_,rfl,?_⟩⟩;have q:=z6.sb op dC cY;refine cP (fun _=>?_) (fun _=>J a p OR e d m _ H7 q v c X op k);refine⟨_,rfl,ze (by simp),fun M G=>?_⟩;have s8:=Same.new (o:=.lst ([-1,1].map V.int)) G;have z8:=q.same s8;have nM:M≠p:=by obtain⟨x,y,h,_⟩:=q.hb;exact Ne.symm (zg h G)
  refine⟨_,rfl,p,2,rfl,z8.hb,ξ,ξ,fun r9 H9 u6 wW I xr=>?_⟩;obtain⟨g,hg,eg⟩:=DY (ns:=[-1,1]) u6 wW;refine⟨M,_,_,_,rfl,rfl,SqL.of (I _ _ nM ag),eg,?_⟩;have z9:=z8.sb op I xr;have g1:g=-1\/g=1:=by simpa using hg
  refine⟨_,rfl,_,_,rfl,rfl,⟨ξ,ξ,ξ⟩,p,_,rfl,z9.hb,ξ,ξ,fun far pK _ _ pF nr=>⟨_,_,rfl,rfl,_,_,rfl,rfl,.inl ⟨ω,ω⟩,?_⟩⟩;exact J a p OR e d m _ pK (z9.sb op pF nr) v c X op k
end
end K66
end
section
namespace L2
open PySem PySem.Spec PyProof.Rows
def IC{K:Ac}{x:Str}{f c P:Addr}{d cc:Value}{e g:Option Addr}{b h:Array (Option Value)}{fd:FuncData}{vs:Array Value}(a:Rx K mainGlobals x=some (some (.ref f)))(l:K.lookup f=some ⟨d,e,.func fd,b⟩)(hc:fd.code=.ref c)(m:K.lookup c=some ⟨cc,g,.fields vs,h⟩)(i:(vs[11]?:Option Value)=some (.ref P)):Qr K x=some (c,P):=by
 unfold Qr;rw[a];simp only[l,hc,m,i]
def O7{K:Ac}{x:Str}{st:Stmt}{f c P:Addr}{fd:FuncData}(F:Fun K x x st f fd)(a:Rx K mainGlobals x=some (some (.ref f)))(t:Qr K x=some (c,P)):fd.code=.ref c:=by
 obtain⟨b,d,kV,e,g,h,cdv,ct,i,rfl,lk,j⟩:=F.ex;unfold Qr at t;rw[a] at t;simp only[lk] at t;cases cdv with
 |ref c2=>
  simp only at t;split at t
  ·split at t
   ·cases t;rfl
   ·cases t
  ·cases t
 |_=>cases t
end L2
end
section
namespace K66
open K1
open PySem L2 STb
def O8{K:Ac}{C h f1 f2 i j l:Addr}{o p:Bool}(a:Bd K (.ref C) "__getattribute__"=some (some (.builtin "BaseException.__getattribute__")))(b:Bd K (.ref C) "__getattr__"=some none)(q:PY K C j_ "ValueError.__new__"=true)(c:Bd K (.ref C) "__class__"=some (some (.builtin "object.__class__")))(d:Qu K (.builtin "object.__class__") "__get__"=some (some (.builtin "getset_descriptor.__get__")))(e:Q1 K (.builtin "object.__class__")=some true)(f:Qq K C (.type "object")=some true)(g:Qq K C (.type "BaseException")=some true)(r:A4 K (.ref C) (.ref h)=some false)(u:A4 K (.ref C) (.ref f1)=some false)(v:A4 K (.ref C) (.ref f2)=some false)(w:A4 K (.ref C) (.ref i)=some o)(x:A4 K (.ref C) (.ref j)=some p)(y:A4 K (.ref C) (.ref l)=some false)(A:A4 K (.ref C) (.type "ValueError")=some true):Mk K C h f1 f2 i j l o p:=⟨Nb a b q c d e f g,r,u,v,w,x,y,A⟩
def O9{K:Ac}{t:Addr}{a:Option Addr}{b:Array (Option Value)}{c d e f:Tok}{n:Nat}(l:K.lookup t=some ⟨.type "tuple",a,.seq #[.int 2 c,.int 3 d,.int 5 e,.int 7 f] n,b⟩):∀H,SqT K H t [.int 2,.int 3,.int 5,.int 7]:=
 fun H=>.inr ⟨_,_,_,l,rfl,rfl,by show 4<=sizeLine;rw[sizeLine_eq];decide,.cons ⟨_,rfl⟩ (.cons ⟨_,rfl⟩ (.cons ⟨_,rfl⟩ (.cons ⟨_,rfl⟩ .nil)))⟩
def O_{l:PySem.W.OpenLaw}{w:World}{K:Ac}{h:Heap}{mg:Str->Option Value}{fa f1 f2 f3 f4 f5 f6 f7 f8 f9 tE uP vN u8 xk yG uc wL t8 w4 yC tL wB uZ vC tW vH vZ tI wM xN wD tX xM wa bH fG i e1 e2 e3 b j eS aP:Addr}{tp tq ts:Tok}(X:K.In h)(G:h.Ns mainGlobals mg)(wk:mg "law"=some (.ref fa)){cO Pt:Addr}(hT:Qr K "youngest_of"=some (cO,Pt))(d1:Df K "is_piece" zc f1)(d2:Df K "rims_of" oY f2)(d3:Df K "seam_of" CI f3)(d4:Df K "seam_terms" pk f4)(d5:Df K "sum_of" jq f5)(d6:Df K "is_order" tu f6)(d7:Df K "must_be_order" Db f7)(d8:Df K "must_be_time" Ds f8)(d9:Df K "must_be_prime" Dc f9)(kN:Df K "bars" Dp tE)(wE:Df K "paper" tT uP)(wU:Df K "times_of" Dh vN)(xa:Df K "worked_off" Dn u8)(pZ:Df K "youngest_of" Di xk)(xz:Df K "taken_by" tD yG)(tG:Df K "times_into" tF uc)(wP:Df K "less_by" tH wL)(ul:Df K "alive" Dt t8)(x6:Df K "lasting" pM w4)(vX:Df K "_law_cell_at" Bs yC)(uQ:Df K "_law_box" k7 tL)(yH:Df K "_law_take" oR wB)(yR:Df K "_law_parts" oS uZ)(x4:Df K "_law_pieces" BE vC)(uj:Df K "_law_known" rE tW)(u1:Df K "_law_named" oV vH)(vq:Df K "_law_web" lj vZ)(yZ:Df K "_law_rims" rX tI)(tP:Df K "_law_order" um wM)(u_:Df K "_law_seam" t4 xN)(xb:Df K "_law_rank" ny wD)(xy:Df K "_law_lasting" nB tX)(x9:Df K "_law_which" p3 xM)(u5:Df K "_law_asked" DW wa)(yL:Df K "_law_one" lN bH)(qy:Df K "law" cK fG)(gp:Nn K "MOST_POINTS" (some (.int 5 tp)))(gq:Nn K "LAST_POINT" (some (.int 99 tq)))(gs:Nn K "MOST_PIECES" (some (.int 200 ts)))(yn:Nn K "NoWeb" (some (.ref i)))(tN:Nn K "NoPiece" (some (.ref e1)))(tS:Nn K "NoPush" (some (.ref e2)))(xR:Nn K "NoOrder" (some (.ref e3)))(o:Nn K "NoNumber" (some (.ref b)))(tJ:Nn K "NoChain" (some (.ref j)))(qg:Nn K "SeamError" (some (.ref eS)))(uH:Nn K "PRIMES" (some (.ref aP)))(hP:∀H,SqT K H aP [.int 2,.int 3,.int 5,.int 7])(q4:PY K b j_ "ValueError.__new__"=true)(M3:Mk K e3 i e1 e2 e3 b j true false)(M4:Mk K b i e1 e2 e3 b j false true)(S4:hZ K b eS)(z1:Nn K "len" none)(z2:Nn K "all" none)(z3:Nn K "zip" none)(z4:Nn K "sorted" none)(z5:Nn K "set" none)(z6:Nn K "list" none)(z7:Nn K "tuple" none)(z8:Nn K "range" none)(z9:Nn K "enumerate" none)(yi:Nn K "int" none)(uo:Nn K "isinstance" none)(vw:Nn K "reversed" none)(wS:Nn K "bool" none)(p:Nn K "dict" none)(q:Nn K "max" none)(uL:Nn K "ValueError" none):∃fd:FuncData,(∀(s:Shared)(v:Value),BindsTo s fd ⟨[v],[]⟩ [("script",v)])/\∀base:Heap,K.In base->base.Ns mainGlobals mg->BM mg base->PySem.W.CodeAll [(cO,Pt)] base->FnOk l.prog w K mg base aR 11 fa fd ["script"] (up K Pt):=by
 cases wk.symm.trans (qy.m X G);have B:Bt mg:=⟨z1.n X G,z2.n X G,z3.n X G,z4.n X G,z5.n X G,z6.n X G,z7.n X G,z8.n X G,z9.n X G,yi.n X G,uo.n X G,vw.n X G,wS.n X G⟩;obtain⟨g1,F1,b1,m1⟩:=d1.g1 X G "numbers";obtain⟨g2,r,x,y⟩:=d2.g1 X G "piece";obtain⟨g3,F3,b3,m3⟩:=d3.g1 X G "chain";obtain⟨g4,F4,b4,m4⟩:=d4.g2 X G "piece" "often";obtain⟨g5,u,A,C⟩:=d5.g1 X G "terms";obtain⟨g6,F6,b6,m6⟩:=d6.g1 X G "order";obtain⟨g7,F7,b7,m7⟩:=d7.g1 X G "order";obtain⟨g8,F8,b8,m8⟩:=d8.g2 X G "order" "time";obtain⟨g9,F9,b9,m9⟩:=d9.g1 X G "prime";obtain⟨Bo,D,wv,vn⟩:=kN.g2 X G "order" "prime";obtain⟨BX,E,sY,u4⟩:=wE.g2 X G "order" "prime";obtain⟨CC,F,uv,wz⟩:=wU.g1 X G "order";obtain⟨B2,I,wy,yu⟩:=xa.g4 X G "piece" "rows" "times" "prime";obtain⟨B_,d,sZ,ur⟩:=pZ.g2 X G "chain" "times";obtain⟨BO,J,vd,vS⟩:=xz.g2 X G "chain" "prime";obtain⟨Bm,L,xO,yS⟩:=tG.g3 X G "weight" "goal" "prime";obtain⟨BG,M,vQ,vT⟩:=wP.g4 X G "chain" "often" "other" "prime";obtain⟨BQ,N,xY,xl⟩:=ul.g4 X G "order" "prime" "high" "time";obtain⟨y6,O,uh,xL⟩:=x6.g5 X G "order" "prime" "high" "early" "late";obtain⟨CA,Q,vY,sX⟩:=vX.g2 X G "script" "k";obtain⟨Bi,S,xj,wZ⟩:=uQ.g1 X G "cell";obtain⟨Ce,f,T,U⟩:=yH.g2 X G "box" "most";obtain⟨B',wJ,vf,yD⟩:=yR.g1 X G "piece";obtain⟨BS,Y,uG,ug⟩:=x4.g1 X G "web";obtain⟨BY,ym,uS,x8⟩:=uj.g1 X G "number";obtain⟨BU,vI,ye,uC⟩:=u1.g2 X G "box" "web";obtain⟨B6,sP,vP,tU⟩:=vq.g1 X G "box";obtain⟨Bv,rV,wA,vo⟩:=yZ.g1 X G "piece";obtain⟨Ck,qT,uw,xW⟩:=tP.g2 X G "box" "known";obtain⟨Bj,sw,u7,wH⟩:=u_.g1 X G "chain";obtain⟨BR,rO,x_,uO⟩:=xb.g2 X G "rows" "prime";obtain⟨BL,se,tz,yM⟩:=xy.g5 X G "order" "prime" "high" "early" "late";obtain⟨BW,g,qW,qd⟩:=x9.g1 X G "e";obtain⟨BZ,sD,wc,uB⟩:=u5.g5 X G "order" "prime" "high" "early" "late";obtain⟨Bq,qS,vi,xf⟩:=yL.g4 X G "order" "prime" "high" "time";obtain⟨⟨gL,FL⟩,_⟩:=qy;have bR:=O7 d pZ.a hT;refine⟨gL,?_,fun base _ _ c oM=>?_⟩
 ·obtain⟨_,_,_,_,_,_,_,_,_,rfl,_,_⟩:=FL.ex;exact fun s v=>.of_eq rfl
 have Ci:=cU F1 b1 m1 (K4 (P:=l.prog) (w:=w) (base:=base) F1 B (gp.m X G) (gq.m X G));have Cr:=cU r x y (F5 (P:=l.prog) (w:=w) (base:=base) r B);have ue:=cU rV wA vo (L4 (P:=l.prog) (w:=w) (base:=base) rV B);have Gs:=Mg (mg:=mg) (P:=l.prog) (w:=w) (base:=base) u;have Cs:=cU u A C Gs;have Gt:=Mf (P:=l.prog) (w:=w) (base:=base) F4 B r x y;have Cm:=cU F3 b3 m3 (Mp F3 F4 b4 m4 Gt u A C Gs);have Co:=cU F7 b7 m7 (Nx F7 (cU F6 b6 m6 (Nv F6 B (gs.m X G) Ci Cr)));have Cp:=cU F9 b9 m9 (Nz (P:=l.prog) (w:=w) (base:=base) F9 (uH.m X G) hP);have s_:=cU F uv wz (NG (P:=l.prog) (w:=w) (base:=base) F B);have Cy:=cU d sZ ur (NI (P:=l.prog) (w:=w) (base:=base) d B (q.n X G) bR oM.1 c);have pQ:=cU J vd vS (NL (Pt:=Pt) J Cs);have wx:=cU L xO yS (NO (P:=l.prog) (w:=w) (base:=base) L B);have xx:=cU M vQ vT (NQ M B Cs pQ);have yy:=cU I wy yu (NS I B Cm pQ Cy wx xx);have xF:=cU E sY u4 (N5 E B Co Cp s_ yy Cy);have qO:=cU D wv vn (Oa D xF);have xG:=cU F8 b8 m8 (Oc (P:=l.prog) (w:=w) (base:=base) F8 B (o.m X G) q4);have rB:=cU O uh xL (Od O B (o.m X G) q4 Co Cp xG qO);have w9:=cU N xY xl (Of N rB);have Ct:=cU f T U (BB (P:=l.prog) (w:=w) (base:=base) f);have vm:=cU qT uw xW (O3 qT B Ct ue);have Cls:=cU sw u7 wH (Ol (P:=l.prog) (w:=w) (base:=base) sw B (p.n X G));have xo:=cU rO x_ uO (OF (P:=l.prog) (w:=w) (base:=base) rO B (p.n X G) (q.n X G));have xu:=cU se tz yM (OM se B (p.n X G) Cls xo);have pU:=ON (P:=l.prog) (w:=w) (base:=base) g B.isinstance (uL.n X G) (yn.m X G) (tN.m X G) (tS.m X G) (xR.m X G) (o.m X G) (tJ.m X G) M3 M4;have t6:=cU sD wc uB (OO sD (qg.m X G) rB g qW qd pU S4);have Con:=cU qS vi xf (OP qS (qg.m X G) w9 g qW qd pU S4);exact O6 FL B (q.n X G) (cU Q vY sX (K9 Q B)) (cU S xj wZ (K' S)) Ct (cU sP vP tU (Lq sP B f T U vI ye uC ym uS x8)) (cU Y uG ug (Le Y B wJ vf yD)) vm t6 Con xu qO
def walk{l:PySem.W.OpenLaw}{q:Program}{o:List Str}{E:(Str->Option Value)->Heap->Prop}{c:World->Heap->Prop}{d:DefRec}{K:Params->Ac}{b Pt:Addr}(r:l.most=some 63)(v:d.params.defaults=[])(y:∀(w:World)(h:Heap),c w h->(K w.params).In h)(A:∀p,R8 (K p)=true)(C:∀p,Qr (K p) "youngest_of"=some (b,Pt))(D:((PyProof.Rows.recsOf q).find? (fun e=>e.name==("youngest_of":Str))).isSome=true)(F:∀(w:World)(mg:Str->Option Value)(fa:Addr)(h:Heap),(K w.params).In h->h.Ns mainGlobals mg->mg d.name=some (.ref fa)->
   ∃fd:FuncData,(∀(s:Shared)(u:Value),BindsTo s fd ⟨[u],[]⟩ [("script",u)])/\∀base:Heap,(K w.params).In base->base.Ns mainGlobals mg->BM mg base->PySem.W.CodeAll [(b,Pt)] base->FnOk l.prog w (K w.params) mg base aR 11 fa fd ["script"] (up (K w.params) Pt)):
  PySem.W.WalkO q o E c l.row.toRowW d [] (fun f vs=>PySem.call f vs):=
 L2.Nh (n:=63) (k:=11) (x:="script") (CX:=aR) (sp:=fun w=>up (K w.params) Pt) (tabs:=[(b,Pt)]) (xs:=["youngest_of"]) r ξ v ⟨rfl,ξ,ξ⟩ y A (fun p=>by show [Qr (K p) "youngest_of"]=[some (b,Pt)];rw[C p]) (fun x hx=>by rw[Pb.mp hx];exact D) F
  (fun w H a ns g i j=>⟨a,ns,rfl,i,g,j _ (Pb.mpr rfl),fun _=>rfl⟩) fun _ _ _ _ z=>z
end K66
open PySem PySem.W PyProof.Rows
structure PySem.W.Fast:Prop where
 (tw10026083688349505029 tw10104376964202468666 tw1012962844658640104 tw10155557608719856466 tw10159905505520838587 tw10204966742320313998 tw10220954677616186264 tw10237233331590481289 tw10319918568940789420 tw10338561249391634153 tw10444029268743688321 tw1045720185610595269 tw10509150990868459217 tw1060429779182617256 tw10651051387715628796 tw10733423167065902967 tw10794883724679093533 tw10800844238525603966 tw10824734557252247658 tw1111977042255895106 tw11154749874718942990 tw11169572620612887143 tw11236434183768868539 tw11254475610158174054 tw11370502600788443434 tw11455147219512210219 tw1146439746259759721 tw11541222785131553444 tw11547351817638632576 tw11663990590585250215 tw11753255554194638249 tw11933773548741799578 tw11963193629054045266 tw11963569003627546399 tw12002904214259568804 tw12024766709298344200 tw12054439513985735506 tw1211570607202892237 tw12161185239219946246 tw12200402296413586947 tw12218463468866320733 tw1230698753059738929 tw12315533419310026983 tw1232710259767787937 tw12449775720082707167 tw12636777223284114730 tw12675176176009572420 tw1267660644743735110 tw12690949254764163636 tw12731608009683253464 tw12750148394654864144 tw12797482741053448312 tw12862961452846654244 tw12873722737115226551 tw12947612224760943064 tw12957750276468012858 tw12971123912871203730 tw13049160403798148549 tw13053743878409255136 tw13062233985282928605 tw1307602481366202433 tw13219656986535647032 tw13278337797722328889 tw13341661857500841297 tw13378710629356857659 tw13395590226957084775 tw13542643927481309779 tw13642865628390069632 tw13652672224065348187 tw13661901769636389450 tw13696178879000574834 tw13796918549062576463 tw13904431258424993473 tw14106175260916627964 tw14129582450884417998 tw14139058588235361628 tw14203320942506114542 tw1423344805697045771 tw14251375149400812308 tw14373121957738160907 tw14464269878317579488 tw1452232707541304294 tw14527303544282174988 tw14546017639817280203 tw14555820520836368563 tw14701931140320890007 tw14725199117999185520 tw14735565725576232693 tw14753752247303174646 tw14813988811709378392 tw14844356975519867991 tw14874555061495796887 tw15059916904947854341 tw15164799113249302437 tw15229479221587555660 tw15271018726749429043 tw1536710739349984334 tw15450726428305587712 tw15470522821820568313 tw15522846427279493119 tw15553638995384312847 tw15878505312353991500 tw15893296464089574962 tw15921729017894966349 tw15933242441592683804 tw16020983716690548434 tw16059783446548912142 tw16110570142621962367 tw16263079178929525783 tw16297105154555365004 tw16313937169897215803 tw1631501310550166840 tw16451207322420182713 tw16528634919978949 tw16608559336449143369 tw16681754196719131011 tw16703639983278866971 tw16720438291056393244 tw16731776566489631833 tw16763651419538938262 tw16764262541707042821 tw16809030078944083377 tw16851656172948029829 tw1698099708035309227 tw17111912732908356379 tw17233781177821349804 tw17253324230674933554 tw17382585968155143625 tw17432266966314132972 tw17439858196555316465 tw17443792626806769667 tw17489190029111970435 tw17549351892610643162 tw17736964120416605814 tw17797379692388714609 tw17801000752118145547 tw1780155254645069651 tw17838766536976950993 tw17842545297744519910 tw18032688958625819105 tw18101534310875648324 tw18173986466496938284 tw18201830940603847408 tw18208286656646310679 tw18212194862285235152 tw18213423033720134794 tw18305534016360832204 tw18319657306455793953 tw18349637797408070905 tw18358505201721960026 tw18372787814701698708 tw1891509110639617522 tw2030211474333821650 tw2063436427694121679 tw2113250553352477698 tw2176582451098705637 tw2371331863233686999 tw2371804087416370754 tw2412055193503360076 tw2432825106128293047 tw2590696001603312241 tw2786813615114861811 tw2814318302733645301 tw2840405526406099299 tw2921042134377140330 tw2937075542870198804 tw3003637337238335247 tw3014948955740548360 tw304730997289512060 tw3048260701305970150 tw306827052295844109 tw3101058704281115152 tw313806977715715333 tw3209432925543594255 tw3247490011125078708 tw3248643156345109296 tw3288276216936512698 tw3323596256304678796 tw3487951979796526881 tw3514519457556000739 tw3571407829269917405 tw3775395601583039385 tw3804543347065359878 tw3807567195201848167 tw3821409285810581553 tw3840289565607143240 tw3883738392900505603 tw3976282819106612550 tw4001085578146848835 tw4018775393977648833 tw4035310637315641472 tw4144005802868066471 tw4169368699171000058 tw4180306886147767171 tw424685614656063235 tw4326143749731530877 tw4338637065344178970 tw4350572778772666878 tw4419016945474270043 tw4422883174595549495 tw4507378042292217738 tw455189162577395387 tw4713129439249260825 tw4834126137394723155 tw4843730613340577036 tw4969882225293801803 tw5009576824572355117 tw5134911381261380099 tw5137150826409557168 tw5180484471072427754 tw5263280066031880019 tw5287029195519975090 tw5313247844453700070 tw5368403183051980088 tw5450472875379643479 tw5488144530933415859 tw5494466324575790930 tw5552879408437581211 tw5609097474879881647 tw5746355146073061442 tw5750026609417921770 tw5759489803645529297 tw5811225957535856668 tw5866714051222811494 tw5867331783007129264 tw5877911297270742898 tw5929466312271558498 tw6006105615631098503 tw6010550055992761167 tw6028853494289786342 tw603206125681276295 tw6141641919089903090 tw6204455861968096054 tw6235113304223935616 tw6257200369886955239 tw6295327889537647293 tw6295543214802686732 tw6553974569586623566 tw6596101042305494112 tw6652626760793831056 tw6741922373182800572 tw6755142582195359863 tw6785690369130992012 tw6786466386906070768 tw6797488875363051098 tw6825836277971155775 tw6838815552579017662 tw685267287276416305 tw6881831995951984016 tw6960696174248909508 tw6991144641557910638 tw7010767713954227354 tw7045487067625856971 tw7083630205661317275 tw7160132015035280976 tw7196992121323247017 tw7261011430012522788 tw7330232939124343462 tw7363521808584967926 tw7513058689730558723 tw7548593600024928300 tw7593479816066522109 tw7594573097694312690 tw764207380897413836 tw7712303647333939271 tw7713138677160747560 tw7735698514739906065 tw7767263882515185493 tw7850345123755267736 tw7892232381586309027 tw7952019537439459558 tw8150061862839934730 tw8225642393720688369 tw8243898439353652230 tw8258114152421912388 tw8390484900446160996 tw8470651122452484564 tw8555061006630526108 tw8572051815933335587 tw8615183960047311519 tw861718689620210899 tw87047135888183853 tw8733958614096003856 tw8771041374740237618 tw8801308172059345745 tw8877068256163999160 tw8957238289339747362 tw8959966618534077851 tw9031355074715529981 tw9047627842725227788 tw9076139579307705227 tw9174175037594961570 tw9183210173166499500 tw9188688870093962997 tw9199315865703577617 tw9234716998315848045 tw9272480536891072777 tw9334669281087732323 tw95402927337899924 tw956881937875367955 tw9708313977651948179 tw9735000926934961658 tw9739734923949353301 tw9820334843716597511 tw9822149962171322817 tw9823356055335552816 tw9945730211590782895 tw9980579215620495964:True)
set_option maxRecDepth 100000 in
set_option maxHeartbeats 0 in
theorem PySem.Challenge.cw_seamwright_k66_whole_holes_at_times_holds : PySem.Challenge.rw_seamwright_k66_whole_holes_at_times.Holds := by
 w_on; o_law; k_head; (case hw=>w_witness2)
 k_fill
 refine' K66.walk (l:=PySem.Challenge.rw_seamwright_k66_whole_holes_at_times) rfl rfl (fun w h Y=>PySem.W.km_in_of Y) (fun _=>by kernel_rfl) ?T ?R ?F
 case T=>
  intro p;refine' L2.IC ?a ?l ?c ?m ?v
  (case a=>k_is)
  (case l=>k_is)
  (case c=>rfl)
  (case m=>k_is)
  (case v=>rfl)
 case R=>decide +kernel
 case F=>
  intro w mg fa h KX G fH;refine' K66.O_ KX G fH ?_ ?_ ?_ ?_ ?_ ?_ ?_ ?_ ?_ ?_ ?_ ?_ ?_ ?_ ?_ ?_ ?_ ?_ ?_ ?_ ?_ ?_ ?_ ?_ ?_ ?_ ?_ ?_ ?_ ?_ ?_ ?_ ?_ ?_ ?_ ?_ ?_ ?_ ?_ ?_ ?_ ?_ ?_ ?_ ?_ ?_ ?_ ?_ ?_ ?_ ?_ ?_ ?_ ?_ ?_ ?_ ?_ ?_ ?_ ?_ ?_ ?_ ?_ ?_ ?_ ?_ ?_ ?_ ?_
  all_goals try first | (refine' L2.IC ?a ?l ?c ?m ?v; (case a=>k_is); (case l=>k_is); (case c=>rfl); (case m=>k_is); (case v=>rfl)) | refine' L2.C8 ?_ ?_ ?_ ?_ | refine' L2.Nn.mk ?_ | refine' K66.O9 ?_ | refine' K66.O8 ?_ ?_ ?_ ?_ ?_ ?_ ?_ ?_ ?_ ?_ ?_ ?_ ?_ ?_ ?_ | refine' L2.M' ?_ ?_ ?_
  all_goals try first | k_is | kit_is | k_exc
#print axioms PySem.Challenge.cw_seamwright_k66_whole_holes_at_times_holds
end
