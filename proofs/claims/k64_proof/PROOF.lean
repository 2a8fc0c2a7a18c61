import PyProof.Rows.All
import Wide.All
import OpenK.AllK
import Wide.FinOn
import Lean
import PyProof.EqAt
import PyProof.EqKinds
import PyProof.TupleCall
import PyProof.Rows.SortRuns
import KE.KSortKey
import KE.KListMore
import KE.KIntText
import KE.KEqDat
import PyProof.Rows.CallKwBuiltin
import PySem.SetTable
import PyProof.Rows.SetFrom
import PyProof.TupleKey
import PyProof.IsRules
import KE.KRevIter
import PyProof.ListRange
import PyProof.TupleOfGen
import PyProof.CollectIter
import PySem.Challenge.RW_seamwright_k64_whole_right_papers_of_bar
import KE.KDictLaws
import PyProof.DictWalks
import PyProof.DictItems
import PyProof.SetNew
import PyProof.DictCopy
import PyProof.FactsAll.dict_1
import PyProof.FactsAll.set_2
import PyProof.FactsAll.subtypes_5
import PyProof.AttrMissHeap
import PyProof.MinMaxWalk
import PyProof.SumAny
import PyProof.StationsW
import PyProof.ExcClass3
import OpenK.KOwn
import PyProof.ExcArgsOwn
import KE.KLam
import KE.KMinKey
import PyProof.DictTruth
import PyProof.DictFindH
import PyProof.NeKinds
import KE.KDictList
import KE.KDictSum
open PySem renaming wpAny_bind->Aa,wpAny_pure->Ac,wpAny_newObj_type->AI,wpAny_dictEntries->AJ,wpAny_call_entry->AK,wpAny_callSpecial?_slot->AN,wpAny_holding->AU,bootBuiltins->AZ,compareOp->A2,mem_of_lookup->A8,wpAny_field->Ba,sysModules->Bc,wpAny_setField_rec->Be,codeAny_builtin->Bh
open List renaming length_map->Ab,getElem?_map->Ag,getElem?_eq_getElem->Ah,mem_of_getElem?->Ai,map_append->Aj,map_map->Am,size_toArray->Ao,length_append->Ar,take_of_length_le->As,map_cons->At,mem_cons_of_mem->Aw,map_congr_left->Ax,mem_cons_self->Ay,length_cons->AB,length_take->AC,range->AD,mem_append_right->AG,mem_append_left->AR,pairwise_map->AX,lookup_cons->AY,append_assoc->A1,filter_append->Bf,getElem_mem->Bi,nodup_append->Bj,flatMap_cons->Bk
open PySem.Heap renaming get?_push_of_some->Ad,get?_push_size->Ak,lt_size->Aq
open PySem.W renaming Frag->Ae
open Nat renaming le_refl->Af,ne_of_lt->Au,lt_of_lt_of_le->Az,le_trans->AA,ne_of_gt->A3,zero_le->A6,lt_succ_of_lt->Bb
open Option.some renaming inj->Al,injEq->AW
open Bool renaming false_ne_true->An,false_eq_true->Av,and_eq_true->AM
open Array renaming length_toList->AE,toList_append->A9
open PyProof.Rows renaming pendingOf->AF,take_snoc->AH
open PySem.PassesOwn renaming never->AL
open PySem.Heap.SameBut renaming update->AO
open Option renaming map_some->AQ
open PySem.Obj renaming mapSeq->AS
open PySem.Paired renaming length->A0
open PySem.Around renaming under_plainId->A4
open PySem.PyData renaming int->A5
open PySem.NameKind renaming free->A7
open Int renaming dvd_trans->Bd
open PySem.Str renaming ofString->Bg
open List renaming getElem?_eq_some_iff->KK,mem_map->Qj,mem_cons->Qk,mem_singleton->Ql,mem_append->Qm,mem_iff_getElem?->Qn,mem_flatMap->Qo,nodup_cons->Qp,pairwise_append->Qq,all_eq_true->Qs,pairwise_iff_getElem->Qu,mem_range->Qv,getElem?_take_of_lt->Qw,mem_filter->Qx,getElem?_append_right->Qy,getElem?_append_left->QC,append_nil->QD,length_drop->QE,nodup_nil->QH,find?_cons->QK,length_range->QR,take_append_drop->QS,getElem?_eq_none->QU,sum_cons->QX,length_nil->QY,filter_cons_of_neg->Q3,filter_cons_of_pos->Q4,getElem?_inj->Q6,pairwise_cons->Q9,eq_nil_of_length_eq_zero->Rb,foldl_cons->Re,getElem?_range->Rg,drop_eq_getElem_cons->Rl,extract_eq_drop_take->Rn,getElem?_zip_eq_some->Ro,mem_iff_getElem->Rq,mem_of_mem_take->Rr,getElem?_of_mem->Rs,getElem?_cons_succ->Rv,any_eq_true->Rw,map_inj_right->RC,length_zip->RD,map_drop->RE,length_filter_le->RF,ext_getElem?->RH,foldl_append->RJ,getElem?_zipIdx->RS,filter_cons->RU,not_mem_nil->RW,filterMap_cons->R0,reverse_append->R1,flatMap_append->R5,mem_map_of_mem->R7,length_pos_iff->R8,zipIdx_map_fst->R9,any_cons->Sb,filter_nil->Sd,length_zipIdx->Sf,any_eq_false->Si,map_nil->Sl,take_add_one->Sq,perm_append_comm->Sz,map_fst_zip->SB,sublist_map_iff->SC,of_mem_zip->SE,forIn_cons->SH,filter_sublist->SK,map_id'->SL,all_map->SO,mem_filterMap->SQ,zip_cons_cons->SS,getElem?_drop->SV,map_take->S5
open Option renaming map_eq_some_iff->Qr,isSome_iff_exists->Ra,getD_some->RV,isSome_map->SZ
open PySem.F renaming plainAttrs_list->Qt,slot_list_append->QF,type_list_append->QG,plain_max_loop->QM,slot_dict_valueiterator_next->QO,slot_dict_itemiterator_next->QW,slot_dict_keyiterator_next->Q1,plain_extend_loop->Q8,args_dict_valueiterator_next_1->RR,entry_dict_valueiterator_next->RY,args_dict_itemiterator_next_1->RZ,args_dict_keyiterator_next_1->R3,entry_dict_itemiterator_next->R6,args_tuple_add_2->Sa,entry_dict_keyiterator_next->Sc,entry_tuple_add->Sg,plainAttrs_dict->Sh,slot_tuple_add->Sk,entry_max_loop->Sx,slot_dict_get->Sy,slot_dict_values_iter->SD,slot_dict_items_iter->SI
open Int renaming eq_ofNat_of_zero_le->Qz,dvd_mul_left->QA,toNat_natCast->QB,le_refl->QI,dvd_zero->QL,dvd_sub->QP,dvd_add->QQ,le_trans->QZ,le_of_lt->Q0,emod_lt_of_pos->Q2,dvd_of_emod_eq_zero->Rc,emod_nonneg->Rf,dvd_mul_right->RK,le_of_dvd->S6,mul_zero->Tb,mul_emod->Tc
open PySem.W renaming kia_one->QJ,cellsFrom_some->Ri,tabIn->Rk,mg_of->Ru,fnOf->Rx,ke_sameAll->Se,keepIn->Sj,kla_fn->Sv,tabObj->Sw,kla_obj->SJ,nsIn->SM,envX->SN,codeIn->SR,methodObj->SX,plainGet->S7,kdl_call->S9,instObj->Td,lookIn->Te,findIn->Tf,noTabs->Tg
open Array renaming getElem?_eq_getElem->QN,getElem?_toList->QT,size_extract->Ry,toList_push->RG,perm_iff_toList_perm->RN,toList_extract->RO,getElem?_eq_some_iff->RP,toList_reverse->RQ,getElem?_eq_none->Su
open Bool renaming not_true->QV,eq_iff_iff->Rp,and_false->Sn,not_eq_true'->S4
open Nat renaming le_of_lt->Q5,lt_or_ge->Rj,lt_irrefl->Rt,le_succ->RM,lt_trans->RT,le_add_right->RX,add_zero->Sr,le_succ_of_le->Ss,lt_succ_self->SA,min_eq_left->SG,add_sub_cancel->SU,lt_or_gt_of_ne->SW,le_of_succ_le->S0,min_le_right->S8,zero_add->Ta
open PyProof.Rows renaming slot_tuple_getitem->Q7,callWith_type1->Rh
set_option linter.all false
set_option compiler.extract_closed false
set_option Elab.async false
set_option maxRecDepth 100000
set_option maxHeartbeats 4000000
theorem Th{c:Prop}{h:Decidable c}(x:c){α:Sort _}{t e:α}:@ite α c h t e=t:=if_pos x
theorem Ti{c:Prop}{h:Decidable c}(x:¬c){α:Sort _}{t e:α}:@ite α c h t e=e:=if_neg x
theorem Tj{p:Prop}[Decidable p](h:p):decide p=true:=decide_eq_true h
theorem Tk{p:Prop}[Decidable p](h:¬p):decide p=false:=decide_eq_false h
theorem Tl{p:Prop}[Decidable p](h:decide p=true):p:=of_decide_eq_true h
def δ{p:Prop}(h:p:=by decide +kernel):p:=h
def ω{p:Prop}(h:p:=by omega):p:=h
def ξ{p:Prop}(h:p:=by decide):p:=h
abbrev Ω:=PySem.Value->PySem.Shared->Prop
abbrev Ξ:=List (List Int)
abbrev Ψ:=List (PySem.Addr×PySem.Obj)
local macro_rules|`($s⁻¹)=>`(($s).heap.objs.size)
section
namespace L2
open PySem PySem.Spec PyProof.Rows
abbrev Key:=Sum Int Str
noncomputable def lQ:Key->Value->Bool
 |.inl k,v=>Value.isInt k v
 |.inr x,v=>Value.isStrOf x v
noncomputable def x0(w:World):Key->Int
 |.inl k=>hashInt k
 |.inr x=>hashStr w x
def aT:∀{k:Key}{v:Value},lQ k v=true->(∃i t,k=Sum.inl i/\v=Value.int i t)\/(∃x t,k=Sum.inr x/\v=Value.str x t)
 |.inl i,v,h=>by
  obtain⟨t,e⟩:=Value.isInt_shape (k:=i) (v:=v) h;exact .inl ⟨i,t,rfl,e⟩
 |.inr x,v,h=>by
  obtain⟨t,e⟩:=Value.isStrOf_shape (x:=x) (v:=v) h;exact .inr ⟨x,t,rfl,e⟩
def Jv(i:Int)(t:Tok):lQ (.inl i) (.int i t)=true:=by simp[lQ,Value.isInt]
def Jw(x:Str)(t:Tok):lQ (.inr x) (.str x t)=true:=by simp[lQ,Value.isStrOf]
def Jx(a b:Int):decide ((Sum.inl a:Key)=Sum.inl b)=(a==b):=by
 by_cases e:a=b
 ·subst e;simp
 ·have h:¬(Sum.inl a:Key)=Sum.inl b:=fun q=>e (Sum.inl.inj q)
  rw[Tk h];exact(beq_eq_false_iff_ne.mpr e).symm
def Jy(a b:Str):decide ((Sum.inr a:Key)=Sum.inr b)=decide (a=b):=by
 by_cases e:a=b
 ·subst e;simp
 ·have h:¬(Sum.inr a:Key)=Sum.inr b:=fun q=>e (Sum.inr.inj q)
  rw[Tk h,Tk e]
def Jz(a:Int)(b:Str):decide ((Sum.inl a:Key)=Sum.inr b)=false:=Tk (fun q=>nomatch q)
def JA(a:Str)(b:Int):decide ((Sum.inr a:Key)=Sum.inl b)=false:=Tk (fun q=>nomatch q)
noncomputable def zB(prog:Program)(w:World):PySem.KeyKind prog w Key where
 is:=lQ
 hash:=x0 w
 inj:=fun v a b ha hb=>by
  rcases aT ha with ⟨i,t,rfl,rfl⟩|⟨x,t,rfl,rfl⟩
  ·rcases aT hb with ⟨j,u,rfl,e⟩|⟨y,u,rfl,e⟩
   ·injection e with e1 _;rw[e1]
   ·exact nomatch e
  ·rcases aT hb with ⟨j,u,rfl,e⟩|⟨y,u,rfl,e⟩
   ·exact nomatch e
   ·injection e with e1 _;rw[e1]
 byValue:=fun k v h=>by
  rcases aT h with ⟨i,t,rfl,rfl⟩|⟨x,t,rfl,rfl⟩<;>rfl
 pyHash:=fun c h=>by
  rcases aT c with ⟨i,t,rfl,rfl⟩|⟨x,t,rfl,rfl⟩
  ·exact wpAny_pyHash_int h
  ·exact wpAny_pyHash_str h
 eqBool:=fun hu c h=>by
  rcases aT hu with ⟨i,t,rfl,rfl⟩|⟨x,t,rfl,rfl⟩
  ·rcases aT c with ⟨j,u,rfl,rfl⟩|⟨y,u,rfl,rfl⟩
   ·rw[Jx] at h;exact wpAny_eqBool_int h
   ·rw[Jz] at h;exact SeqAt.EqAt.int_str i t y u _ _ _ _ h
  ·rcases aT c with ⟨j,u,rfl,rfl⟩|⟨y,u,rfl,rfl⟩
   ·rw[JA] at h;exact SeqAt.EqAt.str_int x t j u _ _ _ _ h
   ·rw[Jy] at h;exact wpAny_eqBool_str h
 «strs»:=fun k x t v h=>by
  rcases aT h with ⟨i,u,rfl,e⟩|⟨y,u,rfl,e⟩
  ·exact nomatch e
  ·injection e with e1 _
   subst e1;cases v<;>rfl
def x3(prog:Program)(w:World)(i:Int)(t:Tok):(zB prog w).is (.inl i) (.int i t)=true:=Jv i t
def JB(prog:Program)(w:World)(x:Str)(t:Tok):(zB prog w).is (.inr x) (.str x t)=true:=Jw x t
inductive V where
 |non|bl (b:Bool)|int (i:Int)|str (x:Str)|byt (b:Array UInt8)|flt (b:UInt64)|ref (a:Addr)|ty (n:String)
 deriving DecidableEq
def RelV:V->Value->Prop
 |.non,u=>u=Value.none
 |.bl b,u=>u=Value.bool b
 |.int i,u=>∃t,u=Value.int i t
 |.str x,u=>∃t,u=Value.str x t
 |.byt b,u=>∃t,u=Value.bytes b t
 |.flt b,u=>∃t,u=Value.float b t
 |.ref a,u=>u=Value.ref a
 |.ty n,u=>u=Value.type n
abbrev Vals:List V->List Value->Prop:=Paired RelV
def Vals.length{xs:List V}{us:List Value}(r:Vals xs us):xs.length=us.length:=A0 r
def Vals.get:∀{xs:List V}{us:List Value}{i:Nat}{x:V},Vals xs us->xs[i]?=some x->∃u,us[i]?=some u/\RelV x u
 |_,_,_,_,.nil,e=>by simp at e
 |_,_,0,_,.cons r _,e=>by simp at e;subst e;exact⟨_,rfl,r⟩
 |_,_,i+1,x,.cons _ t,e=>by
  obtain⟨u,h1,h2⟩:=Vals.get (i:=i) (x:=x) t (by simpa using e);exact⟨u,by simpa using h1,h2⟩
def Vals.set{x:V}{u:Value}(r:RelV x u):∀{xs:List V}{us:List Value}(i:Nat),Vals xs us->Vals (xs.set i x) (us.set i u)
 |_,_,_,.nil=>.nil
 |_,_,0,.cons _ t=>.cons r t
 |_,_,i+1,.cons q t=>.cons q (Vals.set r i t)
def Vals.append{xs ys:List V}{us a:List Value}(h:Vals xs us)(g:Vals ys a):Vals (xs++ys) (us++a):=by
 induction h with
 |nil=>exact g
 |cons r _ ih=>exact .cons r ih
def Vals.take:∀{xs:List V}{us:List Value}(n:Nat),Vals xs us->Vals (xs.take n) (us.take n)
 |_,_,0,_=>.nil
 |_,_,_+1,.nil=>.nil
 |_,_,n+1,.cons r t=>.cons r (Vals.take n t)
def Vals.drop:∀{xs:List V}{us:List Value}(n:Nat),Vals xs us->Vals (xs.drop n) (us.drop n)
 |_,_,0,r=>r
 |_,_,_+1,.nil=>.nil
 |_,_,n+1,.cons _ t=>Vals.drop n t
def RelO:Option V->Option Value->Prop
 |some v,some u=>RelV v u
 |none,none=>True
 |_,_=>False
def KV{κ:Type}:List (κ×V)->List (κ×Value)->Prop:=Paired fun(p:κ×V)(q:κ×Value)=>p.1=q.1/\RelV p.2 q.2
noncomputable def kV:Key->V
 |.inl i=>.int i
 |.inr x=>.str x
inductive HO where
 |lst (xs:List V)
 |tup (xs:List V)
 |dK (kvs:List (Key×V))|dT (kvs:List (List Key×V))
 |set (S:Int->Bool) (n:Nat)
 |ins (C dx:Addr) (fs:List (Str×V))
 |own (x:Addr)
 |xd (fs:List (Str×V))
 |met (f x:Addr)
 |rng (lo hi:Int)
 |frz (o:Obj) (u:HO)
 |tbl (ps:Array Value)
 |ext (φ:Heap->Prop)
abbrev Hp:=Addr->Option HO
noncomputable def upd(H:Hp)(a:Addr)(o:HO):Hp:=fun b=>if b=a then some o else H b
def ae{H:Hp}{a:Addr}{o:HO}:upd H a o a=some o:=by unfold upd;rw[Th rfl]
def ah{H:Hp}{a b:Addr}{o:HO}(h:b≠a):upd H a o b=H b:=by unfold upd;rw[Ti h]
def JC{H:Hp}{a:Addr}{o u:HO}:upd (upd H a o) a u=upd H a u:=by
 funext b;unfold upd;split<;>rfl
def aV{H:Hp}{a b:Addr}{o u:HO}(h:H a=some o)(h':H b=some u)(d:o≠u):a≠b:=by
 intro e;subst e;rw[h] at h';exact d (Al h')
def zj{H:Hp}{a b:Addr}{o:HO}(h:H a=some o)(h':H b=none):a≠b:=by
 intro e;subst e;rw[h] at h';cases h'
section
variable(P:Program)(w:World)
def zC(H:Hp)(h:Heap)(a:Addr):HO->Prop
 |.lst xs=>xs.length<=sizeLine/\∃(af:List Value)(n:Nat),Vals xs af/\h.get? a=some {cls:=.type "list",data:=.seq af.toArray n}
 |.tup xs=>xs.length<=sizeLine/\∃af:List Value,Vals xs af/\IsTup h a af.toArray
 |.dK kvs=>kvs.length<=sizeLine/\(a==Bc)=false/\∃vs,KV kvs vs/\h.DictOf (zB P w) a vs
 |.dT kvs=>kvs.length<=sizeLine/\(a==Bc)=false/\∃xs:List (List Key×Addr×Value),
   Paired (fun(p:List Key×V)(q:List Key×Addr×Value)=>p.1=q.1/\H q.2.1=some (.tup (p.1.map kV))/\RelV p.2 q.2.2) kvs xs/\
   ∃o es ep,h.get? a=some o/\o.ExactDict/\o.data=.dict es ep/\es.toList=xs.map (entryOfKey (tupleKind (zB P w)))/\(xs.map (·.1)).Nodup
 |.set S n=>h.SetOf (intKind P w) a S n
 |.ins C dx fs=>H dx=some (.own a)/\fs.length<=1000/\dx≠a/\h.get? a=some (Td C dx)/\
   ∃mA,h.Ns1 dx mA/\(∀f,RelO (fs.lookup f) (mA f))/\PySem.Within mA (fs.map (·.1))
 |.own _=>∃o,h.get? a=some o
 |.xd fs=>∃mA,h.Ns1 a mA/\∀f,RelO (fs.lookup f) (mA f)
 |.rng lo hi=>∃t u v,h.get? a=some {cls:=.type "range",data:=.fields #[.int lo t,.int hi u,.int 1 v]}
 |.frz o u=>h.get? a=some o/\zC H h a u
 |.tbl ps=>h.get? a=some {cls:=.none,data:=.fields ps}
 |.met f x=>h.get? a=some (SX (.ref f) (.ref x))
 |.ext φ=>φ h/\(∃o,h.get? a=some o)/\∀h1 h2:Heap,φ h1->(∀o,h1.get? a=some o->h2.get? a=some o)->φ h2
def HOk(H:Hp)(h:Heap):Prop:=∀a o,H a=some o->zC P w H h a o
end
section
variable{P:Program}{w:World}{H H':Hp}{h h':Heap}{a:Addr}{o:HO}
def zC.lt(x:zC P w H h a o):a<h.objs.size:=by
 cases o with
 |lst xs=>obtain⟨_,_,_,_,e⟩:=x;exact Aq e
 |tup xs=>obtain⟨_,_,_,p⟩:=x;exact p.lt
 |dK kvs=>obtain⟨_,_,_,_,o,_,_,e,_⟩:=x;exact Aq e
 |dT kvs=>obtain⟨_,_,_,_,o,_,_,e,_⟩:=x;exact Aq e
 |set S n=>obtain⟨o,_,_,_,e,_⟩:=x;exact Aq e
 |ins C dx fs=>obtain⟨_,_,_,e,_⟩:=x;exact Aq e
 |own y=>obtain⟨_,e⟩:=x;exact Aq e
 |xd fs=>obtain⟨_,⟨_,_,_,e,_⟩,_⟩:=x;exact Aq e
 |rng lo hi=>obtain⟨_,_,_,e⟩:=x;exact Aq e
 |frz ob u=>obtain⟨e,_⟩:=x;exact Aq e
 |tbl ps=>exact Aq (show h.get? a=some _ from x)
 |met f y=>exact Aq (show h.get? a=some _ from x)
 |ext φ=>obtain⟨_,⟨_,e⟩,_⟩:=x;exact Aq e
def Paired.mapP{c d:Type}{F G:c->d->Prop}{l₁:List c}{l₂:List d}(h:Paired F l₁ l₂)(f:∀a b,F a b->G a b):Paired G l₁ l₂:=by
 induction h with
 |nil=>exact .nil
 |cons r _ ih=>exact .cons (f _ _ r) ih
def zC.stay(x:zC P w H h a o)(k:∀b u,(b=a\/H b=some (.own a))->h.get? b=some u->h'.get? b=some u)(i:∀b,H b=some (.own a)->H' b=some (.own a))(ht:∀b xs,H b=some (.tup xs)->H' b=some (.tup xs)):zC P w H' h' a o:=by
 induction o with
 |lst xs=>obtain⟨z,af,n,r,e⟩:=x;exact⟨z,af,n,r,k _ _ (.inl rfl) e⟩
 |tup xs=>obtain⟨z,af,r,ob,e,c⟩:=x;exact⟨z,af,r,ob,k _ _ (.inl rfl) e,c⟩
 |dK kvs=>obtain⟨z,y,vs,r,ob,es,ep,e,c⟩:=x;exact⟨z,y,vs,r,ob,es,ep,k _ _ (.inl rfl) e,c⟩
 |dT kvs=>
  obtain⟨z,y,xs,r,ob,es,ep,e,c⟩:=x;exact⟨z,y,xs,Paired.mapP r fun p q z=>⟨z.1,ht _ _ z.2.1,z.2.2⟩,ob,es,ep,k _ _ (.inl rfl) e,c⟩
 |set S n=>obtain⟨ob,es,ep,t,e,c⟩:=x;exact⟨ob,es,ep,t,k _ _ (.inl rfl) e,c⟩
 |ins C dx fs=>
  obtain⟨d,z,ne,e,mA,⟨g,es,ep,e2,c⟩,r⟩:=x;exact⟨i _ d,z,ne,k _ _ (.inl rfl) e,mA,⟨g,es,ep,k _ _ (.inr d) e2,c⟩,r⟩
 |own y=>obtain⟨ob,e⟩:=x;exact⟨ob,k _ _ (.inl rfl) e⟩
 |xd fs=>obtain⟨mA,⟨g,es,ep,e,c⟩,r⟩:=x;exact⟨mA,⟨g,es,ep,k _ _ (.inl rfl) e,c⟩,r⟩
 |rng lo hi=>obtain⟨t,u,v,e⟩:=x;exact⟨t,u,v,k _ _ (.inl rfl) e⟩
 |frz ob u ih=>obtain⟨e,q⟩:=x;exact⟨k _ _ (.inl rfl) e,ih q⟩
 |tbl ps=>
  have e:h.get? a=some {cls:=.none,data:=.fields ps}:=x;show h'.get? a=some {cls:=.none,data:=.fields ps};exact k a _ (.inl rfl) e
 |met f y=>
  have e:h.get? a=some (SX (.ref f) (.ref y)):=x;show h'.get? a=some (SX (.ref f) (.ref y));exact k a _ (.inl rfl) e
 |ext φ=>obtain⟨p,⟨o,e⟩,st⟩:=x;exact⟨st _ _ p fun o q=>k _ _ (.inl rfl) q,⟨o,k _ _ (.inl rfl) e⟩,st⟩
def HOk.lt(x:HOk P w H h)(e:H a=some o):a<h.objs.size:=(x a o e).lt
def HOk.fresh(x:HOk P w H h)(e:h.objs.size<=a):H a=none:=by
 cases q:H a with
 |none=>rfl
 |some u=>exact absurd (Az (x.lt q) e) (Rt _)
def HOk.kept(x:HOk P w H h)(k:∀b u,h.get? b=some u->h'.get? b=some u):HOk P w H h':=fun a o e=>
 (x a o e).stay (fun b u _ q=>k b u q) (fun _ q=>q) fun _ _ q=>q
def HOk.laid(x:HOk P w H h)(k:∀b u,h.get? b=some u->h'.get? b=some u)(hp:h.objs.size<=a)(new:zC P w (upd H a o) h' a o):HOk P w (upd H a o) h':=fun b u e=>by
 have d:=x.fresh hp
 by_cases hb:b=a
 ·subst hb;rw[ae] at e;cases e;exact new
 ·rw[ah hb] at e
  exact(x b u e).stay (fun c v _ q=>k c v q) (fun c q=>by rw[ah (zj q d)];exact q) fun c xs q=>by rw[ah (zj q d)];exact q
end
def Rd(H:Hp)(a:Addr)(u:HO):Prop:=H a=some u\/∃o,H a=some (.frz o u)
def Rd.of{H:Hp}{a:Addr}{u:HO}(h:H a=some u):Rd H a u:=.inl h
def Rd.ok{P:Program}{w:World}{H:Hp}{h:Heap}{a:Addr}{u:HO}(r:Rd H a u)(x:HOk P w H h):zC P w H h a u:=by
 rcases r with r|⟨o,r⟩
 ·exact x a u r
 ·obtain⟨_,q⟩:=x a _ r
  exact q
def nu:Option HO->Prop
 |some (.lst _)=>True
 |some (.dK _)=>True
 |some (.dT _)=>True
 |some (.set _ _)=>True
 |some (.ins _ _ _)=>True
 |some (.ext _)=>True
 |_=>False
section
variable{P:Program}{w:World}{H:Hp}{h h':Heap}{x e:Addr}{o':HO}
def HOk.write(ok:HOk P w H h)(g:nu (H x))(i:e=x\/H e=some (.own x))(k:∀b u,b≠e->h.get? b=some u->h'.get? b=some u)(o:∃u,h'.get? e=some u)(new:zC P w (upd H x o') h' x o'):HOk P w (upd H x o') h':=fun b u q=>by
 have d:∀c y,H c=some (.own y)->c≠x:=fun c y r z=>by subst z;rw[r] at g;exact g
 have f:∀c xs,H c=some (.tup xs)->c≠x:=fun c xs r z=>by subst z;rw[r] at g;exact g
 by_cases hb:b=x
 ·subst hb;rw[ae] at q;cases q;exact new
 ·rw[ah hb] at q
  by_cases a:b=e
  ·have j:H b=some (.own x):=by
    rcases i with z|z
    ·exact absurd (a.trans z) hb
    ·rw[a];exact z
   rw[q] at j;cases j;obtain⟨v,l⟩:=o;exact⟨v,by rw[a];exact l⟩
  ·refine(ok b u q).stay (fun c v hc r=>k c v ?_ r) (fun c r=>by rw[ah (d c b r)];exact r) fun c xs r=>by rw[ah (f c xs r)];exact r
   rcases hc with rfl|hc
   ·exact a
   ·rintro rfl
    rcases i with z|z
    ·exact d c b hc z
    ·rw[hc] at z;cases z;exact hb rfl
end
structure Un(fs ex:List Addr)(H H':Hp)(h h':Heap):Prop where
 keep:∀b o,h.get? b=some o->H b=none->b∉fs->b∉ex->h'.get? b=some o
 slot:∀b o,h.get? b=some o->H b=none->b∈fs->b∉ex->∃sl,h'.get? b=some {o with slots:=sl}
 free:∀b o,h.get? b=some o->H b=none->b∉ex->H' b=none
 there:∀b o,h.get? b=some o->b∉ex->∃o',h'.get? b=some o'
 tups:∀b xs,H b=some (.tup xs)->H' b=some (.tup xs)
 frzs:∀b o u,H b=some (.frz o u)->H' b=some (.frz o u)
 tbls:∀b ps,H b=some (.tbl ps)->∃more,H' b=some (.tbl (ps++more))
section
variable{fs u0 ex y8:List Addr}{H H1 H2:Hp}{h h1 h2 h':Heap}{a x e:Addr}{o:HO}
def Un.any(u:Un fs ex H H1 h h1){b:Addr}{ob:Obj}(q:h.get? b=some ob)(n:H b=none)(hx:b∉ex):∃a,h1.get? b=some {ob with slots:=a}:=by
 by_cases hb:b∈fs
 ·exact u.slot b ob q n hb hx
 ·exact⟨ob.slots,u.keep b ob q n hb hx⟩
def Un.kept(k:∀b u,h.get? b=some u->h'.get? b=some u):Un fs ex H H h h':=
 ⟨fun b ob q _ _ _=>k b ob q,fun b ob q _ _ _=>⟨ob.slots,k b ob q⟩,fun _ _ _ n _=>n,fun b ob q _=>⟨ob,k b ob q⟩,fun _ _ q=>q,fun _ _ _ q=>q,fun _ ps q=>⟨#[],by rw[q];simp⟩⟩
def Un.refl:Un fs ex H H h h:=Un.kept fun _ _ q=>q
def Un.laid(k:∀b u,h.get? b=some u->h'.get? b=some u)(hp:h.objs.size<=a)(c:H a=none):Un fs ex H (upd H a o) h h' where
 keep:=fun b u q _ _ _=>k b u q
 slot:=fun b u q _ _ _=>⟨u.slots,k b u q⟩
 free:=fun b u q n _=>by rw[ah (Au (Az (Aq q) hp))];exact n
 there:=fun b u q _=>⟨u,k b u q⟩
 tups:=fun b xs q=>by rw[ah (zj q c)];exact q
 frzs:=fun b u xs q=>by rw[ah (zj q c)];exact q
 tbls:=fun b ps q=>⟨#[],by rw[ah (zj q c),q];simp⟩
def Un.write(c:nu (H x))(d:e=x\/H e=some (.own x))(k:∀b u,b≠e->h.get? b=some u->h'.get? b=some u)(f:∃u,h'.get? e=some u):Un fs ex H (upd H x o) h h':=by
 have hx:∀b,H b=none->b≠x:=fun b n z=>by subst z;rw[n] at c;exact c
 have hb:∀b,H b=none->b≠e:=fun b n z=>by
  subst z;rcases d with r|r
  ·exact hx b n r
  ·rw[n] at r;cases r
 have hm:∀b u,H b=some u->¬nu (some u)->b≠x:=fun b u q nm z=>by subst z;rw[q] at c;exact nm c
 refine⟨fun b u q n _ _=>k b u (hb b n) q,fun b u q n _ _=>⟨u.slots,k b u (hb b n) q⟩,fun b u q n _=>by rw[ah (hx b n)];exact n,fun b u q _=>?_,
  fun b xs q=>by rw[ah (hm b _ q fun z=>z)];exact q,fun b u xs q=>by rw[ah (hm b _ q fun z=>z)];exact q,fun b ps q=>⟨#[],by rw[ah (hm b _ q fun z=>z),q];simp⟩⟩
 by_cases a:b=e
 ·subst a;exact f
 ·exact⟨u,k b u a q⟩
end
noncomputable def qK(h:Heap)(H:Hp):List Addr:=(AD h.objs.size).filter fun a=>(H a).isSome
noncomputable def cS(h:Heap)(H:Hp):Heap:=PySem.W.hideAll h (qK h H)
def ED(h:Heap)(H:Hp):(cS h H).objs.size=h.objs.size:=PySem.W.hideAll_size _ _
def EE{h:Heap}{H:Hp}{b:Addr}{o:Obj}(e:h.get? b=some o)(n:H b=none):(cS h H).get? b=some o:=
 PySem.W.hideAll_get _ e fun hm=>by
  have q:(H b).isSome=true:=(Qx.mp hm).2;rw[n] at q;simp at q
def EF{h:Heap}{H:Hp}{b:Addr}{o:Obj}(e:(cS h H).get? b=some o):h.get? b=some o/\H b=none:=by
 have e':h.get? b=some o:=PySem.W.of_hideAll (qK h H) e;refine⟨e',?_⟩;cases q:H b with
 |none=>rfl
 |some x=>
  have hm:b∈qK h H:=Qx.mpr ⟨Qv.mpr (Aq e'),by simp[q]⟩;have z:(cS h H).get? b=none:=PySem.W.hideAll_none (qK h H) hm;rw[z] at e;cases e
noncomputable def JD(g h:Heap)(L:Addr):Ψ:=(AD h.objs.size).filterMap fun a=>if a=L\/(g.get? a).isSome=true then none else(h.get? a).map fun o=>(a,o)
noncomputable def rest(g h:Heap)(L d:Addr):Ψ:=(JD g h L).filter fun p=>decide (p.1≠d)
structure Mod(K:Ae)(mg:Str->Option Value)(base:Heap):Prop where
 kin:K.In base
 glob:base.Ns mainGlobals mg
 blt:∃mb,base.Ns builtinsNs mb/\∀x:Str,x≠"__name__"->mb x=AZ x
 nolimit:base.NoLimit
structure Cx where
 prog:Program
 w:World
 K:Ae
 mg:Str->Option Value
 base:Heap
 A:Around
 N:List Str
 s₀:Shared
 H₀:Hp
 env:Env
 outer:List Env
 stack:List Env
 ex:List Addr
 fn:Str->Bool
 calm:Bool
 pn:Ψ
 xe:Ω
noncomputable def frs(l:List Env):List Addr:=l.filterMap (·.frame)
noncomputable abbrev Cx.fs(X:Cx):List Addr:=frs X.outer
def qL(sc:Scope)(x:Str):Prop:=sc.names.lookup x=some .local\/sc.names.lookup x=some .cell\/sc.names.lookup x=some .free
def Loc(sc:Scope)(x:Str):Prop:=sc.names.lookup x=some .local\/sc.names.lookup x=some .cell
def Look(env:Env)(h:Heap)(m:Str->Option Value)(x:Str)(u:Value):Prop:=
 (env.kindOf x=some .local/\m x=some u)\/((env.kindOf x=some .cell\/env.kindOf x=some .free)/\∃c,env.cells.lookup x=some c/\h.IsCell c (some u))
structure Cx.Ok(X:Cx):Prop where
 mod:Mod X.K X.mg X.base
 kind:X.env.scope.kind=.function
 glob:X.env.globals=mainGlobals
 blt:X.env.builtins=builtinsNs
 above:X.s₀⁻¹<=X.env.locals
 inj:∀x y c,X.env.cells.lookup x=some c->X.env.cells.lookup y=some c->x=y
 has:∀x,(X.env.kindOf x=some .cell\/X.env.kindOf x=some .free)->∃c,X.env.cells.lookup x=some c
 cab:∀x c,X.fn x=true->X.env.cells.lookup x=some c->X.s₀⁻¹<=c
 hd:X.calm=true->X.A.handled=none
 frames:X.A.frames=some X.stack
 stk:X.stack=X.outer\/(X.stack=X.env::X.outer/\X.env.frame=some X.env.locals)
 exf:∀b∈X.ex,b≠X.env.locals/\∀x c,X.env.cells.lookup x=some c->c≠b
 bs:∀b o,X.base.get? b=some o->X.s₀.heap.get? b=some o/\X.H₀ b=none
 bsz:X.base.objs.size<=X.s₀⁻¹
 noex:∀b o,X.base.get? b=some o->b∉X.ex
 exfs:∀b∈X.ex,b∉X.fs
 funs:X.s₀.heap.FunFrames X.base X.outer
 frf:∀b∈X.fs,X.H₀ b=none
structure Inv(X:Cx)(aa:Ψ)(σ:List (Option V))(H:Hp)(s:Shared):Prop where
 ok:X.Ok
 os:s.os=X.s₀.os
 bare:AllBare s.gens
 base:Un X.fs X.ex X.H₀ H X.s₀.heap s.heap
 loc:∃m,s.heap.Ns X.env.locals m/\∀(i:Nat)(x:Str)(v:V),X.N[i]?=some x->σ[i]?=some (some v)->qL X.env.scope x->∃u,RelV v u/\Look X.env s.heap m x u
 cell:∀x c,X.env.cells.lookup x=some c->∃v,s.heap.IsCell c v
 free:H X.env.locals=none
 freeC:∀x c,X.env.cells.lookup x=some c->H c=none
 pin:∀p∈X.pn++aa,s.heap.get? p.1=some p.2/\H p.1=none/\p.1≠X.env.locals/\p.1∉X.fs/\∀v,p.2.data≠.cell v
 hok:HOk X.prog X.w H s.heap
 len:σ.length=X.N.length
section
variable{X:Cx}{aa:Ψ}{σ:List (Option V)}{H H':Hp}{s:Shared}{h':Heap}
def Cx.Ok.nofr(ok:X.Ok){b:Addr}{o:Obj}(e:X.base.get? b=some o):b∉X.fs:=fun hb=>by
 have:=(ok.funs.mem hb).1;rw[e] at this;cases this
def Inv.bs(I:Inv X aa σ H s):∀b o,X.base.get? b=some o->s.heap.get? b=some o/\H b=none:=fun b o e=>
 ⟨I.base.keep b o (I.ok.bs b o e).1 (I.ok.bs b o e).2 (I.ok.nofr e) (I.ok.noex b o e),I.base.free b o (I.ok.bs b o e).1 (I.ok.bs b o e).2 (I.ok.noex b o e)⟩
def Inv.bk(I:Inv X aa σ H s):∀b o,X.base.get? b=some o->s.heap.get? b=some o:=fun b o e=>(I.bs b o e).1
def Inv.mod(I:Inv X aa σ H s):Mod X.K X.mg X.base:=I.ok.mod
def Inv.kIn(I:Inv X aa σ H s):X.K.In s.heap:=I.ok.mod.kin.keeps I.bk
def Inv.nolimit(I:Inv X aa σ H s):s.heap.NoLimit:=I.ok.mod.nolimit.keeps I.bk
def Inv.fr(I:Inv X aa σ H s):∃m,Fr X.base X.env.locals s.heap m:=
 let ⟨m,hn,_⟩:=I.loc
 ⟨m,hn,I.bk,AA I.ok.bsz I.ok.above⟩
def Inv.lt(I:Inv X aa σ H s):X.env.locals<s⁻¹:=let ⟨_,hn,_⟩:=I.loc;hn.lt
def Inv.sz(I:Inv X aa σ H s):X.s₀⁻¹<=s⁻¹:=AA I.ok.above (Q5 I.lt)
def Inv.nofs(I:Inv X aa σ H s){a:Addr}(h:s⁻¹<=a):a∉X.fs:=fun hb=>by
 obtain⟨_,o,c,_⟩:=I.ok.funs.mem hb;exact absurd (Az (Aq c) (AA I.sz h)) (Rt _)
def Inv.cne(I:Inv X aa σ H s):∀x c,X.env.cells.lookup x=some c->c≠X.env.locals:=fun x c e z=>by
 obtain⟨v,o,f,hd⟩:=I.cell x c e;obtain⟨m,⟨o',es,ep,a,d,_⟩,_⟩:=I.loc;rw[z,a] at f;cases f;rw[d] at hd;cases hd
def Inv.funs(I:Inv X aa σ H s):s.heap.FunFrames X.base X.outer:=by
 have all:∀(l:List Env),(∀b∈frs l,b∈X.fs)->X.s₀.heap.FunFrames X.base l->s.heap.FunFrames X.base l:=by
  intro l
  induction l with
  |nil=>intro _ _;trivial
  |cons env r ih=>
   intro c d;obtain⟨hk,⟨L,o,hf,f,g,hd⟩,hr⟩:=d;have a:L∈X.fs:=c L (by unfold frs;rw[R0,hf];exact Ay);obtain⟨h,e⟩:=I.base.slot L o g (I.ok.frf L a) a fun z=>I.ok.exfs L z a;exact⟨hk,⟨L,_,hf,f,e,hd⟩,ih (fun b hb=>c b (by unfold frs;rw[R0,hf];exact Aw _ hb)) hr⟩
 exact all X.outer (fun _ hb=>hb) I.ok.funs
def Inv.stack(I:Inv X aa σ H s):s.heap.FunFrames X.base X.stack:=by
 rcases I.ok.stk with e|⟨e,hf⟩
 ·rw[e];exact I.funs
 ·rw[e]
  obtain⟨m,a,_⟩:=I.loc;refine .cons (by rw[I.ok.kind];decide) hf a ?_ I.funs;exact Heap.get?_none_of_le (AA I.ok.bsz I.ok.above)
def Inv.stkSub(I:Inv X aa σ H s):∀b∈frs X.stack,b∈X.env.locals::X.fs:=fun b hb=>by
 rcases I.ok.stk with e|⟨e,hf⟩
 ·rw[e] at hb;exact Aw _ hb
 ·rw[e] at hb
  unfold frs at hb;rw[R0,hf] at hb;exact hb
def Inv.stkFree(I:Inv X aa σ H s):∀b∈frs X.stack,H b=none:=fun b hb=>by
 rcases Qk.mp (I.stkSub b hb) with e|hb
 ·rw[e];exact I.free
 ·obtain⟨_,o,a,_⟩:=I.ok.funs.mem hb
  exact I.base.free b o a (I.ok.frf b hb) fun z=>I.ok.exfs b z hb
def Inv.step{g':Array GenState}{t':Nat}{d':Drawn}{ch:List Addr}(I:Inv X aa σ H s)(h:∀b∈ch,(b∈X.ex\/X.s₀⁻¹<=b)/\b≠X.env.locals/\(∀x c,X.env.cells.lookup x=some c->c≠b)/\∀p∈X.pn++aa,p.1≠b)(keep:∀b o,b≠X.env.locals->b∉X.fs->b∉ch->s.heap.get? b=some o->H b=none->h'.get? b=some o)(slot:∀b o,b≠X.env.locals->b∈X.fs->b∉ch->s.heap.get? b=some o->H b=none->∃A,h'.get? b=some {o with slots:=A})(free:∀b o,b∉ch->s.heap.get? b=some o->H b=none->H' b=none)(there:∀b o,b∉ch->s.heap.get? b=some o->∃o',h'.get? b=some o')(tups:∀b xs,H b=some (.tup xs)->H' b=some (.tup xs))(frzs:∀b o u,H b=some (.frz o u)->H' b=some (.frz o u))(tbls:∀b ps,H b=some (.tbl ps)->∃more,H' b=some (.tbl (ps++more)))(ns:∀m,s.heap.Ns X.env.locals m->h'.Ns X.env.locals m)(C:HOk X.prog X.w H' h')(M:AllBare g'):Inv X aa σ H' {s with heap:=h',gens:=g',drawn:=d',toks:=t'}:=by
 have j:∀b o,X.s₀.heap.get? b=some o->b≠X.env.locals:=fun b o e=>Au (Az (Aq e) I.ok.above);have y:∀b o,X.s₀.heap.get? b=some o->b∉X.ex->b∉ch:=fun b o e hx hb=>by
  rcases(h b hb).1 with z|z
  ·exact hx z
  ·exact absurd (Az (Aq e) z) (Rt _)
 have a:∀x c,X.env.cells.lookup x=some c->∀v,s.heap.IsCell c v->h'.IsCell c v:=fun x c e v ⟨o,g,hd⟩=>by
  have f:c∉ch:=fun z=>(h c z).2.2.1 x c e rfl
  by_cases hc:c∈X.fs
  ·obtain⟨A,q⟩:=slot c o (I.cne x c e) hc f g (I.freeC x c e)
   exact⟨_,q,hd⟩
  ·exact⟨o,keep c o (I.cne x c e) hc f g (I.freeC x c e),hd⟩
 refine⟨I.ok,I.os,M,⟨fun b o e n hb hx=>?_,fun b o e n hb hx=>?_,fun b o e n hx=>?_,fun b o e hx=>?_,fun b xs e=>tups b xs (I.base.tups b xs e),fun b o xs e=>frzs b o xs (I.base.frzs b o xs e),fun b ps e=>?_⟩,?_,fun x c e=>?_,?_,fun x c e=>?_,fun p hp=>?_,C,I.len⟩
 ·exact keep b o (j b o e) hb (y b o e hx) (I.base.keep b o e n hb hx) (I.base.free b o e n hx)
 ·obtain⟨A,e1⟩:=I.base.slot b o e n hb hx
  obtain⟨E,e2⟩:=slot b _ (j b o e) hb (y b o e hx) e1 (I.base.free b o e n hx);exact⟨E,e2⟩
 ·obtain⟨o',e1⟩:=I.base.there b o e hx
  exact free b o' (y b o e hx) e1 (I.base.free b o e n hx)
 ·obtain⟨o',e1⟩:=I.base.there b o e hx
  exact there b o' (y b o e hx) e1
 ·obtain⟨F,e1⟩:=I.base.tbls b ps e
  obtain⟨G,e2⟩:=tbls b _ e1;exact⟨F++G,by rw[e2,Array.append_assoc]⟩
 ·obtain⟨m,J,L⟩:=I.loc
  refine⟨m,ns m J,fun i x v e1 e2 e3=>?_⟩;obtain⟨u,r,l⟩:=L i x v e1 e2 e3;refine⟨u,r,?_⟩;rcases l with l|⟨k,c,e,z⟩
  ·exact .inl l
  ·exact .inr ⟨k,c,e,a x c e _ z⟩
 ·obtain⟨v,z⟩:=I.cell x c e
  exact⟨v,a x c e v z⟩
 ·obtain⟨m,⟨o,_,_,g,_⟩,_⟩:=I.loc
  exact free _ o (fun z=>(h _ z).2.1 rfl) g I.free
 ·obtain⟨v,o,g,hd⟩:=I.cell x c e
  exact free c o (fun z=>(h c z).2.2.1 x c e rfl) g (I.freeC x c e)
 ·obtain⟨e,n,ne,D,d⟩:=I.pin p hp
  have f:p.1∉ch:=fun z=>(h p.1 z).2.2.2 p hp rfl;exact⟨keep p.1 p.2 ne D f e n,free p.1 p.2 f e n,ne,D,d⟩
def Inv.un{t':Nat}(I:Inv X aa σ H s)(u:Un X.fs [] H H' s.heap h')(c:HOk X.prog X.w H' h'):Inv X aa σ H' {s with heap:=h',toks:=t'}:=by
 obtain⟨m,⟨o,es,ep,d,r⟩,_⟩:=id I.loc;obtain⟨l,f⟩:=u.any d I.free (by simp);exact I.step (g':=s.gens) (d':=s.drawn) (ch:=[]) (fun _ z=>nomatch z) (fun b o _ hb _ e n=>u.keep b o e n hb (by simp)) (fun b o _ hb _ e n=>u.slot b o e n hb (by simp)) (fun b o _ e n=>u.free b o e n (by simp)) (fun b o _ e=>u.there b o e (by simp)) u.tups u.frzs u.tbls (fun j hm=>by
  obtain⟨o',g,h,a,i⟩:=hm;rw[d] at a;cases a;exact⟨_,g,h,f,i⟩) c I.bare
def Inv.call{g':Array GenState}{t':Nat}{d':Drawn}{ch:List Addr}(I:Inv X aa σ H s)(u:Un (frs X.stack) ch H H' s.heap h')(f:HOk X.prog X.w H' h')(q:AllBare g')(h:∀b∈ch,(b∈X.ex\/X.s₀⁻¹<=b)/\b≠X.env.locals/\(∀x c,X.env.cells.lookup x=some c->c≠b)/\∀p∈X.pn++aa,p.1≠b):Inv X aa σ H' {s with heap:=h',gens:=g',drawn:=d',toks:=t'}:=by
 obtain⟨m,⟨o,es,ep,g,r⟩,_⟩:=id I.loc;obtain⟨y,d⟩:=u.any g I.free fun z=>(h _ z).2.1 rfl;exact I.step (ch:=ch) h (fun b o d hb hc e n=>u.keep b o e n (fun z=>(Qk.mp (I.stkSub b z)).elim d hb) hc) (fun b o _ _ hc e n=>u.any e n hc) (fun b o hc e n=>u.free b o e n hc) (fun b o hc e=>u.there b o e hc) u.tups u.frzs u.tbls (fun v hm=>by
  obtain⟨o',i,j,a,l⟩:=hm;rw[g] at a;cases a;exact⟨_,i,j,d,l⟩) f q
def Inv.turned{t':Nat}{it:Addr}(I:Inv X aa σ H s)(k:∀b o,b≠it->s.heap.get? b=some o->h'.get? b=some o)(g:H it=none)(d:it≠X.env.locals)(h1:it∈X.ex\/X.s₀⁻¹<=it)(h2:∀x c,X.env.cells.lookup x=some c->c≠it)(h:∀p∈X.pn++aa,p.1≠it):Inv X aa σ H {s with heap:=h',toks:=t'}:=by
 have a:∀b u,H b=some u->b≠it:=fun b u e z=>by rw[z,g] at e;cases e
 refine I.step (g':=s.gens) (d':=s.drawn) (ch:=[it]) (fun b hb=>?_) (fun b o _ _ hc e _=>k b o (fun z=>hc (by simp[z])) e) (fun b o _ _ hc e _=>⟨o.slots,k b o (fun z=>hc (by simp[z])) e⟩) (fun _ _ _ _ n=>n)
  (fun b o hc e=>⟨o,k b o (fun z=>hc (by simp[z])) e⟩) (fun _ _ e=>e) (fun _ _ _ e=>e) (fun b ps e=>⟨#[],by rw[e];simp⟩) (fun m hm=>?_) (fun b u e=>?_) I.bare
 ·have e:b=it:=by simpa using hb
  subst e;exact⟨h1,d,h2,h⟩
 ·obtain⟨o,es,ep,f,r⟩:=hm
  exact⟨o,es,ep,k _ o (Ne.symm d) f,r⟩
 ·refine(I.hok b u e).stay (fun c v hc q=>k c v ?_ q) (fun _ q=>q) fun _ _ q=>q
  rcases hc with z|z
  ·rw[z];exact a b u e
  ·exact a c _ z
def Inv.tok(I:Inv X aa σ H s)(t:Nat):Inv X aa σ H {s with toks:=t}:=I.un (h':=s.heap) (t':=t) Un.refl I.hok
def Inv.kept{t':Nat}(I:Inv X aa σ H s)(k:∀b u,s.heap.get? b=some u->h'.get? b=some u):Inv X aa σ H {s with heap:=h',toks:=t'}:=I.un (Un.kept k) (I.hok.kept k)
def Inv.laid{a:Addr}{o:HO}{t':Nat}(I:Inv X aa σ H s)(k:∀b u,s.heap.get? b=some u->h'.get? b=some u)(hp:s⁻¹<=a)(new:zC X.prog X.w (upd H a o) h' a o):Inv X aa σ (upd H a o) {s with heap:=h',toks:=t'}:=I.un (Un.laid k hp (I.hok.fresh hp)) (I.hok.laid k hp new)
def Inv.write{x e:Addr}{o:HO}{t':Nat}(I:Inv X aa σ H s)(a:nu (H x))(c:e=x\/H e=some (.own x))(k:∀b u,b≠e->s.heap.get? b=some u->h'.get? b=some u)(d:∃u,h'.get? e=some u)(new:zC X.prog X.w (upd H x o) h' x o):Inv X aa σ (upd H x o) {s with heap:=h',toks:=t'}:=I.un (Un.write a c k d) (I.hok.write a c k d new)
def Inv.pins_of{a:Ψ}(I:Inv X aa σ H s)(h:∀p∈a,s.heap.get? p.1=some p.2/\H p.1=none/\p.1≠X.env.locals/\p.1∉X.fs/\∀v,p.2.data≠.cell v):Inv X a σ H s:=
 ⟨I.ok,I.os,I.bare,I.base,I.loc,I.cell,I.free,I.freeC,fun p hp=>(Qm.mp hp).elim (fun z=>I.pin p (AR _ z)) (h p),I.hok,I.len⟩
def EG{N:List Str}(c:N.Nodup){i j:Nat}{x:Str}(a:N[i]?=some x)(b:N[j]?=some x):i=j:=by
 obtain⟨h1,e1⟩:=KK.mp a;obtain⟨h2,e2⟩:=KK.mp b;exact(List.getElem_inj c).mp (e1.trans e2.symm)
def EH{M:Model}{A:Around}{E:Ω}{i:Nat}{x:Str}{v:V}{u:Value}{Q:Unit->Shared->Prop}(I:Inv X aa σ H s)(hN:X.N.Nodup)(hi:X.N[i]?=some x)(hx:Loc X.env.scope x)(r:RelV v u)(h:∀s',Inv X aa (σ.set i (some v)) H s'->(∃a,Heap.SameBut a s.heap s'.heap/\(a=X.env.locals\/X.env.cells.lookup x=some a))->Q () s')(hf:X.fn x=true\/X.env.scope.names.lookup x=some .local:=by first|exact .inl rfl|exact .inr rfl|assumption):wpAny M A (storeName X.env x u) Q E s:=by
 obtain⟨m,G,U⟩:=id I.loc;have n9:(X.env.scope.kind==.class|| (X.env.scope.kind==.module&&X.env.locals != X.env.globals))=false:=by rw[I.ok.kind];rfl
 have l:i<σ.length:=by rw[I.len];exact(KK.mp hi).1
 have cne:=I.cne;have dh:∀{a:Addr}{h':Heap},(∃o,s.heap.get? a=some o/\H a=none)->Heap.SameBut a s.heap h'->HOk X.prog X.w H h':=fun{a h'} ha f b ob e=>by
  obtain⟨_,_,g⟩:=ha;refine(I.hok b ob e).stay (fun c D hc q=>(f.2 c ?_).trans q) (fun _ q=>q) fun _ _ q=>q;rintro rfl;rcases hc with rfl|hc
  ·rw[g] at e;cases e
  ·rw[g] at hc;cases hc
 rcases hx with hk|hk
 ·refine wpAny_storeName_local hk G (fun h' dF f=>?_) n9
  obtain⟨oL,_,_,J,_⟩:=id G;refine h _ ⟨I.ok,I.os,I.bare,⟨fun b o e n hb hx=>?_,fun b o e n hb hx=>?_,I.base.free,fun b o e hx=>?_,I.base.tups,I.base.frzs,I.base.tbls⟩,⟨_,dF,fun j y F e1 e2 e3=>?_⟩,fun y c e=>?_,I.free,I.freeC,fun p hp=>?_,dh ⟨oL,J,I.free⟩ f,by simpa using I.len⟩ ⟨_,f,.inl rfl⟩
  ·exact(f.2 b (Au (Az (Aq e) I.ok.above))).trans (I.base.keep b o e n hb hx)
  ·obtain⟨L,e1⟩:=I.base.slot b o e n hb hx
   exact⟨L,(f.2 b (Au (Az (Aq e) I.ok.above))).trans e1⟩
  ·obtain⟨o',e1⟩:=I.base.there b o e hx
   exact⟨o',(f.2 b (Au (Az (Aq e) I.ok.above))).trans e1⟩
  ·by_cases C:j=i
   ·subst C
    rw[hi] at e1;cases e1;rw[List.getElem?_set_self l] at e2;cases e2;exact⟨u,r,.inl ⟨hk,by simp⟩⟩
   ·rw[List.getElem?_set_ne (Ne.symm C)] at e2
    obtain⟨O,P,q⟩:=U j y F e1 e2 e3;refine⟨O,P,?_⟩;rcases q with ⟨k,e⟩|⟨k,c,e,z⟩
    ·refine .inl ⟨k,?_⟩
     have:y≠x:=fun e=>C (EG hN e1 (e▸hi));simp[this,e]
    ·exact .inr ⟨k,c,e,z.sameBut f (cne y c e)⟩
  ·obtain⟨D,z⟩:=I.cell y c e
   exact⟨D,z.sameBut f (cne y c e)⟩
  ·obtain⟨e,n,ne,S,d⟩:=I.pin p hp
   exact⟨(f.2 p.1 ne).trans e,n,ne,S,d⟩
 ·have T:X.fn x=true:=by
   rcases hf with z|z
   ·exact z
   ·rw[z] at hk;cases hk
  obtain⟨c,hc⟩:=I.ok.has x (.inl hk);obtain⟨D,z⟩:=I.cell x c hc;refine wpAny_storeName_cell I.ok.kind hk hc z (fun h' hc' f=>?_);obtain⟨W,Y,mS⟩:=id z;refine h {s with heap:=h'} ⟨I.ok,I.os,I.bare,⟨fun b o e n hb hx=>?_,fun b o e n hb hx=>?_,I.base.free,fun b o e hx=>?_,I.base.tups,I.base.frzs,I.base.tbls⟩,⟨m,G.sameBut f (Ne.symm (cne x c hc)),fun j y F e1 e2 e3=>?_⟩,fun y c' e=>?_,I.free,I.freeC,fun p hp=>?_,dh ⟨W,Y,I.freeC x c hc⟩ f,by simpa using I.len⟩ ⟨c,f,.inr hc⟩
  ·exact(f.2 b (Au (Az (Aq e) (I.ok.cab x c T hc)))).trans (I.base.keep b o e n hb hx)
  ·obtain⟨L,e1⟩:=I.base.slot b o e n hb hx
   exact⟨L,(f.2 b (Au (Az (Aq e) (I.ok.cab x c T hc)))).trans e1⟩
  ·obtain⟨o',e1⟩:=I.base.there b o e hx
   exact⟨o',(f.2 b (Au (Az (Aq e) (I.ok.cab x c T hc)))).trans e1⟩
  ·by_cases C:j=i
   ·subst C
    rw[hi] at e1;cases e1;rw[List.getElem?_set_self l] at e2;cases e2;exact⟨u,r,.inr ⟨.inl hk,c,hc,hc'⟩⟩
   ·rw[List.getElem?_set_ne (Ne.symm C)] at e2
    obtain⟨O,P,q⟩:=U j y F e1 e2 e3;refine⟨O,P,?_⟩;rcases q with q|⟨k,c',e,z'⟩
    ·exact .inl q
    ·refine .inr ⟨k,c',e,z'.sameBut f ?_⟩
     rintro rfl;exact C (EG hN e1 (I.ok.inj _ _ _ e hc▸hi))
  ·by_cases eJ:c'=c
   ·subst eJ;exact⟨_,hc'⟩
   ·obtain⟨w2,z2⟩:=I.cell y c' e
    exact⟨w2,z2.sameBut f eJ⟩
  ·obtain⟨e,n,ne,S,d⟩:=I.pin p hp
   refine⟨(f.2 p.1 ?_).trans e,n,ne,S,d⟩;intro q;rw[q,Y] at e;have q':W=p.2:=Al e;exact d D (by rw[<-q'];exact mS)
def EI{M:Model}{A:Around}{E:Ω}{i:Nat}{x:Str}{v:V}{u:Value}{Q:Unit->Shared->Prop}(I:Inv X aa σ H s)(a:X.N.Nodup)(hi:X.N[i]?=some x)(hx:Loc X.env.scope x)(r:RelV v u)(h:∀s',Inv X aa (σ.set i (some v)) H s'->Q () s')(hf:X.fn x=true\/X.env.scope.names.lookup x=some .local:=by first|exact .inl rfl|exact .inr rfl|assumption):wpAny M A (storeName X.env x u) Q E s:=
 EH I a hi hx r (fun s' c _=>h s' c) hf
def Inv.call'{s':Shared}{ch:List Addr}(I:Inv X aa σ H s)(d:s'.os=s.os)(u:Un (frs X.stack) ch H H' s.heap s'.heap)(a:HOk X.prog X.w H' s'.heap)(f:AllBare s'.gens)(g:∀b∈ch,(b∈X.ex\/X.s₀⁻¹<=b)/\b≠X.env.locals/\(∀x c,X.env.cells.lookup x=some c->c≠b)/\∀p∈X.pn++aa,p.1≠b):Inv X aa σ H' s':=by
 obtain⟨h',g',d',t',o'⟩:=s';have e:o'=s.os:=d;subst e;exact I.call (g':=g') (t':=t') (d':=d') u a f g
end
abbrev XK:=Value->Option Addr->Hp->Prop
abbrev St:=List (Option V)
abbrev VK:=V->Hp->Prop
abbrev TE:=St->Hp->VK->Prop
abbrev TT:=St->Hp->(Bool->Hp->Prop)->Prop
abbrev TA:=St->Hp->(List V->Hp->Prop)->Prop
structure Ends where
 nx:St->Hp->Prop
 rt:VK
 bk:St->Hp->Prop:=fun _ _=>False
 ct:St->Hp->Prop:=fun _ _=>False
abbrev TS:=Ends->St->Hp->Prop
def EP(X:Cx)(aa:Ψ)(σ:St)(Q:VK)(u:Value)(s':Shared):Prop:=∃v H',Inv X aa σ H' s'/\RelV v u/\Q v H'
def TP(X:Cx)(aa:Ψ)(σ:St)(Q:Bool->Hp->Prop)(b:Bool)(s':Shared):Prop:=∃H',Inv X aa σ H' s'/\Q b H'
def AP(X:Cx)(aa:Ψ)(σ:St)(Q:List V->Hp->Prop)(us:List Value)(s':Shared):Prop:=∃vs H',Inv X aa σ H' s'/\Vals vs us/\Q vs H'
def SP(X:Cx)(aa:Ψ)(D:Ends)(f:Flow)(s':Shared):Prop:=
 match f with
 |.next=>∃a H',Inv X aa a H' s'/\D.nx a H'
 |.brk=>∃a H',Inv X aa a H' s'/\D.bk a H'
 |.cont=>∃a H',Inv X aa a H' s'/\D.ct a H'
 |.ret u=>∃v a H',Inv X aa a H' s'/\RelV v u/\D.rt v H'
def PE(X:Cx)(e:Expr)(t:TE):Prop:=
 ∀(aa:Ψ)(s:Shared)(σ:St)(H:Hp)(Q:VK),Inv X aa σ H s->t σ H Q->wpAny (model X.prog X.w) X.A (eval e X.env) (EP X aa σ Q) X.xe s
def PT(X:Cx)(e:Expr)(t:TT):Prop:=
 ∀(aa:Ψ)(s:Shared)(σ:St)(H:Hp)(Q:Bool->Hp->Prop),Inv X aa σ H s->t σ H Q->wpAny (model X.prog X.w) X.A (isTrue e X.env (eval e X.env)) (TP X aa σ Q) X.xe s
def PW(X:Cx)(e:Expr)(t:TT):Prop:=
 ∀(a:Sem Value)(aa:Ψ)(s:Shared)(σ:St)(H:Hp)(Q:Bool->Hp->Prop),Inv X aa σ H s->t σ H Q->wpAny (model X.prog X.w) X.A (isTrue e X.env a) (TP X aa σ Q) X.xe s
def PW.pt{X:Cx}{e:Expr}{t:TT}(h:PW X e t):PT X e t:=h _
def PA(X:Cx)(es:List Expr)(t:TA):Prop:=
 ∀(pos:Pos)(aa:Ψ)(s:Shared)(σ:St)(H:Hp)(Q:List V->Hp->Prop),Inv X aa σ H s->t σ H Q->wpAny (model X.prog X.w) X.A (spliced (backTo pos (starEach es X.env))) (AP X aa σ Q) X.xe s
def PS(X:Cx)(st:Stmt)(t:TS):Prop:=
 ∀(aa:Ψ)(s:Shared)(σ:St)(H:Hp)(D:Ends),Inv X aa σ H s->t D σ H->wpAny (model X.prog X.w) X.A (exec st X.env) (SP X aa D) X.xe s
def PSs(X:Cx)(st:List Stmt)(t:TS):Prop:=
 ∀(aa:Ψ)(s:Shared)(σ:St)(H:Hp)(D:Ends),Inv X aa σ H s->t D σ H->wpAny (model X.prog X.w) X.A (execs st X.env) (SP X aa D) X.xe s
def ba{c:Type}{t:Sem c}{Q d:c->Shared->Prop}{M:Model}{A:Around}{E:Ω}{s:Shared}(h:wpAny M A t Q E s)(e:∀a s,Q a s->d a s):wpAny M A t d E s:=wpAny_mono h e fun _ _ x=>x
section
variable{X:Cx}
def ax(i:Nat):TE:=fun σ H Q=>∃v,σ[i]?=some (some v)/\Q v H
def tC(v:V):TE:=fun _ H Q=>Q v H
def JE{i:Nat}{x:Str}{pos:Pos}(g:X.N[i]?=some x)(j:qL X.env.scope x)(hd:(x==("__debug__":Str))=false:=by decide)(o:(x==("__classdict__":Str))=false:=by decide):PE X (.Name x pos) (ax i):=by
 intro aa s σ H Q I h;obtain⟨v,e,h⟩:=h;obtain⟨m,d,f⟩:=I.loc;obtain⟨u,r,l⟩:=f i x v g e j;have fin:EP X aa σ Q u s:=⟨v,H,I,r,h⟩;rcases l with ⟨hk,hm⟩|⟨hk,c,hc,a⟩
 ·exact wpAny_Name (wpAny_loadName_local I.ok.kind hk d hm fin) hd
 ·rcases hk with hk|hk
  ·exact wpAny_Name (wpAny_loadName_cell I.ok.kind hk hc a fin) hd
  ·exact wpAny_Name (wpAny_loadName_free I.ok.kind hk hc a fin o) hd
def zf{i j pos}:PE X (.Constant (.int i) j pos) (tC (.int i)):=fun _ _ _ H _ I h=>wpAny_Constant_int ⟨.int i,H,I.tok _,⟨_,rfl⟩,h⟩
def cU{b j pos}:PE X (.Constant (.bool b) j pos) (tC (.bl b)):=fun _ _ _ H _ I h=>Constant_bool ⟨.bl b,H,I,rfl,h⟩
def ek{j pos}:PE X (.Constant .none j pos) (tC .non):=fun _ _ _ H _ I h=>Constant_none ⟨.non,H,I,rfl,h⟩
def z0{x j pos}:PE X (.Constant (.str x) j pos) (tC (.str x)):=fun _ _ _ H _ I h=>Calls.Constant_str ⟨.str x,H,I.tok _,⟨_,rfl⟩,h⟩
def Gl(X:Cx)(x:Str):Prop:=X.env.kindOf x=some .globalImplicit
def EJ{E:Ω}{aa:Ψ}{s:Shared}{σ:St}{H:Hp}{x:Str}{u:Value}{pos:Pos}{Q:Ω}(I:Inv X aa σ H s)(a:Gl X x)(hm:X.mg x=some u)(h:Q u s)(hd:(x==("__debug__":Str))=false:=by decide):wpAny (model X.prog X.w) X.A (eval (.Name x pos) X.env) Q E s:=
 Calls.Name_function_global I.ok.kind a (Calls.loadGlobal_global (by rw[I.ok.glob];exact I.mod.glob.keeps I.bk) hm h) hd
def j1{E:Ω}{aa:Ψ}{s:Shared}{σ:St}{H:Hp}{x:Str}{u:Value}{pos:Pos}{Q:Ω}(I:Inv X aa σ H s)(a:Gl X x)(hm:X.mg x=none)(c:AZ x=some u)(h:Q u s)(d:x≠"__name__":=by decide)(hd:(x==("__debug__":Str))=false:=by decide):wpAny (model X.prog X.w) X.A (eval (.Name x pos) X.env) Q E s:=by
 obtain⟨e,h1,h2⟩:=I.mod.blt;exact Calls.Name_function_global I.ok.kind a (Calls.loadGlobal_builtin (by rw[I.ok.glob];exact I.mod.glob.keeps I.bk) hm (by rw[I.ok.blt];exact h1.keeps I.bk) ((h2 x d).trans c) h) hd
def qM{x:Str}{v:V}{u:Value}{pos:Pos}(a:Gl X x)(hm:X.mg x=some u)(r:RelV v u)(hd:(x==("__debug__":Str))=false:=by decide):PE X (.Name x pos) (tC v):=
 fun _ _ _ H _ I h=>EJ I a hm ⟨v,H,I,r,h⟩ hd
def lS{x:Str}{v:V}{u:Value}{pos:Pos}(a:Gl X x)(hm:X.mg x=none)(c:AZ x=some u)(r:RelV v u)(d:x≠"__name__":=by decide)(hd:(x==("__debug__":Str))=false:=by decide):PE X (.Name x pos) (tC v):=
 fun _ _ _ H _ I h=>j1 I a hm c ⟨v,H,I,r,h⟩ d hd
variable{a b:Expr}{ta tb:TE}{pos:Pos}
def PC(X:Cx)(op:CmpOp)(a b:Expr)(t:TE):Prop:=
 ∀(aa:Ψ)(s:Shared)(σ:St)(H:Hp)(Q:VK),Inv X aa σ H s->t σ H Q->
  wpAny (model X.prog X.w) X.A (eval a X.env) (fun v c=>wpAny (model X.prog X.w) X.A (eval b X.env) (fun u d=>wpAny (model X.prog X.w) X.A (A2 op v u) (EP X aa σ Q) X.xe d) X.xe c) X.xe s
def ew(b:Expr){op:CmpOp}(h:op≠.In)(h2:op≠.NotIn):behindInMarks op b=false:=by
 have e1:(op==CmpOp.In)=false:=by cases op<;>first|rfl|exact absurd rfl h
 have e2:(op==CmpOp.NotIn)=false:=by cases op<;>first|rfl|exact absurd rfl h2
 cases b<;>simp[behindInMarks,e1,e2]
def tB(t:TE):TT:=fun σ H Q=>t σ H fun x H1=>∃c,x=.bl c/\Q c H1
def EK{op:CmpOp}{t:TE}(h:PC X op a b t)(h1:behindInMarks op b=false:=by first|exact ew _ ξ ξ|rfl):PE X (.Compare a [op] [b] pos) t:=fun aa s σ H Q I hw=>wpAny_Compare1 (h aa s σ H Q I hw) h1
def EL{op:CmpOp}{t:TE}(h:PC X op a b t)(h1:behindInMarks op b=false:=by first|exact ew _ ξ ξ|rfl):PT X (.Compare a [op] [b] pos) (tB t):=by
 intro aa s σ H Q I hw;refine wpAny_isTrue_Compare1 (ba (h aa s σ H _ I hw) fun v g h1=>ba h1 fun u i h2=>ba h2 fun c j ⟨x,H1,f,e,q1⟩=>?_) h1;obtain⟨d,rfl,q⟩:=q1;cases e;exact wpAny_truthy_bool ⟨H1,f,q⟩
def dN{e:Expr}{t:TE}(h:PE X e t)(f:∀a,isTrue e X.env a=(do let v <-a;standAt e.pos;holding [v] (truthy v)):=by intro _;rfl):PT X e (tB t):=by
 intro aa s σ H Q I hw;refine isTrue_plain (ba (h aa s σ H _ I hw) fun v i ⟨x,H1,g,c,q1⟩=>?_) (f _);obtain⟨d,rfl,q⟩:=q1;cases c;exact wpAny_truthy_bool ⟨H1,g,q⟩
variable{tA l8:TT}{rest:List Expr}
def x4(t u:TT):TT:=fun σ H Q=>t σ H fun c H1=>if c=true then u σ H1 Q else Q false H1
def EM(t u:TT):TT:=fun σ H Q=>t σ H fun c H1=>if c=true then Q true H1 else u σ H1 Q
def ny(t:TT):TT:=fun σ H Q=>t σ H fun c H1=>Q (!c) H1
def EN(ha:PT X a tA):PW X (.BoolOp .And [a] pos) tA:=by
 intro d aa s σ H Q I h;refine isTrue_and (ba (ha aa s σ H Q I h) fun c f e=>?_);cases c with
 |true=>exact isTrue_and_nil e
 |false=>exact e
def gH(ha:PT X a tA):PW X (.BoolOp .Or [a] pos) tA:=by
 intro d aa s σ H Q I h;refine isTrue_or (ba (ha aa s σ H Q I h) fun c f e=>?_);cases c with
 |false=>exact isTrue_or_nil e
 |true=>exact e
def EO(ha:PT X a tA)(hb:PW X (.BoolOp .And (b::rest) pos) l8):PW X (.BoolOp .And (a::b::rest) pos) (x4 tA l8):=by
 intro e aa s σ H Q I h;refine isTrue_and (ba (ha aa s σ H _ I h) fun c f ⟨H1,d,q1⟩=>?_);cases c with
 |true=>exact hb e aa f σ H1 Q d q1
 |false=>exact⟨H1,d,q1⟩
def fv(ha:PT X a tA)(hb:PW X (.BoolOp .Or (b::rest) pos) l8):PW X (.BoolOp .Or (a::b::rest) pos) (EM tA l8):=by
 intro e aa s σ H Q I h;refine isTrue_or (ba (ha aa s σ H _ I h) fun c f ⟨H1,d,q1⟩=>?_);cases c with
 |true=>exact⟨H1,d,q1⟩
 |false=>exact hb e aa f σ H1 Q d q1
def dB(ha:PT X a tA):PT X (.UnaryOp .Not a pos) (ny tA):=by
 intro aa s σ H Q I h;exact isTrue_not (ha aa s σ H (fun c H1=>Q (!c) H1) I h)
def EQ(ta tb:TE):TE:=fun σ H Q=>ta σ H fun x H1=>∃c,x=.bl c/\if c=true then tb σ H1 Q else Q (.bl false) H1
def JF(ta:TE):TE:=fun σ H Q=>ta σ H fun x H1=>∃c,x=.bl c/\Q (.bl (!c)) H1
def ji{op}{t:TE}(h:PE X a t):PE X (.BoolOp op [a] pos) t:=fun aa s σ H Q I hw=>BoolOp_one (h aa s σ H Q I hw)
def jl(ha:PE X a ta)(hb:PE X (.BoolOp .And (b::rest) pos) tb):PE X (.BoolOp .And (a::b::rest) pos) (EQ ta tb):=by
 intro aa s σ H Q I h;refine BoolOp_and (ba (ha aa s σ H _ I h) fun v e ⟨x,H1,d,f,q1⟩=>?_);obtain⟨c,rfl,q1⟩:=q1;cases f;refine wpAny_truthy_bool ?_;cases c with
 |true=>exact hb aa e σ H1 Q d q1
 |false=>exact⟨.bl false,H1,d,rfl,q1⟩
def JG(ha:PE X a ta):PE X (.UnaryOp .Not a pos) (JF ta):=by
 intro aa s σ H Q I h;refine UnaryOp_ (ba (ha aa s σ H _ I h) fun v f ⟨x,H1,e,d,q1⟩=>?_);obtain⟨c,rfl,q1⟩:=q1;cases d;exact not_of (wpAny_truthy_bool ⟨.bl (!c),H1,e,rfl,q1⟩)
def x'(t:TT)(ta tb:TE):TE:=fun σ H Q=>t σ H fun c H1=>if c=true then ta σ H1 Q else tb σ H1 Q
def ER{c:Expr}(hc:PT X c tA)(ha:PE X a ta)(hb:PE X b tb):PE X (.IfExp c a b pos) (x' tA ta tb):=by
 intro aa s σ H Q I h;refine wpAny_IfExp (ba (hc aa s σ H _ I h) fun d e ⟨H1,f,q1⟩=>?_);cases d with
 |true=>exact ha aa e σ H1 Q f q1
 |false=>exact hb aa e σ H1 Q f q1
end
def SqL(K:Ae)(H:Hp)(a:Addr)(xs:List V):Prop:=
 Rd H a (.lst xs) \/
  ∃(o:Obj)(af:Array Value)(n:Nat),K.lookup a=some o/\o.cls=.type "list"/\o.dict=none/\o.data=.seq af n/\af.size<=sizeLine/\Vals xs af.toList
def SqT(K:Ae)(H:Hp)(a:Addr)(xs:List V):Prop:=
 Rd H a (.tup xs) \/
  ∃(o:Obj)(af:Array Value)(n:Nat),K.lookup a=some o/\o.cls=.type "tuple"/\o.data=.seq af n/\af.size<=sizeLine/\Vals xs af.toList
noncomputable def ya:Value->Option V
 |.none=>some .non
 |.bool b=>some (.bl b)
 |.int i _=>some (.int i)
 |.str x _=>some (.str x)
 |.bytes b _=>some (.byt b)
 |.float b _=>some (.flt b)
 |.ref a=>some (.ref a)
 |.type n=>some (.ty n)
 |_=>none
def RelV.abs{x:V}{u:Value}(r:RelV x u):ya u=some x:=by
 cases x with
 |non=>cases r;rfl
 |bl _=>cases r;rfl
 |int _=>obtain⟨t,rfl⟩:=r;rfl
 |str _=>obtain⟨t,rfl⟩:=r;rfl
 |byt _=>obtain⟨t,rfl⟩:=r;rfl
 |flt _=>obtain⟨t,rfl⟩:=r;rfl
 |ref _=>cases r;rfl
 |ty _=>cases r;rfl
def RelV.inj{x y:V}{u:Value}(r:RelV x u)(q:RelV y u):x=y:=Al (r.abs.symm.trans q.abs)
def Vals.inj{xs ys:List V}{us:List Value}(h:Vals xs us)(g:Vals ys us):xs=ys:=by
 induction h generalizing ys with
 |nil=>cases g;rfl
 |cons r t ih=>cases g with|cons r' t'=>rw[r.inj r',ih t']
section
variable{X:Cx}{aa:Ψ}{σ:St}{H:Hp}{s:Shared}{a:Addr}{xs ys:List V}
def SqL.of{K:Ae}(h:H a=some (.lst xs)):SqL K H a xs:=.inl (.inl h)
def SqT.of{K:Ae}(h:H a=some (.tup xs)):SqT K H a xs:=.inl (.inl h)
def Inv.list(I:Inv X aa σ H s)(h:SqL X.K H a xs):∃af:List Value,Vals xs af/\PlainL s.heap a af.toArray/\xs.length<=sizeLine:=by
 rcases h with h|⟨o,af,n,hk,hc,hd,c,hz,r⟩
 ·obtain⟨z,af,n,r,e⟩:=h.ok I.hok
  exact⟨af,r,⟨_,n,e,rfl,rfl,rfl⟩,z⟩
 ·refine⟨af.toList,r,⟨o,n,I.kIn a o hk,hc,hd,by simpa using c⟩,?_⟩
  have e:=r.length;simp only[AE] at e;omega
def Inv.tuple(I:Inv X aa σ H s)(h:SqT X.K H a xs):∃af:List Value,Vals xs af/\IsTup s.heap a af.toArray/\xs.length<=sizeLine:=by
 rcases h with h|⟨o,af,n,hk,hc,c,hz,r⟩
 ·obtain⟨z,af,r,p⟩:=h.ok I.hok
  exact⟨af,r,p,z⟩
 ·refine⟨af.toList,r,⟨o,I.kIn a o hk,hc,n,by simpa using c⟩,?_⟩
  have e:=r.length;simp only[AE] at e;omega
def Inv.list_inj(I:Inv X aa σ H s)(h:SqL X.K H a xs)(h':SqL X.K H a ys):xs=ys:=by
 obtain⟨af,r,⟨o,n,e,_,_,d⟩,_⟩:=I.list h;obtain⟨its',c,⟨o',f,e',_,_,d'⟩,_⟩:=I.list h';rw[e] at e';cases e';rw[d] at d';injection d' with d1 _
 have:af=its':=by simpa using congrArg Array.toList d1
 subst this;exact r.inj c
def Inv.tuple_inj(I:Inv X aa σ H s)(h:SqT X.K H a xs)(h':SqT X.K H a ys):xs=ys:=by
 obtain⟨af,r,⟨o,e,_,n,d⟩,_⟩:=I.tuple h;obtain⟨its',c,⟨o',e',_,f,d'⟩,_⟩:=I.tuple h';rw[e] at e';cases e';rw[d] at d';injection d' with d1 _
 have:af=its':=by simpa using congrArg Array.toList d1
 subst this;exact r.inj c
end
noncomputable abbrev Cx.wish(X:Cx)(E:Ω):Cx:={X with xe:=E}
noncomputable abbrev Cx.nox(X:Cx):Cx:=X.wish fun _ _=>False
noncomputable def Cx.Ok.wish{X:Cx}(ok:X.Ok)(E:Ω):(X.wish E).Ok:=
 ⟨ok.mod,ok.kind,ok.glob,ok.blt,ok.above,ok.inj,ok.has,ok.cab,ok.hd,ok.frames,ok.stk,ok.exf,ok.bs,ok.bsz,ok.noex,ok.exfs,ok.funs,ok.frf⟩
def Cx.Ok.unwish{X:Cx}{E:Ω}(ok:(X.wish E).Ok):X.Ok:=
 ⟨ok.mod,ok.kind,ok.glob,ok.blt,ok.above,ok.inj,ok.has,ok.cab,ok.hd,ok.frames,ok.stk,ok.exf,ok.bs,ok.bsz,ok.noex,ok.exfs,ok.funs,ok.frf⟩
section
variable{X:Cx}{aa:Ψ}{σ:St}{H:Hp}{s:Shared}{E:Ω}
noncomputable def Inv.wish(I:Inv X aa σ H s)(E:Ω):Inv (X.wish E) aa σ H s:=⟨I.ok.wish E,I.os,I.bare,I.base,I.loc,I.cell,I.free,I.freeC,I.pin,I.hok,I.len⟩
def Inv.unwish(I:Inv (X.wish E) aa σ H s):Inv X aa σ H s:=⟨I.ok.unwish,I.os,I.bare,I.base,I.loc,I.cell,I.free,I.freeC,I.pin,I.hok,I.len⟩
def SP.unwish{D:Ends}{f:Flow}{s':Shared}(h:SP (X.wish E) aa D f s'):SP X aa D f s':=by
 cases f with
 |next=>obtain⟨a,H',I,q⟩:=h;exact⟨a,H',I.unwish,q⟩
 |brk=>obtain⟨a,H',I,q⟩:=h;exact⟨a,H',I.unwish,q⟩
 |cont=>obtain⟨a,H',I,q⟩:=h;exact⟨a,H',I.unwish,q⟩
 |ret u=>obtain⟨v,a,H',I,r,q⟩:=h;exact⟨v,a,H',I.unwish,r,q⟩
noncomputable def PSs.nox{st:List Stmt}{t:TS}(h:PSs X.nox st t):PSs X st t:=fun aa s σ H D I hw=>
 wpAny_mono (h aa s σ H D (I.wish _) hw) (fun _ _ q=>q.unwish) fun _ _ z=>False.elim z
end
section
variable{X:Cx}{st:Stmt}{rest:List Stmt}{t u:TS}{e:Expr}{te:TE}{pos:Pos}
def JH:TS:=fun D σ H=>D.nx σ H
def nB(t u:TS):TS:=fun D σ H=>t {D with nx:=u D} σ H
def zr:PSs X [] JH:=fun _ _ σ H _ I h=>wpAny_execs_nil ⟨σ,H,I,h⟩
def ze(h1:PS X st t)(h2:PSs X rest u):PSs X (st::rest) (nB t u):=by
 intro aa s σ H D I h;refine wpAny_execs_cons (ba (h1 aa s σ H {D with nx:=u D} I h) fun f a q=>?_);cases f with
 |next=>
  obtain⟨c,H',d,q⟩:=q;exact h2 aa a c H' D d q
 |ret v=>exact q
 |brk=>exact q
 |cont=>exact q
def zg(h1:PS X st t):PSs X [st] t:=by
 intro aa s σ H D I h;refine wpAny_execs_cons (ba (h1 aa s σ H D I h) fun f a q=>?_);cases f with
 |next=>exact wpAny_execs_nil q
 |ret v=>exact q
 |brk=>exact q
 |cont=>exact q
def JI:TS:=fun D σ H=>D.bk σ H
def JJ:PS X (.Break pos) JI:=fun _ _ σ H _ I h=>wpAny_Break ⟨σ,H,I,h⟩
def Inv.quiet{aa:Ψ}{σ:St}{H:Hp}{s:Shared}(I:Inv X aa σ H s):interactive X.env=false:=by simp[interactive,I.ok.kind]
def JK(te:TE):TS:=fun D σ H=>te σ H fun _ H1=>D.nx σ H1
def fM(a:PE X e te)(c:swapsWith e none pos.line X.env=pure false:=by rfl):PS X (.Expr e pos) (JK te):=by
 intro aa s σ H D I h;exact wpAny_Expr_any (ba (a aa s σ H _ I h) fun v f ⟨x,H1,d,g,q1⟩=>⟨σ,H1,d,q1⟩) I.quiet c
def yb(te:TE):TS:=fun D σ H=>te σ H D.rt
def zm(c:PE X e te):PS X (.Return (some e) pos) (yb te):=by
 intro aa s σ H D I h;exact wpAny_Return_some (ba (c aa s σ H _ I h) fun v f ⟨x,H1,d,a,q1⟩=>⟨x,σ,H1,d,a,q1⟩)
def yd(c:TT)(t u:TS):TS:=fun D σ H=>c σ H fun b H1=>if b=true then t D σ H1 else u D σ H1
def zQ{c:Expr}{a b:List Stmt}{tc:TT}(hc:PT X c tc)(ha:PSs X a t)(hb:PSs X b u):PS X (.If c a b pos) (yd tc t u):=by
 intro aa s σ H D I h;refine wpAny_If (ba (hc aa s σ H _ I h) fun d e ⟨H1,f,q1⟩=>?_);cases d with
 |true=>exact ha aa e σ H1 D f q1
 |false=>exact hb aa e σ H1 D f q1
def JL:TS:=fun _ _ _=>False
def ES{a:List Stmt}:PSs X a JL:=fun _ _ _ _ _ _ h=>h.elim
end
abbrev TG:=V->St->Hp->(St->Hp->Prop)->Prop
abbrev j2:=List V->St->Hp->(St->Hp->Prop)->Prop
def PG(X:Cx)(c:Expr)(t:TG):Prop:=
 ∀(aa:Ψ)(s:Shared)(σ:St)(H:Hp)(v:V)(u:Value)(Q:St->Hp->Prop),Inv X aa σ H s->RelV v u->t v σ H Q->
  wpAny (model X.prog X.w) X.A (assign c X.env u) (fun _ s'=>∃a H',Inv X aa a H' s'/\Q a H') X.xe s
def qN(X:Cx)(ts:List Expr)(t:j2):Prop:=
 ∀(aa:Ψ)(s:Shared)(σ:St)(H:Hp)(vs:List V)(us:List Value)(Q:St->Hp->Prop),Inv X aa σ H s->Vals vs us->t vs σ H Q->
  wpAny (model X.prog X.w) X.A (assignInOrder ((assignEach ts X.env).map (·.2)) us) (fun _ s'=>∃a H',Inv X aa a H' s'/\Q a H') X.xe s
abbrev j4:=V->V->V->Hp->(Hp->Prop)->Prop
def nE(X:Cx)(t:j4):Prop:=
 ∀(aa:Ψ)(s:Shared)(σ:St)(H:Hp)(o i v:V)(a c u:Value)(Q:Hp->Prop),Inv X aa σ H s->RelV o a->RelV i c->RelV v u->t o i v H Q->
  wpAny (model X.prog X.w) X.A (setItem a c u) (fun _ s'=>∃H',Inv X aa σ H' s'/\Q H') X.xe s
section
variable{X:Cx}{pos:Pos}
def zN(i:Nat):TG:=fun v σ H Q=>Q (σ.set i (some v)) H
def zk{i:Nat}{x:Str}(a:X.N.Nodup)(hi:X.N[i]?=some x)(hx:Loc X.env.scope x)(hf:X.fn x=true\/X.env.scope.names.lookup x=some .local:=by first|exact .inl rfl|exact .inr rfl|assumption):PG X (.Name x pos) (zN i):=by
 intro aa s σ H v u Q I r h;exact wpAny_assign_Name (EI I a hi hx r (fun s' c=>⟨_,H,c,h⟩) hf)
def fS:j2:=fun vs σ H Q=>vs=[]/\Q σ H
def gM(t:TG)(u:j2):j2:=fun vs σ H Q=>∃v r,vs=v::r/\t v σ H fun a H'=>u r a H' Q
def jm:qN X [] fS:=by
 intro aa s σ H vs us Q I r h;obtain⟨e,h⟩:=h;subst e;cases r;exact assignInOrder_nil ⟨σ,H,I,h⟩
def zI{e:Expr}{es:List Expr}{t:TG}{u:j2}(h1:PG X e t)(h2:qN X es u)(d:(assignEach (e::es) X.env).map (·.2)=assign e X.env::(assignEach es X.env).map (·.2):=by rfl):qN X (e::es) (gM t u):=by
 intro aa s σ H vs us Q I r h;obtain⟨v,g,e1,h⟩:=h;subst e1;cases r with
 |cons r rr=>
  rw[d];refine assignInOrder_cons (ba (h1 aa s σ H _ _ _ I r h) fun _ a ⟨c,H1,f,q1⟩=>?_);exact h2 aa a c H1 _ _ Q f rr q1
def fV(K:Ae)(n:Nat)(t:j2):TG:=fun v σ H Q=>∃a xs,v=.ref a/\SqT K H a xs/\xs.length=n/\t xs σ H Q
def jn{es:List Expr}{k:Nat}{t:j2}{n:Nat}(hc:X.calm=true)(h:qN X es t)(g:(assignEach es X.env).length=n:=by rfl)(c:(assignEach es X.env).findIdx? (·.1)=none:=by rfl):PG X (.Tuple es k pos) (fV X.K n t):=by
 intro aa s σ H v u Q I r hw;obtain⟨a,xs,e1,hq,f,hw⟩:=hw;subst e1;cases r;obtain⟨af,d,ht,hz⟩:=I.tuple hq;refine assign_Tuple_tuple (I.ok.hd hc) ht (by simp[g,<-f,d.length]) c fun h' hx=>?_;have i:Inv X aa σ H {s with heap:=h'}:=I.kept (t':=s.toks) fun b o e=>hx b o (Au (Aq e)) e;exact h aa _ σ H xs _ Q i (by simpa using d) hw
def yk(to a:TE)(t:j4):TG:=fun v σ H Q=>to σ H fun o H1=>a σ H1 fun i H2=>t o i v H2 fun H3=>Q σ H3
def ET{o i:Expr}{to d:TE}{t:j4}(q:PE X o to)(hi:PE X i d)(w:nE X t)(ha:∀v,assign (.Subscript o i pos) X.env v=(do
   let a <-holding [v] (eval o X.env)
   let c <-holding [v,a] (eval i X.env)
   standAt pos
   holding [v,a,c] (setItem a c v)
   release [v,a,c] []):=by intro _;rfl):PG X (.Subscript o i pos) (yk to d t):=by
 intro aa s σ H v u Q I r h;rw[ha];refine Aa (AU (ba (q aa s σ H _ I h) fun a e ⟨x,H1,A,f,q1⟩=>?_));refine Aa (AU (ba (hi aa e σ H1 _ A q1) fun c g ⟨y,H2,C,j,l⟩=>?_));refine Aa (wpAny_standAt (Aa (AU (ba (w aa g σ H2 x y v a c u _ C f j r l) fun _ E ⟨H3,D,p⟩=>?_))));exact wpAny_release ⟨σ,H3,D,p⟩
def fW(te:TE)(g:TG):TS:=fun D σ H=>te σ H fun x H1=>g x σ H1 D.nx
def yl{tg e:Expr}{te:TE}{g:TG}(d:PE X e te)(f:PG X tg g)(i:swapsWithSole [tg] e pos.line X.env=pure false:=by rfl)(hw:swappedStores [tg] e X.env=pure none:=by rfl)(h1:(assignEach [tg] X.env).map (·.2)=[assign tg X.env]:=by rfl):PS X (.Assign [tg] e pos) (fW te g):=by
 intro aa s σ H D I h;refine wpAny_Assign_stores (ba (d aa s σ H _ I h) fun v a ⟨x,H1,j,c,q1⟩=>?_) i hw;rw[h1];exact ba (f aa a σ H1 x v _ j c q1) fun _ l q=>q
def zt{i:Nat}{x:Str}{e:Expr}{te:TE}{aM:Pos}(c:X.N.Nodup)(hi:X.N[i]?=some x)(hx:Loc X.env.scope x)(d:PE X e te)(f:swapsWith e (some (.Name x aM)) pos.line X.env=pure false:=by rfl)(hf:X.fn x=true\/X.env.scope.names.lookup x=some .local:=by first|exact .inl rfl|exact .inr rfl|assumption):PS X (.Assign [.Name x aM] e pos) (fW te (zN i)):=by
 intro aa s σ H D I h;refine wpAny_Assign_Name (ba (d aa s σ H _ I h) fun v l ⟨y,H1,g,a,q1⟩=>?_) f;exact EI g c hi hx a (fun o j=>⟨_,H1,j,q1⟩) hf
def JM(c:TT)(tb:TS):TS:=fun D σ H=>∃W:Nat->St->Hp->Prop,(∃m,W m σ H)/\∀m σ H,W m σ H->
 c σ H fun b H1=>if b=true then ∃N:St->Hp->Prop,(∀a H',N a H'->∃d,d<m/\W d a H')/\tb {D with nx:=N,ct:=N,bk:=D.nx} σ H1 else D.nx σ H1
def EU{c:Expr}{body:List Stmt}{tc:TT}{tb:TS}(hp:PassesOwn (model X.prog X.w) X.A X.env X.xe)(hc:PT X c tc)(hb:PSs X body tb):PS X (.While c body [] pos) (JM tc tb):=by
 intro aa s σ H D I h;obtain⟨W,⟨x,y⟩,turn⟩:=h;refine wpAny_While (codeAny_whileLoop (fun n s'=>∃p H',Inv X aa p H' s'/\W n p H') ?_ x ⟨σ,H,I,y⟩);rintro n C ⟨g,H1,F,E⟩;refine wpAny_passesOwn hp (ba (hc aa C g H1 _ F (turn n g H1 E)) fun b u ⟨H2,r,d⟩=>?_);cases b with
 |true=>
  obtain⟨N,q,d⟩:=d;rw[Th rfl];refine wpAny_passesOwn hp (ba (hb aa u g H2 _ r d) fun f G e=>?_);cases f with
  |next=>
   obtain⟨a,H3,o,i⟩:=e;obtain⟨j,hm,l⟩:=q a H3 i;exact⟨j,hm,a,H3,o,l⟩
  |cont=>
   obtain⟨a,H3,o,i⟩:=e;obtain⟨j,hm,l⟩:=q a H3 i;exact⟨j,hm,a,H3,o,l⟩
  |brk=>exact e
  |ret v=>exact e
 |false=>
  rw[Ti An];exact wpAny_execs_nil ⟨g,H2,r,d⟩
end
structure It where
 go:Nat->Hp->Prop
 yld:Nat->Hp->V->Hp->Prop
 stop:Nat->Hp->Prop
def bQ(X:Cx)(aa:Ψ)(H:Hp)(b:Addr):Prop:=
 H b=none/\b≠X.env.locals/\b∉X.fs/\(b∈X.ex\/X.s₀⁻¹<=b)/\(∀x c,X.env.cells.lookup x=some c->c≠b)/\∀p∈X.pn++aa,p.1≠b
def Inv.fpOk{X:Cx}{aa:Ψ}{σ:St}{H H':Hp}{s:Shared}{b:Addr}(I:Inv X aa σ H s)(hb:s⁻¹<=b)(a:H' b=none):bQ X aa H' b:=by
 refine⟨a,A3 (Az I.lt hb),I.nofs hb,.inr (AA I.sz hb),fun x c e z=>?_,fun p hp z=>?_⟩
 ·obtain⟨v,q⟩:=I.cell x c e
  exact absurd (Az q.lt (by rw[z];exact hb)) (Rt _)
 ·exact absurd (Az (Aq (I.pin p hp).1) (by rw[z];exact hb)) (Rt _)
structure Turn(P:Program)(w:World)(K:Ae)(tg:Expr)(J:It)(fp:List Addr)(it:Addr)(tn:Nat->Heap->Prop):Prop where
 mem:it∈fp
 obj:∀i h,tn i h->∀b∈fp,∃o,h.get? b=some o/\∀v,o.data≠.cell v
 keep:∀i h h',tn i h->(∀b∈fp,∀o,h.get? b=some o->h'.get? b=some o)->tn i h'
 item:∀(X:Cx),X.prog=P->X.w=w->X.K=K->X.calm=true->∀(i:Nat)(aa:Ψ)(s:Shared)(σ:St)(H:Hp)(E:Ω),Inv X aa σ H s->(∀b∈fp,bQ X aa H b)->tn i s.heap->J.go i H->
  wpAny (model P w) X.A (pyNext (.ref it)) (fun r s1=>∃u,r=some u/\
   wpAny (model P w) X.A (letOwnedTupleGo tg (.ref it) u) (fun _ s2=>∃x H',Inv X aa σ H' s2/\RelV x u/\J.yld i H x H'/\tn (i+1) s2.heap/\∀b∈fp,H' b=none) E s1) E s
 done:∀(X:Cx),X.prog=P->X.w=w->X.K=K->X.calm=true->∀(i:Nat)(aa:Ψ)(s:Shared)(σ:St)(H:Hp)(E:Ω),Inv X aa σ H s->(∀b∈fp,bQ X aa H b)->tn i s.heap->J.stop i H->
  wpAny (model P w) X.A (pyNext (.ref it)) (fun r s1=>r=none/\Inv X aa σ H s1) E s
 self:∀(A:Around)(i:Nat)(s:Shared)(Q:Ω)(E:Ω),tn i s.heap->Q (.ref it) s->wpAny (model P w) A (pyIter (.ref it)) Q E s
abbrev TI:=St->Hp->(It->Hp->Prop)->Prop
def qP(X:Cx)(aa:Ψ)(σ:St)(tg:Expr)(R:It->Hp->Prop)(e:Value)(c:Shared):Prop:=
 ∃(it:Addr)(a:List Addr)(d:Nat->Heap->Prop)(J:It)(H':Hp),e=.ref it/\Inv X aa σ H' c/\Turn X.prog X.w X.K tg J a it d/\d 0 c.heap/\(∀b∈a,bQ X aa H' b)/\R J H'
def PI(X:Cx)(tg iter:Expr)(wi:TI):Prop:=
 ∀(aa:Ψ)(s:Shared)(σ:St)(H:Hp)(R:It->Hp->Prop),Inv X aa σ H s->wi σ H R->
  wpAny (model X.prog X.w) X.A (eval iter X.env) (fun v a=>wpAny (model X.prog X.w) X.A (pyIter v) (qP X aa σ tg R) X.xe a) X.xe s
def lV{M:Model}{A:Around}{E:Ω}{s:Shared}{tg:Expr}{it:Addr}{u:Value}{o:Obj}{n:String}{vs:Array Value}{Q:Unit->Shared->Prop}(c:s.heap.get? it=some o)(hc:o.cls=.type n)(hd:o.data=.fields vs)(d:["enumerate","zip","dict_itemiterator","dict_reverseitemiterator","odict_iterator","itertools.zip_longest","itertools.pairwise"].contains n=false)(a:Q () s):wpAny M A (letOwnedTupleGo tg (.ref it) u) Q E s:=by
 unfold letOwnedTupleGo;cases tg<;>first
  |exact Ac a
  |(cases u<;>first
    |exact Ac a
    |(refine Aa (wpAny_load c ?_);rw[hc,hd];show wpAny M A (if(["enumerate","zip","dict_itemiterator","dict_reverseitemiterator","odict_iterator","itertools.zip_longest","itertools.pairwise"].contains n&&vs[0]?==some (rawInt _))=true then _ else _) Q E s;rw[Ti (by intro h;rw[d,Bool.false_and] at h;cases h)];exact Ac a))
noncomputable def dP(K:Ae)(a:Addr):It:=
 ⟨fun i H=>∃xs x,SqL K H a xs/\xs[i]?=some x,fun i H x H'=>H'=H/\∀xs,SqL K H a xs->xs[i]?=some x,fun i H=>∃xs,SqL K H a xs/\xs.length<=i⟩
noncomputable def j9(K:Ae)(a:Addr):It:=
 ⟨fun i H=>∃xs x,SqT K H a xs/\xs[i]?=some x,fun i H x H'=>H'=H/\∀xs,SqT K H a xs->xs[i]?=some x,fun i H=>∃xs,SqT K H a xs/\xs.length<=i⟩
noncomputable def gk(lo:Int)(n:Nat):It:=⟨fun i _=>i<n,fun i H x H'=>H'=H/\x=.int (lo+i),fun i _=>n<=i⟩
def JN{P:Program}{w:World}{K:Ae}{tg:Expr}(a it:Addr):Turn P w K tg (dP K a) [it] it (fun i h=>h.IsListIter it a i) where
 mem:=by simp
 obj:=fun i h st b hb=>by
  have e:b=it:=by simpa using hb
  subst e;obtain⟨o,e,c,d⟩:=st;exact⟨o,e,fun v z=>by rw[d] at z;cases z⟩
 keep:=fun i h h' st k=>st.at fun o e=>k it (by simp) o e
 item:=by
  intro X f hw g hc i aa s σ H E I hf st j;subst f hw g;obtain⟨xs,x,hq,hx⟩:=j;obtain⟨af,l,p,hz⟩:=I.list hq;obtain⟨u,hu,F⟩:=l.get hx;obtain⟨q,f1,f2,r,y,A⟩:=hf it (by simp);refine wpAny_pyNext_list_item st p.isList (x:=u) (by simpa using hu) fun h' C sb=>?_;have G:Inv X aa σ H {s with heap:=h'}:=I.turned (t':=s.toks) (fun b o hb e=>(sb.2 b hb).trans e) q f1 r y A;obtain⟨o,e,c,d⟩:=id C;exact⟨u,rfl,lV (s:={s with heap:=h'}) e c d ξ ⟨x,H,G,F,⟨rfl,fun ys hy=>by rw[I.list_inj hy hq];exact hx⟩,C,fun b hb=>(hf b hb).1⟩⟩
 done:=by
  intro X f hw g hc i aa s σ H E I hf st j;subst f hw g;obtain⟨xs,hq,hx⟩:=j;obtain⟨af,l,p,hz⟩:=I.list hq;obtain⟨q,f1,f2,r,y,A⟩:=hf it (by simp);have J:=l.length;exact wpAny_pyNext_list_end (I.ok.hd hc) st p.isList (by simp;omega) fun h' D=>⟨rfl,I.turned (t':=s.toks) (fun b o hb e=>D b o hb e) q f1 r y A⟩
 self:=fun _ _ _ _ _ st h=>wpAny_pyIter_listiter st h
def JO{P:Program}{w:World}{K:Ae}{tg:Expr}(a it:Addr):Turn P w K tg (j9 K a) [it] it (fun i h=>h.IsTupleIter it a i) where
 mem:=by simp
 obj:=fun i h st b hb=>by
  have e:b=it:=by simpa using hb
  subst e;obtain⟨o,e,c,d⟩:=st;exact⟨o,e,fun v z=>by rw[d] at z;cases z⟩
 keep:=fun i h h' st k=>st.at fun o e=>k it (by simp) o e
 item:=by
  intro X f hw g hc i aa s σ H E I hf st j;subst f hw g;obtain⟨xs,x,hq,hx⟩:=j;obtain⟨af,l,p,hz⟩:=I.tuple hq;obtain⟨u,hu,F⟩:=l.get hx;obtain⟨q,f1,f2,r,y,A⟩:=hf it (by simp);refine wpAny_pyNext_tuple_item st (show s.heap.IsTuple a af.toArray from p) (x:=u) (by simpa using hu) fun h' C sb=>?_;have G:Inv X aa σ H {s with heap:=h'}:=I.turned (t':=s.toks) (fun b o hb e=>(sb.2 b hb).trans e) q f1 r y A;obtain⟨o,e,c,d⟩:=id C;exact⟨u,rfl,lV (s:={s with heap:=h'}) e c d ξ ⟨x,H,G,F,⟨rfl,fun ys hy=>by rw[I.tuple_inj hy hq];exact hx⟩,C,fun b hb=>(hf b hb).1⟩⟩
 done:=by
  intro X f hw g hc i aa s σ H E I hf st j;subst f hw g;obtain⟨xs,hq,hx⟩:=j;obtain⟨af,l,p,hz⟩:=I.tuple hq;obtain⟨q,f1,f2,r,y,A⟩:=hf it (by simp);have J:=l.length;exact wpAny_pyNext_tuple_end (I.ok.hd hc) st (show s.heap.IsTuple a af.toArray from p) (by simp;omega) fun h' D=>⟨rfl,I.turned (t':=s.toks) (fun b o hb e=>D b o hb e) q f1 r y A⟩
 self:=fun _ _ _ _ _ st h=>wpAny_pyIter_tupleiter st h
def JP{P:Program}{w:World}{K:Ae}{tg:Expr}(it:Addr)(lo:Int)(n:Nat):Turn P w K tg (gk lo n) [it] it (fun i h=>IsRangeIter h it (lo+(i:Nat)*1) ((n:Int)-(i:Nat)) 1) where
 mem:=by simp
 obj:=fun i h st b hb=>by
  have e:b=it:=by simpa using hb
  subst e;exact⟨_,st,fun v z=>by
   have x:Data.fields _=Data.cell v:=z;cases x⟩
 keep:=fun i h h' st k=>k it (by simp) _ st
 item:=by
  intro X a hw c hc i aa s σ H E I hf st d;subst a hw c;obtain⟨f,f1,f2,g,j,l⟩:=hf it (by simp);have W:=Walks.range (prog:=X.prog) (w:=X.w) (I.ok.hd hc) it lo 1 n;refine W.item i s _ _ d st fun v h' tk q p r=>?_;obtain⟨t,rfl⟩:=q;have y:Inv X aa σ H {s with heap:=h',toks:=tk}:=I.turned (fun b o hb e=>r b o (by simpa using hb) e) f f1 g j l;refine⟨_,rfl,lV (s:={s with heap:=h',toks:=tk}) (n:="range_iterator") p rfl rfl ξ ⟨.int (lo+i),H,y,⟨t,?_⟩,⟨rfl,rfl⟩,p,fun b hb=>(hf b hb).1⟩⟩;rw[Int.mul_one]
 done:=by
  intro X a hw c hc i aa s σ H E I hf st d;subst a hw c;obtain⟨f,f1,f2,g,j,l⟩:=hf it (by simp);exact wpAny_pyNext_range_end (I.ok.hd hc) st (by have:n<=i:=d;omega) fun h' u=>⟨rfl,I.turned (t':=s.toks) (fun b o hb e=>u b o hb e) f f1 g j l⟩
 self:=fun _ _ _ _ _ st h=>wpAny_pyIter_rangeiter st h
section
variable{X:Cx}{tg:Expr}
def EV(K:Ae)(tl:TE):TI:=fun σ H R=>tl σ H fun x H1=>∃a,x=.ref a/\(∃xs,SqL K H1 a xs)/\R (dP K a) H1
def yu(K:Ae)(tl:TE):TI:=fun σ H R=>tl σ H fun x H1=>∃a,x=.ref a/\(∃xs,SqT K H1 a xs)/\R (j9 K a) H1
def zD{l:Expr}{tl:TE}(f:PE X l tl):PI X tg l (EV X.K tl):=by
 intro aa s σ H R I h;refine ba (f aa s σ H _ I h) fun v c ⟨x,H1,I1,d,q1⟩=>?_;obtain⟨a,e,⟨xs,hq⟩,q⟩:=q1;subst e;cases d;obtain⟨af,g,p,hz⟩:=I1.list hq;refine wpAny_pyIter_list p.isList ?_;refine⟨c⁻¹,[c⁻¹],_,_,H1,rfl,I1.kept (t':=c.toks) fun b o e=>Ad _ e,JN a _,⟨_,Ak _ rfl,rfl,rfl⟩,fun b hb=>?_,q⟩;have e:b=c⁻¹:=by simpa using hb
 subst e;exact I1.fpOk (Af _) (I1.hok.fresh (Af _))
def EW{l:Expr}{tl:TE}(f:PE X l tl):PI X tg l (yu X.K tl):=by
 intro aa s σ H R I h;refine ba (f aa s σ H _ I h) fun v c ⟨x,H1,I1,d,q1⟩=>?_;obtain⟨a,e,⟨xs,hq⟩,q⟩:=q1;subst e;cases d;obtain⟨af,g,p,hz⟩:=I1.tuple hq;refine wpAny_pyIter_tuple (show c.heap.IsTuple a af.toArray from p) ?_;refine⟨c⁻¹,[c⁻¹],_,_,H1,rfl,I1.kept (t':=c.toks) fun b o e=>Ad _ e,JO a _,⟨_,Ak _ rfl,rfl,rfl⟩,fun b hb=>?_,q⟩;have e:b=c⁻¹:=by simpa using hb
 subst e;exact I1.fpOk (Af _) (I1.hok.fresh (Af _))
def JQ{aa:Ψ}{σ:St}{H:Hp}{s:Shared}{R:It->Hp->Prop}{E:Ω}{lo hi:Int}{t u v:Tok}{tk:Nat}(I:Inv X aa σ H s)(h1:-(2 ^ 62)<=lo)(h2:lo<2 ^ 62)(a:-(2 ^ 62)<=hi)(c:hi<2 ^ 62)(q:R (gk lo (hi-lo).toNat) H):wpAny (model X.prog X.w) X.A (pyIter (.ref s⁻¹)) (qP X aa σ tg R) E {s with heap:=s.heap.push {cls:=.type "range",data:=.fields #[.int lo t,.int hi u,.int 1 v]},toks:=tk}:=by
 refine wpAny_pyIter_range (IsRange.new ..) (small_one h1 h2 a c) ?_;have I1:Inv X aa σ H {s with heap:=s.heap.push {cls:=.type "range",data:=.fields #[.int lo t,.int hi u,.int 1 v]},toks:=tk}:=I.kept fun b o e=>Ad _ e;refine⟨(s.heap.push {cls:=.type "range",data:=.fields #[.int lo t,.int hi u,.int 1 v]}).objs.size,[(s.heap.push {cls:=.type "range",data:=.fields #[.int lo t,.int hi u,.int 1 v]}).objs.size],_,_,H,rfl,
  I1.kept (t':=tk) fun b o e=>Ad _ e,JP _ lo (hi-lo).toNat,?_,fun b hb=>?_,q⟩
 ·have e1:lo+((0:Nat):Int)*1=lo:=by simp
  have e2:(((hi-lo).toNat:Nat):Int)-((0:Nat):Int)=Builtin.Range.rangeSize lo hi 1:=by rw[rangeSize_one];split<;>omega
  show IsRangeIter _ _ (lo+((0:Nat):Int)*1) ((((hi-lo).toNat:Nat):Int)-((0:Nat):Int)) 1;rw[e1,e2];exact Ak _ rfl
 ·have e:b=(s.heap.push {cls:=.type "range",data:=.fields #[.int lo t,.int hi u,.int 1 v]}).objs.size:=by simpa using hb
  subst e;exact I1.fpOk (Af _) (I1.hok.fresh (Af _))
def EX(ta:TA):TI:=fun σ H R=>ta σ H fun vs H1=>∃j:Int,vs=[.int j]/\-(2 ^ 62)<=j/\j<2 ^ 62/\R (gk 0 j.toNat) H1
def iC{a:Expr}{ta:TA}{p pos:Pos}(f:Gl X "range")(hm:X.mg "range"=none)(ha:PA X [a] ta)(g:starEach [a] X.env=[(false,eval a X.env)]:=by rfl):PI X tg (.Call (.Name "range" p) [a] [] pos) (EX ta):=by
 intro aa s σ H R I h;refine Call_ (j1 I f hm boot_range (Rh (ba (ha pos aa s σ H _ I h) fun us l ⟨vs,H1,i,c,q1⟩=>?_) g rfl));obtain⟨j,e,q1,d,q⟩:=q1;subst e;cases c with
 |cons r rr=>
  cases rr;obtain⟨t,rfl⟩:=r;exact call_range_1 (JQ i ω ω q1 d (by simpa using q))
def yx(wi:TI)(g:TG)(tb:TS):TS:=fun D σ H=>wi σ H fun J H1=>∃W:Nat->Nat->St->Hp->Prop,(∃m,W 0 m σ H1)/\∀i m σ H,W i m σ H->
 (J.stop i H/\D.nx σ H)\/(J.go i H/\∃N:St->Hp->Prop,(∀a H',N a H'->∃c,c<m/\W (i+1) c a H')/\∀x H',J.yld i H x H'->g x σ H' fun d H2=>tb {D with nx:=N,ct:=N,bk:=D.nx} d H2)
noncomputable def nI(a:List Addr)(h:Heap):Ψ:=a.filterMap fun b=>(h.get? b).map fun o=>(b,o)
def qS{a:List Addr}{h:Heap}{b:Addr}{o:Obj}(hb:b∈a)(e:h.get? b=some o):(b,o)∈nI a h:=SQ.mpr ⟨b,hb,by rw[e];rfl⟩
def JR{a:List Addr}{h:Heap}{p:Addr×Obj}(hp:p∈nI a h):p.1∈a/\h.get? p.1=some p.2:=by
 obtain⟨b,hb,e⟩:=SQ.mp hp;cases q:h.get? b with
 |none=>rw[q] at e;cases e
 |some o=>
  rw[q] at e;have e':(b,o)=p:=Al e;subst e';exact⟨hb,q⟩
def Inv.pinned{aa:Ψ}{σ:St}{H:Hp}{s:Shared}{a:List Addr}(I:Inv X aa σ H s)(hf:∀b∈a,bQ X aa H b)(f:∀b∈a,∃o,s.heap.get? b=some o/\∀v,o.data≠.cell v):Inv X (aa++nI a s.heap) σ H s:=
 I.pins_of fun p hp=>(Qm.mp hp).elim (fun z=>I.pin p (AG _ z)) fun z=>by
  obtain⟨hb,e⟩:=JR z;obtain⟨c,f1,f2,_⟩:=hf p.1 hb;obtain⟨o,e',d⟩:=f p.1 hb;rw[e] at e';cases e';exact⟨e,c,f1,f2,d⟩
def Inv.unpinned{aa a:Ψ}{σ:St}{H:Hp}{s:Shared}(I:Inv X (aa++a) σ H s):Inv X aa σ H s:=I.pins_of fun p hp=>I.pin p (AG _ (AR _ hp))
def d0{iter:Expr}{body:List Stmt}{wi:TI}{g:TG}{tb:TS}{pos:Pos}(hp:PassesOwn (model X.prog X.w) X.A X.env X.xe)(hc:X.calm=true)(hi:PI X tg iter wi)(hg:PG X tg g)(hb:PSs X body tb)(hs:∀x,foldedSetIterable iter X.env x=pure x:=by intro _;rfl):PS X (.For tg iter body [] pos) (yx wi g tb):=by
 intro aa s σ H D I h;refine wpAny_For (ba (hi aa s σ H _ I h) fun v s1 h1=>ba h1 fun oz s2 h2=>?_) hs;obtain⟨it,y,M,J,H2,e,I2,T,aZ,f2,W,⟨m0,w0⟩,turn⟩:=h2;subst e;have c:∀{H':Hp},(∀b∈y,H' b=none)->∀b∈y,bQ X aa H' b:=fun Y b hb=>⟨Y b hb,(f2 b hb).2⟩;refine codeAny_forLoop_any (fun n s'=>∃i C H',Inv X aa C H' s'/\M i s'.heap/\(∀b∈y,H' b=none)/\W i n C H') ?_ m0 ⟨0,σ,H2,I2,aZ,fun b hb=>(f2 b hb).1,w0⟩;rintro n O ⟨i,E,H3,U,P,Q,w3⟩;rcases turn i n E H3 w3 with ⟨stop,qn⟩|⟨go,N,hN,step⟩
 ·refine wpAny_passesOwn hp (ba (T.done X rfl rfl rfl hc i aa O E H3 X.xe U (c Q) P stop) fun r s4 ⟨hr,I4⟩=>?_)
  subst hr;exact wpAny_execs_nil ⟨E,H3,I4,qn⟩
 ·refine wpAny_passesOwn hp (ba (T.item X rfl rfl rfl hc i aa O E H3 X.xe U (c Q) P go) fun r s4 ⟨u,hr,h4⟩=>?_)
  subst hr;refine wpAny_passesOwn hp (ba h4 fun _ L ⟨x,S,I5,r5,y5,p,F⟩=>?_);have oC:=I5.pinned (c F) (T.obj _ _ p);refine wpAny_passesOwn hp (ba (hg _ L E S x u _ oC r5 (step x S y5)) fun _ s6 ⟨j5,H6,I6,q6⟩=>?_);refine wpAny_passesOwn hp (ba (hb _ s6 j5 H6 _ I6 q6) fun f G l=>?_);have again:∀{a:St}{j:Hp},Inv X (aa++nI y L.heap) a j G->N a j->∃m,m<n/\∃i C H',Inv X aa C H' G/\M i G.heap/\(∀b∈y,H' b=none)/\W i m C H':=fun{a j} I7 q=>by
   obtain⟨m',hm,w7⟩:=hN a j q;refine⟨m',hm,i+1,a,j,I7.unpinned,T.keep _ _ _ p fun b hb o e=>(I7.pin (b,o) (AG _ (AG _ (qS hb e)))).1,fun b hb=>?_,w7⟩;obtain⟨o,e,d⟩:=T.obj _ _ p b hb;exact(I7.pin (b,o) (AG _ (AG _ (qS hb e)))).2.1
  cases f with
  |next=>obtain⟨a,j,I7,q⟩:=l;exact again I7 q
  |cont=>obtain⟨a,j,I7,q⟩:=l;exact again I7 q
  |brk=>obtain⟨a,j,I7,l⟩:=l;exact⟨a,j,I7.unpinned,l⟩
  |ret v=>obtain⟨x7,a,j,I7,r7,l⟩:=l;exact⟨x7,a,j,I7.unpinned,r7,l⟩
end
def iD{K:Ae}{a:Addr}{xs:List V}{g:TG}{tb:TS}{D:Ends}{σ:St}{H:Hp}(c:Nat->St->Hp->Prop)(o:c 0 σ H)(r:∀i σ H,i<=xs.length->c i σ H->SqL K H a xs)(u:∀i x σ H,xs[i]?=some x->c i σ H->g x σ H fun f H2=>tb {D with nx:=c (i+1),ct:=c (i+1),bk:=D.nx} f H2)(hd:∀σ H,c xs.length σ H->D.nx σ H):∃W:Nat->Nat->St->Hp->Prop,(∃m,W 0 m σ H)/\∀i m σ H,W i m σ H->
   ((dP K a).stop i H/\D.nx σ H)\/((dP K a).go i H/\∃N:St->Hp->Prop,(∀h H',N h H'->∃j,j<m/\W (i+1) j h H')/\∀x H',(dP K a).yld i H x H'->g x σ H' fun f H2=>tb {D with nx:=N,ct:=N,bk:=D.nx} f H2):=by
 refine⟨fun i m σ H=>m=xs.length-i/\i<=xs.length/\c i σ H,⟨xs.length,by simp,A6 _,o⟩,?_⟩;rintro i m σ H ⟨rfl,hi,p⟩;have q:=r i σ H hi p
 by_cases d:i<xs.length
 ·refine .inr ⟨⟨xs,xs[i],q,by simp[d]⟩,c (i+1),fun h H' l=>⟨xs.length-(i+1),ω,rfl,d,l⟩,fun x H' y=>?_⟩
  obtain⟨e,y⟩:=y;subst e;exact u i x σ _ (y xs q) p
 ·have e:i=xs.length:=ω
  subst e;exact .inl ⟨⟨xs,q,Af _⟩,hd σ H p⟩
def JS{K:Ae}{a:Addr}{xs:List V}{g:TG}{tb:TS}{D:Ends}{σ:St}{H:Hp}(c:Nat->St->Hp->Prop)(o:c 0 σ H)(r:∀i σ H,i<=xs.length->c i σ H->SqT K H a xs)(u:∀i x σ H,xs[i]?=some x->c i σ H->g x σ H fun f H2=>tb {D with nx:=c (i+1),ct:=c (i+1),bk:=D.nx} f H2)(hd:∀σ H,c xs.length σ H->D.nx σ H):∃W:Nat->Nat->St->Hp->Prop,(∃m,W 0 m σ H)/\∀i m σ H,W i m σ H->
   ((j9 K a).stop i H/\D.nx σ H)\/((j9 K a).go i H/\∃N:St->Hp->Prop,(∀h H',N h H'->∃j,j<m/\W (i+1) j h H')/\∀x H',(j9 K a).yld i H x H'->g x σ H' fun f H2=>tb {D with nx:=N,ct:=N,bk:=D.nx} f H2):=by
 refine⟨fun i m σ H=>m=xs.length-i/\i<=xs.length/\c i σ H,⟨xs.length,by simp,A6 _,o⟩,?_⟩;rintro i m σ H ⟨rfl,hi,p⟩;have q:=r i σ H hi p
 by_cases d:i<xs.length
 ·refine .inr ⟨⟨xs,xs[i],q,by simp[d]⟩,c (i+1),fun h H' l=>⟨xs.length-(i+1),ω,rfl,d,l⟩,fun x H' y=>?_⟩
  obtain⟨e,y⟩:=y;subst e;exact u i x σ _ (y xs q) p
 ·have e:i=xs.length:=ω
  subst e;exact .inl ⟨⟨xs,q,Af _⟩,hd σ H p⟩
def qT{lo:Int}{n:Nat}{g:TG}{tb:TS}{D:Ends}{σ:St}{H:Hp}(c:Nat->St->Hp->Prop)(l:c 0 σ H)(o:∀i σ H,i<n->c i σ H->g (.int (lo+i)) σ H fun d H2=>tb {D with nx:=c (i+1),ct:=c (i+1),bk:=D.nx} d H2)(hd:∀σ H,c n σ H->D.nx σ H):∃W:Nat->Nat->St->Hp->Prop,(∃m,W 0 m σ H)/\∀i m σ H,W i m σ H->
   ((gk lo n).stop i H/\D.nx σ H)\/((gk lo n).go i H/\∃N:St->Hp->Prop,(∀f H',N f H'->∃h,h<m/\W (i+1) h f H')/\∀x H',(gk lo n).yld i H x H'->g x σ H' fun d H2=>tb {D with nx:=N,ct:=N,bk:=D.nx} d H2):=by
 refine⟨fun i m σ H=>m=n-i/\i<=n/\c i σ H,⟨n,by simp,A6 _,l⟩,?_⟩;rintro i m σ H ⟨rfl,hi,p⟩
 by_cases a:i<n
 ·refine .inr ⟨a,c (i+1),fun f H' j=>⟨n-(i+1),ω,rfl,a,j⟩,fun x H' y=>?_⟩
  obtain⟨e,y⟩:=y;subst e y;exact o i σ _ a p
 ·have e:i=n:=ω
  subst e;exact .inl ⟨Af _,hd σ H p⟩
abbrev R2:=V->V->Hp->VK->Prop
def cD(X:Cx)(f:Value->Value->Sem Value)(r:R2):Prop:=
 ∀(aa:Ψ)(s:Shared)(σ:St)(H:Hp)(x y:V)(v u:Value)(Q:VK),Inv X aa σ H s->RelV x v->RelV y u->r x y H Q->
  wpAny (model X.prog X.w) X.A (f v u) (EP X aa σ Q) X.xe s
def yy(X:Cx)(f:Value->Sem Value)(r:V->Hp->VK->Prop):Prop:=
 ∀(aa:Ψ)(s:Shared)(σ:St)(H:Hp)(x:V)(v:Value)(Q:VK),Inv X aa σ H s->RelV x v->r x H Q->
  wpAny (model X.prog X.w) X.A (f v) (EP X aa σ Q) X.xe s
def da(X:Cx)(f:Value)(r:List V->Hp->VK->Prop):Prop:=
 ∀(aa:Ψ)(s:Shared)(σ:St)(H:Hp)(xs:List V)(us:List Value)(Q:VK),Inv X aa σ H s->Vals xs us->r xs H Q->
  wpAny (model X.prog X.w) X.A (call f us) (EP X aa σ Q) X.xe s
def cp(r:R2)(ta tb:TE):TE:=fun σ H Q=>ta σ H fun x H1=>tb σ H1 fun y H2=>r x y H2 Q
def yB(r:V->Hp->VK->Prop)(ta:TE):TE:=fun σ H Q=>ta σ H fun x H1=>r x H1 Q
def rI(C:Int->Int->Prop)(g:Int->Int->V):R2:=fun x y H Q=>∃i j,x=.int i/\y=.int j/\C i j/\Q (g i j) H
def dR(g:Int->Int->V):R2:=fun x y H Q=>∃i j,x=.int i/\y=.int j/\Q (g i j) H
def rU(g:Int->V):V->Hp->VK->Prop:=fun x H Q=>∃i,x=.int i/\Q (g i) H
section
variable{X:Cx}{a b c:Expr}{ta tb tc:TE}{pos:Pos}
def j_(ha:PE X a ta)(hb:PE X b tb){aa:Ψ}{s:Shared}{σ:St}{H:Hp}{R:V->V->Hp->Prop}(I:Inv X aa σ H s)(h:ta σ H fun x H1=>tb σ H1 fun y H2=>R x y H2){Q:Ω}{f:Value->Value->Sem Value}(hf:∀v u c x y H2,Inv X aa σ H2 c->RelV x v->RelV y u->R x y H2->wpAny (model X.prog X.w) X.A (f v u) Q X.xe c):wpAny (model X.prog X.w) X.A (eval a X.env) (fun v d=>wpAny (model X.prog X.w) X.A (eval b X.env) (fun u e=>wpAny (model X.prog X.w) X.A (f v u) Q X.xe e) X.xe d) X.xe s:=by
 refine ba (ha aa s σ H _ I h) fun v g ⟨x,H1,o,i,q1⟩=>?_;refine ba (hb aa g σ H1 _ o q1) fun u c ⟨y,H2,p,j,l⟩=>?_;exact hf v u c x y H2 p i j l
def zy{op:Operator}{r:R2}(f:cD X (binaryOp op) r)(ha:PE X a ta)(hb:PE X b tb):PE X (.BinOp a op b pos) (cp r ta tb):=by
 intro aa s σ H Q I h;exact wpAny_BinOp (j_ ha hb I h fun v u c x y H2 g d e q=>f aa c σ H2 x y v u Q g d e q)
def yC{op:UnaryOp}{r:V->Hp->VK->Prop}(e:yy X (unaryOp op) r)(ha:PE X a ta):PE X (.UnaryOp op a pos) (yB r ta):=by
 intro aa s σ H Q I h;exact UnaryOp_ (ba (ha aa s σ H _ I h) fun v c ⟨x,H1,f,d,q1⟩=>e aa c σ H1 x v Q f d q1)
def qU{f:Value->Value->Sem Value}{C:Int->Int->Prop}{g:Int->Int->Int}(rule:∀(i j:Int)(t u:Tok)(s:Shared)(Q:Ω)(E:Ω),C i j->Q (.int (g i j) s.toks) {s with toks:=s.toks+1}->wpAny (model X.prog X.w) X.A (f (.int i t) (.int j u)) Q E s):cD X f (rI C fun i j=>.int (g i j)):=by
 intro aa s σ H x y v u Q I a c h;obtain⟨i,j,rfl,rfl,hc,q⟩:=h;obtain⟨t,rfl⟩:=a;obtain⟨t',rfl⟩:=c;exact rule i j t t' s _ _ hc ⟨.int (g i j),H,I.tok _,⟨_,rfl⟩,q⟩
def nK{f:Value->Value->Sem Value}{g:Int->Int->Int}(rule:∀(i j:Int)(t u:Tok)(s:Shared)(Q:Ω)(E:Ω),Q (.int (g i j) s.toks) {s with toks:=s.toks+1}->wpAny (model X.prog X.w) X.A (f (.int i t) (.int j u)) Q E s):cD X f (dR fun i j=>.int (g i j)):=by
 intro aa s σ H x y v u Q I a c h;obtain⟨i,j,rfl,rfl,q⟩:=h;obtain⟨t,rfl⟩:=a;obtain⟨t',rfl⟩:=c;exact rule i j t t' s _ _ ⟨.int (g i j),H,I.tok _,⟨_,rfl⟩,q⟩
def iE{f:Value->Value->Sem Value}{g:Int->Int->Bool}(rule:∀(i j:Int)(t u:Tok)(s:Shared)(Q:Ω)(E:Ω),Q (.bool (g i j)) s->wpAny (model X.prog X.w) X.A (f (.int i t) (.int j u)) Q E s):cD X f (dR fun i j=>.bl (g i j)):=by
 intro aa s σ H x y v u Q I a c h;obtain⟨i,j,rfl,rfl,q⟩:=h;obtain⟨t,rfl⟩:=a;obtain⟨t',rfl⟩:=c;exact rule i j t t' s _ _ ⟨.bl (g i j),H,I,rfl,q⟩
def yD(i j:Int):Prop:=0<j/\j<1073741824
def nN(i j:Int):Prop:=0<=j/\j<=1000000/\i.natAbs<2 ^ 64
def CMul(i j:Int):Prop:=(-(2 ^ 64)<i/\i<2 ^ 64)\/(-(2 ^ 64)<j/\j<2 ^ 64)
def CMul.ok{i j:Int}(h:CMul i j):IntMulOk i j:=by
 rcases h with ⟨h1,h2⟩|⟨h1,h2⟩
 ·exact .of_left (intBits_le_64 h1 h2)
 ·exact .of_right (intBits_le_64 h1 h2)
def zS:cD X (binaryOp .Add) (dR fun i j=>.int (i+j)):=nK fun _ _ _ _ _ _ _ q=>add_int q
def lW:cD X (binaryOp .Sub) (dR fun i j=>.int (i-j)):=nK fun _ _ _ _ _ _ _ q=>sub_int q
def ik:cD X (binaryOp .Mult) (rI CMul fun i j=>.int (i*j)):=qU fun _ _ _ _ _ _ _ hc q=>mul_int q hc.ok
def EY:cD X (binaryOp .FloorDiv) (rI yD fun i j=>.int (i / j)):=qU fun i j _ _ _ _ _ hc q=>by
 have h1:(0:Int)<j:=hc.1;have h2:j<1073741824:=hc.2;exact floordiv_int ω (by rw[Int.fdiv_eq_ediv_of_nonneg i ω];exact q) (.inl (PyProof.noPylong_small ω))
def gt:cD X (binaryOp .Mod) (rI (fun _ j=>0<j) fun i j=>.int (i%j)):=qU fun i j _ _ _ _ _ hc q=>by
 have h1:(0:Int)<j:=hc;exact mod_int' ω (by rw[Int.fmod_eq_emod_of_nonneg i ω];exact q)
def yE:cD X (binaryOp .Pow) (rI nN fun i j=>.int (i ^ j.toNat)):=qU fun _ _ _ _ _ _ _ hc q=>pow_int_small hc.1 hc.2.1 hc.2.2 q
def JT{f:Value->Sem Value}{g:Int->Int}(rule:∀(i:Int)(t:Tok)(s:Shared)(Q:Ω)(E:Ω),Q (.int (g i) s.toks) {s with toks:=s.toks+1}->wpAny (model X.prog X.w) X.A (f (.int i t)) Q E s):yy X f (rU fun i=>.int (g i)):=by
 intro aa s σ H x v Q I a h;obtain⟨i,rfl,q⟩:=h;obtain⟨t,rfl⟩:=a;exact rule i t s _ _ ⟨.int (g i),H,I.tok _,⟨_,rfl⟩,q⟩
def yS:yy X (unaryOp .USub) (rU fun i=>.int (-i)):=JT fun _ _ _ _ _ q=>neg_int q
end
noncomputable def nO:V->V->Bool
 |.non,.non=>true|.non,.int _=>true|.int _,.non=>true|.non,.bl _=>true|.bl _,.non=>true|.non,.str _=>true|.str _,.non=>true
 |.int _,.int _=>true|.bl _,.bl _=>true|.str _,.str _=>true|.byt _,.byt _=>true
 |.int _,.str _=>true|.str _,.int _=>true|.bl _,.str _=>true|.str _,.bl _=>true
 |_,_=>false
def nP:R2:=fun x y H Q=>nO x y=true/\Q (.bl (decide (x=y))) H
def EZ:R2:=fun x y H Q=>nO x y=true/\Q (.bl (!decide (x=y))) H
def E1{i j:Int}:decide (V.int i=V.int j)=(i==j):=by
 rw[Rp];simp
def gP{i j:Bool}:decide (V.bl i=V.bl j)=(i==j):=by
 rw[Rp];simp
def E2{i j:Str}:decide (V.str i=V.str j)=(i==j):=by
 rw[Rp];simp
def E3{i j:Array UInt8}:decide (V.byt i=V.byt j)=(i.toList==j.toList):=by
 rw[Rp];cases i;cases j;simp
section
variable{X:Cx}{a b c:Expr}{ta tb tc:TE}{pos:Pos}
def aH{aa:Ψ}{σ:St}{H:Hp}{s:Shared}{Q:VK}{k a:Bool}(I:Inv X aa σ H s)(q:Q (.bl k) H)(e:k=a):EP X aa σ Q (.bool a) s:=by
 subst e;exact⟨.bl k,H,I,rfl,q⟩
def fY:cD X (A2 .Eq) nP:=by
 intro aa s σ H x y v u Q I d a h;obtain⟨c,q⟩:=h;cases x with
 |non=>
  cases d;cases y with
  |non=>cases a;exact PySem.EqNone.eq_none_none (aH I q (by simp))
  |bl j=>cases a;exact PySem.EqNone.eq_none_bool (aH I q (by simp))
  |int j=>obtain⟨t',rfl⟩:=a;exact PySem.EqNone.eq_none_int (aH I q (by simp))
  |str j=>obtain⟨t',rfl⟩:=a;exact PySem.EqNone.eq_none_str (aH I q (by simp))
  |_=>exact absurd (show false=true from c) An
 |bl i=>
  cases d;cases y with
  |non=>cases a;exact PySem.EqNone.eq_bool_none (aH I q (by simp))
  |bl j=>cases a;exact eq_bool (aH I q gP)
  |str j=>obtain⟨t',rfl⟩:=a;exact PySem.EqMixed.eq_bool_str (aH I q (by simp))
  |_=>exact absurd (show false=true from c) An
 |int i=>
  obtain⟨t,rfl⟩:=d;cases y with
  |non=>cases a;exact PySem.EqNone.eq_int_none (aH I q (by simp))
  |int j=>obtain⟨t',rfl⟩:=a;exact eq_int (aH I q E1)
  |str j=>obtain⟨t',rfl⟩:=a;exact PySem.EqMixed.eq_int_str (aH I q (by simp))
  |_=>exact absurd (show false=true from c) An
 |str i=>
  obtain⟨t,rfl⟩:=d;cases y with
  |non=>cases a;exact PySem.EqNone.eq_str_none (aH I q (by simp))
  |bl j=>cases a;exact PySem.EqMixed.eq_str_bool (aH I q (by simp))
  |int j=>obtain⟨t',rfl⟩:=a;exact PySem.EqMixed.eq_str_int (aH I q (by simp))
  |str j=>obtain⟨t',rfl⟩:=a;exact eq_str (aH I q E2)
  |_=>exact absurd (show false=true from c) An
 |byt i=>
  obtain⟨t,rfl⟩:=d;cases y with
  |byt j=>obtain⟨t',rfl⟩:=a;exact PySem.W.eq_bytes (aH I q E3)
  |_=>exact absurd (show false=true from c) An
 |_=>cases y<;>exact absurd (show false=true from c) An
def nQ:cD X (A2 .NotEq) EZ:=by
 intro aa s σ H x y v u Q I d a h;obtain⟨c,q⟩:=h;cases x with
 |non=>
  cases d;cases y with
  |non=>cases a;exact PySem.EqNone.ne_none_none (aH I q (by simp))
  |bl j=>cases a;exact PySem.EqNone.ne_none_bool (aH I q (by simp))
  |int j=>obtain⟨t',rfl⟩:=a;exact PySem.EqNone.ne_none_int (aH I q (by simp))
  |str j=>obtain⟨t',rfl⟩:=a;exact PySem.EqNone.ne_none_str (aH I q (by simp))
  |_=>exact absurd (show false=true from c) An
 |bl i=>
  cases d;cases y with
  |non=>cases a;exact PySem.EqNone.ne_bool_none (aH I q (by simp))
  |bl j=>cases a;exact ne_bool (aH I q (congrArg not gP))
  |str j=>obtain⟨t',rfl⟩:=a;exact PySem.EqMixed.ne_bool_str (aH I q (by simp))
  |_=>exact absurd (show false=true from c) An
 |int i=>
  obtain⟨t,rfl⟩:=d;cases y with
  |non=>cases a;exact PySem.EqNone.ne_int_none (aH I q (by simp))
  |int j=>obtain⟨t',rfl⟩:=a;exact ne_int (aH I q (congrArg not E1))
  |str j=>obtain⟨t',rfl⟩:=a;exact PySem.EqMixed.ne_int_str (aH I q (by simp))
  |_=>exact absurd (show false=true from c) An
 |str i=>
  obtain⟨t,rfl⟩:=d;cases y with
  |non=>cases a;exact PySem.EqNone.ne_str_none (aH I q (by simp))
  |bl j=>cases a;exact PySem.EqMixed.ne_str_bool (aH I q (by simp))
  |int j=>obtain⟨t',rfl⟩:=a;exact PySem.EqMixed.ne_str_int (aH I q (by simp))
  |str j=>obtain⟨t',rfl⟩:=a;exact ne_str (aH I q (congrArg not E2))
  |_=>exact absurd (show false=true from c) An
 |byt i=>
  obtain⟨t,rfl⟩:=d;cases y with
  |byt j=>obtain⟨t',rfl⟩:=a;exact PySem.W.ne_bytes (aH I q (congrArg not E3))
  |_=>exact absurd (show false=true from c) An
 |_=>cases y<;>exact absurd (show false=true from c) An
def nS:cD X (A2 .Lt) (dR fun i j=>.bl (decide (i<j))):=iE fun _ _ _ _ _ _ _ q=>lt_int q
def qV:cD X (A2 .LtE) (dR fun i j=>.bl (decide (i<=j))):=iE fun _ _ _ _ _ _ _ q=>le_int q
def nW:cD X (A2 .Gt) (dR fun i j=>.bl (decide (j<i))):=iE fun _ _ _ _ _ _ _ q=>gt_int q
def JU:cD X (A2 .GtE) (dR fun i j=>.bl (decide (j<=i))):=iE fun _ _ _ _ _ _ _ q=>ge_int q
def iH:cD X (A2 .Is) (fun x y H Q=>y=.non/\Q (.bl (decide (x=.non))) H):=by
 intro aa s σ H x y v u Q I a c h;obtain⟨rfl,q⟩:=h;cases c;refine is_none_gen (aH I q ?_);cases x<;>first
  |(cases a;rfl)
  |(obtain⟨t,rfl⟩:=a;rfl)
def nY:cD X (A2 .IsNot) (fun x y H Q=>y=.non/\Q (.bl (!decide (x=.non))) H):=by
 intro aa s σ H x y v u Q I a c h;obtain⟨rfl,q⟩:=h;cases c;refine isnot_none_gen (aH I q ?_);cases x<;>first
  |(cases a;rfl)
  |(obtain⟨t,rfl⟩:=a;rfl)
def al(b:Expr){op:CmpOp}(h:op≠.In:=by decide)(h2:op≠.NotIn:=by decide):behindInMarks op b=false:=by
 have e1:(op==CmpOp.In)=false:=by cases op<;>first|rfl|exact absurd rfl h
 have e2:(op==CmpOp.NotIn)=false:=by cases op<;>first|rfl|exact absurd rfl h2
 cases b<;>simp[behindInMarks,e1,e2]
def f_{op:CmpOp}{r:R2}(f:cD X (A2 op) r)(ha:PE X a ta)(hb:PE X b tb)(hm:behindInMarks op b=false):PE X (.Compare a [op] [b] pos) (cp r ta tb):=by
 intro aa s σ H Q I h;exact wpAny_Compare1 (j_ ha hb I h fun v u c x y H2 g d e q=>f aa c σ H2 x y v u Q g d e q) hm
def eB(t:TE):TT:=fun σ H Q=>t σ H fun x H'=>∃k,x=.bl k/\Q k H'
def zn{op:CmpOp}{r:R2}(p:cD X (A2 op) r)(ha:PE X a ta)(hb:PE X b tb)(hm:behindInMarks op b=false):PT X (.Compare a [op] [b] pos) (eB (cp r ta tb)):=by
 intro aa s σ H Q I h;refine wpAny_isTrue_Compare1 (ba (ha aa s σ H _ I h) fun v d ⟨x,H1,q,f,q1⟩=>ba (hb aa d σ H1 _ q q1) fun u g ⟨y,H2,w,i,j⟩=>
  ba (p aa g σ H2 x y v u _ w f i j) fun c C ⟨z,H3,A,l,k,e,o⟩=>?_) hm
 subst e;cases l;exact wpAny_truthy_bool ⟨H3,A,o⟩
def y9(r c:R2)(ta tb tc:TE):TE:=fun σ H Q=>ta σ H fun x H1=>tb σ H1 fun y H2=>r x y H2 fun z H3=>∃k,z=.bl k/\
 (if k=true then tc σ H3 fun a d=>c y a d Q else Q (.bl false) H3)
def JV{op f:CmpOp}{r l:R2}(M:cD X (A2 op) r)(g:cD X (A2 f) l)(ha:PE X a ta)(hb:PE X b tb)(hc:PE X c tc)(hm:lastMarks [op,f] [b,c]=false:=by with_unfolding_all rfl):PE X (.Compare a [op,f] [b,c] pos) (y9 r l ta tb tc):=by
 intro aa s σ H Q I h;refine Compare_chain (ba (ha aa s σ H _ I h) fun v p ⟨x,H1,N,q,q1⟩=>chain_link (ba (hb aa p σ H1 _ N q1) fun u w ⟨y,H2,O,i,A⟩=>
  ba (M aa w σ H2 x y v u _ O q i A) fun d C ⟨z,H3,o,D,k,e,j⟩=>?_)) hm
 subst e;cases D;refine wpAny_truthy_bool ?_;cases k with
 |false=>exact ite_ff ⟨.bl false,H3,o,rfl,j⟩
 |true=>exact ite_tt (chain_last (ba (hc aa C σ H3 _ o j) fun E F ⟨G,P,S,J,L⟩=>g aa F σ P y G u E Q S i J L))
def E4{op f:CmpOp}{r l:R2}(P:cD X (A2 op) r)(g:cD X (A2 f) l)(ha:PE X a ta)(hb:PE X b tb)(hc:PE X c tc)(hm:lastMarks [op,f] [b,c]=false:=by with_unfolding_all rfl):PT X (.Compare a [op,f] [b,c] pos) (eB (y9 r l ta tb tc)):=by
 intro aa s σ H Q I h;refine isTrue_chain (ba (ha aa s σ H _ I h) fun v p ⟨x,H1,S,q,q1⟩=>test_link (ba (hb aa p σ H1 _ S q1) fun u w ⟨y,H2,T,i,A⟩=>
  ba (P aa w σ H2 x y v u _ T q i A) fun d C ⟨z,H3,o,D,k,e,j⟩=>?_)) hm
 subst e;cases D;refine wpAny_truthy_bool ?_;cases k with
 |false=>
  obtain⟨k',e',O⟩:=j;cases e';exact ite_ff ⟨H3,o,O⟩
 |true=>
  refine ite_tt (test_last (ba (hc aa C σ H3 _ o j) fun E F ⟨G,U,W,J,L⟩=>ba (g aa F σ U y G u E _ W i J L) fun d' s5 ⟨z2,Y,I5,M,k2,e2,N⟩=>?_));subst e2;cases M;exact wpAny_truthy_bool ⟨Y,I5,N⟩
def dn:(sizeLine:Nat)<2 ^ 63:=by rw[sizeLine_eq];decide
def vals1{x:V}{us:List Value}(r:Vals [x] us):∃u,us=[u]/\RelV x u:=by
 cases r with
 |cons r1 r2=>cases r2;exact⟨_,rfl,r1⟩
def vals2{x y:V}{us:List Value}(r:Vals [x,y] us):∃u a,us=[u,a]/\RelV x u/\RelV y a:=by
 cases r with
 |cons r1 r2=>
  cases r2 with
  |cons r3 r4=>cases r4;exact⟨_,_,rfl,r1,r3⟩
def zz(K:Ae)(x:V)(H:Hp)(n:Nat):Prop:=
 match x with
 |.str y=>y.length<=sizeLine/\n=y.length
 |.byt y=>y.size<=sizeLine/\n=y.size
 |.ref p=>(∃xs,SqL K H p xs/\n=xs.length)\/∃xs,SqT K H p xs/\n=xs.length
 |_=>False
def E5:da X (.builtin "len") (fun xs H Q=>∃x n,xs=[x]/\zz X.K x H n/\Q (.int n) H):=by
 intro aa s σ H xs us Q I r h;obtain⟨x,n,rfl,e,q⟩:=h;obtain⟨u,rfl,c⟩:=vals1 r;have g:=dn;have i:sizeLine=16777216:=sizeLine_eq;cases x with
 |str y=>
  obtain⟨t,rfl⟩:=c;obtain⟨hy,e'⟩:y.length<=sizeLine/\n=y.length:=e;subst e';exact len_str ω ⟨.int _,H,I.tok _,⟨_,rfl⟩,q⟩
 |byt y=>
  obtain⟨t,rfl⟩:=c;obtain⟨hy,e'⟩:y.size<=sizeLine/\n=y.size:=e;subst e';exact PySem.W.len_bytes ω ⟨.int _,H,I.tok _,⟨_,rfl⟩,q⟩
 |ref p=>
  cases c;have e':(∃xs,SqL X.K H p xs/\n=xs.length)\/∃xs,SqT X.K H p xs/\n=xs.length:=e;rcases e' with ⟨xs,hx,e'⟩|⟨xs,hx,e'⟩
  ·subst e'
   obtain⟨af,d,f,hz⟩:=I.list hx;have a:=d.length;exact Calls.call_len_list f.isList (by simp only[Ao];omega) ⟨.int xs.length,H,I.tok _,⟨_,by simp only[Ao];rw[a]⟩,q⟩
  ·subst e'
   obtain⟨af,d,f,hz⟩:=I.tuple hx;have a:=d.length;exact len_tuple f (by simp only[Ao];omega) ⟨.int xs.length,H,I.tok _,⟨_,by simp only[Ao];rw[a]⟩,q⟩
 |_=>exact(show False from e).elim
end
structure ObjM(h:Heap)(x dx C:Addr)(mA:Str->Option Value):Prop where
 obj:h.get? x=some (Td C dx)
 ns:h.Ns1 dx mA
 ne:dx≠x
def JW{h:Heap}{dx:Addr}{mA:Str->Option Value}(n:h.Ns1 dx mA):∃c,h.get? dx=some c/\∀name,Te name c=some (mA name):=by
 obtain⟨o,es,ep,d,hd,hk,_,hm⟩:=n;refine⟨o,d,fun name=>?_⟩;have e:=hm name;unfold nsFind findBy at e;rw[<-Array.find?_toList] at e;unfold Te;rw[hd];dsimp only;split
 ·rename_i y q
  rw[q] at e;exact congrArg some e
 ·rename_i q
  rw[q] at e;have a:es.toList.any (·.refKey)=false:=by
   rw[Si];intro y hy;obtain⟨z,t,f⟩:=hk y (Array.mem_toList_iff.mp hy);simp[DictEntry.refKey,f]
  have g:¬es.toList.any (·.refKey)=true:=by rw[a];exact An
  rw[Ti g];exact congrArg some e
def ObjM.look{h:Heap}{x dx C:Addr}{mA:Str->Option Value}(I:ObjM h x dx C mA):∃a,PySem.W.InstAt h x (Td C dx) C (some a)/\∀name,Te name a=some (mA name):=
 let ⟨a,ho,hl⟩:=JW I.ns
 ⟨a,⟨I.obj,rfl,rfl,ho⟩,hl⟩
section
variable{prog:Program}{w:World}{A:Around}{E:Ω}{s:Shared}{K:Ae}{x dx C f:Addr}{mA:Str->Option Value}{name:Str}{v:Value}
def Bn{c:Bool}{Q:Ω}(X:K.In s.heap)(I:ObjM s.heap x dx C mA)(d:S7 K C name=true)(e:PySem.W.hasDictIn K C=true)(ha:Tf K (.ref C) name=some none)(f:mA name=some v)(g:PySem.W.handedIn v=true)(h:Q v {s with toks:=s.toks+1}):wpAny (model prog w) A (getAttr (.ref x) name c) Q E s:=by
 obtain⟨i,J,a⟩:=I.look;exact PySem.W.get_value X J (PySem.W.plainGet_of d).1 (PySem.W.findObj_own e ha rfl (by rw[a,f])) g h
end
def RelO.some_of{v:V}{o:Option Value}(r:RelO (some v) o):∃u,o=some u/\RelV v u:=by
 cases o with
 |none=>exact(show False from r).elim
 |some u=>exact⟨u,rfl,r⟩
section
variable{P:Program}{w:World}{H H':Hp}{h h':Heap}{a C dx:Addr}{fs u0:List (Str×V)}
def JX(c:HOk P w H h)(e:H a=some (.ins C dx fs)):∃mA,ObjM h a dx C mA/\(∀f,RelO (fs.lookup f) (mA f))/\PySem.Within mA (fs.map (·.1))/\fs.length<=1000/\H dx=some (.own a):=by
 obtain⟨d,z,ne,ob,mA,n,r,q⟩:=(show zC P w H h a (.ins C dx fs) from c a _ e);exact⟨mA,⟨ob,n,ne⟩,r,q,z,d⟩
end
structure Cls(K:Ae)(C:Addr):Prop where
 pg:S7 K C Str.empty=true
 hd:PySem.W.hasDictIn K C=true
 po:PySem.W.plainOver K C=true
 sa:Tf K (.ref C) "__setattr__"=some (some (.builtin "object.__setattr__"))
def Cls.get{K:Ae}{C:Addr}(c:Cls K C)(f:Str):S7 K C f=true:=c.pg
section
variable{X:Cx}{aa:Ψ}{σ:St}{H:Hp}{s:Shared}{A:Around}{E:Ω}{Q:Ω}{c:Value}{b:Bool}
inductive dg(K:Ae)(H:Hp):V->Value->Prop where
 |non:dg K H .non (.type "NoneType")
 |bl (x:Bool):dg K H (.bl x) (.type "bool")
 |int (i:Int):dg K H (.int i) (.type "int")
 |str (x:Str):dg K H (.str x) (.type "str")
 |flt (x:UInt64):dg K H (.flt x) (.type "float")
 |lst {a:Addr} {xs:List V} (e:H a=some (.lst xs)):dg K H (.ref a) (.type "list")
 |frz {a:Addr} {o:Obj} {xs:List V} (e:H a=some (.frz o (.lst xs))):dg K H (.ref a) (.type "list")
 |tup {a:Addr} {xs:List V} (e:H a=some (.tup xs)):dg K H (.ref a) (.type "tuple")
 |dK {a:Addr} {kvs:List (Key×V)} (e:H a=some (.dK kvs)):dg K H (.ref a) (.type "dict")
 |dT {a:Addr} {kvs:List (List Key×V)} (e:H a=some (.dT kvs)):dg K H (.ref a) (.type "dict")
 |ins {a C dx:Addr} {fs:List (Str×V)} (e:H a=some (.ins C dx fs)) (cl:Cls K C) (ha:Tf K (.ref C) "__class__"=some (some (.builtin "object.__class__")))
   (hn:PySem.W.specialIn K (.builtin "object.__class__") "__get__"=some (some (.builtin "getset_descriptor.__get__"))) (qW:PySem.W.takesIn K (.builtin "object.__class__")=some true)
   (hm:PySem.W.mroIn K C (.type "object")=some true):dg K H (.ref a) (.ref C)
def n3{x:V}{u t:Value}(I:Inv X aa σ H s)(d:RelV x u)(ty:dg X.K H x t)(e:PySem.W.kitOne X.K t c=some b)(h:∀tk,Q (.bool b) {s with toks:=tk}):wpAny (model X.prog X.w) A (call (.builtin "isinstance") [u,c]) Q E s:=by
 cases ty with
 |non=>cases(show u=Value.none from d);exact QJ PySem.W.kitx_none I.kIn True.intro e (fun z=>nomatch z) h
 |bl y=>cases(show u=Value.bool y from d);exact QJ PySem.W.kitx_bool I.kIn True.intro e (fun z=>nomatch z) h
 |int i=>obtain⟨t,q⟩:=(show ∃t,u=Value.int i t from d);cases q;exact QJ PySem.W.kitx_int I.kIn True.intro e (fun z=>nomatch z) h
 |str y=>obtain⟨t,q⟩:=(show ∃t,u=Value.str y t from d);cases q;exact QJ PySem.W.kitx_str I.kIn True.intro e (fun z=>nomatch z) h
 |flt y=>obtain⟨t,q⟩:=(show ∃t,u=Value.float y t from d);cases q;exact QJ PySem.W.kitx_float I.kIn True.intro e (fun z=>nomatch z) h
 |@lst a xs ea=>
  cases(show u=Value.ref a from d);obtain⟨_,_,n,_,h1⟩:=(show zC X.prog X.w H s.heap a (.lst xs) from I.hok a _ ea);exact QJ PySem.W.kitx_list I.kIn ⟨_,h1,rfl⟩ e (fun z=>nomatch z) h
 |@frz a ob xs ea=>
  cases(show u=Value.ref a from d);obtain⟨_,_,_,n,_,h1⟩:=(show zC X.prog X.w H s.heap a (.frz ob (.lst xs)) from I.hok a _ ea);exact QJ PySem.W.kitx_list I.kIn ⟨_,h1,rfl⟩ e (fun z=>nomatch z) h
 |@tup a xs ea=>
  cases(show u=Value.ref a from d);obtain⟨_,_,_,p⟩:=(show zC X.prog X.w H s.heap a (.tup xs) from I.hok a _ ea);obtain⟨o,h1,h2,_⟩:=p;exact QJ PySem.W.kitx_tuple I.kIn ⟨o,h1,h2⟩ e (fun z=>nomatch z) h
 |@dK a kvs ea=>
  cases(show u=Value.ref a from d);obtain⟨_,_,vs,_,p⟩:=(show zC X.prog X.w H s.heap a (.dK kvs) from I.hok a _ ea);obtain⟨o,es,ep,h1,h2,_⟩:=p;exact QJ PySem.W.kitx_dict I.kIn ⟨o,h1,h2.1⟩ e (fun z=>nomatch z) h
 |@dT a kvs ea=>
  cases(show u=Value.ref a from d);obtain⟨_,_,xs,_,o,es,ep,h1,h2,_⟩:=(show zC X.prog X.w H s.heap a (.dT kvs) from I.hok a _ ea);exact QJ PySem.W.kitx_dict I.kIn ⟨o,h1,h2.1⟩ e (fun z=>nomatch z) h
 |@ins a C dx fs ea cl ha hn qW hm=>
  cases(show u=Value.ref a from d);obtain⟨mA,O,_⟩:=JX I.hok ea;obtain⟨f,J,_⟩:=O.look;exact QJ (PySem.W.kitx_own (cl.get _) cl.hd ha hn qW hm) I.kIn J e (fun z=>nomatch z) h
end
structure Room(k:Nat)(A:Around):Prop where
 hd:A.handled=none
 dp:A.depth+3*k+5<recursionLimit
 un:A.units+16*k+200<cLine
def Room.mono{j k:Nat}{A:Around}(r:Room k A)(h:j<=k):Room j A:=⟨r.hd,by have:=r.dp;omega,by have:=r.un;omega⟩
def Room.deeper{k:Nat}{A:Around}(r:Room (k+1) A)(env:Env):Room k (A.deeper env):=
 ⟨r.hd,by have:=r.dp;show A.depth+1+3*k+5<_;omega,by have:=r.un;show A.units+3+16*k+200<_;omega⟩
def Room.in1{k:Nat}{A:Around}(r:Room (k+1) A):Room k A.in1:=
 ⟨r.hd,by have:=r.dp;show A.depth+3*k+5<_;omega,by have:=r.un;show A.units+1+16*k+200<_;omega⟩
def Room.depth{k:Nat}{A:Around}(r:Room k A):A.depth<recursionLimit:=by have:=r.dp;omega
def Room.units{k:Nat}{A:Around}(r:Room k A):A.units+64<cLine:=by have:=r.un;omega
def br:TA:=fun _ H Q=>Q [] H
def zJ(ta:TE)(a:TA):TA:=fun σ H Q=>ta σ H fun x H1=>a σ H1 fun xs H2=>Q (x::xs) H2
section
variable{X:Cx}{e:Expr}{es:List Expr}{te:TE}{t:TA}{pos:Pos}
def zd:PA X [] br:=fun _ _ _ _ H Q I h=>Calls.spliced_nil ⟨[],H,I,.nil,h⟩
def zc(ha:PE X e te)(hr:PA X es t)(g:starEach (e::es) X.env=(false,eval e X.env)::starEach es X.env:=by rfl):PA X (e::es) (zJ te t):=by
 intro pos aa s σ H Q I h;rw[g];show wpAny _ _ (spliced ((false,eval e X.env)::backTo pos (starEach es X.env))) _ _ s;refine Calls.spliced_cons (ba (ha aa s σ H _ I h) fun u a ⟨x,H1,i,c,q1⟩=>?_);exact ba (hr pos aa a σ H1 _ i q1) fun us l ⟨xs,H2,j,d,f⟩=>⟨x::xs,H2,j,.cons c d,f⟩
def c7(t:TA):TE:=fun σ H Q=>t σ H fun xs H1=>xs.length<=sizeLine/\∀p,H1 p=none->Q (.ref p) (upd H1 p (.tup xs))
def Br(t:TA):TE:=fun σ H Q=>t σ H fun xs H1=>xs.length<=sizeLine/\∀p,H1 p=none->Q (.ref p) (upd H1 p (.lst xs))
def ei{x1}(h:PA X es t):PE X (.Tuple es x1 pos) (c7 t):=by
 intro aa s σ H Q I hq;refine wpAny_Tuple_spliced (ba (h pos aa s σ H _ I hq) fun us a ⟨xs,H1,I1,r,z,q⟩=>⟨by rw[<-r.length];exact z,?_⟩);have hf:H1 a⁻¹=none:=I1.hok.fresh (Af _);refine⟨.ref a⁻¹,upd H1 a⁻¹ (.tup xs),I1.laid (t':=a.toks) (fun b u e=>Ad _ e) (Af _) ?_,rfl,q _ hf⟩;exact⟨z,us,r,⟨_,Ak _ rfl,rfl,_,rfl⟩⟩
def fy(h:PA X es t):PE X (.List es pos) (Br t):=by
 intro aa s σ H Q I hq;refine wpAny_List_spliced (ba (h pos aa s σ H _ I hq) fun us a ⟨xs,H1,I1,r,z,q⟩=>⟨by rw[<-r.length];exact z,?_⟩);have hf:H1 a⁻¹=none:=I1.hok.fresh (Af _);refine⟨.ref a⁻¹,upd H1 a⁻¹ (.lst xs),I1.laid (t':=a.toks) (fun b u e=>Ad _ e) (Af _) ?_,rfl,q _ hf⟩;exact⟨z,us,0,r,Ak _ rfl⟩
end
abbrev Sp:=List V->Hp->VK->XK->Prop
abbrev e_:=List Env->Hp->Shared->XK->Ω
structure Env0(P:Program)(w:World)(K:Ae)(mg:Str->Option Value)(base:Heap)(A:Around)(outer:List Env)(s:Shared)(H:Hp):Prop where
 frames:A.frames=some outer
 mod:Mod K mg base
 bs:∀b o,base.get? b=some o->s.heap.get? b=some o/\H b=none
 bsz:base.objs.size<=s⁻¹
 funs:s.heap.FunFrames base outer
 frf:∀b∈frs outer,H b=none
 hok:HOk P w H s.heap
 bare:AllBare s.gens
def CE(outer:List Env)(P:Program)(w:World)(H:Hp)(s:Shared)(Q:VK)(u:Value)(s':Shared):Prop:=
 ∃v H',s'.os=s.os/\AllBare s'.gens/\Un (frs outer) [] H H' s.heap s'.heap/\HOk P w H' s'.heap/\RelV v u/\Q v H'
def CR(CX:e_)(outer:List Env)(P:Program)(w:World)(H:Hp)(s:Shared)(Q:VK)(E:XK)(r:Result)(s':Shared):Prop:=
 match r with
 |.ok (.ret u)=>CE outer P w H s Q u s'
 |.ok _=>False
 |.error e=>CX outer H s E e s'
structure FnOk(P:Program)(w:World)(K:Ae)(mg:Str->Option Value)(base:Heap)(CX:e_)(k:Nat)(f:Addr)(fd:FuncData)(ps:List Str)(sp:Sp):Prop where
 len:∀vs H Q E,sp vs H Q E->vs.length=ps.length
 run:∀(A:Around)(outer:List Env)(s:Shared)(H:Hp)(args:Args)(us:List Value)(vs:List V)(Q:VK)(E:XK),Room k A->Env0 P w K mg base A outer s H->BindsTo s fd args (ps.zip us)->Vals vs us->sp vs H Q E->
  codeAny (model P w) A (.call (.ref f) args) (CR CX outer P w H s Q E) s
def Env0.in1{P:Program}{w:World}{K:Ae}{mg:Str->Option Value}{base:Heap}{A:Around}{outer:List Env}{s:Shared}{H:Hp}(e:Env0 P w K mg base A outer s H):Env0 P w K mg base A.in1 outer s H:=⟨e.frames,e.mod,e.bs,e.bsz,e.funs,e.frf,e.hok,e.bare⟩
section
variable{X:Cx}{aa:Ψ}{σ:St}{H:Hp}{s s':Shared}
def Inv.env0(I:Inv X aa σ H s):Env0 X.prog X.w X.K X.mg X.base X.A X.stack s H:=
 ⟨I.ok.frames,I.ok.mod,I.bs,AA I.ok.bsz I.sz,I.stack,I.stkFree,I.hok,I.bare⟩
def Inv.after{Q:VK}{u:Value}(I:Inv X aa σ H s)(h:CE X.stack X.prog X.w H s Q u s'):EP X aa σ Q u s':=by
 obtain⟨v,H',os,a,un,c,r,q⟩:=h;obtain⟨e,g,d,t,f⟩:=s';obtain rfl:f=s.os:=os;exact⟨v,H',I.call (h':=e) (g':=g) (d':=d) (t':=t) (ch:=[]) un c a (fun b z=>absurd z (by simp)),r,q⟩
end
def jq(sp:Sp)(fL:List V)(E:XK)(t:TA):TE:=fun σ H Q=>t σ H fun vs H1=>sp (vs++fL) H1 Q E
def Binds(K:Ae)(fd:FuncData)(ps:List Str)(ds:List Value):Prop:=
 ∀(s:Shared)(us:List Value),K.In s.heap->(us++ds).length=ps.length->BindsTo s fd ⟨us,[]⟩ (ps.zip (us++ds))
def Binds.all{K:Ae}{fd:FuncData}{ps:List Str}(h:∀us:List Value,us.length=ps.length->bindArgs fd ⟨us,[]⟩=pure (ps.zip us)):Binds K fd ps []:=fun s us _ a=>by
 rw[QD] at a ⊢;exact .of_eq (h us a)
def d_(CX:e_)(X:Cx)(E:XK):Prop:=∀(aa:Ψ)(σ:St)(H:Hp)(s:Shared)(e:Value)(s':Shared),Inv X aa σ H s->CX X.stack H s E e s'->X.xe e s'
section
variable{X:Cx}{CX:e_}{k:Nat}{f C:Addr}{fd:FuncData}{ps:List Str}{sp:Sp}{fL:List V}{ds:List Value}{E:XK}{x m:Str}{p pos aW:Pos}{e o:Expr}{es:List Expr}{ta:TE}{t:TA}
def JY{aa:Ψ}{σ:St}{H:Hp}{s:Shared}{Q:VK}{us:List Value}{vs:List V}(F:FnOk X.prog X.w X.K X.mg X.base CX k f fd ps sp)(hr:Room k X.A)(hb:Binds X.K fd ps ds)(hd:Vals fL ds)(hx:d_ CX X E)(I:Inv X aa σ H s)(r:Vals vs us)(h:sp (vs++fL) H Q E):wpAny (model X.prog X.w) X.A (call (.ref f) us) (EP X aa σ Q) X.xe s:=by
 have a:Vals (vs++fL) (us++ds):=r.append hd;have c:(us++ds).length=ps.length:=by rw[<-a.length];exact F.len _ _ _ _ h
 refine wpAny_call (codeAny_mono (F.run X.A X.stack s H ⟨us,[]⟩ (us++ds) (vs++fL) Q E hr I.env0 (hb s us I.kIn c) a h) fun r s' hq=>?_);cases r with
 |error e=>exact hx aa σ H s e s' I hq
 |ok fl=>
  cases fl with
  |ret u=>exact I.after hq
  |next=>exact False.elim hq
  |brk=>exact False.elim hq
  |cont=>exact False.elim hq
def fc(F:FnOk X.prog X.w X.K X.mg X.base CX k f fd ps sp)(hr:Room k X.A)(c:Gl X x)(hm:X.mg x=some (.ref f))(hk:Sj X.K (.ref f)=true)(hb:Binds X.K fd ps ds)(hd:Vals fL ds)(hx:d_ CX X E)(ha:PA X (e::es) t)(d:(x==("__debug__":Str))=false:=by decide)(g:starEach (e::es) X.env=(false,eval e X.env)::starEach es X.env:=by rfl)(a:(backTo pos (starEach es X.env)).any (·.1)=false:=by rfl):PE X (.Call (.Name x p) (e::es) [] pos) (jq sp fL E t):=by
 intro aa s σ H Q I h;refine wpAny_Call_Name_kw (EJ I c hm ?_ d);refine PySem.W.callWith_K (h₀:=X.base) I.ok.mod.kin hk (ba (ha pos aa s σ H _ I h) fun us i ⟨vs,H1,I1,r,q⟩=>⟨I1.kIn,?_⟩) g a;exact JY F hr hb hd hx I1 r q
end
structure zp(N P:List Str)(sc:Scope):Prop where
 kind:sc.kind=.function
 co:sc.isCoroutine=false
 gen:sc.isGenerator=false
 nd:N.Nodup
 pre:N.take P.length=P
 par:∀x∈P,sc.names.lookup x=some .local\/sc.names.lookup x=some .cell
 nofree:∀y∈sc.names,y.2≠.free
def E6{kindOf:Str->Option NameKind}{x:Str}:∀{binds:List (Str×Value)}{m:Str->Option Value},(∀v,(x,v)∉binds)->bindL kindOf binds m x=m x
 |[],_,_=>rfl
 |(n,v)::r,m,h=>by
  unfold bindL;rw[E6 fun w hw=>h w (Aw _ hw)];split
  ·have:x≠n:=by rintro rfl;exact h v Ay
   simp[this]
  ·rfl
def E7{kindOf:Str->Option NameKind}{x:Str}:∀{binds:List (Str×Value)}{m:Str->Option Value},(∀v,(x,v)∉binds)->bindC kindOf binds m x=m x
 |[],_,_=>rfl
 |(n,v)::r,m,h=>by
  unfold bindC;rw[E7 fun w hw=>h w (Aw _ hw)];split
  ·rfl
  ·have:x≠n:=by rintro rfl;exact h v Ay
   simp[this]
def E8{kindOf:Str->Option NameKind}{x:Str}{v:Value}:∀{P:List Str}{vs:List Value}{i:Nat}{m:Str->Option Value},P.Nodup->P[i]?=some x->vs[i]?=some v->kindOf x=some .local->
  bindL kindOf (P.zip vs) m x=some v
 |[],_,_,_,_,h,_,_=>by simp at h
 |_::_,[],_,_,_,_,h,_=>by simp at h
 |p::P,w::vs,0,m,nd,h1,h2,hk=>by
  simp at h1 h2;subst h1;subst h2;show bindL kindOf ((p,w)::P.zip vs) m p=_;unfold bindL;rw[E6 fun v a=>(Qp.mp nd).1 (SE a).1,Th hk];simp
 |p::P,w::vs,i+1,m,nd,h1,h2,hk=>by
  show bindL kindOf ((p,w)::P.zip vs) m x=_;unfold bindL;exact E8 (i:=i) (Qp.mp nd).2 (by simpa using h1) (by simpa using h2) hk
def E9{kindOf:Str->Option NameKind}{x:Str}{v:Value}:∀{P:List Str}{vs:List Value}{i:Nat}{m:Str->Option Value},P.Nodup->P[i]?=some x->vs[i]?=some v->kindOf x≠some .local->
  bindC kindOf (P.zip vs) m x=some v
 |[],_,_,_,_,h,_,_=>by simp at h
 |_::_,[],_,_,_,_,h,_=>by simp at h
 |p::P,w::vs,0,m,nd,h1,h2,hk=>by
  simp at h1 h2;subst h1;subst h2;show bindC kindOf ((p,w)::P.zip vs) m p=_;unfold bindC;rw[E7 fun v a=>(Qp.mp nd).1 (SE a).1,Ti hk];simp
 |p::P,w::vs,i+1,m,nd,h1,h2,hk=>by
  show bindC kindOf ((p,w)::P.zip vs) m x=_;unfold bindC;exact E9 (i:=i) (Qp.mp nd).2 (by simpa using h1) (by simpa using h2) hk
noncomputable def start(N:List Str)(vs:List V):St:=vs.map some++List.replicate (N.length-vs.length) none
noncomputable def eD(CX:e_)(P:Program)(w:World)(K:Ae)(mg:Str->Option Value)(base:Heap)(N:List Str)(a:Str)(scope:Scope)(f:Addr)(c:Value)(A:Around)(outer:List Env)(s:Shared)(H:Hp)(E:XK):Cx where
 prog:=P
 w:=w
 K:=K
 mg:=mg
 base:=base
 A:=A.deeper (envOfC a scope s⁻¹ f c)
 N:=N
 s₀:=s
 H₀:=H
 env:=envOfC a scope s⁻¹ f c
 outer:=outer
 stack:=envOfC a scope s⁻¹ f c::outer
 ex:=[]
 calm:=true
 fn:=fun _=>true
 pn:=[]
 xe:=fun e s'=>wpAny (model P w) (A.deeper (envOfC a scope s⁻¹ f c)) (leaving (envOfC a scope s⁻¹ f c) e) (fun _ d=>CX outer H s E e d) (fun e' d=>CX outer H s E e' d) s'
def E_{sc:Scope}{n:Nat}{x:Str}(h:sc.names.lookup x=some .cell):∃c,(cellsFrom n sc.names []).lookup x=some c:=by
 have q:=Ri sc.names n [] (.inl h);exact Ra.mp q
def JZ{CX:e_}{P:Program}{w:World}{K:Ae}{mg:Str->Option Value}{base:Heap}{N ps:List Str}{l:Str}{scope:Scope}{f:Addr}{o:Value}{A:Around}{outer:List Env}{s C:Shared}{H:Hp}{E:XK}{us:List Value}{vs:List V}(S:zp N ps scope)(hd:A.handled=none)(d:Env0 P w K mg base A outer s H)(I:vs.length=ps.length)(r:Vals vs us)(x:InCallC s s⁻¹ (bindL (envOfC l scope s⁻¹ f o).kindOf (ps.zip us) fun _=>none) (cellsFrom (s⁻¹+1) scope.names []) (bindC (envOfC l scope s⁻¹ f o).kindOf (ps.zip us) fun _=>none) C):Inv (eD CX P w K mg base N l scope f o A outer s H E) [] (start N vs) H C:=by
 have F:ps.length<=N.length:=by have:=congrArg List.length S.pre;rw[AC] at this;omega
 obtain⟨h1,tk,rfl,hk⟩:=x.done;have g:∀b:Addr,b∉(eD CX P w K mg base N l scope f o A outer s H E).ex:=fun b z=>absurd (show b∈([]:List Addr) from z) (by simp);refine⟨⟨d.mod,S.kind,rfl,rfl,Af _,fun y z c h1 h2=>?_,fun y hy=>?_,fun y c _ h=>?_,fun _=>hd,Around.frames_deeper d.frames,.inr ⟨rfl,rfl⟩,fun b z=>absurd z (g b),d.bs,d.bsz,fun b _ _=>g b,fun b z=>absurd z (g b),d.funs,d.frf⟩,
  rfl,d.bare,Un.kept hk,⟨_,x.toInCall.ns,fun i y v h1 h2 G=>?_⟩,fun y c h=>⟨_,x.cell y c h⟩,d.hok.fresh (Af _),fun y c h=>?_,fun p hp=>absurd (show p∈([]:Ψ) from hp) (by simp),d.hok.kept hk,?_⟩
 ·exact name_of_addr x.apart (A8 h1) (A8 h2)
 ·have hy:scope.names.lookup y=some .cell\/scope.names.lookup y=some .free:=hy
  rcases hy with hy|hy
  ·exact E_ hy
  ·exact absurd rfl (S.nofree _ (A8 hy))
 ·exact Q5 (x.above y c (A8 h))
 ·have hi:i<vs.length:=by
   unfold start at h2
   by_cases hi:i<vs.length
   ·exact hi
   ·rw[Qy (by simpa using hi)] at h2
    rw[List.getElem?_replicate] at h2;split at h2<;>cases h2
  have ha:vs[i]?=some v:=by
   unfold start at h2;rw[QC (by simpa using hi),Ag] at h2;cases e:vs[i]? with
   |none=>rw[e] at h2;cases h2
   |some a=>rw[e] at h2;cases h2;rfl
  obtain⟨u,hu,D⟩:=r.get ha;have hp:ps[i]?=some y:=by
   rw[<-S.pre,Qw ω];exact h1
  have j:ps.Nodup:=by rw[<-S.pre];exact S.nd.sublist (List.take_sublist _ _)
  refine⟨u,D,?_⟩;rcases S.par y (Ai hp) with k|k
  ·exact .inl ⟨k,E8 j hp hu k⟩
  ·obtain⟨c,e⟩:=E_ (n:=s⁻¹+1) k
   refine .inr ⟨.inl k,c,e,?_⟩;have q:=x.cell y c e;rw[E9 j hp hu (by show scope.names.lookup y≠_;rw[k];decide)] at q;exact q
 ·exact d.hok.fresh (Q5 (x.above y c (A8 h)))
 ·unfold start
  show _=N.length;rw[Ar,Ab,List.length_replicate];omega
def Fa{CX:e_}{P:Program}{w:World}{K:Ae}{mg:Str->Option Value}{base:Heap}{k:Nat}{f:Addr}{name a:Str}{j:Arguments}{body:List Stmt}{scope:Scope}{l kV p C c ct oc:Value}{D od:Option Addr}{M:Array (Option Value)}{N ps:List Str}{sp:Sp}(lk:K.lookup f=some ⟨oc,od,.func (Rx name a j body scope l kV p C D c ct),M⟩)(O:SR K c a=true)(S:zp N ps scope)(len:∀vs H Q E,sp vs H Q E->vs.length=ps.length)(bq:∀(A:Around)(outer:List Env)(s:Shared)(H:Hp)(vs:List V)(Q:VK)(E:XK),Room k (A.deeper (envOfC a scope s⁻¹ f c))->sp vs H Q E->
   ∃t,PSs (eD CX P w K mg base N a scope f c A outer s H E) body t/\t {nx:=fun _ H'=>Q .non H',rt:=Q} (start N vs) H):
  FnOk P w K mg base CX (k+1) f (Rx name a j body scope l kV p C D c ct) ps sp:=by
 refine⟨len,fun A outer s H args us vs Q E hr g hb r F=>?_⟩;have U:=len _ _ _ _ F;have L:K.In s.heap:=g.mod.kin.keeps fun b o e=>(g.bs b o e).1;have X:s.heap.NoLimit:=g.mod.nolimit.keeps fun b o e=>(g.bs b o e).1;have Y:∀y∈ps.zip us,scope.names.lookup y.1=some .local\/(scope.names.lookup y.1=some .cell/\((cellsFrom (s⁻¹+1) scope.names []).lookup y.1).isSome=true):=fun⟨n,v⟩ hy=>by
  rcases S.par n (SE hy).1 with q|q
  ·exact .inl q
  ·exact .inr ⟨q,Ri _ _ _ (.inl q)⟩
 refine codeAny_call_function hr.depth (L _ _ lk) rfl S.co S.gen rfl (PySem.W.codeRec_of L O) (hb _ _ _ _ ?_);refine wpAny_newFunctionEnv_cells S.kind Y fun env T G x=>?_;subst T;refine⟨X.keeps x.toInCall.keep,codeAny_func ?_⟩;obtain⟨t,ht,hq⟩:=bq A outer s H vs Q E (hr.deeper _) F;have I:Inv (eD CX P w K mg base N a scope f c A outer s H E) [] (start N vs) H G:=JZ S hr.hd g U r x;refine wpAny_mono (ht [] G (start N vs) H _ I hq) (fun fl s' d=>?_) fun e s' d=>d;have fin:∀{h:St}{H':Hp}{v:V}{u:Value},Inv (eD CX P w K mg base N a scope f c A outer s H E) [] h H' s'->RelV v u->Q v H'->CE outer P w H s Q u s':=
  fun{h H' v u} J i q=>⟨v,H',J.os,J.bare,J.base,J.hok,i,q⟩
 cases fl with
 |ret u=>
  obtain⟨v,h,H',J,i,q⟩:=d;exact fin J i q
 |next=>
  obtain⟨h,H',J,q⟩:=d;exact fin (v:=V.non) (u:=Value.none) J rfl q
 |brk=>
  obtain⟨_,_,_,q⟩:=d;exact False.elim q
 |cont=>
  obtain⟨_,_,_,q⟩:=d;exact False.elim q
section
variable{X:Cx}{x:Str}{p pos:Pos}{e:Expr}{es:List Expr}{t:TA}{id T:String}{r:List V->Hp->VK->Prop}
def gS(r:List V->Hp->VK->Prop)(t:TA):TE:=fun σ H Q=>t σ H fun vs H1=>r vs H1 Q
def zl(hc:da X (.builtin id) r)(f:Gl X x)(hm:X.mg x=none)(g:AZ x=some (.builtin id))(ha:PA X (e::es) t)(i:x≠"__name__":=by decide)(j:(x==("__debug__":Str))=false:=by decide)
  (l:starEach (e::es) X.env=(false,eval e X.env)::starEach es X.env:=by rfl) (a:(backTo pos (starEach es X.env)).any (·.1)=false:=by rfl):PE X (.Call (.Name x p) (e::es) [] pos) (gS r t):=by
 intro aa s σ H Q I h;refine wpAny_Call_Name_kw (j1 I f hm g ?_ i j);exact PyProof.Rows.callWith_builtin1 (ba (ha pos aa s σ H _ I h) fun us c ⟨vs,H1,o,d,q1⟩=>hc aa c σ H1 vs us Q o d q1) l a
def zu(hc:da X (.type T) r)(f:Gl X x)(hm:X.mg x=none)(g:AZ x=some (.type T))(ha:PA X (e::es) t)(i:x≠"__name__":=by decide)(j:(x==("__debug__":Str))=false:=by decide)
  (l:starEach (e::es) X.env=(false,eval e X.env)::starEach es X.env:=by rfl) (a:(backTo pos (starEach es X.env)).any (·.1)=false:=by rfl):PE X (.Call (.Name x p) (e::es) [] pos) (gS r t):=by
 intro aa s σ H Q I h;refine wpAny_Call_Name_kw (j1 I f hm g ?_ i j);exact Rh (ba (ha pos aa s σ H _ I h) fun us c ⟨vs,H1,o,d,q1⟩=>hc aa c σ H1 vs us Q o d q1) l a
end
end L2
namespace HT
open PySem PyProof.Rows
noncomputable def lexLt:List Int->List Int->Bool
 |[],[]=>false
 |[],_::_=>true
 |_::_,[]=>false
 |x::xs,y::ys=>if x=y then lexLt xs ys else decide (x<y)
def zM(x y:Int)(xs ys:List Int):lexLt (x::xs) (y::ys)=if x=y then lexLt xs ys else decide (x<y):=rfl
def Fb:lexLt [] []=false:=rfl
def n4(y:Int)(ys:List Int):lexLt [] (y::ys)=true:=rfl
def Fc(x:Int)(xs:List Int):lexLt (x::xs) []=false:=rfl
def J0(A:Around)(s:Shared)(a:Int)(t:Tok)(c:Int)(u:Tok):∃e,SeqAt.EqAt A s (.int a t) (.int c u) e/\(e=true↔a=c):=
 ⟨(a==c),SeqAt.EqAt.int_int a t c u,by simp⟩
def J1(A:Around)(s:Shared)(a:Int)(t:Tok)(c:Int)(u:Tok)(prog:Program)(w:World)(E:Ω)(Q:Ω)(h:Q (.bool (decide (a<c))) s):wpAny (model prog w) A (richCompare .Lt (.int a t) (.int c u)) Q E s:=
 (PyProof.Rows.lt_int h:wpAny (model prog w) A (A2 .Lt (.int a t) (.int c u)) Q E s)
section
open PySem.SeqAt
open PySem.AutoSeq1 (wpAny_loadPart')
open PySem.MeetsSeq PySem.MeetsSeq2 PySem.MeetsSeq3
def J3(l b:Addr)(p r:Array Value)(n n2:Nat)(dd M:Option Addr)(N O:Array (Option Value))(ns D:List Int)(hi:IntsAre p.toList ns)(H:IntsAre r.toList D):Meets (Builtin.«tuple.__lt__» ⟨[.ref l,.ref b],[]⟩)
   (fun _ R s=>s.heap.get? l=some {cls:=.type "tuple",dict:=dd,data:=.seq p n,slots:=N}/\s.heap.get? b=some {cls:=.type "tuple",dict:=M,data:=.seq r n2,slots:=O}/\
    R (.ok (.ret (.bool (lexLt ns D)))) s):=
 .of_wp fun prog w A R s h=>by
  obtain⟨hp,g,d,tk,os⟩:=s;obtain⟨I,hb,h⟩:=h;have f2:=AutoSeq1.sub_tuple_tuple;have S:p.size=ns.length:=by rw[<-hi.length];simp
  have T:r.size=D.length:=by rw[<-H.length];simp
  wp_walk using wpAny_loadPart' I,wpAny_loadPart' hb,wpAny_forIn_list _ (fun rest b s'=>b.1=none/\s'=⟨hp,g,d,tk,os⟩/\∃(vs v:List Value)(j o:List Int),rest=vs.zip v/\
   IntsAre vs j/\IntsAre v o/\j.length+r.size=o.length+p.size/\R (.ok (.ret (.bool (lexLt j o)))) ⟨hp,g,d,tk,os⟩) _
  case turn=>
   rintro⟨y,x⟩ rest b s' ⟨hb',rfl,vs,v,j,o,hz,E,C,f,i⟩;cases E with
   |nil=>rw[List.zip_nil_left] at hz;cases hz
   |cons a t hvi'=>
    cases C with
    |nil=>rw[List.zip_nil_right] at hz;cases hz
    |cons c u hwi'=>
     rw[SS] at hz;injection hz with hyx dQ
     injection hyx with hy hx
     subst hy hx;rw[zM] at i;simp only[AB] at f;obtain⟨e,J,F⟩:=J0 A.in1 ⟨hp,g,d,tk,os⟩ a t c u;refine Aa (J prog w _ _ ?_);cases e with
     |true=>
      rw[Th (F.mp rfl)] at i
      wp_walk
      exact⟨rfl,rfl,_,_,_,_,dQ,hvi',hwi',ω,i⟩
     |false=>
      rw[Ti (fun q=>absurd (F.mpr q) An)] at i;have L:=J1 A.in1 ⟨hp,g,d,tk,os⟩ a t c u prog w
      wp_walk using L
      exact⟨_,rfl,by simpa using i⟩
  case fin=>
   rintro⟨P,Q⟩ s' ⟨hb',rfl,vs,v,j,o,hz,E,C,f,i⟩;simp only at hb';subst hb';have G:lexLt j o=decide (p.size<r.size):=by
    cases E with
    |nil=>
     cases C with
     |nil=>
      simp only[QY] at f;rw[Fb];exact(Tk ω).symm
     |cons c u hw=>
      simp only[QY,AB] at f;rw[n4];exact(Tj ω).symm
    |cons a t G=>
     cases C with
     |nil=>
      simp only[QY,AB] at f;rw[Fc];exact(Tk ω).symm
     |cons c u hw=>
      rw[SS] at hz;cases hz
   rw[G] at i
   wp_walk
   exact⟨_,rfl,by simpa[Builtin.Tuple.tupleCompareSizes] using i⟩
  case h=>
   exact⟨rfl,rfl,p.toList,r.toList,ns,D,rfl,hi,H,ω,h⟩
end
section
variable{prog:Program}{w:World}{A:Around}{E:Ω}{s:Shared}
def J4{l b:Addr}{d e:Array Value}{ns c:List Int}{Q:Ω}(q:IsTup s.heap l d)(hb:IsTup s.heap b e)(hi:IntsAre d.toList ns)(r:IntsAre e.toList c)(hu:A.units<cLine)(h:Q (.bool (lexLt ns c)) s):wpAny (model prog w) A (A2 .Lt (.ref l) (.ref b)) Q E s:=by
 obtain⟨⟨cls,dd,data,j⟩,f,hc,n,hd⟩:=id q;obtain⟨⟨u,o,data2,p⟩,g,a,n2,i⟩:=id hb;simp only at hc hd a i;subst hc hd a i;exact richCompare_meets_room (op:=.Lt) ⟨_,f,rfl⟩ ⟨_,g,rfl⟩ PySem.F.slot_tuple_lt PySem.F.entry_tuple_lt (PySem.F.args_tuple_lt_2 _ _) (J3 l b d e n n2 dd o j p ns c hi r)
  ⟨f,g,show Value.bool (lexLt ns c)≠Value.notImplemented/\Q (.bool (lexLt ns c)) s from⟨(fun x=>nomatch x),h⟩⟩ hu
def J5{t b:Addr}{vs a:List Value}{Q:Ω}(ht:IsTup s.heap t vs.toArray)(hb:IsTup s.heap b a.toArray)(l:vs≠[])(h1:a=[]->Q (.ref t) s)(h2:a≠[]->Q (.ref s⁻¹) {s with heap:=s.heap.push {cls:=.type "tuple",data:=.seq (vs++a).toArray}})(hsz:vs.length+a.length<=sizeLine):wpAny (model prog w) A (binaryOp .Add (.ref t) (.ref b)) Q E s:=by
 obtain⟨⟨cls,dd,data,g⟩,d,hc,n,hd⟩:=id ht;obtain⟨⟨o,h,data2,i⟩,f,c,n2,j⟩:=id hb;simp only at hc hd c j;subst hc hd c j;have e:vs.toArray++a.toArray=(vs++a).toArray:=by simp
 by_cases hw:a=[]
 ·exact concat_meets ⟨_,d,rfl⟩ ⟨_,f,rfl⟩ noFill_tuple_add seq_tuple_add Sk Sg (Sa _ _)
   (tuple_addW1 t b vs.toArray a.toArray n n2 dd h g i (by simpa using l) (by simp[hw])) ⟨d,f,h1 hw⟩
 ·refine concat_meets ⟨_,d,rfl⟩ ⟨_,f,rfl⟩ noFill_tuple_add seq_tuple_add Sk Sg (Sa _ _)
   (tuple_addW2 t b vs.toArray a.toArray n n2 dd h g i (by simpa using l) (by simpa using hw) (by rw[Ao,Ao];exact hsz)) ⟨d,f,?_⟩
  rw[e];exact h2 hw
noncomputable def sIx(n d:Nat):Option Int->Nat
 |none=>d
 |some v=>if v<0 then(v+(n:Int)).toNat else min v.toNat n
def Bv(n d:Nat):sIx n d none=d:=rfl
def qX(n d k:Nat):sIx n d (some (k:Int))=min k n:=by
 show(if(k:Int)<0 then((k:Int)+(n:Int)).toNat else min (k:Int).toNat n)=min k n;rw[Ti ω,QB]
def J6(n d:Nat)(hd:d<=n)(o:Option Int):sIx n d o<=n:=by
 cases o with
 |none=>exact hd
 |some v=>
  show(if v<0 then(v+(n:Int)).toNat else min v.toNat n)<=n
  by_cases a:v<0
  ·rw[Th a];omega
  ·rw[Ti a];exact S8 _ _
def Fd(v:Int)(n d:Nat):(if v<0 then max (v+(n:Int)) 0 else min v (n:Int))=((sIx n d (some v):Nat):Int):=by
 show(if v<0 then max (v+(n:Int)) 0 else min v (n:Int))=(((if v<0 then(v+(n:Int)).toNat else min v.toNat n):Nat):Int)
 by_cases a:v<0
 ·simp only[Th a];omega
 ·simp only[Ti a];omega
def J7(lo hi:Option Int)(n:Nat):Builtin.Slice.sliceAdjust lo hi 1 (n:Int)=(((sIx n 0 lo:Nat):Int),((sIx n n hi:Nat):Int)):=by
 have h1:¬((1:Int)<0):=ω
 unfold Builtin.Slice.sliceAdjust;simp only[h1,if_false];refine Prod.ext ?_ ?_
 ·cases lo with
  |none=>rfl
  |some v=>exact Fd v n 0
 ·cases hi with
  |none=>rfl
  |some v=>exact Fd v n n
def J8(i j:Nat):Builtin.Slice.slicePlaces (i:Int) (j:Int) 1=j-i:=by
 unfold Builtin.Slice.slicePlaces;have h1:(1:Int)>0:=ω
 simp only[h1,if_true,Int.ediv_one];split<;>omega
def Fe{v:Value}{o:Option Int}{Q:Option Int->Shared->Prop}(p:IsPart v o)(h:Q o s):wpAny (model prog w) A (Builtin.Slice.slicePartIndex v) Q E s:=by
 cases p with
 |none=>exact slicePart_none h
 |int i t=>exact slicePart_int h
def Ff{f:Addr}{d e:Value}{lo hi:Option Int}{n:Nat}{Q:Int×Int×Nat->Shared->Prop}(g:s.heap.IsSliceOf f d e .none)(i:IsPart d lo)(j:IsPart e hi)(h:Q (((sIx n 0 lo:Nat):Int),1,sIx n n hi-sIx n 0 lo) s):wpAny (model prog w) A (Builtin.Slice.sliceApplied (.ref f) (pure (n:Int))) Q E s:=by
 obtain⟨os,a,l,c⟩:=id g;unfold Builtin.Slice.sliceApplied Builtin.Slice.sliceFields;refine Aa (Aa (Ba a c (x:=d) rfl (Aa (Ba a c (x:=e) rfl (Aa (Ba a c (x:=.none) rfl (Ac ?_)))))));refine Aa (slicePart_none ?_);show wpAny _ _ (if((1:Int)==0)=true then _ else _) _ _ s;rw[Ti ξ];refine Aa (Fe i (Aa (Fe j (Aa (Ac ?_)))));show wpAny _ _ (match Builtin.Slice.sliceAdjust lo hi 1 (n:Int) with|(lo,hi)=>pure (lo,(1:Int),Builtin.Slice.slicePlaces lo hi 1)) _ _ s;rw[J7 lo hi n];show wpAny _ _ (pure (((sIx n 0 lo:Nat):Int),(1:Int),Builtin.Slice.slicePlaces ((sIx n 0 lo:Nat):Int) ((sIx n n hi:Nat):Int) 1)) _ _ s;rw[J8];exact Ac h
def J9(xs:Array Value)(i k:Nat):((AD k).filterMap fun(m:Nat)=>xs[((i:Int)+(m:Int)*1).toNat]?).toArray=((xs.toList.drop i).take k).toArray:=by
 have e:(fun(m:Nat)=>xs[((i:Int)+(m:Int)*1).toNat]?)=fun m=>xs[i+m]?:=by
  funext m
  have:((i:Int)+(m:Int)*1).toNat=i+m:=ω
  rw[this]
 rw[e];have:=pick_run xs i k;rw[List.filterMap_map] at this;have e2:((fun x=>xs[x]?) ∘ fun x=>i+x)=fun m=>xs[i+m]?:=rfl;rw[e2] at this;rw[this]
def J_{t d:Addr}{a:Array Value}{e f:Value}{lo hi:Option Int}{Q:Ω}(ht:IsTup s.heap t a)(g:s.heap.IsSliceOf d e f .none)(p:IsPart e lo)(r:IsPart f hi)(hw:¬(sIx a.size 0 lo=0/\sIx a.size a.size hi=a.size))(h:Q (.ref s⁻¹) {s with heap:=s.heap.push {cls:=.type "tuple",data:=.seq ((a.toList.drop (sIx a.size 0 lo)).take (sIx a.size a.size hi-sIx a.size 0 lo)).toArray}})(hsz:a.size<=sizeLine):wpAny (model prog w) A (getItem (.ref t) (.ref d)) Q E s:=by
 have c:sizeOk (.seq ((a.toList.drop (sIx a.size 0 lo)).take (sIx a.size a.size hi-sIx a.size 0 lo)).toArray):=by
  show((a.toList.drop (sIx a.size 0 lo)).take (sIx a.size a.size hi-sIx a.size 0 lo)).toArray.size<=sizeLine;rw[Ao,AC,QE,AE];omega
 have v:sIx a.size a.size hi<=a.size:=J6 _ _ (Af _) hi;obtain⟨os,i,j,u⟩:=id g;have l:s.TypeIs (.ref d) "slice":=⟨os,i,j⟩;unfold getItem
 try with_reducible refine AU ?_
 first|refine Aa (Ac ?_)|skip
 refine Aa (wpAny_sequenceKey ht.typeIs ξ ?_);refine Aa (AN (name:=Bg "__getitem__") ht.typeIs Q7
  (AK Q7 ht.typeIs entry_tuple_getitem ?_ (args_tuple_getitem _ _)))
 show wpAny _ _ (Builtin.Tuple.tupleItemsOf (.ref t) >>= _) _ _ s;refine Aa (tupleItemsOf_ ht ?_);refine Aa (wpAny_typeOf l ?_);rw[Th ξ];refine Aa (Ff g p r ?_);have o:¬((((sIx a.size 0 lo:Nat):Int)==0&&(1:Int)==1&&(sIx a.size a.size hi-sIx a.size 0 lo)==a.size)=true):=by
  intro q;rw[AM,AM] at q;have q1:((sIx a.size 0 lo:Nat):Int)=0:=eq_of_beq q.1.1;have x:sIx a.size a.size hi-sIx a.size 0 lo=a.size:=eq_of_beq q.2;exact hw ⟨ω,ω⟩
 show wpAny _ _ (if(((sIx a.size 0 lo:Nat):Int)==0&&(1:Int)==1&&(sIx a.size a.size hi-sIx a.size 0 lo)==a.size)=true then _ else _) _ _ s;rw[Ti o,J9]
 first
  |exact Aa (m:=Builtin.Tuple.tupleExact _) (AI (Ac ⟨_,rfl,Ac h⟩) c)
  |exact Aa (m:=Builtin.Tuple.tupleExact _) (AI (Aa (Ac (Ac ⟨_,rfl,Ac h⟩))) c)
  |exact Aa (Aa (m:=Builtin.Tuple.tupleExact _) (AI (Ac (Ac ⟨_,rfl,Ac h⟩)) c))
  |exact Aa (Aa (m:=Builtin.Tuple.tupleExact _) (AI (Ac ⟨_,rfl,Ac h⟩) c))
end
end HT
namespace L2
open PySem PySem.Spec PyProof.Rows
abbrev TO:=St->Hp->(Option Int->Hp->Prop)->Prop
def PO(X:Cx)(e:Option Expr)(t:TO):Prop:=
 ∀(aa:Ψ)(s:Shared)(σ:St)(H:Hp)(Q:Option Int->Hp->Prop),Inv X aa σ H s->t σ H Q->
  wpAny (model X.prog X.w) X.A (evalPart e X.env) (fun u s'=>∃o H',Inv X aa σ H' s'/\IsPart u o/\Q o H') X.xe s
def l5:TO:=fun _ H Q=>Q none H
def l7(t:TE):TO:=fun σ H Q=>t σ H fun x H1=>∃i,x=.int i/\Q (some i) H1
def intsAre_of{ns:List Int}:∀{us:List Value},Vals (ns.map V.int) us->IntsAre us ns:=by
 induction ns with
 |nil=>intro us r;rw[Sl] at r;cases r;exact .nil
 |cons n ns ih=>
  intro us r;rw[At] at r;cases r with
  |cons r1 r2=>
   obtain⟨t,e⟩:=r1;subst e;exact .cons n t (ih r2)
section
variable{X:Cx}{e:Expr}{te:TE}{lo hi:Option Expr}{tl th:TO}{pos p2:Pos}
def iJ:PO X none l5:=by
 intro aa s σ H Q I h;rw[evalPart_none];exact Ac ⟨none,H,I,.none,h⟩
def iK(h:PE X e te):PO X (some e) (l7 te):=by
 intro aa s σ H Q I hw;rw[evalPart_some];refine ba (h aa s σ H _ I hw) fun u d ⟨x,H1,c,a,q1⟩=>?_;obtain⟨i,rfl,q⟩:=q1;obtain⟨t,rfl⟩:=a;exact⟨some i,H1,c,.int i t,q⟩
def q0(X:Cx)(r:V->Option Int->Option Int->Hp->VK->Prop):Prop:=
 ∀(aa:Ψ)(s:Shared)(σ:St)(H:Hp)(x:V)(v a c:Value)(lo hi:Option Int)(d:Addr)(Q:VK),Inv X aa σ H s->RelV x v->s.heap.IsSliceOf d a c .none->IsPart a lo->IsPart c hi->r x lo hi H Q->
  ∃T id,typeLookup (.type T) "__getitem__"=pure (some (.builtin id))/\s.TypeIs v T/\wpAny (model X.prog X.w) X.A (getItem v (.ref d)) (EP X aa σ Q) X.xe s
def ma(r:V->Option Int->Option Int->Hp->VK->Prop)(te:TE)(tl th:TO):TE:=fun σ H Q=>te σ H fun x H1=>tl σ H1 fun l H2=>th σ H2 fun u H3=>r x l u H3 Q
def iN{r:V->Option Int->Option Int->Hp->VK->Prop}(hr:q0 X r)(D:PE X e te)(E:PO X lo tl)(hu:PO X hi th):PE X (.Subscript e (.Slice lo hi none p2) pos) (ma r te tl th):=by
 intro aa s σ H Q I h;refine Subscript_ (ba (D aa s σ H _ I h) fun v f ⟨x,H1,F,g,q1⟩=>?_);refine wpAny_Slice (ba (E aa f σ H1 _ F q1) fun c i ⟨l,H2,G,j,o⟩=>ba (hu aa i σ H2 _ G o) fun d a ⟨u,H3,I3,p,y⟩=>?_);rw[evalPart_none];refine Ac ?_;have J:Inv X aa σ H3 {a with heap:=a.heap.push {cls:=.type "slice",data:=.fields #[c,d,.none]}}:=I3.kept (t':=a.toks) fun b ob q=>Ad _ q;obtain⟨T,id,hT,ht,C⟩:=hr aa {a with heap:=a.heap.push {cls:=.type "slice",data:=.fields #[c,d,.none]}} σ H3 x v c d l u a⁻¹ Q J g (Heap.IsSliceOf.new ..) j p y;show wpAny (model X.prog X.w) X.A (subscriptTail e (.Slice lo hi none p2) v (.ref a⁻¹)) (EP X aa σ Q) X.xe {a with heap:=a.heap.push {cls:=.type "slice",data:=.fields #[c,d,.none]}};exact tail_any (ops:=[.ref a⁻¹,v]) ht hT C (by with_unfolding_all rfl)
noncomputable def cF(xs:List V)(lo hi:Option Int):List V:=(xs.drop (HT.sIx xs.length 0 lo)).take (HT.sIx xs.length xs.length hi-HT.sIx xs.length 0 lo)
def Fg(xs:List V)(lo hi:Option Int):(cF xs lo hi).length<=xs.length:=by
 unfold cF;rw[AC,QE];omega
def n7(K:Ae):V->Option Int->Option Int->Hp->VK->Prop:=fun x lo hi H Q=>∃a xs,x=.ref a/\SqT K H a xs/\
 ¬(HT.sIx xs.length 0 lo=0/\HT.sIx xs.length xs.length hi=xs.length)/\∀p,H p=none->Q (.ref p) (upd H p (.tup (cF xs lo hi)))
def rf:q0 X (n7 X.K):=by
 intro aa s σ H x v i j lo hi l Q I d e f g h;obtain⟨a,xs,rfl,hx,hw,q⟩:=h;cases d;obtain⟨af,r,ht,hz⟩:=I.tuple hx;have c:af.toArray.size=xs.length:=by rw[Ao];exact r.length.symm
 refine⟨"tuple",_,PyProof.Rows.slot_tuple_getitem.lookup,ht.typeIs,?_⟩;refine HT.J_ ht e f g (by rw[c];exact hw) ?_ (by rw[c];exact hz);rw[c];refine⟨.ref s⁻¹,_,I.laid (t':=s.toks) (o:=.tup (cF xs lo hi)) (fun b ob q=>Ad _ q) (Af _) ?_,rfl,q _ (I.hok.fresh (Af _))⟩;exact⟨AA (Fg xs lo hi) hz,_,(r.drop (HT.sIx xs.length 0 lo)).take (HT.sIx xs.length xs.length hi-HT.sIx xs.length 0 lo),IsTup.new _ _⟩
def Vals.nil_iff{xs:List V}{us:List Value}(r:Vals xs us):us=[]↔xs=[]:=by
 cases r with
 |nil=>simp
 |cons _ _=>simp
end
noncomputable def iP(n:Nat)(i:Int):Option Nat:=if 0<=i then(if i<n then some i.toNat else none) else if -(n:Int)<=i then some (i+n).toNat else none
noncomputable def eE{a:Type}(xs:List a)(i:Int):Option a:=(iP xs.length i).bind fun j=>xs[j]?
def Fh{n:Nat}{i:Int}{j:Nat}(h:iP n i=some j):seqIndex? i n=some j/\j<n/\-(n:Int)<=i/\i<n:=by
 unfold iP at h
 by_cases a:0<=i
 ·rw[Th a] at h
  by_cases h1:i<n
  ·rw[Th h1] at h
   have e:i.toNat=j:=Al h;exact⟨by rw[seqIndex_of a h1,e],ω,ω,h1⟩
  ·rw[Ti h1] at h;cases h
 ·rw[Ti a] at h
  by_cases h1:-(n:Int)<=i
  ·rw[Th h1] at h
   have e:(i+n).toNat=j:=Al h;exact⟨by rw[seqIndex_neg ω h1,e],ω,h1,ω⟩
  ·rw[Ti h1] at h;cases h
def Fi{a:Type}{xs:List a}{i:Int}{v:a}(h:eE xs i=some v):∃j,seqIndex? i xs.length=some j/\xs[j]?=some v/\j<xs.length/\-(xs.length:Int)<=i/\i<xs.length:=by
 unfold eE at h;cases e:iP xs.length i with
 |none=>rw[e] at h;cases h
 |some j=>
  rw[e] at h;obtain⟨h1,h2,c,d⟩:=Fh e;exact⟨j,h1,h,h2,c,d⟩
def gw{a:Type}{xs:List a}{j:Nat}{v:a}(h:xs[j]?=some v):eE xs (j:Int)=some v:=by
 have c:j<xs.length:=(KK.mp h).1;have e:iP xs.length (j:Int)=some j:=by
  unfold iP;rw[Th ω,Th ω];simp
 unfold eE;rw[e];exact h
def Ka{a:Type}(xs:List a)(v:a):eE (xs++[v]) (-1)=some v:=by
 have c:(xs++[v]).length=xs.length+1:=by simp
 have e:iP (xs++[v]).length (-1)=some xs.length:=by
  unfold iP;rw[c,Ti ξ,Th ω]
  congr 1
  omega
 unfold eE;rw[e];show(xs++[v])[xs.length]?=some v;simp
def Kb(b:Expr):Prop:=∀o i,subscripted b false o i=operate [o,i] (getItem o i)
def BD(X:Cx)(r:R2):Prop:=
 ∀(aS slice:Expr)(aa:Ψ)(s:Shared)(σ:St)(H:Hp)(x y:V)(v u:Value)(Q:VK),Inv X aa σ H s->RelV x v->RelV y u->r x y H Q->
  subscripted slice false v u=operate [v,u] (getItem v u)->wpAny (model X.prog X.w) X.A (subscriptTail aS slice v u) (EP X aa σ Q) X.xe s
def rh(X:Cx)(id:String)(r:V->List V->Hp->VK->Prop):Prop:=
 ∀(aa:Ψ)(s:Shared)(σ:St)(H:Hp)(x:V)(xs:List V)(v:Value)(us:List Value)(Q:VK),Inv X aa σ H s->RelV x v->Vals xs us->r x xs H Q->
  wpAny (model X.prog X.w) X.A (call (.builtin id) (v::us)) (EP X aa σ Q) X.xe s
section
variable{X:Cx}{a b:Expr}{ta tb:TE}{pos:Pos}
def zA{r:R2}(hr:BD X r)(ha:PE X a ta)(hb:PE X b tb)(f:Kb b):PE X (.Subscript a b pos) (cp r ta tb):=by
 intro aa s σ H Q I h;exact Subscript_ (j_ ha hb I h fun v u c x y H2 g d e q=>hr a b aa c σ H2 x y v u Q g d e q (f _ _))
def BH(K:Ae):R2:=fun x y H Q=>∃p xs i v,x=.ref p/\y=.int i/\SqL K H p xs/\eE xs i=some v/\Q v H
def iQ(K:Ae):R2:=fun x y H Q=>∃p xs i v,x=.ref p/\y=.int i/\SqT K H p xs/\eE xs i=some v/\Q v H
def zU:BD X (BH X.K):=by
 intro aS slice aa s σ H x y v u Q I g l h d;obtain⟨p,xs,i,z,rfl,rfl,hq,o,q⟩:=h;cases g;obtain⟨t,rfl⟩:=l;obtain⟨af,r,a,hz⟩:=I.list hq;obtain⟨j,h1,h2,F,A,C⟩:=Fi o;obtain⟨w,e,D⟩:=r.get h2;have E:=r.length;have G:=dn;have fin:EP X aa σ Q w s:=⟨z,H,I,D,q⟩
 by_cases f:0<=i
 ·have c:i.toNat=j:=by
   rw[seqIndex_of f C] at h1;exact Al h1
  exact item_listR a.isList f ω (by rw[c];simpa using e) fin d
 ·have c:(i+(af.toArray.size:Int)).toNat=j:=by
   rw[seqIndex_neg ω A] at h1;rw[Ao,<-E];exact Al h1
  exact subscriptTail_builtinR (x:=w) a.isList.typeIs slot_list_getitem.lookup
   (wpAny_getItem_list_neg (Q:=fun r s'=>r=w/\EP X aa σ Q r s') a.isList ω (by rw[Ao]<;>omega) ω (by rw[c];simpa using e) ⟨rfl,fin⟩) d
def zv:BD X (iQ X.K):=by
 intro aS slice aa s σ H x y v u Q I c d h e;obtain⟨p,xs,i,z,rfl,rfl,hq,f,q⟩:=h;cases c;obtain⟨t,rfl⟩:=d;obtain⟨af,r,a,hz⟩:=I.tuple hq;obtain⟨j,h1,h2,A,C,D⟩:=Fi f;obtain⟨w,g,l⟩:=r.get h2;have o:=r.length;have E:=dn;have fin:EP X aa σ Q w s:=⟨z,H,I,l,q⟩;exact subscriptTail_builtinR (x:=w) a.typeIs slot_tuple_getitem.lookup
  (getItem_tuple (j:=j) (Q:=fun r s'=>r=w/\EP X aa σ Q r s') a ω ω (by rw[Ao,<-o];exact h1) (by simpa using g) ⟨rfl,fin⟩) e
def Kc(af:List Value)(n j:Nat)(u:Value):AS (·.setIfInBounds j u) {cls:=.type "list",data:=.seq af.toArray n}={cls:=.type "list",data:=.seq (af.set j u).toArray n}:=by
 simp[AS]
def Inv.lst{aa:Ψ}{σ:St}{H:Hp}{s:Shared}{p:Addr}{xs:List V}(I:Inv X aa σ H s)(h:H p=some (.lst xs)):∃(af:List Value)(n:Nat),Vals xs af/\s.heap.get? p=some {cls:=.type "list",data:=.seq af.toArray n}/\xs.length<=sizeLine:=by
 obtain⟨z,af,n,r,e⟩:=I.hok p _ h;exact⟨af,n,r,e,z⟩
def Inv.lstUpd{aa:Ψ}{σ:St}{H:Hp}{s:Shared}{p:Addr}{xs ys:List V}{af its':List Value}{n a:Nat}{f:Obj->Obj}(I:Inv X aa σ H s)(h:H p=some (.lst xs))(c:s.heap.get? p=some {cls:=.type "list",data:=.seq af.toArray n})(hf:f {cls:=.type "list",data:=.seq af.toArray n}={cls:=.type "list",data:=.seq its'.toArray a})(r:Vals ys its')(hz:ys.length<=sizeLine)(t:Nat):Inv X aa σ (upd H p (.lst ys)) {s with heap:=s.heap.update p f,toks:=t}:=by
 have e:(s.heap.update p f).get? p=some {cls:=.type "list",data:=.seq its'.toArray a}:=by
  rw[Heap.get?_update_self f c (by rw[hf]<;>rfl),hf]
 refine I.write (x:=p) (e:=p) (by rw[h];trivial) (.inl rfl) (fun b u hb q=>(Heap.get?_update_other _ _ (Ne.symm hb)).trans q) ⟨_,e⟩ ?_;exact⟨hz,its',a,r,e⟩
def Kd:V->V->V->Hp->(Hp->Prop)->Prop:=fun o i v H Q=>∃p xs k j,o=.ref p/\i=.int k/\H p=some (.lst xs)/\iP xs.length k=some j/\Q (upd H p (.lst (xs.set j v)))
def set_list:nE X Kd:=by
 intro aa s σ H o i v A C u Q I l w x h;obtain⟨p,xs,k,j,rfl,rfl,hp,y,q⟩:=h;cases l;obtain⟨t,rfl⟩:=w;obtain⟨af,n,r,a,hz⟩:=I.lst hp;obtain⟨h1,h2,d,e⟩:=Fh y;have c:=r.length;have D:=dn;have g:Inv X aa σ (upd H p (.lst (xs.set j v))) {s with heap:=s.heap.update p (AS (·.setIfInBounds j u))}:=
  I.lstUpd hp a (Kc af n j u) (r.set x j) (by rw[List.length_set];exact hz) s.toks
 by_cases f:0<=k
 ·have hk:k.toNat=j:=by
   rw[seqIndex_of f e] at h1;exact Al h1
  exact PySem.W.ki_setAt a f ω (by rw[Ao,<-c];exact e) (by rw[hk];exact⟨_,g,q⟩)
 ·have hk:(k+(af.toArray.size:Int)).toNat=j:=by
   rw[seqIndex_neg ω d] at h1;rw[Ao,<-c];exact Al h1
  exact PySem.W.ki_setBack a ω (by rw[Ao,<-c];exact d) ω (by rw[hk];exact⟨_,g,q⟩)
def Ke(lo hi:Option Int)(n:Nat):(sliceBounds lo hi none n).1=((HT.sIx n 0 lo:Nat):Int)/\(sliceBounds lo hi none n).2.1=((HT.sIx n n hi:Nat):Int)/\(sliceBounds lo hi none n).2.2=1:=by
 refine⟨?_,?_,rfl⟩
 ·cases lo with
  |none=>simp[sliceBounds,HT.sIx]
  |some i=>
   simp only[sliceBounds,HT.sIx,Option.getD_none,show(1:Int)>0 from ξ,if_true]
   by_cases h:i<0
   ·simp only[h,if_true]<;>omega
   ·simp only[h,if_false]<;>omega
 ·cases hi with
  |none=>simp[sliceBounds,HT.sIx]
  |some i=>
   simp only[sliceBounds,HT.sIx,Option.getD_none,show(1:Int)>0 from ξ,if_true]
   by_cases h:i<0
   ·simp only[h,if_true]<;>omega
   ·simp only[h,if_false]<;>omega
def Kf(af:List Value)(lo hi:Option Int):slicePick af.toArray lo hi none=((af.drop (HT.sIx af.length 0 lo)).take (HT.sIx af.length af.length hi-HT.sIx af.length 0 lo)).toArray:=by
 obtain⟨h1,h2,a⟩:=Ke lo hi af.toArray.size;unfold slicePick;rw[h1,h2,a];simp only[sliceRange_one,pick_run,Ao]<;>rfl
def kb(K:Ae):V->Option Int->Option Int->Hp->VK->Prop:=fun x lo hi H Q=>∃a xs,x=.ref a/\SqL K H a xs/\∀p,H p=none->Q (.ref p) (upd H p (.lst (cF xs lo hi)))
def Fj:q0 X (kb X.K):=by
 intro aa s σ H x v i j lo hi l Q I d e f g h;obtain⟨a,xs,rfl,hx,q⟩:=h;cases d;obtain⟨af,r,ht,hz⟩:=I.list hx;have c:=r.length;refine⟨"list",_,slot_list_getitem.lookup,ht.isList.typeIs,?_⟩;refine wpAny_getItem_list_slice ht.isList e f g .none (by simp) ?_ (by rw[Ao]<;>omega);rw[Kf,<-c];refine⟨.ref s⁻¹,_,I.laid (t':=s.toks) (o:=.lst (cF xs lo hi)) (fun b ob q=>Ad _ q) (Af _) ?_,rfl,q _ (I.hok.fresh (Af _))⟩;exact⟨AA (Fg xs lo hi) hz,_,0,(r.drop (HT.sIx xs.length 0 lo)).take (HT.sIx xs.length xs.length hi-HT.sIx xs.length 0 lo),Ak _ rfl⟩
noncomputable def il:V->Bool
 |.non=>true
 |.bl _=>true
 |.int _=>true
 |.str _=>true
 |_=>false
noncomputable def gU:V->V->Bool
 |.non,.non=>true
 |.bl a,.bl b=>a==b
 |.bl a,.int b=>(if a then 1 else 0)==b
 |.int a,.bl b=>a==(if b then 1 else 0)
 |.int a,.int b=>a==b
 |.str a,.str b=>a==b
 |_,_=>false
def Fl{A:Around}{s:Shared}{y x:V}{u v:Value}(d:RelV y u)(c:RelV x v)(e:il y=true)(fx:il x=true):SeqAt.EqAt A s u v (gU y x):=by
 cases y with
 |non=>
  cases d;cases x with
  |non=>cases c;exact SeqAt.EqAt.same _
  |bl b=>cases c;exact SeqAt.EqAt.none_bool b
  |int b=>obtain⟨t,rfl⟩:=c;exact SeqAt.EqAt.none_int b t
  |str b=>obtain⟨t,rfl⟩:=c;exact SeqAt.EqAt.none_str b t
  |_=>exact absurd (show false=true from fx) An
 |bl a=>
  cases d;cases x with
  |non=>cases c;exact SeqAt.EqAt.bool_none a
  |bl b=>cases c;exact SeqAt.EqAt.bool_bool a b
  |int b=>obtain⟨t,rfl⟩:=c;exact SeqAt.EqAt.bool_int a b t
  |str b=>obtain⟨t,rfl⟩:=c;exact SeqAt.EqAt.bool_str a b t
  |_=>exact absurd (show false=true from fx) An
 |int a=>
  obtain⟨t',rfl⟩:=d;cases x with
  |non=>cases c;exact SeqAt.EqAt.int_none a t'
  |bl b=>cases c;exact SeqAt.EqAt.int_bool a t' b
  |int b=>obtain⟨t,rfl⟩:=c;exact SeqAt.EqAt.int_int a t' b t
  |str b=>obtain⟨t,rfl⟩:=c;exact SeqAt.EqAt.int_str a t' b t
  |_=>exact absurd (show false=true from fx) An
 |str a=>
  obtain⟨t',rfl⟩:=d;cases x with
  |non=>cases c;exact SeqAt.EqAt.str_none a t'
  |bl b=>cases c;exact SeqAt.EqAt.str_bool a t' b
  |int b=>obtain⟨t,rfl⟩:=c;exact SeqAt.EqAt.str_int a t' b t
  |str b=>obtain⟨t,rfl⟩:=c;exact SeqAt.EqAt.str_str a t' b t
  |_=>exact absurd (show false=true from fx) An
 |_=>exact absurd (show false=true from e) An
noncomputable def iR(x:V)(u:Value):Bool:=match u with
 |.none=>gU .non x
 |.bool b=>gU (.bl b) x
 |.int i _=>gU (.int i) x
 |.str z _=>gU (.str z) x
 |_=>false
def Fm{x y:V}{u:Value}(r:RelV y u)(f:il y=true):iR x u=gU y x:=by
 cases y with
 |non=>cases r;rfl
 |bl b=>cases r;rfl
 |int i=>obtain⟨t,rfl⟩:=r;rfl
 |str z=>obtain⟨t,rfl⟩:=r;rfl
 |_=>exact absurd (show false=true from f) An
def BO{x:V}:∀{xs:List V}{us:List Value},Vals xs us->xs.all il=true->us.any (iR x)=xs.any fun y=>gU y x
 |_,_,.nil,_=>rfl
 |y::xs,u::us,.cons r t,f=>by
  rw[List.all_cons,AM] at f;rw[Sb,Sb,Fm r f.1,BO t f.2]
def BR{A:Around}{s:Shared}{x:V}{v:Value}(a:RelV x v)(fx:il x=true):∀{xs:List V}{us:List Value},Vals xs us->xs.all il=true->∀u∈us,SeqAt.EqAt A s u v (iR x u)
 |_,_,.nil,_=>fun u hu=>by cases hu
 |y::xs,u::us,.cons r t,f=>fun c hu=>by
  rw[List.all_cons,AM] at f;rcases Qk.mp hu with rfl|hu
  ·rw[Fm r f.1];exact Fl r a f.1 fx
  ·exact BR a fx t f.2 c hu
noncomputable def Fo(x:V)(xs:List V):Bool:=xs.any fun y=>gU y x
def Kg(K:Ae)(neg:Bool):R2:=fun x y H Q=>∃p xs,y=.ref p/\(SqL K H p xs\/SqT K H p xs)/\il x=true/\xs.all il=true/\Q (.bl (if neg then !Fo x xs else Fo x xs)) H
def Kh:cD X (A2 .NotIn) (Kg X.K true):=by
 intro aa s σ H x y v u Q I c d h;obtain⟨p,xs,rfl,hq,fx,fs,q⟩:=h;cases d;rcases hq with hq|hq
 ·obtain⟨af,r,a,hz⟩:=I.list hq
  refine SeqAt.notIn_listAt (iR x) a.isList (fun w hw=>BR c fx r fs w (by simpa using hw)) ⟨.bl _,H,I,rfl,?_⟩;rw[show af.toArray.any (iR x)=af.any (iR x) by simp,BO r fs];exact q
 ·obtain⟨af,r,a,hz⟩:=I.tuple hq
  refine SeqAt.notIn_tupleAt (iR x) a (fun w hw=>BR c fx r fs w (by simpa using hw)) ⟨.bl _,H,I,rfl,?_⟩;rw[show af.toArray.any (iR x)=af.any (iR x) by simp,BO r fs];exact q
def zo:da X (.builtin "len") (fun xs H Q=>∃p ys,xs=[.ref p]/\(SqL X.K H p ys\/SqT X.K H p ys)/\Q (.int ys.length) H):=by
 intro aa s σ H xs us Q I r h;obtain⟨p,ys,rfl,hq,q⟩:=h;obtain⟨u,rfl,e⟩:=vals1 r;cases e;have f:=dn;rcases hq with hq|hq
 ·obtain⟨af,c,d,hz⟩:=I.list hq
  have a:=c.length;exact Calls.call_len_list d.isList (by simp only[Ao]<;>omega) ⟨.int ys.length,H,I.tok _,⟨s.toks+1,by rw[Ao,a]⟩,q⟩
 ·obtain⟨af,c,d,hz⟩:=I.tuple hq
  have a:=c.length;exact len_tuple d (by simp only[Ao]<;>omega) ⟨.int ys.length,H,I.tok _,⟨s.toks+1,by rw[Ao,a]⟩,q⟩
def BV:da X (.type "list") (fun xs H Q=>∃p ys,xs=[.ref p]/\(SqL X.K H p ys\/SqT X.K H p ys)/\∀l,H l=none->Q (.ref l) (upd H l (.lst ys))):=by
 intro aa s σ H xs us Q I r h;obtain⟨p,ys,rfl,hq,q⟩:=h;obtain⟨u,rfl,i⟩:=vals1 r;cases i;have fin:∀(af:List Value),Vals ys af->ys.length<=sizeLine->∀(h':Heap)(c':Nat),(∀b o',s.heap.get? b=some o'->h'.get? b=some o')->
   h'.get? s⁻¹=some {cls:=.type "list",dict:=none,data:=.seq af.toArray c',slots:=#[]}->EP X aa σ Q (.ref s⁻¹) {s with heap:=h'}:=fun af a hz h' c' c e=>
  ⟨.ref s⁻¹,_,I.laid (t':=s.toks) c (Af _) (show zC X.prog X.w _ h' _ (.lst ys) from⟨hz,af,c',a,e⟩),rfl,q _ (I.hok.fresh (Af _))⟩
 rcases hq with hq|hq
 ·obtain⟨af,a,f,hz⟩:=I.list hq
  have d:=a.length;obtain⟨o,g,hc,n,hd⟩:=f.isList;exact call_list_seq p (.inl rfl) g hc hd (fun h' c' c e=>fin af a hz h' c' c e) (by simp only[Ao]<;>omega)
 ·obtain⟨af,a,f,hz⟩:=I.tuple hq
  have d:=a.length;obtain⟨o,g,hc,n,hd⟩:=f;exact call_list_seq p (.inr rfl) g hc hd (fun h' c' c e=>fin af a hz h' c' c e) (by simp only[Ao]<;>omega)
def ri:da X (.type "tuple") (fun xs H Q=>∃p ys,xs=[.ref p]/\((SqL X.K H p ys/\∀l,H l=none->Q (.ref l) (upd H l (.tup ys)))\/(SqT X.K H p ys/\Q (.ref p) H))):=by
 intro aa s σ H xs us Q I r h;obtain⟨p,ys,rfl,h⟩:=h;obtain⟨u,rfl,g⟩:=vals1 r;cases g;rcases h with ⟨hq,q⟩|⟨hq,q⟩
 ·obtain⟨af,a,c,hz⟩:=I.list hq
  have d:=a.length;refine call_tuple_list c.isList (fun h' f=>?_) (by simp only[Ao]<;>omega);have I1:Inv X aa σ H {s with heap:=h'}:=I.kept (t':=s.toks) f;have i:Inv X aa σ (upd H h'.objs.size (.tup ys)) {s with heap:=h'.push {cls:=.type "tuple",data:=.seq af.toArray}}:=
   I1.laid (t':=s.toks) (fun b o e=>Ad _ e) (Af _) (show zC X.prog X.w _ _ _ (.tup ys) from⟨hz,af,a,IsTup.new _ _⟩)
  exact⟨.ref h'.objs.size,_,i,rfl,q _ (I1.hok.fresh (Af _))⟩
 ·obtain⟨af,a,c,hz⟩:=I.tuple hq
  exact call_tuple_same c ⟨.ref p,H,I,rfl,q⟩
def Fq(K:Ae)(T:String)(x:V)(H:Hp):Prop:=match x with
 |.str _=>T="str"
 |.int _=>T="int"
 |.ref p=>(T="list"/\∃xs,SqL K H p xs)\/(T="tuple"/\∃o,K.lookup p=some o/\o.cls=.type "tuple"/\o.dict=none) \/
   (T="dict"/\((∃kvs,H p=some (.dK kvs))\/∃kvs,H p=some (.dT kvs)))\/(T="set"/\∃S n,H p=some (.set S n))
 |_=>False
def Ki{aa:Ψ}{σ:St}{H:Hp}{s:Shared}{T:String}{x:V}{v:Value}(I:Inv X aa σ H s)(r:RelV x v)(ty:Fq X.K T x H):s.TypeIs v T/\∀a,v=.ref a->∃ob,s.heap.get? a=some ob/\ob.dict=none:=by
 cases x with
 |str z=>
  obtain⟨t,rfl⟩:=r;cases(show T="str" from ty);exact⟨typeIs_str s z t,fun _ e=>nomatch e⟩
 |int i=>
  obtain⟨t,rfl⟩:=r;cases(show T="int" from ty);exact⟨typeIs_int s i t,fun _ e=>nomatch e⟩
 |ref p=>
  cases r;rcases ty with ⟨rfl,xs,hq⟩|⟨rfl,o,hk,hc,hd⟩|⟨rfl,hk⟩|⟨rfl,S,n,hk⟩
  ·obtain⟨af,_,d,_⟩:=I.list hq
   refine⟨d.isList.typeIs,fun a e=>?_⟩;cases e;obtain⟨o,n,e,c,hd,_⟩:=d;exact⟨o,e,hd⟩
  ·refine⟨⟨o,I.kIn p o hk,hc⟩,fun a e=>?_⟩
   cases e;exact⟨o,I.kIn _ o hk,hd⟩
  ·have z:∃o,s.heap.get? p=some o/\o.ExactDict:=by
    rcases hk with ⟨kvs,hk⟩|⟨kvs,hk⟩
    ·obtain⟨_,_,_,_,o,_,_,e,ex,_⟩:=I.hok p _ hk
     exact⟨o,e,ex⟩
    ·obtain⟨_,_,_,_,o,_,_,e,ex,_⟩:=I.hok p _ hk
     exact⟨o,e,ex⟩
   obtain⟨o,e,ex⟩:=z;refine⟨⟨o,e,ex.1⟩,fun a e2=>?_⟩;cases e2;exact⟨o,e,ex.2.1⟩
  ·obtain⟨o,_,_,_,e,ex,_⟩:=I.hok p _ hk
   refine⟨⟨o,e,ex.1⟩,fun a e2=>?_⟩;cases e2;exact⟨o,e,ex.2.1⟩
 |_=>exact False.elim ty
def Kj(K:Ae)(T:String)(r:V->List V->Hp->VK->Prop)(to:TE)(t:TA):TE:=fun σ H Q=>to σ H fun x H1=>Fq K T x H1/\t σ H1 fun xs H2=>r x xs H2 Q
variable{o e:Expr}{es:List Expr}{to:TE}{t:TA}{name:Str}{aW aG:Pos}{T id:String}{r:V->List V->Hp->VK->Prop}
def g0(p:PlainAttrs T)(slot:Slot T name id)(q:typeOf (.builtin id)=pure (.type "method_descriptor"))(hm:rh X id r)(u:PE X o to)(ha:PA X (e::es) t)(w:attributeBase o name X.env (eval o X.env)=eval o X.env:=by rfl)
  (y:((backTo aG (starEach (e::es) X.env)).all (fun x=>!x.1)&&(backToKw aG (keywordEach [] X.env)).all (fun x=>x.1.isSome)
   && decide ((e::es).length+([]:List Keyword).length+(if([]:List Keyword).isEmpty then 0 else 1)<30))=true:=by rfl)
  (A:(aW.endLine==aG.line)=true:=by rfl) (C:starEach (e::es) X.env=(false,eval e X.env)::starEach es X.env:=by rfl) (D:(backTo aG (starEach es X.env)).any (·.1)=false:=by rfl) :
  PE X (.Call (.Attribute o name aW) (e::es) [] aG) (Kj X.K T r to t):=by
 intro aa s σ H Q I h;refine wpAny_Call_method_late w y A rfl (ba (u aa s σ H _ I h) fun v g ⟨x,H1,f,c,ty,q1⟩=>?_);obtain⟨h1,h2⟩:=Ki f c ty;refine⟨T,id,p,slot,q,h1,h2,?_⟩;have d:=ha aG aa g σ H1 _ f q1;rw[C] at d ⊢;refine Calls.callWith_builtin (by show(false|| (backTo aG (starEach es X.env)).any (·.1))=false;rw[D]<;>rfl) (Calls.evalArgs_plain ?_);exact ba d fun us i ⟨vs,H2,E,j,l⟩=>hm aa i σ H2 x vs v us Q E c j l
end
def oe(X:Cx)(id:String)(r:V->List V->Hp->VK->Prop):Prop:=
 ∀(aa:Ψ)(s:Shared)(σ:St)(H:Hp)(x:V)(xs:List V)(v:Value)(us:List Value)(Q:VK),Inv X aa σ H s->RelV x v->Vals xs us->r x xs H Q->
  wpAny (model X.prog X.w) X.A (call (.builtin id) (v::us)) (EP X aa σ Q) X.xe s
def Vals.one{x:V}{us:List Value}(h:Vals [x] us):∃u,us=[u]/\RelV x u:=by
 cases h with|cons r t=>cases t;exact⟨_,rfl,r⟩
def Vals.two{x y:V}{us:List Value}(h:Vals [x,y] us):∃u v,us=[u,v]/\RelV x u/\RelV y v:=by
 cases h with|cons r t=>obtain⟨v,rfl,q⟩:=Vals.one t;exact⟨_,_,rfl,r,q⟩
def Vals.zero:∀{us:List Value},Vals [] us->us=[]
 |_,.nil=>rfl
def Vals.eraseIdx:∀{xs:List V}{us:List Value}(i:Nat),Vals xs us->Vals (xs.eraseIdx i) (us.eraseIdx i)
 |_,_,_,.nil=>.nil
 |_,_,0,.cons _ t=>t
 |_,_,i+1,.cons r t=>.cons r (Vals.eraseIdx i t)
def Vals.reverse{xs:List V}{us:List Value}(h:Vals xs us):Vals xs.reverse us.reverse:=by
 induction h with
 |nil=>exact .nil
 |cons r t ih=>rw[List.reverse_cons,List.reverse_cons];exact Vals.append ih (.cons r .nil)
def Fu{a:Type}:∀(l:List a)(i:Nat),(l.eraseIdx i).length<=l.length
 |[],_=>Af _
 |_::_,0=>RM _
 |_::r,i+1=>Nat.succ_le_succ (Fu r i)
section
variable{X:Cx}{aa:Ψ}{σ:St}{H:Hp}{s:Shared}{l b:Addr}{xs ys zs:List V}
def Inv.lset{af its':List Value}{n:Nat}{f:Array Value->Array Value}{t':Nat}(I:Inv X aa σ H s)(a:H l=some (.lst xs))(e:s.heap.get? l=some {cls:=.type "list",data:=.seq af.toArray n})(hf:f af.toArray=its'.toArray)(c:Vals ys its')(hz:ys.length<=sizeLine):Inv X aa σ (upd H l (.lst ys)) {s with heap:=s.heap.update l (AS f),toks:=t'}:=by
 have q:=PySem.IsL.update e f;rw[hf] at q;refine I.write (x:=l) (e:=l) (by rw[a];exact trivial) (.inl rfl) (fun d u hb hu=>(Heap.get?_update_other s.heap (AS f) (Ne.symm hb)).trans hu) ⟨_,q⟩ ?_;exact⟨hz,its',_,c,q⟩
def Inv.lnew{af:List Value}{t':Nat}(I:Inv X aa σ H s)(a:Vals ys af)(hz:ys.length<=sizeLine):Inv X aa σ (upd H s⁻¹ (.lst ys)) {s with heap:=s.heap.push {cls:=.type "list",data:=.seq af.toArray},toks:=t'}:=
 I.laid (fun _ _ q=>Ad _ q) (Af _) ⟨hz,af,0,a,Ak _ rfl⟩
def Inv.fresh(I:Inv X aa σ H s):H s⁻¹=none:=I.hok.fresh (Af _)
def Inv.lstM(I:Inv X aa σ H s)(a:H l=some (.lst xs)):xs.length<=sizeLine/\∃(af:List Value)(n:Nat),Vals xs af/\xs.length=af.length/\s.heap.get? l=some {cls:=.type "list",data:=.seq af.toArray n}:=by
 obtain⟨z,af,n,r,e⟩:=I.hok l _ a;exact⟨z,af,n,r,r.length,e⟩
def Kk{n:Nat}(h:n<=sizeLine):Builtin.List.listTooLong n=false:=by
 unfold Builtin.List.listTooLong;exact Tk ω
end
section
variable{X:Cx}
def zmG:V->List V->Hp->VK->Prop:=fun x vs H Q=>∃l xs y,x=.ref l/\vs=[y]/\H l=some (.lst xs)/\xs.length<sizeLine/\Q .non (upd H l (.lst (xs++[y])))
def js:oe X "list.append" zmG:=by
 intro aa s σ H x vs v us Q I c d h;obtain⟨l,xs,y,rfl,rfl,a,hz,q⟩:=h;cases c;obtain⟨u,rfl,f⟩:=d.one;obtain⟨z,af,n,r,g,e⟩:=I.lstM a;refine call_meets F.slot_list_append ⟨_,e,rfl⟩ F.entry_list_append (F.args_list_append_2 _ _) (PySem.list_append l af.toArray n u (by rw[Ao];omega)) ⟨e,?_⟩;refine⟨.non,_,I.lset (its':=af++[u]) a e (by simp) (r.append (.cons f .nil)) ?_,rfl,q⟩;rw[Ar,List.length_singleton];omega
def znV:V->List V->Hp->VK->Prop:=fun x vs H Q=>∃l b xs zs,x=.ref l/\vs=[.ref b]/\H l=some (.lst xs)/\H b=some (.lst zs)/\xs.length+zs.length<=sizeLine/\Q .non (upd H l (.lst (xs++zs)))
def Kl:oe X "list.extend" znV:=by
 intro aa s σ H x vs v us Q I f g h;obtain⟨l,b,xs,zs,rfl,rfl,d,i,hz,q⟩:=h;cases f;obtain⟨u,rfl,j⟩:=g.one;cases j;obtain⟨z,af,n,r,w,e⟩:=I.lstM d;obtain⟨y,c,n2,o,p,e2⟩:=I.lstM i;have hsz:af.toArray.size+c.toArray.size<=sizeLine:=by rw[Ao,Ao];omega
 have a:¬(!af.toArray.isEmpty&&Builtin.List.listTooLong (af.toArray.size+c.toArray.size))=true:=by
  rw[Kk hsz,Sn];exact An
 refine call_meets F.slot_list_extend ⟨_,e,rfl⟩ F.entry_list_extend (F.args_list_extend_2 _ _)
  (AutoSeq1.list_extend_list_list_0 l af.toArray n b c.toArray n2 a (by rw[Ao];omega) ω) ⟨e,e2,?_⟩
 refine⟨.non,_,I.lset (its':=af++c) d e (by simp) (r.append o) ?_,rfl,q⟩;rw[Ar];omega
def BW:R2:=fun x y H Q=>∃l b xs zs,x=.ref l/\y=.ref b/\H l=some (.lst xs)/\H b=some (.lst zs)/\xs.length+zs.length<=sizeLine/\∀p,H p=none->Q (.ref p) (upd H p (.lst (xs++zs)))
def kc:cD X (binaryOp .Add) BW:=by
 intro aa s σ H x y v u Q I c d h;obtain⟨l,b,xs,zs,rfl,rfl,f,g,hz,q⟩:=h;cases c;cases d;obtain⟨z,af,n,r,p,e⟩:=I.lstM f;obtain⟨w,a,n2,i,j,e2⟩:=I.lstM g;refine PySem.P.add_list e e2 ?_ (by rw[Ao,Ao];omega);have o:af.toArray++a.toArray=(af++a).toArray:=by simp
 rw[o];exact⟨.ref _,_,I.lnew (t':=s.toks) (r.append i) (by rw[Ar];omega),rfl,q _ I.fresh⟩
end
section
variable{prog:Program}{w:World}{A:Around}{E:Ω}{s:Shared}
set_option maxRecDepth 100000 in
end
section
variable{κ:Type}[DecidableEq κ]
noncomputable def b'(kvs:List (κ×V))(k:κ):Option V:=(kvs.find? fun kv=>decide (kv.1=k)).map (·.2)
noncomputable def putK(kvs:List (κ×V))(k:κ)(v:V):List (κ×V):=
 if(kvs.any fun kv=>decide (kv.1=k))=true then kvs.map (fun kv=>if kv.1=k then(kv.1,v) else kv) else kvs++[(k,v)]
noncomputable def Qi(kvs:List (κ×V))(k:κ):List (κ×V):=kvs.filter fun kv=>decide (kv.1≠k)
def rj{p:κ×V}{r:List (κ×V)}{k:κ}(e:p.1=k):b' (p::r) k=some p.2:=by simp[b',QK,e]
def ro{p:κ×V}{r:List (κ×V)}{k:κ}(e:¬p.1=k):b' (p::r) k=b' r k:=by simp[b',QK,e]
def BY(k:κ):∀kvs:List (κ×V),(kvs.any fun kv=>decide (kv.1=k))=(b' kvs k).isSome
 |[]=>rfl
 |p::r=>by
  rw[Sb]
  by_cases e:p.1=k
  ·simp only[rj e,Tj e,Bool.true_or,Option.isSome_some]
  ·rw[ro e,Tk e,Bool.false_or];exact BY k r
def Ce(kvs:List (κ×V))(k:κ)(v:V):(putK kvs k v).length<=kvs.length+1:=by
 unfold putK;split
 ·rw[Ab];omega
 ·rw[Ar,AB,QY];omega
def RelO.isSome_eq{o:Option V}{u:Option Value}(r:RelO o u):o.isSome=u.isSome:=by
 cases o with
 |none=>cases u with
  |none=>rfl
  |some _=>exact(show False from r).elim
 |some _=>cases u with
  |none=>exact(show False from r).elim
  |some _=>rfl
def RelO.getD{o:Option V}{u:Option Value}{d:V}{d':Value}(r:RelO o u)(a:RelV d d'):RelV (o.getD d) (u.getD d'):=by
 cases o with
 |none=>cases u with
  |none=>exact a
  |some _=>exact(show False from r).elim
 |some _=>cases u with
  |none=>exact(show False from r).elim
  |some _=>exact r
def KV.val{kvs:List (κ×V)}{vs:List (κ×Value)}(r:KV kvs vs)(k:κ):RelO (b' kvs k) (valueAt vs k):=by
 unfold KV at r
 induction r with
 |nil=>exact True.intro
 |@cons p q ps a h t c=>
  obtain⟨h1,h2⟩:=h
  by_cases e:p.1=k
  ·have e':q.1=k:=h1.symm.trans e
   have b:valueAt (q::a) k=some q.2:=by simp[valueAt,QK,e']
   rw[rj e,b];exact h2
  ·have e':¬q.1=k:=fun z=>e (h1.trans z)
   have b:valueAt (q::a) k=valueAt a k:=by simp[valueAt,QK,e']
   rw[ro e,b];exact c
def KV.any{kvs:List (κ×V)}{vs:List (κ×Value)}(r:KV kvs vs)(k:κ):(kvs.any fun kv=>decide (kv.1=k))=vs.any fun kv=>decide (kv.1=k):=by
 unfold KV at r
 induction r with
 |nil=>rfl
 |cons h t ih=>rw[Sb,Sb,ih,h.1]
def KV.repl{kvs:List (κ×V)}{vs:List (κ×Value)}(r:KV kvs vs)(k:κ){y:V}{u:Value}(a:RelV y u):KV (kvs.map fun kv=>if kv.1=k then(kv.1,y) else kv) (vs.map fun kv=>if kv.1=k then(kv.1,u) else kv):=by
 unfold KV at r ⊢
 induction r with
 |nil=>exact .nil
 |@cons p q ps qs h t ih=>
  rw[At,At];refine .cons ?_ ih;obtain⟨h1,h2⟩:=h
  by_cases e:p.1=k
  ·rw[Th e,Th (h1.symm.trans e)];exact⟨h1,a⟩
  ·rw[Ti e,Ti (fun z=>e (h1.trans z))];exact⟨h1,h2⟩
def KV.put{kvs:List (κ×V)}{vs:List (κ×Value)}(r:KV kvs vs)(k:κ){y:V}{u:Value}(a:RelV y u):KV (putK kvs k y) (stored vs k u):=by
 unfold putK stored;rw[r.any k]
 by_cases e:(vs.any fun kv=>decide (kv.1=k))=true
 ·rw[Th e,Th e];exact r.repl k a
 ·rw[Ti e,Ti e];exact Paired.snoc r ⟨rfl,a⟩
def KV.length{kvs:List (κ×V)}{vs:List (κ×Value)}(r:KV kvs vs):kvs.length=vs.length:=A0 r
end
def me{P:Program}{w:World}{k:Key}{u:Value}(r:RelV (kV k) u):(zB P w).is k u=true:=by
 cases k with
 |inl i=>obtain⟨t,e⟩:=(show ∃t,u=Value.int i t from r);subst e;exact x3 P w i t
 |inr x=>obtain⟨t,e⟩:=(show ∃t,u=Value.str x t from r);subst e;exact JB P w x t
def Fv{P:Program}{w:World}:∀{ks:List Key}{us:List Value},Vals (ks.map kV) us->ItemsAre (zB P w) ks us
 |[],_,r=>by rw[Sl] at r;cases r;exact .nil
 |k::ks,_,r=>by
  rw[At] at r;cases r with
  |cons h t=>exact .cons (me h) (Fv t)
abbrev KT(H:Hp):List (List Key×V)->List (List Key×Addr×Value)->Prop:=Paired fun p q=>p.1=q.1/\H q.2.1=some (.tup (p.1.map kV))/\RelV p.2 q.2.2
def KT.val{H:Hp}{kvs:List (List Key×V)}{xs:List (List Key×Addr×Value)}(r:KT H kvs xs)(k:List Key):RelO (b' kvs k) ((atKey xs k).map (·.2)):=by
 induction r with
 |nil=>exact True.intro
 |@cons p q ps a h t c=>
  obtain⟨h1,_,h2⟩:=h
  by_cases e:p.1=k
  ·have e':q.1=k:=h1.symm.trans e
   have b:atKey (q::a) k=some q.2:=by simp[atKey,QK,e']
   rw[rj e,b];exact h2
  ·have e':¬q.1=k:=fun z=>e (h1.trans z)
   have b:atKey (q::a) k=atKey a k:=by simp[atKey,QK,e']
   rw[ro e,b];exact c
def KT.repl{H:Hp}{kvs:List (List Key×V)}{xs:List (List Key×Addr×Value)}(r:KT H kvs xs)(k:List Key){y:V}{u:Value}(c:RelV y u):KT H (kvs.map fun kv=>if kv.1=k then(kv.1,y) else kv) (xs.map (putAt k u)):=by
 induction r with
 |nil=>exact .nil
 |@cons p q ps qs h t ih=>
  rw[At,At];refine .cons ?_ ih;obtain⟨h1,h2,a⟩:=h;unfold putAt
  by_cases e:p.1=k
  ·rw[Th e,Th (h1.symm.trans e)];exact⟨h1,h2,c⟩
  ·rw[Ti e,Ti (fun z=>e (h1.trans z))];exact⟨h1,h2,a⟩
def KT.put{H:Hp}{kvs:List (List Key×V)}{xs:List (List Key×Addr×Value)}(r:KT H kvs xs)(k:List Key){b:Addr}{y:V}{u:Value}(hb:H b=some (.tup (k.map kV)))(a:RelV y u):KT H (putK kvs k y) (storedH xs k b u):=by
 have e:(kvs.any fun kv=>decide (kv.1=k))=(atKey xs k).isSome:=by
  rw[BY,(r.val k).isSome_eq,SZ]
 unfold putK storedH;rw[e]
 by_cases q:(atKey xs k).isSome=true
 ·rw[Th q,Th q];exact r.repl k a
 ·rw[Ti q,Ti q];exact Paired.snoc r ⟨rfl,hb,a⟩
def KT.keeps{H H':Hp}{kvs:List (List Key×V)}{xs:List (List Key×Addr×Value)}(r:KT H kvs xs)(ht:∀b ys,H b=some (.tup ys)->H' b=some (.tup ys)):KT H' kvs xs:=
 Paired.mapP r fun _ _ z=>⟨z.1,ht _ _ z.2.1,z.2.2⟩
section
variable{P:Program}{w:World}{H:Hp}{h:Heap}{a:Addr}
def Fw{u:HO}(ok:HOk P w H h)(e:Rd H a u):zC P w H h a u:=e.ok ok
def ke{kvs:List (Key×V)}(ok:HOk P w H h)(e:Rd H a (.dK kvs)):kvs.length<=sizeLine/\(a==Bc)=false/\∃vs,KV kvs vs/\h.DictOf (zB P w) a vs:=
 show zC P w H h a (.dK kvs) from Fw ok e
def Cf{kvs:List (Key×V)}(ok:HOk P w H h)(e:H a=some (.dK kvs)):kvs.length<=sizeLine/\(a==Bc)=false/\∃vs,KV kvs vs/\h.DictOf (zB P w) a vs:=ke ok (.inl e)
def iS{ks:List Key}(ok:HOk P w H h)(e:H a=some (.tup (ks.map kV))):(tupleKind (zB P w)).is h ks a:=by
 obtain⟨_,af,r,o,h1,h2,n,c⟩:=(show zC P w H h a (.tup (ks.map kV)) from ok a _ e);exact⟨o,af.toArray,n,h1,h2,c,by simpa using Fv r⟩
def kh{kvs:List (List Key×V)}(ok:HOk P w H h)(e:Rd H a (.dT kvs)):kvs.length<=sizeLine/\(a==Bc)=false/\
  ∃xs,KT H kvs xs/\h.DictOfH (tupleKind (zB P w)) a xs:=by
 obtain⟨z,y,xs,r,o,es,ep,h1,h2,c,d,f⟩:=(show zC P w H h a (.dT kvs) from Fw ok e);refine⟨z,y,xs,r,o,es,ep,h1,h2,c,d,fun x hx=>?_,f⟩;have all:∀{l:List (List Key×V)}{m:List (List Key×Addr×Value)},KT H l m->∀x∈m,(tupleKind (zB P w)).is h x.1 x.2.1:=by
  intro l m q
  induction q with
  |nil=>intro x hx;exact nomatch hx
  |@cons p q ps qs hq t ih=>
   intro x hx;rcases Qk.mp hx with e|hx
   ·subst e
    exact iS ok (by rw[<-hq.1];exact hq.2.1)
   ·exact ih x hx
 exact all r x hx
def ki{kvs:List (List Key×V)}(ok:HOk P w H h)(e:H a=some (.dT kvs)):kvs.length<=sizeLine/\(a==Bc)=false/\
  ∃xs,KT H kvs xs/\h.DictOfH (tupleKind (zB P w)) a xs:=kh ok (.inl e)
end
def DGet(H:Hp)(a:Addr)(y:V)(r:Option V):Prop:=
 (∃kvs k,Rd H a (.dK kvs)/\y=kV k/\r=b' kvs k)\/∃kvs k b,Rd H a (.dT kvs)/\y=.ref b/\H b=some (.tup (k.map kV))/\r=b' kvs k
def DPut(H:Hp)(a:Addr)(y v:V)(H':Hp):Prop:=
 (∃kvs k,H a=some (.dK kvs)/\y=kV k/\kvs.length<sizeLine/\H'=upd H a (.dK (putK kvs k v))) \/
 ∃kvs k b,H a=some (.dT kvs)/\y=.ref b/\H b=some (.tup (k.map kV))/\kvs.length<sizeLine/\H'=upd H a (.dT (putK kvs k v))
def DGet.k{H:Hp}{a:Addr}{kvs:List (Key×V)}{k:Key}(e:H a=some (.dK kvs)):DGet H a (kV k) (b' kvs k):=.inl ⟨kvs,k,.inl e,rfl,rfl⟩
def DGet.t{H:Hp}{a b:Addr}{kvs:List (List Key×V)}{k:List Key}(e:H a=some (.dT kvs))(c:H b=some (.tup (k.map kV))):DGet H a (.ref b) (b' kvs k):=.inr ⟨kvs,k,b,.inl e,rfl,c,rfl⟩
def DPut.k{H:Hp}{a:Addr}{kvs:List (Key×V)}{k:Key}{v:V}(e:H a=some (.dK kvs))(c:kvs.length<sizeLine):DPut H a (kV k) v (upd H a (.dK (putK kvs k v))):=.inl ⟨kvs,k,e,rfl,c,rfl⟩
def DPut.t{H:Hp}{a b:Addr}{kvs:List (List Key×V)}{k:List Key}{v:V}(e:H a=some (.dT kvs))(c:H b=some (.tup (k.map kV)))(d:kvs.length<sizeLine):DPut H a (.ref b) v (upd H a (.dT (putK kvs k v))):=.inr ⟨kvs,k,b,e,rfl,c,d,rfl⟩
section
variable{X:Cx}{aa:Ψ}{σ:St}{H:Hp}{s:Shared}{a:Addr}{y v:V}{u r:Value}{o:Option V}{A:Around}{E:Ω}
def Inv.big(I:Inv X aa σ H s):Bc<s⁻¹:=by
 have h:mainGlobals<s⁻¹:=(I.mod.glob.keeps I.bk).lt;exact RT ξ h
def Km{Q:Ω}(hu:A.units+1<cLine)(I:Inv X aa σ H s)(g:DGet H a y (some v))(j:RelV y u)(h:∀d s',Inv X aa σ H s'->RelV v d->Q d s'):wpAny (model X.prog X.w) A (getItem (.ref a) u) Q E s:=by
 rcases g with ⟨kvs,k,e,f,l⟩|⟨kvs,k,b,e,f,q,l⟩
 ·subst f
  obtain⟨z,hd,vs,c,dd⟩:=ke I.hok e;obtain⟨d,hw,i⟩:=RelO.some_of (v:=v) (o:=valueAt vs k) (by rw[l];exact c.val k);exact wpAny_getItem_of (me j) dd.mapOf hw (h d _ (I.tok _) i)
 ·subst f
  cases(show u=Value.ref b from j);obtain⟨z,hd,xs,c,dd⟩:=kh I.hok e;obtain⟨d,hw,i⟩:=RelO.some_of (v:=v) (o:=(atKey xs k).map (·.2)) (by rw[l];exact c.val k);obtain⟨p,hp,r⟩:=Qr.mp hw;refine wpAny_getItem_heap (tupleKind_room_in1 hu) (iS I.hok q) dd hp ?_;rw[r];exact h d _ (I.tok _) i
def Cj{Q:Ω}(hu:A.units+1<cLine)(I:Inv X aa σ H s)(g:DGet H a y o)(f:RelV y u)(h:∀s',Inv X aa σ H s'->Q (.bool o.isSome) s'):wpAny (model X.prog X.w) A (A2 .In u (.ref a)) Q E s:=by
 rcases g with ⟨kvs,k,e,d,l⟩|⟨kvs,k,b,e,d,i,l⟩
 ·subst d
  obtain⟨z,hd,vs,c,dd⟩:=ke I.hok e;refine wpAny_in_of (me f) hd dd.mapOf ?_;rw[<-(c.val k).isSome_eq,<-l];exact h _ (I.tok _)
 ·subst d
  cases(show u=Value.ref b from f);obtain⟨z,hd,xs,c,dd⟩:=kh I.hok e;refine wpAny_in_heap (tupleKind_room_in1 hu) (iS I.hok i) hd dd ?_;have q:=(c.val k).isSome_eq;rw[SZ] at q;rw[<-q,<-l];exact h _ (I.tok _)
def Kn{Q:Ω}(hu:A.units+1<cLine)(I:Inv X aa σ H s)(g:DGet H a y o)(f:RelV y u)(h:∀s',Inv X aa σ H s'->Q (.bool (!o.isSome)) s'):wpAny (model X.prog X.w) A (A2 .NotIn u (.ref a)) Q E s:=by
 rcases g with ⟨kvs,k,e,d,l⟩|⟨kvs,k,b,e,d,i,l⟩
 ·subst d
  obtain⟨z,hd,vs,c,dd⟩:=ke I.hok e;refine wpAny_notIn_of (me f) hd dd.mapOf ?_;rw[<-(c.val k).isSome_eq,<-l];exact h _ (I.tok _)
 ·subst d
  cases(show u=Value.ref b from f);obtain⟨z,hd,xs,c,dd⟩:=kh I.hok e;refine wpAny_notIn_heap (tupleKind_room_in1 hu) (iS I.hok i) hd dd ?_;have q:=(c.val k).isSome_eq;rw[SZ] at q;rw[<-q,<-l];exact h _ (I.tok _)
def om{h':Heap}{t':Nat}{ob:HO}(I:Inv X aa σ H s)(c:nu (H a))(d:Heap.SameBut a s.heap h')(f:∃q,h'.get? a=some q)(new:zC X.prog X.w (upd H a ob) h' a ob):Inv X aa σ (upd H a ob) {s with heap:=h',toks:=t'}:=
 I.write (x:=a) (e:=a) c (.inl rfl) (fun b q hb z=>(d.2 b hb).trans z) f new
def dk_new{P:Program}{w:World}{H':Hp}{h':Heap}{kvs:List (Key×V)}{vs:List (Key×Value)}(z:kvs.length<=sizeLine)(hd:(a==Bc)=false)(c:KV kvs vs)(dd:h'.DictOf (zB P w) a vs):zC P w H' h' a (.dK kvs):=⟨z,hd,vs,c,dd⟩
def Ko{H':Hp}{Q:Unit->Shared->Prop}(hu:A.units+1<cLine)(I:Inv X aa σ H s)(g:DPut H a y v H')(F:RelV y u)(x:RelV v r)(h:∀s',Inv X aa σ H' s'->Q () s'):wpAny (model X.prog X.w) A (setItem (.ref a) u r) Q E s:=by
 rcases g with ⟨kvs,k,e,o,l,p⟩|⟨kvs,k,b,e,o,C,l,p⟩
 ·subst o p
  obtain⟨z,hd,vs,d,dd⟩:=Cf I.hok e;have hz:vs.length<=sizeLine:=by rw[<-d.length];exact z
  have j:(putK kvs k v).length<=sizeLine:=by have:=Ce kvs k v;omega
  refine wpAny_setItem_pairs (hsz:=hz) (me F) dd fun h' f i=>h _ ?_;have G:∃q,h'.get? a=some q:=let ⟨q,_,_,hq,_⟩:=f;⟨q,hq⟩;exact om I (by rw[e];exact True.intro) i G (dk_new j hd (d.put k x) f)
 ·subst o p
  cases(show u=Value.ref b from F);obtain⟨z,hd,xs,d,dd⟩:=ki I.hok e;have hz:xs.length<=sizeLine:=by rw[<-A0 d];exact z
  have j:(putK kvs k v).length<=sizeLine:=by have:=Ce kvs k v;omega
  refine wpAny_setItem_heap (hsz:=hz) (tupleKind_room_in1 hu) (iS I.hok C) dd fun h' f i=>h _ ?_;obtain⟨q,es,ep,hq,h2,J,L,_,M⟩:=f;refine om I (by rw[e];exact True.intro) i ⟨q,hq⟩ ⟨j,hd,_,(d.put k C x).keeps fun c ys D=>?_,q,es,ep,hq,h2,J,L,M⟩;rw[ah (aV D e (fun z=>nomatch z))];exact D
end
def ot(i:Expr):Prop:=∀a c,subscripted i false a c=operate [a,c] (getItem a c)
def Kp{prog:Program}{w:World}{A:Around}{E:Ω}{s:Shared}{env:Env}{aS slice:Expr}{pos:Pos}{T id:String}{Q:Ω}(j:typeLookup (.type T) "__getitem__"=pure (some (.builtin id)))(l:ot slice)(h:wpAny (model prog w) A (eval aS env) (fun o d=>wpAny (model prog w) A (eval slice env) (fun i a=>a.TypeIs o T/\wpAny (model prog w) A (getItem o i) Q E a) E d) E s):wpAny (model prog w) A (eval (.Subscript aS slice pos) env) Q E s:=by
 refine Subscript_ (wpAny_mono h (fun o d f=>wpAny_mono f (fun i a c=>?_) fun _ _ x=>x) fun _ _ x=>x);obtain⟨hT,c⟩:=c;unfold subscriptTail;refine Aa ?_;rw[getitemInPython_of_ne hT.not_modules];refine Aa (wpAny_specialOf hT j ?_);have fin:wpAny (model prog w) A (subscripted slice false o i) (fun r e=>wpAny (model prog w) A (letTemporaryGo aS o r >>= fun _=>pure r) Q E e) E a:=by
  rw[l o i];exact wpAny_operating (wpAny_mono c (fun r e g=>Aa (wpAny_letTemporaryGo (Ac g))) fun _ _ x=>x)
 first
  |exact Ac (Aa fin)
  |exact Aa (Ac (Aa fin))
  |exact Aa fin
def Kq{X:Cx}{aa:Ψ}{σ:St}{H:Hp}{s:Shared}{a:Addr}{y:V}{o:Option V}(I:Inv X aa σ H s)(g:DGet H a y o):s.TypeIs (.ref a) "dict":=by
 rcases g with ⟨kvs,k,e,_,_⟩|⟨kvs,k,b,e,_,_,_⟩
 ·obtain⟨_,_,vs,_,dd⟩:=ke I.hok e
  exact dd.typeIs
 ·obtain⟨_,_,xs,_,dd⟩:=kh I.hok e
  exact dd.typeIs
def hE(td ty:TE):TE:=fun σ H Q=>td σ H fun x H1=>ty σ H1 fun y H2=>∃a v,x=.ref a/\DGet H2 a y (some v)/\Q v H2
def iT(ty td:TE):TE:=fun σ H Q=>ty σ H fun y H1=>td σ H1 fun x H2=>∃a o,x=.ref a/\DGet H2 a y o/\Q (.bl o.isSome) H2
def Kr(ty td:TE):TE:=fun σ H Q=>ty σ H fun y H1=>td σ H1 fun x H2=>∃a o,x=.ref a/\DGet H2 a y o/\Q (.bl (!o.isSome)) H2
def Ks(td ty tv:TE):TS:=fun D σ H=>tv σ H fun v H1=>td σ H1 fun x H2=>ty σ H2 fun y H3=>∃a c,x=.ref a/\DPut H3 a y v c/\D.nx σ c
section
variable{X:Cx}{o i e aS:Expr}{pos aM eF:Pos}{td ty tv:TE}
def zR(hu:X.A.units+1<cLine)(p:PE X o td)(hi:PE X i ty)(q:ot i):PE X (.Subscript o i pos) (hE td ty):=by
 intro aa s σ H Q I h;refine Kp PySem.F.slot_dict_getitem.lookup q (ba (p aa s σ H _ I h) fun u d ⟨x,H1,r,e,q1⟩=>ba (hi aa d σ H1 _ r q1) fun C D ⟨y,H2,c,f,a,v,ex,g,j⟩=>?_);subst ex;obtain rfl:u=Value.ref a:=e;exact⟨Kq c g,Km hu c g f fun E G w l=>⟨v,H2,w,l,j⟩⟩
def Cn(hu:X.A.units+1<cLine)(hi:PE X i ty)(l:PE X o td):PC X .In i o (iT ty td):=by
 intro aa s σ H Q I h;refine ba (hi aa s σ H _ I h) fun v c ⟨y,H1,p,d,q1⟩=>ba (l aa c σ H1 _ p q1) fun u w ⟨x,H2,q,e,a,f,ex,g,j⟩=>?_;subst ex;obtain rfl:u=Value.ref a:=e;exact Cj hu q g d fun C r=>⟨.bl f.isSome,H2,r,rfl,j⟩
def Kt(hu:X.A.units+1<cLine)(hi:PE X i ty)(l:PE X o td):PC X .NotIn i o (Kr ty td):=by
 intro aa s σ H Q I h;refine ba (hi aa s σ H _ I h) fun v c ⟨y,H1,p,d,q1⟩=>ba (l aa c σ H1 _ p q1) fun u w ⟨x,H2,q,e,a,f,ex,g,j⟩=>?_;subst ex;obtain rfl:u=Value.ref a:=e;exact Kn hu q g d fun C r=>⟨.bl (!f.isSome),H2,r,rfl,j⟩
def hF(hu:X.A.units+1<cLine)(q:PE X o td)(hi:PE X i ty)(w:PE X aS tv)(C:swapsWith aS (some (.Subscript o i aM)) pos.line X.env=pure false):PS X (.Assign [.Subscript o i aM] aS pos) (Ks td ty tv):=by
 intro aa s σ H D I h;refine wpAny_Assign_Subscript (ba (w aa s σ H _ I h) fun r c ⟨v,H1,E,d,q1⟩=>ba (q aa c σ H1 _ E q1) fun u e ⟨x,H2,F,f,j⟩=>ba (hi aa e σ H2 _ F j) fun M N ⟨y,H3,G,l,a,J,ex,g,p⟩=>?_) C;subst ex;obtain rfl:u=Value.ref a:=f;exact Ko hu G g l d fun O L=>⟨σ,J,L,p⟩
end
def Ku{P:Program}{w:World}{H:Hp}(h:Heap)(hb:Bc<h.objs.size):zC P w H (h.push {cls:=.type "dict",data:=.dict #[]}) h.objs.size (.dK []):=
 ⟨A6 _,beq_eq_false_iff_ne.mpr (Ne.symm (Au hb)),[],.nil,Heap.DictOf.new h⟩
def Fx{P:Program}{w:World}{H:Hp}(h:Heap)(hb:Bc<h.objs.size):zC P w H (h.push {cls:=.type "dict",data:=.dict #[]}) h.objs.size (.dT []):=
 ⟨A6 _,beq_eq_false_iff_ne.mpr (Ne.symm (Au hb)),[],.nil,_,#[],0,Ak _ rfl,⟨rfl,rfl,rfl⟩,rfl,rfl,QH⟩
def Kv:TE:=fun _ H Q=>∀p,H p=none->Q (.ref p) (upd H p (.dK []))
def Fy:TE:=fun _ H Q=>∀p,H p=none->Q (.ref p) (upd H p (.dT []))
section
variable{X:Cx}{pos:Pos}
def Fz:PE X (.Dict [] [] pos) Kv:=fun aa s σ H Q I h=>
 wpAny_Dict_empty ⟨.ref s⁻¹,_,I.laid (a:=s⁻¹) (o:=.dK []) (t':=s.toks) (fun _ _ q=>Ad _ q) (Af _) (Ku s.heap I.big),rfl,h _ (I.hok.fresh (Af _))⟩
def ju:PE X (.Dict [] [] pos) Fy:=fun aa s σ H Q I h=>
 wpAny_Dict_empty ⟨.ref s⁻¹,_,I.laid (a:=s⁻¹) (o:=.dT []) (t':=s.toks) (fun _ _ q=>Ad _ q) (Af _) (Fx s.heap I.big),rfl,h _ (I.hok.fresh (Af _))⟩
end
def Cu:List (TE×TE)->St->Hp->(List (V×V)->Hp->Prop)->Prop
 |[],_,H,Q=>Q [] H
 |(tk,tv)::r,σ,H,Q=>tk σ H fun x H1=>tv σ H1 fun y H2=>Cu r σ H2 fun ps H3=>Q ((x,y)::ps) H3
abbrev VV:List (V×V)->List (Value×Value)->Prop:=Paired fun p q=>RelV p.1 q.1/\RelV p.2 q.2
def Cv(X:Cx)(pos:Pos)(a:List (Option Expr))(c:List Expr)(d:List (TE×TE)):Prop:=
 ∀(aa:Ψ)(s:Shared)(σ:St)(H:Hp)(Q:List (V×V)->Hp->Prop),Inv X aa σ H s->Cu d σ H Q->
  wpAny (model X.prog X.w) X.A (evalPairs (pairTrees a c X.env pos)) (fun vs s'=>∃ps H',Inv X aa σ H' s'/\VV ps vs/\Q ps H') X.xe s
def Kw{X:Cx}{pos:Pos}:Cv X pos [] [] []:=fun aa s σ H Q I h=>pairTrees_nil_walk ⟨[],H,I,.nil,h⟩
def Kx{X:Cx}{pos:Pos}{k v:Expr}{ks:List (Option Expr)}{vs:List Expr}{tk tv:TE}{c:List (TE×TE)}(hk:PE X k tk)(l:PE X v tv)(hr:Cv X pos ks vs c):Cv X pos (some k::ks) (v::vs) ((tk,tv)::c):=fun aa s σ H Q I h=>
 pairTrees_cons_walk (ba (hk aa s σ H _ I h) fun u d ⟨x,H1,o,e,q1⟩=>ba (l aa d σ H1 _ o q1) fun r f ⟨y,H2,p,g,i⟩=>
  ba (hr aa f σ H2 _ p i) fun w A ⟨ps,H3,q,a,j⟩=>⟨(x,y)::ps,H3,q,.cons ⟨e,g⟩ a,j⟩)
noncomputable def Ky(kvs more:List (Key×V)):List (Key×V):=more.foldl (fun acc kv=>putK acc kv.1 kv.2) kvs
def KV.merge:∀{more:List (Key×V)}{a:List (Key×Value)}{kvs:List (Key×V)}{vs:List (Key×Value)},KV more a->KV kvs vs->KV (Ky kvs more) (merged vs a):=by
 intro more a kvs vs r;unfold KV at r
 induction r generalizing kvs vs with
 |nil=>intro q;exact q
 |@cons p q ps qs h t ih=>
  intro c;have e:KV (putK kvs p.1 p.2) (stored vs q.1 q.2):=by
   have:=c.put p.1 h.2;rw[<-h.1];exact this
  exact ih e
structure M1(X:Cx)(o:Expr)(m:Str)(aW:Pos)(e:Expr)(aG:Pos):Prop where
 base:attributeBase o m X.env (eval o X.env)=eval o X.env
 few:((backTo aG (starEach [e] X.env)).all (fun x=>!x.1)&&(backToKw aG (keywordEach [] X.env)).all (fun x=>x.1.isSome)
  && decide (([e]:List Expr).length+([]:List Keyword).length+(if([]:List Keyword).isEmpty then 0 else 1)<30))=true
 line:(aW.endLine==aG.line)=true
 trees:backTo aG (starEach [e] X.env)=[(false,eval e X.env)]
structure M2(X:Cx)(o:Expr)(m:Str)(aW:Pos)(e f:Expr)(aG:Pos):Prop where
 base:attributeBase o m X.env (eval o X.env)=eval o X.env
 few:((backTo aG (starEach [e,f] X.env)).all (fun x=>!x.1)&&(backToKw aG (keywordEach [] X.env)).all (fun x=>x.1.isSome)
  && decide (([e,f]:List Expr).length+([]:List Keyword).length+(if([]:List Keyword).isEmpty then 0 else 1)<30))=true
 line:(aW.endLine==aG.line)=true
 trees:backTo aG (starEach [e,f] X.env)=[(false,eval e X.env),(false,eval f X.env)]
def IsD(H:Hp)(a:Addr):Prop:=(∃kvs,Rd H a (.dK kvs))\/∃kvs,Rd H a (.dT kvs)
def Kz{X:Cx}{aa:Ψ}{σ:St}{H:Hp}{s:Shared}{a:Addr}(I:Inv X aa σ H s)(d:IsD H a):s.TypeIs (.ref a) "dict"/\(∀b,Value.ref a=.ref b->∃ob,s.heap.get? b=some ob/\ob.dict=none)/\(a==Bc)=false:=by
 rcases d with ⟨kvs,e⟩|⟨kvs,e⟩
 ·obtain⟨_,hd,vs,_,dd⟩:=ke I.hok e
  refine⟨dd.typeIs,fun b q=>?_,hd⟩;cases q;obtain⟨ob,_,_,h1,h2,_⟩:=dd;exact⟨ob,h1,h2.2.1⟩
 ·obtain⟨_,hd,xs,_,dd⟩:=kh I.hok e
  refine⟨dd.typeIs,fun b q=>?_,hd⟩;cases q;obtain⟨ob,_,_,h1,h2,_⟩:=dd;exact⟨ob,h1,h2.2.1⟩
section
variable{X:Cx}{aa:Ψ}{σ:St}{H:Hp}{s:Shared}{a:Addr}{y d:V}{u r:Value}{o:Option V}{A:Around}{E:Ω}
def KA{Q:Ω}(hu:A.units+1<cLine)(I:Inv X aa σ H s)(g:DGet H a y o)(j:RelV y u)(p:RelV d r)(h:∀i s',Inv X aa σ H s'->RelV (o.getD d) i->Q i s'):wpAny (model X.prog X.w) A (call (.builtin "dict.get") [.ref a,u,r]) Q E s:=by
 rcases g with ⟨kvs,k,e,f,l⟩|⟨kvs,k,b,e,f,q,l⟩
 ·subst f
  obtain⟨z,hd,vs,c,dd⟩:=ke I.hok e;refine call_meetsIn Sy dd.typeIs PySem.F.entry_dict_get (PySem.F.args_dict_get_3 _ _ _) (meets_dict_get_default (zB X.prog X.w) a (me j) hd r) ⟨_,dd.mapOf,h _ _ (I.tok _) ?_⟩;rw[l];exact(c.val k).getD p
 ·subst f
  cases(show u=Value.ref b from j);obtain⟨z,hd,xs,c,dd⟩:=kh I.hok e;refine call_meetsIn Sy dd.typeIs PySem.F.entry_dict_get (PySem.F.args_dict_get_3 _ _ _) (meetsH_dict_get_default (tupleKind (zB X.prog X.w)) a b hd r) ⟨tupleKind_room_in1 hu,k,xs,iS I.hok q,dd,h _ _ (I.tok _) ?_⟩;rw[l];exact(c.val k).getD p
end
def KB(td ty tx:TE):TE:=fun σ H Q=>td σ H fun x H1=>∃a,x=.ref a/\IsD H1 a/\ty σ H1 fun y H2=>tx σ H2 fun z H3=>∃o,DGet H3 a y o/\Q (o.getD z) H3
section
variable{X:Cx}{o e f:Expr}{aW aG:Pos}{td ty tx:TE}
def FA(hu:X.A.units+1<cLine)(E:PE X o td)(G:PE X e ty)(hf:PE X f tx)(m:M2 X o "get" aW e f aG):PE X (.Call (.Attribute o "get" aW) [e,f] [] aG) (KB td ty tx):=by
 intro aa s σ H Q I h;refine wpAny_Call_method m.base m.few m.line Sh Sy PySem.F.type_dict_get (ba (E aa s σ H _ I h) fun u i ⟨x,H1,c,j,a,ex,d,q1⟩=>?_);subst ex;obtain rfl:u=Value.ref a:=j;obtain⟨C,D,_⟩:=Kz c d;refine⟨C,D,?_⟩;rw[m.trees];refine Calls.callWith_builtin rfl (Calls.evalArgs_plain (Calls.spliced_cons (ba (G aa i σ H1 _ c q1) fun N l ⟨y,H2,J,p,q⟩=>
  Calls.spliced_cons (ba (hf aa l σ H2 _ J q) fun O P ⟨z,H3,L,r,S,g,v⟩=>Calls.spliced_nil ?_))))
 exact KA hu L g p r fun T U M w=>⟨_,H3,M,w,v⟩
end
end L2
namespace Att
open PySem PySem.W PySem.Calls PyProof.Rows
def KC{P:Params}{h:Heap}:∀(ns:List Int)(vs:List Value),WellAll P h vs (ns.map WData.int)->IntsAre vs ns:=by
 intro ns
 induction ns with
 |nil=>
  intro vs w;rw[Sl] at w;cases w;exact .nil
 |cons n ns ih=>
  intro vs w;rw[At] at w;cases w with
  |cons a b=>
   cases a;exact .cons _ _ (ih _ b)
def KD{l:OpenLaw}{n:Nat}(u:l.most=some n){P:Params}{h:Heap}{args:List WData}{i:List Value}(j:l.row.toRowW.claim.pre args=true)(v:WellAll P h i args):∃a vs ns,i=[Value.ref a]/\args=[WData.list (ns.map WData.int)]/\h.get? a=some {cls:=.type "list",data:=.seq vs.toArray}/\IntsAre vs ns/\ns.length<=n:=by
 have g:WShape.hasAll [] args [.list .int]=true:=(pre_splitW j).1;have hc:l.pre.holds [] {args:=args}=true:=(pre_splitW j).2;obtain⟨d,r,rfl,h1,h2⟩:=hasAllW_cons g;obtain rfl:=hasAllW_nil h2;obtain⟨xs,rfl,o⟩:=hasW_list h1;obtain⟨ns,rfl⟩:=items_int o;have c:ns.length<=n:=by
  unfold OpenLaw.pre at hc;have e:(WTm.not (.lt (.lit (.int (n:Int))) (.len (.arg 0)))).holds [] {args:=[.list (ns.map .int)]}=true:=by
   have e:=(holds_andW hc).1;rw[u] at e;exact e
  have f:=condW_of e (w_not (w_lt w_lit (w_len_list (w_arg rfl))));rw[Ab] at f;refine Nat.le_of_not_lt fun q=>?_;have p:(n:Int)<((ns.length:Nat):Int):=ω
  first
   |(rw[Tj p] at f;exact absurd f ξ)
   |(simp at f;omega)
 cases v with
 |cons w1 w2=>
  cases w2;cases w1 with
  |list ho hall=>exact⟨_,_,ns,rfl,rfl,ho,KC ns _ hall,c⟩
def KF(l:OpenLaw)(args:List WData):l.row.toRowW.claim.post args (.bool true) args=true:=
 postW_of (r:=l.row.toRowW) (X:=(true==true))
  (show WShape.has [] (.bool true) .bool=true by first|rfl|decide|simp[WShape.has,WShape.arms,WShape.armsAll])
  (show(WTm.eq .res (.lit (.bool true))).value [] {args:=args,res:=some (.bool true),after:=args}=some (.bool (true==true)) from w_eq_bool (w_res rfl) w_lit) rfl
def FB{l:OpenLaw}{n:Nat}{q:Program}{u:List Str}{v:(Str->Option Value)->Heap->Prop}{x:World->Heap->Prop}{d:DefRec}(N:l.most=some n)(O:d.params.defaults=[])(call:∀(w:World)(s₀ c:Shared)(mg h:Str->Option Value)(fa:Addr)(o:Obj)(i g j:Value)(a:Addr)(vs:List Value)(ns:List Int),
   Ground q u [] v w s₀ mg h c.heap->x w c.heap->
   c.heap.get? fa=some o->o.data=.func (docDef d.name d.params d.body d.scope i g j)->c.heap.CodeRec g d.name->mg d.name=some (.ref fa)->
   c.heap.get? a=some {cls:=.type "list",data:=.seq vs.toArray}->IntsAre vs ns->ns.length<=n->c.gens=#[]->
   codeAny (model l.prog w) callerA (.call (.ref fa) ⟨[.ref a],[]⟩) (fun r s'=>r=.ok (.ret (.bool true))/\OldK c.heap s'.heap/\s'.os=c.os/\AllBare s'.gens) c):
  WalkO q u v x l.row.toRowW d [] (fun f vs=>PySem.call f vs):=by
 intro w s₀ c mg h G Y fa o i g j y kV A hd C p D E args P as F Q S H T;obtain rfl:y=.none:=Dflts.none p O;obtain rfl:kV=.none:=Dflts.noKw p;obtain⟨a,vs,ns,rfl,rfl,I,J,e⟩:=KD N F H;refine enter_call (codeAny_mono (call w s₀ c mg h fa o i g j a vs ns G Y A (fd_plain hd) C D I J e E) fun r s' hq=>?_);obtain⟨rfl,h2,L,M⟩:=hq;exact⟨.inl ⟨.bool true,.bool true,[],rfl,fun _=>rfl,.bool true,KF l _,fun _=>⟨List.Pairwise.nil,fun _ hm=>(nomatch hm)⟩⟩,h2,L,M⟩
section
variable{prog:Program}{w:World}{A:Around}{E:Ω}{s:Shared}{K:Frag}
noncomputable def ledger(h:Heap)(L d:Addr):Ψ:=(AD h.objs.size).filterMap fun a=>if a=L\/a=d then none else(h.get? a).map fun o=>(a,o)
end
end Att
namespace L2
open PySem PySem.Spec PyProof.Rows
def Cz:∀{vs:List Value}{ns:List Int},IntsAre vs ns->Vals (ns.map V.int) vs
 |_,_,.nil=>.nil
 |_,_,.cons n t h=>.cons ⟨t,rfl⟩ (Cz h)
def kl(H:Hp):Prop:=∀b,H b=none\/∃o xs,H b=some (.frz o (.lst xs))
def KG{P:Program}{w:World}{K:Ae}{mg y:Str->Option Value}{CX:e_}{k:Nat}{fa a:Addr}{fd:FuncData}{x:Str}{sp:Sp}{c:Shared}{vs:List Value}{ns:List Int}(L:K.In c.heap)(I:c.heap.Ns mainGlobals mg)(hb:c.heap.Ns builtinsNs y)(Y:∀x:Str,x≠"__name__"->y x=AZ x)(g_:c.heap.NoLimit)(hg:c.gens=#[])(ha:c.heap.get? a=some {cls:=.type "list",data:=.seq vs.toArray})(hi:IntsAre vs ns)(J:ns.length<=sizeLine)(hr:Room k callerA)(F:∀base:Heap,K.In base->base.Ns mainGlobals mg->FnOk P w K mg base CX k fa fd [x] sp)(dY:∀(s:Shared)(u:Value),BindsTo s fd ⟨[u],[]⟩ [(x,u)])(cr:∀H:Hp,kl H->SqL K H a (ns.map V.int)->sp [.ref a] H (fun v _=>v=.bl true) fun _ _ _=>False)(gb:∀H e s',CX [] H c (fun _ _ _=>False) e s'->False):codeAny (model P w) callerA (.call (.ref fa) ⟨[.ref a],[]⟩) (fun r s'=>r=.ok (.ret (.bool true))/\OldK c.heap s'.heap/\s'.os=c.os/\AllBare s'.gens) c:=by
 have D:=Cz hi;have S:=hi.length;have g:∀H:Hp,kl H->SqL K H a (ns.map V.int)->HOk P w H c.heap->(∀b,H b≠none->b=a)->(H a≠none->K.lookup a=none)->
   codeAny (model P w) callerA (.call (.ref fa) ⟨[.ref a],[]⟩) (fun r s'=>r=.ok (.ret (.bool true))/\OldK c.heap s'.heap/\s'.os=c.os/\AllBare s'.gens) c:=by
  intro H A M i C N;have E:∀{b:Addr}{o:Obj},c.heap.get? b=some o->H b=none->(cS c.heap H).get? b=some o:=fun e n=>EE e n;have p:∀{b:Addr}{o:Obj}{es:Array DictEntry}{ep:Nat},c.heap.get? b=some o->o.data=.dict es ep->H b=none:=fun{b o es ep} e d=>by
   cases q:H b with
   |none=>rfl
   |some u=>
    have e':b=a:=C b (by rw[q];simp);subst e';rw[ha] at e;cases e;have d':Data.seq vs.toArray _=Data.dict es ep:=d;cases d'
  have f:∀{b:Addr}{m:Str->Option Value},c.heap.Ns b m->(cS c.heap H).Ns b m:=fun{b m} ⟨o,es,ep,e,d,r⟩=>⟨o,es,ep,E e (p e d),d,r⟩;have G:K.In (cS c.heap H):=fun b o e=>E (L b o e) (by
   cases q:H b with
   |none=>rfl
   |some u=>
    have e':b=a:=C b (by rw[q];simp);subst e';rw[N (by rw[q];simp)] at e;cases e)
  have T:Mod K mg (cS c.heap H):=⟨G,f I,⟨y,f hb,Y⟩,let ⟨mc,h1,h2⟩:=g_;⟨mc,f h1,h2⟩⟩;have U:Env0 P w K mg (cS c.heap H) callerA [] c H:=⟨rfl,T,fun b o e=>EF e,Nat.le_of_eq (ED _ _),trivial,fun b hb=>absurd (show b∈([]:List Addr) from hb) (by simp),i,.of_eq hg⟩;refine codeAny_mono ((F _ G (f I)).run callerA [] c H ⟨[.ref a],[]⟩ [.ref a] [.ref a] _ _ hr U (dY c (.ref a)) (.cons rfl .nil) (cr H A M)) fun r s' h=>?_;cases r with
  |error e=>exact(gb H e s' h).elim
  |ok fl=>
   cases fl with
   |next=>exact False.elim h
   |brk=>exact False.elim h
   |cont=>exact False.elim h
   |ret u=>
    obtain⟨v,H',os,j,un,O,Q,q⟩:=h;have W:v=.bl true:=q;subst W;obtain rfl:u=Value.bool true:=Q;refine⟨rfl,OldK.of_keep fun b o e=>?_,os,j⟩;cases q:H b with
    |none=>exact un.keep b o e q (by intro z;exact absurd (show b∈([]:List Addr) from z) (by simp)) (by simp)
    |some u=>
     rcases A b with z|⟨ob,xs,z⟩
     ·rw[q] at z;cases z
     ·have X:=un.frzs b ob _ z
      obtain⟨e1,_⟩:=i b _ z;obtain⟨e2,_⟩:=O b _ X;rw[e] at e1;cases e1;exact e2
 cases hk:K.lookup a with
 |some o=>
  have e:=L a o hk;rw[ha] at e;cases e;refine g (fun _=>none) (fun _=>.inl rfl) (.inr ⟨_,vs.toArray,_,hk,rfl,rfl,rfl,by rw[Ao,S];exact J,by simpa using D⟩) (fun b u z=>by have l:(none:Option HO)=some u:=z;cases l) (fun b z=>absurd rfl z) fun z=>absurd rfl z
 |none=>
  refine g (fun b=>if b=a then some (.frz {cls:=.type "list",data:=.seq vs.toArray} (.lst (ns.map V.int))) else none) (fun b=>?_) (.inl (.inr ⟨{cls:=.type "list",data:=.seq vs.toArray},Th rfl⟩)) (fun b u z=>?_) (fun b z=>?_) fun _=>hk
  ·by_cases hb:b=a
   ·exact .inr ⟨_,_,Th hb⟩
   ·exact .inl (Ti hb)
  ·by_cases hb:b=a
   ·have l:=(Th hb).symm.trans z
    cases l;subst hb;exact⟨ha,by rw[Ab];exact J,vs,_,D,ha⟩
   ·have l:=(Ti hb).symm.trans z
    cases l
  ·by_cases hb:b=a
   ·exact hb
   ·exact absurd (Ti hb) z
noncomputable abbrev FC{K:Ae}{h:Heap}(_:K.In h):Ae:=K
def KH{l:PySem.W.OpenLaw}{n k:Nat}{q:Program}{J:List Str}{S:(Str->Option Value)->Heap->Prop}{j:World->Heap->Prop}{d:DefRec}{K:Params->Ae}{CX:World->e_}{sp:World->Sp}{x:Str}(L:l.most=some n)(M:n<=sizeLine)(N:d.params.defaults=[])(hr:Room k callerA)(O:∀(w:World)(h:Heap),j w h->(K w.params).In h)(F:∀(w:World)(mg:Str->Option Value)(fa:Addr)(h:Heap),(K w.params).In h->h.Ns mainGlobals mg->mg d.name=some (.ref fa)->
   ∃fd:FuncData,(∀(s:Shared)(u:Value),BindsTo s fd ⟨[u],[]⟩ [(x,u)])/\
    ∀base:Heap,(K w.params).In base->base.Ns mainGlobals mg->FnOk l.prog w (K w.params) mg base (CX w) k fa fd [x] (sp w))
  (P:∀(w:World)(H:Hp)(a:Addr)(ns:List Int),ns.length<=n->kl H->SqL (K w.params) H a (ns.map V.int)->sp w [.ref a] H (fun v _=>v=.bl true) fun _ _ _=>False)
  (Q:∀(w:World)(H:Hp)(s:Shared)(e:Value)(s':Shared),CX w [] H s (fun _ _ _=>False) e s'->False) :
  PySem.W.WalkO q J S j l.row.toRowW d [] (fun f vs=>PySem.call f vs):=by
 refine Att.FB L N fun w s₀ p mg U fa o X cd bE a vs ns G Y ho hd bH r y A c C=>?_;have i:=O w _ Y;obtain⟨fd,hb,I⟩:=F w mg fa _ i G.T.g r;exact KG i G.T.g G.T.b G.T.builtins G.T.nolimit C y A (AA c M) hr I hb (fun H D E=>P w H a ns c D E) fun H e s'=>Q w H p e s'
end L2
/- THE LAST THEOREM (shape;LID,My.* are yours):
  My.Adr: a structure of kS addresses that your layer names (classes,functions);My.Txt K t: a structure (Prop) of kS equations over K;
  My.txt_mk:{K} {implicit addresses ..} (e1:nsIn K mainGlobals "law"=some (some (.ref f))) (e2:K.lookup f=some ⟨oc,od,.func (fnOf "law" "law" cN body scope dV kV bE pm an ar ct),sl⟩) (e3:codeIn K ar "law"=true) ..:∃t,My.Txt K t
set_option maxRecDepth 100000 in
set_option maxHeartbeats 0 in
theorem PySem.Challenge.cw_LID_holds:PySem.Challenge.rw_LID.Holds := by
 w_on;o_law;k_head;(case hw=>w_witness2)
 k_fill
 refine L2.KH (l:=PySem.Challenge.rw_LID) (n:=63) (k:=40) (x:="script") (CX:=fun w=>..) (sp:=fun _=>My.sp_law) rfl ξ rfl ⟨rfl,ξ,ξ⟩ (fun w h Y=>PySem.W.kIn_of Y) ?F ?S ?C
 case F=>
  intro w mg fa h f G g;have T:∃t,My.Txt (L2.FC f) t:=by
   dsimp only[L2.FC]                          -- K must stand as «<heap const> w.params» for k_is
   refine' My.txt_mk ?e1 ?e2 ?e3 ..
   (case e1 => PySem.W.k_is)                    -- in e order: a name -> af address -> af object -> af parts
   (case e2=>PySem.W.k_is)
   ..
  obtain⟨t,T⟩:=T;have i:=g.symm.trans (Ru f G T.law);cases i                                       -- fa is e law's own address
  exact⟨_,fun s u => .of_eq rfl,fun base c d => My.law_fn T c d⟩     -- if «.of_eq rfl» comes too early: refine' ⟨_,?b,fun base c d => My.law_fn T c d⟩;exact fun s u => .of_eq rfl
 case S=>exact fun w H a ns j o p=>..
 case C=>exact ..
(e tactic k_is has q namespace: write k_is) -/
namespace L2
open PySem PySem.Spec PyProof.Rows
noncomputable def zce(s:Stmt):Arguments:=match s with
 |.FunctionDef _ a _ _ _ _ _ _ _ _=>a
 |_=>{posonlyargs:=[],args:=[],vararg:=none,kwonlyargs:=[],kw_defaults:=[],kwarg:=none,defaults:=[]}
noncomputable def za3(s:Stmt):List Stmt:=match s with
 |.FunctionDef _ _ b _ _ _ _ _ _ _=>b
 |_=>[]
noncomputable def zi(s:Stmt):Scope:=match s with
 |.FunctionDef _ _ _ _ _ _ sc _ _ _=>sc
 |_=>{kind:=.function,names:=[],isGenerator:=false,isCoroutine:=false}
abbrev aR:e_:=fun _ _ _ _ _ _=>False
abbrev E0:XK:=fun _ _ _=>False
def ak{X:Cx}:d_ aR X E0:=fun _ _ _ _ _ _ _ h=>h.elim
structure Fun(K:Ae)(x ai:Str)(st:Stmt)(f:Addr)(fd:FuncData):Prop where
 ex:∃(oc:Value)(od:Option Addr)(kV bE pm:Value)(an:Option Addr)(ar ct:Value)(cL:Array (Option Value)),
  fd=Rx x ai (zce st) (za3 st) (zi st) .none kV bE pm an ar ct/\K.lookup f=some ⟨oc,od,.func fd,cL⟩/\SR K ar ai=true
 kp:Sj K (.ref f)=true
section
variable{P:Program}{w:World}{K:Ae}{mg:Str->Option Value}{base:Heap}
def Fun.ok{x c:Str}{st:Stmt}{f:Addr}{fd:FuncData}{N ps:List Str}{k:Nat}{sp:Sp}(F:Fun K x c st f fd)(S:zp N ps (zi st))(len:∀vs H Q E,sp vs H Q E->vs.length=ps.length)(g:∀(a:Value)(A:Around)(outer:List Env)(s:Shared)(H:Hp)(vs:List V)(Q:VK)(E:XK),Room k (A.deeper (envOfC c (zi st) s⁻¹ f a))->sp vs H Q E->
   ∃t,PSs (eD aR P w K mg base N c (zi st) f a A outer s H E).nox (za3 st) t/\t {nx:=fun _ H'=>Q .non H',rt:=Q} (start N vs) H):FnOk P w K mg base aR (k+1) f fd ps sp:=by
 obtain⟨i,j,kV,l,o,p,a,ct,r,rfl,lk,e⟩:=F.ex;refine Fa lk e S len fun A outer s H vs Q E hr d=>?_;obtain⟨t,h,q⟩:=g a A outer s H vs Q E hr d;exact⟨t,h.nox,q⟩
def Fun.binds{x g:Str}{st:Stmt}{f:Addr}{fd:FuncData}{ps:List Str}(F:Fun K x g st f fd)(h:∀(kV a c:Value)(d:Option Addr)(e ct:Value)(us:List Value),us.length=ps.length->bindArgs (Rx x g (zce st) (za3 st) (zi st) .none kV a c d e ct) ⟨us,[]⟩=pure (ps.zip us)):Binds K fd ps []:=by
 obtain⟨i,j,kV,a,c,d,e,ct,l,rfl,lk,o⟩:=F.ex;exact .all (h kV a c d e ct)
def KI{x a:Str}{st:Stmt}{f:Addr}{j:Value}{o h:Option Addr}{i:Array (Option Value)}{kV e g d ct:Value}(l:K.lookup f=some ⟨j,o,.func (Rx x a (zce st) (za3 st) (zi st) .none kV e g h d ct),i⟩)(c:SR K d a=true)(k:Sj K (.ref f)=true):Fun K x a st f (Rx x a (zce st) (za3 st) (zi st) .none kV e g h d ct):=⟨⟨j,o,kV,e,g,h,d,ct,i,rfl,l,c⟩,k⟩
end
def eG{A:Around}{k:Nat}(hr:Room k A):A.units+1<cLine:=Nat.lt_of_le_of_lt (Nat.add_le_add_left (by decide:1<=64) _) hr.units
section
variable{X:Cx}
def pv(i:Nat){x:Str}{pos:Pos}(a:X.N[i]?=some x:=by rfl)(c:qL X.env.scope x:=by first|exact Or.inl rfl|exact Or.inr (Or.inl rfl)|exact Or.inr (Or.inr rfl))(hd:(x==("__debug__":Str))=false:=by decide)
  (d:(x==("__classdict__":Str))=false:=by decide):PE X (.Name x pos) (ax i):=JE a c hd d
end
def aC{A B:Prop}(h:B):if false=true then A else B:=by
 rw[Ti An];exact h
def bd{A B:Prop}(h:A):if true=true then A else B:=by
 rw[Th rfl];exact h
def eH{c A B:Prop}[Decidable c](h1:c->A)(h2:¬c->B):if c then A else B:=by
 by_cases h:c
 ·rw[Th h]
  exact h1 h
 ·rw[Ti h]
  exact h2 h
def Same(H H':Hp):Prop:=∀b o,H b=some o->H' b=some o
def Same.refl(H:Hp):Same H H:=fun _ _ h=>h
def Same.trans{H H1 H2:Hp}(a:Same H H1)(b:Same H1 H2):Same H H2:=fun c o h=>b c o (a c o h)
def Same.free{H H':Hp}(e:Same H H'){l:Addr}(h:H' l=Option.none):H l=Option.none:=by
 cases q:H l with
 |none=>rfl
 |some o=>
  rw[e l o q] at h;cases h
def Same.seq{K:Ae}{H H':Hp}{a:Addr}{xs:List V}(e:Same H H')(h:SqL K H a xs):SqL K H' a xs:=by
 rcases h with (h|⟨o,h⟩)|h
 ·exact .inl (.inl (e _ _ h))
 ·exact .inl (.inr ⟨o,e _ _ h⟩)
 ·exact .inr h
end L2
end
section
namespace Tim
open PySem PyProof.Rows
noncomputable def R(ρ:Keyed->Int)(xs:Array Keyed)(i:Nat):Int:=match xs[i]? with
 |some p=>ρ p
 |none=>0
def im{ρ:Keyed->Int}{xs ys:Array Keyed}{i j:Nat}(h:xs[i]?=ys[j]?):R ρ xs i=R ρ ys j:=by unfold R;rw[h]
def bx{ρ:Keyed->Int}{xs:Array Keyed}{i:Nat}{p:Keyed}(h:xs[i]?=some p):R ρ xs i=ρ p:=by unfold R;rw[h]
def bM(ρ:Keyed->Int)(xs:Array Keyed)(lo hi:Nat):Prop:=∀i j,lo<=i->i<=j->j<hi->R ρ xs i<=R ρ xs j
def mf(ρ:Keyed->Int)(xs:Array Keyed)(lo hi:Nat):Prop:=∀i j,lo<=i->i<=j->j<hi->R ρ xs j<=R ρ xs i
def CA{ρ:Keyed->Int}{xs:Array Keyed}{i j:Nat}(a:j<=xs.size)(k:Nat):R ρ (mirror xs i j ((j-i) / 2)) k=if i<=k/\k<j then R ρ xs (i+j-1-k) else R ρ xs k:=by
 have e:=getElem?_mirror_all (i:=i) a k
 by_cases h1:i<=k/\k<j
 ·rw[Th h1] at e ⊢;exact im e
 ·rw[Ti h1] at e ⊢;exact im e
def ox{ρ:Keyed->Int}{xs:Array Keyed}{i j:Nat}(c:j<=xs.size)(a:∀k,i<=k->k<j->R ρ xs k=R ρ xs (j-1))(k:Nat):R ρ (mirror xs i j ((j-i) / 2)) k=R ρ xs k:=by
 rw[CA c];split
 ·rw[a _ ω ω,a k ω ω]
 ·rfl
def FD{ρ:Keyed->Int}{xs:Array Keyed}{src d:Nat}(a:src<xs.size)(hd:d<=src)(k:Nat):R ρ (bubble xs src d) k=if k=src-d then R ρ xs src else if src-d<k/\k<=src then R ρ xs (k-1) else R ρ xs k:=by
 have e:=getElem?_bubble a d hd k
 by_cases h1:k=src-d
 ·rw[Th h1] at e ⊢;exact im e
 ·rw[Ti h1] at e ⊢
  by_cases h2:src-d<k/\k<=src
  ·rw[Th h2] at e ⊢;exact im e
  ·rw[Ti h2] at e ⊢;exact im e
structure cW(prog:Program)(w:World)(A:Around)(s:Shared)(κ:SortKind)(a₀:Array Keyed)(ρ:Keyed->Int):Prop where
 lt:∀x y,x∈a₀.toList->y∈a₀.toList->∀(Q:Bool->Shared->Prop)(E:Ω),Q (decide (ρ x<ρ y)) s->wpAny (model prog w) A (keyLt' κ x.1 y.1) Q E s
structure B(κ:SortKind)(a₀:Array Keyed)(st:SortSt):Prop where
 perm:(arrOf st).Perm a₀
 kind:kindOf st=κ
 failed:failedOf st=none
def B.size{κ:SortKind}{a₀:Array Keyed}{st:SortSt}(h:B κ a₀ st):(arrOf st).size=a₀.size:=h.perm.size_eq
def B.setArr{κ:SortKind}{a₀:Array Keyed}{st:SortSt}(h:B κ a₀ st){xs:Array Keyed}(hp:xs.Perm (arrOf st)):B κ a₀ (setArr st xs):=⟨hp.trans h.perm,h.kind,h.failed⟩
def B.mem{κ:SortKind}{a₀:Array Keyed}{st:SortSt}(h:B κ a₀ st){p:Keyed}(hp:p∈(arrOf st).toList):p∈a₀.toList:=(RN.mp h.perm).mem_iff.mp hp
def CB{xs:Array Keyed}{i:Nat}(hi:i<xs.size):∃p,xs[i]?=some p/\p∈xs.toList:=⟨xs[i],getElem?_pos _ i hi,by simp⟩
structure Pre(lo:Nat)(st ab:SortSt):Prop where
 arr:∀k,k<lo->(arrOf ab)[k]?=(arrOf st)[k]?
 pend:AF ab=AF st
def Pre.refl{lo:Nat}{st:SortSt}:Pre lo st st:=⟨fun _ _=>rfl,rfl⟩
def Pre.trans{lo:Nat}{a b c:SortSt}(x:Pre lo a b)(y:Pre lo b c):Pre lo a c:=⟨fun k h=>(y.arr k h).trans (x.arr k h),y.pend.trans x.pend⟩
def Pre.mir{lo i j:Nat}{st:SortSt}(a:j<=(arrOf st).size)(hi:lo<=i):Pre lo st (setArr st (mirror (arrOf st) i j ((j-i) / 2))):=
 ⟨fun k h=>by show(mirror _ _ _ _)[k]?=_;rw[getElem?_mirror_all a,Ti ω],rfl⟩
def Pre.bub{lo src d:Nat}{st:SortSt}(a:src<(arrOf st).size)(hd:d<=src)(c:lo<=src-d):Pre lo st (setArr st (bubble (arrOf st) src d)):=
 ⟨fun k h=>by show(bubble _ _ _)[k]?=_;rw[getElem?_bubble a d hd,Ti ω,Ti ω],rfl⟩
section
variable{prog:Program}{w:World}{A:Around}{E:Ω}{s:Shared}{κ:SortKind}{a₀:Array Keyed}{ρ:Keyed->Int}
def oy(C:cW prog w A s κ a₀ ρ){st:SortSt}(a:B κ a₀ st){x y:Keyed}(hx:x∈a₀.toList)(hy:y∈a₀.toList){Q:Option Bool->SortSt->Prop}(h:Q (some (decide (ρ x<ρ y))) st):wpS (model prog w) A E s (lt' x y) Q st:=by
 rw[lt'_eq];refine wpS_bind (wpS_get ?_);rw[a.kind];refine wpS_bind (wpS_lift (wpAny_attempt (C.lt x y hx hy _ _ ⟨rfl,?_⟩)));exact wpS_pure h
def zL{st:SortSt}{xs:Array Keyed}{i:Nat}{p:Keyed}(h:xs[i]?=some p){Q:Keyed->SortSt->Prop}(hq:Q p st):wpS (model prog w) A E s (elem' xs i) Q st:=by
 rw[elem'_eq,h];exact wpS_pure hq
def oA(C:cW prog w A s κ a₀ ρ){st:SortSt}(a:B κ a₀ st){i j:Nat}(hi:i<a₀.size)(e:j<a₀.size){Q:Option Bool->SortSt->Prop}(h:Q (some (decide (R ρ (arrOf st) i<R ρ (arrOf st) j))) st):wpS (model prog w) A E s (ltAt' i j) Q st:=by
 obtain⟨p,e1,c⟩:=CB (xs:=arrOf st) (i:=i) (by rw[a.size];exact hi);obtain⟨q,e2,d⟩:=CB (xs:=arrOf st) (i:=j) (by rw[a.size];exact e);rw[ltAt'_eq];refine wpS_bind (wpS_get ?_);show wpS _ _ _ _ (do let x <-elem' (arrOf st) i;let y <-elem' (arrOf st) j;lt' x y) Q st;refine wpS_bind (zL e1 (wpS_bind (zL e2 (oy C a (a.mem c) (a.mem d) ?_))));rw[bx e1,bx e2] at h;exact h
noncomputable def asc(lo a c:Nat):StateT SortSt Sem AscSt:=
 forIn [a:c] ((none,a):AscSt) fun _ __s=>do
  let __x <-ltAt' (lo+__s.snd) (lo+__s.snd-1)
  match __x with
  |some smaller=>if smaller=true then pure (ForInStep.done (none,__s.snd)) else pure (ForInStep.yield (none,__s.snd+1))
  |_=>pure (ForInStep.done (some none,__s.snd))
noncomputable def oD(lo n a:Nat):StateT SortSt Sem (Option Nat):=do
 reverseSlice' lo (lo+n)
 let __s <-asc lo n a
 match __s.fst with
 |some r=>pure r
 |none=>pure (some __s.snd)
noncomputable def rp(lo n a:Nat):StateT SortSt Sem DescSt:=
 forIn [n:a] ((none,n,0):DescSt) fun _ __s=>do
  let __x <-ltAt' (lo+__s.snd.fst) (lo+__s.snd.fst-1)
  match __x with
  |some smaller=>
   if smaller=true then
    if __s.snd.snd>0 then do
     reverseSlice' (lo+__s.snd.fst-(__s.snd.snd+1)) (lo+__s.snd.fst)
     pure (ForInStep.yield (none,__s.snd.fst+1,0))
    else pure (ForInStep.yield (none,__s.snd.fst+1,0))
   else do
    let __x <-ltAt' (lo+__s.snd.fst-1) (lo+__s.snd.fst)
    match __x with
    |some larger=>
     if larger=true then pure (ForInStep.done (none,__s.snd.fst,__s.snd.snd))
     else pure (ForInStep.yield (none,__s.snd.fst+1,__s.snd.snd+1))
    |_=>pure (ForInStep.done (some none,__s.snd.fst,__s.snd.snd))
  |_=>pure (ForInStep.done (some none,__s.snd.fst,__s.snd.snd))
noncomputable def oF(lo n a:Nat):StateT SortSt Sem (Option Nat):=do
 liftM (rule "list.sort.descending-run")
 let __s <-rp lo (n+1) a
 match __s.fst with
 |some r=>pure r
 |none=>
  if __s.snd.snd>0 then do
   reverseSlice' (lo+__s.snd.fst-(__s.snd.snd+1)) (lo+__s.snd.fst)
   oD lo __s.snd.fst a
  else oD lo __s.snd.fst a
def bB{c d:Type}{m:StateT SortSt Sem c}{f g:c->StateT SortSt Sem d}(h:∀a,f a=g a):(m >>= f)=(m >>= g):=by
 have e:f=g:=funext h;rw[e]
def KJ(lo e:Nat):countRun' lo e=(do
  let __s <-asc lo 1 e
  match __s.fst with
  |some r=>pure r
  |none=>
   if(__s.snd==e)=true then pure (some __s.snd)
   else if __s.snd>1 then do
    let __x <-ltAt' lo (lo+__s.snd-1)
    match __x with
    |some rose=>if rose=true then pure (some __s.snd) else do
      reverseSlice' lo (lo+__s.snd)
      oF lo __s.snd e
    |_=>pure none
   else oF lo __s.snd e):=by
 rw[countRun'_eq];unfold oF oD rp asc;refine bB fun h=>?_;obtain⟨r,n⟩:=h;cases r with
 |some r=>rfl
 |none=>
  dsimp only;split
  ·rfl
  ·split
   ·refine bB fun x=>?_
    cases x with
    |none=>rfl
    |some rose=>
     dsimp only;split
     ·rfl
     ·refine bB fun _r=>bB fun _u=>bB fun f=>?_
      obtain⟨d,n2,i⟩:=f;cases d with
      |some d=>rfl
      |none=>
       dsimp only;split
       ·refine bB fun _v=>bB fun _w=>bB fun a=>?_
        obtain⟨c,g⟩:=a;cases c<;>rfl
       ·refine bB fun _w=>bB fun a=>?_
        obtain⟨c,g⟩:=a;cases c<;>rfl
   ·refine bB fun _u=>bB fun f=>?_
    obtain⟨d,n2,i⟩:=f;cases d with
    |some d=>rfl
    |none=>
     dsimp only;split
     ·refine bB fun _v=>bB fun _w=>bB fun a=>?_
      obtain⟨c,g⟩:=a;cases c<;>rfl
     ·refine bB fun _w=>bB fun a=>?_
      obtain⟨c,g⟩:=a;cases c<;>rfl
def FE(C:cW prog w A s κ a₀ ρ){st:SortSt}{lo a e:Nat}{Q:AscSt->SortSt->Prop}(H:lo+e<=a₀.size)(ha:1<=a)(v:a<=e)(y:B κ a₀ st)(D:bM ρ (arrOf st) lo (lo+a))(h:∀n,a<=n->n<=e->bM ρ (arrOf st) lo (lo+n)->(n=e\/R ρ (arrOf st) (lo+n)<R ρ (arrOf st) (lo+n-1))->Q (none,n) st):wpS (model prog w) A E s (asc lo a e) Q st:=by
 unfold asc;refine wpS_forRange (I:=fun x c g=>g=st/\c=(none,x)/\bM ρ (arrOf st) lo (lo+x)) ?step ?fin ⟨rfl,rfl,D⟩
 case fin=>
  rintro c g ⟨rfl,rfl,f⟩;rw[show max a e=e from ω] at f ⊢;exact h e v (Af _) f (.inl rfl)
 case step=>
  rintro x c g u G ⟨rfl,rfl,f⟩;dsimp only;refine wpS_bind (oA C y ω ω ?_)
  by_cases d:R ρ (arrOf g) (lo+x)<R ρ (arrOf g) (lo+x-1)
  ·simp only[d,decide_true,if_true]
   exact wpS_pure (h x u ω f (.inr d))
  ·simp only[d,decide_false,Av,if_false]
   refine wpS_pure ⟨rfl,rfl,fun i j q r F=>?_⟩
   by_cases o:j<lo+x
   ·exact f i j q r o
   ·have l:j=lo+x:=ω
    subst l
    by_cases p:i=lo+x
    ·subst p;exact QI _
    ·exact QZ (f i (lo+x-1) q ω ω) (Int.not_lt.mp d)
def rq{st:SortSt}{i j:Nat}{Q:Unit->SortSt->Prop}(h:Q () (setArr st (mirror (arrOf st) i j ((j-i) / 2)))):wpS (model prog w) A E s (reverseSlice' i j) Q st:=by
 rw[reverseSlice'_eq];exact wpS_modify h
abbrev Got(κ:SortKind)(a₀:Array Keyed)(ρ:Keyed->Int)(lo aj:Nat)(st:SortSt)(Q:Option Nat->SortSt->Prop):Prop:=
 ∀m ab,B κ a₀ ab->Pre lo st ab->1<=m->m<=aj->bM ρ (arrOf ab) lo (lo+m)->Q (some m) ab
def FF(C:cW prog w A s κ a₀ ρ){st e:SortSt}{lo n a:Nat}{Q:Option Nat->SortSt->Prop}(o:lo+a<=a₀.size)(h1:1<=n)(c:n<=a)(f:B κ a₀ st)(p:Pre lo e st)(q:mf ρ (arrOf st) lo (lo+n))(h:Got κ a₀ ρ lo a e Q):wpS (model prog w) A E s (oD lo n a) Q st:=by
 unfold oD;have hsz:lo+n<=(arrOf st).size:=by rw[f.size];omega
 refine wpS_bind (rq ?_);have d:B κ a₀ (setArr st (mirror (arrOf st) lo (lo+n) ((lo+n-lo) / 2))):=f.setArr (mirror_perm _ _ _ _);refine wpS_bind (FE C o h1 c d ?_ fun m r g l _=>wpS_pure (h m _ d (p.trans (.mir hsz (Af _))) ω g l));intro i j u v x;show R ρ (mirror (arrOf st) lo (lo+n) ((lo+n-lo) / 2)) i<=R ρ (mirror (arrOf st) lo (lo+n) ((lo+n-lo) / 2)) j;rw[CA hsz,CA hsz,Th ω,Th ω];exact q _ _ ω ω ω
def KM(C:cW prog w A s κ a₀ ρ){st J:SortSt}{lo n u:Nat}{Q:DescSt->SortSt->Prop}(W:lo+u<=a₀.size)(h1:1<=n)(L:n<=u)(P:B κ a₀ st)(S:Pre lo J st)(T:mf ρ (arrOf st) lo (lo+n))(h:∀m f a,B κ a₀ a->Pre lo J a->n<=m->m<=u->mf ρ (arrOf a) lo (lo+m)->f+1<=m->(∀i,lo+m-(f+1)<=i->i<lo+m->R ρ (arrOf a) i=R ρ (arrOf a) (lo+m-1))->Q (none,m,f) a):wpS (model prog w) A E s (rp lo n u) Q st:=by
 unfold rp;refine wpS_forRange (I:=fun x c a=>∃f,c=(none,x,f)/\B κ a₀ a/\Pre lo J a/\mf ρ (arrOf a) lo (lo+x)/\f+1<=x/\
   (∀i,lo+x-(f+1)<=i->i<lo+x->R ρ (arrOf a) i=R ρ (arrOf a) (lo+x-1))) ?step ?fin ⟨0,rfl,P,S,T,ω,fun i h1 h2=>by congr 1;omega⟩
 case fin=>
  rintro c a ⟨f,rfl,l,D,o,hq,F⟩;rw[show max n u=u from ω] at o hq F ⊢;exact h u f a l D L (Af _) o hq F
 case step=>
  rintro x c a O U ⟨f,rfl,l,D,o,hq,F⟩;dsimp only;have hsz:lo+x<=(arrOf a).size:=by rw[l.size];omega
  refine wpS_bind (oA C l ω ω ?_)
  by_cases e:R ρ (arrOf a) (lo+x)<R ρ (arrOf a) (lo+x-1)
  ·simp only[e,decide_true,if_true]
   have g:∀xs:Array Keyed,(∀k,R ρ xs k=R ρ (arrOf a) k)->mf ρ xs lo (lo+(x+1)):=by
    intro xs hk i j G H N;rw[hk,hk]
    by_cases v:j<lo+x
    ·exact o i j G H v
    ·have r:j=lo+x:=ω
     subst r
     by_cases y:i=lo+x
     ·subst y;exact QI _
     ·exact QZ (Q0 e) (o i (lo+x-1) G ω ω)
   by_cases q:f>0
   ·rw[Th q]
    refine wpS_bind (rq (wpS_pure ⟨0,rfl,l.setArr (mirror_perm _ _ _ _),D.trans (.mir hsz ω),g _ (ox hsz F),ω,fun i h1 h2=>by congr 1;omega⟩))
   ·rw[Ti q]
    exact wpS_pure ⟨0,rfl,l,D,g _ (fun _=>rfl),ω,fun i h1 h2=>by congr 1;omega⟩
  ·simp only[e,decide_false,Av,if_false]
   refine wpS_bind (oA C l ω ω ?_)
   by_cases d:R ρ (arrOf a) (lo+x-1)<R ρ (arrOf a) (lo+x)
   ·simp only[d,decide_true,if_true]
    exact wpS_pure (h x f a l D O ω o hq F)
   ·simp only[d,decide_false,Av,if_false]
    have p:R ρ (arrOf a) (lo+x)=R ρ (arrOf a) (lo+x-1):=ω
    refine wpS_pure ⟨f+1,rfl,l,D,fun i j G H N=>?_,ω,fun i h1 h2=>?_⟩
    ·by_cases v:j<lo+x
     ·exact o i j G H v
     ·have r:j=lo+x:=ω
      subst r
      by_cases y:i=lo+x
      ·subst y;exact QI _
      ·rw[p];exact o i (lo+x-1) G ω ω
    ·rw[show lo+(x+1)-1=lo+x from ω]
     by_cases M:i=lo+x
     ·subst M;rfl
     ·rw[p];exact F i ω ω
def FG(C:cW prog w A s κ a₀ ρ){st r:SortSt}{lo n c:Nat}{Q:Option Nat->SortSt->Prop}(f:lo+c<=a₀.size)(g:n+1<=c)(D:B κ a₀ st)(F:Pre lo r st)(G:mf ρ (arrOf st) lo (lo+(n+1)))(h:Got κ a₀ ρ lo c r Q):wpS (model prog w) A E s (oF lo n c) Q st:=by
 unfold oF;refine wpS_bind (wpS_lift (wpAny_rule ⟨rfl,?_⟩));refine wpS_bind (KM C f ω g D F G fun m u d e l H o p hq q=>?_);dsimp only;have hsz:lo+m<=(arrOf d).size:=by rw[e.size];omega
 by_cases a:u>0
 ·rw[Th a]
  refine wpS_bind (rq (FF C f ω o (e.setArr (mirror_perm _ _ _ _)) (l.trans (.mir hsz ω)) ?_ h));intro i j v x y;show R ρ (mirror (arrOf d) _ _ _) j<=R ρ (mirror (arrOf d) _ _ _) i;rw[ox hsz q,ox hsz q];exact p i j v x y
 ·rw[Ti a]
  exact FF C f ω o e l p h
def KO(C:cW prog w A s κ a₀ ρ){st:SortSt}{lo p:Nat}{Q:Option Nat->SortSt->Prop}(x:lo+p<=a₀.size)(h1:1<=p)(d:B κ a₀ st)(h:Got κ a₀ ρ lo p st Q):wpS (model prog w) A E s (countRun' lo p) Q st:=by
 rw[KJ];refine wpS_bind (FE C x (Af 1) h1 d (fun i j g D F=>by have:i=j:=ω;subst this;exact QI _) fun n G H r I=>?_);dsimp only
 by_cases e:n=p
 ·rw[Th (by simpa using e)]
  exact wpS_pure (h n st d .refl G H r)
 ·rw[Ti (by simpa using e)]
  have l:R ρ (arrOf st) (lo+n)<R ρ (arrOf st) (lo+n-1):=I.resolve_left e
  by_cases q:n>1
  ·rw[Th q]
   refine wpS_bind (oA C d ω ω ?_)
   by_cases c:R ρ (arrOf st) lo<R ρ (arrOf st) (lo+n-1)
   ·simp only[c,decide_true,if_true]
    exact wpS_pure (h n st d .refl G H r)
   ·simp only[c,decide_false,Av,if_false]
    have hsz:lo+n<=(arrOf st).size:=by rw[d.size];omega
    have a:∀k,lo<=k->k<lo+n->R ρ (arrOf st) k=R ρ (arrOf st) (lo+n-1):=by
     intro k g hk;have L:=r lo k ω g hk;have M:=r k (lo+n-1) g ω ω;omega
    refine wpS_bind (rq (FG C x ω (d.setArr (mirror_perm _ _ _ _)) (.mir hsz (Af _)) ?_ h));intro i j g D F;show R ρ (mirror (arrOf st) _ _ _) j<=R ρ (mirror (arrOf st) _ _ _) i;rw[ox hsz a,ox hsz a]
    by_cases y:j<lo+n
    ·rw[a i ω ω,a j ω y];exact QI _
    ·have u:j=lo+n:=ω
     subst u
     by_cases f:i=lo+n
     ·subst f;exact QI _
     ·rw[a i ω ω];exact Q0 l
  ·rw[Ti q]
   have o:n=1:=ω
   subst o;refine FG C x ω d .refl ?_ h;intro i j g D F
   by_cases f:i=j
   ·subst f;exact QI _
   ·have J:i=lo:=ω
    have v:j=lo+1:=ω
    subst J;subst v;exact Q0 l
def KP(C:cW prog w A s κ a₀ ρ){st:SortSt}{lo n ok:Nat}{Q:Bool->SortSt->Prop}(P:lo+n<=a₀.size)(L:ok<=n)(M:B κ a₀ st)(N:bM ρ (arrOf st) lo (lo+ok))(h:∀a,B κ a₀ a->Pre lo st a->bM ρ (arrOf a) lo (lo+n)->Q true a):wpS (model prog w) A E s (binarySort' lo n ok) Q st:=by
 rw[binarySort'_eq];refine wpS_bind (wpS_mono (wpS_forRange (I:=fun k c a=>c=(none,())/\B κ a₀ a/\Pre lo st a/\bM ρ (arrOf a) lo (lo+min k n))
  (Q:=fun c a=>c=(none,())/\B κ a₀ a/\Pre lo st a/\bM ρ (arrOf a) lo (lo+n)) ?step ?fin ?init) ?post)
 case post=>
  rintro c a ⟨rfl,g,q,f⟩;exact wpS_pure (h a g q f)
 case init=>
  refine⟨rfl,M,.refl,fun i j D F G=>?_⟩
  by_cases h1:ok=0
  ·have:i=j:=ω
   subst this;exact QI _
  ·exact N i j D F ω
 case fin=>
  rintro c a ⟨hc,g,q,f⟩;refine⟨hc,g,q,?_⟩
  rwa [show min (max (max ok 1) n) n=n from ω] at f
 case step=>
  rintro k c a S O ⟨rfl,g,q,f⟩;rw[show min k n=k from ω] at f;have hk:lo+k<a₀.size:=ω
  refine wpS_bind (wpS_mono (wpS_forRange (I:=fun x c e=>e=a/\∃l r,c=(none,l,r)/\l<=r/\r<=k/\r-l<=k-x/\
    (∀i,i<l->R ρ (arrOf a) (lo+i)<=R ρ (arrOf a) (lo+k))/\(∀i,r<=i->i<k->R ρ (arrOf a) (lo+k)<R ρ (arrOf a) (lo+i)))
   (Q:=fun c e=>e=a/\∃l r,c=(none,l,r)/\l<=k/\
    (∀i,i<l->R ρ (arrOf a) (lo+i)<=R ρ (arrOf a) (lo+k))/\(∀i,l<=i->i<k->R ρ (arrOf a) (lo+k)<R ρ (arrOf a) (lo+i))) ?istep ?ifin ?iinit) ?ipost)
  case iinit=>exact⟨rfl,0,k,rfl,ω,ω,ω,fun i hi=>ω,fun i h1 h2=>ω⟩
  case ifin=>
   rintro c e ⟨rfl,l,r,rfl,H,v,hm,o,p⟩;have:l=r:=ω
   subst this;exact⟨rfl,l,l,rfl,v,o,p⟩
  case istep=>
   rintro x c e _ T ⟨rfl,l,r,rfl,H,v,hm,o,p⟩;dsimp only
   by_cases u:l ≥ r
   ·rw[Th u]
    have:l=r:=ω
    subst this;exact wpS_pure ⟨rfl,l,l,rfl,v,o,p⟩
   ·rw[Ti u]
    refine wpS_bind (oA C g hk ω ?_)
    by_cases d:R ρ (arrOf e) (lo+k)<R ρ (arrOf e) (lo+(l+r) / 2)
    ·simp only[d,decide_true,if_true]
     refine wpS_pure ⟨rfl,l,(l+r) / 2,rfl,ω,ω,ω,o,fun i h1 h2=>?_⟩;exact Int.lt_of_lt_of_le d (f _ _ ω ω ω)
    ·simp only[d,decide_false,Av,if_false]
     refine wpS_pure ⟨rfl,(l+r) / 2+1,r,rfl,ω,ω,ω,fun i h1=>?_,p⟩;exact QZ (f (lo+i) (lo+(l+r) / 2) ω ω ω) (Int.not_lt.mp d)
  case ipost=>
   rintro c e ⟨rfl,l,r,rfl,U,o,p⟩;show wpS _ _ _ _ (do moveDown' (lo+k) (lo+l);pure (ForInStep.yield (none,()))) _ _;rw[moveDown'_eq];have y:lo+k<(arrOf e).size:=by rw[g.size];exact hk
   refine wpS_bind (wpS_modify (wpS_pure ⟨rfl,g.setArr (bubble_perm _ _ _),q.trans (.bub y ω ω),?_⟩));rw[show min (k+1) n=k+1 from ω];intro i j D F G;show R ρ (bubble (arrOf e) (lo+k) (lo+k-(lo+l))) i<=R ρ (bubble (arrOf e) (lo+k) (lo+k-(lo+l))) j;rw[FD y ω,FD y ω,show lo+k-(lo+k-(lo+l))=lo+l from ω];have q1:∀i,lo<=i->i<lo+l->R ρ (arrOf e) i<=R ρ (arrOf e) (lo+k):=fun i h1 h2=>by
    have:=o (i-lo) ω;rwa [show lo+(i-lo)=i from ω] at this
   have J:∀i,lo+l<=i->i<lo+k->R ρ (arrOf e) (lo+k)<R ρ (arrOf e) i:=fun i h1 h2=>by
    have:=p (i-lo) ω ω;rwa [show lo+(i-lo)=i from ω] at this
   repeat' split
   all_goals first
    |(exfalso;omega)
    |exact QI _
    |exact q1 _ ω ω
    |exact Q0 (J _ ω ω)
    |exact f _ _ ω ω ω
noncomputable def c5:Bool->Keyed->Array Keyed->Nat->Nat->Nat->StateT SortSt Sem (Option Nat):=sortPriv% PySem.Builtin.gallop
noncomputable def b_(left:Bool)(k r:Int):Bool:=if left=true then decide (r<k) else !decide (k<r)
def KQ{left:Bool}{k r a:Int}(h:a<=r)(hb:b_ left k r=true):b_ left k a=true:=by
 unfold b_ at *;cases left with
 |true=>simp at *;omega
 |false=>simp at *;omega
def rx(C:cW prog w A s κ a₀ ρ){st:SortSt}(a:B κ a₀ st){left:Bool}{key:Keyed}{arr:Array Keyed}{i:Nat}(hk:key∈a₀.toList)(ha:∃p,arr[i]?=some p/\p∈a₀.toList){Q:Option Bool->SortSt->Prop}(h:Q (some (b_ left (ρ key) (R ρ arr i))) st):wpS (model prog w) A E s (do
   let x <-elem' arr i
   if left=true then lt' x key
   else do
    let b <-lt' key x
    pure (Option.map (fun x=>!x) b)) Q st:=by
 obtain⟨p,e,hp⟩:=ha;rw[bx e] at h;refine wpS_bind (zL e ?_);cases left with
 |true=>
  rw[Th rfl];exact oy C a hp hk h
 |false=>
  rw[Ti An];exact wpS_bind (oy C a hk hp (wpS_pure h))
def mj(C:cW prog w A s κ a₀ ρ){st:SortSt}(L:B κ a₀ st){left:Bool}{key:Keyed}{arr:Array Keyed}{base n hint:Nat}{Q:Option Nat->SortSt->Prop}(hk:key∈a₀.toList)(ha:∀i,i<n->∃p,arr[base+i]?=some p/\p∈a₀.toList)(hs:∀i j,i<=j->j<n->R ρ arr (base+i)<=R ρ arr (base+j))(hh:hint<n)(h:∀k,k<=n->(∀i,i<k->b_ left (ρ key) (R ρ arr (base+i))=true)->(∀i,k<=i->i<n->b_ left (ρ key) (R ρ arr (base+i))=false)->Q (some k) st):wpS (model prog w) A E s (c5 left key arr base n hint) Q st:=by
 have up:∀i j,i<=j->j<n->b_ left (ρ key) (R ρ arr (base+j))=true->b_ left (ρ key) (R ρ arr (base+i))=true:=fun i j h1 h2=>KQ (hs i j h1 h2);have N:∀i j,i<=j->j<n->b_ left (ρ key) (R ρ arr (base+i))=false->b_ left (ρ key) (R ρ arr (base+j))=false:=fun i j h1 h2 e=>by
  cases q:b_ left (ρ key) (R ρ arr (base+j)) with
  |false=>rfl
  |true=>rw[up i j h1 h2 q] at e;cases e
 have G:∀(d:SortSt)(f:Nat->Option (Option Nat)×Nat×Nat->StateT SortSt Sem (ForInStep (Option (Option Nat)×Nat×Nat)))(lo hi:Nat),d=st->lo<=hi->hi<=n->(∀i,i<lo->b_ left (ρ key) (R ρ arr (base+i))=true)->(∀i,hi<=i->i<n->b_ left (ρ key) (R ρ arr (base+i))=false)->
   (∀x lo hi(H:ForInStep (Option (Option Nat)×Nat×Nat)->SortSt->Prop),(lo ≥ hi->H (.done (none,lo,hi)) st)->(lo<hi->hi<=n->H (.yield (if b_ left (ρ key) (R ρ arr (base+(lo+(hi-lo) / 2)))=true then(none,lo+(hi-lo) / 2+1,hi) else(none,lo,lo+(hi-lo) / 2))) st)->hi<=n->wpS (model prog w) A E s (f x (none,lo,hi)) H st)->
   wpS (model prog w) A E s (forIn [0:n] (none,lo,hi) f) (fun c d=>d=st/\c.1=none/\Q (some c.2.2) st) d:=by
  intro d f lo hi O h1 h2 P S hf;subst O;refine wpS_forRange (I:=fun x c J=>J=d/\∃l r,c=(none,l,r)/\l<=r/\r<=n/\r-l<=n-x/\(∀i,i<l->b_ left (ρ key) (R ρ arr (base+i))=true)/\(∀i,r<=i->i<n->b_ left (ρ key) (R ρ arr (base+i))=false)) ?step ?fin ⟨rfl,lo,hi,rfl,h1,h2,ω,P,S⟩
  case fin=>
   rintro c J ⟨rfl,l,r,rfl,u,F,v,g,D⟩;have:l=r:=ω
   subst this;exact⟨rfl,rfl,h l F g D⟩
  case step=>
   rintro x c J _ hx ⟨rfl,l,r,rfl,u,F,v,g,D⟩;refine hf x l r _ (fun a=>?_) (fun T hr=>?_) F
   ·have:l=r:=ω
    subst this;exact⟨rfl,rfl,h l F g D⟩
   ·cases q:b_ left (ρ key) (R ρ arr (base+(l+(r-l) / 2))) with
    |true=>exact⟨rfl,_,_,by rw[Th rfl],ω,ω,ω,fun i hi=>up i _ ω ω q,D⟩
    |false=>exact⟨rfl,_,_,by rw[Ti An],ω,ω,ω,g,fun i h1 h2=>N _ i h1 h2 q⟩
 have body:∀(x lo hi:Nat)(H:ForInStep (Option (Option Nat)×Nat×Nat)->SortSt->Prop),(lo ≥ hi->H (.done (none,lo,hi)) st)->(lo<hi->hi<=n->H (.yield (if b_ left (ρ key) (R ρ arr (base+(lo+(hi-lo) / 2)))=true then(none,lo+(hi-lo) / 2+1,hi) else(none,lo,lo+(hi-lo) / 2))) st)->hi<=n->
   wpS (model prog w) A E s (if lo ≥ hi then pure (ForInStep.done (none,lo,hi)) else(do
    let x <-elem' arr (base+(lo+(hi-lo) / 2))
    if left=true then lt' x key
    else do
     let b <-lt' key x
     pure (Option.map (fun x=>!x) b)) >>= fun y=>match y with
    |some more=>if more=true then pure (ForInStep.yield (none,lo+(hi-lo) / 2+1,hi)) else pure (ForInStep.yield (none,lo,lo+(hi-lo) / 2))
    |x=>pure (ForInStep.done (some none,lo,hi))) H st:=by
  intro x lo hi H q1 U W
  by_cases a:lo ≥ hi
  ·rw[Th a]
   exact wpS_pure (q1 a)
  ·rw[Ti a]
   have q:=U ω W;refine wpS_bind (rx C L hk (ha _ ω) ?_);cases e:b_ left (ρ key) (R ρ arr (base+(lo+(hi-lo) / 2))) with
   |true=>
    rw[e,Th rfl] at q;simp only[if_true];exact wpS_pure q
   |false=>
    rw[e,Ti An] at q;simp only[Av,if_false];exact wpS_pure q
 refine wpS_bind ?_;refine rx C L hk (ha hint hh) ?_;cases right:b_ left (ρ key) (R ρ arr (base+hint)) with
 |true=>
  dsimp only;rw[Th rfl];refine wpS_bind (wpS_mono (wpS_forRange (I:=fun x c d=>d=st/\∃l o,c=(none,l,o)/\l<o/\x+1<=o/\hint+l<n/\b_ left (ρ key) (R ρ arr (base+(hint+l)))=true)
   (Q:=fun c d=>d=st/\∃l o,c=(none,l,o)/\l<o/\hint+l<n/\b_ left (ρ key) (R ρ arr (base+(hint+l)))=true/\(n-hint<=o\/(hint+o<n/\b_ left (ρ key) (R ρ arr (base+(hint+o)))=false))) ?step ?fin ⟨rfl,0,1,rfl,ω,ω,ω,right⟩) ?post)
  case fin=>
   rintro c d ⟨rfl,l,o,rfl,u,F,v,g⟩;exact⟨rfl,l,o,rfl,u,v,g,.inl ω⟩
  case step=>
   rintro x c d _ hx ⟨rfl,l,o,rfl,u,F,v,g⟩;dsimp only
   by_cases a:o ≥ n-hint
   ·rw[Th a]
    exact wpS_pure ⟨rfl,l,o,rfl,u,v,g,.inl a⟩
   ·rw[Ti a]
    refine wpS_bind (rx C L hk (ha _ ω) ?_);cases e:b_ left (ρ key) (R ρ arr (base+(hint+o))) with
    |true=>
     simp only[QV,Av,if_false];exact wpS_pure ⟨rfl,o,2*o+1,rfl,ω,ω,ω,e⟩
    |false=>
     simp only[Bool.not_false,if_true];exact wpS_pure ⟨rfl,l,o,rfl,u,v,g,.inr ⟨ω,e⟩⟩
  case post=>
   rintro c d ⟨rfl,l,o,rfl,u,v,g,D⟩;dsimp only;refine wpS_bind (wpS_mono (G _ _ _ _ rfl ω ω (fun i hi=>up i _ ω ω g) (fun i h1 h2=>?_) body) ?fin2)
   case fin2=>rintro⟨X,Y,c3⟩ J ⟨rfl,e,q⟩;dsimp only at e q ⊢;subst e;exact wpS_pure q
   rcases D with D|⟨D,M⟩
   ·omega
   ·exact N _ i ω h2 M
 |false=>
  dsimp only;rw[Ti An];refine wpS_bind (wpS_mono (wpS_forRange (I:=fun x c d=>d=st/\∃l o,c=(none,l,o)/\l<o/\x+1<=o/\l<=hint/\b_ left (ρ key) (R ρ arr (base+(hint-l)))=false)
   (Q:=fun c d=>d=st/\∃l o,c=(none,l,o)/\l<o/\l<=hint/\b_ left (ρ key) (R ρ arr (base+(hint-l)))=false/\(hint+1<=o\/(o<=hint/\b_ left (ρ key) (R ρ arr (base+(hint-o)))=true))) ?step ?fin ⟨rfl,0,1,rfl,ω,ω,ω,right⟩) ?post)
  case fin=>
   rintro c d ⟨rfl,l,o,rfl,u,F,v,g⟩;exact⟨rfl,l,o,rfl,u,v,g,.inl ω⟩
  case step=>
   rintro x c d _ hx ⟨rfl,l,o,rfl,u,F,v,g⟩;dsimp only
   by_cases a:o ≥ hint+1
   ·rw[Th a]
    exact wpS_pure ⟨rfl,l,o,rfl,u,v,g,.inl a⟩
   ·rw[Ti a]
    refine wpS_bind (rx C L hk (ha _ ω) ?_);cases e:b_ left (ρ key) (R ρ arr (base+(hint-o))) with
    |true=>
     simp only[if_true];exact wpS_pure ⟨rfl,l,o,rfl,u,v,g,.inr ⟨ω,e⟩⟩
    |false=>
     simp only[Av,if_false];exact wpS_pure ⟨rfl,o,2*o+1,rfl,ω,ω,ω,e⟩
  case post=>
   rintro c d ⟨rfl,l,o,rfl,u,v,g,D⟩;dsimp only;refine wpS_bind (wpS_mono (G _ _ _ _ rfl ω ω (fun i hi=>?_) (fun i h1 h2=>N _ i ω h2 g) body) ?fin2)
   case fin2=>rintro⟨X,Y,c3⟩ J ⟨rfl,e,q⟩;dsimp only at e q ⊢;subst e;exact wpS_pure q
   rcases D with D|⟨D,M⟩
   ·omega
   ·exact up i _ ω ω M
end
abbrev Le(ρ:Keyed->Int)(l:List Keyed):Prop:=l.Pairwise fun x y=>ρ x<=ρ y
structure MI(ρ:Keyed->Int)(la lb out ra rb:List Keyed):Prop where
 perm:(out++(ra++rb)).Perm (la++lb)
 so:Le ρ out
 sa:Le ρ ra
 sb:Le ρ rb
 oa:∀x∈out,∀y∈ra,ρ x<=ρ y
 ob:∀x∈out,∀y∈rb,ρ x<=ρ y
def MI.takeA{ρ:Keyed->Int}{f g out a i c:List Keyed}(h:MI ρ f g out (a++i) c)(hb:∀x∈a,∀y∈c,ρ x<=ρ y):MI ρ f g (out++a) i c:=by
 obtain⟨p,so,j,sb,e,ob⟩:=h;have d:=Qq.mp j;refine⟨by simpa[A1] using p,Qq.mpr ⟨so,d.1,fun x hx y hy=>e x hx y (AR _ hy)⟩,d.2.1,sb,fun x hx y hy=>?_,fun x hx y hy=>?_⟩
 ·rcases Qm.mp hx with hx|hx
  ·exact e x hx y (AG _ hy)
  ·exact d.2.2 x hx y hy
 ·rcases Qm.mp hx with hx|hx
  ·exact ob x hx y hy
  ·exact hb x hx y hy
def MI.takeB{ρ:Keyed->Int}{e f out a c g:List Keyed}(h:MI ρ e f out c (a++g))(hb:∀x∈a,∀y∈c,ρ x<=ρ y):MI ρ e f (out++a) c g:=by
 obtain⟨p,so,i,sb,j,ob⟩:=h;have d:=Qq.mp sb;refine⟨?_,Qq.mpr ⟨so,d.1,fun x hx y hy=>ob x hx y (AR _ hy)⟩,i,d.2.1,fun x hx y hy=>?_,fun x hx y hy=>?_⟩
 ·refine List.Perm.trans ?_ p
  rw[A1];refine List.Perm.append_left _ ?_;rw[<-A1,<-A1];exact List.Perm.append_right _ Sz
 ·rcases Qm.mp hx with hx|hx
  ·exact j x hx y hy
  ·exact hb x hx y hy
 ·rcases Qm.mp hx with hx|hx
  ·exact ob x hx y (AG _ hy)
  ·exact d.2.2 x hx y hy
def MI.doneA{ρ:Keyed->Int}{d f out c a:List Keyed}(h:MI ρ d f out c a)(e:a=[]):((out++c)++a).Perm (d++f)/\Le ρ ((out++c)++a):=by
 subst e;refine⟨by simpa[A1] using h.perm,?_⟩;rw[QD];exact Qq.mpr ⟨h.so,h.sa,h.oa⟩
def MI.lastA{ρ:Keyed->Int}{d e out c a:List Keyed}(h:MI ρ d e out c a)(hz:∀x∈a,∀y∈c,ρ x<=ρ y):((out++a)++c).Perm (d++e)/\Le ρ ((out++a)++c):=by
 have h2:=(show MI ρ d e out c (a++[]) by rw[QD];exact h).takeB hz;refine⟨by simpa using h2.perm,Qq.mpr ⟨h2.so,h2.sa,h2.oa⟩⟩
def FH{xs:Array Keyed}{i:Nat}{p:Keyed}(h:xs[i]?=some p):xs.toList.drop i=[p]++xs.toList.drop (i+1):=by
 have h':xs.toList[i]?=some p:=by simpa using h
 obtain⟨hi,e⟩:=KK.mp h';rw[Rl hi,e]
 rfl
def rz{xs:Array Keyed}(i k:Nat):xs.toList.drop i=(xs.extract i (i+k)).toList++xs.toList.drop (i+k):=by
 rw[RO,Rn,Nat.add_sub_cancel_left,<-List.drop_drop,QS]
def km{xs:Array Keyed}{i:Nat}{y:Keyed}(h:y∈xs.toList.drop i):∃j,i+j<xs.size/\xs[i+j]?=some y:=by
 obtain⟨j,a,e⟩:=Rq.mp h;rw[QE,AE] at a;refine⟨j,ω,?_⟩;rw[List.getElem_drop] at e;rw[getElem?_pos xs (i+j) ω,<-e];simp
def FI{xs:Array Keyed}{i k:Nat}{y:Keyed}(h:y∈(xs.extract i (i+k)).toList):∃j,j<k/\i+j<xs.size/\xs[i+j]?=some y:=by
 obtain⟨j,a,e⟩:=Rq.mp h;rw[AE,Ry] at a;refine⟨j,ω,ω,?_⟩;rw[getElem?_pos xs (i+j) ω,<-e];simp
def rA(xs:Array Keyed)(i:Nat):(xs.extract i).toList=xs.toList.drop i:=by
 rw[RO,Rn,As (by simp)]
def at_of{xs:Array Keyed}{i:Nat}(h:i<xs.size):∃p,xs[i]?=some p:=⟨xs[i],getElem?_pos _ i h⟩
def fg{xs:Array Keyed}{i:Nat}{p:Keyed}(h:xs[i]?=some p):p∈xs.toList:=by
 obtain⟨hi,rfl⟩:=RP.mp h;simp
def ip{ρ:Keyed->Int}{xs:Array Keyed}(d:Le ρ xs.toList){i j:Nat}{p q:Keyed}(h1:xs[i]?=some p)(h2:xs[j]?=some q)(c:i<=j):ρ p<=ρ q:=by
 obtain⟨hi,rfl⟩:=RP.mp h1;obtain⟨a,rfl⟩:=RP.mp h2;rcases Nat.lt_or_eq_of_le c with h|h
 ·have:=Qu.mp d i j (by simpa using hi) (by simpa using a) h
  simpa using this
 ·subst h;exact QI _
def iU{ρ:Keyed->Int}{xs:Array Keyed}(a:Le ρ xs.toList){i j:Nat}(c:i<=j)(d:j<xs.size):R ρ xs i<=R ρ xs j:=by
 obtain⟨p,e1⟩:=at_of (xs:=xs) (i:=i) ω;obtain⟨q,e2⟩:=at_of d;rw[bx e1,bx e2];exact ip a e1 e2 c
structure Sm(st ab:SortSt):Prop where
 arr:arrOf ab=arrOf st
 pend:AF ab=AF st
 kind:kindOf ab=kindOf st
 failed:failedOf ab=failedOf st
def Sm.refl{st:SortSt}:Sm st st:=⟨rfl,rfl,rfl,rfl⟩
def Sm.trans{a b c:SortSt}(x:Sm a b)(y:Sm b c):Sm a c:=⟨y.arr.trans x.arr,y.pend.trans x.pend,y.kind.trans x.kind,y.failed.trans x.failed⟩
def Sm.b{κ:SortKind}{a₀:Array Keyed}{st a:SortSt}(x:Sm st a)(h:B κ a₀ st):B κ a₀ a:=⟨by rw[x.arr];exact h.perm,x.kind.trans h.kind,x.failed.trans h.failed⟩
noncomputable def oG:Nat->StateT SortSt Sem Unit:=sortPriv% PySem.Builtin.setMinGallop
noncomputable def FJ:Array Keyed->Array Keyed->StateT SortSt Sem (Array Keyed):=sortPriv% PySem.Builtin.mergeLo
noncomputable def FK:Array Keyed->Array Keyed->StateT SortSt Sem (Array Keyed):=sortPriv% PySem.Builtin.mergeHi
section
variable{prog:Program}{w:World}{A:Around}{E:Ω}{s:Shared}{κ:SortKind}{a₀:Array Keyed}{ρ:Keyed->Int}
def rC{st:SortSt}{g:Nat}{Q:Unit->SortSt->Prop}(h:∀a,Sm st a->Q () a):wpS (model prog w) A E s (oG g) Q st:=by
 refine wpS_modify (h _ ?_);exact⟨rfl,rfl,rfl,rfl⟩
abbrev bY(ρ:Keyed->Int)(a b:Array Keyed)(st:SortSt)(r:Array Keyed)(ab:SortSt):Prop:=Sm st ab/\r.toList.Perm (a.toList++b.toList)/\Le ρ r.toList
structure Jn(ρ:Keyed->Int)(a b:Array Keyed)(out:Array Keyed)(ia ib:Nat):Prop where
 mi:MI ρ a.toList b.toList out.toList (a.toList.drop ia) (b.toList.drop ib)
 la:ia+1<a.size
 lb:ib<b.size
def MI.pushB{ρ:Keyed->Int}{a b out:Array Keyed}{c d:Nat}{y:Keyed}(h:MI ρ a.toList b.toList out.toList (a.toList.drop c) (b.toList.drop d))(e:b[d]?=some y)(hy:∀x∈a.toList.drop c,ρ y<=ρ x):MI ρ a.toList b.toList (out.push y).toList (a.toList.drop c) (b.toList.drop (d+1)):=by
 rw[FH e] at h;rw[RG];exact h.takeB fun x hx z hz=>by rw[Ql.mp hx];exact hy z hz
def MI.pushA{ρ:Keyed->Int}{a b out:Array Keyed}{d c:Nat}{x:Keyed}(h:MI ρ a.toList b.toList out.toList (a.toList.drop d) (b.toList.drop c))(e:a[d]?=some x)(hy:∀y∈b.toList.drop c,ρ x<=ρ y):MI ρ a.toList b.toList (out.push x).toList (a.toList.drop (d+1)) (b.toList.drop c):=by
 rw[FH e] at h;rw[RG];exact h.takeA fun z hz y hy'=>by rw[Ql.mp hz];exact hy y hy'
def MI.blkA{ρ:Keyed->Int}{a b out:Array Keyed}{c d:Nat}(k:Nat)(h:MI ρ a.toList b.toList out.toList (a.toList.drop c) (b.toList.drop d))(hy:∀x∈(a.extract c (c+k)).toList,∀y∈b.toList.drop d,ρ x<=ρ y):MI ρ a.toList b.toList (out++a.extract c (c+k)).toList (a.toList.drop (c+k)) (b.toList.drop d):=by
 rw[rz c k] at h;rw[A9];exact h.takeA hy
def MI.blkB{ρ:Keyed->Int}{a b out:Array Keyed}{d c:Nat}(k:Nat)(h:MI ρ a.toList b.toList out.toList (a.toList.drop d) (b.toList.drop c))(hy:∀x∈(b.extract c (c+k)).toList,∀y∈a.toList.drop d,ρ x<=ρ y):MI ρ a.toList b.toList (out++b.extract c (c+k)).toList (a.toList.drop d) (b.toList.drop (c+k)):=by
 rw[rz c k] at h;rw[A9];exact h.takeB hy
def MI.fin{ρ:Keyed->Int}{a b out:Array Keyed}{d c:Nat}(h:MI ρ a.toList b.toList out.toList (a.toList.drop d) (b.toList.drop c))(e:b.size<=c):(out++a.extract d++b.extract c).toList.Perm (a.toList++b.toList)/\Le ρ (out++a.extract d++b.extract c).toList:=by
 rw[A9,A9,rA,rA];exact h.doneA (List.drop_eq_nil_of_le (by simpa using e))
def MI.finL{ρ:Keyed->Int}{a b out:Array Keyed}{d c:Nat}(h:MI ρ a.toList b.toList out.toList (a.toList.drop d) (b.toList.drop c))(hz:∀x∈b.toList.drop c,∀y∈a.toList.drop d,ρ x<=ρ y):(out++b.extract c++a.extract d).toList.Perm (a.toList++b.toList)/\Le ρ (out++b.extract c++a.extract d).toList:=by
 rw[A9,A9,rA,rA];exact h.lastA hz
abbrev TC:=Option (Array Keyed)×Array Keyed×Nat×Nat×Nat×Nat×Nat
def GQ(ρ:Keyed->Int)(a b:Array Keyed)(st:SortSt)(N:Nat):ForInStep TC->SortSt->Prop:=fun r e=>match r with
 |.done c'=>(∃r,c'.1=some r/\bY ρ a b st r e)\/Sm st e/\∃out c d mg f g,c'=(none,out,c,d,mg,f,g)/\Jn ρ a b out c d/\N<=c+d
 |.yield c'=>Sm st e/\∃out c d mg f g,c'=(none,out,c,d,mg,f,g)/\Jn ρ a b out c d/\N<=c+d
noncomputable def CC(a b o:Array Keyed)(i j mg k l:Nat):StateT SortSt Sem (ForInStep TC):=elem' a i >>= fun z=>if(i+1+1==a.size)=true then pure (.done (some (o.push z++b.extract j++a.extract (i+1)),o.push z,i+1,j,mg,k,l)) else if(decide (k<7)&&decide (l<7))=true then pure (.done (none,o.push z,i+1,j,mg,k,l)) else pure (.yield (none,o.push z,i+1,j,mg,k,l))
noncomputable def CD(a b o:Array Keyed)(i j mg k c:Nat):StateT SortSt Sem (ForInStep TC):=elem' b j >>= fun y=>if(j+1==b.size)=true then pure (.done (some (o.push y++a.extract i++b.extract (j+1)),o.push y,i,j+1,mg,k,c)) else elem' a i >>= fun x=>c5 true x b (j+1) (b.size-(j+1)) 0 >>= fun g=>match g with
 |some l=>if l>0 then(if(j+1+l==b.size)=true then pure (.done (some (o.push y++b.extract (j+1) (j+1+l)++a.extract i++b.extract (j+1+l)),o.push y++b.extract (j+1) (j+1+l),i,j+1+l,mg,k,l)) else CC a b (o.push y++b.extract (j+1) (j+1+l)) i (j+1+l) mg k l) else CC a b (o.push y) i (j+1) mg k l
 |_=>pure (.done (some (o.push y++a.extract i++b.extract (j+1)),o.push y,i,j+1,mg,k,c))
def FM{st f:SortSt}{a b o:Array Keyed}{i j mg k l N:Nat}{x:Keyed}(S:Sm st f)(M:MI ρ a.toList b.toList o.toList (a.toList.drop i) (b.toList.drop j))(ex:a[i]?=some x)(e:∀y∈b.toList.drop j,ρ x<=ρ y)(h:∀i j,a.size<=i+1->∀x∈b.toList.drop j,∀y∈a.toList.drop i,ρ x<=ρ y)(h1:i+1<a.size)(h2:j<b.size)(p:N<=i+j):wpS (model prog w) A E s (CC a b o i j mg k l) (GQ ρ a b st N) f:=by
 refine wpS_bind (zL ex ?_);have M4:=M.pushA ex e
 by_cases c:(i+1+1==a.size)=true
 ·rw[Th c]
  have d:i+1+1=a.size:=by simpa using c
  exact wpS_pure (.inl ⟨_,rfl,S,M4.finL (h _ _ ω)⟩)
 rw[Ti c];have d:i+1+1≠a.size:=by simpa using c
 by_cases g:(decide (k<7)&&decide (l<7))=true
 ·rw[Th g]
  exact wpS_pure (.inr ⟨S,_,_,_,_,_,_,rfl,⟨M4,ω,ω⟩,ω⟩)
 ·rw[Ti g]
  exact wpS_pure ⟨S,_,_,_,_,_,_,rfl,⟨M4,ω,ω⟩,ω⟩
def FN(C:cW prog w A s κ a₀ ρ){st H:SortSt}(U:B κ a₀ st){a b o:Array Keyed}{i j mg k W N:Nat}{y:Keyed}(ha:∀p∈a.toList,p∈a₀.toList)(hb:∀p∈b.toList,p∈a₀.toList)(X:Le ρ a.toList)(sb:Le ρ b.toList)(S:Sm st H)(M:MI ρ a.toList b.toList o.toList (a.toList.drop i) (b.toList.drop j))(I:b[j]?=some y)(after:∀x∈a.toList.drop i,ρ y<=ρ x)(J:∀i j,a.size<=i+1->∀x∈b.toList.drop j,∀y∈a.toList.drop i,ρ x<=ρ y)(h1:i+1<a.size)(h2:j<b.size)(hN:N<=i+j):wpS (model prog w) A E s (CD a b o i j mg k W) (GQ ρ a b st N) H:=by
 refine wpS_bind (zL I ?_);have M2:=M.pushB I after
 by_cases h:(j+1==b.size)=true
 ·rw[Th h]
  have r:j+1=b.size:=by simpa using h
  exact wpS_pure (.inl ⟨_,rfl,S,M2.fin ω⟩)
 rw[Ti h];have r:j+1≠b.size:=by simpa using h
 obtain⟨x,ex⟩:=at_of (xs:=a) (i:=i) ω;refine wpS_bind (zL ex ?_);refine wpS_bind (mj C (S.b U) (ha _ (fg ex)) (fun l Y=>?_) (fun l m h1 h2=>iU sb ω ω) ω fun l l1 L O=>?_)
 ·obtain⟨p,e⟩:=at_of (xs:=b) (i:=j+1+l) ω
  exact⟨p,e,hb _ (fg e)⟩
 dsimp only;have c:∀y∈b.toList.drop (j+1+l),ρ x<=ρ y:=fun u hu=>by
  obtain⟨d,F,G⟩:=km hu;have q1:=O (l+d) ω ω;rw[show j+1+(l+d)=j+1+l+d from ω,bx G] at q1;simp[b_] at q1;omega
 by_cases g:l>0
 ·rw[Th g]
  have M3:=M2.blkB l fun u hu v P=>by
   obtain⟨d,F,G,Q⟩:=FI hu;obtain⟨f,f1,f2⟩:=km P;have q1:=L d F;rw[bx Q] at q1;simp[b_] at q1;exact QZ (Q0 q1) (ip X ex f2 ω)
  by_cases q:(j+1+l==b.size)=true
  ·rw[Th q]
   have D:j+1+l=b.size:=by simpa using q
   exact wpS_pure (.inl ⟨_,rfl,S,M3.fin ω⟩)
  rw[Ti q];have D:j+1+l≠b.size:=by simpa using q
  exact FM S M3 ex c J h1 ω ω
 ·rw[Ti g]
  have T:l=0:=ω
  rw[T] at c;exact FM S M2 ex c J h1 ω ω
noncomputable def rF(a b o:Array Keyed)(i j mg d c:Nat):StateT SortSt Sem (ForInStep TC):=oG mg >>= fun _=>elem' b j >>= fun y=>c5 false y a i (a.size-i) 0 >>= fun g=>match g with
 |some k=>if k>0 then(if(i+k+1==a.size)=true then pure (.done (some (o++a.extract i (i+k)++b.extract j++a.extract (i+k)),o++a.extract i (i+k),i+k,j,mg,k,c)) else if(i+k==a.size)=true then pure (.done (some (o++a.extract i (i+k)++a.extract (i+k)++b.extract j),o++a.extract i (i+k),i+k,j,mg,k,c)) else CD a b (o++a.extract i (i+k)) (i+k) j mg k c) else CD a b o i j mg k c
 |_=>pure (.done (some (o++a.extract i++b.extract j),o,i,j,mg,d,c))
def KR(C:cW prog w A s κ a₀ ρ){st M:SortSt}(D:B κ a₀ st){a b out:Array Keyed}{i j mg U W N:Nat}{y z:Keyed}(ha:∀p∈a.toList,p∈a₀.toList)(hb:∀p∈b.toList,p∈a₀.toList)(F:Le ρ a.toList)(sb:Le ρ b.toList)(S2:Sm st M)(J2:Jn ρ a b out i j)(c:b[j]?=some y)(O:a[a.size-1]?=some z)(hz:∀z,a[a.size-1]?=some z->∀y∈b.toList,ρ y<ρ z)(G:∀i j,a.size<=i+1->∀x∈b.toList.drop j,∀y∈a.toList.drop i,ρ x<=ρ y)(bO:N<=i+j):wpS (model prog w) A E s (rF a b out i j mg U W) (GQ ρ a b st N) M:=by
 have T:=J2.la;have L:=J2.lb;refine wpS_bind (rC fun X o=>?_);refine wpS_bind (zL c ?_);refine wpS_bind (mj C ((S2.trans o).b D) (hb _ (fg c)) (fun k hk=>?_) (fun k l h1 h2=>iU F ω ω) ω fun k Y H P=>?_)
 ·obtain⟨p,e⟩:=at_of (xs:=a) (i:=i+k) ω
  exact⟨p,e,ha _ (fg e)⟩
 dsimp only;have kz:i+k<a.size:=by
  rcases Rj (i+k) a.size with q|q
  ·exact q
  ·have q1:=H (a.size-1-i) ω
   rw[show i+(a.size-1-i)=a.size-1 from ω,bx O] at q1;have q2:=hz _ O y (fg c);simp[b_] at q1;omega
 have after:∀x∈a.toList.drop (i+k),ρ y<=ρ x:=fun u hu=>by
  obtain⟨d,I,J⟩:=km hu;have q1:=P (k+d) ω ω;rw[show i+(k+d)=i+k+d from ω,bx J] at q1;simp[b_] at q1;omega
 by_cases g:k>0
 ·rw[Th g]
  have MB:=J2.mi.blkA k fun u hu v Q=>by
   obtain⟨d,I,J,S⟩:=FI hu;obtain⟨f,f1,f2⟩:=km Q;have q1:=H d I;rw[bx S] at q1;simp[b_] at q1;exact QZ q1 (ip sb c f2 ω)
  by_cases h:(i+k+1==a.size)=true
  ·rw[Th h]
   have r:i+k+1=a.size:=by simpa using h
   exact wpS_pure (.inl ⟨_,rfl,S2.trans o,MB.finL (G _ _ ω)⟩)
  rw[Ti h];have r:i+k+1≠a.size:=by simpa using h
  rw[Ti (show ¬(i+k==a.size)=true by simp;omega)];exact FN C D ha hb F sb (S2.trans o) MB c after G ω L ω
 ·rw[Ti g]
  have k0:k=0:=ω
  rw[k0] at after;exact FN C D ha hb F sb (S2.trans o) J2.mi c after G T L ω
abbrev IC:=Option (Array Keyed)×Array Keyed×Nat×Nat×Nat×Nat
abbrev OC:=Option (Array Keyed)×Array Keyed×Nat×Nat×Nat
noncomputable def FO:SortSt->Nat:=sortPriv% PySem.Builtin.SortState.minGallop
noncomputable def kn(a b:Array Keyed)(mg:Nat):Nat->IC->StateT SortSt Sem (ForInStep IC):=fun _ c=>elem' b c.2.2.2.1 >>= fun y=>elem' a c.2.2.1 >>= fun x=>lt' y x >>= fun q=>match q with
 |some r=>if r=true then elem' b c.2.2.2.1 >>= fun z=>(if(c.2.2.2.1+1==b.size)=true then pure (.done (some (c.2.1.push z++a.extract c.2.2.1++b.extract (c.2.2.2.1+1)),c.2.1.push z,c.2.2.1,c.2.2.2.1+1,0,c.2.2.2.2.2+1)) else if c.2.2.2.2.2+1 ≥ mg then pure (.done (none,c.2.1.push z,c.2.2.1,c.2.2.2.1+1,0,c.2.2.2.2.2+1)) else pure (.yield (none,c.2.1.push z,c.2.2.1,c.2.2.2.1+1,0,c.2.2.2.2.2+1)))
  else elem' a c.2.2.1 >>= fun z=>(if(c.2.2.1+1+1==a.size)=true then pure (.done (some (c.2.1.push z++b.extract c.2.2.2.1++a.extract (c.2.2.1+1)),c.2.1.push z,c.2.2.1+1,c.2.2.2.1,c.2.2.2.2.1+1,0)) else if c.2.2.2.2.1+1 ≥ mg then pure (.done (none,c.2.1.push z,c.2.2.1+1,c.2.2.2.1,c.2.2.2.2.1+1,0)) else pure (.yield (none,c.2.1.push z,c.2.2.1+1,c.2.2.2.1,c.2.2.2.2.1+1,0)))
 |_=>pure (.done (some (c.2.1++a.extract c.2.2.1++b.extract c.2.2.2.1),c.2.1,c.2.2.1,c.2.2.2.1,c.2.2.2.2.1,c.2.2.2.2.2))
noncomputable def kq(a b:Array Keyed):Nat->TC->StateT SortSt Sem (ForInStep TC):=fun _ c=>if c.2.2.2.2.1>1 then rF a b c.2.1 c.2.2.1 c.2.2.2.1 (c.2.2.2.2.1-1) c.2.2.2.2.2.1 c.2.2.2.2.2.2 else rF a b c.2.1 c.2.2.1 c.2.2.2.1 c.2.2.2.2.1 c.2.2.2.2.2.1 c.2.2.2.2.2.2
noncomputable def CF(a b:Array Keyed):Nat->OC->StateT SortSt Sem (ForInStep OC):=fun _ c=>forIn [:a.size+b.size] ((none,c.2.1,c.2.2.1,c.2.2.2.1,0,0):IC) (kn a b c.2.2.2.2) >>= fun d=>match d.1 with
 |some r=>pure (.done (some r,d.2.1,d.2.2.1,d.2.2.2.1,c.2.2.2.2))
 |none=>liftM (PySem.rule "list.sort.gallop") >>= fun _=>forIn [:a.size+b.size] ((none,d.2.1,d.2.2.1,d.2.2.2.1,c.2.2.2.2+1,d.2.2.2.2.1,d.2.2.2.2.2):TC) (kq a b) >>= fun e=>match e.1 with
  |some r=>pure (.done (some r,e.2.1,e.2.2.1,e.2.2.2.1,e.2.2.2.2.1))
  |none=>oG (e.2.2.2.2.1+1) >>= fun _=>pure (.yield (none,e.2.1,e.2.2.1,e.2.2.2.1,e.2.2.2.2.1+1))
noncomputable def FP(a b:Array Keyed):StateT SortSt Sem (Array Keyed):=liftM (PySem.rule "list.sort.merge-lo") >>= fun _=>elem' b 0 >>= fun y=>if(1==b.size)=true then pure (#[y]++a.extract 0++b.extract 1) else if(0+1==a.size)=true then pure (#[y]++b.extract 1++a.extract 0) else get >>= fun g=>forIn [:a.size+b.size] ((none,#[y],0,1,FO g):OC) (CF a b) >>= fun d=>match d.1 with
 |some r=>pure r
 |none=>liftM (unsupported "internal:list.sort.merge-bound":Sem (Array Keyed))
def KS(a b:Array Keyed):FJ a b=FP a b:=by kernel_rfl
def II(ρ:Keyed->Int)(a b:Array Keyed)(i:SortSt)(N:Nat):Nat->IC->SortSt->Prop:=fun t c f=>f=i/\∃out d e g h,c=(none,out,d,e,g,h)/\Jn ρ a b out d e/\N+t<=d+e
def IQ(ρ:Keyed->Int)(a b:Array Keyed)(st i:SortSt)(N:Nat):IC->SortSt->Prop:=fun c f=>f=i/\((∃r,c.1=some r/\bY ρ a b st r f)\/∃out d e g h,c=(none,out,d,e,g,h)/\Jn ρ a b out d e/\N+1<=d+e)
def OI(ρ:Keyed->Int)(a b:Array Keyed)(st:SortSt):Nat->OC->SortSt->Prop:=fun x c f=>Sm st f/\∃out d e mg,c=(none,out,d,e,mg)/\Jn ρ a b out d e/\x+1<=d+e
def OQ(ρ:Keyed->Int)(a b:Array Keyed)(st:SortSt):OC->SortSt->Prop:=fun c d=>∃r,c.1=some r/\bY ρ a b st r d
def GI(ρ:Keyed->Int)(a b:Array Keyed)(st:SortSt)(N:Nat):TC->SortSt->Prop:=fun c f=>Sm st f/\∃out d e mg g h,c=(none,out,d,e,mg,g,h)/\Jn ρ a b out d e/\N<=d+e
def GD(ρ:Keyed->Int)(a b:Array Keyed)(st:SortSt)(N:Nat):TC->SortSt->Prop:=fun c d=>(∃r,c.1=some r/\bY ρ a b st r d)\/GI ρ a b st N c d
def hG{c:Type}(I Q:c->SortSt->Prop):ForInStep c->SortSt->Prop:=fun r a=>match r with
 |.done c'=>Q c' a
 |.yield c'=>I c' a
def KU(C:cW prog w A s κ a₀ ρ){st h r:SortSt}(D:B κ a₀ st){a b:Array Keyed}{mg N t:Nat}{c:IC}(ha:∀p∈a.toList,p∈a₀.toList)(hb:∀p∈b.toList,p∈a₀.toList)(F:Le ρ a.toList)(sb:Le ρ b.toList)(S1:Sm st h)(G:∀i j,a.size<=i+1->∀x∈b.toList.drop j,∀y∈a.toList.drop i,ρ x<=ρ y)(H:II ρ a b h N t c r):wpS (model prog w) A E s (kn a b mg t c) (hG (II ρ a b h N (t+1)) (IQ ρ a b st h N)) r:=by
 obtain⟨rfl,out,l,o,I,J,rfl,J',L⟩:=H;unfold kn;dsimp only;obtain⟨y,g⟩:=at_of J'.lb;obtain⟨x,ex⟩:=at_of (Nat.lt_of_succ_lt J'.la);have M:=J'.la;have O:=J'.lb;refine wpS_bind (zL g (wpS_bind (zL ex (wpS_bind (oy C (S1.b D) (hb _ (fg g)) (ha _ (fg ex)) ?_)))))
 by_cases d:ρ y<ρ x
 ·simp only[d,decide_true,if_true]
  refine wpS_bind (zL g ?_);have M1:=J'.mi.pushB g fun u hu=>by
   obtain⟨j,v,q⟩:=km hu;exact QZ (Q0 d) (ip F ex q ω)
  by_cases e:(o+1==b.size)=true
  ·rw[Th e]
   have f:o+1=b.size:=by simpa using e
   exact wpS_pure ⟨rfl,.inl ⟨_,rfl,S1,M1.fin ω⟩⟩
  ·rw[Ti e]
   have f:o+1≠b.size:=by simpa using e
   split
   ·exact wpS_pure ⟨rfl,.inr ⟨_,_,_,_,_,rfl,⟨M1,J'.la,ω⟩,ω⟩⟩
   ·exact wpS_pure ⟨rfl,_,_,_,_,_,rfl,⟨M1,J'.la,ω⟩,ω⟩
 ·simp only[d,decide_false,Av,if_false]
  refine wpS_bind (zL ex ?_);have M1:=J'.mi.pushA ex fun u hu=>by
   obtain⟨j,v,q⟩:=km hu;exact QZ (Int.not_lt.mp d) (ip sb g q ω)
  by_cases e:(l+1+1==a.size)=true
  ·rw[Th e]
   have f:l+1+1=a.size:=by simpa using e
   exact wpS_pure ⟨rfl,.inl ⟨_,rfl,S1,M1.finL (G _ _ ω)⟩⟩
  ·rw[Ti e]
   have f:l+1+1≠a.size:=by simpa using e
   split
   ·exact wpS_pure ⟨rfl,.inr ⟨_,_,_,_,_,rfl,⟨M1,ω,J'.lb⟩,ω⟩⟩
   ·exact wpS_pure ⟨rfl,_,_,_,_,_,rfl,⟨M1,ω,J'.lb⟩,ω⟩
def KW(C:cW prog w A s κ a₀ ρ){st d:SortSt}(q:B κ a₀ st){a b:Array Keyed}{N t:Nat}{c:TC}{z:Keyed}(ha:∀p∈a.toList,p∈a₀.toList)(hb:∀p∈b.toList,p∈a₀.toList)(u:Le ρ a.toList)(sb:Le ρ b.toList)(v:a[a.size-1]?=some z)(hz:∀z,a[a.size-1]?=some z->∀y∈b.toList,ρ y<ρ z)(D:∀i j,a.size<=i+1->∀x∈b.toList.drop j,∀y∈a.toList.drop i,ρ x<=ρ y)(F:GI ρ a b st N c d):wpS (model prog w) A E s (kq a b t c) (hG (GI ρ a b st N) (GD ρ a b st N)) d:=by
 obtain⟨S2,out,i,j,mg,e,f,rfl,J2,l⟩:=F;obtain⟨y,o⟩:=at_of J2.lb;have k:∀g,wpS (model prog w) A E s (rF a b out i j g e f) (hG (GI ρ a b st N) (GD ρ a b st N)) d:=fun g=>wpS_mono (KR (N:=N) C q ha hb u sb S2 J2 o v hz D l) fun r G h=>by cases r<;>exact h
 unfold kq;dsimp only;split
 ·exact k _
 ·exact k _
def KY(C:cW prog w A s κ a₀ ρ){st g:SortSt}(H:B κ a₀ st){a b:Array Keyed}{x:Nat}{c:OC}{z:Keyed}(ha:∀p∈a.toList,p∈a₀.toList)(hb:∀p∈b.toList,p∈a₀.toList)(L:Le ρ a.toList)(sb:Le ρ b.toList)(S:a[a.size-1]?=some z)(hz:∀z,a[a.size-1]?=some z->∀y∈b.toList,ρ y<ρ z)(M:∀i j,a.size<=i+1->∀x∈b.toList.drop j,∀y∈a.toList.drop i,ρ x<=ρ y)(hx:x<a.size+b.size)(f:OI ρ a b st x c g):wpS (model prog w) A E s (CF a b x c) (hG (OI ρ a b st (x+1)) (OQ ρ a b st)) g:=by
 obtain⟨S1,out,v,D,mg,rfl,J,hp⟩:=f;unfold CF;dsimp only;refine wpS_bind (wpS_mono (wpS_forRange (I:=II ρ a b g (v+D)) (Q:=IQ ρ a b st g (v+D)) (fun t c d _ ht f=>wpS_mono (KU C H ha hb L sb S1 M f) fun r d h=>by cases r<;>exact h) ?ifin ⟨rfl,_,_,_,_,_,rfl,J,ω⟩) ?ipost)
 case ifin=>
  rintro c d ⟨rfl,out,l,o,F,G,rfl,u,N⟩;exact⟨rfl,.inr ⟨_,_,_,_,_,rfl,u,ω⟩⟩
 case ipost=>
  rintro⟨O,P⟩ d ⟨rfl,⟨r,e,q⟩|⟨out,l,o,F,G,e,u,N⟩⟩
  ·dsimp only at e ⊢
   subst e;exact wpS_pure ⟨r,rfl,q⟩
  ·cases e
   dsimp only;refine wpS_bind (wpS_lift (wpAny_rule ⟨rfl,?_⟩));refine wpS_bind (wpS_mono (wpS_forRange (I:=fun _=>GI ρ a b st (l+o)) (Q:=GD ρ a b st (l+o)) (fun t c d _ ht f=>wpS_mono (KW C H ha hb L sb S hz M f) fun r d h=>by cases r<;>exact h) ?gfin ⟨S1,_,_,_,_,_,_,rfl,u,Af _⟩) ?gpost)
   case gfin=>
    rintro c d q;exact .inr q
   case gpost=>
    rintro⟨O,P⟩ d (⟨r,e,q⟩|⟨S2,out,X,Y,mg,F,G,e,U,bO⟩)
    ·dsimp only at e ⊢
     subst e;exact wpS_pure ⟨r,rfl,q⟩
    ·cases e
     dsimp only;exact wpS_bind (rC fun W T=>wpS_pure ⟨S2.trans T,_,_,_,_,rfl,U,ω⟩)
def KZ(C:cW prog w A s κ a₀ ρ){st:SortSt}(M:B κ a₀ st){a b:Array Keyed}{Q:Array Keyed->SortSt->Prop}(ha:∀p∈a.toList,p∈a₀.toList)(hb:∀p∈b.toList,p∈a₀.toList)(H:Le ρ a.toList)(sb:Le ρ b.toList)(U:1<=a.size)(W:1<=b.size)(N:∀x∈a.toList,∀y,b[0]?=some y->ρ y<=ρ x)(hz:∀z,a[a.size-1]?=some z->∀y∈b.toList,ρ y<ρ z)(h:∀r d,bY ρ a b st r d->Q r d):wpS (model prog w) A E s (FJ a b) Q st:=by
 obtain⟨z,l⟩:=at_of (xs:=a) (i:=a.size-1) ω;have G:∀i j,a.size<=i+1->∀x∈b.toList.drop j,∀y∈a.toList.drop i,ρ x<=ρ y:=fun i j hi x hx y hy=>by
  obtain⟨k,P,D⟩:=km hy;rw[show i+k=a.size-1 from ω,l] at D;cases D;exact Q0 (hz _ l x (List.mem_of_mem_drop hx))
 rw[KS];unfold FP;refine wpS_bind (wpS_lift (wpAny_rule ⟨rfl,?_⟩));obtain⟨F,o⟩:=at_of (xs:=b) (i:=0) ω;refine wpS_bind (zL o ?_);have M0:MI ρ a.toList b.toList (#[F]:Array Keyed).toList (a.toList.drop 0) (b.toList.drop 1):=by
  have q:MI ρ a.toList b.toList (#[]:Array Keyed).toList (a.toList.drop 0) (b.toList.drop 0):=⟨by simp,by simp,by simpa using H,by simpa using sb,by simp,by simp⟩;exact q.pushB o fun x hx=>N x (by simpa using hx) F o
 by_cases f:(1==b.size)=true
 ·rw[Th f]
  have u:1=b.size:=by simpa using f
  exact wpS_pure (h _ _ ⟨.refl,M0.fin ω⟩)
 rw[Ti f];have u:1≠b.size:=by simpa using f
 by_cases g:(0+1==a.size)=true
 ·rw[Th g]
  have v:0+1=a.size:=by simpa using g
  exact wpS_pure (h _ _ ⟨.refl,M0.finL (G 0 1 ω)⟩)
 rw[Ti g];have v:0+1≠a.size:=by simpa using g
 refine wpS_bind (wpS_get ?_);refine wpS_bind (wpS_mono (wpS_forRange (I:=OI ρ a b st) (Q:=OQ ρ a b st) (fun x c O _ hx L=>wpS_mono (KY C M ha hb H sb l hz G ω L) fun r d h=>by cases r<;>exact h) ?fin ⟨.refl,_,0,1,_,rfl,⟨M0,ω,ω⟩,ω⟩) ?post)
 case post=>
  rintro⟨f,g⟩ d ⟨r,e,q⟩;dsimp only at e ⊢;subst e;exact wpS_pure (h _ _ q)
 case fin=>
  rintro c d ⟨_,out,S,T,mg,_,J,hx⟩;have:=J.la;have:=J.lb;omega
end
structure MH(ρ:Keyed->Int)(la lb ra rb o:List Keyed):Prop where
 perm:((ra++rb)++o).Perm (la++lb)
 so:Le ρ o
 sa:Le ρ ra
 sb:Le ρ rb
 ao:∀x∈ra,∀y∈o,ρ x<=ρ y
 bo:∀x∈rb,∀y∈o,ρ x<=ρ y
def MH.takeA{ρ:Keyed->Int}{f g i c a o:List Keyed}(h:MH ρ f g (i++c) a o)(hb:∀y∈a,∀x∈c,ρ y<=ρ x):MH ρ f g i a (c++o):=by
 obtain⟨p,so,j,sb,e,l⟩:=h;have d:=Qq.mp j;refine⟨?_,Qq.mpr ⟨d.2.1,so,fun x hx y hy=>e x (AG _ hx) y hy⟩,d.1,sb,fun x hx y hy=>?_,fun x hx y hy=>?_⟩
 ·refine List.Perm.trans ?_ p
  simp only[A1];refine List.Perm.append_left _ ?_;rw[<-A1,<-A1];exact List.Perm.append_right _ Sz
 ·rcases Qm.mp hy with hy|hy
  ·exact d.2.2 x hx y hy
  ·exact e x (AR _ hx) y hy
 ·rcases Qm.mp hy with hy|hy
  ·exact hb x hx y hy
  ·exact l x hx y hy
def MH.takeB{ρ:Keyed->Int}{f g a c i o:List Keyed}(h:MH ρ f g a (i++c) o)(hb:∀y∈a,∀x∈c,ρ y<=ρ x):MH ρ f g a i (c++o):=by
 obtain⟨p,so,j,sb,l,e⟩:=h;have d:=Qq.mp sb;refine⟨by simpa[A1] using p,Qq.mpr ⟨d.2.1,so,fun x hx y hy=>e x (AG _ hx) y hy⟩,j,d.1,fun x hx y hy=>?_,fun x hx y hy=>?_⟩
 ·rcases Qm.mp hy with hy|hy
  ·exact hb x hx y hy
  ·exact l x hx y hy
 ·rcases Qm.mp hy with hy|hy
  ·exact d.2.2 x hx y hy
  ·exact e x (AR _ hx) y hy
def MH.doneA{ρ:Keyed->Int}{d f a c o:List Keyed}(h:MH ρ d f a c o)(e:a=[]):((a++c)++o).Perm (d++f)/\Le ρ ((a++c)++o):=by
 subst e;exact⟨h.perm,Qq.mpr ⟨h.sb,h.so,h.bo⟩⟩
def MH.firstB{ρ:Keyed->Int}{d e c a o:List Keyed}(h:MH ρ d e c a o)(hz:∀x∈a,∀y∈c,ρ x<=ρ y):((a++c)++o).Perm (d++e)/\Le ρ ((a++c)++o):=by
 have h2:=(show MH ρ d e ([]++c) a o from h).takeA hz;refine⟨by simpa[A1] using (List.Perm.append_right o (Sz (l₁:=a) (l₂:=c))).trans h.perm,?_⟩;rw[A1];exact Qq.mpr ⟨h2.sb,h2.so,h2.bo⟩
def FQ{xs:Array Keyed}{i:Nat}{p:Keyed}(h:xs[i]?=some p):xs.toList.take (i+1)=xs.toList.take i++[p]:=by
 have h':xs.toList[i]?=some p:=by simpa using h
 rw[Sq,h']
 rfl
def FR{xs:Array Keyed}{i k:Nat}(h:i<=k):xs.toList.take k=xs.toList.take i++(xs.extract i k).toList:=by
 rw[RO,Rn];have e:xs.toList.take k=(xs.toList.take k).take i++(xs.toList.take k).drop i:=(QS i _).symm;rw[List.take_take,List.drop_take,SG h] at e;exact e
def ku{xs:Array Keyed}{i:Nat}{y:Keyed}(h:y∈xs.toList.take i):∃j,j<i/\j<xs.size/\xs[j]?=some y:=by
 obtain⟨j,a,e⟩:=Rq.mp h;rw[AC,AE] at a;refine⟨j,ω,ω,?_⟩;rw[List.getElem_take] at e;rw[getElem?_pos xs j ω,<-e];simp
def rH{xs:Array Keyed}{i k:Nat}{y:Keyed}(h:y∈(xs.extract i k).toList):∃j,i<=j/\j<k/\j<xs.size/\xs[j]?=some y:=by
 obtain⟨j,a,e⟩:=Rq.mp h;rw[AE,Ry] at a;refine⟨i+j,ω,ω,ω,?_⟩;rw[getElem?_pos xs (i+j) ω,<-e];simp
def rO(xs:Array Keyed)(i:Nat):(xs.extract 0 i).toList=xs.toList.take i:=by
 rw[RO,Rn];simp
section
variable{prog:Program}{w:World}{A:Around}{E:Ω}{s:Shared}{κ:SortKind}{a₀:Array Keyed}{ρ:Keyed->Int}
abbrev dW(ρ:Keyed->Int)(a b out:Array Keyed)(na nb:Nat):Prop:=MH ρ a.toList b.toList (a.toList.take na) (b.toList.take nb) out.toList.reverse
structure Jh(ρ:Keyed->Int)(a b out:Array Keyed)(na nb:Nat):Prop where
 mi:dW ρ a b out na nb
 la:1<=na
 lb:2<=nb
 za:na<=a.size
 zb:nb<=b.size
def MH.pushA{ρ:Keyed->Int}{a b out:Array Keyed}{c d:Nat}{x:Keyed}(h:dW ρ a b out c d)(f:1<=c)(e:a[c-1]?=some x)(hy:∀y∈b.toList.take d,ρ y<=ρ x):dW ρ a b (out.push x) (c-1) d:=by
 obtain⟨n,rfl⟩:∃n,c=n+1:=⟨c-1,ω⟩;rw[SU] at e ⊢;unfold dW at *;rw[FQ e] at h;rw[RG,R1];exact h.takeA fun y hy' z hz=>by rw[Ql.mp hz];exact hy y hy'
def MH.pushB{ρ:Keyed->Int}{a b out:Array Keyed}{d c:Nat}{x:Keyed}(h:dW ρ a b out d c)(f:1<=c)(e:b[c-1]?=some x)(hy:∀y∈a.toList.take d,ρ y<=ρ x):dW ρ a b (out.push x) d (c-1):=by
 obtain⟨n,rfl⟩:∃n,c=n+1:=⟨c-1,ω⟩;rw[SU] at e ⊢;unfold dW at *;rw[FQ e] at h;rw[RG,R1];exact h.takeB fun y hy' z hz=>by rw[Ql.mp hz];exact hy y hy'
def MH.blkA{ρ:Keyed->Int}{a b out:Array Keyed}{c d:Nat}(k:Nat)(hk:k<=c)(h:dW ρ a b out c d)(hy:∀y∈b.toList.take d,∀x∈(a.extract k c).toList,ρ y<=ρ x):dW ρ a b (out++(a.extract k c).reverse) k d:=by
 unfold dW at *;rw[FR hk] at h;rw[A9,R1,RQ,List.reverse_reverse];exact h.takeA hy
def MH.blkB{ρ:Keyed->Int}{a b out:Array Keyed}{d c:Nat}(k:Nat)(hk:k<=c)(h:dW ρ a b out d c)(hy:∀y∈a.toList.take d,∀x∈(b.extract k c).toList,ρ y<=ρ x):dW ρ a b (out++(b.extract k c).reverse) d k:=by
 unfold dW at *;rw[FR hk] at h;rw[A9,R1,RQ,List.reverse_reverse];exact h.takeB hy
def MH.fin{ρ:Keyed->Int}{a b out:Array Keyed}{c d:Nat}(h:dW ρ a b out c d)(e:c=0):(a.extract 0 c++b.extract 0 d++out.reverse).toList.Perm (a.toList++b.toList)/\Le ρ (a.extract 0 c++b.extract 0 d++out.reverse).toList:=by
 rw[A9,A9,rO,rO,RQ];exact MH.doneA h (by rw[e];rfl)
def MH.finB{ρ:Keyed->Int}{a b out:Array Keyed}{d c:Nat}(h:dW ρ a b out d c)(hz:∀x∈b.toList.take c,∀y∈a.toList.take d,ρ x<=ρ y):(b.extract 0 c++a.extract 0 d++out.reverse).toList.Perm (a.toList++b.toList)/\Le ρ (b.extract 0 c++a.extract 0 d++out.reverse).toList:=by
 rw[A9,A9,rO,rO,RQ];exact MH.firstB h hz
abbrev TH:=Option (Array Keyed)×Nat×Nat×Array Keyed×Nat×Nat×Nat
abbrev IH:=Option (Array Keyed)×Nat×Nat×Array Keyed×Nat×Nat
abbrev OH:=Option (Array Keyed)×Nat×Nat×Array Keyed×Nat
noncomputable def CG(a b o:Array Keyed)(i j mg k l:Nat):StateT SortSt Sem (ForInStep TH):=elem' a (i-1) >>= fun z=>if(i-1==0)=true then pure (.done (some (a.extract 0 (i-1)++b.extract 0 j++(o.push z).reverse),i-1,j,o.push z,mg,k,l)) else if(decide (k<7)&&decide (l<7))=true then pure (.done (none,i-1,j,o.push z,mg,k,l)) else pure (.yield (none,i-1,j,o.push z,mg,k,l))
noncomputable def CH(a b o:Array Keyed)(i j mg k c:Nat):StateT SortSt Sem (ForInStep TH):=elem' b (j-1) >>= fun y=>if(j-1==1)=true then pure (.done (some (b.extract 0 (j-1)++a.extract 0 i++(o.push y).reverse),i,j-1,o.push y,mg,k,c)) else elem' a (i-1) >>= fun x=>c5 true x b 0 (j-1) (j-1-1) >>= fun g=>match g with
 |some l=>if j-1-l>0 then(if(l==1)=true then pure (.done (some (b.extract 0 l++a.extract 0 i++(o.push y++(b.extract l (j-1)).reverse).reverse),i,l,o.push y++(b.extract l (j-1)).reverse,mg,k,j-1-l)) else if(l==0)=true then pure (.done (some (a.extract 0 i++b.extract 0 l++(o.push y++(b.extract l (j-1)).reverse).reverse),i,l,o.push y++(b.extract l (j-1)).reverse,mg,k,j-1-l)) else CG a b (o.push y++(b.extract l (j-1)).reverse) i l mg k (j-1-l)) else CG a b (o.push y) i (j-1) mg k (j-1-l)
 |_=>pure (.done (some (a.extract 0 i++b.extract 0 (j-1)++(o.push y).reverse),i,j-1,o.push y,mg,k,c))
noncomputable def rR(a b o:Array Keyed)(i j mg d c:Nat):StateT SortSt Sem (ForInStep TH):=oG mg >>= fun _=>elem' b (j-1) >>= fun y=>c5 false y a 0 i (i-1) >>= fun g=>match g with
 |some k=>if i-k>0 then(if(k==0)=true then pure (.done (some (a.extract 0 k++b.extract 0 j++(o++(a.extract k i).reverse).reverse),k,j,o++(a.extract k i).reverse,mg,i-k,c)) else CH a b (o++(a.extract k i).reverse) k j mg (i-k) c) else CH a b o i j mg (i-k) c
 |_=>pure (.done (some (a.extract 0 i++b.extract 0 j++o.reverse),i,j,o,mg,d,c))
noncomputable def kw(a b:Array Keyed)(mg:Nat):Nat->IH->StateT SortSt Sem (ForInStep IH):=fun _ c=>elem' b (c.2.2.1-1) >>= fun y=>elem' a (c.2.1-1) >>= fun x=>lt' y x >>= fun q=>match q with
 |some r=>if r=true then elem' a (c.2.1-1) >>= fun z=>(if(c.2.1-1==0)=true then pure (.done (some (a.extract 0 (c.2.1-1)++b.extract 0 c.2.2.1++(c.2.2.2.1.push z).reverse),c.2.1-1,c.2.2.1,c.2.2.2.1.push z,c.2.2.2.2.1+1,0)) else if c.2.2.2.2.1+1 ≥ mg then pure (.done (none,c.2.1-1,c.2.2.1,c.2.2.2.1.push z,c.2.2.2.2.1+1,0)) else pure (.yield (none,c.2.1-1,c.2.2.1,c.2.2.2.1.push z,c.2.2.2.2.1+1,0)))
  else elem' b (c.2.2.1-1) >>= fun z=>(if(c.2.2.1-1==1)=true then pure (.done (some (b.extract 0 (c.2.2.1-1)++a.extract 0 c.2.1++(c.2.2.2.1.push z).reverse),c.2.1,c.2.2.1-1,c.2.2.2.1.push z,0,c.2.2.2.2.2+1)) else if c.2.2.2.2.2+1 ≥ mg then pure (.done (none,c.2.1,c.2.2.1-1,c.2.2.2.1.push z,0,c.2.2.2.2.2+1)) else pure (.yield (none,c.2.1,c.2.2.1-1,c.2.2.2.1.push z,0,c.2.2.2.2.2+1)))
 |_=>pure (.done (some (a.extract 0 c.2.1++b.extract 0 c.2.2.1++c.2.2.2.1.reverse),c.2.1,c.2.2.1,c.2.2.2.1,c.2.2.2.2.1,c.2.2.2.2.2))
noncomputable def kx(a b:Array Keyed):Nat->TH->StateT SortSt Sem (ForInStep TH):=fun _ c=>if c.2.2.2.2.1>1 then rR a b c.2.2.2.1 c.2.1 c.2.2.1 (c.2.2.2.2.1-1) c.2.2.2.2.2.1 c.2.2.2.2.2.2 else rR a b c.2.2.2.1 c.2.1 c.2.2.1 c.2.2.2.2.1 c.2.2.2.2.2.1 c.2.2.2.2.2.2
noncomputable def CI(a b:Array Keyed):Nat->OH->StateT SortSt Sem (ForInStep OH):=fun _ c=>forIn [:a.size+b.size] ((none,c.2.1,c.2.2.1,c.2.2.2.1,0,0):IH) (kw a b c.2.2.2.2) >>= fun d=>match d.1 with
 |some r=>pure (.done (some r,d.2.1,d.2.2.1,d.2.2.2.1,c.2.2.2.2))
 |none=>liftM (PySem.rule "list.sort.gallop") >>= fun _=>forIn [:a.size+b.size] ((none,d.2.1,d.2.2.1,d.2.2.2.1,c.2.2.2.2+1,d.2.2.2.2.1,d.2.2.2.2.2):TH) (kx a b) >>= fun e=>match e.1 with
  |some r=>pure (.done (some r,e.2.1,e.2.2.1,e.2.2.2.1,e.2.2.2.2.1))
  |none=>oG (e.2.2.2.2.1+1) >>= fun _=>pure (.yield (none,e.2.1,e.2.2.1,e.2.2.2.1,e.2.2.2.2.1+1))
noncomputable def FS(a b:Array Keyed):StateT SortSt Sem (Array Keyed):=liftM (PySem.rule "list.sort.merge-hi") >>= fun _=>elem' a (a.size-1) >>= fun y=>if(a.size-1==0)=true then pure (a.extract 0 (a.size-1)++b.extract 0 b.size++#[y].reverse) else if(b.size==1)=true then pure (b.extract 0 b.size++a.extract 0 (a.size-1)++#[y].reverse) else get >>= fun g=>forIn [:a.size+b.size] ((none,a.size-1,b.size,#[y],FO g):OH) (CI a b) >>= fun d=>match d.1 with
 |some r=>pure r
 |none=>liftM (unsupported "internal:list.sort.merge-bound":Sem (Array Keyed))
def K0(a b:Array Keyed):FK a b=FS a b:=by kernel_rfl
def CJ(ρ:Keyed->Int)(a b:Array Keyed)(i:SortSt)(N:Nat):Nat->IH->SortSt->Prop:=fun t c f=>f=i/\∃d e out g h,c=(none,d,e,out,g,h)/\Jh ρ a b out d e/\t+(d+e)<=N
def FT(ρ:Keyed->Int)(a b:Array Keyed)(st i:SortSt)(N:Nat):IH->SortSt->Prop:=fun c f=>f=i/\((∃r,c.1=some r/\bY ρ a b st r f)\/∃d e out g h,c=(none,d,e,out,g,h)/\Jh ρ a b out d e/\1+(d+e)<=N)
def CK(ρ:Keyed->Int)(a b:Array Keyed)(st:SortSt):Nat->OH->SortSt->Prop:=fun x c f=>Sm st f/\∃d e out mg,c=(none,d,e,out,mg)/\Jh ρ a b out d e/\x+1+(d+e)<=a.size+b.size
def FU(ρ:Keyed->Int)(a b:Array Keyed)(st:SortSt):OH->SortSt->Prop:=fun c d=>∃r,c.1=some r/\bY ρ a b st r d
def jw(ρ:Keyed->Int)(a b:Array Keyed)(st:SortSt)(N:Nat):TH->SortSt->Prop:=fun c f=>Sm st f/\∃d e out mg g h,c=(none,d,e,out,mg,g,h)/\Jh ρ a b out d e/\d+e<=N
def ml(ρ:Keyed->Int)(a b:Array Keyed)(st:SortSt)(N:Nat):TH->SortSt->Prop:=fun c d=>(∃r,c.1=some r/\bY ρ a b st r d)\/jw ρ a b st N c d
def FV{st g:SortSt}{a b o:Array Keyed}{i j mg k l N:Nat}{x:Keyed}(S:Sm st g)(M:dW ρ a b o i j)(ex:a[i-1]?=some x)(e:∀y∈b.toList.take j,ρ y<=ρ x)(h1:1<=i)(h2:2<=j)(p:i<=a.size)(q:j<=b.size)(r:i+j<=N):wpS (model prog w) A E s (CG a b o i j mg k l) (hG (jw ρ a b st N) (ml ρ a b st N)) g:=by
 refine wpS_bind (zL ex ?_);have f:=MH.pushA M h1 ex e
 by_cases c:(i-1==0)=true
 ·rw[Th c]
  have d:i-1=0:=by simpa using c
  exact wpS_pure (.inl ⟨_,rfl,S,MH.fin f ω⟩)
 rw[Ti c];have d:i-1≠0:=by simpa using c
 by_cases h:(decide (k<7)&&decide (l<7))=true
 ·rw[Th h]
  exact wpS_pure (.inr ⟨S,_,_,_,_,_,_,rfl,⟨f,ω,ω,ω,ω⟩,ω⟩)
 ·rw[Ti h]
  exact wpS_pure ⟨S,_,_,_,_,_,_,rfl,⟨f,ω,ω,ω,ω⟩,ω⟩
def FW(C:cW prog w A s κ a₀ ρ){st L:SortSt}(hB:B κ a₀ st){a b o:Array Keyed}{i j mg k bc N:Nat}{y O:Keyed}(ha:∀p∈a.toList,p∈a₀.toList)(hb:∀p∈b.toList,p∈a₀.toList)(sa:Le ρ a.toList)(sb:Le ρ b.toList)(S:Sm st L)(M:dW ρ a b o i j)(P:b[j-1]?=some y)(after:∀x∈a.toList.take i,ρ x<=ρ y)(Q:b[0]?=some O)(h0:∀x∈a.toList,∀y,b[0]?=some y->ρ y<ρ x)(T:∀i j,j<=1->∀x∈b.toList.take j,∀y∈a.toList.take i,ρ x<=ρ y)(h1:1<=i)(h2:2<=j)(U:i<=a.size)(h4:j<=b.size)(hN:i+j<=N):wpS (model prog w) A E s (CH a b o i j mg k bc) (hG (jw ρ a b st N) (ml ρ a b st N)) L:=by
 refine wpS_bind (zL P ?_);have M2:=MH.pushB M ω P after
 by_cases h:(j-1==1)=true
 ·rw[Th h]
  have F:j-1=1:=by simpa using h
  exact wpS_pure (.inl ⟨_,rfl,S,MH.finB M2 (T _ _ ω)⟩)
 rw[Ti h];have F:j-1≠1:=by simpa using h
 obtain⟨x,ex⟩:=at_of (xs:=a) (i:=i-1) ω;refine wpS_bind (zL ex ?_);refine wpS_bind (mj C (S.b hB) (ha _ (fg ex)) (fun l hl=>?_) (fun l m h1 h2=>iU sb ω ω) ω fun l l1 X H=>?_)
 ·obtain⟨p,e⟩:=at_of (xs:=b) (i:=0+l) ω
  exact⟨p,e,hb _ (fg e)⟩
 dsimp only;have lz:1<=l:=by
  rcases Rj 0 l with q|q
  ·exact q
  ·have q1:=H 0 ω ω
   rw[bx Q] at q1;have q2:=h0 x (fg ex) O Q;simp[b_] at q1;omega
 have c:∀y∈b.toList.take l,ρ y<=ρ x:=fun u hu=>by
  obtain⟨d,D,I,J⟩:=ku hu;have q1:=X d D;rw[Ta,bx J] at q1;simp[b_] at q1;omega
 by_cases g:j-1-l>0
 ·rw[Th g]
  have W:=MH.blkB l ω M2 fun v Y u hu=>by
   obtain⟨d,D,I,J,d4⟩:=rH hu;obtain⟨f,f1,f2,f3⟩:=ku Y;have q1:=H d D I;rw[Ta,bx d4] at q1;simp[b_] at q1;exact QZ (ip sa f3 ex ω) ω
  by_cases r:(l==1)=true
  ·rw[Th r]
   have G:l=1:=by simpa using r
   exact wpS_pure (.inl ⟨_,rfl,S,MH.finB W (T _ _ ω)⟩)
  rw[Ti r];have G:l≠1:=by simpa using r
  rw[Ti (show ¬(l==0)=true by simp;omega)];exact FV S W ex c h1 ω U ω ω
 ·rw[Ti g]
  have l0:l=j-1:=ω
  rw[l0] at c;exact FV S M2 ex c h1 ω U ω ω
def K2(C:cW prog w A s κ a₀ ρ){st L:SortSt}(D:B κ a₀ st){a b out:Array Keyed}{i j mg ac bc N:Nat}{y y0:Keyed}(ha:∀p∈a.toList,p∈a₀.toList)(hb:∀p∈b.toList,p∈a₀.toList)(F:Le ρ a.toList)(sb:Le ρ b.toList)(S2:Sm st L)(J2:Jh ρ a b out i j)(g:b[j-1]?=some y)(M:b[0]?=some y0)(O:∀x∈a.toList,∀y,b[0]?=some y->ρ y<ρ x)(P:∀i j,j<=1->∀x∈b.toList.take j,∀y∈a.toList.take i,ρ x<=ρ y)(bO:i+j<=N):wpS (model prog w) A E s (rR a b out i j mg ac bc) (hG (jw ρ a b st N) (ml ρ a b st N)) L:=by
 have oU:=J2.la;have I:=J2.lb;have wO:=J2.za;have J:=J2.zb;refine wpS_bind (rC fun aE q=>?_);refine wpS_bind (zL g ?_);refine wpS_bind (mj C ((S2.trans q).b D) (hb _ (fg g)) (fun k hk=>?_) (fun k l h1 h2=>iU F ω ω) ω fun k S T U=>?_)
 ·obtain⟨p,e⟩:=at_of (xs:=a) (i:=0+k) ω
  exact⟨p,e,ha _ (fg e)⟩
 dsimp only;have after:∀x∈a.toList.take k,ρ x<=ρ y:=fun u hu=>by
  obtain⟨d,r,G,H⟩:=ku hu;have q1:=T d r;rw[Ta,bx H] at q1;simp[b_] at q1;omega
 by_cases h:i-k>0
 ·rw[Th h]
  have Q:=MH.blkA k S J2.mi fun v W u hu=>by
   obtain⟨d,r,G,H,X⟩:=rH hu;obtain⟨f,f1,f2,Y⟩:=ku W;have q1:=U d r G;rw[Ta,bx X] at q1;simp[b_] at q1;exact QZ (ip sb Y g ω) ω
  by_cases o:(k==0)=true
  ·rw[Th o]
   have c:k=0:=by simpa using o
   exact wpS_pure (.inl ⟨_,rfl,S2.trans q,MH.fin Q c⟩)
  rw[Ti o];have c:k≠0:=by simpa using o
  exact FW C D ha hb F sb (S2.trans q) Q g after M O P ω I ω J ω
 ·rw[Ti h]
  have k0:k=i:=ω
  rw[k0] at after;exact FW C D ha hb F sb (S2.trans q) J2.mi g after M O P oU I wO J bO
def K3(C:cW prog w A s κ a₀ ρ){st o G:SortSt}(J:B κ a₀ st){a b:Array Keyed}{mg N t:Nat}{c:IH}(ha:∀p∈a.toList,p∈a₀.toList)(hb:∀p∈b.toList,p∈a₀.toList)(L:Le ρ a.toList)(sb:Le ρ b.toList)(S1:Sm st o)(M:∀i j,j<=1->∀x∈b.toList.take j,∀y∈a.toList.take i,ρ x<=ρ y)(O:CJ ρ a b o N t c G):wpS (model prog w) A E s (kw a b mg t c) (hG (CJ ρ a b o N (t+1)) (FT ρ a b st o N)) G:=by
 obtain⟨rfl,h,l,out,P,Q,rfl,J',S⟩:=O;unfold kw;dsimp only;have r:=J'.la;have v:=J'.lb;have D:=J'.za;have F:=J'.zb;obtain⟨y,g⟩:=at_of (xs:=b) (i:=l-1) ω;obtain⟨x,ex⟩:=at_of (xs:=a) (i:=h-1) ω;refine wpS_bind (zL g (wpS_bind (zL ex (wpS_bind (oy C (S1.b J) (hb _ (fg g)) (ha _ (fg ex)) ?_)))))
 by_cases d:ρ y<ρ x
 ·simp only[d,decide_true,if_true]
  refine wpS_bind (zL ex ?_);have M1:=MH.pushA J'.mi r ex fun u hu=>by
   obtain⟨j,H,I,q⟩:=ku hu;exact QZ (ip sb q g ω) (Q0 d)
  by_cases e:(h-1==0)=true
  ·rw[Th e]
   have f:h-1=0:=by simpa using e
   exact wpS_pure ⟨rfl,.inl ⟨_,rfl,S1,MH.fin M1 ω⟩⟩
  ·rw[Ti e]
   have f:h-1≠0:=by simpa using e
   split
   ·exact wpS_pure ⟨rfl,.inr ⟨_,_,_,_,_,rfl,⟨M1,ω,v,ω,F⟩,ω⟩⟩
   ·exact wpS_pure ⟨rfl,_,_,_,_,_,rfl,⟨M1,ω,v,ω,F⟩,ω⟩
 ·simp only[d,decide_false,Av,if_false]
  refine wpS_bind (zL g ?_);have M1:=MH.pushB J'.mi ω g fun u hu=>by
   obtain⟨j,H,I,q⟩:=ku hu;exact QZ (ip L q ex ω) (Int.not_lt.mp d)
  by_cases e:(l-1==1)=true
  ·rw[Th e]
   have f:l-1=1:=by simpa using e
   exact wpS_pure ⟨rfl,.inl ⟨_,rfl,S1,MH.finB M1 (M _ _ ω)⟩⟩
  ·rw[Ti e]
   have f:l-1≠1:=by simpa using e
   split
   ·exact wpS_pure ⟨rfl,.inr ⟨_,_,_,_,_,rfl,⟨M1,r,ω,D,ω⟩,ω⟩⟩
   ·exact wpS_pure ⟨rfl,_,_,_,_,_,rfl,⟨M1,r,ω,D,ω⟩,ω⟩
def K4(C:cW prog w A s κ a₀ ρ){st d:SortSt}(o:B κ a₀ st){a b:Array Keyed}{N t:Nat}{c:TH}{q:Keyed}(ha:∀p∈a.toList,p∈a₀.toList)(hb:∀p∈b.toList,p∈a₀.toList)(r:Le ρ a.toList)(sb:Le ρ b.toList)(u:b[0]?=some q)(v:∀x∈a.toList,∀y,b[0]?=some y->ρ y<ρ x)(D:∀i j,j<=1->∀x∈b.toList.take j,∀y∈a.toList.take i,ρ x<=ρ y)(F:jw ρ a b st N c d):wpS (model prog w) A E s (kx a b t c) (hG (jw ρ a b st N) (ml ρ a b st N)) d:=by
 obtain⟨S2,i,j,out,mg,e,f,rfl,J2,h⟩:=F;have G:=J2.lb;have H:=J2.zb;obtain⟨y,l⟩:=at_of (xs:=b) (i:=j-1) ω;have k:∀g,wpS (model prog w) A E s (rR a b out i j g e f) (hG (jw ρ a b st N) (ml ρ a b st N)) d:=fun g=>K2 (N:=N) C o ha hb r sb S2 J2 l u v D h;unfold kx;dsimp only;split
 ·exact k _
 ·exact k _
def K5(C:cW prog w A s κ a₀ ρ){st g:SortSt}(H:B κ a₀ st){a b:Array Keyed}{x:Nat}{c:OH}{S:Keyed}(ha:∀p∈a.toList,p∈a₀.toList)(hb:∀p∈b.toList,p∈a₀.toList)(L:Le ρ a.toList)(sb:Le ρ b.toList)(T:b[0]?=some S)(U:∀x∈a.toList,∀y,b[0]?=some y->ρ y<ρ x)(M:∀i j,j<=1->∀x∈b.toList.take j,∀y∈a.toList.take i,ρ x<=ρ y)(f:CK ρ a b st x c g):wpS (model prog w) A E s (CI a b x c) (hG (CK ρ a b st (x+1)) (FU ρ a b st)) g:=by
 obtain⟨S1,v,D,out,mg,rfl,J,hp⟩:=f;have BS:=J.la;have yW:=J.lb;have Bz:=J.za;have BX:=J.zb;unfold CI;dsimp only;refine wpS_bind (wpS_mono (wpS_forRange (I:=CJ ρ a b g (v+D)) (Q:=FT ρ a b st g (v+D)) (fun t c d _ ht f=>wpS_mono (K3 C H ha hb L sb S1 M f) fun r d h=>by cases r<;>exact h) ?ifin ⟨rfl,_,_,_,_,_,rfl,J,ω⟩) ?ipost)
 case ifin=>
  rintro c d ⟨rfl,l,o,out,F,G,rfl,u,N⟩;exact⟨rfl,.inr ⟨_,_,_,_,_,rfl,u,ω⟩⟩
 case ipost=>
  rintro⟨O,P⟩ d ⟨rfl,⟨r,e,q⟩|⟨l,o,out,F,G,e,u,N⟩⟩
  ·dsimp only at e ⊢
   subst e;exact wpS_pure ⟨r,rfl,q⟩
  ·cases e
   dsimp only;refine wpS_bind (wpS_lift (wpAny_rule ⟨rfl,?_⟩));refine wpS_bind (wpS_mono (wpS_forRange (I:=fun _=>jw ρ a b st (l+o)) (Q:=ml ρ a b st (l+o)) (fun t c d _ ht f=>wpS_mono (K4 C H ha hb L sb T U M f) fun r d h=>by cases r<;>exact h) ?gfin ⟨S1,_,_,_,_,_,_,rfl,u,Af _⟩) ?gpost)
   case gfin=>
    rintro c d q;exact .inr q
   case gpost=>
    rintro⟨O,P⟩ d (⟨r,e,q⟩|⟨S2,mT,nq,out,mg,F,G,e,X,bO⟩)
    ·dsimp only at e ⊢
     subst e;exact wpS_pure ⟨r,rfl,q⟩
    ·cases e
     dsimp only;exact wpS_bind (rC fun Y W=>wpS_pure ⟨S2.trans W,_,_,_,_,rfl,X,ω⟩)
def K6(C:cW prog w A s κ a₀ ρ){st:SortSt}(P:B κ a₀ st){a b:Array Keyed}{Q:Array Keyed->SortSt->Prop}(ha:∀p∈a.toList,p∈a₀.toList)(hb:∀p∈b.toList,p∈a₀.toList)(L:Le ρ a.toList)(sb:Le ρ b.toList)(G:1<=a.size)(O:1<=b.size)(M:∀x∈a.toList,∀y,b[0]?=some y->ρ y<ρ x)(hz:∀z,a[a.size-1]?=some z->∀y∈b.toList,ρ y<ρ z)(h:∀r d,bY ρ a b st r d->Q r d):wpS (model prog w) A E s (FK a b) Q st:=by
 obtain⟨U,l⟩:=at_of (xs:=b) (i:=0) ω;have H:∀i j,j<=1->∀x∈b.toList.take j,∀y∈a.toList.take i,ρ x<=ρ y:=fun i j S x hx y hy=>by
  obtain⟨k,W,X,F⟩:=ku hx;rw[show k=0 from ω,l] at F;cases F;exact Q0 (M y (Rr hy) _ l)
 rw[K0];unfold FS;refine wpS_bind (wpS_lift (wpAny_rule ⟨rfl,?_⟩));obtain⟨z,o⟩:=at_of (xs:=a) (i:=a.size-1) ω;refine wpS_bind (zL o ?_);have D:dW ρ a b #[z] (a.size-1) b.size:=by
  have q:dW ρ a b #[] a.size b.size:=by
   have e1:a.toList.take a.size=a.toList:=As (by simp);have e2:b.toList.take b.size=b.toList:=As (by simp);unfold dW;rw[e1,e2];exact⟨by simp,by simp,L,sb,by simp,by simp⟩
  exact MH.pushA (out:=#[]) q G o fun y hy=>Q0 (hz z o y (Rr hy))
 by_cases f:(a.size-1==0)=true
 ·rw[Th f]
  have u:a.size-1=0:=by simpa using f
  exact wpS_pure (h _ _ ⟨.refl,MH.fin D ω⟩)
 rw[Ti f];have u:a.size-1≠0:=by simpa using f
 by_cases g:(b.size==1)=true
 ·rw[Th g]
  have v:b.size=1:=by simpa using g
  exact wpS_pure (h _ _ ⟨.refl,MH.finB D (H _ _ ω)⟩)
 rw[Ti g];have v:b.size≠1:=by simpa using g
 refine wpS_bind (wpS_get ?_);refine wpS_bind (wpS_mono (wpS_forRange (I:=CK ρ a b st) (Q:=FU ρ a b st) (fun x c T _ hx N=>wpS_mono (K5 C P ha hb L sb l M H N) fun r d h=>by cases r<;>exact h) ?fin ⟨.refl,_,_,_,_,rfl,⟨D,ω,ω,ω,ω⟩,ω⟩) ?post)
 case post=>
  rintro⟨f,g⟩ d ⟨r,e,q⟩;dsimp only at e ⊢;subst e;exact wpS_pure (h _ _ q)
 case fin=>
  rintro c d ⟨_,G,O,out,mg,_,J,hx⟩;have:=J.la;have:=J.lb;omega
end
noncomputable def putAll(xs:Array Keyed)(c:Nat)(m:List Keyed)(d:Nat):Array Keyed:=List.foldl (fun a x=>a.setIfInBounds (c+x.snd) x.fst) xs (m.zipIdx d)
def CL:∀(m:List Keyed)(xs:Array Keyed)(a c:Nat),a+c+m.length<=xs.size->∀k,(putAll xs a m c)[k]?=if a+c<=k/\k<a+c+m.length then m[k-(a+c)]? else xs[k]?
 |[],xs,a,c,_,k=>by
  show xs[k]?=_;rw[Ti (by rw[QY];omega)]
 |p::m,xs,a,c,h,k=>by
  rw[AB] at h;have e:=CL m (xs.setIfInBounds (a+c) p) a (c+1) (by rw[Array.size_setIfInBounds];omega) k;show(putAll (xs.setIfInBounds (a+c) p) a m (c+1))[k]?=_;rw[e,AB]
  by_cases h1:k=a+c
  ·subst h1
   rw[Ti ω,Th ω,Array.getElem?_setIfInBounds_self_of_lt ω];simp
  ·by_cases h2:a+(c+1)<=k/\k<a+(c+1)+m.length
   ·rw[Th h2,Th ω]
    obtain⟨d,hd⟩:∃d,k-(a+c)=d+1:=⟨k-(a+c)-1,ω⟩;rw[hd,Rv]
    congr 1
    omega
   ·rw[Ti h2,Ti ω,Array.getElem?_setIfInBounds_ne ω]
def K7{m:List Keyed}{xs:Array Keyed}{a:Nat}(h:a+m.length<=xs.size):(putAll xs a m 0).toList=xs.toList.take a++(m++xs.toList.drop (a+m.length)):=by
 apply RH;intro k;have e:=CL m xs a 0 ω k;rw[QT,e]
 by_cases h1:k<a
 ·rw[Ti ω,QC (by rw[AC,AE];omega),Qw h1]
  simp
 ·rw[Qy (by rw[AC,AE];omega)]
  rw[show(xs.toList.take a).length=a by rw[AC,AE];omega]
  by_cases h2:k<a+m.length
  ·rw[Th ω,QC ω,Sr]
  ·rw[Ti ω,Qy ω,SV]
   rw[show a+m.length+(k-a-m.length)=k from ω];simp
def Seg(ρ:Keyed->Int)(xs:Array Keyed):Nat->List (Nat×Nat×Nat)->Nat->Prop
 |lo,[],hi=>lo=hi
 |lo,(s,n,_)::r,hi=>s=lo/\1<=n/\bM ρ xs lo (lo+n)/\Seg ρ xs (lo+n) r hi
def Seg.le{ρ:Keyed->Int}{xs:Array Keyed}:∀{l:List (Nat×Nat×Nat)}{lo hi:Nat},Seg ρ xs lo l hi->lo+l.length<=hi
 |[],_,_,h=>by have:_=_:=h;simp;omega
 |(s,n,p)::r,lo,hi,h=>by
  obtain⟨_,h1,_,h2⟩:=h;have:=Seg.le h2;rw[AB];omega
def Seg.congr{ρ:Keyed->Int}{xs ys:Array Keyed}:∀{l:List (Nat×Nat×Nat)}{lo hi:Nat},Seg ρ xs lo l hi->(∀k,lo<=k->k<hi->ys[k]?=xs[k]?)->Seg ρ ys lo l hi
 |[],_,_,h,_=>h
 |(s,n,p)::r,lo,hi,h,hk=>by
  obtain⟨e,h1,h2,d⟩:=h;have:=Seg.le d;refine⟨e,h1,fun i j a b c=>?_,d.congr fun k a b=>hk k ω b⟩;rw[im (hk i ω ω),im (hk j ω ω)];exact h2 i j a b c
def Seg.app{ρ:Keyed->Int}{xs:Array Keyed}:∀{l r:List (Nat×Nat×Nat)}{lo hi:Nat},Seg ρ xs lo (l++r) hi↔∃m,Seg ρ xs lo l m/\Seg ρ xs m r hi
 |[],r,lo,hi=>⟨fun h=>⟨lo,rfl,h⟩,fun⟨m,h1,h2⟩=>by have e:lo=m:=h1;subst e;exact h2⟩
 |(s,n,p)::l,r,lo,hi=>by
  constructor
  ·rintro⟨a,h1,h2,f⟩
   obtain⟨m,c,d⟩:=Seg.app.mp f;exact⟨m,⟨a,h1,h2,c⟩,d⟩
  ·rintro⟨m,⟨a,h1,h2,c⟩,d⟩
   exact⟨a,h1,h2,Seg.app.mpr ⟨m,c,d⟩⟩
def K8{c:Type}{l:List c}{i:Nat}{x y:c}(h1:l[i]?=some x)(h2:l[i+1]?=some y):∃a post,l=a++x::y::post/\a.length=i:=by
 obtain⟨d,e1⟩:=KK.mp h1;obtain⟨e,e2⟩:=KK.mp h2;refine⟨l.take i,l.drop (i+2),?_,by rw[AC];omega⟩
 conv=>lhs;rw[<-QS i l]
 rw[Rl d,Rl e,e1,e2]
def K9{c:Type}{d:Array c}{i:Nat}{x y z:c}{a post:List c}(h:d.toList=a++x::y::post)(hi:a.length=i):((d.setIfInBounds i z).eraseIdxIfInBounds (i+1)).toList=a++z::post:=by
 subst hi;rw[Array.toList_eraseIdxIfInBounds,Array.toList_setIfInBounds,h,List.set_append_right _ _ (Af _),Nat.sub_self,List.set_cons_zero,List.eraseIdx_append_of_length_le ω];rw[show a.length+1-a.length=1 from ω]
 rfl
section
variable{prog:Program}{w:World}{A:Around}{E:Ω}{s:Shared}{κ:SortKind}{a₀:Array Keyed}{ρ:Keyed->Int}
def K_{M:Model}{σ:Type}{st a:σ}{Q:PUnit->σ->Prop}(h:Q ⟨⟩ a):wpS M A E s (set a:StateT σ Sem PUnit) Q st:=by
 unfold wpS;rw[StateT.run_set];exact Ac ⟨rfl,h⟩
def FX{xs:Array Keyed}{lo hi:Nat}(h:bM ρ xs lo hi)(hz:hi<=xs.size):Le ρ (xs.extract lo hi).toList:=by
 rw[Le,Qu];intro i j a c d;rw[AE,Ry] at a c;have q:=h (lo+i) (lo+j) ω ω ω;rw[bx (getElem?_pos xs (lo+i) ω),bx (getElem?_pos xs (lo+j) ω)] at q
 simpa using q
def FY{xs:Array Keyed}{lo hi i:Nat}(h:lo+i<hi)(hz:hi<=xs.size):(xs.extract lo hi)[i]?=xs[lo+i]?:=by
 rw[Array.getElem?_extract,Th ω]
def CM(C:cW prog w A s κ a₀ ρ){st:SortSt}(P:B κ a₀ st){i hi:Nat}{Q:Bool->SortSt->Prop}(hS:Seg ρ (arrOf st) 0 (AF st).toList hi)(hz:hi<=a₀.size)(uh:i+1<(AF st).size)(h:∀D,B κ a₀ D->Seg ρ (arrOf D) 0 (AF D).toList hi->(AF D).size+1=(AF st).size->(∀k,hi<=k->(arrOf D)[k]?=(arrOf st)[k]?)->Q true D):wpS (model prog w) A E s (mergeAt' i) Q st:=by
 obtain⟨⟨c,f,p⟩,g1⟩:∃x,(AF st)[i]?=some x:=⟨_,getElem?_pos _ i ω⟩;obtain⟨⟨sb,G,q⟩,g2⟩:∃x,(AF st)[i+1]?=some x:=⟨_,getElem?_pos _ (i+1) uh⟩;obtain⟨pre,post,el,dm⟩:=K8 (l:=(AF st).toList) (by rw[QT];exact g1) (by rw[QT];exact g2);have bv:=hS;rw[el] at bv;obtain⟨m,S1,e1,n1,U,e2,n2,S,S2⟩:=Seg.app.mp bv;subst e1 e2;have hl2:=S2.le;have hsz:=P.size;have fin:∀D,B κ a₀ D->AF D=((AF st).setIfInBounds i (c,f+G,p)).eraseIdxIfInBounds (i+1)->(∀k,(k<c\/c+f+G<=k)->(arrOf D)[k]?=(arrOf st)[k]?)->
   bM ρ (arrOf D) c (c+f+G)->Q true D:=fun D aO hP hk hs=>by
  have hl:=K9 (z:=(c,f+G,p)) el dm;refine h D aO ?_ ?_ fun k bD=>hk k (.inr ω)
  ·rw[hP,hl]
   refine Seg.app.mpr ⟨c,S1.congr fun k _ b=>hk k (.inl b),rfl,ω,by rw[<-Nat.add_assoc];exact hs,?_⟩;rw[<-Nat.add_assoc];exact S2.congr fun k a _=>hk k (.inr ω)
  ·rw[hP,<-AE,hl,<-AE,el]
   simp;omega
 refine wpS_bind (wpS_get ?_);rw[g1,g2];dsimp only;refine wpS_bind (K_ ?_);show wpS _ _ _ _ _ _ (SortSt.mk' (kindOf st) (arrOf st) (((AF st).setIfInBounds i (c,f+G,p)).eraseIdxIfInBounds (i+1)) (gallopOf st) (failedOf st));generalize e2:((SortSt.mk' (kindOf st) (arrOf st) (((AF st).setIfInBounds i (c,f+G,p)).eraseIdxIfInBounds (i+1)) (gallopOf st) (failedOf st)):SortSt)=aZ;have a2:arrOf aZ=arrOf st:=by rw[<-e2]
 have p2:AF aZ=((AF st).setIfInBounds i (c,f+G,p)).eraseIdxIfInBounds (i+1):=by rw[<-e2]
 have g:B κ a₀ aZ:=⟨by rw[a2];exact P.perm,by rw[<-e2];exact P.kind,by rw[<-e2];exact P.failed⟩;have pt:∀k,k<(arrOf st).size->∃x,(arrOf st)[k]?=some x/\x∈a₀.toList:=fun k hk=>by
  obtain⟨x,e,m⟩:=CB hk;exact⟨x,e,P.mem m⟩
 obtain⟨L,W,my⟩:=pt (c+f) ω;refine wpS_bind (zL W ?_);refine wpS_bind (mj (base:=c) (n:=f) (hint:=0) (arr:=arrOf st) C g my (fun k hk=>pt _ ω) (fun k l h1 h2=>U _ _ ω ω ω) ω fun k k1 k2 k3=>?_);dsimp only;have kle:∀d,d<k->R ρ (arrOf st) (c+d)<=ρ L:=fun d hd=>by
  have q1:=k2 d hd;simp[b_] at q1;exact q1
 have X:∀d,k<=d->d<f->ρ L<R ρ (arrOf st) (c+d):=fun d h1 h2=>by
  have q1:=k3 d h1 h2;simp[b_] at q1;exact q1
 by_cases c1:(f-k==0)=true
 ·rw[Th c1]
  have c1':f-k=0:=by simpa using c1
  refine wpS_pure (fin aZ g p2 (fun k _=>by rw[a2]) ?_);rw[a2];intro x y h1 h2 H
  by_cases hy:y<c+f
  ·exact U x y h1 h2 hy
  ·by_cases hx:c+f<=x
   ·exact S x y hx h2 H
   ·have q1:=kle (x-c) ω
    rw[show c+(x-c)=x from ω] at q1;have I:=S (c+f) y ω ω H;rw[bx W] at I;omega
 rw[Ti c1];have c1':f-k≠0:=by simpa using c1
 obtain⟨z,ez,mz⟩:=pt (c+k+(f-k)-1) ω;refine wpS_bind (zL ez ?_);refine wpS_bind (mj (base:=c+f) (n:=G) (hint:=G-1) (arr:=arrOf st) C g mz (fun l hl=>pt _ ω) (fun l l' h1 h2=>S _ _ ω ω ω) ω fun l l1 l2 l3=>?_);dsimp only;have n6:(arrOf st)[c+f-1]?=some z:=by rw[show c+f-1=c+k+(f-k)-1 from ω];exact ez
 have llt:∀d,d<l->R ρ (arrOf st) (c+f+d)<ρ z:=fun d hd=>by
  have q1:=l2 d hd;simp[b_] at q1;exact q1
 have Y:∀d,l<=d->d<G->ρ z<=R ρ (arrOf st) (c+f+d):=fun d h1 h2=>by
  have q1:=l3 d h1 h2;simp[b_] at q1;exact q1
 have yz:ρ L<ρ z:=by
  have q1:=X (f-1) ω ω;rw[show c+(f-1)=c+f-1 from ω,bx n6] at q1;exact q1
 have lz:1<=l:=by
  rcases Rj 0 l with q1|q1
  ·exact q1
  ·have I:=Y 0 ω ω
   rw[Sr,bx W] at I;omega
 rw[Ti (show ¬(l==0)=true by simp;omega)];have sA:(( arrOf st).extract (c+k) (c+f)).size=f-k:=by rw[Ry];omega
 have N:(( arrOf st).extract (c+f) (c+f+l)).size=l:=by rw[Ry];omega
 have j:∀x∈((arrOf st).extract (c+k) (c+f)).toList,x∈a₀.toList/\ρ L<ρ x/\ρ x<=ρ z:=fun x hx=>by
  obtain⟨d,d1,d2,d3,M⟩:=rH hx;have q1:=X (d-c) ω ω;rw[show c+(d-c)=d from ω,bx M] at q1;have I:=U d (c+f-1) ω ω ω;rw[bx M,bx n6] at I;exact⟨P.mem (fg M),q1,I⟩
 have o:∀x∈((arrOf st).extract (c+f) (c+f+l)).toList,x∈a₀.toList/\ρ L<=ρ x/\ρ x<ρ z:=fun x hx=>by
  obtain⟨d,d1,d2,d3,M⟩:=rH hx;have q1:=llt (d-(c+f)) ω;rw[show c+f+(d-(c+f))=d from ω,bx M] at q1;have I:=S (c+f) d ω ω ω;rw[bx M,bx W] at I;exact⟨P.mem (fg M),I,q1⟩
 have lA:Le ρ ((arrOf st).extract (c+k) (c+f)).toList:=FX (fun x y h1 h2 H=>U x y ω h2 H) ω;have lB:Le ρ ((arrOf st).extract (c+f) (c+f+l)).toList:=FX (fun x y h1 h2 H=>S x y h1 h2 ω) ω;have cH:∀x∈((arrOf st).extract (c+k) (c+f)).toList,∀y,((arrOf st).extract (c+f) (c+f+l))[0]?=some y->ρ y<ρ x:=fun x hx y hy=>by
  rw[FY ω ω,Sr,W] at hy;cases hy;exact(j x hx).2.1
 have hzz:∀z',((arrOf st).extract (c+k) (c+f))[((arrOf st).extract (c+k) (c+f)).size-1]?=some z'->∀y∈((arrOf st).extract (c+f) (c+f+l)).toList,ρ y<ρ z':=fun z' aL y hy=>by
  rw[sA,FY ω ω,show c+k+(f-k-1)=c+f-1 from ω,n6] at aL;cases aL;exact(o y hy).2.2
 have done:∀(r:Array Keyed)(F:SortSt),bY ρ ((arrOf st).extract (c+k) (c+f)) ((arrOf st).extract (c+f) (c+f+l)) aZ r F->
   Q true (setArr F (putAll (arrOf F) (c+k) r.toList 0)):=fun r F ⟨S3,pm,ls⟩=>by
  have a3:arrOf F=arrOf st:=S3.arr.trans a2;have rl:r.toList.length=f-k+l:=by
   have:=pm.length_eq;rw[Ar] at this;simp only[AE] at this ⊢;rw[sA,N] at this;exact this
  have get:∀x,(putAll (arrOf st) (c+k) r.toList 0)[x]?=if c+k<=x/\x<c+f+l then r.toList[x-(c+k)]? else(arrOf st)[x]?:=fun x=>by
   have:=CL r.toList (arrOf st) (c+k) 0 ω x;rw[this,Sr,rl,show c+k+(f-k+l)=c+f+l from ω]
  have rm:∀x∈r.toList,ρ L<=ρ x/\ρ x<=ρ z:=fun x hx=>by
   rcases Qm.mp (pm.mem_iff.mp hx) with q1|q1
   ·exact⟨Q0 (j x q1).2.1,(j x q1).2.2⟩
   ·exact⟨(o x q1).2.1,Q0 (o x q1).2.2⟩
  rw[a3];refine fin _ ?_ (S3.pend.trans p2) (fun x hx=>?_) ?_
  ·have bw:=S3.b g
   refine bw.setArr ?_;rw[RN,K7 ω,a3];have e4:(arrOf st).toList=(arrOf st).toList.take (c+k)++((((arrOf st).extract (c+k) (c+f)).toList++((arrOf st).extract (c+f) (c+f+l)).toList)++(arrOf st).toList.drop (c+k+r.toList.length)):=by
    conv=>lhs;rw[<-QS (c+k) (arrOf st).toList]
    rw[rz (c+k) (f-k),rz (c+k+(f-k)) l,show c+k+(f-k)=c+f from ω,show c+k+r.toList.length=c+f+l from ω,A1]
   conv=>rhs;rw[e4]
   exact List.Perm.append_left _ (List.Perm.append_right _ pm)
  ·show(putAll (arrOf st) (c+k) r.toList 0)[x]?=_
   rw[get,Ti ω]
  ·show bM ρ (putAll (arrOf st) (c+k) r.toList 0) c (c+f+G)
   have T:∀x,¬(c+k<=x/\x<c+f+l)->R ρ (putAll (arrOf st) (c+k) r.toList 0) x=R ρ (arrOf st) x:=fun x hx=>im (by rw[get,Ti hx]);have RI:∀x,c+k<=x->x<c+f+l->∃u,r.toList[x-(c+k)]?=some u/\u∈r.toList/\R ρ (putAll (arrOf st) (c+k) r.toList 0) x=ρ u:=fun x h1 h2=>by
    have O:x-(c+k)<r.toList.length:=ω
    exact⟨r.toList[x-(c+k)],getElem?_pos r.toList _ O,Bi O,bx (by rw[get,Th ⟨h1,h2⟩];exact getElem?_pos r.toList _ O)⟩
   have low:∀x,c<=x->x<c+k->R ρ (arrOf st) x<=ρ L:=fun x h1 h2=>by
    have q1:=kle (x-c) ω;rw[show c+(x-c)=x from ω] at q1;exact q1
   have J:∀x,c+f+l<=x->x<c+f+G->ρ z<=R ρ (arrOf st) x:=fun x h1 h2=>by
    have q1:=Y (x-(c+f)) ω ω;rw[show c+f+(x-(c+f))=x from ω] at q1;exact q1
   intro x y h1 h2 H
   by_cases x1:x<c+k
   ·rw[T x ω]
    have q1:=low x h1 x1
    by_cases y1:y<c+k
    ·rw[T y ω]
     exact U x y h1 h2 ω
    ·by_cases y2:y<c+f+l
     ·obtain⟨u,_,mu,eu⟩:=RI y ω y2
      rw[eu];exact QZ q1 (rm u mu).1
     ·rw[T y ω]
      have:=J y ω H;omega
   ·by_cases x2:x<c+f+l
    ·obtain⟨u,gu,mu,eu⟩:=RI x ω x2
     rw[eu]
     by_cases y2:y<c+f+l
     ·obtain⟨v,gv,mv,ev⟩:=RI y ω y2
      rw[ev];exact ip ls (by rw[<-QT];exact gu) (by rw[<-QT];exact gv) ω
     ·rw[T y ω]
      exact QZ (rm u mu).2 (J y ω H)
    ·rw[T x ω,T y ω]
     exact S x y ω h2 H
 by_cases c3:f-k<=l
 ·rw[Th c3]
  refine wpS_bind (KZ C g (fun x hx=>(j x hx).1) (fun x hx=>(o x hx).1) lA lB (show 1<=((arrOf st).extract (c+k) (c+f)).size by rw[sA];omega) (show 1<=((arrOf st).extract (c+f) (c+f+l)).size by rw[N];omega) (fun x hx y hy=>Q0 (cH x hx y hy)) hzz fun r F hr=>?_);refine wpS_bind (wpS_modify (wpS_bind (wpS_get (wpS_pure ?_))));have hf:failedOf F=none:=(hr.1.b g).failed;show Q (failedOf F).isNone _;rw[hf];exact done r F hr
 ·rw[Ti c3]
  refine wpS_bind (K6 C g (fun x hx=>(j x hx).1) (fun x hx=>(o x hx).1) lA lB (show 1<=((arrOf st).extract (c+k) (c+f)).size by rw[sA];omega) (show 1<=((arrOf st).extract (c+f) (c+f+l)).size by rw[N];omega) cH hzz fun r F hr=>?_);refine wpS_bind (wpS_modify (wpS_bind (wpS_get (wpS_pure ?_))));have hf:failedOf F=none:=(hr.1.b g).failed;show Q (failedOf F).isNone _;rw[hf];exact done r F hr
end
def Seg.pow{ρ:Keyed->Int}{xs:Array Keyed}:∀{l a:List (Nat×Nat×Nat)}{lo hi:Nat},Seg ρ xs lo l hi->a.map (fun x=>(x.1,x.2.1))=l.map (fun x=>(x.1,x.2.1))->Seg ρ xs lo a hi
 |[],[],_,_,h,_=>h
 |[],_::_,_,_,_,e=>by simp at e
 |_::_,[],_,_,_,e=>by simp at e
 |(s,n,p)::l,(s',n',p')::a,lo,hi,h,e=>by
  simp only[At,List.cons.injEq,Prod.mk.injEq] at e;obtain⟨⟨rfl,rfl⟩,e⟩:=e;exact⟨h.1,h.2.1,h.2.2.1,h.2.2.2.pow e⟩
def FZ(a:Array (Nat×Nat×Nat))(i c:Nat):(a.modify i fun x=>(x.1,x.2.1,c)).toList.map (fun x=>(x.1,x.2.1))=a.toList.map (fun x=>(x.1,x.2.1)):=by
 rw[Array.toList_modify];apply RH;intro k;rw[Ag,Ag,List.getElem?_modify];cases e:a.toList[k]? with
 |none=>simp
 |some x=>
  simp only[AQ];split<;>rfl
def Seg.one{ρ:Keyed->Int}{xs:Array Keyed}{l:List (Nat×Nat×Nat)}{hi:Nat}(h:Seg ρ xs 0 l hi)(c:l.length<=1):bM ρ xs 0 hi:=by
 match l,h,c with
 |[],h,_=>
  have e:0=hi:=h;subst e;intro i j _ _ d;omega
 |[(s,n,p)],h,_=>
  obtain⟨_,_,h2,a⟩:=h;have e:0+n=hi:=a;subst e;exact h2
section
variable{prog:Program}{w:World}{A:Around}{E:Ω}{s:Shared}{κ:SortKind}{a₀:Array Keyed}{ρ:Keyed->Int}
def K'(C:cW prog w A s κ a₀ ρ){st:SortSt}{Q:Unit->SortSt->Prop}(hB:B κ a₀ st)(hp:AF st=#[])(h:∀d,B κ a₀ d->bM ρ (arrOf d) 0 a₀.size->Q () d):wpS (model prog w) A E s sortRuns' Q st:=by
 rw[sortRuns'_eq];refine wpS_bind (wpS_get ?_);dsimp only;simp only[hB.size];refine wpS_bind (wpS_mono (wpS_forRange
  (I:=fun x c d=>∃lo,c=(none,lo)/\B κ a₀ d/\Seg ρ (arrOf d) 0 (AF d).toList lo/\lo<=a₀.size/\x<=lo)
  (Q:=fun c d=>c=(none,a₀.size)/\B κ a₀ d/\Seg ρ (arrOf d) 0 (AF d).toList a₀.size) ?step ?fin ⟨0,rfl,hB,by rw[hp];exact rfl,ω,ω⟩) ?post)
 case fin=>
  rintro c d ⟨lo,rfl,p,hS,h1,h2⟩;have e:lo=a₀.size:=ω
  subst e;exact⟨rfl,p,hS⟩
 case step=>
  rintro x c a9 _ hx ⟨lo,rfl,rB,iG,h1,h2⟩;dsimp only
  by_cases P:lo ≥ a₀.size
  ·rw[Th P]
   have e:lo=a₀.size:=ω
   subst e;exact wpS_pure ⟨rfl,rB,iG⟩
  rw[Ti P];refine wpS_bind (KO C ω ω rB fun m H l P2 T m2 M=>?_);dsimp only;have v:Seg ρ (arrOf H) 0 (AF H).toList lo:=by rw[P2.pend];exact iG.congr fun k _ b=>P2.arr k b
  have tail:∀(n:Nat)(g:SortSt)(D:ForInStep (Option Unit×Nat)->SortSt->Prop),B κ a₀ g->Seg ρ (arrOf g) 0 (AF g).toList lo->1<=n->lo+n<=a₀.size->bM ρ (arrOf g) lo (lo+n)->
    (∀d,B κ a₀ d->Seg ρ (arrOf d) 0 (AF d).toList (lo+n)->D (.yield (none,lo+n)) d)->
    (∀d,B κ a₀ d->Seg ρ (arrOf d) 0 (AF d).toList lo->bM ρ (arrOf d) lo (lo+n)->wpS (model prog w) A E s (do
     modify fun s=>setPending s ((AF s).push (lo,n,0))
     pure (ForInStep.yield (none,lo+n))) D d):=by
   intro n g D _ _ n1 n2 _ hq d p r U;refine wpS_bind (wpS_modify (wpS_pure (hq _ ⟨p.perm,p.kind,p.failed⟩ ?_)));show Seg ρ (arrOf d) 0 ((AF d).push (lo,n,0)).toList (lo+n);rw[RG];exact Seg.app.mpr ⟨lo,r,rfl,n1,U,rfl⟩
  have u:∀(n pw:Nat)(g:SortSt)(f:Nat->Option Unit×Unit->StateT SortSt Sem (ForInStep (Option Unit×Unit))),B κ a₀ g->Seg ρ (arrOf g) 0 (AF g).toList lo->bM ρ (arrOf g) lo (lo+n)->lo+n<=a₀.size->
    (∀x d(D:ForInStep (Option Unit×Unit)->SortSt->Prop),B κ a₀ d->Seg ρ (arrOf d) 0 (AF d).toList lo->D (.done (none,())) d->
     (∀o,B κ a₀ o->Seg ρ (arrOf o) 0 (AF o).toList lo->(∀k,lo<=k->(arrOf o)[k]?=(arrOf d)[k]?)->D (.yield (none,())) o)->wpS (model prog w) A E s (f x (none,())) D d)->
    wpS (model prog w) A E s (forIn [0:a₀.size] (none,()) f) (fun c d=>c=(none,())/\B κ a₀ d/\Seg ρ (arrOf d) 0 (AF d).toList lo/\bM ρ (arrOf d) lo (lo+n)) g:=by
   intro n pw g f F G L hz hf;refine wpS_forRange (I:=fun _ c d=>c=(none,())/\B κ a₀ d/\Seg ρ (arrOf d) 0 (AF d).toList lo/\bM ρ (arrOf d) lo (lo+n)) ?_ (fun _ _ q=>q) ⟨rfl,F,G,L⟩;rintro x c d _ _ ⟨rfl,p,r,U⟩;refine hf x d _ p r ⟨rfl,p,r,U⟩ fun o N O hk=>⟨rfl,N,O,fun i j a b c=>?_⟩;rw[im (hk i a),im (hk j ω)];exact U i j a b c
  have whole:∀(n:Nat)(g:SortSt),B κ a₀ g->Seg ρ (arrOf g) 0 (AF g).toList lo->1<=n->lo+n<=a₀.size->bM ρ (arrOf g) lo (lo+n)->True:=fun _ _ _ _ _ _ _=>trivial;have fin2:∀n d,1<=n->lo+n<=a₀.size->B κ a₀ d->Seg ρ (arrOf d) 0 (AF d).toList (lo+n)->∃W,((none,lo+n):Option Unit×Nat)=(none,W)/\B κ a₀ d/\Seg ρ (arrOf d) 0 (AF d).toList W/\W<=a₀.size/\x+1<=W:=
   fun n d n1 n2 b sg=>⟨_,rfl,b,sg,n2,ω⟩
  by_cases S:m<minRun' a₀.size a₀.size 0
  ·rw[Th S]
   refine wpS_bind (wpS_lift (wpAny_rule ⟨rfl,?_⟩));refine wpS_bind (KP C ω ω l M fun g F P3 L=>?_);simp only[QV,Av,if_false];have G:Seg ρ (arrOf g) 0 (AF g).toList lo:=by rw[P3.pend];exact v.congr fun k _ b=>P3.arr k b
   refine wpS_bind (wpS_get ?_);cases hb:(AF g).back? with
   |none=>
    dsimp only;exact tail _ g _ F G ω ω L (fun d b sg=>fin2 _ d ω ω b sg) g F G L
   |some y=>
    obtain⟨s1,n1,p1⟩:=y;dsimp only;refine wpS_bind (wpS_mono (u _ 0 g _ F G L ω ?_) ?_)
    ·intro x d D p r q1 X
     refine wpS_bind (wpS_get ?_)
     by_cases hsz:(AF d).size>1
     ·rw[Th hsz]
      obtain⟨⟨o1,o2,o3⟩,Y⟩:∃y,(AF d)[(AF d).size-2]?=some y:=⟨_,getElem?_pos _ _ ω⟩;rw[Y];dsimp only;split
      ·exact wpS_pure q1
      ·refine wpS_bind (CM C p r h1 ω fun o N O _ hk=>?_)
       simp only[QV,Av,if_false];exact wpS_pure (X o N O hk)
     ·rw[Ti hsz]
      exact wpS_pure q1
    ·rintro c wb ⟨rfl,J,fU,pG⟩
     dsimp only;refine wpS_bind (wpS_modify ?_);refine tail _ g _ F G ω ω L (fun d b sg=>fin2 _ d ω ω b sg) _ ⟨J.perm,J.kind,J.failed⟩ ?_ pG;exact fU.pow (FZ _ _ _)
  ·rw[Ti S]
   refine wpS_bind (wpS_get ?_);cases hb:(AF H).back? with
   |none=>
    dsimp only;exact tail _ H _ l v T ω M (fun d b sg=>fin2 _ d T ω b sg) H l v M
   |some y=>
    obtain⟨s1,n1,p1⟩:=y;dsimp only;refine wpS_bind (wpS_mono (u _ 0 H _ l v M ω ?_) ?_)
    ·intro x d D p r q1 X
     refine wpS_bind (wpS_get ?_)
     by_cases hsz:(AF d).size>1
     ·rw[Th hsz]
      obtain⟨⟨o1,o2,o3⟩,Y⟩:∃y,(AF d)[(AF d).size-2]?=some y:=⟨_,getElem?_pos _ _ ω⟩;rw[Y];dsimp only;split
      ·exact wpS_pure q1
      ·refine wpS_bind (CM C p r h1 ω fun o N O _ hk=>?_)
       simp only[QV,Av,if_false];exact wpS_pure (X o N O hk)
     ·rw[Ti hsz]
      exact wpS_pure q1
    ·rintro c wb ⟨rfl,J,fU,pG⟩
     dsimp only;refine wpS_bind (wpS_modify ?_);refine tail _ H _ l v T ω M (fun d b sg=>fin2 _ d T ω b sg) _ ⟨J.perm,J.kind,J.failed⟩ ?_ pG;exact fU.pow (FZ _ _ _)
 case post=>
  rintro c d ⟨rfl,p,r⟩;dsimp only;refine wpS_bind (wpS_mono (wpS_forRange (I:=fun x c o=>c=(none,())/\B κ a₀ o/\Seg ρ (arrOf o) 0 (AF o).toList a₀.size/\((AF o).size<=1\/(AF o).size+x<=a₀.size))
   (Q:=fun c o=>c=(none,())/\B κ a₀ o/\bM ρ (arrOf o) 0 a₀.size) ?fstep ?ffin ⟨rfl,p,r,.inr ?_⟩) ?fpost)
  case ffin=>
   rintro c o ⟨rfl,l,v,hh⟩;exact⟨rfl,l,v.one (by rw[AE];omega)⟩
  case fpost=>
   rintro c o ⟨rfl,l,sr⟩;exact wpS_pure (h _ l sr)
  case fstep=>
   rintro x c o _ hx ⟨rfl,l,v,hh⟩;refine wpS_bind (wpS_get ?_)
   by_cases hsz:(AF o).size<=1
   ·rw[Th hsz]
    exact wpS_pure ⟨rfl,l,v.one (by rw[AE];omega)⟩
   ·rw[Ti hsz]
    refine wpS_bind (CM C l v (Af _) ?_ fun g F G lI _=>?_)
    ·repeat' split
     all_goals omega
    ·simp only[QV,Av,if_false]
     exact wpS_pure ⟨rfl,F,G,ω⟩
  ·have:=r.le
   rw[AE] at this;omega
end
end Tim
end
section
namespace bM
open PySem PyProof.Rows HT
def CN:∀a:List Int,lexLt a a=false
 |[]=>rfl
 |x::a=>by rw[zM,Th rfl];exact CN a
def mm:∀{a b c:List Int},lexLt a b=true->lexLt b c=true->lexLt a c=true
 |[],[],_,h,_=>by cases h
 |[],_::_,[],_,h=>by cases h
 |[],_::_,_::_,_,_=>rfl
 |_::_,[],_,h,_=>by cases h
 |_::_,_::_,[],_,h=>by cases h
 |x::a,y::b,z::c,h1,h2=>by
  rw[zM] at h1 h2 ⊢
  by_cases e1:x=y
  ·rw[Th e1] at h1
   by_cases e2:y=z
   ·rw[Th e2] at h2
    rw[Th (e1.trans e2)];exact mm h1 h2
   ·rw[Ti e2] at h2
    rw[Ti ω];have:=Tl h2;exact Tj ω
  ·rw[Ti e1] at h1
   have q1:=Tl h1
   by_cases e2:y=z
   ·rw[Ti ω]
    exact Tj ω
   ·rw[Ti e2] at h2
    have d:=Tl h2;rw[Ti ω];exact Tj ω
def F0:∀{a b:List Int},lexLt a b=false->lexLt b a=false->a=b
 |[],[],_,_=>rfl
 |[],_::_,h,_=>by cases h
 |_::_,[],_,h=>by cases h
 |x::a,y::b,h1,h2=>by
  rw[zM] at h1 h2
  by_cases e:x=y
  ·subst e
   rw[Th rfl] at h1 h2;rw[F0 h1 h2]
  ·rw[Ti e] at h1
   rw[Ti (Ne.symm e)] at h2;have:=of_decide_eq_false h1;have:=of_decide_eq_false h2;omega
noncomputable def rk(ls:Ξ)(l:List Int):Int:=((ls.filter fun m=>lexLt m l).length:Nat)
def F2{ls:Ξ}{l m:List Int}(f:l∈ls)(hm:m∈ls):decide (rk ls l<rk ls m)=lexLt l m:=by
 have mono:∀{a b:List Int},(∀x,lexLt x a=true->lexLt x b=true)->∀k:Ξ,(k.filter fun x=>lexLt x a).length<=(k.filter fun x=>lexLt x b).length:=by
  intro a b c k
  induction k with
  |nil=>exact Af _
  |cons x k ih=>
   rw[RU,RU]
   by_cases q:lexLt x a=true
   ·rw[Th q,Th (c x q),AB,AB];omega
   ·rw[Ti q]
    split
    ·rw[AB];omega
    ·exact ih
 have d:∀{a b:List Int},(∀x,lexLt x a=true->lexLt x b=true)->lexLt a b=true->∀k:Ξ,a∈k->(k.filter fun x=>lexLt x a).length<(k.filter fun x=>lexLt x b).length:=by
  intro a b c h k
  induction k with
  |nil=>intro q;cases q
  |cons x k ih=>
   intro hk;rw[RU,RU];rcases Qk.mp hk with e|e
   ·subst e
    rw[Ti (by rw[CN];exact An),Th h,AB];have:=mono c k;omega
   ·have:=ih e
    by_cases q:lexLt x a=true
    ·rw[Th q,Th (c x q),AB,AB];omega
    ·rw[Ti q]
     split
     ·rw[AB];omega
     ·exact this
 unfold rk;cases q:lexLt l m with
 |true=>
  have:=d (a:=l) (b:=m) (fun x hx=>mm hx q) q ls f;exact Tj ω
 |false=>
  have:=mono (a:=m) (b:=l) (fun x hx=>by
   cases z:lexLt x l with
   |true=>rfl
   |false=>
    cases z2:lexLt l x with
    |true=>rw[mm z2 hx] at q;cases q
    |false=>rw[F0 z z2] at hx;rw[hx] at q;cases q) ls
  exact Tk ω
structure By(prog:Program)(w:World)(A:Around)(good:Heap->Prop)(us:List Value)(ls:Ξ):Prop where
 len:us.length=ls.length
 fn:∀(i j:Nat) u l m,us[i]?=some u->us[j]?=some u->ls[i]?=some l->ls[j]?=some m->l=m
 ask:2<=us.length->∃κ:SortKind,(∀(s:Shared)(Q:SortKind->Shared->Prop)(E:Ω),good s.heap->Q κ s->wpAny (model prog w) A (keyKind' us.toArray) Q E s)/\
  ∀(i j:Nat) u v l m,us[i]?=some u->us[j]?=some v->ls[i]?=some l->ls[j]?=some m->∀(s:Shared)(Q:Bool->Shared->Prop)(E:Ω),good s.heap->Q (lexLt l m) s->wpAny (model prog w) A (keyLt' κ u v) Q E s
open Classical in
noncomputable def mr(us:List Value)(ls:Ξ)(u:Value):List Int:=if h:∃l,∃i:Nat,us[i]?=some u/\ls[i]?=some l then h.choose else []
def oI{us:List Value}{ls:Ξ}(fn:∀(i j:Nat) u l m,us[i]?=some u->us[j]?=some u->ls[i]?=some l->ls[j]?=some m->l=m){i:Nat}{u:Value}{l:List Int}(h1:us[i]?=some u)(h2:ls[i]?=some l):mr us ls u=l:=by
 unfold mr;have h:∃l,∃i:Nat,us[i]?=some u/\ls[i]?=some l:=⟨l,i,h1,h2⟩;rw[dif_pos h];obtain⟨j,e1,e2⟩:=h.choose_spec;exact fn j i u _ l e1 h1 e2 h2
noncomputable def mw(us:List Value)(ls:Ξ)(p:Keyed):Int:=rk ls (mr us ls p.1)
section
variable{prog:Program}{w:World}{A:Around}{E:Ω}{s:Shared}{good:Heap->Prop}{us vs:List Value}{ls:Ξ}
def jA(h:us.length=vs.length){p:Keyed}(hp:p∈(us.toArray.zip vs.toArray).toList):∃i:Nat,us[i]?=some p.1/\vs[i]?=some p.2:=by
 have e:(us.toArray.zip vs.toArray).toList=us.zip vs:=by simp
 rw[e] at hp;obtain⟨i,hi,e2⟩:=Rq.mp hp;rw[List.getElem_zip] at e2;rw[RD] at hi;refine⟨i,?_,?_⟩
 ·rw[Ah ω,<-e2]
 ·rw[Ah ω,<-e2]
def La(B:By prog w A good us ls)(d:us.length=vs.length)(f:good s.heap){κ:SortKind}(h2:2<=us.length)(p:us.length<1000)(hk:∀(i j:Nat) u v l m,us[i]?=some u->us[j]?=some v->ls[i]?=some l->ls[j]?=some m->∀(s:Shared)(Q:Bool->Shared->Prop)(E:Ω),good s.heap->Q (lexLt l m) s->wpAny (model prog w) A (keyLt' κ u v) Q E s){Q:Unit->SortSt->Prop}(h:∀a,(arrOf a).Perm (us.toArray.zip vs.toArray)->failedOf a=none->Tim.bM (mw us ls) (arrOf a) 0 vs.length->Q () a):wpS (model prog w) A E s sortRuns' Q (SortSt.mk' κ (us.toArray.zip vs.toArray) #[] 7 none):=by
 have hz:(us.toArray.zip vs.toArray).size=vs.length:=by simp;omega
 refine Tim.K' (κ:=κ) (a₀:=us.toArray.zip vs.toArray) (ρ:=mw us ls) ⟨fun x y hx hy g o hq=>?_⟩ ⟨Array.Perm.refl _,rfl,rfl⟩ rfl fun a b e=>h a b.perm b.failed (by rw[<-hz];exact e);obtain⟨i,e1,_⟩:=jA d hx;obtain⟨j,e2,_⟩:=jA d hy;have hi:i<ls.length:=by rw[<-B.len];exact(KK.mp e1).1
 have c:j<ls.length:=by rw[<-B.len];exact(KK.mp e2).1
 have f1:ls[i]?=some ls[i]:=Ah hi;have f2:ls[j]?=some ls[j]:=Ah c;refine hk i j _ _ _ _ e1 e2 f1 f2 s g o f ?_;unfold mw at hq;rw[oI B.fn e1 f1,oI B.fn e2 f2,F2 (Bi hi) (Bi c)] at hq;exact hq
def cG{a c:Type}:∀(l:List a)(m:List c)(i:Nat),(l.zip m)[i]?=(l[i]?).bind fun x=>(m[i]?).map fun y=>(x,y)
 |[],m,i=>by simp
 |x::l,[],i=>by cases h:(x::l)[i]?<;>simp
 |x::l,y::m,0=>rfl
 |x::l,y::m,i+1=>by
  rw[SS,Rv,Rv,Rv];exact cG l m i
def Lb(B:By prog w A good us ls)(o:us.length=vs.length){xs:Array Keyed}(hp:xs.Perm (us.toArray.zip vs.toArray))(C:Tim.bM (mw us ls) xs 0 vs.length):∃ps:List (List Int×Value),ps.Perm (ls.zip vs)/\xs.toList.map (·.2)=ps.map (·.2)/\ps.Pairwise fun(a b:List Int×Value)=>HT.lexLt b.1 a.1=false:=by
 have f:xs.toList.Perm (us.zip vs):=by
  have:=RN.mp hp
  simpa using this
 refine⟨xs.toList.map fun p=>(mr us ls p.1,p.2),?_,by rw[Am];rfl,?_⟩
 ·have e:(us.zip vs).map (fun p:Keyed=>(mr us ls p.1,p.2))=ls.zip vs:=by
   apply RH;intro i;rw[Ag,cG,cG];cases e1:us[i]? with
   |none=>
    have:ls[i]?=none:=QU (by rw[<-B.len];exact List.getElem?_eq_none_iff.mp e1);rw[this];rfl
   |some u=>
    have hi:i<ls.length:=by rw[<-B.len];exact(KK.mp e1).1
    have f1:ls[i]?=some ls[i]:=Ah hi;rw[f1];cases e2:vs[i]? with
    |none=>rfl
    |some v=>
     show some (mr us ls u,v)=some (ls[i],v);rw[oI B.fn e1 f1]
  rw[<-e];exact f.map _
 ·rw[AX,Qu]
  intro i j hi l r;have hsz:xs.size=vs.length:=by
   have:=f.length_eq;rw[AE,RD] at this;omega
  rw[AE] at hi l;have q:=C i j (A6 _) (Q5 r) ω;have x:xs[i]?=some xs[i]:=getElem?_pos xs i hi;have y:xs[j]?=some xs[j]:=getElem?_pos xs j l;rw[Tim.bx x,Tim.bx y] at q;simp only[Array.getElem_toList];obtain⟨g,g1,_⟩:=jA o (p:=xs[i]) (by
   have:=f.mem_iff.mp (show xs[i]∈xs.toList by simp)
   simpa using this)
  obtain⟨h,g2,_⟩:=jA o (p:=xs[j]) (by
   have:=f.mem_iff.mp (show xs[j]∈xs.toList by simp)
   simpa using this)
  have c:g<ls.length:=by rw[<-B.len];exact(KK.mp g1).1
  have d:h<ls.length:=by rw[<-B.len];exact(KK.mp g2).1
  have f1:ls[g]?=some ls[g]:=Ah c;have f2:ls[h]?=some ls[h]:=Ah d;unfold mw at q;rw[oI B.fn g1 f1,oI B.fn g2 f2] at q ⊢;have:=F2 (ls:=ls) (Bi d) (Bi c);rw[<-this];exact Tk ω
end
end bM
end
section
namespace bM
open PySem PyProof.Rows PySem.W
section
variable{prog:Program}{w:World}{A:Around}{E:Ω}{s:Shared}{good:Heap->Prop}{us vs:List Value}{ls:Ξ}
def F5{ns:List Int}(hi:IntsAre us ns):By prog w A (fun _=>True) us (ns.map fun n=>[n]):=by
 have a:=hi.length;have d:∀(i:Nat) u l,us[i]?=some u->(ns.map fun n=>[n])[i]?=some l->∃n t,u=.int n t/\l=[n]:=fun i u l h1 h2=>by
  obtain⟨t,e⟩:=IntsAre.int_at hi i u h1;rw[Ag] at h2;cases e2:ns[i]? with
  |none=>rw[e2] at h2;cases h2
  |some n=>
   rw[e2] at h2;have e3:ns.getD i 0=n:=by rw[List.getD_eq_getElem?_getD,e2];rfl
   rw[e3] at e;exact⟨n,t,e,(Al h2).symm⟩
 refine⟨by rw[Ab,a],fun i j u l m h1 h2 f g=>?_,fun h2=>⟨oneType',fun s Q E _ hq=>?_,fun i j u v l m h1 h2 f g s Q E _ hq=>?_⟩⟩
 ·obtain⟨n,t,e1,rfl⟩:=d i u l h1 f
  obtain⟨c,t',e2,rfl⟩:=d j u m h2 g;rw[e1] at e2;cases e2
  rfl
 ·match us,hi,h2 with
  |[],_,h2=>simp at h2
  |[_],_,h2=>simp at h2
  |v₁::v₂::rest,hi,_=>
   rw[keyKind_ints hi];exact Ac hq
 ·obtain⟨n,t,rfl,rfl⟩:=d i u l h1 f
  obtain⟨c,t',rfl,rfl⟩:=d j v m h2 g;refine kat_lt_int ?_;have:HT.lexLt [n] [c]=decide (n<c):=by
   rw[HT.zM]
   by_cases e:n=c
   ·rw[Th e,HT.Fb];exact(Tk ω).symm
   ·rw[Ti e]
  rw[this] at hq;exact hq
def IsPr(h:Heap)(u:Value)(l:List Int):Prop:=∃(a b:Addr)(n:Int)(t:Tok)(af:List Value)(ps:List Int),u=.ref a/\l=n::ps/\IsTup h a #[.int n t,.ref b]/\IsTup h b af.toArray/\IntsAre af ps
def IsTup.inj{h:Heap}{a:Addr}{xs ys:Array Value}(h1:IsTup h a xs)(h2:IsTup h a ys):xs=ys:=by
 obtain⟨o,e,_,n,d⟩:=h1;obtain⟨o',e',_,c,d'⟩:=h2;rw[e] at e';cases e';rw[d] at d';injection d'
def IntsAre.inj{vs:List Value}{ns a:List Int}(h:IntsAre vs ns)(g:IntsAre vs a):ns=a:=by
 induction h generalizing a with
 |nil=>cases g;rfl
 |cons n t h ih=>cases g with|cons _ _ h'=>rw[ih h']
def IsPr.inj{h:Heap}{u:Value}{l m:List Int}(h1:IsPr h u l)(h2:IsPr h u m):l=m:=by
 obtain⟨a,b,n,t,af,ps,rfl,rfl,c,d,i1⟩:=h1;obtain⟨j,o,p,t',its',q,e,rfl,f,g,i⟩:=h2;cases e;have:=bM.IsTup.inj c f;cases this;have e2:=bM.IsTup.inj d g;have e3:af=its':=by simpa using e2
 subst e3;rw[IntsAre.inj i1 i]
def Lc{x y:Value}{l m:List Int}{Q:Bool->Shared->Prop}(h1:IsPr s.heap x l)(h2:IsPr s.heap y m)(hu:A.units<cLine)(hq:Q (HT.lexLt l m) s):wpAny (model prog w) A (keyLt' (tuples' true) x y) Q E s:=by
 obtain⟨a,b,n,t,af,ps,rfl,rfl,I,u,i1⟩:=h1;obtain⟨L,v,g,t',its',C,rfl,rfl,J,D,F⟩:=h2;obtain⟨o,e,hc,k,d⟩:=id I;obtain⟨o',e',hc',M,d'⟩:=id J;refine kat_lt e d e' d' ?_;show KatLex prog w A true (decide (2<2)) Q [(.int n t,.int g t'),(.ref b,.ref v)] 0 s;rw[HT.zM] at hq;refine kat_cons (wpAny_mono (SeqAt.EqAt.int_int n t g t' prog w (fun _ _=>False) _ ⟨rfl,rfl⟩:wpAny (model prog w) A (eqBool (.int n t) (.int g t')) (fun e s'=>e=(n==g)/\s'=s) (fun _ _=>False) s) (fun e1 j H=>?_) fun _ _ z=>z);obtain⟨rfl,rfl⟩:=H
 by_cases p:n=g
 ·have r:(n==g)=true:=by simpa using p
  rw[r];rw[Th p] at hq;refine kat_yes (kat_cons ?_);have G:∀{c:Addr}{cs:List Value}{i:List Int},IsTup j.heap c cs.toArray->IntsAre cs i->IsTupleKey (L2.zB prog w) j.heap (i.map Sum.inl) c:=fun{c cs i} hc hi=>by
   obtain⟨o,e,q,k,d⟩:=hc;refine⟨o,cs.toArray,k,e,q,d,?_⟩;have:∀{cs:List Value}{i:List Int},IntsAre cs i->ItemsAre (L2.zB prog w) (i.map Sum.inl) cs:=by
    intro cs i hi
    induction hi with
    |nil=>exact .nil
    |cons n t h ih=>exact .cons (L2.x3 prog w n t) ih
   simpa using this hi
  refine wpAny_eqBool_tuple (knd:=L2.zB prog w) hu (G u i1) (G D F) ?_
  by_cases ep:ps=C
  ·subst ep
   rw[Tj rfl];rw[CN] at hq;exact kat_yes (kat_nil hq)
  ·have:¬(ps.map Sum.inl:List L2.Key)=C.map Sum.inl:=fun z=>ep (RC (f:=(Sum.inl:Int->L2.Key)) (fun x y h=>Sum.inl.inj h)|>.mp z)
   rw[Tk this];refine kat_no ?_;show wpAny (model prog w) A (oneLt' false (.ref b) (.ref v)) Q (fun _ _=>False) j;exact kat_one _ _ (HT.J4 u D (by simpa using i1) (by simpa using F) hu hq)
 ·have r:(n==g)=false:=by simpa using p
  rw[r];rw[Ti p] at hq;refine kat_no ?_;show wpAny (model prog w) A (oneLt' true (.int n t) (.int g t')) Q (fun _ _=>False) j;exact oneLt_int hq
def F_{h:Heap}:∀{us:List Value}{ls:Ξ},us.length=ls.length->(∀(i:Nat) u l,us[i]?=some u->ls[i]?=some l->IsPr h u l)->∃fs,KatTups h us fs/\fs.length=us.length/\∀f∈fs,∃n t,f=Value.int n t
 |[],[],_,_=>⟨[],.nil,rfl,fun f hf=>nomatch hf⟩
 |u::us,l::ls,hl,hp=>by
  obtain⟨fs,c,g,j⟩:=F_ (us:=us) (ls:=ls) (by simpa using hl) fun i u l h1 h2=>hp (i+1) u l (by simpa using h1) (by simpa using h2);obtain⟨a,b,n,t,af,ps,rfl,rfl,p,q,i1⟩:=hp 0 u l rfl rfl;obtain⟨o,e,hc,k,d⟩:=id p;refine⟨.int n t::fs,.cons e hc d rfl c,by simp[g],fun f hf=>?_⟩;rcases Qk.mp hf with rfl|hf
  ·exact⟨n,t,rfl⟩
  ·exact j f hf
 |[],_::_,h,_=>by simp at h
 |_::_,[],h,_=>by simp at h
def Ld(g:us.length=ls.length)(hu:A.units<cLine)(q:∃h,good h)(hp:∀h,good h->∀(i:Nat) u l,us[i]?=some u->ls[i]?=some l->IsPr h u l):By prog w A good us ls:=by
 refine⟨g,fun i j u l m h1 h2 c d=>?_,fun h2=>⟨tuples' true,fun s Q E a hq=>?_,fun i j u v l m h1 h2 c d s Q E a hq=>?_⟩⟩
 ·obtain⟨h,e⟩:=q
  exact(hp h e i u l h1 c).inj (hp h e j u m h2 d)
 ·obtain⟨fs,o,r,p⟩:=F_ g (hp _ a)
  refine kat_kind (T:=.type "int") o ω (fun f hf=>?_) ξ hq;obtain⟨n,t,rfl⟩:=p f hf;exact Looks.of_pure rfl
 ·exact Lc (hp _ a i u l h1 c) (hp _ a j v m h2 d) hu hq
end
def Out(ls:Ξ)(vs out:List Value):Prop:=∃ps:List (List Int×Value),ps.Perm (ls.zip vs)/\out=ps.map (·.2)/\ps.Pairwise fun(a b:List Int×Value)=>HT.lexLt b.1 a.1=false
section
variable{prog:Program}{w:World}{A:Around}{E:Ω}{s:Shared}{good:Heap->Prop}{us vs:List Value}{ls:Ξ}
def Lf(a:ls.length=vs.length)(hu:us.length=vs.length)(h2:vs.length<2):Out ls vs ((us.toArray.zip vs.toArray).map (·.2)).toList:=by
 have e:((us.toArray.zip vs.toArray).map (·.2)).toList=vs:=by
  rw[Array.toList_map,show(us.toArray.zip vs.toArray).toList=us.zip vs by simp,List.map_snd_zip ω]
 rw[e];refine⟨ls.zip vs,List.Perm.refl _,by rw[List.map_snd_zip ω],?_⟩;have hz:(ls.zip vs).length<2:=by rw[RD];omega
 match ls.zip vs,hz with
 |[],_=>exact List.Pairwise.nil
 |[x],_=>simp
 |_::_::_,h=>simp only[AB] at h;omega
def Lg(B:By prog w A good us ls)(d:us.length=vs.length)(q:vs.length<1000)(j:good s.heap){P:PySem.Fin->Shared->Prop}{G:Unit×SortSt->Sem PySem.Fin}(h:∀a,Out ls vs ((arrOf a).map (·.2)).toList->(arrOf a).size=vs.length->failedOf a=none->wpAny (model prog w) A (G (PUnit.unit,a)) P E s):wpAny (model prog w) A (if vs.toArray.size<2 then(pure general' >>= fun kind=>(if vs.toArray.size<2 then pure () else sortRuns').run (SortSt.mk' kind (us.toArray.zip vs.toArray) #[] 7 none) >>= G)
   else(keyKind' us.toArray >>= fun kind=>(if vs.toArray.size<2 then pure () else sortRuns').run (SortSt.mk' kind (us.toArray.zip vs.toArray) #[] 7 none) >>= G)) P E s:=by
 have c:(us.toArray.zip vs.toArray).size=vs.length:=by rw[Array.size_zip,Ao,Ao];omega
 by_cases h2:vs.toArray.size<2
 ·rw[Th h2]
  refine Aa (Ac ?_);rw[Th h2];rw[StateT.run_pure];refine Aa (Ac ?_)
  try dsimp only
  rw[Ao] at h2;exact h (SortSt.mk' general' (us.toArray.zip vs.toArray) #[] 7 none) (Lf (by rw[<-B.len];exact d) d h2) c rfl
 ·rw[Ti h2,Ti h2]
  rw[Ao] at h2;obtain⟨κ,l,o⟩:=B.ask ω;refine Aa (l s _ E j ?_);refine Aa (wpAny_mono (La (Q:=fun _ a=>(arrOf a).Perm (us.toArray.zip vs.toArray)/\failedOf a=none/\Tim.bM (mw us ls) (arrOf a) 0 vs.length) B d j ω ω o fun a f g i=>⟨f,g,i⟩) ?_ fun _ _ e=>e);rintro⟨⟨⟩,a⟩ s' ⟨rfl,hp,hf,p⟩
  try dsimp only
  exact h a (by
   obtain⟨ps,f,g,i⟩:=Lb B d hp p;exact⟨ps,f,by rw[Array.toList_map];exact g,i⟩) (by rw[hp.size_eq];exact c) hf
def F'{a:Addr}{n:Nat}{P:PySem.Fin->Shared->Prop}(c:s.heap.get? a=some (seqObj "list" vs.toArray n))(B:By prog w A good vs ls)(g:∀h',(∀b o,b≠a->s.heap.get? b=some o->h'.get? b=some o)->good h')(hz:vs.length<=sizeLine)(i:vs.length<1000)(h:∀out:Array Value,Out ls vs out.toList->P (.done (.ret .none)) {s with heap:=sortedHeap s.heap a vs out}):wpAny (model prog w) A (Builtin.«list.sort» ⟨[.ref a],[]⟩) P E s:=by
 rw[list_sort_plain];have ha:a<s⁻¹:=Aq c;refine Aa (listItems_at c rfl ?_);refine Aa (listUpdate_at c rfl ?_ (by rw[Ao];exact hz) (A6 _));obtain⟨e1,d⟩:∃e1,(s.heap.update a (AS fun _=>#[])).get? a=some (seqObj "list" #[] e1):=⟨_,get?_update_seq c (fun _=>#[])⟩;refine Aa (seqEpoch_at d rfl ?_);refine Aa (wpAny_newTuple ?_ (by show vs.length<=_;exact hz));refine Aa (wpAny_newList ?_ (A6 _));refine AU ?_;have f:(((s.heap.update a (AS fun _=>#[])).push (seqObj "tuple" vs.toArray 0)).push (seqObj "list" #[] 0)).get? a=some (seqObj "list" #[] e1):=by
  rw[Heap.get?_push_ne _ _ _ (by rw[size_push',Heap.size_update];exact Au (Bb ha)),Heap.get?_push_ne _ _ _ (by rw[Heap.size_update];exact Au ha)];exact d
 show wpAny (model prog w) A _ P E {s with heap:=((s.heap.update a (AS fun _=>#[])).push (seqObj "tuple" vs.toArray 0)).push (seqObj "list" #[] 0)};dsimp only;refine Lg (s:={s with heap:=((s.heap.update a (AS fun _=>#[])).push (seqObj "tuple" vs.toArray 0)).push (seqObj "list" #[] 0)}) B rfl i (g _ fun b o hb e=>Ad _ (Ad _ (by rw[Heap.get?_update_ne _ _ _ _ hb];exact e))) fun j c hsz hf=>?_;dsimp only;refine Aa (seqEpoch_at f rfl ?_);refine Aa (listUpdate_at f rfl ?_ (A6 _) (AA (Nat.le_of_eq ((Array.size_map ..).trans hsz)) (Ss hz)));rw[hf];simp only[bne_self_eq_false,Av,if_false];exact Ac (h _ c)
def Ga{l:Addr}{Q:Ω}(e:s.heap.IsList l vs.toArray)(B:By prog w A.in1.in1 good vs ls)(f:∀h',(∀b o,s.heap.get? b=some o->h'.get? b=some o)->good h')(hz:vs.length<=sizeLine)(g:vs.length<1000)(h:∀out:Array Value,Out ls vs out.toList->Q (.ref (s⁻¹+1)) {s with heap:=sortedAll s.heap vs out}):wpAny (model prog w) A (call (.builtin "sorted") [.ref l]) Q E s:=by
 refine Calls.call_function_entry kind_sorted plain_sorted entry_sorted (args_sorted1 _) ?_;unfold Builtin.«sorted»;refine Aa (m:=checkCount "sorted" 1 1 _) (Ac ?_);refine Aa (collect_list e ?_ hz);refine Aa (wpAny_newList ?_ hz);have hsz:((s.heap.push (seqObj "list" #[] 0)).update s⁻¹ (AS (·++vs.toArray))).objs.size=s⁻¹+1:=by
  rw[Heap.size_update,size_push']
 have c:(((s.heap.push (seqObj "list" #[] 0)).update s⁻¹ (AS (·++vs.toArray))).push (seqObj "list" vs.toArray 0)).get? (s⁻¹+1)=some (seqObj "list" vs.toArray 0):=by
  rw[<-hsz];exact Ak _ rfl
 have keep:∀b o,s.heap.get? b=some o->(((s.heap.push (seqObj "list" #[] 0)).update s⁻¹ (AS (·++vs.toArray))).push (seqObj "list" vs.toArray 0)).get? b=some o:=fun b o q=>by
  have a:b<s⁻¹:=Aq q;rw[Heap.get?_push_ne _ _ _ (by rw[hsz];exact Au (Bb a)),Heap.get?_update_ne _ _ _ _ (Au a),Heap.get?_push_ne _ _ _ (Au a)];exact q
 show wpAny _ _ _ _ _ {s with heap:=((s.heap.push (seqObj "list" #[] 0)).update s⁻¹ (AS (·++vs.toArray))).push (seqObj "list" vs.toArray 0)};rw[hsz];refine Aa (AU (AK slot_list_sort ⟨_,c,rfl⟩ entry_list_sort (F' (s:={s with heap:=((s.heap.push (seqObj "list" #[] 0)).update s⁻¹ (AS (·++vs.toArray))).push (seqObj "list" vs.toArray 0)}) c B (fun h' hk=>f h' fun b o q=>hk b o (Au (Bb (Aq q))) (keep b o q)) hz g fun out d=>⟨_,rfl,?_⟩) (args_list_sort _)));exact Ac ⟨_,rfl,h out d⟩
end
end bM
end
section
namespace L2
open PySem PySem.Spec PyProof.Rows
noncomputable def clOf(cells:List (Str×Addr)):List (Str×NameKind)->List (Str×Addr)->List (Str×Addr)
 |[],acc=>acc
 |(n,k)::r,acc=>if(k==.free)=true then clOf cells r ((n,(cells.lookup n).getD 0)::acc) else clOf cells r acc
def Gb{env:Env}:∀(names:List (Str×NameKind))(acc:List (Str×Addr)),(∀x∈names,x.2=.free->∃c,env.cells.lookup x.1=some c)-> (forIn names acc fun x(r:List (Str×Addr))=>if(x.2==.free)=true then do let c <-cellOf env x.1;pure (ForInStep.yield ((x.1,c)::r)) else pure (ForInStep.yield r):Sem (List (Str×Addr)))=pure (clOf env.cells names acc)
 |[],acc,_=>rfl
 |(n,k)::r,acc,h=>by
  rw[SH];have d:=fun a=>Gb (env:=env) r a fun x hx=>h x (Aw _ hx);unfold clOf
  by_cases hk:(k==A7)=true
  ·have e:k=.free:=by cases k<;>first|rfl|cases hk
   obtain⟨c,hc⟩:=h (n,k) Ay e;simp only[hk,if_true];unfold cellOf;rw[hc];simp only[pure_bind,RV];exact d _
  ·simp only[hk,Av,if_false,pure_bind]
   exact d _
def Lh{scope:Scope}{env:Env}(h:∀x∈scope.names,x.2=.free->∃c,env.cells.lookup x.1=some c):closureFor scope env=pure (clOf env.cells scope.names []):=by
 rw[<-Gb scope.names [] h];unfold closureFor;simp
def CO{x:Str}{c:Addr}:∀{l:List (Str×Addr)},(x,c)∈l->∃d,l.lookup x=some d
 |[],h=>nomatch h
 |(y,d)::l,h=>by
  rw[AY]
  by_cases e:x=y
  ·subst e;exact⟨d,by simp⟩
  ·have hb:(x==y)=false:=by simpa using e
   rw[hb];rcases Qk.mp h with q|q
   ·cases q;exact absurd rfl e
   ·exact CO q
def rS{cells:List (Str×Addr)}{x:Str}:∀{names:List (Str×NameKind)}{acc:List (Str×Addr)},((x,A7)∈names\/∃c,(x,c)∈acc)->∃c,(x,c)∈clOf cells names acc
 |[],acc,h=>h.elim (fun q=>nomatch q) id
 |(n,k)::r,acc,h=>by
  unfold clOf
  by_cases hk:(k==A7)=true
  ·rw[Th hk]
   refine rS ?_;rcases h with h|⟨c,h⟩
   ·rcases Qk.mp h with q|q
    ·cases q;exact .inr ⟨_,Ay⟩
    ·exact .inl q
   ·exact .inr ⟨c,Aw _ h⟩
  ·rw[Ti hk]
   refine rS ?_;rcases h with h|h
   ·rcases Qk.mp h with q|q
    ·cases q;exact absurd rfl hk
    ·exact .inl q
   ·exact .inr h
noncomputable def eO(X:Cx)(scope:Scope)(N:List Str)(a:List (Str×Addr))(C:Addr)(s₀:Shared)(H₀:Hp)(ex:List Addr):Cx where
 prog:=X.prog
 w:=X.w
 K:=X.K
 mg:=X.mg
 base:=X.base
 A:=X.A
 N:=N
 s₀:=s₀
 H₀:=H₀
 env:=compEnvC scope a C X.env
 outer:=X.stack
 stack:=X.stack
 ex:=ex
 fn:=fun _=>false
 calm:=X.calm
 pn:=X.pn
 xe:=fun _ _=>False
def hH(X:Cx)(aU:List Expr)(t:TT):Prop:=
 ∀(aa:Ψ)(s:Shared)(σ:St)(H:Hp)(Q:Bool->Hp->Prop),Inv X aa σ H s->t σ H Q->
  wpAny (model X.prog X.w) X.A (forIn aU true fun c r=>if r=true then do let ok <-isTrue c X.env (eval c X.env);pure (ForInStep.yield ok) else pure (ForInStep.yield r)) (TP X aa σ Q) X.xe s
def bT:TT:=fun _ H Q=>Q true H
def zF{X:Cx}:hH X [] bT:=fun _ _ _ H _ I h=>wpAny_tests_nil ⟨H,I,h⟩
def jC{X:Cx}{c:Expr}{t:TT}(h:PT X c t):hH X [c] t:=fun aa s σ H Q I hw=>wpAny_tests_one (h aa s σ H Q I hw)
noncomputable def oK(aq:List (Option Nat))(σ:St):St:=aq.map fun c=>match c with
 |none=>none
 |some j=>(σ[j]?).getD none
def zV(J:It)(g:TG)(tc:TT)(te:TE)(σ:St)(H1:Hp)(D:Addr)(Q:VK):Prop:=
 ∃W:Nat->Nat->St->Hp->Prop,(∃m,W 0 m σ (upd H1 D (.lst [])))/\
 ∀i m d H2,W i m d H2->(J.stop i H2/\Q (.ref D) H2)\/(J.go i H2/\∀x H3,J.yld i H2 x H3->g x d H3 fun c h=>tc c h fun b e=>
  if b=true then te c e fun y f=>∃ys a,f D=some (.lst ys)/\ys.length<sizeLine/\a<m/\W (i+1) a c (upd f D (.lst (ys++[y])))
  else ∃a,a<m/\W (i+1) a c e)
def iq(wi:TI)(aq:List (Option Nat))(g:TG)(tc:TT)(te:TE):TE:=fun σ H Q=>wi σ H fun J H1=>∀D,H1 D=none->zV J g tc te (oK aq σ) H1 D Q
def mx(N N':List Str)(aq:List (Option Nat))(scope:Scope):Prop:=
 aq.length=N'.length/\∀i j:Nat,aq[i]?=some (some j)->∃x:Str,N'[i]?=some x/\N[j]?=some x/\scope.names.lookup x=some .free
def rT{cells:List (Str×Addr)}{x:Str}{c:Addr}:∀{names:List (Str×NameKind)}{acc:List (Str×Addr)},(∀y∈names,y.2=.free->∃d,cells.lookup y.1=some d)->(∀p∈acc,False)->(x,c)∈clOf cells names acc->cells.lookup x=some c/\(x,A7)∈names:=by
 have g:∀{names:List (Str×NameKind)}{acc:List (Str×Addr)},(∀y∈names,y.2=.free->∃d,cells.lookup y.1=some d)->(x,c)∈clOf cells names acc->(x,c)∈acc\/(cells.lookup x=some c/\(x,A7)∈names):=by
  intro names
  induction names with
  |nil=>intro acc _ h;exact .inl h
  |cons y r i=>
   intro acc e h;obtain⟨n,k⟩:=y;unfold clOf at h;have j:∀y∈r,y.2=.free->∃d,cells.lookup y.1=some d:=fun y hy=>e y (Aw _ hy)
   by_cases hk:(k==A7)=true
   ·have l:k=.free:=by cases k<;>first|rfl|cases hk
    obtain⟨d,hd⟩:=e (n,k) Ay l;rw[Th hk] at h;rcases i j h with q|⟨q1,f⟩
    ·rcases Qk.mp q with q|q
     ·refine .inr ⟨?_,?_⟩
      ·have a:cells.lookup n=some d:=hd
       rw[a] at q;cases q;exact a
      ·cases q
       rw[l];exact Ay
     ·exact .inl q
    ·exact .inr ⟨q1,Aw _ f⟩
   ·rw[Ti hk] at h
    rcases i j h with q|⟨q1,f⟩
    ·exact .inl q
    ·exact .inr ⟨q1,Aw _ f⟩
 intro names acc e ha h;rcases g e h with q|q
 ·exact(ha _ q).elim
 ·exact q
def cf_mem:∀(names:List (Str×NameKind))(h:Heap)(acc:List (Str×Addr))(x:Str)(c:Addr),(x,c)∈cellsFrom h.objs.size names acc->(x,c)∈acc\/((x,NameKind.cell)∈names/\h.objs.size<=c/\(pushCells h names).IsCell c none)
 |[],h,acc,x,c,hm=>.inl hm
 |(n,k)::r,h,acc,x,c,hm=>by
  rw[cellsFrom.eq_2] at hm;have ep:pushCells h ((n,k)::r)=if(k==NameKind.cell)=true then pushCells (h.push {cls:=Value.type "cell",data:=Data.cell none}) r else pushCells h r:=rfl
  by_cases hk:(k==NameKind.cell)=true
  ·have e:k=.cell:=by cases k<;>first|rfl|cases hk
   rw[Th hk] at hm;rw[ep,Th hk];have es:(h.push {cls:=Value.type "cell",data:=Data.cell none}).objs.size=h.objs.size+1:=Heap.size_push ..;rw[<-es] at hm;rcases cf_mem r _ _ x c hm with q|⟨q1,a,d⟩
   ·rcases Qk.mp q with q|q
    ·cases q
     refine .inr ⟨by rw[e];exact Ay,Af _,_,pushCells_keeps r _ _ _ (Ak _ rfl),rfl⟩
    ·exact .inl q
   ·rw[es] at a
    exact .inr ⟨Aw _ q1,S0 a,d⟩
  ·rw[Ti hk] at hm
   rw[ep,Ti hk];rcases cf_mem r h acc x c hm with q|⟨q1,a,d⟩
   ·exact .inl q
   ·exact .inr ⟨Aw _ q1,a,d⟩
def CP:∀(names:List (Str×NameKind))(n:Nat)(acc:List (Str×Addr)),(∀x y c,(x,c)∈acc->(y,c)∈acc->x=y)->(∀p∈acc,p.2<n)->∀x y c,(x,c)∈cellsFrom n names acc->(y,c)∈cellsFrom n names acc->x=y
 |[],n,acc,hi,_,x,y,c,h1,h2=>hi x y c h1 h2
 |(m,k)::r,n,acc,hi,hl,x,y,c,h1,h2=>by
  rw[cellsFrom.eq_2] at h1 h2
  by_cases hk:(k==NameKind.cell)=true
  ·rw[Th hk] at h1 h2
   refine CP r (n+1) ((m,n)::acc) (fun x y c p q=>?_) (fun p hp=>?_) x y c h1 h2
   ·rcases Qk.mp p with p|p<;>rcases Qk.mp q with q|q
    ·cases p;cases q;rfl
    ·cases p
     have:n<n:=hl _ q;omega
    ·cases q
     have:n<n:=hl _ p;omega
    ·exact hi x y c p q
   ·rcases Qk.mp hp with rfl|hp
    ·exact SA _
    ·exact Bb (hl p hp)
  ·rw[Ti hk] at h1 h2
   exact CP r n acc hi hl x y c h1 h2
def Li{M:Model}{A:Around}{E:Ω}{s:Shared}{scope:Scope}{globals:Addr}{a:List (Str×Addr)}{f:Str}{env:Env}{Q:Env->Shared->Prop}(h:∀d:Heap,(d.Ns s⁻¹ fun _=>none)->(∀b o,s.heap.get? b=some o->d.get? b=some o)->
   (∀x c,(x,c)∈cellsFrom (s⁻¹+1) scope.names a->(x,c)∈a\/((x,NameKind.cell)∈scope.names/\s⁻¹+1<=c/\d.IsCell c none))->
   Q (newEnv scope s⁻¹ globals (cellsFrom (s⁻¹+1) scope.names a) f none .none (some env) builtinsNs) {s with heap:=d}):
  wpAny M A (newFunctionEnv scope globals a [] f none Value.none (some env)) Q E s:=by
 unfold newFunctionEnv;refine Aa (wpAny_alloc ?_);refine Aa (wpAny_layCells _ (fun name kind cells=>rfl) scope.names a _ _ ?_);have es:(s.heap.push {cls:=Value.type "dict",data:=Data.dict #[]}).objs.size=s⁻¹+1:=Heap.size_push ..;have:=h (pushCells (s.heap.push {cls:=Value.type "dict",data:=Data.dict #[]}) scope.names) ((Heap.Ns.new s.heap (.type "dict")).keeps fun b o e=>pushCells_keeps _ _ _ _ e) (fun b o e=>pushCells_keeps _ _ _ _ (Ad _ e)) (fun x c hm=>by
  rw[<-es] at hm ⊢;exact cf_mem scope.names _ a x c hm)
 show wpAny M A _ _ _ _;refine Aa (Ac ?_);refine Ac ?_;rw[<-es] at this;exact this
noncomputable def cxD(X:Cx)(scope:Scope)(N:List Str)(a:List (Str×Addr))(C:Addr)(s₀:Shared)(H₀:Hp)(ex:List Addr):Cx:={eO X scope N a C s₀ H₀ ex with fn:=fun x=>decide (scope.names.lookup x=some .cell)}
section
variable{X:Cx}{scope:Scope}{N':List Str}{aq:List (Option Nat)}{tg iter bh:Expr}{aU:List Expr}{wi:TI}{g:TG}{tc:TT}{te:TE}{pos:Pos}
def CQ{scope:Scope}{env:Env}{x:Str}:∀{names:List (Str×NameKind)},(names.lookup x=some .free\/names.lookup x=some .cell)-> ((names.map fun(n,k)=>if(k==A7&&env.scope.kind==.function&&env.kindOf n==some .cell) then(n,NameKind.cell) else(n,k)).lookup x=some .free \/
   (names.map fun(n,k)=>if(k==A7&&env.scope.kind==.function&&env.kindOf n==some .cell) then(n,NameKind.cell) else(n,k)).lookup x=some .cell)
 |[],h=>by simp at h
 |(n,k)::r,h=>by
  have a:=@CQ scope env x r;show List.lookup x ((if(k==A7&&env.scope.kind==.function&&env.kindOf n==some .cell)=true then(n,NameKind.cell) else(n,k))::_)=_\/List.lookup x ((if(k==A7&&env.scope.kind==.function&&env.kindOf n==some .cell)=true then(n,NameKind.cell) else(n,k))::_)=_;cases hx:x==n with
  |true=>
   simp only[AY,hx] at h
   by_cases hc:(k==A7&&env.scope.kind==.function&&env.kindOf n==some .cell)=true
   ·rw[Th hc];simp[AY,hx]
   ·rw[Ti hc];simp only[AY,hx];exact h
  |false=>
   simp only[AY,hx] at h
   by_cases hc:(k==A7&&env.scope.kind==.function&&env.kindOf n==some .cell)=true
   ·rw[Th hc];simp only[AY,hx];exact a h
   ·rw[Ti hc];simp only[AY,hx];exact a h
def CS{env:Env}{x:Str}{a:NameKind}:∀{names:List (Str×NameKind)},(names.map fun(n,k)=>if(k==A7&&env.scope.kind==.function&&env.kindOf n==some .cell) then(n,NameKind.cell) else(n,k)).lookup x=some a->
  ∃c,names.lookup x=some c/\(a=c\/(c=.free/\a=.cell))
 |[],h=>by simp at h
 |(n,k)::r,h=>by
  have d:=@CS env x a r;have h':List.lookup x ((if(k==A7&&env.scope.kind==.function&&env.kindOf n==some .cell)=true then(n,NameKind.cell) else(n,k))::_)=some a:=h;cases hx:x==n with
  |true=>
   simp only[AY,hx]
   by_cases hc:(k==A7&&env.scope.kind==.function&&env.kindOf n==some .cell)=true
   ·rw[Th hc] at h'
    simp only[AY,hx] at h';cases h';have hk:k=.free:=by
     rw[AM,AM] at hc;cases k<;>first|rfl|exact absurd hc.1.1 ξ
    exact⟨k,rfl,.inr ⟨hk,rfl⟩⟩
   ·rw[Ti hc] at h'
    simp only[AY,hx] at h';cases h';exact⟨_,rfl,.inl rfl⟩
  |false=>
   simp only[AY,hx]
   by_cases hc:(k==A7&&env.scope.kind==.function&&env.kindOf n==some .cell)=true
   ·rw[Th hc] at h';simp only[AY,hx] at h';exact d h'
   ·rw[Ti hc] at h';simp only[AY,hx] at h';exact d h'
structure Left(X:Cx)(aa:Ψ)(σ:St)(H':Hp)(s4:Shared)(C:Addr):Prop where
 ns:∃m,s4.heap.Ns C m
 far:X.s₀⁻¹<=C
 nl:C≠X.env.locals
 nc:∀x c,X.env.cells.lookup x=some c->c≠C
 np:∀p∈X.pn++aa,p.1≠C
 no:H' C=none
 back:∀h',Heap.SameBut C s4.heap h'->Inv X aa σ H' {s4 with heap:=h'}
def Gc{use:Option (Value->Sem Unit)}{R:Ω}{pp:Pos}(hc:X.calm=true)(hk:scope.kind=.function)(bJ:∀y∈scope.names,y.2=.cell->scope.names.lookup y.1=some .cell)(az:∀y∈scope.names,y.2=.free->scope.names.lookup y.1=some .free)(aA:∀y∈scope.names,y.2=.local->scope.names.lookup y.1=some .local)(hfr:∀y∈scope.names,y.2=.free->X.env.kindOf y.1=some .cell\/X.env.kindOf y.1=some .free)(aY:mx X.N N' aq scope)(hi:PI X tg iter wi)(hg:∀cl C s₀ H₀ ex,PG (cxD X scope N' cl C s₀ H₀ ex) tg g)(ht:∀cl C s₀ H₀ ex,hH (cxD X scope N' cl C s₀ H₀ ex) aU tc)(he:∀cl C s₀ H₀ ex,PE (cxD X scope N' cl C s₀ H₀ ex) bh te)(hs:∀x,foldedSetIterable iter X.env x=pure x){aa:Ψ}{s:Shared}{σ:St}{H:Hp}{Q:VK}(I:Inv X aa σ H s)(h:iq wi aq g tc te σ H Q)(fin:∀(D C:Addr)(H':Hp)(P:Shared)(f:Flow),Left X aa σ H' P C->Q (.ref D) H'->compPost (model X.prog X.w) X.A X.xe use R (.ref D) C (.ok f) P):wpAny (model X.prog X.w) X.A (comprehension (.ListComp bh [⟨tg,iter,aU,0⟩] scope pos) scope X.env pp (newList []) (firstAsync [⟨tg,iter,aU,0⟩]) (firstIter [⟨tg,iter,aU,0⟩] X.env) use) R X.xe s:=by
 have S:∀y∈scope.names,y.2=.free->∃c,X.env.cells.lookup y.1=some c:=fun y hy e=>I.ok.has y.1 (hfr y hy e);refine wpAny_comprehension_free (use:=use) rfl hs (Lh S) hk aA ?_;refine ba (hi aa s σ H _ I h) fun xv s1 h1=>ba h1 fun oz O h2=>?_;obtain⟨it,M,tn,J,H2,e,I2,T,aZ,f2,q⟩:=h2;subst e;have lH:H2 O⁻¹=none:=I2.hok.fresh (Af _);obtain⟨W,⟨m0,w0⟩,turn⟩:=q O⁻¹ lH;refine AI (Li fun aB cZ cb cf=>?_);dsimp only at cZ cb cf ⊢;generalize hD:O⁻¹=D at *;obtain⟨l,e3⟩:∃l:Shared,l={O with heap:=O.heap.push {cls:=.type "list",dict:=none,data:=.seq ([]:List Value).toArray}}:=⟨_,rfl⟩;have h3:l.heap=O.heap.push {cls:=.type "list",dict:=none,data:=.seq ([]:List Value).toArray}:=by rw[e3]
 rw[<-h3] at cZ cb cf ⊢;have ag:l⁻¹=D+1:=by rw[h3,Heap.size_push,hD]
 have I3:Inv X aa σ (upd H2 D (.lst [])) l:=by
  rw[e3,<-hD];exact I2.lnew (t':=O.toks) (ys:=[]) .nil (A6 _)
 obtain⟨Xc,E⟩:∃Xc,Xc=cxD X scope N' (cellsFrom (l⁻¹+1) scope.names (clOf X.env.cells scope.names [])) l⁻¹ l (upd H2 D (.lst [])) M:=⟨_,rfl⟩;have iM:PG Xc tg g:=by rw[E];exact hg _ _ _ _ _
 have ht':hH Xc aU tc:=by rw[E];exact ht _ _ _ _ _
 have he':PE Xc bh te:=by rw[E];exact he _ _ _ _ _
 have xP:Xc.prog=X.prog:=by rw[E];rfl
 have xw:Xc.w=X.w:=by rw[E];rfl
 have xK:Xc.K=X.K:=by rw[E];rfl
 have xA:Xc.A=X.A:=by rw[E];rfl
 have xc:Xc.calm=true:=by rw[E];exact hc
 have xe:Xc.env=compEnvC scope (cellsFrom (l⁻¹+1) scope.names (clOf X.env.cells scope.names [])) l⁻¹ X.env:=by rw[E];rfl
 have xE:Xc.xe=fun _ _=>False:=by rw[E];rfl
 have G:∀x c,(cellsFrom (l⁻¹+1) scope.names (clOf X.env.cells scope.names [])).lookup x=some c->(X.env.cells.lookup x=some c/\scope.names.lookup x=some .free)\/(scope.names.lookup x=some .cell/\l⁻¹+1<=c/\aB.IsCell c none):=fun x c e=>by
  rcases cf x c (A8 e) with q|⟨q1,q2,q3⟩
  ·obtain⟨q4,q5⟩:=rT S (fun p hp=>absurd hp (by simp)) q
   exact .inl ⟨q4,az _ q5 rfl⟩
  ·exact .inr ⟨bJ _ q1 rfl,q2,q3⟩
 have hlow:∀p∈clOf X.env.cells scope.names [],p.2<l⁻¹+1:=fun p hp=>by
  obtain⟨q4,_⟩:=rT S (fun p hp=>absurd hp (by simp)) (x:=p.1) (c:=p.2) hp;obtain⟨v,o,ho,_⟩:=I3.cell p.1 p.2 q4;exact Bb (Aq ho)
 have U:∀b∈M,b≠D/\b<D:=fun b hb=>by
  obtain⟨ob,eb,_⟩:=T.obj 0 _ aZ b hb;have:=Aq eb;rw[hD] at this;exact⟨Au this,this⟩
 have hfs:∀b∈frs X.stack,b<D:=fun b hb=>by
  obtain⟨_,ob,eb,_⟩:=I2.stack.mem hb;have:=Aq eb;rw[hD] at this;exact this
 have F:∀b o,l.heap.get? b=some o->aB.get? b=some o:=cb;have vJ:(upd H2 D (.lst [])) l⁻¹=none:=I3.hok.fresh (Af _);have Ic:Inv Xc aa (oK aq σ) (upd H2 D (.lst [])) {l with heap:=aB}:=by
  have okc:Xc.Ok:=by
   rw[E];refine⟨I.ok.mod,hk,I.ok.glob,I.ok.blt,Af _,fun x y c a b=>CP scope.names _ _ (fun x y c p q=>I.ok.inj x y c (rT S (fun p hp=>absurd hp (by simp)) p).1 (rT S (fun p hp=>absurd hp (by simp)) q).1) hlow x y c (A8 a) (A8 b),fun x hx=>?_,(fun x c a e=>by
    rcases G x c e with ⟨_,q⟩|⟨_,q,_⟩
    ·have a':=Tl a
     rw[q] at a';cases a'
    ·exact S0 q),I.ok.hd,I.ok.frames,.inl rfl,fun b hb=>⟨?_,fun x c e=>?_⟩,fun b o e=>?_,?_,fun b o e z=>?_,fun b hb z=>?_,?_,fun b hb=>?_⟩
   ·have hx':(relabel scope X.env).names.lookup x=some .cell\/(relabel scope X.env).names.lookup x=some .free:=hx
    have key:∃k',scope.names.lookup x=some k'/\(k'=.free\/k'=.cell):=by
     rcases hx' with q|q
     ·obtain⟨k',e1,e2⟩:=CS q
      rcases e2 with e2|⟨e2,_⟩
      ·exact⟨k',e1,.inr e2.symm⟩
      ·exact⟨k',e1,.inl e2⟩
     ·obtain⟨k',e1,e2⟩:=CS q
      rcases e2 with e2|⟨e2,_⟩
      ·exact⟨k',e1,.inl e2.symm⟩
      ·exact⟨k',e1,.inl e2⟩
    obtain⟨k',e1,e2⟩:=key;have hm:=A8 e1;rcases e2 with rfl|rfl
    ·obtain⟨c,hc'⟩:=rS (cells:=X.env.cells) (acc:=[]) (.inl hm)
     obtain⟨d,hd⟩:=CO hc';exact Ra.mp (Ri scope.names (l⁻¹+1) _ (.inr (by rw[hd];rfl)))
    ·exact Ra.mp (Ri scope.names (l⁻¹+1) _ (.inl e1))
   ·show b≠l⁻¹
    exact Au (by rw[ag];exact Bb (U b hb).2)
   ·rcases G x c e with ⟨q,_⟩|⟨_,q,_⟩
    ·exact(f2 b hb).2.2.2.2.1 x c q
    ·have h1:b<l⁻¹+1:=by rw[ag];exact Bb (Bb (U b hb).2)
     exact A3 (Az h1 q)
   ·exact I3.bs b o e
   ·exact AA I.ok.bsz I3.sz
   ·obtain⟨f,_,_,fx,_,_⟩:=f2 b z
    rcases fx with fx|fx
    ·exact I.ok.noex b o e fx
    ·have:=Az (Aq e) I.ok.bsz
     omega
   ·rcases Qk.mp (I2.stkSub b z) with r|r
    ·exact(f2 b hb).2.1 r
    ·exact(f2 b hb).2.2.1 r
   ·exact I3.stack
   ·exact I3.stkFree b hb
  refine⟨okc,(by rw[E];rfl),I3.bare,?_,?_,fun x c e=>?_,?_,fun x c e=>?_,fun p hp=>?_,?_,?_⟩
  ·rw[E]
   exact Un.kept F
  ·rw[xe]
   refine⟨_,cZ,fun i x v e1 e2 e3=>?_⟩;obtain⟨c1,c2⟩:=aY;unfold oK at e2;rw[Ag] at e2;cases e4:aq[i]? with
   |none=>rw[e4] at e2;cases e2
   |some cc=>
    rw[e4] at e2;cases cc with
    |none=>cases e2
    |some j=>
     obtain⟨y,d1,d2,d3⟩:=c2 i j e4;have kX:N'[i]?=some x:=by rw[E] at e1;exact e1
     rw[d1] at kX;have yH:y=x:=Al kX;subst yH;have e5:σ[j]?=some (some v):=by
      simp only[AQ,AW] at e2;cases e6:σ[j]? with
      |none=>rw[e6] at e2;cases e2
      |some ov=>rw[e6] at e2;simp only[RV] at e2;rw[e2]
     have hm:=A8 d3;have tw:qL X.env.scope y:=by
      rcases hfr _ hm rfl with q|q
      ·exact .inr (.inl q)
      ·exact .inr (.inr q)
     obtain⟨m,_,hl⟩:=I3.loc;obtain⟨u,ru,lk⟩:=hl j y v d2 e5 tw;refine⟨u,ru,?_⟩;have wN:∃c,X.env.cells.lookup y=some c/\l.heap.IsCell c (some u):=by
      rcases lk with ⟨k1,_⟩|⟨_,c,k2,k3⟩
      ·rcases hfr _ hm rfl with q|q
       ·rw[k1] at q;cases q
       ·rw[k1] at q;cases q
      ·exact⟨c,k2,k3⟩
     obtain⟨c,k2,k3⟩:=wN;obtain⟨d,hd'⟩:=rS (cells:=X.env.cells) (acc:=[]) (.inl hm);obtain⟨d',aN⟩:=CO hd';obtain⟨d2,iF⟩:=Ra.mp (Ri scope.names (l⁻¹+1) (clOf X.env.cells scope.names []) (x:=y) (.inr (by rw[aN];rfl)));have:c=d2:=by
      rcases G y d2 iF with ⟨q,_⟩|⟨q,_⟩
      ·rw[k2] at q
       exact Al q
      ·rw[d3] at q;cases q
     subst this;refine .inr ⟨?_,c,iF,k3.keeps F⟩;have rl:=CQ (scope:=scope) (env:=X.env) (x:=y) (names:=scope.names) (.inl d3);rcases rl with q|q
     ·exact .inr q
     ·exact .inl q
  ·rw[xe] at e
   rcases G x c e with ⟨q,_⟩|⟨_,_,q⟩
   ·obtain⟨v,k3⟩:=I3.cell x c q
    exact⟨v,k3.keeps F⟩
   ·exact⟨_,q⟩
  ·rw[xe];exact vJ
  ·rw[xe] at e
   rcases G x c e with ⟨q,_⟩|⟨_,q,_⟩
   ·exact I3.freeC x c q
   ·exact I3.hok.fresh (S0 q)
  ·have bA:p∈X.pn++aa:=by rw[E] at hp;exact hp
   obtain⟨a1,a2,a3,a4,a5⟩:=I3.pin p bA;refine⟨F _ _ a1,a2,?_,?_,a5⟩
   ·rw[xe]
    show p.1≠l⁻¹;exact Au (Aq a1)
   ·rw[E]
    intro z;rcases Qk.mp (I3.stkSub p.1 z) with r|r
    ·exact a3 r
    ·exact a4 r
  ·rw[xP,xw]
   exact I3.hok.kept F
  ·unfold oK
   rw[Ab,aY.1,E]
   rfl
 have leave:∀{L:St}{H':Hp}{P:Shared}{h':Heap},Inv Xc aa L H' P->Heap.SameBut l⁻¹ P.heap h'->Inv X aa σ H' {P with heap:=h'}:=fun{L H' P h'} I4 aD=>by
  have hlt:∀b o,O.heap.get? b=some o->b≠D/\b≠l⁻¹:=fun b o e=>by
   have hb:=Aq e;rw[hD] at hb;exact⟨Au hb,Au (by rw[ag];exact Bb hb)⟩
  have up3:∀b o,O.heap.get? b=some o->l.heap.get? b=some o:=fun b o e=>by rw[h3];exact Ad _ e
  have base:Un (frs X.stack) M (upd H2 D (.lst [])) H' l.heap P.heap:=by
   have:=I4.base;rw[E] at this;exact this
  have hCn:H' l⁻¹=none:=by
   have:=I4.free;rw[xe] at this;exact this
  have os4:P.os=O.os:=by
   have:=I4.os;rw[E] at this;rw[this];show l.os=O.os;rw[e3]
  refine I2.call' (s':={P with heap:=h'}) (ch:=M) os4 ⟨fun b o q n hb hx=>?_,fun b o q n hb hx=>?_,fun b o q n hx=>?_,fun b o q hx=>?_,fun b xs q=>?_,fun b o u q=>?_,fun b ps q=>?_⟩ ?_ I4.bare fun b hb=>?_
  ·obtain⟨n1,n2⟩:=hlt b o q
   exact(aD.2 b n2).trans (base.keep b o (up3 b o q) (by rw[ah n1];exact n) hb hx)
  ·obtain⟨n1,n2⟩:=hlt b o q
   obtain⟨sl,e⟩:=base.slot b o (up3 b o q) (by rw[ah n1];exact n) hb hx;exact⟨sl,(aD.2 b n2).trans e⟩
  ·obtain⟨n1,n2⟩:=hlt b o q
   exact base.free b o (up3 b o q) (by rw[ah n1];exact n) hx
  ·obtain⟨n1,n2⟩:=hlt b o q
   obtain⟨o',e⟩:=base.there b o (up3 b o q) hx;exact⟨o',(aD.2 b n2).trans e⟩
  ·exact base.tups b xs (by rw[ah (zj q lH)];exact q)
  ·exact base.frzs b o u (by rw[ah (zj q lH)];exact q)
  ·exact base.tbls b ps (by rw[ah (zj q lH)];exact q)
  ·intro b u e
   have sQ:=I4.hok b u e;rw[xP,xw] at sQ;refine sQ.stay (fun c v hc q=>(aD.2 c ?_).trans q) (fun _ q=>q) fun _ _ q=>q;rintro rfl;rcases hc with z|z
   ·rw[<-z,hCn] at e;cases e
   ·rw[hCn] at z;cases z
  ·obtain⟨f0,f1,f3,f4,f5,f6⟩:=f2 b hb
   exact⟨f4,f1,f5,f6⟩
 have Y:∀{H':Hp},(∀b∈M,H' b=none)->∀b∈M,bQ Xc aa H' b:=fun{H'} hn b hb=>by
  obtain⟨f0,f1,f3,f4,f5,f6⟩:=f2 b hb;refine⟨hn b hb,?_,?_,.inl (by rw[E];exact hb),fun x c e=>?_,fun p hp=>?_⟩
  ·rw[xe]
   show b≠l⁻¹;exact Au (by rw[ag];exact Bb (U b hb).2)
  ·rw[E]
   intro z;rcases Qk.mp (I2.stkSub b z) with r|r
   ·exact f1 r
   ·exact f3 r
  ·rw[xe] at e
   rcases G x c e with ⟨q,_⟩|⟨_,q,_⟩
   ·exact f5 x c q
   ·have h1:b<l⁻¹+1:=by rw[ag];exact Bb (Bb (U b hb).2)
    exact A3 (Az h1 q)
  ·rw[E] at hp
   exact f6 p hp
 subst E;have j7:∀n s',(∃i L H',Inv (cxD X scope N' (cellsFrom (l⁻¹+1) scope.names (clOf X.env.cells scope.names [])) l⁻¹ l (upd H2 D (.lst [])) M) aa L H' s'/\tn i s'.heap/\(∀b∈M,H' b=none)/\W i n L H')->
   codeAny (model X.prog X.w) X.A (.compLoop (.ListComp bh [⟨tg,iter,aU,0⟩] scope pos) 0 (.ref it) (.ref D) (compEnvC scope (cellsFrom (l⁻¹+1) scope.names (clOf X.env.cells scope.names [])) l⁻¹ X.env)) (compPost (model X.prog X.w) X.A X.xe use R (.ref D) l⁻¹) s':=by
  intro n0 yV tH;refine codeAny_loop rfl (fun n s'=>∃i L H',Inv (cxD X scope N' (cellsFrom (l⁻¹+1) scope.names (clOf X.env.cells scope.names [])) l⁻¹ l (upd H2 D (.lst [])) M) aa L H' s'/\tn i s'.heap/\(∀b∈M,H' b=none)/\W i n L H') (fun n s' hI=>?_) n0 tH;obtain⟨i,L,H',I',ab,qt,w'⟩:=hI;show wpAny _ X.A ((compTurn (.ListComp bh [⟨tg,iter,aU,0⟩] scope pos) 0 (.ref it) (.ref D) (compEnvC scope (cellsFrom (l⁻¹+1) scope.names (clOf X.env.cells scope.names [])) l⁻¹ X.env)).onRaise (fun x=>do noteFrame x (compEnvC scope (cellsFrom (l⁻¹+1) scope.names (clOf X.env.cells scope.names [])) l⁻¹ X.env);theTreesLotGoes x)) _ _ s';refine wpAny_noted ?_;rw[compTurn_list];refine Aa (wpAny_standAt (Aa ?_));rcases turn i n L H' w' with ⟨stop,qn⟩|⟨go,step⟩
  ·refine ba (T.done (cxD X scope N' (cellsFrom (l⁻¹+1) scope.names (clOf X.env.cells scope.names [])) l⁻¹ l (upd H2 D (.lst [])) M) rfl rfl rfl hc i aa s' L H' _ I' (Y qt) ab stop) fun r P ⟨hr,I4⟩=>?_
   subst hr;refine Ac ?_;obtain⟨m,hn,_⟩:=id I4.loc;refine fin D _ H' P _ ⟨⟨m,hn⟩,I3.sz,fun e=>?_,fun x c e=>?_,fun p hp=>Au (Aq (I3.pin p hp).1),I4.free,fun h' aD=>leave I4 aD⟩ qn
   ·obtain⟨m3,tF,_⟩:=I3.loc
    obtain⟨o3,_,_,mG,_⟩:=tF;exact absurd e.symm (Au (Aq mG))
   ·obtain⟨v,hv⟩:=I3.cell x c e
    obtain⟨o3,mG,_⟩:=hv;exact Au (Aq mG)
  ·refine ba (T.item (cxD X scope N' (cellsFrom (l⁻¹+1) scope.names (clOf X.env.cells scope.names [])) l⁻¹ l (upd H2 D (.lst [])) M) rfl rfl rfl hc i aa s' L H' _ I' (Y qt) ab go) fun r P ⟨u,hr,h4⟩=>?_
   subst hr;refine Aa (ba h4 fun _ s5 ⟨x,H5,I5,r5,y5,st5,fr5⟩=>?_);have oC:=I5.pinned (Y fr5) (T.obj _ _ st5);refine Aa (wpAny_mono (iM _ s5 L H5 x u _ oC r5 (step x H5 y5)) (fun _ s6 h6=>?_) fun _ _ z=>z.elim);obtain⟨j5,H6,I6,q6⟩:=h6;refine Aa (wpAny_mono (ht' _ s6 j5 H6 _ I6 q6) (fun ok s7 h7=>?_) fun _ _ z=>z.elim);obtain⟨H7,I7,q7⟩:=h7;have again:∀{kI:St}{H8:Hp}{s8:Shared}{m':Nat},Inv (cxD X scope N' (cellsFrom (l⁻¹+1) scope.names (clOf X.env.cells scope.names [])) l⁻¹ l (upd H2 D (.lst [])) M) (aa++nI M s5.heap) kI H8 s8->m'<n->W (i+1) m' kI H8->
     ∃m,m<n/\∃i L H',Inv (cxD X scope N' (cellsFrom (l⁻¹+1) scope.names (clOf X.env.cells scope.names [])) l⁻¹ l (upd H2 D (.lst [])) M) aa L H' s8/\tn i s8.heap/\(∀b∈M,H' b=none)/\W i m L H':=fun{kI H8 s8 m'} I8 hm w8=>by
    refine⟨m',hm,i+1,kI,H8,I8.unpinned,T.keep _ _ _ st5 fun b hb o e=>(I8.pin (b,o) (AG _ (AG _ (qS hb e)))).1,fun b hb=>?_,w8⟩;obtain⟨o,e,d⟩:=T.obj _ _ st5 b hb;exact(I8.pin (b,o) (AG _ (AG _ (qS hb e)))).2.1
   cases ok with
   |false=>
    obtain⟨m',hm,w7⟩:=q7;exact Ac ⟨rfl,again I7 hm w7⟩
   |true=>
    refine Aa (Aa (wpAny_mono (he' _ s7 j5 H7 _ I7 q7) (fun v s8 h8=>?_) fun _ _ z=>z.elim));obtain⟨y,H8,I8,r8,ys,m',pf,dj,wK,w8⟩:=h8;refine Aa (wpAny_mono (js (X:=cxD X scope N' (cellsFrom (l⁻¹+1) scope.names (clOf X.env.cells scope.names [])) l⁻¹ l (upd H2 D (.lst [])) M) _ s8 j5 H8 (.ref D) [y] (.ref D) [v] (fun _ H9=>H9=upd H8 D (.lst (ys++[y]))) I8 rfl (.cons r8 .nil) ⟨D,ys,y,rfl,rfl,pf,dj,rfl⟩) (fun _ s9 h9=>?_) fun _ _ z=>z.elim);obtain⟨_,H9,I9,_,e9⟩:=h9;subst e9;exact Ac (Ac ⟨rfl,again I9 wK w8⟩)
 have start:∃i L H',Inv (cxD X scope N' (cellsFrom (l⁻¹+1) scope.names (clOf X.env.cells scope.names [])) l⁻¹ l (upd H2 D (.lst [])) M) aa L H' {l with heap:=aB}/\tn i ({l with heap:=aB}:Shared).heap/\(∀b∈M,H' b=none)/\W i m0 L H':=by
  refine⟨0,oK aq σ,upd H2 D (.lst []),Ic,T.keep 0 _ _ aZ fun b hb o e=>F b o (by rw[h3];exact Ad _ e),fun b hb=>?_,w0⟩;rw[ah (U b hb).1];exact(f2 b hb).1
 have es:({O with heap:=aB}:Shared)={l with heap:=aB}:=by rw[e3]
 show codeAny (model X.prog X.w) X.A _ _ ({O with heap:=aB}:Shared);rw[es];refine codeAny_compStart_list (j7 m0 _ start) (T.self _ 0 _ _ _ ?_ (j7 m0 _ start));exact T.keep 0 _ _ aZ fun b hb o e=>F b o (by rw[h3];exact Ad _ e)
def mB(c:∀y∈scope.names,y.2≠.cell)(a:List (Str×Addr))(C:Addr)(s₀:Shared)(H₀:Hp)(ex:List Addr):eO X scope N' a C s₀ H₀ ex=cxD X scope N' a C s₀ H₀ ex:=by
 unfold cxD;have:(fun x=>decide (scope.names.lookup x=some NameKind.cell))=fun _=>false:=by
  funext x
  exact Tk fun e=>c _ (A8 e) rfl
 rw[this]
 rfl
def Lj{use:Option (Value->Sem Unit)}{R:Ω}{i:Pos}(hc:X.calm=true)(hk:scope.kind=.function)(c:∀y∈scope.names,y.2≠.cell)(j:∀y∈scope.names,y.2=.free->scope.names.lookup y.1=some .free)(l:∀y∈scope.names,y.2=.local->scope.names.lookup y.1=some .local)(hfr:∀y∈scope.names,y.2=.free->X.env.kindOf y.1=some .cell\/X.env.kindOf y.1=some .free)(o:mx X.N N' aq scope)(hi:PI X tg iter wi)(p:∀a C s₀ H₀ ex,PG (eO X scope N' a C s₀ H₀ ex) tg g)(ht:∀a C s₀ H₀ ex,hH (eO X scope N' a C s₀ H₀ ex) aU tc)(q:∀a C s₀ H₀ ex,PE (eO X scope N' a C s₀ H₀ ex) bh te)(r:∀x,foldedSetIterable iter X.env x=pure x){aa:Ψ}{s:Shared}{σ:St}{H:Hp}{Q:VK}(I:Inv X aa σ H s)(h:iq wi aq g tc te σ H Q)(fin:∀(D C:Addr)(H':Hp)(d:Shared)(f:Flow),Left X aa σ H' d C->Q (.ref D) H'->compPost (model X.prog X.w) X.A X.xe use R (.ref D) C (.ok f) d):wpAny (model X.prog X.w) X.A (comprehension (.ListComp bh [⟨tg,iter,aU,0⟩] scope pos) scope X.env i (newList []) (firstAsync [⟨tg,iter,aU,0⟩]) (firstIter [⟨tg,iter,aU,0⟩] X.env) use) R X.xe s:=
 Gc hc hk (fun y hy e=>absurd e (c y hy)) j l hfr o hi (fun a C s₀ H₀ ex=>mB (X:=X) (N':=N') c a C s₀ H₀ ex▸p a C s₀ H₀ ex) (fun a C s₀ H₀ ex=>mB (X:=X) (N':=N') c a C s₀ H₀ ex▸ht a C s₀ H₀ ex) (fun a C s₀ H₀ ex=>mB (X:=X) (N':=N') c a C s₀ H₀ ex▸q a C s₀ H₀ ex) r I h fin
def Lk(hc:X.calm=true)(hk:scope.kind=.function)(c:∀y∈scope.names,y.2≠.cell)(i:∀y∈scope.names,y.2=.free->scope.names.lookup y.1=some .free)(j:∀y∈scope.names,y.2=.local->scope.names.lookup y.1=some .local)(hfr:∀y∈scope.names,y.2=.free->X.env.kindOf y.1=some .cell\/X.env.kindOf y.1=some .free)(l:mx X.N N' aq scope)(hi:PI X tg iter wi)(o:∀a C s₀ H₀ ex,PG (eO X scope N' a C s₀ H₀ ex) tg g)(ht:∀a C s₀ H₀ ex,hH (eO X scope N' a C s₀ H₀ ex) aU tc)(p:∀a C s₀ H₀ ex,PE (eO X scope N' a C s₀ H₀ ex) bh te)(r:∀x,foldedSetIterable iter X.env x=pure x:=by intro _;rfl):PE X (.ListComp bh [⟨tg,iter,aU,0⟩] scope pos) (iq wi aq g tc te):=by
 intro aa s σ H Q I h;rw[eval_ListComp];refine Lj (use:=none) hc hk c i j hfr l hi o ht p r I h fun D C H' u f L q=>?_;obtain⟨m,e⟩:=L.ns;exact⟨m,e,fun h' d=>⟨.ref D,H',L.back h' d,rfl,q⟩⟩
end
end L2
end
section
namespace Zp
open PySem PySem.Spec PyProof.Rows
section
variable{prog:Program}{w:World}{A:Around}{E:Ω}{s:Shared}
def Ll{it t:Addr}{i:Nat}{d:Array Value}{x:Value}{Q:Ω}(c:s.heap.IsTupleIter it t i)(ht:s.heap.IsTuple t d)(hx:d[i]?=some x)(f:∀h',h'.IsTupleIter it t (i+1)->Heap.SameBut it s.heap h'->Q x {s with heap:=h'}):wpAny (model prog w) A (Builtin.SmallTypes.nextOf (.ref it)) Q E s:=by
 obtain⟨o,a,hc,hd⟩:=id c;obtain⟨g,hol,_,h,e⟩:=ht;unfold Builtin.SmallTypes.nextOf;refine Aa (AN (name:=Bg "__next__") c.typeIs F.slot_tuple_iterator_next (AK F.slot_tuple_iterator_next c.typeIs F.entry_tuple_iterator_next ?_ (F.args_tuple_iterator_next_1 _)));show wpAny _ _ (field (.ref it) 0 >>= _) _ _ s;refine Aa (Ba a hd (x:=.ref t) rfl ?_);show wpAny _ _ (if(Value.ref t==Value.none)=true then _ else _) _ _ s;rw[Ti (show ¬((Value.ref t==Value.none)=true) from An)];show wpAny _ _ (field (.ref it) 1 >>= _) _ _ s;refine Aa (Ba a hd (x:=.int i 0) rfl ?_);show wpAny _ _ (seqItems? (.ref t) >>= _) _ _ s;refine Aa (wpAny_seqItems hol e ?_);simp only[QB,hx];refine Aa (wpAny_setField a hd (by simp) (Ac ⟨x,rfl,Ac (f _ ?_ (AO ..))⟩));exact⟨_,Heap.get?_update_self _ a (Obj.isFreed_of_fields (Obj.data_mapFields hd _)),(Obj.cls_mapFields ..).trans hc,by
  rw[Obj.data_mapFields hd];simp[rawInt]⟩
def Lm{it t:Addr}{i:Nat}{f:Array Value}{Q:Ω}(g:A.handled=none)(d:s.heap.IsTupleIter it t i)(ht:s.heap.IsTuple t f)(hx:f[i]?=none)(j:∀h' e,Heap.ExtBut it s.heap h'->(∃o,h'.get? e=some o/\o.cls=.type "StopIteration")->E (.ref e) {s with heap:=h'}):wpAny (model prog w) A (Builtin.SmallTypes.nextOf (.ref it)) Q E s:=by
 obtain⟨o,c,hc,hd⟩:=id d;obtain⟨l,hol,_,p,h⟩:=ht;unfold Builtin.SmallTypes.nextOf;refine Aa (AN (name:=Bg "__next__") d.typeIs F.slot_tuple_iterator_next (AK F.slot_tuple_iterator_next d.typeIs F.entry_tuple_iterator_next ?_ (F.args_tuple_iterator_next_1 _)));show wpAny _ _ (field (.ref it) 0 >>= _) _ _ s;refine Aa (Ba c hd (x:=.ref t) rfl ?_);show wpAny _ _ (if(Value.ref t==Value.none)=true then _ else _) _ _ s;rw[Ti (show ¬((Value.ref t==Value.none)=true) from An)];show wpAny _ _ (field (.ref it) 1 >>= _) _ _ s;refine Aa (Ba c hd (x:=.int i 0) rfl ?_);show wpAny _ _ (seqItems? (.ref t) >>= _) _ _ s;refine Aa (wpAny_seqItems hol h ?_);simp only[QB,hx];refine Aa (wpAny_rule (Aa (wpAny_setField c hd (by simp) ?_)));show wpAny _ _ (newExc (.type "StopIteration") [] >>= _) _ _ _;refine Aa ?_;simp only[newExc,newTuple];refine Aa (AI ?_ (by size_fits));refine Aa (m:=firstArgMember _ _) (wpAny_of_eq (a:=Value.none) (by first|rfl|(simp only[firstArgMember];rfl)) ?_);refine AI ?_ (by size_fits);simp only[raiseNew];refine Aa (wpAny_handled ?_)
 first|rw[show A.in1.handled=none from g]|rw[g]
 refine Aa (Ac (wpAny_throw ?_));exact j _ _ (((AO ..).extBut.push _).push _) ⟨_,Ak _ rfl,rfl⟩
end
def Ln{h h':Heap}{a:Addr}{c:Array Value}(x:h.IsTuple a c)(e:∀o,h.get? a=some o->h'.get? a=some o):h'.IsTuple a c:=let ⟨o,ho,r⟩:=x;⟨o,e o ho,r⟩
def Gd{prog:Program}{w:World}{A:Around}(l:A.handled=none)(it t:Addr)(c:t≠it)(a:Array Value):Draws prog w A it [it,t] a.size (fun i v=>a[i]?=some v) (fun i h=>h.IsTupleIter it t i/\h.IsTuple t a) where
 live:=fun _ _ st=>let ⟨o,ho,_⟩:=st.1;⟨o,ho⟩
 frame:=fun _ _ _ st hk=>⟨st.1.at fun o e=>hk it (by simp) o e,Ln st.2 fun o e=>hk t (by simp) o e⟩
 item:=fun i s Q E hi st f=>by
  refine Ll st.1 st.2 (x:=a[i]) (by simp[hi]) fun h' g d=>?_;exact f _ h' s.toks (by simp[hi]) ⟨g,st.2.extBut d.extBut c⟩ d
 done:=fun s Q E st j=>Lm l st.1 st.2 (by simp) j
structure Apart(z TI TO i1 i2:Addr)(cg cm:List Addr):Prop where
 z1:z∉cg
 z2:z∉cm
 o1:TO∉cg
 o2:TO∉cm
 m1:i1∈cg
 m2:i2∈cm
 x12:i1∉cm
 x21:i2∉cg
 TIz:TI≠z
 TOz:TO≠z
 TITO:TI≠TO
 TIi1:TI≠i1
 TIi2:TI≠i2
section
variable{prog:Program}{w:World}{A:Around}{E:Ω}{s:Shared}{z TI TO i1 i2:Addr}{cg cm:List Addr}{n1 n2 i:Nat}{P1 P2:Nat->Value->Prop}{S1 S2:Nat->Heap->Prop}{a b:Value}
def Lo{Q:Ω}(D1:Draws prog w A i1 cg n1 P1 S1)(D2:Draws prog w A i2 cm n2 P2 S2)(D:Apart z TI TO i1 i2 cg cm)(hz:IsZip s.heap z TI TO .none)(dI:IsPair s.heap TI (.ref i1) (.ref i2))(dJ:IsPair s.heap TO a b)(h1:S1 i s.heap)(h2:S2 i s.heap)(l1:i<n1)(l2:i<n2)(hQ:∀x y h' tk,P1 i x->P2 i y->IsZip h' z TI TO (rawInt s⁻¹)->IsPair h' TO x y->S1 (i+1) h'->S2 (i+1) h'->IsPair h' s⁻¹ x y->h'.objs.size=s⁻¹+1->
   (∀c o,c≠z->c≠TO->c≠i1->c≠i2->s.heap.get? c=some o->h'.get? c=some o)->Q (.ref s⁻¹) {s with heap:=h',toks:=tk}):
  wpAny (model prog w) A (Builtin.«zip.__next__» ⟨[.ref z],[]⟩) (fun fin s'=>∃v,fin=.done (.ret v)/\Q v s') E s:=by
 have g:∀c∈cg,c≠z:=fun c hc e=>D.z1 (e▸hc);have N:∀c∈cm,c≠z:=fun c hc e=>D.z2 (e▸hc);have O:∀c∈cg,c≠TO:=fun c hc e=>D.o1 (e▸hc);have P:∀c∈cm,c≠TO:=fun c hc e=>D.o2 (e▸hc);have pC:∀c∈cm,c≠i1:=fun c hc e=>D.x12 (e▸hc);have yf:∀c∈cg,c≠i2:=fun c hc e=>D.x21 (e▸hc);have lE:i1≠z:=g _ D.m1;have nU:i2≠z:=N _ D.m2;have gX:TO≠i1:=(O _ D.m1).symm;have l9:TO≠i2:=(P _ D.m2).symm;show wpAny _ _ (field (.ref z) 2 >>= _) _ _ _;refine Aa (Ba hz rfl (x:=.bool false) rfl ?_);show wpAny _ _ (field (.ref z) 3 >>= _) _ _ _;refine Aa (Ba hz rfl (x:=.ref TI) rfl ?_);refine Aa (wpAny_seqItems dI rfl ?_);show wpAny _ _ (Builtin.SmallTypes.ownedTupleIsFree (.ref z) >>= _) _ _ _;refine Aa ?_;unfold Builtin.SmallTypes.ownedTupleIsFree;refine Aa (Ba hz rfl (x:=.none) rfl (Ac ?_));simp only[if_true];refine Aa (wpAny_rule ?_);refine Aa (Ba hz rfl (x:=.ref TO) rfl ?_);refine Aa (Be hz (by simp) fun g1 d h=>?_);replace d:IsZip g1 z TI TO .ellipsis:=d;refine Aa ?_;simp only[List.zipIdx_cons,List.zipIdx_nil,SH,List.forIn_nil];refine Aa (Aa (wpAny_onRaise ?_));show wpAny _ _ (Builtin.SmallTypes.nextOf (.ref i1) >>= _) _ _ _;refine Aa (D1.item i _ _ _ l1 (D1.frame _ _ _ h1 fun c hc o e=>h.extBut c o (g c hc) e) fun x g2 kA px s2 j=>Ac ?_);have S:IsPair g2 TO a b:=j.extBut _ _ gX (h.extBut _ _ D.TOz dJ);refine Aa (wpAny_seqItems S rfl ?_);refine Aa (wpAny_updateSeq_pair S fun g3 G l=>?_);replace G:IsPair g3 TO x b:=G;refine Aa (wpAny_letGo (Ac ?_));refine Aa (Aa (wpAny_onRaise ?_));show wpAny _ _ (Builtin.SmallTypes.nextOf (.ref i2) >>= _) _ _ _;refine Aa (D2.item i _ _ _ l2 (D2.frame _ _ _ h2 fun c hc o e=>l.extBut c o (P c hc) (j.extBut c o (pC c hc) (h.extBut c o (N c hc) e))) fun y g4 BF py s4 p=>Ac ?_);have T:IsPair g4 TO x b:=p.extBut _ _ l9 G;refine Aa (wpAny_seqItems T rfl ?_);refine Aa (wpAny_updateSeq_pair T fun g5 u q=>?_);replace u:IsPair g5 TO x y:=u;refine Aa (wpAny_letGo (Ac (Ac ?_)));refine Aa (wpAny_seqItems u rfl ?_);refine Aa (wpAny_newTuple ?_);have hsz:g5.objs.size=s⁻¹:=by rw[q.1,p.1,l.1,j.1,h.1]
 have U:IsZip g5 z TI TO .ellipsis:=q.extBut _ _ D.TOz.symm (p.extBut _ _ nU.symm (l.extBut _ _ D.TOz.symm (j.extBut _ _ lE.symm d)));have kk:∀c o,c≠z->c≠TO->c≠i1->c≠i2->s.heap.get? c=some o->g5.get? c=some o:=fun c o f C H I e=>
  q.extBut _ _ C (p.extBut _ _ I (l.extBut _ _ C (j.extBut _ _ H (h.extBut _ _ f e))))
 have d1:S1 (i+1) g5:=D1.frame _ _ _ s2 fun c hc o e=>q.extBut c o (O c hc) (p.extBut c o (yf c hc) (l.extBut c o (O c hc) e));have d2:S2 (i+1) g5:=D2.frame _ _ _ s4 fun c hc o e=>q.extBut c o (P c hc) e;have W:z<g5.objs.size:=Aq U;have e1:∀c∈cg,∀o,g5.get? c=some o->c<g5.objs.size:=fun c _ o e=>Aq e;show wpAny _ _ (Builtin.SmallTypes.ownedTupleHandOut (.ref z) (.ref g5.objs.size) >>= _) _ _ _;refine Aa ?_;unfold Builtin.SmallTypes.ownedTupleHandOut;have z6:IsZip (g5.push {cls:=.type "tuple",data:=.seq #[x,y]}) z TI TO .ellipsis:=Ad _ U;refine Aa (Be z6 (by simp) fun g7 J L=>?_);replace J:IsZip g7 z TI TO (rawInt g5.objs.size):=J;refine Be J (by simp) fun r F M=>?_;replace F:IsZip r z TI TO (rawInt g5.objs.size):=F;have up:∀c o,c≠z->g5.get? c=some o->r.get? c=some o:=fun c o f e=>M.extBut _ _ f (L.extBut _ _ f (Ad _ e));have Y:IsPair r g5.objs.size x y:=M.extBut _ _ (A3 W) (L.extBut _ _ (A3 W) (Ak _ rfl));have X:r.objs.size=g5.objs.size+1:=by rw[M.1,L.1,Heap.size_push]
 rw[hsz] at F Y X;refine Ac ⟨_,rfl,?_⟩;show Q (.ref g5.objs.size) _;rw[hsz];exact hQ x y r _ px py F (up _ _ D.TOz u) (D1.frame _ _ _ d1 fun c hc o e=>up c o (g c hc) e) (D2.frame _ _ _ d2 fun c hc o e=>up c o (N c hc) e) Y X fun c o f C H I e=>up c o f (kk c o f C H I e)
def Lp{Q:Fin->Shared->Prop}(D1:Draws prog w A i1 cg n1 P1 S1)(D2:Draws prog w A i2 cm n2 P2 S2)(D:Apart z TI TO i1 i2 cg cm)(hz:IsZip s.heap z TI TO .none)(dI:IsPair s.heap TI (.ref i1) (.ref i2))(dJ:IsPair s.heap TO a b)(h1:S1 i s.heap)(h2:S2 i s.heap)(S:i=n1\/(i<n1/\i=n2))(N:∀h' e tk,(∀c o,c≠z->c≠TO->c≠i1->c≠i2->s.heap.get? c=some o->h'.get? c=some o)->(∃o,h'.get? e=some o/\o.cls=.type "StopIteration")->E (.ref e) {s with heap:=h',toks:=tk}):wpAny (model prog w) A (Builtin.«zip.__next__» ⟨[.ref z],[]⟩) Q E s:=by
 have q:∀c∈cg,c≠z:=fun c hc e=>D.z1 (e▸hc);have H:∀c∈cm,c≠z:=fun c hc e=>D.z2 (e▸hc);have U:∀c∈cg,c≠TO:=fun c hc e=>D.o1 (e▸hc);have W:∀c∈cm,c≠TO:=fun c hc e=>D.o2 (e▸hc);have X:∀c∈cm,c≠i1:=fun c hc e=>D.x12 (e▸hc);have I:i1≠z:=q _ D.m1;have Y:i2≠z:=H _ D.m2;have gX:TO≠i1:=(U _ D.m1).symm;show wpAny _ _ (field (.ref z) 2 >>= _) _ _ _;refine Aa (Ba hz rfl (x:=.bool false) rfl ?_);show wpAny _ _ (field (.ref z) 3 >>= _) _ _ _;refine Aa (Ba hz rfl (x:=.ref TI) rfl ?_);refine Aa (wpAny_seqItems dI rfl ?_);show wpAny _ _ (Builtin.SmallTypes.ownedTupleIsFree (.ref z) >>= _) _ _ _;refine Aa ?_;unfold Builtin.SmallTypes.ownedTupleIsFree;refine Aa (Ba hz rfl (x:=.none) rfl (Ac ?_));simp only[if_true];refine Aa (wpAny_rule ?_);refine Aa (Ba hz rfl (x:=.ref TO) rfl ?_);refine Aa (Be hz (by simp) fun g1 d j=>?_);replace d:IsZip g1 z TI TO .ellipsis:=d;refine Aa ?_;simp only[List.zipIdx_cons,List.zipIdx_nil,SH,List.forIn_nil];refine Aa (Aa (wpAny_onRaise ?_));have f1:=D1.frame _ _ _ h1 fun c hc o e=>j.extBut c o (q c hc) e;rcases S with v|⟨T,v⟩
 ·show wpAny _ _ (Builtin.SmallTypes.nextOf (.ref i1) >>= _) _ _ _
  refine Aa (D1.done _ _ _ (v▸f1) fun g2 e f r=>?_);obtain⟨y,g,p⟩:=r;have J:IsZip g2 z TI TO .ellipsis:=f _ _ I.symm d;have C:e≠z:=fun x=>by subst x;rw[J] at g;cases g;simp at p
  refine Be J (by simp) fun g3 _ h=>N g3 e _ (fun c o l _ u _ x=>h.extBut _ _ l (f _ _ u (j.extBut _ _ l x))) ⟨y,h.extBut _ _ C g,p⟩
 ·show wpAny _ _ (Builtin.SmallTypes.nextOf (.ref i1) >>= _) _ _ _
  refine Aa (D1.item i _ _ _ T f1 fun x g2 kA px s2 f=>Ac ?_);have L:IsPair g2 TO a b:=f.extBut _ _ gX (j.extBut _ _ D.TOz dJ);refine Aa (wpAny_seqItems L rfl ?_);refine Aa (wpAny_updateSeq_pair L fun g3 t3 h=>?_);refine Aa (wpAny_letGo (Ac ?_));refine Aa (Aa (wpAny_onRaise ?_));have f2:S2 i g3:=D2.frame _ _ _ h2 fun c hc o e=>h.extBut c o (W c hc) (f.extBut c o (X c hc) (j.extBut c o (H c hc) e));show wpAny _ _ (Builtin.SmallTypes.nextOf (.ref i2) >>= _) _ _ _;refine Aa (D2.done _ _ _ (v▸f2) fun g4 e F r=>?_);obtain⟨y,g,p⟩:=r;have M:IsZip g4 z TI TO .ellipsis:=F _ _ Y.symm (h.extBut _ _ D.TOz.symm (f.extBut _ _ I.symm d));have C:e≠z:=fun x=>by subst x;rw[M] at g;cases g;simp at p
  refine Be M (by simp) fun g5 _ G=>N g5 e _ (fun c o l O u P x=>G.extBut _ _ l (F _ _ P (h.extBut _ _ O (f.extBut _ _ u (j.extBut _ _ l x))))) ⟨y,G.extBut _ _ C g,p⟩
end
def Lq{prog:Program}{w:World}{A:Around}{z TI TO i1 i2:Addr}{cg cm:List Addr}{n1 n2:Nat}{P1 P2:Nat->Value->Prop}{S1 S2:Nat->Heap->Prop}(D1:Draws prog w A.in1 i1 cg n1 P1 S1)(D2:Draws prog w A.in1 i2 cm n2 P2 S2)(D:Apart z TI TO i1 i2 cg cm):WalksT prog w A z (z::TI::TO::(cg++cm)) [z,TO,i1,i2] (min n1 n2) (fun i p=>∃x y,P1 i x/\P2 i y/\p=#[x,y])
   (fun i h=>IsZip h z TI TO .none/\IsPair h TI (.ref i1) (.ref i2)/\(∃a b,IsPair h TO a b)/\S1 i h/\S2 i h)
   (fun i T h=>IsZip h z TI TO (rawInt T)/\IsPair h TI (.ref i1) (.ref i2)/\(∃a b,IsPair h TO a b)/\S1 (i+1) h/\S2 (i+1) h/\T≠z/\T≠TO/\T≠i1/\T≠i2) where
 sub:=fun c hc=>by
  simp at hc ⊢;rcases hc with rfl|rfl|rfl|rfl
  ·simp
  ·simp
  ·exact .inr (.inr (.inr (.inl D.m1)))
  ·exact .inr (.inr (.inr (.inr D.m2)))
 frame:=fun i h h' d hk=>by
  obtain⟨hz,f,⟨a,b,g⟩,h1,h2⟩:=d;exact⟨hk z (by simp) _ hz,hk TI (by simp) _ f,⟨a,b,hk TO (by simp) _ g⟩,D1.frame _ _ _ h1 fun c hc o e=>hk c (by simp[hc]) o e,D2.frame _ _ _ h2 fun c hc o e=>hk c (by simp[hc]) o e⟩
 item:=fun i s Q E hi d j=>by
  obtain⟨hz,f,⟨a,b,g⟩,h1,h2⟩:=d;have hT:s.TypeIs (.ref z) "zip":=⟨_,hz,rfl⟩;unfold pyNext;refine Aa (wpAny_attempt (AN (name:=Bg "__next__") hT F.slot_zip_next (AK F.slot_zip_next hT F.entry_zip_next
   (Lo D1 D2 D hz f g h1 h2 (Az hi (Nat.min_le_left ..)) (Az hi (S8 ..)) fun x y h' tk r u v C G H I Y hk=>Ac ?_) (F.args_zip_next_1 _))))
  have lt:∀{c o},s.heap.get? c=some o->s⁻¹≠c:=fun e=>A3 (Aq e);obtain⟨o1,M⟩:=D1.live _ _ h1;obtain⟨o2,N⟩:=D2.live _ _ h2;exact j s⁻¹ #[x,y] h' tk ⟨_,_,r,u,rfl⟩ (Af _) ⟨_,I,rfl,_,rfl⟩ ⟨v,hk _ _ D.TIz D.TITO D.TIi1 D.TIi2 f,⟨_,_,C⟩,G,H,lt hz,lt g,lt M,lt N⟩
   fun c o hc e=>hk c o (fun x=>hc (by simp[x])) (fun x=>hc (by simp[x])) (fun x=>hc (by simp[x])) (fun x=>hc (by simp[x])) e
 go:=fun bL k pos i T s Q E hm j=>by
  obtain⟨hz,f,⟨a,b,g⟩,h1,h2,_⟩:=hm;refine wpAny_letOwnedTupleGo_zip hz fun h' J l=>j h' ⟨J,l.extBut _ _ D.TIz f,⟨a,b,l.extBut _ _ D.TOz g⟩,
   D1.frame _ _ _ h1 fun c hc o e=>l.extBut c o (fun q=>D.z1 (q▸hc)) e,D2.frame _ _ _ h2 fun c hc o e=>l.extBut c o (fun q=>D.z2 (q▸hc)) e⟩ fun c o hc e=>l.extBut _ _ (fun x=>hc (by simp[x])) e
 apart:=fun i T h hm hT=>by
  obtain⟨_,_,_,_,_,O,P,S,U⟩:=hm;simp at hT;rcases hT with rfl|rfl|rfl|rfl
  ·exact O rfl
  ·exact P rfl
  ·exact S rfl
  ·exact U rfl
 done:=fun s Q E d j=>by
  obtain⟨hz,f,⟨a,b,g⟩,h1,h2⟩:=d;have hT:s.TypeIs (.ref z) "zip":=⟨_,hz,rfl⟩;have X:min n1 n2=n1\/(min n1 n2<n1/\min n1 n2=n2):=ω
  unfold pyNext;refine Aa (wpAny_attempt (AN (name:=Bg "__next__") hT F.slot_zip_next
   (AK F.slot_zip_next hT F.entry_zip_next (Lp D1 D2 D hz f g h1 h2 X fun h' e tk hk L=>?_) (F.args_zip_next_1 _))))
  obtain⟨o,W,hc⟩:=L;refine Aa (wpAny_isInstance (T:="StopIteration") (b:=true) ⟨o,W,hc⟩ isSubtype_stop ?_);exact Ac (j _ tk fun c o hc e=>hk c o (fun x=>hc (by simp[x])) (fun x=>hc (by simp[x])) (fun x=>hc (by simp[x])) (fun x=>hc (by simp[x])) e)
 self:=fun i s Q E d j=>wpAny_pyIter_zip d.1 j
end Zp
end
section
namespace L2
open PySem PySem.Spec PyProof.Rows
section
variable{X:Cx}{aa:Ψ}{σ:St}{H:Hp}{s:Shared}{h':Heap}
def Inv.turneds{t':Nat}{ch:List Addr}(I:Inv X aa σ H s)(hf:∀b∈ch,bQ X aa H b)(k:∀b o,b∉ch->s.heap.get? b=some o->h'.get? b=some o):Inv X aa σ H {s with heap:=h',toks:=t'}:=by
 have a:∀b u,H b=some u->b∉ch:=fun b u e z=>by have:=(hf b z).1;rw[this] at e;cases e
 refine I.step (g':=s.gens) (d':=s.drawn) (ch:=ch) (fun b hb=>?_) (fun b o _ _ hc e _=>k b o hc e) (fun b o _ _ hc e _=>⟨o.slots,k b o hc e⟩) (fun _ _ _ _ n=>n)
  (fun b o hc e=>⟨o,k b o hc e⟩) (fun _ _ e=>e) (fun _ _ _ e=>e) (fun b ps e=>⟨#[],by rw[e];simp⟩) (fun m hm=>?_) (fun b u e=>?_) I.bare
 ·obtain⟨i,f1,f2,d,f,g⟩:=hf b hb
  exact⟨d,f1,f,g⟩
 ·obtain⟨o,es,ep,h,r⟩:=hm
  exact⟨o,es,ep,k _ o (fun z=>(hf _ z).2.1 rfl) h,r⟩
 ·refine(I.hok b u e).stay (fun c v hc q=>k c v ?_ q) (fun _ q=>q) fun _ _ q=>q
  rcases hc with z|z
  ·rw[z];exact a b u e
  ·exact a c _ z
def Inv.adopt{a:Addr}{o:HO}(I:Inv X aa σ H s)(d:H a=none)(h1:X.s₀⁻¹<=a)(h2:a≠X.env.locals)(f:∀x c,X.env.cells.lookup x=some c->c≠a)(g:∀p∈X.pn++aa,p.1≠a)(new:zC X.prog X.w (upd H a o) s.heap a o):Inv X aa σ (upd H a o) s:=by
 refine I.step (h':=s.heap) (g':=s.gens) (t':=s.toks) (d':=s.drawn) (ch:=[a]) (fun b hb=>?_) (fun b o _ _ hc e _=>e) (fun b o _ _ hc e _=>⟨o.slots,e⟩) (fun b o hc e n=>?_)
  (fun b o hc e=>⟨o,e⟩) (fun b xs e=>?_) (fun b o u e=>?_) (fun b ps e=>⟨#[],?_⟩) (fun m hm=>hm) (fun b u e=>?_) I.bare
 ·have e:b=a:=by simpa using hb
  subst e;exact⟨.inr h1,h2,f,g⟩
 ·rw[ah (fun z=>hc (by simp[z]))];exact n
 ·rw[ah (zj e d)];exact e
 ·rw[ah (zj e d)];exact e
 ·rw[ah (zj e d),e];simp
 ·by_cases hb:b=a
  ·subst hb;rw[ae] at e;cases e;exact new
  ·rw[ah hb] at e
   exact(I.hok b u e).stay (fun _ _ _ q=>q) (fun c q=>by rw[ah (zj q d)];exact q) fun c xs q=>by rw[ah (zj q d)];exact q
def Inv.grown{t':Nat}{ch:List Addr}{a:Addr}{o:HO}(I:Inv X aa σ H s)(hf:∀b∈ch,bQ X aa H b)(k:∀b o,b∉ch->s.heap.get? b=some o->h'.get? b=some o)(hp:s⁻¹<=a)(new:zC X.prog X.w (upd H a o) h' a o):Inv X aa σ (upd H a o) {s with heap:=h',toks:=t'}:=by
 have I1:Inv X aa σ H {s with heap:=h',toks:=t'}:=I.turneds hf k;obtain⟨c,f1,f2,f,d,e⟩:=I.fpOk hp (I.hok.fresh hp);exact I1.adopt c (AA I.sz hp) f1 d e new
def Ge{b t:Addr}{o:Obj}(I:Inv X aa σ H s)(f:bQ X aa H b)(hk:X.K.lookup t=some o):t≠b:=by
 intro z;subst z;have e:=I.ok.mod.kin t o hk;rcases f.2.2.2.1 with q|q
 ·exact I.ok.noex t o e q
 ·exact absurd (Az (Aq (I.ok.bs t o e).1) q) (Rt _)
def Gf{b t:Addr}{xs:List V}(I:Inv X aa σ H s)(f:bQ X aa H b)(h:SqT X.K H t xs):t≠b:=by
 rcases h with (h|⟨o,h⟩)|⟨o,_,_,hk,_⟩
 ·exact zj h f.1
 ·exact zj h f.1
 ·exact Ge I f hk
def Lr{b t:Addr}{xs:List V}(I:Inv X aa σ H s)(f:bQ X aa H b)(h:SqL X.K H t xs):t≠b:=by
 rcases h with (h|⟨o,h⟩)|⟨o,_,_,hk,_⟩
 ·exact zj h f.1
 ·exact zj h f.1
 ·exact Ge I f hk
end
def Gg{P:Program}{w:World}{K:Ae}{J:It}{a wr:List Addr}{it:Addr}{c:Nat->Heap->Prop}{bL:List Expr}{k:Nat}{pos:Pos}(mem:it∈a)(obj:∀i h,c i h->∀b∈a,∃o,h.get? b=some o/\∀v,o.data≠.cell v)(keep:∀i h h',c i h->(∀b∈a,∀o,h.get? b=some o->h'.get? b=some o)->c i h')(hw:∀b∈wr,b∈a)(W:∀(X:Cx),X.prog=P->X.w=w->X.K=K->X.calm=true->∀(i:Nat)(aa:Ψ)(s:Shared)(σ:St)(H:Hp),Inv X aa σ H s->(∀b∈a,bQ X aa H b)->c i s.heap->(J.go i H\/J.stop i H)->
   ∃(y:List Addr)(n:Nat)(Pt:Nat->Array Value->Prop)(S:Nat->Heap->Prop)(C:Nat->Addr->Heap->Prop),WalksT P w X.A it y wr n Pt S C/\S i s.heap/\(∀j h,S j h->c j h)/\
    (J.go i H->i<n/\∀d,Pt i d->∃xs:List V,Vals xs d.toList/\xs.length<=sizeLine/\∀p,H p=none->J.yld i H (.ref p) (upd H p (.tup xs)))/\(J.stop i H->i=n))
  (self:∀(A:Around)(i:Nat)(s:Shared)(Q:Ω)(E:Ω),c i s.heap->Q (.ref it) s->wpAny (model P w) A (pyIter (.ref it)) Q E s) :
  Turn P w K (.Tuple bL k pos) J a it c where
 mem:=mem
 obj:=obj
 keep:=keep
 item:=by
  intro X f l r hc i aa s σ H E I hf st u;obtain⟨y,n,Pt,S,C,WT,D,F,g,_⟩:=W X f l r hc i aa s σ H I hf st (.inl u);obtain⟨hi,O⟩:=g u;subst f l r;refine WT.item i s _ _ hi D fun T d h' tk hp hT G hm hk=>⟨.ref T,rfl,?_⟩;obtain⟨xs,U,hz,hy⟩:=O d hp;have I1:Inv X aa σ (upd H T (.tup xs)) {s with heap:=h',toks:=tk}:=I.grown (ch:=wr) (fun b hb=>hf b (hw b hb)) hk hT (show zC X.prog X.w _ h' T (.tup xs) from⟨hz,d.toList,U,by have q:IsTup h' T d:=G;simpa using q⟩);have yO:∀b∈a,b≠T:=fun b hb=>by
   obtain⟨o,e,_⟩:=obj i _ st b hb;exact Au (Az (Aq e) hT)
  have x:∀b∈a,bQ X aa (upd H T (.tup xs)) b:=fun b hb=>by
   obtain⟨Y,fr⟩:=hf b hb;exact⟨by rw[ah (yO b hb)];exact Y,fr⟩
  refine WT.go bL k pos i T _ _ _ hm fun L M N=>?_;have I2:Inv X aa σ (upd H T (.tup xs)) {s with heap:=L,toks:=tk}:=I1.turneds (s:={s with heap:=h',toks:=tk}) (t':=tk) (ch:=wr) (fun b hb=>x b (hw b hb)) N;exact⟨.ref T,_,I2,rfl,hy T (I.hok.fresh hT),F _ _ M,fun b hb=>(x b hb).1⟩
 done:=by
  intro X f l r hc i aa s σ H E I hf st u;obtain⟨y,n,Pt,S,C,WT,D,F,_,g⟩:=W X f l r hc i aa s σ H I hf st (.inr u);subst f l r;have e:=g u;subst e;exact WT.done s _ _ D fun h' tk hk=>⟨rfl,I.turneds (ch:=wr) (fun b hb=>hf b (hw b hb)) hk⟩
 self:=self
noncomputable def CT(K:Ae)(a c:Addr):It:=
 ⟨fun i H=>∃xs ys,SqT K H a xs/\SqT K H c ys/\i<min xs.length ys.length,
  fun i H v H'=>∃p x y,v=.ref p/\H p=none/\H'=upd H p (.tup [x,y])/\(∀xs,SqT K H a xs->xs[i]?=some x)/\∀ys,SqT K H c ys->ys[i]?=some y,
  fun i H=>∃xs ys,SqT K H a xs/\SqT K H c ys/\i=min xs.length ys.length⟩
def eR:(2:Nat)<=sizeLine:=by rw[sizeLine_eq];decide
def Ls{P:Program}{w:World}{K:Ae}{bL:List Expr}{k:Nat}{pos:Pos}(L M z TI TO i1 i2:Addr)(hd:TI≠z/\TO≠z/\TI≠TO/\TI≠i1/\TI≠i2/\z≠i1/\z≠i2/\TO≠i1/\TO≠i2/\i1≠i2):Turn P w K (.Tuple bL k pos) (CT K L M) [z,TI,TO,i1,i2] z (fun i h=>IsZip h z TI TO .none/\IsPair h TI (.ref i1) (.ref i2)/\(∃a b,IsPair h TO a b)/\h.IsTupleIter i1 L i/\h.IsTupleIter i2 M i):=by
 obtain⟨d1,d2,d3,d4,d5,d6,d7,d8,d9,W⟩:=hd;refine Gg (wr:=[z,TO,i1,i2]) (by simp) (fun i h st b hb=>?_) (fun i h h' st c=>?_) (fun b hb=>?_) (fun X hP hw hK hc i aa s σ H I hf st iY=>?_) fun A i s Q E st h=>wpAny_pyIter_zip st.1 h
 ·obtain⟨d,l,⟨a,Y,q⟩,⟨o4,r,_,N⟩,⟨o5,C,_,e5⟩⟩:=st
  simp at hb;rcases hb with rfl|rfl|rfl|rfl|rfl
  ·exact⟨_,d,fun v z=>by cases z⟩
  ·exact⟨_,l,fun v z=>by cases z⟩
  ·exact⟨_,q,fun v z=>by cases z⟩
  ·exact⟨_,r,fun v z=>by rw[N] at z;cases z⟩
  ·exact⟨_,C,fun v z=>by rw[e5] at z;cases z⟩
 ·obtain⟨d,l,⟨a,Y,q⟩,r,C⟩:=st
  exact⟨c z (by simp) _ d,c TI (by simp) _ l,⟨a,Y,c TO (by simp) _ q⟩,r.at fun o e=>c i1 (by simp) o e,C.at fun o e=>c i2 (by simp) o e⟩
 ·simp at hb ⊢
  rcases hb with rfl|rfl|rfl|rfl<;>simp
 ·subst hP hw hK
  have hd:∃xs ys,SqT X.K H L xs/\SqT X.K H M ys:=by
   rcases iY with ⟨xs,ys,a,b,_⟩|⟨xs,ys,a,b,_⟩
   ·exact⟨xs,ys,a,b⟩
   ·exact⟨xs,ys,a,b⟩
  obtain⟨xs,ys,q1,D⟩:=hd;obtain⟨us,r1,p1,_⟩:=I.tuple q1;obtain⟨ws,r2,p2,_⟩:=I.tuple D;have gG:=r1.length;have J:=r2.length;have hh:=I.ok.hd hc;obtain⟨d,l,q,r,C⟩:=st;have f:=fun b hb=>Gf I (hf b hb) q1;have O:=fun b hb=>Gf I (hf b hb) D;have AP:Zp.Apart z TI TO i1 i2 [i1,L] [i2,M]:=by
   refine⟨?_,?_,?_,?_,by simp,by simp,?_,?_,d1,d2,d3,d4,d5⟩
   ·simp;exact⟨d6,(f z (by simp)).symm⟩
   ·simp;exact⟨d7,(O z (by simp)).symm⟩
   ·simp;exact⟨d8,(f TO (by simp)).symm⟩
   ·simp;exact⟨d9,(O TO (by simp)).symm⟩
   ·simp;exact⟨W,(O i1 (by simp)).symm⟩
   ·simp;exact⟨W.symm,(f i2 (by simp)).symm⟩
  have WZ:=Zp.Lq (prog:=X.prog) (w:=X.w) (A:=X.A) (Zp.Gd (A:=X.A.in1) hh i1 L (f i1 (by simp)) us.toArray) (Zp.Gd (A:=X.A.in1) hh i2 M (O i2 (by simp)) ws.toArray) AP;refine⟨_,_,_,_,_,WZ,⟨d,l,q,⟨r,p1⟩,⟨C,p2⟩⟩,fun j h st=>⟨st.1,st.2.1,st.2.2.1,st.2.2.2.1.1,st.2.2.2.2.1⟩,fun g=>?_,fun g=>?_⟩
  ·obtain⟨F,G,S,T,hi⟩:=g
   have e1:=I.tuple_inj S q1;have e2:=I.tuple_inj T D;subst e1 e2;refine⟨by simpa[<-gG,<-J] using hi,fun bj hp=>?_⟩;obtain⟨x,y,px,py,rfl⟩:=hp;have oP:us[i]?=some x:=by simpa using px
   have U:ws[i]?=some y:=by simpa using py
   have lx:i<F.length:=ω
   have ly:i<G.length:=ω
   have gx:F[i]?=some F[i]:=by simp[lx]
   have gy:G[i]?=some G[i]:=by simp[ly]
   obtain⟨u,e3,ru⟩:=r1.get gx;obtain⟨u',N,cE⟩:=r2.get gy;rw[oP] at e3;cases e3;rw[U] at N;cases N;refine⟨[F[i],G[i]],.cons ru (.cons cE .nil),eR,fun p hp=>⟨p,_,_,rfl,hp,rfl,fun zs hz=>?_,fun zs hz=>?_⟩⟩
   ·rw[I.tuple_inj hz q1];exact gx
   ·rw[I.tuple_inj hz D];exact gy
  ·obtain⟨F,G,S,T,hi⟩:=g
   have e1:=I.tuple_inj S q1;have e2:=I.tuple_inj T D;subst e1 e2
   simpa[<-gG,<-J] using hi
def Lu(e f:Addr)(xs ys:Array Value):Meets (Builtin.«zip.__new__» ⟨[.type "zip",.ref e,.ref f],[]⟩) (fun _ R s=>s.heap.IsTuple e xs/\s.heap.IsTuple f ys/\
   ∀h',IsZip h' (s⁻¹+4) (s⁻¹+2) (s⁻¹+3) .none->IsPair h' (s⁻¹+2) (.ref s⁻¹) (.ref (s⁻¹+1))->
   IsPair h' (s⁻¹+3) .none .none->h'.IsTupleIter s⁻¹ e 0->h'.IsTupleIter (s⁻¹+1) f 0->
   (∀c o,s.heap.get? c=some o->h'.get? c=some o)->R (.ok (.ret (.ref (s⁻¹+4)))) {s with heap:=h'}):=
 .of_wp fun prog w A R s h=>by
  obtain⟨hp,g,d,tk,os⟩:=s;obtain⟨j,i,h⟩:=h;have q:=sub_zip;have l:Heap.IsTuple (Shared.heap ⟨hp,g,d,tk,os⟩) e xs:=j;have p:Heap.IsTuple (Shared.heap ⟨hp.push {cls:=.type "tuple_iterator",data:=.fields #[.ref e,.int 0 0]},g,d,tk,os⟩) f ys:=Heap.IsTuple.push i _
  wp_walk using wpAny_pyIter_tuple l,wpAny_pyIter_tuple p
  refine⟨_,rfl,?_⟩;dsimp only at h ⊢;have a:∀(h:Heap)(o:Obj),(h.push o).objs.size=h.objs.size+1:=fun h o=>Heap.size_push ..;simp only[a,Nat.add_assoc,Nat.reduceAdd];refine h _ ?_ ?_ ?_ ?_ ?_ fun c o x=>Ad _ (Ad _ (Ad _ (Ad _ (Ad _ x))))
  ·exact Heap.get?_push_at (by simp only[a]) rfl
  ·exact Ad _ (Ad _ (Heap.get?_push_at (by simp only[a]) rfl))
  ·exact Ad _ (Heap.get?_push_at (by simp only[a]) rfl)
  ·exact⟨_,Ad _ (Ad _ (Ad _ (Ad _ (Ak _ rfl)))),rfl,rfl⟩
  ·exact⟨_,Ad _ (Ad _ (Ad _ (Heap.get?_push_at (by simp only[a]) rfl))),rfl,rfl⟩
section
variable{X:Cx}{bL:List Expr}{k:Nat}{eF:Pos}
def CU(K:Ae)(ta:TA):TI:=fun σ H R=>ta σ H fun vs H1=>∃a c,vs=[.ref a,.ref c]/\(∃xs,SqT K H1 a xs)/\(∃ys,SqT K H1 c ys)/\R (CT K a c) H1
def Lv{a b:Expr}{ta:TA}{p pos:Pos}(G:Gl X "zip")(hm:X.mg "zip"=none)(J:AZ "zip"=some (.type "zip"))(ha:PA X [a,b] ta)(L:starEach [a,b] X.env=[(false,eval a X.env),(false,eval b X.env)]:=by rfl)(i:starEach [b] X.env=[(false,eval b X.env)]:=by rfl):PI X (.Tuple bL k eF) (.Call (.Name "zip" p) [a,b] [] pos) (CU X.K ta):=by
 intro aa s σ H R I h;refine Call_ (j1 I G hm J (Rh (ba (ha pos aa s σ H _ I h) fun us c ⟨vs,H1,I1,j,q1⟩=>?_) (by rw[L,i]) (by rw[i];rfl)));obtain⟨f,g,e,⟨xs,q1⟩,⟨ys,x⟩,q⟩:=q1;subst e;obtain⟨u,N,rfl,y,A⟩:=vals2 j;cases y;cases A;obtain⟨C,_,D,_⟩:=I1.tuple q1;obtain⟨E,_,p2,_⟩:=I1.tuple x;refine callType_new F.called_zip ξ (F.typeCall_zip_2 _ _) (F.newCall_zip_2 _ _) (fun obj=>F.args_object_init_3 obj _ _) F.entry_zip_new (Lu f g C.toArray E.toArray) ⟨D,p2,fun h' d l o r v w=>?_⟩;refine⟨⟨_,d,rfl⟩,wpAny_pyIter_zip d ?_⟩;have M:Inv X aa σ H1 {c with heap:=h'}:=I1.kept (t':=c.toks) w;refine⟨c⁻¹+4,[c⁻¹+4,c⁻¹+2,c⁻¹+3,c⁻¹,c⁻¹+1],_,_,H1,rfl,M,Ls f g _ _ _ _ _ (by refine⟨?_,?_,?_,?_,?_,?_,?_,?_,?_,?_⟩<;>(intro z;have O:(_:Nat)=_:=z;omega)),⟨d,l,⟨_,_,o⟩,r,v⟩,fun b hb=>?_,q⟩;have hb':c⁻¹<=b:=by
  simp only[Qk,RW,or_false] at hb;rcases hb with rfl|rfl|rfl|rfl|rfl
  ·exact RX _ _
  ·exact RX _ _
  ·exact RX _ _
  ·exact Af _
  ·exact RX _ _
 exact I1.fpOk hb' (I1.hok.fresh hb')
end
noncomputable def kD(K:Ae)(a:Addr):It:=
 ⟨fun i H=>∃xs,SqL K H a xs/\i<xs.length,
  fun i H v H'=>∃p x,v=.ref p/\H p=none/\H'=upd H p (.tup [.int i,x])/\∀xs,SqL K H a xs->xs[i]?=some x,
  fun i H=>∃xs,SqL K H a xs/\i=xs.length⟩
def Lw{P:Program}{w:World}{K:Ae}{bL:List Expr}{k:Nat}{pos:Pos}(a e it:Addr)(hd:e≠it):Turn P w K (.Tuple bL k pos) (kD K a) [e,it] e (fun i h=>(∃d,IsEnum h e it i d)/\h.IsListIter it a i):=by
 refine Gg (wr:=[e,it]) (by simp) (fun i h st b hb=>?_) (fun i h h' st D=>?_) (fun b hb=>hb) (fun X L hw M hc i aa s σ H I hf st N=>?_) fun A i s Q E st h=>?_
 ·obtain⟨⟨d,c⟩,⟨o4,l,_,O⟩⟩:=st
  simp at hb;rcases hb with rfl|rfl
  ·exact⟨_,c,fun v z=>by cases z⟩
  ·exact⟨_,l,fun v z=>by rw[O] at z;cases z⟩
 ·obtain⟨⟨d,c⟩,l⟩:=st
  exact⟨⟨d,D e (by simp) _ c⟩,l.at fun o q=>D it (by simp) o q⟩
 ·subst L hw M
  have C:∃xs,SqL X.K H a xs:=by
   rcases N with ⟨xs,q,_⟩|⟨xs,q,_⟩
   ·exact⟨xs,q⟩
   ·exact⟨xs,q⟩
  obtain⟨xs,q1⟩:=C;obtain⟨us,F,S,_⟩:=I.list q1;have G:=F.length;have W:=I.ok.hd hc;obtain⟨c,l⟩:=st;have f:=fun b hb=>Lr I (hf b hb) q1;have WZ:=WalksT.enumerateD (prog:=X.prog) (w:=X.w) (A:=X.A) (Draws.list (A:=X.A.in1) W it a (f it (by simp)) us.toArray) e hd (by simp;exact⟨hd,(f e (by simp)).symm⟩) (by simp);refine⟨_,_,_,_,_,WZ,⟨c,l,S.isList⟩,fun j h st=>⟨st.1,st.2.1⟩,fun g=>?_,fun g=>?_⟩
  ·obtain⟨r,y,hi⟩:=g
   have e1:=I.list_inj y q1;subst e1;refine⟨by simpa[<-G] using hi,fun bj hp=>?_⟩;obtain⟨t,x,T,rfl⟩:=hp;have Y:us[i]?=some x:=by simpa using T
   have J:r[i]?=some r[i]:=by simp[hi]
   obtain⟨u,e3,U⟩:=F.get J;rw[Y] at e3;cases e3;refine⟨[.int i,r[i]],.cons ⟨_,rfl⟩ (.cons U .nil),eR,fun p hp=>⟨p,_,rfl,hp,rfl,fun zs hz=>?_⟩⟩;rw[I.list_inj hz q1];exact J
  ·obtain⟨r,y,hi⟩:=g
   have e1:=I.list_inj y q1;subst e1
   simpa[<-G] using hi
 ·obtain⟨⟨d,c⟩,_⟩:=st
  exact wpAny_pyIter_enum c h
section
variable{X:Cx}{bL:List Expr}{k:Nat}{eF:Pos}
def Lx(K:Ae)(ta:TA):TI:=fun σ H R=>ta σ H fun vs H1=>∃a,vs=[.ref a]/\(∃xs,SqL K H1 a xs)/\R (kD K a) H1
def oM{a:Expr}{ta:TA}{p pos:Pos}(r:Gl X "enumerate")(hm:X.mg "enumerate"=none)(v:AZ "enumerate"=some (.type "enumerate"))(ha:PA X [a] ta)(w:starEach [a] X.env=[(false,eval a X.env)]:=by rfl):PI X (.Tuple bL k eF) (.Call (.Name "enumerate" p) [a] [] pos) (Lx X.K ta):=by
 intro aa s σ H R I h;refine Call_ (j1 I r hm v (Rh (ba (ha pos aa s σ H _ I h) fun us c ⟨vs,H1,I1,f,q1⟩=>?_) w rfl));obtain⟨j,e,⟨xs,q1⟩,q⟩:=q1;subst e;obtain⟨u,rfl,l⟩:=vals1 f;cases l;obtain⟨A,_,o,_⟩:=I1.list q1;refine call_enumerate_list o.isList fun h' d g y i=>?_;refine wpAny_pyIter_enum d ?_;have x:Inv X aa σ H1 {c with heap:=h'}:=I1.kept (t':=c.toks) i;refine⟨c⁻¹+1,[c⁻¹+1,c⁻¹],_,_,H1,rfl,x,Lw j _ _ (by intro z;have C:(_:Nat)=_:=z;omega),⟨⟨_,d⟩,g⟩,fun b hb=>?_,q⟩;have hb':c⁻¹<=b:=by
  simp only[Qk,RW,or_false] at hb;rcases hb with rfl|rfl
  ·exact RX _ _
  ·exact Af _
 exact I1.fpOk hb' (I1.hok.fresh hb')
def CV{K:Ae}{a:Addr}{xs:List V}{g:TG}{tb:TS}{D:Ends}{σ:St}{H:Hp}(c:Nat->St->Hp->Prop)(u:c 0 σ H)(v:∀i σ H,i<=xs.length->c i σ H->SqL K H a xs)(w:∀i x p σ H,xs[i]?=some x->c i σ H->H p=none->g (.ref p) σ (upd H p (.tup [.int i,x])) fun f H2=>tb {D with nx:=c (i+1),ct:=c (i+1),bk:=D.nx} f H2)(hd:∀σ H,c xs.length σ H->D.nx σ H):∃W:Nat->Nat->St->Hp->Prop,(∃m,W 0 m σ H)/\∀i m σ H,W i m σ H->
   ((kD K a).stop i H/\D.nx σ H)\/((kD K a).go i H/\∃N:St->Hp->Prop,(∀h H',N h H'->∃j,j<m/\W (i+1) j h H')/\∀x H',(kD K a).yld i H x H'->g x σ H' fun f H2=>tb {D with nx:=N,ct:=N,bk:=D.nx} f H2):=by
 refine⟨fun i m σ H=>m=xs.length-i/\i<=xs.length/\c i σ H,⟨xs.length,by simp,A6 _,u⟩,?_⟩;rintro i m σ H ⟨rfl,hi,p⟩;have q:=v i σ H hi p
 by_cases d:i<xs.length
 ·refine .inr ⟨⟨xs,q,d⟩,c (i+1),fun h H' l=>⟨xs.length-(i+1),ω,rfl,d,l⟩,fun x H' y=>?_⟩
  obtain⟨o,r,rfl,hp,rfl,y⟩:=y;exact w i r o σ _ (y xs q) p hp
 ·have e:i=xs.length:=ω
  subst e;exact .inl ⟨⟨xs,q,rfl⟩,hd σ H p⟩
def eS:∀{bs:List Bool}{us:List Value},Vals (bs.map V.bl) us->LSm.BoolsAre us bs
 |[],_,.nil=>.nil
 |b::bs,_,.cons r t=>by cases r;exact .cons b (eS t)
def kE(hc:X.calm=true):da X (.builtin "all") (fun xs H Q=>∃(l:Addr)(bs:List Bool),xs=[.ref l]/\SqL X.K H l (bs.map V.bl)/\Q (.bl (bs.all id)) H):=by
 intro aa s σ H xs us Q I r h;obtain⟨l,bs,rfl,hq,q⟩:=h;obtain⟨u,rfl,g⟩:=vals1 r;cases g;obtain⟨af,j,o,_⟩:=I.list hq;have p:=I.ok.hd hc;have a:=o.isList;have hb:=eS j;have c:l<s⁻¹:=by obtain⟨_,e,_⟩:=a;exact Aq e
 refine call_all_walk (wpAny_pyIter_list a ?_);refine⟨s⁻¹,[s⁻¹,l],[s⁻¹],af.toArray.size,_,_,fun i=>(bs[i]?).getD true,rfl,Walks.list (A:=X.A.in1) p _ l (Au c) af.toArray,
  ⟨⟨_,Ak _ rfl,rfl,rfl⟩,a.push _⟩,fun i v s' w x f d=>?_,fun h' tk hk=>?_⟩
 ·obtain⟨b,e,rfl⟩:=hb.get i v (by simpa using f)
  simp only[e,RV] at d;exact wpAny_truthy_bool d
 ·have e:((AD af.toArray.size).all fun i=>(bs[i]?).getD true)=bs.all id:=by
   rw[Ao,hb.length];exact LSm.range_all bs
  rw[e];exact⟨.bl _,H,I.kept (LSm.kept_iter hk),rfl,q⟩
end
section
variable{K:Ae}{a:Addr}{xs:List V}{g:TG}{tc:TT}{te:TE}{σ:St}{H1:Hp}{Q:VK}{D:Addr}
def CW(n:Nat)(a:Nat->St->List V->Hp->Prop)(i m:Nat)(σ:St)(H:Hp):Prop:=m=n-i/\i<=n/\∃ys,ys.length<=i/\a i σ ys H
def ee(n:Nat)(e:Nat->St->List V->Hp->Prop)(D:Addr)(i:Nat)(d:St):VK:=fun y c=>∃ys a,c D=some (.lst ys)/\ys.length<sizeLine/\a<n-i/\CW n e (i+1) a d (upd c D (.lst (ys++[y])))
def dq(n:Nat)(d:Nat->St->List V->Hp->Prop)(i:Nat)(c:St)(e:Hp):Prop:=∃a,a<n-i/\CW n d (i+1) a c e
def bz{n:Nat}{d:Nat->St->List V->Hp->Prop}{i:Nat}{c:St}{ys:List V}{y:V}{a:Hp}(f:n<=sizeLine)(hi:i<n)(g:ys.length<=i)(e:a D=some (.lst ys))(p:d (i+1) c (ys++[y]) (upd a D (.lst (ys++[y])))):ee n d D i c y a:=
 ⟨ys,n-(i+1),e,ω,ω,rfl,hi,ys++[y],by simp;omega,p⟩
def dX{n:Nat}{c:Nat->St->List V->Hp->Prop}{i:Nat}{a:St}{ys:List V}{d:Hp}(hi:i<n)(e:ys.length<=i)(p:c (i+1) a ys d):dq n c i a d:=
 ⟨n-(i+1),ω,rfl,hi,ys,ω,p⟩
def ir{J:It}(n:Nat)(a:Nat->St->List V->Hp->Prop)(l:a 0 σ [] (upd H1 D (.lst [])))(o:∀σ ys H,a n σ ys H->J.stop n H)(q:∀i σ ys H,i<n->a i σ ys H->J.go i H)(r:∀i σ ys H x H',i<n->ys.length<=i->a i σ ys H->J.yld i H x H'->g x σ H' fun d u=>tc d u fun b h=>if b=true then te d h (ee n a D i d) else dq n a i d h)(hd:∀σ ys H,a n σ ys H->Q (.ref D) H):zV J g tc te σ H1 D Q:=by
 refine⟨CW n a,⟨n,by simp,A6 _,[],Af _,l⟩,?_⟩;rintro i m f H2 ⟨rfl,hi,ys,j,p⟩
 by_cases c:i<n
 ·exact .inr ⟨q i f ys H2 c p,fun x H3 y=>r i f ys H2 x H3 c j p y⟩
 ·have e:i=n:=ω
  subst e;exact .inl ⟨o f ys H2 p,hd f ys H2 p⟩
def zH(c:Nat->St->List V->Hp->Prop)(j:c 0 σ [] (upd H1 D (.lst [])))(f:∀i σ ys H,c i σ ys H->SqL K H a xs)(l:∀i σ ys H x,xs[i]?=some x->i<xs.length->ys.length<=i->c i σ ys H->g x σ H fun d o=>tc d o fun b h=>if b=true then te d h (ee xs.length c D i d) else dq xs.length c i d h)(hd:∀σ ys H,c xs.length σ ys H->Q (.ref D) H):zV (dP K a) g tc te σ H1 D Q:=by
 refine ir xs.length c j (fun σ ys H p=>⟨xs,f _ _ _ _ p,Af _⟩) (fun i σ ys H hi p=>⟨xs,xs[i],f _ _ _ _ p,by simp[hi]⟩) (fun i σ ys H x H' hi hy p y=>?_) hd;obtain⟨e,y⟩:=y;subst e;exact l i σ ys _ x (y xs (f _ _ _ _ p)) hi hy p
def Ly(c:Nat->St->List V->Hp->Prop)(j:c 0 σ [] (upd H1 D (.lst [])))(f:∀i σ ys H,c i σ ys H->SqT K H a xs)(l:∀i σ ys H x,xs[i]?=some x->i<xs.length->ys.length<=i->c i σ ys H->g x σ H fun d o=>tc d o fun b h=>if b=true then te d h (ee xs.length c D i d) else dq xs.length c i d h)(hd:∀σ ys H,c xs.length σ ys H->Q (.ref D) H):zV (j9 K a) g tc te σ H1 D Q:=by
 refine ir xs.length c j (fun σ ys H p=>⟨xs,f _ _ _ _ p,Af _⟩) (fun i σ ys H hi p=>⟨xs,xs[i],f _ _ _ _ p,by simp[hi]⟩) (fun i σ ys H x H' hi hy p y=>?_) hd;obtain⟨e,y⟩:=y;subst e;exact l i σ ys _ x (y xs (f _ _ _ _ p)) hi hy p
def oR{lo:Int}{n:Nat}(a:Nat->St->List V->Hp->Prop)(f:a 0 σ [] (upd H1 D (.lst [])))(h:∀i σ ys H,i<n->ys.length<=i->a i σ ys H->g (.int (lo+i)) σ H fun c j=>tc c j fun b d=>if b=true then te c d (ee n a D i c) else dq n a i c d)(hd:∀σ ys H,a n σ ys H->Q (.ref D) H):zV (gk lo n) g tc te σ H1 D Q:=by
 refine ir n a f (fun σ ys H p=>Af _) (fun i σ ys H hi p=>hi) (fun i σ ys H x H' hi hy p y=>?_) hd;obtain⟨e,y⟩:=y;subst e y;exact h i σ ys _ hi hy p
def Lz{e f:Addr}{ys:List V}(a:Nat->St->List V->Hp->Prop)(r:a 0 σ [] (upd H1 D (.lst [])))(c:∀i σ zs H,a i σ zs H->SqT K H e xs/\SqT K H f ys)(u:∀i σ zs H p x y,xs[i]?=some x->ys[i]?=some y->i<min xs.length ys.length->zs.length<=i->a i σ zs H->H p=none->g (.ref p) σ (upd H p (.tup [x,y])) fun d w=>tc d w fun b h=>if b=true then te d h (ee (min xs.length ys.length) a D i d) else dq (min xs.length ys.length) a i d h)(hd:∀σ zs H,a (min xs.length ys.length) σ zs H->Q (.ref D) H):zV (CT K e f) g tc te σ H1 D Q:=by
 refine ir (min xs.length ys.length) a r (fun σ zs H p=>⟨xs,ys,(c _ _ _ _ p).1,(c _ _ _ _ p).2,rfl⟩) (fun i σ zs H hi p=>⟨xs,ys,(c _ _ _ _ p).1,(c _ _ _ _ p).2,hi⟩) (fun i σ zs H v H' hi hy p y=>?_) hd;obtain⟨j,x,l,rfl,hp,rfl,o,q⟩:=y;exact u i σ zs H j x l (o xs (c _ _ _ _ p).1) (q ys (c _ _ _ _ p).2) hi hy p hp
end
end L2
end
section
namespace Dk
open PySem PySem.Spec PyProof.Rows
def IsD(h:Heap)(d:Addr)(es:Array DictEntry)(ep:Nat):Prop:=∃o,h.get? d=some o/\o.ExactDict/\o.data=.dict es ep
def IsD.at{h h':Heap}{d:Addr}{es:Array DictEntry}{ep:Nat}(x:IsD h d es ep)(k:∀o,h.get? d=some o->h'.get? d=some o):IsD h' d es ep:=let ⟨o,ho,r⟩:=x;⟨o,k o ho,r⟩
def IsD.lt{h:Heap}{d:Addr}{es:Array DictEntry}{ep:Nat}(x:IsD h d es ep):d<h.objs.size:=let ⟨_,ho,_⟩:=x;Aq ho
section
variable{prog:Program}{w:World}{A:Around}{E:Ω}{s:Shared}{it d:Addr}{i ep:Nat}{es:Array DictEntry}
def IsD.typeIs(x:IsD s.heap d es ep):s.TypeIs (.ref d) "dict":=let ⟨o,ho,r⟩:=x;⟨o,ho,r.1.1⟩
def iter{Q:Ω}(hd:(d==Bc)=false)(hm:IsD s.heap d es ep)(e:Q (.ref s⁻¹) {s with heap:=s.heap.push {cls:=.type "dict_keyiterator",data:=.fields #[.ref d,.int 0 0,.int es.size 0,.int ep 0]}}):wpAny (model prog w) A (pyIter (.ref d)) Q E s:=by
 have hT:=hm.typeIs;obtain⟨o,a,hc,c⟩:=id hm;refine wpAny_pyIter_slot hT PySem.F.slot_dict_iter (AK PySem.F.slot_dict_iter hT PySem.F.entry_dict_iter ?_ (PySem.F.args_dict_iter_1 _));unfold Builtin.«dict.__iter__»;refine Aa ?_;unfold Builtin.Dict.dictSlotNone;refine Aa (wpAny_notOrdered_dict hT ?_);show wpAny _ _ (pure (Value.ref d)) _ _ s;refine Ac ?_;show wpAny _ _ (Builtin.Dict.showsAll d >>= _) _ _ s;unfold Builtin.Dict.showsAll;rw[Ti (by rw[hd];exact An)];refine Aa (Ac ?_);refine Aa (AJ a c ?_);refine Aa (wpAny_dictEpoch a c ?_);refine Aa (AI (Ac ⟨_,rfl,"dict_keyiterator",_,⟨_,Ak _ rfl,rfl⟩,PySem.F.slot_dict_keyiterator_next.lookup,?_⟩))
 simpa[rawInt] using e
def item{Q:Option Value->Shared->Prop}(a:s.heap.IsKeyIter it d i es.size ep)(hm:IsD s.heap d es ep)(hx:i<es.size)(h:∀h',h'.IsKeyIter it d (i+1) es.size ep->Heap.SameBut it s.heap h'->Q (some es[i].key) {s with heap:=h'}):wpAny (model prog w) A (pyNext (.ref it)) Q E s:=by
 obtain⟨o,c,hc,hd⟩:=id a;obtain⟨j,e,l,hdd⟩:=id hm;unfold pyNext;refine Aa (wpAny_attempt (AN (name:=Bg "__next__") a.typeIs Q1
  (AK Q1 a.typeIs Sc ?_ (R3 _))))
 refine Aa (Ac ?_);refine Aa ?_;refine Aa ?_
 first|refine Aa (wpAny_typeNameOfWhole_keyiter a.typeIs (Ac ?_))|refine Aa (wpAny_typeNameOf_keyiter a.typeIs (Ac ?_))
 refine Aa (wpAny_fieldsOf c hd ?_);have g:Builtin.Dict_items.ownsTuple "dict_keyiterator"=false:=ξ
 simp only[g,Av,if_false];show wpAny _ _ (if(Value.ref d==Value.none)=true then _ else _) _ _ s;rw[Ti (show ¬((Value.ref d==Value.none)=true) from An)];refine Aa (Ac ?_);refine Aa (AJ e hdd ?_);rw[Ti (by simp)];refine Aa (Ac ?_);refine Aa (wpAny_dictEpoch e hdd ?_);rw[Ti (by simp)];refine Ac ?_;simp only[show ¬((i:Int)<0) from ω,if_false,QB,QN hx];refine Aa ?_
 first|refine Aa (wpAny_typeNameOfWhole_keyiter a.typeIs (Ac ?_))|refine Aa (wpAny_typeNameOf_keyiter a.typeIs (Ac ?_))
 refine Aa (wpAny_isOneOf_keyiter a.typeIs ?_);show wpAny _ _ (setField (.ref it) 1 (rawInt ((i:Int)+1)) >>= _) _ _ s;refine Aa (wpAny_setField c hd (by simp) ?_);have f:(s.heap.update it (Obj.mapFields (·.setIfInBounds 1 (rawInt ((i:Int)+1))))).IsKeyIter it d (i+1) es.size ep:=
  ⟨_,Heap.get?_update_self _ c (Obj.isFreed_of_fields (Obj.data_mapFields hd _)),(Obj.cls_mapFields ..).trans hc,by rw[Obj.data_mapFields hd];simp[rawInt]⟩
 refine Aa (AU ?_);refine Aa (wpAny_isOneOf_keyiter (s:={s with heap:=s.heap.update it (Obj.mapFields (·.setIfInBounds 1 (rawInt ((i:Int)+1))))}) f.typeIs ?_);show wpAny _ _ (pure es[i].key) _ _ _;exact Ac (Ac ⟨_,rfl,Ac (h _ f (AO ..))⟩)
def done{Q:Option Value->Shared->Prop}(h:A.handled=none)(c:s.heap.IsKeyIter it d es.size es.size ep)(hm:IsD s.heap d es ep)(i:∀h',Heap.ExtBut it s.heap h'->Q none {s with heap:=h'}):wpAny (model prog w) A (pyNext (.ref it)) Q E s:=by
 obtain⟨o,e,hc,hd⟩:=id c;obtain⟨j,f,l,hdd⟩:=id hm;unfold pyNext;refine Aa (wpAny_attempt (AN (name:=Bg "__next__") c.typeIs Q1
  (AK Q1 c.typeIs Sc ?_ (R3 _))))
 refine Aa (Ac ?_);refine Aa ?_;refine Aa ?_
 first|refine Aa (wpAny_typeNameOfWhole_keyiter c.typeIs (Ac ?_))|refine Aa (wpAny_typeNameOf_keyiter c.typeIs (Ac ?_))
 refine Aa (wpAny_fieldsOf e hd ?_);have g:Builtin.Dict_items.ownsTuple "dict_keyiterator"=false:=ξ
 simp only[g,Av,if_false];show wpAny _ _ (if(Value.ref d==Value.none)=true then _ else _) _ _ s;rw[Ti (show ¬((Value.ref d==Value.none)=true) from An)];refine Aa (Ac ?_);refine Aa (AJ f hdd ?_);rw[Ti (by simp)];refine Aa (Ac ?_);refine Aa (wpAny_dictEpoch f hdd ?_);rw[Ti (by simp)];refine Ac ?_;simp only[show ¬((es.size:Int)<0) from ω,if_false,QB,Su (Af es.size)];refine Aa ?_
 first|refine Aa (wpAny_typeNameOfWhole_keyiter c.typeIs (Ac ?_))|refine Aa (wpAny_typeNameOf_keyiter c.typeIs (Ac ?_))
 show wpAny _ _ (setField (.ref it) 0 .none >>= _) _ _ s;refine Aa (wpAny_setField e hd (by simp) ?_);show wpAny _ _ (newExc (.type "StopIteration") [] >>= _) _ _ _;refine Aa ?_;simp only[newExc,newTuple];refine Aa (AI ?_ (by size_fits));refine Aa (m:=firstArgMember _ _) (wpAny_of_eq (a:=Value.none) (by first|rfl|(simp only[firstArgMember];rfl)) ?_);refine AI ?_ (by size_fits);simp only[raiseNew];refine Aa (wpAny_handled ?_);rw[show A.in1.handled=none from h];refine Aa (Ac (wpAny_throw ?_));refine Aa (wpAny_isInstance (T:="StopIteration") (b:=true) ⟨_,Ak _ rfl,rfl⟩ isSubtype_stop ?_);exact Ac (i _ (((AO ..).extBut.push _).push _))
def walks(j:A.handled=none)(I d:Addr)(c:d≠I)(es:Array DictEntry)(ep:Nat):Walks prog w A I [I,d] [I] es.size (fun i v=>∃e,es[i]?=some e/\v=e.key) (fun i h=>h.IsKeyIter I d i es.size ep/\IsD h d es ep) where
 sub:=fun b hb=>by simp at hb ⊢;exact .inl hb
 frame:=fun i h h' st k=>⟨let ⟨o,ho,r⟩:=st.1;⟨o,k I (by simp) o ho,r⟩,st.2.at fun o e=>k d (by simp) o e⟩
 item:=fun i s Q E hi st a=>item st.1 st.2 hi fun h' f sb=>a _ h' s.toks ⟨es[i],by simp[hi],rfl⟩ ⟨f,st.2.at fun o e=>(sb.2 d c).trans e⟩ fun b o hb e=>(sb.2 b (fun z=>hb (by simp[z]))).trans e
 done:=fun s Q E st a=>done j st.1 st.2 fun h' g=>a h' s.toks fun b o hb e=>g b o (fun z=>hb (by simp[z])) e
 self:=fun i s Q E st a=>wpAny_pyIter_keyiter st.1 a
def src(lo:(d==Bc)=false):PySem.W.KdlSrc prog w "dict" d d es.size (fun i v=>∃e,es[i]?=some e/\v=e.key) (fun h=>IsD h d es ep) where
 type:=fun _ hm=>hm.typeIs
 there:=fun _ hm=>⟨hm.lt,hm.lt⟩
 keep:=fun _ _ hm hk=>hm.at fun o e=>hk d (.inl rfl) o e
 notList:=ξ
 notTuple:=ξ
 hint:=fun _ _ _ _ hm hq=>PySem.W.kdl_hint_dict hm.typeIs hq
 iter:=fun _ s a hm=>⟨_,_,(fun _ _ hq=>iter lo hm hq),walks a _ d (Au hm.lt) es ep,⟨⟨_,Ak _ rfl,rfl,rfl⟩,hm.at fun o e=>Ad _ e⟩⟩
end
end Dk
namespace L2
open PySem PySem.Spec PyProof.Rows
section
variable{X:Cx}
def Gh{P:Program}{w:World}{k:Key}{u:Value}(h:(zB P w).is k u=true):RelV (kV k) u:=by
 rcases aT h with ⟨i,t,rfl,rfl⟩|⟨x,t,rfl,rfl⟩
 ·exact⟨t,rfl⟩
 ·exact⟨t,rfl⟩
def LA(hc:X.calm=true):da X (.type "list") (fun xs H Q=>∃a kvs,xs=[.ref a]/\H a=some (.dT kvs)/\
  ∀(bs:List Addr),Paired (fun(p:List Key×V) b=>H b=some (.tup (p.1.map kV))) kvs bs->∀l,H l=none->Q (.ref l) (upd H l (.lst (bs.map V.ref)))):=by
 intro aa s σ H xs us Q I r h;obtain⟨a,kvs,rfl,hq,q⟩:=h;obtain⟨u,rfl,j⟩:=vals1 r;cases j;obtain⟨z,y,ys,c,o,es,ep,h1,h2,v,d,D⟩:=(show zC X.prog X.w H s.heap a (.dT kvs) from I.hok a _ hq);have f:es.size=kvs.length:=by
  have:=congrArg List.length d;rw[Ab,<-A0 c] at this
  simpa using this
 refine S9 (Dk.src (ep:=ep) (es:=es) y) (I.ok.hd hc) ⟨o,h1,h2,v⟩ (by rw[f];exact z) fun h' tk acc c' g e it=>?_;obtain⟨n1,n2⟩:=it;have x:Paired (fun(p:List Key×V) b=>H b=some (.tup (p.1.map kV))) kvs (ys.map (·.2.1)):=by
  have:∀{l:List (List Key×V)}{m:List (List Key×Addr×Value)},KT H l m->Paired (fun(p:List Key×V) b=>H b=some (.tup (p.1.map kV))) l (m.map (·.2.1)):=by
   intro l m q
   induction q with
   |nil=>exact .nil
   |cons hq t ih=>exact .cons hq.2.1 ih
  exact this c
 have A:acc.toList=(ys.map (·.2.1)).map Value.ref:=by
  apply RH;intro i;have hy:ys.length=acc.size:=by rw[n1,f];exact(A0 c).symm
  by_cases hi:i<acc.size
  ·obtain⟨e',g1,g2⟩:=n2 i acc[i] (by simp[hi])
   have g3:es.toList[i]?=some e':=by simpa using g1
   rw[d,Ag] at g3;have g4:ys[i]?=some ys[i]:=by simp[hy,hi]
   rw[g4] at g3;simp only[AQ,AW] at g3;simp only[Ag,g4,AQ,QT,QN hi];rw[g2,<-g3]
   rfl
  ·have g1:acc.toList.length<=i:=by simp;omega
   have g2:((ys.map (·.2.1)).map Value.ref).length<=i:=by simp[hy];omega
   rw[QU g1,QU g2]
 have C:Vals ((ys.map (·.2.1)).map V.ref) acc.toList:=by
  rw[A];generalize ys.map (·.2.1)=bs
  induction bs with
  |nil=>exact .nil
  |cons b bs ih=>exact .cons rfl ih
 refine⟨.ref s⁻¹,_,I.laid g (Af _) (show zC X.prog X.w _ h' _ (.lst ((ys.map (·.2.1)).map V.ref)) from⟨?_,acc.toList,c',C,by simpa using e⟩),rfl,q _ x _ (I.hok.fresh (Af _))⟩;simp only[Ab];rw[<-A0 c];exact z
def LB(hc:X.calm=true):da X (.type "list") (fun xs H Q=>∃a kvs,xs=[.ref a]/\H a=some (.dK kvs)/\∀l,H l=none->Q (.ref l) (upd H l (.lst (kvs.map fun kv=>kV kv.1)))):=by
 intro aa s σ H xs us Q I r h;obtain⟨a,kvs,rfl,hq,q⟩:=h;obtain⟨u,rfl,f⟩:=vals1 r;cases f;obtain⟨z,y,vs,c,dd⟩:=Cf I.hok hq;obtain⟨ep,dd⟩:=dd.dictAt;have g:=c.length;refine S9 (PySem.W.kdl_dict (knd:=zB X.prog X.w) (kvs:=vs) (ep:=ep) y) (I.ok.hd hc) dd (by rw[<-g];exact z) fun h' tk acc c' d e it=>?_;obtain⟨n1,n2⟩:=it;have j:Vals (kvs.map fun kv=>kV kv.1) acc.toList:=by
  have key:∀{l:List (Key×V)}{m:List (Key×Value)}{as:List Value},KV l m->as.length=m.length->(∀(i:Nat) v,as[i]?=some v->∃k x,m[i]?=some (k,x)/\(zB X.prog X.w).is k v=true)->Vals (l.map fun kv=>kV kv.1) as:=by
   intro l m as q
   induction q generalizing as with
   |nil=>intro h1 _;cases as with
    |nil=>exact .nil
    |cons _ _=>simp at h1
   |@cons p q' ps qs hq t ih=>
    intro h1 h2;cases as with
    |nil=>simp at h1
    |cons v as=>
     obtain⟨k,x,g1,g2⟩:=h2 0 v rfl;simp only[List.getElem?_cons_zero,AW] at g1;refine .cons ?_ (ih (by simpa using h1) fun i v e=>by simpa using h2 (i+1) v (by simpa using e));have:p.1=k:=by rw[hq.1,g1]
     show RelV (kV p.1) v;rw[this];exact Gh g2
  exact key c (by simpa using n1) fun i v e=>n2 i v (by simpa using e)
 refine⟨.ref s⁻¹,_,I.laid d (Af _) (show zC X.prog X.w _ h' _ (.lst (kvs.map fun kv=>kV kv.1)) from⟨?_,acc.toList,c',j,by simpa using e⟩),rfl,q _ (I.hok.fresh (Af _))⟩
 simpa using z
end
end L2
end
section
namespace L2
open PySem PySem.Spec PyProof.Rows
def Tp(H:Hp)(a:Addr)(ps:List Int):Prop:=H a=some (.tup (ps.map V.int))
abbrev Tps(H:Hp)(as:List Addr)(ad:Ξ):Prop:=Paired (fun a ps=>Tp H a ps) as ad
def Same.tp{H H':Hp}{a:Addr}{ps:List Int}(e:Same H H')(h:Tp H a ps):Tp H' a ps:=e _ _ h
def Same.tps{H H':Hp}{as:List Addr}{ad:Ξ}(e:Same H H')(h:Tps H as ad):Tps H' as ad:=Paired.mapP h fun _ _ q=>e.tp q
def Same.new{H:Hp}{a:Addr}{o:HO}(h:H a=none):Same H (upd H a o):=fun b u e=>by rw[ah (zj e h)];exact e
def Same.then{H H1:Hp}{a:Addr}{o:HO}(e:Same H H1)(h:H a=none):Same H (upd H1 a o):=fun b u q=>by rw[ah (zj q h)];exact e b u q
def Tps.length{H:Hp}{as:List Addr}{ad:Ξ}(h:Tps H as ad):as.length=ad.length:=A0 h
def Tps.get{H:Hp}:∀{as:List Addr}{ad:Ξ}{i:Nat}{a:Addr},Tps H as ad->as[i]?=some a->∃ps,ad[i]?=some ps/\Tp H a ps
 |_,_,_,_,.nil,e=>by simp at e
 |_,_,0,_,.cons r _,e=>by simp at e;subst e;exact⟨_,rfl,r⟩
 |_,_,i+1,a,.cons _ t,e=>by
  obtain⟨u,h1,h2⟩:=Tps.get (i:=i) (a:=a) t (by simpa using e);exact⟨u,by simpa using h1,h2⟩
def Tps.snoc{H:Hp}{as:List Addr}{ad:Ξ}{a:Addr}{ps:List Int}(h:Tps H as ad)(q:Tp H a ps):Tps H (as++[a]) (ad++[ps]):=by
 induction h with
 |nil=>exact .cons q .nil
 |cons r t ih=>exact .cons r ih
def Tps.append{H:Hp}{as bs:List Addr}{ad a:Ξ}(h:Tps H as ad)(q:Tps H bs a):Tps H (as++bs) (ad++a):=by
 induction h with
 |nil=>exact q
 |cons r t ih=>exact .cons r ih
def Tps.take{H:Hp}:∀{as:List Addr}{ad:Ξ}(n:Nat),Tps H as ad->Tps H (as.take n) (ad.take n)
 |_,_,0,_=>.nil
 |_,_,_+1,.nil=>.nil
 |_,_,n+1,.cons r t=>.cons r (Tps.take n t)
def Tps.drop{H:Hp}:∀{as:List Addr}{ad:Ξ}(n:Nat),Tps H as ad->Tps H (as.drop n) (ad.drop n)
 |_,_,0,r=>r
 |_,_,_+1,.nil=>.nil
 |_,_,n+1,.cons _ t=>Tps.drop n t
def bf:∀{as:List Addr}{us:List Value},Vals (as.map V.ref) us->us=as.map Value.ref
 |[],_,.nil=>rfl
 |a::as,_,.cons r t=>by cases r;rw[bf t];rfl
def Gi{c:Type}(f:c->Addr):∀l:List c,Vals (l.map fun q=>V.ref (f q)) (l.map fun q=>Value.ref (f q))
 |[]=>.nil
 |a::l=>.cons rfl (Gi f l)
section
variable{X:Cx}
def Gj{prog:Program}{w:World}{h:Heap}{c:Addr}{cs:List Value}{a:List Int}(hc:IsTup h c cs.toArray)(hi:IntsAre cs a):IsTupleKey (zB prog w) h (a.map Sum.inl) c:=by
 obtain⟨o,e,f,k,d⟩:=hc;refine⟨o,cs.toArray,k,e,f,d,?_⟩;have:∀{cs:List Value}{a:List Int},IntsAre cs a->ItemsAre (zB prog w) (a.map Sum.inl) cs:=by
  intro cs a hi
  induction hi with
  |nil=>exact .nil
  |cons n t h ih=>exact .cons (x3 prog w n t) ih
 simpa using this hi
def hJ{ps a:List Int}:(ps.map Sum.inl:List Key)=a.map Sum.inl↔ps=a:=
 ⟨fun z=>(RC (f:=(Sum.inl:Int->Key)) (fun x y h=>Sum.inl.inj h)).mp z,fun z=>by rw[z]⟩
def LC{aa:Ψ}{σ:St}{H:Hp}{s:Shared}{A:Around}{a b:Addr}{ps c:List Int}(I:Inv X aa σ H s)(ha:Tp H a ps)(hb:Tp H b c)(hu:A.units<cLine):SeqAt.EqAt A s (.ref a) (.ref b) (decide (ps=c)):=by
 intro prog w E Q h;obtain⟨af,d,e,_⟩:=I.tuple (SqT.of ha);obtain⟨g,f,p2,_⟩:=I.tuple (SqT.of hb);refine wpAny_eqBool_tuple (knd:=zB prog w) hu (Gj e (intsAre_of d)) (Gj p2 (intsAre_of f)) ?_;rw[show decide ((ps.map Sum.inl:List Key)=c.map Sum.inl)=decide (ps=c) from by simp only[hJ]];exact h
def CY:R2:=fun x y H Q=>∃a b xs ys,x=.ref a/\y=.ref b/\H a=some (.tup xs)/\H b=some (.tup ys)/\xs.length+ys.length<=sizeLine/\∀p H',Same H H'->H' p=some (.tup (xs++ys))->Q (.ref p) H'
def CZ:cD X (binaryOp .Add) CY:=by
 intro aa s σ H x y v u Q I l p h;obtain⟨a,b,xs,ys,rfl,rfl,ha,hb,hz,q⟩:=h;cases l;cases p;obtain⟨af,d,f,_⟩:=I.tuple (SqT.of ha);obtain⟨r,e,p2,_⟩:=I.tuple (SqT.of hb)
 by_cases hx:xs=[]
 ·subst hx
  have e1:=d.nil_iff.mpr rfl;subst e1;obtain⟨⟨cls,dd,data,w⟩,g,hc,n,hd⟩:=id f;obtain⟨⟨D,A,data2,C⟩,i,c,n2,j⟩:=id p2;simp only at hc hd c j;subst hc hd c j;exact concat_meets ⟨_,g,rfl⟩ ⟨_,i,rfl⟩ noFill_tuple_add seq_tuple_add Sk Sg (Sa _ _)
   (tuple_addW0 a b (List.toArray []) r.toArray n n2 dd A w C (by simp)) ⟨g,i,.ref b,H,I,rfl,q b H (Same.refl H) (by simpa using hb)⟩
 ·refine HT.J5 f p2 (fun z=>hx (d.nil_iff.mp z)) (fun z=>⟨.ref a,H,I,rfl,q a H (Same.refl H) ?_⟩) (fun z=>?_) (by rw[<-d.length,<-e.length];exact hz)
  ·rw[e.nil_iff.mp z,QD];exact ha
  ·have hf:=I.hok.fresh (Af s⁻¹)
   refine⟨.ref s⁻¹,_,I.laid (t':=s.toks) (o:=.tup (xs++ys)) (fun b ob q=>Ad _ q) (Af _) ?_,rfl,q _ _ (Same.new hf) ae⟩;exact⟨by rw[Ar];exact hz,_,d.append e,IsTup.new _ _⟩
def hW(neg:Bool)(K:Ae):R2:=fun x y H Q=>∃a l ps as ad,x=.ref a/\y=.ref l/\Tp H a ps/\SqL K H l (as.map V.ref)/\Tps H as ad/\Q (.bl (if neg then !decide (ps∈ad) else decide (ps∈ad))) H
noncomputable def jF(H:Hp)(ps:List Int)(u:Value):Bool:=match u with
 |.ref b=>(match H b with|some (.tup xs)=>decide (xs=ps.map V.int)|_=>false)
 |_=>false
def LD{ps a:List Int}:(ps.map V.int:List V)=a.map V.int↔ps=a:=
 ⟨fun z=>(RC (f:=V.int) (fun x y h=>V.int.inj h)).mp z,fun z=>by rw[z]⟩
def C0{H:Hp}{b:Addr}{ps a:List Int}(h:Tp H b a):jF H ps (.ref b)=decide (a=ps):=by
 show(match H b with|some (.tup xs)=>decide (xs=ps.map V.int)|_=>false)=_;rw[show H b=some (.tup (a.map V.int)) from h];simp only[LD]
def LF{H:Hp}{ps:List Int}{as:List Addr}{ad:Ξ}(h:Tps H as ad):(as.map Value.ref).any (jF H ps)=decide (ps∈ad):=by
 induction h with
 |nil=>simp
 |@cons a qs as ad r t ih=>
  rw[At,Sb,ih,C0 r]
  by_cases e:qs=ps
  ·subst e;simp
  ·have:¬ps=qs:=fun z=>e z.symm
   simp[e,this]
def Gm{aa:Ψ}{σ:St}{H:Hp}{s:Shared}{A:Around}{a:Addr}{ps:List Int}(I:Inv X aa σ H s)(ha:Tp H a ps)(hu:A.units<cLine):∀{as:List Addr}{ad:Ξ},Tps H as ad->∀u∈as.map Value.ref,SeqAt.EqAt A s u (.ref a) (jF H ps u):=by
 intro as ad h
 induction h with
 |nil=>intro u hu;simp at hu
 |@cons b qs as ad r t ih=>
  intro u hm;rw[At] at hm;rcases Qk.mp hm with rfl|hm
  ·rw[C0 r];exact LC I r ha hu
  ·exact ih u hm
def Go(hu:X.A.in1.units<cLine):cD X (A2 .NotIn) (hW true X.K):=by
 intro aa s σ H x y v u Q I c d h;obtain⟨a,l,ps,as,ad,rfl,rfl,ha,e,hp,q⟩:=h;cases c;cases d;obtain⟨af,r,f,hz⟩:=I.list e;obtain rfl:=bf r;refine SeqAt.notIn_listAt (jF H ps) f.isList (fun w hw=>Gm I ha hu hp w (by simpa using hw)) ⟨.bl _,H,I,rfl,?_⟩;rw[show(as.map Value.ref).toArray.any (jF H ps)=(as.map Value.ref).any (jF H ps) by simp,LF hp];exact q
def C1{aa:Ψ}{σ:St}{H:Hp}{s:Shared}{a:Addr}{ps:List Int}(I:Inv X aa σ H s)(ha:Tp H a ps):Reads s.heap (.ref a) (.tuple (ps.map A5)) []:=by
 obtain⟨af,r,p,_⟩:=I.tuple (SqT.of ha);obtain⟨o,c,hc,n,hd⟩:=id p;exact .tuple c hc hd ((PySem.W.ke_carried (intsAre_of r)).reads s.heap)
def LG{aa:Ψ}{σ:St}{H:Hp}{s:Shared}(I:Inv X aa σ H s):∀{as:List Addr}{ad:Ξ},Tps H as ad->ReadsAll s.heap (as.map Value.ref) (ad.map fun ps=>PyData.tuple (ps.map A5)) []:=by
 intro as ad h
 induction h with
 |nil=>exact .nil
 |cons r t ih=>exact .cons (as:=[]) (bs:=[]) (C1 I r) ih
def Gq{aa:Ψ}{σ:St}{H:Hp}{s:Shared}{l:Addr}{as:List Addr}{ad:Ξ}(I:Inv X aa σ H s)(c:SqL X.K H l (as.map V.ref))(h:Tps H as ad):Reads s.heap (.ref l) (.list (ad.map fun ps=>PyData.tuple (ps.map A5))) [l]:=by
 obtain⟨af,r,p,_⟩:=I.list c;obtain rfl:=bf r;obtain⟨o,a,hc,n,hd⟩:=p.isList;exact .list a hc hd (by simpa using LG I h)
def Gr(ps:List Int):PyData.canLay0 (.tuple (ps.map A5))=true:=by simp[PyData.canLay0,PySem.W.ke_canLayAll0]
def Gu(ps:List Int):PyData.depth (.tuple (ps.map A5))=1:=by simp[PyData.depth,PySem.W.ke_depthAll]
def Gv(ps:List Int):SeqAt.shaped (.tuple (ps.map A5))=true:=by
 simp[SeqAt.shaped,Gr,Gu]
def Gw:∀ad:Ξ,PyData.canLayAll0 (ad.map fun ps=>PyData.tuple (ps.map A5))=true
 |[]=>rfl
 |ps::r=>by rw[At,PyData.canLayAll0,Gr,Gw r];rfl
def Gx:∀ad:Ξ,PyData.depthAll (ad.map fun ps=>PyData.tuple (ps.map A5))<=1
 |[]=>A6 _
 |ps::r=>by rw[At,PyData.depthAll,Gu];exact Nat.max_le.mpr ⟨Af _,Gx r⟩
def Gy(ad:Ξ):SeqAt.shaped (.list (ad.map fun ps=>PyData.tuple (ps.map A5)))=true:=by
 have:=Gx ad;have e:PyData.depth (.list (ad.map fun ps=>PyData.tuple (ps.map A5)))<=64:=by rw[PyData.depth];omega
 unfold SeqAt.shaped;rw[Tj e,PyData.canLay0,Gw]
 rfl
def Gz:∀ad c:Ξ,sameAll (ad.map fun ps=>PyData.tuple (ps.map A5)) (c.map fun ps=>PyData.tuple (ps.map A5))=decide (ad=c)
 |[],[]=>by simp[sameAll]
 |[],_::_=>by simp[sameAll]
 |_::_,[]=>by simp[sameAll]
 |a::r,b::t=>by
  simp only[At,sameAll,same,Se,Gz r t]
  by_cases h:a=b<;>by_cases h':r=t<;>simp[h,h']
def GA(ps:List Int):(Shape.tuples .int).has (.tuple (ps.map A5))=true:=by simp[Shape.has]
def GB(ad:Ξ):(Shape.list (.tuples .int)).has (.list (ad.map fun ps=>PyData.tuple (ps.map A5)))=true:=by simp[Shape.has]
def kH(neg:Bool)(K:Ae):R2:=fun x y H Q=>(∃a b ps c,x=.ref a/\y=.ref b/\Tp H a ps/\Tp H b c/\Q (.bl (if neg then !decide (ps=c) else decide (ps=c))) H) \/
 (∃l m as bs ad d,x=.ref l/\y=.ref m/\SqL K H l (as.map V.ref)/\Tps H as ad/\SqL K H m (bs.map V.ref)/\Tps H bs d/\Q (.bl (if neg then !decide (ad=d) else decide (ad=d))) H)
def rY(hu:X.A.units+64<cLine):cD X (A2 .NotEq) (kH true X.K):=by
 intro aa s σ H x y v u Q I e f h;rcases h with ⟨a,b,ps,c,rfl,rfl,ha,hb,q⟩|⟨l,m,as,bs,ad,d,rfl,rfl,g,hp,hm,hq,q⟩
 ·cases e
  cases f;refine ne_dataH_same (C1 I ha) (C1 I hb) (Gv _) (Gv _) hu (SeqAt.noMix_of_shape (.tuples .int) rfl _ _ (GA _) (GA _)) ?_;rw[show same (.tuple (ps.map A5)) (.tuple (c.map A5))=decide (ps=c) from by simp only[same];exact Se ps c];exact⟨.bl _,H,I,rfl,q⟩
 ·cases e
  cases f;refine ne_dataH_same (Gq I g hp) (Gq I hm hq) (Gy _) (Gy _) hu (SeqAt.noMix_of_shape (.list (.tuples .int)) rfl _ _ (GB _) (GB _)) ?_;rw[show same (.list (ad.map fun ps=>PyData.tuple (ps.map A5))) (.list (d.map fun ps=>PyData.tuple (ps.map A5)))=decide (ad=d) from by simp only[same];exact Gz ad d];exact⟨.bl _,H,I,rfl,q⟩
def znD:V->List V->Hp->VK->Prop:=fun x vs H Q=>∃l xs i y,x=.ref l/\vs=[.int i,y]/\H l=some (.lst xs)/\0<=i/\i<=xs.length/\xs.length<sizeLine/\Q .non (upd H l (.lst (xs.take i.toNat++y::xs.drop i.toNat)))
def LH:oe X "list.insert" znD:=by
 intro aa s σ H x vs v us Q I d f h;obtain⟨l,xs,i,y,rfl,rfl,a,o,hi,hz,q⟩:=h;cases d;obtain⟨u,c,rfl,g,j⟩:=f.two;obtain⟨t,rfl⟩:=g;obtain⟨z,af,n,r,p,e⟩:=I.lstM a;have w:sizeLine<2 ^ 62:=by rw[sizeLine_eq];decide
 have hf:Builtin.List.listFitsIndex i=true:=by
  unfold Builtin.List.listFitsIndex;simp only[AM,decide_eq_true_eq];constructor<;>omega
 refine call_meets F.slot_list_insert ⟨_,e,rfl⟩ F.entry_list_insert (F.args_list_insert_3 _ _ _) (PySem.AutoSeq1.list_insert_list_int_val_1 l af.toArray n i t c (by simp[hf]) (by rw[Ao];omega)) ⟨e,?_⟩;refine⟨.non,_,I.lset (its':=af.take i.toNat++c::af.drop i.toNat) (t':=s.toks) a e ?_ ((r.take _).append (.cons j (r.drop _))) ?_,rfl,q⟩
 ·have hk:(if i<0 then(i+(af.toArray.size:Int)).toNat else min i.toNat af.toArray.size)=i.toNat:=by
   rw[Ti ω,Ao];omega
  dsimp only;rw[hk];simp;exact As (by rw[QE];exact Af _)
 ·rw[Ar,AB,AC,QE]
  omega
def LI:da X (.type "int") (fun xs H Q=>∃x n,xs=[.str x]/\PySem.intText? x=some n/\x.length<=640/\Q (.int n) H):=by
 intro aa s σ H xs us Q I r h;obtain⟨x,n,rfl,a,c,q⟩:=h;obtain⟨u,rfl,t,rfl⟩:=vals1 r;exact PySem.W.KIN.call_text a c ⟨.int n,H,I.tok _,⟨_,rfl⟩,q⟩
end
end L2
end
section
namespace L2
open PySem PySem.Spec PyProof.Rows
section
variable{X:Cx}{aa:Ψ}{σ:St}{H:Hp}{s:Shared}
def LJ{A:Around}(h:A.units+64<cLine):A.in1.in1.units<cLine:=by show A.units+1+1<cLine;omega
def in1_units{A:Around}(h:A.units+64<cLine):A.in1.units<cLine:=by show A.units+1<cLine;omega
def rZ:da X (.builtin "sorted") (fun xs H Q=>∃(l:Addr)(ns:List Int),xs=[.ref l]/\SqL X.K H l (ns.map V.int)/\ns.length<1000/\∀(D:Addr)(f:List Int),f.Perm ns->f.Pairwise (·<=·)->H D=none->Q (.ref D) (upd H D (.lst (f.map V.int)))):=by
 intro aa s σ H xs us Q I r h;obtain⟨l,ns,rfl,hq,F,q⟩:=h;obtain⟨u,rfl,v⟩:=vals1 r;cases v;obtain⟨af,g,x,hz⟩:=I.list hq;have hi:IntsAre af ns:=intsAre_of g;have a:=g.length;rw[Ab] at a hz;refine bM.Ga (ls:=ns.map fun n=>[n]) (good:=fun _=>True) x.isList (bM.F5 hi) (fun _ _=>trivial) ω ω fun out c=>?_;obtain⟨ps,hp,c,y⟩:=c;have all:∀p∈ps,∃n t,p.1=[n]/\p.2=Value.int n t:=fun p o=>by
  obtain⟨i,e⟩:=Qn.mp (hp.mem_iff.mp o);rw[bM.cG,Ag] at e;cases e1:ns[i]? with
  |none=>rw[e1] at e;simp at e
  |some n=>
   obtain⟨t,e2⟩:=hi.get i n e1;rw[e1,e2] at e;simp only[AQ,Option.bind_some,AW] at e;subst e;exact⟨n,t,rfl,rfl⟩
 have C:∀ps:List (List Int×Value),(∀p∈ps,∃n t,p.1=[n]/\p.2=Value.int n t)->Vals ((ps.map fun p=>p.1.headD 0).map V.int) (ps.map (·.2)):=by
  intro ps
  induction ps with
  |nil=>intro _;exact .nil
  |cons p ps ih=>
   intro h;obtain⟨n,t,e1,e2⟩:=h p Ay;refine .cons ?_ (ih fun q hq=>h q (Aw _ hq));show RelV (V.int (p.1.headD 0)) p.2;rw[e1,e2];exact⟨t,rfl⟩
 have j:(ps.map fun p=>p.1.headD 0).Perm ns:=by
  have h1:=hp.map (fun p:List Int×Value=>p.1.headD 0);have e:((ns.map fun n=>[n]).zip af).map (fun p:List Int×Value=>p.1.headD 0)=ns:=by
   rw[show(fun p:List Int×Value=>p.1.headD 0)=(fun l:List Int=>l.headD 0) ∘ Prod.fst from rfl,<-Am,SB (by rw[Ab];omega),Am];exact SL ns
  rw[e] at h1;exact h1
 have E:(ps.map fun p=>p.1.headD 0).Pairwise (·<=·):=by
  rw[AX];refine y.imp_of_mem fun{p q} h1 h2 d=>?_;obtain⟨n,t,e1,_⟩:=all p h1;obtain⟨m,t',e2,_⟩:=all q h2;rw[e1,e2,HT.zM] at d;rw[e1,e2];show n<=m
  by_cases e:m=n
  ·omega
  ·rw[Ti e] at d
   have:=of_decide_eq_false d;omega
 obtain⟨e,A⟩:=sortedAll_at s.heap af out;refine⟨.ref (s⁻¹+1),_,I.laid (t':=s.toks) (fun _ _=>sortedAll_old) (RM _) (show zC X.prog X.w _ _ _ (.lst ((ps.map fun p=>p.1.headD 0).map V.int)) from⟨?_,out.toList,e,?_,?_⟩),rfl,q _ _ j E (I.hok.fresh (RM _))⟩
 ·rw[Ab,j.length_eq];exact hz
 ·rw[c];exact C ps all
 ·simpa using A
def oS(H:Hp)(p:Addr)(l:List Int):Prop:=∃n b ps,l=n::ps/\H p=some (.tup [.int n,.ref b])/\Tp H b ps
def mD{p:Addr}{l:List Int}(I:Inv X aa σ H s)(h:oS H p l):bM.IsPr s.heap (.ref p) l:=by
 obtain⟨n,b,ps,rfl,h1,h2⟩:=h;obtain⟨af,a,c,_⟩:=I.tuple (SqT.of (K:=X.K) h1);obtain⟨u,g,rfl,⟨t,rfl⟩,d⟩:=vals2 a;cases d;obtain⟨e,f,p2,_⟩:=I.tuple (SqT.of (K:=X.K) h2);exact⟨p,b,n,t,e,ps,rfl,rfl,c,p2,intsAre_of f⟩
def LK{h h':Heap}{u:Value}{l:List Int}(k:∀b o,h.get? b=some o->h'.get? b=some o)(x:bM.IsPr h u l):bM.IsPr h' u l:=by
 obtain⟨a,b,n,t,af,ps,e1,e2,⟨o,d,hc⟩,⟨o',c,hc'⟩,i⟩:=x;exact⟨a,b,n,t,af,ps,e1,e2,⟨o,k _ _ d,hc⟩,⟨o',k _ _ c,hc'⟩,i⟩
def r9{a c:Type}{R:a->c->Prop}{l:List a}{m:List c}(p:Paired R l m):∀(i:Nat) x y,l[i]?=some x->m[i]?=some y->R x y:=by
 induction p with
 |nil=>intro i x y h;simp at h
 |cons r t ih=>
  intro i x y h1 h2;cases i with
  |zero=>simp at h1 h2;subst h1 h2;exact r
  |succ i=>exact ih i x y (by simpa using h1) (by simpa using h2)
noncomputable def addrOf:Value->Addr
 |.ref a=>a
 |_=>0
def LL(hu:X.A.units+64<cLine):da X (.builtin "sorted") (fun xs H Q=>∃(l:Addr)(as:List Addr)(ls:Ξ),xs=[.ref l]/\SqL X.K H l (as.map V.ref)/\Paired (oS H) as ls/\ls.length<1000/\
  ∀(D:Addr)(g:List (List Int×Addr)),g.Perm (ls.zip as)->g.Pairwise (fun a b=>HT.lexLt b.1 a.1=false)->H D=none->Q (.ref D) (upd H D (.lst (g.map fun q=>V.ref q.2)))):=by
 intro aa s σ H xs us Q I r h;obtain⟨l,as,ls,rfl,hq,hp,L,q⟩:=h;obtain⟨u,rfl,y⟩:=vals1 r;cases y;obtain⟨af,j,C,hz⟩:=I.list hq;have c:=j.length;obtain rfl:=bf j;rw[Ab] at c hz;have G:=A0 hp;have J:∀h:Heap,(∀b o,s.heap.get? b=some o->h.get? b=some o)->∀(i:Nat) u l,(as.map Value.ref)[i]?=some u->ls[i]?=some l->bM.IsPr h u l:=fun h hk i u l h1 h2=>by
  rw[Ag] at h1;cases e:as[i]? with
  |none=>rw[e] at h1;simp at h1
  |some a=>
   rw[e] at h1;obtain rfl:=Al h1;exact LK hk (mD I (r9 hp i a l e h2))
 refine bM.Ga (ls:=ls) (good:=fun h=>∀b o,s.heap.get? b=some o->h.get? b=some o) C.isList (bM.Ld (by rw[Ab];exact G) (LJ hu) ⟨s.heap,fun _ _ e=>e⟩ J) (fun h' hk=>hk) (by rw[Ab];exact hz) (by rw[Ab];omega) fun out d=>?_;obtain⟨ps,v,d,E⟩:=d;have all:∀p∈ps,p.2=Value.ref (addrOf p.2):=fun p f=>by
  have:=(SE (v.mem_iff.mp f:(p.1,p.2)∈ls.zip (as.map Value.ref))).2;obtain⟨a,_,e⟩:=Qj.mp this;rw[<-e];rfl
 have x:(ps.map fun p=>(p.1,addrOf p.2)).Perm (ls.zip as):=by
  have h1:=v.map (fun p:List Int×Value=>(p.1,addrOf p.2));have e:(ls.zip (as.map Value.ref)).map (fun p:List Int×Value=>(p.1,addrOf p.2))=ls.zip as:=by
   rw[List.zip_map_right,Am];exact(Ax fun p _=>rfl).trans (SL _)
  rw[e] at h1;exact h1
 obtain⟨e,F⟩:=sortedAll_at s.heap (as.map Value.ref) out;have ex:out.toList=((ps.map fun p=>(p.1,addrOf p.2)).map fun q=>Value.ref q.2):=by
  rw[d,Am];exact Ax fun p f=>all p f
 refine⟨.ref (s⁻¹+1),_,I.laid (t':=s.toks) (fun _ _=>sortedAll_old) (RM _) (show zC X.prog X.w _ _ _ (.lst ((ps.map fun p=>(p.1,addrOf p.2)).map fun q=>V.ref q.2)) from⟨?_,out.toList,e,?_,?_⟩),rfl,q _ _ x ?_ (I.hok.fresh (RM _))⟩
 ·rw[Ab,x.length_eq,RD];omega
 ·rw[ex]
  exact Gi (fun q:List Int×Addr=>q.2) _
 ·simpa using F
 ·rw[AX];exact E
def mF{b:Addr}(h:bQ X aa H b):∀c∈[b],bQ X aa H c:=fun c hc=>by rw[Ql.mp hc];exact h
def sd{b:Addr}(I:Inv X aa σ H s)(f:bQ X aa H b):b∉frs X.stack:=fun hb=>by
 rcases Qk.mp (I.stkSub b hb) with e|e
 ·exact f.2.1 e
 ·exact f.2.2.1 e
end
end L2
end
section
namespace STb
noncomputable def dd{a:Type}[DecidableEq a](l:List a):List a:=l.foldl (fun acc x=>if x∈acc then acc else acc++[x]) []
def ss{a:Type}[DecidableEq a](l:List a)(x:a):dd (l++[x])=if x∈dd l then dd l else dd l++[x]:=by unfold dd;rw[RJ];rfl
def mO{a:Type}[DecidableEq a](l:List a):(dd l).length<=l.length:=by
 have:∀(l acc:List a),(l.foldl (fun acc x=>if x∈acc then acc else acc++[x]) acc).length<=acc.length+l.length:=by
  intro l
  induction l with
  |nil=>intro acc;simp
  |cons x l ih=>
   intro acc;rw[Re];refine AA (ih _) ?_;split
   ·rw[AB];omega
   ·rw[Ar,AB,AB,QY];omega
 simpa[dd] using this l []
def iV{a:Type}[DecidableEq a](l:List a)(x:a):x∈dd l↔x∈l:=by
 have:∀(l acc:List a),x∈(l.foldl (fun acc x=>if x∈acc then acc else acc++[x]) acc)↔x∈acc\/x∈l:=by
  intro l
  induction l with
  |nil=>intro acc;simp
  |cons y l ih=>
   intro acc;rw[Re,ih]
   by_cases h:y∈acc
   ·rw[Th h,Qk]
    constructor
    ·rintro(q|q)
     ·exact .inl q
     ·exact .inr (.inr q)
    ·rintro(q|q|q)
     ·exact .inl q
     ·subst q;exact .inl h
     ·exact .inr q
   ·rw[Ti h,Qm,Ql,Qk]
    constructor
    ·rintro((q|q)|q)
     ·exact .inl q
     ·exact .inr (.inl q)
     ·exact .inr (.inr q)
    ·rintro(q|q|q)
     ·exact .inl (.inl q)
     ·exact .inl (.inr q)
     ·exact .inr q
 simpa[dd] using this l []
def su{c:Type}[DecidableEq c](l:List c):(dd l).Nodup:=by
 have:∀(l acc:List c),acc.Nodup->(l.foldl (fun acc x=>if x∈acc then acc else acc++[x]) acc).Nodup:=by
  intro l
  induction l with
  |nil=>intro acc h;exact h
  |cons y l ih=>
   intro acc h;rw[Re]
   by_cases q:y∈acc
   ·rw[Th q];exact ih acc h
   ·rw[Ti q]
    refine ih _ ?_;rw[Bj];refine⟨h,by simp,fun a ha b hb e=>?_⟩;rw[Ql] at hb;subst hb;subst e;exact q ha
 exact this l [] QH
def LM{a:Type}[DecidableEq a](l m:List a):(dd (l++m)).length<=(dd l).length+m.length:=by
 have:∀(m acc:List a),(m.foldl (fun acc x=>if x∈acc then acc else acc++[x]) acc).length<=acc.length+m.length:=by
  intro m
  induction m with
  |nil=>intro acc;simp
  |cons x l ih=>
   intro acc;rw[Re];refine AA (ih _) ?_;split
   ·rw[AB];omega
   ·rw[Ar,AB,AB,QY];omega
 unfold dd;rw[RJ];exact this m _
def LN{a:Type}[DecidableEq a](l:List a)(h:∀(k:Nat) x,l[k]?=some x->x∉l.take k):dd l=l:=by
 have:∀k,k<=l.length->dd (l.take k)=l.take k:=by
  intro k
  induction k with
  |zero=>intro _;rfl
  |succ k ih=>
   intro hk;have hx:l[k]?=some l[k]:=Ah ω;rw[Sq,hx];show dd (l.take k++[l[k]])=_;rw[ss,ih ω,Ti (h k _ hx)]
   rfl
 have q:=this l.length (Af _);rw[As (Af _)] at q;exact q
def LO{a:Type}[DecidableEq a](l:List a){k:Nat}{x:a}(h:l[k]?=some x)(hx:x∈l.take k):(dd l).length<l.length:=by
 have hk:k<l.length:=(KK.mp h).1;have e:l=(l.take k++[x])++l.drop (k+1):=by
  have:=QS (k+1) l;rw[Sq,h] at this;exact this.symm
 have h1:=LM (l.take k++[x]) (l.drop (k+1));rw[<-e,ss,Th ((iV _ _).mpr hx)] at h1;have h2:=mO (l.take k);rw[AC] at h2;rw[QE] at h1;omega
def LP{a:Type}[DecidableEq a](l:List a):(dd l).length<l.length↔∃(k:Nat)(x:a),l[k]?=some x/\x∈l.take k:=by
 constructor
 ·intro h
  apply Classical.byContradiction;intro n;have:=LN l fun k x e hx=>n ⟨k,x,e,hx⟩;rw[this] at h;exact Rt _ h
 ·rintro⟨k,x,e,hx⟩
  exact LO l e hx
end STb
end
section
namespace STb
open PySem PySem.SetTable PyProof.Rows
end STb
namespace L2
open PySem PySem.Spec PyProof.Rows
noncomputable def LQ(D:Addr)(n:Nat):HO:=.ext fun h=>∃o es ep t,h.get? D=some o/\o.ExactSet/\o.data=.set es ep t/\t.fits es.size=true/\es.size=n/\n<=100
section
variable{X:Cx}
def LR{prog:Program}{w:World}{h:Heap}{c:Addr}{cs:List Value}{a:List Int}(hc:IsTup h c cs.toArray)(hi:IntsAre cs a):IsTupleKey (intKind prog w) h a c:=by
 obtain⟨o,e,f,k,d⟩:=hc;refine⟨o,cs.toArray,k,e,f,d,?_⟩;have:∀{cs:List Value}{a:List Int},IntsAre cs a->ItemsAre (intKind prog w) a cs:=by
  intro cs a hi
  induction hi with
  |nil=>exact .nil
  |cons n t h ih=>exact .cons (by show Value.isInt n (.int n t)=true;simp[Value.isInt]) ih
 simpa using this hi
end
end L2
end
section
namespace Spl
open PySem PySem.Spec PySem.Builtin PySem.Builtin.Str PyProof.Rows
section
variable{prog:Program}{w:World}{A:Around}{E:Ω}{s:Shared}{x y:PySem.Str}{t u:Tok}{Q:Ω}
def split1(hy:(y.length==0)=false)(h:∀(l:List (PySem.Str×Tok)) k,l.map (·.1)=Txt.split x y->Q (.ref s⁻¹) {s with heap:=s.heap.push {cls:=.type "list",data:=.seq (strValues l).toArray},toks:=k})(hsz:x.length+2<=sizeLine):wpAny (model prog w) A (call (.builtin "str.split") [.str x t,.str y u]) Q E s:=by
 have a:(partsBetween x (occurrences x y 0 x.length (x.length+1)) y.length).length<=sizeLine:=by
  have e1:=StrLaws.occ_length_le x y 0 x.length (x.length+1);rw[length_partsBetween];omega
 cases h1:(decide (x.length<y.length)|| decide (strKind x<strKind y))
 ·cases hf:(occurrences x y 0 x.length (x.length+1)).isEmpty
  ·refine call_meets F.slot_str_split (typeIs_str _ _ _) F.entry_str_split (F.args_str_split_2 _ _) (meets_str_split_sep x y t u h1 hy hf ω a) ?_
   show wants Q E _ {s with toks:=_,heap:=s.heap.push {cls:=.type "list",data:=.seq (strsFrom s.toks (partsBetween x (occurrences x y 0 x.length (x.length+1)) y.length)).toArray}};rw[strsFrom_eq];exact h (numbered s.toks _) _ ((numbered_texts _ _).trans ((Ti (ne_true_of_eq_false h1)).trans (Ti (ne_true_of_eq_false hf))).symm)
  ·exact call_meets F.slot_str_split (typeIs_str _ _ _) F.entry_str_split (F.args_str_split_2 _ _) (meets_str_split_not_found x y t u h1 hy hf)
    (h [(x,t)] s.toks ((Ti (ne_true_of_eq_false h1)).trans (Th hf)).symm)
 ·exact call_meets F.slot_str_split (typeIs_str _ _ _) F.entry_str_split (F.args_str_split_2 _ _) (meets_str_split_cannot_occur x y t u h1)
   (h [(x,t)] s.toks (Th h1).symm)
end
end Spl
namespace L2
open PySem PySem.Spec PyProof.Rows
section
variable{X:Cx}
def GC:∀(l:List (PySem.Str×Tok)),Vals ((l.map (·.1)).map V.str) (strValues l)
 |[]=>.nil
 |p::l=>.cons ⟨p.2,rfl⟩ (GC l)
def zoN:V->List V->Hp->VK->Prop:=fun x vs H Q=>∃z y,x=.str z/\vs=[.str y]/\(y.length==0)=false/\z.length+2<=sizeLine/\(Txt.split z y).length<=sizeLine/\∀D,H D=none->Q (.ref D) (upd H D (.lst ((Txt.split z y).map V.str)))
def LS:oe X "str.split" zoN:=by
 intro aa s σ H x vs v us Q I a c h;obtain⟨z,y,rfl,rfl,hy,hz,d,q⟩:=h;obtain⟨t,rfl⟩:=a;obtain⟨u,rfl,f⟩:=c.one;obtain⟨t',rfl⟩:=f;refine Spl.split1 hy (fun l k e=>?_) hz;refine⟨.ref s⁻¹,_,I.laid (t':=k) (o:=.lst ((Txt.split z y).map V.str)) (fun b ob q=>Ad _ q) (Af _) ?_,rfl,q _ (I.hok.fresh (Af _))⟩;refine⟨by rw[Ab];exact d,strValues l,0,?_,Ak _ rfl⟩;rw[<-e];exact GC l
noncomputable def sy(x:PySem.Str):It:=⟨fun i _=>i<x.cps.size,fun i H v H'=>H'=H/\∃c,x.cps[i]?=some c/\v=.str ⟨#[c]⟩,fun i _=>i=x.cps.size⟩
def GE{P:Program}{w:World}{K:Ae}{tg:Expr}(x:PySem.Str)(it:Addr)(T:String)(D:["enumerate","zip","dict_itemiterator","dict_reverseitemiterator","odict_iterator","itertools.zip_longest","itertools.pairwise"].contains T=false)(t:Tok)(W:∀A':Around,A'.handled=none->Walks P w A' it [it] [it] x.cps.size (SignAt x) (fun i h=>h.IsStrIter it T x t i))(F:∀(A:Around)(i:Nat)(s:Shared)(Q:Ω)(E:Ω),s.heap.IsStrIter it T x t i->Q (.ref it) s->wpAny (model P w) A (pyIter (.ref it)) Q E s):Turn P w K tg (sy x) [it] it (fun i h=>h.IsStrIter it T x t i) where
 mem:=by simp
 obj:=fun i h st b hb=>by
  have e:b=it:=by simpa using hb
  subst e;obtain⟨o,e,c,d⟩:=st;exact⟨o,e,fun v z=>by rw[d] at z;cases z⟩
 keep:=fun i h h' st k=>by
  obtain⟨o,e,c⟩:=st;exact⟨o,k it (by simp) o e,c⟩
 item:=by
  intro X a hw f hc i aa s σ H E I hf st g;subst a hw f;obtain⟨l,f1,f2,p,q,r⟩:=hf it (by simp);refine(W X.A (I.ok.hd hc)).item i s _ _ g st fun v h' tk C y j=>?_;obtain⟨c,u,hx,rfl⟩:=C;have G:Inv X aa σ H {s with heap:=h',toks:=tk}:=I.turned (fun b o hb e=>j b o (by simpa using hb) e) l f1 p q r;obtain⟨o,e1,e2,e3⟩:=id y;exact⟨_,rfl,lV (s:={s with heap:=h',toks:=tk}) e1 e2 e3 D ⟨.str ⟨#[c]⟩,H,G,⟨u,rfl⟩,⟨rfl,c,hx,rfl⟩,y,fun b hb=>(hf b hb).1⟩⟩
 done:=by
  intro X a hw f hc i aa s σ H E I hf st g;subst a hw f;obtain⟨l,f1,f2,p,q,r⟩:=hf it (by simp);have hi:i=x.cps.size:=g;subst hi;exact(W X.A (I.ok.hd hc)).done s _ _ st fun h' tk j=>⟨rfl,I.turned (fun b o hb e=>j b o (by simpa using hb) e) l f1 p q r⟩
 self:=F
def C2(te:TE):TI:=fun σ H R=>te σ H fun v H1=>∃x,v=.str x/\R (sy x) H1
def LU{tg l:Expr}{tl:TE}(g:PE X l tl):PI X tg l (C2 tl):=by
 intro aa s σ H R I h;refine ba (g aa s σ H _ I h) fun v a ⟨x,H1,I1,f,q1⟩=>?_;obtain⟨z,e,q⟩:=q1;subst e;obtain⟨t,rfl⟩:=f;have fin:∀(o:Obj),Inv X aa σ H1 {a with heap:=a.heap.push o}:=fun o=>I1.kept (t':=a.toks) fun b o e=>Ad _ e;have d:∀b∈[a⁻¹],bQ X aa H1 b:=fun b hb=>by
  have e:b=a⁻¹:=by simpa using hb
  subst e;exact I1.fpOk (Af _) (I1.hok.fresh (Af _))
 cases ha:z.cps.all (·<128)
 ·refine wpAny_pyIter_wide ha ?_
  exact⟨a⁻¹,[a⁻¹],_,_,H1,rfl,fin _,GE z _ "str_iterator" ξ t (fun j c=>Walks.strWide c _ z t) (fun A i s Q E st h=>wpAny_pyIter_striter_wide st h),⟨_,Ak _ rfl,rfl,rfl⟩,d,q⟩
 ·refine wpAny_pyIter_ascii ha ?_
  exact⟨a⁻¹,[a⁻¹],_,_,H1,rfl,fin _,GE z _ "str_ascii_iterator" ξ t (fun j c=>Walks.strAscii c _ z t) (fun A i s Q E st h=>wpAny_pyIter_striter_ascii st h),⟨_,Ak _ rfl,rfl,rfl⟩,d,q⟩
def LV{g:TG}{tc:TT}{te:TE}{σ:St}{H1:Hp}{Q:VK}{D:Addr}{x:PySem.Str}(a:Nat->St->List V->Hp->Prop)(h:a 0 σ [] (upd H1 D (.lst [])))(j:∀i σ ys H c,x.cps[i]?=some c->i<x.cps.size->ys.length<=i->a i σ ys H->g (.str ⟨#[c]⟩) σ H fun d l=>tc d l fun b f=>if b=true then te d f (ee x.cps.size a D i d) else dq x.cps.size a i d f)(hd:∀σ ys H,a x.cps.size σ ys H->Q (.ref D) H):zV (sy x) g tc te σ H1 D Q:=by
 refine ir x.cps.size a h (fun σ ys H p=>rfl) (fun i σ ys H hi p=>hi) (fun i σ ys H v H' hi hy p y=>?_) hd;obtain⟨e,c,hc,rfl⟩:=y;subst e;exact j i σ ys _ c hc hi hy p
end
end L2
end
section
namespace K1
open STb
noncomputable def subs(ps:List Int):Ξ:=ps.foldl (fun a x=>a++a.map (·++[x])) [[]]
noncomputable def parts(ps:List Int):Ξ:=(subs ps).drop 1
def GF(ps:List Int)(x:Int):subs (ps++[x])=subs ps++(subs ps).map (·++[x]):=by unfold subs;rw[RJ];rfl
def C3(ps:List Int):(subs ps).length=2 ^ ps.length:=by
 have:∀(ps:List Int)(acc:Ξ),(ps.foldl (fun a x=>a++a.map (·++[x])) acc).length=acc.length*2 ^ ps.length:=by
  intro ps
  induction ps with
  |nil=>intro acc;simp
  |cons x ps ih=>
   intro acc;rw[Re,ih,Ar,Ab,AB,Nat.pow_succ];rw[<-Nat.two_mul,Nat.mul_comm 2,Nat.mul_assoc,Nat.mul_comm 2]
 simpa[subs] using this ps [[]]
def GG(ps:List Int):∃t,subs ps=[]::t/\∀q∈t,q≠[]:=by
 have:∀(ps:List Int)(acc:Ξ),(∃t,acc=[]::t/\∀q∈t,q≠[])->∃t,ps.foldl (fun a x=>a++a.map (·++[x])) acc=[]::t/\∀q∈t,q≠[]:=by
  intro ps
  induction ps with
  |nil=>intro acc h;exact h
  |cons x ps ih=>
   rintro acc ⟨t,rfl,h⟩;rw[Re];refine ih _ ⟨t++([]::t).map (·++[x]),rfl,fun q hq=>?_⟩;rcases Qm.mp hq with hq|hq
   ·exact h q hq
   ·obtain⟨r,_,rfl⟩:=Qj.mp hq
    simp
 exact this ps [[]] ⟨[],rfl,fun q hq=>nomatch hq⟩
def LW(ps:List Int):(subs ps).filter (fun q=>!decide (q=[]))=parts ps:=by
 obtain⟨t,e,h⟩:=GG ps;unfold parts;rw[e];show List.filter _ ([]::t)=t;rw[RU,Ti (by simp)];exact List.filter_eq_self.mpr fun q hq=>by simp[h q hq]
def oT(ps:List Int):(parts ps).length=2 ^ ps.length-1:=by unfold parts;rw[QE,C3]
def LX(ps:List Int):∀q∈subs ps,q.length<=ps.length:=by
 have:∀(ps:List Int)(acc:Ξ)(n:Nat),(∀q∈acc,q.length<=n)->∀q∈ps.foldl (fun a x=>a++a.map (·++[x])) acc,q.length<=n+ps.length:=by
  intro ps
  induction ps with
  |nil=>intro acc n h q hq;simpa using h q hq
  |cons x ps ih=>
   intro acc n h q hq;rw[Re] at hq;have:=ih _ (n+1) (fun r hr=>by
    rcases Qm.mp hr with hr|hr
    ·exact Ss (h r hr)
    ·obtain⟨u,hu,rfl⟩:=Qj.mp hr
     rw[Ar];exact Nat.succ_le_succ (h u hu)) q hq
   rw[AB];omega
 intro q hq;have:=this ps [[]] 0 (fun r hr=>by simp at hr;subst hr;exact Af _) q hq;omega
noncomputable def bg:List Int->Bool
 |a::b::r=>decide (a<b)&&bg (b::r)
 |_=>true
def GH:∀ps:List Int,((ps.zip (ps.drop 1)).map fun p=>decide (p.1<p.2)).all id=bg ps
 |[]=>rfl
 |[_]=>rfl
 |a::b::r=>by
  have:=GH (b::r);unfold bg;rw[<-this]
  rfl
def C4:∀ps:List Int,bg ps=true↔∀(i:Nat) a b,ps[i]?=some a->ps[i+1]?=some b->a<b
 |[]=>by simp[bg]
 |[x]=>by simp[bg]
 |x::y::r=>by
  unfold bg;rw[AM,decide_eq_true_eq,C4 (y::r)];constructor
  ·rintro⟨h1,h2⟩ i a b ha hb
   cases i with
   |zero=>simp at ha hb;subst ha hb;exact h1
   |succ i=>exact h2 i a b (by simpa using ha) (by simpa using hb)
  ·intro h
   exact⟨h 0 x y rfl rfl,fun i a b ha hb=>h (i+1) a b (by simpa using ha) (by simpa using hb)⟩
def GJ(ps:List Int)(h:bg ps=true):∀(d i:Nat) a b,ps[i]?=some a->ps[i+d]?=some b->a<=b:=by
 intro d
 induction d with
 |zero=>intro i a b ha hb;rw[Sr,ha] at hb;cases hb;exact QI _
 |succ d ih=>
  intro i a b ha hb;have c:i+(d+1)<ps.length:=(KK.mp hb).1;have hc:ps[i+d]?=some ps[i+d]:=Ah ω;have h1:=ih i a _ ha hc;have h2:=(C4 ps).mp h (i+d) _ b hc hb;omega
noncomputable def fN(ps:List Int):Bool:=decide (1<=ps.length)&&decide (ps.length<=5)&&!(decide (ps.headD 0<0))&&!(decide (99<ps.getLastD 0))&&bg ps
noncomputable def dE(ps:List Int):Bool:=decide (1<=ps.length)&&decide (ps.length<=5)&&ps.all (fun p=>decide (0<=p)&&decide (p<=99))&&bg ps
def sG(ps:List Int):fN ps=dE ps:=by
 unfold fN dE;cases ps with
 |nil=>rfl
 |cons x r=>
  by_cases hr:bg (x::r)=true
  ·rw[hr,Bool.and_true,Bool.and_true]
   by_cases d:(x::r).length<=5
   ·have e1:(x::r).getLastD 0=(x::r)[(x::r).length-1]:=by
     rw[List.getLastD_eq_getLast?,List.getLast?_eq_getElem?,Ah (by simp)];rfl
    have key:(!(decide ((x::r).headD 0<0))&&!(decide (99<(x::r).getLastD 0)))=(x::r).all (fun p=>decide (0<=p)&&decide (p<=99)):=by
     rw[Rp];rw[AM,S4,S4,decide_eq_false_iff_not,decide_eq_false_iff_not,Qs];constructor
     ·rintro⟨a,c⟩ p hp
      obtain⟨i,hi⟩:=Qn.mp hp;have e:i<(x::r).length:=(KK.mp hi).1;have g1:=GJ (x::r) hr i 0 x p rfl (by simpa using hi);have g2:=GJ (x::r) hr ((x::r).length-1-i) i p ((x::r)[(x::r).length-1]) hi (by
       rw[show i+((x::r).length-1-i)=(x::r).length-1 from ω];exact Ah (by simp))
      rw[e1] at c;have f:¬x<0:=a;simp only[AM,decide_eq_true_eq];constructor<;>omega
     ·intro h
      have g1:=h x Ay;have g2:=h ((x::r)[(x::r).length-1]) (Bi _);rw[e1];simp only[AM,decide_eq_true_eq] at g1 g2;constructor
      ·show ¬x<0;omega
      ·omega
    rw[<-key];simp only[Bool.and_assoc]
   ·rw[Tk d];simp
  ·have:bg (x::r)=false:=by simpa using hr
   rw[this,Sn,Sn]
noncomputable def eg(ad:Ξ):Bool:=decide (ad.length<=20)&&ad.all fN&&!(decide ((dd ad).length<ad.length))&&decide ((dd (ad.flatMap parts)).length<=200)
def GK(ad:Ξ)(k:Nat):Prop:=∀(i:Nat) ps,i<k->ad[i]?=some ps->ps∉ad.take i/\dE ps=true
def LY(ad:Ξ)(h:ad.length<=20)(a:GK ad ad.length):eg ad=decide ((dd (ad.flatMap parts)).length<=200):=by
 unfold eg;have h1:ad.all fN=true:=Qs.mpr fun ps hp=>by
  obtain⟨i,hi⟩:=Qn.mp hp;rw[sG];exact(a i ps (KK.mp hi).1 hi).2
 have h2:¬(dd ad).length<ad.length:=fun z=>by
  obtain⟨k,x,e,hx⟩:=(LP ad).mp z;exact(a k x (KK.mp e).1 e).1 hx
 rw[Tj h,h1,Tk h2]
 rfl
end K1
end
section
namespace L2
open PySem PySem.Spec PyProof.Rows
noncomputable def hX(N N':List Str)(aq:List (Option Nat))(scope:Scope):Bool:=decide (aq.length=N'.length)&&(aq.zip N').all fun p=>match p.1 with
 |none=>true
 |some j=>decide (N[j]?=some p.2)&&decide (scope.names.lookup p.2=some .free)
def C5{N N':List Str}{aq:List (Option Nat)}{scope:Scope}(h:hX N N' aq scope=true):mx N N' aq scope:=by
 unfold hX at h;rw[AM,decide_eq_true_eq,Qs] at h;refine⟨h.1,fun i j e=>?_⟩;have hi:i<aq.length:=(KK.mp e).1;have e2:N'[i]?=some N'[i]:=Ah (by rw[<-h.1];exact hi);have:=h.2 (some j,N'[i]) (Qn.mpr ⟨i,by rw[bM.cG,e,e2];rfl⟩);simp only[AM,decide_eq_true_eq] at this;exact⟨N'[i],e2,this.1,this.2⟩
section
variable{X:Cx}{scope:Scope}{aq:List (Option Nat)}{tg iter bh:Expr}{aU:List Expr}{wi:TI}{g:TG}{tc:TT}{te:TE}{pos:Pos}
def zq(N N':List Str)(aq:List (Option Nat))(hi:PI X tg iter wi)(c:∀a C s₀ H₀ ex,PG (eO X scope N' a C s₀ H₀ ex) tg g)(ht:∀a C s₀ H₀ ex,hH (eO X scope N' a C s₀ H₀ ex) aU tc)(d:∀a C s₀ H₀ ex,PE (eO X scope N' a C s₀ H₀ ex) bh te)(hc:X.calm=true:=by rfl)(hk:scope.kind=.function:=by rfl)(e:∀y∈scope.names,y.2≠.cell:=by decide +kernel)(f:∀y∈scope.names,y.2=.free->scope.names.lookup y.1=some .free:=by decide +kernel)(h:∀y∈scope.names,y.2=.local->scope.names.lookup y.1=some .local:=by decide +kernel)(hfr:∀y∈scope.names,y.2=.free->X.env.kindOf y.1=some .cell\/X.env.kindOf y.1=some .free)(i:X.N=N:=by rfl)(j:hX N N' aq scope=true:=by decide +kernel)(l:∀x,foldedSetIterable iter X.env x=pure x:=by intro _;rfl):PE X (.ListComp bh [⟨tg,iter,aU,0⟩] scope pos) (iq wi aq g tc te):=
 Lk hc hk e f h hfr (C5 (by rw[i];exact j)) hi c ht d l
end
def cI{env:Env}{scope:Scope}(h:scope.names.all (fun y=>decide (y.2≠.free))=true):∀y∈scope.names,y.2=.free->env.kindOf y.1=some .cell\/env.kindOf y.1=some .free:=fun y hy e=>
 absurd e (Tl (Qs.mp h y hy))
def cx{env:Env}{scope:Scope}(sc:Scope)(h:scope.names.all (fun y=>decide (y.2≠.free)|| decide (sc.names.lookup y.1=some .cell)|| decide (sc.names.lookup y.1=some .free))=true)(a:env.scope=sc:=by rfl):∀y∈scope.names,y.2=.free->env.kindOf y.1=some .cell\/env.kindOf y.1=some .free:=fun y hy e=>by
 subst a;have:=Qs.mp h y hy;simp only[Bool.or_eq_true,decide_eq_true_eq] at this;rcases this with (q|q)|q
 ·exact absurd e q
 ·exact .inl q
 ·exact .inr q
def cz(l:List Str)(h:l.Nodup:=by decide +kernel):l.Nodup:=h
def iW{te:TE}{σ:St}{H:Hp}{P:VK}{S:Hp->Prop}(h:te σ H P):bT σ H fun b a=>if b=true then te σ a P else S a:=by
 show if true=true then te σ H P else S H;rw[Th rfl];exact h
def b0{i:Nat}{v:V}{te:TE}{σ:St}{H:Hp}{P:St->VK}{S:St->Hp->Prop}(h:te (σ.set i (some v)) H (P (σ.set i (some v)))):zN i v σ H fun a d=>bT a d fun b c=>if b=true then te a c (P a) else S a c:=iW (S:=S (σ.set i (some v))) h
def zx{J:It}{g:TG}{tc:TT}{te:TE}{σ:St}{H1:Hp}{Q:VK}{D:Addr}(h:zV J g tc te σ H1 D Q):zV J g tc te σ H1 D Q:=h
def Paired.of_at{c d:Type}{R:c->d->Prop}:∀{l:List c}{m:List d},l.length=m.length->(∀(i:Nat) x y,l[i]?=some x->m[i]?=some y->R x y)->Paired R l m
 |[],[],_,_=>.nil
 |x::l,y::m,h,f=>.cons (f 0 x y rfl rfl) (Paired.of_at (by simpa using h) fun i a b h1 h2=>f (i+1) a b (by simpa using h1) (by simpa using h2))
 |[],_::_,h,_=>by simp at h
 |_::_,[],h,_=>by simp at h
end L2
end
section
namespace HT
open PySem PyProof.Rows
section
variable{prog:Program}{w:World}{A:Around}{E:Ω}{s:Shared}
def LZ{t c:Addr}{a:Array Value}{d e:Value}{lo hi:Option Int}{Q:Ω}(ht:IsTup s.heap t a)(f:s.heap.IsSliceOf c d e .none)(o:IsPart d lo)(p:IsPart e hi)(hw:sIx a.size 0 lo=0/\sIx a.size a.size hi=a.size)(h:Q (.ref t) s):wpAny (model prog w) A (getItem (.ref t) (.ref c)) Q E s:=by
 obtain⟨os,g,i,q⟩:=id f;have j:s.TypeIs (.ref c) "slice":=⟨os,g,i⟩;obtain⟨r,x,u,v,y⟩:=id ht;unfold getItem
 try with_reducible refine AU ?_
 first|refine Aa (Ac ?_)|skip
 refine Aa (wpAny_sequenceKey ht.typeIs ξ ?_);refine Aa (AN (name:=Bg "__getitem__") ht.typeIs Q7
  (AK Q7 ht.typeIs entry_tuple_getitem ?_ (args_tuple_getitem _ _)))
 show wpAny _ _ (Builtin.Tuple.tupleItemsOf (.ref t) >>= _) _ _ s;refine Aa (tupleItemsOf_ ht ?_);refine Aa (wpAny_typeOf j ?_);rw[Th ξ];refine Aa (Ff f o p ?_);have l:((((sIx a.size 0 lo:Nat):Int)==0&&(1:Int)==1&&(sIx a.size a.size hi-sIx a.size 0 lo)==a.size)=true):=by
  rw[hw.1,hw.2];simp
 show wpAny _ _ (if(((sIx a.size 0 lo:Nat):Int)==0&&(1:Int)==1&&(sIx a.size a.size hi-sIx a.size 0 lo)==a.size)=true then _ else _) _ _ s;rw[Th l];refine Aa ?_;unfold Builtin.Tuple.tupleIsExact;refine Aa (wpAny_typeOf ht.typeIs (Ac ?_));rw[Th ξ];refine Aa (wpAny_rule ?_);exact Ac ⟨_,rfl,Ac h⟩
end
end HT
namespace L2
open PySem PySem.Spec PyProof.Rows
section
variable{X:Cx}
def kK:V->Option Int->Option Int->Hp->VK->Prop:=fun x lo hi H Q=>∃a xs,x=.ref a/\H a=some (.tup xs)/\∀p H',Same H H'->H' p=some (.tup (cF xs lo hi))->Q (.ref p) H'
def sI:q0 X kK:=by
 intro aa s σ H x v i j lo hi l Q I d e f g h;obtain⟨a,xs,rfl,hx,q⟩:=h
 by_cases hw:HT.sIx xs.length 0 lo=0/\HT.sIx xs.length xs.length hi=xs.length
 ·cases d
  obtain⟨af,r,ht,hz⟩:=I.tuple (SqT.of (K:=X.K) hx);have c:af.toArray.size=xs.length:=by rw[Ao];exact r.length.symm
  refine⟨"tuple",_,PyProof.Rows.slot_tuple_getitem.lookup,ht.typeIs,HT.LZ ht e f g (by rw[c];exact hw) ⟨.ref a,H,I,rfl,q a H (Same.refl H) ?_⟩⟩;rw[hx];unfold cF;rw[hw.1,hw.2,List.drop_zero,Nat.sub_zero,As (Af _)]
 ·exact rf aa s σ H (.ref a) v i j lo hi l Q I d e f g ⟨a,xs,rfl,SqT.of hx,hw,fun p hp=>q p _ (Same.new hp) ae⟩
end
end L2
end
section
namespace K64
open K1
open PySem L2
noncomputable def top(i:Nat):Stmt:=PySem.Challenge.pw_seamwright_k64_whole_right_papers_of_bar.main.body.getD i (.Pass ⟨0,0,0,0⟩)
noncomputable abbrev C6:Stmt:=top 7
structure Bt(mg:Str->Option Value):Prop where
 len:mg "len"=none
 all:mg "all"=none
 zip:mg "zip"=none
 sorted:mg "sorted"=none
 set:mg "set"=none
 list:mg "list"=none
 tuple:mg "tuple"=none
 range:mg "range"=none
 enumerate:mg "enumerate"=none
 int:mg "int"=none
 isinstance:mg "isinstance"=none
 reversed:mg "reversed"=none
 bool:mg "bool"=none
def dv:AZ "len"=some (.builtin "len"):=δ
def kM:AZ "all"=some (.builtin "all"):=δ
def L0:AZ "zip"=some (.type "zip"):=δ
def mP:AZ "sorted"=some (.builtin "sorted"):=δ
def fh:AZ "list"=some (.type "list"):=δ
def oW:AZ "tuple"=some (.type "tuple"):=δ
def oX:AZ "enumerate"=some (.type "enumerate"):=δ
def GL:AZ "int"=some (.type "int"):=δ
def mR:AZ "isinstance"=some (.builtin "isinstance"):=δ
def L1:AZ "bool"=some (.type "bool"):=δ
def zh{n:Nat}(h:n<=100000):n<=sizeLine:=by rw[sizeLine_eq];omega
def zT{n:Nat}(h:n<=100000):n<sizeLine:=by rw[sizeLine_eq];omega
def L3(x:Int)(r:List Int):eE ((x::r).map V.int) (-1)=some (.int ((x::r).getLastD 0)):=by
 obtain⟨q,z,e⟩:∃q z,x::r=q++[z]:=⟨(x::r).dropLast,(x::r).getLast (List.cons_ne_nil x r),(List.dropLast_concat_getLast (List.cons_ne_nil x r)).symm⟩;rw[e,Aj,List.getLastD_eq_getLast?,List.getLast?_append];exact Ka _ _
def sJ{ps:List Int}{i:Nat}{x:V}(h:(ps.map V.int)[i]?=some x):∃p,ps[i]?=some p/\x=.int p:=by
 rw[Ag] at h;cases e:ps[i]? with
 |none=>rw[e] at h;cases h
 |some p=>rw[e] at h;exact⟨p,rfl,(Al h).symm⟩
def dL{as:List Addr}{i:Nat}{x:V}(h:(as.map V.ref)[i]?=some x):∃a,as[i]?=some a/\x=.ref a:=by
 rw[Ag] at h;cases e:as[i]? with
 |none=>rw[e] at h;cases h
 |some p=>rw[e] at h;exact⟨p,rfl,(Al h).symm⟩
def AH{a:Type}{l:List a}{i:Nat}{x:a}(h:l[i]?=some x):l.take (i+1)=l.take i++[x]:=by rw[Sq,h];rfl
def take_all{a:Type}(l:List a):l.take l.length=l:=As (Af _)
def C7(x:Int)(r:List Int):cF ((x::r).map V.int) (some 1) none=r.map V.int:=by
 unfold cF;have e:HT.sIx ((x::r).map V.int).length 0 (some 1)=1:=by
  have:=HT.qX ((x::r).map V.int).length 0 1;rw[show((1:Nat):Int)=1 from rfl] at this;rw[this,Ab,AB];omega
 rw[e,HT.Bv];show List.take _ (r.map V.int)=_;rw[As (by simp)]
section
variable{P:Program}{w:World}{K:Ae}{mg:Str->Option Value}{base:Heap}
def GM:Sp:=fun vs H Q _=>∃a ps,vs=[.ref a]/\Tp H a ps/\∀H',Same H H'->Q (.bl (fN ps)) H'
def L4:zp ["numbers"] ["numbers"] (zi C6):=⟨rfl,rfl,rfl,δ,rfl,δ,δ⟩
def L5{f:Addr}{fd:FuncData}{T U:Tok}(F:Fun K "is_piece" "is_piece" C6 f fd)(B:Bt mg)(W:mg "MOST_POINTS"=some (.int 5 T))(X:mg "LAST_POINT"=some (.int 99 U)):FnOk P w K mg base aR 1 f fd ["numbers"] GM:=by
 refine F.ok L4 (fun vs H Q E h=>?_) (fun Y A outer s H vs Q E hr h=>?_)
 ·obtain⟨a,ps,rfl,_⟩:=h;rfl
 ·obtain⟨a,ps,rfl,ha,k⟩:=h
  refine⟨_,ze (zQ (dB (E4 qV qV zf (zl zo rfl B.len dv (zc (pv 0) zd)) (qM rfl W (v:=.int 5) ⟨_,rfl⟩))) (zg (zm cU)) zr)
   (ze (zQ (PW.pt (fv (zn nS (zA zv (pv 0) zf (fun _ _=>rfl)) zf (al _)) (gH (zn nW (zA zv (pv 0) (yC yS zf) (fun _ _=>rfl)) (qM rfl X (v:=.int 99) ⟨_,rfl⟩) (al _))))) (zg (zm cU)) zr)
   (zg (zm (zl (kE rfl) rfl B.all kM (zc
    (zq ["numbers"] ["low","high"] [none,none] (Lv rfl B.zip L0 (zc (pv 0) (zc (iN rf (pv 0) (iK zf) iJ) zd)))
     (fun I C s₀ H₀ ex=>jn rfl (zI (zk (i:=0) (cz ["low","high"]) rfl (Or.inl rfl)) (zI (zk (i:=1) (cz ["low","high"]) rfl (Or.inl rfl)) jm)))
     (fun I C s₀ H₀ ex=>zF) (fun I C s₀ H₀ ex=>f_ nS (pv 0) (pv 1) (al _)) (hfr:=cI δ) (g:=fV K 2 (gM (zN 0) (gM (zN 1) fS)))) zd))))),?_⟩
  have o:fN ps=false->Q (.bl false) H:=fun e=>by have:=k H (Same.refl H);rw[e] at this;exact this
  refine⟨_,rfl,a,_,rfl,.inr (SqT.of ha),_,_,rfl,rfl,_,rfl,?_⟩;rw[Ab];refine eH (fun h1=>?_) (fun h1=>?_)
  ·refine⟨_,_,rfl,rfl,_,rfl,?_⟩
   have c:1<=ps.length:=by have:=Tl h1;omega
   cases h5:decide ((ps.length:Int)<=5) with
   |false=>
    have d:¬ps.length<=5:=by have:=of_decide_eq_false h5;omega
    exact bd (o (by unfold fN;rw[Tk d];simp))
   |true=>
    have d:ps.length<=5:=by have:=Tl h5;omega
    refine aC ?_;obtain⟨x,r,rfl⟩:∃x r,ps=x::r:=by
     cases ps with
     |nil=>simp at c
     |cons x r=>exact⟨x,r,rfl⟩
    refine⟨_,rfl,a,_,_,_,rfl,rfl,SqT.of ha,gw (j:=0) rfl,_,_,rfl,rfl,_,rfl,?_⟩;refine eH (fun hx=>?_) (fun hx=>?_)
    ·refine bd (o ?_)
     unfold fN;rw[show decide ((x::r).headD 0<0)=true from hx];simp
    ·refine⟨_,rfl,_,rfl,a,_,_,_,rfl,rfl,SqT.of ha,L3 x r,_,_,rfl,rfl,_,rfl,?_⟩
     cases hl:decide (99<(x::r).getLastD 0) with
     |true=>
      refine bd (o ?_);unfold fN;rw[hl];simp
     |false=>
      refine aC ?_;refine⟨_,rfl,_,rfl,_,rfl,a,_,rfl,SqT.of ha,?_,fun p hp=>?_⟩
      ·intro z
       have e:=HT.qX ((x::r).map V.int).length 0 1;rw[show((1:Nat):Int)=1 from rfl,z.1,Ab,AB] at e;omega
      ·rw[C7]
       have G:Same H (upd H p (.tup (r.map V.int))):=Same.new hp;refine⟨a,p,rfl,⟨_,SqT.of (G.tp ha)⟩,⟨_,SqT.of ae⟩,fun D J=>?_⟩;have hm:min ((x::r).map V.int).length (r.map V.int).length=r.length:=by simp
       refine zx (Lz (K:=K) (xs:=(x::r).map V.int) (ys:=r.map V.int) (fun i σ zs H3=>∃u y,σ=[u,y]/\Same (upd H p (.tup (r.map V.int))) H3/\H3 D=some (.lst zs)/\zs=((((x::r).zip r).map fun q=>decide (q.1<q.2)).take i).map V.bl)
        ⟨none,none,rfl,Same.new J,ae,rfl⟩ (fun i σ zs H3 ⟨_,_,_,sm,_⟩=>⟨SqT.of (sm.tp (G.tp ha)),SqT.of (sm _ _ ae)⟩) ?_ ?_)
       ·rintro i σ zs H3 N y1 y2 e1 e2 hi hz ⟨u,y,rfl,sm,l,rfl⟩ L
        obtain⟨q1,g1,rfl⟩:=sJ e1;obtain⟨O,g2,rfl⟩:=sJ e2;refine⟨N,_,rfl,SqT.of ae,rfl,_,_,rfl,_,_,rfl,rfl,iW ?_⟩;refine⟨_,rfl,_,rfl,_,_,rfl,rfl,bz (AA (S8 _ _) (by rw[Ab];exact zh (by simp at d;omega))) hi hz (by rw[ah (zj l L)];exact l) ⟨_,_,rfl,?_,ae,?_⟩⟩
        ·exact(sm.then (sm.free L)).then J
        ·have e3:(((x::r).zip r).map fun q=>decide (q.1<q.2))[i]?=some (decide (q1<O)):=by
          rw[Ag,bM.cG,g1,g2];rfl
         rw[AH e3,Aj];rfl
       ·rintro σ zs H3 ⟨u,y,rfl,sm,l,rfl⟩
        refine⟨D,(((x::r).zip r).map fun q=>decide (q.1<q.2)),rfl,SqL.of ?_,?_⟩
        ·rw[l,hm,As (by simp)]
        ·have:=k H3 (G.trans sm)
         have M:=GH (x::r);rw[show(x::r).drop 1=r from rfl] at M;rw[M];have S:fN (x::r)=bg (x::r):=by
          unfold fN;rw[Tj c,Tj d,hl];rw[show decide ((x::r).headD 0<0)=false from by simpa using hx]
          rfl
         rw[S] at this;exact this
  ·refine⟨_,rfl,bd (o ?_)⟩
   have c:¬1<=ps.length:=fun z=>h1 (Tj ω);unfold fN;rw[Tk c]
   rfl
end
end K64
end
section
namespace K64
open K1
open PySem L2
section
variable{P:Program}{w:World}{K:Ae}{mg:Str->Option Value}{base:Heap}
def GN:Sp:=fun vs H Q _=>∃a ps,vs=[.ref a]/\Tp H a ps/\ps.length<=5/\∀D as H',Same H H'->H D=none->H' D=some (.lst (as.map V.ref))->Tps H' as (parts ps)->Q (.ref D) H'
def iX{n:Nat}(h:n<=5):2 ^ n<=32:=by
 have:2 ^ n<=2 ^ 5:=Nat.pow_le_pow_right ξ h;exact this
def L6{H2:Hp}{as:List Addr}{fs:Ξ}{q:Int}{D:Addr}{l:Addr}{Q:VK}(F:H2 l=some (.lst (as.map V.ref)))(ht:Tps H2 as fs)(hz:as.length<=100)(G:∀f∈fs,f.length<=100)(r:H2 D=none)(k:∀bs H3,Same H2 H3->H3 D=some (.lst (bs.map V.ref))->Tps H3 bs (fs.map (·++[q]))->Q (.ref D) H3):zV (dP K l) (zN 0) bT (cp CY (ax 0) (c7 (zJ (ax 1) br))) [none,some (.int q)] H2 D Q:=by
 have C:=ht.length;refine zH (xs:=as.map V.ref) (fun j σ ys H3=>∃bs v,σ=[v,some (.int q)]/\Same H2 H3/\H3 D=some (.lst ys)/\ys=bs.map V.ref/\Tps H3 bs ((fs.take j).map (·++[q]))) ?_ ?_ ?_ ?_
 ·exact⟨[],none,rfl,Same.new r,ae,rfl,.nil⟩
 ·rintro j σ ys H3 ⟨bs,v,rfl,sm,d,rfl,hb⟩
  exact SqL.of (sm _ _ F)
 ·rintro j σ ys H3 x hx y hy ⟨bs,v,rfl,sm,d,rfl,hb⟩
  obtain⟨a,A,rfl⟩:=dL hx;obtain⟨f,i,hf⟩:=ht.get A;refine b0 ?_;refine⟨_,rfl,_,rfl,zh (by simp),fun t u=>?_⟩;have E:=sm.tp hf;have o:Same H3 (upd H3 t (.tup [.int q])):=Same.new u;refine⟨a,t,_,_,rfl,rfl,o _ _ E,ae,?_,fun p h w hp=>?_⟩
  ·rw[Ab]
   exact zh (by have:=G f (Ai i);simp;omega)
  ·have g:Same H3 h:=o.trans w
   refine bz (ys:=bs.map V.ref) (by rw[Ab];exact zh ω) y hy (g _ _ d) ⟨bs++[p],_,rfl,(sm.trans g).then r,ae,by rw[Aj];rfl,?_⟩;rw[AH i,Aj];have H:p≠D:=aV hp (g _ _ d) (by intro z;cases z);have keep:∀c xs,h c=some (.tup xs)->upd h D (.lst (bs.map V.ref++[V.ref p])) c=some (.tup xs):=fun c xs e=>by
    rw[ah (aV e (g _ _ d) (by intro z;cases z))];exact e
   refine Tps.snoc (Paired.mapP (g.tps hb) fun c xs e=>keep c _ e) (keep p _ ?_);rw[hp,Aj];rfl
 ·rintro σ ys H3 ⟨bs,v,rfl,sm,d,rfl,hb⟩
  rw[Ab,C,take_all] at hb;exact k bs H3 sm d hb
end
end K64
end
section
namespace K64
open K1
open PySem L2 STb
noncomputable def Tps.upd{H:Hp}{d:Addr}{o o':HO}{as:List Addr}{ad:Ξ}(h:Tps H as ad)(hd:H d=some o')(c:∀xs,o'≠.tup xs):Tps (L2.upd H d o) as ad:=
 Paired.mapP h fun a ps e=>by
  show L2.upd H d o a=_;rw[ah (aV (show H a=some _ from e) hd fun z=>c _ z.symm)];exact e
noncomputable def fP(seq:Ξ):List (List Key×V):=(dd seq).map fun ps=>((ps.map Sum.inl:List Key),V.bl true)
def GO(seq:Ξ):(fP seq).length<=seq.length:=by unfold fP;rw[Ab];exact mO seq
def GP(seq:Ξ)(ps:List Int):putK (fP seq) (ps.map Sum.inl) (.bl true)=fP (seq++[ps]):=by
 unfold putK fP;rw[ss];have ha:(((dd seq).map fun ps=>((ps.map Sum.inl:List Key),V.bl true)).any fun kv=>decide (kv.1=ps.map Sum.inl))=decide (ps∈dd seq):=by
  rw[List.any_map]
  by_cases h:ps∈dd seq
  ·rw[Tj h,Rw]
   exact⟨ps,h,by simp⟩
  ·rw[Tk h,Si]
   intro q hq;simp only[Function.comp,decide_eq_true_eq,hJ];rintro rfl;exact h hq
 rw[ha]
 by_cases h:ps∈dd seq
 ·rw[Tj h,Th rfl,Th h,Am]
  refine Ax fun q hq=>?_;simp only[Function.comp];split<;>rfl
 ·rw[Tk h,Ti (by simp),Ti h,Aj]
  rfl
def L7{H:Hp}{seq:Ξ}{bs:List Addr}(h:Paired (fun(p:List Key×V) b=>H b=some (.tup (p.1.map kV))) (fP seq) bs):Tps H bs (dd seq):=by
 unfold fP at h;generalize dd seq=l at h
 induction l generalizing bs with
 |nil=>cases h;exact .nil
 |cons x l ih=>
  rw[At] at h;cases h with
  |cons r t=>
   refine .cons ?_ (ih t);show H _=_;rw[r,Am]
   rfl
def L8(ad:Ξ)(h:∀ps∈ad,ps.length<=5):(ad.flatMap parts).length<=31*ad.length:=by
 induction ad with
 |nil=>simp
 |cons x l ih=>
  rw[Bk,Ar,oT,AB];have:=ih fun ps hp=>h ps (Aw _ hp);have:=iX (h x Ay);omega
def L9{ad:Ξ}{i:Nat}{ps:List Int}(h:ad[i]?=some ps):(ad.take (i+1)).flatMap parts=(ad.take i).flatMap parts++parts ps:=by
 rw[AH h,R5];simp
def Told(H H2:Hp)(ad:Ξ)(D:Addr)(c:List (List Int×Addr)):Prop:=
 Same H H2/\H D=none/\H2 D=some (.lst (c.map fun q=>V.ref q.2))/\(∀q∈c,Tp H2 q.2 q.1)/\(c.map (·.1)).Perm (dd (ad.flatMap parts))/\c.Pairwise (fun a b=>HT.lexLt ((b.1.length:Int)::b.1) ((a.1.length:Int)::a.1)=false)
section
variable{P:Program}{w:World}{K:Ae}{mg:Str->Option Value}{base:Heap}
def GR(K:Ae):Sp:=fun vs H Q _=>∃l as ad,vs=[.ref l]/\SqL K H l (as.map V.ref)/\Tps H as ad/\(∀ps∈ad,ps.length<=5)/\ad.length<=200/\(dd (ad.flatMap parts)).length<1000/\∀D H2 a,Told H H2 ad D a->Q (.ref D) H2
end
end K64
end
section
namespace K64
open K1
open PySem L2 STb
noncomputable abbrev C8:Stmt:=top 32
noncomputable abbrev kQ:Stmt:=top 33
noncomputable abbrev oY:Stmt:=top 34
def GS(x y:Int):Prop:=0<=x/\(y=0\/(y=1/\x<4294967296))
def zY(H:Hp)(p:Addr):Prop:=∃x y,H p=some (.lst [.int x,.int y])/\GS x y
def zG(p:Addr)(H H':Hp):Prop:=∀b o,b≠p->H b=some o->H' b=some o
def zG.trans{p:Addr}{H H1 H2:Hp}(a:zG p H H1)(b:zG p H1 H2):zG p H H2:=fun c o hc e=>b c o hc (a c o hc e)
def zG.of{p:Addr}{H H1:Hp}(a:Same H H1):zG p H H1:=fun c o _ e=>a c o e
def zG.free{p:Addr}{H H':Hp}(e:zG p H H')(hb:zY H p)(hb':zY H' p){l:Addr}(h:H' l=none):H l=none:=by
 cases q:H l with
 |none=>rfl
 |some o=>
  obtain⟨x,y,e1,_⟩:=hb';have a:l≠p:=fun z=>by rw[z,e1] at h;cases h
  rw[e l o a q] at h;cases h
def zY.same{H H':Hp}{p:Addr}(b:zY H p)(e:Same H H'):zY H' p:=let ⟨x,y,h,o⟩:=b;⟨x,y,e _ _ h,o⟩
def zY.ne{H:Hp}{p l:Addr}{as:List Addr}(b:zY H p)(h:H l=some (.lst (as.map V.ref))):l≠p:=by
 obtain⟨x,y,e,_⟩:=b;refine aV h e fun z=>?_;injection z with z
 cases as with
 |nil=>cases z
 |cons a r=>rw[At] at z;cases z
def zY.net{H:Hp}{p t:Addr}{xs:List V}(b:zY H p)(h:H t=some (.tup xs)):t≠p:=by
 obtain⟨x,y,e,_⟩:=b;exact aV h e (by intro z;cases z)
def zG.tp{p:Addr}{H H':Hp}{a:Addr}{ps:List Int}(e:zG p H H')(b:zY H p)(h:Tp H a ps):Tp H' a ps:=e _ _ (b.net h) h
def zG.tps{p:Addr}{H H':Hp}{as:List Addr}{ad:Ξ}(e:zG p H H')(b:zY H p)(h:Tps H as ad):Tps H' as ad:=Paired.mapP h fun _ _ q=>e.tp b q
def zG.then{p:Addr}{H H1:Hp}{a:Addr}{o:HO}(e:zG p H H1)(h:H a=none):zG p H (L2.upd H1 a o):=fun b u hb q=>by rw[ah (zj q h)];exact e b u hb q
noncomputable def zY.upd{H:Hp}{p l:Addr}{o:HO}(b:zY H p)(h:l≠p):zY (L2.upd H l o) p:=let ⟨x,y,e,k⟩:=b;⟨x,y,by rw[ah h.symm];exact e,k⟩
def zY.new{H:Hp}{p l:Addr}{o:HO}(b:zY H p)(h:H l=none):zY (L2.upd H l o) p:=b.same (Same.new h)
section
variable{P:Program}{w:World}{K:Ae}{mg:Str->Option Value}{base:Heap}
def GT(K:Ae):Sp:=fun vs H Q _=>∃(l:Addr)(ns:List Int),vs=[.ref l,.int 0]/\SqL K H l (ns.map V.int)/\∀n,Q (.int n) H
def L_:zp ["script","k"] ["script","k"] (zi C8):=⟨rfl,rfl,rfl,δ,rfl,δ,δ⟩
def Ma{f:Addr}{fd:FuncData}(F:Fun K "_law_cell_at" "_law_cell_at" C8 f fd)(B:Bt mg):FnOk P w K mg base aR 1 f fd ["script","k"] (GT K):=by
 refine F.ok L_ (fun vs H Q E h=>?_) (fun c A outer s H vs Q E hr h=>?_)
 ·obtain⟨l,ns,rfl,_⟩:=h;rfl
 ·obtain⟨l,ns,rfl,a,k⟩:=h
  refine⟨_,ze (zQ (zn nS (pv 1) (zl zo rfl B.len dv (zc (pv 0) zd)) (al _)) (zg (zm (zA zU (pv 0) (pv 1) (fun _ _=>rfl)))) zr) (zg (zm zf)),?_⟩;refine⟨_,rfl,_,rfl,l,_,rfl,.inl a,_,_,rfl,rfl,_,rfl,?_⟩;refine eH (fun h1=>?_) (fun h1=>?_)
  ·cases ns with
   |nil=>have:=Tl h1;simp at this
   |cons n ns=>exact⟨_,rfl,_,rfl,l,_,_,_,rfl,rfl,a,gw (j:=0) rfl,k n⟩
  ·exact k 0
def GU:Sp:=fun vs H Q _=>∃n,vs=[.int n]/\∀p x y,H p=none->GS x y->Q (.ref p) (upd H p (.lst [.int x,.int y]))
def Mb:zp ["cell"] ["cell"] (zi kQ):=⟨rfl,rfl,rfl,δ,rfl,δ,δ⟩
def Mc{f:Addr}{fd:FuncData}(F:Fun K "_law_box" "_law_box" kQ f fd):FnOk P w K mg base aR 1 f fd ["cell"] GU:=by
 refine F.ok Mb (fun vs H Q E h=>?_) (fun c A outer s H vs Q E hr h=>?_)
 ·obtain⟨n,rfl,_⟩:=h;rfl
 ·obtain⟨n,rfl,k⟩:=h
  refine⟨_,ze (zQ (zn JU (pv 0) (zy yE zf zf) (al _)) (zg (zm (fy (zc (zy lW (pv 0) (zy yE zf zf)) (zc zf zd))))) zr)
   (zg (zm (fy (zc (zy gt (zy zS (zy ik (zy gt (pv 0) (zy yE zf zf)) zf) zf) zf) (zc zf zd))))),?_⟩
  have hc:nN 10 18:=⟨ξ,ξ,ξ⟩;have a:(10:Int) ^ (18:Int).toNat=1000000000000000000:=ξ
  refine⟨_,rfl,_,_,rfl,rfl,hc,_,_,rfl,rfl,_,rfl,?_⟩;refine eH (fun h1=>?_) (fun h1=>?_)
  ·refine⟨_,rfl,_,_,rfl,rfl,hc,_,_,rfl,rfl,zh (by simp),fun p hp=>k p _ 0 hp ⟨?_,.inl rfl⟩⟩
   have:=Tl h1;omega
  ·refine⟨_,rfl,_,_,rfl,rfl,hc,_,_,rfl,rfl,(by show(0:Int)<10 ^ (18:Int).toNat;rw[a];decide),_,_,rfl,rfl,.inr ⟨ξ,ξ⟩,_,_,rfl,rfl,_,_,rfl,rfl,(by show(0:Int)<2147483629;decide),zh (by simp),fun p hp=>k p _ 1 hp ⟨?_,.inr ⟨rfl,?_⟩⟩⟩
   ·exact Rf _ ξ
   ·have:=Q2 (n%10 ^ (18:Int).toNat*69621+7001) (show(0:Int)<2147483629 from ξ)
    omega
def mU:Sp:=fun vs H Q _=>∃p m,vs=[.ref p,.int m]/\zY H p/\0<m/\m<1073741824/\∀r H',0<=r->r<m->zG p H H'->zY H' p->Q (.int r) H'
def C9:zp ["box","most","found","mixed"] ["box","most"] (zi oY):=⟨rfl,rfl,rfl,δ,rfl,δ,δ⟩
def C_{f:Addr}{fd:FuncData}(F:Fun K "_law_take" "_law_take" oY f fd):FnOk P w K mg base aR 1 f fd ["box","most"] mU:=by
 refine F.ok C9 (fun vs H Q E h=>?_) (fun J A outer s H vs Q E hr h=>?_)
 ·obtain⟨p,m,rfl,_⟩:=h;rfl
 ·obtain⟨p,m,rfl,⟨x,y,hp,d,g⟩,a,hm,k⟩:=h
  refine⟨_,ze (zQ (zn fY (zA zU (pv 0) zf (fun _ _=>rfl)) zf (al _))
    (ze (zt (i:=2) C9.nd rfl (Or.inl rfl) (zy gt (zA zU (pv 0) zf (fun _ _=>rfl)) (pv 1)))
    (ze (yl (zy EY (zA zU (pv 0) zf (fun _ _=>rfl)) (pv 1)) (ET (pv 0) zf set_list))
    (zg (zm (pv 2))))) zr)
   (ze (zt (i:=3) C9.nd rfl (Or.inl rfl) (zy gt (zy zS (zy zS (zy ik (zA zU (pv 0) zf (fun _ _=>rfl)) (zA zU (pv 0) zf (fun _ _=>rfl))) (zy ik zf (zA zU (pv 0) zf (fun _ _=>rfl)))) zf) zf))
   (ze (yl (zy gt (zy zS (zy zS (zy ik (pv 3) (pv 3)) (zy ik zf (pv 3))) zf) zf) (ET (pv 0) zf set_list))
   (zg (zm (zy gt (zy EY (zA zU (pv 0) zf (fun _ _=>rfl)) zf) (pv 1)))))),?_⟩
  have c:eE ([.int x,.int y]:List V) 0=some (.int x):=gw (j:=0) rfl;have D:eE ([.int x,.int y]:List V) 1=some (.int y):=gw (j:=1) rfl;refine⟨_,rfl,p,_,_,_,rfl,rfl,SqL.of hp,D,rfl,_,rfl,?_⟩;refine eH (fun h1=>?_) (fun h1=>?_)
  ·refine⟨_,rfl,p,_,_,_,rfl,rfl,SqL.of hp,c,_,rfl,_,_,rfl,rfl,a,?_⟩
   refine⟨_,rfl,p,_,_,_,rfl,rfl,SqL.of hp,c,_,rfl,_,_,rfl,rfl,⟨a,hm⟩,_,rfl,p,_,_,0,rfl,rfl,hp,rfl,?_⟩;refine⟨_,rfl,k (x%m) _ (Rf _ ω) (Q2 _ a) (fun b o hb e=>by rw[ah hb];exact e) ⟨x / m,y,ae,Int.ediv_nonneg d ω,?_⟩⟩;rcases g with q|⟨q,hx⟩
   ·exact .inl q
   ·refine .inr ⟨q,Int.lt_of_le_of_lt (Int.ediv_le_self _ d) hx⟩
  ·have hy:y=1/\x<4294967296:=by
    rcases g with q|q
    ·exact absurd (by subst q;rfl) h1
    ·exact q
   obtain⟨rfl,hx⟩:=hy;have hb:CMul x x:=.inl ⟨ω,ω⟩;refine⟨_,rfl,p,_,_,_,rfl,rfl,SqL.of hp,c,_,rfl,p,_,_,_,rfl,rfl,SqL.of hp,c,_,_,rfl,rfl,hb,_,rfl,p,_,_,_,rfl,rfl,SqL.of hp,c,_,_,rfl,rfl,.inl ⟨ξ,ξ⟩,_,_,rfl,rfl,_,_,rfl,rfl,_,_,rfl,rfl,(by show(0:Int)<2147483647;decide),?_⟩;have G:=Rf (x*x+39373*x+12345) (show(2147483647:Int)≠0 from ξ);have I:=Q2 (x*x+39373*x+12345) (show(0:Int)<2147483647 from ξ);obtain⟨z,l⟩:∃z,z=(x*x+39373*x+12345)%2147483647:=⟨_,rfl⟩;rw[<-l] at G I;show nB _ _ _ ([some (.ref p),some (.int m),none,some (.int ((x*x+39373*x+12345)%2147483647))]:St) H;rw[<-l];refine⟨_,rfl,_,rfl,_,_,rfl,rfl,.inl ⟨ω,ω⟩,_,rfl,_,_,rfl,rfl,.inl ⟨ξ,ξ⟩,_,_,rfl,rfl,_,_,rfl,rfl,_,_,rfl,rfl,(by show(0:Int)<2147483587;decide),_,rfl,p,_,_,0,rfl,rfl,hp,rfl,?_⟩;have v:=Rf (z*z+16807*z+7) (show(2147483587:Int)≠0 from ξ);have g1:=Q2 (z*z+16807*z+7) (show(0:Int)<2147483587 from ξ);obtain⟨u,r⟩:∃u,u=(z*z+16807*z+7)%2147483587:=⟨_,rfl⟩;rw[<-r] at v g1;have C:upd H p (.lst [.int ((z*z+16807*z+7)%2147483587),.int 1]) p=some (.lst [.int u,.int 1]):=by rw[r];exact ae
   refine⟨_,rfl,p,_,_,_,rfl,rfl,SqL.of C,gw (j:=0) rfl,_,_,rfl,rfl,⟨ξ,ξ⟩,_,rfl,_,_,rfl,rfl,a,?_⟩;exact k _ _ (Rf _ ω) (Q2 _ a) (fun b o hb e=>by rw[ah hb];exact e) ⟨u,1,C,v,.inr ⟨rfl,ω⟩⟩
end
end K64
end
section
namespace K64
open K1
open PySem L2 STb
noncomputable abbrev oZ:Stmt:=top 35
noncomputable abbrev C':Stmt:=top 36
section
variable{P:Program}{w:World}{K:Ae}{mg:Str->Option Value}{base:Heap}
def Md{H2:Hp}{as:List Addr}{fs:Ξ}{D l:Addr}{Q:VK}(E:H2 l=some (.lst (as.map V.ref)))(ht:Tps H2 as fs)(hz:as.length<=100)(w:H2 D=none)(k:∀bs H3,Same H2 H3->H3 D=some (.lst (bs.map V.ref))->Tps H3 bs (fs.filter fun q=>!decide (q=[]))->Q (.ref D) H3):zV (dP K l) (zN 0) (eB (cp (kH true K) (ax 0) (c7 br))) (ax 0) [none] H2 D Q:=by
 have C:=ht.length;refine zH (xs:=as.map V.ref) (fun j σ ys H3=>∃bs v,σ=[v]/\Same H2 H3/\H3 D=some (.lst ys)/\ys=bs.map V.ref/\Tps H3 bs ((fs.take j).filter fun q=>!decide (q=[]))) ?_ ?_ ?_ ?_
 ·exact⟨[],none,rfl,Same.new w,ae,rfl,.nil⟩
 ·rintro j σ ys H3 ⟨bs,v,rfl,sm,g,rfl,hb⟩
  exact SqL.of (sm _ _ E)
 ·rintro j σ ys H3 x hx i hy ⟨bs,v,rfl,sm,g,rfl,hb⟩
  obtain⟨a,A,rfl⟩:=dL hx;obtain⟨f,p,hf⟩:=ht.get A;refine⟨_,rfl,zh (by simp),fun t y=>?_⟩;have r:=sm.tp hf;have d:Same H3 (upd H3 t (.tup [])):=Same.new y;refine .inl ⟨a,t,f,[],rfl,rfl,d.tp r,ae,_,rfl,?_⟩;have u:=sm.trans d;have keep:∀(o:HO) c xs,upd H3 t (.tup []) c=some (.tup xs)->upd (upd H3 t (.tup [])) D o c=some (.tup xs):=fun o c xs e=>by
   rw[ah (aV e (d _ _ g) (by intro z;cases z))];exact e
  by_cases h:f=[]
  ·subst h
   refine aC (dX i hy ⟨bs,_,rfl,u,d _ _ g,rfl,?_⟩);rw[AH p,Bf]
   simpa using d.tps hb
  ·rw[Th rfl,show(!decide (f=[]))=true by simp[h]]
   refine bd ⟨_,rfl,bz (ys:=bs.map V.ref) (by rw[Ab];exact zh ω) i hy (d _ _ g) ⟨bs++[a],_,rfl,u.then w,ae,by rw[Aj];rfl,?_⟩⟩;rw[AH p,Bf,show [f].filter (fun q=>!decide (q=[]))=[f] by simp[h]];exact Tps.snoc (Paired.mapP (d.tps hb) fun c xs e=>keep _ c _ e) (keep _ a _ (d.tp r))
 ·rintro σ ys H3 ⟨bs,v,rfl,sm,g,rfl,hb⟩
  rw[Ab,C,take_all] at hb;exact k bs H3 sm g hb
def sK:zp ["piece","found","point"] ["piece"] (zi oZ):=⟨rfl,rfl,rfl,δ,rfl,δ,δ⟩
def Me{f:Addr}{fd:FuncData}(F:Fun K "_law_parts" "_law_parts" oZ f fd):FnOk P w K mg base aR 1 f fd ["piece"] GN:=by
 refine F.ok sK (fun vs H Q E h=>?_) (fun S A outer s H vs Q E hr h=>?_)
 ·obtain⟨a,ps,rfl,_⟩:=h;rfl
 ·obtain⟨a,ps,rfl,ha,L,k⟩:=h
  have M:=hr.units;refine⟨_,ze (zt (i:=1) sK.nd rfl (Or.inl rfl) (fy (zc (ei zd) zd)))
   (ze (d0 AL rfl (EW (pv 0)) (zk (i:=2) sK.nd rfl (Or.inr rfl))
    (zg (zt (i:=1) sK.nd rfl (Or.inl rfl) (zy kc (pv 1) (zq ["piece","found","point"] ["part","point"] [none,some 2] (zD (pv 1)) (fun g C s₀ H₀ ex=>zk (i:=0) (cz ["part","point"]) rfl (Or.inl rfl)) (fun g C s₀ H₀ ex=>zF)
     (fun g C s₀ H₀ ex=>zy CZ (pv 0) (ei (zc (pv 1) zd))) (hfr:=cx (zi oZ) δ))))))
   (zg (zm (zq ["piece","found","point"] ["part"] [none] (zD (pv 1)) (fun g C s₀ H₀ ex=>zk (i:=0) (cz ["part"]) rfl (Or.inl rfl)) (fun g C s₀ H₀ ex=>jC (zn (rY M) (pv 0) (ei zd) (al _)))
     (fun g C s₀ H₀ ex=>pv 0) (hfr:=cI δ) (tc:=eB (cp (kH true K) (ax 0) (c7 br))))))),?_⟩
  refine⟨zh (by simp),fun e p=>⟨zh (by simp),fun l c=>?_⟩⟩;have I:Same H (upd (upd H e (.tup [])) l (.lst [.ref e])):=(Same.new p).then ((Same.new p).free c);have N:e≠l:=zj (H:=upd H e (.tup [])) ae c;refine⟨_,rfl,a,rfl,⟨_,SqT.of (I _ _ ha)⟩,JS (K:=K) (a:=a) (xs:=ps.map V.int) (fun i σ H2=>∃l as v,σ=[some (.ref a),some (.ref l),v]/\Same H H2/\H l=none/\H2 l=some (.lst (as.map V.ref))/\Tps H2 as (subs (ps.take i)))
   ⟨l,[e],none,rfl,I,(Same.new p).free c,ae,.cons (by show upd _ _ _ e=_;rw[ah N];exact ae) .nil⟩ (fun i σ H2 _ ⟨_,_,_,_,sm,_⟩=>SqT.of (sm _ _ ha)) ?_ ?_⟩
  ·rintro i x σ H2 hx ⟨l,as,v,rfl,sm,u,c,ht⟩
   obtain⟨q,eq,rfl⟩:=sJ hx;have hi:i<ps.length:=(KK.mp eq).1;have y:=ht.length;have T:as.length<=32:=by
    rw[y,C3,AC];exact iX ω
   have hm:∀f∈subs (ps.take i),f.length<=100:=fun f hf=>by
    have:=LX _ f hf;rw[AC] at this;omega
   refine⟨_,rfl,_,rfl,l,rfl,⟨_,SqL.of c⟩,fun D o=>zx (L6 c ht ω hm o fun bs H3 d r hb=>?_)⟩;have O:=hb.length;rw[Ab] at O;refine⟨l,D,_,_,rfl,rfl,d _ _ c,r,by rw[Ab,Ab];exact zh ω,fun G j=>?_⟩;have J:H G=none:=(sm.trans d).free j;refine⟨G,as++bs,_,rfl,(sm.trans d).then J,J,by rw[ae,Aj],?_⟩;rw[AH eq,GF];exact(Same.new j).tps ((d.tps ht).append hb)
  ·rintro σ H2 ⟨l,as,v,rfl,sm,u,c,ht⟩
   rw[Ab,take_all] at ht;have y:=ht.length;refine⟨_,rfl,l,rfl,⟨_,SqL.of c⟩,fun D o=>zx (Md c ht (by rw[y,C3];have:=iX L;omega) o fun bs H3 d r hb=>?_)⟩;rw[LW] at hb;exact k D bs H3 (sm.trans d) (sm.free o) r hb
def Mf{H2:Hp}{bs:List Addr}{fs:Ξ}{D l:Addr}{Q:VK}(E:H2 l=some (.lst (bs.map V.ref)))(ht:Tps H2 bs fs)(hz:bs.length<=1000)(r:H2 D=none)(k:∀(cs:List Addr) H3,Same H2 H3->H3 D=some (.lst (cs.map V.ref))->cs.length=bs.length->(∀(i:Nat) c,cs[i]?=some c->∃b f,bs[i]?=some b/\fs[i]?=some f/\H3 c=some (.tup [.int f.length,.ref b]))->Q (.ref D) H3):zV (dP K l) (zN 0) bT (c7 (zJ (gS (fun xs H Q=>∃p ys,xs=[V.ref p]/\(SqL K H p ys\/SqT K H p ys)/\Q (.int ys.length) H) (zJ (ax 0) br)) (zJ (ax 0) br))) [none] H2 D Q:=by
 have F:=ht.length;refine zH (xs:=bs.map V.ref) (fun j σ ys H3=>∃(cs:List Addr)(v:Option V),σ=[v]/\Same H2 H3/\H3 D=some (.lst ys)/\ys=cs.map V.ref/\cs.length=j/\∀(i:Nat) c,cs[i]?=some c->∃b f,bs[i]?=some b/\fs[i]?=some f/\H3 c=some (.tup [.int f.length,.ref b])) ?_ ?_ ?_ ?_
 ·exact⟨[],none,rfl,Same.new r,ae,rfl,rfl,fun i c e=>by simp at e⟩
 ·rintro j σ ys H3 ⟨cs,v,rfl,sm,d,rfl,h,hc⟩
  exact SqL.of (sm _ _ E)
 ·rintro j σ ys H3 x hx h hy ⟨cs,v,rfl,sm,d,rfl,a,hc⟩
  obtain⟨b,q,rfl⟩:=dL hx;obtain⟨f,w,hf⟩:=ht.get q;refine b0 ?_;refine⟨_,rfl,b,_,rfl,.inr (SqT.of (sm.tp hf)),_,rfl,zh (by simp),fun t u=>?_⟩;rw[show(f.map V.int).length=f.length from Ab _];have g:Same H3 (upd H3 t (.tup [.int f.length,.ref b])):=Same.new u;have keep:∀(o:HO) c xs,upd H3 t (.tup [.int f.length,.ref b]) c=some (.tup xs)->upd (upd H3 t (.tup [.int f.length,.ref b])) D o c=some (.tup xs):=fun o c xs e=>by
   rw[ah (aV e (g _ _ d) (by intro z;cases z))];exact e
  refine bz (ys:=cs.map V.ref) (by rw[Ab];exact zh ω) h hy (g _ _ d) ⟨cs++[t],_,rfl,(sm.trans g).then r,ae,by rw[Aj];rfl,by rw[Ar,a];rfl,fun i c e=>?_⟩
  by_cases hi:i<cs.length
  ·rw[QC hi] at e
   obtain⟨y,A,e1,e2,e3⟩:=hc i c e;exact⟨y,A,e1,e2,keep _ c _ (g _ _ e3)⟩
  ·rw[Qy ω] at e
   have C:i-cs.length=0:=by
    rcases Nat.eq_zero_or_pos (i-cs.length) with z|z
    ·exact z
    ·rw[QU (by simp only[AB,QY];omega)] at e;cases e
   rw[C] at e;obtain rfl:t=c:=by simpa using e
   have:i=j:=ω
   subst this;exact⟨b,f,q,w,keep _ t _ ae⟩
 ·rintro σ ys H3 ⟨cs,v,rfl,sm,d,rfl,a,hc⟩
  rw[Ab] at a;exact k cs H3 sm d a hc
noncomputable def jM(H:Hp)(c:Addr):Addr:=match H c with
 |some (.tup [_,.ref b])=>b
 |_=>0
def Mg{H2:Hp}{cs:List Addr}{D l:Addr}{Q:VK}(h:H2 l=some (.lst (cs.map V.ref)))(ht:∀c∈cs,∃n b,H2 c=some (.tup [.int n,.ref b]))(hz:cs.length<=1000)(f:H2 D=none)(k:∀H3,Same H2 H3->H3 D=some (.lst (cs.map fun c=>V.ref (jM H2 c)))->Q (.ref D) H3):zV (dP K l) (zN 0) bT (cp (iQ K) (ax 0) (tC (.int 1))) [none] H2 D Q:=by
 refine zH (xs:=cs.map V.ref) (fun j σ ys H3=>∃v,σ=[v]/\Same H2 H3/\H3 D=some (.lst ys)/\ys=(cs.take j).map fun c=>V.ref (jM H2 c)) ?_ ?_ ?_ ?_
 ·exact⟨none,rfl,Same.new f,ae,rfl⟩
 ·rintro j σ ys H3 ⟨v,rfl,sm,a,rfl⟩
  exact SqL.of (sm _ _ h)
 ·rintro j σ ys H3 x hx g hy ⟨v,rfl,sm,a,rfl⟩
  obtain⟨c,d,rfl⟩:=dL hx;obtain⟨n,b,e⟩:=ht c (Ai d);refine b0 ?_;refine⟨_,rfl,c,_,_,_,rfl,rfl,SqT.of (sm _ _ e),gw (j:=1) rfl,bz (by rw[Ab];exact zh ω) g hy a ⟨_,rfl,sm.then f,ae,?_⟩⟩;rw[AH d,Aj];have:jM H2 c=b:=by unfold jM;rw[e]
  rw[<-this];rfl
 ·rintro σ ys H3 ⟨v,rfl,sm,a,rfl⟩
  rw[Ab,take_all] at a;exact k H3 sm a
def o0:zp ["web","found","piece","part","ranked"] ["web"] (zi C'):=⟨rfl,rfl,rfl,δ,rfl,δ,δ⟩
def Mh{f fp:Addr}{fd nT:FuncData}(F:Fun K "_law_pieces" "_law_pieces" C' f fd)(B:Bt mg)(Fp:Fun K "_law_parts" "_law_parts" oZ fp nT)(bp:Binds K nT ["piece"] [])(mp:mg "_law_parts"=some (.ref fp)):FnOk P w K mg base aR 2 f fd ["web"] (GR K):=by
 have Gp:FnOk P w K mg base aR 1 fp nT ["piece"] GN:=Me Fp;refine F.ok o0 (fun vs H Q E h=>?_) (fun ar A outer s H vs Q E hr h=>?_)
 ·obtain⟨l,as,ad,rfl,_⟩:=h;rfl
 ·obtain⟨l,as,ad,rfl,hl,ht,h5,lX,fA,k⟩:=h
  have hu:=eG hr;have aF:=hr.units;refine⟨_,ze (zt (i:=1) o0.nd rfl (Or.inl rfl) ju)
   (ze (d0 AL rfl (zD (pv 0)) (zk (i:=2) o0.nd rfl (Or.inl rfl))
    (zg (d0 AL rfl (zD (fc Gp hr rfl mp Fp.kp bp .nil ak (zc (pv 2) zd))) (zk (i:=3) o0.nd rfl (Or.inl rfl))
     (zg (hF hu (pv 1) (pv 3) cU rfl)))))
   (ze (zt (i:=4) o0.nd rfl (Or.inl rfl) (zl (LL aF) rfl B.sorted mP (zc
    (zq ["web","found","piece","part","ranked"] ["piece"] [none] (zD (zu (LA rfl) rfl B.list fh (zc (pv 1) zd))) (fun I C s₀ H₀ ex=>zk (i:=0) (cz ["piece"]) rfl (Or.inl rfl)) (fun I C s₀ H₀ ex=>zF)
     (fun I C s₀ H₀ ex=>ei (zc (zl zo rfl B.len dv (zc (pv 0) zd)) (zc (pv 0) zd))) (hfr:=cI δ) (te:=c7 (zJ (gS (fun xs H Q=>∃p ys,xs=[V.ref p]/\(SqL K H p ys\/SqT K H p ys)/\Q (.int ys.length) H) (zJ (ax 0) br)) (zJ (ax 0) br)))) zd)))
   (zg (zm (zq ["web","found","piece","part","ranked"] ["one"] [none] (zD (pv 4)) (fun I C s₀ H₀ ex=>zk (i:=0) (cz ["one"]) rfl (Or.inl rfl)) (fun I C s₀ H₀ ex=>zF)
     (fun I C s₀ H₀ ex=>zA zv (pv 0) zf (fun _ _=>rfl)) (hfr:=cI δ) (te:=cp (iQ K) (ax 0) (tC (.int 1)))))))),?_⟩
  intro d hd;have aJ:=ht.length;refine⟨_,rfl,l,rfl,⟨_,(Same.new hd).seq hl⟩,iD (K:=K) (a:=l) (xs:=as.map V.ref) (fun i σ H2=>∃v r u,σ=[some (.ref l),some (.ref d),v,r,u]/\Same H H2/\H2 d=some (.dT (fP ((ad.take i).flatMap parts))))
   ⟨none,none,none,rfl,Same.new hd,ae⟩ (fun i σ H2 _ ⟨_,_,_,_,sm,_⟩=>sm.seq hl) ?_ ?_⟩
  ·rintro i x σ H2 hx ⟨v,r,u,rfl,sm,L⟩
   obtain⟨a,ea,rfl⟩:=dL hx;obtain⟨ps,Y,c_⟩:=ht.get ea;have jf:=h5 ps (Ai Y);have hi:i<ad.length:=(KK.mp Y).1;refine⟨_,rfl,a,ps,rfl,sm.tp c_,jf,fun D cs H3 o bI J gj=>⟨D,rfl,⟨_,SqL.of J⟩,?_⟩⟩;have sX:=gj.length;have xf:D≠d:=aV J (o _ _ L) (by intro z;cases z);refine iD (K:=K) (a:=D) (xs:=cs.map V.ref) (fun j σ G=>∃r,σ=[some (.ref l),some (.ref d),some (.ref a),r,u]/\Same H G/\G D=some (.lst (cs.map V.ref))/\Tps G cs (parts ps)/\G d=some (.dT (fP ((ad.take i).flatMap parts++(parts ps).take j))))
    ⟨_,rfl,sm.trans o,J,gj,by rw[List.take_zero,QD];exact o _ _ L⟩ (fun j σ G _ ⟨_,_,_,q,_⟩=>SqL.of q) ?_ ?_
   ·rintro j x σ G hx ⟨r,rfl,bu,ck,gN,M⟩
    obtain⟨c,ec,rfl⟩:=dL hx;obtain⟨f,ef,hf⟩:=gN.get ec;have N:(fP ((ad.take i).flatMap parts++(parts ps).take j)).length<sizeLine:=by
     refine zT (AA (GO _) ?_);rw[Ar];have h1:=L8 (ad.take i) (fun q hq=>h5 q (Rr hq));have h2:=oT ps;have X:=iX jf;rw[AC] at h1 ⊢;omega
    refine⟨_,rfl,_,rfl,d,_,rfl,DPut.t (k:=f.map Sum.inl) M (by rw[Am];exact hf) N,⟨_,rfl,bu.then hd,?_,?_,?_⟩⟩
    ·rw[ah xf];exact ck
    ·exact Tps.upd gN M (by intro xs z;cases z)
    ·rw[ae,GP,A1,<-AH ef]
   ·rintro σ G ⟨r,rfl,bu,ck,gN,M⟩
    refine⟨_,_,_,rfl,bu,?_⟩;rw[Ab,sX,take_all] at M;rw[L9 Y];exact M
  ·rintro σ H2 ⟨v,r,u,rfl,sm,L⟩
   rw[Ab,aJ,take_all] at L;refine⟨_,rfl,d,_,rfl,L,fun bs hb l2 U=>?_⟩;have tb:=L7 hb;have o6:=tb.length;have lL:(dd (ad.flatMap parts)).length<=1000:=ω
   have T:Same H2 (upd H2 l2 (.lst (bs.map V.ref))):=Same.new U;refine⟨l2,rfl,⟨_,SqL.of ae⟩,fun D J=>zx (Mf (K:=K) ae (T.tps tb) ω J fun cs H3 o ag hcl hc=>?_)⟩;have pA:=o.tps (T.tps tb);refine⟨D,cs,(dd (ad.flatMap parts)).map fun f=>((f.length:Int)::f),rfl,SqL.of ag,?_,(by rw[Ab];exact fA),fun R g hp hs hR=>?_⟩
   ·refine Paired.of_at (by rw[Ab];omega) fun i c y e1 e2=>?_
    obtain⟨b,f,g1,g2,g3⟩:=hc i c e1;rw[Ag,g2] at e2;obtain rfl:=Al e2;exact⟨_,b,f,rfl,g3,r9 pA i b f g1 g2⟩
   ·have O:Same H3 (upd H3 R (.lst (g.map fun q=>V.ref q.2))):=Same.new hR
    have hq:∀q∈g,∃b f,q.1=((f:List Int).length:Int)::f/\H3 q.2=some (.tup [.int f.length,.ref b])/\Tp H3 b f:=fun q hq=>by
     obtain⟨m,em⟩:=Qn.mp (hp.mem_iff.mp hq);rw[bM.cG,Ag] at em;cases e2:cs[m]? with
     |none=>rw[e2] at em;cases h:(dd (ad.flatMap parts))[m]?<;>rw[h] at em<;>cases em
     |some c=>
      obtain⟨b,f,g1,g2,g3⟩:=hc m c e2;rw[g2,e2] at em;obtain rfl:(((f.length:Int)::f),c)=q:=Al em;exact⟨b,f,rfl,g3,r9 pA m b f g1 g2⟩
    have hql:g.length<=1000:=by rw[hp.length_eq,RD,Ab];omega
    refine⟨_,rfl,R,rfl,⟨_,SqL.of ae⟩,fun D2 a_=>zx (Mg (K:=K) (cs:=g.map (·.2)) (by rw[ae,Am];rfl) (fun c i7=>?_) (by rw[Ab];omega) a_ fun H5 cj bb=>?_)⟩
    ·obtain⟨q,W,rfl⟩:=Qj.mp i7
     obtain⟨b,f,_,g2,_⟩:=hq q W;exact⟨_,b,O _ _ g2⟩
    ·have nR:Same H H5:=((sm.trans T).trans o).trans (O.trans cj)
     have snd:∀q∈g,∀b f,H3 q.2=some (.tup [.int (f:List Int).length,.ref b])->jM (upd H3 R (.lst (g.map fun q=>V.ref q.2))) q.2=b:=fun q _ b f e=>by
      unfold jM;rw[O _ _ e]
     refine k D2 H5 (g.map fun q=>(q.1.tail,jM (upd H3 R (.lst (g.map fun q=>V.ref q.2))) q.2)) ⟨nR,(((sm.trans T).trans o).trans O).free a_,?_,fun q W=>?_,?_,?_⟩
     ·rw[bb,Am,Am];rfl
     ·obtain⟨S,h0,rfl⟩:=Qj.mp W
      obtain⟨b,f,g1,g2,g3⟩:=hq S h0;show Tp H5 (jM _ S.2) S.1.tail;rw[snd S h0 b f g2,g1];exact cj.tp (O.tp g3)
     ·rw[Am]
      have h1:=hp.map (fun q:List Int×Addr=>q.1.tail);have e:((((dd (ad.flatMap parts)).map fun f=>((f.length:Int)::f)).zip cs).map fun q:List Int×Addr=>q.1.tail)=dd (ad.flatMap parts):=by
       rw[show(fun q:List Int×Addr=>q.1.tail)=(fun l:List Int=>l.tail) ∘ Prod.fst from rfl,<-Am,SB (by rw[Ab];omega),Am];exact SL _
      rw[e] at h1;exact h1
     ·rw[AX]
      refine hs.imp_of_mem fun{p q} h1 h2 X=>?_;obtain⟨_,f,g1,_⟩:=hq p h1;obtain⟨_,f',q_,_⟩:=hq q h2;rw[g1,q_] at X;rw[g1,q_];exact X
end
end K64
end
section
namespace K64
open K1
open PySem L2 STb
noncomputable abbrev sN:Stmt:=top 37
noncomputable abbrev o8:Stmt:=top 38
noncomputable def texts:List Str:=(["","0","01 12 02","012 013 023 123","01 02 03","012 023 034 014","0123","01 23 45","012 34"]:List Str)++(["012 123 234 034 014","01 12 23 03 13","012 013 014","0 1 2 3"]:List Str)++(["01 12 02 34 45 35","023 234 1"]:List Str)
++(["014 015 023 025 034 123 124 135 245 345","012 013 024 034 125 135 245 345"]:List Str)++(["01234","0123 0124 0134 0234 1234"]:List Str)++(["013 123 234 024 014 145 125 025 056 016 126 267 027 037 345 356 367"]:List Str)
noncomputable def wordsOf(n:Nat):List Str:=Txt.split (texts.getD n "") " "
noncomputable def digits(x:Str):List Int:=x.cps.toList.map fun(c:Nat)=>((c:Int)-48)
noncomputable def known(n:Nat):Ξ:=((wordsOf n).filter fun(x:Str)=>!decide (x="")).map digits
def Mi:∀n,n<20->(texts.getD n "").length+2<=1000/\(wordsOf n).length<=20/\∀x∈wordsOf n,x.cps.size<=5/\∀c∈x.cps.toList,48<=c/\c<=57:=δ
def Mj:∀c,48<=c->c<=57->intText? ⟨#[c]⟩=some ((c:Int)-48):=by
 intro c h1 h2;have:∀c,c<58->48<=c->intText? ⟨#[c]⟩=some ((c:Int)-48):=δ
 exact this c ω h1
section
variable{P:Program}{w:World}{K:Ae}{mg:Str->Option Value}{base:Heap}
def GV:Sp:=fun vs H Q _=>∃n:Nat,vs=[.int n]/\n<20/\∀D as H',Same H H'->H D=none->H' D=some (.lst (as.map V.ref))->Tps H' as (known n)->Q (.ref D) H'
def kU:zp ["number","some","web","word"] ["number"] (zi sN):=⟨rfl,rfl,rfl,δ,rfl,δ,δ⟩
def Mk{H2:Hp}{x:Str}{D:Addr}{Q:VK}(hx:x.cps.size<=5)(hc:∀c∈x.cps.toList,48<=c/\c<=57)(f:H2 D=none)(k:∀H3,Same H2 H3->H3 D=some (.lst ((digits x).map V.int))->Q (.ref D) H3):zV (sy x) (zN 0) bT (gS (fun xs H Q=>∃x n,xs=[.str x]/\intText? x=some n/\x.length<=640/\Q (.int n) H) (zJ (ax 0) br)) [none] H2 D Q:=by
 refine LV (fun j σ ys H3=>∃v,σ=[v]/\Same H2 H3/\H3 D=some (.lst ys)/\ys=((digits x).take j).map V.int) ?_ ?_ ?_
 ·exact⟨none,rfl,Same.new f,ae,rfl⟩
 ·rintro j σ ys H3 c g h hy ⟨v,rfl,sm,d,rfl⟩
  have a:x.cps.toList[j]?=some c:=by simpa using g
  obtain⟨i,l⟩:=hc c (Ai a);refine b0 ?_;refine⟨_,rfl,⟨#[c]⟩,_,rfl,Mj c i l,by show 1<=640;decide,bz (zh ω) h hy d ⟨_,rfl,sm.then f,ae,?_⟩⟩;have e:(digits x)[j]?=some ((c:Int)-48):=by unfold digits;rw[Ag,a];rfl
  rw[AH e,Aj];rfl
 ·rintro σ ys H3 ⟨v,rfl,sm,d,rfl⟩
  rw[As (by unfold digits;simp)] at d;exact k H3 sm d
def Ml{f:Addr}{fd:FuncData}(F:Fun K "_law_known" "_law_known" sN f fd)(B:Bt mg):FnOk P w K mg base aR 1 f fd ["number"] GV:=by
 refine F.ok kU (fun vs H Q E h=>?_) (fun ar A outer s H vs Q E hr h=>?_)
 ·obtain⟨n,rfl,_⟩:=h;rfl
 ·obtain⟨n,rfl,hn,k⟩:=h
  refine⟨_,ze (zt (i:=1) kU.nd rfl (Or.inl rfl) (fy (zc z0 (zc z0 (zc z0 (zc z0 (zc z0 (zc z0 (zc z0 (zc z0 (zc z0 zd)))))))))))
   (ze (zt (i:=1) kU.nd rfl (Or.inl rfl) (zy kc (pv 1) (fy (zc z0 (zc z0 (zc z0 (zc z0 (zc z0 (zc z0 zd)))))))))
   (ze (zt (i:=1) kU.nd rfl (Or.inl rfl) (zy kc (pv 1) (fy (zc z0 (zc z0 zd)))))
   (ze (zt (i:=1) kU.nd rfl (Or.inl rfl) (zy kc (pv 1) (fy (zc z0 (zc z0 zd)))))
   (ze (fM (g0 Qt QF QG js (pv 1) (zc z0 zd)))
   (ze (zt (i:=2) kU.nd rfl (Or.inl rfl) (fy zd))
   (ze (d0 AL rfl (zD (g0 PySem.F.plainAttrs_str PySem.F.slot_str_split PySem.F.type_str_split LS (zA zU (pv 1) (zy gt (pv 0) zf) (fun _ _=>rfl)) (zc z0 zd))) (zk (i:=3) kU.nd rfl (Or.inl rfl))
    (zg (zQ (zn nQ (pv 3) z0 (al _))
     (zg (fM (g0 Qt QF QG js (pv 2) (zc (zu ri rfl B.tuple oW (zc
      (zq ["number","some","web","word"] ["sign"] [none] (LU (pv 3)) (fun G C s₀ H₀ ex=>zk (i:=0) (cz ["sign"]) rfl (Or.inl rfl)) (fun G C s₀ H₀ ex=>zF)
       (fun G C s₀ H₀ ex=>zu LI rfl B.int GL (zc (pv 0) zd)) (hfr:=cI δ)) zd)) zd)))) zr)))
   (zg (zm (pv 2))))))))),?_⟩
  have t20:texts.length=20:=rfl;have vP:eE (texts.map V.str) ((n:Int)%20)=some (.str (texts.getD n "")):=by
   rw[show(n:Int)%20=(n:Int) from ω];refine gw ?_;have e:texts[n]?=some texts[n]:=Ah ω;rw[Ag,List.getD_eq_getElem?_getD,e];rfl
  obtain⟨g1,g2,g3⟩:=Mi n hn;refine⟨zh (by simp),fun U h1=>?_⟩;have s1:=Same.new (H:=H) (o:=.lst [.str "",.str "0",.str "01 12 02",.str "012 013 023 123",.str "01 02 03",.str "012 023 034 014",.str "0123",.str "01 23 45",.str "012 34"]) h1;refine⟨_,rfl,zh (by simp),fun W I=>⟨U,W,_,_,rfl,rfl,Same.new I _ _ ae,ae,zh (by simp),fun X Y=>?_⟩⟩;have s3:=(s1.trans (Same.new I)).trans (Same.new (o:=.lst ((texts.take 15).map V.str)) Y);refine⟨_,rfl,zh (by simp),fun m3 J=>⟨X,m3,_,_,rfl,rfl,Same.new J _ _ ae,ae,zh (by simp),fun l4 h4=>?_⟩⟩;have N:=(s3.trans (Same.new J)).trans (Same.new (o:=.lst ((texts.take 17).map V.str)) h4);refine⟨_,rfl,zh (by simp),fun m4 p=>⟨l4,m4,_,_,rfl,rfl,Same.new p _ _ ae,ae,zh (by simp),fun d L=>?_⟩⟩;have s5:=(N.trans (Same.new p)).trans (Same.new (o:=.lst ((texts.take 19).map V.str)) L);have ub:H d=none:=(N.trans (Same.new p)).free L;refine⟨_,rfl,.inl ⟨rfl,_,SqL.of ae⟩,d,_,_,rfl,rfl,ae,zT (by simp),zh (by simp),fun c r=>?_⟩;generalize hH6:upd (upd _ d _) d _=H6 at r;have e6:H6 d=some (.lst (texts.map V.str)):=by rw[<-hH6,ae];rfl
  have O:Same H H6:=by
   rw[<-hH6];exact s5.then ub
  have g:H c=none:=O.free r;have S:Same H (upd H6 c (.lst [])):=O.then g;have e7:upd H6 c (.lst []) d=some (.lst (texts.map V.str)):=Same.new r _ _ e6;refine⟨_,rfl,_,rfl,_,_,rfl,rfl,(by show(0:Int)<20;decide),d,_,_,_,rfl,rfl,SqL.of e7,vP,rfl,_,_,rfl,rfl,ξ,zh ω,zh (show(wordsOf n).length<=100000 from ω),fun D M=>⟨D,rfl,⟨_,SqL.of ae⟩,?_⟩⟩;have T:c≠D:=zj (H:=upd H6 c (.lst [])) ae M;have bI:H D=none:=S.free M;refine iD (K:=K) (a:=D) (xs:=(wordsOf n).map V.str) (fun i σ H2=>∃as v,σ=[some (.int n),some (.ref d),some (.ref c),v]/\Same H H2/\H2 D=some (.lst ((wordsOf n).map V.str))/\H2 c=some (.lst (as.map V.ref))/\Tps H2 as ((((wordsOf n).take i).filter fun(x:Str)=>!decide (x="")).map digits))
   ⟨[],none,rfl,S.then bI,ae,by rw[ah T];exact ae,.nil⟩ (fun i σ H2 _ ⟨_,_,_,_,q,_⟩=>SqL.of q) ?_ ?_
  ·rintro i x σ H2 hx ⟨as,v,rfl,sm,u,j,ht⟩
   rw[Ag] at hx;cases ex:(wordsOf n)[i]? with
   |none=>rw[ex] at hx;cases hx
   |some y=>
    rw[ex] at hx;obtain rfl:=Al hx;have hi:i<(wordsOf n).length:=(KK.mp ex).1;obtain⟨y5,yc⟩:=g3 y (Ai ex);refine⟨_,rfl,rfl,_,rfl,?_⟩
    by_cases hy:y=""
    ·subst hy
     refine aC ⟨as,_,rfl,sm,u,j,?_⟩;rw[AH ex,Bf,Aj]
     simpa using ht
    ·rw[show(!decide (V.str y=V.str ""))=true from by simp[hy]]
     refine bd ⟨_,rfl,.inl ⟨rfl,_,SqL.of j⟩,_,rfl,y,rfl,fun D2 uC=>zx (Mk y5 yc uC fun H3 bX ag=>⟨D2,_,rfl,.inl ⟨SqL.of ag,fun t bK=>?_⟩⟩)⟩;have l:Same H2 (upd H3 t (.tup ((digits y).map V.int))):=bX.trans (Same.new bK);have aJ:=ht.length;have wp:as.length<=20:=by
      rw[aJ,Ab];exact AA (RF _ _) (by rw[AC];omega)
     refine⟨c,_,_,rfl,rfl,l _ _ j,zT (by rw[Ab];omega),⟨as++[t],_,rfl,(sm.trans l).then g,?_,by rw[ae,Aj];rfl,?_⟩⟩
     ·rw[ah T.symm];exact l _ _ u
     ·rw[AH ex,Bf,Aj,show [y].filter (fun(x:Str)=>!decide (x=""))=[y] by simp[hy]]
      exact Tps.upd (Tps.snoc (l.tps ht) ae) (l _ _ j) (by intro xs z;cases z)
  ·rintro σ H2 ⟨as,v,rfl,sm,u,j,ht⟩
   rw[Ab,take_all] at ht;exact⟨_,rfl,k c as H2 sm g j ht⟩
noncomputable def db(first a:Int)(ps:List Int):List Int:=ps.map fun x=>first+a*x
def GW:Sp:=fun vs H Q _=>∃p l as ad,vs=[.ref p,.ref l]/\zY H p/\H l=some (.lst (as.map V.ref))/\Tps H as ad/\ad.length<=20/\(∀ps∈ad,ps.length<=10)/\
 ∀D bs c first a H',zG p H H'->zY H' p->H D=none->H' D=some (.lst (bs.map V.ref))->Tps H' bs c->0<=first->first<12->1<=a->a<=3->c.Perm (ad.map (db first a))->Q (.ref D) H'
def pc:zp ["box","web","gap","first","found","piece"] ["box","web"] (zi o8):=⟨rfl,rfl,rfl,δ,rfl,δ,δ⟩
def Mm{H2:Hp}{a D:Addr}{ps:List Int}{first c:Int}{Q:VK}(ha:Tp H2 a ps)(hz:ps.length<=10)(h:1<=c/\c<=3)(f:H2 D=none)(k:∀H3,Same H2 H3->H3 D=some (.lst ((db first c ps).map V.int))->Q (.ref D) H3):zV (j9 K a) (zN 0) bT (cp (dR fun i j=>.int (i+j)) (ax 1) (cp (rI CMul fun i j=>.int (i*j)) (ax 2) (ax 0))) [none,some (.int first),some (.int c)] H2 D Q:=by
 refine Ly (xs:=ps.map V.int) (fun j σ ys H3=>∃v,σ=[v,some (.int first),some (.int c)]/\Same H2 H3/\H3 D=some (.lst ys)/\ys=((db first c ps).take j).map V.int) ?_ ?_ ?_ ?_
 ·exact⟨none,rfl,Same.new f,ae,rfl⟩
 ·rintro j σ ys H3 ⟨v,rfl,sm,d,rfl⟩
  exact SqT.of (sm.tp ha)
 ·rintro j σ ys H3 x hx g hy ⟨v,rfl,sm,d,rfl⟩
  obtain⟨q,eq,rfl⟩:=sJ hx;refine b0 ?_;refine⟨_,rfl,_,rfl,_,rfl,_,_,rfl,rfl,.inl ⟨ω,ω⟩,_,_,rfl,rfl,bz (by rw[Ab];exact zh ω) g hy d ⟨_,rfl,sm.then f,ae,?_⟩⟩;have e:(db first c ps)[j]?=some (first+c*q):=by unfold db;rw[Ag,eq];rfl
  rw[AH e,Aj];rfl
 ·rintro σ ys H3 ⟨v,rfl,sm,d,rfl⟩
  rw[As (by unfold db;simp)] at d;exact k H3 sm d
def Mn{f M:Addr}{fd N:FuncData}(F:Fun K "_law_named" "_law_named" o8 f fd)(B:Bt mg)(Ft:Fun K "_law_take" "_law_take" oY M N)(bt:Binds K N ["box","most"] [])(mt:mg "_law_take"=some (.ref M)):FnOk P w K mg base aR 2 f fd ["box","web"] GW:=by
 have O:FnOk P w K mg base aR 1 M N ["box","most"] mU:=C_ Ft;refine F.ok pc (fun vs H Q E h=>?_) (fun ar A outer s H vs Q E hr h=>?_)
 ·obtain⟨p,l,as,ad,rfl,_⟩:=h;rfl
 ·obtain⟨p,l,as,ad,rfl,hb,I,ht,lX,tj,k⟩:=h
  refine⟨_,ze (zt (i:=2) pc.nd rfl (Or.inr rfl) (zy zS zf (fc O hr rfl mt Ft.kp bt .nil ak (zc (pv 0) (zc zf zd)))))
   (ze (zt (i:=3) pc.nd rfl (Or.inr rfl) (fc O hr rfl mt Ft.kp bt .nil ak (zc (pv 0) (zc zf zd))))
   (ze (zt (i:=4) pc.nd rfl (Or.inl rfl) (fy zd))
   (ze (d0 AL rfl (zD (pv 1)) (zk (i:=5) pc.nd rfl (Or.inl rfl))
    (zg (fM (g0 Qt PySem.F.slot_list_insert PySem.F.type_list_insert LH (pv 4)
     (zc (fc O hr rfl mt Ft.kp bt .nil ak (zc (pv 0) (zc (zy zS (zl zo rfl B.len dv (zc (pv 4) zd)) zf) zd)))
     (zc (zu ri rfl B.tuple oW (zc
      (zq ["box","web","gap","first","found","piece"] ["point","first","gap"] [none,some 3,some 2] (EW (pv 5)) (fun S C s₀ H₀ ex=>zk (i:=0) (cz ["point","first","gap"]) rfl (Or.inl rfl)) (fun S C s₀ H₀ ex=>zF)
       (fun S C s₀ H₀ ex=>zy zS (pv 1) (zy ik (pv 2) (pv 0))) (hfr:=cx (zi o8) δ)) zd)) zd))))))
   (zg (zm (pv 4)))))),?_⟩
  refine⟨_,rfl,p,3,rfl,hb,ξ,ξ,fun d H1 a1 a2 fm dD=>⟨_,_,rfl,rfl,?_⟩⟩;refine⟨_,rfl,p,12,rfl,dD,ξ,ξ,fun e H2 c1 c2 eZ T=>⟨zh (by simp),fun D U=>?_⟩⟩;have L:=fm.trans eZ;have y:H D=none:=L.free hb T U;have W:l≠p:=hb.ne I;have aJ:=ht.length;refine⟨_,rfl,l,rfl,⟨_,SqL.of ((L.then y) _ _ W I)⟩,iD (K:=K) (a:=l) (xs:=as.map V.ref) (fun i σ H3=>∃bs c v,σ=[some (.ref p),some (.ref l),some (.int (1+d)),some (.int e),some (.ref D),v]/\zG p H H3/\zY H3 p/\H3 D=some (.lst (bs.map V.ref))/\Tps H3 bs c/\c.Perm ((ad.take i).map (db e (1+d))))
   ⟨[],[],none,rfl,L.then y,T.new U,ae,.nil,List.Perm.nil⟩ (fun i σ H3 _ ⟨_,_,_,_,sb,_⟩=>SqL.of (sb _ _ W I)) ?_ ?_⟩
  ·rintro i x σ H3 hx ⟨bs,c,v,rfl,u,j,g,hq,hp⟩
   obtain⟨a,ea,rfl⟩:=dL hx;obtain⟨ps,J,c_⟩:=ht.get ea;have hi:i<ad.length:=(KK.mp J).1;have o6:=hq.length;have hql:c.length=i:=by rw[hp.length_eq,Ab,AC];omega
   have o:D≠p:=j.ne g;refine⟨_,rfl,.inl ⟨rfl,_,SqL.of g⟩,_,rfl,_,rfl,D,_,rfl,.inl (SqL.of g),_,_,rfl,rfl,p,_,rfl,j,by rw[Ab];omega,by rw[Ab];omega,fun r H4 r0 mo q bC=>?_⟩;rw[Ab] at mo;have X:Tp H4 a ps:=(u.trans q).tp hb c_;refine⟨_,rfl,a,rfl,⟨_,SqT.of X⟩,fun D2 a_=>zx (Mm X (tj ps (Ai J)) ⟨ω,ω⟩ a_ fun H5 cj bb=>⟨D2,_,rfl,.inl ⟨SqL.of bb,fun t bK=>?_⟩⟩)⟩;have G:Same H4 (upd H5 t (.tup ((db e (1+d) ps).map V.int))):=cj.trans (Same.new bK);have ck:=q _ _ o g;have Y:=G _ _ ck;have du:=bC.same G;refine⟨D,_,r,_,rfl,rfl,Y,r0,by rw[Ab];omega,zT (by rw[Ab];omega),⟨bs.take r.toNat++t::bs.drop r.toNat,c.take r.toNat++db e (1+d) ps::c.drop r.toNat,_,rfl,((u.trans q).trans (zG.of G)).then y,du.upd o,?_,?_,?_⟩⟩
   ·rw[ae,Aj,At,S5,RE]
   ·have tq:=G.tps (q.tps j hq)
    exact Tps.upd (Tps.append (tq.take _) (.cons ae (tq.drop _))) Y (by intro xs z;cases z)
   ·rw[AH J,Aj]
    have h1:(c.take r.toNat++db e (1+d) ps::c.drop r.toNat).Perm (db e (1+d) ps::c):=by
     have:=List.perm_middle (a:=db e (1+d) ps) (l₁:=c.take r.toNat) (l₂:=c.drop r.toNat)
     rwa [QS] at this
    exact h1.trans ((List.perm_append_singleton _ _).symm.trans (List.Perm.append_right _ hp))
  ·rintro σ H3 ⟨bs,c,v,rfl,u,j,g,hq,hp⟩
   rw[Ab,aJ,take_all] at hp;exact⟨_,rfl,k D bs c e (1+d) H3 u j y g hq c1 c2 ω ω hp⟩
end
end K64
end
section
namespace K64
open K1
open PySem L2 STb
noncomputable abbrev kW:Stmt:=top 39
noncomputable def iu(seq:List Int):List (Key×V):=(dd seq).map fun n=>((Sum.inl n:Key),V.bl true)
def Mo(seq:List Int):(iu seq).length<=seq.length:=by unfold iu;rw[Ab];exact mO seq
def Mp(seq:List Int)(n:Int):putK (iu seq) (Sum.inl n) (.bl true)=iu (seq++[n]):=by
 unfold putK iu;rw[ss];have ha:(((dd seq).map fun n=>((Sum.inl n:Key),V.bl true)).any fun kv=>decide (kv.1=Sum.inl n))=decide (n∈dd seq):=by
  rw[List.any_map]
  by_cases h:n∈dd seq
  ·rw[Tj h,Rw]
   exact⟨n,h,by simp⟩
  ·rw[Tk h,Si]
   intro q hq;simp only[Function.comp,decide_eq_true_eq,Sum.inl.injEq];rintro rfl;exact h hq
 rw[ha]
 by_cases h:n∈dd seq
 ·rw[Tj h,Th rfl,Th h,Am]
  refine Ax fun q hq=>?_;simp only[Function.comp];split<;>rfl
 ·rw[Tk h,Ti (by simp),Ti h,Aj]
  rfl
def Mq(seq:List Int):((iu seq).map fun kv=>kV kv.1)=(dd seq).map V.int:=by unfold iu;rw[Am];rfl
def Mr{c:List Int}(h1:c.Pairwise (·<=·))(h2:c.Nodup):bg c=true:=by
 rw[C4];intro i a b ha hb;obtain⟨d,f⟩:=KK.mp ha;obtain⟨e,g⟩:=KK.mp hb;have g1:=Qu.mp h1 i (i+1) d e ω;have g2:=Qu.mp h2 i (i+1) d e ω;rw[f,g] at g1 g2;omega
def jQ(ad:Ξ):Prop:=ad.Nodup/\∀ps∈ad,ps≠[]/\ps.length<=4/\bg ps=true/\∀x∈ps,0<=x/\x<=5
def Base(b:Ξ):Prop:=(∃n,n<20/\b=known n)\/(b.length<=5/\jQ b)
def Drawn(c:Ξ):Prop:=∃b first a,Base b/\0<=first/\first<12/\1<=a/\a<=3/\c.Perm (b.map (db first a))
def Ms:∀n,n<20->(known n).length<=20/\∀ps∈known n,ps≠[]/\ps.length<=5:=δ
section
variable{P:Program}{w:World}{K:Ae}{mg:Str->Option Value}{base:Heap}
def GX:Sp:=fun vs H Q _=>∃p,vs=[.ref p]/\zY H p/\∀D bs a H',zG p H H'->zY H' p->H D=none->H' D=some (.lst (bs.map V.ref))->Tps H' bs a->Drawn a->Q (.ref D) H'
def mV:zp ["box","found","k","some","j","piece"] ["box"] (zi kW):=⟨rfl,rfl,rfl,δ,rfl,δ,δ⟩
def Mt{f ft fn fk:Addr}{fd dO nj mZ:FuncData}(F:Fun K "_law_web" "_law_web" kW f fd)(B:Bt mg)(Ft:Fun K "_law_take" "_law_take" oY ft dO)(bt:Binds K dO ["box","most"] [])(mt:mg "_law_take"=some (.ref ft))(Fn:Fun K "_law_named" "_law_named" o8 fn nj)(bn:Binds K nj ["box","web"] [])(mn:mg "_law_named"=some (.ref fn))(Fk:Fun K "_law_known" "_law_known" sN fk mZ)(bk:Binds K mZ ["number"] [])(mk:mg "_law_known"=some (.ref fk)):FnOk P w K mg base aR 3 f fd ["box"] GX:=by
 have Y:FnOk P w K mg base aR 1 ft dO ["box","most"] mU:=C_ Ft;have Gn:FnOk P w K mg base aR 2 fn nj ["box","web"] GW:=Mn Fn B Ft bt mt;have Gk:FnOk P w K mg base aR 1 fk mZ ["number"] GV:=Ml Fk B;refine F.ok mV (fun vs H Q E h=>?_) (fun ar A outer s H vs Q E hr h=>?_)
 ·obtain⟨p,rfl,_⟩:=h;rfl
 ·obtain⟨p,rfl,hb,k⟩:=h
  have hu:=eG hr;have aF:=hr.units;have S:Room 1 _:=hr.mono ξ;refine⟨_,ze (zQ (zn fY (fc Y S rfl mt Ft.kp bt .nil ak (zc (pv 0) (zc zf zd))) zf (al _))
    (zg (zm (fc Gn hr rfl mn Fn.kp bn .nil ak (zc (pv 0) (zc (fc Gk S rfl mk Fk.kp bk .nil ak (zc (fc Y S rfl mt Ft.kp bt .nil ak (zc (pv 0) (zc zf zd))) zd)) zd))))) zr)
   (ze (zt (i:=1) mV.nd rfl (Or.inl rfl) (fy zd))
   (ze (d0 AL rfl (iC rfl B.range (zc (fc Y S rfl mt Ft.kp bt .nil ak (zc (pv 0) (zc zf zd))) zd)) (zk (i:=2) mV.nd rfl (Or.inl rfl))
    (ze (zt (i:=3) mV.nd rfl (Or.inl rfl) Fz)
    (ze (d0 AL rfl (iC rfl B.range (zc (zy zS zf (fc Y S rfl mt Ft.kp bt .nil ak (zc (pv 0) (zc zf zd)))) zd)) (zk (i:=4) mV.nd rfl (Or.inl rfl))
     (zg (hF hu (pv 3) (fc Y S rfl mt Ft.kp bt .nil ak (zc (pv 0) (zc zf zd))) cU rfl)))
    (ze (zt (i:=5) mV.nd rfl (Or.inl rfl) (zu ri rfl B.tuple oW (zc (zl rZ rfl B.sorted mP (zc (zu (LB rfl) rfl B.list fh (zc (pv 3) zd)) zd)) zd)))
    (zg (zQ (zn (Go (in1_units aF)) (pv 5) (pv 1) (by with_unfolding_all rfl)) (zg (fM (g0 Qt QF QG js (pv 1) (zc (pv 5) zd)))) zr))))))
   (zg (zm (fc Gn hr rfl mn Fn.kp bn .nil ak (zc (pv 0) (zc (pv 1) zd))))))),?_⟩
  refine⟨_,rfl,p,2,rfl,hb,ξ,ξ,fun r H1 r0 r1 fm dD=>⟨rfl,_,rfl,?_⟩⟩;refine eH (fun h1=>?_) (fun h1=>?_)
  ·refine⟨_,rfl,_,rfl,p,20,rfl,dD,ξ,ξ,fun n H2 n0 n1 eZ bS=>?_⟩
   obtain⟨m,rfl⟩:=Qz n0;refine⟨m,rfl,ω,fun D as H3 bX bI hD ht=>?_⟩;obtain⟨g1,g2⟩:=Ms m ω;have T:=(fm.trans eZ).trans (zG.of bX);have bw:=bS.same bX;refine⟨p,D,as,known m,rfl,bw,hD,ht,g1,fun ps hp=>by have:=(g2 ps hp).2;omega,fun D' bs aw first aI v C q bP ck M c1 c2 c3 c4 dS=>?_⟩;exact k D' bs aw v (T.trans C) q (T.free hb bw bP) ck M ⟨known m,first,aI,.inl ⟨m,ω,rfl⟩,c1,c2,c3,c4,dS⟩
  ·refine⟨zh (by simp),fun L hL=>?_⟩
   have X:H L=none:=fm.free hb dD hL;refine⟨_,rfl,p,6,rfl,dD.new hL,ξ,ξ,fun r6 H3 a1 a2 T bw=>⟨r6,rfl,ω,ω,?_⟩⟩;have lY:L≠p:=zY.ne (as:=[]) (dD.new hL) ae;have eY:zG p H H3:=(fm.then X).trans T;refine qT (lo:=0) (n:=r6.toNat) (fun i σ v=>∃as ad v2 v3 G v5,σ=[some (.ref p),some (.ref L),v2,v3,G,v5]/\zG p H v/\zY v p/\v L=some (.lst (as.map V.ref))/\Tps v as ad/\jQ ad/\ad.length<=i)
    ⟨[],[],none,none,none,none,rfl,eY,bw,T _ _ lY ae,.nil,⟨QH,fun ps h=>nomatch h⟩,Af _⟩ ?_ ?_
   ·rintro i σ v hi ⟨as,ad,v2,v3,G,v5,rfl,C,q,cQ,M,O,U⟩
    have aJ:=M.length;intro d hd;have si:H d=none:=C.free hb q hd;have xa:L≠d:=zj cQ hd;refine⟨_,rfl,p,4,rfl,q.new hd,ξ,ξ,fun r4 H5 e1 e2 N bZ=>⟨_,_,rfl,rfl,_,rfl,ω,ω,?_⟩⟩;have kP:d≠p:=by
     obtain⟨x,y,e,_⟩:=q.new (o:=.dK []) hd;exact aV ae e (by intro z;cases z)
    have s4:=Same.new (o:=.dK []) hd;refine qT (lo:=0) (n:=(1+r4).toNat) (fun j σ l=>∃seq G,σ=[some (.ref p),some (.ref L),some (.int (0+i)),some (.ref d),G,v5]/\zG p H l/\zY l p/\l L=some (.lst (as.map V.ref))/\Tps l as ad/\l d=some (.dK (iu seq))/\seq.length=j/\∀x∈seq,0<=x/\x<=5)
     ⟨[],_,rfl,(C.then si).trans N,bZ,N _ _ lY (s4 _ _ cQ),N.tps (q.new hd) (s4.tps M),N _ _ kP ae,rfl,fun x h=>nomatch h⟩ ?_ ?_
    ·rintro j σ l hj ⟨seq,G,rfl,cR,du,I,W,kR,kt,oV⟩
     refine⟨_,rfl,_,rfl,p,6,rfl,du,ξ,ξ,fun r H7 f1 f2 u dz=>⟨d,_,rfl,DPut.k (k:=Sum.inl r) (u _ _ kP kR) (zT (by have:=Mo seq;omega)),⟨seq++[r],_,rfl,(cR.trans u).then si,dz.upd kP,?_,?_,by rw[ae,Mp],by rw[Ar,kt];rfl,?_⟩⟩⟩
     ·rw[ah xa];exact u _ _ lY I
     ·exact Tps.upd (u.tps du W) (u _ _ kP kR) (by intro xs z;cases z)
     ·intro x hx
      rcases Qm.mp hx with hx|hx
      ·exact oV x hx
      ·rw[Ql] at hx;subst hx;omega
    ·rintro σ l ⟨seq,G,rfl,cR,du,I,W,kR,kt,oV⟩
     refine⟨_,rfl,d,_,rfl,kR,fun l2 hl2=>⟨l2,dd seq,rfl,SqL.of (by rw[ae,Mq]),(by have:=mO seq;omega),fun D2 c hp hs a_=>⟨D2,_,rfl,.inl ⟨SqL.of ae,fun t bK=>?_⟩⟩⟩⟩;have g:Same l (upd (upd (upd l l2 (.lst ((iu seq).map fun kv=>kV kv.1))) D2 (.lst (c.map V.int))) t (.tup (c.map V.int))):=((Same.new hl2).trans (Same.new a_)).trans (Same.new bK);generalize hH7:upd (upd (upd l l2 (.lst ((iu seq).map fun kv=>kV kv.1))) D2 (.lst (c.map V.int))) t (.tup (c.map V.int))=H7 at g;have rM:Tp H7 t c:=by rw[<-hH7];exact ae
     have u:=cR.trans (zG.of g);have dz:=du.same g;refine⟨_,rfl,_,rfl,t,L,c,as,ad,rfl,rfl,rM,SqL.of (g _ _ I),g.tps W,_,rfl,?_⟩;have fu:c≠[]/\c.length<=4/\bg c=true/\∀x∈c,0<=x/\x<=5:=by
      refine⟨fun z=>?_,?_,Mr hs (hp.nodup_iff.mpr (su seq)),fun x hx=>oV x ((iV seq x).mp (hp.mem_iff.mp hx))⟩
      ·have h0:dd seq=[]:=by rw[z] at hp;exact(List.nil_perm.mp hp)
       cases hq:seq with
       |nil=>rw[hq] at kt;simp at kt;omega
       |cons x r=>
        have:=(iV seq x).mpr (by rw[hq];exact Ay);rw[h0] at this;cases this
      ·have:=mO seq
       rw[hp.length_eq];omega
     by_cases J:c∈ad
     ·rw[Tj J]
      exact aC ⟨as,ad,_,_,_,_,rfl,u,dz,g _ _ I,g.tps W,O,ω⟩
     ·rw[Tk J]
      refine bd ⟨_,rfl,.inl ⟨rfl,_,SqL.of (g _ _ I)⟩,_,rfl,L,_,_,rfl,rfl,g _ _ I,zT (by rw[Ab];omega),⟨as++[t],ad++[c],_,_,_,_,rfl,u.then X,dz.upd lY,by rw[ae,Aj];rfl,Tps.upd (Tps.snoc (g.tps W) rM) (g _ _ I) (by intro xs z;cases z),⟨?_,?_⟩,by rw[Ar];simp;omega⟩⟩
      ·rw[Bj]
       refine⟨O.1,by simp,fun a ha b hb' e=>?_⟩;rw[Ql] at hb';subst hb';subst e;exact J ha
      ·intro ps c_
       rcases Qm.mp c_ with h|h
       ·exact O.2 ps h
       ·rw[Ql] at h;subst h;exact fu
   ·rintro σ v ⟨as,ad,v2,v3,G,v5,rfl,C,q,cQ,M,O,U⟩
    refine⟨_,rfl,_,rfl,p,L,as,ad,rfl,q,cQ,M,ω,fun ps hp=>by have:=(O.2 ps hp).2.1;omega,fun D' bs aw first aI H5 N bZ bP bb gr c1 c2 c3 c4 dS=>?_⟩;exact k D' bs aw H5 (C.trans N) bZ (C.free hb q bP) bb gr ⟨ad,first,aI,.inr ⟨ω,O⟩,c1,c2,c3,c4,dS⟩
end
end K64
end
section
namespace K1
open PySem L2 STb
def GY:∀a b:List Int,HT.lexLt a b=true->HT.lexLt b a=false
 |[],[],h=>rfl
 |[],_::_,h=>rfl
 |_::_,[],h=>by rw[HT.Fc] at h;exact absurd h An
 |x::xs,y::ys,h=>by
  rw[HT.zM] at h ⊢
  by_cases e:x=y
  ·rw[Th e] at h;rw[Th e.symm];exact GY xs ys h
  ·rw[Ti e] at h;rw[Ti (fun z=>e z.symm)]
   have:=Tl h;exact Tk ω
def GZ:∀a b:List Int,HT.lexLt a b=false->HT.lexLt b a=false->a=b
 |[],[],_,_=>rfl
 |[],_::_,h,_=>by rw[HT.n4] at h;exact absurd h ξ
 |_::_,[],_,h=>by rw[HT.n4] at h;exact absurd h ξ
 |x::xs,y::ys,h,h'=>by
  rw[HT.zM] at h h'
  by_cases e:x=y
  ·rw[Th e] at h;rw[Th e.symm] at h'
   rw[e,GZ xs ys h h']
  ·rw[Ti e] at h;rw[Ti (fun z=>e z.symm)] at h'
   have:=of_decide_eq_false h;have:=of_decide_eq_false h';omega
def mm:∀a b c:List Int,HT.lexLt b a=false->HT.lexLt c b=false->HT.lexLt c a=false
 |[],b,c,_,_=>by cases c with
  |nil=>rfl
  |cons _ _=>rfl
 |_::_,[],c,h,_=>by rw[HT.n4] at h;exact absurd h ξ
 |_::_,_::_,[],_,h=>by rw[HT.n4] at h;exact absurd h ξ
 |x::xs,y::ys,z::zs,h,h'=>by
  rw[HT.zM] at h h' ⊢
  by_cases e:y=x
  ·rw[Th e] at h
   by_cases e2:z=y
   ·rw[Th e2] at h';rw[Th (e2.trans e)];exact mm xs ys zs h h'
   ·rw[Ti e2] at h';rw[Ti ω]
    have:=of_decide_eq_false h';exact Tk ω
  ·rw[Ti e] at h
   have h1:=of_decide_eq_false h
   by_cases e2:z=y
   ·rw[Ti ω]
    exact Tk ω
   ·rw[Ti e2] at h'
    have h2:=of_decide_eq_false h';rw[Ti ω];exact Tk ω
noncomputable def key(p:List Int):List Int:=(p.length:Int)::p
noncomputable def kle(a b:List Int):Bool:=!HT.lexLt (key b) (key a)
def mW{a b:List Int}:kle a b=true↔HT.lexLt (key b) (key a)=false:=by unfold kle;simp
noncomputable def canon(ad:Ξ):Ξ:=(dd (ad.flatMap parts)).mergeSort kle
def sT(ad:Ξ):(canon ad).Perm (dd (ad.flatMap parts)):=List.mergeSort_perm _ _
def Da(ad:Ξ):(canon ad).Pairwise (fun a b=>kle a b=true):=by
 refine List.pairwise_mergeSort (fun a b c h1 h2=>?_) (fun a b=>?_) _
 ·rw[mW] at h1 h2 ⊢;exact mm _ _ _ h1 h2
 ·rw[Bool.or_eq_true,mW,mW]
  cases h:HT.lexLt (key b) (key a) with
  |false=>exact .inl rfl
  |true=>exact .inr (GY _ _ h)
def sU{ad:Ξ}{x:List Int}:x∈canon ad↔x∈ad.flatMap parts:=by rw[(sT ad).mem_iff,iV]
def sY(ad:Ξ):(canon ad).Nodup:=(sT ad).nodup_iff.mpr (su _)
def Db(ad:Ξ):(canon ad).length=(dd (ad.flatMap parts)).length:=(sT ad).length_eq
def Mu{l m:Ξ}(hp:l.Perm m)(h1:l.Pairwise (fun a b=>kle a b=true))(h2:m.Pairwise (fun a b=>kle a b=true)):l=m:=by
 refine List.Perm.eq_of_pairwise (fun a b _ _ g1 g2=>?_) h1 h2 hp;rw[mW] at g1 g2;have:=GZ _ _ g2 g1;unfold key at this;exact(List.cons.inj this).2
def canon_of{ad l:Ξ}(hp:l.Perm (dd (ad.flatMap parts)))(c:l.Pairwise (fun a b=>HT.lexLt ((b.length:Int)::b) ((a.length:Int)::a)=false)):l=canon ad:=
 Mu (hp.trans (sT ad).symm) (c.imp fun h=>mW.mpr h) (Da ad)
def ti:∀(n:Nat)(p q:List Int),p.length=n->(q∈subs p↔q.Sublist p)
 |0,p,q,h=>by
  obtain rfl:=Rb h;show q∈[[]]↔_;simp
 |n+1,p,q,h=>by
  obtain⟨r,x,rfl⟩:∃r x,p=r++[x]:=by
   rcases List.eq_nil_or_concat p with e|⟨r,x,e⟩
   ·rw[e] at h;cases h
   ·exact⟨r,x,by rw[e,List.concat_eq_append]⟩
  have hr:r.length=n:=by simpa using h
  rw[GF,Qm,ti n r q hr,Qj,List.sublist_append_iff];constructor
  ·rintro(h1|⟨y,hy,rfl⟩)
   ·exact⟨q,[],by simp,h1,List.nil_sublist _⟩
   ·exact⟨y,[x],rfl,(ti n r y hr).mp hy,List.Sublist.refl _⟩
  ·rintro⟨a,f,rfl,c,d⟩
   cases d with
   |cons _ h=>
    obtain rfl:=List.sublist_nil.mp h;exact .inl (by simpa using c)
   |cons_cons _ h=>
    obtain rfl:=List.sublist_nil.mp h;exact .inr ⟨a,(ti n r a hr).mpr c,rfl⟩
def iv{p q:List Int}:q∈parts p↔q≠[]/\q.Sublist p:=by
 obtain⟨t,e,ht⟩:=GG p;have a:=ti p.length p q rfl;rw[e] at a;unfold parts;rw[e];show q∈t↔_;constructor
 ·intro h
  exact⟨ht q h,a.mp (Aw _ h)⟩
 ·rintro⟨h1,h2⟩
  rcases Qk.mp (a.mpr h2) with h|h
  ·exact absurd h h1
  ·exact h
def pd:∀p:List Int,bg p=true↔p.Pairwise (·<·)
 |[]=>by simp[bg]
 |[a]=>by simp[bg]
 |a::b::r=>by
  have c:=pd (b::r);rw[show bg (a::b::r)=(decide (a<b)&&bg (b::r)) from rfl,AM,decide_eq_true_eq,c,Q9 (a:=a)];constructor
  ·rintro⟨h1,h2⟩
   refine⟨fun x hx=>?_,h2⟩;rcases Qk.mp hx with rfl|hx
   ·exact h1
   ·have:=(Q9.mp h2).1 x hx
    omega
  ·rintro⟨h1,h2⟩
   exact⟨h1 b Ay,h2⟩
def zW{p:List Int}:dE p=true↔p≠[]/\p.length<=5/\(∀x∈p,0<=x/\x<=99)/\p.Pairwise (·<·):=by
 unfold dE;simp only[AM,decide_eq_true_eq,Qs,pd];constructor
 ·rintro⟨⟨⟨h1,h2⟩,a⟩,c⟩
  exact⟨fun z=>by rw[z] at h1;simp at h1,h2,a,c⟩
 ·rintro⟨h1,h2,a,c⟩
  refine⟨⟨⟨?_,h2⟩,a⟩,c⟩;cases p with
  |nil=>exact absurd rfl h1
  |cons _ _=>simp
def G0{p q:List Int}(h:dE p=true)(hq:q∈parts p):dE q=true:=by
 rw[zW] at h ⊢;rw[iv] at hq;exact⟨hq.1,AA hq.2.length_le h.2.1,fun x hx=>h.2.2.1 x (hq.2.subset hx),h.2.2.2.sublist hq.2⟩
def Mv{ad:Ξ}(h:ad.Nodup)(hp:∀p∈ad,dE p=true):GK ad ad.length:=by
 intro i p hi e;refine⟨fun hm=>?_,hp p (Ai e)⟩;obtain⟨j,c⟩:=Qn.mp hm;obtain⟨d,a⟩:=KK.mp c;rw[AC] at d;obtain⟨f,g⟩:=KK.mp e;have:=Qu.mp h j i ω f ω;rw[List.getElem_take] at a;exact this (a.trans g.symm)
def Mw{ad:Ξ}(a:ad.length<=20)(c:ad.Nodup)(hp:∀p∈ad,dE p=true)(h:(dd (ad.flatMap parts)).length<=200):eg ad=true:=by
 rw[LY ad a (Mv c hp),Tj h]
def Dc{ad:Ξ}(h:eg ad=true):ad.length<=20/\(∀p∈ad,dE p=true)/\(∀p∈ad,p.length<=5)/\(dd (ad.flatMap parts)).length<=200:=by
 unfold eg at h;simp only[AM,decide_eq_true_eq,Qs] at h;obtain⟨⟨⟨h1,h2⟩,d⟩,c⟩:=h;have a:∀p∈ad,dE p=true:=fun p hp=>by rw[<-sG];exact h2 p hp
 exact⟨h1,a,fun p hp=>(zW.mp (a p hp)).2.1,c⟩
noncomputable def over(o p:List Int):Bool:=decide (p.length<o.length)&&p.all fun x=>decide (x∈o)
end K1
end
section
namespace K64
open K1
open PySem L2 STb
def Mx(b:Ξ):Prop:=b.Nodup/\b.length<=17/\(∀ps∈b,ps≠[]/\ps.length<=5/\bg ps=true/\∀x∈ps,0<=x/\x<=7)/\(b.flatMap parts).length<=200
def Mz:∀n,n<20->(known n).Nodup/\(known n).length<=17/\(∀ps∈known n,ps≠[]/\ps.length<=5/\bg ps=true/\∀x∈ps,0<=x/\x<=7)/\((known n).flatMap parts).length<=200:=δ
def G1{m:Nat}:∀{b:Ξ},(∀ps∈b,(parts ps).length<=m)->(b.flatMap parts).length<=m*b.length
 |[],_=>by simp
 |p::r,h=>by
  have h1:=h p Ay;have h2:=G1 (b:=r) fun q hq=>h q (Aw _ hq);rw[Bk,Ar,AB,Nat.mul_succ];omega
def G2{b:Ξ}(h:Base b):Mx b:=by
 rcases h with ⟨n,c,rfl⟩|⟨f,a⟩
 ·exact Mz n c
 ·refine⟨a.1,ω,fun ps hp=>?_,?_⟩
  ·obtain⟨h1,h2,d,e⟩:=a.2 ps hp
   exact⟨h1,ω,d,fun x hx=>by have:=e x hx;omega⟩
  ·have:=G1 (m:=15) (b:=b) fun ps hp=>by
    rw[oT];have h2:=(a.2 ps hp).2.1;have:2 ^ ps.length<=2 ^ 4:=Nat.pow_le_pow_right ξ h2;omega
   omega
def MA{first a:Int}(c:1<=a){p q:List Int}(h:db first a p=db first a q):p=q:=by
 unfold db at h;refine(RC (f:=fun x=>first+a*x) (fun x y e=>?_)).mp h;have:a*x=a*y:=ω
 exact Int.eq_of_mul_eq_mul_left ω this
def MC{first f:Int}(i:0<=first)(h1:first<12)(j:1<=f)(l:f<=3){p:List Int}(h:p≠[]/\p.length<=5/\bg p=true/\∀x∈p,0<=x/\x<=7):dE (db first f p)=true:=by
 obtain⟨a,b,c,d⟩:=h;rw[zW];unfold db;refine⟨fun z=>a (List.map_eq_nil_iff.mp z),by rw[Ab];exact b,fun y hy=>?_,?_⟩
 ·obtain⟨x,hx,rfl⟩:=Qj.mp hy
  have:=d x hx;have g:f=1\/f=2\/f=3:=ω
  rcases g with rfl|rfl|rfl<;>omega
 ·rw[pd] at c
  rw[AX];refine c.imp fun{x y} e=>?_;have:f*x<f*y:=Int.mul_lt_mul_of_pos_left e ω;omega
def MD{q:Ξ}(h:Drawn q):eg q=true/\q.Nodup/\q.length<=17:=by
 obtain⟨b,first,d,hb,f,h1,a,g,hp⟩:=h;obtain⟨n1,n2,i,j⟩:=G2 hb;have l:q.length<=17:=by rw[hp.length_eq,Ab];exact n2
 have c:q.Nodup:=by
  rw[hp.nodup_iff];unfold List.Nodup at n1 ⊢;rw[AX];exact n1.imp fun{x y} e z=>e (MA a z)
 refine⟨Mw ω c (fun p hm=>?_) ?_,c,l⟩
 ·obtain⟨r,hr,rfl⟩:=Qj.mp (hp.mem_iff.mp hm)
  exact MC f h1 a g (i r hr)
 ·refine AA (mO _) ?_
  rw[(hp.flatMap_right parts).length_eq];have:∀b:Ξ,((b.map (db first d)).flatMap parts).length=(b.flatMap parts).length:=by
   intro b
   induction b with
   |nil=>rfl
   |cons p r ih=>
    rw[At,Bk,Bk,Ar,Ar,ih,oT,oT];unfold db;rw[Ab]
  rw[this];exact j
end K64
end
section
namespace K1
open PySem L2 STb
noncomputable def rims(q:List Int):Ξ:=if q.length=1 then [] else(AD q.length).map fun k=>q.take k++q.drop (k+1)
def k4(q:List Int):(rims q).length<=q.length:=by
 unfold rims;split
 ·exact A6 _
 ·simp
def tm{p q:List Int}:p∈rims q↔q.length≠1/\∃k,k<q.length/\p=q.take k++q.drop (k+1):=by
 unfold rims;split
 next h=>simp[h]
 next h=>
  rw[Qj];constructor
  ·rintro⟨k,hk,rfl⟩
   exact⟨h,k,Qv.mp hk,rfl⟩
  ·rintro⟨_,k,hk,rfl⟩
   exact⟨k,Qv.mpr hk,rfl⟩
def Dd:∀(o p:List Int),o.Pairwise (·<·)->p.Pairwise (·<·)->(∀x∈p,x∈o)->p.Sublist o
 |[],p,_,_,h=>by
  cases p with
  |nil=>exact List.Sublist.slnil
  |cons a r=>exact absurd (h a Ay) (by simp)
 |b::o,p,ho,hp,h=>by
  obtain⟨f,c⟩:=Q9.mp ho;cases p with
  |nil=>exact List.nil_sublist _
  |cons a r=>
   obtain⟨d,g⟩:=Q9.mp hp
   by_cases e:a=b
   ·subst e
    refine(Dd o r c g fun x hx=>?_).cons_cons a;rcases Qk.mp (h x (Aw _ hx)) with rfl|q
    ·have:=d x hx;omega
    ·exact q
   ·have ha:a∈o:=by
     rcases Qk.mp (h a Ay) with q|q
     ·exact absurd q e
     ·exact q
    have i:=f a ha;refine(Dd o (a::r) c hp fun x hx=>?_).cons b;rcases Qk.mp (h x hx) with q|q
    ·exfalso
     rcases Qk.mp hx with z|z
     ·omega
     ·have:=d x z;omega
    ·exact q
def De{p q:List Int}{k:Nat}(hk:k<q.length)(h:p=q.take k++q.drop (k+1)):p.Sublist q/\p.length<q.length:=by
 subst h;refine⟨?_,?_⟩
 ·have h1:(q.take k++q.drop (k+1)).Sublist (q.take k++q.drop k):=(List.Sublist.refl _).append (by
   rw[show q.drop (k+1)=(q.drop k).drop 1 by rw[List.drop_drop]];exact List.drop_sublist _ _)
  rwa [QS] at h1
 ·rw[Ar,AC,QE]
  omega
end K1
end
section
namespace K64
open K1
open PySem L2 STb
def ME:∀n,n<20->(dd ((known n).flatMap parts)).length<=56:=δ
noncomputable def six:Ξ:=(parts [0,1,2,3,4,5]).filter fun q=>decide (q.length<=4)
def MF:six.length=56:=δ
def MG{b:Ξ}(h:Base b):(dd (b.flatMap parts)).length<=56:=by
 rcases h with ⟨n,a,rfl⟩|⟨d,c⟩
 ·exact ME n a
 ·rw[<-MF]
  refine(su _).length_le_of_subset fun x hx=>?_;rw[iV,Qo] at hx;obtain⟨p,hp,hx⟩:=hx;obtain⟨_,e,hr,hb⟩:=c.2 p hp;rw[iv] at hx;have f:=hx.2.length_le;unfold six;rw[Qx,iv];refine⟨⟨hx.1,hx.2.trans (Dd _ _ ξ ((pd p).mp hr) fun y hy=>?_)⟩,Tj ω⟩;have:=hb y hy;have:y=0\/y=1\/y=2\/y=3\/y=4\/y=5:=ω
  rcases this with rfl|rfl|rfl|rfl|rfl|rfl<;>decide
def G3{q:Ξ}(h:Drawn q):(dd (q.flatMap parts)).length<=56:=by
 obtain⟨b,first,d,hb,_,_,_,_,hp⟩:=h;refine AA ?_ (MG hb);have e:((dd (b.flatMap parts)).map (db first d)).length=(dd (b.flatMap parts)).length:=Ab _;rw[<-e];refine(su _).length_le_of_subset fun x hx=>?_;rw[iV,Qo] at hx;obtain⟨p,hm,hx⟩:=hx;obtain⟨r,hr,rfl⟩:=Qj.mp (hp.mem_iff.mp hm);rw[iv] at hx;obtain⟨a,c⟩:=hx;unfold db at c;obtain⟨y,hy,rfl⟩:=SC.mp c;refine Qj.mpr ⟨y,?_,rfl⟩;rw[iV,Qo];exact⟨r,hr,iv.mpr ⟨fun z=>a (by rw[z];rfl),hy⟩⟩
end K64
end
section
namespace K64
open K1
open PySem L2 STb
def G4{H:Hp}:∀{a:List (List Int×Addr)},(∀q∈a,Tp H q.2 q.1)->Tps H (a.map (·.2)) (a.map (·.1))
 |[],_=>.nil
 |q::r,h=>.cons (h q Ay) (G4 fun x hx=>h x (Aw _ hx))
def G5{H H2:Hp}{ad:Ξ}{D:Addr}{a:List (List Int×Addr)}(t:Told H H2 ad D a):∃bs,Same H H2/\H D=none/\H2 D=some (.lst (bs.map V.ref))/\Tps H2 bs (canon ad):=by
 obtain⟨sm,c,d,hq,hp,f⟩:=t;have e:a.map (·.1)=canon ad:=canon_of hp (List.pairwise_map.mpr f);refine⟨a.map (·.2),sm,c,by rw[d,Am];rfl,?_⟩;rw[<-e];exact G4 hq
end K64
end
section
namespace K64
open K1
open PySem L2 STb
noncomputable abbrev pe:Stmt:=top 8
def pi(xs:List V)(i:Nat)(h:i<=xs.length):cF xs none (some (i:Int))=xs.take i:=by
 unfold cF;rw[HT.Bv,HT.qX,SG h,List.drop_zero,Nat.sub_zero]
def k5(xs:List V)(i:Nat)(h:i<=xs.length):cF xs (some (i:Int)) none=xs.drop i:=by
 unfold cF;rw[HT.Bv,HT.qX,SG h];exact As (by rw[QE];exact Af _)
abbrev i4:TE:=cp CY (ma kK (ax 1) l5 (l7 (ax 0))) (ma kK (ax 1) (l7 (cp (dR fun i j=>.int (i+j)) (ax 0) (tC (.int 1)))) l5)
section
variable{P:Program}{w:World}{K:Ae}{mg:Str->Option Value}{base:Heap}
def MJ{H2:Hp}{a D:Addr}{ps:List Int}{Q:VK}(ha:Tp H2 a ps)(hz:ps.length<=5)(p:H2 D=none)(k:∀(H3:Hp)(bs:List Addr),Same H2 H3->H3 D=some (.lst (bs.map V.ref))->Tps H3 bs ((AD ps.length).map fun k=>ps.take k++ps.drop (k+1))->Q (.ref D) H3):zV (gk 0 ps.length) (zN 0) bT i4 [none,some (.ref a)] H2 D Q:=by
 refine oR (fun j σ ys H3=>∃(v:Option V)(bs:List Addr),σ=[v,some (.ref a)]/\Same H2 H3/\H3 D=some (.lst ys)/\ys=bs.map V.ref/\Tps H3 bs (((AD ps.length).map fun k=>ps.take k++ps.drop (k+1)).take j)) ?_ ?_ ?_
 ·exact⟨none,[],rfl,Same.new p,ae,rfl,.nil⟩
 ·rintro j σ ys H3 o hy ⟨v,bs,rfl,sm,c,rfl,hb⟩
  have e:((AD ps.length).map fun k=>ps.take k++ps.drop (k+1))[j]?=some (ps.take j++ps.drop (j+1)):=by rw[Ag,Rg o];rfl
  refine b0 ?_;refine⟨_,rfl,_,rfl,_,rfl,a,_,rfl,sm.tp ha,fun q w f g=>⟨_,rfl,_,rfl,_,_,rfl,rfl,_,rfl,a,_,rfl,f _ _ (sm.tp ha),fun p2 x h i=>?_⟩⟩;rw[show(0:Int)+((j:Nat):Int)=((j:Nat):Int) from ω,pi _ _ (by rw[Ab];omega),<-S5] at g;rw[show(0:Int)+((j:Nat):Int)+1=((j+1:Nat):Int) from ω,k5 _ _ (by rw[Ab];omega),<-RE] at i;refine⟨q,p2,_,_,rfl,rfl,h _ _ g,i,zh (by simp;omega),fun r y u l=>?_⟩;rw[<-Aj] at l;have d:=(f.trans h).trans u;refine bz (zh ω) o hy (d _ _ c) ⟨_,bs++[r],rfl,(sm.trans d).then p,ae,by rw[Aj];rfl,?_⟩;rw[AH e];exact Tps.upd (Tps.snoc (d.tps hb) l) (d _ _ c) (by intro xs z;cases z)
 ·rintro σ ys H3 ⟨v,bs,rfl,sm,c,rfl,hb⟩
  rw[As (by simp)] at hb;exact k H3 bs sm c hb
def k7:Sp:=fun vs H Q _=>∃a ps,vs=[.ref a]/\Tp H a ps/\ps.length<=5/\∀D H2(bs:List Addr),Same H H2->H D=none->H2 D=some (.lst (bs.map V.ref))->Tps H2 bs (rims ps)->Q (.ref D) H2
def MK:zp ["piece"] ["piece"] (zi pe):=⟨rfl,rfl,rfl,δ,rfl,δ,δ⟩
def G6{f:Addr}{fd:FuncData}(F:Fun K "rims_of" "rims_of" pe f fd)(B:Bt mg):FnOk P w K mg base aR 1 f fd ["piece"] k7:=by
 refine F.ok MK (fun vs H Q E h=>?_) (fun j A outer s H vs Q E hr h=>?_)
 ·obtain⟨a,ps,rfl,_⟩:=h;rfl
 ·obtain⟨a,ps,rfl,ha,g,k⟩:=h
  refine⟨_,ze (zQ (zn fY (zl zo rfl B.len dv (zc (pv 0) zd)) zf (al _)) (zg (zm (fy zd))) zr)
   (zg (zm (zq ["piece"] ["k","piece"] [none,some 0] (iC rfl B.range (zc (zl zo rfl B.len dv (zc (pv 0) zd)) zd)) (fun d C s₀ H₀ ex=>zk (i:=0) (cz ["k","piece"]) rfl (Or.inl rfl)) (fun d C s₀ H₀ ex=>zF)
    (fun d C s₀ H₀ ex=>zy CZ (iN sI (pv 1) iJ (iK (pv 0))) (iN sI (pv 1) (iK (zy zS (pv 0) zf)) iJ)) (hfr:=cx (zi pe) δ) (te:=i4)))),?_⟩
  refine⟨_,rfl,a,_,rfl,.inr (SqT.of ha),rfl,_,rfl,?_⟩;rw[Ab]
  by_cases h1:ps.length=1
  ·rw[show decide (V.int (ps.length:Int)=V.int 1)=true from Tj (by rw[h1];rfl)]
   refine bd ⟨zh (by simp),fun D c=>k D _ [] (Same.new c) c ae ?_⟩;unfold rims;rw[Th h1];exact .nil
  ·rw[show decide (V.int (ps.length:Int)=V.int 1)=false from Tk fun z=>h1 (by injection z with z;omega)]
   refine aC ⟨_,rfl,a,_,rfl,.inr (SqT.of ha),_,rfl,by rw[Ab];omega,by rw[Ab];omega,fun D c=>?_⟩;rw[Ab];refine zx (MJ ha g c fun H3 bs sm e hb=>k D H3 bs sm c e ?_);unfold rims;rw[Ti h1];exact hb
def G7(seq:Ξ)(p:List Int):(b' (fP seq) (p.map Sum.inl)).isSome=decide (p∈seq):=by
 rw[<-BY,Rp,Rw,decide_eq_true_eq];unfold fP;constructor
 ·rintro⟨kv,hm,e⟩
  obtain⟨q,hq,rfl⟩:=Qj.mp hm;have e':=Tl e;have:q=p:=(RC (f:=(Sum.inl:Int->Key)) (fun x y h=>Sum.inl.inj h)).mp e';rw[<-this];exact(iV seq q).mp hq
 ·intro h
  exact⟨_,Qj.mpr ⟨p,(iV seq p).mpr h,rfl⟩,by simp⟩
end
end K64
end
section
namespace L2
open PySem PySem.Spec PyProof.Rows
section
variable{X:Cx}
noncomputable def pj(v d:Addr):HO:=.ext fun h=>h.IsValuesView v d
end
end L2
end
section
namespace Dk
open PySem PySem.Spec PyProof.Rows
section
variable{prog:Program}{w:World}{A:Around}{E:Ω}{s:Shared}{it d v:Addr}{i ep:Nat}{es:Array DictEntry}
def pk{Q:Ω}(a:s.heap.IsValuesView v d)(hm:IsD s.heap d es ep)(i:Q (.ref s⁻¹) {s with heap:=s.heap.push {cls:=.type "dict_valueiterator",data:=.fields #[.ref d,.int 0 0,.int es.size 0,.int ep 0]}}):wpAny (model prog w) A (pyIter (.ref v)) Q E s:=by
 obtain⟨j,f,l,g⟩:=id a;obtain⟨o,c,hc,e⟩:=id hm;refine wpAny_pyIter_slot a.typeIs SD (AK SD a.typeIs PySem.F.entry_dict_values_iter ?_ (PySem.F.args_dict_values_iter_1 _));unfold Builtin.«dict_values.__iter__»;refine Aa (Ac ?_);refine Aa ?_;unfold Builtin.Dict_items.dictOf;refine Aa (Ba f g (x:=.ref d) rfl (Ac ?_));refine Aa ?_;unfold Builtin.Dict_items.newIterator;refine Aa (AJ c e ?_);refine Aa (wpAny_dictEpoch c e ?_);have h:Builtin.Dict_items.ownsTuple "dict_valueiterator"=false:=ξ
 simp only[h,Av,if_false];refine AI (Ac ⟨_,rfl,"dict_valueiterator",_,⟨_,Ak _ rfl,rfl⟩,PySem.F.slot_dict_valueiterator_next.lookup,?_⟩)
 simpa[rawInt] using i
def pl{Q:Option Value->Shared->Prop}(a:s.heap.IsValIter it d i es.size ep)(hm:IsD s.heap d es ep)(hx:i<es.size)(h:∀h',h'.IsValIter it d (i+1) es.size ep->Heap.SameBut it s.heap h'->Q (some es[i].val) {s with heap:=h'}):wpAny (model prog w) A (pyNext (.ref it)) Q E s:=by
 obtain⟨o,c,hc,hd⟩:=id a;obtain⟨j,f,l,hdd⟩:=id hm;unfold pyNext;refine Aa (wpAny_attempt (AN (name:=Bg "__next__") a.typeIs QO
  (AK QO a.typeIs RY ?_ (RR _))))
 refine Aa (Ac ?_);refine Aa ?_;refine Aa ?_
 first|refine Aa (wpAny_typeNameOfWhole_valiter a.typeIs (Ac ?_))|refine Aa (wpAny_typeNameOf_valiter a.typeIs (Ac ?_))
 refine Aa (wpAny_fieldsOf c hd ?_);have g:Builtin.Dict_items.ownsTuple "dict_valueiterator"=false:=ξ
 simp only[g,Av,if_false];show wpAny _ _ (if(Value.ref d==Value.none)=true then _ else _) _ _ s;rw[Ti (show ¬((Value.ref d==Value.none)=true) from An)];refine Aa (Ac ?_);refine Aa (AJ f hdd ?_);rw[Ti (by simp)];refine Aa (Ac ?_);refine Aa (wpAny_dictEpoch f hdd ?_);rw[Ti (by simp)];refine Ac ?_;simp only[show ¬((i:Int)<0) from ω,if_false,QB,QN hx];refine Aa ?_
 first|refine Aa (wpAny_typeNameOfWhole_valiter a.typeIs (Ac ?_))|refine Aa (wpAny_typeNameOf_valiter a.typeIs (Ac ?_))
 refine Aa (wpAny_isOneOf_valiter a.typeIs ?_);show wpAny _ _ (setField (.ref it) 1 (rawInt ((i:Int)+1)) >>= _) _ _ s;refine Aa (wpAny_setField c hd (by simp) ?_);have e:(s.heap.update it (Obj.mapFields (·.setIfInBounds 1 (rawInt ((i:Int)+1))))).IsValIter it d (i+1) es.size ep:=
  ⟨_,Heap.get?_update_self _ c (Obj.isFreed_of_fields (Obj.data_mapFields hd _)),(Obj.cls_mapFields ..).trans hc,by rw[Obj.data_mapFields hd];simp[rawInt]⟩
 refine Aa (AU ?_);refine Aa (wpAny_isOneOf_valiter (s:={s with heap:=s.heap.update it (Obj.mapFields (·.setIfInBounds 1 (rawInt ((i:Int)+1))))}) e.typeIs ?_);refine Aa (wpAny_isOneOf_valiter (s:={s with heap:=s.heap.update it (Obj.mapFields (·.setIfInBounds 1 (rawInt ((i:Int)+1))))}) e.typeIs ?_);show wpAny _ _ (pure es[i].val) _ _ _;exact Ac (Ac ⟨_,rfl,Ac (h _ e (AO ..))⟩)
def pF{Q:Option Value->Shared->Prop}(h:A.handled=none)(c:s.heap.IsValIter it d es.size es.size ep)(hm:IsD s.heap d es ep)(i:∀h',Heap.ExtBut it s.heap h'->Q none {s with heap:=h'}):wpAny (model prog w) A (pyNext (.ref it)) Q E s:=by
 obtain⟨o,e,hc,hd⟩:=id c;obtain⟨j,f,l,hdd⟩:=id hm;unfold pyNext;refine Aa (wpAny_attempt (AN (name:=Bg "__next__") c.typeIs QO
  (AK QO c.typeIs RY ?_ (RR _))))
 refine Aa (Ac ?_);refine Aa ?_;refine Aa ?_
 first|refine Aa (wpAny_typeNameOfWhole_valiter c.typeIs (Ac ?_))|refine Aa (wpAny_typeNameOf_valiter c.typeIs (Ac ?_))
 refine Aa (wpAny_fieldsOf e hd ?_);have g:Builtin.Dict_items.ownsTuple "dict_valueiterator"=false:=ξ
 simp only[g,Av,if_false];show wpAny _ _ (if(Value.ref d==Value.none)=true then _ else _) _ _ s;rw[Ti (show ¬((Value.ref d==Value.none)=true) from An)];refine Aa (Ac ?_);refine Aa (AJ f hdd ?_);rw[Ti (by simp)];refine Aa (Ac ?_);refine Aa (wpAny_dictEpoch f hdd ?_);rw[Ti (by simp)];refine Ac ?_;simp only[show ¬((es.size:Int)<0) from ω,if_false,QB,Su (Af es.size)];refine Aa ?_
 first|refine Aa (wpAny_typeNameOfWhole_valiter c.typeIs (Ac ?_))|refine Aa (wpAny_typeNameOf_valiter c.typeIs (Ac ?_))
 show wpAny _ _ (setField (.ref it) 0 .none >>= _) _ _ s;refine Aa (wpAny_setField e hd (by simp) ?_);show wpAny _ _ (newExc (.type "StopIteration") [] >>= _) _ _ _;refine Aa ?_;simp only[newExc,newTuple];refine Aa (AI ?_ (by size_fits));refine Aa (m:=firstArgMember _ _) (wpAny_of_eq (a:=Value.none) (by first|rfl|(simp only[firstArgMember];rfl)) ?_);refine AI ?_ (by size_fits);simp only[raiseNew];refine Aa (wpAny_handled ?_);rw[show A.in1.handled=none from h];refine Aa (Ac (wpAny_throw ?_));refine Aa (wpAny_isInstance (T:="StopIteration") (b:=true) ⟨_,Ak _ rfl,rfl⟩ isSubtype_stop ?_);exact Ac (i _ (((AO ..).extBut.push _).push _))
end
end Dk
namespace L2
open PySem PySem.Spec PyProof.Rows
section
variable{X:Cx}
def zX(hc:X.calm=true):da X (.type "list") (fun xs H Q=>∃a kvs,xs=[.ref a]/\Rd H a (.dT kvs)/\
  ∀(bs:List Addr),Paired (fun(p:List Key×V) b=>H b=some (.tup (p.1.map kV))) kvs bs->∀l,H l=none->Q (.ref l) (upd H l (.lst (bs.map V.ref)))):=by
 intro aa s σ H xs us Q I r h;obtain⟨a,kvs,rfl,hq,q⟩:=h;obtain⟨u,rfl,j⟩:=vals1 r;cases j;obtain⟨z,y,ys,c,o,es,ep,h1,h2,v,d,D⟩:=(show zC X.prog X.w H s.heap a (.dT kvs) from hq.ok I.hok);have f:es.size=kvs.length:=by
  have:=congrArg List.length d;rw[Ab,<-A0 c] at this
  simpa using this
 refine S9 (Dk.src (ep:=ep) (es:=es) y) (I.ok.hd hc) ⟨o,h1,h2,v⟩ (by rw[f];exact z) fun h' tk acc c' g e it=>?_;obtain⟨n1,n2⟩:=it;have x:Paired (fun(p:List Key×V) b=>H b=some (.tup (p.1.map kV))) kvs (ys.map (·.2.1)):=by
  have:∀{l:List (List Key×V)}{m:List (List Key×Addr×Value)},KT H l m->Paired (fun(p:List Key×V) b=>H b=some (.tup (p.1.map kV))) l (m.map (·.2.1)):=by
   intro l m q
   induction q with
   |nil=>exact .nil
   |cons hq t ih=>exact .cons hq.2.1 ih
  exact this c
 have A:acc.toList=(ys.map (·.2.1)).map Value.ref:=by
  apply RH;intro i;have hy:ys.length=acc.size:=by rw[n1,f];exact(A0 c).symm
  by_cases hi:i<acc.size
  ·obtain⟨e',g1,g2⟩:=n2 i acc[i] (by simp[hi])
   have g3:es.toList[i]?=some e':=by simpa using g1
   rw[d,Ag] at g3;have g4:ys[i]?=some ys[i]:=by simp[hy,hi]
   rw[g4] at g3;simp only[AQ,AW] at g3;simp only[Ag,g4,AQ,QT,QN hi];rw[g2,<-g3]
   rfl
  ·have g1:acc.toList.length<=i:=by simp;omega
   have g2:((ys.map (·.2.1)).map Value.ref).length<=i:=by simp[hy];omega
   rw[QU g1,QU g2]
 have C:Vals ((ys.map (·.2.1)).map V.ref) acc.toList:=by
  rw[A];generalize ys.map (·.2.1)=bs
  induction bs with
  |nil=>exact .nil
  |cons b bs ih=>exact .cons rfl ih
 refine⟨.ref s⁻¹,_,I.laid g (Af _) (show zC X.prog X.w _ h' _ (.lst ((ys.map (·.2.1)).map V.ref)) from⟨?_,acc.toList,c',C,by simpa using e⟩),rfl,q _ x _ (I.hok.fresh (Af _))⟩;simp only[Ab];rw[<-A0 c];exact z
def zl4:V->List V->Hp->VK->Prop:=fun x vs H Q=>∃d kvs,x=.ref d/\vs=[]/\Rd H d (.dT kvs)/\∀v,H v=none->Q (.ref v) (upd H v (pj v d))
def hY:rh X "dict.values" zl4:=by
 intro aa s σ H x vs v us Q I a e h;obtain⟨d,kvs,rfl,rfl,hd,q⟩:=h;cases a;obtain rfl:=e.zero;obtain⟨z,f,ys,g,o,es,ep,h1,h2,l,r,u⟩:=(show zC X.prog X.w H s.heap d (.dT kvs) from hd.ok I.hok);have hT:s.TypeIs (.ref d) "dict":=⟨o,h1,h2.1⟩;have j:MeetsIn X.prog X.w (Builtin.«dict.values» ⟨[.ref d],[]⟩) (fun _ R s=>s.TypeIs (.ref d) "dict"/\R (.ok (.ret (.ref s⁻¹))) {s with heap:=s.heap.push {cls:=.type "dict_values",data:=.fields #[.ref d]}}):=
  .of_wp fun A R s ⟨hT,h⟩=>by
   refine Aa ?_;unfold Builtin.Dict.noArgs;refine Aa (wpAny_notOrdered_dict hT ?_);show wpAny _ _ (pure d) _ _ s;refine Ac ?_;show wpAny _ _ (Builtin.Dict.showsAll d >>= _) _ _ s;unfold Builtin.Dict.showsAll;rw[Ti (by rw[f];exact An)];refine Aa (Ac ?_);exact Aa (AI (Ac ⟨_,rfl,h⟩))
 refine call_meetsIn PySem.F.slot_dict_values hT PySem.F.entry_dict_values (PySem.F.args_dict_values_1 _) j ⟨hT,?_⟩;refine⟨.ref s⁻¹,_,I.laid (t':=s.toks) (o:=pj s⁻¹ d) (fun b ob q=>Ad _ q) (Af _) ?_,rfl,q _ (I.hok.fresh (Af _))⟩;refine⟨⟨_,Ak _ rfl,rfl,rfl⟩,⟨_,Ak _ rfl⟩,fun h1 h2 p k=>?_⟩;obtain⟨o,i,c⟩:=p;exact⟨o,k o i,c⟩
noncomputable def Dg(d:Addr)(o:Obj)(kvs:List (List Key×V)):It:=⟨fun i H=>i<kvs.length/\H d=some (.frz o (.dT kvs)),fun i H v H'=>H'=H/\∃kv,kvs[i]?=some kv/\v=kv.2,fun i H=>i=kvs.length/\H d=some (.frz o (.dT kvs))⟩
def ML{P:Program}{w:World}{K:Ae}{tg:Expr}(d it:Addr){o:Obj}{kvs:List (List Key×V)}{es:Array DictEntry}{ep:Nat}(hx:o.ExactDict)(C:o.data=.dict es ep)(hsz:es.size=kvs.length)(hk:∀(i:Nat)kv(hi:i<es.size),kvs[i]?=some kv->RelV kv.2 es[i].val):Turn P w K tg (Dg d o kvs) [it] it (fun i h=>h.IsValIter it d i es.size ep) where
 mem:=by simp
 obj:=fun i h st b hb=>by
  have e:b=it:=by simpa using hb
  subst e;obtain⟨o,e,c,dd⟩:=st;exact⟨o,e,fun v z=>by rw[dd] at z;cases z⟩
 keep:=fun i h h' st k=>by
  obtain⟨o,e,c⟩:=st;exact⟨o,k it (by simp) o e,c⟩
 item:=by
  intro X f hw g hc i aa s σ H E I hf st j;subst f hw g;obtain⟨l,f1,f2,p,q,r⟩:=hf it (by simp);obtain⟨hi,u⟩:=j;have hm:Dk.IsD s.heap d es ep:=⟨o,(show zC X.prog X.w H s.heap d (.frz o (.dT kvs)) from I.hok d _ u).1,hx,C⟩;have a:i<es.size:=by rw[hsz];exact hi
  refine Dk.pl st hm a fun h' x sb=>?_;have F:Inv X aa σ H {s with heap:=h'}:=I.turned (t':=s.toks) (fun b o hb e=>(sb.2 b hb).trans e) l f1 p q r;obtain⟨G,e1,e2,e3⟩:=id x;have y:kvs[i]?=some kvs[i]:=Ah hi;exact⟨_,rfl,lV (s:={s with heap:=h'}) e1 e2 e3 ξ ⟨kvs[i].2,H,F,hk i _ a y,⟨rfl,_,y,rfl⟩,x,fun b hb=>(hf b hb).1⟩⟩
 done:=by
  intro X f hw g hc i aa s σ H E I hf st j;subst f hw g;obtain⟨l,f1,f2,p,q,r⟩:=hf it (by simp);obtain⟨hi,u⟩:=j;have hm:Dk.IsD s.heap d es ep:=⟨o,(show zC X.prog X.w H s.heap d (.frz o (.dT kvs)) from I.hok d _ u).1,hx,C⟩;have a:i=es.size:=by rw[hsz];exact hi
  subst a;exact Dk.pF (I.ok.hd hc) st hm fun h' D=>⟨rfl,I.turned (t':=s.toks) (fun b o hb e=>D b o hb e) l f1 p q r⟩
 self:=fun A i s Q E st h=>wpAny_pyIter_valiter st h
def MM(te:TE):TI:=fun σ H R=>te σ H fun x H1=>∃v d kvs,x=.ref v/\H1 v=some (pj v d)/\Rd H1 d (.dT kvs)/\∀o H2,H2 d=some (.frz o (.dT kvs))->(∀b,b≠d->H2 b=H1 b)->R (Dg d o kvs) H2
def Dh{H:Hp}:∀{l:List (List Key×V)}{m:List (List Key×Addr×Value)}{i:Nat}{kv:List Key×V},KT H l m->l[i]?=some kv->∃w,m[i]?=some w/\kv.1=w.1/\RelV kv.2 w.2.2
 |_,_,0,_,.cons h _,e=>by cases e;exact⟨_,rfl,h.1,h.2.2⟩
 |_,_,i+1,_,.cons _ t,e=>Dh (i:=i) t (by simpa using e)
def MN{tg l:Expr}{tl:TE}(L:PE X l tl):PI X tg l (MM tl):=by
 intro aa s σ H R I h;refine ba (L aa s σ H _ I h) fun v a ⟨x,H1,I1,y,q1⟩=>?_;obtain⟨v,d,kvs,e,E,hd,q⟩:=q1;subst e;cases y;have J:a.heap.IsValuesView v d:=(show zC X.prog X.w H1 a.heap v (pj v d) from I1.hok v _ E).1;have go:∀(o:Obj)(H2:Hp),Inv X aa σ H2 a->H2 d=some (.frz o (.dT kvs))->(∀b,b≠d->H2 b=H1 b)->wpAny (model X.prog X.w) X.A (pyIter (.ref v)) (qP X aa σ tg R) X.xe a:=by
  intro o H2 I2 p C;obtain⟨F,z,r,ys,c,o',es,ep,h1,h2,f,g,u⟩:=(show zC X.prog X.w H2 a.heap d (.frz o (.dT kvs)) from I2.hok d _ p);obtain rfl:o=o':=Al (F.symm.trans h1);have hsz:es.size=kvs.length:=by
   have:=congrArg List.length g;rw[Ab,<-A0 c] at this
   simpa using this
  have hm:Dk.IsD a.heap d es ep:=⟨o,h1,h2,f⟩;refine Dk.pk J hm ?_;have hfr:H2 a⁻¹=none:=I2.hok.fresh (Af _);refine⟨a⁻¹,[a⁻¹],_,_,_,rfl,I2.kept (t':=a.toks) fun b o e=>Ad _ e,ML d _ h2 f hsz (fun i kv hi e=>?_),⟨_,Ak _ rfl,rfl,rfl⟩,fun b hb=>?_,q o H2 p C⟩
  ·obtain⟨M,G,g1,g2⟩:=Dh c e
   have g3:es.toList[i]?=some es[i]:=by simp[hi]
   rw[g,Ag,G] at g3;simp only[AQ,AW] at g3;rw[<-g3];exact g2
  ·have e:b=a⁻¹:=by simpa using hb
   subst e;exact I2.fpOk (Af _) hfr
 rcases hd with hd|⟨o,hd⟩
 ·obtain⟨z,r,ys,c,o,es,ep,h1,h2,f,g,u⟩:=(show zC X.prog X.w H1 a.heap d (.dT kvs) from I1.hok d _ hd)
  have j:KT (upd H1 d (.frz o (.dT kvs))) kvs ys:=KT.keeps c fun b zs e=>by rw[ah (fun D=>by rw[D,hd] at e;cases e)];exact e
  exact go o (upd H1 d (.frz o (.dT kvs))) (om (ob:=.frz o (.dT kvs)) (t':=a.toks) I1 (by rw[hd];exact True.intro) (Heap.SameBut.refl _ _) ⟨o,h1⟩ ⟨h1,z,r,ys,j,o,es,ep,h1,h2,f,g,u⟩) ae fun b hb=>ah hb
 ·exact go o H1 I1 hd fun _ _=>rfl
end
end L2
end
section
namespace L2
open PySem PySem.Spec PyProof.Rows
section
variable{X:Cx}
noncomputable def k8(d:Addr)(o:Obj)(kvs:List (List Key×V)):It:=⟨fun i H=>i<kvs.length/\H d=some (.frz o (.dT kvs)),fun i H v H'=>H'=H/\∃kv b,kvs[i]?=some kv/\v=.ref b/\H b=some (.tup (kv.1.map kV)),fun i H=>i=kvs.length/\H d=some (.frz o (.dT kvs))⟩
def kt_at{H:Hp}:∀{l:List (List Key×V)}{m:List (List Key×Addr×Value)}{i:Nat}{kv:List Key×V},KT H l m->l[i]?=some kv->∃w,m[i]?=some w/\H w.2.1=some (.tup (kv.1.map kV))
 |_,_,0,_,.cons h _,e=>by cases e;exact⟨_,rfl,h.2.1⟩
 |_,_,i+1,_,.cons _ t,e=>kt_at (i:=i) t (by simpa using e)
def MO{P:Program}{w:World}{K:Ae}{tg:Expr}(d it:Addr){o:Obj}{kvs:List (List Key×V)}{es:Array DictEntry}{ep:Nat}(hx:o.ExactDict)(C:o.data=.dict es ep)(hsz:es.size=kvs.length):Turn P w K tg (k8 d o kvs) [it] it (fun i h=>h.IsKeyIter it d i es.size ep) where
 mem:=by simp
 obj:=fun i h st b hb=>by
  have e:b=it:=by simpa using hb
  subst e;obtain⟨o,e,c,dd⟩:=st;exact⟨o,e,fun v z=>by rw[dd] at z;cases z⟩
 keep:=fun i h h' st k=>by
  obtain⟨o,e,c⟩:=st;exact⟨o,k it (by simp) o e,c⟩
 item:=by
  intro X f hw g hc i aa s σ H E I hf st j;subst f hw g;obtain⟨l,f1,f2,p,q,r⟩:=hf it (by simp);obtain⟨hi,u⟩:=j;obtain⟨F,z,U,ys,x,o',W,Y,h1,h2,M,N,h5⟩:=(show zC X.prog X.w H s.heap d (.frz o (.dT kvs)) from I.hok d _ u);obtain rfl:o=o':=Al (F.symm.trans h1);have y:=C.symm.trans M;injection y with y hep
  subst y;have hm:Dk.IsD s.heap d es ep:=⟨o,F,hx,C⟩;have a:i<es.size:=by rw[hsz];exact hi
  refine Dk.item st hm a fun h' D sb=>?_;have T:Inv X aa σ H {s with heap:=h'}:=I.turned (t':=s.toks) (fun b o hb e=>(sb.2 b hb).trans e) l f1 p q r;obtain⟨oi,e1,e2,e3⟩:=id D;have J:kvs[i]?=some kvs[i]:=Ah hi;obtain⟨G,O,hb⟩:=kt_at x J;have g3:es.toList[i]?=some es[i]:=by simp[a]
  rw[N,Ag,O] at g3;simp only[AQ,AW] at g3;have S:es[i].key=.ref G.2.1:=by rw[<-g3];rfl
  exact⟨_,rfl,lV (s:={s with heap:=h'}) e1 e2 e3 ξ ⟨.ref G.2.1,H,T,by rw[S];rfl,⟨rfl,_,_,J,rfl,hb⟩,D,fun b hb=>(hf b hb).1⟩⟩
 done:=by
  intro X f hw g hc i aa s σ H E I hf st j;subst f hw g;obtain⟨l,f1,f2,p,q,r⟩:=hf it (by simp);obtain⟨hi,u⟩:=j;have hm:Dk.IsD s.heap d es ep:=⟨o,(show zC X.prog X.w H s.heap d (.frz o (.dT kvs)) from I.hok d _ u).1,hx,C⟩;have a:i=es.size:=by rw[hsz];exact hi
  subst a;exact Dk.done (I.ok.hd hc) st hm fun h' L=>⟨rfl,I.turned (t':=s.toks) (fun b o hb e=>L b o hb e) l f1 p q r⟩
 self:=fun A i s Q E st h=>wpAny_pyIter_keyiter st h
def MP(te:TE):TI:=fun σ H R=>te σ H fun x H1=>∃d kvs,x=.ref d/\Rd H1 d (.dT kvs)/\∀o H2,H2 d=some (.frz o (.dT kvs))->(∀b,b≠d->H2 b=H1 b)->R (k8 d o kvs) H2
def pH{tg l:Expr}{tl:TE}(E:PE X l tl):PI X tg l (MP tl):=by
 intro aa s σ H R I h;refine ba (E aa s σ H _ I h) fun v a ⟨x,H1,I1,u,q1⟩=>?_;obtain⟨d,kvs,e,hd,q⟩:=q1;subst e;cases u;have go:∀(o:Obj)(H2:Hp),Inv X aa σ H2 a->H2 d=some (.frz o (.dT kvs))->(∀b,b≠d->H2 b=H1 b)->wpAny (model X.prog X.w) X.A (pyIter (.ref d)) (qP X aa σ tg R) X.xe a:=by
  intro o H2 I2 p y;obtain⟨D,z,g,ys,c,o',es,ep,h1,h2,f,j,r⟩:=(show zC X.prog X.w H2 a.heap d (.frz o (.dT kvs)) from I2.hok d _ p);obtain rfl:o=o':=Al (D.symm.trans h1);have hsz:es.size=kvs.length:=by
   have:=congrArg List.length j;rw[Ab,<-A0 c] at this
   simpa using this
  have hm:Dk.IsD a.heap d es ep:=⟨o,h1,h2,f⟩;refine Dk.iter g hm ?_;have hfr:H2 a⁻¹=none:=I2.hok.fresh (Af _);refine⟨a⁻¹,[a⁻¹],_,_,_,rfl,I2.kept (t':=a.toks) fun b o e=>Ad _ e,MO d _ h2 f hsz,⟨_,Ak _ rfl,rfl,rfl⟩,fun b hb=>?_,q o H2 p y⟩;have e:b=a⁻¹:=by simpa using hb
  subst e;exact I2.fpOk (Af _) hfr
 rcases hd with hd|⟨o,hd⟩
 ·obtain⟨z,g,ys,c,o,es,ep,h1,h2,f,j,r⟩:=(show zC X.prog X.w H1 a.heap d (.dT kvs) from I1.hok d _ hd)
  have i:KT (upd H1 d (.frz o (.dT kvs))) kvs ys:=KT.keeps c fun b zs e=>by rw[ah (fun C=>by rw[C,hd] at e;cases e)];exact e
  exact go o (upd H1 d (.frz o (.dT kvs))) (om (ob:=.frz o (.dT kvs)) (t':=a.toks) I1 (by rw[hd];exact True.intro) (Heap.SameBut.refl _ _) ⟨o,h1⟩ ⟨h1,z,g,ys,i,o,es,ep,h1,h2,f,j,r⟩) ae fun b hb=>ah hb
 ·exact go o H1 I1 hd fun _ _=>rfl
def G8{d:Addr}{o:Obj}{kvs:List (List Key×V)}{g:TG}{tb:TS}{D:Ends}{σ:St}{H:Hp}(a:Nat->St->Hp->Prop)(u:a 0 σ H)(v:∀i σ H,i<=kvs.length->a i σ H->H d=some (.frz o (.dT kvs)))(w:∀i kv b σ H,kvs[i]?=some kv->H b=some (.tup (kv.1.map kV))->a i σ H->g (.ref b) σ H fun f H2=>tb {D with nx:=a (i+1),ct:=a (i+1),bk:=D.nx} f H2)(hd:∀σ H,a kvs.length σ H->D.nx σ H):∃W:Nat->Nat->St->Hp->Prop,(∃m,W 0 m σ H)/\∀i m σ H,W i m σ H->
   ((k8 d o kvs).stop i H/\D.nx σ H)\/((k8 d o kvs).go i H/\∃N:St->Hp->Prop,(∀h H',N h H'->∃j,j<m/\W (i+1) j h H')/\∀x H',(k8 d o kvs).yld i H x H'->g x σ H' fun f H2=>tb {D with nx:=N,ct:=N,bk:=D.nx} f H2):=by
 refine⟨fun i m σ H=>m=kvs.length-i/\i<=kvs.length/\a i σ H,⟨kvs.length,by simp,A6 _,u⟩,?_⟩;rintro i m σ H ⟨rfl,hi,p⟩;have q:=v i σ H hi p
 by_cases c:i<kvs.length
 ·refine .inr ⟨⟨c,q⟩,a (i+1),fun h H' l=>⟨kvs.length-(i+1),ω,rfl,c,l⟩,fun x H' y=>?_⟩
  obtain⟨e,kv,b,r,rfl,hb⟩:=y;subst e;exact w i kv b σ _ r hb p
 ·have:i=kvs.length:=ω
  subst this;exact .inl ⟨⟨rfl,q⟩,hd σ H p⟩
end
end L2
end
section
namespace L2
open PySem PySem.Spec PyProof.Rows
def Rd.same{H H':Hp}{a:Addr}{u:HO}(r:Rd H a u)(s:Same H H'):Rd H' a u:=by
 rcases r with r|⟨o,r⟩
 ·exact .inl (s _ _ r)
 ·exact .inr ⟨o,s _ _ r⟩
section
variable{X:Cx}{o:Expr}{to:TE}{aW aG:Pos}
def MQ(to:TE):TE:=fun σ H Q=>to σ H fun x H1=>zl4 x [] H1 Q
def MR(i:PE X o to)(j:attributeBase o "values" X.env (eval o X.env)=eval o X.env:=by rfl)(l:(aW.endLine==aG.line)=true:=by rfl):PE X (.Call (.Attribute o "values" aW) [] [] aG) (MQ to):=by
 intro aa s σ H Q I h;refine wpAny_Call_method0_late j l (ba (i aa s σ H _ I h) fun v c ⟨x,H1,I1,f,q1⟩=>?_);have g:=q1;obtain⟨d,kvs,rfl,_,hd,_⟩:=q1;cases f;obtain⟨_,_,_,_,ob,_,_,e,ex,_⟩:=(show zC X.prog X.w H1 c.heap d (.dT kvs) from hd.ok I1.hok);exact⟨"dict","dict.values",Sh,PySem.F.slot_dict_values,PySem.F.type_dict_values,⟨ob,e,ex.1⟩,(fun a z=>by cases z;exact⟨ob,e,ex.2.1⟩),Calls.callWith_builtin rfl (PySem.evalArgs_none (hY aa c σ H1 (.ref d) [] (.ref d) [] Q I1 rfl .nil g))⟩
end
end L2
end
section
namespace Dk
open PySem PySem.Spec PyProof.Rows
def II(h:Heap)(it d:Addr)(i n ep:Nat):Prop:=∃(c:Value)(b:Bool)(k v:Value),(c=.none\/∃a:Addr,c=rawInt a)/\
 h.get? it=some {cls:=.type "dict_itemiterator",dict:=none,data:=.fields #[c,.bool b,.ref d,.int i 0,.int n 0,.int ep 0,k,v],slots:=#[]}
def II.at{h h':Heap}{it d:Addr}{i n ep:Nat}(x:II h it d i n ep)(k:∀o,h.get? it=some o->h'.get? it=some o):II h' it d i n ep:=by
 obtain⟨a,b,k0,c,hf,e⟩:=x;exact⟨a,b,k0,c,hf,k _ e⟩
section
variable{prog:Program}{w:World}{A:Around}{E:Ω}{s:Shared}{it d v:Addr}{i ep:Nat}{es:Array DictEntry}
def MS{a:Addr}{Q:Option Obj->Shared->Prop}(h:Q (s.heap.get? a) s):wpAny (model prog w) A (loadIfAlive a) Q E s:=fun _ _ _=>h
def pI{Q:Ω}(a:s.heap.IsItemsView v d)(hm:IsD s.heap d es ep)(i:Q (.ref s⁻¹) {s with heap:=s.heap.push {cls:=.type "dict_itemiterator",data:=.fields #[.none,.bool false,.ref d,.int 0 0,.int es.size 0,.int ep 0,.none,.none]}}):wpAny (model prog w) A (pyIter (.ref v)) Q E s:=by
 obtain⟨j,f,l,g⟩:=id a;obtain⟨o,c,hc,e⟩:=id hm;refine wpAny_pyIter_slot a.typeIs SI (AK SI a.typeIs PySem.F.entry_dict_items_iter ?_ (PySem.F.args_dict_items_iter_1 _));unfold Builtin.«dict_items.__iter__»;refine Aa (Ac ?_);refine Aa ?_;unfold Builtin.Dict_items.dictOf;refine Aa (Ba f g (x:=.ref d) rfl (Ac ?_));refine Aa ?_;unfold Builtin.Dict_items.newIterator;refine Aa (AJ c e ?_);refine Aa (wpAny_dictEpoch c e ?_);have h:Builtin.Dict_items.ownsTuple "dict_itemiterator"=true:=ξ
 simp only[h,if_true];refine AI (Ac ⟨_,rfl,"dict_itemiterator",_,⟨_,Ak _ rfl,rfl⟩,PySem.F.slot_dict_itemiterator_next.lookup,?_⟩)
  (by simp only[sizeOk,Builtin.Dict_items.ownedTupleFields,Ao,Ar,AB,QY,sizeLine_eq];omega)
 simpa[rawInt,Builtin.Dict_items.ownedTupleFields] using i
def pK{Q:Option Value->Shared->Prop}(q:II s.heap it d i es.size ep)(hm:IsD s.heap d es ep)(hx:i<es.size)(H:∀h',II h' it d (i+1) es.size ep->h'.get? s⁻¹=some {cls:=.type "tuple",data:=.seq #[es[i].key,es[i].val]}->
   (∀b o,b≠it->s.heap.get? b=some o->h'.get? b=some o)->Q (some (.ref s⁻¹)) {s with heap:=h'}):wpAny (model prog w) A (pyNext (.ref it)) Q E s:=by
 obtain⟨hp,g,p,tk,os⟩:=s;obtain⟨P,S,ok,T,sE,q⟩:=q;obtain⟨od,bR,bH,hdd⟩:=id hm;have hT:Shared.TypeIs ⟨hp,g,p,tk,os⟩ (.ref it) "dict_itemiterator":=⟨_,q,rfl⟩;unfold pyNext;refine Aa (wpAny_attempt (AN (name:=Bg "__next__") hT QW
  (AK QW hT R6 ?_ (RZ _))))
 refine Aa (Ac ?_);refine Aa ?_;refine Aa ?_
 first|refine Aa (wpAny_typeNameOfWhole_itemiter hT (Ac ?_))|refine Aa (wpAny_typeNameOf_itemiter hT (Ac ?_))
 refine Aa (wpAny_fieldsOf q rfl ?_);have be:Builtin.Dict_items.ownsTuple "dict_itemiterator"=true:=ξ
 simp only[be,if_true];show wpAny _ _ (if(Value.ref d==Value.none)=true then _ else _) _ _ _;rw[Ti (show ¬((Value.ref d==Value.none)=true) from An)];refine Aa (Ac ?_);refine Aa (AJ bR hdd ?_);rw[Ti (by simp)];refine Aa (Ac ?_);refine Aa (wpAny_dictEpoch bR hdd ?_);rw[Ti (by simp)];refine Ac ?_;simp only[show ¬((i:Int)<0) from ω,if_false,QB,QN hx];refine Aa ?_
 first|refine Aa (wpAny_typeNameOfWhole_itemiter hT (Ac ?_))|refine Aa (wpAny_typeNameOf_itemiter hT (Ac ?_))
 refine Aa (wpAny_isOneOf_itemiter hT ?_);show wpAny _ _ (setField (.ref it) 3 (rawInt ((i:Int)+1)) >>= _) _ _ ⟨hp,g,p,tk,os⟩;refine Aa (Be q (by simp) fun j r u=>?_);replace u:Heap.SameBut it hp j:=u;replace r:j.get? it=some {cls:=.type "dict_itemiterator",dict:=none,data:=.fields #[P,.bool S,.ref d,.int ((i+1:Nat):Int) 0,.int es.size 0,.int ep 0,ok,T],slots:=#[]}:=by
  have e:((i+1:Nat):Int)=(i:Int)+1:=ω
  rw[e];simpa[rawInt] using r
 have f:Shared.TypeIs ⟨j,g,p,tk,os⟩ (.ref it) "dict_itemiterator":=⟨_,r,rfl⟩;refine Aa (AU ?_);refine Aa (wpAny_isOneOf_itemiter f ?_);refine Aa (wpAny_isOneOf_itemiter f ?_);show wpAny _ _ (Builtin.Dict_items.pairFromOwner (.ref it) 6 es[i].key es[i].val) _ _ ⟨j,g,p,tk,os⟩;unfold Builtin.Dict_items.pairFromOwner;refine Aa (wpAny_newTuple ?_);have l:(j.push {cls:=.type "tuple",data:=.seq #[es[i].key,es[i].val]}).get? it=some {cls:=.type "dict_itemiterator",dict:=none,data:=.fields #[P,.bool S,.ref d,.int ((i+1:Nat):Int) 0,.int es.size 0,.int ep 0,ok,T],slots:=#[]}:=Ad _ r;generalize hh₂:j.push {cls:=.type "tuple",data:=.seq #[es[i].key,es[i].val]}=bG at l;have U:j.objs.size=hp.objs.size:=u.1;have y:it<hp.objs.size:=Aq q;have W:bG.get? hp.objs.size=some {cls:=.type "tuple",data:=.seq #[es[i].key,es[i].val]}:=by rw[<-hh₂,<-U];exact Ak _ rfl
 have h:∀b o,b≠it->hp.get? b=some o->bG.get? b=some o:=fun b o hb e=>by rw[<-hh₂];exact Ad _ (u.extBut b o hb e)
 show wpAny _ _ (Builtin.Dict_items.ownedTupleIsFree (.ref it) >>= _) _ _ ⟨bG,g,p,tk,os⟩;rw[U];clear hh₂ r u f U j;have free:∀(E':Ω)(R:Ω),(∀h',II h' it d (i+1) es.size ep->h'.get? hp.objs.size=some {cls:=.type "tuple",data:=.seq #[es[i].key,es[i].val]}->
   (∀b o,b≠it->hp.get? b=some o->h'.get? b=some o)->R (.ref hp.objs.size) ⟨h',g,p,tk,os⟩)->wpAny (model prog w) A.in1 (do
    let fq:=[<-field (.ref it) 6,<-field (.ref it) (6+1)]
    setField (.ref it) 6 es[i].key;setField (.ref it) (6+1) es[i].val
    setField (.ref it) 0 (rawInt hp.objs.size);setField (.ref it) 1 (.bool false)
    letGo fq [.ref hp.objs.size]
    return .ref hp.objs.size) R E' ⟨bG,g,p,tk,os⟩:=by
  intro E' R hR;refine Aa (Ba l rfl (x:=ok) rfl ?_);refine Aa (Ba l rfl (x:=T) rfl ?_);refine Aa (Be l (by simp) fun v I c=>?_);replace c:Heap.SameBut it bG v:=c;refine Aa (Be I (by simp) fun X i8 C=>?_);replace C:Heap.SameBut it v X:=C;refine Aa (Be i8 (by simp) fun Y jr D=>?_);replace D:Heap.SameBut it X Y:=D;refine Aa (Be jr (by simp) fun J L G=>?_);replace G:Heap.SameBut it Y J:=G;replace L:J.get? it=some {cls:=.type "dict_itemiterator",dict:=none,data:=.fields #[rawInt hp.objs.size,.bool false,.ref d,.int ((i+1:Nat):Int) 0,.int es.size 0,.int ep 0,es[i].key,es[i].val],slots:=#[]}:=L;refine Aa (wpAny_letGo (Ac (hR J ⟨_,_,_,_,.inr ⟨_,rfl⟩,L⟩ ?_ ?_)))
  ·exact G.extBut _ _ (A3 y) (D.extBut _ _ (A3 y) (C.extBut _ _ (A3 y) (c.extBut _ _ (A3 y) W)))
  ·exact fun b o hb e=>G.extBut b o hb (D.extBut b o hb (C.extBut b o hb (c.extBut b o hb (h b o hb e))))
 refine Aa ?_;unfold Builtin.Dict_items.ownedTupleIsFree;refine Aa (Ba l rfl (x:=P) rfl ?_);rcases sE with rfl|⟨a,rfl⟩
 ·refine Ac ?_
  simp only[if_true];exact free _ _ fun h' M N O=>Ac ⟨_,rfl,Ac (H h' M N O)⟩
 ·dsimp only[rawInt]
  refine Aa (MS ?_);cases hal:bG.get? ((a:Int)).toNat with
  |none=>
   simp only[Option.isNone_none,if_true];refine Ac ?_;simp only[if_true];exact free _ _ fun h' M N O=>Ac ⟨_,rfl,Ac (H h' M N O)⟩
  |some oa=>
   simp only[Option.isNone_some,Av,if_false];refine Aa (Ba l rfl (x:=.bool S) rfl ?_);refine wpAny_ite_split (fun _=>?_) (fun _=>?_)
   ·refine Aa (Be l (by simp) fun v I c=>?_)
    replace c:Heap.SameBut it bG v:=c;refine Ac ?_;simp only[Av,if_false];refine Ac (Ac ⟨_,rfl,Ac (H v ⟨_,_,_,_,.inr ⟨a,rfl⟩,I⟩ ?_ ?_)⟩)
    ·exact c.extBut _ _ (A3 y) W
    ·exact fun b o hb e=>c.extBut b o hb (h b o hb e)
   ·refine Ac ?_
    simp only[Av,if_false];exact Ac (Ac ⟨_,rfl,Ac (H bG ⟨_,_,_,_,.inr ⟨a,rfl⟩,l⟩ W h)⟩)
def Di{Q:Option Value->Shared->Prop}(g:A.handled=none)(c:II s.heap it d es.size es.size ep)(hm:IsD s.heap d es ep)(h:∀h',Heap.ExtBut it s.heap h'->Q none {s with heap:=h'}):wpAny (model prog w) A (pyNext (.ref it)) Q E s:=by
 obtain⟨i,j,ok,l,o,c⟩:=c;obtain⟨p,e,q,hdd⟩:=id hm;have hT:s.TypeIs (.ref it) "dict_itemiterator":=⟨_,c,rfl⟩;unfold pyNext;refine Aa (wpAny_attempt (AN (name:=Bg "__next__") hT QW
  (AK QW hT R6 ?_ (RZ _))))
 refine Aa (Ac ?_);refine Aa ?_;refine Aa ?_
 first|refine Aa (wpAny_typeNameOfWhole_itemiter hT (Ac ?_))|refine Aa (wpAny_typeNameOf_itemiter hT (Ac ?_))
 refine Aa (wpAny_fieldsOf c rfl ?_);have f:Builtin.Dict_items.ownsTuple "dict_itemiterator"=true:=ξ
 simp only[f,if_true];show wpAny _ _ (if(Value.ref d==Value.none)=true then _ else _) _ _ s;rw[Ti (show ¬((Value.ref d==Value.none)=true) from An)];refine Aa (Ac ?_);refine Aa (AJ e hdd ?_);rw[Ti (by simp)];refine Aa (Ac ?_);refine Aa (wpAny_dictEpoch e hdd ?_);rw[Ti (by simp)];refine Ac ?_;simp only[show ¬((es.size:Int)<0) from ω,if_false,QB,Su (Af es.size)];refine Aa ?_
 first|refine Aa (wpAny_typeNameOfWhole_itemiter hT (Ac ?_))|refine Aa (wpAny_typeNameOf_itemiter hT (Ac ?_))
 show wpAny _ _ (setField (.ref it) 2 .none >>= _) _ _ s;refine Aa (wpAny_setField c rfl (by simp) ?_);show wpAny _ _ (newExc (.type "StopIteration") [] >>= _) _ _ _;refine Aa ?_;simp only[newExc,newTuple];refine Aa (AI ?_ (by size_fits));refine Aa (m:=firstArgMember _ _) (wpAny_of_eq (a:=Value.none) (by first|rfl|(simp only[firstArgMember];rfl)) ?_);refine AI ?_ (by size_fits);simp only[raiseNew];refine Aa (wpAny_handled ?_);rw[show A.in1.handled=none from g];refine Aa (Ac (wpAny_throw ?_));refine Aa (wpAny_isInstance (T:="StopIteration") (b:=true) ⟨_,Ak _ rfl,rfl⟩ isSubtype_stop ?_);exact Ac (h _ (((AO ..).extBut.push _).push _))
def eT(h:Heap)(es:Array DictEntry)(ts:List Addr)(i:Nat):Prop:=ts.length=i/\ts.Nodup/\∀(j:Nat) t,ts[j]?=some t->∃e,es[j]?=some e/\h.get? t=some {cls:=.type "tuple",data:=.seq #[e.key,e.val]}
def MT{S:Addr}{res:Value}{R:Result->Shared->Prop}{z:Nat}(hh:A.handled=none)(hn:es.size<=sizeLine)(P:S≠it)(gQ:S≠d)(lJ:it≠d):∀(k i:Nat)(s:Shared)(ts:List Addr)(c:Nat),es.size-i=k->i<=es.size->II s.heap it d i es.size ep->IsD s.heap d es ep->
   s.heap.get? S=some {cls:=.type "list",dict:=none,data:=.seq (ts.map Value.ref).toArray c,slots:=#[]}->eT s.heap es ts i->z<=s⁻¹->(∀t∈ts,z<=t)->
   (∀h' tk q c',h'.get? S=some {cls:=.type "list",dict:=none,data:=.seq (q.map Value.ref).toArray c',slots:=#[]}->eT h' es q es.size->(∀t∈q,z<=t)->
    (∀b o,b≠S->b≠it->s.heap.get? b=some o->h'.get? b=some o)->R (.ok (.ret res)) {s with heap:=h',toks:=tk})->
   codeAny (model prog w) A (.builtin "list.extend.loop" ⟨[.ref S,.ref it,res],[]⟩) R s:=by
 have f:∀{h h':Heap}{ts:List Addr}{i:Nat}{x C:Obj},h.get? S=some x->x.cls=.type "list"->h.get? it=some C->C.cls=.type "dict_itemiterator"->(∀b o,b≠S->b≠it->h.get? b=some o->h'.get? b=some o)->eT h es ts i->eT h' es ts i:=by
  intro h h' ts i x C g Q Y T kk D;refine⟨D.1,D.2.1,fun j t e=>?_⟩;obtain⟨X,e1,e2⟩:=D.2.2 j t e;refine⟨X,e1,kk _ _ (fun y=>?_) (fun y=>?_) e2⟩
  ·rw[y,g] at e2;rw[Al e2] at Q;exact absurd (show Value.type "tuple"=Value.type "list" from Q) ξ
  ·rw[y,Y] at e2;rw[Al e2] at T;exact absurd (show Value.type "tuple"=Value.type "dict_itemiterator" from T) ξ
 intro k
 induction k with
 |zero=>
  intro i s ts c hk hi p hm g ht hz E G;have N:i=es.size:=ω
  subst N;obtain⟨f0,fb,k0,v0,_,L⟩:=id p;refine Bh PySem.F.entry_extend_loop ?_;rw[A4 Q8 _];show wpAny _ A.in1 (pyNext (.ref it) >>= _) _ _ s;refine Aa (Di (A:=A.in1) hh p hm fun h' H=>?_);exact Ac (G h' s.toks ts c (H _ _ P g) (f g rfl L rfl (fun b o _ hb e=>H b o hb e) ht) E fun b o _ hb e=>H b o hb e)
 |succ k ih=>
  intro i s ts c hk hi p hm g ht hz E G;have l:i<es.size:=ω
  obtain⟨f0,fb,k0,v0,_,L⟩:=id p;refine Bh PySem.F.entry_extend_loop ?_;rw[A4 Q8 _];show wpAny _ A.in1 (pyNext (.ref it) >>= _) _ _ s;refine Aa (pK (A:=A.in1) p hm l fun h1 U W u=>?_);have O:=u S _ P g;have hsz:s⁻¹<h1.objs.size:=Aq W;obtain⟨BL,BU,BQ,BI,_,l_⟩:=id U;have wH:eT h1 es (ts++[s⁻¹]) (i+1):=by
   have t0:=f g rfl L rfl (fun b o _ hb e=>u b o hb e) ht;refine⟨by rw[Ar,ht.1];rfl,?_,fun j t e=>?_⟩
   ·rw[Bj]
    refine⟨ht.2.1,by simp,fun a ha b hb=>?_⟩;have hb':b=s⁻¹:=by simpa using hb
    obtain⟨j,M⟩:=Rs ha;obtain⟨X,_,e2⟩:=ht.2.2 j a M;rw[hb'];exact Au (Aq e2)
   ·by_cases M:j<ts.length
    ·rw[QC M] at e
     exact t0.2.2 j t e
    ·have uU:j=i:=by
      have:=(KK.mp e).1;rw[Ar] at this;simp at this;have:=ht.1;omega
     subst uU;rw[Qy ω,ht.1,Nat.sub_self] at e;have:t=s⁻¹:=(Al e).symm;rw[this];exact⟨_,QN l,W⟩
  show wpAny _ A.in1 (updateSeq S (·.push (.ref s⁻¹)) >>= _) _ _ _;refine Aa ?_;have v:∀b o,b≠S->h1.get? b=some o->(h1.update S (AS (·.push (Value.ref s⁻¹)))).get? b=some o:=fun b o hb e=>(Heap.get?_update_other _ _ (Ne.symm hb)).trans e;have e0:((ts.map Value.ref).toArray.push (.ref s⁻¹))=((ts++[s⁻¹]).map Value.ref).toArray:=by simp
  obtain⟨J,cu⟩:∃J,(h1.update S (AS (·.push (Value.ref s⁻¹)))).get? S=some {cls:=.type "list",dict:=none,data:=.seq ((ts++[s⁻¹]).map Value.ref).toArray J,slots:=#[]}:=by
   rw[<-e0];exact⟨_,Heap.get?_update_self _ O rfl⟩
  refine wpAny_updateSeq O rfl (Ac ⟨plainId_quiet Q8 _,ih (i+1) _ (ts++[s⁻¹]) J ω l (U.at fun o e=>v _ o (Ne.symm P) e) ((hm.at fun o e=>u _ o (Ne.symm lJ) e).at fun o e=>v _ o (Ne.symm gQ) e) cu (f O rfl l_ rfl (fun b o hb _ e=>v b o hb e) wH) ?_ ?_ fun h' tk q c' e1 e2 e3 e4=>?_⟩)
   (by simp only[Ao,Ab];rw[ht.1];omega) (by simp only[Array.size_push,Ao,Ab];rw[ht.1];omega)
  ·have:(h1.update S (AS (·.push (Value.ref s⁻¹)))).objs.size=h1.objs.size:=(AO ..).1
   show z<=(h1.update S (AS (·.push (Value.ref s⁻¹)))).objs.size;rw[this];omega
  ·intro t I
   rcases Qm.mp I with y|y
   ·exact E t y
   ·have:t=s⁻¹:=by simpa using y
    rw[this];exact hz
  ·exact G h' tk q c' e1 e2 e3 fun b o hb r e=>e4 b o hb r (v b o hb (u b o r e))
end
end Dk
end
section
namespace Dk
open PySem PySem.Spec PyProof.Rows
section
variable{prog:Program}{w:World}{A:Around}{E:Ω}{s:Shared}{r d:Addr}{ep:Nat}{es:Array DictEntry}
def MU{Q:Bool->Shared->Prop}(hT:s.TypeIs (.ref r) "dict_items")(h:Q false s):wpAny (model prog w) A (Builtin.List.listLengthHint (.ref r)) Q E s:=by
 unfold Builtin.List.listLengthHint;refine Aa (wpAny_specialOf hT PySem.F.slot_dict_items_len.lookup ?_);generalize lJ:("dict_items.__len__":String)=id0
 wp_delta
 rw[show splitId id0=some ("dict_items","__len__") from by subst lJ;decide +kernel];subst lJ;refine Aa (wpAny_isInstance (T:="dict_items") (b:=true) hT (by rw[isSubtype_type];kernel_rfl) ?_);refine wpAny_ite_split (fun a=>absurd a ξ) (fun _=>?_);refine wpAny_ite_split (fun _=>?_) (fun a=>absurd δ a);refine Aa (wpAny_typeOf hT ?_);exact Ac h
def MV{R:Result->Shared->Prop}{z:Nat}(M:A.handled=none)(l:s.heap.IsItemsView r d)(hm:IsD s.heap d es ep)(N:es.size<=sizeLine)(S:Addr)(O:S≠r)(q:S≠d)(hz:z<=s⁻¹)(res:Value)(u:Nat)(v:s.heap.get? S=some {cls:=.type "list",data:=.seq #[] u})(P:∀h' tk ts c',(∀b o,b≠S->s.heap.get? b=some o->h'.get? b=some o)->h'.get? S=some {cls:=.type "list",dict:=none,data:=.seq (ts.map Value.ref).toArray c',slots:=#[]}->eT h' es ts es.size->(∀t∈ts,z<=t)->R (.ok (.ret res)) {s with heap:=h',toks:=tk}):wpAny (model prog w) A.in1 (Builtin.List.listExtendWith (.ref S) (.ref r) res)
   (fun fin s'=>match fin with|.done f=>R (.ok f) s'|.again c'=>c'.quiet=true/\codeAny (model prog w) A c' R s') (fun e s'=>R (.error e) s') s:=by
 have a:S≠s⁻¹:=Au (Aq v);have H:s⁻¹≠d:=A3 hm.lt;have key:∀(h:Heap)(g tk:Nat),II h s⁻¹ d 0 es.size ep->s⁻¹<=h.objs.size->(∀b o,b≠S->s.heap.get? b=some o->h.get? b=some o)->
   h.get? S=some {cls:=.type "list",data:=.seq #[] g}->codeAny (model prog w) A (.builtin "list.extend.loop" ⟨[.ref S,.ref s⁻¹,res],[]⟩) R {s with heap:=h,toks:=tk}:=by
  intro h g tk i x hk c;refine MT (z:=z) M N a q H es.size 0 _ [] g rfl (A6 _) i (hm.at fun o e=>hk _ o (Ne.symm q) e) c ⟨rfl,QH,fun j t e=>by simp at e⟩ (AA hz x) (fun t ht=>nomatch ht) fun h' C D c' e1 e2 e3 E=>?_;exact P h' C D c' (fun b o hb e=>E b o hb (fun y=>absurd (Aq e) (by rw[y];exact Rt _)) (hk b o hb e)) e1 e2 e3
 unfold Builtin.List.listExtendWith;refine Aa (wpAny_typeOf (T:="dict_items") l.typeIs ?_);have h1:Builtin.List.listSameRef (.ref S) (.ref r)=false:=by simp[Builtin.List.listSameRef,O]
 have h2:(Value.type "dict_items" == Value.type "list")=false:=ξ
 have I:(Value.type "dict_items" == Value.type "tuple")=false:=ξ
 simp only[h1,h2,I,Bool.or_false,Av,if_false];refine Aa (pI l hm ?_);have c:=Ad {cls:=.type "dict_itemiterator",data:=.fields #[.none,.bool false,.ref d,.int 0 0,.int es.size 0,.int ep 0,.none,.none]} v;have st:II (s.heap.push {cls:=.type "dict_itemiterator",data:=.fields #[.none,.bool false,.ref d,.int 0 0,.int es.size 0,.int ep 0,.none,.none]}) s⁻¹ d 0 es.size ep:=⟨_,_,_,_,.inl rfl,Ak _ rfl⟩;have J:Shared.TypeIs {s with heap:=s.heap.push {cls:=.type "dict_itemiterator",data:=.fields #[.none,.bool false,.ref d,.int 0 0,.int es.size 0,.int ep 0,.none,.none]}} (.ref r) "dict_items":=by
  obtain⟨o,G,hc,_⟩:=l;exact⟨o,Ad _ G,hc⟩
 refine Aa (AU (MU J ?_));have hsz:∀o:Obj,s⁻¹<=(s.heap.push o).objs.size:=fun o=>by rw[Heap.size_push];omega
 refine wpAny_ite_split (fun _=>?_) (fun _=>Ac ⟨plainId_quiet Q8 _,key _ u _ st (hsz _) (fun b o _ e=>Ad _ e) c⟩);refine Aa (wpAny_rule ?_);refine Aa ?_;show wpAny _ _ (updateSeq S (·.push .none) >>= fun _=>updateSeq S (·.pop)) _ _ _;refine Aa (wpAny_updateSeq c rfl ?_);have p:=Heap.get?_update_self (AS (·.push Value.none)) c rfl;refine wpAny_updateSeq (hz:=by seq_fits) p rfl ?_;have L:=Heap.get?_update_self (AS (·.pop)) p rfl;refine Ac ⟨plainId_quiet Q8 _,key _ _ _ ?_ ?_ (fun b o hb e=>?_) L⟩
 ·exact(st.at fun o e=>(Heap.get?_update_other _ _ a).trans e).at fun o e=>(Heap.get?_update_other _ _ a).trans e
 ·rw[(AO ..).1,(AO ..).1];exact hsz _
 ·exact(Heap.get?_update_other _ _ (Ne.symm hb)).trans ((Heap.get?_update_other _ _ (Ne.symm hb)).trans (Ad _ e))
def MW{R:Result->Shared->Prop}{z:Nat}(u:A.handled=none)(v:s.heap.IsItemsView r d)(hm:IsD s.heap d es ep)(x:es.size<=sizeLine)(S:Addr)(g:S≠r)(h:S≠d)(hz:z<=s⁻¹)(c:s.heap.get? S=some {cls:=.type "list",data:=.seq #[]})(y:∀h' tk ts c',(∀b o,b≠S->s.heap.get? b=some o->h'.get? b=some o)->h'.get? S=some {cls:=.type "list",dict:=none,data:=.seq (ts.map Value.ref).toArray c',slots:=#[]}->eT h' es ts es.size->(∀t∈ts,z<=t)->R (.ok (.ret .none)) {s with heap:=h',toks:=tk}):wpAny (model prog w) A.in1 (Builtin.«list.__init__» ⟨[.ref S,.ref r],[]⟩)
   (fun fin s'=>match fin with|.done f=>R (.ok f) s'|.again c'=>c'.quiet=true/\codeAny (model prog w) A c' R s') (fun e s'=>R (.error e) s') s:=by
 show wpAny _ _ (do let fq <-Builtin.List.listItems (.ref S);Builtin.List.listUpdate (.ref S) (fun _=>#[]);letGo fq.toList.reverse;Builtin.List.listExtendWith (.ref S) (.ref r) .none) _ _ s;refine Aa ?_;unfold Builtin.List.listItems;refine Aa (wpAny_seqItems c rfl (Ac ?_));show wpAny _ _ (updateSeq S (fun _=>#[]) >>= fun _=>letGo (#[]:Array Value).toList.reverse >>= fun _=>Builtin.List.listExtendWith (.ref S) (.ref r) .none) _ _ s;refine Aa (wpAny_updateSeq c rfl ?_);have q:=Heap.get?_update_self (AS (fun _=>(#[]:Array Value))) c rfl;have a:∀b o,b≠S->s.heap.get? b=some o->(s.heap.update S (AS (fun _=>(#[]:Array Value)))).get? b=some o:=
  fun b o hb e=>(Heap.get?_update_other _ _ (Ne.symm hb)).trans e
 refine Aa (wpAny_letGo ?_);obtain⟨o,p,hc,hd⟩:=id v;refine MV (s:={s with heap:=s.heap.update S (AS (fun _=>(#[]:Array Value)))}) u ⟨o,a _ _ (Ne.symm g) p,hc,hd⟩ (hm.at fun o e=>a _ o (Ne.symm h) e) x S g h (by show z<=(s.heap.update S (AS (fun _=>(#[]:Array Value)))).objs.size;rw[(AO ..).1];exact hz) .none _ q fun h' tk ts c' hk i j l=>?_;exact y h' tk ts c' (fun b o hb e=>hk b o hb (a b o hb e)) i j l
def MX{Q:Ω}(l:A.handled=none)(p:s.heap.IsItemsView r d)(hm:IsD s.heap d es ep)(q:es.size<=sizeLine)(u:∀h' tk ts c',(∀b o,s.heap.get? b=some o->h'.get? b=some o)->h'.get? s⁻¹=some {cls:=.type "list",dict:=none,data:=.seq (ts.map Value.ref).toArray c',slots:=#[]}->eT h' es ts es.size->(∀t∈ts,s⁻¹<t)->Q (.ref s⁻¹) {s with heap:=h',toks:=tk}):wpAny (model prog w) A (call (.type "list") [.ref r]) Q E s:=by
 refine callType_codes (Q₁:=fun obj a=>obj=.ref s⁻¹/\a={s with heap:=s.heap.push {cls:=.type "list",data:=.seq #[]}}) PySem.F.called_list (PySem.F.typeCall_list_1 _) PySem.F.entry_list_init
  (code_list_new _ ⟨rfl,rfl⟩) fun obj a g=>?_
 obtain⟨rfl,rfl⟩:=g;have f:(s.heap.push {cls:=.type "list",data:=.seq #[]}).get? s⁻¹=some {cls:=.type "list",data:=.seq #[]}:=Ak _ rfl;obtain⟨o,c,hc,hd⟩:=id p;refine⟨⟨_,f,rfl⟩,PySem.F.args_list_init_2 _ _,MW (A:=A.in1) (z:=s⁻¹+1) l ⟨o,Ad _ c,hc,hd⟩ (hm.at fun o e=>Ad _ e) q _ (A3 (Aq c)) (A3 hm.lt) (by show _<=(s.heap.push _).objs.size;rw[Heap.size_push];exact Af _) f fun h' tk ts c' hk h i j=>?_⟩;exact⟨rfl,u h' tk ts c' (fun b o e=>hk b o (Au (Aq e)) (Ad _ e)) h i fun t ht=>j t ht⟩
end
end Dk
namespace L2
open PySem PySem.Spec PyProof.Rows
section
variable{X:Cx}{aa:Ψ}{σ:St}{H:Hp}{s:Shared}
def hZ:∀(a:List (Addr×List V))(H:Hp),Inv X aa σ H s->(a.map (·.1)).Nodup->(∀r∈a,bQ X aa H r.1/\X.s₀⁻¹<=r.1/\r.2.length<=sizeLine/\∃af:List Value,Vals r.2 af/\IsTup s.heap r.1 af.toArray)->
  ∃H',Inv X aa σ H' s/\Same H H'/\∀r∈a,H' r.1=some (.tup r.2)
 |[],H,I,_,_=>⟨H,I,Same.refl _,fun r hr=>nomatch hr⟩
 |r::rest,H,I,hn,h=>by
  obtain⟨⟨d,f1,f2,x,e,f⟩,i,hz,af,j,l⟩:=h r Ay;have c:(r.1::rest.map (·.1)).Nodup:=hn;rw[Qp] at c;have w:=I.adopt (o:=.tup r.2) d i f1 e f ⟨hz,af,j,l⟩;have u:=Same.new (o:=.tup r.2) d;obtain⟨H',v,sm,g⟩:=hZ rest (upd H r.1 (.tup r.2)) w c.2 fun q hq=>by
   obtain⟨⟨p,g1⟩,g2⟩:=h q (Aw _ hq);refine⟨⟨?_,g1⟩,g2⟩;rw[ah (fun y=>c.1 (by rw[<-y];exact Qj.mpr ⟨q,hq,rfl⟩))];exact p
  refine⟨H',v,u.trans sm,fun q hq=>?_⟩;rcases Qk.mp hq with rfl|hq
  ·exact sm _ _ ae
  ·exact g q hq
end
section
variable{X:Cx}
noncomputable def pN(v d:Addr):HO:=.ext fun h=>h.IsItemsView v d
def zj9:V->List V->Hp->VK->Prop:=fun x vs H Q=>∃d kvs,x=.ref d/\vs=[]/\Rd H d (.dT kvs)/\∀v,H v=none->Q (.ref v) (upd H v (pN v d))
def gh:rh X "dict.items" zj9:=by
 intro aa s σ H x vs v us Q I a e h;obtain⟨d,kvs,rfl,rfl,hd,q⟩:=h;cases a;obtain rfl:=e.zero;obtain⟨z,f,ys,g,o,es,ep,h1,h2,l,r,u⟩:=(show zC X.prog X.w H s.heap d (.dT kvs) from hd.ok I.hok);have hT:s.TypeIs (.ref d) "dict":=⟨o,h1,h2.1⟩;have j:MeetsIn X.prog X.w (Builtin.«dict.items» ⟨[.ref d],[]⟩) (fun _ R s=>s.TypeIs (.ref d) "dict"/\R (.ok (.ret (.ref s⁻¹))) {s with heap:=s.heap.push {cls:=.type "dict_items",data:=.fields #[.ref d]}}):=
  .of_wp fun A R s ⟨hT,h⟩=>by
   unfold Builtin.«dict.items»;refine Aa ?_;unfold Builtin.Dict.noArgs;refine Aa (wpAny_notOrdered_dict hT ?_);show wpAny _ _ (pure d) _ _ s;refine Ac ?_;show wpAny _ _ (Builtin.Dict.showsAll d >>= _) _ _ s;unfold Builtin.Dict.showsAll;rw[Ti (by rw[f];exact An)];refine Aa (Ac ?_);exact Aa (AI (Ac ⟨_,rfl,h⟩))
 refine call_meetsIn PySem.F.slot_dict_items hT PySem.F.entry_dict_items (PySem.F.args_dict_items_1 _) j ⟨hT,?_⟩;refine⟨.ref s⁻¹,_,I.laid (t':=s.toks) (o:=pN s⁻¹ d) (fun b ob q=>Ad _ q) (Af _) ?_,rfl,q _ (I.hok.fresh (Af _))⟩;refine⟨⟨_,Ak _ rfl,rfl,rfl⟩,⟨_,Ak _ rfl⟩,fun h1 h2 p k=>?_⟩;obtain⟨o,i,c⟩:=p;exact⟨o,k o i,c⟩
def MY(to:TE):TE:=fun σ H Q=>to σ H fun x H1=>zj9 x [] H1 Q
def MZ{o:Expr}{to:TE}{aW aG:Pos}(i:PE X o to)(j:attributeBase o "items" X.env (eval o X.env)=eval o X.env:=by rfl)(l:(aW.endLine==aG.line)=true:=by rfl):PE X (.Call (.Attribute o "items" aW) [] [] aG) (MY to):=by
 intro aa s σ H Q I h;refine wpAny_Call_method0_late j l (ba (i aa s σ H _ I h) fun v c ⟨x,H1,I1,f,q1⟩=>?_);have g:=q1;obtain⟨d,kvs,rfl,_,hd,_⟩:=q1;cases f;obtain⟨_,_,_,_,ob,_,_,e,ex,_⟩:=(show zC X.prog X.w H1 c.heap d (.dT kvs) from hd.ok I1.hok);exact⟨"dict","dict.items",Sh,PySem.F.slot_dict_items,PySem.F.type_dict_items,⟨ob,e,ex.1⟩,(fun a z=>by cases z;exact⟨ob,e,ex.2.1⟩),Calls.callWith_builtin rfl (PySem.evalArgs_none (gh aa c σ H1 (.ref d) [] (.ref d) [] Q I1 rfl .nil g))⟩
def M5(hc:X.calm=true):da X (.type "list") (fun xs H Q=>∃v d kvs,xs=[.ref v]/\H v=some (pN v d)/\Rd H d (.dT kvs)/\
  ∀H'(l:Addr)(ts:List Addr),Same H H'->H l=none->H' l=some (.lst (ts.map V.ref))->Paired (fun t(kv:List Key×V)=>∃b,H' t=some (.tup [.ref b,kv.2])/\H' b=some (.tup (kv.1.map kV))) ts kvs->Q (.ref l) H'):=by
 intro aa s σ H xs us Q I r h;obtain⟨v,d,kvs,rfl,W,hd,q⟩:=h;obtain⟨u,rfl,Y⟩:=vals1 r;cases Y;have pO:s.heap.IsItemsView v d:=(show zC X.prog X.w H s.heap v (pN v d) from I.hok v _ W).1;obtain⟨z,hs,ys,e,o,es,ep,h1,h2,h3,J,h5⟩:=(show zC X.prog X.w H s.heap d (.dT kvs) from hd.ok I.hok);have hsz:es.size=kvs.length:=by
  have:=congrArg List.length J;rw[Ab,<-A0 e] at this
  simpa using this
 refine Dk.MX (I.ok.hd hc) pO ⟨o,h1,h2,h3⟩ (by rw[hsz];exact z) fun h' tk ts c' S T E U=>?_;have O:H s⁻¹=none:=I.hok.fresh (Af _);have vv:∀ts:List Addr,Vals (ts.map V.ref) (ts.map Value.ref):=fun ts=>by
  induction ts with
  |nil=>exact .nil
  |cons b bs ih=>exact .cons rfl ih
 have I1:Inv X aa σ (upd H s⁻¹ (.lst (ts.map V.ref))) {s with heap:=h',toks:=tk}:=I.laid S (Af _) ⟨by rw[Ab,E.1,hsz];exact z,_,c',vv ts,T⟩;have P:=Same.new (o:=.lst (ts.map V.ref)) O;have C:ts.length=kvs.length:=by rw[E.1,hsz]
 have D:∀(j:Nat)(t:Addr)(kv:List Key×V),ts[j]?=some t->kvs[j]?=some kv->∃(y:List Key×Addr×Value),H y.2.1=some (.tup (kv.1.map kV))/\RelV kv.2 y.2.2/\ys[j]?=some y/\h'.get? t=some {cls:=.type "tuple",data:=.seq #[.ref y.2.1,y.2.2]}:=by
  intro j t kv e1 e2;obtain⟨en,g1,g2⟩:=E.2.2 j t e1;obtain⟨y,g3,g4,g5⟩:=Dh e e2;obtain⟨y',L,g7⟩:=kt_at e e2;rw[g3] at L;obtain rfl:=Al L;have G:es.toList[j]?=some en:=by simpa using g1
  rw[J,Ag,g3] at G;simp only[AQ,AW] at G;refine⟨y,g7,g5,g3,?_⟩;rw[g2,<-G]
  rfl
 let rows:List (Addr×List V):=(ts.zip (ys.zip kvs)).map fun q=>(q.1,[.ref q.2.1.2.1,q.2.2.2])
 have hyl:ys.length=kvs.length:=(A0 e).symm;have wV:rows.map (·.1)=ts:=by
  show((ts.zip (ys.zip kvs)).map fun q=>(q.1,[V.ref q.2.1.2.1,q.2.2.2])).map (·.1)=ts;rw[Am];show(ts.zip (ys.zip kvs)).map Prod.fst=ts;rw[SB];rw[RD];omega
 have p:∀(j:Nat)(t:Addr)(kv:List Key×V)(y:List Key×Addr×Value),ts[j]?=some t->kvs[j]?=some kv->ys[j]?=some y->(t,[V.ref y.2.1,kv.2])∈rows:=by
  intro j t kv y e1 e2 e3;refine Qj.mpr ⟨(t,y,kv),Ai (i:=j) ?_,rfl⟩;rw[Ro];exact⟨e1,by rw[Ro];exact⟨e3,e2⟩⟩
 obtain⟨H',I',sm,g⟩:=hZ rows _ I1 (by rw[wV];exact E.2.1) fun r hr=>by
  obtain⟨⟨t,y,kv⟩,hq,rfl⟩:=Qj.mp hr;obtain⟨j,M⟩:=Rs hq;rw[Ro] at M;obtain⟨N,F⟩:=M;rw[Ro] at F;obtain⟨F,j3⟩:=F;obtain⟨y',g1,g2,g3,g4⟩:=D j t kv N j3;rw[F] at g3;obtain rfl:=Al g3;have A:s⁻¹<t:=U t (Ai N);refine⟨I.fpOk (Q5 A) ?_,AA I.sz (Q5 A),by show 2<=sizeLine;rw[sizeLine_eq];omega,[.ref y.2.1,y.2.2],.cons rfl (.cons g2 .nil),⟨_,g4,rfl,_,rfl⟩⟩;rw[ah (A3 A)];exact I.hok.fresh (Q5 A)
 have key:∀(a:List Addr)(b:List (List Key×V)),a.length=b.length->(∀(j:Nat) t kv,a[j]?=some t->b[j]?=some kv->∃c,H' t=some (.tup [.ref c,kv.2])/\H' c=some (.tup (kv.1.map kV)))->Paired (fun t(kv:List Key×V)=>∃b,H' t=some (.tup [.ref b,kv.2])/\H' b=some (.tup (kv.1.map kV))) a b:=by
  intro a
  induction a with
  |nil=>
   intro b hb _;cases b with
   |nil=>exact .nil
   |cons x y=>simp at hb
  |cons x a ih=>
   intro b hb f;cases b with
   |nil=>simp at hb
   |cons y b=>exact .cons (f 0 x y rfl rfl) (ih b (by simpa using hb) fun j t kv e1 e2=>f (j+1) t kv (by simpa using e1) (by simpa using e2))
 refine⟨.ref s⁻¹,H',I',rfl,q H' _ ts (P.trans sm) O (sm _ _ ae) (key _ _ C fun j t kv e1 e2=>?_)⟩;obtain⟨y,g1,g2,g3,g4⟩:=D j t kv e1 e2;exact⟨y.2.1,g _ (p j t kv y e1 e2 g3),sm _ _ (P _ _ g1)⟩
end
end L2
end
section
namespace K64
open K1
open PySem L2 STb
noncomputable abbrev tD:Stmt:=top 40
abbrev Dj(K:Ae):List V->Hp->VK->Prop:=fun xs H Q=>∃p ys,xs=[.ref p]/\(SqL K H p ys\/SqT K H p ys)/\Q (.int ys.length) H
abbrev pQ(K:Ae):TT:=eB (cp (dR fun i j=>.bl (decide (j<i))) (gS (Dj K) (zJ (ax 1) br)) (tC (.int 1)))
section
variable{P:Program}{w:World}{K:Ae}{mg:Str->Option Value}{base:Heap}
def M6{H2:Hp}{a D:Addr}{ps:List Int}{Q:VK}(ha:Tp H2 a ps)(hz:ps.length<=5)(q:H2 D=none)(k:∀(H3:Hp)(bs:List Addr),Same H2 H3->H3 D=some (.lst (bs.map V.ref))->Tps H3 bs (rims ps)->Q (.ref D) H3):zV (gk 0 ps.length) (zN 0) (pQ K) i4 [none,some (.ref a)] H2 D Q:=by
 refine oR (fun j σ ys H3=>∃(v:Option V)(bs:List Addr),σ=[v,some (.ref a)]/\Same H2 H3/\H3 D=some (.lst ys)/\ys=bs.map V.ref/\Tps H3 bs ((rims ps).take j)) ?_ ?_ ?_
 ·exact⟨none,[],rfl,Same.new q,ae,rfl,by rw[List.take_zero];exact .nil⟩
 ·rintro j σ ys H3 f hy ⟨v,bs,rfl,sm,c,rfl,hb⟩
  refine⟨_,rfl,a,_,rfl,.inr (SqT.of (sm.tp ha)),_,_,rfl,rfl,_,rfl,?_⟩;rw[Ab]
  by_cases h1:ps.length=1
  ·have g:rims ps=[]:=by unfold rims;rw[Th h1]
   rw[Tk ω];refine aC (dX f hy ⟨_,bs,rfl,sm,c,rfl,?_⟩);rw[g] at hb ⊢;rw[List.take_nil] at hb ⊢;exact hb
  ·have g:rims ps=(AD ps.length).map fun k=>ps.take k++ps.drop (k+1):=by unfold rims;rw[Ti h1]
   rw[Tj ω];refine bd ?_;have e:(rims ps)[j]?=some (ps.take j++ps.drop (j+1)):=by rw[g,Ag,Rg f];rfl
   refine⟨_,rfl,_,rfl,_,rfl,a,_,rfl,sm.tp ha,fun r x h i=>⟨_,rfl,_,rfl,_,_,rfl,rfl,_,rfl,a,_,rfl,h _ _ (sm.tp ha),fun p2 y l o=>?_⟩⟩;rw[show(0:Int)+((j:Nat):Int)=((j:Nat):Int) from ω,pi _ _ (by rw[Ab];omega),<-S5] at i;rw[show(0:Int)+((j:Nat):Int)+1=((j+1:Nat):Int) from ω,k5 _ _ (by rw[Ab];omega),<-RE] at o;refine⟨r,p2,_,_,rfl,rfl,l _ _ i,o,zh (by simp;omega),fun u A w p=>?_⟩;rw[<-Aj] at p;have d:=(h.trans l).trans w;refine bz (zh ω) f hy (d _ _ c) ⟨_,bs++[u],rfl,(sm.trans d).then q,ae,by rw[Aj];rfl,?_⟩;rw[AH e];exact Tps.upd (Tps.snoc (d.tps hb) p) (d _ _ c) (by intro xs z;cases z)
 ·rintro σ ys H3 ⟨v,bs,rfl,sm,c,rfl,hb⟩
  rw[As (k4 ps)] at hb;exact k H3 bs sm c hb
def M7:zp ["piece"] ["piece"] (zi tD):=⟨rfl,rfl,rfl,δ,rfl,δ,δ⟩
def M8{f:Addr}{fd:FuncData}(F:Fun K "_law_rims" "_law_rims" tD f fd)(B:Bt mg):FnOk P w K mg base aR 1 f fd ["piece"] k7:=by
 refine F.ok M7 (fun vs H Q E h=>?_) (fun j A outer s H vs Q E hr h=>?_)
 ·obtain⟨a,ps,rfl,_⟩:=h;rfl
 ·obtain⟨a,ps,rfl,ha,g,k⟩:=h
  refine⟨_,zg (zm (zq ["piece"] ["k","piece"] [none,some 0] (iC rfl B.range (zc (zl zo rfl B.len dv (zc (pv 0) zd)) zd)) (fun c C s₀ H₀ ex=>zk (i:=0) (cz ["k","piece"]) rfl (Or.inl rfl))
    (fun c C s₀ H₀ ex=>jC (zn nW (zl zo rfl B.len dv (zc (pv 1) zd)) zf (al _)))
    (fun c C s₀ H₀ ex=>zy CZ (iN sI (pv 1) iJ (iK (pv 0))) (iN sI (pv 1) (iK (zy zS (pv 0) zf)) iJ)) (hfr:=cx (zi tD) δ) (tc:=pQ K) (te:=i4))),?_⟩
  refine⟨_,rfl,a,_,rfl,.inr (SqT.of ha),_,rfl,by rw[Ab];omega,by rw[Ab];omega,fun D d=>?_⟩;rw[Ab];exact zx (M6 ha g d fun H3 bs sm e hb=>k D H3 bs sm d e hb)
def jS{H:Hp}{b:Addr}{ps:List Int}(h:Tp H b ps):H b=some (.tup ((ps.map Sum.inl:List Key).map kV)):=by rw[Am];exact h
def G9{H2:Hp}{L D:Addr}{as:List Addr}{e:Ξ}{Q:VK}{p:List Int->Bool}{tc:TT}{c:List (Option V)}(u:∀(o:Addr)(os:List Int)(H:Hp)(R:Bool->Hp->Prop),Same H2 H->Tp H o os->os∈e->(∀H',Same H H'->R (p os) H')->tc (some (.ref o)::c) H R)(w:SqL K H2 L (as.map V.ref))(ht:Tps H2 as e)(hz:e.length<=1000)(i:H2 D=none)(k:∀H3 bs,Same H2 H3->H3 D=some (.lst (bs.map V.ref))->Tps H3 bs (e.filter p)->Q (.ref D) H3):zV (dP K L) (zN 0) tc (ax 0) (none::c) H2 D Q:=by
 have q:=ht.length;refine zH (xs:=as.map V.ref) (fun j σ ys H3=>∃(v:Option V)(bs:List Addr),σ=v::c/\Same H2 H3/\H3 D=some (.lst ys)/\ys=bs.map V.ref/\Tps H3 bs ((e.take j).filter p)) ?_ ?_ ?_ ?_
 ·exact⟨none,[],rfl,Same.new i,ae,rfl,.nil⟩
 ·rintro j σ ys H3 ⟨v,bs,rfl,sm,d,rfl,_⟩
  exact sm.seq w
 ·rintro j σ ys H3 x hx g hy ⟨v,bs,rfl,sm,d,rfl,hb⟩
  obtain⟨o,l,rfl⟩:=dL hx;obtain⟨os,f,h⟩:=ht.get l;have r:(as.map V.ref).length<=sizeLine:=by rw[Ab];exact zh ω
  refine u o os H3 _ sm (sm.tp h) (Ai f) fun y a=>?_;cases hp:p os
  ·refine aC (dX g hy ⟨_,bs,rfl,sm.trans a,a _ _ d,rfl,?_⟩)
   rw[AH f,Bf,Q3 (by rw[hp];simp),Sd,QD];exact a.tps hb
  ·refine bd ⟨_,rfl,bz r g hy (a _ _ d) ⟨_,bs++[o],rfl,(sm.trans a).then i,ae,by rw[Aj];rfl,?_⟩⟩
   rw[AH f,Bf,Q4 hp];exact Tps.upd (Tps.snoc (a.tps hb) ((sm.trans a).tp h)) (a _ _ d) (by intro xs z;cases z)
 ·rintro σ ys H3 ⟨v,bs,rfl,sm,d,rfl,hb⟩
  rw[Ab,q,As (Af _)] at hb;exact k H3 bs sm d hb
end
end K64
end
section
namespace DCp
open PySem
def Dl:mroOf (.type "dict")=pure [.type "dict",.type "object"]:=by rw[mroOf_type];kernel_rfl
def M9:typeLookup (.type "dict") "__new__"=pure (some (.builtin "dict.__new__")):=by rw[typeLookup_type,builtinLookup_eq_fast];kernel_rfl
def zw:TypeCalled "dict" "dict.__new__" "dict.__init__":=
 ⟨δ,δ,⟨_,_,Dl⟩,madeBy_type Dl M9 δ,δ,by rw[isSubtype_type];kernel_rfl,PySem.F.slot_dict_init⟩
def G_(a:Value):checkTypeCall "dict" ⟨[a],[]⟩=pure ():=by kernel_rfl
def M_(a:Value):checkBuiltinCall "dict.__new__" ⟨[.type "dict",a],[]⟩=pure ():=by kernel_rfl
def M':entryFor table "dict.__new__"=some Builtin.«dict.__new__»:=entryFor_of_tree (by kernel_rfl)
def G':plainId "dict.__new__"=true:=δ
def pS:isSubtype (.type "dict") (.type "dict")=pure true:=by rw[isSubtype_type];kernel_rfl
section
variable{prog:Program}{w:World}{A:Around}{E:Ω}{s:Shared}
def Ha(a:Value){Q₁:Ω}(h:Q₁ (.ref s⁻¹) {s with heap:=s.heap.push {cls:=.type "dict",data:=.dict #[]}}):codeAny (model prog w) A (.call (.builtin "dict.__new__") ⟨[.type "dict",a],[]⟩) (wants Q₁ E) s:=by
 refine codeAny_of_tree (show wpAny _ A.in1 (do checkBuiltinCall "dict.__new__" ⟨[.type "dict",a],[]⟩;again (.builtin "dict.__new__" ⟨[.type "dict",a],[]⟩)) _ _ s from Aa (wpAny_of_eq (M_ a) (Ac ⟨plainId_quiet G' _,Bh M' ?_⟩)));rw[A4 G' _];unfold Builtin.«dict.__new__»;have c:=pS;have e:=Dl;obtain⟨hp,g,d,tk,os⟩:=s;dsimp only;refine Aa (wpAny_of_eq (a:=true) rfl ?_);simp only[QV,Av,if_false];refine Aa (wpAny_of_eq c ?_);simp only[QV,Av,if_false];refine Aa (wpAny_of_eq e ?_);rw[Ti ξ];refine Aa (AI ?_);exact Ac h
def Na{id:String}{d:Addr}{o:Obj}{es:Array DictEntry}{ep:Nat}{Q:Array DictEntry->Shared->Prop}(i:s.heap.get? d=some o)(hd:o.data=.dict es ep)(hk:∀e∈es.toList,∃b,e.key=.ref b/\s.TypeIs (.ref b) "tuple")(j:∀e∈es.toList,(es.filter (·.hash==e.hash)).size<=1)(h:Q es s):wpAny (model prog w) A (Builtin.Dict.entriesForEmpty id d) Q E s:=by
 unfold Builtin.Dict.entriesForEmpty;refine Aa (AJ i hd ?_);refine Aa ?_;show wpAny _ _ (forIn es _ _) _ _ s;rw[<-Array.forIn_toList];refine wpAny_forIn_list _ (fun rest r s'=>s'=s/\∀e∈rest,e∈es.toList) _ ?_ ?_ _ _ ⟨rfl,fun _ z=>z⟩
 ·rintro e rest r s' ⟨rfl,a⟩
  have c:=a e Ay;obtain⟨b,g,hT⟩:=hk e c;have nx:∀e∈rest,e∈es.toList:=fun u f=>a u (Aw _ f);have l:=j e c;unfold Builtin.Dict.quietEq;rw[g];refine Aa ?_;dsimp only;refine Aa (wpAny_specialOf hT F.slot_tuple_eq.lookup (Ac ?_));rw[Th ξ,Ti ω];exact Ac ⟨rfl,nx⟩
 ·rintro r s' ⟨rfl,_⟩
  exact Ac h
def Nb{id:String}{D d:Addr}{o:Obj}{es:Array DictEntry}{ep:Nat}{Q:Unit->Shared->Prop}(c:s.heap.get? d=some o)(hd:o.data=.dict es ep)(u:(d==Bc)=false)(hz:es.size<=sizeLine)(i:D≠d)(hk:∀e∈es.toList,∃b,e.key=.ref b/\s.TypeIs (.ref b) "tuple")(v:∀e∈es.toList,(es.filter (·.hash==e.hash)).size<=1)(f:s.heap.get? D=some {cls:=.type "dict",data:=.dict #[]})(h:∀h' j,h'.get? D=some {cls:=.type "dict",data:=.dict es j}->Heap.SameBut D s.heap h'->Q () {s with heap:=h'}):wpAny (model prog w) A (Builtin.Dict.mergeDict id D d) Q E s:=by
 unfold Builtin.Dict.mergeDict;rw[Ti (by simpa using i)];unfold Builtin.Dict.showsAll;rw[Ti (by rw[u];exact An)];refine Aa (Ac ?_);refine Aa (AJ c hd ?_)
 by_cases q:es.size=0
 ·have p:es=#[]:=Array.eq_empty_of_size_eq_zero q
  subst p;have g:(decide ((#[]:Array DictEntry).size<=8)&&(#[]:Array DictEntry).all fun e=>(keyPart e.key).isSome)=true:=by simp
  dsimp only;rw[g];simp only[QV,Av,if_false];refine Aa (wpAny_dictEpoch c hd ?_);refine Aa (AJ c hd ?_);refine Aa ?_;rw[Std.Legacy.Range.forIn_eq_forIn_range'];refine wpAny_of_eq (a:=PUnit.unit) rfl ?_;exact Ac (h s.heap 0 f (Heap.SameBut.refl ..))
 ·have g:(decide (es.size<=8)&&es.all fun e=>(keyPart e.key).isSome)=false:=by
   have r:0<es.size:=Nat.pos_of_ne_zero q;obtain⟨b,l,_⟩:=hk es[0] (by simp);have:(es.all fun e=>(keyPart e.key).isSome)=false:=by
    rw[Bool.eq_false_iff];intro z;rw[Array.all_eq_true] at z;have:=z 0 r;rw[l] at this;exact absurd this (by simp[keyPart])
   rw[this,Sn]
  dsimp only;rw[g];simp only[Bool.not_false,if_true];refine Aa (AJ f rfl ?_);rw[Th (show(#[]:Array DictEntry).isEmpty=true from rfl)];refine Aa (Na c hd hk v ?_);rw[Th (by simpa[Array.isEmpty] using q)];refine Aa (wpAny_updateDictKeysTo f rfl ?_ ω);refine Ac (h _ 1 ?_ (AO ..));rw[Heap.get?_update_self _ f (by simp[Obj.mapDictKeys,Obj.isFreed])]
  rfl
def Nc{d:Addr}{o:Obj}{es:Array DictEntry}{ep:Nat}{Q:Ω}(v:s.heap.get? d=some o)(hx:o.ExactDict)(hd:o.data=.dict es ep)(I:(d==Bc)=false)(hz:es.size<=sizeLine)(hk:∀e∈es.toList,∃b,e.key=.ref b/\s.TypeIs (.ref b) "tuple")(J:∀e∈es.toList,(es.filter (·.hash==e.hash)).size<=1)(h:∀h' f,h'.get? s⁻¹=some {cls:=.type "dict",data:=.dict es f}->(∀b o,b<s⁻¹->s.heap.get? b=some o->h'.get? b=some o)->Q (.ref s⁻¹) {s with heap:=h'}):wpAny (model prog w) A (call (.type "dict") [.ref d]) Q E s:=by
 obtain⟨c,tl,L⟩:=zw.mro;have M:=zw.made;have N:=zw.sub;refine wpAny_call (codeAny_of_tree ?_);show wpAny _ _ (callAny (.type "dict") _) _ _ _;refine Ac ⟨Code.quiet_builtin _ δ,Bh F.entry_type_call ?_⟩;rw[Around.under_plain (weight_type_call_type "dict" [.ref d] []) rfl];have h1:=zw.notType;have h2:=zw.canCreate;have O:=G_ (.ref d)
 repeat(any_goals(first|assumption|wp_step))
 refine codeAny_mono (Ha (.ref d) (E:=E) (Q₁:=fun obj l=>obj=.ref s⁻¹/\l={s with heap:=s.heap.push {cls:=.type "dict",data:=.dict #[]}}) ⟨rfl,rfl⟩) fun r l hr=>?_;cases r with
 |error e=>exact hr
 |ok fl=>
  cases fl with
  |ret obj=>
   obtain⟨rfl,rfl⟩:=hr;have q:(s.heap.push {cls:=.type "dict",data:=.dict #[]}).get? s⁻¹=some {cls:=.type "dict",data:=.dict #[]}:=Ak _ rfl;have u:Shared.TypeIs {s with heap:=s.heap.push {cls:=.type "dict",data:=.dict #[]}} (.ref s⁻¹) "dict":=⟨_,q,rfl⟩;have P:=zw.init.lookup;have S:=zw.init.bind (.ref s⁻¹)
   repeat(any_goals(first|assumption|wp_step))
   refine codeAny_mono (codeAny_call_builtin (R:=wants (fun r p=>r=.none/\∃h' f,p={s with heap:=h'}/\
     h'.get? s⁻¹=some {cls:=.type "dict",data:=.dict es f}/\
     (∀b o,b<s⁻¹->s.heap.get? b=some o->h'.get? b=some o)) E) zw.init.plain F.entry_dict_init (zw.init.check _ _ _ _ _ _ _ _ u (F.args_dict_init_2 _ _) ?_)) fun x p i=>?_
   ·have H:d<s⁻¹:=Aq v
    have g:(s.heap.push {cls:=.type "dict",data:=.dict #[]}).get? d=some o:=Ad _ v;have j:Shared.TypeIs {s with heap:=s.heap.push {cls:=.type "dict",data:=.dict #[]}} (.ref d) "dict":=⟨o,g,hx.1⟩;unfold Builtin.«dict.__init__»;refine Aa ?_;unfold Builtin.Dict.selfAndRest;refine Aa (wpAny_notOrdered_dict u ?_);refine Aa (show wpAny _ _ (pure s⁻¹) _ _ _ from Ac ?_);refine Ac ?_;show wpAny _ _ (Builtin.Dict.updateCommon "dict.__init__" "dict" s⁻¹ [Value.ref d] []) _ _ _;unfold Builtin.Dict.updateCommon Builtin.Dict.updateFrom;dsimp only;refine Aa (wpAny_typeOf j ?_);rw[Ti ξ];unfold Builtin.Dict.merge Builtin.Dict.readDirectly;refine Aa (Aa (Aa (wpAny_isInstance j pS ?_)));simp only[QV,Av,if_false];refine Aa (wpAny_specialOf j F.slot_dict_iter.lookup (Ac ?_));rw[Th ξ];refine Aa (show wpAny _ _ (pure d) _ _ _ from Ac ?_);refine Nb (s:={s with heap:=s.heap.push {cls:=.type "dict",data:=.dict #[]}}) g hd I hz (A3 H) (fun e y=>let ⟨b,e1,o,e2,e3⟩:=hk e y;⟨b,e1,o,Ad _ e2,e3⟩) J q fun h' f C sb=>?_;unfold Builtin.Dict.addKeywords;refine Aa (wpAny_of_eq (a:=()) rfl ?_);refine Ac ⟨rfl,h',f,rfl,C,fun b o hb e=>?_⟩;rw[sb.2 b (Au hb)];exact Ad _ e
   ·cases x with
    |error e=>exact i
    |ok fl₂=>
     cases fl₂ with
     |ret r=>
      obtain⟨rfl,h',f,rfl,D,G⟩:=i
      repeat(any_goals(first|assumption|wp_step))
      exact h _ _ D G
     |_=>exact i.elim
  |_=>exact hr.elim
end
end DCp
end
section
namespace L2
open PySem PySem.Spec PyProof.Rows
def Hb{P:Program}{w:World}(ps:List Int):tupleKeyHash (zB P w) (ps.map Sum.inl)=tupleKeyHash (intKind P w) ps:=by
 unfold tupleKeyHash;rw[Am]
 rfl
def Hc{a:Type}(f:a->Int):∀(l:List a),(l.map f).Nodup->∀c,(l.filter fun x=>f x==c).length<=1
 |[],_,c=>by simp
 |x::l,h,c=>by
  rw[At,Qp] at h;have d:=Hc f l h.2 c
  by_cases q:f x=c
  ·rw[Q4 (by simpa using q)]
   have:l.filter (fun x=>f x==c)=[]:=List.filter_eq_nil_iff.mpr fun y hy z=>h.1 (by rw[q,<-(by simpa using z:f y=c)];exact R7 hy);rw[this];simp
  ·rw[Q3 (by simpa using q)]
   exact d
section
variable{X:Cx}
def Hd:da X (.type "dict") (fun xs H Q=>∃(a:Addr)(kvs:List (List Key×V))(ad:Ξ),xs=[.ref a]/\Rd H a (.dT kvs)/\kvs.map (·.1)=ad.map (·.map Sum.inl)/\(ad.map (tupleKeyHash (intKind X.prog X.w))).Nodup/\
  ∀D,H D=none->Q (.ref D) (upd H D (.dT kvs))):=by
 intro aa s σ H xs us Q I r h;obtain⟨a,kvs,ad,rfl,hq,hp,C,q⟩:=h;obtain⟨u,rfl,E⟩:=vals1 r;cases E;obtain⟨z,y,ys,c,o,es,ep,h1,h2,F,g,G⟩:=(show zC X.prog X.w H s.heap a (.dT kvs) from hq.ok I.hok);have L:kvs.length=ys.length:=A0 c;have N:es.size=ys.length:=by
  have:=congrArg List.length g;rw[Ab] at this
  simpa using this
 have M:ys.map (·.1)=ad.map (·.map Sum.inl):=by
  rw[<-hp];have:∀{l:List (List Key×V)}{m:List (List Key×Addr×Value)},KT H l m->m.map (·.1)=l.map (·.1):=by
   intro l m q
   induction q with
   |nil=>rfl
   |cons hq t ih=>rw[At,At,ih,hq.1]
  exact this c
 have f:es.toList.map (·.hash)=ad.map (tupleKeyHash (intKind X.prog X.w)):=by
  rw[g,Am];have e1:ys.map ((·.hash) ∘ entryOfKey (tupleKind (zB X.prog X.w)))=(ys.map (·.1)).map (tupleKeyHash (zB X.prog X.w)):=by rw[Am];rfl
  rw[e1,M,Am];exact Ax fun ps _=>Hb ps
 have tk:∀e∈es.toList,∃b,e.key=.ref b/\s.TypeIs (.ref b) "tuple":=fun e i=>by
  rw[g] at i;obtain⟨d,hw,rfl⟩:=Qj.mp i;have:∀{l:List (List Key×V)}{m:List (List Key×Addr×Value)},KT H l m->∀d∈m,∃ks:List Key,H d.2.1=some (.tup (ks.map kV)):=by
   intro l m q
   induction q with
   |nil=>intro d hw;cases hw
   |cons hq t ih=>
    intro d hw;rcases Qk.mp hw with rfl|hw
    ·exact⟨_,hq.2.1⟩
    ·exact ih d hw
  obtain⟨ks,J⟩:=this c d hw;exact⟨d.2.1,rfl,(iS (P:=X.prog) (w:=X.w) I.hok J).typeIs⟩
 refine DCp.Nc h1 h2 F y ω tk (fun e i=>?_) fun h' v x A=>?_
 ·have:=Hc (fun e:DictEntry=>e.hash) es.toList (by rw[f];exact C) e.hash
  rw[<-AE,Array.toList_filter];exact this
 ·have p:=I.hok.fresh (Af s⁻¹)
  have hy:(s⁻¹==Bc)=false:=by
   have:=I.big
   simpa using A3 this
  have j:KT (upd H s⁻¹ (.dT kvs)) kvs ys:=KT.keeps c fun b zs e=>by rw[ah (zj e p)];exact e
  exact⟨.ref s⁻¹,_,I.laid (t':=s.toks) (o:=.dT kvs) (fun b u e=>A b u (Aq e) e) (Af _) (show zC X.prog X.w _ h' _ (.dT kvs) from⟨z,hy,ys,j,_,es,v,x,⟨rfl,rfl,rfl⟩,rfl,g,G⟩),rfl,q _ p⟩
end
end L2
end
section
namespace DPr
open PySem PyProof.Rows
section
variable{prog:Program}{w:World}{A:Around}{E:Ω}{s:Shared}
def Nd:typeLookup (.type "list") "keys"=pure none:=by rw[typeLookup_type,builtinLookup_eq_fast];kernel_rfl
def Nf{a:Addr}{o:Obj}{xs:Array Value}{k:Nat}{Q:Option Value->Shared->Prop}(hx:s.heap.get? a=some o)(hc:o.cls=.type "list")(i:o.data=.seq xs k)(hd:o.dict=none)(l:A.handled=none)(h:∀h' tk e,Heap.NewExcOf s.heap h' e "AttributeError"->Q none {s with heap:=h',toks:=tk}):wpAny (model prog w) A (getAttr? (.ref a) "keys") Q E s:=by
 obtain⟨c,x,y,j⟩:=o;simp only at hc i hd;subst hc i hd;obtain⟨hp,g,d,tk,os⟩:=s;have hT:∀f,(⟨hp,g,d,f,os⟩:Shared).TypeIs (.ref a) "list":=fun _=>⟨_,hx,rfl⟩;have f1:=sub_AttributeError;have r:=F.slot_list_getattribute.lookup;have u:=F.slot_list_getattribute.bind (.ref a);have v:=am_list_getattr_none;unfold getAttr? getAttrBy? getAttrBy
 repeat(any_goals(first|assumption|exact hT _|((with_reducible show wpAny _ _ (call (Value.builtin "list.__getattribute__") _ _) _ _ _);refine call_meets F.slot_list_getattribute (hT _) am_entry_list_getattribute (F.args_list_getattribute_2 _ _) (meets_getattribute_miss_list a xs k j "keys" _ Nd ξ (by size_fits)) ⟨hx,l,fun h' f e hx'=>?_⟩)|wp_step))
 obtain⟨t',p,q⟩:=hx'.there;show wpAny _ _ (getattributeRaised _ _ _ _ _ _ _) _ _ _;unfold getattributeRaised
 repeat(any_goals(first|assumption|wp_step))
 exact h _ _ _ hx'.of
def He:entryFor table "dict.update.loop"=some Builtin.«dict.update.loop»:=entryFor_of_tree (by kernel_rfl)
def tE:plainId "dict.update.loop"=true:=δ
noncomputable abbrev lp(D I:Addr)(i:Int):Code:=.builtin "dict.update.loop" ⟨[.ref D,.ref I,rawInt i,.none],[]⟩
variable{K:Type}[DecidableEq K]{knd:KeyKind prog w K}
abbrev Pr(K:Type):Type:=Addr×List K×Addr×Value
def Good(knd:KeyKind prog w K)(h:Heap)(x:Pr K):Prop:=h.IsTuple x.1 #[.ref x.2.2.1,x.2.2.2]/\IsTupleKey knd h x.2.1 x.2.2.1
noncomputable def pU(xs:List (List K×Addr×Value))(ts:List (Pr K)):List (List K×Addr×Value):=ts.foldl (fun acc x=>storedH acc x.2.1 x.2.2.1 x.2.2.2) xs
def Hf{h h':Heap}{x:Pr K}{D I:Addr}{o:Obj}(g:Good knd h x)(A:∃o,h.get? D=some o/\o.cls=.type "dict")(C:∃o,h.get? I=some o/\o.cls=.type "list_iterator")(j:∀b o,b≠D->b≠I->h.get? b=some o->h'.get? b=some o):Good knd h' x:=by
 obtain⟨⟨l,e1,f,p⟩,q,it,n,e2,i,r⟩:=g;obtain⟨E,u,v⟩:=A;obtain⟨F,w,y⟩:=C;have ne:∀{a:Addr}{e:Obj},h.get? a=some e->e.cls=.type "tuple"->a≠D/\a≠I:=fun{a e} c d=>by
  refine⟨fun z=>?_,fun z=>?_⟩
  ·rw[z,u] at c
   rw[<-Al c,v] at d;exact absurd d ξ
  ·rw[z,w] at c
   rw[<-Al c,y] at d;exact absurd d ξ
 exact⟨⟨l,j _ _ (ne e1 f).1 (ne e1 f).2 e1,f,p⟩,q,it,n,j _ _ (ne e2 i).1 (ne e2 i).2 e2,i,r⟩
def Hg{h h':Heap}{D I:Addr}{xs:List (List K×Addr×Value)}(d:h.DictOfH (tupleKind knd) D xs)(c:D≠I)(u:∃o,h.get? I=some o/\o.cls=.type "list_iterator")(e:∀b o,b≠I->h.get? b=some o->h'.get? b=some o):h'.DictOfH (tupleKind knd) D xs:=by
 obtain⟨o,es,ep,f,hc,hd,g,i,j⟩:=d;obtain⟨v,l,p⟩:=u;refine⟨o,es,ep,e _ _ c f,hc,hd,g,fun x hx=>?_,j⟩;obtain⟨q,it,n,e2,a,r⟩:=i x hx;refine⟨q,it,n,e _ _ (fun z=>?_) e2,a,r⟩;rw[z,l] at e2;rw[<-Al e2,p] at a;exact absurd a ξ
def pair_items{t:Addr}{c:Array Value}{Q:List Value->Shared->Prop}(ht:s.heap.IsTuple t c)(h:Q c.toList s):wpAny (model prog w) A (Builtin.Dict.pairItems (.ref t)) Q E s:=by
 obtain⟨o,a,hc,n,hd⟩:=ht;unfold Builtin.Dict.pairItems;refine Aa (wpAny_typeOf (show s.TypeIs (.ref t) "tuple" from⟨o,a,hc⟩) ?_);rw[Th ξ];exact Aa (wpAny_seqItems a hd (Ac h))
def Ng(xs:List (List K×Addr×Value))(k:List K)(a:Addr)(v:Value):(storedH xs k a v).length<=xs.length+1:=by
 unfold storedH;split
 ·rw[Ab];omega
 ·rw[Ar];simp
def Hh{D I L:Addr}{ts:List (Pr K)}{R:Result->Shared->Prop}(q:A.handled=none)(hu:A.units+1<cLine)(ld:D≠I)(E:L≠D)(r:L≠I):∀(k j:Nat)(s:Shared)(xs:List (List K×Addr×Value)),ts.length-j=k->j<=ts.length->s.heap.IsListIter I L j->s.heap.IsList L (ts.map fun x=>Value.ref x.1).toArray->(∀x∈ts,Good knd s.heap x)->
   s.heap.DictOfH (tupleKind knd) D xs->xs.length+k<=sizeLine->
   (∀h' tk,h'.DictOfH (tupleKind knd) D (pU xs (ts.drop j))->(∀b o,b≠D->b≠I->s.heap.get? b=some o->h'.get? b=some o)->R (.ok (.ret .none)) {s with heap:=h',toks:=tk})->
   codeAny (model prog w) A (lp D I j) R s
 |0,j,s,xs,hk,hj,av,hl,hg,hd,hz,hQ=>by
  have Q:j=ts.length:=ω
  subst Q;have W:=Walks.list (prog:=prog) (w:=w) (A:=A.in1) q I L r (ts.map fun x=>Value.ref x.1).toArray;refine Bh He ?_;rw[A4 tE _];unfold Builtin.«dict.update.loop»;dsimp only[rawInt];refine Aa (W.done s _ _ ⟨by simpa using av,hl⟩ fun h' tk d=>?_);dsimp only;unfold Builtin.Dict.addKeywords;refine Aa (wpAny_of_eq (a:=()) rfl ?_);obtain⟨c,f,g,_⟩:=av;refine Ac (hQ h' tk ?_ fun b o _ hb e=>d b o (by simpa using hb) e);rw[List.drop_length];exact Hg hd ld ⟨c,f,g⟩ fun b o hb e=>d b o (by simpa using hb) e
 |k+1,j,s,xs,hk,hj,av,hl,hg,hd,hz,hQ=>by
  have W:=Walks.list (prog:=prog) (w:=w) (A:=A.in1) q I L r (ts.map fun x=>Value.ref x.1).toArray;have h:j<ts.length:=ω
  refine Bh He ?_;rw[A4 tE _];unfold Builtin.«dict.update.loop»;dsimp only[rawInt];refine Aa (W.item j s _ _ (by simpa using h) ⟨av,hl⟩ fun v h1 tk F u d=>?_);have S:v=.ref (ts[j]).1:=by
   have:(ts.map fun x=>Value.ref x.1).toArray[j]?=some (Value.ref (ts[j]).1):=by simp[h]
   exact Al (F.symm.trans this)
  subst S;have X:=hg ts[j] (Bi h);obtain⟨c,f,g,_⟩:=id av;have y:∃o,s.heap.get? D=some o/\o.cls=.type "dict":=by
   obtain⟨o,es,ep,N,hc,_⟩:=hd;exact⟨o,N,hc.1⟩
  have i:∀b o,b≠D->b≠I->s.heap.get? b=some o->h1.get? b=some o:=fun b o _ hb e=>d b o (by simpa using hb) e;have T:∀x∈ts,Good knd h1 x:=fun x hx=>Hf (o:=c) (hg x hx) y ⟨c,f,g⟩ i;have U:h1.DictOfH (tupleKind knd) D xs:=Hg hd ld ⟨c,f,g⟩ fun b o hb e=>d b o (by simpa using hb) e;obtain⟨O,P⟩:=T ts[j] (Bi h);dsimp only;refine Aa (AU (Aa (wpAny_tryCatch (pair_items (s:={s with heap:=h1,toks:=tk}) O ?_))));dsimp only;refine AU (wpAny_dictSet_heap (knd:=tupleKind knd) (s:={s with heap:=h1,toks:=tk}) (hsz:=by omega) (tupleKind_room_in1 hu) P U fun h2 G sb=>?_);have C:∀b o,b≠D->b≠I->s.heap.get? b=some o->h2.get? b=some o:=fun b o hb hi e=>by rw[sb.2 b hb];exact i b o hb hi e
  have l:h2.IsListIter I L (j+1):=u.1.at fun o e=>by rw[sb.2 I (Ne.symm ld)];exact e
  have p:h2.IsList L (ts.map fun x=>Value.ref x.1).toArray:=u.2.at fun o e=>by rw[sb.2 L E];exact e
  refine Ac ⟨plainId_quiet tE _,?_⟩;refine Hh q hu ld E r k (j+1) {s with heap:=h2,toks:=_} _ ω ω l p (fun x hx=>Hf (o:=c) (hg x hx) y ⟨c,f,g⟩ C) G (by have:=Ng xs (ts[j]).2.1 (ts[j]).2.2.1 (ts[j]).2.2.2;omega) fun h' H J M=>hQ h' H ?_ fun b o hb hi e=>M b o hb hi (C b o hb hi e);rw[Rl h];exact J
end
end DPr
end
section
namespace DPr
open PySem PyProof.Rows DCp
section
variable{prog:Program}{w:World}{A:Around}{E:Ω}{s:Shared}{K:Type}[DecidableEq K]{knd:KeyKind prog w K}
def tQ{L:Addr}{o:Obj}{n:Nat}{ts:List (Pr K)}{Q:Ω}(J:A.handled=none)(hu:A.units+2<cLine)(M:s.heap.get? L=some o)(hc:o.cls=.type "list")(N:o.data=.seq (ts.map fun x=>Value.ref x.1).toArray n)(xr:o.dict=none)(hg:∀x∈ts,Good knd s.heap x)(hz:ts.length<=sizeLine)(h:∀h' tk,h'.DictOfH (tupleKind knd) s⁻¹ (pU [] ts)->(∀b o,b<s⁻¹->s.heap.get? b=some o->h'.get? b=some o)->Q (.ref s⁻¹) {s with heap:=h',toks:=tk}):wpAny (model prog w) A (call (.type "dict") [.ref L]) Q E s:=by
 obtain⟨c,tl,gl⟩:=zw.mro;have j8:=zw.made;have bV:=zw.sub;refine wpAny_call (codeAny_of_tree ?_);show wpAny _ _ (callAny (.type "dict") _) _ _ _;refine Ac ⟨Code.quiet_builtin _ δ,Bh F.entry_type_call ?_⟩;rw[Around.under_plain (weight_type_call_type "dict" [.ref L] []) rfl];have h1:=zw.notType;have h2:=zw.canCreate;have rn:=G_ (.ref L)
 repeat(any_goals(first|assumption|wp_step))
 refine codeAny_mono (Ha (.ref L) (E:=E) (Q₁:=fun obj l=>obj=.ref s⁻¹/\l={s with heap:=s.heap.push {cls:=.type "dict",data:=.dict #[]}}) ⟨rfl,rfl⟩) fun r l hr=>?_;cases r with
 |error e=>exact hr
 |ok fl=>
  cases fl with
  |ret obj=>
   obtain⟨rfl,rfl⟩:=hr;have v:(s.heap.push {cls:=.type "dict",data:=.dict #[]}).get? s⁻¹=some {cls:=.type "dict",data:=.dict #[]}:=Ak _ rfl;have y:Shared.TypeIs {s with heap:=s.heap.push {cls:=.type "dict",data:=.dict #[]}} (.ref s⁻¹) "dict":=⟨_,v,rfl⟩;have xF:=zw.init.lookup;have vf:=zw.init.bind (.ref s⁻¹)
   repeat(any_goals(first|assumption|wp_step))
   refine codeAny_mono (codeAny_call_builtin (R:=wants (fun r p=>r=.none/\∃h' tk,p={s with heap:=h',toks:=tk}/\h'.DictOfH (tupleKind knd) s⁻¹ (pU [] ts)/\
     (∀b o,b<s⁻¹->s.heap.get? b=some o->h'.get? b=some o)) E) zw.init.plain F.entry_dict_init (zw.init.check _ _ _ _ _ _ _ _ y (F.args_dict_init_2 _ _) ?_)) fun O p d=>?_
   ·have C:L<s⁻¹:=Aq M
    have a:(s.heap.push {cls:=.type "dict",data:=.dict #[]}).get? L=some o:=Ad _ M;have tK:Shared.TypeIs {s with heap:=s.heap.push {cls:=.type "dict",data:=.dict #[]}} (.ref L) "list":=⟨o,a,hc⟩;unfold Builtin.«dict.__init__»;refine Aa ?_;unfold Builtin.Dict.selfAndRest;refine Aa (wpAny_notOrdered_dict y ?_);refine Aa (show wpAny _ _ (pure s⁻¹) _ _ _ from Ac ?_);refine Ac ?_;show wpAny _ _ (Builtin.Dict.updateCommon "dict.__init__" "dict" s⁻¹ [Value.ref L] []) _ _ _;unfold Builtin.Dict.updateCommon Builtin.Dict.updateFrom;dsimp only;refine Aa (wpAny_typeOf tK ?_);rw[Th ξ];refine Aa (Nf (s:={s with heap:=s.heap.push {cls:=.type "dict",data:=.dict #[]}}) a hc N xr J fun h2 q e2 f=>?_);rw[Th (by rfl)];refine Aa (wpAny_rule ?_);have G:h2.IsList L (ts.map fun x=>Value.ref x.1).toArray:=⟨o,f.keeps _ _ a,hc,n,N⟩;refine Aa (wpAny_pyIter_list (s:={s with heap:=h2,toks:=q}) G ?_);have H:h2.get? s⁻¹=some {cls:=.type "dict",data:=.dict #[]}:=f.keeps _ _ v;have g:s⁻¹<h2.objs.size:=Aq H;have i:∀b ob,h2.get? b=some ob->(h2.push {cls:=.type "list_iterator",data:=.fields #[.ref L,.int 0 0]}).get? b=some ob:=fun b ob e=>Ad _ e;have j:∀b ob,s.heap.get? b=some ob->(h2.push {cls:=.type "list_iterator",data:=.fields #[.ref L,.int 0 0]}).get? b=some ob:=fun b ob e=>i _ _ (f.keeps _ _ (Ad _ e));refine Ac ⟨plainId_quiet tE _,?_⟩;refine Hh (knd:=knd) (ts:=ts) (L:=L) (D:=s⁻¹) (I:=h2.objs.size) (by exact J) (by first|exact hu|(show A.units+1<cLine;omega)) (Au g) (Au C) (Au (RT C g)) ts.length 0 {s with heap:=h2.push {cls:=.type "list_iterator",data:=.fields #[.ref L,.int 0 0]},toks:=q} [] ω (A6 _)
     ⟨_,Ak _ rfl,rfl,rfl⟩ (G.at fun ob e=>i _ _ e) (fun x hx=>?_) ⟨_,#[],0,i _ _ H,⟨rfl,rfl,rfl⟩,rfl,rfl,(fun x hx=>nomatch hx),QH⟩ (by simpa using hz) fun h' u dd P=>⟨rfl,h',u,rfl,dd,fun b ob hb e=>P b ob (Au hb) (Au (RT hb g)) (j _ _ e)⟩
    obtain⟨⟨S,e1,T⟩,U,it,m,e2,W⟩:=hg x hx;exact⟨⟨S,j _ _ e1,T⟩,U,it,m,j _ _ e2,W⟩
   ·cases O with
    |error e=>exact d
    |ok fl₂=>
     cases fl₂ with
     |ret r=>
      obtain⟨rfl,h',u,rfl,X,Y⟩:=d
      repeat(any_goals(first|assumption|wp_step))
      exact h _ _ X Y
     |_=>exact d.elim
  |_=>exact hr.elim
end
end DPr
namespace L2
open PySem PySem.Spec PyProof.Rows
noncomputable def tR(kvs:List (List Key×V)):List (List Key×V):=kvs.foldl (fun acc kv=>putK acc kv.1 kv.2) []
section
variable{X:Cx}
def Hi:∀(kvs acc:List (List Key×V)),(kvs.foldl (fun acc kv=>putK acc kv.1 kv.2) acc).length<=acc.length+kvs.length
 |[],acc=>by simp
 |kv::r,acc=>by
  rw[Re];have h1:=Hi r (putK acc kv.1 kv.2);have h2:=Ce acc kv.1 kv.2;rw[AB];omega
def tQ(hc:X.calm=true)(hu:X.A.units+64<cLine):da X (.type "dict") (fun xs H Q=>∃(l:Addr)(ts:List Addr)(kvs:List (List Key×V)),xs=[.ref l]/\SqL X.K H l (ts.map V.ref)/\
  Paired (fun t(kv:List Key×V)=>∃b,H t=some (.tup [.ref b,kv.2])/\H b=some (.tup (kv.1.map kV))) ts kvs/\∀D,H D=none->Q (.ref D) (upd H D (.dT (tR kvs)))):=by
 intro aa s σ H xs us Q I r h;obtain⟨l,ts,kvs,rfl,hq,hp,q⟩:=h;obtain⟨u,rfl,f⟩:=vals1 r;cases f;obtain⟨af,g,⟨o,n,e1,i,j,p⟩,hz⟩:=I.list hq;obtain rfl:=bf g;have P:=A0 hp;have get:∀{ts:List Addr}{kvs:List (List Key×V)},Paired (fun t(kv:List Key×V)=>∃b,H t=some (.tup [.ref b,kv.2])/\H b=some (.tup (kv.1.map kV))) ts kvs->
   ∃ps:List (DPr.Pr Key),ps.map (fun x=>Value.ref x.1)=ts.map Value.ref/\(∀x∈ps,DPr.Good (zB X.prog X.w) s.heap x)/\∀acc(ys:List (List Key×Addr×Value)),KT H acc ys->KT H (kvs.foldl (fun acc kv=>putK acc kv.1 kv.2) acc) (DPr.pU ys ps):=by
  intro ts kvs z
  induction z with
  |nil=>exact⟨[],rfl,(fun x hx=>nomatch hx),fun acc ys k=>k⟩
  |@cons t kv ts kvs hh t' ih=>
   obtain⟨ps,g1,g2,g3⟩:=ih;obtain⟨b,ht,hb⟩:=hh;obtain⟨af,y,C,_⟩:=I.tuple (SqT.of (K:=X.K) ht);obtain⟨vs,e2,E⟩:∃v,af=[.ref b,v]/\RelV kv.2 v:=by
    cases y with
    |cons ra rb=>
     cases rb with
     |cons rc rd=>
      cases rd;cases ra;exact⟨_,rfl,rc⟩
   subst e2;refine⟨(t,kv.1,b,vs)::ps,by rw[At,At,g1],fun x hx=>?_,fun acc ys k=>?_⟩
   ·rcases Qk.mp hx with rfl|hx
    ·exact⟨C,iS I.hok hb⟩
    ·exact g2 x hx
   ·exact g3 _ _ (k.put kv.1 hb E)
 obtain⟨ps,g1,g2,g3⟩:=get hp;have N:ps.length=kvs.length:=by
  have:=congrArg List.length g1;rw[Ab,Ab] at this;omega
 rw[Ab] at hz;refine DPr.tQ (knd:=zB X.prog X.w) (ts:=ps) (n:=n) (I.ok.hd hc) ω e1 i (by rw[g1];exact p) j g2 ω fun h' tk dd d=>?_;have a:=g3 [] [] .nil;have c:H s⁻¹=none:=I.hok.fresh (Af _);obtain⟨F,es,ep,G,h2,J,L,O,M⟩:=dd;refine⟨.ref s⁻¹,_,I.laid (o:=.dT (tR kvs)) (fun b u e=>d b u (Aq e) e) (Af _) ⟨?_,?_,DPr.pU [] ps,a.keeps fun b ys e=>?_,F,es,ep,G,h2,J,L,M⟩,rfl,q _ c⟩
 ·have:=Hi kvs []
  unfold tR;simp at this;omega
 ·exact beq_eq_false_iff_ne.mpr (A3 I.big)
 ·rw[ah (zj e c)];exact e
end
end L2
end
section
namespace L2
open PySem PySem.Spec PyProof.Rows
section
variable{X:Cx}
def Nh:da X (.builtin "isinstance") (fun xs H Q=>∃n,xs=[.int n,.ty "int"]/\Q (.bl true) H):=by
 intro aa s σ H xs us Q I r h;obtain⟨n,rfl,q⟩:=h;obtain⟨u,d,rfl,a,c⟩:=vals2 r;cases c;exact n3 I a (.int n) (by first|rfl|kernel_rfl|decide +kernel) fun tk=>⟨.bl true,H,I.tok _,rfl,q⟩
def Ni:da X (.builtin "isinstance") (fun xs H Q=>∃n,xs=[.int n,.ty "bool"]/\Q (.bl false) H):=by
 intro aa s σ H xs us Q I r h;obtain⟨n,rfl,q⟩:=h;obtain⟨u,d,rfl,a,c⟩:=vals2 r;cases c;exact n3 I a (.int n) (by first|rfl|kernel_rfl|decide +kernel) fun tk=>⟨.bl false,H,I.tok _,rfl,q⟩
def Hj:da X (.builtin "isinstance") (fun xs H Q=>∃a ys,xs=[.ref a,.ty "list"]/\H a=some (.lst ys)/\Q (.bl true) H):=by
 intro aa s σ H xs us Q I r h;obtain⟨a,ys,rfl,ha,q⟩:=h;obtain⟨u,e,rfl,c,d⟩:=vals2 r;cases d;exact n3 I c (.lst ha) (by first|rfl|kernel_rfl|decide +kernel) fun tk=>⟨.bl true,H,I.tok _,rfl,q⟩
def Nj:da X (.builtin "isinstance") (fun xs H Q=>∃a ys,xs=[.ref a,.ty "tuple"]/\H a=some (.tup ys)/\Q (.bl true) H):=by
 intro aa s σ H xs us Q I r h;obtain⟨a,ys,rfl,ha,q⟩:=h;obtain⟨u,e,rfl,c,d⟩:=vals2 r;cases d;exact n3 I c (.tup ha) (by first|rfl|kernel_rfl|decide +kernel) fun tk=>⟨.bl true,H,I.tok _,rfl,q⟩
def ints_get{ns:List Int}{af:List Value}(r:Vals (ns.map V.int) af){i:Nat}{v:Value}(h:af[i]?=some v):∃n t,ns[i]?=some n/\v=.int n t:=by
 have c:af.length=ns.length:=by rw[<-r.length,Ab]
 have hi:i<ns.length:=by rw[<-c];exact(KK.mp h).1
 have e:ns[i]?=some ns[i]:=Ah hi;obtain⟨u,hu,a⟩:=r.get (show(ns.map V.int)[i]?=some (V.int ns[i]) by rw[Ag,e];rfl);rw[h] at hu;obtain rfl:=Al hu;obtain⟨t,rfl⟩:=a;exact⟨_,t,e,rfl⟩
def Hk{bt:Nat->Nat->Bool}{val:Nat->Int}(hb:∀i j,bt i j=decide (val j<val i)):∀k,argBest bt k<=k/\∀i,i<=k->val i<=val (argBest bt k)
 |0=>by
  rw[argBest.eq_1];exact⟨Af _,fun i hi=>by have:i=0:=ω;rw[this];exact QI _⟩
 |k+1=>by
  obtain⟨h1,h2⟩:=Hk hb k;rw[argBest.eq_2,hb]
  by_cases g:val (argBest bt k)<val (k+1)
  ·rw[Th (Tj g)]
   refine⟨Af _,fun i hi=>?_⟩;rcases Rj i (k+1) with h|h
   ·have:=h2 i ω;omega
   ·have:i=k+1:=ω
    rw[this];exact QI _
  ·rw[Ti (fun z=>g (Tl z))]
   refine⟨Ss h1,fun i hi=>?_⟩;rcases Rj i (k+1) with h|h
   ·exact h2 i ω
   ·have:i=k+1:=ω
    rw[this];omega
def Nk(hc:X.calm=true):da X (.builtin "max") (fun xs H Q=>∃(l:Addr)(ns:List Int),xs=[.ref l]/\SqL X.K H l (ns.map V.int)/\ns≠[]/\∀M,M∈ns->(∀a∈ns,a<=M)->Q (.int M) H):=by
 intro aa s σ H xs us Q I r h;obtain⟨l,ns,rfl,hq,g,q⟩:=h;obtain⟨u,rfl,D⟩:=vals1 r;cases D;obtain⟨af,f,E,_⟩:=I.list hq;have G:=I.ok.hd hc;have o:=E.isList;have c:l<s⁻¹:=by obtain⟨_,e,_⟩:=o;exact Aq e
 have J:af.length=ns.length:=by rw[<-f.length,Ab]
 have d:0<ns.length:=R8.mpr g;refine call_max_walk (wpAny_pyIter_list o ?_);refine⟨s⁻¹,[s⁻¹,l],[s⁻¹],af.toArray.size,_,_,fun i j=>decide ((ns[j]?).getD 0<(ns[i]?).getD 0),rfl,Walks.list (A:=X.A.in1) G _ l (Au c) af.toArray,
  ⟨⟨_,Ak _ rfl,rfl,rfl⟩,o.push _⟩,fun b hb=>?_,by rw[Ao,J];exact d,fun i j x y s' P S hi C p=>?_,fun v h' tk w hk=>?_⟩
 ·have hb':b<=s⁻¹:=by
   simp only[Qk,RW,or_false] at hb;rcases hb with rfl|rfl
   ·exact Af _
   ·exact Q5 c
  exact Nat.lt_of_le_of_lt hb' (Aq (Ak _ rfl))
 ·obtain⟨m,t,e,rfl⟩:=ints_get f (show af[i]?=some x by simpa using hi)
  obtain⟨L,t',e',rfl⟩:=ints_get f (show af[j]?=some y by simpa using C);simp only[e,e',RV] at p;exact gt_int p
 ·rw[Ao] at w
  obtain⟨N,F⟩:=Hk (bt:=fun i j=>decide ((ns[j]?).getD 0<(ns[i]?).getD 0)) (val:=fun i=>(ns[i]?).getD 0) (fun i j=>rfl) (af.length-1);obtain⟨m,t,e,rfl⟩:=ints_get f (show af[argBest (fun i j=>decide ((ns[j]?).getD 0<(ns[i]?).getD 0)) (af.length-1)]?=some v by simpa using w);refine⟨.int m,H,I.kept (LSm.kept_iter hk),⟨t,rfl⟩,q m (Ai e) fun a ha=>?_⟩;obtain⟨i,hi⟩:=Qn.mp ha;have O:i<ns.length:=(KK.mp hi).1;have:=F i ω;simp only[hi,e,RV] at this;exact this
end
end L2
end
section
namespace K64
open K1
open PySem L2 STb
abbrev Ch:Type:=List (List Int×Int)
noncomputable def ksC(cs:Ch):Ξ:=cs.map (·.1)
noncomputable def kvC(cs:Ch):List (List Key×V):=cs.map fun c=>((c.1.map Sum.inl:List Key),V.int c.2)
noncomputable def cT(cs:Ch)(ps:List Int)(n:Int):Ch:=if ps∈ksC cs then cs.map (fun c=>if c.1=ps then(c.1,n) else c) else cs++[(ps,n)]
def zK(cs:Ch):(kvC cs).length=cs.length:=Ab _
def ie(cs:Ch):(ksC cs).length=cs.length:=Ab _
def gC(cs:Ch):(kvC cs).map (·.1)=(ksC cs).map (·.map Sum.inl):=by unfold kvC ksC;rw[Am,Am];rfl
def pV(cs:Ch):(kvC cs).map (·.2)=(cs.map (·.2)).map V.int:=by unfold kvC;rw[Am,Am];rfl
def pW(cs:Ch)(ps:List Int)(n:Int):putK (kvC cs) (ps.map Sum.inl) (.int n)=kvC (cT cs ps n):=by
 unfold putK kvC cT;have ha:((cs.map fun c=>((c.1.map Sum.inl:List Key),V.int c.2)).any fun kv=>decide (kv.1=ps.map Sum.inl))=decide (ps∈ksC cs):=by
  rw[List.any_map]
  by_cases h:ps∈ksC cs
  ·rw[Tj h,Rw]
   obtain⟨c,hc,e⟩:=Qj.mp h;exact⟨c,hc,Tj (hJ.mpr e)⟩
  ·rw[Tk h,Si]
   intro c hc;simp only[Function.comp,decide_eq_true_eq,hJ];rintro rfl;exact h (Qj.mpr ⟨c,hc,rfl⟩)
 rw[ha]
 by_cases h:ps∈ksC cs
 ·rw[Tj h,Th rfl,Th h,Am,Am]
  refine Ax fun c hc=>?_;simp only[Function.comp]
  by_cases e:c.1=ps
  ·rw[Th e,Th (hJ.mpr e)]
  ·rw[Ti e,Ti (fun z=>e (hJ.mp z))]
 ·rw[Tk h,Ti (by simp),Ti h,Aj]
  rfl
def Nl(cs:Ch)(ps:List Int)(n:Int):ksC (cT cs ps n)=if ps∈ksC cs then ksC cs else ksC cs++[ps]:=by
 unfold cT
 by_cases h:ps∈ksC cs
 ·rw[Th h,Th h]
  unfold ksC;rw[Am];refine Ax fun c _=>?_;simp only[Function.comp];split<;>rfl
 ·rw[Ti h,Ti h]
  unfold ksC;rw[Aj]
  rfl
def dy{cs:Ch}(ps:List Int)(n:Int)(h:(ksC cs).Nodup):(ksC (cT cs ps n)).Nodup:=by
 rw[Nl]
 by_cases e:ps∈ksC cs
 ·rw[Th e];exact h
 ·rw[Ti e,Bj]
  refine⟨h,by simp,fun a ha b hb z=>?_⟩;rw[Ql] at hb;subst hb;subst z;exact e ha
def Hl(cs:Ch)(ps:List Int)(n:Int):(cT cs ps n).length<=cs.length+1:=by
 unfold cT;split
 ·rw[Ab];omega
 ·rw[Ar];simp
def gD:∀{cs:Ch},(ksC cs).Nodup->∀c∈cs,b' (kvC cs) (c.1.map Sum.inl)=some (.int c.2)
 |[],_,c,hc=>absurd hc (by simp)
 |d::cs,h,c,hc=>by
  have h':(d.1::ksC cs).Nodup:=h;rw[Qp] at h';unfold b' kvC;rw[At,QK];rcases Qk.mp hc with rfl|hc
  ·rw[Tj rfl];rfl
  ·have a:¬d.1.map Sum.inl=(c.1.map Sum.inl:List Key):=fun z=>h'.1 (by rw[hJ.mp z];exact Qj.mpr ⟨c,hc,rfl⟩)
   rw[Tk a];exact gD h'.2 c hc
def mY{H:Hp}{cs:Ch}{bs:List Addr}(h:Paired (fun(p:List Key×V) b=>H b=some (.tup (p.1.map kV))) (kvC cs) bs):Tps H bs (ksC cs):=by
 unfold kvC at h;unfold ksC
 induction cs generalizing bs with
 |nil=>cases h;exact .nil
 |cons x l ih=>
  rw[At] at h;cases h with
  |cons r t=>
   refine .cons ?_ (ih t);show H _=_;rw[r,Am]
   rfl
noncomputable abbrev eU(c:List Int×Int):Bool:=!decide (V.int c.2=V.int 0)
noncomputable abbrev pX:Stmt:=top 12
noncomputable abbrev i5:Stmt:=top 13
def Dm(H:Hp)(t:Addr)(c:List Int×Int):Prop:=∃b,H t=some (.tup [.ref b,.int c.2])/\Tp H b c.1
def Prs(H:Hp)(ts:List Addr)(cs:Ch):Prop:=Paired (Dm H) ts cs
def Prs.same{H H':Hp}{ts:List Addr}{cs:Ch}(h:Prs H ts cs)(s:Same H H'):Prs H' ts cs:=Paired.mapP h fun _ _ ⟨b,e1,e2⟩=>⟨b,s _ _ e1,s.tp e2⟩
def Prs.length{H:Hp}{ts:List Addr}{cs:Ch}(h:Prs H ts cs):ts.length=cs.length:=A0 h
noncomputable def Prs.upd{H:Hp}{d:Addr}{o o':HO}{ts:List Addr}{cs:Ch}(h:Prs H ts cs)(hd:H d=some o')(a:∀xs,o'≠.tup xs):Prs (L2.upd H d o) ts cs:=
 Paired.mapP h fun t c ⟨b,e1,e2⟩=>⟨b,by rw[ah (aV e1 hd fun z=>a _ z.symm)];exact e1,by show L2.upd H d o b=_;rw[ah (aV (show H b=some _ from e2) hd fun z=>a _ z.symm)];exact e2⟩
def Prs.snoc{H:Hp}{ts:List Addr}{cs:Ch}{t:Addr}{c:List Int×Int}(h:Prs H ts cs)(q:Dm H t c):Prs H (ts++[t]) (cs++[c]):=Paired.snoc h q
def Prs.append{H:Hp}{ts us:List Addr}{cs ds:Ch}(h:Prs H ts cs)(q:Prs H us ds):Prs H (ts++us) (cs++ds):=by
 induction h with
 |nil=>exact q
 |cons r t ih=>exact .cons r ih
def Prs.get{H:Hp}:∀{ts:List Addr}{cs:Ch}{i:Nat}{t:Addr},Prs H ts cs->ts[i]?=some t->∃c,cs[i]?=some c/\Dm H t c
 |_,_,0,_,.cons h _,e=>by cases e;exact⟨_,rfl,h⟩
 |_,_,i+1,_,.cons _ t,e=>Prs.get (i:=i) t (by simpa using e)
noncomputable def aK(cs:Ch)(q:List Int):Int:=((cs.find? fun c=>decide (c.1=q)).map (·.2)).getD 0
def Hm(cs:Ch)(q:List Int):(b' (kvC cs) (q.map Sum.inl)).getD (.int 0)=.int (aK cs q):=by
 unfold b' aK kvC
 induction cs with
 |nil=>rfl
 |cons c r ih=>
  rw[At,QK,QK]
  by_cases e:c.1=q
  ·rw[Tj e,Tj (hJ.mpr e)];rfl
  ·rw[Tk e,Tk (fun z=>e (hJ.mp z))];exact ih
noncomputable def i6(acc:Ch)(t:List Int×Int):Ch:=cT acc t.1 (aK acc t.1+t.2)
noncomputable def bF(ts:Ch):Ch:=ts.foldl i6 []
noncomputable def c9(ts:Ch):Ch:=(bF ts).filter eU
def tU(ts:Ch)(t:List Int×Int):bF (ts++[t])=i6 (bF ts) t:=by unfold bF;rw[RJ];rfl
def tY{d:Type}{P:List d->Prop}(e:P [])(f:∀l x,P l->P (l++[x]))(l:List d):P l:=by
 have:∀n,∀l:List d,l.length=n->P l:=by
  intro n
  induction n with
  |zero=>intro l a;rw[Rb a];exact e
  |succ n ih=>
   intro l a;have c:l≠[]:=fun z=>by rw[z] at a;simp at a
   rw[<-List.dropLast_concat_getLast c];exact f _ _ (ih _ (by rw[List.length_dropLast];omega))
 exact this _ l rfl
def Dn(ts:Ch):(ksC (bF ts)).Nodup:=tY (P:=fun ts=>(ksC (bF ts)).Nodup) QH (fun l x h=>by rw[tU];exact dy _ _ h) ts
def Do(ts:Ch):(bF ts).length<=ts.length:=tY (P:=fun ts=>(bF ts).length<=ts.length) (Af _) (fun l x h=>by
 rw[tU,Ar];have:=Hl (bF l) x.1 (aK (bF l) x.1+x.2);unfold i6;simp;omega) ts
def Dp{cs:Ch}{q:List Int}(v:Int)(h:q∉ksC cs):cT cs q v=cs++[(q,v)]:=by unfold cT;rw[Ti h]
noncomputable def sg(k:Nat)(n:Int):Int:=if(k:Int)%2=0 then n else -n
noncomputable def cJ(ps:List Int)(n:Int):Ch:=(rims ps).zipIdx.map fun q=>(q.1,sg q.2 n)
def Dq(ps:List Int)(n:Int):(cJ ps n).length=(rims ps).length:=by unfold cJ;rw[Ab,Sf]
abbrev Hn:TE:=c7 (zJ (ax 1) (zJ (x' (eB (cp nP (cp (rI (fun _ j=>0<j) fun i j=>.int (i%j)) (ax 0) (tC (.int 2))) (tC (.int 0)))) (ax 2) (yB (rU fun i=>.int (-i)) (ax 2))) br))
section
variable{P:Program}{w:World}{K:Ae}{mg:Str->Option Value}{base:Heap}
def No{H2:Hp}{L D:Addr}{as:List Addr}{f:Ξ}{n:Int}{Q:VK}(u:H2 L=some (.lst (as.map V.ref)))(ht:Tps H2 as f)(hz:f.length<=1000)(A:H2 D=none)(k:∀(H3:Hp)(ts:List Addr),Same H2 H3->H3 D=some (.lst (ts.map V.ref))->Prs H3 ts (f.zipIdx.map fun q=>(q.1,sg q.2 n))->Q (.ref D) H3):zV (kD K L) (fV K 2 (gM (zN 0) (gM (zN 1) fS))) bT Hn [none,none,some (.int n)] H2 D Q:=by
 have I:=ht.length;refine ir as.length (fun j σ ys H3=>∃(c d:Option V)(ts:List Addr),σ=[c,d,some (.int n)]/\Same H2 H3/\H3 D=some (.lst ys)/\ys=ts.map V.ref/\Prs H3 ts ((f.zipIdx.map fun q=>(q.1,sg q.2 n)).take j)) ?_ ?_ ?_ ?_ ?_
 ·exact⟨none,none,[],rfl,Same.new A,ae,rfl,.nil⟩
 ·rintro σ ys H3 ⟨c,d,ts,rfl,sm,h,rfl,hp⟩
  exact⟨_,SqL.of (sm _ _ u),by rw[Ab]⟩
 ·rintro i σ ys H3 hi ⟨c,d,ts,rfl,sm,h,rfl,hp⟩
  exact⟨_,SqL.of (sm _ _ u),by rw[Ab];exact hi⟩
 ·rintro i σ ys H3 x H' hi hy ⟨c,d,ts,rfl,sm,h,rfl,hp⟩ ⟨p,y,rfl,E,rfl,F⟩
  have J:=F _ (SqL.of (sm _ _ u));obtain⟨a,G,rfl⟩:=dL J;obtain⟨r,H,hr⟩:=ht.get G;have M:=Same.new (o:=.tup [.int i,.ref a]) E;have e:(f.zipIdx.map fun q=>(q.1,sg q.2 n))[i]?=some (r,sg i n):=by rw[Ag,RS,H];simp
  have N:as.length<=sizeLine:=zh ω;have fin:∀(t:Addr)(v:Int),v=sg i n->upd H3 p (.tup [.int i,.ref a]) t=none->ee as.length (fun j σ ys H3=>∃(c d:Option V)(ts:List Addr),σ=[c,d,some (.int n)]/\Same H2 H3/\H3 D=some (.lst ys)/\ys=ts.map V.ref/\Prs H3 ts ((f.zipIdx.map fun q=>(q.1,sg q.2 n)).take j)) D i [some (.int i),some (.ref a),some (.int n)] (.ref t) (upd (upd H3 p (.tup [.int i,.ref a])) t (.tup [.ref a,.int v])):=by
   intro t v C g;have l:=M.trans (Same.new (o:=.tup [.ref a,.int v]) g);have w:=l _ _ h;refine bz N hi hy w ⟨_,_,ts++[t],rfl,(sm.trans l).then A,ae,by rw[Aj];rfl,?_⟩;rw[AH e];exact Prs.upd (Prs.snoc (hp.same l) ⟨a,by rw[ae,C],l.tp (sm.tp hr)⟩) w (by intro xs z;cases z)
  refine⟨p,_,rfl,SqT.of ae,rfl,_,_,rfl,_,_,rfl,rfl,iW ?_⟩;refine⟨_,rfl,_,rfl,_,_,rfl,rfl,(by show(0:Int)<2;decide),rfl,_,rfl,?_⟩
  by_cases hk:(i:Int)%2=0
  ·rw[Tj (congrArg V.int hk)]
   exact bd ⟨_,rfl,zh (by simp),fun t g=>fin t n (by unfold sg;rw[Th hk]) g⟩
  ·rw[Tk (fun z=>hk (by injection z))]
   exact aC ⟨_,rfl,_,rfl,zh (by simp),fun t g=>fin t (-n) (by unfold sg;rw[Ti hk]) g⟩
 ·rintro σ ys H3 ⟨c,d,ts,rfl,sm,h,rfl,hp⟩
  rw[I,As (by rw[Ab,Sf];exact Af _)] at hp;exact k H3 ts sm h hp
def Ho:Sp:=fun vs H Q _=>∃a ps n,vs=[.ref a,.int n]/\Tp H a ps/\ps.length<=5/\∀D H2(ts:List Addr),Same H H2->H D=none->H2 D=some (.lst (ts.map V.ref))->Prs H2 ts (cJ ps n)->Q (.ref D) H2
def Np:zp ["piece","often"] ["piece","often"] (zi pX):=⟨rfl,rfl,rfl,δ,rfl,δ,δ⟩
def Nq{f fr:Addr}{fd c:FuncData}(F:Fun K "seam_terms" "seam_terms" pX f fd)(B:Bt mg)(Fr:Fun K "rims_of" "rims_of" pe fr c)(u:Binds K c ["piece"] [])(v:mg "rims_of"=some (.ref fr)):FnOk P w K mg base aR 2 f fd ["piece","often"] Ho:=by
 have x:FnOk P w K mg base aR 1 fr c ["piece"] k7:=G6 Fr B;refine F.ok Np (fun vs H Q E h=>?_) (fun y A outer s H vs Q E hr h=>?_)
 ·obtain⟨a,ps,n,rfl,_⟩:=h;rfl
 ·obtain⟨a,ps,n,rfl,ha,r,k⟩:=h
  refine⟨_,zg (zm (zq ["piece","often"] ["k","rim","often"] [none,none,some 1] (oM rfl B.enumerate oX (zc (fc x hr rfl v Fr.kp u .nil ak (zc (pv 0) zd)) zd))
   (fun d C s₀ H₀ ex=>jn rfl (zI (zk (i:=0) (cz ["k","rim","often"]) rfl (Or.inl rfl)) (zI (zk (i:=1) (cz ["k","rim","often"]) rfl (Or.inl rfl)) jm)))
   (fun d C s₀ H₀ ex=>zF) (fun d C s₀ H₀ ex=>ei (zc (pv 1) (zc (ER (zn fY (zy gt (pv 0) zf) zf (al _)) (pv 2) (yC yS (pv 2))) zd)))
   (hfr:=cx (zi pX) δ) (g:=fV K 2 (gM (zN 0) (gM (zN 1) fS))) (te:=Hn))),?_⟩
  have G:=k4 ps;exact⟨_,rfl,a,ps,rfl,ha,r,fun L H1 bs e o j hb=>⟨L,rfl,⟨_,SqL.of j⟩,fun D l=>zx (No j hb ω l fun H3 ts p q hp=>k D H3 ts (e.trans p) (e.free l) q hp)⟩⟩
def tZ(K:Ae):Sp:=fun vs H Q _=>∃l ts cs,vs=[.ref l]/\SqL K H l (ts.map V.ref)/\Prs H ts cs/\cs.length<=1000/\∀D H',Same H H'->H D=none->H' D=some (.dT (kvC (c9 cs)))->Q (.ref D) H'
def m5:zp ["terms","sums","piece","weight","told"] ["terms"] (zi i5):=⟨rfl,rfl,rfl,δ,rfl,δ,δ⟩
def Nr{f:Addr}{fd:FuncData}(F:Fun K "sum_of" "sum_of" i5 f fd):FnOk P w K mg base aR 1 f fd ["terms"] (tZ K):=by
 refine F.ok m5 (fun vs H Q E h=>?_) (fun ar A outer s H vs Q E hr h=>?_)
 ·obtain⟨l,ts,cs,rfl,_⟩:=h;rfl
 ·obtain⟨l,ts,cs,rfl,hl,hp,hz,k⟩:=h
  have hu:=eG hr;have oB:=hp.length;refine⟨_,ze (zt (i:=1) m5.nd rfl (Or.inl rfl) ju)
   (ze (d0 AL rfl (zD (pv 0)) (jn rfl (zI (zk (i:=2) m5.nd rfl (Or.inl rfl)) (zI (zk (i:=3) m5.nd rfl (Or.inl rfl)) jm)))
    (zg (hF hu (pv 1) (pv 2) (zy zS (FA hu (pv 1) (pv 2) zf ⟨rfl,rfl,rfl,rfl⟩) (pv 3)) rfl)))
   (ze (zt (i:=4) m5.nd rfl (Or.inl rfl) ju)
   (ze (d0 AL rfl (pH (pv 1)) (zk (i:=2) m5.nd rfl (Or.inl rfl))
    (zg (zQ (zn nQ (zR hu (pv 1) (pv 2) (fun _ _=>rfl)) zf (al _)) (zg (hF hu (pv 4) (pv 2) (zR hu (pv 1) (pv 2) (fun _ _=>rfl)) rfl)) zr)))
   (zg (zm (pv 4)))))),?_⟩
  intro d hd;refine⟨_,rfl,l,rfl,⟨_,(Same.new hd).seq hl⟩,iD (K:=K) (a:=l) (xs:=ts.map V.ref) (fun i σ H2=>∃(y J:Option V),σ=[some (.ref l),some (.ref d),y,J,none]/\Same H H2/\H2 d=some (.dT (kvC (bF (cs.take i)))))
   ⟨none,none,rfl,Same.new hd,ae⟩ (fun i σ H2 _ ⟨_,_,_,sm,_⟩=>sm.seq hl) ?_ ?_⟩
  ·rintro i x σ H2 hx ⟨y,J,rfl,sm,r⟩
   obtain⟨t,et,rfl⟩:=dL hx;obtain⟨c,D,b,e1,e2⟩:=hp.get et;have qG:H2 b=some (.tup ((c.1.map Sum.inl:List Key).map kV)):=by rw[Am];exact sm.tp e2
   have q:(kvC (bF (cs.take i))).length<sizeLine:=by
    rw[zK];have:=Do (cs.take i);rw[AC] at this;exact zT ω
   refine⟨t,_,rfl,SqT.of (sm _ _ e1),rfl,_,_,rfl,_,_,rfl,rfl,?_⟩;refine⟨_,rfl,d,rfl,.inr ⟨_,.inl r⟩,_,rfl,_,DGet.t (k:=c.1.map Sum.inl) r qG,?_⟩;rw[Hm];refine⟨_,rfl,_,_,rfl,rfl,_,rfl,_,rfl,d,_,rfl,DPut.t (k:=c.1.map Sum.inl) r qG q,⟨_,_,rfl,sm.then hd,?_⟩⟩;rw[ae,pW,AH D,tU]
   rfl
  ·rintro σ H2 ⟨y,J,rfl,sm,r⟩
   rw[Ab,oB,take_all] at r;intro T hT;have U:H T=none:=sm.free hT;have O:d≠T:=zj r hT;have W:=Dn cs;have v9:=Do cs;unfold c9 at k;generalize bF cs=p at r W v9 k;refine⟨_,rfl,d,kvC p,rfl,.inl (by rw[ah O];exact r),fun o H3 iF a8=>G8 (fun i σ v=>∃(y:Option V),σ=[some (.ref l),some (.ref d),y,J,some (.ref T)]/\Same H v/\v d=some (.frz o (.dT (kvC p)))/\v T=some (.dT (kvC ((p.take i).filter eU))))
    ⟨_,rfl,fun b u e=>by rw[a8 b (zj e hd),ah (zj e U)];exact sm _ _ e,iF,by rw[a8 T (Ne.symm O)];exact ae⟩ (fun i σ v _ ⟨_,_,_,h,_⟩=>h) ?_ ?_⟩
   ·rintro i kv b σ v L hb ⟨y,rfl,M,N,G⟩
    have hi:i<p.length:=by
     have:=(KK.mp L).1;rw[zK] at this;exact this
    have D:p[i]?=some p[i]:=Ah hi;obtain rfl:(((p[i]).1.map Sum.inl:List Key),V.int (p[i]).2)=kv:=by
     unfold kvC at L;rw[Ag,D] at L;exact Al L
    have I:p[i]∈p:=Bi hi;have dk:(p[i]).1∉ksC ((p.take i).filter eU):=fun z=>by
     obtain⟨c',hc',e'⟩:=Qj.mp z;obtain⟨j,S⟩:=Rs ((Qx.mp hc').1);have X:j<i:=by
      have:=(KK.mp S).1;rw[AC] at this;omega
     rw[Qw X] at S;have h1:(ksC p)[j]?=some (p[i]).1:=by unfold ksC;rw[Ag,S];exact congrArg some e'
     have h2:(ksC p)[i]?=some (p[i]).1:=by unfold ksC;rw[Ag,D];rfl
     have Y:j<(ksC p).length:=by rw[ie];omega
     have:=(Q6 Y W).mp (h1.trans h2.symm);omega
    have q:(kvC ((p.take i).filter eU)).length<sizeLine:=by
     rw[zK];have:=RF eU (p.take i);rw[AC] at this;exact zT ω
    have g:DGet v d (.ref b) (some (.int (p[i]).2)):=.inr ⟨kvC p,(p[i]).1.map Sum.inl,b,.inr ⟨o,N⟩,rfl,hb,(gD W _ I).symm⟩;have t9:T≠d:=Ne.symm O;refine⟨_,rfl,_,rfl,d,_,rfl,g,rfl,_,rfl,?_⟩;cases hz0:eU p[i] with
    |true=>
     have C:(!decide (V.int (p[i]).2=V.int 0))=true:=hz0;rw[C];refine bd ⟨_,rfl,_,rfl,d,_,rfl,g,_,rfl,_,rfl,T,_,rfl,DPut.t (k:=(p[i]).1.map Sum.inl) G hb q,⟨_,rfl,M.then U,by rw[ah O];exact N,?_⟩⟩;rw[ae,pW,Dp _ dk,AH D,Bf,Q4 hz0]
     rfl
    |false=>
     have C:(!decide (V.int (p[i]).2=V.int 0))=false:=hz0;rw[C];refine aC ⟨_,rfl,M,N,?_⟩;rw[AH D,Bf,Q3 (by rw[hz0];decide),Sd,QD];exact G
   ·rintro σ v ⟨y,rfl,M,N,G⟩
    rw[zK,take_all] at G;exact⟨_,rfl,k T v M U G⟩
end
def zO(c:List Int×Int)(r:Ch)(x:List Int):aK (c::r) x=if c.1=x then c.2 else aK r x:=by
 unfold aK;rw[QK]
 by_cases e:c.1=x
 ·rw[Tj e,Th e];rfl
 ·rw[Tk e,Ti e]
def ix:∀{cs:Ch}{x:List Int},x∉ksC cs->aK cs x=0
 |[],_,_=>rfl
 |c::r,x,h=>by
  rw[zO,Ti (fun z=>h (by unfold ksC;rw[At,z];exact Ay))];exact ix fun z=>h (Aw _ z)
def Bn(q:List Int)(v:Int)(x:List Int):∀cs:Ch,aK (cs.map fun c=>if c.1=q then(c.1,v) else c) x=if x=q/\q∈ksC cs then v else aK cs x
 |[]=>by simp[aK,ksC]
 |c::r=>by
  rw[At,zO,zO,Bn q v x r];have hm:(q∈ksC (c::r))↔(c.1=q\/q∈ksC r):=by
   show q∈c.1::ksC r↔_;rw[Qk];constructor
   ·rintro(h|h)
    ·exact .inl h.symm
    ·exact .inr h
   ·rintro(h|h)
    ·exact .inl h.symm
    ·exact .inr h
  by_cases e:c.1=q
  ·rw[Th e]
   by_cases f:x=q
   ·subst f
    rw[Th e,Th ⟨rfl,hm.mpr (.inl e)⟩]
   ·rw[Ti (fun z=>f (z.symm.trans e)),Ti (fun z=>f z.1),Ti (fun z=>f z.1),Ti (fun z=>f (z.symm.trans e))]
  ·rw[Ti e]
   by_cases f:c.1=x
   ·rw[Th f,Th f,Ti (fun z=>e (f.trans z.1))]
   ·rw[Ti f,Ti f]
    by_cases g:x=q/\q∈ksC r
    ·rw[Th g,Th ⟨g.1,hm.mpr (.inr g.2)⟩]
    ·rw[Ti g,Ti (fun z=>g ⟨z.1,(hm.mp z.2).resolve_left e⟩)]
def Hq(q:List Int)(v:Int)(x:List Int):∀cs:Ch,aK (cs++[(q,v)]) x=if x∈ksC cs then aK cs x else if q=x then v else 0
 |[]=>by simp[aK,ksC];split<;>rfl
 |c::r=>by
  rw[List.cons_append,zO,zO,Hq q v x r]
  by_cases e:c.1=x
  ·rw[Th e,Th e,Th (by show x∈c.1::ksC r;rw[e];exact Ay)]
  ·rw[Ti e,Ti e]
   by_cases h:x∈ksC r
   ·rw[Th h,Th (show x∈ksC (c::r) from Aw _ h)]
   ·have a:¬x∈ksC (c::r):=fun z=>by
     rcases Qk.mp (show x∈c.1::ksC r from z) with z|z
     ·exact e z.symm
     ·exact h z
    rw[Ti h,Ti a]
def Hr(cs:Ch)(q:List Int)(v:Int)(x:List Int):aK (cT cs q v) x=if x=q then v else aK cs x:=by
 unfold cT
 by_cases h:q∈ksC cs
 ·rw[Th h,Bn]
  by_cases e:x=q
  ·rw[Th ⟨e,h⟩,Th e]
  ·rw[Ti (fun z=>e z.1),Ti e]
 ·rw[Ti h,Hq]
  by_cases e:x=q
  ·subst e
   rw[Ti h,Th rfl,Th rfl]
  ·rw[Ti e]
   by_cases g:x∈ksC cs
   ·rw[Th g]
   ·rw[Ti g,Ti (fun z=>e z.symm),ix g]
noncomputable def c6(ts:Ch)(x:List Int):Int:=(ts.map fun c=>if c.1=x then c.2 else 0).sum
def Hs(ts:Ch)(t:List Int×Int)(x:List Int):c6 (ts++[t]) x=c6 ts x+if t.1=x then t.2 else 0:=by
 unfold c6;rw[Aj,List.sum_append];simp
def t1(ts:Ch)(t:List Int×Int)(x:List Int):c6 (t::ts) x=(if t.1=x then t.2 else 0)+c6 ts x:=by unfold c6;rw[At,QX]
def Ht(ts us:Ch)(x:List Int):c6 (ts++us) x=c6 ts x+c6 us x:=by unfold c6;rw[Aj,List.sum_append]
def Nt(x:List Int)(ts:Ch):aK (bF ts) x=c6 ts x:=tY (P:=fun ts=>aK (bF ts) x=c6 ts x) rfl (fun l t h=>by
 rw[tU,Hs];unfold i6;rw[Hr]
 by_cases e:x=t.1
 ·subst e
  rw[Th rfl,Th rfl,h]
 ·rw[Ti e,Ti (fun z=>e z.symm),h];omega) ts
def Dr(x:List Int):∀{cs:Ch},(ksC cs).Nodup->aK (cs.filter eU) x=aK cs x
 |[],_=>rfl
 |c::r,h=>by
  have h':(c.1::ksC r).Nodup:=h;rw[Qp] at h';have a:=Dr x h'.2;cases hz:eU c with
  |true=>rw[Q4 hz,zO,zO,a]
  |false=>
   have d:c.2=0:=by
    have:(!decide (V.int c.2=V.int 0))=false:=hz;have:=Tl (by simpa using this:decide (V.int c.2=V.int 0)=true);injection this
   rw[Q3 (by rw[hz];decide),zO,a]
   by_cases e:c.1=x
   ·rw[Th e,d]
    exact ix (by rw[<-e];exact h'.1)
   ·rw[Ti e]
def t4(ts:Ch)(x:List Int):aK (c9 ts) x=c6 ts x:=by unfold c9;rw[Dr x (Dn ts),Nt]
def zP(ts:Ch):(ksC (c9 ts)).Nodup:=(Dn ts).sublist ((SK (p:=eU) (l:=bF ts)).map _)
def Ds(ts:Ch):(c9 ts).length<=ts.length:=AA (RF _ _) (Do ts)
def i9:∀{cs:Ch},(ksC cs).Nodup->∀c∈cs,aK cs c.1=c.2
 |[],_,c,h=>absurd h (by simp)
 |d::r,h,c,hc=>by
  have h':(d.1::ksC r).Nodup:=h;rw[Qp] at h';rw[zO];rcases Qk.mp hc with e|hc'
  ·rw[e,Th rfl]
  ·rw[Ti (fun z=>h'.1 (by rw[z];exact Qj.mpr ⟨c,hc',rfl⟩))]
   exact i9 h'.2 c hc'
def Hu{ts:Ch}{c:List Int×Int}(h:c∈c9 ts):c.2≠0/\c6 ts c.1=c.2:=by
 refine⟨fun z=>?_,?_⟩
 ·have:=(Qx.mp h).2
  have:(!decide (V.int c.2=V.int 0))=true:=this;rw[z] at this;exact absurd this ξ
 ·rw[<-t4]
  exact i9 (zP ts) c h
def Nu{ts:Ch}{x:List Int}(h:∀t∈ts,t.1≠x):c6 ts x=0:=by
 induction ts with
 |nil=>rfl
 |cons t r ih=>rw[t1,Ti (h t Ay),ih fun u hu=>h u (Aw _ hu)];rfl
def Nv{ts:Ch}{x:List Int}(h:c6 ts x≠0):∃t∈ts,t.1=x:=by
 refine Classical.byContradiction fun z=>h (Nu fun t ht e=>z ⟨t,ht,e⟩)
noncomputable def m_(ts:Ch):Ch:=ts.foldl (fun acc t=>cT acc t.1 t.2) []
def Hv:∀(ts acc:Ch),(kvC ts).foldl (fun acc kv=>putK acc kv.1 kv.2) (kvC acc)=kvC (ts.foldl (fun acc t=>cT acc t.1 t.2) acc)
 |[],_=>rfl
 |t::r,acc=>by
  show(kvC r).foldl _ (putK (kvC acc) (t.1.map Sum.inl) (.int t.2))=_;rw[pW];exact Hv r _
def Hw(ts:Ch):tR (kvC ts)=kvC (m_ ts):=Hv ts []
def Nw{ps:List Int}(h:ps.Nodup):(rims ps).Nodup:=by
 unfold rims;split
 ·exact QH
 ·have key:∀j k,j<k->k<ps.length->ps.take j++ps.drop (j+1)≠ps.take k++ps.drop (k+1):=by
   intro j k d hk e;have e1:(ps.take j++ps.drop (j+1))[j]?=(ps.take k++ps.drop (k+1))[j]?:=by rw[e]
   rw[Qy (by rw[AC];omega),QC (by rw[AC];omega),Qw d,SV,AC,SG ω] at e1;rw[show j+1+(j-j)=j+1 from ω] at e1;have:=(Q6 ω h).mp e1;omega
  unfold List.Nodup;rw[AX];refine(List.nodup_range (n:=ps.length)).imp_of_mem fun{a b} ha hb c e=>?_;rw[Qv] at ha hb;rcases SW c with z|z
  ·exact key a b z hb e
  ·exact key b a z ha e.symm
def Dt(ps:List Int)(n:Int):ksC (cJ ps n)=rims ps:=by
 unfold ksC cJ;rw[Am];exact R9 0 (rims ps)
def Hx(ps:List Int)(n:Int)(x:List Int):c6 (cJ ps n) x=n*c6 (cJ ps 1) x:=by
 unfold cJ;generalize (rims ps).zipIdx=l
 induction l with
 |nil=>simp[c6]
 |cons q r ih=>
  rw[At,At,t1,t1,ih,Int.mul_add]
  congr 1
  by_cases e:q.1=x
  ·rw[Th e,Th e]
   unfold sg;split<;>simp
  ·rw[Ti e,Ti e];simp
def Du(f:List Int×Int->Ch)(x:List Int):∀cs:Ch,c6 (cs.flatMap f) x=(cs.map fun c=>c6 (f c) x).sum
 |[]=>rfl
 |c::r=>by rw[Bk,Ht,At,QX,Du f x r]
noncomputable abbrev Dv:Stmt:=top 11
def Nx{H:Hp}{d b:Addr}{kvs:List (List Key×V)}{o:HO}(r:Rd H d (.dT kvs))(h:H b=some o)(h1:∀k,o≠.dT k)(h2:∀q k,o≠.frz q (.dT k)):b≠d:=by
 rintro rfl;rcases r with r|⟨q,r⟩
 ·exact h1 _ (Al (h.symm.trans r))
 ·exact h2 _ _ (Al (h.symm.trans r))
def zG.lst{H H':Hp}{d b:Addr}{kvs:List (List Key×V)}{xs:List V}(s:zG d H H')(r:Rd H d (.dT kvs))(h:H b=some (.lst xs)):H' b=some (.lst xs):=s _ _ (Nx r h (by intro k z;cases z) (by intro q k z;cases z)) h
def zG.freeD{H H':Hp}{d l:Addr}{u:HO}(s:zG d H H')(r:Rd H' d u)(h:H' l=none):H l=none:=by
 cases q:H l with
 |none=>rfl
 |some o=>
  have a:l≠d:=fun z=>by
   rw[z] at h;rcases r with r|⟨_,r⟩<;>rw[h] at r<;>cases r
  rw[s _ _ a q] at h;cases h
def zG.thenD{H H1:Hp}{d a:Addr}{o:HO}(e:zG d H H1)(h:H a=none):zG d H (L2.upd H1 a o):=fun b u hb q=>by rw[ah (zj q h)];exact e b u hb q
def t5{cs:Ch}{i:Nat}{kv:List Key×V}(h:(kvC cs)[i]?=some kv):∃c,cs[i]?=some c/\kv=((c.1.map Sum.inl:List Key),V.int c.2):=by
 unfold kvC at h;rw[Ag] at h;cases e:cs[i]? with
 |none=>rw[e] at h;cases h
 |some c=>rw[e] at h;exact⟨c,rfl,(Al h).symm⟩
def pY{H:Hp}{b:Addr}{ps:List Int}(h:H b=some (.tup ((ps.map Sum.inl:List Key).map kV))):Tp H b ps:=by rw[Am] at h;exact h
def Hy{cs:Ch}{i:Nat}{c:List Int×Int}(f:List Int×Int->Ch)(h:cs[i]?=some c):(cs.take (i+1)).flatMap f=(cs.take i).flatMap f++f c:=by rw[AH h,R5];simp
def t7{cs:Ch}(h:∀c∈cs,c.1.length<=5):(cs.flatMap fun c=>cJ c.1 c.2).length<=5*cs.length:=by
 induction cs with
 |nil=>simp
 |cons c r ih=>
  rw[Bk,Ar,AB,Dq];have:=ih fun d hd=>h d (Aw _ hd);have:=k4 c.1;have:=h c Ay;omega
section
variable{P:Program}{w:World}{K:Ae}{mg:Str->Option Value}{base:Heap}
def Dw:Sp:=fun vs H Q _=>∃d cs,vs=[.ref d]/\Rd H d (.dT (kvC cs))/\(ksC cs).Nodup/\cs.length<=200/\(∀c∈cs,c.1.length<=5)/\
 ∀D H',zG d H H'->Rd H' d (.dT (kvC cs))->H D=none->H' D=some (.dT (kvC (c9 (cs.flatMap fun c=>cJ c.1 c.2))))->Q (.ref D) H'
def Dx:zp ["chain","terms","piece"] ["chain"] (zi Dv):=⟨rfl,rfl,rfl,δ,rfl,δ,δ⟩
def Ny{f M fs:Addr}{fd N O:FuncData}(F:Fun K "seam_of" "seam_of" Dv f fd)(Ft:Fun K "seam_terms" "seam_terms" pX M N)(bt:Binds K N ["piece","often"] [])(mt:mg "seam_terms"=some (.ref M))(Gt:FnOk P w K mg base aR 2 M N ["piece","often"] Ho)(Fs:Fun K "sum_of" "sum_of" i5 fs O)(bs:Binds K O ["terms"] [])(ms:mg "sum_of"=some (.ref fs))(Gs:FnOk P w K mg base aR 1 fs O ["terms"] (tZ K)):FnOk P w K mg base aR 3 f fd ["chain"] Dw:=by
 refine F.ok Dx (fun vs H Q E h=>?_) (fun ar A outer s H vs Q E hr h=>?_)
 ·obtain⟨d,cs,rfl,_⟩:=h;rfl
 ·obtain⟨d,cs,rfl,hd,J,sD,y,k⟩:=h
  have hu:=eG hr;have dA:Room 1 _:=hr.mono ξ;have uJ:Room 2 _:=hr.mono ξ;refine⟨_,ze (zt (i:=1) Dx.nd rfl (Or.inl rfl) (fy zd))
   (ze (d0 AL rfl (pH (pv 0)) (zk (i:=2) Dx.nd rfl (Or.inl rfl))
    (zg (fM (g0 Qt PySem.F.slot_list_extend PySem.F.type_list_extend Kl (pv 1) (zc (fc Gt uJ rfl mt Ft.kp bt .nil ak (zc (pv 2) (zc (zR hu (pv 0) (pv 2) (fun _ _=>rfl)) zd))) zd)))))
   (zg (zm (fc Gs dA rfl ms Fs.kp bs .nil ak (zc (pv 1) zd))))),?_⟩
  refine⟨zh (by simp),fun L p=>?_⟩;have W:d≠L:=by
   rcases hd with r|⟨_,r⟩
   ·exact zj r p
   ·exact zj r p
  refine⟨_,rfl,d,kvC cs,rfl,hd.same (Same.new p),fun o H3 iF S=>G8 (fun i σ l=>∃(I:Option V)(ts:List Addr),σ=[some (.ref d),some (.ref L),I]/\zG d H l/\l d=some (.frz o (.dT (kvC cs)))/\l L=some (.lst (ts.map V.ref))/\Prs l ts ((cs.take i).flatMap fun c=>cJ c.1 c.2))
   ⟨none,[],rfl,fun b u hb e=>by rw[S b hb,ah (zj e p)];exact e,iF,by rw[S L (Ne.symm W)];exact ae,.nil⟩ (fun i σ l _ ⟨_,_,_,_,h,_⟩=>h) ?_ ?_⟩
  ·rintro i kv b σ l dH hb ⟨I,ts,rfl,C,q,v,x⟩
   obtain⟨c,U,rfl⟩:=t5 dH;have a:=Ai U;have g:DGet l d (.ref b) (some (.int c.2)):=.inr ⟨kvC cs,c.1.map Sum.inl,b,.inr ⟨o,q⟩,rfl,hb,(gD J c a).symm⟩;refine⟨_,rfl,.inl ⟨rfl,_,SqL.of v⟩,_,rfl,_,rfl,_,rfl,d,_,rfl,g,b,c.1,c.2,rfl,pY hb,y c a,fun D5 Y us j yw G T=>?_⟩;have hlt:=x.length;have sx:=T.length;have X:=t7 (cs:=cs.take i) fun c hc=>y c (Rr hc);rw[AC] at X;rw[Dq] at sx;have:=k4 c.1;have:=y c a;refine⟨L,D5,_,_,rfl,rfl,j _ _ v,G,by rw[Ab,Ab];exact zh ω,⟨_,ts++us,rfl,(C.trans (zG.of j)).thenD p,by rw[ah W];exact j _ _ q,by rw[ae,Aj],?_⟩⟩;rw[Hy _ U];exact Prs.upd ((x.same j).append T) (j _ _ v) (by intro xs z;cases z)
  ·rintro σ l ⟨I,ts,rfl,C,q,v,x⟩
   rw[zK,take_all] at x;have X:=t7 y;refine⟨_,rfl,L,ts,_,rfl,SqL.of v,x,ω,fun D Y j bI G=>?_⟩;exact k D Y (C.trans (zG.of j)) (.inr ⟨o,j _ _ q⟩) (C.freeD (.inr ⟨o,q⟩) bI) G
end
noncomputable abbrev uc(cs:Ch):Ch:=c9 (cs.flatMap fun c=>cJ c.1 c.2)
noncomputable def tau(q x:List Int):Int:=c6 (cJ q 1) x
noncomputable def lin(cs:Ch)(x:List Int):Int:=(cs.map fun c=>c.2*tau c.1 x).sum
def Nz(cs:Ch)(x:List Int):aK (uc cs) x=lin cs x:=by
 rw[t4,Du];unfold lin
 congr 1
 exact Ax fun c _=>Hx c.1 c.2 x
noncomputable def dl(x l:List Int):Int:=if l=x then 1 else 0
def ud(q x:List Int):tau q x=((rims q).zipIdx.map fun r=>sg r.2 1*dl x r.1).sum:=by
 unfold tau c6 cJ;rw[Am]
 congr 1
 refine Ax fun r _=>?_;show(if r.1=x then sg r.2 1 else 0)=sg r.2 1*dl x r.1;unfold dl
 by_cases e:r.1=x
 ·rw[Th e,Th e,Int.mul_one]
 ·rw[Ti e,Ti e,Tb]
def NA(x:List Int):∀ps:List Int,ps.length<=5->lin (cJ ps 1) x=0
 |[],_=>by simp[lin,cJ,rims,AD,List.range.loop]
 |[a],_=>by simp[lin,cJ,rims]
 |[a,b],_=>by simp[lin,cJ,rims,ud,AD,List.range.loop]
 |[a,b,c],_=>by
  simp[lin,cJ,rims,ud,AD,List.range.loop,sg];omega
 |[a,b,c,d],_=>by
  simp[lin,cJ,rims,ud,AD,List.range.loop,sg];omega
 |[a,b,c,d,e],_=>by
  simp[lin,cJ,rims,ud,AD,List.range.loop,sg];omega
 |_::_::_::_::_::_::_,h=>by simp at h
def Hz{a b:Ch}(ha:(ksC a).Nodup)(hb:(ksC b).Nodup)(f:∀c∈a,c.2≠0)(j:∀c∈b,c.2≠0)(h:∀x,aK a x=aK b x):a.length=b.length/\∀c∈a,c∈b:=by
 have d:∀{cs:Ch}{x:List Int},aK cs x≠0->(x,aK cs x)∈cs:=by
  intro cs x
  induction cs with
  |nil=>intro z;exact absurd rfl z
  |cons c r ih=>
   intro z;rw[zO] at z ⊢
   by_cases e:c.1=x
   ·rw[Th e]
    have:c=(x,c.2):=by rw[<-e]
    rw[<-this];exact Ay
   ·rw[Ti e] at z ⊢
    exact Aw _ (ih z)
 have sub:∀{a b:Ch},(ksC a).Nodup->(∀c∈a,c.2≠0)->(∀x,aK a x=aK b x)->∀c∈a,c∈b:=by
  intro a b ha f h c hc;have e:=i9 ha c hc;have hz:=f c hc;rw[h] at e;have:=d (cs:=b) (x:=c.1) (by rw[e];exact hz);rw[e] at this;exact this
 refine⟨?_,sub ha f h⟩;have g:(ksC a).length<=(ksC b).length:=ha.length_le_of_subset fun q hq=>by
  obtain⟨c,hc,rfl⟩:=Qj.mp hq;exact Qj.mpr ⟨c,sub ha f h c hc,rfl⟩
 have i:(ksC b).length<=(ksC a).length:=hb.length_le_of_subset fun q hq=>by
  obtain⟨c,hc,rfl⟩:=Qj.mp hq;exact Qj.mpr ⟨c,sub hb j (fun x=>(h x).symm) c hc,rfl⟩
 rw[ie,ie] at g i;omega
def Dy{cs:Ch}(h:(ksC cs).Nodup)(x:List Int):c6 cs x=aK cs x:=by
 induction cs with
 |nil=>rfl
 |cons c r ih=>
  have h':(c.1::ksC r).Nodup:=h;rw[Qp] at h';rw[t1,zO,ih h'.2]
  by_cases e:c.1=x
  ·rw[Th e,Th e,ix (by rw[<-e];exact h'.1)];omega
  ·rw[Ti e,Ti e];omega
end K64
end
section
namespace K1
noncomputable def sg(q:List Int):Int:=1-2*(1-(q.length:Int)%2)
def nf{ad:Ξ}{q:List Int}:q∈canon ad↔q≠[]/\∃t∈ad,q.Sublist t:=by
 rw[sU,Qo];constructor
 ·rintro⟨t,ht,hq⟩
  exact⟨(iv.mp hq).1,t,ht,(iv.mp hq).2⟩
 ·rintro⟨h,t,ht,hq⟩
  exact⟨t,ht,iv.mpr ⟨h,hq⟩⟩
noncomputable abbrev hol(t p:List Int):Bool:=(p.map fun x=>decide (x∈t)).all id
section
variable{ad:Ξ}{p:List Int}
def Dz(hw:eg ad=true){q:List Int}(h:q∈canon ad):dE q=true:=by
 obtain⟨t,ht,hx⟩:=Qo.mp (sU.mp h);exact G0 ((Dc hw).2.1 t ht) hx
end
end K1
end
section
namespace K1
open PySem L2 STb
noncomputable def iA(met:Ξ)(p:List Int):Bool:=fN p&&!decide (p∈met)&&(rims p).all fun r=>decide (r∈met)
def cA(l:Ξ):Prop:=∀i p,l[i]?=some p->iA (l.take i) p=true
def p0{met:Ξ}{p:List Int}:iA met p=true↔dE p=true/\p∉met/\∀r∈rims p,r∈met:=by
 unfold iA;rw[AM,AM,sG,S4,decide_eq_false_iff_not,Qs,and_assoc];exact and_congr_right fun _=>and_congr_right fun _=>⟨fun h r hr=>Tl (h r hr),fun h r hr=>Tj (h r hr)⟩
def HA:cA []:=fun i p h=>by simp at h
def HB{l:Ξ}{p:List Int}(h:cA l)(a:iA l p=true):cA (l++[p]):=fun i q e=>by
 rcases Rj i l.length with c|c
 ·rw[QC c] at e
  rw[List.take_append_of_le_length ω];exact h i q e
 ·have hi:i=l.length:=by
   have:=(KK.mp e).1;rw[Ar,List.length_singleton] at this;omega
  subst hi;rw[Qy (Af _),Nat.sub_self] at e;cases e;rw[List.take_left']
  ·exact a
  ·rfl
def DA{l:Ξ}(h:cA l){p:List Int}(hp:p∈l):dE p=true/\∀r∈rims p,r∈l:=by
 obtain⟨i,e⟩:=Qn.mp hp;obtain⟨h1,_,a⟩:=p0.mp (h i p e);exact⟨h1,fun r hr=>Rr (a r hr)⟩
def NB{l:Ξ}(h:cA l):l.Nodup:=by
 refine List.nodup_iff_pairwise_ne.mpr (Qu.mpr fun i j hi a c e=>?_);refine(p0.mp (h j l[j] (Ah a))).2.1 (Qn.mpr ⟨i,?_⟩);rw[Qw c,Ah hi,e]
end K1
end
section
namespace Bar
abbrev Ch:=Nat->Int
structure Pr(p:Int):Prop where
 two:2<=p
 two_way:∀a b,p ∣ a*b->p ∣ a\/p ∣ b
 into:∀w g,¬p ∣ w->∃k:Nat,(k:Int)<p/\p ∣ (k:Int)*w-g
def mD{n:Nat}(h2:2<=n)(h:∀a:Fin n,∀b:Fin n,(a.1*b.1)%n=0->a.1=0\/b.1=0)(hi:∀w:Fin n,∀g:Fin n,w.1=0\/∃k:Fin n,(k.1*w.1)%n=g.1):Pr (n:Int):=by
 have fin:∀a:Int,∃x:Fin n,(x.1:Int)=a%n:=fun a=>by
  have c:0<=a%(n:Int):=Rf _ ω;have h1:a%(n:Int)<n:=Q2 _ ω;exact⟨⟨(a%(n:Int)).toNat,ω⟩,by simp only;omega⟩
 refine⟨ω,fun a b hd=>?_,fun w g hw=>?_⟩
 ·obtain⟨x,hx⟩:=fin a
  obtain⟨y,hy⟩:=fin b;have e:(a*b)%(n:Int)=0:=Int.emod_eq_zero_of_dvd hd;rw[Tc,<-hx,<-hy] at e;have e2:(x.1*y.1)%n=0:=by exact_mod_cast e
  rcases h x y e2 with z|z
  ·left
   refine Rc ?_;rw[<-hx,z];rfl
  ·right
   refine Rc ?_;rw[<-hy,z];rfl
 ·obtain⟨x,hx⟩:=fin w
  obtain⟨y,hy⟩:=fin g;rcases hi x y with z|⟨k,hk⟩
  ·refine absurd (Rc ?_) hw
   rw[<-hx,z];rfl
  ·refine⟨k.1,by exact_mod_cast k.2,?_⟩
   refine Rc ?_;have e:((k.1:Int)*w)%n=g%n:=by
    rw[Tc,<-hx,<-hy,<-hk]
    push_cast
    rw[Tc,Int.emod_emod,<-Tc]
   rw[Int.sub_emod,e,Int.sub_self]
   rfl
def NC:Pr 2:=mD (n:=2) ξ ξ ξ
def ND:Pr 3:=mD (n:=3) ξ ξ ξ
def NE:Pr 5:=mD (n:=5) ξ ξ ξ
def NF:Pr 7:=mD (n:=7) ξ ξ ξ
def Z(p:Int)(f:Ch):Prop:=∀u,p ∣ f u
def Yg(p:Int)(f:Ch)(t:Nat):Prop:=¬p ∣ f t/\∀u,t<u->p ∣ f u
def Bl(p:Int)(f:Ch)(T:Nat):Prop:=∀u,T<=u->p ∣ f u
noncomputable abbrev bN(f:Ch)(a:Int)(g:Ch):Ch:=fun u=>f u-a*g u
def k9{p a x y:Int}(h:p ∣ x)(k:p ∣ y):p ∣ x-a*y:=QP h (Bd k (QA _ _))
def NG{p a x y:Int}(h:p ∣ x-a*y)(k:p ∣ y):p ∣ x:=by
 have:=QQ h (Bd k (QA a y))
 rwa [Int.sub_add_cancel] at this
def Yg.uniq{p:Int}{f:Ch}{a b:Nat}(h:Yg p f a)(k:Yg p f b):a=b:=by
 rcases Nat.lt_trichotomy a b with z|z|z
 ·exact absurd (h.2 b z) k.1
 ·exact z
 ·exact absurd (k.2 a z) h.1
def Yg.not_z{p:Int}{f:Ch}{a:Nat}(h:Yg p f a):¬Z p f:=fun z=>h.1 (z a)
def Sp(p:Int):List (Nat×Ch)->Ch->Prop
 |[],f=>Z p f
 |r::L,f=>∃a,Sp p L (bN f a r.2)
def DB{p:Int}:∀{L:List (Nat×Ch)}{f g:Ch},(∀u,p ∣ f u-g u)->Sp p L g->Sp p L f
 |[],f,g,h,hg=>fun u=>by
  have:=QQ (h u) (hg u)
  rwa [Int.sub_add_cancel] at this
 |r::L,f,g,h,⟨a,hg⟩=>⟨a,DB (fun u=>by
   have e:bN f a r.2 u-bN g a r.2 u=f u-g u:=by show f u-a*r.2 u-(g u-a*r.2 u)=_;omega
   rw[e];exact h u) hg⟩
def lj{p:Int}:∀{L:List (Nat×Ch)}{f:Ch},Z p f->Sp p L f
 |[],f,h=>h
 |r::L,f,h=>⟨0,lj fun u=>by show p ∣ f u-0*r.2 u;rw[Int.zero_mul,Int.sub_zero];exact h u⟩
def sp_yg{p:Int}(P:Pr p):∀{L:List (Nat×Ch)},(L.map (·.1)).Nodup->(∀r∈L,Yg p r.2 r.1)->∀{f:Ch},Sp p L f->Z p f\/∃r∈L,Yg p f r.1
 |[],_,_,f,h=>.inl h
 |r::L,nd,hy,f,⟨a,h⟩=>by
  rw[At,Qp] at nd;have hr:=hy r (.head _);have back:∀u,f u=bN f a r.2 u+a*r.2 u:=fun u=>by show f u=f u-a*r.2 u+a*r.2 u;omega
  rcases sp_yg P nd.2 (fun q hq=>hy q (.tail _ hq)) h with z|⟨q,hq,z⟩
  ·by_cases c:p ∣ a
   ·left
    intro u;rw[back u];exact QQ (z u) (Bd c (RK _ _))
   ·right
    refine⟨r,.head _,fun e=>?_,fun u hu=>?_⟩
    ·have:p ∣ a*r.2 r.1:=by
      have:=QP e (z r.1)
      rwa [show f r.1-bN f a r.2 r.1=a*r.2 r.1 from by rw[back r.1];omega] at this
     rcases P.two_way _ _ this with k|k
     ·exact c k
     ·exact hr.1 k
    ·rw[back u]
     exact QQ (z u) (Bd (hr.2 u hu) (QA _ _))
  ·have d:q.1≠r.1:=fun e=>nd.1 (e▸R7 hq)
   by_cases c:p ∣ a
   ·right
    refine⟨q,.tail _ hq,fun e=>z.1 ?_,fun u hu=>?_⟩
    ·exact dvd_of e c
    ·rw[back u]
     exact QQ (z.2 u hu) (Bd c (RK _ _))
   ·rcases SW d with lt|lt
    ·right
     refine⟨r,.head _,fun e=>?_,fun u hu=>?_⟩
     ·have k:=QP e (z.2 r.1 lt)
      rw[show f r.1-bN f a r.2 r.1=a*r.2 r.1 from by rw[back r.1];omega] at k;rcases P.two_way _ _ k with k|k
      ·exact c k
      ·exact hr.1 k
     ·rw[back u]
      exact QQ (z.2 u ω) (Bd (hr.2 u hu) (QA _ _))
    ·right
     refine⟨q,.tail _ hq,fun e=>z.1 (k9 e (hr.2 q.1 lt)),fun u hu=>?_⟩;rw[back u];exact QQ (z.2 u hu) (Bd (hr.2 u ω) (QA _ _))
where
 dvd_of {p a x y:Int} (e:p ∣ x) (c:p ∣ a):p ∣ x-a*y:=QP e (Bd c (RK _ _))
structure Sm(p:Int)(S:Ch->Ch):Prop where
 lin:∀f a g u,S (bN f a g) u=S f u-a*S g u
 z:∀{f},Z p f->Z p (S f)
structure Row where
 b:Nat
 d:Option Nat
 r:Ch
 g:Ch
structure DC(p:Int)(S:Ch->Ch)(T:Nat)(x:Row):Prop where
 born:x.b<T
 yg:Yg p x.r x.b
 cyc:Z p (S x.r)
 gone:∀t,x.d=some t->t<T/\x.b<t/\Yg p x.g t/\∀u,p ∣ S x.g u-x.r u
structure Rows(p:Int)(S:Ch->Ch)(T:Nat)(L:List Row):Prop where
 ok:∀x∈L,DC p S T x
 nd:(L.map (·.b)).Nodup
 all:∀t,t<T->(∃x∈L,x.b=t)\/∃x∈L,x.d=some t
 one:∀x∈L,∀y∈L,y.d≠some x.b
 two:∀x∈L,∀y∈L,∀t,x.d=some t->y.d=some t->x=y
def DD{L:List Row}(nd:(L.map (·.b)).Nodup){x y:Row}(hx:x∈L)(hy:y∈L)(e:x.b=y.b):x=y:=by
 induction L with
 |nil=>cases hx
 |cons q L ih=>
  rw[At,Qp] at nd;rcases Qk.mp hx with rfl|hx'
  ·rcases Qk.mp hy with rfl|hy'
   ·rfl
   ·exact absurd (Qj.mpr ⟨y,hy',e.symm⟩) nd.1
  ·rcases Qk.mp hy with rfl|hy'
   ·exact absurd (Qj.mpr ⟨x,hx',e⟩) nd.1
   ·exact ih nd.2 hx' hy'
noncomputable def dl(t:Nat)(L:List Row):List (Nat×Ch):=(L.filter fun x=>match x.d with|some d=>decide (d<t)|none=>false).map fun x=>(x.b,x.r)
def dl_mem{t:Nat}{L:List Row}{q:Nat×Ch}:q∈dl t L↔∃x∈L,∃d,x.d=some d/\d<t/\q=(x.b,x.r):=by
 unfold dl;rw[Qj];constructor
 ·rintro⟨x,hx,rfl⟩
  rw[Qx] at hx;obtain⟨h1,h2⟩:=hx;cases e:x.d with
  |none=>rw[e] at h2;cases h2
  |some d=>rw[e] at h2;exact⟨x,h1,d,e,Tl h2,rfl⟩
 ·rintro⟨x,hx,d,e,hd,rfl⟩
  refine⟨x,Qx.mpr ⟨hx,?_⟩,rfl⟩;rw[e];exact Tj hd
def dl_nd{t:Nat}{L:List Row}(nd:(L.map (·.b)).Nodup):((dl t L).map (·.1)).Nodup:=by
 unfold dl;rw[Am];exact List.Sublist.nodup (List.Sublist.map _ SK) nd
def DE{p a:Int}{x:Nat×Ch}:∀{L:List (Nat×Ch)}{f g:Ch},x∈L->(∀u,p ∣ bN g a x.2 u-f u)->Sp p L f->Sp p L g
 |r::L,f,g,hx,h,⟨k,hk⟩=>by
  rcases Qk.mp hx with rfl|hx
  ·refine⟨k+a,DB (fun u=>?_) hk⟩
   have e:bN g (k+a) x.2 u-bN f k x.2 u=bN g a x.2 u-f u:=by
    show g u-(k+a)*x.2 u-(f u-k*x.2 u)=g u-a*x.2 u-f u;rw[Int.add_mul];omega
   rw[e];exact h u
  ·refine⟨k,DE (a:=a) (f:=bN f k r.2) hx (fun u=>?_) hk⟩
   have e:bN (bN g k r.2) a x.2 u-bN f k r.2 u=bN g a x.2 u-f u:=by
    show g u-k*r.2 u-a*x.2 u-(f u-k*r.2 u)=g u-a*x.2 u-f u;omega
   rw[e];exact h u
def DF{p:Int}{L':List (Nat×Ch)}:∀{L:List (Nat×Ch)}{f:Ch},(∀x∈L,x∈L')->Sp p L f->Sp p L' f
 |[],f,_,h=>lj h
 |r::L,f,hs,⟨a,h⟩=>DE (a:=a) (f:=bN f a r.2) (hs r (.head _)) (fun u=>by rw[Int.sub_self];exact QL _) (DF (fun x hx=>hs x (.tail _ hx)) h)
def uf{p:Int}(P:Pr p){f g:Ch}{T:Nat}(hf:Bl p f (T+1))(c:Yg p g T):∃a:Int,Bl p (bN f a g) T/\(¬p ∣ f T->¬p ∣ a):=by
 obtain⟨k,_,hk⟩:=P.into (g T) (f T) c.1;refine⟨k,fun u hu=>?_,fun d ha=>d ?_⟩
 ·rcases Nat.eq_or_lt_of_le hu with rfl|hu
  ·have:=Int.dvd_neg.mpr hk
   rwa [show -((k:Int)*g T-f T)=bN f k g T from by show _=f T-k*g T;omega] at this
  ·exact k9 (hf u hu) (c.2 u hu)
 ·have h1:p ∣ (k:Int)*g T:=Bd ha (RK _ _)
  have:=QP h1 hk
  rwa [show(k:Int)*g T-((k:Int)*g T-f T)=f T from ω] at this
def ug{p:Int}(P:Pr p){S:Ch->Ch}(c:Sm p S){T:Nat}{L:List Row}(R:Rows p S T L):∀t,t<=T->∀f,Bl p f t->Sp p (dl t L) (S f)
 |0,_,f,hf=>lj (c.z fun u=>hf u (A6 _))
 |t+1,ht,f,hf=>by
  have more:∀x∈dl t L,x∈dl (t+1) L:=fun q hq=>by
   obtain⟨x,hx,d,e,hd,rfl⟩:=dl_mem.mp hq;exact dl_mem.mpr ⟨x,hx,d,e,ω,rfl⟩
  rcases R.all t ht with ⟨x,hx,rfl⟩|⟨x,hx,e⟩
  ·have o:=R.ok x hx
   obtain⟨a,ha,_⟩:=uf P hf o.yg;refine DB (fun u=>?_) (DF more (ug P c R _ ω _ ha));rw[c.lin];rw[show S f u-(S f u-a*S x.r u)=a*S x.r u from ω];exact Bd (o.cyc u) (QA _ _)
  ·have o:=(R.ok x hx).gone t e
   obtain⟨a,ha,_⟩:=uf P hf o.2.2.1;refine DE (a:=a) (x:=(x.b,x.r)) (dl_mem.mpr ⟨x,hx,t,e,ω,rfl⟩) (fun u=>?_) (DF more (ug P c R _ ω _ ha));rw[c.lin];rw[show bN (S f) a x.r u-(S f u-a*S x.g u)=a*(S x.g u-x.r u) from by show S f u-a*x.r u-(S f u-a*S x.g u)=_;rw[Int.mul_sub];omega];exact Bd (o.2.2.2 u) (QA _ _)
def NH{p:Int}(P:Pr p){S:Ch->Ch}(l:Sm p S){T:Nat}{L:List Row}(R:Rows p S T L){c:Ch}{t:Nat}(hc:Bl p c T)(C:Z p (S c))(hy:Yg p c t):∃x∈L,x.b=t:=by
 have ht:t<T:=Nat.lt_of_not_le fun z=>hy.1 (hc t z);rcases R.all t ht with h|⟨x,hx,e⟩
 ·exact h
 ·exfalso
  have o:=(R.ok x hx).gone t e;obtain⟨a,ha,v⟩:=uf P (T:=t) (f:=c) (g:=x.g) (fun u hu=>hy.2 u hu) o.2.2.1;have w:=v hy.1;have A:=ug P l R t ω _ ha;have j:=(R.ok x hx).yg;have eq:∀u,p ∣ S (bN c a x.g) u+a*x.r u:=fun u=>by
   rw[l.lin];have h1:=k9 (a:=a) (C u) (o.2.2.2 u)
   rwa [show S c u-a*(S x.g u-x.r u)=S c u-a*S x.g u+a*x.r u from by rw[Int.mul_sub];omega] at h1
  have i:Yg p (S (bN c a x.g)) x.b:=by
   refine⟨fun z=>?_,fun u hu=>?_⟩
   ·have k:=QP (eq x.b) z
    rw[show S (bN c a x.g) x.b+a*x.r x.b-S (bN c a x.g) x.b=a*x.r x.b from ω] at k;rcases P.two_way _ _ k with k|k
    ·exact w k
    ·exact j.1 k
   ·have k:=QP (eq u) (Bd (j.2 u hu) (QA a (x.r u)))
    rwa [show S (bN c a x.g) u+a*x.r u-a*x.r u=S (bN c a x.g) u from ω] at k
  rcases sp_yg P (dl_nd R.nd) (fun q hq=>by
   obtain⟨y,hy',d,e',hd,rfl⟩:=dl_mem.mp hq;exact(R.ok y hy').yg) A with z|⟨q,hq,z⟩
  ·exact i.not_z z
  ·obtain⟨y,hy',d,e',hd,rfl⟩:=dl_mem.mp hq
   have:=DD R.nd hx hy' (i.uniq z);subst this;rw[e] at e';cases e';omega
def NI{p:Int}{S:Ch->Ch}{T:Nat}{L:List Row}(R:Rows p S T L){z g:Ch}(hz:Yg p z T)(hc:Z p (S z)):Rows p S (T+1) (L++[⟨T,none,z,g⟩]):=by
 have up:∀x∈L,DC p S (T+1) x:=fun x hx=>by
  have o:=R.ok x hx;exact⟨by have:=o.born;omega,o.yg,o.cyc,fun t e=>by
   obtain⟨a,b⟩:=o.gone t e;exact⟨ω,b⟩⟩
 refine⟨fun x hx=>?_,?_,fun t ht=>?_,fun x hx y hy=>?_,fun x hx y hy t e1 e2=>?_⟩
 ·rcases Qm.mp hx with hx|hx
  ·exact up x hx
  ·rw[Ql.mp hx]
   exact⟨SA _,hz,hc,fun t e=>nomatch e⟩
 ·rw[Aj,Bj]
  refine⟨R.nd,by simp,fun a ha b hb=>?_⟩;obtain⟨x,hx,rfl⟩:=Qj.mp ha;have:=(R.ok x hx).born;simp at hb;omega
 ·rcases Rj t T with h|h
  ·rcases R.all t h with ⟨x,hx,e⟩|⟨x,hx,e⟩
   ·exact .inl ⟨x,AR _ hx,e⟩
   ·exact .inr ⟨x,AR _ hx,e⟩
  ·exact .inl ⟨_,AG _ (.head _),by show T=t;omega⟩
 ·rcases Qm.mp hy with hy|hy
  ·rcases Qm.mp hx with hx|hx
   ·exact R.one x hx y hy
   ·rw[Ql.mp hx]
    intro e;have:=((R.ok y hy).gone _ e).1;simp at this
  ·rw[Ql.mp hy]
   intro e;cases e
 ·rcases Qm.mp hx with hx|hx
  ·rcases Qm.mp hy with hy|hy
   ·exact R.two x hx y hy t e1 e2
   ·rw[Ql.mp hy] at e2;cases e2
  ·rw[Ql.mp hx] at e1;cases e1
noncomputable def kill(b T:Nat)(r g:Ch)(L:List Row):List Row:=L.map fun x=>if x.b=b then⟨b,some T,r,g⟩ else x
def NJ{b T:Nat}{r g:Ch}{L:List Row}:(kill b T r g L).map (·.b)=L.map (·.b):=by
 unfold kill;rw[Am];refine Ax fun x _=>?_;show(if x.b=b then(⟨b,some T,r,g⟩:Row) else x).b=x.b
 by_cases e:x.b=b
 ·rw[Th e];exact e.symm
 ·rw[Ti e]
def NK{p:Int}{S:Ch->Ch}{T:Nat}{L:List Row}(R:Rows p S T L){r g:Ch}{c:Row}(f:c∈L)(hd:c.d=none)(hr:Yg p r c.b)(hc:Z p (S r))(l:Yg p g T)(q:∀u,p ∣ S g u-r u):Rows p S (T+1) (kill c.b T r g L):=by
 have mem:∀y,y∈kill c.b T r g L->y=⟨c.b,some T,r,g⟩\/(y∈L/\y.b≠c.b):=fun y hy=>by
  obtain⟨x,hx,rfl⟩:=Qj.mp hy
  by_cases e:x.b=c.b
  ·rw[Th e];exact .inl rfl
  ·rw[Ti e];exact .inr ⟨hx,e⟩
 have keep:∀x∈L,x.b≠c.b->x∈kill c.b T r g L:=fun x hx e=>Qj.mpr ⟨x,hx,Ti e⟩;have new:(⟨c.b,some T,r,g⟩:Row)∈kill c.b T r g L:=Qj.mpr ⟨c,f,Th rfl⟩;refine⟨fun y hy=>?_,by rw[NJ];exact R.nd,fun t ht=>?_,fun x hx y hy=>?_,fun x hx y hy t e1 e2=>?_⟩
 ·rcases mem y hy with rfl|⟨hy,_⟩
  ·exact⟨by have:=(R.ok c f).born;show c.b<T+1;omega,hr,hc,fun t e=>by
    cases e;exact⟨SA _,(R.ok c f).born,l,q⟩⟩
  ·have o:=R.ok y hy
   exact⟨by have:=o.born;omega,o.yg,o.cyc,fun t e=>by
    obtain⟨a,b⟩:=o.gone t e;exact⟨ω,b⟩⟩
 ·rcases Rj t T with h|h
  ·rcases R.all t h with ⟨x,hx,e⟩|⟨x,hx,e⟩
   ·by_cases i:x.b=c.b
    ·exact .inl ⟨_,new,by show c.b=t;omega⟩
    ·exact .inl ⟨x,keep x hx i,e⟩
   ·refine .inr ⟨x,keep x hx fun i=>?_,e⟩
    have:=DD R.nd hx f i;subst this;rw[hd] at e;cases e
  ·exact .inr ⟨_,new,by show some T=some t;rw[show T=t from ω]⟩
 ·rcases mem x hx with rfl|⟨hx,nx⟩
  ·rcases mem y hy with rfl|⟨hy,j⟩
   ·intro e
    have:=(R.ok c f).born;have e':T=c.b:=Al e;omega
   ·exact R.one c f y hy
  ·rcases mem y hy with rfl|⟨hy,j⟩
   ·intro e
    have:=(R.ok x hx).born;cases e;omega
   ·exact R.one x hx y hy
 ·rcases mem x hx with rfl|⟨hx,nx⟩
  ·rcases mem y hy with rfl|⟨hy,j⟩
   ·rfl
   ·cases e1
    have:=((R.ok y hy).gone _ e2).1;omega
  ·rcases mem y hy with rfl|⟨hy,j⟩
   ·cases e2
    have:=((R.ok x hx).gone _ e1).1;omega
   ·exact R.two x hx y hy t e1 e2
structure WO(p:Int)(S:Ch->Ch)(T:Nat)(left fill:Ch):Prop where
 sm:∀u,p ∣ S fill u-left u
 yg:Yg p fill T
 bl:Bl p left T
def WO.closed{p:Int}{S:Ch->Ch}{T:Nat}{l f:Ch}(W:WO p S T l f)(a:Sm p S)(c:Z p (S (S f))):Z p (S l):=fun u=>by
 have h:=a.z (f:=bN (S f) 1 l) (fun u=>by show p ∣ S f u-1*l u;rw[Int.one_mul];exact W.sm u) u;rw[a.lin,Int.one_mul] at h;have:=QP (c u) h
 rwa [show S (S f) u-(S (S f) u-S l u)=S l u from ω] at this
def WO.step{p:Int}{S:Ch->Ch}(c:Sm p S){T:Nat}{L:List Row}(R:Rows p S T L){l f:Ch}(W:WO p S T l f){x:Row}{d:Nat}(hx:x∈L)(hd:x.d=some d)(hy:Yg p l x.b){k:Int}(hk:p ∣ k*x.r x.b-l x.b):WO p S T (bN l k x.r) (bN f k x.g)/\Bl p (bN l k x.r) x.b:=by
 have o:=R.ok x hx;obtain⟨g1,g2,g3,g4⟩:=o.gone d hd;refine⟨⟨fun u=>?_,⟨fun z=>W.yg.1 (NG z (g3.2 T g1)),fun u hu=>k9 (W.yg.2 u hu) (g3.2 u ω)⟩,fun u hu=>k9 (W.bl u hu) (o.yg.2 u (by have:=o.born;omega))⟩,fun u hu=>?_⟩
 ·rw[c.lin]
  have:=k9 (a:=k) (W.sm u) (g4 u)
  rwa [show S f u-l u-k*(S x.g u-x.r u)=S f u-k*S x.g u-bN l k x.r u from by show _=S f u-k*S x.g u-(l u-k*x.r u);rw[Int.mul_sub];omega] at this
 ·rcases Nat.eq_or_lt_of_le hu with rfl|hu
  ·have:=Int.dvd_neg.mpr hk
   rwa [show -(k*x.r x.b-l x.b)=bN l k x.r x.b from by show _=l x.b-k*x.r x.b;omega] at this
  ·exact k9 (hy.2 u hu) (o.yg.2 u hu)
noncomputable def cV(cs:List (List Int×Int))(q:List Int):Int:=((cs.find? fun c=>decide (c.1=q)).map (·.2)).getD 0
def HC(c:List Int×Int)(r:List (List Int×Int))(x:List Int):cV (c::r) x=if c.1=x then c.2 else cV r x:=by
 unfold cV;rw[QK]
 by_cases e:c.1=x
 ·rw[Tj e,Th e];rfl
 ·rw[Tk e,Ti e]
def HD{x:List Int}:∀{cs:List (List Int×Int)},x∉cs.map (·.1)->cV cs x=0
 |[],_=>rfl
 |c::r,h=>by
  rw[At,Qk,not_or] at h;rw[HC,Ti (Ne.symm h.1),HD h.2]
def uy{a:Type}(f g:a->Int):∀l:List a,(l.map fun x=>f x+g x).sum=(l.map f).sum+(l.map g).sum
 |[]=>rfl
 |x::l=>by rw[At,QX,At,QX,At,QX,uy f g l];omega
def uA{c:Type}(a:Int)(f:c->Int):∀l:List c,(l.map fun x=>a*f x).sum=a*(l.map f).sum
 |[]=>by simp
 |x::l=>by rw[At,QX,At,QX,uA a f l,Int.mul_add]
def uE{a:Type}:∀l:List a,(l.map fun _=>(0:Int)).sum=0
 |[]=>rfl
 |x::l=>by rw[At,QX,uE l];rfl
def HE{a:Type}{p:Int}(f:a->Int):∀l:List a,(∀x∈l,p ∣ f x)->p ∣ (l.map f).sum
 |[],_=>QL _
 |x::l,h=>by rw[At,QX];exact QQ (h x (.head _)) (HE f l fun y hy=>h y (.tail _ hy))
def HF{a c:Type}(f:a->c->Int)(m:List c):∀l:List a,(l.map fun x=>(m.map fun y=>f x y).sum).sum=(m.map fun y=>(l.map fun x=>f x y).sum).sum
 |[]=>by simp only[Sl,List.sum_nil];exact(uE m).symm
 |x::l=>by
  rw[At,QX,HF f m l,<-uy]
  congr 1
def HG{e:List Int->Int}{q:List Int}{v:Int}:∀{l:Ξ},l.Nodup->(l.map fun x=>if q=x then v*e x else 0).sum=if q∈l then v*e q else 0
 |[],_=>by simp
 |x::l,nd=>by
  rw[Qp] at nd;rw[At,QX,HG nd.2]
  by_cases h:q=x
  ·subst h
   rw[Th rfl,Ti nd.1,Th Ay];omega
  ·rw[Ti h]
   by_cases k:q∈l
   ·rw[Th k,Th (Aw _ k)];omega
   ·rw[Ti k,Ti (fun z=>(Qk.mp z).elim h k)];rfl
def DG{oo:Ξ}(nd:oo.Nodup)(e:List Int->Int):∀{cs:List (List Int×Int)},(cs.map (·.1)).Nodup->(∀c∈cs,c.1∈oo)->(cs.map fun c=>c.2*e c.1).sum=(oo.map fun x=>cV cs x*e x).sum
 |[],_,_=>by
  have:(oo.map fun x=>cV [] x*e x)=oo.map fun _=>(0:Int):=Ax fun x _=>by show 0*e x=0;rw[Int.zero_mul]
  rw[this,uE];rfl
 |c::r,hn,hs=>by
  rw[At,Qp] at hn;rw[At,QX,DG nd e hn.2 fun d hd=>hs d (.tail _ hd)];have e1:(oo.map fun x=>cV (c::r) x*e x)=oo.map fun x=>(if c.1=x then c.2*e x else 0)+cV r x*e x:=by
   refine Ax fun x _=>?_;rw[HC]
   by_cases h:c.1=x
   ·rw[Th h,Th h,<-h,HD hn.1];omega
   ·rw[Ti h,Ti h];omega
  rw[e1,uy,HG nd,Th (hs c (.head _))]
noncomputable def cat(oo:Ξ)(F:List Int->Int):Ch:=fun u=>match oo[u]? with
 |some x=>F x
 |none=>0
def HH{oo:Ξ}{F:List Int->Int}{u:Nat}{x:List Int}(h:oo[u]?=some x):cat oo F u=F x:=by unfold cat;rw[h]
def NL{oo:Ξ}{F:List Int->Int}{u:Nat}(h:oo.length<=u):cat oo F u=0:=by unfold cat;rw[QU h]
noncomputable def sm(oo:Ξ)(tau:List Int->List Int->Int)(f:Ch):Ch:=fun u=>match oo[u]? with
 |some y=>(oo.zipIdx.map fun q=>f q.2*tau q.1 y).sum
 |none=>0
def NM(oo:Ξ)(tau:List Int->List Int->Int)(f:Ch)(a:Int)(g:Ch)(u:Nat):sm oo tau (bN f a g) u=sm oo tau f u-a*sm oo tau g u:=by
 unfold sm;cases e:oo[u]? with
 |none=>show(0:Int)=0-a*0;omega
 |some y=>
  show(oo.zipIdx.map fun q=>bN f a g q.2*tau q.1 y).sum=(oo.zipIdx.map fun q=>f q.2*tau q.1 y).sum-a*(oo.zipIdx.map fun q=>g q.2*tau q.1 y).sum;have e1:(oo.zipIdx.map fun q=>bN f a g q.2*tau q.1 y)=oo.zipIdx.map fun q=>f q.2*tau q.1 y+(-a)*(g q.2*tau q.1 y):=by
   refine Ax fun q _=>?_;show(f q.2-a*g q.2)*tau q.1 y=_;rw[Int.sub_mul,Int.mul_assoc,Int.neg_mul];omega
  rw[e1,uy,uA,Int.neg_mul];omega
def ni(p:Int)(oo:Ξ)(tau:List Int->List Int->Int):Sm p (sm oo tau):=by
 refine⟨fun f a g u=>NM oo tau f a g u,fun{f} h u=>?_⟩;unfold sm;cases e:oo[u]? with
 |none=>exact QL _
 |some y=>exact HE _ _ fun q _=>Bd (h q.2) (RK _ _)
def jA{oo:Ξ}{q:List Int×Nat}(h:q∈oo.zipIdx):oo[q.2]?=some q.1:=by
 have:=List.mem_zipIdx_iff_getElem? (x:=q) (l:=oo);exact this.mp h
def NN{oo:Ξ}(nd:oo.Nodup){tau:List Int->List Int->Int}{cs:List (List Int×Int)}(a:(cs.map (·.1)).Nodup)(d:∀c∈cs,c.1∈oo){u:Nat}{y:List Int}(h:oo[u]?=some y):sm oo tau (cat oo (cV cs)) u=(cs.map fun c=>c.2*tau c.1 y).sum:=by
 rw[DG nd (fun x=>tau x y) a d];unfold sm;rw[h];show(oo.zipIdx.map fun q=>cat oo (cV cs) q.2*tau q.1 y).sum=_;have e1:(oo.zipIdx.map fun q=>cat oo (cV cs) q.2*tau q.1 y)=oo.zipIdx.map ((fun x=>cV cs x*tau x y) ∘ Prod.fst):=Ax fun q hq=>by
  show cat oo (cV cs) q.2*tau q.1 y=cV cs q.1*tau q.1 y;rw[HH (jA hq)]
 rw[e1,<-Am,R9]
def NO{oo:Ξ}{tau:List Int->List Int->Int}(hdd:∀x∈oo,∀y∈oo,(oo.map fun z=>tau x z*tau z y).sum=0)(f:Ch)(u:Nat):sm oo tau (sm oo tau f) u=0:=by
 show(match oo[u]? with|some y=>(oo.zipIdx.map fun q:List Int×Nat=>sm oo tau f q.2*tau q.1 y).sum|none=>(0:Int))=0;cases e:oo[u]? with
 |none=>rfl
 |some y=>
  show(oo.zipIdx.map fun q=>sm oo tau f q.2*tau q.1 y).sum=0;have hy:=Ai e;have e1:(oo.zipIdx.map fun q=>sm oo tau f q.2*tau q.1 y)=oo.zipIdx.map fun q=>(oo.zipIdx.map fun r=>f r.2*(tau r.1 q.1*tau q.1 y)).sum:=Ax fun q hq=>by
   have e2:sm oo tau f q.2=(oo.zipIdx.map fun r=>f r.2*tau r.1 q.1).sum:=by
    show(match oo[q.2]? with|some y=>(oo.zipIdx.map fun r:List Int×Nat=>f r.2*tau r.1 y).sum|none=>(0:Int))=_;rw[jA hq]
   rw[e2,Int.mul_comm,<-uA]
   congr 1
   refine Ax fun r _=>?_;rw[Int.mul_comm,Int.mul_assoc]
  rw[e1,HF];have e3:(oo.zipIdx.map fun r=>(oo.zipIdx.map fun q=>f r.2*(tau r.1 q.1*tau q.1 y)).sum)=oo.zipIdx.map fun _=>(0:Int):=Ax fun r hr=>by
   have hx:=Ai (jA hr);rw[uA];have a:(oo.zipIdx.map fun q=>tau r.1 q.1*tau q.1 y)=oo.zipIdx.map ((fun z=>tau r.1 z*tau z y) ∘ Prod.fst):=rfl;rw[a,<-Am,R9,hdd _ hx _ hy,Tb]
  rw[e3,uE]
end Bar
end
section
namespace K64
open K1
open PySem L2 STb
def HI{g:Int->Int}(a:g 0=0)(x:List Int):∀cs:Ch,aK (cs.map fun c=>(c.1,g c.2)) x=g (aK cs x)
 |[]=>a.symm
 |c::r=>by
  rw[At,zO,zO,HI a x r];split<;>rfl
def NP(g:List Int×Int->Int)(cs:Ch):ksC (cs.map fun c=>(c.1,g c))=ksC cs:=by unfold ksC;rw[Am];rfl
def DH{g:Int->Int}(a:g 0=0){cs:Ch}(nd:(ksC cs).Nodup)(x:List Int):c6 (cs.map fun c=>(c.1,g c.2)) x=g (aK cs x):=by
 rw[Dy (by rw[NP fun c=>g c.2];exact nd),HI a]
def DI{ts:Ch}{c:List Int×Int}(h:c∈c9 ts):∃t∈ts,t.1=c.1:=by
 obtain⟨h1,h2⟩:=Hu h;exact Nv (by rw[h2];exact h1)
noncomputable def md(p:Int)(cs:Ch):Ch:=c9 (cs.map fun c=>(c.1,c.2%p))
def HJ{p:Int}{cs:Ch}(nd:(ksC cs).Nodup)(x:List Int):aK (md p cs) x=aK cs x%p:=by
 unfold md;rw[t4,DH (g:=fun v=>v%p) (Int.zero_emod p) nd]
structure ChP(p:Int)(cs:Ch):Prop where
 nd:(ksC cs).Nodup
 lo:∀c∈cs,1<=c.2/\c.2<p
def p3{p:Int}(hp:0<p){cs:Ch}(nd:(ksC cs).Nodup):ChP p (md p cs):=by
 refine⟨zP _,fun c hc=>?_⟩;obtain⟨h1,h2⟩:=Hu hc;rw[DH (g:=fun v=>v%p) (Int.zero_emod p) nd] at h2;have:=Rf (aK cs c.1) (b:=p) ω;have:=Q2 (aK cs c.1) hp;have h2:aK cs c.1%p=c.2:=h2;omega
def HK{p:Int}{cs:Ch}{q:List Int}(h:q∈ksC (md p cs)):q∈ksC cs:=by
 obtain⟨c,hc,rfl⟩:=Qj.mp h;obtain⟨t,ht,e⟩:=DI hc;obtain⟨d,hd,rfl⟩:=Qj.mp ht;exact e▸Qj.mpr ⟨d,hd,rfl⟩
def NQ{cs:Ch}{x:List Int}(h:aK cs x≠0):x∈ksC cs:=Classical.byContradiction fun z=>h (ix z)
def ChP.range{p:Int}(hp:0<p){cs:Ch}(h:ChP p cs)(x:List Int):0<=aK cs x/\aK cs x<p:=by
 by_cases e:x∈ksC cs
 ·obtain⟨c,hc,rfl⟩:=Qj.mp e
  rw[i9 h.nd c hc];have:=h.lo c hc;omega
 ·rw[ix e];omega
def ChP.at{p:Int}{cs:Ch}(h:ChP p cs){x:List Int}(hx:x∈ksC cs):1<=aK cs x/\aK cs x<p:=by
 obtain⟨c,hc,rfl⟩:=Qj.mp hx;rw[i9 h.nd c hc];exact h.lo c hc
noncomputable def less(p:Int)(a:Ch)(k:Int)(b:Ch):Ch:=md p (c9 (a++b.map fun c=>(c.1,-k*c.2)))
def less_get{p k:Int}{a b:Ch}(c:(ksC a).Nodup)(d:(ksC b).Nodup)(x:List Int):aK (less p a k b) x=(aK a x-k*aK b x)%p:=by
 unfold less;rw[HJ (zP _),t4,Ht,Dy c,DH (g:=fun v=>-k*v) (Tb _) d,Int.neg_mul]
 rfl
def HL{p:Int}(hp:0<p){k:Int}{a b:Ch}:ChP p (less p a k b):=p3 hp (zP _)
def less_key{p k:Int}{a b:Ch}{q:List Int}(h:q∈ksC (less p a k b)):q∈ksC a\/q∈ksC b:=by
 have h:=HK h;obtain⟨c,hc,rfl⟩:=Qj.mp h;obtain⟨t,ht,e⟩:=DI hc;rcases Qm.mp ht with ht|ht
 ·exact .inl (e▸Qj.mpr ⟨t,ht,rfl⟩)
 ·obtain⟨d,hd,rfl⟩:=Qj.mp ht
  exact .inr (e▸Qj.mpr ⟨d,hd,rfl⟩)
noncomputable abbrev sb(p:Int)(cs:Ch):Ch:=md p (uc cs)
def DJ{p:Int}(cs:Ch)(x:List Int):aK (sb p cs) x=lin cs x%p:=by rw[HJ (zP _),Nz]
def uO{p:Int}{cs:Ch}{q:List Int}(h:q∈ksC (sb p cs)):∃c∈cs,q∈rims c.1:=by
 have h:=HK h;obtain⟨c,hc,rfl⟩:=Qj.mp h;obtain⟨t,ht,e⟩:=DI hc;obtain⟨d,hd,ht⟩:=Qo.mp ht;refine⟨d,hd,?_⟩;rw[<-Dt d.1 d.2,<-e];exact Qj.mpr ⟨t,ht,rfl⟩
structure fj(oo:Ξ):Prop where
 o:cA oo
 nd:oo.Nodup
 rim:∀q∈oo,∀r∈rims q,r∈oo
 le:∀q∈oo,q.length<=5
 pn:∀q∈oo,q.Nodup
def DK{oo:Ξ}(h:cA oo):fj oo:=
 ⟨h,NB h,fun q hq=>(DA h hq).2,fun q hq=>(zW.mp (DA h hq).1).2.1,fun q hq=>by
  have:=(zW.mp (DA h hq).1);exact List.Pairwise.imp (fun h=>ω) this.2.2.2⟩
noncomputable abbrev aX(oo:Ξ)(cs:Ch):Bar.Ch:=Bar.cat oo (aK cs)
def fC{oo:Ξ}{cs:Ch}{u:Nat}{x:List Int}(h:oo[u]?=some x):aX oo cs u=aK cs x:=Bar.HH h
def jU{oo:Ξ}{cs:Ch}{u:Nat}(h:oo.length<=u):aX oo cs u=0:=Bar.NL h
noncomputable abbrev So(oo:Ξ):Bar.Ch->Bar.Ch:=Bar.sm oo tau
section
variable{p:Int}{oo:Ξ}{cs:Ch}
def NR(O:fj oo)(nd:(ksC cs).Nodup)(a:∀q∈ksC cs,q∈oo){u:Nat}{y:List Int}(h:oo[u]?=some y):So oo (aX oo cs) u=lin cs y:=
 Bar.NN (tau:=tau) O.nd nd (fun c hc=>a _ (Qj.mpr ⟨c,hc,rfl⟩)) h
def hdd(O:fj oo):∀x∈oo,∀y∈oo,(oo.map fun z=>tau x z*tau z y).sum=0:=fun x hx y hy=>by
 have nd:(ksC (cJ x 1)).Nodup:=by rw[Dt];exact Nw (O.pn x hx)
 have h:=Bar.DG O.nd (fun z=>tau z y) (cs:=cJ x 1) nd (fun c hc=>O.rim x hx _ (by rw[<-Dt x 1];exact Qj.mpr ⟨c,hc,rfl⟩));have h2:lin (cJ x 1) y=0:=NA y x (O.le x hx);have e:(oo.map fun z=>tau x z*tau z y)=oo.map fun z=>Bar.cV (cJ x 1) z*tau z y:=Ax fun z _=>by
  show c6 (cJ x 1) z*_=aK (cJ x 1) z*_;rw[Dy nd]
 rw[e,<-h];exact h2
def HM(a p:Int):p ∣ a-a%p:=⟨a / p,by have:=Int.emod_add_mul_ediv a p;omega⟩
def DL(O:fj oo)(nd:(ksC cs).Nodup)(a:∀q∈ksC cs,q∈oo)(u:Nat):p ∣ So oo (aX oo cs) u-aX oo (sb p cs) u:=by
 cases e:oo[u]? with
 |none=>
  have h1:So oo (aX oo cs) u=0:=by
   show(match oo[u]? with|some y=>(oo.zipIdx.map fun q:List Int×Nat=>aX oo cs q.2*tau q.1 y).sum|none=>(0:Int))=0;rw[e]
  rw[h1,jU (by simpa using e)];exact QL _
 |some y=>
  rw[NR O nd a e,fC e,DJ];exact HM _ _
def DM{k:Int}{a b:Ch}(c:(ksC a).Nodup)(d:(ksC b).Nodup)(u:Nat):p ∣ Bar.bN (aX oo a) k (aX oo b) u-aX oo (less p a k b) u:=by
 show p ∣ aX oo a u-k*aX oo b u-aX oo (less p a k b) u;cases e:oo[u]? with
 |none=>
  have h:oo.length<=u:=by simpa using e
  rw[jU h,jU h,jU h,Tb];exact QL _
 |some y=>
  rw[fC e,fC e,fC e,less_get c d];exact HM _ _
abbrev Cg(p:Int)(f g:Bar.Ch):Prop:=∀u,p ∣ f u-g u
def Cg.dvd{f g:Bar.Ch}(h:Cg p f g)(u:Nat):p ∣ f u↔p ∣ g u:=by
 constructor
 ·intro z
  have:=QP z (h u)
  rwa [show f u-(f u-g u)=g u from ω] at this
 ·intro z
  have:=QQ (h u) z
  rwa [show f u-g u+g u=f u from ω] at this
def Cg.yg{f g:Bar.Ch}(h:Cg p f g){t:Nat}(y:Bar.Yg p f t):Bar.Yg p g t:=⟨fun z=>y.1 ((h.dvd t).mpr z),fun u hu=>(h.dvd u).mp (y.2 u hu)⟩
def Cg.bl{f g:Bar.Ch}(h:Cg p f g){t:Nat}(y:Bar.Bl p f t):Bar.Bl p g t:=fun u hu=>(h.dvd u).mp (y u hu)
def Cg.z{f g:Bar.Ch}(h:Cg p f g)(y:Bar.Z p f):Bar.Z p g:=fun u=>(h.dvd u).mp (y u)
def Cg.s{f g:Bar.Ch}(h:Cg p f g):Cg p (So oo f) (So oo g):=fun u=>by
 have e:=(Bar.ni p oo tau).z (f:=Bar.bN f 1 g) (fun u=>by show p ∣ f u-1*g u;rw[Int.one_mul];exact h u) u;rw[(Bar.ni p oo tau).lin,Int.one_mul] at e;exact e
def NS{T:Nat}{l f d e:Bar.Ch}(W:Bar.WO p (So oo) T l f)(g:Cg p l d)(hf:Cg p f e):Bar.WO p (So oo) T d e:=by
 refine⟨fun u=>?_,hf.yg W.yg,g.bl W.bl⟩;have a:=W.sm u;have b:=hf.s (oo:=oo) u;have c:=g u;have:=QQ (QP a b) c
 rwa [show So oo f u-l u-(So oo f u-So oo e u)+(l u-d u)=So oo e u-d u from ω] at this
def HP(O:fj oo)(h:ChP p cs)(hp:0<p){t:Nat}{y:List Int}(hy:y∈ksC cs)(ht:oo[t]?=some y)(hm:∀x∈ksC cs,∀u,oo[u]?=some x->u<=t):Bar.Yg p (aX oo cs) t:=by
 refine⟨fun z=>?_,fun u hu=>?_⟩
 ·rw[fC ht] at z
  have:=h.at hy;have:=S6 ω z;omega
 ·cases e:oo[u]? with
  |none=>rw[jU (by simpa using e)];exact QL _
  |some x=>
   rw[fC e];have:x∉ksC cs:=fun hx=>by have:=hm x hx u e;omega
   rw[ix this];exact QL _
def HQ{t:Nat}(h:Bar.Yg p (aX oo cs) t):∃y,oo[t]?=some y/\y∈ksC cs:=by
 cases e:oo[t]? with
 |none=>exact absurd (by rw[jU (by simpa using e)];exact QL _) h.1
 |some x=>
  refine⟨x,rfl,NQ fun z=>h.1 ?_⟩;rw[fC e,z];exact QL _
def NT(h:ChP p cs){t:Nat}(hy:Bar.Yg p (aX oo cs) t){x:List Int}(hx:x∈ksC cs){u:Nat}(e:oo[u]?=some x):u<=t:=by
 refine Nat.le_of_not_lt fun z=>?_;have d:=hy.2 u z;rw[fC e] at d;have:=h.at hx;have:=S6 ω d;omega
def NU:Bar.Z p (aX oo []):=fun u=>by
 cases e:oo[u]? with
 |none=>rw[jU (by simpa using e)];exact QL _
 |some x=>rw[fC e];exact QL _
def NV(h:ChP p cs)(a:∀q∈ksC cs,q∈oo)(z:Bar.Z p (aX oo cs)):cs=[]:=by
 cases cs with
 |nil=>rfl
 |cons c r=>
  obtain⟨u,e⟩:=Qn.mp (a c.1 (Qj.mpr ⟨c,.head _,rfl⟩));have d:=z u;rw[fC e] at d;have:=h.at (x:=c.1) (Qj.mpr ⟨c,.head _,rfl⟩);have:=S6 ω d;omega
end
structure bi where
 hi:Int
 b:Nat
 d:Option Nat
 c:Ch
 g:Ch
structure p5(p:Int)(oo:Ξ)(x:bi):Prop where
 c:ChP p x.c
 ci:∀q∈ksC x.c,q∈oo/\(q.length:Int)=x.hi+1
 g:∀t,x.d=some t->ChP p x.g/\∀q∈ksC x.g,q∈oo/\(q.length:Int)=x.hi+2
noncomputable abbrev fE(oo:Ξ)(x:bi):Bar.Row:=⟨x.b,x.d,aX oo x.c,aX oo x.g⟩
structure dc(p:Int)(oo:Ξ)(T:Nat)(L:List bi):Prop where
 ok:∀x∈L,p5 p oo x
 rows:Bar.Rows p (So oo) T (L.map (fE oo))
 srt:(L.map (·.b)).Pairwise (·<·)
def NW{p:Int}{oo:Ξ}:dc p oo 0 []:=⟨(fun x hx=>nomatch hx),⟨(fun x hx=>nomatch hx),QH,(fun t ht=>absurd ht (Nat.not_lt_zero _)),(fun x hx=>nomatch hx),(fun x hx=>nomatch hx)⟩,List.Pairwise.nil⟩
noncomputable def fG(L:List bi)(x:bi):List bi:=L.map fun y=>if y.b=x.b then x else y
structure Wk(p:Int)(oo:Ξ)(T:Nat)(q:List Int)(left fill:Ch):Prop where
 l:ChP p left
 li:∀k∈ksC left,k∈oo/\k.length+1=q.length
 f:ChP p fill
 fi:∀k∈ksC fill,k∈oo/\k.length=q.length
 wo:Bar.WO p (So oo) T (aX oo left) (aX oo fill)
section
variable{p:Int}{oo:Ξ}{T:Nat}{q:List Int}{left fill:Ch}{L:List bi}
def DN{q r:List Int}(h:r∈rims q):r.length+1=q.length:=by
 obtain⟨h1,k,hk,rfl⟩:=tm.mp h;rw[Ar,AC,QE];omega
def HR(O:fj oo)(hp:2<=p)(hT:oo[T]?=some q):Wk p oo T q (sb p [(q,1)]) [(q,1)]:=by
 have hq:q∈oo:=Ai hT;have nd:(ksC [(q,(1:Int))]).Nodup:=by simp[ksC]
 have hf:ChP p [(q,1)]:=⟨nd,fun c hc=>by rw[Ql.mp hc];exact⟨QI _,by show(1:Int)<p;omega⟩⟩;have hk:∀k∈ksC [(q,(1:Int))],k=q:=fun k hk=>by simpa[ksC] using hk
 refine⟨p3 ω (zP _),fun k a=>?_,hf,fun k a=>by rw[hk k a];exact⟨hq,rfl⟩,⟨fun u=>DL O nd (fun k a=>by rw[hk k a];exact hq) u,?_,fun u hu=>?_⟩⟩
 ·obtain⟨c,hc,hr⟩:=uO a
  rw[Ql.mp hc] at hr;exact⟨O.rim q hq k hr,DN hr⟩
 ·refine HP O hf ω (y:=q) (by simp[ksC]) hT fun x hx u e=>?_
  rw[hk x hx] at e;obtain⟨h1,e1⟩:=KK.mp e;have:=(Q6 h1 O.nd).mp (e.trans hT.symm);omega
 ·cases e:oo[u]? with
  |none=>rw[jU (by simpa using e)];exact QL _
  |some y=>
   rw[fC e];have g:y∉ksC (sb p [(q,1)]):=fun hy=>by
    obtain⟨c,hc,hr⟩:=uO hy;rw[Ql.mp hc] at hr;have f:=(p0.mp (O.o T q hT)).2.2 y hr;obtain⟨j,d⟩:=Qn.mp f;have h:j<T:=by
     have:=(KK.mp d).1;rw[AC] at this;omega
    rw[Qw h] at d;obtain⟨h1,_⟩:=KK.mp d;have:=(Q6 h1 O.nd).mp (d.trans e.symm);omega
   rw[ix g];exact QL _
def Wk.cyc(O:fj oo)(W:Wk p oo T q left fill):Bar.Z p (So oo (aX oo left)):=
 W.wo.closed (Bar.ni p oo tau) fun u=>by rw[show So oo (So oo (aX oo fill)) u=0 from Bar.NO (hdd O) _ _];exact QL _
def NX(P:Bar.Pr p)(O:fj oo)(R:dc p oo T L)(W:Wk p oo T q left fill){t:Nat}(hy:Bar.Yg p (aX oo left) t):∃x∈L,x.b=t:=by
 obtain⟨x,hx,e⟩:=Bar.NH P (Bar.ni p oo tau) R.rows W.wo.bl (W.cyc O) hy;obtain⟨y,hy,rfl⟩:=Qj.mp hx;exact⟨y,hy,e⟩
def gE(R:dc p oo T L){x:bi}(hx:x∈L):Bar.DC p (So oo) T (fE oo x):=R.rows.ok _ (Qj.mpr ⟨x,hx,rfl⟩)
def uP(R:dc p oo T L){x:bi}(hx:x∈L):∃y,oo[x.b]?=some y/\y∈ksC x.c:=HQ (gE R hx).yg
def NY(hp:0<p)(R:dc p oo T L)(W:Wk p oo T q left fill){x:bi}(hx:x∈L){e:Nat}(hd:x.d=some e){y:List Int}(hy:Bar.Yg p (aX oo left) x.b)(ht:oo[x.b]?=some y)(i:y∈ksC left){k:Int}(hk:p ∣ k*aK x.c y-aK left y):Wk p oo T q (less p left k x.c) (less p fill k x.g)/\Bar.Bl p (aX oo (less p left k x.c)) x.b:=by
 have o:=R.ok x hx;obtain⟨j,r⟩:=o.g e hd;have hsz:x.hi+2=q.length:=by
  obtain⟨w,h1,h2⟩:=uP R hx;rw[ht] at h1;cases h1;have a:=(o.ci y h2).2;have b:=(W.li y i).2;omega
 obtain⟨u,v⟩:=Bar.WO.step (Bar.ni p oo tau) R.rows W.wo (x:=fE oo x) (d:=e) (Qj.mpr ⟨x,hx,rfl⟩) hd hy (k:=k) (by show p ∣ k*aX oo x.c x.b-aX oo left x.b;rw[fC ht,fC ht];exact hk);refine⟨⟨HL hp,fun z hz=>?_,HL hp,fun z hz=>?_,NS u (DM W.l.nd o.c.nd) (DM W.f.nd j.nd)⟩,Cg.bl (DM W.l.nd o.c.nd) v⟩
 ·rcases less_key hz with h|h
  ·exact W.li z h
  ·obtain⟨a,b⟩:=o.ci z h
   exact⟨a,ω⟩
 ·rcases less_key hz with h|h
  ·exact W.fi z h
  ·obtain⟨a,b⟩:=r z h
   exact⟨a,ω⟩
def NZ(O:fj oo)(R:dc p oo T L)(W:Wk p oo T q [] fill):dc p oo (T+1) (L++[⟨(q.length:Int)-1,T,none,fill,[]⟩]):=by
 refine⟨fun x hx=>?_,?_,?_⟩
 ·rcases Qm.mp hx with hx|hx
  ·exact R.ok x hx
  ·rw[Ql.mp hx]
   exact⟨W.f,fun k hk=>⟨(W.fi k hk).1,by have:=(W.fi k hk).2;show(k.length:Int)=(q.length:Int)-1+1;omega⟩,fun t e=>nomatch e⟩
 ·rw[Aj]
  refine Bar.NI R.rows (z:=aX oo fill) (g:=aX oo []) W.wo.yg fun u=>?_;have h1:=W.wo.sm u;have h2:=NU (p:=p) (oo:=oo) u;have:=QQ h1 h2
  rwa [show So oo (aX oo fill) u-aX oo [] u+aX oo [] u=So oo (aX oo fill) u from ω] at this
 ·rw[Aj,Qq]
  refine⟨R.srt,List.pairwise_singleton _ _,fun a ha b hb=>?_⟩;obtain⟨x,hx,rfl⟩:=Qj.mp ha;rw[At,Sl,Ql] at hb;have:=(gE R hx).born;rw[hb];exact this
def N0{a:bi}:(fG L a).map (·.b)=L.map (·.b):=by
 unfold fG;rw[Am];refine Ax fun y _=>?_;show(if y.b=a.b then a else y).b=y.b
 by_cases e:y.b=a.b
 ·rw[Th e];exact e.symm
 ·rw[Ti e]
def N1(O:fj oo)(R:dc p oo T L)(W:Wk p oo T q left fill){x:bi}(hx:x∈L)(hd:x.d=none)(hy:Bar.Yg p (aX oo left) x.b):dc p oo (T+1) (fG L ⟨(q.length:Int)-2,x.b,some T,left,fill⟩):=by
 refine⟨fun y hy=>?_,?_,?_⟩
 ·obtain⟨z,hz,rfl⟩:=Qj.mp hy
  by_cases e:z.b=x.b
  ·rw[Th e]
   refine⟨W.l,fun k hk=>⟨(W.li k hk).1,?_⟩,fun t _=>⟨W.f,fun k hk=>⟨(W.fi k hk).1,?_⟩⟩⟩
   ·have:=(W.li k hk).2
    show(k.length:Int)=(q.length:Int)-2+1;omega
   ·have:=(W.fi k hk).2
    show(k.length:Int)=(q.length:Int)-2+2;omega
  ·rw[Ti e];exact R.ok z hz
 ·have e:(fG L ⟨(q.length:Int)-2,x.b,some T,left,fill⟩).map (fE oo)=Bar.kill (fE oo x).b T (aX oo left) (aX oo fill) (L.map (fE oo)):=by
   unfold fG Bar.kill;rw[Am,Am];refine Ax fun y _=>?_;show fE oo (if y.b=x.b then _ else y)=if y.b=x.b then _ else fE oo y
   by_cases e:y.b=x.b
   ·rw[Th e,Th e]
   ·rw[Ti e,Ti e]
  rw[e];exact Bar.NK R.rows (Qj.mpr ⟨x,hx,rfl⟩) hd hy (W.cyc O) W.wo.yg W.wo.sm
 ·rw[N0];exact R.srt
def HS(O:fj oo)(hp:0<p)(R:dc p oo T L){x:bi}(hx:x∈L){e:Nat}(hd:x.d=some e):∀y,aK (sb p x.g) y=aK x.c y:=fun y=>by
 obtain⟨j,l⟩:=(R.ok x hx).g e hd;have a:∀k∈ksC x.g,k∈oo:=fun k hk=>(l k hk).1
 by_cases h:y∈oo
 ·obtain⟨u,f⟩:=Qn.mp h
  have h1:=DL (p:=p) O j.nd a u;have h2:=((gE R hx).gone e hd).2.2.2 u;have i:=QP h2 h1;rw[show So oo (aX oo x.g) u-aX oo x.c u-(So oo (aX oo x.g) u-aX oo (sb p x.g) u)=aX oo (sb p x.g) u-aX oo x.c u from ω,fC f,fC f] at i;have o:0<=aK (sb p x.g) y/\aK (sb p x.g) y<p:=(p3 hp (zP (x.g.flatMap fun c=>cJ c.1 c.2)):ChP p (sb p x.g)).range hp y;have q:=(R.ok x hx).c.range hp y;obtain⟨k,hk⟩:=i;have:k=0:=by
   rcases Int.lt_trichotomy k 0 with z|z|z
   ·have:p*k<=p*(-1):=Int.mul_le_mul_of_nonneg_left ω ω
    omega
   ·exact z
   ·have:p*1<=p*k:=Int.mul_le_mul_of_nonneg_left ω ω
    omega
  subst this;omega
 ·rw[ix (fun z=>h ?_),ix (fun z=>h ((R.ok x hx).ci y z).1)]
  obtain⟨c,hc,hr⟩:=uO z;exact O.rim _ (a _ (Qj.mpr ⟨c,hc,rfl⟩)) _ hr
def HU(O:fj oo)(hp:0<p)(R:dc p oo T L){x:bi}(hx:x∈L):sb p x.c=[]:=by
 have a:∀k∈ksC x.c,k∈oo:=fun k hk=>((R.ok x hx).ci k hk).1;refine NV (oo:=oo) (p3 hp (zP _)) (fun k hk=>?_) fun u=>?_
 ·obtain⟨c,hc,hr⟩:=uO hk
  exact O.rim _ (a _ (Qj.mpr ⟨c,hc,rfl⟩)) _ hr
 ·exact(Cg.dvd (DL (p:=p) O (R.ok x hx).c.nd a) u).mp ((gE R hx).cyc u)
end
end K64
end
section
namespace L2
open PySem PySem.Spec PyProof.Rows
def Cl(P:Program)(w:World)(K:Ae)(mg:Str->Option Value)(base:Heap)(CX:e_)(x:Str)(ps:List Str)(k:Nat)(sp:Sp):Prop:=
 ∃(f:Addr)(fd:FuncData),Sj K (.ref f)=true/\Binds K fd ps []/\mg x=some (.ref f)/\FnOk P w K mg base CX k f fd ps sp
section
variable{X:Cx}{CX:e_}{k n:Nat}{ps:List Str}{sp:Sp}{E:XK}{x:Str}{p pos:Pos}{e:Expr}{es:List Expr}{t:TA}
def zE(C:Cl X.prog X.w X.K X.mg X.base CX x ps k sp)(hr:Room n X.A)(c:Gl X x)(hx:d_ CX X E)(ha:PA X (e::es) t)(d:k<=n:=by decide)(g:(x==("__debug__":Str))=false:=by decide)
  (h:starEach (e::es) X.env=(false,eval e X.env)::starEach es X.env:=by rfl) (a:(backTo pos (starEach es X.env)).any (·.1)=false:=by rfl):PE X (.Call (.Name x p) (e::es) [] pos) (jq sp [] E t):=by
 obtain⟨f,fd,hk,hb,hm,F⟩:=C;exact fc F (hr.mono d) c hm hk hb .nil hx ha g h a
end
section
variable{P:Program}{w:World}{K:Ae}{mg:Str->Option Value}{base:Heap}{CX:e_}{k:Nat}{f:Addr}{fd:FuncData}{x:Str}{st:Stmt}{ps:List Str}{sp sq:Sp}
def FnOk.or(F:FnOk P w K mg base CX k f fd ps sp)(G:FnOk P w K mg base CX k f fd ps sq):FnOk P w K mg base CX k f fd ps (fun vs H Q E=>sp vs H Q E\/sq vs H Q E):=
 ⟨fun vs H Q E h=>h.elim (F.len vs H Q E) (G.len vs H Q E),fun A outer s H args us vs Q E hr a hb c h=>h.elim (F.run A outer s H args us vs Q E hr a hb c) (G.run A outer s H args us vs Q E hr a hb c)⟩
def zZ(F:Fun K x x st f fd)(b:Binds K fd ps [])(m:mg x=some (.ref f))(G:FnOk P w K mg base CX k f fd ps sp):Cl P w K mg base CX x ps k sp:=⟨f,fd,F.kp,b,m,G⟩
structure Df(K:Ae)(x:Str)(st:Stmt)(f:Addr):Prop where
 ex:∃fd,Fun K x x st f fd
 a:SM K mainGlobals x=some (some (.ref f))
def DO{j:Value}{o h:Option Addr}{i:Array (Option Value)}{kV e g d ct:Value}(a:SM K mainGlobals x=some (some (.ref f)))(l:K.lookup f=some ⟨j,o,.func (Rx x x (zce st) (za3 st) (zi st) .none kV e g h d ct),i⟩)(c:SR K d x=true)(k:Sj K (.ref f)=true):Df K x st f:=⟨⟨_,KI l c k⟩,a⟩
structure Nn(K:Ae)(x:Str)(v:Option Value):Prop where
 e:SM K mainGlobals x=some v
abbrev BA(x:Str)(st:Stmt)(us:List Value)(r:List (Str×Value)):Prop:=∀(kV bE pm:Value)(an:Option Addr)(ar ct:Value),bindArgs (Rx x x (zce st) (za3 st) (zi st) .none kV bE pm an ar ct) ⟨us,[]⟩=pure r
variable{h:Heap}(X:K.In h)(G:h.Ns mainGlobals mg)
include X G
theorem Nn.m{v:Value}(n:Nn K x (some v)):mg x=some v:=Ru X G n.e
theorem Nn.n(n:Nn K x none):mg x=none:=PySem.W.mg_none_of X G n.e
theorem Df.m(D:Df K x st f):mg x=some (.ref f):=Ru X G D.a
theorem Df.g1(D:Df K x st f)(p:Str)(hb:∀a,BA x st [a] [(p,a)]:=by exact fun _ _ _ _ _ _ _=>rfl):∃fd,Fun K x x st f fd/\Binds K fd [p] []/\mg x=some (.ref f):=by
 obtain⟨⟨fd,F⟩,a⟩:=D;refine⟨fd,F,F.binds fun _ _ _ _ _ _ us c=>?_,Ru X G a⟩
 match us,c with
 |[a],_=>exact hb a _ _ _ _ _ _
theorem Df.g2(D:Df K x st f)(p q:Str)(hb:∀a b,BA x st [a,b] [(p,a),(q,b)]:=by exact fun _ _ _ _ _ _ _ _=>rfl):∃fd,Fun K x x st f fd/\Binds K fd [p,q] []/\mg x=some (.ref f):=by
 obtain⟨⟨fd,F⟩,a⟩:=D;refine⟨fd,F,F.binds fun _ _ _ _ _ _ us c=>?_,Ru X G a⟩
 match us,c with
 |[a,b],_=>exact hb a b _ _ _ _ _ _
theorem Df.g3(D:Df K x st f)(p q r:Str)(hb:∀a b c,BA x st [a,b,c] [(p,a),(q,b),(r,c)]:=by exact fun _ _ _ _ _ _ _ _ _=>rfl):∃fd,Fun K x x st f fd/\Binds K fd [p,q,r] []/\mg x=some (.ref f):=by
 obtain⟨⟨fd,F⟩,a⟩:=D;refine⟨fd,F,F.binds fun _ _ _ _ _ _ us d=>?_,Ru X G a⟩
 match us,d with
 |[a,b,c],_=>exact hb a b c _ _ _ _ _ _
theorem Df.g4(D:Df K x st f)(p q r s:Str)(hb:∀a b c d,BA x st [a,b,c,d] [(p,a),(q,b),(r,c),(s,d)]:=by exact fun _ _ _ _ _ _ _ _ _ _=>rfl):∃fd,Fun K x x st f fd/\Binds K fd [p,q,r,s] []/\mg x=some (.ref f):=by
 obtain⟨⟨fd,F⟩,a⟩:=D;refine⟨fd,F,F.binds fun _ _ _ _ _ _ us e=>?_,Ru X G a⟩
 match us,e with
 |[a,b,c,d],_=>exact hb a b c d _ _ _ _ _ _
theorem Df.g5(D:Df K x st f)(p q r s u:Str)(hb:∀a b c d e,BA x st [a,b,c,d,e] [(p,a),(q,b),(r,c),(s,d),(u,e)]:=by exact fun _ _ _ _ _ _ _ _ _ _ _=>rfl):∃fd,Fun K x x st f fd/\Binds K fd [p,q,r,s,u] []/\mg x=some (.ref f):=by
 obtain⟨⟨fd,F⟩,a⟩:=D;refine⟨fd,F,F.binds fun _ _ _ _ _ _ us g=>?_,Ru X G a⟩
 match us,g with
 |[a,b,c,d,e],_=>exact hb a b c d e _ _ _ _ _ _
omit X G
end
def zcY(H:Hp)(c:Addr)(d:Str):Prop:=∃a vs t,H c=some (.frz a (.own 0))/\a.data=.fields vs/\vs[1]?=some (.str d t)
def Tab(H:Hp)(P:Addr)(pos:Pos)(a:Str):Prop:=
 H P=some (.tbl #[])\/∃c',H P=some (.tbl #[rawInt pos.line,rawInt pos.col,.ref c'])/\zcY H c' a
def zaI(H H':Hp):Prop:=∀b o,(∀ps,o≠HO.tbl ps)->H b=some o->H' b=some o
def zaI.refl(H:Hp):zaI H H:=fun _ _ _ h=>h
def zaI.trans{H H1 H2:Hp}(a:zaI H H1)(b:zaI H1 H2):zaI H H2:=fun c o n h=>b c o n (a c o n h)
def Same.toN{H H':Hp}(a:Same H H'):zaI H H':=fun c o _ h=>a c o h
def zcY.same{H H':Hp}{c:Addr}{q:Str}(x:zcY H c q)(a:zaI H H'):zcY H' c q:=
 let ⟨oc,vs,t,e,r⟩:=x;⟨oc,vs,t,a _ _ (fun _ z=>nomatch z) e,r⟩
def Tab.same{H H':Hp}{P:Addr}{pos:Pos}{q:Str}(x:Tab H P pos q)(a:Same H H'):Tab H' P pos q:=by
 rcases x with e|⟨c,e,k⟩
 ·exact .inl (a _ _ e)
 ·exact .inr ⟨c,a _ _ e,k.same a.toN⟩
def Tab.keep{H H':Hp}{P:Addr}{pos:Pos}{q:Str}(x:Tab H P pos q)(a:zaI H H')(k:∀ps,H P=some (.tbl ps)->H' P=some (.tbl ps)):Tab H' P pos q:=by
 rcases x with e|⟨c,e,d⟩
 ·exact .inl (k _ e)
 ·exact .inr ⟨c,k _ e,d.same a⟩
def zhb(H:Hp)(f:Addr)(a:Str)(args:Arguments)(body:Expr)(sc:Scope)(y:Str)(cc:Addr):Prop:=
 ∃c c' d,H f=some (.frz (SJ "<lambda>" a args body sc [(y,cc)] c c' d) (.own 0))/\zcY H c' a
def zhb.same{H H':Hp}{f:Addr}{c:Str}{args:Arguments}{body:Expr}{sc:Scope}{y:Str}{cc:Addr}(x:zhb H f c args body sc y cc)(a:zaI H H'):zhb H' f c args body sc y cc:=
 let ⟨pm,c',bU,e,k⟩:=x;⟨pm,c',bU,a _ _ (fun _ z=>nomatch z) e,k.same a⟩
section
variable{X:Cx}{aa:Ψ}{σ:St}{H:Hp}{s:Shared}
def Inv.codeRec{c:Addr}{q:Str}(I:Inv X aa σ H s)(x:zcY H c q):s.heap.CodeRec (.ref c) q:=by
 obtain⟨a,vs,t,e,e1,e2⟩:=x;exact⟨c,a,vs,t,rfl,(I.hok _ _ e).1,e1,e2⟩
noncomputable def uX(X:Cx)(A:Around)(s:Shared)(H:Hp)(f:Addr)(a:Str)(sc:Scope)(p y:Str)(cc c':Addr):Cx where
 prog:=X.prog
 w:=X.w
 K:=X.K
 mg:=X.mg
 base:=X.base
 A:=A.deeper (SN a sc s⁻¹ f (.ref c') [(y,cc)])
 N:=[p,y]
 s₀:=s
 H₀:=H
 env:=SN a sc s⁻¹ f (.ref c') [(y,cc)]
 outer:=X.stack
 stack:=SN a sc s⁻¹ f (.ref c') [(y,cc)]::X.stack
 ex:=[]
 calm:=X.calm
 fn:=fun _=>false
 pn:=[]
 xe:=fun _ _=>False
structure HV(p y:Str)(sc:Scope):Prop where
 kind:sc.kind=.function
 co:sc.isCoroutine=false
 gen:sc.isGenerator=false
 loc:sc.names.lookup p=some .local
 fre:sc.names.lookup y=some .free
 nocell:∀x∈sc.names,x.2≠.cell
 only:∀x,sc.names.lookup x=some .free->x=y
def N2{A:Around}{f:Addr}{C:Str}{args:Arguments}{body:Expr}{sc:Scope}{p y:Str}{cc:Addr}{iy:Nat}{va vy:V}{u:Value}{te:TE}{Q:VK}(I:Inv X aa σ H s)(g:Env0 X.prog X.w X.K X.mg X.base A X.stack s H)(hA:A.handled=X.A.handled)(hd:A.depth<recursionLimit)(L:zhb H f C args body sc y cc)(S:HV p y sc)(hc:X.env.cells.lookup y=some cc)(hN:X.N[iy]?=some y)(pq:σ[iy]?=some (some vy))(T:X.env.kindOf y=some .cell\/X.env.kindOf y=some .free)(hb:∀M c' O,bindArgs (Sv "<lambda>" C args body sc [(y,cc)] M (.ref c') O) ⟨[u],[]⟩=pure [(p,u)])(hu:RelV va u)(bq:∀c',PE (uX X A s H f C sc p y cc c') body te)(h:te [some va,some vy] H Q):codeAny (model X.prog X.w) A (.call (.ref f) ⟨[u],[]⟩) (fun r s'=>∃v,r=.ok (.ret v)/\CE X.stack X.prog X.w H s Q v s') s:=by
 obtain⟨M,c',O,ef,ec⟩:=L;have hf:=(I.hok _ _ ef).1;have bH:=I.codeRec ec;obtain⟨m,hm,hl⟩:=I.loc;obtain⟨P,ry,ly⟩:=hl iy y vy hN pq (T.elim (fun z=>.inr (.inl z)) fun z=>.inr (.inr z));have au:s.heap.IsCell cc (some P):=by
  rcases ly with ⟨k,_⟩|⟨_,c,e1,e2⟩
  ·rcases T with z|z<;>(rw[k] at z;cases z)
  ·rw[hc] at e1;cases e1;exact e2
 have j:H cc=none:=I.freeC y cc hc;refine PySem.W.kla_callFunE hd hf rfl S.co S.gen rfl bH ?_;rw[hb M c' O];refine Ac (wpAny_newFunctionEnv S.nocell (fun x hx=>by rw[Ql.mp hx];exact S.loc) (fun G U Y=>?_) S.kind);have E:∀b o,s.heap.get? b=some o->G.get? b=some o:=fun b o e=>Y.extBut b o (Au (Aq e)) (Ad _ e);refine⟨I.nolimit.keeps E,?_⟩;show codeAny _ _ (.expr body (SN C sc s⁻¹ f (.ref c') [(y,cc)])) _ _;have F:∀x c,(SN C sc s⁻¹ f (.ref c') [(y,cc)]).cells.lookup x=some c->x=y/\c=cc:=fun x c e=>by
  have e':([(y,cc)]:List (Str×Addr)).lookup x=some c:=e;rw[AY] at e';cases hx:x==y with
  |true=>rw[hx] at e';cases e';exact⟨eq_of_beq hx,rfl⟩
  |false=>rw[hx] at e';cases e'
 have D:([(y,cc)]:List (Str×Addr)).lookup y=some cc:=by rw[AY,beq_self_eq_true]
 have d:G.IsCell cc (some P):=by
  obtain⟨o,e1,e2⟩:=au;exact⟨o,E _ _ e1,e2⟩
 have J:Inv (uX X A s H f C sc p y cc c') [] [some va,some vy] H {s with heap:=G,toks:=s.toks+[(p,u)].length}:=by
  have l:∀b:Addr,b∉(uX X A s H f C sc p y cc c').ex:=fun b z=>absurd (show b∈([]:List Addr) from z) (by simp);refine⟨⟨g.mod,S.kind,rfl,rfl,Af _,fun a b c h1 h2=>?_,fun x hx=>?_,fun x c h _=>(by cases h),fun hc=>?_,Around.frames_deeper g.frames,.inr ⟨rfl,rfl⟩,fun b z=>absurd z (l b),g.bs,g.bsz,fun b _ _=>l b,fun b z=>absurd z (l b),g.funs,g.frf⟩,
   rfl,g.bare,Un.kept E,⟨_,U,fun i x v h1 h2 h3=>?_⟩,fun x c h=>?_,g.hok.fresh (Af _),fun x c h=>?_,fun p hp=>absurd (show p∈([]:Ψ) from hp) (by simp),g.hok.kept E,rfl⟩
  ·exact(F _ _ h1).1.trans (F _ _ h2).1.symm
  ·rcases hx with hx|hx
   ·exact absurd rfl (S.nocell _ (A8 (show sc.names.lookup x=some .cell from hx)))
   ·obtain rfl:=S.only x hx
    exact⟨cc,D⟩
  ·exact hA.trans (I.ok.hd hc)
  ·match i,h1,h2 with
   |0,h1,h2=>
    obtain rfl:=Al h1;obtain rfl:=Al (Al h2);exact⟨u,hu,.inl ⟨S.loc,by simp⟩⟩
   |1,h1,h2=>
    obtain rfl:=Al h1;obtain rfl:=Al (Al h2);exact⟨P,ry,.inr ⟨.inr S.fre,cc,D,d⟩⟩
   |i+2,h1,h2=>exact nomatch (show(none:Option Str)=some x from h1)
  ·obtain⟨rfl,rfl⟩:=F _ _ h
   exact⟨_,d⟩
  ·obtain⟨rfl,rfl⟩:=F _ _ h
   exact j
 refine PySem.W.kla_codeExpr (wpAny_mono (bq c' [] _ _ H Q J h) (fun v s' hs=>?_) fun _ _ z=>False.elim z);obtain⟨v',H',J',rv,q⟩:=hs;exact⟨v,rfl,v',H',J'.os,J'.bare,J'.base,J'.hok,rv,q⟩
end
def BM(mg:Str->Option Value)(base:Heap):Prop:=∃bm o,mg "__builtins__"=some (.ref bm)/\bm≠builtinsNs/\bm≠mainGlobals/\base.get? bm=some o/\o.cls=.type "module"/\o.dict=some builtinsNs/\o.data=.plain
def DP(P:Addr)(a:Str)(args:Arguments)(body:Expr)(sc:Scope)(pos:Pos)(y:Str)(cc:Addr):TE:=fun _ H Q=>Tab H P pos a/\∀f H',zaI H H'->(∀b ps,b≠P->H b=some (.tbl ps)->H' b=some (.tbl ps))->Tab H' P pos a->zhb H' f a args body sc y cc->Q (.ref f) H'
section
variable{X:Cx}{aa:Ψ}{σ:St}{H:Hp}{s:Shared}
def N3{ps:Array Value}{P c':Addr}{j fo:Obj}{h':Heap}{tk:Nat}{more:Array Value}(I:Inv X aa σ H s)(f:H P=some (.tbl ps))(hx:Heap.ExtBut P s.heap h')(g:s⁻¹<=c')(h:c'<h'.objs.size)(q:h'.get? c'=some j)(r:h'.get? P=some (Sw (ps++more)))(w:fo.isFreed=false):Inv X aa σ (upd (upd (upd H P (.tbl (ps++more))) c' (.frz j (.own 0))) h'.objs.size (.frz fo (.own 0))) {s with heap:=h'.push fo,toks:=tk}:=by
 have i:∀b o,b≠P->s.heap.get? b=some o->(h'.push fo).get? b=some o:=fun b o n e=>Ad _ (hx b o n e);have F:P<s⁻¹:=I.hok.lt f;have p:∀{b o},s.heap.get? b=some o->b≠c'/\b≠h'.objs.size:=fun e=>⟨Au (Az (Aq e) g),Au (RT (Az (Aq e) g) h)⟩;have c:∀{b o},H b=some o->b≠c'/\b≠h'.objs.size:=fun e=>⟨Au (Az (I.hok.lt e) g),Au (RT (Az (I.hok.lt e) g) h)⟩;have l:∀{b},H b=none->b≠P:=fun n z=>by rw[z,f] at n;cases n
 have a:∀{b},b≠P->b≠c'->b≠h'.objs.size->(upd (upd (upd H P (.tbl (ps++more))) c' (.frz j (.own 0))) h'.objs.size (.frz fo (.own 0))) b=H b:=fun n1 n2 y=>by rw[ah y,ah n2,ah n1]
 have A:c'≠h'.objs.size:=Au h;have C:P≠c':=(c f).1;have D:P≠h'.objs.size:=(c f).2;refine I.call' (ch:=[]) rfl ⟨fun b o e n _ _=>i b o (l n) e,fun b o e n _ _=>⟨o.slots,i b o (l n) e⟩,fun b o e n _=>?_,fun b o e _=>?_,fun b xs e=>?_,fun b o u e=>?_,fun b E e=>?_⟩ (fun b u e=>?_) I.bare (fun b z=>nomatch z)
 ·rw[a (l n) (p e).1 (p e).2];exact n
 ·by_cases hb:b=P
  ·subst hb;exact⟨_,Ad _ r⟩
  ·exact⟨o,i b o hb e⟩
 ·rw[a (fun z=>by rw[z,f] at e;cases e) (c e).1 (c e).2];exact e
 ·rw[a (fun z=>by rw[z,f] at e;cases e) (c e).1 (c e).2];exact e
 ·by_cases hb:b=P
  ·subst hb
   rw[f] at e;cases e;exact⟨more,by rw[ah D,ah C,ae]⟩
  ·exact⟨#[],by rw[a hb (c e).1 (c e).2,e];simp⟩
 ·by_cases x:b=h'.objs.size
  ·subst x
   rw[ae] at e;cases e;exact⟨Ak _ w,fo,Ak _ w⟩
  ·rw[ah x] at e
   by_cases h2:b=c'
   ·subst h2
    rw[ae] at e;cases e;exact⟨Ad _ q,j,Ad _ q⟩
   ·rw[ah h2] at e
    by_cases h1:b=P
    ·subst h1
     rw[ae] at e;cases e;exact Ad _ r
    ·rw[ah h1] at e
     refine(I.hok b u e).stay (fun d v hd e'=>i d v ?_ e') (fun d e'=>?_) fun d xs e'=>?_
     ·rcases hd with rfl|hd
      ·exact h1
      ·exact fun z=>by rw[z,f] at hd;cases hd
     ·rw[a (fun z=>by rw[z,f] at e';cases e') (c e').1 (c e').2];exact e'
     ·rw[a (fun z=>by rw[z,f] at e';cases e') (c e').1 (c e').2];exact e'
def N4{P c cc:Addr}{args:Arguments}{body:Expr}{sc:Scope}{pos:Pos}{y:Str}(hC:PySem.W.CodeHd X.base c P)(A:X.env.code=.ref c)(h_:BM X.mg X.base)(q:closureFor sc X.env=pure [(y,cc)])(gY:defaultsOf args X.env=([],[]):=by rfl):PE X (.Lambda args body sc pos) (DP P (X.env.qual++"<lambda>") args body sc pos y cc):=by
 intro aa s σ H Q I ⟨ht,h⟩;refine PySem.W.kla_eval gY ?_;have v:s.heap.Ns mainGlobals X.mg:=I.ok.mod.glob.keeps I.bk;have C:=hC.keeps I.bk;obtain⟨bm,ob,F,G,L,u,M,N,O⟩:=h_;have w:∀{j},H P=some (.tbl j)->s.heap.BuiltinsAt X.mg P:=fun{j} a=>⟨bm,ob,F,G,L,(fun z=>by have e:=(I.bs _ _ u).2;rw[z,a] at e;cases e),I.bk _ _ u,M,N,O⟩;have x:∀{j},H P=some (.tbl j)->s.heap.get? P=some (Sw j):=fun a=>I.hok _ _ a;have U:∀{j},H P=some (.tbl j)->mainGlobals≠P:=fun{j} a z=>by
  obtain⟨o,es,ep,e,d,_⟩:=I.ok.mod.glob;have e':=(I.bs _ _ e).2;rw[z,a] at e';cases e'
 rcases ht with a|⟨c',a,hc'⟩
 ·refine PySem.W.kla_makeFunction q I.ok.glob v A C (x a) trivial rfl (U a) (w a) fun c' g h' tk hx f i D E=>?_
  obtain⟨xk,r,vs,t,e2,S,hd,T⟩:=D;cases e2;have Y:P≠c':=Au (Az (I.hok.lt a) f);have mL:P≠h'.objs.size:=Au (RT (Az (I.hok.lt a) f) i);have vB:c'≠h'.objs.size:=Au i;have J:=N3 (tk:=tk) (fo:=SJ "<lambda>" (X.env.qual++"<lambda>") args body sc [(y,cc)] ((X.mg "__name__").getD .none) c' g) I a hx f i S E rfl;have sm:∀b o,b≠P->H b=some o->(upd (upd (upd H P (.tbl (#[]++#[rawInt pos.line,rawInt pos.col,.ref c']))) c' (.frz r (.own 0))) h'.objs.size (.frz (SJ "<lambda>" (X.env.qual++"<lambda>") args body sc [(y,cc)] ((X.mg "__name__").getD .none) c' g) (.own 0))) b=some o:=fun b o n e=>by
   have l:=I.hok.lt e;rw[ah (Au (RT (Az l f) i)),ah (Au (Az l f)),ah n];exact e
  have p:zcY (upd (upd (upd H P (.tbl (#[]++#[rawInt pos.line,rawInt pos.col,.ref c']))) c' (.frz r (.own 0))) h'.objs.size (.frz (SJ "<lambda>" (X.env.qual++"<lambda>") args body sc [(y,cc)] ((X.mg "__name__").getD .none) c' g) (.own 0))) c' (X.env.qual++"<lambda>"):=⟨r,vs,t,by rw[ah vB,ae],hd,T⟩;refine⟨.ref h'.objs.size,_,J,rfl,h _ _ (fun b o n e=>sm b o (fun z=>by rw[z,a] at e;cases e;exact n _ rfl) e) (fun b ps n e=>sm b _ n e) (.inr ⟨c',by rw[ah mL,ah Y,ae];simp,p⟩) ⟨_,c',g,ae,p⟩⟩
 ·have hf:codeAmong pos (#[rawInt pos.line,rawInt pos.col,.ref c']:Array Value).toList=some (.ref c'):=by simp[codeAmong,rawInt]
  refine PySem.W.kla_makeFunctionHit q I.ok.glob v A C (x a) trivial hf (w a) fun g h' tk hk hsz=>?_;have J:Inv X aa σ (upd H h'.objs.size (.frz {cls:=.type "function",data:=.func (Sv "<lambda>" (X.env.qual++"<lambda>") args body sc [(y,cc)] ((X.mg "__name__").getD .none) (.ref c') g)} (.own 0))) {s with heap:=h'.push {cls:=.type "function",data:=.func (Sv "<lambda>" (X.env.qual++"<lambda>") args body sc [(y,cc)] ((X.mg "__name__").getD .none) (.ref c') g)},toks:=tk}:=
   I.laid (fun b o e=>Ad _ (hk b o e)) hsz ⟨Ak _ rfl,_,Ak _ rfl⟩
  have hn:H h'.objs.size=none:=I.hok.fresh hsz;have sm:=Same.new (o:=HO.frz {cls:=.type "function",data:=.func (Sv "<lambda>" (X.env.qual++"<lambda>") args body sc [(y,cc)] ((X.mg "__name__").getD .none) (.ref c') g)} (.own 0)) hn;exact⟨.ref h'.objs.size,_,J,rfl,h _ _ sm.toN (fun b ps _ e=>sm b _ e) (Tab.same (.inr ⟨c',a,hc'⟩) sm) ⟨_,c',g,ae,hc'.same sm.toN⟩⟩
end
def N5{P:Program}{w:World}{K:Ae}{mg L:Str->Option Value}{CX:e_}{k:Nat}{fa a:Addr}{fd:FuncData}{x:Str}{sp:Sp}{c:Shared}{vs:List Value}{ns:List Int}{tabs:List (Addr×Addr)}(N:K.In c.heap)(M:c.heap.Ns mainGlobals mg)(hb:c.heap.Ns builtinsNs L)(oh:∀x:Str,x≠"__name__"->L x=AZ x)(g_:c.heap.NoLimit)(hg:c.gens=#[])(h_:∃bm ob,mg "__builtins__"=some (.ref bm)/\bm≠builtinsNs/\c.heap.get? bm=some ob/\ob.cls=.type "module"/\ob.dict=some builtinsNs/\ob.data=.plain)(hT:PySem.W.TabsAt tabs c.heap)(jt:Tg K=true)(ha:c.heap.get? a=some {cls:=.type "list",data:=.seq vs.toArray})(hi:IntsAre vs ns)(hl:ns.length<=sizeLine)(hr:Room k callerA)(F:∀base:Heap,K.In base->base.Ns mainGlobals mg->BM mg base->PySem.W.CodeAll tabs base->FnOk P w K mg base CX k fa fd [x] sp)(dY:∀(s:Shared)(u:Value),BindsTo s fd ⟨[u],[]⟩ [(x,u)])(cr:∀H:Hp,SqL K H a (ns.map V.int)->(∀q∈tabs,H q.2=some (.tbl #[]))->sp [.ref a] H (fun v _=>v=.bl true) fun _ _ _=>False)(gb:∀H e s',CX [] H c (fun _ _ _=>False) e s'->False):codeAny (model P w) callerA (.call (.ref fa) ⟨[.ref a],[]⟩) (fun r s'=>r=.ok (.ret (.bool true))/\OldK c.heap s'.heap/\s'.os=c.os/\AllBare s'.gens) c:=by
 have U:=Cz hi;have gg:=hi.length;have A:∀{b},b∈tabs.map (·.2)->c.heap.get? b=some (Sw #[]):=fun hb=>by
  obtain⟨q,hq,rfl⟩:=Qj.mp hb;exact(hT q hq).2
 have X:a∉tabs.map (·.2):=fun z=>by
  have e:=A z;rw[ha] at e;cases e
 have KT:∀{b},b∈tabs.map (·.2)->K.lookup b=none:=fun{b} hb=>by
  cases e:K.lookup b with
  |none=>rfl
  |some o=>
   have e1:=N b o e;rw[A hb] at e1;have h2:=Qs.mp jt (b,o) (PySem.W.mem_of_lookupK e);obtain rfl:=Al e1;exact absurd (show false=true from h2) An
 have j:∀H:Hp,(∀b,b∉tabs.map (·.2)->H b=none\/∃o xs,H b=some (.frz o (.lst xs)))->(∀b,b∈tabs.map (·.2)->H b=some (.tbl #[]))->SqL K H a (ns.map V.int)->HOk P w H c.heap->(∀b,H b≠none->b=a\/b∈tabs.map (·.2))->(H a≠none->K.lookup a=none)->
   codeAny (model P w) callerA (.call (.ref fa) ⟨[.ref a],[]⟩) (fun r s'=>r=.ok (.ret (.bool true))/\OldK c.heap s'.heap/\s'.os=c.os/\AllBare s'.gens) c:=by
  intro H hO O hS C Q hK;have G:∀{b:Addr}{o:Obj},c.heap.get? b=some o->H b=none->(cS c.heap H).get? b=some o:=fun e n=>EE e n;have p:∀{b:Addr}{o:Obj},c.heap.get? b=some o->(∀xs n,o.data≠.seq xs n)->o≠Sw #[]->H b=none:=fun{b o} e d d2=>by
   cases q:H b with
   |none=>rfl
   |some u=>
    rcases Q b (by rw[q];simp) with e'|e'
    ·subst e'
     rw[ha] at e;cases e;exact absurd rfl (d _ _)
    ·rw[A e'] at e;cases e
     exact absurd rfl d2
  have f:∀{b:Addr}{m:Str->Option Value},c.heap.Ns b m->(cS c.heap H).Ns b m:=fun{b m} ⟨o,es,ep,e,d,r⟩=>⟨o,es,ep,G e (p e (fun _ _ z=>by rw[d] at z;cases z) fun z=>by rw[z] at d;cases d),d,r⟩;have Y:K.In (cS c.heap H):=fun b o e=>G (N b o e) (by
   cases q:H b with
   |none=>rfl
   |some u=>
    rcases Q b (by rw[q];simp) with e'|e'
    ·subst e'
     rw[hK (by rw[q];simp)] at e;cases e
    ·rw[KT e'] at e;cases e)
  have hM:Mod K mg (cS c.heap H):=⟨Y,f M,⟨L,f hb,oh⟩,let ⟨mc,h1,h2⟩:=g_;⟨mc,f h1,h2⟩⟩;have e0:Env0 P w K mg (cS c.heap H) callerA [] c H:=⟨rfl,hM,fun b o e=>EF e,Nat.le_of_eq (ED _ _),trivial,fun b hb=>absurd (show b∈([]:List Addr) from hb) (by simp),C,.of_eq hg⟩;obtain⟨bm,ob,b1,b2,E,b4,b5,y⟩:=h_;have s_:bm≠mainGlobals:=fun q=>by
   obtain⟨o,es,ep,e,hd,_⟩:=M;rw[q,e] at E;cases E;rw[hd] at y;cases y
  have J:BM mg (cS c.heap H):=⟨bm,ob,b1,b2,s_,G E (p E (fun _ _ z=>by rw[y] at z;cases z) fun z=>by rw[z] at y;cases y),b4,b5,y⟩;have oQ:PySem.W.CodeAll tabs (cS c.heap H):=.of fun q hq=>by
   obtain⟨o,ui,oq,tf,jN,tg,yN,text,tt,e1,I,S,r⟩:=(hT q hq).1;exact⟨o,ui,oq,tf,jN,tg,yN,text,tt,G e1 (p e1 (fun _ _ z=>by rw[S] at z;cases z) fun z=>by rw[z] at I;cases I),I,S,r⟩
  refine codeAny_mono ((F _ Y (f M) J oQ).run callerA [] c H ⟨[.ref a],[]⟩ [.ref a] [.ref a] _ _ hr e0 (dY c (.ref a)) (.cons rfl .nil) (cr H hS fun q hq=>O _ (R7 hq))) fun r s' h=>?_;cases r with
  |error e=>exact(gb H e s' h).elim
  |ok fl=>
   cases fl with
   |next=>exact False.elim h
   |brk=>exact False.elim h
   |cont=>exact False.elim h
   |ret u=>
    obtain⟨v,H',os,D,un,T,r',q⟩:=h;have q':v=.bl true:=q;subst q';obtain rfl:u=Value.bool true:=r';have keep:∀b o,b∉tabs.map (·.2)->c.heap.get? b=some o->s'.heap.get? b=some o:=fun b o hb e=>by
     cases q:H b with
     |none=>exact un.keep b o e q (by intro z;exact absurd (show b∈([]:List Addr) from z) (by simp)) (by simp)
     |some u=>
      rcases hO b hb with z|⟨ob,xs,z⟩
      ·rw[q] at z;cases z
      ·have z2:=un.frzs b ob _ z
       obtain⟨e1,_⟩:=C b _ z;obtain⟨e2,_⟩:=T b _ z2;rw[e] at e1;cases e1;exact e2
    have l:∀b,b∈tabs.map (·.2)->∃more,s'.heap.get? b=some (Sw more):=fun b hb=>by
     obtain⟨more,e⟩:=un.tbls b _ (O b hb);exact⟨#[]++more,T b _ e⟩
    refine⟨rfl,⟨fun b o e=>?_,fun b o e=>?_⟩,os,D⟩
    ·by_cases hb:b∈tabs.map (·.2)
     ·obtain⟨more,e2⟩:=l b hb
      have e1:=A hb;rw[e] at e1;cases e1;obtain⟨q,hq,rfl⟩:=Qj.mp hb;exact .inr (.inl ⟨((hT q hq).1.tab (hT q hq).2).isCodeTable,rfl,#[],more,rfl,by simpa using e2⟩)
     ·exact .inl (keep b o hb e)
    ·by_cases hb:b∈tabs.map (·.2)
     ·obtain⟨more,e2⟩:=l b hb
      exact⟨_,e2⟩
     ·exact⟨o,keep b o hb e⟩
 cases hk:K.lookup a with
 |some o=>
  have e:=N a o hk;rw[ha] at e;cases e;refine j (fun b=>if b∈tabs.map (·.2) then some (.tbl #[]) else none) (fun b hb=>.inl (Ti hb)) (fun b hb=>Th hb) (.inr ⟨_,vs.toArray,_,hk,rfl,rfl,rfl,by rw[Ao,gg];exact hl,by simpa using U⟩) (fun b u z=>?_) (fun b z=>?_) fun z=>absurd (Ti X) z
  ·by_cases hb:b∈tabs.map (·.2)
   ·have g:=(Th hb).symm.trans z
    cases g;exact A hb
   ·have g:=(Ti hb).symm.trans z
    cases g
  ·by_cases hb:b∈tabs.map (·.2)
   ·exact .inr hb
   ·exact absurd (Ti hb) z
 |none=>
  refine j (fun b=>if b∈tabs.map (·.2) then some (.tbl #[]) else if b=a then some (.frz {cls:=.type "list",data:=.seq vs.toArray} (.lst (ns.map V.int))) else none) (fun b hb=>?_) (fun b hb=>Th hb) (.inl (.inr ⟨{cls:=.type "list",data:=.seq vs.toArray},(Ti X).trans (Th rfl)⟩)) (fun b u z=>?_) (fun b z=>?_) fun _=>hk
  ·by_cases i:b=a
   ·exact .inr ⟨_,_,(Ti hb).trans (Th i)⟩
   ·exact .inl ((Ti hb).trans (Ti i))
  ·by_cases hb:b∈tabs.map (·.2)
   ·have g:=(Th hb).symm.trans z
    cases g;exact A hb
   ·by_cases i:b=a
    ·have g:=((Ti hb).trans (Th i)).symm.trans z
     cases g;subst i;exact⟨ha,by rw[Ab];exact hl,vs,_,U,ha⟩
    ·have g:=((Ti hb).trans (Ti i)).symm.trans z
     cases g
  ·by_cases hb:b∈tabs.map (·.2)
   ·exact .inr hb
   ·by_cases i:b=a
    ·exact .inl i
    ·exact absurd ((Ti hb).trans (Ti i)) z
def N6{l:PySem.W.OpenLaw}{n k:Nat}{q:Program}{N:List Str}{XP:(Str->Option Value)->Heap->Prop}{r:World->Heap->Prop}{d:DefRec}{K:Params->Ae}{CX:e_}{sp:World->Sp}{x:Str}{tabs:List (Addr×Addr)}{xs:List Str}(O:l.most=some n)(P:n<=sizeLine)(Q:d.params.defaults=[])(hr:Room k callerA)(S:∀(w:World)(h:Heap),r w h->(K w.params).In h)(U:∀p,Tg (K p)=true)(hx:∀p,xs.map (Rk (K p))=tabs.map some)(X:∀x∈xs,((recsOf q).find? (fun e=>e.name==x)).isSome=true)(F:∀(w:World)(mg:Str->Option Value)(fa:Addr)(h:Heap),(K w.params).In h->h.Ns mainGlobals mg->mg d.name=some (.ref fa)->
   ∃fd:FuncData,(∀(s:Shared)(u:Value),BindsTo s fd ⟨[u],[]⟩ [(x,u)])/\
    ∀base:Heap,(K w.params).In base->base.Ns mainGlobals mg->BM mg base->PySem.W.CodeAll tabs base->FnOk l.prog w (K w.params) mg base CX k fa fd [x] (sp w))
  (cr:∀(w:World)(H:Hp)(a:Addr)(ns:List Int),ns.length<=n->SqL (K w.params) H a (ns.map V.int)->(∀q∈tabs,H q.2=some (.tbl #[]))->sp w [.ref a] H (fun v _=>v=.bl true) fun _ _ _=>False)
  (gb:∀(H:Hp)(s:Shared)(e:Value)(s':Shared),CX [] H s (fun _ _ _=>False) e s'->False) :
  PySem.W.WalkO q N XP r l.row.toRowW d [] (fun f vs=>PySem.call f vs):=by
 refine Att.FB O Q fun w s₀ j mg mb fa o pm cd bE a vs ns G Y ho hd bH A C D c E=>?_;have i:=S w _ Y;obtain⟨fd,hb,L⟩:=F w mg fa _ i G.T.g A;have hT:PySem.W.TabsAt tabs j.heap:=fun t ht=>by
  have h1:some t∈xs.map (Rk (K w.params)):=by rw[hx];exact R7 ht
  obtain⟨y,hy,e⟩:=Qj.mp h1;obtain⟨dr,M⟩:=Ra.mp (X y hy);exact PySem.W.tab_of G.T i M e
 exact N5 i G.T.g G.T.b G.T.builtins G.T.nolimit E G.T.bmain hT (U _) C D (AA c P) hr L hb (fun H I J=>cr w H a ns c I J) fun H e s'=>gb H j e s'
section
variable{X:Cx}{aa:Ψ}{σ:St}{H:Hp}{s:Shared}
def N7{f l S I:Addr}{as:List Addr}{ns:List Int}{R:Result->Shared->Prop}(hh:X.A.handled=none)(hl:SqL X.K H l (as.map V.ref))(aJ:ns.length=as.length)(Q:bQ X aa H S)(p:bQ X aa H I)(E:S≠I)(l6:l≠I)(run:∀s',Inv X aa σ H s'->∀(j:Nat) a n,as[j]?=some a->ns[j]?=some n->codeAny (model X.prog X.w) X.A.in1 (.call (.ref f) ⟨[.ref a],[]⟩) (fun r x=>∃v,r=.ok (.ret v)/\CE X.stack X.prog X.w H s' (fun v H'=>v=.int n/\H'=H) v x) s')(hR:∀(j:Nat) a n s',Inv X aa σ H s'->as[j]?=some a->ns[j]?=some n->(∀m∈ns,m<=n)->R (.ok (.ret (.ref a))) s'):∀(r j i:Nat)(s':Shared)(a:Addr)(n:Int)(t:Tok)(c:Nat),as.length-(j+1)=r->j+1<=as.length->Inv X aa σ H s'->s'.heap.get? S=some (seqObj "list" #[.ref a,.int n t] c)->
   s'.heap.IsListIter I l (j+1)->as[i]?=some a->ns[i]?=some n->(∀(h:Nat) m,h<=j->ns[h]?=some m->m<=n)->
   codeAny (model X.prog X.w) X.A (.builtin "max.loop" ⟨[.ref I,.ref f,.ref S],[]⟩) R s':=by
 have g:(toString "max"++toString ".loop":String)="max.loop":=ξ
 have W:=Walks.list (prog:=X.prog) (w:=X.w) (A:=X.A.in1) hh I l l6 (as.map Value.ref).toArray;have hsz:(as.map Value.ref).toArray.size=as.length:=by rw[Ao,Ab]
 have M:∀s',Inv X aa σ H s'->s'.heap.IsList l (as.map Value.ref).toArray:=fun s' Ik=>by
  obtain⟨af,r1,p1,_⟩:=Ik.list hl;obtain rfl:=bf r1;exact p1.isList
 intro r
 induction r with
 |zero=>
  intro j i s' a n t c hr hj Ik G T U Y O;have hin:j+1=as.length:=ω
  refine Bh Sx ?_;rw[A4 QM _];show wpAny _ X.A.in1 (seqItems? (.ref S) >>= _) _ _ _;refine Aa (wpAny_seqItems G rfl ?_);show wpAny _ X.A.in1 (tryCatch (pyNext (.ref I)) _ >>= _) _ _ _;refine Aa (wpAny_tryCatch (W.done _ _ _ ⟨by rw[hsz,<-hin];exact T,M _ Ik⟩ fun h' y J=>?_));have I1:Inv X aa σ H {s' with heap:=h',toks:=y}:=Inv.turneds (t':=y) (ch:=[I]) Ik (mF p) fun b o hb q=>J b o hb q;have bv:=J S _ (by simpa using E) G;have P:=AO h' S (AS fun _=>(#[]:Array Value));show wpAny _ X.A.in1 (updateSeq S (fun _=>#[]) >>= _) _ _ _;refine Aa ?_;refine wpAny_updateSeq (s:={s' with heap:=h',toks:=y}) bv rfl (Aa (wpAny_letGo (Ac ?_)));refine hR i a n _ (Inv.turneds (s:={s' with heap:=h',toks:=y}) (t':=y) (ch:=[S]) I1 (mF Q) fun b o hb q=>(P.2 b (fun z=>hb (by simp[z]))).trans q) U Y fun m hm=>?_;obtain⟨h,e'⟩:=Qn.mp hm;have:=(KK.mp e').1;exact O h m ω e'
 |succ r ih=>
  intro j i s' a n t c hr hj Ik G T U Y O;have d:j+1<as.length:=ω
  refine Bh Sx ?_;rw[A4 QM _];show wpAny _ X.A.in1 (seqItems? (.ref S) >>= _) _ _ _;refine Aa (wpAny_seqItems G rfl ?_);show wpAny _ X.A.in1 (tryCatch (pyNext (.ref I)) _ >>= _) _ _ _;refine Aa (wpAny_tryCatch (W.item (j+1) _ _ _ (by rw[hsz];exact d) ⟨T,M _ Ik⟩ fun v h' y hP gK J=>?_));have e1:as[j+1]?=some (as[j+1]'(d)):=Ah d;have e2:ns[j+1]?=some (ns[j+1]'ω):=Ah ω;have hv:v=.ref (as[j+1]'(d)):=by
   have:(as.map Value.ref)[j+1]?=some v:=by simpa using hP
   rw[Ag,e1] at this;exact(Al this).symm
  subst hv;obtain⟨lm,fZ,de,bR⟩:=id gK.1;have I1:Inv X aa σ H {s' with heap:=h',toks:=y}:=Inv.turneds (t':=y) (ch:=[I]) Ik (mF p) fun b o hb q=>J b o hb q;have bv:=J S _ (by simpa using E) G;generalize as[j+1]'(d)=C at e1 ⊢;generalize (ns[j+1]'ω)=n2 at e2;show wpAny _ X.A.in1 (tryCatch (holding [.ref C] (call (.ref f) [.ref C])) _ >>= _) _ _ _;refine Aa (wpAny_tryCatch (AU (wpAny_call (codeAny_mono (run _ I1 (j+1) _ _ e1 e2) fun r x hq=>?_))));obtain⟨u,rfl,v,H',os,L,un,hok,ru,rfl,rfl⟩:=hq;obtain⟨D,rfl⟩:=ru;have I2:Inv X aa σ H' x:=I1.call' os un hok L (fun b z=>nomatch z);have iB:=un.keep S _ bv Q.1 (sd I1 Q) (by simp);have lK:=un.keep I _ fZ p.1 (sd I1 p) (by simp);have N:x.heap.IsListIter I l (j+1+1):=⟨lm,lK,de,bR⟩
  try dsimp only
  show wpAny _ X.A.in1 (tryCatch (holding [.ref C,.int n2 D] (richCompare .Gt (.int n2 D) (.int n t) >>= _)) _ >>= _) _ _ _;refine Aa (wpAny_tryCatch (AU (Aa (gt_int ?_))));refine Aa (AU (wpAny_truthy_bool ?_));refine Aa (wpAny_letGo (Ac ?_))
  by_cases hb':n<n2
  ·have P:=AO x.heap S (AS fun _=>#[.ref C,.int n2 D])
   obtain⟨c2,hc2⟩:∃c2,(x.heap.update S (AS fun _=>#[.ref C,.int n2 D])).get? S=some (seqObj "list" #[.ref C,.int n2 D] c2):=⟨_,get?_update_seq iB fun _=>#[.ref C,.int n2 D]⟩;simp only[hb',decide_true,if_true];refine Aa ?_;refine wpAny_updateSeq iB rfl (Aa (wpAny_letGo ?_));rw[g];refine Ac ⟨plainId_quiet QM _,ih (j+1) (j+1) _ C n2 D c2 ω d (Inv.turneds (t':=x.toks) (ch:=[S]) I2 (mF Q) fun b o hb q=>(P.2 b (fun z=>hb (by simp[z]))).trans q) hc2 ⟨lm,(P.2 I E.symm).trans lK,de,bR⟩ e1 e2 fun h m hj' em=>?_⟩
   by_cases e:h=j+1
   ·subst e
    rw[e2] at em;cases em;exact QI _
   ·have:=O h m ω em
    omega
  ·simp only[hb',decide_false,Av,if_false]
   refine Aa (wpAny_letGo ?_);rw[g];refine Ac ⟨plainId_quiet QM _,ih (j+1) i x a n t c ω d I2 iB N U Y fun h m hj' em=>?_⟩
   by_cases e:h=j+1
   ·subst e
    rw[e2] at em;cases em;omega
   ·exact O h m ω em
def N8{f l:Addr}{as:List Addr}{ns:List Int}{Q:Ω}(hh:X.A.handled=none)(I:Inv X aa σ H s)(hl:SqL X.K H l (as.map V.ref))(aJ:ns.length=as.length)(c:0<as.length)(run:∀s',Inv X aa σ H s'->∀(j:Nat) a n,as[j]?=some a->ns[j]?=some n->codeAny (model X.prog X.w) X.A.in1 (.call (.ref f) ⟨[.ref a],[]⟩) (fun r p=>∃v,r=.ok (.ret v)/\CE X.stack X.prog X.w H s' (fun v H'=>v=.int n/\H'=H) v p) s')(h:∀(j:Nat) a n s',Inv X aa σ H s'->as[j]?=some a->ns[j]?=some n->(∀m∈ns,m<=n)->Q (.ref a) s'):wpAny (model X.prog X.w) X.A (call (.builtin "max") [.ref l] [(Bg "key",.ref f)]) Q X.xe s:=by
 have d:(toString "max"++toString ".loop":String)="max.loop":=ξ
 have C:∀s',Inv X aa σ H s'->s'.heap.IsList l (as.map Value.ref).toArray:=fun s' Ik=>by
  obtain⟨af,r1,p1,_⟩:=Ik.list hl;obtain rfl:=bf r1;exact p1.isList
 have O:=C s I;obtain⟨ol,hol,_⟩:=id O;have qr:l<s⁻¹:=Aq hol;refine kmk_tree PySem.F.kind_max PySem.F.plain_max PySem.F.entry_max (kmk_max_key _ _) ?_;show wpAny _ X.A.in1 (Builtin.Builtins.bindParams "max" ["key","default"] 0 ⟨[],[(Bg "key",.ref f)]⟩ >>= _) _ _ s;refine Aa (wpAny_of_eq (show Builtin.Builtins.bindParams "max" ["key","default"] 0 ⟨[],[(Bg "key",.ref f)]⟩=pure [some (.ref f),none] from rfl) ?_);refine Aa (Ac ?_);refine Aa (wpAny_pyIter_list O ?_);refine Aa (wpAny_newList ?_ (A6 _));rw[d];have L:(s.heap.push {cls:=.type "list_iterator",data:=.fields #[.ref l,.int 0 0]}).objs.size=s⁻¹+1:=size_push' ..;have P:l≠s⁻¹:=Au qr;have i:(s.heap.push {cls:=.type "list_iterator",data:=.fields #[.ref l,.int 0 0]}).objs.size≠s⁻¹:=by rw[L];exact A3 (SA _)
 have e:bQ X aa H s⁻¹:=I.fpOk (Af _) (I.hok.fresh (Af _));have D:bQ X aa H (s.heap.push {cls:=.type "list_iterator",data:=.fields #[.ref l,.int 0 0]}).objs.size:=I.fpOk (by rw[L];exact RM _) (I.hok.fresh (by rw[L];exact RM _));refine Ac ⟨plainId_quiet QM _,?_⟩;have I0:Inv X aa σ H {s with heap:=(s.heap.push {cls:=.type "list_iterator",data:=.fields #[.ref l,.int 0 0]}).push (seqObj "list" #[] 0)}:=I.kept (t':=s.toks) fun b u q=>Ad _ (Ad _ q);have gI:((s.heap.push {cls:=.type "list_iterator",data:=.fields #[.ref l,.int 0 0]}).push (seqObj "list" #[] 0)).get? s⁻¹=some {cls:=.type "list_iterator",data:=.fields #[.ref l,.int 0 0]}:=
  Ad _ (Ak _ rfl)
 have T:((s.heap.push {cls:=.type "list_iterator",data:=.fields #[.ref l,.int 0 0]}).push (seqObj "list" #[] 0)).get? (s.heap.push {cls:=.type "list_iterator",data:=.fields #[.ref l,.int 0 0]}).objs.size=some (seqObj "list" #[] 0):=Ak _ rfl;have W:=Walks.list (prog:=X.prog) (w:=X.w) (A:=X.A.in1) hh s⁻¹ l P (as.map Value.ref).toArray;have hsz:(as.map Value.ref).toArray.size=as.length:=by rw[Ao,Ab]
 generalize (s.heap.push {cls:=.type "list_iterator",data:=.fields #[.ref l,.int 0 0]}).objs.size=S at *;refine Bh Sx ?_;rw[A4 QM _];show wpAny _ X.A.in1 (seqItems? (.ref S) >>= _) _ _ _;refine Aa (wpAny_seqItems T rfl ?_);show wpAny _ X.A.in1 (tryCatch (pyNext (.ref s⁻¹)) _ >>= _) _ _ _;refine Aa (wpAny_tryCatch (W.item 0 _ _ _ (by rw[hsz];exact c) ⟨⟨_,gI,rfl,rfl⟩,C _ I0⟩ fun v h' M hP gK N=>?_));have e1:as[0]?=some (as[0]'(c)):=Ah c;have e2:ns[0]?=some (ns[0]'ω):=Ah ω;have hv:v=.ref (as[0]'(c)):=by
  have:(as.map Value.ref)[0]?=some v:=by simpa using hP
  rw[Ag,e1] at this;exact(Al this).symm
 subst hv;obtain⟨lm,fZ,de,bR⟩:=id gK.1;have I1:Inv X aa σ H {s with heap:=h',toks:=M}:=Inv.turneds (s:={s with heap:=(s.heap.push {cls:=.type "list_iterator",data:=.fields #[.ref l,.int 0 0]}).push (seqObj "list" #[] 0)}) (t':=M) (ch:=[s⁻¹]) I0 (mF e) fun b o hb q=>N b o hb q;have bv:=N S _ (by simpa using i) T;generalize as[0]'(c)=g at e1 ⊢;generalize (ns[0]'ω)=n2 at e2;show wpAny _ X.A.in1 (tryCatch (holding [.ref g] (call (.ref f) [.ref g])) _ >>= _) _ _ _;refine Aa (wpAny_tryCatch (AU (wpAny_call (codeAny_mono (run _ I1 0 _ _ e1 e2) fun r p hq=>?_))));obtain⟨u,rfl,v,H',os,y,un,G,ru,rfl,rfl⟩:=hq;obtain⟨x,rfl⟩:=ru;have I2:Inv X aa σ H' p:=I1.call' os un G y (fun b z=>nomatch z);have U:=un.keep S _ bv D.1 (sd I1 D) (by simp);have lK:=un.keep s⁻¹ _ fZ e.1 (sd I1 e) (by simp)
 try dsimp only
 have Y:=AO p.heap S (AS fun _=>#[.ref g,.int n2 x]);obtain⟨E,J⟩:∃E,(p.heap.update S (AS fun _=>#[.ref g,.int n2 x])).get? S=some (seqObj "list" #[.ref g,.int n2 x] E):=⟨_,get?_update_seq U fun _=>#[.ref g,.int n2 x]⟩;show wpAny _ X.A.in1 (updateSeq S (fun _=>#[.ref g,.int n2 x]) >>= _) _ _ _;refine Aa ?_;refine wpAny_updateSeq U rfl ?_;rw[d];refine Ac ⟨plainId_quiet QM _,N7 hh hl aJ D e i P run (fun j a n s' Ij ea en hb=>h j a n s' Ij ea en hb) _ 0 0 _ g n2 x E rfl c (Inv.turneds (t':=p.toks) (ch:=[S]) I2 (mF D) fun b o hb q=>(Y.2 b (fun z=>hb (by simp[z]))).trans q) J ⟨lm,(Y.2 _ i.symm).trans lK,de,bR⟩ e1 e2 fun j' m hj' em=>?_⟩;obtain rfl:j'=0:=ω
 rw[e2] at em;cases em;exact QI _
end
def N9(K:Ae)(P:Addr)(pos:Pos)(c:Str)(iy:Nat)(te:TE)(ta:TA):TE:=fun σ H Q=>ta σ H fun vs H1=>∃(l:Addr)(as:List Addr)(ns:List Int)(vy:V),vs=[.ref l]/\SqL K H1 l (as.map V.ref)/\ns.length=as.length/\0<as.length/\σ[iy]?=some (some vy)/\Tab H1 P pos c/\
 (∀H2,zaI H1 H2->∀(j:Nat) a n,as[j]?=some a->ns[j]?=some n->te [some (.ref a),some vy] H2 fun v H'=>v=.int n/\H'=H2)/\
 ∀H2(j:Nat) a n,zaI H1 H2->(∀b ps,b≠P->H1 b=some (.tbl ps)->H2 b=some (.tbl ps))->Tab H2 P pos c->as[j]?=some a->ns[j]?=some n->(∀m∈ns,m<=n)->Q (.ref a) H2
section
variable{X:Cx}{a:Expr}{ta:TA}{p p2 pos gW ff:Pos}{P c cc:Addr}{args:Arguments}{body:Expr}{sc:Scope}{x y:Str}{iy k:Nat}{te:TE}
def N_(hr:Room (k+2) X.A)(hg:Gl X "max")(hm:X.mg "max"=none)(hv:AZ "max"=some (.builtin "max"))(hC:PySem.W.CodeHd X.base c P)(c8:X.env.code=.ref c)(h_:BM X.mg X.base)(E:closureFor sc X.env=pure [(y,cc)])(au:X.env.cells.lookup y=some cc)(hk:X.env.kindOf y=some .cell)(hN:X.N[iy]?=some y)(S:HV x y sc)(hb:∀C cl i c' r u,bindArgs (Sv "<lambda>" C args body sc cl i (.ref c') r) ⟨[u],[]⟩=pure [(x,u)])(bq:∀s H f C c',PE (uX X X.A.in1 s H f C sc x y cc c') body te)(ha:PA X [a] ta)(hc:X.calm=true)(F:starEach [a] X.env=[(false,eval a X.env)]:=by rfl)(gY:defaultsOf args X.env=([],[]):=by rfl):PE X (.Call (.Name "max" p) [a] [⟨some "key",.Lambda args body sc ff,gW⟩] pos) (N9 X.K P ff (X.env.qual++"<lambda>") iy te ta):=by
 intro aa s σ H Q I h;refine wpAny_Call_Name_kw (j1 I hg hm hv ?_);refine callWith_kw ?_ (by rw[F];rfl) (by rw[F];rfl) rfl rfl;refine ba (ha pos aa s σ H _ I h) fun us G ⟨vs,H1,I1,J,q1⟩=>?_;obtain⟨l,as,ns,vy,rfl,hl,sD,h0,pq,ht,ww,q⟩:=q1;obtain⟨u,rfl,ru⟩:=vals1 J;cases ru;refine kws_cons (ba (N4 (P:=P) (args:=args) (body:=body) (pos:=ff) hC c8 h_ E gY aa G σ H1 (fun v H2=>∃f,v=.ref f/\zaI H1 H2/\(∀b ps,b≠P->H1 b=some (.tbl ps)->H2 b=some (.tbl ps))/\Tab H2 P ff (X.env.qual++"<lambda>")/\zhb H2 f (X.env.qual++"<lambda>") args body sc y cc) I1 ⟨ht,fun f H2 M O T U=>⟨f,rfl,M,O,T,U⟩⟩) fun u2 Y tG=>?_);obtain⟨v2,H2,I2,r2,f,rfl,sm,cK,tb,L⟩:=tG;cases r2;refine kws_nil ?_;show wpAny (model X.prog X.w) X.A (call (.builtin "max") [.ref l] [(Bg "key",.ref f)]) _ _ Y;have D:SqL X.K H2 l (as.map V.ref):=by
  rcases hl with (z|⟨o,z⟩)|z
  ·exact .inl (.inl (sm _ _ (fun _ e=>nomatch e) z))
  ·exact .inl (.inr ⟨o,sm _ _ (fun _ e=>nomatch e) z⟩)
  ·exact .inr z
 refine N8 (I.ok.hd hc) I2 D sD h0 (fun s' I' j a n d g=>?_) fun j a n s' I' d g hb=>⟨.ref a,_,I',rfl,q H2 j a n sm cK tb d g hb⟩;exact N2 (va:=.ref a) (vy:=vy) (iy:=iy) I' I'.env0.in1 rfl (Room.in1 hr).depth L S au hN pq (.inl hk) (fun i c' r=>hb _ _ i c' r _) rfl (fun c'=>bq s' H2 f _ c') (ww H2 sm j a n d g)
end
def zaI.tp{H H':Hp}{a:Addr}{ps:List Int}(e:zaI H H')(h:Tp H a ps):Tp H' a ps:=e _ _ (fun _ z=>nomatch z) h
def zaI.tps{H H':Hp}{as:List Addr}{ad:Ξ}(e:zaI H H')(h:Tps H as ad):Tps H' as ad:=Paired.mapP h fun _ _ q=>e.tp q
def zaI.seq{K:Ae}{H H':Hp}{l:Addr}{xs:List V}(e:zaI H H')(h:SqL K H l xs):SqL K H' l xs:=by
 rcases h with (z|⟨o,z⟩)|z
 ·exact .inl (.inl (e _ _ (fun _ q=>nomatch q) z))
 ·exact .inl (.inr ⟨o,e _ _ (fun _ q=>nomatch q) z⟩)
 ·exact .inr z
def zaI.free{H H':Hp}{P:Addr}{pos:Pos}{a:Str}(e:zaI H H')(c:∀b ps,b≠P->H b=some (.tbl ps)->H' b=some (.tbl ps))(tb:Tab H' P pos a){l:Addr}(h:H' l=none):H l=none:=by
 cases q:H l with
 |none=>rfl
 |some o=>
  have:H' l=some o:=by
   by_cases z:∃ps,o=.tbl ps
   ·obtain⟨ps,rfl⟩:=z
    refine c l ps (fun y=>?_) q;subst y;rcases tb with t|⟨_,t,_⟩<;>(rw[h] at t;cases t)
   ·exact e l o (fun ps y=>z ⟨ps,y⟩) q
  rw[h] at this;cases this
def Oa{p y:Str}:∀x,([(p,NameKind.local),(y,A7)]:List (Str×NameKind)).lookup x=some .free->x=y:=fun x h=>by
 rw[AY] at h;cases h1:x==p with
 |true=>rw[h1] at h;cases h
 |false=>
  rw[h1] at h;have h':([(y,A7)]:List (Str×NameKind)).lookup x=some .free:=h;rw[AY] at h';cases h2:x==y with
  |true=>exact eq_of_beq h2
  |false=>rw[h2] at h';cases h'
end L2
end
section
namespace Dk
open PySem
section
variable{prog:Program}{w:World}{A:Around}{E:Ω}{s:Shared}
def Ob(d:Addr)(hd:(d==Bc)=false):MeetsIn prog w (Builtin.«dict.__len__» ⟨[.ref d],[]⟩) (fun _ R s=>∃es ep,IsD s.heap d es ep/\R (.ok (.ret (.int es.size s.toks))) {s with toks:=s.toks+1}):=
 .of_wp fun A R s ⟨es,ep,hm,h⟩=>by
  obtain⟨o,a,hc,c⟩:=hm;show wpAny _ _ (dictSize d >>= _) _ _ s;unfold dictSize;refine Aa (Aa (AJ a c (Ac ?_)));show wpAny _ _ (Builtin.Dict.pendingCount d >>= _) _ _ s;refine Aa (wpAny_pendingCount_other hd ?_);refine wpAny_ret_mkInt ?_;rw[Sr];exact h
def E5{d:Addr}{es:Array DictEntry}{ep:Nat}{Q:Ω}(hd:(d==Bc)=false)(hm:IsD s.heap d es ep)(a:(es.size:Int)<2 ^ 63)(h:Q (.int es.size (s.toks+1)) {s with toks:=s.toks+1+1}):wpAny (model prog w) A (call (.builtin "len") [.ref d]) Q E s:=by
 refine Calls.call_function_entry kind_len plain_len entry_len (args_len1 _) ?_;unfold Builtin.«len»;refine Aa (m:=oneArg "len" _) (Ac ?_);refine Aa (m:=callSpecial? (.ref d) (Bg "__len__")) (AN (name:=Bg "__len__") hm.typeIs F.slot_dict_len
  (call_meetsIn F.slot_dict_len hm.typeIs F.entry_dict_len (F.args_dict_len_1 _) (Ob d hd) ⟨es,ep,hm,?_⟩))
 show wpAny _ _ _ _ _ {s with toks:=s.toks+1};refine Aa (AU (Ac ?_));refine Aa (wpAny_letGo ?_);show wpAny _ _ (if((es.size:Nat):Int)<0 then _ else _) _ _ _;rw[Ti ω];show wpAny _ _ (if((es.size:Nat):Int) ≥ 2 ^ 63 then _ else _) _ _ _;rw[Ti ω];exact Aa (wpAny_mkInt (Ac ⟨_,rfl,h⟩))
end
end Dk
namespace L2
open PySem PySem.Spec PyProof.Rows
section
variable{X:Cx}
def u3:da X (.builtin "len") (fun xs H Q=>∃a kvs,xs=[V.ref a]/\Rd H a (.dT kvs)/\Q (.int kvs.length) H):=by
 intro aa s σ H xs us Q I r h;obtain⟨a,kvs,rfl,ha,q⟩:=h;obtain⟨u,rfl,e⟩:=vals1 r;cases e;obtain⟨z,y,ys,c,o,es,ep,h1,h2,f,g,i⟩:=(show zC X.prog X.w H s.heap a (.dT kvs) from ha.ok I.hok);have d:es.size=kvs.length:=by
  have:=congrArg List.length g;rw[Ab,<-A0 c] at this
  simpa using this
 refine Dk.E5 y ⟨o,h1,h2,f⟩ (by rw[d];rw[sizeLine_eq] at z;omega) ⟨.int kvs.length,H,I.tok _,⟨_,by rw[d]⟩,q⟩
end
end L2
end
section
namespace L2
open PySem PySem.Spec PyProof.Rows
section
variable{X:Cx}{aa:Ψ}{σ:St}{H:Hp}{s:Shared}{D:Addr}{o:Obj}{kvs:List (List Key×V)}
def Inv.thaw(I:Inv X aa σ H s)(g:X.H₀ D=none)(d:H D=some (.frz o (.dT kvs))):Inv X aa σ (upd H D (.dT kvs)) s:=by
 have ne:∀{b:Addr},H b=none->b≠D:=fun{b} e=>(zj d e).symm;refine⟨I.ok,I.os,I.bare,⟨I.base.keep,I.base.slot,fun b u e n hx=>?_,I.base.there,fun b xs e=>?_,fun b ob u e=>?_,fun b ps e=>?_⟩,I.loc,I.cell,?_,fun x c e=>?_,fun p hp=>?_,fun b u e=>?_,I.len⟩
 ·have:=I.base.free b u e n hx
  rw[ah (ne this)];exact this
 ·have:=I.base.tups b xs e
  rw[ah (aV this d (by intro z;cases z))];exact this
 ·have hb:b≠D:=fun z=>by rw[z,g] at e;cases e
  rw[ah hb];exact I.base.frzs b ob u e
 ·have hb:b≠D:=fun z=>by rw[z,g] at e;cases e
  rw[ah hb];exact I.base.tbls b ps e
 ·rw[ah (ne I.free)];exact I.free
 ·rw[ah (ne (I.freeC x c e))];exact I.freeC x c e
 ·obtain⟨h,f,i⟩:=I.pin p hp
  exact⟨h,by rw[ah (ne f)];exact f,i⟩
 ·have st:∀{a:Addr}{v:HO},zC X.prog X.w H s.heap a v->zC X.prog X.w (upd H D (.dT kvs)) s.heap a v:=fun{a v} x=>
   x.stay (fun _ _ _ q=>q) (fun c q=>by rw[ah (aV q d (by intro z;cases z))];exact q) fun c xs q=>by rw[ah (aV q d (by intro z;cases z))];exact q
  by_cases hb:b=D
  ·subst hb
   rw[ae] at e;cases e;have hx:=I.hok b _ d;exact st (show s.heap.get? b=some o/\zC X.prog X.w H s.heap b (.dT kvs) from hx).2
  ·rw[ah hb] at e
   exact st (I.hok b u e)
end
end L2
end
section
namespace Dk
open PySem PySem.Spec PyProof.Rows
end Dk
namespace L2
open PySem PySem.Spec PyProof.Rows
section
variable{X:Cx}
def Oc(tk tv:TE):TE:=fun σ H Q=>∀p,H p=none->Cu [(tk,tv)] σ (upd H p (.dT [])) fun ps H2=>∃b k v,ps=[(.ref b,v)]/\H2 p=some (.dT [])/\H2 b=some (.tup (List.map kV k))/\Q (.ref p) (upd H2 p (.dT [(k,v)]))
def Od{j l:Expr}{pos:Pos}{tk tv:TE}(hu:X.A.units+1<cLine)(hk:PE X j tk)(J:PE X l tv):PE X (.Dict [some j] [l] pos) (Oc tk tv):=by
 intro aa s σ H Q I q;have G:=I.hok.fresh (Af s⁻¹);have L:=I.laid (a:=s⁻¹) (o:=.dT []) (h':=s.heap.push {cls:=.type "dict",data:=.dict #[]}) (t':=s.toks) (fun _ _ q=>Ad _ q) (Af _) (Fx s.heap I.big);refine wpAny_Dict_any rfl rfl (by simp) (by simp) (ba (Kx hk J Kw aa _ σ _ _ L (q _ G)) fun M N ⟨ps,H2,I2,d,b,k,v,ep,e,f,p⟩=>?_);subst ep;cases d with
 |@cons p' w0 lZ qs' h t=>
  cases t;obtain⟨x,O⟩:=w0;obtain⟨y,C⟩:=h;cases(show x=Value.ref b from y);obtain⟨z,hd,xs,d,dd⟩:=ki I2.hok e;cases d;unfold storeAll;rw[SH];refine Aa (Aa (wpAny_dictSet_heap (hsz:=A6 _) (knd:=tupleKind (zB X.prog X.w)) (by show X.A.units<cLine;omega) (iS I2.hok f) dd fun h' r u=>Ac ?_));show wpAny _ _ (forIn _ _ _) _ _ _;rw[List.forIn_nil];refine Ac ⟨.ref s⁻¹,_,?_,rfl,p⟩;obtain⟨i,es,ep,hq,h2,D,E,_,F⟩:=r;refine om I2 (by rw[e];exact True.intro) u ⟨i,hq⟩ ⟨by show 1<=sizeLine;rw[sizeLine_eq];omega,hd,_,(KT.put (kvs:=[]) .nil k f C).keeps fun c ys g=>?_,i,es,ep,hq,h2,D,E,F⟩;rw[ah (aV g e (fun z=>nomatch z))];exact g
end
end L2
end
section
namespace L2
open PySem PySem.Spec PyProof.Rows
def u4{P:Program}{w:World}{H:Hp}{h:Heap}{a:Addr}{kvs:List (List Key×V)}{ad:Ξ}(ok:HOk P w H h)(hq:Rd H a (.dT kvs))(hp:kvs.map (·.1)=ad.map (·.map Sum.inl)):(a==Bc)=false/\∃xs:List (List Int×Addr×Value),(∀v d,h.DictOfH (tupleKind (intKind v d)) a xs)/\xs.length=kvs.length/\∀(i:Nat) x,xs[i]?=some x->ad[i]?=some x.1/\∃kv,kvs[i]?=some kv/\RelV kv.2 x.2.2:=by
 obtain⟨z,y,ys,g,o,es,ep,h1,h2,C,D,A⟩:=(show zC P w H h a (.dT kvs) from hq.ok ok);have key:∀{l:List (List Key×V)}{m:List (List Key×Addr×Value)}{c:Ξ},KT H l m->l.map (·.1)=c.map (·.map Sum.inl)->
   ∃xs:List (List Int×Addr×Value),m=xs.map (fun x=>(x.1.map Sum.inl,x.2))/\xs.map (·.1)=c/\(∀x∈xs,Tp H x.2.1 x.1)/\xs.length=l.length/\∀(i:Nat) x,xs[i]?=some x->c[i]?=some x.1/\∃kv,l[i]?=some kv/\RelV kv.2 x.2.2:=by
  intro l m c q
  induction q generalizing c with
  |nil=>intro e;cases c with
   |nil=>exact⟨[],rfl,rfl,(fun x hx=>by cases hx),rfl,(fun i x e=>by simp at e)⟩
   |cons p ps=>simp at e
  |@cons p q' ps qs' hq t ih=>intro e;cases c with
   |nil=>simp at e
   |cons r rs=>
    simp only[At,List.cons.injEq] at e;obtain⟨xs,e1,e2,e3,j,u⟩:=ih e.2;have hk:=hq.2.1;rw[e.1,Am] at hk;refine⟨(r,q'.2)::xs,?_,by rw[At,e2],fun x hx=>?_,by simp[j],fun i x ex=>?_⟩
    ·rw[At,<-e1,<-e.1,hq.1]
    ·rcases Qk.mp hx with rfl|hx
     ·exact hk
     ·exact e3 x hx
    ·cases i with
     |zero=>
      simp at ex;subst ex;exact⟨rfl,p,rfl,hq.2.2⟩
     |succ i=>simpa using u i x (by simpa using ex)
 obtain⟨xs,e1,e2,e3,j,u⟩:=key g hp;refine⟨y,xs,fun v d=>⟨o,es,ep,h1,h2,C,?_,fun x hx=>?_,?_⟩,j,u⟩
 ·rw[D,e1,Am]
  refine Ax fun x _=>?_;show DictEntry.mk (tupleKeyHash (zB P w) (x.1.map Sum.inl)) (.ref x.2.1) x.2.2=DictEntry.mk (tupleKeyHash (intKind v d) x.1) (.ref x.2.1) x.2.2;rw[Hb]
  rfl
 ·obtain⟨_,af,r,p⟩:=(show zC P w H h x.2.1 (.tup (x.1.map V.int)) from ok x.2.1 _ (e3 x hx))
  exact LR p (intsAre_of r)
 ·have E:xs.map (fun x=>x.1.map (Sum.inl:Int->Key))=(xs.map (·.1)).map (·.map Sum.inl):=by rw[Am];rfl
  rw[e1,Am] at A;have F:((xs.map (·.1)).map (·.map (Sum.inl:Int->Key))).Nodup:=by rw[<-E];exact A
  exact List.Pairwise.of_map _ (fun a b f e=>f (by rw[e])) F
end L2
end
section
namespace PySem.RvT
open PyProof.Rows
def IsRT(h:Heap)(a t:Addr)(i:Int):Prop:=∃o,h.get? a=some o/\o.cls=.type "reversed"/\o.data=.fields #[.ref t,rawInt i]
section
variable{prog:Program}{w:World}{A:Around}{E:Ω}{s:Shared}
def IsRT.typeIs{a t:Addr}{i:Int}(x:IsRT s.heap a t i):s.TypeIs (.ref a) "reversed":=let ⟨o,ho,hc,_⟩:=x;⟨o,ho,hc⟩
def IsRT.at{h h':Heap}{a l:Addr}{i:Int}(x:IsRT h a l i)(e:∀o,h.get? a=some o->h'.get? a=some o):IsRT h' a l i:=let ⟨o,ho,r⟩:=x;⟨o,e _ ho,r⟩
end
end PySem.RvT
namespace L2
open PySem PySem.Spec PyProof.Rows
def Oe{lo:Int}{n:Nat}{acc:Array Value}(h:ItemsOf (fun i v=>∃t,v=.int (lo+(i:Nat)*1) t) acc n):Vals (((AD n).map fun k=>lo+(k:Nat)).map V.int) acc.toList:=by
 have:∀(as:List Value)(ns:List Int),as.length=ns.length->(∀(i:Nat) a n,as[i]?=some a->ns[i]?=some n->∃t,a=.int n t)->Vals (ns.map V.int) as:=by
  intro as
  induction as with
  |nil=>intro ns h _;cases ns with
   |nil=>exact .nil
   |cons _ _=>simp at h
  |cons a as ih=>
   intro ns h f;cases ns with
   |nil=>simp at h
   |cons n ns=>
    obtain⟨t,e⟩:=f 0 a n rfl rfl;exact .cons ⟨t,e⟩ (ih ns (by simpa using h) fun i b m h1 h2=>f (i+1) b m (by simpa using h1) (by simpa using h2))
 refine this acc.toList _ (by simp[h.1]) fun i a n h1 h2=>?_;obtain⟨t,e⟩:=h.2 i a (by simpa using h1);have hi:i<acc.size:=by
  have:=(KK.mp h1).1
  simpa using this
 rw[Ag,Rg (by rw[<-h.1];exact hi)] at h2;refine⟨t,?_⟩;rw[e,<-Al h2];simp
end L2
end
section
namespace L2
open PySem PySem.Spec PyProof.Rows
section
variable{X:Cx}
def vb{aa:Ψ}{σ:St}{H:Hp}{s:Shared}{l:Addr}{ns:List Int}(I:Inv X aa σ H s)(d:SqL X.K H l (ns.map V.int)):∃a,Reads s.heap (.ref l) (.list (ns.map A5)) a:=by
 obtain⟨af,r,p,_⟩:=I.list d;obtain⟨o,c,hc,n,hd⟩:=p.isList;exact⟨_,.list c hc hd ((PySem.W.ke_carried (intsAre_of r)).reads s.heap)⟩
def ve(ns:List Int):SeqAt.shaped (.list (ns.map A5))=true:=by
 simp[SeqAt.shaped,PyData.canLay0,PySem.W.ke_canLayAll0,PyData.depth,PySem.W.ke_depthAll]
def vi(ns:List Int):(Shape.list .int).has (.list (ns.map A5))=true:=by simp[Shape.has]
def DQ(K:Ae):R2:=fun x y H Q=>∃l m ns a,x=.ref l/\y=.ref m/\SqL K H l (List.map V.int ns)/\SqL K H m (List.map V.int a)/\Q (.bl (decide (ns=a))) H
def Of(hu:X.A.units+64<cLine):cD X (A2 .Eq) (DQ X.K):=by
 intro aa s σ H x y v u Q I c d h;obtain⟨l,m,ns,a,rfl,rfl,e,hm,q⟩:=h;cases c;cases d;obtain⟨i,f⟩:=vb I e;obtain⟨j,g⟩:=vb I hm;refine eq_dataH_same f g (ve _) (ve _) hu (SeqAt.noMix_of_shape (.list .int) rfl _ _ (vi _) (vi _)) ?_;rw[show same (.list (ns.map A5)) (.list (a.map A5))=decide (ns=a) from by simp only[same];exact Se ns a];exact⟨.bl _,H,I,rfl,q⟩
end
end L2
end
section
namespace DEq
open PySem
section
variable{prog:Program}{w:World}{K:Type}[DecidableEq K]{knd:HeapKind prog w K}{A:Around}{E:Ω}{s:Shared}
def HW{id:String}{a b:Addr}{xs ys:List (K×Addr×Value)}{Q:Bool->Shared->Prop}(hu:knd.room A)(ha:(a==Bc)=false)(hb:(b==Bc)=false)(hx:s.heap.DictOfH knd a xs)(hy:s.heap.DictOfH knd b ys)(W:xs.length=ys.length)(X:∀(i:Nat) k p v,xs[i]?=some (k,p,v)->∃(j:Nat)(q:Addr)(n:Int)(t t':Tok),v=.int n t/\ys[j]?=some (k,q,.int n t'))(h:Q true s):wpAny (model prog w) A (Builtin.Dict.samePairs id a b) Q E s:=by
 obtain⟨oa,c,pa,f,pR,g,H,N,xI⟩:=hx;obtain⟨ob,O,pb,l,dD,o,u,P,I⟩:=hy;have J:=size_of_entries (knd:=knd) H;have sb:=size_of_entries (knd:=knd) u;unfold Builtin.Dict.samePairs Builtin.Dict.showsAll;rw[Ti (by rw[ha];exact An),Ti (by rw[hb];exact An)];refine Aa (Ac (Aa (Ac ?_)));refine Aa (AJ f g ?_);dsimp only;refine Aa (AJ l o ?_);rw[Ti (by rw[J,sb,W];simp)];refine Aa (wpAny_dictEpoch f g ?_);refine Aa ?_;rw[Std.Legacy.Range.forIn_eq_forIn_range'];simp only[Std.Legacy.Range.size,Nat.sub_zero,SU,Nat.div_one];refine wpAny_forIn_list _ (fun rest r s'=>s'=s/\r.1=none/\∃i,rest=List.range' i (c.size-i)/\i<=c.size) _ ?_ ?_ _ _ ⟨rfl,rfl,0,by simp,A6 _⟩
 ·rintro x rest r s' ⟨rfl,C,i,hr,hi⟩
  have d:i<c.size:=by
   rcases Rj i c.size with h|h
   ·exact h
   ·rw[Nat.sub_eq_zero_of_le h] at hr;simp at hr
  obtain⟨rfl,S⟩:x=i/\rest=List.range' (i+1) (c.size-(i+1)):=by
   have e:c.size-i=(c.size-(i+1))+1:=ω
   rw[e,List.range'_succ] at hr;injection hr with h1 h2
   exact⟨h1,h2⟩
  obtain⟨⟨k,p,v⟩,D⟩:∃y,xs[x]?=some y:=⟨xs[x]'(by rw[<-J];exact d),Ah _⟩;obtain⟨T,q,n,t,t',rfl,F⟩:=X x k p v D;have hex:c[x]?=some ⟨knd.hash k,.ref p,.int n t⟩:=by rw[entry_at H x,D];rfl
  have G:knd.is s'.heap k p:=N _ (Ai D);refine Aa (AJ f g ?_);rw[hex];dsimp only;refine Aa (AU (Aa (wpAny_dictFind_heap hu G l o u P I (fun L=>absurd F (L T _)) fun j Y M=>?_)));obtain rfl:=idxH_unique I M F;dsimp only;refine Aa (AJ l o ?_);have U:O[j]?=some ⟨knd.hash k,.ref q,.int n t'⟩:=by rw[entry_at u j,F];rfl
  rw[U];dsimp only;refine AU (wpAny_eqBool_int ?_);rw[Ti (by simp)];refine Aa (wpAny_dictEpoch f g ?_);rw[Ti (by simp)];exact Ac ⟨rfl,rfl,x+1,S,d⟩
 ·rintro⟨r1,r2⟩ s' ⟨rfl,C,_⟩
  simp only at C;subst C;exact Ac h
def Oh{id:String}{a b:Addr}{xs ys:List (K×Addr×Value)}{Q:Bool->Shared->Prop}(ha:(a==Bc)=false)(hb:(b==Bc)=false)(hx:s.heap.DictOfH knd a xs)(hy:s.heap.DictOfH knd b ys)(l:xs.length≠ys.length)(h:Q false s):wpAny (model prog w) A (Builtin.Dict.samePairs id a b) Q E s:=by
 obtain⟨o,p,q,c,r,d,e,u,v⟩:=hx;obtain⟨ob,x,y,f,C,g,i,D,F⟩:=hy;have j:=size_of_entries (knd:=knd) e;have sb:=size_of_entries (knd:=knd) i;unfold Builtin.Dict.samePairs Builtin.Dict.showsAll;rw[Ti (by rw[ha];exact An),Ti (by rw[hb];exact An)];refine Aa (Ac (Aa (Ac ?_)));refine Aa (AJ c d ?_);dsimp only;refine Aa (AJ f g ?_);rw[Th (by rw[j,sb];simpa using l)];exact Aa (wpAny_rule (Ac h))
def Oi{a b:Addr}{r:Bool}{Q:Ω}(c:A.units<cLine)(hx:s.TypeIs (.ref a) "dict")(hy:s.TypeIs (.ref b) "dict")(d:∀(id:String)(R:Bool->Shared->Prop)(f:Ω)(A':Around),A'.units<=A.units+8->R r s->wpAny (model prog w) A' (Builtin.Dict.samePairs id a b) R f s)(h:Q (.bool r) s):wpAny (model prog w) A (A2 .Eq (.ref a) (.ref b)) Q E s:=by
 show wpAny _ _ (richCompare .Eq (.ref a) (.ref b)) _ _ _;refine wpAny_richCompare_same_room (op:=.Eq) hx hy F.slot_dict_eq (AK F.slot_dict_eq hx F.entry_dict_eq ?_ (F.args_dict_eq_2 _ _)) c;unfold Builtin.«dict.__eq__»
 wp_delta
 refine Aa ?_;unfold Builtin.Dict.dictSlotArgs;refine Aa (wpAny_notOrdered_dict hx ?_);refine Aa (show wpAny _ _ (pure (Value.ref a,[Value.ref b])) _ _ _ from Ac ?_);refine Ac ?_;dsimp only;refine Aa (wpAny_isInstance hy DCp.pS ?_);simp only[QV,Av,if_false];refine Aa (show wpAny _ _ (pure a) _ _ _ from Ac ?_);refine Aa (show wpAny _ _ (pure b) _ _ _ from Ac ?_);refine Aa (d _ _ _ _ (by show A.units+1<=_;omega) ?_);refine Ac ⟨_,rfl,(fun e=>nomatch e),?_⟩;cases r<;>exact h
def Oj{a b:Addr}{r:Bool}{Q:Ω}(c:A.units<cLine)(hx:s.TypeIs (.ref a) "dict")(hy:s.TypeIs (.ref b) "dict")(d:∀(id:String)(R:Bool->Shared->Prop)(f:Ω)(A':Around),A'.units<=A.units+8->R r s->wpAny (model prog w) A' (Builtin.Dict.samePairs id a b) R f s)(h:Q (.bool (!r)) s):wpAny (model prog w) A (A2 .NotEq (.ref a) (.ref b)) Q E s:=by
 show wpAny _ _ (richCompare .NotEq (.ref a) (.ref b)) _ _ _;refine wpAny_richCompare_same_room (op:=.NotEq) hx hy F.slot_dict_ne (AK F.slot_dict_ne hx F.entry_dict_ne ?_ (F.args_dict_ne_2 _ _)) c;unfold Builtin.«dict.__ne__»
 wp_delta
 refine Aa ?_;unfold Builtin.Dict.dictSlotArgs;refine Aa (wpAny_notOrdered_dict hx ?_);refine Aa (show wpAny _ _ (pure (Value.ref a,[Value.ref b])) _ _ _ from Ac ?_);refine Ac ?_;dsimp only;refine Aa (wpAny_isInstance hy DCp.pS ?_);simp only[QV,Av,if_false];refine Aa (show wpAny _ _ (pure a) _ _ _ from Ac ?_);refine Aa (show wpAny _ _ (pure b) _ _ _ from Ac ?_);refine Aa (d _ _ _ _ (by show A.units+1<=_;omega) ?_);refine Ac ⟨_,rfl,(fun e=>nomatch e),?_⟩;cases r<;>exact h
end
end DEq
namespace L2
open PySem PySem.Spec PyProof.Rows
def cW(H:Hp)(a b:Addr)(r:Bool):Prop:=∃(kvs c:List (List Key×V))(ad d:Ξ)(ns:List Int),Rd H a (.dT kvs)/\Rd H b (.dT c)/\kvs.map (·.1)=ad.map (·.map Sum.inl)/\c.map (·.1)=d.map (·.map Sum.inl)/\kvs.map (·.2)=ns.map V.int/\
 ((r=true/\kvs.length=c.length/\∀kv∈kvs,kv∈c)\/(r=false/\kvs.length≠c.length))
section
variable{X:Cx}
def HX{aa:Ψ}{s:Shared}{σ:St}{H:Hp}{a b:Addr}{r:Bool}(I:Inv X aa σ H s)(hu:X.A.units+64<cLine)(h:cW H a b r):s.TypeIs (.ref a) "dict"/\s.TypeIs (.ref b) "dict"/\
  ∀(id:String)(R:Bool->Shared->Prop)(C:Ω)(A':Around),A'.units<=X.A.units+8->R r s->wpAny (model X.prog X.w) A' (Builtin.Dict.samePairs id a b) R C s:=by
 obtain⟨kvs,T,ad,U,ns,ha,hb,hp,o,D,hc⟩:=h;obtain⟨q,xs,d,W,E⟩:=u4 I.hok ha hp;obtain⟨u,ys,f,bl,F⟩:=u4 I.hok hb o;refine⟨(d X.prog X.w).typeIs,(f X.prog X.w).typeIs,fun id R C A' S l=>?_⟩;rcases hc with ⟨rfl,G,hm⟩|⟨rfl,G⟩
 ·refine DEq.HW (knd:=tupleKind (intKind X.prog X.w)) (show A'.units<cLine from ω) q u (d _ _) (f _ _) ω (fun i k p v e=>?_) l
  obtain⟨g1,kv,g2,g3⟩:=E i _ e;obtain⟨j,g⟩:=Rs (hm kv (Ai g2));have M:j<ys.length:=by have:=(KK.mp g).1;omega
  have y:ys[j]?=some ys[j]:=Ah M;obtain⟨f1,Y,f2,x⟩:=F j ys[j] y;rw[g] at f2;obtain rfl:=Al f2;have N:kv.1=k.map Sum.inl:=by
   have:=congrArg (·[i]?) hp;simp only[Ag,g2,g1,AQ,AW] at this;exact this
  have O:kv.1=ys[j].1.map Sum.inl:=by
   have:=congrArg (·[j]?) o;simp only[Ag,g,f1,AQ,AW] at this;exact this
  have P:ys[j].1=k:=hJ.mp (O.symm.trans N);have c:=congrArg (·[i]?) D;simp only[Ag,g2,AQ] at c;cases en:ns[i]? with
  |none=>rw[en] at c;simp at c
  |some n=>
   rw[en] at c;have Q:kv.2=V.int n:=by simpa using c
   rw[Q] at g3 x;obtain⟨t,J⟩:=(show ∃t,v=Value.int n t from g3);obtain⟨t',L⟩:=(show ∃t,ys[j].2.2=Value.int n t from x);refine⟨j,ys[j].2.1,n,t,t',J,?_⟩;rw[y,<-P,<-L]
 ·exact DEq.Oh (knd:=tupleKind (intKind X.prog X.w)) q u (d _ _) (f _ _) ω l
def HY(hu:X.A.units+64<cLine):cD X (A2 .Eq) (fun x y H Q=>∃a b r,x=.ref a/\y=.ref b/\cW H a b r/\Q (.bl r) H):=by
 intro aa s σ H x y v u Q I c d h;obtain⟨a,b,r,rfl,rfl,hc,q⟩:=h;cases c;cases d;obtain⟨e,f,g⟩:=HX I hu hc;exact DEq.Oi ω e f g ⟨.bl r,H,I,rfl,q⟩
def DR(hu:X.A.units+64<cLine):cD X (A2 .NotEq) (fun x y H Q=>∃a b r,x=.ref a/\y=.ref b/\cW H a b r/\Q (.bl (!r)) H):=by
 intro aa s σ H x y v u Q I c d h;obtain⟨a,b,r,rfl,rfl,hc,q⟩:=h;cases c;cases d;obtain⟨e,f,g⟩:=HX I hu hc;exact DEq.Oj ω e f g ⟨.bl (!r),H,I,rfl,q⟩
def Ol:da X (.builtin "isinstance") (fun xs H Q=>∃a kvs,xs=[.ref a,.ty "dict"]/\H a=some (.dT kvs)/\Q (.bl true) H):=by
 intro aa s σ H xs us Q I r h;obtain⟨a,ys,rfl,ha,q⟩:=h;obtain⟨u,e,rfl,c,d⟩:=vals2 r;cases d;exact n3 I c (.dT ha) (by first|rfl|kernel_rfl|decide +kernel) fun tk=>⟨.bl true,H,I.tok _,rfl,q⟩
end
end L2
end
section
namespace K64
open K1
open PySem L2 STb
noncomputable abbrev vj:Stmt:=top 15
noncomputable abbrev DS:Stmt:=top 16
noncomputable abbrev DT:Stmt:=top 19
section
variable{P:Program}{w:World}{K:Ae}{mg:Str->Option Value}{base:Heap}{f:Addr}{fd:FuncData}
def Om{H2:Hp}{L d D:Addr}{as:List Addr}{c seq:Ξ}{Q:VK}(l:SqL K H2 L (as.map V.ref))(ht:Tps H2 as c)(hd:H2 d=some (.dT (fP seq)))(hz:c.length<=1000)(f:H2 D=none)(k:∀(H3:Hp),Same H2 H3->H3 D=some (.lst ((c.map fun p=>decide (p∈seq)).map V.bl))->Q (.ref D) H3):zV (dP K L) (zN 0) bT (iT (ax 0) (ax 1)) [none,some (.ref d)] H2 D Q:=by
 have q:=ht.length;refine zH (xs:=as.map V.ref) (fun j σ ys H3=>∃(v:Option V),σ=[v,some (.ref d)]/\Same H2 H3/\H3 D=some (.lst ys)/\ys=((c.map fun p=>decide (p∈seq)).take j).map V.bl) ?_ ?_ ?_ ?_
 ·exact⟨none,rfl,Same.new f,ae,rfl⟩
 ·rintro j σ ys H3 ⟨v,rfl,sm,a,rfl⟩
  exact sm.seq l
 ·rintro j σ ys H3 x hx g hy ⟨v,rfl,sm,a,rfl⟩
  obtain⟨o,h,rfl⟩:=dL hx;obtain⟨p,ep,hp⟩:=ht.get h;have i:(as.map V.ref).length<=sizeLine:=by rw[Ab];exact zh ω
  have e:(c.map fun p=>decide (p∈seq))[j]?=some (decide (p∈seq)):=by rw[Ag,ep];rfl
  refine b0 ⟨_,rfl,_,rfl,d,_,rfl,DGet.t (k:=p.map Sum.inl) (sm _ _ hd) (by rw[Am];exact sm.tp hp),?_⟩;rw[G7];exact bz i g hy a ⟨_,rfl,sm.then f,ae,by rw[AH e,Aj];rfl⟩
 ·rintro σ ys H3 ⟨v,rfl,sm,a,rfl⟩
  rw[As (by rw[Ab,Ab];omega)] at a;exact k H3 sm a
def HZ(K:Ae):Sp:=fun vs H Q _=>∃l as ad,vs=[.ref l]/\SqL K H l (as.map V.ref)/\Tps H as ad/\ad.length<=200/\∀b H',(b=true↔cA ad)->Same H H'->Q (.bl b) H'
def DU:zp ["order","seen","piece"] ["order"] (zi vj):=⟨rfl,rfl,rfl,δ,rfl,δ,δ⟩
def On{o9:Tok}(F:Fun K "is_order" "is_order" vj f fd)(B:Bt mg)(nh:mg "MOST_PIECES"=some (.int 200 o9))(Ci:Cl P w K mg base aR "is_piece" ["numbers"] 1 GM)(Cr:Cl P w K mg base aR "rims_of" ["piece"] 1 k7):FnOk P w K mg base aR 2 f fd ["order"] (HZ K):=by
 refine F.ok DU (fun vs H Q E h=>?_) (fun ar A outer s H vs Q E hr h=>?_)
 ·obtain⟨l,as,ad,rfl,_⟩:=h;rfl
 ·obtain⟨l,as,ad,rfl,y,ht,ay,k⟩:=h
  have hu:=eG hr;refine⟨_,ze (zQ (zn nW (zl zo rfl B.len dv (zc (pv 0) zd)) (qM rfl nh (v:=.int 200) ⟨_,rfl⟩) (al _)) (zg (zm cU)) zr)
   (ze (zt (i:=1) DU.nd rfl (Or.inr rfl) ju)
   (ze (d0 AL rfl (zD (pv 0)) (zk (i:=2) DU.nd rfl (Or.inl rfl))
    (ze (zQ (PW.pt (fv (dB (dN (zE Ci hr rfl ak (zc (pv 2) zd)))) (gH (EL (Cn hu (pv 2) (pv 1)) (by with_unfolding_all rfl))))) (zg (zm cU)) zr)
    (ze (zQ (dB (dN (zl (kE rfl) rfl B.all kM (zc (zq ["order","seen","piece"] ["rim","seen"] [none,some 1] (zD (zE Cr hr rfl ak (zc (pv 2) zd))) (fun L C s₀ H₀ ex=>zk (i:=0) (cz ["rim","seen"]) rfl (Or.inl rfl)) (fun L C s₀ H₀ ex=>zF)
     (fun L C s₀ H₀ ex=>EK (Cn hu (pv 0) (pv 1)) (by with_unfolding_all rfl)) (hfr:=cx (zi vj) δ) (te:=iT (ax 0) (ax 1))) zd)))) (zg (zm cU)) zr)
    (zg (hF hu (pv 1) (pv 2) cU rfl)))))
   (zg (zm cU)))),?_⟩
  have W:=ht.length;refine⟨_,rfl,l,_,rfl,.inl y,_,_,rfl,rfl,_,rfl,?_⟩;rw[Ab,Tk ω];refine aC fun d hd=>?_;refine⟨_,rfl,l,rfl,⟨_,(Same.new hd).seq y⟩,iD (K:=K) (a:=l) (xs:=as.map V.ref) (fun i σ H2=>∃(v:Option V),σ=[some (.ref l),some (.ref d),v]/\Same H H2/\H2 d=some (.dT (fP (ad.take i)))/\cA (ad.take i))
   ⟨none,rfl,Same.new hd,ae,HA⟩ (fun i σ H2 _ ⟨_,_,sm,_⟩=>sm.seq y) ?_ ?_⟩
  ·rintro i x σ H2 hx ⟨v,rfl,sm,j,o⟩
   obtain⟨a,U,rfl⟩:=dL hx;obtain⟨p,ep,hp⟩:=ht.get U;have hi:i<ad.length:=(KK.mp ep).1;have G:iA (ad.take i) p=false->∀H',Same H H'->Q (.bl false) H':=fun e H' s'=>k false H' ⟨fun z=>(by cases z),fun z=>by rw[z i p ep] at e;cases e⟩ s';refine⟨_,rfl,a,p,rfl,sm.tp hp,fun H3 g=>⟨_,rfl,?_⟩⟩;cases eV:fN p with
   |false=>exact bd (G (by unfold iA;rw[eV];rfl) H3 (sm.trans g))
   |true=>
   have X:p.length<=5:=(zW.mp (by rw[<-sG];exact eV)).2.1;refine aC ⟨_,rfl,_,rfl,d,_,rfl,DGet.t (k:=p.map Sum.inl) (g _ _ j) (by rw[Am];exact(sm.trans g).tp hp),_,rfl,?_⟩;rw[G7]
   by_cases c:p∈ad.take i
   ·rw[Tj c]
    exact bd (G (by unfold iA;rw[eV,Tj c];rfl) H3 (sm.trans g))
   rw[Tk c];have O:=sm.trans g;refine aC ⟨_,rfl,a,p,rfl,O.tp hp,X,fun RL H4 rs q _ M S=>⟨RL,rfl,⟨_,SqL.of M⟩,fun D T=>zx (Om (SqL.of M) S (q _ _ (g _ _ j)) (AA (k4 p) ω) T fun H5 N u=>⟨D,_,rfl,SqL.of u,_,rfl,?_⟩)⟩⟩;have I:=O.trans (q.trans N);have Y:=N _ _ (q _ _ (g _ _ j));cases hall:(((rims p).map fun r=>decide (r∈ad.take i)).all id) with
   |false=>exact bd (G (by unfold iA;rw[SO] at hall;rw[show((rims p).all fun r=>decide (r∈ad.take i))=false from hall,Sn]) H5 I)
   |true=>
   have J:iA (ad.take i) p=true:=by unfold iA;rw[SO] at hall;rw[eV,Tk c,show((rims p).all fun r=>decide (r∈ad.take i))=true from hall];rfl
   refine aC ⟨_,rfl,_,rfl,d,_,rfl,DPut.t (k:=p.map Sum.inl) Y (by rw[Am];exact I.tp hp) (zT (AA (GO _) (by rw[AC];omega))),⟨_,rfl,I.then hd,?_,?_⟩⟩
   ·rw[ae,GP,<-AH ep]
   ·rw[AH ep];exact HB o J
  ·rintro σ H2 ⟨v,rfl,sm,j,o⟩
   rw[Ab,W,take_all] at o;exact k true H2 ⟨fun _=>o,fun _=>rfl⟩ sm
def DV(K:Ae):Sp:=fun vs H Q _=>∃l as ad,vs=[.ref l]/\SqL K H l (as.map V.ref)/\Tps H as ad/\ad.length<=200/\cA ad/\∀H',Same H H'->Q .non H'
def Oo:zp ["order"] ["order"] (zi DS):=⟨rfl,rfl,rfl,δ,rfl,δ,δ⟩
def Op(F:Fun K "must_be_order" "must_be_order" DS f fd)(g:Cl P w K mg base aR "is_order" ["order"] 2 (HZ K)):FnOk P w K mg base aR 3 f fd ["order"] (DV K):=by
 refine F.ok Oo (fun vs H Q E h=>?_) (fun i A outer s H vs Q E hr h=>?_)
 ·obtain⟨l,as,ad,rfl,_⟩:=h;rfl
 ·obtain⟨l,as,ad,rfl,c,ht,d,e,k⟩:=h
  refine⟨_,zg (zQ (dB (dN (zE g hr rfl ak (zc (pv 0) zd)))) ES zr),?_⟩;refine⟨_,rfl,l,as,ad,rfl,c,ht,d,fun b H1 hb a=>⟨_,rfl,?_⟩⟩;obtain rfl:b=true:=hb.mpr e;exact aC (k H1 a)
def DW:Sp:=fun vs H Q _=>∃p:Int,vs=[.int p]/\(p=2\/p=3\/p=5\/p=7)/\Q .non H
def Oq:zp ["prime"] ["prime"] (zi DT):=⟨rfl,rfl,rfl,δ,rfl,δ,δ⟩
def Os{t:Addr}(F:Fun K "must_be_prime" "must_be_prime" DT f fd)(a:mg "PRIMES"=some (.ref t))(hT:∀H,SqT K H t [.int 2,.int 3,.int 5,.int 7]):FnOk P w K mg base aR 1 f fd ["prime"] DW:=by
 refine F.ok Oq (fun vs H Q E h=>?_) (fun c A outer s H vs Q E hr h=>?_)
 ·obtain⟨p,rfl,_⟩:=h;rfl
 ·obtain⟨p,rfl,hp,k⟩:=h
  refine⟨_,zg (zQ (zn Kh (pv 0) (qM (v:=.ref t) rfl a rfl) (by with_unfolding_all rfl)) ES zr),?_⟩;refine⟨_,rfl,t,_,rfl,.inr (hT _),rfl,rfl,_,rfl,?_⟩;rcases hp with rfl|rfl|rfl|rfl<;>exact aC k
end
end K64
end
section
namespace L2
open PySem PySem.Spec PyProof.Rows
structure Pl(o:HO):Prop where
 t:∀ps,o≠.tbl ps
 d:∀k,o≠.dT k
 z:∀ob k,o≠.frz ob (.dT k)
structure SF(P:Addr)(pos:Pos)(q:Str)(H H':Hp):Prop where
 keep:∀b o,Pl o->H b=some o->H' b=some o
 rd:∀{b kvs},Rd H b (.dT kvs)->Rd H' b (.dT kvs)
 dom:∀{b},H' b=none->H b=none
 tab:Tab H P pos q->Tab H' P pos q
section
variable{P:Addr}{pos:Pos}{q:Str}{H H' H1 H2:Hp}{a b d l:Addr}
def SF.refl(H:Hp):SF P pos q H H:=⟨fun _ _ _ h=>h,fun h=>h,fun h=>h,fun h=>h⟩
def SF.trans(x:SF P pos q H H1)(y:SF P pos q H1 H2):SF P pos q H H2:=⟨fun b o n h=>y.keep b o n (x.keep b o n h),fun h=>y.rd (x.rd h),fun h=>x.dom (y.dom h),fun h=>y.tab (x.tab h)⟩
def Same.sf(s:Same H H'):SF P pos q H H':=⟨fun b o _ h=>s b o h,fun h=>h.same s,fun h=>s.free h,fun t=>t.same s⟩
def Ot{xs:List V}:Pl (.lst xs):=⟨(fun _ z=>nomatch z),(fun _ z=>nomatch z),(fun _ _ z=>nomatch z)⟩
def Ou{xs:List V}:Pl (.tup xs):=⟨(fun _ z=>nomatch z),(fun _ z=>nomatch z),(fun _ _ z=>nomatch z)⟩
def Ov{xs:List (Key×V)}:Pl (.dK xs):=⟨(fun _ z=>nomatch z),(fun _ z=>nomatch z),(fun _ _ z=>nomatch z)⟩
def SF.lst(x:SF P pos q H H'){xs:List V}(h:H a=some (.lst xs)):H' a=some (.lst xs):=x.keep _ _ Ot h
def SF.tup(x:SF P pos q H H'){xs:List V}(h:H a=some (.tup xs)):H' a=some (.tup xs):=x.keep _ _ Ou h
def SF.dK(x:SF P pos q H H'){xs:List (Key×V)}(h:H a=some (.dK xs)):H' a=some (.dK xs):=x.keep _ _ Ov h
def SF.tp(x:SF P pos q H H'){ps:List Int}(h:Tp H a ps):Tp H' a ps:=x.tup h
def SF.tps(x:SF P pos q H H'){as:List Addr}{ad:Ξ}(h:Tps H as ad):Tps H' as ad:=Paired.mapP h fun _ _ q=>x.tp q
def SF.seq{K:Ae}(x:SF P pos q H H'){xs:List V}(h:SqL K H l xs):SqL K H' l xs:=by
 rcases h with (z|⟨o,z⟩)|z
 ·exact .inl (.inl (x.lst z))
 ·exact .inl (.inr ⟨o,x.keep _ _ ⟨(fun _ z=>nomatch z),(fun _ z=>nomatch z),(fun _ _ z=>nomatch z)⟩ z⟩)
 ·exact .inr z
def Tab.off{o d:HO}(t:Tab H P pos q)(h:H a=some d)(h1:∀ps,d≠.tbl ps)(h2:∀ob u,d≠.frz ob u):Tab (upd H a o) P pos q:=by
 have f:P≠a:=fun z=>by subst z;rcases t with e|⟨_,e,_⟩<;>exact h1 _ (Al (h.symm.trans e))
 rcases t with e|⟨c,e,g,vs,i,e2,r⟩
 ·exact .inl (by rw[ah f];exact e)
 ·exact .inr ⟨c,by rw[ah f];exact e,g,vs,i,by rw[ah (fun z=>by subst z;exact h2 _ _ (Al (h.symm.trans e2)))];exact e2,r⟩
def nk{kvs:List (List Key×V)}(h:Rd H d (.dT kvs)):∃o,H d=some o:=by
 rcases h with e|⟨o,e⟩
 ·exact⟨_,e⟩
 ·exact⟨_,e⟩
def SF.put{o c:HO}(x:SF P pos q H H1)(f:H a=none)(h:H1 a=some c)(h1:∀ps,c≠.tbl ps:=by intro ps z;cases z)(h2:∀ob u,c≠.frz ob u:=by intro ob u z;cases z):SF P pos q H (upd H1 a o):=by
 have ne:∀{b:Addr}{u:HO},H b=some u->b≠a:=fun e=>zj e f;refine⟨fun b u n e=>by rw[ah (ne e)];exact x.keep b u n e,fun{b k} e=>?_,fun{b} e=>?_,fun t=>(x.tab t).off h h1 h2⟩
 ·obtain⟨u,d⟩:=nk e
  unfold Rd;rw[ah (ne d)];exact x.rd e
 ·by_cases z:b=a
  ·subst z;rw[ae] at e;cases e
  ·rw[ah z] at e;exact x.dom e
def SF.new{o:HO}(x:SF P pos q H H1)(h:H1 a=none):SF P pos q H (upd H1 a o):=x.trans (Same.sf (Same.new h))
def SF.one{kvs:List (List Key×V)}(hd:Rd H d (.dT kvs))(h:Rd H1 d (.dT kvs))(a:∀b,b≠d->H1 b=H b):SF P pos q H H1:=by
 have nd:∀{b:Addr}{u:HO},H b=some u->(∀k,u≠.dT k)->(∀ob k,u≠.frz ob (.dT k))->b≠d:=fun{b u} e n1 n2 z=>by
  subst z;rcases hd with r|⟨ob,r⟩
  ·exact n1 _ (Al (e.symm.trans r))
  ·exact n2 _ _ (Al (e.symm.trans r))
 refine⟨fun b u n e=>by rw[a b (nd e n.d n.z)];exact e,fun{b k} e=>?_,fun{b} e=>?_,fun t=>?_⟩
 ·by_cases z:b=d
  ·subst z
   have:HO.dT k=HO.dT kvs:=by
    rcases e with e|⟨j,e⟩<;>rcases hd with r|⟨l,r⟩<;>rw[e] at r<;>cases r<;>rfl
   rw[this];exact h
  ·unfold Rd;rw[a b z];exact e
 ·by_cases z:b=d
  ·subst z
   obtain⟨u,f⟩:=nk h;rw[e] at f;cases f
  ·rw[a b z] at e;exact e
 ·rcases t with e|⟨c,e,g,vs,i,e2,r⟩
  ·exact .inl (by rw[a _ (nd e (fun _ z=>nomatch z) (fun _ _ z=>nomatch z))];exact e)
  ·exact .inr ⟨c,by rw[a _ (nd e (fun _ z=>nomatch z) (fun _ _ z=>nomatch z))];exact e,g,vs,i,by rw[a _ (nd e2 (fun _ z=>nomatch z) (fun _ _ z=>nomatch z))];exact e2,r⟩
def SF.lam(s:zaI H H1)(a:∀b ps,b≠P->H b=some (.tbl ps)->H1 b=some (.tbl ps))(tb:Tab H1 P pos q):SF P pos q H H1:=
 ⟨fun b o n e=>s b o n.t e,fun{b k} e=>by
  rcases e with e|⟨o,e⟩
  ·exact .inl (s _ _ (fun _ z=>nomatch z) e)
  ·exact .inr ⟨o,s _ _ (fun _ z=>nomatch z) e⟩,fun h=>s.free a tb h,fun _=>tb⟩
end
section
variable{X:Cx}{scope:Scope}{N':List Str}{aq:List (Option Nat)}{tg iter bh:Expr}{aU:List Expr}{wi:TI}{g:TG}{tc:TT}{te:TE}{pos:Pos}
def H_{i:Nat}{x:Str}{aM w:Pos}(hc:X.calm=true)(hk:scope.kind=.function)(F:∀y∈scope.names,y.2=.cell->scope.names.lookup y.1=some .cell)(O:∀y∈scope.names,y.2=.free->scope.names.lookup y.1=some .free)(P:∀y∈scope.names,y.2=.local->scope.names.lookup y.1=some .local)(hfr:∀y∈scope.names,y.2=.free->X.env.kindOf y.1=some .cell\/X.env.kindOf y.1=some .free)(Q:mx X.N N' aq scope)(hi:PI X tg iter wi)(S:∀d C s₀ H₀ ex,PG (cxD X scope N' d C s₀ H₀ ex) tg g)(ht:∀d C s₀ H₀ ex,hH (cxD X scope N' d C s₀ H₀ ex) aU tc)(T:∀d C s₀ H₀ ex,PE (cxD X scope N' d C s₀ H₀ ex) bh te)(U:∀x,foldedSetIterable iter X.env x=pure x)(W:X.N.Nodup)(p:X.N[i]?=some x)(hx:Loc X.env.scope x)(hf:X.fn x=true\/X.env.scope.names.lookup x=some .local)(Y:swapsWith (.ListComp bh [⟨tg,iter,aU,0⟩] scope pos) (some (.Name x aM)) w.line X.env=pure true):PS X (.Assign [.Name x aM] (.ListComp bh [⟨tg,iter,aU,0⟩] scope pos) w) (fW (iq wi aq g tc te) (zN i)):=by
 intro aa s σ H D I h;rw[exec_Assign_Name_used _ _ _ _ Y];refine Aa (wpAny_standAt (Aa ?_));show wpAny _ X.A (do let _ <-comprehension (.ListComp bh [⟨tg,iter,aU,0⟩] scope pos) scope X.env _ (newList []) (firstAsync [⟨tg,iter,aU,0⟩]) (firstIter [⟨tg,iter,aU,0⟩] X.env) (some (assign (.Name x aM) X.env))) _ _ s;refine Aa (wpAny_mono (Gc (use:=some (assign (.Name x aM) X.env)) (R:=fun _ s'=>SP X aa D .next s') hc hk F O P hfr Q hi S ht T U I h fun E C H' r f L q=>?_) (fun _ s' hq=>Ac (Ac hq)) fun _ _ e=>e);show wpAny _ X.A (assign (.Name x aM) X.env (.ref E)) _ _ r;refine wpAny_assign_Name (EH (v:=.ref E) (L.back r.heap (Heap.SameBut.refl _ _)) W p hx rfl (fun G I5 ⟨a,l,ha⟩=>?_) hf);have M:C≠a:=by
  rcases ha with e|e
  ·rw[e];exact L.nl
  ·exact fun z=>L.nc x a e z.symm
 obtain⟨m,J⟩:=L.ns;refine⟨m,J.sameBut l M,fun h' j=>⟨_,H',?_,q⟩⟩;refine I5.call' (s':={G with heap:=h'}) (ch:=[C]) rfl ⟨fun b o q n hb hx=>?_,fun b o q n hb hx=>?_,fun b o q n hx=>n,fun b o q hx=>?_,fun b xs q=>q,fun b o u q=>q,fun b ps q=>⟨#[],by simpa using q⟩⟩ ?_ I5.bare fun b hb=>?_
 ·exact(j.2 b (by simpa using hx)).trans q
 ·exact⟨o.slots,(j.2 b (by simpa using hx)).trans q⟩
 ·exact⟨o,(j.2 b (by simpa using hx)).trans q⟩
 ·intro b u e
  refine(I5.hok b u e).stay (fun c v hc q=>(j.2 c ?_).trans q) (fun _ q=>q) fun _ _ q=>q;rintro rfl;rcases hc with z|z
  ·rw[<-z,L.no] at e;cases e
  ·rw[L.no] at z;cases z
 ·have e:b=C:=by simpa using hb
  subst e;exact⟨.inr L.far,L.nl,L.nc,L.np⟩
def Ow{i:Nat}{x:Str}{aM f:Pos}(hc:X.calm=true)(hk:scope.kind=.function)(c:∀y∈scope.names,y.2≠.cell)(h:∀y∈scope.names,y.2=.free->scope.names.lookup y.1=some .free)(j:∀y∈scope.names,y.2=.local->scope.names.lookup y.1=some .local)(hfr:∀y∈scope.names,y.2=.free->X.env.kindOf y.1=some .cell\/X.env.kindOf y.1=some .free)(l:mx X.N N' aq scope)(hi:PI X tg iter wi)(o:∀a C s₀ H₀ ex,PG (eO X scope N' a C s₀ H₀ ex) tg g)(ht:∀a C s₀ H₀ ex,hH (eO X scope N' a C s₀ H₀ ex) aU tc)(p:∀a C s₀ H₀ ex,PE (eO X scope N' a C s₀ H₀ ex) bh te)(q:∀x,foldedSetIterable iter X.env x=pure x)(r:X.N.Nodup)(d:X.N[i]?=some x)(hx:Loc X.env.scope x)(hf:X.fn x=true\/X.env.scope.names.lookup x=some .local)(u:swapsWith (.ListComp bh [⟨tg,iter,aU,0⟩] scope pos) (some (.Name x aM)) f.line X.env=pure true):PS X (.Assign [.Name x aM] (.ListComp bh [⟨tg,iter,aU,0⟩] scope pos) f) (fW (iq wi aq g tc te) (zN i)):=
 H_ hc hk (fun y hy e=>absurd e (c y hy)) h j hfr l hi (fun a C s₀ H₀ ex=>mB (X:=X) (N':=N') c a C s₀ H₀ ex▸o a C s₀ H₀ ex) (fun a C s₀ H₀ ex=>mB (X:=X) (N':=N') c a C s₀ H₀ ex▸ht a C s₀ H₀ ex) (fun a C s₀ H₀ ex=>mB (X:=X) (N':=N') c a C s₀ H₀ ex▸p a C s₀ H₀ ex) q r d hx hf u
end
section
variable{X:Cx}{scope:Scope}{aq:List (Option Nat)}{tg iter bh:Expr}{aU:List Expr}{wi:TI}{g:TG}{tc:TT}{te:TE}{pos:Pos}
def DX{i:Nat}{x:Str}{aM e:Pos}(c:X.N.Nodup)(d:X.N[i]?=some x)(hx:Loc X.env.scope x)(N N':List Str)(aq:List (Option Nat))(hi:PI X tg iter wi)(f:∀a C s₀ H₀ ex,PG (eO X scope N' a C s₀ H₀ ex) tg g)(ht:∀a C s₀ H₀ ex,hH (eO X scope N' a C s₀ H₀ ex) aU tc)(h:∀a C s₀ H₀ ex,PE (eO X scope N' a C s₀ H₀ ex) bh te)(hc:X.calm=true:=by rfl)(hk:scope.kind=.function:=by rfl)(j:∀y∈scope.names,y.2≠.cell:=by decide +kernel)(l:∀y∈scope.names,y.2=.free->scope.names.lookup y.1=some .free:=by decide +kernel)(o:∀y∈scope.names,y.2=.local->scope.names.lookup y.1=some .local:=by decide +kernel)(hfr:∀y∈scope.names,y.2=.free->X.env.kindOf y.1=some .cell\/X.env.kindOf y.1=some .free)(p:X.N=N:=by rfl)(q:hX N N' aq scope=true:=by decide +kernel)(r:∀x,foldedSetIterable iter X.env x=pure x:=by intro _;rfl)(hf:X.fn x=true\/X.env.scope.names.lookup x=some .local:=by first|exact .inl rfl|exact .inr rfl|assumption)(u:swapsWith (.ListComp bh [⟨tg,iter,aU,0⟩] scope pos) (some (.Name x aM)) e.line X.env=pure true:=by rfl):PS X (.Assign [.Name x aM] (.ListComp bh [⟨tg,iter,aU,0⟩] scope pos) e) (fW (iq wi aq g tc te) (zN i)):=
 Ow hc hk j l o hfr (C5 (by rw[p];exact q)) hi f ht h r c d hx hf u
end
def Fun.ok0c{P:Program}{w:World}{K:Ae}{mg:Str->Option Value}{base:Heap}{x a:Str}{st:Stmt}{f c:Addr}{fd:FuncData}{N ps:List Str}{k:Nat}{sp:Sp}(F:Fun K x a st f fd)(hc:fd.code=.ref c)(S:zp N ps (zi st))(len:∀vs H Q E,sp vs H Q E->vs.length=ps.length)(j:∀(A:Around)(outer:List Env)(s:Shared)(H:Hp)(vs:List V)(Q:VK)(E:XK),Room k (A.deeper (envOfC a (zi st) s⁻¹ f (.ref c)))->sp vs H Q E->
   ∃t,PSs (eD aR P w K mg base N a (zi st) f (.ref c) A outer s H E).nox (za3 st) t/\t {nx:=fun _ H'=>Q .non H',rt:=Q} (start N vs) H):FnOk P w K mg base aR (k+1) f fd ps sp:=by
 obtain⟨l,o,kV,p,r,u,g,ct,v,rfl,lk,i⟩:=F.ex;have e:g=.ref c:=hc;subst e;refine Fa lk i S len fun A outer s H vs Q E hr d=>?_;obtain⟨t,h,q⟩:=j A outer s H vs Q E hr d;exact⟨t,h.nox,q⟩
end L2
namespace K64
open K1
open PySem L2 STb
noncomputable abbrev DY:Stmt:=top 22
noncomputable abbrev DZ:Stmt:=top 24
noncomputable abbrev vl:Stmt:=top 25
noncomputable abbrev vq:Stmt:=top 26
noncomputable abbrev vr:Stmt:=top 27
def Ia:AZ "max"=some (.builtin "max"):=δ
noncomputable abbrev i':Pos:=⟨92,32,92,58⟩
noncomputable abbrev qY:Str:=(("youngest_of":Str)++".<locals>.")++"<lambda>"
abbrev SY(Pt:Addr)(H H':Hp):Prop:=SF Pt i' qY H H'
abbrev TY(Pt:Addr)(H:Hp):Prop:=Tab H Pt i' qY
noncomputable def cB(oo:Ξ):Ch:=oo.zipIdx.map fun q=>(q.1,(q.2:Int))
def D0(oo:Ξ):ksC (cB oo)=oo:=by
 unfold ksC cB;rw[Am];exact R9 0 oo
def lu{oo:Ξ}(nd:oo.Nodup){t:Nat}{y:List Int}(h:oo[t]?=some y):b' (kvC (cB oo)) (y.map Sum.inl)=some (.int t):=by
 have hm:(y,(t:Int))∈cB oo:=Qj.mpr ⟨(y,t),by rw[List.mem_zipIdx_iff_getElem?];exact h,rfl⟩;exact gD (by rw[D0];exact nd) _ hm
section
variable{P:Program}{w:World}{K:Ae}{mg:Str->Option Value}{base:Heap}{f:Addr}{fd:FuncData}{Pt:Addr}
def D6{pos:Pos}{q:Str}{H H1:Hp}{d:Addr}{kvs:List (List Key×V)}(s:zG d H H1)(hd:Rd H d (.dT kvs))(h:Rd H1 d (.dT kvs)):SF Pt pos q H H1:=by
 have nd:∀{b:Addr}{u:HO},H b=some u->(∀k,u≠.dT k)->(∀ob k,u≠.frz ob (.dT k))->b≠d:=fun{b u} e n1 n2 z=>by
  subst z;rcases hd with r|⟨ob,r⟩
  ·exact n1 _ (Al (e.symm.trans r))
  ·exact n2 _ _ (Al (e.symm.trans r))
 refine⟨fun b u n e=>s _ _ (nd e n.d n.z) e,fun{b k} e=>?_,fun{b} e=>?_,fun t=>?_⟩
 ·by_cases z:b=d
  ·subst z
   have:HO.dT k=HO.dT kvs:=by
    rcases e with e|⟨i,e⟩<;>rcases hd with r|⟨j,r⟩<;>rw[e] at r<;>cases r<;>rfl
   rw[this];exact h
  ·rcases e with e|⟨o,e⟩
   ·exact .inl (s _ _ z e)
   ·exact .inr ⟨o,s _ _ z e⟩
 ·by_cases z:b=d
  ·subst z
   obtain⟨u,a⟩:=nk h;rw[e] at a;cases a
  ·cases q:H b with
   |none=>rfl
   |some o=>rw[s _ _ z q] at e;cases e
 ·rcases t with e|⟨c,e,f,vs,g,e2,r⟩
  ·exact .inl (s _ _ (nd e (fun _ z=>nomatch z) (fun _ _ z=>nomatch z)) e)
  ·exact .inr ⟨c,s _ _ (nd e (fun _ z=>nomatch z) (fun _ _ z=>nomatch z)) e,f,vs,g,s _ _ (nd e2 (fun _ z=>nomatch z) (fun _ _ z=>nomatch z)) e2,r⟩
def Ib{H2:Hp}{d D:Addr}{o:Obj}{cs:Ch}{rest:List (Option V)}{te:TE}{g:List Int×Int->Int}{Q:VK}(hd:H2 d=some (.frz o (.dT (kvC cs))))(hz:cs.length<=1000)(step:∀(c:List Int×Int)(b:Addr)(H3:Hp)(R:VK),c∈cs->Same H2 H3->Tp H3 b c.1->(∀t,H3 t=none->R (.ref t) (upd H3 t (.tup [.ref b,.int (g c)])))->te (some (.ref b)::rest) H3 R)(q:H2 D=none)(k:∀(H3:Hp)(ts:List Addr),Same H2 H3->H3 D=some (.lst (ts.map V.ref))->Prs H3 ts (cs.map fun c=>(c.1,g c))->Q (.ref D) H3):zV (k8 d o (kvC cs)) (zN 0) bT te (none::rest) H2 D Q:=by
 refine ir cs.length (fun j σ ys H3=>∃(v:Option V)(ts:List Addr),σ=v::rest/\Same H2 H3/\H3 D=some (.lst ys)/\ys=ts.map V.ref/\Prs H3 ts ((cs.map fun c=>(c.1,g c)).take j)) ?_ ?_ ?_ ?_ ?_
 ·exact⟨none,[],rfl,Same.new q,ae,rfl,.nil⟩
 ·rintro σ ys H3 ⟨v,ts,rfl,sm,a,rfl,hp⟩
  exact⟨(zK cs).symm,sm _ _ hd⟩
 ·rintro i σ ys H3 hi ⟨v,ts,rfl,sm,a,rfl,hp⟩
  exact⟨by rw[zK];exact hi,sm _ _ hd⟩
 ·rintro i σ ys H3 x H' hi hy ⟨v,ts,rfl,sm,a,rfl,hp⟩ ⟨rfl,kv,b,u,rfl,l⟩
  obtain⟨c,p,rfl⟩:=t5 u;have f:=Ai p;have e:(cs.map fun c=>(c.1,g c))[i]?=some (c.1,g c):=by rw[Ag,p];rfl
  refine b0 (step c b _ _ f sm (pY l) fun t r=>?_);have h:=Same.new (o:=.tup [.ref b,.int (g c)]) r;refine bz (zh ω) hi hy (h _ _ a) ⟨_,ts++[t],rfl,(sm.trans h).then q,ae,by rw[Aj];rfl,?_⟩;rw[AH e];exact Prs.upd (Prs.snoc (hp.same h) ⟨b,ae,h.tp (pY l)⟩) (h _ _ a) (by intro xs z;cases z)
 ·rintro σ ys H3 ⟨v,ts,rfl,sm,a,rfl,hp⟩
  rw[As (by rw[Ab];exact Af _)] at hp;exact k H3 ts sm a hp
def D_(K:Ae):Sp:=fun vs H Q _=>∃l as oo,vs=[.ref l]/\SqL K H l (as.map V.ref)/\Tps H as oo/\oo.Nodup/\oo.length<=200/\∀D H',Same H H'->H D=none->H' D=some (.dT (kvC (cB oo)))->Q (.ref D) H'
def vu:zp ["order","times","time","piece"] ["order"] (zi DY):=⟨rfl,rfl,rfl,δ,rfl,δ,δ⟩
def Ox(F:Fun K "times_of" "times_of" DY f fd)(B:Bt mg):FnOk P w K mg base aR 1 f fd ["order"] (D_ K):=by
 refine F.ok vu (fun vs H Q E h=>?_) (fun L A outer s H vs Q E hr h=>?_)
 ·obtain⟨l,as,oo,rfl,_⟩:=h;rfl
 ·obtain⟨l,as,oo,rfl,C,ht,nd,M,k⟩:=h
  have hu:=eG hr;have G:=ht.length;refine⟨_,ze (zt (i:=1) vu.nd rfl (Or.inl rfl) ju)
   (ze (d0 AL rfl (oM rfl B.enumerate oX (zc (pv 0) zd)) (jn rfl (zI (zk (i:=2) vu.nd rfl (Or.inl rfl)) (zI (zk (i:=3) vu.nd rfl (Or.inl rfl)) jm)))
    (zg (hF hu (pv 1) (pv 3) (pv 2) rfl)))
   (zg (zm (pv 1)))),?_⟩
  intro d hd;refine⟨_,rfl,l,rfl,⟨_,(Same.new hd).seq C⟩,CV (K:=K) (a:=l) (xs:=as.map V.ref) (fun i σ H2=>∃(g q:Option V),σ=[some (.ref l),some (.ref d),g,q]/\Same H H2/\H2 d=some (.dT (kvC ((cB oo).take i))))
   ⟨none,none,rfl,Same.new hd,ae⟩ (fun i σ H2 _ ⟨_,_,_,sm,_⟩=>sm.seq C) ?_ ?_⟩
  ·rintro i x p σ H2 hx ⟨g,q,rfl,sm,c⟩ hp
   obtain⟨a,D,rfl⟩:=dL hx;obtain⟨y,r,hy⟩:=ht.get D;have v:=Same.new (o:=.tup [.int i,.ref a]) hp;have e:(cB oo)[i]?=some (y,(i:Int)):=by unfold cB;rw[Ag,RS,r];simp
   have hi:i<oo.length:=(KK.mp r).1;have I:y∉ksC ((cB oo).take i):=fun z=>by
    unfold ksC at z;rw[S5] at z;have z:y∈(ksC (cB oo)).take i:=z;rw[D0] at z;obtain⟨j,u⟩:=Qn.mp z;have J:j<i:=by
     have:=(KK.mp u).1;rw[AC] at this;omega
    rw[Qw J] at u;have:=(Q6 ω nd).mp (u.trans r.symm);omega
   refine⟨p,_,rfl,SqT.of ae,rfl,_,_,rfl,_,_,rfl,rfl,?_⟩;refine⟨_,rfl,_,rfl,_,rfl,d,_,rfl,DPut.t (k:=y.map Sum.inl) (v _ _ c) (by rw[Am];exact v.tp (sm.tp hy)) (zT (by rw[zK,AC];omega)),⟨_,_,rfl,(sm.trans v).then hd,?_⟩⟩;rw[ae,pW,Dp _ I,AH e]
  ·rintro σ H2 ⟨g,q,rfl,sm,c⟩
   have:(as.map V.ref).length=(cB oo).length:=by unfold cB;rw[Ab,Ab,Sf];exact G
   rw[this,take_all] at c;exact⟨_,rfl,k d H2 sm hd c⟩
def Yst(oo:Ξ)(cs:Ch)(y:List Int)(t:Nat):Prop:=y∈ksC cs/\oo[t]?=some y/\∀x∈ksC cs,∀u,oo[u]?=some x->u<=t
def vD(Pt:Addr):Sp:=fun vs H Q _=>∃d T cs oo,vs=[.ref d,.ref T]/\Rd H d (.dT (kvC cs))/\Rd H T (.dT (kvC (cB oo)))/\oo.Nodup/\cs≠[]/\(∀q∈ksC cs,q∈oo)/\TY Pt H/\
 ∀b y t H',SY Pt H H'->Tp H' b y->Yst oo cs y t->Q (.ref b) H'
def Oy:zp ["chain","times"] ["chain","times"] (zi DZ):=⟨rfl,rfl,rfl,δ,rfl,δ,δ⟩
def Oz{c:Addr}(F:Fun K "youngest_of" "youngest_of" DZ f fd)(B:Bt mg)(Y:mg "max"=none)(bH:fd.code=.ref c)(hC:PySem.W.CodeHd base c Pt)(h_:BM mg base):FnOk P w K mg base aR 4 f fd ["chain","times"] (vD Pt):=by
 refine F.ok0c bH Oy (fun vs H Q E h=>?_) (fun A outer s H vs Q E hr h=>?_)
 ·obtain⟨d,T,cs,oo,rfl,_⟩:=h;rfl
 ·obtain⟨d,T,cs,oo,rfl,hd,hT,nd,D,l,tb,k⟩:=h
  refine⟨_,zg (zm (N_ (k:=1) (iy:=1) (x:="piece") (y:="times") (te:=hE (ax 1) (ax 0)) hr rfl Y Ia hC rfl h_ rfl rfl rfl rfl ⟨rfl,rfl,rfl,rfl,rfl,δ,Oa⟩ (fun _ _ _ _ _ _=>rfl)
    (fun s H f ai c'=>zR (eG ((Room.in1 hr).deeper _)) (pv 1) (pv 0) (fun _ _=>rfl)) (zc (zu (zX rfl) rfl B.list fh (zc (pv 0) zd)) zd) rfl)),?_⟩
  refine⟨_,rfl,d,kvC cs,rfl,hd,fun bs M L N=>?_⟩;have tk:=mY M;have J:=tk.length;rw[ie] at J;have q:=Same.new (o:=.lst (bs.map V.ref)) N;have BT:∀y∈ksC cs,∃t:Nat,oo[t]?=some y:=fun y hy=>Qn.mp (l y hy);have G:∀y∈ksC cs,oo[oo.idxOf y]?=some y:=fun y hy=>by
   have h:=List.idxOf_lt_length_of_mem (l y hy);rw[Ah h,List.getElem_idxOf h]
  refine⟨L,bs,(ksC cs).map fun y=>(oo.idxOf y:Int),.ref T,rfl,SqL.of ae,by rw[Ab,ie];omega,?_,rfl,tb.same q,fun H2 g j a n C i=>?_,fun H2 j a n g O S C i U=>?_⟩
  ·cases cs with
   |nil=>exact absurd rfl D
   |cons c r=>simp at J;omega
  ·obtain⟨y,p,hy⟩:=(q.tps tk).get C
   rw[Ag,p] at i;obtain rfl:=Al i;have v:=Ai p;have X:Rd H2 T (.dT (kvC (cB oo))):=by
    rcases hT.same q with e|⟨o,e⟩
    ·exact .inl (g _ _ (fun _ z=>nomatch z) e)
    ·exact .inr ⟨o,g _ _ (fun _ z=>nomatch z) e⟩
   refine⟨_,rfl,_,rfl,T,.int (oo.idxOf y),rfl,.inr ⟨kvC (cB oo),y.map Sum.inl,a,X,rfl,by rw[Am];exact g.tp hy,(lu nd (G y v)).symm⟩,rfl,rfl⟩
  ·obtain⟨y,p,hy⟩:=(q.tps tk).get C
   rw[Ag,p] at i;obtain rfl:=Al i;have v:=Ai p;refine k a y (oo.idxOf y) H2 ((Same.sf q).trans (SF.lam g O S)) (g.tp hy) ⟨v,G y v,fun x hx u I=>?_⟩;have h1:=U (oo.idxOf x:Int) (Qj.mpr ⟨x,hx,rfl⟩);have h2:=(Q6 (KK.mp I).1 nd).mp (I.trans (G x hx).symm);have h1:((oo.idxOf x:Nat):Int)<=((oo.idxOf y:Nat):Int):=h1;omega
def vL(Pt:Addr):Sp:=fun vs H Q _=>∃d cs p,vs=[.ref d,.int p]/\Rd H d (.dT (kvC cs))/\(ksC cs).Nodup/\cs.length<=1000/\0<p/\∀D H',SY Pt H H'->H D=none->H' D=some (.dT (kvC (md p cs)))->Q (.ref D) H'
def OA:zp ["chain","prime"] ["chain","prime"] (zi vl):=⟨rfl,rfl,rfl,δ,rfl,δ,δ⟩
abbrev OB:TE:=c7 (zJ (ax 0) (zJ (cp (rI (fun _ j=>0<j) fun i j=>.int (i%j)) (hE (ax 1) (ax 0)) (ax 2)) br))
def OD(F:Fun K "taken_by" "taken_by" vl f fd)(I:Cl P w K mg base aR "sum_of" ["terms"] 1 (tZ K)):FnOk P w K mg base aR 2 f fd ["chain","prime"] (vL Pt):=by
 refine F.ok OA (fun vs H Q E h=>?_) (fun J A outer s H vs Q E hr h=>?_)
 ·obtain⟨d,cs,p,rfl,_⟩:=h;rfl
 ·obtain⟨d,cs,p,rfl,hd,nd,hz,hp,k⟩:=h
  have hu:=eG hr;refine⟨_,zg (zm (zE I hr rfl ak (zc (zq ["chain","prime"] ["piece","chain","prime"] [none,some 0,some 1] (pH (pv 0)) (fun e C s₀ H₀ ex=>zk (i:=0) (cz ["piece","chain","prime"]) rfl (Or.inl rfl)) (fun e C s₀ H₀ ex=>zF)
   (fun e C s₀ H₀ ex=>ei (zc (pv 0) (zc (zy gt (zR hu (pv 1) (pv 0) (fun _ _=>rfl)) (pv 2)) zd))) (hfr:=cx (zi vl) δ) (te:=OB)) zd))),?_⟩
  refine⟨_,rfl,d,kvC cs,rfl,hd,fun o H1 a l=>fun D q=>zx (Ib (g:=fun c=>c.2%p) a hz (fun c b H3 R hc sm hb r=>?_) q fun H2 ts j u v=>?_)⟩
  ·refine⟨_,rfl,_,rfl,_,rfl,d,_,rfl,.inr ⟨kvC cs,c.1.map Sum.inl,b,.inr ⟨o,sm _ _ a⟩,rfl,by rw[Am];exact hb,(gD nd c hc).symm⟩,_,rfl,_,_,rfl,rfl,hp,zh (by simp),fun t ht=>r t ht⟩
  ·have f1:SY Pt H H1:=SF.one hd (.inr ⟨o,a⟩) l
   refine⟨D,ts,_,rfl,SqL.of u,v,by rw[Ab];exact hz,fun R H3 x y G=>?_⟩;exact k R H3 (f1.trans (Same.sf (j.trans x))) (f1.dom (j.free y)) G
def Ie:Sp:=fun vs H Q _=>∃a g p,vs=[.int a,.int g,.int p]/\(-(2 ^ 64)<a/\a<2 ^ 64)/\2<=p/\p<=100/\(∃k:Nat,(k:Int)<p/\p ∣ (k:Int)*a-g)/\∀(k:Int) H',0<=k->k<p->p ∣ k*a-g->Same H H'->Q (.int k) H'
def OE:zp ["weight","goal","prime"] ["weight","goal","prime"] (zi vq):=⟨rfl,rfl,rfl,δ,rfl,δ,δ⟩
abbrev Ig:TT:=eB (cp nP (cp (rI (fun _ j=>0<j) fun i j=>.int (i%j)) (cp (dR fun i j=>.int (i-j)) (cp (rI CMul fun i j=>.int (i*j)) (ax 0) (ax 1)) (ax 2)) (ax 3)) (tC (.int 0)))
def OF{H2:Hp}{D:Addr}{a g p:Int}{n:Nat}{Q:VK}(f:n<=100)(hw:-(2 ^ 64)<a/\a<2 ^ 64)(hp:0<p)(d:H2 D=none)(k:∀H3,Same H2 H3->H3 D=some (.lst (((AD n).filter fun j:Nat=>decide (((j:Int)*a-g)%p=0)).map fun j:Nat=>V.int j))->Q (.ref D) H3):zV (gk 0 n) (zN 0) Ig (ax 0) [none,some (.int a),some (.int g),some (.int p)] H2 D Q:=by
 refine oR (fun j σ ys H3=>∃(v:Option V),σ=[v,some (.int a),some (.int g),some (.int p)]/\Same H2 H3/\H3 D=some (.lst ys)/\ys=(((AD n).take j).filter fun j:Nat=>decide (((j:Int)*a-g)%p=0)).map fun j:Nat=>V.int j) ?_ ?_ ?_
 ·exact⟨none,rfl,Same.new d,ae,rfl⟩
 ·rintro i σ ys H3 hi hy ⟨v,rfl,sm,c,rfl⟩
  have e:(AD n)[i]?=some i:=by rw[Rg hi]
  refine⟨_,rfl,_,rfl,_,_,rfl,rfl,.inr hw,_,rfl,_,_,rfl,rfl,_,rfl,_,_,rfl,rfl,hp,rfl,_,rfl,?_⟩;rw[show(0:Int)+(i:Int)=i from ω]
  by_cases h:((i:Int)*a-g)%p=0
  ·rw[Tj (congrArg V.int h)]
   refine bd ⟨_,rfl,bz (zh ω) hi hy c ⟨_,rfl,sm.then d,ae,?_⟩⟩;rw[AH e,Bf,Q4 (by exact Tj h),Sd,Aj]
   rfl
  ·rw[Tk (fun z=>h (by injection z))]
   refine aC (dX hi hy ⟨_,rfl,sm,c,?_⟩);rw[AH e,Bf,Q3 (by simpa using h),Sd,QD]
 ·rintro σ ys H3 ⟨v,rfl,sm,c,rfl⟩
  rw[As (by rw[QR];exact Af _)] at c;exact k H3 sm c
def OG(F:Fun K "times_into" "times_into" vq f fd)(B:Bt mg):FnOk P w K mg base aR 1 f fd ["weight","goal","prime"] Ie:=by
 refine F.ok OE (fun vs H Q E h=>?_) (fun y A outer s H vs Q E hr h=>?_)
 ·obtain⟨a,g,p,rfl,_⟩:=h;rfl
 ·obtain⟨a,g,p,rfl,hw,h2,G,⟨k0,I,q⟩,k⟩:=h
  refine⟨_,zg (zm (zA zU (zq ["weight","goal","prime"] ["often","weight","goal","prime"] [none,some 0,some 1,some 2] (iC rfl B.range (zc (pv 2) zd)) (fun c C s₀ H₀ ex=>zk (i:=0) (cz ["often","weight","goal","prime"]) rfl (Or.inl rfl)) (fun c C s₀ H₀ ex=>jC (zn fY (zy gt (zy lW (zy ik (pv 0) (pv 1)) (pv 2)) (pv 3)) zf (al _)))
   (fun c C s₀ H₀ ex=>pv 0) (hfr:=cx (zi vq) δ) (tc:=Ig) (te:=ax 0)) zf (fun _ _=>rfl))),?_⟩
  refine⟨_,rfl,p,rfl,ω,ω,fun D l=>zx (OF (n:=p.toNat) ω hw ω l fun H1 o d=>?_)⟩;have hm:k0∈(AD p.toNat).filter fun j:Nat=>decide (((j:Int)*a-g)%p=0):=Qx.mpr ⟨Qv.mpr ω,Tj (Int.emod_eq_zero_of_dvd q)⟩;cases e:(AD p.toNat).filter fun j:Nat=>decide (((j:Int)*a-g)%p=0) with
  |nil=>rw[e] at hm;cases hm
  |cons j r=>
   have x:j∈(AD p.toNat).filter fun j:Nat=>decide (((j:Int)*a-g)%p=0):=by rw[e];exact .head _
   obtain⟨u,v⟩:=Qx.mp x;have:=Qv.mp u;rw[e] at d;exact⟨D,_,0,.int j,rfl,rfl,SqL.of d,gw (j:=0) rfl,k j H1 ω ω (Rc (Tl v)) o⟩
def Ih(Pt:Addr):Sp:=fun vs H Q _=>∃d e a b k p,vs=[.ref d,.int k,.ref e,.int p]/\Rd H d (.dT (kvC a))/\Rd H e (.dT (kvC b))/\(ksC a).Nodup/\(ksC b).Nodup/\a.length<=200/\b.length<=200/\0<p/\(-(2 ^ 64)<k/\k<2 ^ 64)/\∀D H',SY Pt H H'->H D=none->H' D=some (.dT (kvC (less p a k b)))->Q (.ref D) H'
def Ii:zp ["chain","often","other","prime","taken"] ["chain","often","other","prime"] (zi vr):=⟨rfl,rfl,rfl,δ,rfl,δ,δ⟩
abbrev OJ:TE:=c7 (zJ (ax 0) (zJ (cp (rI CMul fun i j=>.int (i*j)) (yB (rU fun i=>.int (-i)) (ax 1)) (hE (ax 2) (ax 0))) br))
def OK(F:Fun K "less_by" "less_by" vr f fd)(B:Bt mg)(Cs:Cl P w K mg base aR "sum_of" ["terms"] 1 (tZ K))(Ct:Cl P w K mg base aR "taken_by" ["chain","prime"] 2 (vL Pt)):FnOk P w K mg base aR 3 f fd ["chain","often","other","prime"] (Ih Pt):=by
 refine F.ok Ii (fun vs H Q E h=>?_) (fun ar A outer s H vs Q E hr h=>?_)
 ·obtain⟨d,e,a,b,k,p,rfl,_⟩:=h;rfl
 ·obtain⟨d,e,a,b,n,p,rfl,hd,J,na,nb,la,lb,hp,hn,k⟩:=h
  have hu:=eG hr;refine⟨_,ze (DX (i:=4) Ii.nd rfl (Or.inl rfl) ["chain","often","other","prime","taken"] ["piece","often","other"] [none,some 1,some 2] (pH (pv 2)) (fun G C s₀ H₀ ex=>zk (i:=0) (cz ["piece","often","other"]) rfl (Or.inl rfl)) (fun G C s₀ H₀ ex=>zF)
    (fun G C s₀ H₀ ex=>ei (zc (pv 0) (zc (zy ik (yC yS (pv 1)) (zR hu (pv 2) (pv 0) (fun _ _=>rfl))) zd))) (hfr:=cx (zi vr) δ) (te:=OJ))
   (zg (zm (zE Ct hr rfl ak (zc (zE Cs hr rfl ak (zc (zy kc (zu (M5 rfl) rfl B.list fh (zc (MZ (pv 0)) zd)) (pv 4)) zd)) (zc (pv 3) zd))))),?_⟩
  refine⟨_,rfl,e,kvC b,rfl,J,fun o H1 u T=>fun D U=>zx (Ib (g:=fun c=>-n*c.2) u ω (fun c t H3 R hc sm hb W=>?_) U fun H2 ts X Y I=>?_)⟩
  ·refine⟨_,rfl,_,rfl,_,rfl,_,rfl,_,rfl,e,_,rfl,.inr ⟨kvC b,c.1.map Sum.inl,t,.inr ⟨o,sm _ _ u⟩,rfl,by rw[Am];exact hb,(gD nb c hc).symm⟩,_,_,rfl,rfl,.inl ω,zh (by simp),fun t ht=>W t ht⟩
  ·have f1:SY Pt H H1:=SF.one J (.inr ⟨o,u⟩) T
   have f2:SY Pt H H2:=f1.trans (Same.sf X);refine⟨_,rfl,d,kvC a,rfl,rfl,f2.rd hd,fun v hv=>?_⟩;have L:=Same.new (o:=pN v d) hv;refine⟨v,d,kvC a,rfl,ae,(f2.rd hd).same L,fun j l us s4 hl0 w_ gf=>⟨_,rfl,?_⟩⟩;have M:Prs j us a:=by
    have:∀{us:List Addr}{a:Ch},Paired (fun t(kv:List Key×V)=>∃b,j t=some (.tup [.ref b,kv.2])/\j b=some (.tup (kv.1.map kV))) us (kvC a)->Prs j us a:=by
     intro us a
     induction a generalizing us with
     |nil=>intro h;cases h;exact .nil
     |cons c r ih=>
      intro h;cases h with
      |cons q t=>
       obtain⟨b,q1,q2⟩:=q;exact .cons ⟨b,q1,pY q2⟩ (ih t)
    exact this gf
   have x:=L.trans s4;have sx:=M.length;have y:=I.length;rw[Ab] at y;refine⟨l,D,_,_,rfl,rfl,w_,x _ _ Y,by rw[Ab,Ab];exact zh ω,fun q hq=>?_⟩;have N:=Same.new (o:=.lst (us.map V.ref++ts.map V.ref)) hq;refine⟨q,us++ts,a++b.map fun c=>(c.1,-n*c.2),rfl,SqL.of (by rw[ae,Aj]),(M.append (I.same x)).same N,by rw[Ar,Ab];omega,fun S H6 s6 Cd vF=>?_⟩;have O:SY Pt H H6:=f2.trans (Same.sf ((x.trans N).trans s6));refine⟨_,rfl,S,_,p,rfl,.inl vF,zP _,AA (Ds _) (by rw[Ar,Ab];omega),hp,fun D7 H7 f7 bI o_=>?_⟩;exact k D7 H7 (O.trans f7) (O.dom bI) o_
end
end K64
end
section
namespace K64
open K1
open PySem L2 STb
noncomputable abbrev Ea:Stmt:=top 23
structure RA where
 x:bi
 t:Addr
 c:Addr
 g:Addr
def RwAt(H:Hp)(r:RA):Prop:=Rd H r.c (.dT (kvC r.x.c))/\((r.x.d=none/\H r.t=some (.tup [.int r.x.hi,.int r.x.b,.non,.ref r.c,.non]))\/∃e:Nat,r.x.d=some e/\Rd H r.g (.dT (kvC r.x.g))/\H r.t=some (.tup [.int r.x.hi,.int r.x.b,.int e,.ref r.c,.ref r.g]))
def RwAt.sf{P:Addr}{pos:Pos}{q:Str}{H H':Hp}{r:RA}(h:RwAt H r)(s:SF P pos q H H'):RwAt H' r:=by
 obtain⟨h1,h2⟩:=h;refine⟨s.rd h1,?_⟩;rcases h2 with ⟨e,h2⟩|⟨e,h2,a,c⟩
 ·exact .inl ⟨e,s.tup h2⟩
 ·exact .inr ⟨e,h2,s.rd a,s.tup c⟩
noncomputable def eh(L:List RA):List (Key×V):=L.map fun r=>((Sum.inl (r.x.b:Int):Key),V.ref r.t)
noncomputable abbrev bW(L:List RA):List bi:=L.map RA.x
def Eb:∀{L:List RA},((bW L).map (·.b)).Nodup->∀{r:RA},r∈L->b' (eh L) (Sum.inl (r.x.b:Int))=some (.ref r.t)
 |q::L,nd,r,hr=>by
  rw[show(bW (q::L)).map (·.b)=q.x.b::(bW L).map (·.b) from rfl,Qp] at nd;show b' ((Sum.inl (q.x.b:Int),V.ref q.t)::eh L) _=_
  by_cases e:(q.x.b:Int)=r.x.b
  ·rcases Qk.mp hr with rfl|hr'
   ·exact rj rfl
   ·exact absurd (Qj.mpr ⟨r.x,Qj.mpr ⟨r,hr',rfl⟩,ω⟩) nd.1
  ·rw[ro (fun z=>e (by injection z))]
   rcases Qk.mp hr with rfl|hr'
   ·exact absurd rfl e
   ·exact Eb nd.2 hr'
def gF{oo:Ξ}{cs:Ch}(nd:(ksC cs).Nodup)(h:∀q∈ksC cs,q∈oo):cs.length<=oo.length:=by
 have:=nd.length_le_of_subset h
 rwa [ie] at this
def Yst.yg{p:Int}{oo:Ξ}{cs:Ch}{y:List Int}{t:Nat}(h:Yst oo cs y t)(O:fj oo)(hc:ChP p cs)(hp:0<p):Bar.Yg p (aX oo cs) t:=HP O hc hp h.1 h.2.1 h.2.2
def Il{cs:Ch}(h:¬cs.length=0):cs≠[]:=fun z=>h (by rw[z];rfl)
section
variable{P:Program}{w:World}{K:Ae}{mg:Str->Option Value}{base:Heap}{f:Addr}{fd:FuncData}{Pt:Addr}
structure WIn(Pt:Addr)(H:Hp)(R T:Addr)(L:List RA)(oo:Ξ)(p:Int)(t:Nat):Prop where
 hR:H R=some (.dK (eh L))
 rw:∀r∈L,RwAt H r
 hT:Rd H T (.dT (kvC (cB oo)))
 O:fj oo
 few:oo.length<=200
 pr:Bar.Pr p
 p7:p<=7
 pap:dc p oo t (bW L)
 tb:TY Pt H
def WIn.sf{H H':Hp}{R T:Addr}{L:List RA}{oo:Ξ}{p:Int}{t:Nat}(x:WIn Pt H R T L oo p t)(s:SY Pt H H'):WIn Pt H' R T L oo p t:=
 ⟨s.dK x.hR,fun r hr=>(x.rw r hr).sf s,s.rd x.hT,x.O,x.few,x.pr,x.p7,x.pap,s.tab x.tb⟩
def Im(Pt:Addr):Sp:=fun vs H Q _=>∃a R T L q oo t p,vs=[.ref a,.ref R,.ref T,.int p]/\Tp H a q/\WIn Pt H R T L oo p t/\oo[t]?=some q/\
 ∀u c g left fill H',SY Pt H H'->H c=none->H g=none->c≠g->H u=none->H' u=some (.tup [.ref c,.ref g])->Rd H' c (.dT (kvC left))->Rd H' g (.dT (kvC fill))->Wk p oo t q left fill->
  (left=[]\/∃y e,Yst oo left y e/\∃r∈L,r.x.b=e/\r.x.d=none)->Q (.ref u) H'
noncomputable abbrev OL:List Str:=["piece","rows","times","prime","filling","left","young","row","often"]
def jV:zp OL ["piece","rows","times","prime"] (zi Ea):=⟨rfl,rfl,rfl,δ,rfl,δ,δ⟩
def OM(F:Fun K "worked_off" "worked_off" Ea f fd)(B:Bt mg)(Cm:Cl P w K mg base aR "seam_of" ["chain"] 3 Dw)(Ct:Cl P w K mg base aR "taken_by" ["chain","prime"] 2 (vL Pt))(Cy:Cl P w K mg base aR "youngest_of" ["chain","times"] 4 (vD Pt))(Ci:Cl P w K mg base aR "times_into" ["weight","goal","prime"] 1 Ie)(fI:Cl P w K mg base aR "less_by" ["chain","often","other","prime"] 3 (Ih Pt)):FnOk P w K mg base aR 5 f fd ["piece","rows","times","prime"] (Im Pt):=by
 refine F.ok jV (fun vs H Q E h=>?_) (fun ar A outer s H vs Q E hr h=>?_)
 ·obtain⟨a,R,T,L,q,oo,t,p,rfl,_⟩:=h;rfl
 ·obtain⟨a,R,T,L,q,oo,t,p,rfl,ha,I,hq,k⟩:=h
  have hu:=eG hr;have h2:=I.pr.two;have h7:=I.p7;have lG:=Ai hq;refine⟨_,ze (zt (i:=4) jV.nd rfl (Or.inl rfl) (Od hu (pv 0) zf))
   (ze (zt (i:=5) jV.nd rfl (Or.inl rfl) (zE Ct hr rfl ak (zc (zE Cm hr rfl ak (zc (pv 4) zd)) (zc (pv 3) zd))))
   (ze (EU AL (zn nW (zl u3 rfl B.len dv (zc (pv 5) zd)) zf (al _))
    (ze (zt (i:=6) jV.nd rfl (Or.inl rfl) (zE Cy hr rfl ak (zc (pv 5) (zc (pv 2) zd))))
    (ze (zt (i:=7) jV.nd rfl (Or.inl rfl) (zR hu (pv 1) (zR hu (pv 2) (pv 6) (fun _ _=>rfl)) (fun _ _=>rfl)))
    (ze (zQ (zn iH (zA zv (pv 7) zf (fun _ _=>rfl)) ek (al _)) (zg JJ) zr)
    (ze (zt (i:=8) jV.nd rfl (Or.inl rfl) (zE Ci hr rfl ak (zc (zR hu (zA zv (pv 7) zf (fun _ _=>rfl)) (pv 6) (fun _ _=>rfl)) (zc (zR hu (pv 5) (pv 6) (fun _ _=>rfl)) (zc (pv 3) zd)))))
    (ze (zt (i:=5) jV.nd rfl (Or.inl rfl) (zE fI hr rfl ak (zc (pv 5) (zc (pv 8) (zc (zA zv (pv 7) zf (fun _ _=>rfl)) (zc (pv 3) zd))))))
    (zg (zt (i:=4) jV.nd rfl (Or.inl rfl) (zE fI hr rfl ak (zc (pv 4) (zc (pv 8) (zc (zA zv (pv 7) zf (fun _ _=>rfl)) (zc (pv 3) zd)))))))))))))
   (zg (zm (ei (zc (pv 5) (zc (pv 4) zd))))))),?_⟩
  intro U ge;have uQ:=Same.new (o:=.dT []) ge;refine⟨_,rfl,a,q.map Sum.inl,.int 1,rfl,ae,by rw[Am];exact uQ.tp ha,?_⟩;rw[JC];have s1:=Same.new (o:=.dT [((q.map Sum.inl:List Key),V.int 1)]) ge;have i_:upd H U (.dT [((q.map Sum.inl:List Key),V.int 1)]) U=some (.dT (kvC [(q,1)])):=ae;generalize upd H U (.dT [((q.map Sum.inl:List Key),V.int 1)])=H1 at s1 i_;refine⟨_,rfl,U,[(q,1)],rfl,.inl i_,by simp[ksC],by simp,fun c hc=>by rw[Ql.mp hc];exact I.O.le q lG,fun M H2 eZ kf qQ nF=>?_⟩;have f2:SY Pt H H2:=(Same.sf s1).trans (D6 eZ (.inl i_) kf);have i3:(uc [(q,(1:Int))]).length<=1000:=by
   refine AA (Ds _) ?_;have:=t7 (cs:=[(q,(1:Int))]) fun c hc=>by rw[Ql.mp hc];exact I.O.le q lG
   simp at this ⊢;omega
  refine⟨_,rfl,M,_,p,rfl,.inl nF,zP _,i3,ω,fun c0 H3 f3 jX x8=>?_⟩;have yQ:=f2.trans f3;refine⟨fun m σ G=>∃(left fill:Ch)(c g:Addr)(J N C:Option V),σ=[some (.ref a),some (.ref R),some (.ref T),some (.int p),some (.ref g),some (.ref c),J,N,C]/\SY Pt H G/\H c=none/\H g=none/\c≠g/\Rd G c (.dT (kvC left))/\Rd G g (.dT (kvC fill))/\Wk p oo t q left fill/\Bar.Bl p (aX oo left) m,
   ⟨t,_,_,c0,U,none,none,none,rfl,yQ,f2.dom jX,ge,fun z=>?_,.inl x8,f3.rd kf,HR I.O h2 hq,(HR I.O h2 hq).wo.bl⟩,?_⟩
  ·subst z
   obtain⟨o,eo⟩:=nk kf;rw[jX] at eo;cases eo
  ·rintro m σ G ⟨left,fill,c,g,J,N,C,rfl,f4,hc,hg,n5,Y,rg,W,bl⟩
   have fin:∀(J N C:Option V)(j:Hp),SY Pt G j->(left=[]\/∃y t0,Yst oo left y t0/\∃r∈L,r.x.b=t0/\r.x.d=none)->c7 (zJ (ax 5) (zJ (ax 4) br)) [some (.ref a),some (.ref R),some (.ref T),some (.int p),some (.ref g),some (.ref c),J,N,C] j Q:=by
    intro J N C j v hw;have S:=f4.trans v;refine⟨_,rfl,_,rfl,zh (by simp),fun u fX=>?_⟩;have X:=Same.new (o:=.tup [.ref c,.ref g]) fX;exact k u c g left fill _ (S.trans (Same.sf X)) hc hg n5 (S.dom fX) ae ((v.rd Y).same X) ((v.rd rg).same X) W hw
   refine⟨_,rfl,c,kvC left,rfl,Y,_,_,rfl,rfl,_,rfl,?_⟩;rw[zK]
   by_cases hl:left.length=0
   ·have df:left=[]:=Rb hl
    rw[Tk ω];exact aC (fin J N C G (SF.refl G) (.inl df))
   rw[Tj ω];have I4:=I.sf f4;refine bd ⟨_,fun am H' h=>h,?_⟩;refine⟨_,rfl,_,rfl,c,T,left,oo,rfl,Y,I4.hT,I.O.nd,Il hl,fun z hz=>(W.li z hz).1,I4.tb,fun b y t0 j v hb hy=>?_⟩;have S:=f4.trans v;have I5:=I4.sf v;have iZ:=hy.yg I.O W.l ω;obtain⟨x,hx,ex⟩:=NX I.pr I.O I.pap W iZ;obtain⟨r,hr',rfl⟩:=Qj.mp hx;subst ex;have gT:DGet j T (.ref b) (some (.int r.x.b)):=.inr ⟨kvC (cB oo),y.map Sum.inl,b,I5.hT,rfl,by rw[Am];exact hb,(lu I.O.nd hy.2.1).symm⟩;have hnd:((bW L).map (·.b)).Nodup:=I.pap.srt.imp fun h=>ω
   have gR:DGet j R (.int r.x.b) (some (.ref r.t)):=by
    have:=DGet.k (k:=Sum.inl (r.x.b:Int)) I5.hR
    rwa [Eb hnd hr'] at this
   refine⟨_,rfl,_,rfl,_,rfl,T,_,rfl,gT,R,_,rfl,gR,?_⟩;obtain⟨p_,h5⟩:=I5.rw r hr';have D:=I.pap.ok r.x hx;obtain⟨y',ey,rX⟩:=uP I.pap hx;rw[hy.2.1] at ey;cases ey;rcases h5 with ⟨ed,ht⟩|⟨e,ed,yP,ht⟩
   ·refine⟨_,rfl,r.t,_,2,.non,rfl,rfl,SqT.of ht,rfl,rfl,_,rfl,bd ?_⟩
    exact fin _ _ C j v (.inr ⟨y,_,hy,r,hr',rfl,ed⟩)
   ·refine⟨_,rfl,r.t,_,2,.int e,rfl,rfl,SqT.of ht,rfl,rfl,_,rfl,aC ?_⟩
    obtain⟨lU,dG⟩:=D.g e ed;have sj:j b=some (.tup ((y.map Sum.inl:List Key).map kV)):=by rw[Am];exact hb
    have g1:DGet j r.c (.ref b) (some (.int (aK r.x.c y))):=by
     obtain⟨cc,eJ,rfl⟩:=Qj.mp rX;refine .inr ⟨kvC r.x.c,cc.1.map Sum.inl,b,p_,rfl,sj,?_⟩;rw[gD D.c.nd cc eJ,i9 D.c.nd cc eJ]
    have g2:DGet j c (.ref b) (some (.int (aK left y))):=by
     obtain⟨cc,eJ,e3⟩:=Qj.mp hy.1;subst e3;refine .inr ⟨kvC left,cc.1.map Sum.inl,b,v.rd Y,rfl,sj,?_⟩;rw[gD W.l.nd cc eJ,i9 W.l.nd cc eJ]
    have pR:=D.c.at rX;refine⟨_,rfl,r.t,_,3,.ref r.c,rfl,rfl,SqT.of ht,rfl,_,rfl,r.c,_,rfl,g1,_,rfl,_,rfl,c,_,rfl,g2,_,rfl,_,_,p,rfl,ω,h2,ω,I.pr.into _ _ (fun z=>by have:=S6 ω z;omega),fun kk H6 k0 k1 kd X=>?_⟩;have ja:SY Pt j H6:=Same.sf X;have lc:left.length<=200:=AA (gF W.l.nd fun z hz=>(W.li z hz).1) I.few;have lr:r.x.c.length<=200:=AA (gF D.c.nd fun z hz=>(D.ci z hz).1) I.few;have lf:fill.length<=200:=AA (gF W.f.nd fun z hz=>(W.fi z hz).1) I.few;have lg:r.x.g.length<=200:=AA (gF lU.nd fun z hz=>(dG z hz).1) I.few;refine⟨_,rfl,_,rfl,_,rfl,r.t,_,3,.ref r.c,rfl,rfl,SqT.of (ja.tup ht),rfl,_,rfl,c,r.c,left,r.x.c,kk,p,rfl,ja.rd (v.rd Y),ja.rd p_,W.l.nd,D.c.nd,lc,lr,ω,ω,fun c' H7 f7 oj qd=>?_⟩;have jb:=ja.trans f7;refine⟨_,rfl,_,rfl,_,rfl,r.t,_,4,.ref r.g,rfl,rfl,SqT.of (jb.tup ht),rfl,_,rfl,g,r.g,fill,r.x.g,kk,p,rfl,jb.rd (v.rd rg),jb.rd yP,W.f.nd,lU.nd,lf,lg,ω,ω,fun g' H8 f8 gc kJ=>?_⟩;have xW:=(S.trans jb).trans f8;obtain⟨W',uv⟩:=NY ω I.pap W hx ed iZ hy.2.1 hy.1 kd;refine⟨r.x.b,?_,_,_,c',g',_,_,_,rfl,xW,(S.trans ja).dom oj,(S.trans jb).dom gc,fun z=>?_,f8.rd (.inl qd),.inl kJ,W',uv⟩
    ·refine Nat.lt_of_not_le fun z=>iZ.1 (bl _ z)
    ·subst z
     rw[qd] at gc;cases gc
end
end K64
end
section
namespace L2
open PySem PySem.Spec PyProof.Rows
def Io{H:Hp}{b:Addr}{k a:List (List Key×V)}(e:Rd H b (.dT k))(r:Rd H b (.dT a)):k=a:=by
 rcases e with e|⟨c,e⟩<;>rcases r with r|⟨d,r⟩<;>rw[e] at r<;>cases r<;>rfl
def SF.many{P:Addr}{pos:Pos}{q:Str}{H H1:Hp}(h:∀b,H1 b=H b\/∃kvs,Rd H b (.dT kvs)/\Rd H1 b (.dT kvs)):SF P pos q H H1:=by
 have nd:∀{b:Addr}{u:HO},H b=some u->(∀k,u≠.dT k)->(∀ob k,u≠.frz ob (.dT k))->H1 b=some u:=fun{b u} e n1 n2=>by
  rcases h b with z|⟨k,r,_⟩
  ·rw[z];exact e
  ·rcases r with r|⟨ob,r⟩
   ·exact absurd (Al (e.symm.trans r)) (n1 _)
   ·exact absurd (Al (e.symm.trans r)) (n2 _ _)
 refine⟨fun b u n e=>nd e n.d n.z,fun{b k} e=>?_,fun{b} e=>?_,fun t=>?_⟩
 ·rcases h b with z|⟨g,r,a⟩
  ·unfold Rd;rw[z];exact e
  ·rw[Io e r];exact a
 ·rcases h b with z|⟨g,r,a⟩
  ·rw[<-z];exact e
  ·obtain⟨u,f⟩:=nk a
   rw[e] at f;cases f
 ·rcases t with e|⟨c,e,i,vs,j,e2,r⟩
  ·exact .inl (nd e (fun _ z=>nomatch z) (fun _ _ z=>nomatch z))
  ·exact .inr ⟨c,nd e (fun _ z=>nomatch z) (fun _ _ z=>nomatch z),i,vs,j,nd e2 (fun _ z=>nomatch z) (fun _ _ z=>nomatch z),r⟩
section
variable{X:Cx}{aa:Ψ}{σ:St}{H:Hp}{s:Shared}
def Inv.thaws(I:Inv X aa σ H s):∀as:List Addr,(∀a∈as,X.H₀ a=none/\∃kvs,Rd H a (.dT kvs))->∃H2,Inv X aa σ H2 s/\(∀b,b∉as->H2 b=H b)/\∀a∈as,∀kvs,Rd H a (.dT kvs)->H2 a=some (.dT kvs)
 |[],_=>⟨H,I,fun _ _=>rfl,fun a ha=>nomatch ha⟩
 |a::as,h=>by
  obtain⟨H2,I2,e,f⟩:=I.thaws as fun b hb=>h b (.tail _ hb)
  by_cases m:a∈as
  ·exact⟨H2,I2,fun b hb=>e b fun z=>hb (.tail _ z),fun b hb=>by
    rcases Qk.mp hb with rfl|hb'
    ·exact f b m
    ·exact f b hb'⟩
  ·obtain⟨i,kvs,r⟩:=h a (.head _)
   have e2:=e a m;have d:Rd H2 a (.dT kvs):=by unfold Rd;rw[e2];exact r
   have fin:∀H3:Hp,Inv X aa σ H3 s->H3 a=some (.dT kvs)->(∀b,b≠a->H3 b=H2 b)->∃H2,Inv X aa σ H2 s/\(∀b,b∉a::as->H2 b=H b)/\∀c∈a::as,∀kvs,Rd H c (.dT kvs)->H2 c=some (.dT kvs):=fun H3 j e3 g=>by
    refine⟨H3,j,fun b hb=>?_,fun c hc k rk=>?_⟩
    ·rw[Qk,not_or] at hb
     rw[g b hb.1];exact e b hb.2
    ·by_cases z:c=a
     ·subst z;rw[Io rk r];exact e3
     ·rw[g c z];exact f c ((Qk.mp hc).resolve_left z) k rk
   rcases d with d|⟨ob,d⟩
   ·exact fin H2 I2 d fun _ _=>rfl
   ·exact fin _ (I2.thaw i d) ae fun b hb=>ah hb
def ON(c:Hp)(t:TE):TE:=fun σ H Q=>t σ H fun x H1=>∃as:List Addr,(∀a∈as,c a=none/\∃kvs,Rd H1 a (.dT kvs))/\∀H2,(∀b,b∉as->H2 b=H1 b)->(∀a∈as,∀kvs,Rd H1 a (.dT kvs)->H2 a=some (.dT kvs))->Q x H2
def Ip{e:Expr}{t:TE}(h:PE X e t):PE X e (ON X.H₀ t):=by
 intro aa s σ H Q I q;refine ba (h aa s σ H _ I q) fun v g ⟨x,H1,I1,a,as,ha,k⟩=>?_;obtain⟨H2,f,c,d⟩:=I1.thaws as ha;exact⟨x,H2,f,a,k H2 c d⟩
def Iq{P:Addr}{pos:Pos}{q:Str}{H1 H2:Hp}{as:List Addr}(h1:∀a∈as,∃kvs,Rd H1 a (.dT kvs))(c:∀b,b∉as->H2 b=H1 b)(d:∀a∈as,∀kvs,Rd H1 a (.dT kvs)->H2 a=some (.dT kvs)):SF P pos q H1 H2:=
 SF.many fun b=>by
  by_cases m:b∈as
  ·obtain⟨k,r⟩:=h1 b m
   exact .inr ⟨k,r,.inl (d b m k r)⟩
  ·exact .inl (c b m)
end
end L2
end
section
namespace bM
open PySem PyProof.Rows PySem.W
end bM
namespace L2
open PySem PySem.Spec PyProof.Rows
section
variable{X:Cx}{aa:Ψ}{σ:St}{H:Hp}{s:Shared}
def OO:cD X (A2 .IsNot) (fun x y H Q=>∃a b:Bool,x=.bl a/\y=.bl b/\Q (.bl (a != b)) H):=by
 intro aa s σ H x y v u Q I c d h;obtain⟨a,b,rfl,rfl,q⟩:=h;cases c;cases d;exact isnot_bool (aH I q rfl)
end
end L2
end
section
namespace STb
open PySem PySem.SetTable PyProof.Rows bM PySem.W
section
variable{prog:Program}{w:World}{A:Around}{E:Ω}{s:Shared}{S:Addr}
def OP{T:String}{r d:Addr}{n:Nat}{P:Nat->Value->Prop}{j:Heap->Prop}{R:List Value->Shared->Prop}(K:KdlSrc prog w T r d n P j)(l:A.handled=none)(i:j s.heap)(p:n<=sizeLine)(h:∀(h':Heap)(tk:Nat)(acc:Array Value),s⁻¹<=h'.objs.size->(∀b o,s.heap.get? b=some o->h'.get? b=some o)->ItemsOf P acc n->R acc.toList {s with heap:=h',toks:=tk}):wpAny (model prog w) A (collect (.ref r)) R E s:=by
 obtain⟨hr,hd⟩:=K.there _ i;unfold collect;refine Aa (wpAny_runValue (Bh entry_proto_collect' ?_));rw[A4 PySem.F.plain_proto_collect _];show wpAny _ A.in1 (do again (.builtin "list.__iadd__" ⟨[<-newList [],.ref r],[]⟩)) _ _ s;refine Aa (AI (Ac ⟨plainId_quiet PySem.F.plain_list_iadd _,Bh entry_list_iadd' ?_⟩));rw[A4 PySem.F.plain_list_iadd _];show wpAny _ A.in1 (Builtin.List.listExtendWith (.ref s⁻¹) (.ref r) (.ref s⁻¹)) _ _ _;have fin:∀(h':Heap)(tk:Nat)(acc:Array Value)(c:Nat),(∀b o,s.heap.get? b=some o->h'.get? b=some o)->h'.get? s⁻¹=some {cls:=.type "list",dict:=none,data:=.seq acc c,slots:=#[]}->ItemsOf P acc n->
   wpAny (model prog w) A (do match (<-load s⁻¹).data with
    |.seq xs _=>pure xs.toList
    |_=>unsupported "internal:collect") R E {s with heap:=h',toks:=tk}:=fun h' tk acc c hk a g=>Aa (wpAny_load a (Ac (h h' tk acc (Q5 (Aq a)) hk g)))
 refine wpAny_mono (kdl_extend (A:=A) (s:={s with heap:=s.heap.push {cls:=.type "list",data:=.seq ([]:List Value).toArray}})
  (R:=fun q s'=>∃h' tk acc c,q=Except.ok (Flow.ret (.ref s⁻¹))/\s'={s with heap:=h',toks:=tk}/\(∀b o,s.heap.get? b=some o->h'.get? b=some o)/\h'.get? s⁻¹=some {cls:=.type "list",dict:=none,data:=.seq acc c,slots:=#[]}/\ItemsOf P acc n)
  K l (K.keep _ _ i fun b _ o e=>Ad _ e) s⁻¹ (A3 hr) (A3 hd) (.ref s⁻¹) 0 (Ak _ rfl)
  (fun h' tk acc c hk a g=>⟨h',tk,acc,c,rfl,rfl,fun b o e=>hk b o (Au (Aq e)) (Ad _ e),a,g⟩) p) (fun f s' x=>?_) fun e s' x=>?_
 ·cases f with
  |done f=>
   obtain⟨h',tk,acc,c,e,rfl,hk,a,g⟩:=x;cases e;exact fin h' tk acc c hk a g
  |again fB=>
   refine⟨x.1,codeAny_mono x.2 fun q u y=>?_⟩;obtain⟨h',tk,acc,c,rfl,rfl,hk,a,g⟩:=y;exact fin h' tk acc c hk a g
 ·obtain⟨_,_,_,_,e',_⟩:=x
  cases e'
end
end STb
namespace L2
open PySem PySem.Spec PyProof.Rows
section
variable{X:Cx}
def OS{ns:List Int}{af:List Value}{out:List Value}(hi:IntsAre af ns)(d:bM.Out (ns.map fun n=>[n]) af out):∃c:List Int,Vals (c.map V.int) out/\c.Perm ns/\c.Pairwise (·<=·):=by
 obtain⟨ps,hp,d,j⟩:=d;have f:af.length=ns.length:=hi.length;have all:∀p∈ps,∃n t,p.1=[n]/\p.2=Value.int n t:=fun p g=>by
  obtain⟨i,e⟩:=Qn.mp (hp.mem_iff.mp g);rw[bM.cG,Ag] at e;cases e1:ns[i]? with
  |none=>rw[e1] at e;simp at e
  |some n=>
   obtain⟨t,e2⟩:=hi.get i n e1;rw[e1,e2] at e;simp only[AQ,Option.bind_some,AW] at e;subst e;exact⟨n,t,rfl,rfl⟩
 have o:∀ps:List (List Int×Value),(∀p∈ps,∃n t,p.1=[n]/\p.2=Value.int n t)->Vals ((ps.map fun p=>p.1.headD 0).map V.int) (ps.map (·.2)):=by
  intro ps
  induction ps with
  |nil=>intro _;exact .nil
  |cons p ps ih=>
   intro h;obtain⟨n,t,e1,e2⟩:=h p Ay;refine .cons ?_ (ih fun q hq=>h q (Aw _ hq));show RelV (V.int (p.1.headD 0)) p.2;rw[e1,e2];exact⟨t,rfl⟩
 refine⟨ps.map fun p=>p.1.headD 0,by rw[d];exact o ps all,?_,?_⟩
 ·have h1:=hp.map (fun p:List Int×Value=>p.1.headD 0)
  have e:((ns.map fun n=>[n]).zip af).map (fun p:List Int×Value=>p.1.headD 0)=ns:=by
   rw[show(fun p:List Int×Value=>p.1.headD 0)=(fun l:List Int=>l.headD 0) ∘ Prod.fst from rfl,<-Am,SB (by rw[Ab];lia),Am];exact SL ns
  rw[e] at h1;exact h1
 ·rw[AX]
  refine j.imp_of_mem fun{p q} h1 h2 a=>?_;obtain⟨n,t,e1,_⟩:=all p h1;obtain⟨m,t',e2,_⟩:=all q h2;rw[e1,e2,HT.zM] at a;rw[e1,e2];show n<=m
  by_cases e:m=n
  ·lia
  ·rw[Ti e] at a
   have:=of_decide_eq_false a
   lia
end
end L2
end
section
namespace STb
open PySem PySem.SetTable PyProof.Rows bM PySem.W
section
variable{prog:Program}{w:World}{A:Around}{E:Ω}{s:Shared}
def OT{T:String}{r d:Addr}{n:Nat}{P:Nat->Value->Prop}{i:Heap->Prop}{ns:List Int}{Q:Ω}(K:KdlSrc prog w T r d n P i)(q:A.handled=none)(c:i s.heap)(u:n<1000)(hi:∀acc:Array Value,ItemsOf P acc n->IntsAre acc.toList ns)(h:∀(D:Addr)(h':Heap)(tk e:Nat)(af:List Value)(out:Array Value),s⁻¹<=D->(∀b o,s.heap.get? b=some o->h'.get? b=some o)->h'.get? D=some (seqObj "list" out e)->IntsAre af ns->Out (ns.map fun n=>[n]) af out.toList->Q (.ref D) {s with heap:=h',toks:=tk}):wpAny (model prog w) A (call (.builtin "sorted") [.ref r]) Q E s:=by
 refine Calls.call_function_entry kind_sorted plain_sorted entry_sorted (args_sorted1 _) ?_;unfold Builtin.«sorted»;refine Aa (m:=checkCount "sorted" 1 1 _) (Ac ?_);refine Aa (OP (A:=A.in1) K q c (by rw[sizeLine_eq];omega) fun h' tk acc j hk f=>?_);have hi:=hi acc f;have g:acc.toList.length=n:=by rw[AE];exact f.1
 refine Aa (wpAny_newList ?_ (by rw[g,sizeLine_eq];omega));have a:(h'.push (seqObj "list" acc.toList.toArray 0)).get? h'.objs.size=some (seqObj "list" acc.toList.toArray 0):=Ak _ rfl;refine Aa (AU (AK slot_list_sort ⟨_,a,rfl⟩ entry_list_sort (F' (s:={s with heap:=h'.push (seqObj "list" acc.toList.toArray 0),toks:=tk}) (good:=fun _=>True) a (F5 hi) (fun _ _=>trivial) (by rw[g,sizeLine_eq];omega) ω fun out l=>⟨_,rfl,?_⟩) (args_list_sort _)));obtain⟨e,p⟩:=sortedHeap_at (out:=out) a;refine Ac ⟨_,rfl,h h'.objs.size _ tk e acc.toList out j (fun b o e=>?_) p hi l⟩;have hb:b<h'.objs.size:=Aq (hk b o e);rw[sortedHeap_old (Au hb) (by rw[size_push'];exact Bb hb)];exact Ad _ (hk b o e)
end
end STb
namespace L2
open PySem PySem.Spec PyProof.Rows
section
variable{X:Cx}
noncomputable abbrev dZ(ps:List (Int×V)):HO:=.dK (ps.map fun p=>(Sum.inl p.1,p.2))
def ints_of{ps:List (Int×V)}:∀{m:List (Key×Value)}{as:List Value},KV (ps.map fun p=>((Sum.inl p.1:Key),p.2)) m->as.length=m.length->(∀(i:Nat) v,as[i]?=some v->∃k x,m[i]?=some (k,x)/\(zB X.prog X.w).is k v=true)->IntsAre as (ps.map (·.1)):=by
 induction ps with
 |nil=>
  intro m as q h1 _;cases q;cases as with
  |nil=>exact .nil
  |cons _ _=>simp at h1
 |cons p ps ih=>
  intro m as q h1 h2;cases q with
  |@cons _ q' _ qs hq t=>
   cases as with
   |nil=>simp at h1
   |cons v as=>
    obtain⟨k,x,g1,g2⟩:=h2 0 v rfl;simp only[List.getElem?_cons_zero,AW] at g1;have hk:(Sum.inl p.1:Key)=k:=by rw[g1] at hq;exact hq.1
    subst hk;obtain⟨t',e2⟩:∃t',v=Value.int p.1 t':=Gh g2;subst e2;exact .cons _ _ (ih t (by simpa using h1) fun i v e=>by simpa using h2 (i+1) v (by simpa using e))
def OU(hc:X.calm=true):da X (.builtin "sorted") (fun xs H Q=>∃a ps,xs=[.ref a]/\H a=some (dZ ps)/\ps.length<1000/\∀(D:Addr)(d:List Int),d.Perm (ps.map (·.1))->d.Pairwise (·<=·)->H D=none->Q (.ref D) (upd H D (.lst (d.map V.int)))):=by
 intro aa s σ H xs us Q I r h;obtain⟨a,ps,rfl,hq,hz,q⟩:=h;obtain⟨u,rfl,x⟩:=vals1 r;cases x;obtain⟨z,y,vs,c,dd⟩:=Cf I.hok hq;obtain⟨ep,dd⟩:=dd.dictAt;have E:ps.length=vs.length:=by simpa using c.length
 refine STb.OT (ns:=ps.map (·.1)) (PySem.W.kdl_dict (knd:=zB X.prog X.w) (kvs:=vs) (ep:=ep) y) (I.ok.hd hc) dd ω (fun acc it=>ints_of (X:=X) c (by simpa using it.1) fun i v e=>it.2 i v (by simpa using e)) fun D h' tk e af out f j l hi p=>?_;obtain⟨ks,A,g,C⟩:=OS hi p;have hk:ks.length=ps.length:=by simpa using g.length_eq
 refine⟨.ref D,_,I.laid (o:=.lst (ks.map V.int)) (fun b u e=>j b u e) f (show zC X.prog X.w _ _ _ (.lst (ks.map V.int)) from⟨by rw[Ab,sizeLine_eq];omega,out.toList,e,A,by simpa using l⟩),rfl,q _ _ g C (I.hok.fresh f)⟩
end
end L2
end
section
namespace K64
open K1
open PySem L2 STb
noncomputable abbrev Ec:Stmt:=top 20
noncomputable abbrev vW:Stmt:=top 21
noncomputable def di(L:List RA)(x:RA):List RA:=L.map fun y=>if y.x.b=x.x.b then x else y
def OV(L:List RA)(x:RA):bW (di L x)=fG (bW L) x.x:=by
 unfold bW di fG;rw[Am,Am];refine Ax fun y _=>?_;show(if y.x.b=x.x.b then x else y).x=if y.x.b=x.x.b then x.x else y.x;split<;>rfl
def OW{L:List RA}{b:Nat}{t:Addr}(h:∀r∈L,r.x.b≠b):putK (eh L) (Sum.inl (b:Int)) (.ref t)=eh L++[(Sum.inl (b:Int),.ref t)]:=by
 unfold putK;rw[Ti];intro z;obtain⟨kv,hk,e⟩:=Rw.mp z;obtain⟨r,hr,rfl⟩:=Qj.mp hk;have e:=Tl e;have:(r.x.b:Int)=b:=by injection e
 exact h r hr ω
def OX{L:List RA}{x:RA}(h:∃r∈L,r.x.b=x.x.b):putK (eh L) (Sum.inl (x.x.b:Int)) (.ref x.t)=eh (di L x):=by
 obtain⟨r,hr,e⟩:=h;unfold putK;have ha:((eh L).any fun kv=>decide (kv.1=(Sum.inl (x.x.b:Int):Key)))=true:=Rw.mpr ⟨_,Qj.mpr ⟨r,hr,rfl⟩,Tj (by show(Sum.inl (r.x.b:Int):Key)=_;rw[e])⟩;rw[Th ha];unfold eh di;rw[Am,Am];refine Ax fun y _=>?_;show(if(Sum.inl (y.x.b:Int):Key)=Sum.inl (x.x.b:Int) then((Sum.inl (y.x.b:Int):Key),V.ref x.t) else(Sum.inl (y.x.b:Int),V.ref y.t))=(Sum.inl ((if y.x.b=x.x.b then x else y).x.b:Int),V.ref (if y.x.b=x.x.b then x else y).t)
 by_cases z:y.x.b=x.x.b
 ·rw[Th (by rw[z]),Th z,z]
 ·have hq:¬(Sum.inl (y.x.b:Int):Key)=Sum.inl (x.x.b:Int):=fun q=>z (Int.ofNat.inj (Sum.inl.inj q))
  rw[Ti hq,Ti z]
noncomputable def dcs(r:RA):List Addr:=match r.x.d with
 |none=>[r.c]
 |some _=>[r.c,r.g]
def v1{H:Hp}{r:RA}(h:RwAt H r){a:Addr}(ha:a∈dcs r):∃kvs,Rd H a (.dT kvs):=by
 obtain⟨h1,h2⟩:=h;unfold dcs at ha;rcases h2 with ⟨e,_⟩|⟨e,e1,c,_⟩
 ·rw[e] at ha
  rw[Ql.mp ha];exact⟨_,h1⟩
 ·rw[e1] at ha
  rcases Qk.mp ha with rfl|ha
  ·exact⟨_,h1⟩
  ·rw[Ql.mp ha];exact⟨_,c⟩
structure Apt(H:Hp)(L:List RA):Prop where
 nd:(L.flatMap dcs).Nodup
 new:∀a∈L.flatMap dcs,H a=none
def Apt.snoc{H:Hp}{L:List RA}{r:RA}(h:Apt H L)(n1:(dcs r).Nodup)(n2:∀a∈dcs r,H a=none)(c:∀a∈dcs r,a∉L.flatMap dcs):Apt H (L++[r]):=by
 have e:(L++[r]).flatMap dcs=L.flatMap dcs++dcs r:=by rw[R5];simp
 refine⟨?_,fun a ha=>?_⟩
 ·rw[e,Bj]
  exact⟨h.nd,n1,fun a ha b hb z=>c b hb (z▸ha)⟩
 ·rw[e] at ha
  rcases Qm.mp ha with ha|ha
  ·exact h.new a ha
  ·exact n2 a ha
def put_dcs{L:List RA}{x:RA}{a:Addr}(h:a∈(di L x).flatMap dcs):a∈L.flatMap dcs\/a∈dcs x:=by
 obtain⟨y,hy,ha⟩:=Qo.mp h;obtain⟨z,hz,rfl⟩:=Qj.mp hy
 by_cases e:z.x.b=x.x.b
 ·rw[Th e] at ha;exact .inr ha
 ·rw[Ti e] at ha;exact .inl (Qo.mpr ⟨z,hz,ha⟩)
def Apt.put{H:Hp}{L:List RA}{x:RA}(h:Apt H L)(hb:((bW L).map (·.b)).Nodup)(n1:(dcs x).Nodup)(n2:∀a∈dcs x,H a=none)(i:∀a∈dcs x,a∉L.flatMap dcs):Apt H (di L x):=by
 refine⟨?_,fun a ha=>?_⟩
 ·have d:∀M:List RA,((bW M).map (·.b)).Nodup->(M.flatMap dcs).Nodup->(∀a∈dcs x,a∉M.flatMap dcs)->((di M x).flatMap dcs).Nodup:=by
   intro M
   induction M with
   |nil=>intro _ _ _;exact QH
   |cons y M ih=>
    intro hb c hx;rw[show(bW (y::M)).map (·.b)=y.x.b::(bW M).map (·.b) from rfl,Qp] at hb;rw[Bk,Bj] at c;have hx':∀a∈dcs x,a∉M.flatMap dcs:=fun a ha z=>hx a ha (by rw[Bk];exact AG _ z);have f:=ih hb.2 c.2.1 hx';show(((if y.x.b=x.x.b then x else y)::di M x).flatMap dcs).Nodup;rw[Bk,Bj]
    by_cases e:y.x.b=x.x.b
    ·rw[Th e]
     refine⟨n1,f,fun a ha b hb' z=>?_⟩;subst z;rcases put_dcs hb' with q|q
     ·exact hx' a ha q
     ·have g:di M x=M:=by
       unfold di;refine(Ax fun z hz=>?_).trans (SL _);rw[Ti];intro e2;exact hb.1 (Qj.mpr ⟨z.x,Qj.mpr ⟨z,hz,rfl⟩,ω⟩)
      rw[g] at hb';exact hx' a ha hb'
    ·rw[Ti e]
     refine⟨c.1,f,fun a ha b hb' z=>?_⟩;subst z;rcases put_dcs hb' with q|q
     ·exact c.2.2 a ha a q rfl
     ·exact hx a q (by rw[Bk];exact AR _ ha)
  exact d L hb h.nd i
 ·rcases put_dcs ha with q|q
  ·exact h.new a q
  ·exact n2 a q
def v8{H:Hp}{a R:Addr}{o:HO}{kv:List (Key×V)}{kvs:List (List Key×V)}(h:Rd H a (.dT kvs))(c:H R=some (.dK kv)):Rd (upd H R o) a (.dT kvs):=by
 have ne:a≠R:=fun z=>by
  subst z;rcases h with e|⟨_,e⟩<;>(rw[c] at e;cases e)
 unfold Rd;rw[ah ne];exact h
def v_{H:Hp}{r:RA}{R:Addr}{o:HO}{kv:List (Key×V)}(h:RwAt H r)(a:H R=some (.dK kv)):RwAt (upd H R o) r:=by
 obtain⟨h1,h2⟩:=h;refine⟨v8 h1 a,?_⟩;rcases h2 with ⟨e,h2⟩|⟨e,h2,d,c⟩
 ·exact .inl ⟨e,by rw[ah (aV h2 a (by intro z;cases z))];exact h2⟩
 ·exact .inr ⟨e,h2,v8 d a,by rw[ah (aV c a (by intro z;cases z))];exact c⟩
def wh{l m:List Int}(hp:l.Perm m)(h1:l.Pairwise (·<=·))(h2:m.Pairwise (·<=·)):l=m:=
 List.Perm.eq_of_pairwise (fun a b _ _ g1 g2=>Int.le_antisymm g1 g2) h1 h2 hp
noncomputable def cP(L:List RA):List Int:=L.map fun r=>(r.x.b:Int)
section
variable{P:Program}{w:World}{K:Ae}{mg:Str->Option Value}{base:Heap}{f:Addr}{fd:FuncData}{Pt:Addr}
def OY{H2:Hp}{S R D:Addr}{L:List RA}{Q:VK}(i:SqL K H2 S ((cP L).map V.int))(l:H2 R=some (.dK (eh L)))(nd:((bW L).map (·.b)).Nodup)(hz:L.length<=1000)(f:H2 D=none)(k:∀(H3:Hp),Same H2 H3->H3 D=some (.lst (L.map fun r=>V.ref r.t))->Q (.ref D) H3):zV (dP K S) (zN 0) bT (hE (ax 1) (ax 0)) [none,some (.ref R)] H2 D Q:=by
 have d:((cP L).map V.int).length=L.length:=by unfold cP;rw[Ab,Ab]
 refine zH (xs:=(cP L).map V.int) (fun j σ ys H3=>∃(v:Option V),σ=[v,some (.ref R)]/\Same H2 H3/\H3 D=some (.lst ys)/\ys=(L.map fun r=>V.ref r.t).take j) ?_ ?_ ?_ ?_
 ·exact⟨none,rfl,Same.new f,ae,rfl⟩
 ·rintro j σ ys H3 ⟨v,rfl,sm,a,rfl⟩
  exact sm.seq i
 ·rintro j σ ys H3 x hx h hy ⟨v,rfl,sm,a,rfl⟩
  unfold cP at hx;rw[Am,Ag] at hx;obtain⟨r,c,rfl⟩:=Qr.mp hx;have e:(L.map fun r=>V.ref r.t)[j]?=some (.ref r.t):=by rw[Ag,c];rfl
  have g:DGet H3 R (.int r.x.b) (some (.ref r.t)):=by
   have:=DGet.k (k:=Sum.inl (r.x.b:Int)) (sm _ _ l)
   rwa [Eb nd (Ai c)] at this
  refine b0 ⟨_,rfl,_,rfl,R,_,rfl,g,bz (by rw[d];exact zh ω) h hy a ⟨_,rfl,sm.then f,ae,by rw[AH e]⟩⟩
 ·rintro σ ys H3 ⟨v,rfl,sm,a,rfl⟩
  rw[d,As (by rw[Ab];exact Af _)] at a;exact k H3 sm a
structure fH(p:Int)(oo:Ξ)(H':Hp)(D:Addr)(L:List RA):Prop where
 hD:H' D=some (.lst (L.map fun r=>V.ref r.t))
 rw:∀r∈L,RwAt H' r
 pap:dc p oo oo.length (bW L)
def jW{p:Int}{oo:Ξ}{T:Nat}{L:List RA}(h:dc p oo T (bW L))(hT:T<=oo.length):L.length<=oo.length:=by
 have nd:((bW L).map (·.b)).Nodup:=h.srt.imp fun h=>ω
 have:=nd.length_le_of_subset (l₂:=AD oo.length) fun b hb=>by
  obtain⟨x,hx,rfl⟩:=Qj.mp hb;have:=(gE h hx).born;have this:x.b<T:=this;exact Qv.mpr ω
 rw[QR,Ab,Ab] at this;exact this
def isP(p:Int):Prop:=p=2\/p=3\/p=5\/p=7
def isP.pr{p:Int}(h:isP p):Bar.Pr p/\p<=7:=by
 rcases h with rfl|rfl|rfl|rfl
 ·exact⟨Bar.NC,ξ⟩
 ·exact⟨Bar.ND,ξ⟩
 ·exact⟨Bar.NE,ξ⟩
 ·exact⟨Bar.NF,ξ⟩
def Ed(K:Ae)(Pt:Addr):Sp:=fun vs H Q _=>∃l as oo p,vs=[.ref l,.int p]/\SqL K H l (as.map V.ref)/\Tps H as oo/\cA oo/\oo.length<=200/\isP p/\TY Pt H/\
 ∀D L H',SY Pt H H'->H D=none->fH p oo H' D L->Apt H L->(∀a∈L.flatMap dcs,∃kvs,H' a=some (.dT kvs))->Q (.ref D) H'
noncomputable abbrev Ir:List Str:=["order","prime","times","rows","time","piece","found","born"]
def lv:zp Ir ["order","prime"] (zi vW):=⟨rfl,rfl,rfl,δ,rfl,δ,δ⟩
def OZ(F:Fun K "paper" "paper" vW f fd)(B:Bt mg)(Co:Cl P w K mg base aR "must_be_order" ["order"] 3 (DV K))(Cp:Cl P w K mg base aR "must_be_prime" ["prime"] 1 DW)(Ct:Cl P w K mg base aR "times_of" ["order"] 1 (D_ K))(Cw:Cl P w K mg base aR "worked_off" ["piece","rows","times","prime"] 5 (Im Pt))(Cy:Cl P w K mg base aR "youngest_of" ["chain","times"] 4 (vD Pt)):FnOk P w K mg base aR 6 f fd ["order","prime"] (Ed K Pt):=by
 refine F.ok lv (fun vs H Q E h=>?_) (fun ar A outer s H vs Q E hr h=>?_)
 ·obtain⟨l,as,oo,p,rfl,_⟩:=h;rfl
 ·obtain⟨l,as,oo,p,rfl,hl,ht,ho,ay,hp,tb,k⟩:=h
  have hu:=eG hr;have O:=DK ho;obtain⟨fF,k_⟩:=hp.pr;have h2:=fF.two;have aJ:=ht.length;refine⟨_,ze (fM (zE Co hr rfl ak (zc (pv 0) zd))) (ze (fM (zE Cp hr rfl ak (zc (pv 1) zd)))
   (ze (zt (i:=2) lv.nd rfl (Or.inl rfl) (zE Ct hr rfl ak (zc (pv 0) zd)))
   (ze (zt (i:=3) lv.nd rfl (Or.inr rfl) Fz)
   (ze (d0 AL rfl (oM rfl B.enumerate oX (zc (pv 0) zd)) (jn rfl (zI (zk (i:=4) lv.nd rfl (Or.inl rfl)) (zI (zk (i:=5) lv.nd rfl (Or.inl rfl)) jm)))
    (ze (zt (i:=6) lv.nd rfl (Or.inl rfl) (zE Cw hr rfl ak (zc (pv 5) (zc (pv 3) (zc (pv 2) (zc (pv 1) zd))))))
    (zg (zQ (zn fY (zl u3 rfl B.len dv (zc (zA zv (pv 6) zf (fun _ _=>rfl)) zd)) zf (al _))
     (zg (hF hu (pv 3) (pv 4) (ei (zc (zy lW (zl zo rfl B.len dv (zc (pv 5) zd)) zf) (zc (pv 4) (zc ek (zc (zA zv (pv 6) zf (fun _ _=>rfl)) (zc ek zd)))))) rfl))
     (ze (zt (i:=7) lv.nd rfl (Or.inl rfl) (zR hu (pv 2) (zE Cy hr rfl ak (zc (zA zv (pv 6) zf (fun _ _=>rfl)) (zc (pv 2) zd))) (fun _ _=>rfl)))
     (zg (hF hu (pv 3) (pv 7) (ei (zc (zy lW (zl zo rfl B.len dv (zc (pv 5) zd)) zf) (zc (pv 7) (zc (pv 4) (zc (zA zv (pv 6) zf (fun _ _=>rfl)) (zc (zA zv (pv 6) zf (fun _ _=>rfl)) zd)))))) rfl)))))))
   (zg (zm (Ip (zq Ir ["born","rows"] [none,some 3] (zD (zl (OU rfl) rfl B.sorted mP (zc (pv 3) zd))) (fun _ _ _ _ _=>zk (i:=0) (cz ["born","rows"]) rfl (Or.inl rfl)) (fun _ _ _ _ _=>zF)
    (fun _ _ _ _ _=>zR hu (pv 1) (pv 0) (fun _ _=>rfl)) (hfr:=cx (zi vW) δ) (te:=hE (ax 1) (ax 0)))))))))),?_⟩
  refine⟨_,rfl,l,as,oo,rfl,hl,ht,ay,ho,fun H1 s1=>?_⟩;refine⟨_,rfl,p,rfl,hp,?_⟩;refine⟨_,rfl,l,as,oo,rfl,s1.seq hl,s1.tps ht,O.nd,ay,fun T H2 s2 jh kL R hR=>?_⟩;have jY:=s1.trans s2;have s3:=Same.new (o:=.dK []) hR;have sh:=jY.trans s3;have kB:H R=none:=jY.free hR;refine⟨_,rfl,l,rfl,⟨_,sh.seq hl⟩,CV (K:=K) (a:=l) (xs:=as.map V.ref) (fun i σ M=>∃(v4 v5 v6 v7:Option V)(L:List RA),σ=[some (.ref l),some (.int p),some (.ref T),some (.ref R),v4,v5,v6,v7]/\SY Pt H M/\WIn Pt M R T L oo p i/\Apt H L)
   ⟨none,none,none,none,[],rfl,Same.sf sh,⟨ae,(fun r hr=>nomatch hr),.inl (s3 _ _ kL),O,ay,fF,k_,NW,tb.same sh⟩,⟨QH,(fun a ha=>nomatch ha)⟩⟩ (fun i σ M _ ⟨_,_,_,_,_,_,f,_⟩=>f.seq hl) ?_ ?_⟩
  ·rintro i x pr σ M hx ⟨v4,v5,v6,v7,L,rfl,f4,I4,ap⟩ mH
   obtain⟨a,ea,rfl⟩:=dL hx;obtain⟨q,eq,hq⟩:=ht.get ea;have hi:i<oo.length:=(KK.mp eq).1;have G:=Same.new (o:=.tup [.int i,.ref a]) mH;have U:=f4.trans (Same.sf G);have I5:=I4.sf (Same.sf G);refine⟨pr,_,rfl,SqT.of ae,rfl,_,_,rfl,_,_,rfl,rfl,?_⟩;generalize upd M pr (.tup [.int i,.ref a])=H5 at G U I5;refine⟨_,rfl,_,rfl,_,rfl,_,rfl,a,R,T,L,q,oo,i,p,rfl,U.tp hq,I5,eq,fun u c g left fill H6 f6 jX ge n5 B2 kO mM qF W hw=>?_⟩;have iO:=U.trans f6;have I6:=I5.sf f6;have v:∀b∈L.flatMap dcs,∃o,H5 b=some o:=fun b hb=>by
    obtain⟨r,hr,hb⟩:=Qo.mp hb;obtain⟨kvs,hk⟩:=v1 (I5.rw r hr) hb;exact nk hk
   have cn:c∉L.flatMap dcs:=fun z=>by obtain⟨o,e⟩:=v c z;rw[jX] at e;cases e
   have gn:g∉L.flatMap dcs:=fun z=>by obtain⟨o,e⟩:=v g z;rw[ge] at e;cases e
   refine⟨_,rfl,u,_,0,.ref c,rfl,rfl,SqT.of kO,rfl,c,kvC left,rfl,mM,rfl,_,rfl,?_⟩;rw[zK];have cY:=jW I5.pap (Q5 hi);have fK:(eh L).length<sizeLine:=by unfold eh;rw[Ab];exact zT ω
   have I:((bW L).map (·.b)).Nodup:=I5.pap.srt.imp fun h=>ω
   by_cases hz:left.length=0
   ·have df:left=[]:=Rb hz
    subst df;rw[Tj (by rfl)];refine bd ⟨_,rfl,a,_,rfl,.inr (SqT.of (iO.tp hq)),_,_,rfl,rfl,_,rfl,_,rfl,u,_,1,.ref g,rfl,rfl,SqT.of kO,rfl,zh (by simp),fun t dU=>?_⟩;have X:=Same.new (o:=.tup [.int ((List.map V.int q).length-1),.int i,.non,.ref g,.non]) dU;refine⟨_,rfl,_,rfl,R,_,rfl,DPut.k (k:=Sum.inl (i:Int)) (X _ _ I6.hR) fK,?_⟩;have hb:∀r∈L,r.x.b≠i:=fun r hr=>by
     have:=(gE I5.pap (Qj.mpr ⟨r,hr,rfl⟩)).born;have this:r.x.b<i:=this;omega
    rw[OW hb];have ga:eh L++[((Sum.inl (i:Int):Key),V.ref t)]=eh (L++[⟨⟨(q.length:Int)-1,i,none,fill,[]⟩,t,g,g⟩]):=by unfold eh;rw[Aj];rfl
    have Y:=X _ _ I6.hR;have d:=iO.trans (Same.sf (P:=Pt) (pos:=i') (q:=qY) X);have I7:=I6.sf (Same.sf (P:=Pt) (pos:=i') (q:=qY) X);have pT:=qF.same X;have fR:=ae (H:=H6) (a:=t) (o:=.tup [.int ((List.map V.int q).length-1),.int i,.non,.ref g,.non]);generalize upd H6 t (.tup [.int ((List.map V.int q).length-1),.int i,.non,.ref g,.non])=N at X Y d I7 pT fR;rw[Ab] at fR;refine⟨_,_,_,_,L++[⟨⟨(q.length:Int)-1,i,none,fill,[]⟩,t,g,g⟩],rfl,d.put kB Y,⟨by rw[ae,ga],fun r hr=>?_,v8 I7.hT Y,O,ay,fF,k_,?_,I7.tb.off Y (by intro ps z;cases z) (by intro ob u z;cases z)⟩,ap.snoc (by simp[dcs]) (fun b hb=>?_) (fun b hb=>?_)⟩
    ·rcases Qm.mp hr with hr|hr
     ·exact v_ (I7.rw r hr) Y
     ·rw[Ql.mp hr]
      exact v_ ⟨pT,.inl ⟨rfl,fR⟩⟩ Y
    ·have e:bW (L++[⟨⟨(q.length:Int)-1,i,none,fill,[]⟩,t,g,g⟩])=bW L++[⟨(q.length:Int)-1,i,none,fill,[]⟩]:=by unfold bW;rw[Aj];rfl
     rw[e];exact NZ O I5.pap W
    ·rw[Ql.mp (show b∈[g] from hb)];exact U.dom ge
    ·rw[Ql.mp (show b∈[g] from hb)];exact gn
   ·rw[Tk (fun z=>hz (by injection z with z;omega))]
    rcases hw with hw|⟨y,t0,hy,j,p4,eb,ed⟩
    ·exact absurd (by rw[hw];rfl) hz
    subst eb;refine aC ⟨_,rfl,_,rfl,u,_,0,.ref c,rfl,rfl,SqT.of kO,rfl,_,rfl,c,T,left,oo,rfl,mM,I6.hT,O.nd,Il hz,fun z aL=>(W.li z aL).1,I6.tb,fun b y' B0 N d dz hy'=>?_⟩;have iZ:=hy.yg O W.l ω;have pM:=hy'.yg O W.l ω;have et:=iZ.uniq pM;subst et;have qb:=iO.trans d;have I7:=I6.sf d;have gT:DGet N T (.ref b) (some (.int j.x.b)):=.inr ⟨kvC (cB oo),y'.map Sum.inl,b,I7.hT,rfl,by rw[Am];exact dz,(lu O.nd hy'.2.1).symm⟩;have sR:=d.tup kO;refine⟨T,_,rfl,gT,?_⟩;refine⟨_,rfl,a,_,rfl,.inr (SqT.of (qb.tp hq)),_,_,rfl,rfl,_,rfl,_,rfl,_,rfl,u,_,0,.ref c,rfl,rfl,SqT.of sR,rfl,_,rfl,u,_,1,.ref g,rfl,rfl,SqT.of sR,rfl,zh (by simp),fun t fR=>?_⟩;have s8:=Same.new (o:=.tup [.int ((List.map V.int q).length-2),.int j.x.b,.int i,.ref c,.ref g]) fR;have J:=s8 _ _ I7.hR;have f8:=qb.trans (Same.sf (P:=Pt) (pos:=i') (q:=qY) s8);have I8:=I7.sf (Same.sf (P:=Pt) (pos:=i') (q:=qY) s8);have ql:=(d.rd mM).same s8;have kJ:=(d.rd qF).same s8;have pB:=ae (H:=N) (a:=t) (o:=.tup [.int ((List.map V.int q).length-2),.int j.x.b,.int i,.ref c,.ref g]);refine⟨_,rfl,_,rfl,R,_,rfl,DPut.k (k:=Sum.inl (j.x.b:Int)) J fK,?_⟩;generalize upd N t (.tup [.int ((List.map V.int q).length-2),.int j.x.b,.int i,.ref c,.ref g])=H8 at s8 J f8 I8 ql kJ pB;rw[Ab] at pB;have ga:putK (eh L) (Sum.inl (j.x.b:Int)) (.ref t)=eh (di L ⟨⟨(q.length:Int)-2,j.x.b,some i,left,fill⟩,t,c,g⟩):=OX (x:=⟨⟨(q.length:Int)-2,j.x.b,some i,left,fill⟩,t,c,g⟩) ⟨j,p4,rfl⟩;rw[ga];refine⟨_,_,_,_,di L ⟨⟨(q.length:Int)-2,j.x.b,some i,left,fill⟩,t,c,g⟩,rfl,f8.put kB J,⟨ae,fun r hr=>?_,v8 I8.hT J,O,ay,fF,k_,?_,I8.tb.off J (by intro ps z;cases z) (by intro ob u z;cases z)⟩,ap.put I ?_ (fun b hb=>?_) (fun b hb=>?_)⟩
    ·obtain⟨z,aL,rfl⟩:=Qj.mp hr
     by_cases e:z.x.b=j.x.b
     ·rw[Th e]
      exact v_ ⟨ql,.inr ⟨i,rfl,kJ,pB⟩⟩ J
     ·rw[Ti e]
      exact v_ (I8.rw z aL) J
    ·rw[OV]
     exact N1 O I5.pap W (Qj.mpr ⟨j,p4,rfl⟩) ed iZ
    ·show [c,g].Nodup
     simp[n5]
    ·have hb:b∈[c,g]:=hb
     rcases Qk.mp hb with rfl|hb
     ·exact U.dom jX
     ·rw[Ql.mp hb];exact U.dom ge
    ·have hb:b∈[c,g]:=hb
     rcases Qk.mp hb with rfl|hb
     ·exact cn
     ·rw[Ql.mp hb];exact gn
  ·rintro σ M ⟨v4,v5,v6,v7,L,rfl,f4,I4,ap⟩
   rw[Ab,aJ] at I4;have cY:=jW I4.pap (Af _);have I:((bW L).map (·.b)).Nodup:=I4.pap.srt.imp fun h=>ω
   have ez:(.dK (eh L):HO)=dZ (L.map fun r=>((r.x.b:Int),V.ref r.t)):=by
    unfold eh;show _=HO.dK _;rw[Am];rfl
   refine⟨_,rfl,R,L.map fun r=>((r.x.b:Int),V.ref r.t),rfl,by rw[<-ez];exact I4.hR,by rw[Ab];omega,fun S ms fu cX hS=>?_⟩;have em:ms=cP L:=by
    refine wh (fu.trans ?_) cX ?_
    ·rw[Am];exact List.Perm.refl _
    ·have:=I4.pap.srt
     unfold cP;rw[AX] at this ⊢;rw[AX] at this;exact this.imp fun h=>ω
   subst em;have G:=Same.new (o:=.lst ((cP L).map V.int)) hS;refine⟨S,rfl,⟨_,SqL.of ae⟩,fun D hD=>zx (OY (SqL.of ae) (G _ _ I4.hR) I ω hD fun H6 s6 ln=>?_)⟩;have f6:SY Pt M H6:=Same.sf (G.trans s6);have I6:=I4.sf f6;have fD:∀b∈L.flatMap dcs,∃kvs,Rd H6 b (.dT kvs):=fun b hb=>by
    obtain⟨r,hr,hb⟩:=Qo.mp hb;exact v1 (I6.rw r hr) hb
   refine⟨L.flatMap dcs,fun b hb=>⟨ap.new b hb,fD b hb⟩,fun N o7 d7=>?_⟩;have d:SY Pt H6 N:=Iq fD o7 d7;refine k D L N ((f4.trans f6).trans d) ((f4.trans (Same.sf G)).dom hD) ⟨d.lst ln,fun r hr=>(I6.rw r hr).sf d,I4.pap⟩ ap fun b hb=>?_;obtain⟨kvs,hk⟩:=fD b hb;exact⟨kvs,d7 b hb kvs hk⟩
end
end K64
end
section
namespace Bar
section
variable{p:Int}{S:Ch->Ch}{T:Nat}{L L':List Row}
def low(P:Pr p)(A:Sm p S)(R:Rows p S T L){x:Row}(hx:x∈L){t:Nat}(hd:x.d=some t){f:Ch}(hf:Yg p f t):∃u,x.b<=u/\Yg p (S f) u:=by
 have o:=(R.ok x hx).gone t hd;have i:=(R.ok x hx).yg;obtain⟨a,ha,C⟩:=uf P (T:=t) (f:=f) (g:=x.g) (fun u hu=>hf.2 u hu) o.2.2.1;have D:=C hf.1;have E:=ug P A R t ω _ ha;have eq:∀u,p ∣ S f u-(S (bN f a x.g) u+a*x.r u):=fun u=>by
  rw[A.lin];have h1:=Bd (o.2.2.2 u) (QA a (S x.g u-x.r u))
  rwa [show a*(S x.g u-x.r u)=S f u-(S f u-a*S x.g u+a*x.r u) from by rw[Int.mul_sub];omega] at h1
 have c:∀u,p ∣ S f u↔p ∣ S (bN f a x.g) u+a*x.r u:=fun u=>by
  constructor
  ·intro z
   have:=QP z (eq u)
   rwa [show S f u-(S f u-(S (bN f a x.g) u+a*x.r u))=S (bN f a x.g) u+a*x.r u from ω] at this
  ·intro z
   have:=QQ (eq u) z
   rwa [show S f u-(S (bN f a x.g) u+a*x.r u)+(S (bN f a x.g) u+a*x.r u)=S f u from ω] at this
 have v:¬p ∣ a*x.r x.b:=fun z=>(P.two_way _ _ z).elim D i.1;have w:(∀u,x.b<=u->p ∣ S (bN f a x.g) u)->Yg p (S f) x.b:=fun h=>by
  refine⟨fun z=>v ?_,fun u hu=>(c u).mpr (QQ (h u ω) (Bd (i.2 u hu) (QA _ _)))⟩;have:=QP ((c _).mp z) (h x.b (Af _))
  rwa [show S (bN f a x.g) x.b+a*x.r x.b-S (bN f a x.g) x.b=a*x.r x.b from ω] at this
 rcases sp_yg P (dl_nd R.nd) (fun q hq=>by
  obtain⟨y,hy',d,e',j,rfl⟩:=dl_mem.mp hq;exact(R.ok y hy').yg) E with z|⟨q,hq,z⟩
 ·exact⟨x.b,Af _,w fun u _=>z u⟩
 ·obtain⟨y,hy',d,e',j,rfl⟩:=dl_mem.mp hq
  have l:y.b≠x.b:=fun e=>by
   have:=DD R.nd hy' hx e;subst this;rw[hd] at e';cases e';omega
  rcases SW l with lt|lt
  ·exact⟨x.b,Af _,w fun u hu=>z.2 u (by show y.b<u;omega)⟩
  ·refine⟨y.b,ω,fun e=>z.1 ?_,fun u hu=>(c u).mpr (QQ (z.2 u hu) (Bd (i.2 u ω) (QA _ _)))⟩
   have:=QP ((c _).mp e) (Bd (i.2 y.b lt) (QA a (x.r y.b)))
   rwa [show S (bN f a x.g) y.b+a*x.r y.b-a*x.r y.b=S (bN f a x.g) y.b from ω] at this
def O0(P:Pr p)(h:Sm p S)(R:Rows p S T L)(R':Rows p S T L'){x:Row}(hx:x∈L){t:Nat}(hd:x.d=some t):∃y∈L',y.d=some t/\y.b=x.b:=by
 have ht:=((R.ok x hx).gone t hd).1;have key:∀{A B:List Row},Rows p S T A->Rows p S T B->∀{x y:Row},x∈A->y∈B->x.d=some t->y.d=some t->x.b<=y.b:=by
  intro A B RA RB x y hx hy e1 e2;have o:=(RB.ok y hy).gone t e2;obtain⟨u,hu,c⟩:=low P h RA hx e1 o.2.2.1;have a:=(RB.ok y hy).yg;have j:Yg p (S y.g) y.b:=by
   refine⟨fun z=>a.1 ?_,fun v i=>?_⟩
   ·have:=QP z (o.2.2.2 y.b)
    rwa [show S y.g y.b-(S y.g y.b-y.r y.b)=y.r y.b from ω] at this
   ·have:=QQ (o.2.2.2 v) (a.2 v i)
    rwa [show S y.g v-y.r v+y.r v=S y.g v from ω] at this
  have:=c.uniq j;omega
 rcases R'.all t ht with ⟨y,hy,e⟩|⟨y,hy,e⟩
 ·exfalso
  have a:=R'.ok y hy;obtain⟨u,_,c⟩:=low P h R hx hd (f:=y.r) (by rw[<-e];exact a.yg);exact c.not_z a.cyc
 ·exact⟨y,hy,e,Nat.le_antisymm (key R' R hy hx e hd) (key R R' hx hy hd e)⟩
end
end Bar
end
section
namespace K64
open K1
open PySem L2 STb
noncomputable abbrev wl:Stmt:=top 28
noncomputable abbrev Ee:Stmt:=top 29
noncomputable abbrev p6:Stmt:=top 30
def Iu{p:Int}{oo:Ξ}{T:Nat}{A B:List bi}(P:Bar.Pr p)(a:dc p oo T A)(b:dc p oo T B){x:bi}(hx:x∈A){t:Nat}(hd:x.d=some t):∃y∈B,y.d=some t/\y.b=x.b:=by
 obtain⟨y,hy,h1,h2⟩:=Bar.O0 P (Bar.ni p oo tau) a.rows b.rows (x:=fE oo x) (Qj.mpr ⟨x,hx,rfl⟩) hd;obtain⟨z,hz,rfl⟩:=Qj.mp hy;exact⟨z,hz,h1,h2⟩
def Iv{p:Int}{oo:Ξ}{T:Nat}{A B:List bi}(P:Bar.Pr p)(a:dc p oo T A)(b:dc p oo T B){x:bi}(hx:x∈A):∃y∈B,y.b=x.b:=by
 have ht:x.b<T:=(gE a hx).born;rcases b.rows.all x.b ht with ⟨y,hy,e⟩|⟨y,hy,e⟩
 ·obtain⟨z,hz,rfl⟩:=Qj.mp hy
  exact⟨z,hz,e⟩
 ·obtain⟨z,hz,rfl⟩:=Qj.mp hy
  obtain⟨v,c,h1,h2⟩:=Iu P b a hz e;exact absurd h1 (a.rows.one (fE oo x) (Qj.mpr ⟨x,hx,rfl⟩) (fE oo v) (Qj.mpr ⟨v,c,rfl⟩))
def O1{l m:List Nat}(h1:l.Pairwise (·<·))(h2:m.Pairwise (·<·))(h:∀x,x∈l↔x∈m):l=m:=
 List.Perm.eq_of_pairwise (le:=fun a b=>a<=b) (fun a b _ _ g1 g2=>Nat.le_antisymm g1 g2) (h1.imp fun h=>Q5 h) (h2.imp fun h=>Q5 h) ((List.perm_ext_iff_of_nodup (h1.imp fun h=>ω) (h2.imp fun h=>ω)).mpr h)
noncomputable def tri(x:bi):List V:=[.int x.hi,.int x.b,match x.d with|none=>.non|some e=>.int e]
def O2{p:Int}{oo:Ξ}{T:Nat}{A B:List bi}(P:Bar.Pr p)(a:dc p oo T A)(b:dc p oo T B):A.map tri=B.map tri:=by
 have c:A.map (·.b)=B.map (·.b):=O1 a.srt b.srt fun t=>by
  constructor
  ·intro h
   obtain⟨x,hx,rfl⟩:=Qj.mp h;obtain⟨y,hy,e⟩:=Iv P a b hx;exact Qj.mpr ⟨y,hy,e⟩
  ·intro h
   obtain⟨x,hx,rfl⟩:=Qj.mp h;obtain⟨y,hy,e⟩:=Iv P b a hx;exact Qj.mpr ⟨y,hy,e⟩
 have j:A.length=B.length:=by simpa using congrArg List.length c
 have inj:∀{M:List bi},(M.map (·.b)).Pairwise (·<·)->∀{x y:bi},x∈M->y∈M->x.b=y.b->x=y:=by
  intro M
  induction M with
  |nil=>intro _ x y hx;cases hx
  |cons m M ih=>
   intro h x y hx hy e;rw[At,Q9] at h;rcases Qk.mp hx with rfl|hx'<;>rcases Qk.mp hy with rfl|hy'
   ·rfl
   ·have:=h.1 y.b (Qj.mpr ⟨y,hy',rfl⟩);omega
   ·have:=h.1 x.b (Qj.mpr ⟨x,hx',rfl⟩);omega
   ·exact ih h.2 hx' hy' e
 have step:∀{A B:List bi},dc p oo T A->dc p oo T B->∀{x y:bi},x∈A->y∈B->x.b=y.b->∀t,x.d=some t->y.d=some t:=by
  intro A B a b x y hx hy e t hd;obtain⟨z,hz,h1,h2⟩:=Iu P a b hx hd;have:=inj b.srt hz hy ω;rw[<-this];exact h1
 refine List.ext_getElem (by rw[Ab,Ab,j]) fun i h1 h2=>?_;rw[Ab] at h1 h2;rw[List.getElem_map,List.getElem_map];have hx:=Bi h1;have hy:=Bi h2;have e:A[i].b=B[i].b:=by
  have:=congrArg (fun l=>l[i]?) c;simp only[Ag,Ah h1,Ah h2,AQ,AW] at this;exact this
 generalize A[i]=x at hx e;generalize B[i]=y at hy e;have o:x.hi=y.hi:=by
  obtain⟨q,h1,h2⟩:=uP a hx;obtain⟨u,f,g⟩:=uP b hy;rw[e,f] at h1;cases h1;have:=((a.ok x hx).ci q h2).2;have:=((b.ok y hy).ci q g).2;omega
 have r:x.d=y.d:=by
  cases hd:x.d with
  |some t=>exact(step a b hx hy e t hd).symm
  |none=>
   cases hd':y.d with
   |none=>rfl
   |some t=>rw[step b a hy hx e.symm t hd'] at hd;cases hd
 unfold tri;rw[o,e,r]
section
variable{P:Program}{w:World}{K:Ae}{mg:Str->Option Value}{base:Heap}{f:Addr}{fd:FuncData}{Pt:Addr}
def RwAt.all{H:Hp}{r:RA}(h:RwAt H r):∃a d:V,H r.t=some (.tup (tri r.x++[a,d])):=by
 obtain⟨_,⟨e,h⟩|⟨e,e1,_,h⟩⟩:=h
 ·exact⟨.ref r.c,.non,by rw[h];unfold tri;rw[e];rfl⟩
 ·exact⟨.ref r.c,.ref r.g,by rw[h];unfold tri;rw[e1];rfl⟩
abbrev Ef(K:Ae):TE:=ma (n7 K) (ax 0) l5 (l7 (tC (.int 3)))
def Iw{H2:Hp}{S D:Addr}{L:List RA}{Q:VK}(w:SqL K H2 S (L.map fun r=>V.ref r.t))(hr:∀r∈L,RwAt H2 r)(hz:L.length<=1000)(p:H2 D=none)(k:∀(H3:Hp)(us:List Addr),Same H2 H3->H3 D=some (.lst (us.map V.ref))->Paired (fun u x=>H3 u=some (.tup x)) us ((bW L).map tri)->Q (.ref D) H3):zV (dP K S) (zN 0) bT (Ef K) [none] H2 D Q:=by
 have l:(L.map fun r=>V.ref r.t).length=L.length:=Ab _;refine zH (xs:=L.map fun r=>V.ref r.t) (fun j σ ys H3=>∃(v:Option V)(us:List Addr),σ=[v]/\Same H2 H3/\H3 D=some (.lst ys)/\ys=us.map V.ref/\Paired (fun u x=>H3 u=some (.tup x)) us (((bW L).map tri).take j)) ?_ ?_ ?_ ?_
 ·exact⟨none,[],rfl,Same.new p,ae,rfl,.nil⟩
 ·rintro j σ ys H3 ⟨v,us,rfl,sm,c,rfl,hp⟩
  exact sm.seq w
 ·rintro j σ ys H3 x hx q hy ⟨v,us,rfl,sm,c,rfl,hp⟩
  rw[Ag] at hx;obtain⟨r,f,rfl⟩:=Qr.mp hx;have e:((bW L).map tri)[j]?=some (tri r.x):=by rw[Ag,Ag,f];rfl
  obtain⟨g,i,ht⟩:=(hr r (Ai f)).all;refine b0 ⟨_,rfl,3,rfl,r.t,_,rfl,SqT.of (sm _ _ ht),(show ¬(HT.sIx 5 0 none=0/\HT.sIx 5 5 (some 3)=5) from ξ),fun u hu=>?_⟩;have d:=Same.new (o:=.tup (cF (tri r.x++[g,i]) none (some 3))) hu;refine bz (by rw[l];exact zh ω) q hy (d _ _ c) ⟨_,us++[u],rfl,(sm.trans d).then p,ae,by rw[Aj];rfl,?_⟩;rw[AH e];have ne:∀{a:Addr}{x:List V},upd H3 u (.tup (cF (tri r.x++[g,i]) none (some 3))) a=some (.tup x)->a≠D:=fun h=>aV h (d _ _ c) (by intro z;cases z);refine Paired.snoc (Paired.mapP hp fun a x h=>?_) ?_
  ·rw[ah (ne (d _ _ h))];exact d _ _ h
  ·rw[ah (ne ae),ae];rfl
 ·rintro σ ys H3 ⟨v,us,rfl,sm,c,rfl,hp⟩
  rw[l,As (by rw[Ab,Ab];exact Af _)] at hp;exact k H3 us sm c hp
def Ix(K:Ae)(Pt:Addr):Sp:=fun vs H Q _=>∃l as oo p,vs=[.ref l,.int p]/\SqL K H l (as.map V.ref)/\Tps H as oo/\cA oo/\oo.length<=200/\isP p/\TY Pt H/\
 ∀D us xs H',SY Pt H H'->H D=none->H' D=some (.lst (us.map V.ref))->Paired (fun u x=>H' u=some (.tup x)) us (xs.map tri)->dc p oo oo.length xs->Q (.ref D) H'
def O3:zp ["order","prime"] ["order","prime"] (zi Ec):=⟨rfl,rfl,rfl,δ,rfl,δ,δ⟩
def O4(F:Fun K "bars" "bars" Ec f fd)(v:Cl P w K mg base aR "paper" ["order","prime"] 6 (Ed K Pt)):FnOk P w K mg base aR 7 f fd ["order","prime"] (Ix K Pt):=by
 refine F.ok O3 (fun vs H Q E h=>?_) (fun x A outer s H vs Q E hr h=>?_)
 ·obtain⟨l,as,oo,p,rfl,_⟩:=h;rfl
 ·obtain⟨l,as,oo,p,rfl,o,ht,q,r,hp,tb,k⟩:=h
  refine⟨_,zg (zm (zq ["order","prime"] ["row"] [none] (zD (zE v hr rfl ak (zc (pv 0) (zc (pv 1) zd)))) (fun c C s₀ H₀ ex=>zk (i:=0) (cz ["row"]) rfl (Or.inl rfl)) (fun c C s₀ H₀ ex=>zF)
   (fun c C s₀ H₀ ex=>iN rf (pv 0) iJ (iK zf)) (hfr:=cI δ) (te:=Ef K))),?_⟩
  refine⟨_,rfl,_,rfl,l,as,oo,p,rfl,o,ht,q,r,hp,tb,fun D L H1 f1 y a G hf=>?_⟩;have I:=jW a.pap (Af _);refine⟨D,rfl,⟨_,SqL.of a.hD⟩,fun u d=>zx (Iw (SqL.of a.hD) a.rw ω d fun H3 us e g j=>?_)⟩;exact k u us (bW L) H3 (f1.trans (Same.sf e)) (f1.dom d) g j a.pap
def O5{H2:Hp}{d D:Addr}{o:Obj}{cs:Ch}{rest:List (Option V)}{te:TE}{Q:VK}(hd:H2 d=some (.frz o (.dT (kvC cs))))(hz:cs.length<=1000)(step:∀(c:List Int×Int)(b:Addr)(H3:Hp)(R:VK),c∈cs->Same H2 H3->Tp H3 b c.1->R (.bl true) H3->te (some (.ref b)::rest) H3 R)(g:H2 D=none)(k:∀(H3:Hp),Same H2 H3->H3 D=some (.lst ((cs.map fun _=>true).map V.bl))->Q (.ref D) H3):zV (k8 d o (kvC cs)) (zN 0) bT te (none::rest) H2 D Q:=by
 refine ir cs.length (fun j σ ys H3=>∃(v:Option V),σ=v::rest/\Same H2 H3/\H3 D=some (.lst ys)/\ys=((cs.map fun _=>true).take j).map V.bl) ?_ ?_ ?_ ?_ ?_
 ·exact⟨none,rfl,Same.new g,ae,rfl⟩
 ·rintro σ ys H3 ⟨v,rfl,sm,a,rfl⟩
  exact⟨(zK cs).symm,sm _ _ hd⟩
 ·rintro i σ ys H3 hi ⟨v,rfl,sm,a,rfl⟩
  exact⟨by rw[zK];exact hi,sm _ _ hd⟩
 ·rintro i σ ys H3 x H' hi hy ⟨v,rfl,sm,a,rfl⟩ ⟨rfl,kv,b,h,rfl,l⟩
  obtain⟨c,f,rfl⟩:=t5 h;have e:(cs.map fun _=>true)[i]?=some true:=by rw[Ag,f];rfl
  exact b0 (step c b _ _ (Ai f) sm (pY l) (bz (zh ω) hi hy a ⟨_,rfl,sm.then g,ae,by rw[AH e,Aj];rfl⟩))
 ·rintro σ ys H3 ⟨v,rfl,sm,a,rfl⟩
  rw[As (by rw[Ab];exact Af _)] at a;exact k H3 sm a
def O6{H2:Hp}{d D:Addr}{o:Obj}{cs:Ch}{rest:List (Option V)}{te:TE}{Q:VK}(hd:H2 d=some (.frz o (.dT (kvC cs))))(hz:cs.length<=1000)(step:∀(c:List Int×Int)(H3:Hp)(R:VK),c∈cs->R (.bl true) H3->te (some (.int c.2)::rest) H3 R)(g:H2 D=none)(k:∀(H3:Hp),Same H2 H3->H3 D=some (.lst ((cs.map fun _=>true).map V.bl))->Q (.ref D) H3):zV (Dg d o (kvC cs)) (zN 0) bT te (none::rest) H2 D Q:=by
 refine ir cs.length (fun j σ ys H3=>∃(v:Option V),σ=v::rest/\Same H2 H3/\H3 D=some (.lst ys)/\ys=((cs.map fun _=>true).take j).map V.bl) ?_ ?_ ?_ ?_ ?_
 ·exact⟨none,rfl,Same.new g,ae,rfl⟩
 ·rintro σ ys H3 ⟨v,rfl,sm,a,rfl⟩
  exact⟨(zK cs).symm,sm _ _ hd⟩
 ·rintro i σ ys H3 hi ⟨v,rfl,sm,a,rfl⟩
  exact⟨by rw[zK];exact hi,sm _ _ hd⟩
 ·rintro i σ ys H3 x H' hi hy ⟨v,rfl,sm,a,rfl⟩ ⟨rfl,kv,h,rfl⟩
  obtain⟨c,f,rfl⟩:=t5 h;have e:(cs.map fun _=>true)[i]?=some true:=by rw[Ag,f];rfl
  exact b0 (step c _ _ (Ai f) (bz (zh ω) hi hy a ⟨_,rfl,sm.then g,ae,by rw[AH e,Aj];rfl⟩))
 ·rintro σ ys H3 ⟨v,rfl,sm,a,rfl⟩
  rw[As (by rw[Ab];exact Af _)] at a;exact k H3 sm a
def Eg(cs:Ch):(cs.map fun _=>true).all id=true:=by rw[SO];exact Qs.mpr fun _ _=>rfl
def Iy(Pt:Addr):Sp:=fun vs H Q _=>∃d T cs oo h p y t,vs=[.ref d,.int h,.int (t:Nat),.ref T,.int p]/\Rd H d (.dT (kvC cs))/\Rd H T (.dT (kvC (cB oo)))/\oo.Nodup/\oo.length<=200/\ChP p cs/\(∀q∈ksC cs,q∈oo/\(q.length:Int)=h+1)/\Yst oo cs y t/\TY Pt H/\∀H',SY Pt H H'->Q (.bl true) H'
def O7:zp ["chain","height","time","times","prime"] ["chain","height","time","times","prime"] (zi p6):=⟨rfl,rfl,rfl,δ,rfl,δ,δ⟩
abbrev Eh(K:Ae):TE:=EQ (iT (ax 0) (ax 1)) (cp nP (gS (Dj K) (zJ (ax 0) br)) (cp (dR fun i j=>.int (i+j)) (ax 2) (tC (.int 1))))
abbrev Ei:TE:=y9 (dR fun i j=>.bl (decide (i<=j))) (dR fun i j=>.bl (decide (i<j))) (tC (.int 1)) (ax 0) (ax 1)
def O8(F:Fun K "is_chain_by" "is_chain_by" p6 f fd)(B:Bt mg)(Cy:Cl P w K mg base aR "youngest_of" ["chain","times"] 4 (vD Pt)):FnOk P w K mg base aR 5 f fd ["chain","height","time","times","prime"] (Iy Pt):=by
 refine F.ok O7 (fun vs H Q E h=>?_) (fun ar A outer s H vs Q E hr h=>?_)
 ·obtain⟨d,T,cs,oo,h,p,y,t,rfl,_⟩:=h;rfl
 ·obtain⟨d,T,cs,oo,h,p,y,t,rfl,hd,hT,nd,ay,hc,hi,hy,tb,k⟩:=h
  have hu:=eG hr;have hz:cs.length<=1000:=AA (gF hc.nd fun q hq=>(hi q hq).1) ω;refine⟨_,ze (zQ (dB (dN (zl (kE rfl) rfl B.all kM (zc (zq ["chain","height","time","times","prime"] ["piece","times","height"] [none,some 3,some 1] (pH (pv 0)) (fun a C s₀ H₀ ex=>zk (i:=0) (cz ["piece","times","height"]) rfl (Or.inl rfl)) (fun a C s₀ H₀ ex=>zF)
    (fun a C s₀ H₀ ex=>jl (EK (Cn hu (pv 0) (pv 1)) (by with_unfolding_all rfl)) (ji (f_ fY (zl zo rfl B.len dv (zc (pv 0) zd)) (zy zS (pv 2) zf) (al _)))) (hfr:=cx (zi p6) δ) (te:=Eh K)) zd)))) (zg (zm cU)) zr)
   (ze (zQ (dB (dN (zl (kE rfl) rfl B.all kM (zc (zq ["chain","height","time","times","prime"] ["weight","prime"] [none,some 4] (MN (MR (pv 0))) (fun a C s₀ H₀ ex=>zk (i:=0) (cz ["weight","prime"]) rfl (Or.inl rfl)) (fun a C s₀ H₀ ex=>zF)
    (fun a C s₀ H₀ ex=>JV qV nS zf (pv 0) (pv 1)) (hfr:=cx (zi p6) δ) (te:=Ei)) zd)))) (zg (zm cU)) zr)
   (zg (zm (jl (f_ nW (zl u3 rfl B.len dv (zc (pv 0) zd)) zf (al _)) (ji (f_ fY (zR hu (pv 3) (zE Cy hr rfl ak (zc (pv 0) (zc (pv 3) zd))) (fun _ _=>rfl)) (pv 2) (al _))))))),?_⟩
  refine⟨_,rfl,d,kvC cs,rfl,hd,fun o H1 r J=>fun D W=>zx (O5 r hz (fun c b H3 R x sm hb G=>?_) W fun H2 X Y=>?_)⟩
  ·have f1:SY Pt H H1:=SF.one hd (.inr ⟨o,r⟩) J
   have hk:=hi c.1 (Qj.mpr ⟨c,x,rfl⟩);obtain⟨u,eu⟩:=Qn.mp hk.1;have g:DGet H3 T (.ref b) (some (.int u)):=.inr ⟨kvC (cB oo),c.1.map Sum.inl,b,(f1.rd hT).same sm,rfl,by rw[Am];exact hb,(lu nd eu).symm⟩;refine⟨_,rfl,_,rfl,T,_,rfl,g,true,rfl,bd ⟨_,rfl,b,_,rfl,.inr (SqT.of hb),_,rfl,_,_,rfl,rfl,rfl,?_⟩⟩;rw[Ab,Tj (congrArg V.int hk.2)];exact G
  ·have f1:SY Pt H H1:=SF.one hd (.inr ⟨o,r⟩) J
   have f2:=f1.trans (Same.sf X);refine⟨D,_,rfl,SqL.of Y,true,by rw[Eg],aC ?_⟩;refine⟨_,rfl,d,kvC cs,rfl,rfl,f2.rd hd,fun v hv=>?_⟩;have s3:=Same.new (o:=pj v d) hv;have I:=f2.trans (Same.sf s3);refine⟨v,d,kvC cs,rfl,ae,I.rd hd,fun o4 H4 L ko=>fun D4 ck=>zx (O6 L hz (fun c S R x G=>?_) ck fun S s5 bb=>?_)⟩
   ·have:=hc.lo c x
    refine⟨_,rfl,_,_,rfl,rfl,true,?_,?_⟩
    ·exact congrArg V.bl (Tj this.1)
    ·refine bd ⟨_,rfl,_,_,rfl,rfl,?_⟩
     have e:V.bl (decide (c.2<p))=.bl true:=congrArg V.bl (Tj this.2);show R (V.bl (decide (c.2<p))) S;rw[e];exact G
   ·have f4:SY Pt H H4:=I.trans (SF.one (I.rd hd) (.inr ⟨o4,L⟩) ko)
    have j:=f4.trans (Same.sf s5);refine⟨D4,_,rfl,SqL.of bb,true,by rw[Eg],aC ?_⟩;have l:cs≠[]:=fun z=>by
     have:=hy.1;rw[z] at this;cases this
    have N:=R8.mpr l;refine⟨_,rfl,d,kvC cs,rfl,j.rd hd,_,_,rfl,rfl,true,?_,bd ?_⟩
    ·exact congrArg V.bl (Tj (by rw[zK];omega))
    ·refine⟨_,rfl,_,rfl,_,rfl,d,T,cs,oo,rfl,j.rd hd,j.rd hT,nd,l,fun q hq=>(hi q hq).1,j.tab tb,fun b M t' U f6 hb hy'=>?_⟩
     have et:t'=t:=Nat.le_antisymm (hy.2.2 M hy'.1 t' hy'.2.1) (hy'.2.2 y hy.1 t hy.2.1);subst et;have O:=j.trans f6;have g:DGet U T (.ref b) (some (.int t')):=.inr ⟨kvC (cB oo),M.map Sum.inl,b,O.rd hT,rfl,by rw[Am];exact hb,(lu nd hy'.2.1).symm⟩;refine⟨T,_,rfl,g,_,rfl,rfl,?_⟩;rw[Tj rfl];exact k U O
end
end K64
end
section
namespace L2
open PySem PySem.Spec PyProof.Rows
section
variable{X:Cx}
def Iz:da X (.type "range") (fun xs H Q=>∃j:Int,xs=[.int j]/\∀r,H r=none->Q (.ref r) (upd H r (.rng 0 j))):=by
 intro aa s σ H xs us Q I r h;obtain⟨j,rfl,q⟩:=h;obtain⟨u,rfl,⟨t,rfl⟩⟩:=vals1 r;exact call_range_1 ⟨.ref s⁻¹,_,I.laid (o:=.rng 0 j) (fun b o e=>Ad _ e) (Af _) ⟨_,t,_,Ak _ rfl⟩,rfl,q _ (I.hok.fresh (Af _))⟩
def IA(hc:X.calm=true):da X (.type "list") (fun xs H Q=>∃(r:Addr)(j:Nat),xs=[.ref r]/\H r=some (.rng 0 j)/\j<=1000/\∀l,H l=none->Q (.ref l) (upd H l (.lst (((AD j).map fun k:Nat=>(k:Int)).map V.int)))):=by
 intro aa s σ H xs us Q I r h;obtain⟨a,j,rfl,ha,y,q⟩:=h;obtain⟨u,rfl,i⟩:=vals1 r;cases i;obtain⟨t,u,v,e⟩:=(show zC X.prog X.w H s.heap a (.rng 0 j) from I.hok a _ ha);have hr:IsRange s.heap a 0 j 1 t u v:=e;have p:Builtin.Range.rangeSize 0 j 1=(j:Nat):=by rw[rangeSize_one];split<;>omega
 refine call_list_range (n:=j) (I.ok.hd hc) hr (small_one ω ω ω ω) p ω fun h' tk acc c' d f g=>?_;have c:=Oe g;have x:((AD j).map fun k:Nat=>(0:Int)+(k:Nat))=(AD j).map fun k:Nat=>(k:Int):=Ax fun k _=>ω
 rw[x] at c;refine⟨.ref s⁻¹,_,I.laid (t':=tk) (o:=.lst (((AD j).map fun k:Nat=>(k:Int)).map V.int)) (fun b o e=>d b o e) (Af _) (show zC X.prog X.w _ _ _ (.lst _) from⟨?_,acc.toList,c',c,by simpa using f⟩),rfl,q _ (I.hok.fresh (Af _))⟩;rw[Ab,Ab,QR,sizeLine_eq];omega
def Ej(K:Ae):R2:=fun x y H Q=>∃l m ns a,x=.ref l/\y=.ref m/\SqL K H l (List.map V.int ns)/\SqL K H m (List.map V.int a)/\Q (.bl (!decide (ns=a))) H
def IB(hu:X.A.units+64<cLine):cD X (A2 .NotEq) (Ej X.K):=by
 intro aa s σ H x y v u Q I c d h;obtain⟨l,m,ns,a,rfl,rfl,f,hm,q⟩:=h;cases c;cases d;obtain⟨_,g⟩:=vb I f;obtain⟨_,i⟩:=vb I hm;refine ne_dataH_same g i (ve _) (ve _) hu (SeqAt.noMix_of_shape (.list .int) rfl _ _ (vi _) (vi _)) ?_;have e:same (.list (ns.map A5)) (.list (a.map A5))=decide (ns=a):=by simp only[same];exact Se ns a
 rw[e];exact⟨.bl _,H,I,rfl,q⟩
end
end L2
end
section
namespace K64
open K1
open PySem L2 STb
def ID:AZ "range"=some (.type "range"):=δ
def wt{p:Int}{oo:Ξ}{cs:Ch}{t:Nat}(h:ChP p cs)(hy:Bar.Yg p (aX oo cs) t):∃y,Yst oo cs y t:=by
 obtain⟨y,e,hk⟩:=HQ hy;exact⟨y,hk,e,fun x hx u a=>NT h hy hx a⟩
def IE{a b:Ch}(h:∀c∈a,c∈b):∀kv∈kvC a,kv∈kvC b:=fun kv hk=>by
 obtain⟨c,hc,rfl⟩:=Qj.mp hk;exact Qj.mpr ⟨c,h c hc,rfl⟩
def ChP.nz{p:Int}{cs:Ch}(h:ChP p cs):∀c∈cs,c.2≠0:=fun c hc=>by have:=h.lo c hc;omega
noncomputable def nr(xs:List bi):List Nat:=xs.filterMap (·.d)
def IF{p:Int}{oo:Ξ}{T:Nat}{xs:List bi}(h:dc p oo T xs):(xs.map (·.b)++nr xs).Perm (AD T):=by
 have f:(xs.map (·.b)).Nodup:=h.srt.imp fun h=>ω
 have g:∀t,t∈xs.map (·.b)↔∃x∈xs,x.b=t:=fun t=>Qj;have i:∀t,t∈nr xs↔∃x∈xs,x.d=some t:=fun t=>SQ;have nd:(nr xs).Nodup:=by
  unfold nr List.Nodup;rw[List.pairwise_filterMap];have o:xs.Pairwise (fun a b=>a.b≠b.b):=by
   have:=f;unfold List.Nodup at this;rw[AX] at this;exact this
  refine o.imp_of_mem fun{a b} ha hb c t j t' l e=>?_;subst e;have:=h.rows.two (fE oo a) (Qj.mpr ⟨a,ha,rfl⟩) (fE oo b) (Qj.mpr ⟨b,hb,rfl⟩) t j l;have:a.b=b.b:=congrArg Bar.Row.b this;exact c this
 refine(List.perm_ext_iff_of_nodup ?_ List.nodup_range).mpr fun t=>?_
 ·rw[Bj]
  refine⟨f,nd,fun a ha b hb e=>?_⟩;subst e;obtain⟨x,hx,e1⟩:=(g a).mp ha;obtain⟨y,hy,e2⟩:=(i a).mp hb;exact h.rows.one (fE oo x) (Qj.mpr ⟨x,hx,rfl⟩) (fE oo y) (Qj.mpr ⟨y,hy,rfl⟩) (by show y.d=some x.b;rw[e1];exact e2)
 ·rw[Qm,Qv,g,i]
  constructor
  ·rintro(⟨x,hx,rfl⟩|⟨x,hx,e⟩)
   ·exact(gE h hx).born
   ·exact((gE h hx).gone t e).1
  ·intro ht
   rcases h.rows.all t ht with ⟨y,hy,e⟩|⟨y,hy,e⟩
   ·obtain⟨x,hx,rfl⟩:=Qj.mp hy
    exact .inl ⟨x,hx,e⟩
   ·obtain⟨x,hx,rfl⟩:=Qj.mp hy
    exact .inr ⟨x,hx,e⟩
def IG(n:Nat):((AD n).map fun k:Nat=>(k:Int)).Pairwise (·<=·):=by
 rw[AX];exact List.pairwise_lt_range.imp fun h=>ω
section
variable{P:Program}{w:World}{K:Ae}{mg:Str->Option Value}{base:Heap}{f:Addr}{fd:FuncData}{Pt:Addr}
def Ek(Pt:Addr):Sp:=fun vs H Q _=>∃r T oo p xs,vs=[.ref r.t,.ref T,.int p]/\RwAt H r/\Rd H T (.dT (kvC (cB oo)))/\fj oo/\oo.length<=200/\0<p/\dc p oo oo.length xs/\r.x∈xs/\TY Pt H/\∀H',SY Pt H H'->Q (.bl true) H'
def O9:zp ["row","times","prime"] ["row","times","prime"] (zi Ee):=⟨rfl,rfl,rfl,δ,rfl,δ,δ⟩
def O_(F:Fun K "is_bar" "is_bar" Ee f fd)(B:Bt mg)(Y:Cl P w K mg base aR "is_chain_by" ["chain","height","time","times","prime"] 5 (Iy Pt))(Cm:Cl P w K mg base aR "seam_of" ["chain"] 3 Dw)(Ct:Cl P w K mg base aR "taken_by" ["chain","prime"] 2 (vL Pt)):FnOk P w K mg base aR 6 f fd ["row","times","prime"] (Ek Pt):=by
 refine F.ok O9 (fun vs H Q E h=>?_) (fun ar A outer s H vs Q E hr h=>?_)
 ·obtain⟨r,T,oo,p,xs,rfl,_⟩:=h;rfl
 ·obtain⟨r,T,oo,p,xs,rfl,jo,hT,O,u,hp,d,hx,tb,k⟩:=h
  have aF:=hr.units;refine⟨_,ze (zQ (dB (dN (zE Y hr rfl ak (zc (zA zv (pv 0) zf (fun _ _=>rfl)) (zc (zA zv (pv 0) zf (fun _ _=>rfl)) (zc (zA zv (pv 0) zf (fun _ _=>rfl)) (zc (pv 1) (zc (pv 2) zd)))))))) (zg (zm cU)) zr)
   (ze (zQ (zn iH (zA zv (pv 0) zf (fun _ _=>rfl)) ek (al _))
    (zg (zm (jl (f_ iH (zA zv (pv 0) zf (fun _ _=>rfl)) ek (al _)) (ji (f_ fY (zl u3 rfl B.len dv (zc (zE Ct hr rfl ak (zc (zE Cm hr rfl ak (zc (zA zv (pv 0) zf (fun _ _=>rfl)) zd)) (zc (pv 2) zd))) zd)) zf (al _)))))) zr)
   (ze (zQ (PW.pt (fv (zn iH (zA zv (pv 0) zf (fun _ _=>rfl)) ek (al _)) (gH (dB (dN (zE Y hr rfl ak (zc (zA zv (pv 0) zf (fun _ _=>rfl)) (zc (zy zS (zA zv (pv 0) zf (fun _ _=>rfl)) zf) (zc (zA zv (pv 0) zf (fun _ _=>rfl)) (zc (pv 1) (zc (pv 2) zd)))))))))) ) (zg (zm cU)) zr)
   (zg (zm (f_ (HY aF) (zE Ct hr rfl ak (zc (zE Cm hr rfl ak (zc (zA zv (pv 0) zf (fun _ _=>rfl)) zd)) (zc (pv 2) zd))) (zA zv (pv 0) zf (fun _ _=>rfl)) (al _)))))),?_⟩
  have a:=d.ok r.x hx;have rk:=gE d hx;obtain⟨y,hy⟩:=wt (oo:=oo) a.c rk.yg;have hy:Yst oo r.x.c y r.x.b:=hy;have L:∀{cs:Ch},ChP p cs->(∀q∈ksC cs,q∈oo)->cs.length<=200:=fun h1 h2=>AA (gF h1.nd h2) u;have N:∀{cs:Ch},(∀q∈ksC cs,q∈oo)->∀c∈cs,c.1.length<=5:=fun h2 c hc=>O.le _ (h2 _ (Qj.mpr ⟨c,hc,rfl⟩));have W:∀{cs:Ch},ChP p cs->(∀q∈ksC cs,q∈oo)->(uc cs).length<=1000:=fun{cs} h1 h2=>by
   refine AA (Ds _) ?_;have:=t7 (cs:=cs) (N h2);have:=L h1 h2;omega
  have j:∀q∈ksC r.x.c,q∈oo:=fun q hq=>(a.ci q hq).1;rcases id jo with ⟨l,⟨v,ht⟩|⟨e,v,I,ht⟩⟩
  ·refine⟨_,rfl,r.t,_,3,.ref r.c,rfl,rfl,SqT.of ht,rfl,_,rfl,r.t,_,0,.int r.x.hi,rfl,rfl,SqT.of ht,rfl,_,rfl,r.t,_,1,.int r.x.b,rfl,rfl,SqT.of ht,rfl,_,rfl,_,rfl,r.c,T,r.x.c,oo,r.x.hi,p,y,r.x.b,rfl,l,hT,O.nd,u,a.c,a.ci,hy,tb,fun H1 f1=>⟨_,rfl,aC ?_⟩⟩
   have i:=f1.tup ht;refine⟨_,rfl,r.t,_,2,.non,rfl,rfl,SqT.of i,rfl,rfl,_,rfl,bd ?_⟩;refine⟨_,rfl,r.t,_,4,.non,rfl,rfl,SqT.of i,rfl,rfl,true,rfl,bd ?_⟩;refine⟨_,rfl,r.t,_,3,.ref r.c,rfl,rfl,SqT.of i,rfl,r.c,r.x.c,rfl,f1.rd l,a.c.nd,L a.c j,N j,fun M H2 eZ kf qQ nF=>?_⟩;have f2:SY Pt H1 H2:=D6 eZ (f1.rd l) kf;refine⟨_,rfl,M,_,p,rfl,.inl nF,zP _,W a.c j,hp,fun D H3 G bI ag=>?_⟩;refine⟨D,_,rfl,.inl ag,rfl,?_⟩;rw[show md p (c9 (r.x.c.flatMap fun c=>cJ c.1 c.2))=[] from HU O hp d hx];exact k H3 ((f1.trans f2).trans G)
  ·have ht':H r.t=some (.tup [.int r.x.hi,.int r.x.b,.int e,.ref r.c,.ref r.g]):=ht
   refine⟨_,rfl,r.t,_,3,.ref r.c,rfl,rfl,SqT.of ht,rfl,_,rfl,r.t,_,0,.int r.x.hi,rfl,rfl,SqT.of ht,rfl,_,rfl,r.t,_,1,.int r.x.b,rfl,rfl,SqT.of ht,rfl,_,rfl,_,rfl,r.c,T,r.x.c,oo,r.x.hi,p,y,r.x.b,rfl,l,hT,O.nd,u,a.c,a.ci,hy,tb,fun H1 f1=>⟨_,rfl,aC ?_⟩⟩;have i:=f1.tup ht;obtain⟨o,J⟩:=a.g e v;obtain⟨z,hz⟩:=wt (oo:=oo) o (rk.gone e v).2.2.1;have S:∀q∈ksC r.x.g,q∈oo:=fun q hq=>(J q hq).1;refine⟨_,rfl,r.t,_,2,.int e,rfl,rfl,SqT.of i,rfl,rfl,_,rfl,aC ?_⟩;refine⟨_,rfl,r.t,_,4,.ref r.g,rfl,rfl,SqT.of i,rfl,rfl,_,rfl,aC ?_⟩;refine⟨_,rfl,r.t,_,4,.ref r.g,rfl,rfl,SqT.of i,rfl,_,rfl,r.t,_,0,.int r.x.hi,rfl,rfl,SqT.of i,rfl,_,_,rfl,rfl,_,rfl,r.t,_,2,.int e,rfl,rfl,SqT.of i,rfl,_,rfl,_,rfl,r.g,T,r.x.g,oo,r.x.hi+1,p,z,e,rfl,f1.rd I,f1.rd hT,O.nd,u,o,fun q hq=>⟨(J q hq).1,by have:=(J q hq).2;omega⟩,hz,f1.tab tb,fun H2 f2=>⟨_,rfl,aC ?_⟩⟩;have C:=f1.trans f2;have cv:=C.tup ht;refine⟨_,rfl,r.t,_,4,.ref r.g,rfl,rfl,SqT.of cv,rfl,r.g,r.x.g,rfl,C.rd I,o.nd,L o S,N S,fun M H3 cw xo qQ xR=>?_⟩;have G:SY Pt H2 H3:=D6 cw (C.rd I) xo;refine⟨_,rfl,M,_,p,rfl,.inl xR,zP _,W o S,hp,fun D H4 f4 bI ck=>?_⟩;have U:=(C.trans G).trans f4;refine⟨_,rfl,r.t,_,3,.ref r.c,rfl,rfl,SqT.of (U.tup ht),rfl,D,r.c,true,rfl,rfl,?_,k H4 U⟩;have X:ChP p (sb p r.x.g):=p3 hp (zP _);obtain⟨e1,e2⟩:=Hz X.nd a.c.nd X.nz a.c.nz (HS O hp d hx v);exact⟨kvC (sb p r.x.g),kvC r.x.c,ksC (sb p r.x.g),ksC r.x.c,(sb p r.x.g).map (·.2),.inl ck,U.rd l,gC _,gC _,pV _,.inl ⟨rfl,by rw[zK,zK];exact e1,IE e2⟩⟩
abbrev fJ(K:Ae)(i:Int):TE:=cp (iQ K) (ax 0) (tC (.int i))
abbrev El(K:Ae):TT:=eB (cp (fun x y H Q=>y=.non/\Q (.bl (!decide (x=.non))) H) (fJ K 2) (tC .non))
def RwAt.b{H:Hp}{r:RA}(h:RwAt H r):∃xs,H r.t=some (.tup xs)/\eE xs 1=some (.int r.x.b)/\eE xs 2=some (match r.x.d with|none=>.non|some e=>.int e):=by
 obtain⟨a,c,e⟩:=h.all;exact⟨_,e,rfl,rfl⟩
def wz{H2:Hp}{S D:Addr}{L:List RA}{Q:VK}(h:SqL K H2 S (L.map fun r=>V.ref r.t))(hr:∀r∈L,RwAt H2 r)(hz:L.length<=1000)(f:H2 D=none)(k:∀(H3:Hp),Same H2 H3->H3 D=some (.lst ((cP L).map V.int))->Q (.ref D) H3):zV (dP K S) (zN 0) bT (fJ K 1) [none] H2 D Q:=by
 have d:(L.map fun r=>V.ref r.t).length=L.length:=Ab _;refine zH (xs:=L.map fun r=>V.ref r.t) (fun j σ ys H3=>∃(v:Option V),σ=[v]/\Same H2 H3/\H3 D=some (.lst ys)/\ys=((cP L).take j).map V.int) ?_ ?_ ?_ ?_
 ·exact⟨none,rfl,Same.new f,ae,rfl⟩
 ·rintro j σ ys H3 ⟨v,rfl,sm,a,rfl⟩
  exact sm.seq h
 ·rintro j σ ys H3 x hx g hy ⟨v,rfl,sm,a,rfl⟩
  rw[Ag] at hx;obtain⟨r,c,rfl⟩:=Qr.mp hx;have e:(cP L)[j]?=some (r.x.b:Int):=by unfold cP;rw[Ag,c];rfl
  obtain⟨xs,ht,h1,_⟩:=(hr r (Ai c)).b;exact b0 ⟨_,rfl,r.t,xs,1,_,rfl,rfl,SqT.of (sm _ _ ht),h1,bz (by rw[d];exact zh ω) g hy a ⟨_,rfl,sm.then f,ae,by rw[AH e,Aj];rfl⟩⟩
 ·rintro σ ys H3 ⟨v,rfl,sm,a,rfl⟩
  rw[d,As (by unfold cP;rw[Ab];exact Af _)] at a;exact k H3 sm a
noncomputable def eX(L:List RA):List Int:=(nr (bW L)).map fun k:Nat=>(k:Int)
def O'{L:List RA}{j:Nat}{r:RA}(h:L[j]?=some r):eX (L.take (j+1))=eX (L.take j)++(match r.x.d with|none=>[]|some e=>[(e:Int)]):=by
 rw[AH h];unfold eX nr bW;rw[Aj,List.filterMap_append,Aj]
 congr 1
 show((([r].map RA.x).filterMap (·.d)).map fun k:Nat=>(k:Int))=_;rw[At,Sl,R0];cases r.x.d with
 |none=>rfl
 |some e=>rfl
def IJ{H2:Hp}{S D:Addr}{L:List RA}{Q:VK}(i:SqL K H2 S (L.map fun r=>V.ref r.t))(hr:∀r∈L,RwAt H2 r)(hz:L.length<=1000)(h:H2 D=none)(k:∀(H3:Hp),Same H2 H3->H3 D=some (.lst ((eX L).map V.int))->Q (.ref D) H3):zV (dP K S) (zN 0) (El K) (fJ K 2) [none] H2 D Q:=by
 have g:(L.map fun r=>V.ref r.t).length=L.length:=Ab _;refine zH (xs:=L.map fun r=>V.ref r.t) (fun j σ ys H3=>∃(v:Option V),σ=[v]/\Same H2 H3/\H3 D=some (.lst ys)/\ys=(eX (L.take j)).map V.int) ?_ ?_ ?_ ?_
 ·exact⟨none,rfl,Same.new h,ae,rfl⟩
 ·rintro j σ ys H3 ⟨v,rfl,sm,a,rfl⟩
  exact sm.seq i
 ·rintro j σ ys H3 x hx c hy ⟨v,rfl,sm,a,rfl⟩
  rw[Ag] at hx;obtain⟨r,f,rfl⟩:=Qr.mp hx;obtain⟨xs,ht,_,h2⟩:=(hr r (Ai f)).b;have es:=O' f;refine⟨_,rfl,r.t,xs,2,_,rfl,rfl,SqT.of (sm _ _ ht),h2,rfl,_,rfl,?_⟩;cases hd:r.x.d with
  |none=>
   rw[hd] at es;refine aC (dX c hy ⟨_,rfl,sm,a,?_⟩);rw[es,QD]
  |some e=>
   rw[hd] at es h2;refine bd ⟨_,rfl,r.t,xs,2,_,rfl,rfl,SqT.of (sm _ _ ht),h2,bz (by rw[g];exact zh ω) c hy a ⟨_,rfl,sm.then h,ae,?_⟩⟩;rw[es,Aj];rfl
 ·rintro σ ys H3 ⟨v,rfl,sm,a,rfl⟩
  rw[g,take_all] at a;exact k H3 sm a
def IK(K:Ae)(Pt:Addr):Sp:=fun vs H Q _=>∃l as oo p D L,vs=[.ref l,.int p,.ref D]/\SqL K H l (as.map V.ref)/\Tps H as oo/\cA oo/\oo.length<=200/\isP p/\TY Pt H/\fH p oo H D L/\∀H',SY Pt H H'->Q (.bl true) H'
def Em:zp ["order","prime","paper","ends","times"] ["order","prime","paper"] (zi wl):=⟨rfl,rfl,rfl,δ,rfl,δ,δ⟩
def Pa(F:Fun K "is_paper" "is_paper" wl f fd)(B:Bt mg)(Co:Cl P w K mg base aR "must_be_order" ["order"] 3 (DV K))(Cp:Cl P w K mg base aR "must_be_prime" ["prime"] 1 DW)(Ct:Cl P w K mg base aR "times_of" ["order"] 1 (D_ K))(Cb:Cl P w K mg base aR "is_bar" ["row","times","prime"] 6 (Ek Pt)):FnOk P w K mg base aR 7 f fd ["order","prime","paper"] (IK K Pt):=by
 refine F.ok Em (fun vs H Q E h=>?_) (fun ar A outer s H vs Q E hr h=>?_)
 ·obtain⟨l,as,oo,p,D,L,rfl,_⟩:=h;rfl
 ·obtain⟨l,as,oo,p,D,L,rfl,J,ht,ho,N,hp,tb,c,k⟩:=h
  have aF:=hr.units;have O:=DK ho;have h2:=hp.pr.1.two;have aJ:=ht.length;have cY:=jW c.pap (Af _);refine⟨_,ze (fM (zE Co hr rfl ak (zc (pv 0) zd))) (ze (fM (zE Cp hr rfl ak (zc (pv 1) zd)))
   (ze (zt (i:=3) Em.nd rfl (Or.inl rfl) (zy kc (zq ["order","prime","paper","ends","times"] ["row"] [none] (zD (pv 2)) (fun d C s₀ H₀ ex=>zk (i:=0) (cz ["row"]) rfl (Or.inl rfl)) (fun d C s₀ H₀ ex=>zF) (fun d C s₀ H₀ ex=>zA zv (pv 0) zf (fun _ _=>rfl)) (hfr:=cI δ) (te:=fJ K 1))
    (zq ["order","prime","paper","ends","times"] ["row"] [none] (zD (pv 2)) (fun d C s₀ H₀ ex=>zk (i:=0) (cz ["row"]) rfl (Or.inl rfl)) (fun d C s₀ H₀ ex=>jC (zn nY (zA zv (pv 0) zf (fun _ _=>rfl)) ek (al _))) (fun d C s₀ H₀ ex=>zA zv (pv 0) zf (fun _ _=>rfl)) (hfr:=cI δ) (tc:=El K) (te:=fJ K 2))))
   (ze (zQ (zn (IB aF) (zl rZ rfl B.sorted mP (zc (pv 3) zd)) (zu (IA rfl) rfl B.list fh (zc (zu Iz rfl B.range ID (zc (zl zo rfl B.len dv (zc (pv 0) zd)) zd)) zd)) (al _)) (zg (zm cU)) zr)
   (ze (zt (i:=4) Em.nd rfl (Or.inr rfl) (zE Ct hr rfl ak (zc (pv 0) zd)))
   (zg (zm (zl (kE rfl) rfl B.all kM (zc (zq ["order","prime","paper","ends","times"] ["row","times","prime"] [none,some 4,some 1] (zD (pv 2)) (fun d C s₀ H₀ ex=>zk (i:=0) (cz ["row","times","prime"]) rfl (Or.inl rfl)) (fun d C s₀ H₀ ex=>zF)
    (fun d C s₀ H₀ ex=>zE Cb hr rfl ak (zc (pv 0) (zc (pv 1) (zc (pv 2) zd)))) (hfr:=cx (zi wl) δ) (te:=jq (Ek Pt) [] E0 (zJ (ax 0) (zJ (ax 1) (zJ (ax 2) br))))) zd)))))))),?_⟩
  refine⟨_,rfl,l,as,oo,rfl,J,ht,N,ho,fun H1 g=>?_⟩;refine⟨_,rfl,p,rfl,hp,?_⟩;have pr:∀{H':Hp},Same H1 H'->∀r∈L,RwAt H' r:=fun s' r hr'=>(c.rw r hr').sf (Same.sf (P:=Pt) (pos:=i') (q:=qY) (g.trans s'));refine⟨_,rfl,D,rfl,⟨_,SqL.of (g _ _ c.hD)⟩,fun D2 a_=>zx (wz (SqL.of (g _ _ c.hD)) (pr (Same.refl _)) ω a_ fun H2 G gZ=>?_)⟩;refine⟨_,rfl,D,rfl,⟨_,SqL.of ((g.trans G) _ _ c.hD)⟩,fun D3 ag=>zx (IJ (SqL.of ((g.trans G) _ _ c.hD)) (pr G) ω ag fun H3 X gm=>?_)⟩;have cy:=IF c.pap;have hlen:(cP L).length+(eX L).length=oo.length:=by
   have:=cy.length_eq;rw[Ar,Ab,Ab,QR] at this;unfold cP eX;rw[Ab,Ab];exact this
  refine⟨D2,D3,_,_,rfl,rfl,X _ _ gZ,gm,by rw[Ab,Ab];exact zh ω,fun q hq=>?_⟩;have s4:=Same.new (o:=.lst ((cP L).map V.int++(eX L).map V.int)) hq;refine⟨_,rfl,q,cP L++eX L,rfl,SqL.of (by rw[ae,Aj]),by rw[Ar];omega,fun W u fu cX bb=>?_⟩;have s5:=Same.new (o:=.lst (u.map V.int)) bb;have S:=(((g.trans G).trans X).trans s4).trans s5;have dM:=ae (H:=upd H3 q (.lst ((cP L).map V.int++(eX L).map V.int))) (a:=W) (o:=.lst (u.map V.int));generalize upd (upd H3 q (.lst ((cP L).map V.int++(eX L).map V.int))) W (.lst (u.map V.int))=H5 at s5 S dM;refine⟨_,rfl,l,_,rfl,.inl (S.seq J),_,rfl,fun R hR=>?_⟩;have s6:=Same.new (o:=.rng 0 ((as.map V.ref).length:Nat)) hR;refine⟨R,(as.map V.ref).length,rfl,ae,by rw[Ab];omega,fun M hM=>?_⟩;have s7:=Same.new (o:=.lst (((AD (as.map V.ref).length).map fun k:Nat=>(k:Int)).map V.int)) hM;have sC:=s6.trans s7;refine⟨W,M,u,_,rfl,rfl,SqL.of (sC _ _ dM),SqL.of ae,_,rfl,?_⟩;have em:u=(AD (as.map V.ref).length).map fun k:Nat=>(k:Int):=by
   refine wh (fu.trans ?_) cX (IG _);have:=cy.map (fun k:Nat=>(k:Int));rw[Aj,Am] at this;have e1:(bW L).map ((fun k:Nat=>(k:Int)) ∘ fun x=>x.b)=cP L:=by unfold bW cP;rw[Am];rfl
   rw[e1] at this;rw[Ab,aJ];exact this
  rw[Tj em];have U:=S.trans sC;refine aC ⟨_,rfl,l,as,oo,rfl,U.seq J,U.tps ht,O.nd,N,fun T H8 s8 jh vc=>?_⟩;have I:=U.trans s8;have dj:(L.map fun r=>V.ref r.t).length=L.length:=Ab _;refine⟨_,rfl,D,rfl,⟨_,SqL.of (I _ _ c.hD)⟩,fun D9 Y=>zx (zH (xs:=L.map fun r=>V.ref r.t) (fun j σ ys H'=>∃(v:Option V),σ=[v,some (.ref T),some (.int p)]/\SY Pt H8 H'/\H' D9=some (.lst ys)/\ys=((L.map fun _=>true).take j).map V.bl) ?_ ?_ ?_ ?_)⟩
  ·exact⟨none,rfl,Same.sf (Same.new Y),ae,rfl⟩
  ·rintro j σ ys H' ⟨v,rfl,f,y,rfl⟩
   exact f.seq (SqL.of (I _ _ c.hD))
  ·rintro j σ ys H' x hx hj hy ⟨v,rfl,f,y,rfl⟩
   rw[Ag] at hx;obtain⟨r,er,rfl⟩:=Qr.mp hx;have cC:=Ai er;have e:(L.map fun _=>true)[j]?=some true:=by rw[Ag,er];rfl
   have f0:SY Pt H H':=(Same.sf I).trans f;refine b0 ⟨_,rfl,_,rfl,_,rfl,r,T,oo,p,bW L,rfl,(c.rw r cC).sf f0,f.rd (.inl vc),O,N,ω,c.pap,Qj.mpr ⟨r,cC,rfl⟩,f0.tab tb,fun w6 qC=>?_⟩;have jj:=qC.lst y;exact bz (by rw[dj];exact zh ω) hj hy jj ⟨_,rfl,(f.trans qC).put Y jj,ae,by rw[AH e,Aj];rfl⟩
  ·rintro σ ys H' ⟨v,rfl,f,y,rfl⟩
   rw[dj,As (by rw[Ab];exact Af _)] at y;refine⟨D9,_,rfl,SqL.of y,?_⟩;rw[show(L.map fun _=>true).all id=true by rw[SO];exact Qs.mpr fun _ _=>rfl];exact k H' ((Same.sf I).trans f)
end
end K64
end
section
namespace L2.Rm
open PySem PySem.Spec PySem.MeetsSeq PySem.SeqAt
open PySem.AutoSeq1 (wpAny_loadPart')
abbrev Pre(l:Addr)(af:Array Value)(n:Nat)(x:Value)(e:Value->Bool)(j:Nat):PySem.Spec:=fun A R s=>
 s.heap.get? l=some {cls:=.type "list",dict:=none,data:=.seq af n,slots:=#[]}/\(∀y,y∈af->EqAt A.in1 s y x (e y))/\R (.ok (.ret .none)) {s with heap:=s.heap.update l (AS fun xs=>xs.eraseIdxIfInBounds j)}
section
variable{l:Addr}{af:Array Value}{n:Nat}{x:Value}{e:Value->Bool}{j:Nat}
def Pb(f:j<af.size)(v:e af[j]=true)(hz:af.size<=sizeLine)(k:Nat):∀i:Nat,j-i=k->i<=j->(∀m(hm:m<af.size),i<=m->m<j->e af[m]=false)->Meets (Builtin.«list.remove.loop» ⟨[.ref l,x,rawInt i],[]⟩) (Pre l af n x e j):=by
 induction k with
 |zero=>
  intro i e1 e2 d prog w A R s h;obtain⟨g,o,p,q,r⟩:=s;obtain⟨c,hq,h⟩:=h;obtain rfl:i=j:=ω
  wp_walk using wpAny_loadPart' c
  rw[show af[((i:Nat):Int).toNat]?=some af[i] by simp[f]];refine Aa (hq _ (Array.getElem_mem f) prog w _ _ ?_);rw[v];have u:(af.eraseIdxIfInBounds i).size<=sizeLine+1:=Ss (AA (size_erased af i) hz)
  wp_walk using (wpAny_updateSeq c rfl (hz:=hz) (_hz':=u)),wpAny_loadPart' c
  simpa using h
 |succ k ih=>
  intro i e1 e2 d prog w A R s h;obtain⟨g,o,p,q,r⟩:=s;obtain⟨c,hq,h⟩:=h;have lt:i<af.size:=ω
  wp_walk using wpAny_loadPart' c
  rw[show af[((i:Nat):Int).toNat]?=some af[i] by simp[lt]];refine Aa (hq _ (Array.getElem_mem lt) prog w _ _ ?_);rw[d i lt (Af _) ω]
  wp_walk
  rw[show((i:Int)+1)=((i+1:Nat):Int) by push_cast;rfl];refine⟨plainId_quiet plain_remove_loop _,Bh entry_remove_loop ?_⟩;rw[A4 plain_remove_loop _];exact ih (i+1) ω ω (fun m hm a b=>d m hm ω b) prog w A R _ ⟨c,hq,h⟩
def rm(c:j<af.size)(d:e af[j]=true)(f:∀m(hm:m<af.size),m<j->e af[m]=false)(hz:af.size<=sizeLine):Meets (Builtin.«list.remove» ⟨[.ref l,x],[]⟩) (Pre l af n x e j):=by
 intro prog w A R s h;obtain⟨g,i,o,p,q⟩:=s;obtain⟨a,hq,h⟩:=h
 wp_walk using wpAny_loadPart' a
 refine⟨plainId_quiet plain_remove_loop _,Bh entry_remove_loop ?_⟩;rw[A4 plain_remove_loop _];exact Pb c d hz _ 0 rfl (A6 _) (fun m hm _ b=>f m hm b) prog w A R _ ⟨a,hq,h⟩
end
end L2.Rm
namespace L2
open PySem PySem.Spec PyProof.Rows
def zm8:V->List V->Hp->VK->Prop:=fun x vs H Q=>∃l a as ad ps j,x=.ref l/\vs=[.ref a]/\H l=some (.lst (List.map V.ref as))/\Tps H as ad/\Tp H a ps/\ad[j]?=some ps/\(∀m q,m<j->ad[m]?=some q->q≠ps)/\Q .non (upd H l (.lst ((as.eraseIdx j).map V.ref)))
def IL{c d:Type}(f:c->d):∀(l:List c)(i:Nat),(l.eraseIdx i).map f=(l.map f).eraseIdx i
 |[],_=>rfl
 |_::_,0=>rfl
 |a::r,i+1=>by show f a::(r.eraseIdx i).map f=f a::(r.map f).eraseIdx i;rw[IL f r i]
section
variable{X:Cx}
def Pc(hu:X.A.in1.units<cLine):oe X "list.remove" zm8:=by
 intro aa s σ H x vs v us Q I i o h;obtain⟨l,a,as,ad,ps,j,rfl,rfl,d,ht,ha,f,w,q⟩:=h;cases i;obtain⟨u,rfl,C⟩:=o.one;cases C;obtain⟨z,af,n,r,D,e⟩:=I.lstM d;obtain rfl:=bf r;have G:=ht.length;have J:j<ad.length:=(KK.mp f).1;have g:∀m(hm:m<(as.map Value.ref).toArray.size) q,ad[m]?=some q->jF H ps ((as.map Value.ref).toArray[m])=decide (q=ps):=fun m hm q hq=>by
  have c:m<as.length:=by simpa using hm
  obtain⟨E,e1,e2⟩:=ht.get (Ah c);rw[hq] at e1;cases e1;have:(as.map Value.ref).toArray[m]=.ref as[m]:=by simp
  rw[this];exact C0 e2
 refine call_meets F.slot_list_remove ⟨_,e,rfl⟩ F.entry_list_remove (F.args_list_remove_2 _ _)
  (Rm.rm (e:=jF H ps) (j:=j) (by simp;omega) (by rw[g j _ ps f];exact Tj rfl) (fun m hm p=>?_) (by rw[Ao];rw[Ab] at z D;omega)) ⟨e,fun y hy=>Gm I ha hu ht y (by simpa using hy),?_⟩
 ·have c:m<ad.length:=ω
  rw[g m hm _ (Ah c)];exact Tk (w m _ p (Ah c))
 ·refine⟨.non,_,I.lset (its':=(as.map Value.ref).eraseIdx j) d e ?_ ?_ ?_,rfl,q⟩
  ·show(as.map Value.ref).toArray.eraseIdxIfInBounds j=((as.map Value.ref).eraseIdx j).toArray
   rw[List.eraseIdxIfInBounds_toArray]
  ·rw[IL]
   exact r.eraseIdx j
  ·have:=Fu as j
   rw[Ab] at z ⊢;omega
end
end L2
end
section
namespace L2
open PySem PySem.Spec PyProof.Rows
def IM{env env0:Env}{scope a:Scope}(c:env.scope=relabel a env0)(h:scope.names.all (fun y=>decide (y.2≠.free)|| decide (a.names.lookup y.1=some .cell)|| decide (a.names.lookup y.1=some .free))=true):∀y∈scope.names,y.2=.free->env.kindOf y.1=some .cell\/env.kindOf y.1=some .free:=by
 intro y hy e;have:=Qs.mp h y hy;simp only[Bool.or_eq_true,decide_eq_true_eq] at this;have key:a.names.lookup y.1=some .free\/a.names.lookup y.1=some .cell:=by
  rcases this with (q|q)|q
  ·exact absurd e q
  ·exact .inr q
  ·exact .inl q
 have:=CQ (scope:=a) (env:=env0) key;unfold Env.kindOf;rw[c];rcases this with q|q
 ·exact .inr q
 ·exact .inl q
end L2
end
section
namespace K64
open K1
open PySem L2 STb
noncomputable abbrev wA:Stmt:=top 42
def IN{a b:List Int}(h:kle a b=true):a.length<=b.length:=by
 rw[mW] at h;rcases Rj b.length a.length with c|c
 ·exfalso
  have:HT.lexLt (key b) (key a)=true:=by
   show HT.lexLt ((b.length:Int)::b) ((a.length:Int)::a)=true;rw[HT.zM,Ti ω];exact Tj ω
  rw[this] at h;cases h
 ·exact c
def Tps.erase{H:Hp}:∀{as:List Addr}{ad:Ξ}(n:Nat),Tps H as ad->Tps H (as.eraseIdx n) (ad.eraseIdx n)
 |_,_,_,.nil=>.nil
 |_,_,0,.cons _ t=>t
 |_,_,n+1,.cons r t=>.cons r (Tps.erase n t)
def IP{c:Type}:∀{l:List c}{j:Nat}{x:c},l[j]?=some x->l.Perm (x::l.eraseIdx j)
 |[],_,_,h=>by simp at h
 |a::r,0,x,h=>by
  have e:a=x:=by simpa using h
  subst e;exact List.Perm.refl _
 |a::r,j+1,x,h=>((IP (l:=r) (j:=j) (by simpa using h)).cons a).trans (List.Perm.swap x a _)
structure Og(ad f l:Ξ):Prop where
 pm:(f++l).Perm (canon ad)
 sb:l.Sublist (canon ad)
 od:cA f
noncomputable def ca(f:Ξ)(p:List Int):Bool:=decide (((rims p).filter fun q=>!decide (q∈f)).length=0)
def IR{f:Ξ}{p:List Int}:ca f p=true↔∀q∈rims p,q∈f:=by
 unfold ca;rw[decide_eq_true_eq,List.length_eq_zero_iff,List.filter_eq_nil_iff];refine⟨fun h q hq=>?_,fun h q hq=>?_⟩
 ·have:=h q hq
  cases e:decide (q∈f) with
  |true=>exact Tl e
  |false=>rw[e] at this;exact absurd rfl this
 ·rw[Tj (h q hq)];decide
section
variable{ad f l:Ξ}(hw:eg ad=true)(g:Og ad f l)
include hw g
theorem Og.rim{p q:List Int}(hp:p∈canon ad)(hq:q∈rims p):q∈f\/q∈l:=by
 obtain⟨h1,k,hk,e⟩:=tm.mp hq;obtain⟨a,c⟩:=De hk e;have h:q≠[]:=fun z=>by
  rw[z] at e;have:=congrArg List.length e;rw[Ar,AC,QE,QY] at this;have:=R8.mpr (zW.mp (Dz hw hp)).1;omega
 have:q∈canon ad:=by
  obtain⟨_,t,ht,d⟩:=nf.mp hp;exact nf.mpr ⟨h,t,ht,a.trans d⟩
 exact Qm.mp (g.pm.mem_iff.mpr this)
theorem Og.able{a:List Int}{r:Ξ}(e:l=a::r):ca f a=true:=by
 subst e;refine IR.mpr fun q hq=>?_;have ha:a∈canon ad:=g.sb.subset Ay;rcases Og.rim hw g ha hq with h|h
 ·exact h
 ·exfalso
  obtain⟨h1,k,hk,e⟩:=tm.mp hq;have c:=(De hk e).2;rcases Qk.mp h with z|z
  ·rw[z] at c;omega
  ·have hp:=(Da ad).sublist g.sb
   have:=IN ((Q9.mp hp).1 q z);omega
theorem Og.next{p:List Int}{j:Nat}(d:l[j]?=some p)(ha:ca f p=true):Og ad (f++[p]) (l.eraseIdx j):=by
 have a:p∈l:=Ai d;have e:p∈canon ad:=g.sb.subset a;have c:(f++l).Nodup:=g.pm.nodup_iff.mpr (sY ad);refine⟨?_,(List.eraseIdx_sublist _ _).trans g.sb,HB g.od (p0.mpr ⟨Dz hw e,fun h=>?_,IR.mp ha⟩)⟩
 ·rw[A1]
  exact(List.Perm.append_left f (IP d).symm).trans g.pm
 ·exact(List.nodup_append.mp c).2.2 p h p a rfl
end
def Pd{l:Ξ}(a:l.Nodup){p:List Int}(hp:p∈l):∃j:Nat,l[j]?=some p/\∀m q,m<j->l[m]?=some q->q≠p:=by
 obtain⟨j,e⟩:=Qn.mp hp;refine⟨j,e,fun m q hm eq z=>?_⟩;subst z;have h1:=(KK.mp e);have h2:=(KK.mp eq);have:=Qu.mp (List.nodup_iff_pairwise_ne.mp a) m j h2.1 h1.1 hm;exact this (by rw[h2.2,h1.2])
noncomputable abbrev IS:List Str:=["box","known","left","found","able","piece"]
abbrev En(K:Ae):TE:=iq (EV K (jq k7 [] E0 (zJ (ax 0) br))) [none,some 1] (zN 0) (eB (cp (hW true K) (ax 0) (ax 1))) (ax 0)
abbrev Pe(K:Ae):TT:=eB (cp nP (gS (Dj K) (zJ (En K) br)) (tC (.int 0)))
section
variable{P:Program}{w:World}{K:Ae}{mg:Str->Option Value}{base:Heap}
def Pf{H2:Hp}{L d D:Addr}{as fs:List Addr}{c a:Ξ}{Q:VK}(g:SqL K H2 L (as.map V.ref))(ht:Tps H2 as c)(h:SqL K H2 d (fs.map V.ref))(hf:Tps H2 fs a)(hz:c.length<=1000)(i:H2 D=none)(k:∀(H3:Hp)(bs:List Addr),Same H2 H3->H3 D=some (.lst (bs.map V.ref))->Tps H3 bs (c.filter fun p=>!decide (p∈a))->Q (.ref D) H3):zV (dP K L) (zN 0) (eB (cp (hW true K) (ax 0) (ax 1))) (ax 0) [none,some (.ref d)] H2 D Q:=by
 refine G9 (p:=fun p=>!decide (p∈a)) (fun o os H' R sm e _ f=>⟨_,rfl,_,rfl,o,d,os,fs,a,rfl,rfl,e,sm.seq h,sm.tps hf,_,rfl,?_⟩) g ht hz i k;rw[Th rfl];exact f H' (Same.refl _)
def IT(K:Ae):Sp:=fun vs H Q _=>∃p l as ad,vs=[.ref p,.ref l]/\zY H p/\SqL K H l (as.map V.ref)/\H l=some (.lst (as.map V.ref))/\Tps H as (canon ad)/\eg ad=true/\∀D H' bs a,zG p H H'->zY H' p->H' D=some (.lst (bs.map V.ref))->Tps H' bs a->cA a->a.Perm (canon ad)->Q (.ref D) H'
def p8:zp IS ["box","known"] (zi wA):=⟨rfl,rfl,rfl,δ,rfl,δ,δ⟩
def Pg{f:Addr}{fd:FuncData}(F:Fun K "_law_order" "_law_order" wA f fd)(B:Bt mg)(Ct:Cl P w K mg base aR "_law_take" ["box","most"] 1 mU)(Cr:Cl P w K mg base aR "_law_rims" ["piece"] 1 k7):FnOk P w K mg base aR 2 f fd ["box","known"] (IT K):=by
 refine F.ok p8 (fun vs H Q E h=>?_) (fun ar A outer s H vs Q E hr h=>?_)
 ·obtain⟨p,l,as,ad,rfl,_⟩:=h;rfl
 ·obtain⟨p,l,as,ad,rfl,hb,hl,mX,ht,hw,k⟩:=h
  have aF:=hr.units;refine⟨_,ze (zt (i:=2) p8.nd rfl (Or.inl rfl) (zu BV rfl B.list fh (zc (pv 1) zd)))
   (ze (zt (i:=3) p8.nd rfl (Or.inr rfl) (fy zd))
   (ze (EU AL (zn (rY aF) (pv 2) (fy zd) (al _))
    (ze (DX (i:=4) p8.nd rfl (Or.inl rfl) IS ["piece","found"] [none,some 3] (zD (pv 2)) (fun O C s₀ H₀ ex=>zk (i:=0) (cz ["piece","found"]) rfl (Or.inl rfl))
     (fun O C s₀ H₀ ex=>jC (zn fY (zl zo rfl B.len dv (zc (zq ["piece","found"] ["rim","found"] [none,some 1] (zD (zE Cr hr rfl ak (zc (pv 0) zd))) (fun O C s₀ H₀ ex=>zk (i:=0) (cz ["rim","found"]) rfl (Or.inl rfl))
      (fun O C s₀ H₀ ex=>jC (zn (r:=hW true K) (Go (in1_units aF)) (pv 0) (pv 1) (by with_unfolding_all rfl))) (fun O C s₀ H₀ ex=>pv 0) (hfr:=IM rfl δ) (tc:=eB (cp (hW true K) (ax 0) (ax 1)))) zd)) zf (al _)))
     (fun O C s₀ H₀ ex=>pv 0) (hfr:=cx (zi wA) δ) (tc:=Pe K))
    (ze (zt (i:=5) p8.nd rfl (Or.inl rfl) (zA zU (pv 4) (zE Ct hr rfl ak (zc (pv 0) (zc (zl zo rfl B.len dv (zc (pv 4) zd)) zd))) (fun _ _=>rfl)))
    (ze (fM (g0 Qt QF QG js (pv 3) (zc (pv 5) zd)))
    (zg (fM (g0 Qt PySem.F.slot_list_remove PySem.F.type_list_remove (Pc (in1_units aF)) (pv 2) (zc (pv 5) zd))))))))
   (zg (zm (pv 3))))),?_⟩
  obtain⟨_,_,_,ay⟩:=Dc hw;rw[<-Db] at ay;refine⟨_,rfl,l,_,rfl,.inl hl,fun v mE=>⟨zh (by simp),fun g kG=>?_⟩⟩;have sL:=Same.new (o:=.lst (as.map V.ref)) mE;have sF:=Same.new (o:=.lst []) kG;have s2:=sL.trans sF;have nG:=sF _ _ (ae (H:=H) (a:=v) (o:=.lst (as.map V.ref)));have qJ:v≠g:=zj (ae (H:=H) (a:=v) (o:=.lst (as.map V.ref))) kG;have re:v≠p:=by obtain⟨x,y,h,_⟩:=hb;exact Ne.symm (zj h mE)
  have U:g≠p:=by obtain⟨x,y,h,_⟩:=hb.same sL;exact Ne.symm (zj h kG)
  have W:H g=none:=sL.free kG;refine⟨fun m σ H3=>∃(ls fs:List Addr)(c d:Ξ)(v4 v5:Option V),m=c.length/\σ=[some (.ref p),some (.ref l),some (.ref v),some (.ref g),v4,v5]/\zG p H H3/\zY H3 p/\H3 v=some (.lst (ls.map V.ref))/\Tps H3 ls c/\H3 g=some (.lst (fs.map V.ref))/\Tps H3 fs d/\Og ad d c,
   ⟨_,as,[],canon ad,[],none,none,rfl,rfl,fun b o _ e=>s2 _ _ e,hb.same s2,nG,s2.tps ht,ae,.nil,⟨List.Perm.refl _,List.Sublist.refl _,HA⟩⟩,?_⟩
  rintro m σ H3 ⟨ls,fs,c,d,v4,v5,rfl,rfl,cw,bw,sw,lI,vO,gz,M⟩;have qr:=lI.length;have pJ:=gz.length;have hpl:=M.pm.length_eq;rw[Ar] at hpl;refine⟨_,rfl,zh (by simp),fun T hT=>.inr ⟨v,T,ls,[],c,[],rfl,rfl,SqL.of ((Same.new hT) _ _ sw),(Same.new hT).tps lI,SqL.of ae,.nil,_,rfl,?_⟩⟩;have I:=Same.new (o:=.lst []) hT;have mC:zG p H _:=fun b o G e=>I _ _ (cw b o G e);have nH:=bw.same I;have lw:=I _ _ sw;have mh:=I.tps lI;have kF:=I _ _ vO;have lR:=I.tps gz;generalize upd H3 T (.lst [])=H4 at I mC nH lw mh kF lR;rw[Th rfl];cases ii:c with
  |nil=>
   rw[Tj rfl];refine aC ⟨_,rfl,k g H4 fs d mC nH kF lR M.od ?_⟩;have:=M.pm;rw[ii,QD] at this;exact this
  |cons a0 r0=>
   rw[Tk (by simp),<-ii];refine bd ⟨_,fun am H' h=>h,?_⟩;refine⟨_,rfl,v,rfl,⟨_,SqL.of lw⟩,fun D hD=>zx (G9 (p:=ca d) (fun o os H' R sm ho S hR=>?_) (SqL.of lw) mh ω hD fun H5 cs J bb kY=>?_)⟩
   ·have uN:os.length<=5:=(zW.mp (Dz hw (M.sb.subset S))).2.1
    refine⟨_,rfl,o,os,rfl,ho,uN,fun RL u rs s6 _ qZ xO=>⟨RL,rfl,⟨_,SqL.of qZ⟩,fun D7 o_=>zx (Pf (SqL.of qZ) xO (SqL.of ((sm.trans s6) _ _ kF)) ((sm.trans s6).tps lR) (AA (k4 _) ω) o_ fun H7 bs s7 pL dz=>⟨D7,_,rfl,.inl (SqL.of pL),rfl,_,rfl,?_⟩)⟩⟩;have eI:=dz.length;have:=hR H7 (s6.trans s7);rw[Ab,eI];have e:decide (V.int ((((rims os).filter fun q=>!decide (q∈d)).length:Nat):Int)=V.int 0)=ca d os:=by
     unfold ca;rw[Rp,decide_eq_true_eq,decide_eq_true_eq];exact⟨fun h=>by injection h with h;omega,fun h=>by rw[h];rfl⟩
    rw[e];exact this
   have hcl:=kY.length;have hne:0<(c.filter (ca d)).length:=List.length_pos_of_mem (Qx.mpr ⟨by rw[ii];exact Ay,Og.able hw M ii⟩);have yA:=RF (ca d) c;have X:=nH.same J;refine⟨_,rfl,_,rfl,_,rfl,D,_,rfl,.inl (SqL.of bb),?_⟩;refine⟨p,_,rfl,X,by rw[Ab];omega,by rw[Ab];omega,fun r6 u uq mo L du=>?_⟩;rw[Ab,hcl] at mo;obtain⟨n,rfl⟩:=Qz uq;have hn:n<(c.filter (ca d)).length:=ω
   have en:(c.filter (ca d))[n]?=some (c.filter (ca d))[n]:=Ah hn;have nJ:cs[n]?=some (cs[n]'ω):=Ah ω;have hq:=Bi hn;generalize (c.filter (ca d))[n]=q at en hq;generalize cs[n]'ω=t at nJ;obtain⟨hql,wn⟩:=Qx.mp hq;have pP:D≠p:=X.ne bb;have y3:=I.trans J;refine⟨D,_,_,.ref t,rfl,rfl,SqL.of (L _ _ pP bb),gw (by rw[Ag,nJ];rfl),?_⟩;have gr:Tp H5 t q:=r9 kY n t q nJ en;have dU:Tp u t q:=L _ _ (X.net gr) gr;have Y:=L _ _ U (J _ _ kF);have wT:=L.tps X (J.tps lR);have eW:=L _ _ re (J _ _ lw);have x_:=L.tps X (J.tps mh);have eC:zG p H u:=fun b o G e=>L b o G (J _ _ (mC b o G e));refine⟨_,rfl,.inl ⟨rfl,_,SqL.of Y⟩,_,rfl,g,_,.ref t,rfl,rfl,Y,by rw[Ab];exact zT ω,?_⟩;have rJ:=ae (H:=u) (a:=g) (o:=.lst (fs.map V.ref++[.ref t]));have jG:upd u g (.lst (fs.map V.ref++[.ref t])) v=some (.lst (ls.map V.ref)):=by rw[ah qJ];exact eW
   have N:Tps (upd u g (.lst (fs.map V.ref++[.ref t]))) ls c:=Tps.upd x_ Y (by intro xs z;cases z);have qx:Tps (upd u g (.lst (fs.map V.ref++[.ref t]))) (fs++[t]) (d++[q]):=Tps.upd (Tps.snoc wT dU) Y (by intro xs z;cases z);have fR:Tp (upd u g (.lst (fs.map V.ref++[.ref t]))) t q:=by
    show upd u g _ t=_;rw[ah (aV dU Y (by intro z;cases z))];exact dU
   have dz:=du.upd (o:=.lst (fs.map V.ref++[.ref t])) U;have jK:zG p H (upd u g (.lst (fs.map V.ref++[.ref t]))):=fun b o G e=>by rw[ah (zj e W)];exact eC b o G e
   generalize upd u g (.lst (fs.map V.ref++[.ref t]))=H7 at rJ jG N qx fR dz jK;have hnd:c.Nodup:=(sY ad).sublist M.sb;obtain⟨j,ej,ic⟩:=Pd hnd hql;refine⟨_,rfl,.inl ⟨rfl,_,SqL.of jG⟩,_,rfl,v,t,ls,c,q,j,rfl,rfl,jG,N,fR,ej,ic,?_⟩;refine⟨_,?_,ls.eraseIdx j,fs++[t],c.eraseIdx j,d++[q],_,_,rfl,rfl,fun b o G e=>by rw[ah (zj e mE)];exact jK b o G e,dz.upd re,ae,Tps.upd (Tps.erase j N) jG (by intro xs z;cases z),by rw[ah (Ne.symm qJ),rJ,Aj];rfl,Tps.upd qx jG (by intro xs z;cases z),Og.next hw M ej wn⟩;have hj:=(KK.mp ej).1;rw[List.length_eraseIdx_of_lt hj];omega
end
noncomputable def hT(ps:List Int):Int:=reduceHash (Builtin.Tuple.tupleHashOf (ps.map hashInt))
noncomputable def qa(m:Nat):List Int->Nat->Bool
 |[],_=>true
 |h::t,acc=>(Nat.beq (Nat.land 1 (Nat.shiftRight acc (h%(m:Int)).toNat)) 0)&&qa m t (Nat.lor acc (Nat.shiftLeft 1 (h%(m:Int)).toNat))
def Ph(a b:Nat):Nat.beq (Nat.land 1 (Nat.shiftRight a b)) 0=!a.testBit b:=by
 unfold Nat.testBit;show Nat.beq (1 &&& (a >>> b)) 0=!(1 &&& (a >>> b) != 0);cases h:(1 &&& (a >>> b)) with
 |zero=>rfl
 |succ n=>rfl
def Eo(m:Nat):∀(l:List Int)(acc:Nat),qa m l acc=true->(∀h∈l,acc.testBit (h%(m:Int)).toNat=false)/\l.Nodup
 |[],_,_=>⟨(fun h x=>nomatch x),QH⟩
 |h::t,acc,e=>by
  unfold qa at e;rw[AM,Ph] at e;obtain⟨e1,e2⟩:=e;obtain⟨i1,i2⟩:=Eo m t _ e2;have a:acc.testBit (h%(m:Int)).toNat=false:=by simpa using e1
  have key:∀x∈t,acc.testBit (x%(m:Int)).toNat=false/\(x%(m:Int)).toNat≠(h%(m:Int)).toNat:=fun x hx=>by
   have:=i1 x hx;rw[show Nat.lor acc (Nat.shiftLeft 1 (h%(m:Int)).toNat)=acc||| (1 <<< (h%(m:Int)).toNat) from rfl,Nat.testBit_or,Bool.or_eq_false_iff,Nat.one_shiftLeft,Nat.testBit_two_pow] at this;exact⟨this.1,fun z=>by have:=this.2;simp[z] at this⟩
  refine⟨fun x hx=>?_,Qp.mpr ⟨fun hx=>(key h hx).2 rfl,i2⟩⟩;rcases Qk.mp hx with rfl|hx
  ·exact a
  ·exact(key x hx).1
noncomputable def up:Nat->Int->Ξ
 |0,_=>[[]]
 |m+1,k=>up m (k+1)++(up m (k+1)).map (k::·)
def wM:∀(m:Nat)(k:Int)(e:List Int),e.Pairwise (·<·)->(∀x∈e,k<=x/\x<k+m)->e∈up m k
 |0,k,e,_,h=>by
  cases e with
  |nil=>exact Ql.mpr rfl
  |cons x r=>have:=h x Ay;omega
 |m+1,k,e,hp,h=>by
  unfold up;rw[Qm];cases e with
  |nil=>exact .inl (wM m (k+1) [] .nil (fun x hx=>nomatch hx))
  |cons x r=>
   obtain⟨h1,h2⟩:=Q9.mp hp
   by_cases hx:x=k
   ·subst hx
    exact .inr (Qj.mpr ⟨r,wM m (x+1) r h2 (fun y hy=>by have:=h1 y hy;have:=h y (Aw _ hy);omega),rfl⟩)
   ·refine .inl (wM m (k+1) _ hp fun y hy=>?_)
    have a:=h x Ay;rcases Qk.mp hy with rfl|hy'
    ·omega
    ·have:=h1 y hy';have:=h y (Aw _ hy');omega
noncomputable def jZ:Ξ:=(up 8 0).filter fun e=>Nat.ble e.length 5
noncomputable def qf:Ξ:=[[99]]
noncomputable def ig(f g:Int):Ξ:=jZ.map (db f g)++qf
noncomputable def Ep:List Nat:=[3508,2875,2637,3018,2995,2629,2724,3329,2756,3060,2494,2864,2446,3181,3868,3309,3064,3474,3723,2552,3628,3436,3303,3187,3606,2805,3263,2928,2667,3442,3709,2994,3281,2210,3423,3180]
noncomputable def IU(i:Nat):Bool:=qa (Ep.getD i 1) ((ig ((i / 3:Nat):Int) ((i%3+1:Nat):Int)).map hT) 0
def Pi:∀i,i<36->IU i=true:=δ
def Er{c d:Type}{f:c->d}:∀{l:List c},(l.map f).Nodup->∀x∈l,∀y∈l,f x=f y->x=y
 |[],_,_,hx,_,_,_=>absurd hx (by simp)
 |a::l,h,x,hx,y,hy,e=>by
  rw[At,Qp] at h;rcases Qk.mp hx with q|hx'
  ·rcases Qk.mp hy with r|hy'
   ·rw[q,r]
   ·exact absurd (Qj.mpr ⟨y,hy',by rw[<-e,q]⟩) h.1
  ·rcases Qk.mp hy with r|hy'
   ·exact absurd (Qj.mpr ⟨x,hx',by rw[e,r]⟩) h.1
   ·exact Er h.2 x hx' y hy' e
def IV{P:Program}{w:World}(ps:List Int):tupleKeyHash (intKind P w) ps=hT ps:=rfl
def Nm(f g:Int):Prop:=0<=f/\f<12/\1<=g/\g<=3
def Pj{f g:Int}(h:Nm f g){x y:List Int}(hx:x∈ig f g)(hy:y∈ig f g)(e:hT x=hT y):x=y:=by
 obtain⟨a,f1,c,g1⟩:=h;obtain⟨i,rfl⟩:=Qz a;obtain⟨j,d⟩:=Qz (show 0<=g-1 from ω);obtain rfl:g=((j+1:Nat):Int):=ω
 have h:=Pi (3*i+j) ω;unfold IU at h;rw[show(3*i+j) / 3=i from ω,show(3*i+j)%3+1=j+1 from ω] at h;exact Er (Eo _ _ _ h).2 x hx y hy e
def Rz(e:List Int):Prop:=e.Pairwise (·<·)/\(∀x∈e,0<=x/\x<=7)/\e.length<=5
def Rz.sub{e d:List Int}(h:Rz e)(s:d.Sublist e):Rz d:=⟨h.1.sublist s,fun x hx=>h.2.1 x (s.subset hx),AA s.length_le h.2.2⟩
def InK(f g:Int)(ps:List Int):Prop:=(∃e,Rz e/\ps=db f g e)\/ps∈qf
def Pk{e:List Int}(h:Rz e):e∈jZ:=Qx.mpr ⟨wM 8 0 e h.1 (fun x hx=>by have:=h.2.1 x hx;omega),by rw[Nat.ble_eq];exact h.2.2⟩
def IW{f g:Int}{ps:List Int}(h:InK f g ps):ps∈ig f g:=by
 unfold ig;rw[Qm];rcases h with ⟨e,a,rfl⟩|h
 ·exact .inl (Qj.mpr ⟨e,Pk a,rfl⟩)
 ·exact .inr h
def Pm{q:Ξ}(h:Drawn q):∃f g,Nm f g/\∀e∈canon q,∃a,Rz a/\e=db f g a:=by
 obtain⟨b,first,i,hb,j,h1,l,o,hp⟩:=h;obtain⟨_,_,p,_⟩:=G2 hb;refine⟨first,i,⟨j,h1,l,o⟩,fun e d=>?_⟩;obtain⟨C,u,hx⟩:=Qo.mp (sU.mp d);obtain⟨r,hr,rfl⟩:=Qj.mp (hp.mem_iff.mp u);obtain⟨_,c⟩:=iv.mp hx;unfold db at c;obtain⟨y,hy,rfl⟩:=SC.mp c;obtain⟨_,v,w,A⟩:=p r hr;exact⟨y,⟨((pd r).mp w).sublist hy,fun x hx=>A x (hy.subset hx),AA hy.length_le v⟩,rfl⟩
end K64
end
section
namespace L2
open PySem PySem.Spec PyProof.Rows
section
variable{X:Cx}{scope:Scope}{aq:List (Option Nat)}{tg iter bh:Expr}{aU:List Expr}{wi:TI}{g:TG}{tc:TT}{te:TE}{pos:Pos}
def Pn{i:Nat}{x:Str}{aM e:Pos}(c:X.N.Nodup)(d:X.N[i]?=some x)(hx:Loc X.env.scope x)(N N':List Str)(aq:List (Option Nat))(hi:PI X tg iter wi)(f:∀a C s₀ H₀ ex,PG (cxD X scope N' a C s₀ H₀ ex) tg g)(ht:∀a C s₀ H₀ ex,hH (cxD X scope N' a C s₀ H₀ ex) aU tc)(h:∀a C s₀ H₀ ex,PE (cxD X scope N' a C s₀ H₀ ex) bh te)(hc:X.calm=true:=by rfl)(hk:scope.kind=.function:=by rfl)(j:∀y∈scope.names,y.2=.cell->scope.names.lookup y.1=some .cell:=by decide +kernel)(l:∀y∈scope.names,y.2=.free->scope.names.lookup y.1=some .free:=by decide +kernel)(o:∀y∈scope.names,y.2=.local->scope.names.lookup y.1=some .local:=by decide +kernel)(hfr:∀y∈scope.names,y.2=.free->X.env.kindOf y.1=some .cell\/X.env.kindOf y.1=some .free)(p:X.N=N:=by rfl)(q:hX N N' aq scope=true:=by decide +kernel)(r:∀x,foldedSetIterable iter X.env x=pure x:=by intro _;rfl)(hf:X.fn x=true\/X.env.scope.names.lookup x=some .local:=by first|exact .inl rfl|exact .inr rfl|assumption)(u:swapsWith (.ListComp bh [⟨tg,iter,aU,0⟩] scope pos) (some (.Name x aM)) e.line X.env=pure true:=by rfl):PS X (.Assign [.Name x aM] (.ListComp bh [⟨tg,iter,aU,0⟩] scope pos) e) (fW (iq wi aq g tc te) (zN i)):=
 H_ hc hk j l o hfr (C5 (by rw[p];exact q)) hi f ht h r c d hx hf u
end
end L2
end
section
namespace K64
open K1
open PySem L2 STb
noncomputable abbrev wR:Stmt:=top 50
def HInj(l:Ξ):Prop:=∀x∈l,∀y∈l,hT x=hT y->x=y
def HInj.sub{l m:Ξ}(h:HInj m)(s:∀x∈l,x∈m):HInj l:=fun x hx y hy e=>h x (s x hx) y (s y hy) e
def HInj.nd{P:Program}{w:World}{l ks:Ξ}(h:HInj l)(d:ks.Nodup)(s:∀x∈ks,x∈l):(ks.map (tupleKeyHash (intKind P w))).Nodup:=by
 unfold List.Nodup at d ⊢;rw[AX];refine d.imp_of_mem fun{a b} ha hb c e=>c ?_;rw[IV,IV] at e;exact h a (s a ha) b (s b hb) e
def Po{q:Ξ}(h:Drawn q):HInj (canon q):=fun x hx y hy e=>by
 obtain⟨f,g,a,hk⟩:=Pm h;obtain⟨c,h1,rfl⟩:=hk x hx;obtain⟨d,h2,rfl⟩:=hk y hy;exact Pj a (IW (.inl ⟨c,h1,rfl⟩)) (IW (.inl ⟨d,h2,rfl⟩)) e
def Pp{ad:Ξ}(hp:∀p∈ad,dE p=true):cA (canon ad):=fun i q eq=>by
 have hq:=Ai eq;have u:∀x∈canon ad,dE x=true:=fun x hx=>by
  obtain⟨t,ht,hx⟩:=Qo.mp (sU.mp hx);exact G0 (hp t ht) hx
 refine p0.mpr ⟨u q hq,fun z=>?_,fun r hr=>?_⟩
 ·obtain⟨j,a⟩:=Qn.mp z
  have d:j<i:=by
   have:=(KK.mp a).1;rw[AC] at this;omega
  rw[Qw d] at a;have:=(Q6 (KK.mp a).1 (sY ad)).mp (a.trans eq.symm);omega
 ·have v:r∈canon ad:=by
   obtain⟨h1,k,hk,e⟩:=tm.mp hr;obtain⟨g,c⟩:=De hk e;obtain⟨_,t,ht,l⟩:=nf.mp hq;refine nf.mpr ⟨fun z=>?_,t,ht,g.trans l⟩;have:=DN hr;rw[z] at this;simp at this;omega
  obtain⟨j,a⟩:=Qn.mp v;obtain⟨hi,o⟩:=KK.mp eq;obtain⟨d,f⟩:=KK.mp a;have w:=DN hr;have c:j<i:=by
   rcases Nat.lt_trichotomy j i with h|h|h
   ·exact h
   ·subst h
    rw[eq] at a;cases a;omega
   ·have:=IN (Qu.mp (Da ad) i j hi d h)
    rw[o,f] at this;omega
  exact List.mem_take_iff_getElem.mpr ⟨j,ω,f⟩
noncomputable def of4:Ξ:=[[0],[0,1],[0,2],[0,3],[0,1,2],[0,1,3],[0,2,3],[0,1,2,3]]
noncomputable def IX:Ξ:=((AD 61).flatMap fun i:Nat=>of4.map fun o=>o.map fun x=>(i:Int)+x)++(AD 40).flatMap fun f:Nat=>(AD 11).map fun d:Nat=>[(f:Int),(f:Int)+9+(d:Int)]
def Pq:qa 28729 (IX.map hT) 0=true:=δ
def Ps:HInj IX:=fun x hx y hy e=>Er (Eo _ _ _ Pq).2 x hx y hy e
noncomputable def lC(f:Int):Ξ:=(AD 21).flatMap fun i:Nat=>of4.map fun o=>o.map fun x=>f+(i:Int)+x
def Pu(f:Int):(lC f).length=168:=by
 unfold lC;rw[List.length_flatMap];have:((AD 21).map fun i:Nat=>(of4.map fun o=>o.map fun x=>f+(i:Int)+x).length)=(AD 21).map fun _=>8:=Ax fun i _=>by rw[Ab];rfl
 rw[this];rfl
def lF:∀y∈parts [0,1,2,3],∃h:Fin 4,∃o∈of4,y=o.map fun x=>(h.1:Int)+x:=δ
noncomputable def rowL(size:Nat)(first:Int)(k:Nat):List Int:=(AD size).map fun j:Nat=>first+(k:Int)+(j:Int)
def Pv{size k:Nat}{f:Int}(g:size<=4)(hk:k<=17){x:List Int}(d:x≠[])(hx:x.Sublist (rowL size f k)):x∈lC f:=by
 have e:rowL size f k=((AD size).map fun j:Nat=>(j:Int)).map fun j=>f+(k:Int)+j:=by unfold rowL;rw[Am];rfl
 rw[e] at hx;obtain⟨y,hy,rfl⟩:=SC.mp hx;have c:y.Sublist [0,1,2,3]:=by
  refine hy.trans ?_;have:[(0:Int),1,2,3]=((AD 4).map fun j:Nat=>(j:Int)):=rfl;rw[this];refine List.Sublist.map _ ?_;have:AD 4=AD size++(AD (4-size)).map (size+·):=by rw[<-List.range_add];congr 1;omega
  rw[this];exact List.sublist_append_left _ _
 obtain⟨h,o,a,rfl⟩:=lF y (iv.mpr ⟨fun z=>d (by rw[z];rfl),c⟩);refine Qo.mpr ⟨k+h.1,Qv.mpr ω,Qj.mpr ⟨o,a,?_⟩⟩;rw[Am];refine Ax fun x _=>?_;show f+((k+h.1:Nat):Int)+x=f+(k:Int)+((h.1:Int)+x);omega
def Es(a:Ξ):Prop:=∃(many size:Nat)(first:Int),8<=many/\many<=17/\(size=3\/size=4)/\0<=first/\first<40/\
 (a=(AD many).map (rowL size first)\/a=(AD many).map (rowL size first)++[[first,first+many+size-2]])
def Pw{size k:Nat}{f:Int}(c:size=3\/size=4)(hk:k<=17)(d:0<=f)(h1:f<40):dE (rowL size f k)=true:=by
 refine zW.mpr ⟨fun z=>?_,?_,fun y hy=>?_,?_⟩
 ·have:=congrArg List.length z
  unfold rowL at this;simp at this;omega
 ·unfold rowL;simp;omega
 ·obtain⟨j,a,rfl⟩:=Qj.mp hy
  have:=Qv.mp a;omega
 ·unfold rowL
  rw[AX];exact List.pairwise_lt_range.imp fun h=>ω
def Px{j:Ξ}(h:Es j):∃(f:Int)(c:List Int),0<=f/\f<40/\(∃d:Nat,d<11/\c=[f,f+9+(d:Int)])/\(∀p∈j,dE p=true)/\j.length<=18/\∀x∈canon j,x∈lC f++[c]:=by
 obtain⟨many,size,f,u,v,o,l,f1,h⟩:=h;have a:∀p∈(AD many).map (rowL size f),dE p=true/\∀x:List Int,x≠[]->x.Sublist p->x∈lC f:=fun p hp=>by
  obtain⟨k,hk,rfl⟩:=Qj.mp hp;have:=Qv.mp hk;exact⟨Pw o ω l f1,fun x e hx=>Pv ω ω e hx⟩
 have q:f+(many:Int)+size-2=f+9+((many+size-11:Nat):Int):=ω
 refine⟨f,[f,f+9+((many+size-11:Nat):Int)],l,f1,⟨many+size-11,ω,rfl⟩,?_⟩;have one:∀i:Nat,i<21->[f+(i:Int)]∈lC f:=fun i hi=>Qo.mpr ⟨i,Qv.mpr hi,Qj.mpr ⟨[0],ξ,by show [f+(i:Int)+0]=_;rw[Int.add_zero]⟩⟩;have r:∀x:List Int,x≠[]->x.Sublist [f,f+(many:Int)+size-2]->x∈lC f++[[f,f+9+((many+size-11:Nat):Int)]]:=fun x e hx=>by
  cases hx with
  |cons _ hx=>
   cases hx with
   |cons _ hx=>cases hx;exact absurd rfl e
   |cons_cons _ hx=>
    cases hx;refine AR _ ?_;have:=one (many+size-2) ω
    rwa [show f+((many+size-2:Nat):Int)=f+(many:Int)+size-2 from ω] at this
  |cons_cons _ hx=>
   cases hx with
   |cons _ hx=>
    cases hx;refine AR _ ?_;have:=one 0 ω
    rwa [show f+((0:Nat):Int)=f from ω] at this
   |cons_cons _ hx=>
    cases hx;rw[q];exact AG _ (.head _)
 rcases h with rfl|rfl
 ·refine⟨fun p hp=>(a p hp).1,by rw[Ab,QR];omega,fun x hx=>?_⟩
  obtain⟨e,t,ht,g⟩:=nf.mp hx;exact AR _ ((a t ht).2 x e g)
 ·refine⟨fun p hp=>?_,by rw[Ar,Ab,QR];simp;omega,fun x hx=>?_⟩
  ·rcases Qm.mp hp with hp|hp
   ·exact(a p hp).1
   ·rw[Ql.mp hp]
    refine zW.mpr ⟨by simp,by simp,fun y hy=>?_,?_⟩
    ·simp only[Qk,RW,or_false] at hy
     omega
    ·simp
     omega
  ·obtain⟨e,t,ht,g⟩:=nf.mp hx
   rcases Qm.mp ht with ht|ht
   ·exact AR _ ((a t ht).2 x e g)
   ·rw[Ql.mp ht] at g
    exact r x e g
def Py{a:Ξ}(h:Es a):(∀p∈a,dE p=true)/\a.length<=18/\(canon a).length<=200/\HInj (canon a):=by
 obtain⟨f,c,g,f1,⟨d,hd,rfl⟩,h1,h2,e⟩:=Px h;refine⟨h1,h2,?_,Ps.sub fun x hx=>?_⟩
 ·have:=(sY a).length_le_of_subset e
  rw[Ar,Pu] at this;simp at this;omega
 ·obtain⟨n,rfl⟩:=Qz g
  rcases Qm.mp (e x hx) with h|h
  ·obtain⟨i,hi,h⟩:=Qo.mp h
   obtain⟨o,j,rfl⟩:=Qj.mp h;have:=Qv.mp hi;refine AR _ (Qo.mpr ⟨n+i,Qv.mpr ω,Qj.mpr ⟨o,j,Ax fun x _=>?_⟩⟩);omega
  ·rw[Ql.mp h]
   exact AG _ (Qo.mpr ⟨n,Qv.mpr ω,Qj.mpr ⟨d,Qv.mpr hd,rfl⟩⟩)
noncomputable abbrev IY:List Str:=["box","many","size","first","found"]
abbrev lP:TE:=cp (dR fun i j=>.int (i+j)) (cp (dR fun i j=>.int (i+j)) (ax 1) (ax 2)) (ax 0)
section
variable{P:Program}{w:World}{K:Ae}{mg:Str->Option Value}{base:Heap}
def Pz{H2:Hp}{D:Addr}{size:Nat}{first:Int}{k0:Nat}{kv:Int}(hk:kv=(k0:Int)){Q:VK}(hz:size<=10)(d:H2 D=none)(k:∀(H3:Hp),Same H2 H3->H3 D=some (.lst ((rowL size first k0).map V.int))->Q (.ref D) H3):zV (gk 0 size) (zN 0) bT lP [none,some (.int first),some (.int kv)] H2 D Q:=by
 subst hk;refine oR (fun j σ ys H3=>∃v,σ=[v,some (.int first),some (.int (k0:Int))]/\Same H2 H3/\H3 D=some (.lst ys)/\ys=((rowL size first k0).take j).map V.int) ?_ ?_ ?_
 ·exact⟨none,rfl,Same.new d,ae,rfl⟩
 ·rintro j σ ys H3 c hy ⟨v,rfl,sm,a,rfl⟩
  refine b0 ?_;refine⟨_,rfl,_,rfl,_,_,rfl,rfl,_,rfl,_,_,rfl,rfl,bz (zh ω) c hy a ⟨_,rfl,sm.then d,ae,?_⟩⟩;have e:(rowL size first k0)[j]?=some (first+(k0:Int)+(0+(j:Int))):=by unfold rowL;rw[Ag,Rg c,Int.zero_add];rfl
  rw[AH e,Aj];rfl
 ·rintro σ ys H3 ⟨v,rfl,sm,a,rfl⟩
  rw[As (by unfold rowL;simp)] at a;exact k H3 sm a
abbrev IZ(K:Ae):TE:=gS (fun xs H Q=>∃p ys,xs=[V.ref p]/\((SqL K H p ys/\∀l,H l=none->Q (.ref l) (upd H l (.tup ys)))\/(SqT K H p ys/\Q (.ref p) H))) (zJ (iq (EX (zJ (ax 2) br)) [none,some 1,some 0] (zN 0) bT lP) br)
def PB{H2:Hp}{D:Addr}{many size:Nat}{first:Int}{Q:VK}(hm:many<=20)(hz:size<=10)(f:H2 D=none)(k:∀(H3:Hp)(bs:List Addr),Same H2 H3->H3 D=some (.lst (bs.map V.ref))->Tps H3 bs ((AD many).map (rowL size first))->Q (.ref D) H3):zV (gk 0 many) (zN 0) bT (IZ K) [none,some (.int first),some (.int (size:Int))] H2 D Q:=by
 refine oR (fun j σ ys H3=>∃(v:Option V)(bs:List Addr),σ=[v,some (.int first),some (.int (size:Int))]/\Same H2 H3/\H3 D=some (.lst ys)/\ys=bs.map V.ref/\Tps H3 bs (((AD many).map (rowL size first)).take j)) ?_ ?_ ?_
 ·exact⟨none,[],rfl,Same.new f,ae,rfl,.nil⟩
 ·rintro j σ ys H3 d hy ⟨v,bs,rfl,sm,a,rfl,hb⟩
  have e:((AD many).map (rowL size first))[j]?=some (rowL size first j):=by rw[Ag,Rg d];rfl
  refine b0 ?_;refine⟨_,rfl,_,rfl,ω,ω,fun l g=>zx ?_⟩;rw[QB];refine Pz (k0:=j) ω hz g fun p h i=>⟨l,_,rfl,.inl ⟨SqL.of i,fun t ht=>?_⟩⟩;have c:=h.trans (Same.new (o:=.tup ((rowL size first j).map V.int)) ht);refine bz (zh ω) d hy (c _ _ a) ⟨_,bs++[t],rfl,(sm.trans c).then f,ae,by rw[Aj];rfl,?_⟩;rw[AH e];exact Tps.upd (Tps.snoc (c.tps hb) ae) (c _ _ a) (by intro xs z;cases z)
 ·rintro σ ys H3 ⟨v,bs,rfl,sm,a,rfl,hb⟩
  rw[As (by simp)] at hb;exact k H3 bs sm a hb
def I_:Sp:=fun vs H Q _=>∃p,vs=[.ref p]/\zY H p/\∀D bs a H',zG p H H'->zY H' p->H D=none->H' D=some (.lst (bs.map V.ref))->Tps H' bs a->Es a->Q (.ref D) H'
def qg:zp IY ["box"] (zi wR):=⟨rfl,rfl,rfl,δ,rfl,δ,δ⟩
def PD{f:Addr}{fd:FuncData}(F:Fun K "_law_long" "_law_long" wR f fd)(B:Bt mg)(v:Cl P w K mg base aR "_law_take" ["box","most"] 1 mU):FnOk P w K mg base aR 2 f fd ["box"] I_:=by
 refine F.ok qg (fun vs H Q E h=>?_) (fun ar A outer s H vs Q E hr h=>?_)
 ·obtain⟨p,rfl,_⟩:=h;rfl
 ·obtain⟨p,rfl,hb,k⟩:=h
  refine⟨_,ze (zt (i:=1) qg.nd rfl (Or.inl rfl) (zy zS zf (zE v hr rfl ak (zc (pv 0) (zc zf zd)))))
   (ze (zt (i:=2) qg.nd rfl (Or.inr rfl) (zy zS zf (zE v hr rfl ak (zc (pv 0) (zc zf zd)))))
   (ze (zt (i:=3) qg.nd rfl (Or.inr rfl) (zE v hr rfl ak (zc (pv 0) (zc zf zd))))
   (ze (Pn (i:=4) qg.nd rfl (Or.inl rfl) IY ["k","first","size"] [none,some 3,some 2] (iC rfl B.range (zc (pv 1) zd)) (fun a C s₀ H₀ ex=>zk (i:=0) (cz ["k","first","size"]) rfl (Or.inr rfl)) (fun a C s₀ H₀ ex=>zF)
     (fun a C s₀ H₀ ex=>zu ri rfl B.tuple oW (zc (zq ["k","first","size"] ["j","first","k"] [none,some 1,some 0] (iC rfl B.range (zc (pv 2) zd)) (fun a C s₀ H₀ ex=>zk (i:=0) (cz ["j","first","k"]) rfl (Or.inl rfl)) (fun a C s₀ H₀ ex=>zF)
      (fun a C s₀ H₀ ex=>zy zS (zy zS (pv 1) (pv 2)) (pv 0)) (hfr:=IM rfl δ) (te:=lP)) zd)) (hfr:=cx (zi wR) δ) (te:=IZ K))
   (ze (zQ (zn fY (zE v hr rfl ak (zc (pv 0) (zc zf zd))) zf (al _))
    (zg (fM (g0 Qt QF QG js (pv 4) (zc (ei (zc (pv 3) (zc (zy lW (zy zS (zy zS (pv 3) (pv 1)) (pv 2)) zf) zd))) zd)))) zr)
   (zg (zm (pv 4))))))),?_⟩
  refine⟨_,rfl,p,10,rfl,hb,ξ,ξ,fun T H1 U a1 W X=>⟨_,_,rfl,rfl,?_⟩⟩;refine⟨_,rfl,p,2,rfl,X,ξ,ξ,fun r2 H2 Y b1 eZ bS=>⟨_,_,rfl,rfl,?_⟩⟩;refine⟨_,rfl,p,40,rfl,bS,ξ,ξ,fun first H3 y G cw d=>?_⟩;have N:=(W.trans eZ).trans cw;obtain⟨m,rfl⟩:=Qz U;obtain⟨z,rfl⟩:=Qz Y;have e8:(8:Int)+(m:Int)=((m+8:Nat):Int):=ω
  have e3:(3:Int)+(z:Int)=((z+3:Nat):Int):=ω
  simp only[e8,e3];refine⟨_,rfl,_,rfl,ω,ω,fun D I=>zx ?_⟩;rw[QB];refine PB ω ω I fun H4 bs g J L=>?_;have x:H D=none:=N.free hb d I;have eI:=L.length;rw[Ab,QR] at eI;refine⟨_,rfl,p,2,rfl,d.same g,ξ,ξ,fun r H5 r0 T l M=>⟨rfl,_,rfl,?_⟩⟩;have c:D≠p:=(d.same g).ne J;have O:zG p H H4:=fun b o hb' e=>g _ _ (N b o hb' e);have q:=l _ _ c J;have S:=l.tps (d.same g) L;refine eH (fun e=>?_) (fun e=>⟨_,rfl,k D bs _ H5 (O.trans l) M x q S ⟨m+8,z+3,first,ω,ω,ω,y,G,.inl rfl⟩⟩);refine⟨_,rfl,.inl ⟨rfl,_,SqL.of q⟩,_,rfl,_,rfl,_,rfl,_,_,rfl,rfl,_,rfl,_,_,rfl,rfl,_,_,rfl,rfl,zh (by simp),fun t ht=>⟨D,_,_,rfl,rfl,(Same.new ht) _ _ q,by rw[Ab];exact zT ω,?_⟩⟩;have u:=Same.new (o:=.tup [.int first,.int (first+((m+8:Nat):Int)+((z+3:Nat):Int)-2)]) ht;have du:=u.tps S;refine⟨_,rfl,k D (bs++[t]) _ _ ((O.trans l).trans (zG.of u)|>.then x) ((M.same u).upd c) x (by rw[ae,Aj];rfl) (Tps.upd (Tps.snoc du (show Tp _ t [first,first+((m+8:Nat):Int)+((z+3:Nat):Int)-2] from ae)) (u _ _ q) (by intro xs z;cases z)) ⟨m+8,z+3,first,ω,ω,ω,y,G,.inr rfl⟩⟩
end
noncomputable abbrev jc:Stmt:=top 43
noncomputable abbrev jd:Stmt:=top 44
noncomputable abbrev Et:Stmt:=top 45
noncomputable abbrev w4:Stmt:=top 46
def qh:AZ "dict"=some (.type "dict"):=δ
def Ja(ts:Ch):(ksC ts).Nodup->m_ ts=ts:=tY (P:=fun ts=>(ksC ts).Nodup->m_ ts=ts) (fun _=>rfl) (fun l t a h=>by
 have h':(ksC l++[t.1]).Nodup:=by
  have:ksC (l++[t])=ksC l++[t.1]:=by unfold ksC;rw[Aj];rfl
  rw[<-this];exact h
 rw[Bj] at h';have e1:m_ (l++[t])=cT (m_ l) t.1 t.2:=by unfold m_;rw[RJ];rfl
 rw[e1,a h'.1,Dp _ (fun z=>h'.2.2 t.1 z t.1 (by simp) rfl)]) ts
def PF(k:Nat)(n:Int):n*(1-2*((k:Int)%2))=sg k n:=by
 unfold sg
 by_cases h:(k:Int)%2=0
 ·rw[Th h,h];omega
 ·rw[Ti h,show(k:Int)%2=1 from ω];omega
abbrev Jb:TT:=eB (cp EZ (hE (ax 1) (ax 0)) (tC (.int 0)))
abbrev Jc:TE:=c7 (zJ (ax 0) (zJ (hE (ax 1) (ax 0)) br))
section
variable{P:Program}{w:World}{K:Ae}{mg:Str->Option Value}{base:Heap}{f:Addr}{fd:FuncData}{Pt:Addr}
def PH{H2:Hp}{L D d:Addr}{as:List Addr}{e:Ch}{Q:VK}(F:H2 L=some (.lst (as.map V.ref)))(ht:Tps H2 as (ksC e))(hd:H2 d=some (.dT (kvC e)))(G:(ksC e).Nodup)(hz:e.length<=1000)(A:H2 D=none)(k:∀(H3:Hp)(ts:List Addr),Same H2 H3->H3 D=some (.lst (ts.map V.ref))->Prs H3 ts (e.filter eU)->Q (.ref D) H3):zV (dP K L) (zN 0) Jb Jc [none,some (.ref d)] H2 D Q:=by
 have y:=ht.length;rw[ie] at y;refine zH (xs:=as.map V.ref) (fun j σ ys H3=>∃(v:Option V)(ts:List Addr),σ=[v,some (.ref d)]/\Same H2 H3/\H3 D=some (.lst ys)/\ys=ts.map V.ref/\Prs H3 ts ((e.take j).filter eU)) ?_ ?_ ?_ ?_
 ·exact⟨none,[],rfl,Same.new A,ae,rfl,.nil⟩
 ·rintro j σ ys H3 ⟨v,ts,rfl,sm,l,rfl,hp⟩
  exact SqL.of (sm _ _ F)
 ·rintro j σ ys H3 x hx u hy ⟨v,ts,rfl,sm,l,rfl,hp⟩
  obtain⟨a,E,rfl⟩:=dL hx;obtain⟨ps,p,w⟩:=ht.get E;unfold ksC at p;rw[Ag] at p;obtain⟨c,q,rfl⟩:∃c,e[j]?=some c/\c.1=ps:=by
   cases h:e[j]? with
   |none=>rw[h] at p;cases p
   |some c=>rw[h] at p;exact⟨c,rfl,Al p⟩
  have hsz:(as.map V.ref).length<=sizeLine:=by rw[Ab];exact zh ω
  have g:∀r,Same H3 r->DGet r d (.ref a) (some (.int c.2)):=fun r f=>.inr ⟨kvC e,c.1.map Sum.inl,a,.inl (f _ _ (sm _ _ hd)),rfl,jS (f.tp (sm.tp w)),(gD G c (Ai q)).symm⟩;refine⟨_,rfl,_,rfl,d,_,rfl,g H3 (Same.refl _),rfl,_,rfl,?_⟩;cases hz0:eU c with
  |true=>
   have i:(!decide (V.int c.2=V.int 0))=true:=hz0;rw[i];refine bd ⟨_,rfl,_,rfl,_,rfl,d,_,rfl,g H3 (Same.refl _),zh (by simp),fun t C=>?_⟩;have f:=Same.new (o:=.tup [.ref a,.int c.2]) C;refine bz hsz u hy (f _ _ l) ⟨_,ts++[t],rfl,(sm.trans f).then A,ae,by rw[Aj];rfl,?_⟩;rw[AH q,Bf,Q4 hz0];exact Prs.upd (Prs.snoc (hp.same f) ⟨a,ae,f.tp (sm.tp w)⟩) (f _ _ l) (by intro xs z;cases z)
  |false=>
   have i:(!decide (V.int c.2=V.int 0))=false:=hz0;rw[i];refine aC (dX u hy ⟨_,ts,rfl,sm,l,rfl,?_⟩);rw[AH q,Bf,Q3 (by rw[hz0];decide),Sd,QD];exact hp
 ·rintro σ ys H3 ⟨v,ts,rfl,sm,l,rfl,hp⟩
  rw[Ab,y,take_all] at hp;exact k H3 ts sm l hp
def Jd{H:Hp}{ts:List Addr}{cs:Ch}(h:Prs H ts cs):Paired (fun t(kv:List Key×V)=>∃b,H t=some (.tup [.ref b,kv.2])/\H b=some (.tup (kv.1.map kV))) ts (kvC cs):=by
 unfold kvC
 induction h with
 |nil=>exact .nil
 |cons r t ih=>
  obtain⟨b,e1,e2⟩:=r;exact .cons ⟨b,e1,jS e2⟩ ih
def Eu:Sp:=fun vs H Q _=>∃d cs p,vs=[.ref d,.int p]/\Rd H d (.dT (kvC cs))/\(ksC cs).Nodup/\(∀c∈cs,c.1.length<=5/\-(2 ^ 64)<c.2/\c.2<2 ^ 64)/\cs.length<=200/\0<p/\
 ∀D H' a,Same H H'->H D=none->H' D=some (.dT (kvC a))->ChP p a->(∀x,aK a x=lin cs x%p)->Q (.ref D) H'
noncomputable abbrev Je:List Str:=["chain","prime","found","piece","k","rim"]
def qk:zp Je ["chain","prime"] (zi jc):=⟨rfl,rfl,rfl,δ,rfl,δ,δ⟩
def PJ(F:Fun K "_law_seam_by" "_law_seam_by" jc f fd)(B:Bt mg)(fT:mg "dict"=none)(Cr:Cl P w K mg base aR "_law_rims" ["piece"] 1 k7):FnOk P w K mg base aR 2 f fd ["chain","prime"] Eu:=by
 refine F.ok qk (fun vs H Q E h=>?_) (fun ar A outer s H vs Q E hr h=>?_)
 ·obtain⟨d,cs,p,rfl,_⟩:=h;rfl
 ·obtain⟨d,cs,p,rfl,hd,hnd,h5,hz,hp,k⟩:=h
  have hu:=eG hr;have aF:=hr.units;refine⟨_,ze (zt (i:=2) qk.nd rfl (Or.inr rfl) ju)
   (ze (d0 AL rfl (zD (zu (zX rfl) rfl B.list fh (zc (pv 0) zd))) (zk (i:=3) qk.nd rfl (Or.inl rfl))
    (zg (d0 AL rfl (oM rfl B.enumerate oX (zc (zE Cr hr rfl ak (zc (pv 3) zd)) zd)) (jn rfl (zI (zk (i:=4) qk.nd rfl (Or.inl rfl)) (zI (zk (i:=5) qk.nd rfl (Or.inl rfl)) jm)))
     (zg (hF hu (pv 2) (pv 5) (zy gt (zy zS (FA hu (pv 2) (pv 5) zf ⟨rfl,rfl,rfl,rfl⟩) (zy ik (zR hu (pv 0) (pv 3) (fun _ _=>rfl)) (zy lW zf (zy ik zf (zy gt (pv 4) zf))))) (pv 1)) rfl)))))
   (zg (zm (zu (tQ rfl aF) rfl fT qh (zc
    (zq Je ["rim","found"] [none,some 2] (zD (zu (zX rfl) rfl B.list fh (zc (pv 2) zd))) (fun _ _ _ _ _=>zk (i:=0) (cz ["rim","found"]) rfl (Or.inl rfl))
     (fun _ _ _ _ _=>jC (zn nQ (zR hu (pv 1) (pv 0) (fun _ _=>rfl)) zf (al _))) (fun _ _ _ _ _=>ei (zc (pv 0) (zc (zR hu (pv 1) (pv 0) (fun _ _=>rfl)) zd))) (hfr:=cx (zi jc) δ) (tc:=Jb) (te:=Jc)) zd))))),?_⟩
  intro S hS;have sS:=Same.new (o:=.dT []) hS;refine⟨_,rfl,d,kvC cs,rfl,hd.same sS,fun bs pb L hL=>?_⟩;have tb:=mY pb;have sL:=Same.new (o:=.lst (bs.map V.ref)) hL;have eI:=tb.length;rw[ie] at eI;refine⟨L,rfl,⟨_,SqL.of ae⟩,iD (K:=K) (a:=L) (xs:=bs.map V.ref) (fun i σ H2=>∃(v3 J N:Option V)(fs:Ch),σ=[some (.ref d),some (.int p),some (.ref S),v3,J,N]/\Same H H2/\H2 L=some (.lst (bs.map V.ref))/\Tps H2 bs (ksC cs)/\H2 S=some (.dT (kvC fs))/\(ksC fs).Nodup/\fs.length<=5*i/\∀x,aK fs x=c6 ((cs.take i).flatMap fun c=>cJ c.1 c.2) x%p)
   ⟨none,none,none,[],rfl,sS.trans sL,ae,sL.tps tb,sL _ _ ae,QH,by simp,fun x=>(Int.zero_emod p).symm⟩ (fun i σ H2 _ ⟨_,_,_,_,_,_,h,_⟩=>SqL.of h) ?_ ?_⟩
  ·rintro i x σ H2 hx ⟨v3,J,N,fs,rfl,sm,eQ,kg,W,v,X,q⟩
   obtain⟨b,eb,rfl⟩:=dL hx;obtain⟨ps,cq,Y⟩:=kg.get eb;unfold ksC at cq;rw[Ag] at cq;obtain⟨c,ec,rfl⟩:=Qr.mp cq;have I:=Ai ec;obtain⟨kY,xB⟩:=h5 c I;have hi:i<cs.length:=(KK.mp ec).1;have Y:Tp H2 b c.1:=Y;refine⟨_,rfl,b,c.1,rfl,Y,kY,fun T H3 rs G jO je lq=>?_⟩;have qv:=lq.length;have qH:=k4 c.1;have wL:S≠T:=zj W jO;have BE:b≠T:=zj (show H2 b=some _ from Y) jO;refine⟨T,rfl,⟨_,SqL.of je⟩,CV (K:=K) (a:=T) (xs:=rs.map V.ref) (fun j σ g=>∃(J N:Option V)(fs:Ch),σ=[some (.ref d),some (.int p),some (.ref S),some (.ref b),J,N]/\Same H g/\g L=some (.lst (bs.map V.ref))/\Tps g bs (ksC cs)/\Tp g b c.1/\g T=some (.lst (rs.map V.ref))/\Tps g rs (rims c.1)/\g S=some (.dT (kvC fs))/\(ksC fs).Nodup/\fs.length<=5*i+j/\∀x,aK fs x=c6 ((cs.take i).flatMap (fun c=>cJ c.1 c.2)++(cJ c.1 c.2).take j) x%p)
    ⟨_,_,fs,rfl,sm.trans G,G _ _ eQ,G.tps kg,G.tp Y,je,lq,G _ _ W,v,ω,fun x=>by rw[List.take_zero,QD];exact q x⟩ (fun j σ g _ ⟨_,_,_,_,_,_,_,_,h,_⟩=>SqL.of h) ?_ ?_⟩
   ·rintro j x pr σ g hx ⟨J,N,fs,rfl,bu,cQ,oJ,bC,jp,jJ,fU,v,X,q⟩ fF
    obtain⟨r,er,rfl⟩:=dL hx;obtain⟨rim,jv,nX⟩:=jJ.get er;have hj:j<(rims c.1).length:=(KK.mp jv).1;have u:=Same.new (o:=.tup [.int j,.ref r]) fF;refine⟨pr,_,rfl,SqT.of ae,rfl,_,_,rfl,_,_,rfl,rfl,?_⟩;have O:=u _ _ fU;have fO:=jS (u.tp nX);have gd:DGet (upd g pr (.tup [.int j,.ref r])) d (.ref b) (some (.int c.2)):=.inr ⟨kvC cs,c.1.map Sum.inl,b,(hd.same bu).same u,rfl,jS (u.tp bC),(gD hnd c I).symm⟩;have hlen:(kvC fs).length<sizeLine:=by rw[zK];exact zT ω
    have es:(cJ c.1 c.2)[j]?=some (rim,sg j c.2):=by unfold cJ;rw[Ag,RS,jv];simp
    refine⟨_,rfl,S,rfl,.inr ⟨_,.inl O⟩,_,rfl,_,DGet.t (k:=rim.map Sum.inl) O fO,?_⟩;rw[Hm];refine⟨_,rfl,_,rfl,d,_,rfl,gd,_,rfl,_,_,rfl,rfl,(by show(0:Int)<2;decide),_,_,rfl,rfl,.inl ω,_,_,rfl,rfl,_,_,rfl,rfl,.inl xB,_,_,rfl,rfl,_,rfl,_,_,rfl,rfl,hp,?_⟩;refine⟨_,rfl,_,rfl,S,_,rfl,DPut.t (k:=rim.map Sum.inl) O fO hlen,?_⟩;have wg:T≠S:=Ne.symm wL;have nL:L≠S:=aV cQ fU (by intro z;cases z);refine⟨_,_,cT fs rim ((aK fs rim+sg j c.2)%p),rfl,(bu.trans u).then hS,by rw[ah nL];exact u _ _ cQ,Tps.upd (u.tps oJ) O (by intro xs z;cases z),?_,by rw[ah wg];exact u _ _ jp,Tps.upd (u.tps jJ) O (by intro xs z;cases z),?_,dy _ _ v,?_,fun x=>?_⟩
    ·show upd _ S _ b=_
     rw[ah (aV (show(upd g pr _) b=some _ from u.tp bC) O (by intro z;cases z))];exact u.tp bC
    ·rw[ae,pW,PF]
    ·have:=Hl fs rim ((aK fs rim+sg j c.2)%p)
     omega
    ·rw[Hr,AH es,<-A1,Hs]
     by_cases e:x=rim
     ·subst e
      rw[Th rfl,Th rfl,q x,Int.emod_add_emod]
     ·rw[Ti e,Ti (fun z=>e z.symm),Int.add_zero,q x]
   ·rintro σ g ⟨J,N,fs,rfl,bu,cQ,oJ,bC,jp,jJ,fU,v,X,q⟩
    rw[Ab,qv] at X q;refine⟨_,_,_,fs,rfl,bu,cQ,oJ,fU,v,ω,fun x=>?_⟩;rw[q x,Hy _ ec,As (l:=cJ c.1 c.2) (by rw[Dq];exact Af _)]
  ·rintro σ H2 ⟨v3,J,N,fs,rfl,sm,eQ,kg,W,v,X,q⟩
   rw[Ab,eI] at X q;rw[take_all] at q;refine⟨_,rfl,S,kvC fs,rfl,.inl W,fun us pu M hM=>?_⟩;have tu:=mY pu;have sM:=Same.new (o:=.lst (us.map V.ref)) hM;refine⟨M,rfl,⟨_,SqL.of ae⟩,fun D hD=>zx (PH ae (sM.tps tu) (sM _ _ W) v ω hD fun H3 ts G ag fe=>?_)⟩;refine⟨D,ts,kvC (fs.filter eU),rfl,SqL.of ag,Jd fe,fun U hU=>?_⟩;have iL:(ksC (fs.filter eU)).Nodup:=v.sublist ((SK (p:=eU) (l:=fs)).map _);rw[Hw,Ja _ iL];have s4:=(sM.trans G).trans (Same.new (o:=.dT (kvC (fs.filter eU))) hU);have gx:∀x,aK fs x=lin cs x%p:=fun x=>by
    rw[q x,Du];unfold lin
    congr 2
    exact Ax fun c _=>Hx c.1 c.2 x
   refine k U _ (fs.filter eU) (sm.trans s4) ((sm.trans (sM.trans G)).free hU) ae ⟨iL,fun c hc=>?_⟩ fun x=>by rw[Dr x v];exact gx x
   obtain⟨yJ,y⟩:=Qx.mp hc;have e1:=i9 v c yJ;rw[gx] at e1;have hne:c.2≠0:=fun z=>by
    have y:(!decide (V.int c.2=V.int 0))=true:=y;rw[z] at y;exact absurd y ξ
   have:=Rf (lin cs c.1) (b:=p) ω;have:=Q2 (lin cs c.1) hp;omega
def Ev:Sp:=fun vs H Q _=>∃d T cs oo z p y t,vs=[.ref d,.int z,.int (t:Nat),.int p,.ref T]/\Rd H d (.dT (kvC cs))/\Rd H T (.dT (kvC (cB oo)))/\oo.Nodup/\oo.length<=200/\ChP p cs/\(∀q∈ksC cs,q∈oo/\(q.length:Int)=z)/\Yst oo cs y t/\∀H',Same H H'->Q (.bl true) H'
noncomputable abbrev Jf:List Str:=["chain","size","time","prime","when","piece"]
def Jg:zp Jf ["chain","size","time","prime","when"] (zi jd):=⟨rfl,rfl,rfl,δ,rfl,δ,δ⟩
def PK{H2:Hp}{L T D:Addr}{as:List Addr}{c oo:Ξ}{Q:VK}(o:SqL K H2 L (as.map V.ref))(ht:Tps H2 as c)(hT:Rd H2 T (.dT (kvC (cB oo))))(nd:oo.Nodup)(e:∀q∈c,q∈oo)(hz:c.length<=1000)(g:H2 D=none)(k:∀(H3:Hp)(ns:List Int),Same H2 H3->H3 D=some (.lst (ns.map V.int))->Paired (fun(n:Int) q=>∃t:Nat,n=t/\oo[t]?=some q) ns c->Q (.ref D) H3):zV (dP K L) (zN 0) bT (hE (ax 1) (ax 0)) [none,some (.ref T)] H2 D Q:=by
 have l:=ht.length;refine zH (xs:=as.map V.ref) (fun j σ ys H3=>∃(v:Option V)(ns:List Int),σ=[v,some (.ref T)]/\Same H2 H3/\H3 D=some (.lst ys)/\ys=ns.map V.int/\Paired (fun(n:Int) q=>∃t:Nat,n=t/\oo[t]?=some q) ns (c.take j)) ?_ ?_ ?_ ?_
 ·exact⟨none,[],rfl,Same.new g,ae,rfl,.nil⟩
 ·rintro j σ ys H3 ⟨v,ns,rfl,sm,d,rfl,hp⟩
  exact sm.seq o
 ·rintro j σ ys H3 x hx h hy ⟨v,ns,rfl,sm,d,rfl,hp⟩
  obtain⟨a,i,rfl⟩:=dL hx;obtain⟨q,eq,hq⟩:=ht.get i;obtain⟨t,f⟩:=Qn.mp (e q (Ai eq));refine b0 ⟨_,rfl,_,rfl,T,_,rfl,.inr ⟨kvC (cB oo),q.map Sum.inl,a,hT.same sm,rfl,jS (sm.tp hq),(lu nd f).symm⟩,bz (by rw[Ab];exact zh ω) h hy d ⟨_,ns++[(t:Int)],rfl,sm.then g,ae,by rw[Aj];rfl,?_⟩⟩;rw[AH eq];exact Paired.snoc hp ⟨t,rfl,f⟩
 ·rintro σ ys H3 ⟨v,ns,rfl,sm,d,rfl,hp⟩
  rw[Ab,l,take_all] at hp;exact k H3 ns sm d hp
def PL{d e:Type}{R:d->e->Prop}{as:List d}{bs:List e}(h:Paired R as bs):(∀a∈as,∃b∈bs,R a b)/\∀b∈bs,∃a∈as,R a b:=by
 induction h with
 |nil=>exact⟨(fun a h=>nomatch h),(fun b h=>nomatch h)⟩
 |@cons a b as bs r t ih=>
  refine⟨fun x hx=>?_,fun x hx=>?_⟩
  ·rcases Qk.mp hx with rfl|hx
   ·exact⟨b,.head _,r⟩
   ·obtain⟨y,hy,c⟩:=ih.1 x hx;exact⟨y,.tail _ hy,c⟩
  ·rcases Qk.mp hx with rfl|hx
   ·exact⟨a,.head _,r⟩
   ·obtain⟨y,hy,c⟩:=ih.2 x hx;exact⟨y,.tail _ hy,c⟩
def PM(F:Fun K "_law_at" "_law_at" jd f fd)(B:Bt mg)(pE:mg "max"=none):FnOk P w K mg base aR 1 f fd ["chain","size","time","prime","when"] Ev:=by
 refine F.ok Jg (fun vs H Q E h=>?_) (fun ar A outer s H vs Q E hr h=>?_)
 ·obtain⟨d,T,cs,oo,z,p,y,t,rfl,_⟩:=h;rfl
 ·obtain⟨d,T,cs,oo,z,p,y,t,rfl,hd,hT,nd,ay,hc,hi,hy,k⟩:=h
  have hu:=eG hr;have aF:=hr.units;have hz:cs.length<=200:=AA (gF hc.nd fun q hq=>(hi q hq).1) ω;refine⟨_,ze (d0 AL rfl (zD (zu (zX rfl) rfl B.list fh (zc (pv 0) zd))) (zk (i:=5) Jg.nd rfl (Or.inl rfl))
    (zg (zQ (PW.pt (fv (EL (Kt hu (pv 5) (pv 4)) (by with_unfolding_all rfl)) (fv (zn nQ (zl zo rfl B.len dv (zc (pv 5) zd)) (pv 1) (al _)) (gH (dB (E4 qV nS zf (zR hu (pv 0) (pv 5) (fun _ _=>rfl)) (pv 3))))))) (zg (zm cU)) zr)))
   (zg (zm (jl (f_ (DR aF) (pv 0) ju (al _)) (ji (f_ fY (zl (Nk rfl) rfl pE Ia (zc (zq Jf ["piece","when"] [none,some 4] (zD (zu (zX rfl) rfl B.list fh (zc (pv 0) zd))) (fun G C s₀ H₀ ex=>zk (i:=0) (cz ["piece","when"]) rfl (Or.inl rfl)) (fun G C s₀ H₀ ex=>zF)
    (fun G C s₀ H₀ ex=>zR hu (pv 1) (pv 0) (fun _ _=>rfl)) (hfr:=cx (zi jd) δ) (te:=hE (ax 1) (ax 0))) zd)) (pv 2) (al _)))))),?_⟩
  refine⟨_,rfl,d,kvC cs,rfl,hd,fun bs pb L hL=>?_⟩;have tb:=mY pb;have sL:=Same.new (o:=.lst (bs.map V.ref)) hL;have eI:=tb.length;rw[ie] at eI;refine⟨L,rfl,⟨_,SqL.of ae⟩,iD (K:=K) (a:=L) (xs:=bs.map V.ref) (fun i σ H2=>∃(g:Option V),σ=[some (.ref d),some (.int z),some (.int (t:Nat)),some (.int p),some (.ref T),g]/\Same H H2/\H2 L=some (.lst (bs.map V.ref)))
   ⟨none,rfl,sL,ae⟩ (fun i σ H2 _ ⟨_,_,_,h⟩=>SqL.of h) ?_ ?_⟩
  ·rintro i x σ H2 hx ⟨g,rfl,sm,J⟩
   obtain⟨b,eb,rfl⟩:=dL hx;obtain⟨q,eq,hq⟩:=(sm.tps tb).get eb;have l:=Ai eq;obtain⟨lG,wU⟩:=hi q l;obtain⟨u,j⟩:=Qn.mp lG;have hw:=hc.at l;refine⟨_,rfl,_,rfl,T,_,rfl,.inr ⟨kvC (cB oo),q.map Sum.inl,b,hT.same sm,rfl,jS hq,(lu nd j).symm⟩,_,rfl,aC ?_⟩;refine⟨_,rfl,b,_,rfl,.inr (SqT.of hq),_,rfl,rfl,_,rfl,?_⟩;rw[Ab,Tj (congrArg V.int wU)];have gd:DGet H2 d (.ref b) (some (.int (aK cs q))):=by
    obtain⟨cc,O,rfl⟩:=Qj.mp l;refine .inr ⟨kvC cs,cc.1.map Sum.inl,b,hd.same sm,rfl,jS hq,?_⟩;rw[gD hc.nd cc O,i9 hc.nd cc O]
   refine aC ⟨_,rfl,_,rfl,d,_,rfl,gd,_,_,rfl,rfl,_,rfl,?_⟩;rw[Tj hw.1];refine bd ⟨_,rfl,_,_,rfl,rfl,_,rfl,?_⟩;rw[Tj hw.2];exact aC ⟨_,rfl,sm,J⟩
  ·rintro σ H2 ⟨g,rfl,sm,J⟩
   have r:cs≠[]:=fun z=>by
    have:=hy.1;rw[z] at this;cases this
   have W:=R8.mpr r;refine⟨_,rfl,fun N hN=>?_⟩;have s3:=Same.new (o:=.dT []) hN;have v:=sm.trans s3;refine⟨d,N,false,rfl,rfl,⟨kvC cs,[],ksC cs,[],cs.map (·.2),hd.same v,.inl ae,gC _,rfl,pV _,.inr ⟨rfl,by rw[zK];show cs.length≠0;omega⟩⟩,true,rfl,bd ?_⟩;refine⟨_,rfl,d,kvC cs,rfl,hd.same v,fun us pu M hM=>?_⟩;have tu:=mY pu;have X:=Same.new (o:=.lst (us.map V.ref)) hM;have Y:=v.trans X;refine⟨M,rfl,⟨_,SqL.of ae⟩,fun D hD=>zx (PK (SqL.of ae) (X.tps tu) (hT.same Y) nd (fun q hq=>(hi q hq).1) (by rw[ie];omega) hD fun H5 ns s5 bb kC=>?_)⟩;obtain⟨m1,S⟩:=PL kC;refine⟨D,ns,rfl,SqL.of bb,fun e=>?_,fun I nw df=>⟨_,rfl,rfl,?_⟩⟩
   ·obtain⟨n,c,_⟩:=S y hy.1
    rw[e] at c;cases c
   ·have:I=(t:Int):=by
     obtain⟨q,hq,u,rfl,j⟩:=m1 I nw;obtain⟨n,c,u',rfl,U⟩:=S y hy.1;have h1:=hy.2.2 q hq u j;have h2:=df _ c;have h3:=(Q6 (KK.mp U).1 nd).mp (U.trans hy.2.1.symm);omega
    rw[Tj (congrArg V.int this)];exact k H5 (Y.trans s5)
end
noncomputable abbrev Ew:Stmt:=top 47
noncomputable abbrev w5:Stmt:=top 48
noncomputable abbrev Ex:Stmt:=top 49
def PN{H:Hp}{a b:Addr}{cs:Ch}(ha:Rd H a (.dT (kvC cs)))(hb:Rd H b (.dT (kvC cs))):cW H a b true:=⟨kvC cs,kvC cs,ksC cs,ksC cs,cs.map (·.2),ha,hb,gC cs,gC cs,pV cs,.inl ⟨rfl,rfl,fun kv h=>h⟩⟩
section
variable{P:Program}{w:World}{K:Ae}{mg:Str->Option Value}{base:Heap}{f:Addr}{fd:FuncData}{Pt:Addr}
def Ey:Sp:=fun vs H Q _=>∃r T oo p xs,vs=[.ref r.t,.int p,.ref T]/\RwAt H r/\Rd H T (.dT (kvC (cB oo)))/\fj oo/\oo.length<=200/\0<p/\p<=7/\dc p oo oo.length xs/\r.x∈xs/\∀H',Same H H'->Q (.bl true) H'
noncomputable abbrev PP:List Str:=["bar","prime","when","high","born","dead","chain","filling"]
def nt:zp PP ["bar","prime","when"] (zi Et):=⟨rfl,rfl,rfl,δ,rfl,δ,δ⟩
def PQ(F:Fun K "_law_is_bar" "_law_is_bar" Et f fd)(Ca:Cl P w K mg base aR "_law_at" ["chain","size","time","prime","when"] 1 Ev)(Cs:Cl P w K mg base aR "_law_seam_by" ["chain","prime"] 2 Eu):FnOk P w K mg base aR 3 f fd ["bar","prime","when"] Ey:=by
 refine F.ok nt (fun vs H Q E h=>?_) (fun ar A outer s H vs Q E hr h=>?_)
 ·obtain⟨r,T,oo,p,xs,rfl,_⟩:=h;rfl
 ·obtain⟨r,T,oo,p,xs,rfl,M,hT,O,S,hp,k_,u,hx,k⟩:=h
  have aF:=hr.units;refine⟨_,ze (yl (pv 0) (jn rfl (zI (zk (i:=3) nt.nd rfl (Or.inl rfl)) (zI (zk (i:=4) nt.nd rfl (Or.inl rfl)) (zI (zk (i:=5) nt.nd rfl (Or.inl rfl)) (zI (zk (i:=6) nt.nd rfl (Or.inl rfl)) (zI (zk (i:=7) nt.nd rfl (Or.inl rfl)) jm)))))))
   (ze (zQ (PW.pt (fv (dB (dN (zE Ca hr rfl ak (zc (pv 6) (zc (zy zS (pv 3) zf) (zc (pv 4) (zc (pv 1) (zc (pv 2) zd)))))))) (gH (zn (DR aF) (zE Cs hr rfl ak (zc (pv 6) (zc (pv 1) zd))) ju (al _))))) (zg (zm cU)) zr)
   (ze (zQ (PW.pt (fv (zn iH (pv 5) ek (al _)) (gH (zn iH (pv 7) ek (al _))))) (zg (zm (jl (f_ iH (pv 5) ek (al _)) (ji (f_ iH (pv 7) ek (al _)))))) zr)
   (zg (zm (jl (zE Ca hr rfl ak (zc (pv 7) (zc (zy zS (pv 3) zf) (zc (pv 5) (zc (pv 1) (zc (pv 2) zd)))))) (ji (f_ (HY aF) (zE Cs hr rfl ak (zc (pv 7) (zc (pv 1) zd))) (pv 6) (al _)))))))),?_⟩
  have l:=u.ok r.x hx;have rk:=gE u hx;obtain⟨y,hy⟩:=wt (oo:=oo) l.c rk.yg;have hy:Yst oo r.x.c y r.x.b:=hy;have G:∀q∈ksC r.x.c,q∈oo:=fun q hq=>(l.ci q hq).1;have sm:∀{cs:Ch},ChP p cs->(∀q∈ksC cs,q∈oo)->∀c∈cs,c.1.length<=5/\-(2 ^ 64)<c.2/\c.2<2 ^ 64:=fun h1 h2 c hc=>by
   have:=h1.lo c hc;exact⟨O.le _ (h2 _ (Qj.mpr ⟨c,hc,rfl⟩)),ω,ω⟩
  have lc:∀{cs:Ch},ChP p cs->(∀q∈ksC cs,q∈oo)->cs.length<=200:=fun h1 h2=>AA (gF h1.nd h2) S;have nZ:∀d:Ch,ChP p d->(∀x,aK d x=lin r.x.c x%p)->d=[]:=fun d h1 h2=>by
   have e:sb p r.x.c=[]:=HU O hp u hx;cases d with
   |nil=>rfl
   |cons c t=>
    have h3:=h2 c.1;have h4:=(h1.at (x:=c.1) (Qj.mpr ⟨c,.head _,rfl⟩)).1;rw[<-DJ,e] at h3;have:aK ([]:Ch) c.1=0:=rfl;omega
  have one:∀(W X:V)(U:Hp)(N:Bool->Hp->Prop),U=H->(∀H',Same H H'->N false H')->
    EM (ny (eB (jq Ev [] E0 (zJ (ax 6) (zJ (cp (dR fun i j=>.int (i+j)) (ax 3) (tC (.int 1))) (zJ (ax 4) (zJ (ax 1) (zJ (ax 2) br)))))))) (eB (cp (fun x y H Q=>∃a b r,x=.ref a/\y=.ref b/\cW H a b r/\Q (.bl (!r)) H) (jq Eu [] E0 (zJ (ax 6) (zJ (ax 1) br))) Fy))
     [some (.ref r.t),some (.int p),some (.ref T),some (.int r.x.hi),some (.int r.x.b),some W,some (.ref r.c),some X] U N:=by
   intro W X U N e0 kN;subst e0;refine⟨_,rfl,_,rfl,_,_,rfl,rfl,_,rfl,_,rfl,_,rfl,r.c,T,r.x.c,oo,r.x.hi+1,p,y,r.x.b,rfl,M.1,hT,O.nd,S,l.c,l.ci,hy,fun H1 v=>⟨_,rfl,aC ?_⟩⟩;refine⟨_,rfl,_,rfl,r.c,r.x.c,p,rfl,M.1.same v,l.c.nd,sm l.c G,lc l.c G,hp,fun D H2 d L bI a_ c2 g2=>?_⟩;obtain rfl:=nZ d c2 g2;intro N' tL;have I:=Same.new (o:=.dT []) tL;refine⟨D,N',true,rfl,rfl,⟨[],[],[],[],[],.inl (I _ _ a_),.inl ae,rfl,rfl,rfl,.inl ⟨rfl,rfl,fun kv h=>nomatch h⟩⟩,_,rfl,kN _ ((v.trans L).trans I)⟩
  rcases id M with ⟨rc,⟨J,ht⟩|⟨e,J,rg,ht⟩⟩
  ·refine⟨_,rfl,r.t,_,rfl,SqT.of ht,rfl,_,_,rfl,_,_,rfl,_,_,rfl,_,_,rfl,_,_,rfl,rfl,one .non .non H _ rfl fun H1 v=>aC ?_⟩
   refine⟨_,rfl,rfl,_,rfl,bd ?_⟩;refine bd ⟨_,rfl,rfl,_,rfl,bd ⟨_,rfl,rfl,k H1 v⟩⟩
  ·obtain⟨C,dC⟩:=l.g e J
   obtain⟨z,hz⟩:=wt (oo:=oo) C (rk.gone e J).2.2.1;have dG:∀q∈ksC r.x.g,q∈oo:=fun q hq=>(dC q hq).1;refine⟨_,rfl,r.t,_,rfl,SqT.of ht,rfl,_,_,rfl,_,_,rfl,_,_,rfl,_,_,rfl,_,_,rfl,rfl,one (.int e) (.ref r.g) H _ rfl fun H1 v=>aC ?_⟩;refine⟨_,rfl,rfl,_,rfl,aC ⟨_,rfl,rfl,_,rfl,aC ?_⟩⟩;refine⟨_,rfl,_,rfl,_,_,rfl,rfl,_,rfl,_,rfl,_,rfl,r.g,T,r.x.g,oo,r.x.hi+2,p,z,e,rfl,rg.same v,hT.same v,O.nd,S,C,dC,hz,fun H2 L=>⟨_,rfl,bd ?_⟩⟩;have jY:=v.trans L;refine⟨_,rfl,_,rfl,r.g,r.x.g,p,rfl,rg.same jY,C.nd,sm C dG,lc C dG,hp,fun D H3 d I bI ag Y g3=>⟨_,rfl,?_⟩⟩;have rQ:=jY.trans I;refine⟨D,r.c,true,rfl,rfl,?_,k H3 rQ⟩;obtain⟨e1,e2⟩:=Hz Y.nd l.c.nd Y.nz l.c.nz fun x=>by rw[g3 x,<-DJ];exact HS O hp u hx J x
   exact⟨kvC d,kvC r.x.c,ksC d,ksC r.x.c,d.map (·.2),.inl ag,rc.same rQ,gC _,gC _,pV _,.inl ⟨rfl,by rw[zK,zK];exact e1,IE e2⟩⟩
abbrev Ji:TE:=c7 (zJ (ax 1) (zJ (ax 0) br))
def PR{H2:Hp}{L D:Addr}{as:List Addr}{oo:Ξ}{Q:VK}(h:SqL K H2 L (as.map V.ref))(ht:Tps H2 as oo)(hz:oo.length<=1000)(q:H2 D=none)(k:∀(H3:Hp)(ts:List Addr),Same H2 H3->H3 D=some (.lst (ts.map V.ref))->Prs H3 ts (cB oo)->Q (.ref D) H3):zV (kD K L) (fV K 2 (gM (zN 0) (gM (zN 1) fS))) bT Ji [none,none] H2 D Q:=by
 have E:=ht.length;refine ir as.length (fun j σ ys H3=>∃(c d:Option V)(ts:List Addr),σ=[c,d]/\Same H2 H3/\H3 D=some (.lst ys)/\ys=ts.map V.ref/\Prs H3 ts ((cB oo).take j)) ?_ ?_ ?_ ?_ ?_
 ·exact⟨none,none,[],rfl,Same.new q,ae,rfl,.nil⟩
 ·rintro σ ys H3 ⟨c,d,ts,rfl,sm,f,rfl,hp⟩
  exact⟨_,sm.seq h,by rw[Ab]⟩
 ·rintro i σ ys H3 hi ⟨c,d,ts,rfl,sm,f,rfl,hp⟩
  exact⟨_,sm.seq h,by rw[Ab];exact hi⟩
 ·rintro i σ ys H3 x H' hi hy ⟨c,d,ts,rfl,sm,f,rfl,hp⟩ ⟨p,y,rfl,v,rfl,w⟩
  have F:=w _ (sm.seq h);obtain⟨a,A,rfl⟩:=dL F;obtain⟨r,C,hr⟩:=ht.get A;have G:=Same.new (o:=.tup [.int i,.ref a]) v;have e:(cB oo)[i]?=some (r,(i:Int)):=by unfold cB;rw[Ag,RS,C];simp
  refine⟨p,_,rfl,SqT.of ae,rfl,_,_,rfl,_,_,rfl,rfl,iW ?_⟩;refine⟨_,rfl,_,rfl,zh (by simp),fun t u=>?_⟩;have g:=G.trans (Same.new (o:=.tup [.ref a,.int i]) u);have l:=g _ _ f;refine bz (zh ω) hi hy l ⟨_,_,ts++[t],rfl,(sm.trans g).then q,ae,by rw[Aj];rfl,?_⟩;rw[AH e];exact Prs.upd (Prs.snoc (hp.same g) ⟨a,by rw[ae],g.tp (sm.tp hr)⟩) l (by intro xs z;cases z)
 ·rintro σ ys H3 ⟨c,d,ts,rfl,sm,f,rfl,hp⟩
  rw[E,As (by unfold cB;rw[Ab,Sf];exact Af _)] at hp;exact k H3 ts sm f hp
def qo{H H':Hp}{L:List RA}(h:∀r∈L,RwAt H r)(s:Same H H'):∀r∈L,RwAt H' r:=fun r hr=>(h r hr).sf (Same.sf (P:=0) (pos:=i') (q:=qY) s)
def Jj(K:Ae):Sp:=fun vs H Q _=>∃l as oo p D L,vs=[.ref l,.int p,.ref D]/\SqL K H l (as.map V.ref)/\Tps H as oo/\cA oo/\oo.length<=200/\isP p/\fH p oo H D L/\∀H',Same H H'->Q (.bl true) H'
noncomputable abbrev qq:List Str:=["order","prime","row","when","met"]
def Ez:zp qq ["order","prime","row"] (zi w4):=⟨rfl,rfl,rfl,δ,rfl,δ,δ⟩
def PU(F:Fun K "_law_is_paper" "_law_is_paper" w4 f fd)(B:Bt mg)(fT:mg "dict"=none)(Cb:Cl P w K mg base aR "_law_is_bar" ["bar","prime","when"] 3 Ey):FnOk P w K mg base aR 4 f fd ["order","prime","row"] (Jj K):=by
 refine F.ok Ez (fun vs H Q E h=>?_) (fun ar A outer s H vs Q E hr h=>?_)
 ·obtain⟨l,as,oo,p,D,L,rfl,_⟩:=h;rfl
 ·obtain⟨l,as,oo,p,D,L,rfl,J,ht,ho,ay,hp,d,k⟩:=h
  have aF:=hr.units;have O:=DK ho;have h2:=hp.pr.1.two;have h7:=hp.pr.2;have aJ:=ht.length;have cY:=jW d.pap (Af _);have dj:(L.map fun r=>V.ref r.t).length=L.length:=Ab _;refine⟨_,ze (zt (i:=3) Ez.nd rfl (Or.inr rfl) (zu (tQ rfl aF) rfl fT qh (zc (zq qq ["time","piece"] [none,none] (oM rfl B.enumerate oX (zc (pv 0) zd))
    (fun c C s₀ H₀ ex=>jn rfl (zI (zk (i:=0) (cz ["time","piece"]) rfl (Or.inl rfl)) (zI (zk (i:=1) (cz ["time","piece"]) rfl (Or.inl rfl)) jm))) (fun c C s₀ H₀ ex=>zF) (fun c C s₀ H₀ ex=>ei (zc (pv 1) (zc (pv 0) zd)))
    (hfr:=cI δ) (g:=fV K 2 (gM (zN 0) (gM (zN 1) fS))) (te:=Ji)) zd)))
   (ze (zQ (dB (dN (zl (kE rfl) rfl B.all kM (zc (zq qq ["bar","prime","when"] [none,some 1,some 3] (zD (pv 2)) (fun c C s₀ H₀ ex=>zk (i:=0) (cz ["bar","prime","when"]) rfl (Or.inl rfl)) (fun c C s₀ H₀ ex=>zF)
    (fun c C s₀ H₀ ex=>zE Cb hr rfl ak (zc (pv 0) (zc (pv 1) (zc (pv 2) zd)))) (hfr:=cx (zi w4) δ) (te:=jq Ey [] E0 (zJ (ax 0) (zJ (ax 1) (zJ (ax 2) br))))) zd)))) (zg (zm cU)) zr)
   (ze (zt (i:=4) Ez.nd rfl (Or.inl rfl) (zy kc (zq qq ["bar"] [none] (zD (pv 2)) (fun c C s₀ H₀ ex=>zk (i:=0) (cz ["bar"]) rfl (Or.inl rfl)) (fun c C s₀ H₀ ex=>zF) (fun c C s₀ H₀ ex=>zA zv (pv 0) zf (fun _ _=>rfl)) (hfr:=cI δ) (te:=fJ K 1))
    (zq qq ["bar"] [none] (zD (pv 2)) (fun c C s₀ H₀ ex=>zk (i:=0) (cz ["bar"]) rfl (Or.inl rfl)) (fun c C s₀ H₀ ex=>jC (zn nY (zA zv (pv 0) zf (fun _ _=>rfl)) ek (al _))) (fun c C s₀ H₀ ex=>zA zv (pv 0) zf (fun _ _=>rfl)) (hfr:=cI δ) (tc:=El K) (te:=fJ K 2))))
   (zg (zm (f_ (Of aF) (zl rZ rfl B.sorted mP (zc (pv 4) zd)) (zu (IA rfl) rfl B.list fh (zc (zu Iz rfl B.range ID (zc (zl zo rfl B.len dv (zc (pv 0) zd)) zd)) zd)) (al _)))))),?_⟩
  refine⟨_,rfl,l,rfl,⟨_,J⟩,fun D1 lD=>zx (PR J ht ω lD fun H1 ts s1 iw eP=>?_)⟩;refine⟨D1,ts,kvC (cB oo),rfl,SqL.of iw,Jd eP,fun T hT=>?_⟩;rw[Hw,Ja _ (by rw[D0];exact O.nd)];have G:=s1.trans (Same.new (o:=.dT (kvC (cB oo))) hT);have kL:=ae (H:=H1) (a:=T) (o:=.dT (kvC (cB oo)));generalize upd H1 T (.dT (kvC (cB oo)))=H2 at G kL;refine⟨_,rfl,D,rfl,⟨_,SqL.of (G _ _ d.hD)⟩,fun D9 W=>zx (zH (xs:=L.map fun r=>V.ref r.t) (fun j σ ys H'=>∃(v:Option V),σ=[v,some (.int p),some (.ref T)]/\Same H2 H'/\H' D9=some (.lst ys)/\ys=((L.map fun _=>true).take j).map V.bl) ?_ ?_ ?_ ?_)⟩
  ·exact⟨none,rfl,Same.new W,ae,rfl⟩
  ·rintro j σ ys H' ⟨v,rfl,sm,y,rfl⟩
   exact SqL.of (sm _ _ (G _ _ d.hD))
  ·rintro j σ ys H' x hx hj hy ⟨v,rfl,sm,y,rfl⟩
   rw[Ag] at hx;obtain⟨r,er,rfl⟩:=Qr.mp hx;have cC:=Ai er;have e:(L.map fun _=>true)[j]?=some true:=by rw[Ag,er];rfl
   refine b0 ⟨_,rfl,_,rfl,_,rfl,r,T,oo,p,bW L,rfl,qo d.rw (G.trans sm) r cC,.inl (sm _ _ kL),O,ay,ω,h7,d.pap,Qj.mpr ⟨r,cC,rfl⟩,fun w6 X=>?_⟩;exact bz (by rw[dj];exact zh ω) hj hy (X _ _ y) ⟨_,rfl,(sm.trans X).then W,ae,by rw[AH e,Aj];rfl⟩
  ·rintro σ ys H' ⟨v,rfl,sm,y,rfl⟩
   rw[dj,As (by rw[Ab];exact Af _)] at y;refine⟨D9,_,rfl,SqL.of y,true,by rw[show(L.map fun _=>true).all id=true by rw[SO];exact Qs.mpr fun _ _=>rfl],aC ?_⟩;have N:=G.trans sm;have ag:=N _ _ d.hD;refine⟨_,rfl,D,rfl,⟨_,SqL.of ag⟩,fun D2 a_=>zx (wz (SqL.of ag) (qo d.rw N) ω a_ fun H4 s4 gZ=>?_)⟩;have I:=N.trans s4;refine⟨_,rfl,D,rfl,⟨_,SqL.of (I _ _ d.hD)⟩,fun D3 nA=>zx (IJ (SqL.of (I _ _ d.hD)) (qo d.rw I) ω nA fun H5 Y gm=>?_)⟩;have cy:=IF d.pap;have hlen:(cP L).length+(eX L).length=oo.length:=by
    have:=cy.length_eq;rw[Ar,Ab,Ab,QR] at this;unfold cP eX;rw[Ab,Ab];exact this
   refine⟨D2,D3,_,_,rfl,rfl,Y _ _ gZ,gm,by rw[Ab,Ab];exact zh ω,fun q hq=>?_⟩;have s6:=Same.new (o:=.lst ((cP L).map V.int++(eX L).map V.int)) hq;refine⟨_,rfl,q,cP L++eX L,rfl,SqL.of (by rw[ae,Aj]),by rw[Ar];omega,fun U u fu cX bb=>?_⟩;have s7:=Same.new (o:=.lst (u.map V.int)) bb;have S:=((I.trans Y).trans s6).trans s7;have dM:=ae (H:=upd H5 q (.lst ((cP L).map V.int++(eX L).map V.int))) (a:=U) (o:=.lst (u.map V.int));generalize upd (upd H5 q (.lst ((cP L).map V.int++(eX L).map V.int))) U (.lst (u.map V.int))=H7 at s7 S dM;refine⟨_,rfl,l,_,rfl,.inl (S.seq J),_,rfl,fun R hR=>?_⟩;have s8:=Same.new (o:=.rng 0 ((as.map V.ref).length:Nat)) hR;refine⟨R,(as.map V.ref).length,rfl,ae,by rw[Ab];omega,fun M hM=>?_⟩;have s9:=Same.new (o:=.lst (((AD (as.map V.ref).length).map fun k:Nat=>(k:Int)).map V.int)) hM;have qc:=s8.trans s9;have em:u=(AD (as.map V.ref).length).map fun k:Nat=>(k:Int):=by
    refine wh (fu.trans ?_) cX (IG _);have:=cy.map (fun k:Nat=>(k:Int));rw[Aj,Am] at this;have e1:(bW L).map ((fun k:Nat=>(k:Int)) ∘ fun x=>x.b)=cP L:=by unfold bW cP;rw[Am];rfl
    rw[e1] at this;rw[Ab,aJ];exact this
   refine⟨U,M,u,_,rfl,rfl,SqL.of (qc _ _ dM),SqL.of ae,?_⟩;rw[Tj em];exact k _ (S.trans qc)
def xb:Sp:=fun vs H Q _=>∃n,vs=[.int n]/\Q (.bl true) H
def PV:zp ["found"] ["found"] (zi Ew):=⟨rfl,rfl,rfl,δ,rfl,δ,δ⟩
def PX(F:Fun K "_law_whole" "_law_whole" Ew f fd)(B:Bt mg):FnOk P w K mg base aR 1 f fd ["found"] xb:=by
 refine F.ok PV (fun vs H Q E h=>?_) (fun a A outer s H vs Q E hr h=>?_)
 ·obtain⟨n,rfl,_⟩:=h;rfl
 ·obtain⟨n,rfl,k⟩:=h
  refine⟨_,zg (zm (jl (zl Nh rfl B.isinstance mR (zc (pv 0) (zc (lS (v:=.ty "int") rfl B.int GL rfl) zd))) (ji (JG (zl Ni rfl B.isinstance mR (zc (pv 0) (zc (lS (v:=.ty "bool") rfl B.bool L1 rfl) zd))))))),?_⟩;exact⟨_,rfl,n,rfl,_,rfl,bd ⟨_,rfl,n,rfl,_,rfl,k⟩⟩
def Jk:Sp:=fun vs H Q _=>∃a cs,vs=[.ref a]/\H a=some (.dT (kvC cs))/\(ksC cs).Nodup/\cs.length<=1000/\∀H',Same H H'->Q (.bl true) H'
def PY:zp ["found"] ["found"] (zi w5):=⟨rfl,rfl,rfl,δ,rfl,δ,δ⟩
def PZ(F:Fun K "_law_chain_like" "_law_chain_like" w5 f fd)(B:Bt mg)(S:mg "dict"=none)(T:Cl P w K mg base aR "_law_whole" ["found"] 1 xb):FnOk P w K mg base aR 2 f fd ["found"] Jk:=by
 refine F.ok PY (fun vs H Q E h=>?_) (fun U A outer s H vs Q E hr h=>?_)
 ·obtain⟨a,cs,rfl,_⟩:=h;rfl
 ·obtain⟨a,cs,rfl,ha,M,hz,k⟩:=h
  have hu:=eG hr;refine⟨_,zg (zm (jl (zl Ol rfl B.isinstance mR (zc (pv 0) (zc (lS (v:=.ty "dict") rfl S qh rfl) zd))) (ji (zl (kE rfl) rfl B.all kM (zc
    (zq ["found"] ["piece","found"] [none,some 0] (zD (zu (zX rfl) rfl B.list fh (zc (pv 0) zd))) (fun p C s₀ H₀ ex=>zk (i:=0) (cz ["piece","found"]) rfl (Or.inl rfl)) (fun p C s₀ H₀ ex=>zF)
     (fun p C s₀ H₀ ex=>zE T hr rfl ak (zc (zR hu (pv 1) (pv 0) (fun _ _=>rfl)) zd)) (hfr:=cx (zi w5) δ) (te:=jq xb [] E0 (zJ (hE (ax 1) (ax 0)) br))) zd))))),?_⟩
  refine⟨_,rfl,a,_,rfl,ha,_,rfl,bd ⟨_,rfl,a,kvC cs,rfl,.inl ha,fun bs I L J=>⟨L,rfl,⟨_,SqL.of ae⟩,fun D l=>?_⟩⟩⟩;have g:=Same.new (o:=.lst (bs.map V.ref)) J;have tb:=g.tps (mY I);have u:=tb.length;rw[ie] at u;have y:=g _ _ ha;have G:SqL K (upd H L (.lst (bs.map V.ref))) L (bs.map V.ref):=SqL.of ae;generalize upd H L (.lst (bs.map V.ref))=H1 at g tb y l G;refine zx (zH (xs:=bs.map V.ref) (fun j σ ys H'=>∃(v:Option V),σ=[v,some (.ref a)]/\Same H1 H'/\H' D=some (.lst ys)/\ys=((cs.map fun _=>true).take j).map V.bl) ?_ ?_ ?_ ?_)
  ·exact⟨none,rfl,Same.new l,ae,rfl⟩
  ·rintro j σ ys H' ⟨v,rfl,sm,d,rfl⟩
   exact sm.seq G
  ·rintro j σ ys H' x hx N hy ⟨v,rfl,sm,d,rfl⟩
   obtain⟨b,O,rfl⟩:=dL hx;obtain⟨q,eq,hq⟩:=(sm.tps tb).get O;unfold ksC at eq;rw[Ag] at eq;obtain⟨c,r,rfl⟩:=Qr.mp eq;have e:(cs.map fun _=>true)[j]?=some true:=by rw[Ag,r];rfl
   exact b0 ⟨_,rfl,_,rfl,a,_,rfl,.inr ⟨kvC cs,c.1.map Sum.inl,b,.inl (sm _ _ y),rfl,jS hq,(gD M c (Ai r)).symm⟩,c.2,rfl,bz (by rw[Ab];exact zh ω) N hy d ⟨_,rfl,sm.then l,ae,by rw[AH e,Aj];rfl⟩⟩
  ·rintro σ ys H' ⟨v,rfl,sm,d,rfl⟩
   rw[Ab,u,As (by rw[Ab];exact Af _)] at d;refine⟨D,_,rfl,SqL.of d,?_⟩;rw[Eg];exact k H' (g.trans sm)
def qu(H:Hp)(L:List RA):Prop:=∀a∈L.flatMap dcs,∃kvs,H a=some (.dT kvs)
def ki{H:Hp}{a:Addr}{kvs:List (List Key×V)}(h:Rd H a (.dT kvs))(hd:∃k,H a=some (.dT k)):H a=some (.dT kvs):=by
 obtain⟨k,e⟩:=hd;rcases h with z|⟨o,z⟩
 ·exact z
 ·rw[e] at z;cases z
def P0{H:Hp}{L:List RA}(hd:qu H L){r:RA}(hr:r∈L)(h:RwAt H r):H r.c=some (.dT (kvC r.x.c))/\((r.x.d=none/\H r.t=some (.tup [.int r.x.hi,.int r.x.b,.non,.ref r.c,.non]))\/∃e:Nat,r.x.d=some e/\H r.g=some (.dT (kvC r.x.g))/\H r.t=some (.tup [.int r.x.hi,.int r.x.b,.int e,.ref r.c,.ref r.g])):=by
 have mem:∀{a:Addr},a∈dcs r->∃k,H a=some (.dT k):=fun ha=>hd _ (Qo.mpr ⟨r,hr,ha⟩);obtain⟨h1,h2⟩:=h;refine⟨ki h1 (mem ?_),?_⟩
 ·unfold dcs
  cases r.x.d with
  |none=>exact .head _
  |some e=>exact .head _
 ·rcases h2 with ⟨e,h2⟩|⟨e,e1,f,i⟩
  ·exact .inl ⟨e,h2⟩
  ·refine .inr ⟨e,e1,ki f (mem ?_),i⟩
   unfold dcs;rw[e1];exact .tail _ (.head _)
def Jl:Sp:=fun vs H Q _=>∃p oo D L,vs=[.ref D]/\fH p oo H D L/\oo.length<=200/\qu H L/\∀H',Same H H'->Q (.bl true) H'
def Jm:zp ["found","bar"] ["found"] (zi Ex):=⟨rfl,rfl,rfl,δ,rfl,δ,δ⟩
def P4(F:Fun K "_law_paper_like" "_law_paper_like" Ex f fd)(B:Bt mg)(y:Cl P w K mg base aR "_law_whole" ["found"] 1 xb)(M:Cl P w K mg base aR "_law_chain_like" ["found"] 2 Jk):FnOk P w K mg base aR 3 f fd ["found"] Jl:=by
 refine F.ok Jm (fun vs H Q E h=>?_) (fun X A outer s H vs Q E hr h=>?_)
 ·obtain⟨p,oo,D,L,rfl,_⟩:=h;rfl
 ·obtain⟨p,oo,D,L,rfl,l,Y,hd,k⟩:=h
  have cY:=jW l.pap (Af _);refine⟨_,ze (zQ (dB (dN (zl Hj rfl B.isinstance mR (zc (pv 0) (zc (lS (v:=.ty "list") rfl B.list fh rfl) zd))))) (zg (zm cU)) zr)
   (ze (d0 AL rfl (zD (pv 0)) (zk (i:=1) Jm.nd rfl (Or.inl rfl))
    (ze (zQ (PW.pt (fv (dB (dN (zl Nj rfl B.isinstance mR (zc (pv 1) (zc (lS (v:=.ty "tuple") rfl B.tuple oW rfl) zd))))) (fv (zn nQ (zl zo rfl B.len dv (zc (pv 1) zd)) zf (al _))
     (fv (dB (dN (zE y hr rfl ak (zc (zA zv (pv 1) zf (fun _ _=>rfl)) zd)))) (gH (dB (dN (zE y hr rfl ak (zc (zA zv (pv 1) zf (fun _ _=>rfl)) zd))))))))) (zg (zm cU)) zr)
    (ze (zQ (PW.pt (fv (PW.pt (EO (zn nY (zA zv (pv 1) zf (fun _ _=>rfl)) ek (al _)) (EN (dB (dN (zE y hr rfl ak (zc (zA zv (pv 1) zf (fun _ _=>rfl)) zd))))))) (gH (dB (dN (zE M hr rfl ak (zc (zA zv (pv 1) zf (fun _ _=>rfl)) zd))))))) (zg (zm cU)) zr)
    (zg (zQ (PW.pt (EO (zn nY (zA zv (pv 1) zf (fun _ _=>rfl)) ek (al _)) (EN (dB (dN (zE M hr rfl ak (zc (zA zv (pv 1) zf (fun _ _=>rfl)) zd))))))) (zg (zm cU)) zr)))))
   (zg (zm cU))),?_⟩
  refine⟨_,rfl,D,_,rfl,l.hD,_,rfl,aC ?_⟩;refine⟨_,rfl,D,rfl,⟨_,SqL.of l.hD⟩,iD (K:=K) (a:=D) (xs:=L.map fun r=>V.ref r.t) (fun i σ H2=>∃(v:Option V),σ=[some (.ref D),v]/\Same H H2) ⟨none,rfl,Same.refl _⟩ (fun i σ H2 _ ⟨_,_,sm⟩=>SqL.of (sm _ _ l.hD)) ?_ ?_⟩
  ·rintro i x σ H2 hx ⟨v,rfl,sm⟩
   rw[Ag] at hx;obtain⟨r,O,rfl⟩:=Qr.mp hx;have u:=Ai O;obtain⟨hc,S⟩:=P0 hd u (l.rw r u);have o:=l.pap.ok r.x (Qj.mpr ⟨r,u,rfl⟩);have I:r.x.c.length<=1000:=AA (gF o.c.nd fun q hq=>(o.ci q hq).1) ω;rcases S with ⟨C,ht⟩|⟨e,C,T,ht⟩
   ·have d:=sm _ _ ht
    refine⟨_,rfl,r.t,_,rfl,d,_,rfl,aC ⟨_,rfl,r.t,_,rfl,.inr (SqT.of d),rfl,_,rfl,aC ?_⟩⟩;refine⟨_,rfl,r.t,_,0,.int r.x.hi,rfl,rfl,SqT.of d,rfl,r.x.hi,rfl,_,rfl,aC ⟨_,rfl,r.t,_,1,.int r.x.b,rfl,rfl,SqT.of d,rfl,r.x.b,rfl,_,rfl,aC ?_⟩⟩;refine⟨_,rfl,r.t,_,2,.non,rfl,rfl,SqT.of d,rfl,rfl,_,rfl,aC (aC ?_)⟩;refine⟨_,rfl,r.t,_,3,.ref r.c,rfl,rfl,SqT.of d,rfl,r.c,r.x.c,rfl,sm _ _ hc,o.c.nd,I,fun H3 j=>⟨_,rfl,aC ?_⟩⟩;exact⟨_,rfl,r.t,_,4,.non,rfl,rfl,SqT.of (j _ _ d),rfl,rfl,_,rfl,aC (aC ⟨_,rfl,sm.trans j⟩)⟩
   ·have d:=sm _ _ ht
    obtain⟨G,U⟩:=o.g e C;have W:r.x.g.length<=1000:=AA (gF G.nd fun q hq=>(U q hq).1) ω;refine⟨_,rfl,r.t,_,rfl,d,_,rfl,aC ⟨_,rfl,r.t,_,rfl,.inr (SqT.of d),rfl,_,rfl,aC ?_⟩⟩;refine⟨_,rfl,r.t,_,0,.int r.x.hi,rfl,rfl,SqT.of d,rfl,r.x.hi,rfl,_,rfl,aC ⟨_,rfl,r.t,_,1,.int r.x.b,rfl,rfl,SqT.of d,rfl,r.x.b,rfl,_,rfl,aC ?_⟩⟩;refine⟨_,rfl,r.t,_,2,.int e,rfl,rfl,SqT.of d,rfl,rfl,_,rfl,bd ⟨_,rfl,r.t,_,2,.int e,rfl,rfl,SqT.of d,rfl,e,rfl,_,rfl,aC ?_⟩⟩;refine⟨_,rfl,r.t,_,3,.ref r.c,rfl,rfl,SqT.of d,rfl,r.c,r.x.c,rfl,sm _ _ hc,o.c.nd,I,fun H3 j=>⟨_,rfl,aC ?_⟩⟩;have J:=j _ _ d;refine⟨_,rfl,r.t,_,4,.ref r.g,rfl,rfl,SqT.of J,rfl,rfl,_,rfl,bd ⟨_,rfl,r.t,_,4,.ref r.g,rfl,rfl,SqT.of J,rfl,r.g,r.x.g,rfl,j _ _ (sm _ _ T),G.nd,W,fun H4 N=>⟨_,rfl,aC ?_⟩⟩⟩;exact⟨_,rfl,(sm.trans j).trans N⟩
  ·rintro σ H2 ⟨v,rfl,sm⟩
   exact k H2 sm
end
end K64
end
section
namespace L2
open PySem PySem.Spec PyProof.Rows
section
variable{X:Cx}
def P5{A:Around}{aa:Ψ}{s:Shared}{σ:St}{H:Hp}{a b:Addr}(I:Inv X aa σ H s)(hu:A.units+8<cLine)(ha:∃(kvs c:List (List Key×V))(ad l:Ξ)(ns:List Int),Rd H a (.dT kvs)/\Rd H b (.dT c)/\kvs.map (·.1)=ad.map (·.map Sum.inl)/\c.map (·.1)=l.map (·.map Sum.inl)/\kvs.map (·.2)=ns.map V.int/\kvs.length=c.length/\∀kv∈kvs,kv∈c):SeqAt.EqAt A s (.ref a) (.ref b) true:=by
 intro prog w E Q h;obtain⟨kvs,c,ad,l,ns,ha,hb,hp,o,u,U,hm⟩:=ha;obtain⟨x,xs,y,W,C⟩:=u4 I.hok ha hp;obtain⟨D,ys,G,bl,J⟩:=u4 I.hok hb o;have hx:=y prog w;have hy:=G prog w;unfold eqBool
 try with_reducible refine AU ?_
 show wpAny _ _ (if(Value.ref a==Value.ref b)=true then _ else _) Q E s
 by_cases f:(Value.ref a==Value.ref b)=true
 ·rw[Th f]
  exact Aa (wpAny_rule (Ac h))
 ·rw[Ti f]
  refine Aa (wpAny_richCompare_same_room (op:=.Eq) hx.typeIs hy.typeIs F.slot_dict_eq
   (AK F.slot_dict_eq hx.typeIs F.entry_dict_eq ?_ (F.args_dict_eq_2 _ _)) ω)
  unfold Builtin.«dict.__eq__»
  wp_delta
  refine Aa ?_;unfold Builtin.Dict.dictSlotArgs;refine Aa (wpAny_notOrdered_dict hx.typeIs ?_);refine Aa (show wpAny _ _ (pure (Value.ref a,[Value.ref b])) _ _ _ from Ac ?_);refine Ac ?_;dsimp only;refine Aa (wpAny_isInstance hy.typeIs DCp.pS ?_);simp only[QV,Av,if_false];refine Aa (show wpAny _ _ (pure a) _ _ _ from Ac ?_);refine Aa (show wpAny _ _ (pure b) _ _ _ from Ac ?_);refine Aa (DEq.HW (knd:=tupleKind (intKind prog w)) (show A.units+1<cLine from ω) x D hx hy ω (fun i k p v e=>?_) ?_)
  ·obtain⟨g1,kv,g2,g3⟩:=C i _ e
   obtain⟨j,g⟩:=Rs (hm kv (Ai g2));have N:j<ys.length:=by have:=(KK.mp g).1;omega
   have r:ys[j]?=some ys[j]:=Ah N;obtain⟨f1,Y,f2,q⟩:=J j ys[j] r;rw[g] at f2;obtain rfl:=Al f2;have O:kv.1=k.map Sum.inl:=by
    have:=congrArg (·[i]?) hp;simp only[Ag,g2,g1,AQ,AW] at this;exact this
   have P:kv.1=ys[j].1.map Sum.inl:=by
    have:=congrArg (·[j]?) o;simp only[Ag,g,f1,AQ,AW] at this;exact this
   have S:ys[j].1=k:=hJ.mp (P.symm.trans O);have d:=congrArg (·[i]?) u;simp only[Ag,g2,AQ] at d;cases en:ns[i]? with
   |none=>rw[en] at d;simp at d
   |some n=>
    rw[en] at d;have T:kv.2=V.int n:=by simpa using d
    rw[T] at g3 q;obtain⟨t,L⟩:=(show ∃t,v=Value.int n t from g3);obtain⟨t',M⟩:=(show ∃t,ys[j].2.2=Value.int n t from q);refine⟨j,ys[j].2.1,n,t,t',L,?_⟩;rw[r,<-S,<-M]
  ·exact Ac ⟨_,rfl,(fun e=>nomatch e),wpAny_truthy_bool h⟩
inductive AV(H:Hp):V->V->Prop where
 |fl {x:V} (f:il x=true):AV H x x
 |dt {a b:Addr} {kvs aQ:List (List Key×V)} {ad ce:Ξ} {ns:List Int} (ha:Rd H a (.dT kvs)) (hb:Rd H b (.dT aQ)) (hp:kvs.map (·.1)=ad.map (·.map Sum.inl)) (bA:aQ.map (·.1)=ce.map (·.map Sum.inl)) (hv:kvs.map (·.2)=ns.map V.int) (hl:kvs.length=aQ.length) (hm:∀kv∈kvs,kv∈aQ):AV H (.ref a) (.ref b)
def P6{x:V}(f:il x=true):gU x x=true:=by
 cases x with
 |non=>rfl
 |bl b=>cases b<;>rfl
 |int i=>simp[gU]
 |str z=>simp[gU]
 |_=>exact absurd (show false=true from f) An
def AV.eqAt{A:Around}{aa:Ψ}{σ:St}{H:Hp}{s:Shared}{x y:V}{u v:Value}(hu:A.units+8<cLine)(I:Inv X aa σ H s)(h:AV H x y)(c:RelV x u)(d:RelV y v):SeqAt.EqAt A s u v true:=by
 cases h with
 |fl f=>
  have:=Fl (A:=A) (s:=s) c d f f;rw[P6 f] at this;exact this
 |@dt a b kvs aQ ad ce ns ha hb hp bA hv hl hm=>
  cases c;cases d;exact P5 I hu ⟨kvs,aQ,ad,ce,ns,ha,hb,hp,bA,hv,hl,hm⟩
def P7{A:Around}{aa:Ψ}{σ:St}{H:Hp}{s:Shared}(hu:A.units+8<cLine)(I:Inv X aa σ H s):∀{xs ys:List V}{us vs:List Value},Paired (AV H) xs ys->Vals xs us->Vals ys vs->us.length=vs.length/\∀(j:Nat)(h1:j<us.length)(h2:j<vs.length),SeqAt.EqAt A s us[j] vs[j] true:=by
 intro xs ys us vs h
 induction h generalizing us vs with
 |nil=>intro a c;cases a;cases c;exact⟨rfl,fun j h1=>absurd h1 (by simp)⟩
 |cons q t ih=>
  intro a c;cases a with
  |cons a1 b1=>
   cases c with
   |cons a2 b2=>
    obtain⟨e,k⟩:=ih b1 b2;refine⟨by simp[e],fun j h1 h2=>?_⟩;cases j with
    |zero=>exact q.eqAt hu I a1 a2
    |succ j=>exact k j (by simpa using h1) (by simpa using h2)
def AT(H:Hp)(t u:Addr):Prop:=∃xs ys,H t=some (.tup xs)/\H u=some (.tup ys)/\Paired (AV H) xs ys
def AT.eqAt{A:Around}{aa:Ψ}{σ:St}{H:Hp}{s:Shared}{t u:Addr}(hu:A.units+64<cLine)(I:Inv X aa σ H s)(h:AT H t u):SeqAt.EqAt A s (.ref t) (.ref u) true:=by
 obtain⟨xs,ys,e1,g1,hp⟩:=h
 by_cases e:t=u
 ·rw[e];exact .same _
 obtain⟨i1,a,c,_⟩:=I.tuple (SqT.of (K:=X.K) e1);obtain⟨i2,d,p2,_⟩:=I.tuple (SqT.of (K:=X.K) g1);obtain⟨f,g⟩:=P7 (A:=A.in1) (by show A.units+1+8<cLine;omega) I hp a d;have:=SeqAt.RcAt.tuples (A:=A) (e:=fun _=>true) c p2 ω (fun j h1 h2=>by
  have:=g j (by simpa using h1) (by simpa using h2)
  simpa using this)
 refine .of_refs e ?_;have i:((AD (min i1.toArray.size i2.toArray.size)).all (fun _=>true)&&i1.toArray.size==i2.toArray.size)=true:=by
  rw[Qs.mpr (fun _ _=>rfl)];simp[f]
 rw[i] at this;exact this
def Jo(hu:X.A.units+128<cLine):cD X (A2 .NotEq) (fun x y H Q=>∃(l m:Addr)(ts us:List Addr),x=.ref l/\y=.ref m/\SqL X.K H l (ts.map V.ref)/\SqL X.K H m (us.map V.ref)/\Paired (AT H) ts us/\Q (.bl false) H):=by
 intro aa s σ H x y v u Q I f g h;obtain⟨l,m,ts,us,rfl,rfl,i,hm,ha,q⟩:=h;cases f;cases g;obtain⟨af,o,p,_⟩:=I.list i;obtain⟨D,C,p2,_⟩:=I.list hm;obtain rfl:=bf o;obtain rfl:=bf C;have E:=A0 ha;refine SeqAt.RcNeAt.lists (e:=fun _=>true) p.isList p2.isList (by simp;omega) ω (fun j h1 h2=>?_) X.prog X.w X.xe _ ⟨.bl _,H,I,rfl,?_⟩
 ·have c:j<ts.length:=by simpa using h1
  have d:j<us.length:=by simpa using h2
  have:∀{xs ys:List Addr},Paired (AT H) xs ys->∀{j:Nat}{x y:Addr},xs[j]?=some x->ys[j]?=some y->AT H x y:=fun{xs ys} h=>by
   induction h with
   |nil=>intro j x y e;simp at e
   |cons r t ih=>
    intro j x y ex a;cases j with
    |zero=>simp at ex a;subst ex;subst a;exact r
    |succ j=>exact ih (by simpa using ex) (by simpa using a)
  have:=AT.eqAt (A:=X.A.in1) (by show X.A.units+1+64<cLine;omega) I (this ha (Ah c) (Ah d))
  simpa using this
 ·rw[Qs.mpr (fun _ _=>rfl)];exact q
end
end L2
end
section
namespace K64
open K1
open PySem L2 STb
noncomputable abbrev xg:Stmt:=top 51
structure zcn(S:List Addr)(H H':Hp):Prop where
 keep:∀b o,b∉S->H b=some o->H' b=some o
 dom:∀b,H' b=none->H b=none
def zcn.refl(S:List Addr)(H:Hp):zcn S H H:=⟨fun _ _ _ h=>h,fun _ h=>h⟩
def zcn.then{S:List Addr}{H H1 H2:Hp}(e:zcn S H H1)(s:Same H1 H2):zcn S H H2:=⟨fun b o n h=>s _ _ (e.keep b o n h),fun b h=>e.dom b (s.free h)⟩
def zcn.put{S:List Addr}{H H1:Hp}{a:Addr}{o:HO}(e:zcn S H H1)(h:a∈S):zcn S H (upd H1 a o):=by
 refine⟨fun b u n q=>?_,fun b q=>?_⟩
 ·rw[ah (fun z:b=a=>n (by rw[z];exact h))];exact e.keep b u n q
 ·by_cases z:b=a
  ·subst z;rw[ae] at q;cases q
  ·rw[ah z] at q;exact e.dom b q
def P8{L:List RA}:(L.flatMap dcs).Nodup->∀{i j:Nat}{r s:RA}{a:Addr},L[i]?=some r->L[j]?=some s->i≠j->a∈dcs r->a∉dcs s:=by
 induction L with
 |nil=>intro _ i j r s a h;simp at h
 |cons x L ih=>
  intro h i j r s a hi c d ha e;rw[Bk,Bj] at h;cases i with
  |zero=>
   cases j with
   |zero=>exact d rfl
   |succ j=>
    simp at hi c;subst hi;exact h.2.2 a ha a (Qo.mpr ⟨s,Ai c,e⟩) rfl
  |succ i=>
   cases j with
   |zero=>
    simp at hi c;subst c;exact h.2.2 a e a (Qo.mpr ⟨r,Ai hi,ha⟩) rfl
   |succ j=>
    simp at hi c;exact ih h.2.1 hi c ω ha e
def P9{L:List RA}:(L.flatMap dcs).Nodup->∀r∈L,(dcs r).Nodup:=by
 induction L with
 |nil=>intro _ r hr;cases hr
 |cons x L ih=>
  intro h r hr;rw[Bk,Bj] at h;rcases Qk.mp hr with rfl|hr
  ·exact h.1
  ·exact ih h.2.1 r hr
def EA{H:Hp}{a b:Addr}{o:HO}{kvs:List (List Key×V)}(h:Rd H a (.dT kvs))(n:a≠b):Rd (upd H b o) a (.dT kvs):=by
 unfold Rd;rw[ah n];exact h
def EB{H:Hp}{r:RA}{a:Addr}{o f:HO}(h:RwAt H r)(ha:H a=some f)(n1:∀xs,f≠.tup xs)(n2:a∉dcs r):RwAt (upd H a o) r:=by
 obtain⟨h1,h2⟩:=h;have d:∀{b:Addr}{xs:List V},H b=some (.tup xs)->b≠a:=fun e=>aV e ha fun z=>n1 _ z.symm;unfold dcs at n2;rcases h2 with ⟨e,h2⟩|⟨e,e1,g,c⟩
 ·rw[e] at n2
  exact⟨EA h1 (fun z=>n2 (z▸.head _)),.inl ⟨e,by rw[ah (d h2)];exact h2⟩⟩
 ·rw[e1] at n2
  exact⟨EA h1 (fun z=>n2 (z▸.head _)),.inr ⟨e,e1,EA g (fun z=>n2 (z▸.tail _ (.head _))),by rw[ah (d c)];exact c⟩⟩
def Jp{H:Hp}{r:RA}{a:Addr}{o:HO}{xs:List V}(h:RwAt H r)(ha:H a=some (.lst xs)):RwAt (upd H a o) r:=by
 refine EB h ha (by intro ys z;cases z) fun hm=>?_;obtain⟨kvs,hk⟩:=v1 h hm;rcases hk with e|⟨_,e⟩<;>(rw[ha] at e;cases e)
def qw{H H':Hp}{r:RA}(h:RwAt H r)(s:Same H H'):RwAt H' r:=h.sf (Same.sf (P:=0) (pos:=i') (q:=qY) s)
def P_{H:Hp}{r s:RA}(h:RwAt H r)(k:RwAt H s)(e:s.x=r.x):AT H r.t s.t:=by
 have dd:∀{a b:Addr}{cs:Ch},Rd H a (.dT (kvC cs))->Rd H b (.dT (kvC cs))->AV H (.ref a) (.ref b):=fun{a b cs} h1 h2=>.dt h1 h2 (gC cs) (gC cs) (pV cs) rfl fun kv hk=>hk;obtain⟨h1,h2⟩:=h;obtain⟨g,c⟩:=k;rw[e] at g c;rcases h2 with ⟨d,h2⟩|⟨d,i,j,l⟩
 ·rcases c with ⟨_,c⟩|⟨d',f,_,_⟩
  ·exact⟨_,_,h2,c,.cons (.fl rfl) (.cons (.fl rfl) (.cons (.fl rfl) (.cons (dd h1 g) (.cons (.fl rfl) .nil))))⟩
  ·rw[d] at f;cases f
 ·rcases c with ⟨d',_⟩|⟨d',f,o,p⟩
  ·rw[i] at d';cases d'
  ·rw[i] at f
   cases f;exact⟨_,_,l,p,.cons (.fl rfl) (.cons (.fl rfl) (.cons (.fl rfl) (.cons (dd h1 g) (.cons (dd j o) .nil))))⟩
def Jq{H:Hp}:∀{L M:List RA},(∀r∈L,RwAt H r)->(∀r∈M,RwAt H r)->bW M=bW L->Paired (AT H) (L.map RA.t) (M.map RA.t)
 |[],[],_,_,_=>.nil
 |[],_::_,_,_,e=>by cases e
 |_::_,[],_,_,e=>by cases e
 |r::L,s::M,h,k,e=>by
  have e1:s.x=r.x:=by injection e
  have e2:bW M=bW L:=by injection e
  exact .cons (P_ (h r (.head _)) (k s (.head _)) e1) (Jq (fun q hq=>h q (.tail _ hq)) (fun q hq=>k q (.tail _ hq)) e2)
section
variable{P:Program}{w:World}{K:Ae}{mg:Str->Option Value}{base:Heap}{f:Addr}{fd:FuncData}{Pt:Addr}
abbrev qy(P:Program)(w:World):List V->Hp->VK->Prop:=fun xs H Q=>∃(a:Addr)(kvs:List (List Key×V))(ad:Ξ),xs=[.ref a]/\Rd H a (.dT kvs)/\kvs.map (·.1)=ad.map (·.map Sum.inl)/\(ad.map (tupleKeyHash (intKind P w))).Nodup/\∀D,H D=none->Q (.ref D) (upd H D (.dT kvs))
abbrev qA(K:Ae)(P:Program)(w:World):TE:=c7 (zJ (fJ K 0) (zJ (fJ K 1) (zJ (fJ K 2) (zJ (gS (qy P w) (zJ (fJ K 3) br)) (zJ (x' (eB (cp (fun x y H Q=>y=.non/\Q (.bl (decide (x=.non))) H) (fJ K 4) (tC .non))) (tC .non) (gS (qy P w) (zJ (fJ K 4) br))) br)))))
def P'{H2:Hp}{S D:Addr}{L:List RA}{p:Int}{oo:Ξ}{Q:VK}(hs:SqL K H2 S (L.map fun r=>V.ref r.t))(hr:∀r∈L,RwAt H2 r)(H:∀r∈L,p5 p oo r.x)(W:HInj oo)(hz:L.length<=1000)(X:H2 D=none)(k:∀(H3:Hp)(M:List RA),Same H2 H3->H3 D=some (.lst (M.map fun r=>V.ref r.t))->bW M=bW L->(∀r∈M,RwAt H3 r)->(∀a∈M.flatMap dcs,H2 a=none)->Q (.ref D) H3):zV (dP K S) (zN 0) bT (qA K P w) [none] H2 D Q:=by
 have O:(L.map fun r=>V.ref r.t).length=L.length:=Ab _;refine zH (xs:=L.map fun r=>V.ref r.t) (fun j σ ys H3=>∃(v:Option V)(M:List RA),σ=[v]/\Same H2 H3/\H3 D=some (.lst ys)/\ys=(M.map fun r=>V.ref r.t)/\bW M=(bW L).take j/\(∀r∈M,RwAt H3 r)/\∀a∈M.flatMap dcs,H2 a=none) ?_ ?_ ?_ ?_
 ·exact⟨none,[],rfl,Same.new X,ae,rfl,rfl,(fun r hr=>nomatch hr),fun a ha=>nomatch ha⟩
 ·rintro j σ ys H3 ⟨v,M,rfl,sm,l,rfl,_⟩
  exact sm.seq hs
 ·rintro j σ ys H3 x hx hj hy ⟨v,M,rfl,sm,l,rfl,u,A,hf⟩
  rw[Ag] at hx;obtain⟨r,J,rfl⟩:=Qr.mp hx;have T:=Ai J;have ex:(bW L)[j]?=some r.x:=by rw[Ag,J];rfl
  have C:=H r T;have U:∀{P:Program}{w:World},((ksC r.x.c).map (tupleKeyHash (intKind P w))).Nodup:=W.nd C.c.nd fun q hq=>(C.ci q hq).1;have fin:∀(s:RA)(y:Hp),s.x=r.x->Same H3 y->RwAt y s->(∀a∈dcs s,H2 a=none)->ee (L.map fun r=>V.ref r.t).length (fun j σ ys H3=>∃(v:Option V)(M:List RA),σ=[v]/\Same H2 H3/\H3 D=some (.lst ys)/\ys=(M.map fun r=>V.ref r.t)/\bW M=(bW L).take j/\(∀r∈M,RwAt H3 r)/\∀a∈M.flatMap dcs,H2 a=none) D j [some (.ref r.t)] (.ref s.t) y:=by
   intro s y es d Y tP;have E:=d _ _ l;refine bz (by rw[O];exact zh ω) hj hy E ⟨_,M++[s],rfl,(sm.trans d).then X,ae,by rw[Aj];rfl,?_,fun q hq=>?_,fun a ha=>?_⟩
   ·rw[AH ex,<-u,<-es]
    unfold bW;rw[Aj];rfl
   ·rcases Qm.mp hq with hq|hq
    ·exact Jp (qw (A q hq) d) E
    ·rw[Ql.mp hq];exact Jp Y E
   ·rw[R5] at ha
    rcases Qm.mp ha with ha|ha
    ·exact hf a ha
    ·refine tP a ?_
     simpa using ha
  obtain⟨N,eK⟩:=qw (hr r T) sm;rcases eK with ⟨h,ht⟩|⟨e,h,rg,ht⟩
  ·refine b0 ⟨_,rfl,r.t,_,0,.int r.x.hi,rfl,rfl,SqT.of ht,rfl,_,rfl,r.t,_,1,.int r.x.b,rfl,rfl,SqT.of ht,rfl,_,rfl,r.t,_,2,.non,rfl,rfl,SqT.of ht,rfl,_,rfl,r.t,_,3,.ref r.c,rfl,rfl,SqT.of ht,rfl,r.c,kvC r.x.c,ksC r.x.c,rfl,N,gC _,U,fun c' hc'=>?_⟩
   have d:=Same.new (o:=.dT (kvC r.x.c)) hc';refine⟨_,rfl,r.t,_,4,.non,rfl,rfl,SqT.of (d _ _ ht),rfl,rfl,_,rfl,bd ⟨zh (by simp),fun t' f=>?_⟩⟩;have i:=Same.new (o:=.tup [.int r.x.hi,.int r.x.b,.non,.ref c',.non]) f;refine fin ⟨r.x,t',c',c'⟩ _ rfl (d.trans i) ⟨.inl (i _ _ ae),.inl ⟨h,ae⟩⟩ fun a ha=>?_;unfold dcs at ha;rw[h] at ha;rw[Ql.mp ha];exact sm.free hc'
  ·obtain⟨og,dC⟩:=C.g e h
   have F:∀{P:Program}{w:World},((ksC r.x.g).map (tupleKeyHash (intKind P w))).Nodup:=W.nd og.nd fun q hq=>(dC q hq).1;refine b0 ⟨_,rfl,r.t,_,0,.int r.x.hi,rfl,rfl,SqT.of ht,rfl,_,rfl,r.t,_,1,.int r.x.b,rfl,rfl,SqT.of ht,rfl,_,rfl,r.t,_,2,.int e,rfl,rfl,SqT.of ht,rfl,_,rfl,r.t,_,3,.ref r.c,rfl,rfl,SqT.of ht,rfl,r.c,kvC r.x.c,ksC r.x.c,rfl,N,gC _,U,fun c' hc'=>?_⟩;have d:=Same.new (o:=.dT (kvC r.x.c)) hc';refine⟨_,rfl,r.t,_,4,.ref r.g,rfl,rfl,SqT.of (d _ _ ht),rfl,rfl,_,rfl,aC ⟨_,rfl,r.t,_,4,.ref r.g,rfl,rfl,SqT.of (d _ _ ht),rfl,r.g,kvC r.x.g,ksC r.x.g,rfl,rg.same d,gC _,F,fun g' I=>⟨zh (by simp),fun t' f=>?_⟩⟩⟩;have i:=Same.new (o:=.dT (kvC r.x.g)) I;have G:=Same.new (o:=.tup [.int r.x.hi,.int r.x.b,.int e,.ref c',.ref g']) f;refine fin ⟨r.x,t',c',g'⟩ _ rfl ((d.trans i).trans G) ⟨.inl (G _ _ (i _ _ ae)),.inr ⟨e,h,.inl (G _ _ ae),ae⟩⟩ fun a ha=>?_;unfold dcs at ha;rw[h] at ha;rcases Qk.mp ha with rfl|ha
   ·exact sm.free hc'
   ·rw[Ql.mp ha];exact(sm.trans d).free I
 ·rintro σ ys H3 ⟨v,M,rfl,sm,l,rfl,u,A,hf⟩
  rw[O,As (by rw[Ab];exact Af _)] at u;exact k H3 M sm l u A hf
structure Ap(H:Hp)(D KL:Addr)(L M:List RA)(k:Nat)(H2:Hp):Prop where
 so:zcn (D::L.flatMap dcs) H H2
 hD:H2 D=some (.lst (L.map fun r=>V.ref r.t))
 hK:H2 KL=some (.lst (M.map fun r=>V.ref r.t))
 hM:∀r∈M,RwAt H2 r
 hL:∀(j:Nat) r,k<=j->L[j]?=some r->RwAt H2 r/\∀a∈dcs r,∃kv,H2 a=some (.dT kv)
def Ap.mono{H H2:Hp}{D c:Addr}{L M:List RA}{k a:Nat}(x:Ap H D c L M k H2)(h:k<=a):Ap H D c L M a H2:=⟨x.so,x.hD,x.hK,x.hM,fun j r e d=>x.hL j r ω d⟩
def Ap.same{H H2 H3:Hp}{D c:Addr}{L M:List RA}{k:Nat}(x:Ap H D c L M k H2)(s:Same H2 H3):Ap H D c L M k H3:=
 ⟨x.so.then s,s _ _ x.hD,s _ _ x.hK,fun q hq=>qw (x.hM q hq) s,fun j q a eq=>⟨qw (x.hL j q a eq).1 s,fun b hb=>by obtain⟨kv,e⟩:=(x.hL j q a eq).2 b hb;exact⟨kv,s _ _ e⟩⟩⟩
def Ap.write{H H3:Hp}{D h a:Addr}{L M:List RA}{i:Nat}{r:RA}{kv:List (List Key×V)}{o:HO}(x:Ap H D h L M (i+1) H3)(d:(L.flatMap dcs).Nodup)(c:∀a∈L.flatMap dcs,a∉M.flatMap dcs)(g:L[i]?=some r)(ha:a∈dcs r)(e3:H3 a=some (.dT kv)):Ap H D h L M (i+1) (upd H3 a o):=by
 have p:=Ai g;have e:a∈L.flatMap dcs:=Qo.mpr ⟨r,p,ha⟩;refine⟨x.so.put (.tail _ e),by rw[ah (aV x.hD e3 (by intro z;cases z))];exact x.hD,by rw[ah (aV x.hK e3 (by intro z;cases z))];exact x.hK,fun q hq=>EB (x.hM q hq) e3 (by intro xs z;cases z) (fun z=>c a e (Qo.mpr ⟨q,hq,z⟩)),fun j q l eq=>?_⟩;obtain⟨g1,g2⟩:=x.hL j q l eq;have f:a∉dcs q:=P8 d g eq ω ha;refine⟨EB g1 e3 (by intro xs z;cases z) f,fun b hb=>?_⟩;rw[ah (fun z=>f (by rw[<-z];exact hb))];exact g2 b hb
def j0(xs:List V)(n:Nat)(h:n<=xs.length):cF xs (some (n:Int)) none=xs.drop n:=k5 xs n h
def Jr:Sp:=fun vs H Q _=>∃p oo D L,vs=[.ref D]/\fH p oo H D L/\oo.length<=200/\HInj oo/\qu H L/\(L.flatMap dcs).Nodup/\∀H',zcn (D::L.flatMap dcs) H H'->Q (.bl true) H'
def EC:zp ["told","kept","k"] ["told"] (zi xg):=⟨rfl,rfl,rfl,δ,rfl,δ,δ⟩
def Qa(F:Fun K "_law_apart" "_law_apart" xg f fd)(B:Bt mg)(fT:mg "dict"=none):FnOk P w K mg base aR 1 f fd ["told"] Jr:=by
 refine F.ok EC (fun vs H Q E h=>?_) (fun ar A outer s H vs Q E hr h=>?_)
 ·obtain⟨p,oo,D,L,rfl,_⟩:=h;rfl
 ·obtain⟨p,oo,D,L,rfl,O,ay,hh,hd,T,k⟩:=h
  have hu:=eG hr;have aF:=hr.units;have eM:(A.deeper (PyProof.Rows.envOfC "_law_apart" (zi xg) s⁻¹ f ar)).units+128<cLine:=by have:=hr.un;omega
  have cY:=jW O.pap (Af _);have dj:(L.map fun r=>V.ref r.t).length=L.length:=Ab _;refine⟨_,ze (DX (i:=1) EC.nd rfl (Or.inl rfl) ["told","kept","k"] ["bar"] [none] (zD (pv 0)) (fun _ _ _ _ _=>zk (i:=0) (cz ["bar"]) rfl (Or.inl rfl)) (fun _ _ _ _ _=>zF)
    (fun _ _ _ _ _=>ei (zc (zA zv (pv 0) zf (fun _ _=>rfl)) (zc (zA zv (pv 0) zf (fun _ _=>rfl)) (zc (zA zv (pv 0) zf (fun _ _=>rfl)) (zc (zu Hd rfl fT qh (zc (zA zv (pv 0) zf (fun _ _=>rfl)) zd)) (zc (ER (zn iH (zA zv (pv 0) zf (fun _ _=>rfl)) ek (al _)) ek (zu Hd rfl fT qh (zc (zA zv (pv 0) zf (fun _ _=>rfl)) zd))) zd))))))
    (hfr:=cI δ) (te:=qA K P w))
   (ze (d0 AL rfl (iC rfl B.range (zc (zl zo rfl B.len dv (zc (pv 0) zd)) zd)) (zk (i:=2) EC.nd rfl (Or.inl rfl))
    (ze (hF hu (zA zv (zA zU (pv 0) (pv 2) (fun _ _=>rfl)) zf (fun _ _=>rfl)) (ei zd) zf rfl)
    (ze (zQ (zn nY (zA zv (zA zU (pv 0) (pv 2) (fun _ _=>rfl)) zf (fun _ _=>rfl)) ek (al _))
     (ze (zQ (zn (DR aF) (zA zv (zA zU (pv 0) (pv 2) (fun _ _=>rfl)) zf (fun _ _=>rfl)) (zA zv (zA zU (pv 1) (pv 2) (fun _ _=>rfl)) zf (fun _ _=>rfl)) (al _)) (zg (zm cU)) zr)
     (zg (hF hu (zA zv (zA zU (pv 0) (pv 2) (fun _ _=>rfl)) zf (fun _ _=>rfl)) (ei zd) zf rfl))) zr)
    (zg (zQ (zn (Jo eM) (iN Fj (pv 0) (iK (zy zS (pv 2) zf)) iJ) (iN Fj (pv 1) (iK (zy zS (pv 2) zf)) iJ) (al _)) (zg (zm cU)) zr)))))
   (ze (fM (g0 Qt QF QG js (pv 0) (zc (ei zd) zd)))
   (zg (zm cU)))),?_⟩
  refine⟨_,rfl,D,rfl,⟨_,SqL.of O.hD⟩,fun X sO=>zx (P' (p:=p) (oo:=oo) (SqL.of O.hD) O.rw (fun r hr'=>O.pap.ok r.x (Qj.mpr ⟨r,hr',rfl⟩)) hh ω sO fun H1 M s1 wd hM jL uw=>?_)⟩;have lM:M.length=L.length:=by simpa using congrArg List.length hM
  have hlM:(M.map fun r=>V.ref r.t).length=L.length:=by rw[Ab];exact lM
  have Y:∀a∈L.flatMap dcs,∃o,H a=some o:=fun a ha=>by obtain⟨kv,e⟩:=hd a ha;exact⟨_,e⟩
  have J:∀a∈L.flatMap dcs,a∉M.flatMap dcs:=fun a ha hm=>by
   obtain⟨o,e⟩:=Y a ha;rw[uw a hm] at e;cases e
  have hDK:D≠X:=zj O.hD sO;refine⟨_,rfl,D,_,rfl,.inl (SqL.of (s1 _ _ O.hD)),_,rfl,by rw[dj];omega,by rw[dj];omega,?_⟩;rw[dj];refine qT (lo:=0) (n:=((L.length:Nat):Int).toNat) (fun i σ H2=>∃(v:Option V),σ=[some (.ref D),some (.ref X),v]/\Ap H D X L M i H2)
   ⟨none,rfl,(zcn.refl _ H).then s1,s1 _ _ O.hD,wd,jL,fun j r _ I=>⟨qw (O.rw r (Ai I)) s1,fun a ha=>by obtain⟨kv,e⟩:=hd a (Qo.mpr ⟨r,Ai I,ha⟩);exact⟨kv,s1 _ _ e⟩⟩⟩ ?_ ?_
  ·rintro i σ H2 hi ⟨v,rfl,W⟩
   have hi':i<L.length:=ω
   have I:L[i]?=some L[i]:=Ah hi';have em:M[i]?=some (M[i]'ω):=Ah ω;generalize L[i]=r at I;generalize M[i]'ω=m at em;have cC:=Ai I;have vz:=Ai em;have tS:m.x=r.x:=by
    have:=congrArg (fun l=>l[i]?) hM;simp only[Ag,em,I,AQ,AW] at this;exact this
   have mK:=P9 T r cC;have iz:eE (L.map fun r=>V.ref r.t) ((0:Int)+(i:Int))=some (.ref r.t):=by rw[Int.zero_add];exact gw (by rw[Ag,I];rfl)
   have atM:eE (M.map fun r=>V.ref r.t) ((0:Int)+(i:Int))=some (.ref m.t):=by rw[Int.zero_add];exact gw (by rw[Ag,em];rfl)
   have fin:∀(H3:Hp)(N:Bool->Hp->Prop),Ap H D X L M (i+1) H3->(∀H4,Ap H D X L M (i+1) H4->N false H4)->
     eB (cp (fun x y H Q=>∃(l m:Addr)(ts us:List Addr),x=.ref l/\y=.ref m/\SqL K H l (ts.map V.ref)/\SqL K H m (us.map V.ref)/\Paired (AT H) ts us/\Q (.bl false) H) (ma (kb K) (ax 0) (l7 (cp (dR fun i j=>.int (i+j)) (ax 2) (tC (.int 1)))) l5) (ma (kb K) (ax 1) (l7 (cp (dR fun i j=>.int (i+j)) (ax 2) (tC (.int 1)))) l5)) [some (.ref D),some (.ref X),some (.int ((0:Int)+(i:Int)))] H3 N:=by
    intro H3 N a3 kN;have e1:(0:Int)+(i:Int)+1=((i+1:Nat):Int):=ω
    refine⟨_,rfl,_,rfl,_,_,rfl,rfl,_,rfl,D,_,rfl,SqL.of a3.hD,fun l hl=>?_⟩;rw[e1,j0 _ _ (by rw[dj];omega),<-RE];have s4:=Same.new (o:=.lst ((L.drop (i+1)).map fun r=>V.ref r.t)) hl;refine⟨_,rfl,_,rfl,_,_,rfl,rfl,_,rfl,X,_,rfl,SqL.of (s4 _ _ a3.hK),fun l' mX=>?_⟩;rw[e1,j0 _ _ (by rw[hlM];omega),<-RE];have s5:=s4.trans (Same.new (o:=.lst ((M.drop (i+1)).map fun r=>V.ref r.t)) mX);have a5:=a3.same s5;have f1:∀A:List RA,(A.map fun r=>V.ref r.t)=(A.map RA.t).map V.ref:=fun A=>by rw[Am];rfl
    refine⟨l,l',(L.drop (i+1)).map RA.t,(M.drop (i+1)).map RA.t,rfl,rfl,SqL.of (by rw[<-f1];exact(Same.new mX) _ _ ae),SqL.of (by rw[<-f1];exact ae),?_,_,rfl,kN _ a5⟩;refine Jq (fun q hq=>?_) (fun q hq=>a5.hM q (List.mem_of_mem_drop hq)) (by unfold bW at hM ⊢;rw[RE,RE,hM]);obtain⟨j,ej⟩:=Qn.mp hq;rw[SV] at ej;exact(a5.hL _ q ω ej).1
   obtain⟨u7,qe⟩:=W.hL i r (Af _) I;have rL:=W.mono (RM i);have ow:=O.pap.ok r.x (Qj.mpr ⟨r,cC,rfl⟩);have lc:(kvC r.x.c).length<sizeLine:=by rw[zK];exact zT (AA (gF ow.c.nd fun q hq=>(ow.ci q hq).1) ω)
   have mc:r.c∈dcs r:=by
    unfold dcs;cases r.x.d with
    |none=>exact .head _
    |some e=>exact .head _
   obtain⟨wc,eK⟩:=id u7;have G:=ki wc (qe _ mc);rcases eK with ⟨ed,ht⟩|⟨e,ed,vY,ht⟩
   ·refine⟨_,rfl,_,rfl,D,_,_,.ref r.t,rfl,rfl,SqL.of W.hD,iz,r.t,_,3,.ref r.c,rfl,rfl,SqT.of ht,rfl,zh (by simp),fun q hq=>?_⟩
    have u:=Same.new (o:=.tup []) hq;refine⟨r.c,_,rfl,DPut.t (k:=([]:List Key)) (u _ _ G) ae lc,?_⟩;have S:=(rL.same u).write (o:=.dT (putK (kvC r.x.c) [] (.int 1))) T J I mc (u _ _ G);have dw:upd (upd H2 q (.tup [])) r.c (.dT (putK (kvC r.x.c) [] (.int 1))) r.t=some (.tup [.int r.x.hi,.int r.x.b,.non,.ref r.c,.non]):=by rw[ah (aV (u _ _ ht) (u _ _ G) (by intro z;cases z))];exact u _ _ ht
    refine⟨_,rfl,_,rfl,D,_,_,.ref r.t,rfl,rfl,SqL.of S.hD,iz,r.t,_,4,.non,rfl,rfl,SqT.of dw,rfl,rfl,_,rfl,aC ?_⟩;exact fin _ _ S fun H5 a5=>aC ⟨_,rfl,a5⟩
   ·obtain⟨og,dC⟩:=ow.g e ed
    have lg:(kvC r.x.g).length<sizeLine:=by rw[zK];exact zT (AA (gF og.nd fun q hq=>(dC q hq).1) ω)
    have mg':r.g∈dcs r:=by
     unfold dcs;rw[ed];exact .tail _ (.head _)
    have xG:=ki vY (qe _ mg');have uH:r.g≠r.c:=fun z=>by
     unfold dcs at mK;rw[ed,z] at mK;simp at mK
    refine⟨_,rfl,_,rfl,D,_,_,.ref r.t,rfl,rfl,SqL.of W.hD,iz,r.t,_,3,.ref r.c,rfl,rfl,SqT.of ht,rfl,zh (by simp),fun q hq=>?_⟩;have u:=Same.new (o:=.tup []) hq;refine⟨r.c,_,rfl,DPut.t (k:=([]:List Key)) (u _ _ G) ae lc,?_⟩;have S:=(rL.same u).write (o:=.dT (putK (kvC r.x.c) [] (.int 1))) T J I mc (u _ _ G);have dw:upd (upd H2 q (.tup [])) r.c (.dT (putK (kvC r.x.c) [] (.int 1))) r.t=some (.tup [.int r.x.hi,.int r.x.b,.int e,.ref r.c,.ref r.g]):=by rw[ah (aV (u _ _ ht) (u _ _ G) (by intro z;cases z))];exact u _ _ ht
    have U:upd (upd H2 q (.tup [])) r.c (.dT (putK (kvC r.x.c) [] (.int 1))) r.g=some (.dT (kvC r.x.g)):=by rw[ah uH];exact u _ _ xG
    generalize upd (upd H2 q (.tup [])) r.c (.dT (putK (kvC r.x.c) [] (.int 1)))=H4 at S dw U;refine⟨_,rfl,_,rfl,D,_,_,.ref r.t,rfl,rfl,SqL.of S.hD,iz,r.t,_,4,.ref r.g,rfl,rfl,SqT.of dw,rfl,rfl,_,rfl,bd ?_⟩;obtain⟨uo,qR⟩:=S.hM m vz;rw[tS] at uo qR;rcases qR with ⟨mN,_⟩|⟨e',mN,tV,yL⟩
    ·rw[ed] at mN;cases mN
    refine⟨_,rfl,_,rfl,D,_,_,.ref r.t,rfl,rfl,SqL.of S.hD,iz,r.t,_,4,.ref r.g,rfl,rfl,SqT.of dw,rfl,_,rfl,_,rfl,X,_,_,.ref m.t,rfl,rfl,SqL.of S.hK,atM,m.t,_,4,.ref m.g,rfl,rfl,SqT.of yL,rfl,r.g,m.g,true,rfl,rfl,PN (.inl U) tV,_,rfl,aC ?_⟩;refine⟨_,rfl,_,rfl,D,_,_,.ref r.t,rfl,rfl,SqL.of S.hD,iz,r.t,_,4,.ref r.g,rfl,rfl,SqT.of dw,rfl,zh (by simp),fun q' nV=>?_⟩;have s5:=Same.new (o:=.tup []) nV;refine⟨r.g,_,rfl,DPut.t (k:=([]:List Key)) (s5 _ _ U) ae lg,?_⟩;have a6:=(S.same s5).write (o:=.dT (putK (kvC r.x.g) [] (.int 1))) T J I mg' (s5 _ _ U);exact fin _ _ a6 fun H7 a7=>aC ⟨_,rfl,a7⟩
  ·rintro σ H2 ⟨v,rfl,W⟩
   refine⟨_,rfl,.inl ⟨rfl,_,SqL.of W.hD⟩,zh (by simp),fun t ht=>?_⟩;have u:=Same.new (o:=.tup []) ht;refine⟨D,_,_,rfl,rfl,u _ _ W.hD,by rw[dj];exact zT ω,?_⟩;exact k _ ((W.so.then u).put (.head _))
end
noncomputable abbrev gi:Stmt:=top 52
noncomputable abbrev qB:List Str:=["script","box","order","prime","handed","turn","told","found"]
def jg:zp qB ["script"] (zi gi):=⟨rfl,rfl,rfl,δ,rfl,δ,δ⟩
def Qb{ns:List Int}{r:Int}(a:0<=r)(h1:r<ns.length):∃z,z∈ns/\eE (ns.map V.int) r=some (.int z):=by
 obtain⟨n,rfl⟩:=Qz a;have e:ns[n]?=some ns[n]:=Ah ω;exact⟨ns[n],Bi _,gw (by rw[Ag,e];rfl)⟩
structure Js(oo:Ξ):Prop where
 o:cA oo
 few:oo.length<=200
 h:HInj oo
def Qc{ad a:Ξ}(h:Drawn ad)(c:cA a)(hp:a.Perm (canon ad)):Js a:=by
 refine⟨c,?_,(Po h).sub fun x hx=>hp.mem_iff.mp hx⟩;have:=G3 h;rw[hp.length_eq,Db];omega
structure Zl(Pt:Addr)(H H2:Hp)(OR HN:Addr)(os:List Addr)(oo:Ξ):Prop where
 dom:∀b,H2 b=none->H b=none
 hO:H2 OR=some (.lst (os.map V.ref))
 hN:H2 HN=some (.lst (os.map V.ref))
 ho:Tps H2 os oo
 tb:TY Pt H2
section
variable{Pt:Addr}{H H2 H3:Hp}{OR HN:Addr}{os:List Addr}{oo:Ξ}
def Zl.sf(z:Zl Pt H H2 OR HN os oo)(s:SY Pt H2 H3):Zl Pt H H3 OR HN os oo:=⟨fun b h=>z.dom b (s.dom h),s.lst z.hO,s.lst z.hN,s.tps z.ho,s.tab z.tb⟩
def Zl.same(z:Zl Pt H H2 OR HN os oo)(s:Same H2 H3):Zl Pt H H3 OR HN os oo:=z.sf (Same.sf s)
def Zl.so(z:Zl Pt H H2 OR HN os oo){D:Addr}{L:List RA}{xs:List V}(f:H2 D=some (.lst xs))(hd:qu H2 L)(p:D≠OR)(u:D≠HN)(s:zcn (D::L.flatMap dcs) H2 H3):Zl Pt H H3 OR HN os oo:=by
 have d:∀{b:Addr}{o:HO},H2 b=some o->b≠D->(∀k,o≠.dT k)->H3 b=some o:=fun{b o} e n1 n2=>s.keep _ _ (fun hm=>by
  rcases Qk.mp hm with h|h
  ·exact n1 h
  ·obtain⟨kv,g⟩:=hd b h
   rw[e] at g;exact n2 _ (Al g)) e
 have l:∀{b:Addr}{ys:List V},H2 b=some (.tup ys)->b≠D:=fun e=>aV e f (by intro z;cases z);refine⟨fun b h=>z.dom b (s.dom b h),d z.hO (Ne.symm p) (by intro k z;cases z),d z.hN (Ne.symm u) (by intro k z;cases z),Paired.mapP z.ho fun a q e=>d e (l e) (by intro k z;cases z),?_⟩;rcases z.tb with e|⟨c,e,i,vs,j,e2,r⟩
 ·exact .inl (d e (aV e f (by intro z;cases z)) (by intro k z;cases z))
 ·exact .inr ⟨c,d e (aV e f (by intro z;cases z)) (by intro k z;cases z),i,vs,j,d e2 (aV e2 f (by intro z;cases z)) (by intro k z;cases z),r⟩
end
def Qd(x:bi):∀H:Hp,Paired (AV H) (tri x) (tri x):=fun H=>by
 unfold tri;refine .cons (.fl rfl) (.cons (.fl rfl) (.cons (.fl ?_) .nil));cases x.d with
 |none=>rfl
 |some e=>rfl
def Jt{H:Hp}:∀{us vs:List Addr}{xs:List bi}{ys:List bi},Paired (fun u x=>H u=some (.tup x)) us (xs.map tri)->Paired (fun u x=>H u=some (.tup x)) vs (ys.map tri)->xs.map tri=ys.map tri->Paired (AT H) us vs
 |_,_,[],[],.nil,.nil,_=>.nil
 |_,_,_::_,[],_,_,e=>by cases e
 |_,_,[],_::_,_,_,e=>by cases e
 |_,_,x::xs,y::ys,h,k,e=>by
  rw[At] at h k;rw[At,At] at e;cases h with
  |cons h1 h2=>
   cases k with
   |cons k1 k2=>
    have e1:tri x=tri y:=by injection e
    have e2:xs.map tri=ys.map tri:=by injection e
    exact .cons ⟨_,_,h1,k1,e1▸Qd x H⟩ (Jt h2 k2 e2)
section
variable{P:Program}{w:World}{K:Ae}{mg:Str->Option Value}{base:Heap}{f:Addr}{fd:FuncData}{Pt:Addr}
def xZ(K:Ae)(Pt:Addr):Sp:=fun vs H Q _=>∃(a:Addr)(ns:List Int),vs=[.ref a]/\SqL K H a (ns.map V.int)/\ns.length<=63/\H Pt=some (.tbl #[])/\∀H',Q (.bl true) H'
def Qe(F:Fun K "law" "law" gi f fd)(B:Bt mg)(Cc:Cl P w K mg base aR "_law_cell_at" ["script","k"] 1 (GT K))(Cb:Cl P w K mg base aR "_law_box" ["cell"] 1 GU)(Ct:Cl P w K mg base aR "_law_take" ["box","most"] 1 mU)(Cw:Cl P w K mg base aR "_law_web" ["box"] 3 GX)(fI:Cl P w K mg base aR "_law_pieces" ["web"] 2 (GR K))(Co:Cl P w K mg base aR "_law_order" ["box","known"] 2 (IT K))(Cg:Cl P w K mg base aR "_law_long" ["box"] 2 I_)(Cp:Cl P w K mg base aR "paper" ["order","prime"] 6 (Ed K Pt))(Ck:Cl P w K mg base aR "_law_paper_like" ["found"] 3 Jl)(Ci:Cl P w K mg base aR "_law_is_paper" ["order","prime","row"] 4 (Jj K))(Cq:Cl P w K mg base aR "is_paper" ["order","prime","paper"] 7 (IK K Pt))(Cs:Cl P w K mg base aR "bars" ["order","prime"] 7 (Ix K Pt))(Ca:Cl P w K mg base aR "_law_apart" ["told"] 1 Jr):FnOk P w K mg base aR 8 f fd ["script"] (xZ K Pt):=by
 refine F.ok jg (fun vs H Q E h=>?_) (fun ar A outer s H vs Q E hr h=>?_)
 ·obtain⟨a,ns,rfl,_⟩:=h;rfl
 ·obtain⟨a,nn,rfl,hS,hn,xJ,k⟩:=h
  have hu:=eG hr;have aF:=hr.units;have eM:(A.deeper (PyProof.Rows.envOfC "law" (zi gi) s⁻¹ f ar)).units+128<cLine:=by have:=hr.un;omega
  have R4:∃tr,PSs (eD aR P w K mg base qB "law" (zi gi) f ar A outer s H E).nox (List.drop 4 (za3 gi)) tr/\
    ∀(p OR:Addr)(os:List Addr)(oo:Ξ)(pr:Int)(H2:Hp),H2 OR=some (.lst (os.map V.ref))->Tps H2 os oo->Js oo->isP pr->TY Pt H2->(∀b,H2 b=none->H b=none)->
     tr {nx:=fun _ H'=>Q .non H',rt:=Q} [some (.ref a),some (.ref p),some (.ref OR),some (.int pr),none,none,none,none] H2:=by
   refine⟨_,ze (zt (i:=4) jg.nd rfl (Or.inl rfl) (zu BV rfl B.list fh (zc (pv 2) zd)))
    (ze (d0 AL rfl (iC rfl B.range (zc zf zd)) (zk (i:=5) jg.nd rfl (Or.inl rfl))
     (ze (zt (i:=6) jg.nd rfl (Or.inl rfl) (zE Cp hr rfl ak (zc (pv 4) (zc (pv 3) zd))))
     (ze (zQ (PW.pt (fv (dB (dN (zE Ck hr rfl ak (zc (pv 6) zd)))) (fv (dB (dN (zE Ci hr rfl ak (zc (pv 2) (zc (pv 3) (zc (pv 6) zd)))))) (gH (zn (rY aF) (pv 4) (pv 2) (al _)))))) (zg (zm cU)) zr)
     (ze (zQ (zn (IB aF) (zq qB ["bar"] [none] (zD (pv 6)) (fun j C s₀ H₀ ex=>zk (i:=0) (cz ["bar"]) rfl (Or.inl rfl)) (fun j C s₀ H₀ ex=>zF) (fun j C s₀ H₀ ex=>zA zv (pv 0) zf (fun _ _=>rfl)) (hfr:=cI δ) (te:=fJ K 1))
      (zl rZ rfl B.sorted mP (zc (zq qB ["bar"] [none] (zD (pv 6)) (fun j C s₀ H₀ ex=>zk (i:=0) (cz ["bar"]) rfl (Or.inl rfl)) (fun j C s₀ H₀ ex=>zF) (fun j C s₀ H₀ ex=>zA zv (pv 0) zf (fun _ _=>rfl)) (hfr:=cI δ) (te:=fJ K 1)) zd)) (al _)) (zg (zm cU)) zr)
     (ze (zQ (PW.pt (fv (zn OO (zE Cq hr rfl ak (zc (pv 4) (zc (pv 3) (zc (zu BV rfl B.list fh (zc (pv 6) zd)) zd)))) cU (al _)) (gH (zn (rY aF) (pv 4) (pv 2) (al _))))) (zg (zm cU)) zr)
     (ze (zt (i:=7) jg.nd rfl (Or.inl rfl) (zE Cs hr rfl ak (zc (pv 4) (zc (pv 3) zd))))
     (ze (zQ (PW.pt (fv (dB (dN (zl Hj rfl B.isinstance mR (zc (pv 7) (zc (lS (v:=.ty "list") rfl B.list fh rfl) zd))))) (gH (zn (Jo eM) (pv 7) (zq qB ["bar"] [none] (zD (pv 6)) (fun j C s₀ H₀ ex=>zk (i:=0) (cz ["bar"]) rfl (Or.inl rfl)) (fun j C s₀ H₀ ex=>zF) (fun j C s₀ H₀ ex=>iN rf (pv 0) iJ (iK zf)) (hfr:=cI δ) (te:=Ef K)) (al _))))) (zg (zm cU)) zr)
     (ze (fM (g0 Qt QF QG js (pv 7) (zc (ei zd) zd)))
     (zg (zQ (dB (dN (zE Ca hr rfl ak (zc (Ip (pv 6)) zd)))) (zg (zm cU)) zr))))))))))
    (zg (zm cU))),?_⟩
   intro p OR os oo pr H2 hO ho ok hp tb dom;refine⟨_,rfl,OR,_,rfl,.inl (SqL.of hO),fun HN vM=>?_⟩;have s3:=Same.new (o:=.lst (os.map V.ref)) vM;have z3:Zl Pt H (upd H2 HN (.lst (os.map V.ref))) OR HN os oo:=⟨fun b h=>dom b (s3.free h),s3 _ _ hO,ae,s3.tps ho,tb.same s3⟩;refine⟨2,rfl,ω,ω,?_⟩;refine qT (lo:=0) (n:=(2:Int).toNat) (fun i σ H4=>∃(v5 v6 v7:Option V),σ=[some (.ref a),some (.ref p),some (.ref OR),some (.int pr),some (.ref HN),v5,v6,v7]/\Zl Pt H H4 OR HN os oo) ⟨none,none,none,rfl,z3⟩ ?_ ?_
   ·rintro i σ H4 hi ⟨v5,v6,v7,rfl,l⟩
    refine⟨_,rfl,_,rfl,HN,os,oo,pr,rfl,SqL.of l.hN,l.ho,ok.o,ok.few,hp,l.tb,fun D L X f5 bI d ap ou=>?_⟩;have z5:=l.sf f5;have cY:=jW d.pap (Af _);have few:=ok.few;have dj:(L.map fun r=>V.ref r.t).length=L.length:=Ab _;have yr:D≠OR:=Ne.symm (zj l.hO bI);have xt:D≠HN:=Ne.symm (zj l.hN bI);refine⟨_,rfl,pr,oo,D,L,rfl,d,ok.few,ou,fun Y s6=>⟨_,rfl,aC ?_⟩⟩;have lT:∀{H':Hp},Same X H'->fH pr oo H' D L:=fun s'=>⟨s' _ _ d.hD,qo d.rw s',d.pap⟩;have z6:=z5.same s6;refine⟨_,rfl,_,rfl,_,rfl,OR,os,oo,pr,D,L,rfl,SqL.of z6.hO,z6.ho,ok.o,ok.few,hp,lT s6,fun H7 s7=>⟨_,rfl,aC ?_⟩⟩;have lN:=s6.trans s7;have z7:=z5.same lN;refine⟨_,rfl,_,rfl,.inr ⟨HN,OR,os,os,oo,oo,rfl,rfl,SqL.of z7.hN,z7.ho,SqL.of z7.hO,z7.ho,_,rfl,?_⟩⟩;rw[Th rfl,Tj rfl];have oH:=lT lN;refine aC ⟨_,rfl,D,rfl,⟨_,SqL.of oH.hD⟩,fun D8 pf=>zx (wz (SqL.of oH.hD) oH.rw ω pf fun H8 J nv=>?_)⟩;have n_:=lT (lN.trans J);refine⟨_,rfl,D,rfl,⟨_,SqL.of n_.hD⟩,fun D9 gJ=>zx (wz (SqL.of n_.hD) n_.rw ω gJ fun H9 s9 ph=>?_)⟩;have lb:(cP L).length=L.length:=Ab _;refine⟨D9,cP L,rfl,SqL.of ph,ω,fun sn ms fu cX ng=>?_⟩;have oN:=Same.new (o:=.lst (ms.map V.int)) ng;have em:cP L=ms:=by
     refine wh fu.symm ?_ cX;have:=d.pap.srt;unfold cP;rw[AX] at this ⊢;rw[AX] at this;exact this.imp fun h=>ω
    have kZ:=((lN.trans J).trans s9).trans oN;refine⟨D8,sn,cP L,ms,rfl,rfl,SqL.of (oN _ _ (s9 _ _ nv)),SqL.of ae,_,rfl,?_⟩;rw[Tj em];generalize upd H9 sn (.lst (ms.map V.int))=H10 at oN kZ;have qp:=z5.same kZ;have nM:=lT kZ;refine aC ⟨_,rfl,_,rfl,_,rfl,D,_,rfl,.inl (SqL.of nM.hD),fun lO iw=>?_⟩;have se:=Same.new (o:=.lst (L.map fun r=>V.ref r.t)) iw;have N:=kZ.trans se;have S:=z5.same N;have jH:fH pr oo (upd H10 lO (.lst (L.map fun r=>V.ref r.t))) lO L:=⟨ae,qo d.rw N,d.pap⟩;have jT:=N _ _ d.hD;generalize upd H10 lO (.lst (L.map fun r=>V.ref r.t))=H11 at se N S jH jT;refine⟨HN,os,oo,pr,lO,L,rfl,SqL.of S.hN,S.ho,ok.o,ok.few,hp,S.tb,jH,fun nD fz=>⟨true,true,rfl,rfl,_,rfl,aC ?_⟩⟩;have g:=S.sf fz;have jI:SY Pt X nD:=(Same.sf N).trans fz;refine⟨_,rfl,_,rfl,.inr ⟨HN,OR,os,os,oo,oo,rfl,rfl,SqL.of g.hN,g.ho,SqL.of g.hO,g.ho,_,rfl,?_⟩⟩;rw[Th rfl,Tj rfl];refine aC ⟨_,rfl,_,rfl,HN,os,oo,pr,rfl,SqL.of g.hN,g.ho,ok.o,ok.few,hp,g.tb,fun I us xs wD jD rK io jR eL=>?_⟩;have mQ:=g.sf jD;have jx:=jI.trans jD;refine⟨_,rfl,I,_,rfl,io,_,rfl,aC ⟨_,rfl,?_⟩⟩;have jz:=jx.lst d.hD;have oO:∀r∈L,RwAt wD r:=fun r hr'=>(d.rw r hr').sf jx;refine⟨_,rfl,D,rfl,⟨_,SqL.of jz⟩,fun x6 mq=>zx (Iw (SqL.of jz) oO ω mq fun mI vs M jy pz=>?_)⟩;have mJ:Paired (fun u x=>mI u=some (.tup x)) us (xs.map tri):=Paired.mapP jR fun u x e=>M _ _ e;refine⟨I,x6,us,vs,rfl,rfl,SqL.of (M _ _ io),SqL.of jy,Jt mJ pz (O2 hp.pr.1 eL d.pap),_,rfl,aC ?_⟩;have j6:=mQ.same M;have gA:=M _ _ io;have B4:us.length<=200:=by
     have h1:=A0 jR;rw[Ab] at h1;have nb:(xs.map (·.b)).Nodup:=eL.srt.imp fun h=>ω
     have:=nb.length_le_of_subset (l₂:=AD oo.length) fun b hb=>by
      obtain⟨x,hx,rfl⟩:=Qj.mp hb;exact Qv.mpr (gE eL hx).born
     rw[Ab,QR] at this;have:=ok.few;omega
    refine⟨_,rfl,.inl ⟨rfl,_,SqL.of gA⟩,zh (by simp),fun t ht=>?_⟩;have gB:=Same.new (o:=.tup []) ht;refine⟨I,_,_,rfl,rfl,gB _ _ gA,by rw[Ab];exact zT ω,?_⟩;have t_:nD I=none:=rK;have hV:SY Pt nD (upd (upd mI t (.tup [])) I (.lst (us.map V.ref++[.ref t]))):=((jD.trans (Same.sf M)).trans (Same.sf gB)).put rK (gB _ _ gA);have rG:=g.sf hV;have gO:=jI.trans hV;generalize upd (upd mI t (.tup [])) I (.lst (us.map V.ref++[.ref t]))=H16 at hV rG gO;have nC:∀r∈L,RwAt H16 r:=fun r hr'=>(d.rw r hr').sf gO;have fD:∀b∈L.flatMap dcs,∃kvs,Rd H16 b (.dT kvs):=fun b hb=>by
     obtain⟨r,hr',hb⟩:=Qo.mp hb;exact v1 (nC r hr') hb
    refine⟨_,rfl,L.flatMap dcs,fun b hb=>⟨l.dom b (ap.new b hb),fD b hb⟩,fun sv xp kr=>?_⟩;have k6:SY Pt H16 sv:=Iq fD xp kr;have kj:=gO.trans k6;have uW:=rG.sf k6;have jk:=kj.lst d.hD;have jB:qu sv L:=fun b hb=>by
     obtain⟨kv,hk⟩:=fD b hb;exact⟨kv,kr b hb kv hk⟩
    refine⟨pr,oo,D,L,rfl,⟨jk,fun r hr'=>(d.rw r hr').sf kj,d.pap⟩,ok.few,ok.h,jB,ap.nd,fun B_ so=>⟨_,rfl,aC ⟨_,_,_,rfl,uW.so jk jB yr xt so⟩⟩⟩
   ·rintro σ H4 ⟨v5,v6,v7,rfl,l⟩
    exact k H4
  obtain⟨Bx,n8,fQ⟩:=R4;refine⟨_,ze (zt (i:=1) jg.nd rfl (Or.inl rfl) (zE Cb hr rfl ak (zc (zE Cc hr rfl ak (zc (pv 0) (zc zf zd))) zd)))
   (ze (zt (i:=2) jg.nd rfl (Or.inl rfl) (zE Co hr rfl ak (zc (pv 1) (zc (zE fI hr rfl ak (zc (zE Cw hr rfl ak (zc (pv 1) zd)) zd)) zd))))
   (ze (zt (i:=3) jg.nd rfl (Or.inl rfl) (zA zU (fy (zc zf (zc zf (zc zf (zc zf zd))))) (zE Ct hr rfl ak (zc (pv 1) (zc zf zd))) (fun _ _=>rfl)))
   (ze (zQ (zn fY (zE Ct hr rfl ak (zc (pv 1) (zc zf zd))) zf (al _)) (zg (zt (i:=2) jg.nd rfl (Or.inl rfl) (zE fI hr rfl ak (zc (zE Cg hr rfl ak (zc (pv 1) zd)) zd)))) zr) n8))),?_⟩
  refine⟨_,rfl,a,nn,rfl,hS,fun n=>⟨n,rfl,fun p x y hp wa=>?_⟩⟩;have sp:=Same.new (o:=.lst [.int x,.int y]) hp;have G:zY (upd H p (.lst [.int x,.int y])) p:=⟨x,y,ae,wa⟩;have T:TY Pt (upd H p (.lst [.int x,.int y])):=Tab.same (.inl xJ) sp;generalize upd H p (.lst [.int x,.int y])=H0 at sp G T;refine⟨_,rfl,_,rfl,p,rfl,G,fun O os ad H1 fm dD _ uS iI jP=>?_⟩;obtain⟨hw,hnd,hlen⟩:=MD jP;obtain⟨lX,sB,h5,ay⟩:=Dc hw;have BC:=G3 jP;refine⟨O,os,ad,rfl,SqL.of uS,iI,h5,ω,ω,fun KN H2 q2 t2=>?_⟩;obtain⟨ks,s2,_,qj,xn⟩:=G5 t2;have ky:∀{H H':Hp},TY Pt H->zG p H H'->zY H p->TY Pt H':=fun{H H'} t sb hb=>by
   obtain⟨x,y,e,_⟩:=hb;have np:Pt≠p:=fun z=>by rw[<-z] at e;rcases t with e'|⟨_,e',_⟩<;>(rw[e] at e';cases e')
   rcases t with e1|⟨c,e1,oc,vs,tt,e2,r⟩
   ·exact .inl (sb _ _ np e1)
   ·exact .inr ⟨c,sb _ _ np e1,oc,vs,tt,sb _ _ (fun z=>by rw[z,e] at e2;cases e2) e2,r⟩
  refine⟨p,KN,ks,ad,rfl,dD.same s2,SqL.of qj,qj,xn,hw,fun OR H3 rs aw cw bw sH lq i0 eV=>?_⟩;have eY:zG p H0 H3:=(fm.trans (zG.of s2)).trans cw;have pA:TY Pt H3:=ky T eY G;refine⟨zh (by simp),fun L hL=>?_⟩;have U:=Same.new (o:=.lst ([2,3,5,7].map V.int)) hL;have bC:=bw.same U;have nL:L≠p:=by obtain⟨x,y,h,_⟩:=bw;exact Ne.symm (zj h hL)
  refine⟨_,rfl,p,4,rfl,bC,ξ,ξ,fun r5 X yR yK cM bZ=>?_⟩;obtain⟨m,hm,em⟩:=Qb (ns:=[2,3,5,7]) yR yK;have qD:isP m:=by
   simp only[Qk,RW,or_false] at hm;exact hm
  refine⟨L,_,_,_,rfl,rfl,SqL.of (cM _ _ nL ae),em,?_⟩;have ka:zG p H0 X:=(eY.trans (zG.of U)).trans cM;have yZ:TY Pt X:=ky T ka G;have qi:=cM _ _ (bC.ne (U _ _ sH)) (U _ _ sH);have qH:=cM.tps bC (U.tps lq);refine⟨_,rfl,p,16,rfl,bZ,ξ,ξ,fun r6 Y _ _ cR du=>⟨rfl,_,rfl,?_⟩⟩;have eC:zG p H0 Y:=ka.trans cR;have yI:TY Pt Y:=ky T eC G;have pD:∀b,Y b=none->H b=none:=fun b h=>sp.free (eC.free G du h);refine eH (fun _=>?_) (fun _=>fQ p OR rs aw m Y (cR _ _ (bZ.ne qi) qi) (cR.tps bZ qH) (Qc jP i0 eV) qD yI pD);refine⟨_,rfl,p,rfl,du,fun W bs pZ H7 eN dz _ yn vm yj=>?_⟩;obtain⟨lp,ll,oE,lh⟩:=Py yj;refine⟨W,bs,pZ,rfl,SqL.of yn,vm,fun q hq=>(zW.mp (lp q hq)).2.1,ω,by rw[<-Db];omega,fun vx H8 q8 t8=>?_⟩;obtain⟨uZ,J,_,vZ,wZ⟩:=G5 t8;have jE:zG p H0 H8:=(eC.trans eN).trans (zG.of J);exact fQ p vx uZ (canon pZ) m H8 vZ wZ ⟨Pp lp,oE,lh⟩ qD (ky T jE G) fun b h=>sp.free (jE.free G (dz.same J) h)
end
end K64
end
section
namespace L2
open PySem PySem.Spec PyProof.Rows
def Ju{K:Ae}{x:Str}{f c P:Addr}{e cc:Value}{g h:Option Addr}{d i:Array (Option Value)}{fd:FuncData}{vs:Array Value}(a:SM K mainGlobals x=some (some (.ref f)))(l:K.lookup f=some ⟨e,g,.func fd,d⟩)(hc:fd.code=.ref c)(m:K.lookup c=some ⟨cc,h,.fields vs,i⟩)(j:(vs[11]?:Option Value)=some (.ref P)):Rk K x=some (c,P):=by
 unfold Rk;rw[a];simp only[l,hc,m,j]
def Qf{K:Ae}{x:Str}{st:Stmt}{f c P:Addr}{fd:FuncData}(F:Fun K x x st f fd)(a:SM K mainGlobals x=some (some (.ref f)))(t:Rk K x=some (c,P)):fd.code=.ref c:=by
 obtain⟨e,g,kV,h,i,j,d,ct,l,rfl,lk,o⟩:=F.ex;unfold Rk at t;rw[a] at t;simp only[lk] at t;cases d with
 |ref c2=>
  simp only at t;split at t
  ·split at t
   ·cases t;rfl
   ·cases t
  ·cases t
 |_=>cases t
end L2
end
section
namespace K64
open K1
open PySem L2 STb
def Qg{K:Ae}{t:Addr}{a:Option Addr}{c:Array (Option Value)}{d e f g:Tok}{n:Nat}(l:K.lookup t=some ⟨.type "tuple",a,.seq #[.int 2 d,.int 3 e,.int 5 f,.int 7 g] n,c⟩):∀H,SqT K H t [.int 2,.int 3,.int 5,.int 7]:=
 fun H=>.inr ⟨_,_,_,l,rfl,rfl,by show 4<=sizeLine;rw[sizeLine_eq];decide,.cons ⟨_,rfl⟩ (.cons ⟨_,rfl⟩ (.cons ⟨_,rfl⟩ (.cons ⟨_,rfl⟩ .nil)))⟩
def Qh{l:PySem.W.OpenLaw}{w:World}{K:Ae}{h:Heap}{mg:Str->Option Value}{fa f1 f2 f3 f4 f5 f6 f7 f8 f9 u1 uI fz jD ue yv tJ k6 uV u8 xx uu yU xX yq wm xz xm vN w9 wq vw yM x5 wQ vp xj vH xM vd aP:Addr}{tp tq ts:Tok}(X:K.In h)(G:h.Ns mainGlobals mg)(xQ:mg "law"=some (.ref fa)){cO Pt:Addr}(hT:Rk K "youngest_of"=some (cO,Pt))(d1:Df K "is_piece" C6 f1)(d2:Df K "rims_of" pe f2)(d3:Df K "seam_of" Dv f3)(d4:Df K "seam_terms" pX f4)(d5:Df K "sum_of" i5 f5)(d6:Df K "is_order" vj f6)(d7:Df K "must_be_order" DS f7)(d8:Df K "must_be_prime" DT f8)(d9:Df K "bars" Ec f9)(kT:Df K "paper" vW u1)(sV:Df K "times_of" DY uI)(uT:Df K "worked_off" Ea fz)(rP:Df K "youngest_of" DZ jD)(xh:Df K "taken_by" vl ue)(ur:Df K "times_into" vq yv)(uM:Df K "less_by" vr tJ)(kr:Df K "is_paper" wl k6)(vC:Df K "is_bar" Ee uV)(we:Df K "is_chain_by" p6 u8)(ye:Df K "_law_cell_at" C8 xx)(uk:Df K "_law_box" kQ uu)(xS:Df K "_law_take" oY yU)(yF:Df K "_law_parts" oZ xX)(wy:Df K "_law_pieces" C' yq)(uK:Df K "_law_known" sN wm)(vQ:Df K "_law_named" o8 xz)(wx:Df K "_law_web" kW xm)(vE:Df K "_law_rims" tD vN)(ua:Df K "_law_order" wA w9)(wC:Df K "_law_seam_by" jc wq)(xL:Df K "_law_at" jd vw)(wI:Df K "_law_is_bar" Et yM)(xi:Df K "_law_is_paper" w4 x5)(vR:Df K "_law_whole" Ew wQ)(vn:Df K "_law_chain_like" w5 vp)(xC:Df K "_law_paper_like" Ex xj)(vG:Df K "_law_long" wR vH)(wF:Df K "_law_apart" xg xM)(qm:Df K "law" gi vd)(gp:Nn K "MOST_POINTS" (some (.int 5 tp)))(gq:Nn K "LAST_POINT" (some (.int 99 tq)))(gs:Nn K "MOST_PIECES" (some (.int 200 ts)))(xU:Nn K "PRIMES" (some (.ref aP)))(hP:∀H,SqT K H aP [.int 2,.int 3,.int 5,.int 7])(z1:Nn K "len" none)(z2:Nn K "all" none)(z3:Nn K "zip" none)(z4:Nn K "sorted" none)(z5:Nn K "set" none)(z6:Nn K "list" none)(z7:Nn K "tuple" none)(z8:Nn K "range" none)(z9:Nn K "enumerate" none)(qp:Nn K "int" none)(ij:Nn K "isinstance" none)(eA:Nn K "reversed" none)(mQ:Nn K "bool" none)(c:Nn K "dict" none)(rV:Nn K "max" none):∃fd:FuncData,(∀(s:Shared)(v:Value),BindsTo s fd ⟨[v],[]⟩ [("script",v)])/\∀base:Heap,K.In base->base.Ns mainGlobals mg->BM mg base->PySem.W.CodeAll [(cO,Pt)] base->FnOk l.prog w K mg base aR 8 fa fd ["script"] (xZ K Pt):=by
 cases xQ.symm.trans (qm.m X G);have B:Bt mg:=⟨z1.n X G,z2.n X G,z3.n X G,z4.n X G,z5.n X G,z6.n X G,z7.n X G,z8.n X G,z9.n X G,qp.n X G,ij.n X G,eA.n X G,mQ.n X G⟩;obtain⟨g1,F1,b1,m1⟩:=d1.g1 X G "numbers";obtain⟨g2,i,q,r⟩:=d2.g1 X G "piece";obtain⟨g3,F3,b3,m3⟩:=d3.g1 X G "chain";obtain⟨g4,F4,b4,m4⟩:=d4.g2 X G "piece" "often";obtain⟨g5,j,u,x⟩:=d5.g1 X G "terms";obtain⟨g6,F6,b6,m6⟩:=d6.g1 X G "order";obtain⟨g7,F7,b7,m7⟩:=d7.g1 X G "order";obtain⟨g8,F8,b8,m8⟩:=d8.g1 X G "prime";obtain⟨g9,F9,b9,m9⟩:=d9.g2 X G "order" "prime";obtain⟨B7,y,u9,wB⟩:=kT.g2 X G "order" "prime";obtain⟨BN,A,xN,wW⟩:=sV.g1 X G "order";obtain⟨Bu,C,yp,uD⟩:=uT.g4 X G "piece" "rows" "times" "prime";obtain⟨BZ,e,yt,x9⟩:=rP.g2 X G "chain" "times";obtain⟨Bs,D,tM,s0⟩:=xh.g2 X G "chain" "prime";obtain⟨y4,E,xV,xY⟩:=ur.g3 X G "weight" "goal" "prime";obtain⟨y6,F,vX,vo⟩:=uM.g4 X G "chain" "often" "other" "prime";obtain⟨y_,I,vV,wP⟩:=kr.g3 X G "order" "prime" "paper";obtain⟨BP,J,xq,ut⟩:=vC.g3 X G "row" "times" "prime";obtain⟨B6,L,vU,ux⟩:=we.g5 X G "chain" "height" "time" "times" "prime";obtain⟨BK,M,sZ,wf⟩:=ye.g2 X G "script" "k";obtain⟨B3,N,tW,xu⟩:=uk.g1 X G "cell";obtain⟨z_,f,O,Q⟩:=xS.g2 X G "box" "most";obtain⟨B9,vA,yG,ym⟩:=yF.g1 X G "piece";obtain⟨B8,S,tX,uB⟩:=wy.g1 X G "web";obtain⟨yY,vk,vT,ul⟩:=uK.g1 X G "number";obtain⟨BG,u6,uj,xl⟩:=vQ.g2 X G "box" "web";obtain⟨B5,T,tI,sW⟩:=wx.g1 X G "box";obtain⟨Bo,U,xD,xH⟩:=vE.g1 X G "piece";obtain⟨Bq,Y,uY,yh⟩:=ua.g2 X G "box" "known";obtain⟨Bm,sP,uF,wY⟩:=wC.g2 X G "chain" "prime";obtain⟨BB,rW,vh,vI⟩:=xL.g5 X G "chain" "size" "time" "prime" "when";obtain⟨BJ,rE,wJ,uG⟩:=wI.g3 X G "bar" "prime" "when";obtain⟨yX,qE,wu,u_⟩:=xi.g3 X G "order" "prime" "row";obtain⟨B',qI,vK,um⟩:=vR.g1 X G "found";obtain⟨Bw,rD,t6,uR⟩:=vn.g1 X G "found";obtain⟨B1,rN,xT,uL⟩:=xC.g1 X G "found";obtain⟨Bp,r_,wX,wG⟩:=vG.g1 X G "box";obtain⟨A_,qz,tO,wS⟩:=wF.g1 X G "told";obtain⟨⟨gL,FL⟩,_⟩:=qm;have de:=Qf e rP.a hT;refine⟨gL,?_,fun base _ _ d oQ=>?_⟩
 ·obtain⟨_,_,_,_,_,_,_,_,_,rfl,_,_⟩:=FL.ex;exact fun s v=>.of_eq rfl
 have Ci:=zZ F1 b1 m1 (L5 (P:=l.prog) (w:=w) (base:=base) F1 B (gp.m X G) (gq.m X G));have Cr:=zZ i q r (G6 (P:=l.prog) (w:=w) (base:=base) i B);have q9:=zZ U xD xH (M8 (P:=l.prog) (w:=w) (base:=base) U B);have Gs:=Nr (mg:=mg) (P:=l.prog) (w:=w) (base:=base) j;have Cs:=zZ j u x Gs;have Gt:=Nq (P:=l.prog) (w:=w) (base:=base) F4 B i q r;have Cm:=zZ F3 b3 m3 (Ny F3 F4 b4 m4 Gt j u x Gs);have Co:=zZ F7 b7 m7 (Op F7 (zZ F6 b6 m6 (On F6 B (gs.m X G) Ci Cr)));have Cp:=zZ F8 b8 m8 (Os (P:=l.prog) (w:=w) (base:=base) F8 (xU.m X G) hP);have qO:=zZ A xN wW (Ox (P:=l.prog) (w:=w) (base:=base) A B);have o:=zZ e yt x9 (Oz (P:=l.prog) (w:=w) (base:=base) e B (rV.n X G) de oQ.1 d);have g:=zZ D tM s0 (OD (Pt:=Pt) D Cs);have tT:=zZ E xV xY (OG (P:=l.prog) (w:=w) (base:=base) E B);have tN:=zZ F vX vo (OK F B Cs g);have wv:=zZ C yp uD (OM C B Cm g o tT tN);have sk:=zZ y u9 wB (OZ y B Co Cp qO wv o);have xy:=zZ F9 b9 m9 (O4 F9 sk);have vS:=zZ L vU ux (O8 L B o);have yo:=zZ J xq ut (O_ J B vS Cm g);have wE:=zZ I vV wP (Pa I B Co Cp qO yo);have p:=zZ f O Q (C_ (P:=l.prog) (w:=w) (base:=base) f);have tz:=zZ Y uY yh (Pg Y B p q9);have uz:=zZ r_ wX wG (PD r_ B p);have vt:=zZ sP uF wY (PJ sP B (c.n X G) q9);have yT:=zZ rW vh vI (PM (P:=l.prog) (w:=w) (base:=base) rW B (rV.n X G));have yi:=zZ rE wJ uG (PQ rE yT vt);have u5:=zZ qE wu u_ (PU qE B (c.n X G) yi);have p9:=zZ qI vK um (PX (P:=l.prog) (w:=w) (base:=base) qI B);have wk:=zZ rD t6 uR (PZ rD B (c.n X G) p9);have wj:=zZ rN xT uL (P4 rN B p9 wk);have vg:=zZ qz tO wS (Qa (P:=l.prog) (w:=w) (base:=base) qz B (c.n X G));exact Qe FL B (zZ M sZ wf (Ma M B)) (zZ N tW xu (Mc N)) p (zZ T tI sW (Mt T B f O Q u6 uj xl vk vT ul)) (zZ S tX uB (Mh S B vA yG ym)) tz uz sk wj u5 wE xy vg
def walk{l:PySem.W.OpenLaw}{q:Program}{r:List Str}{E:(Str->Option Value)->Heap->Prop}{g:World->Heap->Prop}{d:DefRec}{K:Params->Ae}{c Pt:Addr}(v:l.most=some 63)(y:d.params.defaults=[])(A:∀(w:World)(h:Heap),g w h->(K w.params).In h)(C:∀p,Tg (K p)=true)(hT:∀p,Rk (K p) "youngest_of"=some (c,Pt))(D:((PyProof.Rows.recsOf q).find? (fun e=>e.name==("youngest_of":Str))).isSome=true)(F:∀(w:World)(mg:Str->Option Value)(fa:Addr)(h:Heap),(K w.params).In h->h.Ns mainGlobals mg->mg d.name=some (.ref fa)->
   ∃fd:FuncData,(∀(s:Shared)(u:Value),BindsTo s fd ⟨[u],[]⟩ [("script",u)])/\∀base:Heap,(K w.params).In base->base.Ns mainGlobals mg->BM mg base->PySem.W.CodeAll [(c,Pt)] base->FnOk l.prog w (K w.params) mg base aR 8 fa fd ["script"] (xZ (K w.params) Pt)):
  PySem.W.WalkO q r E g l.row.toRowW d [] (fun f vs=>PySem.call f vs):=
 L2.N6 (n:=63) (k:=8) (x:="script") (CX:=aR) (sp:=fun w=>xZ (K w.params) Pt) (tabs:=[(c,Pt)]) (xs:=["youngest_of"]) v ξ y ⟨rfl,ξ,ξ⟩ A C (fun p=>by show [Rk (K p) "youngest_of"]=[some (c,Pt)];rw[hT p]) (fun x hx=>by rw[Ql.mp hx];exact D) F
  (fun w H a ns i j o=>⟨a,ns,rfl,j,i,o _ (Ql.mpr rfl),fun _=>rfl⟩) fun _ _ _ _ z=>z
end K64
open PySem PySem.W PyProof.Rows
structure PySem.W.Fast:Prop where
 (tw1001929195138668483 tw10087134980308328627 tw10204175843083901329 tw10323252267573591799 tw10464076686783660850 tw10466024115260765330 tw10488663206330499239 tw10500850167712769523 tw10514920219472844115 tw10529162891584159901 tw10575737214185381744 tw10597845679644821609 tw10703346074673992648 tw10749838357974795234 tw10839704468964427980 tw10839866103782146752 tw10847391162029068408 tw10924207344585810027 tw11108255629867711620 tw11110328247918216667 tw11332309664246095486 tw11355083119912695375 tw11370244386153499297 tw1139425585059377559 tw11403541642176521339 tw11421451601873808151 tw11424016459300316236 tw11552817891166387906 tw11555811344756131754 tw11568367728582443541 tw11607021736007165654 tw11612530814272405844 tw11628287690349230700 tw11657763936510178854 tw11708072153145676343 tw11733317467362899047 tw11775862049320248530 tw11886808992865008771 tw12009121273662725135 tw12009208079875237988 tw12061839756028631538 tw12135672768873721848 tw12185704128622558285 tw12190338774941048020 tw12271492804041300658 tw12321597763284375459 tw12364292793370507075 tw12397006084915240420 tw12426420196378890858 tw12443312130715898293 tw12457669460162930778 tw12458694188690929350 tw12537467394765339377 tw12538077704226485702 tw12538133750361634256 tw12575676378960855531 tw12588425258724665847 tw1259118381424418864 tw12625539736382381357 tw12629728683826931858 tw12635779713738502979 tw12693105923853656874 tw12723255701349825338 tw1275139611363825682 tw12763252214612418483 tw12769172656671836863 tw1278098242468541542 tw12827306571222818232 tw12838736016896662321 tw12899333297610830360 tw12924192518545026494 tw12953473982220422532 tw13060788456837110169 tw13075428055920409080 tw13111694886983611178 tw13543769631083771921 tw13635057234042839447 tw1391213564105305994 tw1397455199126068134 tw14099665361301224477 tw14131309183802637780 tw14217051670458362842 tw14222712376509739434 tw14293135090024601778 tw14313354497673781414 tw14428142199519415798 tw14439059454868239579 tw14532024607981591921 tw14580123028920144270 tw14623916532625135782 tw14706847354639728593 tw14738911471193425914 tw14804241456561242060 tw14904739809304930652 tw14988739318536583066 tw15020593498566760773 tw15028809149129342875 tw15048393452630870011 tw15075922186620042136 tw15100735532741019829 tw15150689791519764101 tw1515971095726976972 tw15418440685261187699 tw15537766889729676668 tw15549675067120803923 tw15609596790241141559 tw15619173290817915162 tw15650277650890285156 tw15657289243014894214 tw15840897986222049905 tw15905483760143405084 tw16029827345857682983 tw16047897176489971601 tw16073392002581747686 tw16142982917094342811 tw16186190355151386579 tw16490849486491817014 tw16668968349843991173 tw16705236041871331570 tw16792518375942860743 tw16806646263094567975 tw16980725567087282510 tw17053745021655915915 tw17056407221904219184 tw1716509543633757803 tw17167641679456609835 tw17207432067825075013 tw17237629766732896704 tw17331566532542522333 tw17397805440682952017 tw17485164784415262327 tw17528767134358373620 tw1755847227914791516 tw17672909210483124578 tw17716129261715169193 tw17796493762527519538 tw18027979269070638371 tw18166180372304348754 tw18169480690223893392 tw18178515894019639100 tw18274438120733768044 tw1834273059176436987 tw18390959123007913285 tw18401873748003293015 tw18428022902860979475 tw1913159387544165127 tw1913973619660495310 tw1964397235773962665 tw200161259468112914 tw2038530508988711184 tw2065092577153140274 tw2184157487891719302 tw2299393442542853732 tw2312103327614639946 tw2368357690488516512 tw251036201572452443 tw2543266247401377175 tw271294153612553357 tw2742875409786054096 tw2766547512626965068 tw278887731375929033 tw2797453641451012927 tw287479714051226002 tw2947035853281474564 tw3070839446693051977 tw3150513140239323110 tw3189953048174846450 tw3259847118184176883 tw3327726069524154650 tw3398335128495183472 tw3421926338323809702 tw3434289516247637882 tw3515798579096323201 tw3590677724788767591 tw3634635212802951644 tw3637934755996045277 tw3692695798479059773 tw3730761271005457469 tw383331901164642276 tw3966186126840037229 tw408478523328561760 tw4196939081145341373 tw4333199439191653994 tw4723492355530262334 tw4747642062652747364 tw4769343833248835089 tw4819549802813861391 tw4954265465080954607 tw50036503407010968 tw5019068090233599912 tw5241795842104681871 tw5267757348548595743 tw5453427375715315397 tw5474682505587383275 tw5707623007928339740 tw5859261297171170905 tw6017655550398186476 tw6093280465243034665 tw6168789253968992787 tw6178498048700440395 tw618927794931195328 tw625506038785680353 tw6347780960071426796 tw6426248102501123395 tw6433648004667642467 tw6491432286696534002 tw6676305801378396265 tw6686437532802760468 tw6762979565402659861 tw7047094598891462731 tw7260321521008200553 tw7315409788061660621 tw7319391012753736969 tw7331656500132179999 tw7357095959423786433 tw7432792594213891109 tw7481250981332108636 tw7635369828040931468 tw7678358182125936551 tw7823971261155814235 tw7828489356092737994 tw7849543059316551127 tw7880234310763232316 tw7964429799314267120 tw7976582440880614043 tw8055781694864589807 tw8092600095277970930 tw8141550479161095128 tw8417201319777865576 tw8439871528323665751 tw8515710360209237774 tw8578032257207729853 tw8663381715664155784 tw8689599011694762320 tw8751758374713862034 tw8924244606653067722 tw8959306443273140963 tw898099344062734704 tw8996283051191091598 tw9051779069227751809 tw9117695429385580959 tw9153768544447431089 tw9173201762350913663 tw9231371962346290195 tw9320122041829064696 tw941884213244458360 tw9426702711595116269 tw9446621054701668129 tw9505842286673320768 tw9612443840240279242 tw9629734507199566097 tw9674868380648283508 tw9697808972323394434 tw9751600097044252089 tw9766034868339914550 tw9846571002633408433 tw9873850473870962403 tw9959676186234003826:True)
set_option maxRecDepth 100000 in
set_option maxHeartbeats 0 in
theorem PySem.Challenge.cw_seamwright_k64_whole_right_papers_of_bar_holds : PySem.Challenge.rw_seamwright_k64_whole_right_papers_of_bar.Holds := by
 w_on; o_law; k_head; (case hw=>w_witness2)
 k_fill
 refine' K64.walk (l:=PySem.Challenge.rw_seamwright_k64_whole_right_papers_of_bar) rfl rfl (fun w h Y=>PySem.W.km_in_of Y) (fun _=>by kernel_rfl) ?T ?R ?F
 case T=>
  intro p;refine' L2.Ju ?a ?l ?c ?m ?v
  (case a=>k_is)
  (case l=>k_is)
  (case c=>rfl)
  (case m=>k_is)
  (case v=>rfl)
 case R=>decide +kernel
 case F=>
  intro w mg fa h KX G fw;refine' K64.Qh KX G fw ?_ ?_ ?_ ?_ ?_ ?_ ?_ ?_ ?_ ?_ ?_ ?_ ?_ ?_ ?_ ?_ ?_ ?_ ?_ ?_ ?_ ?_ ?_ ?_ ?_ ?_ ?_ ?_ ?_ ?_ ?_ ?_ ?_ ?_ ?_ ?_ ?_ ?_ ?_ ?_ ?_ ?_ ?_ ?_ ?_ ?_ ?_ ?_ ?_ ?_ ?_ ?_ ?_ ?_ ?_ ?_ ?_ ?_ ?_ ?_
  all_goals try first | (refine' L2.Ju ?a ?l ?c ?m ?v; (case a=>k_is); (case l=>k_is); (case c=>rfl); (case m=>k_is); (case v=>rfl)) | refine' L2.DO ?_ ?_ ?_ ?_ | refine' L2.Nn.mk ?_ | refine' K64.Qg ?_
  all_goals try first | k_is | kit_is | k_exc
#print axioms PySem.Challenge.cw_seamwright_k64_whole_right_papers_of_bar_holds
end
