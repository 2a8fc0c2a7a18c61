import PyProof.Rows.All
import Wide.All
import OpenK.AllK
import Wide.FinOn
import Lean
import PyProof.EqAt
import PyProof.EqKinds
import PyProof.TupleCall
import PyProof.Rows.SortRuns
import KE.KSortKey
import KE.KListMore
import KE.KIntText
import KE.KEqDat
import PyProof.Rows.CallKwBuiltin
import PySem.SetTable
import PyProof.Rows.SetFrom
import PyProof.TupleKey
import PyProof.IsRules
import KE.KRevIter
import PyProof.ListRange
import PyProof.TupleOfGen
import PyProof.CollectIter
import PySem.Challenge.RW_seamwright_k67_whole_bars_by_worths
import KE.KDictLaws
import PyProof.DictWalks
import PyProof.FactsAll.set_2
import PyProof.FactsAll.subtypes_5
import KE.KDictList
import KE.KDictSum
import PyProof.StationsW
import PyProof.ExcClass3
import OpenK.KOwn
import PyProof.ExcArgsOwn
import PyProof.MinMaxWalk
import PyProof.SumAny
import KE.KLam
import PyProof.SetNew
import PyProof.DictCopy
import PyProof.FactsAll.dict_1
import PyProof.DictFindH
import PyProof.NeKinds
import PyProof.AttrMissHeap
import KE.KMinKey
import PyProof.DictTruth
import PyProof.DictItems
open PySem renaming wpAny_bind->Aa,wpAny_pure->Ac,tupleKeyHash->Au,wpAny_holding->AH,IsTupleKey->AM,wpAny_call_entry->AX,wpAny_newObj_type->AY,wpAny_dictEntries->A0,wpAny_callSpecial?_slot->A5,codeAny_builtin->A7,bootBuiltins->Ba,wpAny_setState_of->Bd,wpAny_setField_rec->Bj,mem_of_lookup->Bo,sizeLine_eq->Bp,wpAny_mono->Br,sysModules->Bs,wpAny_field->Bw,codeAny_mono->Bx,compareOp->Bz,wpAny_seqItems->BB
open List renaming length_map->Ab,getElem?_eq_getElem->Ae,getElem?_map->Ah,size_toArray->Aj,mem_of_getElem?->Ak,map_map->An,map_append->Ap,mem_cons_of_mem->Ar,mem_cons_self->Av,map_cons->Aw,length_append->Az,take_of_length_le->AA,length_cons->AB,map_congr_left->AC,length_take->AE,getD_eq_getElem?_getD->AK,range->AO,pairwise_map->AQ,getElem_mem->A8,getElem?_eq_none->Bc,lookup_cons->Be,mem_append_right->Bh,mem_singleton->Bm,nodup_nil->BC,nodup_append->BD,length_range->BE
open PySem.Heap renaming get?_push_of_some->Ad,get?_push_size->Al,lt_size->Ao,SameBut->AU
open PySem.W renaming Frag->Af
open Nat renaming le_refl->Ag,ne_of_lt->Aq,lt_of_lt_of_le->AF,le_trans->AG,zero_le->AL,lt_succ_of_lt->AW,ne_of_gt->Bf
open Option.some renaming inj->Ai,injEq->Bg
open Bool renaming false_eq_true->Am,false_ne_true->Ax,and_eq_true->AS,not_true->Bv
open PySem.Obj renaming mapSeq->Ay
open Array renaming length_toList->AD,getElem?_toList->AJ,size_map->Bb
open PySem.Heap.SameBut renaming update->AI
open PySem.Paired renaming length->AN
open PyProof.Rows renaming take_snoc->AR
open PySem.PassesOwn renaming never->AZ
open Classical renaming byContradiction->A1
open PySem.Around renaming under_plainId->A4
open PySem.Str renaming ofString->A6
open PySem.F renaming plainAttrs_list->A9
open Option renaming map_some->Bi
open PySem.PyData renaming int->Bk
open PySem.NameKind renaming free->Bn
open Int renaming toNat_natCast->Bq,dvd_trans->Bu
open List renaming getElem?_eq_some_iff->BK,mem_map->Qi,mem_cons->Qj,mem_singleton->Qk,mem_iff_getElem?->Ql,mem_append->Qm,mem_range->Qn,nodup_cons->Qo,all_eq_true->Qp,pairwise_iff_getElem->Qq,getElem?_zip_eq_some->Qt,mem_flatMap->Qu,mem_filter->Qv,find?_cons->Qw,length_drop->Qx,filter_append->QA,length_filter_le->QD,flatMap_cons->QE,getElem?_append_right->QF,mem_iff_getElem->QH,not_mem_nil->QL,getElem?_append_left->QP,take_add_one->QQ,eq_nil_of_length_eq_zero->QR,getElem?_take_of_lt->QU,sum_cons->QW,length_nil->QZ,foldl_cons->Q1,filter_cons->Q5,perm_ext_iff_of_nodup->Q9,length_zip->Rb,mem_take_iff_getElem->Rf,map_inj_right->Rg,any_eq_true->Ri,mem_append_left->Rk,getElem?_inj->Rm,append_nil->Ro,map_fst_zip->Rw,find?_eq_none->Ry,nodup_iff_pairwise_ne->RC,pairwise_cons->RD,drop_eq_getElem_cons->RE,of_mem_zip->RF,ext_getElem?->RJ,map_id'->RK,filter_cons_of_pos->RP,filter_cons_of_neg->RQ,zip_cons_cons->RS,getElem?_toArray->RW,take_append_drop->RX,idxOf_lt_length_of_mem->RZ,take_zero->R3,mem_of_mem_take->R4,getElem?_of_mem->R6,nodup_range->R7,filterMap_cons->R9,getElem?_range->Sb,mem_map_of_mem->Sd,zipIdx_map_fst->Se,any_cons->Sh,filter_nil->Sk,getElem?_cons_succ->Sq,any_eq_false->Su,foldl_append->SA,map_snd_zip->SE,all_cons->SG,forIn_cons->SJ,flatMap_append->SM,map_nil->SN,mem_filterMap->SV,zip_map_right->S3,length_zipIdx->S7,pairwise_map->Tc,append_assoc->Te,map_drop->Tg,map_take->Th,getElem_inj->Ti,take_length->Tr,all_map->Tu,range'->TD
open Option renaming map_eq_some_iff->Qr,getD_some->Rh,isSome_iff_exists->Rj,bind_some->Tq
open Array renaming getElem?_eq_some_iff->Qs,getElem?_eq_getElem->Qz,getElem?_map->QJ,getElem?_eq_none->Ru,getD_eq_getD_getElem?->Rv,forIn_toList->RT,size_extract->RU,perm_iff_toList_perm->R0,getElem?_eq_none_iff->R1,size_push->Sj,toList_push->Sy,ext_getElem?->S6,toList_map->Tn
open Int renaming dvd_mul_left->Qy,le_refl->QG,dvd_zero->QN,dvd_add->QS,emod_lt_of_pos->Q4,dvd_sub->Q6,dvd_of_emod_eq_zero->Rn,emod_nonneg->Rp,eq_ofNat_of_zero_le->RO,dvd_mul_right->RY,le_of_lt->SO,mul_zero->Tv,mul_emod->Tw
open PySem.F renaming slot_list_append->QB,type_list_append->QC,plain_max_loop->QO,slot_dict_itemiterator_next->QX,slot_dict_keyiterator_next->Q2,plain_extend_loop->Re,args_dict_itemiterator_next_1->R8,args_dict_keyiterator_next_1->Sa,entry_dict_itemiterator_next->Sf,args_tuple_add_2->Sg,entry_dict_keyiterator_next->Si,entry_tuple_add->Sn,slot_list_index->Sr,type_list_index->Ss,slot_tuple_add->Sw,entry_max_loop->SC,slot_dict_get->SD,slot_dict_items_iter->SL
open Nat renaming le_succ->QI,lt_or_ge->QM,lt_irrefl->QT,le_of_lt->QY,lt_succ_iff->Q0,lt_trichotomy->Q8,not_lt_zero->RG,lt_trans->RH,zero_add->RI,lt_succ_self->RM,le_add_right->RN,add_sub_cancel->Sl,le_succ_of_le->Sx,pow_le_pow_right->SH,sub_zero->SQ,le_of_eq->SR,lt_of_le_of_lt->SX,eq_zero_or_pos->S4,lt_or_eq_of_le->S5,lt_or_gt_of_ne->S8,le_of_succ_le->Ta,min_le_right->Tj,mod_lt->Ts,succ_pos->Tt
open PySem.W renaming kia_one->QK,tabIn->QV,cellsFrom_some->Rt,fnOf->RR,mg_of->RV,kla_fn->R5,keepIn->Sv,tabObj->SB,kla_obj->SK,envX->SS,nsIn->SU,codeIn->SW,ke_sameAll->S0,methodObj->S9,kdl_call->To,instObj->Tx,lookIn->TC,noTabs->TF
open PyProof.Rows renaming b2i->Q7,slot_tuple_getitem->Rc,envOfC->Rq,callWith_type1->Rr,firstMet->Tz
open Bool renaming eq_iff_iff->Ra,and_false->Rl,false_and->Rx,not_false->Sz,not_eq_true'->Td,and_self->Tf
set_option linter.all false
set_option compiler.extract_closed false
set_option autoImplicit true
set_option Elab.async false
set_option maxRecDepth 100000
set_option maxHeartbeats 4000000
theorem TH{c:Prop}{h:Decidable c}(x:c){α:Sort _}{t e:α}:@ite α c h t e=t:=if_pos x
theorem TJ{c:Prop}{h:Decidable c}(x:¬c){α:Sort _}{t e:α}:@ite α c h t e=e:=if_neg x
theorem TK{p:Prop}[Decidable p](h:p):decide p=true:=decide_eq_true h
theorem TL{p:Prop}[Decidable p](h:¬p):decide p=false:=decide_eq_false h
theorem TN{p:Prop}[Decidable p](h:decide p=true):p:=of_decide_eq_true h
def δ{p:Prop}(h:p:=by decide +kernel):p:=h
def ω{p:Prop}(h:p:=by first|lia|omega):p:=h
def ξ{p:Prop}(h:p:=by decide):p:=h
abbrev Ω:=PySem.Value->PySem.Shared->Prop
abbrev Ξ:=List (List Int)
abbrev Ψ:=List (PySem.Addr×PySem.Obj)
local macro_rules|`($s⁻¹)=>`(($s).heap.objs.size)
open scoped BitVec
set_option hygiene false
local macro_rules|`(5#$x)=>`(.ref $x)|`(0#0)=>`(model prog w)|`(6#$x)=>`(by simpa using $x)|`(1#0)=>`((d.update D (Ay fun _=>(#[]:Array Value))).push (seqObj "tuple" vs.toArray 0))|`(2#0)=>`(by simp)|`(3#0)=>`(fun cdv A outer s H vs Q E hr h=>?_)|`(4#0)=>`(s.heap.push {cls:=.type "set",dict:=none,data:=.set #[] 0 (.fresh 0 0 led)})|`(7#$x)=>`(pv $x)|`(0#1)=>`(model X.prog X.w)|`(8#$x)=>`(.lst $x)|`(1#1)=>`(((s.heap.push (seqObj "list" #[] 0)).update s⁻¹ (Ay (·++vs.toArray))))|`(2#1)=>`(Or.inl rfl)|`(3#1)=>`(fun _ _=>rfl)|`(9#$x)=>`(arrOf $x)|`(4#1)=>`(cellsFrom (l⁻¹+1) scope.names (clOf X.env.cells scope.names []))|`(50#$x)=>`(lp mask h $x)|`(0#2)=>`(fun vs H Q E h=>?_)|`(51#$x)=>`(.dT $x)|`(52#$x)=>`(.tup $x)|`(1#2)=>`(fun _ z=>nomatch z)|`(53#$x)=>`(pos t.mask h $x)|`(2#2)=>`(as.map V.ref)|`(3#2)=>`(us.toArray.zip vs.toArray)|`(4#2)=>`(s.heap.push {cls:=.type "list_iterator",data:=.fields #[.ref l,.int 0 0]})|`(0#3)=>`(.ListComp bL [⟨tg,iter,a9,0⟩] scope pos)
local macro_rules|`(1#3)=>`(eD X scope N' a C s₀ H₀ ex)|`(2#3)=>`((·.1))|`(3#3)=>`(ab.map fun ps=>PyData.tuple (ps.map Bk))|`(54#$x)=>`(show false=true from $x)|`(55#$x)=>`(some $x)|`(4#3)=>`(fun _ _ z=>nomatch z)|`(0#4)=>`((Au knd k,Value.ref b))|`(1#4)=>`(as.map Value.ref)|`(2#4)=>`(ab.flatMap parts)|`(3#4)=>`(intKind prog w)|`(4#4)=>`(seqObj "list" vs.toArray 0)|`(0#5)=>`(.ref s⁻¹)|`(1#5)=>`(Ac ?_)|`(2#5)=>`(seqObj "list" #[] 0)|`(56#$x)=>`(za $x zb)|`(3#5)=>`(.tup [.int r.hi,.int (wt cs os r.b),g])|`(4#5)=>`(aT (Gx (P:=P) (args:=args) (body:=body) (pos:=cq) hC cb dF G dP aa J σ H1 (fun v H2=>∃f,v=.ref f/\zad H1 H2/\(∀b ps,b≠P->H1 b=some (.tbl ps)->H2 b=some (.tbl ps))/\Tab H2 P cq (X.env.qual++"<lambda>")/\zfi H2 f (X.env.qual++"<lambda>") args body sc y cc) I1 ⟨ht,fun f H2 T U Y a4=>⟨f,rfl,T,U,Y,a4⟩⟩) fun u2 s2 jJ=>?_)|`(57#$x)=>`(.int $x)|`(0#6)=>`(fun(p:List Key×V) b=>H b=some 52#(p.1.map kV))|`(1#6)=>`(Ay fun _=>(#[]:Array Value))|`(2#6)=>`(canon ab)|`(58#$x)=>`(pr t.mask h $x)|`(3#6)=>`(cxD X scope N' 4#1 l⁻¹ l (upd H2 D (.lst [])) fp)|`(4#6)=>`(List Key×V)|`(59#$x)=>`(zx $x 7#0 ze 3#1)
local macro_rules|`(0#7)=>`(ns.map fun n=>[n])|`(1#7)=>`(c9 owner (mask+1))|`(2#7)=>`(.builtin "sorted")|`(60#$x)=>`((false,eval $x X.env))|`(61#$x)=>`(I.hok.fresh ($x _))|`(3#7)=>`(List Int×Addr)|`(4#7)=>`((∀b o,b<s⁻¹->s.heap.get? b=some o->h'.get? b=some o))|`(0#8)=>`(ps.map fun p=>(p.1,addrOf p.2))|`(1#8)=>`(by intro z;cases z)|`(62#$x)=>`(Same.new $x)|`(2#8)=>`(fun z=>hb (by simp[z]))|`(3#8)=>`(by intro xs z;cases z)|`(4#8)=>`(bubble 9#b (lo+k) (lo+k-(lo+l)))|`(0#9)=>`(List Key×Addr×Value)|`(1#9)=>`(za 7#0 zb)|`(2#9)=>`(wpAny_of_eq (a:=Value.none) (by first|rfl|(simp only[firstArgMember];rfl)) ?_)|`(3#9)=>`(names.map fun(n,k)=>if(k==Bn&&env.scope.kind==.function&&env.kindOf n==some .cell) then(n,NameKind.cell) else(n,k))|`(4#9)=>`((ys.map (·.2.1)))|`(0#10)=>`(Ag _)|`(1#10)=>`(if(!false&&d.tooFull)=true then(setRelay S (SetTable.grown (es.size+1)) >>= fun _=>pure true) else pure true)|`(2#10)=>`(mirror 9#st lo (lo+n) ((lo+n-lo) / 2))|`(3#10)=>`(fun a b=>HT.lexLt ((b.1.length:Int)::b.1) ((a.1.length:Int)::a.1)=false)|`(4#10)=>`(insertAt es p ((3#4).hash n,Value.int n tk))|`(0#11)=>`((if(k==Bn&&env.scope.kind==.function&&env.kindOf n==some .cell)=true then(n,NameKind.cell) else(n,k))::_)|`(63#$x)=>`(sm.trans $x)
local macro_rules|`(64#$x)=>`(zf (zl $x))|`(1#11)=>`(R5 "<lambda>" (X.env.qual++"<lambda>") args body sc [(y,cc)] ((X.mg "__name__").getD .none) 5#c' g)|`(2#11)=>`(A.deeper (Rq "law" (zd bN) s⁻¹ f cdv))|`(3#11)=>`(runEnd mask (50#r).1-(50#r).1)|`(4#11)=>`(by rw[Ab];lia)|`(65#$x)=>`(.inr (.inr $x))|`(66#$x)=>`(Option $x)|`(0#12)=>`(fun z=>nomatch z)|`(1#12)=>`(ha pos aa s σ H _ I h)|`(67#$x)=>`(upd $x D (.lst []))|`(2#12)=>`(call 2#7 [.ref l] [(A6 "key",.ref f)])|`(68#$x)=>`(wv cs $x)|`(69#$x)=>`(BK.mp $x)|`(3#12)=>`(wpAny_isInstance (T:="StopIteration") (b:=true) ⟨_,Al _ rfl,rfl⟩ isSubtype_stop ?_)|`(4#12)=>`(k==Bn&&env.scope.kind==.function&&env.kindOf n==some .cell)|`(0#13)=>`(fun acc x=>if x∈acc then acc else acc++[x])|`(1#13)=>`(es.map 2#3)|`(2#13)=>`(aI I q 2#0)|`(3#13)=>`(.fresh 0 0 led)|`(4#13)=>`(ord w S ep es)|`(0#14)=>`(x==("__debug__":Str))|`(1#14)=>`(seqObj "list" #[] e1)|`(2#14)=>`((fun j σ ys b=>∃(c d:Option V)(ts:List Addr),σ=[c,d,some 57#n]/\Same H2 b/\b D=some 8#ys/\ys=ts.map V.ref/\Prs b ts ((f.zipIdx.map fun q=>(q.1,sg q.2 n)).take j)))|`(3#14)=>`(seqObj "list" acc.toList.toArray 0)|`(4#14)=>`(fun x=>hc (by simp[x]))
local macro_rules|`(0#15)=>`(t.led=true/\t.plain=true)|`(70#$x)=>`(show wpAny _ _ $x _ _ _ from Ac ?_)|`(71#$x)=>`(ax $x)|`(72#$x)=>`(Ne.symm $x)|`(1#15)=>`(s.heap.push {cls:=.type "range",data:=.fields #[.int lo t,.int hi u,.int 1 v]})|`(2#15)=>`(I.ok.hd hc)|`(3#15)=>`(ts.map fun x=>Value.ref x.1)|`(4#15)=>`(seqObj "tuple" vs.toArray 0)|`(73#$x)=>`(eval $x X.env)|`(0#16)=>`((∃o es ep t,TS knd h' s⁻¹ o es ep t (dd vals) B))|`(74#$x)=>`(.inl $x)|`(1#16)=>`(fun a b=>HT.lexLt b.1 a.1=false)|`(2#16)=>`((·.map Sum.inl))|`(3#16)=>`(Int×Value)|`(4#16)=>`(Au knd k)|`(75#$x)=>`(cxD X scope N' $x C s₀ H₀ ex)|`(76#$x)=>`(zd $x)|`(0#17)=>`((·.2))|`(1#17)=>`(zm zo rfl B.len ee 1#9)|`(2#17)=>`(pickOrder (w.params.setOrder S ep) es)|`(3#17)=>`(show ¬((Value.ref d==Value.none)=true) from Ax)|`(4#17)=>`(s.heap.push {cls:=.type "dict",data:=.dict #[]})|`(0#18)=>`(if(Value.ref d==Value.none)=true then _ else _)|`(1#18)=>`(ns.map V.int)|`(2#18)=>`(.type "dict")
local macro_rules|`(77#$x)=>`(backTo $x (starEach es X.env))|`(78#$x)=>`(wpAny_newList ?_ $x)|`(79#$x)=>`(bG $x a x.g)|`(3#18)=>`(Str×Addr)|`(4#18)=>`(.inl rfl)|`(0#19)=>`((ab.take i).flatMap parts++(parts ps).take j)|`(1#19)=>`(.tup [.int f.length,.ref b])|`(80#$x)=>`(za zU (za zU (za zU $x)))|`(81#$x)=>`(upd H $x o)|`(82#$x)=>`(tupleKind $x)|`(83#$x)=>`(pr mask h $x)|`(84#$x)=>`(Qi.mpr ⟨x,$x,rfl⟩)|`(85#$x)=>`(.int $x t)|`(2#19)=>`((fun i σ H2=>∃l as v,σ=[some 5#a,some 5#l,v]/\Same H H2/\H l=none/\H2 l=some 8#(as.map V.ref)/\Tps H2 as (subs (ps.take i))))|`(86#$x)=>`(SortSt.mk' $x 3#2 #[] 7 none)|`(3#19)=>`(fun _ _=>False)
section
namespace L2
open PySem PySem.Spec PyProof.Rows
abbrev Key:=Sum Int Str
noncomputable def lG:Key->Value->Bool
 |.inl k,v=>Value.isInt k v
 |.inr x,v=>Value.isStrOf x v
noncomputable def vr(w:World):Key->Int
 |.inl k=>hashInt k
 |.inr x=>hashStr w x
def aN:∀{k:Key}{v:Value},lG k v=true->(∃i t,k=Sum.inl i/\v=Value.int i t)\/(∃x t,k=Sum.inr x/\v=Value.str x t)
 |.inl i,v,h=>by
  obtain⟨t,e⟩:=Value.isInt_shape (k:=i) (v:=v) h;exact .inl ⟨i,t,rfl,e⟩
 |.inr x,v,h=>by
  obtain⟨t,e⟩:=Value.isStrOf_shape (x:=x) (v:=v) h;exact .inr ⟨x,t,rfl,e⟩
def Iu(i:Int)(t:Tok):lG 74#i 85#i=true:=by simp[lG,Value.isInt]
def Iv(x:Str)(t:Tok):lG (.inr x) (.str x t)=true:=by simp[lG,Value.isStrOf]
def Iw(a b:Int):decide ((Sum.inl a:Key)=Sum.inl b)=(a==b):=by
 by_cases e:a=b
 ·subst e;simp
 ·have h:¬(Sum.inl a:Key)=Sum.inl b:=fun q=>e (Sum.inl.inj q)
  rw[TL h];exact(beq_eq_false_iff_ne.mpr e).symm
def Ix(a b:Str):decide ((Sum.inr a:Key)=Sum.inr b)=decide (a=b):=by
 by_cases e:a=b
 ·subst e;simp
 ·have h:¬(Sum.inr a:Key)=Sum.inr b:=fun q=>e (Sum.inr.inj q)
  rw[TL h,TL e]
def Iy(a:Int)(b:Str):decide ((Sum.inl a:Key)=Sum.inr b)=false:=TL (fun q=>nomatch q)
def Iz(a:Str)(b:Int):decide ((Sum.inr a:Key)=Sum.inl b)=false:=TL (fun q=>nomatch q)
noncomputable def zp(prog:Program)(w:World):PySem.KeyKind prog w Key where
 is:=lG
 hash:=vr w
 inj:=fun v a b ha hb=>by
  rcases aN ha with ⟨i,t,rfl,rfl⟩|⟨x,t,rfl,rfl⟩
  ·rcases aN hb with ⟨j,u,rfl,e⟩|⟨y,u,rfl,e⟩
   ·injection e with e1 _;rw[e1]
   ·exact nomatch e
  ·rcases aN hb with ⟨j,u,rfl,e⟩|⟨y,u,rfl,e⟩
   ·exact nomatch e
   ·injection e with e1 _;rw[e1]
 byValue:=fun k v h=>by
  rcases aN h with ⟨i,t,rfl,rfl⟩|⟨x,t,rfl,rfl⟩<;>rfl
 pyHash:=fun c h=>by
  rcases aN c with ⟨i,t,rfl,rfl⟩|⟨x,t,rfl,rfl⟩
  ·exact wpAny_pyHash_int h
  ·exact wpAny_pyHash_str h
 eqBool:=fun hu c h=>by
  rcases aN hu with ⟨i,t,rfl,rfl⟩|⟨x,t,rfl,rfl⟩
  ·rcases aN c with ⟨j,u,rfl,rfl⟩|⟨y,u,rfl,rfl⟩
   ·rw[Iw] at h;exact wpAny_eqBool_int h
   ·rw[Iy] at h;exact SeqAt.EqAt.int_str i t y u _ _ _ _ h
  ·rcases aN c with ⟨j,u,rfl,rfl⟩|⟨y,u,rfl,rfl⟩
   ·rw[Iz] at h;exact SeqAt.EqAt.str_int x t j u _ _ _ _ h
   ·rw[Ix] at h;exact wpAny_eqBool_str h
 «strs»:=fun k x t v h=>by
  rcases aN h with ⟨i,u,rfl,e⟩|⟨y,u,rfl,e⟩
  ·exact nomatch e
  ·injection e with e1 _
   subst e1;cases v<;>rfl
def vu(prog:Program)(w:World)(i:Int)(t:Tok):(zp prog w).is 74#i 85#i=true:=Iu i t
def IA(prog:Program)(w:World)(x:Str)(t:Tok):(zp prog w).is (.inr x) (.str x t)=true:=Iv x t
inductive V where
 |non|bl (b:Bool)|int (i:Int)|str (x:Str)|byt (b:Array UInt8)|flt (b:UInt64)|ref (a:Addr)|ty (n:String)
 deriving DecidableEq
def RelV:V->Value->Prop
 |.non,u=>u=Value.none
 |.bl b,u=>u=Value.bool b
 |.int i,u=>∃t,u=Value.int i t
 |.str x,u=>∃t,u=Value.str x t
 |.byt b,u=>∃t,u=Value.bytes b t
 |.flt b,u=>∃t,u=Value.float b t
 |.ref a,u=>u=Value.ref a
 |.ty n,u=>u=Value.type n
abbrev Vals:List V->List Value->Prop:=Paired RelV
def Vals.length(r:Vals xs us):xs.length=us.length:=AN r
def Vals.get:∀{xs:List V}{us:List Value}{i:Nat}{x:V},Vals xs us->xs[i]?=some x->∃u,us[i]?=some u/\RelV x u
 |_,_,_,_,.nil,e=>by simp at e
 |_,_,0,_,.cons r _,e=>by simp at e;subst e;exact⟨_,rfl,r⟩
 |_,_,i+1,x,.cons _ t,e=>by
  obtain⟨u,h1,h2⟩:=Vals.get (i:=i) (x:=x) t 6#e;exact⟨u,by simpa using h1,h2⟩
def Vals.set(r:RelV x u):∀{xs:List V}{us:List Value}(i:Nat),Vals xs us->Vals (xs.set i x) (us.set i u)
 |_,_,_,.nil=>.nil
 |_,_,0,.cons _ t=>.cons r t
 |_,_,i+1,.cons q t=>.cons q (Vals.set r i t)
def Vals.append(h:Vals xs us)(g:Vals ys a):Vals (xs++ys) (us++a):=by
 induction h with
 |nil=>exact g
 |cons r _ ih=>exact .cons r ih
def Vals.take:∀{xs:List V}{us:List Value}(n:Nat),Vals xs us->Vals (xs.take n) (us.take n)
 |_,_,0,_=>.nil
 |_,_,_+1,.nil=>.nil
 |_,_,n+1,.cons r t=>.cons r (Vals.take n t)
def Vals.drop:∀{xs:List V}{us:List Value}(n:Nat),Vals xs us->Vals (xs.drop n) (us.drop n)
 |_,_,0,r=>r
 |_,_,_+1,.nil=>.nil
 |_,_,n+1,.cons _ t=>Vals.drop n t
def RelO:Option V->Option Value->Prop
 |some v,some u=>RelV v u
 |none,none=>True
 |_,_=>False
def KV{κ:Type}:List (κ×V)->List (κ×Value)->Prop:=Paired fun(p:κ×V)(q:κ×Value)=>p.1=q.1/\RelV p.2 q.2
noncomputable def kV:Key->V
 |.inl i=>.int i
 |.inr x=>.str x
inductive HO where
 |lst (xs:List V)
 |tup (xs:List V)
 |dK (kvs:List (Key×V))|dT (kvs:List 4#6)
 |set (S:Int->Bool) (n:Nat)
 |ins (C dx:Addr) (fs:List (Str×V))
 |own (x:Addr)
 |xd (fs:List (Str×V))
 |met (f x:Addr)
 |rng (lo hi:Int)
 |frz (o:Obj) (u:HO)
 |tbl (ps:Array Value)
 |ext (φ:Heap->Prop)
abbrev Hp:=Addr->Option HO
noncomputable def upd(H:Hp)(a:Addr)(o:HO):Hp:=fun b=>if b=a then some o else H b
def ac:upd H a o a=some o:=by unfold upd;rw[TH rfl]
def al{a b:Addr}(h:b≠a):upd H a o b=H b:=by unfold upd;rw[TJ h]
def IB:upd 81#a a u=upd H a u:=by
 funext b;unfold upd;split<;>rfl
def dH{H:Hp}(h:H a=some o)(h':H b=some u)(d:o≠u):a≠b:=by
 intro e;subst e;rw[h] at h';exact d (Ai h')
def zg{H:Hp}(h:H a=some o)(h':H b=none):a≠b:=by
 intro e;subst e;rw[h] at h';cases h'
section
variable(P:Program)(w:World)
def zr(H:Hp)(h:Heap)(a:Addr):HO->Prop
 |.lst xs=>xs.length<=sizeLine/\∃(b:List Value)(n:Nat),Vals xs b/\h.get? a=some {cls:=.type "list",data:=.seq b.toArray n}
 |.tup xs=>xs.length<=sizeLine/\∃b:List Value,Vals xs b/\IsTup h a b.toArray
 |.dK kvs=>kvs.length<=sizeLine/\(a==Bs)=false/\∃vs,KV kvs vs/\h.DictOf (zp P w) a vs
 |.dT kvs=>kvs.length<=sizeLine/\(a==Bs)=false/\∃xs:List 0#9,
   Paired (fun(p:List Key×V)(q:List Key×Addr×Value)=>p.1=q.1/\H q.2.1=some 52#(p.1.map kV)/\RelV p.2 q.2.2) kvs xs/\
   ∃o es ep,h.get? a=some o/\o.ExactDict/\o.data=.dict es ep/\es.toList=xs.map (entryOfKey 82#(zp P w))/\(xs.map 2#3).Nodup
 |.set S n=>h.SetOf (intKind P w) a S n
 |.ins C dx fs=>H dx=some (.own a)/\fs.length<=1000/\dx≠a/\h.get? a=some (Tx C dx)/\
   ∃mA,h.Ns1 dx mA/\(∀f,RelO (fs.lookup f) (mA f))/\PySem.Within mA (fs.map 2#3)
 |.own _=>∃o,h.get? a=some o
 |.xd fs=>∃mA,h.Ns1 a mA/\∀f,RelO (fs.lookup f) (mA f)
 |.rng lo hi=>∃t u v,h.get? a=some {cls:=.type "range",data:=.fields #[.int lo t,.int hi u,.int 1 v]}
 |.frz o u=>h.get? a=some o/\zr H h a u
 |.tbl ps=>h.get? a=some {cls:=.none,data:=.fields ps}
 |.met f x=>h.get? a=some (S9 5#f 5#x)
 |.ext φ=>φ h/\(∃o,h.get? a=some o)/\∀h1 h2:Heap,φ h1->(∀o,h1.get? a=some o->h2.get? a=some o)->φ h2
def HOk(H:Hp)(h:Heap):Prop:=∀a o,H a=some o->zr P w H h a o
end
section
variable{P:Program}{w:World}{H H':Hp}{h h':Heap}{a:Addr}{o:HO}
def zr.lt(x:zr P w H h a o):a<h.objs.size:=by
 cases o with
 |lst xs=>obtain⟨_,_,_,_,e⟩:=x;exact Ao e
 |tup xs=>obtain⟨_,_,_,p⟩:=x;exact p.lt
 |dK kvs=>obtain⟨_,_,_,_,o,_,_,e,_⟩:=x;exact Ao e
 |dT kvs=>obtain⟨_,_,_,_,o,_,_,e,_⟩:=x;exact Ao e
 |set S n=>obtain⟨o,_,_,_,e,_⟩:=x;exact Ao e
 |ins C dx fs=>obtain⟨_,_,_,e,_⟩:=x;exact Ao e
 |own y=>obtain⟨_,e⟩:=x;exact Ao e
 |xd fs=>obtain⟨_,⟨_,_,_,e,_⟩,_⟩:=x;exact Ao e
 |rng lo hi=>obtain⟨_,_,_,e⟩:=x;exact Ao e
 |frz ob u=>obtain⟨e,_⟩:=x;exact Ao e
 |tbl ps=>exact Ao (show h.get? a=some _ from x)
 |met f y=>exact Ao (show h.get? a=some _ from x)
 |ext φ=>obtain⟨_,⟨_,e⟩,_⟩:=x;exact Ao e
def Paired.mapP{c d:Type}{F G:c->d->Prop}{l₁:List c}{l₂:List d}(h:Paired F l₁ l₂)(f:∀a b,F a b->G a b):Paired G l₁ l₂:=by
 induction h with
 |nil=>exact .nil
 |cons r _ ih=>exact .cons (f _ _ r) ih
def zr.stay(x:zr P w H h a o)(k:∀b u,(b=a\/H b=some (.own a))->h.get? b=some u->h'.get? b=some u)(j:∀b,H b=some (.own a)->H' b=some (.own a))(ht:∀b xs,H b=some 52#xs->H' b=some 52#xs):zr P w H' h' a o:=by
 induction o with
 |lst xs=>obtain⟨z,g,n,r,e⟩:=x;exact⟨z,g,n,r,k _ _ 4#18 e⟩
 |tup xs=>obtain⟨z,g,r,ob,e,c⟩:=x;exact⟨z,g,r,ob,k _ _ 4#18 e,c⟩
 |dK kvs=>obtain⟨z,y,vs,r,ob,es,ep,e,c⟩:=x;exact⟨z,y,vs,r,ob,es,ep,k _ _ 4#18 e,c⟩
 |dT kvs=>
  obtain⟨z,y,xs,r,ob,es,ep,e,c⟩:=x;exact⟨z,y,xs,Paired.mapP r fun p q z=>⟨z.1,ht _ _ z.2.1,z.2.2⟩,ob,es,ep,k _ _ 4#18 e,c⟩
 |set S n=>obtain⟨ob,es,ep,t,e,c⟩:=x;exact⟨ob,es,ep,t,k _ _ 4#18 e,c⟩
 |ins C dx fs=>
  obtain⟨d,z,ne,e,mA,⟨i,es,ep,e2,c⟩,r⟩:=x;exact⟨j _ d,z,ne,k _ _ 4#18 e,mA,⟨i,es,ep,k _ _ (.inr d) e2,c⟩,r⟩
 |own y=>obtain⟨ob,e⟩:=x;exact⟨ob,k _ _ 4#18 e⟩
 |xd fs=>obtain⟨mA,⟨i,es,ep,e,c⟩,r⟩:=x;exact⟨mA,⟨i,es,ep,k _ _ 4#18 e,c⟩,r⟩
 |rng lo hi=>obtain⟨t,u,v,e⟩:=x;exact⟨t,u,v,k _ _ 4#18 e⟩
 |frz ob u ih=>obtain⟨e,q⟩:=x;exact⟨k _ _ 4#18 e,ih q⟩
 |tbl ps=>
  have e:h.get? a=some {cls:=.none,data:=.fields ps}:=x;show h'.get? a=some {cls:=.none,data:=.fields ps};exact k a _ 4#18 e
 |met f y=>
  have e:h.get? a=some (S9 5#f 5#y):=x;show h'.get? a=some (S9 5#f 5#y);exact k a _ 4#18 e
 |ext φ=>obtain⟨p,⟨o,e⟩,st⟩:=x;exact⟨st _ _ p fun o q=>k _ _ 4#18 q,⟨o,k _ _ 4#18 e⟩,st⟩
def HOk.lt(x:HOk P w H h)(e:H a=some o):a<h.objs.size:=(x a o e).lt
def HOk.fresh(x:HOk P w H h)(e:h.objs.size<=a):H a=none:=by
 cases q:H a with
 |none=>rfl
 |some u=>exact absurd (AF (x.lt q) e) (QT _)
def HOk.kept(x:HOk P w H h)(k:∀b u,h.get? b=some u->h'.get? b=some u):HOk P w H h':=fun a o e=>
 (x a o e).stay (fun b u _ q=>k b u q) (fun _ q=>q) fun _ _ q=>q
def HOk.laid(x:HOk P w H h)(k:∀b u,h.get? b=some u->h'.get? b=some u)(hp:h.objs.size<=a)(new:zr P w 81#a h' a o):HOk P w 81#a h':=fun b u e=>by
 have d:=x.fresh hp
 by_cases hb:b=a
 ·subst hb;rw[ac] at e;cases e;exact new
 ·rw[al hb] at e
  exact(x b u e).stay (fun c v _ q=>k c v q) (fun c q=>by rw[al (zg q d)];exact q) fun c xs q=>by rw[al (zg q d)];exact q
end
def Rd(H:Hp)(a:Addr)(u:HO):Prop:=H a=some u\/∃o,H a=some (.frz o u)
def Rd.of{H:Hp}(h:H a=some u):Rd H a u:=.inl h
def Rd.ok(r:Rd H a u)(x:HOk P w H h):zr P w H h a u:=by
 rcases r with r|⟨o,r⟩
 ·exact x a u r
 ·obtain⟨_,q⟩:=x a _ r
  exact q
def nt:Option HO->Prop
 |some (.lst _)=>True
 |some (.dK _)=>True
 |some (.dT _)=>True
 |some (.set _ _)=>True
 |some (.ins _ _ _)=>True
 |some (.ext _)=>True
 |_=>False
section
variable{P:Program}{w:World}{H:Hp}{h h':Heap}{x e:Addr}{o':HO}
def HOk.write(ok:HOk P w H h)(g:nt (H x))(he:e=x\/H e=some (.own x))(k:∀b u,b≠e->h.get? b=some u->h'.get? b=some u)(l:∃u,h'.get? e=some u)(new:zr P w (upd H x o') h' x o'):HOk P w (upd H x o') h':=fun b u q=>by
 have d:∀c y,H c=some (.own y)->c≠x:=fun c y r z=>by subst z;rw[r] at g;exact g
 have f:∀c xs,H c=some 52#xs->c≠x:=fun c xs r z=>by subst z;rw[r] at g;exact g
 by_cases hb:b=x
 ·subst hb;rw[ac] at q;cases q;exact new
 ·rw[al hb] at q
  by_cases a:b=e
  ·have i:H b=some (.own x):=by
    rcases he with z|z
    ·exact absurd (a.trans z) hb
    ·rw[a];exact z
   rw[q] at i;cases i;obtain⟨v,j⟩:=l;exact⟨v,by rw[a];exact j⟩
  ·refine(ok b u q).stay (fun c v hc r=>k c v ?_ r) (fun c r=>by rw[al (d c b r)];exact r) fun c xs r=>by rw[al (f c xs r)];exact r
   rcases hc with rfl|hc
   ·exact a
   ·rintro rfl
    rcases he with z|z
    ·exact d c b hc z
    ·rw[hc] at z;cases z;exact hb rfl
end
structure Un(fs ex:List Addr)(H H':Hp)(h h':Heap):Prop where
 keep:∀b o,h.get? b=some o->H b=none->b∉fs->b∉ex->h'.get? b=some o
 slot:∀b o,h.get? b=some o->H b=none->b∈fs->b∉ex->∃sl,h'.get? b=some {o with slots:=sl}
 free:∀b o,h.get? b=some o->H b=none->b∉ex->H' b=none
 there:∀b o,h.get? b=some o->b∉ex->∃o',h'.get? b=some o'
 tups:∀b xs,H b=some 52#xs->H' b=some 52#xs
 frzs:∀b o u,H b=some (.frz o u)->H' b=some (.frz o u)
 tbls:∀b ps,H b=some (.tbl ps)->∃more,H' b=some (.tbl (ps++more))
section
variable{fs wZ ex y3:List Addr}{H H1 H2:Hp}{h h1 h2 h':Heap}{a x e:Addr}{o:HO}
def Un.any(u:Un fs ex H H1 h h1)(q:h.get? b=some ob)(n:H b=none)(hx:b∉ex):∃a,h1.get? b=some {ob with slots:=a}:=by
 by_cases hb:b∈fs
 ·exact u.slot b ob q n hb hx
 ·exact⟨ob.slots,u.keep b ob q n hb hx⟩
def Un.kept(k:∀b u,h.get? b=some u->h'.get? b=some u):Un fs ex H H h h':=
 ⟨fun b ob q _ _ _=>k b ob q,fun b ob q _ _ _=>⟨ob.slots,k b ob q⟩,fun _ _ _ n _=>n,fun b ob q _=>⟨ob,k b ob q⟩,fun _ _ q=>q,fun _ _ _ q=>q,fun _ ps q=>⟨#[],by rw[q];simp⟩⟩
def Un.refl:Un fs ex H H h h:=Un.kept fun _ _ q=>q
def Un.laid(k:∀b u,h.get? b=some u->h'.get? b=some u)(hp:h.objs.size<=a)(c:H a=none):Un fs ex H 81#a h h' where
 keep:=fun b u q _ _ _=>k b u q
 slot:=fun b u q _ _ _=>⟨u.slots,k b u q⟩
 free:=fun b u q n _=>by rw[al (Aq (AF (Ao q) hp))];exact n
 there:=fun b u q _=>⟨u,k b u q⟩
 tups:=fun b xs q=>by rw[al (zg q c)];exact q
 frzs:=fun b u xs q=>by rw[al (zg q c)];exact q
 tbls:=fun b ps q=>⟨#[],by rw[al (zg q c),q];simp⟩
def Un.write(c:nt (H x))(he:e=x\/H e=some (.own x))(k:∀b u,b≠e->h.get? b=some u->h'.get? b=some u)(d:∃u,h'.get? e=some u):Un fs ex H 81#x h h':=by
 have hx:∀b,H b=none->b≠x:=fun b n z=>by subst z;rw[n] at c;exact c
 have hb:∀b,H b=none->b≠e:=fun b n z=>by
  subst z;rcases he with r|r
  ·exact hx b n r
  ·rw[n] at r;cases r
 have hm:∀b u,H b=some u->¬nt 55#u->b≠x:=fun b u q nm z=>by subst z;rw[q] at c;exact nm c
 refine⟨fun b u q n _ _=>k b u (hb b n) q,fun b u q n _ _=>⟨u.slots,k b u (hb b n) q⟩,fun b u q n _=>by rw[al (hx b n)];exact n,fun b u q _=>?_,
  fun b xs q=>by rw[al (hm b _ q fun z=>z)];exact q,fun b u xs q=>by rw[al (hm b _ q fun z=>z)];exact q,fun b ps q=>⟨#[],by rw[al (hm b _ q fun z=>z),q];simp⟩⟩
 by_cases a:b=e
 ·subst a;exact d
 ·exact⟨u,k b u a q⟩
end
noncomputable def p3(h:Heap)(H:Hp):List Addr:=(AO h.objs.size).filter fun a=>(H a).isSome
noncomputable def dn(h:Heap)(H:Hp):Heap:=PySem.W.hideAll h (p3 h H)
def IC(h:Heap)(H:Hp):(dn h H).objs.size=h.objs.size:=PySem.W.hideAll_size _ _
def ID{h:Heap}{H:Hp}(e:h.get? b=some o)(n:H b=none):(dn h H).get? b=some o:=
 PySem.W.hideAll_get _ e fun hm=>by
  have q:(H b).isSome=true:=(Qv.mp hm).2;rw[n] at q;simp at q
def IE(e:(dn h H).get? b=some o):h.get? b=some o/\H b=none:=by
 have e':h.get? b=some o:=PySem.W.of_hideAll (p3 h H) e;refine⟨e',?_⟩;cases q:H b with
 |none=>rfl
 |some x=>
  have hm:b∈p3 h H:=Qv.mpr ⟨Qn.mpr (Ao e'),by simp[q]⟩;have z:(dn h H).get? b=none:=PySem.W.hideAll_none (p3 h H) hm;rw[z] at e;cases e
structure Mod(K:Af)(mg:Str->Option Value)(base:Heap):Prop where
 kin:K.In base
 glob:base.Ns mainGlobals mg
 blt:∃mb,base.Ns builtinsNs mb/\∀x:Str,x≠"__name__"->mb x=Ba x
 nolimit:base.NoLimit
structure Cx where
 prog:Program
 w:World
 K:Af
 mg:Str->Option Value
 base:Heap
 A:Around
 N:List Str
 s₀:Shared
 H₀:Hp
 env:Env
 outer:List Env
 stack:List Env
 ex:List Addr
 fn:Str->Bool
 calm:Bool
 pn:Ψ
 xe:Ω
noncomputable def frs(l:List Env):List Addr:=l.filterMap (·.frame)
noncomputable abbrev Cx.fs(X:Cx):List Addr:=frs X.outer
def p4(sc:Scope)(x:Str):Prop:=sc.names.lookup x=some .local\/sc.names.lookup x=some .cell\/sc.names.lookup x=some .free
def Loc(sc:Scope)(x:Str):Prop:=sc.names.lookup x=some .local\/sc.names.lookup x=some .cell
def Look(env:Env)(h:Heap)(m:Str->Option Value)(x:Str)(u:Value):Prop:=
 (env.kindOf x=some .local/\m x=some u)\/((env.kindOf x=some .cell\/env.kindOf x=some .free)/\∃c,env.cells.lookup x=some c/\h.IsCell c 55#u)
structure Cx.Ok(X:Cx):Prop where
 mod:Mod X.K X.mg X.base
 kind:X.env.scope.kind=.function
 glob:X.env.globals=mainGlobals
 blt:X.env.builtins=builtinsNs
 above:X.s₀⁻¹<=X.env.locals
 inj:∀x y c,X.env.cells.lookup x=some c->X.env.cells.lookup y=some c->x=y
 has:∀x,(X.env.kindOf x=some .cell\/X.env.kindOf x=some .free)->∃c,X.env.cells.lookup x=some c
 cab:∀x c,X.fn x=true->X.env.cells.lookup x=some c->X.s₀⁻¹<=c
 hd:X.calm=true->X.A.handled=none
 frames:X.A.frames=some X.stack
 stk:X.stack=X.outer\/(X.stack=X.env::X.outer/\X.env.frame=some X.env.locals)
 exf:∀b∈X.ex,b≠X.env.locals/\∀x c,X.env.cells.lookup x=some c->c≠b
 bs:∀b o,X.base.get? b=some o->X.s₀.heap.get? b=some o/\X.H₀ b=none
 bsz:X.base.objs.size<=X.s₀⁻¹
 noex:∀b o,X.base.get? b=some o->b∉X.ex
 exfs:∀b∈X.ex,b∉X.fs
 funs:X.s₀.heap.FunFrames X.base X.outer
 frf:∀b∈X.fs,X.H₀ b=none
structure Inv(X:Cx)(aa:Ψ)(σ:List 66#V)(H:Hp)(s:Shared):Prop where
 ok:X.Ok
 os:s.os=X.s₀.os
 bare:AllBare s.gens
 base:Un X.fs X.ex X.H₀ H X.s₀.heap s.heap
 loc:∃m,s.heap.Ns X.env.locals m/\∀(i:Nat)(x:Str)(v:V),X.N[i]?=some x->σ[i]?=some 55#v->p4 X.env.scope x->∃u,RelV v u/\Look X.env s.heap m x u
 cell:∀x c,X.env.cells.lookup x=some c->∃v,s.heap.IsCell c v
 free:H X.env.locals=none
 freeC:∀x c,X.env.cells.lookup x=some c->H c=none
 pin:∀p∈X.pn++aa,s.heap.get? p.1=some p.2/\H p.1=none/\p.1≠X.env.locals/\p.1∉X.fs/\∀v,p.2.data≠.cell v
 hok:HOk X.prog X.w H s.heap
 len:σ.length=X.N.length
section
variable{X:Cx}{aa:Ψ}{σ:List 66#V}{H H':Hp}{s:Shared}{h':Heap}
def Cx.Ok.nofr(ok:X.Ok)(e:X.base.get? b=some o):b∉X.fs:=fun hb=>by
 have:=(ok.funs.mem hb).1;rw[e] at this;cases this
def Inv.bs(I:Inv X aa σ H s):∀b o,X.base.get? b=some o->s.heap.get? b=some o/\H b=none:=fun b o e=>
 ⟨I.base.keep b o (I.ok.bs b o e).1 (I.ok.bs b o e).2 (I.ok.nofr e) (I.ok.noex b o e),I.base.free b o (I.ok.bs b o e).1 (I.ok.bs b o e).2 (I.ok.noex b o e)⟩
def Inv.bk(I:Inv X aa σ H s):∀b o,X.base.get? b=some o->s.heap.get? b=some o:=fun b o e=>(I.bs b o e).1
def Inv.mod(I:Inv X aa σ H s):Mod X.K X.mg X.base:=I.ok.mod
def Inv.kIn(I:Inv X aa σ H s):X.K.In s.heap:=I.ok.mod.kin.keeps I.bk
def Inv.nolimit(I:Inv X aa σ H s):s.heap.NoLimit:=I.ok.mod.nolimit.keeps I.bk
def Inv.lt(I:Inv X aa σ H s):X.env.locals<s⁻¹:=let ⟨_,hn,_⟩:=I.loc;hn.lt
def Inv.sz(I:Inv X aa σ H s):X.s₀⁻¹<=s⁻¹:=AG I.ok.above (QY I.lt)
def Inv.nofs(I:Inv X aa σ H s){a:Addr}(h:s⁻¹<=a):a∉X.fs:=fun hb=>by
 obtain⟨_,o,b,_⟩:=I.ok.funs.mem hb;exact absurd (AF (Ao b) (AG I.sz h)) (QT _)
def Inv.cne(I:Inv X aa σ H s):∀x c,X.env.cells.lookup x=some c->c≠X.env.locals:=fun x c e z=>by
 obtain⟨v,o,d,hd⟩:=I.cell x c e;obtain⟨m,⟨o',es,ep,a,b,_⟩,_⟩:=I.loc;rw[z,a] at d;cases d;rw[b] at hd;cases hd
def Inv.funs(I:Inv X aa σ H s):s.heap.FunFrames X.base X.outer:=by
 have all:∀(l:List Env),(∀b∈frs l,b∈X.fs)->X.s₀.heap.FunFrames X.base l->s.heap.FunFrames X.base l:=by
  intro l
  induction l with
  |nil=>intro _ _;trivial
  |cons env r ih=>
   intro hs c;obtain⟨hk,⟨L,o,hf,d,f,hd⟩,hr⟩:=c;have a:L∈X.fs:=hs L (by unfold frs;rw[R9,hf];exact Av);obtain⟨g,e⟩:=I.base.slot L o f (I.ok.frf L a) a fun z=>I.ok.exfs L z a;exact⟨hk,⟨L,_,hf,d,e,hd⟩,ih (fun b hb=>hs b (by unfold frs;rw[R9,hf];exact Ar _ hb)) hr⟩
 exact all X.outer (fun _ hb=>hb) I.ok.funs
def Inv.stack(I:Inv X aa σ H s):s.heap.FunFrames X.base X.stack:=by
 rcases I.ok.stk with e|⟨e,hf⟩
 ·rw[e];exact I.funs
 ·rw[e]
  obtain⟨m,a,_⟩:=I.loc;refine .cons (by rw[I.ok.kind];decide) hf a ?_ I.funs;exact Heap.get?_none_of_le (AG I.ok.bsz I.ok.above)
def Inv.stkSub(I:Inv X aa σ H s):∀b∈frs X.stack,b∈X.env.locals::X.fs:=fun b hb=>by
 rcases I.ok.stk with e|⟨e,hf⟩
 ·rw[e] at hb;exact Ar _ hb
 ·rw[e] at hb
  unfold frs at hb;rw[R9,hf] at hb;exact hb
def Inv.stkFree(I:Inv X aa σ H s):∀b∈frs X.stack,H b=none:=fun b hb=>by
 rcases Qj.mp (I.stkSub b hb) with e|hb
 ·rw[e];exact I.free
 ·obtain⟨_,o,a,_⟩:=I.ok.funs.mem hb
  exact I.base.free b o a (I.ok.frf b hb) fun z=>I.ok.exfs b z hb
def Inv.step{t':Nat}{d':Drawn}{ch:List Addr}(I:Inv X aa σ H s)(h:∀b∈ch,(b∈X.ex\/X.s₀⁻¹<=b)/\b≠X.env.locals/\(∀x c,X.env.cells.lookup x=some c->c≠b)/\∀p∈X.pn++aa,p.1≠b)(keep:∀b o,b≠X.env.locals->b∉X.fs->b∉ch->s.heap.get? b=some o->H b=none->h'.get? b=some o)(slot:∀b o,b≠X.env.locals->b∈X.fs->b∉ch->s.heap.get? b=some o->H b=none->∃A,h'.get? b=some {o with slots:=A})(free:∀b o,b∉ch->s.heap.get? b=some o->H b=none->H' b=none)(there:∀b o,b∉ch->s.heap.get? b=some o->∃o',h'.get? b=some o')(tups:∀b xs,H b=some 52#xs->H' b=some 52#xs)(frzs:∀b o u,H b=some (.frz o u)->H' b=some (.frz o u))(tbls:∀b ps,H b=some (.tbl ps)->∃more,H' b=some (.tbl (ps++more)))(ns:∀m,s.heap.Ns X.env.locals m->h'.Ns X.env.locals m)(C:HOk X.prog X.w H' h')(L:AllBare g'):Inv X aa σ H' {s with heap:=h',gens:=g',drawn:=d',toks:=t'}:=by
 have j:∀b o,X.s₀.heap.get? b=some o->b≠X.env.locals:=fun b o e=>Aq (AF (Ao e) I.ok.above);have y:∀b o,X.s₀.heap.get? b=some o->b∉X.ex->b∉ch:=fun b o e hx hb=>by
  rcases(h b hb).1 with z|z
  ·exact hx z
  ·exact absurd (AF (Ao e) z) (QT _)
 have a:∀x c,X.env.cells.lookup x=some c->∀v,s.heap.IsCell c v->h'.IsCell c v:=fun x c e v ⟨o,g,hd⟩=>by
  have f:c∉ch:=fun z=>(h c z).2.2.1 x c e rfl
  by_cases hc:c∈X.fs
  ·obtain⟨A,q⟩:=slot c o (I.cne x c e) hc f g (I.freeC x c e)
   exact⟨_,q,hd⟩
  ·exact⟨o,keep c o (I.cne x c e) hc f g (I.freeC x c e),hd⟩
 refine⟨I.ok,I.os,L,⟨fun b o e n hb hx=>?_,fun b o e n hb hx=>?_,fun b o e n hx=>?_,fun b o e hx=>?_,fun b xs e=>tups b xs (I.base.tups b xs e),fun b o xs e=>frzs b o xs (I.base.frzs b o xs e),fun b ps e=>?_⟩,?_,fun x c e=>?_,?_,fun x c e=>?_,fun p hp=>?_,C,I.len⟩
 ·exact keep b o (j b o e) hb (y b o e hx) (I.base.keep b o e n hb hx) (I.base.free b o e n hx)
 ·obtain⟨A,e1⟩:=I.base.slot b o e n hb hx
  obtain⟨E,e2⟩:=slot b _ (j b o e) hb (y b o e hx) e1 (I.base.free b o e n hx);exact⟨E,e2⟩
 ·obtain⟨o',e1⟩:=I.base.there b o e hx
  exact free b o' (y b o e hx) e1 (I.base.free b o e n hx)
 ·obtain⟨o',e1⟩:=I.base.there b o e hx
  exact there b o' (y b o e hx) e1
 ·obtain⟨F,e1⟩:=I.base.tbls b ps e
  obtain⟨m2,e2⟩:=tbls b _ e1;exact⟨F++m2,by rw[e2,Array.append_assoc]⟩
 ·obtain⟨m,G,J⟩:=I.loc
  refine⟨m,ns m G,fun i x v e1 e2 e3=>?_⟩;obtain⟨u,r,l⟩:=J i x v e1 e2 e3;refine⟨u,r,?_⟩;rcases l with l|⟨k,c,e,z⟩
  ·exact .inl l
  ·exact .inr ⟨k,c,e,a x c e _ z⟩
 ·obtain⟨v,z⟩:=I.cell x c e
  exact⟨v,a x c e v z⟩
 ·obtain⟨m,⟨o,_,_,g,_⟩,_⟩:=I.loc
  exact free _ o (fun z=>(h _ z).2.1 rfl) g I.free
 ·obtain⟨v,o,g,hd⟩:=I.cell x c e
  exact free c o (fun z=>(h c z).2.2.1 x c e rfl) g (I.freeC x c e)
 ·obtain⟨e,n,ne,D,d⟩:=I.pin p hp
  have f:p.1∉ch:=fun z=>(h p.1 z).2.2.2 p hp rfl;exact⟨keep p.1 p.2 ne D f e n,free p.1 p.2 f e n,ne,D,d⟩
def Inv.un{t':Nat}(I:Inv X aa σ H s)(u:Un X.fs [] H H' s.heap h')(c:HOk X.prog X.w H' h'):Inv X aa σ H' {s with heap:=h',toks:=t'}:=by
 obtain⟨m,⟨o,es,ep,d,r⟩,_⟩:=id I.loc;obtain⟨j,f⟩:=u.any d I.free 2#0;exact I.step (g':=s.gens) (d':=s.drawn) (ch:=[]) 1#2 (fun b o _ hb _ e n=>u.keep b o e n hb 2#0) (fun b o _ hb _ e n=>u.slot b o e n hb 2#0) (fun b o _ e n=>u.free b o e n 2#0) (fun b o _ e=>u.there b o e 2#0) u.tups u.frzs u.tbls (fun i hm=>by
  obtain⟨o',es',g,a,h⟩:=hm;rw[d] at a;cases a;exact⟨_,es',g,f,h⟩) c I.bare
def Inv.call{t':Nat}{d':Drawn}(I:Inv X aa σ H s)(u:Un (frs X.stack) ch H H' s.heap h')(f:HOk X.prog X.w H' h')(l:AllBare g')(h:∀b∈ch,(b∈X.ex\/X.s₀⁻¹<=b)/\b≠X.env.locals/\(∀x c,X.env.cells.lookup x=some c->c≠b)/\∀p∈X.pn++aa,p.1≠b):Inv X aa σ H' {s with heap:=h',gens:=g',drawn:=d',toks:=t'}:=by
 obtain⟨m,⟨o,es,ep,g,r⟩,_⟩:=id I.loc;obtain⟨v,d⟩:=u.any g I.free fun z=>(h _ z).2.1 rfl;exact I.step (ch:=ch) h (fun b o d hb hc e n=>u.keep b o e n (fun z=>(Qj.mp (I.stkSub b z)).elim d hb) hc) (fun b o _ _ hc e n=>u.any e n hc) (fun b o hc e n=>u.free b o e n hc) (fun b o hc e=>u.there b o e hc) u.tups u.frzs u.tbls (fun q hm=>by
  obtain⟨o',es',i,a,j⟩:=hm;rw[g] at a;cases a;exact⟨_,es',i,d,j⟩) f l
def Inv.turned{t':Nat}{it:Addr}(I:Inv X aa σ H s)(k:∀b o,b≠it->s.heap.get? b=some o->h'.get? b=some o)(g:H it=none)(d:it≠X.env.locals)(h1:it∈X.ex\/X.s₀⁻¹<=it)(h2:∀x c,X.env.cells.lookup x=some c->c≠it)(h:∀p∈X.pn++aa,p.1≠it):Inv X aa σ H {s with heap:=h',toks:=t'}:=by
 have a:∀b u,H b=some u->b≠it:=fun b u e z=>by rw[z,g] at e;cases e
 refine I.step (g':=s.gens) (d':=s.drawn) (ch:=[it]) (fun b hb=>?_) (fun b o _ _ hc e _=>k b o (fun z=>hc (by simp[z])) e) (fun b o _ _ hc e _=>⟨o.slots,k b o (fun z=>hc (by simp[z])) e⟩) (fun _ _ _ _ n=>n)
  (fun b o hc e=>⟨o,k b o (fun z=>hc (by simp[z])) e⟩) (fun _ _ e=>e) (fun _ _ _ e=>e) (fun b ps e=>⟨#[],by rw[e];simp⟩) (fun m hm=>?_) (fun b u e=>?_) I.bare
 ·have e:b=it:=by simpa using hb
  subst e;exact⟨h1,d,h2,h⟩
 ·obtain⟨o,es,ep,f,r⟩:=hm
  exact⟨o,es,ep,k _ o 72#d f,r⟩
 ·refine(I.hok b u e).stay (fun c v hc q=>k c v ?_ q) (fun _ q=>q) fun _ _ q=>q
  rcases hc with z|z
  ·rw[z];exact a b u e
  ·exact a c _ z
def Inv.tok(I:Inv X aa σ H s)(t:Nat):Inv X aa σ H {s with toks:=t}:=I.un (h':=s.heap) (t':=t) Un.refl I.hok
def Inv.kept{t':Nat}(I:Inv X aa σ H s)(k:∀b u,s.heap.get? b=some u->h'.get? b=some u):Inv X aa σ H {s with heap:=h',toks:=t'}:=I.un (Un.kept k) (I.hok.kept k)
def Inv.laid{a:Addr}{t':Nat}(I:Inv X aa σ H s)(k:∀b u,s.heap.get? b=some u->h'.get? b=some u)(hp:s⁻¹<=a)(new:zr X.prog X.w 81#a h' a o):Inv X aa σ 81#a {s with heap:=h',toks:=t'}:=I.un (Un.laid k hp (I.hok.fresh hp)) (I.hok.laid k hp new)
def Inv.write{x e:Addr}{t':Nat}(I:Inv X aa σ H s)(a:nt (H x))(he:e=x\/H e=some (.own x))(k:∀b u,b≠e->s.heap.get? b=some u->h'.get? b=some u)(c:∃u,h'.get? e=some u)(new:zr X.prog X.w 81#x h' x o):Inv X aa σ 81#x {s with heap:=h',toks:=t'}:=I.un (Un.write a he k c) (I.hok.write a he k c new)
def Inv.pins_of{a:Ψ}(I:Inv X aa σ H s)(h:∀p∈a,s.heap.get? p.1=some p.2/\H p.1=none/\p.1≠X.env.locals/\p.1∉X.fs/\∀v,p.2.data≠.cell v):Inv X a σ H s:=
 ⟨I.ok,I.os,I.bare,I.base,I.loc,I.cell,I.free,I.freeC,fun p hp=>(Qm.mp hp).elim (fun z=>I.pin p (Rk _ z)) (h p),I.hok,I.len⟩
def D0{N:List Str}(c:N.Nodup){i j:Nat}(a:N[i]?=some x)(b:N[j]?=some x):i=j:=by
 obtain⟨h1,e1⟩:=BK.mp a;obtain⟨h2,e2⟩:=BK.mp b;exact(Ti c).mp (e1.trans e2.symm)
def D3{i:Nat}{Q:Unit->Shared->Prop}(I:Inv X aa σ H s)(hN:X.N.Nodup)(hi:X.N[i]?=some x)(hx:Loc X.env.scope x)(r:RelV v u)(h:∀s',Inv X aa (σ.set i 55#v) H s'->(∃a,AU a s.heap s'.heap/\(a=X.env.locals\/X.env.cells.lookup x=some a))->Q () s')(hf:X.fn x=true\/X.env.scope.names.lookup x=some .local:=by first|exact .inl rfl|exact .inr rfl|assumption):wpAny M A (storeName X.env x u) Q E s:=by
 obtain⟨m,F,T⟩:=id I.loc;have nh:(X.env.scope.kind==.class|| (X.env.scope.kind==.module&&X.env.locals != X.env.globals))=false:=by rw[I.ok.kind];rfl
 have g:i<σ.length:=by rw[I.len];exact(BK.mp hi).1
 have cne:=I.cne;have Y:∀{a:Addr}{h':Heap},(∃o,s.heap.get? a=some o/\H a=none)->AU a s.heap h'->HOk X.prog X.w H h':=fun{a h'} ha hs b ob e=>by
  obtain⟨_,_,f⟩:=ha;refine(I.hok b ob e).stay (fun c C hc q=>(hs.2 c ?_).trans q) (fun _ q=>q) fun _ _ q=>q;rintro rfl;rcases hc with rfl|hc
  ·rw[f] at e;cases e
  ·rw[f] at hc;cases hc
 rcases hx with hk|hk
 ·refine wpAny_storeName_local hk F (fun h' fA hs=>?_) nh
  obtain⟨oL,_,_,G,_⟩:=id F;refine h _ ⟨I.ok,I.os,I.bare,⟨fun b o e n hb hx=>?_,fun b o e n hb hx=>?_,I.base.free,fun b o e hx=>?_,I.base.tups,I.base.frzs,I.base.tbls⟩,⟨_,fA,fun j y D e1 e2 e3=>?_⟩,fun y c e=>?_,I.free,I.freeC,fun p hp=>?_,Y ⟨oL,G,I.free⟩ hs,by simpa using I.len⟩ ⟨_,hs,.inl rfl⟩
  ·exact(hs.2 b (Aq (AF (Ao e) I.ok.above))).trans (I.base.keep b o e n hb hx)
  ·obtain⟨J,e1⟩:=I.base.slot b o e n hb hx
   exact⟨J,(hs.2 b (Aq (AF (Ao e) I.ok.above))).trans e1⟩
  ·obtain⟨o',e1⟩:=I.base.there b o e hx
   exact⟨o',(hs.2 b (Aq (AF (Ao e) I.ok.above))).trans e1⟩
  ·by_cases l:j=i
   ·subst l
    rw[hi] at e1;cases e1;rw[List.getElem?_set_self g] at e2;cases e2;exact⟨u,r,.inl ⟨hk,by simp⟩⟩
   ·rw[List.getElem?_set_ne 72#l] at e2
    obtain⟨L,O,q⟩:=T j y D e1 e2 e3;refine⟨L,O,?_⟩;rcases q with ⟨k,e⟩|⟨k,c,e,z⟩
    ·refine .inl ⟨k,?_⟩
     have:y≠x:=fun e=>l (D0 hN e1 (e▸hi));simp[this,e]
    ·exact .inr ⟨k,c,e,z.sameBut hs (cne y c e)⟩
  ·obtain⟨C,z⟩:=I.cell y c e
   exact⟨C,z.sameBut hs (cne y c e)⟩
  ·obtain⟨e,n,ne,P,d⟩:=I.pin p hp
   exact⟨(hs.2 p.1 ne).trans e,n,ne,P,d⟩
 ·have S:X.fn x=true:=by
   rcases hf with z|z
   ·exact z
   ·rw[z] at hk;cases hk
  obtain⟨c,hc⟩:=I.ok.has x 74#hk;obtain⟨C,z⟩:=I.cell x c hc;refine wpAny_storeName_cell I.ok.kind hk hc z (fun h' hc' hs=>?_);obtain⟨U,W,mz⟩:=id z;refine h {s with heap:=h'} ⟨I.ok,I.os,I.bare,⟨fun b o e n hb hx=>?_,fun b o e n hb hx=>?_,I.base.free,fun b o e hx=>?_,I.base.tups,I.base.frzs,I.base.tbls⟩,⟨m,F.sameBut hs 72#(cne x c hc),fun j y D e1 e2 e3=>?_⟩,fun y c' e=>?_,I.free,I.freeC,fun p hp=>?_,Y ⟨U,W,I.freeC x c hc⟩ hs,by simpa using I.len⟩ ⟨c,hs,.inr hc⟩
  ·exact(hs.2 b (Aq (AF (Ao e) (I.ok.cab x c S hc)))).trans (I.base.keep b o e n hb hx)
  ·obtain⟨J,e1⟩:=I.base.slot b o e n hb hx
   exact⟨J,(hs.2 b (Aq (AF (Ao e) (I.ok.cab x c S hc)))).trans e1⟩
  ·obtain⟨o',e1⟩:=I.base.there b o e hx
   exact⟨o',(hs.2 b (Aq (AF (Ao e) (I.ok.cab x c S hc)))).trans e1⟩
  ·by_cases l:j=i
   ·subst l
    rw[hi] at e1;cases e1;rw[List.getElem?_set_self g] at e2;cases e2;exact⟨u,r,.inr ⟨.inl hk,c,hc,hc'⟩⟩
   ·rw[List.getElem?_set_ne 72#l] at e2
    obtain⟨L,O,q⟩:=T j y D e1 e2 e3;refine⟨L,O,?_⟩;rcases q with q|⟨k,c',e,z'⟩
    ·exact .inl q
    ·refine .inr ⟨k,c',e,z'.sameBut hs ?_⟩
     rintro rfl;exact l (D0 hN e1 (I.ok.inj _ _ _ e hc▸hi))
  ·by_cases gv:c'=c
   ·subst gv;exact⟨_,hc'⟩
   ·obtain⟨w2,z2⟩:=I.cell y c' e
    exact⟨w2,z2.sameBut hs gv⟩
  ·obtain⟨e,n,ne,P,d⟩:=I.pin p hp
   refine⟨(hs.2 p.1 ?_).trans e,n,ne,P,d⟩;intro q;rw[q,W] at e;have q':U=p.2:=Ai e;exact d C (by rw[<-q'];exact mz)
def D4{i:Nat}{Q:Unit->Shared->Prop}(I:Inv X aa σ H s)(a:X.N.Nodup)(hi:X.N[i]?=some x)(hx:Loc X.env.scope x)(r:RelV v u)(h:∀s',Inv X aa (σ.set i 55#v) H s'->Q () s')(hf:X.fn x=true\/X.env.scope.names.lookup x=some .local:=by first|exact .inl rfl|exact .inr rfl|assumption):wpAny M A (storeName X.env x u) Q E s:=
 D3 I a hi hx r (fun s' b _=>h s' b) hf
def Inv.call'{s':Shared}(I:Inv X aa σ H s)(d:s'.os=s.os)(u:Un (frs X.stack) ch H H' s.heap s'.heap)(a:HOk X.prog X.w H' s'.heap)(f:AllBare s'.gens)(g:∀b∈ch,(b∈X.ex\/X.s₀⁻¹<=b)/\b≠X.env.locals/\(∀x c,X.env.cells.lookup x=some c->c≠b)/\∀p∈X.pn++aa,p.1≠b):Inv X aa σ H' s':=by
 obtain⟨h',g',d',t',o'⟩:=s';have e:o'=s.os:=d;subst e;exact I.call (g':=g') (t':=t') (d':=d') u a f g
end
abbrev XK:=Value->Option Addr->Hp->Prop
abbrev St:=List 66#V
abbrev VK:=V->Hp->Prop
abbrev TE:=St->Hp->VK->Prop
abbrev TT:=St->Hp->(Bool->Hp->Prop)->Prop
abbrev TA:=St->Hp->(List V->Hp->Prop)->Prop
structure Ends where
 nx:St->Hp->Prop
 rt:VK
 bk:St->Hp->Prop:=fun _ _=>False
 ct:St->Hp->Prop:=fun _ _=>False
abbrev TS:=Ends->St->Hp->Prop
def EP(X:Cx)(aa:Ψ)(σ:St)(Q:VK)(u:Value)(s':Shared):Prop:=∃v H',Inv X aa σ H' s'/\RelV v u/\Q v H'
def TP(X:Cx)(aa:Ψ)(σ:St)(Q:Bool->Hp->Prop)(b:Bool)(s':Shared):Prop:=∃H',Inv X aa σ H' s'/\Q b H'
def AP(X:Cx)(aa:Ψ)(σ:St)(Q:List V->Hp->Prop)(us:List Value)(s':Shared):Prop:=∃vs H',Inv X aa σ H' s'/\Vals vs us/\Q vs H'
def SP(X:Cx)(aa:Ψ)(D:Ends)(f:Flow)(s':Shared):Prop:=
 match f with
 |.next=>∃a H',Inv X aa a H' s'/\D.nx a H'
 |.brk=>∃a H',Inv X aa a H' s'/\D.bk a H'
 |.cont=>∃a H',Inv X aa a H' s'/\D.ct a H'
 |.ret u=>∃v a H',Inv X aa a H' s'/\RelV v u/\D.rt v H'
def PE(X:Cx)(e:Expr)(t:TE):Prop:=
 ∀(aa:Ψ)(s:Shared)(σ:St)(H:Hp)(Q:VK),Inv X aa σ H s->t σ H Q->wpAny 0#1 X.A 73#e (EP X aa σ Q) X.xe s
def PT(X:Cx)(e:Expr)(t:TT):Prop:=
 ∀(aa:Ψ)(s:Shared)(σ:St)(H:Hp)(Q:Bool->Hp->Prop),Inv X aa σ H s->t σ H Q->wpAny 0#1 X.A (isTrue e X.env 73#e) (TP X aa σ Q) X.xe s
def PW(X:Cx)(e:Expr)(t:TT):Prop:=
 ∀(a:Sem Value)(aa:Ψ)(s:Shared)(σ:St)(H:Hp)(Q:Bool->Hp->Prop),Inv X aa σ H s->t σ H Q->wpAny 0#1 X.A (isTrue e X.env a) (TP X aa σ Q) X.xe s
def PW.pt{t:TT}(h:PW X e t):PT X e t:=h _
def PA(X:Cx)(es:List Expr)(t:TA):Prop:=
 ∀(pos:Pos)(aa:Ψ)(s:Shared)(σ:St)(H:Hp)(Q:List V->Hp->Prop),Inv X aa σ H s->t σ H Q->wpAny 0#1 X.A (spliced 77#pos) (AP X aa σ Q) X.xe s
def PS(X:Cx)(st:Stmt)(t:TS):Prop:=
 ∀(aa:Ψ)(s:Shared)(σ:St)(H:Hp)(D:Ends),Inv X aa σ H s->t D σ H->wpAny 0#1 X.A (exec st X.env) (SP X aa D) X.xe s
def PSs(X:Cx)(st:List Stmt)(t:TS):Prop:=
 ∀(aa:Ψ)(s:Shared)(σ:St)(H:Hp)(D:Ends),Inv X aa σ H s->t D σ H->wpAny 0#1 X.A (execs st X.env) (SP X aa D) X.xe s
def aT{b:Type}{t:Sem b}{Q c:b->Shared->Prop}{M:Model}{A:Around}{E:Ω}{s:Shared}(h:wpAny M A t Q E s)(d:∀a s,Q a s->c a s):wpAny M A t c E s:=Br h d fun _ _ x=>x
section
variable{X:Cx}
def ax(i:Nat):TE:=fun σ H Q=>∃v,σ[i]?=some 55#v/\Q v H
def tC(v:V):TE:=fun _ H Q=>Q v H
def IF{i:Nat}{pos:Pos}(f:X.N[i]?=some x)(g:p4 X.env.scope x)(hd:0#14=false:=by decide)(j:(x==("__classdict__":Str))=false:=by decide):PE X (.Name x pos) 71#i:=by
 intro aa s σ H Q I h;obtain⟨v,e,h⟩:=h;obtain⟨m,b,d⟩:=I.loc;obtain⟨u,r,l⟩:=d i x v f e g;have fin:EP X aa σ Q u s:=⟨v,H,I,r,h⟩;rcases l with ⟨hk,hm⟩|⟨hk,c,hc,a⟩
 ·exact wpAny_Name (wpAny_loadName_local I.ok.kind hk b hm fin) hd
 ·rcases hk with hk|hk
  ·exact wpAny_Name (wpAny_loadName_cell I.ok.kind hk hc a fin) hd
  ·exact wpAny_Name (wpAny_loadName_free I.ok.kind hk hc a fin j) hd
def ze{i j pos}:PE X (.Constant 57#i j pos) (tC 57#i):=fun _ _ _ H _ I h=>wpAny_Constant_int ⟨.int i,H,I.tok _,⟨_,rfl⟩,h⟩
def eN{b j pos}:PE X (.Constant (.bool b) j pos) (tC (.bl b)):=fun _ _ _ H _ I h=>Constant_bool ⟨.bl b,H,I,rfl,h⟩
def fC{j pos}:PE X (.Constant .none j pos) (tC .non):=fun _ _ _ H _ I h=>Constant_none ⟨.non,H,I,rfl,h⟩
def zU{x j pos}:PE X (.Constant (.str x) j pos) (tC (.str x)):=fun _ _ _ H _ I h=>Calls.Constant_str ⟨.str x,H,I.tok _,⟨_,rfl⟩,h⟩
def Gl(X:Cx)(x:Str):Prop:=X.env.kindOf x=some .globalImplicit
def p9{s:Shared}{pos:Pos}{Q:Ω}(I:Inv X aa σ H s)(a:Gl X x)(hm:X.mg x=some u)(h:Q u s)(hd:0#14=false:=by decide):wpAny 0#1 X.A 73#(.Name x pos) Q E s:=
 Calls.Name_function_global I.ok.kind a (Calls.loadGlobal_global (by rw[I.ok.glob];exact I.mod.glob.keeps I.bk) hm h) hd
def ij{s:Shared}{pos:Pos}{Q:Ω}(I:Inv X aa σ H s)(a:Gl X x)(hm:X.mg x=none)(b:Ba x=some u)(h:Q u s)(c:x≠"__name__":=by decide)(hd:0#14=false:=by decide):wpAny 0#1 X.A 73#(.Name x pos) Q E s:=by
 obtain⟨d,h1,h2⟩:=I.mod.blt;exact Calls.Name_function_global I.ok.kind a (Calls.loadGlobal_builtin (by rw[I.ok.glob];exact I.mod.glob.keeps I.bk) hm (by rw[I.ok.blt];exact h1.keeps I.bk) ((h2 x c).trans b) h) hd
def lH{pos:Pos}(a:Gl X x)(hm:X.mg x=some u)(r:RelV v u)(hd:0#14=false:=by decide):PE X (.Name x pos) (tC v):=
 fun _ _ _ H _ I h=>p9 I a hm ⟨v,H,I,r,h⟩ hd
def IG{pos:Pos}(a:Gl X x)(hm:X.mg x=none)(b:Ba x=some u)(r:RelV v u)(c:x≠"__name__":=by decide)(hd:0#14=false:=by decide):PE X (.Name x pos) (tC v):=
 fun _ _ _ H _ I h=>ij I a hm b ⟨v,H,I,r,h⟩ c hd
variable{a b:Expr}{ta tb:TE}{pos:Pos}
def PC(X:Cx)(op:CmpOp)(a b:Expr)(t:TE):Prop:=
 ∀(aa:Ψ)(s:Shared)(σ:St)(H:Hp)(Q:VK),Inv X aa σ H s->t σ H Q->
  wpAny 0#1 X.A 73#a (fun v c=>wpAny 0#1 X.A 73#b (fun u d=>wpAny 0#1 X.A (Bz op v u) (EP X aa σ Q) X.xe d) X.xe c) X.xe s
def ej(b:Expr){op:CmpOp}(h:op≠.In)(h2:op≠.NotIn):behindInMarks op b=false:=by
 have e1:(op==CmpOp.In)=false:=by cases op<;>first|rfl|exact absurd rfl h
 have e2:(op==CmpOp.NotIn)=false:=by cases op<;>first|rfl|exact absurd rfl h2
 cases b<;>simp[behindInMarks,e1,e2]
def tB(t:TE):TT:=fun σ H Q=>t σ H fun x H1=>∃c,x=.bl c/\Q c H1
def IH{t:TE}(h:PC X op a b t)(h1:behindInMarks op b=false:=by first|exact ej _ ξ ξ|rfl):PE X (.Compare a [op] [b] pos) t:=fun aa s σ H Q I hw=>wpAny_Compare1 (h aa s σ H Q I hw) h1
def IJ{t:TE}(h:PC X op a b t)(h1:behindInMarks op b=false:=by first|exact ej _ ξ ξ|rfl):PT X (.Compare a [op] [b] pos) (tB t):=by
 intro aa s σ H Q I hw;refine wpAny_isTrue_Compare1 (aT (h aa s σ H _ I hw) fun v i h1=>aT h1 fun u j h2=>aT h2 fun c l ⟨x,H1,g,e,f⟩=>?_) h1;obtain⟨d,rfl,q⟩:=f;cases e;exact wpAny_truthy_bool ⟨H1,g,q⟩
def jV{t:TE}(h:PE X e t)(he:∀a,isTrue e X.env a=(do let v <-a;standAt e.pos;holding [v] (truthy v)):=by intro _;rfl):PT X e (tB t):=by
 intro aa s σ H Q I hw;refine isTrue_plain (aT (h aa s σ H _ I hw) fun v g ⟨x,H1,f,b,c⟩=>?_) (he _);obtain⟨d,rfl,q⟩:=c;cases b;exact wpAny_truthy_bool ⟨H1,f,q⟩
variable{tA qV:TT}{rest:List Expr}
def IK(t u:TT):TT:=fun σ H Q=>t σ H fun c H1=>if c=true then Q true H1 else u σ H1 Q
def vA(t:TT):TT:=fun σ H Q=>t σ H fun c H1=>Q (!c) H1
def vF(ha:PT X a tA):PW X (.BoolOp .Or [a] pos) tA:=by
 intro b aa s σ H Q I h;refine isTrue_or (aT (ha aa s σ H Q I h) fun c d e=>?_);cases c with
 |false=>exact isTrue_or_nil e
 |true=>exact e
def qf(ha:PT X a tA)(hb:PW X (.BoolOp .Or (b::rest) pos) qV):PW X (.BoolOp .Or (a::b::rest) pos) (IK tA qV):=by
 intro f aa s σ H Q I h;refine isTrue_or (aT (ha aa s σ H _ I h) fun c g ⟨H1,e,d⟩=>?_);cases c with
 |true=>exact⟨H1,e,d⟩
 |false=>exact hb f aa g σ H1 Q e d
def ji(ha:PT X a tA):PT X (.UnaryOp .Not a pos) (vA tA):=by
 intro aa s σ H Q I h;exact isTrue_not (ha aa s σ H (fun c H1=>Q (!c) H1) I h)
def qh(t:TT)(ta tb:TE):TE:=fun σ H Q=>t σ H fun c H1=>if c=true then ta σ H1 Q else tb σ H1 Q
def nu(hc:PT X c tA)(ha:PE X a ta)(hb:PE X b tb):PE X (.IfExp c a b pos) (qh tA ta tb):=by
 intro aa s σ H Q I h;refine wpAny_IfExp (aT (hc aa s σ H _ I h) fun d e ⟨H1,g,f⟩=>?_);cases d with
 |true=>exact ha aa e σ H1 Q g f
 |false=>exact hb aa e σ H1 Q g f
end
def SqL(K:Af)(H:Hp)(a:Addr)(xs:List V):Prop:=
 Rd H a 8#xs \/
  ∃(o:Obj)(b:Array Value)(n:Nat),K.lookup a=some o/\o.cls=.type "list"/\o.dict=none/\o.data=.seq b n/\b.size<=sizeLine/\Vals xs b.toList
def SqT(K:Af)(H:Hp)(a:Addr)(xs:List V):Prop:=
 Rd H a 52#xs \/
  ∃(o:Obj)(b:Array Value)(n:Nat),K.lookup a=some o/\o.cls=.type "tuple"/\o.data=.seq b n/\b.size<=sizeLine/\Vals xs b.toList
noncomputable def vH:Value->Option V
 |.none=>some .non
 |.bool b=>some (.bl b)
 |.int i _=>some 57#i
 |.str x _=>some (.str x)
 |.bytes b _=>some (.byt b)
 |.float b _=>some (.flt b)
 |.ref a=>some 5#a
 |.type n=>some (.ty n)
 |_=>none
def RelV.abs(r:RelV x u):vH u=some x:=by
 cases x with
 |non=>cases r;rfl
 |bl _=>cases r;rfl
 |int _=>obtain⟨t,rfl⟩:=r;rfl
 |str _=>obtain⟨t,rfl⟩:=r;rfl
 |byt _=>obtain⟨t,rfl⟩:=r;rfl
 |flt _=>obtain⟨t,rfl⟩:=r;rfl
 |ref _=>cases r;rfl
 |ty _=>cases r;rfl
def RelV.inj(r:RelV x u)(q:RelV y u):x=y:=Ai (r.abs.symm.trans q.abs)
def Vals.inj(h:Vals xs us)(g:Vals ys us):xs=ys:=by
 induction h generalizing ys with
 |nil=>cases g;rfl
 |cons r t ih=>cases g with|cons r' t'=>rw[r.inj r',ih t']
section
variable{X:Cx}{aa:Ψ}{σ:St}{H:Hp}{s:Shared}{a:Addr}{xs ys:List V}
def SqL.of{K:Af}(h:H a=some 8#xs):SqL K H a xs:=.inl 74#h
def SqT.of{K:Af}(h:H a=some 52#xs):SqT K H a xs:=.inl 74#h
def Inv.list(I:Inv X aa σ H s)(h:SqL X.K H a xs):∃b:List Value,Vals xs b/\PlainL s.heap a b.toArray/\xs.length<=sizeLine:=by
 rcases h with h|⟨o,b,n,hk,hc,hd,hs,hz,r⟩
 ·obtain⟨z,b,n,r,e⟩:=h.ok I.hok
  exact⟨b,r,⟨_,n,e,rfl,rfl,rfl⟩,z⟩
 ·refine⟨b.toList,r,⟨o,n,I.kIn a o hk,hc,hd,by simpa using hs⟩,?_⟩
  have e:=r.length;simp only[AD] at e;lia
def Inv.tuple(I:Inv X aa σ H s)(h:SqT X.K H a xs):∃b:List Value,Vals xs b/\IsTup s.heap a b.toArray/\xs.length<=sizeLine:=by
 rcases h with h|⟨o,b,n,hk,hc,hs,hz,r⟩
 ·obtain⟨z,b,r,p⟩:=h.ok I.hok
  exact⟨b,r,p,z⟩
 ·refine⟨b.toList,r,⟨o,I.kIn a o hk,hc,n,by simpa using hs⟩,?_⟩
  have e:=r.length;simp only[AD] at e;lia
def Inv.list_inj(I:Inv X aa σ H s)(h:SqL X.K H a xs)(h':SqL X.K H a ys):xs=ys:=by
 obtain⟨b,r,⟨o,n,e,_,_,d⟩,_⟩:=I.list h;obtain⟨its',c,⟨o',f,e',_,_,d'⟩,_⟩:=I.list h';rw[e] at e';cases e';rw[d] at d';injection d' with d1 _
 have:b=its':=by simpa using congrArg Array.toList d1
 subst this;exact r.inj c
def Inv.tuple_inj(I:Inv X aa σ H s)(h:SqT X.K H a xs)(h':SqT X.K H a ys):xs=ys:=by
 obtain⟨b,r,⟨o,e,_,n,d⟩,_⟩:=I.tuple h;obtain⟨its',c,⟨o',e',_,f,d'⟩,_⟩:=I.tuple h';rw[e] at e';cases e';rw[d] at d';injection d' with d1 _
 have:b=its':=by simpa using congrArg Array.toList d1
 subst this;exact r.inj c
end
noncomputable abbrev Cx.wish(X:Cx)(E:Ω):Cx:={X with xe:=E}
noncomputable abbrev Cx.nox(X:Cx):Cx:=X.wish fun _ _=>False
noncomputable def Cx.Ok.wish{X:Cx}(ok:X.Ok)(E:Ω):(X.wish E).Ok:=
 ⟨ok.mod,ok.kind,ok.glob,ok.blt,ok.above,ok.inj,ok.has,ok.cab,ok.hd,ok.frames,ok.stk,ok.exf,ok.bs,ok.bsz,ok.noex,ok.exfs,ok.funs,ok.frf⟩
def Cx.Ok.unwish{X:Cx}(ok:(X.wish E).Ok):X.Ok:=
 ⟨ok.mod,ok.kind,ok.glob,ok.blt,ok.above,ok.inj,ok.has,ok.cab,ok.hd,ok.frames,ok.stk,ok.exf,ok.bs,ok.bsz,ok.noex,ok.exfs,ok.funs,ok.frf⟩
section
variable{X:Cx}{aa:Ψ}{σ:St}{H:Hp}{s:Shared}{E:Ω}
noncomputable def Inv.wish(I:Inv X aa σ H s)(E:Ω):Inv (X.wish E) aa σ H s:=⟨I.ok.wish E,I.os,I.bare,I.base,I.loc,I.cell,I.free,I.freeC,I.pin,I.hok,I.len⟩
def Inv.unwish(I:Inv (X.wish E) aa σ H s):Inv X aa σ H s:=⟨I.ok.unwish,I.os,I.bare,I.base,I.loc,I.cell,I.free,I.freeC,I.pin,I.hok,I.len⟩
def SP.unwish(h:SP (X.wish E) aa D f s'):SP X aa D f s':=by
 cases f with
 |next=>obtain⟨a,H',I,q⟩:=h;exact⟨a,H',I.unwish,q⟩
 |brk=>obtain⟨a,H',I,q⟩:=h;exact⟨a,H',I.unwish,q⟩
 |cont=>obtain⟨a,H',I,q⟩:=h;exact⟨a,H',I.unwish,q⟩
 |ret u=>obtain⟨v,a,H',I,r,q⟩:=h;exact⟨v,a,H',I.unwish,r,q⟩
noncomputable def PSs.nox{st:List Stmt}{t:TS}(h:PSs X.nox st t):PSs X st t:=fun aa s σ H D I hw=>
 Br (h aa s σ H D (I.wish _) hw) (fun _ _ q=>q.unwish) fun _ _ z=>False.elim z
end
section
variable{X:Cx}{st:Stmt}{rest:List Stmt}{t u:TS}{e:Expr}{te:TE}{pos:Pos}
def IL:TS:=fun D σ H=>D.nx σ H
def nv(t u:TS):TS:=fun D σ H=>t {D with nx:=u D} σ H
def zA:PSs X [] IL:=fun _ _ σ H _ I h=>wpAny_execs_nil ⟨σ,H,I,h⟩
def zc(h1:PS X st t)(h2:PSs X rest u):PSs X (st::rest) (nv t u):=by
 intro aa s σ H D I h;refine wpAny_execs_cons (aT (h1 aa s σ H {D with nx:=u D} I h) fun f a q=>?_);cases f with
 |next=>
  obtain⟨b,H',c,q⟩:=q;exact h2 aa a b H' D c q
 |ret v=>exact q
 |brk=>exact q
 |cont=>exact q
def zf(h1:PS X st t):PSs X [st] t:=by
 intro aa s σ H D I h;refine wpAny_execs_cons (aT (h1 aa s σ H D I h) fun f a q=>?_);cases f with
 |next=>exact wpAny_execs_nil q
 |ret v=>exact q
 |brk=>exact q
 |cont=>exact q
def IM:TS:=fun D σ H=>D.bk σ H
def IN:PS X (.Break pos) IM:=fun _ _ σ H _ I h=>wpAny_Break ⟨σ,H,I,h⟩
def Inv.quiet{s:Shared}(I:Inv X aa σ H s):interactive X.env=false:=by simp[interactive,I.ok.kind]
def IP(te:TE):TS:=fun D σ H=>te σ H fun _ H1=>D.nx σ H1
def gm(he:PE X e te)(hs:swapsWith e none pos.line X.env=pure false:=by rfl):PS X (.Expr e pos) (IP te):=by
 intro aa s σ H D I h;exact wpAny_Expr_any (aT (he aa s σ H _ I h) fun v c ⟨x,H1,b,d,a⟩=>⟨σ,H1,b,a⟩) I.quiet hs
def vN(te:TE):TS:=fun D σ H=>te σ H D.rt
def zl(he:PE X e te):PS X (.Return 55#e pos) (vN te):=by
 intro aa s σ H D I h;exact wpAny_Return_some (aT (he aa s σ H _ I h) fun v d ⟨x,H1,c,a,b⟩=>⟨x,σ,H1,c,a,b⟩)
def vU(c:TT)(t u:TS):TS:=fun D σ H=>c σ H fun b H1=>if b=true then t D σ H1 else u D σ H1
def cI(hc:PT X c tc)(ha:PSs X a t)(hb:PSs X b u):PS X (.If c a b pos) (vU tc t u):=by
 intro aa s σ H D I h;refine wpAny_If (aT (hc aa s σ H _ I h) fun d e ⟨H1,g,f⟩=>?_);cases d with
 |true=>exact ha aa e σ H1 D g f
 |false=>exact hb aa e σ H1 D g f
def IQ:TS:=fun _ _ _=>False
def qi:PSs X a IQ:=fun _ _ _ _ _ _ h=>h.elim
end
abbrev TG:=V->St->Hp->(St->Hp->Prop)->Prop
abbrev jZ:=List V->St->Hp->(St->Hp->Prop)->Prop
def PG(X:Cx)(b:Expr)(t:TG):Prop:=
 ∀(aa:Ψ)(s:Shared)(σ:St)(H:Hp)(v:V)(u:Value)(Q:St->Hp->Prop),Inv X aa σ H s->RelV v u->t v σ H Q->
  wpAny 0#1 X.A (assign b X.env u) (fun _ s'=>∃a H',Inv X aa a H' s'/\Q a H') X.xe s
def qj(X:Cx)(ts:List Expr)(t:jZ):Prop:=
 ∀(aa:Ψ)(s:Shared)(σ:St)(H:Hp)(vs:List V)(us:List Value)(Q:St->Hp->Prop),Inv X aa σ H s->Vals vs us->t vs σ H Q->
  wpAny 0#1 X.A (assignInOrder ((assignEach ts X.env).map 0#17) us) (fun _ s'=>∃a H',Inv X aa a H' s'/\Q a H') X.xe s
abbrev j0:=V->V->V->Hp->(Hp->Prop)->Prop
def nw(X:Cx)(t:j0):Prop:=
 ∀(aa:Ψ)(s:Shared)(σ:St)(H:Hp)(o i v:V)(a iv u:Value)(Q:Hp->Prop),Inv X aa σ H s->RelV o a->RelV i iv->RelV v u->t o i v H Q->
  wpAny 0#1 X.A (setItem a iv u) (fun _ s'=>∃H',Inv X aa σ H' s'/\Q H') X.xe s
section
variable{X:Cx}{pos:Pos}
def zX(i:Nat):TG:=fun v σ H Q=>Q (σ.set i 55#v) H
def zh{i:Nat}(a:X.N.Nodup)(hi:X.N[i]?=some x)(hx:Loc X.env.scope x)(hf:X.fn x=true\/X.env.scope.names.lookup x=some .local:=by first|exact .inl rfl|exact .inr rfl|assumption):PG X (.Name x pos) (zX i):=by
 intro aa s σ H v u Q I r h;exact wpAny_assign_Name (D4 I a hi hx r (fun s' b=>⟨_,H,b,h⟩) hf)
def iF:jZ:=fun vs σ H Q=>vs=[]/\Q σ H
def j6(t:TG)(u:jZ):jZ:=fun vs σ H Q=>∃v r,vs=v::r/\t v σ H fun a H'=>u r a H' Q
def lQ:qj X [] iF:=by
 intro aa s σ H vs us Q I r h;obtain⟨e,h⟩:=h;subst e;cases r;exact assignInOrder_nil ⟨σ,H,I,h⟩
def zT{t:TG}(h1:PG X e t)(h2:qj X es u)(hs:(assignEach (e::es) X.env).map 0#17=assign e X.env::(assignEach es X.env).map 0#17:=by rfl):qj X (e::es) (j6 t u):=by
 intro aa s σ H vs us Q I r h;obtain⟨v,f,e1,h⟩:=h;subst e1;cases r with
 |cons r rr=>
  rw[hs];refine assignInOrder_cons (aT (h1 aa s σ H _ _ _ I r h) fun _ a ⟨b,H1,d,c⟩=>?_);exact h2 aa a b H1 _ _ Q d rr c
def iK(K:Af)(n:Nat)(t:jZ):TG:=fun v σ H Q=>∃a xs,v=.ref a/\SqT K H a xs/\xs.length=n/\t xs σ H Q
def lR{k:Nat}{t:jZ}{n:Nat}(hc:X.calm=true)(h:qj X es t)(g:(assignEach es X.env).length=n:=by rfl)(c:(assignEach es X.env).findIdx? 2#3=none:=by rfl):PG X (.Tuple es k pos) (iK X.K n t):=by
 intro aa s σ H v u Q I r hw;obtain⟨a,xs,e1,hq,f,hw⟩:=hw;subst e1;cases r;obtain⟨j,d,ht,hz⟩:=I.tuple hq;refine assign_Tuple_tuple 2#15 ht (by simp[g,<-f,d.length]) c fun h' hx=>?_;have i:Inv X aa σ H {s with heap:=h'}:=I.kept (t':=s.toks) fun b o e=>hx b o (Aq (Ao e)) e;exact h aa _ σ H xs _ Q i 6#d hw
def v1(to a:TE)(t:j0):TG:=fun v σ H Q=>to σ H fun o H1=>a σ H1 fun i H2=>t o i v H2 fun b=>Q σ b
def D6{t:j0}(p:PE X o to)(hi:PE X i b)(hs:nw X t)(ha:∀v,assign (.Subscript o i pos) X.env v=(do
   let a <-holding [v] 73#o
   let iv <-holding [v,a] 73#i
   standAt pos
   holding [v,a,iv] (setItem a iv v)
   release [v,a,iv] []):=by intro _;rfl):PG X (.Subscript o i pos) (v1 to b t):=by
 intro aa s σ H v u Q I r h;rw[ha];refine Aa (AH (aT (p aa s σ H _ I h) fun a c ⟨x,H1,q,d,e⟩=>?_));refine Aa (AH (aT (hi aa c σ H1 _ q e) fun iv f ⟨y,H2,w,g,j⟩=>?_));refine Aa (wpAny_standAt (Aa (AH (aT (hs aa f σ H2 x y v a iv u _ w d g r j) fun _ D ⟨A,C,l⟩=>?_))));exact wpAny_release ⟨σ,A,C,l⟩
def gA(te:TE)(g:TG):TS:=fun D σ H=>te σ H fun x H1=>g x σ H1 D.nx
def D9(he:PE X e te)(d:PG X tg g)(hs:swapsWithSole [tg] e pos.line X.env=pure false:=by rfl)(hw:swappedStores [tg] e X.env=pure none:=by rfl)(h1:(assignEach [tg] X.env).map 0#17=[assign tg X.env]:=by rfl):PS X (.Assign [tg] e pos) (gA te g):=by
 intro aa s σ H D I h;refine wpAny_Assign_stores (aT (he aa s σ H _ I h) fun v a ⟨x,H1,f,b,c⟩=>?_) hs hw;rw[h1];exact aT (d aa a σ H1 x v _ f b c) fun _ i q=>q
def zk{i:Nat}(c:X.N.Nodup)(hi:X.N[i]?=some x)(hx:Loc X.env.scope x)(he:PE X e te)(hs:swapsWith e 55#(.Name x aO) pos.line X.env=pure false:=by rfl)(hf:X.fn x=true\/X.env.scope.names.lookup x=some .local:=by first|exact .inl rfl|exact .inr rfl|assumption):PS X (.Assign [.Name x aO] e pos) (gA te (zX i)):=by
 intro aa s σ H D I h;refine wpAny_Assign_Name (aT (he aa s σ H _ I h) fun v g ⟨y,H1,d,a,b⟩=>?_) hs;exact D4 d c hi hx a (fun j f=>⟨_,H1,f,b⟩) hf
def IR(c:TT)(tb:TS):TS:=fun D σ H=>∃W:Nat->St->Hp->Prop,(∃m,W m σ H)/\∀m σ H,W m σ H->
 c σ H fun b H1=>if b=true then ∃N:St->Hp->Prop,(∀a H',N a H'->∃d,d<m/\W d a H')/\tb {D with nx:=N,ct:=N,bk:=D.nx} σ H1 else D.nx σ H1
def IS(hp:PassesOwn 0#1 X.A X.env X.xe)(hc:PT X c tc)(hb:PSs X body tb):PS X (.While c body [] pos) (IR tc tb):=by
 intro aa s σ H D I h;obtain⟨W,⟨y,C⟩,turn⟩:=h;refine wpAny_While (codeAny_whileLoop (fun n s'=>∃q H',Inv X aa q H' s'/\W n q H') ?_ y ⟨σ,H,I,C⟩);rintro n E ⟨i,H1,G,F⟩;refine wpAny_passesOwn hp (aT (hc aa E i H1 _ G (turn n i H1 F)) fun b x ⟨H2,u,e⟩=>?_);cases b with
 |true=>
  obtain⟨N,r,e⟩:=e;rw[TH rfl];refine wpAny_passesOwn hp (aT (hb aa x i H2 _ u e) fun f J g=>?_);cases f with
  |next=>
   obtain⟨a,d,p,j⟩:=g;obtain⟨l,hm,o⟩:=r a d j;exact⟨l,hm,a,d,p,o⟩
  |cont=>
   obtain⟨a,d,p,j⟩:=g;obtain⟨l,hm,o⟩:=r a d j;exact⟨l,hm,a,d,p,o⟩
  |brk=>exact g
  |ret v=>exact g
 |false=>
  rw[TJ Ax];exact wpAny_execs_nil ⟨i,H2,u,e⟩
end
structure It where
 go:Nat->Hp->Prop
 yld:Nat->Hp->V->Hp->Prop
 stop:Nat->Hp->Prop
def bb(X:Cx)(aa:Ψ)(H:Hp)(b:Addr):Prop:=
 H b=none/\b≠X.env.locals/\b∉X.fs/\(b∈X.ex\/X.s₀⁻¹<=b)/\(∀x c,X.env.cells.lookup x=some c->c≠b)/\∀p∈X.pn++aa,p.1≠b
def Inv.fpOk{H H':Hp}{s:Shared}{b:Addr}(I:Inv X aa σ H s)(hb:s⁻¹<=b)(a:H' b=none):bb X aa H' b:=by
 refine⟨a,Bf (AF I.lt hb),I.nofs hb,.inr (AG I.sz hb),fun x c e z=>?_,fun p hp z=>?_⟩
 ·obtain⟨v,q⟩:=I.cell x c e
  exact absurd (AF q.lt (by rw[z];exact hb)) (QT _)
 ·exact absurd (AF (Ao (I.pin p hp).1) (by rw[z];exact hb)) (QT _)
structure Turn(P:Program)(w:World)(K:Af)(tg:Expr)(J:It)(fp:List Addr)(it:Addr)(tn:Nat->Heap->Prop):Prop where
 mem:it∈fp
 obj:∀i h,tn i h->∀b∈fp,∃o,h.get? b=some o/\∀v,o.data≠.cell v
 keep:∀i h h',tn i h->(∀b∈fp,∀o,h.get? b=some o->h'.get? b=some o)->tn i h'
 item:∀(X:Cx),X.prog=P->X.w=w->X.K=K->X.calm=true->∀(i:Nat)(aa:Ψ)(s:Shared)(σ:St)(H:Hp)(E:Ω),Inv X aa σ H s->(∀b∈fp,bb X aa H b)->tn i s.heap->J.go i H->
  wpAny (model P w) X.A (pyNext 5#it) (fun r s1=>∃u,r=some u/\
   wpAny (model P w) X.A (letOwnedTupleGo tg 5#it u) (fun _ s2=>∃x H',Inv X aa σ H' s2/\RelV x u/\J.yld i H x H'/\tn (i+1) s2.heap/\∀b∈fp,H' b=none) E s1) E s
 done:∀(X:Cx),X.prog=P->X.w=w->X.K=K->X.calm=true->∀(i:Nat)(aa:Ψ)(s:Shared)(σ:St)(H:Hp)(E:Ω),Inv X aa σ H s->(∀b∈fp,bb X aa H b)->tn i s.heap->J.stop i H->
  wpAny (model P w) X.A (pyNext 5#it) (fun r s1=>r=none/\Inv X aa σ H s1) E s
 self:∀(A:Around)(i:Nat)(s:Shared)(Q:Ω)(E:Ω),tn i s.heap->Q 5#it s->wpAny (model P w) A (pyIter 5#it) Q E s
abbrev TI:=St->Hp->(It->Hp->Prop)->Prop
def v8(X:Cx)(aa:Ψ)(σ:St)(tg:Expr)(R:It->Hp->Prop)(d:Value)(a:Shared):Prop:=
 ∃(it:Addr)(fp:List Addr)(c:Nat->Heap->Prop)(J:It)(H':Hp),d=.ref it/\Inv X aa σ H' a/\Turn X.prog X.w X.K tg J fp it c/\c 0 a.heap/\(∀b∈fp,bb X aa H' b)/\R J H'
def PI(X:Cx)(tg iter:Expr)(wi:TI):Prop:=
 ∀(aa:Ψ)(s:Shared)(σ:St)(H:Hp)(R:It->Hp->Prop),Inv X aa σ H s->wi σ H R->
  wpAny 0#1 X.A 73#iter (fun v a=>wpAny 0#1 X.A (pyIter v) (v8 X aa σ tg R) X.xe a) X.xe s
def ny{s:Shared}{n:String}{Q:Unit->Shared->Prop}(b:s.heap.get? it=some o)(hc:o.cls=.type n)(hd:o.data=.fields vs)(c:["enumerate","zip","dict_itemiterator","dict_reverseitemiterator","odict_iterator","itertools.zip_longest","itertools.pairwise"].contains n=false)(a:Q () s):wpAny M A (letOwnedTupleGo tg 5#it u) Q E s:=by
 unfold letOwnedTupleGo;cases tg<;>first
  |exact Ac a
  |(cases u<;>first
    |exact Ac a
    |(refine Aa (wpAny_load b ?_);rw[hc,hd];show wpAny M A (if(["enumerate","zip","dict_itemiterator","dict_reverseitemiterator","odict_iterator","itertools.zip_longest","itertools.pairwise"].contains n&&vs[0]?==some (rawInt _))=true then _ else _) Q E s;rw[TJ (by intro h;rw[c,Rx] at h;cases h)];exact Ac a))
noncomputable def dQ(K:Af)(a:Addr):It:=
 ⟨fun i H=>∃xs x,SqL K H a xs/\xs[i]?=some x,fun i H x H'=>H'=H/\∀xs,SqL K H a xs->xs[i]?=some x,fun i H=>∃xs,SqL K H a xs/\xs.length<=i⟩
noncomputable def j7(K:Af)(a:Addr):It:=
 ⟨fun i H=>∃xs x,SqT K H a xs/\xs[i]?=some x,fun i H x H'=>H'=H/\∀xs,SqT K H a xs->xs[i]?=some x,fun i H=>∃xs,SqT K H a xs/\xs.length<=i⟩
noncomputable def ik(lo:Int)(n:Nat):It:=⟨fun i _=>i<n,fun i H x H'=>H'=H/\x=.int (lo+i),fun i _=>n<=i⟩
def IT{K:Af}(a it:Addr):Turn P w K tg (dQ K a) [it] it (fun i h=>h.IsListIter it a i) where
 mem:=by simp
 obj:=fun i h st b hb=>by
  have e:b=it:=by simpa using hb
  subst e;obtain⟨o,e,c,d⟩:=st;exact⟨o,e,fun v z=>by rw[d] at z;cases z⟩
 keep:=fun i h h' st k=>st.at fun o e=>k it 2#0 o e
 item:=by
  intro X f hw g hc i aa s σ H E I hf st j;subst f hw g;obtain⟨xs,x,hq,hx⟩:=j;obtain⟨D,l,p,hz⟩:=I.list hq;obtain⟨u,hu,F⟩:=l.get hx;obtain⟨q,f1,f2,r,y,f5⟩:=hf it 2#0;refine wpAny_pyNext_list_item st p.isList (x:=u) 6#hu fun h' A sb=>?_;have G:Inv X aa σ H {s with heap:=h'}:=I.turned (t':=s.toks) (fun b o hb e=>(sb.2 b hb).trans e) q f1 r y f5;obtain⟨o,e,c,d⟩:=id A;exact⟨u,rfl,ny (s:={s with heap:=h'}) e c d ξ ⟨x,H,G,F,⟨rfl,fun ys hy=>by rw[I.list_inj hy hq];exact hx⟩,A,fun b hb=>(hf b hb).1⟩⟩
 done:=by
  intro X f hw g hc i aa s σ H E I hf st j;subst f hw g;obtain⟨xs,hq,hx⟩:=j;obtain⟨D,l,p,hz⟩:=I.list hq;obtain⟨q,f1,f2,r,y,f5⟩:=hf it 2#0;have J:=l.length;exact wpAny_pyNext_list_end 2#15 st p.isList (by simp;lia) fun h' C=>⟨rfl,I.turned (t':=s.toks) (fun b o hb e=>C b o hb e) q f1 r y f5⟩
 self:=fun _ _ _ _ _ st h=>wpAny_pyIter_listiter st h
def IU{K:Af}(a it:Addr):Turn P w K tg (j7 K a) [it] it (fun i h=>h.IsTupleIter it a i) where
 mem:=by simp
 obj:=fun i h st b hb=>by
  have e:b=it:=by simpa using hb
  subst e;obtain⟨o,e,c,d⟩:=st;exact⟨o,e,fun v z=>by rw[d] at z;cases z⟩
 keep:=fun i h h' st k=>st.at fun o e=>k it 2#0 o e
 item:=by
  intro X f hw g hc i aa s σ H E I hf st j;subst f hw g;obtain⟨xs,x,hq,hx⟩:=j;obtain⟨l,q,p,hz⟩:=I.tuple hq;obtain⟨u,hu,F⟩:=q.get hx;obtain⟨r,f1,f2,y,A,f5⟩:=hf it 2#0;refine wpAny_pyNext_tuple_item st (show s.heap.IsTuple a l.toArray from p) (x:=u) 6#hu fun h' C sb=>?_;have G:Inv X aa σ H {s with heap:=h'}:=I.turned (t':=s.toks) (fun b o hb e=>(sb.2 b hb).trans e) r f1 y A f5;obtain⟨o,e,c,d⟩:=id C;exact⟨u,rfl,ny (s:={s with heap:=h'}) e c d ξ ⟨x,H,G,F,⟨rfl,fun ys hy=>by rw[I.tuple_inj hy hq];exact hx⟩,C,fun b hb=>(hf b hb).1⟩⟩
 done:=by
  intro X f hw g hc i aa s σ H E I hf st j;subst f hw g;obtain⟨xs,hq,hx⟩:=j;obtain⟨l,q,p,hz⟩:=I.tuple hq;obtain⟨r,f1,f2,y,A,f5⟩:=hf it 2#0;have J:=q.length;exact wpAny_pyNext_tuple_end 2#15 st (show s.heap.IsTuple a l.toArray from p) (by simp;lia) fun h' D=>⟨rfl,I.turned (t':=s.toks) (fun b o hb e=>D b o hb e) r f1 y A f5⟩
 self:=fun _ _ _ _ _ st h=>wpAny_pyIter_tupleiter st h
def IV{K:Af}(it:Addr)(lo:Int)(n:Nat):Turn P w K tg (ik lo n) [it] it (fun i h=>IsRangeIter h it (lo+(i:Nat)*1) ((n:Int)-(i:Nat)) 1) where
 mem:=by simp
 obj:=fun i h st b hb=>by
  have e:b=it:=by simpa using hb
  subst e;exact⟨_,st,fun v z=>by
   have u:Data.fields _=Data.cell v:=z;cases u⟩
 keep:=fun i h h' st k=>k it 2#0 _ st
 item:=by
  intro X a hw c hc i aa s σ H E I hf st d;subst a hw c;obtain⟨f,f1,f2,g,j,f5⟩:=hf it 2#0;have W:=Walks.range (prog:=X.prog) (w:=X.w) 2#15 it lo 1 n;refine W.item i s _ _ d st fun v h' tk p l q=>?_;obtain⟨t,rfl⟩:=p;have x:Inv X aa σ H {s with heap:=h',toks:=tk}:=I.turned (fun b o hb e=>q b o 6#hb e) f f1 g j f5;refine⟨_,rfl,ny (s:={s with heap:=h',toks:=tk}) (n:="range_iterator") l rfl rfl ξ ⟨.int (lo+i),H,x,⟨t,?_⟩,⟨rfl,rfl⟩,l,fun b hb=>(hf b hb).1⟩⟩;rw[Int.mul_one]
 done:=by
  intro X a hw c hc i aa s σ H E I hf st d;subst a hw c;obtain⟨f,f1,f2,g,j,f5⟩:=hf it 2#0;exact wpAny_pyNext_range_end 2#15 st (by have:n<=i:=d;lia) fun h' r=>⟨rfl,I.turned (t':=s.toks) (fun b o hb e=>r b o hb e) f f1 g j f5⟩
 self:=fun _ _ _ _ _ st h=>wpAny_pyIter_rangeiter st h
section
variable{X:Cx}{tg:Expr}
def IW(K:Af)(tl:TE):TI:=fun σ H R=>tl σ H fun x H1=>∃a,x=.ref a/\(∃xs,SqL K H1 a xs)/\R (dQ K a) H1
def wh(K:Af)(tl:TE):TI:=fun σ H R=>tl σ H fun x H1=>∃a,x=.ref a/\(∃xs,SqT K H1 a xs)/\R (j7 K a) H1
def zu(g:PE X l tl):PI X tg l (IW X.K tl):=by
 intro aa s σ H R I h;refine aT (g aa s σ H _ I h) fun v c ⟨x,H1,I1,d,f⟩=>?_;obtain⟨a,e,⟨xs,hq⟩,q⟩:=f;subst e;cases d;obtain⟨i,j,p,hz⟩:=I1.list hq;refine wpAny_pyIter_list p.isList ?_;refine⟨c⁻¹,[c⁻¹],_,_,H1,rfl,I1.kept (t':=c.toks) fun b o e=>Ad _ e,IT a _,⟨_,Al _ rfl,rfl,rfl⟩,fun b hb=>?_,q⟩;have e:b=c⁻¹:=by simpa using hb
 subst e;exact I1.fpOk 0#10 (I1.hok.fresh 0#10)
def wy(i:PE X l tl):PI X tg l (wh X.K tl):=by
 intro aa s σ H R I h;refine aT (i aa s σ H _ I h) fun v c ⟨x,H1,I1,d,f⟩=>?_;obtain⟨a,e,⟨xs,hq⟩,q⟩:=f;subst e;cases d;obtain⟨g,j,p,hz⟩:=I1.tuple hq;refine wpAny_pyIter_tuple (show c.heap.IsTuple a g.toArray from p) ?_;refine⟨c⁻¹,[c⁻¹],_,_,H1,rfl,I1.kept (t':=c.toks) fun b o e=>Ad _ e,IU a _,⟨_,Al _ rfl,rfl,rfl⟩,fun b hb=>?_,q⟩;have e:b=c⁻¹:=by simpa using hb
 subst e;exact I1.fpOk 0#10 (I1.hok.fresh 0#10)
def IX{s:Shared}{R:It->Hp->Prop}{lo hi:Int}{t u v:Tok}{tk:Nat}(I:Inv X aa σ H s)(h1:-(2 ^ 62)<=lo)(h2:lo<2 ^ 62)(a:-(2 ^ 62)<=hi)(c:hi<2 ^ 62)(q:R (ik lo (hi-lo).toNat) H):wpAny 0#1 X.A (pyIter 0#5) (v8 X aa σ tg R) E {s with heap:=s.heap.push {cls:=.type "range",data:=.fields #[.int lo t,.int hi u,.int 1 v]},toks:=tk}:=by
 refine wpAny_pyIter_range (IsRange.new ..) (small_one h1 h2 a c) ?_;have I1:Inv X aa σ H {s with heap:=s.heap.push {cls:=.type "range",data:=.fields #[.int lo t,.int hi u,.int 1 v]},toks:=tk}:=I.kept fun b o e=>Ad _ e;refine⟨(1#15).objs.size,[(1#15).objs.size],_,_,H,rfl,
  I1.kept (t':=tk) fun b o e=>Ad _ e,IV _ lo (hi-lo).toNat,?_,fun b hb=>?_,q⟩
 ·have e1:lo+((0:Nat):Int)*1=lo:=by simp
  have e2:(((hi-lo).toNat:Nat):Int)-((0:Nat):Int)=Builtin.Range.rangeSize lo hi 1:=by rw[rangeSize_one];split<;>lia
  show IsRangeIter _ _ (lo+((0:Nat):Int)*1) ((((hi-lo).toNat:Nat):Int)-((0:Nat):Int)) 1;rw[e1,e2];exact Al _ rfl
 ·have e:b=(1#15).objs.size:=by simpa using hb
  subst e;exact I1.fpOk 0#10 (I1.hok.fresh 0#10)
def IY(ta:TA):TI:=fun σ H R=>ta σ H fun vs H1=>∃j:Int,vs=[.int j]/\-(2 ^ 62)<=j/\j<2 ^ 62/\R (ik 0 j.toNat) H1
def lT{a:Expr}{p pos:Pos}(f:Gl X "range")(hm:X.mg "range"=none)(ha:PA X [a] ta)(hs:starEach [a] X.env=[60#a]:=by rfl):PI X tg (.Call (.Name "range" p) [a] [] pos) (IY ta):=by
 intro aa s σ H R I h;refine Call_ (ij I f hm boot_range (Rr (aT 1#12 fun us i ⟨vs,H1,g,c,b⟩=>?_) hs rfl));obtain⟨j,e,b,d,q⟩:=b;subst e;cases c with
 |cons r rr=>
  cases rr;obtain⟨t,rfl⟩:=r;exact call_range_1 (IX g ω ω b d 6#q)
def wL(wi:TI)(g:TG)(tb:TS):TS:=fun D σ H=>wi σ H fun J H1=>∃W:Nat->Nat->St->Hp->Prop,(∃m,W 0 m σ H1)/\∀i m σ H,W i m σ H->
 (J.stop i H/\D.nx σ H)\/(J.go i H/\∃N:St->Hp->Prop,(∀a H',N a H'->∃b,b<m/\W (i+1) b a H')/\∀x H',J.yld i H x H'->g x σ H' fun c H2=>tb {D with nx:=N,ct:=N,bk:=D.nx} c H2)
noncomputable def nz(fp:List Addr)(h:Heap):Ψ:=fp.filterMap fun b=>(h.get? b).map fun o=>(b,o)
def ql{fp:List Addr}{h:Heap}{b:Addr}(hb:b∈fp)(e:h.get? b=some o):(b,o)∈nz fp h:=SV.mpr ⟨b,hb,by rw[e];rfl⟩
def IZ{p:Addr×Obj}(hp:p∈nz fp h):p.1∈fp/\h.get? p.1=some p.2:=by
 obtain⟨b,hb,e⟩:=SV.mp hp;cases q:h.get? b with
 |none=>rw[q] at e;cases e
 |some o=>
  rw[q] at e;have e':(b,o)=p:=Ai e;subst e';exact⟨hb,q⟩
def Inv.pinned{s:Shared}{fp:List Addr}(I:Inv X aa σ H s)(hf:∀b∈fp,bb X aa H b)(c:∀b∈fp,∃o,s.heap.get? b=some o/\∀v,o.data≠.cell v):Inv X (aa++nz fp s.heap) σ H s:=
 I.pins_of fun p hp=>(Qm.mp hp).elim (fun z=>I.pin p (Bh _ z)) fun z=>by
  obtain⟨hb,e⟩:=IZ z;obtain⟨a,f1,f2,_⟩:=hf p.1 hb;obtain⟨o,e',d⟩:=c p.1 hb;rw[e] at e';cases e';exact⟨e,a,f1,f2,d⟩
def Inv.unpinned{aa a:Ψ}{s:Shared}(I:Inv X (aa++a) σ H s):Inv X aa σ H s:=I.pins_of fun p hp=>I.pin p (Bh _ (Rk _ hp))
def zY{iter:Expr}{pos:Pos}(hp:PassesOwn 0#1 X.A X.env X.xe)(hc:X.calm=true)(hi:PI X tg iter wi)(hg:PG X tg g)(hb:PSs X body tb)(hs:∀x,foldedSetIterable iter X.env x=pure x:=by intro _;rfl):PS X (.For tg iter body [] pos) (wL wi g tb):=by
 intro aa s σ H D I h;refine wpAny_For (aT (hi aa s σ H _ I h) fun v s1 h1=>aT h1 fun oG s2 h2=>?_) hs;obtain⟨it,fp,M,J,H2,e,I2,T,eC,f2,W,⟨m0,w0⟩,turn⟩:=h2;subst e;have c:∀{H':Hp},(∀b∈fp,H' b=none)->∀b∈fp,bb X aa H' b:=fun Y b hb=>⟨Y b hb,(f2 b hb).2⟩;refine codeAny_forLoop_any (fun n s'=>∃i y H',Inv X aa y H' s'/\M i s'.heap/\(∀b∈fp,H' b=none)/\W i n y H') ?_ m0 ⟨0,σ,H2,I2,eC,fun b hb=>(f2 b hb).1,w0⟩;rintro n O ⟨i,C,E,U,P,Q,w3⟩;rcases turn i n C E w3 with ⟨stop,qn⟩|⟨go,N,hN,step⟩
 ·refine wpAny_passesOwn hp (aT (T.done X rfl rfl rfl hc i aa O C E X.xe U (c Q) P stop) fun r s4 ⟨hr,I4⟩=>?_)
  subst hr;exact wpAny_execs_nil ⟨C,E,I4,qn⟩
 ·refine wpAny_passesOwn hp (aT (T.item X rfl rfl rfl hc i aa O C E X.xe U (c Q) P go) fun r s4 ⟨u,hr,h4⟩=>?_)
  subst hr;refine wpAny_passesOwn hp (aT h4 fun _ L ⟨x,S,I5,r5,y5,p,F⟩=>?_);have mU:=I5.pinned (c F) (T.obj _ _ p);refine wpAny_passesOwn hp (aT (hg _ L C S x u _ mU r5 (step x S y5)) fun _ s6 ⟨jX,H6,I6,q6⟩=>?_);refine wpAny_passesOwn hp (aT (hb _ s6 jX H6 _ I6 q6) fun f G l=>?_);have again:∀{a:St}{j:Hp},Inv X (aa++nz fp L.heap) a j G->N a j->∃m,m<n/\∃i y H',Inv X aa y H' G/\M i G.heap/\(∀b∈fp,H' b=none)/\W i m y H':=fun{a j} I7 q=>by
   obtain⟨m',hm,w7⟩:=hN a j q;refine⟨m',hm,i+1,a,j,I7.unpinned,T.keep _ _ _ p fun b hb o e=>(I7.pin (b,o) (Bh _ (Bh _ (ql hb e)))).1,fun b hb=>?_,w7⟩;obtain⟨o,e,d⟩:=T.obj _ _ p b hb;exact(I7.pin (b,o) (Bh _ (Bh _ (ql hb e)))).2.1
  cases f with
  |next=>obtain⟨a,j,I7,q⟩:=l;exact again I7 q
  |cont=>obtain⟨a,j,I7,q⟩:=l;exact again I7 q
  |brk=>obtain⟨a,j,I7,l⟩:=l;exact⟨a,j,I7.unpinned,l⟩
  |ret v=>obtain⟨x7,a,j,I7,r7,l⟩:=l;exact⟨x7,a,j,I7.unpinned,r7,l⟩
end
def gC{K:Af}{xs:List V}{g:TG}{tb:TS}{D:Ends}(b:Nat->St->Hp->Prop)(l:b 0 σ H)(o:∀i σ H,i<=xs.length->b i σ H->SqL K H a xs)(hs:∀i x σ H,xs[i]?=some x->b i σ H->g x σ H fun d H2=>tb {D with nx:=b (i+1),ct:=b (i+1),bk:=D.nx} d H2)(hd:∀σ H,b xs.length σ H->D.nx σ H):∃W:Nat->Nat->St->Hp->Prop,(∃m,W 0 m σ H)/\∀i m σ H,W i m σ H->
   ((dQ K a).stop i H/\D.nx σ H)\/((dQ K a).go i H/\∃N:St->Hp->Prop,(∀f H',N f H'->∃h,h<m/\W (i+1) h f H')/\∀x H',(dQ K a).yld i H x H'->g x σ H' fun d H2=>tb {D with nx:=N,ct:=N,bk:=D.nx} d H2):=by
 refine⟨fun i m σ H=>m=xs.length-i/\i<=xs.length/\b i σ H,⟨xs.length,by simp,AL _,l⟩,?_⟩;rintro i m σ H ⟨rfl,hi,p⟩;have q:=o i σ H hi p
 by_cases c:i<xs.length
 ·refine .inr ⟨⟨xs,xs[i],q,by simp[c]⟩,b (i+1),fun f H' j=>⟨xs.length-(i+1),ω,rfl,c,j⟩,fun x H' y=>?_⟩
  obtain⟨e,y⟩:=y;subst e;exact hs i x σ _ (y xs q) p
 ·have e:i=xs.length:=ω
  subst e;exact .inl ⟨⟨xs,q,Ag _⟩,hd σ H p⟩
def D_{K:Af}{xs:List V}{g:TG}{tb:TS}{D:Ends}(b:Nat->St->Hp->Prop)(l:b 0 σ H)(o:∀i σ H,i<=xs.length->b i σ H->SqT K H a xs)(hs:∀i x σ H,xs[i]?=some x->b i σ H->g x σ H fun d H2=>tb {D with nx:=b (i+1),ct:=b (i+1),bk:=D.nx} d H2)(hd:∀σ H,b xs.length σ H->D.nx σ H):∃W:Nat->Nat->St->Hp->Prop,(∃m,W 0 m σ H)/\∀i m σ H,W i m σ H->
   ((j7 K a).stop i H/\D.nx σ H)\/((j7 K a).go i H/\∃N:St->Hp->Prop,(∀f H',N f H'->∃h,h<m/\W (i+1) h f H')/\∀x H',(j7 K a).yld i H x H'->g x σ H' fun d H2=>tb {D with nx:=N,ct:=N,bk:=D.nx} d H2):=by
 refine⟨fun i m σ H=>m=xs.length-i/\i<=xs.length/\b i σ H,⟨xs.length,by simp,AL _,l⟩,?_⟩;rintro i m σ H ⟨rfl,hi,p⟩;have q:=o i σ H hi p
 by_cases c:i<xs.length
 ·refine .inr ⟨⟨xs,xs[i],q,by simp[c]⟩,b (i+1),fun f H' j=>⟨xs.length-(i+1),ω,rfl,c,j⟩,fun x H' y=>?_⟩
  obtain⟨e,y⟩:=y;subst e;exact hs i x σ _ (y xs q) p
 ·have e:i=xs.length:=ω
  subst e;exact .inl ⟨⟨xs,q,Ag _⟩,hd σ H p⟩
def wR{lo:Int}{n:Nat}{g:TG}{tb:TS}{D:Ends}(b:Nat->St->Hp->Prop)(j:b 0 σ H)(hs:∀i σ H,i<n->b i σ H->g 57#(lo+i) σ H fun c H2=>tb {D with nx:=b (i+1),ct:=b (i+1),bk:=D.nx} c H2)(hd:∀σ H,b n σ H->D.nx σ H):∃W:Nat->Nat->St->Hp->Prop,(∃m,W 0 m σ H)/\∀i m σ H,W i m σ H->
   ((ik lo n).stop i H/\D.nx σ H)\/((ik lo n).go i H/\∃N:St->Hp->Prop,(∀d H',N d H'->∃f,f<m/\W (i+1) f d H')/\∀x H',(ik lo n).yld i H x H'->g x σ H' fun c H2=>tb {D with nx:=N,ct:=N,bk:=D.nx} c H2):=by
 refine⟨fun i m σ H=>m=n-i/\i<=n/\b i σ H,⟨n,by simp,AL _,j⟩,?_⟩;rintro i m σ H ⟨rfl,hi,p⟩
 by_cases a:i<n
 ·refine .inr ⟨a,b (i+1),fun d H' h=>⟨n-(i+1),ω,rfl,a,h⟩,fun x H' y=>?_⟩
  obtain⟨e,y⟩:=y;subst e y;exact hs i σ _ a p
 ·have e:i=n:=ω
  subst e;exact .inl ⟨Ag _,hd σ H p⟩
abbrev R2:=V->V->Hp->VK->Prop
def cw(X:Cx)(f:Value->Value->Sem Value)(r:R2):Prop:=
 ∀(aa:Ψ)(s:Shared)(σ:St)(H:Hp)(x y:V)(v u:Value)(Q:VK),Inv X aa σ H s->RelV x v->RelV y u->r x y H Q->
  wpAny 0#1 X.A (f v u) (EP X aa σ Q) X.xe s
def wT(X:Cx)(f:Value->Sem Value)(r:V->Hp->VK->Prop):Prop:=
 ∀(aa:Ψ)(s:Shared)(σ:St)(H:Hp)(x:V)(v:Value)(Q:VK),Inv X aa σ H s->RelV x v->r x H Q->
  wpAny 0#1 X.A (f v) (EP X aa σ Q) X.xe s
def cP(X:Cx)(f:Value)(r:List V->Hp->VK->Prop):Prop:=
 ∀(aa:Ψ)(s:Shared)(σ:St)(H:Hp)(xs:List V)(us:List Value)(Q:VK),Inv X aa σ H s->Vals xs us->r xs H Q->
  wpAny 0#1 X.A (call f us) (EP X aa σ Q) X.xe s
def bS(r:R2)(ta tb:TE):TE:=fun σ H Q=>ta σ H fun x H1=>tb σ H1 fun y H2=>r x y H2 Q
def wX(r:V->Hp->VK->Prop)(ta:TE):TE:=fun σ H Q=>ta σ H fun x H1=>r x H1 Q
def rI(C:Int->Int->Prop)(g:Int->Int->V):R2:=fun x y H Q=>∃i j,x=.int i/\y=.int j/\C i j/\Q (g i j) H
def fg(g:Int->Int->V):R2:=fun x y H Q=>∃i j,x=.int i/\y=.int j/\Q (g i j) H
def rU(g:Int->V):V->Hp->VK->Prop:=fun x H Q=>∃i,x=.int i/\Q (g i) H
section
variable{X:Cx}{a b c:Expr}{ta tb tc:TE}{pos:Pos}
def j8(ha:PE X a ta)(hb:PE X b tb){s:Shared}{R:V->V->Hp->Prop}(I:Inv X aa σ H s)(h:ta σ H fun x H1=>tb σ H1 fun y H2=>R x y H2){f:Value->Value->Sem Value}(hf:∀v u c x y H2,Inv X aa σ H2 c->RelV x v->RelV y u->R x y H2->wpAny 0#1 X.A (f v u) Q X.xe c):wpAny 0#1 X.A 73#a (fun v d=>wpAny 0#1 X.A 73#b (fun u e=>wpAny 0#1 X.A (f v u) Q X.xe e) X.xe d) X.xe s:=by
 refine aT (ha aa s σ H _ I h) fun v g ⟨x,H1,p,i,j⟩=>?_;refine aT (hb aa g σ H1 _ p j) fun u c ⟨y,H2,q,l,o⟩=>?_;exact hf v u c x y H2 q i l o
def zv(f:cw X (binaryOp op) r)(ha:PE X a ta)(hb:PE X b tb):PE X (.BinOp a op b pos) (bS r ta tb):=by
 intro aa s σ H Q I h;exact wpAny_BinOp (j8 ha hb I h fun v u c x y H2 g d e q=>f aa c σ H2 x y v u Q g d e q)
def xp(e:wT X (unaryOp op) r)(ha:PE X a ta):PE X (.UnaryOp op a pos) (wX r ta):=by
 intro aa s σ H Q I h;exact UnaryOp_ (aT (ha aa s σ H _ I h) fun v b ⟨x,H1,f,c,d⟩=>e aa b σ H1 x v Q f c d)
def qm{f:Value->Value->Sem Value}{C:Int->Int->Prop}{g:Int->Int->Int}(rule:∀(i j:Int)(t u:Tok)(s:Shared)(Q:Ω)(E:Ω),C i j->Q (.int (g i j) s.toks) {s with toks:=s.toks+1}->wpAny 0#1 X.A (f 85#i (.int j u)) Q E s):cw X f (rI C fun i j=>.int (g i j)):=by
 intro aa s σ H x y v u Q I a b h;obtain⟨i,j,rfl,rfl,hc,q⟩:=h;obtain⟨t,rfl⟩:=a;obtain⟨t',rfl⟩:=b;exact rule i j t t' s _ _ hc ⟨.int (g i j),H,I.tok _,⟨_,rfl⟩,q⟩
def nB{f:Value->Value->Sem Value}{g:Int->Int->Int}(rule:∀(i j:Int)(t u:Tok)(s:Shared)(Q:Ω)(E:Ω),Q (.int (g i j) s.toks) {s with toks:=s.toks+1}->wpAny 0#1 X.A (f 85#i (.int j u)) Q E s):cw X f (fg fun i j=>.int (g i j)):=by
 intro aa s σ H x y v u Q I a b h;obtain⟨i,j,rfl,rfl,q⟩:=h;obtain⟨t,rfl⟩:=a;obtain⟨t',rfl⟩:=b;exact rule i j t t' s _ _ ⟨.int (g i j),H,I.tok _,⟨_,rfl⟩,q⟩
def iP{f:Value->Value->Sem Value}{g:Int->Int->Bool}(rule:∀(i j:Int)(t u:Tok)(s:Shared)(Q:Ω)(E:Ω),Q (.bool (g i j)) s->wpAny 0#1 X.A (f 85#i (.int j u)) Q E s):cw X f (fg fun i j=>.bl (g i j)):=by
 intro aa s σ H x y v u Q I a b h;obtain⟨i,j,rfl,rfl,q⟩:=h;obtain⟨t,rfl⟩:=a;obtain⟨t',rfl⟩:=b;exact rule i j t t' s _ _ ⟨.bl (g i j),H,I,rfl,q⟩
def nC(i j:Int):Prop:=0<=j/\j<=1000000/\i.natAbs<2 ^ 64
def CMul(i j:Int):Prop:=(-(2 ^ 64)<i/\i<2 ^ 64)\/(-(2 ^ 64)<j/\j<2 ^ 64)
def CMul.ok(h:CMul i j):IntMulOk i j:=by
 rcases h with ⟨h1,h2⟩|⟨h1,h2⟩
 ·exact .of_left (intBits_le_64 h1 h2)
 ·exact .of_right (intBits_le_64 h1 h2)
def eP:cw X (binaryOp .Add) (fg fun i j=>.int (i+j)):=nB fun _ _ _ _ _ _ _ q=>add_int q
def nD:cw X (binaryOp .Sub) (fg fun i j=>.int (i-j)):=nB fun _ _ _ _ _ _ _ q=>sub_int q
def gF:cw X (binaryOp .Mult) (rI CMul fun i j=>.int (i*j)):=qm fun _ _ _ _ _ _ _ hc q=>mul_int q hc.ok
def il:cw X (binaryOp .Mod) (rI (fun _ j=>0<j) fun i j=>.int (i%j)):=qm fun i j _ _ _ _ _ hc q=>by
 have h1:(0:Int)<j:=hc;exact mod_int' ω (by rw[Int.fmod_eq_emod_of_nonneg i ω];exact q)
def qo:cw X (binaryOp .Pow) (rI nC fun i j=>.int (i ^ j.toNat)):=qm fun _ _ _ _ _ _ _ hc q=>pow_int_small hc.1 hc.2.1 hc.2.2 q
def I_{f:Value->Sem Value}{g:Int->Int}(rule:∀(i:Int)(t:Tok)(s:Shared)(Q:Ω)(E:Ω),Q (.int (g i) s.toks) {s with toks:=s.toks+1}->wpAny 0#1 X.A (f 85#i) Q E s):wT X f (rU fun i=>.int (g i)):=by
 intro aa s σ H x v Q I a h;obtain⟨i,rfl,q⟩:=h;obtain⟨t,rfl⟩:=a;exact rule i t s _ _ ⟨.int (g i),H,I.tok _,⟨_,rfl⟩,q⟩
def xB:wT X (unaryOp .USub) (rU fun i=>.int (-i)):=I_ fun _ _ _ _ _ q=>neg_int q
end
noncomputable def nF:V->V->Bool
 |.non,.non=>true|.non,.int _=>true|.int _,.non=>true|.non,.bl _=>true|.bl _,.non=>true|.non,.str _=>true|.str _,.non=>true
 |.int _,.int _=>true|.bl _,.bl _=>true|.str _,.str _=>true|.byt _,.byt _=>true
 |.int _,.str _=>true|.str _,.int _=>true|.bl _,.str _=>true|.str _,.bl _=>true
 |_,_=>false
def xJ:R2:=fun x y H Q=>nF x y=true/\Q (.bl (decide (x=y))) H
def Ja:R2:=fun x y H Q=>nF x y=true/\Q (.bl (!decide (x=y))) H
def Ea:decide (V.int i=V.int j)=(i==j):=by
 rw[Ra];simp
def gN:decide (V.bl i=V.bl j)=(i==j):=by
 rw[Ra];simp
def Eb:decide (V.str i=V.str j)=(i==j):=by
 rw[Ra];simp
def Ec:decide (V.byt i=V.byt j)=(i.toList==j.toList):=by
 rw[Ra];cases i;cases j;simp
section
variable{X:Cx}{a b c:Expr}{ta tb tc:TE}{pos:Pos}
def aI{s:Shared}{Q:VK}{k a:Bool}(I:Inv X aa σ H s)(q:Q (.bl k) H)(e:k=a):EP X aa σ Q (.bool a) s:=by
 subst e;exact⟨.bl k,H,I,rfl,q⟩
def lV:cw X (Bz .Eq) xJ:=by
 intro aa s σ H x y v u Q I b a h;obtain⟨hs,q⟩:=h;cases x with
 |non=>
  cases b;cases y with
  |non=>cases a;exact PySem.EqNone.eq_none_none 2#13
  |bl j=>cases a;exact PySem.EqNone.eq_none_bool 2#13
  |int j=>obtain⟨t',rfl⟩:=a;exact PySem.EqNone.eq_none_int 2#13
  |str j=>obtain⟨t',rfl⟩:=a;exact PySem.EqNone.eq_none_str 2#13
  |_=>exact absurd 54#hs Ax
 |bl i=>
  cases b;cases y with
  |non=>cases a;exact PySem.EqNone.eq_bool_none 2#13
  |bl j=>cases a;exact eq_bool (aI I q gN)
  |str j=>obtain⟨t',rfl⟩:=a;exact PySem.EqMixed.eq_bool_str 2#13
  |_=>exact absurd 54#hs Ax
 |int i=>
  obtain⟨t,rfl⟩:=b;cases y with
  |non=>cases a;exact PySem.EqNone.eq_int_none 2#13
  |int j=>obtain⟨t',rfl⟩:=a;exact eq_int (aI I q Ea)
  |str j=>obtain⟨t',rfl⟩:=a;exact PySem.EqMixed.eq_int_str 2#13
  |_=>exact absurd 54#hs Ax
 |str i=>
  obtain⟨t,rfl⟩:=b;cases y with
  |non=>cases a;exact PySem.EqNone.eq_str_none 2#13
  |bl j=>cases a;exact PySem.EqMixed.eq_str_bool 2#13
  |int j=>obtain⟨t',rfl⟩:=a;exact PySem.EqMixed.eq_str_int 2#13
  |str j=>obtain⟨t',rfl⟩:=a;exact eq_str (aI I q Eb)
  |_=>exact absurd 54#hs Ax
 |byt i=>
  obtain⟨t,rfl⟩:=b;cases y with
  |byt j=>obtain⟨t',rfl⟩:=a;exact PySem.W.eq_bytes (aI I q Ec)
  |_=>exact absurd 54#hs Ax
 |_=>cases y<;>exact absurd 54#hs Ax
def qp:cw X (Bz .NotEq) Ja:=by
 intro aa s σ H x y v u Q I b a h;obtain⟨hs,q⟩:=h;cases x with
 |non=>
  cases b;cases y with
  |non=>cases a;exact PySem.EqNone.ne_none_none 2#13
  |bl j=>cases a;exact PySem.EqNone.ne_none_bool 2#13
  |int j=>obtain⟨t',rfl⟩:=a;exact PySem.EqNone.ne_none_int 2#13
  |str j=>obtain⟨t',rfl⟩:=a;exact PySem.EqNone.ne_none_str 2#13
  |_=>exact absurd 54#hs Ax
 |bl i=>
  cases b;cases y with
  |non=>cases a;exact PySem.EqNone.ne_bool_none 2#13
  |bl j=>cases a;exact ne_bool (aI I q (congrArg not gN))
  |str j=>obtain⟨t',rfl⟩:=a;exact PySem.EqMixed.ne_bool_str 2#13
  |_=>exact absurd 54#hs Ax
 |int i=>
  obtain⟨t,rfl⟩:=b;cases y with
  |non=>cases a;exact PySem.EqNone.ne_int_none 2#13
  |int j=>obtain⟨t',rfl⟩:=a;exact ne_int (aI I q (congrArg not Ea))
  |str j=>obtain⟨t',rfl⟩:=a;exact PySem.EqMixed.ne_int_str 2#13
  |_=>exact absurd 54#hs Ax
 |str i=>
  obtain⟨t,rfl⟩:=b;cases y with
  |non=>cases a;exact PySem.EqNone.ne_str_none 2#13
  |bl j=>cases a;exact PySem.EqMixed.ne_str_bool 2#13
  |int j=>obtain⟨t',rfl⟩:=a;exact PySem.EqMixed.ne_str_int 2#13
  |str j=>obtain⟨t',rfl⟩:=a;exact ne_str (aI I q (congrArg not Eb))
  |_=>exact absurd 54#hs Ax
 |byt i=>
  obtain⟨t,rfl⟩:=b;cases y with
  |byt j=>obtain⟨t',rfl⟩:=a;exact PySem.W.ne_bytes (aI I q (congrArg not Ec))
  |_=>exact absurd 54#hs Ax
 |_=>cases y<;>exact absurd 54#hs Ax
def qq:cw X (Bz .Lt) (fg fun i j=>.bl (decide (i<j))):=iP fun _ _ _ _ _ _ _ q=>lt_int q
def qt:cw X (Bz .LtE) (fg fun i j=>.bl (decide (i<=j))):=iP fun _ _ _ _ _ _ _ q=>le_int q
def nI:cw X (Bz .Gt) (fg fun i j=>.bl (decide (j<i))):=iP fun _ _ _ _ _ _ _ q=>gt_int q
def Jb:cw X (Bz .GtE) (fg fun i j=>.bl (decide (j<=i))):=iP fun _ _ _ _ _ _ _ q=>ge_int q
def ka:cw X (Bz .Is) (fun x y H Q=>y=.non/\Q (.bl (decide (x=.non))) H):=by
 intro aa s σ H x y v u Q I a b h;obtain⟨rfl,q⟩:=h;cases b;refine is_none_gen (aI I q ?_);cases x<;>first
  |(cases a;rfl)
  |(obtain⟨t,rfl⟩:=a;rfl)
def ay(b:Expr){op:CmpOp}(h:op≠.In:=by decide)(h2:op≠.NotIn:=by decide):behindInMarks op b=false:=by
 have e1:(op==CmpOp.In)=false:=by cases op<;>first|rfl|exact absurd rfl h
 have e2:(op==CmpOp.NotIn)=false:=by cases op<;>first|rfl|exact absurd rfl h2
 cases b<;>simp[behindInMarks,e1,e2]
def nJ(f:cw X (Bz op) r)(ha:PE X a ta)(hb:PE X b tb)(hm:behindInMarks op b=false):PE X (.Compare a [op] [b] pos) (bS r ta tb):=by
 intro aa s σ H Q I h;exact wpAny_Compare1 (j8 ha hb I h fun v u c x y H2 g d e q=>f aa c σ H2 x y v u Q g d e q) hm
def iQ(t:TE):TT:=fun σ H Q=>t σ H fun x H'=>∃k,x=.bl k/\Q k H'
def zq(q:cw X (Bz op) r)(ha:PE X a ta)(hb:PE X b tb)(hm:behindInMarks op b=false):PT X (.Compare a [op] [b] pos) (iQ (bS r ta tb)):=by
 intro aa s σ H Q I h;refine wpAny_isTrue_Compare1 (aT (ha aa s σ H _ I h) fun v d ⟨x,H1,w,f,g⟩=>aT (hb aa d σ H1 _ w g) fun u i ⟨y,H2,A,j,l⟩=>
  aT (q aa i σ H2 x y v u _ A f j l) fun c E ⟨z,C,D,o,k,e,p⟩=>?_) hm
 subst e;cases o;exact wpAny_truthy_bool ⟨C,D,p⟩
def Jc(r c:R2)(ta tb tc:TE):TE:=fun σ H Q=>ta σ H fun x H1=>tb σ H1 fun y H2=>r x y H2 fun z a=>∃k,z=.bl k/\
 (if k=true then tc σ a fun b d=>c y b d Q else Q (.bl false) a)
def Jd(S:cw X (Bz op) r)(g:cw X (Bz f) l)(ha:PE X a ta)(hb:PE X b tb)(hc:PE X c tc)(hm:lastMarks [op,f] [b,c]=false:=by with_unfolding_all rfl):PT X (.Compare a [op,f] [b,c] pos) (iQ (Jc r l ta tb tc)):=by
 intro aa s σ H Q I h;refine isTrue_chain (aT (ha aa s σ H _ I h) fun v q ⟨x,H1,T,w,A⟩=>test_link (aT (hb aa q σ H1 _ T A) fun u C ⟨y,H2,U,i,D⟩=>
  aT (S aa C σ H2 x y v u _ U w i D) fun d E ⟨z,o,p,F,k,e,j⟩=>?_)) hm
 subst e;cases F;refine wpAny_truthy_bool ?_;cases k with
 |false=>
  obtain⟨k',e',P⟩:=j;cases e';exact ite_ff ⟨o,p,P⟩
 |true=>
  refine ite_tt (test_last (aT (hc aa E σ o _ p j) fun G J ⟨L,W,Y,M,q4⟩=>aT (g aa J σ W y L u G _ Y i M q4) fun d' s5 ⟨z2,H5,I5,N,k2,e2,O⟩=>?_));subst e2;cases N;exact wpAny_truthy_bool ⟨H5,I5,O⟩
def dS:(sizeLine:Nat)<2 ^ 63:=by rw[Bp];decide
def vals1{x:V}(r:Vals [x] us):∃u,us=[u]/\RelV x u:=by
 cases r with
 |cons r1 r2=>cases r2;exact⟨_,rfl,r1⟩
def vals2{x y:V}(r:Vals [x,y] us):∃u a,us=[u,a]/\RelV x u/\RelV y a:=by
 cases r with
 |cons r1 r2=>
  cases r2 with
  |cons r3 r4=>cases r4;exact⟨_,_,rfl,r1,r3⟩
end
structure ObjM(h:Heap)(x dx C:Addr)(mA:Str->Option Value):Prop where
 obj:h.get? x=some (Tx C dx)
 ns:h.Ns1 dx mA
 ne:dx≠x
def Je{h:Heap}(n:h.Ns1 dx mA):∃b,h.get? dx=some b/\∀name,TC name b=some (mA name):=by
 obtain⟨o,es,ep,c,hd,hk,_,hm⟩:=n;refine⟨o,c,fun name=>?_⟩;have e:=hm name;unfold nsFind findBy at e;rw[<-Array.find?_toList] at e;unfold TC;rw[hd];dsimp only;split
 ·rename_i y q
  rw[q] at e;exact congrArg some e
 ·rename_i q
  rw[q] at e;have a:es.toList.any (·.refKey)=false:=by
   rw[Su];intro y hy;obtain⟨z,t,d⟩:=hk y (Array.mem_toList_iff.mp hy);simp[DictEntry.refKey,d]
  have f:¬es.toList.any (·.refKey)=true:=by rw[a];exact Ax
  rw[TJ f];exact congrArg some e
def ObjM.look(I:ObjM h x dx C mA):∃a,PySem.W.InstAt h x (Tx C dx) C 55#a/\∀name,TC name a=some (mA name):=
 let ⟨a,ho,hl⟩:=Je I.ns
 ⟨a,⟨I.obj,rfl,rfl,ho⟩,hl⟩
def RelO.some_of(r:RelO 55#v o):∃u,o=some u/\RelV v u:=by
 cases o with
 |none=>exact(show False from r).elim
 |some u=>exact⟨u,rfl,r⟩
section
variable{P:Program}{w:World}{H H':Hp}{h h':Heap}{a C dx:Addr}{fs wZ:List (Str×V)}
def fj(b:HOk P w H h)(e:H a=some (.ins C dx fs)):∃mA,ObjM h a dx C mA/\(∀f,RelO (fs.lookup f) (mA f))/\PySem.Within mA (fs.map 2#3)/\fs.length<=1000/\H dx=some (.own a):=by
 obtain⟨d,z,ne,ob,mA,n,r,q⟩:=(show zr P w H h a (.ins C dx fs) from b a _ e);exact⟨mA,⟨ob,n,ne⟩,r,q,z,d⟩
end
structure Cls(K:Af)(C:Addr):Prop where
 pg:PySem.W.plainGet K C Str.empty=true
 hd:PySem.W.hasDictIn K C=true
 po:PySem.W.plainOver K C=true
 sa:PySem.W.findIn K 5#C "__setattr__"=some 55#(.builtin "object.__setattr__")
def Cls.get{K:Af}(c:Cls K C)(f:Str):PySem.W.plainGet K C f=true:=c.pg
section
variable{X:Cx}{aa:Ψ}{σ:St}{H:Hp}{s:Shared}{A:Around}{E:Ω}{Q:Ω}{c:Value}{b:Bool}
inductive c8(K:Af)(H:Hp):V->Value->Prop where
 |non:c8 K H .non (.type "NoneType")
 |bl (x:Bool):c8 K H (.bl x) (.type "bool")
 |int (i:Int):c8 K H 57#i (.type "int")
 |str (x:Str):c8 K H (.str x) (.type "str")
 |flt (x:UInt64):c8 K H (.flt x) (.type "float")
 |lst {a:Addr} {xs:List V} (e:H a=some 8#xs):c8 K H 5#a (.type "list")
 |frz {a:Addr} {o:Obj} {xs:List V} (e:H a=some (.frz o 8#xs)):c8 K H 5#a (.type "list")
 |tup {a:Addr} {xs:List V} (e:H a=some 52#xs):c8 K H 5#a (.type "tuple")
 |dK {a:Addr} {kvs:List (Key×V)} (e:H a=some (.dK kvs)):c8 K H 5#a 2#18
 |dT {a:Addr} {kvs:List 4#6} (e:H a=some 51#kvs):c8 K H 5#a 2#18
 |ins {a C dx:Addr} {fs:List (Str×V)} (e:H a=some (.ins C dx fs)) (cl:Cls K C) (ha:PySem.W.findIn K 5#C "__class__"=some 55#(.builtin "object.__class__"))
   (hn:PySem.W.specialIn K (.builtin "object.__class__") "__get__"=some 55#(.builtin "getset_descriptor.__get__")) (ki:PySem.W.takesIn K (.builtin "object.__class__")=some true)
   (hm:PySem.W.mroIn K C (.type "object")=some true):c8 K H 5#a 5#C
def Jf{u t:Value}(I:Inv X aa σ H s)(d:RelV x u)(ty:c8 X.K H x t)(e:PySem.W.kitOne X.K t c=some b)(h:∀tk,Q (.bool b) {s with toks:=tk}):wpAny 0#1 A (call (.builtin "isinstance") [u,c]) Q E s:=by
 cases ty with
 |non=>cases(show u=Value.none from d);exact QK PySem.W.kitx_none I.kIn True.intro e 0#12 h
 |bl y=>cases(show u=Value.bool y from d);exact QK PySem.W.kitx_bool I.kIn True.intro e 0#12 h
 |int i=>obtain⟨t,q⟩:=(show ∃t,u=Value.int i t from d);cases q;exact QK PySem.W.kitx_int I.kIn True.intro e 0#12 h
 |str y=>obtain⟨t,q⟩:=(show ∃t,u=Value.str y t from d);cases q;exact QK PySem.W.kitx_str I.kIn True.intro e 0#12 h
 |flt y=>obtain⟨t,q⟩:=(show ∃t,u=Value.float y t from d);cases q;exact QK PySem.W.kitx_float I.kIn True.intro e 0#12 h
 |@lst a xs ea=>
  cases(show u=Value.ref a from d);obtain⟨_,_,n,_,h1⟩:=(show zr X.prog X.w H s.heap a 8#xs from I.hok a _ ea);exact QK PySem.W.kitx_list I.kIn ⟨_,h1,rfl⟩ e 0#12 h
 |@frz a ob xs ea=>
  cases(show u=Value.ref a from d);obtain⟨_,_,_,n,_,h1⟩:=(show zr X.prog X.w H s.heap a (.frz ob 8#xs) from I.hok a _ ea);exact QK PySem.W.kitx_list I.kIn ⟨_,h1,rfl⟩ e 0#12 h
 |@tup a xs ea=>
  cases(show u=Value.ref a from d);obtain⟨_,_,_,p⟩:=(show zr X.prog X.w H s.heap a 52#xs from I.hok a _ ea);obtain⟨o,h1,h2,_⟩:=p;exact QK PySem.W.kitx_tuple I.kIn ⟨o,h1,h2⟩ e 0#12 h
 |@dK a kvs ea=>
  cases(show u=Value.ref a from d);obtain⟨_,_,vs,_,p⟩:=(show zr X.prog X.w H s.heap a (.dK kvs) from I.hok a _ ea);obtain⟨o,es,ep,h1,h2,_⟩:=p;exact QK PySem.W.kitx_dict I.kIn ⟨o,h1,h2.1⟩ e 0#12 h
 |@dT a kvs ea=>
  cases(show u=Value.ref a from d);obtain⟨_,_,xs,_,o,es,ep,h1,h2,_⟩:=(show zr X.prog X.w H s.heap a 51#kvs from I.hok a _ ea);exact QK PySem.W.kitx_dict I.kIn ⟨o,h1,h2.1⟩ e 0#12 h
 |@ins a C dx fs ea cl ha hn ki hm=>
  cases(show u=Value.ref a from d);obtain⟨mA,O,_⟩:=fj I.hok ea;obtain⟨f,J,_⟩:=O.look;exact QK (PySem.W.kitx_own (cl.get _) cl.hd ha hn ki hm) I.kIn J e 0#12 h
end
structure Room(k:Nat)(A:Around):Prop where
 hd:A.handled=none
 dp:A.depth+3*k+5<recursionLimit
 un:A.units+16*k+200<cLine
def Room.mono{j k:Nat}(r:Room k A)(h:j<=k):Room j A:=⟨r.hd,by have:=r.dp;lia,by have:=r.un;lia⟩
def Room.deeper{k:Nat}(r:Room (k+1) A)(env:Env):Room k (A.deeper env):=
 ⟨r.hd,by have:=r.dp;show A.depth+1+3*k+5<_;lia,by have:=r.un;show A.units+3+16*k+200<_;lia⟩
def Room.in1{k:Nat}(r:Room (k+1) A):Room k A.in1:=
 ⟨r.hd,by have:=r.dp;show A.depth+3*k+5<_;lia,by have:=r.un;show A.units+1+16*k+200<_;lia⟩
def Room.depth{k:Nat}(r:Room k A):A.depth<recursionLimit:=by have:=r.dp;lia
def Room.units{k:Nat}(r:Room k A):A.units+64<cLine:=by have:=r.un;lia
def bw:TA:=fun _ H Q=>Q [] H
def zK(ta:TE)(a:TA):TA:=fun σ H Q=>ta σ H fun x H1=>a σ H1 fun xs H2=>Q (x::xs) H2
section
variable{X:Cx}{e:Expr}{es:List Expr}{te:TE}{t:TA}{pos:Pos}
def zb:PA X [] bw:=fun _ _ _ _ H Q I h=>Calls.spliced_nil ⟨[],H,I,.nil,h⟩
def za(ha:PE X e te)(hr:PA X es t)(hs:starEach (e::es) X.env=60#e::starEach es X.env:=by rfl):PA X (e::es) (zK te t):=by
 intro pos aa s σ H Q I h;rw[hs];show wpAny _ _ (spliced (60#e::backTo pos (starEach es X.env))) _ _ s;refine Calls.spliced_cons (aT (ha aa s σ H _ I h) fun u a ⟨x,H1,g,b,c⟩=>?_);exact aT (hr pos aa a σ H1 _ g c) fun us j ⟨xs,H2,i,d,f⟩=>⟨x::xs,H2,i,.cons b d,f⟩
def cy(t:TA):TE:=fun σ H Q=>t σ H fun xs H1=>xs.length<=sizeLine/\∀p,H1 p=none->Q 5#p (upd H1 p 52#xs)
def nN(t:TA):TE:=fun σ H Q=>t σ H fun xs H1=>xs.length<=sizeLine/\∀p,H1 p=none->Q 5#p (upd H1 p 8#xs)
def zQ{x1}(h:PA X es t):PE X (.Tuple es x1 pos) (cy t):=by
 intro aa s σ H Q I hq;refine wpAny_Tuple_spliced (aT (h pos aa s σ H _ I hq) fun us a ⟨xs,H1,I1,r,z,q⟩=>⟨by rw[<-r.length];exact z,?_⟩);have hf:H1 a⁻¹=none:=I1.hok.fresh 0#10;refine⟨.ref a⁻¹,upd H1 a⁻¹ 52#xs,I1.laid (t':=a.toks) (fun b u e=>Ad _ e) 0#10 ?_,rfl,q _ hf⟩;exact⟨z,us,r,⟨_,Al _ rfl,rfl,_,rfl⟩⟩
def zW(h:PA X es t):PE X (.List es pos) (nN t):=by
 intro aa s σ H Q I hq;refine wpAny_List_spliced (aT (h pos aa s σ H _ I hq) fun us a ⟨xs,H1,I1,r,z,q⟩=>⟨by rw[<-r.length];exact z,?_⟩);have hf:H1 a⁻¹=none:=I1.hok.fresh 0#10;refine⟨.ref a⁻¹,upd H1 a⁻¹ 8#xs,I1.laid (t':=a.toks) (fun b u e=>Ad _ e) 0#10 ?_,rfl,q _ hf⟩;exact⟨z,us,0,r,Al _ rfl⟩
end
abbrev Sp:=List V->Hp->VK->XK->Prop
abbrev fr:=List Env->Hp->Shared->XK->Ω
structure Env0(P:Program)(w:World)(K:Af)(mg:Str->Option Value)(base:Heap)(A:Around)(outer:List Env)(s:Shared)(H:Hp):Prop where
 frames:A.frames=some outer
 mod:Mod K mg base
 bs:∀b o,base.get? b=some o->s.heap.get? b=some o/\H b=none
 bsz:base.objs.size<=s⁻¹
 funs:s.heap.FunFrames base outer
 frf:∀b∈frs outer,H b=none
 hok:HOk P w H s.heap
 bare:AllBare s.gens
def CE(outer:List Env)(P:Program)(w:World)(H:Hp)(s:Shared)(Q:VK)(u:Value)(s':Shared):Prop:=
 ∃v H',s'.os=s.os/\AllBare s'.gens/\Un (frs outer) [] H H' s.heap s'.heap/\HOk P w H' s'.heap/\RelV v u/\Q v H'
def CR(CX:fr)(outer:List Env)(P:Program)(w:World)(H:Hp)(s:Shared)(Q:VK)(E:XK)(r:Result)(s':Shared):Prop:=
 match r with
 |.ok (.ret u)=>CE outer P w H s Q u s'
 |.ok _=>False
 |.error e=>CX outer H s E e s'
structure az(P:Program)(w:World)(K:Af)(mg:Str->Option Value)(base:Heap)(CX:fr)(k:Nat)(f:Addr)(fd:FuncData)(ps:List Str)(sp:Sp):Prop where
 len:∀vs H Q E,sp vs H Q E->vs.length=ps.length
 run:∀(A:Around)(outer:List Env)(s:Shared)(H:Hp)(args:Args)(us:List Value)(vs:List V)(Q:VK)(E:XK),Room k A->Env0 P w K mg base A outer s H->BindsTo s fd args (ps.zip us)->Vals vs us->sp vs H Q E->
  codeAny (model P w) A (.call 5#f args) (CR CX outer P w H s Q E) s
def Env0.in1{K:Af}{s:Shared}(e:Env0 P w K mg base A outer s H):Env0 P w K mg base A.in1 outer s H:=⟨e.frames,e.mod,e.bs,e.bsz,e.funs,e.frf,e.hok,e.bare⟩
section
variable{X:Cx}{aa:Ψ}{σ:St}{H:Hp}{s s':Shared}
def Inv.env0(I:Inv X aa σ H s):Env0 X.prog X.w X.K X.mg X.base X.A X.stack s H:=
 ⟨I.ok.frames,I.ok.mod,I.bs,AG I.ok.bsz I.sz,I.stack,I.stkFree,I.hok,I.bare⟩
def Inv.after(I:Inv X aa σ H s)(h:CE X.stack X.prog X.w H s Q u s'):EP X aa σ Q u s':=by
 obtain⟨v,H',os,a,un,c,r,q⟩:=h;obtain⟨e,g,d,t,f⟩:=s';obtain rfl:f=s.os:=os;exact⟨v,H',I.call (h':=e) (g':=g) (d':=d) (t':=t) (ch:=[]) un c a (fun b z=>absurd z 2#0),r,q⟩
end
def qu(sp:Sp)(gj:List V)(E:XK)(t:TA):TE:=fun σ H Q=>t σ H fun vs H1=>sp (vs++gj) H1 Q E
def Binds(K:Af)(fd:FuncData)(ps:List Str)(ds:List Value):Prop:=
 ∀(s:Shared)(us:List Value),K.In s.heap->(us++ds).length=ps.length->BindsTo s fd ⟨us,[]⟩ (ps.zip (us++ds))
def Binds.all{K:Af}{ps:List Str}(h:∀us:List Value,us.length=ps.length->bindArgs fd ⟨us,[]⟩=pure (ps.zip us)):Binds K fd ps []:=fun s us _ a=>by
 rw[Ro] at a ⊢;exact .of_eq (h us a)
def dU(CX:fr)(X:Cx)(E:XK):Prop:=∀(aa:Ψ)(σ:St)(H:Hp)(s:Shared)(e:Value)(s':Shared),Inv X aa σ H s->CX X.stack H s E e s'->X.xe e s'
section
variable{X:Cx}{CX:fr}{k:Nat}{f C:Addr}{fd:FuncData}{ps:List Str}{sp:Sp}{gj:List V}{ds:List Value}{E:XK}{x m:Str}{p pos bc:Pos}{e o:Expr}{es:List Expr}{ta:TE}{t:TA}
def Jg{s:Shared}(F:az X.prog X.w X.K X.mg X.base CX k f fd ps sp)(hr:Room k X.A)(hb:Binds X.K fd ps ds)(hd:Vals gj ds)(hx:dU CX X E)(I:Inv X aa σ H s)(r:Vals vs us)(h:sp (vs++gj) H Q E):wpAny 0#1 X.A (call 5#f us) (EP X aa σ Q) X.xe s:=by
 have a:Vals (vs++gj) (us++ds):=r.append hd;have b:(us++ds).length=ps.length:=by rw[<-a.length];exact F.len _ _ _ _ h
 refine wpAny_call (Bx (F.run X.A X.stack s H ⟨us,[]⟩ (us++ds) (vs++gj) Q E hr I.env0 (hb s us I.kIn b) a h) fun r s' hq=>?_);cases r with
 |error e=>exact hx aa σ H s e s' I hq
 |ok fl=>
  cases fl with
  |ret u=>exact I.after hq
  |next=>exact False.elim hq
  |brk=>exact False.elim hq
  |cont=>exact False.elim hq
def zI(F:az X.prog X.w X.K X.mg X.base CX k f fd ps sp)(hr:Room k X.A)(b:Gl X x)(hm:X.mg x=some 5#f)(hk:Sv X.K 5#f=true)(hb:Binds X.K fd ps ds)(hd:Vals gj ds)(hx:dU CX X E)(ha:PA X (e::es) t)(c:0#14=false:=by decide)(he:starEach (e::es) X.env=60#e::starEach es X.env:=by rfl)(a:(77#pos).any 2#3=false:=by rfl):PE X (.Call (.Name x p) (e::es) [] pos) (qu sp gj E t):=by
 intro aa s σ H Q I h;refine wpAny_Call_Name_kw (p9 I b hm ?_ c);refine PySem.W.callWith_K (h₀:=X.base) I.ok.mod.kin hk (aT 1#12 fun us d ⟨vs,H1,I1,r,q⟩=>⟨I1.kIn,?_⟩) he a;exact Jg F hr hb hd hx I1 r q
end
structure zj(N P:List Str)(sc:Scope):Prop where
 kind:sc.kind=.function
 co:sc.isCoroutine=false
 gen:sc.isGenerator=false
 nd:N.Nodup
 pre:N.take P.length=P
 par:∀x∈P,sc.names.lookup x=some .local\/sc.names.lookup x=some .cell
 nofree:∀y∈sc.names,y.2≠.free
def Ed{kindOf:Str->Option NameKind}{x:Str}:∀{binds:List (Str×Value)}{m:Str->Option Value},(∀v,(x,v)∉binds)->bindL kindOf binds m x=m x
 |[],_,_=>rfl
 |(n,v)::r,m,h=>by
  unfold bindL;rw[Ed fun w hw=>h w (Ar _ hw)];split
  ·have:x≠n:=by rintro rfl;exact h v Av
   simp[this]
  ·rfl
def Ee{kindOf:Str->Option NameKind}{x:Str}:∀{binds:List (Str×Value)}{m:Str->Option Value},(∀v,(x,v)∉binds)->bindC kindOf binds m x=m x
 |[],_,_=>rfl
 |(n,v)::r,m,h=>by
  unfold bindC;rw[Ee fun w hw=>h w (Ar _ hw)];split
  ·rfl
  ·have:x≠n:=by rintro rfl;exact h v Av
   simp[this]
def Ef{kindOf:Str->Option NameKind}:∀{P:List Str}{vs:List Value}{i:Nat}{m:Str->Option Value},P.Nodup->P[i]?=some x->vs[i]?=some v->kindOf x=some .local->
  bindL kindOf (P.zip vs) m x=some v
 |[],_,_,_,_,h,_,_=>by simp at h
 |_::_,[],_,_,_,_,h,_=>by simp at h
 |p::P,w::vs,0,m,nd,h1,h2,hk=>by
  simp at h1 h2;subst h1;subst h2;show bindL kindOf ((p,w)::P.zip vs) m p=_;unfold bindL;rw[Ed fun v a=>(Qo.mp nd).1 (RF a).1,TH hk];simp
 |p::P,w::vs,i+1,m,nd,h1,h2,hk=>by
  show bindL kindOf ((p,w)::P.zip vs) m x=_;unfold bindL;exact Ef (i:=i) (Qo.mp nd).2 6#h1 6#h2 hk
def Eg{kindOf:Str->Option NameKind}:∀{P:List Str}{vs:List Value}{i:Nat}{m:Str->Option Value},P.Nodup->P[i]?=some x->vs[i]?=some v->kindOf x≠some .local->
  bindC kindOf (P.zip vs) m x=some v
 |[],_,_,_,_,h,_,_=>by simp at h
 |_::_,[],_,_,_,_,h,_=>by simp at h
 |p::P,w::vs,0,m,nd,h1,h2,hk=>by
  simp at h1 h2;subst h1;subst h2;show bindC kindOf ((p,w)::P.zip vs) m p=_;unfold bindC;rw[Ee fun v a=>(Qo.mp nd).1 (RF a).1,TJ hk];simp
 |p::P,w::vs,i+1,m,nd,h1,h2,hk=>by
  show bindC kindOf ((p,w)::P.zip vs) m x=_;unfold bindC;exact Eg (i:=i) (Qo.mp nd).2 6#h1 6#h2 hk
noncomputable def start(N:List Str)(vs:List V):St:=vs.map some++List.replicate (N.length-vs.length) none
noncomputable def dL(CX:fr)(P:Program)(w:World)(K:Af)(mg:Str->Option Value)(base:Heap)(N:List Str)(a:Str)(scope:Scope)(f:Addr)(b:Value)(A:Around)(outer:List Env)(s:Shared)(H:Hp)(E:XK):Cx where
 prog:=P
 w:=w
 K:=K
 mg:=mg
 base:=base
 A:=A.deeper (envOfC a scope s⁻¹ f b)
 N:=N
 s₀:=s
 H₀:=H
 env:=envOfC a scope s⁻¹ f b
 outer:=outer
 stack:=envOfC a scope s⁻¹ f b::outer
 ex:=[]
 calm:=true
 fn:=fun _=>true
 pn:=[]
 xe:=fun e s'=>wpAny (model P w) (A.deeper (envOfC a scope s⁻¹ f b)) (leaving (envOfC a scope s⁻¹ f b) e) (fun _ c=>CX outer H s E e c) (fun e' c=>CX outer H s E e' c) s'
def Eh{sc:Scope}{n:Nat}(h:sc.names.lookup x=some .cell):∃c,(cellsFrom n sc.names []).lookup x=some c:=by
 have q:=Rt sc.names n [] 74#h;exact Rj.mp q
def Jh{K:Af}{A:Around}{s C:Shared}{vs:List V}(S:zj N ps scope)(hd:A.handled=none)(d:Env0 P w K mg base A outer s H)(I:vs.length=ps.length)(r:Vals vs us)(x:InCallC s s⁻¹ (bindL (envOfC l scope s⁻¹ f o).kindOf (ps.zip us) fun _=>none) (cellsFrom (s⁻¹+1) scope.names []) (bindC (envOfC l scope s⁻¹ f o).kindOf (ps.zip us) fun _=>none) C):Inv (dL CX P w K mg base N l scope f o A outer s H E) [] (start N vs) H C:=by
 have F:ps.length<=N.length:=by have:=congrArg List.length S.pre;rw[AE] at this;lia
 obtain⟨h1,tk,rfl,hk⟩:=x.done;have g:∀b:Addr,b∉(dL CX P w K mg base N l scope f o A outer s H E).ex:=fun b z=>absurd (show b∈([]:List Addr) from z) 2#0;refine⟨⟨d.mod,S.kind,rfl,rfl,Ag _,fun y z c h1 h2=>?_,fun y hy=>?_,fun y c _ h=>?_,fun _=>hd,Around.frames_deeper d.frames,.inr ⟨rfl,rfl⟩,fun b z=>absurd z (g b),d.bs,d.bsz,fun b _ _=>g b,fun b z=>absurd z (g b),d.funs,d.frf⟩,
  rfl,d.bare,Un.kept hk,⟨_,x.toInCall.ns,fun i y v h1 h2 G=>?_⟩,fun y c h=>⟨_,x.cell y c h⟩,d.hok.fresh 0#10,fun y c h=>?_,fun p hp=>absurd (show p∈([]:Ψ) from hp) 2#0,d.hok.kept hk,?_⟩
 ·exact name_of_addr x.apart (Bo h1) (Bo h2)
 ·have hy:scope.names.lookup y=some .cell\/scope.names.lookup y=some .free:=hy
  rcases hy with hy|hy
  ·exact Eh hy
  ·exact absurd rfl (S.nofree _ (Bo hy))
 ·exact QY (x.above y c (Bo h))
 ·have hi:i<vs.length:=by
   unfold start at h2
   by_cases hi:i<vs.length
   ·exact hi
   ·rw[QF 6#hi] at h2
    rw[List.getElem?_replicate] at h2;split at h2<;>cases h2
  have ha:vs[i]?=some v:=by
   unfold start at h2;rw[QP 6#hi,Ah] at h2;cases e:vs[i]? with
   |none=>rw[e] at h2;cases h2
   |some a=>rw[e] at h2;cases h2;rfl
  obtain⟨u,hu,D⟩:=r.get ha;have hp:ps[i]?=some y:=by
   rw[<-S.pre,QU ω];exact h1
  have j:ps.Nodup:=by rw[<-S.pre];exact S.nd.sublist (List.take_sublist _ _)
  refine⟨u,D,?_⟩;rcases S.par y (Ak hp) with k|k
  ·exact .inl ⟨k,Ef j hp hu k⟩
  ·obtain⟨c,e⟩:=Eh (n:=s⁻¹+1) k
   refine .inr ⟨.inl k,c,e,?_⟩;have q:=x.cell y c e;rw[Eg j hp hu (by show scope.names.lookup y≠_;rw[k];decide)] at q;exact q
 ·exact d.hok.fresh (QY (x.above y c (Bo h)))
 ·unfold start
  show _=N.length;rw[Az,Ab,List.length_replicate];lia
def Ei{CX:fr}{P:Program}{w:World}{K:Af}{mg:Str->Option Value}{base:Heap}{k:Nat}{i kV j l cdv ct U:Value}{p X:Option Addr}{G:Array 66#Value}{sp:Sp}(lk:K.lookup f=some ⟨U,X,.func (RR name a h body scope i kV j l p cdv ct),G⟩)(L:SW K cdv a=true)(S:zj N ps scope)(len:∀vs H Q E,sp vs H Q E->vs.length=ps.length)(Y:∀(A:Around)(outer:List Env)(s:Shared)(H:Hp)(vs:List V)(Q:VK)(E:XK),Room k (A.deeper (envOfC a scope s⁻¹ f cdv))->sp vs H Q E->
   ∃t,PSs (dL CX P w K mg base N a scope f cdv A outer s H E) body t/\t {nx:=fun _ H'=>Q .non H',rt:=Q} (start N vs) H):
  az P w K mg base CX (k+1) f (RR name a h body scope i kV j l p cdv ct) ps sp:=by
 refine⟨len,fun A outer s H args us vs Q E hr c hb r C=>?_⟩;have M:=len _ _ _ _ C;have F:K.In s.heap:=c.mod.kin.keeps fun b o e=>(c.bs b o e).1;have O:s.heap.NoLimit:=c.mod.nolimit.keeps fun b o e=>(c.bs b o e).1;have T:∀y∈ps.zip us,scope.names.lookup y.1=some .local\/(scope.names.lookup y.1=some .cell/\((cellsFrom (s⁻¹+1) scope.names []).lookup y.1).isSome=true):=fun⟨n,v⟩ hy=>by
  rcases S.par n (RF hy).1 with q|q
  ·exact .inl q
  ·exact .inr ⟨q,Rt _ _ _ 74#q⟩
 refine codeAny_call_function hr.depth (F _ _ lk) rfl S.co S.gen rfl (PySem.W.codeRec_of F L) (hb _ _ _ _ ?_);refine wpAny_newFunctionEnv_cells S.kind T fun env he D x=>?_;subst he;refine⟨O.keeps x.toInCall.keep,codeAny_func ?_⟩;obtain⟨t,ht,hq⟩:=Y A outer s H vs Q E (hr.deeper _) C;have I:Inv (dL CX P w K mg base N a scope f cdv A outer s H E) [] (start N vs) H D:=Jh S hr.hd c M r x;refine Br (ht [] D (start N vs) H _ I hq) (fun fl s' hs=>?_) fun e s' hs=>hs;have fin:∀{d:St}{H':Hp}{v:V}{u:Value},Inv (dL CX P w K mg base N a scope f cdv A outer s H E) [] d H' s'->RelV v u->Q v H'->CE outer P w H s Q u s':=
  fun{d H' v u} J g q=>⟨v,H',J.os,J.bare,J.base,J.hok,g,q⟩
 cases fl with
 |ret u=>
  obtain⟨v,d,H',J,g,q⟩:=hs;exact fin J g q
 |next=>
  obtain⟨d,H',J,q⟩:=hs;exact fin (v:=V.non) (u:=Value.none) J rfl q
 |brk=>
  obtain⟨_,_,_,q⟩:=hs;exact False.elim q
 |cont=>
  obtain⟨_,_,_,q⟩:=hs;exact False.elim q
section
variable{X:Cx}{x:Str}{p pos:Pos}{e:Expr}{es:List Expr}{t:TA}{id T:String}{r:List V->Hp->VK->Prop}
def lW(r:List V->Hp->VK->Prop)(t:TA):TE:=fun σ H Q=>t σ H fun vs H1=>r vs H1 Q
def zm(hc:cP X (.builtin id) r)(f:Gl X x)(hm:X.mg x=none)(g:Ba x=some (.builtin id))(ha:PA X (e::es) t)(i:x≠"__name__":=by decide)(j:0#14=false:=by decide)
  (he:starEach (e::es) X.env=60#e::starEach es X.env:=by rfl) (a:(77#pos).any 2#3=false:=by rfl):PE X (.Call (.Name x p) (e::es) [] pos) (lW r t):=by
 intro aa s σ H Q I h;refine wpAny_Call_Name_kw (ij I f hm g ?_ i j);exact PyProof.Rows.callWith_builtin1 (aT 1#12 fun us b ⟨vs,H1,l,c,d⟩=>hc aa b σ H1 vs us Q l c d) he a
def zB(hc:cP X (.type T) r)(f:Gl X x)(hm:X.mg x=none)(g:Ba x=some (.type T))(ha:PA X (e::es) t)(i:x≠"__name__":=by decide)(j:0#14=false:=by decide)
  (he:starEach (e::es) X.env=60#e::starEach es X.env:=by rfl) (a:(77#pos).any 2#3=false:=by rfl):PE X (.Call (.Name x p) (e::es) [] pos) (lW r t):=by
 intro aa s σ H Q I h;refine wpAny_Call_Name_kw (ij I f hm g ?_ i j);exact Rr (aT 1#12 fun us b ⟨vs,H1,l,c,d⟩=>hc aa b σ H1 vs us Q l c d) he a
end
end L2
namespace HT
open PySem PyProof.Rows
noncomputable def lexLt:List Int->List Int->Bool
 |[],[]=>false
 |[],_::_=>true
 |_::_,[]=>false
 |x::xs,y::ys=>if x=y then lexLt xs ys else decide (x<y)
def zi(x y:Int)(xs ys:List Int):lexLt (x::xs) (y::ys)=if x=y then lexLt xs ys else decide (x<y):=rfl
def Ej:lexLt [] []=false:=rfl
def zV(y:Int)(ys:List Int):lexLt [] (y::ys)=true:=rfl
def Ek(x:Int)(xs:List Int):lexLt (x::xs) []=false:=rfl
def Ji(A:Around)(s:Shared)(a:Int)(t:Tok)(c:Int)(u:Tok):∃e,SeqAt.EqAt A s 85#a (.int c u) e/\(e=true↔a=c):=
 ⟨(a==c),SeqAt.EqAt.int_int a t c u,by simp⟩
def Jj(A:Around)(s:Shared)(a:Int)(t:Tok)(c:Int)(u:Tok)(prog:Program)(w:World)(E:Ω)(Q:Ω)(h:Q (.bool (decide (a<c))) s):wpAny 0#0 A (richCompare .Lt 85#a (.int c u)) Q E s:=
 (PyProof.Rows.lt_int h:wpAny 0#0 A (Bz .Lt 85#a (.int c u)) Q E s)
section
open PySem.SeqAt
open PySem.AutoSeq1 (wpAny_loadPart')
open PySem.MeetsSeq PySem.MeetsSeq2 PySem.MeetsSeq3
def Jk(l b:Addr)(o p:Array Value)(n n2:Nat)(dd J:Option Addr)(L M:Array 66#Value)(ns C:List Int)(hi:IntsAre o.toList ns)(G:IntsAre p.toList C):Meets (Builtin.«tuple.__lt__» ⟨[.ref l,.ref b],[]⟩)
   (fun _ R s=>s.heap.get? l=some {cls:=.type "tuple",dict:=dd,data:=.seq o n,slots:=L}/\s.heap.get? b=some {cls:=.type "tuple",dict:=J,data:=.seq p n2,slots:=M}/\
    R (.ok (.ret (.bool (lexLt ns C)))) s):=
 .of_wp fun prog w A R s h=>by
  obtain⟨hp,g,d,tk,os⟩:=s;obtain⟨H,hb,h⟩:=h;have f2:=AutoSeq1.sub_tuple_tuple;have P:o.size=ns.length:=by rw[<-hi.length];simp
  have z2:p.size=C.length:=by rw[<-G.length];simp
  wp_walk using wpAny_loadPart' H,wpAny_loadPart' hb,wpAny_forIn_list _ (fun rest b s'=>b.1=none/\s'=⟨hp,g,d,tk,os⟩/\∃(vs r:List Value)(i j:List Int),rest=vs.zip r/\
   IntsAre vs i/\IntsAre r j/\i.length+p.size=j.length+o.size/\R (.ok (.ret (.bool (lexLt i j)))) ⟨hp,g,d,tk,os⟩) _
  case turn=>
   rintro⟨y,x⟩ rest b s' ⟨hb',rfl,vs,r,i,j,hz,D,v,f,hR⟩;cases D with
   |nil=>rw[List.zip_nil_left] at hz;cases hz
   |cons a t hvi'=>
    cases v with
    |nil=>rw[List.zip_nil_right] at hz;cases hz
    |cons c u hwi'=>
     rw[RS] at hz;injection hz with hyx cA
     injection hyx with hy hx
     subst hy hx;rw[zi] at hR;simp only[AB] at f;obtain⟨e,he,E⟩:=Ji A.in1 ⟨hp,g,d,tk,os⟩ a t c u;refine Aa (he prog w _ _ ?_);cases e with
     |true=>
      rw[TH (E.mp rfl)] at hR
      wp_walk
      exact⟨rfl,rfl,_,_,_,_,cA,hvi',hwi',ω,hR⟩
     |false=>
      rw[TJ (fun q=>absurd (E.mpr q) Ax)] at hR;have I:=Jj A.in1 ⟨hp,g,d,tk,os⟩ a t c u prog w
      wp_walk using I
      exact⟨_,rfl,by simpa using hR⟩
  case fin=>
   rintro⟨N,O⟩ s' ⟨hb',rfl,vs,r,i,j,hz,D,v,f,hR⟩;simp only at hb';subst hb';have F:lexLt i j=decide (o.size<p.size):=by
    cases D with
    |nil=>
     cases v with
     |nil=>
      simp only[QZ] at f;rw[Ej];exact(TL ω).symm
     |cons c u hw=>
      simp only[QZ,AB] at f;rw[zV];exact(TK ω).symm
    |cons a t F=>
     cases v with
     |nil=>
      simp only[QZ,AB] at f;rw[Ek];exact(TL ω).symm
     |cons c u hw=>
      rw[RS] at hz;cases hz
   rw[F] at hR
   wp_walk
   exact⟨_,rfl,by simpa[Builtin.Tuple.tupleCompareSizes] using hR⟩
  case h=>
   exact⟨rfl,rfl,o.toList,p.toList,ns,C,rfl,hi,G,ω,h⟩
end
section
variable{prog:Program}{w:World}{A:Around}{E:Ω}{s:Shared}
def Jl{Q:Ω}(q:IsTup s.heap l c)(hb:IsTup s.heap b d)(hi:IntsAre c.toList ns)(r:IntsAre d.toList a)(hu:A.units<cLine)(h:Q (.bool (lexLt ns a)) s):wpAny 0#0 A (Bz .Lt 5#l 5#b) Q E s:=by
 obtain⟨⟨cls,dd,data,j⟩,e,hc,n,hd⟩:=id q;obtain⟨⟨u,o,data2,p⟩,f,g,n2,i⟩:=id hb;simp only at hc hd g i;subst hc hd g i;exact richCompare_meets_room (op:=.Lt) ⟨_,e,rfl⟩ ⟨_,f,rfl⟩ PySem.F.slot_tuple_lt PySem.F.entry_tuple_lt (PySem.F.args_tuple_lt_2 _ _) (Jk l b c d n n2 dd o j p ns a hi r)
  ⟨e,f,show Value.bool (lexLt ns a)≠Value.notImplemented/\Q (.bool (lexLt ns a)) s from⟨(fun x=>nomatch x),h⟩⟩ hu
def Jm{t b:Addr}{vs a:List Value}{Q:Ω}(ht:IsTup s.heap t vs.toArray)(hb:IsTup s.heap b a.toArray)(l:vs≠[])(h1:a=[]->Q 5#t s)(h2:a≠[]->Q 0#5 {s with heap:=s.heap.push {cls:=.type "tuple",data:=.seq (vs++a).toArray}})(hsz:vs.length+a.length<=sizeLine):wpAny 0#0 A (binaryOp .Add 5#t 5#b) Q E s:=by
 obtain⟨⟨cls,dd,data,f⟩,c,hc,n,hd⟩:=id ht;obtain⟨⟨o,g,data2,h⟩,d,i,n2,j⟩:=id hb;simp only at hc hd i j;subst hc hd i j;have e:vs.toArray++a.toArray=(vs++a).toArray:=by simp
 by_cases hw:a=[]
 ·exact concat_meets ⟨_,c,rfl⟩ ⟨_,d,rfl⟩ noFill_tuple_add seq_tuple_add Sw Sn (Sg _ _)
   (tuple_addW1 t b vs.toArray a.toArray n n2 dd g f h 6#l (by simp[hw])) ⟨c,d,h1 hw⟩
 ·refine concat_meets ⟨_,c,rfl⟩ ⟨_,d,rfl⟩ noFill_tuple_add seq_tuple_add Sw Sn (Sg _ _)
   (tuple_addW2 t b vs.toArray a.toArray n n2 dd g f h 6#l 6#hw (by rw[Aj,Aj];exact hsz)) ⟨c,d,?_⟩
  rw[e];exact h2 hw
noncomputable def sIx(n d:Nat):Option Int->Nat
 |none=>d
 |some v=>if v<0 then(v+(n:Int)).toNat else min v.toNat n
def qv(n d:Nat):sIx n d none=d:=rfl
def nP(n d k:Nat):sIx n d (some (k:Int))=min k n:=by
 show(if(k:Int)<0 then((k:Int)+(n:Int)).toNat else min (k:Int).toNat n)=min k n;rw[TJ ω,Bq]
def Jn(n d:Nat)(hd:d<=n)(o:Option Int):sIx n d o<=n:=by
 cases o with
 |none=>exact hd
 |some v=>
  show(if v<0 then(v+(n:Int)).toNat else min v.toNat n)<=n
  by_cases a:v<0
  ·rw[TH a];lia
  ·rw[TJ a];exact Tj _ _
def El(v:Int)(n d:Nat):(if v<0 then max (v+(n:Int)) 0 else min v (n:Int))=((sIx n d 55#v:Nat):Int):=by
 show(if v<0 then max (v+(n:Int)) 0 else min v (n:Int))=(((if v<0 then(v+(n:Int)).toNat else min v.toNat n):Nat):Int)
 by_cases a:v<0
 ·simp only[TH a];lia
 ·simp only[TJ a];lia
def Jo(lo hi:Option Int)(n:Nat):Builtin.Slice.sliceAdjust lo hi 1 (n:Int)=(((sIx n 0 lo:Nat):Int),((sIx n n hi:Nat):Int)):=by
 have h1:¬((1:Int)<0):=ω
 unfold Builtin.Slice.sliceAdjust;simp only[h1,if_false];refine Prod.ext ?_ ?_
 ·cases lo with
  |none=>rfl
  |some v=>exact El v n 0
 ·cases hi with
  |none=>rfl
  |some v=>exact El v n n
def Jp(i j:Nat):Builtin.Slice.slicePlaces (i:Int) (j:Int) 1=j-i:=by
 unfold Builtin.Slice.slicePlaces;have h1:(1:Int)>0:=ω
 simp only[h1,if_true,Int.ediv_one];split<;>lia
def Em{Q:Option Int->Shared->Prop}(p:IsPart v o)(h:Q o s):wpAny 0#0 A (Builtin.Slice.slicePartIndex v) Q E s:=by
 cases p with
 |none=>exact slicePart_none h
 |int i t=>exact slicePart_int h
def En{lo hi:Option Int}{n:Nat}{Q:Int×Int×Nat->Shared->Prop}(hs:s.heap.IsSliceOf e c d .none)(f:IsPart c lo)(g:IsPart d hi)(h:Q (((sIx n 0 lo:Nat):Int),1,sIx n n hi-sIx n 0 lo) s):wpAny 0#0 A (Builtin.Slice.sliceApplied 5#e (pure (n:Int))) Q E s:=by
 obtain⟨os,a,i,b⟩:=id hs;unfold Builtin.Slice.sliceApplied Builtin.Slice.sliceFields;refine Aa (Aa (Bw a b (x:=c) rfl (Aa (Bw a b (x:=d) rfl (Aa (Bw a b (x:=.none) rfl 1#5))))));refine Aa (slicePart_none ?_);show wpAny _ _ (if((1:Int)==0)=true then _ else _) _ _ s;rw[TJ ξ];refine Aa (Em f (Aa (Em g (Aa 1#5))));show wpAny _ _ (match Builtin.Slice.sliceAdjust lo hi 1 (n:Int) with|(lo,hi)=>pure (lo,(1:Int),Builtin.Slice.slicePlaces lo hi 1)) _ _ s;rw[Jo lo hi n];show wpAny _ _ (pure (((sIx n 0 lo:Nat):Int),(1:Int),Builtin.Slice.slicePlaces ((sIx n 0 lo:Nat):Int) ((sIx n n hi:Nat):Int) 1)) _ _ s;rw[Jp];exact Ac h
def Jq(xs:Array Value)(i k:Nat):((AO k).filterMap fun(m:Nat)=>xs[((i:Int)+(m:Int)*1).toNat]?).toArray=((xs.toList.drop i).take k).toArray:=by
 have e:(fun(m:Nat)=>xs[((i:Int)+(m:Int)*1).toNat]?)=fun m=>xs[i+m]?:=by
  funext m
  have:((i:Int)+(m:Int)*1).toNat=i+m:=ω
  rw[this]
 rw[e];have:=pick_run xs i k;rw[List.filterMap_map] at this;have e2:((fun x=>xs[x]?) ∘ fun x=>i+x)=fun m=>xs[i+m]?:=rfl;rw[e2] at this;rw[this]
def Jr{t c:Addr}{lo hi:Option Int}{Q:Ω}(ht:IsTup s.heap t a)(hs:s.heap.IsSliceOf c d e .none)(l:IsPart d lo)(o:IsPart e hi)(hw:¬(sIx a.size 0 lo=0/\sIx a.size a.size hi=a.size))(h:Q 0#5 {s with heap:=s.heap.push {cls:=.type "tuple",data:=.seq ((a.toList.drop (sIx a.size 0 lo)).take (sIx a.size a.size hi-sIx a.size 0 lo)).toArray}})(hsz:a.size<=sizeLine):wpAny 0#0 A (getItem 5#t 5#c) Q E s:=by
 have b:sizeOk (.seq ((a.toList.drop (sIx a.size 0 lo)).take (sIx a.size a.size hi-sIx a.size 0 lo)).toArray):=by
  show((a.toList.drop (sIx a.size 0 lo)).take (sIx a.size a.size hi-sIx a.size 0 lo)).toArray.size<=sizeLine;rw[Aj,AE,Qx,AD];lia
 have r:sIx a.size a.size hi<=a.size:=Jn _ _ 0#10 hi;obtain⟨os,f,g,p⟩:=id hs;have i:s.TypeIs 5#c "slice":=⟨os,f,g⟩;unfold getItem
 try with_reducible refine AH ?_
 first|refine Aa 1#5|skip
 refine Aa (wpAny_sequenceKey ht.typeIs ξ ?_);refine Aa (A5 (name:=A6 "__getitem__") ht.typeIs Rc
  (AX Rc ht.typeIs entry_tuple_getitem ?_ (args_tuple_getitem _ _)))
 show wpAny _ _ (Builtin.Tuple.tupleItemsOf 5#t >>= _) _ _ s;refine Aa (tupleItemsOf_ ht ?_);refine Aa (wpAny_typeOf i ?_);rw[TH ξ];refine Aa (En hs l o ?_);have j:¬((((sIx a.size 0 lo:Nat):Int)==0&&(1:Int)==1&&(sIx a.size a.size hi-sIx a.size 0 lo)==a.size)=true):=by
  intro q;rw[AS,AS] at q;have u:((sIx a.size 0 lo:Nat):Int)=0:=eq_of_beq q.1.1;have v:sIx a.size a.size hi-sIx a.size 0 lo=a.size:=eq_of_beq q.2;exact hw ⟨ω,ω⟩
 show wpAny _ _ (if(((sIx a.size 0 lo:Nat):Int)==0&&(1:Int)==1&&(sIx a.size a.size hi-sIx a.size 0 lo)==a.size)=true then _ else _) _ _ s;rw[TJ j,Jq]
 first
  |exact Aa (m:=Builtin.Tuple.tupleExact _) (AY (Ac ⟨_,rfl,Ac h⟩) b)
  |exact Aa (m:=Builtin.Tuple.tupleExact _) (AY (Aa (Ac (Ac ⟨_,rfl,Ac h⟩))) b)
  |exact Aa (Aa (m:=Builtin.Tuple.tupleExact _) (AY (Ac (Ac ⟨_,rfl,Ac h⟩)) b))
  |exact Aa (Aa (m:=Builtin.Tuple.tupleExact _) (AY (Ac ⟨_,rfl,Ac h⟩) b))
end
end HT
namespace L2
open PySem PySem.Spec PyProof.Rows
abbrev TO:=St->Hp->(Option Int->Hp->Prop)->Prop
def PO(X:Cx)(e:Option Expr)(t:TO):Prop:=
 ∀(aa:Ψ)(s:Shared)(σ:St)(H:Hp)(Q:Option Int->Hp->Prop),Inv X aa σ H s->t σ H Q->
  wpAny 0#1 X.A (evalPart e X.env) (fun u s'=>∃o H',Inv X aa σ H' s'/\IsPart u o/\Q o H') X.xe s
def qx:TO:=fun _ H Q=>Q none H
def qD(t:TE):TO:=fun σ H Q=>t σ H fun x H1=>∃i,x=.int i/\Q 55#i H1
def intsAre_of{ns:List Int}:∀{us:List Value},Vals 1#18 us->IntsAre us ns:=by
 induction ns with
 |nil=>intro us r;rw[SN] at r;cases r;exact .nil
 |cons n ns ih=>
  intro us r;rw[Aw] at r;cases r with
  |cons r1 r2=>
   obtain⟨t,e⟩:=r1;subst e;exact .cons n t (ih r2)
section
variable{X:Cx}{e:Expr}{te:TE}{lo hi:Option Expr}{tl th:TO}{pos p2:Pos}
def kb:PO X none qx:=by
 intro aa s σ H Q I h;rw[evalPart_none];exact Ac ⟨none,H,I,.none,h⟩
def kc(h:PE X e te):PO X 55#e (qD te):=by
 intro aa s σ H Q I hw;rw[evalPart_some];refine aT (h aa s σ H _ I hw) fun u d ⟨x,H1,c,a,b⟩=>?_;obtain⟨i,rfl,q⟩:=b;obtain⟨t,rfl⟩:=a;exact⟨some i,H1,c,.int i t,q⟩
def qE(X:Cx)(r:V->Option Int->Option Int->Hp->VK->Prop):Prop:=
 ∀(aa:Ψ)(s:Shared)(σ:St)(H:Hp)(x:V)(v a b:Value)(lo hi:Option Int)(c:Addr)(Q:VK),Inv X aa σ H s->RelV x v->s.heap.IsSliceOf c a b .none->IsPart a lo->IsPart b hi->r x lo hi H Q->
  ∃T id,typeLookup (.type T) "__getitem__"=pure 55#(.builtin id)/\s.TypeIs v T/\wpAny 0#1 X.A (getItem v 5#c) (EP X aa σ Q) X.xe s
def qG(r:V->Option Int->Option Int->Hp->VK->Prop)(te:TE)(tl th:TO):TE:=fun σ H Q=>te σ H fun x H1=>tl σ H1 fun l H2=>th σ H2 fun u a=>r x l u a Q
def kf(hr:qE X r)(he:PE X e te)(F:PO X lo tl)(hu:PO X hi th):PE X (.Subscript e (.Slice lo hi none p2) pos) (qG r te tl th):=by
 intro aa s σ H Q I h;refine Subscript_ (aT (he aa s σ H _ I h) fun v g ⟨x,H1,G,i,j⟩=>?_);refine wpAny_Slice (aT (F aa g σ H1 _ G j) fun c o ⟨l,H2,J,p,y⟩=>aT (hu aa o σ H2 _ J y) fun d a ⟨u,f,I3,C,D⟩=>?_);rw[evalPart_none];refine Ac ?_;have L:Inv X aa σ f {a with heap:=a.heap.push {cls:=.type "slice",data:=.fields #[c,d,.none]}}:=I3.kept (t':=a.toks) fun b ob q=>Ad _ q;obtain⟨T,id,hT,ht,E⟩:=hr aa {a with heap:=a.heap.push {cls:=.type "slice",data:=.fields #[c,d,.none]}} σ f x v c d l u a⁻¹ Q L i (Heap.IsSliceOf.new ..) p C D;show wpAny 0#1 X.A (subscriptTail e (.Slice lo hi none p2) v (.ref a⁻¹)) (EP X aa σ Q) X.xe {a with heap:=a.heap.push {cls:=.type "slice",data:=.fields #[c,d,.none]}};exact tail_any (ops:=[.ref a⁻¹,v]) ht hT E (by with_unfolding_all rfl)
noncomputable def b_(xs:List V)(lo hi:Option Int):List V:=(xs.drop (HT.sIx xs.length 0 lo)).take (HT.sIx xs.length xs.length hi-HT.sIx xs.length 0 lo)
def Eo(xs:List V)(lo hi:Option Int):(b_ xs lo hi).length<=xs.length:=by
 unfold b_;rw[AE,Qx];lia
def nS(K:Af):V->Option Int->Option Int->Hp->VK->Prop:=fun x lo hi H Q=>∃a xs,x=.ref a/\SqT K H a xs/\
 ¬(HT.sIx xs.length 0 lo=0/\HT.sIx xs.length xs.length hi=xs.length)/\∀p,H p=none->Q 5#p (upd H p 52#(b_ xs lo hi))
def xM:qE X (nS X.K):=by
 intro aa s σ H x v i j lo hi l Q I d hs e f h;obtain⟨a,xs,rfl,hx,hw,q⟩:=h;cases d;obtain⟨g,r,ht,hz⟩:=I.tuple hx;have c:g.toArray.size=xs.length:=by rw[Aj];exact r.length.symm
 refine⟨"tuple",_,PyProof.Rows.slot_tuple_getitem.lookup,ht.typeIs,?_⟩;refine HT.Jr ht hs e f (by rw[c];exact hw) ?_ (by rw[c];exact hz);rw[c];refine⟨.ref s⁻¹,_,I.laid (t':=s.toks) (o:=.tup (b_ xs lo hi)) (fun b ob q=>Ad _ q) 0#10 ?_,rfl,q _ 61#Ag⟩;exact⟨AG (Eo xs lo hi) hz,_,(r.drop (HT.sIx xs.length 0 lo)).take (HT.sIx xs.length xs.length hi-HT.sIx xs.length 0 lo),IsTup.new _ _⟩
def Vals.nil_iff(r:Vals xs us):us=[]↔xs=[]:=by
 cases r with
 |nil=>simp
 |cons _ _=>simp
end
noncomputable def dY(n:Nat)(i:Int):Option Nat:=if 0<=i then(if i<n then some i.toNat else none) else if -(n:Int)<=i then some (i+n).toNat else none
noncomputable def eR{a:Type}(xs:List a)(i:Int):Option a:=(dY xs.length i).bind fun j=>xs[j]?
def Ep{n:Nat}(h:dY n i=some j):seqIndex? i n=some j/\j<n/\-(n:Int)<=i/\i<n:=by
 unfold dY at h
 by_cases a:0<=i
 ·rw[TH a] at h
  by_cases h1:i<n
  ·rw[TH h1] at h
   have e:i.toNat=j:=Ai h;exact⟨by rw[seqIndex_of a h1,e],ω,ω,h1⟩
  ·rw[TJ h1] at h;cases h
 ·rw[TJ a] at h
  by_cases h1:-(n:Int)<=i
  ·rw[TH h1] at h
   have e:(i+n).toNat=j:=Ai h;exact⟨by rw[seqIndex_neg ω h1,e],ω,h1,ω⟩
  ·rw[TJ h1] at h;cases h
def Er{a:Type}{xs:List a}{i:Int}{v:a}(h:eR xs i=some v):∃j,seqIndex? i xs.length=some j/\xs[j]?=some v/\j<xs.length/\-(xs.length:Int)<=i/\i<xs.length:=by
 unfold eR at h;cases e:dY xs.length i with
 |none=>rw[e] at h;cases h
 |some j=>
  rw[e] at h;obtain⟨h1,h2,b,c⟩:=Ep e;exact⟨j,h1,h,h2,b,c⟩
def im{a:Type}{xs:List a}{j:Nat}{v:a}(h:xs[j]?=some v):eR xs (j:Int)=some v:=by
 have b:j<xs.length:=(69#h).1;have e:dY xs.length (j:Int)=some j:=by
  unfold dY;rw[TH ω,TH ω];simp
 unfold eR;rw[e];exact h
def Js{a:Type}(xs:List a)(v:a):eR (xs++[v]) (-1)=some v:=by
 have b:(xs++[v]).length=xs.length+1:=by simp
 have e:dY (xs++[v]).length (-1)=some xs.length:=by
  unfold dY;rw[b,TJ ξ,TH ω]
  congr 1
  lia
 unfold eR;rw[e];show(xs++[v])[xs.length]?=some v;simp
def Jt(b:Expr):Prop:=∀o i,subscripted b false o i=operate [o,i] (getItem o i)
def xT(X:Cx)(r:R2):Prop:=
 ∀(aM slice:Expr)(aa:Ψ)(s:Shared)(σ:St)(H:Hp)(x y:V)(v u:Value)(Q:VK),Inv X aa σ H s->RelV x v->RelV y u->r x y H Q->
  subscripted slice false v u=operate [v,u] (getItem v u)->wpAny 0#1 X.A (subscriptTail aM slice v u) (EP X aa σ Q) X.xe s
def xU(X:Cx)(id:String)(r:V->List V->Hp->VK->Prop):Prop:=
 ∀(aa:Ψ)(s:Shared)(σ:St)(H:Hp)(x:V)(xs:List V)(v:Value)(us:List Value)(Q:VK),Inv X aa σ H s->RelV x v->Vals xs us->r x xs H Q->
  wpAny 0#1 X.A (call (.builtin id) (v::us)) (EP X aa σ Q) X.xe s
section
variable{X:Cx}{a b:Expr}{ta tb:TE}{pos:Pos}
def zx(hr:xT X r)(ha:PE X a ta)(hb:PE X b tb)(hs:Jt b):PE X (.Subscript a b pos) (bS r ta tb):=by
 intro aa s σ H Q I h;exact Subscript_ (j8 ha hb I h fun v u c x y H2 f d e q=>hr a b aa c σ H2 x y v u Q f d e q (hs _ _))
def nU(K:Af):R2:=fun x y H Q=>∃p xs i v,x=.ref p/\y=.int i/\SqL K H p xs/\eR xs i=some v/\Q v H
def eA(K:Af):R2:=fun x y H Q=>∃p xs i v,x=.ref p/\y=.int i/\SqT K H p xs/\eR xs i=some v/\Q v H
def zD:xT X (nU X.K):=by
 intro aM slice aa s σ H x y v u Q I e f h hs;obtain⟨p,xs,i,z,rfl,rfl,hq,he,q⟩:=h;cases e;obtain⟨t,rfl⟩:=f;obtain⟨g,r,a,hz⟩:=I.list hq;obtain⟨j,h1,h2,D,l,o⟩:=Er he;obtain⟨w,c,A⟩:=r.get h2;have C:=r.length;have E:=dS;have fin:EP X aa σ Q w s:=⟨z,H,I,A,q⟩
 by_cases d:0<=i
 ·have b:i.toNat=j:=by
   rw[seqIndex_of d o] at h1;exact Ai h1
  exact item_listR a.isList d ω (by rw[b];simpa using c) fin hs
 ·have b:(i+(g.toArray.size:Int)).toNat=j:=by
   rw[seqIndex_neg ω l] at h1;rw[Aj,<-C];exact Ai h1
  exact subscriptTail_builtinR (x:=w) a.isList.typeIs slot_list_getitem.lookup
   (wpAny_getItem_list_neg (Q:=fun r s'=>r=w/\EP X aa σ Q r s') a.isList ω (by rw[Aj]<;>lia) ω (by rw[b];simpa using c) ⟨rfl,fin⟩) hs
def zC:xT X (eA X.K):=by
 intro aM slice aa s σ H x y v u Q I b c h hs;obtain⟨p,xs,i,z,rfl,rfl,hq,he,q⟩:=h;cases b;obtain⟨t,rfl⟩:=c;obtain⟨g,r,a,hz⟩:=I.tuple hq;obtain⟨j,h1,h2,l,o,A⟩:=Er he;obtain⟨w,d,e⟩:=r.get h2;have f:=r.length;have C:=dS;have fin:EP X aa σ Q w s:=⟨z,H,I,e,q⟩;exact subscriptTail_builtinR (x:=w) a.typeIs slot_tuple_getitem.lookup
  (getItem_tuple (j:=j) (Q:=fun r s'=>r=w/\EP X aa σ Q r s') a ω ω (by rw[Aj,<-f];exact h1) 6#d ⟨rfl,fin⟩) hs
def Ju(a:List Value)(n j:Nat)(u:Value):Ay (·.setIfInBounds j u) {cls:=.type "list",data:=.seq a.toArray n}={cls:=.type "list",data:=.seq (a.set j u).toArray n}:=by
 simp[Ay]
def Inv.lst{s:Shared}(I:Inv X aa σ H s)(h:H p=some 8#xs):∃(a:List Value)(n:Nat),Vals xs a/\s.heap.get? p=some {cls:=.type "list",data:=.seq a.toArray n}/\xs.length<=sizeLine:=by
 obtain⟨z,a,n,r,e⟩:=I.hok p _ h;exact⟨a,n,r,e,z⟩
def Inv.lstUpd{s:Shared}{c its':List Value}{n a:Nat}{f:Obj->Obj}(I:Inv X aa σ H s)(h:H p=some 8#xs)(d:s.heap.get? p=some {cls:=.type "list",data:=.seq c.toArray n})(hf:f {cls:=.type "list",data:=.seq c.toArray n}={cls:=.type "list",data:=.seq its'.toArray a})(r:Vals ys its')(hz:ys.length<=sizeLine)(t:Nat):Inv X aa σ (upd H p 8#ys) {s with heap:=s.heap.update p f,toks:=t}:=by
 have e:(s.heap.update p f).get? p=some {cls:=.type "list",data:=.seq its'.toArray a}:=by
  rw[Heap.get?_update_self f d (by rw[hf]<;>rfl),hf]
 refine I.write (x:=p) (e:=p) (by rw[h];trivial) 4#18 (fun b u hb q=>(Heap.get?_update_other _ _ 72#hb).trans q) ⟨_,e⟩ ?_;exact⟨hz,its',a,r,e⟩
def Jv:V->V->V->Hp->(Hp->Prop)->Prop:=fun o i v H Q=>∃p xs k j,o=.ref p/\i=.int k/\H p=some 8#xs/\dY xs.length k=some j/\Q (upd H p 8#(xs.set j v))
def set_list:nw X Jv:=by
 intro aa s σ H o i v A iv u Q I l w x h;obtain⟨p,xs,k,j,rfl,rfl,hp,y,q⟩:=h;cases l;obtain⟨t,rfl⟩:=w;obtain⟨c,n,r,a,hz⟩:=I.lst hp;obtain⟨h1,h2,d,e⟩:=Ep y;have b:=r.length;have C:=dS;have g:Inv X aa σ (upd H p 8#(xs.set j v)) {s with heap:=s.heap.update p (Ay (·.setIfInBounds j u))}:=
  I.lstUpd hp a (Ju c n j u) (r.set x j) (by rw[List.length_set];exact hz) s.toks
 by_cases f:0<=k
 ·have hk:k.toNat=j:=by
   rw[seqIndex_of f e] at h1;exact Ai h1
  exact PySem.W.ki_setAt a f ω (by rw[Aj,<-b];exact e) (by rw[hk];exact⟨_,g,q⟩)
 ·have hk:(k+(c.toArray.size:Int)).toNat=j:=by
   rw[seqIndex_neg ω d] at h1;rw[Aj,<-b];exact Ai h1
  exact PySem.W.ki_setBack a ω (by rw[Aj,<-b];exact d) ω (by rw[hk];exact⟨_,g,q⟩)
def Jw(lo hi:Option Int)(n:Nat):(sliceBounds lo hi none n).1=((HT.sIx n 0 lo:Nat):Int)/\(sliceBounds lo hi none n).2.1=((HT.sIx n n hi:Nat):Int)/\(sliceBounds lo hi none n).2.2=1:=by
 refine⟨?_,?_,rfl⟩
 ·cases lo with
  |none=>simp[sliceBounds,HT.sIx]
  |some i=>
   simp only[sliceBounds,HT.sIx,Option.getD_none,show(1:Int)>0 from ξ,if_true]
   by_cases h:i<0
   ·simp only[h,if_true]<;>lia
   ·simp only[h,if_false]<;>lia
 ·cases hi with
  |none=>simp[sliceBounds,HT.sIx]
  |some i=>
   simp only[sliceBounds,HT.sIx,Option.getD_none,show(1:Int)>0 from ξ,if_true]
   by_cases h:i<0
   ·simp only[h,if_true]<;>lia
   ·simp only[h,if_false]<;>lia
def Jx(a:List Value)(lo hi:Option Int):slicePick a.toArray lo hi none=((a.drop (HT.sIx a.length 0 lo)).take (HT.sIx a.length a.length hi-HT.sIx a.length 0 lo)).toArray:=by
 obtain⟨h1,h2,b⟩:=Jw lo hi a.toArray.size;unfold slicePick;rw[h1,h2,b];simp only[sliceRange_one,pick_run,Aj]<;>rfl
def xW(K:Af):V->Option Int->Option Int->Hp->VK->Prop:=fun x lo hi H Q=>∃a xs,x=.ref a/\SqL K H a xs/\∀p,H p=none->Q 5#p (upd H p 8#(b_ xs lo hi))
def Jy:qE X (xW X.K):=by
 intro aa s σ H x v g i lo hi j Q I d hs e f h;obtain⟨a,xs,rfl,hx,q⟩:=h;cases d;obtain⟨l,r,ht,hz⟩:=I.list hx;have c:=r.length;refine⟨"list",_,slot_list_getitem.lookup,ht.isList.typeIs,?_⟩;refine wpAny_getItem_list_slice ht.isList hs e f .none 2#0 ?_ (by rw[Aj]<;>lia);rw[Jx,<-c];refine⟨.ref s⁻¹,_,I.laid (t':=s.toks) (o:=.lst (b_ xs lo hi)) (fun b ob q=>Ad _ q) 0#10 ?_,rfl,q _ 61#Ag⟩;exact⟨AG (Eo xs lo hi) hz,_,0,(r.drop (HT.sIx xs.length 0 lo)).take (HT.sIx xs.length xs.length hi-HT.sIx xs.length 0 lo),Al _ rfl⟩
noncomputable def fv:V->Bool
 |.non=>true
 |.bl _=>true
 |.int _=>true
 |.str _=>true
 |_=>false
noncomputable def d0:V->V->Bool
 |.non,.non=>true
 |.bl a,.bl b=>a==b
 |.bl a,.int b=>(if a then 1 else 0)==b
 |.int a,.bl b=>a==(if b then 1 else 0)
 |.int a,.int b=>a==b
 |.str a,.str b=>a==b
 |_,_=>false
def Es{s:Shared}(d:RelV y u)(c:RelV x v)(e:fv y=true)(fx:fv x=true):SeqAt.EqAt A s u v (d0 y x):=by
 cases y with
 |non=>
  cases d;cases x with
  |non=>cases c;exact SeqAt.EqAt.same _
  |bl b=>cases c;exact SeqAt.EqAt.none_bool b
  |int b=>obtain⟨t,rfl⟩:=c;exact SeqAt.EqAt.none_int b t
  |str b=>obtain⟨t,rfl⟩:=c;exact SeqAt.EqAt.none_str b t
  |_=>exact absurd 54#fx Ax
 |bl a=>
  cases d;cases x with
  |non=>cases c;exact SeqAt.EqAt.bool_none a
  |bl b=>cases c;exact SeqAt.EqAt.bool_bool a b
  |int b=>obtain⟨t,rfl⟩:=c;exact SeqAt.EqAt.bool_int a b t
  |str b=>obtain⟨t,rfl⟩:=c;exact SeqAt.EqAt.bool_str a b t
  |_=>exact absurd 54#fx Ax
 |int a=>
  obtain⟨t',rfl⟩:=d;cases x with
  |non=>cases c;exact SeqAt.EqAt.int_none a t'
  |bl b=>cases c;exact SeqAt.EqAt.int_bool a t' b
  |int b=>obtain⟨t,rfl⟩:=c;exact SeqAt.EqAt.int_int a t' b t
  |str b=>obtain⟨t,rfl⟩:=c;exact SeqAt.EqAt.int_str a t' b t
  |_=>exact absurd 54#fx Ax
 |str a=>
  obtain⟨t',rfl⟩:=d;cases x with
  |non=>cases c;exact SeqAt.EqAt.str_none a t'
  |bl b=>cases c;exact SeqAt.EqAt.str_bool a t' b
  |int b=>obtain⟨t,rfl⟩:=c;exact SeqAt.EqAt.str_int a t' b t
  |str b=>obtain⟨t,rfl⟩:=c;exact SeqAt.EqAt.str_str a t' b t
  |_=>exact absurd 54#fx Ax
 |_=>exact absurd 54#e Ax
noncomputable def fG(x:V)(u:Value):Bool:=match u with
 |.none=>d0 .non x
 |.bool b=>d0 (.bl b) x
 |.int i _=>d0 57#i x
 |.str z _=>d0 (.str z) x
 |_=>false
def xY(r:RelV y u)(f:fv y=true):fG x u=d0 y x:=by
 cases y with
 |non=>cases r;rfl
 |bl b=>cases r;rfl
 |int i=>obtain⟨t,rfl⟩:=r;rfl
 |str z=>obtain⟨t,rfl⟩:=r;rfl
 |_=>exact absurd 54#f Ax
def x0:∀{xs:List V}{us:List Value},Vals xs us->xs.all fv=true->us.any (fG x)=xs.any fun y=>d0 y x
 |_,_,.nil,_=>rfl
 |y::xs,u::us,.cons r t,f=>by
  rw[SG,AS] at f;rw[Sh,Sh,xY r f.1,x0 t f.2]
def qH{s:Shared}(a:RelV x v)(fx:fv x=true):∀{xs:List V}{us:List Value},Vals xs us->xs.all fv=true->∀u∈us,SeqAt.EqAt A s u v (fG x u)
 |_,_,.nil,_=>fun u hu=>by cases hu
 |y::xs,u::us,.cons r t,f=>fun b hu=>by
  rw[SG,AS] at f;rcases Qj.mp hu with rfl|hu
  ·rw[xY r f.1];exact Es r a f.1 fx
  ·exact qH a fx t f.2 b hu
noncomputable def Et(x:V)(xs:List V):Bool:=xs.any fun y=>d0 y x
def Jz(K:Af)(neg:Bool):R2:=fun x y H Q=>∃p xs,y=.ref p/\(SqL K H p xs\/SqT K H p xs)/\fv x=true/\xs.all fv=true/\Q (.bl (if neg then !Et x xs else Et x xs)) H
def JA:cw X (Bz .NotIn) (Jz X.K true):=by
 intro aa s σ H x y v u Q I c d h;obtain⟨p,xs,rfl,hq,fx,fs,q⟩:=h;cases d;rcases hq with hq|hq
 ·obtain⟨a,r,b,hz⟩:=I.list hq
  refine SeqAt.notIn_listAt (fG x) b.isList (fun w hw=>qH c fx r fs w 6#hw) ⟨.bl _,H,I,rfl,?_⟩;rw[show a.toArray.any (fG x)=a.any (fG x) by simp,x0 r fs];exact q
 ·obtain⟨a,r,b,hz⟩:=I.tuple hq
  refine SeqAt.notIn_tupleAt (fG x) b (fun w hw=>qH c fx r fs w 6#hw) ⟨.bl _,H,I,rfl,?_⟩;rw[show a.toArray.any (fG x)=a.any (fG x) by simp,x0 r fs];exact q
def zo:cP X (.builtin "len") (fun xs H Q=>∃p ys,xs=[.ref p]/\(SqL X.K H p ys\/SqT X.K H p ys)/\Q (.int ys.length) H):=by
 intro aa s σ H xs us Q I r h;obtain⟨p,ys,rfl,hq,q⟩:=h;obtain⟨u,rfl,d⟩:=vals1 r;cases d;have f:=dS;rcases hq with hq|hq
 ·obtain⟨e,b,c,hz⟩:=I.list hq
  have a:=b.length;exact Calls.call_len_list c.isList (by simp only[Aj]<;>lia) ⟨.int ys.length,H,I.tok _,⟨s.toks+1,by rw[Aj,a]⟩,q⟩
 ·obtain⟨e,b,c,hz⟩:=I.tuple hq
  have a:=b.length;exact len_tuple c (by simp only[Aj]<;>lia) ⟨.int ys.length,H,I.tok _,⟨s.toks+1,by rw[Aj,a]⟩,q⟩
def JB:cP X (.type "list") (fun xs H Q=>∃p ys,xs=[.ref p]/\(SqL X.K H p ys\/SqT X.K H p ys)/\∀l,H l=none->Q 5#l (upd H l 8#ys)):=by
 intro aa s σ H xs us Q I r h;obtain⟨p,ys,rfl,hq,q⟩:=h;obtain⟨u,rfl,j⟩:=vals1 r;cases j;have fin:∀(a:List Value),Vals ys a->ys.length<=sizeLine->∀(h':Heap)(c':Nat),(∀b o',s.heap.get? b=some o'->h'.get? b=some o')->
   h'.get? s⁻¹=some {cls:=.type "list",dict:=none,data:=.seq a.toArray c',slots:=#[]}->EP X aa σ Q 0#5 {s with heap:=h'}:=fun a c hz h' c' d e=>
  ⟨.ref s⁻¹,_,I.laid (t':=s.toks) d 0#10 (show zr X.prog X.w _ h' _ 8#ys from⟨hz,a,c',c,e⟩),rfl,q _ 61#Ag⟩
 rcases hq with hq|hq
 ·obtain⟨a,c,g,hz⟩:=I.list hq
  have f:=c.length;obtain⟨o,i,hc,n,hd⟩:=g.isList;exact call_list_seq p 4#18 i hc hd (fun h' c' d e=>fin a c hz h' c' d e) (by simp only[Aj]<;>lia)
 ·obtain⟨a,c,g,hz⟩:=I.tuple hq
  have f:=c.length;obtain⟨o,i,hc,n,hd⟩:=g;exact call_list_seq p (.inr rfl) i hc hd (fun h' c' d e=>fin a c hz h' c' d e) (by simp only[Aj]<;>lia)
def ya:cP X (.type "tuple") (fun xs H Q=>∃p ys,xs=[.ref p]/\((SqL X.K H p ys/\∀l,H l=none->Q 5#l (upd H l 52#ys))\/(SqT X.K H p ys/\Q 5#p H))):=by
 intro aa s σ H xs us Q I r h;obtain⟨p,ys,rfl,h⟩:=h;obtain⟨u,rfl,i⟩:=vals1 r;cases i;rcases h with ⟨hq,q⟩|⟨hq,q⟩
 ·obtain⟨a,c,d,hz⟩:=I.list hq
  have f:=c.length;refine call_tuple_list d.isList (fun h' g=>?_) (by simp only[Aj]<;>lia);have I1:Inv X aa σ H {s with heap:=h'}:=I.kept (t':=s.toks) g;have j:Inv X aa σ (upd H h'.objs.size 52#ys) {s with heap:=h'.push {cls:=.type "tuple",data:=.seq a.toArray}}:=
   I1.laid (t':=s.toks) (fun b o e=>Ad _ e) 0#10 (show zr X.prog X.w _ _ _ 52#ys from⟨hz,a,c,IsTup.new _ _⟩)
  exact⟨.ref h'.objs.size,_,j,rfl,q _ (I1.hok.fresh 0#10)⟩
 ·obtain⟨a,c,d,hz⟩:=I.tuple hq
  exact call_tuple_same d ⟨.ref p,H,I,rfl,q⟩
def Eu(K:Af)(T:String)(x:V)(H:Hp):Prop:=match x with
 |.str _=>T="str"
 |.int _=>T="int"
 |.ref p=>(T="list"/\∃xs,SqL K H p xs)\/(T="tuple"/\∃o,K.lookup p=some o/\o.cls=.type "tuple"/\o.dict=none) \/
   (T="dict"/\((∃kvs,H p=some (.dK kvs))\/∃kvs,H p=some 51#kvs))\/(T="set"/\∃S n,H p=some (.set S n))
 |_=>False
def JC{s:Shared}(I:Inv X aa σ H s)(r:RelV x v)(ty:Eu X.K T x H):s.TypeIs v T/\∀a,v=.ref a->∃ob,s.heap.get? a=some ob/\ob.dict=none:=by
 cases x with
 |str z=>
  obtain⟨t,rfl⟩:=r;cases(show T="str" from ty);exact⟨typeIs_str s z t,fun _ e=>nomatch e⟩
 |int i=>
  obtain⟨t,rfl⟩:=r;cases(show T="int" from ty);exact⟨typeIs_int s i t,fun _ e=>nomatch e⟩
 |ref p=>
  cases r;rcases ty with ⟨rfl,xs,hq⟩|⟨rfl,o,hk,hc,hd⟩|⟨rfl,hk⟩|⟨rfl,S,n,hk⟩
  ·obtain⟨d,_,b,_⟩:=I.list hq
   refine⟨b.isList.typeIs,fun a e=>?_⟩;cases e;obtain⟨o,n,e,c,hd,_⟩:=b;exact⟨o,e,hd⟩
  ·refine⟨⟨o,I.kIn p o hk,hc⟩,fun a e=>?_⟩
   cases e;exact⟨o,I.kIn _ o hk,hd⟩
  ·have z:∃o,s.heap.get? p=some o/\o.ExactDict:=by
    rcases hk with ⟨kvs,hk⟩|⟨kvs,hk⟩
    ·obtain⟨_,_,_,_,o,_,_,e,ex,_⟩:=I.hok p _ hk
     exact⟨o,e,ex⟩
    ·obtain⟨_,_,_,_,o,_,_,e,ex,_⟩:=I.hok p _ hk
     exact⟨o,e,ex⟩
   obtain⟨o,e,ex⟩:=z;refine⟨⟨o,e,ex.1⟩,fun a e2=>?_⟩;cases e2;exact⟨o,e,ex.2.1⟩
  ·obtain⟨o,_,_,_,e,ex,_⟩:=I.hok p _ hk
   refine⟨⟨o,e,ex.1⟩,fun a e2=>?_⟩;cases e2;exact⟨o,e,ex.2.1⟩
 |_=>exact False.elim ty
def qI(K:Af)(T:String)(r:V->List V->Hp->VK->Prop)(to:TE)(t:TA):TE:=fun σ H Q=>to σ H fun x H1=>Eu K T x H1/\t σ H1 fun xs H2=>r x xs H2 Q
variable{o e:Expr}{es:List Expr}{to:TE}{t:TA}{name:Str}{bc aF:Pos}{T id:String}{r:V->List V->Hp->VK->Prop}
def fM(p:PlainAttrs T)(slot:Slot T name id)(q:typeOf (.builtin id)=pure (.type "method_descriptor"))(hm:xU X id r)(u:PE X o to)(ha:PA X (e::es) t)(w:attributeBase o name X.env 73#o=eval o X.env:=by rfl)
  (y:((backTo aF (starEach (e::es) X.env)).all (fun x=>!x.1)&&(backToKw aF (keywordEach [] X.env)).all (fun x=>x.1.isSome)
   && decide ((e::es).length+([]:List Keyword).length+(if([]:List Keyword).isEmpty then 0 else 1)<30))=true:=by rfl)
  (A:(bc.endLine==aF.line)=true:=by rfl) (hs:starEach (e::es) X.env=60#e::starEach es X.env:=by rfl) (C:(77#aF).any 2#3=false:=by rfl) :
  PE X (.Call (.Attribute o name bc) (e::es) [] aF) (qI X.K T r to t):=by
 intro aa s σ H Q I h;refine wpAny_Call_method_late w y A rfl (aT (u aa s σ H _ I h) fun v f ⟨x,H1,d,b,ty,g⟩=>?_);obtain⟨h1,h2⟩:=JC d b ty;refine⟨T,id,p,slot,q,h1,h2,?_⟩;have c:=ha aF aa f σ H1 _ d g;rw[hs] at c ⊢;refine Calls.callWith_builtin (by show(false|| (backTo aF (starEach es X.env)).any 2#3)=false;rw[C]<;>rfl) (Calls.evalArgs_plain ?_);exact aT c fun us i ⟨vs,H2,D,j,l⟩=>hm aa i σ H2 x vs v us Q D b j l
end
def n4(X:Cx)(id:String)(r:V->List V->Hp->VK->Prop):Prop:=
 ∀(aa:Ψ)(s:Shared)(σ:St)(H:Hp)(x:V)(xs:List V)(v:Value)(us:List Value)(Q:VK),Inv X aa σ H s->RelV x v->Vals xs us->r x xs H Q->
  wpAny 0#1 X.A (call (.builtin id) (v::us)) (EP X aa σ Q) X.xe s
def Vals.one{x:V}(h:Vals [x] us):∃u,us=[u]/\RelV x u:=by
 cases h with|cons r t=>cases t;exact⟨_,rfl,r⟩
def Vals.two{x y:V}(h:Vals [x,y] us):∃u v,us=[u,v]/\RelV x u/\RelV y v:=by
 cases h with|cons r t=>obtain⟨v,rfl,q⟩:=Vals.one t;exact⟨_,_,rfl,r,q⟩
def Vals.zero:∀{us:List Value},Vals [] us->us=[]
 |_,.nil=>rfl
def Vals.eraseIdx:∀{xs:List V}{us:List Value}(i:Nat),Vals xs us->Vals (xs.eraseIdx i) (us.eraseIdx i)
 |_,_,_,.nil=>.nil
 |_,_,0,.cons _ t=>t
 |_,_,i+1,.cons r t=>.cons r (Vals.eraseIdx i t)
def Vals.reverse(h:Vals xs us):Vals xs.reverse us.reverse:=by
 induction h with
 |nil=>exact .nil
 |cons r t ih=>rw[List.reverse_cons,List.reverse_cons];exact Vals.append ih (.cons r .nil)
section
variable{X:Cx}{aa:Ψ}{σ:St}{H:Hp}{s:Shared}{l b:Addr}{xs ys zs:List V}
def Inv.lset{a its':List Value}{n:Nat}{f:Array Value->Array Value}{t':Nat}(I:Inv X aa σ H s)(b:H l=some 8#xs)(e:s.heap.get? l=some {cls:=.type "list",data:=.seq a.toArray n})(hf:f a.toArray=its'.toArray)(c:Vals ys its')(hz:ys.length<=sizeLine):Inv X aa σ (upd H l 8#ys) {s with heap:=s.heap.update l (Ay f),toks:=t'}:=by
 have q:=PySem.IsL.update e f;rw[hf] at q;refine I.write (x:=l) (e:=l) (by rw[b];exact trivial) 4#18 (fun d u hb hu=>(Heap.get?_update_other s.heap (Ay f) 72#hb).trans hu) ⟨_,q⟩ ?_;exact⟨hz,its',_,c,q⟩
def Inv.lnew{t':Nat}(I:Inv X aa σ H s)(b:Vals ys a)(hz:ys.length<=sizeLine):Inv X aa σ (upd H s⁻¹ 8#ys) {s with heap:=s.heap.push {cls:=.type "list",data:=.seq a.toArray},toks:=t'}:=
 I.laid (fun _ _ q=>Ad _ q) 0#10 ⟨hz,a,0,b,Al _ rfl⟩
def Inv.fresh(I:Inv X aa σ H s):H s⁻¹=none:=I.hok.fresh 0#10
def Inv.lstM(I:Inv X aa σ H s)(b:H l=some 8#xs):xs.length<=sizeLine/\∃(a:List Value)(n:Nat),Vals xs a/\xs.length=a.length/\s.heap.get? l=some {cls:=.type "list",data:=.seq a.toArray n}:=by
 obtain⟨z,a,n,r,e⟩:=I.hok l _ b;exact⟨z,a,n,r,r.length,e⟩
def JD{n:Nat}(h:n<=sizeLine):Builtin.List.listTooLong n=false:=by
 unfold Builtin.List.listTooLong;exact TL ω
end
section
variable{X:Cx}
def zm7:V->List V->Hp->VK->Prop:=fun x vs H Q=>∃l xs y,x=.ref l/\vs=[y]/\H l=some 8#xs/\xs.length<sizeLine/\Q .non (upd H l 8#(xs++[y]))
def jk:n4 X "list.append" zm7:=by
 intro aa s σ H x vs v us Q I c d h;obtain⟨l,xs,y,rfl,rfl,a,hz,q⟩:=h;cases c;obtain⟨u,rfl,f⟩:=d.one;obtain⟨z,b,n,r,g,e⟩:=I.lstM a;refine call_meets F.slot_list_append ⟨_,e,rfl⟩ F.entry_list_append (F.args_list_append_2 _ _) (PySem.list_append l b.toArray n u (by rw[Aj];lia)) ⟨e,?_⟩;refine⟨.non,_,I.lset (its':=b++[u]) a e 2#0 (r.append (.cons f .nil)) ?_,rfl,q⟩;rw[Az,List.length_singleton];lia
def zng:V->List V->Hp->VK->Prop:=fun x vs H Q=>∃l b xs zs,x=.ref l/\vs=[.ref b]/\H l=some 8#xs/\H b=some 8#zs/\xs.length+zs.length<=sizeLine/\Q .non (upd H l 8#(xs++zs))
def JE:n4 X "list.extend" zng:=by
 intro aa s σ H x vs v us Q I g i h;obtain⟨l,b,xs,zs,rfl,rfl,f,j,hz,q⟩:=h;cases g;obtain⟨u,rfl,o⟩:=i.one;cases o;obtain⟨z,c,n,r,y,e⟩:=I.lstM f;obtain⟨z2,d,n2,p,w,e2⟩:=I.lstM j;have hsz:c.toArray.size+d.toArray.size<=sizeLine:=by rw[Aj,Aj];lia
 have a:¬(!c.toArray.isEmpty&&Builtin.List.listTooLong (c.toArray.size+d.toArray.size))=true:=by
  rw[JD hsz,Rl];exact Ax
 refine call_meets F.slot_list_extend ⟨_,e,rfl⟩ F.entry_list_extend (F.args_list_extend_2 _ _)
  (AutoSeq1.list_extend_list_list_0 l c.toArray n b d.toArray n2 a (by rw[Aj];lia) ω) ⟨e,e2,?_⟩
 refine⟨.non,_,I.lset (its':=c++d) f e 2#0 (r.append p) ?_,rfl,q⟩;rw[Az];lia
def yb:R2:=fun x y H Q=>∃l b xs zs,x=.ref l/\y=.ref b/\H l=some 8#xs/\H b=some 8#zs/\xs.length+zs.length<=sizeLine/\∀p,H p=none->Q 5#p (upd H p 8#(xs++zs))
def lZ:cw X (binaryOp .Add) yb:=by
 intro aa s σ H x y v u Q I d f h;obtain⟨l,b,xs,zs,rfl,rfl,g,i,hz,q⟩:=h;cases d;cases f;obtain⟨z,a,n,r,w,e⟩:=I.lstM g;obtain⟨z2,c,n2,j,o,e2⟩:=I.lstM i;refine PySem.P.add_list e e2 ?_ (by rw[Aj,Aj];lia);have p:a.toArray++c.toArray=(a++c).toArray:=by simp
 rw[p];exact⟨.ref _,_,I.lnew (t':=s.toks) (r.append j) (by rw[Az];lia),rfl,q _ I.fresh⟩
end
section
variable{prog:Program}{w:World}{A:Around}{E:Ω}{s:Shared}
set_option maxRecDepth 100000 in
end
section
variable{κ:Type}[DecidableEq κ]
noncomputable def bj(kvs:List (κ×V))(k:κ):Option V:=(kvs.find? fun kv=>decide (kv.1=k)).map 0#17
noncomputable def putK(kvs:List (κ×V))(k:κ)(v:V):List (κ×V):=
 if(kvs.any fun kv=>decide (kv.1=k))=true then kvs.map (fun kv=>if kv.1=k then(kv.1,v) else kv) else kvs++[(k,v)]
def qJ{p:κ×V}{r:List (κ×V)}{k:κ}(e:p.1=k):bj (p::r) k=some p.2:=by simp[bj,Qw,e]
def qK{p:κ×V}{r:List (κ×V)}{k:κ}(e:¬p.1=k):bj (p::r) k=bj r k:=by simp[bj,Qw,e]
def qL(k:κ):∀kvs:List (κ×V),(kvs.any fun kv=>decide (kv.1=k))=(bj kvs k).isSome
 |[]=>rfl
 |p::r=>by
  rw[Sh]
  by_cases e:p.1=k
  ·simp only[qJ e,TK e,Bool.true_or,Option.isSome_some]
  ·rw[qK e,TL e,Bool.false_or];exact qL k r
def yk(kvs:List (κ×V))(k:κ)(v:V):(putK kvs k v).length<=kvs.length+1:=by
 unfold putK;split
 ·rw[Ab];lia
 ·rw[Az,AB,QZ];lia
def Ev{k:κ}(v:V)(h:bj kvs k=none):putK kvs k v=kvs++[(k,v)]:=by
 unfold putK;rw[qL,h];exact TJ ξ
def RelO.isSome_eq(r:RelO o u):o.isSome=u.isSome:=by
 cases o with
 |none=>cases u with
  |none=>rfl
  |some _=>exact(show False from r).elim
 |some _=>cases u with
  |none=>exact(show False from r).elim
  |some _=>rfl
def RelO.getD(r:RelO o u)(a:RelV d d'):RelV (o.getD d) (u.getD d'):=by
 cases o with
 |none=>cases u with
  |none=>exact a
  |some _=>exact(show False from r).elim
 |some _=>cases u with
  |none=>exact(show False from r).elim
  |some _=>exact r
def KV.val(r:KV kvs vs)(k:κ):RelO (bj kvs k) (valueAt vs k):=by
 unfold KV at r
 induction r with
 |nil=>exact True.intro
 |@cons p q ps a h t c=>
  obtain⟨h1,h2⟩:=h
  by_cases e:p.1=k
  ·have e':q.1=k:=h1.symm.trans e
   have b:valueAt (q::a) k=some q.2:=by simp[valueAt,Qw,e']
   rw[qJ e,b];exact h2
  ·have e':¬q.1=k:=fun z=>e (h1.trans z)
   have b:valueAt (q::a) k=valueAt a k:=by simp[valueAt,Qw,e']
   rw[qK e,b];exact c
def KV.any(r:KV kvs vs)(k:κ):(kvs.any fun kv=>decide (kv.1=k))=vs.any fun kv=>decide (kv.1=k):=by
 unfold KV at r
 induction r with
 |nil=>rfl
 |cons h t ih=>rw[Sh,Sh,ih,h.1]
def KV.repl(r:KV kvs vs)(k:κ)(a:RelV y u):KV (kvs.map fun kv=>if kv.1=k then(kv.1,y) else kv) (vs.map fun kv=>if kv.1=k then(kv.1,u) else kv):=by
 unfold KV at r ⊢
 induction r with
 |nil=>exact .nil
 |@cons p q ps qs h t ih=>
  rw[Aw,Aw];refine .cons ?_ ih;obtain⟨h1,h2⟩:=h
  by_cases e:p.1=k
  ·rw[TH e,TH (h1.symm.trans e)];exact⟨h1,a⟩
  ·rw[TJ e,TJ (fun z=>e (h1.trans z))];exact⟨h1,h2⟩
def KV.put(r:KV kvs vs)(k:κ)(a:RelV y u):KV (putK kvs k y) (stored vs k u):=by
 unfold putK stored;rw[r.any k]
 by_cases e:(vs.any fun kv=>decide (kv.1=k))=true
 ·rw[TH e,TH e];exact r.repl k a
 ·rw[TJ e,TJ e];exact Paired.snoc r ⟨rfl,a⟩
def KV.length(r:KV kvs vs):kvs.length=vs.length:=AN r
end
def n7{k:Key}(r:RelV (kV k) u):(zp P w).is k u=true:=by
 cases k with
 |inl i=>obtain⟨t,e⟩:=(show ∃t,u=Value.int i t from r);subst e;exact vu P w i t
 |inr x=>obtain⟨t,e⟩:=(show ∃t,u=Value.str x t from r);subst e;exact IA P w x t
def Ew:∀{ks:List Key}{us:List Value},Vals (ks.map kV) us->ItemsAre (zp P w) ks us
 |[],_,r=>by rw[SN] at r;cases r;exact .nil
 |k::ks,_,r=>by
  rw[Aw] at r;cases r with
  |cons h t=>exact .cons (n7 h) (Ew t)
abbrev KT(H:Hp):List 4#6->List 0#9->Prop:=Paired fun p q=>p.1=q.1/\H q.2.1=some 52#(p.1.map kV)/\RelV p.2 q.2.2
def KT.val(r:KT H kvs xs)(k:List Key):RelO (bj kvs k) ((atKey xs k).map 0#17):=by
 induction r with
 |nil=>exact True.intro
 |@cons p q ps a h t c=>
  obtain⟨h1,_,h2⟩:=h
  by_cases e:p.1=k
  ·have e':q.1=k:=h1.symm.trans e
   have b:atKey (q::a) k=some q.2:=by simp[atKey,Qw,e']
   rw[qJ e,b];exact h2
  ·have e':¬q.1=k:=fun z=>e (h1.trans z)
   have b:atKey (q::a) k=atKey a k:=by simp[atKey,Qw,e']
   rw[qK e,b];exact c
def KT.repl(r:KT H kvs xs)(k:List Key)(b:RelV y u):KT H (kvs.map fun kv=>if kv.1=k then(kv.1,y) else kv) (xs.map (putAt k u)):=by
 induction r with
 |nil=>exact .nil
 |@cons p q ps qs h t ih=>
  rw[Aw,Aw];refine .cons ?_ ih;obtain⟨h1,h2,a⟩:=h;unfold putAt
  by_cases e:p.1=k
  ·rw[TH e,TH (h1.symm.trans e)];exact⟨h1,h2,b⟩
  ·rw[TJ e,TJ (fun z=>e (h1.trans z))];exact⟨h1,h2,a⟩
def KT.put(r:KT H kvs xs)(k:List Key)(hb:H b=some 52#(k.map kV))(a:RelV y u):KT H (putK kvs k y) (storedH xs k b u):=by
 have e:(kvs.any fun kv=>decide (kv.1=k))=(atKey xs k).isSome:=by
  rw[qL,(r.val k).isSome_eq,Option.isSome_map]
 unfold putK storedH;rw[e]
 by_cases q:(atKey xs k).isSome=true
 ·rw[TH q,TH q];exact r.repl k a
 ·rw[TJ q,TJ q];exact Paired.snoc r ⟨rfl,hb,a⟩
def KT.keeps{H H':Hp}(r:KT H kvs xs)(ht:∀b ys,H b=some 52#ys->H' b=some 52#ys):KT H' kvs xs:=
 Paired.mapP r fun _ _ z=>⟨z.1,ht _ _ z.2.1,z.2.2⟩
section
variable{P:Program}{w:World}{H:Hp}{h:Heap}{a:Addr}
def Ex(ok:HOk P w H h)(e:Rd H a u):zr P w H h a u:=e.ok ok
def l3(ok:HOk P w H h)(e:Rd H a (.dK kvs)):kvs.length<=sizeLine/\(a==Bs)=false/\∃vs,KV kvs vs/\h.DictOf (zp P w) a vs:=
 show zr P w H h a (.dK kvs) from Ex ok e
def yl(ok:HOk P w H h)(e:H a=some (.dK kvs)):kvs.length<=sizeLine/\(a==Bs)=false/\∃vs,KV kvs vs/\h.DictOf (zp P w) a vs:=l3 ok 74#e
def jm{ks:List Key}(ok:HOk P w H h)(e:H a=some 52#(ks.map kV)):(82#(zp P w)).is h ks a:=by
 obtain⟨_,b,r,o,h1,h2,n,c⟩:=(show zr P w H h a 52#(ks.map kV) from ok a _ e);exact⟨o,b.toArray,n,h1,h2,c,by simpa using Ew r⟩
def l5(ok:HOk P w H h)(e:Rd H a 51#kvs):kvs.length<=sizeLine/\(a==Bs)=false/\
  ∃xs,KT H kvs xs/\h.DictOfH 82#(zp P w) a xs:=by
 obtain⟨z,y,xs,r,o,es,ep,h1,h2,b,c,d⟩:=(show zr P w H h a 51#kvs from Ex ok e);refine⟨z,y,xs,r,o,es,ep,h1,h2,b,c,fun x hx=>?_,d⟩;have all:∀{l:List 4#6}{m:List 0#9},KT H l m->∀x∈m,(82#(zp P w)).is h x.1 x.2.1:=by
  intro l m q
  induction q with
  |nil=>intro x hx;exact nomatch hx
  |@cons p q ps qs hq t ih=>
   intro x hx;rcases Qj.mp hx with e|hx
   ·subst e
    exact jm ok (by rw[<-hq.1];exact hq.2.1)
   ·exact ih x hx
 exact all r x hx
def Ey(ok:HOk P w H h)(e:H a=some 51#kvs):kvs.length<=sizeLine/\(a==Bs)=false/\
  ∃xs,KT H kvs xs/\h.DictOfH 82#(zp P w) a xs:=l5 ok 74#e
end
def DGet(H:Hp)(a:Addr)(y:V)(r:Option V):Prop:=
 (∃kvs k,Rd H a (.dK kvs)/\y=kV k/\r=bj kvs k)\/∃kvs k b,Rd H a 51#kvs/\y=.ref b/\H b=some 52#(k.map kV)/\r=bj kvs k
def DPut(H:Hp)(a:Addr)(y v:V)(H':Hp):Prop:=
 (∃kvs k,H a=some (.dK kvs)/\y=kV k/\kvs.length<sizeLine/\H'=upd H a (.dK (putK kvs k v))) \/
 ∃kvs k b,H a=some 51#kvs/\y=.ref b/\H b=some 52#(k.map kV)/\kvs.length<sizeLine/\H'=upd H a 51#(putK kvs k v)
def DGet.k{H:Hp}{k:Key}(e:H a=some (.dK kvs)):DGet H a (kV k) (bj kvs k):=.inl ⟨kvs,k,.inl e,rfl,rfl⟩
def DGet.t{H:Hp}{k:List Key}(e:H a=some 51#kvs)(c:H b=some 52#(k.map kV)):DGet H a 5#b (bj kvs k):=.inr ⟨kvs,k,b,.inl e,rfl,c,rfl⟩
def DPut.k{H:Hp}{k:Key}(e:H a=some (.dK kvs))(b:kvs.length<sizeLine):DPut H a (kV k) v (upd H a (.dK (putK kvs k v))):=.inl ⟨kvs,k,e,rfl,b,rfl⟩
def DPut.t{H:Hp}{k:List Key}(e:H a=some 51#kvs)(c:H b=some 52#(k.map kV))(d:kvs.length<sizeLine):DPut H a 5#b v (upd H a 51#(putK kvs k v)):=.inr ⟨kvs,k,b,e,rfl,c,d,rfl⟩
section
variable{X:Cx}{aa:Ψ}{σ:St}{H:Hp}{s:Shared}{a:Addr}{y v:V}{u r:Value}{o:Option V}{A:Around}{E:Ω}
def Inv.big(I:Inv X aa σ H s):Bs<s⁻¹:=by
 have h:mainGlobals<s⁻¹:=(I.mod.glob.keeps I.bk).lt;exact RH ξ h
def JF{Q:Ω}(hu:A.units+1<cLine)(I:Inv X aa σ H s)(g:DGet H a y 55#v)(j:RelV y u)(h:∀d s',Inv X aa σ H s'->RelV v d->Q d s'):wpAny 0#1 A (getItem 5#a u) Q E s:=by
 rcases g with ⟨kvs,k,e,f,l⟩|⟨kvs,k,b,e,f,q,l⟩
 ·subst f
  obtain⟨z,hd,vs,c,dd⟩:=l3 I.hok e;obtain⟨d,hw,i⟩:=RelO.some_of (v:=v) (o:=valueAt vs k) (by rw[l];exact c.val k);exact wpAny_getItem_of (n7 j) dd.mapOf hw (h d _ (I.tok _) i)
 ·subst f
  cases(show u=Value.ref b from j);obtain⟨z,hd,xs,c,dd⟩:=l5 I.hok e;obtain⟨d,hw,i⟩:=RelO.some_of (v:=v) (o:=(atKey xs k).map 0#17) (by rw[l];exact c.val k);obtain⟨p,hp,r⟩:=Qr.mp hw;refine wpAny_getItem_heap (tupleKind_room_in1 hu) (jm I.hok q) dd hp ?_;rw[r];exact h d _ (I.tok _) i
def yp{Q:Ω}(hu:A.units+1<cLine)(I:Inv X aa σ H s)(g:DGet H a y o)(f:RelV y u)(h:∀s',Inv X aa σ H s'->Q (.bool o.isSome) s'):wpAny 0#1 A (Bz .In u 5#a) Q E s:=by
 rcases g with ⟨kvs,k,e,d,l⟩|⟨kvs,k,b,e,d,i,l⟩
 ·subst d
  obtain⟨z,hd,vs,c,dd⟩:=l3 I.hok e;refine wpAny_in_of (n7 f) hd dd.mapOf ?_;rw[<-(c.val k).isSome_eq,<-l];exact h _ (I.tok _)
 ·subst d
  cases(show u=Value.ref b from f);obtain⟨z,hd,xs,c,dd⟩:=l5 I.hok e;refine wpAny_in_heap (tupleKind_room_in1 hu) (jm I.hok i) hd dd ?_;have q:=(c.val k).isSome_eq;rw[Option.isSome_map] at q;rw[<-q,<-l];exact h _ (I.tok _)
def qR{t':Nat}(I:Inv X aa σ H s)(c:nt (H a))(hs:AU a s.heap h')(he:∃q,h'.get? a=some q)(new:zr X.prog X.w (upd H a ob) h' a ob):Inv X aa σ (upd H a ob) {s with heap:=h',toks:=t'}:=
 I.write (x:=a) (e:=a) c 4#18 (fun b q hb z=>(hs.2 b hb).trans z) he new
def dk_new{h':Heap}{kvs:List (Key×V)}(z:kvs.length<=sizeLine)(hd:(a==Bs)=false)(b:KV kvs vs)(dd:h'.DictOf (zp P w) a vs):zr P w H' h' a (.dK kvs):=⟨z,hd,vs,b,dd⟩
def JG{Q:Unit->Shared->Prop}(hu:A.units+1<cLine)(I:Inv X aa σ H s)(g:DPut H a y v H')(D:RelV y u)(p:RelV v r)(h:∀s',Inv X aa σ H' s'->Q () s'):wpAny 0#1 A (setItem 5#a u r) Q E s:=by
 rcases g with ⟨kvs,k,e,j,l,o⟩|⟨kvs,k,b,e,j,x,l,o⟩
 ·subst j o
  obtain⟨z,hd,vs,d,dd⟩:=yl I.hok e;have hz:vs.length<=sizeLine:=by rw[<-d.length];exact z
  have i:(putK kvs k v).length<=sizeLine:=by have:=yk kvs k v;lia
  refine wpAny_setItem_pairs (hsz:=hz) (n7 D) dd fun h' f hs=>h _ ?_;have he:∃q,h'.get? a=some q:=let ⟨q,_,_,hq,_⟩:=f;⟨q,hq⟩;exact qR I (by rw[e];exact True.intro) hs he (dk_new i hd (d.put k p) f)
 ·subst j o
  cases(show u=Value.ref b from D);obtain⟨z,hd,xs,d,dd⟩:=Ey I.hok e;have hz:xs.length<=sizeLine:=by rw[<-AN d];exact z
  have i:(putK kvs k v).length<=sizeLine:=by have:=yk kvs k v;lia
  refine wpAny_setItem_heap (hsz:=hz) (tupleKind_room_in1 hu) (jm I.hok x) dd fun h' f hs=>h _ ?_;obtain⟨q,es,ep,hq,h2,F,G,_,J⟩:=f;refine qR I (by rw[e];exact True.intro) hs ⟨q,hq⟩ ⟨i,hd,_,(d.put k x p).keeps fun c ys C=>?_,q,es,ep,hq,h2,F,G,J⟩;rw[al (dH C e 0#12)];exact C
end
def n8(i:Expr):Prop:=∀a iv,subscripted i false a iv=operate [a,iv] (getItem a iv)
def JH{s:Shared}{pos:Pos}{T id:String}(g:typeLookup (.type T) "__getitem__"=pure 55#(.builtin id))(hs:n8 slice)(h:wpAny 0#0 A (eval aM env) (fun o c=>wpAny 0#0 A (eval slice env) (fun i a=>a.TypeIs o T/\wpAny 0#0 A (getItem o i) Q E a) E c) E s):wpAny 0#0 A (eval (.Subscript aM slice pos) env) Q E s:=by
 refine Subscript_ (Br h (fun o c e=>Br e (fun i a b=>?_) fun _ _ x=>x) fun _ _ x=>x);obtain⟨hT,b⟩:=b;unfold subscriptTail;refine Aa ?_;rw[getitemInPython_of_ne hT.not_modules];refine Aa (wpAny_specialOf hT g ?_);have fin:wpAny 0#0 A (subscripted slice false o i) (fun r d=>wpAny 0#0 A (letTemporaryGo aM o r >>= fun _=>pure r) Q E d) E a:=by
  rw[hs o i];exact wpAny_operating (Br b (fun r d f=>Aa (wpAny_letTemporaryGo (Ac f))) fun _ _ x=>x)
 first
  |exact Ac (Aa fin)
  |exact Aa (Ac (Aa fin))
  |exact Aa fin
def JI{s:Shared}(I:Inv X aa σ H s)(g:DGet H a y o):s.TypeIs 5#a "dict":=by
 rcases g with ⟨kvs,k,e,_,_⟩|⟨kvs,k,b,e,_,_,_⟩
 ·obtain⟨_,_,vs,_,dd⟩:=l3 I.hok e
  exact dd.typeIs
 ·obtain⟨_,_,xs,_,dd⟩:=l5 I.hok e
  exact dd.typeIs
def gt(td ty:TE):TE:=fun σ H Q=>td σ H fun x H1=>ty σ H1 fun y H2=>∃a v,x=.ref a/\DGet H2 a y 55#v/\Q v H2
def kj(ty td:TE):TE:=fun σ H Q=>ty σ H fun y H1=>td σ H1 fun x H2=>∃a o,x=.ref a/\DGet H2 a y o/\Q (.bl o.isSome) H2
def JJ(td ty tv:TE):TS:=fun D σ H=>tv σ H fun v H1=>td σ H1 fun x H2=>ty σ H2 fun y c=>∃a b,x=.ref a/\DPut c a y v b/\D.nx σ b
section
variable{X:Cx}{o i e aM:Expr}{pos aO eO:Pos}{td ty tv:TE}
def zF(hu:X.A.units+1<cLine)(p:PE X o td)(hi:PE X i ty)(hs:n8 i):PE X (.Subscript o i pos) (gt td ty):=by
 intro aa s σ H Q I h;refine JH PySem.F.slot_dict_getitem.lookup hs (aT (p aa s σ H _ I h) fun u c ⟨x,H1,q,d,e⟩=>aT (hi aa c σ H1 _ q e) fun iv w ⟨y,H2,b,f,a,v,ex,g,j⟩=>?_);subst ex;obtain rfl:u=Value.ref a:=d;exact⟨JI b g,JF hu b g f fun C D r l=>⟨v,H2,r,l,j⟩⟩
def Ez(hu:X.A.units+1<cLine)(hi:PE X i ty)(l:PE X o td):PC X .In i o (kj ty td):=by
 intro aa s σ H Q I h;refine aT (hi aa s σ H _ I h) fun iv b ⟨y,H1,p,c,d⟩=>aT (l aa b σ H1 _ p d) fun u v ⟨x,H2,q,e,a,f,ex,g,j⟩=>?_;subst ex;obtain rfl:u=Value.ref a:=e;exact yp hu q g c fun w r=>⟨.bl f.isSome,H2,r,rfl,j⟩
def gS(hu:X.A.units+1<cLine)(q:PE X o td)(hi:PE X i ty)(w:PE X aM tv)(hs:swapsWith aM 55#(.Subscript o i aO) pos.line X.env=pure false):PS X (.Assign [.Subscript o i aO] aM pos) (JJ td ty tv):=by
 intro aa s σ H D I h;refine wpAny_Assign_Subscript (aT (w aa s σ H _ I h) fun r b ⟨v,H1,C,c,d⟩=>aT (q aa b σ H1 _ C d) fun u e ⟨x,H2,E,f,j⟩=>aT (hi aa e σ H2 _ E j) fun iv L ⟨y,N,F,l,a,G,ex,g,p⟩=>?_) hs;subst ex;obtain rfl:u=Value.ref a:=f;exact JG hu F g l c fun M J=>⟨σ,G,J,p⟩
end
def JK(h:Heap)(hb:Bs<h.objs.size):zr P w H (h.push {cls:=.type "dict",data:=.dict #[]}) h.objs.size (.dK []):=
 ⟨AL _,beq_eq_false_iff_ne.mpr 72#(Aq hb),[],.nil,Heap.DictOf.new h⟩
def EA(h:Heap)(hb:Bs<h.objs.size):zr P w H (h.push {cls:=.type "dict",data:=.dict #[]}) h.objs.size (.dT []):=
 ⟨AL _,beq_eq_false_iff_ne.mpr 72#(Aq hb),[],.nil,_,#[],0,Al _ rfl,⟨rfl,rfl,rfl⟩,rfl,rfl,BC⟩
def JL:TE:=fun _ H Q=>∀p,H p=none->Q 5#p (upd H p (.dK []))
def JM:TE:=fun _ H Q=>∀p,H p=none->Q 5#p (upd H p (.dT []))
section
variable{X:Cx}{pos:Pos}
def EB:PE X (.Dict [] [] pos) JL:=fun aa s σ H Q I h=>
 wpAny_Dict_empty ⟨.ref s⁻¹,_,I.laid (a:=s⁻¹) (o:=.dK []) (t':=s.toks) (fun _ _ q=>Ad _ q) 0#10 (JK s.heap I.big),rfl,h _ 61#Ag⟩
def km:PE X (.Dict [] [] pos) JM:=fun aa s σ H Q I h=>
 wpAny_Dict_empty ⟨.ref s⁻¹,_,I.laid (a:=s⁻¹) (o:=.dT []) (t':=s.toks) (fun _ _ q=>Ad _ q) 0#10 (EA s.heap I.big),rfl,h _ 61#Ag⟩
end
def yt:List (TE×TE)->St->Hp->(List (V×V)->Hp->Prop)->Prop
 |[],_,H,Q=>Q [] H
 |(tk,tv)::r,σ,H,Q=>tk σ H fun x H1=>tv σ H1 fun y H2=>yt r σ H2 fun ps a=>Q ((x,y)::ps) a
abbrev VV:List (V×V)->List (Value×Value)->Prop:=Paired fun p q=>RelV p.1 q.1/\RelV p.2 q.2
def yu(X:Cx)(pos:Pos)(keys:List 66#Expr)(a:List Expr)(b:List (TE×TE)):Prop:=
 ∀(aa:Ψ)(s:Shared)(σ:St)(H:Hp)(Q:List (V×V)->Hp->Prop),Inv X aa σ H s->yt b σ H Q->
  wpAny 0#1 X.A (evalPairs (pairTrees keys a X.env pos)) (fun vs s'=>∃ps H',Inv X aa σ H' s'/\VV ps vs/\Q ps H') X.xe s
def JN{pos:Pos}:yu X pos [] [] []:=fun aa s σ H Q I h=>pairTrees_nil_walk ⟨[],H,I,.nil,h⟩
def JO{pos:Pos}{k v:Expr}(hk:PE X k tk)(l:PE X v tv)(hr:yu X pos ks vs b):yu X pos (some k::ks) (v::vs) ((tk,tv)::b):=fun aa s σ H Q I h=>
 pairTrees_cons_walk (aT (hk aa s σ H _ I h) fun u c ⟨x,H1,o,d,e⟩=>aT (l aa c σ H1 _ o e) fun w f ⟨y,H2,p,g,i⟩=>
  aT (hr aa f σ H2 _ p i) fun A C ⟨ps,q,r,a,j⟩=>⟨(x,y)::ps,q,r,.cons ⟨d,g⟩ a,j⟩)
structure M1(X:Cx)(o:Expr)(m:Str)(bc:Pos)(e:Expr)(aF:Pos):Prop where
 base:attributeBase o m X.env 73#o=eval o X.env
 few:((backTo aF (starEach [e] X.env)).all (fun x=>!x.1)&&(backToKw aF (keywordEach [] X.env)).all (fun x=>x.1.isSome)
  && decide (([e]:List Expr).length+([]:List Keyword).length+(if([]:List Keyword).isEmpty then 0 else 1)<30))=true
 line:(bc.endLine==aF.line)=true
 trees:backTo aF (starEach [e] X.env)=[60#e]
structure M2(X:Cx)(o:Expr)(m:Str)(bc:Pos)(e f:Expr)(aF:Pos):Prop where
 base:attributeBase o m X.env 73#o=eval o X.env
 few:((backTo aF (starEach [e,f] X.env)).all (fun x=>!x.1)&&(backToKw aF (keywordEach [] X.env)).all (fun x=>x.1.isSome)
  && decide (([e,f]:List Expr).length+([]:List Keyword).length+(if([]:List Keyword).isEmpty then 0 else 1)<30))=true
 line:(bc.endLine==aF.line)=true
 trees:backTo aF (starEach [e,f] X.env)=[60#e,60#f]
def IsD(H:Hp)(a:Addr):Prop:=(∃kvs,Rd H a (.dK kvs))\/∃kvs,Rd H a 51#kvs
def JP{s:Shared}(I:Inv X aa σ H s)(d:IsD H a):s.TypeIs 5#a "dict"/\(∀b,Value.ref a=.ref b->∃ob,s.heap.get? b=some ob/\ob.dict=none)/\(a==Bs)=false:=by
 rcases d with ⟨kvs,e⟩|⟨kvs,e⟩
 ·obtain⟨_,hd,vs,_,dd⟩:=l3 I.hok e
  refine⟨dd.typeIs,fun b q=>?_,hd⟩;cases q;obtain⟨ob,_,_,h1,h2,_⟩:=dd;exact⟨ob,h1,h2.2.1⟩
 ·obtain⟨_,hd,xs,_,dd⟩:=l5 I.hok e
  refine⟨dd.typeIs,fun b q=>?_,hd⟩;cases q;obtain⟨ob,_,_,h1,h2,_⟩:=dd;exact⟨ob,h1,h2.2.1⟩
section
variable{X:Cx}{aa:Ψ}{σ:St}{H:Hp}{s:Shared}{a:Addr}{y d:V}{u r:Value}{o:Option V}{A:Around}{E:Ω}
def JQ{Q:Ω}(hu:A.units+1<cLine)(I:Inv X aa σ H s)(g:DGet H a y o)(j:RelV y u)(p:RelV d r)(h:∀i s',Inv X aa σ H s'->RelV (o.getD d) i->Q i s'):wpAny 0#1 A (call (.builtin "dict.get") [.ref a,u,r]) Q E s:=by
 rcases g with ⟨kvs,k,e,f,l⟩|⟨kvs,k,b,e,f,q,l⟩
 ·subst f
  obtain⟨z,hd,vs,c,dd⟩:=l3 I.hok e;refine call_meetsIn SD dd.typeIs PySem.F.entry_dict_get (PySem.F.args_dict_get_3 _ _ _) (meets_dict_get_default (zp X.prog X.w) a (n7 j) hd r) ⟨_,dd.mapOf,h _ _ (I.tok _) ?_⟩;rw[l];exact(c.val k).getD p
 ·subst f
  cases(show u=Value.ref b from j);obtain⟨z,hd,xs,c,dd⟩:=l5 I.hok e;refine call_meetsIn SD dd.typeIs PySem.F.entry_dict_get (PySem.F.args_dict_get_3 _ _ _) (meetsH_dict_get_default 82#(zp X.prog X.w) a b hd r) ⟨tupleKind_room_in1 hu,k,xs,jm I.hok q,dd,h _ _ (I.tok _) ?_⟩;rw[l];exact(c.val k).getD p
end
def JR(td ty tx:TE):TE:=fun σ H Q=>td σ H fun x H1=>∃a,x=.ref a/\IsD H1 a/\ty σ H1 fun y H2=>tx σ H2 fun z b=>∃o,DGet b a y o/\Q (o.getD z) b
section
variable{X:Cx}{o e f:Expr}{bc aF:Pos}{td ty tx:TE}
def JS(hu:X.A.units+1<cLine)(E:PE X o td)(he:PE X e ty)(hf:PE X f tx)(m:M2 X o "get" bc e f aF):PE X (.Call (.Attribute o "get" bc) [e,f] [] aF) (JR td ty tx):=by
 intro aa s σ H Q I h;refine wpAny_Call_method m.base m.few m.line PySem.F.plainAttrs_dict SD PySem.F.type_dict_get (aT (E aa s σ H _ I h) fun u c ⟨x,H1,b,i,a,ex,d,j⟩=>?_);subst ex;obtain rfl:u=Value.ref a:=i;obtain⟨C,D,_⟩:=JP b d;refine⟨C,D,?_⟩;rw[m.trees];refine Calls.callWith_builtin rfl (Calls.evalArgs_plain (Calls.spliced_cons (aT (he aa c σ H1 _ b j) fun iv l ⟨y,H2,G,p,q⟩=>
  Calls.spliced_cons (aT (hf aa l σ H2 _ G q) fun N O ⟨z,J,L,r,P,g,v⟩=>Calls.spliced_nil ?_))))
 exact JQ hu L g p r fun S T M w=>⟨_,J,M,w,v⟩
end
end L2
namespace Att
open PySem PySem.W PySem.Calls PyProof.Rows
def JT:∀(ns:List Int)(vs:List Value),WellAll P h vs (ns.map WData.int)->IntsAre vs ns:=by
 intro ns
 induction ns with
 |nil=>
  intro vs w;rw[SN] at w;cases w;exact .nil
 |cons n ns ih=>
  intro vs w;rw[Aw] at w;cases w with
  |cons a b=>
   cases a;exact .cons _ _ (ih _ b)
def JU{l:OpenLaw}{n:Nat}(o:l.most=some n)(g:l.row.toRowW.claim.pre args=true)(p:WellAll P h vals args):∃a vs ns,vals=[Value.ref a]/\args=[WData.list (ns.map WData.int)]/\h.get? a=some {cls:=.type "list",data:=.seq vs.toArray}/\IntsAre vs ns/\ns.length<=n:=by
 have f:WShape.hasAll [] args [.list .int]=true:=(pre_splitW g).1;have hc:l.pre.holds [] {args:=args}=true:=(pre_splitW g).2;obtain⟨d,r,rfl,h1,h2⟩:=hasAllW_cons f;obtain rfl:=hasAllW_nil h2;obtain⟨xs,rfl,i⟩:=hasW_list h1;obtain⟨ns,rfl⟩:=items_int i;have b:ns.length<=n:=by
  unfold OpenLaw.pre at hc;have c:(WTm.not (.lt (.lit (.int (n:Int))) (.len (.arg 0)))).holds [] {args:=[.list (ns.map .int)]}=true:=by
   have c:=(holds_andW hc).1;rw[o] at c;exact c
  have e:=condW_of c (w_not (w_lt w_lit (w_len_list (w_arg rfl))));rw[Ab] at e;refine Nat.le_of_not_lt fun q=>?_;have j:(n:Int)<((ns.length:Nat):Int):=ω
  first
   |(rw[TK j] at e;exact absurd e ξ)
   |(simp at e;lia)
 cases p with
 |cons w1 w2=>
  cases w2;cases w1 with
  |list ho hall=>exact⟨_,_,ns,rfl,rfl,ho,JT ns _ hall,b⟩
def JV(l:OpenLaw)(args:List WData):l.row.toRowW.claim.post args (.bool true) args=true:=
 postW_of (r:=l.row.toRowW) (X:=(true==true))
  (show WShape.has [] (.bool true) .bool=true by first|rfl|decide|simp[WShape.has,WShape.arms,WShape.armsAll])
  (show(WTm.eq .res (.lit (.bool true))).value [] {args:=args,res:=some (.bool true),after:=args}=some (.bool (true==true)) from w_eq_bool (w_res rfl) w_lit) rfl
def JW{l:OpenLaw}{n:Nat}{q:Program}{p:List Str}{u:(Str->Option Value)->Heap->Prop}{v:World->Heap->Prop}{d:DefRec}(M:l.most=some n)(N:d.params.defaults=[])(call:∀(w:World)(s₀ b:Shared)(mg g:Str->Option Value)(fa:Addr)(o:Obj)(h e i:Value)(a:Addr)(vs:List Value)(ns:List Int),
   Ground q p [] u w s₀ mg g b.heap->v w b.heap->
   b.heap.get? fa=some o->o.data=.func (docDef d.name d.params d.body d.scope h e i)->b.heap.CodeRec e d.name->mg d.name=some 5#fa->
   b.heap.get? a=some {cls:=.type "list",data:=.seq vs.toArray}->IntsAre vs ns->ns.length<=n->b.gens=#[]->
   codeAny (model l.prog w) callerA (.call 5#fa ⟨[.ref a],[]⟩) (fun r s'=>r=.ok (.ret (.bool true))/\OldK b.heap s'.heap/\s'.os=b.os/\AllBare s'.gens) b):
  WalkO q p u v l.row.toRowW d [] (fun f vs=>PySem.call f vs):=by
 intro w s₀ b mg g G Y fa o h e i x kV y hd A j C D args vals as E O P F Q;obtain rfl:x=.none:=Dflts.none j N;obtain rfl:kV=.none:=Dflts.noKw j;obtain⟨a,vs,ns,rfl,rfl,H,I,c⟩:=JU M E F;refine enter_call (Bx (call w s₀ b mg g fa o h e i a vs ns G Y y (fd_plain hd) A C H I c D) fun r s' hq=>?_);obtain⟨rfl,h2,J,L⟩:=hq;exact⟨.inl ⟨.bool true,.bool true,[],rfl,fun _=>rfl,.bool true,JV l _,fun _=>⟨List.Pairwise.nil,fun _ hm=>(nomatch hm)⟩⟩,h2,J,L⟩
end Att
namespace L2
open PySem PySem.Spec PyProof.Rows
def EC:∀{vs:List Value}{ns:List Int},IntsAre vs ns->Vals 1#18 vs
 |_,_,.nil=>.nil
 |_,_,.cons n t h=>.cons ⟨t,rfl⟩ (EC h)
end L2
/- THE LAST THEOREM (shape;LID,My.* are yours):
  My.Adr: a structure of kE addresses that your layer names (classes,functions);My.Txt K t: a structure (Prop) of kE equations over K;
  My.txt_mk:{K} {implicit addresses ..} (e1:nsIn K mainGlobals "law"=some (some 5#f)) (e2:K.lookup f=some ⟨oc,od,.func (fnOf "law" "law" cQ body scope dV kV bD pm an cdv ct),sl⟩) (e3:codeIn K cdv "law"=true) ..:∃t,My.Txt K t
set_option maxRecDepth 100000 in
set_option maxHeartbeats 0 in
theorem PySem.Challenge.cw_LID_holds:PySem.Challenge.rw_LID.Holds := by
 w_on;o_law;k_head;(case hw=>w_witness2)
 k_fill
 refine L2.walk_of (l:=PySem.Challenge.rw_LID) (n:=63) (k:=40) (x:="script") (CX:=fun w=>..) (sp:=fun _=>My.sp_law) rfl ξ rfl ⟨rfl,ξ,ξ⟩ (fun w h Y=>PySem.W.kIn_of Y) ?F ?S ?C
 case F=>
  intro w mg fa h f G g;have T:∃t,My.Txt (L2.KOf f) t:=by
   dsimp only[L2.KOf]                          -- K must cz as «<heap const> w.params» for k_is
   refine' My.txt_mk ?e1 ?e2 ?e3 ..
   (case e1 => PySem.W.k_is)                    -- in e aq: a name -> ae address -> ae object -> ae parts
   (case e2=>PySem.W.k_is)
   ..
  obtain⟨t,T⟩:=T;have i:=g.symm.trans (RV f G T.law);cases i                                       -- fa is e law's own address
  exact⟨_,fun s u => .of_eq rfl,fun base c d => My.law_fn T c d⟩     -- if «.of_eq rfl» comes too early: refine' ⟨_,?b,fun base c d => My.law_fn T c d⟩;exact fun s u => .of_eq rfl
 case S=>exact fun w H a ns j o p=>..
 case C=>exact ..
(e tactic k_is has q namespace: write k_is) -/
namespace L2
open PySem PySem.Spec PyProof.Rows
noncomputable def zbM(s:Stmt):Arguments:=match s with
 |.FunctionDef _ a _ _ _ _ _ _ _ _=>a
 |_=>{posonlyargs:=[],args:=[],vararg:=none,kwonlyargs:=[],kw_defaults:=[],kwarg:=none,defaults:=[]}
noncomputable def zau(s:Stmt):List Stmt:=match s with
 |.FunctionDef _ _ b _ _ _ _ _ _ _=>b
 |_=>[]
noncomputable def zd(s:Stmt):Scope:=match s with
 |.FunctionDef _ _ _ _ _ _ sc _ _ _=>sc
 |_=>{kind:=.function,names:=[],isGenerator:=false,isCoroutine:=false}
abbrev aK:fr:=fun _ _ _ _ _ _=>False
abbrev E0:XK:=fun _ _ _=>False
def av:dU aK X E0:=fun _ _ _ _ _ _ _ h=>h.elim
structure Fun(K:Af)(x ah:Str)(st:Stmt)(f:Addr)(fd:FuncData):Prop where
 ex:∃(oc:Value)(od:Option Addr)(kV bD pm:Value)(an:Option Addr)(cdv ct:Value)(cG:Array 66#Value),
  fd=RR x ah (zbM st) (zau st) 76#st .none kV bD pm an cdv ct/\K.lookup f=some ⟨oc,od,.func fd,cG⟩/\SW K cdv ah=true
 kp:Sv K 5#f=true
section
variable{P:Program}{w:World}{K:Af}{mg:Str->Option Value}{base:Heap}
def Fun.ok{st:Stmt}{k:Nat}{sp:Sp}(F:Fun K x a st f fd)(S:zj N ps 76#st)(len:∀vs H Q E,sp vs H Q E->vs.length=ps.length)(d:∀(cdv:Value)(A:Around)(outer:List Env)(s:Shared)(H:Hp)(vs:List V)(Q:VK)(E:XK),Room k (A.deeper (envOfC a 76#st s⁻¹ f cdv))->sp vs H Q E->
   ∃t,PSs (dL aK P w K mg base N a 76#st f cdv A outer s H E).nox (zau st) t/\t {nx:=fun _ H'=>Q .non H',rt:=Q} (start N vs) H):az P w K mg base aK (k+1) f fd ps sp:=by
 obtain⟨e,g,kV,i,j,l,cdv,ct,o,rfl,lk,c⟩:=F.ex;refine Ei lk c S len fun A outer s H vs Q E hr b=>?_;obtain⟨t,h,q⟩:=d cdv A outer s H vs Q E hr b;exact⟨t,h.nox,q⟩
def Fun.binds{st:Stmt}{ps:List Str}(F:Fun K x d st f fd)(h:∀(kV a b:Value)(c:Option Addr)(cdv ct:Value)(us:List Value),us.length=ps.length->bindArgs (RR x d (zbM st) (zau st) 76#st .none kV a b c cdv ct) ⟨us,[]⟩=pure (ps.zip us)):Binds K fd ps []:=by
 obtain⟨e,g,kV,a,b,c,cdv,ct,i,rfl,lk,j⟩:=F.ex;exact .all (h kV a b c cdv ct)
def JX{st:Stmt}{h:Value}{i e:Option Addr}{g:Array 66#Value}{kV b d cdv ct:Value}(l:K.lookup f=some ⟨h,i,.func (RR x a (zbM st) (zau st) 76#st .none kV b d e cdv ct),g⟩)(c:SW K cdv a=true)(k:Sv K 5#f=true):Fun K x a st f (RR x a (zbM st) (zau st) 76#st .none kV b d e cdv ct):=⟨⟨h,i,kV,b,d,e,cdv,ct,g,rfl,l,c⟩,k⟩
end
def dN{k:Nat}(hr:Room k A):A.units+1<cLine:=SX (Nat.add_le_add_left (by decide:1<=64) _) hr.units
def fV{n:Nat}(h:n<=1000):n<sizeLine:=SX h ξ
section
variable{X:Cx}
def pv(i:Nat){pos:Pos}(a:X.N[i]?=some x:=by rfl)(b:p4 X.env.scope x:=by first|exact Or.inl rfl|exact Or.inr 2#1|exact Or.inr (Or.inr rfl))(hd:0#14=false:=by decide)
  (c:(x==("__classdict__":Str))=false:=by decide):PE X (.Name x pos) 71#i:=IF a b hd c
end
def a6{A B:Prop}(h:B):if false=true then A else B:=by
 rw[TJ Ax];exact h
def bg{A B:Prop}(h:A):if true=true then A else B:=by
 rw[TH rfl];exact h
def eB{c A B:Prop}[Decidable c](h1:c->A)(h2:¬c->B):if c then A else B:=by
 by_cases h:c
 ·rw[TH h]
  exact h1 h
 ·rw[TJ h]
  exact h2 h
def Same(H H':Hp):Prop:=∀b o,H b=some o->H' b=some o
def Same.refl(H:Hp):Same H H:=fun _ _ h=>h
def Same.trans(a:Same H H1)(b:Same H1 H2):Same H H2:=fun c o h=>b c o (a c o h)
def Same.free(e:Same H H')(h:H' l=Option.none):H l=Option.none:=by
 cases q:H l with
 |none=>rfl
 |some o=>
  rw[e l o q] at h;cases h
def Same.seq{K:Af}(e:Same H H')(h:SqL K H a xs):SqL K H' a xs:=by
 rcases h with (h|⟨o,h⟩)|h
 ·exact .inl 74#(e _ _ h)
 ·exact .inl (.inr ⟨o,e _ _ h⟩)
 ·exact .inr h
end L2
end
section
namespace Tim
open PySem PyProof.Rows
noncomputable def R(ρ:Keyed->Int)(xs:Array Keyed)(i:Nat):Int:=match xs[i]? with
 |some p=>ρ p
 |none=>0
def n9{xs ys:Array Keyed}{i j:Nat}(h:xs[i]?=ys[j]?):R ρ xs i=R ρ ys j:=by unfold R;rw[h]
def dw{xs:Array Keyed}{i:Nat}(h:xs[i]?=some p):R ρ xs i=ρ p:=by unfold R;rw[h]
def aZ(ρ:Keyed->Int)(xs:Array Keyed)(lo hi:Nat):Prop:=∀i j,lo<=i->i<=j->j<hi->R ρ xs i<=R ρ xs j
def l6(ρ:Keyed->Int)(xs:Array Keyed)(lo hi:Nat):Prop:=∀i j,lo<=i->i<=j->j<hi->R ρ xs j<=R ρ xs i
def zS{xs:Array Keyed}{i j:Nat}(a:j<=xs.size)(k:Nat):R ρ (mirror xs i j ((j-i) / 2)) k=if i<=k/\k<j then R ρ xs (i+j-1-k) else R ρ xs k:=by
 have e:=getElem?_mirror_all (i:=i) a k
 by_cases h1:i<=k/\k<j
 ·rw[TH h1] at e ⊢;exact n9 e
 ·rw[TJ h1] at e ⊢;exact n9 e
def zt{xs:Array Keyed}{i j:Nat}(b:j<=xs.size)(a:∀k,i<=k->k<j->R ρ xs k=R ρ xs (j-1))(k:Nat):R ρ (mirror xs i j ((j-i) / 2)) k=R ρ xs k:=by
 rw[zS b];split
 ·rw[a _ ω ω,a k ω ω]
 ·rfl
def l'{xs:Array Keyed}{src d:Nat}(hs:src<xs.size)(hd:d<=src)(k:Nat):R ρ (bubble xs src d) k=if k=src-d then R ρ xs src else if src-d<k/\k<=src then R ρ xs (k-1) else R ρ xs k:=by
 have e:=getElem?_bubble hs d hd k
 by_cases h1:k=src-d
 ·rw[TH h1] at e ⊢;exact n9 e
 ·rw[TJ h1] at e ⊢
  by_cases h2:src-d<k/\k<=src
  ·rw[TH h2] at e ⊢;exact n9 e
  ·rw[TJ h2] at e ⊢;exact n9 e
structure io(prog:Program)(w:World)(A:Around)(s:Shared)(κ:SortKind)(a₀:Array Keyed)(ρ:Keyed->Int):Prop where
 lt:∀x y,x∈a₀.toList->y∈a₀.toList->∀(Q:Bool->Shared->Prop)(E:Ω),Q (decide (ρ x<ρ y)) s->wpAny 0#0 A (keyLt' κ x.1 y.1) Q E s
structure B(κ:SortKind)(a₀:Array Keyed)(st:SortSt):Prop where
 perm:(9#st).Perm a₀
 kind:kindOf st=κ
 failed:failedOf st=none
def B.size{st:SortSt}(h:B κ a₀ st):(9#st).size=a₀.size:=h.perm.size_eq
def B.setArr{st:SortSt}(h:B κ a₀ st){xs:Array Keyed}(hp:xs.Perm 9#st):B κ a₀ (setArr st xs):=⟨hp.trans h.perm,h.kind,h.failed⟩
def B.mem{st:SortSt}(h:B κ a₀ st){p:Keyed}(hp:p∈(arrOf st).toList):p∈a₀.toList:=(R0.mp h.perm).mem_iff.mp hp
def ED{xs:Array Keyed}{i:Nat}(hi:i<xs.size):∃p,xs[i]?=some p/\p∈xs.toList:=⟨xs[i],getElem?_pos _ i hi,by simp⟩
structure Pre(lo:Nat)(st af:SortSt):Prop where
 arr:∀k,k<lo->(arrOf af)[k]?=(9#st)[k]?
 pend:pendingOf af=pendingOf st
def Pre.refl{lo:Nat}{st:SortSt}:Pre lo st st:=⟨fun _ _=>rfl,rfl⟩
def Pre.trans{lo:Nat}(x:Pre lo a b)(y:Pre lo b c):Pre lo a c:=⟨fun k h=>(y.arr k h).trans (x.arr k h),y.pend.trans x.pend⟩
def Pre.mir{lo i j:Nat}{st:SortSt}(a:j<=(9#st).size)(hi:lo<=i):Pre lo st (setArr st (mirror 9#st i j ((j-i) / 2))):=
 ⟨fun k h=>by show(mirror _ _ _ _)[k]?=_;rw[getElem?_mirror_all a,TJ ω],rfl⟩
def Pre.bub{lo src d:Nat}{st:SortSt}(hs:src<(9#st).size)(hd:d<=src)(a:lo<=src-d):Pre lo st (setArr st (bubble 9#st src d)):=
 ⟨fun k h=>by show(bubble _ _ _)[k]?=_;rw[getElem?_bubble hs d hd,TJ ω,TJ ω],rfl⟩
section
variable{prog:Program}{w:World}{A:Around}{E:Ω}{s:Shared}{κ:SortKind}{a₀:Array Keyed}{ρ:Keyed->Int}
def JY(C:io prog w A s κ a₀ ρ){st:SortSt}(a:B κ a₀ st){x y:Keyed}(hx:x∈a₀.toList)(hy:y∈a₀.toList){Q:Option Bool->SortSt->Prop}(h:Q (some (decide (ρ x<ρ y))) st):wpS 0#0 A E s (lt' x y) Q st:=by
 rw[lt'_eq];refine wpS_bind (wpS_get ?_);rw[a.kind];refine wpS_bind (wpS_lift (wpAny_attempt (C.lt x y hx hy _ _ ⟨rfl,?_⟩)));exact wpS_pure h
def EE{st:SortSt}{xs:Array Keyed}{i:Nat}(h:xs[i]?=some p){Q:Keyed->SortSt->Prop}(hq:Q p st):wpS 0#0 A E s (elem' xs i) Q st:=by
 rw[elem'_eq,h];exact wpS_pure hq
def n_(C:io prog w A s κ a₀ ρ){st:SortSt}(a:B κ a₀ st){i j:Nat}(hi:i<a₀.size)(c:j<a₀.size){Q:Option Bool->SortSt->Prop}(h:Q (some (decide (R ρ 9#st i<R ρ 9#st j))) st):wpS 0#0 A E s (ltAt' i j) Q st:=by
 obtain⟨p,e1,b⟩:=ED (xs:=arrOf st) (i:=i) (by rw[a.size];exact hi);obtain⟨q,e2,m2⟩:=ED (xs:=arrOf st) (i:=j) (by rw[a.size];exact c);rw[ltAt'_eq];refine wpS_bind (wpS_get ?_);show wpS _ _ _ _ (do let x <-elem' 9#st i;let y <-elem' 9#st j;lt' x y) Q st;refine wpS_bind (EE e1 (wpS_bind (EE e2 (JY C a (a.mem b) (a.mem m2) ?_))));rw[dw e1,dw e2] at h;exact h
noncomputable def asc(lo a b:Nat):StateT SortSt Sem AscSt:=
 forIn [a:b] ((none,a):AscSt) fun _ __s=>do
  let __x <-ltAt' (lo+__s.snd) (lo+__s.snd-1)
  match __x with
  |some smaller=>if smaller=true then pure (ForInStep.done (none,__s.snd)) else pure (ForInStep.yield (none,__s.snd+1))
  |_=>pure (ForInStep.done (some none,__s.snd))
noncomputable def oe(lo n a:Nat):StateT SortSt Sem 66#Nat:=do
 reverseSlice' lo (lo+n)
 let __s <-asc lo n a
 match __s.fst with
 |some r=>pure r
 |none=>pure (some __s.snd)
noncomputable def qT(lo n a:Nat):StateT SortSt Sem DescSt:=
 forIn [n:a] ((none,n,0):DescSt) fun _ __s=>do
  let __x <-ltAt' (lo+__s.snd.fst) (lo+__s.snd.fst-1)
  match __x with
  |some smaller=>
   if smaller=true then
    if __s.snd.snd>0 then do
     reverseSlice' (lo+__s.snd.fst-(__s.snd.snd+1)) (lo+__s.snd.fst)
     pure (ForInStep.yield (none,__s.snd.fst+1,0))
    else pure (ForInStep.yield (none,__s.snd.fst+1,0))
   else do
    let __x <-ltAt' (lo+__s.snd.fst-1) (lo+__s.snd.fst)
    match __x with
    |some larger=>
     if larger=true then pure (ForInStep.done (none,__s.snd.fst,__s.snd.snd))
     else pure (ForInStep.yield (none,__s.snd.fst+1,__s.snd.snd+1))
    |_=>pure (ForInStep.done (some none,__s.snd.fst,__s.snd.snd))
  |_=>pure (ForInStep.done (some none,__s.snd.fst,__s.snd.snd))
noncomputable def og(lo n a:Nat):StateT SortSt Sem 66#Nat:=do
 liftM (rule "list.sort.descending-run")
 let __s <-qT lo (n+1) a
 match __s.fst with
 |some r=>pure r
 |none=>
  if __s.snd.snd>0 then do
   reverseSlice' (lo+__s.snd.fst-(__s.snd.snd+1)) (lo+__s.snd.fst)
   oe lo __s.snd.fst a
  else oe lo __s.snd.fst a
def br{b c:Type}{m:StateT SortSt Sem b}{f g:b->StateT SortSt Sem c}(h:∀a,f a=g a):(m >>= f)=(m >>= g):=by
 have e:f=g:=funext h;rw[e]
def JZ(lo d:Nat):countRun' lo d=(do
  let __s <-asc lo 1 d
  match __s.fst with
  |some r=>pure r
  |none=>
   if(__s.snd==d)=true then pure (some __s.snd)
   else if __s.snd>1 then do
    let __x <-ltAt' lo (lo+__s.snd-1)
    match __x with
    |some rose=>if rose=true then pure (some __s.snd) else do
      reverseSlice' lo (lo+__s.snd)
      og lo __s.snd d
    |_=>pure none
   else og lo __s.snd d):=by
 rw[countRun'_eq];unfold og oe qT asc;refine br fun g=>?_;obtain⟨r,n⟩:=g;cases r with
 |some r=>rfl
 |none=>
  dsimp only;split
  ·rfl
  ·split
   ·refine br fun x=>?_
    cases x with
    |none=>rfl
    |some rose=>
     dsimp only;split
     ·rfl
     ·refine br fun _r=>br fun _u=>br fun e=>?_
      obtain⟨c,n2,h⟩:=e;cases c with
      |some c=>rfl
      |none=>
       dsimp only;split
       ·refine br fun _v=>br fun _w=>br fun a=>?_
        obtain⟨b,f⟩:=a;cases b<;>rfl
       ·refine br fun _w=>br fun a=>?_
        obtain⟨b,f⟩:=a;cases b<;>rfl
   ·refine br fun _u=>br fun e=>?_
    obtain⟨c,n2,h⟩:=e;cases c with
    |some c=>rfl
    |none=>
     dsimp only;split
     ·refine br fun _v=>br fun _w=>br fun a=>?_
      obtain⟨b,f⟩:=a;cases b<;>rfl
     ·refine br fun _w=>br fun a=>?_
      obtain⟨b,f⟩:=a;cases b<;>rfl
def EF(C:io prog w A s κ a₀ ρ){st:SortSt}{lo a d:Nat}{Q:AscSt->SortSt->Prop}(F:lo+d<=a₀.size)(ha:1<=a)(u:a<=d)(v:B κ a₀ st)(hs:aZ ρ 9#st lo (lo+a))(h:∀n,a<=n->n<=d->aZ ρ 9#st lo (lo+n)->(n=d\/R ρ 9#st (lo+n)<R ρ 9#st (lo+n-1))->Q (none,n) st):wpS 0#0 A E s (asc lo a d) Q st:=by
 unfold asc;refine wpS_forRange (I:=fun x c f=>f=st/\c=(none,x)/\aZ ρ 9#st lo (lo+x)) ?step ?fin ⟨rfl,rfl,hs⟩
 case fin=>
  rintro c f ⟨rfl,rfl,e⟩;rw[show max a d=d from ω] at e ⊢;exact h d u 0#10 e 4#18
 case step=>
  rintro x c f r D ⟨rfl,rfl,e⟩;dsimp only;refine wpS_bind (n_ C v ω ω ?_)
  by_cases b:R ρ 9#f (lo+x)<R ρ 9#f (lo+x-1)
  ·simp only[b,decide_true,if_true]
   exact wpS_pure (h x r ω e (.inr b))
  ·simp only[b,decide_false,Am,if_false]
   refine wpS_pure ⟨rfl,rfl,fun i j q g y=>?_⟩
   by_cases o:j<lo+x
   ·exact e i j q g o
   ·have l:j=lo+x:=ω
    subst l
    by_cases p:i=lo+x
    ·subst p;exact QG _
    ·exact Int.le_trans (e i (lo+x-1) q ω ω) (Int.not_lt.mp b)
def qU{st:SortSt}{Q:Unit->SortSt->Prop}(h:Q () (setArr st (mirror 9#st i j ((j-i) / 2)))):wpS 0#0 A E s (reverseSlice' i j) Q st:=by
 rw[reverseSlice'_eq];exact wpS_modify h
end
def Tl(τ:Keyed->Int)(xs:Array Keyed)(m:Nat):Prop:=∀i j,i<j->m<=j->j<xs.size->R τ xs i<=R τ xs j
def St(ρ τ:Keyed->Int)(xs:Array Keyed)(lo hi:Nat):Prop:=∀i j,lo<=i->i<j->j<hi->R ρ xs i=R ρ xs j->R τ xs i<=R τ xs j
def As(ρ τ:Keyed->Int)(xs:Array Keyed)(lo hi:Nat):Prop:=∀i j,lo<=i->i<j->j<hi->R ρ xs i=R ρ xs j->R τ xs j<=R τ xs i
def Tl.mono{m n:Nat}(h:Tl τ xs m)(d:m<=n):Tl τ xs n:=fun i j a b c=>h i j a ω c
def J0(xs:Array Keyed)(i j m:Nat):(mirror xs i j m).size=xs.size:=(mirror_perm xs i j m).size_eq
def Tl.mir{a b m:Nat}(h:Tl τ xs m)(hb:b<=xs.size)(e:b<=m):Tl τ (mirror xs a b ((b-a) / 2)) m:=fun i j c d hs=>by
 rw[J0] at hs;rw[zS hb,zS hb,TJ (show ¬(a<=j/\j<b) from ω)];split
 ·exact h _ _ ω d hs
 ·exact h _ _ c d hs
section
variable{prog:Program}{w:World}{A:Around}{E:Ω}{s:Shared}{κ:SortKind}{a₀:Array Keyed}{ρ τ:Keyed->Int}
abbrev ko(κ:SortKind)(a₀:Array Keyed)(ρ τ:Keyed->Int)(lo ak:Nat)(st:SortSt)(Q:Option Nat->SortSt->Prop):Prop:=
 ∀m af,B κ a₀ af->Pre lo st af->1<=m->m<=ak->aZ ρ 9#af lo (lo+m)->St ρ τ 9#af lo (lo+m)->Tl τ 9#af (lo+m)->Q 55#m af
def EG(C:io prog w A s κ a₀ ρ){st o:SortSt}{lo n d:Nat}(v:lo+d<=a₀.size)(h1:1<=n)(g:n<=d)(p:B κ a₀ st)(x:Pre lo o st)(hs:l6 ρ 9#st lo (lo+n))(ha:As ρ τ 9#st lo (lo+n))(ht:Tl τ 9#st (lo+n))(h:ko κ a₀ ρ τ lo d o Q):wpS 0#0 A E s (oe lo n d) Q st:=by
 unfold oe;have hsz:lo+n<=(9#st).size:=by rw[p.size];lia
 refine wpS_bind (qU ?_);have f:B κ a₀ (setArr st 2#10):=p.setArr (mirror_perm _ _ _ _);have b:Tl τ 9#(setArr st (mirror (arrOf st) lo (lo+n) ((lo+n-lo) / 2))) (lo+n):=ht.mir hsz 0#10;refine wpS_bind (EF C v h1 g f ?_ fun m y q e _=>wpS_pure (h m _ f (x.trans (.mir hsz 0#10)) ω q e (fun i j r a u he=>?_) (b.mono ω)))
 ·intro i j r a u
  show R ρ 2#10 i<=R ρ 2#10 j;rw[zS hsz,zS hsz,TH ω,TH ω];exact hs _ _ ω ω ω
 ·by_cases l:lo+n<=j
  ·exact b i j a l (by rw[f.size];lia)
  ·have c:R ρ 2#10 i=R ρ 2#10 j:=he
   show R τ 2#10 i<=R τ 2#10 j;rw[zS hsz,zS hsz,TH ω,TH ω] at c;rw[zS hsz,zS hsz,TH ω,TH ω];exact ha _ _ ω ω ω c.symm
structure Grp(ρ τ:Keyed->Int)(xs:Array Keyed)(lo x a8:Nat):Prop where
 as:As ρ τ xs lo (lo+x-(a8+1))
 inc:∀i j,lo+x-(a8+1)<=i->i<j->j<lo+x->R τ xs i<=R τ xs j
 str:∀i,lo<=i->i<lo+x-(a8+1)->R ρ xs (lo+x-1)<R ρ xs i
 tl:Tl τ xs (lo+x)
def Grp.turned{lo x a:Nat}(g:Grp ρ τ xs lo x a)(hsz:lo+x<=xs.size)(hq:a+1<=x)(he:∀i,lo+x-(a+1)<=i->i<lo+x->R ρ xs i=R ρ xs (lo+x-1)):As ρ τ (mirror xs (lo+x-(a+1)) (lo+x) ((lo+x-(lo+x-(a+1))) / 2)) lo (lo+x):=fun i j e b f hr=>by
 rw[zt hsz he,zt hsz he] at hr;rw[zS hsz,zS hsz]
 by_cases c:j<lo+x-(a+1)
 ·rw[TJ ω,TJ ω];exact g.as i j e b c hr
 ·by_cases d:i<lo+x-(a+1)
  ·have:=g.str i e d
   rw[he j ω f] at hr;lia
  ·rw[TH ω,TH ω]
   exact g.inc _ _ ω ω ω
def Grp.one{lo x:Nat}(g:Grp ρ τ xs lo x 0):As ρ τ xs lo (lo+x):=fun i j d a e hr=>by
 by_cases c:j<lo+x-1
 ·exact g.as i j d a c hr
 ·have b:j=lo+x-1:=ω
  have:=g.str i d ω;rw[<-b] at this;lia
def J1(C:io prog w A s κ a₀ ρ){st L:SortSt}{lo n F:Nat}{Q:DescSt->SortSt->Prop}(hn:lo+F<=a₀.size)(h1:1<=n)(M:n<=F)(U:B κ a₀ st)(W:Pre lo L st)(hs:l6 ρ 9#st lo (lo+n))(X:Grp ρ τ 9#st lo n 0)(h:∀m e b,B κ a₀ b->Pre lo L b->n<=m->m<=F->l6 ρ 9#b lo (lo+m)->e+1<=m->(∀i,lo+m-(e+1)<=i->i<lo+m->R ρ 9#b i=R ρ 9#b (lo+m-1))->Grp ρ τ 9#b lo m e->Q (none,m,e) b):wpS 0#0 A E s (qT lo n F) Q st:=by
 unfold qT;refine wpS_forRange (I:=fun x c b=>∃e,c=(none,x,e)/\B κ a₀ b/\Pre lo L b/\l6 ρ 9#b lo (lo+x)/\e+1<=x/\
   (∀i,lo+x-(e+1)<=i->i<lo+x->R ρ 9#b i=R ρ 9#b (lo+x-1))/\Grp ρ τ 9#b lo x e) ?step ?fin ⟨0,rfl,U,W,hs,ω,fun i h1 h2=>by congr 1;lia,X⟩
 case fin=>
  rintro c b ⟨e,rfl,r,H,u,hq,he,g⟩;rw[show max n F=F from ω] at u hq he g ⊢;exact h F e b r H M 0#10 u hq he g
 case step=>
  rintro x c b S Y ⟨e,rfl,r,H,u,hq,he,g⟩;dsimp only;have hsz:lo+x<=(9#b).size:=by rw[r.size];lia
  refine wpS_bind (n_ C r ω ω ?_)
  by_cases d:R ρ 9#b (lo+x)<R ρ 9#b (lo+x-1)
  ·simp only[d,decide_true,if_true]
   have l:∀xs:Array Keyed,(∀k,R ρ xs k=R ρ 9#b k)->l6 ρ xs lo (lo+(x+1)):=by
    intro xs hk i j J y O;rw[hk,hk]
    by_cases q:j<lo+x
    ·exact u i j J y q
    ·have D:j=lo+x:=ω
     subst D
     by_cases G:i=lo+x
     ·subst G;exact QG _
     ·exact Int.le_trans (SO d) (u i (lo+x-1) J ω ω)
   have o:∀xs:Array Keyed,(∀k,R ρ xs k=R ρ 9#b k)->As ρ τ xs lo (lo+x)->Tl τ xs (lo+x)->Grp ρ τ xs lo (x+1) 0:=fun xs hk a t=>by
    refine⟨?_,fun i j h1 h2 P=>ω,fun i h1 h2=>?_,t.mono ω⟩
    ·rw[show lo+(x+1)-(0+1)=lo+x from ω];exact a
    ·rw[show lo+(x+1)-1=lo+x from ω,hk,hk]
     exact Int.lt_of_lt_of_le d (u i (lo+x-1) h1 ω ω)
   by_cases v:e>0
   ·rw[TH v]
    refine wpS_bind (qU (wpS_pure ⟨0,rfl,r.setArr (mirror_perm _ _ _ _),H.trans (.mir hsz ω),l _ (zt hsz he),ω,fun i h1 h2=>by congr 1;lia,o _ (zt hsz he) (g.turned hsz hq he) (g.tl.mir hsz 0#10)⟩))
   ·rw[TJ v]
    have T:e=0:=ω
    subst T;exact wpS_pure ⟨0,rfl,r,H,l _ (fun _=>rfl),ω,fun i h1 h2=>by congr 1;lia,o _ (fun _=>rfl) g.one g.tl⟩
  ·simp only[d,decide_false,Am,if_false]
   refine wpS_bind (n_ C r ω ω ?_)
   by_cases f:R ρ 9#b (lo+x-1)<R ρ 9#b (lo+x)
   ·simp only[f,decide_true,if_true]
    exact wpS_pure (h x e b r H S ω u hq he g)
   ·simp only[f,decide_false,Am,if_false]
    have p:R ρ 9#b (lo+x)=R ρ 9#b (lo+x-1):=ω
    refine wpS_pure ⟨e+1,rfl,r,H,fun i j J y O=>?_,ω,fun i h1 h2=>?_,?_⟩
    ·by_cases q:j<lo+x
     ·exact u i j J y q
     ·have D:j=lo+x:=ω
      subst D
      by_cases G:i=lo+x
      ·subst G;exact QG _
      ·rw[p];exact u i (lo+x-1) J ω ω
    ·rw[show lo+(x+1)-1=lo+x from ω]
     by_cases N:i=lo+x
     ·subst N;rfl
     ·rw[p];exact he i ω ω
    ·have hb:lo+(x+1)-(e+1+1)=lo+x-(e+1):=ω
     refine⟨by rw[hb];exact g.as,fun i j h1 h2 P=>?_,fun i h1 h2=>?_,g.tl.mono ω⟩
     ·by_cases q:j<lo+x
      ·exact g.inc i j ω h2 q
      ·exact g.tl i j h2 ω (by rw[r.size];lia)
     ·rw[show lo+(x+1)-1=lo+x from ω,p]
      exact g.str i h1 ω
def EH(C:io prog w A s κ a₀ ρ){st u:SortSt}{lo n b:Nat}(f:lo+b<=a₀.size)(l:n+1<=b)(D:B κ a₀ st)(F:Pre lo u st)(hs:l6 ρ 9#st lo (lo+(n+1)))(G:Grp ρ τ 9#st lo (n+1) 0)(h:ko κ a₀ ρ τ lo b u Q):wpS 0#0 A E s (og lo n b) Q st:=by
 unfold og;refine wpS_bind (wpS_lift (wpAny_rule ⟨rfl,?_⟩));refine wpS_bind (J1 C f ω l D F hs G fun m o c d p H q r hq he g=>?_);dsimp only;have hsz:lo+m<=(9#c).size:=by rw[d.size];lia
 by_cases a:o>0
 ·rw[TH a]
  refine wpS_bind (qU (EG C f ω q (d.setArr (mirror_perm _ _ _ _)) (p.trans (.mir hsz ω)) ?_ (g.turned hsz hq he) (g.tl.mir hsz 0#10) h));intro i j v e x;show R ρ (mirror 9#c _ _ _) j<=R ρ (mirror 9#c _ _ _) i;rw[zt hsz he,zt hsz he];exact r i j v e x
 ·rw[TJ a]
  have y:o=0:=ω
  subst y;exact EG C f ω q d p r g.one g.tl h
def J2(C:io prog w A s κ a₀ ρ){st:SortSt}{lo r:Nat}(D:lo+r<=a₀.size)(h1:1<=r)(f:B κ a₀ st)(ht:Tl τ 9#st lo)(h:ko κ a₀ ρ τ lo r st Q):wpS 0#0 A E s (countRun' lo r) Q st:=by
 rw[JZ];refine wpS_bind (EF C D (Ag 1) h1 f (fun i j c b p=>?_) fun n G H v J=>?_)
 ·have:i=j:=ω
  subst this;exact QG _
 dsimp only;have I:St ρ τ 9#st lo (lo+n):=fun i j c b p _=>ht i j b ω (by rw[f.size];lia)
 by_cases l:n=r
 ·rw[TH 6#l]
  exact wpS_pure (h n st f .refl G H v I (ht.mono ω))
 ·rw[TJ 6#l]
  have e:R ρ 9#st (lo+n)<R ρ 9#st (lo+n-1):=J.resolve_left l
  by_cases u:n>1
  ·rw[TH u]
   refine wpS_bind (n_ C f ω ω ?_)
   by_cases d:R ρ 9#st lo<R ρ 9#st (lo+n-1)
   ·simp only[d,decide_true,if_true]
    exact wpS_pure (h n st f .refl G H v I (ht.mono ω))
   ·simp only[d,decide_false,Am,if_false]
    have hsz:lo+n<=(9#st).size:=by rw[f.size];lia
    have a:∀k,lo<=k->k<lo+n->R ρ 9#st k=R ρ 9#st (lo+n-1):=by
     intro k c hk;have M:=v lo k ω c hk;have N:=v k (lo+n-1) c ω ω;lia
    refine wpS_bind (qU (EH C D ω (f.setArr (mirror_perm _ _ _ _)) (.mir hsz 0#10) ?_ ⟨?_,?_,?_,?_⟩ h))
    ·intro i j c b p
     show R ρ (mirror 9#st _ _ _) j<=R ρ (mirror 9#st _ _ _) i;rw[zt hsz a,zt hsz a]
     by_cases F:j<lo+n
     ·rw[a i ω ω,a j ω F];exact QG _
     ·have x:j=lo+n:=ω
      subst x
      by_cases o:i=lo+n
      ·subst o;exact QG _
      ·rw[a i ω ω];exact SO e
    ·rw[show lo+(n+1)-(0+1)=lo+n from ω]
     intro i j c b p _;show R τ (mirror 9#st _ _ _) j<=R τ (mirror 9#st _ _ _) i;rw[zS hsz,zS hsz,TH ω,TH ω];exact ht _ _ ω ω ω
    ·intro i j h1 h2 L;lia
    ·intro i c hi
     show R ρ (mirror 9#st _ _ _) _<R ρ (mirror 9#st _ _ _) i;rw[zt hsz a,zt hsz a,show lo+(n+1)-1=lo+n from ω,a i c ω];exact e
    ·exact(ht.mono (show lo<=lo+n from ω)).mir hsz 0#10|>.mono ω
  ·rw[TJ u]
   have q:n=1:=ω
   subst q;refine EH C D ω f .refl ?_ ⟨?_,?_,?_,ht.mono ω⟩ h
   ·intro i j c b p
    by_cases o:i=j
    ·subst o;exact QG _
    ·have g:i=lo:=ω
     have y:j=lo+1:=ω
     subst g;subst y;exact SO e
   ·intro i j c b p;lia
   ·intro i j h1 h2 L;lia
   ·intro i c hi
    have g:i=lo:=ω
    subst g;exact e
def J3(C:io prog w A s κ a₀ ρ){st:SortSt}{lo n ok:Nat}{Q:Bool->SortSt->Prop}(hn:lo+n<=a₀.size)(T:ok<=n)(sj:1<=ok)(U:B κ a₀ st)(hs:aZ ρ 9#st lo (lo+ok))(J:St ρ τ 9#st lo (lo+ok))(W:Tl τ 9#st (lo+ok))(h:∀a,B κ a₀ a->Pre lo st a->aZ ρ 9#a lo (lo+n)->St ρ τ 9#a lo (lo+n)->Q true a):wpS 0#0 A E s (binarySort' lo n ok) Q st:=by
 rw[binarySort'_eq];refine wpS_bind (wpS_mono (wpS_forRange (I:=fun k c a=>c=(none,())/\B κ a₀ a/\Pre lo st a/\aZ ρ 9#a lo (lo+min k n)/\St ρ τ 9#a lo (lo+min k n)/\Tl τ 9#a (lo+min k n))
  (Q:=fun c a=>c=(none,())/\B κ a₀ a/\Pre lo st a/\aZ ρ 9#a lo (lo+n)/\St ρ τ 9#a lo (lo+n)) ?step ?fin ?init) ?post)
 case post=>
  rintro c a ⟨rfl,p,y,f,g⟩;exact wpS_pure (h a p y f g)
 case init=>
  rw[show min (max ok 1) n=ok from ω];exact⟨rfl,U,.refl,hs,J,W⟩
 case fin=>
  rintro c a ⟨hc,p,y,f,g,_⟩;rw[show min (max (max ok 1) n) n=n from ω] at f g;exact⟨hc,p,y,f,g⟩
 case step=>
  rintro k c a X Y ⟨rfl,p,y,f,g,D⟩;rw[show min k n=k from ω] at f g D;have hk:lo+k<a₀.size:=ω
  refine wpS_bind (wpS_mono (wpS_forRange (I:=fun x c b=>b=a/\∃l r,c=(none,l,r)/\l<=r/\r<=k/\r-l<=k-x/\
    (∀i,i<l->R ρ 9#a (lo+i)<=R ρ 9#a (lo+k))/\(∀i,r<=i->i<k->R ρ 9#a (lo+k)<R ρ 9#a (lo+i)))
   (Q:=fun c b=>b=a/\∃l r,c=(none,l,r)/\l<=k/\
    (∀i,i<l->R ρ 9#a (lo+i)<=R ρ 9#a (lo+k))/\(∀i,l<=i->i<k->R ρ 9#a (lo+k)<R ρ 9#a (lo+i))) ?istep ?ifin ?iinit) ?ipost)
  case iinit=>exact⟨rfl,0,k,rfl,ω,ω,ω,fun i hi=>ω,fun i h1 h2=>ω⟩
  case ifin=>
   rintro c b ⟨rfl,l,r,rfl,P,G,hm,u,v⟩;have:l=r:=ω
   subst this;exact⟨rfl,l,l,rfl,G,u,v⟩
  case istep=>
   rintro x c b _ y9 ⟨rfl,l,r,rfl,P,G,hm,u,v⟩;dsimp only
   by_cases F:l ≥ r
   ·rw[TH F]
    have:l=r:=ω
    subst this;exact wpS_pure ⟨rfl,l,l,rfl,G,u,v⟩
   ·rw[TJ F]
    refine wpS_bind (n_ C p hk ω ?_)
    by_cases e:R ρ 9#b (lo+k)<R ρ 9#b (lo+(l+r) / 2)
    ·simp only[e,decide_true,if_true]
     refine wpS_pure ⟨rfl,l,(l+r) / 2,rfl,ω,ω,ω,u,fun i h1 h2=>?_⟩;exact Int.lt_of_lt_of_le e (f _ _ ω ω ω)
    ·simp only[e,decide_false,Am,if_false]
     refine wpS_pure ⟨rfl,(l+r) / 2+1,r,rfl,ω,ω,ω,fun i h1=>?_,v⟩;exact Int.le_trans (f (lo+i) (lo+(l+r) / 2) ω ω ω) (Int.not_lt.mp e)
  case ipost=>
   rintro c b ⟨rfl,l,r,rfl,BG,u,v⟩;show wpS _ _ _ _ (do moveDown' (lo+k) (lo+l);pure (ForInStep.yield (none,()))) _ _;rw[moveDown'_eq];have q:lo+k<(9#b).size:=by rw[p.size];exact hk
   have S:∀i,lo<=i->i<lo+l->R ρ 9#b i<=R ρ 9#b (lo+k):=fun i h1 h2=>by
    have:=u (i-lo) ω;rwa [show lo+(i-lo)=i from ω] at this
   have N:∀i,lo+l<=i->i<lo+k->R ρ 9#b (lo+k)<R ρ 9#b i:=fun i h1 h2=>by
    have:=v (i-lo) ω ω;rwa [show lo+(i-lo)=i from ω] at this
   refine wpS_bind (wpS_modify (wpS_pure ⟨rfl,p.setArr (bubble_perm _ _ _),y.trans (.bub q ω ω),?_,?_,?_⟩))
   ·rw[show min (k+1) n=k+1 from ω]
    intro i j O o M;show R ρ 4#8 i<=R ρ 4#8 j;rw[l' q ω,l' q ω,show lo+k-(lo+k-(lo+l))=lo+l from ω]
    repeat' split
    all_goals first
     |(exfalso;lia)
     |exact QG _
     |exact S _ ω ω
     |exact SO (N _ ω ω)
     |exact f _ _ ω ω ω
   ·rw[show min (k+1) n=k+1 from ω]
    intro i j O o M he;have d:R ρ 4#8 i=R ρ 4#8 j:=he;show R τ 4#8 i<=R τ 4#8 j;rw[l' q ω,l' q ω,show lo+k-(lo+k-(lo+l))=lo+l from ω] at d ⊢
    by_cases i1:i=lo+l
    ·rw[TH i1,TJ ω,TH ω] at d
     have:=N (j-1) ω ω;lia
    ·by_cases i2:lo+l<i
     ·rw[TJ i1,TH ω,TJ ω,TH ω] at d ⊢
      exact g _ _ ω ω ω d
     ·by_cases L:j=lo+l
      ·rw[TJ i1,TJ ω,TH L] at d ⊢
       exact D _ _ ω ω ω
      ·by_cases j2:lo+l<j
       ·rw[TJ i1,TJ ω,TJ L,TH ω] at d ⊢
        exact g _ _ ω ω ω d
       ·rw[TJ i1,TJ ω,TJ L,TJ ω] at d ⊢
        exact g _ _ ω ω ω d
   ·rw[show min (k+1) n=k+1 from ω]
    intro i j o M hs;have H:j<(9#b).size:=by
     have:=(bubble_perm 9#b (lo+k) (lo+k-(lo+l))).size_eq;have BO:j<(4#8).size:=hs;lia
    show R τ 4#8 i<=R τ 4#8 j;rw[l' q ω,l' q ω,show lo+k-(lo+k-(lo+l))=lo+l from ω,TJ (show ¬j=lo+l from ω),TJ (show ¬(lo+l<j/\j<=lo+k) from ω)];split
    ·exact D _ _ ω ω H
    ·split
     ·exact D _ _ ω ω H
     ·exact D _ _ o ω H
def EI(C:io prog w A s κ a₀ ρ){st:SortSt}{Q:Unit->SortSt->Prop}(L:B κ a₀ st)(hp:pendingOf st=#[])(h1:1<=a₀.size)(v:a₀.size<64)(ht:Tl τ 9#st 0)(h:∀a,B κ a₀ a->aZ ρ 9#a 0 a₀.size->St ρ τ 9#a 0 a₀.size->Q () a):wpS 0#0 A E s sortRuns' Q st:=by
 rw[sortRuns'_eq];refine wpS_bind (wpS_get ?_);dsimp only;have X:minRun' a₀.size a₀.size 0=a₀.size:=by
  obtain⟨f,hf⟩:∃f,a₀.size=f+1:=⟨a₀.size-1,ω⟩;have:minRun' (f+1) a₀.size 0=a₀.size:=by rw[minRun'_succ,TH v];rfl
  rwa [<-hf] at this
 simp only[L.size,X];refine wpS_bind (wpS_mono (wpS_forRange
  (I:=fun x c a=>(x=0/\c=(none,0)/\B κ a₀ a/\pendingOf a=#[]/\Tl τ 9#a 0)\/(1<=x/\c=(none,a₀.size)/\B κ a₀ a/\(pendingOf a).size<=1/\aZ ρ 9#a 0 a₀.size/\St ρ τ 9#a 0 a₀.size))
  (Q:=fun c a=>c=(none,a₀.size)/\B κ a₀ a/\(pendingOf a).size<=1/\aZ ρ 9#a 0 a₀.size/\St ρ τ 9#a 0 a₀.size) ?step ?fin (.inl ⟨rfl,rfl,L,hp,ht⟩)) ?post)
 case fin=>
  rintro c a (⟨hx,_,_⟩|⟨_,hc,o⟩)
  ·lia
  ·exact⟨hc,o⟩
 case step=>
  rintro x c a _ hx (⟨rfl,rfl,r,G,u⟩|⟨Y,rfl,o⟩)
  ·dsimp only
   rw[TJ ω];simp only[SQ,Nat.min_self];refine wpS_bind (J2 C ω ω r u fun m i y P2 M m2 j l N=>?_);dsimp only;have tl:∀d,B κ a₀ d->pendingOf d=#[]->aZ ρ 9#d 0 a₀.size->St ρ τ 9#d 0 a₀.size->B κ a₀ (setPending d ((pendingOf d).push (0,a₀.size,0)))/\(pendingOf (setPending d ((pendingOf d).push (0,a₀.size,0)))).size<=1/\aZ ρ 9#(setPending d ((pendingOf d).push (0,a₀.size,0))) 0 a₀.size/\St ρ τ 9#(setPending d ((pendingOf d).push (0,a₀.size,0))) 0 a₀.size:=
    fun d b p q O=>⟨⟨b.perm,b.kind,b.failed⟩,by show((pendingOf d).push _).size<=1;rw[p];exact Ag 1,q,O⟩
   by_cases g:m<a₀.size
   ·rw[TH g]
    refine wpS_bind (wpS_lift (wpAny_rule ⟨rfl,?_⟩));refine wpS_bind (J3 C ω m2 M y j l N fun d P P3 D F=>?_);simp only[Bv,Am,if_false];refine wpS_bind (wpS_get ?_);have H:pendingOf d=#[]:=by rw[P3.pend,P2.pend];exact G
    have hb:(pendingOf d).back?=none:=by rw[H];rfl
    rw[hb];dsimp only;simp only[RI] at D F ⊢;exact wpS_bind (wpS_modify (wpS_pure (.inr ⟨ω,rfl,tl d P H D F⟩)))
   ·rw[TJ g]
    have hm:m=a₀.size:=ω
    subst hm;refine wpS_bind (wpS_get ?_);have J:pendingOf i=#[]:=by rw[P2.pend];exact G
    have hb:(pendingOf i).back?=none:=by rw[J];rfl
    rw[hb];dsimp only;simp only[RI] at j l ⊢;exact wpS_bind (wpS_modify (wpS_pure (.inr ⟨ω,rfl,tl i y J j l⟩)))
  ·dsimp only
   rw[TH 0#10];exact wpS_pure ⟨rfl,o⟩
 case post=>
  rintro c a ⟨rfl,r,T,U,W⟩;dsimp only;refine wpS_bind (wpS_mono (wpS_forRange (I:=fun _ c e=>e=a/\c=(none,())) (Q:=fun c e=>e=a/\c=(none,())) ?_ (fun _ _ S=>S) ⟨rfl,rfl⟩) ?_)
  ·rintro x c e _ _ ⟨rfl,rfl⟩
   refine wpS_bind (wpS_get ?_);rw[TH T];exact wpS_pure ⟨rfl,rfl⟩
  ·rintro c e ⟨rfl,rfl⟩
   exact wpS_pure (h _ r U W)
end
section
variable{prog:Program}{w:World}{A:Around}{E:Ω}{s:Shared}{κ:SortKind}{a₀:Array Keyed}{ρ:Keyed->Int}
def J4(C:io prog w A s κ a₀ ρ){st:SortSt}{Q:Unit->SortSt->Prop}(e:B κ a₀ st)(hp:pendingOf st=#[])(h1:1<=a₀.size)(c:a₀.size<64)(h:∀a,B κ a₀ a->aZ ρ 9#a 0 a₀.size->Q () a):wpS 0#0 A E s sortRuns' Q st:=
 EI (τ:=fun _=>0) C e hp h1 c (fun i j _ _ _=>by unfold R;split<;>split<;>exact QG _) fun a b d _=>h a b d
end
end Tim
end
section
namespace aZ
open PySem PyProof.Rows HT
def oq:∀a:List Int,lexLt a a=false
 |[]=>rfl
 |x::a=>by rw[zi,TH rfl];exact oq a
def me:∀{a b c:List Int},lexLt a b=true->lexLt b c=true->lexLt a c=true
 |[],[],_,h,_=>by cases h
 |[],_::_,[],_,h=>by cases h
 |[],_::_,_::_,_,_=>rfl
 |_::_,[],_,h,_=>by cases h
 |_::_,_::_,[],_,h=>by cases h
 |x::a,y::b,z::c,h1,h2=>by
  rw[zi] at h1 h2 ⊢
  by_cases e1:x=y
  ·rw[TH e1] at h1
   by_cases e2:y=z
   ·rw[TH e2] at h2
    rw[TH (e1.trans e2)];exact me h1 h2
   ·rw[TJ e2] at h2
    rw[TJ ω];have:=TN h2;exact TK ω
  ·rw[TJ e1] at h1
   have d:=TN h1
   by_cases e2:y=z
   ·rw[TJ ω]
    exact TK ω
   ·rw[TJ e2] at h2
    have e:=TN h2;rw[TJ ω];exact TK ω
def EJ:∀{a b:List Int},lexLt a b=false->lexLt b a=false->a=b
 |[],[],_,_=>rfl
 |[],_::_,h,_=>by cases h
 |_::_,[],_,h=>by cases h
 |x::a,y::b,h1,h2=>by
  rw[zi] at h1 h2
  by_cases e:x=y
  ·subst e
   rw[TH rfl] at h1 h2;rw[EJ h1 h2]
  ·rw[TJ e] at h1
   rw[TJ 72#e] at h2;have:=of_decide_eq_false h1;have:=of_decide_eq_false h2;lia
noncomputable def rk(ls:Ξ)(l:List Int):Int:=((ls.filter fun m=>lexLt m l).length:Nat)
def qW{ls:Ξ}{l m:List Int}(f:l∈ls)(hm:m∈ls):decide (rk ls l<rk ls m)=lexLt l m:=by
 have mono:∀{a b:List Int},(∀x,lexLt x a=true->lexLt x b=true)->∀k:Ξ,(k.filter fun x=>lexLt x a).length<=(k.filter fun x=>lexLt x b).length:=by
  intro a b c k
  induction k with
  |nil=>exact Ag _
  |cons x k ih=>
   rw[Q5,Q5]
   by_cases q:lexLt x a=true
   ·rw[TH q,TH (c x q),AB,AB];lia
   ·rw[TJ q]
    split
    ·rw[AB];lia
    ·exact ih
 have d:∀{a b:List Int},(∀x,lexLt x a=true->lexLt x b=true)->lexLt a b=true->∀k:Ξ,a∈k->(k.filter fun x=>lexLt x a).length<(k.filter fun x=>lexLt x b).length:=by
  intro a b c h k
  induction k with
  |nil=>intro q;cases q
  |cons x k ih=>
   intro hk;rw[Q5,Q5];rcases Qj.mp hk with e|e
   ·subst e
    rw[TJ (by rw[oq];exact Ax),TH h,AB];have:=mono c k;lia
   ·have:=ih e
    by_cases q:lexLt x a=true
    ·rw[TH q,TH (c x q),AB,AB];lia
    ·rw[TJ q]
     split
     ·rw[AB];lia
     ·exact this
 unfold rk;cases q:lexLt l m with
 |true=>
  have:=d (a:=l) (b:=m) (fun x hx=>me hx q) q ls f;exact TK ω
 |false=>
  have:=mono (a:=m) (b:=l) (fun x hx=>by
   cases z:lexLt x l with
   |true=>rfl
   |false=>
    cases z2:lexLt l x with
    |true=>rw[me z2 hx] at q;cases q
    |false=>rw[EJ z z2] at hx;rw[hx] at q;cases q) ls
  exact TL ω
structure By(prog:Program)(w:World)(A:Around)(good:Heap->Prop)(us:List Value)(ls:Ξ):Prop where
 len:us.length=ls.length
 fn:∀(i j:Nat) u l m,us[i]?=some u->us[j]?=some u->ls[i]?=some l->ls[j]?=some m->l=m
 ask:2<=us.length->∃κ:SortKind,(∀(s:Shared)(Q:SortKind->Shared->Prop)(E:Ω),good s.heap->Q κ s->wpAny 0#0 A (keyKind' us.toArray) Q E s)/\
  ∀(i j:Nat) u v l m,us[i]?=some u->us[j]?=some v->ls[i]?=some l->ls[j]?=some m->∀(s:Shared)(Q:Bool->Shared->Prop)(E:Ω),good s.heap->Q (lexLt l m) s->wpAny 0#0 A (keyLt' κ u v) Q E s
open Classical in
noncomputable def gW(us:List Value)(ls:Ξ)(u:Value):List Int:=if h:∃l,∃i:Nat,us[i]?=some u/\ls[i]?=some l then h.choose else []
def iR{us:List Value}{ls:Ξ}(fn:∀(i j:Nat) u l m,us[i]?=some u->us[j]?=some u->ls[i]?=some l->ls[j]?=some m->l=m){i:Nat}(h1:us[i]?=some u)(h2:ls[i]?=some l):gW us ls u=l:=by
 unfold gW;have h:∃l,∃i:Nat,us[i]?=some u/\ls[i]?=some l:=⟨l,i,h1,h2⟩;rw[dif_pos h];obtain⟨j,e1,e2⟩:=h.choose_spec;exact fn j i u _ l e1 h1 e2 h2
noncomputable def gZ(us:List Value)(ls:Ξ)(p:Keyed):Int:=rk ls (gW us ls p.1)
section
variable{prog:Program}{w:World}{A:Around}{E:Ω}{s:Shared}{good:Heap->Prop}{us vs:List Value}{ls:Ξ}
def g0(h:us.length=vs.length){p:Keyed}(hp:p∈(us.toArray.zip vs.toArray).toList):∃i:Nat,us[i]?=some p.1/\vs[i]?=some p.2:=by
 have e:(3#2).toList=us.zip vs:=by simp
 rw[e] at hp;obtain⟨i,hi,e2⟩:=QH.mp hp;rw[List.getElem_zip] at e2;rw[Rb] at hi;refine⟨i,?_,?_⟩
 ·rw[Ae ω,<-e2]
 ·rw[Ae ω,<-e2]
def J5(B:By prog w A good us ls)(d:us.length=vs.length)(f:good s.heap)(h2:2<=us.length)(g:us.length<64)(hk:∀(i j:Nat) u v l m,us[i]?=some u->us[j]?=some v->ls[i]?=some l->ls[j]?=some m->∀(s:Shared)(Q:Bool->Shared->Prop)(E:Ω),good s.heap->Q (lexLt l m) s->wpAny 0#0 A (keyLt' κ u v) Q E s){Q:Unit->SortSt->Prop}(h:∀a,(9#a).Perm 3#2->failedOf a=none->Tim.aZ (gZ us ls) 9#a 0 vs.length->Q () a):wpS 0#0 A E s sortRuns' Q (SortSt.mk' κ 3#2 #[] 7 none):=by
 have hz:(3#2).size=vs.length:=by simp;lia
 refine Tim.J4 (κ:=κ) (a₀:=us.toArray.zip vs.toArray) (ρ:=gZ us ls) ⟨fun x y hx hy o p hq=>?_⟩ ⟨Array.Perm.refl _,rfl,rfl⟩ rfl (by rw[hz];lia) (by rw[hz];lia) fun a b e=>h a b.perm b.failed (by rw[<-hz];exact e);obtain⟨i,e1,_⟩:=g0 d hx;obtain⟨j,e2,_⟩:=g0 d hy;have hi:i<ls.length:=by rw[<-B.len];exact(BK.mp e1).1
 have c:j<ls.length:=by rw[<-B.len];exact(BK.mp e2).1
 have f1:ls[i]?=some ls[i]:=Ae hi;have f2:ls[j]?=some ls[j]:=Ae c;refine hk i j _ _ _ _ e1 e2 f1 f2 s o p f ?_;unfold gZ at hq;rw[iR B.fn e1 f1,iR B.fn e2 f2,qW (A8 hi) (A8 c)] at hq;exact hq
def bh{a b:Type}:∀(l:List a)(m:List b)(i:Nat),(l.zip m)[i]?=(l[i]?).bind fun x=>(m[i]?).map fun y=>(x,y)
 |[],m,i=>by simp
 |x::l,[],i=>by cases h:(x::l)[i]?<;>simp
 |x::l,y::m,0=>rfl
 |x::l,y::m,i+1=>by
  rw[RS,Sq,Sq,Sq];exact bh l m i
def J6(B:By prog w A good us ls)(r:us.length=vs.length){xs:Array Keyed}(hp:xs.Perm 3#2)(hs:Tim.aZ (gZ us ls) xs 0 vs.length):∃ps:List (List Int×Value),ps.Perm (ls.zip vs)/\xs.toList.map 0#17=ps.map 0#17/\ps.Pairwise fun(a b:List Int×Value)=>HT.lexLt b.1 a.1=false:=by
 have f:xs.toList.Perm (us.zip vs):=by
  have:=R0.mp hp
  simpa using this
 refine⟨xs.toList.map fun p=>(gW us ls p.1,p.2),?_,by rw[An];rfl,?_⟩
 ·have e:(us.zip vs).map (fun p:Keyed=>(gW us ls p.1,p.2))=ls.zip vs:=by
   apply RJ;intro i;rw[Ah,bh,bh];cases e1:us[i]? with
   |none=>
    have:ls[i]?=none:=Bc (by rw[<-B.len];exact List.getElem?_eq_none_iff.mp e1);rw[this];rfl
   |some u=>
    have hi:i<ls.length:=by rw[<-B.len];exact(BK.mp e1).1
    have f1:ls[i]?=some ls[i]:=Ae hi;rw[f1];cases e2:vs[i]? with
    |none=>rfl
    |some v=>
     show some (gW us ls u,v)=some (ls[i],v);rw[iR B.fn e1 f1]
  rw[<-e];exact f.map _
 ·rw[AQ,Qq]
  intro i j hi o g;have hsz:xs.size=vs.length:=by
   have:=f.length_eq;rw[AD,Rb] at this;lia
  rw[AD] at hi o;have q:=hs i j (AL _) (QY g) ω;have x:xs[i]?=some xs[i]:=getElem?_pos xs i hi;have y:xs[j]?=some xs[j]:=getElem?_pos xs j o;rw[Tim.dw x,Tim.dw y] at q;simp only[Array.getElem_toList];obtain⟨h,g1,_⟩:=g0 r (p:=xs[i]) (by
   have:=f.mem_iff.mp (show xs[i]∈xs.toList by simp)
   simpa using this)
  obtain⟨l,g2,_⟩:=g0 r (p:=xs[j]) (by
   have:=f.mem_iff.mp (show xs[j]∈xs.toList by simp)
   simpa using this)
  have c:h<ls.length:=by rw[<-B.len];exact(BK.mp g1).1
  have d:l<ls.length:=by rw[<-B.len];exact(BK.mp g2).1
  have f1:ls[h]?=some ls[h]:=Ae c;have f2:ls[l]?=some ls[l]:=Ae d;unfold gZ at q;rw[iR B.fn g1 f1,iR B.fn g2 f2] at q ⊢;have:=qW (ls:=ls) (A8 d) (A8 c);rw[<-this];exact TL ω
end
end aZ
end
section
namespace aZ
open PySem PyProof.Rows PySem.W
section
variable{prog:Program}{w:World}{A:Around}{E:Ω}{s:Shared}{good:Heap->Prop}{us vs:List Value}{ls:Ξ}
def q0(hi:IntsAre us ns):By prog w A (fun _=>True) us 0#7:=by
 have b:=hi.length;have a:∀(i:Nat) u l,us[i]?=some u->(ns.map fun n=>[n])[i]?=some l->∃n t,u=.int n t/\l=[n]:=fun i u l h1 h2=>by
  obtain⟨t,e⟩:=IntsAre.int_at hi i u h1;rw[Ah] at h2;cases e2:ns[i]? with
  |none=>rw[e2] at h2;cases h2
  |some n=>
   rw[e2] at h2;have e3:ns.getD i 0=n:=by rw[AK,e2];rfl
   rw[e3] at e;exact⟨n,t,e,(Ai h2).symm⟩
 refine⟨by rw[Ab,b],fun i j u l m h1 h2 d f=>?_,fun h2=>⟨oneType',fun s Q E _ hq=>?_,fun i j u v l m h1 h2 d f s Q E _ hq=>?_⟩⟩
 ·obtain⟨n,t,e1,rfl⟩:=a i u l h1 d
  obtain⟨c,t',e2,rfl⟩:=a j u m h2 f;rw[e1] at e2;cases e2
  rfl
 ·match us,hi,h2 with
  |[],_,h2=>simp at h2
  |[_],_,h2=>simp at h2
  |v₁::v₂::rest,hi,_=>
   rw[keyKind_ints hi];exact Ac hq
 ·obtain⟨n,t,rfl,rfl⟩:=a i u l h1 d
  obtain⟨c,t',rfl,rfl⟩:=a j v m h2 f;refine kat_lt_int ?_;have:HT.lexLt [n] [c]=decide (n<c):=by
   rw[HT.zi]
   by_cases e:n=c
   ·rw[TH e,HT.Ej];exact(TL ω).symm
   ·rw[TJ e]
  rw[this] at hq;exact hq
def IsPr(h:Heap)(u:Value)(l:List Int):Prop:=∃(a b:Addr)(n:Int)(t:Tok)(c:List Value)(ps:List Int),u=.ref a/\l=n::ps/\IsTup h a #[.int n t,.ref b]/\IsTup h b c.toArray/\IntsAre c ps
def IsTup.inj(h1:IsTup h a xs)(h2:IsTup h a ys):xs=ys:=by
 obtain⟨o,e,_,n,d⟩:=h1;obtain⟨o',e',_,b,d'⟩:=h2;rw[e] at e';cases e';rw[d] at d';injection d'
def IntsAre.inj(h:IntsAre vs ns)(g:IntsAre vs a):ns=a:=by
 induction h generalizing a with
 |nil=>cases g;rfl
 |cons n t h ih=>cases g with|cons _ _ h'=>rw[ih h']
def IsPr.inj{l m:List Int}(h1:IsPr h u l)(h2:IsPr h u m):l=m:=by
 obtain⟨a,b,n,t,c,ps,rfl,rfl,d,f,i1⟩:=h1;obtain⟨o,p,q,t',its',r,e,rfl,g,i,j⟩:=h2;cases e;have:=aZ.IsTup.inj d g;cases this;have e2:=aZ.IsTup.inj f i;have e3:c=its':=by simpa using e2
 subst e3;rw[IntsAre.inj i1 j]
def J7{l m:List Int}{Q:Bool->Shared->Prop}(h1:IsPr s.heap x l)(h2:IsPr s.heap y m)(hu:A.units<cLine)(hq:Q (HT.lexLt l m) s):wpAny 0#0 A (keyLt' (tuples' true) x y) Q E s:=by
 obtain⟨a,b,n,t,J,ps,rfl,rfl,H,u,i1⟩:=h1;obtain⟨L,v,g,t',its',C,rfl,rfl,I,D,F⟩:=h2;obtain⟨o,e,hc,k,d⟩:=id H;obtain⟨o',e',hc',M,d'⟩:=id I;refine kat_lt e d e' d' ?_;show KatLex prog w A true (decide (2<2)) Q [(.int n t,.int g t'),(.ref b,.ref v)] 0 s;rw[HT.zi] at hq;refine kat_cons (Br (SeqAt.EqAt.int_int n t g t' prog w 3#19 _ ⟨rfl,rfl⟩:wpAny 0#0 A (eqBool 85#n (.int g t')) (fun e s'=>e=(n==g)/\s'=s) 3#19 s) (fun e1 j he=>?_) fun _ _ z=>z);obtain⟨rfl,rfl⟩:=he
 by_cases p:n=g
 ·have r:(n==g)=true:=by simpa using p
  rw[r];rw[TH p] at hq;refine kat_yes (kat_cons ?_);have G:∀{c:Addr}{cs:List Value}{i:List Int},IsTup j.heap c cs.toArray->IntsAre cs i->AM (L2.zp prog w) j.heap (i.map Sum.inl) c:=fun{c cs i} hc hi=>by
   obtain⟨o,e,q,k,d⟩:=hc;refine⟨o,cs.toArray,k,e,q,d,?_⟩;have:∀{cs:List Value}{i:List Int},IntsAre cs i->ItemsAre (L2.zp prog w) (i.map Sum.inl) cs:=by
    intro cs i hi
    induction hi with
    |nil=>exact .nil
    |cons n t h ih=>exact .cons (L2.vu prog w n t) ih
   simpa using this hi
  refine wpAny_eqBool_tuple (knd:=L2.zp prog w) hu (G u i1) (G D F) ?_
  by_cases ep:ps=C
  ·subst ep
   rw[TK rfl];rw[oq] at hq;exact kat_yes (kat_nil hq)
  ·have:¬(ps.map Sum.inl:List L2.Key)=C.map Sum.inl:=fun z=>ep (Rg (f:=(Sum.inl:Int->L2.Key)) (fun x y h=>Sum.inl.inj h)|>.mp z)
   rw[TL this];refine kat_no ?_;show wpAny 0#0 A (oneLt' false 5#b 5#v) Q 3#19 j;exact kat_one _ _ (HT.Jl u D 6#i1 6#F hu hq)
 ·have r:(n==g)=false:=by simpa using p
  rw[r];rw[TJ p] at hq;refine kat_no ?_;show wpAny 0#0 A (oneLt' true 85#n (.int g t')) Q 3#19 j;exact oneLt_int hq
def EK:∀{us:List Value}{ls:Ξ},us.length=ls.length->(∀(i:Nat) u l,us[i]?=some u->ls[i]?=some l->IsPr h u l)->∃fs,KatTups h us fs/\fs.length=us.length/\∀f∈fs,∃n t,f=Value.int n t
 |[],[],_,_=>⟨[],.nil,rfl,fun f hf=>nomatch hf⟩
 |u::us,l::ls,hl,hp=>by
  obtain⟨fs,c,g,j⟩:=EK (us:=us) (ls:=ls) 6#hl fun i u l h1 h2=>hp (i+1) u l 6#h1 6#h2;obtain⟨a,b,n,t,q,ps,rfl,rfl,p,r,i1⟩:=hp 0 u l rfl rfl;obtain⟨o,e,hc,k,d⟩:=id p;refine⟨.int n t::fs,.cons e hc d rfl c,by simp[g],fun f hf=>?_⟩;rcases Qj.mp hf with rfl|hf
  ·exact⟨n,t,rfl⟩
  ·exact j f hf
 |[],_::_,h,_=>by simp at h
 |_::_,[],h,_=>by simp at h
def EL(e:us.length=ls.length)(hu:A.units<cLine)(p:∃h,good h)(hp:∀h,good h->∀(i:Nat) u l,us[i]?=some u->ls[i]?=some l->IsPr h u l):By prog w A good us ls:=by
 refine⟨e,fun i j u l m h1 h2 b c=>?_,fun h2=>⟨tuples' true,fun s Q E a hq=>?_,fun i j u v l m h1 h2 b c s Q E a hq=>?_⟩⟩
 ·obtain⟨h,d⟩:=p
  exact(hp h d i u l h1 b).inj (hp h d j u m h2 c)
 ·obtain⟨fs,g,q,o⟩:=EK e (hp _ a)
  refine kat_kind (T:=.type "int") g ω (fun f hf=>?_) ξ hq;obtain⟨n,t,rfl⟩:=o f hf;exact Looks.of_pure rfl
 ·exact J7 (hp _ a i u l h1 b) (hp _ a j v m h2 c) hu hq
end
def Out(ls:Ξ)(vs out:List Value):Prop:=∃ps:List (List Int×Value),ps.Perm (ls.zip vs)/\out=ps.map 0#17/\ps.Pairwise fun(a b:List Int×Value)=>HT.lexLt b.1 a.1=false
section
variable{prog:Program}{w:World}{A:Around}{E:Ω}{s:Shared}{good:Heap->Prop}{us vs:List Value}{ls:Ξ}
def EM(a:ls.length=vs.length)(hu:us.length=vs.length)(h2:vs.length<2):Out ls vs ((3#2).map 0#17).toList:=by
 have e:((3#2).map 0#17).toList=vs:=by
  rw[Tn,show(us.toArray.zip vs.toArray).toList=us.zip vs by simp,SE ω]
 rw[e];refine⟨ls.zip vs,List.Perm.refl _,by rw[SE ω],?_⟩;have hz:(ls.zip vs).length<2:=by rw[Rb];lia
 match ls.zip vs,hz with
 |[],_=>exact List.Pairwise.nil
 |[x],_=>simp
 |_::_::_,h=>simp only[AB] at h;lia
def EN(B:By prog w A good us ls)(c:us.length=vs.length)(o:vs.length<64)(i:good s.heap){G:Unit×SortSt->Sem PySem.Fin}(h:∀a,Out ls vs ((9#a).map 0#17).toList->(arrOf a).size=vs.length->failedOf a=none->wpAny 0#0 A (G (PUnit.unit,a)) P E s):wpAny 0#0 A (if vs.toArray.size<2 then(pure general' >>= fun kind=>(if vs.toArray.size<2 then pure () else sortRuns').run 86#kind >>= G)
   else(keyKind' us.toArray >>= fun kind=>(if vs.toArray.size<2 then pure () else sortRuns').run 86#kind >>= G)) P E s:=by
 have b:(3#2).size=vs.length:=by rw[Array.size_zip,Aj,Aj];lia
 by_cases h2:vs.toArray.size<2
 ·rw[TH h2]
  refine Aa 1#5;rw[TH h2];rw[StateT.run_pure];refine Aa 1#5
  try dsimp only
  rw[Aj] at h2;exact h 86#general' (EM (by rw[<-B.len];exact c) c h2) b rfl
 ·rw[TJ h2,TJ h2]
  rw[Aj] at h2;obtain⟨κ,j,l⟩:=B.ask ω;refine Aa (j s _ E i ?_);refine Aa (Br (J5 (Q:=fun _ a=>(arrOf a).Perm 3#2/\failedOf a=none/\Tim.aZ (gZ us ls) 9#a 0 vs.length) B c i ω ω l fun a d f g=>⟨d,f,g⟩) ?_ fun _ _ e=>e);rintro⟨⟨⟩,a⟩ s' ⟨rfl,hp,hf,hs⟩
  try dsimp only
  exact h a (by
   obtain⟨ps,d,f,g⟩:=J6 B c hp hs;exact⟨ps,d,by rw[Tn];exact f,g⟩) (by rw[hp.size_eq];exact b) hf
def yv{n:Nat}{P:PySem.Fin->Shared->Prop}(c:s.heap.get? a=some (seqObj "list" vs.toArray n))(B:By prog w A good vs ls)(i:∀h',(∀b o,b≠a->s.heap.get? b=some o->h'.get? b=some o)->good h')(hz:vs.length<=sizeLine)(d:vs.length<64)(h:∀out:Array Value,Out ls vs out.toList->P (.done (.ret .none)) {s with heap:=sortedHeap s.heap a vs out}):wpAny 0#0 A (Builtin.«list.sort» ⟨[.ref a],[]⟩) P E s:=by
 rw[list_sort_plain];have ha:a<s⁻¹:=Ao c;refine Aa (listItems_at c rfl ?_);refine Aa (listUpdate_at c rfl ?_ (by rw[Aj];exact hz) (AL _));obtain⟨e1,f⟩:∃e1,(s.heap.update a (Ay fun _=>#[])).get? a=some 1#14:=⟨_,get?_update_seq c (fun _=>#[])⟩;refine Aa (seqEpoch_at f rfl ?_);refine Aa (wpAny_newTuple ?_ (by show vs.length<=_;exact hz));refine Aa 78#(AL _);refine AH ?_;have g:(((s.heap.update a (Ay fun _=>#[])).push 4#15).push 2#5).get? a=some 1#14:=by
  rw[Heap.get?_push_ne _ _ _ (by rw[size_push',Heap.size_update];exact Aq (AW ha)),Heap.get?_push_ne _ _ _ (by rw[Heap.size_update];exact Aq ha)];exact f
 show wpAny 0#0 A _ P E {s with heap:=((s.heap.update a (Ay fun _=>#[])).push 4#15).push 2#5};dsimp only;refine EN (s:={s with heap:=((s.heap.update a (Ay fun _=>#[])).push 4#15).push 2#5}) B rfl d (i _ fun b o hb e=>Ad _ (Ad _ (by rw[Heap.get?_update_ne _ _ _ _ hb];exact e))) fun j c hsz hf=>?_;dsimp only;refine Aa (seqEpoch_at g rfl ?_);refine Aa (listUpdate_at g rfl ?_ (AL _) (AG (SR ((Bb ..).trans hsz)) (Sx hz)));rw[hf];simp only[bne_self_eq_false,Am,if_false];exact Ac (h _ c)
def yx{Q:Ω}(f:s.heap.IsList l vs.toArray)(B:By prog w A.in1.in1 good vs ls)(g:∀h',(∀b o,s.heap.get? b=some o->h'.get? b=some o)->good h')(hz:vs.length<=sizeLine)(d:vs.length<64)(h:∀out:Array Value,Out ls vs out.toList->Q 5#(s⁻¹+1) {s with heap:=sortedAll s.heap vs out}):wpAny 0#0 A (call 2#7 [.ref l]) Q E s:=by
 refine Calls.call_function_entry kind_sorted plain_sorted entry_sorted (args_sorted1 _) ?_;unfold Builtin.«sorted»;refine Aa (m:=checkCount "sorted" 1 1 _) 1#5;refine Aa (collect_list f ?_ hz);refine Aa 78#hz;have hsz:(1#1).objs.size=s⁻¹+1:=by
  rw[Heap.size_update,size_push']
 have c:((1#1).push 4#4).get? (s⁻¹+1)=some 4#4:=by
  rw[<-hsz];exact Al _ rfl
 have keep:∀b o,s.heap.get? b=some o->((1#1).push 4#4).get? b=some o:=fun b o q=>by
  have a:b<s⁻¹:=Ao q;rw[Heap.get?_push_ne _ _ _ (by rw[hsz];exact Aq (AW a)),Heap.get?_update_ne _ _ _ _ (Aq a),Heap.get?_push_ne _ _ _ (Aq a)];exact q
 show wpAny _ _ _ _ _ {s with heap:=(1#1).push 4#4};rw[hsz];refine Aa (AH (AX slot_list_sort ⟨_,c,rfl⟩ entry_list_sort (yv (s:={s with heap:=(1#1).push 4#4}) c B (fun h' hk=>g h' fun b o q=>hk b o (Aq (AW (Ao q))) (keep b o q)) hz d fun out e=>⟨_,rfl,?_⟩) (args_list_sort _)));exact Ac ⟨_,rfl,h out e⟩
def EO{keys:Array Value}{st:SortSt}{P:PySem.Fin->Shared->Prop}(j:s.heap.get? kS=some (seqObj "list" keys e))(r:s.heap.get? a=some 1#14)(l:kS≠a)(u:keys.size<=sizeLine)(v:Out ls vs ((9#st).map 0#17).toList)(hsz:(9#st).size=vs.length)(hz:vs.length<=sizeLine)(x:failedOf st=none)(h:∀h' out c,(∀b o,b≠kS->b≠a->s.heap.get? b=some o->h'.get? b=some o)->h'.get? a=some (seqObj "list" out c)->(∃o,h'.get? kS=some o)->Out ls vs out.toList->h'.objs.size=s⁻¹->P (.done (.ret .none)) {s with heap:=h'}):wpAny 0#0 A (ksk_tail a false e1 5#kS st) P E s:=by
 have g:=AI s.heap kS 1#6;have f:(s.heap.update kS 1#6).get? a=some 1#14:=(g.2 a l.symm).trans r;have i:=AI (s.heap.update kS 1#6) a (Ay fun _=>(arrOf st).map 0#17);obtain⟨d,p⟩:∃d,((s.heap.update kS 1#6).update a (Ay fun _=>(arrOf st).map 0#17)).get? a=some (seqObj "list" ((9#st).map 0#17) d):=
  ⟨_,get?_update_seq f fun _=>(arrOf st).map 0#17⟩
 unfold ksk_tail
 try dsimp only
 simp only[Am,if_false];refine Aa (listUpdate_at j rfl ?_ u (AL _));refine Aa (wpAny_letGo ?_);refine Aa (seqEpoch_at f rfl ?_);refine Aa (listUpdate_at f rfl ?_ (AL _) (AG (SR ((Bb ..).trans hsz)) (Sx hz)));rw[x];simp only[bne_self_eq_false,Am,if_false];refine Ac (h _ _ d (fun b o h1 h2 q=>(i.2 b h2).trans ((g.2 b h1).trans q)) p ⟨_,(i.2 kS l).trans (get?_update_seq j fun _=>#[])⟩ v (by rw[Heap.size_update,Heap.size_update]))
end
end aZ
end
section
namespace L2
open PySem PySem.Spec PyProof.Rows
noncomputable def clOf(cells:List 3#18):List (Str×NameKind)->List 3#18->List 3#18
 |[],acc=>acc
 |(n,k)::r,acc=>if(k==.free)=true then clOf cells r ((n,(cells.lookup n).getD 0)::acc) else clOf cells r acc
def EQ{env:Env}:∀(names:List (Str×NameKind))(acc:List 3#18),(∀x∈names,x.2=.free->∃c,env.cells.lookup x.1=some c)-> (forIn names acc fun x(r:List 3#18)=>if(x.2==.free)=true then do let c <-cellOf env x.1;pure (ForInStep.yield ((x.1,c)::r)) else pure (ForInStep.yield r):Sem (List 3#18))=pure (clOf env.cells names acc)
 |[],acc,_=>rfl
 |(n,k)::r,acc,h=>by
  rw[SJ];have b:=fun a=>EQ (env:=env) r a fun x hx=>h x (Ar _ hx);unfold clOf
  by_cases hk:(k==Bn)=true
  ·have hk':k=.free:=by cases k<;>first|rfl|cases hk
   obtain⟨c,hc⟩:=h (n,k) Av hk';simp only[hk,if_true];unfold cellOf;rw[hc];simp only[pure_bind,Rh];exact b _
  ·simp only[hk,Am,if_false,pure_bind]
   exact b _
def J8{scope:Scope}{env:Env}(h:∀x∈scope.names,x.2=.free->∃c,env.cells.lookup x.1=some c):closureFor scope env=pure (clOf env.cells scope.names []):=by
 rw[<-EQ scope.names [] h];unfold closureFor;simp
def yN{x:Str}{c:Addr}:∀{l:List 3#18},(x,c)∈l->∃d,l.lookup x=some d
 |[],h=>nomatch h
 |(y,d)::l,h=>by
  rw[Be]
  by_cases e:x=y
  ·subst e;exact⟨d,by simp⟩
  ·have hb:(x==y)=false:=by simpa using e
   rw[hb];rcases Qj.mp h with q|q
   ·cases q;exact absurd rfl e
   ·exact yN q
def q_{x:Str}:∀{names:List (Str×NameKind)}{acc:List 3#18},((x,Bn)∈names\/∃c,(x,c)∈acc)->∃c,(x,c)∈clOf cells names acc
 |[],acc,h=>h.elim (fun q=>nomatch q) id
 |(n,k)::r,acc,h=>by
  unfold clOf
  by_cases hk:(k==Bn)=true
  ·rw[TH hk]
   refine q_ ?_;rcases h with h|⟨c,h⟩
   ·rcases Qj.mp h with q|q
    ·cases q;exact .inr ⟨_,Av⟩
    ·exact .inl q
   ·exact .inr ⟨c,Ar _ h⟩
  ·rw[TJ hk]
   refine q_ ?_;rcases h with h|h
   ·rcases Qj.mp h with q|q
    ·cases q;exact absurd rfl hk
    ·exact .inl q
   ·exact .inr h
noncomputable def eD(X:Cx)(scope:Scope)(N:List Str)(a:List 3#18)(C:Addr)(s₀:Shared)(H₀:Hp)(ex:List Addr):Cx where
 prog:=X.prog
 w:=X.w
 K:=X.K
 mg:=X.mg
 base:=X.base
 A:=X.A
 N:=N
 s₀:=s₀
 H₀:=H₀
 env:=compEnvC scope a C X.env
 outer:=X.stack
 stack:=X.stack
 ex:=ex
 fn:=fun _=>false
 calm:=X.calm
 pn:=X.pn
 xe:=fun _ _=>False
def ip(X:Cx)(a9:List Expr)(t:TT):Prop:=
 ∀(aa:Ψ)(s:Shared)(σ:St)(H:Hp)(Q:Bool->Hp->Prop),Inv X aa σ H s->t σ H Q->
  wpAny 0#1 X.A (forIn a9 true fun c r=>if r=true then do let ok <-isTrue c X.env 73#c;pure (ForInStep.yield ok) else pure (ForInStep.yield r)) (TP X aa σ Q) X.xe s
def bM:TT:=fun _ H Q=>Q true H
def zE:ip X [] bM:=fun _ _ _ H _ I h=>wpAny_tests_nil ⟨H,I,h⟩
def yR{t:TT}(h:PT X c t):ip X [c] t:=fun aa s σ H Q I hw=>wpAny_tests_one (h aa s σ H Q I hw)
noncomputable def ot(ar:List 66#Nat)(σ:St):St:=ar.map fun c=>match c with
 |none=>none
 |some j=>(σ[j]?).getD none
def cK(J:It)(g:TG)(tc:TT)(te:TE)(σ:St)(H1:Hp)(D:Addr)(Q:VK):Prop:=
 ∃W:Nat->Nat->St->Hp->Prop,(∃m,W 0 m σ 67#H1)/\
 ∀i m d H2,W i m d H2->(J.stop i H2/\Q 5#D H2)\/(J.go i H2/\∀x h,J.yld i H2 x h->g x d h fun c j=>tc c j fun b e=>
  if b=true then te c e fun y f=>∃ys a,f D=some 8#ys/\ys.length<sizeLine/\a<m/\W (i+1) a c (upd f D 8#(ys++[y]))
  else ∃a,a<m/\W (i+1) a c e)
def kr(wi:TI)(ar:List 66#Nat)(g:TG)(tc:TT)(te:TE):TE:=fun σ H Q=>wi σ H fun J H1=>∀D,H1 D=none->cK J g tc te (ot ar σ) H1 D Q
def mj(N N':List Str)(ar:List 66#Nat)(scope:Scope):Prop:=
 ar.length=N'.length/\∀i j:Nat,ar[i]?=some 55#j->∃x:Str,N'[i]?=some x/\N[j]?=some x/\scope.names.lookup x=some .free
def re{cells:List 3#18}{x:Str}{c:Addr}:∀{names:List (Str×NameKind)}{acc:List 3#18},(∀y∈names,y.2=.free->∃d,cells.lookup y.1=some d)->(∀p∈acc,False)->(x,c)∈clOf cells names acc->cells.lookup x=some c/\(x,Bn)∈names:=by
 have g:∀{names:List (Str×NameKind)}{acc:List 3#18},(∀y∈names,y.2=.free->∃d,cells.lookup y.1=some d)->(x,c)∈clOf cells names acc->(x,c)∈acc\/(cells.lookup x=some c/\(x,Bn)∈names):=by
  intro names
  induction names with
  |nil=>intro acc _ h;exact .inl h
  |cons y r i=>
   intro acc b h;obtain⟨n,k⟩:=y;unfold clOf at h;have j:∀y∈r,y.2=.free->∃d,cells.lookup y.1=some d:=fun y hy=>b y (Ar _ hy)
   by_cases hk:(k==Bn)=true
   ·have hk':k=.free:=by cases k<;>first|rfl|cases hk
    obtain⟨d,hd⟩:=b (n,k) Av hk';rw[TH hk] at h;rcases i j h with q|⟨e,f⟩
    ·rcases Qj.mp q with q|q
     ·refine .inr ⟨?_,?_⟩
      ·have a:cells.lookup n=some d:=hd
       rw[a] at q;cases q;exact a
      ·cases q
       rw[hk'];exact Av
     ·exact .inl q
    ·exact .inr ⟨e,Ar _ f⟩
   ·rw[TJ hk] at h
    rcases i j h with q|⟨e,f⟩
    ·exact .inl q
    ·exact .inr ⟨e,Ar _ f⟩
 intro names acc b ha h;rcases g b h with q|q
 ·exact(ha _ q).elim
 ·exact q
def cf_mem:∀(names:List (Str×NameKind))(h:Heap)(acc:List 3#18)(x:Str)(c:Addr),(x,c)∈cellsFrom h.objs.size names acc->(x,c)∈acc\/((x,NameKind.cell)∈names/\h.objs.size<=c/\(pushCells h names).IsCell c none)
 |[],h,acc,x,c,hm=>.inl hm
 |(n,k)::r,h,acc,x,c,hm=>by
  rw[cellsFrom.eq_2] at hm;have ep:pushCells h ((n,k)::r)=if(k==NameKind.cell)=true then pushCells (h.push {cls:=Value.type "cell",data:=Data.cell none}) r else pushCells h r:=rfl
  by_cases hk:(k==NameKind.cell)=true
  ·have hk':k=.cell:=by cases k<;>first|rfl|cases hk
   rw[TH hk] at hm;rw[ep,TH hk];have es:(h.push {cls:=Value.type "cell",data:=Data.cell none}).objs.size=h.objs.size+1:=Heap.size_push ..;rw[<-es] at hm;rcases cf_mem r _ _ x c hm with q|⟨b,a,d⟩
   ·rcases Qj.mp q with q|q
    ·cases q
     refine .inr ⟨by rw[hk'];exact Av,Ag _,_,pushCells_keeps r _ _ _ (Al _ rfl),rfl⟩
    ·exact .inl q
   ·rw[es] at a
    exact .inr ⟨Ar _ b,Ta a,d⟩
  ·rw[TJ hk] at hm
   rw[ep,TJ hk];rcases cf_mem r h acc x c hm with q|⟨b,a,d⟩
   ·exact .inl q
   ·exact .inr ⟨Ar _ b,a,d⟩
def yT:∀(names:List (Str×NameKind))(n:Nat)(acc:List 3#18),(∀x y c,(x,c)∈acc->(y,c)∈acc->x=y)->(∀p∈acc,p.2<n)->∀x y c,(x,c)∈cellsFrom n names acc->(y,c)∈cellsFrom n names acc->x=y
 |[],n,acc,hi,_,x,y,c,h1,h2=>hi x y c h1 h2
 |(m,k)::r,n,acc,hi,hl,x,y,c,h1,h2=>by
  rw[cellsFrom.eq_2] at h1 h2
  by_cases hk:(k==NameKind.cell)=true
  ·rw[TH hk] at h1 h2
   refine yT r (n+1) ((m,n)::acc) (fun x y c p q=>?_) (fun p hp=>?_) x y c h1 h2
   ·rcases Qj.mp p with p|p<;>rcases Qj.mp q with q|q
    ·cases p;cases q;rfl
    ·cases p
     have:n<n:=hl _ q;lia
    ·cases q
     have:n<n:=hl _ p;lia
    ·exact hi x y c p q
   ·rcases Qj.mp hp with rfl|hp
    ·exact RM _
    ·exact AW (hl p hp)
  ·rw[TJ hk] at h1 h2
   exact yT r n acc hi hl x y c h1 h2
def J9{M:Model}{A:Around}{E:Ω}{s:Shared}{scope:Scope}{globals:Addr}{a:List 3#18}{f:Str}{env:Env}{Q:Env->Shared->Prop}(h:∀d:Heap,(d.Ns s⁻¹ fun _=>none)->(∀b o,s.heap.get? b=some o->d.get? b=some o)->
   (∀x c,(x,c)∈cellsFrom (s⁻¹+1) scope.names a->(x,c)∈a\/((x,NameKind.cell)∈scope.names/\s⁻¹+1<=c/\d.IsCell c none))->
   Q (newEnv scope s⁻¹ globals (cellsFrom (s⁻¹+1) scope.names a) f none .none 55#env builtinsNs) {s with heap:=d}):
  wpAny M A (newFunctionEnv scope globals a [] f none Value.none 55#env) Q E s:=by
 unfold newFunctionEnv;refine Aa (wpAny_alloc ?_);refine Aa (wpAny_layCells _ (fun name kind cells=>rfl) scope.names a _ _ ?_);have es:(s.heap.push {cls:=Value.type "dict",data:=Data.dict #[]}).objs.size=s⁻¹+1:=Heap.size_push ..;have:=h (pushCells (s.heap.push {cls:=Value.type "dict",data:=Data.dict #[]}) scope.names) ((Heap.Ns.new s.heap 2#18).keeps fun b o e=>pushCells_keeps _ _ _ _ e) (fun b o e=>pushCells_keeps _ _ _ _ (Ad _ e)) (fun x c hm=>by
  rw[<-es] at hm ⊢;exact cf_mem scope.names _ a x c hm)
 show wpAny M A _ _ _ _;refine Aa 1#5;refine Ac ?_;rw[<-es] at this;exact this
noncomputable def cxD(X:Cx)(scope:Scope)(N:List Str)(a:List 3#18)(C:Addr)(s₀:Shared)(H₀:Hp)(ex:List Addr):Cx:={eD X scope N a C s₀ H₀ ex with fn:=fun x=>decide (scope.names.lookup x=some .cell)}
section
variable{X:Cx}{scope:Scope}{N':List Str}{ar:List 66#Nat}{tg iter bL:Expr}{a9:List Expr}{wi:TI}{g:TG}{tc:TT}{te:TE}{pos:Pos}
def ER{scope:Scope}{env:Env}{x:Str}:∀{names:List (Str×NameKind)},(names.lookup x=some .free\/names.lookup x=some .cell)-> ((3#9).lookup x=some .free \/
   (3#9).lookup x=some .cell)
 |[],h=>by simp at h
 |(n,k)::r,h=>by
  have a:=@ER scope env x r;show List.lookup x 0#11=_\/List.lookup x 0#11=_;cases hx:x==n with
  |true=>
   simp only[Be,hx] at h
   by_cases hc:4#12=true
   ·rw[TH hc];simp[Be,hx]
   ·rw[TJ hc];simp only[Be,hx];exact h
  |false=>
   simp only[Be,hx] at h
   by_cases hc:4#12=true
   ·rw[TH hc];simp only[Be,hx];exact a h
   ·rw[TJ hc];simp only[Be,hx];exact a h
def yY{env:Env}{x:Str}{a:NameKind}:∀{names:List (Str×NameKind)},(3#9).lookup x=some a->
  ∃b,names.lookup x=some b/\(a=b\/(b=.free/\a=.cell))
 |[],h=>by simp at h
 |(n,k)::r,h=>by
  have c:=@yY env x a r;have h':List.lookup x 0#11=some a:=h;cases hx:x==n with
  |true=>
   simp only[Be,hx]
   by_cases hc:4#12=true
   ·rw[TH hc] at h'
    simp only[Be,hx] at h';cases h';have hk:k=.free:=by
     rw[AS,AS] at hc;cases k<;>first|rfl|exact absurd hc.1.1 ξ
    exact⟨k,rfl,.inr ⟨hk,rfl⟩⟩
   ·rw[TJ hc] at h'
    simp only[Be,hx] at h';cases h';exact⟨_,rfl,.inl rfl⟩
  |false=>
   simp only[Be,hx]
   by_cases hc:4#12=true
   ·rw[TH hc] at h';simp only[Be,hx] at h';exact c h'
   ·rw[TJ hc] at h';simp only[Be,hx] at h';exact c h'
structure Left(X:Cx)(aa:Ψ)(σ:St)(H':Hp)(s4:Shared)(C:Addr):Prop where
 ns:∃m,s4.heap.Ns C m
 far:X.s₀⁻¹<=C
 nl:C≠X.env.locals
 nc:∀x c,X.env.cells.lookup x=some c->c≠C
 np:∀p∈X.pn++aa,p.1≠C
 no:H' C=none
 back:∀h',AU C s4.heap h'->Inv X aa σ H' {s4 with heap:=h'}
def ES{R:Ω}(hc:X.calm=true)(hk:scope.kind=.function)(cW:∀y∈scope.names,y.2=.cell->scope.names.lookup y.1=some .cell)(aC:∀y∈scope.names,y.2=.free->scope.names.lookup y.1=some .free)(aD:∀y∈scope.names,y.2=.local->scope.names.lookup y.1=some .local)(hfr:∀y∈scope.names,y.2=.free->X.env.kindOf y.1=some .cell\/X.env.kindOf y.1=some .free)(bq:mj X.N N' ar scope)(hi:PI X tg iter wi)(hg:∀cl C s₀ H₀ ex,PG 75#cl tg g)(ht:∀cl C s₀ H₀ ex,ip 75#cl a9 tc)(he:∀cl C s₀ H₀ ex,PE 75#cl bL te)(hs:∀x,foldedSetIterable iter X.env x=pure x){s:Shared}(I:Inv X aa σ H s)(h:kr wi ar g tc te σ H Q)(fin:∀(D C:Addr)(H':Hp)(O:Shared)(f:Flow),Left X aa σ H' O C->Q 5#D H'->compPost 0#1 X.A X.xe use R 5#D C (.ok f) O):wpAny 0#1 X.A (comprehension 0#3 scope X.env pp (newList []) (firstAsync [⟨tg,iter,a9,0⟩]) (firstIter [⟨tg,iter,a9,0⟩] X.env) use) R X.xe s:=by
 have P:∀y∈scope.names,y.2=.free->∃c,X.env.cells.lookup y.1=some c:=fun y hy e=>I.ok.has y.1 (hfr y hy e);refine wpAny_comprehension_free (use:=use) rfl hs (J8 P) hk aD ?_;refine aT (hi aa s σ H _ I h) fun xv s1 h1=>aT h1 fun oG M h2=>?_;obtain⟨it,fp,tn,J,H2,e,I2,T,eC,f2,q⟩:=h2;subst e;have kH:H2 M⁻¹=none:=I2.hok.fresh 0#10;obtain⟨W,⟨m0,w0⟩,turn⟩:=q M⁻¹ kH;refine AY (J9 fun au cU cm ce=>?_);dsimp only at cU cm ce ⊢;generalize hD:M⁻¹=D at *;obtain⟨l,e3⟩:∃l:Shared,l={M with heap:=M.heap.push {cls:=.type "list",dict:=none,data:=.seq ([]:List Value).toArray}}:=⟨_,rfl⟩;have h3:l.heap=M.heap.push {cls:=.type "list",dict:=none,data:=.seq ([]:List Value).toArray}:=by rw[e3]
 rw[<-h3] at cU cm ce ⊢;have ag:l⁻¹=D+1:=by rw[h3,Heap.size_push,hD]
 have I3:Inv X aa σ 67#H2 l:=by
  rw[e3,<-hD];exact I2.lnew (t':=M.toks) (ys:=[]) .nil (AL _)
 obtain⟨Xc,E⟩:∃Xc,Xc=cxD X scope N' 4#1 l⁻¹ l 67#H2 fp:=⟨_,rfl⟩;have o_:PG Xc tg g:=by rw[E];exact hg _ _ _ _ _
 have ht':ip Xc a9 tc:=by rw[E];exact ht _ _ _ _ _
 have he':PE Xc bL te:=by rw[E];exact he _ _ _ _ _
 have xP:Xc.prog=X.prog:=by rw[E];rfl
 have xw:Xc.w=X.w:=by rw[E];rfl
 have xK:Xc.K=X.K:=by rw[E];rfl
 have xA:Xc.A=X.A:=by rw[E];rfl
 have xc:Xc.calm=true:=by rw[E];exact hc
 have xe:Xc.env=compEnvC scope 4#1 l⁻¹ X.env:=by rw[E];rfl
 have xE:Xc.xe=fun _ _=>False:=by rw[E];rfl
 have G:∀x c,(4#1).lookup x=some c->(X.env.cells.lookup x=some c/\scope.names.lookup x=some .free)\/(scope.names.lookup x=some .cell/\l⁻¹+1<=c/\au.IsCell c none):=fun x c e=>by
  rcases ce x c (Bo e) with q|⟨q1,q2,q3⟩
  ·obtain⟨q4,q5⟩:=re P (fun p hp=>absurd hp 2#0) q
   exact .inl ⟨q4,aC _ q5 rfl⟩
  ·exact .inr ⟨cW _ q1 rfl,q2,q3⟩
 have hlow:∀p∈clOf X.env.cells scope.names [],p.2<l⁻¹+1:=fun p hp=>by
  obtain⟨q4,_⟩:=re P (fun p hp=>absurd hp 2#0) (x:=p.1) (c:=p.2) hp;obtain⟨v,o,ho,_⟩:=I3.cell p.1 p.2 q4;exact AW (Ao ho)
 have S:∀b∈fp,b≠D/\b<D:=fun b hb=>by
  obtain⟨ob,eb,_⟩:=T.obj 0 _ eC b hb;have:=Ao eb;rw[hD] at this;exact⟨Aq this,this⟩
 have hfs:∀b∈frs X.stack,b<D:=fun b hb=>by
  obtain⟨_,ob,eb,_⟩:=I2.stack.mem hb;have:=Ao eb;rw[hD] at this;exact this
 have F:∀b o,l.heap.get? b=some o->au.get? b=some o:=cm;have xQ:67#H2 l⁻¹=none:=I3.hok.fresh 0#10;have Ic:Inv Xc aa (ot ar σ) 67#H2 {l with heap:=au}:=by
  have okc:Xc.Ok:=by
   rw[E];refine⟨I.ok.mod,hk,I.ok.glob,I.ok.blt,Ag _,fun x y c a b=>yT scope.names _ _ (fun x y c p q=>I.ok.inj x y c (re P (fun p hp=>absurd hp 2#0) p).1 (re P (fun p hp=>absurd hp 2#0) q).1) hlow x y c (Bo a) (Bo b),fun x hx=>?_,(fun x c a e=>by
    rcases G x c e with ⟨_,q⟩|⟨_,q,_⟩
    ·have a':=TN a
     rw[q] at a';cases a'
    ·exact Ta q),I.ok.hd,I.ok.frames,.inl rfl,fun b hb=>⟨?_,fun x c e=>?_⟩,fun b o e=>?_,?_,fun b o e z=>?_,fun b hb z=>?_,?_,fun b hb=>?_⟩
   ·have hx':(relabel scope X.env).names.lookup x=some .cell\/(relabel scope X.env).names.lookup x=some .free:=hx
    have key:∃Y,scope.names.lookup x=some Y/\(Y=.free\/Y=.cell):=by
     rcases hx' with q|q
     ·obtain⟨Y,e1,e2⟩:=yY q
      rcases e2 with e2|⟨e2,_⟩
      ·exact⟨Y,e1,.inr e2.symm⟩
      ·exact⟨Y,e1,.inl e2⟩
     ·obtain⟨Y,e1,e2⟩:=yY q
      rcases e2 with e2|⟨e2,_⟩
      ·exact⟨Y,e1,.inl e2.symm⟩
      ·exact⟨Y,e1,.inl e2⟩
    obtain⟨Y,e1,e2⟩:=key;have hm:=Bo e1;rcases e2 with rfl|rfl
    ·obtain⟨c,hc'⟩:=q_ (cells:=X.env.cells) (acc:=[]) 74#hm
     obtain⟨d,hd⟩:=yN hc';exact Rj.mp (Rt scope.names (l⁻¹+1) _ (.inr (by rw[hd];rfl)))
    ·exact Rj.mp (Rt scope.names (l⁻¹+1) _ 74#e1)
   ·show b≠l⁻¹
    exact Aq (by rw[ag];exact AW (S b hb).2)
   ·rcases G x c e with ⟨q,_⟩|⟨_,q,_⟩
    ·exact(f2 b hb).2.2.2.2.1 x c q
    ·have h1:b<l⁻¹+1:=by rw[ag];exact AW (AW (S b hb).2)
     exact Bf (AF h1 q)
   ·exact I3.bs b o e
   ·exact AG I.ok.bsz I3.sz
   ·obtain⟨f,_,_,fx,_,_⟩:=f2 b z
    rcases fx with fx|fx
    ·exact I.ok.noex b o e fx
    ·have:=AF (Ao e) I.ok.bsz
     lia
   ·rcases Qj.mp (I2.stkSub b z) with r|r
    ·exact(f2 b hb).2.1 r
    ·exact(f2 b hb).2.2.1 r
   ·exact I3.stack
   ·exact I3.stkFree b hb
  refine⟨okc,(by rw[E];rfl),I3.bare,?_,?_,fun x c e=>?_,?_,fun x c e=>?_,fun p hp=>?_,?_,?_⟩
  ·rw[E]
   exact Un.kept F
  ·rw[xe]
   refine⟨_,cU,fun i x v e1 e2 e3=>?_⟩;obtain⟨c1,c2⟩:=bq;unfold ot at e2;rw[Ah] at e2;cases e4:ar[i]? with
   |none=>rw[e4] at e2;cases e2
   |some cc=>
    rw[e4] at e2;cases cc with
    |none=>cases e2
    |some j=>
     obtain⟨y,d1,d2,d3⟩:=c2 i j e4;have cC:N'[i]?=some x:=by rw[E] at e1;exact e1
     rw[d1] at cC;have xj:y=x:=Ai cC;subst xj;have e5:σ[j]?=some 55#v:=by
      simp only[Bi,Bg] at e2;cases e6:σ[j]? with
      |none=>rw[e6] at e2;cases e2
      |some ov=>rw[e6] at e2;simp only[Rh] at e2;rw[e2]
     have hm:=Bo d3;have vD:p4 X.env.scope y:=by
      rcases hfr _ hm rfl with q|q
      ·exact .inr 74#q
      ·exact .inr (.inr q)
     obtain⟨m,_,hl⟩:=I3.loc;obtain⟨u,ru,lk⟩:=hl j y v d2 e5 vD;refine⟨u,ru,?_⟩;have uC:∃c,X.env.cells.lookup y=some c/\l.heap.IsCell c 55#u:=by
      rcases lk with ⟨k1,_⟩|⟨_,c,k2,k3⟩
      ·rcases hfr _ hm rfl with q|q
       ·rw[k1] at q;cases q
       ·rw[k1] at q;cases q
      ·exact⟨c,k2,k3⟩
     obtain⟨c,k2,k3⟩:=uC;obtain⟨d,hd'⟩:=q_ (cells:=X.env.cells) (acc:=[]) 74#hm;obtain⟨d',aA⟩:=yN hd';obtain⟨d2,iS⟩:=Rj.mp (Rt scope.names (l⁻¹+1) (clOf X.env.cells scope.names []) (x:=y) (.inr (by rw[aA];rfl)));have:c=d2:=by
      rcases G y d2 iS with ⟨q,_⟩|⟨q,_⟩
      ·rw[k2] at q
       exact Ai q
      ·rw[d3] at q;cases q
     subst this;refine .inr ⟨?_,c,iS,k3.keeps F⟩;have rl:=ER (scope:=scope) (env:=X.env) (x:=y) (names:=scope.names) 74#d3;rcases rl with q|q
     ·exact .inr q
     ·exact .inl q
  ·rw[xe] at e
   rcases G x c e with ⟨q,_⟩|⟨_,_,q⟩
   ·obtain⟨v,k3⟩:=I3.cell x c q
    exact⟨v,k3.keeps F⟩
   ·exact⟨_,q⟩
  ·rw[xe];exact xQ
  ·rw[xe] at e
   rcases G x c e with ⟨q,_⟩|⟨_,q,_⟩
   ·exact I3.freeC x c q
   ·exact I3.hok.fresh (Ta q)
  ·have aV:p∈X.pn++aa:=by rw[E] at hp;exact hp
   obtain⟨a1,a2,a3,a4,a5⟩:=I3.pin p aV;refine⟨F _ _ a1,a2,?_,?_,a5⟩
   ·rw[xe]
    show p.1≠l⁻¹;exact Aq (Ao a1)
   ·rw[E]
    intro z;rcases Qj.mp (I3.stkSub p.1 z) with r|r
    ·exact a3 r
    ·exact a4 r
  ·rw[xP,xw]
   exact I3.hok.kept F
  ·unfold ot
   rw[Ab,bq.1,E]
   rfl
 have leave:∀{L:St}{H':Hp}{O:Shared}{h':Heap},Inv Xc aa L H' O->AU l⁻¹ O.heap h'->Inv X aa σ H' {O with heap:=h'}:=fun{L H' O h'} I4 aB=>by
  have hlt:∀b o,M.heap.get? b=some o->b≠D/\b≠l⁻¹:=fun b o e=>by
   have hb:=Ao e;rw[hD] at hb;exact⟨Aq hb,Aq (by rw[ag];exact AW hb)⟩
  have up3:∀b o,M.heap.get? b=some o->l.heap.get? b=some o:=fun b o e=>by rw[h3];exact Ad _ e
  have base:Un (frs X.stack) fp 67#H2 H' l.heap O.heap:=by
   have:=I4.base;rw[E] at this;exact this
  have hCn:H' l⁻¹=none:=by
   have:=I4.free;rw[xe] at this;exact this
  have os4:O.os=M.os:=by
   have:=I4.os;rw[E] at this;rw[this];show l.os=M.os;rw[e3]
  refine I2.call' (s':={O with heap:=h'}) (ch:=fp) os4 ⟨fun b o q n hb hx=>?_,fun b o q n hb hx=>?_,fun b o q n hx=>?_,fun b o q hx=>?_,fun b xs q=>?_,fun b o u q=>?_,fun b ps q=>?_⟩ ?_ I4.bare fun b hb=>?_
  ·obtain⟨n1,n2⟩:=hlt b o q
   exact(aB.2 b n2).trans (base.keep b o (up3 b o q) (by rw[al n1];exact n) hb hx)
  ·obtain⟨n1,n2⟩:=hlt b o q
   obtain⟨sl,e⟩:=base.slot b o (up3 b o q) (by rw[al n1];exact n) hb hx;exact⟨sl,(aB.2 b n2).trans e⟩
  ·obtain⟨n1,n2⟩:=hlt b o q
   exact base.free b o (up3 b o q) (by rw[al n1];exact n) hx
  ·obtain⟨n1,n2⟩:=hlt b o q
   obtain⟨o',e⟩:=base.there b o (up3 b o q) hx;exact⟨o',(aB.2 b n2).trans e⟩
  ·exact base.tups b xs (by rw[al (zg q kH)];exact q)
  ·exact base.frzs b o u (by rw[al (zg q kH)];exact q)
  ·exact base.tbls b ps (by rw[al (zg q kH)];exact q)
  ·intro b u e
   have qd:=I4.hok b u e;rw[xP,xw] at qd;refine qd.stay (fun c v hc q=>(aB.2 c ?_).trans q) (fun _ q=>q) fun _ _ q=>q;rintro rfl;rcases hc with z|z
   ·rw[<-z,hCn] at e;cases e
   ·rw[hCn] at z;cases z
  ·obtain⟨f0,f1,f3,f4,f5,f6⟩:=f2 b hb
   exact⟨f4,f1,f5,f6⟩
 have U:∀{H':Hp},(∀b∈fp,H' b=none)->∀b∈fp,bb Xc aa H' b:=fun{H'} hn b hb=>by
  obtain⟨f0,f1,f3,f4,f5,f6⟩:=f2 b hb;refine⟨hn b hb,?_,?_,.inl (by rw[E];exact hb),fun x c e=>?_,fun p hp=>?_⟩
  ·rw[xe]
   show b≠l⁻¹;exact Aq (by rw[ag];exact AW (S b hb).2)
  ·rw[E]
   intro z;rcases Qj.mp (I2.stkSub b z) with r|r
   ·exact f1 r
   ·exact f3 r
  ·rw[xe] at e
   rcases G x c e with ⟨q,_⟩|⟨_,q,_⟩
   ·exact f5 x c q
   ·have h1:b<l⁻¹+1:=by rw[ag];exact AW (AW (S b hb).2)
    exact Bf (AF h1 q)
  ·rw[E] at hp
   exact f6 p hp
 subst E;have j5:∀n s',(∃i L H',Inv 3#6 aa L H' s'/\tn i s'.heap/\(∀b∈fp,H' b=none)/\W i n L H')->
   codeAny 0#1 X.A (.compLoop 0#3 0 5#it 5#D (compEnvC scope 4#1 l⁻¹ X.env)) (compPost 0#1 X.A X.xe use R 5#D l⁻¹) s':=by
  intro n0 A_ vG;refine codeAny_loop rfl (fun n s'=>∃i L H',Inv 3#6 aa L H' s'/\tn i s'.heap/\(∀b∈fp,H' b=none)/\W i n L H') (fun n s' hI=>?_) n0 vG;obtain⟨i,L,H',I',af,qN,w'⟩:=hI;show wpAny _ X.A ((compTurn 0#3 0 5#it 5#D (compEnvC scope 4#1 l⁻¹ X.env)).onRaise (fun x=>do noteFrame x (compEnvC scope 4#1 l⁻¹ X.env);theTreesLotGoes x)) _ _ s';refine wpAny_noted ?_;rw[compTurn_list];refine Aa (wpAny_standAt (Aa ?_));rcases turn i n L H' w' with ⟨stop,qn⟩|⟨go,step⟩
  ·refine aT (T.done 3#6 rfl rfl rfl hc i aa s' L H' _ I' (U qN) af stop) fun r O ⟨hr,I4⟩=>?_
   subst hr;refine Ac ?_;obtain⟨m,hn,_⟩:=id I4.loc;refine fin D _ H' O _ ⟨⟨m,hn⟩,I3.sz,fun e=>?_,fun x c e=>?_,fun p hp=>Aq (Ao (I3.pin p hp).1),I4.free,fun h' aB=>leave I4 aB⟩ qn
   ·obtain⟨m3,xm,_⟩:=I3.loc
    obtain⟨o3,_,_,ho3,_⟩:=xm;exact absurd e.symm (Aq (Ao ho3))
   ·obtain⟨v,hv⟩:=I3.cell x c e
    obtain⟨o3,ho3,_⟩:=hv;exact Aq (Ao ho3)
  ·refine aT (T.item 3#6 rfl rfl rfl hc i aa s' L H' _ I' (U qN) af go) fun r O ⟨u,hr,h4⟩=>?_
   subst hr;refine Aa (aT h4 fun _ s5 ⟨x,H5,I5,r5,y5,st5,fr5⟩=>?_);have mU:=I5.pinned (U fr5) (T.obj _ _ st5);refine Aa (Br (o_ _ s5 L H5 x u _ mU r5 (step x H5 y5)) (fun _ s6 h6=>?_) fun _ _ z=>z.elim);obtain⟨jX,H6,I6,q6⟩:=h6;refine Aa (Br (ht' _ s6 jX H6 _ I6 q6) (fun ok s7 h7=>?_) fun _ _ z=>z.elim);obtain⟨H7,I7,q7⟩:=h7;have again:∀{lP:St}{H8:Hp}{s8:Shared}{m':Nat},Inv 3#6 (aa++nz fp s5.heap) lP H8 s8->m'<n->W (i+1) m' lP H8->
     ∃m,m<n/\∃i L H',Inv 3#6 aa L H' s8/\tn i s8.heap/\(∀b∈fp,H' b=none)/\W i m L H':=fun{lP H8 s8 m'} I8 hm w8=>by
    refine⟨m',hm,i+1,lP,H8,I8.unpinned,T.keep _ _ _ st5 fun b hb o e=>(I8.pin (b,o) (Bh _ (Bh _ (ql hb e)))).1,fun b hb=>?_,w8⟩;obtain⟨o,e,d⟩:=T.obj _ _ st5 b hb;exact(I8.pin (b,o) (Bh _ (Bh _ (ql hb e)))).2.1
   cases ok with
   |false=>
    obtain⟨m',hm,w7⟩:=q7;exact Ac ⟨rfl,again I7 hm w7⟩
   |true=>
    refine Aa (Aa (Br (he' _ s7 jX H7 _ I7 q7) (fun v s8 h8=>?_) fun _ _ z=>z.elim));obtain⟨y,H8,I8,r8,ys,m',jP,sn,vK,w8⟩:=h8;refine Aa (Br (jk (X:=cxD X scope N' 4#1 l⁻¹ l 67#H2 fp) _ s8 jX H8 5#D [y] 5#D [v] (fun _ H9=>H9=upd H8 D 8#(ys++[y])) I8 rfl (.cons r8 .nil) ⟨D,ys,y,rfl,rfl,jP,sn,rfl⟩) (fun _ s9 h9=>?_) fun _ _ z=>z.elim);obtain⟨_,H9,I9,_,e9⟩:=h9;subst e9;exact Ac (Ac ⟨rfl,again I9 vK w8⟩)
 have start:∃i L H',Inv 3#6 aa L H' {l with heap:=au}/\tn i ({l with heap:=au}:Shared).heap/\(∀b∈fp,H' b=none)/\W i m0 L H':=by
  refine⟨0,ot ar σ,upd H2 D (.lst []),Ic,T.keep 0 _ _ eC fun b hb o e=>F b o (by rw[h3];exact Ad _ e),fun b hb=>?_,w0⟩;rw[al (S b hb).1];exact(f2 b hb).1
 have es:({M with heap:=au}:Shared)={l with heap:=au}:=by rw[e3]
 show codeAny 0#1 X.A _ _ ({M with heap:=au}:Shared);rw[es];refine codeAny_compStart_list (j5 m0 _ start) (T.self _ 0 _ _ _ ?_ (j5 m0 _ start));exact T.keep 0 _ _ eC fun b hb o e=>F b o (by rw[h3];exact Ad _ e)
def ml(b:∀y∈scope.names,y.2≠.cell)(a:List 3#18)(C:Addr)(s₀:Shared)(H₀:Hp)(ex:List Addr):eD X scope N' a C s₀ H₀ ex=cxD X scope N' a C s₀ H₀ ex:=by
 unfold cxD;have:(fun x=>decide (scope.names.lookup x=some NameKind.cell))=fun _=>false:=by
  funext x
  exact TL fun e=>b _ (Bo e) rfl
 rw[this]
 rfl
def J_{R:Ω}(hc:X.calm=true)(hk:scope.kind=.function)(b:∀y∈scope.names,y.2≠.cell)(i:∀y∈scope.names,y.2=.free->scope.names.lookup y.1=some .free)(j:∀y∈scope.names,y.2=.local->scope.names.lookup y.1=some .local)(hfr:∀y∈scope.names,y.2=.free->X.env.kindOf y.1=some .cell\/X.env.kindOf y.1=some .free)(l:mj X.N N' ar scope)(hi:PI X tg iter wi)(o:∀a C s₀ H₀ ex,PG 1#3 tg g)(ht:∀a C s₀ H₀ ex,ip 1#3 a9 tc)(he:∀a C s₀ H₀ ex,PE 1#3 bL te)(hs:∀x,foldedSetIterable iter X.env x=pure x){s:Shared}(I:Inv X aa σ H s)(h:kr wi ar g tc te σ H Q)(fin:∀(D C:Addr)(H':Hp)(c:Shared)(f:Flow),Left X aa σ H' c C->Q 5#D H'->compPost 0#1 X.A X.xe use R 5#D C (.ok f) c):wpAny 0#1 X.A (comprehension 0#3 scope X.env d (newList []) (firstAsync [⟨tg,iter,a9,0⟩]) (firstIter [⟨tg,iter,a9,0⟩] X.env) use) R X.xe s:=
 ES hc hk (fun y hy e=>absurd e (b y hy)) i j hfr l hi (fun a C s₀ H₀ ex=>ml (X:=X) (N':=N') b a C s₀ H₀ ex▸o a C s₀ H₀ ex) (fun a C s₀ H₀ ex=>ml (X:=X) (N':=N') b a C s₀ H₀ ex▸ht a C s₀ H₀ ex) (fun a C s₀ H₀ ex=>ml (X:=X) (N':=N') b a C s₀ H₀ ex▸he a C s₀ H₀ ex) hs I h fin
def Ka(hc:X.calm=true)(hk:scope.kind=.function)(b:∀y∈scope.names,y.2≠.cell)(e:∀y∈scope.names,y.2=.free->scope.names.lookup y.1=some .free)(i:∀y∈scope.names,y.2=.local->scope.names.lookup y.1=some .local)(hfr:∀y∈scope.names,y.2=.free->X.env.kindOf y.1=some .cell\/X.env.kindOf y.1=some .free)(j:mj X.N N' ar scope)(hi:PI X tg iter wi)(l:∀a C s₀ H₀ ex,PG 1#3 tg g)(ht:∀a C s₀ H₀ ex,ip 1#3 a9 tc)(he:∀a C s₀ H₀ ex,PE 1#3 bL te)(hs:∀x,foldedSetIterable iter X.env x=pure x:=by intro _;rfl):PE X 0#3 (kr wi ar g tc te):=by
 intro aa s σ H Q I h;rw[eval_ListComp];refine J_ (use:=none) hc hk b e i hfr j hi l ht he hs I h fun D C H' o f L q=>?_;obtain⟨m,d⟩:=L.ns;exact⟨m,d,fun h' c=>⟨.ref D,H',L.back h' c,rfl,q⟩⟩
end
end L2
end
section
namespace Zp
open PySem PySem.Spec PyProof.Rows
section
variable{prog:Program}{w:World}{A:Around}{E:Ω}{s:Shared}
def Kb{it t:Addr}{Q:Ω}(b:s.heap.IsTupleIter it t i)(ht:s.heap.IsTuple t c)(hx:c[i]?=some x)(f:∀h',h'.IsTupleIter it t (i+1)->AU it s.heap h'->Q x {s with heap:=h'}):wpAny 0#0 A (Builtin.SmallTypes.nextOf 5#it) Q E s:=by
 obtain⟨o,a,hc,hd⟩:=id b;obtain⟨g,d,_,h,e⟩:=ht;unfold Builtin.SmallTypes.nextOf;refine Aa (A5 (name:=A6 "__next__") b.typeIs F.slot_tuple_iterator_next (AX F.slot_tuple_iterator_next b.typeIs F.entry_tuple_iterator_next ?_ (F.args_tuple_iterator_next_1 _)));show wpAny _ _ (field 5#it 0 >>= _) _ _ s;refine Aa (Bw a hd (x:=.ref t) rfl ?_);show wpAny _ _ (if(Value.ref t==Value.none)=true then _ else _) _ _ s;rw[TJ (show ¬((Value.ref t==Value.none)=true) from Ax)];show wpAny _ _ (field 5#it 1 >>= _) _ _ s;refine Aa (Bw a hd (x:=.int i 0) rfl ?_);show wpAny _ _ (seqItems? 5#t >>= _) _ _ s;refine Aa (BB d e ?_);simp only[Bq,hx];refine Aa (wpAny_setField a hd 2#0 (Ac ⟨x,rfl,Ac (f _ ?_ (AI ..))⟩));exact⟨_,Heap.get?_update_self _ a (Obj.isFreed_of_fields (Obj.data_mapFields hd _)),(Obj.cls_mapFields ..).trans hc,by
  rw[Obj.data_mapFields hd];simp[rawInt]⟩
def Kc{it t:Addr}(f:A.handled=none)(c:s.heap.IsTupleIter it t i)(ht:s.heap.IsTuple t d)(hx:d[i]?=none)(j:∀h' e,Heap.ExtBut it s.heap h'->(∃o,h'.get? e=some o/\o.cls=.type "StopIteration")->E 5#e {s with heap:=h'}):wpAny 0#0 A (Builtin.SmallTypes.nextOf 5#it) Q E s:=by
 obtain⟨o,b,hc,hd⟩:=id c;obtain⟨l,g,_,p,h⟩:=ht;unfold Builtin.SmallTypes.nextOf;refine Aa (A5 (name:=A6 "__next__") c.typeIs F.slot_tuple_iterator_next (AX F.slot_tuple_iterator_next c.typeIs F.entry_tuple_iterator_next ?_ (F.args_tuple_iterator_next_1 _)));show wpAny _ _ (field 5#it 0 >>= _) _ _ s;refine Aa (Bw b hd (x:=.ref t) rfl ?_);show wpAny _ _ (if(Value.ref t==Value.none)=true then _ else _) _ _ s;rw[TJ (show ¬((Value.ref t==Value.none)=true) from Ax)];show wpAny _ _ (field 5#it 1 >>= _) _ _ s;refine Aa (Bw b hd (x:=.int i 0) rfl ?_);show wpAny _ _ (seqItems? 5#t >>= _) _ _ s;refine Aa (BB g h ?_);simp only[Bq,hx];refine Aa (wpAny_rule (Aa (wpAny_setField b hd 2#0 ?_)));show wpAny _ _ (newExc (.type "StopIteration") [] >>= _) _ _ _;refine Aa ?_;simp only[newExc,newTuple];refine Aa (AY ?_ (by size_fits));refine Aa (m:=firstArgMember _ _) 2#9;refine AY ?_ (by size_fits);simp only[raiseNew];refine Aa (wpAny_handled ?_)
 first|rw[show A.in1.handled=none from f]|rw[f]
 refine Aa (Ac (wpAny_throw ?_));exact j _ _ (((AI ..).extBut.push _).push _) ⟨_,Al _ rfl,rfl⟩
end
def Kd{h h':Heap}(x:h.IsTuple a b)(e:∀o,h.get? a=some o->h'.get? a=some o):h'.IsTuple a b:=let ⟨o,ho,r⟩:=x;⟨o,e o ho,r⟩
def ET{A:Around}(j:A.handled=none)(it t:Addr)(b:t≠it)(a:Array Value):Draws prog w A it [it,t] a.size (fun i v=>a[i]?=some v) (fun i h=>h.IsTupleIter it t i/\h.IsTuple t a) where
 live:=fun _ _ st=>let ⟨o,ho,_⟩:=st.1;⟨o,ho⟩
 frame:=fun _ _ _ st hk=>⟨st.1.at fun o e=>hk it 2#0 o e,Kd st.2 fun o e=>hk t 2#0 o e⟩
 item:=fun i s Q E hi st d=>by
  refine Kb st.1 st.2 (x:=a[i]) (by simp[hi]) fun h' f c=>?_;exact d _ h' s.toks (by simp[hi]) ⟨f,st.2.extBut c.extBut b⟩ c
 done:=fun s Q E st g=>Kc j st.1 st.2 2#0 g
structure Apart(z TI TO i1 i2:Addr)(cf cg:List Addr):Prop where
 z1:z∉cf
 z2:z∉cg
 o1:TO∉cf
 o2:TO∉cg
 m1:i1∈cf
 m2:i2∈cg
 x12:i1∉cg
 x21:i2∉cf
 TIz:TI≠z
 TOz:TO≠z
 TITO:TI≠TO
 TIi1:TI≠i1
 TIi2:TI≠i2
section
variable{prog:Program}{w:World}{A:Around}{E:Ω}{s:Shared}{z TI TO i1 i2:Addr}{cf cg:List Addr}{n1 n2 i:Nat}{P1 P2:Nat->Value->Prop}{S1 S2:Nat->Heap->Prop}{a b:Value}
def Ke{Q:Ω}(D1:Draws prog w A i1 cf n1 P1 S1)(D2:Draws prog w A i2 cg n2 P2 S2)(D:Apart z TI TO i1 i2 cf cg)(hz:IsZip s.heap z TI TO .none)(dI:IsPair s.heap TI 5#i1 5#i2)(dM:IsPair s.heap TO a b)(h1:S1 i s.heap)(h2:S2 i s.heap)(l1:i<n1)(l2:i<n2)(hQ:∀x y h' tk,P1 i x->P2 i y->IsZip h' z TI TO (rawInt s⁻¹)->IsPair h' TO x y->S1 (i+1) h'->S2 (i+1) h'->IsPair h' s⁻¹ x y->h'.objs.size=s⁻¹+1->
   (∀c o,c≠z->c≠TO->c≠i1->c≠i2->s.heap.get? c=some o->h'.get? c=some o)->Q 0#5 {s with heap:=h',toks:=tk}):
  wpAny 0#0 A (Builtin.«zip.__next__» ⟨[.ref z],[]⟩) (fun fin s'=>∃v,fin=.done (.ret v)/\Q v s') E s:=by
 have h:∀c∈cf,c≠z:=fun c hc e=>D.z1 (e▸hc);have O:∀c∈cg,c≠z:=fun c hc e=>D.z2 (e▸hc);have P:∀c∈cf,c≠TO:=fun c hc e=>D.o1 (e▸hc);have S:∀c∈cg,c≠TO:=fun c hc e=>D.o2 (e▸hc);have oO:∀c∈cg,c≠i1:=fun c hc e=>D.x12 (e▸hc);have vk:∀c∈cf,c≠i2:=fun c hc e=>D.x21 (e▸hc);have lv:i1≠z:=h _ D.m1;have mB:i2≠z:=O _ D.m2;have ib:TO≠i1:=(P _ D.m1).symm;have mI:TO≠i2:=(S _ D.m2).symm;show wpAny _ _ (field 5#z 2 >>= _) _ _ _;refine Aa (Bw hz rfl (x:=.bool false) rfl ?_);show wpAny _ _ (field 5#z 3 >>= _) _ _ _;refine Aa (Bw hz rfl (x:=.ref TI) rfl ?_);refine Aa (BB dI rfl ?_);show wpAny _ _ (Builtin.SmallTypes.ownedTupleIsFree 5#z >>= _) _ _ _;refine Aa ?_;unfold Builtin.SmallTypes.ownedTupleIsFree;refine Aa (Bw hz rfl (x:=.none) rfl 1#5);simp only[if_true];refine Aa (wpAny_rule ?_);refine Aa (Bw hz rfl (x:=.ref TO) rfl ?_);refine Aa (Bj hz 2#0 fun g1 f j=>?_);replace f:IsZip g1 z TI TO .ellipsis:=f;refine Aa ?_;simp only[List.zipIdx_cons,List.zipIdx_nil,SJ,List.forIn_nil];refine Aa (Aa (wpAny_onRaise ?_));show wpAny _ _ (Builtin.SmallTypes.nextOf 5#i1 >>= _) _ _ _;refine Aa (D1.item i _ _ _ l1 (D1.frame _ _ _ h1 fun c hc o e=>j.extBut c o (h c hc) e) fun x g2 kK px s2 l=>Ac ?_);have T:IsPair g2 TO a b:=l.extBut _ _ ib (j.extBut _ _ D.TOz dM);refine Aa (BB T rfl ?_);refine Aa (wpAny_updateSeq_pair T fun g3 H p=>?_);replace H:IsPair g3 TO x b:=H;refine Aa (wpAny_letGo 1#5);refine Aa (Aa (wpAny_onRaise ?_));show wpAny _ _ (Builtin.SmallTypes.nextOf 5#i2 >>= _) _ _ _;refine Aa (D2.item i _ _ _ l2 (D2.frame _ _ _ h2 fun c hc o e=>p.extBut c o (S c hc) (l.extBut c o (oO c hc) (j.extBut c o (O c hc) e))) fun y g4 BF py s4 q=>Ac ?_);have U:IsPair g4 TO x b:=q.extBut _ _ mI H;refine Aa (BB U rfl ?_);refine Aa (wpAny_updateSeq_pair U fun d C r=>?_);replace C:IsPair d TO x y:=C;refine Aa (wpAny_letGo (Ac 1#5));refine Aa (BB C rfl ?_);refine Aa (wpAny_newTuple ?_);have hsz:d.objs.size=s⁻¹:=by rw[r.1,q.1,p.1,l.1,j.1]
 have W:IsZip d z TI TO .ellipsis:=r.extBut _ _ D.TOz.symm (q.extBut _ _ mB.symm (p.extBut _ _ D.TOz.symm (l.extBut _ _ lv.symm f)));have kk:∀c o,c≠z->c≠TO->c≠i1->c≠i2->s.heap.get? c=some o->d.get? c=some o:=fun c o g F I J e=>
  r.extBut _ _ F (q.extBut _ _ J (p.extBut _ _ F (l.extBut _ _ I (j.extBut _ _ g e))))
 have d1:S1 (i+1) d:=D1.frame _ _ _ s2 fun c hc o e=>r.extBut c o (P c hc) (q.extBut c o (vk c hc) (p.extBut c o (P c hc) e));have d2:S2 (i+1) d:=D2.frame _ _ _ s4 fun c hc o e=>r.extBut c o (S c hc) e;have X:z<d.objs.size:=Ao W;have e1:∀c∈cf,∀o,d.get? c=some o->c<d.objs.size:=fun c _ o e=>Ao e;show wpAny _ _ (Builtin.SmallTypes.ownedTupleHandOut 5#z (.ref d.objs.size) >>= _) _ _ _;refine Aa ?_;unfold Builtin.SmallTypes.ownedTupleHandOut;have z6:IsZip (d.push {cls:=.type "tuple",data:=.seq #[x,y]}) z TI TO .ellipsis:=Ad _ W;refine Aa (Bj z6 2#0 fun g7 L M=>?_);replace L:IsZip g7 z TI TO (rawInt d.objs.size):=L;refine Bj L 2#0 fun u G N=>?_;replace G:IsZip u z TI TO (rawInt d.objs.size):=G;have up:∀c o,c≠z->d.get? c=some o->u.get? c=some o:=fun c o g e=>N.extBut _ _ g (M.extBut _ _ g (Ad _ e));have T8:IsPair u d.objs.size x y:=N.extBut _ _ (Bf X) (M.extBut _ _ (Bf X) (Al _ rfl));have Y:u.objs.size=d.objs.size+1:=by rw[N.1,M.1,Heap.size_push]
 rw[hsz] at G T8 Y;refine Ac ⟨_,rfl,?_⟩;show Q (.ref d.objs.size) _;rw[hsz];exact hQ x y u _ px py G (up _ _ D.TOz C) (D1.frame _ _ _ d1 fun c hc o e=>up c o (h c hc) e) (D2.frame _ _ _ d2 fun c hc o e=>up c o (O c hc) e) T8 Y fun c o g F I J e=>up c o g (kk c o g F I J e)
def Kg(D1:Draws prog w A i1 cf n1 P1 S1)(D2:Draws prog w A i2 cg n2 P2 S2)(D:Apart z TI TO i1 i2 cf cg)(hz:IsZip s.heap z TI TO .none)(dI:IsPair s.heap TI 5#i1 5#i2)(dM:IsPair s.heap TO a b)(h1:S1 i s.heap)(h2:S2 i s.heap)(P:i=n1\/(i<n1/\i=n2))(L:∀h' e tk,(∀c o,c≠z->c≠TO->c≠i1->c≠i2->s.heap.get? c=some o->h'.get? c=some o)->(∃o,h'.get? e=some o/\o.cls=.type "StopIteration")->E 5#e {s with heap:=h',toks:=tk}):wpAny 0#0 A (Builtin.«zip.__next__» ⟨[.ref z],[]⟩) Q E s:=by
 have q:∀c∈cf,c≠z:=fun c hc e=>D.z1 (e▸hc);have G:∀c∈cg,c≠z:=fun c hc e=>D.z2 (e▸hc);have T:∀c∈cf,c≠TO:=fun c hc e=>D.o1 (e▸hc);have U:∀c∈cg,c≠TO:=fun c hc e=>D.o2 (e▸hc);have W:∀c∈cg,c≠i1:=fun c hc e=>D.x12 (e▸hc);have H:i1≠z:=q _ D.m1;have X:i2≠z:=G _ D.m2;have Y:TO≠i1:=(T _ D.m1).symm;show wpAny _ _ (field 5#z 2 >>= _) _ _ _;refine Aa (Bw hz rfl (x:=.bool false) rfl ?_);show wpAny _ _ (field 5#z 3 >>= _) _ _ _;refine Aa (Bw hz rfl (x:=.ref TI) rfl ?_);refine Aa (BB dI rfl ?_);show wpAny _ _ (Builtin.SmallTypes.ownedTupleIsFree 5#z >>= _) _ _ _;refine Aa ?_;unfold Builtin.SmallTypes.ownedTupleIsFree;refine Aa (Bw hz rfl (x:=.none) rfl 1#5);simp only[if_true];refine Aa (wpAny_rule ?_);refine Aa (Bw hz rfl (x:=.ref TO) rfl ?_);refine Aa (Bj hz 2#0 fun g1 d j=>?_);replace d:IsZip g1 z TI TO .ellipsis:=d;refine Aa ?_;simp only[List.zipIdx_cons,List.zipIdx_nil,SJ,List.forIn_nil];refine Aa (Aa (wpAny_onRaise ?_));have f1:=D1.frame _ _ _ h1 fun c hc o e=>j.extBut c o (q c hc) e;rcases P with u|⟨S,u⟩
 ·show wpAny _ _ (Builtin.SmallTypes.nextOf 5#i1 >>= _) _ _ _
  refine Aa (D1.done _ _ _ (u▸f1) fun g2 e f he=>?_);obtain⟨v,g,p⟩:=he;have z2:IsZip g2 z TI TO .ellipsis:=f _ _ H.symm d;have y:e≠z:=fun x=>by subst x;rw[z2] at g;cases g;simp at p
  refine Bj z2 2#0 fun g3 _ h=>L g3 e _ (fun c o l _ r _ x=>h.extBut _ _ l (f _ _ r (j.extBut _ _ l x))) ⟨v,h.extBut _ _ y g,p⟩
 ·show wpAny _ _ (Builtin.SmallTypes.nextOf 5#i1 >>= _) _ _ _
  refine Aa (D1.item i _ _ _ S f1 fun x g2 kK px s2 f=>Ac ?_);have I:IsPair g2 TO a b:=f.extBut _ _ Y (j.extBut _ _ D.TOz dM);refine Aa (BB I rfl ?_);refine Aa (wpAny_updateSeq_pair I fun g3 t3 h=>?_);refine Aa (wpAny_letGo 1#5);refine Aa (Aa (wpAny_onRaise ?_));have f2:S2 i g3:=D2.frame _ _ _ h2 fun c hc o e=>h.extBut c o (U c hc) (f.extBut c o (W c hc) (j.extBut c o (G c hc) e));show wpAny _ _ (Builtin.SmallTypes.nextOf 5#i2 >>= _) _ _ _;refine Aa (D2.done _ _ _ (u▸f2) fun g4 e C he=>?_);obtain⟨v,g,p⟩:=he;have J:IsZip g4 z TI TO .ellipsis:=C _ _ X.symm (h.extBut _ _ D.TOz.symm (f.extBut _ _ H.symm d));have y:e≠z:=fun x=>by subst x;rw[J] at g;cases g;simp at p
  refine Bj J 2#0 fun M _ F=>L M e _ (fun c o l N r O x=>F.extBut _ _ l (C _ _ O (h.extBut _ _ N (f.extBut _ _ r (j.extBut _ _ l x))))) ⟨v,F.extBut _ _ y g,p⟩
end
def Kh{A:Around}{z TI TO i1 i2:Addr}(D1:Draws prog w A.in1 i1 cf n1 P1 S1)(D2:Draws prog w A.in1 i2 cg n2 P2 S2)(D:Apart z TI TO i1 i2 cf cg):WalksT prog w A z (z::TI::TO::(cf++cg)) [z,TO,i1,i2] (min n1 n2) (fun i vals=>∃x y,P1 i x/\P2 i y/\vals=#[x,y])
   (fun i h=>IsZip h z TI TO .none/\IsPair h TI 5#i1 5#i2/\(∃a b,IsPair h TO a b)/\S1 i h/\S2 i h)
   (fun i T h=>IsZip h z TI TO (rawInt T)/\IsPair h TI 5#i1 5#i2/\(∃a b,IsPair h TO a b)/\S1 (i+1) h/\S2 (i+1) h/\T≠z/\T≠TO/\T≠i1/\T≠i2) where
 sub:=fun c hc=>by
  simp at hc ⊢;rcases hc with rfl|rfl|rfl|rfl
  ·simp
  ·simp
  ·exact .inr 65#(.inl D.m1)
  ·exact .inr 65#(.inr D.m2)
 frame:=fun i h h' d hk=>by
  obtain⟨hz,f,⟨a,b,g⟩,h1,h2⟩:=d;exact⟨hk z 2#0 _ hz,hk TI 2#0 _ f,⟨a,b,hk TO 2#0 _ g⟩,D1.frame _ _ _ h1 fun c hc o e=>hk c (by simp[hc]) o e,D2.frame _ _ _ h2 fun c hc o e=>hk c (by simp[hc]) o e⟩
 item:=fun i s Q E hi d j=>by
  obtain⟨hz,f,⟨a,b,g⟩,h1,h2⟩:=d;have hT:s.TypeIs 5#z "zip":=⟨_,hz,rfl⟩;unfold pyNext;refine Aa (wpAny_attempt (A5 (name:=A6 "__next__") hT F.slot_zip_next (AX F.slot_zip_next hT F.entry_zip_next
   (Ke D1 D2 D hz f g h1 h2 (AF hi (Nat.min_le_left ..)) (AF hi (Tj ..)) fun x y h' tk p r u v C G H W hk=>Ac ?_) (F.args_zip_next_1 _))))
  have lt:∀{c o},s.heap.get? c=some o->s⁻¹≠c:=fun e=>Bf (Ao e);obtain⟨X,J⟩:=D1.live _ _ h1;obtain⟨Y,L⟩:=D2.live _ _ h2;exact j s⁻¹ #[x,y] h' tk ⟨_,_,p,r,rfl⟩ 0#10 ⟨_,H,rfl,_,rfl⟩ ⟨u,hk _ _ D.TIz D.TITO D.TIi1 D.TIi2 f,⟨_,_,v⟩,C,G,lt hz,lt g,lt J,lt L⟩
   fun c o hc e=>hk c o 4#14 4#14 4#14 4#14 e
 go:=fun bU k pos i T s Q E hm j=>by
  obtain⟨hz,f,⟨a,b,g⟩,h1,h2,_⟩:=hm;refine wpAny_letOwnedTupleGo_zip hz fun h' I l=>j h' ⟨I,l.extBut _ _ D.TIz f,⟨a,b,l.extBut _ _ D.TOz g⟩,
   D1.frame _ _ _ h1 fun c hc o e=>l.extBut c o (fun q=>D.z1 (q▸hc)) e,D2.frame _ _ _ h2 fun c hc o e=>l.extBut c o (fun q=>D.z2 (q▸hc)) e⟩ fun c o hc e=>l.extBut _ _ 4#14 e
 apart:=fun i T h hm hT=>by
  obtain⟨_,_,_,_,_,M,N,O,P⟩:=hm;simp at hT;rcases hT with rfl|rfl|rfl|rfl
  ·exact M rfl
  ·exact N rfl
  ·exact O rfl
  ·exact P rfl
 done:=fun s Q E d j=>by
  obtain⟨hz,f,⟨a,b,g⟩,h1,h2⟩:=d;have hT:s.TypeIs 5#z "zip":=⟨_,hz,rfl⟩;have U:min n1 n2=n1\/(min n1 n2<n1/\min n1 n2=n2):=ω
  unfold pyNext;refine Aa (wpAny_attempt (A5 (name:=A6 "__next__") hT F.slot_zip_next
   (AX F.slot_zip_next hT F.entry_zip_next (Kg D1 D2 D hz f g h1 h2 U fun h' e tk hk he=>?_) (F.args_zip_next_1 _))))
  obtain⟨o,S,hc⟩:=he;refine Aa (wpAny_isInstance (T:="StopIteration") (b:=true) ⟨o,S,hc⟩ isSubtype_stop ?_);exact Ac (j _ tk fun c o hc e=>hk c o 4#14 4#14 4#14 4#14 e)
 self:=fun i s Q E d j=>wpAny_pyIter_zip d.1 j
end Zp
end
section
namespace L2
open PySem PySem.Spec PyProof.Rows
section
variable{X:Cx}{aa:Ψ}{σ:St}{H:Hp}{s:Shared}{h':Heap}
def Inv.turneds{t':Nat}{ch:List Addr}(I:Inv X aa σ H s)(hf:∀b∈ch,bb X aa H b)(k:∀b o,b∉ch->s.heap.get? b=some o->h'.get? b=some o):Inv X aa σ H {s with heap:=h',toks:=t'}:=by
 have a:∀b u,H b=some u->b∉ch:=fun b u e z=>by have:=(hf b z).1;rw[this] at e;cases e
 refine I.step (g':=s.gens) (d':=s.drawn) (ch:=ch) (fun b hb=>?_) (fun b o _ _ hc e _=>k b o hc e) (fun b o _ _ hc e _=>⟨o.slots,k b o hc e⟩) (fun _ _ _ _ n=>n)
  (fun b o hc e=>⟨o,k b o hc e⟩) (fun _ _ e=>e) (fun _ _ _ e=>e) (fun b ps e=>⟨#[],by rw[e];simp⟩) (fun m hm=>?_) (fun b u e=>?_) I.bare
 ·obtain⟨h,f1,f2,d,f,f5⟩:=hf b hb
  exact⟨d,f1,f,f5⟩
 ·obtain⟨o,es,ep,g,r⟩:=hm
  exact⟨o,es,ep,k _ o (fun z=>(hf _ z).2.1 rfl) g,r⟩
 ·refine(I.hok b u e).stay (fun c v hc q=>k c v ?_ q) (fun _ q=>q) fun _ _ q=>q
  rcases hc with z|z
  ·rw[z];exact a b u e
  ·exact a c _ z
def Inv.adopt(I:Inv X aa σ H s)(d:H a=none)(h1:X.s₀⁻¹<=a)(h2:a≠X.env.locals)(f:∀x c,X.env.cells.lookup x=some c->c≠a)(g:∀p∈X.pn++aa,p.1≠a)(new:zr X.prog X.w 81#a s.heap a o):Inv X aa σ 81#a s:=by
 refine I.step (h':=s.heap) (g':=s.gens) (t':=s.toks) (d':=s.drawn) (ch:=[a]) (fun b hb=>?_) (fun b o _ _ hc e _=>e) (fun b o _ _ hc e _=>⟨o.slots,e⟩) (fun b o hc e n=>?_)
  (fun b o hc e=>⟨o,e⟩) (fun b xs e=>?_) (fun b o u e=>?_) (fun b ps e=>⟨#[],?_⟩) (fun m hm=>hm) (fun b u e=>?_) I.bare
 ·have e:b=a:=by simpa using hb
  subst e;exact⟨.inr h1,h2,f,g⟩
 ·rw[al (fun z=>hc (by simp[z]))];exact n
 ·rw[al (zg e d)];exact e
 ·rw[al (zg e d)];exact e
 ·rw[al (zg e d),e];simp
 ·by_cases hb:b=a
  ·subst hb;rw[ac] at e;cases e;exact new
  ·rw[al hb] at e
   exact(I.hok b u e).stay (fun _ _ _ q=>q) (fun c q=>by rw[al (zg q d)];exact q) fun c xs q=>by rw[al (zg q d)];exact q
def Inv.grown{t':Nat}{ch:List Addr}{a:Addr}{o:HO}(I:Inv X aa σ H s)(hf:∀b∈ch,bb X aa H b)(k:∀b o,b∉ch->s.heap.get? b=some o->h'.get? b=some o)(hp:s⁻¹<=a)(new:zr X.prog X.w 81#a h' a o):Inv X aa σ 81#a {s with heap:=h',toks:=t'}:=by
 have I1:Inv X aa σ H {s with heap:=h',toks:=t'}:=I.turneds hf k;obtain⟨c,f1,f2,e,d,f5⟩:=I.fpOk hp (I.hok.fresh hp);exact I1.adopt c (AG I.sz hp) f1 d f5 new
def EU{b t:Addr}(I:Inv X aa σ H s)(f:bb X aa H b)(hk:X.K.lookup t=some o):t≠b:=by
 intro z;subst z;have e:=I.ok.mod.kin t o hk;rcases f.2.2.2.1 with q|q
 ·exact I.ok.noex t o e q
 ·exact absurd (AF (Ao (I.ok.bs t o e).1) q) (QT _)
def EV{b t:Addr}(I:Inv X aa σ H s)(f:bb X aa H b)(h:SqT X.K H t xs):t≠b:=by
 rcases h with (h|⟨o,h⟩)|⟨o,_,_,hk,_⟩
 ·exact zg h f.1
 ·exact zg h f.1
 ·exact EU I f hk
def Ki{b t:Addr}(I:Inv X aa σ H s)(f:bb X aa H b)(h:SqL X.K H t xs):t≠b:=by
 rcases h with (h|⟨o,h⟩)|⟨o,_,_,hk,_⟩
 ·exact zg h f.1
 ·exact zg h f.1
 ·exact EU I f hk
end
def EW{P:Program}{w:World}{K:Af}{J:It}{fp wr:List Addr}{it:Addr}{a:Nat->Heap->Prop}{bU:List Expr}{k:Nat}{pos:Pos}(mem:it∈fp)(obj:∀i h,a i h->∀b∈fp,∃o,h.get? b=some o/\∀v,o.data≠.cell v)(keep:∀i h h',a i h->(∀b∈fp,∀o,h.get? b=some o->h'.get? b=some o)->a i h')(hw:∀b∈wr,b∈fp)(W:∀(X:Cx),X.prog=P->X.w=w->X.K=K->X.calm=true->∀(i:Nat)(aa:Ψ)(s:Shared)(σ:St)(H:Hp),Inv X aa σ H s->(∀b∈fp,bb X aa H b)->a i s.heap->(J.go i H\/J.stop i H)->
   ∃(u:List Addr)(n:Nat)(Pt:Nat->Array Value->Prop)(S:Nat->Heap->Prop)(x:Nat->Addr->Heap->Prop),WalksT P w X.A it u wr n Pt S x/\S i s.heap/\(∀j h,S j h->a j h)/\
    (J.go i H->i<n/\∀vals,Pt i vals->∃xs:List V,Vals xs vals.toList/\xs.length<=sizeLine/\∀p,H p=none->J.yld i H 5#p (upd H p 52#xs))/\(J.stop i H->i=n))
  (self:∀(A:Around)(i:Nat)(s:Shared)(Q:Ω)(E:Ω),a i s.heap->Q 5#it s->wpAny (model P w) A (pyIter 5#it) Q E s) :
  Turn P w K (.Tuple bU k pos) J fp it a where
 mem:=mem
 obj:=obj
 keep:=keep
 item:=by
  intro X c d f hc i aa s σ H E I hf st l;obtain⟨u,n,Pt,S,x,WT,y,C,g,_⟩:=W X c d f hc i aa s σ H I hf st 74#l;obtain⟨hi,M⟩:=g l;subst c d f;refine WT.item i s _ _ hi y fun T vals h' tk hp hT D hm hk=>⟨.ref T,rfl,?_⟩;obtain⟨xs,N,hz,hy⟩:=M vals hp;have I1:Inv X aa σ (upd H T 52#xs) {s with heap:=h',toks:=tk}:=I.grown (ch:=wr) (fun b hb=>hf b (hw b hb)) hk hT (show zr X.prog X.w _ h' T 52#xs from⟨hz,vals.toList,N,by have q:IsTup h' T vals:=D;simpa using q⟩);have Y:∀b∈fp,b≠T:=fun b hb=>by
   obtain⟨o,e,_⟩:=obj i _ st b hb;exact Aq (AF (Ao e) hT)
  have r:∀b∈fp,bb X aa (upd H T 52#xs) b:=fun b hb=>by
   obtain⟨O,U⟩:=hf b hb;exact⟨by rw[al (Y b hb)];exact O,U⟩
  refine WT.go bU k pos i T _ _ _ hm fun F G L=>?_;have I2:Inv X aa σ (upd H T 52#xs) {s with heap:=F,toks:=tk}:=I1.turneds (s:={s with heap:=h',toks:=tk}) (t':=tk) (ch:=wr) (fun b hb=>r b (hw b hb)) L;exact⟨.ref T,_,I2,rfl,hy T (I.hok.fresh hT),C _ _ G,fun b hb=>(r b hb).1⟩
 done:=by
  intro X c d f hc i aa s σ H E I hf st l;obtain⟨u,n,Pt,S,x,WT,y,C,_,g⟩:=W X c d f hc i aa s σ H I hf st (.inr l);subst c d f;have e:=g l;subst e;exact WT.done s _ _ y fun h' tk hk=>⟨rfl,I.turneds (ch:=wr) (fun b hb=>hf b (hw b hb)) hk⟩
 self:=self
noncomputable def y4(K:Af)(a b:Addr):It:=
 ⟨fun i H=>∃xs ys,SqT K H a xs/\SqT K H b ys/\i<min xs.length ys.length,
  fun i H v H'=>∃p x y,v=.ref p/\H p=none/\H'=upd H p (.tup [x,y])/\(∀xs,SqT K H a xs->xs[i]?=some x)/\∀ys,SqT K H b ys->ys[i]?=some y,
  fun i H=>∃xs ys,SqT K H a xs/\SqT K H b ys/\i=min xs.length ys.length⟩
def eF:(2:Nat)<=sizeLine:=by rw[Bp];decide
def Kj{K:Af}{k:Nat}{pos:Pos}(N O z TI TO i1 i2:Addr)(hd:TI≠z/\TO≠z/\TI≠TO/\TI≠i1/\TI≠i2/\z≠i1/\z≠i2/\TO≠i1/\TO≠i2/\i1≠i2):Turn P w K (.Tuple bU k pos) (y4 K N O) [z,TI,TO,i1,i2] z (fun i h=>IsZip h z TI TO .none/\IsPair h TI 5#i1 5#i2/\(∃a b,IsPair h TO a b)/\h.IsTupleIter i1 N i/\h.IsTupleIter i2 O i):=by
 obtain⟨d1,d2,d3,d4,d5,d6,d7,d8,d9,lE⟩:=hd;refine EW (wr:=[z,TO,i1,i2]) 2#0 (fun i h st b hb=>?_) (fun i h h' st c=>?_) (fun b hb=>?_) (fun X hP hw hK hc i aa s σ H I hf st i9=>?_) fun A i s Q E st h=>wpAny_pyIter_zip st.1 h
 ·obtain⟨d,l,⟨a,b',q⟩,⟨o4,r,_,S⟩,⟨o5,C,_,e5⟩⟩:=st
  simp at hb;rcases hb with rfl|rfl|rfl|rfl|rfl
  ·exact⟨_,d,fun v z=>by cases z⟩
  ·exact⟨_,l,fun v z=>by cases z⟩
  ·exact⟨_,q,fun v z=>by cases z⟩
  ·exact⟨_,r,fun v z=>by rw[S] at z;cases z⟩
  ·exact⟨_,C,fun v z=>by rw[e5] at z;cases z⟩
 ·obtain⟨d,l,⟨a,b',q⟩,r,C⟩:=st
  exact⟨c z 2#0 _ d,c TI 2#0 _ l,⟨a,b',c TO 2#0 _ q⟩,r.at fun o e=>c i1 2#0 o e,C.at fun o e=>c i2 2#0 o e⟩
 ·simp at hb ⊢
  rcases hb with rfl|rfl|rfl|rfl<;>simp
 ·subst hP hw hK
  have hd:∃xs ys,SqT X.K H N xs/\SqT X.K H O ys:=by
   rcases i9 with ⟨xs,ys,a,b,_⟩|⟨xs,ys,a,b,_⟩
   ·exact⟨xs,ys,a,b⟩
   ·exact⟨xs,ys,a,b⟩
  obtain⟨xs,ys,D,F⟩:=hd;obtain⟨us,r1,p1,_⟩:=I.tuple D;obtain⟨ws,r2,p2,_⟩:=I.tuple F;have L:=r1.length;have M:=r2.length;have hh:=I.ok.hd hc;obtain⟨d,l,q,r,C⟩:=st;have f:=fun b hb=>EV I (hf b hb) D;have T:=fun b hb=>EV I (hf b hb) F;have AP:Zp.Apart z TI TO i1 i2 [i1,N] [i2,O]:=by
   refine⟨?_,?_,?_,?_,by simp,by simp,?_,?_,d1,d2,d3,d4,d5⟩
   ·simp;exact⟨d6,(f z 2#0).symm⟩
   ·simp;exact⟨d7,(T z 2#0).symm⟩
   ·simp;exact⟨d8,(f TO 2#0).symm⟩
   ·simp;exact⟨d9,(T TO 2#0).symm⟩
   ·simp;exact⟨lE,(T i1 2#0).symm⟩
   ·simp;exact⟨lE.symm,(f i2 2#0).symm⟩
  have WZ:=Zp.Kh (prog:=X.prog) (w:=X.w) (A:=X.A) (Zp.ET (A:=X.A.in1) hh i1 N (f i1 2#0) us.toArray) (Zp.ET (A:=X.A.in1) hh i2 O (T i2 2#0) ws.toArray) AP;refine⟨_,_,_,_,_,WZ,⟨d,l,q,⟨r,p1⟩,⟨C,p2⟩⟩,fun j h st=>⟨st.1,st.2.1,st.2.2.1,st.2.2.2.1.1,st.2.2.2.2.1⟩,fun g=>?_,fun g=>?_⟩
  ·obtain⟨G,J,U,W,hi⟩:=g
   have e1:=I.tuple_inj U D;have e2:=I.tuple_inj W F;subst e1 e2;refine⟨by simpa[<-L,<-M] using hi,fun vals hp=>?_⟩;obtain⟨x,y,px,py,rfl⟩:=hp;have ou:us[i]?=some x:=by simpa using px
   have Y:ws[i]?=some y:=by simpa using py
   have lx:i<G.length:=ω
   have ly:i<J.length:=ω
   have gx:G[i]?=some G[i]:=by simp[lx]
   have gy:J[i]?=some J[i]:=by simp[ly]
   obtain⟨u,e3,ru⟩:=r1.get gx;obtain⟨u',S,fJ⟩:=r2.get gy;rw[ou] at e3;cases e3;rw[Y] at S;cases S;refine⟨[G[i],J[i]],.cons ru (.cons fJ .nil),eF,fun p hp=>⟨p,_,_,rfl,hp,rfl,fun zs hz=>?_,fun zs hz=>?_⟩⟩
   ·rw[I.tuple_inj hz D];exact gx
   ·rw[I.tuple_inj hz F];exact gy
  ·obtain⟨G,J,U,W,hi⟩:=g
   have e1:=I.tuple_inj U D;have e2:=I.tuple_inj W F;subst e1 e2
   simpa[<-L,<-M] using hi
def Kk(b e:Addr)(xs ys:Array Value):Meets (Builtin.«zip.__new__» ⟨[.type "zip",.ref b,.ref e],[]⟩) (fun _ R s=>s.heap.IsTuple b xs/\s.heap.IsTuple e ys/\
   ∀h',IsZip h' (s⁻¹+4) (s⁻¹+2) (s⁻¹+3) .none->IsPair h' (s⁻¹+2) 0#5 5#(s⁻¹+1)->
   IsPair h' (s⁻¹+3) .none .none->h'.IsTupleIter s⁻¹ b 0->h'.IsTupleIter (s⁻¹+1) e 0->
   (∀c o,s.heap.get? c=some o->h'.get? c=some o)->R (.ok (.ret 5#(s⁻¹+4))) {s with heap:=h'}):=
 .of_wp fun prog w A R s h=>by
  obtain⟨hp,g,d,tk,os⟩:=s;obtain⟨f,i,h⟩:=h;have p:=sub_zip;have j:Heap.IsTuple (Shared.heap ⟨hp,g,d,tk,os⟩) b xs:=f;have l:Heap.IsTuple (Shared.heap ⟨hp.push {cls:=.type "tuple_iterator",data:=.fields #[.ref b,.int 0 0]},g,d,tk,os⟩) e ys:=Heap.IsTuple.push i _
  wp_walk using wpAny_pyIter_tuple j,wpAny_pyIter_tuple l
  refine⟨_,rfl,?_⟩;dsimp only at h ⊢;have a:∀(h:Heap)(o:Obj),(h.push o).objs.size=h.objs.size+1:=fun h o=>Heap.size_push ..;simp only[a,Nat.add_assoc,Nat.reduceAdd];refine h _ ?_ ?_ ?_ ?_ ?_ fun c o x=>Ad _ (Ad _ (Ad _ (Ad _ (Ad _ x))))
  ·exact Heap.get?_push_at (by simp only[a]) rfl
  ·exact Ad _ (Ad _ (Heap.get?_push_at (by simp only[a]) rfl))
  ·exact Ad _ (Heap.get?_push_at (by simp only[a]) rfl)
  ·exact⟨_,Ad _ (Ad _ (Ad _ (Ad _ (Al _ rfl)))),rfl,rfl⟩
  ·exact⟨_,Ad _ (Ad _ (Ad _ (Heap.get?_push_at (by simp only[a]) rfl))),rfl,rfl⟩
section
variable{X:Cx}{bU:List Expr}{k:Nat}{eO:Pos}
def zz(K:Af)(ta:TA):TI:=fun σ H R=>ta σ H fun vs H1=>∃a b,vs=[.ref a,.ref b]/\(∃xs,SqT K H1 a xs)/\(∃ys,SqT K H1 b ys)/\R (y4 K a b) H1
def Kl{a b:Expr}{p pos:Pos}(J:Gl X "zip")(hm:X.mg "zip"=none)(L:Ba "zip"=some (.type "zip"))(ha:PA X [a,b] ta)(hs:starEach [a,b] X.env=[60#a,60#b]:=by rfl)(j:starEach [b] X.env=[60#b]:=by rfl):PI X (.Tuple bU k eO) (.Call (.Name "zip" p) [a,b] [] pos) (zz X.K ta):=by
 intro aa s σ H R I h;refine Call_ (ij I J hm L (Rr (aT 1#12 fun us c ⟨vs,H1,I1,l,d⟩=>?_) (by rw[hs,j]) (by rw[j];rfl)));obtain⟨g,i,e,⟨xs,d⟩,⟨ys,y⟩,q⟩:=d;subst e;obtain⟨u,N,rfl,A,C⟩:=vals2 l;cases A;cases C;obtain⟨D,_,E,_⟩:=I1.tuple d;obtain⟨G,_,p2,_⟩:=I1.tuple y;refine callType_new F.called_zip ξ (F.typeCall_zip_2 _ _) (F.newCall_zip_2 _ _) (fun obj=>F.args_object_init_3 obj _ _) F.entry_zip_new (Kk g i D.toArray G.toArray) ⟨E,p2,fun h' f o r v w x=>?_⟩;refine⟨⟨_,f,rfl⟩,wpAny_pyIter_zip f ?_⟩;have M:Inv X aa σ H1 {c with heap:=h'}:=I1.kept (t':=c.toks) x;refine⟨c⁻¹+4,[c⁻¹+4,c⁻¹+2,c⁻¹+3,c⁻¹,c⁻¹+1],_,_,H1,rfl,M,Kj g i _ _ _ _ _ (by refine⟨?_,?_,?_,?_,?_,?_,?_,?_,?_,?_⟩<;>(intro z;have O:(_:Nat)=_:=z;lia)),⟨f,o,⟨_,_,r⟩,v,w⟩,fun b hb=>?_,q⟩;have hb':c⁻¹<=b:=by
  simp only[Qj,QL,or_false] at hb;rcases hb with rfl|rfl|rfl|rfl|rfl
  ·exact RN _ _
  ·exact RN _ _
  ·exact RN _ _
  ·exact Ag _
  ·exact RN _ _
 exact I1.fpOk hb' (I1.hok.fresh hb')
end
noncomputable def mm(K:Af)(a:Addr):It:=
 ⟨fun i H=>∃xs,SqL K H a xs/\i<xs.length,
  fun i H v H'=>∃p x,v=.ref p/\H p=none/\H'=upd H p (.tup [.int i,x])/\∀xs,SqL K H a xs->xs[i]?=some x,
  fun i H=>∃xs,SqL K H a xs/\i=xs.length⟩
def Km{K:Af}{k:Nat}{pos:Pos}(a e it:Addr)(hd:e≠it):Turn P w K (.Tuple bU k pos) (mm K a) [e,it] e (fun i h=>(∃d,IsEnum h e it i d)/\h.IsListIter it a i):=by
 refine EW (wr:=[e,it]) 2#0 (fun i h st b hb=>?_) (fun i h h' st G=>?_) (fun b hb=>hb) (fun X M hw N hc i aa s σ H I hf st O=>?_) fun A i s Q E st h=>?_
 ·obtain⟨⟨d,c⟩,⟨o4,l,_,S⟩⟩:=st
  simp at hb;rcases hb with rfl|rfl
  ·exact⟨_,c,fun v z=>by cases z⟩
  ·exact⟨_,l,fun v z=>by rw[S] at z;cases z⟩
 ·obtain⟨⟨d,c⟩,l⟩:=st
  exact⟨⟨d,G e 2#0 _ c⟩,l.at fun o q=>G it 2#0 o q⟩
 ·subst M hw N
  have F:∃xs,SqL X.K H a xs:=by
   rcases O with ⟨xs,q,_⟩|⟨xs,q,_⟩
   ·exact⟨xs,q⟩
   ·exact⟨xs,q⟩
  obtain⟨xs,r⟩:=F;obtain⟨us,J,T,_⟩:=I.list r;have y:=J.length;have Y:=I.ok.hd hc;obtain⟨c,l⟩:=st;have f:=fun b hb=>Ki I (hf b hb) r;have WZ:=WalksT.enumerateD (prog:=X.prog) (w:=X.w) (A:=X.A) (Draws.list (A:=X.A.in1) Y it a (f it 2#0) us.toArray) e hd (by simp;exact⟨hd,(f e 2#0).symm⟩) 2#0;refine⟨_,_,_,_,_,WZ,⟨c,l,T.isList⟩,fun j h st=>⟨st.1,st.2.1⟩,fun g=>?_,fun g=>?_⟩
  ·obtain⟨C,D,hi⟩:=g
   have e1:=I.list_inj D r;subst e1;refine⟨by simpa[<-y] using hi,fun vals hp=>?_⟩;obtain⟨t,x,U,rfl⟩:=hp;have ou:us[i]?=some x:=by simpa using U
   have L:C[i]?=some C[i]:=by simp[hi]
   obtain⟨u,e3,W⟩:=J.get L;rw[ou] at e3;cases e3;refine⟨[.int i,C[i]],.cons ⟨_,rfl⟩ (.cons W .nil),eF,fun p hp=>⟨p,_,rfl,hp,rfl,fun zs hz=>?_⟩⟩;rw[I.list_inj hz r];exact L
  ·obtain⟨C,D,hi⟩:=g
   have e1:=I.list_inj D r;subst e1
   simpa[<-y] using hi
 ·obtain⟨⟨d,c⟩,_⟩:=st
  exact wpAny_pyIter_enum c h
section
variable{X:Cx}{bU:List Expr}{k:Nat}{eO:Pos}
def Kn(K:Af)(ta:TA):TI:=fun σ H R=>ta σ H fun vs H1=>∃a,vs=[.ref a]/\(∃xs,SqL K H1 a xs)/\R (mm K a) H1
def z0{a:Expr}{p pos:Pos}(v:Gl X "enumerate")(hm:X.mg "enumerate"=none)(w:Ba "enumerate"=some (.type "enumerate"))(ha:PA X [a] ta)(hs:starEach [a] X.env=[60#a]:=by rfl):PI X (.Tuple bU k eO) (.Call (.Name "enumerate" p) [a] [] pos) (Kn X.K ta):=by
 intro aa s σ H R I h;refine Call_ (ij I v hm w (Rr (aT 1#12 fun us c ⟨vs,H1,I1,g,d⟩=>?_) hs rfl));obtain⟨l,e,⟨xs,d⟩,q⟩:=d;subst e;obtain⟨u,rfl,o⟩:=vals1 g;cases o;obtain⟨A,_,r,_⟩:=I1.list d;refine call_enumerate_list r.isList fun h' f i y j=>?_;refine wpAny_pyIter_enum f ?_;have x:Inv X aa σ H1 {c with heap:=h'}:=I1.kept (t':=c.toks) j;refine⟨c⁻¹+1,[c⁻¹+1,c⁻¹],_,_,H1,rfl,x,Km l _ _ (by intro z;have C:(_:Nat)=_:=z;lia),⟨⟨_,f⟩,i⟩,fun b hb=>?_,q⟩;have hb':c⁻¹<=b:=by
  simp only[Qj,QL,or_false] at hb;rcases hb with rfl|rfl
  ·exact RN _ _
  ·exact Ag _
 exact I1.fpOk hb' (I1.hok.fresh hb')
def EX{K:Af}{xs:List V}{g:TG}{tb:TS}{D:Ends}(b:Nat->St->Hp->Prop)(r:b 0 σ H)(u:∀i σ H,i<=xs.length->b i σ H->SqL K H a xs)(hs:∀i x p σ H,xs[i]?=some x->b i σ H->H p=none->g 5#p σ (upd H p (.tup [.int i,x])) fun d H2=>tb {D with nx:=b (i+1),ct:=b (i+1),bk:=D.nx} d H2)(hd:∀σ H,b xs.length σ H->D.nx σ H):∃W:Nat->Nat->St->Hp->Prop,(∃m,W 0 m σ H)/\∀i m σ H,W i m σ H->
   ((mm K a).stop i H/\D.nx σ H)\/((mm K a).go i H/\∃N:St->Hp->Prop,(∀f H',N f H'->∃h,h<m/\W (i+1) h f H')/\∀x H',(mm K a).yld i H x H'->g x σ H' fun d H2=>tb {D with nx:=N,ct:=N,bk:=D.nx} d H2):=by
 refine⟨fun i m σ H=>m=xs.length-i/\i<=xs.length/\b i σ H,⟨xs.length,by simp,AL _,r⟩,?_⟩;rintro i m σ H ⟨rfl,hi,p⟩;have q:=u i σ H hi p
 by_cases c:i<xs.length
 ·refine .inr ⟨⟨xs,q,c⟩,b (i+1),fun f H' j=>⟨xs.length-(i+1),ω,rfl,c,j⟩,fun x H' y=>?_⟩
  obtain⟨l,o,rfl,hp,rfl,y⟩:=y;exact hs i o l σ _ (y xs q) p hp
 ·have e:i=xs.length:=ω
  subst e;exact .inl ⟨⟨xs,q,rfl⟩,hd σ H p⟩
def eG:∀{bs:List Bool}{us:List Value},Vals (bs.map V.bl) us->LSm.BoolsAre us bs
 |[],_,.nil=>.nil
 |b::bs,_,.cons r t=>by cases r;exact .cons b (eG t)
def ox(hc:X.calm=true):cP X (.builtin "all") (fun xs H Q=>∃(l:Addr)(bs:List Bool),xs=[.ref l]/\SqL X.K H l (bs.map V.bl)/\Q (.bl (bs.all id)) H):=by
 intro aa s σ H xs us Q I r h;obtain⟨l,bs,rfl,hq,q⟩:=h;obtain⟨u,rfl,j⟩:=vals1 r;cases j;obtain⟨a,o,p,_⟩:=I.list hq;have w:=I.ok.hd hc;have c:=p.isList;have hb:=eG o;have d:l<s⁻¹:=by obtain⟨_,e,_⟩:=c;exact Ao e
 refine call_all_walk (wpAny_pyIter_list c ?_);refine⟨s⁻¹,[s⁻¹,l],[s⁻¹],a.toArray.size,_,_,fun i=>(bs[i]?).getD true,rfl,Walks.list (A:=X.A.in1) w _ l (Aq d) a.toArray,
  ⟨⟨_,Al _ rfl,rfl,rfl⟩,c.push _⟩,fun i v s' x y g f=>?_,fun h' tk hk=>?_⟩
 ·obtain⟨b,e,rfl⟩:=hb.get i v 6#g
  simp only[e,Rh] at f;exact wpAny_truthy_bool f
 ·have e:((AO a.toArray.size).all fun i=>(bs[i]?).getD true)=bs.all id:=by
   rw[Aj,hb.length];exact LSm.range_all bs
  rw[e];exact⟨.bl _,H,I.kept (LSm.kept_iter hk),rfl,q⟩
end
section
variable{K:Af}{a:Addr}{xs:List V}{g:TG}{tc:TT}{te:TE}{σ:St}{H1:Hp}{Q:VK}{D:Addr}
def A2(n:Nat)(a:Nat->St->List V->Hp->Prop)(i m:Nat)(σ:St)(H:Hp):Prop:=m=n-i/\i<=n/\∃ys,ys.length<=i/\a i σ ys H
def eH(n:Nat)(d:Nat->St->List V->Hp->Prop)(D:Addr)(i:Nat)(c:St):VK:=fun y b=>∃ys a,b D=some 8#ys/\ys.length<sizeLine/\a<n-i/\A2 n d (i+1) a c (upd b D 8#(ys++[y]))
def dz(n:Nat)(c:Nat->St->List V->Hp->Prop)(i:Nat)(b:St)(d:Hp):Prop:=∃a,a<n-i/\A2 n c (i+1) a b d
def bK{n:Nat}{c:Nat->St->List V->Hp->Prop}{i:Nat}{ys:List V}{y:V}{a:Hp}(d:n<=sizeLine)(hi:i<n)(f:ys.length<=i)(e:a D=some 8#ys)(p:c (i+1) b (ys++[y]) (upd a D 8#(ys++[y]))):eH n c D i b y a:=
 ⟨ys,n-(i+1),e,ω,ω,rfl,hi,ys++[y],by simp;lia,p⟩
def hE{n:Nat}{b:Nat->St->List V->Hp->Prop}{i:Nat}{a:St}{ys:List V}{c:Hp}(hi:i<n)(d:ys.length<=i)(p:b (i+1) a ys c):dz n b i a c:=
 ⟨n-(i+1),ω,rfl,hi,ys,ω,p⟩
def kt{J:It}(n:Nat)(a:Nat->St->List V->Hp->Prop)(l:a 0 σ [] 67#H1)(o:∀σ ys H,a n σ ys H->J.stop n H)(q:∀i σ ys H,i<n->a i σ ys H->J.go i H)(hs:∀i σ ys H x H',i<n->ys.length<=i->a i σ ys H->J.yld i H x H'->g x σ H' fun d r=>tc d r fun b h=>if b=true then te d h (eH n a D i d) else dz n a i d h)(hd:∀σ ys H,a n σ ys H->Q 5#D H):cK J g tc te σ H1 D Q:=by
 refine⟨A2 n a,⟨n,by simp,AL _,[],Ag _,l⟩,?_⟩;rintro i m f H2 ⟨rfl,hi,ys,j,p⟩
 by_cases c:i<n
 ·exact .inr ⟨q i f ys H2 c p,fun x u y=>hs i f ys H2 x u c j p y⟩
 ·have e:i=n:=ω
  subst e;exact .inl ⟨o f ys H2 p,hd f ys H2 p⟩
def zJ(c:Nat->St->List V->Hp->Prop)(j:c 0 σ [] 67#H1)(f:∀i σ ys H,c i σ ys H->SqL K H a xs)(hs:∀i σ ys H x,xs[i]?=some x->i<xs.length->ys.length<=i->c i σ ys H->g x σ H fun d l=>tc d l fun b h=>if b=true then te d h (eH xs.length c D i d) else dz xs.length c i d h)(hd:∀σ ys H,c xs.length σ ys H->Q 5#D H):cK (dQ K a) g tc te σ H1 D Q:=by
 refine kt xs.length c j (fun σ ys H p=>⟨xs,f _ _ _ _ p,Ag _⟩) (fun i σ ys H hi p=>⟨xs,xs[i],f _ _ _ _ p,by simp[hi]⟩) (fun i σ ys H x H' hi hy p y=>?_) hd;obtain⟨e,y⟩:=y;subst e;exact hs i σ ys _ x (y xs (f _ _ _ _ p)) hi hy p
def Ko(c:Nat->St->List V->Hp->Prop)(j:c 0 σ [] 67#H1)(f:∀i σ ys H,c i σ ys H->SqT K H a xs)(hs:∀i σ ys H x,xs[i]?=some x->i<xs.length->ys.length<=i->c i σ ys H->g x σ H fun d l=>tc d l fun b h=>if b=true then te d h (eH xs.length c D i d) else dz xs.length c i d h)(hd:∀σ ys H,c xs.length σ ys H->Q 5#D H):cK (j7 K a) g tc te σ H1 D Q:=by
 refine kt xs.length c j (fun σ ys H p=>⟨xs,f _ _ _ _ p,Ag _⟩) (fun i σ ys H hi p=>⟨xs,xs[i],f _ _ _ _ p,by simp[hi]⟩) (fun i σ ys H x H' hi hy p y=>?_) hd;obtain⟨e,y⟩:=y;subst e;exact hs i σ ys _ x (y xs (f _ _ _ _ p)) hi hy p
def A3{lo:Int}{n:Nat}(a:Nat->St->List V->Hp->Prop)(f:a 0 σ [] 67#H1)(hs:∀i σ ys H,i<n->ys.length<=i->a i σ ys H->g 57#(lo+i) σ H fun c h=>tc c h fun b d=>if b=true then te c d (eH n a D i c) else dz n a i c d)(hd:∀σ ys H,a n σ ys H->Q 5#D H):cK (ik lo n) g tc te σ H1 D Q:=by
 refine kt n a f (fun σ ys H p=>Ag _) (fun i σ ys H hi p=>hi) (fun i σ ys H x H' hi hy p y=>?_) hd;obtain⟨e,y⟩:=y;subst e y;exact hs i σ ys _ hi hy p
def Kp(a:Nat->St->List V->Hp->Prop)(r:a 0 σ [] 67#H1)(c:∀i σ zs H,a i σ zs H->SqT K H e xs/\SqT K H f ys)(hs:∀i σ zs H p x y,xs[i]?=some x->ys[i]?=some y->i<min xs.length ys.length->zs.length<=i->a i σ zs H->H p=none->g 5#p σ (upd H p (.tup [x,y])) fun d u=>tc d u fun b h=>if b=true then te d h (eH (min xs.length ys.length) a D i d) else dz (min xs.length ys.length) a i d h)(hd:∀σ zs H,a (min xs.length ys.length) σ zs H->Q 5#D H):cK (y4 K e f) g tc te σ H1 D Q:=by
 refine kt (min xs.length ys.length) a r (fun σ zs H p=>⟨xs,ys,(c _ _ _ _ p).1,(c _ _ _ _ p).2,rfl⟩) (fun i σ zs H hi p=>⟨xs,ys,(c _ _ _ _ p).1,(c _ _ _ _ p).2,hi⟩) (fun i σ zs H v H' hi hy p y=>?_) hd;obtain⟨j,x,l,rfl,hp,rfl,o,q⟩:=y;exact hs i σ zs H j x l (o xs (c _ _ _ _ p).1) (q ys (c _ _ _ _ p).2) hi hy p hp
end
end L2
end
section
namespace Dk
open PySem PySem.Spec PyProof.Rows
def IsD(h:Heap)(d:Addr)(es:Array DictEntry)(ep:Nat):Prop:=∃o,h.get? d=some o/\o.ExactDict/\o.data=.dict es ep
def IsD.at{h h':Heap}(x:IsD h d es ep)(k:∀o,h.get? d=some o->h'.get? d=some o):IsD h' d es ep:=let ⟨o,ho,r⟩:=x;⟨o,k o ho,r⟩
def IsD.lt(x:IsD h d es ep):d<h.objs.size:=let ⟨_,ho,_⟩:=x;Ao ho
section
variable{prog:Program}{w:World}{A:Around}{E:Ω}{s:Shared}{it d:Addr}{i ep:Nat}{es:Array DictEntry}
def IsD.typeIs(x:IsD s.heap d es ep):s.TypeIs 5#d "dict":=let ⟨o,ho,r⟩:=x;⟨o,ho,r.1.1⟩
def iter{Q:Ω}(hd:(d==Bs)=false)(hm:IsD s.heap d es ep)(c:Q 0#5 {s with heap:=s.heap.push {cls:=.type "dict_keyiterator",data:=.fields #[.ref d,.int 0 0,.int es.size 0,.int ep 0]}}):wpAny 0#0 A (pyIter 5#d) Q E s:=by
 have hT:=hm.typeIs;obtain⟨o,a,hc,b⟩:=id hm;refine wpAny_pyIter_slot hT PySem.F.slot_dict_iter (AX PySem.F.slot_dict_iter hT PySem.F.entry_dict_iter ?_ (PySem.F.args_dict_iter_1 _));unfold Builtin.«dict.__iter__»;refine Aa ?_;unfold Builtin.Dict.dictSlotNone;refine Aa (wpAny_notOrdered_dict hT ?_);show wpAny _ _ (pure (Value.ref d)) _ _ s;refine Ac ?_;show wpAny _ _ (Builtin.Dict.showsAll d >>= _) _ _ s;unfold Builtin.Dict.showsAll;rw[TJ (by rw[hd];exact Ax)];refine Aa 1#5;refine Aa (A0 a b ?_);refine Aa (wpAny_dictEpoch a b ?_);refine Aa (AY (Ac ⟨_,rfl,"dict_keyiterator",_,⟨_,Al _ rfl,rfl⟩,PySem.F.slot_dict_keyiterator_next.lookup,?_⟩))
 simpa[rawInt] using c
def item{Q:Option Value->Shared->Prop}(a:s.heap.IsKeyIter it d i es.size ep)(hm:IsD s.heap d es ep)(hx:i<es.size)(g:∀h',h'.IsKeyIter it d (i+1) es.size ep->AU it s.heap h'->Q (some es[i].key) {s with heap:=h'}):wpAny 0#0 A (pyNext 5#it) Q E s:=by
 obtain⟨o,b,hc,hd⟩:=id a;obtain⟨h,c,j,hdd⟩:=id hm;unfold pyNext;refine Aa (wpAny_attempt (A5 (name:=A6 "__next__") a.typeIs Q2
  (AX Q2 a.typeIs Si ?_ (Sa _))))
 refine Aa 1#5;refine Aa ?_;refine Aa ?_
 first|refine Aa (wpAny_typeNameOfWhole_keyiter a.typeIs 1#5)|refine Aa (wpAny_typeNameOf_keyiter a.typeIs 1#5)
 refine Aa (wpAny_fieldsOf b hd ?_);have f:Builtin.Dict_items.ownsTuple "dict_keyiterator"=false:=ξ
 simp only[f,Am,if_false];show wpAny _ _ 0#18 _ _ s;rw[TJ 3#17];refine Aa 1#5;refine Aa (A0 c hdd ?_);rw[TJ 2#0];refine Aa 1#5;refine Aa (wpAny_dictEpoch c hdd ?_);rw[TJ 2#0];refine Ac ?_;simp only[show ¬((i:Int)<0) from ω,if_false,Bq,Qz hx];refine Aa ?_
 first|refine Aa (wpAny_typeNameOfWhole_keyiter a.typeIs 1#5)|refine Aa (wpAny_typeNameOf_keyiter a.typeIs 1#5)
 refine Aa (wpAny_isOneOf_keyiter a.typeIs ?_);show wpAny _ _ (setField 5#it 1 (rawInt ((i:Int)+1)) >>= _) _ _ s;refine Aa (wpAny_setField b hd 2#0 ?_);have e:(s.heap.update it (Obj.mapFields (·.setIfInBounds 1 (rawInt ((i:Int)+1))))).IsKeyIter it d (i+1) es.size ep:=
  ⟨_,Heap.get?_update_self _ b (Obj.isFreed_of_fields (Obj.data_mapFields hd _)),(Obj.cls_mapFields ..).trans hc,by rw[Obj.data_mapFields hd];simp[rawInt]⟩
 refine Aa (AH ?_);refine Aa (wpAny_isOneOf_keyiter (s:={s with heap:=s.heap.update it (Obj.mapFields (·.setIfInBounds 1 (rawInt ((i:Int)+1))))}) e.typeIs ?_);show wpAny _ _ (pure es[i].key) _ _ _;exact Ac (Ac ⟨_,rfl,Ac (g _ e (AI ..))⟩)
def done{Q:Option Value->Shared->Prop}(h:A.handled=none)(c:s.heap.IsKeyIter it d es.size es.size ep)(hm:IsD s.heap d es ep)(i:∀h',Heap.ExtBut it s.heap h'->Q none {s with heap:=h'}):wpAny 0#0 A (pyNext 5#it) Q E s:=by
 obtain⟨o,e,hc,hd⟩:=id c;obtain⟨j,f,l,hdd⟩:=id hm;unfold pyNext;refine Aa (wpAny_attempt (A5 (name:=A6 "__next__") c.typeIs Q2
  (AX Q2 c.typeIs Si ?_ (Sa _))))
 refine Aa 1#5;refine Aa ?_;refine Aa ?_
 first|refine Aa (wpAny_typeNameOfWhole_keyiter c.typeIs 1#5)|refine Aa (wpAny_typeNameOf_keyiter c.typeIs 1#5)
 refine Aa (wpAny_fieldsOf e hd ?_);have g:Builtin.Dict_items.ownsTuple "dict_keyiterator"=false:=ξ
 simp only[g,Am,if_false];show wpAny _ _ 0#18 _ _ s;rw[TJ 3#17];refine Aa 1#5;refine Aa (A0 f hdd ?_);rw[TJ 2#0];refine Aa 1#5;refine Aa (wpAny_dictEpoch f hdd ?_);rw[TJ 2#0];refine Ac ?_;simp only[show ¬((es.size:Int)<0) from ω,if_false,Bq,Ru (Ag es.size)];refine Aa ?_
 first|refine Aa (wpAny_typeNameOfWhole_keyiter c.typeIs 1#5)|refine Aa (wpAny_typeNameOf_keyiter c.typeIs 1#5)
 show wpAny _ _ (setField 5#it 0 .none >>= _) _ _ s;refine Aa (wpAny_setField e hd 2#0 ?_);show wpAny _ _ (newExc (.type "StopIteration") [] >>= _) _ _ _;refine Aa ?_;simp only[newExc,newTuple];refine Aa (AY ?_ (by size_fits));refine Aa (m:=firstArgMember _ _) 2#9;refine AY ?_ (by size_fits);simp only[raiseNew];refine Aa (wpAny_handled ?_);rw[show A.in1.handled=none from h];refine Aa (Ac (wpAny_throw ?_));refine Aa 3#12;exact Ac (i _ (((AI ..).extBut.push _).push _))
def walks(j:A.handled=none)(I d:Addr)(c:d≠I)(es:Array DictEntry)(ep:Nat):Walks prog w A I [I,d] [I] es.size (fun i v=>∃e,es[i]?=some e/\v=e.key) (fun i h=>h.IsKeyIter I d i es.size ep/\IsD h d es ep) where
 sub:=fun b hb=>by simp at hb ⊢;exact .inl hb
 frame:=fun i h h' st k=>⟨let ⟨o,ho,r⟩:=st.1;⟨o,k I 2#0 o ho,r⟩,st.2.at fun o e=>k d 2#0 o e⟩
 item:=fun i s Q E hi st a=>item st.1 st.2 hi fun h' f sb=>a _ h' s.toks ⟨es[i],by simp[hi],rfl⟩ ⟨f,st.2.at fun o e=>(sb.2 d c).trans e⟩ fun b o hb e=>(sb.2 b 2#8).trans e
 done:=fun s Q E st a=>done j st.1 st.2 fun h' g=>a h' s.toks fun b o hb e=>g b o 2#8 e
 self:=fun i s Q E st a=>wpAny_pyIter_keyiter st.1 a
def src(lo:(d==Bs)=false):PySem.W.KdlSrc prog w "dict" d d es.size (fun i v=>∃e,es[i]?=some e/\v=e.key) (fun h=>IsD h d es ep) where
 type:=fun _ hm=>hm.typeIs
 there:=fun _ hm=>⟨hm.lt,hm.lt⟩
 keep:=fun _ _ hm hk=>hm.at fun o e=>hk d 4#18 o e
 notList:=ξ
 notTuple:=ξ
 hint:=fun _ _ _ _ hm hq=>PySem.W.kdl_hint_dict hm.typeIs hq
 iter:=fun _ s a hm=>⟨_,_,(fun _ _ hq=>iter lo hm hq),walks a _ d (Aq hm.lt) es ep,⟨⟨_,Al _ rfl,rfl,rfl⟩,hm.at fun o e=>Ad _ e⟩⟩
end
end Dk
namespace L2
open PySem PySem.Spec PyProof.Rows
section
variable{X:Cx}
def EY{k:Key}(h:(zp P w).is k u=true):RelV (kV k) u:=by
 rcases aN h with ⟨i,t,rfl,rfl⟩|⟨x,t,rfl,rfl⟩
 ·exact⟨t,rfl⟩
 ·exact⟨t,rfl⟩
def EZ(hc:X.calm=true):cP X (.type "list") (fun xs H Q=>∃a kvs,xs=[.ref a]/\H a=some 51#kvs/\
  ∀(bs:List Addr),Paired 0#6 kvs bs->∀l,H l=none->Q 5#l (upd H l 8#(bs.map V.ref))):=by
 intro aa s σ H xs us Q I r h;obtain⟨a,kvs,rfl,hq,q⟩:=h;obtain⟨u,rfl,j⟩:=vals1 r;cases j;obtain⟨z,y,ys,c,o,es,ep,h1,h2,v,d,D⟩:=(show zr X.prog X.w H s.heap a 51#kvs from I.hok a _ hq);have f:es.size=kvs.length:=by
  have:=congrArg List.length d;rw[Ab,<-AN c] at this
  simpa using this
 refine To (Dk.src (ep:=ep) (es:=es) y) 2#15 ⟨o,h1,h2,v⟩ (by rw[f];exact z) fun h' tk acc c' g e it=>?_;obtain⟨n1,n2⟩:=it;have x:Paired 0#6 kvs 4#9:=by
  have:∀{l:List 4#6}{m:List 0#9},KT H l m->Paired 0#6 l (m.map (·.2.1)):=by
   intro l m q
   induction q with
   |nil=>exact .nil
   |cons hq t ih=>exact .cons hq.2.1 ih
  exact this c
 have A:acc.toList=(4#9).map Value.ref:=by
  apply RJ;intro i;have hy:ys.length=acc.size:=by rw[n1,f];exact(AN c).symm
  by_cases hi:i<acc.size
  ·obtain⟨e',g1,g2⟩:=n2 i acc[i] (by simp[hi])
   have g3:es.toList[i]?=some e':=by simpa using g1
   rw[d,Ah] at g3;have g4:ys[i]?=some ys[i]:=by simp[hy,hi]
   rw[g4] at g3;simp only[Bi,Bg] at g3;simp only[Ah,g4,Bi,AJ,Qz hi];rw[g2,<-g3]
   rfl
  ·have g1:acc.toList.length<=i:=by simp;lia
   have g2:((4#9).map Value.ref).length<=i:=by simp[hy];lia
   rw[Bc g1,Bc g2]
 have C:Vals ((4#9).map V.ref) acc.toList:=by
  rw[A];generalize ys.map (·.2.1)=bs
  induction bs with
  |nil=>exact .nil
  |cons b bs ih=>exact .cons rfl ih
 refine⟨.ref s⁻¹,_,I.laid g 0#10 (show zr X.prog X.w _ h' _ 8#((4#9).map V.ref) from⟨?_,acc.toList,c',C,by simpa using e⟩),rfl,q _ x _ 61#Ag⟩;simp only[Ab];rw[<-AN c];exact z
def Kq(hc:X.calm=true):cP X (.type "list") (fun xs H Q=>∃a kvs,xs=[.ref a]/\H a=some (.dK kvs)/\∀l,H l=none->Q 5#l (upd H l 8#(kvs.map fun kv=>kV kv.1))):=by
 intro aa s σ H xs us Q I r h;obtain⟨a,kvs,rfl,hq,q⟩:=h;obtain⟨u,rfl,d⟩:=vals1 r;cases d;obtain⟨z,y,vs,b,dd⟩:=yl I.hok hq;obtain⟨ep,dd⟩:=dd.dictAt;have f:=b.length;refine To (PySem.W.kdl_dict (knd:=zp X.prog X.w) (kvs:=vs) (ep:=ep) y) 2#15 dd (by rw[<-f];exact z) fun h' tk acc c' c e it=>?_;obtain⟨n1,n2⟩:=it;have g:Vals (kvs.map fun kv=>kV kv.1) acc.toList:=by
  have key:∀{l:List (Key×V)}{m:List (Key×Value)}{as:List Value},KV l m->as.length=m.length->(∀(i:Nat) v,as[i]?=some v->∃k x,m[i]?=some (k,x)/\(zp X.prog X.w).is k v=true)->Vals (l.map fun kv=>kV kv.1) as:=by
   intro l m as q
   induction q generalizing as with
   |nil=>intro h1 _;cases as with
    |nil=>exact .nil
    |cons _ _=>simp at h1
   |@cons p q' ps qs hq t ih=>
    intro h1 h2;cases as with
    |nil=>simp at h1
    |cons v as=>
     obtain⟨k,x,g1,g2⟩:=h2 0 v rfl;simp only[List.getElem?_cons_zero,Bg] at g1;refine .cons ?_ (ih 6#h1 fun i v e=>by simpa using h2 (i+1) v 6#e);have:p.1=k:=by rw[hq.1,g1]
     show RelV (kV p.1) v;rw[this];exact EY g2
  exact key b 6#n1 fun i v e=>n2 i v 6#e
 refine⟨.ref s⁻¹,_,I.laid c 0#10 (show zr X.prog X.w _ h' _ 8#(kvs.map fun kv=>kV kv.1) from⟨?_,acc.toList,c',g,by simpa using e⟩),rfl,q _ 61#Ag⟩
 simpa using z
end
end L2
end
section
namespace L2
open PySem PySem.Spec PyProof.Rows
def Tp(H:Hp)(a:Addr)(ps:List Int):Prop:=H a=some 52#(ps.map V.int)
abbrev Tps(H:Hp)(as:List Addr)(ab:Ξ):Prop:=Paired (fun a ps=>Tp H a ps) as ab
def Same.tp(e:Same H H')(h:Tp H a ps):Tp H' a ps:=e _ _ h
def Same.tps(e:Same H H')(h:Tps H as ab):Tps H' as ab:=Paired.mapP h fun _ _ q=>e.tp q
def Same.new{H:Hp}(h:H a=none):Same H 81#a:=fun b u e=>by rw[al (zg e h)];exact e
def Same.then(e:Same H H1)(h:H a=none):Same H (upd H1 a o):=fun b u q=>by rw[al (zg q h)];exact e b u q
def Tps.length(h:Tps H as ab):as.length=ab.length:=AN h
def Tps.get:∀{as:List Addr}{ab:Ξ}{i:Nat}{a:Addr},Tps H as ab->as[i]?=some a->∃ps,ab[i]?=some ps/\Tp H a ps
 |_,_,_,_,.nil,e=>by simp at e
 |_,_,0,_,.cons r _,e=>by simp at e;subst e;exact⟨_,rfl,r⟩
 |_,_,i+1,a,.cons _ t,e=>by
  obtain⟨u,h1,h2⟩:=Tps.get (i:=i) (a:=a) t 6#e;exact⟨u,by simpa using h1,h2⟩
def Tps.snoc(h:Tps H as ab)(q:Tp H a ps):Tps H (as++[a]) (ab++[ps]):=by
 induction h with
 |nil=>exact .cons q .nil
 |cons r t ih=>exact .cons r ih
def Tps.append{as bs:List Addr}(h:Tps H as ab)(q:Tps H bs a):Tps H (as++bs) (ab++a):=by
 induction h with
 |nil=>exact q
 |cons r t ih=>exact .cons r ih
def Tps.take:∀{as:List Addr}{ab:Ξ}(n:Nat),Tps H as ab->Tps H (as.take n) (ab.take n)
 |_,_,0,_=>.nil
 |_,_,_+1,.nil=>.nil
 |_,_,n+1,.cons r t=>.cons r (Tps.take n t)
def Tps.drop:∀{as:List Addr}{ab:Ξ}(n:Nat),Tps H as ab->Tps H (as.drop n) (ab.drop n)
 |_,_,0,r=>r
 |_,_,_+1,.nil=>.nil
 |_,_,n+1,.cons _ t=>Tps.drop n t
def aG:∀{as:List Addr}{us:List Value},Vals 2#2 us->us=as.map Value.ref
 |[],_,.nil=>rfl
 |a::as,_,.cons r t=>by cases r;rw[aG t];rfl
def oy{b:Type}(f:b->Addr):∀l:List b,Vals (l.map fun q=>V.ref (f q)) (l.map fun q=>Value.ref (f q))
 |[]=>.nil
 |a::l=>.cons rfl (oy f l)
section
variable{X:Cx}
def E1{cs:List Value}(hc:IsTup h c cs.toArray)(hi:IntsAre cs a):AM (zp prog w) h (a.map Sum.inl) c:=by
 obtain⟨o,e,b,k,d⟩:=hc;refine⟨o,cs.toArray,k,e,b,d,?_⟩;have:∀{cs:List Value}{a:List Int},IntsAre cs a->ItemsAre (zp prog w) (a.map Sum.inl) cs:=by
  intro cs a hi
  induction hi with
  |nil=>exact .nil
  |cons n t h ih=>exact .cons (vu prog w n t) ih
 simpa using this hi
def iu{ps a:List Int}:(ps.map Sum.inl:List Key)=a.map Sum.inl↔ps=a:=
 ⟨fun z=>(Rg (f:=(Sum.inl:Int->Key)) (fun x y h=>Sum.inl.inj h)).mp z,fun z=>by rw[z]⟩
def Kr{s:Shared}{A:Around}(I:Inv X aa σ H s)(ha:Tp H a ps)(hb:Tp H b c)(hu:A.units<cLine):SeqAt.EqAt A s 5#a 5#b (decide (ps=c)):=by
 intro prog w E Q h;obtain⟨g,d,e,_⟩:=I.tuple (SqT.of ha);obtain⟨i,f,p2,_⟩:=I.tuple (SqT.of hb);refine wpAny_eqBool_tuple (knd:=zp prog w) hu (E1 e (intsAre_of d)) (E1 p2 (intsAre_of f)) ?_;rw[show decide ((ps.map Sum.inl:List Key)=c.map Sum.inl)=decide (ps=c) from by simp only[iu]];exact h
def BH:R2:=fun x y H Q=>∃a b xs ys,x=.ref a/\y=.ref b/\H a=some 52#xs/\H b=some 52#ys/\xs.length+ys.length<=sizeLine/\∀p H',Same H H'->H' p=some 52#(xs++ys)->Q 5#p H'
def rf:cw X (binaryOp .Add) BH:=by
 intro aa s σ H x y v u Q I l p h;obtain⟨a,b,xs,ys,rfl,rfl,ha,hb,hz,q⟩:=h;cases l;cases p;obtain⟨D,c,e,_⟩:=I.tuple (SqT.of ha);obtain⟨r,d,p2,_⟩:=I.tuple (SqT.of hb)
 by_cases hx:xs=[]
 ·subst hx
  have e1:=c.nil_iff.mpr rfl;subst e1;obtain⟨⟨cls,dd,data,w⟩,f,hc,n,hd⟩:=id e;obtain⟨⟨E,A,data2,C⟩,g,i,n2,j⟩:=id p2;simp only at hc hd i j;subst hc hd i j;exact concat_meets ⟨_,f,rfl⟩ ⟨_,g,rfl⟩ noFill_tuple_add seq_tuple_add Sw Sn (Sg _ _)
   (tuple_addW0 a b (List.toArray []) r.toArray n n2 dd A w C 2#0) ⟨f,g,.ref b,H,I,rfl,q b H (Same.refl H) 6#hb⟩
 ·refine HT.Jm e p2 (fun z=>hx (c.nil_iff.mp z)) (fun z=>⟨.ref a,H,I,rfl,q a H (Same.refl H) ?_⟩) (fun z=>?_) (by rw[<-c.length,<-d.length];exact hz)
  ·rw[d.nil_iff.mp z,Ro];exact ha
  ·have hf:=I.hok.fresh (Ag s⁻¹)
   refine⟨.ref s⁻¹,_,I.laid (t':=s.toks) (o:=.tup (xs++ys)) (fun b ob q=>Ad _ q) 0#10 ?_,rfl,q _ _ 62#hf ac⟩;exact⟨by rw[Az];exact hz,_,c.append d,IsTup.new _ _⟩
def BS(neg:Bool)(K:Af):R2:=fun x y H Q=>∃a l ps as ab,x=.ref a/\y=.ref l/\Tp H a ps/\SqL K H l 2#2/\Tps H as ab/\Q (.bl (if neg then !decide (ps∈ab) else decide (ps∈ab))) H
noncomputable def mq(H:Hp)(ps:List Int)(u:Value):Bool:=match u with
 |.ref b=>(match H b with|some 52#xs=>decide (xs=ps.map V.int)|_=>false)
 |_=>false
def Ks{ps a:List Int}:(ps.map V.int:List V)=a.map V.int↔ps=a:=
 ⟨fun z=>(Rg (f:=V.int) (fun x y h=>V.int.inj h)).mp z,fun z=>by rw[z]⟩
def E2(h:Tp H b a):mq H ps 5#b=decide (a=ps):=by
 show(match H b with|some 52#xs=>decide (xs=ps.map V.int)|_=>false)=_;rw[show H b=some 52#(a.map V.int) from h];simp only[Ks]
def Kt(h:Tps H as ab):(1#4).any (mq H ps)=decide (ps∈ab):=by
 induction h with
 |nil=>simp
 |@cons a qs as ab r t ih=>
  rw[Aw,Sh,ih,E2 r]
  by_cases e:qs=ps
  ·subst e;simp
  ·have:¬ps=qs:=fun z=>e z.symm
   simp[e,this]
def Ku{s:Shared}{A:Around}(I:Inv X aa σ H s)(ha:Tp H a ps)(hu:A.units<cLine):∀{as:List Addr}{ab:Ξ},Tps H as ab->∀u∈as.map Value.ref,SeqAt.EqAt A s u 5#a (mq H ps u):=by
 intro as ab h
 induction h with
 |nil=>intro u hu;simp at hu
 |@cons b qs as ab r t ih=>
  intro u hm;rw[Aw] at hm;rcases Qj.mp hm with rfl|hm
  ·rw[E2 r];exact Kr I r ha hu
  ·exact ih u hm
def Kv(hu:X.A.in1.units<cLine):cw X (Bz .NotIn) (BS true X.K):=by
 intro aa s σ H x y v u Q I b c h;obtain⟨a,l,ps,as,ab,rfl,rfl,ha,d,hp,q⟩:=h;cases b;cases c;obtain⟨f,r,e,hz⟩:=I.list d;obtain rfl:=aG r;refine SeqAt.notIn_listAt (mq H ps) e.isList (fun w hw=>Ku I ha hu hp w 6#hw) ⟨.bl _,H,I,rfl,?_⟩;rw[show(as.map Value.ref).toArray.any (mq H ps)=(1#4).any (mq H ps) by simp,Kt hp];exact q
def BU{s:Shared}(I:Inv X aa σ H s)(ha:Tp H a ps):Reads s.heap 5#a (.tuple (ps.map Bk)) []:=by
 obtain⟨c,r,p,_⟩:=I.tuple (SqT.of ha);obtain⟨o,b,hc,n,hd⟩:=id p;exact .tuple b hc hd ((PySem.W.ke_carried (intsAre_of r)).reads s.heap)
def Kw{s:Shared}(I:Inv X aa σ H s):∀{as:List Addr}{ab:Ξ},Tps H as ab->ReadsAll s.heap 1#4 3#3 []:=by
 intro as ab h
 induction h with
 |nil=>exact .nil
 |cons r t ih=>exact .cons (as:=[]) (bs:=[]) (BU I r) ih
def rh{s:Shared}{as:List Addr}(I:Inv X aa σ H s)(b:SqL X.K H l 2#2)(h:Tps H as ab):Reads s.heap 5#l (.list 3#3) [l]:=by
 obtain⟨c,r,p,_⟩:=I.list b;obtain rfl:=aG r;obtain⟨o,a,hc,n,hd⟩:=p.isList;exact .list a hc hd (by simpa using Kw I h)
def E4(ps:List Int):PyData.canLay0 (.tuple (ps.map Bk))=true:=by simp[PyData.canLay0,PySem.W.ke_canLayAll0]
def E5(ps:List Int):PyData.depth (.tuple (ps.map Bk))=1:=by simp[PyData.depth,PySem.W.ke_depthAll]
def E6(ps:List Int):SeqAt.shaped (.tuple (ps.map Bk))=true:=by
 simp[SeqAt.shaped,E4,E5]
def E7:∀ab:Ξ,PyData.canLayAll0 3#3=true
 |[]=>rfl
 |ps::r=>by rw[Aw,PyData.canLayAll0,E4,E7 r];rfl
def E8:∀ab:Ξ,PyData.depthAll 3#3<=1
 |[]=>AL _
 |ps::r=>by rw[Aw,PyData.depthAll,E5];exact Nat.max_le.mpr ⟨Ag _,E8 r⟩
def BY(ab:Ξ):SeqAt.shaped (.list 3#3)=true:=by
 have:=E8 ab;have e:PyData.depth (.list 3#3)<=64:=by rw[PyData.depth];lia
 unfold SeqAt.shaped;rw[TK e,PyData.canLay0,E7]
 rfl
def BZ:∀ab c:Ξ,sameAll 3#3 (c.map fun ps=>PyData.tuple (ps.map Bk))=decide (ab=c)
 |[],[]=>by simp[sameAll]
 |[],_::_=>by simp[sameAll]
 |_::_,[]=>by simp[sameAll]
 |a::r,b::t=>by
  simp only[Aw,sameAll,same,S0,BZ r t]
  by_cases h:a=b<;>by_cases h':r=t<;>simp[h,h']
def E9(ps:List Int):(Shape.tuples .int).has (.tuple (ps.map Bk))=true:=by simp[Shape.has]
def ri(ab:Ξ):(Shape.list (.tuples .int)).has (.list 3#3)=true:=by simp[Shape.has]
def ku(neg:Bool)(K:Af):R2:=fun x y H Q=>(∃a b ps c,x=.ref a/\y=.ref b/\Tp H a ps/\Tp H b c/\Q (.bl (if neg then !decide (ps=c) else decide (ps=c))) H) \/
 (∃l m as bs ab d,x=.ref l/\y=.ref m/\SqL K H l 2#2/\Tps H as ab/\SqL K H m (bs.map V.ref)/\Tps H bs d/\Q (.bl (if neg then !decide (ab=d) else decide (ab=d))) H)
def Kx(hu:X.A.units+64<cLine):cw X (Bz .NotEq) (ku true X.K):=by
 intro aa s σ H x y v u Q I e f h;rcases h with ⟨a,b,ps,c,rfl,rfl,ha,hb,q⟩|⟨l,m,as,bs,ab,d,rfl,rfl,g,hp,hm,hq,q⟩
 ·cases e
  cases f;refine ne_dataH_same (BU I ha) (BU I hb) (E6 _) (E6 _) hu (SeqAt.noMix_of_shape (.tuples .int) rfl _ _ (E9 _) (E9 _)) ?_;rw[show same (.tuple (ps.map Bk)) (.tuple (c.map Bk))=decide (ps=c) from by simp only[same];exact S0 ps c];exact⟨.bl _,H,I,rfl,q⟩
 ·cases e
  cases f;refine ne_dataH_same (rh I g hp) (rh I hm hq) (BY _) (BY _) hu (SeqAt.noMix_of_shape (.list (.tuples .int)) rfl _ _ (ri _) (ri _)) ?_;rw[show same (.list 3#3) (.list (d.map fun ps=>PyData.tuple (ps.map Bk)))=decide (ab=d) from by simp only[same];exact BZ ab d];exact⟨.bl _,H,I,rfl,q⟩
def znX:V->List V->Hp->VK->Prop:=fun x vs H Q=>∃l xs i y,x=.ref l/\vs=[.int i,y]/\H l=some 8#xs/\0<=i/\i<=xs.length/\xs.length<sizeLine/\Q .non (upd H l 8#(xs.take i.toNat++y::xs.drop i.toNat))
def Ky:n4 X "list.insert" znX:=by
 intro aa s σ H x vs v us Q I d f h;obtain⟨l,xs,i,y,rfl,rfl,b,o,hi,hz,q⟩:=h;cases d;obtain⟨u,c,rfl,g,j⟩:=f.two;obtain⟨t,rfl⟩:=g;obtain⟨z,a,n,r,p,e⟩:=I.lstM b;have w:sizeLine<2 ^ 62:=by rw[Bp];decide
 have hf:Builtin.List.listFitsIndex i=true:=by
  unfold Builtin.List.listFitsIndex;simp only[AS,decide_eq_true_eq];constructor<;>lia
 refine call_meets F.slot_list_insert ⟨_,e,rfl⟩ F.entry_list_insert (F.args_list_insert_3 _ _ _) (PySem.AutoSeq1.list_insert_list_int_val_1 l a.toArray n i t c (by simp[hf]) (by rw[Aj];lia)) ⟨e,?_⟩;refine⟨.non,_,I.lset (its':=a.take i.toNat++c::a.drop i.toNat) (t':=s.toks) b e ?_ ((r.take _).append (.cons j (r.drop _))) ?_,rfl,q⟩
 ·have hk:(if i<0 then(i+(a.toArray.size:Int)).toNat else min i.toNat a.toArray.size)=i.toNat:=by
   rw[TJ ω,Aj];lia
  dsimp only;rw[hk];simp;exact AA (by rw[Qx];exact Ag _)
 ·rw[Az,AB,AE,Qx]
  lia
def Kz:cP X (.type "int") (fun xs H Q=>∃x n,xs=[.str x]/\PySem.intText? x=some n/\x.length<=640/\Q 57#n H):=by
 intro aa s σ H xs us Q I r h;obtain⟨x,n,rfl,a,b,q⟩:=h;obtain⟨u,rfl,t,rfl⟩:=vals1 r;exact PySem.W.KIN.call_text a b ⟨.int n,H,I.tok _,⟨_,rfl⟩,q⟩
end
end L2
end
section
namespace L2
open PySem PySem.Spec PyProof.Rows
section
variable{X:Cx}{aa:Ψ}{σ:St}{H:Hp}{s:Shared}
def B0{A:Around}(h:A.units+64<cLine):A.in1.in1.units<cLine:=by show A.units+1+1<cLine;lia
def in1_units{A:Around}(h:A.units+64<cLine):A.in1.units<cLine:=by show A.units+1<cLine;lia
def KA:cP X 2#7 (fun xs H Q=>∃(l:Addr)(ns:List Int),xs=[.ref l]/\SqL X.K H l 1#18/\ns.length<64/\∀(D:Addr)(f:List Int),f.Perm ns->f.Pairwise (·<=·)->H D=none->Q 5#D (upd H D 8#(f.map V.int))):=by
 intro aa s σ H xs us Q I r h;obtain⟨l,ns,rfl,hq,v,q⟩:=h;obtain⟨u,rfl,x⟩:=vals1 r;cases x;obtain⟨d,g,y,hz⟩:=I.list hq;have hi:IntsAre d ns:=intsAre_of g;have a:=g.length;rw[Ab] at a hz;refine aZ.yx (ls:=ns.map fun n=>[n]) (good:=fun _=>True) y.isList (aZ.q0 hi) (fun _ _=>trivial) ω ω fun out b=>?_;obtain⟨ps,hp,b,hs⟩:=b;have all:∀p∈ps,∃n t,p.1=[n]/\p.2=Value.int n t:=fun p o=>by
  obtain⟨i,e⟩:=Ql.mp (hp.mem_iff.mp o);rw[aZ.bh,Ah] at e;cases e1:ns[i]? with
  |none=>rw[e1] at e;simp at e
  |some n=>
   obtain⟨t,e2⟩:=hi.get i n e1;rw[e1,e2] at e;simp only[Bi,Tq,Bg] at e;subst e;exact⟨n,t,rfl,rfl⟩
 have A:∀ps:List (List Int×Value),(∀p∈ps,∃n t,p.1=[n]/\p.2=Value.int n t)->Vals ((ps.map fun p=>p.1.headD 0).map V.int) (ps.map 0#17):=by
  intro ps
  induction ps with
  |nil=>intro _;exact .nil
  |cons p ps ih=>
   intro h;obtain⟨n,t,e1,e2⟩:=h p Av;refine .cons ?_ (ih fun q hq=>h q (Ar _ hq));show RelV (V.int (p.1.headD 0)) p.2;rw[e1,e2];exact⟨t,rfl⟩
 have j:(ps.map fun p=>p.1.headD 0).Perm ns:=by
  have h1:=hp.map (fun p:List Int×Value=>p.1.headD 0);have e:((0#7).zip d).map (fun p:List Int×Value=>p.1.headD 0)=ns:=by
   rw[show(fun p:List Int×Value=>p.1.headD 0)=(fun l:List Int=>l.headD 0) ∘ Prod.fst from rfl,<-An,Rw 4#11,An];exact RK ns
  rw[e] at h1;exact h1
 have C:(ps.map fun p=>p.1.headD 0).Pairwise (·<=·):=by
  rw[AQ];refine hs.imp_of_mem fun{p q} h1 h2 c=>?_;obtain⟨n,t,e1,_⟩:=all p h1;obtain⟨m,t',e2,_⟩:=all q h2;rw[e1,e2,HT.zi] at c;rw[e1,e2];show n<=m
  by_cases e:m=n
  ·lia
  ·rw[TJ e] at c
   have:=of_decide_eq_false c;lia
 obtain⟨e,he⟩:=sortedAll_at s.heap d out;refine⟨.ref (s⁻¹+1),_,I.laid (t':=s.toks) (fun _ _=>sortedAll_old) (QI _) (show zr X.prog X.w _ _ _ 8#((ps.map fun p=>p.1.headD 0).map V.int) from⟨?_,out.toList,e,?_,?_⟩),rfl,q _ _ j C 61#QI⟩
 ·rw[Ab,j.length_eq];exact hz
 ·rw[b];exact A ps all
 ·simpa using he
def oA(H:Hp)(p:Addr)(l:List Int):Prop:=∃n b ps,l=n::ps/\H p=some (.tup [.int n,.ref b])/\Tp H b ps
def kw(I:Inv X aa σ H s)(h:oA H p l):aZ.IsPr s.heap 5#p l:=by
 obtain⟨n,b,ps,rfl,h1,h2⟩:=h;obtain⟨g,a,c,_⟩:=I.tuple (SqT.of (K:=X.K) h1);obtain⟨u,i,rfl,⟨t,rfl⟩,d⟩:=vals2 a;cases d;obtain⟨e,f,p2,_⟩:=I.tuple (SqT.of (K:=X.K) h2);exact⟨p,b,n,t,e,ps,rfl,rfl,c,p2,intsAre_of f⟩
def KB{h h':Heap}(k:∀b o,h.get? b=some o->h'.get? b=some o)(x:aZ.IsPr h u l):aZ.IsPr h' u l:=by
 obtain⟨a,b,n,t,d,ps,e1,e2,⟨o,e,hc⟩,⟨o',c,hc'⟩,i⟩:=x;exact⟨a,b,n,t,d,ps,e1,e2,⟨o,k _ _ e,hc⟩,⟨o',k _ _ c,hc'⟩,i⟩
def iU{a b:Type}{R:a->b->Prop}{l:List a}{m:List b}(p:Paired R l m):∀(i:Nat) x y,l[i]?=some x->m[i]?=some y->R x y:=by
 induction p with
 |nil=>intro i x y h;simp at h
 |cons r t ih=>
  intro i x y h1 h2;cases i with
  |zero=>simp at h1 h2;subst h1 h2;exact r
  |succ i=>exact ih i x y 6#h1 6#h2
noncomputable def addrOf:Value->Addr
 |.ref a=>a
 |_=>0
def KC(hu:X.A.units+64<cLine):cP X 2#7 (fun xs H Q=>∃(l:Addr)(as:List Addr)(ls:Ξ),xs=[.ref l]/\SqL X.K H l 2#2/\Paired (oA H) as ls/\ls.length<64/\
  ∀(D:Addr)(j:List 3#7),j.Perm (ls.zip as)->j.Pairwise 1#16->H D=none->Q 5#D (upd H D 8#(j.map fun q=>V.ref q.2))):=by
 intro aa s σ H xs us Q I r h;obtain⟨l,as,ls,rfl,hq,hp,y,q⟩:=h;obtain⟨u,rfl,C⟩:=vals1 r;cases C;obtain⟨J,v,E,hz⟩:=I.list hq;have d:=v.length;obtain rfl:=aG v;rw[Ab] at d hz;have F:=AN hp;have G:∀h:Heap,(∀b o,s.heap.get? b=some o->h.get? b=some o)->∀(i:Nat) u l,(1#4)[i]?=some u->ls[i]?=some l->aZ.IsPr h u l:=fun h hk i u l h1 h2=>by
  rw[Ah] at h1;cases e:as[i]? with
  |none=>rw[e] at h1;simp at h1
  |some a=>
   rw[e] at h1;obtain rfl:=Ai h1;exact KB hk (kw I (iU hp i a l e h2))
 refine aZ.yx (ls:=ls) (good:=fun h=>∀b o,s.heap.get? b=some o->h.get? b=some o) E.isList (aZ.EL (by rw[Ab];exact F) (B0 hu) ⟨s.heap,fun _ _ e=>e⟩ G) (fun h' hk=>hk) (by rw[Ab];exact hz) 4#11 fun out f=>?_;obtain⟨ps,c,f,hs⟩:=f;have all:∀p∈ps,p.2=Value.ref (addrOf p.2):=fun p g=>by
  have:=(RF (c.mem_iff.mp g:(p.1,p.2)∈ls.zip 1#4)).2;obtain⟨a,_,e⟩:=Qi.mp this;rw[<-e];rfl
 have x:(0#8).Perm (ls.zip as):=by
  have h1:=c.map (fun p:List Int×Value=>(p.1,addrOf p.2));have e:(ls.zip 1#4).map (fun p:List Int×Value=>(p.1,addrOf p.2))=ls.zip as:=by
   rw[S3,An];exact(AC fun p _=>rfl).trans (RK _)
  rw[e] at h1;exact h1
 obtain⟨e,he⟩:=sortedAll_at s.heap 1#4 out;have ex:out.toList=((0#8).map fun q=>Value.ref q.2):=by
  rw[f,An];exact AC fun p g=>all p g
 refine⟨.ref (s⁻¹+1),_,I.laid (t':=s.toks) (fun _ _=>sortedAll_old) (QI _) (show zr X.prog X.w _ _ _ 8#((0#8).map fun q=>V.ref q.2) from⟨?_,out.toList,e,?_,?_⟩),rfl,q _ _ x ?_ 61#QI⟩
 ·rw[Ab,x.length_eq,Rb];lia
 ·rw[ex]
  exact oy (fun q:List Int×Addr=>q.2) _
 ·simpa using he
 ·rw[AQ];exact hs
def E_(At:Hp->Addr->List Int->Prop)(Kf:Addr->List Int->List V):Sp:=fun vs H Q _=>∃a ps,vs=[.ref a]/\At H a ps/\∀p,H p=none->Q 5#p (upd H p 52#(Kf a ps))
def rn:Sp:=fun vs H Q _=>∃a ps,vs=[.ref a]/\Tp H a ps/\∀p,H p=none->Q 5#p (upd H p (.tup [.int ps.length,.ref a]))
def hF{a b:Type}{R:a->b->Prop}{l:List a}{m:List b}{i:Nat}{x:a}(h:Paired R l m)(e:l[i]?=some x):∃y,m[i]?=some y/\R x y:=by
 have hi:=(69#e).1;rw[AN h] at hi;exact⟨m[i],Ae hi,iU h i _ _ e (Ae hi)⟩
def iw(h:bb X aa H b):∀c∈[b],bb X aa H c:=fun c hc=>by rw[Qk.mp hc];exact h
def oC{H':Hp}(f:bb X aa H b)(a:H' b=none):bb X aa H' b:=⟨a,f.2⟩
def jo(I:Inv X aa σ H s)(f:bb X aa H b):b∉frs X.stack:=fun hb=>by
 rcases Qj.mp (I.stkSub b hb) with e|e
 ·exact f.2.1 e
 ·exact f.2.2.1 e
def Fb{At:Hp->Addr->List Int->Prop}{Kf:Addr->List Int->List V}{Is:Heap->Value->List Int->Prop}{rk un:List Int->List Int}(lM:∀{H H':Hp}{a:Addr}{ps:List Int},Same H H'->At H a ps->At H' a ps)(l7:∀ps,un (rk ps)=ps)(nV:∀{aa:Ψ}{σ:St}{H:Hp}{s:Shared}{p a:Addr}{ps:List Int},Inv X aa σ H s->At H a ps->H p=some 52#(Kf a ps)->Is s.heap 5#p (rk ps))(iT:∀(A:Around)(good:Heap->Prop)(us:List Value)(ls:Ξ),us.length=ls.length->A.units<cLine->(∃h,good h)->(∀h,good h->∀(i:Nat) u l,us[i]?=some u->ls[i]?=some l->Is h u l)->aZ.By X.prog X.w A good us ls){k:Nat}{as:List Addr}{x:Str}{Q:Ω}(F:az X.prog X.w X.K X.mg X.base aK k f fd [x] (E_ At Kf))(hr:Room (k+2) X.A)(hb:Binds X.K fd [x] [])(I:Inv X aa σ H s)(hl:SqL X.K H l 2#2)(ht:Paired (At H) as ab)(h64:ab.length<64)(h:∀D H'(C:List 3#7) s',Inv X aa σ H' s'->Same H H'->H D=none->H' D=some 8#(C.map fun q=>V.ref q.2)->C.Perm (ab.zip as)->
   C.Pairwise (fun a b=>HT.lexLt (rk b.1) (rk a.1)=false)->Q 5#D s'):
  wpAny 0#1 X.A 2#12 Q X.xe s:=by
 have hu:X.A.units+64<cLine:=hr.units;obtain⟨ae,r1,p1,hz⟩:=I.list hl;have hlen:=r1.length;obtain rfl:=aG r1;have aE:=AN ht;rw[Ab] at hlen hz;have O:(1#4).length<=sizeLine:=by rw[Ab];exact hz
 generalize hvs:as.map Value.ref=vs at p1 O;have lU:vs.length=as.length:=by rw[<-hvs,Ab]
 refine call_function_entry_kw kind_sorted plain_sorted entry_sorted (ksk_s1 _ _) ?_;unfold Builtin.«sorted»;refine Aa (m:=checkCount "sorted" 1 1 _) 1#5;refine Aa (collect_list p1.isList ?_ O);refine Aa 78#O;have hsz:(1#1).objs.size=s⁻¹+1:=by
  rw[Heap.size_update,size_push']
 have g:((1#1).push 4#4).get? (s⁻¹+1)=some 4#4:=by
  rw[<-hsz];exact Al _ rfl
 have keep:∀b o,s.heap.get? b=some o->((1#1).push 4#4).get? b=some o:=fun b o q=>by
  have J:b<s⁻¹:=Ao q;rw[Heap.get?_push_ne _ _ _ (by rw[hsz];exact Aq (AW J)),Heap.get?_update_ne _ _ _ _ (Aq J),Heap.get?_push_ne _ _ _ (Aq J)];exact q
 show wpAny _ _ _ _ _ {s with heap:=(1#1).push 4#4};rw[hsz];generalize hA:(1#1).push 4#4=d at g keep ⊢;have I1:Inv X aa σ H {s with heap:=d}:=I.kept (t':=s.toks) keep;have P:bb X aa H (s⁻¹+1):=I.fpOk (QI _) 61#QI;generalize hD:s⁻¹+1=D at g P ⊢;have oP:D<d.objs.size:=Ao g;refine Aa (AH (wpAny_call_entry_kw slot_list_sort ⟨_,g,rfl⟩ entry_list_sort ?body (ksk_l1 _ _)))
 case body=>
  show wpAny 0#1 X.A.in1.in1 (Builtin.«list.sort» ⟨[.ref D],[(A6 "key",.ref f)]⟩) _ _ _;rw[ksk_t1];unfold ksk_tree;refine Aa (listItems_at g rfl ?_);refine Aa (listUpdate_at g rfl ?_ (by rw[Aj];exact O) (AL _));obtain⟨e1,cL⟩:∃e1,(d.update D 1#6).get? D=some 1#14:=⟨_,get?_update_seq g fun _=>#[]⟩;refine Aa (seqEpoch_at cL rfl ?_);refine Aa (wpAny_newTuple ?_ (by show vs.length<=_;exact O));refine Aa 78#(AL _);refine AH ?_;have I2:Inv X aa σ H {s with heap:=d.update D 1#6}:=
   Inv.turneds (s:={s with heap:=d}) (t':=s.toks) (ch:=[D]) I1 (iw P) fun b o hb q=>by rw[Heap.get?_update_ne _ _ _ _ 2#8];exact q
  have I3:Inv X aa σ H {s with heap:=1#0}:=I2.kept (t':=s.toks) fun b u q=>Ad _ q;have fX:bb X aa H (1#0).objs.size:=I3.fpOk 0#10 (I3.hok.fresh 0#10);have j_:(1#0).objs.size≠D:=by
   rw[size_push',Heap.size_update];lia
  have I4:Inv X aa σ H {s with heap:=((1#0).push 2#5)}:=I3.kept (t':=s.toks) fun b u q=>Ad _ q;have mV:((1#0).push 2#5).get? (1#0).objs.size=some 2#5:=Al _ rfl;have cv:((1#0).push 2#5).get? D=some 1#14:=Ad _ (Ad _ cL);show wpAny 0#1 X.A.in1.in1 (ksk_rest D 5#f false vs.toArray e1 (.ref (1#0).objs.size)) _ _ {s with heap:=(1#0).push 2#5};generalize ((d.update D 1#6).push 4#15).objs.size=kS at *;generalize ((d.update D 1#6).push 4#15).push 2#5=fO at *;unfold ksk_rest;refine Aa (wpAny_rule ?_)
  first
   |rw[List.forIn_toArray]
   |(rw[<-RT];simp only[List.toList_toArray])
  refine Aa (ksk_fold (fun i s'=>∃y E e ks,Inv X aa σ y s'/\Same H y/\y D=none/\y kS=none/\s'.heap.get? kS=some (seqObj "list" E e)/\s'.heap.get? D=some 1#14/\E.toList=ks.map Value.ref/\ks.length=i/\
    ∀(j:Nat) p,ks[j]?=some p->∃a ps,as[j]?=some a/\ab[j]?=some ps/\y p=some 52#(Kf a ps)) vs 0 _
   ⟨H,#[],0,[],I4,Same.refl H,P.1,fX.1,mV,cv,rfl,rfl,fun j p e=>by simp at e⟩ ?step ?done)
  case step=>
   rintro j v s' hv ⟨y,E,e,ks,Ik,M,N,S,T,na,da,G,bY⟩;simp only[RI] at G ⊢;have eM:j<as.length:=by rw[<-lU];exact(BK.mp hv).1
   have Y:as[j]?=some as[j]:=Ae eM;obtain⟨ps,cV,dy⟩:=hF ht Y;have ev:v=.ref as[j]:=by
    rw[<-hvs,Ah,Y] at hv;exact(Ai hv).symm
   subst ev;refine Aa (wpAny_attempt (wpAny_call (Bx (F.run X.A.in1.in1 X.stack s' y ⟨[.ref as[j]],[]⟩ [.ref as[j]] [.ref as[j]] (fun v H'=>∃p,v=.ref p/\y p=none/\H'=upd y p 52#(Kf as[j] ps)) E0
    (Room.in1 (Room.in1 hr)) Ik.env0.in1.in1 (hb s' [.ref as[j]] Ik.kIn rfl) (.cons rfl .nil) ⟨as[j],ps,rfl,lM M dy,fun p hp=>⟨p,rfl,hp,rfl⟩⟩) fun r L hq=>?_)))
   cases r with
   |error e=>exact False.elim hq
   |ok fl=>
    cases fl with
    |next=>exact False.elim hq
    |brk=>exact False.elim hq
    |cont=>exact False.elim hq
    |ret u=>
     obtain⟨v,H',os,U,un,hok,ru,p,rfl,hp,rfl⟩:=hq;cases ru;have I5:Inv X aa σ (upd y p 52#(Kf as[j] ps)) L:=Ik.call' os un hok U (fun b z=>nomatch z);have fD:=oC P N;have fK:=oC fX S;have mE:=un.keep D _ na N (jo Ik fD) 2#0;have jd:=un.keep kS _ T S (jo Ik fK) 2#0;have eI:=un.free D _ na N 2#0;have rP:=un.free kS _ T S 2#0
     try dsimp only
     have hkz:E.size=j:=by rw[<-AD,da,Ab,G]
     obtain⟨c2,b0⟩:∃c2,(L.heap.update kS (Ay (·.push 5#p))).get? kS=some (seqObj "list" (E.push 5#p) c2):=⟨_,get?_update_seq jd (·.push 5#p)⟩;have s1:=AI L.heap kS (Ay (·.push 5#p));have x4:=oC fX rP;have I6:Inv X aa σ (upd y p 52#(Kf as[j] ps)) {L with heap:=L.heap.update kS (Ay (·.push 5#p))}:=
      I5.turneds (t':=L.toks) (ch:=[kS]) (iw x4) fun b o hb q=>(s1.2 b 2#8).trans q
     refine Aa (listUpdate_at jd rfl ?_ ω (AG (SR (Sj ..)) ω));refine Ac ⟨rfl,_,E.push 5#p,c2,ks++[p],I6,M.then (by exact M.free hp),eI,rP,b0,(s1.2 D j_.symm).trans mE,by rw[Sy,da,Ap];rfl,by rw[Az,G];rfl,fun i p' e'=>?_⟩
     by_cases hi:i<ks.length
     ·rw[QP hi] at e'
      obtain⟨a,gl,x1,x2,x3⟩:=bY i p' e';exact⟨a,gl,x1,x2,by rw[al (zg x3 hp)];exact x3⟩
     ·rw[QF ω] at e'
      have h0:i-ks.length=0:=by
       rcases S4 (i-ks.length) with z|z
       ·exact z
       ·rw[Bc (by simp only[AB,QZ];lia)] at e';cases e'
      rw[h0] at e';obtain rfl:p=p':=by simpa using e'
      have hij:i=j:=ω
      subst hij;exact⟨_,ps,Y,cV,ac⟩
  case done=>
   rintro s' ⟨y,E,e,ks,Ik,M,N,S,T,na,da,G,bY⟩;simp only[RI] at G
   try dsimp only
   refine Aa (listItems_at T rfl ?_);unfold ksk_end
   try dsimp only
   simp only[Am,if_false];have tu:E=(ks.map Value.ref).toArray:=by rw[<-da,Array.toArray_toList]
   subst tu;have fu:∀(i:Nat) u l,(ks.map Value.ref)[i]?=some u->(ab.map rk)[i]?=some l->Is s'.heap u l:=fun i u l h1 h2=>by
    rw[Ah] at h1 h2;cases ek:ks[i]? with
    |none=>rw[ek] at h1;simp at h1
    |some p=>
     obtain⟨a,ps,x1,x2,x3⟩:=bY i p ek;rw[ek] at h1;rw[x2] at h2;obtain rfl:=Ai h1;obtain rfl:=Ai h2;obtain⟨gl,y1,y2⟩:=hF ht x1;rw[x2] at y1;obtain rfl:=Ai y1;exact nV Ik (lM M y2) x3
   refine aZ.EN (us:=ks.map Value.ref) (vs:=vs) (ls:=ab.map rk) (good:=fun h=>h=s'.heap) (iT _ _ _ _ (by rw[Ab,Ab,G,lU];exact aE) (B0 hu) ⟨_,rfl⟩ (by rintro h rfl;exact fu)) (by rw[Ab,G]) ω rfl fun af ho hst hf=>?_;refine aZ.EO (ls:=ab.map rk) (vs:=vs) T na j_ (by rw[Aj,Ab];lia) ho hst O hf fun h' out c kk iW uv gP mH=>⟨_,rfl,?_⟩;refine Ac ⟨_,rfl,?_⟩;obtain⟨ps,W,be,hs⟩:=gP;subst hvs;have I7:Inv X aa σ y {s' with heap:=h'}:=Ik.turneds (t':=s'.toks) (ch:=[kS,D]) (fun b hb=>by
     simp only[Qj,QL,or_false] at hb;rcases hb with rfl|rfl
     ·exact oC fX S
     ·exact oC P N) fun b o hb q=>kk b o 2#8 2#8 q
   have all:∀p∈ps,∃a C,p.2=Value.ref a/\p.1=rk C:=fun p aV=>by
    obtain⟨h1,h2⟩:=RF (W.mem_iff.mp aV:(p.1,p.2)∈_);obtain⟨a,_,Y⟩:=Qi.mp h2;obtain⟨C,_,eq⟩:=Qi.mp h1;exact⟨a,C,Y.symm,eq.symm⟩
   have pm:(ps.map fun p=>(un p.1,addrOf p.2)).Perm (ab.zip as):=by
    have h1:=W.map (fun p:List Int×Value=>(un p.1,addrOf p.2));have e:((ab.map rk).zip 1#4).map (fun p:List Int×Value=>(un p.1,addrOf p.2))=ab.zip as:=by
     rw[List.zip_map,An];exact(AC fun p _=>by show(un (rk p.1),p.2)=p;rw[l7]).trans (RK _)
    rw[e] at h1;exact h1
   have ex:out.toList=((ps.map fun p=>(un p.1,addrOf p.2)).map fun q=>Value.ref q.2):=by
    rw[be,An];refine AC fun p aV=>?_;obtain⟨a,C,e1,_⟩:=all p aV;show p.2=Value.ref (addrOf p.2);rw[e1];rfl
   have vv:Vals ((ps.map fun p=>(un p.1,addrOf p.2)).map fun q=>V.ref q.2) out.toList:=by
    rw[ex];exact oy (fun q:List Int×Addr=>q.2) _
   obtain⟨f0,f1,f2,f3,f4,f5⟩:=P;have oM:X.s₀⁻¹<=D:=by rw[<-hD];exact AG I.sz (QI _)
   have I8:Inv X aa σ (upd y D 8#((ps.map fun p=>(un p.1,addrOf p.2)).map fun q=>V.ref q.2)) {s' with heap:=h'}:=by
    refine I7.adopt N oM f1 f4 f5 ⟨?_,out.toList,c,vv,?_⟩
    ·rw[Ab,pm.length_eq,Rb];lia
    ·simpa using iW
   refine h D _ _ _ I8 (M.then f0) f0 ac pm ?_;rw[AQ];refine hs.imp_of_mem fun{p q} h1 h2 h3=>?_;obtain⟨_,C,_,e1⟩:=all p h1;obtain⟨_,qk,_,e2⟩:=all q h2;rw[e1,e2] at h3;show HT.lexLt (rk (un q.1)) (rk (un p.1))=false;rw[e1,e2,l7,l7];exact h3
def KD{k:Nat}{as:List Addr}{x:Str}{Q:Ω}(F:az X.prog X.w X.K X.mg X.base aK k f fd [x] rn)(hr:Room (k+2) X.A)(hb:Binds X.K fd [x] [])(I:Inv X aa σ H s)(j:SqL X.K H l 2#2)(ht:Tps H as ab)(i:ab.length<64)(h:∀D H'(g:List 3#7) s',Inv X aa σ H' s'->Same H H'->H D=none->H' D=some 8#(g.map fun q=>V.ref q.2)->g.Perm (ab.zip as)->
   g.Pairwise 3#10->Q 5#D s'):
  wpAny 0#1 X.A 2#12 Q X.xe s:=
 Fb (At:=Tp) (Kf:=fun a ps=>[.int ps.length,.ref a]) (Is:=aZ.IsPr) (rk:=fun ps=>(ps.length:Int)::ps) (un:=List.tail) (fun s h=>s.tp h) (fun _=>rfl) (fun I h e=>kw I ⟨_,_,_,rfl,e,h⟩) (fun _ _ _ _ a b c d=>aZ.EL a b c d) F hr hb I j ht i h
end
section
variable{X:Cx}{a:Expr}{ta:TA}{p p2 pos cB:Pos}{k:Nat}{f:Addr}{fd:FuncData}{x y:Str}
def KF(K:Af)(ta:TA):TE:=fun σ H Q=>ta σ H fun vs H1=>∃(l:Addr)(as:List Addr)(ab:Ξ),vs=[.ref l]/\SqL K H1 l 2#2/\Tps H1 as ab/\ab.length<64/\
 ∀D H2(c:List 3#7),Same H1 H2->H1 D=none->H2 D=some 8#(c.map fun q=>V.ref q.2)->c.Perm (ab.zip as)->c.Pairwise 3#10->Q 5#D H2
def KG(F:az X.prog X.w X.K X.mg X.base aK k f fd [x] rn)(hr:Room (k+2) X.A)(hb:Binds X.K fd [x] [])(C:Gl X "sorted")(hm:X.mg "sorted"=none)(E:Ba "sorted"=some 2#7)(G:Gl X y)(J:X.mg y=some 5#f)(ha:PA X [a] ta)(L:(y==("__debug__":Str))=false:=by decide)(he:starEach [a] X.env=[60#a]:=by rfl):PE X (.Call (.Name "sorted" p) [a] [⟨some "key",.Name y p2,cB⟩] pos) (KF X.K ta):=by
 intro aa s σ H Q I h;refine wpAny_Call_Name_kw (ij I C hm E ?_);refine callWith_kw ?_ (by rw[he];rfl) (by rw[he];rfl) rfl rfl;refine aT 1#12 fun us d ⟨vs,H1,c,e,g⟩=>?_;obtain⟨l,as,ab,rfl,r,ht,b,q⟩:=g;obtain⟨u,rfl,v⟩:=vals1 e;cases v;refine kws_cons (p9 c G J (kws_nil ?_) L);show wpAny 0#1 X.A 2#12 _ _ d;exact KD F hr hb c r ht b fun D H' i s' M sm j o hp hs=>⟨.ref D,H',M,rfl,q D H' i sm j o hp hs⟩
end
end L2
end
section
namespace STb
open PySem PySem.SetTable
def Ris(xs:Array Nat):Prop:=∀(i j a b:Nat),xs[i]?=some a->xs[j]?=some b->i<j->a<b
def Ris.inj(h:Ris xs){i j a:Nat}(h1:xs[i]?=some a)(h2:xs[j]?=some a):i=j:=by
 rcases Q8 i j with q|q|q
 ·exact absurd (h i j a a h1 h2 q) (QT _)
 ·exact q
 ·exact absurd (h j i a a h2 h1 q) (QT _)
def B1{j:Nat}(hr:Ris xs):∀(fuel lo hi:Nat),hi-lo<=fuel->lo<=hi->hi<=xs.size->(∀i a,xs[i]?=some a->i<lo->a<j)->(∀i a,xs[i]?=some a->hi<=i->j<=a)->
  below.go xs j fuel lo hi<=xs.size/\(∀i a,xs[i]?=some a->i<below.go xs j fuel lo hi->a<j)/\(∀i a,xs[i]?=some a->below.go xs j fuel lo hi<=i->j<=a)
 |0,lo,hi,h0,h1,h2,h3,h4=>by
  have e:lo=hi:=ω
  subst e;exact⟨h2,h3,h4⟩
 |fuel+1,lo,hi,h0,h1,h2,h3,h4=>by
  have d:below.go xs j (fuel+1) lo hi=if lo<hi then(if xs.getD ((lo+hi) / 2) j<j then below.go xs j fuel ((lo+hi) / 2+1) hi else below.go xs j fuel lo ((lo+hi) / 2)) else lo:=rfl;rw[d]
  by_cases c:lo<hi
  ·rw[TH c]
   have hm:(lo+hi) / 2<xs.size:=ω
   have em:xs[(lo+hi) / 2]?=some xs[(lo+hi) / 2]:=getElem?_pos xs _ hm;have f:xs.getD ((lo+hi) / 2) j=xs[(lo+hi) / 2]:=by simp[Array.getD,hm]
   rw[f]
   by_cases hc:xs[(lo+hi) / 2]<j
   ·rw[TH hc]
    refine B1 hr fuel _ _ ω ω h2 (fun i a e b=>?_) h4;rcases S5 (Q0.mp b) with q|q
    ·exact RH (hr _ _ _ _ e em q) hc
    ·subst q;rw[em] at e;cases e;exact hc
   ·rw[TJ hc]
    refine B1 hr fuel _ _ ω ω ω h3 (fun i a e b=>?_);rcases S5 b with q|q
    ·have:=hr _ _ _ _ em e q
     lia
    ·subst q;rw[em] at e;cases e;lia
  ·rw[TJ c]
   have e:lo=hi:=ω
   subst e;exact⟨h2,h3,h4⟩
def oD(hr:Ris xs)(j:Nat):below xs j<=xs.size/\(∀i a,xs[i]?=some a->i<below xs j->a<j)/\(∀i a,xs[i]?=some a->below xs j<=i->j<=a):=
 B1 hr xs.size 0 xs.size ω ω 0#10 (fun _ _ _ h=>absurd h (RG _)) (fun i a e h=>by have:=(Qs.mp e).1;lia)
def below_at(hr:Ris xs){i j:Nat}(e:xs[i]?=some j):below xs j=i:=by
 obtain⟨h1,h2,a⟩:=oD hr j;rcases Q8 (below xs j) i with q|q|q
 ·have hb:below xs j<xs.size:=RH q (Qs.mp e).1
  have e2:=getElem?_pos xs (below xs j) hb;have b:=a _ _ e2 0#10;have c:=hr _ _ _ _ e2 e q;lia
 ·exact q
 ·exact absurd (h2 i j e q) (QT _)
def fj{a:Type}(xs:Array a)(p:Nat)(x:a)(hp:p<=xs.size)(i:Nat):(insertAt xs p x)[i]?=if i<p then xs[i]? else if i=p then some x else xs[i-1]?:=by
 unfold insertAt;have hs:((xs.extract 0 p).push x).size=p+1:=by rw[Sj,RU];lia
 by_cases h1:i<p
 ·rw[TH h1,Array.getElem?_append_left ω,Array.getElem?_push_lt (by rw[RU];lia)]
  simp[Array.getElem_extract,h1]
 ·rw[TJ h1]
  by_cases h2:i=p
  ·subst h2
   rw[TH rfl,Array.getElem?_append_left ω];have e:(xs.extract 0 i).size=i:=by rw[RU];lia
   have:=Array.getElem?_push_size (xs:=xs.extract 0 i) (x:=x);rw[e] at this;exact this
  ·rw[TJ h2,Array.getElem?_append_right ω,hs,Array.getElem?_extract]
   by_cases b:i-(p+1)<xs.size-p
   ·rw[TH ω]
    congr 1
    lia
   ·rw[TJ ω]
    exact(Ru ω).symm
def oH{a:Type}(xs:Array a)(p:Nat)(x:a)(hp:p<=xs.size):(insertAt xs p x).size=xs.size+1:=by
 unfold insertAt;rw[Array.size_append,Sj,RU,RU];lia
def KH(hr:Ris xs)(p:∀i:Nat,xs[i]?≠some j):Ris (insertAt xs (below xs j) j):=by
 obtain⟨h1,h2,o⟩:=oD hr j;intro a b x y d c e;rw[fj _ _ _ h1] at d c
 by_cases f:a<below xs j
 ·rw[TH f] at d
  by_cases g:b<below xs j
  ·rw[TH g] at c;exact hr _ _ _ _ d c e
  ·rw[TJ g] at c
   by_cases h:b=below xs j
   ·rw[TH h] at c;cases c;exact h2 _ _ d f
   ·rw[TJ h] at c;exact hr _ _ _ _ d c ω
 ·rw[TJ f] at d
  rw[TJ ω] at c
  by_cases l:a=below xs j
  ·rw[TH l] at d;cases d
   rw[TJ ω] at c;have:=o _ _ c ω;rcases S5 this with q|q
   ·exact q
   ·subst q;exact absurd c (p _)
  ·rw[TJ l] at d
   rw[TJ ω] at c;exact hr _ _ _ _ d c ω
noncomputable def fZ(mask:Nat)(p:Probe):Probe:=
 if p.more>0 then {p with j:=p.j+1,more:=p.more-1} else
 {p with j:=(leap mask p.i p.perturb).1,more:=runEnd mask (leap mask p.i p.perturb).1-(leap mask p.i p.perturb).1,i:=(leap mask p.i p.perturb).1,perturb:=(leap mask p.i p.perturb).2}
noncomputable def first(mask:Nat)(h:Int):Probe:={j:=bits h%(mask+1),more:=runEnd mask (bits h%(mask+1))-bits h%(mask+1),i:=bits h%(mask+1),perturb:=bits h,dummy:=none}
noncomputable def pr(mask:Nat)(h:Int):Nat->Probe
 |0=>first mask h
 |n+1=>fZ mask 83#n
noncomputable def pos(mask:Nat)(h:Int)(n:Nat):Nat:=(83#n).j
def Fc(mask:Nat)(h:Int):∀n,(83#n).dummy=none
 |0=>rfl
 |n+1=>by
  show(fZ mask 83#n).dummy=none;unfold fZ;split<;>exact Fc mask h n
noncomputable def lp(mask:Nat)(h:Int):Nat->Nat×Nat
 |0=>(bits h%(mask+1),bits h)
 |r+1=>leap mask (50#r).1 (50#r).2
def KI(mask i:Nat):runEnd mask i-i<=9:=by unfold runEnd;split<;>lia
def ro(mask:Nat)(h:Int){n r:Nat}(e:pr mask h n={j:=(50#r).1,more:=runEnd mask (50#r).1-(50#r).1,i:=(50#r).1,perturb:=(50#r).2,dummy:=none}):∀k,k<=runEnd mask (50#r).1-(50#r).1->pr mask h (n+k)={j:=(50#r).1+k,more:=runEnd mask (50#r).1-(50#r).1-k,i:=(50#r).1,perturb:=(50#r).2,dummy:=none}
 |0,_=>e
 |k+1,hk=>by
  have a:=ro mask h e k ω;show fZ mask 83#(n+k)=_;rw[a];unfold fZ;rw[TH (by show runEnd mask (50#r).1-(50#r).1-k>0;lia)]
  congr 1
def Fd(mask:Nat)(h:Int):∀r,∃n,n<=10*r/\pr mask h n={j:=(50#r).1,more:=runEnd mask (50#r).1-(50#r).1,i:=(50#r).1,perturb:=(50#r).2,dummy:=none}
 |0=>⟨0,Ag _,rfl⟩
 |r+1=>by
  obtain⟨n,a,e⟩:=Fd mask h r;have b:=KI mask (50#r).1;refine⟨n+3#11+1,ω,?_⟩;show fZ mask 83#(n+3#11)=_;rw[ro mask h e _ 0#10];unfold fZ;rw[TJ (by show ¬(runEnd mask (50#r).1-(50#r).1-3#11>0);lia)]
  rfl
def KJ(h:Int):bits h<2 ^ 64:=by
 unfold bits;have h1:(0:Int)<=h%(2 ^ 64:Int):=Rp _ ξ;have h2:h%(2 ^ 64:Int)<2 ^ 64:=Q4 _ ξ;lia
def Fe(mask:Nat)(h:Int):∀r,(50#r).2=bits h / 32 ^ r
 |0=>by simp[lp]
 |r+1=>by
  show(lp mask h r).2 / 32=_;rw[Fe mask h r,Nat.div_div_eq_div_mul,Nat.pow_succ]
def KL(mask:Nat)(h:Int){r:Nat}(hr:13<=r):(50#r).2=0:=by
 rw[Fe];have h1:=KJ h;have h2:32 ^ 13<=32 ^ r:=SH ξ hr;exact Nat.div_eq_of_lt (AF h1 (AG ξ h2))
def Ff(mask:Nat)(h:Int):∀r,(50#r).1<=mask
 |0=>Q0.mp (Ts _ (Tt _))
 |r+1=>Q0.mp (Ts _ (Tt _))
noncomputable def f5(mask x:Nat):Nat:=(x*5+1)%(mask+1)
noncomputable def fw(mask:Nat):Nat->Nat->Nat
 |0,x=>x
 |k+1,x=>f5 mask (fw mask k x)
def B2(mask:Nat)(h:Int):∀k,(50#(13+k)).1=fw mask k (50#13).1
 |0=>rfl
 |k+1=>by
  show((50#(13+k)).1*5+1+(50#(13+k)).2 / 32)%(mask+1)=f5 mask (fw mask k (50#13).1);rw[KL mask h ω,B2 mask h k]
  rfl
def Cov(mask:Nat):Prop:=∀i s,i<=mask->s<=mask->∃k,k<=mask/\fw mask k i=s
noncomputable def mr(mask:Nat):Nat->Nat->List Nat
 |0,_=>[]
 |n+1,x=>x::mr mask n (f5 mask x)
def Fg(mask:Nat):∀(n x k:Nat),k<n->(mr mask n x)[k]?=some (fw mask k x)
 |0,_,_,h=>absurd h (RG _)
 |n+1,x,0,_=>rfl
 |n+1,x,k+1,h=>by
  have a:=Fg mask n (f5 mask x) k ω;show(mr mask n (f5 mask x))[k]?=_;rw[a]
  congr 1
  have b:∀k x,fw mask k (f5 mask x)=f5 mask (fw mask k x):=by
   intro k
   induction k with
   |zero=>intro x;rfl
   |succ k a=>intro x;show f5 mask (fw mask k (f5 mask x))=_;rw[a];rfl
  exact b k x
def B4(mask:Nat):∀n x,(mr mask n x).length=n
 |0,_=>rfl
 |n+1,x=>by show(mr mask n (f5 mask x)).length+1=_;rw[B4 mask n]
def rx(mask:Nat):∀(a b x:Nat),fw mask (a+b) x=fw mask a (fw mask b x)
 |0,b,x=>by rw[RI];rfl
 |a+1,b,x=>by
  rw[Nat.add_right_comm];show f5 mask (fw mask (a+b) x)=_;rw[rx mask a b x]
  rfl
def mu{mask:Nat}(h:((AO (mask+1)).all fun s=>(mr mask (mask+1) 0).contains s)=true)(hp:fw mask (mask+1) 0=0):Cov mask:=by
 have all:∀s,s<=mask->∃k,k<=mask/\fw mask k 0=s:=fun s hs=>by
  have h2:=Qp.mp h s (Qn.mpr ω);obtain⟨k,hk,e⟩:=QH.mp (List.contains_iff_mem.mp h2);rw[B4] at hk;refine⟨k,ω,?_⟩;have e2:=Fg mask (mask+1) 0 k hk;rw[Ae (by rw[B4];exact hk),e] at e2;exact(Ai e2).symm
 intro i s hi hs;obtain⟨a,ha,c⟩:=all i hi;obtain⟨b,hb,d⟩:=all s hs;rcases QM b a with q|q
 ·refine⟨mask+1-a+b,ω,?_⟩
  rw[<-c,<-rx,show mask+1-a+b+a=b+(mask+1) from ω,rx,hp,d]
 ·refine⟨b-a,ω,?_⟩
  rw[<-c,<-rx,show b-a+a=b from ω,d]
def B5:Cov 7:=mu δ δ
def hG:Cov 31:=mu δ δ
def oI:Cov 15:=mu δ δ
def jp:Cov 63:=mu δ δ
def kx:Cov 255:=mu δ δ
def eS:Cov 127:=mu δ δ
def oK{mask:Nat}(hc:Cov mask)(h:Int){x:Nat}(hx:x<=mask):∃n,n<10*turns mask/\pos mask h n=x:=by
 obtain⟨k,hk,e⟩:=hc (50#13).1 x (Ff mask h 13) hx;obtain⟨n,a,e2⟩:=Fd mask h (13+k);refine⟨n,by unfold turns;lia,?_⟩;show(pr mask h n).j=x;rw[e2];show(lp mask h (13+k)).1=x;rw[B2,e]
def eU(mask:Nat)(h:Int)(n:Nat):pos mask h n<=mask:=by
 have key:∀n,(83#n).i<=mask/\(pr mask h n).j+(83#n).more<=mask:=by
  intro n;have a:∀i,i<=mask->i+(runEnd mask i-i)<=mask:=fun i hi=>by unfold runEnd;split<;>lia
  induction n with
  |zero=>
   have q:bits h%(mask+1)<=mask:=Q0.mp (Ts _ (Tt _));exact⟨q,a _ q⟩
  |succ n ih=>
   show(fZ mask 83#n).i<=mask/\(fZ mask 83#n).j+(fZ mask 83#n).more<=mask;unfold fZ;split
   ·exact⟨ih.1,by show(pr mask h n).j+1+((83#n).more-1)<=mask;lia⟩
   ·have q:(leap mask (83#n).i (83#n).perturb).1<=mask:=Q0.mp (Ts _ (Tt _))
    exact⟨q,a _ q⟩
 have:=(key n).2;unfold pos;lia
end STb
end
section
namespace STb
open PySem PySem.SetTable
structure Tb(t:SetTable)(hs:Array Int):Prop where
 ris:Ris t.place
 dum:t.dummies=#[]
 size:t.place.size=hs.size
 le:∀(i j:Nat),t.place[i]?=some j->j<=t.mask
 cov:Cov t.mask
 odd:t.mask%2=1
 room:hs.size<=t.mask
 path:∀(k j:Nat)(h:Int),hs[k]?=some h->t.place[k]?=some j->∃n,pos t.mask h n=j/\∀m,m<n->∃k':Nat,t.place[k']?=some 53#m
def Occ(t:SetTable)(j:Nat):Prop:=∃i:Nat,t.place[i]?=some j
def Occ.dec(t:SetTable)(j:Nat):Occ t j\/¬Occ t j:=Classical.em _
section
variable{t:SetTable}{hs:Array Int}
def mw(T:Tb t hs){i j:Nat}(e:t.place[i]?=some j):t.slot j=.live i:=by
 show(if(t.place[below t.place j]?==some j)=true then Slot.live (below t.place j) else _)=_;rw[below_at T.ris e,e,TH 2#0]
def KM(T:Tb t hs)(e:¬Occ t j):t.slot j=.empty:=by
 show(if(t.place[below t.place j]?==some j)=true then Slot.live (below t.place j) else if has t.dummies j=true then Slot.dummy else Slot.empty)=_;have h1:¬(t.place[below t.place j]?==some j)=true:=by
  intro q;exact e ⟨_,eq_of_beq q⟩
 have h2:has t.dummies j=false:=by
  unfold has;rw[T.dum]
  rfl
 rw[TJ h1,h2]
 rfl
def KO(T:Tb t hs):∃x,x<=t.mask/\¬Occ t x:=by
 apply A1;intro a;have all:∀x,x<=t.mask->Occ t x:=fun x hx=>A1 fun q=>a ⟨x,hx,q⟩;have sub:AO (t.mask+1) ⊆ t.place.toList:=fun x hx=>by
  obtain⟨i,e⟩:=all x (Q0.mp (Qn.mp hx));rw[<-AJ] at e;exact Ak e
 have:=(R7 (n:=t.mask+1)).length_le_of_subset sub;rw[BE,AD,T.size] at this;have:=T.room;lia
def least{P:Nat->Prop}(n:Nat)(h:P n):∃m,m<=n/\P m/\∀k,k<m->¬P k:=by
 induction n using Nat.strongRecOn with
 |ind n ih=>
  by_cases q:∃k,k<n/\P k
  ·obtain⟨k,hk,a⟩:=q
   obtain⟨m,h1,h2,b⟩:=ih k hk a;exact⟨m,ω,h2,b⟩
  ·exact⟨n,Ag _,h,fun k hk a=>q ⟨k,hk,a⟩⟩
def B6(T:Tb t hs)(h:Int):∃ne,ne<10*turns t.mask/\¬Occ t 53#ne/\∀m,m<ne->Occ t 53#m:=by
 obtain⟨x,hx,fx⟩:=KO T;obtain⟨n,b,e⟩:=oK T.cov h hx;obtain⟨m,h1,h2,a⟩:=least (P:=fun m=>¬Occ t 53#m) n (by rw[e];exact fx);exact⟨m,ω,h2,fun k hk=>A1 fun q=>a k hk q⟩
def B7(T:Tb t hs){hashAt:Nat->Int}:∀(d fuel n:Nat),(∀m,n<=m->m<n+d->∃i:Nat,t.place[i]?=some 53#m/\hashAt i≠h)->probe.go t hashAt h (fuel+d) 58#n=probe.go t hashAt h fuel 58#(n+d)
 |0,fuel,n,_=>rfl
 |d+1,fuel,n,hm=>by
  obtain⟨i,e1,e2⟩:=hm n 0#10 ω;have es:t.slot (58#n).j=.live i:=mw T e1;have a:=B7 T d fuel (n+1) (fun m h1 h2=>hm m ω ω);rw[show fuel+(d+1)=(fuel+d)+1 from ω,show n+(d+1)=n+1+d from ω,<-a];show(match t.slot (58#n).j with
   |.empty=>some (Met.empty (58#n).j (58#n).dummy)
   |.dummy=>probe.go t hashAt h (fuel+d) (t.advance {(pr t.mask h n) with dummy:=some (58#n).j})
   |.live i=>if hashAt i==h then some (Met.candidate (58#n).j i (t.advance 58#n)) else probe.go t hashAt h (fuel+d) (t.advance 58#n))=_
  rw[es];dsimp only;rw[TJ 6#e2]
  rfl
def probe_spec(T:Tb t hs){hashAt:Nat->Int}{ne n:Nat}(w:ne<10*turns t.mask)(he:¬Occ t 53#ne)(hm:∀m,m<ne->Occ t 53#m)(x:n<=ne):(t.probe hashAt h 58#n=some (.empty 53#ne none)/\∀m i,n<=m->m<ne->t.place[i]?=some 53#m->hashAt i≠h) \/
  ∃(N i:Nat),n<=N/\N<ne/\t.place[i]?=some 53#N/\hashAt i=h/\t.probe hashAt h 58#n=some (.candidate 53#N i 58#(N+1))/\∀m f,n<=m->m<N->t.place[f]?=some 53#m->hashAt f≠h:=by
 by_cases q:∃N,n<=N/\N<ne/\∃i:Nat,t.place[i]?=some 53#N/\hashAt i=h
 ·right
  obtain⟨p,r⟩:=q;obtain⟨N,h1,⟨h2,u,i,l,o⟩,v⟩:=least (P:=fun N=>n<=N/\N<ne/\∃i:Nat,t.place[i]?=some 53#N/\hashAt i=h) p r;have g:∀m f,n<=m->m<N->t.place[f]?=some 53#m->hashAt f≠h:=fun m f a b c d=>v m b ⟨a,ω,f,c,d⟩;refine⟨N,i,h2,u,l,o,?_,g⟩;obtain⟨fuel,hf⟩:∃fuel,10*turns t.mask=(fuel+1)+(N-n):=⟨10*turns t.mask-(N-n)-1,ω⟩;unfold SetTable.probe;rw[hf,B7 T (N-n) (fuel+1) n (fun m a b=>?_),show n+(N-n)=N from ω]
  ·show(match t.slot (58#N).j with
    |.empty=>some (Met.empty (58#N).j (58#N).dummy)
    |.dummy=>probe.go t hashAt h fuel (t.advance {(pr t.mask h N) with dummy:=some (58#N).j})
    |.live i=>if hashAt i==h then some (Met.candidate (58#N).j i (t.advance 58#N)) else probe.go t hashAt h fuel (t.advance 58#N))=_
   rw[show t.slot (58#N).j=.live i from mw T l];dsimp only;rw[TH 6#o]
   rfl
  ·obtain⟨f,e⟩:=hm m ω
   exact⟨f,e,g m f a ω e⟩
 ·left
  have g:∀m i,n<=m->m<ne->t.place[i]?=some 53#m->hashAt i≠h:=fun m i a b c d=>q ⟨m,a,b,i,c,d⟩;refine⟨?_,g⟩;obtain⟨fuel,hf⟩:∃fuel,10*turns t.mask=(fuel+1)+(ne-n):=⟨10*turns t.mask-(ne-n)-1,ω⟩;unfold SetTable.probe;rw[hf,B7 T (ne-n) (fuel+1) n (fun m a b=>?_),show n+(ne-n)=ne from ω]
  ·show(match t.slot (58#ne).j with
    |.empty=>some (Met.empty (58#ne).j (58#ne).dummy)
    |.dummy=>probe.go t hashAt h fuel (t.advance {(pr t.mask h ne) with dummy:=some (58#ne).j})
    |.live i=>if hashAt i==h then some (Met.candidate (58#ne).j i (t.advance 58#ne)) else probe.go t hashAt h fuel (t.advance 58#ne))=_
   rw[show t.slot (58#ne).j=.empty from KM T he];dsimp only;rw[Fc]
   rfl
  ·obtain⟨f,e⟩:=hm m ω
   exact⟨f,e,g m f a ω e⟩
def KP(T:Tb t hs){ne k j:Nat}(he:¬Occ t 53#ne)(hk:hs[k]?=some h)(a:t.place[k]?=some j):∃N,N<ne/\pos t.mask h N=j:=by
 obtain⟨n,e,hm⟩:=T.path k j h hk a;refine⟨n,?_,e⟩;rcases Q8 n ne with q|q|q
 ·exact q
 ·subst q;exact absurd ⟨k,by rw[e];exact a⟩ he
 ·exact absurd (hm ne q) he
def Fh(T:Tb t hs){ne:Nat}(he:¬Occ t 53#ne)(hm:∀m,m<ne->Occ t 53#m)(hr:hs.size+1<=t.mask):(t.put 53#ne).2<=hs.size/\(t.put 53#ne).1.mask=t.mask/\Tb (t.put 53#ne).1 (insertAt hs (t.put 53#ne).2 h):=by
 have u:∀i:Nat,t.place[i]?≠some 53#ne:=fun i e=>he ⟨i,e⟩;obtain⟨f,v,w⟩:=oD T.ris 53#ne;have hb:below t.place 53#ne<=hs.size:=by rw[<-T.size];exact f
 have g:(t.put 53#ne).1.place=insertAt t.place (below t.place 53#ne) 53#ne:=rfl;have mk:(t.put 53#ne).1.mask=t.mask:=rfl;have d:∀j,Occ t j->∃r:Nat,(t.put 53#ne).1.place[r]?=some j:=fun j ⟨i,e⟩=>by
  by_cases q:i<below t.place 53#ne
  ·exact⟨i,by rw[g,fj _ _ _ f,TH q];exact e⟩
  ·exact⟨i+1,by rw[g,fj _ _ _ f,TJ ω,TJ ω,Sl];exact e⟩
 refine⟨hb,mk,⟨?_,?_,?_,fun i j e=>?_,T.cov,T.odd,?_,fun k j h' e1 e2=>?_⟩⟩
 ·rw[g];exact KH T.ris u
 ·show(if has t.dummies 53#ne=true then _ else t.dummies)=#[]
  rw[T.dum]
  rfl
 ·rw[g,oH _ _ _ f]
  show _=(insertAt hs (below t.place 53#ne) h).size;rw[oH _ _ _ hb,T.size]
 ·rw[g,fj _ _ _ f] at e
  rw[mk]
  by_cases o:i<below t.place 53#ne
  ·rw[TH o] at e;exact T.le _ _ e
  ·rw[TJ o] at e
   by_cases p:i=below t.place 53#ne
   ·rw[TH p] at e;cases e;exact eU _ _ _
   ·rw[TJ p] at e;exact T.le _ _ e
 ·show(insertAt hs (below t.place 53#ne) h).size<=t.mask
  rw[oH _ _ _ hb];exact hr
 ·have c:(insertAt hs (below t.place 53#ne) h)[k]?=some h':=e1
  rw[fj _ _ _ hb] at c;rw[g,fj _ _ _ f] at e2;rw[mk]
  by_cases o:k<below t.place 53#ne
  ·rw[TH o] at c e2
   obtain⟨n,a,b⟩:=T.path k j h' c e2;exact⟨n,a,fun m l=>d _ (b m l)⟩
  ·rw[TJ o] at c e2
   by_cases p:k=below t.place 53#ne
   ·rw[TH p] at c e2
    cases c;cases e2;exact⟨ne,rfl,fun m l=>d _ (hm m l)⟩
   ·rw[TJ p] at c e2
    obtain⟨n,a,b⟩:=T.path (k-1) j h' c e2;exact⟨n,a,fun m l=>d _ (b m l)⟩
end
def B8(finger moves:Nat)(led:Bool):Tb (SetTable.fresh finger moves led) #[]:=
 ⟨fun i j a b h=>by simp[SetTable.fresh] at h,rfl,rfl,fun i j h=>by simp[SetTable.fresh] at h,B5,show 7%2=1 from rfl,show 0<=7 from AL _,fun k j h e=>by simp at e⟩
end STb
end
section
namespace STb
open PySem PySem.SetTable
def Own(owner:Array 66#Nat)(j:Nat):Prop:=∃q,owner[j]?=some 55#q
noncomputable def dO(mask:Nat)(h:Int):Nat->Nat
 |0=>0
 |r+1=>dO mask h r+3#11+1
def KQ(mask:Nat)(h:Int){r R:Nat}(hr:r<=R):dO mask h r<=dO mask h R:=by
 induction hr with
 |refl=>exact Ag _
 |step _ ih=>exact AG ih (by show _<=dO mask h _+_+1;lia)
def B9(mask:Nat)(h:Int):∀r,pr mask h (dO mask h r)={j:=(50#r).1,more:=runEnd mask (50#r).1-(50#r).1,i:=(50#r).1,perturb:=(50#r).2,dummy:=none}
 |0=>rfl
 |r+1=>by
  show fZ mask 83#(dO mask h r+3#11)=_;rw[ro mask h (B9 mask h r) _ 0#10];unfold fZ;rw[TJ (by show ¬(runEnd mask (50#r).1-(50#r).1-3#11>0);lia)]
  rfl
def B_{owner:Array 66#Nat}{mask j:Nat}(hz:owner.size=mask+1)(b:j<=mask):(owner.getD j 55#0).isNone=true↔¬Own owner j:=by
 have a:j<owner.size:=ω
 have e:owner.getD j 55#0=owner[j]:=by simp[Array.getD,a]
 have e2:owner[j]?=some owner[j]:=getElem?_pos owner j a;rw[e];constructor
 ·intro h ⟨q,hq⟩
  rw[e2] at hq;rw[Ai hq] at h;cases h
 ·intro h
  cases c:owner[j] with
  |none=>rfl
  |some q=>exact absurd ⟨q,by rw[e2,c]⟩ h
def KR{mask:Nat}{owner:Array 66#Nat}(hz:owner.size=mask+1)(h:Int){ne R:Nat}(he:¬Own owner (pos mask h ne))(hm:∀m,m<ne->Own owner (pos mask h m))(hR:ne<=dO mask h R):∀(fuel r:Nat),dO mask h r<=ne->R<r+fuel->layClean.free mask owner fuel (50#r).1 (50#r).2=some (pos mask h ne):=by
 intro fuel
 induction fuel with
 |zero=>
  intro r h1 h2;have q:=KQ mask h (r:=R+1) (R:=r) ω;have:dO mask h (R+1)=dO mask h R+(runEnd mask (50#R).1-(50#R).1)+1:=rfl;lia
 |succ fuel ih=>
  intro r f hr;have walk:=ro mask h (B9 mask h r);have b:∀k,k<=runEnd mask (50#r).1-(50#r).1->pos mask h (dO mask h r+k)=(50#r).1+k:=fun k hk=>by
   unfold pos;rw[walk k hk]
  have d:(50#r).1<=runEnd mask (50#r).1:=by unfold runEnd;split<;>lia
  have a:∀k,k<=runEnd mask (50#r).1-(50#r).1->(lp mask h r).1+k<=mask:=fun k hk=>by rw[<-b k hk];exact eU _ _ _
  show(match (AO (runEnd mask (50#r).1+1-(50#r).1)).find? (fun k=>(owner.getD ((50#r).1+k) 55#0).isNone) with
   |some k=>some ((50#r).1+k)
   |none=>layClean.free mask owner fuel (leap mask (50#r).1 (50#r).2).1 (leap mask (50#r).1 (50#r).2).2)=_
  by_cases e:ne<=dO mask h r+3#11
  ·have c:(AO (runEnd mask (50#r).1+1-(50#r).1)).find? (fun k=>(owner.getD ((50#r).1+k) 55#0).isNone)=some (ne-dO mask h r):=by
    rw[List.find?_range_eq_some];refine⟨?_,Qn.mpr ω,fun k hk=>?_⟩
    ·show(owner.getD ((50#r).1+(ne-dO mask h r)) 55#0).isNone=true
     rw[B_ hz (a _ ω),<-b _ ω,show dO mask h r+(ne-dO mask h r)=ne from ω];exact he
    ·have q:¬(owner.getD ((50#r).1+k) 55#0).isNone=true:=by
      rw[B_ hz (a _ ω),<-b k ω];exact fun z=>z (hm _ ω)
     rw[Bool.not_eq_true] at q;rw[q]
     rfl
   rw[c];dsimp only;rw[<-b _ ω,show dO mask h r+(ne-dO mask h r)=ne from ω]
  ·have c:(AO (runEnd mask (50#r).1+1-(50#r).1)).find? (fun k=>(owner.getD ((50#r).1+k) 55#0).isNone)=none:=by
    rw[Ry];intro k hk;have hk':=Qn.mp hk;rw[B_ hz (a _ ω),<-b k ω];exact fun z=>z (hm _ ω)
   rw[c];dsimp only;refine ih (r+1) ?_ ω;show dO mask h r+3#11+1<=ne;lia
structure Lay(mask:Nat)(ai:List Int)(owner:Array 66#Nat)(k:Nat):Prop where
 size:owner.size=mask+1
 all:∀q:Nat,q<k->∃j:Nat,owner[j]?=some 55#q
 back:∀j q:Nat,owner[j]?=some 55#q->q<k
 one:∀(i j q:Nat),owner[i]?=some 55#q->owner[j]?=some 55#q->i=j
 path:∀(j q:Nat)(h:Int),owner[j]?=some 55#q->ai[q]?=some h->∃n,pos mask h n=j/\∀m,m<n->Own owner (pos mask h m)
def Lay.room{mask:Nat}{k:Nat}(L:Lay mask g owner k)(hk:k<=mask):∃x,x<=mask/\¬Own owner x:=by
 apply A1;intro d;have all:∀x,x<=mask->∃q,q<k/\owner[x]?=some 55#q:=fun x hx=>by
  have:Own owner x:=A1 fun q=>d ⟨x,hx,q⟩;obtain⟨q,e⟩:=this;exact⟨q,L.back x q e,e⟩
 have sub:((AO (mask+1)).map fun x=>(owner.getD x none).getD 0) ⊆ AO k:=fun y hy=>by
  obtain⟨x,hx,e⟩:=Qi.mp hy;obtain⟨q,hq,e2⟩:=all x (Q0.mp (Qn.mp hx));rw[Rv,e2] at e;subst e;exact Qn.mpr hq
 have f:((AO (mask+1)).map fun x=>(owner.getD x none).getD 0).Nodup:=by
  refine RC.mpr (Tc.mpr ?_);refine List.Pairwise.imp_of_mem ?_ (RC.mp (R7 (n:=mask+1)));intro a b ha hb c e;obtain⟨q,_,e1⟩:=all a (Q0.mp (Qn.mp ha));obtain⟨p,_,e2⟩:=all b (Q0.mp (Qn.mp hb));simp only[Rv,e1,e2,Rh] at e;subst e;exact c (L.one a b q e1 e2)
 have:=f.length_le_of_subset sub;rw[Ab,BE,BE] at this;lia
def KS{owner:Array 66#Nat}{mask j k:Nat}(hz:owner.size=mask+1)(a:j<=mask)(i:Nat):(owner.setIfInBounds j 55#k)[i]?=if i=j then some 55#k else owner[i]?:=by
 by_cases q:i=j
 ·subst q
  rw[TH rfl,Array.getElem?_setIfInBounds_self_of_lt ω]
 ·rw[TJ q,Array.getElem?_setIfInBounds_ne 72#q]
def Lay.step{mask:Nat}{k:Nat}(hc:Cov mask)(L:Lay mask c owner k)(hk:k<=mask)(r:c[k]?=some h):∃j,layClean.free mask owner (turns mask) (bits h%(mask+1)) (bits h)=some j/\Lay mask c (owner.setIfInBounds j 55#k) (k+1):=by
 obtain⟨x,hx,fx⟩:=L.room hk;obtain⟨d,hd,e⟩:=hc (50#13).1 x (Ff mask h 13) hx;have o:pos mask h (dO mask h (13+d))=x:=by
  unfold pos;rw[B9];show(lp mask h (13+d)).1=x;rw[B2,e]
 obtain⟨ne,h1,h2,l⟩:=least (P:=fun m=>¬Own owner (pos mask h m)) (dO mask h (13+d)) (by rw[o];exact fx);have hm:∀m,m<ne->Own owner (pos mask h m):=fun m q=>A1 fun z=>l m q z;refine⟨pos mask h ne,KR L.size h h2 hm h1 (turns mask) 0 (AL _) (by unfold turns;lia),?_⟩;have p:pos mask h ne<=mask:=eU _ _ _;have sg:=KS (k:=k) L.size p;have own:∀i,Own owner i->Own (owner.setIfInBounds (pos mask h ne) 55#k) i:=fun i ⟨q,e⟩=>by
  by_cases z:i=pos mask h ne
  ·exact⟨k,by rw[sg,TH z]⟩
  ·exact⟨q,by rw[sg,TJ z];exact e⟩
 refine⟨by rw[Array.size_setIfInBounds];exact L.size,fun q hq=>?_,fun j q e=>?_,fun i j q e1 e2=>?_,fun j q h' e1 e2=>?_⟩
 ·by_cases z:q=k
  ·exact⟨pos mask h ne,by rw[sg,TH rfl,z]⟩
  ·obtain⟨j,f⟩:=L.all q ω
   refine⟨j,?_⟩;rw[sg,TJ fun w=>h2 ⟨q,by rw[<-w];exact f⟩];exact f
 ·rw[sg] at e
  by_cases z:j=pos mask h ne
  ·rw[TH z] at e;cases e;lia
  ·rw[TJ z] at e;have:=L.back j q e;lia
 ·rw[sg] at e1 e2
  by_cases g:i=pos mask h ne
  ·rw[TH g] at e1;cases e1
   by_cases z2:j=pos mask h ne
   ·lia
   ·rw[TJ z2] at e2;have:=L.back j k e2;lia
  ·rw[TJ g] at e1
   by_cases z2:j=pos mask h ne
   ·rw[TH z2] at e2;cases e2;have:=L.back i k e1;lia
   ·rw[TJ z2] at e2;exact L.one i j q e1 e2
 ·rw[sg] at e1
  by_cases z:j=pos mask h ne
  ·rw[TH z] at e1;cases e1
   rw[r] at e2;cases e2;exact⟨ne,z.symm,fun m q=>own _ (hm m q)⟩
  ·rw[TJ z] at e1
   obtain⟨n,a,b⟩:=L.path j q h' e1 e2;exact⟨n,a,fun m q=>own _ (b m q)⟩
def Lay.nil(mask:Nat)(b:List Int):Lay mask b (Array.replicate (mask+1) none) 0:=by
 have a:∀(j q:Nat),(Array.replicate (mask+1) (none:Option Nat))[j]?=some 55#q->False:=fun j q e=>by
  rw[Array.getElem?_replicate] at e;split at e<;>cases e
 exact⟨by simp,fun q h=>absurd h (RG _),fun j q e=>(a j q e).elim,fun i j q e=>(a i q e).elim,fun j q h e=>(a j q e).elim⟩
def KU{mask:Nat}(hc:Cov mask)(c:Array Int)(hk:c.size<=mask+1):∃owner,layClean mask c=some owner/\Lay mask c.toList owner c.size:=by
 have go:∀(rest:List Int)(owner:Array 66#Nat)(k:Nat),Lay mask c.toList owner k->c.toList.drop k=rest->
   ∃f,(rest.foldl (fun acc h=>do
    let (owner,k) <-acc
    let j <-layClean.free mask owner (turns mask) (bits h%(mask+1)) (bits h)
    pure (owner.setIfInBounds j 55#k,k+1)) 55#(owner,k))=some (f,k+rest.length)/\Lay mask c.toList f (k+rest.length):=by
  intro rest
  induction rest with
  |nil=>intro owner k L _;exact⟨owner,rfl,L⟩
  |cons h rest ih=>
   intro owner k L e;have d:k<c.toList.length:=by
    rcases QM k c.toList.length with q|q
    ·exact q
    ·rw[List.drop_eq_nil_of_le q] at e;cases e
   have i:c.toList[k]?=some h:=by
    rw[RE d] at e;injection e with e1 _
    rw[Ae d,e1]
   have l:c.toList.drop (k+1)=rest:=by
    rw[RE d] at e;injection e
   rw[AD] at d;obtain⟨j,g,L'⟩:=L.step hc ω i;obtain⟨o',a,b⟩:=ih (owner.setIfInBounds j 55#k) (k+1) L' l;refine⟨o',?_,?_⟩
   ·rw[Q1]
    show List.foldl _ (layClean.free mask owner (turns mask) (bits h%(mask+1)) (bits h) >>= fun j=>pure (owner.setIfInBounds j 55#k,k+1)) rest=_;rw[g];show List.foldl _ 55#(owner.setIfInBounds j (some k),k+1) rest=_;rw[a,AB,show k+1+rest.length=k+(rest.length+1) from ω]
   ·rw[AB,show k+(rest.length+1)=k+1+rest.length from ω]
    exact b
 obtain⟨o,a,b⟩:=go c.toList _ 0 (Lay.nil mask _) rfl;rw[RI,AD] at a b;refine⟨o,?_,b⟩;unfold layClean;rw[<-Array.foldl_toList,a]
 rfl
noncomputable def c9(owner:Array 66#Nat)(n:Nat):List (Nat×Nat):=(AO n).filterMap fun j=>(owner.getD j none).map (j,·)
def jq{n:Nat}{x:Nat×Nat}:x∈c9 owner n↔x.1<n/\owner[x.1]?=some (some x.2):=by
 unfold c9;rw[SV];constructor
 ·rintro⟨j,a,e⟩
  rw[Qr] at e;obtain⟨q,e1,rfl⟩:=e;refine⟨Qn.mp a,?_⟩;rw[Rv] at e1;cases c:owner[j]? with
  |none=>rw[c] at e1;cases e1
  |some v=>rw[c] at e1;simp only[Rh] at e1;rw[e1]
 ·rintro⟨h1,h2⟩
  refine⟨x.1,Qn.mpr h1,?_⟩;rw[Rv,h2]
  rfl
def Fj(owner:Array 66#Nat)(n:Nat):(c9 owner n).Pairwise fun x y=>x.1<y.1:=by
 unfold c9;refine List.Pairwise.filterMap (S:=fun x y:Nat×Nat=>x.1<y.1) _ ?_ (List.pairwise_lt_range (n:=n));intro a c h b hb d hb';rw[Qr] at hb hb';obtain⟨_,_,rfl⟩:=hb;obtain⟨_,_,rfl⟩:=hb';exact h
def KW{mask:Nat}{k:Nat}(L:Lay mask p owner k):(1#7).length=k/\((1#7).map 0#17).Nodup:=by
 have d:((1#7).map 0#17).Nodup:=by
  refine RC.mpr (Tc.mpr ?_);refine List.Pairwise.imp_of_mem ?_ (Fj owner (mask+1));intro a b ha hb f e;have h1:=(jq.mp ha).2;have h2:=(jq.mp hb).2;rw[<-e] at h2;have:=L.one _ _ _ h1 h2;lia
 refine⟨?_,d⟩;have g:(1#7).map 0#17 ⊆ AO k:=fun q hq=>by
  obtain⟨x,hx,rfl⟩:=Qi.mp hq;exact Qn.mpr (L.back _ _ (jq.mp hx).2)
 have h:AO k ⊆ (1#7).map 0#17:=fun q hq=>by
  obtain⟨j,c⟩:=L.all q (Qn.mp hq);have i:j<mask+1:=by rw[<-L.size];exact(Qs.mp c).1
  exact Qi.mpr ⟨(j,q),jq.mpr ⟨i,c⟩,rfl⟩
 have l:=d.length_le_of_subset g;have o:=(R7 (n:=k)).length_le_of_subset h;rw[Ab,BE] at l;rw[BE,Ab] at o;lia
def Fl{mask:Nat}(hc:Cov mask)(H:mask%2=1)(finger moves:Nat)(led plain:Bool)(c:Array Int)(hk:c.size<=mask):∃t d,laid mask finger moves led plain c=some (t,d)/\t.mask=mask/\t.led=led/\t.plain=plain/\d.size=c.size/\d.toList.Nodup/\(∀q∈d.toList,q<c.size)/\
   Tb t (d.map fun q=>(c[q]?).getD 0):=by
 obtain⟨owner,e,L⟩:=KU hc c ω;obtain⟨u,v⟩:=KW L;refine⟨_,_,by unfold laid;rw[e];exact rfl,rfl,rfl,rfl,?_,?_,?_,?_⟩
 ·show((1#7).map 0#17).toArray.size=_
  rw[Aj,Ab,u]
 ·exact v
 ·intro q hq
  obtain⟨x,hx,rfl⟩:=Qi.mp (show q∈(c9 owner (mask+1)).map 0#17 from hq);exact L.back _ _ (jq.mp hx).2
 ·have f:∀i:Nat,(((1#7).map 2#3).toArray)[i]?=((1#7)[i]?).map 2#3:=fun i=>by
   rw[RW,Ah]
  have C:∀i:Nat,(((1#7).map 0#17).toArray)[i]?=((1#7)[i]?).map 0#17:=fun i=>by
   rw[RW,Ah]
  have p:∀j,Own owner j->∃i:Nat,(((1#7).map 2#3).toArray)[i]?=some j:=fun j ⟨q,g⟩=>by
   have o:j<mask+1:=by rw[<-L.size];exact(Qs.mp g).1
   obtain⟨i,hi,w⟩:=QH.mp (jq.mpr ⟨o,g⟩:(j,q)∈c9 owner (mask+1));exact⟨i,by rw[f,Ae hi,w];rfl⟩
  refine⟨fun i j a b ha hb l=>?_,rfl,?_,fun i j g=>?_,hc,H,?_,fun k j h e1 e2=>?_⟩
  ·have D:((1#7)[i]?).map 2#3=some a:=by rw[<-f];exact ha
   have hb':((1#7)[j]?).map 2#3=some b:=by rw[<-f];exact hb
   obtain⟨x,ex,rfl⟩:=Qr.mp D;obtain⟨y,A,rfl⟩:=Qr.mp hb';obtain⟨hi,rfl⟩:=BK.mp ex;obtain⟨o,rfl⟩:=BK.mp A;exact Qq.mp (Fj owner (mask+1)) i j hi o l
  ·show((1#7).map 2#3).toArray.size=(Array.map _ ((1#7).map 0#17).toArray).size
   rw[Bb,Aj,Aj,Ab,Ab]
  ·have E:((1#7)[i]?).map 2#3=some j:=by rw[<-f];exact g
   obtain⟨x,ex,rfl⟩:=Qr.mp E;exact Q0.mp (jq.mp (Ak ex)).1
  ·show(Array.map _ ((1#7).map 0#17).toArray).size<=mask
   rw[Bb,Aj,Ab,u];exact hk
  ·have F:((1#7)[k]?).map 2#3=some j:=by rw[<-f];exact e2
   obtain⟨x,ex,rfl⟩:=Qr.mp F;have r:(Array.map (fun q=>(c[q]?).getD 0) ((1#7).map 0#17).toArray)[k]?=some h:=e1;rw[QJ,C,ex] at r;have hx:=(jq.mp (Ak ex)).2;have hq:=L.back _ _ hx;have G:c.toList[x.2]?=some h:=by
    rw[AJ];have:c[x.2]?=some c[x.2]:=getElem?_pos c x.2 hq;simp only[Bi,this,Rh] at r;rw[this,Ai r]
   obtain⟨n,a,b⟩:=L.path x.1 x.2 h hx G;exact⟨n,a,fun m hm=>p _ (b m hm)⟩
end STb
end
section
namespace STb
open PySem PySem.SetTable
section
variable{prog:Program}{w:World}{K:Type}[DecidableEq K]{knd:KeyKind prog w K}{A:Around}{E:Ω}{s:Shared}
def fits_of{t:SetTable}{es:Array 3#16}(T:Tb t 1#13):t.fits es.size=true:=by
 have h1:=T.size;have h2:=T.room;rw[Bb] at h1 h2;unfold SetTable.fits SetTable.fill;rw[T.dum,h1];simp;exact h2
def KY(n:Nat)(h:carriedByValue v=true):ofAClassStatement n v=pure false:=by
 cases v with
 |ref a=>simp[carriedByValue] at h
 |_=>cases n<;>rfl
def Fm{Q:Bool->Shared->Prop}(hk:AM knd s.heap ks b)(h:Q false s):wpAny 0#0 A (ofAClassStatement 8 5#b) Q E s:=by
 have hT:=hk.typeIs;obtain⟨o,d,n,e,_,hd,hi⟩:=hk;unfold ofAClassStatement;refine Aa (wpAny_typeOf hT ?_);show wpAny _ _ ((if("tuple" == "tuple")=true then pure true else isSubtype (.type "tuple") (.type "tuple")) >>= _) _ _ s;rw[TH ξ];refine Aa 1#5;simp only[Bv,Am,if_false];refine Aa (BB e hd ?_);refine Aa ?_;show wpAny _ _ (forIn d _ _) _ _ s;rw[<-RT];refine wpAny_forIn_list _ (fun rest r s'=>r.1=none/\s'=s/\∀v∈rest,carriedByValue v=true) _ ?_ ?_ _ _ ⟨rfl,rfl,hi.byValue⟩
 ·rintro v rest r s' ⟨hr,rfl,a⟩
  rw[KY _ (a v Av)];refine Aa 1#5;simp only[Am,if_false];exact Ac ⟨rfl,rfl,fun u c=>a u (Ar _ c)⟩
 ·rintro⟨f,g⟩ s' ⟨hr,rfl,_⟩
  simp only at hr;subst hr;exact Ac h
def KZ{ys:List Value}{Q:Bool->Shared->Prop}(hk:AM knd s.heap ks b)(hy:∀y∈ys,∃d c,y=.ref c/\AM knd s.heap d c)(h:Q false s):wpAny 0#0 A (searchCouldBeSeen 5#b ys) Q E s:=by
 unfold searchCouldBeSeen;refine Aa ?_;refine wpAny_forIn_list _ (fun rest r s'=>r.1=none/\s'=s/\∀y∈rest,∃d c,y=.ref c/\AM knd s.heap d c) _ ?_ ?_ _ _ ⟨rfl,rfl,hy⟩
 ·rintro v rest r s' ⟨hr,rfl,a⟩
  obtain⟨d,c,rfl,hc⟩:=a v Av;have nx:∀u∈rest,∃d c,u=.ref c/\AM knd s'.heap d c:=fun u e=>a u (Ar _ e);dsimp only;split
  ·exact Ac ⟨rfl,rfl,nx⟩
  ·refine Aa (wpAny_eqIsQuiet_tuple hk ?_)
   simp only[Bv,Am,if_false];refine Aa (wpAny_eqIsQuiet_tuple hc ?_);simp only[Bv,Am,if_false];refine Aa (Fm hk ?_);simp only[Am,if_false];refine Aa (Fm hc ?_);simp only[Am,if_false];exact Ac ⟨rfl,rfl,nx⟩
 ·rintro⟨f,g⟩ s' ⟨hr,rfl,_⟩
  simp only at hr;subst hr;exact Ac h
structure TS(knd:KeyKind prog w K)(h:Heap)(S:Addr)(o:Obj)(es:Array 3#16)(ep:Nat)(t:SetTable)(ks:List (List K))(B:List Addr):Prop where
 at_:h.get? S=some o
 ex:o.ExactSet
 dt:o.data=.set es ep t
 tb:Tb t 1#13
 sz:es.size=ks.length
 nd:ks.Nodup
 el:∀e∈es.toList,∃k b,k∈ks/\e=0#4/\AM knd h k b
 ke:∀k∈ks,∃b,0#4∈es.toList/\AM knd h k b
 msk:(t.mask=7/\es.size<=4)\/(t.mask=31/\es.size<=18)\/(t.mask=127/\es.size<=76)\/(t.mask=15/\es.size<=8)\/(t.mask=63/\es.size<=37)\/(t.mask=255/\es.size<=152)
 ad:∀e∈es.toList,∃b∈B,e.2=Value.ref b
 wk:w.params.followText "set-order"=true\/0#15
def Fq{B:List Addr}{t:SetTable}(X:TS knd s.heap S o es ep t ks B)(hu:A.units<cLine){k:List K}(hk:AM knd s.heap k b){ne:Nat}(G:ne<10*turns t.mask)(he:¬Occ t (pos t.mask 4#16 ne))(hm:∀m,m<ne->Occ t (pos t.mask 4#16 m)){add:Bool}{Q:SetFound->Shared->Prop}(h1:k∈ks->∀r:Option Nat,(add=false->r.isSome=true)->Q (.there r) s)(h2:k∉ks->Q (.free (pos t.mask 4#16 ne) false) s):∀(fuel n:Nat)(g:Option Probe),ne<n+fuel->n<=ne->g.getD (t.probeStart 4#16)=pr t.mask 4#16 n->
   (∀(m i:Nat)(c:Addr),m<n->t.place[i]?=some (pos t.mask 4#16 m)->es[i]?=some (Au knd k,Value.ref c)->¬AM knd s.heap k c)->
   wpAny 0#0 A (setSearchFrom S 5#b 4#16 add fuel g) Q E s:=by
 have T:=X.tb;have x:=fits_of T;have hA:∀i:Nat,(1#13)[i]?=(es[i]?).map 2#3:=fun i=>QJ ..;intro fuel
 induction fuel with
 |zero=>intro n g L H _ _;lia
 |succ fuel ih=>
  intro n g L H M I;unfold setSearchFrom;refine Aa (Bd X.at_ X.dt x ?_);dsimp only;have gw:t.gaveWay=false:=by
   unfold SetTable.gaveWay;rw[T.odd]
   rfl
  rw[gw];simp only[Am,if_false];rw[M];rcases probe_spec T (hashAt:=fun i=>((es[i]?).map 2#3).getD 0) G he hm H with ⟨iY,none_⟩|⟨N,i,b1,b2,b3,b4,b5,b6⟩
  ·have lY:t.probe (fun i=>((es[i]?).map 2#3).getD 0) 4#16 (pr t.mask 4#16 n)=some (.empty (pos t.mask 4#16 ne) none):=iY
   show wpAny _ _ (match t.probe (fun i=>((es[i]?).map 2#3).getD 0) 4#16 (pr t.mask 4#16 n) with|some met=>_|_=>_) _ _ s;rw[lY];dsimp only;refine Ac (h2 fun l=>?_);obtain⟨c,O,P⟩:=X.ke k l;obtain⟨i,hi,a⟩:=QH.mp O;have C:es[i]?=some (Au knd k,.ref c):=by
    rw[<-AJ,Ae hi,a]
   have D:i<t.place.size:=by rw[T.size,Bb];simpa using hi
   have F:t.place[i]?=some t.place[i]:=getElem?_pos t.place i D;obtain⟨N,U,J⟩:=KP T he (k:=i) (by rw[hA,C];rfl) F;rcases QM N n with q|q
   ·exact I N i c q (by rw[J];exact F) C P
   ·exact none_ N i q U (by rw[J];exact F) (by show((es[i]?).map 2#3).getD 0=_;rw[C];rfl)
  ·show wpAny _ _ (match t.probe (fun i=>((es[i]?).map 2#3).getD 0) 4#16 (pr t.mask 4#16 n) with|some met=>_|_=>_) _ _ s
   rw[b5];dsimp only;have hi:i<es.size:=by
    have:=(Qs.mp b3).1;rw[T.size,Bb] at this;exact this
   have a:es[i]?=some es[i]:=getElem?_pos es i hi;obtain⟨j,c,hk',W,hc⟩:=X.el es[i] 2#0;rw[W] at a;have eh:Au knd j=Au knd k:=by
    have:((es[i]?).map 2#3).getD 0=Au knd k:=b4;rw[a] at this;exact this
   rw[eh] at a;have sm:t.sameMemory t.moves t.mask=some true:=by unfold SetTable.sameMemory;rw[TH 2#0]
   have d:j≠k->wpAny 0#0 A (setSearchFrom S 5#b 4#16 add fuel 55#(pr t.mask 4#16 (N+1))) Q E s:=fun eq=>by
    refine ih (N+1) _ ω ω rfl fun m i2 p q1 u h q4=>?_;rcases QM m n with z|z
    ·exact I m i2 p z u h q4
    ·rcases QM m N with z2|z2
     ·exact b6 m i2 z z2 u (by show((es[i2]?).map 2#3).getD 0=_;rw[h];rfl)
     ·have:m=N:=ω
      subst this;have:=T.ris.inj u b3;subst this;rw[a] at h;cases h;exact eq (IsTupleKey.inj hc q4)
   cases led:t.led
   all_goals simp only[Bv,Sz,Am,if_true,if_false]
   ·refine Aa (KZ hk (fun y hy=>?_) ?_)
    ·obtain⟨e,f,rfl⟩:=Qi.mp hy
     rw[Array.toList_filter] at f;obtain⟨Y,p,_,e2,v⟩:=X.el e (Qv.mp f).1;exact⟨Y,p,by rw[e2],v⟩
    simp only[Am,if_false];rw[a];refine Aa (AH (wpAny_eqBool_tuple hu hc hk ?_));refine Aa (Bd X.at_ X.dt x ?_)
    by_cases eq:j=k
    ·subst eq
     cases add
     ·simp only[decide_true,Rx,Am,if_false]
      rw[sm];simp only[if_true];rw[mw T b3];dsimp only;rw[a];refine Aa (wpAny_isSame_ref_self (Aa 1#5));simp only[if_true];exact Ac (h1 hk' _ fun _=>rfl)
     ·simp only[decide_true,Tf,if_true]
      exact Ac (h1 hk' _ fun z=>by cases z)
    ·rw[TL eq]
     simp only[Rl,Am,if_false];rw[sm];simp only[if_true];rw[mw T b3];dsimp only;rw[a];refine Aa (wpAny_isSame_ref_self (Aa 1#5));simp only[if_true];exact d eq
   ·rw[a]
    refine Aa (AH (wpAny_eqBool_tuple hu hc hk ?_));refine Aa (Bd X.at_ X.dt x ?_)
    by_cases eq:j=k
    ·subst eq
     cases add
     ·simp only[decide_true,Rx,Am,if_false]
      rw[sm];simp only[if_true];rw[mw T b3];dsimp only;rw[a];refine Aa (wpAny_isSame_ref_self (Aa 1#5));simp only[if_true];exact Ac (h1 hk' _ fun _=>rfl)
     ·simp only[decide_true,Tf,if_true]
      exact Ac (h1 hk' _ fun z=>by cases z)
    ·rw[TL eq]
     simp only[Rl,Am,if_false];rw[sm];simp only[if_true];rw[mw T b3];dsimp only;rw[a];refine Aa (wpAny_isSame_ref_self (Aa 1#5));simp only[if_true];exact d eq
end
end STb
end
section
namespace STb
open PySem PySem.SetTable
section
variable{prog:Program}{w:World}{K:Type}[DecidableEq K]{knd:KeyKind prog w K}{A:Around}{E:Ω}{s:Shared}
def js{k:List K}{es ep t}(hk:AM knd h k b)(f:h.get? S=some o)(hd:o.data=.set es ep t)(hs:AU S h h'):AM knd h' k b:=by
 obtain⟨o',e,n,c,hc,a,hi⟩:=hk;have d:b≠S:=by
  rintro rfl;obtain rfl:o'=o:=Ai (c.symm.trans f);rw[hd] at a;exact nomatch a
 exact⟨o',e,n,(hs.2 b d).trans c,hc,a,hi⟩
def K0{Q:Bool->Shared->Prop}(f:∀k v n,knd.is k v=true->hashByValue n v=pure true)(hk:AM knd s.heap ks b)(h:Q true s):wpAny 0#0 A (hashByValue 8 5#b) Q E s:=by
 have hT:=hk.typeIs;obtain⟨o,d,n,e,_,hd,hi⟩:=hk;unfold hashByValue;refine Aa (wpAny_specialOf hT F.slot_tuple_hash.lookup ?_);dsimp only;refine Aa (BB e hd ?_);refine Aa ?_;show wpAny _ _ (forIn d _ _) _ _ s;rw[<-RT];refine wpAny_forIn_list _ (fun rest r s'=>r.1=none/\s'=s/\∃c,ItemsAre knd c rest) _ ?_ ?_ _ _ ⟨rfl,rfl,ks,hi⟩
 ·rintro v rest r s' ⟨hr,rfl,c,a⟩
  cases a with
  |@cons k _ ks'' _ h1 h2=>
   rw[f k v 7 h1];refine Aa 1#5;simp only[Bv,Am,if_false];exact Ac ⟨rfl,rfl,ks'',h2⟩
 ·rintro⟨g,i⟩ s' ⟨hr,rfl,_⟩
  simp only at hr;subst hr;exact Ac h
def rz{h:Heap}{t:SetTable}(a:h.get? S=some o)(hd:o.data=.set es ep t):(h.update S (Obj.putSet es' t')).get? S=some {o with data:=.set es' (ep+1) t'}:=by
 have:=Heap.get?_update_self (Obj.putSet es' t') a (by rw[putSet_of es' t' hd];rfl);rw[putSet_of es' t' hd] at this;exact this
def B'{b:Type}{es:Array b}:∀{l:List Nat},(∀q∈l,q<es.size)->∃a:List b,l.filterMap (es[·]?)=a/\a.length=l.length/\(∀x∈a,x∈es.toList)/\(∀(i q:Nat),l[i]?=some q->a[i]?=es[q]?)
 |[],_=>⟨[],rfl,rfl,(fun x hx=>by cases hx),(fun i q e=>by cases i<;>simp at e)⟩
 |q::l,h=>by
  obtain⟨a,e1,e2,e3,c⟩:=B' (l:=l) fun x hx=>h x (Ar _ hx);have hq:=h q Av;refine⟨es[q]::a,?_,by rw[AB,AB,e2],fun x hx=>?_,fun i p e=>?_⟩
  ·rw[R9,getElem?_pos es q hq,e1]
  ·rcases Qj.mp hx with rfl|hx
   ·simp
   ·exact e3 x hx
  ·cases i with
   |zero=>simp at e;subst e;simp[getElem?_pos es q hq]
   |succ i=>simp at e ⊢;exact c i p e
def Fu{B:List Addr}{t:SetTable}{ks:List (List K)}{want m2:Nat}(f:s.heap.get? S=some o)(hex:o.ExactSet)(hd:o.data=.set es ep t)(T:Tb t 1#13)(hsz:es.size=ks.length)(U:ks.Nodup)(ad:∀e∈es.toList,∃b∈B,e.2=Value.ref b)(W:∀e∈es.toList,∃k b,k∈ks/\e=0#4/\AM knd s.heap k b)(X:∀k∈ks,∃b,0#4∈es.toList/\AM knd s.heap k b)(hw:SetTable.sizeAbove want-1=m2)(Y:SetTable.sizeAbove want<=sizeLine)(hc:Cov m2)(ho:m2%2=1)(hr:es.size<=m2)(hz:es.size<=1000)(ui:(m2=7/\es.size<=4)\/(m2=31/\es.size<=18)\/(m2=127/\es.size<=76)\/(m2=15/\es.size<=8)\/(m2=63/\es.size<=37)\/(m2=255/\es.size<=152))(wk:w.params.followText "set-order"=true\/0#15){Q:Unit->Shared->Prop}(h:∀h' o' es' H t',TS knd h' S o' es' H t' ks B->AU S s.heap h'->Q () {s with heap:=h'}):wpAny 0#0 A (setRelay S want) Q E s:=by
 have O:=fits_of T;unfold setRelay;refine Aa (Bd f hd O ?_);dsimp only;rw[TJ (Nat.not_lt.mpr Y)];obtain⟨d,a,e1,e2,e3,I,l,J,g,L⟩:=Fl hc ho t.finger (t.movedTo m2) t.led t.plain 1#13 (by rw[Bb];exact hr);have P:t.relaid 1#13 want=some (d,a):=by
  unfold SetTable.relaid;rw[hw];exact e1
 rw[Bb] at l g;obtain⟨c,f1,f2,D,F⟩:=B' (es:=es) g;have G:a.filterMap (es[·]?)=c.toArray:=by
  apply Array.toList_inj.mp;rw[Array.toList_filterMap,f1]
 have j:c.length=es.size:=by rw[f2,AD,l]
 rw[P];refine Aa ?_;show wpAny _ _ (ite (((a.filterMap (es[·]?)).size != es.size)=true) _ _) _ _ _;rw[TJ (by rw[G,Aj,j];simp),G];refine Ac ?_;dsimp only;have v:(c.toArray.map 2#3)=a.map fun q=>((1#13)[q]?).getD 0:=by
  apply S6;intro i;rw[QJ,QJ,RW];cases q:a[i]? with
  |none=>
   have:a.toList.length<=i:=by rw[AD];exact R1.mp q
   rw[Bc ω]
   rfl
  |some p=>
   have e:=F i p (by rw[AJ];exact q);have hp:=g p (by rw[<-AJ] at q;exact Ak q);rw[e,getElem?_pos es p hp];simp[hp]
 have T2:Tb d (c.toArray.map 2#3):=by rw[v];exact L
 have y:∀q,q<es.size->q∈a.toList:=fun q hq=>A1 fun z=>by
  have C:(q::a.toList).Nodup:=Qo.mpr ⟨z,J⟩;have sub:(q::a.toList) ⊆ AO es.size:=fun x hx=>by
   rcases Qj.mp hx with rfl|hx
   ·exact Qn.mpr hq
   ·exact Qn.mpr (g x hx)
  have:=C.length_le_of_subset sub;rw[AB,AD,l,BE] at this;lia
 refine wpAny_storeSet_of f hd ?_ (by rw[Aj,j,Bp];lia);refine h _ {o with data:=.set c.toArray (ep+1) d} c.toArray (ep+1) d ?_ (AI ..);have sb:AU S s.heap (s.heap.update S (Obj.putSet c.toArray d)):=AI ..;refine⟨rz f hd,hex,rfl,T2,by rw[Aj,j];exact hsz,U,fun e he=>?_,fun k hk=>?_,?_,fun e he=>ad e (D e he),by rw[e3,I];exact wk⟩
 ·obtain⟨k,b,r,u,M⟩:=W e (D e he)
  exact⟨k,b,r,u,js M f hd sb⟩
 ·obtain⟨b,r,u⟩:=X k hk
  refine⟨b,?_,js u f hd sb⟩;obtain⟨q,hq,eq⟩:=QH.mp r;rw[AD] at hq;obtain⟨i,hi,N⟩:=QH.mp (y q hq);have e:=F i q (by rw[Ae hi,N]);refine Ak (i:=i) ?_;rw[e,<-eq];simp[hq]
 ·rw[e2,Aj,j]
  exact ui
def ins_map{a b:Type}(f:a->b)(xs:Array a)(p:Nat)(x:a)(hp:p<=xs.size):(insertAt xs p x).map f=insertAt (xs.map f) p (f x):=by
 apply S6;intro i;rw[QJ,fj _ _ _ hp,fj _ _ _ (by rw[Bb];exact hp),QJ,QJ]
 by_cases h1:i<p
 ·rw[TH h1,TH h1]
 ·rw[TJ h1,TJ h1]
  by_cases h2:i=p
  ·rw[TH h2,TH h2];rfl
  ·rw[TJ h2,TJ h2]
def ins_mem{a:Type}{xs:Array a}{p:Nat}{x y:a}(hp:p<=xs.size):y∈(insertAt xs p x).toList↔y=x\/y∈xs.toList:=by
 constructor
 ·intro h
  obtain⟨i,hi,e⟩:=QH.mp h;have e2:(insertAt xs p x)[i]?=some y:=by rw[<-AJ,Ae hi,e]
  rw[fj _ _ _ hp] at e2
  by_cases h1:i<p
  ·rw[TH h1,<-AJ] at e2;exact .inr (Ak e2)
  ·rw[TJ h1] at e2
   by_cases h2:i=p
   ·rw[TH h2] at e2;exact .inl (Ai e2).symm
   ·rw[TJ h2,<-AJ] at e2;exact .inr (Ak e2)
 ·rintro(rfl|h)
  ·refine Ak (i:=p) ?_
   rw[AJ,fj _ _ _ hp,TJ (QT _),TH rfl]
  ·obtain⟨i,hi,e⟩:=QH.mp h
   have e2:xs[i]?=some y:=by rw[<-AJ,Ae hi,e]
   by_cases h1:i<p
   ·refine Ak (i:=i) ?_
    rw[AJ,fj _ _ _ hp,TH h1];exact e2
   ·refine Ak (i:=i+1) ?_
    rw[AJ,fj _ _ _ hp,TJ ω,TJ ω,Sl];exact e2
def Fv{B:List Addr}{t:SetTable}(X:TS knd s.heap S o es ep t ks B)(hu:A.units<cLine)(hv:∀k v n,knd.is k v=true->hashByValue n v=pure true){k:List K}(hk:AM knd s.heap k b)(nY:b∈B)(hn:ks.length<60){Q:Bool->Shared->Prop}(h:∀(r:Bool) h' o' es' bv t',TS knd h' S o' es' bv t' (if k∈ks then ks else ks++[k]) B->AU S s.heap h'->Q r {s with heap:=h'}):wpAny 0#0 A (setAddHashed S 5#b 4#16) Q E s:=by
 unfold setAddHashed;refine AH ?_;have T:=X.tb;have bZ:=fits_of T;have X':TS knd s.heap S o es ep t ks B:=X;unfold setAddHashedIn;refine Aa (Bd (s:=s) X.at_ X.dt bZ ?_);dsimp only;have nb:byScan 5#b es=false:=rfl;rw[nb];simp only[Am,if_false];obtain⟨ne,J,he,hm⟩:=B6 T 4#16;refine Aa ?_;unfold setSearch;refine Fq (s:=s) X' hu hk J he hm (fun Y r0 _=>?_) (fun be=>?_) 100000 0 none ?_ (AL _) rfl (fun m i c fP=>absurd fP (RG _))
 ·dsimp only
  refine Ac (h false s.heap o es ep t ?_ (Heap.SameBut.refl ..));rw[TH Y];exact X
 ·dsimp only
  refine Aa (Bd (s:=s) X.at_ X.dt bZ ?_);dsimp only;have cx:(1#13).size+1<=t.mask:=by
   rw[Bb];rcases X.msk with ⟨a,b⟩|⟨a,b⟩|⟨a,b⟩|⟨a,b⟩|⟨a,b⟩|⟨a,b⟩<;>lia
  obtain⟨G,p2,I⟩:=Fh T he hm cx;rw[Bb] at G;obtain⟨j,p,cX⟩:∃j p,t.put (pos t.mask 4#16 ne)=(j,p):=⟨_,_,rfl⟩;rw[cX] at G p2 I ⊢;dsimp only at G p2 I ⊢;have C:k∉ks:=be;have H:(insertAt es p 0#4).size=es.size+1:=oH _ _ _ G;have L:=X.sz;have bV:es.size<60:=ω
  have M:∀d:SetTable,Tb d (insertAt 1#13 p 4#16)->d.mask=t.mask->wpAny 0#0 A (storeSet S (insertAt es p 0#4) d)
    (fun _ s'=>∃h',s'={s with heap:=h'}/\h'.get? S=some {o with data:=.set (insertAt es p 0#4) (ep+1) d}/\AU S s.heap h') E s:=fun d T2 m2=>
   wpAny_storeSet_of (s:=s) X.at_ X.dt ⟨_,rfl,rz X.at_ X.dt,AI ..⟩ (by rw[H,Bp];lia)
  have N:(insertAt es p 0#4).map 2#3=insertAt 1#13 p 4#16:=ins_map 2#3 es p _ G;have kq:(ks++[k]).Nodup:=by
   rw[BD];refine⟨X.nd,by simp,fun x hx y hy=>?_⟩;rw[Qk.mp hy];exact fun z=>C (z▸hx)
  have O:∀h',AU S s.heap h'->∀e∈(insertAt es p 0#4).toList,∃F u,F∈ks++[k]/\e=(Au knd F,Value.ref u)/\AM knd h' F u:=fun h' g e he=>by
   rcases(ins_mem G).mp he with rfl|he
   ·exact⟨k,b,by simp,rfl,js hk X.at_ X.dt g⟩
   ·obtain⟨F,u,a1,a2,a3⟩:=X.el e he
    exact⟨F,u,Rk _ a1,a2,js a3 X.at_ X.dt g⟩
  have P:∀h',AU S s.heap h'->∀F∈ks++[k],∃u,(Au knd F,Value.ref u)∈(insertAt es p 0#4).toList/\AM knd h' F u:=fun h' g F hk'=>by
   rcases Qm.mp hk' with hk'|hk'
   ·obtain⟨u,a1,a2⟩:=X.ke F hk'
    exact⟨u,(ins_mem G).mpr (.inr a1),js a2 X.at_ X.dt g⟩
   ·rw[Qk.mp hk']
    exact⟨b,(ins_mem G).mpr 4#18,js hk X.at_ X.dt g⟩
  have U:∀e∈(insertAt es p 0#4).toList,∃u∈B,e.2=Value.ref u:=fun e he=>by
   rcases(ins_mem G).mp he with rfl|he
   ·exact⟨b,nY,rfl⟩
   ·exact X.ad e he
  have D:∀(d:SetTable)(h':Heap),Tb d (insertAt 1#13 p 4#16)->d.mask=t.mask->(w.params.followText "set-order"=true\/(d.led=true/\d.plain=true))->h'.get? S=some {o with data:=.set (insertAt es p 0#4) (ep+1) d}->AU S s.heap h'->
    wpAny 0#0 A 1#10 Q E {s with heap:=h'}:=fun d h' T2 m2 qB hg g=>by
   have T2':Tb d ((insertAt es p 0#4).map 2#3):=by rw[N];exact T2
   have fl:d.fill=es.size+1:=by
    unfold SetTable.fill;rw[T2'.dum,T2'.size,Bb,H]
    rfl
   have tf:d.tooFull=decide ((es.size+1)*5 ≥ t.mask*3):=by unfold SetTable.tooFull;rw[fl,m2]
   have lk:es.size+1=(ks++[k]).length:=by rw[Az,L];rfl
   have stay:((es.size+1)*5<t.mask*3)->((d.mask=7/\es.size+1<=4)\/(d.mask=31/\es.size+1<=18)\/(d.mask=127/\es.size+1<=76)\/(d.mask=15/\es.size+1<=8)\/(d.mask=63/\es.size+1<=37)\/(d.mask=255/\es.size+1<=152))->wpAny 0#0 A 1#10 Q E {s with heap:=h'}:=fun q mk=>by
    rw[tf,TL ω];simp only[Rl,Am,if_false];refine Ac (h true h' {o with data:=.set (insertAt es p 0#4) (ep+1) d} (insertAt es p 0#4) (ep+1) d ?_ g);rw[TJ C];exact⟨hg,X.ex,rfl,T2',by rw[H];exact lk,kq,O h' g,P h' g,by rw[H];exact mk,U,qB⟩
   have f:∀l n,es.size+1=n->((es.size+1)*5 ≥ t.mask*3)->SetTable.sizeAbove (SetTable.grown n)-1=l->SetTable.sizeAbove (SetTable.grown n)<=1000->Cov l->l%2=1->es.size+1<=l->((l=7/\es.size+1<=4)\/(l=31/\es.size+1<=18)\/(l=127/\es.size+1<=76)\/(l=15/\es.size+1<=8)\/(l=63/\es.size+1<=37)\/(l=255/\es.size+1<=152))->
     wpAny 0#0 A 1#10 Q E {s with heap:=h'}:=fun l n en q w1 w2 c1 c2 c3 mk=>by
    rw[tf,TK q];simp only[Sz,Tf,if_true];subst en;refine Aa (Fu (s:={s with heap:=h'}) (ks:=ks++[k]) hg X.ex rfl T2' (by rw[H];exact lk) kq U (O h' g) (P h' g) w1 (by rw[Bp];lia) c1 c2 (by rw[H];exact c3) (by rw[H];lia) (by rw[H];exact mk) qB fun fQ kT fY fN lO xR mS=>?_);refine Ac (h true fQ kT fY fN lO ?_ (g.trans mS));rw[TJ C];exact xR
   rcases X.msk with ⟨a,c⟩|⟨a,c⟩|⟨a,c⟩|⟨a,c⟩|⟨a,c⟩|⟨a,c⟩
   ·by_cases q:es.size+1<=4
    ·exact stay ω (.inl ⟨ω,q⟩)
    ·exact f 31 5 ω ω δ δ hG rfl ω (.inr (.inl ⟨rfl,ω⟩))
   ·by_cases q:es.size+1<=18
    ·exact stay ω (.inr (.inl ⟨ω,q⟩))
    ·exact f 127 19 ω ω δ δ eS rfl ω 65#(.inl ⟨rfl,ω⟩)
   ·exact stay ω 65#(.inl ⟨ω,ω⟩)
   ·by_cases q:es.size+1<=8
    ·exact stay ω 65#(.inr (.inl ⟨ω,q⟩))
    ·exact f 63 9 ω ω δ δ jp rfl ω 65#(.inr (.inr (.inl ⟨rfl,ω⟩)))
   ·by_cases q:es.size+1<=37
    ·exact stay ω 65#(.inr (.inr (.inl ⟨ω,q⟩)))
    ·exact f 255 38 ω ω δ δ kx rfl ω 65#(.inr (.inr (.inr ⟨rfl,ω⟩)))
   ·exact stay ω 65#(.inr (.inr (.inr ⟨ω,ω⟩)))
  have W:w.params.followText "set-order"=true\/(j.led=true/\j.plain=true):=by
   have e1:j=(t.put (pos t.mask 4#16 ne)).1:=by rw[cX]
   have e2:j.led=t.led:=by rw[e1];rfl
   have e3:j.plain=t.plain:=by rw[e1];rfl
   rw[e2,e3];exact X.wk
  cases hpl:j.plain with
  |true=>
   simp only[if_true];refine Aa (K0 (s:=s) hv hk ?_);simp only[if_true];refine Aa (Br (M j I p2) (fun _ s' aB=>?_) fun _ _ e=>e);obtain⟨h',rfl,g1,g2⟩:=aB;exact D j h' I p2 W g1 g2
  |false=>
   simp only[Am,if_false];refine Aa 1#5;simp only[if_true];refine Aa (Br (M j I p2) (fun _ s' aB=>?_) fun _ _ e=>e);obtain⟨h',rfl,g1,g2⟩:=aB;exact D j h' I p2 W g1 g2
 ·have:t.mask<=255:=by rcases X.msk with ⟨a,_⟩|⟨a,_⟩|⟨a,_⟩|⟨a,_⟩|⟨a,_⟩|⟨a,_⟩<;>lia
  unfold turns at J;lia
def K2{B:List Addr}{t:SetTable}(X:TS knd s.heap S o es ep t ks B)(hu:A.units<cLine)(a:∀k v n,knd.is k v=true->hashByValue n v=pure true){k:List K}(hk:AM knd s.heap k b)(c:b∈B)(d:ks.length<60){Q:Bool->Shared->Prop}(h:∀(r:Bool) h' o' es' bv t',TS knd h' S o' es' bv t' (if k∈ks then ks else ks++[k]) B->AU S s.heap h'->Q r {s with heap:=h',toks:=s.toks+(k.length+1)}):wpAny 0#0 A (setAdd S 5#b) Q E s:=by
 unfold setAdd;exact AH (Aa (wpAny_pyHash_tuple hu hk (Fv (s:={s with toks:=s.toks+(k.length+1)}) X hu a hk c d h)))
end
end STb
end
section
namespace STb
noncomputable def dd{a:Type}[DecidableEq a](l:List a):List a:=l.foldl 0#13 []
def iX{a:Type}[DecidableEq a](l:List a)(x:a):dd (l++[x])=if x∈dd l then dd l else dd l++[x]:=by unfold dd;rw[SA];rfl
def ix{a:Type}[DecidableEq a](l:List a):(dd l).length<=l.length:=by
 have:∀(l acc:List a),(l.foldl 0#13 acc).length<=acc.length+l.length:=by
  intro l
  induction l with
  |nil=>intro acc;simp
  |cons x l ih=>
   intro acc;rw[Q1];refine AG (ih _) ?_;split
   ·rw[AB];lia
   ·rw[Az,AB,AB,QZ];lia
 simpa[dd] using this l []
def i0{a:Type}[DecidableEq a](l:List a)(x:a):x∈dd l↔x∈l:=by
 have:∀(l acc:List a),x∈(l.foldl 0#13 acc)↔x∈acc\/x∈l:=by
  intro l
  induction l with
  |nil=>intro acc;simp
  |cons y l ih=>
   intro acc;rw[Q1,ih]
   by_cases h:y∈acc
   ·rw[TH h,Qj]
    constructor
    ·rintro(q|q)
     ·exact .inl q
     ·exact .inr (.inr q)
    ·rintro(q|q|q)
     ·exact .inl q
     ·subst q;exact .inl h
     ·exact .inr q
   ·rw[TJ h,Qm,Bm,Qj]
    constructor
    ·rintro((q|q)|q)
     ·exact .inl q
     ·exact .inr 74#q
     ·exact .inr (.inr q)
    ·rintro(q|q|q)
     ·exact .inl 74#q
     ·exact .inl (.inr q)
     ·exact .inr q
 simpa[dd] using this l []
def rA{c:Type}[DecidableEq c](l:List c):(dd l).Nodup:=by
 have:∀(l acc:List c),acc.Nodup->(l.foldl 0#13 acc).Nodup:=by
  intro l
  induction l with
  |nil=>intro acc h;exact h
  |cons y l ih=>
   intro acc h;rw[Q1]
   by_cases q:y∈acc
   ·rw[TH q];exact ih acc h
   ·rw[TJ q]
    refine ih _ ?_;rw[BD];refine⟨h,by simp,fun a ha b hb e=>?_⟩;rw[Bm] at hb;subst hb;subst e;exact q ha
 exact this l [] BC
def K3{a:Type}[DecidableEq a](l m:List a):(dd (l++m)).length<=(dd l).length+m.length:=by
 have:∀(m acc:List a),(m.foldl 0#13 acc).length<=acc.length+m.length:=by
  intro m
  induction m with
  |nil=>intro acc;simp
  |cons x l ih=>
   intro acc;rw[Q1];refine AG (ih _) ?_;split
   ·rw[AB];lia
   ·rw[Az,AB,AB,QZ];lia
 unfold dd;rw[SA];exact this m _
def K4{a:Type}[DecidableEq a](l:List a)(h:∀(k:Nat) x,l[k]?=some x->x∉l.take k):dd l=l:=by
 have:∀k,k<=l.length->dd (l.take k)=l.take k:=by
  intro k
  induction k with
  |zero=>intro _;rfl
  |succ k ih=>
   intro hk;have hx:l[k]?=some l[k]:=Ae ω;rw[QQ,hx];show dd (l.take k++[l[k]])=_;rw[iX,ih ω,TJ (h k _ hx)]
   rfl
 have q:=this l.length 0#10;rw[AA 0#10] at q;exact q
def K5{a:Type}[DecidableEq a](l:List a){k:Nat}{x:a}(h:l[k]?=some x)(hx:x∈l.take k):(dd l).length<l.length:=by
 have hk:k<l.length:=(69#h).1;have e:l=(l.take k++[x])++l.drop (k+1):=by
  have:=RX (k+1) l;rw[QQ,h] at this;exact this.symm
 have h1:=K3 (l.take k++[x]) (l.drop (k+1));rw[<-e,iX,TH ((i0 _ _).mpr hx)] at h1;have h2:=ix (l.take k);rw[AE] at h2;rw[Qx] at h1;lia
def K6{a:Type}[DecidableEq a](l:List a):(dd l).length<l.length↔∃(k:Nat)(x:a),l[k]?=some x/\x∈l.take k:=by
 constructor
 ·intro h
  apply A1;intro n;have:=K4 l fun k x e hx=>n ⟨k,x,e,hx⟩;rw[this] at h;exact QT _ h
 ·rintro⟨k,x,e,hx⟩
  exact K5 l e hx
end STb
end
section
set_option maxHeartbeats 3200000
namespace STb
open PySem PySem.SetTable PyProof.Rows
section
variable{prog:Program}{w:World}{K:Type}[DecidableEq K]{knd:KeyKind prog w K}{A:Around}{R:Result->Shared->Prop}{I:Addr}{fp wr:List Addr}{G:Array GenState->Array GenState->Prop}{n:Nat}{P:Nat->Value->Prop}{St:Nat->Shared->Prop}
def TS.moved{B:List Addr}{h h':Heap}{t:SetTable}(X:TS knd h S o es ep t ks B)(a:h'.get? S=some o)(hk:∀k b,AM knd h k b->AM knd h' k b):TS knd h' S o es ep t ks B:=
 ⟨a,X.ex,X.dt,X.tb,X.sz,X.nd,fun e he=>let ⟨k,b,a1,a2,a3⟩:=X.el e he;⟨k,b,a1,a2,hk k b a3⟩,fun k hk'=>let ⟨b,a1,a2⟩:=X.ke k hk';⟨b,a1,hk k b a2⟩,X.msk,X.ad,X.wk⟩
def rB{h h':Heap}{k:List K}(hk:AM knd h k b)(e:∀o,h.get? b=some o->h'.get? b=some o):AM knd h' k b:=by
 obtain⟨o,a,n,c,r⟩:=hk;exact⟨o,a,n,e o c,r⟩
def K7{B:List Addr}(W:WalksS prog w A.in1 I fp wr G n P St)(hu:A.in1.units<cLine)(hv:∀k v n,knd.is k v=true->hashByValue n v=pure true)(S:Addr)(l:S∉fp)(vals:List (List K))(adr:Nat->Addr)(hn:vals.length=n)(hB:∀i,i<n->adr i∈B)(hz:n<=59)(p:∀i v,P i v->v=.ref (adr i))(hna:∀b o,(∃u m,o.cls=Value.type "tuple"/\o.data=.seq u m)->∀s i,St i s->s.heap.get? b=some o->b∉wr):∀(k i:Nat)(s:Shared),n-i=k->i<=n->St i s->(∃o es ep t,TS knd s.heap S o es ep t (dd (vals.take i)) B)->(∀(j:Nat)(x:List K),vals[j]?=some x->AM knd s.heap x (adr j))->
   (∀s',Moved (S::wr) G s s'->(∃o es ep t,TS knd s'.heap S o es ep t (dd vals) B)->R (.ok (.ret .none)) s')->codeAny 0#0 A (.builtin "set.update.loop" ⟨[.ref S,.ref I],[]⟩) R s:=by
 have f:S∉wr:=fun h=>l (W.sub _ h);have M:∀b∈wr,b∈S::wr:=fun b hb=>Ar _ hb;have y:∀{i:Nat}{s s':Shared}{x:List K}{b:Addr},St i s->Moved wr G s s'->AM knd s.heap x b->AM knd s'.heap x b:=fun{i s s' x b} a hm hk=>by
  obtain⟨o,u,m,L,hc,hd,hi⟩:=id hk;exact⟨o,u,m,hm.heap b o (hna b o ⟨u,m,hc,hd⟩ s i a L) L,hc,hd,hi⟩
 intro k
 induction k with
 |zero=>
  intro i s hk hi a D hT hR;have H:i=n:=ω
  subst H;refine A7 F.entry_set_update_loop ?_;rw[A4 F.plain_set_update_loop _];show wpAny _ A.in1 (pyNext 5#I >>= _) _ _ s;refine Aa (W.done s _ _ a fun s' hm=>?_);show wpAny _ A.in1 (ret Value.none) _ _ s';refine Ac (hR s' (hm.mono M) ?_);obtain⟨o,es,ep,t,X⟩:=D;rw[AA ω] at X;exact⟨o,es,ep,t,X.moved (hm.heap S _ f X.at_) fun k b hk=>y a hm hk⟩
 |succ k ih=>
  intro i s hk hi a D hT hR;have c:i<n:=ω
  refine A7 F.entry_set_update_loop ?_;rw[A4 F.plain_set_update_loop _];show wpAny _ A.in1 (pyNext 5#I >>= _) _ _ s;refine Aa (W.item i s _ _ c a fun v s' O Q hm=>?_);obtain rfl:=p i v O;obtain⟨o,es,ep,t,X⟩:=D;have X':TS knd s'.heap S o es ep t (dd (vals.take i)) B:=X.moved (hm.heap S _ f X.at_) fun k b hk=>y a hm hk;have hx:vals[i]?=some vals[i]:=Ae ω;have g:=ix (vals.take i);rw[AE] at g;show wpAny _ A.in1 (holding [Value.ref (adr i)] (setAdd S 5#(adr i)) >>= _) _ _ s';refine Aa (AH (K2 X' hu hv (y a hm (hT i _ hx)) (hB i c) ω fun r h' o' es' J t' C E=>?_));have N:s'.toks<=s'.toks+(vals[i].length+1):=RN _ _;have eC:St (i+1) {s' with heap:=h',toks:=s'.toks+(vals[i].length+1)}:=W.frame _ s' _ _ Q N fun b hb T e=>by
   rw[E.2 b (fun h:b=S=>l (by rw[<-h];exact hb))];exact e
  have d:vals.take (i+1)=vals.take i++[vals[i]]:=by rw[QQ,hx];rfl
  have X3:TS knd h' S o' es' J t' (dd (vals.take (i+1))) B:=by
   rw[d,iX]
   by_cases q:vals[i]∈dd (vals.take i)
   ·rw[TH q] at C ⊢;exact C
   ·rw[TJ q] at C ⊢;exact C
  refine Ac ⟨plainId_quiet F.plain_set_update_loop _,ih (i+1) _ ω c eC ⟨o',es',J,t',X3⟩ (fun j x U=>js (y a hm (hT j x U)) X'.at_ X'.dt E) fun Y iD h_=>?_⟩;refine hR Y (Moved.trans W.gtrans ((hm.mono M).then_heap N fun b T hb e=>?_) iD) h_;rw[E.2 b (fun h:b=S=>hb (by rw[h];exact Av))];exact e
end
end STb
end
section
namespace STb
open PySem PySem.SetTable PyProof.Rows
section
variable{prog:Program}{w:World}{K:Type}[DecidableEq K]{knd:KeyKind prog w K}{A:Around}{E:Ω}{s:Shared}
def Cd(a:Value){Q₁:Ω}(h:Q₁ 0#5 {s with heap:=s.heap.push {cls:=.type "set",dict:=none,data:=.set #[] 0 (.fresh 0 0 (!w.params.followText "set-order"))}}):codeAny 0#0 A (.call (.builtin "set.__new__") ⟨[.type "set",a],[]⟩) (wants Q₁ E) s:=by
 refine codeAny_of_tree (show wpAny _ A.in1 (do checkBuiltinCall "set.__new__" ⟨[.type "set",a],[]⟩;again (.builtin "set.__new__" ⟨[.type "set",a],[]⟩)) _ _ s from Aa (wpAny_of_eq (F.newCall_set_1 a) (Ac ⟨plainId_quiet F.plain_set_new _,A7 F.entry_set_new ?_⟩)));rw[A4 F.plain_set_new _];unfold Builtin.«set.__new__» Builtin.Frozenset.newClass;have b:=sub_set_self;obtain⟨hp,g,d,tk,os⟩:=s;dsimp only;wp_walk;refine wpAny_askSetting 1#5;dsimp only;simp only[newObj];exact Aa (wpAny_alloc (Ac (Ac h)))
def Fx{B:List Addr}{vals:List (List K)}{adr:Nat->Addr}{Q:Ω}(hh:A.handled=none)(hl:s.heap.IsList l a)(hu:A.units+64<cLine)(hv:∀k v n,knd.is k v=true->hashByValue n v=pure true)(hz:a.size<=59)(hn:vals.length=a.size)(hB:∀i,i<a.size->adr i∈B)(aw:∀(i:Nat) v,a[i]?=some v->v=.ref (adr i))(hT:∀(j:Nat) x,vals[j]?=some x->AM knd s.heap x (adr j))(h:∀h' tk,0#16->(∀b o,b<s⁻¹->s.heap.get? b=some o->h'.get? b=some o)->Q 0#5 {s with heap:=h',toks:=tk}):wpAny 0#0 A (call (.type "set") [.ref l]) Q E s:=by
 obtain⟨c,tl,dq⟩:=F.called_set.mro;have dj:=F.called_set.made;have aJ:=F.called_set.sub;refine wpAny_call (codeAny_of_tree ?_);show wpAny _ _ (callAny (.type "set") _) _ _ _;refine Ac ⟨Code.quiet_builtin _ δ,A7 F.entry_type_call ?_⟩;rw[Around.under_plain (weight_type_call_type "set" [.ref l] []) rfl];have h1:=F.called_set.notType;have h2:=F.called_set.canCreate;have kh:=F.typeCall_set_1 5#l
 repeat(any_goals(first|assumption|wp_step))
 refine Bx (Cd 5#l (E:=E) (Q₁:=fun obj G=>∃led:Bool,(w.params.followText "set-order"=true\/led=true)/\obj=.ref s⁻¹/\G={s with heap:=s.heap.push {cls:=.type "set",dict:=none,data:=.set #[] 0 3#13}}) ⟨_,by cases w.params.followText "set-order" <;> simp,rfl,rfl⟩) fun r G hr=>?_;cases r with
 |error e=>exact hr
 |ok fl=>
  cases fl with
  |ret obj=>
   obtain⟨led,S,rfl,rfl⟩:=hr;have M:(4#0).get? s⁻¹=some {cls:=.type "set",dict:=none,data:=.set #[] 0 3#13}:=Al _ rfl;have eE:Shared.TypeIs {s with heap:=s.heap.push {cls:=.type "set",dict:=none,data:=.set #[] 0 3#13}} 0#5 "set":=⟨_,M,rfl⟩;have k_:=F.called_set.init.lookup;have ln:=F.called_set.init.bind 0#5
   repeat(any_goals(first|assumption|wp_step))
   refine Bx (codeAny_call_builtin (R:=wants (fun r H=>r=.none/\∃h' tk,H={s with heap:=h',toks:=tk}/\
     0#16/\
     4#7) E) F.called_set.init.plain F.entry_set_init (check_set_init_1 eE ?_)) fun O H u=>?_
   ·obtain⟨T,I,d,J,L⟩:=hl
    obtain⟨l8,U,jg,W⟩:=T;simp only at d L;subst d;subst L;have fL:(4#0).get? l=some {cls:=.type "list",dict:=U,data:=.seq a J,slots:=W}:=Ad _ I;have mD:=F.sub_list_set;have mX:=F.sub_list_frozenset;have hne:(Value.type "list" == Value.type "dict")=false:=ξ
    have f:(4#0).IsList l a:=⟨_,fL,rfl,J,rfl⟩;unfold Builtin.«set.__init__» noKeywords Builtin.Frozenset.updateFrom;generalize hPI:pyIter=PI
    wp_walk
    subst hPI;refine wpAny_pyIter_list f ?_;refine Aa (wpAny_runValue ?_);have N:l<s⁻¹:=Ao I;have nr:A.in1.in1.in1.handled=none:=by simp[hh]
    have g:l≠(4#0).objs.size:=by
     rw[Heap.size_push];exact Aq (AW N)
    have C:s⁻¹∉[(4#0).objs.size,l]:=by
     rw[Heap.size_push];simp only[Qj,Bm,QL,or_false,not_or];exact⟨Aq (RM _),Bf N⟩
    refine K7 (knd:=knd) ((Walks.list nr _ l g a).toS) (by show A.units+1+1+1<cLine;lia) hv s⁻¹ C vals adr hn hB hz (fun i v q=>aw i v q) (fun b o P s' i st e hb=>?hna)
     (a.size-0) 0 _ ω (AL _) ⟨⟨_,Al _ rfl,rfl,rfl⟩,(f.push _)⟩ ⟨{cls:=.type "set",dict:=none,data:=.set #[] 0 3#13},#[],0,.fresh 0 0 led,?hS0⟩ (fun j x hx=>rB (hT j x hx) fun o e=>Ad _ (Ad _ e)) ?hR
    case hna=>
     obtain⟨⟨oi,e1,e2,_⟩,_⟩:=st;obtain⟨ae,m,hc,_⟩:=P;simp only[Bm] at hb;subst hb;have e3:=Ai (e1.symm.trans e);rw[<-e3,e2] at hc;exact absurd hc ξ
    case hS0=>
     have p:((4#0).push {cls:=.type "list_iterator",data:=.fields #[.ref l,.int 0 0]}).get? s⁻¹
      =some {cls:=.type "set",dict:=none,data:=.set #[] 0 3#13}:=Ad _ M
     exact⟨p,⟨rfl,rfl,rfl⟩,rfl,(by simpa using B8 0 0 led),rfl,BC,fun e he=>by simp at he,fun k hk=>by simp[dd] at hk,.inl ⟨rfl,AL _⟩,(fun e he=>by simp at he),S.imp id fun z=>⟨z,rfl⟩⟩
    case hR=>
     intro s' hm y;obtain⟨h',g',d',X,Y⟩:=s';have eg:g'=s.gens:=hm.gens;have ed:d'=s.drawn:=hm.drawn;have eo:Y=s.os:=hm.os;subst eg;subst ed;subst eo;show wpAny _ _ _ _ _ _;refine Ac ?_;show wpAny _ _ (ret Value.none) _ _ _;refine Ac ⟨rfl,h',X,rfl,y,fun b o hb e=>?_⟩;have D:b≠s⁻¹:=Aq hb;have bd:b≠(4#0).objs.size:=by
      rw[Heap.size_push];exact Aq (AW hb)
     exact hm.heap b o (by simp only[Qj,Bm,QL,or_false,not_or];exact⟨D,bd⟩) (Ad _ (Ad _ e))
   ·cases O with
    |error e=>exact u
    |ok fl₂=>
     cases fl₂ with
     |ret r=>
      obtain⟨rfl,h',tk,rfl,y,hk'⟩:=u
      repeat(any_goals(first|assumption|wp_step))
      exact h _ _ y hk'
     |_=>exact u.elim
  |_=>exact hr.elim
end
end STb
namespace L2
open PySem PySem.Spec PyProof.Rows
noncomputable def hH(D:Addr)(n:Nat):HO:=.ext fun h=>∃o es ep t,h.get? D=some o/\o.ExactSet/\o.data=.set es ep t/\t.fits es.size=true/\es.size=n/\n<=100
section
variable{X:Cx}
def Ce:∀(k:Int)(v:Value)(n:Nat),(3#4).is k v=true->hashByValue n v=pure true:=by
 intro k v n h;obtain⟨t,rfl⟩:=Value.isInt_shape h;cases n<;>rfl
def Cf{cs:List Value}(hc:IsTup h c cs.toArray)(hi:IntsAre cs a):AM 3#4 h a c:=by
 obtain⟨o,e,b,k,d⟩:=hc;refine⟨o,cs.toArray,k,e,b,d,?_⟩;have:∀{cs:List Value}{a:List Int},IntsAre cs a->ItemsAre 3#4 a cs:=by
  intro cs a hi
  induction hi with
  |nil=>exact .nil
  |cons n t h ih=>exact .cons (by show Value.isInt n 85#n=true;simp[Value.isInt]) ih
 simpa using this hi
def K8(hc:X.calm=true)(hu:X.A.units+64<cLine):cP X (.type "set") (fun xs H Q=>∃(l:Addr)(as:List Addr)(ab:Ξ),xs=[.ref l]/\SqL X.K H l 2#2/\Tps H as ab/\ab.length<=59/\
  ∀D,H D=none->Q 5#D (upd H D (hH D (STb.dd ab).length))):=by
 intro aa s σ H xs us Q I r h;obtain⟨l,as,ab,rfl,hq,hp,hz,q⟩:=h;obtain⟨u,rfl,y⟩:=vals1 r;cases y;obtain⟨C,E,F,_⟩:=I.list hq;obtain rfl:=aG E;have J:=hp.length;refine STb.Fx (B:=as) (knd:=intKind X.prog X.w) (vals:=ab) (adr:=fun i=>as.getD i 0) 2#15 F.isList hu Ce (by rw[Aj,Ab];lia) (by rw[Aj,Ab];lia) (fun i hi=>by rw[Aj,Ab] at hi;rw[AK,Ae hi];exact A8 hi)
  (fun i v e=>?_) (fun j x e=>?_) fun h' tk ⟨o,es,ep,t,T⟩ f=>?_
 ·have e':(1#4)[i]?=some v:=by simpa using e
  rw[Ah] at e';cases c:as[i]? with
  |none=>rw[c] at e';simp at e'
  |some a=>
   rw[c] at e';rw[<-Ai e',AK,c]
   rfl
 ·have L:j<as.length:=by rw[J];exact(BK.mp e).1
  have c:as[j]?=some as[j]:=Ae L;obtain⟨M,e1,e2⟩:=hp.get c;rw[e] at e1;obtain rfl:=Ai e1;obtain⟨C,G,p2,_⟩:=I.tuple (SqT.of (K:=X.K) e2);rw[AK,c];exact Cf p2 (intsAre_of G)
 ·have d:=STb.ix ab
  refine⟨.ref s⁻¹,_,I.laid (o:=hH s⁻¹ (STb.dd ab).length) (fun b u e=>f b u (Ao e) e) 0#10 ?_,rfl,q _ 61#Ag⟩;refine⟨⟨o,es,ep,t,T.at_,T.ex,T.dt,STb.fits_of T.tb,T.sz,ω⟩,⟨o,T.at_⟩,fun h1 h2 ⟨o',es',g,t',g1,g2⟩ p=>⟨o',es',g,t',p _ g1,g2⟩⟩
def K9:cP X (.builtin "len") (fun xs H Q=>∃D n,xs=[.ref D]/\H D=some (hH D n)/\Q 57#n H):=by
 intro aa s σ H xs us Q I r h;obtain⟨D,n,rfl,hq,q⟩:=h;obtain⟨u,rfl,a⟩:=vals1 r;cases a;obtain⟨⟨o,es,ep,t,h1,h2,b,c,d,e⟩,_⟩:=(show zr X.prog X.w H s.heap D (hH D n) from I.hok D _ hq);exact call_len_set h1 h2 b c ω ⟨.int n,H,I.tok _,⟨_,by rw[d]⟩,q⟩
end
end L2
end
section
namespace Spl
open PySem PySem.Spec PySem.Builtin PySem.Builtin.Str PyProof.Rows
section
variable{prog:Program}{w:World}{A:Around}{E:Ω}{s:Shared}{x y:PySem.Str}{t u:Tok}{Q:Ω}
def split1(hy:(y.length==0)=false)(h:∀(l:List (PySem.Str×Tok)) k,l.map 2#3=Txt.split x y->Q 0#5 {s with heap:=s.heap.push {cls:=.type "list",data:=.seq (strValues l).toArray},toks:=k})(hsz:x.length+2<=sizeLine):wpAny 0#0 A (call (.builtin "str.split") [.str x t,.str y u]) Q E s:=by
 have a:(partsBetween x (occurrences x y 0 x.length (x.length+1)) y.length).length<=sizeLine:=by
  have e1:=StrLaws.occ_length_le x y 0 x.length (x.length+1);rw[length_partsBetween];lia
 cases h1:(decide (x.length<y.length)|| decide (strKind x<strKind y))
 ·cases hf:(occurrences x y 0 x.length (x.length+1)).isEmpty
  ·refine call_meets F.slot_str_split (typeIs_str _ _ _) F.entry_str_split (F.args_str_split_2 _ _) (meets_str_split_sep x y t u h1 hy hf ω a) ?_
   show wants Q E _ {s with toks:=_,heap:=s.heap.push {cls:=.type "list",data:=.seq (strsFrom s.toks (partsBetween x (occurrences x y 0 x.length (x.length+1)) y.length)).toArray}};rw[strsFrom_eq];exact h (numbered s.toks _) _ ((numbered_texts _ _).trans ((TJ (ne_true_of_eq_false h1)).trans (TJ (ne_true_of_eq_false hf))).symm)
  ·exact call_meets F.slot_str_split (typeIs_str _ _ _) F.entry_str_split (F.args_str_split_2 _ _) (meets_str_split_not_found x y t u h1 hy hf)
    (h [(x,t)] s.toks ((TJ (ne_true_of_eq_false h1)).trans (TH hf)).symm)
 ·exact call_meets F.slot_str_split (typeIs_str _ _ _) F.entry_str_split (F.args_str_split_2 _ _) (meets_str_split_cannot_occur x y t u h1)
   (h [(x,t)] s.toks (TH h1).symm)
end
end Spl
namespace L2
open PySem PySem.Spec PyProof.Rows
section
variable{X:Cx}
def Fy:∀(l:List (PySem.Str×Tok)),Vals ((l.map 2#3).map V.str) (strValues l)
 |[]=>.nil
 |p::l=>.cons ⟨p.2,rfl⟩ (Fy l)
def zpv:V->List V->Hp->VK->Prop:=fun x vs H Q=>∃z y,x=.str z/\vs=[.str y]/\(y.length==0)=false/\z.length+2<=sizeLine/\(Txt.split z y).length<=sizeLine/\∀D,H D=none->Q 5#D (upd H D 8#((Txt.split z y).map V.str))
def K_:n4 X "str.split" zpv:=by
 intro aa s σ H x vs v us Q I a c h;obtain⟨z,y,rfl,rfl,hy,hz,d,q⟩:=h;obtain⟨t,rfl⟩:=a;obtain⟨u,rfl,f⟩:=c.one;obtain⟨t',rfl⟩:=f;refine Spl.split1 hy (fun l k e=>?_) hz;refine⟨.ref s⁻¹,_,I.laid (t':=k) (o:=.lst ((Txt.split z y).map V.str)) (fun b ob q=>Ad _ q) 0#10 ?_,rfl,q _ 61#Ag⟩;refine⟨by rw[Ab];exact d,strValues l,0,?_,Al _ rfl⟩;rw[<-e];exact Fy l
noncomputable def rD(x:PySem.Str):It:=⟨fun i _=>i<x.cps.size,fun i H v H'=>H'=H/\∃c,x.cps[i]?=some c/\v=.str ⟨#[c]⟩,fun i _=>i=x.cps.size⟩
def Fz{K:Af}(x:PySem.Str)(it:Addr)(T:String)(C:["enumerate","zip","dict_itemiterator","dict_reverseitemiterator","odict_iterator","itertools.zip_longest","itertools.pairwise"].contains T=false)(t:Tok)(W:∀A':Around,A'.handled=none->Walks P w A' it [it] [it] x.cps.size (SignAt x) (fun i h=>h.IsStrIter it T x t i))(D:∀(A:Around)(i:Nat)(s:Shared)(Q:Ω)(E:Ω),s.heap.IsStrIter it T x t i->Q 5#it s->wpAny (model P w) A (pyIter 5#it) Q E s):Turn P w K tg (rD x) [it] it (fun i h=>h.IsStrIter it T x t i) where
 mem:=by simp
 obj:=fun i h st b hb=>by
  have e:b=it:=by simpa using hb
  subst e;obtain⟨o,e,c,d⟩:=st;exact⟨o,e,fun v z=>by rw[d] at z;cases z⟩
 keep:=fun i h h' st k=>by
  obtain⟨o,e,c⟩:=st;exact⟨o,k it 2#0 o e,c⟩
 item:=by
  intro X a hw f hc i aa s σ H E I hf st g;subst a hw f;obtain⟨l,f1,f2,p,q,f5⟩:=hf it 2#0;refine(W X.A 2#15).item i s _ _ g st fun v h' tk y r j=>?_;obtain⟨c,u,hx,rfl⟩:=y;have F:Inv X aa σ H {s with heap:=h',toks:=tk}:=I.turned (fun b o hb e=>j b o 6#hb e) l f1 p q f5;obtain⟨o,e1,e2,e3⟩:=id r;exact⟨_,rfl,ny (s:={s with heap:=h',toks:=tk}) e1 e2 e3 C ⟨.str ⟨#[c]⟩,H,F,⟨u,rfl⟩,⟨rfl,c,hx,rfl⟩,r,fun b hb=>(hf b hb).1⟩⟩
 done:=by
  intro X a hw f hc i aa s σ H E I hf st g;subst a hw f;obtain⟨l,f1,f2,p,q,f5⟩:=hf it 2#0;have hi:i=x.cps.size:=g;subst hi;exact(W X.A 2#15).done s _ _ st fun h' tk j=>⟨rfl,I.turned (fun b o hb e=>j b o 6#hb e) l f1 p q f5⟩
 self:=D
def Cj(te:TE):TI:=fun σ H R=>te σ H fun v H1=>∃x,v=.str x/\R (rD x) H1
def K'(g:PE X l tl):PI X tg l (Cj tl):=by
 intro aa s σ H R I h;refine aT (g aa s σ H _ I h) fun v a ⟨x,H1,I1,d,f⟩=>?_;obtain⟨z,e,q⟩:=f;subst e;obtain⟨t,rfl⟩:=d;have fin:∀(o:Obj),Inv X aa σ H1 {a with heap:=a.heap.push o}:=fun o=>I1.kept (t':=a.toks) fun b o e=>Ad _ e;have fp:∀b∈[a⁻¹],bb X aa H1 b:=fun b hb=>by
  have e:b=a⁻¹:=by simpa using hb
  subst e;exact I1.fpOk 0#10 (I1.hok.fresh 0#10)
 cases ha:z.cps.all (·<128)
 ·refine wpAny_pyIter_wide ha ?_
  exact⟨a⁻¹,[a⁻¹],_,_,H1,rfl,fin _,Fz z _ "str_iterator" ξ t (fun j c=>Walks.strWide c _ z t) (fun A i s Q E st h=>wpAny_pyIter_striter_wide st h),⟨_,Al _ rfl,rfl,rfl⟩,fp,q⟩
 ·refine wpAny_pyIter_ascii ha ?_
  exact⟨a⁻¹,[a⁻¹],_,_,H1,rfl,fin _,Fz z _ "str_ascii_iterator" ξ t (fun j c=>Walks.strAscii c _ z t) (fun A i s Q E st h=>wpAny_pyIter_striter_ascii st h),⟨_,Al _ rfl,rfl,rfl⟩,fp,q⟩
def La{g:TG}{tc:TT}{te:TE}{Q:VK}{x:PySem.Str}(a:Nat->St->List V->Hp->Prop)(h:a 0 σ [] 67#H1)(hs:∀i σ ys H c,x.cps[i]?=some c->i<x.cps.size->ys.length<=i->a i σ ys H->g (.str ⟨#[c]⟩) σ H fun d j=>tc d j fun b f=>if b=true then te d f (eH x.cps.size a D i d) else dz x.cps.size a i d f)(hd:∀σ ys H,a x.cps.size σ ys H->Q 5#D H):cK (rD x) g tc te σ H1 D Q:=by
 refine kt x.cps.size a h (fun σ ys H p=>rfl) (fun i σ ys H hi p=>hi) (fun i σ ys H v H' hi hy p y=>?_) hd;obtain⟨e,c,hc,rfl⟩:=y;subst e;exact hs i σ ys _ c hc hi hy p
end
end L2
end
section
namespace K1
open STb
noncomputable def subs(ps:List Int):Ξ:=ps.foldl (fun a x=>a++a.map (·++[x])) [[]]
noncomputable def parts(ps:List Int):Ξ:=(subs ps).drop 1
def Ck(ps:List Int)(x:Int):subs (ps++[x])=subs ps++(subs ps).map (·++[x]):=by unfold subs;rw[SA];rfl
def rE(ps:List Int):(subs ps).length=2 ^ ps.length:=by
 have:∀(ps:List Int)(acc:Ξ),(ps.foldl (fun a x=>a++a.map (·++[x])) acc).length=acc.length*2 ^ ps.length:=by
  intro ps
  induction ps with
  |nil=>intro acc;simp
  |cons x ps ih=>
   intro acc;rw[Q1,ih,Az,Ab,AB,Nat.pow_succ];rw[<-Nat.two_mul,Nat.mul_comm 2,Nat.mul_assoc,Nat.mul_comm 2]
 simpa[subs] using this ps [[]]
def Cn(ps:List Int):∃t,subs ps=[]::t/\∀q∈t,q≠[]:=by
 have:∀(ps:List Int)(acc:Ξ),(∃t,acc=[]::t/\∀q∈t,q≠[])->∃t,ps.foldl (fun a x=>a++a.map (·++[x])) acc=[]::t/\∀q∈t,q≠[]:=by
  intro ps
  induction ps with
  |nil=>intro acc h;exact h
  |cons x ps ih=>
   rintro acc ⟨t,rfl,h⟩;rw[Q1];refine ih _ ⟨t++([]::t).map (·++[x]),rfl,fun q hq=>?_⟩;rcases Qm.mp hq with hq|hq
   ·exact h q hq
   ·obtain⟨r,_,rfl⟩:=Qi.mp hq
    simp
 exact this ps [[]] ⟨[],rfl,fun q hq=>nomatch hq⟩
def Lb(ps:List Int):(subs ps).filter (fun q=>!decide (q=[]))=parts ps:=by
 obtain⟨t,e,h⟩:=Cn ps;unfold parts;rw[e];show List.filter _ ([]::t)=t;rw[Q5,TJ 2#0];exact List.filter_eq_self.mpr fun q hq=>by simp[h q hq]
def mx(ps:List Int):(parts ps).length=2 ^ ps.length-1:=by unfold parts;rw[Qx,rE]
def FA(ps:List Int):∀q∈subs ps,q.length<=ps.length:=by
 have:∀(ps:List Int)(acc:Ξ)(n:Nat),(∀q∈acc,q.length<=n)->∀q∈ps.foldl (fun a x=>a++a.map (·++[x])) acc,q.length<=n+ps.length:=by
  intro ps
  induction ps with
  |nil=>intro acc n h q hq;simpa using h q hq
  |cons x ps ih=>
   intro acc n h q hq;rw[Q1] at hq;have:=ih _ (n+1) (fun r hr=>by
    rcases Qm.mp hr with hr|hr
    ·exact Sx (h r hr)
    ·obtain⟨u,hu,rfl⟩:=Qi.mp hr
     rw[Az];exact Nat.succ_le_succ (h u hu)) q hq
   rw[AB];lia
 intro q hq;have:=this ps [[]] 0 (fun r hr=>by simp at hr;subst hr;exact Ag _) q hq;lia
noncomputable def a0:List Int->Bool
 |a::b::r=>decide (a<b)&&a0 (b::r)
 |_=>true
def FB:∀ps:List Int,((ps.zip (ps.drop 1)).map fun p=>decide (p.1<p.2)).all id=a0 ps
 |[]=>rfl
 |[_]=>rfl
 |a::b::r=>by
  have:=FB (b::r);unfold a0;rw[<-this]
  rfl
def Cq:∀ps:List Int,a0 ps=true↔∀(i:Nat) a b,ps[i]?=some a->ps[i+1]?=some b->a<b
 |[]=>by simp[a0]
 |[x]=>by simp[a0]
 |x::y::r=>by
  unfold a0;rw[AS,decide_eq_true_eq,Cq (y::r)];constructor
  ·rintro⟨h1,h2⟩ i a b ha hb
   cases i with
   |zero=>simp at ha hb;subst ha hb;exact h1
   |succ i=>exact h2 i a b 6#ha 6#hb
  ·intro h
   exact⟨h 0 x y rfl rfl,fun i a b ha hb=>h (i+1) a b 6#ha 6#hb⟩
def FC(ps:List Int)(h:a0 ps=true):∀(d i:Nat) a b,ps[i]?=some a->ps[i+d]?=some b->a<=b:=by
 intro d
 induction d with
 |zero=>intro i a b ha hb;rw[Nat.add_zero,ha] at hb;cases hb;exact QG _
 |succ d ih=>
  intro i a b ha hb;have c:i+(d+1)<ps.length:=(69#hb).1;have hc:ps[i+d]?=some ps[i+d]:=Ae ω;have h1:=ih i a _ ha hc;have h2:=(Cq ps).mp h (i+d) _ b hc hb;lia
noncomputable def zR(ps:List Int):Bool:=decide (1<=ps.length)&&decide (ps.length<=5)&&!(decide (ps.headD 0<0))&&!(decide (99<ps.getLastD 0))&&a0 ps
noncomputable def fy(ps:List Int):Bool:=decide (1<=ps.length)&&decide (ps.length<=5)&&ps.all (fun p=>decide (0<=p)&&decide (p<=99))&&a0 ps
def rF(ps:List Int):zR ps=fy ps:=by
 unfold zR fy;cases ps with
 |nil=>rfl
 |cons x r=>
  by_cases hr:a0 (x::r)=true
  ·rw[hr,Bool.and_true,Bool.and_true]
   by_cases c:(x::r).length<=5
   ·have e1:(x::r).getLastD 0=(x::r)[(x::r).length-1]:=by
     rw[List.getLastD_eq_getLast?,List.getLast?_eq_getElem?,Ae 2#0];rfl
    have key:(!(decide ((x::r).headD 0<0))&&!(decide (99<(x::r).getLastD 0)))=(x::r).all (fun p=>decide (0<=p)&&decide (p<=99)):=by
     rw[Ra];rw[AS,Td,Td,decide_eq_false_iff_not,decide_eq_false_iff_not,Qp];constructor
     ·rintro⟨a,b⟩ p hp
      obtain⟨i,hi⟩:=Ql.mp hp;have d:i<(x::r).length:=(69#hi).1;have g1:=FC (x::r) hr i 0 x p rfl 6#hi;have g2:=FC (x::r) hr ((x::r).length-1-i) i p ((x::r)[(x::r).length-1]) hi (by
       rw[show i+((x::r).length-1-i)=(x::r).length-1 from ω];exact Ae 2#0)
      rw[e1] at b;have e:¬x<0:=a;simp only[AS,decide_eq_true_eq];constructor<;>lia
     ·intro h
      have g1:=h x Av;have g2:=h ((x::r)[(x::r).length-1]) (A8 _);rw[e1];simp only[AS,decide_eq_true_eq] at g1 g2;constructor
      ·show ¬x<0;lia
      ·lia
    rw[<-key];simp only[Bool.and_assoc]
   ·rw[TL c];simp
  ·have:a0 (x::r)=false:=by simpa using hr
   rw[this,Rl,Rl]
noncomputable def bT(ab:Ξ):Bool:=decide (ab.length<=20)&&ab.all zR&&!(decide ((dd ab).length<ab.length))&&decide ((dd 2#4).length<=200)
def FD(ab:Ξ)(k:Nat):Prop:=∀(i:Nat) ps,i<k->ab[i]?=some ps->ps∉ab.take i/\fy ps=true
def Lc(ab:Ξ)(h:ab.length<=20)(a:FD ab ab.length):bT ab=decide ((dd 2#4).length<=200):=by
 unfold bT;have h1:ab.all zR=true:=Qp.mpr fun ps hp=>by
  obtain⟨i,hi⟩:=Ql.mp hp;rw[rF];exact(a i ps (69#hi).1 hi).2
 have h2:¬(dd ab).length<ab.length:=fun z=>by
  obtain⟨k,x,e,hx⟩:=(K6 ab).mp z;exact(a k x (69#e).1 e).1 hx
 rw[TK h,h1,TL h2]
 rfl
def Ld(ab:Ξ)(h:¬ab.length<=20):bT ab=false:=by unfold bT;rw[TL h];rfl
end K1
end
section
namespace L2
open PySem PySem.Spec PyProof.Rows
noncomputable def i3(N N':List Str)(ar:List 66#Nat)(scope:Scope):Bool:=decide (ar.length=N'.length)&&(ar.zip N').all fun p=>match p.1 with
 |none=>true
 |some j=>decide (N[j]?=some p.2)&&decide (scope.names.lookup p.2=some .free)
def FE(h:i3 N N' ar scope=true):mj N N' ar scope:=by
 unfold i3 at h;rw[AS,decide_eq_true_eq,Qp] at h;refine⟨h.1,fun i j e=>?_⟩;have hi:i<ar.length:=(69#e).1;have e2:N'[i]?=some N'[i]:=Ae (by rw[<-h.1];exact hi);have:=h.2 (some j,N'[i]) (Ql.mpr ⟨i,by rw[aZ.bh,e,e2];rfl⟩);simp only[AS,decide_eq_true_eq] at this;exact⟨N'[i],e2,this.1,this.2⟩
section
variable{X:Cx}{scope:Scope}{ar:List 66#Nat}{tg iter bL:Expr}{a9:List Expr}{wi:TI}{g:TG}{tc:TT}{te:TE}{pos:Pos}
def zw(N N':List Str)(ar:List 66#Nat)(hi:PI X tg iter wi)(b:∀a C s₀ H₀ ex,PG 1#3 tg g)(ht:∀a C s₀ H₀ ex,ip 1#3 a9 tc)(he:∀a C s₀ H₀ ex,PE 1#3 bL te)(hc:X.calm=true:=by rfl)(hk:scope.kind=.function:=by rfl)(c:∀y∈scope.names,y.2≠.cell:=by decide +kernel)(d:∀y∈scope.names,y.2=.free->scope.names.lookup y.1=some .free:=by decide +kernel)(e:∀y∈scope.names,y.2=.local->scope.names.lookup y.1=some .local:=by decide +kernel)(hfr:∀y∈scope.names,y.2=.free->X.env.kindOf y.1=some .cell\/X.env.kindOf y.1=some .free)(f:X.N=N:=by rfl)(h:i3 N N' ar scope=true:=by decide +kernel)(hs:∀x,foldedSetIterable iter X.env x=pure x:=by intro _;rfl):PE X 0#3 (kr wi ar g tc te):=
 Ka hc hk c d e hfr (FE (by rw[f];exact h)) hi b ht he hs
end
def dA{env:Env}{scope:Scope}(h:scope.names.all (fun y=>decide (y.2≠.free))=true):∀y∈scope.names,y.2=.free->env.kindOf y.1=some .cell\/env.kindOf y.1=some .free:=fun y hy e=>
 absurd e (TN (Qp.mp h y hy))
def bX{env:Env}{scope:Scope}(sc:Scope)(h:scope.names.all (fun y=>decide (y.2≠.free)|| decide (sc.names.lookup y.1=some .cell)|| decide (sc.names.lookup y.1=some .free))=true)(a:env.scope=sc:=by rfl):∀y∈scope.names,y.2=.free->env.kindOf y.1=some .cell\/env.kindOf y.1=some .free:=fun y hy e=>by
 subst a;have:=Qp.mp h y hy;simp only[Bool.or_eq_true,decide_eq_true_eq] at this;rcases this with (q|q)|q
 ·exact absurd e q
 ·exact .inl q
 ·exact .inr q
def cN(l:List Str)(h:l.Nodup:=by decide +kernel):l.Nodup:=h
def kz{te:TE}{S:Hp->Prop}(h:te σ H P):bM σ H fun b a=>if b=true then te σ a P else S a:=by
 show if true=true then te σ H P else S H;rw[TH rfl];exact h
def ca{te:TE}{σ:St}{P:St->VK}{S:St->Hp->Prop}(h:te (σ.set i 55#v) H (P (σ.set i 55#v))):zX i v σ H fun a d=>bM a d fun b c=>if b=true then te a c (P a) else S a c:=kz (S:=S (σ.set i 55#v)) h
def zy(h:cK J g tc te σ H1 D Q):cK J g tc te σ H1 D Q:=h
def Paired.of_at{c d:Type}{R:c->d->Prop}:∀{l:List c}{m:List d},l.length=m.length->(∀(i:Nat) x y,l[i]?=some x->m[i]?=some y->R x y)->Paired R l m
 |[],[],_,_=>.nil
 |x::l,y::m,h,f=>.cons (f 0 x y rfl rfl) (Paired.of_at 6#h fun i a b h1 h2=>f (i+1) a b 6#h1 6#h2)
 |[],_::_,h,_=>by simp at h
 |_::_,[],h,_=>by simp at h
end L2
end
section
namespace HT
open PySem PyProof.Rows
section
variable{prog:Program}{w:World}{A:Around}{E:Ω}{s:Shared}
def Le{t b:Addr}{lo hi:Option Int}{Q:Ω}(ht:IsTup s.heap t a)(hs:s.heap.IsSliceOf b c d .none)(j:IsPart c lo)(l:IsPart d hi)(hw:sIx a.size 0 lo=0/\sIx a.size a.size hi=a.size)(h:Q 5#t s):wpAny 0#0 A (getItem 5#t 5#b) Q E s:=by
 obtain⟨os,e,f,o⟩:=id hs;have g:s.TypeIs 5#b "slice":=⟨os,e,f⟩;obtain⟨p,v,q,r,u⟩:=id ht;unfold getItem
 try with_reducible refine AH ?_
 first|refine Aa 1#5|skip
 refine Aa (wpAny_sequenceKey ht.typeIs ξ ?_);refine Aa (A5 (name:=A6 "__getitem__") ht.typeIs Rc
  (AX Rc ht.typeIs entry_tuple_getitem ?_ (args_tuple_getitem _ _)))
 show wpAny _ _ (Builtin.Tuple.tupleItemsOf 5#t >>= _) _ _ s;refine Aa (tupleItemsOf_ ht ?_);refine Aa (wpAny_typeOf g ?_);rw[TH ξ];refine Aa (En hs j l ?_);have i:((((sIx a.size 0 lo:Nat):Int)==0&&(1:Int)==1&&(sIx a.size a.size hi-sIx a.size 0 lo)==a.size)=true):=by
  rw[hw.1,hw.2];simp
 show wpAny _ _ (if(((sIx a.size 0 lo:Nat):Int)==0&&(1:Int)==1&&(sIx a.size a.size hi-sIx a.size 0 lo)==a.size)=true then _ else _) _ _ s;rw[TH i];refine Aa ?_;unfold Builtin.Tuple.tupleIsExact;refine Aa (wpAny_typeOf ht.typeIs 1#5);rw[TH ξ];refine Aa (wpAny_rule ?_);exact Ac ⟨_,rfl,Ac h⟩
end
end HT
namespace L2
open PySem PySem.Spec PyProof.Rows
section
variable{X:Cx}
def kA:V->Option Int->Option Int->Hp->VK->Prop:=fun x lo hi H Q=>∃a xs,x=.ref a/\H a=some 52#xs/\∀p H',Same H H'->H' p=some 52#(b_ xs lo hi)->Q 5#p H'
def rG:qE X kA:=by
 intro aa s σ H x v f g lo hi i Q I c hs d e h;obtain⟨a,xs,rfl,hx,q⟩:=h
 by_cases hw:HT.sIx xs.length 0 lo=0/\HT.sIx xs.length xs.length hi=xs.length
 ·cases c
  obtain⟨j,r,ht,hz⟩:=I.tuple (SqT.of (K:=X.K) hx);have b:j.toArray.size=xs.length:=by rw[Aj];exact r.length.symm
  refine⟨"tuple",_,PyProof.Rows.slot_tuple_getitem.lookup,ht.typeIs,HT.Le ht hs d e (by rw[b];exact hw) ⟨.ref a,H,I,rfl,q a H (Same.refl H) ?_⟩⟩;rw[hx];unfold b_;rw[hw.1,hw.2,List.drop_zero,SQ,AA 0#10]
 ·exact xM aa s σ H 5#a v f g lo hi i Q I c hs d e ⟨a,xs,rfl,SqT.of hx,hw,fun p hp=>q p _ 62#hp ac⟩
end
end L2
end
section
namespace K67
open K1
open PySem L2
noncomputable def top(i:Nat):Stmt:=PySem.Challenge.pw_seamwright_k67_whole_bars_by_worths.main.body.getD i (.Pass ⟨0,0,0,0⟩)
noncomputable abbrev rL:Stmt:=top 8
noncomputable abbrev mF:Stmt:=top 9
noncomputable abbrev gd:Stmt:=top 11
noncomputable abbrev oR:Stmt:=top 12
noncomputable abbrev sAll:Stmt:=top 13
noncomputable abbrev rQ:Stmt:=top 17
structure Bt(mg:Str->Option Value):Prop where
 len:mg "len"=none
 all:mg "all"=none
 zip:mg "zip"=none
 sorted:mg "sorted"=none
 set:mg "set"=none
 list:mg "list"=none
 tuple:mg "tuple"=none
 range:mg "range"=none
 enumerate:mg "enumerate"=none
 int:mg "int"=none
 isinstance:mg "isinstance"=none
 reversed:mg "reversed"=none
 bool:mg "bool"=none
def ee:Ba "len"=some (.builtin "len"):=δ
def oS:Ba "all"=some (.builtin "all"):=δ
def Lf:Ba "zip"=some (.type "zip"):=δ
def ju:Ba "sorted"=some 2#7:=δ
def rR:Ba "set"=some (.type "set"):=δ
def kD:Ba "list"=some (.type "list"):=δ
def Cu:Ba "tuple"=some (.type "tuple"):=δ
def Cv:Ba "enumerate"=some (.type "enumerate"):=δ
def Lg:Ba "int"=some (.type "int"):=δ
def Lh:Ba "isinstance"=some (.builtin "isinstance"):=δ
def aj{n:Nat}(h:n<=100000):n<=sizeLine:=by rw[Bp];lia
def zP{n:Nat}(h:n<=100000):n<sizeLine:=by rw[Bp];lia
def Li(x:Int)(r:List Int):eR ((x::r).map V.int) (-1)=some 57#((x::r).getLastD 0):=by
 obtain⟨q,z,e⟩:∃q z,x::r=q++[z]:=⟨(x::r).dropLast,(x::r).getLast (List.cons_ne_nil x r),(List.dropLast_concat_getLast (List.cons_ne_nil x r)).symm⟩;rw[e,Ap,List.getLastD_eq_getLast?,List.getLast?_append];exact Js _ _
def oT{ps:List Int}{i:Nat}(h:(ps.map V.int)[i]?=some x):∃p,ps[i]?=some p/\x=.int p:=by
 rw[Ah] at h;cases e:ps[i]? with
 |none=>rw[e] at h;cases h
 |some p=>rw[e] at h;exact⟨p,rfl,(Ai h).symm⟩
def zM{as:List Addr}{i:Nat}(h:(2#2)[i]?=some x):∃a,as[i]?=some a/\x=.ref a:=by
 rw[Ah] at h;cases e:as[i]? with
 |none=>rw[e] at h;cases h
 |some p=>rw[e] at h;exact⟨p,rfl,(Ai h).symm⟩
def AR{a:Type}{l:List a}{i:Nat}{x:a}(h:l[i]?=some x):l.take (i+1)=l.take i++[x]:=by rw[QQ,h];rfl
def take_all{a:Type}(l:List a):l.take l.length=l:=AA 0#10
def Cz(x:Int)(r:List Int):b_ ((x::r).map V.int) 55#1 none=r.map V.int:=by
 unfold b_;have e:HT.sIx ((x::r).map V.int).length 0 55#1=1:=by
  have:=HT.nP ((x::r).map V.int).length 0 1;rw[show((1:Nat):Int)=1 from rfl] at this;rw[this,Ab,AB];lia
 rw[e,HT.qv];show List.take _ (r.map V.int)=_;rw[AA 2#0]
section
variable{P:Program}{w:World}{K:Af}{mg:Str->Option Value}{base:Heap}
def CA:Sp:=fun vs H Q _=>∃a ps,vs=[.ref a]/\Tp H a ps/\∀H',Same H H'->Q (.bl (zR ps)) H'
def Lj:zj ["numbers"] ["numbers"] 76#rL:=⟨rfl,rfl,rfl,δ,rfl,δ,δ⟩
def FF(F:Fun K "is_piece" "is_piece" rL f fd)(B:Bt mg)(X:mg "MOST_POINTS"=some (.int 5 U))(Y:mg "LAST_POINT"=some (.int 99 W)):az P w K mg base aK 1 f fd ["numbers"] CA:=by
 refine F.ok Lj 0#2 3#0
 ·obtain⟨a,ps,rfl,_⟩:=h;rfl
 ·obtain⟨a,ps,rfl,ha,k⟩:=h
  refine⟨_,zc (cI (ji (Jd qt qt ze 1#17 (lH rfl X (v:=.int 5) ⟨_,rfl⟩))) 64#eN zA)
   (zc (cI (PW.pt (qf (zq qq 59#zC ze (ay _)) (vF (zq nI (zx zC 7#0 (xp xB ze) 3#1) (lH rfl Y (v:=.int 99) ⟨_,rfl⟩) (ay _))))) 64#eN zA)
   (zf (zl (zm (ox rfl) rfl B.all oS (za
    (zw ["numbers"] ["low","high"] [none,none] (Kl rfl B.zip Lf (za 7#0 56#(kf xM 7#0 (kc ze) kb)))
     (fun I C s₀ H₀ ex=>lR rfl (zT (zh (i:=0) (cN ["low","high"]) rfl 2#1) (zT (zh (i:=1) (cN ["low","high"]) rfl 2#1) lQ)))
     (fun I C s₀ H₀ ex=>zE) (fun I C s₀ H₀ ex=>nJ qq 7#0 7#1 (ay _)) (hfr:=dA δ) (g:=iK K 2 (j6 (zX 0) (j6 (zX 1) iF)))) zb))))),?_⟩
  have o:zR ps=false->Q (.bl false) H:=fun e=>by have:=k H (Same.refl H);rw[e] at this;exact this
  refine⟨_,rfl,a,_,rfl,.inr (SqT.of ha),_,_,rfl,rfl,_,rfl,?_⟩;rw[Ab];refine eB (fun h1=>?_) (fun h1=>?_)
  ·refine⟨_,_,rfl,rfl,_,rfl,?_⟩
   have b:1<=ps.length:=by have:=TN h1;lia
   cases h5:decide ((ps.length:Int)<=5) with
   |false=>
    have c:¬ps.length<=5:=by have:=of_decide_eq_false h5;lia
    exact bg (o (by unfold zR;rw[TL c];simp))
   |true=>
    have c:ps.length<=5:=by have:=TN h5;lia
    refine a6 ?_;obtain⟨x,r,rfl⟩:∃x r,ps=x::r:=by
     cases ps with
     |nil=>simp at b
     |cons x r=>exact⟨x,r,rfl⟩
    refine⟨_,rfl,a,_,_,_,rfl,rfl,SqT.of ha,im (j:=0) rfl,_,_,rfl,rfl,_,rfl,?_⟩;refine eB (fun hx=>?_) (fun hx=>?_)
    ·refine bg (o ?_)
     unfold zR;rw[show decide ((x::r).headD 0<0)=true from hx];simp
    ·refine⟨_,rfl,_,rfl,a,_,_,_,rfl,rfl,SqT.of ha,Li x r,_,_,rfl,rfl,_,rfl,?_⟩
     cases hl:decide (99<(x::r).getLastD 0) with
     |true=>
      refine bg (o ?_);unfold zR;rw[hl];simp
     |false=>
      refine a6 ?_;refine⟨_,rfl,_,rfl,_,rfl,a,_,rfl,SqT.of ha,?_,fun p hp=>?_⟩
      ·intro z
       have e:=HT.nP ((x::r).map V.int).length 0 1;rw[show((1:Nat):Int)=1 from rfl,z.1,Ab,AB] at e;lia
      ·rw[Cz]
       have G:Same H (upd H p 52#(r.map V.int)):=Same.new hp;refine⟨a,p,rfl,⟨_,SqT.of (G.tp ha)⟩,⟨_,SqT.of ac⟩,fun D J=>?_⟩;have hm:min ((x::r).map V.int).length (r.map V.int).length=r.length:=by simp
       refine zy (Kp (K:=K) (xs:=(x::r).map V.int) (ys:=r.map V.int) (fun i σ zs d=>∃u y,σ=[u,y]/\Same (upd H p 52#(r.map V.int)) d/\d D=some 8#zs/\zs=((((x::r).zip r).map fun q=>decide (q.1<q.2)).take i).map V.bl)
        ⟨none,none,rfl,Same.new J,ac,rfl⟩ (fun i σ zs d ⟨_,_,_,sm,_⟩=>⟨SqT.of (sm.tp (G.tp ha)),SqT.of (sm _ _ ac)⟩) ?_ ?_)
       ·rintro i σ zs d N y1 y2 e1 e2 hi hz ⟨u,y,rfl,sm,l,rfl⟩ L
        obtain⟨O,g1,rfl⟩:=oT e1;obtain⟨S,g2,rfl⟩:=oT e2;refine⟨N,_,rfl,SqT.of ac,rfl,_,_,rfl,_,_,rfl,rfl,kz ?_⟩;refine⟨_,rfl,_,rfl,_,_,rfl,rfl,bK (AG (Tj _ _) (by rw[Ab];exact aj (by simp at c;lia))) hi hz (by rw[al (zg l L)];exact l) ⟨_,_,rfl,?_,ac,?_⟩⟩
        ·exact(sm.then (sm.free L)).then J
        ·have e3:(((x::r).zip r).map fun q=>decide (q.1<q.2))[i]?=some (decide (O<S)):=by
          rw[Ah,aZ.bh,g1,g2];rfl
         rw[AR e3,Ap];rfl
       ·rintro σ zs d ⟨u,y,rfl,sm,l,rfl⟩
        refine⟨D,(((x::r).zip r).map fun q=>decide (q.1<q.2)),rfl,SqL.of ?_,?_⟩
        ·rw[l,hm,AA 2#0]
        ·have:=k d (G.trans sm)
         have M:=FB (x::r);rw[show(x::r).drop 1=r from rfl] at M;rw[M];have T:zR (x::r)=a0 (x::r):=by
          unfold zR;rw[TK b,TK c,hl];rw[show decide ((x::r).headD 0<0)=false from by simpa using hx]
          rfl
         rw[T] at this;exact this
  ·refine⟨_,rfl,bg (o ?_)⟩
   have b:¬1<=ps.length:=fun z=>h1 (TK ω);unfold zR;rw[TL b]
   rfl
end
end K67
end
section
namespace K67
open K1
open PySem L2
section
variable{P:Program}{w:World}{K:Af}{mg:Str->Option Value}{base:Heap}
def rS:Sp:=fun vs H Q _=>∃a ps,vs=[.ref a]/\Tp H a ps/\ps.length<=5/\∀D as H',Same H H'->H D=none->H' D=some 8#(as.map V.ref)->Tps H' as (parts ps)->Q 5#D H'
def rT:zj ["piece","found","point"] ["piece"] 76#mF:=⟨rfl,rfl,rfl,δ,rfl,δ,δ⟩
def gf{n:Nat}(h:n<=5):2 ^ n<=32:=by
 have:2 ^ n<=2 ^ 5:=SH ξ h;exact this
def FG{H2:Hp}{as:List Addr}{fs:Ξ}{q:Int}{Q:VK}(F:H2 l=some 8#(as.map V.ref))(ht:Tps H2 as fs)(hz:as.length<=100)(G:∀f∈fs,f.length<=100)(r:H2 D=none)(k:∀bs b,Same H2 b->b D=some 8#(bs.map V.ref)->Tps b bs (fs.map (·++[q]))->Q 5#D b):cK (dQ K l) (zX 0) bM (bS BH 71#0 (cy (zK 71#1 bw))) [none,some 57#q] H2 D Q:=by
 have C:=ht.length;refine zJ (xs:=as.map V.ref) (fun j σ ys b=>∃bs v,σ=[v,some 57#q]/\Same H2 b/\b D=some 8#ys/\ys=bs.map V.ref/\Tps b bs ((fs.take j).map (·++[q]))) ?_ ?_ ?_ ?_
 ·exact⟨[],none,rfl,Same.new r,ac,rfl,.nil⟩
 ·rintro j σ ys b ⟨bs,v,rfl,sm,d,rfl,hb⟩
  exact SqL.of (sm _ _ F)
 ·rintro j σ ys b x hx y hy ⟨bs,v,rfl,sm,d,rfl,hb⟩
  obtain⟨a,A,rfl⟩:=zM hx;obtain⟨f,i,hf⟩:=ht.get A;refine ca ?_;refine⟨_,rfl,_,rfl,aj 2#0,fun t u=>?_⟩;have E:=sm.tp hf;have o:Same b (upd b t (.tup [.int q])):=Same.new u;refine⟨a,t,_,_,rfl,rfl,o _ _ E,ac,?_,fun p h w hp=>?_⟩
  ·rw[Ab]
   exact aj (by have:=G f (Ak i);simp;lia)
  ·have g:Same b h:=o.trans w
   refine bK (ys:=bs.map V.ref) (by rw[Ab];exact aj ω) y hy (g _ _ d) ⟨bs++[p],_,rfl,(63#g).then r,ac,by rw[Ap];rfl,?_⟩;rw[AR i,Ap];have H:p≠D:=dH hp (g _ _ d) 1#8;have keep:∀c xs,h c=some 52#xs->upd h D 8#(bs.map V.ref++[V.ref p]) c=some 52#xs:=fun c xs e=>by
    rw[al (dH e (g _ _ d) 1#8)];exact e
   refine Tps.snoc (Paired.mapP (g.tps hb) fun c xs e=>keep c _ e) (keep p _ ?_);rw[hp,Ap];rfl
 ·rintro σ ys b ⟨bs,v,rfl,sm,d,rfl,hb⟩
  rw[Ab,C,take_all] at hb;exact k bs b sm d hb
def Lk(F:Fun K "parts_of" "parts_of" mF f fd):az P w K mg base aK 1 f fd ["piece"] rS:=by
 refine F.ok rT 0#2 3#0
 ·obtain⟨a,ps,rfl,_⟩:=h;rfl
 ·obtain⟨a,ps,rfl,ha,O,k⟩:=h
  refine⟨_,zc (zk (i:=1) rT.nd rfl 2#1 (zW 56#(zQ zb)))
   (zc (zY AZ rfl (wy 7#0) (zh (i:=2) rT.nd rfl (Or.inr rfl))
    (zf (zk (i:=1) rT.nd rfl 2#1 (zv lZ 7#1 (zw ["piece","found","point"] ["part","point"] [none,some 2] (zu 7#1) (fun j C s₀ H₀ ex=>zh (i:=0) (cN ["part","point"]) rfl 2#1) (fun j C s₀ H₀ ex=>zE)
     (fun j C s₀ H₀ ex=>zv rf 7#0 (zQ (za 7#1 zb))) (hfr:=bX 76#mF δ))))))
   64#(kf Jy 7#1 (kc ze) kb)),?_⟩
  refine⟨aj 2#0,fun e he=>⟨aj 2#0,fun l b=>?_⟩⟩;have p:Same H (upd (upd H e (.tup [])) l (.lst [.ref e])):=(62#he).then ((62#he).free b);have J:e≠l:=zg (H:=upd H e (.tup [])) ac b;refine⟨_,rfl,a,rfl,⟨_,SqT.of (p _ _ ha)⟩,D_ (K:=K) (a:=a) (xs:=ps.map V.int) 2#19
   ⟨l,[e],none,rfl,p,(62#he).free b,ac,.cons (by show upd _ _ _ e=_;rw[al J];exact ac) .nil⟩ (fun i σ H2 _ ⟨_,_,_,_,sm,_⟩=>SqT.of (sm _ _ ha)) ?_ ?_⟩
  ·rintro i x σ H2 hx ⟨l,as,v,rfl,sm,G,b,ht⟩
   obtain⟨q,eq,rfl⟩:=oT hx;have hi:i<ps.length:=(69#eq).1;have L:=ht.length;have S:as.length<=32:=by
    rw[L,rE,AE];exact gf ω
   have hm:∀f∈subs (ps.take i),f.length<=100:=fun f hf=>by
    have:=FA _ f hf;rw[AE] at this;lia
   refine⟨_,rfl,_,rfl,l,rfl,⟨_,SqL.of b⟩,fun D d=>zy (FG b ht ω hm d fun bs T g y hb=>?_)⟩;have M:=hb.length;rw[Ab] at M;refine⟨l,D,_,_,rfl,rfl,g _ _ b,y,by rw[Ab,Ab];exact aj ω,fun o c=>?_⟩;have r:H o=none:=(63#g).free c;refine⟨o,as++bs,_,rfl,(63#g).then r,r,by rw[ac,Ap],?_⟩;rw[AR eq,Ck];exact(Same.new c).tps ((g.tps ht).append hb)
  ·rintro σ H2 ⟨l,as,v,rfl,sm,G,b,ht⟩
   rw[Ab,take_all] at ht;refine⟨_,rfl,_,rfl,l,_,rfl,SqL.of b,fun D d=>?_⟩;have u:H D=none:=sm.free d;obtain⟨t,I,_⟩:=Cn ps;refine k D (as.drop 1) _ (sm.then u) u ?_ ?_
   ·rw[ac]
    unfold b_;have N:1<=as.length:=by rw[ht.length,I];simp
    have e1:HT.sIx (2#2).length 0 55#1=1:=by
     have:=HT.nP (2#2).length 0 1;rw[show((1:Nat):Int)=1 from rfl] at this;rw[this,Ab];lia
    rw[e1,HT.qv,<-Tg,AA 2#0]
   ·exact(Same.new d).tps (ht.drop 1)
def Ll:zj ["piece"] ["piece"] 76#gd:=⟨rfl,rfl,rfl,δ,rfl,δ,δ⟩
def Lm(F:Fun K "order_key" "order_key" gd f fd)(B:Bt mg):az P w K mg base aK 1 f fd ["piece"] rn:=by
 refine F.ok Ll 0#2 3#0
 ·obtain⟨a,ps,rfl,_⟩:=h;rfl
 ·obtain⟨a,ps,rfl,ha,k⟩:=h
  refine⟨_,zf (zl (zQ (za 1#17 1#9))),?_⟩;refine⟨_,rfl,a,_,rfl,.inr (SqT.of ha),_,rfl,aj 2#0,fun p hp=>?_⟩;rw[Ab];exact k p hp
def FH(K:Af):Sp:=fun vs H Q _=>∃l as ab,vs=[.ref l]/\SqL K H l 2#2/\Tps H as ab/\ab.length<64/\
 ∀D H2(c:List 3#7),Same H H2->H D=none->H2 D=some 8#(c.map fun q=>V.ref q.2)->c.Perm (ab.zip as)->c.Pairwise 3#10->Q 5#D H2
def Ln:zj ["some"] ["some"] 76#oR:=⟨rfl,rfl,rfl,δ,rfl,δ,δ⟩
def Lo(F:Fun K "in_order" "in_order" oR f fd)(B:Bt mg)(g:Fun K "order_key" "order_key" gd b c)(bk:Binds K c ["piece"] [])(mk:mg "order_key"=some 5#b):az P w K mg base aK 4 f fd ["some"] (FH K):=by
 have e:az P w K mg base aK 1 b c ["piece"] rn:=Lm g B;refine F.ok Ln 0#2 3#0
 ·obtain⟨l,as,ab,rfl,_⟩:=h;rfl
 ·obtain⟨l,as,ab,rfl,d,ht,a,k⟩:=h
  refine⟨_,zf (zl (KG e hr bk rfl B.sorted ju rfl mk 1#9)),?_⟩;exact⟨_,rfl,l,as,ab,rfl,d,ht,a,k⟩
end
end K67
end
section
namespace K67
open K1
open PySem L2 STb
noncomputable def Tps.upd(h:Tps H as ab)(hd:H d=some o')(b:∀xs,o'≠.tup xs):Tps (L2.upd H d o) as ab:=
 Paired.mapP h fun a ps e=>by
  show L2.upd H d o a=_;rw[al (dH (show H a=some _ from e) hd fun z=>b _ z.symm)];exact e
noncomputable def eJ(seq:Ξ):List 4#6:=(dd seq).map fun ps=>((ps.map Sum.inl:List Key),V.bl true)
def CB(seq:Ξ):(eJ seq).length<=seq.length:=by unfold eJ;rw[Ab];exact ix seq
def CC(seq:Ξ)(ps:List Int):putK (eJ seq) (ps.map Sum.inl) (.bl true)=eJ (seq++[ps]):=by
 unfold putK eJ;rw[iX];have ha:(((dd seq).map fun ps=>((ps.map Sum.inl:List Key),V.bl true)).any fun kv=>decide (kv.1=ps.map Sum.inl))=decide (ps∈dd seq):=by
  rw[List.any_map]
  by_cases h:ps∈dd seq
  ·rw[TK h,Ri]
   exact⟨ps,h,by simp⟩
  ·rw[TL h,Su]
   intro q hq;simp only[Function.comp,decide_eq_true_eq,iu];rintro rfl;exact h hq
 rw[ha]
 by_cases h:ps∈dd seq
 ·rw[TK h,TH rfl,TH h,An]
  refine AC fun q hq=>?_;simp only[Function.comp];split<;>rfl
 ·rw[TL h,TJ 2#0,TJ h,Ap]
  rfl
def FI{H:Hp}{seq:Ξ}{bs:List Addr}(h:Paired 0#6 (eJ seq) bs):Tps H bs (dd seq):=by
 unfold eJ at h;generalize dd seq=l at h
 induction l generalizing bs with
 |nil=>cases h;exact .nil
 |cons x l ih=>
  rw[Aw] at h;cases h with
  |cons r t=>
   refine .cons ?_ (ih t);show H _=_;rw[r,An]
   rfl
def CD(ab:Ξ)(h:∀ps∈ab,ps.length<=5):(2#4).length<=31*ab.length:=by
 induction ab with
 |nil=>simp
 |cons x l ih=>
  rw[QE,Az,mx,AB];have:=ih fun ps hp=>h ps (Ar _ hp);have:=gf (h x Av);lia
def FJ{ab:Ξ}{i:Nat}(h:ab[i]?=some ps):(ab.take (i+1)).flatMap parts=(ab.take i).flatMap parts++parts ps:=by
 rw[AR h,SM];simp
def Told(H H2:Hp)(ab:Ξ)(D:Addr)(c:List 3#7):Prop:=
 Same H H2/\H D=none/\H2 D=some 8#(c.map fun q=>V.ref q.2)/\(∀q∈c,Tp H2 q.2 q.1)/\(c.map 2#3).Perm (dd 2#4)/\c.Pairwise 3#10
section
variable{P:Program}{w:World}{K:Af}{mg:Str->Option Value}{base:Heap}
def oV(K:Af):Sp:=fun vs H Q _=>∃l as ab,vs=[.ref l]/\SqL K H l 2#2/\Tps H as ab/\(∀ps∈ab,ps.length<=5)/\ab.length<=20/\(dd 2#4).length<64/\∀D H2 a,Told H H2 ab D a->Q 5#D H2
def rZ:zj ["some","found","piece","part"] ["some"] 76#sAll:=⟨rfl,rfl,rfl,δ,rfl,δ,δ⟩
def FK(F:Fun K "all_parts" "all_parts" sAll f fd)(B:Bt mg)(Fp:Fun K "parts_of" "parts_of" mF fp M)(bp:Binds K M ["piece"] [])(mp:mg "parts_of"=some 5#fp)(Fo:Fun K "in_order" "in_order" oR fo N)(bo:Binds K N ["some"] [])(mo:mg "in_order"=some 5#fo)(Fk:Fun K "order_key" "order_key" gd fk cD)(bk:Binds K cD ["piece"] [])(mk:mg "order_key"=some 5#fk):az P w K mg base aK 5 f fd ["some"] (oV K):=by
 have Gp:az P w K mg base aK 1 fp M ["piece"] rS:=Lk Fp;have Go:az P w K mg base aK 4 fo N ["some"] (FH K):=Lo Fo B Fk bk mk;refine F.ok rZ 0#2 3#0
 ·obtain⟨l,as,ab,rfl,_⟩:=h;rfl
 ·obtain⟨l,as,ab,rfl,T,ht,U,fE,G,k⟩:=h
  have hu:=dN hr;have cJ:Room 1 _:=hr.mono ξ;refine⟨_,zc (zk (i:=1) rZ.nd rfl 2#1 km)
   (zc (zY AZ rfl (zu 7#0) (zh (i:=2) rZ.nd rfl 2#1)
    (zf (zY AZ rfl (zu (zI Gp cJ rfl mp Fp.kp bp .nil av (za 7#2 zb))) (zh (i:=3) rZ.nd rfl 2#1)
     (zf (gS hu 7#1 7#3 eN rfl)))))
   64#(zI Go hr rfl mo Fo.kp bo .nil av 56#(zB (EZ rfl) rfl B.list kD (za 7#1 zb)))),?_⟩
  intro d hd;have aE:=ht.length;refine⟨_,rfl,l,rfl,⟨_,(62#hd).seq T⟩,gC (K:=K) (a:=l) (xs:=as.map V.ref) (fun i σ H2=>∃v g,σ=[some 5#l,some 5#d,v,g]/\Same H H2/\H2 d=some 51#(eJ ((ab.take i).flatMap parts)))
   ⟨none,none,rfl,Same.new hd,ac⟩ (fun i σ H2 _ ⟨_,_,_,sm,_⟩=>sm.seq T) ?_ ?_⟩
  ·rintro i x σ H2 hx ⟨v,g,rfl,sm,u⟩
   obtain⟨a,ea,rfl⟩:=zM hx;obtain⟨ps,I,dy⟩:=ht.get ea;have X:=U ps (Ak I);have hi:i<ab.length:=(69#I).1;refine⟨_,rfl,a,ps,rfl,sm.tp dy,X,fun D cs H3 p bR r O=>⟨D,rfl,⟨_,SqL.of r⟩,?_⟩⟩;have nO:=O.length;have nR:D≠d:=dH r (p _ _ u) 1#8;refine gC (K:=K) (a:=D) (xs:=cs.map V.ref) (fun j σ o=>∃g,σ=[some 5#l,some 5#d,some 5#a,g]/\Same H o/\o D=some 8#(cs.map V.ref)/\Tps o cs (parts ps)/\o d=some 51#(eJ 0#19))
    ⟨_,rfl,sm.trans p,r,O,by rw[R3,Ro];exact p _ _ u⟩ (fun j σ o _ ⟨_,_,_,q,_⟩=>SqL.of q) ?_ ?_
   ·rintro j x σ o hx ⟨g,rfl,J,W,L,y⟩
    obtain⟨c,ec,rfl⟩:=zM hx;obtain⟨f,ef,hf⟩:=L.get ec;have C:(eJ 0#19).length<sizeLine:=by
     refine zP (AG (CB _) ?_);rw[Az];have h1:=CD (ab.take i) (fun q hq=>U q (R4 hq));have h2:=mx ps;have h3:=gf X;rw[AE] at h1 ⊢;lia
    refine⟨_,rfl,_,rfl,d,_,rfl,DPut.t (k:=f.map Sum.inl) y (by rw[An];exact hf) C,⟨_,rfl,J.then hd,?_,?_,?_⟩⟩
    ·rw[al nR];exact W
    ·exact Tps.upd L y 3#8
    ·rw[ac,CC,Te,<-AR ef]
   ·rintro σ o ⟨g,rfl,J,W,L,y⟩
    refine⟨_,_,rfl,J,?_⟩;rw[Ab,nO,take_all] at y;rw[FJ I];exact y
  ·rintro σ H2 ⟨v,g,rfl,sm,u⟩
   rw[Ab,aE,take_all] at u;refine⟨_,rfl,d,_,rfl,u,fun bs hb S e=>?_⟩;have tb:=FI hb;have iJ:=tb.length;refine⟨S,bs,dd 2#4,rfl,SqL.of ac,(62#e).tps tb,G,fun D H3 qs p r ag hp hs=>?_⟩;have Y:H S=none:=sm.free e;refine k D H3 qs ⟨(sm.then Y).trans p,(sm.then Y).free r,ag,fun q hq=>?_,?_,hs⟩
   ·obtain⟨m,em⟩:=Ql.mp (hp.mem_iff.mp hq)
    rw[aZ.bh] at em;cases e1:(dd 2#4)[m]? with
    |none=>rw[e1] at em;cases em
    |some f=>
     cases e2:bs[m]? with
     |none=>rw[e1,e2] at em;cases em
     |some b=>
      rw[e1,e2] at em;obtain rfl:(f,b)=q:=Ai em;exact p.tp ((62#e).tp (iU tb m b f e2 e1))
   ·have:=hp.map 2#3
    rw[Rw ω] at this;exact this
def FM(K:Af):Sp:=fun vs H Q _=>∃l as ab,vs=[.ref l]/\SqL K H l 2#2/\Tps H as ab/\(ab.all zR=true->(dd 2#4).length<64)/\∀H',Same H H'->Q (.bl (bT ab)) H'
def Lp:zj ["web"] ["web"] 76#rQ:=⟨rfl,rfl,rfl,δ,rfl,δ,δ⟩
def Lq(F:Fun K "is_web" "is_web" rQ f fd)(B:Bt mg)(m5:mg "MOST_POINTS"=some (.int 5 t5))(mW:mg "LAST_POINT"=some (.int 99 nM))(om:mg "MOST_HANDED"=some (.int 20 J))(g_:mg "MOST_PIECES"=some (.int 200 gX))(Fi:Fun K "is_piece" "is_piece" rL y G)(bi:Binds K G ["numbers"] [])(mi:mg "is_piece"=some 5#y)(Fa:Fun K "all_parts" "all_parts" sAll fa I)(ba:Binds K I ["some"] [])(ma:mg "all_parts"=some 5#fa)(Fp:Fun K "parts_of" "parts_of" mF fp U)(bp:Binds K U ["piece"] [])(mp:mg "parts_of"=some 5#fp)(Fo:Fun K "in_order" "in_order" oR fo W)(bo:Binds K W ["some"] [])(mo:mg "in_order"=some 5#fo)(Fk:Fun K "order_key" "order_key" gd T X)(bk:Binds K X ["piece"] [])(mk:mg "order_key"=some 5#T):az P w K mg base aK 6 f fd ["web"] (FM K):=by
 have Gi:az P w K mg base aK 1 y G ["numbers"] CA:=FF Fi B m5 mW;have Ga:az P w K mg base aK 5 fa I ["some"] (oV K):=FK Fa B Fp bp mp Fo bo mo Fk bk mk;refine F.ok Lp 0#2 3#0
 ·obtain⟨l,as,ab,rfl,_⟩:=h;rfl
 ·obtain⟨l,as,ab,rfl,d,ht,u,k⟩:=h
  have bB:=hr.units;have cJ:Room 1 _:=hr.mono ξ;refine⟨_,zc (cI (zq nI 1#17 (lH rfl om (v:=.int 20) ⟨_,rfl⟩) (ay _)) 64#eN zA)
   (zc (cI (ji (jV (zm (ox rfl) rfl B.all oS (za
    (zw ["web"] ["numbers"] [none] (zu 7#0) (fun L C s₀ H₀ ex=>zh (i:=0) (cN ["numbers"]) rfl 2#1) (fun L C s₀ H₀ ex=>zE)
     (fun L C s₀ H₀ ex=>zI Gi cJ rfl mi Fi.kp bi .nil av 1#9) (hfr:=dA δ)) zb)))) 64#eN zA)
   (zc (cI (zq qq (zm K9 rfl B.len ee 56#(zB (K8 rfl bB) rfl B.set rR 1#9)) 1#17 (ay _)) 64#eN zA)
   64#(nJ qt (zm zo rfl B.len ee 56#(zI Ga hr rfl ma Fa.kp ba .nil av 1#9)) (lH rfl g_ (v:=.int 200) ⟨_,rfl⟩) (ay _)))),?_⟩
  have N:=ht.length;refine⟨_,rfl,l,_,rfl,.inl d,_,_,rfl,rfl,_,rfl,?_⟩;rw[Ab];refine eB (fun h1=>?_) (fun h1=>?_)
  ·have:=k H (Same.refl H)
   rw[Ld ab (by have:=TN h1;lia)] at this;exact this
  ·have O:ab.length<=20:=by
    have:¬((20:Int)<as.length):=fun z=>h1 (TK z);lia
   refine⟨_,rfl,l,rfl,⟨_,d⟩,fun D M=>zy (zJ (K:=K) (a:=l) (xs:=as.map V.ref) (fun i σ ys c=>∃v,σ=[v]/\Same H c/\c D=some 8#ys/\ys=((ab.map zR).take i).map V.bl)
    ⟨none,rfl,Same.new M,ac,rfl⟩ (fun i σ ys c ⟨_,_,sm,_⟩=>sm.seq d) ?_ ?_)⟩
   ·rintro i σ ys c x hx hi hy ⟨v,rfl,sm,p,rfl⟩
    obtain⟨a,ea,rfl⟩:=zM hx;obtain⟨ps,cV,r⟩:=ht.get ea;refine ca ?_;refine⟨_,rfl,a,ps,rfl,sm.tp r,fun Y o=>bK (by rw[Ab];exact aj ω) hi hy (o _ _ p) ⟨_,rfl,(63#o).then M,ac,?_⟩⟩;have e:(ab.map zR)[i]?=some (zR ps):=by rw[Ah,cV];rfl
    rw[AR e,Ap];rfl
   ·rintro σ ys c ⟨v,rfl,sm,p,rfl⟩
    rw[Ab,N,AA 2#0] at p;refine⟨D,ab.map zR,rfl,SqL.of p,_,rfl,?_⟩;have n6:(ab.map zR).all id=ab.all zR:=by rw[Tu];rfl
    rw[n6];cases hp:ab.all zR with
    |false=>
     refine bg ?_;have:=k c sm;rw[show bT ab=false from by unfold bT;rw[hp];simp] at this;exact this
    |true=>
     refine a6 ?_;refine⟨_,rfl,l,as,ab,rfl,sm.seq d,sm.tps ht,ω,fun S hS=>?_⟩;have g:Same H (upd c S (hH S (dd ab).length)):=sm.then (sm.free hS);refine⟨S,_,rfl,ac,_,rfl,l,_,rfl,.inl (g.seq d),_,_,rfl,rfl,_,rfl,?_⟩;rw[Ab,N];refine eB (fun h2=>?_) (fun h2=>?_)
     ·have b:(dd ab).length<ab.length:=by have:=TN h2;lia
      have:=k _ g;rw[show bT ab=false from by unfold bT;rw[TK b];simp] at this;exact this
     ·have b:¬(dd ab).length<ab.length:=fun z=>h2 (TK ω)
      refine⟨_,rfl,l,as,ab,rfl,g.seq d,g.tps ht,fun ps r=>?_,O,u hp,fun D2 Y qs ⟨o,_,cv,_,aS,_⟩=>?_⟩
      ·have:=Qp.mp hp ps r
       unfold zR at this;simp only[AS,decide_eq_true_eq] at this;exact this.1.1.1.2
      ·refine⟨D2,_,rfl,.inl (SqL.of cv),_,_,rfl,rfl,?_⟩
       have j:(qs.map fun q=>V.ref q.2).length=(dd 2#4).length:=by
        rw[Ab,<-aS.length_eq,Ab]
       rw[j];have:=k Y (g.trans o);have e:bT ab=decide (((dd 2#4).length:Int)<=200):=by
        unfold bT;rw[hp,TK O,TL b]
        by_cases q:(dd 2#4).length<=200
        ·rw[TK q,TK (show((dd 2#4).length:Int)<=200 from ω)];rfl
        ·rw[TL q,TL (show ¬((dd 2#4).length:Int)<=200 from ω)];rfl
       rw[e] at this;exact this
end
end K67
end
section
namespace L2
open PySem PySem.Spec PyProof.Rows
def Lr(i j:Int):Prop:=0<j/\j<1180591620717411303424
section
variable{X:Cx}
def CF:cw X (binaryOp .FloorDiv) (rI Lr fun i j=>.int (i / j)):=qm fun i j _ _ _ _ _ hc q=>by
 have h1:(0:Int)<j:=hc.1;have h2:j<1180591620717411303424:=hc.2;refine floordiv_int ω (by rw[Int.fdiv_eq_ediv_of_nonneg i ω];exact q) 74#(PyProof.noPylong_of_log2 ?_);have a:j.natAbs≠0:=ω
 have b:j.natAbs.log2<70:=(Nat.log2_lt a).mpr ω;lia
end
end L2
end
section
namespace K67
open K1
open PySem L2 STb
noncomputable abbrev CG:Stmt:=top 44
noncomputable abbrev kM:Stmt:=top 45
noncomputable abbrev oW:Stmt:=top 46
def FN(x y:Int):Prop:=0<=x/\(y=0\/(y=1/\x<4294967296))
def zO(H:Hp)(p:Addr):Prop:=∃x y,H p=some (.lst [.int x,.int y])/\FN x y
def zG(p:Addr)(H H':Hp):Prop:=∀b o,b≠p->H b=some o->H' b=some o
def zG.trans(a:zG p H H1)(b:zG p H1 H2):zG p H H2:=fun c o hc e=>b c o hc (a c o hc e)
def zG.of(a:Same H H1):zG p H H1:=fun c o _ e=>a c o e
def zG.free(e:zG p H H')(hb:zO H p)(hb':zO H' p)(h:H' l=none):H l=none:=by
 cases q:H l with
 |none=>rfl
 |some o=>
  obtain⟨x,y,e1,_⟩:=hb';have a:l≠p:=fun z=>by rw[z,e1] at h;cases h
  rw[e l o a q] at h;cases h
def zO.same(b:zO H p)(e:Same H H'):zO H' p:=let ⟨x,y,h,o⟩:=b;⟨x,y,e _ _ h,o⟩
def zO.ne{as:List Addr}(b:zO H p)(h:H l=some 8#(as.map V.ref)):l≠p:=by
 obtain⟨x,y,e,_⟩:=b;refine dH h e fun z=>?_;injection z with z
 cases as with
 |nil=>cases z
 |cons a r=>rw[Aw] at z;cases z
def zO.net{p t:Addr}(b:zO H p)(h:H t=some 52#xs):t≠p:=by
 obtain⟨x,y,e,_⟩:=b;exact dH h e 1#8
def zG.tp(e:zG p H H')(b:zO H p)(h:Tp H a ps):Tp H' a ps:=e _ _ (b.net h) h
def zG.tps(e:zG p H H')(b:zO H p)(h:Tps H as ab):Tps H' as ab:=Paired.mapP h fun _ _ q=>e.tp b q
def zG.then(e:zG p H H1)(h:H a=none):zG p H (L2.upd H1 a o):=fun b u hb q=>by rw[al (zg q h)];exact e b u hb q
noncomputable def zO.upd{p l:Addr}(b:zO H p)(h:l≠p):zO (L2.upd H l o) p:=let ⟨x,y,e,k⟩:=b;⟨x,y,by rw[al h.symm];exact e,k⟩
def zO.new(b:zO H p)(h:H l=none):zO (L2.upd H l o) p:=b.same 62#h
section
variable{P:Program}{w:World}{K:Af}{mg:Str->Option Value}{base:Heap}
def FO(K:Af):Sp:=fun vs H Q _=>∃(l:Addr)(ns:List Int),vs=[.ref l,.int 0]/\SqL K H l 1#18/\∀n,Q 57#n H
def Ls:zj ["script","k"] ["script","k"] 76#CG:=⟨rfl,rfl,rfl,δ,rfl,δ,δ⟩
def Lu(F:Fun K "_law_cell_at" "_law_cell_at" CG f fd)(B:Bt mg):az P w K mg base aK 1 f fd ["script","k"] (FO K):=by
 refine F.ok Ls 0#2 3#0
 ·obtain⟨l,ns,rfl,_⟩:=h;rfl
 ·obtain⟨l,ns,rfl,a,k⟩:=h
  refine⟨_,zc (cI (zq qq 7#1 1#17 (ay _)) 64#(zx zD 7#0 7#1 3#1) zA) 64#ze,?_⟩;refine⟨_,rfl,_,rfl,l,_,rfl,.inl a,_,_,rfl,rfl,_,rfl,?_⟩;refine eB (fun h1=>?_) (fun h1=>?_)
  ·cases ns with
   |nil=>have:=TN h1;simp at this
   |cons n ns=>exact⟨_,rfl,_,rfl,l,_,_,_,rfl,rfl,a,im (j:=0) rfl,k n⟩
  ·exact k 0
def FP:Sp:=fun vs H Q _=>∃n,vs=[.int n]/\∀p x y,H p=none->FN x y->Q 5#p (upd H p (.lst [.int x,.int y]))
def Lv:zj ["cell"] ["cell"] 76#kM:=⟨rfl,rfl,rfl,δ,rfl,δ,δ⟩
def Lw(F:Fun K "_law_box" "_law_box" kM f fd):az P w K mg base aK 1 f fd ["cell"] FP:=by
 refine F.ok Lv 0#2 3#0
 ·obtain⟨n,rfl,_⟩:=h;rfl
 ·obtain⟨n,rfl,k⟩:=h
  refine⟨_,zc (cI (zq Jb 7#0 (zv qo ze ze) (ay _)) 64#(zW (za (zv nD 7#0 (zv qo ze ze)) 56#ze)) zA)
   64#(zW (za (zv il (zv eP (zv gF (zv il 7#0 (zv qo ze ze)) ze) ze) ze) 56#ze)),?_⟩
  have hc:nC 10 18:=⟨ξ,ξ,ξ⟩;have a:(10:Int) ^ (18:Int).toNat=1000000000000000000:=ξ
  refine⟨_,rfl,_,_,rfl,rfl,hc,_,_,rfl,rfl,_,rfl,?_⟩;refine eB (fun h1=>?_) (fun h1=>?_)
  ·refine⟨_,rfl,_,_,rfl,rfl,hc,_,_,rfl,rfl,aj 2#0,fun p hp=>k p _ 0 hp ⟨?_,.inl rfl⟩⟩
   have:=TN h1;lia
  ·refine⟨_,rfl,_,_,rfl,rfl,hc,_,_,rfl,rfl,(by show(0:Int)<10 ^ (18:Int).toNat;rw[a];decide),_,_,rfl,rfl,.inr ⟨ξ,ξ⟩,_,_,rfl,rfl,_,_,rfl,rfl,(by show(0:Int)<2147483629;decide),aj 2#0,fun p hp=>k p _ 1 hp ⟨?_,.inr ⟨rfl,?_⟩⟩⟩
   ·exact Rp _ ξ
   ·have:=Q4 (n%10 ^ (18:Int).toNat*69621+7001) (show(0:Int)<2147483629 from ξ)
    lia
def oX:Sp:=fun vs H Q _=>∃p m,vs=[.ref p,.int m]/\zO H p/\0<m/\m<1180591620717411303424/\∀r H',0<=r->r<m->zG p H H'->zO H' p->Q 57#r H'
def CH:zj ["box","most","found","mixed"] ["box","most"] 76#oW:=⟨rfl,rfl,rfl,δ,rfl,δ,δ⟩
def CI(F:Fun K "_law_take" "_law_take" oW f fd):az P w K mg base aK 1 f fd ["box","most"] oX:=by
 refine F.ok CH 0#2 3#0
 ·obtain⟨p,m,rfl,_⟩:=h;rfl
 ·obtain⟨p,m,rfl,⟨x,y,hp,d,g⟩,a,hm,k⟩:=h
  refine⟨_,zc (cI (zq lV 59#zD ze (ay _))
    (zc (zk (i:=2) CH.nd rfl 2#1 (zv il 59#zD 7#1))
    (zc (D9 (zv CF 59#zD 7#1) (D6 7#0 ze set_list))
    (zf (zl 7#2)))) zA)
   (zc (zk (i:=3) CH.nd rfl 2#1 (zv il (zv eP (zv eP (zv gF 59#zD 59#zD) (zv gF ze 59#zD)) ze) ze))
   (zc (D9 (zv il (zv eP (zv eP (zv gF 7#3 7#3) (zv gF ze 7#3)) ze) ze) (D6 7#0 ze set_list))
   64#(zv il (zv CF 59#zD ze) 7#1))),?_⟩
  have c:eR ([.int x,.int y]:List V) 0=some 57#x:=im (j:=0) rfl;have D:eR ([.int x,.int y]:List V) 1=some 57#y:=im (j:=1) rfl;refine⟨_,rfl,p,_,_,_,rfl,rfl,SqL.of hp,D,rfl,_,rfl,?_⟩;refine eB (fun h1=>?_) (fun h1=>?_)
  ·refine⟨_,rfl,p,_,_,_,rfl,rfl,SqL.of hp,c,_,rfl,_,_,rfl,rfl,a,?_⟩
   refine⟨_,rfl,p,_,_,_,rfl,rfl,SqL.of hp,c,_,rfl,_,_,rfl,rfl,⟨a,hm⟩,_,rfl,p,_,_,0,rfl,rfl,hp,rfl,?_⟩;refine⟨_,rfl,k (x%m) _ (Rp _ ω) (Q4 _ a) (fun b o hb e=>by rw[al hb];exact e) ⟨x / m,y,ac,Int.ediv_nonneg d ω,?_⟩⟩;rcases g with q|⟨q,hx⟩
   ·exact .inl q
   ·refine .inr ⟨q,Int.lt_of_le_of_lt (Int.ediv_le_self _ d) hx⟩
  ·have hy:y=1/\x<4294967296:=by
    rcases g with q|q
    ·exact absurd (by subst q;rfl) h1
    ·exact q
   obtain⟨rfl,hx⟩:=hy;have hb:CMul x x:=.inl ⟨ω,ω⟩;refine⟨_,rfl,p,_,_,_,rfl,rfl,SqL.of hp,c,_,rfl,p,_,_,_,rfl,rfl,SqL.of hp,c,_,_,rfl,rfl,hb,_,rfl,p,_,_,_,rfl,rfl,SqL.of hp,c,_,_,rfl,rfl,.inl ⟨ξ,ξ⟩,_,_,rfl,rfl,_,_,rfl,rfl,_,_,rfl,rfl,(by show(0:Int)<2147483647;decide),?_⟩;have G:=Rp (x*x+39373*x+12345) (show(2147483647:Int)≠0 from ξ);have I:=Q4 (x*x+39373*x+12345) (show(0:Int)<2147483647 from ξ);obtain⟨z,l⟩:∃z,z=(x*x+39373*x+12345)%2147483647:=⟨_,rfl⟩;rw[<-l] at G I;show nv _ _ _ ([some 5#p,some 57#m,none,some 57#((x*x+39373*x+12345)%2147483647)]:St) H;rw[<-l];refine⟨_,rfl,_,rfl,_,_,rfl,rfl,.inl ⟨ω,ω⟩,_,rfl,_,_,rfl,rfl,.inl ⟨ξ,ξ⟩,_,_,rfl,rfl,_,_,rfl,rfl,_,_,rfl,rfl,(by show(0:Int)<2147483587;decide),_,rfl,p,_,_,0,rfl,rfl,hp,rfl,?_⟩;have v:=Rp (z*z+16807*z+7) (show(2147483587:Int)≠0 from ξ);have g1:=Q4 (z*z+16807*z+7) (show(0:Int)<2147483587 from ξ);obtain⟨u,r⟩:∃u,u=(z*z+16807*z+7)%2147483587:=⟨_,rfl⟩;rw[<-r] at v g1;have C:upd H p (.lst [.int ((z*z+16807*z+7)%2147483587),.int 1]) p=some (.lst [.int u,.int 1]):=by rw[r];exact ac
   refine⟨_,rfl,p,_,_,_,rfl,rfl,SqL.of C,im (j:=0) rfl,_,_,rfl,rfl,⟨ξ,ξ⟩,_,rfl,_,_,rfl,rfl,a,?_⟩;exact k _ _ (Rp _ ω) (Q4 _ a) (fun b o hb e=>by rw[al hb];exact e) ⟨u,1,C,v,.inr ⟨rfl,ω⟩⟩
end
end K67
end
section
namespace K67
open K1
open PySem L2 STb
noncomputable abbrev oY:Stmt:=top 47
noncomputable abbrev CJ:Stmt:=top 48
section
variable{P:Program}{w:World}{K:Af}{mg:Str->Option Value}{base:Heap}
def Lx{H2:Hp}{as:List Addr}{fs:Ξ}{Q:VK}(E:H2 l=some 8#(as.map V.ref))(ht:Tps H2 as fs)(hz:as.length<=100)(w:H2 D=none)(k:∀bs b,Same H2 b->b D=some 8#(bs.map V.ref)->Tps b bs (fs.filter fun q=>!decide (q=[]))->Q 5#D b):cK (dQ K l) (zX 0) (iQ (bS (ku true K) 71#0 (cy bw))) 71#0 [none] H2 D Q:=by
 have C:=ht.length;refine zJ (xs:=as.map V.ref) (fun j σ ys b=>∃bs v,σ=[v]/\Same H2 b/\b D=some 8#ys/\ys=bs.map V.ref/\Tps b bs ((fs.take j).filter fun q=>!decide (q=[]))) ?_ ?_ ?_ ?_
 ·exact⟨[],none,rfl,Same.new w,ac,rfl,.nil⟩
 ·rintro j σ ys b ⟨bs,v,rfl,sm,g,rfl,hb⟩
  exact SqL.of (sm _ _ E)
 ·rintro j σ ys b x hx i hy ⟨bs,v,rfl,sm,g,rfl,hb⟩
  obtain⟨a,A,rfl⟩:=zM hx;obtain⟨f,p,hf⟩:=ht.get A;refine⟨_,rfl,aj 2#0,fun t y=>?_⟩;have r:=sm.tp hf;have d:Same b (upd b t (.tup [])):=Same.new y;refine .inl ⟨a,t,f,[],rfl,rfl,d.tp r,ac,_,rfl,?_⟩;have u:=sm.trans d;have keep:∀(o:HO) c xs,upd b t (.tup []) c=some 52#xs->upd (upd b t (.tup [])) D o c=some 52#xs:=fun o c xs e=>by
   rw[al (dH e (d _ _ g) 1#8)];exact e
  by_cases h:f=[]
  ·subst h
   refine a6 (hE i hy ⟨bs,_,rfl,u,d _ _ g,rfl,?_⟩);rw[AR p,QA]
   simpa using d.tps hb
  ·rw[TH rfl,show(!decide (f=[]))=true by simp[h]]
   refine bg ⟨_,rfl,bK (ys:=bs.map V.ref) (by rw[Ab];exact aj ω) i hy (d _ _ g) ⟨bs++[a],_,rfl,u.then w,ac,by rw[Ap];rfl,?_⟩⟩;rw[AR p,QA,show [f].filter (fun q=>!decide (q=[]))=[f] by simp[h]];exact Tps.snoc (Paired.mapP (d.tps hb) fun c xs e=>keep _ c _ e) (keep _ a _ (d.tp r))
 ·rintro σ ys b ⟨bs,v,rfl,sm,g,rfl,hb⟩
  rw[Ab,C,take_all] at hb;exact k bs b sm g hb
def r9:zj ["piece","found","point"] ["piece"] 76#oY:=⟨rfl,rfl,rfl,δ,rfl,δ,δ⟩
def Ly(F:Fun K "_law_parts" "_law_parts" oY f fd):az P w K mg base aK 1 f fd ["piece"] rS:=by
 refine F.ok r9 0#2 3#0
 ·obtain⟨a,ps,rfl,_⟩:=h;rfl
 ·obtain⟨a,ps,rfl,ha,I,k⟩:=h
  have L:=hr.units;refine⟨_,zc (zk (i:=1) r9.nd rfl 2#1 (zW 56#(zQ zb)))
   (zc (zY AZ rfl (wy 7#0) (zh (i:=2) r9.nd rfl (Or.inr rfl))
    (zf (zk (i:=1) r9.nd rfl 2#1 (zv lZ 7#1 (zw ["piece","found","point"] ["part","point"] [none,some 2] (zu 7#1) (fun d C s₀ H₀ ex=>zh (i:=0) (cN ["part","point"]) rfl 2#1) (fun d C s₀ H₀ ex=>zE)
     (fun d C s₀ H₀ ex=>zv rf 7#0 (zQ (za 7#1 zb))) (hfr:=bX 76#oY δ))))))
   (zf (zl (zw ["piece","found","point"] ["part"] [none] (zu 7#1) (fun d C s₀ H₀ ex=>zh (i:=0) (cN ["part"]) rfl 2#1) (fun d C s₀ H₀ ex=>yR (zq (Kx L) 7#0 (zQ zb) (ay _)))
     (fun d C s₀ H₀ ex=>pv 0) (hfr:=dA δ) (tc:=iQ (bS (ku true K) 71#0 (cy bw))))))),?_⟩
  refine⟨aj 2#0,fun e he=>⟨aj 2#0,fun l b=>?_⟩⟩;have u:Same H (upd (upd H e (.tup [])) l (.lst [.ref e])):=(62#he).then ((62#he).free b);have M:e≠l:=zg (H:=upd H e (.tup [])) ac b;refine⟨_,rfl,a,rfl,⟨_,SqT.of (u _ _ ha)⟩,D_ (K:=K) (a:=a) (xs:=ps.map V.int) 2#19
   ⟨l,[e],none,rfl,u,(62#he).free b,ac,.cons (by show upd _ _ _ e=_;rw[al M];exact ac) .nil⟩ (fun i σ H2 _ ⟨_,_,_,_,sm,_⟩=>SqT.of (sm _ _ ha)) ?_ ?_⟩
  ·rintro i x σ H2 hx ⟨l,as,v,rfl,sm,J,b,ht⟩
   obtain⟨q,eq,rfl⟩:=oT hx;have hi:i<ps.length:=(69#eq).1;have p:=ht.length;have O:as.length<=32:=by
    rw[p,rE,AE];exact gf ω
   have hm:∀f∈subs (ps.take i),f.length<=100:=fun f hf=>by
    have:=FA _ f hf;rw[AE] at this;lia
   refine⟨_,rfl,_,rfl,l,rfl,⟨_,SqL.of b⟩,fun D j=>zy (FG b ht ω hm j fun bs G c o hb=>?_)⟩;have N:=hb.length;rw[Ab] at N;refine⟨l,D,_,_,rfl,rfl,c _ _ b,o,by rw[Ab,Ab];exact aj ω,fun r g=>?_⟩;have y:H r=none:=(63#c).free g;refine⟨r,as++bs,_,rfl,(63#c).then y,y,by rw[ac,Ap],?_⟩;rw[AR eq,Ck];exact(Same.new g).tps ((c.tps ht).append hb)
  ·rintro σ H2 ⟨l,as,v,rfl,sm,J,b,ht⟩
   rw[Ab,take_all] at ht;have p:=ht.length;refine⟨_,rfl,l,rfl,⟨_,SqL.of b⟩,fun D j=>zy (Lx b ht (by rw[p,rE];have:=gf I;lia) j fun bs G c o hb=>?_)⟩;rw[Lb] at hb;exact k D bs G 63#c (sm.free j) o hb
def Lz{H2:Hp}{bs:List Addr}{fs:Ξ}{Q:VK}(F:H2 l=some 8#(bs.map V.ref))(ht:Tps H2 bs fs)(hz:bs.length<=1000)(u:H2 D=none)(k:∀(cs:List Addr) a,Same H2 a->a D=some 8#(cs.map V.ref)->cs.length=bs.length->(∀(i:Nat) c,cs[i]?=some c->∃b f,bs[i]?=some b/\fs[i]?=some f/\a c=some 1#19)->Q 5#D a):cK (dQ K l) (zX 0) bM (cy (zK (lW (fun xs H Q=>∃p ys,xs=[V.ref p]/\(SqL K H p ys\/SqT K H p ys)/\Q (.int ys.length) H) (zK 71#0 bw)) (zK 71#0 bw))) [none] H2 D Q:=by
 have G:=ht.length;refine zJ (xs:=bs.map V.ref) (fun j σ ys a=>∃(cs:List Addr)(v:Option V),σ=[v]/\Same H2 a/\a D=some 8#ys/\ys=cs.map V.ref/\cs.length=j/\∀(i:Nat) c,cs[i]?=some c->∃b f,bs[i]?=some b/\fs[i]?=some f/\a c=some 1#19) ?_ ?_ ?_ ?_
 ·exact⟨[],none,rfl,Same.new u,ac,rfl,rfl,fun i c e=>by simp at e⟩
 ·rintro j σ ys a ⟨cs,v,rfl,sm,g,rfl,q,hc⟩
  exact SqL.of (sm _ _ F)
 ·rintro j σ ys a x hx q hy ⟨cs,v,rfl,sm,g,rfl,d,hc⟩
  obtain⟨b,r,rfl⟩:=zM hx;obtain⟨f,y,hf⟩:=ht.get r;refine ca ?_;refine⟨_,rfl,b,_,rfl,.inr (SqT.of (sm.tp hf)),_,rfl,aj 2#0,fun t w=>?_⟩;rw[show(f.map V.int).length=f.length from Ab _];have h:Same a (upd a t 1#19):=Same.new w;have keep:∀(o:HO) c xs,upd a t 1#19 c=some 52#xs->upd (upd a t 1#19) D o c=some 52#xs:=fun o c xs e=>by
   rw[al (dH e (h _ _ g) 1#8)];exact e
  refine bK (ys:=cs.map V.ref) (by rw[Ab];exact aj ω) q hy (h _ _ g) ⟨cs++[t],_,rfl,(63#h).then u,ac,by rw[Ap];rfl,by rw[Az,d];rfl,fun i c e=>?_⟩
  by_cases hi:i<cs.length
  ·rw[QP hi] at e
   obtain⟨A,C,e1,e2,e3⟩:=hc i c e;exact⟨A,C,e1,e2,keep _ c _ (h _ _ e3)⟩
  ·rw[QF ω] at e
   have E:i-cs.length=0:=by
    rcases S4 (i-cs.length) with z|z
    ·exact z
    ·rw[Bc (by simp only[AB,QZ];lia)] at e;cases e
   rw[E] at e;obtain rfl:t=c:=by simpa using e
   have:i=j:=ω
   subst this;exact⟨b,f,r,y,keep _ t _ ac⟩
 ·rintro σ ys a ⟨cs,v,rfl,sm,g,rfl,d,hc⟩
  rw[Ab] at d;exact k cs a sm g d hc
noncomputable def jw(H:Hp)(c:Addr):Addr:=match H c with
 |some (.tup [_,.ref b])=>b
 |_=>0
def LA{H2:Hp}{cs:List Addr}{Q:VK}(i:H2 l=some 8#(cs.map V.ref))(ht:∀c∈cs,∃n b,H2 c=some (.tup [.int n,.ref b]))(hz:cs.length<=1000)(g:H2 D=none)(k:∀a,Same H2 a->a D=some 8#(cs.map fun c=>V.ref (jw H2 c))->Q 5#D a):cK (dQ K l) (zX 0) bM (bS (eA K) 71#0 (tC 57#1)) [none] H2 D Q:=by
 refine zJ (xs:=cs.map V.ref) (fun j σ ys a=>∃v,σ=[v]/\Same H2 a/\a D=some 8#ys/\ys=(cs.take j).map fun c=>V.ref (jw H2 c)) ?_ ?_ ?_ ?_
 ·exact⟨none,rfl,Same.new g,ac,rfl⟩
 ·rintro j σ ys a ⟨v,rfl,sm,d,rfl⟩
  exact SqL.of (sm _ _ i)
 ·rintro j σ ys a x hx h hy ⟨v,rfl,sm,d,rfl⟩
  obtain⟨c,f,rfl⟩:=zM hx;obtain⟨n,b,e⟩:=ht c (Ak f);refine ca ?_;refine⟨_,rfl,c,_,_,_,rfl,rfl,SqT.of (sm _ _ e),im (j:=1) rfl,bK (by rw[Ab];exact aj ω) h hy d ⟨_,rfl,sm.then g,ac,?_⟩⟩;rw[AR f,Ap];have:jw H2 c=b:=by unfold jw;rw[e]
  rw[<-this];rfl
 ·rintro σ ys a ⟨v,rfl,sm,d,rfl⟩
  rw[Ab,take_all] at d;exact k a sm d
def oZ:zj ["web","found","piece","part","ranked"] ["web"] 76#CJ:=⟨rfl,rfl,rfl,δ,rfl,δ,δ⟩
def LB(F:Fun K "_law_pieces" "_law_pieces" CJ f fd)(B:Bt mg)(Fp:Fun K "_law_parts" "_law_parts" oY fp fc)(bp:Binds K fc ["piece"] [])(mp:mg "_law_parts"=some 5#fp):az P w K mg base aK 2 f fd ["web"] (oV K):=by
 have Gp:az P w K mg base aK 1 fp fc ["piece"] rS:=Ly Fp;refine F.ok oZ 0#2 3#0
 ·obtain⟨l,as,ab,rfl,_⟩:=h;rfl
 ·obtain⟨l,as,ab,rfl,hl,ht,h5,fE,h64,k⟩:=h
  have hu:=dN hr;have bB:=hr.units;refine⟨_,zc (zk (i:=1) oZ.nd rfl 2#1 km)
   (zc (zY AZ rfl (zu 7#0) (zh (i:=2) oZ.nd rfl 2#1)
    (zf (zY AZ rfl (zu (zI Gp hr rfl mp Fp.kp bp .nil av (za 7#2 zb))) (zh (i:=3) oZ.nd rfl 2#1)
     (zf (gS hu 7#1 7#3 eN rfl)))))
   (zc (zk (i:=4) oZ.nd rfl 2#1 (zm (KC bB) rfl B.sorted ju (za
    (zw ["web","found","piece","part","ranked"] ["piece"] [none] (zu (zB (EZ rfl) rfl B.list kD (za 7#1 zb))) (fun J C s₀ H₀ ex=>zh (i:=0) (cN ["piece"]) rfl 2#1) (fun J C s₀ H₀ ex=>zE)
     (fun J C s₀ H₀ ex=>zQ (za 1#17 1#9)) (hfr:=dA δ) (te:=cy (zK (lW (fun xs H Q=>∃p ys,xs=[V.ref p]/\(SqL K H p ys\/SqT K H p ys)/\Q (.int ys.length) H) (zK 71#0 bw)) (zK 71#0 bw)))) zb)))
   (zf (zl (zw ["web","found","piece","part","ranked"] ["one"] [none] (zu 7#4) (fun J C s₀ H₀ ex=>zh (i:=0) (cN ["one"]) rfl 2#1) (fun J C s₀ H₀ ex=>zE)
     (fun J C s₀ H₀ ex=>zx zC 7#0 ze 3#1) (hfr:=dA δ) (te:=bS (eA K) 71#0 (tC 57#1))))))),?_⟩
  intro d hd;have aE:=ht.length;refine⟨_,rfl,l,rfl,⟨_,(62#hd).seq hl⟩,gC (K:=K) (a:=l) (xs:=as.map V.ref) (fun i σ H2=>∃v G u,σ=[some 5#l,some 5#d,v,G,u]/\Same H H2/\H2 d=some 51#(eJ ((ab.take i).flatMap parts)))
   ⟨none,none,none,rfl,Same.new hd,ac⟩ (fun i σ H2 _ ⟨_,_,_,_,sm,_⟩=>sm.seq hl) ?_ ?_⟩
  ·rintro i x σ H2 hx ⟨v,G,u,rfl,sm,M⟩
   obtain⟨a,ea,rfl⟩:=zM hx;obtain⟨ps,cV,dy⟩:=ht.get ea;have eV:=h5 ps (Ak cV);have hi:i<ab.length:=(69#cV).1;refine⟨_,rfl,a,ps,rfl,sm.tp dy,eV,fun D cs o r bR L ff=>⟨D,rfl,⟨_,SqL.of L⟩,?_⟩⟩;have nO:=ff.length;have nR:D≠d:=dH L (r _ _ M) 1#8;refine gC (K:=K) (a:=D) (xs:=cs.map V.ref) (fun j σ I=>∃G,σ=[some 5#l,some 5#d,some 5#a,G,u]/\Same H I/\I D=some 8#(cs.map V.ref)/\Tps I cs (parts ps)/\I d=some 51#(eJ 0#19))
    ⟨_,rfl,sm.trans r,L,ff,by rw[R3,Ro];exact r _ _ M⟩ (fun j σ I _ ⟨_,_,_,q,_⟩=>SqL.of q) ?_ ?_
   ·rintro j x σ I hx ⟨G,rfl,bO,cv,cM,N⟩
    obtain⟨c,ec,rfl⟩:=zM hx;obtain⟨f,ef,hf⟩:=cM.get ec;have O:(eJ 0#19).length<sizeLine:=by
     refine zP (AG (CB _) ?_);rw[Az];have h1:=CD (ab.take i) (fun q hq=>h5 q (R4 hq));have h2:=mx ps;have Y:=gf eV;rw[AE] at h1 ⊢;lia
    refine⟨_,rfl,_,rfl,d,_,rfl,DPut.t (k:=f.map Sum.inl) N (by rw[An];exact hf) O,⟨_,rfl,bO.then hd,?_,?_,?_⟩⟩
    ·rw[al nR];exact cv
    ·exact Tps.upd cM N 3#8
    ·rw[ac,CC,Te,<-AR ef]
   ·rintro σ I ⟨G,rfl,bO,cv,cM,N⟩
    refine⟨_,_,_,rfl,bO,?_⟩;rw[Ab,nO,take_all] at N;rw[FJ cV];exact N
  ·rintro σ H2 ⟨v,G,u,rfl,sm,M⟩
   rw[Ab,aE,take_all] at M;refine⟨_,rfl,d,_,rfl,M,fun bs hb l2 W=>?_⟩;have tb:=FI hb;have iJ:=tb.length;have fh:(dd 2#4).length<=620:=by
    have h1:=ix 2#4;have h2:=CD ab h5;lia
   have U:Same H2 (upd H2 l2 8#(bs.map V.ref)):=Same.new W;refine⟨l2,rfl,⟨_,SqL.of ac⟩,fun D L=>zy (Lz (K:=K) ac (U.tps tb) ω L fun cs o r ag hcl hc=>?_)⟩;have jc:=r.tps (U.tps tb);refine⟨D,cs,(dd 2#4).map fun f=>((f.length:Int)::f),rfl,SqL.of ag,?_,(by rw[Ab];exact h64),fun R g hp hs hR=>?_⟩
   ·refine Paired.of_at 4#11 fun i c y e1 e2=>?_
    obtain⟨b,f,g1,g2,g3⟩:=hc i c e1;rw[Ah,g2] at e2;obtain rfl:=Ai e2;exact⟨_,b,f,rfl,g3,iU jc i b f g1 g2⟩
   ·have S:Same o (upd o R 8#(g.map fun q=>V.ref q.2)):=Same.new hR
    have hq:∀q∈g,∃b f,q.1=((f:List Int).length:Int)::f/\o q.2=some 1#19/\Tp o b f:=fun q hq=>by
     obtain⟨m,em⟩:=Ql.mp (hp.mem_iff.mp hq);rw[aZ.bh,Ah] at em;cases e2:cs[m]? with
     |none=>rw[e2] at em;cases h:(dd 2#4)[m]?<;>rw[h] at em<;>cases em
     |some c=>
      obtain⟨b,f,g1,g2,g3⟩:=hc m c e2;rw[g2,e2] at em;obtain rfl:(((f.length:Int)::f),c)=q:=Ai em;exact⟨b,f,rfl,g3,iU jc m b f g1 g2⟩
    have hql:g.length<=620:=by rw[hp.length_eq,Rb,Ab];lia
    refine⟨_,rfl,R,rfl,⟨_,SqL.of ac⟩,fun D2 bz=>zy (LA (K:=K) (cs:=g.map 0#17) (by rw[ac,An];rfl) (fun c tR=>?_) 4#11 bz fun H5 cr aY=>?_)⟩
    ·obtain⟨q,X,rfl⟩:=Qi.mp tR
     obtain⟨b,f,_,g2,_⟩:=hq q X;exact⟨_,b,S _ _ g2⟩
    ·have sAll:Same H H5:=((63#U).trans r).trans (S.trans cr)
     have snd:∀q∈g,∀b f,o q.2=some (.tup [.int (f:List Int).length,.ref b])->jw (upd o R 8#(g.map fun q=>V.ref q.2)) q.2=b:=fun q _ b f e=>by
      unfold jw;rw[S _ _ e]
     refine k D2 H5 (g.map fun q=>(q.1.tail,jw (upd o R 8#(g.map fun q=>V.ref q.2)) q.2)) ⟨sAll,(((63#U).trans r).trans S).free bz,?_,fun q X=>?_,?_,?_⟩
     ·rw[aY,An,An];rfl
     ·obtain⟨T,h0,rfl⟩:=Qi.mp X
      obtain⟨b,f,g1,g2,g3⟩:=hq T h0;show Tp H5 (jw _ T.2) T.1.tail;rw[snd T h0 b f g2,g1];exact cr.tp (S.tp g3)
     ·rw[An]
      have h1:=hp.map (fun q:List Int×Addr=>q.1.tail);have e:((((dd 2#4).map fun f=>((f.length:Int)::f)).zip cs).map fun q:List Int×Addr=>q.1.tail)=dd 2#4:=by
       rw[show(fun q:List Int×Addr=>q.1.tail)=(fun l:List Int=>l.tail) ∘ Prod.fst from rfl,<-An,Rw 4#11,An];exact RK _
      rw[e] at h1;exact h1
     ·rw[AQ]
      refine hs.imp_of_mem fun{p q} h1 h2 Y=>?_;obtain⟨_,f,g1,_⟩:=hq p h1;obtain⟨_,f',qr,_⟩:=hq q h2;rw[g1,qr] at Y;rw[g1,qr];exact Y
end
end K67
end
section
namespace K67
open K1
open PySem L2 STb
noncomputable abbrev sk:Stmt:=top 49
noncomputable abbrev o6:Stmt:=top 50
noncomputable def texts:List Str:=(["","0","01 12 02","012 013 023 123","01 02 03","012 023 034 014","0123","01 23 45","012 34"]:List Str)++(["012 123 234 034 014","01 12 23 03 13","012 013 014","0 1 2 3"]:List Str)++(["01 12 02 34 45 35","023 234 1"]:List Str)
++(["014 015 023 025 034 123 124 135 245 345","012 013 024 034 125 135 245 345"]:List Str)++(["01234","0123 0124 0134 0234 1234"]:List Str)++(["013 123 234 024 014 145 125 025 056 016 126 267 027 037 345 356 367"]:List Str)
noncomputable def wordsOf(n:Nat):List Str:=Txt.split (texts.getD n "") " "
noncomputable def digits(x:Str):List Int:=x.cps.toList.map fun(c:Nat)=>((c:Int)-48)
noncomputable def known(n:Nat):Ξ:=((wordsOf n).filter fun(x:Str)=>!decide (x="")).map digits
def LC:∀n,n<20->(texts.getD n "").length+2<=1000/\(wordsOf n).length<=20/\∀x∈wordsOf n,x.cps.size<=5/\∀c∈x.cps.toList,48<=c/\c<=57:=δ
def LD:∀c,48<=c->c<=57->intText? ⟨#[c]⟩=some ((c:Int)-48):=by
 intro c h1 h2;have:∀c,c<58->48<=c->intText? ⟨#[c]⟩=some ((c:Int)-48):=δ
 exact this c ω h1
section
variable{P:Program}{w:World}{K:Af}{mg:Str->Option Value}{base:Heap}
def FQ:Sp:=fun vs H Q _=>∃n:Nat,vs=[.int n]/\n<20/\∀D as H',Same H H'->H D=none->H' D=some 8#(as.map V.ref)->Tps H' as (known n)->Q 5#D H'
def kO:zj ["number","some","web","word"] ["number"] 76#sk:=⟨rfl,rfl,rfl,δ,rfl,δ,δ⟩
def LF{H2:Hp}{x:Str}{Q:VK}(hx:x.cps.size<=5)(hc:∀c∈x.cps.toList,48<=c/\c<=57)(f:H2 D=none)(k:∀a,Same H2 a->a D=some 8#((digits x).map V.int)->Q 5#D a):cK (rD x) (zX 0) bM (lW (fun xs H Q=>∃x n,xs=[.str x]/\intText? x=some n/\x.length<=640/\Q 57#n H) (zK 71#0 bw)) [none] H2 D Q:=by
 refine La (fun j σ ys a=>∃v,σ=[v]/\Same H2 a/\a D=some 8#ys/\ys=((digits x).take j).map V.int) ?_ ?_ ?_
 ·exact⟨none,rfl,Same.new f,ac,rfl⟩
 ·rintro j σ ys a c g h hy ⟨v,rfl,sm,d,rfl⟩
  have b:x.cps.toList[j]?=some c:=by simpa using g
  obtain⟨i,l⟩:=hc c (Ak b);refine ca ?_;refine⟨_,rfl,⟨#[c]⟩,_,rfl,LD c i l,by show 1<=640;decide,bK (aj ω) h hy d ⟨_,rfl,sm.then f,ac,?_⟩⟩;have e:(digits x)[j]?=some ((c:Int)-48):=by unfold digits;rw[Ah,b];rfl
  rw[AR e,Ap];rfl
 ·rintro σ ys a ⟨v,rfl,sm,d,rfl⟩
  rw[AA (by unfold digits;simp)] at d;exact k a sm d
def LG(F:Fun K "_law_known" "_law_known" sk f fd)(B:Bt mg):az P w K mg base aK 1 f fd ["number"] FQ:=by
 refine F.ok kO 0#2 3#0
 ·obtain⟨n,rfl,_⟩:=h;rfl
 ·obtain⟨n,rfl,hn,k⟩:=h
  refine⟨_,zc (zk (i:=1) kO.nd rfl 2#1 (zW 80#(za zU (za zU (za zU (za zU (za zU 56#zU)))))))
   (zc (zk (i:=1) kO.nd rfl 2#1 (zv lZ 7#1 (zW 80#(za zU (za zU 56#zU)))))
   (zc (zk (i:=1) kO.nd rfl 2#1 (zv lZ 7#1 (zW (za zU 56#zU))))
   (zc (zk (i:=1) kO.nd rfl 2#1 (zv lZ 7#1 (zW (za zU 56#zU))))
   (zc (gm (fM A9 QB QC jk 7#1 56#zU))
   (zc (zk (i:=2) kO.nd rfl 2#1 (zW zb))
   (zc (zY AZ rfl (zu (fM PySem.F.plainAttrs_str PySem.F.slot_str_split PySem.F.type_str_split K_ (zx zD 7#1 (zv il 7#0 ze) 3#1) 56#zU)) (zh (i:=3) kO.nd rfl 2#1)
    (zf (cI (zq qp 7#3 zU (ay _))
     (zf (gm (fM A9 QB QC jk 7#2 (za (zB ya rfl B.tuple Cu (za
      (zw ["number","some","web","word"] ["sign"] [none] (K' 7#3) (fun u C s₀ H₀ ex=>zh (i:=0) (cN ["sign"]) rfl 2#1) (fun u C s₀ H₀ ex=>zE)
       (fun u C s₀ H₀ ex=>zB Kz rfl B.int Lg 1#9) (hfr:=dA δ)) zb)) zb)))) zA)))
   (zf (zl 7#2)))))))),?_⟩
  have t20:texts.length=20:=rfl;have fT:eR (texts.map V.str) ((n:Int)%20)=some (.str (texts.getD n "")):=by
   rw[show(n:Int)%20=(n:Int) from ω];refine im ?_;have e:texts[n]?=some texts[n]:=Ae ω;rw[Ah,AK,e];rfl
  obtain⟨g1,g2,g3⟩:=LC n hn;refine⟨aj 2#0,fun T h1=>?_⟩;have s1:=Same.new (H:=H) (o:=.lst [.str "",.str "0",.str "01 12 02",.str "012 013 023 123",.str "01 02 03",.str "012 023 034 014",.str "0123",.str "01 23 45",.str "012 34"]) h1;refine⟨_,rfl,aj 2#0,fun U G=>⟨T,U,_,_,rfl,rfl,Same.new G _ _ ac,ac,aj 2#0,fun W X=>?_⟩⟩;have s3:=(s1.trans 62#G).trans (Same.new (o:=.lst ((texts.take 15).map V.str)) X);refine⟨_,rfl,aj 2#0,fun Y I=>⟨W,Y,_,_,rfl,rfl,Same.new I _ _ ac,ac,aj 2#0,fun l4 h4=>?_⟩⟩;have M:=(s3.trans 62#I).trans (Same.new (o:=.lst ((texts.take 17).map V.str)) h4);refine⟨_,rfl,aj 2#0,fun m4 l=>⟨l4,m4,_,_,rfl,rfl,Same.new l _ _ ac,ac,aj 2#0,fun c J=>?_⟩⟩;have s5:=(M.trans 62#l).trans (Same.new (o:=.lst ((texts.take 19).map V.str)) J);have xh:H c=none:=(M.trans 62#l).free J;refine⟨_,rfl,.inl ⟨rfl,_,SqL.of ac⟩,c,_,_,rfl,rfl,ac,zP 2#0,aj 2#0,fun b p=>?_⟩;generalize hH6:upd (upd _ c _) c _=H6 at p;have e6:H6 c=some 8#(texts.map V.str):=by rw[<-hH6,ac];rfl
  have N:Same H H6:=by
   rw[<-hH6];exact s5.then xh
  have d:H b=none:=N.free p;have O:Same H (upd H6 b (.lst [])):=N.then d;have e7:upd H6 b (.lst []) c=some 8#(texts.map V.str):=Same.new p _ _ e6;refine⟨_,rfl,_,rfl,_,_,rfl,rfl,(by show(0:Int)<20;decide),c,_,_,_,rfl,rfl,SqL.of e7,fT,rfl,_,_,rfl,rfl,ξ,aj ω,aj (show(wordsOf n).length<=100000 from ω),fun D L=>⟨D,rfl,⟨_,SqL.of ac⟩,?_⟩⟩;have S:b≠D:=zg (H:=upd H6 b (.lst [])) ac L;have bR:H D=none:=O.free L;refine gC (K:=K) (a:=D) (xs:=(wordsOf n).map V.str) (fun i σ H2=>∃as v,σ=[some 57#n,some 5#c,some 5#b,v]/\Same H H2/\H2 D=some 8#((wordsOf n).map V.str)/\H2 b=some 8#(as.map V.ref)/\Tps H2 as ((((wordsOf n).take i).filter fun(x:Str)=>!decide (x="")).map digits))
   ⟨[],none,rfl,O.then bR,ac,by rw[al S];exact ac,.nil⟩ (fun i σ H2 _ ⟨_,_,_,_,q,_⟩=>SqL.of q) ?_ ?_
  ·rintro i x σ H2 hx ⟨as,v,rfl,sm,r,g,ht⟩
   rw[Ah] at hx;cases ex:(wordsOf n)[i]? with
   |none=>rw[ex] at hx;cases hx
   |some y=>
    rw[ex] at hx;obtain rfl:=Ai hx;have hi:i<(wordsOf n).length:=(69#ex).1;obtain⟨y5,yc⟩:=g3 y (Ak ex);refine⟨_,rfl,rfl,_,rfl,?_⟩
    by_cases hy:y=""
    ·subst hy
     refine a6 ⟨as,_,rfl,sm,r,g,?_⟩;rw[AR ex,QA,Ap]
     simpa using ht
    ·rw[show(!decide (V.str y=V.str ""))=true from by simp[hy]]
     refine bg ⟨_,rfl,.inl ⟨rfl,_,SqL.of g⟩,_,rfl,y,rfl,fun D2 uP=>zy (LF y5 yc uP fun H3 aQ ag=>⟨D2,_,rfl,.inl ⟨SqL.of ag,fun t cp=>?_⟩⟩)⟩;have j:Same H2 (upd H3 t 52#((digits y).map V.int)):=aQ.trans 62#cp;have aE:=ht.length;have gK:as.length<=20:=by
      rw[aE,Ab];exact AG (QD _ _) (by rw[AE];lia)
     refine⟨b,_,_,rfl,rfl,j _ _ g,zP 4#11,⟨as++[t],_,rfl,(63#j).then d,?_,by rw[ac,Ap];rfl,?_⟩⟩
     ·rw[al S.symm];exact j _ _ r
     ·rw[AR ex,QA,Ap,show [y].filter (fun(x:Str)=>!decide (x=""))=[y] by simp[hy]]
      exact Tps.upd (Tps.snoc (j.tps ht) ac) (j _ _ g) 3#8
  ·rintro σ H2 ⟨as,v,rfl,sm,r,g,ht⟩
   rw[Ab,take_all] at ht;exact⟨_,rfl,k b as H2 sm d g ht⟩
noncomputable def c5(first a:Int)(ps:List Int):List Int:=ps.map fun x=>first+a*x
def FR:Sp:=fun vs H Q _=>∃p l as ab,vs=[.ref p,.ref l]/\zO H p/\H l=some 8#(as.map V.ref)/\Tps H as ab/\ab.length<=20/\(∀ps∈ab,ps.length<=10)/\
 ∀D bs b first a H',zG p H H'->zO H' p->H D=none->H' D=some 8#(bs.map V.ref)->Tps H' bs b->0<=first->first<12->1<=a->a<=3->b.Perm (ab.map (c5 first a))->Q 5#D H'
def pc:zj ["box","web","gap","first","found","piece"] ["box","web"] 76#o6:=⟨rfl,rfl,rfl,δ,rfl,δ,δ⟩
def LH{first c:Int}{Q:VK}(ha:Tp H2 a ps)(hz:ps.length<=10)(h:1<=c/\c<=3)(f:H2 D=none)(k:∀b,Same H2 b->b D=some 8#((c5 first c ps).map V.int)->Q 5#D b):cK (j7 K a) (zX 0) bM (bS (fg fun i j=>.int (i+j)) 71#1 (bS (rI CMul fun i j=>.int (i*j)) 71#2 71#0)) [none,some 57#first,some 57#c] H2 D Q:=by
 refine Ko (xs:=ps.map V.int) (fun j σ ys b=>∃v,σ=[v,some 57#first,some 57#c]/\Same H2 b/\b D=some 8#ys/\ys=((c5 first c ps).take j).map V.int) ?_ ?_ ?_ ?_
 ·exact⟨none,rfl,Same.new f,ac,rfl⟩
 ·rintro j σ ys b ⟨v,rfl,sm,d,rfl⟩
  exact SqT.of (sm.tp ha)
 ·rintro j σ ys b x hx g hy ⟨v,rfl,sm,d,rfl⟩
  obtain⟨q,eq,rfl⟩:=oT hx;refine ca ?_;refine⟨_,rfl,_,rfl,_,rfl,_,_,rfl,rfl,.inl ⟨ω,ω⟩,_,_,rfl,rfl,bK (by rw[Ab];exact aj ω) g hy d ⟨_,rfl,sm.then f,ac,?_⟩⟩;have e:(c5 first c ps)[j]?=some (first+c*q):=by unfold c5;rw[Ah,eq];rfl
  rw[AR e,Ap];rfl
 ·rintro σ ys b ⟨v,rfl,sm,d,rfl⟩
  rw[AA (by unfold c5;simp)] at d;exact k b sm d
def LI(F:Fun K "_law_named" "_law_named" o6 f fd)(B:Bt mg)(Ft:Fun K "_law_take" "_law_take" oW N O)(bt:Binds K O ["box","most"] [])(mt:mg "_law_take"=some 5#N):az P w K mg base aK 2 f fd ["box","web"] FR:=by
 have S:az P w K mg base aK 1 N O ["box","most"] oX:=CI Ft;refine F.ok pc 0#2 3#0
 ·obtain⟨p,l,as,ab,rfl,_⟩:=h;rfl
 ·obtain⟨p,l,as,ab,rfl,hb,J,ht,fE,mh,k⟩:=h
  refine⟨_,zc (zk (i:=2) pc.nd rfl (Or.inr rfl) (zv eP ze (zI S hr rfl mt Ft.kp bt .nil av (za 7#0 56#ze))))
   (zc (zk (i:=3) pc.nd rfl (Or.inr rfl) (zI S hr rfl mt Ft.kp bt .nil av (za 7#0 56#ze)))
   (zc (zk (i:=4) pc.nd rfl 2#1 (zW zb))
   (zc (zY AZ rfl (zu 7#1) (zh (i:=5) pc.nd rfl 2#1)
    (zf (gm (fM A9 PySem.F.slot_list_insert PySem.F.type_list_insert Ky 7#4
     (za (zI S hr rfl mt Ft.kp bt .nil av (za 7#0 56#(zv eP (zm zo rfl B.len ee (za 7#4 zb)) ze)))
     (za (zB ya rfl B.tuple Cu (za
      (zw ["box","web","gap","first","found","piece"] ["point","first","gap"] [none,some 3,some 2] (wy 7#5) (fun T C s₀ H₀ ex=>zh (i:=0) (cN ["point","first","gap"]) rfl 2#1) (fun T C s₀ H₀ ex=>zE)
       (fun T C s₀ H₀ ex=>zv eP 7#1 (zv gF 7#2 7#0)) (hfr:=bX 76#o6 δ)) zb)) zb))))))
   (zf (zl 7#4))))),?_⟩
  refine⟨_,rfl,p,3,rfl,hb,ξ,ξ,fun c H1 a1 a2 dc I=>⟨_,_,rfl,rfl,?_⟩⟩;refine⟨_,rfl,p,12,rfl,I,ξ,ξ,fun d H2 c1 c2 jj U=>⟨aj 2#0,fun D W=>?_⟩⟩;have M:=dc.trans jj;have y:H D=none:=M.free hb U W;have X:l≠p:=hb.ne J;have aE:=ht.length;refine⟨_,rfl,l,rfl,⟨_,SqL.of ((M.then y) _ _ X J)⟩,gC (K:=K) (a:=l) (xs:=as.map V.ref) (fun i σ e=>∃bs b v,σ=[some 5#p,some 5#l,some 57#(1+c),some 57#d,some 5#D,v]/\zG p H e/\zO e p/\e D=some 8#(bs.map V.ref)/\Tps e bs b/\b.Perm ((ab.take i).map (c5 d (1+c))))
   ⟨[],[],none,rfl,M.then y,U.new W,ac,.nil,List.Perm.nil⟩ (fun i σ e _ ⟨_,_,_,_,sb,_⟩=>SqL.of (sb _ _ X J)) ?_ ?_⟩
  ·rintro i x σ e hx ⟨bs,b,v,rfl,u,j,g,hq,hp⟩
   obtain⟨a,ea,rfl⟩:=zM hx;obtain⟨ps,L,dy⟩:=ht.get ea;have hi:i<ab.length:=(69#L).1;have iJ:=hq.length;have hql:b.length=i:=by rw[hp.length_eq,Ab,AE];lia
   have o:D≠p:=j.ne g;refine⟨_,rfl,.inl ⟨rfl,_,SqL.of g⟩,_,rfl,_,rfl,D,_,rfl,.inl (SqL.of g),_,_,rfl,rfl,p,_,rfl,j,by rw[Ab];lia,by rw[Ab];lia,fun r H4 r0 u7 q bJ=>?_⟩;rw[Ab] at u7;have Y:Tp H4 a ps:=(u.trans q).tp hb dy;refine⟨_,rfl,a,rfl,⟨_,SqT.of Y⟩,fun D2 bz=>zy (LH Y (mh ps (Ak L)) ⟨ω,ω⟩ bz fun H5 cr aY=>⟨D2,_,rfl,.inl ⟨SqL.of aY,fun t cp=>?_⟩⟩)⟩;have G:Same H4 (upd H5 t 52#((c5 d (1+c) ps).map V.int)):=cr.trans 62#cp;have cv:=q _ _ o g;have iO:=G _ _ cv;have fB:=bJ.same G;refine⟨D,_,r,_,rfl,rfl,iO,r0,by rw[Ab];lia,zP 4#11,⟨bs.take r.toNat++t::bs.drop r.toNat,b.take r.toNat++c5 d (1+c) ps::b.drop r.toNat,_,rfl,((u.trans q).trans (zG.of G)).then y,fB.upd o,?_,?_,?_⟩⟩
   ·rw[ac,Ap,Aw,Th,Tg]
   ·have tq:=G.tps (q.tps j hq)
    exact Tps.upd (Tps.append (tq.take _) (.cons ac (tq.drop _))) iO 3#8
   ·rw[AR L,Ap]
    have h1:(b.take r.toNat++c5 d (1+c) ps::b.drop r.toNat).Perm (c5 d (1+c) ps::b):=by
     have:=List.perm_middle (a:=c5 d (1+c) ps) (l₁:=b.take r.toNat) (l₂:=b.drop r.toNat)
     rwa [RX] at this
    exact h1.trans ((List.perm_append_singleton _ _).symm.trans (List.Perm.append_right _ hp))
  ·rintro σ e ⟨bs,b,v,rfl,u,j,g,hq,hp⟩
   rw[Ab,aE,take_all] at hp;exact⟨_,rfl,k D bs b d (1+c) e u j y g hq c1 c2 ω ω hp⟩
end
end K67
end
section
namespace K67
open K1
open PySem L2 STb
noncomputable abbrev kP:Stmt:=top 51
noncomputable def iB(seq:List Int):List (Key×V):=(dd seq).map fun n=>((Sum.inl n:Key),V.bl true)
def LJ(seq:List Int):(iB seq).length<=seq.length:=by unfold iB;rw[Ab];exact ix seq
def LK(seq:List Int)(n:Int):putK (iB seq) (Sum.inl n) (.bl true)=iB (seq++[n]):=by
 unfold putK iB;rw[iX];have ha:(((dd seq).map fun n=>((Sum.inl n:Key),V.bl true)).any fun kv=>decide (kv.1=Sum.inl n))=decide (n∈dd seq):=by
  rw[List.any_map]
  by_cases h:n∈dd seq
  ·rw[TK h,Ri]
   exact⟨n,h,by simp⟩
  ·rw[TL h,Su]
   intro q hq;simp only[Function.comp,decide_eq_true_eq,Sum.inl.injEq];rintro rfl;exact h hq
 rw[ha]
 by_cases h:n∈dd seq
 ·rw[TK h,TH rfl,TH h,An]
  refine AC fun q hq=>?_;simp only[Function.comp];split<;>rfl
 ·rw[TL h,TJ 2#0,TJ h,Ap]
  rfl
def LL(seq:List Int):((iB seq).map fun kv=>kV kv.1)=(dd seq).map V.int:=by unfold iB;rw[An];rfl
def LM{c:List Int}(h1:c.Pairwise (·<=·))(h2:c.Nodup):a0 c=true:=by
 rw[Cq];intro i a b ha hb;obtain⟨d,f⟩:=BK.mp ha;obtain⟨e,g⟩:=BK.mp hb;have g1:=Qq.mp h1 i (i+1) d e ω;have g2:=Qq.mp h2 i (i+1) d e ω;rw[f,g] at g1 g2;lia
def jy(ab:Ξ):Prop:=ab.Nodup/\∀ps∈ab,ps≠[]/\ps.length<=4/\a0 ps=true/\∀x∈ps,0<=x/\x<=5
def Base(b:Ξ):Prop:=(∃n,n<20/\b=known n)\/(b.length<=5/\jy b)
def Drawn(c:Ξ):Prop:=∃b first a,Base b/\0<=first/\first<12/\1<=a/\a<=3/\c.Perm (b.map (c5 first a))
def LN:∀n,n<20->(known n).length<=20/\∀ps∈known n,ps≠[]/\ps.length<=5:=δ
section
variable{P:Program}{w:World}{K:Af}{mg:Str->Option Value}{base:Heap}
def FS:Sp:=fun vs H Q _=>∃p,vs=[.ref p]/\zO H p/\∀D bs a H',zG p H H'->zO H' p->H D=none->H' D=some 8#(bs.map V.ref)->Tps H' bs a->Drawn a->Q 5#D H'
def mG:zj ["box","found","k","some","j","piece"] ["box"] 76#kP:=⟨rfl,rfl,rfl,δ,rfl,δ,δ⟩
def LO(F:Fun K "_law_web" "_law_web" kP f fd)(B:Bt mg)(Ft:Fun K "_law_take" "_law_take" oW ft eT)(bt:Binds K eT ["box","most"] [])(mt:mg "_law_take"=some 5#ft)(Fn:Fun K "_law_named" "_law_named" o6 fn nE)(bn:Binds K nE ["box","web"] [])(mn:mg "_law_named"=some 5#fn)(Fk:Fun K "_law_known" "_law_known" sk fk cD)(bk:Binds K cD ["number"] [])(mk:mg "_law_known"=some 5#fk):az P w K mg base aK 3 f fd ["box"] FS:=by
 have Gt:az P w K mg base aK 1 ft eT ["box","most"] oX:=CI Ft;have Gn:az P w K mg base aK 2 fn nE ["box","web"] FR:=LI Fn B Ft bt mt;have Gk:az P w K mg base aK 1 fk cD ["number"] FQ:=LG Fk B;refine F.ok mG 0#2 3#0
 ·obtain⟨p,rfl,_⟩:=h;rfl
 ·obtain⟨p,rfl,hb,k⟩:=h
  have hu:=dN hr;have bB:=hr.units;have T:Room 1 _:=hr.mono ξ;refine⟨_,zc (cI (zq lV (zI Gt T rfl mt Ft.kp bt .nil av (za 7#0 56#ze)) ze (ay _))
    64#(zI Gn hr rfl mn Fn.kp bn .nil av (za 7#0 56#(zI Gk T rfl mk Fk.kp bk .nil av (za (zI Gt T rfl mt Ft.kp bt .nil av (za 7#0 (za ze zb))) zb)))) zA)
   (zc (zk (i:=1) mG.nd rfl 2#1 (zW zb))
   (zc (zY AZ rfl (lT rfl B.range 56#(zI Gt T rfl mt Ft.kp bt .nil av (za 7#0 (za ze zb)))) (zh (i:=2) mG.nd rfl 2#1)
    (zc (zk (i:=3) mG.nd rfl 2#1 EB)
    (zc (zY AZ rfl (lT rfl B.range 56#(zv eP ze (zI Gt T rfl mt Ft.kp bt .nil av (za 7#0 (za ze zb))))) (zh (i:=4) mG.nd rfl 2#1)
     (zf (gS hu 7#3 (zI Gt T rfl mt Ft.kp bt .nil av (za 7#0 56#ze)) eN rfl)))
    (zc (zk (i:=5) mG.nd rfl 2#1 (zB ya rfl B.tuple Cu 56#(zm KA rfl B.sorted ju (za (zB (Kq rfl) rfl B.list kD (za 7#3 zb)) zb))))
    (zf (cI (zq (Kv (in1_units bB)) 7#5 7#1 (by with_unfolding_all rfl)) (zf (gm (fM A9 QB QC jk 7#1 (za 7#5 zb)))) zA))))))
   64#(zI Gn hr rfl mn Fn.kp bn .nil av (za 7#0 (za 7#1 zb))))),?_⟩
  refine⟨_,rfl,p,2,rfl,hb,ξ,ξ,fun r H1 r0 r1 dc u=>⟨rfl,_,rfl,?_⟩⟩;refine eB (fun h1=>?_) (fun h1=>?_)
  ·refine⟨_,rfl,_,rfl,p,20,rfl,u,ξ,ξ,fun n H2 n0 n1 jj bd=>?_⟩
   obtain⟨m,rfl⟩:=RO n0;refine⟨m,rfl,ω,fun D as H3 aQ bR hD ht=>?_⟩;obtain⟨g1,g2⟩:=LN m ω;have U:=(dc.trans jj).trans (zG.of aQ);have bW:=bd.same aQ;refine⟨p,D,as,known m,rfl,bW,hD,ht,g1,fun ps hp=>by have:=(g2 ps hp).2;lia,fun D' bs aL first aH G I v eI cv O c1 c2 c3 c4 aS=>?_⟩;exact k D' bs aL G (U.trans I) v (U.free hb bW eI) cv O ⟨known m,first,aH,.inl ⟨m,ω,rfl⟩,c1,c2,c3,c4,aS⟩
  ·refine⟨aj 2#0,fun L hL=>?_⟩
   have Y:H L=none:=dc.free hb u hL;refine⟨_,rfl,p,6,rfl,u.new hL,ξ,ξ,fun r6 H3 a1 a2 U bW=>⟨r6,rfl,ω,ω,?_⟩⟩;have iZ:L≠p:=zO.ne (as:=[]) (u.new hL) ac;have iH:zG p H H3:=(dc.then Y).trans U;refine wR (lo:=0) (n:=r6.toNat) (fun i σ G=>∃as ab v2 v3 J v5,σ=[some 5#p,some 5#L,v2,v3,J,v5]/\zG p H G/\zO G p/\G L=some 8#(as.map V.ref)/\Tps G as ab/\jy ab/\ab.length<=i)
    ⟨[],[],none,none,none,none,rfl,iH,bW,U _ _ iZ ac,.nil,⟨BC,fun ps h=>nomatch h⟩,Ag _⟩ ?_ ?_
   ·rintro i σ G hi ⟨as,ab,v2,v3,J,v5,rfl,I,v,fz,O,c,W⟩
    have aE:=O.length;intro d hd;have dJ:H d=none:=I.free hb v hd;have ud:L≠d:=zg fz hd;refine⟨_,rfl,p,4,rfl,v.new hd,ξ,ξ,fun r4 H5 e1 e2 S gE=>⟨_,_,rfl,rfl,_,rfl,ω,ω,?_⟩⟩;have ky:d≠p:=by
     obtain⟨x,y,e,_⟩:=v.new (o:=.dK []) hd;exact dH ac e 1#8
    have s4:=Same.new (o:=.dK []) hd;refine wR (lo:=0) (n:=(1+r4).toNat) (fun j σ q=>∃seq J,σ=[some 5#p,some 5#L,some 57#(0+i),some 5#d,J,v5]/\zG p H q/\zO q p/\q L=some 8#(as.map V.ref)/\Tps q as ab/\q d=some (.dK (iB seq))/\seq.length=j/\∀x∈seq,0<=x/\x<=5)
     ⟨[],_,rfl,(I.then dJ).trans S,gE,S _ _ iZ (s4 _ _ fz),S.tps (v.new hd) (s4.tps O),S _ _ ky ac,rfl,fun x h=>nomatch h⟩ ?_ ?_
    ·rintro j σ q hj ⟨seq,J,rfl,fH,fB,M,X,kC,lm,l0⟩
     refine⟨_,rfl,_,rfl,p,6,rfl,fB,ξ,ξ,fun r H7 f1 f2 C iN=>⟨d,_,rfl,DPut.k (k:=Sum.inl r) (C _ _ ky kC) (zP (by have:=LJ seq;lia)),⟨seq++[r],_,rfl,(fH.trans C).then dJ,iN.upd ky,?_,?_,by rw[ac,LK],by rw[Az,lm];rfl,?_⟩⟩⟩
     ·rw[al ud];exact C _ _ iZ M
     ·exact Tps.upd (C.tps fB X) (C _ _ ky kC) 3#8
     ·intro x hx
      rcases Qm.mp hx with hx|hx
      ·exact l0 x hx
      ·rw[Bm] at hx;subst hx;lia
    ·rintro σ q ⟨seq,J,rfl,fH,fB,M,X,kC,lm,l0⟩
     refine⟨_,rfl,d,_,rfl,kC,fun l2 hl2=>⟨l2,dd seq,rfl,SqL.of (by rw[ac,LL]),(by have:=ix seq;lia),fun D2 g hp hs bz=>⟨D2,_,rfl,.inl ⟨SqL.of ac,fun t cp=>?_⟩⟩⟩⟩;have l:Same q (upd (upd (upd q l2 8#((iB seq).map fun kv=>kV kv.1)) D2 8#(g.map V.int)) t 52#(g.map V.int)):=((62#hl2).trans 62#bz).trans 62#cp;generalize hH7:upd (upd (upd q l2 8#((iB seq).map fun kv=>kV kv.1)) D2 8#(g.map V.int)) t 52#(g.map V.int)=H7 at l;have rj:Tp H7 t g:=by rw[<-hH7];exact ac
     have C:=fH.trans (zG.of l);have iN:=fB.same l;refine⟨_,rfl,_,rfl,t,L,g,as,ab,rfl,rfl,rj,SqL.of (l _ _ M),l.tps X,_,rfl,?_⟩;have ig:g≠[]/\g.length<=4/\a0 g=true/\∀x∈g,0<=x/\x<=5:=by
      refine⟨fun z=>?_,?_,LM hs (hp.nodup_iff.mpr (rA seq)),fun x hx=>l0 x ((i0 seq x).mp (hp.mem_iff.mp hx))⟩
      ·have h0:dd seq=[]:=by rw[z] at hp;exact(List.nil_perm.mp hp)
       cases hq:seq with
       |nil=>rw[hq] at lm;simp at lm;lia
       |cons x r=>
        have:=(i0 seq x).mpr (by rw[hq];exact Av);rw[h0] at this;cases this
      ·have:=ix seq
       rw[hp.length_eq];lia
     by_cases N:g∈ab
     ·rw[TK N]
      exact a6 ⟨as,ab,_,_,_,_,rfl,C,iN,l _ _ M,l.tps X,c,ω⟩
     ·rw[TL N]
      refine bg ⟨_,rfl,.inl ⟨rfl,_,SqL.of (l _ _ M)⟩,_,rfl,L,_,_,rfl,rfl,l _ _ M,zP 4#11,⟨as++[t],ab++[g],_,_,_,_,rfl,C.then Y,iN.upd iZ,by rw[ac,Ap];rfl,Tps.upd (Tps.snoc (l.tps X) rj) (l _ _ M) 3#8,⟨?_,?_⟩,by rw[Az];simp;lia⟩⟩
      ·rw[BD]
       refine⟨c.1,by simp,fun a ha b hb' e=>?_⟩;rw[Bm] at hb';subst hb';subst e;exact N ha
      ·intro ps dy
       rcases Qm.mp dy with h|h
       ·exact c.2 ps h
       ·rw[Bm] at h;subst h;exact ig
   ·rintro σ G ⟨as,ab,v2,v3,J,v5,rfl,I,v,fz,O,c,W⟩
    refine⟨_,rfl,_,rfl,p,L,as,ab,rfl,v,fz,O,ω,fun ps hp=>by have:=(c.2 ps hp).2.1;lia,fun D' bs aL first aH H5 S gE eI aY wD c1 c2 c3 c4 aS=>?_⟩;exact k D' bs aL H5 (I.trans S) gE (I.free hb v eI) aY wD ⟨ab,first,aH,.inr ⟨ω,c⟩,c1,c2,c3,c4,aS⟩
end
end K67
end
section
namespace K1
open PySem L2 STb
def FT:∀a b:List Int,HT.lexLt a b=true->HT.lexLt b a=false
 |[],[],h=>rfl
 |[],_::_,h=>rfl
 |_::_,[],h=>by rw[HT.Ek] at h;exact absurd h Ax
 |x::xs,y::ys,h=>by
  rw[HT.zi] at h ⊢
  by_cases e:x=y
  ·rw[TH e] at h;rw[TH e.symm];exact FT xs ys h
  ·rw[TJ e] at h;rw[TJ (fun z=>e z.symm)]
   have:=TN h;exact TL ω
def CK:∀a b:List Int,HT.lexLt a b=false->HT.lexLt b a=false->a=b
 |[],[],_,_=>rfl
 |[],_::_,h,_=>by rw[HT.zV] at h;exact absurd h ξ
 |_::_,[],_,h=>by rw[HT.zV] at h;exact absurd h ξ
 |x::xs,y::ys,h,h'=>by
  rw[HT.zi] at h h'
  by_cases e:x=y
  ·rw[TH e] at h;rw[TH e.symm] at h'
   rw[e,CK xs ys h h']
  ·rw[TJ e] at h;rw[TJ (fun z=>e z.symm)] at h'
   have:=of_decide_eq_false h;have:=of_decide_eq_false h';lia
def me:∀a b c:List Int,HT.lexLt b a=false->HT.lexLt c b=false->HT.lexLt c a=false
 |[],b,c,_,_=>by cases c with
  |nil=>rfl
  |cons _ _=>rfl
 |_::_,[],c,h,_=>by rw[HT.zV] at h;exact absurd h ξ
 |_::_,_::_,[],_,h=>by rw[HT.zV] at h;exact absurd h ξ
 |x::xs,y::ys,z::zs,h,h'=>by
  rw[HT.zi] at h h' ⊢
  by_cases e:y=x
  ·rw[TH e] at h
   by_cases e2:z=y
   ·rw[TH e2] at h';rw[TH (e2.trans e)];exact me xs ys zs h h'
   ·rw[TJ e2] at h';rw[TJ ω]
    have:=of_decide_eq_false h';exact TL ω
  ·rw[TJ e] at h
   have h1:=of_decide_eq_false h
   by_cases e2:z=y
   ·rw[TJ ω]
    exact TL ω
   ·rw[TJ e2] at h'
    have h2:=of_decide_eq_false h';rw[TJ ω];exact TL ω
noncomputable def key(p:List Int):List Int:=(p.length:Int)::p
noncomputable def kle(a b:List Int):Bool:=!HT.lexLt (key b) (key a)
def k4:kle a b=true↔HT.lexLt (key b) (key a)=false:=by unfold kle;simp
noncomputable def canon(ab:Ξ):Ξ:=(dd 2#4).mergeSort kle
def sr(ab:Ξ):(2#6).Perm (dd 2#4):=List.mergeSort_perm _ _
def CL(ab:Ξ):(2#6).Pairwise (fun a b=>kle a b=true):=by
 refine List.pairwise_mergeSort (fun a b c h1 h2=>?_) (fun a b=>?_) _
 ·rw[k4] at h1 h2 ⊢;exact me _ _ _ h1 h2
 ·rw[Bool.or_eq_true,k4,k4]
  cases h:HT.lexLt (key b) (key a) with
  |false=>exact .inl rfl
  |true=>exact .inr (FT _ _ h)
def pd{x:List Int}:x∈canon ab↔x∈ab.flatMap parts:=by rw[(sr ab).mem_iff,i0]
def zH(ab:Ξ):(2#6).Nodup:=(sr ab).nodup_iff.mpr (rA _)
def ss(ab:Ξ):(2#6).length=(dd 2#4).length:=(sr ab).length_eq
def LP{l m:Ξ}(hp:l.Perm m)(h1:l.Pairwise (fun a b=>kle a b=true))(h2:m.Pairwise (fun a b=>kle a b=true)):l=m:=by
 refine List.Perm.eq_of_pairwise (fun a b _ _ g1 g2=>?_) h1 h2 hp;rw[k4] at g1 g2;have:=CK _ _ g2 g1;unfold key at this;exact(List.cons.inj this).2
def canon_of{ab l:Ξ}(hp:l.Perm (dd 2#4))(hs:l.Pairwise (fun a b=>HT.lexLt ((b.length:Int)::b) ((a.length:Int)::a)=false)):l=canon ab:=
 LP (hp.trans (sr ab).symm) (hs.imp fun h=>k4.mpr h) (CL ab)
def sC:∀(n:Nat)(p q:List Int),p.length=n->(q∈subs p↔q.Sublist p)
 |0,p,q,h=>by
  obtain rfl:=QR h;show q∈[[]]↔_;simp
 |n+1,p,q,h=>by
  obtain⟨r,x,rfl⟩:∃r x,p=r++[x]:=by
   rcases List.eq_nil_or_concat p with e|⟨r,x,e⟩
   ·rw[e] at h;cases h
   ·exact⟨r,x,by rw[e,List.concat_eq_append]⟩
  have hr:r.length=n:=by simpa using h
  rw[Ck,Qm,sC n r q hr,Qi,List.sublist_append_iff];constructor
  ·rintro(h1|⟨y,hy,rfl⟩)
   ·exact⟨q,[],by simp,h1,List.nil_sublist _⟩
   ·exact⟨y,[x],rfl,(sC n r y hr).mp hy,List.Sublist.refl _⟩
  ·rintro⟨a,d,rfl,b,c⟩
   cases c with
   |cons _ h=>
    obtain rfl:=List.sublist_nil.mp h;exact .inl 6#b
   |cons_cons _ h=>
    obtain rfl:=List.sublist_nil.mp h;exact .inr ⟨a,(sC n r a hr).mpr b,rfl⟩
def jA{p q:List Int}:q∈parts p↔q≠[]/\q.Sublist p:=by
 obtain⟨t,e,ht⟩:=Cn p;have hs:=sC p.length p q rfl;rw[e] at hs;unfold parts;rw[e];show q∈t↔_;constructor
 ·intro h
  exact⟨ht q h,hs.mp (Ar _ h)⟩
 ·rintro⟨h1,h2⟩
  rcases Qj.mp (hs.mpr h2) with h|h
  ·exact absurd h h1
  ·exact h
def pe:∀p:List Int,a0 p=true↔p.Pairwise (·<·)
 |[]=>by simp[a0]
 |[a]=>by simp[a0]
 |a::b::r=>by
  have c:=pe (b::r);rw[show a0 (a::b::r)=(decide (a<b)&&a0 (b::r)) from rfl,AS,decide_eq_true_eq,c,RD (a:=a)];constructor
  ·rintro⟨h1,h2⟩
   refine⟨fun x hx=>?_,h2⟩;rcases Qj.mp hx with rfl|hx
   ·exact h1
   ·have:=(RD.mp h2).1 x hx
    lia
  ·rintro⟨h1,h2⟩
   exact⟨h1 b Av,h2⟩
def k5:fy p=true↔p≠[]/\p.length<=5/\(∀x∈p,0<=x/\x<=99)/\p.Pairwise (·<·):=by
 unfold fy;simp only[AS,decide_eq_true_eq,Qp,pe];constructor
 ·rintro⟨⟨⟨h1,h2⟩,a⟩,b⟩
  exact⟨fun z=>by rw[z] at h1;simp at h1,h2,a,b⟩
 ·rintro⟨h1,h2,a,b⟩
  refine⟨⟨⟨?_,h2⟩,a⟩,b⟩;cases p with
  |nil=>exact absurd rfl h1
  |cons _ _=>simp
def FU{p q:List Int}(h:fy p=true)(hq:q∈parts p):fy q=true:=by
 rw[k5] at h ⊢;rw[jA] at hq;exact⟨hq.1,AG hq.2.length_le h.2.1,fun x hx=>h.2.2.1 x (hq.2.subset hx),h.2.2.2.sublist hq.2⟩
def LQ{ab:Ξ}(g:ab.Nodup)(hp:∀p∈ab,fy p=true):FD ab ab.length:=by
 intro i p hi e;refine⟨fun hm=>?_,hp p (Ak e)⟩;obtain⟨j,b⟩:=Ql.mp hm;obtain⟨c,a⟩:=BK.mp b;rw[AE] at c;obtain⟨d,f⟩:=BK.mp e;have:=Qq.mp g j i ω d ω;rw[List.getElem_take] at a;exact this (a.trans f.symm)
def LR{ab:Ξ}(a:ab.length<=20)(b:ab.Nodup)(hp:∀p∈ab,fy p=true)(h:(dd 2#4).length<=200):bT ab=true:=by
 rw[Lc ab a (LQ b hp),TK h]
def sM(h:bT ab=true):ab.length<=20/\(∀p∈ab,fy p=true)/\(∀p∈ab,p.length<=5)/\(dd 2#4).length<=200:=by
 unfold bT at h;simp only[AS,decide_eq_true_eq,Qp] at h;obtain⟨⟨⟨h1,h2⟩,c⟩,b⟩:=h;have a:∀p∈ab,fy p=true:=fun p hp=>by rw[<-rF];exact h2 p hp
 exact⟨h1,a,fun p hp=>(k5.mp (a p hp)).2.1,b⟩
end K1
end
section
namespace K67
open K1
open PySem L2 STb
def LS(b:Ξ):Prop:=b.Nodup/\b.length<=17/\(∀ps∈b,ps≠[]/\ps.length<=5/\a0 ps=true/\∀x∈ps,0<=x/\x<=7)/\(b.flatMap parts).length<=200
def LU:∀n,n<20->(known n).Nodup/\(known n).length<=17/\(∀ps∈known n,ps≠[]/\ps.length<=5/\a0 ps=true/\∀x∈ps,0<=x/\x<=7)/\((known n).flatMap parts).length<=200:=δ
def FV{m:Nat}:∀{b:Ξ},(∀ps∈b,(parts ps).length<=m)->(b.flatMap parts).length<=m*b.length
 |[],_=>by simp
 |p::r,h=>by
  have h1:=h p Av;have h2:=FV (b:=r) fun q hq=>h q (Ar _ hq);rw[QE,Az,AB,Nat.mul_succ];lia
def FW(h:Base b):LS b:=by
 rcases h with ⟨n,a,rfl⟩|⟨e,hs⟩
 ·exact LU n a
 ·refine⟨hs.1,ω,fun ps hp=>?_,?_⟩
  ·obtain⟨h1,h2,c,d⟩:=hs.2 ps hp
   exact⟨h1,ω,c,fun x hx=>by have:=d x hx;lia⟩
  ·have:=FV (m:=15) (b:=b) fun ps hp=>by
    rw[mx];have h2:=(hs.2 ps hp).2.1;have:2 ^ ps.length<=2 ^ 4:=SH ξ h2;lia
   lia
def LV{first a:Int}(b:1<=a)(h:c5 first a p=c5 first a q):p=q:=by
 unfold c5 at h;refine(Rg (f:=fun x=>first+a*x) (fun x y e=>?_)).mp h;have:a*x=a*y:=ω
 exact Int.eq_of_mul_eq_mul_left ω this
def LW{first f:Int}(i:0<=first)(h1:first<12)(j:1<=f)(l:f<=3){p:List Int}(h:p≠[]/\p.length<=5/\a0 p=true/\∀x∈p,0<=x/\x<=7):fy (c5 first f p)=true:=by
 obtain⟨a,b,c,d⟩:=h;rw[k5];unfold c5;refine⟨fun z=>a (List.map_eq_nil_iff.mp z),by rw[Ab];exact b,fun y hy=>?_,?_⟩
 ·obtain⟨x,hx,rfl⟩:=Qi.mp hy
  have:=d x hx;have g:f=1\/f=2\/f=3:=ω
  rcases g with rfl|rfl|rfl<;>lia
 ·rw[pe] at c
  rw[AQ];refine c.imp fun{x y} e=>?_;have:f*x<f*y:=Int.mul_lt_mul_of_pos_left e ω;lia
def LX(h:Drawn q):bT q=true/\q.Nodup/\q.length<=17:=by
 obtain⟨b,first,d,hb,f,h1,a,g,hp⟩:=h;obtain⟨n1,n2,i,j⟩:=FW hb;have l:q.length<=17:=by rw[hp.length_eq,Ab];exact n2
 have c:q.Nodup:=by
  rw[hp.nodup_iff];unfold List.Nodup at n1 ⊢;rw[AQ];exact n1.imp fun{x y} e z=>e (LV a z)
 refine⟨LR ω c (fun p hm=>?_) ?_,c,l⟩
 ·obtain⟨r,hr,rfl⟩:=Qi.mp (hp.mem_iff.mp hm)
  exact LW f h1 a g (i r hr)
 ·refine AG (ix _) ?_
  rw[(hp.flatMap_right parts).length_eq];have:∀b:Ξ,((b.map (c5 first d)).flatMap parts).length=(b.flatMap parts).length:=by
   intro b
   induction b with
   |nil=>rfl
   |cons p r ih=>
    rw[Aw,QE,QE,Az,Az,ih,mx,mx];unfold c5;rw[Ab]
  rw[this];exact j
end K67
end
section
namespace K1
open PySem L2 STb
noncomputable def rims(q:List Int):Ξ:=if q.length=1 then [] else(AO q.length).map fun k=>q.take k++q.drop (k+1)
def k6(q:List Int):(rims q).length<=q.length:=by
 unfold rims;split
 ·exact AL _
 ·simp
def FX{p q:List Int}:p∈rims q↔q.length≠1/\∃k,k<q.length/\p=q.take k++q.drop (k+1):=by
 unfold rims;split
 next h=>simp[h]
 next h=>
  rw[Qi];constructor
  ·rintro⟨k,hk,rfl⟩
   exact⟨h,k,Qn.mp hk,rfl⟩
  ·rintro⟨_,k,hk,rfl⟩
   exact⟨k,Qn.mpr hk,rfl⟩
def CM:∀(o p:List Int),o.Pairwise (·<·)->p.Pairwise (·<·)->(∀x∈p,x∈o)->p.Sublist o
 |[],p,_,_,h=>by
  cases p with
  |nil=>exact List.Sublist.slnil
  |cons a r=>exact absurd (h a Av) 2#0
 |b::o,p,ho,hp,h=>by
  obtain⟨f,c⟩:=RD.mp ho;cases p with
  |nil=>exact List.nil_sublist _
  |cons a r=>
   obtain⟨d,g⟩:=RD.mp hp
   by_cases e:a=b
   ·subst e
    refine(CM o r c g fun x hx=>?_).cons_cons a;rcases Qj.mp (h x (Ar _ hx)) with rfl|q
    ·have:=d x hx;lia
    ·exact q
   ·have ha:a∈o:=by
     rcases Qj.mp (h a Av) with q|q
     ·exact absurd q e
     ·exact q
    have i:=f a ha;refine(CM o (a::r) c hp fun x hx=>?_).cons b;rcases Qj.mp (h x hx) with q|q
    ·exfalso
     rcases Qj.mp hx with z|z
     ·lia
     ·have:=d x z;lia
    ·exact q
def LY{p q:List Int}{k:Nat}(hk:k<q.length)(h:p=q.take k++q.drop (k+1)):p.Sublist q/\p.length<q.length:=by
 subst h;refine⟨?_,?_⟩
 ·have h1:(q.take k++q.drop (k+1)).Sublist (q.take k++q.drop k):=(List.Sublist.refl _).append (by
   rw[show q.drop (k+1)=(q.drop k).drop 1 by rw[List.drop_drop]];exact List.drop_sublist _ _)
  rwa [RX] at h1
 ·rw[Az,AE,Qx]
  lia
end K1
end
section
namespace K67
open K1
open PySem L2 STb
def LZ:∀n,n<20->(dd ((known n).flatMap parts)).length<=56:=δ
noncomputable def six:Ξ:=(parts [0,1,2,3,4,5]).filter fun q=>decide (q.length<=4)
def L0:six.length=56:=δ
def L1(h:Base b):(dd (b.flatMap parts)).length<=56:=by
 rcases h with ⟨n,a,rfl⟩|⟨c,hs⟩
 ·exact LZ n a
 ·rw[<-L0]
  refine(rA _).length_le_of_subset fun x hx=>?_;rw[i0,Qu] at hx;obtain⟨p,hp,hx⟩:=hx;obtain⟨_,d,hr,hb⟩:=hs.2 p hp;rw[jA] at hx;have e:=hx.2.length_le;unfold six;rw[Qv,jA];refine⟨⟨hx.1,hx.2.trans (CM _ _ ξ ((pe p).mp hr) fun y hy=>?_)⟩,TK ω⟩;have:=hb y hy;have:y=0\/y=1\/y=2\/y=3\/y=4\/y=5:=ω
  rcases this with rfl|rfl|rfl|rfl|rfl|rfl<;>decide
def L3(h:Drawn q):(dd (q.flatMap parts)).length<=56:=by
 obtain⟨b,first,d,hb,_,_,_,_,hp⟩:=h;refine AG ?_ (L1 hb);have e:((dd (b.flatMap parts)).map (c5 first d)).length=(dd (b.flatMap parts)).length:=Ab _;rw[<-e];refine(rA _).length_le_of_subset fun x hx=>?_;rw[i0,Qu] at hx;obtain⟨p,hm,hx⟩:=hx;obtain⟨r,hr,rfl⟩:=Qi.mp (hp.mem_iff.mp hm);rw[jA] at hx;obtain⟨a,c⟩:=hx;unfold c5 at c;obtain⟨y,hy,rfl⟩:=List.sublist_map_iff.mp c;refine Qi.mpr ⟨y,?_,rfl⟩;rw[i0,Qu];exact⟨r,hr,jA.mpr ⟨fun z=>a (by rw[z];rfl),hy⟩⟩
end K67
end
section
namespace K67
open K1
open PySem L2 STb
def hJ(ab:Ξ):Prop:=bT ab=true/\(canon ab).length<64
noncomputable abbrev sN:Stmt:=top 18
noncomputable abbrev CN:Stmt:=top 19
def FY:∀{a:List 3#7},(∀q∈a,Tp H q.2 q.1)->Tps H (a.map 0#17) (a.map 2#3)
 |[],_=>.nil
 |q::r,h=>.cons (h q Av) (FY fun x hx=>h x (Ar _ hx))
def FZ(t:Told H H2 ab D a):∃bs,Same H H2/\H D=none/\H2 D=some 8#(bs.map V.ref)/\Tps H2 bs 2#6:=by
 obtain⟨sm,b,c,hq,hp,hs⟩:=t;have e:a.map 2#3=canon ab:=canon_of hp (Tc.mpr hs);refine⟨a.map 0#17,sm,b,by rw[c,An];rfl,?_⟩;rw[<-e];exact FY hq
section
variable{P:Program}{w:World}{K:Af}{mg:Str->Option Value}{base:Heap}
def F0(K:Af):Sp:=fun vs H Q _=>∃l as ab,vs=[.ref l]/\SqL K H l 2#2/\Tps H as ab/\hJ ab/\∀D H2 bs,Same H H2->H D=none->H2 D=some 8#(bs.map V.ref)->Tps H2 bs 2#6->Q 5#D H2
def L4:zj ["web"] ["web"] 76#CN:=⟨rfl,rfl,rfl,δ,rfl,δ,δ⟩
def L6:zj ["web"] ["web"] 76#sN:=⟨rfl,rfl,rfl,δ,rfl,δ,δ⟩
def F1(K:Af):Sp:=fun vs H Q _=>∃l as ab,vs=[.ref l]/\SqL K H l 2#2/\Tps H as ab/\hJ ab/\∀H2,Same H H2->Q .non H2
def L7(F:Fun K "must_be_web" "must_be_web" sN f fd)(Fw:Fun K "is_web" "is_web" rQ a b)(e:Binds K b ["web"] [])(g:mg "is_web"=some 5#a)(i:az P w K mg base aK 6 a b ["web"] (FM K)):az P w K mg base aK 7 f fd ["web"] (F1 K):=by
 refine F.ok L6 0#2 3#0
 ·obtain⟨l,as,ab,rfl,_⟩:=h;rfl
 ·obtain⟨l,as,ab,rfl,d,ht,hw,k⟩:=h
  refine⟨_,zf (cI (ji (jV (zI i hr rfl g Fw.kp e .nil av 1#9))) qi zA),?_⟩;refine⟨_,rfl,l,as,ab,rfl,d,ht,(fun _=>by rw[<-ss];exact hw.2),fun H1 c=>⟨_,rfl,?_⟩⟩;rw[hw.1];exact a6 (k H1 c)
def L_(F:Fun K "pieces" "pieces" CN f fd)(Fw:Fun K "must_be_web" "must_be_web" sN c d)(r:Binds K d ["web"] [])(u:mg "must_be_web"=some 5#c)(y:az P w K mg base aK 7 c d ["web"] (F1 K))(Fa:Fun K "all_parts" "all_parts" sAll fa e)(v:Binds K e ["some"] [])(x:mg "all_parts"=some 5#fa)(C:az P w K mg base aK 5 fa e ["some"] (oV K)):az P w K mg base aK 8 f fd ["web"] (F0 K):=by
 refine F.ok L4 0#2 3#0
 ·obtain⟨l,as,ab,rfl,_⟩:=h;rfl
 ·obtain⟨l,as,ab,rfl,g,ht,hw,k⟩:=h
  have b:Room 5 _:=hr.mono ξ;refine⟨_,zc (gm (zI y hr rfl u Fw.kp r .nil av 1#9))
   64#(zI C b rfl x Fa.kp v .nil av 1#9),?_⟩
  obtain⟨i,_,j,_⟩:=sM hw.1;refine⟨_,rfl,l,as,ab,rfl,g,ht,hw,fun H1 a=>?_⟩;refine⟨_,rfl,l,as,ab,rfl,a.seq g,a.tps ht,j,i,(by rw[<-ss];exact hw.2),fun D H2 G t=>?_⟩;obtain⟨bs,o,p,q,hb⟩:=FZ t;exact k D H2 bs (a.trans o) (a.free p) q hb
end
end K67
end
section
namespace K67
open K1
open PySem L2 STb
noncomputable abbrev ph:Stmt:=top 10
def pk(xs:List V)(i:Nat)(h:i<=xs.length):b_ xs none (some (i:Int))=xs.take i:=by
 unfold b_;rw[HT.qv,HT.nP,Nat.min_eq_left h,List.drop_zero,SQ]
def pl(xs:List V)(i:Nat)(h:i<=xs.length):b_ xs (some (i:Int)) none=xs.drop i:=by
 unfold b_;rw[HT.qv,HT.nP,Nat.min_eq_left h];exact AA (by rw[Qx];exact Ag _)
abbrev i4:TE:=bS BH (qG kA 71#1 qx (qD 71#0)) (qG kA 71#1 (qD (bS (fg fun i j=>.int (i+j)) 71#0 (tC 57#1))) qx)
section
variable{P:Program}{w:World}{K:Af}{mg:Str->Option Value}{base:Heap}
def Ma{Q:VK}(ha:Tp H2 a ps)(hz:ps.length<=5)(p:H2 D=none)(k:∀(b:Hp)(bs:List Addr),Same H2 b->b D=some 8#(bs.map V.ref)->Tps b bs ((AO ps.length).map fun k=>ps.take k++ps.drop (k+1))->Q 5#D b):cK (ik 0 ps.length) (zX 0) bM i4 [none,some 5#a] H2 D Q:=by
 refine A3 (fun j σ ys b=>∃(v:Option V)(bs:List Addr),σ=[v,some 5#a]/\Same H2 b/\b D=some 8#ys/\ys=bs.map V.ref/\Tps b bs (((AO ps.length).map fun k=>ps.take k++ps.drop (k+1)).take j)) ?_ ?_ ?_
 ·exact⟨none,[],rfl,Same.new p,ac,rfl,.nil⟩
 ·rintro j σ ys b o hy ⟨v,bs,rfl,sm,c,rfl,hb⟩
  have e:((AO ps.length).map fun k=>ps.take k++ps.drop (k+1))[j]?=some (ps.take j++ps.drop (j+1)):=by rw[Ah,Sb o];rfl
  refine ca ?_;refine⟨_,rfl,_,rfl,_,rfl,a,_,rfl,sm.tp ha,fun q w f g=>⟨_,rfl,_,rfl,_,_,rfl,rfl,_,rfl,a,_,rfl,f _ _ (sm.tp ha),fun p2 x h i=>?_⟩⟩;rw[show(0:Int)+((j:Nat):Int)=((j:Nat):Int) from ω,pk _ _ 4#11,<-Th] at g;rw[show(0:Int)+((j:Nat):Int)+1=((j+1:Nat):Int) from ω,pl _ _ 4#11,<-Tg] at i;refine⟨q,p2,_,_,rfl,rfl,h _ _ g,i,aj (by simp;lia),fun r y u l=>?_⟩;rw[<-Ap] at l;have d:=(f.trans h).trans u;refine bK (aj ω) o hy (d _ _ c) ⟨_,bs++[r],rfl,(63#d).then p,ac,by rw[Ap];rfl,?_⟩;rw[AR e];exact Tps.upd (Tps.snoc (d.tps hb) l) (d _ _ c) 3#8
 ·rintro σ ys b ⟨v,bs,rfl,sm,c,rfl,hb⟩
  rw[AA 2#0] at hb;exact k b bs sm c hb
def mJ:Sp:=fun vs H Q _=>∃a ps,vs=[.ref a]/\Tp H a ps/\ps.length<=5/\∀D H2(bs:List Addr),Same H H2->H D=none->H2 D=some 8#(bs.map V.ref)->Tps H2 bs (rims ps)->Q 5#D H2
def Mb:zj ["piece"] ["piece"] 76#ph:=⟨rfl,rfl,rfl,δ,rfl,δ,δ⟩
def F3(F:Fun K "rims_of" "rims_of" ph f fd)(B:Bt mg):az P w K mg base aK 1 f fd ["piece"] mJ:=by
 refine F.ok Mb 0#2 3#0
 ·obtain⟨a,ps,rfl,_⟩:=h;rfl
 ·obtain⟨a,ps,rfl,ha,e,k⟩:=h
  refine⟨_,zc (cI (zq lV 1#17 ze (ay _)) 64#(zW zb) zA)
   (zf (zl (zw ["piece"] ["k","piece"] [none,some 0] (lT rfl B.range 56#(zm zo rfl B.len ee 1#9)) (fun c C s₀ H₀ ex=>zh (i:=0) (cN ["k","piece"]) rfl 2#1) (fun c C s₀ H₀ ex=>zE)
    (fun c C s₀ H₀ ex=>zv rf (kf rG 7#1 kb (kc 7#0)) (kf rG 7#1 (kc (zv eP 7#0 ze)) kb)) (hfr:=bX 76#ph δ) (te:=i4)))),?_⟩
  refine⟨_,rfl,a,_,rfl,.inr (SqT.of ha),rfl,_,rfl,?_⟩;rw[Ab]
  by_cases h1:ps.length=1
  ·rw[show decide (V.int (ps.length:Int)=V.int 1)=true from TK (by rw[h1];rfl)]
   refine bg ⟨aj 2#0,fun D b=>k D _ [] 62#b b ac ?_⟩;unfold rims;rw[TH h1];exact .nil
  ·rw[show decide (V.int (ps.length:Int)=V.int 1)=false from TL fun z=>h1 (by injection z with z;lia)]
   refine a6 ⟨_,rfl,a,_,rfl,.inr (SqT.of ha),_,rfl,by rw[Ab];lia,by rw[Ab];lia,fun D b=>?_⟩;rw[Ab];refine zy (Ma ha e b fun g bs sm d hb=>k D g bs sm b d ?_);unfold rims;rw[TJ h1];exact hb
end
end K67
end
section
namespace Dk
open PySem PySem.Spec PyProof.Rows
end Dk
namespace L2
open PySem PySem.Spec PyProof.Rows
section
variable{X:Cx}
def Mc(hc:X.calm=true):cP X (.type "list") (fun xs H Q=>∃a kvs,xs=[.ref a]/\Rd H a 51#kvs/\
  ∀(bs:List Addr),Paired 0#6 kvs bs->∀l,H l=none->Q 5#l (upd H l 8#(bs.map V.ref))):=by
 intro aa s σ H xs us Q I r h;obtain⟨a,kvs,rfl,hq,q⟩:=h;obtain⟨u,rfl,j⟩:=vals1 r;cases j;obtain⟨z,y,ys,c,o,es,ep,h1,h2,v,d,D⟩:=(show zr X.prog X.w H s.heap a 51#kvs from hq.ok I.hok);have f:es.size=kvs.length:=by
  have:=congrArg List.length d;rw[Ab,<-AN c] at this
  simpa using this
 refine To (Dk.src (ep:=ep) (es:=es) y) 2#15 ⟨o,h1,h2,v⟩ (by rw[f];exact z) fun h' tk acc c' g e it=>?_;obtain⟨n1,n2⟩:=it;have x:Paired 0#6 kvs 4#9:=by
  have:∀{l:List 4#6}{m:List 0#9},KT H l m->Paired 0#6 l (m.map (·.2.1)):=by
   intro l m q
   induction q with
   |nil=>exact .nil
   |cons hq t ih=>exact .cons hq.2.1 ih
  exact this c
 have A:acc.toList=(4#9).map Value.ref:=by
  apply RJ;intro i;have hy:ys.length=acc.size:=by rw[n1,f];exact(AN c).symm
  by_cases hi:i<acc.size
  ·obtain⟨e',g1,g2⟩:=n2 i acc[i] (by simp[hi])
   have g3:es.toList[i]?=some e':=by simpa using g1
   rw[d,Ah] at g3;have g4:ys[i]?=some ys[i]:=by simp[hy,hi]
   rw[g4] at g3;simp only[Bi,Bg] at g3;simp only[Ah,g4,Bi,AJ,Qz hi];rw[g2,<-g3]
   rfl
  ·have g1:acc.toList.length<=i:=by simp;lia
   have g2:((4#9).map Value.ref).length<=i:=by simp[hy];lia
   rw[Bc g1,Bc g2]
 have C:Vals ((4#9).map V.ref) acc.toList:=by
  rw[A];generalize ys.map (·.2.1)=bs
  induction bs with
  |nil=>exact .nil
  |cons b bs ih=>exact .cons rfl ih
 refine⟨.ref s⁻¹,_,I.laid g 0#10 (show zr X.prog X.w _ h' _ 8#((4#9).map V.ref) from⟨?_,acc.toList,c',C,by simpa using e⟩),rfl,q _ x _ 61#Ag⟩;simp only[Ab];rw[<-AN c];exact z
def F6:∀{l:List 4#6}{m:List 0#9}{i:Nat}{kv:List Key×V},KT H l m->l[i]?=some kv->∃w,m[i]?=some w/\kv.1=w.1/\RelV kv.2 w.2.2
 |_,_,0,_,.cons h _,e=>by cases e;exact⟨_,rfl,h.1,h.2.2⟩
 |_,_,i+1,_,.cons _ t,e=>F6 (i:=i) t 6#e
end
end L2
end
section
namespace L2
open PySem PySem.Spec PyProof.Rows
section
variable{X:Cx}
noncomputable def mK(d:Addr)(o:Obj)(kvs:List 4#6):It:=⟨fun i H=>i<kvs.length/\H d=some (.frz o 51#kvs),fun i H v H'=>H'=H/\∃kv b,kvs[i]?=some kv/\v=.ref b/\H b=some 52#(kv.1.map kV),fun i H=>i=kvs.length/\H d=some (.frz o 51#kvs)⟩
def kt_at:∀{l:List 4#6}{m:List 0#9}{i:Nat}{kv:List Key×V},KT H l m->l[i]?=some kv->∃w,m[i]?=some w/\H w.2.1=some 52#(kv.1.map kV)
 |_,_,0,_,.cons h _,e=>by cases e;exact⟨_,rfl,h.2.1⟩
 |_,_,i+1,_,.cons _ t,e=>kt_at (i:=i) t 6#e
def Md{K:Af}(d it:Addr){o:Obj}{kvs:List 4#6}(hx:o.ExactDict)(y:o.data=.dict es ep)(hsz:es.size=kvs.length):Turn P w K tg (mK d o kvs) [it] it (fun i h=>h.IsKeyIter it d i es.size ep) where
 mem:=by simp
 obj:=fun i h st b hb=>by
  have e:b=it:=by simpa using hb
  subst e;obtain⟨o,e,c,dd⟩:=st;exact⟨o,e,fun v z=>by rw[dd] at z;cases z⟩
 keep:=fun i h h' st k=>by
  obtain⟨o,e,c⟩:=st;exact⟨o,k it 2#0 o e,c⟩
 item:=by
  intro X f hw g hc i aa s σ H E I hf st j;subst f hw g;obtain⟨l,f1,f2,p,q,f5⟩:=hf it 2#0;obtain⟨hi,r⟩:=j;obtain⟨D,z,hs,ys,u,o',es',T,h1,h2,L,M,U⟩:=(show zr X.prog X.w H s.heap d (.frz o 51#kvs) from I.hok d _ r);obtain rfl:o=o':=Ai (D.symm.trans h1);have x:=y.symm.trans L;injection x with x hep
  subst x;have hm:Dk.IsD s.heap d es ep:=⟨o,D,hx,y⟩;have a:i<es.size:=by rw[hsz];exact hi
  refine Dk.item st hm a fun h' C sb=>?_;have S:Inv X aa σ H {s with heap:=h'}:=I.turned (t':=s.toks) (fun b o hb e=>(sb.2 b hb).trans e) l f1 p q f5;obtain⟨W,e1,e2,e3⟩:=id C;have G:kvs[i]?=some kvs[i]:=Ae hi;obtain⟨F,N,hb⟩:=kt_at u G;have g3:es.toList[i]?=some es[i]:=by simp[a]
  rw[M,Ah,N] at g3;simp only[Bi,Bg] at g3;have O:es[i].key=.ref F.2.1:=by rw[<-g3];rfl
  exact⟨_,rfl,ny (s:={s with heap:=h'}) e1 e2 e3 ξ ⟨.ref F.2.1,H,S,by rw[O];rfl,⟨rfl,_,_,G,rfl,hb⟩,C,fun b hb=>(hf b hb).1⟩⟩
 done:=by
  intro X f hw g hc i aa s σ H E I hf st j;subst f hw g;obtain⟨l,f1,f2,p,q,f5⟩:=hf it 2#0;obtain⟨hi,r⟩:=j;have hm:Dk.IsD s.heap d es ep:=⟨o,(show zr X.prog X.w H s.heap d (.frz o 51#kvs) from I.hok d _ r).1,hx,y⟩;have a:i=es.size:=by rw[hsz];exact hi
  subst a;exact Dk.done 2#15 st hm fun h' J=>⟨rfl,I.turned (t':=s.toks) (fun b o hb e=>J b o hb e) l f1 p q f5⟩
 self:=fun A i s Q E st h=>wpAny_pyIter_keyiter st h
def Me(te:TE):TI:=fun σ H R=>te σ H fun x H1=>∃d kvs,x=.ref d/\Rd H1 d 51#kvs/\∀o H2,H2 d=some (.frz o 51#kvs)->(∀b,b≠d->H2 b=H1 b)->R (mK d o kvs) H2
def sO(E:PE X l tl):PI X tg l (Me tl):=by
 intro aa s σ H R I h;refine aT (E aa s σ H _ I h) fun v a ⟨x,H1,I1,r,u⟩=>?_;obtain⟨d,kvs,e,hd,q⟩:=u;subst e;cases r;have go:∀(o:Obj)(H2:Hp),Inv X aa σ H2 a->H2 d=some (.frz o 51#kvs)->(∀b,b≠d->H2 b=H1 b)->wpAny 0#1 X.A (pyIter 5#d) (v8 X aa σ tg R) X.xe a:=by
  intro o H2 I2 j y;obtain⟨D,z,hs,ys,c,o',es,ep,h1,h2,f,i,p⟩:=(show zr X.prog X.w H2 a.heap d (.frz o 51#kvs) from I2.hok d _ j);obtain rfl:o=o':=Ai (D.symm.trans h1);have hsz:es.size=kvs.length:=by
   have:=congrArg List.length i;rw[Ab,<-AN c] at this
   simpa using this
  have hm:Dk.IsD a.heap d es ep:=⟨o,h1,h2,f⟩;refine Dk.iter hs hm ?_;have hfr:H2 a⁻¹=none:=I2.hok.fresh 0#10;refine⟨a⁻¹,[a⁻¹],_,_,_,rfl,I2.kept (t':=a.toks) fun b o e=>Ad _ e,Md d _ h2 f hsz,⟨_,Al _ rfl,rfl,rfl⟩,fun b hb=>?_,q o H2 j y⟩;have e:b=a⁻¹:=by simpa using hb
  subst e;exact I2.fpOk 0#10 hfr
 rcases hd with hd|⟨o,hd⟩
 ·obtain⟨z,hs,ys,c,o,es,ep,h1,h2,f,i,p⟩:=(show zr X.prog X.w H1 a.heap d 51#kvs from I1.hok d _ hd)
  have g:KT (upd H1 d (.frz o 51#kvs)) kvs ys:=KT.keeps c fun b zs e=>by rw[al (fun C=>by rw[C,hd] at e;cases e)];exact e
  exact go o (upd H1 d (.frz o 51#kvs)) (qR (ob:=.frz o 51#kvs) (t':=a.toks) I1 (by rw[hd];exact True.intro) (Heap.SameBut.refl _ _) ⟨o,h1⟩ ⟨h1,z,hs,ys,g,o,es,ep,h1,h2,f,i,p⟩) ac fun b hb=>al hb
 ·exact go o H1 I1 hd fun _ _=>rfl
def F_{kvs:List 4#6}{g:TG}{tb:TS}{D:Ends}(a:Nat->St->Hp->Prop)(u:a 0 σ H)(v:∀i σ H,i<=kvs.length->a i σ H->H d=some (.frz o 51#kvs))(hs:∀i kv b σ H,kvs[i]?=some kv->H b=some 52#(kv.1.map kV)->a i σ H->g 5#b σ H fun f H2=>tb {D with nx:=a (i+1),ct:=a (i+1),bk:=D.nx} f H2)(hd:∀σ H,a kvs.length σ H->D.nx σ H):∃W:Nat->Nat->St->Hp->Prop,(∃m,W 0 m σ H)/\∀i m σ H,W i m σ H->
   ((mK d o kvs).stop i H/\D.nx σ H)\/((mK d o kvs).go i H/\∃N:St->Hp->Prop,(∀h H',N h H'->∃j,j<m/\W (i+1) j h H')/\∀x H',(mK d o kvs).yld i H x H'->g x σ H' fun f H2=>tb {D with nx:=N,ct:=N,bk:=D.nx} f H2):=by
 refine⟨fun i m σ H=>m=kvs.length-i/\i<=kvs.length/\a i σ H,⟨kvs.length,by simp,AL _,u⟩,?_⟩;rintro i m σ H ⟨rfl,hi,p⟩;have q:=v i σ H hi p
 by_cases c:i<kvs.length
 ·refine .inr ⟨⟨c,q⟩,a (i+1),fun h H' l=>⟨kvs.length-(i+1),ω,rfl,c,l⟩,fun x H' y=>?_⟩
  obtain⟨e,kv,b,r,rfl,hb⟩:=y;subst e;exact hs i kv b σ _ r hb p
 ·have:i=kvs.length:=ω
  subst this;exact .inl ⟨⟨rfl,q⟩,hd σ H p⟩
end
end L2
end
section
namespace L2
open PySem PySem.Spec PyProof.Rows
def Rd.same(r:Rd H a u)(s:Same H H'):Rd H' a u:=by
 rcases r with r|⟨o,r⟩
 ·exact .inl (s _ _ r)
 ·exact .inr ⟨o,s _ _ r⟩
end L2
end
section
set_option maxHeartbeats 3200000
namespace STb
open PySem PySem.SetTable PyProof.Rows
def CO{b:Type}(next:Nat->Nat):∀(fuel k:Nat)(left:List b)(out:Array b),left.length=fuel->∃l,l.Perm left/\(pickOrder.go next fuel k left out).toList=out.toList++l
 |0,k,left,out,h=>⟨[],by rw[QR h],by simp[pickOrder.go]⟩
 |fuel+1,k,left,out,h=>by
  have a:next k%left.length<left.length:=Ts _ ω;unfold pickOrder.go;rw[Ae a];dsimp only;obtain⟨l,c,e⟩:=CO next fuel (k+1) (left.eraseIdx (next k%left.length)) (out.push left[next k%left.length]) (by rw[List.length_eraseIdx,TH a];lia);refine⟨left[next k%left.length]::l,?_,?_⟩
  ·refine(List.Perm.cons _ c).trans ?_
   rw[List.eraseIdx_eq_take_drop_succ];refine(List.perm_middle (l₁:=left.take (next k%left.length))).symm.trans ?_;rw[<-RE a,RX]
  ·rw[e,Sy,Te]
   rfl
def Mf{b:Type}(next:Nat->Nat)(xs:Array b):(pickOrder next xs).toList.Perm xs.toList:=by
 obtain⟨l,a,e⟩:=CO next xs.size 0 xs.toList #[] 2#0;unfold pickOrder;rw[e]
 simpa using a
section
variable{prog:Program}{w:World}{K:Type}[DecidableEq K]{knd:KeyKind prog w K}{A:Around}{E:Ω}{s:Shared}
def Mg{B:List Addr}{t:SetTable}(X:TS knd s.heap S o es ep t ks B)(hu:A.units<cLine){k:List K}(hk:AM knd s.heap k b){Q:Option Nat->Shared->Prop}(h:∀r:Option Nat,r.isSome=decide (k∈ks)->Q r s):wpAny 0#0 A (setFind S 5#b 4#16) Q E s:=by
 have T:=X.tb;have j:=fits_of T;unfold setFind setFindIn;refine Aa (Bd X.at_ X.dt j ?_);dsimp only;have l:byScan 5#b es=false:=rfl;rw[l];simp only[Am,if_false];obtain⟨ne,d,he,hm⟩:=B6 T 4#16;refine Aa ?_;unfold setSearch;refine Fq X hu hk d he hm (fun e r hr=>?_) (fun f=>?_) 100000 0 none ?_ (AL _) rfl (fun m i c g=>absurd g (RG _))
 ·exact Ac (h r (by rw[hr rfl,TK e]))
 ·exact Ac (h none (by rw[TL f];rfl))
 ·have:t.mask<=255:=by rcases X.msk with ⟨a,_⟩|⟨a,_⟩|⟨a,_⟩|⟨a,_⟩|⟨a,_⟩|⟨a,_⟩<;>lia
  unfold turns at d;lia
def Mh{Q:Bool->Shared->Prop}(h:Q (w.params.followText "set-order") s):wpAny 0#0 A setsByText Q E s:=by
 unfold setsByText;exact Aa (wpAny_askSetting (Ac h))
def wp_walk{B:List Addr}{t:SetTable}(X:TS knd s.heap S o es ep t ks B){Q:Array 3#16->Shared->Prop}(h:∀r:Array 3#16,r.toList.Perm es.toList->Q r s):wpAny 0#0 A (setWalk S) Q E s:=by
 have a:=fits_of X.tb;unfold setWalk;refine Aa (Bd X.at_ X.dt a ?_);dsimp only;refine Aa (Mh ?_);cases hb:w.params.followText "set-order" with
 |true=>
  simp only[if_true];exact Aa (wpAny_askSetting (Ac (h _ (Mf _ es))))
 |false=>
  have hw:t.led=true/\t.plain=true:=X.wk.resolve_left (by rw[hb];simp);simp only[Am,if_false];show wpAny _ _ (ite ((!t.plain&&decide (es.size>1))=true) _ _) _ _ _;rw[hw.2];simp only[Bv,Rx,Am,if_false];show wpAny _ _ ((ite ((!t.led&&decide (es.size>1))=true) _ _) >>= _) _ _ _;rw[hw.1];simp only[Bv,Rx,Am,if_false];exact Aa (Ac (Ac (h es (List.Perm.refl _))))
def Mi{B:List Addr}{t:SetTable}(X:TS knd s.heap S o es ep t ks B){Q:Nat->Shared->Prop}(h:Q ep s):wpAny 0#0 A (setEpoch S) Q E s:=by
 unfold setEpoch;exact Aa (Bd X.at_ X.dt (fits_of X.tb) (Ac h))
def sQ{B:List Addr}{t:SetTable}(X:TS knd s.heap S o es ep t ks B){Q:Nat->Shared->Prop}(h:Q ks.length s):wpAny 0#0 A (Builtin.Frozenset.sizeOf S) Q E s:=by
 unfold Builtin.Frozenset.sizeOf setEntries;refine Aa (Aa (Bd X.at_ X.dt (fits_of X.tb) (Ac 1#5)));rw[X.sz];exact h
def Mj(hT:s.TypeIs 5#S "set"){Q:Bool->Shared->Prop}(h:Q true s):wpAny 0#0 A (Builtin.Frozenset.isAnySet 5#S) Q E s:=by
 unfold Builtin.Frozenset.isAnySet orM;refine Aa (wpAny_isInstance hT sub_set_self ?_);exact Ac h
end
end STb
end
section
set_option maxHeartbeats 3200000
namespace STb
open PySem PySem.SetTable PyProof.Rows
def Mk:∀n,n<60->5<=n->(sizeAbove (n*2)<=sizeLine)/\(sizeAbove (n*2)-1=15\/sizeAbove (n*2)-1=31\/sizeAbove (n*2)-1=63\/sizeAbove (n*2)-1=127):=δ
section
variable{prog:Program}{w:World}{K:Type}[DecidableEq K]{knd:KeyKind prog w K}{A:Around}{E:Ω}{s:Shared}
def Ml{B:List Addr}{t:SetTable}(X:TS knd s.heap S o es ep t ([]:List (List K)) B)(hm:t.mask=7){n:Nat}(p:n<60){Q:Unit->Shared->Prop}(h:∀h' o' es' f t',TS knd h' S o' es' f t' ([]:List (List K)) B->AU S s.heap h'->Q () {s with heap:=h'}):wpAny 0#0 A (setRoomFor S n) Q E s:=by
 have T:=X.tb;have i:=fits_of T;have j:es.size=0:=X.sz;have a:t.place.size=0:=by rw[T.size,Bb];exact j
 have l:t.fill=0:=by unfold SetTable.fill;rw[T.dum,a];rfl
 unfold setRoomFor;refine Aa (Bd X.at_ X.dt i ?_);dsimp only;unfold SetTable.roomFor;rw[l,a,hm,RI]
 by_cases q:n*5 ≥ 7*3
 ·rw[TH q]
  dsimp only;obtain⟨g,z2⟩:=Mk n p ω;have go:∀m2,sizeAbove (n*2)-1=m2->Cov m2->m2%2=1->((m2=7/\es.size<=4)\/(m2=31/\es.size<=18)\/(m2=127/\es.size<=76)\/(m2=15/\es.size<=8)\/(m2=63/\es.size<=37)\/(m2=255/\es.size<=152))->
    wpAny 0#0 A (setRelay S (n*2)) Q E s:=fun m2 b c d e=>
   Fu X.at_ X.ex X.dt T X.sz X.nd X.ad X.el X.ke b g c d ω ω e X.wk h
  rcases z2 with z|z|z|z
  ·exact go 15 z oI rfl ω
  ·exact go 31 z hG rfl ω
  ·exact go 63 z jp rfl ω
  ·exact go 127 z eS rfl ω
 ·rw[TJ q]
  exact Ac (h s.heap o es ep t X (Heap.SameBut.refl ..))
end
end STb
end
section
set_option maxHeartbeats 3200000
namespace STb
open PySem PySem.SetTable PyProof.Rows
section
variable{prog:Program}{w:World}{K:Type}[DecidableEq K]{knd:KeyKind prog w K}{A:Around}{E:Ω}{s:Shared}
def Mm{B:List Addr}{id:String}{t:SetTable}(X:TS knd s.heap S o es ep t ([]:List (List K)) B)(hm:t.mask=7)(u:s.heap.get? d=some l)(fU:l.cls=.type "dict")(G:l.data=.dict a nG)(dC:(d==Bs)=false)(p:d≠S)(hu:A.units<cLine)(hv:∀k v n,knd.is k v=true->hashByValue n v=pure true){vals:List (List K)}{adr:Nat->Addr}(hn:vals.length=a.size)(hz:a.size<=59)(hB:∀i,i<a.size->adr i∈B)(aw:∀(i:Nat) e x,a[i]?=some e->vals[i]?=some x->e.key=.ref (adr i)/\e.hash=Au knd x)(hT:∀(j:Nat) x,vals[j]?=some x->AM knd s.heap x (adr j)){Q:Unit->Shared->Prop}(h:∀h',(∃o es ep t,TS knd h' S o es ep t (dd vals) B)->AU S s.heap h'->Q () {s with heap:=h'}):wpAny 0#0 A (Builtin.Frozenset.updateFrom id S 5#d) Q E s:=by
 have f:s.TypeIs 5#d "dict":=⟨l,u,fU⟩;unfold Builtin.Frozenset.updateFrom Builtin.Frozenset.isAnySet orM;refine Aa (Aa (wpAny_isInstance f F.sub_dict_set ?_));refine wpAny_isInstance f F.sub_dict_frozenset ?_;simp only[Am,if_false];refine Aa (wpAny_typeOf f ?_);rw[TH ξ];refine Aa (wpAny_rule ?_);unfold Builtin.Frozenset.addrOf;refine Aa 1#5;rw[TJ (by rw[dC];exact Ax)];refine Aa (wpAny_dictEpoch u G ?_);refine Aa (A0 u G ?_);refine Aa (Ml X hm ω fun h1 W es1 Y t1 X1 L=>?_);have nK:h1.get? d=some l:=by rw[L.2 d p];exact u
 refine Aa (A0 (s:={s with heap:=h1}) nK G ?_);refine Aa ?_;rw[Std.Legacy.Range.forIn_eq_forIn_range'];simp only[Std.Legacy.Range.size,SQ,Sl,Nat.div_one];refine wpAny_forIn_list _
  (fun rest _ s'=>∃h' i,s'={s with heap:=h'}/\rest=TD i (a.size-i)/\i<=a.size/\(∃o es ep t,TS knd h' S o es ep t (dd (vals.take i)) B)/\AU S s.heap h')
  _ ?_ ?_ _ _ ⟨h1,0,rfl,by simp,AL _,⟨W,es1,Y,t1,by simpa[dd] using X1⟩,L⟩
 ·rintro x rest b s' ⟨h',i,rfl,hr,hi,⟨o',es',bv,t',X'⟩,C⟩
  have c:i<a.size:=by
   rcases QM i a.size with h|h
   ·exact h
   ·rw[Nat.sub_eq_zero_of_le h] at hr;simp at hr
  obtain⟨rfl,cA⟩:x=i/\rest=TD (i+1) (a.size-(i+1)):=by
   have e:a.size-i=(a.size-(i+1))+1:=ω
   rw[e,List.range'_succ] at hr;injection hr with h1 h2
   exact⟨h1,h2⟩
  have I:h'.get? d=some l:=by rw[C.2 d p];exact u
  refine Aa (A0 (s:={s with heap:=h'}) I G ?_);rw[Qz c];have hx:vals[x]?=some vals[x]:=Ae ω;obtain⟨q1,q2⟩:=aw x a[x] _ (by simp[c]) hx;show wpAny _ _ (holding [a[x].key] (setAddHashed S a[x].key a[x].hash) >>= _) _ _ _;rw[q1,q2];have D:=ix (vals.take x);rw[AE] at D;refine Aa (AH (Fv X' hu hv (js (hT x _ hx) X.at_ X.dt C) (hB x c) ω fun r y M N O P H bQ=>?_));have U:AU S s.heap y:=C.trans bQ;have nq:y.get? d=some l:=by rw[U.2 d p];exact u
  refine Aa (wpAny_dictEpoch (s:={s with heap:=y}) nq G ?_);rw[TJ 2#0];have g:vals.take (x+1)=vals.take x++[vals[x]]:=by rw[QQ,hx];rfl
  have X3:TS knd y S M N O P (dd (vals.take (x+1))) B:=by
   rw[g,iX]
   by_cases q:vals[x]∈dd (vals.take x)
   ·rw[TH q] at H ⊢;exact H
   ·rw[TJ q] at H ⊢;exact H
  exact Ac ⟨y,x+1,rfl,cA,c,⟨M,N,O,P,X3⟩,U⟩
 ·rintro b s' ⟨h',i,rfl,hr,hi,T,C⟩
  have J:i=a.size:=by
   have e:=congrArg List.length hr;simp at e;lia
  subst J;rw[AA ω] at T;exact Ac (h h' T C)
end
end STb
end
section
namespace STb
open PySem PySem.SetTable PyProof.Rows
section
variable{prog:Program}{w:World}{K:Type}[DecidableEq K]{knd:KeyKind prog w K}{A:Around}{E:Ω}{s:Shared}
def Mn{B:List Addr}{vals:List (List K)}{adr:Nat->Addr}{Q:Ω}(u:s.heap.get? d=some g)(L:g.cls=.type "dict")(M:g.data=.dict a J)(N:(d==Bs)=false)(hu:A.units+64<cLine)(O:∀k v n,knd.is k v=true->hashByValue n v=pure true)(hz:a.size<=59)(P:vals.length=a.size)(S:∀i,i<a.size->adr i∈B)(T:∀(i:Nat) e x,a[i]?=some e->vals[i]?=some x->e.key=.ref (adr i)/\e.hash=Au knd x)(hT:∀(j:Nat) x,vals[j]?=some x->AM knd s.heap x (adr j))(h:∀h' tk,0#16->(∀b o,b<s⁻¹->s.heap.get? b=some o->h'.get? b=some o)->Q 0#5 {s with heap:=h',toks:=tk}):wpAny 0#0 A (call (.type "set") [.ref d]) Q E s:=by
 obtain⟨c,tl,W⟩:=F.called_set.mro;have X:=F.called_set.made;have Y:=F.called_set.sub;refine wpAny_call (codeAny_of_tree ?_);show wpAny _ _ (callAny (.type "set") _) _ _ _;refine Ac ⟨Code.quiet_builtin _ δ,A7 F.entry_type_call ?_⟩;rw[Around.under_plain (weight_type_call_type "set" [.ref d] []) rfl];have h1:=F.called_set.notType;have h2:=F.called_set.canCreate;have kh:=F.typeCall_set_1 5#d
 repeat(any_goals(first|assumption|wp_step))
 refine Bx (Cd 5#d (E:=E) (Q₁:=fun obj l=>∃led:Bool,(w.params.followText "set-order"=true\/led=true)/\obj=.ref s⁻¹/\l={s with heap:=s.heap.push {cls:=.type "set",dict:=none,data:=.set #[] 0 3#13}}) ⟨_,by cases w.params.followText "set-order" <;> simp,rfl,rfl⟩) fun r l hr=>?_;cases r with
 |error e=>exact hr
 |ok fl=>
  cases fl with
  |ret obj=>
   obtain⟨led,D,rfl,rfl⟩:=hr;have q:(4#0).get? s⁻¹=some {cls:=.type "set",dict:=none,data:=.set #[] 0 3#13}:=Al _ rfl;have H:Shared.TypeIs {s with heap:=s.heap.push {cls:=.type "set",dict:=none,data:=.set #[] 0 3#13}} 0#5 "set":=⟨_,q,rfl⟩;have k_:=F.called_set.init.lookup;have ln:=F.called_set.init.bind 0#5
   repeat(any_goals(first|assumption|wp_step))
   refine Bx (codeAny_call_builtin (R:=wants (fun r p=>r=.none/\∃h' tk,p={s with heap:=h',toks:=tk}/\
     0#16/\
     4#7) E) F.called_set.init.plain F.entry_set_init (check_set_init_1 H ?_)) fun y p f=>?_
   ·have I:d<s⁻¹:=Ao u
    have U:TS knd 4#0 s⁻¹ {cls:=.type "set",dict:=none,data:=.set #[] 0 3#13} #[] 0 3#13 ([]:List (List K)) B:=
     ⟨q,⟨rfl,rfl,rfl⟩,rfl,(by simpa using B8 0 0 led),rfl,BC,fun e he=>by simp at he,fun k hk=>by simp at hk,.inl ⟨rfl,AL _⟩,(fun e he=>by simp at he),D.imp id fun z=>⟨z,rfl⟩⟩
    unfold Builtin.«set.__init__» noKeywords;generalize hPI:Builtin.Frozenset.updateFrom=PI
    wp_walk
    subst hPI;refine Mm (s:={s with heap:=s.heap.push {cls:=.type "set",dict:=none,data:=.set #[] 0 3#13}}) U rfl (Ad _ u) L M N (Aq I) (by show A.units+1+1<cLine;lia) O P hz S T
     (fun j x hx=>rB (hT j x hx) fun o e=>Ad _ e) fun h' C sb=>?_
    show wpAny _ _ (ret Value.none) _ _ _;refine Ac ⟨rfl,h',s.toks,rfl,C,fun b o hb e=>?_⟩;rw[sb.2 b (Aq hb)];exact Ad _ e
   ·cases y with
    |error e=>exact f
    |ok fl₂=>
     cases fl₂ with
     |ret r=>
      obtain⟨rfl,h',tk,rfl,G,hk'⟩:=f
      repeat(any_goals(first|assumption|wp_step))
      exact h _ _ G hk'
     |_=>exact f.elim
  |_=>exact hr.elim
end
end STb
end
section
namespace STb
open PySem PySem.SetTable PyProof.Rows
def Mo:entryFor table "set.__ne__"=some Builtin.«frozenset.__ne__»:=
 entryFor_alias (id':="frozenset.__ne__") (by kernel_rfl) rfl δ (by kernel_rfl)
section
variable{prog:Program}{w:World}{A:Around}{E:Ω}{s:Shared}
def Mp{n m:Nat}(b:s.TypeIs 5#S1 "set")(c:s.TypeIs 5#S2 "set")(hu:A.units+64<cLine)(h1:∀(A':Around)(Q:Nat->Shared->Prop)(a:Ω),Q n s->wpAny 0#0 A' (Builtin.Frozenset.sizeOf S1) Q a s)(h2:∀(A':Around)(Q:Nat->Shared->Prop)(a:Ω),Q m s->wpAny 0#0 A' (Builtin.Frozenset.sizeOf S2) Q a s)(d:n=m->∀(id:String)(A':Around)(Q:Bool->Shared->Prop)(a:Ω),A'.units<cLine->Q r s->wpAny 0#0 A' (Builtin.Frozenset.subsetOf id S1 S2) Q a s){Q:Ω}(h:Q (.bool (!(decide (n=m)&&r))) s):wpAny 0#0 A (Bz .NotEq 5#S1 5#S2) Q E s:=by
 show wpAny _ _ (richCompare .NotEq 5#S1 5#S2) _ _ _;refine wpAny_richCompare_same_room (op:=.NotEq) b c PySem.F.slot_set_ne (AX PySem.F.slot_set_ne b Mo ?_ (PySem.F.args_set_ne_2 _ _)) ω;unfold Builtin.«frozenset.__ne__»
 wp_delta
 refine Aa (show wpAny 0#0 A.in1 (pure (Value.ref S1,Value.ref S2)) _ _ _ from Ac ?_);dsimp only;refine Aa (Mj c ?_);simp only[Bv,Am,if_false];unfold Builtin.Frozenset.addrOf;refine Aa (Ac (Aa 1#5));refine Aa (h1 _ _ _ ?_);refine Aa (h2 _ _ _ ?_)
 by_cases e:n=m
 ·subst e
  rw[TK rfl,Bool.true_and] at h;simp only[bne_self_eq_false,Am,if_false];refine Aa ?_;unfold andM;refine Aa (Aa (wpAny_isInstance b PySem.F.sub_set_frozenset ?_));refine Ac ?_;simp only[Am,if_false];refine d rfl _ _ _ _ (by show A.units+1<cLine;lia) ?_;exact Ac ⟨_,rfl,(fun e=>nomatch e),h⟩
 ·rw[TL e,Rx] at h
  have e':(n != m)=true:=by simpa using e
  simp only[e',if_true];exact Aa (Ac (Ac ⟨_,rfl,(fun e=>nomatch e),h⟩))
end
end STb
end
section
namespace STb
open PySem PySem.SetTable PyProof.Rows
section
variable{prog:Program}{w:World}{K:Type}[DecidableEq K]{knd:KeyKind prog w K}
def TO(knd:KeyKind prog w K)(h:Heap)(S:Addr)(ks:List (List K))(B:List (List K×Addr)):Prop:=
 ∃o es ep t,h.get? S=some o/\o.ExactSet/\o.data=.set es ep t/\Tb t 1#13/\es.size=ks.length/\ks.Nodup/\
  (∀e∈es.toList,∃k b,k∈ks/\(k,b)∈B/\e=0#4)/\(∀k∈ks,∃b,(k,b)∈B/\(Au knd k,Value.ref b)∈es.toList)/\
  ((t.mask=7/\es.size<=4)\/(t.mask=31/\es.size<=18)\/(t.mask=127/\es.size<=76)\/(t.mask=15/\es.size<=8)\/(t.mask=63/\es.size<=37)\/(t.mask=255/\es.size<=152))/\
  (w.params.followText "set-order"=true\/0#15)
def TO.keep{h h':Heap}{B:List (List K×Addr)}(x:TO knd h S ks B)(k:∀o,h.get? S=some o->h'.get? S=some o):TO knd h' S ks B:=
 let ⟨o,es,ep,t,h1,r⟩:=x;⟨o,es,ep,t,k o h1,r⟩
def TO.of{B:List (List K×Addr)}(x:∃o es ep t,TS knd h S o es ep t ks (B.map 0#17))(i:∀p∈B,AM knd h p.1 p.2):TO knd h S ks B:=by
 obtain⟨o,es,ep,t,X⟩:=x;have a:∀e∈es.toList,∀k b,e=0#4->AM knd h k b->(k,b)∈B:=fun e he k b e1 e2=>by
  obtain⟨f,hb',e3⟩:=X.ad e he;rw[e1] at e3;obtain rfl:b=f:=by simpa using e3
  obtain⟨p,hp,rfl⟩:=Qi.mp hb';obtain rfl:=e2.inj (i p hp);exact hp
 refine⟨o,es,ep,t,X.at_,X.ex,X.dt,X.tb,X.sz,X.nd,fun e he=>?_,fun k hk=>?_,X.msk,X.wk⟩
 ·obtain⟨k,b,c,d,g⟩:=X.el e he
  exact⟨k,b,c,a e he k b d g,d⟩
 ·obtain⟨b,c,d⟩:=X.ke k hk
  exact⟨b,a _ c k b rfl d,c⟩
def TO.ts{B:List (List K×Addr)}(x:TO knd h S ks B)(g:∀p∈B,AM knd h p.1 p.2):∃o es ep t,TS knd h S o es ep t ks (B.map 0#17):=by
 obtain⟨o,es,ep,t,h1,h2,i,j,l,q,f,r,u,v⟩:=x;refine⟨o,es,ep,t,h1,h2,i,j,l,q,fun e he=>?_,fun k hk=>?_,u,fun e he=>?_,v⟩
 ·obtain⟨k,b,c,a,d⟩:=f e he
  exact⟨k,b,c,d,g _ a⟩
 ·obtain⟨b,c,a⟩:=r k hk
  exact⟨b,a,g _ c⟩
 ·obtain⟨k,b,c,a,d⟩:=f e he
  exact⟨b,Qi.mpr ⟨_,a,rfl⟩,by rw[d]⟩
end
end STb
namespace L2
open PySem PySem.Spec PyProof.Rows
noncomputable def dE(P:Program)(w:World)(D:Addr)(ks:Ξ)(B:List 3#7):HO:=.ext fun h=>STb.TO (intKind P w) h D ks B
def TB(H:Hp)(B:List 3#7):Prop:=∀p∈B,Tp H p.2 p.1
def TB.mono{B:List 3#7}(h:TB H B)(e:Same H H'):TB H' B:=fun p hp=>e.tp (h p hp)
def TB.zip(h:Tps H as ab):TB H (ab.zip as):=by
 induction h with
 |nil=>intro p hp;simp at hp
 |cons q t ih=>
  intro p hp;rw[RS] at hp;rcases Qj.mp hp with rfl|hp
  ·exact q
  ·exact ih p hp
section
variable{X:Cx}
def TB.keys{s:Shared}{B:List 3#7}(h:TB H B)(I:Inv X aa σ H s):∀p∈B,AM (intKind X.prog X.w) s.heap p.1 p.2:=fun p hp=>by
 obtain⟨b,a,p2,_⟩:=I.tuple (SqT.of (K:=X.K) (h p hp));exact Cf p2 (intsAre_of a)
def F'{B:List 3#7}(x:STb.TO (intKind P w) h D ks B):zr P w H h D (dE P w D ks B):=
 ⟨x,(let ⟨o,_,_,_,h1,_⟩:=x;⟨o,h1⟩),fun h1 h2 y a=>y.keep fun o e=>a o e⟩
def Gb{s:Shared}{B:List 3#7}(I:Inv X aa σ H s)(e:H D=some (dE X.prog X.w D ks B)):STb.TO (intKind X.prog X.w) s.heap D ks B:=
 (show zr X.prog X.w H s.heap D (dE X.prog X.w D ks B) from I.hok D _ e).1
def Mq(hc:X.calm=true)(hu:X.A.units+64<cLine):cP X (.type "set") (fun xs H Q=>∃(l:Addr)(as:List Addr)(ab:Ξ),xs=[.ref l]/\SqL X.K H l 2#2/\Tps H as ab/\ab.length<=59/\
  ∀D,H D=none->Q 5#D (upd H D (dE X.prog X.w D (STb.dd ab) (ab.zip as)))):=by
 intro aa s σ H xs us Q I r h;obtain⟨l,as,ab,rfl,hq,hp,hz,q⟩:=h;obtain⟨u,rfl,g⟩:=vals1 r;cases g;obtain⟨J,y,C,_⟩:=I.list hq;obtain rfl:=aG y;have E:=hp.length;have f:=(TB.zip hp).keys I;have F:(ab.zip as).map 0#17=as:=by rw[SE ω]
 refine STb.Fx (B:=as) (knd:=intKind X.prog X.w) (vals:=ab) (adr:=fun i=>as.getD i 0) 2#15 C.isList hu Ce (by rw[Aj,Ab];lia) (by rw[Aj,Ab];lia) (fun i hi=>by rw[Aj,Ab] at hi;rw[AK,Ae hi];exact A8 hi)
  (fun i v e=>?_) (fun j x e=>?_) fun h' tk T d=>?_
 ·have e':(1#4)[i]?=some v:=by simpa using e
  rw[Ah] at e';cases c:as[i]? with
  |none=>rw[c] at e';simp at e'
  |some a=>
   rw[c] at e';rw[<-Ai e',AK,c]
   rfl
 ·have G:j<as.length:=by rw[E];exact(BK.mp e).1
  have c:as[j]?=some as[j]:=Ae G;rw[AK,c];refine f (x,as[j]) (Ak (i:=j) ?_);rw[Qt];exact⟨e,c⟩
 ·refine⟨.ref s⁻¹,_,I.laid (o:=dE X.prog X.w s⁻¹ (STb.dd ab) (ab.zip as)) (fun b u e=>d b u (Ao e) e) 0#10 (F' (STb.TO.of (by rw[F];exact T) fun p hp=>?_)),rfl,q _ 61#Ag⟩
  exact STb.rB (f p hp) fun o e=>d _ o (Ao e) e
end
end L2
end
section
namespace L2
open PySem PySem.Spec PyProof.Rows
def CP(ps:List Int):Au (zp P w) (ps.map Sum.inl)=Au (intKind P w) ps:=by
 unfold Au;rw[An]
 rfl
section
variable{X:Cx}
def Mr(hu:X.A.units+64<cLine):cP X (.type "set") (fun xs H Q=>∃(a:Addr)(kvs:List 4#6)(ab:Ξ),xs=[.ref a]/\Rd H a 51#kvs/\kvs.map 2#3=ab.map 2#16/\ab.length<=59/\
  ∀B,TB H B->∀D,H D=none->Q 5#D (upd H D (dE X.prog X.w D (STb.dd ab) B))):=by
 intro aa s σ H xs us Q I r h;obtain⟨a,kvs,ab,rfl,hq,hp,hz,q⟩:=h;obtain⟨u,rfl,J⟩:=vals1 r;cases J;obtain⟨z,y,ys,c,o,es,ep,h1,h2,L,v,S⟩:=(show zr X.prog X.w H s.heap a 51#kvs from hq.ok I.hok);have d:kvs.length=ys.length:=AN c;have f:kvs.length=ab.length:=by simpa using congrArg List.length hp
 have M:es.size=ys.length:=by
  have:=congrArg List.length v;rw[Ab] at this
  simpa using this
 have tps:Tps H 4#9 ab:=by
  have:∀{l:List 4#6}{m:List 0#9}{ab:Ξ},KT H l m->l.map 2#3=ab.map 2#16->Tps H (m.map (·.2.1)) ab:=by
   intro l m ab q
   induction q generalizing ab with
   |nil=>intro e;cases ab with
    |nil=>exact .nil
    |cons p ps=>simp at e
   |cons hq t ih=>intro e;cases ab with
    |nil=>simp at e
    |cons p ps=>
     simp only[Aw,List.cons.injEq] at e;refine .cons ?_ (ih e.2);have:=hq.2.1;rw[e.1,An] at this;exact this
  exact this c hp
 have N:ys.map 2#3=ab.map 2#16:=by
  rw[<-hp];have:∀{l:List 4#6}{m:List 0#9},KT H l m->m.map 2#3=l.map 2#3:=by
   intro l m q
   induction q with
   |nil=>rfl
   |cons hq t ih=>rw[Aw,Aw,ih,hq.1]
  exact this c
 have C:=TB.zip tps;have E:=C.keys I;have O:(ab.zip 4#9).map 0#17=ys.map (·.2.1):=by rw[SE 4#11]
 refine STb.Mn (B:=ys.map (·.2.1)) (knd:=intKind X.prog X.w) (vals:=ab) (adr:=fun i=>(ys.map (·.2.1)).getD i 0) h1 h2.1 L y hu Ce ω ω (fun i hi=>by rw[AK,Ae 4#11];exact A8 _)
  (fun i e x e1 e2=>?_) (fun j x e=>?_) fun h' tk T g=>?_
 ·have hi:i<ys.length:=by rw[<-M];exact(Qs.mp e1).1
  have g3:es.toList[i]?=some e:=by simpa using e1
  have g4:ys[i]?=some ys[i]:=Ae hi;rw[v,Ah,g4] at g3;simp only[Bi,Bg] at g3;have F:=congrArg (·[i]?) N;simp only[Ah,g4,e2,Bi,Bg] at F;rw[<-g3,AK,Ah,g4];refine⟨rfl,?_⟩;show Au (zp X.prog X.w) ys[i].1=_;rw[F,CP]
 ·have P:j<(4#9).length:=by rw[Ab,<-d,f];exact(BK.mp e).1
  have G:(4#9)[j]?=some (4#9)[j]:=Ae P;rw[AK,G];refine E (x,(4#9)[j]) (Ak (i:=j) ?_);rw[Qt];exact⟨e,G⟩
 ·refine⟨.ref s⁻¹,_,I.laid (o:=dE X.prog X.w s⁻¹ (STb.dd ab) (ab.zip 4#9)) (fun b u e=>g b u (Ao e) e) 0#10 (F' (STb.TO.of (by rw[O];exact T) fun p hp=>?_)),rfl,q _ C _ 61#Ag⟩
  exact STb.rB (E p hp) fun o e=>g _ o (Ao e) e
end
end L2
end
section
namespace STb
def Ms(ns:List Int):∀i,i<=ns.length->Tz (fun i=>ns.getD i 0) i=dd (ns.take i):=by
 intro i
 induction i with
 |zero=>intro _;simp[Tz,dd]
 |succ i ih=>
  intro hi;have hx:ns[i]?=some ns[i]:=Ae ω;have a:ns.take (i+1)=ns.take i++[ns[i]]:=by rw[QQ,hx];rfl
  rw[PyProof.Rows.firstMet_succ,ih ω,a,iX];have b:ns.getD i 0=ns[i]:=by rw[AK,hx];rfl
  rw[b];unfold PyProof.Rows.step_dedup
  by_cases q:ns[i]∈dd (ns.take i)
  ·rw[TH q];simp[q]
  ·rw[TJ q];simp[q]
def sS{a:Type}[DecidableEq a](l:List a)(x:a):x∈dd l↔x∈l:=by
 suffices ∀(n:Nat),x∈dd (l.take n)↔x∈l.take n by simpa using this l.length
 intro n
 induction n with
 |zero=>simp[dd]
 |succ n ih=>
  rw[QQ];cases e:l[n]? with
  |none=>simpa[e] using ih
  |some y=>
   show x∈dd (l.take n++[y])↔x∈l.take n++[y];rw[iX]
   by_cases q:y∈dd (l.take n)
   ·rw[TH q,Qm,Bm,ih]
    exact⟨.inl,fun z=>z.elim id fun z=>by
     subst z;exact ih.mp q⟩
   ·rw[TJ q,Qm,Qm,ih]
def CQ{c:Type}[DecidableEq c](l:List c):(dd l).Nodup:=by
 suffices ∀(n:Nat),(dd (l.take n)).Nodup by simpa using this l.length
 intro n
 induction n with
 |zero=>simp[dd]
 |succ n ih=>
  rw[QQ];cases e:l[n]? with
  |none=>simpa[e] using ih
  |some y=>
   show(dd (l.take n++[y])).Nodup;rw[iX]
   by_cases q:y∈dd (l.take n)
   ·rw[TH q];exact ih
   ·rw[TJ q,BD]
    refine⟨ih,by simp,fun a ha b hb=>?_⟩;rw[Qk.mp hb];exact fun z=>q (z▸ha)
end STb
namespace L2
open PySem PySem.Spec PyProof.Rows
end L2
end
section
namespace STb
open PySem PySem.SetTable PyProof.Rows
section
variable{prog:Program}{w:World}{A:Around}{E:Ω}{s:Shared}
def Mt(h1:∀(c:Around)(Q:Array 3#16->Shared->Prop)(d:Ω),Q es1 s->wpAny 0#0 c (setEntries S1) Q d s)(h2:∀(c:Around)(Q:Array 3#16->Shared->Prop)(d:Ω),Q es2 s->wpAny 0#0 c (setEntries S2) Q d s)(hq:∀e∈es1.toList++es2.toList,∃b,(b=false->∃a,e.2=.ref a)/\∀(c:Around)(Q:Bool->Shared->Prop)(d:Ω),Q b s->wpAny 0#0 c (Builtin.Frozenset.quietEq e.2) Q d s)(hw:∀(c:Around)(Q:Array 3#16->Shared->Prop)(d:Ω),(∀r:Array 3#16,r.toList.Perm es1.toList->Q r s)->(∃e∈es1.toList++es2.toList,∃a,e.2=.ref a)->wpAny 0#0 c (setWalk S1) Q d s){Q:List 3#16->Shared->Prop}(h:∀l:List 3#16,l.Perm es1.toList->Q l s):wpAny 0#0 A (Builtin.Frozenset.walkUnseen S1 S2) Q E s:=by
 unfold Builtin.Frozenset.walkUnseen;refine Aa (h1 _ _ _ ?_);refine Aa (h2 _ _ _ ?_);refine Aa (Br (wpAny_forIn_list _ (fun rest b s'=>b=(none,())/\s'=s/\∀e∈rest,e∈es1.toList++es2.toList) (fun b s'=>s'=s/\(b=(none,())\/∃l,b=(some l,())/\l.Perm es1.toList)) ?_ ?_ _ _ ⟨rfl,rfl,fun e he=>he⟩) ?_ fun _ _ e=>e)
 ·rintro⟨g,x⟩ rest b s' ⟨rfl,rfl,hr⟩
  obtain⟨b,hf,hb⟩:=hq (g,x) (hr _ Av);dsimp only;cases b with
  |true=>
   refine Aa (hb _ _ _ ?_);simp only[Bv,Am,if_false];exact Ac ⟨rfl,rfl,fun e he=>hr e (Ar _ he)⟩
  |false=>
   have f:∃a,x=.ref a:=hf rfl;refine Aa (hb _ _ _ ?_);simp only[Sz,if_true];unfold Builtin.Frozenset.walk;refine Aa (Aa (hw _ _ _ (fun r hr'=>?_) ⟨_,hr _ Av,f⟩));exact Ac (Ac ⟨rfl,.inr ⟨_,rfl,hr'⟩⟩)
 ·rintro b s' ⟨rfl,rfl,_⟩
  exact⟨rfl,.inl rfl⟩
 ·rintro⟨o,⟨⟩⟩ s' ⟨rfl,hb⟩
  rcases hb with e|⟨l,e,hp⟩
  ·cases e
   exact Ac (h _ (List.Perm.refl _))
  ·cases e
   exact Ac (h _ hp)
def Mu{id:String}{es1:Array 3#16}{n m ep:Nat}{g:Int×Value->Bool}(q:n=m)(h1:∀(d:Around)(Q:Nat->Shared->Prop)(c:Ω),Q n s->wpAny 0#0 d (Builtin.Frozenset.sizeOf S1) Q c s)(h2:∀(d:Around)(Q:Nat->Shared->Prop)(c:Ω),Q m s->wpAny 0#0 d (Builtin.Frozenset.sizeOf S2) Q c s)(he:∀(d:Around)(Q:Nat->Shared->Prop)(c:Ω),Q ep s->wpAny 0#0 d (setEpoch S1) Q c s)(hw:∀(d:Around)(Q:List 3#16->Shared->Prop)(c:Ω),(∀l:List 3#16,l.Perm es1.toList->Q l s)->wpAny 0#0 d (Builtin.Frozenset.walkUnseen S1 S2) Q c s)(hf:∀e∈es1.toList,∀(Q:Option Nat->Shared->Prop)(c:Ω),(∀r:Option Nat,r.isSome=g e->Q r s)->wpAny 0#0 A (setFind S2 e.2 e.1) Q c s){Q:Bool->Shared->Prop}(h:Q (es1.toList.all g) s):wpAny 0#0 A (Builtin.Frozenset.subsetOf id S1 S2) Q E s:=by
 unfold Builtin.Frozenset.subsetOf;refine Aa (h1 _ _ _ ?_);refine Aa (h2 _ _ _ ?_);rw[TJ ω];refine Aa (he _ _ _ ?_);refine Aa (hw _ _ _ fun l i=>?_);have f:l.all g=es1.toList.all g:=by
  rw[Ra,Qp,Qp];exact⟨fun a x hx=>a x (i.mem_iff.mpr hx),fun a x hx=>a x (i.mem_iff.mp hx)⟩
 rw[<-f] at h;refine Aa (Br (wpAny_forIn_list _ (fun rest b s'=>b=(none,())/\s'=s/\(∀e∈rest,e∈es1.toList)/\l.all g=rest.all g) (fun b s'=>s'=s/\((b=(none,())/\l.all g=true)\/(b=(some false,())/\l.all g=false))) ?_ ?_ _ _ ⟨rfl,rfl,fun e he=>i.mem_iff.mp he,rfl⟩) ?_ fun _ _ e=>e)
 ·rintro⟨p,x⟩ rest b s' ⟨rfl,rfl,hr,ha⟩
  dsimp only;refine Aa (AH (hf (p,x) (hr _ Av) _ _ fun r hr'=>?_));cases r with
  |none=>
   simp only[Option.isNone_none,if_true];refine Ac ⟨rfl,.inr ⟨rfl,?_⟩⟩;rw[ha,SG,<-hr'];rfl
  |some j=>
   simp only[Option.isNone_some,Am,if_false];unfold Builtin.Frozenset.unchanged;refine Aa (Aa (he _ _ _ ?_));simp only[bne_self_eq_false,Am,if_false];refine Ac (Ac ⟨rfl,rfl,fun e he=>hr e (Ar _ he),?_⟩);rw[ha,SG,<-hr'];rfl
 ·rintro b s' ⟨rfl,rfl,_,ha⟩
  exact⟨rfl,.inl ⟨rfl,ha⟩⟩
 ·rintro⟨o,⟨⟩⟩ s' ⟨rfl,hb⟩
  rcases hb with ⟨e,ha⟩|⟨e,ha⟩
  ·cases e
   rw[ha] at h;exact Ac h
  ·cases e
   rw[ha] at h;exact Ac h
def sW{t:SetTable}(a:s.heap.get? S=some o)(hd:o.data=.set es ep t)(hf:t.fits es.size=true){Q:Array 3#16->Shared->Prop}(h:Q es s):wpAny 0#0 A (setEntries S) Q E s:=by
 unfold setEntries;exact Aa (Bd a hd hf (Ac h))
variable{K:Type}[DecidableEq K]{knd:KeyKind prog w K}
def Mv(X1:TS knd s.heap S1 C es1 N P c U)(X2:TS knd s.heap S2 D es2 O S f W)(hu:A.units+64<cLine){Q:Ω}(h:Q (.bool (!(decide (c.length=f.length)&&decide (∀k∈c,k∈f)))) s):wpAny 0#0 A (Bz .NotEq 5#S1 5#S2) Q E s:=by
 have f1:=fits_of X1.tb;have f2:=fits_of X2.tb;refine Mp (n:=c.length) (m:=f.length) (r:=decide (∀k∈c,k∈f)) ⟨C,X1.at_,X1.ex.1⟩ ⟨D,X2.at_,X2.ex.1⟩ hu (fun G H I h'=>sQ X1 h') (fun G H I h'=>sQ X2 h') (fun J id G H I L h'=>?_) h;have key:∀e∈es1.toList,∃k b,k∈c/\e=0#4/\AM knd s.heap k b:=X1.el
 classical
 let kk:Int×Value->Bool:=fun e=>if ∃k b,k∈c/\k∈f/\e=0#4/\AM knd s.heap k b then true else false
 have uniq:∀{k i:List K}{b:Addr},AM knd s.heap k b->AM knd s.heap i b->k=i:=fun a b=>IsTupleKey.inj a b;refine Mu (es1:=es1) (g:=kk) J (fun y q u h2=>sQ X1 h2) (fun y q u h2=>sQ X2 h2) (fun y q u h2=>Mi X1 h2)
  (fun y q u h2=>Mt (es1:=es1) (es2:=es2) (fun _ _ _ d=>sW X1.at_ X1.dt f1 d) (fun _ _ _ d=>sW X2.at_ X2.dt f2 d) (fun e he=>?_) (fun _ _ _ d _=>wp_walk X1 d) h2) (fun e he q u h2=>?_) ?_
 ·have:∃k b,e=0#4/\AM knd s.heap k b:=by
   rcases Qm.mp he with z|z
   ·obtain⟨k,b,_,v,x⟩:=X1.el e z;exact⟨k,b,v,x⟩
   ·obtain⟨k,b,_,v,x⟩:=X2.el e z;exact⟨k,b,v,x⟩
  obtain⟨k,b,rfl,o,X,n,M,hc,_⟩:=this;refine⟨false,fun _=>⟨b,rfl⟩,fun Y Q3 E3 d=>?_⟩;unfold Builtin.Frozenset.quietEq;dsimp only;refine Aa (wpAny_specialOf (T:="tuple") ⟨o,M,hc⟩ F.slot_tuple_eq.lookup ?_);exact Ac d
 ·obtain⟨k,b,hk,rfl,j⟩:=key e he
  refine Mg X2 L j fun r hr=>h2 r ?_;rw[hr];show decide (k∈f)=kk _
  by_cases z:k∈f
  ·rw[TK z]
   exact(TH ⟨k,b,hk,z,rfl,j⟩).symm
  ·rw[TL z]
   refine(TJ ?_).symm;rintro⟨i,p,_,l,e2,d⟩;obtain⟨_,e3⟩:=Prod.mk.inj e2;cases e3;rw[uniq j d] at z;exact z l
 ·have e:es1.toList.all kk=decide (∀k∈c,k∈f):=by
   rw[Ra,Qp,decide_eq_true_eq];constructor
   ·intro a k hk
    obtain⟨b,hb,j⟩:=X1.ke k hk;have:=a _ hb
    by_cases z:∃i p,i∈c/\i∈f/\(Au knd k,Value.ref b)=(Au knd i,Value.ref p)/\AM knd s.heap i p
    ·obtain⟨i,p,_,l,e2,d⟩:=z
     obtain⟨_,e3⟩:=Prod.mk.inj e2;cases e3;rw[uniq j d];exact l
    ·exact absurd ((TJ z).symm.trans this) 2#0
   ·intro a e he
    obtain⟨k,b,hk,rfl,j⟩:=key e he;exact TH ⟨k,b,hk,a k hk,rfl,j⟩
  rw[e];exact h'
end
end STb
end
section
namespace STb
open PySem PySem.SetTable PyProof.Rows
noncomputable def iv:Value->Int
 |.int n _=>n
 |_=>0
def SI(prog:Program)(w:World)(h:Heap)(S:Addr)(ns:List Int):Prop:=
 ∃o es ep t,h.get? S=some o/\o.ExactSet/\o.data=.set es ep t/\Tb t 1#13/\ElemsOf 3#4 es.toList/\(es.toList.map fun e=>iv e.2).Perm ns/\ns.Nodup/\
  ((t.mask=7/\es.size<=4)\/(t.mask=31/\es.size<=18)\/(t.mask=127/\es.size<=60))/\(w.params.followText "set-order"=true\/0#15)
def SI.keep{h h':Heap}(x:SI prog w h S ns)(k:∀o,h.get? S=some o->h'.get? S=some o):SI prog w h' S ns:=
 let ⟨o,es,ep,t,h1,r⟩:=x;⟨o,es,ep,t,k o h1,r⟩
def Mw{l:List Nat}{n:Nat}(b:l.Nodup)(c:l.length=n)(hb:∀q∈l,q<n):l.Perm (AO n):=by
 refine(Q9 b R7).mpr fun q=>⟨fun h=>Qn.mpr (hb q h),fun h=>?_⟩;apply A1;intro z;have a:(q::l).Nodup:=Qo.mpr ⟨z,b⟩;have sub:(q::l) ⊆ AO n:=fun x hx=>by
  rcases Qj.mp hx with e|e
  ·rw[e];exact h
  ·exact Qn.mpr (hb x e)
 have:=a.length_le_of_subset sub;rw[AB,BE] at this;lia
def Mx{t:SetTable}(T:Tb t hs)(h:Int):∃ne,¬Occ t 53#ne/\(∀m,m<ne->Occ t 53#m)/\t.freeSlot h=some (pos t.mask h ne,false):=by
 obtain⟨ne,a,he,hm⟩:=B6 T h;refine⟨ne,he,hm,?_⟩;unfold SetTable.freeSlot;have b:t.probeStart h=pr t.mask h 0:=rfl;rw[b];rcases probe_spec T (hashAt:=fun _=>h+1) a he hm (AL _) with ⟨e,_⟩|⟨N,i,_,_,_,e,_⟩
 ·rw[e];rfl
 ·lia
def Mz{t:SetTable}{es:Array 3#16}{want m2:Nat}(hw:SetTable.sizeAbove want-1=m2)(hc:Cov m2)(y:m2%2=1)(hr:es.size<=m2):∃es' t',relayAll t es want=(es',t',false)/\t'.mask=m2/\t'.led=t.led/\t'.plain=t.plain/\Tb t' (es'.map 2#3):=by
 obtain⟨c,a,e1,e2,e3,l,f,o,d,r⟩:=Fl hc y t.finger (t.movedTo m2) t.led t.plain 1#13 (by rw[Bb];exact hr);have v:t.relaid 1#13 want=some (c,a):=by
  unfold SetTable.relaid;rw[hw];exact e1
 rw[Bb] at f d;obtain⟨b,f1,f2,A,u⟩:=B' (es:=es) d;have h:a.filterMap (es[·]?)=b.toArray:=by
  apply Array.toList_inj.mp;rw[Array.toList_filterMap,f1]
 have C:b.length=es.size:=by rw[f2,AD,f]
 have g:(b.toArray.map 2#3)=a.map fun q=>((1#13)[q]?).getD 0:=by
  apply S6;intro i;rw[QJ,QJ,RW];cases q:a[i]? with
  |none=>
   have:a.toList.length<=i:=by rw[AD];exact R1.mp q
   rw[Bc ω]
   rfl
  |some p=>
   have e:=u i p (by rw[AJ];exact q);have hp:=d p (by rw[<-AJ] at q;exact Ak q);rw[e,getElem?_pos es p hp];simp[hp]
 have j:Tb c (b.toArray.map 2#3):=by rw[g];exact r
 refine⟨b.toArray,c,?_,e2,e3,l,j⟩;unfold relayAll;rw[v];dsimp only;have w:coversAll a es.size=true:=by
  unfold coversAll;rw[List.isPerm_iff];exact Mw o (by rw[AD];exact f) d
 have x:c.fits (a.filterMap (es[·]?)).size=true:=by rw[h];exact fits_of j
 rw[w,x,h]
 rfl
section
variable{prog:Program}{w:World}{A:Around}{E:Ω}{s:Shared}
def Gc{e:Int×Value}(h:ElemsOf 3#4 l)(he:e∈l):∃n t,e=((3#4).hash n,.int n t):=by
 obtain⟨⟨k,h1,h2⟩,_⟩:=h e he;obtain⟨t,a⟩:=Value.isInt_shape h1;exact⟨k,t,Prod.ext h2 a⟩
def MA(X:SI prog w s.heap S ns)(hn:ns.length<60){n:Int}{Q:Bool->Shared->Prop}(h:∀(r:Bool) h',SI prog w h' S (if n∈ns then ns else ns++[n])->AU S s.heap h'->Q r {s with heap:=h'}):wpAny 0#0 A (setAddHashed S (.int n tk) ((3#4).hash n)) Q E s:=by
 obtain⟨o,es,ep,t,C,hex,hd,T,D,hp,nd,mk,wk⟩:=id X;have hf:=fits_of T;have M:(3#4).is n (.int n tk)=true:=intKind_is _ _ _ _;have N:es.size=ns.length:=by have:=hp.length_eq;simpa using this
 have hb:es.size<scanBound:=by unfold scanBound;lia
 unfold setAddHashed setAddHashedIn;refine AH (Aa (Bd C hd hf ?_));dsimp only;rw[byScan_of (knd:=intKind prog w) rfl hb D];simp only[↓reduceIte];unfold setAddByScan;refine Aa ?_;refine Aa (wpAny_rule ?_);refine Aa (wpAny_setScan_of M C hd hf D ?_);cases hr:List.findIdx? (fun e=>(intKind prog w).is n e.2) es.toList with
 |some j=>
  dsimp only;obtain⟨hj,mv,_⟩:=List.findIdx?_eq_some_iff_getElem.mp hr;have H:n∈ns:=by
   refine hp.mem_iff.mp (Qi.mpr ⟨es.toList[j],A8 hj,?_⟩);obtain⟨t',e⟩:=Value.isInt_shape mv;rw[e];rfl
  refine Ac 1#5;have e:s={s with heap:=s.heap}:=by cases s;rfl
  have:=h false s.heap (by rw[TH H];exact X) (Heap.SameBut.refl _ _);exact this
 |none=>
  dsimp only;have I:n∉ns:=fun z=>by
   obtain⟨e,he,e2⟩:=Qi.mp (hp.mem_iff.mpr z);obtain⟨m,t',e3⟩:=Gc D he;have:=List.findIdx?_eq_none_iff.mp hr e he;subst e3;obtain rfl:m=n:=e2;rw[intKind_is] at this;exact Bool.noConfusion this
  obtain⟨ne,he,hm,ef⟩:=Mx T ((3#4).hash n);have cx:(1#13).size+1<=t.mask:=by
   rw[Bb];rcases mk with ⟨a,b⟩|⟨a,b⟩|⟨a,b⟩<;>lia
  obtain⟨d,p2,G⟩:=Fh T he hm cx;rw[Bb] at d;obtain⟨c,p,F⟩:∃c p,t.put (pos t.mask ((3#4).hash n) ne)=(c,p):=⟨_,_,rfl⟩;have uZ:c.led=t.led:=by
   have e1:c=(t.put (pos t.mask ((3#4).hash n) ne)).1:=by rw[F]
   rw[e1];rfl
  have J:c.plain=t.plain:=by
   have e1:c=(t.put (pos t.mask ((3#4).hash n) ne)).1:=by rw[F]
   rw[e1];rfl
  rw[F] at d p2 G;dsimp only at d p2 G;have O:(4#10).size=es.size+1:=oH _ _ _ d;have f:(4#10).map 2#3=insertAt 1#13 p ((3#4).hash n):=ins_map 2#3 es p _ d;have T1:Tb c ((4#10).map 2#3):=by rw[f];exact G
  have f1:=fits_of T1;have P:layNew t es ((3#4).hash n) (.int n tk)=(insertAt es p ((3#4).hash n,Value.int n tk),c,false,false):=by
   unfold layNew;rw[ef];dsimp only;rw[F];dsimp only;unfold SetTable.orStandIn;rw[f1]
   rfl
  have g:=layNew_perm t es ((3#4).hash n) (.int n tk);rw[P] at g;rw[P];dsimp only at g ⊢;rw[Sy] at g;have U:ElemsOf 3#4 (4#10).toList:=(D.push M rfl).perm g;have W:((4#10).toList.map fun e=>iv e.2).Perm (ns++[n]):=by
   refine(g.map _).trans ?_;rw[Ap];exact hp.append_right _
  have i:(ns++[n]).Nodup:=by
   rw[BD];refine⟨nd,by simp,fun x hx y hy=>?_⟩;rw[Qk.mp hy];exact fun z=>I (z▸hx)
  have l:w.params.followText "set-order"=true\/(c.led=true/\c.plain=true):=by rw[uZ,J];exact wk
  have u:(4#10).size<scanBound:=by rw[O];unfold scanBound;lia
  generalize insertAt es p ((3#4).hash n,Value.int n tk)=es1 at *;refine Aa 1#5;have tail:wpAny 0#0 A (storeSet S es1 c >>= fun _=>if(!false&&c.tooFull)=true then(do
      (match (relayAll c es1 (SetTable.grown es1.size)).2.2 with|true=>rule "set.scan.the-table-gave-way" |false=>pure ())
      storeSet S (relayAll c es1 (SetTable.grown es1.size)).1 (relayAll c es1 (SetTable.grown es1.size)).2.1
      pure 55#true)
     else pure 55#true) (fun a s'=>wpAny 0#0 A (match a with|some added=>pure added|none=>setAddHashedIn S (.int n tk) ((3#4).hash n) 99999) Q E s') E s:=by
   refine Aa (wpAny_storeSet_of C hd ?_ (fits_of_scanBound u));have L:=rz (es':=es1) (t':=c) C hd;have Y:=AI s.heap S (Obj.putSet es1 c);have fl:c.fill=es.size+1:=by
    unfold SetTable.fill;rw[T1.dum,T1.size,Bb,O]
    rfl
   have tf:c.tooFull=decide ((es.size+1)*5 ≥ t.mask*3):=by unfold SetTable.tooFull;rw[fl,p2]
   by_cases q:(es.size+1)*5 ≥ t.mask*3
   ·rw[tf,TK q]
    simp only[Sz,Tf,if_true];obtain⟨m2,g1,g2,g3,g4,g5⟩:∃m2,SetTable.sizeAbove (SetTable.grown es1.size)-1=m2/\Cov m2/\m2%2=1/\es1.size<=m2/\((m2=31/\es1.size<=18)\/(m2=127/\es1.size<=60)):=by
     rcases mk with ⟨a,b⟩|⟨a,b⟩|⟨a,b⟩
     ·exact⟨31,by rw[show es1.size=5 from ω];decide +kernel,hG,rfl,ω,.inl ⟨rfl,ω⟩⟩
     ·exact⟨127,by rw[show es1.size=19 from ω];decide +kernel,eS,rfl,ω,.inr ⟨rfl,ω⟩⟩
     ·lia
    obtain⟨es2,t3,r1,r2,r3,r4,r5⟩:=Mz (t:=c) (es:=es1) (want:=SetTable.grown es1.size) (m2:=m2) g1 g2 g3 g4;have v:=relayAll_perm c es1 (SetTable.grown es1.size);rw[r1] at v ⊢;dsimp only at v ⊢;have jW:es2.size=es1.size:=by rw[<-AD,v.length_eq,AD]
    refine Aa 1#5;refine Aa (wpAny_storeSet_of L rfl ?_ (fits_of_scanBound (by rw[jW];exact u)));refine Ac (Ac (h true _ ?_ (Y.trans (AI _ S _))));rw[TJ I];exact⟨_,es2,ep+1+1,t3,rz L rfl,hex,rfl,r5,U.perm v,(v.map _).trans W,i,.inr (by rw[r2,jW];exact g5),by rw[r3,r4];exact l⟩
   ·rw[tf,TL q]
    simp only[Rl,Am,if_false];have tQ:(c.mask=7/\es1.size<=4)\/(c.mask=31/\es1.size<=18)\/(c.mask=127/\es1.size<=60):=by
     rcases mk with ⟨a,b⟩|⟨a,b⟩|⟨a,b⟩
     ·left;lia
     ·right;left;lia
     ·right;right;lia
    refine Ac (Ac (h true _ ?_ Y));rw[TJ I];exact⟨_,es1,ep+1,c,L,hex,rfl,T1,U,W,i,tQ,l⟩
  cases hpl:c.plain with
  |true=>
   simp only[if_true];refine Aa ?_;rw[hashByValue_scannable 8 rfl];refine Ac ?_;simp only[plainKind,if_true];exact tail
  |false=>
   simp only[Am,if_false];refine Aa 1#5;simp only[if_true];exact tail
end
end STb
end
section
namespace STb
open PySem PySem.SetTable PyProof.Rows
section
variable{prog:Program}{w:World}{A:Around}{R:Result->Shared->Prop}{I:Addr}{fp wr:List Addr}{G:Array GenState->Array GenState->Prop}{n:Nat}{P:Nat->Value->Prop}{St:Nat->Shared->Prop}
def MB(W:WalksS prog w A.in1 I fp wr G n P St)(S:Addr)(f:S∉fp)(val:Nat->Int)(g:∀i v,P i v->∃t,v=.int (val i) t)(hb:n<=60):∀(k i:Nat)(s:Shared),n-i=k->i<=n->St i s->SI prog w s.heap S (firstMet val i)->
   (∀s',Moved (S::wr) G s s'->SI prog w s'.heap S (firstMet val n)->R (.ok (.ret .none)) s')->
   codeAny 0#0 A (.builtin "set.update.loop" ⟨[.ref S,.ref I],[]⟩) R s:=by
 have c:S∉wr:=fun h=>f (W.sub _ h);have y:∀b∈wr,b∈S::wr:=fun b hb=>Ar _ hb;intro k
 induction k with
 |zero=>
  intro i s hk hi a l hR;have p:i=n:=ω
  subst p;refine A7 F.entry_set_update_loop ?_;rw[A4 F.plain_set_update_loop _];show wpAny _ A.in1 (pyNext 5#I >>= _) _ _ s;refine Aa (W.done s _ _ a fun s' hm=>?_);show wpAny _ A.in1 (ret Value.none) _ _ s';exact Ac (hR s' (hm.mono y) (l.keep fun o e=>hm.heap S o c e))
 |succ k ih=>
  intro i s hk hi a l hR;have d:i<n:=ω
  refine A7 F.entry_set_update_loop ?_;rw[A4 F.plain_set_update_loop _];show wpAny _ A.in1 (pyNext 5#I >>= _) _ _ s;refine Aa (W.item i s _ _ d a fun v s' C D hm=>?_);obtain⟨t,rfl⟩:=g i v C;have L:SI prog w s'.heap S (firstMet val i):=l.keep fun o e=>hm.heap S o c e;show wpAny _ A.in1 (holding [Value.int (val i) t] (setAdd S 85#(val i)) >>= _) _ _ s';refine Aa (AH ?_);unfold setAdd;refine AH ?_;refine Aa ((3#4).pyHash (k:=val i) (intKind_is _ _ _ _) ?_);have M:(firstMet val i).length<60:=by have:=firstMet_length_le val i;lia
  refine MA (s:={s' with toks:=s'.toks+1}) L M fun r h' j u=>?_;have N:SI prog w h' S (firstMet val (i+1)):=by
   rw[firstMet_succ];unfold step_dedup
   by_cases q:val i∈firstMet val i
   ·rw[TH q] at j;rw[TH (Ri.mpr ⟨_,q,by simp⟩)];exact j
   ·rw[TJ q] at j;rw[TJ fun z=>by obtain⟨x,hx,e⟩:=Ri.mp z;exact q (eq_of_beq e▸hx)];exact j
  refine Ac ⟨plainId_quiet F.plain_set_update_loop _,ih (i+1) _ ω d (W.frame _ s' _ _ D (QI _) fun b hb o e=>?_) N fun E H J=>?_⟩
  ·rw[u.2 b (fun h:b=S=>f (by rw[<-h];exact hb))];exact e
  ·refine hR E (Moved.trans W.gtrans ((hm.mono y).then_heap (QI _) fun b o hb e=>?_) H) J
   rw[u.2 b (fun h:b=S=>hb (by rw[h];exact Av))];exact e
end
section
variable{prog:Program}{w:World}{A:Around}{E:Ω}{s:Shared}
def MC{Q:Ω}(hh:A.handled=none)(hl:s.heap.IsList l a)(hi:IntsAre a.toList ns)(hb:a.size<=60)(h:∀(h':Heap)(tk:Nat),SI prog w h' s⁻¹ (dd ns)->
   4#7->Q 0#5 {s with heap:=h',toks:=tk}):
  wpAny 0#0 A (call (.type "set") [.ref l]) Q E s:=by
 obtain⟨c,tl,dq⟩:=F.called_set.mro;have dj:=F.called_set.made;have aJ:=F.called_set.sub;have tj:firstMet (fun i=>ns.getD i 0) a.size=dd ns:=by
  have hn:a.size=ns.length:=by rw[<-AD];exact hi.length
  rw[hn,Ms ns _ 0#10,Tr]
 refine wpAny_call (codeAny_of_tree ?_);show wpAny _ _ (callAny (.type "set") _) _ _ _;refine Ac ⟨Code.quiet_builtin _ δ,A7 F.entry_type_call ?_⟩;rw[Around.under_plain (weight_type_call_type "set" [.ref l] []) rfl];have h1:=F.called_set.notType;have h2:=F.called_set.canCreate;have kh:=F.typeCall_set_1 5#l
 repeat(any_goals(first|assumption|wp_step))
 refine Bx (Cd 5#l (E:=E) (Q₁:=fun obj D=>∃led:Bool,(w.params.followText "set-order"=true\/led=true)/\obj=.ref s⁻¹/\D={s with heap:=s.heap.push {cls:=.type "set",dict:=none,data:=.set #[] 0 3#13}}) ⟨_,by cases w.params.followText "set-order" <;> simp,rfl,rfl⟩) fun r D hr=>?_;cases r with
 |error e=>exact hr
 |ok fl=>
  cases fl with
  |ret obj=>
   obtain⟨led,S,rfl,rfl⟩:=hr;have L:(4#0).get? s⁻¹=some {cls:=.type "set",dict:=none,data:=.set #[] 0 3#13}:=Al _ rfl;have eE:Shared.TypeIs {s with heap:=s.heap.push {cls:=.type "set",dict:=none,data:=.set #[] 0 3#13}} 0#5 "set":=⟨_,L,rfl⟩;have k_:=F.called_set.init.lookup;have ln:=F.called_set.init.bind 0#5
   repeat(any_goals(first|assumption|wp_step))
   refine Bx (codeAny_call_builtin (R:=wants (fun r G=>r=.none/\∃h' tk,G={s with heap:=h',toks:=tk}/\
     SI prog w h' s⁻¹ (dd ns)/\
     4#7) E) F.called_set.init.plain F.entry_set_init (check_set_init_1 eE ?_)) fun O G q=>?_
   ·obtain⟨T,I,d,u,J⟩:=hl
    obtain⟨l8,U,jg,W⟩:=T;simp only at d J;subst d;subst J;have M:(4#0).get? l=some {cls:=.type "list",dict:=U,data:=.seq a u,slots:=W}:=Ad _ I;have mD:=F.sub_list_set;have mX:=F.sub_list_frozenset;have hne:(Value.type "list" == Value.type "dict")=false:=ξ
    have x:(4#0).IsList l a:=⟨_,M,rfl,u,rfl⟩;unfold Builtin.«set.__init__» noKeywords Builtin.Frozenset.updateFrom;generalize hPI:pyIter=PI
    wp_walk
    subst hPI;refine wpAny_pyIter_list x ?_;refine Aa (wpAny_runValue ?_);have N:l<s⁻¹:=Ao I;have nr:A.in1.in1.in1.handled=none:=by simp[hh]
    have f:l≠(4#0).objs.size:=by
     rw[Heap.size_push];exact Aq (AW N)
    have y:s⁻¹∉[(4#0).objs.size,l]:=by
     rw[Heap.size_push];simp only[Qj,Bm,QL,or_false,not_or];exact⟨Aq (RM _),Bf N⟩
    have g:∀(i:Nat)(v:Value),a[i]?=some v->∃t,v=.int ((fun i=>ns.getD i 0) i) t:=fun i v P=>
     PyProof.Rows.IntsAre.int_at hi i v (by rw[AJ];exact P)
    refine MB ((Walks.list nr _ l f a).toS) s⁻¹
     y (fun i=>ns.getD i 0) g hb (a.size-0) 0 _ ω (AL _)
     ⟨⟨_,Al _ rfl,rfl,rfl⟩,⟨_,Ad _ M,rfl,u,rfl⟩⟩ ?hS0 ?hR
    case hS0=>
     have j:∀H,((4#0).push H).get? s⁻¹
      =some {cls:=.type "set",dict:=none,data:=.set #[] 0 3#13}:=fun H=>Ad _ L
     exact⟨_,#[],0,.fresh 0 0 led,j _,⟨rfl,rfl,rfl⟩,rfl,(by simpa using B8 0 0 led),fun e he=>by simp at he,List.Perm.refl _,BC,.inl ⟨rfl,AL _⟩,S.imp id fun z=>⟨z,rfl⟩⟩
    case hR=>
     intro s' hm p;obtain⟨h',g',d',X,Y⟩:=s';have eg:g'=s.gens:=hm.gens;have ed:d'=s.drawn:=hm.drawn;have eo:Y=s.os:=hm.os;subst eg;subst ed;subst eo;show wpAny _ _ _ _ _ _;refine Ac ?_;show wpAny _ _ (ret Value.none) _ _ _;rw[tj] at p;refine Ac ⟨rfl,h',X,rfl,p,fun b o hb e=>?_⟩;have C:b≠s⁻¹:=Aq hb;have bd:b≠(4#0).objs.size:=by
      rw[Heap.size_push];exact Aq (AW hb)
     exact hm.heap b o (by simp only[Qj,Bm,QL,or_false,not_or];exact⟨C,bd⟩) (Ad _ (Ad _ e))
   ·cases O with
    |error e=>exact q
    |ok fl₂=>
     cases fl₂ with
     |ret r=>
      obtain⟨rfl,h',tk,rfl,p,hk'⟩:=q
      repeat(any_goals(first|assumption|wp_step))
      exact h _ _ p hk'
     |_=>exact q.elim
  |_=>exact hr.elim
end
end STb
namespace L2
open PySem PySem.Spec PyProof.Rows
noncomputable def eX(P:Program)(w:World)(D:Addr)(ns:List Int):HO:=.ext fun h=>STb.SI P w h D ns
section
variable{X:Cx}
def MD(x:STb.SI P w h D ns):zr P w H h D (eX P w D ns):=
 ⟨x,(let ⟨o,_,_,_,h1,_⟩:=x;⟨o,h1⟩),fun h1 h2 y a=>y.keep fun o e=>a o e⟩
def ME{s:Shared}(I:Inv X aa σ H s)(e:H D=some (eX X.prog X.w D ns)):STb.SI X.prog X.w s.heap D ns:=
 (show zr X.prog X.w H s.heap D (eX X.prog X.w D ns) from I.hok D _ e).1
def MF(hc:X.calm=true):cP X (.type "set") (fun xs H Q=>∃(l:Addr)(ns:List Int),xs=[.ref l]/\SqL X.K H l 1#18/\ns.length<=60/\
  ∀D,H D=none->Q 5#D (upd H D (eX X.prog X.w D (STb.dd ns)))):=by
 intro aa s σ H xs us Q I r h;obtain⟨l,ns,rfl,hq,hz,q⟩:=h;obtain⟨u,rfl,d⟩:=vals1 r;cases d;obtain⟨f,a,g,_⟩:=I.list hq;have hi:=intsAre_of a;have i:f.length=ns.length:=by simpa using (AN a).symm
 refine STb.MC (ns:=ns) 2#15 g.isList 6#hi (by rw[Aj];lia) fun h' tk T c=>?_;exact⟨.ref s⁻¹,_,I.laid (o:=eX X.prog X.w s⁻¹ (STb.dd ns)) (fun b u e=>c b u (Ao e) e) 0#10 (MD T),rfl,q _ 61#Ag⟩
end
end L2
end
section
namespace STb
open PySem PySem.SetTable PyProof.Rows
noncomputable def ord(w:World)(S:Addr)(ep:Nat)(es:Array 3#16):Array 3#16:=if w.params.followText "set-order"=true then pickOrder (w.params.setOrder S ep) es else es
def CS(w:World)(S:Addr)(ep:Nat)(es:Array 3#16):(4#13).toList.Perm es.toList:=by
 unfold ord;split
 ·obtain⟨l,h1,h2⟩:=CO (w.params.setOrder S ep) es.size 0 es.toList #[] 2#0
  have:(2#17).toList=l:=by simpa[pickOrder] using h2
  rw[this];exact h1
 ·exact List.Perm.refl _
def MG(hr:Ris xs):below xs 0=0:=by
 obtain⟨h1,h2,_⟩:=oD hr 0;rcases S4 (below xs 0) with e|e
 ·exact e
 ·have hx:(0:Nat)<xs.size:=ω
  exact absurd (h2 0 xs[0] (getElem?_pos xs 0 hx) e) (RG _)
def MH(hr:Ris xs){i j:Nat}(e:xs[i]?=some j):below xs (j+1)=i+1:=by
 obtain⟨h1,h2,c⟩:=oD hr (j+1);have hi:i<xs.size:=(Qs.mp e).1;rcases Q8 (below xs (j+1)) (i+1) with q|q|q
 ·have:=c i j e ω;lia
 ·exact q
 ·have hx:i+1<xs.size:=ω
  have a:=h2 (i+1) xs[i+1] (getElem?_pos xs (i+1) hx) q;have b:=hr i (i+1) j xs[i+1] e (getElem?_pos xs (i+1) hx) ω;lia
def Gd:Manifest.owners.lookup (String.ofList ['r','o','t','a','r','e','t','i','_','t','e','s'].reverse)=some Manifest.sig_set_iterator:=by kernel_rfl
def zZ:Slot "set_iterator" "__next__" "set_iterator.__next__":=
 .of (owner:="set_iterator") (n:="__next__") (by rw[typeLookup_type,builtinLookup_eq_fast];kernel_rfl) δ δ δ
  (by first|exact .inl δ|exact .inr δ) (by rw[isSubtype_type];kernel_rfl)
def Ge:entryFor table "set_iterator.__next__"=some Builtin.«set_iterator.__next__»:=entryFor_of_tree (by kernel_rfl)
def Gf(a:Value):argsOk "set_iterator.__next__" ⟨[a],[]⟩:=by
 unfold argsOk;rw[signature?_of (id:="set_iterator.__next__") (n:=['_','_','t','x','e','n','_','_']) (o:=['r','o','t','a','r','e','t','i','_','t','e','s']) (by kernel_rfl) Gd];kernel_rfl
def Gg:Slot "set_iterator" "__iter__" "set_iterator.__iter__":=
 .of (owner:="set_iterator") (n:="__iter__") (by rw[typeLookup_type,builtinLookup_eq_fast];kernel_rfl) δ δ δ
  (by first|exact .inl δ|exact .inr δ) (by rw[isSubtype_type];kernel_rfl)
def MI:entryFor table "set_iterator.__iter__"=some Builtin.«dict_keyiterator.__iter__»:=
 entryFor_alias (id':="dict_keyiterator.__iter__") (by kernel_rfl) (by first|rfl|decide +kernel|(unfold String.splitOn;simp +decide [String.splitOnAux])) δ (by kernel_rfl)
def MJ(a:Value):argsOk "set_iterator.__iter__" ⟨[a],[]⟩:=by
 unfold argsOk;rw[signature?_of (id:="set_iterator.__iter__") (n:=['_','_','r','e','t','i','_','_']) (o:=['r','o','t','a','r','e','t','i','_','t','e','s']) (by kernel_rfl) Gd];kernel_rfl
def MK:entryFor table "set.__iter__"=some Builtin.«frozenset.__iter__»:=
 entryFor_alias (id':="frozenset.__iter__") (by kernel_rfl) rfl δ (by kernel_rfl)
def Gh(h:Heap)(I S:Addr)(slot i n ep:Nat):Prop:=h.get? I=some {cls:=.type "set_iterator",dict:=none,data:=.fields #[.int slot 0,.int i 0,.ref S,.int n 0,.int ep 0],slots:=#[]}
section
variable{prog:Program}{w:World}{A:Around}{E:Ω}{s:Shared}{I S:Addr}{o:Obj}{es:Array 3#16}{ep:Nat}{t:SetTable}
def Gj{slot i:Nat}{Q:Option (Value×Nat)->Shared->Prop}(c:s.heap.get? S=some o)(hd:o.data=.set es ep t)(T:Tb t 1#13)(wk:w.params.followText "set-order"=true\/0#15)(hb:w.params.followText "set-order"≠true->below t.place slot=i)(h:∀r,(∀e,(4#13)[i]?=some e->∃nx,r=some (e.2,nx)/\(w.params.followText "set-order"≠true->below t.place nx=i+1))->((4#13)[i]?=none->r=none)->Q r s):wpAny 0#0 A (setNext S slot i ep) Q E s:=by
 have b:=fits_of T;have hsz:t.place.size=es.size:=by rw[T.size,Bb]
 unfold setNext;refine Aa (Bd c hd b ?_);dsimp only;refine Aa (m:=setsByText) ?_;unfold setsByText;refine Aa (wpAny_askSetting 1#5)
 by_cases q:w.params.followText "set-order"=true
 ·show wpAny _ _ (if w.params.followText "set-order"=true then _ else _) _ _ _
  rw[TH q,TJ 2#0];refine Aa ?_;unfold setWalk;refine Aa (Bd c hd b ?_);dsimp only;refine Aa (m:=setsByText) ?_;unfold setsByText;refine Aa (wpAny_askSetting 1#5);show wpAny _ _ (if w.params.followText "set-order"=true then _ else _) _ _ _;rw[TH q];refine Aa (wpAny_askSetting ?_);refine Ac (Ac (h _ (fun e he=>?_) fun he=>?_))
  ·have a:(2#17)[i]?=some e:=by unfold ord at he;rw[TH q] at he;exact he
   exact⟨slot,by show Option.map _ (2#17)[i]?=_;rw[a];rfl,fun z=>absurd q z⟩
  ·have a:(2#17)[i]?=none:=by unfold ord at he;rw[TH q] at he;exact he
   show Option.map _ (2#17)[i]?=_;rw[a];rfl
 ·show wpAny _ _ (if w.params.followText "set-order"=true then _ else _) _ _ _
  rw[TJ q];obtain⟨d,f⟩:=wk.resolve_left q;have g:ord w S ep es=es:=by unfold ord;rw[TJ q]
  rw[g] at h;show wpAny _ _ (if(!t.plain&&decide (es.size>1))=true then _ else _) _ _ _;rw[f];simp only[Bv,Rx,Am,if_false];show wpAny _ _ ((if(!t.led&&!es.isEmpty)=true then _ else _) >>= _) _ _ _;rw[d];simp only[Bv,Rx,Am,if_false];refine Aa 1#5;rw[hb q];refine Ac (h _ (fun e he=>?_) fun he=>?_)
  ·have hi:i<t.place.size:=by rw[hsz];exact(Qs.mp he).1
   have hp:t.place[i]?=some (t.place[i]'hi):=Qz hi;rw[he,hp];exact⟨(t.place[i]'hi)+1,rfl,fun _=>MH T.ris hp⟩
  ·rw[he]
def ML(H:A.handled=none)(p:S≠I)(hd:o.data=.set es ep t)(T:Tb t 1#13)(wk:w.params.followText "set-order"=true\/0#15):Walks prog w A I [I,S] [I] es.size (fun i v=>((4#13)[i]?).map 0#17=some v) (fun i h=>(∃slot,Gh h I S slot i es.size ep/\(w.params.followText "set-order"≠true->below t.place slot=i))/\h.get? S=some o) where
 sub:=fun b hb=>by simp at hb;simp[hb]
 frame:=fun _ _ _ st hk=>by
  obtain⟨⟨slot,a,b⟩,c⟩:=st;exact⟨⟨slot,hk I 2#0 _ a,b⟩,hk S 2#0 _ c⟩
 item:=fun i s Q E hi st j=>by
  obtain⟨hp,g,l,tk,os⟩:=s;obtain⟨⟨slot,d,hb⟩,f⟩:=st;have hT:Shared.TypeIs ⟨hp,g,l,tk,os⟩ 5#I "set_iterator":=⟨_,d,rfl⟩;unfold pyNext;refine Aa (wpAny_attempt (A5 (name:=A6 "__next__") hT zZ (AX zZ hT Ge ?_ (Gf _))));unfold Builtin.«set_iterator.__next__»;refine Aa 1#5;refine Aa (wpAny_fieldsOf d rfl ?_);dsimp only;refine Aa (wpAny_setEntries_of f hd (fits_of T) ?_);rw[TJ 2#0]
  try dsimp only
  refine Aa ?_;rw[Bq,Bq,Bq];have hsz:(4#13).size=es.size:=by rw[<-AD,(CS w S ep es).length_eq,AD]
  have he:(4#13)[i]?=some (4#13)[i]:=getElem?_pos _ _ (by rw[hsz];exact hi);refine Gj (s:=⟨hp,g,l,tk,os⟩) f hd T wk hb fun r h1 _=>?_;obtain⟨nx,rfl,G⟩:=h1 _ he;dsimp only;refine Aa (Bj d 2#0 fun x D q=>?_);replace q:AU I hp x:=q;refine Aa (Bj D 2#0 fun y F u=>?_);replace u:AU I x y:=u;refine Ac ⟨_,rfl,Ac (j _ y tk (by rw[he];rfl) ⟨⟨nx,?_,G⟩,u.extBut _ _ p (q.extBut _ _ p f)⟩ fun b o hb e=>?_)⟩
  ·unfold Gh
   have e:((i+1:Nat):Int)=(i:Int)+1:=ω
   rw[e]
   simpa[rawInt] using F
  ·have C:b≠I:=fun z=>hb (by simp[z])
   exact u.extBut b o C (q.extBut b o C e)
 done:=fun s Q E st j=>by
  obtain⟨hp,g,l,tk,os⟩:=s;obtain⟨⟨slot,d,hb⟩,f⟩:=st;have hT:Shared.TypeIs ⟨hp,g,l,tk,os⟩ 5#I "set_iterator":=⟨_,d,rfl⟩;unfold pyNext;refine Aa (wpAny_attempt (A5 (name:=A6 "__next__") hT zZ (AX zZ hT Ge ?_ (Gf _))));unfold Builtin.«set_iterator.__next__»;refine Aa 1#5;refine Aa (wpAny_fieldsOf d rfl ?_);dsimp only;refine Aa (wpAny_setEntries_of f hd (fits_of T) ?_);rw[TJ 2#0]
  try dsimp only
  refine Aa ?_;rw[Bq,Bq,Bq];have hsz:(4#13).size=es.size:=by rw[<-AD,(CS w S ep es).length_eq,AD]
  have he:(4#13)[es.size]?=none:=Ru ω;refine Gj (s:=⟨hp,g,l,tk,os⟩) f hd T wk hb fun r _ h2=>?_;obtain rfl:=h2 he;dsimp only;refine Aa (wpAny_setField d rfl 2#0 ?_);refine Aa ?_;simp only[newExc,newTuple];refine Aa (AY ?_ (by size_fits));refine Aa (m:=firstArgMember _ _) 2#9;refine AY ?_ (by size_fits);simp only[raiseNew];refine Aa (wpAny_handled ?_);rw[show A.in1.handled=none from H];refine Aa (Ac (wpAny_throw ?_));refine Aa 3#12;exact Ac (j _ tk fun b o hb e=>(((AI ..).extBut.push _).push _) b o (fun h=>hb (by simp[h])) e)
 self:=fun i s Q E st j=>by
  obtain⟨⟨slot,d,hb⟩,f⟩:=st;have hT:s.TypeIs 5#I "set_iterator":=⟨_,d,rfl⟩;refine wpAny_pyIter_slot hT Gg (AX Gg hT MI ?_ (MJ _));show wpAny _ _ (ret 5#I) _ _ s;exact Ac ⟨_,rfl,"set_iterator",_,hT,zZ.lookup,j⟩
def MM{Q:Ω}(a:s.heap.get? S=some o)(hex:o.ExactSet)(hd:o.data=.set es ep t)(T:Tb t 1#13)(wk:w.params.followText "set-order"=true\/0#15)(d:Q 0#5 {s with heap:=s.heap.push {cls:=.type "set_iterator",data:=.fields #[.int 0 0,.int 0 0,.ref S,.int es.size 0,.int ep 0]}}):wpAny 0#0 A (pyIter 5#S) Q E s:=by
 have hT:s.TypeIs 5#S "set":=⟨o,a,hex.1⟩;have b:=fits_of T;refine wpAny_pyIter_slot hT PySem.F.slot_set_iter (AX PySem.F.slot_set_iter hT MK ?_ (PySem.F.args_set_iter_1 _));unfold Builtin.«frozenset.__iter__»;refine Aa (Aa (Ac 1#5));unfold Builtin.Frozenset.sizeOf;refine Aa (Aa (wpAny_setEntries_of a hd b 1#5));refine Aa ?_;unfold setDrawn;refine Aa (Bd a hd b ?_);dsimp only;refine Aa (m:=setsByText) ?_;unfold setsByText;refine Aa (wpAny_askSetting 1#5);show wpAny _ _ (pure (!w.params.followText "set-order" && (!t.plain&&decide (es.size>1)))) _ _ _;have c:(!w.params.followText "set-order" && (!t.plain&&decide (es.size>1)))=false:=by
  rcases wk with e|⟨_,e⟩<;>rw[e]<;>simp
 rw[c];refine Ac ?_;simp only[Am,if_false];refine Aa 1#5;refine Aa (wpAny_setEpoch_of a hd b ?_);unfold newFields;refine Aa (AY (Ac ⟨_,rfl,"set_iterator",_,⟨_,Al _ rfl,rfl⟩,zZ.lookup,?_⟩) (by size_fits))
 simpa[rawInt] using d
def MN{Q:Bool->Shared->Prop}(hT:s.TypeIs 5#S "set")(h:Q false s):wpAny 0#0 A (Builtin.List.listLengthHint 5#S) Q E s:=by
 unfold Builtin.List.listLengthHint;refine Aa (wpAny_specialOf hT PySem.F.slot_set_len.lookup ?_);generalize iG:("set.__len__":String)=id0
 wp_delta
 rw[show splitId id0=some ("set","__len__") from by subst iG;decide +kernel];subst iG;refine Aa (wpAny_isInstance (T:="set") (b:=true) hT (by rw[isSubtype_type];kernel_rfl) ?_);refine wpAny_ite_split (fun a=>absurd a ξ) (fun _=>?_);refine wpAny_ite_split (fun _=>?_) (fun a=>absurd δ a);refine Aa (wpAny_typeOf hT ?_);exact Ac h
end
end STb
end
section
namespace STb
open PySem PySem.SetTable PyProof.Rows aZ PySem.W
section
variable{prog:Program}{w:World}{A:Around}{E:Ω}{s:Shared}{S:Addr}
def MO{o:Obj}{t:SetTable}(hex:o.ExactSet)(hd:o.data=.set es ep t)(T:Tb t 1#13)(wk:w.params.followText "set-order"=true\/0#15):KdlSrc prog w "set" S S es.size (fun i v=>((4#13)[i]?).map 0#17=some v) (fun h=>h.get? S=some o) where
 type:=fun s h=>⟨o,h,hex.1⟩
 there:=fun h e=>⟨Ao e,Ao e⟩
 keep:=fun h h' e k=>k S 4#18 _ e
 notList:=ξ
 notTuple:=ξ
 hint:=fun A E s Q h q=>MN ⟨o,h,hex.1⟩ q
 iter:=fun A s a h=>⟨_,_,fun E Q q=>MM h hex hd T wk q,ML (o:=o) a (Aq (Ao h)) hd T wk,⟨⟨0,Al _ rfl,fun _=>MG T.ris⟩,Ad _ h⟩⟩
def Gq{n:Nat}{R:List Value->Shared->Prop}(K:KdlSrc prog w T r d n P j)(l:A.handled=none)(i:j s.heap)(p:n<=sizeLine)(h:∀(h':Heap)(tk:Nat)(acc:Array Value),s⁻¹<=h'.objs.size->(∀b o,s.heap.get? b=some o->h'.get? b=some o)->ItemsOf P acc n->R acc.toList {s with heap:=h',toks:=tk}):wpAny 0#0 A (collect 5#r) R E s:=by
 obtain⟨hr,hd⟩:=K.there _ i;unfold collect;refine Aa (wpAny_runValue (A7 entry_proto_collect' ?_));rw[A4 PySem.F.plain_proto_collect _];show wpAny _ A.in1 (do again (.builtin "list.__iadd__" ⟨[<-newList [],.ref r],[]⟩)) _ _ s;refine Aa (AY (Ac ⟨plainId_quiet PySem.F.plain_list_iadd _,A7 entry_list_iadd' ?_⟩));rw[A4 PySem.F.plain_list_iadd _];show wpAny _ A.in1 (Builtin.List.listExtendWith 0#5 5#r 0#5) _ _ _;have fin:∀(h':Heap)(tk:Nat)(acc:Array Value)(c:Nat),(∀b o,s.heap.get? b=some o->h'.get? b=some o)->h'.get? s⁻¹=some {cls:=.type "list",dict:=none,data:=.seq acc c,slots:=#[]}->ItemsOf P acc n->
   wpAny 0#0 A (do match (<-load s⁻¹).data with
    |.seq xs _=>pure xs.toList
    |_=>unsupported "internal:collect") R E {s with heap:=h',toks:=tk}:=fun h' tk acc c hk a g=>Aa (wpAny_load a (Ac (h h' tk acc (QY (Ao a)) hk g)))
 refine Br (kdl_extend (A:=A) (s:={s with heap:=s.heap.push {cls:=.type "list",data:=.seq ([]:List Value).toArray}})
  (R:=fun q s'=>∃h' tk acc c,q=Except.ok (Flow.ret 0#5)/\s'={s with heap:=h',toks:=tk}/\(∀b o,s.heap.get? b=some o->h'.get? b=some o)/\h'.get? s⁻¹=some {cls:=.type "list",dict:=none,data:=.seq acc c,slots:=#[]}/\ItemsOf P acc n)
  K l (K.keep _ _ i fun b _ o e=>Ad _ e) s⁻¹ (Bf hr) (Bf hd) 0#5 0 (Al _ rfl)
  (fun h' tk acc c hk a g=>⟨h',tk,acc,c,rfl,rfl,fun b o e=>hk b o (Aq (Ao e)) (Ad _ e),a,g⟩) p) (fun f s' x=>?_) fun e s' x=>?_
 ·cases f with
  |done f=>
   obtain⟨h',tk,acc,c,e,rfl,hk,a,g⟩:=x;cases e;exact fin h' tk acc c hk a g
  |again fS=>
   refine⟨x.1,Bx x.2 fun q u y=>?_⟩;obtain⟨h',tk,acc,c,rfl,rfl,hk,a,g⟩:=y;exact fin h' tk acc c hk a g
 ·obtain⟨_,_,_,_,e',_⟩:=x
  cases e'
def MP{Q:Ω}(G:A.handled=none)(X:SI prog w s.heap S ns)(h:∀(D:Addr)(h':Heap)(tk e:Nat)(r:List Value)(f:List Int)(out:Array Value),s⁻¹<=D->(∀b o,s.heap.get? b=some o->h'.get? b=some o)->h'.get? D=some (seqObj "list" out e)->IntsAre r f->f.Perm ns->Out (f.map fun n=>[n]) r out.toList->Q 5#D {s with heap:=h',toks:=tk}):wpAny 0#0 A (call 2#7 [.ref S]) Q E s:=by
 obtain⟨o,es,ep,t,y,hex,hd,T,C,hp,H,mk,wk⟩:=id X;have hz:es.size<=60:=by rcases mk with ⟨_,b⟩|⟨_,b⟩|⟨_,b⟩<;>lia
 refine Calls.call_function_entry kind_sorted plain_sorted entry_sorted (args_sorted1 _) ?_;unfold Builtin.«sorted»;refine Aa (m:=checkCount "sorted" 1 1 _) 1#5;refine Aa (Gq (A:=A.in1) (MO (prog:=prog) (S:=S) hex hd T wk) G y (by rw[Bp];lia) fun h' tk acc u hk g=>?_);have i:=CS w S ep es;have hsz:(4#13).toList.length=es.size:=by rw[i.length_eq,AD]
 have F:acc.toList=(4#13).toList.map 0#17:=by
  apply RJ;intro j;rw[Ah,AJ,AJ];cases q:acc[j]? with
  |none=>
   have:es.size<=j:=by rw[<-g.1];exact R1.mp q
   rw[Ru (by rw[<-AD,hsz];exact this)]
   rfl
  |some v=>exact(g.2 j v q).symm
 have a:ElemsOf 3#4 (4#13).toList:=C.perm i;have hi:IntsAre acc.toList ((4#13).toList.map fun e=>iv e.2):=by
  rw[F];generalize (ord w S ep es).toList=l at a
  induction l with
  |nil=>exact .nil
  |cons e l ih=>
   obtain⟨n,t',e1⟩:=Gc a Av;subst e1;exact .cons n t' (ih a.tail)
 have d:((4#13).toList.map fun e=>iv e.2).Perm ns:=(i.map _).trans hp;generalize ((4#13).toList.map fun e=>iv e.2)=f at hi d;have p:acc.toList.length=es.size:=by rw[AD];exact g.1
 refine Aa 78#(by rw[p,Bp];lia);have c:(h'.push 3#14).get? h'.objs.size=some 3#14:=Al _ rfl;refine Aa (AH (AX slot_list_sort ⟨_,c,rfl⟩ entry_list_sort (yv (s:={s with heap:=h'.push 3#14,toks:=tk}) (good:=fun _=>True) c (q0 hi) (fun _ _=>trivial) (by rw[p,Bp];lia) ω fun out x=>⟨_,rfl,?_⟩) (args_list_sort _)));obtain⟨e,he⟩:=sortedHeap_at (out:=out) c;refine Ac ⟨_,rfl,h h'.objs.size _ tk e acc.toList f out u (fun b o e=>?_) he hi d x⟩;have hb:b<h'.objs.size:=Ao (hk b o e);rw[sortedHeap_old (Aq hb) (by rw[size_push'];exact AW hb)];exact Ad _ (hk b o e)
end
end STb
namespace L2
open PySem PySem.Spec PyProof.Rows
section
variable{X:Cx}
def Gr(hi:IntsAre a ns)(d:aZ.Out 0#7 a out):∃c:List Int,Vals (c.map V.int) out/\c.Perm ns/\c.Pairwise (·<=·):=by
 obtain⟨ps,hp,d,hs⟩:=d;have f:a.length=ns.length:=hi.length;have all:∀p∈ps,∃n t,p.1=[n]/\p.2=Value.int n t:=fun p g=>by
  obtain⟨i,e⟩:=Ql.mp (hp.mem_iff.mp g);rw[aZ.bh,Ah] at e;cases e1:ns[i]? with
  |none=>rw[e1] at e;simp at e
  |some n=>
   obtain⟨t,e2⟩:=hi.get i n e1;rw[e1,e2] at e;simp only[Bi,Tq,Bg] at e;subst e;exact⟨n,t,rfl,rfl⟩
 have j:∀ps:List (List Int×Value),(∀p∈ps,∃n t,p.1=[n]/\p.2=Value.int n t)->Vals ((ps.map fun p=>p.1.headD 0).map V.int) (ps.map 0#17):=by
  intro ps
  induction ps with
  |nil=>intro _;exact .nil
  |cons p ps ih=>
   intro h;obtain⟨n,t,e1,e2⟩:=h p Av;refine .cons ?_ (ih fun q hq=>h q (Ar _ hq));show RelV (V.int (p.1.headD 0)) p.2;rw[e1,e2];exact⟨t,rfl⟩
 refine⟨ps.map fun p=>p.1.headD 0,by rw[d];exact j ps all,?_,?_⟩
 ·have h1:=hp.map (fun p:List Int×Value=>p.1.headD 0)
  have e:((0#7).zip a).map (fun p:List Int×Value=>p.1.headD 0)=ns:=by
   rw[show(fun p:List Int×Value=>p.1.headD 0)=(fun l:List Int=>l.headD 0) ∘ Prod.fst from rfl,<-An,Rw 4#11,An];exact RK ns
  rw[e] at h1;exact h1
 ·rw[AQ]
  refine hs.imp_of_mem fun{p q} h1 h2 b=>?_;obtain⟨n,t,e1,_⟩:=all p h1;obtain⟨m,t',e2,_⟩:=all q h2;rw[e1,e2,HT.zi] at b;rw[e1,e2];show n<=m
  by_cases e:m=n
  ·lia
  ·rw[TJ e] at b
   have:=of_decide_eq_false b
   lia
def MQ(hc:X.calm=true):cP X 2#7 (fun xs H Q=>∃(S:Addr)(ns:List Int),xs=[.ref S]/\H S=some (eX X.prog X.w S ns)/\∀(D:Addr)(a:List Int),a.Perm ns->a.Pairwise (·<=·)->H D=none->Q 5#D (upd H D 8#(a.map V.int))):=by
 intro aa s σ H xs us Q I r h;obtain⟨S,ns,rfl,hq,q⟩:=h;obtain⟨u,rfl,j⟩:=vals1 r;cases j;have f:=ME I hq;refine STb.MP 2#15 f fun D h' tk e x a out c g he hi hp i=>?_;obtain⟨ks,l,d,p⟩:=Gr hi i;have hz:ks.length<=sizeLine:=by
  obtain⟨o,es,ep,t,_,_,_,_,_,v,_,mk,_⟩:=f;have hk:ks.length=es.size:=by simpa using d.length_eq.trans (hp.length_eq.trans v.length_eq.symm)
  rw[Bp,hk];rcases mk with ⟨_,b⟩|⟨_,b⟩<;>lia
 refine⟨.ref D,_,I.laid (o:=.lst (ks.map V.int)) (fun b u e=>g b u e) c (show zr X.prog X.w _ _ _ 8#(ks.map V.int) from⟨by rw[Ab];exact hz,out.toList,e,l,by simpa using he⟩),rfl,q _ _ (d.trans hp) p (I.hok.fresh c)⟩
end
end L2
end
section
namespace STb
open PySem PySem.SetTable PyProof.Rows aZ PySem.W
section
variable{prog:Program}{w:World}{A:Around}{E:Ω}{s:Shared}
def MR{n:Nat}{Q:Ω}(K:KdlSrc prog w T r d n P j)(q:A.handled=none)(c:j s.heap)(u:n<64)(hi:∀acc:Array Value,ItemsOf P acc n->IntsAre acc.toList ns)(h:∀(D:Addr)(h':Heap)(tk e:Nat)(i:List Value)(out:Array Value),s⁻¹<=D->(∀b o,s.heap.get? b=some o->h'.get? b=some o)->h'.get? D=some (seqObj "list" out e)->IntsAre i ns->Out 0#7 i out.toList->Q 5#D {s with heap:=h',toks:=tk}):wpAny 0#0 A (call 2#7 [.ref r]) Q E s:=by
 refine Calls.call_function_entry kind_sorted plain_sorted entry_sorted (args_sorted1 _) ?_;unfold Builtin.«sorted»;refine Aa (m:=checkCount "sorted" 1 1 _) 1#5;refine Aa (Gq (A:=A.in1) K q c (by rw[Bp];lia) fun h' tk acc l hk f=>?_);have hi:=hi acc f;have g:acc.toList.length=n:=by rw[AD];exact f.1
 refine Aa 78#(by rw[g,Bp];lia);have a:(h'.push 3#14).get? h'.objs.size=some 3#14:=Al _ rfl;refine Aa (AH (AX slot_list_sort ⟨_,a,rfl⟩ entry_list_sort (yv (s:={s with heap:=h'.push 3#14,toks:=tk}) (good:=fun _=>True) a (q0 hi) (fun _ _=>trivial) (by rw[g,Bp];lia) ω fun out p=>⟨_,rfl,?_⟩) (args_list_sort _)));obtain⟨e,he⟩:=sortedHeap_at (out:=out) a;refine Ac ⟨_,rfl,h h'.objs.size _ tk e acc.toList out l (fun b o e=>?_) he hi p⟩;have hb:b<h'.objs.size:=Ao (hk b o e);rw[sortedHeap_old (Aq hb) (by rw[size_push'];exact AW hb)];exact Ad _ (hk b o e)
end
end STb
namespace L2
open PySem PySem.Spec PyProof.Rows
section
variable{X:Cx}
noncomputable abbrev dZ(ps:List (Int×V)):HO:=.dK (ps.map fun p=>(Sum.inl p.1,p.2))
def ints_of{ps:List (Int×V)}:∀{m:List (Key×Value)}{as:List Value},KV (ps.map fun p=>((Sum.inl p.1:Key),p.2)) m->as.length=m.length->(∀(i:Nat) v,as[i]?=some v->∃k x,m[i]?=some (k,x)/\(zp X.prog X.w).is k v=true)->IntsAre as (ps.map 2#3):=by
 induction ps with
 |nil=>
  intro m as q h1 _;cases q;cases as with
  |nil=>exact .nil
  |cons _ _=>simp at h1
 |cons p ps ih=>
  intro m as q h1 h2;cases q with
  |@cons _ q' _ qs hq t=>
   cases as with
   |nil=>simp at h1
   |cons v as=>
    obtain⟨k,x,g1,g2⟩:=h2 0 v rfl;simp only[List.getElem?_cons_zero,Bg] at g1;have hk:(Sum.inl p.1:Key)=k:=by rw[g1] at hq;exact hq.1
    subst hk;obtain⟨t',e2⟩:∃t',v=Value.int p.1 t':=EY g2;subst e2;exact .cons _ _ (ih t 6#h1 fun i v e=>by simpa using h2 (i+1) v 6#e)
def MS(hc:X.calm=true):cP X 2#7 (fun xs H Q=>∃a ps,xs=[.ref a]/\H a=some (dZ ps)/\ps.length<64/\∀(D:Addr)(d:List Int),d.Perm (ps.map 2#3)->d.Pairwise (·<=·)->H D=none->Q 5#D (upd H D 8#(d.map V.int))):=by
 intro aa s σ H xs us Q I r h;obtain⟨a,ps,rfl,hq,hz,q⟩:=h;obtain⟨u,rfl,p⟩:=vals1 r;cases p;obtain⟨z,y,vs,c,dd⟩:=yl I.hok hq;obtain⟨ep,dd⟩:=dd.dictAt;have E:ps.length=vs.length:=by simpa using c.length
 refine STb.MR (ns:=ps.map 2#3) (PySem.W.kdl_dict (knd:=zp X.prog X.w) (kvs:=vs) (ep:=ep) y) 2#15 dd ω (fun acc it=>ints_of (X:=X) c (by simpa using it.1) fun i v e=>it.2 i v 6#e) fun D h' tk e C out f j he hi l=>?_;obtain⟨ks,x,g,A⟩:=Gr hi l;have hk:ks.length=ps.length:=by simpa using g.length_eq
 refine⟨.ref D,_,I.laid (o:=.lst (ks.map V.int)) (fun b u e=>j b u e) f (show zr X.prog X.w _ _ _ 8#(ks.map V.int) from⟨by rw[Ab,Bp];lia,out.toList,e,x,by simpa using he⟩),rfl,q _ _ g A (I.hok.fresh f)⟩
end
end L2
end
section
namespace STb
open PySem PySem.SetTable PyProof.Rows
end STb
namespace L2
open PySem PySem.Spec PyProof.Rows
section
variable{X:Cx}
def MT(hu:X.A.units+64<cLine):cw X (Bz .NotEq) (fun x y H Q=>∃c d a b e f,x=.ref c/\y=.ref d/\H c=some (dE X.prog X.w c a e)/\H d=some (dE X.prog X.w d b f)/\TB H e/\TB H f/\
  Q (.bl (!(decide (a.length=b.length)&&decide (∀k∈a,k∈b)))) H):=by
 intro aa s σ H x y v u Q I g i h;obtain⟨c,d,a,b,e,f,rfl,rfl,e1,e2,j,l,q⟩:=h;cases g;cases i;obtain⟨r,es1,C,D,o⟩:=(Gb I e1).ts (j.keys I);obtain⟨E,es2,F,G,p⟩:=(Gb I e2).ts (l.keys I);exact STb.Mv o p hu ⟨.bl _,H,I,rfl,q⟩
end
end L2
end
section
namespace L2
open PySem PySem.Spec PyProof.Rows
section
variable{X:Cx}
def MU:cP X (.builtin "isinstance") (fun xs H Q=>∃a ys,xs=[.ref a,.ty "list"]/\H a=some 8#ys/\Q (.bl true) H):=by
 intro aa s σ H xs us Q I r h;obtain⟨a,ys,rfl,ha,q⟩:=h;obtain⟨u,d,rfl,b,c⟩:=vals2 r;cases c;exact Jf I b 8#ha (by first|rfl|kernel_rfl|decide +kernel) fun tk=>⟨.bl true,H,I.tok _,rfl,q⟩
def ints_get{ns:List Int}(r:Vals 1#18 a){i:Nat}(h:a[i]?=some v):∃n t,ns[i]?=some n/\v=.int n t:=by
 have c:a.length=ns.length:=by rw[<-r.length,Ab]
 have hi:i<ns.length:=by rw[<-c];exact(BK.mp h).1
 have e:ns[i]?=some ns[i]:=Ae hi;obtain⟨u,hu,b⟩:=r.get (show(ns.map V.int)[i]?=some (V.int ns[i]) by rw[Ah,e];rfl);rw[h] at hu;obtain rfl:=Ai hu;obtain⟨t,rfl⟩:=b;exact⟨_,t,e,rfl⟩
def Gu{bt:Nat->Nat->Bool}{val:Nat->Int}(hb:∀i j,bt i j=decide (val j<val i)):∀k,argBest bt k<=k/\∀i,i<=k->val i<=val (argBest bt k)
 |0=>by
  rw[argBest.eq_1];exact⟨Ag _,fun i hi=>by have:i=0:=ω;rw[this];exact QG _⟩
 |k+1=>by
  obtain⟨h1,h2⟩:=Gu hb k;rw[argBest.eq_2,hb]
  by_cases g:val (argBest bt k)<val (k+1)
  ·rw[TH (TK g)]
   refine⟨Ag _,fun i hi=>?_⟩;rcases QM i (k+1) with h|h
   ·have:=h2 i ω;lia
   ·have:i=k+1:=ω
    rw[this];exact QG _
  ·rw[TJ (fun z=>g (TN z))]
   refine⟨Sx h1,fun i hi=>?_⟩;rcases QM i (k+1) with h|h
   ·exact h2 i ω
   ·have:i=k+1:=ω
    rw[this];lia
def MV(hc:X.calm=true):cP X (.builtin "max") (fun xs H Q=>∃(l:Addr)(ns:List Int),xs=[.ref l]/\SqL X.K H l 1#18/\ns≠[]/\∀M,M∈ns->(∀a∈ns,a<=M)->Q 57#M H):=by
 intro aa s σ H xs us Q I r h;obtain⟨l,ns,rfl,hq,o,q⟩:=h;obtain⟨u,rfl,E⟩:=vals1 r;cases E;obtain⟨c,g,F,_⟩:=I.list hq;have J:=I.ok.hd hc;have p:=F.isList;have d:l<s⁻¹:=by obtain⟨_,e,_⟩:=p;exact Ao e
 have L:c.length=ns.length:=by rw[<-g.length,Ab]
 have f:0<ns.length:=List.length_pos_iff.mpr o;refine call_max_walk (wpAny_pyIter_list p ?_);refine⟨s⁻¹,[s⁻¹,l],[s⁻¹],c.toArray.size,_,_,fun i j=>decide ((ns[j]?).getD 0<(ns[i]?).getD 0),rfl,Walks.list (A:=X.A.in1) J _ l (Aq d) c.toArray,
  ⟨⟨_,Al _ rfl,rfl,rfl⟩,p.push _⟩,fun b hb=>?_,by rw[Aj,L];exact f,fun i j y C s' S T hi D w=>?_,fun v h' tk x hk=>?_⟩
 ·have hb':b<=s⁻¹:=by
   simp only[Qj,QL,or_false] at hb;rcases hb with rfl|rfl
   ·exact Ag _
   ·exact QY d
  exact SX hb' (Ao (Al _ rfl))
 ·obtain⟨m,t,e,rfl⟩:=ints_get g (show c[i]?=some y by simpa using hi)
  obtain⟨N,t',e',rfl⟩:=ints_get g (show c[j]?=some C by simpa using D);simp only[e,e',Rh] at w;exact gt_int w
 ·rw[Aj] at x
  obtain⟨O,G⟩:=Gu (bt:=fun i j=>decide ((ns[j]?).getD 0<(ns[i]?).getD 0)) (val:=fun i=>(ns[i]?).getD 0) (fun i j=>rfl) (c.length-1);obtain⟨m,t,e,rfl⟩:=ints_get g (show c[argBest (fun i j=>decide ((ns[j]?).getD 0<(ns[i]?).getD 0)) (c.length-1)]?=some v by simpa using x);refine⟨.int m,H,I.kept (LSm.kept_iter hk),⟨t,rfl⟩,q m (Ak e) fun a ha=>?_⟩;obtain⟨i,hi⟩:=Ql.mp ha;have P:i<ns.length:=(69#hi).1;have:=G i ω;simp only[hi,e,Rh] at this;exact this
end
end L2
end
section
namespace L2
open PySem PySem.Spec PyProof.Rows
section
variable{X:Cx}
abbrev zdw:V->List V->Hp->VK->Prop:=fun x vs H Q=>∃(l:Addr)(ys:List V)(y:V)(j:Nat),x=.ref l/\vs=[y]/\H l=some 8#ys/\ys.all fv=true/\fv y=true/\j<1000/\((ys[j]?).map fun z=>d0 z y)=some true/\(∀m,m<j->((ys[m]?).map fun z=>d0 z y)=some false)/\Q 57#j H
def Gv(h:Vals xs us)(f:xs.all fv=true):∀m:Nat,(us[m]?).map (fG x)=(xs[m]?).map fun y=>d0 y x:=by
 induction h with
 |nil=>intro m;simp
 |cons r t ih=>
  rw[SG,AS] at f;intro m;cases m with
  |zero=>simp[xY r f.1]
  |succ m=>simpa using ih f.2 m
def CT:n4 X "list.index" zdw:=by
 intro aa s σ H x vs v us Q I f g h;obtain⟨l,ys,y,j,rfl,rfl,p,fl,w,C,h1,h2,q⟩:=h;cases f;obtain⟨u,rfl,A⟩:=g.one;obtain⟨z,a,c,r,D,e⟩:=I.lstM p;have g1:=(Gv (x:=y) r fl j).trans h1;have d:j<a.toArray.size:=by
  rcases QM j a.length with q|q
  ·simpa using q
  ·rw[Bc q] at g1;cases g1
 have get:∀(m:Nat)(hm:m<a.toArray.size),(a[m]?).map (fG y)=some (fG y a.toArray[m]):=fun m hm=>by
  rw[Ae 6#hm];rfl
 have b:(j:Int)<2 ^ 63-1:=by
  have h1:(j:Int)<1000:=ω
  have h2:(1000:Int)<2 ^ 63-1:=ξ
  lia
 refine call_meets F.slot_list_index ⟨_,e,rfl⟩ F.entry_list_index (F.args_list_index_2 _ _) (SeqAt.list_indexAt l a.toArray c none #[] u (fG y) j d b ?_ ?_) ⟨e,fun i hy=>?_,?_⟩
 ·exact Ai ((get j d).symm.trans g1)
 ·intro m hm o
  exact Ai ((get m hm).symm.trans ((Gv (x:=y) r fl m).trans (h2 m o)))
 ·exact qH A w r fl i 6#hy
 ·exact⟨.int j,H,I.tok _,⟨_,rfl⟩,q⟩
end
end L2
end
section
namespace L2
open PySem PySem.Spec PyProof.Rows
def zcv(H:Hp)(c:Addr)(b:Str):Prop:=∃a vs t,H c=some (.frz a (.own 0))/\a.data=.fields vs/\vs[1]?=some (.str b t)
def Tab(H:Hp)(P:Addr)(pos:Pos)(a:Str):Prop:=
 H P=some (.tbl #[])\/∃c',H P=some (.tbl #[rawInt pos.line,rawInt pos.col,.ref c'])/\zcv H c' a
def zad(H H':Hp):Prop:=∀b o,(∀ps,o≠HO.tbl ps)->H b=some o->H' b=some o
def zad.refl(H:Hp):zad H H:=fun _ _ _ h=>h
def zad.trans(a:zad H H1)(b:zad H1 H2):zad H H2:=fun c o n h=>b c o n (a c o n h)
def Same.toN(a:Same H H'):zad H H':=fun c o _ h=>a c o h
def zcv.same(x:zcv H c q)(a:zad H H'):zcv H' c q:=
 let ⟨oc,vs,t,e,r⟩:=x;⟨oc,vs,t,a _ _ 1#2 e,r⟩
def Tab.same{pos:Pos}(x:Tab H P pos q)(a:Same H H'):Tab H' P pos q:=by
 rcases x with e|⟨c,e,k⟩
 ·exact .inl (a _ _ e)
 ·exact .inr ⟨c,a _ _ e,k.same a.toN⟩
def Tab.keep{pos:Pos}(x:Tab H P pos q)(a:zad H H')(k:∀ps,H P=some (.tbl ps)->H' P=some (.tbl ps)):Tab H' P pos q:=by
 rcases x with e|⟨c,e,b⟩
 ·exact .inl (k _ e)
 ·exact .inr ⟨c,k _ e,b.same a⟩
def zfi(H:Hp)(f:Addr)(a:Str)(args:Arguments)(body:Expr)(sc:Scope)(y:Str)(cc:Addr):Prop:=
 ∃b c' c,H f=some (.frz (SK "<lambda>" a args body sc [(y,cc)] b c' c) (.own 0))/\zcv H c' a
def zfi.same(x:zfi H f b args body sc y cc)(a:zad H H'):zfi H' f b args body sc y cc:=
 let ⟨pm,c',bF,e,k⟩:=x;⟨pm,c',bF,a _ _ 1#2 e,k.same a⟩
section
variable{X:Cx}{aa:Ψ}{σ:St}{H:Hp}{s:Shared}
def Inv.codeRec(I:Inv X aa σ H s)(x:zcv H c q):s.heap.CodeRec 5#c q:=by
 obtain⟨a,vs,t,e,e1,e2⟩:=x;exact⟨c,a,vs,t,rfl,(I.hok _ _ e).1,e1,e2⟩
noncomputable def pq(X:Cx)(A:Around)(s:Shared)(H:Hp)(f:Addr)(a:Str)(sc:Scope)(p y:Str)(cc c':Addr):Cx where
 prog:=X.prog
 w:=X.w
 K:=X.K
 mg:=X.mg
 base:=X.base
 A:=A.deeper (SS a sc s⁻¹ f 5#c' [(y,cc)])
 N:=[p,y]
 s₀:=s
 H₀:=H
 env:=SS a sc s⁻¹ f 5#c' [(y,cc)]
 outer:=X.stack
 stack:=SS a sc s⁻¹ f 5#c' [(y,cc)]::X.stack
 ex:=[]
 calm:=X.calm
 fn:=fun _=>false
 pn:=[]
 xe:=fun _ _=>False
structure CU(p y:Str)(sc:Scope):Prop where
 kind:sc.kind=.function
 co:sc.isCoroutine=false
 gen:sc.isGenerator=false
 loc:sc.names.lookup p=some .local
 fre:sc.names.lookup y=some .free
 nocell:∀x∈sc.names,x.2≠.cell
 only:∀x,sc.names.lookup x=some .free->x=y
def Gw{iy:Nat}{u:Value}(I:Inv X aa σ H s)(g:Env0 X.prog X.w X.K X.mg X.base A X.stack s H)(hA:A.handled=X.A.handled)(hd:A.depth<recursionLimit)(L:zfi H f C args body sc y cc)(S:CU p y sc)(hc:X.env.cells.lookup y=some cc)(hN:X.N[iy]?=some y)(jv:σ[iy]?=some 55#vy)(T:X.env.kindOf y=some .cell\/X.env.kindOf y=some .free)(hb:∀M c' O,bindArgs (R5 "<lambda>" C args body sc [(y,cc)] M 5#c' O) ⟨[u],[]⟩=pure [(p,u)])(hu:RelV va u)(aU:∀c',PE (pq X A s H f C sc p y cc c') body te)(h:te [some va,some vy] H Q):codeAny 0#1 A (.call 5#f ⟨[u],[]⟩) (fun r s'=>∃v,r=.ok (.ret v)/\CE X.stack X.prog X.w H s Q v s') s:=by
 obtain⟨M,c',O,ef,ec⟩:=L;have hf:=(I.hok _ _ ef).1;have bI:=I.codeRec ec;obtain⟨m,hm,hl⟩:=I.loc;obtain⟨P,ry,ly⟩:=hl iy y vy hN jv (T.elim (fun z=>.inr 74#z) fun z=>.inr (.inr z));have ao:s.heap.IsCell cc 55#P:=by
  rcases ly with ⟨k,_⟩|⟨_,c,e1,e2⟩
  ·rcases T with z|z<;>(rw[k] at z;cases z)
  ·rw[hc] at e1;cases e1;exact e2
 have j:H cc=none:=I.freeC y cc hc;refine PySem.W.kla_callFunE hd hf rfl S.co S.gen rfl bI ?_;rw[hb M c' O];refine Ac (wpAny_newFunctionEnv S.nocell (fun x hx=>by rw[Qk.mp hx];exact S.loc) (fun G U Y=>?_) S.kind);have E:∀b o,s.heap.get? b=some o->G.get? b=some o:=fun b o e=>Y.extBut b o (Aq (Ao e)) (Ad _ e);refine⟨I.nolimit.keeps E,?_⟩;show codeAny _ _ (.expr body (SS C sc s⁻¹ f 5#c' [(y,cc)])) _ _;have F:∀x c,(SS C sc s⁻¹ f 5#c' [(y,cc)]).cells.lookup x=some c->x=y/\c=cc:=fun x c e=>by
  have e':([(y,cc)]:List 3#18).lookup x=some c:=e;rw[Be] at e';cases hx:x==y with
  |true=>rw[hx] at e';cases e';exact⟨eq_of_beq hx,rfl⟩
  |false=>rw[hx] at e';cases e'
 have D:([(y,cc)]:List 3#18).lookup y=some cc:=by rw[Be,beq_self_eq_true]
 have d:G.IsCell cc 55#P:=by
  obtain⟨o,e1,e2⟩:=ao;exact⟨o,E _ _ e1,e2⟩
 have J:Inv (pq X A s H f C sc p y cc c') [] [some va,some vy] H {s with heap:=G,toks:=s.toks+[(p,u)].length}:=by
  have l:∀b:Addr,b∉(pq X A s H f C sc p y cc c').ex:=fun b z=>absurd (show b∈([]:List Addr) from z) 2#0;refine⟨⟨g.mod,S.kind,rfl,rfl,Ag _,fun a b c h1 h2=>?_,fun x hx=>?_,fun x c h _=>(by cases h),fun hc=>?_,Around.frames_deeper g.frames,.inr ⟨rfl,rfl⟩,fun b z=>absurd z (l b),g.bs,g.bsz,fun b _ _=>l b,fun b z=>absurd z (l b),g.funs,g.frf⟩,
   rfl,g.bare,Un.kept E,⟨_,U,fun i x v h1 h2 h3=>?_⟩,fun x c h=>?_,g.hok.fresh 0#10,fun x c h=>?_,fun p hp=>absurd (show p∈([]:Ψ) from hp) 2#0,g.hok.kept E,rfl⟩
  ·exact(F _ _ h1).1.trans (F _ _ h2).1.symm
  ·rcases hx with hx|hx
   ·exact absurd rfl (S.nocell _ (Bo (show sc.names.lookup x=some .cell from hx)))
   ·obtain rfl:=S.only x hx
    exact⟨cc,D⟩
  ·exact hA.trans 2#15
  ·match i,h1,h2 with
   |0,h1,h2=>
    obtain rfl:=Ai h1;obtain rfl:=Ai (Ai h2);exact⟨u,hu,.inl ⟨S.loc,by simp⟩⟩
   |1,h1,h2=>
    obtain rfl:=Ai h1;obtain rfl:=Ai (Ai h2);exact⟨P,ry,.inr ⟨.inr S.fre,cc,D,d⟩⟩
   |i+2,h1,h2=>exact nomatch (show(none:Option Str)=some x from h1)
  ·obtain⟨rfl,rfl⟩:=F _ _ h
   exact⟨_,d⟩
  ·obtain⟨rfl,rfl⟩:=F _ _ h
   exact j
 refine PySem.W.kla_codeExpr (Br (aU c' [] _ _ H Q J h) (fun v s' hs=>?_) fun _ _ z=>False.elim z);obtain⟨v',H',J',rv,q⟩:=hs;exact⟨v,rfl,v',H',J'.os,J'.bare,J'.base,J'.hok,rv,q⟩
end
end L2
end
section
namespace L2
open PySem PySem.Spec PyProof.Rows
def BM(mg:Str->Option Value)(base:Heap):Prop:=∃bm o,mg "__builtins__"=some 5#bm/\bm≠builtinsNs/\bm≠mainGlobals/\base.get? bm=some o/\o.cls=.type "module"/\o.dict=some builtinsNs/\o.data=.plain
def CV(P:Addr)(a:Str)(args:Arguments)(body:Expr)(sc:Scope)(pos:Pos)(y:Str)(cc:Addr):TE:=fun _ H Q=>Tab H P pos a/\∀f H',zad H H'->(∀b ps,b≠P->H b=some (.tbl ps)->H' b=some (.tbl ps))->Tab H' P pos a->zfi H' f a args body sc y cc->Q 5#f H'
section
variable{X:Cx}{aa:Ψ}{σ:St}{H:Hp}{s:Shared}
def MW{P c':Addr}{j fo:Obj}{tk:Nat}{more:Array Value}(I:Inv X aa σ H s)(f:H P=some (.tbl ps))(hx:Heap.ExtBut P s.heap h')(g:s⁻¹<=c')(h:c'<h'.objs.size)(q:h'.get? c'=some j)(r:h'.get? P=some (SB (ps++more)))(w:fo.isFreed=false):Inv X aa σ (upd (upd (upd H P (.tbl (ps++more))) c' (.frz j (.own 0))) h'.objs.size (.frz fo (.own 0))) {s with heap:=h'.push fo,toks:=tk}:=by
 have i:∀b o,b≠P->s.heap.get? b=some o->(h'.push fo).get? b=some o:=fun b o n e=>Ad _ (hx b o n e);have F:P<s⁻¹:=I.hok.lt f;have p:∀{b o},s.heap.get? b=some o->b≠c'/\b≠h'.objs.size:=fun e=>⟨Aq (AF (Ao e) g),Aq (RH (AF (Ao e) g) h)⟩;have c:∀{b o},H b=some o->b≠c'/\b≠h'.objs.size:=fun e=>⟨Aq (AF (I.hok.lt e) g),Aq (RH (AF (I.hok.lt e) g) h)⟩;have l:∀{b},H b=none->b≠P:=fun n z=>by rw[z,f] at n;cases n
 have a:∀{b},b≠P->b≠c'->b≠h'.objs.size->(upd (upd (upd H P (.tbl (ps++more))) c' (.frz j (.own 0))) h'.objs.size (.frz fo (.own 0))) b=H b:=fun n1 n2 y=>by rw[al y,al n2,al n1]
 have A:c'≠h'.objs.size:=Aq h;have C:P≠c':=(c f).1;have D:P≠h'.objs.size:=(c f).2;refine I.call' (ch:=[]) rfl ⟨fun b o e n _ _=>i b o (l n) e,fun b o e n _ _=>⟨o.slots,i b o (l n) e⟩,fun b o e n _=>?_,fun b o e _=>?_,fun b xs e=>?_,fun b o u e=>?_,fun b E e=>?_⟩ (fun b u e=>?_) I.bare (fun b z=>nomatch z)
 ·rw[a (l n) (p e).1 (p e).2];exact n
 ·by_cases hb:b=P
  ·subst hb;exact⟨_,Ad _ r⟩
  ·exact⟨o,i b o hb e⟩
 ·rw[a (fun z=>by rw[z,f] at e;cases e) (c e).1 (c e).2];exact e
 ·rw[a (fun z=>by rw[z,f] at e;cases e) (c e).1 (c e).2];exact e
 ·by_cases hb:b=P
  ·subst hb
   rw[f] at e;cases e;exact⟨more,by rw[al D,al C,ac]⟩
  ·exact⟨#[],by rw[a hb (c e).1 (c e).2,e];simp⟩
 ·by_cases x:b=h'.objs.size
  ·subst x
   rw[ac] at e;cases e;exact⟨Al _ w,fo,Al _ w⟩
  ·rw[al x] at e
   by_cases h2:b=c'
   ·subst h2
    rw[ac] at e;cases e;exact⟨Ad _ q,j,Ad _ q⟩
   ·rw[al h2] at e
    by_cases h1:b=P
    ·subst h1
     rw[ac] at e;cases e;exact Ad _ r
    ·rw[al h1] at e
     refine(I.hok b u e).stay (fun d v hd e'=>i d v ?_ e') (fun d e'=>?_) fun d xs e'=>?_
     ·rcases hd with rfl|hd
      ·exact h1
      ·exact fun z=>by rw[z,f] at hd;cases hd
     ·rw[a (fun z=>by rw[z,f] at e';cases e') (c e').1 (c e').2];exact e'
     ·rw[a (fun z=>by rw[z,f] at e';cases e') (c e').1 (c e').2];exact e'
def Gx{P c cc:Addr}{pos:Pos}{y:Str}(hC:PySem.W.CodeHd X.base c P)(A:X.env.code=.ref c)(dF:BM X.mg X.base)(q:closureFor sc X.env=pure [(y,cc)])(dP:defaultsOf args X.env=([],[]):=by rfl):PE X (.Lambda args body sc pos) (CV P (X.env.qual++"<lambda>") args body sc pos y cc):=by
 intro aa s σ H Q I ⟨ht,h⟩;refine PySem.W.kla_eval dP ?_;have v:s.heap.Ns mainGlobals X.mg:=I.ok.mod.glob.keeps I.bk;have C:=hC.keeps I.bk;obtain⟨bm,ob,F,G,L,u,M,N,O⟩:=dF;have w:∀{j},H P=some (.tbl j)->s.heap.BuiltinsAt X.mg P:=fun{j} a=>⟨bm,ob,F,G,L,(fun z=>by have e:=(I.bs _ _ u).2;rw[z,a] at e;cases e),I.bk _ _ u,M,N,O⟩;have x:∀{j},H P=some (.tbl j)->s.heap.get? P=some (SB j):=fun a=>I.hok _ _ a;have U:∀{j},H P=some (.tbl j)->mainGlobals≠P:=fun{j} a z=>by
  obtain⟨o,es,ep,e,d,_⟩:=I.ok.mod.glob;have e':=(I.bs _ _ e).2;rw[z,a] at e';cases e'
 rcases ht with a|⟨c',a,hc'⟩
 ·refine PySem.W.kla_makeFunction q I.ok.glob v A C (x a) trivial rfl (U a) (w a) fun c' g h' tk hx f i D E=>?_
  obtain⟨vJ,r,vs,t,e2,S,hd,T⟩:=D;cases e2;have Y:P≠c':=Aq (AF (I.hok.lt a) f);have o9:P≠h'.objs.size:=Aq (RH (AF (I.hok.lt a) f) i);have wH:c'≠h'.objs.size:=Aq i;have J:=MW (tk:=tk) (fo:=SK "<lambda>" (X.env.qual++"<lambda>") args body sc [(y,cc)] ((X.mg "__name__").getD .none) c' g) I a hx f i S E rfl;have sm:∀b o,b≠P->H b=some o->(upd (upd (upd H P (.tbl (#[]++#[rawInt pos.line,rawInt pos.col,.ref c']))) c' (.frz r (.own 0))) h'.objs.size (.frz (SK "<lambda>" (X.env.qual++"<lambda>") args body sc [(y,cc)] ((X.mg "__name__").getD .none) c' g) (.own 0))) b=some o:=fun b o n e=>by
   have l:=I.hok.lt e;rw[al (Aq (RH (AF l f) i)),al (Aq (AF l f)),al n];exact e
  have p:zcv (upd (upd (upd H P (.tbl (#[]++#[rawInt pos.line,rawInt pos.col,.ref c']))) c' (.frz r (.own 0))) h'.objs.size (.frz (SK "<lambda>" (X.env.qual++"<lambda>") args body sc [(y,cc)] ((X.mg "__name__").getD .none) c' g) (.own 0))) c' (X.env.qual++"<lambda>"):=⟨r,vs,t,by rw[al wH,ac],hd,T⟩;refine⟨.ref h'.objs.size,_,J,rfl,h _ _ (fun b o n e=>sm b o (fun z=>by rw[z,a] at e;cases e;exact n _ rfl) e) (fun b ps n e=>sm b _ n e) (.inr ⟨c',by rw[al o9,al Y,ac];simp,p⟩) ⟨_,c',g,ac,p⟩⟩
 ·have hf:codeAmong pos (#[rawInt pos.line,rawInt pos.col,.ref c']:Array Value).toList=some 5#c':=by simp[codeAmong,rawInt]
  refine PySem.W.kla_makeFunctionHit q I.ok.glob v A C (x a) trivial hf (w a) fun g h' tk hk hsz=>?_;have J:Inv X aa σ (upd H h'.objs.size (.frz {cls:=.type "function",data:=.func 1#11} (.own 0))) {s with heap:=h'.push {cls:=.type "function",data:=.func 1#11},toks:=tk}:=
   I.laid (fun b o e=>Ad _ (hk b o e)) hsz ⟨Al _ rfl,_,Al _ rfl⟩
  have hn:H h'.objs.size=none:=I.hok.fresh hsz;have sm:=Same.new (o:=HO.frz {cls:=.type "function",data:=.func 1#11} (.own 0)) hn;exact⟨.ref h'.objs.size,_,J,rfl,h _ _ sm.toN (fun b ps _ e=>sm b _ e) (Tab.same (.inr ⟨c',a,hc'⟩) sm) ⟨_,c',g,ac,hc'.same sm.toN⟩⟩
end
end L2
end
section
namespace L2
open PySem PySem.Spec PyProof.Rows
def MX{K:Af}{k:Nat}{x:Str}{c:Shared}{vs:List Value}(N:K.In c.heap)(M:c.heap.Ns mainGlobals mg)(hb:c.heap.Ns builtinsNs L)(vI:∀x:Str,x≠"__name__"->L x=Ba x)(nX:c.heap.NoLimit)(hg:c.gens=#[])(dF:∃bm ob,mg "__builtins__"=some 5#bm/\bm≠builtinsNs/\c.heap.get? bm=some ob/\ob.cls=.type "module"/\ob.dict=some builtinsNs/\ob.data=.plain)(hT:PySem.W.TabsAt tabs c.heap)(jh:TF K=true)(ha:c.heap.get? a=some {cls:=.type "list",data:=.seq vs.toArray})(hi:IntsAre vs ns)(hl:ns.length<=sizeLine)(hr:Room k callerA)(F:∀base:Heap,K.In base->base.Ns mainGlobals mg->BM mg base->PySem.W.CodeAll tabs base->az P w K mg base CX k fa fd [x] sp)(jC:∀(s:Shared)(u:Value),BindsTo s fd ⟨[u],[]⟩ [(x,u)])(dk:∀H:Hp,SqL K H a 1#18->(∀q∈tabs,H q.2=some (.tbl #[]))->sp [.ref a] H (fun v _=>v=.bl true) fun _ _ _=>False)(m_:∀H e s',CX [] H c (fun _ _ _=>False) e s'->False):codeAny (model P w) callerA (.call 5#fa ⟨[.ref a],[]⟩) (fun r s'=>r=.ok (.ret (.bool true))/\OldK c.heap s'.heap/\s'.os=c.os/\AllBare s'.gens) c:=by
 have U:=EC hi;have oB:=hi.length;have A:∀{b},b∈tabs.map 0#17->c.heap.get? b=some (SB #[]):=fun hb=>by
  obtain⟨q,hq,rfl⟩:=Qi.mp hb;exact(hT q hq).2
 have X:a∉tabs.map 0#17:=fun z=>by
  have e:=A z;rw[ha] at e;cases e
 have KT:∀{b},b∈tabs.map 0#17->K.lookup b=none:=fun{b} hb=>by
  cases e:K.lookup b with
  |none=>rfl
  |some o=>
   have e1:=N b o e;rw[A hb] at e1;have h2:=Qp.mp jh (b,o) (PySem.W.mem_of_lookupK e);obtain rfl:=Ai e1;exact absurd 54#h2 Ax
 have j:∀H:Hp,(∀b,b∉tabs.map 0#17->H b=none\/∃o xs,H b=some (.frz o 8#xs))->(∀b,b∈tabs.map 0#17->H b=some (.tbl #[]))->SqL K H a 1#18->HOk P w H c.heap->(∀b,H b≠none->b=a\/b∈tabs.map 0#17)->(H a≠none->K.lookup a=none)->
   codeAny (model P w) callerA (.call 5#fa ⟨[.ref a],[]⟩) (fun r s'=>r=.ok (.ret (.bool true))/\OldK c.heap s'.heap/\s'.os=c.os/\AllBare s'.gens) c:=by
  intro H hO O hS C Q hK;have G:∀{b:Addr}{o:Obj},c.heap.get? b=some o->H b=none->(dn c.heap H).get? b=some o:=fun e n=>ID e n;have p:∀{b:Addr}{o:Obj},c.heap.get? b=some o->(∀xs n,o.data≠.seq xs n)->o≠SB #[]->H b=none:=fun{b o} e d d2=>by
   cases q:H b with
   |none=>rfl
   |some u=>
    rcases Q b (by rw[q];simp) with e'|e'
    ·subst e'
     rw[ha] at e;cases e;exact absurd rfl (d _ _)
    ·rw[A e'] at e;cases e
     exact absurd rfl d2
  have f:∀{b:Addr}{m:Str->Option Value},c.heap.Ns b m->(dn c.heap H).Ns b m:=fun{b m} ⟨o,es,ep,e,d,r⟩=>⟨o,es,ep,G e (p e (fun _ _ z=>by rw[d] at z;cases z) fun z=>by rw[z] at d;cases d),d,r⟩;have Y:K.In (dn c.heap H):=fun b o e=>G (N b o e) (by
   cases q:H b with
   |none=>rfl
   |some u=>
    rcases Q b (by rw[q];simp) with e'|e'
    ·subst e'
     rw[hK (by rw[q];simp)] at e;cases e
    ·rw[KT e'] at e;cases e)
  have hM:Mod K mg (dn c.heap H):=⟨Y,f M,⟨L,f hb,vI⟩,let ⟨mc,h1,h2⟩:=nX;⟨mc,f h1,h2⟩⟩;have e0:Env0 P w K mg (dn c.heap H) callerA [] c H:=⟨rfl,hM,fun b o e=>IE e,SR (IC _ _),trivial,fun b hb=>absurd (show b∈([]:List Addr) from hb) 2#0,C,.of_eq hg⟩;obtain⟨bm,ob,b1,b2,E,b4,b5,y⟩:=dF;have xf:bm≠mainGlobals:=fun q=>by
   obtain⟨o,es,ep,e,hd,_⟩:=M;rw[q,e] at E;cases E;rw[hd] at y;cases y
  have J:BM mg (dn c.heap H):=⟨bm,ob,b1,b2,xf,G E (p E (fun _ _ z=>by rw[y] at z;cases z) fun z=>by rw[z] at y;cases y),b4,b5,y⟩;have lS:PySem.W.CodeAll tabs (dn c.heap H):=.of fun q hq=>by
   obtain⟨o,xg,nQ,tf,j9,tg,tD,text,tt,e1,I,S,r⟩:=(hT q hq).1;exact⟨o,xg,nQ,tf,j9,tg,tD,text,tt,G e1 (p e1 (fun _ _ z=>by rw[S] at z;cases z) fun z=>by rw[z] at I;cases I),I,S,r⟩
  refine Bx ((F _ Y (f M) J lS).run callerA [] c H ⟨[.ref a],[]⟩ [.ref a] [.ref a] _ _ hr e0 (jC c 5#a) (.cons rfl .nil) (dk H hS fun q hq=>O _ (Sd hq))) fun r s' h=>?_;cases r with
  |error e=>exact(m_ H e s' h).elim
  |ok fl=>
   cases fl with
   |next=>exact False.elim h
   |brk=>exact False.elim h
   |cont=>exact False.elim h
   |ret u=>
    obtain⟨v,H',os,D,un,T,r',q⟩:=h;have q':v=.bl true:=q;subst q';obtain rfl:u=Value.bool true:=r';have keep:∀b o,b∉tabs.map 0#17->c.heap.get? b=some o->s'.heap.get? b=some o:=fun b o hb e=>by
     cases q:H b with
     |none=>exact un.keep b o e q (by intro z;exact absurd (show b∈([]:List Addr) from z) 2#0) 2#0
     |some u=>
      rcases hO b hb with z|⟨ob,xs,z⟩
      ·rw[q] at z;cases z
      ·have z2:=un.frzs b ob _ z
       obtain⟨e1,_⟩:=C b _ z;obtain⟨e2,_⟩:=T b _ z2;rw[e] at e1;cases e1;exact e2
    have l:∀b,b∈tabs.map 0#17->∃more,s'.heap.get? b=some (SB more):=fun b hb=>by
     obtain⟨more,e⟩:=un.tbls b _ (O b hb);exact⟨#[]++more,T b _ e⟩
    refine⟨rfl,⟨fun b o e=>?_,fun b o e=>?_⟩,os,D⟩
    ·by_cases hb:b∈tabs.map 0#17
     ·obtain⟨more,e2⟩:=l b hb
      have e1:=A hb;rw[e] at e1;cases e1;obtain⟨q,hq,rfl⟩:=Qi.mp hb;exact .inr (.inl ⟨((hT q hq).1.tab (hT q hq).2).isCodeTable,rfl,#[],more,rfl,by simpa using e2⟩)
     ·exact .inl (keep b o hb e)
    ·by_cases hb:b∈tabs.map 0#17
     ·obtain⟨more,e2⟩:=l b hb
      exact⟨_,e2⟩
     ·exact⟨o,keep b o hb e⟩
 cases hk:K.lookup a with
 |some o=>
  have e:=N a o hk;rw[ha] at e;cases e;refine j (fun b=>if b∈tabs.map 0#17 then some (.tbl #[]) else none) (fun b hb=>.inl (TJ hb)) (fun b hb=>TH hb) (.inr ⟨_,vs.toArray,_,hk,rfl,rfl,rfl,by rw[Aj,oB];exact hl,by simpa using U⟩) (fun b u z=>?_) (fun b z=>?_) fun z=>absurd (TJ X) z
  ·by_cases hb:b∈tabs.map 0#17
   ·have g:=(TH hb).symm.trans z
    cases g;exact A hb
   ·have g:=(TJ hb).symm.trans z
    cases g
  ·by_cases hb:b∈tabs.map 0#17
   ·exact .inr hb
   ·exact absurd (TJ hb) z
 |none=>
  refine j (fun b=>if b∈tabs.map 0#17 then some (.tbl #[]) else if b=a then some (.frz {cls:=.type "list",data:=.seq vs.toArray} 8#(ns.map V.int)) else none) (fun b hb=>?_) (fun b hb=>TH hb) 74#(.inr ⟨{cls:=.type "list",data:=.seq vs.toArray},(TJ X).trans (TH rfl)⟩) (fun b u z=>?_) (fun b z=>?_) fun _=>hk
  ·by_cases i:b=a
   ·exact .inr ⟨_,_,(TJ hb).trans (TH i)⟩
   ·exact .inl ((TJ hb).trans (TJ i))
  ·by_cases hb:b∈tabs.map 0#17
   ·have g:=(TH hb).symm.trans z
    cases g;exact A hb
   ·by_cases i:b=a
    ·have g:=((TJ hb).trans (TH i)).symm.trans z
     cases g;subst i;exact⟨ha,by rw[Ab];exact hl,vs,_,U,ha⟩
    ·have g:=((TJ hb).trans (TJ i)).symm.trans z
     cases g
  ·by_cases hb:b∈tabs.map 0#17
   ·exact .inr hb
   ·by_cases i:b=a
    ·exact .inl i
    ·exact absurd ((TJ hb).trans (TJ i)) z
def MY{l:PySem.W.OpenLaw}{n k:Nat}{N:List Str}{XP:(Str->Option Value)->Heap->Prop}{r:World->Heap->Prop}{d:DefRec}{K:Params->Af}{CX:fr}{sp:World->Sp}{x:Str}{tabs:List (Addr×Addr)}{xs:List Str}(O:l.most=some n)(P:n<=sizeLine)(Q:d.params.defaults=[])(hr:Room k callerA)(S:∀(w:World)(h:Heap),r w h->(K w.params).In h)(U:∀p,TF (K p)=true)(hx:∀p,xs.map (QV (K p))=tabs.map some)(X:∀x∈xs,((recsOf q).find? (fun e=>e.name==x)).isSome=true)(F:∀(w:World)(mg:Str->Option Value)(fa:Addr)(h:Heap),(K w.params).In h->h.Ns mainGlobals mg->mg d.name=some 5#fa->
   ∃fd:FuncData,(∀(s:Shared)(u:Value),BindsTo s fd ⟨[u],[]⟩ [(x,u)])/\
    ∀base:Heap,(K w.params).In base->base.Ns mainGlobals mg->BM mg base->PySem.W.CodeAll tabs base->az l.prog w (K w.params) mg base CX k fa fd [x] (sp w))
  (dk:∀(w:World)(H:Hp)(a:Addr)(ns:List Int),ns.length<=n->SqL (K w.params) H a 1#18->(∀q∈tabs,H q.2=some (.tbl #[]))->sp w [.ref a] H (fun v _=>v=.bl true) fun _ _ _=>False)
  (m_:∀(H:Hp)(s:Shared)(e:Value)(s':Shared),CX [] H s (fun _ _ _=>False) e s'->False) :
  PySem.W.WalkO q N XP r l.row.toRowW d [] (fun f vs=>PySem.call f vs):=by
 refine Att.JW O Q fun w s₀ j mg mb fa o pm cd bD a vs ns G Y ho hd bI A C D c E=>?_;have i:=S w _ Y;obtain⟨fd,hb,L⟩:=F w mg fa _ i G.T.g A;have hT:PySem.W.TabsAt tabs j.heap:=fun t ht=>by
  have h1:some t∈xs.map (QV (K w.params)):=by rw[hx];exact Sd ht
  obtain⟨y,hy,e⟩:=Qi.mp h1;obtain⟨dr,M⟩:=Rj.mp (X y hy);exact PySem.W.tab_of G.T i M e
 exact MX i G.T.g G.T.b G.T.builtins G.T.nolimit E G.T.bmain hT (U _) C D (AG c P) hr L hb (fun H I J=>dk w H a ns c I J) fun H e s'=>m_ H j e s'
end L2
end
section
namespace aZ
open PySem PyProof.Rows PySem.W
noncomputable def gg(ns:List Int):Ξ:=ns.mapIdx fun i n=>[n,(i:Int)]
def MZ(ns:List Int):(gg ns).length=ns.length:=by unfold gg;rw[List.length_mapIdx]
def CW(ns:List Int)(i:Nat):(gg ns)[i]?=(ns[i]?).map fun n=>[n,(i:Int)]:=by unfold gg;rw[List.getElem?_mapIdx]
section
variable{prog:Program}{w:World}{A:Around}{E:Ω}{s:Shared}{good:Heap->Prop}{us vs:List Value}{ns:List Int}
noncomputable def hV(vs:List Value)(p:Keyed):Int:=(gW vs ((AO vs.length).map fun i:Nat=>[(i:Int)]) p.2).headD 0
def Gy(f:vs.Nodup){p:Keyed}{i:Nat}(h:vs[i]?=some p.2):hV vs p=i:=by
 unfold hV;have hi:=(69#h).1;rw[iR (us:=vs) (ls:=(AO vs.length).map fun i:Nat=>[(i:Int)]) (l:=[(i:Int)]) (fun a b u l m h1 h2 d c=>by
  have e:a=b:=(Rm (69#h1).1 f).mp (h1.trans h2.symm);subst e;rw[d] at c;exact Ai c) h (by rw[Ah,Sb hi];rfl)]
 rfl
def M0(B:By prog w A good us 0#7)(v:us.length=vs.length)(Y:vs.length<64)(M:vs.Nodup)(N:good s.heap){G:Unit×SortSt->Sem PySem.Fin}(h:∀a,Out (gg ns) vs ((9#a).map 0#17).toList->(arrOf a).size=vs.length->failedOf a=none->wpAny 0#0 A (G (PUnit.unit,a)) P E s):wpAny 0#0 A (if vs.toArray.size<2 then(pure general' >>= fun kind=>(if vs.toArray.size<2 then pure () else sortRuns').run 86#kind >>= G)
   else(keyKind' us.toArray >>= fun kind=>(if vs.toArray.size<2 then pure () else sortRuns').run 86#kind >>= G)) P E s:=by
 have d:(3#2).size=vs.length:=by rw[Array.size_zip,Aj,Aj];lia
 have D:ns.length=vs.length:=by have:=B.len;rw[Ab] at this;lia
 by_cases h2:vs.toArray.size<2
 ·rw[TH h2]
  refine Aa 1#5;rw[TH h2];rw[StateT.run_pure];refine Aa 1#5
  try dsimp only
  rw[Aj] at h2;exact h 86#general' (EM (by rw[MZ];exact D) v h2) d rfl
 ·rw[TJ h2,TJ h2]
  rw[Aj] at h2;obtain⟨κ,S,T⟩:=B.ask ω;refine Aa (S s _ E N ?_);have F:(3#2).toList=us.zip vs:=by simp
  have U:Tim.Tl (hV vs) 3#2 0:=fun i j f _ g=>by
   have l:∀k,k<vs.length->Tim.R (hV vs) 3#2 k=k:=fun k hk=>by
    have e:(3#2)[k]?=some (us[k]'ω,vs[k]):=by
     rw[<-AJ,F,bh,Ae ω,Ae hk];rfl
    rw[Tim.dw e];exact Gy M (Ae hk)
   rw[l i ω,l j ω];lia
  have run:wpS 0#0 A E s sortRuns' (fun _ a=>(arrOf a).Perm 3#2/\failedOf a=none/\Tim.aZ (gZ us 0#7) 9#a 0 vs.length/\Tim.St (gZ us 0#7) (hV vs) 9#a 0 vs.length) (SortSt.mk' κ 3#2 #[] 7 none):=by
   refine Tim.EI (κ:=κ) (a₀:=us.toArray.zip vs.toArray) (ρ:=gZ us 0#7) (τ:=hV vs) ⟨fun x y hx hy Q' E' hq=>?_⟩ ⟨Array.Perm.refl _,rfl,rfl⟩ rfl (by rw[d];lia) (by rw[d];lia) U fun a b O Q=>⟨b.perm,b.failed,by rw[<-d];exact O,by rw[<-d];exact Q⟩;obtain⟨i,e1,_⟩:=g0 v hx;obtain⟨j,e2,_⟩:=g0 v hy;have hi:i<(0#7).length:=by rw[<-B.len];exact(BK.mp e1).1
   have g:j<(0#7).length:=by rw[<-B.len];exact(BK.mp e2).1
   have f1:(0#7)[i]?=some (0#7)[i]:=Ae hi;have f2:(0#7)[j]?=some (0#7)[j]:=Ae g;refine T i j _ _ _ _ e1 e2 f1 f2 s Q' E' N ?_;unfold gZ at hq;rw[iR B.fn e1 f1,iR B.fn e2 f2,qW (A8 hi) (A8 g)] at hq;exact hq
  refine Aa (Br run ?_ fun _ _ e=>e)
  ·rintro⟨⟨⟩,a⟩ s' ⟨rfl,hp,hf,hs,C⟩
   try dsimp only
   refine h a ?_ (by rw[hp.size_eq];exact d) hf;have H:(9#a).toList.Perm (us.zip vs):=by
    have:=R0.mp hp
    rwa [F] at this
   have hsz:(9#a).size=vs.length:=by rw[hp.size_eq];exact d
   have o:∀p∈us.zip vs,∃(i:Nat)(n:Int),us[i]?=some p.1/\vs[i]?=some p.2/\ns[i]?=some n:=fun p hp=>by
    obtain⟨i,e1,e2⟩:=g0 v (p:=p) (by rw[F];exact hp);have hi:i<ns.length:=by have:=(69#e2).1;lia
    exact⟨i,ns[i],e1,e2,Ae hi⟩
   have c:∀{u:Value}{i:Nat}{n:Int},us[i]?=some u->ns[i]?=some n->gW us 0#7 u=[n]:=fun e1 e2=>iR B.fn e1 (by rw[Ah,e2];rfl);refine⟨(9#a).toList.map fun p=>([(gW us 0#7 p.1).headD 0,hV vs p],p.2),?_,by rw[Tn,An];rfl,?_⟩
   ·have e:(us.zip vs).map (fun p:Keyed=>([(gW us 0#7 p.1).headD 0,hV vs p],p.2))=(gg ns).zip vs:=by
     apply RJ;intro i;rw[Ah,bh,bh,CW]
     by_cases hi:i<vs.length
     ·rw[Ae (show i<us.length from ω),Ae (show i<ns.length from ω),Ae hi]
      show some ([(gW us 0#7 us[i]).headD 0,hV vs (us[i],vs[i])],vs[i])=some ([ns[i],(i:Int)],vs[i]);rw[c (Ae (show i<us.length from ω)) (Ae (show i<ns.length from ω)),Gy M (Ae hi)]
      rfl
     ·rw[Bc (show us.length<=i from ω),Bc (show ns.length<=i from ω)];rfl
    rw[<-e];exact H.map _
   ·rw[AQ,Qq]
    intro i j hi g f;rw[AD] at hi g;have q:=hs i j (AL _) (QY f) ω;have r:=C i j (AL _) f ω;have I:(9#a)[i]?=some (9#a)[i]:=getElem?_pos 9#a i hi;have J:(9#a)[j]?=some (9#a)[j]:=getElem?_pos 9#a j g;rw[Tim.dw I,Tim.dw J] at q;rw[Tim.dw I,Tim.dw J,Tim.dw I,Tim.dw J] at r;simp only[Array.getElem_toList];generalize hpi:(9#a)[i]=pi at *;generalize mv:(9#a)[j]=pj at *;obtain⟨i',n1,e1,e2,e3⟩:=o pi (H.mem_iff.mp (by rw[<-hpi];simp));obtain⟨j',n2,g1,g2,g3⟩:=o pj (H.mem_iff.mp (by rw[<-mv];simp));unfold gZ at q r;rw[c e1 e3,c g1 g3] at q r;rw[c e1 e3,c g1 g3];have W:[n1]∈ns.map fun n=>[n]:=Qi.mpr ⟨n1,Ak e3,rfl⟩;have m2:[n2]∈ns.map fun n=>[n]:=Qi.mpr ⟨n2,Ak g3,rfl⟩;have X:=qW m2 W;show HT.lexLt [n2,hV vs pj] [n1,hV vs pi]=false;rw[HT.zi];have L:HT.lexLt [n2] [n1]=false:=by rw[<-X];exact TL ω
    rw[HT.zi] at L
    by_cases e:n2=n1
    ·subst e
     rw[TH rfl,HT.zi];have:=r rfl;split
     ·exact oq _
     ·exact TL ω
    ·rw[TJ e] at L ⊢
     exact L
end
end aZ
end
section
namespace L2
open PySem PySem.Spec PyProof.Rows
section
variable{X:Cx}{aa:Ψ}{σ:St}{H:Hp}{s:Shared}
def M3{as:List Addr}{ns:List Int}{Q:Ω}(hu:X.A.units+64<cLine)(nd:as.Nodup)(I:Inv X aa σ H s)(hl:SqL X.K H l 2#2)(aE:ns.length=as.length)(h64:as.length<64)(run:∀s',Inv X aa σ H s'->∀(j:Nat) a n,as[j]?=some a->ns[j]?=some n->codeAny 0#1 X.A.in1.in1 (.call 5#f ⟨[.ref a],[]⟩) (fun r C=>∃v,r=.ok (.ret v)/\CE X.stack X.prog X.w H s' (fun v H'=>v=.int n/\H'=H) v C) s')(h:∀D(U:List 3#7) s',Inv X aa σ (upd H D 8#(U.map fun q=>V.ref q.2)) s'->H D=none->U.Perm ((aZ.gg ns).zip as)->U.Pairwise 1#16->Q 5#D s'):wpAny 0#1 X.A 2#12 Q X.xe s:=by
 obtain⟨ae,r1,p1,hz⟩:=I.list hl;have M:=r1.length;obtain rfl:=aG r1;rw[Ab] at M hz;have F:(1#4).length<=sizeLine:=by rw[Ab];exact hz
 generalize hvs:as.map Value.ref=vs at p1 F;have lU:vs.length=as.length:=by rw[<-hvs,Ab]
 refine call_function_entry_kw kind_sorted plain_sorted entry_sorted (ksk_s1 _ _) ?_;unfold Builtin.«sorted»;refine Aa (m:=checkCount "sorted" 1 1 _) 1#5;refine Aa (collect_list p1.isList ?_ F);refine Aa 78#F;have hsz:(1#1).objs.size=s⁻¹+1:=by
  rw[Heap.size_update,size_push']
 have g:((1#1).push 4#4).get? (s⁻¹+1)=some 4#4:=by
  rw[<-hsz];exact Al _ rfl
 have keep:∀b o,s.heap.get? b=some o->((1#1).push 4#4).get? b=some o:=fun b o q=>by
  have E:b<s⁻¹:=Ao q;rw[Heap.get?_push_ne _ _ _ (by rw[hsz];exact Aq (AW E)),Heap.get?_update_ne _ _ _ _ (Aq E),Heap.get?_push_ne _ _ _ (Aq E)];exact q
 show wpAny _ _ _ _ _ {s with heap:=(1#1).push 4#4};rw[hsz];generalize hA:(1#1).push 4#4=d at g keep ⊢;have I1:Inv X aa σ H {s with heap:=d}:=I.kept (t':=s.toks) keep;have G:bb X aa H (s⁻¹+1):=I.fpOk (QI _) 61#QI;generalize hD:s⁻¹+1=D at g G ⊢;have oP:D<d.objs.size:=Ao g;refine Aa (AH (wpAny_call_entry_kw slot_list_sort ⟨_,g,rfl⟩ entry_list_sort ?body (ksk_l1 _ _)))
 case body=>
  show wpAny 0#1 X.A.in1.in1 (Builtin.«list.sort» ⟨[.ref D],[(A6 "key",.ref f)]⟩) _ _ _;rw[ksk_t1];unfold ksk_tree;refine Aa (listItems_at g rfl ?_);refine Aa (listUpdate_at g rfl ?_ (by rw[Aj];exact F) (AL _));obtain⟨e1,cL⟩:∃e1,(d.update D 1#6).get? D=some 1#14:=⟨_,get?_update_seq g fun _=>#[]⟩;refine Aa (seqEpoch_at cL rfl ?_);refine Aa (wpAny_newTuple ?_ (by show vs.length<=_;exact F));refine Aa 78#(AL _);refine AH ?_;have I2:Inv X aa σ H {s with heap:=d.update D 1#6}:=
   Inv.turneds (s:={s with heap:=d}) (t':=s.toks) (ch:=[D]) I1 (iw G) fun b o hb q=>by rw[Heap.get?_update_ne _ _ _ _ 2#8];exact q
  have I3:Inv X aa σ H {s with heap:=1#0}:=I2.kept (t':=s.toks) fun b u q=>Ad _ q;have P:bb X aa H (1#0).objs.size:=I3.fpOk 0#10 (I3.hok.fresh 0#10);have j_:(1#0).objs.size≠D:=by
   rw[size_push',Heap.size_update];lia
  have I4:Inv X aa σ H {s with heap:=((1#0).push 2#5)}:=I3.kept (t':=s.toks) fun b u q=>Ad _ q;have mV:((1#0).push 2#5).get? (1#0).objs.size=some 2#5:=Al _ rfl;have cv:((1#0).push 2#5).get? D=some 1#14:=Ad _ (Ad _ cL);show wpAny 0#1 X.A.in1.in1 (ksk_rest D 5#f false vs.toArray e1 (.ref (1#0).objs.size)) _ _ {s with heap:=(1#0).push 2#5};generalize ((d.update D 1#6).push 4#15).objs.size=kS at *;generalize ((d.update D 1#6).push 4#15).push 2#5=fO at *;unfold ksk_rest;refine Aa (wpAny_rule ?_)
  first
   |rw[List.forIn_toArray]
   |(rw[<-RT];simp only[List.toList_toArray])
  refine Aa (ksk_fold (fun i s'=>∃x e,Inv X aa σ H s'/\s'.heap.get? kS=some (seqObj "list" x e)/\s'.heap.get? D=some 1#14/\Vals ((ns.take i).map V.int) x.toList) vs 0 _
   ⟨#[],0,I4,mV,cv,.nil⟩ ?step ?done)
  case step=>
   rintro j v s' Y ⟨x,e,Ik,N,na,y⟩;simp only[RI] at y ⊢;have eM:j<as.length:=by rw[<-lU];exact(BK.mp Y).1
   have O:as[j]?=some as[j]:=Ae eM;have en:ns[j]?=some (ns[j]'ω):=Ae ω;have ev:v=.ref as[j]:=by
    rw[<-hvs,Ah,O] at Y;exact(Ai Y).symm
   subst ev;refine Aa (wpAny_attempt (wpAny_call (Bx (run s' Ik j _ _ O en) fun r C hq=>?_)));obtain⟨u,rfl,v,H',os,J,un,hok,ru,rfl,rfl⟩:=hq;obtain⟨t,rfl⟩:=ru;have I5:Inv X aa σ H' C:=Ik.call' os un hok J (fun b z=>nomatch z);have mE:=un.keep D _ na G.1 (jo Ik G) 2#0;have jd:=un.keep kS _ N P.1 (jo Ik P) 2#0
   try dsimp only
   have hkz:x.size=j:=by
    have:=y.length;rw[Ab,AE] at this;have h2:x.toList.length=x.size:=AD;lia
   obtain⟨W,b0⟩:∃W,(C.heap.update kS (Ay (·.push 85#(ns[j]'ω)))).get? kS=some (seqObj "list" (x.push 85#(ns[j]'ω)) W):=⟨_,get?_update_seq jd (·.push 85#(ns[j]'ω))⟩;have s1:=AI C.heap kS (Ay (·.push 85#(ns[j]'ω)));have I6:Inv X aa σ H' {C with heap:=C.heap.update kS (Ay (·.push 85#(ns[j]'ω)))}:=
    I5.turneds (t':=C.toks) (ch:=[kS]) (iw P) fun b o hb q=>(s1.2 b 2#8).trans q
   refine Aa (listUpdate_at jd rfl ?_ ω (AG (SR (Sj ..)) ω));refine Ac ⟨rfl,x.push 85#(ns[j]'ω),W,I6,b0,(s1.2 D j_.symm).trans mE,?_⟩;rw[QQ,en,Option.toList_some,Ap,Sy];exact y.append (.cons ⟨t,rfl⟩ .nil)
  case done=>
   rintro s' ⟨x,e,Ik,N,na,y⟩;simp only[RI] at y
   try dsimp only
   refine Aa (listItems_at N rfl ?_);unfold ksk_end
   try dsimp only
   simp only[Am,if_false];rw[AA ω] at y;have qc:=y.length;rw[Ab] at qc;generalize hku:x.toList=us at y qc;obtain rfl:x=us.toArray:=by rw[<-hku,Array.toArray_toList]
   have hi:IntsAre us ns:=intsAre_of y;have wm:vs.Nodup:=by
    rw[<-hvs];exact List.Pairwise.map Value.ref (fun a b(z:a≠b) e=>z (by cases e;rfl)) nd
   refine aZ.M0 (us:=us) (vs:=vs) (ns:=ns) (good:=fun _=>True) (aZ.q0 hi) ω ω wm trivial fun af ho S hf=>?_;refine aZ.EO (ls:=aZ.gg ns) (vs:=vs) N na j_ (by rw[Aj];lia) ho S F hf fun h' out c kk iW uv gP mH=>⟨_,rfl,?_⟩;refine Ac ⟨_,rfl,?_⟩;obtain⟨ps,L,be,hs⟩:=gP;subst hvs;have I7:Inv X aa σ H {s' with heap:=h'}:=Ik.turneds (t':=s'.toks) (ch:=[kS,D]) (fun b hb=>by
     simp only[Qj,QL,or_false] at hb;rcases hb with rfl|rfl
     ·exact P
     ·exact G) fun b o hb q=>kk b o 2#8 2#8 q
   have all:∀p∈ps,p.2=Value.ref (addrOf p.2):=fun p T=>by
    obtain⟨a,_,O⟩:=Qi.mp (RF (L.mem_iff.mp T:(p.1,p.2)∈_)).2;rw[<-O];rfl
   have pm:(0#8).Perm ((aZ.gg ns).zip as):=by
    have h1:=L.map (fun p:List Int×Value=>(p.1,addrOf p.2));have e:((aZ.gg ns).zip 1#4).map (fun p:List Int×Value=>(p.1,addrOf p.2))=(aZ.gg ns).zip as:=by
     rw[S3,An];exact(AC fun p _=>rfl).trans (RK _)
    rw[e] at h1;exact h1
   have ex:out.toList=((0#8).map fun q=>Value.ref q.2):=by
    rw[be,An];exact AC fun p T=>all p T
   have vv:Vals ((0#8).map fun q=>V.ref q.2) out.toList:=by
    rw[ex];exact oy (fun q:List Int×Addr=>q.2) _
   obtain⟨f0,f1,f2,f3,f4,f5⟩:=G;have oM:X.s₀⁻¹<=D:=by rw[<-hD];exact AG I.sz (QI _)
   have I8:Inv X aa σ (upd H D 8#((0#8).map fun q=>V.ref q.2)) {s' with heap:=h'}:=by
    refine I7.adopt f0 oM f1 f4 f5 ⟨?_,out.toList,c,vv,?_⟩
    ·rw[Ab,pm.length_eq,Rb];lia
    ·simpa using iW
   refine h D _ _ I8 f0 pm ?_;rw[AQ];exact hs
end
end L2
end
section
namespace L2
open PySem PySem.Spec PyProof.Rows
def M4(K:Af)(P:Addr)(pos:Pos)(d:Str)(iy:Nat)(te:TE)(ta:TA):TE:=fun σ H Q=>ta σ H fun vs H1=>∃(l:Addr)(as:List Addr)(ns:List Int)(vy:V),vs=[.ref l]/\SqL K H1 l 2#2/\as.Nodup/\ns.length=as.length/\as.length<64/\σ[iy]?=some 55#vy/\Tab H1 P pos d/\
 (∀H2,zad H1 H2->∀(j:Nat) a n,as[j]?=some a->ns[j]?=some n->te [some 5#a,some vy] H2 fun v H'=>v=.int n/\H'=H2)/\
 ∀D H2(c:List 3#7),zad H1 H2->(∀b ps,b≠P->H1 b=some (.tbl ps)->H2 b=some (.tbl ps))->Tab H2 P pos d->H2 D=none->c.Perm ((aZ.gg ns).zip as)->c.Pairwise 1#16->Q 5#D (upd H2 D 8#(c.map fun q=>V.ref q.2))
section
variable{X:Cx}{a:Expr}{ta:TA}{p p2 pos cB cq:Pos}{P c cc:Addr}{args:Arguments}{body:Expr}{sc:Scope}{x y:Str}{iy k:Nat}{te:TE}
def M5(hr:Room (k+2) X.A)(hg:Gl X "sorted")(hm:X.mg "sorted"=none)(hv:Ba "sorted"=some 2#7)(hC:PySem.W.CodeHd X.base c P)(cb:X.env.code=.ref c)(dF:BM X.mg X.base)(G:closureFor sc X.env=pure [(y,cc)])(ao:X.env.cells.lookup y=some cc)(hk:X.env.kindOf y=some .cell)(hN:X.N[iy]?=some y)(S:CU x y sc)(hb:∀i cl d c' g u,bindArgs (R5 "<lambda>" i args body sc cl d 5#c' g) ⟨[u],[]⟩=pure [(x,u)])(aU:∀s H f i c',PE (pq X X.A.in1.in1 s H f i sc x y cc c') body te)(ha:PA X [a] ta)(he:starEach [a] X.env=[60#a]:=by rfl)(dP:defaultsOf args X.env=([],[]):=by rfl):PE X (.Call (.Name "sorted" p) [a] [⟨some "key",.Lambda args body sc cq,cB⟩] pos) (M4 X.K P cq (X.env.qual++"<lambda>") iy te ta):=by
 intro aa s σ H Q I h;refine wpAny_Call_Name_kw (ij I hg hm hv ?_);refine callWith_kw ?_ (by rw[he];rfl) (by rw[he];rfl) rfl rfl;refine aT 1#12 fun us J ⟨vs,H1,I1,M,O⟩=>?_;obtain⟨l,as,ns,vy,rfl,hl,nd,r,C,jv,ht,gH,q⟩:=O;obtain⟨u,rfl,ru⟩:=vals1 M;cases ru;refine kws_cons 4#5;obtain⟨v2,H2,I2,r2,f,rfl,sm,E,tb,L⟩:=jJ;cases r2;refine kws_nil ?_;show wpAny 0#1 X.A 2#12 _ _ s2;have F:SqL X.K H2 l 2#2:=by
  rcases hl with (z|⟨o,z⟩)|z
  ·exact .inl 74#(sm _ _ (fun _ e=>nomatch e) z)
  ·exact .inl (.inr ⟨o,sm _ _ (fun _ e=>nomatch e) z⟩)
  ·exact .inr z
 refine M3 hr.units nd I2 F r C (fun s' I' j a n ea en=>?_) fun D qs s' I' hD hp hs=>⟨.ref D,_,I',rfl,q D H2 qs sm E tb hD hp hs⟩;exact Gw (va:=.ref a) (vy:=vy) (iy:=iy) I' I'.env0.in1.in1 rfl (Room.in1 (Room.in1 hr)).depth L S ao hN jv 74#hk (fun d c' g=>hb _ _ d c' g _) rfl (fun c'=>aU s' H2 f _ c') (gH H2 sm j a n ea en)
end
end L2
end
section
namespace DCp
open PySem
def CY:mroOf 2#18=pure [.type "dict",.type "object"]:=by rw[mroOf_type];kernel_rfl
def M6:typeLookup 2#18 "__new__"=pure 55#(.builtin "dict.__new__"):=by rw[typeLookup_type,builtinLookup_eq_fast];kernel_rfl
def zn:TypeCalled "dict" "dict.__new__" "dict.__init__":=
 ⟨δ,δ,⟨_,_,CY⟩,madeBy_type CY M6 δ,δ,by rw[isSubtype_type];kernel_rfl,PySem.F.slot_dict_init⟩
def Gz(a:Value):checkTypeCall "dict" ⟨[a],[]⟩=pure ():=by kernel_rfl
def M7(a:Value):checkBuiltinCall "dict.__new__" ⟨[.type "dict",a],[]⟩=pure ():=by kernel_rfl
def M8:entryFor table "dict.__new__"=some Builtin.«dict.__new__»:=entryFor_of_tree (by kernel_rfl)
def GA:plainId "dict.__new__"=true:=δ
def CZ:isSubtype 2#18 2#18=pure true:=by rw[isSubtype_type];kernel_rfl
section
variable{prog:Program}{w:World}{A:Around}{E:Ω}{s:Shared}
def GB(a:Value){Q₁:Ω}(h:Q₁ 0#5 {s with heap:=s.heap.push {cls:=.type "dict",data:=.dict #[]}}):codeAny 0#0 A (.call (.builtin "dict.__new__") ⟨[.type "dict",a],[]⟩) (wants Q₁ E) s:=by
 refine codeAny_of_tree (show wpAny _ A.in1 (do checkBuiltinCall "dict.__new__" ⟨[.type "dict",a],[]⟩;again (.builtin "dict.__new__" ⟨[.type "dict",a],[]⟩)) _ _ s from Aa (wpAny_of_eq (M7 a) (Ac ⟨plainId_quiet GA _,A7 M8 ?_⟩)));rw[A4 GA _];unfold Builtin.«dict.__new__»;have b:=CZ;have c:=CY;obtain⟨hp,g,d,tk,os⟩:=s;dsimp only;refine Aa (wpAny_of_eq (a:=true) rfl ?_);simp only[Bv,Am,if_false];refine Aa (wpAny_of_eq b ?_);simp only[Bv,Am,if_false];refine Aa (wpAny_of_eq c ?_);rw[TJ ξ];refine Aa (AY ?_);exact Ac h
def sW{id:String}{Q:Array DictEntry->Shared->Prop}(g:s.heap.get? d=some o)(hd:o.data=.dict es ep)(hk:∀e∈es.toList,∃b,e.key=.ref b/\s.TypeIs 5#b "tuple")(i:∀e∈es.toList,(es.filter (·.hash==e.hash)).size<=1)(h:Q es s):wpAny 0#0 A (Builtin.Dict.entriesForEmpty id d) Q E s:=by
 unfold Builtin.Dict.entriesForEmpty;refine Aa (A0 g hd ?_);refine Aa ?_;show wpAny _ _ (forIn es _ _) _ _ s;rw[<-RT];refine wpAny_forIn_list _ (fun rest r s'=>s'=s/\∀e∈rest,e∈es.toList) _ ?_ ?_ _ _ ⟨rfl,fun _ z=>z⟩
 ·rintro e rest r s' ⟨rfl,a⟩
  have he:=a e Av;obtain⟨b,f,hT⟩:=hk e he;have nx:∀e∈rest,e∈es.toList:=fun u c=>a u (Ar _ c);have hs:=i e he;unfold Builtin.Dict.quietEq;rw[f];refine Aa ?_;dsimp only;refine Aa (wpAny_specialOf hT F.slot_tuple_eq.lookup 1#5);rw[TH ξ,TJ ω];exact Ac ⟨rfl,nx⟩
 ·rintro r s' ⟨rfl,_⟩
  exact Ac h
def M9{id:String}{D d:Addr}{Q:Unit->Shared->Prop}(c:s.heap.get? d=some o)(hd:o.data=.dict es ep)(r:(d==Bs)=false)(hz:es.size<=sizeLine)(i:D≠d)(hk:∀e∈es.toList,∃b,e.key=.ref b/\s.TypeIs 5#b "tuple")(u:∀e∈es.toList,(es.filter (·.hash==e.hash)).size<=1)(f:s.heap.get? D=some {cls:=.type "dict",data:=.dict #[]})(h:∀h' j,h'.get? D=some {cls:=.type "dict",data:=.dict es j}->AU D s.heap h'->Q () {s with heap:=h'}):wpAny 0#0 A (Builtin.Dict.mergeDict id D d) Q E s:=by
 unfold Builtin.Dict.mergeDict;rw[TJ 6#i];unfold Builtin.Dict.showsAll;rw[TJ (by rw[r];exact Ax)];refine Aa 1#5;refine Aa (A0 c hd ?_)
 by_cases q:es.size=0
 ·have he:es=#[]:=Array.eq_empty_of_size_eq_zero q
  subst he;have g:(decide ((#[]:Array DictEntry).size<=8)&&(#[]:Array DictEntry).all fun e=>(keyPart e.key).isSome)=true:=by simp
  dsimp only;rw[g];simp only[Bv,Am,if_false];refine Aa (wpAny_dictEpoch c hd ?_);refine Aa (A0 c hd ?_);refine Aa ?_;rw[Std.Legacy.Range.forIn_eq_forIn_range'];refine wpAny_of_eq (a:=PUnit.unit) rfl ?_;exact Ac (h s.heap 0 f (Heap.SameBut.refl ..))
 ·have g:(decide (es.size<=8)&&es.all fun e=>(keyPart e.key).isSome)=false:=by
   have p:0<es.size:=Nat.pos_of_ne_zero q;obtain⟨b,l,_⟩:=hk es[0] 2#0;have:(es.all fun e=>(keyPart e.key).isSome)=false:=by
    rw[Bool.eq_false_iff];intro z;rw[Array.all_eq_true] at z;have:=z 0 p;rw[l] at this;exact absurd this (by simp[keyPart])
   rw[this,Rl]
  dsimp only;rw[g];simp only[Sz,if_true];refine Aa (A0 f rfl ?_);rw[TH (show(#[]:Array DictEntry).isEmpty=true from rfl)];refine Aa (sW c hd hk u ?_);rw[TH (by simpa[Array.isEmpty] using q)];refine Aa (wpAny_updateDictKeysTo f rfl ?_ ω);refine Ac (h _ 1 ?_ (AI ..));rw[Heap.get?_update_self _ f (by simp[Obj.mapDictKeys,Obj.isFreed])]
  rfl
def M_{Q:Ω}(v:s.heap.get? d=some o)(hx:o.ExactDict)(hd:o.data=.dict es ep)(G:(d==Bs)=false)(hz:es.size<=sizeLine)(hk:∀e∈es.toList,∃b,e.key=.ref b/\s.TypeIs 5#b "tuple")(H:∀e∈es.toList,(es.filter (·.hash==e.hash)).size<=1)(h:∀h' g,h'.get? s⁻¹=some {cls:=.type "dict",data:=.dict es g}->(∀b o,b<s⁻¹->s.heap.get? b=some o->h'.get? b=some o)->Q 0#5 {s with heap:=h'}):wpAny 0#0 A (call 2#18 [.ref d]) Q E s:=by
 obtain⟨c,tl,I⟩:=zn.mro;have J:=zn.made;have L:=zn.sub;refine wpAny_call (codeAny_of_tree ?_);show wpAny _ _ (callAny 2#18 _) _ _ _;refine Ac ⟨Code.quiet_builtin _ δ,A7 F.entry_type_call ?_⟩;rw[Around.under_plain (weight_type_call_type "dict" [.ref d] []) rfl];have h1:=zn.notType;have h2:=zn.canCreate;have M:=Gz 5#d
 repeat(any_goals(first|assumption|wp_step))
 refine Bx (GB 5#d (E:=E) (Q₁:=fun obj l=>obj=.ref s⁻¹/\l={s with heap:=s.heap.push {cls:=.type "dict",data:=.dict #[]}}) ⟨rfl,rfl⟩) fun r l hr=>?_;cases r with
 |error e=>exact hr
 |ok fl=>
  cases fl with
  |ret obj=>
   obtain⟨rfl,rfl⟩:=hr;have q:(4#17).get? s⁻¹=some {cls:=.type "dict",data:=.dict #[]}:=Al _ rfl;have u:Shared.TypeIs {s with heap:=s.heap.push {cls:=.type "dict",data:=.dict #[]}} 0#5 "dict":=⟨_,q,rfl⟩;have N:=zn.init.lookup;have O:=zn.init.bind 0#5
   repeat(any_goals(first|assumption|wp_step))
   refine Bx (codeAny_call_builtin (R:=wants (fun r p=>r=.none/\∃h' g,p={s with heap:=h'}/\
     h'.get? s⁻¹=some {cls:=.type "dict",data:=.dict es g}/\
     4#7) E) zn.init.plain F.entry_dict_init (zn.init.check _ _ _ _ _ _ _ _ u (F.args_dict_init_2 _ _) ?_)) fun x p j=>?_
   ·have D:d<s⁻¹:=Ao v
    have i:(4#17).get? d=some o:=Ad _ v;have f:Shared.TypeIs {s with heap:=s.heap.push {cls:=.type "dict",data:=.dict #[]}} 5#d "dict":=⟨o,i,hx.1⟩;unfold Builtin.«dict.__init__»;refine Aa ?_;unfold Builtin.Dict.selfAndRest;refine Aa (wpAny_notOrdered_dict u ?_);refine Aa 70#(pure s⁻¹);refine Ac ?_;show wpAny _ _ (Builtin.Dict.updateCommon "dict.__init__" "dict" s⁻¹ [Value.ref d] []) _ _ _;unfold Builtin.Dict.updateCommon Builtin.Dict.updateFrom;dsimp only;refine Aa (wpAny_typeOf f ?_);rw[TJ ξ];unfold Builtin.Dict.merge Builtin.Dict.readDirectly;refine Aa (Aa (Aa (wpAny_isInstance f CZ ?_)));simp only[Bv,Am,if_false];refine Aa (wpAny_specialOf f F.slot_dict_iter.lookup 1#5);rw[TH ξ];refine Aa 70#(pure d);refine M9 (s:={s with heap:=s.heap.push {cls:=.type "dict",data:=.dict #[]}}) i hd G hz (Bf D) (fun e he=>let ⟨b,e1,o,e2,e3⟩:=hk e he;⟨b,e1,o,Ad _ e2,e3⟩) H q fun h' g y sb=>?_;unfold Builtin.Dict.addKeywords;refine Aa (wpAny_of_eq (a:=()) rfl ?_);refine Ac ⟨rfl,h',g,rfl,y,fun b o hb e=>?_⟩;rw[sb.2 b (Aq hb)];exact Ad _ e
   ·cases x with
    |error e=>exact j
    |ok fl₂=>
     cases fl₂ with
     |ret r=>
      obtain⟨rfl,h',g,rfl,C,hk'⟩:=j
      repeat(any_goals(first|assumption|wp_step))
      exact h _ _ C hk'
     |_=>exact j.elim
  |_=>exact hr.elim
end
end DCp
end
section
namespace L2
open PySem PySem.Spec PyProof.Rows
def GC{a:Type}(f:a->Int):∀(l:List a),(l.map f).Nodup->∀c,(l.filter fun x=>f x==c).length<=1
 |[],_,c=>by simp
 |x::l,h,c=>by
  rw[Aw,Qo] at h;have b:=GC f l h.2 c
  by_cases q:f x=c
  ·rw[RP 6#q]
   have:l.filter (fun x=>f x==c)=[]:=List.filter_eq_nil_iff.mpr fun y hy z=>h.1 (by rw[q,<-(by simpa using z:f y=c)];exact Sd hy);rw[this];simp
  ·rw[RQ 6#q]
   exact b
section
variable{X:Cx}
def M':cP X 2#18 (fun xs H Q=>∃(a:Addr)(kvs:List 4#6)(ab:Ξ),xs=[.ref a]/\Rd H a 51#kvs/\kvs.map 2#3=ab.map 2#16/\(ab.map (Au (intKind X.prog X.w))).Nodup/\
  ∀D,H D=none->Q 5#D (upd H D 51#kvs)):=by
 intro aa s σ H xs us Q I r h;obtain⟨a,kvs,ab,rfl,hq,hp,A,q⟩:=h;obtain⟨u,rfl,C⟩:=vals1 r;cases C;obtain⟨z,y,ys,c,o,es,ep,h1,h2,E,g,F⟩:=(show zr X.prog X.w H s.heap a 51#kvs from hq.ok I.hok);have J:kvs.length=ys.length:=AN c;have M:es.size=ys.length:=by
  have:=congrArg List.length g;rw[Ab] at this
  simpa using this
 have L:ys.map 2#3=ab.map 2#16:=by
  rw[<-hp];have:∀{l:List 4#6}{m:List 0#9},KT H l m->m.map 2#3=l.map 2#3:=by
   intro l m q
   induction q with
   |nil=>rfl
   |cons hq t ih=>rw[Aw,Aw,ih,hq.1]
  exact this c
 have f:es.toList.map (·.hash)=ab.map (Au (intKind X.prog X.w)):=by
  rw[g,An];have e1:ys.map ((·.hash) ∘ entryOfKey 82#(zp X.prog X.w))=(ys.map 2#3).map (Au (zp X.prog X.w)):=by rw[An];rfl
  rw[e1,L,An];exact AC fun ps _=>CP ps
 have tk:∀e∈es.toList,∃b,e.key=.ref b/\s.TypeIs 5#b "tuple":=fun e he=>by
  rw[g] at he;obtain⟨d,hw,rfl⟩:=Qi.mp he;have:∀{l:List 4#6}{m:List 0#9},KT H l m->∀d∈m,∃ks:List Key,H d.2.1=some 52#(ks.map kV):=by
   intro l m q
   induction q with
   |nil=>intro d hw;cases hw
   |cons hq t ih=>
    intro d hw;rcases Qj.mp hw with rfl|hw
    ·exact⟨_,hq.2.1⟩
    ·exact ih d hw
  obtain⟨ks,G⟩:=this c d hw;exact⟨d.2.1,rfl,(jm (P:=X.prog) (w:=X.w) I.hok G).typeIs⟩
 refine DCp.M_ h1 h2 E y ω tk (fun e he=>?_) fun h' p v x=>?_
 ·have:=GC (fun e:DictEntry=>e.hash) es.toList (by rw[f];exact A) e.hash
  rw[<-AD,Array.toList_filter];exact this
 ·have j:=I.hok.fresh (Ag s⁻¹)
  have hy:(s⁻¹==Bs)=false:=by
   have:=I.big
   simpa using Bf this
  have i:KT (upd H s⁻¹ 51#kvs) kvs ys:=KT.keeps c fun b zs e=>by rw[al (zg e j)];exact e
  exact⟨.ref s⁻¹,_,I.laid (t':=s.toks) (o:=.dT kvs) (fun b u e=>x b u (Ao e) e) 0#10 (show zr X.prog X.w _ h' _ 51#kvs from⟨z,hy,ys,i,_,es,p,v,⟨rfl,rfl,rfl⟩,rfl,g,F⟩),rfl,q _ j⟩
end
end L2
end
section
namespace L2
open PySem PySem.Spec PyProof.Rows
def GD{ab:Ξ}(ok:HOk P w H h)(hq:Rd H a 51#kvs)(hp:kvs.map 2#3=ab.map 2#16):(a==Bs)=false/\∃xs:List (List Int×Addr×Value),(∀v d,h.DictOfH 82#(intKind v d) a xs)/\xs.length=kvs.length/\∀(i:Nat) x,xs[i]?=some x->ab[i]?=some x.1/\∃kv,kvs[i]?=some kv/\RelV kv.2 x.2.2:=by
 obtain⟨z,y,ys,g,o,es,ep,h1,h2,C,D,A⟩:=(show zr P w H h a 51#kvs from hq.ok ok);have key:∀{l:List 4#6}{m:List 0#9}{c:Ξ},KT H l m->l.map 2#3=c.map 2#16->
   ∃xs:List (List Int×Addr×Value),m=xs.map (fun x=>(x.1.map Sum.inl,x.2))/\xs.map 2#3=c/\(∀x∈xs,Tp H x.2.1 x.1)/\xs.length=l.length/\∀(i:Nat) x,xs[i]?=some x->c[i]?=some x.1/\∃kv,l[i]?=some kv/\RelV kv.2 x.2.2:=by
  intro l m c q
  induction q generalizing c with
  |nil=>intro e;cases c with
   |nil=>exact⟨[],rfl,rfl,(fun x hx=>by cases hx),rfl,(fun i x e=>by simp at e)⟩
   |cons p ps=>simp at e
  |@cons p q' ps qk hq t ih=>intro e;cases c with
   |nil=>simp at e
   |cons r rs=>
    simp only[Aw,List.cons.injEq] at e;obtain⟨xs,e1,e2,e3,j,u⟩:=ih e.2;have hk:=hq.2.1;rw[e.1,An] at hk;refine⟨(r,q'.2)::xs,?_,by rw[Aw,e2],fun x hx=>?_,by simp[j],fun i x ex=>?_⟩
    ·rw[Aw,<-e1,<-e.1,hq.1]
    ·rcases Qj.mp hx with rfl|hx
     ·exact hk
     ·exact e3 x hx
    ·cases i with
     |zero=>
      simp at ex;subst ex;exact⟨rfl,p,rfl,hq.2.2⟩
     |succ i=>simpa using u i x 6#ex
 obtain⟨xs,e1,e2,e3,j,u⟩:=key g hp;refine⟨y,xs,fun v d=>⟨o,es,ep,h1,h2,C,?_,fun x hx=>?_,?_⟩,j,u⟩
 ·rw[D,e1,An]
  refine AC fun x _=>?_;show DictEntry.mk (Au (zp P w) (x.1.map Sum.inl)) (.ref x.2.1) x.2.2=DictEntry.mk (Au (intKind v d) x.1) (.ref x.2.1) x.2.2;rw[CP]
  rfl
 ·obtain⟨_,G,r,p⟩:=(show zr P w H h x.2.1 52#(x.1.map V.int) from ok x.2.1 _ (e3 x hx))
  exact Cf p (intsAre_of r)
 ·have E:xs.map (fun x=>x.1.map (Sum.inl:Int->Key))=(xs.map 2#3).map 2#16:=by rw[An];rfl
  rw[e1,An] at A;have F:((xs.map 2#3).map (·.map (Sum.inl:Int->Key))).Nodup:=by rw[<-E];exact A
  exact List.Pairwise.of_map _ (fun a b f e=>f (by rw[e])) F
end L2
end
section
namespace L2
open PySem PySem.Spec PyProof.Rows
section
variable{X:Cx}
def GE{s:Shared}{ns:List Int}(I:Inv X aa σ H s)(c:SqL X.K H l 1#18):∃a,Reads s.heap 5#l (.list (ns.map Bk)) a:=by
 obtain⟨d,r,p,_⟩:=I.list c;obtain⟨o,b,hc,n,hd⟩:=p.isList;exact⟨_,.list b hc hd ((PySem.W.ke_carried (intsAre_of r)).reads s.heap)⟩
def GF(ns:List Int):SeqAt.shaped (.list (ns.map Bk))=true:=by
 simp[SeqAt.shaped,PyData.canLay0,PySem.W.ke_canLayAll0,PyData.depth,PySem.W.ke_depthAll]
def GG(ns:List Int):(Shape.list .int).has (.list (ns.map Bk))=true:=by simp[Shape.has]
def C0(K:Af):R2:=fun x y H Q=>∃l m ns a,x=.ref l/\y=.ref m/\SqL K H l (List.map V.int ns)/\SqL K H m (List.map V.int a)/\Q (.bl (decide (ns=a))) H
def Na(hu:X.A.units+64<cLine):cw X (Bz .Eq) (C0 X.K):=by
 intro aa s σ H x y v u Q I b c h;obtain⟨l,m,ns,a,rfl,rfl,d,hm,q⟩:=h;cases b;cases c;obtain⟨g,e⟩:=GE I d;obtain⟨i,f⟩:=GE I hm;refine eq_dataH_same e f (GF _) (GF _) hu (SeqAt.noMix_of_shape (.list .int) rfl _ _ (GG _) (GG _)) ?_;rw[show same (.list (ns.map Bk)) (.list (a.map Bk))=decide (ns=a) from by simp only[same];exact S0 ns a];exact⟨.bl _,H,I,rfl,q⟩
end
end L2
end
section
namespace DEq
open PySem
section
variable{prog:Program}{w:World}{K:Type}[DecidableEq K]{knd:HeapKind prog w K}{A:Around}{E:Ω}{s:Shared}
def Nb{id:String}{a b:Addr}{Q:Bool->Shared->Prop}(hu:knd.room A)(ha:(a==Bs)=false)(hb:(b==Bs)=false)(hx:s.heap.DictOfH knd a xs)(hy:s.heap.DictOfH knd b ys)(X:xs.length=ys.length)(Y:∀(i:Nat) k p v,xs[i]?=some (k,p,v)->∃(j:Nat)(q:Addr)(n:Int)(t t':Tok),v=.int n t/\ys[j]?=some (k,q,.int n t'))(h:Q true s):wpAny 0#0 A (Builtin.Dict.samePairs id a b) Q E s:=by
 obtain⟨oa,c,pa,f,xX,g,H,N,BQ⟩:=hx;obtain⟨ob,O,pb,l,P,o,u,S,I⟩:=hy;have J:=size_of_entries (knd:=knd) H;have sb:=size_of_entries (knd:=knd) u;unfold Builtin.Dict.samePairs Builtin.Dict.showsAll;rw[TJ (by rw[ha];exact Ax),TJ (by rw[hb];exact Ax)];refine Aa (Ac (Aa 1#5));refine Aa (A0 f g ?_);dsimp only;refine Aa (A0 l o ?_);rw[TJ (by rw[J,sb,X];simp)];refine Aa (wpAny_dictEpoch f g ?_);refine Aa ?_;rw[Std.Legacy.Range.forIn_eq_forIn_range'];simp only[Std.Legacy.Range.size,SQ,Sl,Nat.div_one];refine wpAny_forIn_list _ (fun rest r s'=>s'=s/\r.1=none/\∃i,rest=TD i (c.size-i)/\i<=c.size) _ ?_ ?_ _ _ ⟨rfl,rfl,0,by simp,AL _⟩
 ·rintro x rest r s' ⟨rfl,C,i,hr,hi⟩
  have d:i<c.size:=by
   rcases QM i c.size with h|h
   ·exact h
   ·rw[Nat.sub_eq_zero_of_le h] at hr;simp at hr
  obtain⟨rfl,T⟩:x=i/\rest=TD (i+1) (c.size-(i+1)):=by
   have e:c.size-i=(c.size-(i+1))+1:=ω
   rw[e,List.range'_succ] at hr;injection hr with h1 h2
   exact⟨h1,h2⟩
  obtain⟨⟨k,p,v⟩,D⟩:∃y,xs[x]?=some y:=⟨xs[x]'(by rw[<-J];exact d),Ae _⟩;obtain⟨U,q,n,t,t',rfl,F⟩:=Y x k p v D;have hex:c[x]?=some ⟨knd.hash k,.ref p,.int n t⟩:=by rw[entry_at H x,D];rfl
  have G:knd.is s'.heap k p:=N _ (Ak D);refine Aa (A0 f g ?_);rw[hex];dsimp only;refine Aa (AH (Aa (wpAny_dictFind_heap hu G l o u S I (fun L=>absurd F (L U _)) fun j pj M=>?_)));obtain rfl:=idxH_unique I M F;dsimp only;refine Aa (A0 l o ?_);have W:O[j]?=some ⟨knd.hash k,.ref q,.int n t'⟩:=by rw[entry_at u j,F];rfl
  rw[W];dsimp only;refine AH (wpAny_eqBool_int ?_);rw[TJ 2#0];refine Aa (wpAny_dictEpoch f g ?_);rw[TJ 2#0];exact Ac ⟨rfl,rfl,x+1,T,d⟩
 ·rintro⟨r1,r2⟩ s' ⟨rfl,C,_⟩
  simp only at C;subst C;exact Ac h
end
end DEq
namespace L2
open PySem PySem.Spec PyProof.Rows
end L2
end
section
namespace L2
open PySem PySem.Spec PyProof.Rows
def Cl(P:Program)(w:World)(K:Af)(mg:Str->Option Value)(base:Heap)(CX:fr)(x:Str)(ps:List Str)(k:Nat)(sp:Sp):Prop:=
 ∃(f:Addr)(fd:FuncData),Sv K 5#f=true/\Binds K fd ps []/\mg x=some 5#f/\az P w K mg base CX k f fd ps sp
section
variable{X:Cx}{CX:fr}{k n:Nat}{ps:List Str}{sp:Sp}{E:XK}{x:Str}{p pos:Pos}{e:Expr}{es:List Expr}{t:TA}
def zL(C:Cl X.prog X.w X.K X.mg X.base CX x ps k sp)(hr:Room n X.A)(b:Gl X x)(hx:dU CX X E)(ha:PA X (e::es) t)(c:k<=n:=by decide)(d:0#14=false:=by decide)
  (he:starEach (e::es) X.env=60#e::starEach es X.env:=by rfl) (a:(77#pos).any 2#3=false:=by rfl):PE X (.Call (.Name x p) (e::es) [] pos) (qu sp [] E t):=by
 obtain⟨f,fd,hk,hb,hm,F⟩:=C;exact zI F (hr.mono c) b hm hk hb .nil hx ha d he a
end
section
variable{P:Program}{w:World}{K:Af}{mg:Str->Option Value}{base:Heap}{CX:fr}{k:Nat}{f:Addr}{fd:FuncData}{x:Str}{st:Stmt}{ps:List Str}{sp sq:Sp}
def cR(F:Fun K x x st f fd)(b:Binds K fd ps [])(m:mg x=some 5#f)(G:az P w K mg base CX k f fd ps sp):Cl P w K mg base CX x ps k sp:=⟨f,fd,F.kp,b,m,G⟩
structure Df(K:Af)(x:Str)(st:Stmt)(f:Addr):Prop where
 ex:∃fd,Fun K x x st f fd
 a:SU K mainGlobals x=some (some 5#f)
def C1{h:Value}{i e:Option Addr}{g:Array 66#Value}{kV b d cdv ct:Value}(a:SU K mainGlobals x=some (some 5#f))(l:K.lookup f=some ⟨h,i,.func (RR x x (zbM st) (zau st) 76#st .none kV b d e cdv ct),g⟩)(c:SW K cdv x=true)(k:Sv K 5#f=true):Df K x st f:=⟨⟨_,JX l c k⟩,a⟩
structure Nn(K:Af)(x:Str)(v:Option Value):Prop where
 e:SU K mainGlobals x=some v
abbrev BA(x:Str)(st:Stmt)(us:List Value)(r:List (Str×Value)):Prop:=∀(kV bD pm:Value)(an:Option Addr)(cdv ct:Value),bindArgs (RR x x (zbM st) (zau st) 76#st .none kV bD pm an cdv ct) ⟨us,[]⟩=pure r
variable{h:Heap}(X:K.In h)(G:h.Ns mainGlobals mg)
include X G
theorem Nn.m(n:Nn K x 55#v):mg x=some v:=RV X G n.e
theorem Nn.n(n:Nn K x none):mg x=none:=PySem.W.mg_none_of X G n.e
theorem Df.m(D:Df K x st f):mg x=some 5#f:=RV X G D.a
theorem Df.g1(D:Df K x st f)(p:Str)(hb:∀a,BA x st [a] [(p,a)]:=by exact fun _ _ _ _ _ _ _=>rfl):∃fd,Fun K x x st f fd/\Binds K fd [p] []/\mg x=some 5#f:=by
 obtain⟨⟨fd,F⟩,a⟩:=D;refine⟨fd,F,F.binds fun _ _ _ _ _ _ us b=>?_,RV X G a⟩
 match us,b with
 |[a],_=>exact hb a _ _ _ _ _ _
theorem Df.g2(D:Df K x st f)(p q:Str)(hb:∀a b,BA x st [a,b] [(p,a),(q,b)]:=by exact fun _ _ _ _ _ _ _ _=>rfl):∃fd,Fun K x x st f fd/\Binds K fd [p,q] []/\mg x=some 5#f:=by
 obtain⟨⟨fd,F⟩,a⟩:=D;refine⟨fd,F,F.binds fun _ _ _ _ _ _ us c=>?_,RV X G a⟩
 match us,c with
 |[a,b],_=>exact hb a b _ _ _ _ _ _
theorem Df.g3(D:Df K x st f)(p q r:Str)(hb:∀a b c,BA x st [a,b,c] [(p,a),(q,b),(r,c)]:=by exact fun _ _ _ _ _ _ _ _ _=>rfl):∃fd,Fun K x x st f fd/\Binds K fd [p,q,r] []/\mg x=some 5#f:=by
 obtain⟨⟨fd,F⟩,a⟩:=D;refine⟨fd,F,F.binds fun _ _ _ _ _ _ us d=>?_,RV X G a⟩
 match us,d with
 |[a,b,c],_=>exact hb a b c _ _ _ _ _ _
theorem Df.g4(D:Df K x st f)(p q r s:Str)(hb:∀a b c d,BA x st [a,b,c,d] [(p,a),(q,b),(r,c),(s,d)]:=by exact fun _ _ _ _ _ _ _ _ _ _=>rfl):∃fd,Fun K x x st f fd/\Binds K fd [p,q,r,s] []/\mg x=some 5#f:=by
 obtain⟨⟨fd,F⟩,a⟩:=D;refine⟨fd,F,F.binds fun _ _ _ _ _ _ us e=>?_,RV X G a⟩
 match us,e with
 |[a,b,c,d],_=>exact hb a b c d _ _ _ _ _ _
omit X G
end
end L2
end
section
namespace K67
open K1
open PySem L2 STb
noncomputable abbrev s_:Stmt:=top 52
noncomputable abbrev ti:Stmt:=top 29
noncomputable abbrev i5:Stmt:=top 28
def mN{k:List Key}(e:Rd H a 51#kvs)(c:H b=some 52#(k.map kV)):DGet H a 5#b (bj kvs k):=.inr ⟨kvs,k,b,e,rfl,c,rfl⟩
abbrev Wd:=List (List Int×Int)
noncomputable def bH(cs:Wd):List 4#6:=cs.map fun c=>((c.1.map Sum.inl:List Key),V.int c.2)
noncomputable def wv(cs:Wd)(p:List Int):Option Int:=(cs.find? fun c=>decide (c.1=p)).map 0#17
def GH{p q:List Int}(h:(p.map Sum.inl:List Key)=q.map Sum.inl):p=q:=by
 induction p generalizing q with
 |nil=>cases q with
  |nil=>rfl
  |cons=>simp at h
 |cons x p ih=>cases q with
  |nil=>simp at h
  |cons y q=>simp only[Aw,List.cons.injEq,Sum.inl.injEq] at h;rw[h.1,ih h.2]
def k7(cs:Wd)(p:List Int):bj (bH cs) (p.map Sum.inl)=(68#p).map V.int:=by
 unfold bj bH wv
 induction cs with
 |nil=>rfl
 |cons c cs ih=>
  rw[Aw,Qw,Qw]
  by_cases e:c.1=p
  ·rw[TK (by rw[e]),TK e];rfl
  ·rw[TL (fun z=>e (GH z)),TL e];exact ih
def jD{cs:Wd}{p:List Int}(h:p∈cs.map 2#3):∃n,wv cs p=some n:=by
 obtain⟨c,hc,rfl⟩:=Qi.mp h;unfold wv;cases e:cs.find? fun d=>decide (d.1=c.1) with
 |none=>exact absurd (Ry.mp e c hc) 2#0
 |some d=>exact⟨d.2,rfl⟩
def pu(cs:Wd):(bH cs).map 2#3=(cs.map 2#3).map 2#16:=by unfold bH;rw[An,An];rfl
def cE(cs:Wd)(p:List Int):Prop:=∀r∈rims p,(68#r).getD 0<=(68#p).getD 0
noncomputable instance (cs:Wd) (p:List Int):Decidable (cE cs p):=by unfold cE;infer_instance
def eK(a:Ξ)(cs:Wd):Prop:=(cs.map 2#3).Perm a/\∀p∈a,cE cs p
abbrev GI:TE:=bS (fg fun i j=>.bl (decide (i<=j))) (gt 71#1 71#0) (gt 71#1 71#2)
abbrev Nc(K:Af):List V->Hp->VK->Prop:=fun xs H Q=>∃p ys,xs=[.ref p]/\(SqL K H p ys\/SqT K H p ys)/\Q (.int ys.length) H
abbrev pw(K:Af):TT:=iQ (bS (fg fun i j=>.bl (decide (j<i))) (lW (Nc K) (zK 71#1 bw)) (tC 57#1))
section
variable{P:Program}{w:World}{K:Af}{mg:Str->Option Value}{base:Heap}
def Nd{Q:VK}(ha:Tp H2 a ps)(hz:ps.length<=5)(q:H2 D=none)(k:∀(b:Hp)(bs:List Addr),Same H2 b->b D=some 8#(bs.map V.ref)->Tps b bs (rims ps)->Q 5#D b):cK (ik 0 ps.length) (zX 0) (pw K) i4 [none,some 5#a] H2 D Q:=by
 refine A3 (fun j σ ys b=>∃(v:Option V)(bs:List Addr),σ=[v,some 5#a]/\Same H2 b/\b D=some 8#ys/\ys=bs.map V.ref/\Tps b bs ((rims ps).take j)) ?_ ?_ ?_
 ·exact⟨none,[],rfl,Same.new q,ac,rfl,by rw[R3];exact .nil⟩
 ·rintro j σ ys b f hy ⟨v,bs,rfl,sm,c,rfl,hb⟩
  refine⟨_,rfl,a,_,rfl,.inr (SqT.of (sm.tp ha)),_,_,rfl,rfl,_,rfl,?_⟩;rw[Ab]
  by_cases h1:ps.length=1
  ·have g:rims ps=[]:=by unfold rims;rw[TH h1]
   rw[TL ω];refine a6 (hE f hy ⟨_,bs,rfl,sm,c,rfl,?_⟩);rw[g] at hb ⊢;rw[List.take_nil] at hb ⊢;exact hb
  ·have g:rims ps=(AO ps.length).map fun k=>ps.take k++ps.drop (k+1):=by unfold rims;rw[TJ h1]
   rw[TK ω];refine bg ?_;have e:(rims ps)[j]?=some (ps.take j++ps.drop (j+1)):=by rw[g,Ah,Sb f];rfl
   refine⟨_,rfl,_,rfl,_,rfl,a,_,rfl,sm.tp ha,fun r x h i=>⟨_,rfl,_,rfl,_,_,rfl,rfl,_,rfl,a,_,rfl,h _ _ (sm.tp ha),fun p2 y l o=>?_⟩⟩;rw[show(0:Int)+((j:Nat):Int)=((j:Nat):Int) from ω,pk _ _ 4#11,<-Th] at i;rw[show(0:Int)+((j:Nat):Int)+1=((j+1:Nat):Int) from ω,pl _ _ 4#11,<-Tg] at o;refine⟨r,p2,_,_,rfl,rfl,l _ _ i,o,aj (by simp;lia),fun u A w p=>?_⟩;rw[<-Ap] at p;have d:=(h.trans l).trans w;refine bK (aj ω) f hy (d _ _ c) ⟨_,bs++[u],rfl,(63#d).then q,ac,by rw[Ap];rfl,?_⟩;rw[AR e];exact Tps.upd (Tps.snoc (d.tps hb) p) (d _ _ c) 3#8
 ·rintro σ ys b ⟨v,bs,rfl,sm,c,rfl,hb⟩
  rw[AA (k6 ps)] at hb;exact k b bs sm c hb
def Nf:zj ["piece"] ["piece"] 76#s_:=⟨rfl,rfl,rfl,δ,rfl,δ,δ⟩
def Ng(F:Fun K "_law_rims" "_law_rims" s_ f fd)(B:Bt mg):az P w K mg base aK 1 f fd ["piece"] mJ:=by
 refine F.ok Nf 0#2 3#0
 ·obtain⟨a,ps,rfl,_⟩:=h;rfl
 ·obtain⟨a,ps,rfl,ha,e,k⟩:=h
  refine⟨_,zf (zl (zw ["piece"] ["k","piece"] [none,some 0] (lT rfl B.range 56#(zm zo rfl B.len ee 1#9)) (fun b C s₀ H₀ ex=>zh (i:=0) (cN ["k","piece"]) rfl 2#1)
    (fun b C s₀ H₀ ex=>yR (zq nI (zm zo rfl B.len ee (za 7#1 zb)) ze (ay _)))
    (fun b C s₀ H₀ ex=>zv rf (kf rG 7#1 kb (kc 7#0)) (kf rG 7#1 (kc (zv eP 7#0 ze)) kb)) (hfr:=bX 76#s_ δ) (tc:=pw K) (te:=i4))),?_⟩
  refine⟨_,rfl,a,_,rfl,.inr (SqT.of ha),_,rfl,by rw[Ab];lia,by rw[Ab];lia,fun D c=>?_⟩;rw[Ab];exact zy (Nd ha e c fun g bs sm d hb=>k D g bs sm c d hb)
def Nh{as:List Addr}{n:Int}{Q:VK}(y:SqL K H2 L 2#2)(ht:Tps H2 as f)(hz:f.length<=5)(hd:Rd H2 d 51#(bH cs))(ha:Tp H2 a p)(A:wv cs p=some n)(hr:∀r∈f,∃m,wv cs r=some m)(l:H2 D=none)(k:∀(c:Hp),Same H2 c->c D=some 8#((f.map fun r=>decide ((68#r).getD 0<=n)).map V.bl)->Q 5#D c):cK (dQ K L) (zX 0) bM GI [none,some 5#d,some 5#a] H2 D Q:=by
 have C:=ht.length;refine zJ (xs:=as.map V.ref) (fun j σ ys c=>∃(v:Option V),σ=[v,some 5#d,some 5#a]/\Same H2 c/\c D=some 8#ys/\ys=((f.map fun r=>decide ((68#r).getD 0<=n)).take j).map V.bl) ?_ ?_ ?_ ?_
 ·exact⟨none,rfl,Same.new l,ac,rfl⟩
 ·rintro j σ ys c ⟨v,rfl,sm,g,rfl⟩
  exact sm.seq y
 ·rintro j σ ys c x hx q hy ⟨v,rfl,sm,g,rfl⟩
  obtain⟨o,u,rfl⟩:=zM hx;obtain⟨r,i,w⟩:=ht.get u;obtain⟨m,hm⟩:=hr r (Ak i);have h:(2#2).length<=sizeLine:=by rw[Ab];exact aj ω
  have e:(f.map fun r=>decide ((68#r).getD 0<=n))[j]?=some (decide (m<=n)):=by rw[Ah,i];show some (decide ((68#r).getD 0<=n))=_;rw[hm];rfl
  have g1:DGet c d 5#o 55#(.int m):=by
   have:=mN (k:=r.map Sum.inl) (b:=o) (hd.same sm) (by rw[An];exact sm.tp w)
   rwa [k7,hm] at this
  have g2:DGet c d 5#a 55#(.int n):=by
   have:=mN (k:=p.map Sum.inl) (b:=a) (hd.same sm) (by rw[An];exact sm.tp ha)
   rwa [k7,A] at this
  refine ca ⟨_,rfl,_,rfl,d,_,rfl,g1,_,rfl,_,rfl,d,_,rfl,g2,_,_,rfl,rfl,?_⟩;exact bK h q hy g ⟨_,rfl,sm.then l,ac,by rw[AR e,Ap];rfl⟩
 ·rintro σ ys c ⟨v,rfl,sm,g,rfl⟩
  rw[AA (by rw[Ab,Ab];lia)] at g;exact k c sm g
def i7:Sp:=fun vs H Q _=>∃a d p n cs,vs=[.ref a,.ref d]/\Tp H a p/\p.length<=5/\Rd H d 51#(bH cs)/\wv cs p=some n/\(∀r∈rims p,∃m,wv cs r=some m)/\∀H',Same H H'->Q (.bl (decide (cE cs p))) H'
def C2:zj ["piece","worths"] ["piece","worths"] 76#ti:=⟨rfl,rfl,rfl,δ,rfl,δ,δ⟩
def Ni(F:Fun K "is_above_rims" "is_above_rims" ti f fd)(B:Bt mg)(y:Cl P w K mg base aK "rims_of" ["piece"] 1 mJ):az P w K mg base aK 2 f fd ["piece","worths"] i7:=by
 refine F.ok C2 0#2 3#0
 ·obtain⟨a,d,p,n,cs,rfl,_⟩:=h;rfl
 ·obtain⟨a,d,p,n,cs,rfl,ha,j,hd,l,v,k⟩:=h
  have hu:=dN hr;refine⟨_,zf (zl (zm (ox rfl) rfl B.all oS (za (zw ["piece","worths"] ["rim","worths","piece"] [none,some 1,some 0] (zu (zL y hr rfl av 1#9)) (fun c C s₀ H₀ ex=>zh (i:=0) (cN ["rim","worths","piece"]) rfl 2#1) (fun c C s₀ H₀ ex=>zE)
   (fun c C s₀ H₀ ex=>nJ qt (zF hu 7#1 7#0 3#1) (zF hu 7#1 7#2 3#1) (ay _)) (hfr:=bX 76#ti δ) (te:=GI)) zb))),?_⟩
  refine⟨_,rfl,a,p,rfl,ha,j,fun L H2 bs sm G g hb=>⟨L,rfl,⟨_,SqL.of g⟩,fun D o=>zy (Nh (SqL.of g) hb (AG (k6 p) j) (hd.same sm) (sm.tp ha) l v o fun x q u=>⟨D,_,rfl,SqL.of u,?_⟩)⟩⟩;have e:((rims p).map fun r=>decide ((68#r).getD 0<=n)).all id=decide (cE cs p):=by
   rw[Ra,Qp,decide_eq_true_eq];unfold cE;rw[l];constructor
   ·intro z r hr;exact TN (z _ (Qi.mpr ⟨r,hr,rfl⟩))
   ·intro z b hb
    obtain⟨r,hr,rfl⟩:=Qi.mp hb;exact TK (z r hr)
  rw[e];exact k x 63#q
def Nj{as:List Addr}{Q:VK}(w:SqL K H2 L 2#2)(ht:Tps H2 as b)(hz:b.length<=64)(hd:Rd H2 d 51#(bH cs))(y:∀p∈b,p.length<=5)(h:∀p∈b,∃n,wv cs p=some n)(hr:∀p∈b,∀r∈rims p,r∈b)(i:H2 D=none)(k:∀(a:Hp),Same H2 a->a D=some 8#((b.map fun p=>decide (cE cs p)).map V.bl)->Q 5#D a):cK (dQ K L) (zX 0) bM (qu i7 [] E0 (zK 71#0 (zK 71#1 bw))) [none,some 5#d] H2 D Q:=by
 have A:=ht.length;refine zJ (xs:=as.map V.ref) (fun j σ ys a=>∃(v:Option V),σ=[v,some 5#d]/\Same H2 a/\a D=some 8#ys/\ys=((b.map fun p=>decide (cE cs p)).take j).map V.bl) ?_ ?_ ?_ ?_
 ·exact⟨none,rfl,Same.new i,ac,rfl⟩
 ·rintro j σ ys a ⟨v,rfl,sm,c,rfl⟩
  exact sm.seq w
 ·rintro j σ ys a x hx l hy ⟨v,rfl,sm,c,rfl⟩
  obtain⟨o,q,rfl⟩:=zM hx;obtain⟨p,ep,hp⟩:=ht.get q;have hm:=Ak ep;obtain⟨n,u⟩:=h p hm;have f:(2#2).length<=sizeLine:=by rw[Ab];exact aj ω
  have e:(b.map fun p=>decide (cE cs p))[j]?=some (decide (cE cs p)):=by rw[Ah,ep];rfl
  refine ca ⟨_,rfl,_,rfl,o,d,p,n,cs,rfl,sm.tp hp,y p hm,hd.same sm,u,fun r hr'=>h r (hr p hm r hr'),fun C g=>?_⟩;exact bK f l hy (g _ _ c) ⟨_,rfl,(63#g).then i,ac,by rw[AR e,Ap];rfl⟩
 ·rintro σ ys a ⟨v,rfl,sm,c,rfl⟩
  rw[AA (by rw[Ab,Ab];lia)] at c;exact k a sm c
def Nk{d:Type}[DecidableEq d]{l m:List d}(c:l.Nodup)(nm:m.Nodup):l.Perm m↔(dd l).length=(dd m).length/\∀x∈dd l,x∈dd m:=by
 have a:(dd l).Perm l:=(Q9 (STb.CQ l) c).mpr fun x=>STb.sS l x;have b:(dd m).Perm m:=(Q9 (STb.CQ m) nm).mpr fun x=>STb.sS m x;constructor
 ·intro h
  exact⟨by rw[a.length_eq,b.length_eq,h.length_eq],fun x hx=>b.mem_iff.mpr (h.mem_iff.mp (a.mem_iff.mp hx))⟩
 ·rintro⟨h1,h2⟩
  rw[a.length_eq,b.length_eq] at h1;have sub:∀x∈l,x∈m:=fun x hx=>b.mem_iff.mp (h2 x (a.mem_iff.mpr hx));refine(Q9 c nm).mpr fun x=>⟨sub x,fun hx=>?_⟩;apply A1;intro z;have:=(Qo.mpr ⟨z,c⟩).length_le_of_subset (l₂:=m) (fun y hy=>by
   rcases Qj.mp hy with rfl|hy
   ·exact hx
   ·exact sub y hy)
  rw[AB] at this;lia
def GJ(K:Af):Sp:=fun vs H Q _=>∃l d as a cs,vs=[.ref l,.ref d]/\SqL K H l 2#2/\Tps H as a/\a.Nodup/\a.length<=56/\(∀p∈a,p.length<=5)/\(∀p∈a,∀r∈rims p,r∈a)/\Rd H d 51#(bH cs)/\(cs.map 2#3).Nodup/\cs.length<=57/\
 ∀b H',(b=true↔eK a cs)->Same H H'->Q (.bl b) H'
def Nl:zj ["every","worths"] ["every","worths"] 76#i5:=⟨rfl,rfl,rfl,δ,rfl,δ,δ⟩
def No(F:Fun K "are_worths" "are_worths" i5 f fd)(B:Bt mg)(Ca:Cl P w K mg base aK "is_above_rims" ["piece","worths"] 2 i7):az P w K mg base aK 3 f fd ["every","worths"] (GJ K):=by
 refine F.ok Nl 0#2 3#0
 ·obtain⟨l,d,as,g,cs,rfl,_⟩:=h;rfl
 ·obtain⟨l,d,as,g,cs,rfl,v,ht,S,f_,T,U,hd,W,yG,k⟩:=h
  have hu:=dN hr;refine⟨_,zc (cI (zq (MT hr.units) (zB (Mr hr.units) rfl B.set rR (za 7#1 zb)) (zB (Mq rfl hr.units) rfl B.set rR 1#9) (ay _)) 64#eN zA)
   (zf (zl (zm (ox rfl) rfl B.all oS (za (zw ["every","worths"] ["piece","worths"] [none,some 1] (zu 7#0) (fun x C s₀ H₀ ex=>zh (i:=0) (cN ["piece","worths"]) rfl 2#1) (fun x C s₀ H₀ ex=>zE)
    (fun x C s₀ H₀ ex=>zL Ca hr rfl av (za 7#0 (za 7#1 zb))) (hfr:=bX 76#i5 δ) (te:=qu i7 [] E0 (zK 71#0 (zK 71#1 bw)))) zb)))),?_⟩
  have hp:=Nk W S;refine⟨_,rfl,d,bH cs,cs.map 2#3,rfl,hd,pu cs,by rw[Ab];lia,fun y J G u=>⟨_,rfl,l,as,g,rfl,(62#u).seq v,(62#u).tps ht,ω,fun I L=>?_⟩⟩;have r:=Same.new (o:=dE P w G (dd (cs.map 2#3)) y) u;have j:=Same.new (o:=dE P w I (dd g) (g.zip as)) L;refine⟨G,I,_,_,y,g.zip as,rfl,rfl,j _ _ ac,ac,J.mono (r.trans j),(TB.zip ht).mono (r.trans j),_,rfl,?_⟩
  by_cases e:(cs.map 2#3).Perm g
  ·have e':=hp.mp e
   rw[TK e'.1,TK e'.2];refine a6 ?_;have q:=r.trans j;have X:∀p∈g,∃n,wv cs p=some n:=fun p a=>jD (e.mem_iff.mpr a);refine⟨_,rfl,l,rfl,⟨_,q.seq v⟩,fun D M=>zy (Nj (q.seq v) (q.tps ht) ω (hd.same q) T X U M fun Y N O=>⟨D,_,rfl,SqL.of O,k _ Y ?_ (q.trans N)⟩)⟩;rw[Qp];constructor
   ·intro z
    exact⟨e,fun p a=>TN (z _ (Qi.mpr ⟨p,a,rfl⟩))⟩
   ·rintro⟨_,z⟩ b hb
    obtain⟨p,a,rfl⟩:=Qi.mp hb;exact TK (z p a)
  ·have e':(decide ((dd (cs.map (fun c:List Int×Int=>c.1))).length=(dd g).length)&&decide (∀k∈dd (cs.map (fun c:List Int×Int=>c.1)),k∈dd g))=false:=by
    cases z:(decide ((dd (cs.map (fun c:List Int×Int=>c.1))).length=(dd g).length)&&decide (∀k∈dd (cs.map (fun c:List Int×Int=>c.1)),k∈dd g)) with
    |false=>rfl
    |true=>
     rw[AS,decide_eq_true_eq,decide_eq_true_eq] at z;exact absurd (hp.mpr z) e
   rw[e'];refine bg (k false _ ⟨(fun z=>by cases z),fun z=>absurd z.1 e⟩ (r.trans j))
end
end K67
end
section
namespace DPr
open PySem PyProof.Rows
section
variable{prog:Program}{w:World}{A:Around}{E:Ω}{s:Shared}
def Np:typeLookup (.type "list") "keys"=pure none:=by rw[typeLookup_type,builtinLookup_eq_fast];kernel_rfl
def Nq{k:Nat}{Q:Option Value->Shared->Prop}(hx:s.heap.get? a=some o)(hc:o.cls=.type "list")(f:o.data=.seq xs k)(hd:o.dict=none)(j:A.handled=none)(h:∀h' tk e,Heap.NewExcOf s.heap h' e "AttributeError"->Q none {s with heap:=h',toks:=tk}):wpAny 0#0 A (getAttr? 5#a "keys") Q E s:=by
 obtain⟨c,l,u,i⟩:=o;simp only at hc f hd;subst hc f hd;obtain⟨hp,g,d,tk,os⟩:=s;have hT:∀b,(⟨hp,g,d,b,os⟩:Shared).TypeIs 5#a "list":=fun _=>⟨_,hx,rfl⟩;have f1:=sub_AttributeError;have q:=F.slot_list_getattribute.lookup;have r:=F.slot_list_getattribute.bind 5#a;have f5:=am_list_getattr_none;unfold getAttr? getAttrBy? getAttrBy
 repeat(any_goals(first|assumption|exact hT _|((with_reducible show wpAny _ _ (call (Value.builtin "list.__getattribute__") _ _) _ _ _);refine call_meets F.slot_list_getattribute (hT _) am_entry_list_getattribute (F.args_list_getattribute_2 _ _) (meets_getattribute_miss_list a xs k i "keys" _ Np ξ (by size_fits)) ⟨hx,j,fun h' b e hx'=>?_⟩)|wp_step))
 obtain⟨t',p,he⟩:=hx'.there;show wpAny _ _ (getattributeRaised _ _ _ _ _ _ _) _ _ _;unfold getattributeRaised
 repeat(any_goals(first|assumption|wp_step))
 exact h _ _ _ hx'.of
def GK:entryFor table "dict.update.loop"=some Builtin.«dict.update.loop»:=entryFor_of_tree (by kernel_rfl)
def tw:plainId "dict.update.loop"=true:=δ
noncomputable abbrev lp(D I:Addr)(i:Int):Code:=.builtin "dict.update.loop" ⟨[.ref D,.ref I,rawInt i,.none],[]⟩
variable{K:Type}[DecidableEq K]{knd:KeyKind prog w K}
abbrev Pr(K:Type):Type:=Addr×List K×Addr×Value
def Good(knd:KeyKind prog w K)(h:Heap)(x:Pr K):Prop:=h.IsTuple x.1 #[.ref x.2.2.1,x.2.2.2]/\AM knd h x.2.1 x.2.2.1
noncomputable def pA(xs:List (List K×Addr×Value))(ts:List (Pr K)):List (List K×Addr×Value):=ts.foldl (fun acc x=>storedH acc x.2.1 x.2.2.1 x.2.2.2) xs
def GL{h h':Heap}{o:Obj}(g:Good knd h x)(A:∃o,h.get? D=some o/\o.cls=.type "dict")(C:∃o,h.get? I=some o/\o.cls=.type "list_iterator")(j:∀b o,b≠D->b≠I->h.get? b=some o->h'.get? b=some o):Good knd h' x:=by
 obtain⟨⟨l,e1,f,p⟩,q,it,n,e2,i,r⟩:=g;obtain⟨E,u,v⟩:=A;obtain⟨F,w,y⟩:=C;have ne:∀{a:Addr}{e:Obj},h.get? a=some e->e.cls=.type "tuple"->a≠D/\a≠I:=fun{a e} c d=>by
  refine⟨fun z=>?_,fun z=>?_⟩
  ·rw[z,u] at c
   rw[<-Ai c,v] at d;exact absurd d ξ
  ·rw[z,w] at c
   rw[<-Ai c,y] at d;exact absurd d ξ
 exact⟨⟨l,j _ _ (ne e1 f).1 (ne e1 f).2 e1,f,p⟩,q,it,n,j _ _ (ne e2 i).1 (ne e2 i).2 e2,i,r⟩
def GM{h h':Heap}{D I:Addr}(d:h.DictOfH 82#knd D xs)(c:D≠I)(r:∃o,h.get? I=some o/\o.cls=.type "list_iterator")(e:∀b o,b≠I->h.get? b=some o->h'.get? b=some o):h'.DictOfH 82#knd D xs:=by
 obtain⟨o,es,ep,f,hc,hd,he,g,i⟩:=d;obtain⟨u,j,l⟩:=r;refine⟨o,es,ep,e _ _ c f,hc,hd,he,fun x hx=>?_,i⟩;obtain⟨p,it,n,e2,a,q⟩:=g x hx;refine⟨p,it,n,e _ _ (fun z=>?_) e2,a,q⟩;rw[z,j] at e2;rw[<-Ai e2,l] at a;exact absurd a ξ
def pair_items{t:Addr}{Q:List Value->Shared->Prop}(ht:s.heap.IsTuple t b)(h:Q b.toList s):wpAny 0#0 A (Builtin.Dict.pairItems 5#t) Q E s:=by
 obtain⟨o,a,hc,n,hd⟩:=ht;unfold Builtin.Dict.pairItems;refine Aa (wpAny_typeOf (show s.TypeIs 5#t "tuple" from⟨o,a,hc⟩) ?_);rw[TH ξ];exact Aa (BB a hd (Ac h))
def Nr(xs:List (List K×Addr×Value))(k:List K)(a:Addr)(v:Value):(storedH xs k a v).length<=xs.length+1:=by
 unfold storedH;split
 ·rw[Ab];lia
 ·rw[Az];simp
def GN{D I L:Addr}{ts:List (Pr K)}{R:Result->Shared->Prop}(r:A.handled=none)(hu:A.units+1<cLine)(p:D≠I)(F:L≠D)(u:L≠I):∀(k j:Nat)(s:Shared)(xs:List (List K×Addr×Value)),ts.length-j=k->j<=ts.length->s.heap.IsListIter I L j->s.heap.IsList L (3#15).toArray->(∀x∈ts,Good knd s.heap x)->
   s.heap.DictOfH 82#knd D xs->xs.length+k<=sizeLine->
   (∀h' tk,h'.DictOfH 82#knd D (pA xs (ts.drop j))->(∀b o,b≠D->b≠I->s.heap.get? b=some o->h'.get? b=some o)->R (.ok (.ret .none)) {s with heap:=h',toks:=tk})->
   codeAny 0#0 A (lp D I j) R s
 |0,j,s,xs,hk,hj,aw,hl,hg,hd,hz,hQ=>by
  have S:j=ts.length:=ω
  subst S;have W:=Walks.list (prog:=prog) (w:=w) (A:=A.in1) r I L u (3#15).toArray;refine A7 GK ?_;rw[A4 tw _];unfold Builtin.«dict.update.loop»;dsimp only[rawInt];refine Aa (W.done s _ _ ⟨by simpa using aw,hl⟩ fun h' tk d=>?_);dsimp only;unfold Builtin.Dict.addKeywords;refine Aa (wpAny_of_eq (a:=()) rfl ?_);obtain⟨c,f,g,_⟩:=aw;refine Ac (hQ h' tk ?_ fun b o _ hb e=>d b o 6#hb e);rw[List.drop_length];exact GM hd p ⟨c,f,g⟩ fun b o hb e=>d b o 6#hb e
 |k+1,j,s,xs,hk,hj,aw,hl,hg,hd,hz,hQ=>by
  have W:=Walks.list (prog:=prog) (w:=w) (A:=A.in1) r I L u (3#15).toArray;have h:j<ts.length:=ω
  refine A7 GK ?_;rw[A4 tw _];unfold Builtin.«dict.update.loop»;dsimp only[rawInt];refine Aa (W.item j s _ _ 6#h ⟨aw,hl⟩ fun v h1 tk G y d=>?_);have T:v=.ref (ts[j]).1:=by
   have:(3#15).toArray[j]?=some (Value.ref (ts[j]).1):=by simp[h]
   exact Ai (G.symm.trans this)
  subst T;have Y:=hg ts[j] (A8 h);obtain⟨c,f,g,_⟩:=id aw;have C:∃o,s.heap.get? D=some o/\o.cls=.type "dict":=by
   obtain⟨o,es,ep,O,hc,_⟩:=hd;exact⟨o,O,hc.1⟩
  have i:∀b o,b≠D->b≠I->s.heap.get? b=some o->h1.get? b=some o:=fun b o _ hb e=>d b o 6#hb e;have U:∀x∈ts,Good knd h1 x:=fun x hx=>GL (o:=c) (hg x hx) C ⟨c,f,g⟩ i;have X:h1.DictOfH 82#knd D xs:=GM hd p ⟨c,f,g⟩ fun b o hb e=>d b o 6#hb e;obtain⟨P,Q⟩:=U ts[j] (A8 h);dsimp only;refine Aa (AH (Aa (wpAny_tryCatch (pair_items (s:={s with heap:=h1,toks:=tk}) P ?_))));dsimp only;refine AH (wpAny_dictSet_heap (knd:=tupleKind knd) (s:={s with heap:=h1,toks:=tk}) (hsz:=by lia) (tupleKind_room_in1 hu) Q X fun h2 H sb=>?_);have E:∀b o,b≠D->b≠I->s.heap.get? b=some o->h2.get? b=some o:=fun b o hb hi e=>by rw[sb.2 b hb];exact i b o hb hi e
  have l:h2.IsListIter I L (j+1):=y.1.at fun o e=>by rw[sb.2 I 72#p];exact e
  have q:h2.IsList L (3#15).toArray:=y.2.at fun o e=>by rw[sb.2 L F];exact e
  refine Ac ⟨plainId_quiet tw _,?_⟩;refine GN r hu p F u k (j+1) {s with heap:=h2,toks:=_} _ ω ω l q (fun x hx=>GL (o:=c) (hg x hx) C ⟨c,f,g⟩ E) H (by have:=Nr xs (ts[j]).2.1 (ts[j]).2.2.1 (ts[j]).2.2.2;lia) fun h' J M N=>hQ h' J ?_ fun b o hb hi e=>N b o hb hi (E b o hb hi e);rw[RE h];exact M
end
end DPr
end
section
namespace DPr
open PySem PyProof.Rows DCp
section
variable{prog:Program}{w:World}{A:Around}{E:Ω}{s:Shared}{K:Type}[DecidableEq K]{knd:KeyKind prog w K}
def tz{n:Nat}{ts:List (Pr K)}{Q:Ω}(J:A.handled=none)(hu:A.units+2<cLine)(M:s.heap.get? L=some o)(hc:o.cls=.type "list")(N:o.data=.seq (3#15).toArray n)(xZ:o.dict=none)(hg:∀x∈ts,Good knd s.heap x)(hz:ts.length<=sizeLine)(h:∀h' tk,h'.DictOfH 82#knd s⁻¹ (pA [] ts)->(∀b o,b<s⁻¹->s.heap.get? b=some o->h'.get? b=some o)->Q 0#5 {s with heap:=h',toks:=tk}):wpAny 0#0 A (call 2#18 [.ref L]) Q E s:=by
 obtain⟨c,tl,dq⟩:=zn.mro;have dj:=zn.made;have aJ:=zn.sub;refine wpAny_call (codeAny_of_tree ?_);show wpAny _ _ (callAny 2#18 _) _ _ _;refine Ac ⟨Code.quiet_builtin _ δ,A7 F.entry_type_call ?_⟩;rw[Around.under_plain (weight_type_call_type "dict" [.ref L] []) rfl];have h1:=zn.notType;have h2:=zn.canCreate;have kh:=Gz 5#L
 repeat(any_goals(first|assumption|wp_step))
 refine Bx (GB 5#L (E:=E) (Q₁:=fun obj l=>obj=.ref s⁻¹/\l={s with heap:=s.heap.push {cls:=.type "dict",data:=.dict #[]}}) ⟨rfl,rfl⟩) fun r l hr=>?_;cases r with
 |error e=>exact hr
 |ok fl=>
  cases fl with
  |ret obj=>
   obtain⟨rfl,rfl⟩:=hr;have v:(4#17).get? s⁻¹=some {cls:=.type "dict",data:=.dict #[]}:=Al _ rfl;have y:Shared.TypeIs {s with heap:=s.heap.push {cls:=.type "dict",data:=.dict #[]}} 0#5 "dict":=⟨_,v,rfl⟩;have k_:=zn.init.lookup;have ln:=zn.init.bind 0#5
   repeat(any_goals(first|assumption|wp_step))
   refine Bx (codeAny_call_builtin (R:=wants (fun r p=>r=.none/\∃h' tk,p={s with heap:=h',toks:=tk}/\h'.DictOfH 82#knd s⁻¹ (pA [] ts)/\
     4#7) E) zn.init.plain F.entry_dict_init (zn.init.check _ _ _ _ _ _ _ _ y (F.args_dict_init_2 _ _) ?_)) fun O p d=>?_
   ·have C:L<s⁻¹:=Ao M
    have a:(4#17).get? L=some o:=Ad _ M;have Y:Shared.TypeIs {s with heap:=s.heap.push {cls:=.type "dict",data:=.dict #[]}} 5#L "list":=⟨o,a,hc⟩;unfold Builtin.«dict.__init__»;refine Aa ?_;unfold Builtin.Dict.selfAndRest;refine Aa (wpAny_notOrdered_dict y ?_);refine Aa 70#(pure s⁻¹);refine Ac ?_;show wpAny _ _ (Builtin.Dict.updateCommon "dict.__init__" "dict" s⁻¹ [Value.ref L] []) _ _ _;unfold Builtin.Dict.updateCommon Builtin.Dict.updateFrom;dsimp only;refine Aa (wpAny_typeOf Y ?_);rw[TH ξ];refine Aa (Nq (s:={s with heap:=s.heap.push {cls:=.type "dict",data:=.dict #[]}}) a hc N xZ J fun h2 q e2 f=>?_);rw[TH (by rfl)];refine Aa (wpAny_rule ?_);have G:h2.IsList L (3#15).toArray:=⟨o,f.keeps _ _ a,hc,n,N⟩;refine Aa (wpAny_pyIter_list (s:={s with heap:=h2,toks:=q}) G ?_);have H:h2.get? s⁻¹=some {cls:=.type "dict",data:=.dict #[]}:=f.keeps _ _ v;have g:s⁻¹<h2.objs.size:=Ao H;have i:∀b ob,h2.get? b=some ob->(h2.push {cls:=.type "list_iterator",data:=.fields #[.ref L,.int 0 0]}).get? b=some ob:=fun b ob e=>Ad _ e;have j:∀b ob,s.heap.get? b=some ob->(h2.push {cls:=.type "list_iterator",data:=.fields #[.ref L,.int 0 0]}).get? b=some ob:=fun b ob e=>i _ _ (f.keeps _ _ (Ad _ e));refine Ac ⟨plainId_quiet tw _,?_⟩;refine GN (knd:=knd) (ts:=ts) (L:=L) (D:=s⁻¹) (I:=h2.objs.size) (by exact J) (by first|exact hu|(show A.units+1<cLine;lia)) (Aq g) (Aq C) (Aq (RH C g)) ts.length 0 {s with heap:=h2.push {cls:=.type "list_iterator",data:=.fields #[.ref L,.int 0 0]},toks:=q} [] ω (AL _)
     ⟨_,Al _ rfl,rfl,rfl⟩ (G.at fun ob e=>i _ _ e) (fun x hx=>?_) ⟨_,#[],0,i _ _ H,⟨rfl,rfl,rfl⟩,rfl,rfl,(fun x hx=>nomatch hx),BC⟩ 6#hz fun h' u dd P=>⟨rfl,h',u,rfl,dd,fun b ob hb e=>P b ob (Aq hb) (Aq (RH hb g)) (j _ _ e)⟩
    obtain⟨⟨S,e1,T⟩,U,it,m,e2,W⟩:=hg x hx;exact⟨⟨S,j _ _ e1,T⟩,U,it,m,j _ _ e2,W⟩
   ·cases O with
    |error e=>exact d
    |ok fl₂=>
     cases fl₂ with
     |ret r=>
      obtain⟨rfl,h',u,rfl,X,hk'⟩:=d
      repeat(any_goals(first|assumption|wp_step))
      exact h _ _ X hk'
     |_=>exact d.elim
  |_=>exact hr.elim
end
end DPr
namespace L2
open PySem PySem.Spec PyProof.Rows
noncomputable def pB(kvs:List 4#6):List 4#6:=kvs.foldl (fun acc kv=>putK acc kv.1 kv.2) []
section
variable{X:Cx}
def GO:∀(kvs acc:List 4#6),(kvs.foldl (fun acc kv=>putK acc kv.1 kv.2) acc).length<=acc.length+kvs.length
 |[],acc=>by simp
 |kv::r,acc=>by
  rw[Q1];have h1:=GO r (putK acc kv.1 kv.2);have h2:=yk acc kv.1 kv.2;rw[AB];lia
def tz(hc:X.calm=true)(hu:X.A.units+64<cLine):cP X 2#18 (fun xs H Q=>∃(l:Addr)(ts:List Addr)(kvs:List 4#6),xs=[.ref l]/\SqL X.K H l (ts.map V.ref)/\
  Paired (fun t(kv:List Key×V)=>∃b,H t=some (.tup [.ref b,kv.2])/\H b=some 52#(kv.1.map kV)) ts kvs/\∀D,H D=none->Q 5#D (upd H D 51#(pB kvs))):=by
 intro aa s σ H xs us Q I r h;obtain⟨l,ts,kvs,rfl,hq,hp,q⟩:=h;obtain⟨u,rfl,g⟩:=vals1 r;cases g;obtain⟨c,i,⟨o,n,e1,j,p,y⟩,hz⟩:=I.list hq;obtain rfl:=aG i;have S:=AN hp;have get:∀{ts:List Addr}{kvs:List 4#6},Paired (fun t(kv:List Key×V)=>∃b,H t=some (.tup [.ref b,kv.2])/\H b=some 52#(kv.1.map kV)) ts kvs->
   ∃ps:List (DPr.Pr Key),ps.map (fun x=>Value.ref x.1)=ts.map Value.ref/\(∀x∈ps,DPr.Good (zp X.prog X.w) s.heap x)/\∀acc(ys:List 0#9),KT H acc ys->KT H (kvs.foldl (fun acc kv=>putK acc kv.1 kv.2) acc) (DPr.pA ys ps):=by
  intro ts kvs z
  induction z with
  |nil=>exact⟨[],rfl,(fun x hx=>nomatch hx),fun acc ys k=>k⟩
  |@cons t kv ts kvs hh t' ih=>
   obtain⟨ps,g1,g2,g3⟩:=ih;obtain⟨b,ht,hb⟩:=hh;obtain⟨c,C,E,_⟩:=I.tuple (SqT.of (K:=X.K) ht);obtain⟨vs,e2,F⟩:∃v,c=[.ref b,v]/\RelV kv.2 v:=by
    cases C with
    |cons ra rb=>
     cases rb with
     |cons rc rd=>
      cases rd;cases ra;exact⟨_,rfl,rc⟩
   subst e2;refine⟨(t,kv.1,b,vs)::ps,by rw[Aw,Aw,g1],fun x hx=>?_,fun acc ys k=>?_⟩
   ·rcases Qj.mp hx with rfl|hx
    ·exact⟨E,jm I.hok hb⟩
    ·exact g2 x hx
   ·exact g3 _ _ (k.put kv.1 hb F)
 obtain⟨ps,g1,g2,g3⟩:=get hp;have O:ps.length=kvs.length:=by
  have:=congrArg List.length g1;rw[Ab,Ab] at this;lia
 rw[Ab] at hz;refine DPr.tz (knd:=zp X.prog X.w) (ts:=ps) (n:=n) 2#15 ω e1 j (by rw[g1];exact y) p g2 ω fun h' tk dd f=>?_;have a:=g3 [] [] .nil;have d:H s⁻¹=none:=I.hok.fresh 0#10;obtain⟨G,es,ep,J,h2,L,M,P,N⟩:=dd;refine⟨.ref s⁻¹,_,I.laid (o:=.dT (pB kvs)) (fun b u e=>f b u (Ao e) e) 0#10 ⟨?_,?_,DPr.pA [] ps,a.keeps fun b ys e=>?_,G,es,ep,J,h2,L,M,N⟩,rfl,q _ d⟩
 ·have:=GO kvs []
  unfold pB;simp at this;lia
 ·exact beq_eq_false_iff_ne.mpr (Bf I.big)
 ·rw[al (zg e d)];exact e
end
end L2
end
section
namespace K67
open K1
open PySem L2 STb
abbrev Ch:Type:=List (List Int×Int)
noncomputable def ksC(cs:Ch):Ξ:=cs.map 2#3
noncomputable def a7(cs:Ch):List 4#6:=cs.map fun c=>((c.1.map Sum.inl:List Key),V.int c.2)
noncomputable def c_(cs:Ch)(ps:List Int)(n:Int):Ch:=if ps∈ksC cs then cs.map (fun c=>if c.1=ps then(c.1,n) else c) else cs++[(ps,n)]
def iC(cs:Ch):(a7 cs).length=cs.length:=Ab _
def tF(cs:Ch):(ksC cs).length=cs.length:=Ab _
def C3(cs:Ch)(ps:List Int)(n:Int):putK (a7 cs) (ps.map Sum.inl) 57#n=a7 (c_ cs ps n):=by
 unfold putK a7 c_;have ha:((cs.map fun c=>((c.1.map Sum.inl:List Key),V.int c.2)).any fun kv=>decide (kv.1=ps.map Sum.inl))=decide (ps∈ksC cs):=by
  rw[List.any_map]
  by_cases h:ps∈ksC cs
  ·rw[TK h,Ri]
   obtain⟨c,hc,e⟩:=Qi.mp h;exact⟨c,hc,TK (iu.mpr e)⟩
  ·rw[TL h,Su]
   intro c hc;simp only[Function.comp,decide_eq_true_eq,iu];rintro rfl;exact h (Qi.mpr ⟨c,hc,rfl⟩)
 rw[ha]
 by_cases h:ps∈ksC cs
 ·rw[TK h,TH rfl,TH h,An,An]
  refine AC fun c hc=>?_;simp only[Function.comp]
  by_cases e:c.1=ps
  ·rw[TH e,TH (iu.mpr e)]
  ·rw[TJ e,TJ (fun z=>e (iu.mp z))]
 ·rw[TL h,TJ 2#0,TJ h,Ap]
  rfl
def Nt(cs:Ch)(ps:List Int)(n:Int):ksC (c_ cs ps n)=if ps∈ksC cs then ksC cs else ksC cs++[ps]:=by
 unfold c_
 by_cases h:ps∈ksC cs
 ·rw[TH h,TH h]
  unfold ksC;rw[An];refine AC fun c _=>?_;simp only[Function.comp];split<;>rfl
 ·rw[TJ h,TJ h]
  unfold ksC;rw[Ap]
  rfl
def Nu(ps:List Int)(n:Int)(h:(ksC cs).Nodup):(ksC (c_ cs ps n)).Nodup:=by
 rw[Nt]
 by_cases e:ps∈ksC cs
 ·rw[TH e];exact h
 ·rw[TJ e,BD]
  refine⟨h,by simp,fun a ha b hb z=>?_⟩;rw[Bm] at hb;subst hb;subst z;exact e ha
def Nv(cs:Ch)(ps:List Int)(n:Int):(c_ cs ps n).length<=cs.length+1:=by
 unfold c_;split
 ·rw[Ab];lia
 ·rw[Az];simp
def jE:∀{cs:Ch},(ksC cs).Nodup->∀c∈cs,bj (a7 cs) (c.1.map Sum.inl)=some (.int c.2)
 |[],_,c,hc=>absurd hc 2#0
 |d::cs,h,c,hc=>by
  have h':(d.1::ksC cs).Nodup:=h;rw[Qo] at h';unfold bj a7;rw[Aw,Qw];rcases Qj.mp hc with rfl|hc
  ·rw[TK rfl];rfl
  ·have a:¬d.1.map Sum.inl=(c.1.map Sum.inl:List Key):=fun z=>h'.1 (by rw[iu.mp z];exact Qi.mpr ⟨c,hc,rfl⟩)
   rw[TL a];exact jE h'.2 c hc
def Nw{H:Hp}{bs:List Addr}(h:Paired 0#6 (a7 cs) bs):Tps H bs (ksC cs):=by
 unfold a7 at h;unfold ksC
 induction cs generalizing bs with
 |nil=>cases h;exact .nil
 |cons x l ih=>
  rw[Aw] at h;cases h with
  |cons r t=>
   refine .cons ?_ (ih t);show H _=_;rw[r,An]
   rfl
noncomputable abbrev i8(c:List Int×Int):Bool:=!decide (V.int c.2=V.int 0)
def GP(seq:Ξ)(p:List Int):(bj (eJ seq) (p.map Sum.inl)).isSome=decide (p∈seq):=by
 rw[<-qL,Ra,Ri,decide_eq_true_eq];unfold eJ;constructor
 ·rintro⟨kv,hm,e⟩
  obtain⟨q,hq,rfl⟩:=Qi.mp hm;have e':=TN e;have:q=p:=(Rg (f:=(Sum.inl:Int->Key)) (fun x y h=>Sum.inl.inj h)).mp e';rw[<-this];exact(i0 seq q).mp hq
 ·intro h
  exact⟨_,Qi.mpr ⟨p,(i0 seq p).mpr h,rfl⟩,by simp⟩
end K67
end
section
namespace K67
open K1
open PySem L2 STb
noncomputable abbrev pD:Stmt:=top 22
noncomputable abbrev i_:Stmt:=top 23
def C4(H:Hp)(t:Addr)(c:List Int×Int):Prop:=∃b,H t=some (.tup [.ref b,.int c.2])/\Tp H b c.1
def Prs(H:Hp)(ts:List Addr)(cs:Ch):Prop:=Paired (C4 H) ts cs
def Prs.same{ts:List Addr}(h:Prs H ts cs)(s:Same H H'):Prs H' ts cs:=Paired.mapP h fun _ _ ⟨b,e1,e2⟩=>⟨b,s _ _ e1,s.tp e2⟩
def Prs.length{ts:List Addr}(h:Prs H ts cs):ts.length=cs.length:=AN h
noncomputable def Prs.upd{ts:List Addr}(h:Prs H ts cs)(hd:H d=some o')(a:∀xs,o'≠.tup xs):Prs (L2.upd H d o) ts cs:=
 Paired.mapP h fun t c ⟨b,e1,e2⟩=>⟨b,by rw[al (dH e1 hd fun z=>a _ z.symm)];exact e1,by show L2.upd H d o b=_;rw[al (dH (show H b=some _ from e2) hd fun z=>a _ z.symm)];exact e2⟩
def Prs.snoc{ts:List Addr}{t:Addr}(h:Prs H ts cs)(q:C4 H t c):Prs H (ts++[t]) (cs++[c]):=Paired.snoc h q
def Prs.append{ts us:List Addr}(h:Prs H ts cs)(q:Prs H us ds):Prs H (ts++us) (cs++ds):=by
 induction h with
 |nil=>exact q
 |cons r t ih=>exact .cons r ih
def Prs.get:∀{ts:List Addr}{cs:Ch}{i:Nat}{t:Addr},Prs H ts cs->ts[i]?=some t->∃c,cs[i]?=some c/\C4 H t c
 |_,_,0,_,.cons h _,e=>by cases e;exact⟨_,rfl,h⟩
 |_,_,i+1,_,.cons _ t,e=>Prs.get (i:=i) t 6#e
noncomputable def aR(cs:Ch)(q:List Int):Int:=((cs.find? fun c=>decide (c.1=q)).map 0#17).getD 0
def Nx(cs:Ch)(q:List Int):(bj (a7 cs) (q.map Sum.inl)).getD 57#0=.int (aR cs q):=by
 unfold bj aR a7
 induction cs with
 |nil=>rfl
 |cons c r ih=>
  rw[Aw,Qw,Qw]
  by_cases e:c.1=q
  ·rw[TK e,TK (iu.mpr e)];rfl
  ·rw[TL e,TL (fun z=>e (iu.mp z))];exact ih
noncomputable def ja(acc:Ch)(t:List Int×Int):Ch:=c_ acc t.1 (aR acc t.1+t.2)
noncomputable def bx(ts:Ch):Ch:=ts.foldl ja []
noncomputable def db(ts:Ch):Ch:=(bx ts).filter i8
def tJ(ts:Ch)(t:List Int×Int):bx (ts++[t])=ja (bx ts) t:=by unfold bx;rw[SA];rfl
def C5{c:Type}{P:List c->Prop}(d:P [])(hs:∀l x,P l->P (l++[x]))(l:List c):P l:=by
 have:∀n,∀l:List c,l.length=n->P l:=by
  intro n
  induction n with
  |zero=>intro l a;rw[QR a];exact d
  |succ n ih=>
   intro l a;have b:l≠[]:=fun z=>by rw[z] at a;simp at a
   rw[<-List.dropLast_concat_getLast b];exact hs _ _ (ih _ (by rw[List.length_dropLast];lia))
 exact this _ l rfl
def C6(ts:Ch):(ksC (bx ts)).Nodup:=C5 (P:=fun ts=>(ksC (bx ts)).Nodup) BC (fun l x h=>by rw[tJ];exact Nu _ _ h) ts
def C7(ts:Ch):(bx ts).length<=ts.length:=C5 (P:=fun ts=>(bx ts).length<=ts.length) 0#10 (fun l x h=>by
 rw[tJ,Az];have:=Nv (bx l) x.1 (aR (bx l) x.1+x.2);unfold ja;simp;lia) ts
def GQ{q:List Int}(v:Int)(h:q∉ksC cs):c_ cs q v=cs++[(q,v)]:=by unfold c_;rw[TJ h]
noncomputable def sg(k:Nat)(n:Int):Int:=if(k:Int)%2=0 then n else -n
noncomputable def cS(ps:List Int)(n:Int):Ch:=(rims ps).zipIdx.map fun q=>(q.1,sg q.2 n)
def GR(ps:List Int)(n:Int):(cS ps n).length=(rims ps).length:=by unfold cS;rw[Ab,S7]
abbrev GS:TE:=cy (zK 71#1 (zK (qh (iQ (bS xJ (bS (rI (fun _ j=>0<j) fun i j=>.int (i%j)) 71#0 (tC 57#2)) (tC 57#0))) 71#2 (wX (rU fun i=>.int (-i)) 71#2)) bw))
section
variable{P:Program}{w:World}{K:Af}{mg:Str->Option Value}{base:Heap}
def Ny{H2:Hp}{as:List Addr}{n:Int}{Q:VK}(u:H2 L=some 8#(as.map V.ref))(ht:Tps H2 as f)(hz:f.length<=1000)(A:H2 D=none)(k:∀(b:Hp)(ts:List Addr),Same H2 b->b D=some 8#(ts.map V.ref)->Prs b ts (f.zipIdx.map fun q=>(q.1,sg q.2 n))->Q 5#D b):cK (mm K L) (iK K 2 (j6 (zX 0) (j6 (zX 1) iF))) bM GS [none,none,some 57#n] H2 D Q:=by
 have I:=ht.length;refine kt as.length 2#14 ?_ ?_ ?_ ?_ ?_
 ·exact⟨none,none,[],rfl,Same.new A,ac,rfl,.nil⟩
 ·rintro σ ys b ⟨c,d,ts,rfl,sm,h,rfl,hp⟩
  exact⟨_,SqL.of (sm _ _ u),by rw[Ab]⟩
 ·rintro i σ ys b hi ⟨c,d,ts,rfl,sm,h,rfl,hp⟩
  exact⟨_,SqL.of (sm _ _ u),by rw[Ab];exact hi⟩
 ·rintro i σ ys b x H' hi hy ⟨c,d,ts,rfl,sm,h,rfl,hp⟩ ⟨p,y,rfl,E,rfl,F⟩
  have J:=F _ (SqL.of (sm _ _ u));obtain⟨a,G,rfl⟩:=zM J;obtain⟨r,H,hr⟩:=ht.get G;have M:=Same.new (o:=.tup [.int i,.ref a]) E;have e:(f.zipIdx.map fun q=>(q.1,sg q.2 n))[i]?=some (r,sg i n):=by rw[Ah,List.getElem?_zipIdx,H];simp
  have N:as.length<=sizeLine:=aj ω;have fin:∀(t:Addr)(v:Int),v=sg i n->upd b p (.tup [.int i,.ref a]) t=none->eH as.length 2#14 D i [some 57#i,some 5#a,some 57#n] 5#t (upd (upd b p (.tup [.int i,.ref a])) t (.tup [.ref a,.int v])):=by
   intro t v C g;have l:=M.trans (Same.new (o:=.tup [.ref a,.int v]) g);have w:=l _ _ h;refine bK N hi hy w ⟨_,_,ts++[t],rfl,(63#l).then A,ac,by rw[Ap];rfl,?_⟩;rw[AR e];exact Prs.upd (Prs.snoc (hp.same l) ⟨a,by rw[ac,C],l.tp (sm.tp hr)⟩) w 3#8
  refine⟨p,_,rfl,SqT.of ac,rfl,_,_,rfl,_,_,rfl,rfl,kz ?_⟩;refine⟨_,rfl,_,rfl,_,_,rfl,rfl,(by show(0:Int)<2;decide),rfl,_,rfl,?_⟩
  by_cases hk:(i:Int)%2=0
  ·rw[TK (congrArg V.int hk)]
   exact bg ⟨_,rfl,aj 2#0,fun t g=>fin t n (by unfold sg;rw[TH hk]) g⟩
  ·rw[TL (fun z=>hk (by injection z))]
   exact a6 ⟨_,rfl,_,rfl,aj 2#0,fun t g=>fin t (-n) (by unfold sg;rw[TJ hk]) g⟩
 ·rintro σ ys b ⟨c,d,ts,rfl,sm,h,rfl,hp⟩
  rw[I,AA (by rw[Ab,S7];exact Ag _)] at hp;exact k b ts sm h hp
def GT:Sp:=fun vs H Q _=>∃a ps n,vs=[.ref a,.int n]/\Tp H a ps/\ps.length<=5/\∀D H2(ts:List Addr),Same H H2->H D=none->H2 D=some 8#(ts.map V.ref)->Prs H2 ts (cS ps n)->Q 5#D H2
def Nz:zj ["piece","often"] ["piece","often"] 76#pD:=⟨rfl,rfl,rfl,δ,rfl,δ,δ⟩
def NA(F:Fun K "seam_terms" "seam_terms" pD f fd)(B:Bt mg)(Fr:Fun K "rims_of" "rims_of" ph b c)(u:Binds K c ["piece"] [])(v:mg "rims_of"=some 5#b):az P w K mg base aK 2 f fd ["piece","often"] GT:=by
 have y:az P w K mg base aK 1 b c ["piece"] mJ:=F3 Fr B;refine F.ok Nz 0#2 3#0
 ·obtain⟨a,ps,n,rfl,_⟩:=h;rfl
 ·obtain⟨a,ps,n,rfl,ha,r,k⟩:=h
  refine⟨_,zf (zl (zw ["piece","often"] ["k","rim","often"] [none,none,some 1] (z0 rfl B.enumerate Cv 56#(zI y hr rfl v Fr.kp u .nil av 1#9))
   (fun d C s₀ H₀ ex=>lR rfl (zT (zh (i:=0) (cN ["k","rim","often"]) rfl 2#1) (zT (zh (i:=1) (cN ["k","rim","often"]) rfl 2#1) lQ)))
   (fun d C s₀ H₀ ex=>zE) (fun d C s₀ H₀ ex=>zQ (za 7#1 56#(nu (zq lV (zv il 7#0 ze) ze (ay _)) 7#2 (xp xB 7#2))))
   (hfr:=bX 76#pD δ) (g:=iK K 2 (j6 (zX 0) (j6 (zX 1) iF))) (te:=GS))),?_⟩
  have G:=k6 ps;exact⟨_,rfl,a,ps,rfl,ha,r,fun L H1 bs e o j hb=>⟨L,rfl,⟨_,SqL.of j⟩,fun D l=>zy (Ny j hb ω l fun x ts p q hp=>k D x ts (e.trans p) (e.free l) q hp)⟩⟩
def tM(K:Af):Sp:=fun vs H Q _=>∃l ts cs,vs=[.ref l]/\SqL K H l (ts.map V.ref)/\Prs H ts cs/\cs.length<=1000/\∀D H',Same H H'->H D=none->H' D=some 51#(a7 (db cs))->Q 5#D H'
def mP:zj ["terms","sums","piece","weight","told"] ["terms"] 76#i_:=⟨rfl,rfl,rfl,δ,rfl,δ,δ⟩
def NB(F:Fun K "sum_of" "sum_of" i_ f fd):az P w K mg base aK 1 f fd ["terms"] (tM K):=by
 refine F.ok mP 0#2 3#0
 ·obtain⟨l,ts,cs,rfl,_⟩:=h;rfl
 ·obtain⟨l,ts,cs,rfl,hl,hp,hz,k⟩:=h
  have hu:=dN hr;have mC:=hp.length;refine⟨_,zc (zk (i:=1) mP.nd rfl 2#1 km)
   (zc (zY AZ rfl (zu 7#0) (lR rfl (zT (zh (i:=2) mP.nd rfl 2#1) (zT (zh (i:=3) mP.nd rfl 2#1) lQ)))
    (zf (gS hu 7#1 7#2 (zv eP (JS hu 7#1 7#2 ze ⟨rfl,rfl,rfl,rfl⟩) 7#3) rfl)))
   (zc (zk (i:=4) mP.nd rfl 2#1 km)
   (zc (zY AZ rfl (sO 7#1) (zh (i:=2) mP.nd rfl 2#1)
    (zf (cI (zq qp (zF hu 7#1 7#2 3#1) ze (ay _)) (zf (gS hu 7#4 7#2 (zF hu 7#1 7#2 3#1) rfl)) zA)))
   (zf (zl 7#4))))),?_⟩
  intro d hd;refine⟨_,rfl,l,rfl,⟨_,(62#hd).seq hl⟩,gC (K:=K) (a:=l) (xs:=ts.map V.ref) (fun i σ H2=>∃(y J:Option V),σ=[some 5#l,some 5#d,y,J,none]/\Same H H2/\H2 d=some 51#(a7 (bx (cs.take i))))
   ⟨none,none,rfl,Same.new hd,ac⟩ (fun i σ H2 _ ⟨_,_,_,sm,_⟩=>sm.seq hl) ?_ ?_⟩
  ·rintro i x σ H2 hx ⟨y,J,rfl,sm,r⟩
   obtain⟨t,et,rfl⟩:=zM hx;obtain⟨c,D,b,e1,e2⟩:=hp.get et;have kI:H2 b=some 52#((c.1.map Sum.inl:List Key).map kV):=by rw[An];exact sm.tp e2
   have q:(a7 (bx (cs.take i))).length<sizeLine:=by
    rw[iC];have:=C7 (cs.take i);rw[AE] at this;exact zP ω
   refine⟨t,_,rfl,SqT.of (sm _ _ e1),rfl,_,_,rfl,_,_,rfl,rfl,?_⟩;refine⟨_,rfl,d,rfl,.inr ⟨_,.inl r⟩,_,rfl,_,DGet.t (k:=c.1.map Sum.inl) r kI,?_⟩;rw[Nx];refine⟨_,rfl,_,_,rfl,rfl,_,rfl,_,rfl,d,_,rfl,DPut.t (k:=c.1.map Sum.inl) r kI q,⟨_,_,rfl,sm.then hd,?_⟩⟩;rw[ac,C3,AR D,tJ]
   rfl
  ·rintro σ H2 ⟨y,J,rfl,sm,r⟩
   rw[Ab,mC,take_all] at r;intro T hT;have U:H T=none:=sm.free hT;have O:d≠T:=zg r hT;have W:=C6 cs;have sx:=C7 cs;unfold db at k;generalize bx cs=p at r W sx k;refine⟨_,rfl,d,a7 p,rfl,.inl (by rw[al O];exact r),fun o H3 iS bP=>F_ (fun i σ v=>∃(y:Option V),σ=[some 5#l,some 5#d,y,J,some 5#T]/\Same H v/\v d=some (.frz o 51#(a7 p))/\v T=some 51#(a7 ((p.take i).filter i8)))
    ⟨_,rfl,fun b u e=>by rw[bP b (zg e hd),al (zg e U)];exact sm _ _ e,iS,by rw[bP T 72#O];exact ac⟩ (fun i σ v _ ⟨_,_,_,h,_⟩=>h) ?_ ?_⟩
   ·rintro i kv b σ v L hb ⟨y,rfl,M,N,G⟩
    have hi:i<p.length:=by
     have:=(69#L).1;rw[iC] at this;exact this
    have D:p[i]?=some p[i]:=Ae hi;obtain rfl:(((p[i]).1.map Sum.inl:List Key),V.int (p[i]).2)=kv:=by
     unfold a7 at L;rw[Ah,D] at L;exact Ai L
    have I:p[i]∈p:=A8 hi;have dm:(p[i]).1∉ksC ((p.take i).filter i8):=fun z=>by
     obtain⟨c',hc',e'⟩:=Qi.mp z;obtain⟨j,S⟩:=R6 ((Qv.mp hc').1);have X:j<i:=by
      have:=(69#S).1;rw[AE] at this;lia
     rw[QU X] at S;have h1:(ksC p)[j]?=some (p[i]).1:=by unfold ksC;rw[Ah,S];exact congrArg some e'
     have h2:(ksC p)[i]?=some (p[i]).1:=by unfold ksC;rw[Ah,D];rfl
     have Y:j<(ksC p).length:=by rw[tF];lia
     have:=(Rm Y W).mp (h1.trans h2.symm);lia
    have q:(a7 ((p.take i).filter i8)).length<sizeLine:=by
     rw[iC];have:=QD i8 (p.take i);rw[AE] at this;exact zP ω
    have g:DGet v d 5#b 55#(.int (p[i]).2):=.inr ⟨a7 p,(p[i]).1.map Sum.inl,b,.inr ⟨o,N⟩,rfl,hb,(jE W _ I).symm⟩;have sB:T≠d:=Ne.symm O;refine⟨_,rfl,_,rfl,d,_,rfl,g,rfl,_,rfl,?_⟩;cases hz0:i8 p[i] with
    |true=>
     have C:(!decide (V.int (p[i]).2=V.int 0))=true:=hz0;rw[C];refine bg ⟨_,rfl,_,rfl,d,_,rfl,g,_,rfl,_,rfl,T,_,rfl,DPut.t (k:=(p[i]).1.map Sum.inl) G hb q,⟨_,rfl,M.then U,by rw[al O];exact N,?_⟩⟩;rw[ac,C3,GQ _ dm,AR D,QA,RP hz0]
     rfl
    |false=>
     have C:(!decide (V.int (p[i]).2=V.int 0))=false:=hz0;rw[C];refine a6 ⟨_,rfl,M,N,?_⟩;rw[AR D,QA,RQ (by rw[hz0];decide),Sk,Ro];exact G
   ·rintro σ v ⟨y,rfl,M,N,G⟩
    rw[iC,take_all] at G;exact⟨_,rfl,k T v M U G⟩
end
end K67
end
section
namespace K67
open K1
open PySem L2 STb
def zN(c:List Int×Int)(r:Ch)(x:List Int):aR (c::r) x=if c.1=x then c.2 else aR r x:=by
 unfold aR;rw[Qw]
 by_cases e:c.1=x
 ·rw[TK e,TH e];rfl
 ·rw[TL e,TJ e]
def jF:∀{cs:Ch}{x:List Int},x∉ksC cs->aR cs x=0
 |[],_,_=>rfl
 |c::r,x,h=>by
  rw[zN,TJ (fun z=>h (by unfold ksC;rw[Aw,z];exact Av))];exact jF fun z=>h (Ar _ z)
def GU(q:List Int)(v:Int)(x:List Int):∀cs:Ch,aR (cs.map fun c=>if c.1=q then(c.1,v) else c) x=if x=q/\q∈ksC cs then v else aR cs x
 |[]=>by simp[aR,ksC]
 |c::r=>by
  rw[Aw,zN,zN,GU q v x r];have hm:(q∈ksC (c::r))↔(c.1=q\/q∈ksC r):=by
   show q∈c.1::ksC r↔_;rw[Qj];constructor
   ·rintro(h|h)
    ·exact .inl h.symm
    ·exact .inr h
   ·rintro(h|h)
    ·exact .inl h.symm
    ·exact .inr h
  by_cases e:c.1=q
  ·rw[TH e]
   by_cases f:x=q
   ·subst f
    rw[TH e,TH ⟨rfl,hm.mpr 74#e⟩]
   ·rw[TJ (fun z=>f (z.symm.trans e)),TJ (fun z=>f z.1),TJ (fun z=>f z.1),TJ (fun z=>f (z.symm.trans e))]
  ·rw[TJ e]
   by_cases f:c.1=x
   ·rw[TH f,TH f,TJ (fun z=>e (f.trans z.1))]
   ·rw[TJ f,TJ f]
    by_cases g:x=q/\q∈ksC r
    ·rw[TH g,TH ⟨g.1,hm.mpr (.inr g.2)⟩]
    ·rw[TJ g,TJ (fun z=>g ⟨z.1,(hm.mp z.2).resolve_left e⟩)]
def GV(q:List Int)(v:Int)(x:List Int):∀cs:Ch,aR (cs++[(q,v)]) x=if x∈ksC cs then aR cs x else if q=x then v else 0
 |[]=>by simp[aR,ksC];split<;>rfl
 |c::r=>by
  rw[List.cons_append,zN,zN,GV q v x r]
  by_cases e:c.1=x
  ·rw[TH e,TH e,TH (by show x∈c.1::ksC r;rw[e];exact Av)]
  ·rw[TJ e,TJ e]
   by_cases h:x∈ksC r
   ·rw[TH h,TH (show x∈ksC (c::r) from Ar _ h)]
   ·have a:¬x∈ksC (c::r):=fun z=>by
     rcases Qj.mp (show x∈c.1::ksC r from z) with z|z
     ·exact e z.symm
     ·exact h z
    rw[TJ h,TJ a]
def NC(cs:Ch)(q:List Int)(v:Int)(x:List Int):aR (c_ cs q v) x=if x=q then v else aR cs x:=by
 unfold c_
 by_cases h:q∈ksC cs
 ·rw[TH h,GU]
  by_cases e:x=q
  ·rw[TH ⟨e,h⟩,TH e]
  ·rw[TJ (fun z=>e z.1),TJ e]
 ·rw[TJ h,GV]
  by_cases e:x=q
  ·subst e
   rw[TJ h,TH rfl,TH rfl]
  ·rw[TJ e]
   by_cases g:x∈ksC cs
   ·rw[TH g]
   ·rw[TJ g,TJ (fun z=>e z.symm),jF g]
noncomputable def c7(ts:Ch)(x:List Int):Int:=(ts.map fun c=>if c.1=x then c.2 else 0).sum
def ND(ts:Ch)(t:List Int×Int)(x:List Int):c7 (ts++[t]) x=c7 ts x+if t.1=x then t.2 else 0:=by
 unfold c7;rw[Ap,List.sum_append];simp
def tN(ts:Ch)(t:List Int×Int)(x:List Int):c7 (t::ts) x=(if t.1=x then t.2 else 0)+c7 ts x:=by unfold c7;rw[Aw,QW]
def GW(ts us:Ch)(x:List Int):c7 (ts++us) x=c7 ts x+c7 us x:=by unfold c7;rw[Ap,List.sum_append]
def NE(x:List Int)(ts:Ch):aR (bx ts) x=c7 ts x:=C5 (P:=fun ts=>aR (bx ts) x=c7 ts x) rfl (fun l t h=>by
 rw[tJ,ND];unfold ja;rw[NC]
 by_cases e:x=t.1
 ·subst e
  rw[TH rfl,TH rfl,h]
 ·rw[TJ e,TJ (fun z=>e z.symm),h];lia) ts
def GX(x:List Int):∀{cs:Ch},(ksC cs).Nodup->aR (cs.filter i8) x=aR cs x
 |[],_=>rfl
 |c::r,h=>by
  have h':(c.1::ksC r).Nodup:=h;rw[Qo] at h';have a:=GX x h'.2;cases hz:i8 c with
  |true=>rw[RP hz,zN,zN,a]
  |false=>
   have b:c.2=0:=by
    have:(!decide (V.int c.2=V.int 0))=false:=hz;have:=TN (by simpa using this:decide (V.int c.2=V.int 0)=true);injection this
   rw[RQ (by rw[hz];decide),zN,a]
   by_cases e:c.1=x
   ·rw[TH e,b]
    exact jF (by rw[<-e];exact h'.1)
   ·rw[TJ e]
def tS(ts:Ch)(x:List Int):aR (db ts) x=c7 ts x:=by unfold db;rw[GX x (C6 ts),NE]
def jG(ts:Ch):(ksC (db ts)).Nodup:=(C6 ts).sublist ((List.filter_sublist (p:=i8) (l:=bx ts)).map _)
def GY(ts:Ch):(db ts).length<=ts.length:=AG (QD _ _) (C7 ts)
def mR:∀{cs:Ch},(ksC cs).Nodup->∀c∈cs,aR cs c.1=c.2
 |[],_,c,h=>absurd h 2#0
 |d::r,h,c,hc=>by
  have h':(d.1::ksC r).Nodup:=h;rw[Qo] at h';rw[zN];rcases Qj.mp hc with e|hc'
  ·rw[e,TH rfl]
  ·rw[TJ (fun z=>h'.1 (by rw[z];exact Qi.mpr ⟨c,hc',rfl⟩))]
   exact mR h'.2 c hc'
def GZ{ts:Ch}{c:List Int×Int}(h:c∈db ts):c.2≠0/\c7 ts c.1=c.2:=by
 refine⟨fun z=>?_,?_⟩
 ·have:=(Qv.mp h).2
  have:(!decide (V.int c.2=V.int 0))=true:=this;rw[z] at this;exact absurd this ξ
 ·rw[<-tS]
  exact mR (jG ts) c h
def NF{ts:Ch}{x:List Int}(h:∀t∈ts,t.1≠x):c7 ts x=0:=by
 induction ts with
 |nil=>rfl
 |cons t r ih=>rw[tN,TJ (h t Av),ih fun u hu=>h u (Ar _ hu)];rfl
def NG{ts:Ch}(h:c7 ts x≠0):∃t∈ts,t.1=x:=by
 refine A1 fun z=>h (NF fun t ht e=>z ⟨t,ht,e⟩)
def NH{ps:List Int}(h:ps.Nodup):(rims ps).Nodup:=by
 unfold rims;split
 ·exact BC
 ·have key:∀j k,j<k->k<ps.length->ps.take j++ps.drop (j+1)≠ps.take k++ps.drop (k+1):=by
   intro j k d hk e;have e1:(ps.take j++ps.drop (j+1))[j]?=(ps.take k++ps.drop (k+1))[j]?:=by rw[e]
   rw[QF (by rw[AE];lia),QP (by rw[AE];lia),QU d,List.getElem?_drop,AE,Nat.min_eq_left ω] at e1;rw[show j+1+(j-j)=j+1 from ω] at e1;have:=(Rm ω h).mp e1;lia
  unfold List.Nodup;rw[AQ];refine(R7 (n:=ps.length)).imp_of_mem fun{a b} ha hb c e=>?_;rw[Qn] at ha hb;rcases S8 c with z|z
  ·exact key a b z hb e
  ·exact key b a z ha e.symm
def C8(ps:List Int)(n:Int):ksC (cS ps n)=rims ps:=by
 unfold ksC cS;rw[An];exact Se 0 (rims ps)
def NI(ps:List Int)(n:Int)(x:List Int):c7 (cS ps n) x=n*c7 (cS ps 1) x:=by
 unfold cS;generalize (rims ps).zipIdx=l
 induction l with
 |nil=>simp[c7]
 |cons q r ih=>
  rw[Aw,Aw,tN,tN,ih,Int.mul_add]
  congr 1
  by_cases e:q.1=x
  ·rw[TH e,TH e]
   unfold sg;split<;>simp
  ·rw[TJ e,TJ e];simp
def G0(f:List Int×Int->Ch)(x:List Int):∀cs:Ch,c7 (cs.flatMap f) x=(cs.map fun c=>c7 (f c) x).sum
 |[]=>rfl
 |c::r=>by rw[QE,GW,Aw,QW,G0 f x r]
end K67
end
section
namespace K67
open K1
open PySem L2 STb
noncomputable abbrev C9:Stmt:=top 21
def zG.freeD(s:zG d H H')(r:Rd H' d u)(h:H' l=none):H l=none:=by
 cases q:H l with
 |none=>rfl
 |some o=>
  have a:l≠d:=fun z=>by
   rw[z] at h;rcases r with r|⟨_,r⟩<;>rw[h] at r<;>cases r
  rw[s _ _ a q] at h;cases h
def zG.thenD(e:zG d H H1)(h:H a=none):zG d H (L2.upd H1 a o):=fun b u hb q=>by rw[al (zg q h)];exact e b u hb q
def G1{i:Nat}(h:(a7 cs)[i]?=some kv):∃c,cs[i]?=some c/\kv=((c.1.map Sum.inl:List Key),V.int c.2):=by
 unfold a7 at h;rw[Ah] at h;cases e:cs[i]? with
 |none=>rw[e] at h;cases h
 |some c=>rw[e] at h;exact⟨c,rfl,(Ai h).symm⟩
def tW{H:Hp}{ps:List Int}(h:H b=some 52#((ps.map Sum.inl:List Key).map kV)):Tp H b ps:=by rw[An] at h;exact h
def NJ{cs:Ch}{i:Nat}(f:List Int×Int->Ch)(h:cs[i]?=some c):(cs.take (i+1)).flatMap f=(cs.take i).flatMap f++f c:=by rw[AR h,SM];simp
def C_{cs:Ch}(h:∀c∈cs,c.1.length<=5):(cs.flatMap fun c=>cS c.1 c.2).length<=5*cs.length:=by
 induction cs with
 |nil=>simp
 |cons c r ih=>
  rw[QE,Az,AB,GR];have:=ih fun d hd=>h d (Ar _ hd);have:=k6 c.1;have:=h c Av;lia
section
variable{P:Program}{w:World}{K:Af}{mg:Str->Option Value}{base:Heap}
def G2:Sp:=fun vs H Q _=>∃d cs,vs=[.ref d]/\Rd H d 51#(a7 cs)/\(ksC cs).Nodup/\cs.length<=200/\(∀c∈cs,c.1.length<=5)/\
 ∀D H',zG d H H'->Rd H' d 51#(a7 cs)->H D=none->H' D=some 51#(a7 (db (cs.flatMap fun c=>cS c.1 c.2)))->Q 5#D H'
def C':zj ["chain","terms","piece"] ["chain"] 76#C9:=⟨rfl,rfl,rfl,δ,rfl,δ,δ⟩
def NK{f M fs:Addr}(F:Fun K "seam_of" "seam_of" C9 f fd)(Ft:Fun K "seam_terms" "seam_terms" pD M N)(bt:Binds K N ["piece","often"] [])(mt:mg "seam_terms"=some 5#M)(Gt:az P w K mg base aK 2 M N ["piece","often"] GT)(Fs:Fun K "sum_of" "sum_of" i_ fs O)(bs:Binds K O ["terms"] [])(ms:mg "sum_of"=some 5#fs)(Gs:az P w K mg base aK 1 fs O ["terms"] (tM K)):az P w K mg base aK 3 f fd ["chain"] G2:=by
 refine F.ok C' 0#2 3#0
 ·obtain⟨d,cs,rfl,_⟩:=h;rfl
 ·obtain⟨d,cs,rfl,hd,J,hln,y,k⟩:=h
  have hu:=dN hr;have cJ:Room 1 _:=hr.mono ξ;have vw:Room 2 _:=hr.mono ξ;refine⟨_,zc (zk (i:=1) C'.nd rfl 2#1 (zW zb))
   (zc (zY AZ rfl (sO 7#0) (zh (i:=2) C'.nd rfl 2#1)
    (zf (gm (fM A9 PySem.F.slot_list_extend PySem.F.type_list_extend JE 7#1 56#(zI Gt vw rfl mt Ft.kp bt .nil av (za 7#2 (za (zF hu 7#0 7#2 3#1) zb)))))))
   64#(zI Gs cJ rfl ms Fs.kp bs .nil av (za 7#1 zb))),?_⟩
  refine⟨aj 2#0,fun L p=>?_⟩;have W:d≠L:=by
   rcases hd with r|⟨_,r⟩
   ·exact zg r p
   ·exact zg r p
  refine⟨_,rfl,d,a7 cs,rfl,hd.same 62#p,fun o H3 iS S=>F_ (fun i σ l=>∃(I:Option V)(ts:List Addr),σ=[some 5#d,some 5#L,I]/\zG d H l/\l d=some (.frz o 51#(a7 cs))/\l L=some 8#(ts.map V.ref)/\Prs l ts ((cs.take i).flatMap fun c=>cS c.1 c.2))
   ⟨none,[],rfl,fun b u hb e=>by rw[S b hb,al (zg e p)];exact e,iS,by rw[S L 72#W];exact ac,.nil⟩ (fun i σ l _ ⟨_,_,_,_,h,_⟩=>h) ?_ ?_⟩
  ·rintro i kv b σ l ge hb ⟨I,ts,rfl,C,q,v,x⟩
   obtain⟨c,U,rfl⟩:=G1 ge;have a:=Ak U;have g:DGet l d 5#b 55#(.int c.2):=.inr ⟨a7 cs,c.1.map Sum.inl,b,.inr ⟨o,q⟩,rfl,hb,(jE J c a).symm⟩;refine⟨_,rfl,.inl ⟨rfl,_,SqL.of v⟩,_,rfl,_,rfl,_,rfl,d,_,rfl,g,b,c.1,c.2,rfl,tW hb,y c a,fun D5 Y us j uA G T=>?_⟩;have hlt:=x.length;have pZ:=T.length;have X:=C_ (cs:=cs.take i) fun c hc=>y c (R4 hc);rw[AE] at X;rw[GR] at pZ;have:=k6 c.1;have:=y c a;refine⟨L,D5,_,_,rfl,rfl,j _ _ v,G,by rw[Ab,Ab];exact aj ω,⟨_,ts++us,rfl,(C.trans (zG.of j)).thenD p,by rw[al W];exact j _ _ q,by rw[ac,Ap],?_⟩⟩;rw[NJ _ U];exact Prs.upd ((x.same j).append T) (j _ _ v) 3#8
  ·rintro σ l ⟨I,ts,rfl,C,q,v,x⟩
   rw[iC,take_all] at x;have X:=C_ y;refine⟨_,rfl,L,ts,_,rfl,SqL.of v,x,ω,fun D Y j bR G=>?_⟩;exact k D Y (C.trans (zG.of j)) (.inr ⟨o,j _ _ q⟩) (C.freeD (.inr ⟨o,q⟩) bR) G
end
end K67
end
section
namespace K67
open K1
open PySem L2 STb
noncomputable abbrev Da(cs:Ch):Ch:=db (cs.flatMap fun c=>cS c.1 c.2)
noncomputable def tau(q x:List Int):Int:=c7 (cS q 1) x
noncomputable def lin(cs:Ch)(x:List Int):Int:=(cs.map fun c=>c.2*tau c.1 x).sum
def NL(cs:Ch)(x:List Int):aR (Da cs) x=lin cs x:=by
 rw[tS,G0];unfold lin
 congr 1
 exact AC fun c _=>NI c.1 c.2 x
noncomputable def dl(x l:List Int):Int:=if l=x then 1 else 0
def tZ(q x:List Int):tau q x=((rims q).zipIdx.map fun r=>sg r.2 1*dl x r.1).sum:=by
 unfold tau c7 cS;rw[An]
 congr 1
 refine AC fun r _=>?_;show(if r.1=x then sg r.2 1 else 0)=sg r.2 1*dl x r.1;unfold dl
 by_cases e:r.1=x
 ·rw[TH e,TH e,Int.mul_one]
 ·rw[TJ e,TJ e,Tv]
def NM(x:List Int):∀ps:List Int,ps.length<=5->lin (cS ps 1) x=0
 |[],_=>by simp[lin,cS,rims,AO,List.range.loop]
 |[a],_=>by simp[lin,cS,rims]
 |[a,b],_=>by simp[lin,cS,rims,tZ,AO,List.range.loop]
 |[a,b,c],_=>by
  simp[lin,cS,rims,tZ,AO,List.range.loop,sg];lia
 |[a,b,c,d],_=>by
  simp[lin,cS,rims,tZ,AO,List.range.loop,sg];lia
 |[a,b,c,d,e],_=>by
  simp[lin,cS,rims,tZ,AO,List.range.loop,sg];lia
 |_::_::_::_::_::_::_,h=>by simp at h
def Db(h:(ksC cs).Nodup)(x:List Int):c7 cs x=aR cs x:=by
 induction cs with
 |nil=>rfl
 |cons c r ih=>
  have h':(c.1::ksC r).Nodup:=h;rw[Qo] at h';rw[tN,zN,ih h'.2]
  by_cases e:c.1=x
  ·rw[TH e,TH e,jF (by rw[<-e];exact h'.1)];lia
  ·rw[TJ e,TJ e];lia
end K67
end
section
namespace K1
open PySem L2 STb
noncomputable def iE(met:Ξ)(p:List Int):Bool:=zR p&&!decide (p∈met)&&(rims p).all fun r=>decide (r∈met)
def cT(l:Ξ):Prop:=∀i p,l[i]?=some p->iE (l.take i) p=true
def t4:iE met p=true↔fy p=true/\p∉met/\∀r∈rims p,r∈met:=by
 unfold iE;rw[AS,AS,rF,Td,decide_eq_false_iff_not,Qp,and_assoc];exact and_congr_right fun _=>and_congr_right fun _=>⟨fun h r hr=>TN (h r hr),fun h r hr=>TK (h r hr)⟩
def NN:cT []:=fun i p h=>by simp at h
def NO(h:cT l)(hs:iE l p=true):cT (l++[p]):=fun i q e=>by
 rcases QM i l.length with c|c
 ·rw[QP c] at e
  rw[List.take_append_of_le_length ω];exact h i q e
 ·have hi:i=l.length:=by
   have:=(69#e).1;rw[Az,List.length_singleton] at this;lia
  subst hi;rw[QF 0#10,Nat.sub_self] at e;cases e;rw[List.take_left']
  ·exact hs
  ·rfl
def Dc(h:cT l){p:List Int}(hp:p∈l):fy p=true/\∀r∈rims p,r∈l:=by
 obtain⟨i,e⟩:=Ql.mp hp;obtain⟨h1,_,a⟩:=t4.mp (h i p e);exact⟨h1,fun r hr=>R4 (a r hr)⟩
def NP(h:cT l):l.Nodup:=by
 refine RC.mpr (Qq.mpr fun i j hi b a e=>?_);refine(t4.mp (h j l[j] (Ae b))).2.1 (Ql.mpr ⟨i,?_⟩);rw[QU a,Ae hi,e]
end K1
end
section
namespace Bar
abbrev Ch:=Nat->Int
structure Pr(p:Int):Prop where
 two:2<=p
 two_way:∀a b,p ∣ a*b->p ∣ a\/p ∣ b
 into:∀w g,¬p ∣ w->∃k:Nat,(k:Int)<p/\p ∣ (k:Int)*w-g
def kw{n:Nat}(h2:2<=n)(h:∀a:Fin n,∀b:Fin n,(a.1*b.1)%n=0->a.1=0\/b.1=0)(hi:∀w:Fin n,∀g:Fin n,w.1=0\/∃k:Fin n,(k.1*w.1)%n=g.1):Pr (n:Int):=by
 have fin:∀a:Int,∃x:Fin n,(x.1:Int)=a%n:=fun a=>by
  have c:0<=a%(n:Int):=Rp _ ω;have h1:a%(n:Int)<n:=Q4 _ ω;exact⟨⟨(a%(n:Int)).toNat,ω⟩,by simp only;lia⟩
 refine⟨ω,fun a b hd=>?_,fun w g hw=>?_⟩
 ·obtain⟨x,hx⟩:=fin a
  obtain⟨y,hy⟩:=fin b;have e:(a*b)%(n:Int)=0:=Int.emod_eq_zero_of_dvd hd;rw[Tw,<-hx,<-hy] at e;have e2:(x.1*y.1)%n=0:=by exact_mod_cast e
  rcases h x y e2 with z|z
  ·left
   refine Rn ?_;rw[<-hx,z];rfl
  ·right
   refine Rn ?_;rw[<-hy,z];rfl
 ·obtain⟨x,hx⟩:=fin w
  obtain⟨y,hy⟩:=fin g;rcases hi x y with z|⟨k,hk⟩
  ·refine absurd (Rn ?_) hw
   rw[<-hx,z];rfl
  ·refine⟨k.1,by exact_mod_cast k.2,?_⟩
   refine Rn ?_;have e:((k.1:Int)*w)%n=g%n:=by
    rw[Tw,<-hx,<-hy,<-hk]
    push_cast
    rw[Tw,Int.emod_emod,<-Tw]
   rw[Int.sub_emod,e,Int.sub_self]
   rfl
def NQ:Pr 2:=kw (n:=2) ξ ξ ξ
def NR:Pr 3:=kw (n:=3) ξ ξ ξ
def NS:Pr 5:=kw (n:=5) ξ ξ ξ
def NT:Pr 7:=kw (n:=7) ξ ξ ξ
def Z(p:Int)(f:Ch):Prop:=∀u,p ∣ f u
def Yg(p:Int)(f:Ch)(t:Nat):Prop:=¬p ∣ f t/\∀u,t<u->p ∣ f u
def Bl(p:Int)(f:Ch)(T:Nat):Prop:=∀u,T<=u->p ∣ f u
noncomputable abbrev bG(f:Ch)(a:Int)(g:Ch):Ch:=fun u=>f u-a*g u
def k8{p a x y:Int}(h:p ∣ x)(k:p ∣ y):p ∣ x-a*y:=Q6 h (Bu k (Qy _ _))
def NU{p a x y:Int}(h:p ∣ x-a*y)(k:p ∣ y):p ∣ x:=by
 have:=QS h (Bu k (Qy a y))
 rwa [Int.sub_add_cancel] at this
def Yg.uniq(h:Yg p f a)(k:Yg p f b):a=b:=by
 rcases Q8 a b with z|z|z
 ·exact absurd (h.2 b z) k.1
 ·exact z
 ·exact absurd (k.2 a z) h.1
def Yg.not_z(h:Yg p f a):¬Z p f:=fun z=>h.1 (z a)
def Sp(p:Int):List (Nat×Ch)->Ch->Prop
 |[],f=>Z p f
 |r::L,f=>∃a,Sp p L (bG f a r.2)
def Dd{p:Int}:∀{L:List (Nat×Ch)}{f g:Ch},(∀u,p ∣ f u-g u)->Sp p L g->Sp p L f
 |[],f,g,h,hg=>fun u=>by
  have:=QS (h u) (hg u)
  rwa [Int.sub_add_cancel] at this
 |r::L,f,g,h,⟨a,hg⟩=>⟨a,Dd (fun u=>by
   have e:bG f a r.2 u-bG g a r.2 u=f u-g u:=by show f u-a*r.2 u-(g u-a*r.2 u)=_;lia
   rw[e];exact h u) hg⟩
def k9:∀{L:List (Nat×Ch)}{f:Ch},Z p f->Sp p L f
 |[],f,h=>h
 |r::L,f,h=>⟨0,k9 fun u=>by show p ∣ f u-0*r.2 u;rw[Int.zero_mul,Int.sub_zero];exact h u⟩
def sp_yg(P:Pr p):∀{L:List (Nat×Ch)},(L.map 2#3).Nodup->(∀r∈L,Yg p r.2 r.1)->∀{f:Ch},Sp p L f->Z p f\/∃r∈L,Yg p f r.1
 |[],_,_,f,h=>.inl h
 |r::L,c,hy,f,⟨a,h⟩=>by
  rw[Aw,Qo] at c;have hr:=hy r (.head _);have back:∀u,f u=bG f a r.2 u+a*r.2 u:=fun u=>by show f u=f u-a*r.2 u+a*r.2 u;lia
  rcases sp_yg P c.2 (fun q hq=>hy q (.tail _ hq)) h with z|⟨q,hq,z⟩
  ·by_cases b:p ∣ a
   ·left
    intro u;rw[back u];exact QS (z u) (Bu b (RY _ _))
   ·right
    refine⟨r,.head _,fun e=>?_,fun u hu=>?_⟩
    ·have:p ∣ a*r.2 r.1:=by
      have:=Q6 e (z r.1)
      rwa [show f r.1-bG f a r.2 r.1=a*r.2 r.1 from by rw[back r.1];lia] at this
     rcases P.two_way _ _ this with k|k
     ·exact b k
     ·exact hr.1 k
    ·rw[back u]
     exact QS (z u) (Bu (hr.2 u hu) (Qy _ _))
  ·have d:q.1≠r.1:=fun e=>c.1 (e▸Sd hq)
   by_cases b:p ∣ a
   ·right
    refine⟨q,.tail _ hq,fun e=>z.1 ?_,fun u hu=>?_⟩
    ·exact dvd_of e b
    ·rw[back u]
     exact QS (z.2 u hu) (Bu b (RY _ _))
   ·rcases S8 d with lt|lt
    ·right
     refine⟨r,.head _,fun e=>?_,fun u hu=>?_⟩
     ·have k:=Q6 e (z.2 r.1 lt)
      rw[show f r.1-bG f a r.2 r.1=a*r.2 r.1 from by rw[back r.1];lia] at k;rcases P.two_way _ _ k with k|k
      ·exact b k
      ·exact hr.1 k
     ·rw[back u]
      exact QS (z.2 u ω) (Bu (hr.2 u hu) (Qy _ _))
    ·right
     refine⟨q,.tail _ hq,fun e=>z.1 (k8 e (hr.2 q.1 lt)),fun u hu=>?_⟩;rw[back u];exact QS (z.2 u hu) (Bu (hr.2 u ω) (Qy _ _))
where
 dvd_of {p a x y:Int} (e:p ∣ x) (b:p ∣ a):p ∣ x-a*y:=Q6 e (Bu b (RY _ _))
structure Sm(p:Int)(S:Ch->Ch):Prop where
 lin:∀f a g u,S (bG f a g) u=S f u-a*S g u
 z:∀{f},Z p f->Z p (S f)
structure Row where
 b:Nat
 d:Option Nat
 r:Ch
 g:Ch
structure De(p:Int)(S:Ch->Ch)(T:Nat)(x:Row):Prop where
 born:x.b<T
 yg:Yg p x.r x.b
 cyc:Z p (S x.r)
 gone:∀t,x.d=some t->t<T/\x.b<t/\Yg p x.g t/\∀u,p ∣ S x.g u-x.r u
structure Rows(p:Int)(S:Ch->Ch)(T:Nat)(L:List Row):Prop where
 ok:∀x∈L,De p S T x
 nd:(L.map (·.b)).Nodup
 all:∀t,t<T->(∃x∈L,x.b=t)\/∃x∈L,x.d=some t
 one:∀x∈L,∀y∈L,y.d≠some x.b
 two:∀x∈L,∀y∈L,∀t,x.d=some t->y.d=some t->x=y
def Dg{L:List Row}(a:(L.map (·.b)).Nodup){x y:Row}(hx:x∈L)(hy:y∈L)(e:x.b=y.b):x=y:=by
 induction L with
 |nil=>cases hx
 |cons q L ih=>
  rw[Aw,Qo] at a;rcases Qj.mp hx with rfl|hx'
  ·rcases Qj.mp hy with rfl|hy'
   ·rfl
   ·exact absurd (Qi.mpr ⟨y,hy',e.symm⟩) a.1
  ·rcases Qj.mp hy with rfl|hy'
   ·exact absurd (Qi.mpr ⟨x,hx',e⟩) a.1
   ·exact ih a.2 hx' hy'
noncomputable def dl(t:Nat)(L:List Row):List (Nat×Ch):=(L.filter fun x=>match x.d with|some d=>decide (d<t)|none=>false).map fun x=>(x.b,x.r)
def dl_mem{t:Nat}{q:Nat×Ch}:q∈dl t L↔∃x∈L,∃d,x.d=some d/\d<t/\q=(x.b,x.r):=by
 unfold dl;rw[Qi];constructor
 ·rintro⟨x,hx,rfl⟩
  rw[Qv] at hx;obtain⟨h1,h2⟩:=hx;cases e:x.d with
  |none=>rw[e] at h2;cases h2
  |some d=>rw[e] at h2;exact⟨x,h1,d,e,TN h2,rfl⟩
 ·rintro⟨x,hx,d,e,hd,rfl⟩
  refine⟨x,Qv.mpr ⟨hx,?_⟩,rfl⟩;rw[e];exact TK hd
def dl_nd{t:Nat}{L:List Row}(a:(L.map (·.b)).Nodup):((dl t L).map 2#3).Nodup:=by
 unfold dl;rw[An];exact List.Sublist.nodup (List.Sublist.map _ List.filter_sublist) a
def Dh{p a:Int}{x:Nat×Ch}:∀{L:List (Nat×Ch)}{f g:Ch},x∈L->(∀u,p ∣ bG g a x.2 u-f u)->Sp p L f->Sp p L g
 |r::L,f,g,hx,h,⟨k,hk⟩=>by
  rcases Qj.mp hx with rfl|hx
  ·refine⟨k+a,Dd (fun u=>?_) hk⟩
   have e:bG g (k+a) x.2 u-bG f k x.2 u=bG g a x.2 u-f u:=by
    show g u-(k+a)*x.2 u-(f u-k*x.2 u)=g u-a*x.2 u-f u;rw[Int.add_mul];lia
   rw[e];exact h u
  ·refine⟨k,Dh (a:=a) (f:=bG f k r.2) hx (fun u=>?_) hk⟩
   have e:bG (bG g k r.2) a x.2 u-bG f k r.2 u=bG g a x.2 u-f u:=by
    show g u-k*r.2 u-a*x.2 u-(f u-k*r.2 u)=g u-a*x.2 u-f u;lia
   rw[e];exact h u
def Di{L':List (Nat×Ch)}:∀{L:List (Nat×Ch)}{f:Ch},(∀x∈L,x∈L')->Sp p L f->Sp p L' f
 |[],f,_,h=>k9 h
 |r::L,f,hs,⟨a,h⟩=>Dh (a:=a) (f:=bG f a r.2) (hs r (.head _)) (fun u=>by rw[Int.sub_self];exact QN _) (Di (fun x hx=>hs x (.tail _ hx)) h)
def t7(P:Pr p){T:Nat}(hf:Bl p f (T+1))(b:Yg p g T):∃a:Int,Bl p (bG f a g) T/\(¬p ∣ f T->¬p ∣ a):=by
 obtain⟨k,_,hk⟩:=P.into (g T) (f T) b.1;refine⟨k,fun u hu=>?_,fun c ha=>c ?_⟩
 ·rcases Nat.eq_or_lt_of_le hu with rfl|hu
  ·have:=Int.dvd_neg.mpr hk
   rwa [show -((k:Int)*g T-f T)=bG f k g T from by show _=f T-k*g T;lia] at this
  ·exact k8 (hf u hu) (b.2 u hu)
 ·have h1:p ∣ (k:Int)*g T:=Bu ha (RY _ _)
  have:=Q6 h1 hk
  rwa [show(k:Int)*g T-((k:Int)*g T-f T)=f T from ω] at this
def t8(P:Pr p)(c:Sm p S)(R:Rows p S T L):∀t,t<=T->∀f,Bl p f t->Sp p (dl t L) (S f)
 |0,_,f,hf=>k9 (c.z fun u=>hf u (AL _))
 |t+1,ht,f,hf=>by
  have more:∀x∈dl t L,x∈dl (t+1) L:=fun q hq=>by
   obtain⟨x,hx,d,e,hd,rfl⟩:=dl_mem.mp hq;exact dl_mem.mpr ⟨x,hx,d,e,ω,rfl⟩
  rcases R.all t ht with ⟨x,hx,rfl⟩|⟨x,hx,e⟩
  ·have o:=R.ok x hx
   obtain⟨a,ha,_⟩:=t7 P hf o.yg;refine Dd (fun u=>?_) (Di more (t8 P c R _ ω _ ha));rw[c.lin];rw[show S f u-(S f u-a*S x.r u)=a*S x.r u from ω];exact Bu (o.cyc u) (Qy _ _)
  ·have o:=(R.ok x hx).gone t e
   obtain⟨a,ha,_⟩:=t7 P hf o.2.2.1;refine Dh (a:=a) (x:=(x.b,x.r)) (dl_mem.mpr ⟨x,hx,t,e,ω,rfl⟩) (fun u=>?_) (Di more (t8 P c R _ ω _ ha));rw[c.lin];rw[show bG (S f) a x.r u-(S f u-a*S x.g u)=a*(S x.g u-x.r u) from by show S f u-a*x.r u-(S f u-a*S x.g u)=_;rw[Int.mul_sub];lia];exact Bu (o.2.2.2 u) (Qy _ _)
def NV(P:Pr p)(l:Sm p S)(R:Rows p S T L){t:Nat}(hc:Bl p c T)(A:Z p (S c))(hy:Yg p c t):∃x∈L,x.b=t:=by
 have ht:t<T:=Nat.lt_of_not_le fun z=>hy.1 (hc t z);rcases R.all t ht with h|⟨x,hx,e⟩
 ·exact h
 ·exfalso
  have o:=(R.ok x hx).gone t e;obtain⟨a,ha,hna⟩:=t7 P (T:=t) (f:=c) (g:=x.g) (fun u hu=>hy.2 u hu) o.2.2.1;have v:=hna hy.1;have w:=t8 P l R t ω _ ha;have j:=(R.ok x hx).yg;have eq:∀u,p ∣ S 79#c u+a*x.r u:=fun u=>by
   rw[l.lin];have h1:=k8 (a:=a) (A u) (o.2.2.2 u)
   rwa [show S c u-a*(S x.g u-x.r u)=S c u-a*S x.g u+a*x.r u from by rw[Int.mul_sub];lia] at h1
  have i:Yg p (S 79#c) x.b:=by
   refine⟨fun z=>?_,fun u hu=>?_⟩
   ·have k:=Q6 (eq x.b) z
    rw[show S 79#c x.b+a*x.r x.b-S 79#c x.b=a*x.r x.b from ω] at k;rcases P.two_way _ _ k with k|k
    ·exact v k
    ·exact j.1 k
   ·have k:=Q6 (eq u) (Bu (j.2 u hu) (Qy a (x.r u)))
    rwa [show S 79#c u+a*x.r u-a*x.r u=S 79#c u from ω] at k
  rcases sp_yg P (dl_nd R.nd) (fun q hq=>by
   obtain⟨y,hy',d,e',hd,rfl⟩:=dl_mem.mp hq;exact(R.ok y hy').yg) w with z|⟨q,hq,z⟩
  ·exact i.not_z z
  ·obtain⟨y,hy',d,e',hd,rfl⟩:=dl_mem.mp hq
   have:=Dg R.nd hx hy' (i.uniq z);subst this;rw[e] at e';cases e';lia
def NW(R:Rows p S T L){z g:Ch}(hz:Yg p z T)(hc:Z p (S z)):Rows p S (T+1) (L++[⟨T,none,z,g⟩]):=by
 have up:∀x∈L,De p S (T+1) x:=fun x hx=>by
  have o:=R.ok x hx;exact⟨by have:=o.born;lia,o.yg,o.cyc,fun t e=>by
   obtain⟨a,b⟩:=o.gone t e;exact⟨ω,b⟩⟩
 refine⟨fun x hx=>?_,?_,fun t ht=>?_,fun x hx y hy=>?_,fun x hx y hy t e1 e2=>?_⟩
 ·rcases Qm.mp hx with hx|hx
  ·exact up x hx
  ·rw[Qk.mp hx]
   exact⟨RM _,hz,hc,fun t e=>nomatch e⟩
 ·rw[Ap,BD]
  refine⟨R.nd,by simp,fun a ha b hb=>?_⟩;obtain⟨x,hx,rfl⟩:=Qi.mp ha;have:=(R.ok x hx).born;simp at hb;lia
 ·rcases QM t T with h|h
  ·rcases R.all t h with ⟨x,hx,e⟩|⟨x,hx,e⟩
   ·exact .inl ⟨x,Rk _ hx,e⟩
   ·exact .inr ⟨x,Rk _ hx,e⟩
  ·exact .inl ⟨_,Bh _ (.head _),by show T=t;lia⟩
 ·rcases Qm.mp hy with hy|hy
  ·rcases Qm.mp hx with hx|hx
   ·exact R.one x hx y hy
   ·rw[Qk.mp hx]
    intro e;have:=((R.ok y hy).gone _ e).1;simp at this
  ·rw[Qk.mp hy]
   intro e;cases e
 ·rcases Qm.mp hx with hx|hx
  ·rcases Qm.mp hy with hy|hy
   ·exact R.two x hx y hy t e1 e2
   ·rw[Qk.mp hy] at e2;cases e2
  ·rw[Qk.mp hx] at e1;cases e1
noncomputable def kill(b T:Nat)(r g:Ch)(L:List Row):List Row:=L.map fun x=>if x.b=b then⟨b,some T,r,g⟩ else x
def NX:(kill b T r g L).map (·.b)=L.map (·.b):=by
 unfold kill;rw[An];refine AC fun x _=>?_;show(if x.b=b then(⟨b,some T,r,g⟩:Row) else x).b=x.b
 by_cases e:x.b=b
 ·rw[TH e];exact e.symm
 ·rw[TJ e]
def NY(R:Rows p S T L){c:Row}(f:c∈L)(hd:c.d=none)(hr:Yg p r c.b)(hc:Z p (S r))(l:Yg p g T)(hs:∀u,p ∣ S g u-r u):Rows p S (T+1) (kill c.b T r g L):=by
 have mem:∀y,y∈kill c.b T r g L->y=⟨c.b,some T,r,g⟩\/(y∈L/\y.b≠c.b):=fun y hy=>by
  obtain⟨x,hx,rfl⟩:=Qi.mp hy
  by_cases e:x.b=c.b
  ·rw[TH e];exact .inl rfl
  ·rw[TJ e];exact .inr ⟨hx,e⟩
 have keep:∀x∈L,x.b≠c.b->x∈kill c.b T r g L:=fun x hx e=>Qi.mpr ⟨x,hx,TJ e⟩;have new:(⟨c.b,some T,r,g⟩:Row)∈kill c.b T r g L:=Qi.mpr ⟨c,f,TH rfl⟩;refine⟨fun y hy=>?_,by rw[NX];exact R.nd,fun t ht=>?_,fun x hx y hy=>?_,fun x hx y hy t e1 e2=>?_⟩
 ·rcases mem y hy with rfl|⟨hy,_⟩
  ·exact⟨by have:=(R.ok c f).born;show c.b<T+1;lia,hr,hc,fun t e=>by
    cases e;exact⟨RM _,(R.ok c f).born,l,hs⟩⟩
  ·have o:=R.ok y hy
   exact⟨by have:=o.born;lia,o.yg,o.cyc,fun t e=>by
    obtain⟨a,b⟩:=o.gone t e;exact⟨ω,b⟩⟩
 ·rcases QM t T with h|h
  ·rcases R.all t h with ⟨x,hx,e⟩|⟨x,hx,e⟩
   ·by_cases i:x.b=c.b
    ·exact .inl ⟨_,new,by show c.b=t;lia⟩
    ·exact .inl ⟨x,keep x hx i,e⟩
   ·refine .inr ⟨x,keep x hx fun i=>?_,e⟩
    have:=Dg R.nd hx f i;subst this;rw[hd] at e;cases e
  ·exact .inr ⟨_,new,by show some T=some t;rw[show T=t from ω]⟩
 ·rcases mem x hx with rfl|⟨hx,nx⟩
  ·rcases mem y hy with rfl|⟨hy,j⟩
   ·intro e
    have:=(R.ok c f).born;have e':T=c.b:=Ai e;lia
   ·exact R.one c f y hy
  ·rcases mem y hy with rfl|⟨hy,j⟩
   ·intro e
    have:=(R.ok x hx).born;cases e;lia
   ·exact R.one x hx y hy
 ·rcases mem x hx with rfl|⟨hx,nx⟩
  ·rcases mem y hy with rfl|⟨hy,j⟩
   ·rfl
   ·cases e1
    have:=((R.ok y hy).gone _ e2).1;lia
  ·rcases mem y hy with rfl|⟨hy,j⟩
   ·cases e2
    have:=((R.ok x hx).gone _ e1).1;lia
   ·exact R.two x hx y hy t e1 e2
structure WO(p:Int)(S:Ch->Ch)(T:Nat)(left fill:Ch):Prop where
 sm:∀u,p ∣ S fill u-left u
 yg:Yg p fill T
 bl:Bl p left T
def WO.closed(W:WO p S T l f)(a:Sm p S)(b:Z p (S (S f))):Z p (S l):=fun u=>by
 have h:=a.z (f:=bG (S f) 1 l) (fun u=>by show p ∣ S f u-1*l u;rw[Int.one_mul];exact W.sm u) u;rw[a.lin,Int.one_mul] at h;have:=Q6 (b u) h
 rwa [show S (S f) u-(S (S f) u-S l u)=S l u from ω] at this
def WO.step(c:Sm p S)(R:Rows p S T L)(W:WO p S T l f){x:Row}(hx:x∈L)(hd:x.d=some d)(hy:Yg p l x.b){k:Int}(hk:p ∣ k*x.r x.b-l x.b):WO p S T (bG l k x.r) (bG f k x.g)/\Bl p (bG l k x.r) x.b:=by
 have o:=R.ok x hx;obtain⟨g1,g2,g3,g4⟩:=o.gone d hd;refine⟨⟨fun u=>?_,⟨fun z=>W.yg.1 (NU z (g3.2 T g1)),fun u hu=>k8 (W.yg.2 u hu) (g3.2 u ω)⟩,fun u hu=>k8 (W.bl u hu) (o.yg.2 u (by have:=o.born;lia))⟩,fun u hu=>?_⟩
 ·rw[c.lin]
  have:=k8 (a:=k) (W.sm u) (g4 u)
  rwa [show S f u-l u-k*(S x.g u-x.r u)=S f u-k*S x.g u-bG l k x.r u from by show _=S f u-k*S x.g u-(l u-k*x.r u);rw[Int.mul_sub];lia] at this
 ·rcases Nat.eq_or_lt_of_le hu with rfl|hu
  ·have:=Int.dvd_neg.mpr hk
   rwa [show -(k*x.r x.b-l x.b)=bG l k x.r x.b from by show _=l x.b-k*x.r x.b;lia] at this
  ·exact k8 (hy.2 u hu) (o.yg.2 u hu)
end Bar
end
section
namespace Bar
noncomputable def cF(cs:List (List Int×Int))(q:List Int):Int:=((cs.find? fun c=>decide (c.1=q)).map 0#17).getD 0
def G3(c:List Int×Int)(r:List (List Int×Int))(x:List Int):cF (c::r) x=if c.1=x then c.2 else cF r x:=by
 unfold cF;rw[Qw]
 by_cases e:c.1=x
 ·rw[TK e,TH e];rfl
 ·rw[TL e,TJ e]
def G4{x:List Int}:∀{cs:List (List Int×Int)},x∉cs.map 2#3->cF cs x=0
 |[],_=>rfl
 |c::r,h=>by
  rw[Aw,Qj,not_or] at h;rw[G3,TJ (Ne.symm h.1),G4 h.2]
def ub{a:Type}(f g:a->Int):∀l:List a,(l.map fun x=>f x+g x).sum=(l.map f).sum+(l.map g).sum
 |[]=>rfl
 |x::l=>by rw[Aw,QW,Aw,QW,Aw,QW,ub f g l];lia
def ue{b:Type}(a:Int)(f:b->Int):∀l:List b,(l.map fun x=>a*f x).sum=a*(l.map f).sum
 |[]=>by simp
 |x::l=>by rw[Aw,QW,Aw,QW,ue a f l,Int.mul_add]
def ug{a:Type}:∀l:List a,(l.map fun _=>(0:Int)).sum=0
 |[]=>rfl
 |x::l=>by rw[Aw,QW,ug l];rfl
def G5{a:Type}{p:Int}(f:a->Int):∀l:List a,(∀x∈l,p ∣ f x)->p ∣ (l.map f).sum
 |[],_=>QN _
 |x::l,h=>by rw[Aw,QW];exact QS (h x (.head _)) (G5 f l fun y hy=>h y (.tail _ hy))
def G6{a b:Type}(f:a->b->Int)(m:List b):∀l:List a,(l.map fun x=>(m.map fun y=>f x y).sum).sum=(m.map fun y=>(l.map fun x=>f x y).sum).sum
 |[]=>by simp only[SN,List.sum_nil];exact(ug m).symm
 |x::l=>by
  rw[Aw,QW,G6 f m l,<-ub]
  congr 1
def G7{e:List Int->Int}{v:Int}:∀{l:Ξ},l.Nodup->(l.map fun x=>if q=x then v*e x else 0).sum=if q∈l then v*e q else 0
 |[],_=>by simp
 |x::l,nd=>by
  rw[Qo] at nd;rw[Aw,QW,G7 nd.2]
  by_cases h:q=x
  ·subst h
   rw[TH rfl,TJ nd.1,TH Av];lia
  ·rw[TJ h]
   by_cases k:q∈l
   ·rw[TH k,TH (Ar _ k)];lia
   ·rw[TJ k,TJ (fun z=>(Qj.mp z).elim h k)];rfl
def Dj{oo:Ξ}(a:oo.Nodup)(e:List Int->Int):∀{cs:List (List Int×Int)},(cs.map 2#3).Nodup->(∀c∈cs,c.1∈oo)->(cs.map fun c=>c.2*e c.1).sum=(oo.map fun x=>cF cs x*e x).sum
 |[],_,_=>by
  have:(oo.map fun x=>cF [] x*e x)=oo.map fun _=>(0:Int):=AC fun x _=>by show 0*e x=0;rw[Int.zero_mul]
  rw[this,ug];rfl
 |c::r,hn,hs=>by
  rw[Aw,Qo] at hn;rw[Aw,QW,Dj a e hn.2 fun d hd=>hs d (.tail _ hd)];have e1:(oo.map fun x=>cF (c::r) x*e x)=oo.map fun x=>(if c.1=x then c.2*e x else 0)+cF r x*e x:=by
   refine AC fun x _=>?_;rw[G3]
   by_cases h:c.1=x
   ·rw[TH h,TH h,<-h,G4 hn.1];lia
   ·rw[TJ h,TJ h];lia
  rw[e1,ub,G7 a,TH (hs c (.head _))]
noncomputable def cat(oo:Ξ)(F:List Int->Int):Ch:=fun u=>match oo[u]? with
 |some x=>F x
 |none=>0
def G8{oo:Ξ}{u:Nat}(h:oo[u]?=some x):cat oo F u=F x:=by unfold cat;rw[h]
def NZ{oo:Ξ}{u:Nat}(h:oo.length<=u):cat oo F u=0:=by unfold cat;rw[Bc h]
noncomputable def sm(oo:Ξ)(tau:List Int->List Int->Int)(f:Ch):Ch:=fun u=>match oo[u]? with
 |some y=>(oo.zipIdx.map fun q=>f q.2*tau q.1 y).sum
 |none=>0
def N0(oo:Ξ)(tau:List Int->List Int->Int)(f:Ch)(a:Int)(g:Ch)(u:Nat):sm oo tau (bG f a g) u=sm oo tau f u-a*sm oo tau g u:=by
 unfold sm;cases e:oo[u]? with
 |none=>show(0:Int)=0-a*0;lia
 |some y=>
  show(oo.zipIdx.map fun q=>bG f a g q.2*tau q.1 y).sum=(oo.zipIdx.map fun q=>f q.2*tau q.1 y).sum-a*(oo.zipIdx.map fun q=>g q.2*tau q.1 y).sum;have e1:(oo.zipIdx.map fun q=>bG f a g q.2*tau q.1 y)=oo.zipIdx.map fun q=>f q.2*tau q.1 y+(-a)*(g q.2*tau q.1 y):=by
   refine AC fun q _=>?_;show(f q.2-a*g q.2)*tau q.1 y=_;rw[Int.sub_mul,Int.mul_assoc,Int.neg_mul];lia
  rw[e1,ub,ue,Int.neg_mul];lia
def mY(p:Int)(oo:Ξ)(tau:List Int->List Int->Int):Sm p (sm oo tau):=by
 refine⟨fun f a g u=>N0 oo tau f a g u,fun{f} h u=>?_⟩;unfold sm;cases e:oo[u]? with
 |none=>exact QN _
 |some y=>exact G5 _ _ fun q _=>Bu (h q.2) (RY _ _)
def g0{oo:Ξ}{q:List Int×Nat}(h:q∈oo.zipIdx):oo[q.2]?=some q.1:=by
 have:=List.mem_zipIdx_iff_getElem? (x:=q) (l:=oo);exact this.mp h
def N1{oo:Ξ}(a:oo.Nodup){tau:List Int->List Int->Int}{cs:List (List Int×Int)}(b:(cs.map 2#3).Nodup)(hs:∀c∈cs,c.1∈oo){u:Nat}(h:oo[u]?=some y):sm oo tau (cat oo (cF cs)) u=(cs.map fun c=>c.2*tau c.1 y).sum:=by
 rw[Dj a (fun x=>tau x y) b hs];unfold sm;rw[h];show(oo.zipIdx.map fun q=>cat oo (cF cs) q.2*tau q.1 y).sum=_;have e1:(oo.zipIdx.map fun q=>cat oo (cF cs) q.2*tau q.1 y)=oo.zipIdx.map ((fun x=>cF cs x*tau x y) ∘ Prod.fst):=AC fun q hq=>by
  show cat oo (cF cs) q.2*tau q.1 y=cF cs q.1*tau q.1 y;rw[G8 (g0 hq)]
 rw[e1,<-An,Se]
def N2{oo:Ξ}{tau:List Int->List Int->Int}(hdd:∀x∈oo,∀y∈oo,(oo.map fun z=>tau x z*tau z y).sum=0)(f:Ch)(u:Nat):sm oo tau (sm oo tau f) u=0:=by
 show(match oo[u]? with|some y=>(oo.zipIdx.map fun q:List Int×Nat=>sm oo tau f q.2*tau q.1 y).sum|none=>(0:Int))=0;cases e:oo[u]? with
 |none=>rfl
 |some y=>
  show(oo.zipIdx.map fun q=>sm oo tau f q.2*tau q.1 y).sum=0;have hy:=Ak e;have e1:(oo.zipIdx.map fun q=>sm oo tau f q.2*tau q.1 y)=oo.zipIdx.map fun q=>(oo.zipIdx.map fun r=>f r.2*(tau r.1 q.1*tau q.1 y)).sum:=AC fun q hq=>by
   have e2:sm oo tau f q.2=(oo.zipIdx.map fun r=>f r.2*tau r.1 q.1).sum:=by
    show(match oo[q.2]? with|some y=>(oo.zipIdx.map fun r:List Int×Nat=>f r.2*tau r.1 y).sum|none=>(0:Int))=_;rw[g0 hq]
   rw[e2,Int.mul_comm,<-ue]
   congr 1
   refine AC fun r _=>?_;rw[Int.mul_comm,Int.mul_assoc]
  rw[e1,G6];have e3:(oo.zipIdx.map fun r=>(oo.zipIdx.map fun q=>f r.2*(tau r.1 q.1*tau q.1 y)).sum)=oo.zipIdx.map fun _=>(0:Int):=AC fun r hr=>by
   have hx:=Ak (g0 hr);rw[ue];have a:(oo.zipIdx.map fun q=>tau r.1 q.1*tau q.1 y)=oo.zipIdx.map ((fun z=>tau r.1 z*tau z y) ∘ Prod.fst):=rfl;rw[a,<-An,Se,hdd _ hx _ hy,Tv]
  rw[e3,ug]
end Bar
end
section
namespace K67
open K1
open PySem L2 STb
def G9{g:Int->Int}(a:g 0=0)(x:List Int):∀cs:Ch,aR (cs.map fun c=>(c.1,g c.2)) x=g (aR cs x)
 |[]=>a.symm
 |c::r=>by
  rw[Aw,zN,zN,G9 a x r];split<;>rfl
def N3(g:List Int×Int->Int)(cs:Ch):ksC (cs.map fun c=>(c.1,g c))=ksC cs:=by unfold ksC;rw[An];rfl
def Dl{g:Int->Int}(a:g 0=0)(b:(ksC cs).Nodup)(x:List Int):c7 (cs.map fun c=>(c.1,g c.2)) x=g (aR cs x):=by
 rw[Db (by rw[N3 fun c=>g c.2];exact b),G9 a]
def Dm{ts:Ch}{c:List Int×Int}(h:c∈db ts):∃t∈ts,t.1=c.1:=by
 obtain⟨h1,h2⟩:=GZ h;exact NG (by rw[h2];exact h1)
noncomputable def md(p:Int)(cs:Ch):Ch:=db (cs.map fun c=>(c.1,c.2%p))
def G_(a:(ksC cs).Nodup)(x:List Int):aR (md p cs) x=aR cs x%p:=by
 unfold md;rw[tS,Dl (g:=fun v=>v%p) (Int.zero_emod p) a]
structure ChP(p:Int)(cs:Ch):Prop where
 nd:(ksC cs).Nodup
 lo:∀c∈cs,1<=c.2/\c.2<p
def G'{p:Int}(hp:0<p)(a:(ksC cs).Nodup):ChP p (md p cs):=by
 refine⟨jG _,fun c hc=>?_⟩;obtain⟨h1,h2⟩:=GZ hc;rw[Dl (g:=fun v=>v%p) (Int.zero_emod p) a] at h2;have:=Rp (aR cs c.1) (b:=p) ω;have:=Q4 (aR cs c.1) hp;have h2:aR cs c.1%p=c.2:=h2;lia
def Ha{q:List Int}(h:q∈ksC (md p cs)):q∈ksC cs:=by
 obtain⟨c,hc,rfl⟩:=Qi.mp h;obtain⟨t,ht,e⟩:=Dm hc;obtain⟨d,hd,rfl⟩:=Qi.mp ht;exact e▸Qi.mpr ⟨d,hd,rfl⟩
def N4(h:aR cs x≠0):x∈ksC cs:=A1 fun z=>h (jF z)
def ChP.range{p:Int}(hp:0<p)(h:ChP p cs)(x:List Int):0<=aR cs x/\aR cs x<p:=by
 by_cases e:x∈ksC cs
 ·obtain⟨c,hc,rfl⟩:=Qi.mp e
  rw[mR h.nd c hc];have:=h.lo c hc;lia
 ·rw[jF e];lia
def ChP.at(h:ChP p cs){x:List Int}(hx:x∈ksC cs):1<=aR cs x/\aR cs x<p:=by
 obtain⟨c,hc,rfl⟩:=Qi.mp hx;rw[mR h.nd c hc];exact h.lo c hc
noncomputable def less(p:Int)(a:Ch)(k:Int)(b:Ch):Ch:=md p (db (a++b.map fun c=>(c.1,-k*c.2)))
def less_get{p k:Int}(c:(ksC a).Nodup)(d:(ksC b).Nodup)(x:List Int):aR (less p a k b) x=(aR a x-k*aR b x)%p:=by
 unfold less;rw[G_ (jG _),tS,GW,Db c,Dl (g:=fun v=>-k*v) (Tv _) d,Int.neg_mul]
 rfl
def Hb{p:Int}(hp:0<p){k:Int}:ChP p (less p a k b):=G' hp (jG _)
def less_key{p k:Int}{q:List Int}(h:q∈ksC (less p a k b)):q∈ksC a\/q∈ksC b:=by
 have h:=Ha h;obtain⟨c,hc,rfl⟩:=Qi.mp h;obtain⟨t,ht,e⟩:=Dm hc;rcases Qm.mp ht with ht|ht
 ·exact .inl (e▸Qi.mpr ⟨t,ht,rfl⟩)
 ·obtain⟨d,hd,rfl⟩:=Qi.mp ht
  exact .inr (e▸Qi.mpr ⟨d,hd,rfl⟩)
noncomputable abbrev sb(p:Int)(cs:Ch):Ch:=md p (Da cs)
def N5(cs:Ch)(x:List Int):aR (sb p cs) x=lin cs x%p:=by rw[G_ (jG _),NL]
def Hc{q:List Int}(h:q∈ksC (sb p cs)):∃c∈cs,q∈rims c.1:=by
 have h:=Ha h;obtain⟨c,hc,rfl⟩:=Qi.mp h;obtain⟨t,ht,e⟩:=Dm hc;obtain⟨d,hd,ht⟩:=Qu.mp ht;refine⟨d,hd,?_⟩;rw[<-C8 d.1 d.2,<-e];exact Qi.mpr ⟨t,ht,rfl⟩
structure gu(oo:Ξ):Prop where
 o:cT oo
 nd:oo.Nodup
 rim:∀q∈oo,∀r∈rims q,r∈oo
 le:∀q∈oo,q.length<=5
 pn:∀q∈oo,q.Nodup
def N6(h:cT oo):gu oo:=
 ⟨h,NP h,fun q hq=>(Dc h hq).2,fun q hq=>(k5.mp (Dc h hq).1).2.1,fun q hq=>by
  have:=(k5.mp (Dc h hq).1);exact List.Pairwise.imp (fun h=>ω) this.2.2.2⟩
noncomputable abbrev aX(oo:Ξ)(cs:Ch):Bar.Ch:=Bar.cat oo (aR cs)
def hX{oo:Ξ}{u:Nat}(h:oo[u]?=some x):aX oo cs u=aR cs x:=Bar.G8 h
def jH{oo:Ξ}{u:Nat}(h:oo.length<=u):aX oo cs u=0:=Bar.NZ h
noncomputable abbrev So(oo:Ξ):Bar.Ch->Bar.Ch:=Bar.sm oo tau
section
variable{p:Int}{oo:Ξ}{cs:Ch}
def N7(O:gu oo)(b:(ksC cs).Nodup)(a:∀q∈ksC cs,q∈oo){u:Nat}(h:oo[u]?=some y):So oo (aX oo cs) u=lin cs y:=
 Bar.N1 (tau:=tau) O.nd b (fun c hc=>a _ (Qi.mpr ⟨c,hc,rfl⟩)) h
def hdd(O:gu oo):∀x∈oo,∀y∈oo,(oo.map fun z=>tau x z*tau z y).sum=0:=fun x hx y hy=>by
 have a:(ksC (cS x 1)).Nodup:=by rw[C8];exact NH (O.pn x hx)
 have h:=Bar.Dj O.nd (fun z=>tau z y) (cs:=cS x 1) a (fun c hc=>O.rim x hx _ (by rw[<-C8 x 1];exact Qi.mpr ⟨c,hc,rfl⟩));have h2:lin (cS x 1) y=0:=NM y x (O.le x hx);have e:(oo.map fun z=>tau x z*tau z y)=oo.map fun z=>Bar.cF (cS x 1) z*tau z y:=AC fun z _=>by
  show c7 (cS x 1) z*_=aR (cS x 1) z*_;rw[Db a]
 rw[e,<-h];exact h2
def Hd(a p:Int):p ∣ a-a%p:=⟨a / p,by have:=Int.emod_add_mul_ediv a p;lia⟩
def N8(O:gu oo)(b:(ksC cs).Nodup)(a:∀q∈ksC cs,q∈oo)(u:Nat):p ∣ So oo (aX oo cs) u-aX oo (sb p cs) u:=by
 cases e:oo[u]? with
 |none=>
  have h1:So oo (aX oo cs) u=0:=by
   show(match oo[u]? with|some y=>(oo.zipIdx.map fun q:List Int×Nat=>aX oo cs q.2*tau q.1 y).sum|none=>(0:Int))=0;rw[e]
  rw[h1,jH 6#e];exact QN _
 |some y=>
  rw[N7 O b a e,hX e,N5];exact Hd _ _
def Dn{k:Int}(c:(ksC a).Nodup)(d:(ksC b).Nodup)(u:Nat):p ∣ Bar.bG (aX oo a) k (aX oo b) u-aX oo (less p a k b) u:=by
 show p ∣ aX oo a u-k*aX oo b u-aX oo (less p a k b) u;cases e:oo[u]? with
 |none=>
  have h:oo.length<=u:=by simpa using e
  rw[jH h,jH h,jH h,Tv];exact QN _
 |some y=>
  rw[hX e,hX e,hX e,less_get c d];exact Hd _ _
abbrev Cg(p:Int)(f g:Bar.Ch):Prop:=∀u,p ∣ f u-g u
def Cg.dvd(h:Cg p f g)(u:Nat):p ∣ f u↔p ∣ g u:=by
 constructor
 ·intro z
  have:=Q6 z (h u)
  rwa [show f u-(f u-g u)=g u from ω] at this
 ·intro z
  have:=QS (h u) z
  rwa [show f u-g u+g u=f u from ω] at this
def Cg.yg(h:Cg p f g){t:Nat}(y:Bar.Yg p f t):Bar.Yg p g t:=⟨fun z=>y.1 ((h.dvd t).mpr z),fun u hu=>(h.dvd u).mp (y.2 u hu)⟩
def Cg.bl(h:Cg p f g){t:Nat}(y:Bar.Bl p f t):Bar.Bl p g t:=fun u hu=>(h.dvd u).mp (y u hu)
def Cg.z(h:Cg p f g)(y:Bar.Z p f):Bar.Z p g:=fun u=>(h.dvd u).mp (y u)
def Cg.s(h:Cg p f g):Cg p (So oo f) (So oo g):=fun u=>by
 have e:=(Bar.mY p oo tau).z (f:=Bar.bG f 1 g) (fun u=>by show p ∣ f u-1*g u;rw[Int.one_mul];exact h u) u;rw[(Bar.mY p oo tau).lin,Int.one_mul] at e;exact e
def N9(W:Bar.WO p (So oo) T l f)(g:Cg p l d)(hf:Cg p f e):Bar.WO p (So oo) T d e:=by
 refine⟨fun u=>?_,hf.yg W.yg,g.bl W.bl⟩;have a:=W.sm u;have b:=hf.s (oo:=oo) u;have c:=g u;have:=QS (Q6 a b) c
 rwa [show So oo f u-l u-(So oo f u-So oo e u)+(l u-d u)=So oo e u-d u from ω] at this
def He(O:gu oo)(h:ChP p cs)(hp:0<p){t:Nat}{y:List Int}(hy:y∈ksC cs)(ht:oo[t]?=some y)(hm:∀x∈ksC cs,∀u,oo[u]?=some x->u<=t):Bar.Yg p (aX oo cs) t:=by
 refine⟨fun z=>?_,fun u hu=>?_⟩
 ·rw[hX ht] at z
  have:=h.at hy;have:=Int.le_of_dvd ω z;lia
 ·cases e:oo[u]? with
  |none=>rw[jH 6#e];exact QN _
  |some x=>
   rw[hX e];have:x∉ksC cs:=fun hx=>by have:=hm x hx u e;lia
   rw[jF this];exact QN _
def N_{t:Nat}(h:Bar.Yg p (aX oo cs) t):∃y,oo[t]?=some y/\y∈ksC cs:=by
 cases e:oo[t]? with
 |none=>exact absurd (by rw[jH 6#e];exact QN _) h.1
 |some x=>
  refine⟨x,rfl,N4 fun z=>h.1 ?_⟩;rw[hX e,z];exact QN _
def Oa:Bar.Z p (aX oo []):=fun u=>by
 cases e:oo[u]? with
 |none=>rw[jH 6#e];exact QN _
 |some x=>rw[hX e];exact QN _
end
structure a_ where
 hi:Int
 b:Nat
 d:Option Nat
 c:Ch
 g:Ch
structure Do(p:Int)(oo:Ξ)(x:a_):Prop where
 c:ChP p x.c
 ci:∀q∈ksC x.c,q∈oo/\(q.length:Int)=x.hi+1
 g:∀t,x.d=some t->ChP p x.g/\∀q∈ksC x.g,q∈oo/\(q.length:Int)=x.hi+2
noncomputable abbrev hZ(oo:Ξ)(x:a_):Bar.Row:=⟨x.b,x.d,aX oo x.c,aX oo x.g⟩
structure dG(p:Int)(oo:Ξ)(T:Nat)(L:List a_):Prop where
 ok:∀x∈L,Do p oo x
 rows:Bar.Rows p (So oo) T (L.map (hZ oo))
 srt:(L.map (·.b)).Pairwise (·<·)
def Ob:dG p oo 0 []:=⟨(fun x hx=>nomatch hx),⟨(fun x hx=>nomatch hx),BC,(fun t ht=>absurd ht (RG _)),(fun x hx=>nomatch hx),(fun x hx=>nomatch hx)⟩,List.Pairwise.nil⟩
noncomputable def e8(L:List a_)(x:a_):List a_:=L.map fun y=>if y.b=x.b then x else y
structure Wk(p:Int)(oo:Ξ)(T:Nat)(q:List Int)(left fill:Ch):Prop where
 l:ChP p left
 li:∀k∈ksC left,k∈oo/\k.length+1=q.length
 f:ChP p fill
 fi:∀k∈ksC fill,k∈oo/\k.length=q.length
 wo:Bar.WO p (So oo) T (aX oo left) (aX oo fill)
section
variable{p:Int}{oo:Ξ}{T:Nat}{q:List Int}{left fill:Ch}{L:List a_}
def Oc{q r:List Int}(h:r∈rims q):r.length+1=q.length:=by
 obtain⟨h1,k,hk,rfl⟩:=FX.mp h;rw[Az,AE,Qx];lia
def Hf(O:gu oo)(hp:2<=p)(hT:oo[T]?=some q):Wk p oo T q (sb p [(q,1)]) [(q,1)]:=by
 have hq:q∈oo:=Ak hT;have d:(ksC [(q,(1:Int))]).Nodup:=by simp[ksC]
 have hf:ChP p [(q,1)]:=⟨d,fun c hc=>by rw[Qk.mp hc];exact⟨QG _,by show(1:Int)<p;lia⟩⟩;have hk:∀k∈ksC [(q,(1:Int))],k=q:=fun k hk=>by simpa[ksC] using hk
 refine⟨G' ω (jG _),fun k hk'=>?_,hf,fun k hk'=>by rw[hk k hk'];exact⟨hq,rfl⟩,⟨fun u=>N8 O d (fun k hk'=>by rw[hk k hk'];exact hq) u,?_,fun u hu=>?_⟩⟩
 ·obtain⟨c,hc,hr⟩:=Hc hk'
  rw[Qk.mp hc] at hr;exact⟨O.rim q hq k hr,Oc hr⟩
 ·refine He O hf ω (y:=q) (by simp[ksC]) hT fun x hx u e=>?_
  rw[hk x hx] at e;obtain⟨h1,e1⟩:=BK.mp e;have:=(Rm h1 O.nd).mp (e.trans hT.symm);lia
 ·cases e:oo[u]? with
  |none=>rw[jH 6#e];exact QN _
  |some y=>
   rw[hX e];have f:y∉ksC (sb p [(q,1)]):=fun hy=>by
    obtain⟨c,hc,hr⟩:=Hc hy;rw[Qk.mp hc] at hr;have b:=(t4.mp (O.o T q hT)).2.2 y hr;obtain⟨j,a⟩:=Ql.mp b;have g:j<T:=by
     have:=(69#a).1;rw[AE] at this;lia
    rw[QU g] at a;obtain⟨h1,_⟩:=BK.mp a;have:=(Rm h1 O.nd).mp (a.trans e.symm);lia
   rw[jF f];exact QN _
def Wk.cyc(O:gu oo)(W:Wk p oo T q left fill):Bar.Z p (So oo (aX oo left)):=
 W.wo.closed (Bar.mY p oo tau) fun u=>by rw[show So oo (So oo (aX oo fill)) u=0 from Bar.N2 (hdd O) _ _];exact QN _
def Od(P:Bar.Pr p)(O:gu oo)(R:dG p oo T L)(W:Wk p oo T q left fill){t:Nat}(hy:Bar.Yg p (aX oo left) t):∃x∈L,x.b=t:=by
 obtain⟨x,hx,e⟩:=Bar.NV P (Bar.mY p oo tau) R.rows W.wo.bl (W.cyc O) hy;obtain⟨y,hy,rfl⟩:=Qi.mp hx;exact⟨y,hy,e⟩
def gz(R:dG p oo T L){x:a_}(hx:x∈L):Bar.De p (So oo) T (hZ oo x):=R.rows.ok _ 84#hx
def uh(R:dG p oo T L){x:a_}(hx:x∈L):∃y,oo[x.b]?=some y/\y∈ksC x.c:=N_ (gz R hx).yg
def Oe(hp:0<p)(R:dG p oo T L)(W:Wk p oo T q left fill){x:a_}(hx:x∈L)(hd:x.d=some e)(hy:Bar.Yg p (aX oo left) x.b)(ht:oo[x.b]?=some y)(i:y∈ksC left){k:Int}(hk:p ∣ k*aR x.c y-aR left y):Wk p oo T q (less p left k x.c) (less p fill k x.g)/\Bar.Bl p (aX oo (less p left k x.c)) x.b:=by
 have o:=R.ok x hx;obtain⟨j,r⟩:=o.g e hd;have hsz:x.hi+2=q.length:=by
  obtain⟨w,h1,h2⟩:=uh R hx;rw[ht] at h1;cases h1;have a:=(o.ci y h2).2;have b:=(W.li y i).2;lia
 obtain⟨u,v⟩:=Bar.WO.step (Bar.mY p oo tau) R.rows W.wo (x:=hZ oo x) (d:=e) 84#hx hd hy (k:=k) (by show p ∣ k*aX oo x.c x.b-aX oo left x.b;rw[hX ht,hX ht];exact hk);refine⟨⟨Hb hp,fun z hz=>?_,Hb hp,fun z hz=>?_,N9 u (Dn W.l.nd o.c.nd) (Dn W.f.nd j.nd)⟩,Cg.bl (Dn W.l.nd o.c.nd) v⟩
 ·rcases less_key hz with h|h
  ·exact W.li z h
  ·obtain⟨a,b⟩:=o.ci z h
   exact⟨a,ω⟩
 ·rcases less_key hz with h|h
  ·exact W.fi z h
  ·obtain⟨a,b⟩:=r z h
   exact⟨a,ω⟩
def Of(O:gu oo)(R:dG p oo T L)(W:Wk p oo T q [] fill):dG p oo (T+1) (L++[⟨(q.length:Int)-1,T,none,fill,[]⟩]):=by
 refine⟨fun x hx=>?_,?_,?_⟩
 ·rcases Qm.mp hx with hx|hx
  ·exact R.ok x hx
  ·rw[Qk.mp hx]
   exact⟨W.f,fun k hk=>⟨(W.fi k hk).1,by have:=(W.fi k hk).2;show(k.length:Int)=(q.length:Int)-1+1;lia⟩,fun t e=>nomatch e⟩
 ·rw[Ap]
  refine Bar.NW R.rows (z:=aX oo fill) (g:=aX oo []) W.wo.yg fun u=>?_;have h1:=W.wo.sm u;have h2:=Oa (p:=p) (oo:=oo) u;have:=QS h1 h2
  rwa [show So oo (aX oo fill) u-aX oo [] u+aX oo [] u=So oo (aX oo fill) u from ω] at this
 ·rw[Ap,List.pairwise_append]
  refine⟨R.srt,List.pairwise_singleton _ _,fun a ha b hb=>?_⟩;obtain⟨x,hx,rfl⟩:=Qi.mp ha;rw[Aw,SN,Bm] at hb;have:=(gz R hx).born;rw[hb];exact this
def Og:(e8 L a).map (·.b)=L.map (·.b):=by
 unfold e8;rw[An];refine AC fun y _=>?_;show(if y.b=a.b then a else y).b=y.b
 by_cases e:y.b=a.b
 ·rw[TH e];exact e.symm
 ·rw[TJ e]
def Oh(O:gu oo)(R:dG p oo T L)(W:Wk p oo T q left fill){x:a_}(hx:x∈L)(hd:x.d=none)(hy:Bar.Yg p (aX oo left) x.b):dG p oo (T+1) (e8 L ⟨(q.length:Int)-2,x.b,some T,left,fill⟩):=by
 refine⟨fun y hy=>?_,?_,?_⟩
 ·obtain⟨z,hz,rfl⟩:=Qi.mp hy
  by_cases e:z.b=x.b
  ·rw[TH e]
   refine⟨W.l,fun k hk=>⟨(W.li k hk).1,?_⟩,fun t _=>⟨W.f,fun k hk=>⟨(W.fi k hk).1,?_⟩⟩⟩
   ·have:=(W.li k hk).2
    show(k.length:Int)=(q.length:Int)-2+1;lia
   ·have:=(W.fi k hk).2
    show(k.length:Int)=(q.length:Int)-2+2;lia
  ·rw[TJ e];exact R.ok z hz
 ·have e:(e8 L ⟨(q.length:Int)-2,x.b,some T,left,fill⟩).map (hZ oo)=Bar.kill (hZ oo x).b T (aX oo left) (aX oo fill) (L.map (hZ oo)):=by
   unfold e8 Bar.kill;rw[An,An];refine AC fun y _=>?_;show hZ oo (if y.b=x.b then _ else y)=if y.b=x.b then _ else hZ oo y
   by_cases e:y.b=x.b
   ·rw[TH e,TH e]
   ·rw[TJ e,TJ e]
  rw[e];exact Bar.NY R.rows 84#hx hd hy (W.cyc O) W.wo.yg W.wo.sm
 ·rw[Og];exact R.srt
end
end K67
end
section
namespace L2
open PySem PySem.Spec PyProof.Rows
section
variable{X:Cx}{aa:Ψ}{σ:St}{H:Hp}{s:Shared}
def Oi{as:List Addr}{ns:List Int}{R:Result->Shared->Prop}(hh:X.A.handled=none)(hl:SqL X.K H l 2#2)(aE:ns.length=as.length)(P:bb X aa H S)(p:bb X aa H I)(E:S≠I)(lJ:l≠I)(run:∀s',Inv X aa σ H s'->∀(j:Nat) a n,as[j]?=some a->ns[j]?=some n->codeAny 0#1 X.A.in1 (.call 5#f ⟨[.ref a],[]⟩) (fun r x=>∃v,r=.ok (.ret v)/\CE X.stack X.prog X.w H s' (fun v H'=>v=.int n/\H'=H) v x) s')(hR:∀(j:Nat) a n s',Inv X aa σ H s'->as[j]?=some a->ns[j]?=some n->(∀m∈ns,m<=n)->R (.ok (.ret 5#a)) s'):∀(r j i:Nat)(s':Shared)(a:Addr)(n:Int)(t:Tok)(c:Nat),as.length-(j+1)=r->j+1<=as.length->Inv X aa σ H s'->s'.heap.get? S=some (seqObj "list" #[.ref a,.int n t] c)->
   s'.heap.IsListIter I l (j+1)->as[i]?=some a->ns[i]?=some n->(∀(h:Nat) m,h<=j->ns[h]?=some m->m<=n)->
   codeAny 0#1 X.A (.builtin "max.loop" ⟨[.ref I,.ref f,.ref S],[]⟩) R s':=by
 have g:(toString "max"++toString ".loop":String)="max.loop":=ξ
 have W:=Walks.list (prog:=X.prog) (w:=X.w) (A:=X.A.in1) hh I l lJ (1#4).toArray;have hsz:(1#4).toArray.size=as.length:=by rw[Aj,Ab]
 have L:∀s',Inv X aa σ H s'->s'.heap.IsList l (1#4).toArray:=fun s' Ik=>by
  obtain⟨ae,r1,p1,_⟩:=Ik.list hl;obtain rfl:=aG r1;exact p1.isList
 intro r
 induction r with
 |zero=>
  intro j i s' a n t c hr hj Ik G Q T U N;have hin:j+1=as.length:=ω
  refine A7 SC ?_;rw[A4 QO _];show wpAny _ X.A.in1 (seqItems? 5#S >>= _) _ _ _;refine Aa (BB G rfl ?_);show wpAny _ X.A.in1 (tryCatch (pyNext 5#I) _ >>= _) _ _ _;refine Aa (wpAny_tryCatch (W.done _ _ _ ⟨by rw[hsz,<-hin];exact Q,L _ Ik⟩ fun h' y hk'=>?_));have I1:Inv X aa σ H {s' with heap:=h',toks:=y}:=Inv.turneds (t':=y) (ch:=[I]) Ik (iw p) fun b o hb q=>hk' b o hb q;have bC:=hk' S _ 6#E G;have O:=AI h' S 1#6;show wpAny _ X.A.in1 (updateSeq S (fun _=>#[]) >>= _) _ _ _;refine Aa ?_;refine wpAny_updateSeq (s:={s' with heap:=h',toks:=y}) bC rfl (Aa (wpAny_letGo 1#5));refine hR i a n _ (Inv.turneds (s:={s' with heap:=h',toks:=y}) (t':=y) (ch:=[S]) I1 (iw P) fun b o hb q=>(O.2 b 2#8).trans q) T U fun m hm=>?_;obtain⟨h,e'⟩:=Ql.mp hm;have:=(69#e').1;exact N h m ω e'
 |succ r ih=>
  intro j i s' a n t c hr hj Ik G Q T U N;have d:j+1<as.length:=ω
  refine A7 SC ?_;rw[A4 QO _];show wpAny _ X.A.in1 (seqItems? 5#S >>= _) _ _ _;refine Aa (BB G rfl ?_);show wpAny _ X.A.in1 (tryCatch (pyNext 5#I) _ >>= _) _ _ _;refine Aa (wpAny_tryCatch (W.item (j+1) _ _ _ (by rw[hsz];exact d) ⟨Q,L _ Ik⟩ fun v h' y hP aW hk'=>?_));have e1:as[j+1]?=some (as[j+1]'(d)):=Ae d;have e2:ns[j+1]?=some (ns[j+1]'ω):=Ae ω;have hv:v=.ref (as[j+1]'(d)):=by
   have:(1#4)[j+1]?=some v:=by simpa using hP
   rw[Ah,e1] at this;exact(Ai this).symm
  subst hv;obtain⟨lI,iq,c6,cH⟩:=id aW.1;have I1:Inv X aa σ H {s' with heap:=h',toks:=y}:=Inv.turneds (t':=y) (ch:=[I]) Ik (iw p) fun b o hb q=>hk' b o hb q;have bC:=hk' S _ 6#E G;generalize as[j+1]'(d)=C at e1 ⊢;generalize (ns[j+1]'ω)=n2 at e2;show wpAny _ X.A.in1 (tryCatch (holding [.ref C] (call 5#f [.ref C])) _ >>= _) _ _ _;refine Aa (wpAny_tryCatch (AH (wpAny_call (Bx (run _ I1 (j+1) _ _ e1 e2) fun r x hq=>?_))));obtain⟨u,rfl,v,H',os,J,un,hok,ru,rfl,rfl⟩:=hq;obtain⟨D,rfl⟩:=ru;have I2:Inv X aa σ H' x:=I1.call' os un hok J (fun b z=>nomatch z);have jb:=un.keep S _ bC P.1 (jo I1 P) 2#0;have kU:=un.keep I _ iq p.1 (jo I1 p) 2#0;have M:x.heap.IsListIter I l (j+1+1):=⟨lI,kU,c6,cH⟩
  try dsimp only
  show wpAny _ X.A.in1 (tryCatch (holding [.ref C,.int n2 D] (richCompare .Gt (.int n2 D) 85#n >>= _)) _ >>= _) _ _ _;refine Aa (wpAny_tryCatch (AH (Aa (gt_int ?_))));refine Aa (AH (wpAny_truthy_bool ?_));refine Aa (wpAny_letGo 1#5)
  by_cases hb':n<n2
  ·have O:=AI x.heap S (Ay fun _=>#[.ref C,.int n2 D])
   obtain⟨c2,b0⟩:∃c2,(x.heap.update S (Ay fun _=>#[.ref C,.int n2 D])).get? S=some (seqObj "list" #[.ref C,.int n2 D] c2):=⟨_,get?_update_seq jb fun _=>#[.ref C,.int n2 D]⟩;simp only[hb',decide_true,if_true];refine Aa ?_;refine wpAny_updateSeq jb rfl (Aa (wpAny_letGo ?_));rw[g];refine Ac ⟨plainId_quiet QO _,ih (j+1) (j+1) _ C n2 D c2 ω d (Inv.turneds (t':=x.toks) (ch:=[S]) I2 (iw P) fun b o hb q=>(O.2 b 2#8).trans q) b0 ⟨lI,(O.2 I E.symm).trans kU,c6,cH⟩ e1 e2 fun h m Y em=>?_⟩
   by_cases e:h=j+1
   ·subst e
    rw[e2] at em;cases em;exact QG _
   ·have:=N h m ω em
    lia
  ·simp only[hb',decide_false,Am,if_false]
   refine Aa (wpAny_letGo ?_);rw[g];refine Ac ⟨plainId_quiet QO _,ih (j+1) i x a n t c ω d I2 jb M T U fun h m Y em=>?_⟩
   by_cases e:h=j+1
   ·subst e
    rw[e2] at em;cases em;lia
   ·exact N h m ω em
def Oj{as:List Addr}{ns:List Int}{Q:Ω}(U:X.A.handled=none)(I:Inv X aa σ H s)(Y:SqL X.K H l 2#2)(aE:ns.length=as.length)(c:0<as.length)(run:∀s',Inv X aa σ H s'->∀(j:Nat) a n,as[j]?=some a->ns[j]?=some n->codeAny 0#1 X.A.in1 (.call 5#f ⟨[.ref a],[]⟩) (fun r p=>∃v,r=.ok (.ret v)/\CE X.stack X.prog X.w H s' (fun v H'=>v=.int n/\H'=H) v p) s')(h:∀(j:Nat) a n s',Inv X aa σ H s'->as[j]?=some a->ns[j]?=some n->(∀m∈ns,m<=n)->Q 5#a s'):wpAny 0#1 X.A (call (.builtin "max") [.ref l] [(A6 "key",.ref f)]) Q X.xe s:=by
 have d:(toString "max"++toString ".loop":String)="max.loop":=ξ
 have C:∀s',Inv X aa σ H s'->s'.heap.IsList l (1#4).toArray:=fun s' Ik=>by
  obtain⟨ae,r1,p1,_⟩:=Ik.list Y;obtain rfl:=aG r1;exact p1.isList
 have M:=C s I;obtain⟨ol,eZ,_⟩:=id M;have ut:l<s⁻¹:=Ao eZ;refine kmk_tree PySem.F.kind_max PySem.F.plain_max PySem.F.entry_max (kmk_max_key _ _) ?_;show wpAny _ X.A.in1 (Builtin.Builtins.bindParams "max" ["key","default"] 0 ⟨[],[(A6 "key",.ref f)]⟩ >>= _) _ _ s;refine Aa (wpAny_of_eq (show Builtin.Builtins.bindParams "max" ["key","default"] 0 ⟨[],[(A6 "key",.ref f)]⟩=pure [some 5#f,none] from rfl) ?_);refine Aa 1#5;refine Aa (wpAny_pyIter_list M ?_);refine Aa 78#(AL _);rw[d];have J:(4#2).objs.size=s⁻¹+1:=size_push' ..;have N:l≠s⁻¹:=Aq ut;have i:(4#2).objs.size≠s⁻¹:=by rw[J];exact Bf (RM _)
 have e:bb X aa H s⁻¹:=I.fpOk 0#10 61#Ag;have D:bb X aa H (4#2).objs.size:=I.fpOk (by rw[J];exact QI _) (I.hok.fresh (by rw[J];exact QI _));refine Ac ⟨plainId_quiet QO _,?_⟩;have I0:Inv X aa σ H {s with heap:=(4#2).push 2#5}:=I.kept (t':=s.toks) fun b u q=>Ad _ (Ad _ q);have gI:((4#2).push 2#5).get? s⁻¹=some {cls:=.type "list_iterator",data:=.fields #[.ref l,.int 0 0]}:=
  Ad _ (Al _ rfl)
 have O:((4#2).push 2#5).get? (4#2).objs.size=some 2#5:=Al _ rfl;have W:=Walks.list (prog:=X.prog) (w:=X.w) (A:=X.A.in1) U s⁻¹ l N (1#4).toArray;have hsz:(1#4).toArray.size=as.length:=by rw[Aj,Ab]
 generalize (s.heap.push {cls:=.type "list_iterator",data:=.fields #[.ref l,.int 0 0]}).objs.size=S at *;refine A7 SC ?_;rw[A4 QO _];show wpAny _ X.A.in1 (seqItems? 5#S >>= _) _ _ _;refine Aa (BB O rfl ?_);show wpAny _ X.A.in1 (tryCatch (pyNext 0#5) _ >>= _) _ _ _;refine Aa (wpAny_tryCatch (W.item 0 _ _ _ (by rw[hsz];exact c) ⟨⟨_,gI,rfl,rfl⟩,C _ I0⟩ fun v h' L hP aW hk'=>?_));have e1:as[0]?=some (as[0]'(c)):=Ae c;have e2:ns[0]?=some (ns[0]'ω):=Ae ω;have hv:v=.ref (as[0]'(c)):=by
  have:(1#4)[0]?=some v:=by simpa using hP
  rw[Ah,e1] at this;exact(Ai this).symm
 subst hv;obtain⟨lI,iq,c6,cH⟩:=id aW.1;have I1:Inv X aa σ H {s with heap:=h',toks:=L}:=Inv.turneds (s:={s with heap:=(4#2).push 2#5}) (t':=L) (ch:=[s⁻¹]) I0 (iw e) fun b o hb q=>hk' b o hb q;have bC:=hk' S _ 6#i O;generalize as[0]'(c)=g at e1 ⊢;generalize (ns[0]'ω)=n2 at e2;show wpAny _ X.A.in1 (tryCatch (holding [.ref g] (call 5#f [.ref g])) _ >>= _) _ _ _;refine Aa (wpAny_tryCatch (AH (wpAny_call (Bx (run _ I1 0 _ _ e1 e2) fun r p hq=>?_))));obtain⟨u,rfl,v,H',os,y,un,G,ru,rfl,rfl⟩:=hq;obtain⟨x,rfl⟩:=ru;have I2:Inv X aa σ H' p:=I1.call' os un G y (fun b z=>nomatch z);have P:=un.keep S _ bC D.1 (jo I1 D) 2#0;have kU:=un.keep s⁻¹ _ iq e.1 (jo I1 e) 2#0
 try dsimp only
 have T:=AI p.heap S (Ay fun _=>#[.ref g,.int n2 x]);obtain⟨E,b0⟩:∃E,(p.heap.update S (Ay fun _=>#[.ref g,.int n2 x])).get? S=some (seqObj "list" #[.ref g,.int n2 x] E):=⟨_,get?_update_seq P fun _=>#[.ref g,.int n2 x]⟩;show wpAny _ X.A.in1 (updateSeq S (fun _=>#[.ref g,.int n2 x]) >>= _) _ _ _;refine Aa ?_;refine wpAny_updateSeq P rfl ?_;rw[d];refine Ac ⟨plainId_quiet QO _,Oi U Y aE D e i N run (fun j a n s' Ij ea en hb=>h j a n s' Ij ea en hb) _ 0 0 _ g n2 x E rfl c (Inv.turneds (t':=p.toks) (ch:=[S]) I2 (iw D) fun b o hb q=>(T.2 b 2#8).trans q) b0 ⟨lI,(T.2 _ i.symm).trans kU,c6,cH⟩ e1 e2 fun j' m hj' em=>?_⟩;obtain rfl:j'=0:=ω
 rw[e2] at em;cases em;exact QG _
end
def Ol(K:Af)(P:Addr)(pos:Pos)(c:Str)(iy:Nat)(te:TE)(ta:TA):TE:=fun σ H Q=>ta σ H fun vs H1=>∃(l:Addr)(as:List Addr)(ns:List Int)(vy:V),vs=[.ref l]/\SqL K H1 l 2#2/\ns.length=as.length/\0<as.length/\σ[iy]?=some 55#vy/\Tab H1 P pos c/\
 (∀H2,zad H1 H2->∀(j:Nat) a n,as[j]?=some a->ns[j]?=some n->te [some 5#a,some vy] H2 fun v H'=>v=.int n/\H'=H2)/\
 ∀H2(j:Nat) a n,zad H1 H2->(∀b ps,b≠P->H1 b=some (.tbl ps)->H2 b=some (.tbl ps))->Tab H2 P pos c->as[j]?=some a->ns[j]?=some n->(∀m∈ns,m<=n)->Q 5#a H2
section
variable{X:Cx}{a:Expr}{ta:TA}{p p2 pos cB cq:Pos}{P c cc:Addr}{args:Arguments}{body:Expr}{sc:Scope}{x y:Str}{iy k:Nat}{te:TE}
def Om(hr:Room (k+2) X.A)(hg:Gl X "max")(hm:X.mg "max"=none)(hv:Ba "max"=some (.builtin "max"))(hC:PySem.W.CodeHd X.base c P)(cb:X.env.code=.ref c)(dF:BM X.mg X.base)(G:closureFor sc X.env=pure [(y,cc)])(ao:X.env.cells.lookup y=some cc)(hk:X.env.kindOf y=some .cell)(hN:X.N[iy]?=some y)(S:CU x y sc)(hb:∀C cl i c' r u,bindArgs (R5 "<lambda>" C args body sc cl i 5#c' r) ⟨[u],[]⟩=pure [(x,u)])(aU:∀s H f C c',PE (pq X X.A.in1 s H f C sc x y cc c') body te)(ha:PA X [a] ta)(hc:X.calm=true)(he:starEach [a] X.env=[60#a]:=by rfl)(dP:defaultsOf args X.env=([],[]):=by rfl):PE X (.Call (.Name "max" p) [a] [⟨some "key",.Lambda args body sc cq,cB⟩] pos) (Ol X.K P cq (X.env.qual++"<lambda>") iy te ta):=by
 intro aa s σ H Q I h;refine wpAny_Call_Name_kw (ij I hg hm hv ?_);refine callWith_kw ?_ (by rw[he];rfl) (by rw[he];rfl) rfl rfl;refine aT 1#12 fun us J ⟨vs,H1,I1,M,O⟩=>?_;obtain⟨l,as,ns,vy,rfl,hl,D,h0,jv,ht,gH,q⟩:=O;obtain⟨u,rfl,ru⟩:=vals1 M;cases ru;refine kws_cons 4#5;obtain⟨v2,H2,I2,r2,f,rfl,sm,E,tb,L⟩:=jJ;cases r2;refine kws_nil ?_;show wpAny 0#1 X.A (call (.builtin "max") [.ref l] [(A6 "key",.ref f)]) _ _ s2;have F:SqL X.K H2 l 2#2:=by
  rcases hl with (z|⟨o,z⟩)|z
  ·exact .inl 74#(sm _ _ (fun _ e=>nomatch e) z)
  ·exact .inl (.inr ⟨o,sm _ _ (fun _ e=>nomatch e) z⟩)
  ·exact .inr z
 refine Oj 2#15 I2 F D h0 (fun s' I' j a n d g=>?_) fun j a n s' I' d g hb=>⟨.ref a,_,I',rfl,q H2 j a n sm E tb d g hb⟩;exact Gw (va:=.ref a) (vy:=vy) (iy:=iy) I' I'.env0.in1 rfl (Room.in1 hr).depth L S ao hN jv 74#hk (fun i c' r=>hb _ _ i c' r _) rfl (fun c'=>aU s' H2 f _ c') (gH H2 sm j a n d g)
end
end L2
end
section
namespace L2
open PySem PySem.Spec PyProof.Rows
def zad.tp(e:zad H H')(h:Tp H a ps):Tp H' a ps:=e _ _ 1#2 h
def zad.tps(e:zad H H')(h:Tps H as ab):Tps H' as ab:=Paired.mapP h fun _ _ q=>e.tp q
def zad.seq{K:Af}(e:zad H H')(h:SqL K H l xs):SqL K H' l xs:=by
 rcases h with (z|⟨o,z⟩)|z
 ·exact .inl 74#(e _ _ (fun _ q=>nomatch q) z)
 ·exact .inl (.inr ⟨o,e _ _ (fun _ q=>nomatch q) z⟩)
 ·exact .inr z
def zad.free{P:Addr}{pos:Pos}(e:zad H H')(a:∀b ps,b≠P->H b=some (.tbl ps)->H' b=some (.tbl ps))(tb:Tab H' P pos c)(h:H' l=none):H l=none:=by
 cases q:H l with
 |none=>rfl
 |some o=>
  have:H' l=some o:=by
   by_cases z:∃ps,o=.tbl ps
   ·obtain⟨ps,rfl⟩:=z
    refine a l ps (fun y=>?_) q;subst y;rcases tb with t|⟨_,t,_⟩<;>(rw[h] at t;cases t)
   ·exact e l o (fun ps y=>z ⟨ps,y⟩) q
  rw[h] at this;cases this
def On(h:Tps H as ab)(f:ab.Nodup):as.Nodup:=by
 induction h with
 |nil=>exact BC
 |@cons a ps as ab q t ih=>
  obtain⟨n1,n2⟩:=Qo.mp f;refine Qo.mpr ⟨fun hm=>?_,ih n2⟩;obtain⟨i,e⟩:=Ql.mp hm;obtain⟨p,e1,e2⟩:=Tps.get t e;have e3:H a=some 52#(p.map V.int):=e2;have c:H a=some 52#(ps.map V.int):=q;rw[e3] at c;have d:p.map V.int=ps.map V.int:=by injection c with c;injection c
  have:p=ps:=(Rg (fun a b z=>by injection z)).mp d;subst this;exact n1 (Ak e1)
def Hg{p y:Str}:∀x,([(p,NameKind.local),(y,Bn)]:List (Str×NameKind)).lookup x=some .free->x=y:=fun x h=>by
 rw[Be] at h;cases h1:x==p with
 |true=>rw[h1] at h;cases h
 |false=>
  rw[h1] at h;have h':([(y,Bn)]:List (Str×NameKind)).lookup x=some .free:=h;rw[Be] at h';cases h2:x==y with
  |true=>exact eq_of_beq h2
  |false=>rw[h2] at h';cases h'
end L2
end
section
namespace Dk
open PySem
section
variable{prog:Program}{w:World}{A:Around}{E:Ω}{s:Shared}
def Oo(d:Addr)(hd:(d==Bs)=false):MeetsIn prog w (Builtin.«dict.__len__» ⟨[.ref d],[]⟩) (fun _ R s=>∃es ep,IsD s.heap d es ep/\R (.ok (.ret (.int es.size s.toks))) {s with toks:=s.toks+1}):=
 .of_wp fun A R s ⟨es,ep,hm,h⟩=>by
  obtain⟨o,a,hc,b⟩:=hm;show wpAny _ _ (dictSize d >>= _) _ _ s;unfold dictSize;refine Aa (Aa (A0 a b 1#5));show wpAny _ _ (Builtin.Dict.pendingCount d >>= _) _ _ s;refine Aa (wpAny_pendingCount_other hd ?_);refine wpAny_ret_mkInt ?_;rw[Nat.add_zero];exact h
def Op{d:Addr}{Q:Ω}(hd:(d==Bs)=false)(hm:IsD s.heap d es ep)(a:(es.size:Int)<2 ^ 63)(h:Q (.int es.size (s.toks+1)) {s with toks:=s.toks+1+1}):wpAny 0#0 A (call (.builtin "len") [.ref d]) Q E s:=by
 refine Calls.call_function_entry kind_len plain_len entry_len (args_len1 _) ?_;unfold Builtin.«len»;refine Aa (m:=oneArg "len" _) 1#5;refine Aa (m:=callSpecial? 5#d (A6 "__len__")) (A5 (name:=A6 "__len__") hm.typeIs F.slot_dict_len
  (call_meetsIn F.slot_dict_len hm.typeIs F.entry_dict_len (F.args_dict_len_1 _) (Oo d hd) ⟨es,ep,hm,?_⟩))
 show wpAny _ _ _ _ _ {s with toks:=s.toks+1};refine Aa (AH 1#5);refine Aa (wpAny_letGo ?_);show wpAny _ _ (if((es.size:Nat):Int)<0 then _ else _) _ _ _;rw[TJ ω];show wpAny _ _ (if((es.size:Nat):Int) ≥ 2 ^ 63 then _ else _) _ _ _;rw[TJ ω];exact Aa (wpAny_mkInt (Ac ⟨_,rfl,h⟩))
end
end Dk
namespace L2
open PySem PySem.Spec PyProof.Rows
section
variable{X:Cx}
def Hh:cP X (.builtin "len") (fun xs H Q=>∃a kvs,xs=[V.ref a]/\Rd H a 51#kvs/\Q (.int kvs.length) H):=by
 intro aa s σ H xs us Q I r h;obtain⟨a,kvs,rfl,ha,q⟩:=h;obtain⟨u,rfl,d⟩:=vals1 r;cases d;obtain⟨z,y,ys,b,o,es,ep,h1,h2,e,f,g⟩:=(show zr X.prog X.w H s.heap a 51#kvs from ha.ok I.hok);have c:es.size=kvs.length:=by
  have:=congrArg List.length f;rw[Ab,<-AN b] at this
  simpa using this
 refine Dk.Op y ⟨o,h1,h2,e⟩ (by rw[c];rw[Bp] at z;lia) ⟨.int kvs.length,H,I.tok _,⟨_,by rw[c]⟩,q⟩
end
end L2
end
section
namespace Dk
open PySem PySem.Spec PyProof.Rows
def II(h:Heap)(it d:Addr)(i n ep:Nat):Prop:=∃(c:Value)(b:Bool)(k v:Value),(c=.none\/∃a:Addr,c=rawInt a)/\
 h.get? it=some {cls:=.type "dict_itemiterator",dict:=none,data:=.fields #[c,.bool b,.ref d,.int i 0,.int n 0,.int ep 0,k,v],slots:=#[]}
def II.at{h h':Heap}{i n ep:Nat}(x:II h it d i n ep)(k:∀o,h.get? it=some o->h'.get? it=some o):II h' it d i n ep:=by
 obtain⟨a,b,c,f,hf,e⟩:=x;exact⟨a,b,c,f,hf,k _ e⟩
section
variable{prog:Program}{w:World}{A:Around}{E:Ω}{s:Shared}{it d v:Addr}{i ep:Nat}{es:Array DictEntry}
def Oq{Q:Option Obj->Shared->Prop}(h:Q (s.heap.get? a) s):wpAny 0#0 A (loadIfAlive a) Q E s:=fun _ _ _=>h
def pE{Q:Ω}(a:s.heap.IsItemsView v d)(hm:IsD s.heap d es ep)(h:Q 0#5 {s with heap:=s.heap.push {cls:=.type "dict_itemiterator",data:=.fields #[.none,.bool false,.ref d,.int 0 0,.int es.size 0,.int ep 0,.none,.none]}}):wpAny 0#0 A (pyIter 5#v) Q E s:=by
 obtain⟨i,e,j,f⟩:=id a;obtain⟨o,b,hc,c⟩:=id hm;refine wpAny_pyIter_slot a.typeIs SL (AX SL a.typeIs PySem.F.entry_dict_items_iter ?_ (PySem.F.args_dict_items_iter_1 _));unfold Builtin.«dict_items.__iter__»;refine Aa 1#5;refine Aa ?_;unfold Builtin.Dict_items.dictOf;refine Aa (Bw e f (x:=.ref d) rfl 1#5);refine Aa ?_;unfold Builtin.Dict_items.newIterator;refine Aa (A0 b c ?_);refine Aa (wpAny_dictEpoch b c ?_);have g:Builtin.Dict_items.ownsTuple "dict_itemiterator"=true:=ξ
 simp only[g,if_true];refine AY (Ac ⟨_,rfl,"dict_itemiterator",_,⟨_,Al _ rfl,rfl⟩,PySem.F.slot_dict_itemiterator_next.lookup,?_⟩)
  (by simp only[sizeOk,Builtin.Dict_items.ownedTupleFields,Aj,Az,AB,QZ,Bp];lia)
 simpa[rawInt,Builtin.Dict_items.ownedTupleFields] using h
def pG{Q:Option Value->Shared->Prop}(q:II s.heap it d i es.size ep)(hm:IsD s.heap d es ep)(hx:i<es.size)(H:∀h',II h' it d (i+1) es.size ep->h'.get? s⁻¹=some {cls:=.type "tuple",data:=.seq #[es[i].key,es[i].val]}->
   (∀b o,b≠it->s.heap.get? b=some o->h'.get? b=some o)->Q 55#(.ref s⁻¹) {s with heap:=h'}):wpAny 0#0 A (pyNext 5#it) Q E s:=by
 obtain⟨hp,g,p,tk,os⟩:=s;obtain⟨P,S,ok,T,rC,q⟩:=q;obtain⟨od,cH,bI,hdd⟩:=id hm;have hT:Shared.TypeIs ⟨hp,g,p,tk,os⟩ 5#it "dict_itemiterator":=⟨_,q,rfl⟩;unfold pyNext;refine Aa (wpAny_attempt (A5 (name:=A6 "__next__") hT QX
  (AX QX hT Sf ?_ (R8 _))))
 refine Aa 1#5;refine Aa ?_;refine Aa ?_
 first|refine Aa (wpAny_typeNameOfWhole_itemiter hT 1#5)|refine Aa (wpAny_typeNameOf_itemiter hT 1#5)
 refine Aa (wpAny_fieldsOf q rfl ?_);have cu:Builtin.Dict_items.ownsTuple "dict_itemiterator"=true:=ξ
 simp only[cu,if_true];show wpAny _ _ 0#18 _ _ _;rw[TJ 3#17];refine Aa 1#5;refine Aa (A0 cH hdd ?_);rw[TJ 2#0];refine Aa 1#5;refine Aa (wpAny_dictEpoch cH hdd ?_);rw[TJ 2#0];refine Ac ?_;simp only[show ¬((i:Int)<0) from ω,if_false,Bq,Qz hx];refine Aa ?_
 first|refine Aa (wpAny_typeNameOfWhole_itemiter hT 1#5)|refine Aa (wpAny_typeNameOf_itemiter hT 1#5)
 refine Aa (wpAny_isOneOf_itemiter hT ?_);show wpAny _ _ (setField 5#it 3 (rawInt ((i:Int)+1)) >>= _) _ _ ⟨hp,g,p,tk,os⟩;refine Aa (Bj q 2#0 fun j r u=>?_);replace u:AU it hp j:=u;replace r:j.get? it=some {cls:=.type "dict_itemiterator",dict:=none,data:=.fields #[P,.bool S,.ref d,.int ((i+1:Nat):Int) 0,.int es.size 0,.int ep 0,ok,T],slots:=#[]}:=by
  have e:((i+1:Nat):Int)=(i:Int)+1:=ω
  rw[e];simpa[rawInt] using r
 have f:Shared.TypeIs ⟨j,g,p,tk,os⟩ 5#it "dict_itemiterator":=⟨_,r,rfl⟩;refine Aa (AH ?_);refine Aa (wpAny_isOneOf_itemiter f ?_);refine Aa (wpAny_isOneOf_itemiter f ?_);show wpAny _ _ (Builtin.Dict_items.pairFromOwner 5#it 6 es[i].key es[i].val) _ _ ⟨j,g,p,tk,os⟩;unfold Builtin.Dict_items.pairFromOwner;refine Aa (wpAny_newTuple ?_);have l:(j.push {cls:=.type "tuple",data:=.seq #[es[i].key,es[i].val]}).get? it=some {cls:=.type "dict_itemiterator",dict:=none,data:=.fields #[P,.bool S,.ref d,.int ((i+1:Nat):Int) 0,.int es.size 0,.int ep 0,ok,T],slots:=#[]}:=Ad _ r;generalize hh₂:j.push {cls:=.type "tuple",data:=.seq #[es[i].key,es[i].val]}=bf at l;have U:j.objs.size=hp.objs.size:=u.1;have y:it<hp.objs.size:=Ao q;have W:bf.get? hp.objs.size=some {cls:=.type "tuple",data:=.seq #[es[i].key,es[i].val]}:=by rw[<-hh₂,<-U];exact Al _ rfl
 have h:∀b o,b≠it->hp.get? b=some o->bf.get? b=some o:=fun b o hb e=>by rw[<-hh₂];exact Ad _ (u.extBut b o hb e)
 show wpAny _ _ (Builtin.Dict_items.ownedTupleIsFree 5#it >>= _) _ _ ⟨bf,g,p,tk,os⟩;rw[U];clear hh₂ r u f U j;have free:∀(E':Ω)(R:Ω),(∀h',II h' it d (i+1) es.size ep->h'.get? hp.objs.size=some {cls:=.type "tuple",data:=.seq #[es[i].key,es[i].val]}->
   (∀b o,b≠it->hp.get? b=some o->h'.get? b=some o)->R (.ref hp.objs.size) ⟨h',g,p,tk,os⟩)->wpAny 0#0 A.in1 (do
    let fR:=[<-field 5#it 6,<-field 5#it (6+1)]
    setField 5#it 6 es[i].key;setField 5#it (6+1) es[i].val
    setField 5#it 0 (rawInt hp.objs.size);setField 5#it 1 (.bool false)
    letGo fR [.ref hp.objs.size]
    return .ref hp.objs.size) R E' ⟨bf,g,p,tk,os⟩:=by
  intro E' R hR;refine Aa (Bw l rfl (x:=ok) rfl ?_);refine Aa (Bw l rfl (x:=T) rfl ?_);refine Aa (Bj l 2#0 fun v I c=>?_);replace c:AU it bf v:=c;refine Aa (Bj I 2#0 fun X jO C=>?_);replace C:AU it v X:=C;refine Aa (Bj jO 2#0 fun Y jr D=>?_);replace D:AU it X Y:=D;refine Aa (Bj jr 2#0 fun J L G=>?_);replace G:AU it Y J:=G;replace L:J.get? it=some {cls:=.type "dict_itemiterator",dict:=none,data:=.fields #[rawInt hp.objs.size,.bool false,.ref d,.int ((i+1:Nat):Int) 0,.int es.size 0,.int ep 0,es[i].key,es[i].val],slots:=#[]}:=L;refine Aa (wpAny_letGo (Ac (hR J ⟨_,_,_,_,.inr ⟨_,rfl⟩,L⟩ ?_ ?_)))
  ·exact G.extBut _ _ (Bf y) (D.extBut _ _ (Bf y) (C.extBut _ _ (Bf y) (c.extBut _ _ (Bf y) W)))
  ·exact fun b o hb e=>G.extBut b o hb (D.extBut b o hb (C.extBut b o hb (c.extBut b o hb (h b o hb e))))
 refine Aa ?_;unfold Builtin.Dict_items.ownedTupleIsFree;refine Aa (Bw l rfl (x:=P) rfl ?_);rcases rC with rfl|⟨a,rfl⟩
 ·refine Ac ?_
  simp only[if_true];exact free _ _ fun h' M N O=>Ac ⟨_,rfl,Ac (H h' M N O)⟩
 ·dsimp only[rawInt]
  refine Aa (Oq ?_);cases hal:bf.get? ((a:Int)).toNat with
  |none=>
   simp only[Option.isNone_none,if_true];refine Ac ?_;simp only[if_true];exact free _ _ fun h' M N O=>Ac ⟨_,rfl,Ac (H h' M N O)⟩
  |some oa=>
   simp only[Option.isNone_some,Am,if_false];refine Aa (Bw l rfl (x:=.bool S) rfl ?_);refine wpAny_ite_split (fun _=>?_) (fun _=>?_)
   ·refine Aa (Bj l 2#0 fun v I c=>?_)
    replace c:AU it bf v:=c;refine Ac ?_;simp only[Am,if_false];refine Ac (Ac ⟨_,rfl,Ac (H v ⟨_,_,_,_,.inr ⟨a,rfl⟩,I⟩ ?_ ?_)⟩)
    ·exact c.extBut _ _ (Bf y) W
    ·exact fun b o hb e=>c.extBut b o hb (h b o hb e)
   ·refine Ac ?_
    simp only[Am,if_false];exact Ac (Ac ⟨_,rfl,Ac (H bf ⟨_,_,_,_,.inr ⟨a,rfl⟩,l⟩ W h)⟩)
def Dp{Q:Option Value->Shared->Prop}(g:A.handled=none)(c:II s.heap it d es.size es.size ep)(hm:IsD s.heap d es ep)(h:∀h',Heap.ExtBut it s.heap h'->Q none {s with heap:=h'}):wpAny 0#0 A (pyNext 5#it) Q E s:=by
 obtain⟨i,j,ok,l,o,c⟩:=c;obtain⟨p,e,q,hdd⟩:=id hm;have hT:s.TypeIs 5#it "dict_itemiterator":=⟨_,c,rfl⟩;unfold pyNext;refine Aa (wpAny_attempt (A5 (name:=A6 "__next__") hT QX
  (AX QX hT Sf ?_ (R8 _))))
 refine Aa 1#5;refine Aa ?_;refine Aa ?_
 first|refine Aa (wpAny_typeNameOfWhole_itemiter hT 1#5)|refine Aa (wpAny_typeNameOf_itemiter hT 1#5)
 refine Aa (wpAny_fieldsOf c rfl ?_);have f:Builtin.Dict_items.ownsTuple "dict_itemiterator"=true:=ξ
 simp only[f,if_true];show wpAny _ _ 0#18 _ _ s;rw[TJ 3#17];refine Aa 1#5;refine Aa (A0 e hdd ?_);rw[TJ 2#0];refine Aa 1#5;refine Aa (wpAny_dictEpoch e hdd ?_);rw[TJ 2#0];refine Ac ?_;simp only[show ¬((es.size:Int)<0) from ω,if_false,Bq,Ru (Ag es.size)];refine Aa ?_
 first|refine Aa (wpAny_typeNameOfWhole_itemiter hT 1#5)|refine Aa (wpAny_typeNameOf_itemiter hT 1#5)
 show wpAny _ _ (setField 5#it 2 .none >>= _) _ _ s;refine Aa (wpAny_setField c rfl 2#0 ?_);show wpAny _ _ (newExc (.type "StopIteration") [] >>= _) _ _ _;refine Aa ?_;simp only[newExc,newTuple];refine Aa (AY ?_ (by size_fits));refine Aa (m:=firstArgMember _ _) 2#9;refine AY ?_ (by size_fits);simp only[raiseNew];refine Aa (wpAny_handled ?_);rw[show A.in1.handled=none from g];refine Aa (Ac (wpAny_throw ?_));refine Aa 3#12;exact Ac (h _ (((AI ..).extBut.push _).push _))
def eL(h:Heap)(es:Array DictEntry)(ts:List Addr)(i:Nat):Prop:=ts.length=i/\ts.Nodup/\∀(j:Nat) t,ts[j]?=some t->∃e,es[j]?=some e/\h.get? t=some {cls:=.type "tuple",data:=.seq #[e.key,e.val]}
def Os{S:Addr}{res:Value}{R:Result->Shared->Prop}{z:Nat}(hh:A.handled=none)(hn:es.size<=sizeLine)(O:S≠it)(gU:S≠d)(iG:it≠d):∀(k i:Nat)(s:Shared)(ts:List Addr)(c:Nat),es.size-i=k->i<=es.size->II s.heap it d i es.size ep->IsD s.heap d es ep->
   s.heap.get? S=some {cls:=.type "list",dict:=none,data:=.seq (ts.map Value.ref).toArray c,slots:=#[]}->eL s.heap es ts i->z<=s⁻¹->(∀t∈ts,z<=t)->
   (∀h' tk r c',h'.get? S=some {cls:=.type "list",dict:=none,data:=.seq (r.map Value.ref).toArray c',slots:=#[]}->eL h' es r es.size->(∀t∈r,z<=t)->
    (∀b o,b≠S->b≠it->s.heap.get? b=some o->h'.get? b=some o)->R (.ok (.ret res)) {s with heap:=h',toks:=tk})->
   codeAny 0#0 A (.builtin "list.extend.loop" ⟨[.ref S,.ref it,res],[]⟩) R s:=by
 have f:∀{h h':Heap}{ts:List Addr}{i:Nat}{x C:Obj},h.get? S=some x->x.cls=.type "list"->h.get? it=some C->C.cls=.type "dict_itemiterator"->(∀b o,b≠S->b≠it->h.get? b=some o->h'.get? b=some o)->eL h es ts i->eL h' es ts i:=by
  intro h h' ts i x C l P X Q Y D;refine⟨D.1,D.2.1,fun j t e=>?_⟩;obtain⟨W,e1,e2⟩:=D.2.2 j t e;refine⟨W,e1,Y _ _ (fun y=>?_) (fun y=>?_) e2⟩
  ·rw[y,l] at e2;rw[Ai e2] at P;exact absurd (show Value.type "tuple"=Value.type "list" from P) ξ
  ·rw[y,X] at e2;rw[Ai e2] at Q;exact absurd (show Value.type "tuple"=Value.type "dict_itemiterator" from Q) ξ
 intro k
 induction k with
 |zero=>
  intro i s ts c hk hi q hm l ht hz E hR;have M:i=es.size:=ω
  subst M;obtain⟨f0,fb,k0,v0,_,J⟩:=id q;refine A7 PySem.F.entry_extend_loop ?_;rw[A4 Re _];show wpAny _ A.in1 (pyNext 5#it >>= _) _ _ s;refine Aa (Dp (A:=A.in1) hh q hm fun h' G=>?_);exact Ac (hR h' s.toks ts c (G _ _ O l) (f l rfl J rfl (fun b o _ hb e=>G b o hb e) ht) E fun b o _ hb e=>G b o hb e)
 |succ k ih=>
  intro i s ts c hk hi q hm l ht hz E hR;have p:i<es.size:=ω
  obtain⟨f0,fb,k0,v0,_,J⟩:=id q;refine A7 PySem.F.entry_extend_loop ?_;rw[A4 Re _];show wpAny _ A.in1 (pyNext 5#it >>= _) _ _ s;refine Aa (pG (A:=A.in1) q hm p fun h1 T U v=>?_);have N:=v S _ O l;have hsz:s⁻¹<h1.objs.size:=Ao U;obtain⟨yw,yU,yj,yJ,_,n5⟩:=id T;have wj:eL h1 es (ts++[s⁻¹]) (i+1):=by
   have t0:=f l rfl J rfl (fun b o _ hb e=>v b o hb e) ht;refine⟨by rw[Az,ht.1];rfl,?_,fun j t e=>?_⟩
   ·rw[BD]
    refine⟨ht.2.1,by simp,fun a ha b hb=>?_⟩;have hb':b=s⁻¹:=by simpa using hb
    obtain⟨j,L⟩:=R6 ha;obtain⟨W,_,e2⟩:=ht.2.2 j a L;rw[hb'];exact Aq (Ao e2)
   ·by_cases L:j<ts.length
    ·rw[QP L] at e
     exact t0.2.2 j t e
    ·have xa:j=i:=by
      have:=(69#e).1;rw[Az] at this;simp at this;have:=ht.1;lia
     subst xa;rw[QF ω,ht.1,Nat.sub_self] at e;have:t=s⁻¹:=(Ai e).symm;rw[this];exact⟨_,Qz p,U⟩
  show wpAny _ A.in1 (updateSeq S (·.push 0#5) >>= _) _ _ _;refine Aa ?_;have g:∀b o,b≠S->h1.get? b=some o->(h1.update S (Ay (·.push (Value.ref s⁻¹)))).get? b=some o:=fun b o hb e=>(Heap.get?_update_other _ _ 72#hb).trans e;have e0:((ts.map Value.ref).toArray.push 0#5)=((ts++[s⁻¹]).map Value.ref).toArray:=by simp
  obtain⟨I,iM⟩:∃I,(h1.update S (Ay (·.push (Value.ref s⁻¹)))).get? S=some {cls:=.type "list",dict:=none,data:=.seq ((ts++[s⁻¹]).map Value.ref).toArray I,slots:=#[]}:=by
   rw[<-e0];exact⟨_,Heap.get?_update_self _ N rfl⟩
  refine wpAny_updateSeq N rfl (Ac ⟨plainId_quiet Re _,ih (i+1) _ (ts++[s⁻¹]) I ω p (T.at fun o e=>g _ o 72#O e) ((hm.at fun o e=>v _ o 72#iG e).at fun o e=>g _ o 72#gU e) iM (f N rfl n5 rfl (fun b o hb _ e=>g b o hb e) wj) ?_ ?_ fun h' tk r c' e1 e2 e3 e4=>?_⟩)
   (by simp only[Aj,Ab];rw[ht.1];lia) (by simp only[Sj,Aj,Ab];rw[ht.1];lia)
  ·have:(h1.update S (Ay (·.push (Value.ref s⁻¹)))).objs.size=h1.objs.size:=(AI ..).1
   show z<=(h1.update S (Ay (·.push (Value.ref s⁻¹)))).objs.size;rw[this];lia
  ·intro t H
   rcases Qm.mp H with y|y
   ·exact E t y
   ·have:t=s⁻¹:=by simpa using y
    rw[this];exact hz
  ·exact hR h' tk r c' e1 e2 e3 fun b o hb u e=>e4 b o hb u (g b o hb (v b o u e))
end
end Dk
end
section
namespace Dk
open PySem PySem.Spec PyProof.Rows
section
variable{prog:Program}{w:World}{A:Around}{E:Ω}{s:Shared}{r d:Addr}{ep:Nat}{es:Array DictEntry}
def Ot{Q:Bool->Shared->Prop}(hT:s.TypeIs 5#r "dict_items")(h:Q false s):wpAny 0#0 A (Builtin.List.listLengthHint 5#r) Q E s:=by
 unfold Builtin.List.listLengthHint;refine Aa (wpAny_specialOf hT PySem.F.slot_dict_items_len.lookup ?_);generalize iG:("dict_items.__len__":String)=id0
 wp_delta
 rw[show splitId id0=some ("dict_items","__len__") from by subst iG;decide +kernel];subst iG;refine Aa (wpAny_isInstance (T:="dict_items") (b:=true) hT (by rw[isSubtype_type];kernel_rfl) ?_);refine wpAny_ite_split (fun a=>absurd a ξ) (fun _=>?_);refine wpAny_ite_split (fun _=>?_) (fun a=>absurd δ a);refine Aa (wpAny_typeOf hT ?_);exact Ac h
def Ou{R:Result->Shared->Prop}{z:Nat}(M:A.handled=none)(l:s.heap.IsItemsView r d)(hm:IsD s.heap d es ep)(N:es.size<=sizeLine)(S:Addr)(O:S≠r)(q:S≠d)(hz:z<=s⁻¹)(res:Value)(u:Nat)(v:s.heap.get? S=some {cls:=.type "list",data:=.seq #[] u})(hR:∀h' tk ts c',(∀b o,b≠S->s.heap.get? b=some o->h'.get? b=some o)->h'.get? S=some {cls:=.type "list",dict:=none,data:=.seq (ts.map Value.ref).toArray c',slots:=#[]}->eL h' es ts es.size->(∀t∈ts,z<=t)->R (.ok (.ret res)) {s with heap:=h',toks:=tk}):wpAny 0#0 A.in1 (Builtin.List.listExtendWith 5#S 5#r res)
   (fun fin s'=>match fin with|.done f=>R (.ok f) s'|.again c'=>c'.quiet=true/\codeAny 0#0 A c' R s') (fun e s'=>R (.error e) s') s:=by
 have a:S≠s⁻¹:=Aq (Ao v);have H:s⁻¹≠d:=Bf hm.lt;have key:∀(h:Heap)(g tk:Nat),II h s⁻¹ d 0 es.size ep->s⁻¹<=h.objs.size->(∀b o,b≠S->s.heap.get? b=some o->h.get? b=some o)->
   h.get? S=some {cls:=.type "list",data:=.seq #[] g}->codeAny 0#0 A (.builtin "list.extend.loop" ⟨[.ref S,.ref s⁻¹,res],[]⟩) R {s with heap:=h,toks:=tk}:=by
  intro h g tk i x hk c;refine Os (z:=z) M N a q H es.size 0 _ [] g rfl (AL _) i (hm.at fun o e=>hk _ o 72#q e) c ⟨rfl,BC,fun j t e=>by simp at e⟩ (AG hz x) (fun t ht=>nomatch ht) fun h' C D c' e1 e2 e3 E=>?_;exact hR h' C D c' (fun b o hb e=>E b o hb (fun y=>absurd (Ao e) (by rw[y];exact QT _)) (hk b o hb e)) e1 e2 e3
 unfold Builtin.List.listExtendWith;refine Aa (wpAny_typeOf (T:="dict_items") l.typeIs ?_);have h1:Builtin.List.listSameRef 5#S 5#r=false:=by simp[Builtin.List.listSameRef,O]
 have h2:(Value.type "dict_items" == Value.type "list")=false:=ξ
 have I:(Value.type "dict_items" == Value.type "tuple")=false:=ξ
 simp only[h1,h2,I,Bool.or_false,Am,if_false];refine Aa (pE l hm ?_);have c:=Ad {cls:=.type "dict_itemiterator",data:=.fields #[.none,.bool false,.ref d,.int 0 0,.int es.size 0,.int ep 0,.none,.none]} v;have st:II (s.heap.push {cls:=.type "dict_itemiterator",data:=.fields #[.none,.bool false,.ref d,.int 0 0,.int es.size 0,.int ep 0,.none,.none]}) s⁻¹ d 0 es.size ep:=⟨_,_,_,_,.inl rfl,Al _ rfl⟩;have J:Shared.TypeIs {s with heap:=s.heap.push {cls:=.type "dict_itemiterator",data:=.fields #[.none,.bool false,.ref d,.int 0 0,.int es.size 0,.int ep 0,.none,.none]}} 5#r "dict_items":=by
  obtain⟨o,G,hc,_⟩:=l;exact⟨o,Ad _ G,hc⟩
 refine Aa (AH (Ot J ?_));have hsz:∀o:Obj,s⁻¹<=(s.heap.push o).objs.size:=fun o=>by rw[Heap.size_push];lia
 refine wpAny_ite_split (fun _=>?_) (fun _=>Ac ⟨plainId_quiet Re _,key _ u _ st (hsz _) (fun b o _ e=>Ad _ e) c⟩);refine Aa (wpAny_rule ?_);refine Aa ?_;show wpAny _ _ (updateSeq S (·.push .none) >>= fun _=>updateSeq S (·.pop)) _ _ _;refine Aa (wpAny_updateSeq c rfl ?_);have p:=Heap.get?_update_self (Ay (·.push Value.none)) c rfl;refine wpAny_updateSeq (hz:=by seq_fits) p rfl ?_;have L:=Heap.get?_update_self (Ay (·.pop)) p rfl;refine Ac ⟨plainId_quiet Re _,key _ _ _ ?_ ?_ (fun b o hb e=>?_) L⟩
 ·exact(st.at fun o e=>(Heap.get?_update_other _ _ a).trans e).at fun o e=>(Heap.get?_update_other _ _ a).trans e
 ·rw[(AI ..).1,(AI ..).1];exact hsz _
 ·exact(Heap.get?_update_other _ _ 72#hb).trans ((Heap.get?_update_other _ _ 72#hb).trans (Ad _ e))
def Ov{R:Result->Shared->Prop}{z:Nat}(u:A.handled=none)(v:s.heap.IsItemsView r d)(hm:IsD s.heap d es ep)(x:es.size<=sizeLine)(S:Addr)(g:S≠r)(h:S≠d)(hz:z<=s⁻¹)(c:s.heap.get? S=some {cls:=.type "list",data:=.seq #[]})(hR:∀h' tk ts c',(∀b o,b≠S->s.heap.get? b=some o->h'.get? b=some o)->h'.get? S=some {cls:=.type "list",dict:=none,data:=.seq (ts.map Value.ref).toArray c',slots:=#[]}->eL h' es ts es.size->(∀t∈ts,z<=t)->R (.ok (.ret .none)) {s with heap:=h',toks:=tk}):wpAny 0#0 A.in1 (Builtin.«list.__init__» ⟨[.ref S,.ref r],[]⟩)
   (fun fin s'=>match fin with|.done f=>R (.ok f) s'|.again c'=>c'.quiet=true/\codeAny 0#0 A c' R s') (fun e s'=>R (.error e) s') s:=by
 show wpAny _ _ (do let fR <-Builtin.List.listItems 5#S;Builtin.List.listUpdate 5#S (fun _=>#[]);letGo fR.toList.reverse;Builtin.List.listExtendWith 5#S 5#r .none) _ _ s;refine Aa ?_;unfold Builtin.List.listItems;refine Aa (BB c rfl 1#5);show wpAny _ _ (updateSeq S (fun _=>#[]) >>= fun _=>letGo (#[]:Array Value).toList.reverse >>= fun _=>Builtin.List.listExtendWith 5#S 5#r .none) _ _ s;refine Aa (wpAny_updateSeq c rfl ?_);have q:=Heap.get?_update_self (Ay (fun _=>(#[]:Array Value))) c rfl;have a:∀b o,b≠S->s.heap.get? b=some o->(s.heap.update S (Ay (fun _=>(#[]:Array Value)))).get? b=some o:=
  fun b o hb e=>(Heap.get?_update_other _ _ 72#hb).trans e
 refine Aa (wpAny_letGo ?_);obtain⟨o,p,hc,hd⟩:=id v;refine Ou (s:={s with heap:=s.heap.update S (Ay (fun _=>(#[]:Array Value)))}) u ⟨o,a _ _ 72#g p,hc,hd⟩ (hm.at fun o e=>a _ o 72#h e) x S g h (by show z<=(s.heap.update S (Ay (fun _=>(#[]:Array Value)))).objs.size;rw[(AI ..).1];exact hz) .none _ q fun h' tk ts c' hk i j l=>?_;exact hR h' tk ts c' (fun b o hb e=>hk b o hb (a b o hb e)) i j l
def Ow{Q:Ω}(l:A.handled=none)(p:s.heap.IsItemsView r d)(hm:IsD s.heap d es ep)(q:es.size<=sizeLine)(u:∀h' tk ts c',(∀b o,s.heap.get? b=some o->h'.get? b=some o)->h'.get? s⁻¹=some {cls:=.type "list",dict:=none,data:=.seq (ts.map Value.ref).toArray c',slots:=#[]}->eL h' es ts es.size->(∀t∈ts,s⁻¹<t)->Q 0#5 {s with heap:=h',toks:=tk}):wpAny 0#0 A (call (.type "list") [.ref r]) Q E s:=by
 refine callType_codes (Q₁:=fun obj a=>obj=.ref s⁻¹/\a={s with heap:=s.heap.push {cls:=.type "list",data:=.seq #[]}}) PySem.F.called_list (PySem.F.typeCall_list_1 _) PySem.F.entry_list_init
  (code_list_new _ ⟨rfl,rfl⟩) fun obj a g=>?_
 obtain⟨rfl,rfl⟩:=g;have f:(s.heap.push {cls:=.type "list",data:=.seq #[]}).get? s⁻¹=some {cls:=.type "list",data:=.seq #[]}:=Al _ rfl;obtain⟨o,c,hc,hd⟩:=id p;refine⟨⟨_,f,rfl⟩,PySem.F.args_list_init_2 _ _,Ov (A:=A.in1) (z:=s⁻¹+1) l ⟨o,Ad _ c,hc,hd⟩ (hm.at fun o e=>Ad _ e) q _ (Bf (Ao c)) (Bf hm.lt) (by show _<=(s.heap.push _).objs.size;rw[Heap.size_push];exact Ag _) f fun h' tk ts c' hk h i j=>?_⟩;exact⟨rfl,u h' tk ts c' (fun b o e=>hk b o (Aq (Ao e)) (Ad _ e)) h i fun t ht=>j t ht⟩
end
end Dk
namespace L2
open PySem PySem.Spec PyProof.Rows
section
variable{X:Cx}{aa:Ψ}{σ:St}{H:Hp}{s:Shared}
def ia:∀(a:List (Addr×List V))(H:Hp),Inv X aa σ H s->(a.map 2#3).Nodup->(∀r∈a,bb X aa H r.1/\X.s₀⁻¹<=r.1/\r.2.length<=sizeLine/\∃b:List Value,Vals r.2 b/\IsTup s.heap r.1 b.toArray)->
  ∃H',Inv X aa σ H' s/\Same H H'/\∀r∈a,H' r.1=some (.tup r.2)
 |[],H,I,_,_=>⟨H,I,Same.refl _,fun r hr=>nomatch hr⟩
 |r::rest,H,I,hn,h=>by
  obtain⟨⟨d,f1,f2,w,e,f5⟩,f,hz,b,i,j⟩:=h r Av;have c:(r.1::rest.map 2#3).Nodup:=hn;rw[Qo] at c;have v:=I.adopt (o:=.tup r.2) d f f1 e f5 ⟨hz,b,i,j⟩;have p:=Same.new (o:=.tup r.2) d;obtain⟨H',u,sm,g⟩:=ia rest (upd H r.1 (.tup r.2)) v c.2 fun q hq=>by
   obtain⟨⟨l,g1⟩,g2⟩:=h q (Ar _ hq);refine⟨⟨?_,g1⟩,g2⟩;rw[al (fun y=>c.1 (by rw[<-y];exact Qi.mpr ⟨q,hq,rfl⟩))];exact l
  refine⟨H',u,p.trans sm,fun q hq=>?_⟩;rcases Qj.mp hq with rfl|hq
  ·exact sm _ _ ac
  ·exact g q hq
end
section
variable{X:Cx}
noncomputable def pK(v d:Addr):HO:=.ext fun h=>h.IsItemsView v d
def zhG:V->List V->Hp->VK->Prop:=fun x vs H Q=>∃d kvs,x=.ref d/\vs=[]/\Rd H d 51#kvs/\∀v,H v=none->Q 5#v (upd H v (pK v d))
def gh:xU X "dict.items" zhG:=by
 intro aa s σ H x vs v us Q I a e h;obtain⟨d,kvs,rfl,rfl,hd,q⟩:=h;cases a;obtain rfl:=e.zero;obtain⟨z,hs,ys,f,o,es,ep,h1,h2,j,l,r⟩:=(show zr X.prog X.w H s.heap d 51#kvs from hd.ok I.hok);have hT:s.TypeIs 5#d "dict":=⟨o,h1,h2.1⟩;have i:MeetsIn X.prog X.w (Builtin.«dict.items» ⟨[.ref d],[]⟩) (fun _ R s=>s.TypeIs 5#d "dict"/\R (.ok (.ret 0#5)) {s with heap:=s.heap.push {cls:=.type "dict_items",data:=.fields #[.ref d]}}):=
  .of_wp fun A R s ⟨hT,h⟩=>by
   unfold Builtin.«dict.items»;refine Aa ?_;unfold Builtin.Dict.noArgs;refine Aa (wpAny_notOrdered_dict hT ?_);show wpAny _ _ (pure d) _ _ s;refine Ac ?_;show wpAny _ _ (Builtin.Dict.showsAll d >>= _) _ _ s;unfold Builtin.Dict.showsAll;rw[TJ (by rw[hs];exact Ax)];refine Aa 1#5;exact Aa (AY (Ac ⟨_,rfl,h⟩))
 refine call_meetsIn PySem.F.slot_dict_items hT PySem.F.entry_dict_items (PySem.F.args_dict_items_1 _) i ⟨hT,?_⟩;refine⟨.ref s⁻¹,_,I.laid (t':=s.toks) (o:=pK s⁻¹ d) (fun b ob q=>Ad _ q) 0#10 ?_,rfl,q _ 61#Ag⟩;refine⟨⟨_,Al _ rfl,rfl,rfl⟩,⟨_,Al _ rfl⟩,fun h1 h2 p k=>?_⟩;obtain⟨o,g,c⟩:=p;exact⟨o,k o g,c⟩
def Ox(to:TE):TE:=fun σ H Q=>to σ H fun x H1=>zhG x [] H1 Q
def Oy{bc aF:Pos}(i:PE X o to)(j:attributeBase o "items" X.env 73#o=eval o X.env:=by rfl)(l:(bc.endLine==aF.line)=true:=by rfl):PE X (.Call (.Attribute o "items" bc) [] [] aF) (Ox to):=by
 intro aa s σ H Q I h;refine wpAny_Call_method0_late j l (aT (i aa s σ H _ I h) fun v b ⟨x,H1,I1,f,c⟩=>?_);have g:=c;obtain⟨d,kvs,rfl,_,hd,_⟩:=c;cases f;obtain⟨_,_,_,_,ob,_,_,e,ex,_⟩:=(show zr X.prog X.w H1 b.heap d 51#kvs from hd.ok I1.hok);exact⟨"dict","dict.items",PySem.F.plainAttrs_dict,PySem.F.slot_dict_items,PySem.F.type_dict_items,⟨ob,e,ex.1⟩,(fun a z=>by cases z;exact⟨ob,e,ex.2.1⟩),Calls.callWith_builtin rfl (PySem.evalArgs_none (gh aa b σ H1 5#d [] 5#d [] Q I1 rfl .nil g))⟩
def Oz(hc:X.calm=true):cP X (.type "list") (fun xs H Q=>∃v d kvs,xs=[.ref v]/\H v=some (pK v d)/\Rd H d 51#kvs/\
  ∀H'(l:Addr)(ts:List Addr),Same H H'->H l=none->H' l=some 8#(ts.map V.ref)->Paired (fun t(kv:List Key×V)=>∃b,H' t=some (.tup [.ref b,kv.2])/\H' b=some 52#(kv.1.map kV)) ts kvs->Q 5#l H'):=by
 intro aa s σ H xs us Q I r h;obtain⟨v,d,kvs,rfl,W,hd,q⟩:=h;obtain⟨u,rfl,Y⟩:=vals1 r;cases Y;have su:s.heap.IsItemsView v d:=(show zr X.prog X.w H s.heap v (pK v d) from I.hok v _ W).1;obtain⟨z,hs,ys,e,o,es,ep,h1,h2,h3,J,h5⟩:=(show zr X.prog X.w H s.heap d 51#kvs from hd.ok I.hok);have hsz:es.size=kvs.length:=by
  have:=congrArg List.length J;rw[Ab,<-AN e] at this
  simpa using this
 refine Dk.Ow 2#15 su ⟨o,h1,h2,h3⟩ (by rw[hsz];exact z) fun h' tk ts c' S T E U=>?_;have O:H s⁻¹=none:=I.hok.fresh 0#10;have vv:∀ts:List Addr,Vals (ts.map V.ref) (ts.map Value.ref):=fun ts=>by
  induction ts with
  |nil=>exact .nil
  |cons b bs ih=>exact .cons rfl ih
 have I1:Inv X aa σ (upd H s⁻¹ 8#(ts.map V.ref)) {s with heap:=h',toks:=tk}:=I.laid S 0#10 ⟨by rw[Ab,E.1,hsz];exact z,_,c',vv ts,T⟩;have P:=Same.new (o:=.lst (ts.map V.ref)) O;have C:ts.length=kvs.length:=by rw[E.1,hsz]
 have D:∀(j:Nat)(t:Addr)(kv:List Key×V),ts[j]?=some t->kvs[j]?=some kv->∃(y:List Key×Addr×Value),H y.2.1=some 52#(kv.1.map kV)/\RelV kv.2 y.2.2/\ys[j]?=some y/\h'.get? t=some {cls:=.type "tuple",data:=.seq #[.ref y.2.1,y.2.2]}:=by
  intro j t kv e1 e2;obtain⟨en,g1,g2⟩:=E.2.2 j t e1;obtain⟨y,g3,g4,g5⟩:=F6 e e2;obtain⟨y',L,g7⟩:=kt_at e e2;rw[g3] at L;obtain rfl:=Ai L;have G:es.toList[j]?=some en:=by simpa using g1
  rw[J,Ah,g3] at G;simp only[Bi,Bg] at G;refine⟨y,g7,g5,g3,?_⟩;rw[g2,<-G]
  rfl
 let rows:List (Addr×List V):=(ts.zip (ys.zip kvs)).map fun q=>(q.1,[.ref q.2.1.2.1,q.2.2.2])
 have hyl:ys.length=kvs.length:=(AN e).symm;have w9:rows.map 2#3=ts:=by
  show((ts.zip (ys.zip kvs)).map fun q=>(q.1,[V.ref q.2.1.2.1,q.2.2.2])).map 2#3=ts;rw[An];show(ts.zip (ys.zip kvs)).map Prod.fst=ts;rw[Rw];rw[Rb];lia
 have p:∀(j:Nat)(t:Addr)(kv:List Key×V)(y:List Key×Addr×Value),ts[j]?=some t->kvs[j]?=some kv->ys[j]?=some y->(t,[V.ref y.2.1,kv.2])∈rows:=by
  intro j t kv y e1 e2 e3;refine Qi.mpr ⟨(t,y,kv),Ak (i:=j) ?_,rfl⟩;rw[Qt];exact⟨e1,by rw[Qt];exact⟨e3,e2⟩⟩
 obtain⟨H',I',sm,g⟩:=ia rows _ I1 (by rw[w9];exact E.2.1) fun r hr=>by
  obtain⟨⟨t,y,kv⟩,hq,rfl⟩:=Qi.mp hr;obtain⟨j,M⟩:=R6 hq;rw[Qt] at M;obtain⟨N,F⟩:=M;rw[Qt] at F;obtain⟨F,j3⟩:=F;obtain⟨y',g1,g2,g3,g4⟩:=D j t kv N j3;rw[F] at g3;obtain rfl:=Ai g3;have A:s⁻¹<t:=U t (Ak N);refine⟨I.fpOk (QY A) ?_,AG I.sz (QY A),by show 2<=sizeLine;rw[Bp];lia,[.ref y.2.1,y.2.2],.cons rfl (.cons g2 .nil),⟨_,g4,rfl,_,rfl⟩⟩;rw[al (Bf A)];exact I.hok.fresh (QY A)
 have key:∀(a:List Addr)(b:List 4#6),a.length=b.length->(∀(j:Nat) t kv,a[j]?=some t->b[j]?=some kv->∃c,H' t=some (.tup [.ref c,kv.2])/\H' c=some 52#(kv.1.map kV))->Paired (fun t(kv:List Key×V)=>∃b,H' t=some (.tup [.ref b,kv.2])/\H' b=some 52#(kv.1.map kV)) a b:=by
  intro a
  induction a with
  |nil=>
   intro b hb _;cases b with
   |nil=>exact .nil
   |cons x y=>simp at hb
  |cons x a ih=>
   intro b hb f;cases b with
   |nil=>simp at hb
   |cons y b=>exact .cons (f 0 x y rfl rfl) (ih b 6#hb fun j t kv e1 e2=>f (j+1) t kv 6#e1 6#e2)
 refine⟨.ref s⁻¹,H',I',rfl,q H' _ ts (P.trans sm) O (sm _ _ ac) (key _ _ C fun j t kv e1 e2=>?_)⟩;obtain⟨y,g1,g2,g3,g4⟩:=D j t kv e1 e2;exact⟨y.2.1,g _ (p j t kv y e1 e2 g3),sm _ _ (P _ _ g1)⟩
end
end L2
end
section
namespace L2
open PySem PySem.Spec PyProof.Rows
section
variable{X:Cx}{aa:Ψ}{σ:St}{H:Hp}{s:Shared}{D:Addr}{o:Obj}{kvs:List 4#6}
def Inv.thaw(I:Inv X aa σ H s)(g:X.H₀ D=none)(d:H D=some (.frz o 51#kvs)):Inv X aa σ (upd H D 51#kvs) s:=by
 have ne:∀{b:Addr},H b=none->b≠D:=fun{b} e=>(zg d e).symm;refine⟨I.ok,I.os,I.bare,⟨I.base.keep,I.base.slot,fun b u e n hx=>?_,I.base.there,fun b xs e=>?_,fun b ob u e=>?_,fun b ps e=>?_⟩,I.loc,I.cell,?_,fun x c e=>?_,fun p hp=>?_,fun b u e=>?_,I.len⟩
 ·have:=I.base.free b u e n hx
  rw[al (ne this)];exact this
 ·have:=I.base.tups b xs e
  rw[al (dH this d 1#8)];exact this
 ·have hb:b≠D:=fun z=>by rw[z,g] at e;cases e
  rw[al hb];exact I.base.frzs b ob u e
 ·have hb:b≠D:=fun z=>by rw[z,g] at e;cases e
  rw[al hb];exact I.base.tbls b ps e
 ·rw[al (ne I.free)];exact I.free
 ·rw[al (ne (I.freeC x c e))];exact I.freeC x c e
 ·obtain⟨h,f,i⟩:=I.pin p hp
  exact⟨h,by rw[al (ne f)];exact f,i⟩
 ·have st:∀{a:Addr}{v:HO},zr X.prog X.w H s.heap a v->zr X.prog X.w (upd H D 51#kvs) s.heap a v:=fun{a v} x=>
   x.stay (fun _ _ _ q=>q) (fun c q=>by rw[al (dH q d 1#8)];exact q) fun c xs q=>by rw[al (dH q d 1#8)];exact q
  by_cases hb:b=D
  ·subst hb
   rw[ac] at e;cases e;have hx:=I.hok b _ d;exact st (show s.heap.get? b=some o/\zr X.prog X.w H s.heap b 51#kvs from hx).2
  ·rw[al hb] at e
   exact st (I.hok b u e)
end
end L2
end
section
namespace Dk
open PySem PySem.Spec PyProof.Rows
end Dk
namespace L2
open PySem PySem.Spec PyProof.Rows
section
variable{X:Cx}
def OA(tk tv:TE):TE:=fun σ H Q=>∀p,H p=none->yt [(tk,tv)] σ (upd H p (.dT [])) fun ps H2=>∃b k v,ps=[(.ref b,v)]/\H2 p=some (.dT [])/\H2 b=some 52#(List.map kV k)/\Q 5#p (upd H2 p (.dT [(k,v)]))
def OB{pos:Pos}(hu:X.A.units+1<cLine)(hk:PE X j tk)(G:PE X l tv):PE X (.Dict [some j] [l] pos) (OA tk tv):=by
 intro aa s σ H Q I q;have F:=I.hok.fresh (Ag s⁻¹);have J:=I.laid (a:=s⁻¹) (o:=.dT []) (h':=s.heap.push {cls:=.type "dict",data:=.dict #[]}) (t':=s.toks) (fun _ _ q=>Ad _ q) 0#10 (EA s.heap I.big);refine wpAny_Dict_any rfl rfl 2#0 2#0 (aT (JO hk G JN aa _ σ _ _ J (q _ F)) fun L M ⟨ps,H2,I2,d,b,k,v,ep,e,f,p⟩=>?_);subst ep;cases d with
 |@cons p' w0 gl qk h t=>
  cases t;obtain⟨u,N⟩:=w0;obtain⟨x,y⟩:=h;cases(show u=Value.ref b from x);obtain⟨z,hd,xs,d,dd⟩:=Ey I2.hok e;cases d;unfold storeAll;rw[SJ];refine Aa (Aa (wpAny_dictSet_heap (hsz:=AL _) (knd:=tupleKind (zp X.prog X.w)) (by show X.A.units<cLine;lia) (jm I2.hok f) dd fun h' r hs=>Ac ?_));show wpAny _ _ (forIn _ _ _) _ _ _;rw[List.forIn_nil];refine Ac ⟨.ref s⁻¹,_,?_,rfl,p⟩;obtain⟨i,es,ep,hq,h2,C,D,_,E⟩:=r;refine qR I2 (by rw[e];exact True.intro) hs ⟨i,hq⟩ ⟨by show 1<=sizeLine;rw[Bp];lia,hd,_,(KT.put (kvs:=[]) .nil k f y).keeps fun c ys g=>?_,i,es,ep,hq,h2,C,D,E⟩;rw[al (dH g e 0#12)];exact g
end
end L2
end
section
namespace K67
open K1
open PySem L2 STb
noncomputable abbrev uj:Stmt:=top 25
noncomputable abbrev Dq:Stmt:=top 26
noncomputable abbrev Dr:Stmt:=top 32
section
variable{P:Program}{w:World}{K:Af}{mg:Str->Option Value}{base:Heap}{f:Addr}{fd:FuncData}
def OC{as:List Addr}{c seq:Ξ}{Q:VK}(l:SqL K H2 L 2#2)(ht:Tps H2 as c)(hd:H2 d=some 51#(eJ seq))(hz:c.length<=1000)(f:H2 D=none)(k:∀(a:Hp),Same H2 a->a D=some 8#((c.map fun p=>decide (p∈seq)).map V.bl)->Q 5#D a):cK (dQ K L) (zX 0) bM (kj 71#0 71#1) [none,some 5#d] H2 D Q:=by
 have q:=ht.length;refine zJ (xs:=as.map V.ref) (fun j σ ys a=>∃(v:Option V),σ=[v,some 5#d]/\Same H2 a/\a D=some 8#ys/\ys=((c.map fun p=>decide (p∈seq)).take j).map V.bl) ?_ ?_ ?_ ?_
 ·exact⟨none,rfl,Same.new f,ac,rfl⟩
 ·rintro j σ ys a ⟨v,rfl,sm,b,rfl⟩
  exact sm.seq l
 ·rintro j σ ys a x hx g hy ⟨v,rfl,sm,b,rfl⟩
  obtain⟨o,h,rfl⟩:=zM hx;obtain⟨p,ep,hp⟩:=ht.get h;have i:(2#2).length<=sizeLine:=by rw[Ab];exact aj ω
  have e:(c.map fun p=>decide (p∈seq))[j]?=some (decide (p∈seq)):=by rw[Ah,ep];rfl
  refine ca ⟨_,rfl,_,rfl,d,_,rfl,DGet.t (k:=p.map Sum.inl) (sm _ _ hd) (by rw[An];exact sm.tp hp),?_⟩;rw[GP];exact bK i g hy b ⟨_,rfl,sm.then f,ac,by rw[AR e,Ap];rfl⟩
 ·rintro σ ys a ⟨v,rfl,sm,b,rfl⟩
  rw[AA (by rw[Ab,Ab];lia)] at b;exact k a sm b
def Hi(K:Af):Sp:=fun vs H Q _=>∃l as ab,vs=[.ref l]/\SqL K H l 2#2/\Tps H as ab/\ab.length<=200/\∀b H',(b=true↔cT ab)->Same H H'->Q (.bl b) H'
def Ds:zj ["order","seen","piece"] ["order"] 76#uj:=⟨rfl,rfl,rfl,δ,rfl,δ,δ⟩
def OD(F:Fun K "is_order" "is_order" uj f fd)(B:Bt mg)(g_:mg "MOST_PIECES"=some (.int 200 gX))(Ci:Cl P w K mg base aK "is_piece" ["numbers"] 1 CA)(Cr:Cl P w K mg base aK "rims_of" ["piece"] 1 mJ):az P w K mg base aK 2 f fd ["order"] (Hi K):=by
 refine F.ok Ds 0#2 3#0
 ·obtain⟨l,as,ab,rfl,_⟩:=h;rfl
 ·obtain⟨l,as,ab,rfl,u,ht,bu,k⟩:=h
  have hu:=dN hr;refine⟨_,zc (cI (zq nI 1#17 (lH rfl g_ (v:=.int 200) ⟨_,rfl⟩) (ay _)) 64#eN zA)
   (zc (zk (i:=1) Ds.nd rfl (Or.inr rfl) km)
   (zc (zY AZ rfl (zu 7#0) (zh (i:=2) Ds.nd rfl 2#1)
    (zc (cI (PW.pt (qf (ji (jV (zL Ci hr rfl av (za 7#2 zb)))) (vF (IJ (Ez hu 7#2 7#1) (by with_unfolding_all rfl))))) 64#eN zA)
    (zc (cI (ji (jV (zm (ox rfl) rfl B.all oS (za (zw ["order","seen","piece"] ["rim","seen"] [none,some 1] (zu (zL Cr hr rfl av (za 7#2 zb))) (fun J C s₀ H₀ ex=>zh (i:=0) (cN ["rim","seen"]) rfl 2#1) (fun J C s₀ H₀ ex=>zE)
     (fun J C s₀ H₀ ex=>IH (Ez hu 7#0 7#1) (by with_unfolding_all rfl)) (hfr:=bX 76#uj δ) (te:=kj 71#0 71#1)) zb)))) 64#eN zA)
    (zf (gS hu 7#1 7#2 eN rfl)))))
   64#eN)),?_⟩
  have W:=ht.length;refine⟨_,rfl,l,_,rfl,.inl u,_,_,rfl,rfl,_,rfl,?_⟩;rw[Ab,TL ω];refine a6 fun d hd=>?_;refine⟨_,rfl,l,rfl,⟨_,(62#hd).seq u⟩,gC (K:=K) (a:=l) (xs:=as.map V.ref) (fun i σ H2=>∃(v:Option V),σ=[some 5#l,some 5#d,v]/\Same H H2/\H2 d=some 51#(eJ (ab.take i))/\cT (ab.take i))
   ⟨none,rfl,Same.new hd,ac,NN⟩ (fun i σ H2 _ ⟨_,_,sm,_⟩=>sm.seq u) ?_ ?_⟩
  ·rintro i x σ H2 hx ⟨v,rfl,sm,g,j⟩
   obtain⟨a,U,rfl⟩:=zM hx;obtain⟨p,ep,hp⟩:=ht.get U;have hi:i<ab.length:=(69#ep).1;have y:iE (ab.take i) p=false->∀H',Same H H'->Q (.bl false) H':=fun e H' s'=>k false H' ⟨fun z=>(by cases z),fun z=>by rw[z i p ep] at e;cases e⟩ s';refine⟨_,rfl,a,p,rfl,sm.tp hp,fun O c=>⟨_,rfl,?_⟩⟩;cases hpm:zR p with
   |false=>exact bg (y (by unfold iE;rw[hpm];rfl) O 63#c)
   |true=>
   have X:p.length<=5:=(k5.mp (by rw[<-rF];exact hpm)).2.1;refine a6 ⟨_,rfl,_,rfl,d,_,rfl,DGet.t (k:=p.map Sum.inl) (c _ _ g) (by rw[An];exact(sm.trans c).tp hp),_,rfl,?_⟩;rw[GP]
   by_cases b:p∈ab.take i
   ·rw[TK b]
    exact bg (y (by unfold iE;rw[hpm,TK b];rfl) O 63#c)
   rw[TL b];have N:=sm.trans c;refine a6 ⟨_,rfl,a,p,rfl,N.tp hp,X,fun RL H4 rs o _ L S=>⟨RL,rfl,⟨_,SqL.of L⟩,fun D T=>zy (OC (SqL.of L) S (o _ _ (c _ _ g)) (AG (k6 p) ω) T fun H5 M q=>⟨D,_,rfl,SqL.of q,_,rfl,?_⟩)⟩⟩;have G:=N.trans (o.trans M);have Y:=M _ _ (o _ _ (c _ _ g));cases hall:(((rims p).map fun r=>decide (r∈ab.take i)).all id) with
   |false=>exact bg (y (by unfold iE;rw[Tu] at hall;rw[show((rims p).all fun r=>decide (r∈ab.take i))=false from hall,Rl]) H5 G)
   |true=>
   have I:iE (ab.take i) p=true:=by unfold iE;rw[Tu] at hall;rw[hpm,TL b,show((rims p).all fun r=>decide (r∈ab.take i))=true from hall];rfl
   refine a6 ⟨_,rfl,_,rfl,d,_,rfl,DPut.t (k:=p.map Sum.inl) Y (by rw[An];exact G.tp hp) (zP (AG (CB _) (by rw[AE];lia))),⟨_,rfl,G.then hd,?_,?_⟩⟩
   ·rw[ac,CC,<-AR ep]
   ·rw[AR ep];exact NO j I
  ·rintro σ H2 ⟨v,rfl,sm,g,j⟩
   rw[Ab,W,take_all] at j;exact k true H2 ⟨fun _=>j,fun _=>rfl⟩ sm
def Hj(K:Af):Sp:=fun vs H Q _=>∃l as ab,vs=[.ref l]/\SqL K H l 2#2/\Tps H as ab/\ab.length<=200/\cT ab/\∀H',Same H H'->Q .non H'
def OE:zj ["order"] ["order"] 76#Dq:=⟨rfl,rfl,rfl,δ,rfl,δ,δ⟩
def OF(F:Fun K "must_be_order" "must_be_order" Dq f fd)(g:Cl P w K mg base aK "is_order" ["order"] 2 (Hi K)):az P w K mg base aK 3 f fd ["order"] (Hj K):=by
 refine F.ok OE 0#2 3#0
 ·obtain⟨l,as,ab,rfl,_⟩:=h;rfl
 ·obtain⟨l,as,ab,rfl,c,ht,d,e,k⟩:=h
  refine⟨_,zf (cI (ji (jV (zL g hr rfl av 1#9))) qi zA),?_⟩;refine⟨_,rfl,l,as,ab,rfl,c,ht,d,fun b H1 hb a=>⟨_,rfl,?_⟩⟩;obtain rfl:b=true:=hb.mpr e;exact a6 (k H1 a)
def Hk:Sp:=fun vs H Q _=>∃p:Int,vs=[.int p]/\(p=2\/p=3\/p=5\/p=7)/\Q .non H
def OG:zj ["prime"] ["prime"] 76#Dr:=⟨rfl,rfl,rfl,δ,rfl,δ,δ⟩
def OH{t:Addr}(F:Fun K "must_be_prime" "must_be_prime" Dr f fd)(a:mg "PRIMES"=some 5#t)(hT:∀H,SqT K H t [.int 2,.int 3,.int 5,.int 7]):az P w K mg base aK 1 f fd ["prime"] Hk:=by
 refine F.ok OG 0#2 3#0
 ·obtain⟨p,rfl,_⟩:=h;rfl
 ·obtain⟨p,rfl,hp,k⟩:=h
  refine⟨_,zf (cI (zq JA 7#0 (lH (v:=.ref t) rfl a rfl) (by with_unfolding_all rfl)) qi zA),?_⟩;refine⟨_,rfl,t,_,rfl,.inr (hT _),rfl,rfl,_,rfl,?_⟩;rcases hp with rfl|rfl|rfl|rfl<;>exact a6 k
end
end K67
end
section
namespace L2
open PySem PySem.Spec PyProof.Rows
structure Pl(o:HO):Prop where
 t:∀ps,o≠.tbl ps
 d:∀k,o≠.dT k
 z:∀ob k,o≠.frz ob 51#k
structure SF(P:Addr)(pos:Pos)(q:Str)(H H':Hp):Prop where
 keep:∀b o,Pl o->H b=some o->H' b=some o
 rd:∀{b kvs},Rd H b 51#kvs->Rd H' b 51#kvs
 dom:∀{b},H' b=none->H b=none
 tab:Tab H P pos q->Tab H' P pos q
 oth:∀b ps,b≠P->H b=some (.tbl ps)->H' b=some (.tbl ps)
section
variable{P:Addr}{pos:Pos}{q:Str}{H H' H1 H2:Hp}{a b d l:Addr}
def SF.refl(H:Hp):SF P pos q H H:=⟨fun _ _ _ h=>h,fun h=>h,fun h=>h,fun h=>h,fun _ _ _ h=>h⟩
def SF.trans(x:SF P pos q H H1)(y:SF P pos q H1 H2):SF P pos q H H2:=⟨fun b o n h=>y.keep b o n (x.keep b o n h),fun h=>y.rd (x.rd h),fun h=>x.dom (y.dom h),fun h=>y.tab (x.tab h),fun b ps n h=>y.oth b ps n (x.oth b ps n h)⟩
def Same.sf(s:Same H H'):SF P pos q H H':=⟨fun b o _ h=>s b o h,fun h=>h.same s,fun h=>s.free h,fun t=>t.same s,fun _ _ _ h=>s _ _ h⟩
def Hl:Pl 8#xs:=⟨1#2,1#2,4#3⟩
def Hm:Pl 52#xs:=⟨1#2,1#2,4#3⟩
def OI:Pl (.dK xs):=⟨1#2,1#2,4#3⟩
def SF.lst(x:SF P pos q H H')(h:H a=some 8#xs):H' a=some 8#xs:=x.keep _ _ Hl h
def SF.tup(x:SF P pos q H H')(h:H a=some 52#xs):H' a=some 52#xs:=x.keep _ _ Hm h
def SF.dK(x:SF P pos q H H')(h:H a=some (.dK xs)):H' a=some (.dK xs):=x.keep _ _ OI h
def SF.tp(x:SF P pos q H H')(h:Tp H a ps):Tp H' a ps:=x.tup h
def SF.tps(x:SF P pos q H H')(h:Tps H as ab):Tps H' as ab:=Paired.mapP h fun _ _ q=>x.tp q
def SF.seq{K:Af}(x:SF P pos q H H')(h:SqL K H l xs):SqL K H' l xs:=by
 rcases h with (z|⟨o,z⟩)|z
 ·exact .inl 74#(x.lst z)
 ·exact .inl (.inr ⟨o,x.keep _ _ ⟨1#2,1#2,4#3⟩ z⟩)
 ·exact .inr z
def Tab.off{o b:HO}(t:Tab H P pos q)(h:H a=some b)(h1:∀ps,b≠.tbl ps)(h2:∀ob u,b≠.frz ob u):Tab 81#a P pos q:=by
 have d:P≠a:=fun z=>by subst z;rcases t with e|⟨_,e,_⟩<;>exact h1 _ (Ai (h.symm.trans e))
 rcases t with e|⟨c,e,f,vs,g,e2,r⟩
 ·exact .inl (by rw[al d];exact e)
 ·exact .inr ⟨c,by rw[al d];exact e,f,vs,g,by rw[al (fun z=>by subst z;exact h2 _ _ (Ai (h.symm.trans e2)))];exact e2,r⟩
def lh(h:Rd H d 51#kvs):∃o,H d=some o:=by
 rcases h with e|⟨o,e⟩
 ·exact⟨_,e⟩
 ·exact⟨_,e⟩
def SF.put(x:SF P pos q H H1)(f:H a=none)(h:H1 a=some c)(h1:∀ps,c≠.tbl ps:=by intro ps z;cases z)(h2:∀ob u,c≠.frz ob u:=by intro ob u z;cases z):SF P pos q H (upd H1 a o):=by
 have ne:∀{b:Addr}{u:HO},H b=some u->b≠a:=fun e=>zg e f;refine⟨fun b u n e=>by rw[al (ne e)];exact x.keep b u n e,fun{b k} e=>?_,fun{b} e=>?_,fun t=>(x.tab t).off h h1 h2,fun b ps n e=>by rw[al (ne e)];exact x.oth b ps n e⟩
 ·obtain⟨u,d⟩:=lh e
  unfold Rd;rw[al (ne d)];exact x.rd e
 ·by_cases z:b=a
  ·subst z;rw[ac] at e;cases e
  ·rw[al z] at e;exact x.dom e
def SF.new(x:SF P pos q H H1)(h:H1 a=none):SF P pos q H (upd H1 a o):=x.trans (Same.sf 62#h)
def SF.one(hd:Rd H d 51#kvs)(h:Rd H1 d 51#kvs)(a:∀b,b≠d->H1 b=H b):SF P pos q H H1:=by
 have f:∀{b:Addr}{u:HO},H b=some u->(∀k,u≠.dT k)->(∀ob k,u≠.frz ob 51#k)->b≠d:=fun{b u} e n1 n2 z=>by
  subst z;rcases hd with r|⟨ob,r⟩
  ·exact n1 _ (Ai (e.symm.trans r))
  ·exact n2 _ _ (Ai (e.symm.trans r))
 refine⟨fun b u n e=>by rw[a b (f e n.d n.z)];exact e,fun{b k} e=>?_,fun{b} e=>?_,fun t=>?_,fun b ps _ e=>by rw[a b (f e 1#2 4#3)];exact e⟩
 ·by_cases z:b=d
  ·subst z
   have:HO.dT k=HO.dT kvs:=by
    rcases e with e|⟨l,e⟩<;>rcases hd with r|⟨o,r⟩<;>rw[e] at r<;>cases r<;>rfl
   rw[this];exact h
  ·unfold Rd;rw[a b z];exact e
 ·by_cases z:b=d
  ·subst z
   obtain⟨u,g⟩:=lh h;rw[e] at g;cases g
  ·rw[a b z] at e;exact e
 ·rcases t with e|⟨c,e,i,vs,j,e2,r⟩
  ·exact .inl (by rw[a _ (f e 1#2 4#3)];exact e)
  ·exact .inr ⟨c,by rw[a _ (f e 1#2 4#3)];exact e,i,vs,j,by rw[a _ (f e2 1#2 4#3)];exact e2,r⟩
def SF.lam(s:zad H H1)(a:∀b ps,b≠P->H b=some (.tbl ps)->H1 b=some (.tbl ps))(tb:Tab H1 P pos q):SF P pos q H H1:=
 ⟨fun b o n e=>s b o n.t e,fun{b k} e=>by
  rcases e with e|⟨o,e⟩
  ·exact .inl (s _ _ 1#2 e)
  ·exact .inr ⟨o,s _ _ 1#2 e⟩,fun h=>s.free a tb h,fun _=>tb,a⟩
def SF.tab2{P2:Addr}{a:Pos}{b:Str}(x:SF P pos q H H')(n:P2≠P)(t:Tab H P2 a b):Tab H' P2 a b:=by
 rcases t with e|⟨c,e,d,vs,f,e2,r⟩
 ·exact .inl (x.oth _ _ n e)
 ·exact .inr ⟨c,x.oth _ _ n e,d,vs,f,x.keep _ _ ⟨1#2,1#2,4#3⟩ e2,r⟩
end
section
variable{X:Cx}{scope:Scope}{N':List Str}{ar:List 66#Nat}{tg iter bL:Expr}{a9:List Expr}{wi:TI}{g:TG}{tc:TT}{te:TE}{pos:Pos}
def OJ{i:Nat}{x:Str}{aO r:Pos}(hc:X.calm=true)(hk:scope.kind=.function)(E:∀y∈scope.names,y.2=.cell->scope.names.lookup y.1=some .cell)(O:∀y∈scope.names,y.2=.free->scope.names.lookup y.1=some .free)(P:∀y∈scope.names,y.2=.local->scope.names.lookup y.1=some .local)(hfr:∀y∈scope.names,y.2=.free->X.env.kindOf y.1=some .cell\/X.env.kindOf y.1=some .free)(Q:mj X.N N' ar scope)(hi:PI X tg iter wi)(S:∀d C s₀ H₀ ex,PG 75#d tg g)(ht:∀d C s₀ H₀ ex,ip 75#d a9 tc)(he:∀d C s₀ H₀ ex,PE 75#d bL te)(hs:∀x,foldedSetIterable iter X.env x=pure x)(T:X.N.Nodup)(l:X.N[i]?=some x)(hx:Loc X.env.scope x)(hf:X.fn x=true\/X.env.scope.names.lookup x=some .local)(U:swapsWith 0#3 55#(.Name x aO) r.line X.env=pure true):PS X (.Assign [.Name x aO] 0#3 r) (gA (kr wi ar g tc te) (zX i)):=by
 intro aa s σ H D I h;rw[exec_Assign_Name_used _ _ _ _ U];refine Aa (wpAny_standAt (Aa ?_));show wpAny _ X.A (do let _ <-comprehension 0#3 scope X.env _ (newList []) (firstAsync [⟨tg,iter,a9,0⟩]) (firstIter [⟨tg,iter,a9,0⟩] X.env) 55#(assign (.Name x aO) X.env)) _ _ s;refine Aa (Br (ES (use:=some (assign (.Name x aO) X.env)) (R:=fun _ s'=>SP X aa D .next s') hc hk E O P hfr Q hi S ht he hs I h fun w C H' p f L q=>?_) (fun _ s' hq=>Ac (Ac hq)) fun _ _ e=>e);show wpAny _ X.A (assign (.Name x aO) X.env 5#w) _ _ p;refine wpAny_assign_Name (D3 (v:=.ref w) (L.back p.heap (Heap.SameBut.refl _ _)) T l hx rfl (fun F I5 ⟨a,G,ha⟩=>?_) hf);have M:C≠a:=by
  rcases ha with e|e
  ·rw[e];exact L.nl
  ·exact fun z=>L.nc x a e z.symm
 obtain⟨m,J⟩:=L.ns;refine⟨m,J.sameBut G M,fun h' j=>⟨_,H',?_,q⟩⟩;refine I5.call' (s':={F with heap:=h'}) (ch:=[C]) rfl ⟨fun b o q n hb hx=>?_,fun b o q n hb hx=>?_,fun b o q n hx=>n,fun b o q hx=>?_,fun b xs q=>q,fun b o u q=>q,fun b ps q=>⟨#[],by simpa using q⟩⟩ ?_ I5.bare fun b hb=>?_
 ·exact(j.2 b 6#hx).trans q
 ·exact⟨o.slots,(j.2 b 6#hx).trans q⟩
 ·exact⟨o,(j.2 b 6#hx).trans q⟩
 ·intro b u e
  refine(I5.hok b u e).stay (fun c v hc q=>(j.2 c ?_).trans q) (fun _ q=>q) fun _ _ q=>q;rintro rfl;rcases hc with z|z
  ·rw[<-z,L.no] at e;cases e
  ·rw[L.no] at z;cases z
 ·have e:b=C:=by simpa using hb
  subst e;exact⟨.inr L.far,L.nl,L.nc,L.np⟩
def OK{i:Nat}{x:Str}{aO d:Pos}(hc:X.calm=true)(hk:scope.kind=.function)(b:∀y∈scope.names,y.2≠.cell)(f:∀y∈scope.names,y.2=.free->scope.names.lookup y.1=some .free)(h:∀y∈scope.names,y.2=.local->scope.names.lookup y.1=some .local)(hfr:∀y∈scope.names,y.2=.free->X.env.kindOf y.1=some .cell\/X.env.kindOf y.1=some .free)(j:mj X.N N' ar scope)(hi:PI X tg iter wi)(l:∀a C s₀ H₀ ex,PG 1#3 tg g)(ht:∀a C s₀ H₀ ex,ip 1#3 a9 tc)(he:∀a C s₀ H₀ ex,PE 1#3 bL te)(hs:∀x,foldedSetIterable iter X.env x=pure x)(o:X.N.Nodup)(c:X.N[i]?=some x)(hx:Loc X.env.scope x)(hf:X.fn x=true\/X.env.scope.names.lookup x=some .local)(p:swapsWith 0#3 55#(.Name x aO) d.line X.env=pure true):PS X (.Assign [.Name x aO] 0#3 d) (gA (kr wi ar g tc te) (zX i)):=
 OJ hc hk (fun y hy e=>absurd e (b y hy)) f h hfr j hi (fun a C s₀ H₀ ex=>ml (X:=X) (N':=N') b a C s₀ H₀ ex▸l a C s₀ H₀ ex) (fun a C s₀ H₀ ex=>ml (X:=X) (N':=N') b a C s₀ H₀ ex▸ht a C s₀ H₀ ex) (fun a C s₀ H₀ ex=>ml (X:=X) (N':=N') b a C s₀ H₀ ex▸he a C s₀ H₀ ex) hs o c hx hf p
end
section
variable{X:Cx}{scope:Scope}{ar:List 66#Nat}{tg iter bL:Expr}{a9:List Expr}{wi:TI}{g:TG}{tc:TT}{te:TE}{pos:Pos}
def uq{i:Nat}{aO d:Pos}(b:X.N.Nodup)(c:X.N[i]?=some x)(hx:Loc X.env.scope x)(N N':List Str)(ar:List 66#Nat)(hi:PI X tg iter wi)(e:∀a C s₀ H₀ ex,PG 1#3 tg g)(ht:∀a C s₀ H₀ ex,ip 1#3 a9 tc)(he:∀a C s₀ H₀ ex,PE 1#3 bL te)(hc:X.calm=true:=by rfl)(hk:scope.kind=.function:=by rfl)(f:∀y∈scope.names,y.2≠.cell:=by decide +kernel)(h:∀y∈scope.names,y.2=.free->scope.names.lookup y.1=some .free:=by decide +kernel)(j:∀y∈scope.names,y.2=.local->scope.names.lookup y.1=some .local:=by decide +kernel)(hfr:∀y∈scope.names,y.2=.free->X.env.kindOf y.1=some .cell\/X.env.kindOf y.1=some .free)(l:X.N=N:=by rfl)(o:i3 N N' ar scope=true:=by decide +kernel)(hs:∀x,foldedSetIterable iter X.env x=pure x:=by intro _;rfl)(hf:X.fn x=true\/X.env.scope.names.lookup x=some .local:=by first|exact .inl rfl|exact .inr rfl|assumption)(p:swapsWith 0#3 55#(.Name x aO) d.line X.env=pure true:=by rfl):PS X (.Assign [.Name x aO] 0#3 d) (gA (kr wi ar g tc te) (zX i)):=
 OK hc hk f h j hfr (FE (by rw[l];exact o)) hi e ht he hs b c hx hf p
end
def Fun.ok0c{P:Program}{w:World}{K:Af}{mg:Str->Option Value}{base:Heap}{st:Stmt}{k:Nat}{sp:Sp}(F:Fun K x a st f fd)(hc:fd.code=.ref c)(S:zj N ps 76#st)(len:∀vs H Q E,sp vs H Q E->vs.length=ps.length)(g:∀(A:Around)(outer:List Env)(s:Shared)(H:Hp)(vs:List V)(Q:VK)(E:XK),Room k (A.deeper (envOfC a 76#st s⁻¹ f 5#c))->sp vs H Q E->
   ∃t,PSs (dL aK P w K mg base N a 76#st f 5#c A outer s H E).nox (zau st) t/\t {nx:=fun _ H'=>Q .non H',rt:=Q} (start N vs) H):az P w K mg base aK (k+1) f fd ps sp:=by
 obtain⟨i,j,kV,l,o,p,cdv,ct,r,rfl,lk,d⟩:=F.ex;have e:cdv=.ref c:=hc;subst e;refine Ei lk d S len fun A outer s H vs Q E hr b=>?_;obtain⟨t,h,q⟩:=g A outer s H vs Q E hr b;exact⟨t,h.nox,q⟩
end L2
namespace K67
open K1
open PySem L2 STb
noncomputable abbrev Dt:Stmt:=top 35
noncomputable abbrev Du:Stmt:=top 37
noncomputable abbrev uy:Stmt:=top 38
noncomputable abbrev uD:Stmt:=top 39
noncomputable abbrev uF:Stmt:=top 40
def Hn:Ba "max"=some (.builtin "max"):=δ
noncomputable abbrev mZ:Pos:=⟨136,32,136,58⟩
noncomputable abbrev qY:Str:=(("youngest_of":Str)++".<locals>.")++"<lambda>"
abbrev SY(Pt:Addr)(H H':Hp):Prop:=SF Pt mZ qY H H'
abbrev TY(Pt:Addr)(H:Hp):Prop:=Tab H Pt mZ qY
noncomputable def ei(oo:Ξ):Ch:=oo.zipIdx.map fun q=>(q.1,(q.2:Int))
def Ho(oo:Ξ):ksC (ei oo)=oo:=by
 unfold ksC ei;rw[An];exact Se 0 oo
def Dv{oo:Ξ}(a:oo.Nodup){t:Nat}(h:oo[t]?=some y):bj (a7 (ei oo)) (y.map Sum.inl)=some 57#t:=by
 have hm:(y,(t:Int))∈ei oo:=Qi.mpr ⟨(y,t),by rw[List.mem_zipIdx_iff_getElem?];exact h,rfl⟩;exact jE (by rw[Ho];exact a) _ hm
section
variable{P:Program}{w:World}{K:Af}{mg:Str->Option Value}{base:Heap}{f:Addr}{fd:FuncData}{Pt:Addr}
def OL{pos:Pos}(s:zG d H H1)(hd:Rd H d 51#kvs)(h:Rd H1 d 51#kvs):SF Pt pos q H H1:=by
 have a:∀{b:Addr}{u:HO},H b=some u->(∀k,u≠.dT k)->(∀ob k,u≠.frz ob 51#k)->b≠d:=fun{b u} e n1 n2 z=>by
  subst z;rcases hd with r|⟨ob,r⟩
  ·exact n1 _ (Ai (e.symm.trans r))
  ·exact n2 _ _ (Ai (e.symm.trans r))
 refine⟨fun b u n e=>s _ _ (a e n.d n.z) e,fun{b k} e=>?_,fun{b} e=>?_,fun t=>?_,fun b j _ e=>s _ _ (a e 1#2 4#3) e⟩
 ·by_cases z:b=d
  ·subst z
   have:HO.dT k=HO.dT kvs:=by
    rcases e with e|⟨l,e⟩<;>rcases hd with r|⟨p,r⟩<;>rw[e] at r<;>cases r<;>rfl
   rw[this];exact h
  ·rcases e with e|⟨o,e⟩
   ·exact .inl (s _ _ z e)
   ·exact .inr ⟨o,s _ _ z e⟩
 ·by_cases z:b=d
  ·subst z
   obtain⟨u,f⟩:=lh h;rw[e] at f;cases f
  ·cases q:H b with
   |none=>rfl
   |some o=>rw[s _ _ z q] at e;cases e
 ·rcases t with e|⟨c,e,g,vs,i,e2,r⟩
  ·exact .inl (s _ _ (a e 1#2 4#3) e)
  ·exact .inr ⟨c,s _ _ (a e 1#2 4#3) e,g,vs,i,s _ _ (a e2 1#2 4#3) e2,r⟩
def Hq{H2:Hp}{rest:List 66#V}{te:TE}{g:List Int×Int->Int}{Q:VK}(hd:H2 d=some (.frz o 51#(a7 cs)))(hz:cs.length<=1000)(step:∀(c:List Int×Int)(b:Addr)(a:Hp)(R:VK),c∈cs->Same H2 a->Tp a b c.1->(∀t,a t=none->R 5#t (upd a t (.tup [.ref b,.int (g c)])))->te (some 5#b::rest) a R)(r:H2 D=none)(k:∀(a:Hp)(ts:List Addr),Same H2 a->a D=some 8#(ts.map V.ref)->Prs a ts (cs.map fun c=>(c.1,g c))->Q 5#D a):cK (mK d o (a7 cs)) (zX 0) bM te (none::rest) H2 D Q:=by
 refine kt cs.length (fun j σ ys a=>∃(v:Option V)(ts:List Addr),σ=v::rest/\Same H2 a/\a D=some 8#ys/\ys=ts.map V.ref/\Prs a ts ((cs.map fun c=>(c.1,g c)).take j)) ?_ ?_ ?_ ?_ ?_
 ·exact⟨none,[],rfl,Same.new r,ac,rfl,.nil⟩
 ·rintro σ ys a ⟨v,ts,rfl,sm,f,rfl,hp⟩
  exact⟨(iC cs).symm,sm _ _ hd⟩
 ·rintro i σ ys a hi ⟨v,ts,rfl,sm,f,rfl,hp⟩
  exact⟨by rw[iC];exact hi,sm _ _ hd⟩
 ·rintro i σ ys a x H' hi hy ⟨v,ts,rfl,sm,f,rfl,hp⟩ ⟨rfl,kv,b,w,rfl,p⟩
  obtain⟨c,q,rfl⟩:=G1 w;have h:=Ak q;have e:(cs.map fun c=>(c.1,g c))[i]?=some (c.1,g c):=by rw[Ah,q];rfl
  refine ca (step c b _ _ h sm (tW p) fun t u=>?_);have l:=Same.new (o:=.tup [.ref b,.int (g c)]) u;refine bK (aj ω) hi hy (l _ _ f) ⟨_,ts++[t],rfl,(63#l).then r,ac,by rw[Ap];rfl,?_⟩;rw[AR e];exact Prs.upd (Prs.snoc (hp.same l) ⟨b,ac,l.tp (tW p)⟩) (l _ _ f) 3#8
 ·rintro σ ys a ⟨v,ts,rfl,sm,f,rfl,hp⟩
  rw[AA (by rw[Ab];exact Ag _)] at hp;exact k a ts sm f hp
def Hr(K:Af):Sp:=fun vs H Q _=>∃l as oo,vs=[.ref l]/\SqL K H l 2#2/\Tps H as oo/\oo.Nodup/\oo.length<=200/\∀D H',Same H H'->H D=none->H' D=some 51#(a7 (ei oo))->Q 5#D H'
def uG:zj ["order","times","time","piece"] ["order"] 76#Dt:=⟨rfl,rfl,rfl,δ,rfl,δ,δ⟩
def OM(F:Fun K "times_of" "times_of" Dt f fd)(B:Bt mg):az P w K mg base aK 1 f fd ["order"] (Hr K):=by
 refine F.ok uG 0#2 3#0
 ·obtain⟨l,as,oo,rfl,_⟩:=h;rfl
 ·obtain⟨l,as,oo,rfl,v,ht,C,L,k⟩:=h
  have hu:=dN hr;have G:=ht.length;refine⟨_,zc (zk (i:=1) uG.nd rfl 2#1 km)
   (zc (zY AZ rfl (z0 rfl B.enumerate Cv 1#9) (lR rfl (zT (zh (i:=2) uG.nd rfl 2#1) (zT (zh (i:=3) uG.nd rfl 2#1) lQ)))
    (zf (gS hu 7#1 7#3 7#2 rfl)))
   (zf (zl 7#1))),?_⟩
  intro d hd;refine⟨_,rfl,l,rfl,⟨_,(62#hd).seq v⟩,EX (K:=K) (a:=l) (xs:=as.map V.ref) (fun i σ H2=>∃(c g:Option V),σ=[some 5#l,some 5#d,c,g]/\Same H H2/\H2 d=some 51#(a7 ((ei oo).take i)))
   ⟨none,none,rfl,Same.new hd,ac⟩ (fun i σ H2 _ ⟨_,_,_,sm,_⟩=>sm.seq v) ?_ ?_⟩
  ·rintro i x p σ H2 hx ⟨c,g,rfl,sm,b⟩ hp
   obtain⟨a,D,rfl⟩:=zM hx;obtain⟨y,q,hy⟩:=ht.get D;have u:=Same.new (o:=.tup [.int i,.ref a]) hp;have e:(ei oo)[i]?=some (y,(i:Int)):=by unfold ei;rw[Ah,List.getElem?_zipIdx,q];simp
   have hi:i<oo.length:=(69#q).1;have I:y∉ksC ((ei oo).take i):=fun z=>by
    unfold ksC at z;rw[Th] at z;have z:y∈(ksC (ei oo)).take i:=z;rw[Ho] at z;obtain⟨j,r⟩:=Ql.mp z;have J:j<i:=by
     have:=(69#r).1;rw[AE] at this;lia
    rw[QU J] at r;have:=(Rm ω C).mp (r.trans q.symm);lia
   refine⟨p,_,rfl,SqT.of ac,rfl,_,_,rfl,_,_,rfl,rfl,?_⟩;refine⟨_,rfl,_,rfl,_,rfl,d,_,rfl,DPut.t (k:=y.map Sum.inl) (u _ _ b) (by rw[An];exact u.tp (sm.tp hy)) (zP (by rw[iC,AE];lia)),⟨_,_,rfl,(63#u).then hd,?_⟩⟩;rw[ac,C3,GQ _ I,AR e]
  ·rintro σ H2 ⟨c,g,rfl,sm,b⟩
   have:(2#2).length=(ei oo).length:=by unfold ei;rw[Ab,Ab,S7];exact G
   rw[this,take_all] at b;exact⟨_,rfl,k d H2 sm hd b⟩
def Yst(oo:Ξ)(cs:Ch)(y:List Int)(t:Nat):Prop:=y∈ksC cs/\oo[t]?=some y/\∀x∈ksC cs,∀u,oo[u]?=some x->u<=t
def Dw(Pt:Addr):Sp:=fun vs H Q _=>∃d T cs oo,vs=[.ref d,.ref T]/\Rd H d 51#(a7 cs)/\Rd H T 51#(a7 (ei oo))/\oo.Nodup/\cs≠[]/\(∀q∈ksC cs,q∈oo)/\TY Pt H/\
 ∀b y t H',SY Pt H H'->Tp H' b y->Yst oo cs y t->Q 5#b H'
def ON:zj ["chain","times"] ["chain","times"] 76#Du:=⟨rfl,rfl,rfl,δ,rfl,δ,δ⟩
def OO(F:Fun K "youngest_of" "youngest_of" Du f fd)(B:Bt mg)(Y:mg "max"=none)(bI:fd.code=.ref c)(hC:PySem.W.CodeHd base c Pt)(dF:BM mg base):az P w K mg base aK 4 f fd ["chain","times"] (Dw Pt):=by
 refine F.ok0c bI ON 0#2 (fun A outer s H vs Q E hr h=>?_)
 ·obtain⟨d,T,cs,oo,rfl,_⟩:=h;rfl
 ·obtain⟨d,T,cs,oo,rfl,hd,hT,J,D,i,tb,k⟩:=h
  refine⟨_,zf (zl (Om (k:=1) (iy:=1) (x:="piece") (y:="times") (te:=gt 71#1 71#0) hr rfl Y Hn hC rfl dF rfl rfl rfl rfl ⟨rfl,rfl,rfl,rfl,rfl,δ,Hg⟩ (fun _ _ _ _ _ _=>rfl)
    (fun s H f ah c'=>zF (dN ((Room.in1 hr).deeper _)) 7#1 7#0 3#1) 56#(zB (Mc rfl) rfl B.list kD 1#9) rfl)),?_⟩
  refine⟨_,rfl,d,a7 cs,rfl,hd,fun bs N L O=>?_⟩;have tk:=Nw N;have M:=tk.length;rw[tF] at M;have p:=Same.new (o:=.lst (bs.map V.ref)) O;have yV:∀y∈ksC cs,∃t:Nat,oo[t]?=some y:=fun y hy=>Ql.mp (i y hy);have G:∀y∈ksC cs,oo[oo.idxOf y]?=some y:=fun y hy=>by
   have h:=RZ (i y hy);rw[Ae h,List.getElem_idxOf h]
  refine⟨L,bs,(ksC cs).map fun y=>(oo.idxOf y:Int),.ref T,rfl,SqL.of ac,by rw[Ab,tF];lia,?_,rfl,tb.same p,fun H2 b j a n v g=>?_,fun H2 j a n b C S v g U=>?_⟩
  ·cases cs with
   |nil=>exact absurd rfl D
   |cons c r=>simp at M;lia
  ·obtain⟨y,l,hy⟩:=(p.tps tk).get v
   rw[Ah,l] at g;obtain rfl:=Ai g;have q:=Ak l;have X:Rd H2 T 51#(a7 (ei oo)):=by
    rcases hT.same p with e|⟨o,e⟩
    ·exact .inl (b _ _ 1#2 e)
    ·exact .inr ⟨o,b _ _ 1#2 e⟩
   refine⟨_,rfl,_,rfl,T,.int (oo.idxOf y),rfl,.inr ⟨a7 (ei oo),y.map Sum.inl,a,X,rfl,by rw[An];exact b.tp hy,(Dv J (G y q)).symm⟩,rfl,rfl⟩
  ·obtain⟨y,l,hy⟩:=(p.tps tk).get v
   rw[Ah,l] at g;obtain rfl:=Ai g;have q:=Ak l;refine k a y (oo.idxOf y) H2 ((Same.sf p).trans (SF.lam b C S)) (b.tp hy) ⟨q,G y q,fun x hx u I=>?_⟩;have h1:=U (oo.idxOf x:Int) 84#hx;have h2:=(Rm (69#I).1 J).mp (I.trans (G x hx).symm);have h1:((oo.idxOf x:Nat):Int)<=((oo.idxOf y:Nat):Int):=h1;lia
def Dx(Pt:Addr):Sp:=fun vs H Q _=>∃d cs p,vs=[.ref d,.int p]/\Rd H d 51#(a7 cs)/\(ksC cs).Nodup/\cs.length<=1000/\0<p/\∀D H',SY Pt H H'->H D=none->H' D=some 51#(a7 (md p cs))->Q 5#D H'
def OP:zj ["chain","prime"] ["chain","prime"] 76#uy:=⟨rfl,rfl,rfl,δ,rfl,δ,δ⟩
abbrev OQ:TE:=cy (zK 71#0 (zK (bS (rI (fun _ j=>0<j) fun i j=>.int (i%j)) (gt 71#1 71#0) 71#2) bw))
def OS(F:Fun K "taken_by" "taken_by" uy f fd)(L:Cl P w K mg base aK "sum_of" ["terms"] 1 (tM K)):az P w K mg base aK 2 f fd ["chain","prime"] (Dx Pt):=by
 refine F.ok OP 0#2 3#0
 ·obtain⟨d,cs,p,rfl,_⟩:=h;rfl
 ·obtain⟨d,cs,p,rfl,hd,J,hz,hp,k⟩:=h
  have hu:=dN hr;refine⟨_,zf (zl (zL L hr rfl av (za (zw ["chain","prime"] ["piece","chain","prime"] [none,some 0,some 1] (sO 7#0) (fun e C s₀ H₀ ex=>zh (i:=0) (cN ["piece","chain","prime"]) rfl 2#1) (fun e C s₀ H₀ ex=>zE)
   (fun e C s₀ H₀ ex=>zQ (za 7#0 56#(zv il (zF hu 7#1 7#0 3#1) 7#2))) (hfr:=bX 76#uy δ) (te:=OQ)) zb))),?_⟩
  refine⟨_,rfl,d,a7 cs,rfl,hd,fun o H1 a q=>fun D r=>zy (Hq (g:=fun c=>c.2%p) a hz (fun c b l R hc sm hb u=>?_) r fun H2 ts j v x=>?_)⟩
  ·refine⟨_,rfl,_,rfl,_,rfl,d,_,rfl,.inr ⟨a7 cs,c.1.map Sum.inl,b,.inr ⟨o,sm _ _ a⟩,rfl,by rw[An];exact hb,(jE J c hc).symm⟩,_,rfl,_,_,rfl,rfl,hp,aj 2#0,fun t ht=>u t ht⟩
  ·have f1:SY Pt H H1:=SF.one hd (.inr ⟨o,a⟩) q
   refine⟨D,ts,_,rfl,SqL.of v,x,by rw[Ab];exact hz,fun R l y G I=>?_⟩;exact k R l (f1.trans (Same.sf (j.trans y))) (f1.dom (j.free G)) I
def Hs:Sp:=fun vs H Q _=>∃wt g p,vs=[.int wt,.int g,.int p]/\(-(2 ^ 64)<wt/\wt<2 ^ 64)/\2<=p/\p<=100/\(∃k:Nat,(k:Int)<p/\p ∣ (k:Int)*wt-g)/\∀(k:Int) H',0<=k->k<p->p ∣ k*wt-g->Same H H'->Q 57#k H'
def OT:zj ["weight","goal","prime"] ["weight","goal","prime"] 76#uD:=⟨rfl,rfl,rfl,δ,rfl,δ,δ⟩
abbrev Ht:TT:=iQ (bS xJ (bS (rI (fun _ j=>0<j) fun i j=>.int (i%j)) (bS (fg fun i j=>.int (i-j)) (bS (rI CMul fun i j=>.int (i*j)) 71#0 71#1) 71#2) 71#3) (tC 57#0))
def OU{H2:Hp}{wt g p:Int}{n:Nat}{Q:VK}(d:n<=100)(hw:-(2 ^ 64)<wt/\wt<2 ^ 64)(hp:0<p)(c:H2 D=none)(k:∀a,Same H2 a->a D=some (.lst (((AO n).filter fun j:Nat=>decide (((j:Int)*wt-g)%p=0)).map fun j:Nat=>V.int j))->Q 5#D a):cK (ik 0 n) (zX 0) Ht 71#0 [none,some 57#wt,some 57#g,some 57#p] H2 D Q:=by
 refine A3 (fun j σ ys a=>∃(v:Option V),σ=[v,some 57#wt,some 57#g,some 57#p]/\Same H2 a/\a D=some 8#ys/\ys=(((AO n).take j).filter fun j:Nat=>decide (((j:Int)*wt-g)%p=0)).map fun j:Nat=>V.int j) ?_ ?_ ?_
 ·exact⟨none,rfl,Same.new c,ac,rfl⟩
 ·rintro i σ ys a hi hy ⟨v,rfl,sm,b,rfl⟩
  have e:(AO n)[i]?=some i:=by rw[Sb hi]
  refine⟨_,rfl,_,rfl,_,_,rfl,rfl,.inr hw,_,rfl,_,_,rfl,rfl,_,rfl,_,_,rfl,rfl,hp,rfl,_,rfl,?_⟩;rw[show(0:Int)+(i:Int)=i from ω]
  by_cases h:((i:Int)*wt-g)%p=0
  ·rw[TK (congrArg V.int h)]
   refine bg ⟨_,rfl,bK (aj ω) hi hy b ⟨_,rfl,sm.then c,ac,?_⟩⟩;rw[AR e,QA,RP (by exact TK h),Sk,Ap]
   rfl
  ·rw[TL (fun z=>h (by injection z))]
   refine a6 (hE hi hy ⟨_,rfl,sm,b,?_⟩);rw[AR e,QA,RQ 6#h,Sk,Ro]
 ·rintro σ ys a ⟨v,rfl,sm,b,rfl⟩
  rw[AA (by rw[BE];exact Ag _)] at b;exact k a sm b
def OV(F:Fun K "times_into" "times_into" uD f fd)(B:Bt mg):az P w K mg base aK 1 f fd ["weight","goal","prime"] Hs:=by
 refine F.ok OT 0#2 3#0
 ·obtain⟨wt,g,p,rfl,_⟩:=h;rfl
 ·obtain⟨wt,g,p,rfl,hw,h2,x,⟨l,y,o⟩,k⟩:=h
  refine⟨_,zf (zl (zx zD (zw ["weight","goal","prime"] ["often","weight","goal","prime"] [none,some 0,some 1,some 2] (lT rfl B.range (za 7#2 zb)) (fun a C s₀ H₀ ex=>zh (i:=0) (cN ["often","weight","goal","prime"]) rfl 2#1) (fun a C s₀ H₀ ex=>yR (zq lV (zv il (zv nD (zv gF 7#0 7#1) 7#2) 7#3) ze (ay _)))
   (fun a C s₀ H₀ ex=>pv 0) (hfr:=bX 76#uD δ) (tc:=Ht) (te:=ax 0)) ze 3#1)),?_⟩
  refine⟨_,rfl,p,rfl,ω,ω,fun D c=>zy (OU (n:=p.toNat) ω hw ω c fun H1 d b=>?_)⟩;have hm:l∈(AO p.toNat).filter fun j:Nat=>decide (((j:Int)*wt-g)%p=0):=Qv.mpr ⟨Qn.mpr ω,TK (Int.emod_eq_zero_of_dvd o)⟩;cases e:(AO p.toNat).filter fun j:Nat=>decide (((j:Int)*wt-g)%p=0) with
  |nil=>rw[e] at hm;cases hm
  |cons j r=>
   have v:j∈(AO p.toNat).filter fun j:Nat=>decide (((j:Int)*wt-g)%p=0):=by rw[e];exact .head _
   obtain⟨q,u⟩:=Qv.mp v;have:=Qn.mp q;rw[e] at b;exact⟨D,_,0,.int j,rfl,rfl,SqL.of b,im (j:=0) rfl,k j H1 ω ω (Rn (TN u)) d⟩
def Hu(Pt:Addr):Sp:=fun vs H Q _=>∃d e a b k p,vs=[.ref d,.int k,.ref e,.int p]/\Rd H d 51#(a7 a)/\Rd H e 51#(a7 b)/\(ksC a).Nodup/\(ksC b).Nodup/\a.length<=200/\b.length<=200/\0<p/\(-(2 ^ 64)<k/\k<2 ^ 64)/\∀D H',SY Pt H H'->H D=none->H' D=some 51#(a7 (less p a k b))->Q 5#D H'
def Hv:zj ["chain","often","other","prime","taken"] ["chain","often","other","prime"] 76#uF:=⟨rfl,rfl,rfl,δ,rfl,δ,δ⟩
abbrev OW:TE:=cy (zK 71#0 (zK (bS (rI CMul fun i j=>.int (i*j)) (wX (rU fun i=>.int (-i)) 71#1) (gt 71#2 71#0)) bw))
def OX(F:Fun K "less_by" "less_by" uF f fd)(B:Bt mg)(Cs:Cl P w K mg base aK "sum_of" ["terms"] 1 (tM K))(Ct:Cl P w K mg base aK "taken_by" ["chain","prime"] 2 (Dx Pt)):az P w K mg base aK 3 f fd ["chain","often","other","prime"] (Hu Pt):=by
 refine F.ok Hv 0#2 3#0
 ·obtain⟨d,e,a,b,k,p,rfl,_⟩:=h;rfl
 ·obtain⟨d,e,a,b,n,p,rfl,hd,he,na,nb,la,lb,hp,hn,k⟩:=h
  have hu:=dN hr;refine⟨_,zc (uq (i:=4) Hv.nd rfl 2#1 ["chain","often","other","prime","taken"] ["piece","often","other"] [none,some 1,some 2] (sO 7#2) (fun G C s₀ H₀ ex=>zh (i:=0) (cN ["piece","often","other"]) rfl 2#1) (fun G C s₀ H₀ ex=>zE)
    (fun G C s₀ H₀ ex=>zQ (za 7#0 56#(zv gF (xp xB 7#1) (zF hu 7#2 7#0 3#1)))) (hfr:=bX 76#uF δ) (te:=OW))
   64#(zL Ct hr rfl av (za (zL Cs hr rfl av 56#(zv lZ (zB (Oz rfl) rfl B.list kD (za (Oy 7#0) zb)) 7#4)) (za 7#3 zb))),?_⟩
  refine⟨_,rfl,e,a7 b,rfl,he,fun o H1 u O=>fun D T=>zy (Hq (g:=fun c=>-n*c.2) u ω (fun c t H3 R hc sm hb U=>?_) T fun H2 ts W X I=>?_)⟩
  ·refine⟨_,rfl,_,rfl,_,rfl,_,rfl,_,rfl,e,_,rfl,.inr ⟨a7 b,c.1.map Sum.inl,t,.inr ⟨o,sm _ _ u⟩,rfl,by rw[An];exact hb,(jE nb c hc).symm⟩,_,_,rfl,rfl,.inl ω,aj 2#0,fun t ht=>U t ht⟩
  ·have f1:SY Pt H H1:=SF.one he (.inr ⟨o,u⟩) O
   have f2:SY Pt H H2:=f1.trans (Same.sf W);refine⟨_,rfl,d,a7 a,rfl,rfl,f2.rd hd,fun v Y=>?_⟩;have J:=Same.new (o:=pK v d) Y;refine⟨v,d,a7 a,rfl,ac,(f2.rd hd).same J,fun j l us s4 kF wx fO=>⟨_,rfl,?_⟩⟩;have L:Prs j us a:=by
    have:∀{us:List Addr}{a:Ch},Paired (fun t(kv:List Key×V)=>∃b,j t=some (.tup [.ref b,kv.2])/\j b=some 52#(kv.1.map kV)) us (a7 a)->Prs j us a:=by
     intro us a
     induction a generalizing us with
     |nil=>intro h;cases h;exact .nil
     |cons c r ih=>
      intro h;cases h with
      |cons q t=>
       obtain⟨b,q1,q2⟩:=q;exact .cons ⟨b,q1,tW q2⟩ (ih t)
    exact this fO
   have x:=J.trans s4;have pZ:=L.length;have y:=I.length;rw[Ab] at y;refine⟨l,D,_,_,rfl,rfl,wx,x _ _ X,by rw[Ab,Ab];exact aj ω,fun q hq=>?_⟩;have M:=Same.new (o:=.lst (us.map V.ref++ts.map V.ref)) hq;refine⟨q,us++ts,a++b.map fun c=>(c.1,-n*c.2),rfl,SqL.of (by rw[ac,Ap]),(L.append (I.same x)).same M,by rw[Az,Ab];lia,fun S H6 s6 hS0 sd=>?_⟩;have N:SY Pt H H6:=f2.trans (Same.sf ((x.trans M).trans s6));refine⟨_,rfl,S,_,p,rfl,.inl sd,jG _,AG (GY _) (by rw[Az,Ab];lia),hp,fun D7 H7 f7 bR jM=>?_⟩;exact k D7 H7 (N.trans f7) (N.dom bR) jM
end
end K67
end
section
namespace K67
open K1
open PySem L2 STb
noncomputable abbrev Dy:Stmt:=top 36
structure RA where
 x:a_
 t:Addr
 c:Addr
 g:Addr
def RwAt(H:Hp)(r:RA):Prop:=Rd H r.c 51#(a7 r.x.c)/\((r.x.d=none/\H r.t=some (.tup [.int r.x.hi,.int r.x.b,.non,.ref r.c,.non]))\/∃e:Nat,r.x.d=some e/\Rd H r.g 51#(a7 r.x.g)/\H r.t=some (.tup [.int r.x.hi,.int r.x.b,.int e,.ref r.c,.ref r.g]))
def RwAt.sf{pos:Pos}(h:RwAt H r)(s:SF P pos q H H'):RwAt H' r:=by
 obtain⟨h1,h2⟩:=h;refine⟨s.rd h1,?_⟩;rcases h2 with ⟨e,h2⟩|⟨e,h2,a,b⟩
 ·exact .inl ⟨e,s.tup h2⟩
 ·exact .inr ⟨e,h2,s.rd a,s.tup b⟩
noncomputable def dW(L:List RA):List (Key×V):=L.map fun r=>((Sum.inl (r.x.b:Int):Key),V.ref r.t)
noncomputable abbrev de(L:List RA):List a_:=L.map RA.x
def Dz:∀{L:List RA},((de L).map (·.b)).Nodup->∀{r:RA},r∈L->bj (dW L) (Sum.inl (r.x.b:Int))=some (.ref r.t)
 |q::L,nd,r,hr=>by
  rw[show(de (q::L)).map (·.b)=q.x.b::(de L).map (·.b) from rfl,Qo] at nd;show bj ((Sum.inl (q.x.b:Int),V.ref q.t)::dW L) _=_
  by_cases e:(q.x.b:Int)=r.x.b
  ·rcases Qj.mp hr with rfl|hr'
   ·exact qJ rfl
   ·exact absurd (Qi.mpr ⟨r.x,Qi.mpr ⟨r,hr',rfl⟩,ω⟩) nd.1
  ·rw[qK (fun z=>e (by injection z))]
   rcases Qj.mp hr with rfl|hr'
   ·exact absurd rfl e
   ·exact Dz nd.2 hr'
def uI{oo:Ξ}(a:(ksC cs).Nodup)(h:∀q∈ksC cs,q∈oo):cs.length<=oo.length:=by
 have:=a.length_le_of_subset h
 rwa [tF] at this
def Yst.yg{t:Nat}(h:Yst oo cs y t)(O:gu oo)(hc:ChP p cs)(hp:0<p):Bar.Yg p (aX oo cs) t:=He O hc hp h.1 h.2.1 h.2.2
def Hw{cs:Ch}(h:¬cs.length=0):cs≠[]:=fun z=>h (by rw[z];rfl)
section
variable{P:Program}{w:World}{K:Af}{mg:Str->Option Value}{base:Heap}{f:Addr}{fd:FuncData}{Pt:Addr}
structure WIn(Pt:Addr)(H:Hp)(R T:Addr)(L:List RA)(oo:Ξ)(p:Int)(t:Nat):Prop where
 hR:H R=some (.dK (dW L))
 rw:∀r∈L,RwAt H r
 hT:Rd H T 51#(a7 (ei oo))
 O:gu oo
 few:oo.length<=200
 pr:Bar.Pr p
 p7:p<=7
 pap:dG p oo t (de L)
 tb:TY Pt H
def WIn.sf{R T:Addr}{t:Nat}(x:WIn Pt H R T L oo p t)(s:SY Pt H H'):WIn Pt H' R T L oo p t:=
 ⟨s.dK x.hR,fun r hr=>(x.rw r hr).sf s,s.rd x.hT,x.O,x.few,x.pr,x.p7,x.pap,s.tab x.tb⟩
def Hx(Pt:Addr):Sp:=fun vs H Q _=>∃a R T L q oo t p,vs=[.ref a,.ref R,.ref T,.int p]/\Tp H a q/\WIn Pt H R T L oo p t/\oo[t]?=some q/\
 ∀u c g left fill H',SY Pt H H'->H c=none->H g=none->c≠g->H u=none->H' u=some (.tup [.ref c,.ref g])->Rd H' c 51#(a7 left)->Rd H' g 51#(a7 fill)->Wk p oo t q left fill->
  (left=[]\/∃y e,Yst oo left y e/\∃r∈L,r.x.b=e/\r.x.d=none)->Q 5#u H'
noncomputable abbrev OY:List Str:=["piece","rows","times","prime","filling","left","young","row","often"]
def jI:zj OY ["piece","rows","times","prime"] 76#Dy:=⟨rfl,rfl,rfl,δ,rfl,δ,δ⟩
def OZ(F:Fun K "worked_off" "worked_off" Dy f fd)(B:Bt mg)(Cm:Cl P w K mg base aK "seam_of" ["chain"] 3 G2)(Ct:Cl P w K mg base aK "taken_by" ["chain","prime"] 2 (Dx Pt))(Cy:Cl P w K mg base aK "youngest_of" ["chain","times"] 4 (Dw Pt))(Ci:Cl P w K mg base aK "times_into" ["weight","goal","prime"] 1 Hs)(qw:Cl P w K mg base aK "less_by" ["chain","often","other","prime"] 3 (Hu Pt)):az P w K mg base aK 5 f fd ["piece","rows","times","prime"] (Hx Pt):=by
 refine F.ok jI 0#2 3#0
 ·obtain⟨a,R,T,L,q,oo,t,p,rfl,_⟩:=h;rfl
 ·obtain⟨a,R,T,L,q,oo,t,p,rfl,ha,I,hq,k⟩:=h
  have hu:=dN hr;have h2:=I.pr.two;have h7:=I.p7;have pF:=Ak hq;refine⟨_,zc (zk (i:=4) jI.nd rfl 2#1 (OB hu 7#0 ze))
   (zc (zk (i:=5) jI.nd rfl 2#1 (zL Ct hr rfl av (za (zL Cm hr rfl av (za 7#4 zb)) (za 7#3 zb))))
   (zc (IS AZ (zq nI (zm Hh rfl B.len ee (za 7#5 zb)) ze (ay _))
    (zc (zk (i:=6) jI.nd rfl 2#1 (zL Cy hr rfl av (za 7#5 (za 7#2 zb))))
    (zc (zk (i:=7) jI.nd rfl 2#1 (zF hu 7#1 (zF hu 7#2 7#6 3#1) 3#1))
    (zc (cI (zq ka (zx zC 7#7 ze 3#1) fC (ay _)) (zf IN) zA)
    (zc (zk (i:=8) jI.nd rfl 2#1 (zL Ci hr rfl av (za (zF hu (zx zC 7#7 ze 3#1) 7#6 3#1) (za (zF hu 7#5 7#6 3#1) (za 7#3 zb)))))
    (zc (zk (i:=5) jI.nd rfl 2#1 (zL qw hr rfl av (za 7#5 (za 7#8 (za (zx zC 7#7 ze 3#1) (za 7#3 zb))))))
    (zf (zk (i:=4) jI.nd rfl 2#1 (zL qw hr rfl av (za 7#4 (za 7#8 (za (zx zC 7#7 ze 3#1) (za 7#3 zb)))))))))))))
   64#(zQ (za 7#5 (za 7#4 zb))))),?_⟩
  intro S gM;have uH:=Same.new (o:=.dT []) gM;refine⟨_,rfl,a,q.map Sum.inl,.int 1,rfl,ac,by rw[An];exact uH.tp ha,?_⟩;rw[IB];have s1:=Same.new (o:=.dT [((q.map Sum.inl:List Key),V.int 1)]) gM;have jl:upd H S (.dT [((q.map Sum.inl:List Key),V.int 1)]) S=some 51#(a7 [(q,1)]):=ac;generalize upd H S (.dT [((q.map Sum.inl:List Key),V.int 1)])=H1 at s1 jl;refine⟨_,rfl,S,[(q,1)],rfl,.inl jl,by simp[ksC],by simp,fun c hc=>by rw[Qk.mp hc];exact I.O.le q pF,fun M H2 jj oJ BP t_=>?_⟩;have f2:SY Pt H H2:=(Same.sf s1).trans (OL jj 74#jl oJ);have jT:(Da [(q,(1:Int))]).length<=1000:=by
   refine AG (GY _) ?_;have:=C_ (cs:=[(q,(1:Int))]) fun c hc=>by rw[Qk.mp hc];exact I.O.le q pF
   simp at this ⊢;lia
  refine⟨_,rfl,M,_,p,rfl,.inl t_,jG _,jT,ω,fun c0 H3 f3 jn vL=>?_⟩;have vR:=f2.trans f3;refine⟨fun m σ D=>∃(left fill:Ch)(c g:Addr)(G J v:Option V),σ=[some 5#a,some 5#R,some 5#T,some 57#p,some 5#g,some 5#c,G,J,v]/\SY Pt H D/\H c=none/\H g=none/\c≠g/\Rd D c 51#(a7 left)/\Rd D g 51#(a7 fill)/\Wk p oo t q left fill/\Bar.Bl p (aX oo left) m,
   ⟨t,_,_,c0,S,none,none,none,rfl,vR,f2.dom jn,gM,fun z=>?_,.inl vL,f3.rd oJ,Hf I.O h2 hq,(Hf I.O h2 hq).wo.bl⟩,?_⟩
  ·subst z
   obtain⟨o,eo⟩:=lh oJ;rw[jn] at eo;cases eo
  ·rintro m σ D ⟨left,fill,c,g,G,J,v,rfl,f4,hc,hg,nW,X,rg,W,bl⟩
   have fin:∀(G J v:Option V)(j:Hp),SY Pt D j->(left=[]\/∃y t0,Yst oo left y t0/\∃r∈L,r.x.b=t0/\r.x.d=none)->cy (zK 71#5 (zK 71#4 bw)) [some 5#a,some 5#R,some 5#T,some 57#p,some 5#g,some 5#c,G,J,v] j Q:=by
    intro G J v j f5 hw;have N:=f4.trans f5;refine⟨_,rfl,_,rfl,aj 2#0,fun u fm=>?_⟩;have U:=Same.new (o:=.tup [.ref c,.ref g]) fm;exact k u c g left fill _ (N.trans (Same.sf U)) hc hg nW (N.dom fm) ac ((f5.rd X).same U) ((f5.rd rg).same U) W hw
   refine⟨_,rfl,c,a7 left,rfl,X,_,_,rfl,rfl,_,rfl,?_⟩;rw[iC]
   by_cases hl:left.length=0
   ·have bV:left=[]:=QR hl
    rw[TL ω];exact a6 (fin G J v D (SF.refl D) 74#bV)
   rw[TK ω];have I4:=I.sf f4;refine bg ⟨_,fun am H' h=>h,?_⟩;refine⟨_,rfl,_,rfl,c,T,left,oo,rfl,X,I4.hT,I.O.nd,Hw hl,fun z hz=>(W.li z hz).1,I4.tb,fun b y t0 j f5 hb hy=>?_⟩;have N:=f4.trans f5;have I5:=I4.sf f5;have iI:=hy.yg I.O W.l ω;obtain⟨x,hx,ex⟩:=Od I.pr I.O I.pap W iI;obtain⟨r,hr',rfl⟩:=Qi.mp hx;subst ex;have gT:DGet j T 5#b 55#(.int r.x.b):=.inr ⟨a7 (ei oo),y.map Sum.inl,b,I5.hT,rfl,by rw[An];exact hb,(Dv I.O.nd hy.2.1).symm⟩;have hnd:((de L).map (·.b)).Nodup:=I.pap.srt.imp fun h=>ω
   have gR:DGet j R (.int r.x.b) 55#(.ref r.t):=by
    have:=DGet.k (k:=Sum.inl (r.x.b:Int)) I5.hR
    rwa [Dz hnd hr'] at this
   refine⟨_,rfl,_,rfl,_,rfl,T,_,rfl,gT,R,_,rfl,gR,?_⟩;obtain⟨p_,h5⟩:=I5.rw r hr';have C:=I.pap.ok r.x hx;obtain⟨y',ey,pL⟩:=uh I.pap hx;rw[hy.2.1] at ey;cases ey;rcases h5 with ⟨ed,ht⟩|⟨e,ed,wF,ht⟩
   ·refine⟨_,rfl,r.t,_,2,.non,rfl,rfl,SqT.of ht,rfl,rfl,_,rfl,bg ?_⟩
    exact fin _ _ v j f5 (.inr ⟨y,_,hy,r,hr',rfl,ed⟩)
   ·refine⟨_,rfl,r.t,_,2,.int e,rfl,rfl,SqT.of ht,rfl,rfl,_,rfl,a6 ?_⟩
    obtain⟨lF,oQ⟩:=C.g e ed;have iT:j b=some 52#((y.map Sum.inl:List Key).map kV):=by rw[An];exact hb
    have g1:DGet j r.c 5#b 55#(.int (aR r.x.c y)):=by
     obtain⟨cc,Y,rfl⟩:=Qi.mp pL;refine .inr ⟨a7 r.x.c,cc.1.map Sum.inl,b,p_,rfl,iT,?_⟩;rw[jE C.c.nd cc Y,mR C.c.nd cc Y]
    have g2:DGet j c 5#b 55#(.int (aR left y)):=by
     obtain⟨cc,Y,e3⟩:=Qi.mp hy.1;subst e3;refine .inr ⟨a7 left,cc.1.map Sum.inl,b,f5.rd X,rfl,iT,?_⟩;rw[jE W.l.nd cc Y,mR W.l.nd cc Y]
    have xX:=C.c.at pL;refine⟨_,rfl,r.t,_,3,.ref r.c,rfl,rfl,SqT.of ht,rfl,_,rfl,r.c,_,rfl,g1,_,rfl,_,rfl,c,_,rfl,g2,_,rfl,_,_,p,rfl,ω,h2,ω,I.pr.into _ _ (fun z=>by have:=Int.le_of_dvd ω z;lia),fun kk H6 k0 k1 kd U=>?_⟩;have kg:SY Pt j H6:=Same.sf U;have lc:left.length<=200:=AG (uI W.l.nd fun z hz=>(W.li z hz).1) I.few;have lr:r.x.c.length<=200:=AG (uI C.c.nd fun z hz=>(C.ci z hz).1) I.few;have lf:fill.length<=200:=AG (uI W.f.nd fun z hz=>(W.fi z hz).1) I.few;have lg:r.x.g.length<=200:=AG (uI lF.nd fun z hz=>(oQ z hz).1) I.few;refine⟨_,rfl,_,rfl,_,rfl,r.t,_,3,.ref r.c,rfl,rfl,SqT.of (kg.tup ht),rfl,_,rfl,c,r.c,left,r.x.c,kk,p,rfl,kg.rd (f5.rd X),kg.rd p_,W.l.nd,C.c.nd,lc,lr,ω,ω,fun c' H7 f7 o8 qe=>?_⟩;have jt:=kg.trans f7;refine⟨_,rfl,_,rfl,_,rfl,r.t,_,4,.ref r.g,rfl,rfl,SqT.of (jt.tup ht),rfl,_,rfl,g,r.g,fill,r.x.g,kk,p,rfl,jt.rd (f5.rd rg),jt.rd wF,W.f.nd,lF.nd,lf,lg,ω,ω,fun g' H8 f8 iz kX=>?_⟩;have s0:=(N.trans jt).trans f8;obtain⟨W',xN⟩:=Oe ω I.pap W hx ed iI hy.2.1 hy.1 kd;refine⟨r.x.b,?_,_,_,c',g',_,_,_,rfl,s0,(N.trans kg).dom o8,(N.trans jt).dom iz,fun z=>?_,f8.rd 74#qe,.inl kX,W',xN⟩
    ·refine Nat.lt_of_not_le fun z=>iI.1 (bl _ z)
    ·subst z
     rw[qe] at iz;cases iz
end
end K67
end
section
namespace L2
open PySem PySem.Spec PyProof.Rows
def Hy{k a:List 4#6}(e:Rd H b 51#k)(r:Rd H b 51#a):k=a:=by
 rcases e with e|⟨c,e⟩<;>rcases r with r|⟨d,r⟩<;>rw[e] at r<;>cases r<;>rfl
def SF.many{pos:Pos}{H H1:Hp}(h:∀b,H1 b=H b\/∃kvs,Rd H b 51#kvs/\Rd H1 b 51#kvs):SF P pos q H H1:=by
 have a:∀{b:Addr}{u:HO},H b=some u->(∀k,u≠.dT k)->(∀ob k,u≠.frz ob 51#k)->H1 b=some u:=fun{b u} e n1 n2=>by
  rcases h b with z|⟨k,r,_⟩
  ·rw[z];exact e
  ·rcases r with r|⟨ob,r⟩
   ·exact absurd (Ai (e.symm.trans r)) (n1 _)
   ·exact absurd (Ai (e.symm.trans r)) (n2 _ _)
 refine⟨fun b u n e=>a e n.d n.z,fun{b k} e=>?_,fun{b} e=>?_,fun t=>?_,fun b o _ e=>a e 1#2 4#3⟩
 ·rcases h b with z|⟨i,r,f⟩
  ·unfold Rd;rw[z];exact e
  ·rw[Hy e r];exact f
 ·rcases h b with z|⟨i,r,f⟩
  ·rw[<-z];exact e
  ·obtain⟨u,g⟩:=lh f
   rw[e] at g;cases g
 ·rcases t with e|⟨c,e,j,vs,l,e2,r⟩
  ·exact .inl (a e 1#2 4#3)
  ·exact .inr ⟨c,a e 1#2 4#3,j,vs,l,a e2 1#2 4#3,r⟩
section
variable{X:Cx}{aa:Ψ}{σ:St}{H:Hp}{s:Shared}
def Inv.thaws(I:Inv X aa σ H s):∀as:List Addr,(∀a∈as,X.H₀ a=none/\∃kvs,Rd H a 51#kvs)->∃H2,Inv X aa σ H2 s/\(∀b,b∉as->H2 b=H b)/\∀a∈as,∀kvs,Rd H a 51#kvs->H2 a=some 51#kvs
 |[],_=>⟨H,I,fun _ _=>rfl,fun a ha=>nomatch ha⟩
 |a::as,h=>by
  obtain⟨H2,I2,f,g⟩:=I.thaws as fun b hb=>h b (.tail _ hb)
  by_cases m:a∈as
  ·exact⟨H2,I2,fun b hb=>f b fun z=>hb (.tail _ z),fun b hb=>by
    rcases Qj.mp hb with rfl|hb'
    ·exact g b m
    ·exact g b hb'⟩
  ·obtain⟨j,kvs,r⟩:=h a (.head _)
   have e2:=f a m;have d:Rd H2 a 51#kvs:=by unfold Rd;rw[e2];exact r
   have fin:∀e:Hp,Inv X aa σ e s->e a=some 51#kvs->(∀b,b≠a->e b=H2 b)->∃H2,Inv X aa σ H2 s/\(∀b,b∉a::as->H2 b=H b)/\∀c∈a::as,∀kvs,Rd H c 51#kvs->H2 c=some 51#kvs:=fun e l e3 i=>by
    refine⟨e,l,fun b hb=>?_,fun c hc k rk=>?_⟩
    ·rw[Qj,not_or] at hb
     rw[i b hb.1];exact f b hb.2
    ·by_cases z:c=a
     ·subst z;rw[Hy rk r];exact e3
     ·rw[i c z];exact g c ((Qj.mp hc).resolve_left z) k rk
   rcases d with d|⟨ob,d⟩
   ·exact fin H2 I2 d fun _ _=>rfl
   ·exact fin _ (I2.thaw j d) ac fun b hb=>al hb
def O0(c:Hp)(t:TE):TE:=fun σ H Q=>t σ H fun x H1=>∃as:List Addr,(∀a∈as,c a=none/\∃kvs,Rd H1 a 51#kvs)/\∀H2,(∀b,b∉as->H2 b=H1 b)->(∀a∈as,∀kvs,Rd H1 a 51#kvs->H2 a=some 51#kvs)->Q x H2
def O1{t:TE}(h:PE X e t):PE X e (O0 X.H₀ t):=by
 intro aa s σ H Q I q;refine aT (h aa s σ H _ I q) fun v f ⟨x,H1,I1,a,as,ha,k⟩=>?_;obtain⟨H2,d,b,c⟩:=I1.thaws as ha;exact⟨x,H2,d,a,k H2 b c⟩
def O2{pos:Pos}{H1 H2:Hp}{as:List Addr}(h1:∀a∈as,∃kvs,Rd H1 a 51#kvs)(c:∀b,b∉as->H2 b=H1 b)(d:∀a∈as,∀kvs,Rd H1 a 51#kvs->H2 a=some 51#kvs):SF P pos q H1 H2:=
 SF.many fun b=>by
  by_cases m:b∈as
  ·obtain⟨k,r⟩:=h1 b m
   exact .inr ⟨k,r,.inl (d b m k r)⟩
  ·exact .inl (c b m)
end
end L2
end
section
namespace K67
open K1
open PySem L2 STb
noncomputable abbrev DA:Stmt:=top 33
noncomputable abbrev uJ:Stmt:=top 34
noncomputable def df(L:List RA)(x:RA):List RA:=L.map fun y=>if y.x.b=x.x.b then x else y
def O3(L:List RA)(x:RA):de (df L x)=e8 (de L) x.x:=by
 unfold de df e8;rw[An,An];refine AC fun y _=>?_;show(if y.x.b=x.x.b then x else y).x=if y.x.b=x.x.b then x.x else y.x;split<;>rfl
def O4{L:List RA}{b:Nat}{t:Addr}(h:∀r∈L,r.x.b≠b):putK (dW L) (Sum.inl (b:Int)) 5#t=dW L++[(Sum.inl (b:Int),.ref t)]:=by
 unfold putK;rw[TJ];intro z;obtain⟨kv,hk,e⟩:=Ri.mp z;obtain⟨r,hr,rfl⟩:=Qi.mp hk;have e:=TN e;have:(r.x.b:Int)=b:=by injection e
 exact h r hr ω
def O5{L:List RA}{x:RA}(h:∃r∈L,r.x.b=x.x.b):putK (dW L) (Sum.inl (x.x.b:Int)) (.ref x.t)=dW (df L x):=by
 obtain⟨r,hr,e⟩:=h;unfold putK;have ha:((dW L).any fun kv=>decide (kv.1=(Sum.inl (x.x.b:Int):Key)))=true:=Ri.mpr ⟨_,Qi.mpr ⟨r,hr,rfl⟩,TK (by show(Sum.inl (r.x.b:Int):Key)=_;rw[e])⟩;rw[TH ha];unfold dW df;rw[An,An];refine AC fun y _=>?_;show(if(Sum.inl (y.x.b:Int):Key)=Sum.inl (x.x.b:Int) then((Sum.inl (y.x.b:Int):Key),V.ref x.t) else(Sum.inl (y.x.b:Int),V.ref y.t))=(Sum.inl ((if y.x.b=x.x.b then x else y).x.b:Int),V.ref (if y.x.b=x.x.b then x else y).t)
 by_cases z:y.x.b=x.x.b
 ·rw[TH (by rw[z]),TH z,z]
 ·have hq:¬(Sum.inl (y.x.b:Int):Key)=Sum.inl (x.x.b:Int):=fun q=>z (Int.ofNat.inj (Sum.inl.inj q))
  rw[TJ hq,TJ z]
noncomputable def dcs(r:RA):List Addr:=match r.x.d with
 |none=>[r.c]
 |some _=>[r.c,r.g]
def Hz(h:RwAt H r){a:Addr}(ha:a∈dcs r):∃kvs,Rd H a 51#kvs:=by
 obtain⟨h1,h2⟩:=h;unfold dcs at ha;rcases h2 with ⟨e,_⟩|⟨e,e1,b,_⟩
 ·rw[e] at ha
  rw[Qk.mp ha];exact⟨_,h1⟩
 ·rw[e1] at ha
  rcases Qj.mp ha with rfl|ha
  ·exact⟨_,h1⟩
  ·rw[Qk.mp ha];exact⟨_,b⟩
structure Apt(H:Hp)(L:List RA):Prop where
 nd:(L.flatMap dcs).Nodup
 new:∀a∈L.flatMap dcs,H a=none
def Apt.snoc(h:Apt H L)(n1:(dcs r).Nodup)(n2:∀a∈dcs r,H a=none)(c:∀a∈dcs r,a∉L.flatMap dcs):Apt H (L++[r]):=by
 have e:(L++[r]).flatMap dcs=L.flatMap dcs++dcs r:=by rw[SM];simp
 refine⟨?_,fun a ha=>?_⟩
 ·rw[e,BD]
  exact⟨h.nd,n1,fun a ha b hb z=>c b hb (z▸ha)⟩
 ·rw[e] at ha
  rcases Qm.mp ha with ha|ha
  ·exact h.new a ha
  ·exact n2 a ha
def put_dcs{a:Addr}(h:a∈(df L x).flatMap dcs):a∈L.flatMap dcs\/a∈dcs x:=by
 obtain⟨y,hy,ha⟩:=Qu.mp h;obtain⟨z,hz,rfl⟩:=Qi.mp hy
 by_cases e:z.x.b=x.x.b
 ·rw[TH e] at ha;exact .inr ha
 ·rw[TJ e] at ha;exact .inl (Qu.mpr ⟨z,hz,ha⟩)
def Apt.put(h:Apt H L)(hb:((de L).map (·.b)).Nodup)(n1:(dcs x).Nodup)(n2:∀a∈dcs x,H a=none)(i:∀a∈dcs x,a∉L.flatMap dcs):Apt H (df L x):=by
 refine⟨?_,fun a ha=>?_⟩
 ·have d:∀M:List RA,((de M).map (·.b)).Nodup->(M.flatMap dcs).Nodup->(∀a∈dcs x,a∉M.flatMap dcs)->((df M x).flatMap dcs).Nodup:=by
   intro M
   induction M with
   |nil=>intro _ _ _;exact BC
   |cons y M ih=>
    intro hb c hx;rw[show(de (y::M)).map (·.b)=y.x.b::(de M).map (·.b) from rfl,Qo] at hb;rw[QE,BD] at c;have hx':∀a∈dcs x,a∉M.flatMap dcs:=fun a ha z=>hx a ha (by rw[QE];exact Bh _ z);have f:=ih hb.2 c.2.1 hx';show(((if y.x.b=x.x.b then x else y)::df M x).flatMap dcs).Nodup;rw[QE,BD]
    by_cases e:y.x.b=x.x.b
    ·rw[TH e]
     refine⟨n1,f,fun a ha b hb' z=>?_⟩;subst z;rcases put_dcs hb' with q|q
     ·exact hx' a ha q
     ·have g:df M x=M:=by
       unfold df;refine(AC fun z hz=>?_).trans (RK _);rw[TJ];intro e2;exact hb.1 (Qi.mpr ⟨z.x,Qi.mpr ⟨z,hz,rfl⟩,ω⟩)
      rw[g] at hb';exact hx' a ha hb'
    ·rw[TJ e]
     refine⟨c.1,f,fun a ha b hb' z=>?_⟩;subst z;rcases put_dcs hb' with q|q
     ·exact c.2.2 a ha a q rfl
     ·exact hx a q (by rw[QE];exact Rk _ ha)
  exact d L hb h.nd i
 ·rcases put_dcs ha with q|q
  ·exact h.new a q
  ·exact n2 a q
def uO{a R:Addr}(h:Rd H a 51#kvs)(hR:H R=some (.dK kv)):Rd 81#R a 51#kvs:=by
 have ne:a≠R:=fun z=>by
  subst z;rcases h with e|⟨_,e⟩<;>(rw[hR] at e;cases e)
 unfold Rd;rw[al ne];exact h
def uV{R:Addr}(h:RwAt H r)(hR:H R=some (.dK kv)):RwAt 81#R r:=by
 obtain⟨h1,h2⟩:=h;refine⟨uO h1 hR,?_⟩;rcases h2 with ⟨e,h2⟩|⟨e,h2,b,a⟩
 ·exact .inl ⟨e,by rw[al (dH h2 hR 1#8)];exact h2⟩
 ·exact .inr ⟨e,h2,uO b hR,by rw[al (dH a hR 1#8)];exact a⟩
def O6{l m:List Int}(hp:l.Perm m)(h1:l.Pairwise (·<=·))(h2:m.Pairwise (·<=·)):l=m:=
 List.Perm.eq_of_pairwise (fun a b _ _ g1 g2=>Int.le_antisymm g1 g2) h1 h2 hp
noncomputable def jN(L:List RA):List Int:=L.map fun r=>(r.x.b:Int)
section
variable{P:Program}{w:World}{K:Af}{mg:Str->Option Value}{base:Heap}{f:Addr}{fd:FuncData}{Pt:Addr}
def O7{S R D:Addr}{Q:VK}(hs:SqL K H2 S ((jN L).map V.int))(hR:H2 R=some (.dK (dW L)))(l:((de L).map (·.b)).Nodup)(hz:L.length<=1000)(h:H2 D=none)(k:∀(a:Hp),Same H2 a->a D=some 8#(L.map fun r=>V.ref r.t)->Q 5#D a):cK (dQ K S) (zX 0) bM (gt 71#1 71#0) [none,some 5#R] H2 D Q:=by
 have f:((jN L).map V.int).length=L.length:=by unfold jN;rw[Ab,Ab]
 refine zJ (xs:=(jN L).map V.int) (fun j σ ys a=>∃(v:Option V),σ=[v,some 5#R]/\Same H2 a/\a D=some 8#ys/\ys=(L.map fun r=>V.ref r.t).take j) ?_ ?_ ?_ ?_
 ·exact⟨none,rfl,Same.new h,ac,rfl⟩
 ·rintro j σ ys a ⟨v,rfl,sm,c,rfl⟩
  exact sm.seq hs
 ·rintro j σ ys a x hx i hy ⟨v,rfl,sm,c,rfl⟩
  unfold jN at hx;rw[An,Ah] at hx;obtain⟨r,d,rfl⟩:=Qr.mp hx;have e:(L.map fun r=>V.ref r.t)[j]?=some (.ref r.t):=by rw[Ah,d];rfl
  have g:DGet a R (.int r.x.b) 55#(.ref r.t):=by
   have:=DGet.k (k:=Sum.inl (r.x.b:Int)) (sm _ _ hR)
   rwa [Dz l (Ak d)] at this
  refine ca ⟨_,rfl,_,rfl,R,_,rfl,g,bK (by rw[f];exact aj ω) i hy c ⟨_,rfl,sm.then h,ac,by rw[AR e]⟩⟩
 ·rintro σ ys a ⟨v,rfl,sm,c,rfl⟩
  rw[f,AA (by rw[Ab];exact Ag _)] at c;exact k a sm c
structure DB(p:Int)(oo:Ξ)(H':Hp)(D:Addr)(L:List RA):Prop where
 hD:H' D=some 8#(L.map fun r=>V.ref r.t)
 rw:∀r∈L,RwAt H' r
 pap:dG p oo oo.length (de L)
def DC(h:dG p oo T (de L))(hT:T<=oo.length):L.length<=oo.length:=by
 have a:((de L).map (·.b)).Nodup:=h.srt.imp fun h=>ω
 have:=a.length_le_of_subset (l₂:=AO oo.length) fun b hb=>by
  obtain⟨x,hx,rfl⟩:=Qi.mp hb;have:=(gz h hx).born;have this:x.b<T:=this;exact Qn.mpr ω
 rw[BE,Ab,Ab] at this;exact this
def isP(p:Int):Prop:=p=2\/p=3\/p=5\/p=7
noncomputable def isP.pr(h:isP p):Bar.Pr p/\p<=7:=by
 rcases h with rfl|rfl|rfl|rfl
 ·exact⟨Bar.NQ,ξ⟩
 ·exact⟨Bar.NR,ξ⟩
 ·exact⟨Bar.NS,ξ⟩
 ·exact⟨Bar.NT,ξ⟩
def HA(K:Af)(Pt:Addr):Sp:=fun vs H Q _=>∃l as oo p,vs=[.ref l,.int p]/\SqL K H l 2#2/\Tps H as oo/\cT oo/\oo.length<=60/\isP p/\TY Pt H/\
 ∀D L H',SY Pt H H'->H D=none->DB p oo H' D L->Apt H L->(∀a∈L.flatMap dcs,∃kvs,H' a=some 51#kvs)->Q 5#D H'
noncomputable abbrev HB:List Str:=["order","prime","times","rows","time","piece","found","born"]
def lj:zj HB ["order","prime"] 76#uJ:=⟨rfl,rfl,rfl,δ,rfl,δ,δ⟩
def O8(F:Fun K "paper" "paper" uJ f fd)(B:Bt mg)(Co:Cl P w K mg base aK "must_be_order" ["order"] 3 (Hj K))(Cp:Cl P w K mg base aK "must_be_prime" ["prime"] 1 Hk)(Ct:Cl P w K mg base aK "times_of" ["order"] 1 (Hr K))(Cw:Cl P w K mg base aK "worked_off" ["piece","rows","times","prime"] 5 (Hx Pt))(Cy:Cl P w K mg base aK "youngest_of" ["chain","times"] 4 (Dw Pt)):az P w K mg base aK 6 f fd ["order","prime"] (HA K Pt):=by
 refine F.ok lj 0#2 3#0
 ·obtain⟨l,as,oo,p,rfl,_⟩:=h;rfl
 ·obtain⟨l,as,oo,p,rfl,hl,ht,ho,G,hp,tb,k⟩:=h
  have hu:=dN hr;have O:=N6 ho;have BJ:=G;have G:oo.length<=200:=ω
  obtain⟨fu,l9⟩:=hp.pr;have h2:=fu.two;have aE:=ht.length;refine⟨_,zc (gm (zL Co hr rfl av 1#9)) (zc (gm (zL Cp hr rfl av (za 7#1 zb)))
   (zc (zk (i:=2) lj.nd rfl 2#1 (zL Ct hr rfl av 1#9))
   (zc (zk (i:=3) lj.nd rfl (Or.inr rfl) EB)
   (zc (zY AZ rfl (z0 rfl B.enumerate Cv 1#9) (lR rfl (zT (zh (i:=4) lj.nd rfl 2#1) (zT (zh (i:=5) lj.nd rfl 2#1) lQ)))
    (zc (zk (i:=6) lj.nd rfl 2#1 (zL Cw hr rfl av (za 7#5 (za 7#3 (za 7#2 (za 7#1 zb))))))
    (zf (cI (zq lV (zm Hh rfl B.len ee 56#(zx zC 7#6 ze 3#1)) ze (ay _))
     (zf (gS hu 7#3 7#4 (zQ (za (zv nD (zm zo rfl B.len ee (za 7#5 zb)) ze) (za 7#4 (za fC (za (zx zC 7#6 ze 3#1) 56#fC))))) rfl))
     (zc (zk (i:=7) lj.nd rfl 2#1 (zF hu 7#2 (zL Cy hr rfl av (za (zx zC 7#6 ze 3#1) (za 7#2 zb))) 3#1))
     (zf (gS hu 7#3 7#7 (zQ (za (zv nD (zm zo rfl B.len ee (za 7#5 zb)) ze) (za 7#7 (za 7#4 (za (zx zC 7#6 ze 3#1) 56#(zx zC 7#6 ze 3#1)))))) rfl)))))))
   (zf (zl (O1 (zw HB ["born","rows"] [none,some 3] (zu (zm (MS rfl) rfl B.sorted ju (za 7#3 zb))) (fun _ _ _ _ _=>zh (i:=0) (cN ["born","rows"]) rfl 2#1) (fun _ _ _ _ _=>zE)
    (fun _ _ _ _ _=>zF hu 7#1 7#0 3#1) (hfr:=bX 76#uJ δ) (te:=gt 71#1 71#0))))))))),?_⟩
  refine⟨_,rfl,l,as,oo,rfl,hl,ht,G,ho,fun H1 s1=>?_⟩;refine⟨_,rfl,p,rfl,hp,?_⟩;refine⟨_,rfl,l,as,oo,rfl,s1.seq hl,s1.tps ht,O.nd,G,fun T H2 s2 i6 kB R hR=>?_⟩;have gc:=s1.trans s2;have s3:=Same.new (o:=.dK []) hR;have sh:=gc.trans s3;have lC:H R=none:=gc.free hR;refine⟨_,rfl,l,rfl,⟨_,sh.seq hl⟩,EX (K:=K) (a:=l) (xs:=as.map V.ref) (fun i σ N=>∃(v4 v5 v6 v7:Option V)(L:List RA),σ=[some 5#l,some 57#p,some 5#T,some 5#R,v4,v5,v6,v7]/\SY Pt H N/\WIn Pt N R T L oo p i/\Apt H L)
   ⟨none,none,none,none,[],rfl,Same.sf sh,⟨ac,(fun r hr=>nomatch hr),.inl (s3 _ _ kB),O,G,fu,l9,Ob,tb.same sh⟩,⟨BC,(fun a ha=>nomatch ha)⟩⟩ (fun i σ N _ ⟨_,_,_,_,_,_,f,_⟩=>f.seq hl) ?_ ?_⟩
  ·rintro i x pr σ N hx ⟨v4,v5,v6,v7,L,rfl,f4,I4,ap⟩ nA
   obtain⟨a,ea,rfl⟩:=zM hx;obtain⟨q,eq,hq⟩:=ht.get ea;have hi:i<oo.length:=(69#eq).1;have I:=Same.new (o:=.tup [.int i,.ref a]) nA;have f5:=f4.trans (Same.sf I);have I5:=I4.sf (Same.sf I);refine⟨pr,_,rfl,SqT.of ac,rfl,_,_,rfl,_,_,rfl,rfl,?_⟩;generalize upd N pr (.tup [.int i,.ref a])=H5 at I f5 I5;refine⟨_,rfl,_,rfl,_,rfl,_,rfl,a,R,T,L,q,oo,i,p,rfl,f5.tp hq,I5,eq,fun u c g left fill H6 f6 jn gM nW BT lK mT rW W hw=>?_⟩;have oF:=f5.trans f6;have I6:=I5.sf f6;have v:∀b∈L.flatMap dcs,∃o,H5 b=some o:=fun b hb=>by
    obtain⟨r,hr,hb⟩:=Qu.mp hb;obtain⟨kvs,hk⟩:=Hz (I5.rw r hr) hb;exact lh hk
   have cn:c∉L.flatMap dcs:=fun z=>by obtain⟨o,e⟩:=v c z;rw[jn] at e;cases e
   have gn:g∉L.flatMap dcs:=fun z=>by obtain⟨o,e⟩:=v g z;rw[gM] at e;cases e
   refine⟨_,rfl,u,_,0,.ref c,rfl,rfl,SqT.of lK,rfl,c,a7 left,rfl,mT,rfl,_,rfl,?_⟩;rw[iC];have jR:=DC I5.pap (QY hi);have gD:(dW L).length<sizeLine:=by unfold dW;rw[Ab];exact zP ω
   have J:((de L).map (·.b)).Nodup:=I5.pap.srt.imp fun h=>ω
   by_cases hz:left.length=0
   ·have bV:left=[]:=QR hz
    subst bV;rw[TK (by rfl)];refine bg ⟨_,rfl,a,_,rfl,.inr (SqT.of (oF.tp hq)),_,_,rfl,rfl,_,rfl,_,rfl,u,_,1,.ref g,rfl,rfl,SqT.of lK,rfl,aj 2#0,fun t ir=>?_⟩;have X:=Same.new (o:=.tup [.int ((List.map V.int q).length-1),.int i,.non,.ref g,.non]) ir;refine⟨_,rfl,_,rfl,R,_,rfl,DPut.k (k:=Sum.inl (i:Int)) (X _ _ I6.hR) gD,?_⟩;have hb:∀r∈L,r.x.b≠i:=fun r hr=>by
     have:=(gz I5.pap (Qi.mpr ⟨r,hr,rfl⟩)).born;have this:r.x.b<i:=this;lia
    rw[O4 hb];have gJ:dW L++[((Sum.inl (i:Int):Key),V.ref t)]=dW (L++[⟨⟨(q.length:Int)-1,i,none,fill,[]⟩,t,g,g⟩]):=by unfold dW;rw[Ap];rfl
    have Y:=X _ _ I6.hR;have d:=oF.trans (Same.sf (P:=Pt) (pos:=mZ) (q:=qY) X);have I7:=I6.sf (Same.sf (P:=Pt) (pos:=mZ) (q:=qY) X);have rM:=rW.same X;have jY:=ac (H:=H6) (a:=t) (o:=.tup [.int ((List.map V.int q).length-1),.int i,.non,.ref g,.non]);generalize upd H6 t (.tup [.int ((List.map V.int q).length-1),.int i,.non,.ref g,.non])=U at X Y d I7 rM jY;rw[Ab] at jY;refine⟨_,_,_,_,L++[⟨⟨(q.length:Int)-1,i,none,fill,[]⟩,t,g,g⟩],rfl,d.put lC Y,⟨by rw[ac,gJ],fun r hr=>?_,uO I7.hT Y,O,G,fu,l9,?_,I7.tb.off Y (by intro ps z;cases z) (by intro ob u z;cases z)⟩,ap.snoc (by simp[dcs]) (fun b hb=>?_) (fun b hb=>?_)⟩
    ·rcases Qm.mp hr with hr|hr
     ·exact uV (I7.rw r hr) Y
     ·rw[Qk.mp hr]
      exact uV ⟨rM,.inl ⟨rfl,jY⟩⟩ Y
    ·have e:de (L++[⟨⟨(q.length:Int)-1,i,none,fill,[]⟩,t,g,g⟩])=de L++[⟨(q.length:Int)-1,i,none,fill,[]⟩]:=by unfold de;rw[Ap];rfl
     rw[e];exact Of O I5.pap W
    ·rw[Qk.mp (show b∈[g] from hb)];exact f5.dom gM
    ·rw[Qk.mp (show b∈[g] from hb)];exact gn
   ·rw[TL (fun z=>hz (by injection z with z;lia))]
    rcases hw with hw|⟨y,t0,hy,j,qC,eb,ed⟩
    ·exact absurd (by rw[hw];rfl) hz
    subst eb;refine a6 ⟨_,rfl,_,rfl,u,_,0,.ref c,rfl,rfl,SqT.of lK,rfl,_,rfl,c,T,left,oo,rfl,mT,I6.hT,O.nd,Hw hz,fun z jx=>(W.li z jx).1,I6.tb,fun b y' yq U d iN hy'=>?_⟩;have iI:=hy.yg O W.l ω;have mf:=hy'.yg O W.l ω;have et:=iI.uniq mf;subst et;have rm:=oF.trans d;have I7:=I6.sf d;have gT:DGet U T 5#b 55#(.int j.x.b):=.inr ⟨a7 (ei oo),y'.map Sum.inl,b,I7.hT,rfl,by rw[An];exact iN,(Dv O.nd hy'.2.1).symm⟩;have qb:=d.tup lK;refine⟨T,_,rfl,gT,?_⟩;refine⟨_,rfl,a,_,rfl,.inr (SqT.of (rm.tp hq)),_,_,rfl,rfl,_,rfl,_,rfl,_,rfl,u,_,0,.ref c,rfl,rfl,SqT.of qb,rfl,_,rfl,u,_,1,.ref g,rfl,rfl,SqT.of qb,rfl,aj 2#0,fun t jY=>?_⟩;have s8:=Same.new (o:=.tup [.int ((List.map V.int q).length-2),.int j.x.b,.int i,.ref c,.ref g]) jY;have M:=s8 _ _ I7.hR;have f8:=rm.trans (Same.sf (P:=Pt) (pos:=mZ) (q:=qY) s8);have I8:=I7.sf (Same.sf (P:=Pt) (pos:=mZ) (q:=qY) s8);have qS:=(d.rd mT).same s8;have kX:=(d.rd rW).same s8;have mO:=ac (H:=U) (a:=t) (o:=.tup [.int ((List.map V.int q).length-2),.int j.x.b,.int i,.ref c,.ref g]);refine⟨_,rfl,_,rfl,R,_,rfl,DPut.k (k:=Sum.inl (j.x.b:Int)) M gD,?_⟩;generalize upd U t (.tup [.int ((List.map V.int q).length-2),.int j.x.b,.int i,.ref c,.ref g])=H8 at s8 M f8 I8 qS kX mO;rw[Ab] at mO;have gJ:putK (dW L) (Sum.inl (j.x.b:Int)) 5#t=dW (df L ⟨⟨(q.length:Int)-2,j.x.b,some i,left,fill⟩,t,c,g⟩):=O5 (x:=⟨⟨(q.length:Int)-2,j.x.b,some i,left,fill⟩,t,c,g⟩) ⟨j,qC,rfl⟩;rw[gJ];refine⟨_,_,_,_,df L ⟨⟨(q.length:Int)-2,j.x.b,some i,left,fill⟩,t,c,g⟩,rfl,f8.put lC M,⟨ac,fun r hr=>?_,uO I8.hT M,O,G,fu,l9,?_,I8.tb.off M (by intro ps z;cases z) (by intro ob u z;cases z)⟩,ap.put J ?_ (fun b hb=>?_) (fun b hb=>?_)⟩
    ·obtain⟨z,jx,rfl⟩:=Qi.mp hr
     by_cases e:z.x.b=j.x.b
     ·rw[TH e]
      exact uV ⟨qS,.inr ⟨i,rfl,kX,mO⟩⟩ M
     ·rw[TJ e]
      exact uV (I8.rw z jx) M
    ·rw[O3]
     exact Oh O I5.pap W (Qi.mpr ⟨j,qC,rfl⟩) ed iI
    ·show [c,g].Nodup
     simp[nW]
    ·have hb:b∈[c,g]:=hb
     rcases Qj.mp hb with rfl|hb
     ·exact f5.dom jn
     ·rw[Qk.mp hb];exact f5.dom gM
    ·have hb:b∈[c,g]:=hb
     rcases Qj.mp hb with rfl|hb
     ·exact cn
     ·rw[Qk.mp hb];exact gn
  ·rintro σ N ⟨v4,v5,v6,v7,L,rfl,f4,I4,ap⟩
   rw[Ab,aE] at I4;have jR:=DC I4.pap 0#10;have J:((de L).map (·.b)).Nodup:=I4.pap.srt.imp fun h=>ω
   have ez:(.dK (dW L):HO)=dZ (L.map fun r=>((r.x.b:Int),V.ref r.t)):=by
    unfold dW;show _=HO.dK _;rw[An];rfl
   refine⟨_,rfl,R,L.map fun r=>((r.x.b:Int),V.ref r.t),rfl,by rw[<-ez];exact I4.hR,by rw[Ab];lia,fun S ms ig mL hS=>?_⟩;have em:ms=jN L:=by
    refine O6 (ig.trans ?_) mL ?_
    ·rw[An];exact List.Perm.refl _
    ·have:=I4.pap.srt
     unfold jN;rw[AQ] at this ⊢;rw[AQ] at this;exact this.imp fun h=>ω
   subst em;have I:=Same.new (o:=.lst ((jN L).map V.int)) hS;refine⟨S,rfl,⟨_,SqL.of ac⟩,fun D hD=>zy (O7 (SqL.of ac) (I _ _ I4.hR) J ω hD fun H6 s6 iO=>?_)⟩;have f6:SY Pt N H6:=Same.sf (I.trans s6);have I6:=I4.sf f6;have lN:∀b∈L.flatMap dcs,∃kvs,Rd H6 b 51#kvs:=fun b hb=>by
    obtain⟨r,hr,hb⟩:=Qu.mp hb;exact Hz (I6.rw r hr) hb
   refine⟨L.flatMap dcs,fun b hb=>⟨ap.new b hb,lN b hb⟩,fun U o7 d7=>?_⟩;have d:SY Pt H6 U:=O2 lN o7 d7;refine k D L U ((f4.trans f6).trans d) ((f4.trans (Same.sf I)).dom hD) ⟨d.lst iO,fun r hr=>(I6.rw r hr).sf d,I4.pap⟩ ap fun b hb=>?_;obtain⟨kvs,hk⟩:=lN b hb;exact⟨kvs,d7 b hb kvs hk⟩
end
end K67
end
section
namespace Bar
section
variable{p:Int}{S:Ch->Ch}{T:Nat}{L L':List Row}
def low(P:Pr p)(A:Sm p S)(R:Rows p S T L){x:Row}(hx:x∈L){t:Nat}(hd:x.d=some t)(hf:Yg p f t):∃u,x.b<=u/\Yg p (S f) u:=by
 have o:=(R.ok x hx).gone t hd;have i:=(R.ok x hx).yg;obtain⟨a,ha,hna⟩:=t7 P (T:=t) (f:=f) (g:=x.g) (fun u hu=>hf.2 u hu) o.2.2.1;have C:=hna hf.1;have D:=t8 P A R t ω _ ha;have eq:∀u,p ∣ S f u-(S 79#f u+a*x.r u):=fun u=>by
  rw[A.lin];have h1:=Bu (o.2.2.2 u) (Qy a (S x.g u-x.r u))
  rwa [show a*(S x.g u-x.r u)=S f u-(S f u-a*S x.g u+a*x.r u) from by rw[Int.mul_sub];lia] at h1
 have c:∀u,p ∣ S f u↔p ∣ S 79#f u+a*x.r u:=fun u=>by
  constructor
  ·intro z
   have:=Q6 z (eq u)
   rwa [show S f u-(S f u-(S 79#f u+a*x.r u))=S 79#f u+a*x.r u from ω] at this
  ·intro z
   have:=QS (eq u) z
   rwa [show S f u-(S 79#f u+a*x.r u)+(S 79#f u+a*x.r u)=S f u from ω] at this
 have v:¬p ∣ a*x.r x.b:=fun z=>(P.two_way _ _ z).elim C i.1;have w:(∀u,x.b<=u->p ∣ S 79#f u)->Yg p (S f) x.b:=fun h=>by
  refine⟨fun z=>v ?_,fun u hu=>(c u).mpr (QS (h u ω) (Bu (i.2 u hu) (Qy _ _)))⟩;have:=Q6 ((c _).mp z) (h x.b 0#10)
  rwa [show S 79#f x.b+a*x.r x.b-S 79#f x.b=a*x.r x.b from ω] at this
 rcases sp_yg P (dl_nd R.nd) (fun q hq=>by
  obtain⟨y,hy',d,e',j,rfl⟩:=dl_mem.mp hq;exact(R.ok y hy').yg) D with z|⟨q,hq,z⟩
 ·exact⟨x.b,Ag _,w fun u _=>z u⟩
 ·obtain⟨y,hy',d,e',j,rfl⟩:=dl_mem.mp hq
  have l:y.b≠x.b:=fun e=>by
   have:=Dg R.nd hy' hx e;subst this;rw[hd] at e';cases e';lia
  rcases S8 l with lt|lt
  ·exact⟨x.b,Ag _,w fun u hu=>z.2 u (by show y.b<u;lia)⟩
  ·refine⟨y.b,ω,fun e=>z.1 ?_,fun u hu=>(c u).mpr (QS (z.2 u hu) (Bu (i.2 u ω) (Qy _ _)))⟩
   have:=Q6 ((c _).mp e) (Bu (i.2 y.b lt) (Qy a (x.r y.b)))
   rwa [show S 79#f y.b+a*x.r y.b-a*x.r y.b=S 79#f y.b from ω] at this
def O9(P:Pr p)(h:Sm p S)(R:Rows p S T L)(R':Rows p S T L'){x:Row}(hx:x∈L){t:Nat}(hd:x.d=some t):∃y∈L',y.d=some t/\y.b=x.b:=by
 have ht:=((R.ok x hx).gone t hd).1;have key:∀{A B:List Row},Rows p S T A->Rows p S T B->∀{x y:Row},x∈A->y∈B->x.d=some t->y.d=some t->x.b<=y.b:=by
  intro A B RA RB x y hx hy e1 e2;have o:=(RB.ok y hy).gone t e2;obtain⟨u,hu,c⟩:=low P h RA hx e1 o.2.2.1;have a:=(RB.ok y hy).yg;have j:Yg p (S y.g) y.b:=by
   refine⟨fun z=>a.1 ?_,fun v i=>?_⟩
   ·have:=Q6 z (o.2.2.2 y.b)
    rwa [show S y.g y.b-(S y.g y.b-y.r y.b)=y.r y.b from ω] at this
   ·have:=QS (o.2.2.2 v) (a.2 v i)
    rwa [show S y.g v-y.r v+y.r v=S y.g v from ω] at this
  have:=c.uniq j;lia
 rcases R'.all t ht with ⟨y,hy,e⟩|⟨y,hy,e⟩
 ·exfalso
  have a:=R'.ok y hy;obtain⟨u,_,c⟩:=low P h R hx hd (f:=y.r) (by rw[<-e];exact a.yg);exact c.not_z a.cyc
 ·exact⟨y,hy,e,Nat.le_antisymm (key R' R hy hx e hd) (key R R' hx hy hd e)⟩
end
end Bar
end
section
namespace K67
open K1
open PySem L2 STb
def HC{A B:List a_}(P:Bar.Pr p)(a:dG p oo T A)(b:dG p oo T B){x:a_}(hx:x∈A){t:Nat}(hd:x.d=some t):∃y∈B,y.d=some t/\y.b=x.b:=by
 obtain⟨y,hy,h1,h2⟩:=Bar.O9 P (Bar.mY p oo tau) a.rows b.rows (x:=hZ oo x) 84#hx hd;obtain⟨z,hz,rfl⟩:=Qi.mp hy;exact⟨z,hz,h1,h2⟩
def HE{A B:List a_}(P:Bar.Pr p)(a:dG p oo T A)(b:dG p oo T B){x:a_}(hx:x∈A):∃y∈B,y.b=x.b:=by
 have ht:x.b<T:=(gz a hx).born;rcases b.rows.all x.b ht with ⟨y,hy,e⟩|⟨y,hy,e⟩
 ·obtain⟨z,hz,rfl⟩:=Qi.mp hy
  exact⟨z,hz,e⟩
 ·obtain⟨z,hz,rfl⟩:=Qi.mp hy
  obtain⟨v,c,h1,h2⟩:=HC P b a hz e;exact absurd h1 (a.rows.one (hZ oo x) 84#hx (hZ oo v) (Qi.mpr ⟨v,c,rfl⟩))
def O_{l m:List Nat}(h1:l.Pairwise (·<·))(h2:m.Pairwise (·<·))(h:∀x,x∈l↔x∈m):l=m:=
 List.Perm.eq_of_pairwise (le:=fun a b=>a<=b) (fun a b _ _ g1 g2=>Nat.le_antisymm g1 g2) (h1.imp fun h=>QY h) (h2.imp fun h=>QY h) ((Q9 (h1.imp fun h=>ω) (h2.imp fun h=>ω)).mpr h)
noncomputable def tri(x:a_):List V:=[.int x.hi,.int x.b,match x.d with|none=>.non|some e=>.int e]
def O'{A B:List a_}(P:Bar.Pr p)(a:dG p oo T A)(b:dG p oo T B):A.map tri=B.map tri:=by
 have c:A.map (·.b)=B.map (·.b):=O_ a.srt b.srt fun t=>by
  constructor
  ·intro h
   obtain⟨x,hx,rfl⟩:=Qi.mp h;obtain⟨y,hy,e⟩:=HE P a b hx;exact Qi.mpr ⟨y,hy,e⟩
  ·intro h
   obtain⟨x,hx,rfl⟩:=Qi.mp h;obtain⟨y,hy,e⟩:=HE P b a hx;exact Qi.mpr ⟨y,hy,e⟩
 have j:A.length=B.length:=by simpa using congrArg List.length c
 have inj:∀{M:List a_},(M.map (·.b)).Pairwise (·<·)->∀{x y:a_},x∈M->y∈M->x.b=y.b->x=y:=by
  intro M
  induction M with
  |nil=>intro _ x y hx;cases hx
  |cons m M ih=>
   intro h x y hx hy e;rw[Aw,RD] at h;rcases Qj.mp hx with rfl|hx'<;>rcases Qj.mp hy with rfl|hy'
   ·rfl
   ·have:=h.1 y.b (Qi.mpr ⟨y,hy',rfl⟩);lia
   ·have:=h.1 x.b 84#hx';lia
   ·exact ih h.2 hx' hy' e
 have step:∀{A B:List a_},dG p oo T A->dG p oo T B->∀{x y:a_},x∈A->y∈B->x.b=y.b->∀t,x.d=some t->y.d=some t:=by
  intro A B a b x y hx hy e t hd;obtain⟨z,hz,h1,h2⟩:=HC P a b hx hd;have:=inj b.srt hz hy ω;rw[<-this];exact h1
 refine List.ext_getElem (by rw[Ab,Ab,j]) fun i h1 h2=>?_;rw[Ab] at h1 h2;rw[List.getElem_map,List.getElem_map];have hx:=A8 h1;have hy:=A8 h2;have e:A[i].b=B[i].b:=by
  have:=congrArg (fun l=>l[i]?) c;simp only[Ah,Ae h1,Ae h2,Bi,Bg] at this;exact this
 generalize A[i]=x at hx e;generalize B[i]=y at hy e;have o:x.hi=y.hi:=by
  obtain⟨q,h1,h2⟩:=uh a hx;obtain⟨u,f,g⟩:=uh b hy;rw[e,f] at h1;cases h1;have:=((a.ok x hx).ci q h2).2;have:=((b.ok y hy).ci q g).2;lia
 have r:x.d=y.d:=by
  cases hd:x.d with
  |some t=>exact(step a b hx hy e t hd).symm
  |none=>
   cases hd':y.d with
   |none=>rfl
   |some t=>rw[step b a hy hx e.symm t hd'] at hd;cases hd
 unfold tri;rw[o,e,r]
section
variable{P:Program}{w:World}{K:Af}{mg:Str->Option Value}{base:Heap}{f:Addr}{fd:FuncData}{Pt:Addr}
def RwAt.all(h:RwAt H r):∃a b:V,H r.t=some 52#(tri r.x++[a,b]):=by
 obtain⟨_,⟨e,h⟩|⟨e,e1,_,h⟩⟩:=h
 ·exact⟨.ref r.c,.non,by rw[h];unfold tri;rw[e];rfl⟩
 ·exact⟨.ref r.c,.ref r.g,by rw[h];unfold tri;rw[e1];rfl⟩
abbrev HF(K:Af):TE:=qG (nS K) 71#0 qx (qD (tC 57#3))
def Pa{L:List RA}{Q:VK}(hs:SqL K H2 S (L.map fun r=>V.ref r.t))(hr:∀r∈L,RwAt H2 r)(hz:L.length<=1000)(p:H2 D=none)(k:∀(b:Hp)(us:List Addr),Same H2 b->b D=some 8#(us.map V.ref)->Paired (fun u x=>b u=some 52#x) us ((de L).map tri)->Q 5#D b):cK (dQ K S) (zX 0) bM (HF K) [none] H2 D Q:=by
 have l:(L.map fun r=>V.ref r.t).length=L.length:=Ab _;refine zJ (xs:=L.map fun r=>V.ref r.t) (fun j σ ys b=>∃(v:Option V)(us:List Addr),σ=[v]/\Same H2 b/\b D=some 8#ys/\ys=us.map V.ref/\Paired (fun u x=>b u=some 52#x) us (((de L).map tri).take j)) ?_ ?_ ?_ ?_
 ·exact⟨none,[],rfl,Same.new p,ac,rfl,.nil⟩
 ·rintro j σ ys b ⟨v,us,rfl,sm,c,rfl,hp⟩
  exact sm.seq hs
 ·rintro j σ ys b x hx q hy ⟨v,us,rfl,sm,c,rfl,hp⟩
  rw[Ah] at hx;obtain⟨r,f,rfl⟩:=Qr.mp hx;have e:((de L).map tri)[j]?=some (tri r.x):=by rw[Ah,Ah,f];rfl
  obtain⟨g,i,ht⟩:=(hr r (Ak f)).all;refine ca ⟨_,rfl,3,rfl,r.t,_,rfl,SqT.of (sm _ _ ht),(show ¬(HT.sIx 5 0 none=0/\HT.sIx 5 5 55#3=5) from ξ),fun u hu=>?_⟩;have d:=Same.new (o:=.tup (b_ (tri r.x++[g,i]) none 55#3)) hu;refine bK (by rw[l];exact aj ω) q hy (d _ _ c) ⟨_,us++[u],rfl,(63#d).then p,ac,by rw[Ap];rfl,?_⟩;rw[AR e];have ne:∀{a:Addr}{x:List V},upd b u 52#(b_ (tri r.x++[g,i]) none 55#3) a=some 52#x->a≠D:=fun h=>dH h (d _ _ c) 1#8;refine Paired.snoc (Paired.mapP hp fun a x h=>?_) ?_
  ·rw[al (ne (d _ _ h))];exact d _ _ h
  ·rw[al (ne ac),ac];rfl
 ·rintro σ ys b ⟨v,us,rfl,sm,c,rfl,hp⟩
  rw[l,AA (by rw[Ab,Ab];exact Ag _)] at hp;exact k b us sm c hp
def DD(K:Af)(Pt:Addr):Sp:=fun vs H Q _=>∃l as oo p,vs=[.ref l,.int p]/\SqL K H l 2#2/\Tps H as oo/\cT oo/\oo.length<=60/\isP p/\TY Pt H/\
 ∀D us xs H',SY Pt H H'->H D=none->H' D=some 8#(us.map V.ref)->Paired (fun u x=>H' u=some 52#x) us (xs.map tri)->dG p oo oo.length xs->Q 5#D H'
def Pb:zj ["order","prime"] ["order","prime"] 76#DA:=⟨rfl,rfl,rfl,δ,rfl,δ,δ⟩
def Pc(F:Fun K "bars" "bars" DA f fd)(v:Cl P w K mg base aK "paper" ["order","prime"] 6 (HA K Pt)):az P w K mg base aK 7 f fd ["order","prime"] (DD K Pt):=by
 refine F.ok Pb 0#2 3#0
 ·obtain⟨l,as,oo,p,rfl,_⟩:=h;rfl
 ·obtain⟨l,as,oo,p,rfl,j,ht,o,q,hp,tb,k⟩:=h
  refine⟨_,zf (zl (zw ["order","prime"] ["row"] [none] (zu (zL v hr rfl av (za 7#0 (za 7#1 zb)))) (fun b C s₀ H₀ ex=>zh (i:=0) (cN ["row"]) rfl 2#1) (fun b C s₀ H₀ ex=>zE)
   (fun b C s₀ H₀ ex=>kf xM 7#0 kb (kc ze)) (hfr:=dA δ) (te:=HF K))),?_⟩
  refine⟨_,rfl,_,rfl,l,as,oo,p,rfl,j,ht,o,q,hp,tb,fun D L H1 f1 x a y hf=>?_⟩;have G:=DC a.pap 0#10;refine⟨D,rfl,⟨_,SqL.of a.hD⟩,fun r c=>zy (Pa (SqL.of a.hD) a.rw ω c fun u us d e g=>?_)⟩;exact k r us (de L) u (f1.trans (Same.sf d)) (f1.dom c) e g a.pap
end
noncomputable abbrev ll:Stmt:=top 27
section
variable{P:Program}{w:World}{K:Af}{mg:Str->Option Value}{base:Heap}
noncomputable def wk(cs:Wd)(p:List Int):List Int:=(68#p).getD 0::key p
def dh(cs:Wd)(c os:Ξ):Prop:=os.Perm c/\os.Pairwise fun a b=>HT.lexLt (wk cs b) (wk cs a)=false
def Pd{c:Ξ}{d:List 3#7}(w:c.Nodup)(hs:c.Pairwise fun a b=>HT.lexLt (key b) (key a)=false)(ht:Tps H as c)(hp:d.Perm ((aZ.gg (c.map fun p=>(wv cs p).getD 0)).zip as))(hw:d.Pairwise fun a b=>HT.lexLt b.1 a.1=false):∃os,Tps H (d.map 0#17) os/\dh cs c os:=by
 have o:=ht.length;have f:∀q∈d,∃(i:Nat)(p:List Int),c[i]?=some p/\as[i]?=some q.2/\q.1=[(68#p).getD 0,(i:Int)]:=fun q hq=>by
  obtain⟨i,e⟩:=Ql.mp (hp.mem_iff.mp hq);rw[aZ.bh,aZ.CW,Ah] at e;cases e1:c[i]? with
  |none=>rw[e1] at e;simp at e
  |some p=>
   cases e2:as[i]? with
   |none=>rw[e1,e2] at e;simp at e
   |some a=>
    rw[e1,e2] at e;simp only[Bi,Tq,Bg] at e;subst e;exact⟨i,p,e1,e2,rfl⟩
 have dec:∀q∈d,∀(i:Nat)(p:List Int),c[i]?=some p->q.1=[(68#p).getD 0,(i:Int)]->c.getD (q.1.getD 1 0).toNat []=p:=fun q hq i p e1 e2=>by
  rw[e2];show c.getD i []=p;rw[AK,e1];rfl
 refine⟨d.map fun q=>c.getD (q.1.getD 1 0).toNat [],?_,?_,?_⟩
 ·have:∀l:List 3#7,(∀q∈l,q∈d)->Tps H (l.map 0#17) (l.map fun q=>c.getD (q.1.getD 1 0).toNat []):=by
   intro l
   induction l with
   |nil=>intro _;exact .nil
   |cons q l ih=>
    intro h;have hq:=h q Av;obtain⟨i,p,e1,e2,e3⟩:=f q hq;refine .cons ?_ (ih fun x hx=>h x (Ar _ hx));show Tp H q.2 (c.getD (q.1.getD 1 0).toNat []);rw[dec q hq i p e1 e3];obtain⟨v,g1,g2⟩:=ht.get e2;rw[e1] at g1;obtain rfl:=Ai g1;exact g2
  exact this d fun q hq=>hq
 ·have h1:=hp.map fun q:List Int×Addr=>c.getD (q.1.getD 1 0).toNat []
  refine h1.trans (List.Perm.of_eq ?_);apply RJ;intro i;rw[Ah,aZ.bh,aZ.CW,Ah];cases e1:c[i]? with
  |none=>rfl
  |some p=>
   have hi:i<as.length:=by rw[o];exact(BK.mp e1).1
   rw[Ae hi];show some (c.getD i [])=some p;rw[AK,e1];rfl
 ·rw[AQ]
  refine hw.imp_of_mem fun{a b} ha hb h=>?_;obtain⟨i,p,e1,e2,e3⟩:=f a ha;obtain⟨j,r,g1,g2,g3⟩:=f b hb;rw[dec a ha i p e1 e3,dec b hb j r g1 g3];rw[e3,g3,HT.zi] at h;unfold wk;rw[HT.zi]
  by_cases z:(68#r).getD 0=(68#p).getD 0
  ·rw[TH z] at h ⊢
   rw[HT.zi] at h;have u:i<=j:=by
    by_cases y:(j:Int)=(i:Int)
    ·lia
    ·rw[TJ y] at h
     have:=of_decide_eq_false h;lia
   rcases QM i j with l|l
   ·have hi:=69#e1
    have g:=69#g1;obtain⟨hi,rfl⟩:=hi;obtain⟨g,rfl⟩:=g;exact Qq.mp hs i j hi g l
   ·have:i=j:=ω
    subst this;rw[e1] at g1;obtain rfl:=Ai g1;exact aZ.oq _
  ·rw[TJ z] at h ⊢
   exact h
def DE(s:zad H H')(h:Rd H d 51#u):Rd H' d 51#u:=by
 rcases h with h|⟨o,h⟩
 ·exact .inl (s _ _ (fun _ e=>nomatch e) h)
 ·exact .inr ⟨o,s _ _ (fun _ e=>nomatch e) h⟩
noncomputable abbrev u0:Pos:=⟨91,29,91,56⟩
noncomputable abbrev qO:Str:=(("order_by":Str)++".<locals>.")++"<lambda>"
structure WO(K:Af)(H:Hp)(l d:Addr)(as:List Addr)(ab:Ξ)(cs:Wd):Prop where
 hl:SqL K H l 2#2
 ht:Tps H as ab
 hw:hJ ab
 few:(2#6).length<=56
 hd:Rd H d 51#(bH cs)
 nc:(cs.map 2#3).Nodup
 z:cs.length<=57
def WO.same(x:WO K H l d as ab cs)(s:Same H H'):WO K H' l d as ab cs:=⟨s.seq x.hl,s.tps x.ht,x.hw,x.few,x.hd.same s,x.nc,x.z⟩
def u1{q r:List Int}(hq:q∈canon ab)(hr:r∈rims q):r∈canon ab:=by
 obtain⟨t,ht,hx⟩:=Qu.mp (pd.mp hq);obtain⟨a,hs⟩:=jA.mp hx;obtain⟨h1,k,hk,rfl⟩:=FX.mp hr;refine pd.mpr (Qu.mpr ⟨t,ht,jA.mpr ⟨fun z=>?_,((LY hk rfl).1).trans hs⟩⟩);have e:=congrArg List.length z;rw[Az,AE,Qx,QZ] at e;lia
def HG(hw:bT ab=true):∀o∈canon ab,o.length<=5:=fun o a=>by
 obtain⟨_,b,_,_⟩:=sM hw;obtain⟨q,hq,hx⟩:=Qu.mp (pd.mp a);exact(k5.mp (FU (b q hq) hx)).2.1
def DF(K:Af)(Pt:Addr):Sp:=fun vs H Q _=>∃l d as ab cs,vs=[.ref l,.ref d]/\WO K H l d as ab cs/\Tab H Pt u0 qO/\eK 2#6 cs/\
 ∀D H' bs os,SF Pt u0 qO H H'->H D=none->H' D=some 8#(bs.map V.ref)->Tps H' bs os->dh cs 2#6 os->Q 5#D H'
def HH:zj ["web","worths","every"] ["web","worths"] 76#ll:=⟨rfl,rfl,rfl,δ,rfl,δ,δ⟩
def Pe(F:Fun K "order_by" "order_by" ll f fd)(B:Bt mg)(U:fd.code=.ref c)(X:PySem.W.CodeHd base c Pt)(Y:BM mg base)(Cp:Cl P w K mg base aK "pieces" ["web"] 8 (F0 K))(Ca:Cl P w K mg base aK "are_worths" ["every","worths"] 3 (GJ K)):az P w K mg base aK 9 f fd ["web","worths"] (DF K Pt):=by
 refine F.ok0c U HH 0#2 (fun A outer s H vs Q E hr h=>?_)
 ·obtain⟨l,d,as,ab,cs,rfl,_⟩:=h;rfl
 ·obtain⟨l,d,as,ab,cs,rfl,W,tb,J,k⟩:=h
  have hu:=dN hr;refine⟨_,zc (zk (i:=2) HH.nd rfl 2#1 (zL Cp hr rfl av 1#9))
   (zc (cI (ji (jV (zL Ca hr rfl av (za 7#2 (za 7#1 zb))))) qi zA)
   (zf (zl (M5 (k:=6) (iy:=1) (x:="piece") (y:="worths") (te:=gt 71#1 71#0) hr rfl B.sorted ju X rfl Y rfl rfl rfl rfl ⟨rfl,rfl,rfl,rfl,rfl,δ,Hg⟩ (fun _ _ _ _ _ _=>rfl)
    (fun s H f ah c'=>zF (dN ((Room.in1 (Room.in1 hr)).deeper _)) 7#1 7#0 3#1) (za 7#2 zb))))),?_⟩
  refine⟨_,rfl,l,as,ab,rfl,W.hl,W.ht,W.hw,fun L H1 ks q hL C hk=>?_⟩;have kl:=hk.length;have f_:=W.few;refine⟨_,rfl,_,rfl,L,d,ks,canon ab,cs,rfl,SqL.of C,hk,zH ab,W.few,HG W.hw.1,(fun p hp r hr'=>u1 hp hr'),W.hd.same q,W.nc,W.z,fun b H2 hb g=>⟨_,rfl,?_⟩⟩;obtain rfl:b=true:=hb.mpr J;refine a6 ⟨_,rfl,L,ks,(2#6).map fun p=>(wv cs p).getD 0,.ref d,rfl,SqL.of (g _ _ C),?_,by rw[Ab];lia,ω,rfl,tb.same (q.trans g),fun M o j a n N G=>?_,fun D M O o u I v hp hw=>?_⟩
  ·exact On hk (zH ab)
  ·obtain⟨p,ep,hp⟩:=hk.get N
   rw[Ah,ep] at G;obtain rfl:=Ai G;obtain⟨m,hm⟩:=jD (J.1.mem_iff.mpr (Ak ep));refine⟨_,rfl,_,rfl,d,.int m,rfl,?_,?_,rfl⟩
   ·have:=mN (k:=p.map Sum.inl) (b:=a) (DE o (W.hd.same (q.trans g))) (by rw[An];exact o _ _ (fun _ e=>nomatch e) (g _ _ hp))
    rwa [k7,hm] at this
   ·show V.int m=V.int ((68#p).getD 0)
    rw[hm];rfl
  ·have T:Tps M ks 2#6:=zad.tps o (g.tps hk)
   obtain⟨os,to,S⟩:=Pd (zH ab) ((CL ab).imp fun h=>k4.mp h) T hp hw;refine k D _ (O.map 0#17) os ((Same.sf (q.trans g)).trans ((SF.lam o u I).trans (Same.sf 62#v))) ((q.trans g).free (zad.free o u I v)) (by rw[An];exact ac) ((62#v).tps to) S
end
end K67
end
section
namespace aZ
open PySem PyProof.Rows PySem.W
section
variable{prog:Program}{w:World}{A:Around}{E:Ω}{s:Shared}{good:Heap->Prop}{us vs:List Value}{ls:Ξ}
def IsTp(h:Heap)(u:Value)(l:List Int):Prop:=∃(a:Addr)(b:List Value),u=.ref a/\IsTup h a b.toArray/\IntsAre b l/\l≠[]
def IsTp.inj{l m:List Int}(h1:IsTp h u l)(h2:IsTp h u m):l=m:=by
 obtain⟨a,b,rfl,c,i1,_⟩:=h1;obtain⟨f,its',e,d,i2,_⟩:=h2;cases e;have e2:=aZ.IsTup.inj c d;have e3:b=its':=by simpa using e2
 subst e3;exact IntsAre.inj i1 i2
def Pf{fin:Bool}{Q:Bool->Shared->Prop}{l m:List Int}(h1:IntsAre c l)(h2:IntsAre its' m)(hf:fin=decide (l.length<m.length))(hq:Q (HT.lexLt l m) s):KatLex prog w A true fin Q (c.zip its') i s:=by
 induction h1 generalizing its' m i with
 |nil=>
  cases h2 with
  |nil=>rw[hf];exact kat_nil hq
  |cons n t h=>rw[hf];exact kat_nil hq
 |cons n t h ih=>
  cases h2 with
  |nil=>rw[hf];exact kat_nil hq
  |cons n' t' h'=>
   rw[HT.zi] at hq;rw[RS];refine kat_cons (Br (SeqAt.EqAt.int_int n t n' t' prog w 3#19 _ ⟨rfl,rfl⟩:wpAny 0#0 A (eqBool 85#n (.int n' t')) (fun e s'=>e=(n==n')/\s'=s) 3#19 s) (fun e1 d he=>?_) fun _ _ z=>z);obtain⟨rfl,rfl⟩:=he
   by_cases a:n=n'
   ·have b:(n==n')=true:=by simpa using a
    rw[b];rw[TH a] at hq;exact kat_yes (ih h' (by rw[hf,AB,AB];congr 1;rw[Nat.add_lt_add_iff_right]) hq)
   ·have b:(n==n')=false:=by simpa using a
    rw[b];rw[TJ a] at hq;refine kat_no ?_;cases hi:(true&&i==0) with
    |true=>exact oneLt_int hq
    |false=>exact kat_one _ _ (lt_int hq)
def Pg{l m:List Int}{Q:Bool->Shared->Prop}(h1:IsTp s.heap x l)(h2:IsTp s.heap y m)(hq:Q (HT.lexLt l m) s):wpAny 0#0 A (keyLt' (tuples' true) x y) Q E s:=by
 obtain⟨a,b,rfl,⟨o,e,hc,k,d⟩,i1,_⟩:=h1;obtain⟨c,its',rfl,⟨o',e',hc',f,d'⟩,i2,_⟩:=h2;refine kat_lt e d e' d' ?_;exact Pf 6#i1 6#i2 (by rw[Aj,Aj,i1.length,i2.length]) hq
def HI:∀{us:List Value}{ls:Ξ},us.length=ls.length->(∀(i:Nat) u l,us[i]?=some u->ls[i]?=some l->IsTp h u l)->∃fs,KatTups h us fs/\fs.length=us.length/\∀f∈fs,∃n t,f=Value.int n t
 |[],[],_,_=>⟨[],.nil,rfl,fun f hf=>nomatch hf⟩
 |u::us,l::ls,hl,hp=>by
  obtain⟨fs,c,g,j⟩:=HI (us:=us) (ls:=ls) 6#hl fun i u l h1 h2=>hp (i+1) u l 6#h1 6#h2;obtain⟨a,p,rfl,⟨o,e,hc,k,d⟩,i1,b⟩:=hp 0 u l rfl rfl;cases i1 with
  |nil=>exact absurd rfl b
  |cons n t r=>
   refine⟨.int n t::fs,.cons e hc d rfl c,by simp[g],fun f hf=>?_⟩;rcases Qj.mp hf with rfl|hf
   ·exact⟨n,t,rfl⟩
   ·exact j f hf
 |[],_::_,h,_=>by simp at h
 |_::_,[],h,_=>by simp at h
def Ph(e:us.length=ls.length)(p:∃h,good h)(hp:∀h,good h->∀(i:Nat) u l,us[i]?=some u->ls[i]?=some l->IsTp h u l):By prog w A good us ls:=by
 refine⟨e,fun i j u l m h1 h2 b c=>?_,fun h2=>⟨tuples' true,fun s Q E a hq=>?_,fun i j u v l m h1 h2 b c s Q E a hq=>?_⟩⟩
 ·obtain⟨h,d⟩:=p
  exact(hp h d i u l h1 b).inj (hp h d j u m h2 c)
 ·obtain⟨fs,g,q,o⟩:=HI e (hp _ a)
  refine kat_kind (T:=.type "int") g ω (fun f hf=>?_) ξ hq;obtain⟨n,t,rfl⟩:=o f hf;exact Looks.of_pure rfl
 ·exact Pg (hp _ a i u l h1 b) (hp _ a j v m h2 c) hq
end
end aZ
namespace L2
open PySem PySem.Spec PyProof.Rows
section
variable{X:Cx}{aa:Ψ}{σ:St}{H:Hp}{s:Shared}
def Pi(hu:X.A.units+64<cLine){At:Hp->Addr->List Int->Prop}{Is:Heap->Value->List Int->Prop}(J:∀aa σ H s,Inv X aa σ H s->∀p l,At H p l->Is s.heap 5#p l)(L:∀(h h':Heap) u l,(∀b o,h.get? b=some o->h'.get? b=some o)->Is h u l->Is h' u l)(M:∀(A:Around)(good:Heap->Prop)(us:List Value)(ls:Ξ),us.length=ls.length->A.units<cLine->(∃h,good h)->(∀h,good h->∀(i:Nat) u l,us[i]?=some u->ls[i]?=some l->Is h u l)->aZ.By X.prog X.w A good us ls):cP X 2#7 (fun xs H Q=>∃(l:Addr)(as:List Addr)(ls:Ξ),xs=[.ref l]/\SqL X.K H l 2#2/\Paired (At H) as ls/\ls.length<64/\
  ∀(D:Addr)(j:List 3#7),j.Perm (ls.zip as)->j.Pairwise 1#16->H D=none->Q 5#D (upd H D 8#(j.map fun q=>V.ref q.2))):=by
 intro aa s σ H xs us Q I r h;obtain⟨l,as,ls,rfl,hq,hp,y,q⟩:=h;obtain⟨u,rfl,C⟩:=vals1 r;cases C;obtain⟨N,v,E,hz⟩:=I.list hq;have d:=v.length;obtain rfl:=aG v;rw[Ab] at d hz;have F:=AN hp;have G:∀h:Heap,(∀b o,s.heap.get? b=some o->h.get? b=some o)->∀(i:Nat) u l,(1#4)[i]?=some u->ls[i]?=some l->Is h u l:=fun h hk i u l h1 h2=>by
  rw[Ah] at h1;cases e:as[i]? with
  |none=>rw[e] at h1;simp at h1
  |some a=>
   rw[e] at h1;obtain rfl:=Ai h1;exact L _ _ _ _ hk (J _ _ _ _ I _ _ (iU hp i a l e h2))
 refine aZ.yx (ls:=ls) (good:=fun h=>∀b o,s.heap.get? b=some o->h.get? b=some o) E.isList (M _ _ _ _ (by rw[Ab];exact F) (B0 hu) ⟨s.heap,fun _ _ e=>e⟩ G) (fun h' hk=>hk) (by rw[Ab];exact hz) 4#11 fun out f=>?_;obtain⟨ps,c,f,hs⟩:=f;have all:∀p∈ps,p.2=Value.ref (addrOf p.2):=fun p g=>by
  have:=(RF (c.mem_iff.mp g:(p.1,p.2)∈ls.zip 1#4)).2;obtain⟨a,_,e⟩:=Qi.mp this;rw[<-e];rfl
 have x:(0#8).Perm (ls.zip as):=by
  have h1:=c.map (fun p:List Int×Value=>(p.1,addrOf p.2));have e:(ls.zip 1#4).map (fun p:List Int×Value=>(p.1,addrOf p.2))=ls.zip as:=by
   rw[S3,An];exact(AC fun p _=>rfl).trans (RK _)
  rw[e] at h1;exact h1
 obtain⟨e,he⟩:=sortedAll_at s.heap 1#4 out;have ex:out.toList=((0#8).map fun q=>Value.ref q.2):=by
  rw[f,An];exact AC fun p g=>all p g
 refine⟨.ref (s⁻¹+1),_,I.laid (t':=s.toks) (fun _ _=>sortedAll_old) (QI _) (show zr X.prog X.w _ _ _ 8#((0#8).map fun q=>V.ref q.2) from⟨?_,out.toList,e,?_,?_⟩),rfl,q _ _ x ?_ 61#QI⟩
 ·rw[Ab,x.length_eq,Rb];lia
 ·rw[ex]
  exact oy (fun q:List Int×Addr=>q.2) _
 ·simpa using he
 ·rw[AQ];exact hs
def lq(H:Hp)(p:Addr)(l:List Int):Prop:=Tp H p l/\l≠[]
def u9{x:V}{xs:List V}(h:Vals (x::xs) us):∃u c,us=u::c/\RelV x u/\Vals xs c:=by
 cases h with
 |cons a b=>exact⟨_,_,rfl,a,b⟩
def Pj{h h':Heap}(k:∀b o,h.get? b=some o->h'.get? b=some o)(x:IsTup h a xs):IsTup h' a xs:=by
 obtain⟨o,e,r⟩:=x;exact⟨o,k _ _ e,r⟩
def Pk(hu:X.A.units+64<cLine):cP X 2#7 (fun xs H Q=>∃(l:Addr)(as:List Addr)(ls:Ξ),xs=[.ref l]/\SqL X.K H l 2#2/\Paired (lq H) as ls/\ls.length<64/\
  ∀(D:Addr)(f:List 3#7),f.Perm (ls.zip as)->f.Pairwise 1#16->H D=none->Q 5#D (upd H D 8#(f.map fun q=>V.ref q.2))):=
 Pi (At:=lq) (Is:=aZ.IsTp) hu (fun aa σ H s I p l h=>by
  obtain⟨e,g,i,_⟩:=I.tuple (SqT.of (K:=X.K) h.1);exact⟨p,e,rfl,i,intsAre_of g,h.2⟩) (fun h h' u l k ⟨a,e,e1,e2,e3⟩=>⟨a,e,e1,Pj k e2,e3⟩) fun A good us ls a _ c d=>aZ.Ph a c d
end
end L2
end
section
namespace aZ
open PySem PyProof.Rows PySem.W
section
variable{prog:Program}{w:World}{A:Around}{E:Ω}{s:Shared}{good:Heap->Prop}{us vs:List Value}{ls:Ξ}
def DG{n a:Int}{t t':Tok}{i:Nat}(h:if n=a then KatLex prog w A true fin Q r (i+1) s else Q (decide (n<a)) s):KatLex prog w A true fin Q ((.int n t,.int a t')::r) i s:=by
 refine kat_cons (Br (SeqAt.EqAt.int_int n t a t' prog w 3#19 _ ⟨rfl,rfl⟩:wpAny 0#0 A (eqBool 85#n (.int a t')) (fun e s'=>e=(n==a)/\s'=s) 3#19 s) (fun e1 c he=>?_) fun _ _ z=>z);obtain⟨rfl,rfl⟩:=he
 by_cases b:n=a
 ·rw[TH b] at h
  rw[show(n==a)=true by simpa using b];exact kat_yes h
 ·rw[TJ b] at h
  rw[show(n==a)=false by simpa using b];refine kat_no ?_;cases hi:(true&&i==0) with
  |true=>exact oneLt_int h
  |false=>exact kat_one _ _ (lt_int h)
def Pm{b a:Bool}(h:if b=a then KatLex prog w A true fin Q r 3 s else Q (decide (b2i b<b2i a)) s):KatLex prog w A true fin Q ((.bool b,.bool a)::r) 2 s:=by
 refine kat_cons (Br (SeqAt.EqAt.bool_bool b a prog w 3#19 _ ⟨rfl,rfl⟩:wpAny 0#0 A (eqBool (.bool b) (.bool a)) (fun e s'=>e=(b==a)/\s'=s) 3#19 s) (fun e1 d he=>?_) fun _ _ z=>z);obtain⟨rfl,rfl⟩:=he
 by_cases c:b=a
 ·rw[TH c] at h
  rw[show(b==a)=true by simpa using c];exact kat_yes h
 ·rw[TJ c] at h
  rw[show(b==a)=false by simpa using c];refine kat_no ?_;show wpAny 0#0 A (oneLt' false (.bool b) (.bool a)) Q 3#19 d;exact kat_one _ _ (lt_bool h)
def IsQ(h:Heap)(u:Value)(l:List Int):Prop:=∃(a:Addr)(n n2 c:Int)(b:Bool)(t d e:Tok),u=.ref a/\l=[n,n2,b2i b,c]/\IsTup h a #[.int n t,.int n2 d,.bool b,.int c e]
def HJ(h:b2i b=b2i a):b=a:=by cases b<;>cases a<;>first|rfl|cases h
def DH{l m:List Int}{Q:Bool->Shared->Prop}(h1:IsQ s.heap x l)(h2:IsQ s.heap y m)(hq:Q (HT.lexLt l m) s):wpAny 0#0 A (keyLt' (tuples' true) x y) Q E s:=by
 obtain⟨a,n,n2,c,b,t,p,q,rfl,rfl,o,e,hc,k,d⟩:=h1;obtain⟨v,f,g,h,i,t',r,u,rfl,rfl,o',e',hc',C,d'⟩:=h2;refine kat_lt e d e' d' ?_;show KatLex prog w A true (decide (4<4)) Q [(.int n t,.int f t'),(.int n2 p,.int g r),(.bool b,.bool i),(.int c q,.int h u)] 0 s;rw[HT.zi] at hq;refine DG ?_
 by_cases e1:n=f
 ·rw[TH e1] at hq ⊢
  rw[HT.zi] at hq;refine DG ?_
  by_cases e2:n2=g
  ·rw[TH e2] at hq ⊢
   rw[HT.zi] at hq;refine Pm ?_
   by_cases e3:b=i
   ·rw[TH e3]
    rw[TH (by rw[e3]),HT.zi] at hq;refine DG ?_
    by_cases j:c=h
    ·rw[TH j] at hq ⊢
     exact kat_nil hq
    ·rw[TJ j] at hq ⊢
     exact hq
   ·rw[TJ e3]
    rw[TJ (fun z=>e3 (HJ z))] at hq;exact hq
  ·rw[TJ e2] at hq ⊢
   exact hq
 ·rw[TJ e1] at hq ⊢
  exact hq
def HK:∀{us:List Value}{ls:Ξ},us.length=ls.length->(∀(i:Nat) u l,us[i]?=some u->ls[i]?=some l->IsQ h u l)->∃fs,KatTups h us fs/\fs.length=us.length/\∀f∈fs,∃n t,f=Value.int n t
 |[],[],_,_=>⟨[],.nil,rfl,fun f hf=>nomatch hf⟩
 |u::us,l::ls,hl,hp=>by
  obtain⟨fs,c,g,j⟩:=HK (us:=us) (ls:=ls) 6#hl fun i u l h1 h2=>hp (i+1) u l 6#h1 6#h2;obtain⟨a,n,n2,p,b,t,q,r,rfl,rfl,o,e,hc,k,d⟩:=hp 0 u l rfl rfl;refine⟨.int n t::fs,.cons e hc d rfl c,by simp[g],fun f hf=>?_⟩;rcases Qj.mp hf with rfl|hf
  ·exact⟨n,t,rfl⟩
  ·exact j f hf
 |[],_::_,h,_=>by simp at h
 |_::_,[],h,_=>by simp at h
def IsQ.inj{l m:List Int}(h1:IsQ h u l)(h2:IsQ h u m):l=m:=by
 obtain⟨a,n,n2,d,b,t,f,g,rfl,rfl,q⟩:=h1;obtain⟨i,j,o,p,r,t',v,w,e,rfl,c⟩:=h2;cases e;cases aZ.IsTup.inj q c
 rfl
def Pn(e:us.length=ls.length)(p:∃h,good h)(hp:∀h,good h->∀(i:Nat) u l,us[i]?=some u->ls[i]?=some l->IsQ h u l):By prog w A good us ls:=by
 refine⟨e,fun i j u l m h1 h2 b c=>?_,fun h2=>⟨tuples' true,fun s Q E a hq=>?_,fun i j u v l m h1 h2 b c s Q E a hq=>?_⟩⟩
 ·obtain⟨h,d⟩:=p
  exact(hp h d i u l h1 b).inj (hp h d j u m h2 c)
 ·obtain⟨fs,g,q,o⟩:=HK e (hp _ a)
  refine kat_kind (T:=.type "int") g ω (fun f hf=>?_) ξ hq;obtain⟨n,t,rfl⟩:=o f hf;exact Looks.of_pure rfl
 ·exact DH (hp _ a i u l h1 b) (hp _ a j v m h2 c) hq
end
end aZ
namespace L2
open PySem PySem.Spec PyProof.Rows
noncomputable def vQ(l:List Int):List V:=[.int (l.getD 0 0),.int (l.getD 1 0),if l.getD 2 0=1 then .non else .int (l.getD 3 0)]
def m6(l:List Int):Prop:=∃n n2 a b,l=[n,n2,b2i b,a]/\(b=true->a=0)
def di(H:Hp)(a:Addr)(l:List Int):Prop:=m6 l/\H a=some 52#(vQ l)
noncomputable def kQ(l:List Int):List V:=[.int (l.getD 0 0),.int (l.getD 1 0),.bl (decide (l.getD 2 0=1)),.int (l.getD 3 0)]
abbrev DI:Sp:=E_ di fun _ l=>kQ l
section
variable{X:Cx}{a:Expr}{ta:TA}{p p2 pos cB:Pos}{k:Nat}{f:Addr}{fd:FuncData}{x y:Str}
def Po(K:Af)(ta:TA):TE:=fun σ H Q=>ta σ H fun vs H1=>∃(l:Addr)(as:List Addr)(ab:Ξ),vs=[.ref l]/\SqL K H1 l 2#2/\Paired (di H1) as ab/\ab.length<64/\
 ∀D H2(c:List 3#7),Same H1 H2->H1 D=none->H2 D=some 8#(c.map fun q=>V.ref q.2)->c.Perm (ab.zip as)->c.Pairwise 1#16->Q 5#D H2
def Pp(F:az X.prog X.w X.K X.mg X.base aK k f fd [x] DI)(hr:Room (k+2) X.A)(hb:Binds X.K fd [x] [])(hg:Gl X "sorted")(hm:X.mg "sorted"=none)(hv:Ba "sorted"=some 2#7)(o0:Gl X y)(ng:X.mg y=some 5#f)(ha:PA X [a] ta)(d_:(y==("__debug__":Str))=false:=by decide)(he:starEach [a] X.env=[60#a]:=by rfl):PE X (.Call (.Name "sorted" p) [a] [⟨some "key",.Name y p2,cB⟩] pos) (Po X.K ta):=by
 intro aa s σ H Q I h;refine wpAny_Call_Name_kw (ij I hg hm hv ?_);refine callWith_kw ?_ (by rw[he];rfl) (by rw[he];rfl) rfl rfl;refine aT 1#12 fun us C ⟨vs,H1,v,i,E⟩=>?_;obtain⟨l,as,ab,rfl,M,ht,j,q⟩:=E;obtain⟨u,rfl,N⟩:=vals1 i;cases N;refine kws_cons (p9 v o0 ng (kws_nil ?_) d_);show wpAny 0#1 X.A 2#12 _ _ C;refine Fb (At:=di) (Kf:=fun _ l=>kQ l) (Is:=aZ.IsQ) (rk:=id) (un:=id) (fun s h=>⟨h.1,s _ _ h.2⟩) (fun _=>rfl) (fun{aa σ H s p a ps} I h e=>?_) (fun _ _ _ _ a _ c d=>aZ.Pn a c d) F hr hb v M ht j fun D H' G s' I' sm J L hp hs=>⟨.ref D,H',I',rfl,q D H' G sm J L hp hs⟩;obtain⟨⟨n,n2,o,b,rfl,_⟩,_⟩:=h;obtain⟨ae,i,O,_⟩:=I.tuple (SqT.of (K:=X.K) e);obtain⟨g,y_,rfl,⟨t,rfl⟩,P⟩:=u9 i;obtain⟨g,yI,rfl,⟨S,rfl⟩,T⟩:=u9 P;obtain⟨g,yr,rfl,r,U⟩:=u9 T;obtain⟨g,yM,rfl,⟨W,rfl⟩,Y⟩:=u9 U;cases Y;obtain rfl:g=.bool b:=by
  have:(decide (([n,n2,b2i b,o]:List Int).getD 2 0=1))=b:=by cases b<;>rfl
  rw[this] at r;cases r;rfl
 exact⟨p,n,n2,o,b,t,S,W,rfl,rfl,O⟩
end
end L2
end
section
namespace K67
open K1
open PySem L2 STb
noncomputable abbrev u_:Stmt:=top 42
noncomputable abbrev DJ:Stmt:=top 41
structure nf(PO PY:Addr)(H:Hp):Prop where
 ne:PO≠PY
 o:Tab H PO u0 qO
 y:TY PY H
structure SZ(PO PY:Addr)(H H':Hp):Prop where
 keep:∀b o,Pl o->H b=some o->H' b=some o
 rd:∀{b kvs},Rd H b 51#kvs->Rd H' b 51#kvs
 dom:∀{b},H' b=none->H b=none
 tab:nf PO PY H->nf PO PY H'
section
variable{PO PY:Addr}{H H' H1 H2:Hp}{a b d l:Addr}
def SZ.trans(x:SZ PO PY H H1)(y:SZ PO PY H1 H2):SZ PO PY H H2:=⟨fun b o n h=>y.keep b o n (x.keep b o n h),fun h=>y.rd (x.rd h),fun h=>x.dom (y.dom h),fun h=>y.tab (x.tab h)⟩
def SZ.of1(x:SF PO u0 qO H H'):SZ PO PY H H':=⟨x.keep,x.rd,x.dom,fun t=>⟨t.ne,x.tab t.o,x.tab2 (Ne.symm t.ne) t.y⟩⟩
def SZ.of2(x:SY PY H H'):SZ PO PY H H':=⟨x.keep,x.rd,x.dom,fun t=>⟨t.ne,x.tab2 t.ne t.o,x.tab t.y⟩⟩
def SZ.same(s:Same H H'):SZ PO PY H H':=.of1 (Same.sf s)
def SZ.lst(x:SZ PO PY H H')(h:H a=some 8#xs):H' a=some 8#xs:=x.keep _ _ Hl h
def SZ.tup(x:SZ PO PY H H')(h:H a=some 52#xs):H' a=some 52#xs:=x.keep _ _ Hm h
def SZ.tps(x:SZ PO PY H H')(h:Tps H as ab):Tps H' as ab:=Paired.mapP h fun _ _ q=>x.tup q
def SZ.seq{K:Af}(x:SZ PO PY H H')(h:SqL K H l xs):SqL K H' l xs:=by
 rcases h with (z|⟨o,z⟩)|z
 ·exact .inl 74#(x.lst z)
 ·exact .inl (.inr ⟨o,x.keep _ _ ⟨1#2,1#2,4#3⟩ z⟩)
 ·exact .inr z
def SZ.put(x:SZ PO PY H H1)(f:H a=none)(h:H1 a=some 8#xs):SZ PO PY H (upd H1 a 8#ys):=by
 have ne:∀{b:Addr}{u:HO},H b=some u->b≠a:=fun e=>zg e f;refine⟨fun b u n e=>by rw[al (ne e)];exact x.keep b u n e,fun{b k} e=>?_,fun{b} e=>?_,fun t=>?_⟩
 ·obtain⟨u,d⟩:=lh e
  unfold Rd;rw[al (ne d)];exact x.rd e
 ·by_cases z:b=a
  ·subst z;rw[ac] at e;cases e
  ·rw[al z] at e;exact x.dom e
 ·have c:=x.tab t
  exact⟨c.ne,c.o.off h 1#2 4#3,c.y.off h 1#2 4#3⟩
end
noncomputable def wt(cs:Wd)(os:Ξ)(i:Nat):Int:=(68#(os.getD i [])).getD 0
noncomputable def q4(cs:Wd)(os:Ξ)(x:a_):List Int:=match x.d with
 |none=>[x.hi,wt cs os x.b,1,0]
 |some e=>[x.hi,wt cs os x.b,0,wt cs os e]
noncomputable def cZ(cs:Wd)(os:Ξ)(x:a_):Bool:=match x.d with
 |none=>true
 |some e=>!decide (wt cs os x.b=wt cs os e)
noncomputable def ksQ(cs:Wd)(os:Ξ)(xs:List a_):Ξ:=(xs.filter (cZ cs os)).map (q4 cs os)
def HM(cs:Wd)(os:Ξ)(x:a_):m6 (q4 cs os x):=by
 unfold q4;split
 ·exact⟨_,_,0,true,rfl,fun _=>rfl⟩
 ·exact⟨_,_,_,false,rfl,fun z=>nomatch z⟩
def fe(cs:Wd)(c:Ξ)(p:Int)(l:Ξ):Prop:=∃os xs,dh cs c os/\dG p os os.length xs/\l.Perm (ksQ cs os xs)/\l.Pairwise fun a b=>HT.lexLt b a=false
def Pq(a:tri x=tri y):x.hi=y.hi/\x.b=y.b/\x.d=y.d:=by
 unfold tri at a;refine⟨by injection a with w1;injection w1,by injection a with _ w1;injection w1 with w1;injection w1 with w1;exact Int.ofNat.inj w1,?_⟩;injection a with _ w1;injection w1 with _ w1;injection w1 with w1
 cases hx:x.d<;>cases hy:y.d<;>rw[hx,hy] at w1<;>first|rfl|(injection w1 with w1;exact congrArg some (Int.ofNat.inj w1))|cases w1
def HP{os:Ξ}:∀{xs ys:List a_},xs.map tri=ys.map tri->ksQ cs os xs=ksQ cs os ys
 |[],[],_=>rfl
 |[],_::_,z=>by cases z
 |_::_,[],z=>by cases z
 |x::xs,y::ys,z=>by
  rw[Aw,Aw] at z;have e:tri x=tri y:=by injection z
  have z2:xs.map tri=ys.map tri:=by injection z
  have a:=HP (cs:=cs) (os:=os) z2;obtain⟨d,b,c⟩:=Pq e;have f:cZ cs os x=cZ cs os y:=by unfold cZ;rw[b,c]
  have g:q4 cs os x=q4 cs os y:=by unfold q4;rw[d,b,c]
  unfold ksQ at a ⊢;rw[Q5,Q5,f];split
  ·rw[Aw,Aw,g,a]
  ·exact a
def HQ{l m:Ξ}(hp:l.Perm m)(h1:l.Pairwise fun a b=>HT.lexLt b a=false)(h2:m.Pairwise fun a b=>HT.lexLt b a=false):l=m:=
 List.Perm.eq_of_pairwise (fun a b _ _ g1 g2=>CK _ _ g2 g1) h1 h2 hp
def Ps(h:wk cs p=wk cs q):p=q:=by
 unfold wk key at h;injection h with _ h
 injection h
def Pu{b os a:Ξ}(h:dh cs b os)(h':dh cs b a):os=a:=by
 have e:os.map (wk cs)=a.map (wk cs):=HQ ((h.1.trans h'.1.symm).map _) (by rw[AQ];exact h.2) (by rw[AQ];exact h'.2);exact(Rg fun p q z=>Ps z).mp e
def DK(P:Bar.Pr p)(h:fe cs c p l)(h':fe cs c p d):l=d:=by
 obtain⟨os,xs,o,a,e,f⟩:=h;obtain⟨j,q,o',g,b,i⟩:=h';obtain rfl:=Pu o o';rw[HP (O' P g a)] at b;exact HQ (e.trans b.symm) f i
def HR{ab os:Ξ}(hw:bT ab=true)(o:eK 2#6 cs)(h:dh cs 2#6 os):cT os:=by
 obtain⟨_,d,_,_⟩:=sM hw;have l:os.Nodup:=h.1.nodup_iff.mpr (zH ab);intro i p ep;have hp:=h.1.mem_iff.mp (Ak ep);obtain⟨hi,c⟩:=BK.mp ep;refine t4.mpr ⟨?_,fun z=>?_,fun r hr=>?_⟩
 ·obtain⟨q,hq,hx⟩:=Qu.mp (pd.mp hp)
  exact FU (d q hq) hx
 ·obtain⟨j,a,e2⟩:=Rf.mp z
  have:=(Ti l).mp (e2.trans c.symm);lia
 ·obtain⟨j,f⟩:=Ql.mp (h.1.mem_iff.mpr (u1 hp hr))
  obtain⟨a,b⟩:=BK.mp f;have u:(68#r).getD 0<=(68#p).getD 0:=o.2 p hp r hr;have v:r.length<p.length:=by
   unfold rims at hr;split at hr
   ·cases hr
   ·obtain⟨j,a,rfl⟩:=Qi.mp hr
    have:=Qn.mp a;rw[Az,AE,Qx];lia
  refine Rf.mpr ⟨j,?_,b⟩;rcases Q8 j i with g|g|g
  ·lia
  ·subst g
   rw[c] at b;subst b;lia
  ·have:=Qq.mp h.2 i j hi a g
   rw[c,b] at this;unfold wk key at this;rw[HT.zi] at this
   by_cases e:(68#r).getD 0=(68#p).getD 0
   ·rw[TH e,HT.zi,TJ ω] at this
    have:=of_decide_eq_false this;lia
   ·rw[TJ e] at this
    have:=of_decide_eq_false this;lia
section
variable{P:Program}{w:World}{K:Af}{mg:Str->Option Value}{base:Heap}{f:Addr}{fd:FuncData}{PO PY:Addr}
def Pv:zj ["bar"] ["bar"] 76#u_:=⟨rfl,rfl,rfl,δ,rfl,δ,δ⟩
def Pw(F:Fun K "bar_key" "bar_key" u_ f fd):az P w K mg base aK 1 f fd ["bar"] DI:=by
 refine F.ok Pv 0#2 3#0
 ·obtain⟨a,ps,rfl,_⟩:=h;rfl
 ·obtain⟨a,ps,rfl,⟨⟨n,n2,c,b,rfl,hb⟩,ha⟩,k⟩:=h
  refine⟨_,zf (zl (zQ (za 59#zC (za 59#zC (za (nJ ka 59#zC fC (ay _))
   56#(nu (zq ka 59#zC fC (ay _)) ze 59#zC)))))),?_⟩
  refine⟨_,rfl,a,_,0,_,rfl,rfl,SqT.of ha,rfl,_,rfl,a,_,1,_,rfl,rfl,SqT.of ha,rfl,_,rfl,a,_,2,_,rfl,rfl,SqT.of ha,rfl,rfl,_,rfl,a,_,2,_,rfl,rfl,SqT.of ha,rfl,rfl,_,rfl,?_⟩;cases b with
  |true=>
   obtain rfl:=hb rfl;exact bg ⟨aj 2#0,fun p hp=>k p hp⟩
  |false=>
   exact a6 ⟨_,rfl,a,_,2,_,rfl,rfl,SqT.of ha,rfl,aj 2#0,fun p hp=>k p hp⟩
noncomputable abbrev DL:List Str:=["web","worths","prime","order","told","bar","born","dead"]
def gk:zj DL ["web","worths","prime"] 76#DJ:=⟨rfl,rfl,rfl,δ,rfl,δ,δ⟩
def ic(K:Af)(PO PY:Addr):Sp:=fun vs H Q _=>∃l d as ab cs p,vs=[.ref l,.ref d,.int p]/\WO K H l d as ab cs/\nf PO PY H/\eK 2#6 cs/\isP p/\
 ∀D H' us L,SZ PO PY H H'->H D=none->H' D=some 8#(us.map V.ref)->Paired (di H') us L->fe cs 2#6 p L->Q 5#D H'
def HS(h:di H a l)(s:Same H H'):di H' a l:=⟨h.1,s _ _ h.2⟩
def vb(h:Paired (di H) us L)(s:Same H H'):Paired (di H') us L:=Paired.mapP h fun _ _ q=>HS q s
def DM(h:Paired (di H) us L)(hb:H b=some 8#xs):Paired (di 81#b) us L:=
 Paired.mapP h fun _ _ q=>⟨q.1,by rw[al (dH q.2 hb 1#8)];exact q.2⟩
def vc{cs:Wd}{c os:Ξ}{bs:List Addr}(hk:(cs.map 2#3).Perm c)(f:dh cs c os)(hd:Rd H d 51#(bH cs))(ht:Tps H bs os){i:Nat}(hi:i<os.length):∃b,eR (bs.map V.ref) (i:Int)=some 5#b/\DGet H d 5#b 55#(.int (wt cs os i)):=by
 have g:=ht.length;have a:bs[i]?=some bs[i]:=Ae ω;obtain⟨q,eq,hq⟩:=ht.get a;refine⟨bs[i],im (by rw[Ah,a];rfl),?_⟩;obtain⟨m,hm⟩:=jD (hk.mem_iff.mpr (f.1.mem_iff.mp (Ak eq)));have:=mN (k:=q.map Sum.inl) (b:=bs[i]) hd (by rw[An];exact hq);rw[k7,hm] at this;have e:wt cs os i=m:=by unfold wt;rw[AK,eq];show(wv cs q).getD 0=m;rw[hm];rfl
 rw[e];exact this
def Px(F:Fun K "bars_by" "bars_by" DJ f fd)(B:Bt mg)(Co:Cl P w K mg base aK "order_by" ["web","worths"] 9 (DF K PO))(Cb:Cl P w K mg base aK "bars" ["order","prime"] 7 (DD K PY))(Fk:Fun K "bar_key" "bar_key" u_ fk cD)(bk:Binds K cD ["bar"] [])(mk:mg "bar_key"=some 5#fk)(Gk:az P w K mg base aK 1 fk cD ["bar"] DI):az P w K mg base aK 10 f fd ["web","worths","prime"] (ic K PO PY):=by
 refine F.ok gk 0#2 3#0
 ·obtain⟨l,d,as,ab,cs,p,rfl,_⟩:=h;rfl
 ·obtain⟨l,d,as,ab,cs,p,rfl,W,tt,hg,hp,k⟩:=h
  have hu:=dN hr;have vd:Room (1+2) _:=hr.mono ξ;refine⟨_,zc (zk (i:=3) gk.nd rfl 2#1 (zL Co hr rfl av (za 7#0 (za 7#1 zb))))
   (zc (zk (i:=4) gk.nd rfl 2#1 (zW zb))
   (zc (zY AZ rfl (zu (zL Cb hr rfl av (za 7#3 (za 7#2 zb)))) (zh (i:=5) gk.nd rfl 2#1)
    (zc (zk (i:=6) gk.nd rfl 2#1 (zF hu 7#1 (zx zD 7#3 (zx zC 7#5 ze 3#1) 3#1) 3#1))
    (zc (zk (i:=7) gk.nd rfl 2#1 (nu (zq ka (zx zC 7#5 ze 3#1) fC (ay _)) fC (zF hu 7#1 (zx zD 7#3 (zx zC 7#5 ze 3#1) 3#1) 3#1)))
    (zf (cI (zq qp 7#6 7#7 (ay _)) (zf (gm (fM A9 QB QC jk 7#4 56#(zQ (za (zx zC 7#5 ze 3#1) (za 7#6 (za 7#7 zb))))))) zA)))))
   64#(Pp Gk vd bk rfl B.sorted ju rfl mk (za 7#4 zb)))),?_⟩
  refine⟨_,rfl,_,rfl,l,d,as,ab,cs,rfl,W,tt.o,hg,fun O H1 bs os f1 yZ gG cL J=>?_⟩;have z1:SZ PO PY H H1:=.of1 f1;have op:=HR W.hw.1 hg J;have ol:os.length<=56:=by rw[J.1.length_eq];exact W.few
  refine⟨aj 2#0,fun T hT=>?_⟩;have Y:=Same.new (o:=.lst []) hT;have z2:=z1.trans (.same Y);have i6:H T=none:=z1.dom hT;refine⟨_,rfl,_,rfl,O,bs,os,p,rfl,SqL.of (Y _ _ gG),Y.tps cL,op,ω,hp,(z2.tab tt).y,fun B3 us xs H3 f3 kN kJ dR pp=>?_⟩;have z3:=z2.trans (.of2 f3);have kZ:H3 O=some 8#(bs.map V.ref):=f3.lst (Y _ _ gG);have ho3:Tps H3 bs os:=f3.tps (Y.tps cL);have tT:H3 T=some (.lst []):=f3.lst ac;have lu:us.length=xs.length:=by rw[AN dR,Ab]
  have lx:xs.length<=56:=by
   have nd:(xs.map (·.b)).Nodup:=pp.srt.imp fun h=>ω
   have:=nd.length_le_of_subset (l₂:=AO os.length) fun b hb=>by
    obtain⟨x,hx,rfl⟩:=Qi.mp hb;exact Qn.mpr (gz pp hx).born
   rw[Ab,BE] at this;lia
  have hBT:B3≠T:=fun e=>by rw[e] at kN;rw[ac] at kN;cases kN
  have hOT:O≠T:=zg gG hT;refine⟨B3,rfl,⟨_,SqL.of kJ⟩,gC (K:=K) (a:=B3) (xs:=us.map V.ref) (fun i σ c=>∃(M N S:Option V)(ts:List Addr),σ=[some 5#l,some 5#d,some 57#p,some 5#O,some 5#T,M,N,S]/\SZ PO PY H c/\c B3=some 8#(us.map V.ref)/\Paired (fun u x=>c u=some 52#x) us (xs.map tri)/\c O=some 8#(bs.map V.ref)/\Tps c bs os/\c T=some 8#(ts.map V.ref)/\Paired (di c) ts (ksQ cs os (xs.take i)))
   ⟨none,none,none,[],rfl,z3,kJ,dR,kZ,ho3,tT,.nil⟩ (fun i σ c _ ⟨_,_,_,_,_,_,h,_⟩=>SqL.of h) ?_ ?_⟩
  ·rintro i x σ c hx ⟨M,N,S,ts,rfl,I,oh,bJ,U,X,C,G⟩
   obtain⟨u,eu,rfl⟩:=zM hx;obtain⟨y,ey,hy⟩:=hF bJ eu;rw[Ah] at ey;obtain⟨r,er,rfl⟩:=Qr.mp ey;have jB:=gz pp (Ak er);have bA:=I.rd W.hd;obtain⟨b1,kW,g1⟩:=vc hg.1 J bA X (i:=r.b) jB.born;have hi:i<xs.length:=(69#er).1;have tl:ts.length<=56:=by
    rw[AN G];unfold ksQ;rw[Ab];have:=QD (cZ cs os) (xs.take i);rw[AE] at this;lia
   have j:ksQ cs os (xs.take (i+1))=ksQ cs os (xs.take i)++if cZ cs os r=true then [q4 cs os r] else []:=by
    rw[AR er];unfold ksQ;rw[QA,Ap,Q5,Sk];split<;>rfl
   refine⟨_,rfl,_,rfl,_,rfl,u,_,1,_,rfl,rfl,SqT.of hy,rfl,O,_,_,_,rfl,rfl,SqL.of U,kW,d,_,rfl,g1,?_⟩;have fin:∀{g:V},vQ (q4 cs os r)=[.int r.hi,.int (wt cs os r.b),g]->∀t,c t=none->∃M N S dD,[some (V.ref l),some 5#d,some 57#p,some 5#O,some 5#T,some 5#u,some 57#(wt cs os r.b),some g]=[some 5#l,some 5#d,some 57#p,some 5#O,some 5#T,M,N,S]/\SZ PO PY H (upd (upd c t 3#5) T 8#(ts.map V.ref++[.ref t]))/\
     upd (upd c t 3#5) T 8#(ts.map V.ref++[.ref t]) B3=some 8#(us.map V.ref)/\Paired (fun u x=>upd (upd c t 3#5) T 8#(ts.map V.ref++[.ref t]) u=some 52#x) us (xs.map tri)/\upd (upd c t 3#5) T 8#(ts.map V.ref++[.ref t]) O=some 8#(bs.map V.ref)/\
     Tps (upd (upd c t 3#5) T 8#(ts.map V.ref++[.ref t])) bs os/\upd (upd c t 3#5) T 8#(ts.map V.ref++[.ref t]) T=some 8#(dD.map V.ref)/\Paired (di (upd (upd c t 3#5) T 8#(ts.map V.ref++[.ref t]))) dD (ksQ cs os (xs.take i)++[q4 cs os r]):=fun{g} ev t ht=>by
    have v:=Same.new (o:=.tup [.int r.hi,.int (wt cs os r.b),g]) ht;have ga:=v _ _ C;have e5:upd c t 3#5 t=some 3#5:=ac;generalize upd c t 3#5=H5 at v ga e5;refine⟨_,_,_,ts++[t],rfl,(I.trans (.same v)).put i6 ga,by rw[al hBT];exact v _ _ oh,Paired.mapP bJ fun a x e=>by rw[al (dH (v _ _ e) ga 1#8)];exact v _ _ e,by rw[al hOT];exact v _ _ U,Tps.upd (v.tps X) ga 3#8,by rw[ac,Ap];rfl,?_⟩;exact DM (Paired.snoc (vb G v) ⟨HM _ _ _,by rw[ev];exact e5⟩) ga
   cases hd:r.d with
   |none=>
    have e3:tri r=[.int r.hi,.int r.b,.non]:=by unfold tri;rw[hd]
    have ek:cZ cs os r=true:=by unfold cZ;rw[hd]
    rw[e3] at hy;rw[ek,TH rfl] at j;refine⟨_,rfl,u,_,2,.non,rfl,rfl,SqT.of hy,rfl,rfl,_,rfl,bg ⟨_,rfl,_,rfl,rfl,_,rfl,bg ⟨_,rfl,.inl ⟨rfl,_,SqL.of C⟩,_,rfl,u,_,0,_,rfl,rfl,SqT.of hy,rfl,_,rfl,_,rfl,aj 2#0,fun t ht=>⟨T,_,_,rfl,rfl,Same.new ht _ _ C,by rw[Ab];exact zP ω,?_⟩⟩⟩⟩;rw[j];exact fin (by unfold q4;rw[hd];rfl) t ht
   |some e=>
    have e3:tri r=[.int r.hi,.int r.b,.int e]:=by unfold tri;rw[hd]
    rw[e3] at hy;have fq:e<os.length:=(jB.gone e hd).1;obtain⟨b2,kL,g2⟩:=vc hg.1 J bA X (i:=e) fq;refine⟨_,rfl,u,_,2,.int e,rfl,rfl,SqT.of hy,rfl,rfl,_,rfl,a6 ⟨_,rfl,_,rfl,_,rfl,u,_,2,_,rfl,rfl,SqT.of hy,rfl,O,_,_,_,rfl,rfl,SqL.of U,kL,d,_,rfl,g2,_,rfl,_,rfl,rfl,_,rfl,?_⟩⟩
    by_cases ew:wt cs os r.b=wt cs os e
    ·rw[show(!decide (V.int (wt cs os r.b)=V.int (wt cs os e)))=false by rw[ew,TK rfl];rfl]
     rw[show cZ cs os r=false by unfold cZ;rw[hd];simp[ew],TJ Ax,Ro] at j;refine a6 ⟨_,_,_,ts,rfl,I,oh,bJ,U,X,C,?_⟩;rw[j];exact G
    ·rw[show(!decide (V.int (wt cs os r.b)=V.int (wt cs os e)))=true by rw[TL (fun z=>ew (by injection z))];rfl]
     rw[show cZ cs os r=true by unfold cZ;rw[hd];simp[ew],TH rfl] at j;refine bg ⟨_,rfl,.inl ⟨rfl,_,SqL.of C⟩,_,rfl,u,_,0,_,rfl,rfl,SqT.of hy,rfl,_,rfl,_,rfl,aj 2#0,fun t ht=>⟨T,_,_,rfl,rfl,Same.new ht _ _ C,by rw[Ab];exact zP ω,?_⟩⟩;rw[j];exact fin (by unfold q4;rw[hd];rfl) t ht
  ·rintro σ c ⟨M,N,S,ts,rfl,I,oh,bJ,U,X,C,G⟩
   rw[Ab,lu,Tr] at G;have tl:(ksQ cs os xs).length<=56:=by
    unfold ksQ;rw[Ab];have:=QD (cZ cs os) xs;lia
   refine⟨_,rfl,T,ts,ksQ cs os xs,rfl,SqL.of C,G,ω,fun D H5 L v bR aY pm so=>?_⟩;have hpm:(L.map 2#3).Perm (ksQ cs os xs):=by
    have:=pm.map 2#3
    rwa [Rw (by rw[AN G];exact Ag _)] at this
   refine k D H5 (L.map 0#17) (L.map 2#3) (I.trans (.same v)) (I.dom bR) (by rw[An];exact aY) ?_ ⟨os,xs,J,pp,hpm,by rw[AQ];exact so⟩;have ld:=vb G v;have:∀l:List 3#7,(∀q∈l,q∈L)->Paired (di H5) (l.map 0#17) (l.map 2#3):=by
    intro l
    induction l with
    |nil=>intro _;exact .nil
    |cons q l ih=>
     intro h;refine .cons ?_ (ih fun x hx=>h x (Ar _ hx));obtain⟨i,e⟩:=Ql.mp (pm.mem_iff.mp (h q Av));obtain⟨e1,e2⟩:=Qt.mp e;exact iU ld i _ _ e2 e1
   exact this L fun q hq=>hq
end
noncomputable def hT(ps:List Int):Int:=reduceHash (Builtin.Tuple.tupleHashOf (ps.map hashInt))
noncomputable def ve(m:Nat):List Int->Nat->Bool
 |[],_=>true
 |h::t,acc=>(Nat.beq (Nat.land 1 (Nat.shiftRight acc (h%(m:Int)).toNat)) 0)&&ve m t (Nat.lor acc (Nat.shiftLeft 1 (h%(m:Int)).toNat))
def Py(a b:Nat):Nat.beq (Nat.land 1 (Nat.shiftRight a b)) 0=!a.testBit b:=by
 unfold Nat.testBit;show Nat.beq (1 &&& (a >>> b)) 0=!(1 &&& (a >>> b) != 0);cases h:(1 &&& (a >>> b)) with
 |zero=>rfl
 |succ n=>rfl
def HU(m:Nat):∀(l:List Int)(acc:Nat),ve m l acc=true->(∀h∈l,acc.testBit (h%(m:Int)).toNat=false)/\l.Nodup
 |[],_,_=>⟨(fun h x=>nomatch x),BC⟩
 |h::t,acc,e=>by
  unfold ve at e;rw[AS,Py] at e;obtain⟨e1,e2⟩:=e;obtain⟨i1,i2⟩:=HU m t _ e2;have a:acc.testBit (h%(m:Int)).toNat=false:=by simpa using e1
  have key:∀x∈t,acc.testBit (x%(m:Int)).toNat=false/\(x%(m:Int)).toNat≠(h%(m:Int)).toNat:=fun x hx=>by
   have:=i1 x hx;rw[show Nat.lor acc (Nat.shiftLeft 1 (h%(m:Int)).toNat)=acc||| (1 <<< (h%(m:Int)).toNat) from rfl,Nat.testBit_or,Bool.or_eq_false_iff,Nat.one_shiftLeft,Nat.testBit_two_pow] at this;exact⟨this.1,fun z=>by have:=this.2;simp[z] at this⟩
  refine⟨fun x hx=>?_,Qo.mpr ⟨fun hx=>(key h hx).2 rfl,i2⟩⟩;rcases Qj.mp hx with rfl|hx
  ·exact a
  ·exact(key x hx).1
noncomputable def up:Nat->Int->Ξ
 |0,_=>[[]]
 |m+1,k=>up m (k+1)++(up m (k+1)).map (k::·)
def vi:∀(m:Nat)(k:Int)(e:List Int),e.Pairwise (·<·)->(∀x∈e,k<=x/\x<k+m)->e∈up m k
 |0,k,e,_,h=>by
  cases e with
  |nil=>exact Qk.mpr rfl
  |cons x r=>have:=h x Av;lia
 |m+1,k,e,hp,h=>by
  unfold up;rw[Qm];cases e with
  |nil=>exact .inl (vi m (k+1) [] .nil (fun x hx=>nomatch hx))
  |cons x r=>
   obtain⟨h1,h2⟩:=RD.mp hp
   by_cases hx:x=k
   ·subst hx
    exact .inr (Qi.mpr ⟨r,vi m (x+1) r h2 (fun y hy=>by have:=h1 y hy;have:=h y (Ar _ hy);lia),rfl⟩)
   ·refine .inl (vi m (k+1) _ hp fun y hy=>?_)
    have a:=h x Av;rcases Qj.mp hy with rfl|hy'
    ·lia
    ·have:=h1 y hy';have:=h y (Ar _ hy');lia
noncomputable def jS:Ξ:=(up 8 0).filter fun e=>Nat.ble e.length 5
noncomputable def pM:Ξ:=[[99]]
noncomputable def ie(f g:Int):Ξ:=jS.map (c5 f g)++pM
noncomputable def DN:List Nat:=[3508,2875,2637,3018,2995,2629,2724,3329,2756,3060,2494,2864,2446,3181,3868,3309,3064,3474,3723,2552,3628,3436,3303,3187,3606,2805,3263,2928,2667,3442,3709,2994,3281,2210,3423,3180]
noncomputable def HV(i:Nat):Bool:=ve (DN.getD i 1) ((ie ((i / 3:Nat):Int) ((i%3+1:Nat):Int)).map hT) 0
def Pz:∀i,i<36->HV i=true:=δ
def HW{b c:Type}{f:b->c}:∀{l:List b},(l.map f).Nodup->∀x∈l,∀y∈l,f x=f y->x=y
 |[],_,_,hx,_,_,_=>absurd hx 2#0
 |a::l,h,x,hx,y,hy,e=>by
  rw[Aw,Qo] at h;rcases Qj.mp hx with q|hx'
  ·rcases Qj.mp hy with r|hy'
   ·rw[q,r]
   ·exact absurd (Qi.mpr ⟨y,hy',by rw[<-e,q]⟩) h.1
  ·rcases Qj.mp hy with r|hy'
   ·exact absurd (Qi.mpr ⟨x,hx',by rw[e,r]⟩) h.1
   ·exact HW h.2 x hx' y hy' e
def HX(ps:List Int):Au (intKind P w) ps=hT ps:=rfl
def Nm(f g:Int):Prop:=0<=f/\f<12/\1<=g/\g<=3
def PB(h:Nm f g){x y:List Int}(hx:x∈ie f g)(hy:y∈ie f g)(e:hT x=hT y):x=y:=by
 obtain⟨a,f1,b,g1⟩:=h;obtain⟨i,rfl⟩:=RO a;obtain⟨j,c⟩:=RO (show 0<=g-1 from ω);obtain rfl:g=((j+1:Nat):Int):=ω
 have h:=Pz (3*i+j) ω;unfold HV at h;rw[show(3*i+j) / 3=i from ω,show(3*i+j)%3+1=j+1 from ω] at h;exact HW (HU _ _ _ h).2 x hx y hy e
def Rz(e:List Int):Prop:=e.Pairwise (·<·)/\(∀x∈e,0<=x/\x<=7)/\e.length<=5
def Rz.sub{e d:List Int}(h:Rz e)(s:d.Sublist e):Rz d:=⟨h.1.sublist s,fun x hx=>h.2.1 x (s.subset hx),AG s.length_le h.2.2⟩
def InK(f g:Int)(ps:List Int):Prop:=(∃e,Rz e/\ps=c5 f g e)\/ps∈pM
def PD(h:Rz e):e∈jS:=Qv.mpr ⟨vi 8 0 e h.1 (fun x hx=>by have:=h.2.1 x hx;lia),by rw[Nat.ble_eq];exact h.2.2⟩
def HY(h:InK f g ps):ps∈ie f g:=by
 unfold ie;rw[Qm];rcases h with ⟨e,he,rfl⟩|h
 ·exact .inl (Qi.mpr ⟨e,PD he,rfl⟩)
 ·exact .inr h
def PF(h:Nm f g){ab:Ξ}(d:ab.Nodup)(hk:∀p∈ab,InK f g p):(ab.map (Au (intKind P w))).Nodup:=by
 unfold List.Nodup at d ⊢;rw[AQ];refine d.imp_of_mem fun{a b} ha hb c e=>c ?_;rw[HX,HX] at e;exact PB h (HY (hk a ha)) (HY (hk b hb)) e
def PH(h:Drawn q):∃f g,Nm f g/\∀e∈canon q,∃a,Rz a/\e=c5 f g a:=by
 obtain⟨b,first,d,hb,i,h1,j,l,hp⟩:=h;obtain⟨_,_,o,_⟩:=FW hb;refine⟨first,d,⟨i,h1,j,l⟩,fun e he=>?_⟩;obtain⟨A,p,hx⟩:=Qu.mp (pd.mp he);obtain⟨r,hr,rfl⟩:=Qi.mp (hp.mem_iff.mp p);obtain⟨_,c⟩:=jA.mp hx;unfold c5 at c;obtain⟨y,hy,rfl⟩:=List.sublist_map_iff.mp c;obtain⟨_,u,v,w⟩:=o r hr;exact⟨y,⟨((pe r).mp v).sublist hy,fun x hx=>w x (hy.subset hx),AG hy.length_le u⟩,rfl⟩
end K67
end
section
namespace L2
open PySem PySem.Spec PyProof.Rows
end L2
namespace K67
open K1
open PySem L2 STb
noncomputable abbrev je:Stmt:=top 54
def PJ{cs:Wd}{p:List Int}{n:Int}(h:p∉cs.map 2#3):putK (bH cs) (p.map Sum.inl) 57#n=bH (cs++[(p,n)]):=by
 rw[Ev]
 ·unfold bH;rw[Ap];rfl
 ·rw[k7]
  unfold wv;rw[Ry.mpr fun c hc=>by
   simp only[decide_eq_true_eq];exact fun e=>h (Qi.mpr ⟨c,hc,e⟩)]
  rfl
def DO{cs ds:Wd}{m:Int}(h:wv cs r=some m):wv (cs++ds) r=some m:=by
 unfold wv at h ⊢;rw[List.find?_append];cases e:cs.find? fun c=>decide (c.1=r) with
 |none=>rw[e] at h;cases h
 |some c=>rw[e] at h;exact h
def PK{cs:Wd}{q:List Int}{n:Int}(h:q∉cs.map 2#3):wv (cs++[(q,n)]) q=some n:=by
 unfold wv;rw[List.find?_append,Ry.mpr fun c hc=>by
  simp only[decide_eq_true_eq];exact fun e=>h (Qi.mpr ⟨c,hc,e⟩)]
 simp
def PL{cs:Wd}{c:Ξ}{n:Int}(hk:cs.map 2#3=c.take i)(eq:c[i]?=some q)(d:q∉cs.map 2#3)(f:∀(j:Nat) p,c[j]?=some p->∀r∈rims p,r∈c.take j)(l:∀r∈rims q,(68#r).getD 0<=n)(e:∀p∈c.take i,cE cs p):∀p∈c.take (i+1),cE (cs++[(q,n)]) p:=by
 intro p hp r hr;rw[AR eq] at hp;rcases Qm.mp hp with h|h
 ·obtain⟨j,o,g⟩:=Rf.mp h
  have e1:c[j]?=some p:=by rw[<-g];exact Ae _
  have h1:=f j p e1 r hr;have h2:r∈c.take i:=(List.take_subset_take_left c ω) h1;obtain⟨a,ha⟩:=jD (cs:=cs) (by rw[hk];exact h2);obtain⟨b,hb⟩:=jD (cs:=cs) (by rw[hk];exact h);have:=e p h r hr;rw[ha,hb] at this;rw[DO ha,DO hb];exact this
 ·obtain rfl:=Qk.mp h
  obtain⟨a,ha⟩:=jD (cs:=cs) (by rw[hk];exact f i p eq r hr);have:=l r hr;rw[ha] at this;rw[DO ha,PK d];exact this
abbrev lw:TE:=gt 71#1 71#0
section
variable{P:Program}{w:World}{K:Af}{mg:Str->Option Value}{base:Heap}
def HZ{as:List Addr}{Q:VK}(u:SqL K H2 L 2#2)(ht:Tps H2 as c)(hz:c.length<=64)(hd:Rd H2 d 51#(bH cs))(hr:∀r∈c,∃m,wv cs r=some m)(i:H2 D=none)(k:∀(a:Hp),Same H2 a->a D=some 8#((c.map fun r=>(wv cs r).getD 0).map V.int)->Q 5#D a):cK (dQ K L) (zX 0) bM lw [none,some 5#d] H2 D Q:=by
 have w:=ht.length;refine zJ (xs:=as.map V.ref) (fun j σ ys a=>∃(v:Option V),σ=[v,some 5#d]/\Same H2 a/\a D=some 8#ys/\ys=((c.map fun r=>(wv cs r).getD 0).take j).map V.int) ?_ ?_ ?_ ?_
 ·exact⟨none,rfl,Same.new i,ac,rfl⟩
 ·rintro j σ ys a ⟨v,rfl,sm,f,rfl⟩
  exact sm.seq u
 ·rintro j σ ys a x hx l hy ⟨v,rfl,sm,f,rfl⟩
  obtain⟨o,p,rfl⟩:=zM hx;obtain⟨r,h,q⟩:=ht.get p;obtain⟨m,hm⟩:=hr r (Ak h);have g:(2#2).length<=sizeLine:=by rw[Ab];exact aj ω
  have e:(c.map fun r=>(wv cs r).getD 0)[j]?=some m:=by rw[Ah,h];show some ((68#r).getD 0)=_;rw[hm];rfl
  have g1:DGet a d 5#o 55#(.int m):=by
   have:=mN (k:=r.map Sum.inl) (b:=o) (hd.same sm) (by rw[An];exact sm.tp q)
   rwa [k7,hm] at this
  refine ca ⟨_,rfl,_,rfl,d,_,rfl,g1,?_⟩;exact bK g l hy f ⟨_,rfl,sm.then i,ac,by rw[AR e,Ap];rfl⟩
 ·rintro σ ys a ⟨v,rfl,sm,f,rfl⟩
  rw[AA (by rw[Ab,Ab];lia)] at f;exact k a sm f
def H_(a:Ξ):Prop:=∀(i:Nat) p,a[i]?=some p->∀r∈rims p,r∈a.take i
def Ia(K:Af):Sp:=fun vs H Q _=>∃p l as a,vs=[.ref p,.ref l]/\zO H p/\H l=some 8#(as.map V.ref)/\Tps H as a/\a.Nodup/\a.length<=56/\(∀p∈a,p.length<=5)/\H_ a/\
 ∀D H' cs,zG p H H'->zO H' p->H D=none->H' D=some 51#(bH cs)->cs.map 2#3=a->(∀q∈a,cE cs q)->Q 5#D H'
noncomputable abbrev pO:List Str:=["box","known","wide","found","piece","rims"]
def pP:zj pO ["box","known"] 76#je:=⟨rfl,rfl,rfl,δ,rfl,δ,δ⟩
def PM(F:Fun K "_law_worths" "_law_worths" je f fd)(B:Bt mg)(oj:mg "max"=none)(Ct:Cl P w K mg base aK "_law_take" ["box","most"] 1 oX)(Cr:Cl P w K mg base aK "_law_rims" ["piece"] 1 mJ):az P w K mg base aK 2 f fd ["box","known"] (Ia K):=by
 refine F.ok pP 0#2 3#0
 ·obtain⟨p,l,as,u,rfl,_⟩:=h;rfl
 ·obtain⟨p,l,as,u,rfl,hb,hl,ht,nk,f_,h5,rp,k⟩:=h
  have hu:=dN hr;refine⟨_,zc (zk (i:=2) pP.nd rfl 2#1 (zx zD (zW (za ze (za ze 56#(zv qo ze ze)))) (zL Ct hr rfl av (za 7#0 56#ze)) 3#1))
   (zc (zk (i:=3) pP.nd rfl (Or.inr rfl) km)
   (zc (zY AZ rfl (zu 7#1) (zh (i:=4) pP.nd rfl 2#1)
    (zc (uq (i:=5) pP.nd rfl 2#1 pO ["rim","found"] [none,some 3] (zu (zL Cr hr rfl av (za 7#4 zb))) (fun _ _ _ _ _=>zh (i:=0) (cN ["rim","found"]) rfl 2#1) (fun _ _ _ _ _=>zE)
     (fun _ _ _ _ _=>zF hu 7#1 7#0 3#1) (hfr:=bX 76#je δ) (te:=lw))
    (zf (cI (zq (Na hr.units) 7#5 (zW zb) (ay _))
     (zf (gS hu 7#3 7#4 (zv nD (zL Ct hr rfl av (za 7#0 (za 7#2 zb))) (zv CF 7#2 ze)) rfl))
     (zf (gS hu 7#3 7#4 (zv eP (zm (MV rfl) rfl oj Hn (za 7#5 zb)) (zL Ct hr rfl av (za 7#0 56#ze))) rfl))))))
   (zf (zl 7#3)))),?_⟩
  refine⟨_,_,rfl,rfl,⟨ξ,ξ,ξ⟩,aj 2#0,fun L Y=>?_⟩;have sL:=Same.new (o:=.lst [.int 3,.int 9,.int (10 ^ (20:Int).toNat)]) Y;have hb1:zO (L2.upd H L (.lst [.int 3,.int 9,.int (10 ^ (20:Int).toNat)])) p:=hb.same sL;refine⟨_,rfl,p,3,rfl,hb1,ξ,ξ,fun r H1 r0 r3 sb bd=>?_⟩;have iZ:L≠p:=fun z=>by rw[z] at Y;obtain⟨x,y,e,_⟩:=hb;rw[Y] at e;cases e
  have eY:=sb L _ iZ ac;have hW:∃W:Int,eR [V.int 3,.int 9,.int (10 ^ (20:Int).toNat)] r=some 57#W/\0<W/\W<1180591620717411303424:=by
   have:r=0\/r=1\/r=2:=ω
   rcases this with rfl|rfl|rfl
   ·exact⟨3,ξ,ξ,ξ⟩
   ·exact⟨9,ξ,ξ,ξ⟩
   ·exact⟨10 ^ (20:Int).toNat,ξ,ξ,ξ⟩
  obtain⟨W,eW,W0,W1⟩:=hW;refine⟨L,_,r,_,rfl,rfl,SqL.of eY,eW,fun D hD=>?_⟩;have dc:zG p H H1:=(zG.of sL).trans sb;have G:H D=none:=dc.free hb bd hD;have lA:l≠p:=hb.ne hl;have O:∀{H2},zG p H H2->SqL K H2 l 2#2:=fun s=>SqL.of (s _ _ lA hl);have c:D≠p:=fun z=>by rw[z] at G;obtain⟨x,y,e,_⟩:=hb;rw[G] at e;cases e
  refine⟨_,rfl,l,rfl,⟨_,O (dc.then G)⟩,gC (K:=K) (a:=l) (xs:=as.map V.ref) (fun i σ H2=>∃(v w:Option V)(cs:Wd),σ=[some 5#p,some 5#l,some 57#W,some 5#D,v,w]/\zG p H H2/\zO H2 p/\H2 D=some 51#(bH cs)/\cs.map 2#3=u.take i/\∀q∈u.take i,cE cs q)
   ⟨none,none,[],rfl,dc.then G,bd.upd c,ac,by rw[R3];rfl,(fun q hq=>by rw[R3] at hq;cases hq)⟩ (fun i σ H2 _ ⟨_,_,_,_,sm,_⟩=>O sm) ?_ ?_⟩
  ·rintro i x σ H2 hx ⟨v,w',cs,rfl,sm,U,N,hk,b⟩
   obtain⟨a,ea,rfl⟩:=zM hx;obtain⟨q,eq,hq⟩:=ht.get ea;have hi:i<u.length:=(69#eq).1;have iL:=Ak eq;have jJ:Tp H2 a q:=sm.tp hb hq;have kG:∀r∈rims q,∃m,wv cs r=some m:=fun r hr'=>jD (by rw[hk];exact rp i q eq r hr');have hcl:cs.length=i:=by have:=congrArg List.length hk;rw[Ab,AE] at this;lia
   have d:q∉cs.map 2#3:=fun z=>by
    rw[hk] at z;obtain⟨j,hj,e2⟩:=Rf.mp z;have e3:=(69#eq).2;have:=(Ti nk).mp (e2.trans e3.symm);lia
   have fin:∀{S:Hp}{n:Int}{v5:Option V},zG p H S->zO S p->S D=some 51#(bH cs)->(∀r∈rims q,(68#r).getD 0<=n)->∃q9 T,(V.ref D=V.ref q9)/\DPut S q9 5#a 57#n T/\∃(v w:Option V)(cs:Wd),[some (V.ref p),some 5#l,some 57#W,some 5#D,some 5#a,v5]=[some 5#p,some 5#l,some 57#W,some 5#D,v,w]/\zG p H T/\zO T p/\T D=some 51#(bH cs)/\cs.map 2#3=u.take (i+1)/\∀q∈u.take (i+1),cE cs q:=fun{S n v5} g b5 d5 hn=>by
    refine⟨D,_,rfl,DPut.t (k:=q.map Sum.inl) d5 (by rw[An];exact g.tp hb hq) (by unfold bH;rw[Ab];exact fV ω),_,_,cs++[(q,n)],rfl,g.then G,b5.upd c,?_,?_,PL hk eq d rp hn b⟩
    ·rw[ac,PJ d]
    ·rw[Ap,hk,AR eq];rfl
   refine⟨_,rfl,a,q,rfl,jJ,h5 q iL,fun L2 H3 bs s3 gi rV dR=>⟨L2,rfl,⟨_,SqL.of rV⟩,fun D2 bz=>zy (HZ (SqL.of rV) dR (AG (AG (k6 q) (h5 q iL)) ξ) 74#(s3 _ _ N) kG bz fun T s4 cv=>?_)⟩⟩;have jQ:=s3.trans s4;refine⟨_,rfl,aj 2#0,fun E0 sU=>?_⟩;have g:=Same.new (o:=.lst []) sU;have I:=jQ.trans g;refine⟨D2,E0,(rims q).map fun r=>(wv cs r).getD 0,[],rfl,rfl,SqL.of (g _ _ cv),SqL.of ac,_,rfl,?_⟩
   by_cases X:((rims q).map fun r=>(wv cs r).getD 0)=[]
   ·rw[TK X]
    refine bg ⟨_,rfl,_,rfl,p,W,rfl,U.same I,W0,W1,fun r5 H6 _ _ J fB=>⟨_,rfl,_,_,rfl,rfl,⟨ξ,ξ⟩,_,_,rfl,rfl,_,rfl,_,rfl,?_⟩⟩;exact fin ((63#(zG.of I)).trans J) fB (J _ _ c (I _ _ N)) (fun r hr'=>by rw[List.map_eq_nil_iff.mp X] at hr';cases hr')
   ·rw[TL X]
    refine a6 ⟨_,rfl,D2,_,rfl,SqL.of (g _ _ cv),X,fun M _ hM=>⟨_,rfl,p,3,rfl,U.same I,ξ,ξ,fun r5 H6 pf _ J fB=>⟨_,_,rfl,rfl,_,rfl,_,rfl,?_⟩⟩⟩;exact fin ((63#(zG.of I)).trans J) fB (J _ _ c (I _ _ N)) (fun r hr'=>by have:=hM _ (Qi.mpr ⟨r,hr',rfl⟩);lia)
  ·rintro σ H2 ⟨v,w',cs,rfl,sm,U,N,hk,b⟩
   have aE:=ht.length;rw[AA 4#11] at hk b;exact⟨_,rfl,k D H2 cs sm U G N hk b⟩
end
end K67
end
section
namespace K67
open K1
open PySem L2 STb
noncomputable abbrev lz:Stmt:=top 55
section
variable{P:Program}{w:World}{K:Af}{mg:Str->Option Value}{base:Heap}{f:Addr}{fd:FuncData}{PO PY:Addr}
abbrev pR(K:Af):TE:=cy (zK (bS (eA K) 71#0 (tC 57#0)) (zK (bS (eA K) 71#0 (tC 57#1)) (zK (bS (nU K) (nN (zK (bS (eA K) 71#0 (tC 57#3)) (zK (tC .non) bw))) (bS (eA K) 71#0 (tC 57#2))) bw)))
def PN{ts:List Addr}{Q:VK}(E:SqL K H2 L (ts.map V.ref))(ht:Tps H2 ts ls)(p:∀l∈ls,m6 l)(hz:ls.length<=64)(w:H2 D=none)(k:∀(a:Hp)(us:List Addr),Same H2 a->a D=some 8#(us.map V.ref)->Paired (di a) us ls->Q 5#D a):cK (dQ K L) (zX 0) bM (pR K) [none] H2 D Q:=by
 have F:=ht.length;refine zJ (xs:=ts.map V.ref) (fun j σ ys a=>∃(v:Option V)(us:List Addr),σ=[v]/\Same H2 a/\a D=some 8#ys/\ys=us.map V.ref/\Paired (di a) us (ls.take j)) ?_ ?_ ?_ ?_
 ·exact⟨none,[],rfl,Same.new w,ac,rfl,.nil⟩
 ·rintro j σ ys a ⟨v,us,rfl,sm,e,rfl,hp⟩
  exact sm.seq E
 ·rintro j σ ys a x hx y hy ⟨v,us,rfl,sm,e,rfl,hp⟩
  obtain⟨o,A,rfl⟩:=zM hx;obtain⟨l,q,C⟩:=ht.get A;obtain⟨n,n2,c,b,rfl,hb⟩:=p l (Ak q);have h:(ts.map V.ref).length<=sizeLine:=by rw[Ab];exact aj ω
  have d:a o=some (.tup [.int n,.int n2,.int (Q7 b),.int c]):=sm.tp C;refine ca ⟨_,rfl,o,_,0,_,rfl,rfl,SqT.of d,rfl,_,rfl,o,_,1,_,rfl,rfl,SqT.of d,rfl,_,rfl,o,_,3,_,rfl,rfl,SqT.of d,rfl,aj 2#0,fun m hm=>?_⟩;have r:=Same.new (o:=.lst [.int c,.non]) hm;refine⟨_,rfl,o,_,2,.int (Q7 b),rfl,rfl,SqT.of (r _ _ d),rfl,m,_,Q7 b,if b=true then .non else .int c,rfl,rfl,SqL.of ac,(by cases b<;>rfl),aj 2#0,fun t g=>?_⟩;have f:=r.trans (Same.new (o:=.tup [.int n,.int n2,if b=true then .non else .int c]) g);have i:=f _ _ e;have u:upd (upd a m (.lst [.int c,.non])) t (.tup [.int n,.int n2,if b=true then .non else .int c]) t=some 52#(vQ [n,n2,Q7 b,c]):=by rw[ac];cases b<;>rfl
  generalize upd (upd a m (.lst [.int c,.non])) t (.tup [.int n,.int n2,if b=true then .non else .int c])=H5 at f i u;refine bK h y hy i ⟨_,us++[t],rfl,(63#f).then w,ac,by rw[Ap];rfl,?_⟩;rw[AR q];exact DM (Paired.snoc (vb hp f) ⟨⟨n,n2,c,b,rfl,hb⟩,u⟩) i
 ·rintro σ ys a ⟨v,us,rfl,sm,e,rfl,hp⟩
  rw[AA 4#11] at hp;exact k a us sm e hp
noncomputable abbrev pT:List Str:=["order","worths","told","found","high","born","dead","low"]
def ni:zj pT ["order","worths","told"] 76#lz:=⟨rfl,rfl,rfl,δ,rfl,δ,δ⟩
def Ib(K:Af):Sp:=fun vs H Q _=>∃O d t bs os us xs cs a p,vs=[.ref O,.ref d,.ref t]/\H O=some 8#(bs.map V.ref)/\Tps H bs os/\Rd H d 51#(bH cs)/\H t=some 8#(us.map V.ref)/\Paired (fun u x=>H u=some 52#x) us (xs.map tri)/\
 (cs.map 2#3).Perm a/\dh cs a os/\dG p os os.length xs/\os.length<=56/\∀D H' vs L,Same H H'->H D=none->H' D=some 8#(vs.map V.ref)->Paired (di H') vs L->fe cs a p L->Q 5#D H'
def PP{a:List 3#7}{l:Ξ}(hp:∀q∈a,q∈l.zip as)(ht:Tps H as l):Tps H (a.map 0#17) (a.map 2#3):=by
 induction a with
 |nil=>exact .nil
 |cons q a ih=>
  refine .cons ?_ (ih fun x hx=>hp x (Ar _ hx));obtain⟨i,e⟩:=Ql.mp (hp q Av);obtain⟨e1,e2⟩:=Qt.mp e;exact iU ht i _ _ e2 e1
def PQ(F:Fun K "_law_due" "_law_due" lz f fd)(B:Bt mg):az P w K mg base aK 1 f fd ["order","worths","told"] (Ib K):=by
 refine F.ok ni 0#2 3#0
 ·obtain⟨O,d,t,bs,os,us,xs,cs,kn,p,rfl,_⟩:=h;rfl
 ·obtain⟨O,d,t,bs,os,us,xs,cs,kn,p,rfl,hO,ho,hd,ht,dR,hk,ow,pp,ol,k⟩:=h
  have hu:=dN hr;have bB:=hr.units;refine⟨_,zc (zk (i:=3) ni.nd rfl 2#1 (zW zb))
   (zc (zY AZ rfl (zu 7#2) (lR rfl (zT (zh (i:=4) ni.nd rfl 2#1) (zT (zh (i:=5) ni.nd rfl 2#1) (zT (zh (i:=6) ni.nd rfl 2#1) lQ))))
    (zc (zk (i:=7) ni.nd rfl 2#1 (zF hu 7#1 (zx zD 7#0 7#5 3#1) 3#1))
    (zf (cI (zq ka 7#6 fC (ay _)) (zf (gm (fM A9 QB QC jk 7#3 56#(zQ (za 7#4 (za 7#7 (za ze (za ze zb))))))))
     (zf (cI (zq qp (zF hu 7#1 (zx zD 7#0 7#6 3#1) 3#1) 7#7 (ay _)) (zf (gm (fM A9 QB QC jk 7#3 56#(zQ (za 7#4 (za 7#7 (za ze (za (zF hu 7#1 (zx zD 7#0 7#6 3#1) 3#1) zb)))))))) zA))))))
   (zf (zl (zw pT ["one"] [none] (zu (zm (Pk bB) rfl B.sorted ju (za 7#3 zb))) (fun _ _ _ _ _=>zh (i:=0) (cN ["one"]) rfl 2#1) (fun _ _ _ _ _=>zE)
    (fun _ _ _ _ _=>zQ (za 59#zC (za 59#zC 56#(zx zD (zW (za 59#zC (za fC zb))) 59#zC 3#1)))) (hfr:=dA δ) (te:=pR K))))),?_⟩
  refine⟨aj 2#0,fun T hT=>?_⟩;have s2:=Same.new (o:=.lst []) hT;have lu:us.length=xs.length:=by rw[AN dR,Ab]
  have lx:xs.length<=56:=by
   have nd:(xs.map (·.b)).Nodup:=pp.srt.imp fun h=>ω
   have:=nd.length_le_of_subset (l₂:=AO os.length) fun b hb=>by
    obtain⟨x,hx,rfl⟩:=Qi.mp hb;exact Qn.mpr (gz pp hx).born
   rw[Ab,BE] at this;lia
  refine⟨_,rfl,t,rfl,⟨_,SqL.of (s2 _ _ ht)⟩,gC (K:=K) (a:=t) (xs:=us.map V.ref) (fun i σ c=>∃(U W X Y:Option V)(ts:List Addr),σ=[some 5#O,some 5#d,some 5#t,some 5#T,U,W,X,Y]/\Same H c/\c T=some 8#(ts.map V.ref)/\Tps c ts (ksQ cs os (xs.take i)))
   ⟨none,none,none,none,[],rfl,s2,ac,.nil⟩ (fun i σ c _ ⟨_,_,_,_,_,_,s,_⟩=>SqL.of (s _ _ ht)) ?_ ?_⟩
  ·rintro i x σ c hx ⟨U,W,X,Y,ts,rfl,j,v,G⟩
   obtain⟨u,eu,rfl⟩:=zM hx;obtain⟨y,ey,tO⟩:=hF dR eu;rw[Ah] at ey;obtain⟨r,er,rfl⟩:=Qr.mp ey;have hy:=j _ _ tO;have jB:=gz pp (Ak er);have bA:=hd.same j;have fF:=j _ _ hO;have gB:=j.tps ho;obtain⟨b1,kW,g1⟩:=vc hk ow bA gB (i:=r.b) jB.born;have tl:ts.length<=56:=by
    rw[G.length];unfold ksQ;rw[Ab];have:=QD (cZ cs os) (xs.take i);rw[AE] at this;lia
   have g:ksQ cs os (xs.take (i+1))=ksQ cs os (xs.take i)++if cZ cs os r=true then [q4 cs os r] else []:=by
    rw[AR er];unfold ksQ;rw[QA,Ap,Q5,Sk];split<;>rfl
   have fin:∀{dv:V}{l:List Int},q4 cs os r=l->∀z,c z=none->∃U W X Y dD,[some (V.ref O),some 5#d,some 5#t,some 5#T,some (.int r.hi),some (.int r.b),some dv,some 57#(wt cs os r.b)]=[some 5#O,some 5#d,some 5#t,some 5#T,U,W,X,Y]/\Same H (upd (upd c z 52#(l.map V.int)) T 8#(ts.map V.ref++[.ref z]))/\
     upd (upd c z 52#(l.map V.int)) T 8#(ts.map V.ref++[.ref z]) T=some 8#(dD.map V.ref)/\Tps (upd (upd c z 52#(l.map V.int)) T 8#(ts.map V.ref++[.ref z])) dD (ksQ cs os (xs.take i)++[q4 cs os r]):=fun{dv l} el z hz=>by
    have I:=Same.new (o:=.tup (l.map V.int)) hz;have ga:=I _ _ v;have e5:upd c z 52#(l.map V.int) z=some 52#(l.map V.int):=ac;generalize upd c z 52#(l.map V.int)=H5 at I ga e5;refine⟨_,_,_,_,ts++[z],rfl,(j.trans I).then hT,by rw[ac,Ap];rfl,?_⟩;exact Tps.upd (Paired.snoc (I.tps G) (by rw[el];exact e5)) ga 3#8
   cases hd':r.d with
   |none=>
    have e3:tri r=[.int r.hi,.int r.b,.non]:=by unfold tri;rw[hd']
    have ek:cZ cs os r=true:=by unfold cZ;rw[hd']
    rw[e3] at hy;rw[ek,TH rfl] at g;refine⟨u,_,rfl,SqT.of hy,rfl,_,_,rfl,_,_,rfl,_,_,rfl,rfl,_,rfl,_,rfl,_,rfl,O,_,_,_,rfl,rfl,SqL.of fF,kW,d,_,rfl,g1,_,rfl,rfl,_,rfl,bg ⟨_,rfl,.inl ⟨rfl,_,SqL.of v⟩,_,rfl,_,rfl,aj 2#0,fun z hz=>⟨T,_,_,rfl,rfl,Same.new hz _ _ v,by rw[Ab];exact zP ω,?_⟩⟩⟩;rw[g];exact fin (l:=[r.hi,wt cs os r.b,1,0]) (by unfold q4;rw[hd']) z hz
   |some e=>
    have e3:tri r=[.int r.hi,.int r.b,.int e]:=by unfold tri;rw[hd']
    rw[e3] at hy;have fq:e<os.length:=(jB.gone e hd').1;obtain⟨b2,kL,g2⟩:=vc hk ow bA gB (i:=e) fq;refine⟨u,_,rfl,SqT.of hy,rfl,_,_,rfl,_,_,rfl,_,_,rfl,rfl,_,rfl,_,rfl,_,rfl,O,_,_,_,rfl,rfl,SqL.of fF,kW,d,_,rfl,g1,_,rfl,rfl,_,rfl,a6 ⟨_,rfl,_,rfl,_,rfl,O,_,_,_,rfl,rfl,SqL.of fF,kL,d,_,rfl,g2,_,rfl,rfl,_,rfl,?_⟩⟩
    by_cases ew:wt cs os r.b=wt cs os e
    ·rw[show(!decide (V.int (wt cs os e)=V.int (wt cs os r.b)))=false by rw[ew,TK rfl];rfl]
     rw[show cZ cs os r=false by unfold cZ;rw[hd'];simp[ew],TJ Ax,Ro] at g;refine a6 ⟨_,_,_,_,ts,rfl,j,v,?_⟩;rw[g];exact G
    ·rw[show(!decide (V.int (wt cs os e)=V.int (wt cs os r.b)))=true by rw[TL (fun z=>ew (by injection z with z;exact z.symm))];rfl]
     rw[show cZ cs os r=true by unfold cZ;rw[hd'];simp[ew],TH rfl] at g;refine bg ⟨_,rfl,.inl ⟨rfl,_,SqL.of v⟩,_,rfl,_,rfl,_,rfl,_,rfl,_,rfl,O,_,_,_,rfl,rfl,SqL.of fF,kL,d,_,rfl,g2,aj 2#0,fun z hz=>⟨T,_,_,rfl,rfl,Same.new hz _ _ v,by rw[Ab];exact zP ω,?_⟩⟩;rw[g];exact fin (l:=[r.hi,wt cs os r.b,0,wt cs os e]) (by unfold q4;rw[hd']) z hz
  ·rintro σ c ⟨U,W,X,Y,ts,rfl,j,v,G⟩
   rw[Ab,lu,Tr] at G;have tl:(ksQ cs os xs).length<=56:=by
    unfold ksQ;rw[Ab];have:=QD (cZ cs os) xs;lia
   have L:∀l∈ksQ cs os xs,m6 l:=fun l N=>by
    obtain⟨r,_,rfl⟩:=Qi.mp N;exact HM _ _ _
   have hpd:Paired (lq c) ts (ksQ cs os xs):=by
    have h0:∀l∈ksQ cs os xs,l≠[]:=fun l N z=>by obtain⟨n,n2,n3,b,e,_⟩:=L l N;rw[z] at e;cases e
    generalize ksQ cs os xs=kk at G h0;clear tl L v
    induction G with
    |nil=>exact .nil
    |cons e t ih=>exact .cons ⟨e,h0 _ Av⟩ (ih fun k hk=>h0 k (Ar _ hk))
   refine⟨_,rfl,T,ts,ksQ cs os xs,rfl,SqL.of v,hpd,ω,fun S J pm so hS=>?_⟩;have I:=Same.new (o:=.lst (J.map fun q=>V.ref q.2)) hS;have M:(J.map 2#3).Perm (ksQ cs os xs):=by
    have:=pm.map 2#3
    rwa [Rw (by rw[G.length];exact Ag _)] at this
   have t5:Tps (upd c S 8#(J.map fun q=>V.ref q.2)) (J.map 0#17) (J.map 2#3):=PP (fun q hq=>pm.mem_iff.mp hq) (I.tps G);have rK:upd c S 8#(J.map fun q=>V.ref q.2) S=some 8#((J.map 0#17).map V.ref):=by rw[ac,An];rfl
   refine⟨S,rfl,⟨_,SqL.of rK⟩,fun D hD=>zy (PN (SqL.of rK) t5 (fun l N=>L l (M.mem_iff.mp N)) (by rw[M.length_eq];lia) hD fun H6 uS s6 iO sF=>?_)⟩;have vz:=j.trans (I.trans s6);exact k D H6 uS _ vz ((j.trans I).free hD) iO sF ⟨os,xs,ow,pp,M,by rw[AQ];exact so⟩
end
end K67
end
section
namespace K67
open K1
open PySem L2 STb
noncomputable def cj(cs:Wd)(a:Ξ):List Int:=a.map fun p=>(wv cs p).getD 0
def Ris(f:Int->Int)(c:List Int):Prop:=∀a∈c,∀b∈c,a<b->f a<f b
def Ris.lt(h:Ris f c){a b:Int}(ha:a∈c)(hb:b∈c):f a<f b↔a<b:=by
 refine⟨fun z=>?_,h a ha b hb⟩;rcases Int.lt_trichotomy a b with g|g|g
 ·exact g
 ·rw[g] at z;lia
 ·have:=h b hb a ha g;lia
def Ris.eq(h:Ris f c){a b:Int}(ha:a∈c)(hb:b∈c):f a=f b↔a=b:=by
 refine⟨fun z=>?_,fun z=>by rw[z]⟩;rcases Int.lt_trichotomy a b with g|g|g
 ·have:=h a ha b hb g;lia
 ·exact g
 ·have:=h b hb a ha g;lia
noncomputable def fW(f:Int->Int)(cs:Wd)(a:Ξ):Wd:=a.map fun p=>(p,f ((68#p).getD 0))
def vj(f:Int->Int)(cs:Wd)(a:Ξ):(fW f cs a).map 2#3=a:=by unfold fW;rw[An];exact RK _
def pV{a:Ξ}{p:List Int}(hp:p∈a):(wv (fW f cs a) p).getD 0=f ((68#p).getD 0):=by
 unfold wv fW;rw[List.find?_map];cases e:a.find? ((fun c:List Int×Int=>decide (c.1=p)) ∘ fun p=>(p,f ((68#p).getD 0))) with
 |none=>
  have:=Ry.mp e p hp;simp at this
 |some q=>
  have:=List.find?_some e;have hq:q=p:=by simpa using this
  subst hq
  rfl
def jU{a:Ξ}{p:List Int}(h:p∈a):(68#p).getD 0∈cj cs a:=Qi.mpr ⟨p,h,rfl⟩
def Ie(hf:Ris f (cj cs 2#6))(h:eK 2#6 cs):eK 2#6 (fW f cs 2#6):=by
 refine⟨by rw[vj],fun p hp r hr=>?_⟩;have hr':=u1 hp hr;rw[pV hp,pV hr'];have:=h.2 p hp r hr;rcases Int.lt_or_eq_of_le this with g|g
 ·exact SO (hf _ (jU hr') _ (jU hp) g)
 ·rw[g];exact QG _
def PR{c os:Ξ}(hf:Ris f (cj cs c))(h:dh cs c os):dh (fW f cs c) c os:=by
 refine⟨h.1,h.2.imp_of_mem fun{a b} ha hb g=>?_⟩;have d:=h.1.mem_iff.mp ha;have hb':=h.1.mem_iff.mp hb;unfold wk at g ⊢;rw[pV d,pV hb'];rw[HT.zi] at g ⊢
 by_cases e:(68#b).getD 0=(68#a).getD 0
 ·rw[TH e] at g
  rw[TH (by rw[e])];exact g
 ·rw[TJ e] at g
  rw[TJ (fun z=>e ((hf.eq (jU hb') (jU d)).mp z))];rw[<-g];exact decide_eq_decide.mpr (hf.lt (jU hb') (jU d))
noncomputable def gQ(f:Int->Int)(l:List Int):List Int:=[l.getD 0 0,f (l.getD 1 0),l.getD 2 0,if l.getD 2 0=1 then 0 else f (l.getD 3 0)]
def PU(h:m6 l):m6 (gQ f l):=by
 obtain⟨n,n2,a,b,rfl,hb⟩:=h;cases b with
 |true=>exact⟨n,f n2,0,true,rfl,fun _=>rfl⟩
 |false=>exact⟨n,f n2,f a,false,rfl,fun z=>nomatch z⟩
def pX{a os:Ξ}(h:dh cs a os){i:Nat}(hi:i<os.length):wt (fW f cs a) os i=f (wt cs os i)/\wt cs os i∈cj cs a:=by
 have hm:os.getD i []∈a:=by
  rw[AK,Ae hi];exact h.1.mem_iff.mp (A8 hi)
 exact⟨pV hm,jU hm⟩
def nj(c:List Int)(l:List Int):Prop:=∃n n2 a b,l=[n,n2,Q7 b,a]/\n2∈c/\(b=true->a=0)/\(b=false->a∈c)
def DP{c os:Ξ}{p:Int}{T:Nat}(hf:Ris f (cj cs c))(h:dh cs c os){xs:List a_}(hx:∀x∈xs,x.b<os.length/\∀e,x.d=some e->e<os.length):ksQ (fW f cs c) os xs=(ksQ cs os xs).map (gQ f)/\∀l∈ksQ cs os xs,nj (cj cs c) l:=by
 have a:∀x∈xs,cZ (fW f cs c) os x=cZ cs os x/\q4 (fW f cs c) os x=gQ f (q4 cs os x)/\nj (cj cs c) (q4 cs os x):=fun x hx'=>by
  obtain⟨h1,h2⟩:=hx x hx';obtain⟨g,i⟩:=pX (f:=f) h h1;cases hd:x.d with
  |none=>
   unfold cZ q4;rw[hd];refine⟨rfl,?_,_,_,0,true,rfl,i,fun _=>rfl,fun z=>nomatch z⟩;show [_,_,_,_]=[_,_,_,_];rw[g];rfl
  |some e=>
   obtain⟨j,o⟩:=pX (f:=f) h (h2 e hd);unfold cZ q4;rw[hd];refine⟨?_,?_,_,_,_,false,rfl,i,0#12,fun _=>o⟩
   ·show(!decide _)=(!decide _)
    rw[g,j];exact congrArg _ (decide_eq_decide.mpr (hf.eq i o))
   ·show [_,_,_,_]=[_,_,_,_]
    rw[g,j];rfl
 refine⟨?_,fun l q=>?_⟩
 ·unfold ksQ
  rw[An,List.filter_congr fun x hx=>(a x hx).1];exact AC fun x hx=>(a x (Qv.mp hx).1).2.1
 ·obtain⟨x,hx,rfl⟩:=Qi.mp q
  exact(a x (Qv.mp hx).1).2.2
def PV(hf:Ris f h){l m:List Int}(u:nj h l)(hm:nj h m):HT.lexLt (gQ f l) (gQ f m)=HT.lexLt l m:=by
 obtain⟨n,n2,a,b,rfl,h1,h2,i⟩:=u;obtain⟨p,q,j,r,rfl,c,g,o⟩:=hm;have e:∀(n n2 a:Int)(b:Bool),gQ f [n,n2,Q7 b,a]=[n,f n2,Q7 b,if b=true then 0 else f a]:=fun n n2 a b=>by cases b<;>rfl
 rw[e,e];simp only[HT.zi]
 by_cases e1:n=p
 ·rw[TH e1,TH e1]
  by_cases e2:n2=q
  ·rw[TH e2,TH (by rw[e2])]
   by_cases e3:Q7 b=Q7 r
   ·rw[TH e3,TH e3]
    obtain rfl:=aZ.HJ e3;cases b with
    |true=>rw[h2 rfl,g rfl];rfl
    |false=>
     show(if f a=f j then _ else _)=_
     by_cases d:a=j
     ·rw[TH d,TH (by rw[d])]
     ·rw[TJ d,TJ (fun z=>d ((hf.eq (i rfl) (o rfl)).mp z))]
      exact decide_eq_decide.mpr (hf.lt (i rfl) (o rfl))
   ·rw[TJ e3,TJ e3]
  ·rw[TJ e2,TJ (fun z=>e2 ((hf.eq h1 c).mp z))]
   exact decide_eq_decide.mpr (hf.lt h1 c)
 ·rw[TJ e1,TJ e1]
def Ig(hf:Ris f (cj cs c))(h:fe cs c p L):fe (fW f cs c) c p (L.map (gQ f))/\∀l∈L,nj (cj cs c) l:=by
 obtain⟨os,xs,o,a,i,q⟩:=h;obtain⟨r,u⟩:=DP (f:=f) (p:=0) (T:=0) hf o (xs:=xs) fun x hx=>⟨(gz a hx).born,fun e he=>((gz a hx).gone e he).1⟩;have d:∀l∈L,nj (cj cs c) l:=fun l j=>u l (i.mem_iff.mp j);refine⟨⟨os,xs,PR hf o,a,by rw[r];exact i.map _,?_⟩,d⟩;rw[AQ];refine q.imp_of_mem fun{a b} ha hb g=>?_;rw[PV hf (d b hb) (d a ha)];exact g
def PX(c:List Int):Ris (fun w=>3*w+5) c:=fun a _ b _ h=>by show 3*a+5<3*b+5;lia
noncomputable def dY(a:List Int)(x:Int):Int:=((a.idxOf x:Nat):Int)
def DQ{a:List Int}{x:Int}(h:x∈a):a[a.idxOf x]?=some x/\∀m,m<a.idxOf x->∃y,a[m]?=some y/\y≠x:=by
 have b:a.idxOf x<a.length:=RZ h;refine⟨by rw[Ae b,List.getElem_idxOf b],fun m hm=>?_⟩;have c:m<a.length:=ω
 refine⟨a[m],Ae c,fun e=>?_⟩;have h1:=List.not_of_lt_findIdx (p:=(·==x)) hm;rw[e] at h1;simp at h1
def PZ{c f:List Int}(hp:∀x,x∈f->x∈c)(hs:c.Pairwise (·<=·)):Ris (dY c) f:=fun a ha b hb h=>by
 obtain⟨d,j⟩:=DQ (hp a ha);obtain⟨e,l⟩:=DQ (hp b hb);show((c.idxOf a:Nat):Int)<((c.idxOf b:Nat):Int);rcases Q8 (c.idxOf a) (c.idxOf b) with g|g|g
 ·lia
 ·rw[g,e] at d
  have:=Ai d;lia
 ·obtain⟨i,o⟩:=BK.mp d
  obtain⟨hb',p⟩:=BK.mp e;have:=Qq.mp hs _ _ hb' i g;lia
section
variable{P:Program}{w:World}{K:Af}{mg:Str->Option Value}{base:Heap}{f:Addr}{fd:FuncData}{PO PY:Addr}
def Ih{ts:List Addr}{c:St}{te:TE}{Q:VK}(C:SqL K H2 L (ts.map V.ref))(ht:Paired (di H2) ts ls)(hz:ls.length<=64)(E:∀l∈ls,∀(o:Addr)(a:Hp)(w:VK),di a o l->Same H2 a->(∀t,a t=none->w 5#t (upd a t 52#(vQ (gQ g l))))->te (some 5#o::c) a w)(u:H2 D=none)(k:∀(a:Hp)(us:List Addr),Same H2 a->a D=some 8#(us.map V.ref)->Paired (di a) us (ls.map (gQ g))->Q 5#D a):cK (dQ K L) (zX 0) bM te (none::c) H2 D Q:=by
 have F:=AN ht;refine zJ (xs:=ts.map V.ref) (fun j σ ys a=>∃(v:Option V)(us:List Addr),σ=v::c/\Same H2 a/\a D=some 8#ys/\ys=us.map V.ref/\Paired (di a) us ((ls.map (gQ g)).take j)) ?_ ?_ ?_ ?_
 ·exact⟨none,[],rfl,Same.new u,ac,rfl,.nil⟩
 ·rintro j σ ys a ⟨v,us,rfl,sm,b,rfl,hp⟩
  exact sm.seq C
 ·rintro j σ ys a x hx y hy ⟨v,us,rfl,sm,b,rfl,hp⟩
  obtain⟨o,A,rfl⟩:=zM hx;obtain⟨l,p,q⟩:=hF ht A;have h:(ts.map V.ref).length<=sizeLine:=by rw[Ab];exact aj ω
  have e:(ls.map (gQ g))[j]?=some (gQ g l):=by rw[Ah,p];rfl
  refine ca (E l (Ak p) o a _ (HS q sm) sm fun t f=>?_);have d:=Same.new (o:=.tup (vQ (gQ g l))) f;have i:=d _ _ b;have r:upd a t 52#(vQ (gQ g l)) t=some 52#(vQ (gQ g l)):=ac;generalize upd a t 52#(vQ (gQ g l))=H5 at d i r;refine bK h y hy i ⟨_,us++[t],rfl,(63#d).then u,ac,by rw[Ap];rfl,?_⟩;rw[AR e];exact DM (Paired.snoc (vb hp d) ⟨PU q.1,r⟩) i
 ·rintro σ ys a ⟨v,us,rfl,sm,b,rfl,hp⟩
  rw[AA (by rw[Ab,Ab];lia)] at hp;exact k a us sm b hp
def vl(H:Hp)(t:Addr)(kv:List Key×V):Prop:=∃b,H t=some (.tup [.ref b,kv.2])/\H b=some 52#(kv.1.map kV)
def Ii{H2:Hp}{L D:Addr}{as:List Addr}{f:Ξ}{cs:Wd}{g:Int->Int}{c:St}{te:TE}{Q:VK}(G:SqL K H2 L 2#2)(ht:Tps H2 as f)(hz:f.length<=64)(H:∀q∈f,∀(a:Addr)(d:Hp)(C:VK),Tp d a q->Same H2 d->(∀t,d t=none->C 5#t (upd d t (.tup [.ref a,.int (g ((68#q).getD 0))])))->te (some 5#a::c) d C)(A:H2 D=none)(k:∀(d:Hp)(ts:List Addr),Same H2 d->d D=some 8#(ts.map V.ref)->Paired (vl d) ts (bH (fW g cs f))->Q 5#D d):cK (dQ K L) (zX 0) bM te (none::c) H2 D Q:=by
 have I:=ht.length;refine zJ (xs:=as.map V.ref) (fun j σ ys d=>∃(v:Option V)(ts:List Addr),σ=v::c/\Same H2 d/\d D=some 8#ys/\ys=ts.map V.ref/\Paired (vl d) ts ((bH (fW g cs f)).take j)) ?_ ?_ ?_ ?_
 ·exact⟨none,[],rfl,Same.new A,ac,rfl,by rw[R3];exact .nil⟩
 ·rintro j σ ys d ⟨v,ts,rfl,sm,i,rfl,_⟩
  exact sm.seq G
 ·rintro j σ ys d x hx E hy ⟨v,ts,rfl,sm,i,rfl,hp⟩
  obtain⟨o,F,rfl⟩:=zM hx;obtain⟨q,eq,hq⟩:=ht.get F;have r:(2#2).length<=sizeLine:=by rw[Ab];exact aj ω
  have e:(bH (fW g cs f))[j]?=some ((q.map Sum.inl:List Key),V.int (g ((68#q).getD 0))):=by unfold bH fW;rw[Ah,Ah,eq];rfl
  refine ca (H q (Ak eq) o d _ (sm.tp hq) sm fun t p=>?_);have h:=Same.new (o:=.tup [.ref o,.int (g ((68#q).getD 0))]) p;have u:=h _ _ i;have w:upd d t (.tup [.ref o,.int (g ((68#q).getD 0))]) t=some (.tup [.ref o,.int (g ((68#q).getD 0))]):=ac;generalize upd d t (.tup [.ref o,.int (g ((68#q).getD 0))])=H5 at h u w;have y:∀{b xs},H5 b=some 52#xs->b≠D:=fun{b xs} e z=>by rw[z,u] at e;cases e
  refine bK r E hy u ⟨_,ts++[t],rfl,(63#h).then A,ac,by rw[Ap];rfl,?_⟩;rw[AR e];refine Paired.mapP (Paired.snoc (Paired.mapP hp fun b l ⟨c,e1,e2⟩=>(show vl H5 b l from⟨c,h _ _ e1,h _ _ e2⟩)) (show vl H5 t ((q.map Sum.inl:List Key),V.int (g ((68#q).getD 0))) from⟨o,w,by rw[An];exact h.tp (sm.tp hq)⟩)) fun b l ⟨c,e1,e2⟩=>?_;exact⟨c,by rw[al (y e1)];exact e1,by rw[al (y e2)];exact e2⟩
 ·rintro σ ys d ⟨v,ts,rfl,sm,i,rfl,hp⟩
  rw[AA (by unfold bH fW;rw[Ab,Ab,Ab];lia)] at hp;exact k d ts sm i hp
def Il{κ:Type}[DecidableEq κ]:∀(kvs acc:List (κ×V)),((acc++kvs).map 2#3).Nodup->kvs.foldl (fun acc kv=>putK acc kv.1 kv.2) acc=acc++kvs
 |[],acc,_=>by simp
 |kv::kvs,acc,h=>by
  rw[Q1];have a:bj acc kv.1=none:=by
   unfold bj;rw[Option.map_eq_none_iff,Ry];intro x hx z;rw[decide_eq_true_eq] at z;rw[Ap,BD] at h;exact h.2.2 x.1 84#hx kv.1 2#0 z
  rw[Ev _ a,Il kvs (acc++[(kv.1,kv.2)]) 6#h];simp
def Im{c:Ξ}(d:c.Nodup):pB (bH (fW g cs c))=bH (fW g cs c):=by
 unfold pB;rw[Il _ _ ?_]
 ·simp
 ·rw[List.nil_append,pu,vj]
  exact List.Pairwise.map _ (fun a b(h:a≠b) e=>h (GH e)) d
end
end K67
end
section
namespace L2
open PySem PySem.Spec PyProof.Rows
section
variable{X:Cx}
def P0{A:Around}{s:Shared}(I:Inv X aa σ H s)(hu:A.units+8<cLine)(ha:∃(kvs c:List 4#6)(ab l:Ξ)(ns:List Int),Rd H a 51#kvs/\Rd H b 51#c/\kvs.map 2#3=ab.map 2#16/\c.map 2#3=l.map 2#16/\kvs.map 0#17=ns.map V.int/\kvs.length=c.length/\∀kv∈kvs,kv∈c):SeqAt.EqAt A s 5#a 5#b true:=by
 intro prog w E Q h;obtain⟨kvs,c,ab,l,ns,ha,hb,hp,o,u,U,hm⟩:=ha;obtain⟨x,xs,y,W,C⟩:=GD I.hok ha hp;obtain⟨D,ys,G,bl,J⟩:=GD I.hok hb o;have hx:=y prog w;have hy:=G prog w;unfold eqBool
 try with_reducible refine AH ?_
 show wpAny _ _ (if(Value.ref a==Value.ref b)=true then _ else _) Q E s
 by_cases f:(Value.ref a==Value.ref b)=true
 ·rw[TH f]
  exact Aa (wpAny_rule (Ac h))
 ·rw[TJ f]
  refine Aa (wpAny_richCompare_same_room (op:=.Eq) hx.typeIs hy.typeIs F.slot_dict_eq
   (AX F.slot_dict_eq hx.typeIs F.entry_dict_eq ?_ (F.args_dict_eq_2 _ _)) ω)
  unfold Builtin.«dict.__eq__»
  wp_delta
  refine Aa ?_;unfold Builtin.Dict.dictSlotArgs;refine Aa (wpAny_notOrdered_dict hx.typeIs ?_);refine Aa 70#(pure (Value.ref a,[Value.ref b]));refine Ac ?_;dsimp only;refine Aa (wpAny_isInstance hy.typeIs DCp.CZ ?_);simp only[Bv,Am,if_false];refine Aa 70#(pure a);refine Aa 70#(pure b);refine Aa (DEq.Nb (knd:=tupleKind 3#4) (show A.units+1<cLine from ω) x D hx hy ω (fun i k p v e=>?_) ?_)
  ·obtain⟨g1,kv,g2,g3⟩:=C i _ e
   obtain⟨j,g⟩:=R6 (hm kv (Ak g2));have N:j<ys.length:=by have:=(69#g).1;lia
   have r:ys[j]?=some ys[j]:=Ae N;obtain⟨f1,Y,f2,q⟩:=J j ys[j] r;rw[g] at f2;obtain rfl:=Ai f2;have O:kv.1=k.map Sum.inl:=by
    have:=congrArg (·[i]?) hp;simp only[Ah,g2,g1,Bi,Bg] at this;exact this
   have P:kv.1=ys[j].1.map Sum.inl:=by
    have:=congrArg (·[j]?) o;simp only[Ah,g,f1,Bi,Bg] at this;exact this
   have S:ys[j].1=k:=iu.mp (P.symm.trans O);have d:=congrArg (·[i]?) u;simp only[Ah,g2,Bi] at d;cases en:ns[i]? with
   |none=>rw[en] at d;simp at d
   |some n=>
    rw[en] at d;have T:kv.2=V.int n:=by simpa using d
    rw[T] at g3 q;obtain⟨t,L⟩:=(show ∃t,v=Value.int n t from g3);obtain⟨t',M⟩:=(show ∃t,ys[j].2.2=Value.int n t from q);refine⟨j,ys[j].2.1,n,t,t',L,?_⟩;rw[r,<-S,<-M]
  ·exact Ac ⟨_,rfl,(fun e=>nomatch e),wpAny_truthy_bool h⟩
inductive AV(H:Hp):V->V->Prop where
 |fl {x:V} (f:fv x=true):AV H x x
 |dt {a b:Addr} {kvs bE:List 4#6} {ab dB:Ξ} {ns:List Int} (ha:Rd H a 51#kvs) (hb:Rd H b 51#bE) (hp:kvs.map 2#3=ab.map 2#16) (aV:bE.map 2#3=dB.map 2#16) (hv:kvs.map 0#17=ns.map V.int) (hl:kvs.length=bE.length) (hm:∀kv∈kvs,kv∈bE):AV H 5#a 5#b
def P4(f:fv x=true):d0 x x=true:=by
 cases x with
 |non=>rfl
 |bl b=>cases b<;>rfl
 |int i=>simp[d0]
 |str z=>simp[d0]
 |_=>exact absurd 54#f Ax
def AV.eqAt{A:Around}{s:Shared}(hu:A.units+8<cLine)(I:Inv X aa σ H s)(h:AV H x y)(c:RelV x u)(d:RelV y v):SeqAt.EqAt A s u v true:=by
 cases h with
 |fl f=>
  have:=Es (A:=A) (s:=s) c d f f;rw[P4 f] at this;exact this
 |@dt a b kvs bE ab dB ns ha hb hp aV hv hl hm=>
  cases c;cases d;exact P0 I hu ⟨kvs,bE,ab,dB,ns,ha,hb,hp,aV,hv,hl,hm⟩
def P5{A:Around}{s:Shared}(hu:A.units+8<cLine)(I:Inv X aa σ H s):∀{xs ys:List V}{us vs:List Value},Paired (AV H) xs ys->Vals xs us->Vals ys vs->us.length=vs.length/\∀(j:Nat)(h1:j<us.length)(h2:j<vs.length),SeqAt.EqAt A s us[j] vs[j] true:=by
 intro xs ys us vs h
 induction h generalizing us vs with
 |nil=>intro a b;cases a;cases b;exact⟨rfl,fun j h1=>absurd h1 2#0⟩
 |cons q t ih=>
  intro a b;cases a with
  |cons a1 b1=>
   cases b with
   |cons a2 b2=>
    obtain⟨e,k⟩:=ih b1 b2;refine⟨by simp[e],fun j h1 h2=>?_⟩;cases j with
    |zero=>exact q.eqAt hu I a1 a2
    |succ j=>exact k j 6#h1 6#h2
def AT(H:Hp)(t u:Addr):Prop:=∃xs ys,H t=some 52#xs/\H u=some 52#ys/\Paired (AV H) xs ys
def AT.eqAt{A:Around}{s:Shared}{t u:Addr}(hu:A.units+64<cLine)(I:Inv X aa σ H s)(h:AT H t u):SeqAt.EqAt A s 5#t 5#u true:=by
 obtain⟨xs,ys,e1,g1,hp⟩:=h
 by_cases e:t=u
 ·rw[e];exact .same _
 obtain⟨i1,a,b,_⟩:=I.tuple (SqT.of (K:=X.K) e1);obtain⟨i2,c,p2,_⟩:=I.tuple (SqT.of (K:=X.K) g1);obtain⟨d,f⟩:=P5 (A:=A.in1) (by show A.units+1+8<cLine;lia) I hp a c;have:=SeqAt.RcAt.tuples (A:=A) (e:=fun _=>true) b p2 ω (fun j h1 h2=>by
  have:=f j 6#h1 6#h2
  simpa using this)
 refine .of_refs e ?_;have g:((AO (min i1.toArray.size i2.toArray.size)).all (fun _=>true)&&i1.toArray.size==i2.toArray.size)=true:=by
  rw[Qp.mpr 3#1];simp[d]
 rw[g] at this;exact this
def Io{s:Shared}{ts us:List Addr}(hu:X.A.units+128<cLine)(I:Inv X aa σ H s)(ha:Paired (AT H) ts us)(j:Nat)(h1:j<(ts.map Value.ref).toArray.size)(h2:j<(us.map Value.ref).toArray.size):SeqAt.EqAt X.A.in1 s (ts.map Value.ref).toArray[j] (us.map Value.ref).toArray[j] true:=by
 have a:j<ts.length:=by simpa using h1
 have b:j<us.length:=by simpa using h2
 have:=AT.eqAt (A:=X.A.in1) (by show X.A.units+1+64<cLine;lia) I (iU ha j _ _ (Ae a) (Ae b))
 simpa using this
def P6(hu:X.A.units+128<cLine):cw X (Bz .Eq) (fun x y H Q=>∃(l m:Addr)(ts us:List Addr),x=.ref l/\y=.ref m/\SqL X.K H l (ts.map V.ref)/\SqL X.K H m (us.map V.ref)/\Paired (AT H) ts us/\Q (.bl true) H):=by
 intro aa s σ H x y v u Q I a b h;obtain⟨l,m,ts,us,rfl,rfl,c,hm,ha,q⟩:=h;cases a;cases b;obtain⟨i,d,f,_⟩:=I.list c;obtain⟨j,g,p2,_⟩:=I.list hm;obtain rfl:=aG d;obtain rfl:=aG g;have o:=AN ha;refine SeqAt.RcAt.lists (e:=fun _=>true) f.isList p2.isList (by simp;lia) ω (Io hu I ha) X.prog X.w X.xe _ ⟨.bl _,H,I,rfl,?_⟩;rw[Qp.mpr 3#1];exact q
def Ip(hu:X.A.units+128<cLine):cw X (Bz .NotEq) (fun x y H Q=>∃(l m:Addr)(ts us:List Addr),x=.ref l/\y=.ref m/\SqL X.K H l (ts.map V.ref)/\SqL X.K H m (us.map V.ref)/\Paired (AT H) ts us/\Q (.bl false) H):=by
 intro aa s σ H x y v u Q I a b h;obtain⟨l,m,ts,us,rfl,rfl,c,hm,ha,q⟩:=h;cases a;cases b;obtain⟨i,d,f,_⟩:=I.list c;obtain⟨j,g,p2,_⟩:=I.list hm;obtain rfl:=aG d;obtain rfl:=aG g;have o:=AN ha;refine SeqAt.RcNeAt.lists (e:=fun _=>true) f.isList p2.isList (by simp;lia) ω (Io hu I ha) X.prog X.w X.xe _ ⟨.bl _,H,I,rfl,?_⟩;rw[Qp.mpr 3#1];exact q
def P7(hu:X.A.units+128<cLine):cw X (Bz .NotEq) (fun x y H Q=>∃(L M l m d e:Addr)(as bs:List Addr)(ab:Ξ),x=.ref L/\y=.ref M/\SqL X.K H L [.ref l,.ref d]/\SqL X.K H M [.ref m,.ref e]/\SqL X.K H l 2#2/\Tps H as ab/\SqL X.K H m (bs.map V.ref)/\Tps H bs ab/\AV H 5#d 5#e/\Q (.bl false) H):=by
 intro aa s σ H x y v u Q I a b h;obtain⟨L,M,l,m,d,e,as,bs,ab,rfl,rfl,c,f,g,hp,hm,hq,hc,q⟩:=h;cases a;cases b;obtain⟨i,o,p,_⟩:=I.list c;obtain⟨r,C,p2,_⟩:=I.list f;have e1:i=[.ref l,.ref d]:=aG (as:=[l,d]) o;have e2:r=[.ref m,.ref e]:=aG (as:=[m,e]) C;subst e1 e2;have D:SeqAt.EqAt X.A.in1 s 5#l 5#m true:=by
  have hs:=BY ab;have:=SeqAt.eqAt_reads _ _ X.A.in1 s _ _ _ _ (rh I g hp) (rh I hm hq) (SeqAt.canLay_of_shaped hs) (SeqAt.canLay_of_shaped hs) (SeqAt.room_of_shaped hs (by show X.A.units+1+64<cLine;lia));rw[<-SeqAt.same_eq_eqv _ _ (SeqAt.noMix_of_shape (.list (.tuples .int)) rfl _ _ (ri _) (ri _)),show same (.list 3#3) (.list 3#3)=true from by unfold same;rw[BZ ab ab];exact TK rfl] at this;exact this
 have E:=AV.eqAt (A:=X.A.in1) (by show X.A.units+1+8<cLine;lia) I hc rfl rfl;refine SeqAt.RcNeAt.lists (e:=fun _=>true) p.isList p2.isList rfl ω (fun j h1 h2=>?_) X.prog X.w X.xe _ ⟨.bl _,H,I,rfl,?_⟩
 ·have F:j<2:=h1
  rcases j with _|_|j
  ·exact D
  ·exact E
  ·lia
 ·exact q
def P8(hc:X.calm=true):cP X (.type "set") (fun xs H Q=>∃(l:Addr)(ns:List Int),xs=[.ref l]/\SqL X.K H l 1#18/\ns.length<=60/\∀D o,o=eX X.prog X.w D (STb.dd ns)->H D=none->Q 5#D 81#D):=by
 intro aa s σ H xs us Q I r h;obtain⟨l,ns,e,hq,hz,q⟩:=h;exact MF hc aa s σ H xs us Q I r ⟨l,ns,e,hq,hz,fun D a=>q D _ rfl a⟩
end
end L2
namespace K67
open K1
open PySem L2 STb
def DR(H:Hp)(l:List Int):Paired (AV H) (vQ l) (vQ l):=.cons (.fl rfl) (.cons (.fl rfl) (.cons (.fl (by split<;>rfl)) .nil))
def lD(h1:Paired (di H) us L)(h2:Paired (di H) vs L):Paired (AT H) us vs:=by
 induction h1 generalizing vs with
 |nil=>cases h2;exact .nil
 |cons a t ih=>
  cases h2 with
  |cons b t2=>exact .cons ⟨_,_,a.2,b.2,DR H _⟩ (ih t2)
def DS{a:List Int}{x:Int}(h:x∈a)(hz:a.length<=64):(a.map V.int).all fv=true/\a.idxOf x<1000/\(((a.map V.int)[a.idxOf x]?).map fun z=>d0 z 57#x)=some true/\∀m,m<a.idxOf x->(((a.map V.int)[m]?).map fun z=>d0 z 57#x)=some false:=by
 obtain⟨h1,h2⟩:=DQ h;have b:a.idxOf x<a.length:=RZ h;refine⟨by rw[Tu];exact Qp.mpr fun _ _=>rfl,ω,by rw[Ah,h1];simp[d0],fun m hm=>?_⟩;obtain⟨y,e,ne⟩:=h2 m hm;rw[Ah,e];simp[d0,ne]
structure ZL(PO PY:Addr)(H:Hp)(W KN WD HN HL HD DU:Addr)(as ks us:List Addr)(ab:Ξ)(cs:Wd)(L:Ξ):Prop where
 hW:H W=some 8#(as.map V.ref)
 ha:Tps H as ab
 hK:H KN=some 8#(ks.map V.ref)
 hk:Tps H ks 2#6
 hd:Rd H WD 51#(bH cs)
 hN:H HN=some (.lst [.ref HL,.ref HD])
 hL:H HL=some 8#(as.map V.ref)
 hD:Rd H HD 51#(bH cs)
 hU:H DU=some 8#(us.map V.ref)
 hu:Paired (di H) us L
 tt:nf PO PY H
structure OkL(ab:Ξ)(cs:Wd)(L:Ξ)(m:Int):Prop where
 hw:hJ ab
 few:(2#6).length<=56
 ck:cs.map 2#3=canon ab
 hg:eK 2#6 cs
 hp:isP m
 due:fe cs 2#6 m L
section
variable{PO PY:Addr}{H H':Hp}{W KN WD HN HL HD DU:Addr}{as ks us:List Addr}{ab:Ξ}{cs:Wd}{L:Ξ}{m:Int}
def DT(h:Paired (di H) vs L)(s:SZ PO PY H H'):Paired (di H') vs L:=Paired.mapP h fun _ _ q=>⟨q.1,s.tup q.2⟩
def ZL.sz(z:ZL PO PY H W KN WD HN HL HD DU as ks us ab cs L)(s:SZ PO PY H H'):ZL PO PY H' W KN WD HN HL HD DU as ks us ab cs L:=⟨s.lst z.hW,s.tps z.ha,s.lst z.hK,s.tps z.hk,s.rd z.hd,s.lst z.hN,s.lst z.hL,s.rd z.hD,s.lst z.hU,DT z.hu s,s.tab z.tt⟩
def OkL.len(o:OkL ab cs L m):L.length<=56:=by
 obtain⟨os,xs,c,a,d,_⟩:=o.due;have e:(xs.map (·.b)).Nodup:=a.srt.imp fun h=>ω
 have h1:=e.length_le_of_subset (l₂:=AO os.length) fun b hb=>by
  obtain⟨x,hx,rfl⟩:=Qi.mp hb;exact Qn.mpr (gz a hx).born
 rw[Ab,BE,c.1.length_eq] at h1;have h2:=QD (cZ cs os) xs;have f:=o.few;rw[d.length_eq];unfold ksQ;rw[Ab];lia
noncomputable def OkL.wv(o:OkL ab cs L m):∀q∈canon ab,∃n,wv cs q=some n:=fun q hq=>jD (by rw[o.ck];exact hq)
def OkL.dg(o:OkL ab cs L m)(hd:Rd H WD 51#(bH cs)){q:List Int}(hq:q∈canon ab)(ha:Tp H a q):DGet H WD 5#a 55#(.int ((K67.wv cs q).getD 0)):=by
 obtain⟨n,c⟩:=o.wv q hq;have:=mN (k:=q.map Sum.inl) (b:=a) hd (by rw[An];exact ha);rw[k7,c] at this;rw[c];exact this
def OkL.wo{K:Af}(o:OkL ab cs L m)(a:H HL=some 8#(as.map V.ref))(ha:Tps H as ab)(b:H U=some 51#(bH (fW f cs 2#6))):WO K H HL U as ab (fW f cs 2#6):=
 ⟨SqL.of a,ha,o.hw,o.few,.inl b,by rw[vj];exact zH ab,by have:=o.few;have e:=congrArg List.length (vj f cs 2#6);rw[Ab] at e;lia⟩
end
end K67
end
section
namespace K67
open K1
open PySem L2 STb
noncomputable abbrev bN:Stmt:=top 56
noncomputable abbrev jf:List Str:=["script","box","web","known","worths","prime","handed","order","due","turn","found","wider","stretched","ranked","places","short"]
def eQ:zj jf ["script"] 76#bN:=⟨rfl,rfl,rfl,δ,rfl,δ,δ⟩
def DV:Ba "dict"=some 2#18:=δ
abbrev p0:R2:=fun x y H Q=>y=.non/\Q (.bl (decide (x=.non))) H
abbrev DW:R2:=fg fun i j=>.int (i+j)
abbrev DX:R2:=rI CMul fun i j=>.int (i*j)
abbrev tB(K:Af)(n:Int):TE:=bS (eA K) 71#0 (tC 57#n)
abbrev DY:TE:=cy (zK 71#0 (zK (bS DW (bS DX (tC 57#3) (gt 71#1 71#0)) (tC 57#5)) bw))
abbrev P9(K:Af):TE:=cy (zK (tB K 0) (zK (bS DW (bS DX (tC 57#3) (tB K 1)) (tC 57#5)) (zK (qh (iQ (bS p0 (tB K 2) (tC .non))) (tC .non) (bS DW (bS DX (tC 57#3) (tB K 2)) (tC 57#5))) bw)))
abbrev P_(K:Af):TE:=cy (zK 71#0 (zK (qI K "list" zdw 71#1 (zK (gt 71#2 71#0) bw)) bw))
abbrev P'(K:Af):TE:=cy (zK (tB K 0) (zK (qI K "list" zdw 71#1 (zK (tB K 1) bw)) (zK (qh (iQ (bS p0 (tB K 2) (tC .non))) (tC .non) (qI K "list" zdw 71#1 (zK (tB K 2) bw))) bw)))
section
variable{P:Program}{w:World}{K:Af}{mg:Str->Option Value}{base:Heap}{f:Addr}{fd:FuncData}{PO PY:Addr}{cdv:Value}{A:Around}{outer:List Env}{s:Shared}{H:Hp}{E:XK}{Q:VK}
def Qa(hr:Room 10 2#11)(B:Bt mg)(fI:mg "dict"=none)(e_:Cl P w K mg base aK "bars_by" ["web","worths","prime"] 10 (ic K PO PY)):∃tr,PSs (dL aK P w K mg base jf "law" 76#bN f cdv A outer s H E).nox (List.drop 12 (zau bN)) tr/\
   ∀(a p OR W KN WD HN HL HD DU:Addr)(as ks us:List Addr)(ab:Ξ)(cs:Wd)(L:Ξ)(m:Int)(v9 dX rX pz:Option V)(H2:Hp),ZL PO PY H2 W KN WD HN HL HD DU as ks us ab cs L->OkL ab cs L m->(∀H',Q (.bl true) H')->
    tr {nx:=fun _ H'=>Q .non H',rt:=Q} [some 5#a,some 5#p,some 5#W,some 5#KN,some 5#WD,some 57#m,some 5#HN,some 5#OR,some 5#DU,v9,dX,rX,pz,none,none,none] H2:=by
 have hu:=dN hr;have bB:=hr.units;have r:(2#11).units+128<cLine:=by have:=hr.un;lia
 refine⟨_,zc (zk (i:=13) eQ.nd rfl (Or.inr rfl) (zm (MQ rfl) rfl B.sorted ju 56#(zB (P8 rfl) rfl B.set rR (za (zw jf ["piece","worths"] [none,some 4] (zu 7#3) (fun j C s₀ H₀ ex=>zh (i:=0) (cN ["piece","worths"]) rfl 2#1) (fun j C s₀ H₀ ex=>zE) (fun j C s₀ H₀ ex=>zF hu 7#1 7#0 3#1) (hfr:=bX 76#bN δ) (te:=lw)) zb))))
  (zc (zk (i:=14) eQ.nd rfl 2#1 (zB (tz rfl bB) rfl fI DV (za (zw jf ["piece","ranked","worths"] [none,some 13,some 4] (zu 7#3) (fun j C s₀ H₀ ex=>zh (i:=0) (cN ["piece","ranked","worths"]) rfl 2#1) (fun j C s₀ H₀ ex=>zE)
   (fun j C s₀ H₀ ex=>zQ (za 7#0 56#(fM A9 Sr Ss CT 7#1 (za (zF hu 7#2 7#0 3#1) zb)))) (hfr:=bX 76#bN δ) (te:=P_ K)) zb)))
  (zc (uq (i:=15) eQ.nd rfl 2#1 jf ["bar","ranked"] [none,some 13] (zu 7#8) (fun j C s₀ H₀ ex=>zh (i:=0) (cN ["bar","ranked"]) rfl 2#1) (fun j C s₀ H₀ ex=>zE)
   (fun j C s₀ H₀ ex=>zQ (za 59#zC (za (fM A9 Sr Ss CT 7#1 56#(zx zC 7#0 ze 3#1)) 56#(nu (zq ka 59#zC fC (ay _)) fC (fM A9 Sr Ss CT 7#1 (za 59#zC zb)))))) (hfr:=bX 76#bN δ) (te:=P' K))
  64#(nJ (P6 r) (zL e_ hr rfl av (za (zx zD 7#6 ze 3#1) (za 7#14 (za 7#5 zb)))) 7#15 (ay _)))),?_⟩
 intro a p OR W KN WD HN HL HD DU as ks us ab cs L m v9 dX rX pz H2 z o k;have f_:=o.few;have lL:=o.len;have wl:(cj cs 2#6).length=(2#6).length:=Ab _;refine⟨_,rfl,KN,rfl,⟨_,SqL.of z.hK⟩,fun D hD=>zy (HZ (SqL.of z.hK) z.hk ω z.hd o.wv hD fun H3 s3 ag=>⟨D,cj cs 2#6,rfl,SqL.of ag,ω,fun S ob vP hS=>⟨S,dd (cj cs 2#6),rfl,by rw[ac,vP],fun R d pm so hR=>?_⟩⟩)⟩;have s4:=s3.trans ((Same.new (o:=ob) hS).trans (Same.new (o:=.lst (d.map V.int)) hR));have O:upd (upd H3 S ob) R 8#(d.map V.int) R=some 8#(d.map V.int):=ac;have u:=z.sz (.same s4);generalize upd (upd H3 S ob) R 8#(d.map V.int)=H4 at s4 O u;have h:∀x,x∈cj cs 2#6->x∈d:=fun x hx=>pm.mem_iff.mpr ((sS _ _).mpr hx);have X:d.length<=64:=by
  rw[pm.length_eq];have:=(CQ (cj cs 2#6)).length_le_of_subset fun x hx=>(sS _ _).mp hx;lia
 have hf:Ris (dY d) (cj cs 2#6):=PZ h so;refine⟨_,rfl,KN,rfl,⟨_,SqL.of u.hK⟩,fun D5 aY=>zy (Ii (cs:=cs) (g:=dY d) (SqL.of u.hK) u.hk ω (fun q hq b H5 Q' hb y I=>?_) aY fun H5 ts y gO iV=>⟨D5,ts,_,rfl,SqL.of gO,iV,fun U hU=>?_⟩)⟩
 ·obtain⟨i1,i2,M,N⟩:=DS (h _ (jU hq)) X
  exact⟨_,rfl,_,rfl,.inl ⟨rfl,_,SqL.of (y _ _ O)⟩,_,rfl,_,rfl,WD,_,rfl,o.dg (u.hd.same y) hq hb,R,_,_,_,rfl,rfl,y _ _ O,i1,rfl,i2,M,N,aj 2#0,fun t ht=>I t ht⟩
 ·rw[Im (zH ab)]
  have Y:=y.trans (Same.new (o:=.dT (bH (fW (dY d) cs 2#6))) hU);have jz:upd H5 U 51#(bH (fW (dY d) cs 2#6)) U=some 51#(bH (fW (dY d) cs 2#6)):=ac;have G:=u.sz (.same Y);have qA:=Y _ _ O;generalize upd H5 U 51#(bH (fW (dY d) cs 2#6))=H6 at Y jz G qA;obtain⟨du,l_⟩:=Ig hf o.due;refine⟨_,rfl,DU,rfl,⟨_,SqL.of G.hU⟩,fun D7 jM=>zy (Ih (g:=dY d) (SqL.of G.hU) G.hu ω (fun l hl b H7 Q' hb J I=>?_) jM fun H7 vs J gY nZ=>?_)⟩
  ·obtain⟨n,n2,n3,c,rfl,w1,w2,w3⟩:=l_ l hl
   obtain⟨i1,i2,M,N⟩:=DS (h _ w1) X;have v:=J _ _ qA;have e:=hb.2;cases c with
   |true=>
    exact⟨_,rfl,b,_,0,_,rfl,rfl,SqT.of e,rfl,_,rfl,.inl ⟨rfl,_,SqL.of v⟩,_,rfl,b,_,1,_,rfl,rfl,SqT.of e,rfl,R,_,_,_,rfl,rfl,v,i1,rfl,i2,M,N,_,rfl,b,_,2,.non,rfl,rfl,SqT.of e,rfl,rfl,_,rfl,bg ⟨aj 2#0,fun t ht=>I t ht⟩⟩
   |false=>
    obtain⟨j1,j2,j3,j4⟩:=DS (h _ (w3 rfl)) X;exact⟨_,rfl,b,_,0,_,rfl,rfl,SqT.of e,rfl,_,rfl,.inl ⟨rfl,_,SqL.of v⟩,_,rfl,b,_,1,_,rfl,rfl,SqT.of e,rfl,R,_,_,_,rfl,rfl,v,i1,rfl,i2,M,N,_,rfl,b,_,2,.int n3,rfl,rfl,SqT.of e,rfl,rfl,_,rfl,a6 ⟨_,rfl,.inl ⟨rfl,_,SqL.of v⟩,_,rfl,b,_,2,_,rfl,rfl,SqT.of e,rfl,R,_,_,_,rfl,rfl,v,j1,rfl,j2,j3,j4,aj 2#0,fun t ht=>I t ht⟩⟩
  ·have T:=G.sz (.same J)
   refine⟨_,rfl,HN,_,0,.ref HL,rfl,rfl,SqL.of T.hN,rfl,_,rfl,_,rfl,HL,U,as,ab,_,m,rfl,o.wo T.hL T.ha (J _ _ jz),T.tt,Ie hf o.hg,o.hp,fun D8 H8 oN L8 f8 oz jP oE mQ=>?_⟩;obtain rfl:=DK o.hp.pr.1 mQ du;exact⟨_,rfl,D8,D7,oN,vs,rfl,rfl,SqL.of jP,SqL.of (f8.lst gY),lD oE (DT nZ f8),k H8⟩
def Qb(hr:Room 10 2#11)(B:Bt mg)(O:mg "dict"=none)(S:Cl P w K mg base aK "bars_by" ["web","worths","prime"] 10 (ic K PO PY)):∃J,PSs (dL aK P w K mg base jf "law" 76#bN f cdv A outer s H E).nox (List.drop 9 (zau bN)) J/\
   ∀(a p G W KN WD HN HL HD DU:Addr)(as ks us:List Addr)(ab:Ξ)(cs:Wd)(L:Ξ)(m:Int)(v x:Option V)(H2:Hp),ZL PO PY H2 W KN WD HN HL HD DU as ks us ab cs L->OkL ab cs L m->(∀H',Q (.bl true) H')->
    J {nx:=fun _ H'=>Q .non H',rt:=Q} [some 5#a,some 5#p,some 5#W,some 5#KN,some 5#WD,some 57#m,some 5#HN,some 5#G,some 5#DU,v,x,none,none,none,none,none] H2:=by
 have hu:=dN hr;have bB:=hr.units;have d:(2#11).units+128<cLine:=by have:=hr.un;lia
 obtain⟨x5,xy,ii⟩:=Qa (f:=f) (cdv:=cdv) (A:=A) (outer:=outer) (s:=s) (H:=H) (Q:=Q) (E:=E) hr B O S;refine⟨_,zc (zk (i:=11) eQ.nd rfl 2#1 (zB (tz rfl bB) rfl O DV (za (zw jf ["piece","worths"] [none,some 4] (zu 7#3) (fun h C s₀ H₀ ex=>zh (i:=0) (cN ["piece","worths"]) rfl 2#1) (fun h C s₀ H₀ ex=>zE)
   (fun h C s₀ H₀ ex=>zQ (za 7#0 56#(zv eP (zv gF ze (zF hu 7#1 7#0 3#1)) ze))) (hfr:=bX 76#bN δ) (te:=DY)) zb)))
  (zc (uq (i:=12) eQ.nd rfl 2#1 jf ["bar"] [none] (zu 7#8) (fun h C s₀ H₀ ex=>zh (i:=0) (cN ["bar"]) rfl 2#1) (fun h C s₀ H₀ ex=>zE)
   (fun h C s₀ H₀ ex=>zQ (za 59#zC (za (zv eP (zv gF ze 59#zC) ze) 56#(nu (zq ka 59#zC fC (ay _)) fC (zv eP (zv gF ze 59#zC) ze))))) (hfr:=dA δ) (te:=P9 K))
  (zc (cI (zq (Ip d) (zL S hr rfl av (za (zx zD 7#6 ze 3#1) (za 7#11 (za 7#5 zb)))) 7#12 (ay _)) 64#eN zA) xy)),?_⟩
 intro a p G W KN WD HN HL HD DU as ks us ab cs L m v x H2 z o k;have f_:=o.few;have lL:=o.len;have hf:=PX (cj cs 2#6);obtain⟨du,l_⟩:=Ig hf o.due;refine⟨_,rfl,KN,rfl,⟨_,SqL.of z.hK⟩,fun D5 T=>zy (Ii (cs:=cs) (g:=fun w=>3*w+5) (SqL.of z.hK) z.hk ω (fun q hq b I Q' hb y u=>?_) T fun I ts y X Y=>⟨D5,ts,_,rfl,SqL.of X,Y,fun U hU=>?_⟩)⟩
 ·exact⟨_,rfl,_,rfl,_,rfl,WD,_,rfl,o.dg (z.hd.same y) hq hb,_,_,rfl,rfl,.inl ⟨ξ,ξ⟩,_,_,rfl,rfl,aj 2#0,fun t ht=>u t ht⟩
 ·rw[Im (zH ab)]
  have M:=y.trans (Same.new (o:=.dT (bH (fW (fun w=>3*w+5) cs 2#6))) hU);have N:upd I U 51#(bH (fW (fun w=>3*w+5) cs 2#6)) U=some 51#(bH (fW (fun w=>3*w+5) cs 2#6)):=ac;have j:=z.sz (.same M);generalize upd I U 51#(bH (fW (fun w=>3*w+5) cs 2#6))=H6 at M N j;refine⟨_,rfl,DU,rfl,⟨_,SqL.of j.hU⟩,fun D7 jM=>zy (Ih (g:=fun w=>3*w+5) (SqL.of j.hU) j.hu ω (fun l hl b H7 Q' hb D u=>?_) jM fun H7 vs D gY nZ=>?_)⟩
  ·obtain⟨n,n2,n3,c,rfl,w1,w2,w3⟩:=l_ l hl
   have e:=hb.2;cases c with
   |true=>
    exact⟨_,rfl,b,_,0,_,rfl,rfl,SqT.of e,rfl,_,rfl,b,_,1,_,rfl,rfl,SqT.of e,rfl,_,_,rfl,rfl,.inl ⟨ξ,ξ⟩,_,_,rfl,rfl,_,rfl,b,_,2,.non,rfl,rfl,SqT.of e,rfl,rfl,_,rfl,bg ⟨aj 2#0,fun t ht=>u t ht⟩⟩
   |false=>
    exact⟨_,rfl,b,_,0,_,rfl,rfl,SqT.of e,rfl,_,rfl,b,_,1,_,rfl,rfl,SqT.of e,rfl,_,_,rfl,rfl,.inl ⟨ξ,ξ⟩,_,_,rfl,rfl,_,rfl,b,_,2,.int n3,rfl,rfl,SqT.of e,rfl,rfl,_,rfl,a6 ⟨_,rfl,b,_,2,_,rfl,rfl,SqT.of e,rfl,_,_,rfl,rfl,.inl ⟨ξ,ξ⟩,_,_,rfl,rfl,aj 2#0,fun t ht=>u t ht⟩⟩
  ·have r:=j.sz (.same D)
   refine⟨_,rfl,HN,_,0,.ref HL,rfl,rfl,SqL.of r.hN,rfl,_,rfl,_,rfl,HL,U,as,ab,_,m,rfl,o.wo r.hL r.ha (D _ _ N),r.tt,Ie hf o.hg,o.hp,fun D8 H8 oN L8 F oz jP oE mQ=>?_⟩;obtain rfl:=DK o.hp.pr.1 mQ du;exact⟨_,rfl,D8,D7,oN,vs,rfl,rfl,SqL.of jP,SqL.of (F.lst gY),lD oE (DT nZ F),_,rfl,a6 (ii a p G W KN WD HN HL HD DU as ks us ab cs L m v x _ _ H8 (r.sz F) o k)⟩
end
end K67
end
section
namespace K67
open K1
open PySem L2 STb
def Qc{ns:List Int}{r:Int}(a:0<=r)(h1:r<ns.length):∃z,z∈ns/\eR 1#18 r=some 57#z:=by
 obtain⟨n,rfl⟩:=RO a;have e:ns[n]?=some ns[n]:=Ae ω;exact⟨ns[n],A8 _,im (by rw[Ah,e];rfl)⟩
def Iq{pos:Pos}(t:Tab H P pos q)(sb:zG p H H')(hb:zO H p):Tab H' P pos q:=by
 obtain⟨x,y,e,_⟩:=hb;have a:P≠p:=fun z=>by rw[z] at t;rcases t with e'|⟨_,e',_⟩<;>(rw[e] at e';cases e')
 rcases t with e1|⟨c,e1,b,vs,d,e2,r⟩
 ·exact .inl (sb _ _ a e1)
 ·exact .inr ⟨c,sb _ _ a e1,b,vs,d,sb _ _ (fun z=>by rw[z,e] at e2;cases e2) e2,r⟩
def Qd(ab:Ξ):H_ 2#6:=fun i q eq r hr=>by
 have hq:=Ak eq;obtain⟨j,a⟩:=Ql.mp (u1 hq hr);have f:r.length<q.length:=by
  unfold rims at hr;split at hr
  ·cases hr
  ·obtain⟨j,b,rfl⟩:=Qi.mp hr
   have:=Qn.mp b;rw[Az,AE,Qx];lia
 obtain⟨hi,d⟩:=BK.mp eq;obtain⟨b,c⟩:=BK.mp a;have e:j<i:=by
  rcases Q8 j i with h|h|h
  ·exact h
  ·subst h
   rw[eq] at a;obtain rfl:=Ai a;lia
  ·have:=k4.mp (Qq.mp (CL ab) i j hi b h)
   rw[d,c] at this;unfold key at this;rw[HT.zi,TJ ω] at this;have:=of_decide_eq_false this;lia
 exact Rf.mpr ⟨j,ω,c⟩
section
variable{P:Program}{w:World}{K:Af}{mg:Str->Option Value}{base:Heap}{f:Addr}{fd:FuncData}{PO PY:Addr}{cdv:Value}{A:Around}{outer:List Env}{s:Shared}{H:Hp}{E:XK}{Q:VK}
def Qe(hr:Room 10 2#11)(B:Bt mg)(U:mg "dict"=none)(G:Cl P w K mg base aK "bars_by" ["web","worths","prime"] 10 (ic K PO PY)):∃D,PSs (dL aK P w K mg base jf "law" 76#bN f cdv A outer s H E).nox (List.drop 8 (zau bN)) D/\
   ∀(a p j W KN WD HN HL HD DU:Addr)(as ks us:List Addr)(ab:Ξ)(cs:Wd)(L:Ξ)(m:Int)(H2:Hp),ZL PO PY H2 W KN WD HN HL HD DU as ks us ab cs L->OkL ab cs L m->(∀H',Q (.bl true) H')->
    D {nx:=fun _ H'=>Q .non H',rt:=Q} [some 5#a,some 5#p,some 5#W,some 5#KN,some 5#WD,some 57#m,some 5#HN,some 5#j,some 5#DU,none,none,none,none,none,none,none] H2:=by
 have b:(2#11).units+128<cLine:=by have:=hr.un;lia
 obtain⟨X,M,N⟩:=Qb (f:=f) (cdv:=cdv) (A:=A) (outer:=outer) (s:=s) (H:=H) (Q:=Q) (E:=E) hr B U G;refine⟨_,zc (zY AZ rfl (lT rfl B.range 56#ze) (zh (i:=9) eQ.nd rfl 2#1)
   (zc (zk (i:=10) eQ.nd rfl 2#1 (zL G hr rfl av (za (zx zD 7#6 ze 3#1) (za (zx zD 7#6 ze 3#1) (za 7#5 zb)))))
   (zc (cI (PW.pt (qf (ji (jV (zm MU rfl B.isinstance Lh (za 7#10 56#(IG (v:=.ty "list") rfl B.list kD rfl))))) (qf (zq (Ip b) 7#10 7#8 (ay _)) (vF (zq (P7 b) 7#6 (zW (za 7#2 (za 7#4 zb))) (ay _)))))) 64#eN zA)
   (zf (gm (fM A9 QB QC jk 7#10 56#(zQ zb))))))) M,?_⟩
 intro a p j W KN WD HN HL HD DU as ks us ab cs L m H2 z o k;refine⟨2,rfl,ω,ω,?_⟩;refine wR (lo:=0) (n:=(2:Int).toNat) (fun i σ l=>∃(e g:Option V),σ=[some 5#a,some 5#p,some 5#W,some 5#KN,some 5#WD,some 57#m,some 5#HN,some 5#j,some 5#DU,e,g,none,none,none,none,none]/\ZL PO PY l W KN WD HN HL HD DU as ks us ab cs L) ⟨none,none,rfl,z⟩ ?_ ?_
 ·rintro i σ l hi ⟨e,g,rfl,c⟩
  have O:(cs.map 2#3).Nodup:=by rw[o.ck];exact zH ab
  have S:cs.length<=57:=by have:=congrArg List.length o.ck;rw[Ab] at this;have:=o.few;lia
  refine⟨_,rfl,HN,_,0,.ref HL,rfl,rfl,SqL.of c.hN,rfl,_,rfl,HN,_,1,.ref HD,rfl,rfl,SqL.of c.hN,rfl,_,rfl,HL,HD,as,ab,cs,m,rfl,⟨SqL.of c.hL,c.ha,o.hw,o.few,c.hD,O,S⟩,c.tt,o.hg,o.hp,fun y H5 C L5 f5 I q ld J=>?_⟩;obtain rfl:=DK o.hp.pr.1 J o.due;have r:=c.sz f5;refine⟨_,rfl,y,_,rfl,q,_,rfl,a6 ⟨_,rfl,_,rfl,y,DU,C,us,rfl,rfl,SqL.of q,SqL.of r.hU,lD ld r.hu,_,rfl,a6 ⟨_,rfl,_,rfl,_,rfl,aj 2#0,fun T hT=>?_⟩⟩⟩;have u:=Same.new (o:=.lst [.ref W,.ref WD]) hT;have d:=r.sz (.same u);have x:=u _ _ q;refine⟨HN,T,HL,W,HD,WD,as,as,ab,rfl,rfl,SqL.of d.hN,SqL.of ac,SqL.of d.hL,d.ha,SqL.of d.hW,d.ha,.dt (ns:=cs.map 0#17) d.hD d.hd (pu cs) (pu cs) (by unfold bH;rw[An,An];rfl) rfl (fun _ h=>h),_,rfl,a6 ?_⟩;have Y:C.length<=56:=by rw[AN ld];exact o.len
  refine⟨_,rfl,.inl ⟨rfl,_,SqL.of x⟩,aj 2#0,fun t ht=>⟨y,_,_,rfl,rfl,Same.new ht _ _ x,by rw[Ab];exact zP ω,_,_,rfl,c.sz (((f5.trans (.same u)).trans (.same 62#ht)).put I (Same.new ht _ _ x))⟩⟩
 ·rintro σ l ⟨e,g,rfl,c⟩
  exact N a p j W KN WD HN HL HD DU as ks us ab cs L m e g l c o k
def vo(K:Af)(PO PY:Addr):Sp:=fun vs H Q _=>∃(a:Addr)(ns:List Int),vs=[.ref a]/\SqL K H a 1#18/\ns.length<=63/\H PO=some (.tbl #[])/\H PY=some (.tbl #[])/\PO≠PY/\∀H',Q (.bl true) H'
def Qf(F:Fun K "law" "law" bN f fd)(B:Bt mg)(fI:mg "dict"=none)(Cc:Cl P w K mg base aK "_law_cell_at" ["script","k"] 1 (FO K))(se:Cl P w K mg base aK "_law_box" ["cell"] 1 FP)(Ct:Cl P w K mg base aK "_law_take" ["box","most"] 1 oX)(Cw:Cl P w K mg base aK "_law_web" ["box"] 3 FS)(Cp:Cl P w K mg base aK "_law_pieces" ["web"] 2 (oV K))(oU:Cl P w K mg base aK "_law_worths" ["box","known"] 2 (Ia K))(kY:Cl P w K mg base aK "order_by" ["web","worths"] 9 (DF K PO))(Cb:Cl P w K mg base aK "bars" ["order","prime"] 7 (DD K PY))(vY:Cl P w K mg base aK "_law_due" ["order","worths","told"] 1 (Ib K))(e_:Cl P w K mg base aK "bars_by" ["web","worths","prime"] 10 (ic K PO PY)):az P w K mg base aK 11 f fd ["script"] (vo K PO PY):=by
 refine F.ok eQ 0#2 3#0
 ·obtain⟨a,ns,rfl,_⟩:=h;rfl
 ·obtain⟨a,nn,rfl,hS,hn,sI,tI,v,k⟩:=h
  obtain⟨yK,p8,jL⟩:=Qe (f:=f) (cdv:=cdv) (A:=A) (outer:=outer) (s:=s) (H:=H) (Q:=Q) (E:=E) hr B fI e_;refine⟨_,zc (zk (i:=1) eQ.nd rfl 2#1 (zL se hr rfl av 56#(zL Cc hr rfl av (za 7#0 (za ze zb)))))
   (zc (zk (i:=2) eQ.nd rfl 2#1 (zL Cw hr rfl av (za 7#1 zb)))
   (zc (zk (i:=3) eQ.nd rfl 2#1 (zL Cp hr rfl av (za 7#2 zb)))
   (zc (zk (i:=4) eQ.nd rfl (Or.inr rfl) (zL oU hr rfl av (za 7#1 (za 7#3 zb))))
   (zc (zk (i:=5) eQ.nd rfl 2#1 (zx zD (zW (za ze (za ze (za ze 56#ze)))) (zL Ct hr rfl av (za 7#1 56#ze)) 3#1))
   (zc (zk (i:=6) eQ.nd rfl 2#1 (zW (za (zB JB rfl B.list kD (za 7#2 zb)) 56#(zB M' rfl fI DV (za 7#4 zb)))))
   (zc (zk (i:=7) eQ.nd rfl 2#1 (zL kY hr rfl av (za (zx zD 7#6 ze 3#1) 56#(zx zD 7#6 ze 3#1))))
   (zc (zk (i:=8) eQ.nd rfl 2#1 (zL vY hr rfl av (za 7#7 (za 7#4 56#(zL Cb hr rfl av (za 7#7 (za 7#5 zb))))))) p8))))))),?_⟩
  refine⟨_,rfl,a,nn,rfl,hS,fun n=>⟨n,rfl,fun p x y hp tm=>?_⟩⟩;have sp:=Same.new (o:=.lst [.int x,.int y]) hp;have M:zO (upd H p (.lst [.int x,.int y])) p:=⟨x,y,ac,tm⟩;have my:nf PO PY (upd H p (.lst [.int x,.int y])):=⟨v,Tab.same 74#sI sp,Tab.same 74#tI sp⟩;generalize upd H p (.lst [.int x,.int y])=H0 at sp M my;refine⟨_,rfl,p,rfl,M,fun O os ab H1 dc U _ W cL X=>?_⟩;obtain⟨hw,hnd,hlen⟩:=LX X;obtain⟨fE,lB,h5,bu⟩:=sM hw;have N:(2#6).length<=56:=by rw[ss];exact L3 X
  have D:hJ ab:=⟨hw,ω⟩;obtain⟨fn,gn,uN,vx⟩:=PH X;refine⟨_,rfl,O,os,ab,rfl,SqL.of W,cL,h5,ω,by rw[<-ss];lia,fun KN H2 q2 t2=>?_⟩;obtain⟨ks,C,_,nT,pI⟩:=FZ t2;have G:=U.same C;refine⟨_,rfl,_,rfl,p,KN,ks,canon ab,rfl,G,nT,pI,zH ab,N,HG hw,Qd ab,fun T H3 cs u Y wQ J l hab=>?_⟩;have iH:zG p H0 H3:=(dc.trans (zG.of C)).trans u;have kZ:=u _ _ (G.ne (C _ _ W)) (C _ _ W);have ho3:=u.tps G (C.tps cL);have p5:=u _ _ (G.ne nT) nT;have w_:=u.tps G pI;refine⟨aj 2#0,fun L hL=>?_⟩;have c:=Same.new (o:=.lst ([2,3,5,7].map V.int)) hL;have I:=Y.same c;have nL:L≠p:=by obtain⟨x,y,h,_⟩:=Y;exact Ne.symm (zg h hL)
  refine⟨_,rfl,p,4,rfl,I,ξ,ξ,fun r5 r pf wS j gE=>?_⟩;obtain⟨m,hm,em⟩:=Qc (ns:=[2,3,5,7]) pf wS;have rJ:isP m:=by
   simp only[Qj,QL,or_false] at hm;exact hm
  refine⟨L,_,_,_,rfl,rfl,SqL.of (j _ _ nL ac),em,?_⟩;have jK:zG p H0 r:=(iH.trans (zG.of c)).trans j;have sv:nf PO PY r:=⟨v,Iq my.o jK M,Iq my.y jK M⟩;have hDp:T≠p:=fun z=>by rw[z] at J;obtain⟨x,y,e,_⟩:=Y;rw[e] at J;cases J
  have qy:=j _ _ (I.ne (c _ _ kZ)) (c _ _ kZ);have qz:=j.tps I (c.tps ho3);have wc:=j _ _ (I.ne (c _ _ p5)) (c _ _ p5);have wa:=j.tps I (c.tps w_);have aY:=j _ _ hDp (c _ _ J);have hg:eK 2#6 cs:=⟨by rw[l],hab⟩;refine⟨_,rfl,O,_,rfl,.inl (SqL.of qy),fun b eY=>?_⟩;have sL:=Same.new (o:=.lst (os.map V.ref)) eY;refine⟨_,rfl,T,bH cs,cs.map 2#3,rfl,.inl (sL _ _ aY),pu cs,by rw[l];exact PF uN (zH ab) fun q hq=>.inl (vx q hq),fun g gb=>?_⟩;have sD:=Same.new (o:=.dT (bH cs)) gb;refine⟨aj 2#0,fun HN uo=>?_⟩;have sH:=Same.new (o:=.lst [.ref b,.ref g]) uo;have S1:=(sL.trans sD).trans sH;have c1:=sH _ _ (sD _ _ (ac (H:=r) (a:=b) (o:=.lst (os.map V.ref))));have c2:=sH _ _ (ac (H:=L2.upd r b 8#(os.map V.ref)) (a:=g) (o:=.dT (bH cs)));have S:=ac (H:=L2.upd (L2.upd r b 8#(os.map V.ref)) g 51#(bH cs)) (a:=HN) (o:=.lst [.ref b,.ref g]);generalize L2.upd (L2.upd (L2.upd r b 8#(os.map V.ref)) g 51#(bH cs)) HN (.lst [.ref b,.ref g])=H6 at S1 c1 c2 S;have nH:=(SZ.same S1:SZ PO PY _ _).tab sv;have nc:(cs.map 2#3).Nodup:=by rw[l];exact zH ab
  have cl:cs.length<=57:=by have:=congrArg List.length l;rw[Ab] at this;lia
  refine⟨_,rfl,HN,_,0,.ref b,rfl,rfl,SqL.of S,rfl,_,rfl,HN,_,1,.ref g,rfl,rfl,SqL.of S,rfl,b,g,os,ab,cs,rfl,⟨SqL.of c1,S1.tps qz,D,N,.inl c2,nc,cl⟩,nH.o,hg,fun OR H7 rs oo f7 vV rH kR ow=>?_⟩;have z7:SZ PO PY H6 H7:=.of1 f7;have ol:oo.length<=56:=by rw[ow.1.length_eq];exact N
  refine⟨_,rfl,_,rfl,_,rfl,_,rfl,OR,rs,oo,m,rfl,SqL.of rH,kR,HR hw hg ow,ω,rJ,(z7.tab nH).y,fun BR us xs H8 f8 kN tP dR pp=>?_⟩;have z8:=z7.trans (.of2 f8);refine⟨OR,T,BR,rs,oo,us,xs,cs,canon ab,m,rfl,f8.lst rH,f8.tps kR,z8.rd 74#(S1 _ _ aY),tP,dR,by rw[l],ow,pp,ol,fun DU H9 uk L9 s9 _ uL xI vq=>?_⟩;have d:=z8.trans (.same s9);exact jL a p OR O KN T HN b g DU os ks uk ab cs L9 m H9 ⟨d.lst (S1 _ _ qy),d.tps (S1.tps qz),d.lst (S1 _ _ wc),d.tps (S1.tps wa),d.rd 74#(S1 _ _ aY),d.lst S,d.lst c1,d.rd 74#c2,uL,xI,d.tab nH⟩ ⟨D,N,l,hg,rJ,vq⟩ k
end
end K67
end
section
namespace L2
open PySem PySem.Spec PyProof.Rows
def DZ{K:Af}{d cc:Value}{e g:Option Addr}{b h:Array 66#Value}{fd:FuncData}(a:SU K mainGlobals x=some (some 5#f))(l:K.lookup f=some ⟨d,e,.func fd,b⟩)(hc:fd.code=.ref c)(m:K.lookup c=some ⟨cc,g,.fields vs,h⟩)(i:(vs[11]?:Option Value)=some 5#P):QV K x=some (c,P):=by
 unfold QV;rw[a];simp only[l,hc,m,i]
def Ir{K:Af}{st:Stmt}{f c P:Addr}(F:Fun K x x st f fd)(a:SU K mainGlobals x=some (some 5#f))(t:QV K x=some (c,P)):fd.code=.ref c:=by
 obtain⟨b,d,kV,e,g,h,cdv,ct,i,rfl,lk,j⟩:=F.ex;unfold QV at t;rw[a] at t;simp only[lk] at t;cases cdv with
 |ref c2=>
  simp only at t;split at t
  ·split at t
   ·cases t;rfl
   ·cases t
  ·cases t
 |_=>cases t
end L2
end
section
namespace K67
open K1
open PySem L2 STb
def Qg{K:Af}{t:Addr}{a:Option Addr}{b:Array 66#Value}{n:Nat}(l:K.lookup t=some ⟨.type "tuple",a,.seq #[.int 2 c,.int 3 d,.int 5 e,.int 7 f] n,b⟩):∀H,SqT K H t [.int 2,.int 3,.int 5,.int 7]:=
 fun H=>.inr ⟨_,_,_,l,rfl,rfl,by show 4<=sizeLine;rw[Bp];decide,.cons ⟨_,rfl⟩ (.cons ⟨_,rfl⟩ (.cons ⟨_,rfl⟩ (.cons ⟨_,rfl⟩ .nil)))⟩
def Qh{l:PySem.W.OpenLaw}{K:Af}{fa f1 f2 f3 f4 f5 f6 f7 f8 f9 tL wB wV vX xz xD vt uW wq uz xO u8 tX sA wn sE uB sT xL vW ye wp uU uf xb vT xn wu vC uY tE aP:Addr}{tp tq tr ts:Tok}(X:K.In h)(G:h.Ns mainGlobals mg)(xV:mg "law"=some 5#fa){cO PO cY PY:Addr}(hT:QV K "order_by"=some (cO,PO))(hY:QV K "youngest_of"=some (cY,PY))(d1:Df K "is_piece" rL f1)(d2:Df K "parts_of" mF f2)(d3:Df K "rims_of" ph f3)(d4:Df K "order_key" gd f4)(d5:Df K "in_order" oR f5)(d6:Df K "all_parts" sAll f6)(d7:Df K "is_web" rQ f7)(d8:Df K "must_be_web" sN f8)(d9:Df K "pieces" CN f9)(lE:Df K "seam_of" C9 tL)(x_:Df K "seam_terms" pD wB)(vE:Df K "sum_of" i_ wV)(ur:Df K "is_order" uj vX)(v_:Df K "must_be_order" Dq xz)(pN:Df K "order_by" ll xD)(xl:Df K "are_worths" i5 vt)(wP:Df K "is_above_rims" ti uW)(tK:Df K "must_be_prime" Dr wq)(tG:Df K "bars" DA uz)(uw:Df K "paper" uJ xO)(tV:Df K "times_of" Dt u8)(x6:Df K "worked_off" Dy tX)(pW:Df K "youngest_of" Du sA)(vg:Df K "taken_by" uy wn)(xG:Df K "times_into" uD sE)(wf:Df K "less_by" uF uB)(xu:Df K "bars_by" DJ sT)(xF:Df K "bar_key" u_ xL)(vp:Df K "_law_cell_at" CG vW)(uE:Df K "_law_box" kM ye)(vZ:Df K "_law_take" oW wp)(sZ:Df K "_law_parts" oY uU)(u6:Df K "_law_pieces" CJ uf)(wd:Df K "_law_known" sk xb)(sw:Df K "_law_named" o6 vT)(si:Df K "_law_web" kP xn)(tH:Df K "_law_rims" s_ wu)(yi:Df K "_law_worths" je vC)(wJ:Df K "_law_due" lz uY)(qa:Df K "law" bN tE)(gp:Nn K "MOST_POINTS" 55#(.int 5 tp))(gq:Nn K "LAST_POINT" 55#(.int 99 tq))(gr:Nn K "MOST_HANDED" 55#(.int 20 tr))(gs:Nn K "MOST_PIECES" 55#(.int 200 ts))(wO:Nn K "PRIMES" (some 5#aP))(hP:∀H,SqT K H aP [.int 2,.int 3,.int 5,.int 7])(z1:Nn K "len" none)(z2:Nn K "all" none)(z3:Nn K "zip" none)(z4:Nn K "sorted" none)(z5:Nn K "set" none)(z6:Nn K "list" none)(z7:Nn K "tuple" none)(z8:Nn K "range" none)(z9:Nn K "enumerate" none)(w5:Nn K "int" none)(yf:Nn K "isinstance" none)(uT:Nn K "reversed" none)(wz:Nn K "bool" none)(wY:Nn K "dict" none)(qg:Nn K "max" none):∃fd:FuncData,(∀(s:Shared)(v:Value),BindsTo s fd ⟨[v],[]⟩ [("script",v)])/\∀base:Heap,K.In base->base.Ns mainGlobals mg->BM mg base->PySem.W.CodeAll [(cO,PO),(cY,PY)] base->az l.prog w K mg base aK 11 fa fd ["script"] (vo K PO PY):=by
 cases xV.symm.trans (qa.m X G);have B:Bt mg:=⟨z1.n X G,z2.n X G,z3.n X G,z4.n X G,z5.n X G,z6.n X G,z7.n X G,z8.n X G,z9.n X G,w5.n X G,yf.n X G,uT.n X G,wz.n X G⟩;obtain⟨g1,g,p,q⟩:=d1.g1 X G "numbers";obtain⟨g2,F2,r,m2⟩:=d2.g1 X G "piece";obtain⟨g3,i,u,x⟩:=d3.g1 X G "piece";obtain⟨g4,F4,y,A⟩:=d4.g1 X G "piece";obtain⟨g5,F5,C,D⟩:=d5.g1 X G "some";obtain⟨g6,j,E,F⟩:=d6.g1 X G "some";obtain⟨g7,F7,b7,m7⟩:=d7.g1 X G "web";obtain⟨g8,F8,b8,m8⟩:=d8.g1 X G "web";obtain⟨g9,F9,b9,m9⟩:=d9.g1 X G "web";obtain⟨yE,I,wC,t9⟩:=lE.g1 X G "chain";obtain⟨yC,J,wI,t6⟩:=x_.g2 X G "piece" "often";obtain⟨yD,c,L,M⟩:=vE.g1 X G "terms";obtain⟨yS,N,xx,yh⟩:=ur.g1 X G "order";obtain⟨y0,O,xr,sJ⟩:=v_.g1 X G "order";obtain⟨yB,d,x8,sP⟩:=pN.g2 X G "web" "worths";obtain⟨yn,Q,ua,uu⟩:=xl.g2 X G "every" "worths";obtain⟨BL,S,xq,sY⟩:=wP.g2 X G "piece" "worths";obtain⟨yo,T,uR,sX⟩:=tK.g1 X G "prime";obtain⟨y8,U,u5,xS⟩:=tG.g2 X G "order" "prime";obtain⟨yA,Y,vB,om⟩:=uw.g2 X G "order" "prime";obtain⟨yH,p6,tU,uc⟩:=tV.g1 X G "order";obtain⟨BN,pY,sK,wK⟩:=x6.g4 X G "piece" "rows" "times" "prime";obtain⟨BW,e,r_,w4⟩:=pW.g2 X G "chain" "times";obtain⟨yL,pH,xC,wE⟩:=vg.g2 X G "chain" "prime";obtain⟨yy,pC,um,ul⟩:=xG.g3 X G "weight" "goal" "prime";obtain⟨BI,qQ,vn,sR⟩:=wf.g4 X G "chain" "often" "other" "prime";obtain⟨BV,pU,xH,xk⟩:=xu.g3 X G "web" "worths" "prime";obtain⟨yX,pS,ux,uK⟩:=xF.g1 X G "bar";obtain⟨yP,qM,vf,wN⟩:=vp.g2 X G "script" "k";obtain⟨yQ,qX,w6,vh⟩:=uE.g1 X G "cell";obtain⟨yO,f,qZ,pQ⟩:=vZ.g2 X G "box" "most";obtain⟨y7,wg,wb,sy⟩:=sZ.g1 X G "piece";obtain⟨BX,rq,wM,xi⟩:=u6.g1 X G "web";obtain⟨ym,uQ,uX,vM⟩:=wd.g1 X G "number";obtain⟨z_,we,u4,sV⟩:=sw.g2 X G "box" "web";obtain⟨yz,pJ,vO,wA⟩:=si.g1 X G "box";obtain⟨yW,rO,ww,xt⟩:=tH.g1 X G "piece";obtain⟨yF,qP,vm,wU⟩:=yi.g2 X G "box" "known";obtain⟨y6,rN,rY,tY⟩:=wJ.g3 X G "order" "worths" "told";obtain⟨⟨gL,FL⟩,_⟩:=qa;have c6:=Ir d pN.a hT;have sG:=Ir e pW.a hY;refine⟨gL,?_,fun base _ _ b o=>?_⟩
 ·obtain⟨_,_,_,_,_,_,_,_,_,rfl,_,_⟩:=FL.ex;exact fun s v=>.of_eq rfl
 have lX:=FK (P:=l.prog) (w:=w) (base:=base) j B F2 r m2 F5 C D F4 y A;have mM:=Lq (P:=l.prog) (w:=w) (base:=base) F7 B (gp.m X G) (gq.m X G) (gr.m X G) (gs.m X G) g p q j E F F2 r m2 F5 C D F4 y A;have Gm:=L7 F8 F7 b7 m7 mM;have uM:=cR F9 b9 m9 (L_ F9 F8 b8 m8 Gm j E F lX);have Ci:=cR g p q (FF (P:=l.prog) (w:=w) (base:=base) g B (gp.m X G) (gq.m X G));have Cr:=cR i u x (F3 (P:=l.prog) (w:=w) (base:=base) i B);have wW:=cR rO ww xt (Ng (P:=l.prog) (w:=w) (base:=base) rO B);have u3:=cR S xq sY (Ni S B Cr);have yd:=cR Q ua uu (No Q B u3);have kY:=cR d x8 sP (Pe d B c6 o.1 b uM yd);have Gs:=NB (mg:=mg) (P:=l.prog) (w:=w) (base:=base) c;have Cs:=cR c L M Gs;have Gt:=NA (P:=l.prog) (w:=w) (base:=base) J B i u x;have Cm:=cR I wC t9 (NK I J wI t6 Gt c L M Gs);have Co:=cR O xr sJ (OF O (cR N xx yh (OD N B (gs.m X G) Ci Cr)));have Cp:=cR T uR sX (OH (P:=l.prog) (w:=w) (base:=base) T (wO.m X G) hP);have x9:=cR p6 tU uc (OM (P:=l.prog) (w:=w) (base:=base) p6 B);have Cy:=cR e r_ w4 (OO (P:=l.prog) (w:=w) (base:=base) e B (qg.n X G) sG o.2.1 b);have qF:=cR pH xC wE (OS (Pt:=PY) pH Cs);have wG:=cR pC um ul (OV (P:=l.prog) (w:=w) (base:=base) pC B);have vS:=cR qQ vn sR (OX qQ B Cs qF);have oU:=cR pY sK wK (OZ pY B Cm qF Cy wG vS);have xo:=cR Y vB om (O8 Y B Co Cp x9 oU Cy);have q8:=cR U u5 xS (Pc U xo);have e_:=cR pU xH xk (Px pU B kY q8 pS ux uK (Pw pS));have Ct:=cR f qZ pQ (CI (P:=l.prog) (w:=w) (base:=base) f);exact Qf FL B (wY.n X G) (cR qM vf wN (Lu qM B)) (cR qX w6 vh (Lw qX)) Ct (cR pJ vO wA (LO pJ B f qZ pQ we u4 sV uQ uX vM)) (cR rq wM xi (LB rq B wg wb sy)) (cR qP vm wU (PM qP B (qg.n X G) Ct wW)) kY q8 (cR rN rY tY (PQ rN B)) e_
def walk{l:PySem.W.OpenLaw}{v:List Str}{I:(Str->Option Value)->Heap->Prop}{o:World->Heap->Prop}{d:DefRec}{K:Params->Af}{b PO c PY:Addr}(y:l.most=some 63)(A:d.params.defaults=[])(C:∀(w:World)(h:Heap),o w h->(K w.params).In h)(D:∀p,TF (K p)=true)(hT:∀p,QV (K p) "order_by"=some (b,PO))(g:∀p,QV (K p) "youngest_of"=some (c,PY))(i:PO≠PY)(E:((PyProof.Rows.recsOf q).find? (fun e=>e.name==("order_by":Str))).isSome=true)(G:((PyProof.Rows.recsOf q).find? (fun e=>e.name==("youngest_of":Str))).isSome=true)(F:∀(w:World)(mg:Str->Option Value)(fa:Addr)(h:Heap),(K w.params).In h->h.Ns mainGlobals mg->mg d.name=some 5#fa->
   ∃fd:FuncData,(∀(s:Shared)(u:Value),BindsTo s fd ⟨[u],[]⟩ [("script",u)])/\∀base:Heap,(K w.params).In base->base.Ns mainGlobals mg->BM mg base->PySem.W.CodeAll [(b,PO),(c,PY)] base->az l.prog w (K w.params) mg base aK 11 fa fd ["script"] (vo (K w.params) PO PY)):
  PySem.W.WalkO q v I o l.row.toRowW d [] (fun f vs=>PySem.call f vs):=
 L2.MY (n:=63) (k:=11) (x:="script") (CX:=aK) (sp:=fun w=>vo (K w.params) PO PY) (tabs:=[(b,PO),(c,PY)]) (xs:=["order_by","youngest_of"]) y ξ A ⟨rfl,ξ,ξ⟩ C D (fun p=>by show [QV (K p) "order_by",QV (K p) "youngest_of"]=[some (b,PO),some (c,PY)];rw[hT p,g p]) (fun x hx=>by
  rcases Qj.mp hx with h|h
  ·rw[h];exact E
  ·rw[Qk.mp h];exact G) F
  (fun w H a ns r g j=>⟨a,ns,rfl,g,r,j _ Av,j _ (Ar _ Av),i,fun _=>rfl⟩) fun _ _ _ _ z=>z
end K67
open PySem PySem.W PyProof.Rows
structure PySem.W.Fast:Prop where
 (tw10001893969155976048 tw10027339934915962199 tw10079602349646922965 tw10125976090242527285 tw10218858580077120889 tw10349446917264094956 tw10384445021111236563 tw10432420285882967561 tw10449826511610206405 tw10523677326786152697 tw1061339297573018868 tw10630889786395874834 tw10675755770027122094 tw1075696251993170442 tw10801927243419943809 tw10812786235574145181 tw10842601828259304354 tw10866819823676553615 tw10942140030553290566 tw11174880767975673318 tw113972368875630153 tw11421919385332793884 tw11422261863219621113 tw11453915995182278011 tw11454025661202152388 tw11495778146231697920 tw11524991168124610257 tw11555285611777008638 tw11647608147423756262 tw11661593838181251278 tw11691764336269331046 tw11911532990499278540 tw12090576515906793284 tw12125026869596822673 tw12152029300601871877 tw12256476226031695864 tw12271286232879032884 tw12306992783995765891 tw12409559229970714295 tw12495324027479152860 tw12538890615338350787 tw12545786125609433699 tw12620539996915053530 tw12741315748663467110 tw12789935627574600670 tw12811238905767376957 tw1285404393192234558 tw12868938403189538590 tw12884164365447363511 tw12909305229694906472 tw12913383626604565892 tw1302128046521629742 tw1316170405911701878 tw13273090337519121754 tw13296067406040271392 tw13402097193829732233 tw13417996756735740950 tw13428651586775228489 tw1349989386420079745 tw13574837435830580278 tw13585330648720639075 tw1360565613012177575 tw13623697833636564452 tw13701277696546313328 tw13782559567293356804 tw13826684680544955086 tw13882787912826488564 tw14138574493496582631 tw14275974857636977498 tw14327316873916282949 tw14582636750805951812 tw14611114632561526397 tw14642469832278419690 tw14757567915208384333 tw14786891960201580374 tw14793289079869020384 tw14823816741543412308 tw14919448289613704602 tw15037690240486406114 tw15066796670028367884 tw15172907699873516487 tw15209615738859953016 tw15232426070660495501 tw15334087218024359788 tw15421649666528626078 tw15516527510941522894 tw15528640374960729327 tw15573700043955191948 tw15591943118000784621 tw15593020816345673519 tw15601486330254409967 tw15675776253206508391 tw15809311665748897510 tw15919241300657745609 tw16039707622338320263 tw16046593007223169384 tw16107831615892525688 tw16137304488377076329 tw161389341778136092 tw16161826322906766415 tw1632688934799925871 tw16403340998939680124 tw16418031802697937807 tw16438908222115864859 tw16565092320544050109 tw16914409388699147587 tw16970473762942406102 tw17128799031974990107 tw17157202957237743695 tw17168278120556667473 tw17207267614874696154 tw17262335139882981221 tw17491758520529278056 tw17508354870271263144 tw17574328025177887673 tw17604811194285889034 tw17618138278060601369 tw17642393036993202581 tw17692242126510978397 tw17769007352599587446 tw17802358301249671530 tw17906122959062280227 tw1791504033922269335 tw17991755088903430315 tw1824997505581049948 tw18338587435076840110 tw18410467092475431299 tw1847774865377648387 tw1870966729341309168 tw1941906726383075408 tw1967242083112154043 tw1973649232076976398 tw1985962233433477024 tw2113238027740072407 tw2236576345583098893 tw2303735784688990563 tw230977352613305117 tw2343303000394453177 tw2361033377772392383 tw2366844509682804908 tw2449281511574029150 tw2514954203490770794 tw2545909690022920819 tw2569355623428246042 tw2738253194950237565 tw2746697609124252938 tw2762589216240854900 tw2788168525406709301 tw2895787911269089316 tw2948323002832688730 tw2960835278271826712 tw2971061150669467836 tw3098492704085101717 tw3192856096014000586 tw3274883036287530623 tw3390974047288197054 tw3397045428355360463 tw3446602482138730778 tw3501365893858068042 tw3571946210626055673 tw3699296091847688193 tw3715305264643509862 tw3867184205107468006 tw3876506471958755365 tw3943620469682830052 tw3997562250412535559 tw4025869528919436054 tw4026212281903536242 tw4091651424142949763 tw4157198400375683675 tw4304261498702861079 tw4350418927681153650 tw4379982457900828221 tw4430221201499339361 tw4465955003296936405 tw4483219878349743798 tw4541439375847159374 tw4575558685899959210 tw4607623020960201186 tw4691197616994864580 tw4714079479924279923 tw4744857263348393686 tw4845141372689441594 tw4953755567000811163 tw4997215489480566041 tw5011111439848023232 tw503316575447532968 tw5069559465566554313 tw5188003537649971778 tw5224946636933546179 tw5232800414625012628 tw5265554918906482270 tw5290340678260284041 tw5809987907042959200 tw5839592919361188120 tw5969079814248085192 tw6016555574481392646 tw6027159346999042181 tw6122668999844428319 tw6132055638383355007 tw6192624231407738290 tw6215356235563765446 tw6221035850725501149 tw6259416576919461229 tw6308201377310905487 tw6318532615160433085 tw6417924001304448141 tw6432951936002590184 tw6537834289964793433 tw6610096888705118222 tw661678194044421839 tw6638391405767780164 tw6687148713010890697 tw6700951500470453334 tw6780376825086944527 tw6784414945953984491 tw6798840512462910985 tw6880423357709001185 tw6881162080223034688 tw6894833762055520414 tw6914358308683733997 tw6952139250236375427 tw6975086644015696561 tw7006126060901918847 tw7015301997642795471 tw7030749138460921516 tw7045846682370856087 tw714016519120292477 tw7176236046318890481 tw7218125573601822594 tw725279587079518658 tw7280741723933541164 tw7362650665842285160 tw7375199391417413617 tw7422767065475242766 tw7471145472397489502 tw751258292275037235 tw7536423382345217001 tw7588183126645927437 tw7648233203951160007 tw7662744980729754471 tw7736789903747882351 tw7769574153416191926 tw7783026996689297906 tw782260032981523855 tw7872860035142164383 tw7915981902218324315 tw8008327756184707053 tw8016411370361248807 tw8099551904850660218 tw8123019869669329259 tw8158447734940071242 tw8191697100470493116 tw8255182216354843556 tw8270769276544696926 tw8292782182631304336 tw8299193856500441225 tw8348623553442429188 tw8379281844675287522 tw8397424455249079305 tw8402030543924553038 tw8501411902491459337 tw8502257993347618644 tw8504742511440031091 tw869767323002541158 tw8707743350405271663 tw8749597453932359098 tw8850460534790948189 tw893657775227844561 tw8948118279562158138 tw8988095701429093674 tw9329226304896978218 tw9368400713559392577 tw9447864180776666153 tw9467245968387275310 tw9506903847818187119 tw9578640531495860812 tw9697465170259635181 tw9734191633419044533 tw9798975412752510595 tw9880141758817458395 tw9895958650671477426 tw995115296466665384 tw9966504333487418461 tw9990239989747043447:True)
set_option maxRecDepth 100000 in
set_option maxHeartbeats 0 in
theorem PySem.Challenge.cw_seamwright_k67_whole_bars_by_worths_holds : PySem.Challenge.rw_seamwright_k67_whole_bars_by_worths.Holds := by
 w_on; o_law; k_head; (case hw=>w_witness2)
 k_fill
 refine' K67.walk (l:=PySem.Challenge.rw_seamwright_k67_whole_bars_by_worths) rfl rfl (fun w h Y=>PySem.W.km_in_of Y) (fun _=>by kernel_rfl) ?T ?S ?Dif ?R ?U ?F
 case T=>
  intro p;refine' L2.DZ ?a ?l ?c ?m ?v
  (case a=>k_is)
  (case l=>k_is)
  (case c=>rfl)
  (case m=>k_is)
  (case v=>rfl)
 case S=>
  intro p;refine' L2.DZ ?a ?l ?c ?m ?v
  (case a=>k_is)
  (case l=>k_is)
  (case c=>rfl)
  (case m=>k_is)
  (case v=>rfl)
 case Dif=>decide
 case R=>decide +kernel
 case U=>decide +kernel
 case F=>
  intro w mg fa h KX G iA;refine' K67.Qh KX G iA ?_ ?_ ?_ ?_ ?_ ?_ ?_ ?_ ?_ ?_ ?_ ?_ ?_ ?_ ?_ ?_ ?_ ?_ ?_ ?_ ?_ ?_ ?_ ?_ ?_ ?_ ?_ ?_ ?_ ?_ ?_ ?_ ?_ ?_ ?_ ?_ ?_ ?_ ?_ ?_ ?_ ?_ ?_ ?_ ?_ ?_ ?_ ?_ ?_ ?_ ?_ ?_ ?_ ?_ ?_ ?_ ?_ ?_ ?_ ?_ ?_ ?_ ?_
  all_goals try first | (refine' L2.DZ ?a ?l ?c ?m ?v; (case a=>k_is); (case l=>k_is); (case c=>rfl); (case m=>k_is); (case v=>rfl)) | refine' L2.C1 ?_ ?_ ?_ ?_ | refine' L2.Nn.mk ?_ | refine' K67.Qg ?_
  all_goals try first | k_is | kit_is | k_exc
#print axioms PySem.Challenge.cw_seamwright_k67_whole_bars_by_worths_holds
end
