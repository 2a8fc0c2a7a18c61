import PyProof.Rows.All
import Wide.All
import OpenK.AllK
import Wide.FinOn
import Lean
import PyProof.EqAt
import PyProof.EqKinds
import PyProof.TupleCall
import PyProof.StationsW
import PyProof.ExcClass3
import OpenK.KOwn
import PyProof.ExcArgsOwn
import KE.KListMore
import KE.KIntText
import KE.KEqDat
import PyProof.MinMaxWalk
import PyProof.SumAny
import PyProof.Rows.SortRuns
import KE.KSortKey
import PyProof.Rows.CallKwBuiltin
import PySem.SetTable
import PyProof.Rows.SetFrom
import PyProof.TupleKey
import PyProof.IsRules
import KE.KRevIter
import PyProof.ListRange
import PyProof.TupleOfGen
import PyProof.CollectIter
import KE.KDictLaws
import PyProof.DictWalks
import PyProof.SetNew
import PyProof.DictCopy
import PyProof.FactsAll.dict_1
import PyProof.FactsAll.set_2
import PyProof.FactsAll.subtypes_5
import PyProof.AttrMissHeap
import PyProof.DictItems
import KE.KDictList
import KE.KDictSum
import PyProof.Rows.Range3
import KE.KStateDown
import PyProof.DictFindH
import PyProof.NeKinds
import PyProof.ZipIter
import PySem.Challenge.RW_seamwright_k36_whole_balance_by_holes
set_option linter.all false
set_option tactic.hygienic false
set_option compiler.extract_closed false
set_option bootstrap.genMatcherCode false
set_option autoImplicit true
set_option Elab.async false
set_option maxRecDepth 100000
set_option maxHeartbeats 4000000
open Array renaming size->ip,push->jL,toList->nh,map->nR,length_toList->nS,size_map->oR,getElem?_toList->oS,getElem?_eq_getElem->wj,getElem?_map->yF,size_push->Ff,size_extract->Fg,getElem?_eq_some_iff->Fh,getElem?_eq_none->Fi,setIfInBounds->LL,getD_eq_getD_getElem?->LM,forIn_toList->LN,toList_map->aly,replicate->alz,perm_iff_toList_perm->al0,getElem?_append_left->al1,getD->al2,ext_getElem?->al3
open Bool renaming true->ap,false->aH,false_eq_true->fh,false_ne_true->fQ,and_eq_true->lb,not_true->wg,eq_iff_iff->wh,and_false->Bd,and_self->Fe,true_and->LK,false_and->Ur,eq_false_iff->Us,or_eq_true->alu,not_false->alv,not_eq_true'->alw,and_true->alx
open Classical renaming byContradiction->iH,choose->pO,choose_spec->LJ,not_imp->als,not_forall->alt
open Decidable renaming decide->aJ
open Eq renaming trans->du,symm->dA
open False renaming elim->i'
open ForIn renaming forIn->Bb
open ForInStep renaming yield->ut,done->Fd
open Function renaming comp->qK,comp_def->alr
open Iff renaming mpr->k_
open Int renaming natAbs->az,toNat->dK,mul_zero->fE,natAbs_mul->gm,mul_assoc->jk,mul_comm->jw,mul_add->jK,zero_mul->kZ,neg_mul->mF,one_mul->nQ,le_refl->pN,natAbs_add_le->qJ,toNat_natCast->sz,emod_nonneg->sA,emod_lt_of_pos->sC,add_zero->sD,mul_one->ur,mul_left_comm->we,mul_eq_zero->wf,zero_add->yD,le_of_lt->yE,sub_mul->A_,mul_ne_zero->Ba,natAbs_neg->LB,natAbs_ediv_le_natAbs->LC,natAbs_dvd_natAbs->LD,mul_sub->LF,mul_nonneg->LG,emod_add_mul_ediv->LI,mul_nonpos_of_nonneg_of_nonpos->Um,le_trans->Un,ediv_nonneg->Uo,dvd_zero->Up,add_mul->Uq,toNat_of_nonneg->alf,ne_of_lt->alh,natAbs_eq_zero->ali,mul_right_comm->alj,mul_neg->alk,le_of_dvd->alm,le_antisymm->aln,fdiv_eq_ediv_of_nonneg->alo,eq_one_of_dvd_one->alp,add_comm->alq
open LawfulBEq renaming eq_of_beq->Ul
open List renaming length->ah,map->al,length_map->aA,range->aP,mem_map->aW,getElem?_eq_getElem->bu,mem_range->bH,getElem?_map->ca,mem_cons->ci,getD_eq_getElem?_getD->co,map_append->cH,size_toArray->dk,Nodup->dz,map_map->dC,toArray->dG,take->dH,length_cons->dI,mem_of_getElem?->dL,getElem?_eq_some_iff->dN,getElem_mem->dW,length_append->eE,take_of_length_le->eF,replicate->eL,zipWith->fe,mem_filter->ff,map_cons->fg,getD->fn,mem_cons_self->fy,mem_append->fz,length_take->gf,mem_cons_of_mem->gF,mem_singleton->gW,length_range->gX,filter->ib,set->io,mem_append_right->iF,getElem_map->iG,map_congr_left->iZ,length_zipWith->i_,eq_nil_of_length_eq_zero->jv,sum->jV,getElem_of_mem->jW,getElem?_range->jX,pairwise_map->kC,nodup_cons->kD,headD->kE,pairwise_cons->kU,mem_append_left->kW,ext_getElem->kX,all->kY,length_drop->lX,all_eq_true->lY,nodup_append->mB,mem_flatMap->mC,getElem_range->mD,flatMap->mE,foldl->nO,filter_append->nP,range_succ->oM,lookup_cons->oN,getElem_zipWith->oO,getElem?_eq_none->oP,flatten->oQ,sum_cons->pJ,nodup_nil->pK,drop->pL,any->pM,replicate_succ->qG,mem_of_mem_take->qH,mem_iff_getElem?->qI,of_mem_zip->rU,mem_iff_getElem->rV,lookup->rX,length_replicate->rY,length_filter_le->rZ,getElem?_append_right->r_,getElem?_append_left->sf,foldl_cons->sj,find?_cons->sn,filter_cons_of_neg->sw,append_nil->sy,pairwise_iff_getElem->ui,not_mem_nil->uj,map_drop->uk,length_zip->ul,foldl_append->um,filter_cons_of_pos->uo,Pairwise->uq,nodup_range->vZ,mem_of_mem_drop->v_,length_nil->wa,getElem_inj->wc,take_append_drop->yx,take_add_one->yy,getElem?_zipWith->yz,forIn_cons->yA,flatten_cons->yB,Perm->yC,map_nil->AT,getElem?_of_mem->AU,forIn_nil->AV,flatMap_cons->AW,filter_cons->AX,drop_eq_getElem_cons->AY,map_take->EY,map_fst_zip->EZ,getElem?_replicate->E_,filter_eq_nil_iff->Fa,filterMap_cons->Fb,all_map->Fc,zipIdx_nil->Lb,zipIdx_cons->Lc,sum_append->Ld,pairwise_append->Le,mem_replicate->Lf,mem_or_eq_of_mem_set->Lg,mem_filterMap->Lh,map_inj_right->Lj,length_set->Lk,length_eq_zero_iff->Ll,isEmpty->Lm,getLastD->Ln,getElem?_zip_eq_some->Lo,getElem?_set->Lp,getElem?_eq_none_iff->Lq,getElem?_drop->Lr,filter_nil->Ls,eq_nil_iff_forall_not_mem->Lt,drop_zero->Lu,contains->Lv,any_eq_true->Lw,any_eq_false->Lx,any_cons->Ly,zip_cons_cons->TQ,reverse_cons->TR,perm_ext_iff_of_nodup->TS,pairwise_lt_range->TT,nodup_iff_pairwise_ne->TV,map_snd_zip->TW,map_replicate->TX,map_id'->TY,length_singleton->TZ,getElem?_toArray->T_,getElem?_take_of_lt->Ua,getElem?_cons_zero->Ub,getElem?_cons_succ->Uc,filter_congr->Ud,filterMap->Ue,drop_eq_nil_of_le->Uf,cons_ne_nil->Ug,append_assoc->Uh,any_map->Ui,take_sublist->akj,sublist_nil->akk,sublist_map_iff->akl,perm_append_singleton->akm,pairwise_flatMap->akn,nil_sublist->ako,mem_map_of_mem->akp,map_set->akq,map_eq_nil_iff->akr,length_zipIdx->aks,length_pos_of_mem->akt,getLastD_eq_getLast?->aku,getElem_set->akv,getElem_cons_drop->akw,getElem_append_right->akx,getElem_append_left->aky,getElem?_zipIdx->akz,getElem?_set_self->ak0,getElem?_set_ne->ak1,getElem?_inj->ak2,find?_eq_none->ak3,filterMap_cons_some->ak4,filterMap_cons_none->ak5,filterMap_append->ak6,ext_getElem?->ak7,drop_sublist->ak8,drop_nil->ak9,drop_length->ala,dropLast_concat_getLast->alb,countP_cons->alc
open List.Mem renaming tail->dJ,head->eu
open List.Nodup renaming length_le_of_subset->AZ
open List.Pairwise renaming nil->wd,imp_of_mem->LA,map->ale,filterMap->anz
open List.Perm renaming refl->Uj,eq_of_pairwise->Uk
open List.Sublist renaming length_le->Lz,refl->ald,slnil->anx
open List.range renaming loop->AR
open Min renaming min->dy
open Nat renaming le_refl->aE,le_trans->aL,zero_le->cJ,ne_of_lt->cP,mul_le_mul_right->eC,mul_le_mul_left->eD,lt_of_lt_of_le->fm,lt_of_le_of_lt->fH,mul_assoc->ge,pow_le_pow_right->iD,mul_le_mul->iE,le_add_right->iY,one_le_two_pow->jh,lt_or_ge->ji,ne_of_gt->jJ,mul_comm->kB,mul_add->my,add_mul->mz,pow_succ->ng,lt_trichotomy->nN,mul_one->oI,lt_irrefl->oJ,le_of_lt->oK,le_of_eq->pI,pow_le_pow_left->qD,not_lt_zero->qE,lt_succ_of_lt->qF,lt_succ_iff->rS,le_mul_of_pos_left->rT,lt_trans->uh,zero_add->vV,pow_add->vW,eq_zero_or_pos->vX,add_le_add_left->vY,sub_self->yq,strongRecOn->yr,pow_lt_pow_right->yt,min_self->yu,min_le_right->yv,le_mul_of_pos_right->yw,succ_pos->AO,min_eq_left->AQ,sub_zero->EU,pow_mul->EV,le_succ_of_le->EW,le_succ->EX,pow_zero->KR,pow_pos->KS,mul_pos->KT,mul_left_comm->KU,mod_lt->KV,lt_or_gt_of_ne->KW,le_total->KY,le_of_mul_le_mul_left->KZ,le_of_dvd->K_,add_comm->K',add_assoc->La,one_mul->TH,min_le_left->TJ,min_eq_right->TK,lt_succ_self->TL,lt_or_eq_of_le->TM,log2_lt->TN,le_of_not_lt->TP,reduceAdd->aka,pow_succ'->akb,log2_self_le->akc,le_of_mul_le_mul_right->akd,le_antisymm->ake,add_zero->akf,add_sub_cancel_left->akg,add_sub_cancel->akh,add_le_add->aki
open Nat.succ renaming inj->aj9
open Ne renaming symm->cQ
open Option renaming some->aa,none->ac,getD->fw,map->ju,map_eq_some_iff->ue,isSome->uf,getD_some->ug,map_some->vU,isNone->AN,isSome_map->aj4,isNone_some->aj5,isNone_none->aj6,getD_none->aj7,bind_some->aj8
open Option.some renaming inj->cX,injEq->ud
open Or renaming inl->av,inr->aU
open Prod renaming snd->oH,fst->rR,mk->ahl
open Pure renaming pure->cq
open PyProof renaming noPylong_of_log2->ajr
open PyProof.Rows renaming arrOf->bN,seqObj->df,SortSt->eH,Keyed->eK,wpS_bind->gl,IntsAre->ia,wpS_pure->jI,IsTup->lW,pendingOf->mx,wpS->nM,envOfC->oG,mirror->pH,SortKind->qC,callWith_type1->ua,AllBare->uc,slot_tuple_getitem->yp,wpS_get->AJ,wpS_forRange->AK,listUpdate_at->AL,Call_->AM,size_push'->EN,setArr->EO,reverseSlice'->EP,ltAt'->EQ,get?_update_seq->ER,failedOf->ES,bubble->ET,wpS_mono->KG,wpS_modify->KH,subscriptTail->KI,sortRuns'->KJ,seqEpoch_at->KL,mirror_perm->KM,keyLt'->KN,Subscript_->KO,wpS_lift->Tu,slot_list_sort->Tv,setPending->Tw,plain_sorted->Tx,listItems_at->Tz,kind_sorted->TB,entry_sorted->TC,entry_list_sort->TD,boot_range->TE,subscriptTail_builtinR->ajt,lt_int->ajv,getElem?_mirror_all->ajw,getElem?_bubble->ajx,entry_tuple_getitem->ajz,args_tuple_getitem->aj0,callWith_builtin1->anw
open PyProof.Rows.F renaming plain_set_update_loop->TG,entry_set_update_loop->aj2
open PyProof.Rows.IsTup renaming new->TF
open PyProof.Rows.LSm renaming kept_iter->KQ
open PyProof.Rows.SortSt renaming mk'->KP
open PySem renaming Addr->ab,Value->ae,wpAny_bind->ao,Shared->ax,Str->aB,wpAny->aF,wpAny_pure->aO,model->aV,Heap->aX,World->ba,Program->bh,Obj->bq,sizeLine->bE,Expr->bG,Stmt->b_,FuncData->cm,Around->cC,Pos->dt,eval->dw,tupleKeyHash->d_,cLine->eJ,starEach->eR,IsPair->fG,bootBuiltins->gb,Paired->gD,IsTupleKey->gE,wpAny_field->hY,wpAny_holding->ik,Env->im,sliceBounds->iB,sizeLine_eq->iC,rawInt->iV,Tok->je,wpAny_seqItems->js,pyNext->jt,Scope->jH,IsZip->jU,wpAny_setField_rec->kw,compareOp->kx,codeAny->ky,call->kz,codeAny_builtin->kR,Sem->kS,wpAny_mono->lN,mainGlobals->mq,wpAny_call_entry->mY,tupleKind->nG,plainId_quiet->nH,field->nI,SetTable->nJ,PyData->nK,wpAny_letGo->oC,sysModules->oD,binaryOp->oE,backTo->oF,wpAny_rule->pD,wpAny_newObj_type->pE,wpAny_callSpecial?_slot->pF,getItem->qw,NameKind->qy,DictEntry->qB,wpAny_of_eq->rI,wpAny_attempt->rJ,valueAt->rK,pyIter->rL,argBest->rM,IsPart->rO,codeAny_mono->tR,call_meets->tS,atKey->tT,ZipApart->tU,KeyKind->tW,wpAny_updateSeq->vu,wpAny_truthy_bool->vx,wpAny_pyIter_list->vy,wpAny_onRaise->vz,setField->vA,mem_of_lookup->vB,hashByValue->vC,bindL->vD,bindC->vE,Result->vK,wpAny_typeOf->x_,wpAny_passesOwn->ya,wpAny_Call_Name_kw->yd,updateSeq->ye,callerA->yf,behindInMarks->yg,assign->yh,Walks->yi,Keyword->yj,Draws->ym,CmpOp->yo,wpAny_updateSeq_pair->Al,wpAny_tryCatch->Am,wpAny_setState_of->An,wpAny_pyIter_zip->Ao,wpAny_nextOf_list_item->Ap,wpAny_newTuple->Aq,sliceRange->Ar,newExc->As,foldedSetIterable->At,assignEach->Au,Fin->AF,BindsTo->AI,wpAny_setField->Ei,wpAny_newList->Ej,wpAny_ite_split->Ek,wpAny_dictEpoch->El,wpAny_dictEntries->Em,wants->En,tupleKind_room_in1->Eo,swapsWith->Ep,subscripted->Er,storedH->Es,setRelay->Et,intKind->Eu,holding->Ev,compEnvC->Ew,ItemsAre->EI,wpAny_typeNameOfWhole_keyiter->JL,wpAny_typeNameOfWhole_itemiter->JM,wpAny_specialOf->JN,wpAny_nextOf_list_end->JO,wpAny_isSame_ref_self->JP,wpAny_isInstance->JQ,wpAny_forIn_list->JR,wpAny_fieldsOf->JS,wpAny_execs_nil->JT,wpAny_eqBool_tuple->JU,wpAny_call->JV,typeLookup_type->JW,typeLookup->JX,typeIs_str->JY,preSum->JZ,operate->J_,isTrue->J',isSubtype_stop->Ka,intText?->Kb,codeAny_of_tree->Kc,call_meetsIn->Kd,builtinLookup_eq_fast->Ke,attributeBase->Kf,Params->Kn,ItemsOf->Kp,IsRangeIter->Kq,GenState->Kt,wpAny_throw->RZ,wpAny_standAt->R_,wpAny_pyIter_tuple->Sa,wpAny_pyIter_keyiter->Sb,wpAny_isOneOf_itemiter->Sc,wpAny_handled->Sd,wpAny_Name->Se,typeIs_int->Sg,strValues->Sh,slot_list_getitem->Si,setSearchFrom->Sj,seq_tuple_add->Sk,seqIndex_of->Sm,seqIndex_neg->Sn,raiseNew->So,ofAClassStatement->Sp,noFill_tuple_add->Sq,newTuple->Sr,letOwnedTupleGo->Ss,keywordEach->Su,firstArgMember->Sv,concat_meets->Sw,checkCount->Sx,checkBuiltinCall->Sy,cellsFrom->Sz,carriedByValue->SA,callType_new->SB,builtinsNs->SE,bindArgs->SF,backToKw->SG,wpAny_storeSet_of->ahj,wpAny_sequenceKey->ahk,wpAny_pyNext_range_end->ahm,wpAny_pyIter_rangeiter->ahn,wpAny_pyIter_range->aho,wpAny_pyIter_enum->ahp,wpAny_notOrdered_dict->ahq,wpAny_isTrue_Compare1->ahr,wpAny_isOneOf_keyiter->ahs,wpAny_getItem_list_slice->aht,wpAny_execs_cons->ahu,wpAny_eqIsQuiet_tuple->ahv,wpAny_assign_Name->ahw,wpAny_Dict_empty->ahx,weight_type_call_type->ahy,searchCouldBeSeen->ahz,getattributeRaised->ah4,entryFor_of_tree->ah6,codeAny_call_builtin->ah8,Within->aib
open PySem.Around renaming under_plainId->mw,under_plain->ajq
open PySem.AutoSeq1 renaming list_insert_list_int_val_1->anv
open PySem.Builtin.Builtins renaming bindParams->anu
open PySem.Builtin.Dict renaming updateCommon->ajn,showsAll->ajo,pairItems->ajp,updateFrom->anq,selfAndRest->anr,dictSlotNone->ans,addKeywords->ant
open PySem.Builtin.Dict_items renaming ownsTuple->KF,pairFromOwner->ajl,ownedTupleIsFree->ajm
open PySem.Builtin.Frozenset renaming updateFrom->ano,newClass->anp
open PySem.Builtin.List renaming listExtendWith->EM,listTooLong->Ts,listFitsIndex->Tt,listSameRef->aji,listLengthHint->ajj,listItems->ajk,listUpdate->ann
open PySem.Builtin.Range renaming rangeSize->ajh
open PySem.Builtin.Slice renaming slicePlaces->KE,sliceAdjust->Tr,sliceApplied->ajg,slicePartIndex->anl,sliceFields->anm
open PySem.Builtin.SmallTypes renaming nextOf->lV,ownedTupleIsFree->vT,ownedTupleHandOut->KD
open PySem.Builtin.Str renaming occurrences->Tq
open PySem.Builtin.Tuple renaming tupleItemsOf->ajf,tupleIsExact->ani,tupleExact->anj,tupleCompareSizes->ank
open PySem.Calls renaming spliced_cons->KC,spliced_nil->To,callWith_builtin->Tp,evalArgs_plain->ajc,call_function_entry->ajd,Name_function_global->aje
open PySem.CmpOp renaming In->AH,NotIn->EL
open PySem.Code renaming builtin->t_,quiet_builtin->ajb
open PySem.Data renaming seq->cB,fields->eS,set->jg,dict->lU,cell->yn
open PySem.DictEntry renaming key->pG,refKey->Tn
open PySem.Draws renaming list->Tl
open PySem.EqMixed renaming ne_str_int->am9,ne_str_bool->ana,ne_int_str->anb,ne_bool_str->anc,eq_str_int->ane,eq_str_bool->anf,eq_int_str->ang,eq_bool_str->anh
open PySem.EqNone renaming ne_str_none->amv,ne_none_str->amw,ne_none_none->amx,ne_none_int->amy,ne_none_bool->amz,ne_int_none->am0,ne_bool_none->am1,eq_str_none->am2,eq_none_str->am3,eq_none_none->am4,eq_none_int->am5,eq_none_bool->am6,eq_int_none->am7,eq_bool_none->am8
open PySem.Expr renaming Name->gj,Call->kA,ListComp->rQ,Tuple->tX,Subscript->tY,BoolOp->tZ,Slice->EK,Compare->KB,Constant->Tj,Attribute->Tk
open PySem.F renaming slot_zip_next->vO,plain_max_loop->vP,plain_extend_loop->vQ,plainAttrs_list->vR,called_set->vS,slot_list_append->yl,type_list_append->AG,slot_dict_keyiterator_next->EJ,slot_tuple_iterator_next->Ku,slot_str_split->Kv,slot_dict_itemiterator_next->Kw,entry_zip_next->Kx,entry_max_loop->Ky,entry_extend_loop->Kz,args_zip_next_1->KA,typeCall_zip_2->SW,slot_tuple_add->SX,slot_list_getattribute->SY,slot_dict_get->SZ,plainAttrs_dict->S_,newCall_zip_2->Ta,entry_zip_new->Tc,entry_tuple_add->Td,entry_str_split->Te,called_zip->Tf,args_tuple_add_2->Tg,args_str_split_2->Th,args_object_init_3->Ti,slot_list_insert->aiu,slot_list_count->aiv,slot_int_rmul->aiw,slot_dict_values->aix,slot_dict_setdefault->aiy,slot_dict_iter->aiz,plain_set_new->ai0,plain_list_iadd->ai1,entry_type_call->ai2,entry_tuple_iterator_next->ai3,entry_dict_keyiterator_next->ai4,entry_dict_itemiterator_next->ai5,entry_dict_get->ai6,args_tuple_iterator_next_1->ai7,args_dict_keyiterator_next_1->ai8,args_dict_itemiterator_next_1->ai9,args_dict_get_3->aja
open PySem.Flow renaming ret->iX
open PySem.Heap renaming get?_push_of_some->bQ,lt_size->cG,get?_push_size->eB,get?->fk,push->gA,objs->il,SameBut->jf,update->qz,get?_update_self->qA,get?_update_other->rP,size_push->vL,get?_push_at->vM,size_update->yk,get?_push_ne->AD,get?_update_ne->Kr,IsList->SU,ExtBut->SV,IsTuple->ais
open PySem.Heap.DictOf renaming new->amu
open PySem.Heap.IsList renaming extBut->AE,push->amt
open PySem.Heap.IsListIter renaming extBut->vN
open PySem.Heap.IsSliceOf renaming new->ait
open PySem.Heap.IsTuple renaming push->ams
open PySem.Heap.SameBut renaming update->mv,refl->Ks
open PySem.IsRange renaming new->air
open PySem.NameKind renaming free->dF,cell->eG
open PySem.Obj renaming mapSeq->cY,data_mapFields->Ko,putSet->SS,mapFields->aio,isFreed_of_fields->aip,cls_mapFields->aiq
open PySem.Paired renaming nil->cg,cons->cA,length->m_,snoc->EH
open PySem.PassesOwn renaming never->iW
open PySem.PyData renaming list->qx,int->rN,tuple->EG
open PySem.ScopeKind renaming function->kT
open PySem.SeqAt renaming shaped->AC,EqAt->Km,noMix->ail
open PySem.SeqAt.EqAt renaming int_int->SR,str_int->aim,int_str->ain
open PySem.SeqAt.RcNeAt renaming lists_lengths->amc,lists->amd
open PySem.SetTable renaming runEnd->gC,insertAt->gU,below->h_,fresh->lO,bits->lS,turns->mZ,leap->tV,grown->EC,Probe->EE,sizeAbove->Kj,probe->aij,fill->aik
open PySem.SetTable.Met renaming empty->EF,candidate->Kl
open PySem.SetTable.Probe renaming dummy->ED
open PySem.SetTable.Slot renaming live->vJ,empty->AA,dummy->Kk
open PySem.SetTable.below renaming go->Az
open PySem.SetTable.layClean renaming free->EB
open PySem.SetTable.probe renaming go->vI
open PySem.Shared renaming TypeIs->Ay,heap->EA
open PySem.Spec renaming same_self->aii
open PySem.Stmt renaming Assign->Ez,FunctionDef->SQ
open PySem.Str renaming ofString->mu
open PySem.Txt renaming split->Ey
open PySem.Value renaming ref->aj,type->aG,int->br,none->cD,builtin->e_,bool->fc,str->vG,ellipsis->vH,isInt->Ki,isStrOf->aig,isInt_shape->aih
open PySem.W renaming Frag->aT,fnOf->vF,mg_of->Aw,OpenLaw->Ax,keepIn->Ex,codeIn->Kg,nsIn->SI,methodObj->SJ,lookIn->SK,kdl_call->SM,instObj->SN,WalkO->SO,KdlSrc->SP,plainGet->aid,kdl_dict->aie,cellsFrom_some->aif
open PySem.W.KIN renaming call_text->amb
open PySem.W.WData renaming int->Kh
open PySem.Walks renaming list->Av,range->aic
open PySem.argBest renaming eq_2->SH,eq_1->aia
open Sum renaming inl->bF,inr->oB
open Sum.inl renaming inj->RY
open True renaming intro->xZ
open PySem PySem.Spec PyProof.Rows PySem.W
def O{α:Sort _}{a:α}:a=a:=rfl
def ar:=@if_neg
def aw:=@if_pos
def bo:=@absurd
def cN:=@decide_eq_true
def dD:=@decide_eq_false
def dX:=@if_false
def fA:=@if_true
def gP:=@of_decide_eq_true
def jx:=@decide_eq_true_eq
def jy:=@congrArg
def oT:=@of_decide_eq_false
def oU:=@getElem?_pos
def sE:=@or_false
def δ{p:Prop}(h:p:=by decide +kernel):p:=h
def ω{p:Prop}(h:p:=by omega):p:=h
def ß{a:Nat}:a≤a:=Nat.le_refl _
def Ā{x a b:Int}{p q:Nat}(e:x=a+b)(h:b.natAbs<=p)(k:x.natAbs<=q):a.natAbs<=q+p:=by rw[show a=x-b by omega];exact Nat.le_trans (Int.natAbs_sub_le ..) (Nat.add_le_add k h)
def Ă{a b c:Nat}(h:b+c<=a):((a-b-c:Nat):Int)=a-b-c:=by omega
def à:=@Nat.le_trans
def â{a p q:Nat}(h:a≤p)(k:p.ble q=true:=by rfl):a≤q:=Nat.le_trans h (Nat.le_of_ble_eq_true k)
def ã{a p q:Nat}(h:q≤a)(k:p.ble q=true:=by rfl):p≤a:=Nat.le_trans (Nat.le_of_ble_eq_true k) h
def ä{p q:Nat}(k:p.ble q=true:=by rfl):p≤q:=Nat.le_of_ble_eq_true k
def å:=@Nat.le_of_eq
def æ{a b:Nat}(h:a=b):b≤a:=Nat.le_of_eq h.symm
def è{a b c:Nat}(h:a+c≤b):a≤b:=Nat.le_of_add_right_le h
def ê{a b c:Nat}(h:a+c<b):a<b:=Nat.lt_of_le_of_lt (Nat.le_add_right _ _) h
def ì:=@Nat.le_of_lt
def í{a b c:Nat}(h:a≤b):a≤b+c:=Nat.le_add_right_of_le h
def î{a b c:Nat}(h:a≤b):a≤c+b:=Nat.le_trans h (Nat.le_add_left _ _)
def ï:=@Nat.succ_le_succ
def ð{a b c:Nat}(h:a≤b):a+c≤b+c:=Nat.add_le_add_right h c
def ñ{a b c:Nat}(h:a≤b):c+a≤c+b:=Nat.add_le_add_left h c
def ò:=@Nat.le_of_succ_le_succ
def ó{a b:Nat}(h:¬a≤b):b<a:=Nat.lt_of_not_le h
def ô{a b:Nat}(h:¬a<b):b≤a:=Nat.le_of_not_lt h
def õ:=@Nat.ne_of_lt
def ö{a b:Nat}(h:b<a):a≠b:=Nat.ne_of_gt h
def ø{a b:Nat}(h:b<a):¬a≤b:=Nat.not_le_of_gt h
def ù{a b:Nat}(h:b≤a):¬a<b:=Nat.not_lt_of_le h
def ú{a:Nat}:0≤a:=Nat.zero_le _
def û:=@Nat.le_antisymm
def ü{a c:Nat}:a≤a+c:=Nat.le_add_right _ _
def ý{a c:Nat}:a≤c+a:=Nat.le_add_left _ _
def þ:=@Nat.lt_of_le_of_ne
def ÿ{a b:Nat}(h:a≤b)(k:b≠a):a<b:=Nat.lt_of_le_of_ne h fun z=>k z.symm
def ξ{p:Prop}(h:p:=by decide):p:=h
abbrev Ω:=PySem.Value->PySem.Shared->Prop
abbrev Ζ:=List Int
abbrev Ξ:=List (List Int)
abbrev Ψ:=List (PySem.Addr×PySem.Obj)
local macro_rules|`($s⁻¹)=>`(($s).heap.objs.size)
open scoped BitVec
set_option hygiene false
local macro_rules|`(5#$x)=>`(by simpa using $x)|`(6#$x)=>`(.ref $x)|`(0#0)=>`(by simp)|`(7#$x)=>`(ai $x)|`(1#0)=>`((O,O,O,δ,O,δ,δ))|`(8#$x)=>`(A pss $x)|`(2#0)=>`(λ_ _=>O)|`(3#0)=>`(aV X.prog X.w)|`(4#0)=>`(aV prog w)|`(9#$x)=>`(bR a h $x)
section
local macro_rules|`(tactic|show $e)=>`(tactic|refine $e)|`(tactic|calc $e:term)=>`(tactic|refine ao<|$e)|`(tactic|cases $h:ident:$t)=>`(tactic|by_cases $h:ident:$t)|`(tactic|erw[$[$e:term],*]$[$l]?)=>`(tactic|simp only[$[$e:term],*]$[$l]?)|`(tactic|ext $[$x:ident]*)=>`(tactic|unfold $[$x]*)|`(#v[$[$e],*])=>`(by rw[$[$e:term],*])|`(%[$[$e],*|$x])=>`(by rw[$[$e:term],*];exact $x)|`(tactic|lk)=>`(tactic|omega)|`(tactic|k_ne)=>`(tactic|dsimp only)|`(tactic|k_in)=>`(tactic|constructor)|`(command|def $d:declId $s:optDeclSig $v:declVal)=>`(command|noncomputable def $d:declId $s:optDeclSig $v:declVal)|`(command|abbrev $d:declId $s:optDeclSig $v:declVal)=>`(command|noncomputable abbrev $d:declId $s:optDeclSig $v:declVal)
local macro_rules|`(tactic|let $d:letDecl)=>`(tactic|have $d:letDecl)
local macro_rules|`(tactic|let ($a:ident,$[$b:ident],*):=$e)=>`(tactic|obtain ⟨$a:ident,$[$b:ident],*⟩:=$e)
local macro_rules|`(tactic|omega)=>`(tactic|first|lia|omega (config:={}))
local macro_rules|`(($a,$b,$c,*))=>`(⟨$a,$b,$c,*⟩)|`(($a,$b))=>`(⟨$a,$b⟩)
abbrev bi:=Sum Int aB
def wU:bi->ae->Bool
 |.inl k,v=>Ki k v
 |.inr x,v=>aig x v
def Ys(w:ba):bi->Int
 |.inl k=>hashInt k
 |.inr x=>hashStr w x
def qb:∀{a:bi}{b:ae},wU a b=ap->(∃i t,a=bF i/\b=br i t)\/(∃c t,a=oB c/\b=vG c t)
 |.inl i,b,h=>by
  let(t,e):=aih (k:=i) (v:=b) h;show .inl (i,t,O,e)
 |.inr c,b,h=>by
  let(t,e):=Value.isStrOf_shape (x:=c) (v:=b) h;show .inr (c,t,O,e)
def Yr(i:Int)(t:je):wU (.inl i) (.int i t)=ap:=by simp[wU,Ki]
def Yq(x:aB)(t:je):wU (.inr x) (.str x t)=ap:=by simp[wU,aig]
def Yo(a b:Int):aJ ((bF a:bi)=bF b)=(a==b):=by
 cases e:a=b;subst e;simp;let h:¬(bF a:bi)=bF b:=λq=>e<|RY q;rw[dD h];show(beq_eq_false_iff_ne.mpr e).symm
def Yl(a b:aB):aJ ((oB a:bi)=oB b)=aJ (a=b):=by
 cases e:a=b;subst e;simp;let h:¬(oB a:bi)=oB b:=λq=>e<|Sum.inr.inj q;rw[dD h,dD e]
def Yn(a:Int)(b:aB):aJ ((bF a:bi)=oB b)=aH:=dD (λq=>nomatch q)
def Ym(a:aB)(b:Int):aJ ((oB a:bi)=bF b)=aH:=dD (λq=>nomatch q)
def gh(c:bh)(w:ba):tW c w bi where
 is:=wU
 hash:=Ys w
 inj:=λv a b g f=>by
  obtain⟨i,t,rfl,rfl⟩|⟨x,t,rfl,rfl⟩:=qb g;obtain⟨j,u,rfl,e⟩|⟨y,u,rfl,e⟩:=qb f;injection e with e1 _;rw[e1]
  show nomatch e;obtain⟨j,u,rfl,e⟩|⟨y,u,rfl,e⟩:=qb f;show nomatch e;injection e with e1 _;rw[e1]
 byValue:=λk v h=>by
  obtain⟨i,t,rfl,rfl⟩|⟨x,t,rfl,rfl⟩:=qb h<;>rfl
 pyHash:=λd h=>by
  obtain⟨i,t,rfl,rfl⟩|⟨x,t,rfl,rfl⟩:=qb d;show wpAny_pyHash_int h;show wpAny_pyHash_str h
 eqBool:=λl d h=>by
  obtain⟨i,t,rfl,rfl⟩|⟨x,t,rfl,rfl⟩:=qb l;obtain⟨j,u,rfl,rfl⟩|⟨y,u,rfl,rfl⟩:=qb d;rw[Yo] at h;show wpAny_eqBool_int h;rw[Yn] at h;show ain i t y u _ _ _ _ h;obtain⟨j,u,rfl,rfl⟩|⟨y,u,rfl,rfl⟩:=qb d;rw[Ym] at h;show aim x t j u _ _ _ _ h;rw[Yl] at h;show wpAny_eqBool_str h
 «strs»:=λk x t v h=>by
  obtain⟨i,u,rfl,e⟩|⟨y,u,rfl,e⟩:=qb h;show nomatch e;injection e with e1 _
  subst e1;cases v<;>rfl
def GF(a:bh)(w:ba)(i:Int)(t:je):(gh a w).is (.inl i) (.int i t)=ap:=Yr i t
def Yf(a:bh)(w:ba)(x:aB)(t:je):(gh a w).is (.inr x) (.str x t)=ap:=Yq x t
inductive ak where
 |non|c (b:Bool)|int (i:Int)|str (x:aB)|byt (b:Array UInt8)|flt (b:UInt64)|ref (a:ab)|d (n:String)
 deriving DecidableEq
def cF:ak->ae->Prop
 |.non,u=>u=cD
 |.c b,u=>u=fc b
 |.int i,u=>∃t,u=br i t
 |.str x,u=>∃t,u=vG x t
 |.byt b,u=>∃t,u=Value.bytes b t
 |.flt b,u=>∃t,u=Value.float b t
 |.ref a,u=>u=aj a
 |.d n,u=>u=aG n
abbrev cv:List ak->List ae->Prop:=gD cF
def cv.length(r:cv a b):a.length=b.length:=m_ r
def cv.q:∀{a:List ak}{b:List ae}{i:Nat}{x:ak},cv a b->a[i]?=aa x->∃u,b[i]?=aa u/\cF x u
 |_,_,_,_,.nil,e=>by simp at e
 |_,_,0,_,.cons r _,e=>by simp at e;subst e;show(_,O,r)
 |_,_,i+1,x,.cons _ t,e=>by
  let(u,c,d):=cv.q (i:=i) (x:=x) t 5#e;show(u,by simpa using c,d)
def cv.set(r:cF x u):∀{a:List ak}{b:List ae}(i:Nat),cv a b->cv (a.set i x) (b.set i u)
 |_,_,_,.nil=>.nil
 |_,_,0,.cons _ t=>.cons r t
 |_,_,i+1,.cons q t=>.cons q (cv.set r i t)
def cv.F(h:cv a c)(g:cv b d):cv (a++b) (c++d):=by
 induction h with
 |nil=>show g
 |cons r _ e=>show .cons r e
def cv.A0:∀{a:List ak}{b:List ae}(n:Nat),cv a b->cv (a.take n) (b.take n)
 |_,_,0,_=>.nil
 |_,_,_+1,.nil=>.nil
 |_,_,n+1,.cons r t=>.cons r (cv.A0 n t)
def cv.J:∀{a:List ak}{b:List ae}(n:Nat),cv a b->cv (a.drop n) (b.drop n)
 |_,_,0,r=>r
 |_,_,_+1,.nil=>.nil
 |_,_,n+1,.cons _ t=>cv.J n t
def re:Option ak->Option ae->Prop
 |some v,aa u=>cF v u
 |none,ac=>True
 |_,_=>False
def kh{a:Type}:List (a×ak)->List (a×ae)->Prop:=gD λ(p:a×ak)(q:a×ae)=>p.1=q.1/\cF p.2 q.2
def dT:bi->ak
 |.inl i=>.int i
 |.inr x=>.str x
inductive eX where
 |lst (xs:List ak)
 |tup (xs:List ak)
 |a (kvs:List (bi×ak))|b (kvs:List (List bi×ak))
 |set (S:Int->Bool) (n:Nat)
 |ins (C dx:ab) (fs:List (aB×ak))
 |own (x:ab)
 |c (fs:List (aB×ak))
 |met (f x:ab)
 |rng (lo hi:Int)
 |frz (o:bq) (u:eX)
 |tbl (ps:Array ae)
 |ext (φ:aX->Prop)
abbrev ag:=ab->Option eX
def aN(H:ag)(a:ab)(o:eX):ag:=λb=>if b=a then aa o else H b
def aI:aN H a o a=aa o:=by ext aN;rw[aw O]
def bI{a b:ab}(h:b≠a):aN H a o b=H b:=by ext aN;rw[ar h]
def md{H:ag}(h:H a=aa o)(c:H b=aa u)(d:o≠u):a≠b:=by
 intro e;subst e;rw[h] at c;show d<|cX c
def dn{H:ag}(h:H a=aa o)(c:H b=ac):a≠b:=by
 intro e;subst e;rw[h] at c;cases c
section
variable(P:bh)(w:ba)
def eW(H:ag)(h:aX)(a:ab):eX->Prop
 |.lst d=>d.length<=bE/\∃(b:List ae)(n:Nat),cv d b/\h.get? a=aa {cls:=.type "list",data:=.seq b.toArray n}
 |.tup d=>d.length<=bE/\∃b:List ae,cv d b/\lW h a b.toArray
 |.a c=>c.length<=bE/\(a==oD)=aH/\∃k,kh c k/\h.DictOf (gh P w) a k
 |.b c=>c.length<=bE/\(a==oD)=aH/\∃d:List (List bi×ab×ae),
   gD (λ(p:List bi×ak)(q:List bi×ab×ae)=>p.1=q.1/\H q.2.1=aa (.tup<|p.1.map dT)/\cF p.2 q.2.2) c d/\
   ∃o l s,h.get? a=aa o/\o.ExactDict/\o.data=.dict l s/\l.toList=d.map (entryOfKey<|nG<|gh P w)/\(d.map (·.1)).Nodup
 |.set S n=>h.SetOf (Eu P w) a S n
 |.ins C i g=>H i=aa (.own a)/\g.length<=1000/\i≠a/\h.get? a=aa (SN C i)/\
   ∃e,h.Ns1 i e/\(∀f,re (g.lookup f) (e f))/\aib e (g.map (·.1))
 |.own _=>∃o,h.get? a=aa o
 |.c g=>∃e,h.Ns1 a e/\∀f,re (g.lookup f) (e f)
 |.rng y z=>∃t u v,h.get? a=aa {cls:=.type "range",data:=.fields #[.int y t,.int z u,.int 1 v]}
 |.frz o u=>h.get? a=aa o/\eW H h a u
 |.tbl A=>h.get? a=aa {cls:=.none,data:=.fields A}
 |.met f x=>h.get? a=aa (SJ 6#f<|.ref x)
 |.ext j=>j h/\(∃o,h.get? a=aa o)/\∀m r:aX,j m->(∀o,m.get? a=aa o->r.get? a=aa o)->j r
def ie(H:ag)(h:aX):Prop:=∀a o,H a=aa o->eW P w H h a o
end
section
variable{P:bh}{w:ba}{H H':ag}{h h':aX}{a:ab}{o:eX}
def eW.J(x:eW P w H h a o):a<h.objs.size:=by
 cases o with
 |lst c=>let(ϟ,ϟ,ϟ,ϟ,e):=x;show cG e
 |tup c=>let(ϟ,ϟ,ϟ,p):=x;show p.lt
 |a b=>obtain⟨_,_,_,_,o,_,_,e,_⟩:=x;show cG e
 |b b=>obtain⟨_,_,_,_,o,_,_,e,_⟩:=x;show cG e
 |set S n=>let(o,ϟ,ϟ,ϟ,e,ϟ):=x;show cG e
 |ins C g d=>let(ϟ,ϟ,ϟ,e,ϟ):=x;show cG e
 |own y=>let(ϟ,e):=x;show cG e
 |c d=>obtain⟨_,⟨_,_,_,e,_⟩,_⟩:=x;show cG e
 |rng i j=>let(ϟ,ϟ,ϟ,e):=x;show cG e
 |frz k u=>let(e,ϟ):=x;show cG e
 |tbl l=>show cG<|show h.get? a=aa _ from x
 |met f y=>show cG<|show h.get? a=aa _ from x
 |ext m=>obtain⟨_,⟨_,e⟩,_⟩:=x;show cG e
def lw{e g:Type}{F G:e->g->Prop}{c:List e}{d:List g}(h:gD F c d)(f:∀a b,F a b->G a b):gD G c d:=by
 induction h with
 |nil=>show .nil
 |cons r _ i=>show .cons (f _ _ r) i
def eW.F(x:eW P w H h a o)(k:∀b u,(b=a\/H b=aa (.own a))->h.get? b=aa u->h'.get? b=aa u)(G:∀b,H b=aa (.own a)->H' b=aa (.own a))(I:∀b m,H b=aa (.tup m)->H' b=aa (.tup m)):eW P w H' h' a o:=by
 induction o with
 |lst m=>let(z,l,n,r,e):=x;show(z,l,n,r,k _ _ (.inl O) e)
 |tup m=>let(z,l,r,g,e,c):=x;show(z,l,r,g,k _ _ (.inl O) e,c)
 |a s=>let(z,y,K,r,g,i,j,e,c):=x;show(z,y,K,r,g,i,j,k _ _ (.inl O) e,c)
 |b s=>
  let(z,y,m,r,g,i,j,e,c):=x;show(z,y,m,lw r λp q z=>(z.1,I _ _ z.2.1,z.2.2),g,i,j,k _ _ (.inl O) e,c)
 |set S n=>let(g,i,j,t,e,c):=x;show(g,i,j,t,k _ _ (.inl O) e,c)
 |ins C R L=>
  obtain⟨d,z,M,e,A,⟨B,i,j,N,c⟩,r⟩:=x;show(G _ d,z,M,k _ _ (.inl O) e,A,(B,i,j,k _ _ (.inr d) N,c),r)
 |own y=>let(g,e):=x;show(g,k _ _ (.inl O) e)
 |c L=>obtain⟨A,⟨B,i,j,e,c⟩,r⟩:=x;show(A,(B,i,j,k _ _ (.inl O) e,c),r)
 |rng T U=>let(t,u,v,e):=x;show(t,u,v,k _ _ (.inl O) e)
 |frz g u Q=>let(e,q):=x;show(k _ _ (.inl O) e,Q q)
 |tbl D=>
  let e:h.get? a=aa {cls:=.none,data:=.fields D}:=x;change h'.get? a=aa {cls:=.none,data:=.fields D};show k a _ (.inl O) e
 |met f y=>
  let e:h.get? a=aa (SJ 6#f<|.ref y):=x;change h'.get? a=aa (SJ 6#f<|.ref y);show k a _ (.inl O) e
 |ext V=>obtain⟨p,⟨o,e⟩,E⟩:=x;show(E _ _ p λo q=>k _ _ (.inl O) q,(o,k _ _ (.inl O) e),E)
def ie.lt(x:ie P w H h)(e:H a=aa o):a<h.objs.size:=(x a o e).J
def ie.q(x:ie P w H h)(e:h.objs.size<=a):H a=ac:=by
 cases q:H a with
 |none=>rfl
 |some u=>show bo (fm (x.lt q) e)<|oJ _
def ie.F(x:ie P w H h)(k:∀b u,h.get? b=aa u->h'.get? b=aa u):ie P w H h':=λa o e=>
 (x a o e).F (λb u _ q=>k b u q) (λ_ q=>q) λ_ _ q=>q
def ie.J(x:ie P w H h)(k:∀b u,h.get? b=aa u->h'.get? b=aa u)(i:h.objs.size<=a)(d:eW P w (aN H a o) h' a o):ie P w (aN H a o) h':=λb u e=>by
 let f:=x.q i;cases g:b=a;subst g;rw[aI] at e;cases e;show d;rw[bI g] at e;show(x b u e).F (λc v _ q=>k c v q) (λc q=>%[bI<|dn q f|q]) λc j q=>%[bI<|dn q f|q]
end
def lv(H:ag)(a:ab)(u:eX):Prop:=H a=aa u\/∃o,H a=aa (.frz o u)
def lv.q(r:lv H a u)(x:ie P w H h):eW P w H h a u:=by
 obtain r|⟨o,r⟩:=r;show x a u r;let(ϟ,q):=x a _ r;show q
def zC:Option eX->Prop
 |some (.lst _)=>True
 |some (.a _)=>True
 |some (.b _)=>True
 |some (.set _ _)=>True
 |some (.ins _ _ _)=>True
 |some (.ext _)=>True
 |_=>False
section
variable{P:bh}{w:ba}{H:ag}{h h':aX}{x e:ab}{o':eX}
def ie.A0(s:ie P w H h)(g:zC (H x))(o:e=x\/H e=aa (.own x))(k:∀b u,b≠e->h.get? b=aa u->h'.get? b=aa u)(m:∃u,h'.get? e=aa u)(n:eW P w (aN H x o') h' x o'):ie P w (aN H x o') h':=λb u q=>by
 let d:∀c y,H c=aa (.own y)->c≠x:=λc y r z=>by subst z;rw[r] at g;show g
 let f:∀c i,H c=aa (.tup i)->c≠x:=λc i r z=>by subst z;rw[r] at g;show g
 cases j:b=x;subst j;rw[aI] at q;cases q;show n;rw[bI j] at q;cases a:b=e;let p:H b=aa (.own x):=by
  obtain z|z:=o;show bo (a.trans z) j;rw[a];show z
 rw[q] at p;cases p;let(v,t):=m;show(v,%[a|t]);show(s b u q).F (λc v l r=>k c v ?_ r) (λc r=>%[bI<|d c b r|r]) λc i r=>%[bI<|f c i r|r]
 obtain rfl|l:=l;show a;rintro rfl;obtain z|z:=o;show d c b l z;rw[l] at z;cases z;show j O
end
structure pg(fs ex:List ab)(H H':ag)(h h':aX):Prop where
 c:∀b o,h.get? b=aa o->H b=ac->b∉fs->b∉ex->h'.get? b=aa o
 d:∀b o,h.get? b=aa o->H b=ac->b∈fs->b∉ex->∃sl,h'.get? b=aa {o with slots:=sl}
 a:∀b o,h.get? b=aa o->H b=ac->b∉ex->H' b=ac
 e:∀b o,h.get? b=aa o->b∉ex->∃o',h'.get? b=aa o'
 i:∀b xs,H b=aa (.tup xs)->H' b=aa (.tup xs)
 f:∀b o u,H b=aa (.frz o u)->H' b=aa (.frz o u)
 g:∀b ps,H b=aa (.tbl ps)->∃more,H' b=aa (.tbl<|ps++more)
section
variable{fs fs' ex ex':List ab}{H H1 H2:ag}{h h1 h2 h':aX}{a x e:ab}{o:eX}
def pg.F(u:pg fs ex H H1 h h1){a:bq}(q:h.get? b=aa a)(n:H b=ac)(c:b∉ex):∃e,h1.get? b=aa {a with slots:=e}:=by
 cases d:b∈fs;show u.d b a q n d c;show(a.slots,u.c b a q n d c)
def pg.q(k:∀b u,h.get? b=aa u->h'.get? b=aa u):pg fs ex H H h h':=
 (λb a q _ _ _=>k b a q,λb a q _ _ _=>(a.slots,k b a q),λ_ _ _ n _=>n,λb a q _=>(a,k b a q),λ_ _ q=>q,λ_ _ _ q=>q,λ_ c q=>(#[],by rw[q];simp))
def pg.refl:pg fs ex H H h h:=pg.q λ_ _ q=>q
def pg.J(k:∀b u,h.get? b=aa u->h'.get? b=aa u)(d:h.objs.size<=a)(c:H a=ac):pg fs ex H (aN H a o) h h' where
 c:=λb u q _ _ _=>k b u q
 d:=λb u q _ _ _=>(u.slots,k b u q)
 a:=λb u q n _=>%[bI<|cP<|fm (cG q) d|n]
 e:=λb u q _=>(u,k b u q)
 i:=λb e q=>%[bI<|dn q c|q]
 f:=λb u e q=>%[bI<|dn q c|q]
 g:=λb f q=>(#[],by rw[bI<|dn q c,q];simp)
def pg.A0(c:zC (H x))(j:e=x\/H e=aa (.own x))(k:∀b u,b≠e->h.get? b=aa u->h'.get? b=aa u)(d:∃u,h'.get? e=aa u):pg fs ex H (aN H x o) h h':=by
 let g:∀b,H b=ac->b≠x:=λb n z=>by subst z;rw[n] at c;show c
 let i:∀b,H b=ac->b≠e:=λb n z=>by
  subst z;obtain r|r:=j;show g b n r;rw[n] at r;cases r
 let f:∀b u,H b=aa u->¬zC (aa u)->b≠x:=λb u q l z=>by subst z;rw[q] at c;show l c
 show(λb u q n _ _=>k b u (i b n) q,λb u q n _ _=>(u.slots,k b u (i b n) q),λb u q n _=>%[bI<|g b n|n],λb u q _=>?_,
  λb m q=>%[bI<|f b _ q λz=>z|q],λb u m q=>%[bI<|f b _ q λz=>z|q],λb p q=>(#[],by rw[bI<|f b _ q λz=>z,q];simp))
 cases a:b=e;subst a;show d;show(u,k b u a q)
end
def BK(h:aX)(H:ag):List ab:=(aP h.objs.size).filter λa=>(H a).isSome
def qZ(h:aX)(H:ag):aX:=PySem.W.hideAll h<|BK h H
def YK(h:aX)(H:ag):(qZ h H).objs.size=h.objs.size:=PySem.W.hideAll_size _ _
def YL{h:aX}{H:ag}(e:h.get? b=aa o)(n:H b=ac):(qZ h H).get? b=aa o:=
 PySem.W.hideAll_get _ e λa=>by
  let q:(H b).isSome=ap:=(ff.mp a).2;rw[n] at q;simp at q
def XY(e:(qZ h H).get? b=aa o):h.get? b=aa o/\H b=ac:=by
 let a:h.get? b=aa o:=PySem.W.of_hideAll (BK h H) e;show(a,?_);cases q:H b with
 |none=>rfl
 |some x=>
  let c:b∈BK h H:=ff.mpr (bH.mpr<|cG a,by simp[q]);let z:(qZ h H).get? b=ac:=PySem.W.hideAll_none (BK h H) c;rw[z] at e;cases e
structure CI(K:aT)(mg:aB->Option ae)(base:aX):Prop where
 a:K.In base
 b:base.Ns mq mg
 d:∃mb,base.Ns SE mb/\∀x:aB,x≠"__name__"->mb x=gb x
 c:base.NoLimit
structure bj where
 prog:bh
 w:ba
 K:aT
 b:aB->Option ae
 d:aX
 A:cC
 N:List aB
 e:ax
 j:ag
 env:im
 outer:List im
 f:List im
 g:List ab
 i:aB->Bool
 c:Bool
 h:Ψ
 a:Ω
def mO(l:List im):List ab:=l.filterMap (·.frame)
abbrev bj.q(X:bj):List ab:=mO X.outer
def Cy(a:jH)(x:aB):Prop:=a.names.lookup x=aa .local\/a.names.lookup x=aa .cell\/a.names.lookup x=aa .free
def xg(a:jH)(x:aB):Prop:=a.names.lookup x=aa .local\/a.names.lookup x=aa .cell
def Zx(a:im)(h:aX)(m:aB->Option ae)(x:aB)(u:ae):Prop:=
 (a.kindOf x=aa .local/\m x=aa u)\/((a.kindOf x=aa .cell\/a.kindOf x=aa .free)/\∃c,a.cells.lookup x=aa c/\h.IsCell c (aa u))
structure bj.F(X:bj):Prop where
 e:CI X.K X.b X.d
 d:X.env.scope.kind=.function
 l:X.env.globals=mq
 s:X.env.builtins=SE
 f:X.e⁻¹<=X.env.locals
 r:∀x y c,X.env.cells.lookup x=aa c->X.env.cells.lookup y=aa c->x=y
 has:∀x,(X.env.kindOf x=aa .cell\/X.env.kindOf x=aa .free)->∃c,X.env.cells.lookup x=aa c
 k:∀x c,X.i x=ap->X.env.cells.lookup x=aa c->X.e⁻¹<=c
 a:X.c=ap->X.A.handled=ac
 q:X.A.frames=aa X.f
 p:X.f=X.outer\/(X.f=X.env::X.outer/\X.env.frame=aa X.env.locals)
 t:∀b∈X.g,b≠X.env.locals/\∀x c,X.env.cells.lookup x=aa c->c≠b
 g:∀b o,X.d.get? b=aa o->X.e.heap.get? b=aa o/\X.j b=ac
 i:X.d.objs.size<=X.e⁻¹
 j:∀b o,X.d.get? b=aa o->b∉X.g
 n:∀b∈X.g,b∉X.q
 h:X.e.heap.FunFrames X.d X.outer
 m:∀b∈X.q,X.j b=ac
structure aK(X:bj)(pins:Ψ)(σ:List (Option ak))(H:ag)(s:ax):Prop where
 b:X.F
 l:s.os=X.e.os
 g:uc s.gens
 d:pg X.q X.g X.j H X.e.heap s.heap
 e:∃m,s.heap.Ns X.env.locals m/\∀(i:Nat)(x:aB)(v:ak),X.N[i]?=aa x->σ[i]?=aa (aa v)->Cy X.env.scope x->∃u,cF v u/\Zx X.env s.heap m x u
 j:∀x c,X.env.cells.lookup x=aa c->∃v,s.heap.IsCell c v
 h:H X.env.locals=ac
 k:∀x c,X.env.cells.lookup x=aa c->H c=ac
 f:∀p∈X.h++pins,s.heap.get? p.1=aa p.2/\H p.1=ac/\p.1≠X.env.locals/\p.1∉X.q/\∀v,p.2.data≠.cell v
 a:ie X.prog X.w H s.heap
 n:σ.length=X.N.length
section
variable{X:bj}{pins:Ψ}{σ:List (Option ak)}{H H':ag}{s:ax}{h':aX}
def bj.F.A0(a:X.F){b:ab}(e:X.d.get? b=aa o):b∉X.q:=λc=>by
 have:=(a.h.mem c).1;rw[e] at this;cases this
def aK.bs(I:aK X pins σ H s):∀b o,X.d.get? b=aa o->s.heap.get? b=aa o/\H b=ac:=λb o e=>
 (I.d.c b o (I.b.g b o e).1 (I.b.g b o e).2 (I.b.A0 e)<|I.b.j b o e,I.d.a b o (I.b.g b o e).1 (I.b.g b o e).2<|I.b.j b o e)
def aK.bk(I:aK X pins σ H s):∀b o,X.d.get? b=aa o->s.heap.get? b=aa o:=λb o e=>(I.bs b o e).1
def aK.B3(I:aK X pins σ H s):CI X.K X.b X.d:=I.b.e
def aK.A6(I:aK X pins σ H s):X.K.In s.heap:=I.b.e.a.keeps I.bk
def aK.lt(I:aK X pins σ H s):X.env.locals<s⁻¹:=let ⟨_,a,_⟩:=I.e;a.lt
def aK.sz(I:aK X pins σ H s):X.e⁻¹<=s⁻¹:=aL I.b.f<|oK I.lt
def aK.D9(I:aK X pins σ H s){a:ab}(h:s⁻¹<=a):a∉X.q:=λb=>by
 let(ϟ,o,c,ϟ):=I.b.h.mem b;show bo (fm (cG c)<|aL I.sz h)<|oJ _
def aK.C1(I:aK X pins σ H s):∀x c,X.env.cells.lookup x=aa c->c≠X.env.locals:=λx c e z=>by
 let(v,o,d,f):=I.j x c e;obtain⟨m,⟨g,h,i,a,b,_⟩,_⟩:=I.e;rw[z,a] at d;cases d;rw[b] at f;cases f
def aK.C6(I:aK X pins σ H s):s.heap.FunFrames X.d X.outer:=by
 let a:∀(l:List im),(∀b∈mO l,b∈X.q)->X.e.heap.FunFrames X.d l->s.heap.FunFrames X.d l:=by
  intro l;induction l with
  |nil=>intro _ _;trivial
  |cons h r i=>
   rintro g ⟨k,⟨L,o,c,m,n,p⟩,q⟩;let d:L∈X.q:=g L (by ext mO;rw[Fb,c];show fy);let(t,e):=I.d.d L o n (I.b.m L d) d λz=>I.b.n L z d;show(k,(L,_,c,m,e,p),i (λb f=>g b (by ext mO;rw[Fb,c];show gF _ f)) q)
 show a X.outer (λ_ f=>f) I.b.h
def aK.B8(I:aK X pins σ H s):s.heap.FunFrames X.d X.f:=by
 obtain e|⟨e,a⟩:=I.b.p;rw[e];show I.C6;rw[e];let(m,b,ϟ):=I.e;show .cons (by rw[I.b.d];decide) a b ?_ I.C6;show Heap.get?_none_of_le<|aL I.b.i I.b.f
def aK.A9(I:aK X pins σ H s):∀b∈mO X.f,b∈X.env.locals::X.q:=λb a=>by
 obtain e|⟨e,c⟩:=I.b.p;rw[e] at a;show gF _ a;rw[e] at a;unfold mO at a;rw[Fb,c] at a;show a
def aK.C8(I:aK X pins σ H s):∀b∈mO X.f,H b=ac:=λb a=>by
 obtain e|a:=ci.mp (I.A9 b a);rw[e];show I.h;let(ϟ,o,c,ϟ):=I.b.h.mem a;show I.d.a b o c (I.b.m b a) λz=>I.b.n b z a
def aK.step{t':Nat}{d':Drawn}{ch:List ab}(I:aK X pins σ H s)(g:∀b∈ch,(b∈X.g\/X.e⁻¹<=b)/\b≠X.env.locals/\(∀x c,X.env.cells.lookup x=aa c->c≠b)/\∀p∈X.h++pins,p.1≠b)(h:∀b o,b≠X.env.locals->b∉X.q->b∉ch->s.heap.get? b=aa o->H b=ac->h'.get? b=aa o)(A:∀b o,b≠X.env.locals->b∈X.q->b∉ch->s.heap.get? b=aa o->H b=ac->∃S,h'.get? b=aa {o with slots:=S})(f:∀b o,b∉ch->s.heap.get? b=aa o->H b=ac->H' b=ac)(C:∀b o,b∉ch->s.heap.get? b=aa o->∃G,h'.get? b=aa G)(K:∀b B,H b=aa (.tup B)->H' b=aa (.tup B))(L:∀b o u,H b=aa (.frz o u)->H' b=aa (.frz o u))(M:∀b R,H b=aa (.tbl R)->∃N,H' b=aa (.tbl<|R++N))(ns:∀m,s.heap.Ns X.env.locals m->h'.Ns X.env.locals m)(T:ie X.prog X.w H' h')(hg:uc g'):aK X pins σ H' {s with heap:=h',gens:=g',drawn:=d',toks:=t'}:=by
 let P:∀b o,X.e.heap.get? b=aa o->b≠X.env.locals:=λb o e=>cP<|fm (cG e) I.b.f;let w:∀b o,X.e.heap.get? b=aa o->b∉X.g->b∉ch:=λb o e a D=>by
  obtain z|z:=(g b D).1;show a z;show bo (fm (cG e) z)<|oJ _
 let j:∀x c,X.env.cells.lookup x=aa c->∀v,s.heap.IsCell c v->h'.IsCell c v:=λx c e v (o,E,U)=>by
  let t:c∉ch:=λz=>(g c z).2.2.1 x c e O;cases W:c∈X.q;let(S,q):=A c o (I.C1 x c e) W t E<|I.k x c e;show(_,q,U);show(o,h c o (I.C1 x c e) W t E<|I.k x c e,U)
 show(I.b,I.l,hg,(λb o e n D a=>?_,λb o e n D a=>?_,λb o e n a=>?_,λb o e a=>?_,λb B e=>K b B<|I.d.i b B e,λb o B e=>L b o B<|I.d.f b o B e,λb R e=>?_),?_,λx c e=>?_,?_,λx c e=>?_,λp Y=>?_,T,I.n);show h b o (P b o e) D (w b o e a) (I.d.c b o e n D a)<|I.d.a b o e n a;let(S,y):=I.d.d b o e n D a;let(V,Q):=A b _ (P b o e) D (w b o e a) y<|I.d.a b o e n a;show(V,Q);let(G,y):=I.d.e b o e a;show f b G (w b o e a) y<|I.d.a b o e n a;let(G,y):=I.d.e b o e a;show C b G (w b o e a) y;let(m1,y):=I.d.g b R e;let(m2,Q):=M b _ y;show(m1++m2,#v[Q,Array.append_assoc]);let(m,hn,hl):=I.e;show(m,ns m hn,λi x v y Q e3=>?_);let(u,r,l):=hl i x v y Q e3;show(u,r,?_);obtain l|⟨k,c,e,z⟩:=l;show .inl l;show .inr (k,c,e,j x c e _ z);let(v,z):=I.j x c e;show(v,j x c e v z);obtain⟨m,⟨o,_,_,E,_⟩,_⟩:=I.e;show f _ o (λz=>(g _ z).2.1 O) E I.h;let(v,o,E,U):=I.j x c e;show f c o (λz=>(g c z).2.2.1 x c e O) E<|I.k x c e;let(e,n,Z,nf,d):=I.f p Y;let t:p.1∉ch:=λz=>(g p.1 z).2.2.2 p Y O;show(h p.1 p.2 Z nf t e n,f p.1 p.2 t e n,Z,nf,d)
def aK.un{t':Nat}(I:aK X pins σ H s)(u:pg X.q [] H H' s.heap h')(c:ie X.prog X.w H' h'):aK X pins σ H' {s with heap:=h',toks:=t'}:=by
 obtain⟨m,⟨o,l,p,h,r⟩,_⟩:=id I.e;let(q,i):=u.F h I.h 0#0;show I.step (g':=s.gens) (d':=s.drawn) (ch:=[]) (λ_ z=>nomatch z) (λb o _ d _ e n=>u.c b o e n d 0#0) (λb o _ d _ e n=>u.d b o e n d 0#0) (λb o _ e n=>u.a b o e n 0#0) (λb o _ e=>u.e b o e 0#0) u.i u.f u.g (λt j=>by
  let(v,f,g,a,k):=j;rw[h] at a;cases a;show(_,f,g,i,k)) c I.g
def aK.D1{t':Nat}{d':Drawn}(I:aK X pins σ H s)(u:pg (mO X.f) ch H H' s.heap h')(g:ie X.prog X.w H' h')(l:uc g')(d:∀b∈ch,(b∈X.g\/X.e⁻¹<=b)/\b≠X.env.locals/\(∀x c,X.env.cells.lookup x=aa c->c≠b)/\∀p∈X.h++pins,p.1≠b):aK X pins σ H' {s with heap:=h',gens:=g',drawn:=d',toks:=t'}:=by
 obtain⟨m,⟨o,w,y,k,r⟩,_⟩:=id I.e;let(A,h):=u.F k I.h λz=>(d _ z).2.1 O;show I.step (ch:=ch) d (λb o h q a e n=>u.c b o e n (λz=>(ci.mp<|I.A9 b z).elim h q) a) (λb o _ _ a e n=>u.F e n a) (λb o a e n=>u.a b o e n a) (λb o a e=>u.e b o e a) u.i u.f u.g (λB t=>by
  let(C,i,j,f,v):=t;rw[k] at f;cases f;show(_,i,j,h,v)) g l
def aK.A1{t':Nat}{a:ab}(I:aK X pins σ H s)(k:∀b o,b≠a->s.heap.get? b=aa o->h'.get? b=aa o)(h:H a=ac)(g:a≠X.env.locals)(i:a∈X.g\/X.e⁻¹<=a)(j:∀x c,X.env.cells.lookup x=aa c->c≠a)(l:∀p∈X.h++pins,p.1≠a):aK X pins σ H {s with heap:=h',toks:=t'}:=by
 let f:∀b u,H b=aa u->b≠a:=λb u e z=>by rw[z,h] at e;cases e
 show I.step (g':=s.gens) (d':=s.drawn) (ch:=[a]) (λb t=>?_) (λb o _ _ d e _=>k b o (λz=>d (by simp[z])) e) (λb o _ _ d e _=>(o.slots,k b o (λz=>d (by simp[z])) e)) (λ_ _ _ _ n=>n)
  (λb o d e=>(o,k b o (λz=>d (by simp[z])) e)) (λ_ _ e=>e) (λ_ _ _ e=>e) (λb C e=>(#[],by rw[e];simp)) (λm w=>?_) (λb u e=>?_) I.g
 let e:b=a:=by simpa using t
 subst e;show(i,g,j,l);let(o,y,A,B,r):=w;show(o,y,A,k _ o (cQ g) B,r);show(I.a b u e).F (λc v d q=>k c v ?_ q) (λ_ q=>q) λ_ _ q=>q;obtain z|z:=d;rw[z];show f b u e;show f c _ z
def aK.A0(I:aK X pins σ H s)(t:Nat):aK X pins σ H {s with toks:=t}:=I.un (h':=s.heap) (t':=t) pg.refl I.a
def aK.F{t':Nat}(I:aK X pins σ H s)(k:∀b u,s.heap.get? b=aa u->h'.get? b=aa u):aK X pins σ H {s with heap:=h',toks:=t'}:=I.un (pg.q k)<|I.a.F k
def aK.J{a:ab}{t':Nat}(I:aK X pins σ H s)(k:∀b u,s.heap.get? b=aa u->h'.get? b=aa u)(c:s⁻¹<=a)(d:eW X.prog X.w (aN H a o) h' a o):aK X pins σ (aN H a o) {s with heap:=h',toks:=t'}:=I.un (pg.J k c<|I.a.q c)<|I.a.J k c d
def aK.C4{x e:ab}{g:Nat}(I:aK X pins σ H s)(d:zC (H x))(f:e=x\/H e=aa (.own x))(k:∀b u,b≠e->s.heap.get? b=aa u->h'.get? b=aa u)(a:∃u,h'.get? e=aa u)(c:eW X.prog X.w (aN H x o) h' x o):aK X pins σ (aN H x o) {s with heap:=h',toks:=g}:=I.un (pg.A0 d f k a)<|I.a.A0 d f k a c
def aK.D0{a:Ψ}(I:aK X pins σ H s)(h:∀p∈a,s.heap.get? p.1=aa p.2/\H p.1=ac/\p.1≠X.env.locals/\p.1∉X.q/\∀v,p.2.data≠.cell v):aK X a σ H s:=
 (I.b,I.l,I.g,I.d,I.e,I.j,I.h,I.k,λp b=>(fz.mp b).elim (λz=>I.f p<|kW _ z)<|h p,I.a,I.n)
def Os{N:List aB}(c:N.Nodup){i j:Nat}(a:N[i]?=aa x)(b:N[j]?=aa x):i=j:=by
 let(f,d):=dN.mp a;let(g,e):=dN.mp b;show(wc c).mp<|d.trans e.symm
def NA{A:cC}{i:Nat}{Q:Unit->ax->Prop}(I:aK X pins σ H s)(hN:X.N.Nodup)(R:X.N[i]?=aa x)(w:xg X.env.scope x)(r:cF v u)(h:∀s',aK X pins (σ.set i<|aa v) H s'->(∃a,jf a s.heap s'.heap/\(a=X.env.locals\/X.env.cells.lookup x=aa a))->Q () s')(hf:X.i x=ap\/X.env.scope.names.lookup x=aa .local:=by first|show .inl rfl|show .inr rfl|assumption):aF M A (storeName X.env x u) Q E s:=by
 let(m,hn,hl):=id I.e;let S:(X.env.scope.kind==.class|| (X.env.scope.kind==.module&&X.env.locals != X.env.globals))=aH:=by rw[I.b.d];rfl
 let D:i<σ.length:=%[I.n|(dN.mp R).1]
 let K:=I.C1;let g:∀{a:ab}{h':aX},(∃o,s.heap.get? a=aa o/\H a=ac)->jf a s.heap h'->ie X.prog X.w H h':=λ{a h'} ha f b ob e=>by
  let(ϟ,ϟ,B):=ha;show(I.a b ob e).F (λc Z t q=>(f.2 c ?_).trans q) (λ_ q=>q) λ_ _ q=>q;rintro rfl;obtain rfl|t:=t;rw[B] at e;cases e;rw[B] at t;cases t
 obtain G|G:=w;show wpAny_storeName_local G hn (λh' a0 f=>?_) S;let(oL,ϟ,ϟ,a1,ϟ):=id hn;show h _ (I.b,I.l,I.g,(λb o e n L w=>?_,λb o e n L w=>?_,I.d.a,λb o e w=>?_,I.d.i,I.d.f,I.d.g),(_,a0,λj y v' l C e3=>?_),λy c e=>?_,I.h,I.k,λp hp=>?_,g (oL,a1,I.h) f,by simpa using I.n) (_,f,.inl O);show(f.2 b<|cP<|fm (cG e) I.b.f).trans<|I.d.c b o e n L w;let(sl,l):=I.d.d b o e n L w;show(sl,(f.2 b<|cP<|fm (cG e) I.b.f).trans l);let(o',l):=I.d.e b o e w;show(o',(f.2 b<|cP<|fm (cG e) I.b.f).trans l);cases N:j=i;subst N;rw[R] at l;cases l;rw[ak0 D] at C;cases C;show(u,r,.inl (G,by simp));rw[ak1<|cQ N] at C;let(u',r',q):=hl j y v' l C e3;show(u',r',?_);obtain⟨k,e⟩|⟨k,c,e,z⟩:=q;show .inl (k,?_);have:y≠x:=λe=>N<|Os hN l<|e▸R;simp[this,e];show .inr (k,c,e,z.sameBut f<|K y c e);let(Z,z):=I.j y c e;show(Z,z.sameBut f<|K y c e);let(e,n,ne,nf,d):=I.f p hp;show((f.2 p.1 ne).trans e,n,ne,nf,d);let P:X.i x=ap:=by
  obtain z|z:=hf;show z;rw[z] at G;cases G
 let(c,t):=I.b.has x<|.inl G;let(Z,z):=I.j x c t;show wpAny_storeName_cell I.b.d G t z (λh' T f=>?_);let(oc,U,W):=id z;show h {s with heap:=h'} (I.b,I.l,I.g,(λb o e n L w=>?_,λb o e n L w=>?_,I.d.a,λb o e w=>?_,I.d.i,I.d.f,I.d.g),(m,hn.sameBut f<|cQ<|K x c t,λj y v' l C e3=>?_),λy c' e=>?_,I.h,I.k,λp hp=>?_,g (oc,U,I.k x c t) f,by simpa using I.n) (c,f,.inr t);show(f.2 b<|cP<|fm (cG e)<|I.b.k x c P t).trans<|I.d.c b o e n L w;let(sl,l):=I.d.d b o e n L w;show(sl,(f.2 b<|cP<|fm (cG e)<|I.b.k x c P t).trans l);let(o',l):=I.d.e b o e w;show(o',(f.2 b<|cP<|fm (cG e)<|I.b.k x c P t).trans l);cases N:j=i;subst N;rw[R] at l;cases l;rw[ak0 D] at C;cases C;show(u,r,.inr (.inl G,c,t,T));rw[ak1<|cQ N] at C;let(u',r',q):=hl j y v' l C e3;show(u',r',?_);obtain q|⟨k,c',e,z'⟩:=q;show .inl q;show .inr (k,c',e,z'.sameBut f ?_);rintro rfl;show N<|Os hN l<|I.b.r _ _ _ e t▸R;cases Y:c'=c;subst Y;show(_,T);let(w2,z2):=I.j y c' e;show(w2,z2.sameBut f Y);let(e,n,ne,nf,d):=I.f p hp;show((f.2 p.1 ?_).trans e,n,ne,nf,d);intro q;rw[q,U] at e;let q':oc=p.2:=cX e;show d Z (by rw[<-q'];show W)
def NB{A:cC}{i:Nat}{Q:Unit->ax->Prop}(I:aK X pins σ H s)(b:X.N.Nodup)(c:X.N[i]?=aa x)(d:xg X.env.scope x)(r:cF v u)(h:∀a,aK X pins (σ.set i<|aa v) H a->Q () a)(e:X.i x=ap\/X.env.scope.names.lookup x=aa .local:=by first|show .inl rfl|show .inr rfl|assumption):aF M A (storeName X.env x u) Q E s:=
 NA I b c d r (λa f _=>h a f) e
def aK.C0{s':ax}(I:aK X pins σ H s)(f:s'.os=s.os)(u:pg (mO X.f) ch H H' s.heap s'.heap)(a:ie X.prog X.w H' s'.heap)(g:uc s'.gens)(d:∀b∈ch,(b∈X.g\/X.e⁻¹<=b)/\b≠X.env.locals/\(∀x c,X.env.cells.lookup x=aa c->c≠b)/\∀p∈X.h++pins,p.1≠b):aK X pins σ H' s':=by
 let(h',g',d',t',h):=s';let e:h=s.os:=f;subst e;show I.D1 (g':=g') (t':=t') (d':=d') u a g d
end
abbrev cy:=ae->Option ab->ag->Prop
abbrev aY:=List<|Option ak
abbrev aR:=ak->ag->Prop
abbrev bp:=aY->ag->aR->Prop
abbrev fV:=aY->ag->(Bool->ag->Prop)->Prop
abbrev fN:=aY->ag->(List ak->ag->Prop)->Prop
structure nx where
 a:aY->ag->Prop
 d:aR
 c:aY->ag->Prop:=λ_ _=>False
 b:aY->ag->Prop:=λ_ _=>False
abbrev gJ:=nx->aY->ag->Prop
def jE(X:bj)(a:Ψ)(c:aY)(Q:aR)(u:ae)(d:ax):Prop:=∃v b,aK X a c b d/\cF v u/\Q v b
def GQ(X:bj)(a:Ψ)(d:aY)(Q:Bool->ag->Prop)(b:Bool)(e:ax):Prop:=∃c,aK X a d c e/\Q b c
def ZC(X:bj)(a:Ψ)(d:aY)(Q:List ak->ag->Prop)(e:List ae)(f:ax):Prop:=∃b c,aK X a d c f/\cv b e/\Q b c
def zA(X:bj)(b:Ψ)(D:nx)(f:Flow)(d:ax):Prop:=
 match f with
 |.next=>∃a c,aK X b a c d/\D.a a c
 |.brk=>∃a c,aK X b a c d/\D.c a c
 |.cont=>∃a c,aK X b a c d/\D.b a c
 |.ret u=>∃v a c,aK X b a c d/\cF v u/\D.d v c
def bY(X:bj)(e:bG)(t:bp):Prop:=
 ∀(a:Ψ)(s:ax)(b:aY)(H:ag)(Q:aR),aK X a b H s->t b H Q->aF 3#0 X.A (dw e X.env) (jE X a b Q) X.a s
def mf(X:bj)(e:bG)(t:fV):Prop:=
 ∀(a:Ψ)(s:ax)(b:aY)(H:ag)(Q:Bool->ag->Prop),aK X a b H s->t b H Q->aF 3#0 X.A (J' e X.env<|dw e X.env) (GQ X a b Q) X.a s
def uN(X:bj)(e:bG)(t:fV):Prop:=
 ∀(b:kS ae)(a:Ψ)(s:ax)(c:aY)(H:ag)(Q:Bool->ag->Prop),aK X a c H s->t c H Q->aF 3#0 X.A (J' e X.env b) (GQ X a c Q) X.a s
def uN.q{t:fV}(h:uN X e t):mf X e t:=h _
def jQ(X:bj)(d:List bG)(t:fN):Prop:=
 ∀(b:dt)(a:Ψ)(s:ax)(c:aY)(H:ag)(Q:List ak->ag->Prop),aK X a c H s->t c H Q->aF 3#0 X.A (spliced<|oF b<|eR d X.env) (ZC X a c Q) X.a s
def oq(X:bj)(c:b_)(t:gJ):Prop:=
 ∀(a:Ψ)(s:ax)(b:aY)(H:ag)(D:nx),aK X a b H s->t D b H->aF 3#0 X.A (exec c X.env) (zA X a D) X.a s
def lA(X:bj)(c:List b_)(t:gJ):Prop:=
 ∀(a:Ψ)(s:ax)(b:aY)(H:ag)(D:nx),aK X a b H s->t D b H->aF 3#0 X.A (execs c X.env) (zA X a D) X.a s
def bO{b:Type}{t:kS b}{Q c:b->ax->Prop}{M:Model}{A:cC}{E:Ω}{s:ax}(h:aF M A t Q E s)(d:∀a s,Q a s->c a s):aF M A t c E s:=lN h d λ_ _ x=>x
section
variable{X:bj}
inductive bZ(i:Nat)(σ:aY)(H:ag)(Q:aR):Prop
 |a:∀v,(σ[i]?=aa (aa v))->(Q v H)->bZ i σ H Q
def jM(v:ak):bp:=λ_ H Q=>Q v H
def XH{i:Nat}(o:X.N[i]?=aa x)(p:Cy X.env.scope x)(j:(x==("__debug__":aB))=aH:=by decide)(k:(x==("__classdict__":aB))=aH:=by decide):bY X (.Name x g) (bZ i):=by
 intro f s q H Q I h;let(v,e,h):=h;let(m,t,w):=I.e;let(u,r,l):=w i x v o e p;let b:jE X f q Q u s:=(v,H,I,r,h);obtain⟨d,y⟩|⟨d,c,n,a⟩:=l;show Se (wpAny_loadName_local I.b.d d t y b) j;obtain d|d:=d;show Se (wpAny_loadName_cell I.b.d d n a b) j;show Se (wpAny_loadName_free I.b.d d n a b k) j
def aS{i j a}:bY X (.Constant (.int i) j a) (jM<|.int i):=λ_ _ _ H _ I h=>wpAny_Constant_int (.int i,H,I.A0 _,(_,O),h)
def pe{b j a}:bY X (.Constant (.bool b) j a) (jM<|.c b):=λ_ _ _ H _ I h=>Constant_bool (.c b,H,I,O,h)
def jb{x j a}:bY X (.Constant (.str x) j a) (jM<|.str x):=λ_ _ _ H _ I h=>Calls.Constant_str (.str x,H,I.A0 _,(_,O),h)
def kj(X:bj)(x:aB):Prop:=X.env.kindOf x=aa .globalImplicit
def GH{Q:Ω}(I:aK X a c H s)(d:kj X x)(e:X.b x=aa u)(h:Q u s)(f:(x==("__debug__":aB))=aH:=by decide):aF 3#0 X.A (dw (.Name x b) X.env) Q E s:=
 aje I.b.d d (Calls.loadGlobal_global %[I.b.l|I.B3.b.keeps I.bk] e h) f
def of{Q:Ω}(I:aK X a c H s)(d:kj X x)(e:X.b x=ac)(f:gb x=aa u)(h:Q u s)(g:x≠"__name__":=by decide)(i:(x==("__debug__":aB))=aH:=by decide):aF 3#0 X.A (dw (.Name x b) X.env) Q E s:=by
 let(l,j,k):=I.B3.d;show aje I.b.d d (Calls.loadGlobal_builtin %[I.b.l|I.B3.b.keeps I.bk] e %[I.b.s|j.keeps I.bk] ((k x g).trans f) h) i
def zn(b:kj X x)(c:X.b x=aa u)(r:cF v u)(d:(x==("__debug__":aB))=aH:=by decide):bY X (.Name x a) (jM v):=
 λ_ _ _ H _ I h=>GH I b c (v,H,I,r,h) d
variable{a b:bG}{ta tb:bp}{pos:dt}
def Pl(X:bj)(g:yo)(a b:bG)(t:bp):Prop:=
 ∀(c:Ψ)(s:ax)(f:aY)(H:ag)(Q:aR),aK X c f H s->t f H Q->
  aF 3#0 X.A (dw a X.env) (λv d=>aF 3#0 X.A (dw b X.env) (λu e=>aF 3#0 X.A (kx g v u) (jE X c f Q) X.a e) X.a d) X.a s
def Ny(t:bp):fV:=λa H Q=>t a H λx b=>∃c,x=.c c/\Q c b
def XA{t:bp}(h:Pl X f a b t)(g:yg f b=aH:=by first|show X_ _ ξ ξ|rfl):mf X (.Compare a [f] [b] pos) (Ny t):=by
 intro e s i H Q I j;show ahr (bO (h e s i H _ I j) λv p g=>bO g λu r k=>bO k λc w (x,l,m,n,o)=>?_) g;let(d,rfl,q):=o;cases n;show vx (l,m,q)
def zk{t:bp}(h:bY X e t)(c:∀a,J' e X.env a=(do let v <-a;standAt e.pos;Ev [v] (truthy v)):=by intro _;rfl):mf X e (Ny t):=by
 intro b s f H Q I g;show isTrue_plain (bO (h b s f H _ I g) λv m (x,i,j,k,l)=>?_)<|c _;let(d,rfl,q):=l;cases k;show vx (i,j,q)
variable{tA tB':fV}{rest:List bG}
def Nz(t u:fV):fV:=λa H Q=>t a H λc b=>if c=ap then u a b Q else Q aH b
def Xd(t u:fV):fV:=λa H Q=>t a H λc b=>if c=ap then Q ap b else u a b Q
def Xe(t:fV):fV:=λa H Q=>t a H λc b=>Q (!c) b
def NZ(d:mf X a tA):uN X (.BoolOp .And [a] pos) tA:=by
 intro g b s f H Q I h;show isTrue_and<|bO (d b s f H Q I h) λc i e=>?_;cases c with
 |true=>show isTrue_and_nil e
 |false=>show e
def NX(d:mf X a tA):uN X (.BoolOp .Or [a] pos) tA:=by
 intro g b s f H Q I h;show isTrue_or<|bO (d b s f H Q I h) λc i e=>?_;cases c with
 |false=>show isTrue_or_nil e
 |true=>show e
def N_(j:mf X a tA)(k:uN X (.BoolOp .And (b::rest) pos) tB'):uN X (.BoolOp .And (a::b::rest) pos) (Nz tA tB'):=by
 intro l d s e H Q I h;show isTrue_and<|bO (j d s e H _ I h) λc m (f,g,i)=>?_;cases c with
 |true=>show k l d m e f Q g i
 |false=>show(f,g,i)
def NY(j:mf X a tA)(k:uN X (.BoolOp .Or (b::rest) pos) tB'):uN X (.BoolOp .Or (a::b::rest) pos) (Xd tA tB'):=by
 intro l d s e H Q I h;show isTrue_or<|bO (j d s e H _ I h) λc m (f,g,i)=>?_;cases c with
 |true=>show(f,g,i)
 |false=>show k l d m e f Q g i
def wJ(d:mf X a tA):mf X (.UnaryOp .Not a pos) (Xe tA):=by
 intro b s e H Q I h;show isTrue_not<|d b s e H (λc f=>Q (!c) f) I h
def Xs(ta tb:bp):bp:=λa H Q=>ta a H λx b=>∃c,x=.c c/\if c=ap then tb a b Q else Q (.c aH) b
def XJ{c}{t:bp}(h:bY X a t):bY X (.BoolOp c [a] pos) t:=λb s d H Q I e=>BoolOp_one<|h b s d H Q I e
def XP(j:bY X a ta)(k:bY X (.BoolOp .And (b::rest) pos) tb):bY X (.BoolOp .And (a::b::rest) pos) (Xs ta tb):=by
 intro d s f H Q I h;show BoolOp_and<|bO (j d s f H _ I h) λv l (x,g,i,m,e)=>?_;let(c,rfl,e):=e;cases m;show vx ?_;cases c with
 |true=>show k d l f g Q i e
 |false=>show(.c aH,g,i,O,e)
def Nv(t:fV)(ta tb:bp):bp:=λa H Q=>t a H λc b=>if c=ap then ta a b Q else tb a b Q
def zm(l:mf X c tA)(m:bY X a ta)(n:bY X b tb):bY X (.IfExp c a b pos) (Nv tA ta tb):=by
 intro e s f H Q I h;show wpAny_IfExp<|bO (l e s f H _ I h) λd g (i,j,k)=>?_;cases d with
 |true=>show m e g f i Q j k
 |false=>show n e g f i Q j k
end
def bJ(K:aT)(H:ag)(a:ab)(c:List ak):Prop:=
 lv H a (.lst c) \/
  ∃(o:bq)(b:Array ae)(n:Nat),K.lookup a=aa o/\o.cls=.type "list"/\o.dict=ac/\o.data=.seq b n/\b.size<=bE/\cv c b.toList
def gr(K:aT)(H:ag)(a:ab)(c:List ak):Prop:=
 lv H a (.tup c) \/
  ∃(o:bq)(b:Array ae)(n:Nat),K.lookup a=aa o/\o.cls=.type "tuple"/\o.data=.seq b n/\b.size<=bE/\cv c b.toList
def Zs:ae->Option ak
 |.none=>aa .non
 |.bool b=>aa (.c b)
 |.int i _=>aa (.int i)
 |.str x _=>aa (.str x)
 |.bytes b _=>aa (.byt b)
 |.float b _=>aa (.flt b)
 |.ref a=>aa 6#a
 |.type n=>aa (.d n)
 |_=>ac
def cF.q(r:cF x u):Zs u=aa x:=by
 cases x with
 |non=>cases r;rfl
 |c _=>cases r;rfl
 |int _=>let(t,rfl):=r;rfl
 |str _=>let(t,rfl):=r;rfl
 |byt _=>let(t,rfl):=r;rfl
 |flt _=>let(t,rfl):=r;rfl
 |ref _=>cases r;rfl
 |d _=>cases r;rfl
def cF.F(r:cF x u)(q:cF y u):x=y:=cX<|r.q.symm.trans q.q
def cv.A5(h:cv b c)(g:cv a c):b=a:=by
 induction h generalizing a with
 |nil=>cases g;rfl
 |cons r t d=>cases g with|cons e f=>rw[r.F e,d f]
section
variable{X:bj}{pins:Ψ}{σ:aY}{H:ag}{s:ax}{a:ab}{xs ys:List ak}
def bJ.q{K:aT}(h:H a=aa (.lst xs)):bJ K H a xs:=.inl<|.inl h
def gr.q{K:aT}(h:H a=aa (.tup xs)):gr K H a xs:=.inl<|.inl h
def aK.list(I:aK X pins σ H s)(h:bJ X.K H a xs):∃b:List ae,cv xs b/\PlainL s.heap a b.toArray/\xs.length<=bE:=by
 obtain h|⟨o,b,n,c,d,f,g,i,r⟩:=h;let(z,b,n,r,e):=h.q I.a;show(b,r,(_,n,e,O,O,O),z);show(b.toList,r,(o,n,I.A6 a o c,d,f,by simpa using g),?_);let e:=r.length;erw[nS] at e;show à (å e) i
def aK.q(I:aK X pins σ H s)(h:gr X.K H a xs):∃b:List ae,cv xs b/\lW s.heap a b.toArray/\xs.length<=bE:=by
 obtain h|⟨o,b,n,c,d,f,g,r⟩:=h;let(z,b,r,p):=h.q I.a;show(b,r,p,z);show(b.toList,r,(o,I.A6 a o c,d,n,by simpa using f),?_);let e:=r.length;erw[nS] at e;show à (å e) g
def aK.A3(I:aK X pins σ H s)(h:bJ X.K H a xs)(i:bJ X.K H a ys):xs=ys:=by
 obtain⟨c,r,⟨o,n,e,_,_,d⟩,_⟩:=I.list h;obtain⟨b,j,⟨k,l,f,_,_,g⟩,_⟩:=I.list i;rw[e] at f;cases f;rw[d] at g;injection g with d1 _
 have:c=b:=by simpa using jy nh d1
 subst this;show r.A5 j
def aK.A5(I:aK X pins σ H s)(h:gr X.K H a xs)(i:gr X.K H a ys):xs=ys:=by
 obtain⟨c,r,⟨o,e,_,n,d⟩,_⟩:=I.q h;obtain⟨b,j,⟨k,f,_,l,g⟩,_⟩:=I.q i;rw[e] at f;cases f;rw[d] at g;injection g with d1 _
 have:c=b:=by simpa using jy nh d1
 subst this;show r.A5 j
end
abbrev bj.J(X:bj)(E:Ω):bj:={X with a:=E}
abbrev bj.A0(X:bj):bj:=X.J λ_ _=>False
def bj.F.J{X:bj}(a:X.F)(E:Ω):(X.J E).F:=
 (a.e,a.d,a.l,a.s,a.f,a.r,a.has,a.k,a.a,a.q,a.p,a.t,a.g,a.i,a.j,a.n,a.h,a.m)
def bj.F.F{X:bj}(a:(X.J E).F):X.F:=
 (a.e,a.d,a.l,a.s,a.f,a.r,a.has,a.k,a.a,a.q,a.p,a.t,a.g,a.i,a.j,a.n,a.h,a.m)
section
variable{X:bj}{pins:Ψ}{σ:aY}{H:ag}{s:ax}{E:Ω}
def aK.D8(I:aK X pins σ H s)(E:Ω):aK (X.J E) pins σ H s:=(I.b.J E,I.l,I.g,I.d,I.e,I.j,I.h,I.k,I.f,I.a,I.n)
def aK.B5(I:aK (X.J E) pins σ H s):aK X pins σ H s:=(I.b.F,I.l,I.g,I.d,I.e,I.j,I.h,I.k,I.f,I.a,I.n)
def zA.q(h:zA (X.J E) pins D f c):zA X pins D f c:=by
 cases f with
 |next=>let(a,b,I,q):=h;show(a,b,I.B5,q)
 |brk=>let(a,b,I,q):=h;show(a,b,I.B5,q)
 |cont=>let(a,b,I,q):=h;show(a,b,I.B5,q)
 |ret u=>let(v,a,b,I,r,q):=h;show(v,a,b,I.B5,r,q)
def lA.q{t:gJ}(h:lA X.A0 a t):lA X a t:=λpins s σ H D I b=>
 lN (h pins s σ H D (I.D8 _) b) (λ_ _ q=>q.q) λ_ _ z=>i' z
end
section
variable{X:bj}{st:b_}{rest:List b_}{t u:gJ}{e:bG}{te:bp}{pos:dt}
def Xf:gJ:=λD a H=>D.a a H
def Nt(t u:gJ):gJ:=λD a H=>t {D with a:=u D} a H
def hC:lA X [] Xf:=λ_ _ a H _ I h=>JT (a,H,I,h)
def bm(c:oq X st t)(d:lA X rest u):lA X (st::rest) (Nt t u):=by
 intro a s e H D I h;show ahu<|bO (c a s e H {D with a:=u D} I h) λf g q=>?_;cases f with
 |next=>
  let(b,i,j,q):=q;show d a g b i D j q
 |ret v=>show q
 |brk=>show q
 |cont=>show q
def bx(b:oq X st t):lA X [st] t:=by
 intro a s c H D I h;show ahu<|bO (b a s c H D I h) λf d q=>?_;cases f with
 |next=>show JT q
 |ret v=>show q
 |brk=>show q
 |cont=>show q
def aK.D5{a:Ψ}{b:aY}(I:aK X a b H s):interactive X.env=aH:=by simp[interactive,I.b.d]
def Xl(te:bp):gJ:=λD a H=>te a H λ_ b=>D.a a b
def pa(c:bY X e te)(d:Ep e ac pos.line X.env=cq aH:=by rfl):oq X (.Expr e pos) (Xl te):=by
 intro a s b H D I h;show wpAny_Expr_any (bO (c a s b H _ I h) λv j (x,f,g,k,i)=>(b,f,g,i)) I.D5 d
def Xc(te:bp):gJ:=λD a H=>te a H D.d
def cE(c:bY X e te):oq X (.Return (aa e) pos) (Xc te):=by
 intro a s b H D I h;show wpAny_Return_some<|bO (c a s b H _ I h) λv j (x,d,f,g,i)=>(x,b,d,f,g,i)
def Xj(c:fV)(t u:gJ):gJ:=λD a H=>c a H λb d=>if b=ap then t D a d else u D a d
def hH(m:mf X c g)(n:lA X a t)(o:lA X b u):oq X (.If c a b pos) (Xj g t u):=by
 intro e s f H D I h;show wpAny_If<|bO (m e s f H _ I h) λd i (j,k,l)=>?_;cases d with
 |true=>show n e i f j D k l
 |false=>show o e i f j D k l
def Xg:gJ:=λ_ _ _=>False
def Od:lA X a Xg:=λ_ _ _ _ _ _ h=>h.elim
end
abbrev gK:=ak->aY->ag->(aY->ag->Prop)->Prop
abbrev uM:=List ak->aY->ag->(aY->ag->Prop)->Prop
def ot(X:bj)(a:bG)(t:gK):Prop:=
 ∀(b:Ψ)(s:ax)(d:aY)(H:ag)(v:ak)(u:ae)(Q:aY->ag->Prop),aK X b d H s->cF v u->t v d H Q->
  aF 3#0 X.A (yh a X.env u) (λ_ f=>∃c e,aK X b c e f/\Q c e) X.a s
def CC(X:bj)(g:List bG)(t:uM):Prop:=
 ∀(a:Ψ)(s:ax)(c:aY)(H:ag)(d:List ak)(e:List ae)(Q:aY->ag->Prop),aK X a c H s->cv d e->t d c H Q->
  aF 3#0 X.A (assignInOrder ((Au g X.env).map (·.2)) e) (λ_ h=>∃b f,aK X a b f h/\Q b f) X.a s
abbrev GP:=ak->ak->ak->ag->(ag->Prop)->Prop
def Pk(X:bj)(t:GP):Prop:=
 ∀(a:Ψ)(s:ax)(b:aY)(H:ag)(o i v:ak)(c d u:ae)(Q:ag->Prop),aK X a b H s->cF o c->cF i d->cF v u->t o i v H Q->
  aF 3#0 X.A (setItem c d u) (λ_ f=>∃e,aK X a b e f/\Q e) X.a s
section
variable{X:bj}{pos:dt}
def de(i:Nat):gK:=λv a H Q=>Q (a.set i<|aa v) H
def cx{i:Nat}(b:X.N.Nodup)(c:X.N[i]?=aa x)(d:xg X.env.scope x)(e:X.i x=ap\/X.env.scope.names.lookup x=aa .local:=by first|show .inl rfl|show .inr rfl|assumption):ot X (.Name x pos) (de i):=by
 intro a s g H v u Q I r h;show ahw<|NB I b c d r (λj f=>(_,H,f,h)) e
def kJ:uM:=λa b H Q=>a=[]/\Q b H
def fM(t:gK)(u:uM):uM:=λb c H Q=>∃v r,b=v::r/\t v c H λa d=>u r a d Q
def nq:CC X [] kJ:=by
 intro a s b H c d Q I r h;let(e,h):=h;subst e;cases r;show assignInOrder_nil (b,H,I,h)
def hJ{t:gK}(d:ot X e t)(f:CC X b u)(g:(Au (e::b) X.env).map (·.2)=yh e X.env::(Au b X.env).map (·.2):=by rfl):CC X (e::b) (fM t u):=by
 intro a s i H p q Q I r h;let(v,w,j,h):=h;subst j;cases r with
 |cons r k=>
  rw[g];show assignInOrder_cons<|bO (d a s i H _ _ _ I r h) λ_ l (c,m,n,o)=>?_;show f a l c m _ _ Q n k o
def kI(K:aT)(n:Nat)(t:uM):gK:=λv c H Q=>∃a b,v=.ref a/\gr K H a b/\b.length=n/\t b c H Q
def nr{k:Nat}{t:uM}{n:Nat}(l:X.c=ap)(h:CC X d t)(m:(Au d X.env).length=n:=by rfl)(f:(Au d X.env).findIdx? (·.1)=ac:=by rfl):ot X (.Tuple d k pos) (kI X.K n t):=by
 intro c s i H v u Q I r g;let(a,p,q,w,x,g):=g;subst q;cases r;let(y,j,z,D):=I.q w;show assign_Tuple_tuple (I.b.a l) z (by simp[m,<-x,j.length]) f λA B=>?_;let C:aK X c i H {s with heap:=A}:=I.F (t':=s.toks) λb o e=>B b o (cP<|cG e) e;show h c _ i H p _ Q C 5#j g
def YN(b c:bp)(t:GP):gK:=λv a H Q=>b a H λo d=>c a d λi e=>t o i v e λf=>Q a f
def wM{o i:bG}{t:GP}(g:bY X o e)(j:bY X i f)(k:Pk X t)(l:∀v,yh (.Subscript o i pos) X.env v=(do
   let b <-Ev [v] (dw o X.env)
   let c <-Ev [v,b] (dw i X.env)
   standAt pos
   Ev [v,b,c] (setItem b c v)
   release [v,b,c] []):=by intro _;rfl):ot X (.Subscript o i pos) (YN e f t):=by
 intro a s d H v u Q I r h;rw[l];calc ik<|bO (g a s d H _ I h) λb m (x,n,p,q,w)=>?_;calc ik<|bO (j a m d n _ p w) λc z (y,A,B,C,D)=>?_;calc R_<|ao<|ik<|bO (k a z d A x y v b c u _ B q C r D) λ_ L (E,G,K)=>?_;show wpAny_release (d,E,G,K)
def BM(b:bp)(g:gK):gJ:=λD a H=>b a H λx c=>g x a c D.a
def wK(f:bY X e c)(i:ot X b g)(j:swapsWithSole [b] e pos.line X.env=cq aH:=by rfl)(hw:swappedStores [b] e X.env=cq ac:=by rfl)(k:(Au [b] X.env).map (·.2)=[yh b X.env]:=by rfl):oq X (.Assign [b] e pos) (BM c g):=by
 intro a s d H D I h;show wpAny_Assign_stores (bO (f a s d H _ I h) λv l (x,m,n,o,p)=>?_) j hw;rw[k];show bO (i a l d m x v _ n o p) λ_ r q=>q
def ck{i:Nat}(d:X.N.Nodup)(f:X.N[i]?=aa x)(g:xg X.env.scope x)(j:bY X e c)(k:Ep e (aa<|.Name x a) pos.line X.env=cq aH:=by rfl)(l:X.i x=ap\/X.env.scope.names.lookup x=aa .local:=by first|show .inl rfl|show .inr rfl|assumption):oq X (.Assign [.Name x a] e pos) (BM c<|de i):=by
 intro b s m H D I h;show wpAny_Assign_Name (bO (j b s m H _ I h) λv t (y,n,o,p,q)=>?_) k;show NB o d f g p (λu r=>(_,n,r,q)) l
end
section
variable{X:bj}{pos:dt}
def W_(c:fV)(h:gJ):gJ:=λD a H=>∃W:Nat->aY->ag->Prop,(∃m,W m a H)/\∀m a H,W m a H->
 c a H λb e=>if b=ap then ∃N:aY->ag->Prop,(∀d f,N d f->∃g,g<m/\W g d f)/\h {D with a:=N,b:=N,c:=D.a} a e else D.a a e
def BU{body:List b_}{t:fV}(w:PassesOwn 3#0 X.A X.env X.a)(C:mf X c t)(E:lA X body u):oq X (.While c body [] pos) (W_ t u):=by
 rintro a s G H D I ⟨W,⟨K,L⟩,g⟩;show wpAny_While<|codeAny_whileLoop (λn M=>∃i x,aK X a i x M/\W n i x) ?_ K (G,H,I,L);rintro n P ⟨e,y,Q,R⟩;show ya w<|bO (C a P e y _ Q<|g n e y R) λb S (z,A,k)=>?_;cases b with
 |true=>
  let(N,B,k):=k;rw[aw O];show ya w<|bO (E a S e z _ A k) λf T l=>?_;cases f with
  |next=>
   let(d,j,m,o):=l;let(p,q,r):=B d j o;show(p,q,d,j,m,r)
  |cont=>
   let(d,j,m,o):=l;let(p,q,r):=B d j o;show(p,q,d,j,m,r)
  |brk=>show l
  |ret v=>show l
 |false=>
  rw[ar fQ];show JT (e,z,A,k)
end
structure iN where
 a:Nat->ag->Prop
 c:Nat->ag->ak->ag->Prop
 b:Nat->ag->Prop
def iO(X:bj)(a:Ψ)(H:ag)(b:ab):Prop:=
 H b=ac/\b≠X.env.locals/\b∉X.q/\(b∈X.g\/X.e⁻¹<=b)/\(∀x c,X.env.cells.lookup x=aa c->c≠b)/\∀p∈X.h++a,p.1≠b
def aK.A2{a:Ψ}{g:aY}{H f:ag}{b:ab}(I:aK X a g H s)(d:s⁻¹<=b)(h:f b=ac):iO X a f b:=by
 show(h,jJ<|fm I.lt d,I.D9 d,.inr<|aL I.sz d,λx c e z=>?_,λp i z=>?_);let(v,q):=I.j x c e;show bo (fm q.lt %[z|d])<|oJ _;show bo (fm (cG (I.f p i).1) %[z|d])<|oJ _
structure om(P:bh)(w:ba)(K:aT)(tg:bG)(J:iN)(fp:List ab)(it:ab)(tn:Nat->aX->Prop):Prop where
 f:it∈fp
 a:∀i h,tn i h->∀b∈fp,∃o,h.get? b=aa o/\∀v,o.data≠.cell v
 c:∀i h h',tn i h->(∀b∈fp,∀o,h.get? b=aa o->h'.get? b=aa o)->tn i h'
 d:∀(X:bj),X.prog=P->X.w=w->X.K=K->X.c=ap->∀(i:Nat)(pins:Ψ)(s:ax)(σ:aY)(H:ag)(E:Ω),aK X pins σ H s->(∀b∈fp,iO X pins H b)->tn i s.heap->J.a i H->
  aF (aV P w) X.A (jt<|.ref it) (λr s1=>∃u,r=aa u/\
   aF (aV P w) X.A (Ss tg 6#it u) (λ_ s2=>∃x H',aK X pins σ H' s2/\cF x u/\J.c i H x H'/\tn (i+1) s2.heap/\∀b∈fp,H' b=ac) E s1) E s
 done:∀(X:bj),X.prog=P->X.w=w->X.K=K->X.c=ap->∀(i:Nat)(pins:Ψ)(s:ax)(σ:aY)(H:ag)(E:Ω),aK X pins σ H s->(∀b∈fp,iO X pins H b)->tn i s.heap->J.b i H->
  aF (aV P w) X.A (jt<|.ref it) (λr s1=>r=ac/\aK X pins σ H s1) E s
 e:∀(A:cC)(i:Nat)(s:ax)(Q:Ω)(E:Ω),tn i s.heap->Q 6#it s->aF (aV P w) A (rL<|.ref it) Q E s
abbrev jP:=aY->ag->(iN->ag->Prop)->Prop
def CB(X:bj)(a:Ψ)(i:aY)(j:bG)(R:iN->ag->Prop)(c:ae)(e:ax):Prop:=
 ∃(f:ab)(g:List ab)(h:Nat->aX->Prop)(k:iN)(d:ag),c=.ref f/\aK X a i d e/\om X.prog X.w X.K j k g f h/\h 0 e.heap/\(∀b∈g,iO X a d b)/\R k d
def kK(X:bj)(d b:bG)(e:jP):Prop:=
 ∀(a:Ψ)(s:ax)(c:aY)(H:ag)(R:iN->ag->Prop),aK X a c H s->e c H R->
  aF 3#0 X.A (dw b X.env) (λv f=>aF 3#0 X.A (rL v) (CB X a c d R) X.a f) X.a s
def uI{A:cC}{s:ax}{n:String}{Q:Unit->ax->Prop}(e:s.heap.get? c=aa o)(f:o.cls=.type n)(g:o.data=.fields d)(i:["enumerate","zip","dict_itemiterator","dict_reverseitemiterator","odict_iterator","itertools.zip_longest","itertools.pairwise"].contains n=aH)(a:Q () s):aF M A (Ss b 6#c u) Q E s:=by
 ext Ss;cases b<;>first
  |show aO a
  |(cases u<;>first
    |show aO a
    |(calc wpAny_load e ?_;rw[f,g];change aF M A (if(["enumerate","zip","dict_itemiterator","dict_reverseitemiterator","odict_iterator","itertools.zip_longest","itertools.pairwise"].contains n&&d[0]?==aa (iV _))=ap then _ else _) Q E s;rw[ar (by intro h;rw[i,Ur] at h;cases h)];show aO a))
def ki(K:aT)(a:ab):iN:=
 (λi H=>∃b x,bJ K H a b/\b[i]?=aa x,λi H x c=>c=H/\∀b,bJ K H a b->b[i]?=aa x,λi H=>∃b,bJ K H a b/\b.length<=i)
def uP(K:aT)(a:ab):iN:=
 (λi H=>∃b x,gr K H a b/\b[i]?=aa x,λi H x c=>c=H/\∀b,gr K H a b->b[i]?=aa x,λi H=>∃b,gr K H a b/\b.length<=i)
def lC(a:Int)(n:Nat):iN:=(λi _=>i<n,λi H x b=>b=H/\x=.int (a+i),λi _=>n<=i)
def WU{K:aT}(a j:ab):om P w K U (ki K a) [j] j (λi h=>h.IsListIter j a i) where
 f:=by simp
 a:=λi h f b l=>by
  let e:b=j:=by simpa using l
  subst e;let(o,e,c,d):=f;show(o,e,λv z=>by rw[d] at z;cases z)
 c:=λi h n f k=>f.at λo e=>k j 0#0 o e
 d:=by
  intro X t y A S i g s T H E I q f B;subst t y A;let(V,x,r,C):=B;let(D,G,p,W):=I.list r;let(u,Y,Z):=G.q C;let(L,M,f2,N,Q,R):=q j 0#0;show wpAny_pyNext_list_item f p.isList (x:=u) 5#Y λn m sb=>?_;let I1:aK X g T H {s with heap:=n}:=I.A1 (t':=s.toks) (λb o l e=>(sb.2 b l).trans e) L M N Q R;let(o,e,c,d):=id m;show(u,O,uI (s:={s with heap:=n}) e c d ξ (x,H,I1,Z,(O,λys hy=>%[I.A3 hy r|C]),m,λb l=>(q b l).1))
 done:=by
  intro X t y A S i g s T H E I q f B;subst t y A;let(V,r,C):=B;let(D,G,p,W):=I.list r;let(L,M,f2,N,Q,R):=q j 0#0;let hl:=G.length;show wpAny_pyNext_list_end (I.b.a S) f p.isList (by simp;show à (æ hl) C) λn eb=>(O,I.A1 (t':=s.toks) (λb o l e=>eb b o l e) L M N Q R)
 e:=λ_ _ _ _ _ f h=>wpAny_pyIter_listiter f h
def WR{K:aT}(a j:ab):om P w K U (uP K a) [j] j (λi h=>h.IsTupleIter j a i) where
 f:=by simp
 a:=λi h f b l=>by
  let e:b=j:=by simpa using l
  subst e;let(o,e,c,d):=f;show(o,e,λv z=>by rw[d] at z;cases z)
 c:=λi h q f k=>f.at λo e=>k j 0#0 o e
 d:=by
  intro X y A B S i g s T H E I r f C;subst y A B;let(V,x,t,D):=C;let(m,G,p,W):=I.q t;let(u,Y,Z):=G.q D;let(L,M,f2,N,Q,R):=r j 0#0;show wpAny_pyNext_tuple_item f (show s.heap.IsTuple a m.toArray from p) (x:=u) 5#Y λq n sb=>?_;let I1:aK X g T H {s with heap:=q}:=I.A1 (t':=s.toks) (λb o l e=>(sb.2 b l).trans e) L M N Q R;let(o,e,c,d):=id n;show(u,O,uI (s:={s with heap:=q}) e c d ξ (x,H,I1,Z,(O,λys hy=>%[I.A5 hy t|D]),n,λb l=>(r b l).1))
 done:=by
  intro X y A B S i g s T H E I r f C;subst y A B;let(V,t,D):=C;let(m,G,p,W):=I.q t;let(L,M,f2,N,Q,R):=r j 0#0;let hl:=G.length;show wpAny_pyNext_tuple_end (I.b.a S) f (show s.heap.IsTuple a m.toArray from p) (by simp;show à (æ hl) D) λq eb=>(O,I.A1 (t':=s.toks) (λb o l e=>eb b o l e) L M N Q R)
 e:=λ_ _ _ _ _ f h=>wpAny_pyIter_tupleiter f h
def WS{K:aT}(c:ab)(j:Int)(Y:Nat):om P V K M (lC j Y) [c] c (λi h=>Kq h c (j+(i:Nat)*1) ((Y:Int)-(i:Nat)) 1) where
 f:=by simp
 a:=λi h a b f=>by
  let e:b=c:=by simpa using f
  subst e;show(_,a,λv z=>by
   let N:eS _=yn v:=z;cases N)
 c:=λi h l a k=>k c 0#0 _ a
 d:=by
  intro X p q r u i d Z G H E I m a x;subst p q r;let(y,A,Q,B,C,D):=m c 0#0;let W:=aic (prog:=X.prog) (w:=X.w) (I.b.a u) c j 1 Y;show W.item i Z _ _ x a λv l L R g S=>?_;let(t,rfl):=R;let T:aK X d G H {Z with heap:=l,toks:=L}:=I.A1 (λb o f e=>S b o 5#f e) y A B C D;show(_,O,uI (s:={Z with heap:=l,toks:=L}) (n:="range_iterator") g O O ξ (.int<|j+i,H,T,(t,?_),(O,O),g,λb f=>(m b f).1));rw[ur]
 done:=by
  intro X p q r u i d Z G H E I m a x;subst p q r;let(y,A,Q,B,C,D):=m c 0#0;show ahm (I.b.a u) a (by have:Y<=i:=x;lk) λl U=>(O,I.A1 (t':=Z.toks) (λb o f e=>U b o f e) y A B C D)
 e:=λ_ _ _ _ _ a h=>ahn a h
section
variable{X:bj}{tg:bG}
inductive Pf(K:aT)(x:ak)(R:iN->ag->Prop)(H:ag):Prop
 |b:∀a,(x=.ref a)->(∃xs,bJ K H a xs)->R (ki K a) H->Pf K x R H
def YG(K:aT)(a:bp):jP:=λb H R=>a b H λx c=>Pf K x R c
def YB(K:aT)(c:bp):jP:=λd H R=>c d H λx b=>∃a,x=.ref a/\(∃e,gr K b a e)/\R (uP K a) b
def gg(i:bY X l g):kK X tg l (YG X.K g):=by
 intro c s j H R I h;show bO (i c s j H _ I h) λv d (x,k,f,m,n)=>?_;obtain⟨a,e,⟨w,r⟩,q⟩:=n;subst e;cases m;let(t,y,p,z):=f.list r;show vy p.isList ?_;show(d⁻¹,[d⁻¹],_,_,k,O,f.F (t':=d.toks) λb o e=>bQ _ e,WU a _,(_,eB _ O,O,O),λb u=>?_,q);let e:b=d⁻¹:=by simpa using u
 subst e;show f.A2 (aE _)<|f.a.q<|aE _
def Oh{i:bp}(j:bY X l i):kK X tg l (YB X.K i):=by
 intro c s k H R I h;show bO (j c s k H _ I h) λv d (x,m,f,n,r)=>?_;obtain⟨a,e,⟨w,t⟩,q⟩:=r;subst e;cases n;let(g,y,p,z):=f.q t;show Sa (show d.heap.IsTuple a g.toArray from p) ?_;show(d⁻¹,[d⁻¹],_,_,m,O,f.F (t':=d.toks) λb o e=>bQ _ e,WR a _,(_,eB _ O,O,O),λb u=>?_,q);let e:b=d⁻¹:=by simpa using u
 subst e;show f.A2 (aE _)<|f.a.q<|aE _
def NK{R:iN->ag->Prop}{a c:Int}{t u v:je}{g:Nat}(I:aK X d f H s)(i:-(2 ^ 62)<=a)(j:a<2 ^ 62)(k:-(2 ^ 62)<=c)(l:c<2 ^ 62)(q:R (lC a (c-a).toNat) H):aF 3#0 X.A (rL<|.ref s⁻¹) (CB X d f tg R) E {s with heap:=s.heap.push {cls:=.type "range",data:=.fields #[.int a t,.int c u,.int 1 v]},toks:=g}:=by
 show aho (air ..) (small_one i j k l) ?_;let h:aK X d f H {s with heap:=s.heap.push {cls:=.type "range",data:=.fields #[.int a t,.int c u,.int 1 v]},toks:=g}:=I.F λb o e=>bQ _ e;show((s.heap.push {cls:=.type "range",data:=.fields #[.int a t,.int c u,.int 1 v]}).objs.size,[(s.heap.push {cls:=.type "range",data:=.fields #[.int a t,.int c u,.int 1 v]}).objs.size],_,_,H,O,
  h.F (t':=g) λb o e=>bQ _ e,WS _ a (c-a).toNat,?_,λb m=>?_,q)
 let n:a+((0:Nat):Int)*1=a:=by simp
 let p:(((c-a).toNat:Nat):Int)-((0:Nat):Int)=ajh a c 1:=by rw[rangeSize_one];split<;>lk
 change Kq _ _ (a+((0:Nat):Int)*1) ((((c-a).toNat:Nat):Int)-((0:Nat):Int)) 1;rw[n,p];show eB _ O;let e:b=(s.heap.push {cls:=.type "range",data:=.fields #[.int a t,.int c u,.int 1 v]}).objs.size:=by simpa using m
 subst e;show h.A2 (aE _)<|h.a.q<|aE _
inductive Pd(vs:List ak)(R:iN->ag->Prop)(H:ag):Prop
 |a:∀j:Int,(vs=[.int j])->(-(2 ^ 62)<=j)->(j<2 ^ 62)->R (lC 0 j.toNat) H->Pd vs R H
def YF(a:fN):jP:=λb H R=>a b H λc d=>Pd c R d
def YE(a:fN):jP:=λb H R=>a b H λc d=>∃i j:Int,c=[.int i,.int j]/\(-(2 ^ 62)<=i/\i<2 ^ 62/\-(2 ^ 62)<=j/\j<2 ^ 62)/\R (lC i (j-i).toNat) d
def sX{a:bG}{p b:dt}(g:kj X "range")(i:X.b "range"=ac)(k:jQ X [a] f)(l:eR [a] X.env=[(ahl aH (dw a X.env))]:=by rfl):kK X tg (.Call (.Name "range" p) [a] [] b) (YF f):=by
 intro c s m H R I h;show AM<|of I g i TE<|ua (bO (k b c s m H _ I h) λw x (y,z,n,o,d)=>?_) l O;let(j,e,d,u,q):=d;subst e;cases o with
 |cons r v=>
  cases v;let(t,rfl):=r;show call_range_1<|NK n ω ω d u 5#q
def XF{a b:bG}{p c:dt}(m:kj X "range")(n:X.b "range"=ac)(o:jQ X [a,b] l)(u:eR [a,b] X.env=[(ahl aH (dw a X.env)),(ahl aH (dw b X.env))]:=by rfl)(d:eR [b] X.env=[(ahl aH (dw b X.env))]:=by rfl):kK X tg (.Call (.Name "range" p) [a,b] [] c) (YE l):=by
 intro f s v H R I h;show AM<|of I m n TE<|ua (bO (o c f s v H _ I h) λC D (E,G,w,x,g)=>?_) #v[u,d] (by rw[d];rfl);obtain⟨i,j,e,⟨g,y,z,A⟩,q⟩:=g;subst e;cases x with
 |cons r k=>
  cases k with
  |cons B k=>
   cases k;let(t,rfl):=r;let(K,rfl):=B;show call_range_2<|NK w g y z A q
def Xk(f:jP)(g:gK)(h:gJ):gJ:=λD a H=>f a H λl j=>∃W:Nat->Nat->aY->ag->Prop,(∃m,W 0 m a j)/\∀i m a H,W i m a H->
 (l.b i H/\D.a a H)\/(l.a i H/\∃N:aY->ag->Prop,(∀b c,N b c->∃e,e<m/\W (i+1) e b c)/\∀x c,l.c i H x c->g x a c λd k=>h {D with a:=N,b:=N,c:=D.a} d k)
def zl(a:List ab)(h:aX):Ψ:=a.filterMap λb=>(h.get? b).map λo=>(ahl b o)
def BY{a:List ab}{h:aX}{b:ab}(c:b∈a)(e:h.get? b=aa o):(ahl b o)∈zl a h:=Lh.mpr (b,c,by rw[e];rfl)
def XX{p:ab×bq}(c:p∈zl a h):p.1∈a/\h.get? p.1=aa p.2:=by
 let(b,d,e):=Lh.mp c;cases q:h.get? b with
 |none=>rw[q] at e;cases e
 |some o=>
  rw[q] at e;let f:(ahl b o)=p:=cX e;subst f;show(d,q)
def aK.D2{a:Ψ}{f:aY}{c:List ab}(I:aK X a f H s)(i:∀b∈c,iO X a H b)(j:∀b∈c,∃o,s.heap.get? b=aa o/\∀v,o.data≠.cell v):aK X (a++zl c s.heap) f H s:=
 I.D0 λp k=>(fz.mp k).elim (λz=>I.f p<|iF _ z) λz=>by
  let(g,e):=XX z;let(l,m,n,ϟ):=i p.1 g;let(o,h,d):=j p.1 g;rw[e] at h;cases h;show(e,l,m,n,d)
def aK.B6{a c:Ψ}{b:aY}(I:aK X (a++c) b H s):aK X a b H s:=I.D0 λp d=>I.f p<|iF _<|kW _ d
def jB{j:bG}{body:List b_}(C:PassesOwn 3#0 X.A X.env X.a)(hc:X.c=ap)(hi:kK X tg j wi)(hg:ot X tg g)(k:lA X body tb)(hs:∀x,At j X.env x=cq x:=by intro _;rfl):oq X (.For tg j body [] S) (Xk wi g tb):=by
 intro a s σ H D I h;show wpAny_For (bO (hi a s σ H _ I h) λv s1 h1=>bO h1 λa1 s2 h2=>?_) hs;obtain⟨it,E,tn,a2,H2,e,I2,T,U,f2,W,⟨m0,w0⟩,G⟩:=h2;subst e;let l:∀{z:ag},(∀b∈E,z b=ac)->∀b∈E,iO X a z b:=λhn b k=>(hn b k,(f2 b k).2);show codeAny_forLoop_any (λn s'=>∃i p z,aK X a p z s'/\tn i s'.heap/\(∀b∈E,z b=ac)/\W i n p z) ?_ m0 (0,σ,H2,I2,U,λb k=>(f2 b k).1,w0);rintro n s3 ⟨i,q,R,I3,K,L,w3⟩;obtain⟨M,qn⟩|⟨go,N,hN,P⟩:=G i n q R w3;show ya C<|bO (T.done X O O O hc i a s3 q R X.a I3 (l L) K M) λr s4 (V,I4)=>?_;subst V;show JT (q,R,I4,qn);show ya C<|bO (T.d X O O O hc i a s3 q R X.a I3 (l L) K go) λr s4 (u,V,h4)=>?_;subst V;show ya C<|bO h4 λ_ s5 (x,H5,I5,r5,y5,B,Y)=>?_;let Z:=I5.D2 (l Y)<|T.a _ _ B;show ya C<|bO (hg _ s5 q H5 x u _ Z r5<|P x H5 y5) λ_ s6 (a0,H6,I6,q6)=>?_;show ya C<|bO (k _ s6 a0 H6 _ I6 q6) λf s7 A=>?_;let t:∀{c:aY}{w:ag},aK X (a++zl E s5.heap) c w s7->N c w->∃m,m<n/\∃i p z,aK X a p z s7/\tn i s7.heap/\(∀b∈E,z b=ac)/\W i m p z:=λ{c w} y Q=>by
  let(m',hm,w7):=hN c w Q;show(m',hm,i+1,c,w,y.B6,T.c _ _ _ B λb k o e=>(y.f (ahl b o)<|iF _<|iF _<|BY k e).1,λb k=>?_,w7);let(o,e,d):=T.a _ _ B b k;show(y.f (ahl b o)<|iF _<|iF _<|BY k e).2.1
 cases f with
 |next=>let(c,w,y,Q):=A;show t y Q
 |cont=>let(c,w,y,Q):=A;show t y Q
 |brk=>let(c,w,y,A):=A;show(c,w,y.B6,A)
 |ret v=>let(x7,c,w,y,r7,A):=A;show(x7,c,w,y.B6,r7,A)
end
def qc{K:aT}{xs:List ak}{g:gK}{l:gJ}{D:nx}(c:Nat->aY->ag->Prop)(o:c 0 b H)(r:∀i b H,i<=xs.length->c i b H->bJ K H a xs)(s:∀i x b H,xs[i]?=aa x->c i b H->g x b H λd k=>l {D with a:=c<|i+1,b:=c<|i+1,c:=D.a} d k)(t:∀b H,c xs.length b H->D.a b H):∃W:Nat->Nat->aY->ag->Prop,(∃m,W 0 m b H)/\∀i m b H,W i m b H->
   ((ki K a).b i H/\D.a b H)\/((ki K a).a i H/\∃N:aY->ag->Prop,(∀f h,N f h->∃n,n<m/\W (i+1) n f h)/\∀x h,(ki K a).c i H x h->g x b h λd k=>l {D with a:=N,b:=N,c:=D.a} d k):=by
 show(λi m b H=>m=xs.length-i/\i<=xs.length/\c i b H,(xs.length,by simp,cJ _,o),?_);rintro i m b H ⟨rfl,u,p⟩;let q:=r i b H u p
 cases j:i<xs.length
 show .inr ((xs,xs[i],q,by simp[j]),c<|i+1,λf h v=>(xs.length-(i+1),ω,O,j,v),λx h y=>?_)
 let(e,y):=y;subst e;show s i x b _ (y xs q) p
 let e:i=xs.length:=(û u (ô j))
 subst e;show .inl ((xs,q,aE _),t b H p)
def YQ{K:aT}{xs:List ak}{g:gK}{l:gJ}{D:nx}(c:Nat->aY->ag->Prop)(o:c 0 b H)(r:∀i b H,i<=xs.length->c i b H->gr K H a xs)(s:∀i x b H,xs[i]?=aa x->c i b H->g x b H λd k=>l {D with a:=c<|i+1,b:=c<|i+1,c:=D.a} d k)(t:∀b H,c xs.length b H->D.a b H):∃W:Nat->Nat->aY->ag->Prop,(∃m,W 0 m b H)/\∀i m b H,W i m b H->
   ((uP K a).b i H/\D.a b H)\/((uP K a).a i H/\∃N:aY->ag->Prop,(∀f h,N f h->∃n,n<m/\W (i+1) n f h)/\∀x h,(uP K a).c i H x h->g x b h λd k=>l {D with a:=N,b:=N,c:=D.a} d k):=by
 show(λi m b H=>m=xs.length-i/\i<=xs.length/\c i b H,(xs.length,by simp,cJ _,o),?_);rintro i m b H ⟨rfl,u,p⟩;let q:=r i b H u p
 cases j:i<xs.length
 show .inr ((xs,xs[i],q,by simp[j]),c<|i+1,λf h v=>(xs.length-(i+1),ω,O,j,v),λx h y=>?_)
 let(e,y):=y;subst e;show s i x b _ (y xs q) p
 let e:i=xs.length:=(û u (ô j))
 subst e;show .inl ((xs,q,aE _),t b H p)
def OD{lo:Int}{n:Nat}{g:gK}{k:gJ}{D:nx}(b:Nat->aY->ag->Prop)(o:b 0 a H)(q:∀i a H,i<n->b i a H->g (.int<|lo+i) a H λc j=>k {D with a:=b<|i+1,b:=b<|i+1,c:=D.a} c j)(r:∀a H,b n a H->D.a a H):∃W:Nat->Nat->aY->ag->Prop,(∃m,W 0 m a H)/\∀i m a H,W i m a H->
   ((lC lo n).b i H/\D.a a H)\/((lC lo n).a i H/\∃N:aY->ag->Prop,(∀d f,N d f->∃l,l<m/\W (i+1) l d f)/\∀x f,(lC lo n).c i H x f->g x a f λc j=>k {D with a:=N,b:=N,c:=D.a} c j):=by
 show(λi m a H=>m=n-i/\i<=n/\b i a H,(n,by simp,cJ _,o),?_);rintro i m a H ⟨rfl,t,p⟩
 cases h:i<n
 show .inr (h,b<|i+1,λd f s=>(n-(i+1),ω,O,h,s),λx f y=>?_)
 let(e,y):=y;subst e y;show q i a _ h p
 let e:i=n:=(û t (ô h))
 subst e;show .inl (aE _,r a H p)
abbrev oo:=ak->ak->ag->aR->Prop
def gs(X:bj)(f:ae->ae->kS ae)(r:oo):Prop:=
 ∀(a:Ψ)(s:ax)(b:aY)(H:ag)(x y:ak)(v u:ae)(Q:aR),aK X a b H s->cF x v->cF y u->r x y H Q->
  aF 3#0 X.A (f v u) (jE X a b Q) X.a s
def GO(X:bj)(f:ae->kS ae)(r:ak->ag->aR->Prop):Prop:=
 ∀(a:Ψ)(s:ax)(b:aY)(H:ag)(x:ak)(v:ae)(Q:aR),aK X a b H s->cF x v->r x H Q->
  aF 3#0 X.A (f v) (jE X a b Q) X.a s
def lE(X:bj)(f:ae)(r:List ak->ag->aR->Prop):Prop:=
 ∀(a:Ψ)(s:ax)(b:aY)(H:ag)(c:List ak)(d:List ae)(Q:aR),aK X a b H s->cv c d->r c H Q->
  aF 3#0 X.A (kz f d) (jE X a b Q) X.a s
def eM(r:oo)(b c:bp):bp:=λa H Q=>b a H λx d=>c a d λy e=>r x y e Q
def Gu(r:ak->ag->aR->Prop)(a:bp):bp:=λb H Q=>a b H λx c=>r x c Q
inductive kg(C:Int->Int->Prop)(g:Int->Int->ak)(x:ak)(y:ak)(H:ag)(Q:aR):Prop
 |a:∀i j,(x=.int i)->(y=.int j)->(C i j)->(Q (g i j) H)->kg C g x y H Q
inductive kf(g:Int->Int->ak)(x:ak)(y:ak)(H:ag)(Q:aR):Prop
 |a:∀i j,(x=.int i)->(y=.int j)->(Q (g i j) H)->kf g x y H Q
inductive zi(g:Int->ak)(x:ak)(H:ag)(Q:aR):Prop
 |a:∀i,(x=.int i)->(Q (g i) H)->zi g x H Q
section
variable{X:bj}{a b c:bG}{ta tb tc:bp}{pos:dt}
def GN(l:bY X a ta)(m:bY X b tb){c:Ψ}{R:ak->ak->ag->Prop}(I:aK X c d H s)(h:ta d H λx k=>tb d k λy e=>R x y e){f:ae->ae->kS ae}(n:∀v u j x y e,aK X c d e j->cF x v->cF y u->R x y e->aF 3#0 X.A (f v u) Q X.a j):aF 3#0 X.A (dw a X.env) (λv g=>aF 3#0 X.A (dw b X.env) (λu i=>aF 3#0 X.A (f v u) Q X.a i) X.a g) X.a s:=by
 show bO (l c s d H _ I h) λv o (x,k,p,q,r)=>?_;show bO (m c o d k _ p r) λu j (y,e,t,w,z)=>?_;show n v u j x y e t q w z
def cu(e:gs X (oE d) r)(f:bY X a ta)(g:bY X b tb):bY X (.BinOp a d b pos) (eM r ta tb):=by
 intro c s i H Q I h;show wpAny_BinOp<|GN f g I h λv u j x y k l m n q=>e c j i k x y v u Q l m n q
def qX{c:UnaryOp}(e:GO X (unaryOp c) r)(f:bY X a ta):bY X (.UnaryOp c a pos) (Gu r ta):=by
 intro b s d H Q I h;show UnaryOp_<|bO (f b s d H _ I h) λv g (x,i,j,k,l)=>e b g d i x v Q j k l
def wR{f:ae->ae->kS ae}{C:Int->Int->Prop}{g:Int->Int->Int}(a:∀(i j:Int)(t u:je)(s:ax)(Q:Ω)(E:Ω),C i j->Q (.int (g i j) s.toks) {s with toks:=s.toks+1}->aF 3#0 X.A (f (.int i t)<|.int j u) Q E s):gs X f (kg C λi j=>.int<|g i j):=by
 rintro b s l H x y v u Q I c d ⟨i,j,rfl,rfl,e,q⟩;let(t,rfl):=c;let(k,rfl):=d;show a i j t k s _ _ e (.int<|g i j,H,I.A0 _,(_,O),q)
def Oq{f:ae->ae->kS ae}{g:Int->Int->Int}(a:∀(i j:Int)(t u:je)(s:ax)(Q:Ω)(E:Ω),Q (.int (g i j) s.toks) {s with toks:=s.toks+1}->aF 3#0 X.A (f (.int i t)<|.int j u) Q E s):gs X f (kf λi j=>.int<|g i j):=by
 rintro b s k H x y v u Q I c d ⟨i,j,rfl,rfl,q⟩;let(t,rfl):=c;let(e,rfl):=d;show a i j t e s _ _ (.int<|g i j,H,I.A0 _,(_,O),q)
def BX{f:ae->ae->kS ae}{g:Int->Int->Bool}(a:∀(i j:Int)(t u:je)(s:ax)(Q:Ω)(E:Ω),Q (.bool<|g i j) s->aF 3#0 X.A (f (.int i t)<|.int j u) Q E s):gs X f (kf λi j=>.c<|g i j):=by
 rintro b s k H x y v u Q I c d ⟨i,j,rfl,rfl,q⟩;let(t,rfl):=c;let(e,rfl):=d;show a i j t e s _ _ (.c<|g i j,H,I,O,q)
def ZB(i j:Int):Prop:=0<j/\j<1073741824
def Pp(i j:Int):Prop:=0<=j/\j<=1000000/\i.natAbs<2 ^ 64
def xj(i j:Int):Prop:=(-(2 ^ 64)<i/\i<2 ^ 64)\/(-(2 ^ 64)<j/\j<2 ^ 64)
def xj.q{i j:Int}(h:xj i j):IntMulOk i j:=by
 obtain⟨a,b⟩|⟨a,b⟩:=h;show .of_left<|intBits_le_64 a b;show .of_right<|intBits_le_64 a b
def jN:gs X (oE .Add) (kf λi j=>.int<|i+j):=Oq λ_ _ _ _ _ _ _ q=>add_int q
def mN:gs X (oE .Sub) (kf λi j=>.int<|i-j):=Oq λ_ _ _ _ _ _ _ q=>sub_int q
def s_:gs X (oE .Mult) (kg xj λi j=>.int<|i*j):=wR λ_ _ _ _ _ _ _ a q=>mul_int q a.q
def Oo:gs X (oE .FloorDiv) (kg ZB λi j=>.int<|i / j):=wR λi j _ _ _ _ _ a q=>by
 let b:(0:Int)<j:=a.1;let c:j<1073741824:=a.2;show floordiv_int ω %[alo i ω|q]<|.inl<|PyProof.noPylong_small ω
def p_:gs X (oE .Mod) (kg (λ_ j=>0<j) λi j=>.int<|i%j):=wR λi j _ _ _ _ _ a q=>by
 let b:(0:Int)<j:=a;show mod_int' ω %[Int.fmod_eq_emod_of_nonneg i ω|q]
def GC:gs X (oE .Pow) (kg Pp λi j=>.int<|i ^ j.toNat):=wR λ_ _ _ _ _ _ _ a q=>pow_int_small a.1 a.2.1 a.2.2 q
def WO{f:ae->kS ae}{g:Int->Int}(a:∀(i:Int)(t:je)(s:ax)(Q:Ω)(E:Ω),Q (.int (g i) s.toks) {s with toks:=s.toks+1}->aF 3#0 X.A (f<|.int i t) Q E s):GO X f (zi λi=>.int<|g i):=by
 rintro b s d H x v Q I c ⟨i,rfl,q⟩;let(t,rfl):=c;show a i t s _ _ (.int<|g i,H,I.A0 _,(_,O),q)
def qU:GO X (unaryOp .USub) (zi λi=>.int<|-i):=WO λ_ _ _ _ _ q=>neg_int q
end
def NF:ak->ak->Bool
 |.non,.non=>ap|.non,.int _=>ap|.int _,.non=>ap|.non,.c _=>ap|.c _,.non=>ap|.non,.str _=>ap|.str _,.non=>ap
 |.int _,.int _=>ap|.c _,.c _=>ap|.str _,.str _=>ap|.byt _,.byt _=>ap
 |.int _,.str _=>ap|.str _,.int _=>ap|.c _,.str _=>ap|.str _,.c _=>ap
 |_,_=>aH
def Gx:oo:=λx y H Q=>NF x y=ap/\Q (.c<|aJ<|x=y) H
def NS:oo:=λx y H Q=>NF x y=ap/\Q (.c<|!aJ (x=y)) H
def OM{i j:Int}:aJ (ak.int i=ak.int j)=(i==j):=by
 rw[wh];simp
def OO{i j:Bool}:aJ (ak.c i=ak.c j)=(i==j):=by
 rw[wh];simp
def OL{i j:aB}:aJ (ak.str i=ak.str j)=(i==j):=by
 rw[wh];simp
def ON{i j:Array UInt8}:aJ (ak.byt i=ak.byt j)=(i.toList==j.toList):=by
 rw[wh];cases i;cases j;simp
section
variable{X:bj}{a b c:bG}{ta tb tc:bp}{pos:dt}
def gq{a:Ψ}{b:aY}{Q:aR}{k c:Bool}(I:aK X a b H s)(q:Q (.c k) H)(e:k=c):jE X a b Q (.bool c) s:=by
 subst e;show(.c k,H,I,O,q)
def qa:gs X (kx .Eq) Gx:=by
 rintro e s f H x y v u Q I d a ⟨c,q⟩;cases x with
 |non=>
  cases d;cases y with
  |non=>cases a;show am4<|gq I q 0#0
  |c j=>cases a;show am6<|gq I q 0#0
  |int j=>let(b,rfl):=a;show am5<|gq I q 0#0
  |str j=>let(b,rfl):=a;show am3<|gq I q 0#0
  |_=>show bo (show aH=ap from c) fQ
 |c i=>
  cases d;cases y with
  |non=>cases a;show am8<|gq I q 0#0
  |c j=>cases a;show eq_bool<|gq I q OO
  |str j=>let(b,rfl):=a;show anh<|gq I q 0#0
  |_=>show bo (show aH=ap from c) fQ
 |int i=>
  let(t,rfl):=d;cases y with
  |non=>cases a;show am7<|gq I q 0#0
  |int j=>let(b,rfl):=a;show eq_int<|gq I q OM
  |str j=>let(b,rfl):=a;show ang<|gq I q 0#0
  |_=>show bo (show aH=ap from c) fQ
 |str i=>
  let(t,rfl):=d;cases y with
  |non=>cases a;show am2<|gq I q 0#0
  |c j=>cases a;show anf<|gq I q 0#0
  |int j=>let(b,rfl):=a;show ane<|gq I q 0#0
  |str j=>let(b,rfl):=a;show eq_str<|gq I q OL
  |_=>show bo (show aH=ap from c) fQ
 |byt i=>
  let(t,rfl):=d;cases y with
  |byt j=>let(b,rfl):=a;show PySem.W.eq_bytes<|gq I q ON
  |_=>show bo (show aH=ap from c) fQ
 |_=>cases y<;>show bo (show aH=ap from c) fQ
def sY:gs X (kx .NotEq) NS:=by
 rintro e s f H x y v u Q I d a ⟨c,q⟩;cases x with
 |non=>
  cases d;cases y with
  |non=>cases a;show amx<|gq I q 0#0
  |c j=>cases a;show amz<|gq I q 0#0
  |int j=>let(b,rfl):=a;show amy<|gq I q 0#0
  |str j=>let(b,rfl):=a;show amw<|gq I q 0#0
  |_=>show bo (show aH=ap from c) fQ
 |c i=>
  cases d;cases y with
  |non=>cases a;show am1<|gq I q 0#0
  |c j=>cases a;show ne_bool<|gq I q<|jy not OO
  |str j=>let(b,rfl):=a;show anc<|gq I q 0#0
  |_=>show bo (show aH=ap from c) fQ
 |int i=>
  let(t,rfl):=d;cases y with
  |non=>cases a;show am0<|gq I q 0#0
  |int j=>let(b,rfl):=a;show ne_int<|gq I q<|jy not OM
  |str j=>let(b,rfl):=a;show anb<|gq I q 0#0
  |_=>show bo (show aH=ap from c) fQ
 |str i=>
  let(t,rfl):=d;cases y with
  |non=>cases a;show amv<|gq I q 0#0
  |c j=>cases a;show ana<|gq I q 0#0
  |int j=>let(b,rfl):=a;show am9<|gq I q 0#0
  |str j=>let(b,rfl):=a;show ne_str<|gq I q<|jy not OL
  |_=>show bo (show aH=ap from c) fQ
 |byt i=>
  let(t,rfl):=d;cases y with
  |byt j=>let(b,rfl):=a;show PySem.W.ne_bytes<|gq I q<|jy not ON
  |_=>show bo (show aH=ap from c) fQ
 |_=>cases y<;>show bo (show aH=ap from c) fQ
def wP:gs X (kx .Lt) (kf λi j=>.c<|aJ<|i<j):=BX λ_ _ _ _ _ _ _ q=>ajv q
def zr:gs X (kx .LtE) (kf λi j=>.c<|aJ<|i<=j):=BX λ_ _ _ _ _ _ _ q=>le_int q
def uG:gs X (kx .Gt) (kf λi j=>.c<|aJ<|j<i):=BX λ_ _ _ _ _ _ _ q=>gt_int q
def On:gs X (kx .GtE) (kf λi j=>.c<|aJ<|j<=i):=BX λ_ _ _ _ _ _ _ q=>ge_int q
def eV(b:bG){a:yo}(h:a≠.In:=by decide)(c:a≠.NotIn:=by decide):yg a b=aH:=by
 let d:(a==AH)=aH:=by cases a<;>first|rfl|show bo O h
 let e:(a==EL)=aH:=by cases a<;>first|rfl|show bo O c
 cases b<;>simp[yg,d,e]
def wO(e:gs X (kx d) r)(f:bY X a ta)(g:bY X b tb)(i:yg d b=aH):bY X (.Compare a [d] [b] pos) (eM r ta tb):=by
 intro c s j H Q I h;show wpAny_Compare1 (GN f g I h λv u k x y l m n o q=>e c k j l x y v u Q m n o q) i
inductive Pc(x:ak)(Q:Bool->ag->Prop)(H:ag):Prop
 |a:∀k,(x=.c k)->(Q k H)->Pc x Q H
def wH(t:bp):fV:=λa H Q=>t a H λx b=>Pc x Q b
def fJ(i:gs X (kx f) r)(j:bY X a ta)(l:bY X b tb)(m:yg f b=aH):mf X (.Compare a [f] [b] pos) (wH<|eM r ta tb):=by
 intro d s g H Q I h;show ahr (bO (j d s g H _ I h) λv n (x,o,p,q,t)=>bO (l d n g o _ p t) λu w (y,A,B,C,D)=>
  bO (i d w g A x y v u _ B q C D) λc M (z,E,G,K,k,e,L)=>?_) m
 subst e;cases K;show vx (E,G,L)
def Xq(r c:oo)(ta tb tc:bp):bp:=λa H Q=>ta a H λx d=>tb a d λy e=>r x y e λz b=>∃k,z=.c k/\
 (if k=ap then tc a b λf g=>c y f g Q else Q (.c aH) b)
def Oc{j g:yo}{r m:oo}(t:gs X (kx j) r)(l:gs X (kx g) m)(w:bY X a ta)(A:bY X b tb)(B:bY X c tc)(C:lastMarks [j,g] [b,c]=aH:=by with_unfolding_all rfl):mf X (.Compare a [j,g] [b,c] pos) (wH<|Xq r m ta tb tc):=by
 intro f s i H Q I h;show isTrue_chain (bO (w f s i H _ I h) λv D (x,E,G,K,L)=>test_link (bO (A f D i E _ G L) λu M (y,N,P,n,R)=>
  bO (t f M i N x y v u _ P K n R) λd S (z,o,p,T,k,e,q)=>?_)) C
 subst e;cases T;show vx ?_;cases k with
 |false=>
  let(k',U,V):=q;cases U;show ite_ff (o,p,V)
 |true=>
  show ite_tt<|test_last<|bO (B f S i o _ p q) λW Y (Z,H4,I4,r4,q4)=>bO (l f Y i H4 y Z u W _ I4 n r4 q4) λd' s5 (z2,H5,I5,r5,k2,e2,q5)=>?_;subst e2;cases r5;show vx (H5,I5,q5)
def BZ:(bE:Nat)<2 ^ 63:=by rw[iC];decide
def kH{x:ak}{a:List ae}(r:cv [x] a):∃u,a=[u]/\cF x u:=by
 cases r with
 |cons b c=>cases c;show(_,O,b)
def BJ{x y:ak}{a:List ae}(r:cv [x,y] a):∃u b,a=[u,b]/\cF x u/\cF y b:=by
 cases r with
 |cons c d=>
  cases d with
  |cons e f=>cases f;show(_,_,O,c,e)
end
set_option tactic.hygienic true in
def re.q(r:re (aa v) o):∃u,o=aa u/\cF v u:=by
 cases o with
 |none=>show(show False from r).elim
 |some u=>show(u,O,r)
def re.A0(r:re ac o):o=ac:=by
 cases o with
 |none=>rfl
 |some u=>show(show False from r).elim
section
variable{P:bh}{w:ba}{H H':ag}{h h':aX}{a C dx:ab}{fs fs':List (aB×ak)}
end
structure fF(k:Nat)(A:cC):Prop where
 c:A.handled=ac
 b:A.depth+3*k+5<recursionLimit
 a:A.units+16*k+200<eJ
def fF.q{j k:Nat}{A:cC}(r:fF k A)(h:j<=k):fF j A:=(r.c,by have:=r.b;lk,by have:=r.a;lk)
def fF.A0{k:Nat}{A:cC}(r:fF (k+1) A)(a:im):fF k (A.deeper a):=
 (r.c,by have:=r.b;change A.depth+1+3*k+5<_;lk,by have:=r.a;change A.units+3+16*k+200<_;lk)
def fF.F{k:Nat}{A:cC}(r:fF (k+1) A):fF k A.in1:=
 (r.c,by have:=r.b;change A.depth+3*k+5<_;lk,by have:=r.a;change A.units+1+16*k+200<_;lk)
def fF.J{k:Nat}{A:cC}(r:fF k A):A.depth<recursionLimit:=by have:=r.b;show ê (ê this)
def fF.units{k:Nat}{A:cC}(r:fF k A):A.units+64<eJ:=by have:=r.a;lk
def iw:fN:=λ_ H Q=>Q [] H
def eO(b:bp)(c:fN):fN:=λa H Q=>b a H λx d=>c a d λe f=>Q (x::e) f
section
variable{X:bj}{e:bG}{es:List bG}{te:bp}{t:fN}{pos:dt}
def aC:jQ X [] iw:=λ_ _ _ _ H Q I h=>To ([],H,I,.nil,h)
def aq(c:bY X e te)(d:jQ X es t)(f:eR (e::es) X.env=(ahl aH (dw e X.env))::eR es X.env:=by rfl):jQ X (e::es) (eO te t):=by
 intro pos a s b H Q I h;rw[f];change aF _ _ (spliced<|(ahl aH (dw e X.env))::oF pos (eR es X.env)) _ _ s;show KC<|bO (c a s b H _ I h) λu g (x,i,j,k,l)=>?_;show bO (d pos a g b i _ j l) λr v (m,n,o,p,q)=>(x::m,n,o,.cons k p,q)
def BL(t:fN):bp:=λc H Q=>t c H λa b=>a.length<=bE/\∀p,b p=ac->Q 6#p (aN b p<|.tup a)
def Nu(t:fN):bp:=λc H Q=>t c H λa b=>a.length<=bE/\∀p,b p=ac->Q 6#p (aN b p<|.lst a)
def jC{g}(h:jQ X es t):bY X (.Tuple es g pos) (BL t):=by
 intro a s i H Q I j;show wpAny_Tuple_spliced<|bO (h pos a s i H _ I j) λk c (l,d,f,r,z,q)=>(by rw[<-r.length];show z,?_);let m:d c⁻¹=ac:=f.a.q<|aE _;show(.ref c⁻¹,aN d c⁻¹<|.tup l,f.J (t':=c.toks) (λb u e=>bQ _ e) (aE _) ?_,O,q _ m);show(z,k,r,(_,eB _ O,O,_,O))
def jm(h:jQ X es t):bY X (.List es pos) (Nu t):=by
 intro a s g H Q I i;show wpAny_List_spliced<|bO (h pos a s g H _ I i) λj c (k,d,f,r,z,q)=>(by rw[<-r.length];show z,?_);let l:d c⁻¹=ac:=f.a.q<|aE _;show(.ref c⁻¹,aN d c⁻¹<|.lst k,f.J (t':=c.toks) (λb u e=>bQ _ e) (aE _) ?_,O,q _ l);show(z,j,0,r,eB _ O)
end
abbrev me:=List ak->ag->aR->cy->Prop
abbrev mi:=List im->ag->ax->cy->Ω
structure xi(P:bh)(w:ba)(K:aT)(mg:aB->Option ae)(base:aX)(A:cC)(outer:List im)(s:ax)(H:ag):Prop where
 f:A.frames=aa outer
 d:CI K mg base
 c:∀b o,base.get? b=aa o->s.heap.get? b=aa o/\H b=ac
 h:base.objs.size<=s⁻¹
 e:s.heap.FunFrames base outer
 i:∀b∈mO outer,H b=ac
 a:ie P w H s.heap
 g:uc s.gens
def GV(a:List im)(P:bh)(w:ba)(H:ag)(s:ax)(Q:aR)(u:ae)(b:ax):Prop:=
 ∃v c,b.os=s.os/\uc b.gens/\pg (mO a) [] H c s.heap b.heap/\ie P w c b.heap/\cF v u/\Q v c
def ZA(c:mi)(a:List im)(P:bh)(w:ba)(H:ag)(s:ax)(Q:aR)(E:cy)(r:vK)(b:ax):Prop:=
 match r with
 |.ok (.ret u)=>GV a P w H s Q u b
 |.ok _=>False
 |.error e=>c a H s E e b
structure cp(P:bh)(w:ba)(K:aT)(mg:aB->Option ae)(base:aX)(CX:mi)(k:Nat)(f:ab)(fd:cm)(ps:List aB)(sp:me):Prop where
 b:∀vs H Q E,sp vs H Q E->vs.length=ps.length
 a:∀(A:cC)(outer:List im)(s:ax)(H:ag)(args:Args)(us:List ae)(vs:List ak)(Q:aR)(E:cy),fF k A->xi P w K mg base A outer s H->AI s fd args (ps.zip us)->cv vs us->sp vs H Q E->
  ky (aV P w) A (.call 6#f args) (ZA CX outer P w H s Q E) s
def xi.q{K:aT}{c:aB->Option ae}{A:cC}{a:List im}(e:xi P w K c b A a s H):xi P w K c b A.in1 a s H:=(e.f,e.d,e.c,e.h,e.e,e.i,e.a,e.g)
section
variable{X:bj}{pins:Ψ}{σ:aY}{H:ag}{s s':ax}
def aK.D3(I:aK X pins σ H s):xi X.prog X.w X.K X.b X.d X.A X.f s H:=
 (I.b.q,I.b.e,I.bs,aL I.b.i I.sz,I.B8,I.C8,I.a,I.g)
def aK.D4(I:aK X pins σ H s)(h:GV X.f X.prog X.w H s Q u s'):jE X pins σ Q u s':=by
 let(v,f,i,a,j,c,r,q):=h;let(k,g,d,t,e):=s';obtain rfl:e=s.os:=i;show(v,f,I.D1 (h':=k) (g':=g) (d':=d) (t':=t) (ch:=[]) j c a (λb z=>bo z 0#0),r,q)
end
def mJ(b:me)(a:List ak)(E:cy)(t:fN):bp:=λc H Q=>t c H λd e=>b (d++a) e Q E
def ou(K:aT)(d:cm)(b:List aB)(c:List ae):Prop:=
 ∀(s:ax)(a:List ae),K.In s.heap->(a++c).length=b.length->AI s d (a,[]) (b.zip<|a++c)
def ou.all{K:aT}{b:List aB}(h:∀a:List ae,a.length=b.length->SF c (a,[])=cq (b.zip a)):ou K c b []:=λs a _ d=>by
 rw[sy] at d ⊢;show .of_eq<|h a d
def CA(c:mi)(X:bj)(E:cy):Prop:=∀(a:Ψ)(d:aY)(H:ag)(s:ax)(e:ae)(b:ax),aK X a d H s->c X.f H s E e b->X.a e b
section
variable{X:bj}{CX:mi}{k:Nat}{f C:ab}{fd:cm}{ps:List aB}{sp:me}{dvs:List ak}{ds:List ae}{E:cy}{x m:aB}{p pos apos:dt}{e o:bG}{es:List bG}{ta:bp}{t:fN}
def Xy(F:cp X.prog X.w X.K X.b X.d CX k f fd ps sp)(j:fF k X.A)(l:ou X.K fd ps ds)(m:cv dvs ds)(n:CA CX X E)(I:aK X a g H s)(r:cv d b)(h:sp (d++dvs) H Q E):aF 3#0 X.A (kz 6#f b) (jE X a g Q) X.a s:=by
 let i:cv (d++dvs) (b++ds):=r.F m;let o:(b++ds).length=ps.length:=by rw[<-i.length];show F.b _ _ _ _ h
 show JV<|tR (F.a X.A X.f s H (b,[]) (b++ds) (d++dvs) Q E j I.D3 (l s b I.A6 o) i h) λr p c=>?_;cases r with
 |error e=>show n a g H s e p I c
 |ok q=>
  cases q with
  |ret u=>show I.D4 c
  |next=>show i' c
  |brk=>show i' c
  |cont=>show i' c
def XN(F:cp X.prog X.w X.K X.b X.d CX k f fd ps sp)(g:fF k X.A)(i:kj X x)(j:X.b x=aa 6#f)(l:Ex X.K 6#f=ap)(m:ou X.K fd ps ds)(n:cv dvs ds)(o:CA CX X E)(u:jQ X (e::es) t)(b:(x==("__debug__":aB))=aH:=by decide)(v:eR (e::es) X.env=(ahl aH (dw e X.env))::eR es X.env:=by rfl)(c:(oF pos<|eR es X.env).any (·.1)=aH:=by rfl):bY X (.Call (.Name x p) (e::es) [] pos) (mJ sp dvs E t):=by
 intro a s w H Q I h;show yd<|GH I i j ?_ b;show PySem.W.callWith_K (h₀:=X.d) I.b.e.a l (bO (u pos a s w H _ I h) λy z (A,B,d,r,q)=>(d.A6,?_)) v c;show Xy F g m n o d r q
end
structure cR(N P:List aB)(sc:jH):Prop where
 c:sc.kind=.function
 d:sc.isCoroutine=aH
 e:sc.isGenerator=aH
 a:N.Nodup
 pre:N.take P.length=P
 b:∀x∈P,sc.names.lookup x=aa .local\/sc.names.lookup x=aa .cell
 f:∀y∈sc.names,y.2≠.free
def OZ:∀{a:List (aB×ae)}{m:aB->Option ae},(∀v,(ahl x v)∉a)->vD b a m x=m x
 |[],_,_=>O
 |(ahl n v)::r,m,h=>by
  ext vD;rw[OZ λw c=>h w<|gF _ c];split;have:x≠n:=by rintro rfl;show h v fy
  simp[this];rfl
def O':∀{a:List (aB×ae)}{m:aB->Option ae},(∀v,(ahl x v)∉a)->vE b a m x=m x
 |[],_,_=>O
 |(ahl n v)::r,m,h=>by
  ext vE;rw[O' λw c=>h w<|gF _ c];split;rfl;have:x≠n:=by rintro rfl;show h v fy
  simp[this]
def O_{a:aB->Option qy}:∀{P:List aB}{b:List ae}{i:Nat}{m:aB->Option ae},P.Nodup->P[i]?=aa x->b[i]?=aa v->a x=aa .local->
  vD a (P.zip b) m x=aa v
 |[],_,_,_,_,h,_,_=>by simp at h
 |_::_,[],_,_,_,_,h,_=>by simp at h
 |p::P,w::b,0,m,e,c,d,f=>by
  simp at c d;subst c;subst d;change vD a ((ahl p w)::P.zip b) m p=_;ext vD;rw[OZ λv g=>(kD.mp e).1 (rU g).1,aw f];simp
 |p::P,w::b,i+1,m,e,c,d,f=>by
  change vD a ((ahl p w)::P.zip b) m x=_;ext vD;show O_ (i:=i) (kD.mp e).2 5#c 5#d f
def Pa{a:aB->Option qy}:∀{P:List aB}{b:List ae}{i:Nat}{m:aB->Option ae},P.Nodup->P[i]?=aa x->b[i]?=aa v->a x≠aa .local->
  vE a (P.zip b) m x=aa v
 |[],_,_,_,_,h,_,_=>by simp at h
 |_::_,[],_,_,_,_,h,_=>by simp at h
 |p::P,w::b,0,m,e,c,d,f=>by
  simp at c d;subst c;subst d;change vE a ((ahl p w)::P.zip b) m p=_;ext vE;rw[O' λv g=>(kD.mp e).1 (rU g).1,ar f];simp
 |p::P,w::b,i+1,m,e,c,d,f=>by
  change vE a ((ahl p w)::P.zip b) m x=_;ext vE;show Pa (i:=i) (kD.mp e).2 5#c 5#d f
def qV(N:List aB)(a:List ak):aY:=a.map aa++eL (N.length-a.length) ac
def q_(i:mi)(P:bh)(w:ba)(K:aT)(j:aB->Option ae)(g:aX)(N:List aB)(c:aB)(a:jH)(f:ab)(h:ae)(A:cC)(b:List im)(s:ax)(H:ag)(E:cy):bj where
 prog:=P
 w:=w
 K:=K
 b:=j
 d:=g
 A:=A.deeper<|oG c a s⁻¹ f h
 N:=N
 e:=s
 j:=H
 env:=oG c a s⁻¹ f h
 outer:=b
 f:=oG c a s⁻¹ f h::b
 g:=[]
 c:=ap
 i:=λ_=>ap
 h:=[]
 a:=λe k=>aF (aV P w) (A.deeper<|oG c a s⁻¹ f h) (leaving (oG c a s⁻¹ f h) e) (λ_ d=>i b H s E e d) (λl d=>i b H s E l d) k
def OW{a:jH}{n:Nat}(h:a.names.lookup x=aa .cell):∃c,(Sz n a.names []).lookup x=aa c:=by
 let q:=aif a.names n []<|.inl h;show Option.isSome_iff_exists.mp q
def Yu{K:aT}{m:aX}{N t:List aB}{j:aB}{A:cC}{B:List ak}(S:cR N t d)(Z:A.handled=ac)(o:xi P w K R m A g s H)(hl:B.length=t.length)(r:cv B T)(x:InCallC s s⁻¹ (vD (oG j d s⁻¹ f L).kindOf (t.zip T) λ_=>ac) (Sz (s⁻¹+1) d.names []) (vE (oG j d s⁻¹ f L).kindOf (t.zip T) λ_=>ac) W):aK (q_ U P w K R m N j d f L A g s H E) [] (qV N B) H W:=by
 let a0:t.length<=N.length:=by have:=jy ah S.pre;rw[gf] at this;lk
 let(M,tk,rfl,X):=x.done;let C:∀b:ab,b∉(q_ U P w K R m N j d f L A g s H E).g:=λb z=>bo (show b∈([]:List ab) from z) 0#0;show((o.d,S.c,O,O,aE _,λy z c M l=>?_,λy D=>?_,λy c _ h=>?_,λ_=>Z,Around.frames_deeper o.f,.inr (O,O),λb z=>bo z<|C b,o.c,o.h,λb _ _=>C b,λb z=>bo z<|C b,o.e,o.i),
  O,o.g,pg.q X,(_,x.toInCall.ns,λi y v M l h3=>?_),λy c h=>(_,x.cell y c h),o.a.q<|aE _,λy c h=>?_,λp G=>bo (show p∈([]:Ψ) from G) 0#0,o.a.F X,?_)
 show name_of_addr x.apart (vB M)<|vB l;let D:d.names.lookup y=aa .cell\/d.names.lookup y=aa .free:=D;obtain D|D:=D;show OW D;show bo O<|S.f _<|vB D;show oK<|x.above y c<|vB h;let Q:i<B.length:=by
  unfold qV at l;cases Q:i<B.length;show Q;rw[r_ 5#Q] at l;rw[E_] at l;split at l<;>cases l
 let ha:B[i]?=aa v:=by
  unfold qV at l;rw[sf 5#Q,ca] at l;cases e:B[i]? with
  |none=>rw[e] at l;cases l
  |some a=>rw[e] at l;cases l;rfl
 let(u,Y,rv):=r.q ha;let G:t[i]?=aa y:=by
  rw[<-S.pre,Ua %[|à Q (å hl)]];show M
 let I:t.Nodup:=by rw[<-S.pre];show S.a.sublist<|akj _ _
 show(u,rv,?_);obtain k|k:=S.b y (dL G);show .inl (k,O_ I G Y k);let(c,e):=OW (n:=s⁻¹+1) k;show .inr (.inl k,c,e,?_);let q:=x.cell y c e;rw[Pa I G Y (by change d.names.lookup y≠_;rw[k];decide)] at q;show q;show o.a.q<|oK<|x.above y c<|vB h;ext qV;change _=N.length;rw[eE,aA,rY];lk
def YT{T:mi}{P:bh}{w:ba}{K:aT}{U:aB->Option ae}{h:aX}{k:Nat}{m d:aB}{i:Arguments}{body:List b_}{a:jH}{dV kV D pm g ct oc:ae}{an od:Option ab}{X:Array (Option ae)}{Y:me}(lk:K.lookup f=aa (oc,od,.func<|vF m d i body a dV kV D pm an g ct,X))(Z:Kg K g d=ap)(S:cR N W a)(G:∀j H Q E,Y j H Q E->j.length=W.length)(z:∀(A:cC)(c:List im)(s:ax)(H:ag)(j:List ak)(Q:aR)(E:cy),fF k (A.deeper<|oG d a s⁻¹ f g)->Y j H Q E->
   ∃t,lA (q_ T P w K U h N d a f g A c s H E) body t/\t {a:=λ_ p=>Q .non p,d:=Q} (qV N j) H):
  cp P w K U h T (k+1) f (vF m d i body a dV kV D pm an g ct) W Y:=by
 show(G,λA c s H a1 us j Q E hr L hb r M=>?_);let hl:=G _ _ _ _ M;let KX:K.In s.heap:=L.d.a.keeps λb o e=>(L.c b o e).1;let a0:s.heap.NoLimit:=L.d.c.keeps λb o e=>(L.c b o e).1;let B:∀y∈W.zip us,a.names.lookup y.1=aa .local\/(a.names.lookup y.1=aa .cell/\((Sz (s⁻¹+1) a.names []).lookup y.1).isSome=ap):=λ(n,v) hy=>by
  obtain q|q:=S.b n (rU hy).1;show .inl q;show .inr (q,aif _ _ _<|.inl q)
 show codeAny_call_function hr.J (KX _ _ lk) O S.d S.e O (PySem.W.codeRec_of KX Z)<|hb _ _ _ _ ?_;show wpAny_newFunctionEnv_cells S.c B λa2 he s1 x=>?_;subst he;show(a0.keeps x.toInCall.keep,codeAny_func ?_);let(t,ht,hq):=z A c s H j Q E (hr.A0 _) M;let I:aK (q_ T P w K U h N d a f g A c s H E) [] (qV N j) H s1:=Yu S hr.c L hl r x;show lN (ht [] s1 (qV N j) H _ I hq) (λfl s' C=>?_) λe s' C=>C;let R:∀{l:aY}{p:ag}{v:ak}{u:ae},aK (q_ T P w K U h N d a f g A c s H E) [] l p s'->cF v u->Q v p->GV c P w H s Q u s':=
  λ{l p v u} a3 rv q=>(v,p,a3.l,a3.g,a3.d,a3.a,rv,q)
 cases fl with
 |ret u=>
  let(v,l,p,a3,rv,q):=C;show R a3 rv q
 |next=>
  let(l,p,a3,q):=C;show R (v:=ak.non) (u:=cD) a3 O q
 |brk=>
  let(ϟ,ϟ,ϟ,q):=C;show i' q
 |cont=>
  let(ϟ,ϟ,ϟ,q):=C;show i' q
section
variable{X:bj}{x:aB}{p pos:dt}{e:bG}{es:List bG}{t:fN}{id T:String}{r:List ak->ag->aR->Prop}
def sV(r:List ak->ag->aR->Prop)(t:fN):bp:=λa H Q=>t a H λb c=>r b c Q
def dO(f:lE X (.builtin id) r)(g:kj X x)(i:X.b x=ac)(j:gb x=aa (.builtin id))(k:jQ X (e::es) t)(l:x≠"__name__":=by decide)(b:(x==("__debug__":aB))=aH:=by decide)
  (m:eR (e::es) X.env=(ahl aH (dw e X.env))::eR es X.env:=by rfl) (c:(oF pos<|eR es X.env).any (·.1)=aH:=by rfl):bY X (.Call (.Name x p) (e::es) [] pos) (sV r t):=by
 intro a s d H Q I h;show yd<|of I g i j ?_ l b;show anw (bO (k pos a s d H _ I h) λn o (q,u,v,w,y)=>f a o d u q n Q v w y) m c
def nu(f:lE X (.type T) r)(g:kj X x)(i:X.b x=ac)(j:gb x=aa (.type T))(k:jQ X (e::es) t)(l:x≠"__name__":=by decide)(b:(x==("__debug__":aB))=aH:=by decide)
  (m:eR (e::es) X.env=(ahl aH (dw e X.env))::eR es X.env:=by rfl) (c:(oF pos<|eR es X.env).any (·.1)=aH:=by rfl):bY X (.Call (.Name x p) (e::es) [] pos) (sV r t):=by
 intro a s d H Q I h;show yd<|of I g i j ?_ l b;show ua (bO (k pos a s d H _ I h) λn o (q,u,v,w,y)=>f a o d u q n Q v w y) m c
end
def dj:Ζ->Ζ->Bool
 |[],[]=>aH
 |[],_::_=>ap
 |_::_,[]=>aH
 |x::a,y::b=>if x=y then dj a b else aJ (x<y)
def pC(x y:Int)(a b:Ζ):dj (x::a) (y::b)=if x=y then dj a b else aJ (x<y):=O
def RP:dj [] []=aH:=O
def Ai(y:Int)(a:Ζ):dj [] (y::a)=ap:=O
def RQ(x:Int)(a:Ζ):dj (x::a) []=aH:=O
def agw(A:cC)(s:ax)(a:Int)(t:je)(c:Int)(u:je):∃e,Km A s (.int a t) (.int c u) e/\(e=ap↔a=c):=
 ((a==c),SR a t c u,by simp)
def agq(A:cC)(s:ax)(a:Int)(t:je)(c:Int)(u:je)(b:bh)(w:ba)(E:Ω)(Q:Ω)(h:Q (.bool<|aJ<|a<c) s):aF (aV b w) A (richCompare .Lt (.int a t)<|.int c u) Q E s:=
 (ajv h:aF (aV b w) A (kx .Lt (.int a t)<|.int c u) Q E s)
section
open PySem.SeqAt
open PySem.AutoSeq1 (wpAny_loadPart')
open PySem.MeetsSeq PySem.MeetsSeq2 PySem.MeetsSeq3
def ago(l b:ab)(i f:Array ae)(n Y:Nat)(Z Q:Option ab)(sl S:Array (Option ae))(H I:Ζ)(V:ia i.toList H)(W:ia f.toList I):Meets (Builtin.«tuple.__lt__» ([.ref l,.ref b],[]))
   (λ_ R s=>s.heap.get? l=aa {cls:=.type "tuple",dict:=Z,data:=.seq i n,slots:=sl}/\s.heap.get? b=aa {cls:=.type "tuple",dict:=Q,data:=.seq f Y,slots:=S}/\
    R (.ok<|.ret<|.bool<|dj H I) s):=
 .of_wp λr w A R s h=>by
  let(K,g,d,L,M):=s;let(hl,hb,h):=h;let f2:=AutoSeq1.sub_tuple_tuple;let z1:i.size=H.length:=by rw[<-V.length];simp
  let z2:f.size=I.length:=by rw[<-W.length];simp
  wp_walk using wpAny_loadPart' hl,wpAny_loadPart' hb,JR _ (λv b T=>b.1=ac/\T=(K,g,d,L,M)/\∃(N P:List ae)(k m:Ζ),v=N.zip P/\
   ia N k/\ia P m/\k.length+f.size=m.length+i.size/\R (.ok<|.ret<|.bool<|dj k m) (K,g,d,L,M)) _
  case turn=>
   rintro⟨y,x⟩ v b T ⟨C,rfl,N,P,k,m,o,D,p,j,z⟩;cases D with
   |nil=>rw[List.zip_nil_left] at o;cases o
   |cons a t E=>
    cases p with
    |nil=>rw[List.zip_nil_right] at o;cases o
    |cons c u G=>
     rw[TQ] at o;injection o with hyx hrest
     injection hyx with hy hx
     subst hy hx;rw[pC] at z;erw[dI] at j;let(e,he,B):=agw A.in1 (K,g,d,L,M) a t c u;calc he r w _ _ ?_;cases e with
     |true=>
      rw[aw<|B.mp O] at z;wp_walk;show(O,O,_,_,_,_,hrest,E,G,ω,z)
     |false=>
      rw[ar (λq=>bo (B.mpr q) fQ)] at z;let U:=agq A.in1 (K,g,d,L,M) a t c u r w;wp_walk using U;show(_,O,by simpa using z)
  case fin=>
   rintro⟨b1,b2⟩ T ⟨C,rfl,N,P,k,m,o,D,p,j,z⟩;simp only at C;subst C;let X:dj k m=aJ (i.size<f.size):=by
    cases D with
    |nil=>
     cases p with
     |nil=>
      erw[wa] at j;rw[RP];show(dD ω).symm
     |cons c u hw=>
      erw[wa,dI] at j;rw[Ai];show(cN ω).symm
    |cons a t X=>
     cases p with
     |nil=>
      erw[wa,dI] at j;rw[RQ];show(dD ω).symm
     |cons c u hw=>
      rw[TQ] at o;cases o
   rw[X] at z;wp_walk;show(_,O,by simpa[ank] using z)
  case h=>
   show(O,O,i.toList,f.toList,H,I,O,V,W,ω,h)
end
section
variable{prog:bh}{w:ba}{A:cC}{E:Ω}{s:ax}
def agt{Q:Ω}(u:lW s.heap l c)(v:lW s.heap b a)(y:ia c.toList d)(z:ia a.toList e)(B:A.units<eJ)(h:Q (.bool<|dj d e) s):aF 4#0 A (kx .Lt 6#l<|.ref b) Q E s:=by
 obtain⟨⟨C,D,o,G⟩,p,q,n,r⟩:=id u;obtain⟨⟨t,j,k,m⟩,f,g,H,i⟩:=id v;simp only at q r g i;subst q r g i;show richCompare_meets_room (op:=.Lt) (_,p,O) (_,f,O) PySem.F.slot_tuple_lt PySem.F.entry_tuple_lt (PySem.F.args_tuple_lt_2 _ _) (ago l b c a n H D j G m d e y z)
  (p,f,show fc (dj d e)≠Value.notImplemented/\Q (.bool<|dj d e) s from((λx=>nomatch x),h)) B
def agx{t b:ab}{d a:List ae}{Q:Ω}(z:lW s.heap t d.toArray)(B:lW s.heap b a.toArray)(o:d≠[])(C:a=[]->Q 6#t s)(D:a≠[]->Q (.ref s⁻¹) {s with heap:=s.heap.push {cls:=.type "tuple",data:=.seq (d++a).toArray}})(l:d.length+a.length<=bE):aF 4#0 A (oE .Add 6#t<|.ref b) Q E s:=by
 obtain⟨⟨G,p,q,r⟩,j,u,n,v⟩:=id z;obtain⟨⟨x,f,m,g⟩,c,h,y,i⟩:=id B;simp only at u v h i;subst u v h i;let e:d.toArray++a.toArray=(d++a).toArray:=by simp
 cases k:a=[];show Sw (_,j,O) (_,c,O) Sq Sk SX Td (Tg _ _)
  (tuple_addW1 t b d.toArray a.toArray n y p f r g 5#o (by simp[k])) (j,c,C k)
 show Sw (_,j,O) (_,c,O) Sq Sk SX Td (Tg _ _)
  (tuple_addW2 t b d.toArray a.toArray n y p f r g 5#o 5#k %[dk,dk|l]) (j,c,?_)
 rw[e];show D k
def cO(n d:Nat):Option Int->Nat
 |none=>d
 |some v=>if v<0 then(v+(n:Int)).toNat else dy v.toNat n
def xW(n d:Nat):cO n d ac=d:=O
def vr(n d k:Nat):cO n d (aa (k:Int))=dy k n:=by
 change(if(k:Int)<0 then((k:Int)+(n:Int)).toNat else dy (k:Int).toNat n)=dy k n;rw[ar ω,sz]
def agp(n d:Nat)(b:d<=n)(o:Option Int):cO n d o<=n:=by
 cases o with
 |none=>show b
 |some v=>
  change(if v<0 then(v+(n:Int)).toNat else dy v.toNat n)<=n;cases a:v<0;rw[aw a];lk;rw[ar a];show yv _ _
def RR(v:Int)(n d:Nat):(if v<0 then max (v+(n:Int)) 0 else dy v (n:Int))=((cO n d (aa v):Nat):Int):=by
 change(if v<0 then max (v+(n:Int)) 0 else dy v (n:Int))=(((if v<0 then(v+(n:Int)).toNat else dy v.toNat n):Nat):Int);cases a:v<0;erw[aw a];lk;erw[ar a];lk
def agy(a b:Option Int)(n:Nat):Tr a b 1 (n:Int)=(ahl (((cO n 0 a:Nat):Int)) (((cO n n b:Nat):Int))):=by
 let c:¬((1:Int)<0):=ω;ext Tr;erw[c,dX];show Prod.ext ?_ ?_;cases a with
 |none=>rfl
 |some v=>show RR v n 0
 cases b with
 |none=>rfl
 |some v=>show RR v n n
def agr(i j:Nat):KE (i:Int) (j:Int) 1=j-i:=by
 ext KE;let a:(1:Int)>0:=ω;erw[a,fA,Int.ediv_one];split<;>lk
def RN{Q:Option Int->ax->Prop}(p:rO v o)(h:Q o s):aF 4#0 A (anl v) Q E s:=by
 cases p with
 |none=>show slicePart_none h
 |int i t=>show slicePart_int h
def RO{n:Nat}{Q:Int×Int×Nat->ax->Prop}(i:s.heap.IsSliceOf g e f .none)(j:rO e a)(k:rO f b)(h:Q (ahl (((cO n 0 a:Nat):Int)) (ahl 1 (cO n n b-cO n 0 a))) s):aF 4#0 A (ajg 6#g<|cq (n:Int)) Q E s:=by
 let(m,c,l,d):=id i;ext ajg anm;calc ao<|hY c d (x:=e) O<|ao<|hY c d (x:=f) O<|ao<|hY c d (x:=.none) O<|aO ?_;calc slicePart_none ?_;change aF _ _ (if((1:Int)==0)=ap then _ else _) _ _ s;rw[ar ξ];calc RN j<|ao<|RN k<|ao<|aO ?_;change aF _ _ (match Tr a b 1 (n:Int) with|(a,b)=>cq (ahl a (ahl ((1:Int)) (KE a b 1)))) _ _ s;rw[agy a b n];change aF _ _ (cq (ahl (((cO n 0 a:Nat):Int)) (ahl ((1:Int)) (KE ((cO n 0 a:Nat):Int) ((cO n n b:Nat):Int) 1)))) _ _ s;rw[agr];show aO h
def ags(a:Array ae)(i k:Nat):((aP k).filterMap λ(m:Nat)=>a[((i:Int)+(m:Int)*1).toNat]?).toArray=((a.toList.drop i).take k).toArray:=by
 let e:(λ(m:Nat)=>a[((i:Int)+(m:Int)*1).toNat]?)=λm=>a[i+m]?:=by
  funext m;have:((i:Int)+(m:Int)*1).toNat=i+m:=ω;rw[this]
 rw[e];have:=pick_run a i k;rw[List.filterMap_map] at this;let b:((λx=>a[x]?) ∘ λx=>i+x)=λm=>a[i+m]?:=O;rw[b] at this;rw[this]
def agv{t f:ab}{l n:ae}{Q:Ω}(e:lW s.heap t a)(o:s.heap.IsSliceOf f l n .none)(p:rO l c)(r:rO n d)(hw:¬(cO a.size 0 c=0/\cO a.size a.size d=a.size))(h:Q (.ref s⁻¹) {s with heap:=s.heap.push {cls:=.type "tuple",data:=.seq ((a.toList.drop<|cO a.size 0 c).take<|cO a.size a.size d-cO a.size 0 c).toArray}})(u:a.size<=bE):aF 4#0 A (qw 6#t<|.ref f) Q E s:=by
 let b:sizeOk (.seq ((a.toList.drop<|cO a.size 0 c).take<|cO a.size a.size d-cO a.size 0 c).toArray):=by
  change((a.toList.drop<|cO a.size 0 c).take<|cO a.size a.size d-cO a.size 0 c).toArray.size<=bE;rw[dk,gf,lX,nS];show à (Nat.min_le_right ..) (à (Nat.sub_le ..) u)
 let y:cO a.size a.size d<=a.size:=agp _ _ (aE _) d;let(v,g,i,x):=id o;let j:s.TypeIs 6#f "slice":=(v,g,i);ext qw;try with_reducible show ik ?_
 first|calc aO ?_|skip;
 calc ahk e.typeIs ξ ?_;show ao (pF (name:=mu "__getitem__") e.typeIs yp
 <|mY yp e.typeIs ajz ?_<|aj0 _ _)
 change aF _ _ (ajf 6#t >>= _) _ _ s;calc tupleItemsOf_ e ?_;calc x_ j ?_;rw[aw ξ];calc RO o p r ?_;let k:¬((((cO a.size 0 c:Nat):Int)==0&&(1:Int)==1&&(cO a.size a.size d-cO a.size 0 c)==a.size)=ap):=by
  intro q;rw[lb,lb] at q;let z:((cO a.size 0 c:Nat):Int)=0:=Ul q.1.1;let B:cO a.size a.size d-cO a.size 0 c=a.size:=Ul q.2;show hw (ω,ω)
 change aF _ _ (if(((cO a.size 0 c:Nat):Int)==0&&(1:Int)==1&&(cO a.size a.size d-cO a.size 0 c)==a.size)=ap then _ else _) _ _ s;rw[ar k,ags];first
  |show ao (m:=anj _)<|pE (aO (_,O,aO h)) b
  |show wpAny_bind (m:=Builtin.Tuple.tupleExact _)<|wpAny_newObj_type (wpAny_bind<|wpAny_pure<|wpAny_pure (_,rfl,wpAny_pure h)) b
  |show wpAny_bind<|wpAny_bind (m:=Builtin.Tuple.tupleExact _)<|wpAny_newObj_type (wpAny_pure<|wpAny_pure (_,rfl,wpAny_pure h)) b
  |show wpAny_bind<|wpAny_bind (m:=Builtin.Tuple.tupleExact _)<|wpAny_newObj_type (wpAny_pure (_,rfl,wpAny_pure h)) b
end
abbrev uL:=aY->ag->(Option Int->ag->Prop)->Prop
def uO(X:bj)(e:Option bG)(t:uL):Prop:=
 ∀(a:Ψ)(s:ax)(b:aY)(H:ag)(Q:Option Int->ag->Prop),aK X a b H s->t b H Q->
  aF 3#0 X.A (evalPart e X.env) (λu d=>∃o c,aK X a b c d/\rO u o/\Q o c) X.a s
def zg:uL:=λ_ H Q=>Q ac H
inductive Pe(x:ak)(Q:Option Int->ag->Prop)(H:ag):Prop
 |a:∀i,(x=.int i)->Q (aa i) H->Pe x Q H
def zf(t:bp):uL:=λa H Q=>t a H λx b=>Pe x Q b
def wX{a:Ζ}:∀{b:List ae},cv (a.map ak.int) b->ia b a:=by
 induction a with
 |nil=>intro b r;rw[AT] at r;cases r;show .nil
 |cons n a c=>
  intro b r;rw[fg] at r;cases r with
  |cons d f=>
   let(t,e):=d;subst e;show .cons n t<|c f
section
variable{X:bj}{e:bG}{te:bp}{lo hi:Option bG}{tl th:uL}{pos p2:dt}
def mL:uO X ac zg:=by
 intro a s b H Q I h;rw[evalPart_none];show aO (ac,H,I,.none,h)
def mK(h:bY X e te):uO X (aa e) (zf te):=by
 intro a s b H Q I c;rw[evalPart_some];show bO (h a s b H _ I c) λu k (x,d,f,g,j)=>?_;let(i,rfl,q):=j;let(t,rfl):=g;show(aa i,d,f,.int i t,q)
def Cz(X:bj)(r:ak->Option Int->Option Int->ag->aR->Prop):Prop:=
 ∀(a:Ψ)(s:ax)(b:aY)(H:ag)(x:ak)(v c d:ae)(lo hi:Option Int)(e:ab)(Q:aR),aK X a b H s->cF x v->s.heap.IsSliceOf e c d .none->rO c lo->rO d hi->r x lo hi H Q->
  ∃T f,JX (.type T) "__getitem__"=cq (aa<|.builtin f)/\s.TypeIs v T/\aF 3#0 X.A (qw v<|.ref e) (jE X a b Q) X.a s
def ze(r:ak->Option Int->Option Int->ag->aR->Prop)(te:bp)(tl th:uL):bp:=λa H Q=>te a H λx b=>tl a b λl c=>th a c λu d=>r x l u d Q
def pd(j:Cz X r)(k:bY X e te)(m:uO X lo tl)(n:uO X hi th):bY X (.Subscript e (.Slice lo hi ac p2) pos) (ze r te tl th):=by
 intro a s d H Q I h;show KO<|bO (k a s d H _ I h) λv o (x,p,t,w,y)=>?_;show wpAny_Slice<|bO (m a o d p _ t y) λf z (l,A,B,C,D)=>bO (n a z d A _ B D) λg c (u,i,E,G,K)=>?_;rw[evalPart_none];show aO ?_;let L:aK X a d i {c with heap:=c.heap.push {cls:=.type "slice",data:=.fields #[f,g,.none]}}:=E.F (t':=c.toks) λb R q=>bQ _ q;let(T,S,M,N,P):=j a {c with heap:=c.heap.push {cls:=.type "slice",data:=.fields #[f,g,.none]}} d i x v f g l u c⁻¹ Q L w (ait ..) C G K;change aF 3#0 X.A (KI e (.Slice lo hi ac p2) v<|.ref c⁻¹) (jE X a d Q) X.a {c with heap:=c.heap.push {cls:=.type "slice",data:=.fields #[f,g,.none]}};show tail_any (ops:=[.ref c⁻¹,v]) N M P (by with_unfolding_all rfl)
def jO(a:List ak)(lo hi:Option Int):List ak:=(a.drop<|cO a.length 0 lo).take<|cO a.length a.length hi-cO a.length 0 lo
def OQ(a:List ak)(lo hi:Option Int):(jO a lo hi).length<=a.length:=by
 ext jO;rw[gf,lX];lk
inductive NN(K:aT)(x:ak)(lo:Option Int)(hi:Option Int)(H:ag)(Q:aR):Prop
 |b:∀a xs,(x=.ref a)->(gr K H a xs)->(¬(cO xs.length 0 lo=0/\cO xs.length xs.length hi=xs.length))->(∀p,H p=ac->Q 6#p (aN H p<|.tup<|jO xs lo hi))->NN K x lo hi H Q
def ND:Cz X (NN X.K):=by
 rintro f s t H x v u w lo hi y Q I j k l m ⟨a,d,rfl,n,p,q⟩;cases j;let(e,r,g,i):=I.q n;let c:e.toArray.size=d.length:=%[dk|r.length.symm]
 show("tuple",_,yp.lookup,g.typeIs,?_);show agv g k l m %[c|p] ?_ %[c|i];rw[c];show(.ref s⁻¹,_,I.J (t':=s.toks) (o:=.tup<|jO d lo hi) (λb z q=>bQ _ q) (aE _) ?_,O,q _<|I.a.q<|aE _);show(aL (OQ d lo hi) i,_,(r.J<|cO d.length 0 lo).A0<|cO d.length d.length hi-cO d.length 0 lo,TF _ _)
def cv.A2(r:cv a b):b=[]↔a=[]:=by
 cases r with
 |nil=>simp
 |cons _ _=>simp
end
def og(n:Nat)(i:Int):Option Nat:=if 0<=i then(if i<n then aa i.toNat else ac) else if -(n:Int)<=i then aa (i+n).toNat else ac
def oj{a:Type}(b:List a)(i:Int):Option a:=(og b.length i).bind λj=>b[j]?
def Ow{n:Nat}{i:Int}{j:Nat}(h:og n i=aa j):seqIndex? i n=aa j/\j<n/\-(n:Int)<=i/\i<n:=by
 unfold og at h;cases b:0<=i;rw[aw b] at h;cases a:i<n;rw[aw a] at h;let e:i.toNat=j:=cX h;show(#v[Sm b a,e],ω,ω,a);rw[ar a] at h;cases h;rw[ar b] at h;cases a:-(n:Int)<=i;rw[aw a] at h;let e:(i+n).toNat=j:=cX h;show(#v[Sn ω a,e],ω,a,ω);rw[ar a] at h;cases h
def Ph{b:Type}{a:List b}{i:Int}{v:b}(h:oj a i=aa v):∃j,seqIndex? i a.length=aa j/\a[j]?=aa v/\j<a.length/\-(a.length:Int)<=i/\i<a.length:=by
 unfold oj at h;cases e:og a.length i with
 |none=>rw[e] at h;cases h
 |some j=>
  rw[e] at h;let(c,d,f,g):=Ow e;show(j,c,h,d,f,g)
def bX{b:Type}{a:List b}{j:Nat}{v:b}(h:a[j]?=aa v):oj a (j:Int)=aa v:=by
 let c:j<a.length:=(dN.mp h).1;let e:og a.length (j:Int)=aa j:=by
  ext og;rw[aw ω,aw ω];simp
 ext oj;rw[e];show h
def Zq{b:Type}(a:List b)(v:b):oj (a++[v]) (-1)=aa v:=by
 let c:(a++[v]).length=a.length+1:=by simp
 let e:og (a++[v]).length (-1)=aa a.length:=by
  ext og;rw[c,ar ξ,aw ω];congr 1;lk
 ext oj;rw[e];change(a++[v])[a.length]?=aa v;simp
def Zv(b:bG):Prop:=∀o i,Er b aH o i=J_ [o,i] (qw o i)
def GS(X:bj)(r:oo):Prop:=
 ∀(c a:bG)(b:Ψ)(s:ax)(d:aY)(H:ag)(x y:ak)(v u:ae)(Q:aR),aK X b d H s->cF x v->cF y u->r x y H Q->
  Er a aH v u=J_ [v,u] (qw v u)->aF 3#0 X.A (KI c a v u) (jE X b d Q) X.a s
def CG(X:bj)(e:String)(r:ak->List ak->ag->aR->Prop):Prop:=
 ∀(a:Ψ)(s:ax)(b:aY)(H:ag)(x:ak)(c:List ak)(v:ae)(d:List ae)(Q:aR),aK X a b H s->cF x v->cv c d->r x c H Q->
  aF 3#0 X.A (kz (.builtin e)<|v::d) (jE X a b Q) X.a s
section
variable{X:bj}{a b:bG}{ta tb:bp}{pos:dt}
def bP(d:GS X r)(e:bY X a ta)(f:bY X b tb)(g:Zv b):bY X (.Subscript a b pos) (eM r ta tb):=by
 intro c s i H Q I h;show KO<|GN e f I h λv u j x y k l m n q=>d a b c j i k x y v u Q l m n q<|g _ _
inductive uF(K:aT)(x:ak)(y:ak)(H:ag)(Q:aR):Prop
 |a:∀p xs i v,(x=.ref p)->(y=.int i)->(bJ K H p xs)->(oj xs i=aa v)->(Q v H)->uF K x y H Q
inductive zj(K:aT)(x:ak)(y:ak)(H:ag)(Q:aR):Prop
 |a:∀p xs i v,(x=.ref p)->(y=.int i)->(gr K H p xs)->(oj xs i=aa v)->(Q v H)->zj K x y H Q
def ft:GS X (uF X.K):=by
 intro d e a s m H U y v u V I B C h n;let(p,P,i,z,rfl,rfl,D,E,q):=h;cases B;let(t,rfl):=C;let(f,r,g,R):=I.list D;let(j,c,G,S,K,L):=Ph E;let(w,o,k):=r.q G;let M:=r.length;let T:=BZ;let b:jE X a m V w s:=(z,H,I,k,q);cases A:0<=i;let l:i.toNat=j:=by
  rw[Sm A L] at c;show cX c
 show item_listR g.isList A ω (by rw[l];simpa using o) b n;let l:(i+(f.toArray.size:Int)).toNat=j:=by
  rw[Sn ω K] at c;rw[dk,<-M];show cX c
 show ajt (x:=w) g.isList.typeIs Si.lookup
  (wpAny_getItem_list_neg (Q:=λr N=>r=w/\jE X a m V r N) g.isList ω (by rw[dk]<;>lk) ω (by rw[l];simpa using o) (O,b)) n
def dh:GS X (zj X.K):=by
 intro b c a s f H S y v u T I k l h m;let(p,K,i,z,rfl,rfl,n,o,q):=h;cases k;let(t,rfl):=l;let(A,r,g,L):=I.q n;let(U,B,C,M,N,P):=Ph o;let(w,D,d):=r.q C;let E:=r.length;let R:=BZ;let e:jE X a f T w s:=(z,H,I,d,q);show ajt (x:=w) g.typeIs yp.lookup
  (getItem_tuple (j:=U) (Q:=λr G=>r=w/\jE X a f T r G) g ω ω (by rw[dk,<-E];show B) 5#D (O,e)) m
def Yh(a:List ae)(n j:Nat)(u:ae):cY (·.setIfInBounds j u) {cls:=.type "list",data:=.seq a.toArray n}={cls:=.type "list",data:=.seq (a.set j u).toArray n}:=by
 simp[cY]
def aK.lst{b:Ψ}{d:aY}(I:aK X b d H s)(h:H p=aa (.lst c)):∃(a:List ae)(n:Nat),cv c a/\s.heap.get? p=aa {cls:=.type "list",data:=.seq a.toArray n}/\c.length<=bE:=by
 let(z,a,n,r,e):=I.a p _ h;show(a,n,r,e,z)
def aK.D7{j:aY}{l g:List ak}{d a:List ae}{n i:Nat}{f:bq->bq}(I:aK X c j H s)(h:H p=aa (.lst l))(m:s.heap.get? p=aa {cls:=.type "list",data:=.seq d.toArray n})(k:f {cls:=.type "list",data:=.seq d.toArray n}={cls:=.type "list",data:=.seq a.toArray i})(r:cv g a)(o:g.length<=bE)(t:Nat):aK X c j (aN H p<|.lst g) {s with heap:=s.heap.update p f,toks:=t}:=by
 let e:(s.heap.update p f).get? p=aa {cls:=.type "list",data:=.seq a.toArray i}:=by
  rw[qA f m (by rw[k]<;>rfl),k]
 show I.C4 (x:=p) (e:=p) (by rw[h];trivial) (.inl O) (λb u v q=>(rP _ _<|cQ v).trans q) (_,e) ?_;show(o,a,i,r,e)
inductive NO(o:ak)(i:ak)(v:ak)(H:ag)(Q:ag->Prop):Prop
 |a:∀p xs k j,(o=.ref p)->(i=.int k)->(H p=aa (.lst xs))->(og xs.length k=aa j)->(Q<|aN H p<|.lst<|xs.set j v)->NO o i v H Q
def wI:Pk X NO:=by
 rintro a s y H o i v G K u Q I z A B ⟨p,C,k,j,rfl,rfl,g,D,q⟩;cases z;let(t,rfl):=A;let(b,n,r,d,E):=I.lst g;let(c,L,l,m):=Ow D;let e:=r.length;let M:=BZ;let w:aK X a y (aN H p<|.lst<|C.set j v) {s with heap:=s.heap.update p (cY (·.setIfInBounds j u))}:=
  I.D7 g d (Yh b n j u) (r.set B j) %[Lk|E] s.toks
 cases x:0<=k;let f:k.toNat=j:=by
  rw[Sm x m] at c;show cX c
 show PySem.W.ki_setAt d x ω (by rw[dk,<-e];show m) %[f|(_,w,q)];let f:(k+(b.toArray.size:Int)).toNat=j:=by
  rw[Sn ω l] at c;rw[dk,<-e];show cX c
 show PySem.W.ki_setBack d ω (by rw[dk,<-e];show l) ω %[f|(_,w,q)]
def Xv(a b:Option Int)(n:Nat):(iB a b ac n).1=((cO n 0 a:Nat):Int)/\(iB a b ac n).2.1=((cO n n b:Nat):Int)/\(iB a b ac n).2.2=1:=by
 show(?_,?_,O);cases a with
 |none=>simp[iB,cO]
 |some i=>
  erw[iB,cO,aj7,show(1:Int)>0 from ξ,fA];cases h:i<0;erw[h,fA]<;>lk;erw[h,dX]<;>lk
 cases b with
 |none=>simp[iB,cO]
 |some i=>
  erw[iB,cO,aj7,show(1:Int)>0 from ξ,fA];cases h:i<0;erw[h,fA]<;>lk;erw[h,dX]<;>lk
def Xw(a:List ae)(b c:Option Int):slicePick a.toArray b c ac=((a.drop<|cO a.length 0 b).take<|cO a.length a.length c-cO a.length 0 b).toArray:=by
 let(d,e,f):=Xv b c a.toArray.size;ext slicePick;rw[d,e,f];erw[sliceRange_one,pick_run,dk]<;>rfl
inductive BO(K:aT)(x:ak)(lo:Option Int)(hi:Option Int)(H:ag)(Q:aR):Prop
 |b:∀a xs,(x=.ref a)->(bJ K H a xs)->(∀p,H p=ac->Q 6#p (aN H p<|.lst<|jO xs lo hi))->BO K x lo hi H Q
def sW:Cz X (BO X.K):=by
 rintro g s u H x v w y e f z Q I j k l m ⟨a,c,rfl,n,q⟩;cases j;let(p,r,i,t):=I.list n;let d:=r.length;show("list",_,Si.lookup,i.isList.typeIs,?_);show aht i.isList k l m .none 0#0 ?_ (by rw[dk]<;>show à (æ d) t);rw[Xw,<-d];show(.ref s⁻¹,_,I.J (t':=s.toks) (o:=.lst<|jO c e f) (λb A q=>bQ _ q) (aE _) ?_,O,q _<|I.a.q<|aE _);show(aL (OQ c e f) t,_,0,(r.J<|cO c.length 0 e).A0<|cO c.length c.length f-cO c.length 0 e,eB _ O)
def OI:ak->Bool
 |.non=>ap
 |.c _=>ap
 |.int _=>ap
 |.str _=>ap
 |_=>aH
def YU:ak->ak->Bool
 |.non,.non=>ap
 |.c a,.c b=>a==b
 |.c a,.int b=>(if a then 1 else 0)==b
 |.int a,.c b=>a==(if b then 1 else 0)
 |.int a,.int b=>a==b
 |.str a,.str b=>a==b
 |_,_=>aH
def YW{A:cC}(e:cF y u)(c:cF x v)(g:OI y=ap)(f:OI x=ap):Km A s u v (YU y x):=by
 cases y with
 |non=>
  cases e;cases x with
  |non=>cases c;show SeqAt.EqAt.same _
  |c b=>cases c;show SeqAt.EqAt.none_bool b
  |int b=>let(t,rfl):=c;show SeqAt.EqAt.none_int b t
  |str b=>let(t,rfl):=c;show SeqAt.EqAt.none_str b t
  |_=>show bo (show aH=ap from f) fQ
 |c a=>
  cases e;cases x with
  |non=>cases c;show SeqAt.EqAt.bool_none a
  |c b=>cases c;show SeqAt.EqAt.bool_bool a b
  |int b=>let(t,rfl):=c;show SeqAt.EqAt.bool_int a b t
  |str b=>let(t,rfl):=c;show SeqAt.EqAt.bool_str a b t
  |_=>show bo (show aH=ap from f) fQ
 |int a=>
  let(d,rfl):=e;cases x with
  |non=>cases c;show SeqAt.EqAt.int_none a d
  |c b=>cases c;show SeqAt.EqAt.int_bool a d b
  |int b=>let(t,rfl):=c;show SR a d b t
  |str b=>let(t,rfl):=c;show ain a d b t
  |_=>show bo (show aH=ap from f) fQ
 |str a=>
  let(d,rfl):=e;cases x with
  |non=>cases c;show SeqAt.EqAt.str_none a d
  |c b=>cases c;show SeqAt.EqAt.str_bool a d b
  |int b=>let(t,rfl):=c;show aim a d b t
  |str b=>let(t,rfl):=c;show SeqAt.EqAt.str_str a d b t
  |_=>show bo (show aH=ap from f) fQ
 |_=>show bo (show aH=ap from g) fQ
inductive BQ(K:aT)(xs:List ak)(H:ag)(Q:aR):Prop
 |a:∀p ys,(xs=[.ref p])->(bJ K H p ys\/gr K H p ys)->Q (.int ys.length) H->BQ K xs H Q
def fU:lE X (.builtin "len") (BQ X.K):=by
 rintro f s k H l m Q I r ⟨p,g,rfl,b,q⟩;let(u,rfl,i):=kH r;cases i;let n:=BZ;obtain b|b:=b;let(c,d,e,j):=I.list b;let a:=d.length;show Calls.call_len_list e.isList (by erw[dk]<;>lk) (.int g.length,H,I.A0 _,(s.toks+1,#v[dk,a]),q);let(c,d,e,j):=I.q b;let a:=d.length;show len_tuple e (by erw[dk]<;>lk) (.int g.length,H,I.A0 _,(s.toks+1,#v[dk,a]),q)
inductive NT(K:aT)(xs:List ak)(H:ag)(Q:aR):Prop
 |a:∀p ys,(xs=[.ref p])->(bJ K H p ys\/gr K H p ys)->(∀l,H l=ac->Q 6#l (aN H l<|.lst ys))->NT K xs H Q
def GM:lE X (.type "list") (NT X.K):=by
 rintro g s A H C D Q I r ⟨p,t,rfl,i,q⟩;let(u,rfl,B):=kH r;cases B;let j:∀(a:List ae),cv t a->t.length<=bE->∀(c:aX)(d:Nat),(∀b z,s.heap.get? b=aa z->c.get? b=aa z)->
   c.get? s⁻¹=aa {cls:=.type "list",dict:=ac,data:=.seq a.toArray d,slots:=#[]}->jE X g A Q (.ref s⁻¹) {s with heap:=c}:=λa f k c d l e=>
  (.ref s⁻¹,_,I.J (t':=s.toks) l (aE _)<|show eW X.prog X.w _ c _ (.lst t) from(k,a,d,f,e),O,q _<|I.a.q<|aE _)
 obtain i|i:=i;let(a,f,v,k):=I.list i;let m:=f.length;let(o,w,x,n,y):=v.isList;show call_list_seq p (.inl O) w x y (λc d l e=>j a f k c d l e) (by erw[dk]<;>show à (æ m) k);let(a,f,v,k):=I.q i;let m:=f.length;let(o,w,x,n,y):=v;show call_list_seq p (.inr O) w x y (λc d l e=>j a f k c d l e) (by erw[dk]<;>show à (æ m) k)
def Cq:lE X (.type "tuple") (λk H Q=>∃p d,k=[.ref p]/\((bJ X.K H p d/\∀l,H l=ac->Q 6#l (aN H l<|.tup d))\/(gr X.K H p d/\Q 6#p H))):=by
 intro a s m H k z Q I r h;let(p,d,rfl,h):=h;let(u,rfl,w):=kH r;cases w;obtain⟨g,q⟩|⟨g,q⟩:=h;let(c,i,j,n):=I.list g;let t:=i.length;show call_tuple_list j.isList (λf x=>?_) (by erw[dk]<;>show à (æ t) n);let v:aK X a m H {s with heap:=f}:=I.F (t':=s.toks) x;let y:aK X a m (aN H f.objs.size<|.tup d) {s with heap:=f.push {cls:=.type "tuple",data:=.seq c.toArray}}:=
  v.J (t':=s.toks) (λb o e=>bQ _ e) (aE _)<|show eW X.prog X.w _ _ _ (.tup d) from(n,c,i,TF _ _)
 show(.ref f.objs.size,_,y,O,q _<|v.a.q<|aE _);let(c,i,j,n):=I.q g;show call_tuple_same j (.ref p,H,I,O,q)
def Gr(K:aT)(T:String)(x:ak)(H:ag):Prop:=match x with
 |.str _=>T="str"
 |.int _=>T="int"
 |.ref p=>(T="list"/\∃b,bJ K H p b)\/(T="tuple"/\∃o,K.lookup p=aa o/\o.cls=.type "tuple"/\o.dict=ac) \/
   (T="dict"/\((∃a,H p=aa (.a a))\/∃a,H p=aa (.b a)))\/(T="set"/\∃S n,H p=aa (.set S n))
 |_=>False
def Nr{q:aY}(I:aK X f q H s)(r:cF x v)(g:Gr X.K T x H):s.TypeIs v T/\∀a,v=.ref a->∃l,s.heap.get? a=aa l/\l.dict=ac:=by
 cases x with
 |str z=>
  let(t,rfl):=r;cases(show T="str" from g);show(JY s z t,λ_ e=>nomatch e)
 |int i=>
  let(t,rfl):=r;cases(show T="int" from g);show(Sg s i t,λ_ e=>nomatch e)
 |ref p=>
  cases r;obtain⟨rfl,A,u⟩|⟨rfl,o,b,w,h⟩|⟨rfl,b⟩|⟨rfl,S,n,b⟩:=g;let(y,ϟ,m,ϟ):=I.list u;show(m.isList.typeIs,λa e=>?_);cases e;let(o,n,e,c,h,ϟ):=m;show(o,e,h);show((o,I.A6 p o b,w),λa e=>?_);cases e;show(o,I.A6 _ o b,h);let z:∃o,s.heap.get? p=aa o/\o.ExactDict:=by
   obtain⟨j,b⟩|⟨j,b⟩:=b;obtain⟨_,_,_,_,o,_,_,e,d,_⟩:=I.a p _ b;show(o,e,d);obtain⟨_,_,_,_,o,_,_,e,d,_⟩:=I.a p _ b;show(o,e,d)
  let(o,e,d):=z;show((o,e,d.1),λa k=>?_);cases k;show(o,e,d.2.1);let(o,ϟ,ϟ,ϟ,e,d,ϟ):=I.a p _ b;show((o,e,d.1),λa k=>?_);cases k;show(o,e,d.2.1)
 |_=>show i' g
def Xr(K:aT)(T:String)(r:ak->List ak->ag->aR->Prop)(b:bp):bp:=λc H Q=>b c H λx a=>Gr K T x a/\r x [] a Q
def Nx(K:aT)(T:String)(r:ak->List ak->ag->aR->Prop)(c:bp)(t:fN):bp:=λa H Q=>c a H λx b=>Gr K T x b/\t a b λd e=>r x d e Q
variable{o e:bG}{es:List bG}{to:bp}{t:fN}{name:aB}{apos cpos:dt}{T id:String}{r:ak->List ak->ag->aR->Prop}
def XO(j:PlainAttrs T)(d:Slot T name id)(e:typeOf (.builtin id)=cq (.type "method_descriptor"))(k:CG X id r)(l:bY X o to)(b:Kf o name X.env (dw o X.env)=dw o X.env:=by rfl)(c:(apos.endLine==cpos.line)=ap:=by rfl):bY X (.Call (.Attribute o name apos) [] [] cpos) (Xr X.K T r to):=by
 intro a s f H Q I h;show wpAny_Call_method0_late b c<|bO (l a s f H _ I h) λv m (x,n,g,i,p,q)=>?_;let(t,u):=Nr g i p;show(T,id,j,d,e,t,u,Tp O<|PySem.evalArgs_none<|k a m f n x [] v [] Q g i .nil q)
def pZ(n:PlainAttrs T)(f:Slot T name id)(i:typeOf (.builtin id)=cq (.type "method_descriptor"))(p:CG X id r)(q:bY X o to)(u:jQ X (e::es) t)(c:Kf o name X.env (dw o X.env)=dw o X.env:=by rfl)
  (g:((oF cpos<|eR (e::es) X.env).all (λx=>!x.1)&&(SG cpos<|Su [] X.env).all (λx=>x.1.isSome)
   && aJ ((e::es).length+([]:List yj).length+(if([]:List yj).isEmpty then 0 else 1)<30))=ap:=by rfl)
  (d:(apos.endLine==cpos.line)=ap:=by rfl) (w:eR (e::es) X.env=(ahl aH (dw e X.env))::eR es X.env:=by rfl) (b:(oF cpos<|eR es X.env).any (·.1)=aH:=by rfl) :
  bY X (.Call (.Attribute o name apos) (e::es) [] cpos) (Nx X.K T r to t):=by
 intro a s j H Q I h;show wpAny_Call_method_late c g d O<|bO (q a s j H _ I h) λv y (x,z,k,l,A,B)=>?_;let(C,D):=Nr k l A;show(T,id,n,f,i,C,D,?_);let m:=u cpos a y j z _ k B;rw[w] at m ⊢;show Tp (by change(aH|| (oF cpos<|eR es X.env).any (·.1))=aH;rw[b]<;>rfl)<|ajc ?_;show bO m λE G (K,L,M,N,P)=>p a G j L x K v E Q M l N P
end
def CH(X:bj)(e:String)(r:ak->List ak->ag->aR->Prop):Prop:=
 ∀(a:Ψ)(s:ax)(b:aY)(H:ag)(x:ak)(c:List ak)(v:ae)(d:List ae)(Q:aR),aK X a b H s->cF x v->cv c d->r x c H Q->
  aF 3#0 X.A (kz (.builtin e)<|v::d) (jE X a b Q) X.a s
def cv.A1{x:ak}(h:cv [x] a):∃u,a=[u]/\cF x u:=by
 cases h with|cons r t=>cases t;show(_,O,r)
def cv.A3{x y:ak}(h:cv [x,y] a):∃u v,a=[u,v]/\cF x u/\cF y v:=by
 cases h with|cons r t=>let(v,rfl,q):=cv.A1 t;show(_,_,O,r,q)
def cv.zero:∀{a:List ae},cv [] a->a=[]
 |_,.nil=>O
def cv.A4(h:cv a b):∀k:Nat,cv (eL k a).flatten (eL k b).flatten
 |0=>.nil
 |k+1=>by
  rw[qG,qG,yB,yB];show cv.F h<|cv.A4 h k
def OG(a:List ae):∀(k:Nat)(b:List ae),
  nO (λc d=>c++d) b.toArray (eL k a.toArray)=(b++(eL k a).flatten).toArray
 |0,b=>by simp
 |k+1,b=>by
  let e:b.toArray++a.toArray=(b++a).toArray:=by simp
  let f:(b++a)++(eL k a).flatten=b++(eL (k+1) a).flatten:=by
   rw[qG,yB,Uh]
  rw[<-f,<-OG a k<|b++a,<-e,qG,sj]
section
variable{X:bj}{pins:Ψ}{σ:aY}{H:ag}{s:ax}{l b:ab}{xs ys zs:List ak}
def aK.C7{a its':List ae}{n:Nat}{f:Array ae->Array ae}{t':Nat}(I:aK X pins σ H s)(b:H l=aa (.lst xs))(e:s.heap.get? l=aa {cls:=.type "list",data:=.seq a.toArray n})(c:f a.toArray=its'.toArray)(d:cv ys its')(g:ys.length<=bE):aK X pins σ (aN H l<|.lst ys) {s with heap:=s.heap.update l<|cY f,toks:=t'}:=by
 let q:=PySem.IsL.update e f;rw[c] at q;show I.C4 (x:=l) (e:=l) %[b|trivial] (.inl O) (λj u h i=>(rP s.heap (cY f)<|cQ h).trans i) (_,q) ?_;show(g,its',_,d,q)
def aK.C2{a:List ae}{t':Nat}(I:aK X pins σ H s)(b:cv ys a)(c:ys.length<=bE):aK X pins σ (aN H s⁻¹<|.lst ys) {s with heap:=s.heap.push {cls:=.type "list",data:=.seq a.toArray},toks:=t'}:=
 I.J (λ_ _ q=>bQ _ q) (aE _) (c,a,0,b,eB _ O)
def aK.C9(I:aK X pins σ H s):H s⁻¹=ac:=I.a.q<|aE _
def aK.B0(I:aK X pins σ H s)(b:H l=aa (.lst xs)):xs.length<=bE/\∃(a:List ae)(n:Nat),cv xs a/\xs.length=a.length/\s.heap.get? l=aa {cls:=.type "list",data:=.seq a.toArray n}:=by
 let(z,a,n,r,e):=I.a l _ b;show(z,a,n,r,r.length,e)
def XZ{n:Nat}(h:n<=bE):Ts n=aH:=by
 ext Ts;show dD (ù h)
end
section
variable{X:bj}
inductive NW(x:ak)(vs:List ak)(H:ag)(Q:aR):Prop
 |a:∀l xs y,(x=.ref l)->(vs=[y])->(H l=aa (.lst xs))->(xs.length<bE)->(Q .non<|aN H l<|.lst<|xs++[y])->NW x vs H Q
def uH:CH X "list.append" NW:=by
 rintro b s i H x j v k Q I d f ⟨l,m,y,rfl,rfl,c,o,q⟩;cases d;let(u,rfl,g):=f.A1;let(z,a,n,r,p,e):=I.B0 c;show tS yl (_,e,O) F.entry_list_append (F.args_list_append_2 _ _) (PySem.list_append l a.toArray n u %[dk|à (æ p) z]) (e,?_);show(.non,_,I.C7 (its':=a++[u]) c e 0#0 (r.F<|.cons g .nil) ?_,O,q);rw[eE,TZ];show o
inductive Gz(x:ak)(y:ak)(H:ag)(Q:aR):Prop
 |a:∀l b xs zs,(x=.ref l)->(y=.ref b)->(H l=aa (.lst xs))->(H b=aa (.lst zs))->(xs.length+zs.length<=bE)->(∀p,H p=ac->Q 6#p (aN H p<|.lst<|xs++zs))->Gz x y H Q
def wQ:gs X (oE .Add) Gz:=by
 rintro d s t H x y v u Q I f g ⟨l,b,w,A,rfl,rfl,i,j,B,q⟩;cases f;cases g;let(z,c,n,r,C,e):=I.B0 i;let(D,a,E,k,m,o):=I.B0 j;show PySem.P.add_list e o ?_ %[dk,dk|à (à (ð (æ C)) (ñ (æ m))) B];let p:c.toArray++a.toArray=(c++a).toArray:=by simp
 rw[p];show(.ref _,_,I.C2 (t':=s.toks) (r.F k) %[eE|B],O,q _ I.C9)
inductive NQ(x:ak)(y:ak)(H:ag)(Q:aR):Prop
 |a:∀l k xs,(x=.ref l)->(y=.int k)->(H l=aa (.lst xs))->(-(2 ^ 63)<=k)->(k<2 ^ 63)->(xs.length*k.toNat<=bE)->(∀p,H p=ac->Q 6#p (aN H p<|.lst (eL k.toNat xs).flatten))->NQ x y H Q
def Yj{b:Type}(a:List b)(k:Nat):(eL k a).flatten.length=k*a.length:=by
 induction k with
 |zero=>simp
 |succ k c=>rw[qG,yB,eE,c,Nat.succ_mul,K']
def GB:gs X (oE .Mult) NQ:=by
 rintro p s M H x y v u Q I A B ⟨l,k,N,rfl,rfl,C,D,E,w,q⟩;cases A;let(t,rfl):=B;let(z,b,n,r,G,e):=I.B0 C;let d:b.toArray.size*k.toNat<=bE:=by rw[dk,<-G];show w
 let f:¬b.toArray.size*k.toNat>(2 ^ 63-1) / 8:=by
  have:(bE:Nat)<=(2 ^ 63-1) / 8:=ξ;show ù (à d this)
 let g:¬(!Tt k)=ap:=by
  rw[fitsIndex_both D E];show fQ
 let c:¬Ts (b.toArray.size*k.toNat)=ap:=by
  rw[XZ d];show fQ
 let i:nO (λj o=>j++o) #[] (eL (if b.toArray.isEmpty=ap then 0 else k.toNat) b.toArray)=(eL k.toNat b).flatten.toArray:=by
  let K:∀m:Nat,nO (λj o=>j++o) #[] (eL m b.toArray)=(eL m b).flatten.toArray:=λm=>by
   have:=OG b m [];rw[List.nil_append] at this;show this
  rw[K];cases b with
  |nil=>simp
  |cons a P=>rw[ar 0#0]
 show wpAny_binaryOp_repeat_ref (T:="list") (U:="int") ξ (_,e,O) (λL=>Sg L k t) noFill_list_mul F.fills_int_mul aiw repeat_list F.slot_int_index.lookup
  (tS aiw (Sg s k t) F.entry_int_rmul (F.args_int_rmul_2 _ _) (int___rmul___int_list k t l b.toArray n)
   (e,O,(_,e,O),tS F.slot_list_mul (_,e,O) F.entry_list_mul (F.args_list_mul_2 _ _) (AutoListH.list___mul___list_int_3 l b.toArray n k t g f c) (e,?_)))
 rw[i];show(.ref _,_,I.C2 (t':=s.toks) (r.A4 k.toNat) %[Yj,kB|w],O,q _ I.C9)
end
section
variable{prog:bh}{w:ba}{A:cC}{E:Ω}{s:ax}
set_option maxRecDepth 100000 in
end
section
variable{κ:Type}[DecidableEq κ]
def gR(a:List (κ×ak))(k:κ):Option ak:=(a.find? λb=>aJ<|b.1=k).map (·.2)
def fo(a:List (κ×ak))(k:κ)(v:ak):List (κ×ak):=
 if(a.any λb=>aJ<|b.1=k)=ap then a.map (λb=>if b.1=k then(ahl b.1 v) else b) else a++[(ahl k v)]
def Gl{p:κ×ak}{r:List (κ×ak)}{k:κ}(e:p.1=k):gR (p::r) k=aa p.2:=by simp[gR,sn,e]
def Gn{p:κ×ak}{r:List (κ×ak)}{k:κ}(e:¬p.1=k):gR (p::r) k=gR r k:=by simp[gR,sn,e]
def Gp(k:κ):∀a:List (κ×ak),(a.any λb=>aJ<|b.1=k)=(gR a k).isSome
 |[]=>O
 |p::r=>by
  rw[Ly];cases e:p.1=k;erw[Gl e,cN e,Bool.true_or,Option.isSome_some];rw[Gn e,dD e,Bool.false_or];show Gp k r
def B_(a:List (κ×ak))(k:κ)(v:ak):(fo a k v).length<=a.length+1:=by
 ext fo;split;rw[aA];show ü;rw[eE,dI,wa];show ß
def Oa{k:κ}(v:ak)(h:gR a k=ac):fo a k v=a++[(ahl k v)]:=by
 ext fo;rw[Gp,h];show ar ξ
def re.F(r:re o u):o.isSome=u.isSome:=by
 cases o with
 |none=>cases u with
  |none=>rfl
  |some _=>show(show False from r).elim
 |some _=>cases u with
  |none=>show(show False from r).elim
  |some _=>rfl
def re.J(r:re o u)(b:cF d a):cF (o.getD d) (u.getD a):=by
 cases o with
 |none=>cases u with
  |none=>show b
  |some _=>show(show False from r).elim
 |some _=>cases u with
  |none=>show(show False from r).elim
  |some _=>show r
def kh.val(r:kh a f)(k:κ):re (gR a k) (rK f k):=by
 unfold kh at r;induction r with
 |nil=>show xZ
 |@cons p q l c h t i=>
  let(g,j):=h;cases e:p.1=k;have d:q.1=k:=g.symm.trans e;have b:rK (q::c) k=aa q.2:=by simp[rK,sn,d]
  rw[Gl e,b];show j;let d:¬q.1=k:=λz=>e<|g.trans z;let b:rK (q::c) k=rK c k:=by simp[rK,sn,d]
  rw[Gn e,b];show i
def kh.J(r:kh a c)(k:κ):(a.any λb=>aJ<|b.1=k)=c.any λb=>aJ<|b.1=k:=by
 unfold kh at r;induction r with
 |nil=>rfl
 |cons h t d=>rw[Ly,Ly,d,h.1]
def kh.A0(r:kh b d)(k:κ)(f:cF y u):kh (b.map λa=>if a.1=k then(ahl a.1 y) else a) (d.map λa=>if a.1=k then(ahl a.1 u) else a):=by
 unfold kh at r ⊢;induction r with
 |nil=>show .nil
 |@cons p q j l h t g=>
  rw[fg,fg];show .cons ?_ g;let(c,i):=h;cases e:p.1=k;rw[aw e,aw<|c.symm.trans e];show(c,f);rw[ar e,ar (λz=>e<|c.trans z)];show(c,i)
def kh.F(r:kh a b)(k:κ)(c:cF y u):kh (fo a k y) (stored b k u):=by
 ext fo stored;rw[r.J k];cases e:(b.any λd=>aJ<|d.1=k)=ap;rw[aw e,aw e];show r.A0 k c;rw[ar e,ar e];show EH r (O,c)
def kh.length(r:kh a b):a.length=b.length:=m_ r
end
def wV{k:bi}(r:cF (dT k) u):(gh P w).is k u=ap:=by
 cases k with
 |inl i=>let(t,e):=(show ∃t,u=br i t from r);subst e;show GF P w i t
 |inr x=>let(t,e):=(show ∃t,u=vG x t from r);subst e;show Yf P w x t
def Ox:∀{a:List bi}{b:List ae},cv (a.map dT) b->EI (gh P w) a b
 |[],_,r=>by rw[AT] at r;cases r;show .nil
 |k::a,_,r=>by
  rw[fg] at r;cases r with
  |cons h t=>show .cons (wV h)<|Ox t
abbrev mh(H:ag):List (List bi×ak)->List (List bi×ab×ae)->Prop:=gD λp q=>p.1=q.1/\H q.2.1=aa (.tup<|p.1.map dT)/\cF p.2 q.2.2
def mh.val(r:mh H a f)(k:List bi):re (gR a k) ((tT f k).map (·.2)):=by
 induction r with
 |nil=>show xZ
 |@cons p q l c h t i=>
  let(g,ϟ,j):=h;cases e:p.1=k;have d:q.1=k:=g.symm.trans e;have b:tT (q::c) k=aa q.2:=by simp[tT,sn,d]
  rw[Gl e,b];show j;let d:¬q.1=k:=λz=>e<|g.trans z;let b:tT (q::c) k=tT c k:=by simp[tT,sn,d]
  rw[Gn e,b];show i
def mh.A0(r:mh H a d)(k:List bi)(g:cF y u):mh H (a.map λc=>if c.1=k then(ahl c.1 y) else c) (d.map<|putAt k u):=by
 induction r with
 |nil=>show .nil
 |@cons p q l m h t i=>
  rw[fg,fg];show .cons ?_ i;let(b,f,j):=h;ext putAt;cases e:p.1=k;rw[aw e,aw<|b.symm.trans e];show(b,f,g);rw[ar e,ar (λz=>e<|b.trans z)];show(b,f,j)
def mh.J(r:mh H a c)(k:List bi)(f:H b=aa (.tup<|k.map dT))(d:cF y u):mh H (fo a k y) (Es c k b u):=by
 let e:(a.any λg=>aJ<|g.1=k)=(tT c k).isSome:=by
  rw[Gp,(r.val k).F,aj4]
 ext fo Es;rw[e];cases q:(tT c k).isSome=ap;rw[aw q,aw q];show r.A0 k d;rw[ar q,ar q];show EH r (O,f,d)
def mh.F{H c:ag}(r:mh H a d)(f:∀b e,H b=aa (.tup e)->c b=aa (.tup e)):mh c a d:=
 lw r λ_ _ z=>(z.1,f _ _ z.2.1,z.2.2)
section
variable{P:bh}{w:ba}{H:ag}{h:aX}{a:ab}
def NJ(b:ie P w H h)(e:lv H a u):eW P w H h a u:=e.q b
def w_(d:ie P w H h)(e:lv H a (.a b)):b.length<=bE/\(a==oD)=aH/\∃c,kh b c/\h.DictOf (gh P w) a c:=
 show eW P w H h a (.a b) from NJ d e
def uJ(d:ie P w H h)(e:H a=aa (.a b)):b.length<=bE/\(a==oD)=aH/\∃c,kh b c/\h.DictOf (gh P w) a c:=w_ d<|.inl e
def wS{b:List bi}(d:ie P w H h)(e:H a=aa (.tup<|b.map dT)):(nG<|gh P w).is h b a:=by
 let(ϟ,c,r,o,f,g,n,i):=(show eW P w H h a (.tup<|b.map dT) from d a _ e);show(o,c.toArray,n,f,g,i,by simpa using Ox r)
def wZ(g:ie P w H h)(e:lv H a (.b b)):b.length<=bE/\(a==oD)=aH/\
  ∃d,mh H b d/\h.DictOfH (nG<|gh P w) a d:=by
 let(z,y,d,r,o,j,k,n,s,u,v,A):=(show eW P w H h a (.b b) from NJ g e);show(z,y,d,r,o,j,k,n,s,u,v,λx c=>?_,A);let f:∀{l:List (List bi×ak)}{m:List (List bi×ab×ae)},mh H l m->∀x∈m,(nG<|gh P w).is h x.1 x.2.1:=by
  intro l m q;induction q with
  |nil=>intro x c;show nomatch c
  |@cons p q C D i t B=>
   intro x c;obtain e|c:=ci.mp c;subst e;show wS g (by rw[<-i.1];show i.2.1);show B x c
 show f r x c
def YX(d:ie P w H h)(e:H a=aa (.b b)):b.length<=bE/\(a==oD)=aH/\
  ∃c,mh H b c/\h.DictOfH (nG<|gh P w) a c:=wZ d<|.inl e
end
def lD(H:ag)(a:ab)(y:ak)(r:Option ak):Prop:=
 (∃c k,lv H a (.a c)/\y=dT k/\r=gR c k)\/∃c k b,lv H a (.b c)/\y=.ref b/\H b=aa (.tup<|k.map dT)/\r=gR c k
def zH(H:ag)(a:ab)(y v:ak)(d:ag):Prop:=
 (∃c k,H a=aa (.a c)/\y=dT k/\c.length<bE/\d=aN H a (.a<|fo c k v)) \/
 ∃c k b,H a=aa (.b c)/\y=.ref b/\H b=aa (.tup<|k.map dT)/\c.length<bE/\d=aN H a (.b<|fo c k v)
def lD.k{H:ag}{k:bi}(e:H a=aa (.a b)):lD H a (dT k) (gR b k):=.inl (b,k,.inl e,O,O)
def lD.t{H:ag}{k:List bi}(e:H a=aa (.b c))(d:H b=aa (.tup<|k.map dT)):lD H a 6#b (gR c k):=.inr (c,k,b,.inl e,O,d,O)
def zH.k{H:ag}{k:bi}(e:H a=aa (.a b))(c:b.length<bE):zH H a (dT k) v (aN H a<|.a<|fo b k v):=.inl (b,k,e,O,c,O)
def zH.t{H:ag}{k:List bi}(e:H a=aa (.b c))(d:H b=aa (.tup<|k.map dT))(f:c.length<bE):zH H a 6#b v (aN H a<|.b<|fo c k v):=.inr (c,k,b,e,O,d,f,O)
section
variable{X:bj}{pins:Ψ}{σ:aY}{H:ag}{s:ax}{a:ab}{y v:ak}{u r:ae}{o:Option ak}{A:cC}{E:Ω}
def aK.B9(I:aK X pins σ H s):oD<s⁻¹:=by
 let h:mq<s⁻¹:=(I.B3.b.keeps I.bk).lt;show uh ξ h
def Zc{Q:Ω}(w:A.units+1<eJ)(I:aK X pins σ H s)(g:lD H a y (aa v))(r:cF y u)(h:∀f t,aK X pins σ H t->cF v f->Q f t):aF 3#0 A (qw 6#a u) Q E s:=by
 obtain⟨i,k,e,j,l⟩|⟨i,k,b,e,j,x,l⟩:=g;subst j;let(z,B,C,c,m):=w_ I.a e;let(f,n,d):=re.q (v:=v) (o:=rK C k) %[l|c.val k];show wpAny_getItem_of (wV r) m.mapOf n<|h f _ (I.A0 _) d;subst j;cases(show u=aj b from r);let(z,B,D,c,m):=wZ I.a e;let(f,n,d):=re.q (v:=v) (o:=(tT D k).map (·.2)) %[l|c.val k];let(p,G,q):=ue.mp n;show wpAny_getItem_heap (Eo w) (wS I.a x) m G ?_;rw[q];show h f _ (I.A0 _) d
def Zb{Q:Ω}(p:A.units+1<eJ)(I:aK X pins σ H s)(g:lD H a y o)(m:cF y u)(h:∀n,aK X pins σ H n->Q (.bool o.isSome) n):aF 3#0 A (kx .In u<|.ref a) Q E s:=by
 obtain⟨d,k,e,f,l⟩|⟨d,k,b,e,f,r,l⟩:=g;subst f;let(z,i,t,c,j):=w_ I.a e;show wpAny_in_of (wV m) i j.mapOf ?_;rw[<-(c.val k).F,<-l];show h _<|I.A0 _;subst f;cases(show u=aj b from m);let(z,i,v,c,j):=wZ I.a e;show wpAny_in_heap (Eo p) (wS I.a r) i j ?_;let q:=(c.val k).F;rw[aj4] at q;rw[<-q,<-l];show h _<|I.A0 _
def zv{t':Nat}(I:aK X pins σ H s)(f:zC (H a))(g:jf a s.heap c)(h:∃q,c.get? a=aa q)(d:eW X.prog X.w (aN H a ob) c a ob):aK X pins σ (aN H a ob) {s with heap:=c,toks:=t'}:=
 I.C4 (x:=a) (e:=a) f (.inl O) (λb q i z=>(g.2 b i).trans z) h d
def OK{e:aX}{b:List (bi×ak)}(z:b.length<=bE)(g:(a==oD)=aH)(d:kh b c)(h:e.DictOf (gh P w) a c):eW P w f e a (.a b):=(z,g,c,d,h)
def Za{Q:Unit->ax->Prop}(N:A.units+1<eJ)(I:aK X pins σ H s)(g:zH H a y v B)(C:cF y u)(D:cF v r)(h:∀G,aK X pins σ B G->Q () G):aF 3#0 A (setItem 6#a u r) Q E s:=by
 obtain⟨d,k,e,m,l,n⟩|⟨d,k,b,e,m,K,l,n⟩:=g;subst m n;let(z,o,P,f,p):=uJ I.a e;let t:P.length<=bE:=by rw[<-f.length];show z
 let w:(fo d k v).length<=bE:=by have:=B_ d k v;show à this l
 show wpAny_setItem_pairs (hsz:=t) (wV C) p λL i x=>h _ ?_;let R:∃q,L.get? a=aa q:=let ⟨q,_,_,j,_⟩:=i;(q,j);show zv I %[e|xZ] x R<|OK w o (f.F k D) i;subst m n;cases(show u=aj b from C);let(z,o,S,f,p):=YX I.a e;let t:S.length<=bE:=by rw[<-m_ f];show z
 let w:(fo d k v).length<=bE:=by have:=B_ d k v;show à this l
 show wpAny_setItem_heap (hsz:=t) (Eo N) (wS I.a K) p λL i x=>h _ ?_;let(q,T,U,j,V,W,Y,ϟ,Z):=i;show zv I %[e|xZ] x (q,j) (w,o,_,(f.J k K D).F λc ys M=>?_,q,T,U,j,V,W,Y,Z);rw[bI<|md M e (λz=>nomatch z)];show M
end
def Pn(i:bG):Prop:=∀a b,Er i aH a b=J_ [a,b] (qw a b)
def Xt{A:cC}{j:im}{n:dt}{T q:String}(t:JX (.type T) "__getitem__"=cq (aa<|.builtin q))(u:Pn b)(h:aF (aV a w) A (dw c j) (λo f=>aF (aV a w) A (dw b j) (λi d=>d.TypeIs o T/\aF (aV a w) A (qw o i) Q E d) E f) E s):aF (aV a w) A (dw (.Subscript c b n) j) Q E s:=by
 show KO<|lN h (λo f l=>lN l (λi d e=>?_) λ_ _ x=>x) λ_ _ x=>x;let(p,e):=e;ext KI;calc ?_;rw[getitemInPython_of_ne p.not_modules];calc JN p t ?_;let k:aF (aV a w) A (Er b aH o i) (λr g=>aF (aV a w) A (letTemporaryGo c o r >>= λ_=>cq r) Q E g) E d:=by
  rw[u o i];show wpAny_operating<|lN e (λr g m=>ao<|wpAny_letTemporaryGo<|aO m) λ_ _ x=>x
 first
  |show aO<|ao k
  |show wpAny_bind<|wpAny_pure<|wpAny_bind k
  |show wpAny_bind k
def Y_(I:aK X c h H s)(g:lD H a y o):s.TypeIs 6#a "dict":=by
 obtain⟨d,k,e,_,_⟩|⟨d,k,b,e,_,_,_⟩:=g;let(ϟ,ϟ,i,ϟ,f):=w_ I.a e;show f.typeIs;let(ϟ,ϟ,j,ϟ,f):=wZ I.a e;show f.typeIs
inductive Pg(x y:ak)(Q:aR)(H:ag):Prop
 |b:∀a v,(x=.ref a)->lD H a y (aa v)->Q v H->Pg x y Q H
def Xp(b c:bp):bp:=λa H Q=>b a H λx d=>c a d λy e=>Pg x y Q e
def Xo(d e:bp):bp:=λb H Q=>d b H λy f=>e b f λx c=>∃a o,x=.ref a/\lD c a y o/\Q (.c o.isSome) c
def Xx(d e f:bp):gJ:=λD b H=>f b H λv g=>d b g λx h=>e b h λy i=>∃a c,x=.ref a/\zH i a y v c/\D.a b c
section
variable{X:bj}{o i e value:bG}{pos pos' tpos:dt}{td ty tv:bp}
def mM(f:X.A.units+1<eJ)(j:bY X o td)(k:bY X i ty)(l:Pn i):bY X (.Subscript o i pos) (Xp td ty):=by
 intro b s d H Q I h;show Xt PySem.F.slot_dict_getitem.lookup l<|bO (j b s d H _ I h) λu m (x,n,p,q,r)=>bO (k b m d n _ p r) λC D (y,t,e,w,a,v,z,g,A)=>?_;subst z;obtain rfl:u=aj a:=q;show(Y_ e g,Zc f e g w λE G B c=>(v,t,B,c,A))
def XQ(d:X.A.units+1<eJ)(e:bY X i ty)(f:bY X o td):Pl X .In i o (Xo ty td):=by
 intro b s c H Q I h;show bO (e b s c H _ I h) λA j (y,k,l,m,n)=>bO (f b j c k _ l n) λu B (x,p,q,r,a,t,v,g,w)=>?_;subst v;obtain rfl:u=aj a:=r;show Zb d q g m λC z=>(.c t.isSome,p,z,O,w)
def qW(d:X.A.units+1<eJ)(e:bY X o td)(f:bY X i ty)(j:bY X value tv)(k:Ep value (aa<|.Subscript o i pos') pos.line X.env=cq aH):oq X (.Assign [.Subscript o i pos'] value pos) (Xx td ty tv):=by
 intro b s c H D I h;show wpAny_Assign_Subscript (bO (j b s c H _ I h) λr l (v,m,n,p,q)=>bO (e b l c m _ n q) λu t (x,w,z,A,B)=>bO (f b t c w _ z B) λN P (y,Q,C,E,a,G,K,g,L)=>?_) k;subst K;obtain rfl:u=aj a:=A;show Za d C g E p λR M=>(c,G,M,L)
end
def YZ(h:aX)(a:oD<h.objs.size):eW P w H (h.push {cls:=.type "dict",data:=.dict #[]}) h.objs.size (.a []):=
 (cJ _,beq_eq_false_iff_ne.mpr<|cQ<|cP a,[],.nil,amu h)
def YY(h:aX)(a:oD<h.objs.size):eW P w H (h.push {cls:=.type "dict",data:=.dict #[]}) h.objs.size (.b []):=
 (cJ _,beq_eq_false_iff_ne.mpr<|cQ<|cP a,[],.nil,_,#[],0,eB _ O,(O,O,O),O,O,pK)
def Xn:bp:=λ_ H Q=>∀p,H p=ac->Q 6#p (aN H p<|.a [])
def Xm:bp:=λ_ H Q=>∀p,H p=ac->Q 6#p (aN H p<|.b [])
section
variable{X:bj}{pos:dt}
def zo:bY X (.Dict [] [] pos) Xn:=λb s c H Q I h=>
 ahx (.ref s⁻¹,_,I.J (a:=s⁻¹) (o:=.a []) (t':=s.toks) (λ_ _ q=>bQ _ q) (aE _)<|YZ s.heap I.B9,O,h _<|I.a.q<|aE _)
def GA:bY X (.Dict [] [] pos) Xm:=λb s c H Q I h=>
 ahx (.ref s⁻¹,_,I.J (a:=s⁻¹) (o:=.b []) (t':=s.toks) (λ_ _ q=>bQ _ q) (aE _)<|YY s.heap I.B9,O,h _<|I.a.q<|aE _)
end
structure Zw(X:bj)(o:bG)(m:aB)(apos:dt)(e f:bG)(cpos:dt):Prop where
 d:Kf o m X.env (dw o X.env)=dw o X.env
 a:((oF cpos<|eR [e,f] X.env).all (λx=>!x.1)&&(SG cpos<|Su [] X.env).all (λx=>x.1.isSome)
  && aJ (([e,f]:List bG).length+([]:List yj).length+(if([]:List yj).isEmpty then 0 else 1)<30))=ap
 b:(apos.endLine==cpos.line)=ap
 c:oF cpos (eR [e,f] X.env)=[(ahl aH (dw e X.env)),(ahl aH (dw f X.env))]
def Po(H:ag)(a:ab):Prop:=(∃b,lv H a (.a b))\/∃b,lv H a (.b b)
def Yt(I:aK X f l H s)(d:Po H a):s.TypeIs 6#a "dict"/\(∀b,aj a=.ref b->∃c,s.heap.get? b=aa c/\c.dict=ac)/\(a==oD)=aH:=by
 obtain⟨h,e⟩|⟨h,e⟩:=d;let(ϟ,i,m,ϟ,g):=w_ I.a e;show(g.typeIs,λb q=>?_,i);cases q;let(c,ϟ,ϟ,j,k,ϟ):=g;show(c,j,k.2.1);let(ϟ,i,n,ϟ,g):=wZ I.a e;show(g.typeIs,λb q=>?_,i);cases q;let(c,ϟ,ϟ,j,k,ϟ):=g;show(c,j,k.2.1)
section
variable{X:bj}{pins:Ψ}{σ:aY}{H:ag}{s:ax}{a:ab}{y d:ak}{u r:ae}{o:Option ak}{A:cC}{E:Ω}
def Zd{Q:Ω}(v:A.units+1<eJ)(I:aK X pins σ H s)(g:lD H a y o)(n:cF y u)(p:cF d r)(h:∀q t,aK X pins σ H t->cF (o.getD d) q->Q q t):aF 3#0 A (kz (.builtin "dict.get") [.ref a,u,r]) Q E s:=by
 obtain⟨i,k,e,j,l⟩|⟨i,k,b,e,j,w,l⟩:=g;subst j;let(z,m,B,c,f):=w_ I.a e;show Kd SZ f.typeIs ai6 (aja _ _ _) (meets_dict_get_default (gh X.prog X.w) a (wV n) m r) (_,f.mapOf,h _ _ (I.A0 _) ?_);rw[l];show(c.val k).J p;subst j;cases(show u=aj b from n);let(z,m,x,c,f):=wZ I.a e;show Kd SZ f.typeIs ai6 (aja _ _ _) (meetsH_dict_get_default (nG<|gh X.prog X.w) a b m r) (Eo v,k,x,wS I.a w,f,h _ _ (I.A0 _) ?_);rw[l];show(c.val k).J p
end
def Nw(e f g:bp):bp:=λb H Q=>e b H λx c=>∃a,x=.ref a/\Po c a/\f b c λy h=>g b h λz d=>∃o,lD d a y o/\Q (o.getD z) d
section
variable{X:bj}{o e f:bG}{apos cpos:dt}{td ty tx:bp}
def Om(k:X.A.units+1<eJ)(l:bY X o td)(n:bY X e ty)(p:bY X f tx)(m:Zw X o "get" apos e f cpos):bY X (.Call (.Attribute o "get" apos) [e,f] [] cpos) (Nw td ty tx):=by
 intro b s c H Q I h;show wpAny_Call_method m.d m.a m.b S_ SZ PySem.F.type_dict_get<|bO (l b s c H _ I h) λu q (x,r,j,t,a,v,d,w)=>?_;subst v;obtain rfl:u=aj a:=t;let(A,B,ϟ):=Yt j d;show(A,B,?_);rw[m.c];show Tp O (ajc (KC (bO (n b q c r _ j w) λS C (y,D,E,G,K)=>
  KC<|bO (p b C c D _ E K) λT U (z,L,M,N,V,g,P)=>To ?_)))
 show Zd k M g G N λW Y R i=>(_,L,R,i,P)
end
section
open PySem.Calls
def ahh:∀(c:Ζ)(d:List ae),WellAll P h d (c.map Kh)->ia d c:=by
 intro c;induction c with
 |nil=>
  intro d w;rw[AT] at w;cases w;show .nil
 |cons n c e=>
  intro d w;rw[fg] at w;cases w with
  |cons a b=>
   cases a;show .cons _ _<|e _ b
def ahf{l:Ax}{n:Nat}(t:l.most=aa n)(f:l.row.toRowW.claim.pre b=ap)(m:WellAll P h e b):∃a p c,e=[aj a]/\b=[WData.list<|c.map Kh]/\h.get? a=aa {cls:=.type "list",data:=.seq p.toArray}/\ia p c/\c.length<=n:=by
 let o:WShape.hasAll [] b [.list .int]=ap:=(pre_splitW f).1;let s:l.pre.holds [] {args:=b}=ap:=(pre_splitW f).2;let(d,r,rfl,u,v):=hasAllW_cons o;obtain rfl:=hasAllW_nil v;let(B,rfl,w):=hasW_list u;let(c,rfl):=items_int w;let g:c.length<=n:=by
  unfold OpenLaw.pre at s;let j:(WTm.not<|.lt (.lit<|.int (n:Int))<|.len<|.arg 0).holds [] {args:=[.list<|c.map .int]}=ap:=by
   let j:=(holds_andW s).1;rw[t] at j;show j
  let k:=condW_of j<|w_not<|w_lt w_lit<|w_len_list<|w_arg O;rw[aA] at k;show TP λq=>?_;let x:(n:Int)<((c.length:Nat):Int):=ω;first
   |(rw[cN x] at k;show bo k ξ)
   |(simp at k;lk)
 cases m with
 |cons y z=>
  cases z;cases y with
  |list A i=>show(_,_,c,O,O,A,ahh c _ i,g)
def ahg(l:Ax)(a:List WData):l.row.toRowW.claim.post a (.bool ap) a=ap:=
 postW_of (r:=l.row.toRowW) (X:=(ap==ap))
  (show WShape.has [] (.bool ap) .bool=ap by first|rfl|decide|simp[WShape.has,WShape.arms,WShape.armsAll])
  (show(WTm.eq .res<|.lit<|.bool ap).value [] {args:=a,res:=aa<|.bool ap,after:=a}=aa (.bool<|ap==ap) from w_eq_bool (w_res O) w_lit) O
def ahi{l:Ax}{n:Nat}{q:bh}{c:List aB}{E:(aB->Option ae)->aX->Prop}{H:ba->aX->Prop}{d:DefRec}(N:l.most=aa n)(y:d.params.defaults=[])(j:∀(w:ba)(e b:ax)(t z:aB->Option ae)(k:ab)(o:bq)(A u g:ae)(a:ab)(i:List ae)(v:Ζ),
   Ground q c [] E w e t z b.heap->H w b.heap->
   b.heap.get? k=aa o->o.data=.func (docDef d.name d.params d.body d.scope A u g)->b.heap.CodeRec u d.name->t d.name=aa 6#k->
   b.heap.get? a=aa {cls:=.type "list",data:=.seq i.toArray}->ia i v->v.length<=n->b.gens=#[]->
   ky (aV l.prog w) yf (.call 6#k ([.ref a],[])) (λr x=>r=.ok (.ret<|.bool ap)/\OldK b.heap x.heap/\x.os=b.os/\uc x.gens) b):
  SO q c E H l.row.toRowW d [] (λf i=>kz f i):=by
 intro w e b t z G Y k o A u g P Q R S B I C T K L as m M U D V;obtain rfl:P=.none:=Dflts.none I y;obtain rfl:Q=.none:=Dflts.noKw I;let(a,i,v,rfl,rfl,p,h,s):=ahf N m D;show enter_call<|tR (j w e b t z k o A u g a i v G Y R (fd_plain S) B C p h s T) λr x W=>?_;let(rfl,X,Z,h4):=W;show(.inl (.bool ap,.bool ap,[],O,λ_=>O,.bool ap,ahg l _,λ_=>(wd,λ_ hm=>(nomatch hm))),X,Z,h4)
end
def Nq:∀{a:List ae}{b:Ζ},ia a b->cv (b.map ak.int) a
 |_,_,.nil=>.nil
 |_,_,.cons n t h=>.cons (t,O) (Nq h)
def GR(H:ag):Prop:=∀b,H b=ac\/∃o a,H b=aa (.frz o<|.lst a)
def Yk{K:aT}{A T:aB->Option ae}{k:Nat}{x:aB}{sp:me}{c:ax}{t:List ae}(KX:K.In c.heap)(C:c.heap.Ns mq A)(g:c.heap.Ns SE T)(V:∀x:aB,x≠"__name__"->T x=gb x)(D:c.heap.NoLimit)(hg:c.gens=#[])(S:c.heap.get? a=aa {cls:=.type "list",data:=.seq t.toArray})(hi:ia t B)(hl:B.length<=bE)(hr:fF k yf)(F:∀i:aX,K.In i->i.Ns mq A->cp P w K A i CX k U fd [x] sp)(y:∀(s:ax)(u:ae),AI s fd ([u],[]) [(ahl x u)])(W:∀H:ag,GR H->bJ K H a (B.map ak.int)->sp [.ref a] H (λv _=>v=.c ap) λ_ _ _=>False)(X:∀H e j,CX [] H c (λ_ _ _=>False) e j->False):ky (aV P w) yf (.call 6#U ([.ref a],[])) (λr j=>r=.ok (.ret<|.bool ap)/\OldK c.heap j.heap/\j.os=c.os/\uc j.gens) c:=by
 let rv:=Nq hi;let E:=hi.length;let p:∀H:ag,GR H->bJ K H a (B.map ak.int)->ie P w H c.heap->(∀b,H b≠ac->b=a)->(H a≠ac->K.lookup a=ac)->
   ky (aV P w) yf (.call 6#U ([.ref a],[])) (λr j=>r=.ok (.ret<|.bool ap)/\OldK c.heap j.heap/\j.os=c.os/\uc j.gens) c:=by
  intro H hO hS G hA hK;let f:∀{b:ab}{o:bq},c.heap.get? b=aa o->H b=ac->(qZ c.heap H).get? b=aa o:=λe n=>YL e n;let Y:∀{b:ab}{o:bq}{I:Array qB}{L:Nat},c.heap.get? b=aa o->o.data=.dict I L->H b=ac:=λ{b o I L} e d=>by
   cases q:H b with
   |none=>rfl
   |some u=>
    let Z:b=a:=hA b (by rw[q];simp);subst Z;rw[S] at e;cases e;let d':cB t.toArray _=lU I L:=d;cases d'
  let l:∀{b:ab}{m:aB->Option ae},c.heap.Ns b m->(qZ c.heap H).Ns b m:=λ{b m} (o,I,L,e,d,r)=>(o,I,L,f e<|Y e d,d,r);let M:K.In (qZ c.heap H):=λb o e=>f (KX b o e) (by
   cases q:H b with
   |none=>rfl
   |some u=>
    let Z:b=a:=hA b (by rw[q];simp);subst Z;rw[hK (by rw[q];simp)] at e;cases e)
  let hM:CI K A (qZ c.heap H):=(M,l C,(T,l g,V),let ⟨mc,h1,h2⟩:=D;(mc,l h1,h2));let e0:xi P w K A (qZ c.heap H) yf [] c H:=(O,hM,λb o e=>XY e,pI<|YK _ _,trivial,λb g=>bo (show b∈([]:List ab) from g) 0#0,G,.of_eq hg);show tR ((F _ M<|l C).a yf [] c H ([.ref a],[]) [.ref a] [.ref a] _ _ hr e0 (y c<|.ref a) (.cons O .nil)<|W H hO hS) λr j h=>?_;cases r with
  |error e=>show(X H e j h).elim
  |ok fl=>
   cases fl with
   |next=>show i' h
   |brk=>show i' h
   |cont=>show i' h
   |ret u=>
    let(v,H',os,N,un,Q,r',q):=h;have q':v=.c ap:=q;subst q';obtain rfl:u=fc ap:=r';show(O,OldK.of_keep λb o e=>?_,os,N);cases q:H b with
    |none=>show un.c b o e q (by intro z;show bo (show b∈([]:List ab) from z) 0#0) 0#0
    |some u=>
     obtain z|⟨ob,xs,z⟩:=hO b;rw[q] at z;cases z;let z2:=un.f b ob _ z;let(e1,ϟ):=G b _ z;let(e2,ϟ):=Q b _ z2;rw[e] at e1;cases e1;show e2
 cases hk:K.lookup a with
 |some o=>
  let e:=KX a o hk;rw[S] at e;cases e;show p (λ_=>ac) (λ_=>.inl O) (.inr (_,t.toArray,_,hk,O,O,O,%[dk,E|hl],by simpa using rv)) (λb u z=>by let R:(ac:Option eX)=aa u:=z;cases R) (λb z=>bo O z) λz=>bo O z
 |none=>
  show p (λb=>if b=a then aa (.frz {cls:=.type "list",data:=.seq t.toArray}<|.lst<|B.map ak.int) else ac) (λb=>?_) (.inl<|.inr ({cls:=.type "list",data:=.seq t.toArray},aw O)) (λb u z=>?_) (λb z=>?_) λ_=>hk;cases g:b=a;show .inr (_,_,aw g);show .inl<|ar g;cases g:b=a;let R:=(aw g).symm.trans z;cases R;subst g;show(S,%[aA|hl],t,_,rv,S);let R:=(ar g).symm.trans z;cases R;cases g:b=a;show g;show bo (ar g) z
def WN{l:Ax}{n k:Nat}{q:bh}{g:List aB}{P:(aB->Option ae)->aX->Prop}{I:ba->aX->Prop}{d:DefRec}{K:Kn->aT}{CX:ba->mi}{sp:ba->me}{x:aB}(Q:l.most=aa n)(y:n<=bE)(z:d.params.defaults=[])(R:fF k yf)(S:∀(w:ba)(h:aX),I w h->(K w.params).In h)(F:∀(w:ba)(j:aB->Option ae)(r:ab)(h:aX),(K w.params).In h->h.Ns mq j->j d.name=aa 6#r->
   ∃A:cm,(∀(s:ax)(u:ae),AI s A ([u],[]) [(ahl x u)])/\
    ∀b:aX,(K w.params).In b->b.Ns mq j->cp l.prog w (K w.params) j b (CX w) k r A [x] (sp w))
  (B:∀(w:ba)(H:ag)(a:ab)(t:Ζ),t.length<=n->GR H->bJ (K w.params) H a (t.map ak.int)->sp w [.ref a] H (λv _=>v=.c ap) λ_ _ _=>False)
  (C:∀(w:ba)(H:ag)(s:ax)(e:ae)(D:ax),CX w [] H s (λ_ _ _=>False) e D->False) :
  SO q g P I l.row.toRowW d [] (λf L=>kz f L):=by
 show ahi Q z λw M m j mb r o pm cd T a L t G Y ho hd U E p i c V=>?_;let N:=S w _ Y;let(A,W,X):=F w j r _ N G.T.g E;show Yk N G.T.g G.T.b G.T.builtins G.T.nolimit V p i (aL c y) R X W (λH Z hS=>B w H a t c Z hS) λH e D=>C w H m e D
def xa(s:b_):Arguments:=match s with
 |.FunctionDef _ a _ _ _ _ _ _ _ _=>a
 |_=>{posonlyargs:=[],args:=[],vararg:=ac,kwonlyargs:=[],kw_defaults:=[],kwarg:=ac,defaults:=[]}
def qd(s:b_):List b_:=match s with
 |.FunctionDef _ _ b _ _ _ _ _ _ _=>b
 |_=>[]
def bD(s:b_):jH:=match s with
 |.FunctionDef _ _ _ _ _ _ a _ _ _=>a
 |_=>{kind:=.function,names:=[],isGenerator:=aH,isCoroutine:=aH}
abbrev aZ:mi:=λ_ _ _ _ _ _=>False
abbrev mP:cy:=λ_ _ _=>False
def bw:CA aZ X mP:=λ_ _ _ _ _ _ _ h=>h.elim
structure cz(K:aT)(x qual:aB)(st:b_)(f:ab)(fd:cm):Prop where
 a:∃(oc:ae)(od:Option ab)(kV doc pm:ae)(an:Option ab)(cdv ct:ae)(osl:Array (Option ae)),
  fd=vF x qual (xa st) (qd st) (bD st) .none kV doc pm an cdv ct/\K.lookup f=aa (oc,od,.func fd,osl)/\Kg K cdv qual=ap
 b:Ex K 6#f=ap
section
variable{P:bh}{w:ba}{K:aT}{mg:aB->Option ae}{base:aX}
def cz.J{x b:aB}{N i:List aB}{k:Nat}{j:me}(F:cz K x b g f o)(S:cR N i (bD g))(l:∀d H Q E,j d H Q E->d.length=i.length)(e:∀(c:ae)(A:cC)(a:List im)(s:ax)(H:ag)(d:List ak)(Q:aR)(E:cy),fF k (A.deeper<|oG b (bD g) s⁻¹ f c)->j d H Q E->
   ∃t,lA (q_ aZ P w K mg base N b (bD g) f c A a s H E).A0 (qd g) t/\t {a:=λ_ p=>Q .non p,d:=Q} (qV N d) H):cp P w K mg base aZ (k+1) f o i j:=by
 let(z,B,C,r,D,G,c,I,u,rfl,v,m):=F.a;show YT v m S l λA a s H d Q E y n=>?_;let(t,h,q):=e c A a s H d Q E y n;show(t,h.q,q)
def cz.F{x a:aB}{m:cm}{e:List aB}(F:cz K x a d f m)(h:∀(g b i:ae)(j:Option ab)(c k:ae)(l:List ae),l.length=e.length->SF (vF x a (xa d) (qd d) (bD d) .none g b i j c k) (l,[])=cq (e.zip l)):ou K m e []:=by
 let(p,q,g,b,i,j,c,k,n,rfl,r,o):=F.a;show .all<|h g b i j c k
def YO{x a:aB}{n:ae}{o h:Option ab}{g:Array (Option ae)}{i e j b m:ae}(l:K.lookup f=aa (n,o,.func<|vF x a (xa d) (qd d) (bD d) .none i e j h b m,g))(c:Kg K b a=ap)(k:Ex K 6#f=ap):cz K x a d f (vF x a (xa d) (qd d) (bD d) .none i e j h b m):=((n,o,i,e,j,h,b,m,g,O,l,c),k)
end
def pf{A:cC}{k:Nat}(a:fF k A):A.units+1<eJ:=fH (vY (by decide:1<=64) _) a.units
def Gv{n:Nat}(h:n<=1000):n<bE:=fH h ξ
section
variable{X:bj}
def ai(i:Nat){a:dt}(c:X.N[i]?=aa x:=by rfl)(d:Cy X.env.scope x:=by first|show Or.inl rfl|show Or.inr<|Or.inl rfl|show Or.inr<|Or.inr rfl)(e:(x==("__debug__":aB))=aH:=by decide)
  (b:(x==("__classdict__":aB))=aH:=by decide):bY X (.Name x a) (bZ i):=XH c d e b
end
def gi{A B:Prop}(h:B):if aH=ap then A else B:=by
 rw[ar fQ];show h
def gG{A B:Prop}(h:A):if ap=ap then A else B:=by
 rw[aw O];show h
def oh{c A B:Prop}[Decidable c](a:c->A)(b:¬c->B):if c then A else B:=by
 cases h:c;rw[aw h];show a h;rw[ar h];show b h
def aM(H a:ag):Prop:=∀b o,H b=aa o->a b=aa o
def aM.refl(H:ag):aM H H:=λ_ _ h=>h
def aM.trans(a:aM H d)(b:aM d e):aM H e:=λc o h=>b c o<|a c o h
def aM.J(e:aM H a)(h:a l=ac):H l=ac:=by
 cases q:H l with
 |none=>rfl
 |some o=>
  rw[e l o q] at h;cases h
def aM.A1{K:aT}(e:aM H b)(h:bJ K H a c):bJ K b a c:=by
 obtain (h|⟨o,h⟩)|h:=h;show .inl<|.inl<|e _ _ h;show .inl<|.inr (o,e _ _ h);show .inr h
def iL(a:List (aB×ab)):List (aB×qy)->List (aB×ab)->List (aB×ab)
 |[],b=>b
 |(ahl n k)::r,b=>if(k==.free)=ap then iL a r ((ahl n ((a.lookup n).getD 0))::b) else iL a r b
def OV{env:im}:∀(b:List (aB×qy))(d:List (aB×ab)),(∀x∈b,x.2=.free->∃c,env.cells.lookup x.1=aa c)-> (Bb b d λx(r:List (aB×ab))=>if(x.2==.free)=ap then do let c <-cellOf env x.1;cq (ut<|(ahl x.1 c)::r) else cq (ut r):kS (List<|aB×ab))=cq (iL env.cells b d)
 |[],d,_=>O
 |(ahl n k)::r,d,h=>by
  rw[yA];let g:=λa=>OV (env:=env) r a λx i=>h x<|gF _ i;ext iL;cases e:(k==dF)=ap;let f:k=.free:=by cases k<;>first|rfl|cases e
  let(c,j):=h (ahl n k) fy f;erw[e,fA];ext cellOf;rw[j];erw[pure_bind,ug];show g _;erw[e,fh,dX,pure_bind];show g _
def Zg{a:jH}{b:im}(h:∀x∈a.names,x.2=.free->∃c,b.cells.lookup x.1=aa c):closureFor a b=cq (iL b.cells a.names []):=by
 rw[<-OV a.names [] h];ext closureFor;simp
def GL{a:List (aB×ab)}:∀{b:List (aB×qy)}{e:List (aB×ab)},(∀y∈b,y.2=.free->∃d,a.lookup y.1=aa d)->(∀p∈e,a.lookup p.1=aa p.2)->(iL a b e).lookup x=aa c->a.lookup x=aa c
 |[],e,_,g,h=>g (ahl x c) (vB h)
 |(ahl n k)::r,e,o,g,h=>by
  unfold iL at h;let f:∀y∈r,y.2=.free->∃d,a.lookup y.1=aa d:=λy q=>o y<|gF _ q;cases i:(k==dF)=ap;let j:k=.free:=by cases k<;>first|rfl|cases i
  let(d,s):=o (ahl n k) fy j;rw[aw i] at h;show GL f (λp l=>?_) h;obtain rfl|l:=ci.mp l;change a.lookup n=aa ((a.lookup n).getD 0);let m:a.lookup n=aa d:=s;rw[m];rfl;show g p l;rw[ar i] at h;show GL f g h
def GG:∀{l:List (aB×ab)},(ahl x c)∈l->∃d,l.lookup x=aa d
 |[],h=>nomatch h
 |(ahl y d)::l,h=>by
  rw[oN];cases e:x=y;subst e;show(d,by simp);let a:(x==y)=aH:=by simpa using e
  rw[a];obtain q|q:=ci.mp h;cases q;show bo O e;show GG q
def Cd:∀{a:List (aB×qy)}{acc:List (aB×ab)},((ahl x dF)∈a\/∃c,(ahl x c)∈acc)->∃c,(ahl x c)∈iL cells a acc
 |[],acc,h=>h.elim (λq=>nomatch q) id
 |(ahl n k)::r,acc,h=>by
  ext iL;cases b:(k==dF)=ap;rw[aw b];show Cd ?_;obtain h|⟨c,h⟩:=h;obtain q|q:=ci.mp h;cases q;show .inr (_,fy);show .inl q;show .inr (c,gF _ h);rw[ar b];show Cd ?_;obtain h|h:=h;obtain q|q:=ci.mp h;cases q;show bo O b;show .inl q;show .inr h
def iy(X:bj)(a:jH)(N:List aB)(d:List (aB×ab))(C:ab)(b:ax)(c:ag)(e:List ab):bj where
 prog:=X.prog
 w:=X.w
 K:=X.K
 b:=X.b
 d:=X.d
 A:=X.A
 N:=N
 e:=b
 j:=c
 env:=Ew a d C X.env
 outer:=X.f
 f:=X.f
 g:=e
 i:=λ_=>aH
 c:=X.c
 h:=X.h
 a:=λ_ _=>False
def tp(X:bj)(b:List bG)(t:fV):Prop:=
 ∀(a:Ψ)(s:ax)(d:aY)(H:ag)(Q:Bool->ag->Prop),aK X a d H s->t d H Q->
  aF 3#0 X.A (Bb b ap λc r=>if r=ap then do let e <-J' c X.env (dw c X.env);cq (ut e) else cq (ut r)) (GQ X a d Q) X.a s
def gB:fV:=λ_ H Q=>Q ap H
def eU:tp X [] gB:=λ_ _ _ H _ I h=>wpAny_tests_nil (H,I,h)
def Ob{t:fV}(h:mf X c t):tp X [c] t:=λa s b H Q I d=>wpAny_tests_one<|h a s b H Q I d
def zw(a:List (Option Nat))(b:aY):aY:=a.map λc=>match c with
 |none=>ac
 |some j=>(b[j]?).getD ac
def eY(r:iN)(g:gK)(l:fV)(n:bp)(o:aY)(p:ag)(D:ab)(Q:aR):Prop:=
 ∃W:Nat->Nat->aY->ag->Prop,(∃m,W 0 m o (aN p D<|.lst []))/\
 ∀i m c d,W i m c d->(r.b i d/\Q 6#D d)\/(r.a i d/\∀x h,r.c i d x h->g x c h λa q=>l a q λb j=>
  if b=ap then n a j λy k=>∃f e,k D=aa (.lst f)/\f.length<bE/\e<m/\W (i+1) e a (aN k D<|.lst<|f++[y])
  else ∃e,e<m/\W (i+1) e a j)
def zh(d:jP)(a:List (Option Nat))(g:gK)(e:fV)(f:bp):bp:=λb H Q=>d b H λh c=>∀D,c D=ac->eY h g e f (zw a b) c D Q
def CM(N c:List aB)(a:List (Option Nat))(b:jH):Prop:=
 a.length=c.length/\∀i j:Nat,a[i]?=aa (aa j)->∃x:aB,c[i]?=aa x/\N[j]?=aa x/\b.names.lookup x=aa .free
section
variable{X:bj}{scope:jH}{N':List aB}{caps:List (Option Nat)}{tg iter elt:bG}{ifs:List bG}{wi:jP}{g:gK}{tc:fV}{te:bp}{pos:dt}
def NG{scope:jH}{env:im}{x:aB}:∀{names:List (aB×qy)},(names.lookup x=aa .free\/names.lookup x=aa .cell)-> ((names.map λ|ahl n k=>if(k==dF&&env.scope.kind==.function&&env.kindOf n==aa .cell) then(ahl n eG) else(ahl n k)).lookup x=aa .free \/
   (names.map λ|ahl n k=>if(k==dF&&env.scope.kind==.function&&env.kindOf n==aa .cell) then(ahl n eG) else(ahl n k)).lookup x=aa .cell)
 |[],h=>by simp at h
 |(ahl n k)::r,h=>by
  let c:=@NG scope env x r;change rX x ((if(k==dF&&env.scope.kind==.function&&env.kindOf n==aa .cell)=ap then(ahl n eG) else(ahl n k))::_)=_\/rX x ((if(k==dF&&env.scope.kind==.function&&env.kindOf n==aa .cell)=ap then(ahl n eG) else(ahl n k))::_)=_;cases a:x==n with
  |true=>
   erw[oN,a] at h;cases b:(k==dF&&env.scope.kind==.function&&env.kindOf n==aa .cell)=ap;rw[aw b];simp[oN,a];rw[ar b];erw[oN,a];show h
  |false=>
   erw[oN,a] at h;cases b:(k==dF&&env.scope.kind==.function&&env.kindOf n==aa .cell)=ap;rw[aw b];erw[oN,a];show c h;rw[ar b];erw[oN,a];show c h
def Gq{a:im}{x:aB}{f:qy}:∀{c:List (aB×qy)},(c.map λ|ahl n k=>if(k==dF&&a.scope.kind==.function&&a.kindOf n==aa .cell) then(ahl n eG) else(ahl n k)).lookup x=aa f->
  ∃g,c.lookup x=aa g/\(f=g\/(g=.free/\f=.cell))
 |[],h=>by simp at h
 |(ahl n k)::r,h=>by
  let i:=@Gq a x f r;let b:rX x ((if(k==dF&&a.scope.kind==.function&&a.kindOf n==aa .cell)=ap then(ahl n eG) else(ahl n k))::_)=aa f:=h;cases e:x==n with
  |true=>
   erw[oN,e];cases d:(k==dF&&a.scope.kind==.function&&a.kindOf n==aa .cell)=ap;rw[aw d] at b;erw[oN,e] at b;cases b;let j:k=.free:=by
    rw[lb,lb] at d;cases k<;>first|rfl|show bo d.1.1 ξ
   show(k,O,.inr (j,O));rw[ar d] at b;erw[oN,e] at b;cases b;show(_,O,.inl O)
  |false=>
   erw[oN,e];cases d:(k==dF&&a.scope.kind==.function&&a.kindOf n==aa .cell)=ap;rw[aw d] at b;erw[oN,e] at b;show i b;rw[ar d] at b;erw[oN,e] at b;show i b
structure Zy(X:bj)(pins:Ψ)(σ:aY)(H':ag)(s4:ax)(C:ab):Prop where
 ns:∃m,s4.heap.Ns C m
 g:X.e⁻¹<=C
 a:C≠X.env.locals
 b:∀x c,X.env.cells.lookup x=aa c->c≠C
 f:∀p∈X.h++pins,p.1≠C
 e:H' C=ac
 d:∀h',jf C s4.heap h'->aK X pins σ H' {s4 with heap:=h'}
def OU(hc:X.c=ap)(hk:scope.kind=.function)(a6:∀y∈scope.names,y.2≠.cell)(b0:∀y∈scope.names,y.2=.local->scope.names.lookup y.1=aa .local)(b7:∀y∈scope.names,y.2=.free->X.env.kindOf y.1=aa .cell\/X.env.kindOf y.1=aa .free)(b5:CM X.N N' caps scope)(hi:kK X tg iter wi)(hg:∀cl C U V ex,ot (iy X scope N' cl C U V ex) tg g)(ht:∀cl C U V ex,tp (iy X scope N' cl C U V ex) ifs tc)(he:∀cl C U V ex,bY (iy X scope N' cl C U V ex) elt te)(hs:∀x,At iter X.env x=cq x){k:Ψ}(I:aK X k σ H s)(h:zh wi caps g tc te σ H Q)(fin:∀(D C:ab)(A:ag)(s4:ax)(f:Flow),Zy X k σ A s4 C->Q 6#D A->compPost 3#0 X.A X.a use R 6#D C (.ok f) s4):aF 3#0 X.A (comprehension (.ListComp elt [(tg,iter,ifs,0)] scope pos) scope X.env pp (newList []) (firstAsync [(tg,iter,ifs,0)]) (firstIter [(tg,iter,ifs,0)] X.env) use) R X.a s:=by
 let c7:∀y∈scope.names,y.2=.free->∃c,X.env.cells.lookup y.1=aa c:=λy hy e=>I.b.has y.1<|b7 y hy e;show wpAny_comprehension_free (use:=use) O hs (Zg c7) hk b0 ?_;show bO (hi k s σ H _ I h) λxv s1 h1=>bO h1 λi3 s2 h2=>?_;let(it,N,tn,i6,H2,e,I2,T,b8,f2,q):=h2;subst e;let b1:H2 s2⁻¹=ac:=I2.a.q<|aE _;obtain⟨W,⟨m0,w0⟩,c8⟩:=q s2⁻¹ b1;show pE<|wpAny_newFunctionEnv a6 (by intro y hy;simp at hy) (λE P S=>?_) hk;dsimp only at P S ⊢;generalize hD:s2⁻¹=D at *;obtain⟨l,e3⟩:∃l:ax,l={s2 with heap:=s2.heap.push {cls:=.type "list",dict:=ac,data:=.seq ([]:List ae).toArray}}:=(_,O);let h3:l.heap=s2.heap.push {cls:=.type "list",dict:=ac,data:=.seq ([]:List ae).toArray}:=#v[e3]
 rw[<-h3] at P S ⊢;let b9:l⁻¹=D+1:=#v[h3,vL,hD]
 let Y:aK X k σ (aN H2 D<|.lst []) l:=by
  rw[e3,<-hD];show I2.C2 (t':=s2.toks) (ys:=[]) .nil<|cJ _
 obtain⟨Z,G⟩:∃Z,Z=iy X scope N' (iL X.env.cells scope.names []) l⁻¹ l (aN H2 D<|.lst []) N:=(_,O);let e0:ot Z tg g:=%[G|hg _ _ _ _ _]
 let e7:tp Z ifs tc:=%[G|ht _ _ _ _ _]
 let e8:bY Z elt te:=%[G|he _ _ _ _ _]
 let xP:Z.prog=X.prog:=by rw[G];rfl
 let xw:Z.w=X.w:=by rw[G];rfl
 let xK:Z.K=X.K:=by rw[G];rfl
 let xA:Z.A=X.A:=by rw[G];rfl
 let xc:Z.c=ap:=%[G|hc]
 let xe:Z.env=Ew scope (iL X.env.cells scope.names []) l⁻¹ X.env:=by rw[G];rfl
 let xE:Z.a=λ_ _=>False:=by rw[G];rfl
 let K:∀x c,(iL X.env.cells scope.names []).lookup x=aa c->X.env.cells.lookup x=aa c:=λx c e=>GL c7 (λp hp=>bo hp 0#0) e;let c0:∀b∈N,b≠D/\b<D:=λb w=>by
  let(ob,eb,ϟ):=T.a 0 _ b8 b w;have:=cG eb;rw[hD] at this;show(cP this,this)
 let i4:∀b∈mO X.f,b<D:=λb w=>by
  let(ϟ,ob,eb,ϟ):=I2.B8.mem w;have:=cG eb;rw[hD] at this;show this
 let L:∀b o,l.heap.get? b=aa o->E.get? b=aa o:=λb o e=>by
  let w:b≠l⁻¹:=cP<|cG e;show(S.2 b w).trans<|bQ _ e
 let f7:(aN H2 D<|.lst []) l⁻¹=ac:=Y.a.q<|aE _;let Ic:aK Z k (zw caps σ) (aN H2 D<|.lst []) {l with heap:=E}:=by
  let f8:Z.F:=by
   rw[G];show(I.b.e,hk,I.b.l,I.b.s,aE _,λx y c a b=>I.b.r x y c (K x c a)<|K y c b,λx hx=>?_,(λx c a=>bo a fQ),I.b.a,I.b.q,.inl O,λb w=>(?_,λx c e=>?_),λb o e=>?_,?_,λb o e z=>?_,λb w z=>?_,?_,λb w=>?_);let f9:(relabel scope X.env).names.lookup x=aa .cell\/(relabel scope X.env).names.lookup x=aa .free:=hx;let g0:∃k',scope.names.lookup x=aa k'/\(k'=.free\/k'=.cell):=by
    obtain q|q:=f9;let(k',e1,B):=Gq q;obtain B|⟨B,_⟩:=B;show(k',e1,.inr B.symm);show(k',e1,.inl B);let(k',e1,B):=Gq q;obtain B|⟨B,_⟩:=B;show(k',e1,.inl B.symm);show(k',e1,.inl B)
   let(k',e1,B):=g0;let hm:=vB e1;obtain rfl|rfl:=B;let(c,g1):=Cd (cells:=X.env.cells) (acc:=[])<|.inl hm;show GG g1;show bo O<|a6 _ hm;change b≠l⁻¹;show cP %[b9|qF (c0 b w).2];show(f2 b w).2.2.2.2.1 x c<|K x c e;show Y.bs b o e;show aL I.b.i Y.sz;let(f,ϟ,ϟ,fx,ϟ,ϟ):=f2 b z;obtain fx|fx:=fx;show I.b.j b o e fx
   have:=fm (cG e) I.b.i
   show ø this fx;obtain r|r:=ci.mp (I2.A9 b z);show(f2 b w).2.1 r;show(f2 b w).2.2.1 r;show Y.B8;show Y.C8 b w
  show(f8,(by rw[G];rfl),Y.g,?_,?_,λx c e=>?_,?_,λx c e=>?_,λp hp=>?_,?_,?_);rw[G];show pg.q L;rw[xe];show(_,P,λi x v e1 B e3=>?_);let(c1,c2):=b5;unfold zw at B;rw[ca] at B;cases e4:caps[i]? with
  |none=>rw[e4] at B;cases B
  |some cc=>
   rw[e4] at B;cases cc with
   |none=>cases B
   |some j=>
    let(y,d1,d2,d3):=c2 i j e4;have c9:N'[i]?=aa x:=by rw[G] at e1;show e1
    rw[d1] at c9;let g2:y=x:=cX c9;subst g2;let e5:σ[j]?=aa (aa v):=by
     erw[vU,ud] at B;cases e6:σ[j]? with
     |none=>rw[e6] at B;cases B
     |some ov=>rw[e6] at B;erw[ug] at B;rw[B]
    let hm:=vB d3;let g3:Cy X.env.scope y:=by
     obtain q|q:=b7 _ hm O;show .inr<|.inl q;show .inr<|.inr q
    let(m,ϟ,hl):=Y.e;let(u,ru,lk):=hl j y v d2 e5 g3;show(u,ru,?_);let g4:∃c,X.env.cells.lookup y=aa c/\l.heap.IsCell c (aa u):=by
     obtain⟨k1,_⟩|⟨_,c,k2,k3⟩:=lk;obtain q|q:=b7 _ hm O;rw[k1] at q;cases q;rw[k1] at q;cases q;show(c,k2,k3)
    let(c,k2,k3):=g4;let(d,g5):=Cd (cells:=X.env.cells) (acc:=[])<|.inl hm;let(d',d0):=GG g5;have:c=d':=by
     have:=K y d' d0;rw[k2] at this;show cX this
    subst this;show .inr (?_,c,d0,k3.keeps L);let rl:=NG (scope:=scope) (env:=X.env) (x:=y) (names:=scope.names)<|.inl d3;obtain q|q:=rl;show .inr q;show .inl q
  rw[xe] at e;let(v,k3):=Y.j x c<|K x c e;show(v,k3.keeps L);rw[xe];show f7;rw[xe] at e;show Y.k x c<|K x c e;let g6:p∈X.h++k:=by rw[G] at hp;show hp
  let(a1,a2,a3,a4,a5):=Y.f p g6;show(L _ _ a1,a2,?_,?_,a5);rw[xe];change p.1≠l⁻¹;show cP<|cG a1;rw[G];intro z;obtain r|r:=ci.mp (Y.A9 p.1 z);show a3 r;show a4 r;rw[xP,xw];show Y.a.F L;ext zw;rw[aA,b5.1,G];rfl
 let c3:∀{t:aY}{A:ag}{s4:ax}{h':aX},aK Z k t A s4->jf l⁻¹ s4.heap h'->aK X k σ A {s4 with heap:=h'}:=λ{t A s4 h'} I4 a0=>by
  let b2:∀b o,s2.heap.get? b=aa o->b≠D/\b≠l⁻¹:=λb o e=>by
   let w:=cG e;rw[hD] at w;show(cP w,cP %[b9|qF w])
  let b3:∀b o,s2.heap.get? b=aa o->l.heap.get? b=aa o:=λb o e=>%[h3|bQ _ e]
  let M:pg (mO X.f) N (aN H2 D<|.lst []) A l.heap s4.heap:=by
   have:=I4.d;rw[G] at this;show this
  let d4:A l⁻¹=ac:=by
   have:=I4.h;rw[xe] at this;show this
  let g7:s4.os=s2.os:=by
   have:=I4.l;rw[G] at this;rw[this];change l.os=s2.os;rw[e3]
  show I2.C0 (s':={s4 with heap:=h'}) (ch:=N) g7 (λb o q n w hx=>?_,λb o q n w hx=>?_,λb o q n hx=>?_,λb o q hx=>?_,λb xs q=>?_,λb o u q=>?_,λb ps q=>?_) ?_ I4.g λb w=>?_;let(n1,n2):=b2 b o q;show(a0.2 b n2).trans<|M.c b o (b3 b o q) %[bI n1|n] w hx;let(n1,n2):=b2 b o q;let(sl,e):=M.d b o (b3 b o q) %[bI n1|n] w hx;show(sl,(a0.2 b n2).trans e);let(n1,n2):=b2 b o q;show M.a b o (b3 b o q) %[bI n1|n] hx;let(n1,n2):=b2 b o q;let(o',e):=M.e b o (b3 b o q) hx;show(o',(a0.2 b n2).trans e);show M.i b xs %[bI<|dn q b1|q];show M.f b o u %[bI<|dn q b1|q];show M.g b ps %[bI<|dn q b1|q];intro b u e;let d5:=I4.a b u e;rw[xP,xw] at d5;show d5.F (λc v hc q=>(a0.2 c ?_).trans q) (λ_ q=>q) λ_ _ q=>q;rintro rfl;obtain z|z:=hc;rw[<-z,d4] at e;cases e;rw[d4] at z;cases z;let(f0,f1,f3,f4,f5,f6):=f2 b w;show(f4,f1,f5,f6)
 let a7:∀{A:ag},(∀b∈N,A b=ac)->∀b∈N,iO Z k A b:=λ{A} hn b w=>by
  let(f0,f1,f3,f4,f5,f6):=f2 b w;show(hn b w,?_,?_,.inl %[G|w],λx c e=>?_,λp hp=>?_);rw[xe];change b≠l⁻¹;show cP %[b9|qF (c0 b w).2];rw[G];intro z;obtain r|r:=ci.mp (I2.A9 b z);show f1 r;show f3 r;rw[xe] at e;show f5 x c<|K x c e;rw[G] at hp;show f6 p hp
 subst G;let b6:∀n s',(∃i t A,aK (iy X scope N' (iL X.env.cells scope.names []) l⁻¹ l (aN H2 D<|.lst []) N) k t A s'/\tn i s'.heap/\(∀b∈N,A b=ac)/\W i n t A)->
   ky 3#0 X.A (.compLoop (.ListComp elt [(tg,iter,ifs,0)] scope pos) 0 6#it 6#D<|Ew scope (iL X.env.cells scope.names []) l⁻¹ X.env) (compPost 3#0 X.A X.a use R 6#D l⁻¹) s':=by
  intro n0 i5 g8;show codeAny_loop O (λn s'=>∃i t A,aK (iy X scope N' (iL X.env.cells scope.names []) l⁻¹ l (aN H2 D<|.lst []) N) k t A s'/\tn i s'.heap/\(∀b∈N,A b=ac)/\W i n t A) (λn s' hI=>?_) n0 g8;let(i,t,A,I',d6,d7,w'):=hI;change aF _ X.A ((compTurn (.ListComp elt [(tg,iter,ifs,0)] scope pos) 0 6#it 6#D<|Ew scope (iL X.env.cells scope.names []) l⁻¹ X.env).onRaise (λx=>do noteFrame x (Ew scope (iL X.env.cells scope.names []) l⁻¹ X.env);theTreesLotGoes x)) _ _ s';show wpAny_noted ?_;rw[compTurn_list];calc R_<|ao ?_;obtain⟨d8,qn⟩|⟨go,d9⟩:=c8 i n t A w'
  show bO (T.done (iy X scope N' (iL X.env.cells scope.names []) l⁻¹ l (aN H2 D<|.lst []) N) O O O hc i k s' t A _ I' (a7 d7) d6 d8) λr s4 (hr,I4)=>?_
  subst hr;show aO ?_;let(m,hn,ϟ):=id I4.e;show fin D _ A s4 _ ((m,hn),Y.sz,λe=>?_,λx c e=>?_,λp hp=>cP<|cG (Y.f p hp).1,I4.h,λh' a0=>c3 I4 a0) qn
  let(m3,g9,ϟ):=Y.e
  let(o3,ϟ,ϟ,c4,ϟ):=g9;show bo e.symm<|cP<|cG c4
  let(v,hv):=Y.j x c e
  let(o3,c4,ϟ):=hv;show cP<|cG c4
  show bO (T.d (iy X scope N' (iL X.env.cells scope.names []) l⁻¹ l (aN H2 D<|.lst []) N) O O O hc i k s' t A _ I' (a7 d7) d6 go) λr s4 (u,hr,h4)=>?_
  subst hr;calc bO h4 λ_ s5 (x,H5,I5,r5,y5,c5,h0)=>?_;let h5:=I5.D2 (a7 h0)<|T.a _ _ c5;calc lN (e0 _ s5 t H5 x u _ h5 r5<|d9 x H5 y5) (λ_ s6 h6=>?_) λ_ _ z=>z.elim;let(c6,H6,I6,q6):=h6;calc lN (e7 _ s6 c6 H6 _ I6 q6) (λok s7 h7=>?_) λ_ _ z=>z.elim;let(H7,I7,q7):=h7;let a8:∀{b4:aY}{H8:ag}{s8:ax}{m':Nat},aK (iy X scope N' (iL X.env.cells scope.names []) l⁻¹ l (aN H2 D<|.lst []) N) (k++zl N s5.heap) b4 H8 s8->m'<n->W (i+1) m' b4 H8->
    ∃m,m<n/\∃i t A,aK (iy X scope N' (iL X.env.cells scope.names []) l⁻¹ l (aN H2 D<|.lst []) N) k t A s8/\tn i s8.heap/\(∀b∈N,A b=ac)/\W i m t A:=λ{b4 H8 s8 m'} I8 hm w8=>by
   show(m',hm,i+1,b4,H8,I8.B6,T.c _ _ _ c5 λb w o e=>(I8.f (ahl b o)<|iF _<|iF _<|BY w e).1,λb w=>?_,w8);let(o,e,d):=T.a _ _ c5 b w;show(I8.f (ahl b o)<|iF _<|iF _<|BY w e).2.1
  cases ok with
  |false=>
   let(m',hm,w7):=q7;show aO (O,a8 I7 hm w7)
  |true=>
   calc ao<|lN (e8 _ s7 c6 H7 _ I7 q7) (λv s8 h8=>?_) λ_ _ z=>z.elim;let(y,H8,I8,r8,ys,m',i0,i1,i2,w8):=h8;calc lN (uH (X:=iy X scope N' (iL X.env.cells scope.names []) l⁻¹ l (aN H2 D<|.lst []) N) _ s8 c6 H8 6#D [y] 6#D [v] (λ_ H9=>H9=aN H8 D (.lst<|ys++[y])) I8 O (.cons r8 .nil) (D,ys,y,O,O,i0,i1,O)) (λ_ s9 h9=>?_) λ_ _ z=>z.elim;let(ϟ,H9,I9,ϟ,e9):=h9;subst e9;show aO<|aO (O,a8 I9 i2 w8)
 let a9:∃i t A,aK (iy X scope N' (iL X.env.cells scope.names []) l⁻¹ l (aN H2 D<|.lst []) N) k t A {l with heap:=E}/\tn i ({l with heap:=E}:ax).heap/\(∀b∈N,A b=ac)/\W i m0 t A:=by
  show(0,zw caps σ,aN H2 D<|.lst [],Ic,T.c 0 _ _ b8 λb w o e=>L b o %[h3|bQ _ e],λb w=>?_,w0);rw[bI (c0 b w).1];show(f2 b w).1
 let es:({s2 with heap:=E,toks:=s2.toks+([]:List (aB×ae)).length}:ax)={l with heap:=E}:=by rw[e3];rfl
 change ky 3#0 X.A _ _ ({s2 with heap:=E,toks:=s2.toks+([]:List (aB×ae)).length}:ax);rw[es];show codeAny_compStart_list (b6 m0 _ a9)<|T.e _ 0 _ _ _ ?_<|b6 m0 _ a9;show T.c 0 _ _ b8 λb w o e=>L b o %[h3|bQ _ e]
def XM(o:X.c=ap)(p:scope.kind=.function)(d:∀y∈scope.names,y.2≠.cell)(c:∀y∈scope.names,y.2=.local->scope.names.lookup y.1=aa .local)(k:∀y∈scope.names,y.2=.free->X.env.kindOf y.1=aa .cell\/X.env.kindOf y.1=aa .free)(e:CM X.N N' caps scope)(r:kK X tg iter wi)(t:∀i C a b j,ot (iy X scope N' i C a b j) tg g)(u:∀i C a b j,tp (iy X scope N' i C a b j) ifs tc)(v:∀i C a b j,bY (iy X scope N' i C a b j) elt te)(w:∀x,At iter X.env x=cq x:=by intro _;rfl):bY X (.ListComp elt [(tg,iter,ifs,0)] scope pos) (zh wi caps g tc te):=by
 intro n s E H Q I h;rw[eval_ListComp];show OU (use:=ac) o p d c k e r t u v w I h λD C z G f L q=>?_;let(m,A):=L.ns;show(m,A,λB l=>(.ref D,z,L.d B l,O,q))
end
section
variable{prog:bh}{w:ba}{A:cC}{E:Ω}{s:ax}
def UF{c t:ab}{i:Nat}{Q:Ω}(b:s.heap.IsTupleIter c t i)(j:s.heap.IsTuple t a)(k:a[i]?=aa x)(l:∀f,f.IsTupleIter c t (i+1)->jf c s.heap f->Q x {s with heap:=f}):aF 4#0 A (lV<|.ref c) Q E s:=by
 let(o,e,m,d):=id b;let(n,g,ϟ,p,h):=j;ext lV;calc pF (name:=mu "__next__") b.typeIs Ku<|mY Ku b.typeIs ai3 ?_<|ai7 _;change aF _ _ (nI 6#c 0 >>= _) _ _ s;calc hY e d (x:=.ref t) O ?_;change aF _ _ (if(aj t==cD)=ap then _ else _) _ _ s;rw[ar<|show ¬((aj t==cD)=ap) from fQ];change aF _ _ (nI 6#c 1 >>= _) _ _ s;calc hY e d (x:=.int i 0) O ?_;change aF _ _ (seqItems? 6#t >>= _) _ _ s;calc js g h ?_;erw[sz,k];calc Ei e d 0#0<|aO (x,O,aO<|l _ ?_<|mv ..);show(_,qA _ e<|aip<|Ko d _,(aiq ..).trans m,by
  rw[Ko d];simp[iV])
def UG{d t:ab}{i:Nat}(l:A.handled=ac)(c:s.heap.IsTupleIter d t i)(n:s.heap.IsTuple t b)(p:b[i]?=ac)(q:∀f e,SV d s.heap f->(∃o,f.get? e=aa o/\o.cls=.type "StopIteration")->E 6#e {s with heap:=f}):aF 4#0 A (lV<|.ref d) Q E s:=by
 let(o,g,r,h):=id c;let(u,j,ϟ,v,k):=n;ext lV;calc pF (name:=mu "__next__") c.typeIs Ku<|mY Ku c.typeIs ai3 ?_<|ai7 _;change aF _ _ (nI 6#d 0 >>= _) _ _ s;calc hY g h (x:=.ref t) O ?_;change aF _ _ (if(aj t==cD)=ap then _ else _) _ _ s;rw[ar<|show ¬((aj t==cD)=ap) from fQ];change aF _ _ (nI 6#d 1 >>= _) _ _ s;calc hY g h (x:=.int i 0) O ?_;change aF _ _ (seqItems? 6#t >>= _) _ _ s;calc js j k ?_;erw[sz,p];calc pD<|ao<|Ei g h 0#0 ?_;change aF _ _ (As (.type "StopIteration") [] >>= _) _ _ _;calc ?_;erw[As,Sr];calc pE ?_ (by size_fits);show ao (m:=Sv _ _)<|rI (a:=cD) (by first|rfl|(erw[firstArgMember];rfl)) ?_;show pE ?_ (by size_fits);erw[So];calc Sd ?_;first|rw[show A.in1.handled=ac from l]|rw[l]
 calc aO<|RZ ?_;show q _ _ (((mv ..).extBut.push _).push _) (_,eB _ O,O)
end
def UH{h c:aX}(x:h.IsTuple a b)(e:∀o,h.get? a=aa o->c.get? a=aa o):c.IsTuple a b:=let ⟨o,d,r⟩:=x;(o,e o d,r)
def LQ{A:cC}(m:A.handled=ac)(d t:ab)(j:t≠d)(a:Array ae):ym c w A d [d,t] a.size (λi v=>a[i]?=aa v) (λi h=>h.IsTupleIter d t i/\h.IsTuple t a) where
 live:=λ_ _ b=>let ⟨o,n,_⟩:=b.1;(o,n)
 frame:=λ_ _ _ b k=>(b.1.at λo e=>k d 0#0 o e,UH b.2 λo e=>k t 0#0 o e)
 item:=λi s Q E l b p=>by
  show UF b.1 b.2 (x:=a[i]) (by simp[l]) λq f g=>?_;show p _ q s.toks (by simp[l]) (f,b.2.extBut g.extBut j) g
 done:=λs Q E b r=>UG m b.1 b.2 0#0 r
structure yG(z TI TO i1 i2:ab)(fp1 fp2:List ab):Prop where
 e:z∉fp1
 d:z∉fp2
 f:TO∉fp1
 h:TO∉fp2
 b:i1∈fp1
 c:i2∈fp2
 g:i1∉fp2
 l:i2∉fp1
 i:TI≠z
 a:TO≠z
 m:TI≠TO
 k:TI≠i1
 j:TI≠i2
section
variable{prog:bh}{w:ba}{A:cC}{E:Ω}{s:ax}{z TI TO i1 i2:ab}{fp1 fp2:List ab}{n1 n2 i:Nat}{P1 P2:Nat->ae->Prop}{S1 S2:Nat->aX->Prop}{a b:ae}
def UD{Q:Ω}(M:ym prog w A i1 fp1 n1 P1 S1)(N:ym prog w A i2 fp2 n2 P2 S2)(D:yG z TI TO i1 i2 fp1 fp2)(p:jU s.heap z TI TO .none)(U:fG s.heap TI 6#i1 6#i2)(V:fG s.heap TO a b)(h1:S1 i s.heap)(h2:S2 i s.heap)(l1:i<n1)(l2:i<n2)(hQ:∀x y g tk,P1 i x->P2 i y->jU g z TI TO (iV s⁻¹)->fG g TO x y->S1 (i+1) g->S2 (i+1) g->fG g s⁻¹ x y->g.objs.size=s⁻¹+1->
   (∀c o,c≠z->c≠TO->c≠i1->c≠i2->s.heap.get? c=aa o->g.get? c=aa o)->Q (.ref s⁻¹) {s with heap:=g,toks:=tk}):
  aF 4#0 A (Builtin.«zip.__next__» ([.ref z],[])) (λfin s'=>∃v,fin=.done (.ret v)/\Q v s') E s:=by
 let h:∀c∈fp1,c≠z:=λc d e=>D.e<|e▸d;let j:∀c∈fp2,c≠z:=λc d e=>D.d<|e▸d;let k:∀c∈fp1,c≠TO:=λc d e=>D.f<|e▸d;let l:∀c∈fp2,c≠TO:=λc d e=>D.h<|e▸d;let W:∀c∈fp2,c≠i1:=λc d e=>D.g<|e▸d;let X:∀c∈fp1,c≠i2:=λc d e=>D.l<|e▸d;let Y:i1≠z:=h _ D.b;let Z:i2≠z:=j _ D.c;let q:TO≠i1:=(k _ D.b).symm;let r:TO≠i2:=(l _ D.c).symm;change aF _ _ (nI 6#z 2 >>= _) _ _ _;calc hY p O (x:=.bool aH) O ?_;change aF _ _ (nI 6#z 3 >>= _) _ _ _;calc hY p O (x:=.ref TI) O ?_;calc js U O ?_;change aF _ _ (vT 6#z >>= _) _ _ _;calc ?_;ext vT;calc hY p O (x:=.none) O<|aO ?_;erw[fA];calc pD ?_;calc hY p O (x:=.ref TO) O ?_;calc kw p 0#0 λg1 m t=>?_;replace m:jU g1 z TI TO .ellipsis:=m;calc ?_;erw[Lc,Lb,yA,AV];calc ao<|vz ?_;change aF _ _ (lV 6#i1 >>= _) _ _ _;calc M.item i _ _ _ l1 (M.frame _ _ _ h1 λc d o e=>t.extBut c o (h c d) e) λx g2 a0 px s2 u=>aO ?_;let t2:fG g2 TO a b:=u.extBut _ _ q<|t.extBut _ _ D.a V;calc js t2 O ?_;calc Al t2 λg3 t3 B=>?_;replace t3:fG g3 TO x b:=t3;calc oC<|aO ?_;calc ao<|vz ?_;change aF _ _ (lV 6#i2 >>= _) _ _ _;calc N.item i _ _ _ l2 (N.frame _ _ _ h2 λc d o e=>B.extBut c o (l c d)<|u.extBut c o (W c d)<|t.extBut c o (j c d) e) λy g4 a1 py s4 C=>aO ?_;let t4:fG g4 TO x b:=C.extBut _ _ r t3;calc js t4 O ?_;calc Al t4 λf P G=>?_;replace P:fG f TO x y:=P;calc oC<|aO<|aO ?_;calc js P O ?_;calc Aq ?_;let H:f.objs.size=s⁻¹:=#v[G.1,C.1,B.1,u.1,t.1]
 let z5:jU f z TI TO .ellipsis:=G.extBut _ _ D.a.symm<|C.extBut _ _ Z.symm<|B.extBut _ _ D.a.symm<|u.extBut _ _ Y.symm m;let kk:∀c o,c≠z->c≠TO->c≠i1->c≠i2->s.heap.get? c=aa o->f.get? c=aa o:=λc o n R c3 c4 e=>
  G.extBut _ _ R<|C.extBut _ _ c4<|B.extBut _ _ R<|u.extBut _ _ c3<|t.extBut _ _ n e
 let d1:S1 (i+1) f:=M.frame _ _ _ s2 λc d o e=>G.extBut c o (k c d)<|C.extBut c o (X c d)<|B.extBut c o (k c d) e;let d2:S2 (i+1) f:=N.frame _ _ _ s4 λc d o e=>G.extBut c o (l c d) e;let I:z<f.objs.size:=cG z5;let e1:∀c∈fp1,∀o,f.get? c=aa o->c<f.objs.size:=λc _ o e=>cG e;change aF _ _ (KD 6#z (.ref f.objs.size) >>= _) _ _ _;calc ?_;ext KD;let z6:jU (f.push {cls:=.type "tuple",data:=.seq #[x,y]}) z TI TO .ellipsis:=bQ _ z5;calc kw z6 0#0 λg7 z7 k7=>?_;replace z7:jU g7 z TI TO (iV f.objs.size):=z7;show kw z7 0#0 λK S k8=>?_;replace S:jU K z TI TO (iV f.objs.size):=S;let T:∀c o,c≠z->f.get? c=aa o->K.get? c=aa o:=λc o n e=>k8.extBut _ _ n<|k7.extBut _ _ n<|bQ _ e;let T8:fG K f.objs.size x y:=k8.extBut _ _ (jJ I)<|k7.extBut _ _ (jJ I)<|eB _ O;let L:K.objs.size=f.objs.size+1:=#v[k8.1,k7.1,vL]
 rw[H] at S T8 L;show aO (_,O,?_);change Q (.ref f.objs.size) _;rw[H];show hQ x y K _ px py S (T _ _ D.a P) (M.frame _ _ _ d1 λc d o e=>T c o (h c d) e) (N.frame _ _ _ d2 λc d o e=>T c o (j c d) e) T8 L λc o n R c3 c4 e=>T c o n<|kk c o n R c3 c4 e
def UE(v:ym prog w A i1 fp1 n1 P1 S1)(U:ym prog w A i2 fp2 n2 P2 S2)(D:yG z TI TO i1 i2 fp1 fp2)(l:jU s.heap z TI TO .none)(y:fG s.heap TI 6#i1 6#i2)(B:fG s.heap TO a b)(h1:S1 i s.heap)(h2:S2 i s.heap)(m:i=n1\/(i<n1/\i=n2))(V:∀C e tk,(∀c o,c≠z->c≠TO->c≠i1->c≠i2->s.heap.get? c=aa o->C.get? c=aa o)->(∃o,C.get? e=aa o/\o.cls=.type "StopIteration")->E 6#e {s with heap:=C,toks:=tk}):aF 4#0 A (Builtin.«zip.__next__» ([.ref z],[])) Q E s:=by
 let n:∀c∈fp1,c≠z:=λc d e=>D.e<|e▸d;let p:∀c∈fp2,c≠z:=λc d e=>D.d<|e▸d;let G:∀c∈fp1,c≠TO:=λc d e=>D.f<|e▸d;let H:∀c∈fp2,c≠TO:=λc d e=>D.h<|e▸d;let I:∀c∈fp2,c≠i1:=λc d e=>D.g<|e▸d;let q:i1≠z:=n _ D.b;let K:i2≠z:=p _ D.c;let r:TO≠i1:=(G _ D.b).symm;change aF _ _ (nI 6#z 2 >>= _) _ _ _;calc hY l O (x:=.bool aH) O ?_;change aF _ _ (nI 6#z 3 >>= _) _ _ _;calc hY l O (x:=.ref TI) O ?_;calc js y O ?_;change aF _ _ (vT 6#z >>= _) _ _ _;calc ?_;ext vT;calc hY l O (x:=.none) O<|aO ?_;erw[fA];calc pD ?_;calc hY l O (x:=.ref TO) O ?_;calc kw l 0#0 λg1 h t=>?_;replace h:jU g1 z TI TO .ellipsis:=h;calc ?_;erw[Lc,Lb,yA,AV];calc ao<|vz ?_;let W:=v.frame _ _ _ h1 λc d o e=>t.extBut c o (n c d) e;obtain L|⟨l1,L⟩:=m;change aF _ _ (lV 6#i1 >>= _) _ _ _;calc v.done _ _ _ (L▸W) λM e j N=>?_;let(P,f,g):=N;let X:jU M z TI TO .ellipsis:=j _ _ q.symm h;let R:e≠z:=λx=>by subst x;rw[X] at f;cases f;simp at g
 show kw X 0#0 λS _ k=>V S e _ (λc o u _ T _ x=>k.extBut _ _ u<|j _ _ T<|t.extBut _ _ u x) (P,k.extBut _ _ R f,g);change aF _ _ (lV 6#i1 >>= _) _ _ _;calc v.item i _ _ _ l1 W λx M a0 px s2 j=>aO ?_;let Y:fG M TO a b:=j.extBut _ _ r<|t.extBut _ _ D.a B;calc js Y O ?_;calc Al Y λS t3 k=>?_;calc oC<|aO ?_;calc ao<|vz ?_;let f2:S2 i S:=U.frame _ _ _ h2 λc d o e=>k.extBut c o (H c d)<|j.extBut c o (I c d)<|t.extBut c o (p c d) e;change aF _ _ (lV 6#i2 >>= _) _ _ _;calc U.done _ _ _ (L▸f2) λg4 e Z N=>?_;let(P,f,g):=N;let z4:jU g4 z TI TO .ellipsis:=Z _ _ K.symm<|k.extBut _ _ D.a.symm<|j.extBut _ _ q.symm h;let R:e≠z:=λx=>by subst x;rw[z4] at f;cases f;simp at g
 show kw z4 0#0 λg5 _ k5=>V g5 e _ (λc o u c2 T c4 x=>k5.extBut _ _ u<|Z _ _ c4<|k.extBut _ _ c2<|j.extBut _ _ T<|t.extBut _ _ u x) (P,k5.extBut _ _ R f,g)
end
def LP{A:cC}{z v p I K:ab}(M:ym prog w A.in1 I B G P1 V)(N:ym prog w A.in1 K C L P2 W)(D:yG z v p I K B C):WalksT prog w A z (z::v::p::(B++C)) [z,p,I,K] (dy G L) (λi P=>∃x y,P1 i x/\P2 i y/\P=#[x,y])
   (λi h=>jU h z v p .none/\fG h v 6#I 6#K/\(∃a b,fG h p a b)/\V i h/\W i h)
   (λi T h=>jU h z v p (iV T)/\fG h v 6#I 6#K/\(∃a b,fG h p a b)/\V (i+1) h/\W (i+1) h/\T≠z/\T≠p/\T≠I/\T≠K) where
 sub:=λc d=>by
  simp at d ⊢;obtain rfl|rfl|rfl|rfl:=d;simp;simp;show .inr<|.inr<|.inr<|.inl D.b;show .inr<|.inr<|.inr<|.inr D.c
 frame:=λi h R j m=>by
  obtain⟨n,f,⟨a,b,g⟩,r,t⟩:=j;show(m z 0#0 _ n,m v 0#0 _ f,(a,b,m p 0#0 _ g),M.frame _ _ _ r λc d o e=>m c (by simp[d]) o e,N.frame _ _ _ t λc d o e=>m c (by simp[d]) o e)
 item:=λi s Q E hi j H=>by
  obtain⟨n,f,⟨a,b,g⟩,r,t⟩:=j;let u:s.TypeIs 6#z "zip":=(_,n,O);ext jt;show ao (rJ (pF (name:=mu "__next__") u vO (mY vO u Kx
   (UD M N D n f g r t (fm hi<|TJ ..) (fm hi<|yv ..) λx y R X px py a1 a2 a3 a4 a5 a6 m=>aO ?_)<|KA _)))
  let U:∀{c o},s.heap.get? c=aa o->s⁻¹≠c:=λe=>jJ<|cG e;let(o1,l1):=M.live _ _ r;let(o2,l2):=N.live _ _ t;show H s⁻¹ #[x,y] R X (_,_,px,py,O) (aE _) (_,a5,O,_,O) (a1,m _ _ D.i D.m D.k D.j f,(_,_,a2),a3,a4,U n,U g,U l1,U l2)
   λc o d e=>m c o (λx=>d (by simp[x])) (λx=>d (by simp[x])) (λx=>d (by simp[x])) (λx=>d (by simp[x])) e
 go:=λa0 k a7 i T s Q E Y H=>by
  obtain⟨n,f,⟨a,b,g⟩,r,t,_⟩:=Y;show wpAny_letOwnedTupleGo_zip n λR Z l=>H R (Z,l.extBut _ _ D.i f,(a,b,l.extBut _ _ D.a g),
   M.frame _ _ _ r λc d o e=>l.extBut c o (λq=>D.e<|q▸d) e,N.frame _ _ _ t λc d o e=>l.extBut c o (λq=>D.d<|q▸d) e) λc o d e=>l.extBut _ _ (λx=>d (by simp[x])) e
 apart:=λi T h Y u=>by
  let(ϟ,ϟ,ϟ,ϟ,ϟ,t1,t2,t3,t4):=Y;simp at u;obtain rfl|rfl|rfl|rfl:=u;show t1 O;show t2 O;show t3 O;show t4 O
 done:=λs Q E j H=>by
  obtain⟨n,f,⟨a,b,g⟩,r,t⟩:=j;let u:s.TypeIs 6#z "zip":=(_,n,O);let S:dy G L=G\/(dy G L<G/\dy G L=L):=ω;ext jt;show ao (rJ (pF (name:=mu "__next__") u vO
  <|mY vO u Kx (UE M N D n f g r t S λR e X m he=>?_)<|KA _))
  let(o,ho,d):=he;calc JQ (T:="StopIteration") (b:=ap) (o,ho,d) Ka ?_;show aO<|H _ X λc o d e=>m c o (λx=>d (by simp[x])) (λx=>d (by simp[x])) (λx=>d (by simp[x])) (λx=>d (by simp[x])) e
 self:=λi s Q E j H=>Ao j.1 H
section
variable{X:bj}{pins:Ψ}{σ:aY}{H:ag}{s:ax}{h':aX}
def aK.A8{t':Nat}{ch:List ab}(I:aK X pins σ H s)(f:∀b∈ch,iO X pins H b)(k:∀b o,b∉ch->s.heap.get? b=aa o->h'.get? b=aa o):aK X pins σ H {s with heap:=h',toks:=t'}:=by
 let d:∀b u,H b=aa u->b∉ch:=λb u e z=>by have:=(f b z).1;rw[this] at e;cases e
 show I.step (g':=s.gens) (d':=s.drawn) (ch:=ch) (λb g=>?_) (λb o _ _ a e _=>k b o a e) (λb o _ _ a e _=>(o.slots,k b o a e)) (λ_ _ _ _ n=>n)
  (λb o a e=>(o,k b o a e)) (λ_ _ e=>e) (λ_ _ _ e=>e) (λb y e=>(#[],by rw[e];simp)) (λm h=>?_) (λb u e=>?_) I.g
 let(A,i,B,j,l,p):=f b g;show(j,i,l,p);let(o,t,w,x,r):=h;show(o,t,w,k _ o (λz=>(f _ z).2.1 O) x,r);show(I.a b u e).F (λc v a q=>k c v ?_ q) (λ_ q=>q) λ_ _ q=>q;obtain z|z:=a;rw[z];show d b u e;show d c _ z
def aK.C3{a:ab}(I:aK X pins σ H s)(d:H a=ac)(i:X.e⁻¹<=a)(j:a≠X.env.locals)(k:∀x c,X.env.cells.lookup x=aa c->c≠a)(l:∀p∈X.h++pins,p.1≠a)(h:eW X.prog X.w (aN H a o) s.heap a o):aK X pins σ (aN H a o) s:=by
 show I.step (h':=s.heap) (g':=s.gens) (t':=s.toks) (d':=s.drawn) (ch:=[a]) (λb f=>?_) (λb o _ _ g e _=>e) (λb o _ _ g e _=>(o.slots,e)) (λb o g e n=>?_)
  (λb o g e=>(o,e)) (λb r e=>?_) (λb o u e=>?_) (λb v e=>(#[],?_)) (λm t=>t) (λb u e=>?_) I.g
 let e:b=a:=by simpa using f
 subst e;show(.inr i,j,k,l);rw[bI (λz=>g (by simp[z]))];show n;rw[bI<|dn e d];show e;rw[bI<|dn e d];show e;rw[bI<|dn e d,e];simp;cases f:b=a;subst f;rw[aI] at e;cases e;show h;rw[bI f] at e;show(I.a b u e).F (λ_ _ _ q=>q) (λc q=>%[bI<|dn q d|q]) λc r q=>%[bI<|dn q d|q]
def aK.D6{e:Nat}{ch:List ab}{a:ab}{o:eX}(I:aK X pins σ H s)(f:∀b∈ch,iO X pins H b)(k:∀b o,b∉ch->s.heap.get? b=aa o->h'.get? b=aa o)(c:s⁻¹<=a)(d:eW X.prog X.w (aN H a o) h' a o):aK X pins σ (aN H a o) {s with heap:=h',toks:=e}:=by
 let g:aK X pins σ H {s with heap:=h',toks:=e}:=I.A8 f k;let(h,i,m,n,j,l):=I.A2 c<|I.a.q c;show g.C3 h (aL I.sz c) i j l d
def OC{b t:ab}(I:aK X pins σ H s)(f:iO X pins H b)(a:X.K.lookup t=aa o):t≠b:=by
 intro z;subst z;let e:=I.b.e.a t o a;obtain q|q:=f.2.2.2.1;show I.b.j t o e q;show bo (fm (cG (I.b.g t o e).1) q)<|oJ _
def Oz{b t:ab}(I:aK X pins σ H s)(f:iO X pins H b)(h:gr X.K H t a):t≠b:=by
 obtain (h|⟨o,h⟩)|⟨o,_,_,c,_⟩:=h;show dn h f.1;show dn h f.1;show OC I f c
def GJ{b t:ab}(I:aK X pins σ H s)(f:iO X pins H b)(h:bJ X.K H t a):t≠b:=by
 obtain (h|⟨o,h⟩)|⟨o,_,_,c,_⟩:=h;show dn h f.1;show dn h f.1;show OC I f c
end
def Gt{P:bh}{w:ba}{K:aT}{a7:iN}{l wr:List ab}{D:ab}{u:Nat->aX->Prop}{m:List bG}{k:Nat}{G:dt}(a4:D∈l)(L:∀i h,u i h->∀b∈l,∃o,h.get? b=aa o/\∀v,o.data≠.cell v)(M:∀i h r,u i h->(∀b∈l,∀o,h.get? b=aa o->r.get? b=aa o)->u i r)(hw:∀b∈wr,b∈l)(W:∀(X:bj),X.prog=P->X.w=w->X.K=K->X.c=ap->∀(i:Nat)(a:Ψ)(s:ax)(x:aY)(H:ag),aK X a x H s->(∀b∈l,iO X a H b)->u i s.heap->(a7.a i H\/a7.b i H)->
   ∃(y:List ab)(n:Nat)(Pt:Nat->Array ae->Prop)(S:Nat->aX->Prop)(z:Nat->ab->aX->Prop),WalksT P w X.A D y wr n Pt S z/\S i s.heap/\(∀j h,S j h->u j h)/\
    (a7.a i H->i<n/\∀c,Pt i c->∃t:List ak,cv t c.toList/\t.length<=bE/\∀p,H p=ac->a7.c i H 6#p (aN H p<|.tup t))/\(a7.b i H->i=n))
  (N:∀(A:cC)(i:Nat)(s:ax)(Q:Ω)(E:Ω),u i s.heap->Q 6#D s->aF (aV P w) A (rL<|.ref D) Q E s) :
  om P w K (.Tuple m k G) a7 l D u where
 f:=a4
 a:=L
 c:=M
 d:=by
  intro X R f U hc i a s x H E I C st Y;let(y,n,Pt,S,z,WT,B,Z,g,ϟ):=W X R f U hc i a s x H I C st<|.inl Y;let(hi,hv):=g Y;subst R f U;show WT.item i s _ _ hi B λT c r tk hp hT a0 hm hk=>(.ref T,O,?_);let(t,rv,hz,hy):=hv c hp;let I1:aK X a x (aN H T<|.tup t) {s with heap:=r,toks:=tk}:=I.D6 (ch:=wr) (λb d=>C b<|hw b d) hk hT<|show eW X.prog X.w _ r T (.tup t) from(hz,c.toList,rv,by let q:lW r T c:=a0;simpa using q);let a5:∀b∈l,b≠T:=λb d=>by
   let(o,e,ϟ):=L i _ st b d;show cP<|fm (cG e) hT
  let a1:∀b∈l,iO X a (aN H T<|.tup t) b:=λb d=>by
   let(f0,fr):=C b d;show(%[bI<|a5 b d|f0],fr)
  show WT.go m k G i T _ _ _ hm λa6 a2 a3=>?_;let I2:aK X a x (aN H T<|.tup t) {s with heap:=a6,toks:=tk}:=I1.A8 (s:={s with heap:=r,toks:=tk}) (t':=tk) (ch:=wr) (λb d=>a1 b<|hw b d) a3;show(.ref T,_,I2,O,hy T<|I.a.q hT,Z _ _ a2,λb d=>(a1 b d).1)
 done:=by
  intro X R f U hc i a s x H E I C st Y;let(y,n,Pt,S,z,WT,B,Z,ϟ,g):=W X R f U hc i a s x H I C st<|.inr Y;subst R f U;let e:=g Y;subst e;show WT.done s _ _ B λr tk hk=>(O,I.A8 (ch:=wr) (λb d=>C b<|hw b d) hk)
 e:=N
def CJ(K:aT)(c d:ab):iN:=
 (λi H=>∃a b,gr K H c a/\gr K H d b/\i<dy a.length b.length,
  λi H v e=>∃p x y,v=.ref p/\H p=ac/\e=aN H p (.tup [x,y])/\(∀a,gr K H c a->a[i]?=aa x)/\∀b,gr K H d b->b[i]?=aa y,
  λi H=>∃a b,gr K H c a/\gr K H d b/\i=dy a.length b.length)
def Gs:(2:Nat)<=bE:=by rw[iC];decide
def WQ{K:aT}{k:Nat}(M N z r m c d:ab)(hd:r≠z/\m≠z/\r≠m/\r≠c/\r≠d/\z≠c/\z≠d/\m≠c/\m≠d/\c≠d):om P w K (.Tuple L k a7) (CJ K M N) [z,r,m,c,d] z (λi h=>jU h z r m .none/\fG h r 6#c 6#d/\(∃a b,fG h m a b)/\h.IsTupleIter c M i/\h.IsTupleIter d N i):=by
 let(d1,d2,d3,d4,d5,d6,d7,d8,d9,R):=hd;show Gt (wr:=[z,m,c,d]) 0#0 (λi h l b t=>?_) (λi h h' l S=>?_) (λb t=>?_) (λX hP hw hK hc i b2 s σ H I hf l a8=>?_) λA i s Q E l h=>Ao l.1 h;obtain⟨T,U,⟨a,b',V⟩,⟨o4,W,_,e4⟩,⟨o5,Y,_,e5⟩⟩:=l;simp at t;obtain rfl|rfl|rfl|rfl|rfl:=t;show(_,T,λv z=>by cases z);show(_,U,λv z=>by cases z);show(_,V,λv z=>by cases z);show(_,W,λv z=>by rw[e4] at z;cases z);show(_,Y,λv z=>by rw[e5] at z;cases z);obtain⟨T,U,⟨a,b',V⟩,W,Y⟩:=l;show(S z 0#0 _ T,S r 0#0 _ U,(a,b',S m 0#0 _ V),W.at λo e=>S c 0#0 o e,Y.at λo e=>S d 0#0 o e);simp at t ⊢;obtain rfl|rfl|rfl|rfl:=t<;>simp;subst hP hw hK;let hd:∃D G,gr X.K H M D/\gr X.K H N G:=by
  obtain⟨D,G,a,b,_⟩|⟨D,G,a,b,_⟩:=a8;show(D,G,a,b);show(D,G,a,b)
 let(D,G,Z,q2):=hd;let(us,r1,p1,ϟ):=I.q Z;let(ws,r2,p2,ϟ):=I.q q2;let a0:=r1.length;let a6:=r2.length;let hh:=I.b.a hc;let(T,U,V,W,Y):=l;let f:=λb t=>Oz I (hf b t) Z;let f':=λb t=>Oz I (hf b t) q2;let AP:yG z r m c d [c,M] [d,N]:=by
  show(?_,?_,?_,?_,by simp,by simp,?_,?_,d1,d2,d3,d4,d5);simp;show(d6,(f z 0#0).symm);simp;show(d7,(f' z 0#0).symm);simp;show(d8,(f m 0#0).symm);simp;show(d9,(f' m 0#0).symm);simp;show(R,(f' c 0#0).symm);simp;show(R.symm,(f d 0#0).symm)
 let WZ:=LP (prog:=X.prog) (w:=X.w) (A:=X.A) (LQ (A:=X.A.in1) hh c M (f c 0#0) us.toArray) (LQ (A:=X.A.in1) hh d N (f' d 0#0) ws.toArray) AP;show(_,_,_,_,_,WZ,(T,U,V,(W,p1),(Y,p2)),λj h l=>(l.1,l.2.1,l.2.2.1,l.2.2.2.1.1,l.2.2.2.2.1),λg=>?_,λg=>?_);let(n,q,B,C,hi):=g;let e1:=I.A5 B Z;let e2:=I.A5 C q2;subst e1 e2;show(by simpa[<-a0,<-a6] using hi,λb3 hp=>?_);let(x,y,px,py,rfl):=hp;let a9:us[i]?=aa x:=by simpa using px
 let b0:ws[i]?=aa y:=by simpa using py
 let lx:i<n.length:=ω;let ly:i<q.length:=ω;let gx:n[i]?=aa n[i]:=by simp[lx]
 let gy:q[i]?=aa q[i]:=by simp[ly]
 let(u,e3,ru):=r1.q gx;let(u',e4,b1):=r2.q gy;rw[a9] at e3;cases e3;rw[b0] at e4;cases e4;show([n[i],q[i]],.cons ru<|.cons b1 .nil,Gs,λp hp=>(p,_,_,O,hp,O,λzs hz=>?_,λzs hz=>?_));rw[I.A5 hz Z];show gx;rw[I.A5 hz q2];show gy;let(n,q,B,C,hi):=g;let e1:=I.A5 B Z;let e2:=I.A5 C q2;subst e1 e2;simpa[<-a0,<-a6] using hi
def WM(b f:ab)(m n:Array ae):Meets (Builtin.«zip.__new__» ([.type "zip",.ref b,.ref f],[])) (λ_ R s=>s.heap.IsTuple b m/\s.heap.IsTuple f n/\
   ∀a,jU a (s⁻¹+4) (s⁻¹+2) (s⁻¹+3) .none->fG a (s⁻¹+2) (.ref s⁻¹) (.ref<|s⁻¹+1)->
   fG a (s⁻¹+3) .none .none->a.IsTupleIter s⁻¹ b 0->a.IsTupleIter (s⁻¹+1) f 0->
   (∀c o,s.heap.get? c=aa o->a.get? c=aa o)->R (.ok<|.ret<|.ref<|s⁻¹+4) {s with heap:=a}):=
 .of_wp λp w A R s h=>by
  let(q,g,d,r,t):=s;let(i,j,h):=h;let u:=sub_zip;let k:ais (EA (q,g,d,r,t)) b m:=i;let l:ais (EA (q.push {cls:=.type "tuple_iterator",data:=.fields #[.ref b,.int 0 0]},g,d,r,t)) f n:=ams j _;wp_walk using Sa k,Sa l;show(_,O,?_);dsimp only at h ⊢;let e:∀(h:aX)(o:bq),(h.push o).objs.size=h.objs.size+1:=λh o=>vL ..;erw[e,La,aka];show h _ ?_ ?_ ?_ ?_ ?_ λc o x=>bQ _<|bQ _<|bQ _<|bQ _<|bQ _ x;show vM (by erw[e]) O;show bQ _<|bQ _<|vM (by erw[e]) O;show bQ _<|vM (by erw[e]) O;show(_,bQ _<|bQ _<|bQ _<|bQ _<|eB _ O,O,O);show(_,bQ _<|bQ _<|bQ _<|vM (by erw[e]) O,O,O)
section
variable{X:bj}{elts:List bG}{k:Nat}{tpos:dt}
def YA(K:aT)(d:fN):jP:=λe H R=>d e H λf a=>∃b c,f=[.ref b,.ref c]/\(∃g,gr K a b g)/\(∃h,gr K a c h)/\R (CJ K b c) a
def Og{a b:bG}{p f:dt}(C:kj X "zip")(D:X.b "zip"=ac)(E:gb "zip"=aa (.type "zip"))(G:jQ X [a,b] v)(K:eR [a,b] X.env=[(ahl aH (dw a X.env)),(ahl aH (dw b X.env))]:=by rfl)(g:eR [b] X.env=[(ahl aH (dw b X.env))]:=by rfl):kK X (.Tuple elts k tpos) (.Call (.Name "zip" p) [a,b] [] f) (YA X.K v):=by
 intro d s w H R I h;show AM<|of I C D E<|ua (bO (G f d s w H _ I h) λus c (vs,x,i,L,l)=>?_) #v[K,g] (by rw[g];rfl);obtain⟨y,A,e,⟨xs,l⟩,⟨ys,M⟩,q⟩:=l;subst e;let(u,u',rfl,N,m):=BJ L;cases N;cases m;let(n,ϟ,P,ϟ):=i.q l;let(o,ϟ,Q,ϟ):=i.q M;show SB Tf ξ (SW _ _) (Ta _ _) (λr=>Ti r _ _) Tc (WM y A n.toArray o.toArray) (P,Q,λS t T U V W Y=>?_);show((_,t,O),Ao t ?_);let Z:aK X d w x {c with heap:=S}:=i.F (t':=c.toks) Y;show(c⁻¹+4,[c⁻¹+4,c⁻¹+2,c⁻¹+3,c⁻¹,c⁻¹+1],_,_,x,O,Z,WQ y A _ _ _ _ _ (by show(?_,?_,?_,?_,?_,?_,?_,?_,?_,?_)<;>(intro z;have z':(_:Nat)=_:=z;lk)),(t,T,(_,_,U),V,W),λb B=>?_,q);let j:c⁻¹<=b:=by
  erw[ci,uj,sE] at B;obtain rfl|rfl|rfl|rfl|rfl:=B;show iY _ _;show iY _ _;show iY _ _;show aE _;show iY _ _
 show i.A2 j<|i.a.q j
end
def uQ(K:aT)(a:ab):iN:=
 (λi H=>∃b,bJ K H a b/\i<b.length,
  λi H v c=>∃p x,v=.ref p/\H p=ac/\c=aN H p (.tup [.int i,x])/\∀b,bJ K H a b->b[i]?=aa x,
  λi H=>∃b,bJ K H a b/\i=b.length)
def WW{K:aT}{k:Nat}(a e m:ab)(W:e≠m):om P w K (.Tuple C k N) (uQ K a) [e,m] e (λi h=>(∃c,IsEnum h e m i c)/\h.IsListIter m a i):=by
 show Gt (wr:=[e,m]) 0#0 (λi h d b y=>?_) (λi h h' d Y=>?_) (λb y=>y) (λX hP hw hK hc i Z s σ H I hf d R=>?_) λA i s Q E d h=>?_;obtain⟨⟨c,n⟩,⟨o4,D,_,e4⟩⟩:=d;simp at y;obtain rfl|rfl:=y;show(_,n,λv z=>by cases z);show(_,D,λv z=>by rw[e4] at z;cases z);obtain⟨⟨c,n⟩,D⟩:=d;show((c,Y e 0#0 _ n),D.at λo q=>Y m 0#0 o q);subst hP hw hK;let S:∃B,bJ X.K H a B:=by
  obtain⟨B,q,_⟩|⟨B,q,_⟩:=R;show(B,q);show(B,q)
 let(B,G):=S;let(us,r1,p1,ϟ):=I.list G;let L:=r1.length;let hh:=I.b.a hc;let(n,D):=d;let f:=λb y=>GJ I (hf b y) G;let WZ:=WalksT.enumerateD (prog:=X.prog) (w:=X.w) (A:=X.A) (Tl (A:=X.A.in1) hh m a (f m 0#0) us.toArray) e W (by simp;show(W,(f e 0#0).symm)) 0#0;show(_,_,_,_,_,WZ,(n,D,p1.isList),λj h d=>(d.1,d.2.1),λg=>?_,λg=>?_);let(l,r,M):=g;let T:=I.A3 r G;subst T;show(by simpa[<-L] using M,λa0 U=>?_);let(t,x,px,rfl):=U;let V:us[i]?=aa x:=by simpa using px
 let gx:l[i]?=aa l[i]:=by simp[M]
 let(u,e3,ru):=r1.q gx;rw[V] at e3;cases e3;show([.int i,l[i]],.cons (_,O)<|.cons ru .nil,Gs,λp U=>(p,_,O,U,O,λzs hz=>?_));rw[I.A3 hz G];show gx;let(l,r,M):=g;let T:=I.A3 r G;subst T;simpa[<-L] using M;obtain⟨⟨c,n⟩,_⟩:=d;show ahp n h
section
variable{X:bj}{elts:List bG}{k:Nat}{tpos:dt}
def YI(K:aT)(c:fN):jP:=λd H R=>c d H λe b=>∃a,e=[.ref a]/\(∃f,bJ K b a f)/\R (uQ K a) b
def BW{a:bG}{p f:dt}(t:kj X "enumerate")(v:X.b "enumerate"=ac)(w:gb "enumerate"=aa (.type "enumerate"))(x:jQ X [a] l)(y:eR [a] X.env=[(ahl aH (dw a X.env))]:=by rfl):kK X (.Tuple elts k tpos) (.Call (.Name "enumerate" p) [a] [] f) (YI X.K l):=by
 intro c s m H R I h;show AM<|of I t v w<|ua (bO (x f c s m H _ I h) λN d (P,n,i,A,j)=>?_) y O;obtain⟨B,e,⟨Q,j⟩,q⟩:=j;subst e;let(u,rfl,C):=kH A;cases C;let(D,ϟ,E,ϟ):=i.list j;show call_enumerate_list E.isList λG o K S L=>?_;show ahp o ?_;let M:aK X c m n {d with heap:=G}:=i.F (t':=d.toks) L;show(d⁻¹+1,[d⁻¹+1,d⁻¹],_,_,n,O,M,WW B _ _ (by intro z;let T:(_:Nat)=_:=z;show ù ß (å T)),((_,o),K),λb r=>?_,q);let g:d⁻¹<=b:=by
  erw[ci,uj,sE] at r;obtain rfl|rfl:=r;show iY _ _;show aE _
 show i.A2 g<|i.a.q g
def YS{K:aT}{xs:List ak}{g:gK}{l:gJ}{D:nx}(c:Nat->aY->ag->Prop)(o:c 0 b H)(r:∀i b H,i<=xs.length->c i b H->bJ K H a xs)(s:∀i x p b H,xs[i]?=aa x->c i b H->H p=ac->g 6#p b (aN H p<|.tup [.int i,x]) λd k=>l {D with a:=c<|i+1,b:=c<|i+1,c:=D.a} d k)(t:∀b H,c xs.length b H->D.a b H):∃W:Nat->Nat->aY->ag->Prop,(∃m,W 0 m b H)/\∀i m b H,W i m b H->
   ((uQ K a).b i H/\D.a b H)\/((uQ K a).a i H/\∃N:aY->ag->Prop,(∀f h,N f h->∃n,n<m/\W (i+1) n f h)/\∀x h,(uQ K a).c i H x h->g x b h λd k=>l {D with a:=N,b:=N,c:=D.a} d k):=by
 show(λi m b H=>m=xs.length-i/\i<=xs.length/\c i b H,(xs.length,by simp,cJ _,o),?_);rintro i m b H ⟨rfl,u,p⟩;let q:=r i b H u p
 cases j:i<xs.length
 show .inr ((xs,q,j),c<|i+1,λf h v=>(xs.length-(i+1),ω,O,j,v),λx h y=>?_)
 let(w,z,rfl,A,rfl,y):=y;show s i z w b _ (y xs q) p A
 let e:i=xs.length:=(û u (ô j))
 subst e;show .inl ((xs,q,O),t b H p)
def OY:∀{a:List Bool}{c:List ae},cv (a.map ak.c) c->LSm.BoolsAre c a
 |[],_,.nil=>.nil
 |b::a,_,.cons r t=>by cases r;show .cons b<|OY t
def xf(n:X.c=ap):lE X (.builtin "all") (λg H Q=>∃(l:ab)(a:List Bool),g=[.ref l]/\bJ X.K H l (a.map ak.c)/\Q (.c<|a.all id) H):=by
 rintro j s B H g C Q I r ⟨l,a,rfl,o,q⟩;let(u,rfl,p):=kH r;cases p;let(c,t,w,ϟ):=I.list o;let x:=I.b.a n;let d:=w.isList;let k:=OY t;let f:l<s⁻¹:=by let(ϟ,e,ϟ):=d;show cG e
 show call_all_walk<|vy d ?_;show(s⁻¹,[s⁻¹,l],[s⁻¹],c.toArray.size,_,_,λi=>(a[i]?).getD ap,O,Av (A:=X.A.in1) x _ l (cP f) c.toArray,
  ((_,eB _ O,O,O),d.push _),λi v D E G y m=>?_,λK L z=>?_)
 let(b,e,rfl):=k.get i v 5#y;erw[e,ug] at m;show vx m;let e:((aP c.toArray.size).all λi=>(a[i]?).getD ap)=a.all id:=by
  rw[dk,k.length];show LSm.range_all a
 rw[e];show(.c _,H,I.F<|KQ z,O,q)
end
section
variable{K:aT}{a:ab}{xs:List ak}{g:gK}{tc:fV}{te:bp}{σ:aY}{H1:ag}{Q:aR}{D:ab}
def GU(n:Nat)(b:Nat->aY->List ak->ag->Prop)(i m:Nat)(σ:aY)(H:ag):Prop:=m=n-i/\i<=n/\∃a,a.length<=i/\b i σ a H
def rg(n:Nat)(e:Nat->aY->List ak->ag->Prop)(D:ab)(i:Nat)(a:aY):aR:=λy c=>∃b d,c D=aa (.lst b)/\b.length<bE/\d<n-i/\GU n e (i+1) d a (aN c D<|.lst<|b++[y])
def tu(n:Nat)(c:Nat->aY->List ak->ag->Prop)(i:Nat)(a:aY)(d:ag):Prop:=∃b,b<n-i/\GU n c (i+1) b a d
def gH{n:Nat}{c:Nat->aY->List ak->ag->Prop}{i:Nat}{a:aY}{ys:List ak}{y:ak}{b:ag}(f:n<=bE)(d:i<n)(g:ys.length<=i)(e:b D=aa (.lst ys))(p:c (i+1) a (ys++[y]) (aN b D<|.lst<|ys++[y])):rg n c D i a y b:=
 (ys,n-(i+1),e,(à (à (ï g) d) f),ω,O,d,ys++[y],by simp;show g,p)
def OR{n:Nat}{c:Nat->aY->List ak->ag->Prop}{i:Nat}{a:aY}{b:List ak}(e:i<n)(f:b.length<=i)(p:c (i+1) a b d):tu n c i a d:=
 (n-(i+1),ω,O,e,b,(í f),p)
def ti{A:iN}(n:Nat)(f:Nat->aY->List ak->ag->Prop)(r:f 0 σ [] (aN H1 D<|.lst []))(h:∀σ a H,f n σ a H->A.b n H)(l:∀i σ a H,i<n->f i σ a H->A.a i H)(s:∀i σ a H x o,i<n->a.length<=i->f i σ a H->A.c i H x o->g x σ o λc t=>tc c t λb q=>if b=ap then te c q (rg n f D i c) else tu n f i c q)(u:∀σ a H,f n σ a H->Q 6#D H):eY A g tc te σ H1 D Q:=by
 show(GU n f,(n,by simp,cJ _,[],aE _,r),?_);rintro i m d k ⟨rfl,z,a,v,p⟩;cases j:i<n;show .inr (l i d a k j p,λx w y=>s i d a k x w j v p y);let e:i=n:=(û z (ô j));subst e;show .inl (h d a k p,u d a k p)
def nw(f:Nat->aY->List ak->ag->Prop)(l:f 0 σ [] (aN H1 D<|.lst []))(h:∀i σ c H,f i σ c H->bJ K H a xs)(m:∀i σ c H x,xs[i]?=aa x->i<xs.length->c.length<=i->f i σ c H->g x σ H λd n=>tc d n λb k=>if b=ap then te d k (rg xs.length f D i d) else tu xs.length f i d k)(o:∀σ c H,f xs.length σ c H->Q 6#D H):eY (ki K a) g tc te σ H1 D Q:=by
 show ti xs.length f l (λσ c H p=>(xs,h _ _ _ _ p,aE _)) (λi σ c H j p=>(xs,xs[i],h _ _ _ _ p,by simp[j])) (λi σ c H x r j q p y=>?_) o;let(e,y):=y;subst e;show m i σ c _ x (y xs<|h _ _ _ _ p) j q p
def Ze(f:Nat->aY->List ak->ag->Prop)(l:f 0 σ [] (aN H1 D<|.lst []))(h:∀i σ c H,f i σ c H->gr K H a xs)(m:∀i σ c H x,xs[i]?=aa x->i<xs.length->c.length<=i->f i σ c H->g x σ H λd n=>tc d n λb k=>if b=ap then te d k (rg xs.length f D i d) else tu xs.length f i d k)(o:∀σ c H,f xs.length σ c H->Q 6#D H):eY (uP K a) g tc te σ H1 D Q:=by
 show ti xs.length f l (λσ c H p=>(xs,h _ _ _ _ p,aE _)) (λi σ c H j p=>(xs,xs[i],h _ _ _ _ p,by simp[j])) (λi σ c H x r j q p y=>?_) o;let(e,y):=y;subst e;show m i σ c _ x (y xs<|h _ _ _ _ p) j q p
def xd{h:Int}{n:Nat}(d:Nat->aY->List ak->ag->Prop)(k:d 0 σ [] (aN H1 D<|.lst []))(l:∀i σ c H,i<n->c.length<=i->d i σ c H->g (.int<|h+i) σ H λa m=>tc a m λb j=>if b=ap then te a j (rg n d D i a) else tu n d i a j)(o:∀σ c H,d n σ c H->Q 6#D H):eY (lC h n) g tc te σ H1 D Q:=by
 show ti n d k (λσ c H p=>aE _) (λi σ c H f p=>f) (λi σ c H x r f q p y=>?_) o;let(e,y):=y;subst e y;show l i σ c _ f q p
def OT{h j:ab}(d:Nat->aY->List ak->ag->Prop)(l:d 0 σ [] (aN H1 D<|.lst []))(e:∀i σ a H,d i σ a H->gr K H h xs/\gr K H j ys)(m:∀i σ a H p x y,xs[i]?=aa x->ys[i]?=aa y->i<dy xs.length ys.length->a.length<=i->d i σ a H->H p=ac->g 6#p σ (aN H p<|.tup [x,y]) λc n=>tc c n λb k=>if b=ap then te c k (rg (dy xs.length ys.length) d D i c) else tu (dy xs.length ys.length) d i c k)(o:∀σ a H,d (dy xs.length ys.length) σ a H->Q 6#D H):eY (CJ K h j) g tc te σ H1 D Q:=by
 show ti (dy xs.length ys.length) d l (λσ a H p=>(xs,ys,(e _ _ _ _ p).1,(e _ _ _ _ p).2,O)) (λi σ a H f p=>(xs,ys,(e _ _ _ _ p).1,(e _ _ _ _ p).2,f)) (λi σ a H v z f q p y=>?_) o;let(r,x,s,rfl,t,rfl,u,w):=y;show m i σ a H r x s (u xs (e _ _ _ _ p).1) (w ys (e _ _ _ _ p).2) f q p t
end
def ku(h:aX)(d:ab)(a:Array qB)(b:Nat):Prop:=∃o,h.get? d=aa o/\o.ExactDict/\o.data=.dict a b
def ku.q{h a:aX}(x:ku h d b c)(k:∀o,h.get? d=aa o->a.get? d=aa o):ku a d b c:=let ⟨o,e,r⟩:=x;(o,k o e,r)
def ku.F(x:ku h d a b):d<h.objs.size:=let ⟨_,c,_⟩:=x;cG c
section
variable{prog:bh}{w:ba}{A:cC}{E:Ω}{s:ax}{it d:ab}{i ep:Nat}{es:Array qB}
def ku.typeIs(x:ku s.heap d es ep):s.TypeIs 6#d "dict":=let ⟨o,a,r⟩:=x;(o,a,r.1.1)
def JI{Q:Ω}(f:(d==oD)=aH)(c:ku s.heap d es ep)(g:Q (.ref s⁻¹) {s with heap:=s.heap.push {cls:=.type "dict_keyiterator",data:=.fields #[.ref d,.int 0 0,.int es.size 0,.int ep 0]}}):aF 4#0 A (rL<|.ref d) Q E s:=by
 let b:=c.typeIs;let(o,e,h,a):=id c;show wpAny_pyIter_slot b aiz<|mY aiz b PySem.F.entry_dict_iter ?_<|PySem.F.args_dict_iter_1 _;unfold Builtin.«dict.__iter__»;calc ?_;ext ans;calc ahq b ?_;change aF _ _ (cq<|aj d) _ _ s;show aO ?_;change aF _ _ (ajo d >>= _) _ _ s;ext ajo;rw[ar %[f|fQ]];calc aO ?_;calc Em e a ?_;calc El e a ?_;calc pE<|aO (_,O,"dict_keyiterator",_,(_,eB _ O,O),EJ.lookup,?_);simpa[iV] using g
def JJ{Q:Option ae->ax->Prop}(a:s.heap.IsKeyIter it d i es.size ep)(k:ku s.heap d es ep)(l:i<es.size)(m:∀h,h.IsKeyIter it d (i+1) es.size ep->jf it s.heap h->Q (aa es[i].key) {s with heap:=h}):aF 4#0 A (jt<|.ref it) Q E s:=by
 let(o,j,n,g):=id a;let(q,c,p,e):=id k;ext jt;show ao (rJ (pF (name:=mu "__next__") a.typeIs EJ
 <|mY EJ a.typeIs ai4 ?_<|ai8 _))
 calc aO ?_;calc ?_;show ao ?_;first|calc JL a.typeIs<|aO ?_|show wpAny_bind<|wpAny_typeNameOf_keyiter a.typeIs<|wpAny_pure ?_;
 calc JS j g ?_;let f:KF "dict_keyiterator"=aH:=ξ;erw[f,fh,dX];change aF _ _ (if(aj d==cD)=ap then _ else _) _ _ s;rw[ar<|show ¬((aj d==cD)=ap) from fQ];calc aO ?_;calc Em c e ?_;rw[ar 0#0];calc aO ?_;calc El c e ?_;rw[ar 0#0];show aO ?_;erw[show ¬((i:Int)<0) from ω,dX,sz,wj l];calc ?_;first|calc JL a.typeIs<|aO ?_|show wpAny_bind<|wpAny_typeNameOf_keyiter a.typeIs<|wpAny_pure ?_;
 calc ahs a.typeIs ?_;change aF _ _ (vA 6#it 1 (iV<|(i:Int)+1) >>= _) _ _ s;calc Ei j g 0#0 ?_;let b:(s.heap.update it (aio (·.setIfInBounds 1<|iV<|(i:Int)+1))).IsKeyIter it d (i+1) es.size ep:=
  (_,qA _ j<|aip<|Ko g _,(aiq ..).trans n,by rw[Ko g];simp[iV])
 calc ik ?_;show ao (ahs (s:={s with heap:=s.heap.update it (aio (·.setIfInBounds 1<|iV<|(i:Int)+1))}) b.typeIs ?_);change aF _ _ (cq es[i].key) _ _ _;show aO<|aO (_,O,aO<|m _ b<|mv ..)
def done{Q:Option ae->ax->Prop}(k:A.handled=ac)(c:s.heap.IsKeyIter it d es.size es.size ep)(l:ku s.heap d es ep)(n:∀h,SV it s.heap h->Q ac {s with heap:=h}):aF 4#0 A (jt<|.ref it) Q E s:=by
 let(o,i,q,j):=id c;let(r,e,p,f):=id l;ext jt;show ao (rJ (pF (name:=mu "__next__") c.typeIs EJ
 <|mY EJ c.typeIs ai4 ?_<|ai8 _))
 calc aO ?_;calc ?_;show ao ?_;first|calc JL c.typeIs<|aO ?_|show wpAny_bind<|wpAny_typeNameOf_keyiter c.typeIs<|wpAny_pure ?_;
 calc JS i j ?_;let g:KF "dict_keyiterator"=aH:=ξ;erw[g,fh,dX];change aF _ _ (if(aj d==cD)=ap then _ else _) _ _ s;rw[ar<|show ¬((aj d==cD)=ap) from fQ];calc aO ?_;calc Em e f ?_;rw[ar 0#0];calc aO ?_;calc El e f ?_;rw[ar 0#0];show aO ?_;erw[show ¬((es.size:Int)<0) from ω,dX,sz,Fi (aE es.size)];calc ?_;first|calc JL c.typeIs<|aO ?_|show wpAny_bind<|wpAny_typeNameOf_keyiter c.typeIs<|wpAny_pure ?_;
 change aF _ _ (vA 6#it 0 .none >>= _) _ _ s;calc Ei i j 0#0 ?_;change aF _ _ (As (.type "StopIteration") [] >>= _) _ _ _;calc ?_;erw[As,Sr];calc pE ?_ (by size_fits);show ao (m:=Sv _ _)<|rI (a:=cD) (by first|rfl|(erw[firstArgMember];rfl)) ?_;show pE ?_ (by size_fits);erw[So];calc Sd ?_;rw[show A.in1.handled=ac from k];calc aO<|RZ ?_;calc JQ (T:="StopIteration") (b:=ap) (_,eB _ O,O) Ka ?_;show aO<|n _<|((mv ..).extBut.push _).push _
def agz(p:A.handled=ac)(I d:ab)(j:d≠I)(es:Array qB)(ep:Nat):yi prog w A I [I,d] [I] es.size (λi v=>∃e,es[i]?=aa e/\v=e.key) (λi h=>h.IsKeyIter I d i es.size ep/\ku h d es ep) where
 sub:=λb c=>by simp at c ⊢;show .inl c
 frame:=λi h g a k=>(let ⟨o,q,r⟩:=a.1;(o,k I 0#0 o q,r),a.2.q λo e=>k d 0#0 o e)
 item:=λi s Q E m a f=>JJ a.1 a.2 m λg l n=>f _ g s.toks (es[i],by simp[m],O) (l,a.2.q λo e=>(n.2 d j).trans e) λb o c e=>(n.2 b (λz=>c (by simp[z]))).trans e
 done:=λs Q E a f=>done p a.1 a.2 λg t=>f g s.toks λb o c e=>t b o (λz=>c (by simp[z])) e
 self:=λi s Q E a f=>Sb a.1 f
def ag0(c:(d==oD)=aH):SP prog w "dict" d d es.size (λi v=>∃e,es[i]?=aa e/\v=e.key) (λh=>ku h d es ep) where
 type:=λ_ a=>a.typeIs
 there:=λ_ a=>(a.F,a.F)
 keep:=λ_ _ a f=>a.q λo e=>f d (.inl O) o e
 notList:=ξ
 notTuple:=ξ
 hint:=λ_ _ _ _ a b=>PySem.W.kdl_hint_dict a.typeIs b
 iter:=λ_ s g a=>(_,_,(λ_ _ b=>JI c a b),agz g _ d (cP a.F) es ep,((_,eB _ O,O,O),a.q λo e=>bQ _ e))
end
section
variable{X:bj}
def GI{k:bi}(h:(gh P w).is k u=ap):cF (dT k) u:=by
 obtain⟨i,t,rfl,rfl⟩|⟨x,t,rfl,rfl⟩:=qb h;show(t,O);show(t,O)
def Zk(N:X.c=ap):lE X (.type "list") (λC H Q=>∃a d,C=[.ref a]/\H a=aa (.b d)/\
  ∀(j:List ab),gD (λ(p:List bi×ak) b=>H b=aa (.tup<|p.1.map dT)) d j->∀l,H l=ac->Q 6#l (aN H l<|.lst<|j.map ak.ref)):=by
 rintro D s σ H C us Q I r ⟨a,d,rfl,v,q⟩;let(u,rfl,P):=kH r;cases P;let(z,y,f,g,o,k,E,R,S,T,G,h5):=(show eW X.prog X.w H s.heap a (.b d) from I.a a _ v);let K:k.size=d.length:=by
  have:=jy ah G;rw[aA,<-m_ g] at this
  simpa using this
 show SM (ag0 (ep:=E) (es:=k) y) (I.b.a N) (o,R,S,T) %[K|z] λU tk c W Y e Z=>?_;let(n1,n2):=Z;let pb:gD (λ(p:List bi×ak) b=>H b=aa (.tup<|p.1.map dT)) d (f.map (·.2.1)):=by
  have:∀{l:List (List bi×ak)}{m:List (List bi×ab×ae)},mh H l m->gD (λ(p:List bi×ak) b=>H b=aa (.tup<|p.1.map dT)) l (m.map (·.2.1)):=by
   intro l m q;induction q with
   |nil=>show .nil
   |cons v t w=>show .cons v.2.1 w
  show this g
 let ea:c.toList=(f.map (·.2.1)).map aj:=by
  apply ak7;intro i;let L:f.length=c.size:=%[n1,K|(m_ g).symm]
  cases x:i<c.size;let(e',A,B):=n2 i c[i] (by simp[x]);let n:k.toList[i]?=aa e':=by simpa using A
  rw[G,ca] at n;let M:f[i]?=aa f[i]:=by simp[L,x]
  rw[M] at n;erw[vU,ud] at n;erw[ca,M,vU,oS,wj x];rw[B,<-n];rfl;let A:c.toList.length<=i:=by simp;show ô x
  let B:((f.map (·.2.1)).map aj).length<=i:=by simp[L];show ô x
  rw[oP A,oP B]
 let vv:cv ((f.map (·.2.1)).map ak.ref) c.toList:=by
  rw[ea];generalize f.map (·.2.1)=j;induction j with
  |nil=>show .nil
  |cons b j w=>show .cons O w
 show(.ref s⁻¹,_,I.J Y (aE _) (show eW X.prog X.w _ U _ (.lst ((f.map (·.2.1)).map ak.ref)) from(?_,c.toList,W,vv,by simpa using e)),O,q _ pb _<|I.a.q<|aE _);erw[aA];rw[<-m_ g];show z
def Zl(G:X.c=ap):lE X (.type "list") (λA H Q=>∃a b,A=[.ref a]/\H a=aa (.a b)/\∀l,H l=ac->Q 6#l (aN H l<|.lst<|b.map λd=>dT d.1)):=by
 rintro B s σ H A us Q I r ⟨a,b,rfl,n,q⟩;let(u,rfl,K):=kH r;cases K;let(z,y,L,f,o):=uJ I.a n;let(C,o):=o.dictAt;let M:=f.length;show SM (aie (knd:=gh X.prog X.w) (kvs:=L) (ep:=C) y) (I.b.a G) o (by rw[<-M];show z) λN tk g P R e S=>?_;let(T,U):=S;let W:cv (b.map λd=>dT d.1) g.toList:=by
  let w:∀{l:List (bi×ak)}{m:List (bi×ae)}{c:List ae},kh l m->c.length=m.length->(∀(i:Nat) v,c[i]?=aa v->∃k x,m[i]?=aa (ahl k x)/\(gh X.prog X.w).is k v=ap)->cv (l.map λd=>dT d.1) c:=by
   intro l m c q;induction q generalizing c with
   |nil=>intro j _;cases c with
    |nil=>show .nil
    |cons _ _=>simp at j
   |@cons p q' ps qs n t Y=>
    intro j D;cases c with
    |nil=>simp at j
    |cons v c=>
     let(k,x,E,Z):=D 0 v O;erw[Ub,ud] at E;show .cons ?_ (Y 5#j λi v e=>by simpa using D (i+1) v 5#e);have:p.1=k:=#v[n.1,E]
     change cF (dT p.1) v;rw[this];show GI Z
  show w f 5#T λi v e=>U i v 5#e
 show(.ref s⁻¹,_,I.J R (aE _)<|show eW X.prog X.w _ N _ (.lst<|b.map λd=>dT d.1) from(?_,g.toList,P,W,by simpa using e),O,q _<|I.a.q<|aE _);simpa using z
end
def gI(H:ag)(a:ab)(b:Ζ):Prop:=H a=aa (.tup<|b.map ak.int)
abbrev ce(H:ag)(c:List ab)(b:Ξ):Prop:=gD (λa d=>gI H a d) c b
def aM.tp(e:aM H b)(h:gI H a c):gI b a c:=e _ _ h
def aM.A0(e:aM H b)(h:ce H c a):ce b c a:=lw h λ_ _ q=>e.tp q
def aM.q{H:ag}(h:H a=ac):aM H (aN H a o):=λb u e=>%[bI<|dn e h|e]
def aM.F(e:aM H c)(h:H a=ac):aM H (aN c a o):=λb u q=>%[bI<|dn q h|e b u q]
def ce.length(h:ce H b a):b.length=a.length:=m_ h
def ce.q:∀{c:List ab}{b:Ξ}{i:Nat}{a:ab},ce H c b->c[i]?=aa a->∃d,b[i]?=aa d/\gI H a d
 |_,_,_,_,.nil,e=>by simp at e
 |_,_,0,_,.cons r _,e=>by simp at e;subst e;show(_,O,r)
 |_,_,i+1,a,.cons _ t,e=>by
  let(u,f,g):=ce.q (i:=i) (a:=a) t 5#e;show(u,by simpa using f,g)
def ce.F(h:ce H c b)(q:gI H a d):ce H (c++[a]) (b++[d]):=by
 induction h with
 |nil=>show .cons q .nil
 |cons r t e=>show .cons r e
def ce.A1(h:ce H c a)(q:ce H d b):ce H (c++d) (a++b):=by
 induction h with
 |nil=>show q
 |cons r t e=>show .cons r e
def ce.A0:∀{b:List ab}{a:Ξ}(n:Nat),ce H b a->ce H (b.take n) (a.take n)
 |_,_,0,_=>.nil
 |_,_,_+1,.nil=>.nil
 |_,_,n+1,.cons r t=>.cons r (ce.A0 n t)
def ce.J:∀{b:List ab}{a:Ξ}(n:Nat),ce H b a->ce H (b.drop n) (a.drop n)
 |_,_,0,r=>r
 |_,_,_+1,.nil=>.nil
 |_,_,n+1,.cons _ t=>ce.J n t
def zd:∀{b:List ab}{c:List ae},cv (b.map ak.ref) c->c=b.map aj
 |[],_,.nil=>O
 |a::b,_,.cons r t=>by cases r;rw[zd t];rfl
def NH{b:Type}(f:b->ab):∀l:List b,cv (l.map λq=>ak.ref<|f q) (l.map λq=>aj<|f q)
 |[]=>.nil
 |a::l=>.cons O (NH f l)
section
variable{X:bj}
def Ov{b:List ae}(j:lW h c b.toArray)(g:ia b f):gE (gh a w) h (f.map bF) c:=by
 let(o,e,i,k,d):=j;show(o,b.toArray,k,e,i,d,?_);have:∀{b:List ae}{f:Ζ},ia b f->EI (gh a w) (f.map bF) b:=by
  intro b f g;induction g with
  |nil=>show .nil
  |cons n t h l=>show .cons (GF a w n t) l
 simpa using this g
def qY{a b:Ζ}:(a.map bF:List bi)=b.map bF↔a=b:=
 (λz=>(Lj (f:=(bF:Int->bi)) (λx y h=>RY h)).mp z,λz=>#v[z])
def YV{i:aY}{A:cC}(I:aK X c i H s)(j:gI H a e)(k:gI H b f)(l:A.units<eJ):Km A s 6#a 6#b (aJ<|e=f):=by
 intro d w E Q h;let(m,n,o,ϟ):=I.q<|gr.q j;let(g,p,q,ϟ):=I.q<|gr.q k;show JU (knd:=gh d w) l (Ov o<|wX n) (Ov q<|wX p) ?_;rw[show aJ ((e.map bF:List bi)=f.map bF)=aJ (e=f) from by erw[qY]];show h
inductive BS(x:ak)(y:ak)(H:ag)(Q:aR):Prop
 |c:∀a b xs ys,(x=.ref a)->(y=.ref b)->(H a=aa (.tup xs))->(H b=aa (.tup ys))->(xs.length+ys.length<=bE)->(∀p H',aM H H'->H' p=aa (.tup<|xs++ys)->Q 6#p H')->BS x y H Q
def Op:gs X (oE .Add) BS:=by
 rintro m s Z H x y v u Q I M N ⟨a,b,p,P,rfl,rfl,r,t,w,q⟩;cases M;cases N;let(R,g,A,ϟ):=I.q<|gr.q r;let(c,i,B,ϟ):=I.q<|gr.q t;cases C:p=[];subst C;let S:=g.A2.mpr O;subst S;obtain⟨⟨T,U,D,V⟩,E,G,n,K⟩:=id A;obtain⟨⟨L,j,k,l⟩,d,e,W,f⟩:=id B;simp only at G K e f;subst G K e f;show Sw (_,E,O) (_,d,O) Sq Sk SX Td (Tg _ _)
  (tuple_addW0 a b (dG []) c.toArray n W U j V l 0#0) (E,d,.ref b,H,I,O,q b H (aM.refl H) 5#t)
 show agx A B (λz=>C<|g.A2.mp z) (λz=>(.ref a,H,I,O,q a H (aM.refl H) ?_)) (λz=>?_) (by rw[<-g.length,<-i.length];show w);rw[i.A2.mp z,sy];show r;let Y:=I.a.q<|aE s⁻¹;show(.ref s⁻¹,_,I.J (t':=s.toks) (o:=.tup<|p++P) (λb ob q=>bQ _ q) (aE _) ?_,O,q _ _ (aM.q Y) aI);show(%[eE|w],_,g.F i,TF _ _)
inductive NV(neg:Bool)(K:aT)(x:ak)(y:ak)(H:ag)(Q:aR):Prop
 |b:∀a l ps as pss,(x=.ref a)->(y=.ref l)->(gI H a ps)->(bJ K H l<|as.map ak.ref)->(ce H as pss)->(Q (.c<|if neg then !aJ (ps∈pss) else aJ (ps∈pss)) H)->NV neg K x y H Q
def wY(H:ag)(a:Ζ)(u:ae):Bool:=match u with
 |.ref b=>(match H b with|some (.tup c)=>aJ (c=a.map ak.int)|_=>aH)
 |_=>aH
def Yw{a b:Ζ}:(a.map ak.int:List ak)=b.map ak.int↔a=b:=
 (λz=>(Lj (f:=ak.int) (λx y h=>ak.int.inj h)).mp z,λz=>#v[z])
def OJ(h:gI H b c):wY H a 6#b=aJ (c=a):=by
 change(match H b with|some (.tup d)=>aJ (d=a.map ak.int)|_=>aH)=_;rw[show H b=aa (.tup<|c.map ak.int) from h];erw[Yw]
def Zr(h:ce H d b):(d.map aj).any (wY H c)=aJ (c∈b):=by
 induction h with
 |nil=>simp
 |@cons a f d b r t g=>
  rw[fg,Ly,g,OJ r];cases e:f=c;subst e;simp;have:¬c=f:=λz=>e z.symm;simp[e,this]
def Yg{j:aY}{A:cC}{i:Ζ}(I:aK X d j H s)(k:gI H a i)(g:A.units<eJ):∀{e:List ab}{c:Ξ},ce H e c->∀u∈e.map aj,Km A s u 6#a (wY H i u):=by
 intro e c h;induction h with
 |nil=>intro u g;simp at g
 |@cons b m e c r t l=>
  intro u f;rw[fg] at f;obtain rfl|f:=ci.mp f;rw[OJ r];show YV I r k g;show l u f
def XS(f:X.A.in1.units<eJ):gs X (kx .NotIn) (NV ap X.K):=by
 rintro c s t H x y v u Q I g i ⟨a,l,b,d,j,rfl,rfl,k,m,e,q⟩;cases g;cases i;let(n,r,o,z):=I.list m;obtain rfl:=zd r;show SeqAt.notIn_listAt (wY H b) o.isList (λw p=>Yg I k f e w 5#p) (.c _,H,I,O,?_);rw[show(d.map aj).toArray.any (wY H b)=(d.map aj).any (wY H b) by simp,Zr e];show q
inductive NU(x:ak)(vs:List ak)(H:ag)(Q:aR):Prop
 |a:∀l xs i y,(x=.ref l)->(vs=[.int i,y])->(H l=aa (.lst xs))->(0<=i)->(i<=xs.length)->(xs.length<bE)->(Q .non<|aN H l<|.lst<|xs.take i.toNat++y::xs.drop i.toNat)->NU x vs H Q
def Yd:CH X "list.insert" NU:=by
 rintro c s w H x A v B Q I g j ⟨l,C,i,y,rfl,rfl,d,D,E,G,q⟩;cases g;let(u,f,rfl,k,b):=j.A3;let(t,rfl):=k;let(z,a,n,r,K,e):=I.B0 d;let m:bE<2 ^ 62:=by rw[iC];decide
 let o:Tt i=ap:=by
  ext Tt;erw[lb,jx];k_in<;>lk
 show tS aiu (_,e,O) F.entry_list_insert (F.args_list_insert_3 _ _ _) (anv l a.toArray n i t f (by simp[o]) %[dk|à (æ K) z]) (e,?_);show(.non,_,I.C7 (its':=a.take i.toNat++f::a.drop i.toNat) (t':=s.toks) d e ?_ ((r.A0 _).F<|.cons b<|r.J _) ?_,O,q);let p:(if i<0 then(i+(a.toArray.size:Int)).toNat else dy i.toNat a.toArray.size)=i.toNat:=by
  rw[ar ω,dk];lk
 k_ne;rw[p];simp;show eF %[lX|aE _];rw[eE,dI,gf,lX];lk
def Zn:lE X (.type "int") (λa H Q=>∃x n,a=[.str x]/\Kb x=aa n/\x.length<=640/\Q (.int n) H):=by
 rintro b s e H a f Q I r ⟨x,n,rfl,c,d,q⟩;let(u,rfl,t,rfl):=kH r;show amb c d (.int n,H,I.A0 _,(_,O),q)
end
section
variable{X:bj}
def Oe(a:Ζ):∀k,k<=a.length->JZ (λi=>(a[i]?).getD 0) k=(a.take k).sum
 |0,_=>by simp[JZ]
 |k+1,h=>by
  let b:=Oe a k (ì h);let e:a[k]?=aa a[k]:=bu h;change JZ (λi=>(a[i]?).getD 0) k+(a[k]?).getD 0=_;rw[b,yy,e,Ld];simp
def wW{a:Ζ}(r:cv (a.map ak.int) b){i:Nat}(h:b[i]?=aa v):∃n t,a[i]?=aa n/\v=.int n t:=by
 let d:b.length=a.length:=by rw[<-r.length,aA]
 let f:i<a.length:=by rw[<-d];show(dN.mp h).1
 let e:a[i]?=aa a[i]:=bu f;let(u,c,g):=r.q (show(a.map ak.int)[i]?=aa (ak.int a[i]) by rw[ca,e];rfl);rw[h] at c;obtain rfl:=cX c;let(t,rfl):=g;show(_,t,e,O)
def Cx(x:X.c=ap):lE X (.builtin "sum") (λk H Q=>∃(l:ab)(c:Ζ),k=[.ref l]/\bJ X.K H l (c.map ak.int)/\Q (.int c.sum) H):=by
 rintro m s K H k L Q I r ⟨l,c,rfl,y,q⟩;let(u,rfl,z):=kH r;cases z;let(a,p,B,ϟ):=I.list y;let C:=I.b.a x;let g:=B.isList;let d:l<s⁻¹:=by let(ϟ,e,ϟ):=g;show cG e
 let D:a.length=c.length:=by rw[<-p.length,aA]
 show call_sum_walkAnyS<|vy g ?_;show(s⁻¹,[s⁻¹,l],[s⁻¹],_,a.toArray.size,_,_,λi=>(c[i]?).getD 0,O,(Av (A:=X.A.in1) C _ l (cP d) a.toArray).toS,
  ((_,eB _ O,O,O),g.push _),λb f=>?_,λi v E=>?_,λM N w=>?_)
 let j:b<=s⁻¹:=by
  erw[ci,uj,sE] at f;obtain rfl|rfl:=f;show aE _;show oK d
 show fH j<|cG<|eB _ O;let(n,t,e,rfl):=wW p (show a[i]?=aa v by simpa using E);show(t,by erw[e,ug]);let e:JZ (λi=>(c[i]?).getD 0) a.toArray.size=c.sum:=by
  rw[dk,D,Oe c _<|aE _,eF<|aE _]
 rw[e,Moved.eq_with w];show(.int _,H,I.F<|KQ λb o f G=>w.heap b o f G,(_,O),q)
inductive Gy(x:ak)(vs:List ak)(H:ag)(Q:aR):Prop
 |a:∀(l:ab)(ns:Ζ)(n:Int),(x=.ref l)->(vs=[.int n])->(H l=aa (.lst<|ns.map ak.int))->(Q (.int (ns.countP (·==n))) H)->Gy x vs H Q
def OS(n:Int):∀{b:Ζ}{a:List ae},cv (b.map ak.int) a->a.countP (λu=>match u with|.int m _=>m==n|_=>aH)=b.countP (·==n)
 |[],_,.nil=>O
 |m::b,_,.cons r t=>by
  let(c,rfl):=r;rw[alc,alc,OS n t]
def Ye:CH X "list.count" Gy:=by
 rintro b s A H G B v C Q I f g ⟨l,d,n,rfl,rfl,j,q⟩;cases f;let(u,rfl,k):=g.A1;let(z,a,c,r,D,e):=I.B0 j;show tS aiv (_,e,O) F.entry_list_count (F.args_list_count_2 _ _) (SeqAt.list_countAt l a.toArray c ac #[] u (λu=>match u with|.int m _=>m==n|_=>aH)) (e,λK o=>?_,?_);let(i,p):=qI.mp (show K∈a by simpa using o);let(m,t,E,rfl):=wW r p;show YW (y:=.int m) (x:=.int n) (t,O) k O O;let w:a.toArray.toList.countP (λu=>match u with|.int m _=>m==n|_=>aH)=d.countP (·==n):=OS n r;show(.int (d.countP (·==n)),H,I.A0 _,(_,by rw[<-w]),q)
def Pb{bt:Nat->Nat->Bool}{val:Nat->Int}(a:∀i j,bt i j=aJ (val j<val i)):∀k,rM bt k<=k/\∀i,i<=k->val i<=val (rM bt k)
 |0=>by
  rw[aia];show(aE _,λi b=>by have:i=0:=(û b ú);rw[this];show pN _)
 |k+1=>by
  let(d,c):=Pb a k;rw[SH,a];cases g:val (rM bt k)<val (k+1);rw[aw<|cN g];show(aE _,λi b=>?_);obtain h|h:=ji i (k+1)
  have:=c i (ò h);lk
  have:i=k+1:=(û b h);rw[this];show pN _;rw[ar (λz=>g<|gP z)];show(EW d,λi b=>?_);obtain h|h:=ji i (k+1);show c i (ò h);have:i=k+1:=(û b h);rw[this];lk
end
def bW(P:bh)(w:ba)(K:aT)(b:aB->Option ae)(a:aX)(e:mi)(x:aB)(c:List aB)(k:Nat)(g:me):Prop:=
 ∃(f:ab)(d:cm),Ex K 6#f=ap/\ou K d c []/\b x=aa 6#f/\cp P w K b a e k f d c g
section
variable{X:bj}{CX:mi}{k n:Nat}{ps:List aB}{sp:me}{E:cy}{x:aB}{p pos:dt}{e:bG}{es:List bG}{t:fN}
def bv(C:bW X.prog X.w X.K X.b X.d CX x ps k sp)(d:fF n X.A)(g:kj X x)(h:CA CX X E)(i:jQ X (e::es) t)(a:k<=n:=by decide)(b:(x==("__debug__":aB))=aH:=by decide)
  (j:eR (e::es) X.env=(ahl aH (dw e X.env))::eR es X.env:=by rfl) (c:(oF pos<|eR es X.env).any (·.1)=aH:=by rfl):bY X (.Call (.Name x p) (e::es) [] pos) (mJ sp [] E t):=by
 let(f,q,l,m,o,r):=C;show XN r (d.q a) g o l m .nil h i b j c
end
section
variable{P:bh}{w:ba}{K:aT}{mg:aB->Option ae}{base:aX}{CX:mi}{k:Nat}{f:ab}{fd:cm}{x:aB}{st:b_}{ps:List aB}{sp sq:me}
def B'(F:cz K x x st f fd)(b:ou K fd ps [])(m:mg x=aa 6#f)(G:cp P w K mg base CX k f fd ps sp):bW P w K mg base CX x ps k sp:=(f,fd,F.b,b,m,G)
structure uR(K:aT)(x:aB)(st:b_)(f:ab):Prop where
 b:∃fd,cz K x x st f fd
 a:SI K mq x=aa (aa<|.ref f)
def Y'{g:ae}{h i:Option ab}{d:Array (Option ae)}{j e m b n:ae}(a:SI K mq x=aa (aa<|.ref f))(l:K.lookup f=aa (g,h,.func<|vF x x (xa st) (qd st) (bD st) .none j e m i b n,d))(c:Kg K b x=ap)(k:Ex K 6#f=ap):uR K x st f:=((_,YO l c k),a)
structure iM(K:aT)(x:aB)(v:Option ae):Prop where
 e:SI K mq x=aa v
abbrev tz(x:aB)(st:b_)(c:List ae)(r:List (aB×ae)):Prop:=∀(d a e:ae)(f:Option ab)(b g:ae),SF (vF x x (xa st) (qd st) (bD st) .none d a e f b g) (c,[])=cq r
variable{h:aX}(X:K.In h)(G:h.Ns mq mg)
include X G
theorem iM.m(n:iM K x (aa v)):mg x=aa v:=Aw X G n.e
theorem iM.n(n:iM K x ac):mg x=ac:=PySem.W.mg_none_of X G n.e
theorem uR.m(D:uR K x st f):mg x=aa 6#f:=Aw X G D.a
theorem uR.J(D:uR K x st f)(p:aB)(b:∀a,tz x st [a] [(ahl p a)]:=by show λ_ _ _ _ _ _ _=>rfl):∃fd,cz K x x st f fd/\ou K fd [p] []/\mg x=aa 6#f:=by
 obtain⟨⟨fd,e⟩,a⟩:=D;show(fd,e,e.F λ_ _ _ _ _ _ c d=>?_,Aw X G a);match c,d with
 |[a],_=>show b a _ _ _ _ _ _
theorem uR.q(D:uR K x st f)(p q:aB)(c:∀a b,tz x st [a,b] [(ahl p a),(ahl q b)]:=by show λ_ _ _ _ _ _ _ _=>rfl):∃fd,cz K x x st f fd/\ou K fd [p,q] []/\mg x=aa 6#f:=by
 obtain⟨⟨fd,g⟩,a⟩:=D;show(fd,g,g.F λ_ _ _ _ _ _ d e=>?_,Aw X G a);match d,e with
 |[a,b],_=>show c a b _ _ _ _ _ _
theorem uR.F(D:uR K x st f)(p q r:aB)(d:∀a b c,tz x st [a,b,c] [(ahl p a),(ahl q b),(ahl r c)]:=by show λ_ _ _ _ _ _ _ _ _=>rfl):∃fd,cz K x x st f fd/\ou K fd [p,q,r] []/\mg x=aa 6#f:=by
 obtain⟨⟨fd,h⟩,a⟩:=D;show(fd,h,h.F λ_ _ _ _ _ _ e g=>?_,Aw X G a);match e,g with
 |[a,b,c],_=>show d a b c _ _ _ _ _ _
theorem uR.g4(D:uR K x st f)(p q r s:aB)(e:∀a b c d,tz x st [a,b,c,d] [(ahl p a),(ahl q b),(ahl r c),(ahl s d)]:=by show λ_ _ _ _ _ _ _ _ _ _=>rfl):∃fd,cz K x x st f fd/\ou K fd [p,q,r,s] []/\mg x=aa 6#f:=by
 obtain⟨⟨fd,i⟩,a⟩:=D;show(fd,i,i.F λ_ _ _ _ _ _ g h=>?_,Aw X G a);match g,h with
 |[a,b,c,d],_=>show e a b c d _ _ _ _ _ _
omit X G
end
structure zF(P:bh)(w:ba)(K:aT)(mg:aB->Option ae)(base h:aX):Prop where
 X:K.In h
 G:h.Ns mq mg
def cT(K:aT)(x:aB)(a:b_):Prop:=∃f,uR K x a f
section
variable{P:bh}{w:ba}{K:aT}{mg:aB->Option ae}{base h:aX}{CX:mi}{k:Nat}{x:aB}{st:b_}{sp:me}
def zF.q{p:aB}(N:zF P w K mg base h)(D:cT K x st)(e:∀f c,cz K x x st f c->cp P w K mg base CX k f c [p] sp)(g:∀a,tz x st [a] [(ahl p a)]:=by show λ_ _ _ _ _ _ _=>rfl):bW P w K mg base CX x [p] k sp:=by
 let(f,d):=D;let(c,i,b,m):=d.J N.X N.G p g;show B' i b m<|e f c i
def zF.F{p q:aB}(N:zF P w K mg base h)(D:cT K x st)(e:∀f c,cz K x x st f c->cp P w K mg base CX k f c [p,q] sp)(g:∀a b,tz x st [a,b] [(ahl p a),(ahl q b)]:=by show λ_ _ _ _ _ _ _ _=>rfl):bW P w K mg base CX x [p,q] k sp:=by
 let(f,d):=D;let(c,i,b,m):=d.q N.X N.G p q g;show B' i b m<|e f c i
def zF.J{p q r:aB}(N:zF P w K mg base h)(D:cT K x st)(g:∀f e,cz K x x st f e->cp P w K mg base CX k f e [p,q,r] sp)(i:∀a b c,tz x st [a,b,c] [(ahl p a),(ahl q b),(ahl r c)]:=by show λ_ _ _ _ _ _ _ _ _=>rfl):bW P w K mg base CX x [p,q,r] k sp:=by
 let(f,d):=D;let(e,j,b,m):=d.F N.X N.G p q r i;show B' j b m<|g f e j
def zF.c4{p q r s:aB}(N:zF P w K mg base h)(D:cT K x st)(g:∀f e,cz K x x st f e->cp P w K mg base CX k f e [p,q,r,s] sp)(i:∀a b c d,tz x st [a,b,c,d] [(ahl p a),(ahl q b),(ahl r c),(ahl s d)]:=by show λ_ _ _ _ _ _ _ _ _ _=>rfl):bW P w K mg base CX x [p,q,r,s] k sp:=by
 let(f,d):=D;let(e,j,b,m):=d.g4 N.X N.G p q r s i;show B' j b m<|g f e j
end
section
variable{P:bh}{w:ba}{K:aT}{mg:aB->Option ae}{base:aX}
def cz.q{x a:aB}{k:Nat}{i:me}(F:cz K x a d f l)(S:cR N h (bD d))(b:∀(e:ae)(A:cC)(c:List im)(s:ax)(H:ag)(g:List ak)(Q:aR)(E:cy),fF k (A.deeper<|oG a (bD d) s⁻¹ f e)->i g H Q E->
   ∃t,lA (q_ aZ P w K mg base N a (bD d) f e A c s H E).A0 (qd d) t/\t {a:=λ_ m=>Q .non m,d:=Q} (qV N g) H)
  (j:∀g H Q E,i g H Q E->g.length=h.length:=by first|(rintro _ _ _ _ ⟨⟩;subst_vars;rfl)|(rintro _ _ _ _ ⟨_,rfl,_⟩;rfl)|(rintro _ _ _ _ ⟨_,_,rfl,_⟩;rfl)|(rintro _ _ _ _ ⟨_,_,_,rfl,_⟩;rfl)):cp P w K mg base aZ (k+1) f l h i:=
 F.J S j b
end
def cM(a:eK->Int)(b:Array eK)(i:Nat):Int:=match b[i]? with
 |some p=>a p
 |none=>0
def yM{b c:Array eK}{i j:Nat}(h:b[i]?=c[j]?):cM a b i=cM a c j:=by ext cM;rw[h]
def Bh{b:Array eK}{i:Nat}(h:b[i]?=aa p):cM a b i=a p:=by ext cM;rw[h]
def Srt(a:eK->Int)(b:Array eK)(c d:Nat):Prop:=∀i j,c<=i->i<=j->j<d->cM a b i<=cM a b j
def wl(a:eK->Int)(b:Array eK)(c d:Nat):Prop:=∀i j,c<=i->i<=j->j<d->cM a b j<=cM a b i
def Fj{a:Array eK}{f j:Nat}(d:j<=a.size)(k:Nat):cM b (pH a f j<|(j-f) / 2) k=if f<=k/\k<j then cM b a (f+j-1-k) else cM b a k:=by
 let e:=ajw (i:=f) d k;cases c:f<=k/\k<j;rw[aw c] at e ⊢;show yM e;rw[ar c] at e ⊢;show yM e
def yL{a:Array eK}{i j:Nat}(d:j<=a.size)(b:∀k,i<=k->k<j->cM c a k=cM c a (j-1))(k:Nat):cM c (pH a i j<|(j-i) / 2) k=cM c a k:=by
 rw[Fj d];split;rw[b _ ω ω,b k ω ω];rfl
def LX{b:Array eK}{a d:Nat}(h:a<b.size)(i:d<=a)(k:Nat):cM c (ET b a d) k=if k=a-d then cM c b a else if a-d<k/\k<=a then cM c b (k-1) else cM c b k:=by
 let e:=ajx h d i k;cases f:k=a-d;rw[aw f] at e ⊢;show yM e;rw[ar f] at e ⊢;cases g:a-d<k/\k<=a;rw[aw g] at e ⊢;show yM e;rw[ar g] at e ⊢;show yM e
structure qL(prog:bh)(w:ba)(A:cC)(s:ax)(κ:qC)(a₀:Array eK)(ρ:eK->Int):Prop where
 a:∀x y,x∈a₀.toList->y∈a₀.toList->∀(Q:Bool->ax->Prop)(E:Ω),Q (aJ<|ρ x<ρ y) s->aF 4#0 A (KN κ x.1 y.1) Q E s
structure gY(κ:qC)(a₀:Array eK)(st:eH):Prop where
 a:(bN st).Perm a₀
 c:kindOf st=κ
 b:ES st=ac
def gY.q{c:qC}{a:Array eK}{b:eH}(h:gY c a b):(bN b).size=a.size:=h.a.size_eq
def gY.F{c:qC}{a:Array eK}{b:eH}(h:gY c a b){d:Array eK}(e:d.Perm (bN b)):gY c a (EO b d):=(e.trans h.a,h.c,h.b)
def gY.J{c:qC}{a:Array eK}{b:eH}(h:gY c a b){p:eK}(d:p∈(bN b).toList):p∈a.toList:=(al0.mp h.a).mem_iff.mp d
def LW{xs:Array eK}{i:Nat}(a:i<xs.size):∃p,xs[i]?=aa p/\p∈xs.toList:=(xs[i],oU _ i a,by simp)
structure lZ(lo:Nat)(st st':eH):Prop where
 b:∀k,k<lo->(bN st')[k]?=(bN st)[k]?
 a:mx st'=mx st
def lZ.refl{b:Nat}{a:eH}:lZ b a a:=(λ_ _=>O,O)
def lZ.trans{a b c:eH}(x:lZ d a b)(y:lZ d b c):lZ d a c:=(λk h=>(y.b k h).trans<|x.b k h,y.a.trans x.a)
def lZ.q{b i j:Nat}{a:eH}(c:j<=(bN a).size)(d:b<=i):lZ b a (EO a<|pH (bN a) i j<|(j-i) / 2):=
 (λk h=>by change(pH _ _ _ _)[k]?=_;rw[ajw c,ar ω],O)
def lZ.F{c a d:Nat}{b:eH}(e:a<(bN b).size)(f:d<=a)(g:c<=a-d):lZ c b (EO b<|ET (bN b) a d):=
 (λk h=>by change(ET _ _ _)[k]?=_;rw[ajx e d f,ar %[|õ (à h g)],ar ω],O)
section
variable{prog:bh}{w:ba}{A:cC}{E:Ω}{s:ax}{κ:qC}{a₀:Array eK}{ρ:eK->Int}
def UJ(C:qL prog w A s κ a₀ ρ)(b:gY κ a₀ a){x y:eK}(c:x∈a₀.toList)(d:y∈a₀.toList){Q:Option Bool->eH->Prop}(h:Q (aa<|aJ<|ρ x<ρ y) a):nM 4#0 A E s (lt' x y) Q a:=by
 rw[lt'_eq];show gl<|AJ ?_;rw[b.c];show gl<|Tu<|rJ<|C.a x y c d _ _ (O,?_);show jI h
def LS{b:Array eK}{i:Nat}(h:b[i]?=aa p){Q:eK->eH->Prop}(c:Q p a):nM 4#0 A E s (elem' b i) Q a:=by
 rw[elem'_eq,h];show jI c
def yH(C:qL prog w A s κ a₀ ρ)(b:gY κ a₀ a){l j:Nat}(e:l<a₀.size)(f:j<a₀.size){Q:Option Bool->eH->Prop}(h:Q (aa<|aJ<|cM ρ (bN a) l<cM ρ (bN a) j) a):nM 4#0 A E s (EQ l j) Q a:=by
 let(p,c,g):=LW (xs:=bN a) (i:=l) %[b.q|e];let(q,d,k):=LW (xs:=bN a) (i:=j) %[b.q|f];rw[ltAt'_eq];show gl<|AJ ?_;change nM _ _ _ _ (do let x <-elem' (bN a) l;let y <-elem' (bN a) j;lt' x y) Q a;show gl<|LS c<|gl<|LS d<|UJ C b (b.J g) (b.J k) ?_;rw[Bh c,Bh d] at h;show h
def yK(f a d:Nat):StateT eH kS AscSt:=
 Bb [a:d] ((ahl ac a):AscSt) λ_ b=>do
  let e <-EQ (f+b.snd) (f+b.snd-1)
  match e with
  |some c=>if c=ap then cq (Fd (ahl ac b.snd)) else cq (ut (ahl ac (b.snd+1)))
  |_=>cq (Fd (ahl (aa ac) b.snd))
def yI(c n a:Nat):StateT eH kS (Option Nat):=do
 EP c (c+n)
 let b <-yK c n a
 match b.fst with
 |some r=>cq r
 |none=>cq (aa b.snd)
def Bg(e n f:Nat):StateT eH kS DescSt:=
 Bb [n:f] ((ahl ac (ahl n 0)):DescSt) λ_ a=>do
  let d <-EQ (e+a.snd.fst) (e+a.snd.fst-1)
  match d with
  |some b=>
   if b=ap then
    if a.snd.snd>0 then do
     EP (e+a.snd.fst-(a.snd.snd+1)) (e+a.snd.fst)
     cq (ut (ahl ac (ahl (a.snd.fst+1) 0)))
    else cq (ut (ahl ac (ahl (a.snd.fst+1) 0)))
   else do
    let d <-EQ (e+a.snd.fst-1) (e+a.snd.fst)
    match d with
    |some c=>
     if c=ap then cq (Fd (ahl ac (ahl a.snd.fst a.snd.snd)))
     else cq (ut (ahl ac (ahl (a.snd.fst+1) (a.snd.snd+1))))
    |_=>cq (Fd (ahl (aa ac) (ahl a.snd.fst a.snd.snd)))
  |_=>cq (Fd (ahl (aa ac) (ahl a.snd.fst a.snd.snd)))
def yJ(c n b:Nat):StateT eH kS (Option Nat):=do
 liftM (rule "list.sort.descending-run")
 let a <-Bg c (n+1) b
 match a.fst with
 |some r=>cq r
 |none=>
  if a.snd.snd>0 then do
   EP (c+a.snd.fst-(a.snd.snd+1)) (c+a.snd.fst)
   yI c a.snd.fst b
  else yI c a.snd.fst b
def kF{b c:Type}{m:StateT eH kS b}{f g:b->StateT eH kS c}(h:∀a,f a=g a):(m >>= f)=(m >>= g):=by
 let e:f=g:=funext h;rw[e]
def UN(c b:Nat):countRun' c b=(do
  let a <-yK c 1 b
  match a.fst with
  |some r=>cq r
  |none=>
   if(a.snd==b)=ap then cq (aa a.snd)
   else if a.snd>1 then do
    let h <-EQ c (c+a.snd-1)
    match h with
    |some d=>if d=ap then cq (aa a.snd) else do
      EP c (c+a.snd)
      yJ c a.snd b
    |_=>cq ac
   else yJ c a.snd b):=by
 rw[countRun'_eq];ext yJ yI Bg yK;show kF λl=>?_;let(r,n):=l;cases r with
 |some r=>rfl
 |none=>
  k_ne;split;rfl;split;show kF λx=>?_;cases x with
  |none=>rfl
  |some d=>
   k_ne;split;rfl;show kF λs=>kF λm=>kF λi=>?_;let(g,o,p):=i;cases g with
   |some g=>rfl
   |none=>
    k_ne;split;show kF λq=>kF λj=>kF λe=>?_;let(f,k):=e;cases f<;>rfl;show kF λj=>kF λe=>?_;let(f,k):=e;cases f<;>rfl
  show kF λm=>kF λi=>?_;let(g,o,p):=i;cases g with
  |some g=>rfl
  |none=>
   k_ne;split;show kF λq=>kF λj=>kF λe=>?_;let(f,k):=e;cases f<;>rfl;show kF λj=>kF λe=>?_;let(f,k):=e;cases f<;>rfl
def LV(C:qL prog w A s κ a₀ ρ){k:eH}{e a b:Nat}{Q:AscSt->eH->Prop}(z:e+b<=a₀.size)(D:1<=a)(l:a<=b)(u:gY κ a₀ k)(v:Srt ρ (bN k) e (e+a))(h:∀n,a<=n->n<=b->Srt ρ (bN k) e (e+n)->(n=b\/cM ρ (bN k) (e+n)<cM ρ (bN k) (e+n-1))->Q (ahl ac n) k):nM 4#0 A E s (yK e a b) Q k:=by
 ext yK;show AK (I:=λx c g=>g=k/\c=(ahl ac x)/\Srt ρ (bN k) e (e+x)) ?step ?fin (O,O,v)
 case fin=>
  rintro c g ⟨rfl,rfl,f⟩;rw[show max a b=b from ω] at f ⊢;show h b l (aE _) f<|.inl O
 case step=>
  rintro x c g m y ⟨rfl,rfl,f⟩;k_ne;show gl<|yH C u ω ω ?_;cases d:cM ρ (bN g) (e+x)<cM ρ (bN g) (e+x-1);erw[d,decide_true,fA];show jI<|h x m ω f<|.inr d;erw[d,decide_false,fh,dX];show jI (O,O,λi j t o G=>?_);cases p:j<e+x;show f i j t o p;let q:j=e+x:=ω;subst q;cases r:i=e+x;subst r;show pN _;show Un (f i (e+x-1) t ω ω)<|Int.not_lt.mp d
def Be{i j:Nat}{Q:Unit->eH->Prop}(h:Q () (EO a<|pH (bN a) i j<|(j-i) / 2)):nM 4#0 A E s (EP i j) Q a:=by
 rw[reverseSlice'_eq];show KH h
abbrev Fk(κ:qC)(a₀:Array eK)(ρ:eK->Int)(c b:Nat)(d:eH)(Q:Option Nat->eH->Prop):Prop:=
 ∀m a,gY κ a₀ a->lZ c d a->1<=m->m<=b->Srt ρ (bN a) c (c+m)->Q (aa m) a
def LR(C:qL prog w A s κ a₀ ρ){a n b:Nat}(p:a+b<=a₀.size)(q:1<=n)(g:n<=b)(o:gY κ a₀ d)(r:lZ a c d)(t:wl ρ (bN d) a (a+n))(h:Fk κ a₀ ρ a b c Q):nM 4#0 A E s (yI a n b) Q d:=by
 ext yI;let e:a+n<=(bN d).size:=%[o.q|à (ñ g) p]
 show gl<|Be ?_;let f:gY κ a₀ (EO d<|pH (bN d) a (a+n)<|(a+n-a) / 2):=o.F<|KM _ _ _ _;show gl<|LV C p q g f ?_ λm u k l _=>jI<|h m _ f (r.trans<|.q e<|aE _) (à q u) k l;intro i j x v y;change cM ρ (pH (bN d) a (a+n)<|(a+n-a) / 2) i<=cM ρ (pH (bN d) a (a+n)<|(a+n-a) / 2) j;rw[Fj e,Fj e,aw %[|(x,à (ï v) y)],aw %[|(à x v,y)]];show t _ _ ω ω ω
def UK(C:qL prog w A s κ a₀ ρ){b n e:Nat}{Q:DescSt->eH->Prop}(hn:b+e<=a₀.size)(M:1<=n)(P:n<=e)(X:gY κ a₀ L)(Y:lZ b o L)(Z:wl ρ (bN L) b (b+n))(h:∀m d a,gY κ a₀ a->lZ b o a->n<=m->m<=e->wl ρ (bN a) b (b+m)->d+1<=m->(∀i,b+m-(d+1)<=i->i<b+m->cM ρ (bN a) i=cM ρ (bN a) (b+m-1))->Q (ahl ac (ahl m d)) a):nM 4#0 A E s (Bg b n e) Q L:=by
 ext Bg;show AK (I:=λx c a=>∃d,c=(ahl ac (ahl x d))/\gY κ a₀ a/\lZ b o a/\wl ρ (bN a) b (b+x)/\d+1<=x/\
   (∀i,b+x-(d+1)<=i->i<b+x->cM ρ (bN a) i=cM ρ (bN a) (b+x-1))) ?step ?fin (0,O,X,Y,Z,ω,λi M S=>by congr 1;lk)
 case fin=>
  rintro c a ⟨d,rfl,f,q,g,N,G⟩;rw[show max n e=e from ω] at g N G ⊢;show h e d a f q P (aE _) g N G
 case step=>
  rintro x c a T a0 ⟨d,rfl,f,q,g,N,G⟩;k_ne;let H:b+x<=(bN a).size:=by rw[f.q];lk
  show gl<|yH C f ω ω ?_;cases p:cM ρ (bN a) (b+x)<cM ρ (bN a) (b+x-1);erw[p,decide_true,fA];let r:∀U:Array eK,(∀k,cM ρ U k=cM ρ (bN a) k)->wl ρ U b (b+(x+1)):=by
   intro U W i j K v hj;rw[W,W];cases y:j<b+x;show g i j K v y;let z:j=b+x:=ω;subst z;cases D:i=b+x;subst D;show pN _;show Un (yE p)<|g i (b+x-1) K ω ω
  cases t:d>0;rw[aw t];show gl<|Be<|jI (0,O,f.F<|KM _ _ _ _,q.trans<|.q H ω,r _<|yL H G,ω,λi M S=>by congr 1;lk);rw[ar t];show jI (0,O,f,q,r _ (λ_=>O),ω,λi M S=>by congr 1;lk);erw[p,decide_false,fh,dX];show gl<|yH C f ω ω ?_;cases l:cM ρ (bN a) (b+x-1)<cM ρ (bN a) (b+x);erw[l,decide_true,fA];show jI<|h x d a f q T ω g N G;erw[l,decide_false,fh,dX];let u:cM ρ (bN a) (b+x)=cM ρ (bN a) (b+x-1):=ω;show jI (d+1,O,f,q,λi j K v hj=>?_,ω,λi M S=>?_);cases y:j<b+x;show g i j K v y;let z:j=b+x:=ω;subst z;cases D:i=b+x;subst D;show pN _;rw[u];show g i (b+x-1) K ω ω;rw[show b+(x+1)-1=b+x from ω];cases V:i=b+x;subst V;rfl;rw[u];show G i ω ω
def LU(C:qL prog w A s κ a₀ ρ){d n a:Nat}(q:d+a<=a₀.size)(r:n+1<=a)(x:gY κ a₀ p)(y:lZ d b p)(z:wl ρ (bN p) d (d+(n+1)))(h:Fk κ a₀ ρ d a b Q):nM 4#0 A E s (yJ d n a) Q p:=by
 ext yJ;show gl<|Tu<|pD (O,?_);show gl<|UK C q ý r x y z λm t e f k D l o I v=>?_;k_ne;let g:d+m<=(bN e).size:=%[f.q|à (ñ l) q]
 cases c:t>0;rw[aw c];show gl<|Be<|LR C q (à c (ì I)) l (f.F<|KM _ _ _ _) (k.trans<|.q g ω) ?_ h;intro i j G u H;change cM ρ (pH (bN e) _ _ _) j<=cM ρ (pH (bN e) _ _ _) i;rw[yL g v,yL g v];show o i j G u H;rw[ar c];show LR C q ω l f k o h
def UL(C:qL prog w A s κ a₀ ρ){a b:Nat}(y:a+b<=a₀.size)(L:1<=b)(g:gY κ a₀ d)(h:Fk κ a₀ ρ a b d Q):nM 4#0 A E s (countRun' a b) Q d:=by
 rw[UN];show gl<|LV C y (aE 1) L g (λi j p q K=>by have:i=j:=(û q (à (ò K) p));subst this;show pN _) λn r t f z=>?_;k_ne;cases l:n=b;rw[aw 5#l];show jI<|h n d g .refl r t f;rw[ar 5#l];let u:cM ρ (bN d) (a+n)<cM ρ (bN d) (a+n-1):=z.resolve_left l;cases v:n>1;rw[aw v];show gl<|yH C g ω ω ?_;cases e:cM ρ (bN d) a<cM ρ (bN d) (a+n-1);erw[e,decide_true,fA];show jI<|h n d g .refl r t f;erw[e,decide_false,fh,dX];let m:a+n<=(bN d).size:=%[g.q|à (ñ t) y]
 let c:∀k,a<=k->k<a+n->cM ρ (bN d) k=cM ρ (bN d) (a+n-1):=by
  intro k p M;let N:=f a k ß p M;let P:=f k (a+n-1) p ω ω;lk
 show gl<|Be<|LU C y (þ t l) (g.F<|KM _ _ _ _) (.q m<|aE _) ?_ h;intro i j p q K;change cM ρ (pH (bN d) _ _ _) j<=cM ρ (pH (bN d) _ _ _) i;rw[yL m c,yL m c];cases D:j<a+n;rw[c i %[|p] %[|à (ï q) D],c j %[|à p q] D];show pN _;let G:j=a+n:=(û (ò K) (ô D));subst G;cases o:i=a+n;subst o;show pN _;rw[c i %[|p] %[|þ q o]];show yE u;rw[ar v];let x:n=1:=(û (ô v) r);subst x;show LU C y (þ t l) g .refl ?_ h;intro i j p q K;cases o:i=j;subst o;show pN _;let H:i=a:=ω;let I:j=a+1:=(û (ò K) (à (ð p) (þ q o)));subst H;subst I;show yE u
def UM(C:qL prog w A s κ a₀ ρ){b n v:Nat}{Q:Bool->eH->Prop}(hn:b+n<=a₀.size)(M:v<=n)(N:gY κ a₀ u)(P:Srt ρ (bN u) b (b+v))(h:∀a,gY κ a₀ a->lZ b u a->Srt ρ (bN a) b (b+n)->Q ap a):nM 4#0 A E s (binarySort' b n v) Q u:=by
 rw[binarySort'_eq];show gl (KG (AK (I:=λk c a=>c=(ahl ac (()))/\gY κ a₀ a/\lZ b u a/\Srt ρ (bN a) b (b+dy k n))
  (Q:=λc a=>c=(ahl ac (()))/\gY κ a₀ a/\lZ b u a/\Srt ρ (bN a) b (b+n)) ?step ?fin ?init) ?post)
 case post=>
  rintro c a ⟨rfl,g,p,f⟩;show jI<|h a g p f
 case init=>
  show(O,N,.refl,λi j K y S=>?_);cases z:v=0;have:i=j:=ω;subst this;show pN _;show P i j K y ω
 case fin=>
  rintro c a ⟨T,g,p,f⟩;show(T,g,p,?_);rwa [show dy (max (max v 1) n) n=n from ω] at f
 case step=>
  rintro k c a U V ⟨rfl,g,p,f⟩;rw[show dy k n=k from ω] at f;let L:b+k<a₀.size:=(à (ñ V) hn);show gl (KG (AK (I:=λx c d=>d=a/\∃l r,c=(ahl ac (ahl l r))/\l<=r/\r<=k/\r-l<=k-x/\
    (∀i,i<l->cM ρ (bN a) (b+i)<=cM ρ (bN a) (b+k))/\(∀i,r<=i->i<k->cM ρ (bN a) (b+k)<cM ρ (bN a) (b+i)))
   (Q:=λc d=>d=a/\∃l r,c=(ahl ac (ahl l r))/\l<=k/\
    (∀i,i<l->cM ρ (bN a) (b+i)<=cM ρ (bN a) (b+k))/\(∀i,l<=i->i<k->cM ρ (bN a) (b+k)<cM ρ (bN a) (b+i))) ?istep ?ifin ?iinit) ?ipost)
  case iinit=>show(O,0,k,O,ú,ß,ß,λi hi=>ω,λi z G=>ω)
  case ifin=>
   rintro c d ⟨rfl,l,r,rfl,H,q,W,m,o⟩;have:l=r:=ω;subst this;show(O,l,l,O,q,m,o)
  case istep=>
   rintro x c d _ X ⟨rfl,l,r,rfl,H,q,W,m,o⟩;k_ne;cases D:l ≥ r;rw[aw D];have:l=r:=(û H D);subst this;show jI (O,l,l,O,q,m,o);rw[ar D];show gl<|yH C g L ω ?_;cases e:cM ρ (bN d) (b+k)<cM ρ (bN d) (b+(l+r) / 2);erw[e,decide_true,fA];show jI (O,l,(l+r) / 2,O,ω,ω,Nat.le_sub_one_of_lt (fm (Nat.sub_lt_sub_right ω ω) W),m,λi z G=>?_);show Int.lt_of_lt_of_le e<|f _ _ ü (ñ z) (ñ G);erw[e,decide_false,fh,dX];show jI (O,(l+r) / 2+1,r,O,ω,q,Nat.le_sub_one_of_lt (fm (Nat.sub_lt_sub_left ω ω) W),λi z=>?_,o);show Un (f (b+i) (b+(l+r) / 2) ü (ñ (ò z)) ω)<|Int.not_lt.mp e
  case ipost=>
   rintro c d ⟨rfl,l,r,rfl,Y,m,o⟩;change nM _ _ _ _ (do moveDown' (b+k) (b+l);cq (ut (ahl ac (())))) _ _;rw[moveDown'_eq];let t:b+k<(bN d).size:=%[g.q|L]
   show gl<|KH<|jI (O,g.F<|bubble_perm _ _ _,p.trans<|.F t ω ω,?_);rw[show dy (k+1) n=k+1 from ω];intro i j K y S;change cM ρ (ET (bN d) (b+k)<|b+k-(b+l)) i<=cM ρ (ET (bN d) (b+k)<|b+k-(b+l)) j;rw[LX t ω,LX t ω,show b+k-(b+k-(b+l))=b+l from ω];let Z:∀i,b<=i->i<b+l->cM ρ (bN d) i<=cM ρ (bN d) (b+k):=λi z G=>by
    have:=m (i-b) ω;rwa [show b+(i-b)=i from ω] at this
   let q2:∀i,b+l<=i->i<b+k->cM ρ (bN d) (b+k)<cM ρ (bN d) i:=λi z G=>by
    have:=o (i-b) ω ω;rwa [show b+(i-b)=i from ω] at this
   repeat' split
   all_goals first
    |(exfalso;lk)
    |show pN _
    |show Z _ ω ω
    |show yE<|q2 _ ω ω
    |show f _ _ ω ω ω
end
section
variable{prog:bh}{w:ba}{A:cC}{E:Ω}{s:ax}{κ:qC}{a₀:Array eK}{ρ:eK->Int}
def UI(C:qL prog w A s κ a₀ ρ){Q:Unit->eH->Prop}(K:gY κ a₀ u)(N:mx u=#[])(Z:1<=a₀.size)(v:a₀.size<64)(h:∀a,gY κ a₀ a->Srt ρ (bN a) 0 a₀.size->Q () a):nM 4#0 A E s KJ Q u:=by
 rw[sortRuns'_eq];show gl<|AJ ?_;k_ne;let y:minRun' a₀.size a₀.size 0=a₀.size:=by
  obtain⟨f,P⟩:∃f,a₀.size=f+1:=(a₀.size-1,ω);have:minRun' (f+1) a₀.size 0=a₀.size:=by rw[minRun'_succ,aw v];rfl
  rwa [<-P] at this
 erw[K.q,y];show gl (KG (AK
  (I:=λx c a=>(x=0/\c=(ahl ac 0)/\gY κ a₀ a/\mx a=#[])\/(1<=x/\c=(ahl ac a₀.size)/\gY κ a₀ a/\(mx a).size<=1/\Srt ρ (bN a) 0 a₀.size))
  (Q:=λc a=>c=(ahl ac a₀.size)/\gY κ a₀ a/\(mx a).size<=1/\Srt ρ (bN a) 0 a₀.size) ?step ?fin<|.inl (O,O,K,N)) ?post)
 case fin=>
  rintro c a (⟨R,_,_⟩|⟨_,S,z⟩);lk;show(S,z)
 case step=>
  rintro x c a _ R (⟨rfl,rfl,g,k⟩|⟨T,rfl,z⟩);k_ne;rw[ar %[|ø R]];erw[EU,yu];show gl<|UL C ω R g λm i l L m1 U j=>?_;k_ne;let M:∀d,gY κ a₀ d->mx d=#[]->Srt ρ (bN d) 0 a₀.size->gY κ a₀ (Tw d<|(mx d).push (ahl 0 (ahl a₀.size 0)))/\(mx<|Tw d<|(mx d).push (ahl 0 (ahl a₀.size 0))).size<=1/\Srt ρ (bN<|Tw d<|(mx d).push (ahl 0 (ahl a₀.size 0))) 0 a₀.size:=
   λd b p q=>((b.a,b.c,b.b),by change((mx d).push _).size<=1;rw[p];show aE 1,q)
  cases n:m<a₀.size;rw[aw n];show gl<|Tu<|pD (O,?_);show gl<|UM C ω U l j λd D V o=>?_;erw[wg,fh,dX];show gl<|AJ ?_;let r:mx d=#[]:=%[V.a,L.a|k]
  let G:(mx d).back?=ac:=by rw[r];rfl
  rw[G];k_ne;erw[vV] at o ⊢;show gl<|KH<|jI<|.inr (ß,O,M d D r o);rw[ar n];let W:m=a₀.size:=(û U (ô n));subst W;show gl<|AJ ?_;let t:mx i=#[]:=%[L.a|k]
  let G:(mx i).back?=ac:=by rw[t];rfl
  rw[G];k_ne;erw[vV] at j ⊢;show gl<|KH<|jI<|.inr (ß,O,M i l t j);k_ne;rw[aw<|aE _];show jI (O,z)
 case post=>
  rintro c a ⟨rfl,g,H,X⟩;k_ne;show gl<|KG (AK (I:=λ_ c e=>e=a/\c=(ahl ac (()))) (Q:=λc e=>e=a/\c=(ahl ac (()))) ?_ (λ_ _ Y=>Y) (O,O)) ?_;rintro x c e _ _ ⟨rfl,rfl⟩;show gl<|AJ ?_;rw[aw H];show jI (O,O);rintro c e ⟨rfl,rfl⟩;show jI<|h _ g X
end
def Ga:∀a:Ζ,dj a a=aH
 |[]=>O
 |x::a=>%[pC,aw O|Ga a]
def F_:∀{a b c:Ζ},dj a b=ap->dj b c=ap->dj a c=ap
 |[],[],_,h,_=>by cases h
 |[],_::_,[],_,h=>by cases h
 |[],_::_,_::_,_,_=>O
 |_::_,[],_,h,_=>by cases h
 |_::_,_::_,[],_,h=>by cases h
 |x::a,y::b,z::c,e,d=>by
  rw[pC] at e d ⊢;cases g:x=y;rw[aw g] at e;cases f:y=z;rw[aw f] at d;rw[aw<|g.trans f];show F_ e d;rw[ar f] at d;rw[ar ω];have:=gP d;show cN ω;rw[ar g] at e;let i:=gP e;cases f:y=z;rw[ar ω];show cN ω;rw[ar f] at d;let j:=gP d;rw[ar ω];show cN ω
def Nb:∀{a b:Ζ},dj a b=aH->dj b a=aH->a=b
 |[],[],_,_=>O
 |[],_::_,h,_=>by cases h
 |_::_,[],_,h=>by cases h
 |x::a,y::b,c,d=>by
  rw[pC] at c d;cases e:x=y;subst e;rw[aw O] at c d;rw[Nb c d];rw[ar e] at c;rw[ar<|cQ e] at d;have:=oT c;have:=oT d;lk
def BC(a:Ξ)(l:Ζ):Int:=((a.filter λm=>dj m l).length:Nat)
def M_{ls:Ξ}{l m:Ζ}(n:l∈ls)(p:m∈ls):aJ (BC ls l<BC ls m)=dj l m:=by
 let f:∀{a b:Ζ},(∀x,dj x a=ap->dj x b=ap)->∀k:Ξ,(k.filter λx=>dj x a).length<=(k.filter λx=>dj x b).length:=by
  intro a b c k;induction k with
  |nil=>show aE _
  |cons x k i=>
   rw[AX,AX];cases q:dj x a=ap;rw[aw q,aw<|c x q,dI,dI];show ð i;rw[ar q];split;rw[dI];show í i;show i
 let d:∀{a b:Ζ},(∀x,dj x a=ap->dj x b=ap)->dj a b=ap->∀k:Ξ,a∈k->(k.filter λx=>dj x a).length<(k.filter λx=>dj x b).length:=by
  intro a b c h k;induction k with
  |nil=>intro q;cases q
  |cons x k i=>
   intro o;rw[AX,AX];obtain e|e:=ci.mp o;subst e;rw[ar %[Ga|fQ],aw h,dI];have:=f c k;show ï this
   have:=i e
   cases q:dj x a=ap;rw[aw q,aw<|c x q,dI,dI];show ï this;rw[ar q];split;rw[dI];show í this;show this
 ext BC;cases q:dj l m with
 |true=>
  have:=d (a:=l) (b:=m) (λx g=>F_ g q) q ls n;show cN ω
 |false=>
  have:=f (a:=m) (b:=l) (λx g=>by
   cases z:dj x l with
   |true=>rfl
   |false=>
    cases j:dj l x with
    |true=>rw[F_ j g] at q;cases q
    |false=>rw[Nb z j] at g;rw[g] at q;cases q) ls
  show dD ω
structure uB(prog:bh)(w:ba)(A:cC)(good:aX->Prop)(us:List ae)(ls:Ξ):Prop where
 a:us.length=ls.length
 b:∀(i j:Nat) u l m,us[i]?=aa u->us[j]?=aa u->ls[i]?=aa l->ls[j]?=aa m->l=m
 c:2<=us.length->∃κ:qC,(∀(s:ax)(Q:qC->ax->Prop)(E:Ω),good s.heap->Q κ s->aF 4#0 A (keyKind' us.toArray) Q E s)/\
  ∀(i j:Nat) u v l m,us[i]?=aa u->us[j]?=aa v->ls[i]?=aa l->ls[j]?=aa m->∀(s:ax)(Q:Bool->ax->Prop)(E:Ω),good s.heap->Q (dj l m) s->aF 4#0 A (KN κ u v) Q E s
open Classical in
noncomputable def lof(us:List ae)(ls:Ξ)(u:ae):Ζ:=if h:∃l,∃i:Nat,us[i]?=aa u/\ls[i]?=aa l then h.choose else []
def yZ{a:List ae}{b:Ξ}(e:∀(i j:Nat) u l m,a[i]?=aa u->a[j]?=aa u->b[i]?=aa l->b[j]?=aa m->l=m){i:Nat}(c:a[i]?=aa u)(d:b[i]?=aa l):lof a b u=l:=by
 ext lof;let h:∃l,∃i:Nat,a[i]?=aa u/\b[i]?=aa l:=(l,i,c,d);rw[dif_pos h];let(j,f,g):=h.choose_spec;show e j i u _ l f c g d
noncomputable def wE(b:List ae)(a:Ξ)(p:eK):Int:=BC a<|lof b a p.1
section
variable{prog:bh}{w:ba}{A:cC}{E:Ω}{s:ax}{good:aX->Prop}{us vs:List ae}{ls:Ξ}
def BB(h:us.length=vs.length){p:eK}(b:p∈(us.toArray.zip vs.toArray).toList):∃i:Nat,us[i]?=aa p.1/\vs[i]?=aa p.2:=by
 let e:(us.toArray.zip vs.toArray).toList=us.zip vs:=by simp
 rw[e] at b;let(i,c,a):=rV.mp b;rw[List.getElem_zip] at a;rw[ul] at c;show(i,?_,?_);rw[bu ω,<-a];rw[bu ω,<-a]
def VJ(B:uB prog w A good us ls)(k:us.length=vs.length)(r:good s.heap)(K:2<=us.length)(t:us.length<64)(z:∀(i j:Nat) u v l m,us[i]?=aa u->us[j]?=aa v->ls[i]?=aa l->ls[j]?=aa m->∀(s:ax)(Q:Bool->ax->Prop)(E:Ω),good s.heap->Q (dj l m) s->aF 4#0 A (KN c u v) Q E s){Q:Unit->eH->Prop}(h:∀a,(bN a).Perm (us.toArray.zip vs.toArray)->ES a=ac->Srt (wE us ls) (bN a) 0 vs.length->Q () a):nM 4#0 A E s KJ Q (KP c (us.toArray.zip vs.toArray) #[] 7 ac):=by
 let d:(us.toArray.zip vs.toArray).size=vs.length:=by simp;lk
 show UI (κ:=c) (a₀:=us.toArray.zip vs.toArray) (ρ:=wE us ls) ⟨λx y C D G H e=>?_⟩ (Array.Perm.refl _,O,O) O %[d|à (ã K) (å k)] %[d|à (ï (æ k)) t] λa b I=>h a b.a b.b (by rw[<-d];show I);let(i,f,ϟ):=BB k C;let(j,g,ϟ):=BB k D;let n:i<ls.length:=by rw[<-B.a];show(dN.mp f).1
 let o:j<ls.length:=by rw[<-B.a];show(dN.mp g).1
 let p:ls[i]?=aa ls[i]:=bu n;let q:ls[j]?=aa ls[j]:=bu o;show z i j _ _ _ _ f g p q s G H r ?_;unfold wE at e;rw[yZ B.b f p,yZ B.b g q,M_ (dW n)<|dW o] at e;show e
def qT{a b:Type}:∀(l:List a)(m:List b)(i:Nat),(l.zip m)[i]?=(l[i]?).bind λx=>(m[i]?).map λy=>(ahl x y)
 |[],m,i=>by simp
 |x::l,[],i=>by rcases h:(x::l)[i]?<;>simp
 |x::l,y::m,0=>O
 |x::l,y::m,i+1=>by
  rw[TQ,Uc,Uc,Uc];show qT l m i
def VM(B:uB prog w A good us ls)(s:us.length=vs.length){c:Array eK}(z:c.Perm (us.toArray.zip vs.toArray))(C:Srt (wE us ls) c 0 vs.length):∃l:List (Ζ×ae),l.Perm (ls.zip vs)/\c.toList.map (·.2)=l.map (·.2)/\l.Pairwise λ(a b:Ζ×ae)=>dj b.1 a.1=aH:=by
 let g:c.toList.Perm (us.zip vs):=by
  have:=al0.mp z
  simpa using this
 show(c.toList.map λK=>(ahl (lof us ls K.1) K.2),?_,by rw[dC];rfl,?_);let e:(us.zip vs).map (λK:eK=>(ahl (lof us ls K.1) K.2))=ls.zip vs:=by
  apply ak7;intro i;rw[ca,qT,qT];cases m:us[i]? with
  |none=>
   have:ls[i]?=ac:=oP (by rw[<-B.a];show Lq.mp m);rw[this];rfl
  |some u=>
   let h:i<ls.length:=by rw[<-B.a];show(dN.mp m).1
   let k:ls[i]?=aa ls[i]:=bu h;rw[k];cases I:vs[i]? with
   |none=>rfl
   |some v=>
    change aa (ahl (lof us ls u) v)=aa (ahl (ls[i]) v);rw[yZ B.b m k]
 rw[<-e];show g.map _;rw[kC,ui];intro i j h t n;let D:c.size=vs.length:=by
  have:=g.length_eq;rw[nS,ul] at this;lk
 rw[nS] at h t;let q:=C i j (cJ _) (oK n) (à t (å D));let E:c[i]?=aa c[i]:=oU c i h;let G:c[j]?=aa c[j]:=oU c j t;rw[Bh E,Bh G] at q;erw[Array.getElem_toList];let(o,x,ϟ):=BB s (p:=c[i]) (by
  have:=g.mem_iff.mp (show c[i]∈c.toList by simp)
  simpa using this)
 let(r,y,ϟ):=BB s (p:=c[j]) (by
  have:=g.mem_iff.mp (show c[j]∈c.toList by simp)
  simpa using this)
 let d:o<ls.length:=by rw[<-B.a];show(dN.mp x).1
 let f:r<ls.length:=by rw[<-B.a];show(dN.mp y).1
 let k:ls[o]?=aa ls[o]:=bu d;let H:ls[r]?=aa ls[r]:=bu f;unfold wE at q;rw[yZ B.b x k,yZ B.b y H] at q ⊢;have:=M_ (ls:=ls) (dW f)<|dW d;rw[<-this];show dD ω
end
section
variable{prog:bh}{w:ba}{A:cC}{E:Ω}{s:ax}{good:aX->Prop}{us vs:List ae}{ls:Ξ}
def Nc(f:ia us d):uB prog w A (λ_=>True) us (d.map λn=>[n]):=by
 let g:=f.length;let b:∀(i:Nat) u l,us[i]?=aa u->(d.map λn=>[n])[i]?=aa l->∃n t,u=.int n t/\l=[n]:=λi u l h a=>by
  let(t,e):=IntsAre.int_at f i u h;rw[ca] at a;cases c:d[i]? with
  |none=>rw[c] at a;cases a
  |some n=>
   rw[c] at a;let z:d.getD i 0=n:=by rw[co,c];rfl
   rw[z] at e;show(n,t,e,(cX a).symm)
 show(#v[aA,g],λi j u l m h a p q=>?_,λa=>(oneType',λs Q E _ k=>?_,λi j u v l m h a p q s Q E _ k=>?_));let(n,t,B,rfl):=b i u l h p;let(o,C,c,rfl):=b j u m a q;rw[B] at c;cases c;rfl;match us,f,a with
 |[],_,a=>simp at a
 |[_],_,a=>simp at a
 |r::x::y,f,_=>
  rw[keyKind_ints f];show aO k
 let(n,t,rfl,rfl):=b i u l h p;let(o,C,rfl,rfl):=b j v m a q;show kat_lt_int ?_;have:dj [n] [o]=aJ (n<o):=by
  rw[pC];cases e:n=o;rw[aw e,RP];show(dD ω).symm;rw[ar e]
 rw[this] at k;show k
def sK(h:aX)(u:ae)(l:Ζ):Prop:=∃(a b:ab)(n:Int)(t:je)(c:List ae)(d:Ζ),u=.ref a/\l=n::d/\lW h a #[.int n t,.ref b]/\lW h b c.toArray/\ia c d
def Nd(i:lW h a b)(j:lW h a c):b=c:=by
 let(o,e,ϟ,n,d):=i;let(k,f,ϟ,l,g):=j;rw[e] at f;cases f;rw[d] at g;injection g
def VO{vs:List ae}(h:ia vs b)(g:ia vs a):b=a:=by
 induction h generalizing a with
 |nil=>cases g;rfl
 |cons n t h c=>cases g with|cons _ _ d=>rw[c d]
def sK.q{l m:Ζ}(j:sK h u l)(k:sK h u m):l=m:=by
 let(a,b,n,t,d,w,rfl,rfl,o,p,q):=j;let(x,y,z,A,c,r,e,rfl,f,g,i):=k;cases e;have:=Nd o f;cases this;let s:=Nd p g;let v:d=c:=by simpa using s
 subst v;rw[VO q i]
def VK{l m:Ζ}{Q:Bool->ax->Prop}(V:sK s.heap x l)(W:sK s.heap y m)(L:A.units<eJ)(p:Q (dj l m) s):aF 4#0 A (KN (tuples' ap) x y) Q E s:=by
 let(a,b,n,t,X,M,rfl,rfl,Y,N,P):=V;let(a',R,g,B,S,r,rfl,rfl,G,u,v):=W;let(o,e,T,k,d):=id Y;let(o',Z,a0,k',d'):=id G;show kat_lt e d Z d' ?_;change KatLex prog w A ap (aJ<|2<2) Q [(ahl (.int n t) (.int g B)),(ahl 6#b 6#R)] 0 s;rw[pC] at p;show kat_cons<|lN (SR n t g B prog w (λ_ _=>False) _ (O,O):aF 4#0 A (eqBool (.int n t)<|.int g B) (λe s'=>e=(n==g)/\s'=s) (λ_ _=>False) s) (λe1 C he=>?_) λ_ _ z=>z;let(rfl,rfl):=he;cases D:n=g;let H:(n==g)=ap:=by simpa using D
 rw[H];rw[aw D] at p;show kat_yes<|kat_cons ?_;let i:∀{c:ab}{j:List ae}{q:Ζ},lW C.heap c j.toArray->ia j q->gE (gh prog w) C.heap (q.map bF) c:=λ{c j q} T I=>by
  let(o,e,K,k,d):=T;show(o,j.toArray,k,e,K,d,?_);have:∀{j:List ae}{q:Ζ},ia j q->EI (gh prog w) (q.map bF) j:=by
   intro j q I;induction I with
   |nil=>show .nil
   |cons n t h ih=>show .cons (GF prog w n t) ih
  simpa using this I
 show JU (knd:=gh prog w) L (i N P) (i u v) ?_;cases U:M=r;subst U;rw[cN O];rw[Ga] at p;show kat_yes<|kat_nil p;have:¬(M.map bF:List bi)=r.map bF:=λz=>U<|Lj (f:=(bF:Int->bi)) (λx y h=>RY h)|>.mp z;rw[dD this];show kat_no ?_;change aF 4#0 A (oneLt' aH 6#b<|.ref R) Q (λ_ _=>False) C;show kat_one _ _<|agt N u 5#P 5#v L p;let H:(n==g)=aH:=by simpa using D
 rw[H];rw[ar D] at p;show kat_no ?_;change aF 4#0 A (oneLt' ap (.int n t)<|.int g B) Q (λ_ _=>False) C;show oneLt_int p
def M':∀{us:List ae}{ls:Ξ},us.length=ls.length->(∀(i:Nat) u l,us[i]?=aa u->ls[i]?=aa l->sK h u l)->∃c,KatTups h us c/\c.length=us.length/\∀f∈c,∃n t,f=br n t
 |[],[],_,_=>([],.nil,O,λf g=>nomatch g)
 |u::us,l::ls,m,j=>by
  let(c,p,q,r):=M' (us:=us) (ls:=ls) 5#m λi u l s v=>j (i+1) u l 5#s 5#v;let(a,b,n,t,w,z,rfl,rfl,x,A,B):=j 0 u l O O;let(o,e,y,k,d):=id x;show(.int n t::c,.cons e y d O p,by simp[q],λf g=>?_);obtain rfl|g:=ci.mp g;show(n,t,O);show r f g
 |[],_::_,h,_=>by simp at h
 |_::_,[],h,_=>by simp at h
def VN(o:us.length=ls.length)(q:A.units<eJ)(r:∃h,good h)(a:∀h,good h->∀(i:Nat) u l,us[i]?=aa u->ls[i]?=aa l->sK h u l):uB prog w A good us ls:=by
 show(o,λi j u l m d b e g=>?_,λb=>(tuples' ap,λs Q E c k=>?_,λi j u v l m d b e g s Q E c k=>?_));let(h,p):=r;show(a h p i u l d e).q<|a h p j u m b g;let(B,x,C,y):=M' o<|a _ c;show kat_kind (T:=.type "int") x (à (ã b) (æ C)) (λf z=>?_) ξ k;let(n,t,rfl):=y f z;show Looks.of_pure O;show VK (a _ c i u l d e) (a _ c j v m b g) q k
end
def sJ(e:Ξ)(f c:List ae):Prop:=∃d:List (Ζ×ae),d.Perm (e.zip f)/\c=d.map (·.2)/\d.Pairwise λ(a b:Ζ×ae)=>dj b.1 a.1=aH
section
variable{prog:bh}{w:ba}{A:cC}{E:Ω}{s:ax}{good:aX->Prop}{us vs:List ae}{ls:Ξ}
def VL(b:ls.length=vs.length)(c:us.length=vs.length)(d:vs.length<2):sJ ls vs ((us.toArray.zip vs.toArray).map (·.2)).toList:=by
 let e:((us.toArray.zip vs.toArray).map (·.2)).toList=vs:=by
  rw[aly,show(us.toArray.zip vs.toArray).toList=us.zip vs by simp,TW %[|æ c]]
 rw[e];show(ls.zip vs,Uj _,#v[TW %[|æ b]],?_);let a:(ls.zip vs).length<2:=by rw[ul];lk
 match ls.zip vs,a with
 |[],_=>show wd
 |[x],_=>simp
 |_::_::_,h=>erw[dI] at h;lk
def MZ(B:uB prog w A good us ls)(f:us.length=vs.length)(m:vs.length<64)(k:good s.heap){G:Unit×eH->kS AF}(h:∀a,sJ ls vs ((bN a).map (·.2)).toList->(bN a).size=vs.length->ES a=ac->aF 4#0 A (G (ahl PUnit.unit a)) P E s):aF 4#0 A (if vs.toArray.size<2 then(cq general' >>= λb=>(if vs.toArray.size<2 then cq () else KJ).run (KP b (us.toArray.zip vs.toArray) #[] 7 ac) >>= G)
   else(keyKind' us.toArray >>= λb=>(if vs.toArray.size<2 then cq () else KJ).run (KP b (us.toArray.zip vs.toArray) #[] 7 ac) >>= G)) P E s:=by
 let d:(us.toArray.zip vs.toArray).size=vs.length:=by rw[Array.size_zip,dk,dk];lk
 cases c:vs.toArray.size<2
 rw[aw c]
 calc aO ?_;rw[aw c];rw[StateT.run_pure];calc aO ?_;
 try k_ne
 rw[dk] at c;show h (KP general' (us.toArray.zip vs.toArray) #[] 7 ac) (VL (by rw[<-B.a];show f) f c) d O
 rw[ar c,ar c]
 rw[dk] at c;let(t,n,o):=B.c (à (ô c) (æ f));calc n s _ E k ?_;calc lN (VJ (Q:=λ_ a=>(bN a).Perm (us.toArray.zip vs.toArray)/\ES a=ac/\Srt (wE us ls) (bN a) 0 vs.length) B f k (à (ô c) (æ f)) (à (ï (å f)) m) o λa g i j=>(g,i,j)) ?_ λ_ _ e=>e;rintro⟨⟨⟩,a⟩ u ⟨rfl,l,p,q⟩
 try k_ne
 show h a (by
  let(r,g,i,j):=VM B f l q;show(r,g,%[aly|i],j)) %[l.size_eq|d] p
def Na{n:Nat}{P:AF->ax->Prop}(c:s.heap.get? a=aa (df "list" vs.toArray n))(B:uB prog w A good vs ls)(q:∀m,(∀b o,b≠a->s.heap.get? b=aa o->m.get? b=aa o)->good m)(i:vs.length<=bE)(j:vs.length<64)(h:∀d:Array ae,sJ ls vs d.toList->P (.done<|.ret .none) {s with heap:=sortedHeap s.heap a vs d}):aF 4#0 A (Builtin.«list.sort» ([.ref a],[])) P E s:=by
 rw[list_sort_plain];let p:a<s⁻¹:=cG c;calc Tz c O ?_;calc AL c O ?_ %[dk|i]<|cJ _;obtain⟨k,f⟩:∃k,(s.heap.update a<|cY λ_=>#[]).get? a=aa (df "list" #[] k):=(_,ER c (λ_=>#[]));calc KL f O ?_;calc Aq ?_ (by change vs.length<=_;show i);calc Ej ?_<|cJ _;show ik ?_;let g:(((s.heap.update a<|cY λ_=>#[]).push<|df "tuple" vs.toArray 0).push<|df "list" #[] 0).get? a=aa (df "list" #[] k):=by
  rw[AD _ _ _ %[EN,yk|cP<|qF p],AD _ _ _ %[yk|cP p]];show f
 change aF 4#0 A _ P E {s with heap:=((s.heap.update a<|cY λ_=>#[]).push<|df "tuple" vs.toArray 0).push<|df "list" #[] 0};k_ne;show MZ (s:={s with heap:=((s.heap.update a<|cY λ_=>#[]).push<|df "tuple" vs.toArray 0).push<|df "list" #[] 0}) B O j (q _ λb o r e=>bQ _<|bQ _ %[Kr _ _ _ _ r|e]) λt c l u=>?_;k_ne;calc KL g O ?_;calc AL g O ?_ (cJ _)<|aL (pI<|(oR ..).trans l)<|EW i;rw[u];erw[bne_self_eq_false,fh,dX];show aO<|h _ c
def VI{Q:Ω}(k:s.heap.IsList l vs.toArray)(B:uB prog w A.in1.in1 good vs ls)(n:∀g,(∀b o,s.heap.get? b=aa o->g.get? b=aa o)->good g)(i:vs.length<=bE)(j:vs.length<64)(h:∀a:Array ae,sJ ls vs a.toList->Q (.ref<|s⁻¹+1) {s with heap:=sortedAll s.heap vs a}):aF 4#0 A (kz (.builtin "sorted") [.ref l]) Q E s:=by
 show ajd TB Tx TC (args_sorted1 _) ?_;unfold Builtin.«sorted»;show ao (m:=Sx "sorted" 1 1 _)<|aO ?_;calc collect_list k ?_ i;calc Ej ?_ i;let c:((s.heap.push<|df "list" #[] 0).update s⁻¹ (cY (·++vs.toArray))).objs.size=s⁻¹+1:=by
  rw[yk,EN]
 let e:(((s.heap.push<|df "list" #[] 0).update s⁻¹ (cY (·++vs.toArray))).push<|df "list" vs.toArray 0).get? (s⁻¹+1)=aa (df "list" vs.toArray 0):=by
  rw[<-c];show eB _ O
 let f:∀b o,s.heap.get? b=aa o->(((s.heap.push<|df "list" #[] 0).update s⁻¹ (cY (·++vs.toArray))).push<|df "list" vs.toArray 0).get? b=aa o:=λb o q=>by
  let d:b<s⁻¹:=cG q;rw[AD _ _ _ %[c|cP<|qF d],Kr _ _ _ _<|cP d,AD _ _ _<|cP d];show q
 change aF _ _ _ _ _ {s with heap:=((s.heap.push<|df "list" #[] 0).update s⁻¹ (cY (·++vs.toArray))).push<|df "list" vs.toArray 0};rw[c];show ao (ik (mY Tv (_,e,O) TD (Na (s:={s with heap:=((s.heap.push<|df "list" #[] 0).update s⁻¹ (cY (·++vs.toArray))).push<|df "list" vs.toArray 0}) e B (λg p=>n g λb o q=>p b o (cP<|qF<|cG q)<|f b o q) i j λa r=>(_,O,?_))<|args_list_sort _));show aO (_,O,h a r)
def VH{f:Array ae}{P:AF->ax->Prop}(u:s.heap.get? d=aa (df "list" f e))(y:s.heap.get? a=aa (df "list" #[] e1))(j:d≠a)(m:f.size<=bE)(z:sJ ls vs ((bN g).map (·.2)).toList)(n:(bN g).size=vs.length)(B:vs.length<=bE)(p:ES g=ac)(h:∀k l c,(∀b o,b≠d->b≠a->s.heap.get? b=aa o->k.get? b=aa o)->k.get? a=aa (df "list" l c)->(∃o,k.get? d=aa o)->sJ ls vs l.toList->k.objs.size=s⁻¹->P (.done<|.ret .none) {s with heap:=k}):aF 4#0 A (ksk_tail a aH e1 6#d g) P E s:=by
 let v:=mv s.heap d<|cY λ_=>(#[]:Array ae);let i:(s.heap.update d<|cY λ_=>(#[]:Array ae)).get? a=aa (df "list" #[] e1):=(v.2 a j.symm).trans y;let x:=mv (s.heap.update d<|cY λ_=>(#[]:Array ae)) a (cY λ_=>(bN g).map (·.2));obtain⟨r,t⟩:∃r,((s.heap.update d<|cY λ_=>(#[]:Array ae)).update a (cY λ_=>(bN g).map (·.2))).get? a=aa (df "list" ((bN g).map (·.2)) r):=
  (_,ER i λ_=>(bN g).map (·.2))
 ext ksk_tail;try k_ne
 erw[fh,dX];calc AL u O ?_ m<|cJ _;calc oC ?_;calc KL i O ?_;calc AL i O ?_ (cJ _)<|aL (pI<|(oR ..).trans n)<|EW B;rw[p];erw[bne_self_eq_false,fh,dX];show aO<|h _ _ r (λb o C D q=>(x.2 b D).trans<|(v.2 b C).trans q) t (_,(x.2 d j).trans<|ER u λ_=>#[]) z #v[yk,yk]
end
section
variable{X:bj}{pins:Ψ}{σ:aY}{H:ag}{s:ax}
def Yx{A:cC}(h:A.units+64<eJ):A.in1.in1.units<eJ:=by change A.units+1+1<eJ;lk
def Yy{A:cC}(h:A.units+64<eJ):A.in1.units<eJ:=by change A.units+1<eJ;lk
def Zh:lE X (.builtin "sorted") (λA H Q=>∃(l:ab)(b:Ζ),A=[.ref l]/\bJ X.K H l (b.map ak.int)/\b.length<64/\∀(D:ab)(v:Ζ),v.Perm b->v.Pairwise (·<=·)->H D=ac->Q 6#D (aN H D<|.lst<|v.map ak.int)):=by
 intro pins s σ H A W Q I r h;let(l,b,rfl,w,L,q):=h;let(u,rfl,M):=kH r;cases M;let(d,B,N,C):=I.list w;let E:ia d b:=wX B;let j:=B.length;rw[aA] at j C;show VI (ls:=b.map λn=>[n]) (good:=λ_=>True) N.isList (Nc E) (λ_ _=>trivial) (à (æ j) C) (à (ï (æ j)) L) λk x=>?_;let(a,G,x,P):=x;let f:∀p∈a,∃n t,p.1=[n]/\p.2=br n t:=λp y=>by
  let(i,e):=qI.mp<|G.mem_iff.mp y;rw[qT,ca] at e;cases c:b[i]? with
  |none=>rw[c] at e;simp at e
  |some n=>
   let(t,g):=E.get i n c;rw[c,g] at e;erw[vU,aj8,ud] at e;subst e;show(n,t,O,O)
 let R:∀a:List (Ζ×ae),(∀p∈a,∃n t,p.1=[n]/\p.2=br n t)->cv ((a.map λp=>p.1.headD 0).map ak.int) (a.map (·.2)):=by
  intro a;induction a with
  |nil=>intro _;show .nil
  |cons p a S=>
   intro h;let(n,t,c,g):=h p fy;show .cons ?_<|S λq w=>h q<|gF _ w;change cF (ak.int<|p.1.headD 0) p.2;rw[c,g];show(t,O)
 let K:(a.map λp=>p.1.headD 0).Perm b:=by
  let o:=G.map (λp:Ζ×ae=>p.1.headD 0);let e:((b.map λn=>[n]).zip d).map (λp:Ζ×ae=>p.1.headD 0)=b:=by
   rw[show(λp:Ζ×ae=>p.1.headD 0)=(λl:Ζ=>l.headD 0) ∘ rR from O,<-dC,EZ %[aA|å j],dC];show TY b
  rw[e] at o;show o
 let T:(a.map λp=>p.1.headD 0).Pairwise (·<=·):=by
  rw[kC];show P.imp_of_mem λ{p q} o U z=>?_;let(n,t,c,ϟ):=f p o;let(m,t',g,ϟ):=f q U;rw[c,g,pC] at z;rw[c,g];change n<=m;cases e:m=n;lk;rw[ar e] at z
  have:=oT z;lk
 let(e,V):=sortedAll_at s.heap d k;show(.ref<|s⁻¹+1,_,I.J (t':=s.toks) (λ_ _=>sortedAll_old) (EX _)<|show eW X.prog X.w _ _ _ (.lst<|(a.map λp=>p.1.headD 0).map ak.int) from(?_,k.toList,e,?_,?_),O,q _ _ K T<|I.a.q<|EX _);rw[aA,K.length_eq];show C;rw[x];show R a f;simpa using V
def Zu(H:ag)(p:ab)(l:Ζ):Prop:=∃n b a,l=n::a/\H p=aa (.tup [.int n,.ref b])/\gI H b a
def XC(I:aK X pins σ H s)(h:Zu H p l):sK s.heap 6#p l:=by
 let(n,b,d,rfl,e,f):=h;let(g,i,j,ϟ):=I.q<|gr.q (K:=X.K) e;obtain⟨u,o,rfl,⟨t,rfl⟩,c⟩:=BJ i;cases c;let(a,k,m,ϟ):=I.q<|gr.q (K:=X.K) f;show(p,b,n,t,a,d,O,O,j,m,wX k)
def zp{c d:Type}{R:c->d->Prop}{l:List c}{m:List d}(p:gD R l m):∀(i:Nat) x y,l[i]?=aa x->m[i]?=aa y->R x y:=by
 induction p with
 |nil=>intro i x y h;simp at h
 |cons r t e=>
  intro i x y a b;cases i with
  |zero=>simp at a b;subst a b;show r
  |succ i=>show e i x y 5#a 5#b
def uK:ae->ab
 |.ref a=>a
 |_=>0
def BN:me:=λc H Q _=>∃a b,c=[.ref a]/\gI H a b/\∀p,H p=ac->Q 6#p (aN H p<|.tup [.int b.length,.ref a])
def OB(h:iO X pins H b):∀c∈[b],iO X pins H c:=λc a=>%[gW.mp a|h]
def zt{a:ag}(f:iO X pins H b)(c:a b=ac):iO X pins a b:=(c,f.2)
def OA(I:aK X pins σ H s)(f:iO X pins H b):b∉mO X.f:=λa=>by
 obtain e|e:=ci.mp (I.A9 b a);show f.2.1 e;show f.2.2.1 e
def Xu{k:Nat}{t:List ab}{x:aB}{Q:Ω}(F:cp X.prog X.w X.K X.b X.d aZ k f fd [x] BN)(hr:fF (k+2) X.A)(N:ou X.K fd [x] [])(I:aK X pins σ H s)(hl:bJ X.K H l (t.map ak.ref))(ht:ce H t w)(d8:w.length<64)(h:∀D H'(R:List (Ζ×ab)) y,aK X pins σ H' y->aM H H'->H D=ac->H' D=aa (.lst<|R.map λq=>ak.ref q.2)->R.Perm (w.zip t)->
   R.Pairwise (λa b=>dj ((b.1.length:Int)::b.1) ((a.1.length:Int)::a.1)=aH)->Q 6#D y):
  aF 3#0 X.A (kz (.builtin "sorted") [.ref l] [(ahl (mu "key") 6#f)]) Q X.a s:=by
 let hu:X.A.units+64<eJ:=hr.units;let(d9,r1,p1,hz):=I.list hl;let a7:=r1.length;obtain rfl:=zd r1;let b8:=ht.length;rw[aA] at a7 hz;let C:(t.map aj).length<=bE:=%[aA|hz]
 generalize a0:t.map aj=g at p1 C;let a8:g.length=t.length:=by rw[<-a0,aA]
 show call_function_entry_kw TB Tx TC (ksk_s1 _ _) ?_;unfold Builtin.«sorted»;show ao (m:=Sx "sorted" 1 1 _)<|aO ?_;calc collect_list p1.isList ?_ C;calc Ej ?_ C;let a1:((s.heap.push<|df "list" #[] 0).update s⁻¹ (cY (·++g.toArray))).objs.size=s⁻¹+1:=by
  rw[yk,EN]
 let A:(((s.heap.push<|df "list" #[] 0).update s⁻¹ (cY (·++g.toArray))).push<|df "list" g.toArray 0).get? (s⁻¹+1)=aa (df "list" g.toArray 0):=by
  rw[<-a1];show eB _ O
 let W:∀b o,s.heap.get? b=aa o->(((s.heap.push<|df "list" #[] 0).update s⁻¹ (cY (·++g.toArray))).push<|df "list" g.toArray 0).get? b=aa o:=λb o q=>by
  let a2:b<s⁻¹:=cG q;rw[AD _ _ _ %[a1|cP<|qF a2],Kr _ _ _ _<|cP a2,AD _ _ _<|cP a2];show q
 change aF _ _ _ _ _ {s with heap:=((s.heap.push<|df "list" #[] 0).update s⁻¹ (cY (·++g.toArray))).push<|df "list" g.toArray 0};rw[a1];generalize hA:((s.heap.push<|df "list" #[] 0).update s⁻¹ (cY (·++g.toArray))).push (df "list" g.toArray 0)=d at A W ⊢;let I1:aK X pins σ H {s with heap:=d}:=I.F (t':=s.toks) W;let E:iO X pins H (s⁻¹+1):=I.A2 (EX _)<|I.a.q<|EX _;generalize hD:s⁻¹+1=D at A E ⊢;let d6:D<d.objs.size:=cG A;calc ik<|wpAny_call_entry_kw Tv (_,A,O) TD ?body<|ksk_l1 _ _;
 case body=>
  change aF 3#0 X.A.in1.in1 (Builtin.«list.sort» ([.ref D],[(ahl (mu "key") 6#f)])) _ _ _;rw[ksk_t1];ext ksk_tree;calc Tz A O ?_;calc AL A O ?_ %[dk|C]<|cJ _;obtain⟨S,a9⟩:∃S,(d.update D<|cY λ_=>(#[]:Array ae)).get? D=aa (df "list" #[] S):=(_,ER A λ_=>#[]);calc KL a9 O ?_;calc Aq ?_ (by change g.length<=_;show C);calc Ej ?_<|cJ _;show ik ?_;let I2:aK X pins σ H {s with heap:=d.update D<|cY λ_=>(#[]:Array ae)}:=
   aK.A8 (s:={s with heap:=d}) (t':=s.toks) (ch:=[D]) I1 (OB E) λb o N q=>%[Kr _ _ _ _ (λz=>N (by simp[z]))|q]
  let I3:aK X pins σ H {s with heap:=((d.update D<|cY λ_=>(#[]:Array ae)).push<|df "tuple" g.toArray 0)}:=I2.F (t':=s.toks) λb u q=>bQ _ q;let U:iO X pins H ((d.update D<|cY λ_=>(#[]:Array ae)).push<|df "tuple" g.toArray 0).objs.size:=I3.A2 (aE _)<|I3.a.q<|aE _;let b0:((d.update D<|cY λ_=>(#[]:Array ae)).push<|df "tuple" g.toArray 0).objs.size≠D:=by
   rw[EN,yk];show ö (í d6)
  let I4:aK X pins σ H {s with heap:=(((d.update D<|cY λ_=>(#[]:Array ae)).push<|df "tuple" g.toArray 0).push<|df "list" #[] 0)}:=I3.F (t':=s.toks) λb u q=>bQ _ q;let b9:(((d.update D<|cY λ_=>(#[]:Array ae)).push<|df "tuple" g.toArray 0).push<|df "list" #[] 0).get? ((d.update D<|cY λ_=>(#[]:Array ae)).push<|df "tuple" g.toArray 0).objs.size=aa (df "list" #[] 0):=eB _ O;let c0:(((d.update D<|cY λ_=>(#[]:Array ae)).push<|df "tuple" g.toArray 0).push<|df "list" #[] 0).get? D=aa (df "list" #[] S):=bQ _<|bQ _ a9;change aF 3#0 X.A.in1.in1 (ksk_rest D 6#f aH g.toArray S<|.ref ((d.update D<|cY λ_=>(#[]:Array ae)).push<|df "tuple" g.toArray 0).objs.size) _ _ {s with heap:=((d.update D<|cY λ_=>(#[]:Array ae)).push<|df "tuple" g.toArray 0).push<|df "list" #[] 0};generalize ((d.update D<|cY λ_=>(#[]:Array ae)).push<|df "tuple" g.toArray 0).objs.size=T at *;generalize ((d.update D<|cY λ_=>(#[]:Array ae)).push<|df "tuple" g.toArray 0).push (df "list" #[] 0)=e0 at *;ext ksk_rest;calc pD ?_;first
   |rw[List.forIn_toArray]
   |(rw[<-Array.forIn_toList];erw[List.toList_toArray])
  show ao (ksk_fold (λi y=>∃B Y e G,aK X pins σ B y/\aM H B/\B D=ac/\B T=ac/\y.heap.get? T=aa (df "list" Y e)/\y.heap.get? D=aa (df "list" #[] S)/\Y.toList=G.map aj/\G.length=i/\
    ∀(j:Nat) p,G[j]?=aa p->∃a n,t[j]?=aa a/\w[j]?=aa n/\B p=aa (.tup [.int n.length,.ref a])) g 0 _
   (H,#[],0,[],I4,aM.refl H,E.1,U.1,b9,c0,O,O,λj p e=>by simp at e) ?step ?done)
  case step=>
   rintro j v y hv ⟨B,Y,e,G,Z,sk,K,P,nk,na,V,hj,a3⟩;erw[vV] at hj ⊢;let c1:j<t.length:=by rw[<-a8];show(dN.mp hv).1
   let ea:t[j]?=aa t[j]:=bu c1;let(n,c3,c4):=ht.q ea;let ev:v=.ref t[j]:=by
    rw[<-a0,ca,ea] at hv;show(cX hv).symm
   subst ev;show ao (rJ (JV (tR (F.a X.A.in1.in1 X.f y B ([.ref t[j]],[]) [.ref t[j]] [.ref t[j]] (λv H'=>∃p,v=.ref p/\B p=ac/\H'=aN B p (.tup [.int n.length,.ref t[j]])) mP
    (fF.F<|fF.F hr) Z.D3.q.q (N y [.ref t[j]] Z.A6 O) (.cons O .nil) (t[j],n,O,sk.tp c4,λp hp=>(p,O,hp,O))) λr L hq=>?_)))
   cases r with
   |error e=>show i' hq
   |ok fl=>
    cases fl with
    |next=>show i' hq
    |brk=>show i' hq
    |cont=>show i' hq
    |ret u=>
     let(v,H',os,b1,un,c5,ru,p,rfl,hp,rfl):=hq;cases ru;have I5:aK X pins σ (aN B p<|.tup [.int n.length,.ref t[j]]) L:=Z.C0 os un c5 b1 (λb z=>nomatch z);have fD:=zt E K;have fK:=zt U P;have c6:=un.c D _ na K (OA Z fD) 0#0;have b2:=un.c T _ nk P (OA Z fK) 0#0;have c7:=un.a D _ na K 0#0;have b3:=un.a T _ nk P 0#0;try k_ne
     let e3:Y.size=j:=by rw[<-nS,V,aA,hj]
     obtain⟨c2,c8⟩:∃c2,(L.heap.update T (cY (·.push<|.ref p))).get? T=aa (df "list" (Y.push<|.ref p) c2):=(_,ER b2 (·.push<|.ref p));let s1:=mv L.heap T (cY (·.push<|.ref p));let c9:=zt U b3;let I6:aK X pins σ (aN B p<|.tup [.int n.length,.ref t[j]]) {L with heap:=L.heap.update T (cY (·.push<|.ref p))}:=
      I5.A8 (t':=L.toks) (ch:=[T]) (OB c9) λb o N q=>(s1.2 b (λz=>N (by simp[z]))).trans q
     calc AL b2 O ?_ (à (à (å e3) (ì c1)) hz)<|aL (pI<|Ff ..) (í (à (à (ï (å e3)) c1) hz));show aO (O,_,Y.push<|.ref p,c2,G++[p],I6,sk.F (by show sk.J hp),c7,b3,c8,(s1.2 D b0.symm).trans c6,by rw[Array.toList_push,V,cH];rfl,by rw[eE,hj];rfl,λi p' e'=>?_);cases hi:i<G.length;rw[sf hi] at e';let(a,b4,x1,x2,x3):=a3 i p' e';show(a,b4,x1,x2,%[bI<|dn x3 hp|x3]);rw[r_ %[|ô hi]] at e';let h0:i-G.length=0:=by
      obtain z|z:=vX (i-G.length);show z;rw[oP (by erw[dI,wa];show z)] at e';cases e'
     rw[h0] at e';obtain rfl:p=p':=by simpa using e'
     let d0:i=j:=ω;subst d0;show(_,n,ea,c3,aI)
  case done=>
   rintro y ⟨B,Y,e,G,Z,sk,K,P,nk,na,V,hj,a3⟩;erw[vV] at hj;try k_ne
   calc Tz nk O ?_;ext ksk_end;try k_ne
   erw[fh,dX];let d1:Y=(G.map aj).toArray:=by rw[<-V,Array.toArray_toList]
   subst d1;let d2:∀(i:Nat) u l,(G.map aj)[i]?=aa u->(w.map λn=>(n.length:Int)::n)[i]?=aa l->sK y.heap u l:=λi u l M h2=>by
    rw[ca] at M h2;cases ek:G[i]? with
    |none=>rw[ek] at M;simp at M
    |some p=>
     let(a,n,x1,x2,x3):=a3 i p ek;rw[ek] at M;rw[x2] at h2;obtain rfl:=cX M;obtain rfl:=cX h2;let(b4,y1,y2):=ht.q x1;rw[x2] at y1;obtain rfl:=cX y1;show XC Z (_,a,n,O,x3,sk.tp y2)
   show MZ (us:=G.map aj) (vs:=g) (ls:=w.map λn=>(n.length:Int)::n) (good:=λh=>h=y.heap) (VN %[aA,aA,hj,a8|b8] (Yx hu) (_,O) (by rintro h rfl;show d2)) #v[aA,hj] (à (à (ï (å a8)) (ï (å b8))) d8) O λe4 ho d3 hf=>?_;show VH (ls:=w.map λn=>(n.length:Int)::n) (vs:=g) nk na b0 %[dk,aA|à (å hj) C] ho d3 C hf λh' a4 c kk d4 e5 b5 d7=>(_,O,?_);show aO (_,O,?_);let(n,b6,b7,hs):=b5;subst a0;let I7:aK X pins σ B {y with heap:=h'}:=Z.A8 (t':=y.toks) (ch:=[T,D]) (λb N=>by
     erw[ci,uj,sE] at N;obtain rfl|rfl:=N;show zt U P;show zt E K) λb o N q=>kk b o (λz=>N (by simp[z])) (λz=>N (by simp[z])) q
   let a5:∀p∈n,∃a R,p.2=aj a/\p.1=((R:Ζ).length:Int)::R:=λp a6=>by
    let(M,h2):=rU (b6.mem_iff.mp a6:(ahl p.1 p.2)∈_);let(a,ϟ,ea):=aW.mp h2;let(R,ϟ,eq):=aW.mp M;show(a,R,ea.symm,eq.symm)
   let pm:(n.map λp=>(ahl p.1.tail (uK p.2))).Perm (w.zip t):=by
    let M:=b6.map (λp:Ζ×ae=>(ahl p.1.tail (uK p.2)));let e:((w.map λn=>(n.length:Int)::n).zip<|t.map aj).map (λp:Ζ×ae=>(ahl p.1.tail (uK p.2)))=w.zip t:=by
     rw[List.zip_map,dC];show(iZ λp _=>O).trans<|TY _
    rw[e] at M;show M
   let ex:a4.toList=((n.map λp=>(ahl p.1.tail (uK p.2))).map λq=>aj q.2):=by
    rw[b7,dC];show iZ λp a6=>?_;let(a,R,S,ϟ):=a5 p a6;change p.2=aj (uK p.2);rw[S];rfl
   let vv:cv ((n.map λp=>(ahl p.1.tail (uK p.2))).map λq=>ak.ref q.2) a4.toList:=by
    rw[ex];show NH (λq:Ζ×ab=>q.2) _
   let(f0,f1,f2,f3,f4,f5):=E;let d5:X.e⁻¹<=D:=by rw[<-hD];show aL I.sz<|EX _
   let I8:aK X pins σ (aN B D<|.lst<|(n.map λp=>(ahl p.1.tail (uK p.2))).map λq=>ak.ref q.2) {y with heap:=h'}:=by
    show I7.C3 K d5 f1 f4 f5 (?_,a4.toList,c,vv,?_);rw[aA,pm.length_eq,ul];lk;simpa using d4
   show h D _ _ _ I8 (sk.F f0) f0 aI pm ?_;rw[kC];show hs.imp_of_mem λ{p q} M h2 h3=>?_;let(ϟ,R,ϟ,S):=a5 p M;let(ϟ,e6,ϟ,e2):=a5 q h2;rw[S,e2] at h3;rw[S,e2];show h3
end
section
variable{X:bj}{a:bG}{ta:fN}{p p2 pos kpos:dt}{k:Nat}{f:ab}{fd:cm}{x y:aB}
def Xa(K:aT)(ta:fN):bp:=λh H Q=>ta h H λi d=>∃(l:ab)(e:List ab)(c:Ξ),i=[.ref l]/\bJ K d l (e.map ak.ref)/\ce d e c/\c.length<64/\
 ∀D f(g:List (Ζ×ab)),aM d f->d D=ac->f D=aa (.lst<|g.map λq=>ak.ref q.2)->g.Perm (c.zip e)->g.Pairwise (λa b=>dj ((b.1.length:Int)::b.1) ((a.1.length:Int)::a.1)=aH)->Q 6#D f
def XI(F:cp X.prog X.w X.K X.b X.d aZ k f fd [x] BN)(o:fF (k+2) X.A)(r:ou X.K fd [x] [])(t:kj X "sorted")(v:X.b "sorted"=ac)(w:gb "sorted"=aa (.builtin "sorted"))(c:kj X y)(d:X.b y=aa 6#f)(z:jQ X [a] ta)(e:(y==("__debug__":aB))=aH:=by decide)(j:eR [a] X.env=[(ahl aH (dw a X.env))]:=by rfl):bY X (.Call (.Name "sorted" p) [a] [(aa "key",.Name y p2,kpos)] pos) (Xa X.K ta):=by
 intro b s A H Q I h;show yd<|of I t v w ?_;show callWith_kw ?_ (by rw[j];rfl) (by rw[j];rfl) O O;show bO (z pos b s A H _ I h) λV B (W,Y,m,C,E)=>?_;let(l,Z,G,rfl,K,L,g,q):=E;let(u,rfl,M):=kH C;cases M;show kws_cons<|GH m c d (kws_nil ?_) e;change aF 3#0 X.A (kz (.builtin "sorted") [.ref l] [(ahl (mu "key") 6#f)]) _ _ B;show Xu F o r m K L g λD n N s' P R S i T U=>(.ref D,n,P,O,q D n N R S i T U)
end
section
open PySem.SetTable
def uD(c:Array Nat):Prop:=∀(i j a b:Nat),c[i]?=aa a->c[j]?=aa b->i<j->a<b
def uD.q(h:uD b){i j a:Nat}(c:b[i]?=aa a)(d:b[j]?=aa a):i=j:=by
 obtain q|q|q:=nN i j;show bo (h i j a a c d q)<|oJ _;show q;show bo (h j i a a d c q)<|oJ _
def Gh{j:Nat}(h:uD d):∀(fuel b c:Nat),c-b<=fuel->b<=c->c<=d.size->(∀i a,d[i]?=aa a->i<b->a<j)->(∀i a,d[i]?=aa a->c<=i->j<=a)->
  Az d j fuel b c<=d.size/\(∀i a,d[i]?=aa a->i<Az d j fuel b c->a<j)/\(∀i a,d[i]?=aa a->Az d j fuel b c<=i->j<=a)
 |0,b,c,s,t,k,l,m=>by
  let e:b=c:=ω;subst e;show(k,l,m)
 |fuel+1,b,c,s,t,k,l,m=>by
  let p:Az d j (fuel+1) b c=if b<c then(if d.getD ((b+c) / 2) j<j then Az d j fuel ((b+c) / 2+1) c else Az d j fuel b ((b+c) / 2)) else b:=O;rw[p]
  cases g:b<c;rw[aw g];let r:(b+c) / 2<d.size:=ω;let n:d[(b+c) / 2]?=aa d[(b+c) / 2]:=oU d _ r;let u:d.getD ((b+c) / 2) j=d[(b+c) / 2]:=by simp[al2,r]
  rw[u];cases o:d[(b+c) / 2]<j;rw[aw o];show Gh h fuel _ _ ω ω k (λi a e f=>?_) m;obtain q|q:=TM (rS.mp f);show uh (h _ _ _ _ e n q) o;subst q;rw[n] at e;cases e;show o;rw[ar o];show Gh h fuel _ _ ω ω (ì r) l (λi a e f=>?_);obtain q|q:=TM f
  have:=h _ _ _ _ n e q
  show à (ô o) (ì this);subst q;rw[n] at e;cases e;show ô o;rw[ar g];let e:b=c:=(û t (ô g));subst e;show(k,l,m)
def Gj(c:uD b)(j:Nat):h_ b j<=b.size/\(∀i a,b[i]?=aa a->i<h_ b j->a<j)/\(∀i a,b[i]?=aa a->h_ b j<=i->j<=a):=
 Gh c b.size 0 b.size ω ú (aE _) (λ_ _ _ h=>bo h<|qE _) (λi a e h=>by have:=(Fh.mp e).1;lk)
def WF(b:uD a){i j:Nat}(e:a[i]?=aa j):h_ a j=i:=by
 let(h,d,f):=Gj b j;obtain q|q|q:=nN (h_ a j) i;let g:h_ a j<a.size:=uh q (Fh.mp e).1;let c:=oU a (h_ a j) g;let k:=f _ _ c<|aE _;let l:=b _ _ _ _ c e q;lk;show q;show bo (d i j e q)<|oJ _
def n_{c:Type}(a:Array c)(p:Nat)(j:c)(g:p<=a.size)(i:Nat):(gU a p j)[i]?=if i<p then a[i]? else if i=p then aa j else a[i-1]?:=by
 ext gU;let f:((a.extract 0 p).push j).size=p+1:=by rw[Ff,Fg];lk
 cases b:i<p;rw[aw b,al1 %[|à b (ì (æ f))],Array.getElem?_push_lt (by rw[Fg];lk)];simp[Array.getElem_extract,b];rw[ar b];cases d:i=p;subst d;rw[aw O,al1 %[|æ f]];let e:(a.extract 0 i).size=i:=by rw[Fg];lk
 have:=Array.getElem?_push_size (xs:=a.extract 0 i) (x:=j);rw[e] at this;show this
 rw[ar d,Array.getElem?_append_right %[|à (å f) (ÿ (ô b) d)],f,Array.getElem?_extract];cases h:i-(p+1)<a.size-p;rw[aw ω];congr 1;lk;rw[ar ω];show(Fi ω).symm
def BG{b:Type}(a:Array b)(p:Nat)(x:b)(c:p<=a.size):(gU a p x).size=a.size+1:=by
 ext gU;rw[Array.size_append,Ff,Fg,Fg];lk
def Wn(f:uD e){j:Nat}(n:∀i:Nat,e[i]?≠aa j):uD (gU e (h_ e j) j):=by
 let(o,p,r):=Gj f j;intro a b x y d c g;rw[n_ _ _ _ o] at d c;cases h:a<h_ e j;rw[aw h] at d;cases k:b<h_ e j;rw[aw k] at c;show f _ _ _ _ d c g;rw[ar k] at c;cases l:b=h_ e j;rw[aw l] at c;cases c;show p _ _ d h;rw[ar l] at c;show f _ _ _ _ d c ω;rw[ar h] at d;rw[ar %[|ù (à (ô h) (ì g))]] at c;cases m:a=h_ e j;rw[aw m] at d;cases d;rw[ar %[|ö (à (ï (ô h)) g)]] at c;have:=r _ _ c ω;obtain q|q:=TM this;show q;subst q;show bo c<|n _;rw[ar m] at d;rw[ar %[|ö (à (ï (ô h)) g)]] at c;show f _ _ _ _ d c ω
def no(a:Nat)(p:EE):EE:=
 if p.more>0 then {p with j:=p.j+1,more:=p.more-1} else
 {p with j:=(tV a p.i p.perturb).1,more:=gC a (tV a p.i p.perturb).1-(tV a p.i p.perturb).1,i:=(tV a p.i p.perturb).1,perturb:=(tV a p.i p.perturb).2}
def Ws(a:Nat)(h:Int):EE:={j:=lS h%(a+1),more:=gC a (lS h%(a+1))-lS h%(a+1),i:=lS h%(a+1),perturb:=lS h,dummy:=ac}
def c_(a:Nat)(h:Int):Nat->EE
 |0=>Ws a h
 |n+1=>no a (c_ a h n)
def cw(a:Nat)(h:Int)(n:Nat):Nat:=(c_ a h n).j
def Ni(a:Nat)(h:Int):∀n,(c_ a h n).dummy=ac
 |0=>O
 |n+1=>by
  change(no a<|c_ a h n).dummy=ac;ext no;split<;>show Ni a h n
def bR(a:Nat)(h:Int):Nat->Nat×Nat
 |0=>(lS h%(a+1),lS h)
 |r+1=>tV a (9#r).1 (9#r).2
def Wc(a i:Nat):gC a i-i<=9:=by ext gC;split<;>lk
def BD(a:Nat)(h:Int){n r:Nat}(e:c_ a h n={j:=(9#r).1,more:=gC a (9#r).1-(9#r).1,i:=(9#r).1,perturb:=(9#r).2,dummy:=ac}):∀k,k<=gC a (9#r).1-(9#r).1->c_ a h (n+k)={j:=(9#r).1+k,more:=gC a (9#r).1-(9#r).1-k,i:=(9#r).1,perturb:=(9#r).2,dummy:=ac}
 |0,_=>e
 |k+1,c=>by
  let b:=BD a h e k (ì c);change no a (c_ a h<|n+k)=_;rw[b];ext no;rw[aw (by change gC a (9#r).1-(9#r).1-k>0;lk)];congr 1
def Ng(a:Nat)(h:Int):∀r,∃n,n<=10*r/\c_ a h n={j:=(9#r).1,more:=gC a (9#r).1-(9#r).1,i:=(9#r).1,perturb:=(9#r).2,dummy:=ac}
 |0=>(0,aE _,O)
 |r+1=>by
  let(n,b,e):=Ng a h r;let c:=Wc a (9#r).1;show(n+(gC a (9#r).1-(9#r).1)+1,ω,?_);change no a (c_ a h<|n+(gC a (9#r).1-(9#r).1))=_;rw[BD a h e _<|aE _];ext no;rw[ar (by change ¬(gC a (9#r).1-(9#r).1-(gC a (9#r).1-(9#r).1)>0);lk)];rfl
def WE(h:Int):lS h<2 ^ 64:=by
 ext lS;let a:(0:Int)<=h%(2 ^ 64:Int):=sA _ ξ;let b:h%(2 ^ 64:Int)<2 ^ 64:=sC _ ξ;lk
def Nk(a:Nat)(h:Int):∀r,(9#r).2=lS h / 32 ^ r
 |0=>by simp[bR]
 |r+1=>by
  change(bR a h r).2 / 32=_;rw[Nk a h r,Nat.div_div_eq_div_mul,ng]
def Wi(a:Nat)(h:Int){r:Nat}(b:13<=r):(9#r).2=0:=by
 rw[Nk];let c:=WE h;let d:32 ^ 13<=32 ^ r:=iD ξ b;show Nat.div_eq_of_lt<|fm c<|aL ξ d
def Nl(a:Nat)(h:Int):∀r,(9#r).1<=a
 |0=>rS.mp (KV _<|AO _)
 |r+1=>rS.mp (KV _<|AO _)
def oZ(a x:Nat):Nat:=(x*5+1)%(a+1)
def mH(a:Nat):Nat->Nat->Nat
 |0,x=>x
 |k+1,x=>oZ a (mH a k x)
def Gf(a:Nat)(h:Int):∀k,(bR a h<|13+k).1=mH a k (9#13).1
 |0=>O
 |k+1=>by
  change((bR a h<|13+k).1*5+1+(bR a h<|13+k).2 / 32)%(a+1)=oZ a (mH a k (9#13).1);rw[Wi a h %[|ü],Gf a h k];rfl
def np(a:Nat):Prop:=∀i s,i<=a->s<=a->∃k,k<=a/\mH a k i=s
def wG(a:Nat):Nat->Nat->List Nat
 |0,_=>[]
 |n+1,x=>x::wG a n (oZ a x)
def Nj(a:Nat):∀(n x k:Nat),k<n->(wG a n x)[k]?=aa (mH a k x)
 |0,_,_,h=>bo h (qE _)
 |n+1,x,0,_=>O
 |n+1,x,k+1,h=>by
  let b:=Nj a n (oZ a x) k (ò h);change(wG a n<|oZ a x)[k]?=_;rw[b];congr 1;let c:∀k x,mH a k (oZ a x)=oZ a (mH a k x):=by
   intro k;induction k with
   |zero=>intro x;rfl
   |succ k b=>intro x;change oZ a (mH a k<|oZ a x)=_;rw[b];rfl
  show c k x
def Ge(a:Nat):∀n x,(wG a n x).length=n
 |0,_=>O
 |n+1,x=>by change(wG a n<|oZ a x).length+1=_;rw[Ge a n]
def BF(c:Nat):∀(a b x:Nat),mH c (a+b) x=mH c a (mH c b x)
 |0,b,x=>by rw[vV];rfl
 |a+1,b,x=>by
  rw[Nat.add_right_comm];change oZ c (mH c (a+b) x)=_;rw[BF c a b x];rfl
def zb{c:Nat}(h:((aP<|c+1).all λs=>(wG c (c+1) 0).contains s)=ap)(n:mH c (c+1) 0=0):np c:=by
 let d:∀s,s<=c->∃k,k<=c/\mH c k 0=s:=λs g=>by
  let o:=lY.mp h s<|bH.mpr (ï g);let(k,f,e):=rV.mp<|List.contains_iff_mem.mp o;rw[Ge] at f;show(k,(ò f),?_);let j:=Nj c (c+1) 0 k f;rw[bu %[Ge|f],e] at j;show(cX j).symm
 intro i s p g;let(a,r,l):=d i p;let(b,t,m):=d s g;obtain q|q:=ji b a;show(c+1-a+b,ω,?_);rw[<-l,<-BF,show c+1-a+b+a=b+(c+1) from ω,BF,n,m];show(b-a,ω,?_);rw[<-l,<-BF,show b-a+a=b from ω,m]
def Wx:np 7:=zb δ δ
def Wz:np 31:=zb δ δ
def Wy:np 63:=zb δ δ
def WA:np 255:=zb δ δ
def WB:np 127:=zb δ δ
def Wd(b:np a)(h:Int){x:Nat}(c:x<=a):∃n,n<10*mZ a/\cw a h n=x:=by
 let(k,f,e):=b (9#13).1 x (Nl a h 13) c;let(n,g,d):=Ng a h<|13+k;show(n,by ext mZ;lk,?_);change(c_ a h n).j=x;rw[d];change(bR a h<|13+k).1=x;rw[Gf,e]
def Gc(a:Nat)(h:Int)(n:Nat):cw a h n<=a:=by
 let b:∀n,(c_ a h n).i<=a/\(c_ a h n).j+(c_ a h n).more<=a:=by
  intro n;let c:∀f,f<=a->f+(gC a f-f)<=a:=λf e=>by ext gC;split<;>lk
  induction n with
  |zero=>
   let q:lS h%(a+1)<=a:=rS.mp<|KV _<|AO _;show(q,c _ q)
  |succ n d=>
   change(no a<|c_ a h n).i<=a/\(no a<|c_ a h n).j+(no a<|c_ a h n).more<=a;ext no;split;show(d.1,by change(c_ a h n).j+1+((c_ a h n).more-1)<=a;lk);let q:(tV a (c_ a h n).i (c_ a h n).perturb).1<=a:=rS.mp<|KV _<|AO _;show(q,c _ q)
 have:=(b n).2;ext cw;show è this
end
section
open PySem.SetTable
structure Tb(t:nJ)(hs:Array Int):Prop where
 b:uD t.place
 c:t.dummies=#[]
 a:t.place.size=hs.size
 le:∀(i j:Nat),t.place[i]?=aa j->j<=t.mask
 f:np t.mask
 g:t.mask%2=1
 e:hs.size<=t.mask
 d:∀(k j:Nat)(h:Int),hs[k]?=aa h->t.place[k]?=aa j->∃n,cw t.mask h n=j/\∀m,m<n->∃k':Nat,t.place[k']?=aa (cw t.mask h m)
def mI(t:nJ)(j:Nat):Prop:=∃i:Nat,t.place[i]?=aa j
section
variable{t:nJ}{hs:Array Int}
def wF(T:Tb t hs){i j:Nat}(e:t.place[i]?=aa j):t.slot j=.live i:=by
 change(if(t.place[h_ t.place j]?==aa j)=ap then vJ (h_ t.place j) else _)=_;rw[WF T.b e,e,aw 0#0]
def V_(T:Tb t hs){j:Nat}(e:¬mI t j):t.slot j=.empty:=by
 change(if(t.place[h_ t.place j]?==aa j)=ap then vJ (h_ t.place j) else if has t.dummies j=ap then Kk else AA)=_;let a:¬(t.place[h_ t.place j]?==aa j)=ap:=by
  intro q;show e (_,Ul q)
 let b:has t.dummies j=aH:=by
  ext has;rw[T.c];rfl
 rw[ar a,b];rfl
def Wq(T:Tb t hs):∃x,x<=t.mask/\¬mI t x:=by
 apply iH;intro d;let a:∀x,x<=t.mask->mI t x:=λx b=>iH λq=>d (x,b,q);let c:aP (t.mask+1) ⊆ t.place.toList:=λx b=>by
  let(i,e):=a x<|rS.mp<|bH.mp b;rw[<-oS] at e;show dL e
 have:=(vZ (n:=t.mask+1)).length_le_of_subset c;rw[gX,nS,T.a] at this;have:=T.e;lk
def Gg{P:Nat->Prop}(n:Nat)(h:P n):∃m,m<=n/\P m/\∀k,k<m->¬P k:=by
 induction n using yr with
 |ind n c=>
  cases q:∃k,k<n/\P k;let(k,a,b):=q;let(m,f,d,e):=c k a b;show(m,(à f (ì a)),d,e);show(n,aE _,h,λk a b=>q (k,a,b))
def Wr(T:Tb t hs)(h:Int):∃a,a<10*mZ t.mask/\¬mI t (cw t.mask h a)/\∀m,m<a->mI t (cw t.mask h m):=by
 let(x,b,c):=Wq T;let(n,i,e):=Wd T.f h b;let(m,j,d,f):=Gg (P:=λm=>¬mI t (cw t.mask h m)) n %[e|c];show(m,(à (ï j) i),d,λk g=>iH λq=>f k g q)
def Gi(T:Tb t hs){a:Nat->Int}:∀(d fuel n:Nat),(∀m,n<=m->m<n+d->∃i:Nat,t.place[i]?=aa (cw t.mask h m)/\a i≠h)->vI t a h (fuel+d) (c_ t.mask h n)=vI t a h fuel (c_ t.mask h<|n+d)
 |0,fuel,n,_=>O
 |d+1,fuel,n,b=>by
  let(i,c,e):=b n (aE _) ω;let f:t.slot (c_ t.mask h n).j=.live i:=wF T c;let g:=Gi T d fuel (n+1) (λm k l=>b m (ì k) ω);rw[show fuel+(d+1)=(fuel+d)+1 from %[|û ß ß],show n+(d+1)=n+1+d from ω,<-g];change(match t.slot (c_ t.mask h n).j with
   |.empty=>aa (EF (c_ t.mask h n).j (c_ t.mask h n).dummy)
   |.dummy=>vI t a h (fuel+d) (t.advance {(c_ t.mask h n) with dummy:=aa (c_ t.mask h n).j})
   |.live i=>if a i==h then aa (Kl (c_ t.mask h n).j i<|t.advance<|c_ t.mask h n) else vI t a h (fuel+d) (t.advance<|c_ t.mask h n))=_
  rw[f];k_ne;rw[ar 5#e];rfl
def Wf(T:Tb t hs){hashAt:Nat->Int}{g n:Nat}(w:g<10*mZ t.mask)(x:¬mI t (cw t.mask h g))(s:∀m,m<g->mI t (cw t.mask h m))(B:n<=g):(t.probe hashAt h (c_ t.mask h n)=aa (.empty (cw t.mask h g) ac)/\∀m i,n<=m->m<g->t.place[i]?=aa (cw t.mask h m)->hashAt i≠h) \/
  ∃(N i:Nat),n<=N/\N<g/\t.place[i]?=aa (cw t.mask h N)/\hashAt i=h/\t.probe hashAt h (c_ t.mask h n)=aa (.candidate (cw t.mask h N) i<|c_ t.mask h<|N+1)/\∀m k,n<=m->m<N->t.place[k]?=aa (cw t.mask h m)->hashAt k≠h:=by
 cases q:∃N,n<=N/\N<g/\∃i:Nat,t.place[i]?=aa (cw t.mask h N)/\hashAt i=h
 right
 let(p,o):=q;obtain⟨N,C,⟨y,z,i,u,v⟩,A⟩:=Gg (P:=λN=>n<=N/\N<g/\∃i:Nat,t.place[i]?=aa (cw t.mask h N)/\hashAt i=h) p o;let l:∀m k,n<=m->m<N->t.place[k]?=aa (cw t.mask h m)->hashAt k≠h:=λm k a b c d=>A m b (a,(à b (ì z)),k,c,d);show(N,i,y,z,u,v,?_,l);obtain⟨f,r⟩:∃f,10*mZ t.mask=(f+1)+(N-n):=(10*mZ t.mask-(N-n)-1,ω);ext aij;rw[r,Gi T (N-n) (f+1) n (λm a b=>?_),show n+(N-n)=N from ω]
 change(match t.slot (c_ t.mask h N).j with
  |.empty=>aa (EF (c_ t.mask h N).j (c_ t.mask h N).dummy)
  |.dummy=>vI t hashAt h f (t.advance {(c_ t.mask h N) with dummy:=aa (c_ t.mask h N).j})
  |.live i=>if hashAt i==h then aa (Kl (c_ t.mask h N).j i<|t.advance<|c_ t.mask h N) else vI t hashAt h f (t.advance<|c_ t.mask h N))=_
 rw[show t.slot (c_ t.mask h N).j=.live i from wF T u];k_ne;rw[aw 5#v]
 rfl
 let(k,e):=s m ω
 show(k,e,l m k a ω e)
 left
 let l:∀m i,n<=m->m<g->t.place[i]?=aa (cw t.mask h m)->hashAt i≠h:=λm i a b c d=>q (m,a,b,i,c,d);show(?_,l);obtain⟨f,r⟩:∃f,10*mZ t.mask=(f+1)+(g-n):=(10*mZ t.mask-(g-n)-1,ω);ext aij;rw[r,Gi T (g-n) (f+1) n (λm a b=>?_),show n+(g-n)=g from ω]
 change(match t.slot (c_ t.mask h g).j with
  |.empty=>aa (EF (c_ t.mask h g).j (c_ t.mask h g).dummy)
  |.dummy=>vI t hashAt h f (t.advance {(c_ t.mask h g) with dummy:=aa (c_ t.mask h g).j})
  |.live i=>if hashAt i==h then aa (Kl (c_ t.mask h g).j i<|t.advance<|c_ t.mask h g) else vI t hashAt h f (t.advance<|c_ t.mask h g))=_
 rw[show t.slot (c_ t.mask h g).j=.empty from V_ T x];k_ne;rw[Ni]
 rfl
 let(k,e):=s m ω
 show(k,e,l m k a ω e)
def Wg(T:Tb t hs){a k j:Nat}(b:¬mI t (cw t.mask h a))(d:hs[k]?=aa h)(c:t.place[k]?=aa j):∃N,N<a/\cw t.mask h N=j:=by
 let(n,e,f):=T.d k j h d c;show(n,?_,e);obtain q|q|q:=nN n a;show q;subst q;show bo (k,%[e|c]) b;show bo (f a q) b
def We(T:Tb t hs)(x:¬mI t (cw t.mask h c))(y:∀m,m<c->mI t (cw t.mask h m))(z:hs.size+1<=t.mask):(t.put<|cw t.mask h c).2<=hs.size/\(t.put<|cw t.mask h c).1.mask=t.mask/\Tb (t.put<|cw t.mask h c).1 (gU hs (t.put<|cw t.mask h c).2 h):=by
 let A:∀i:Nat,t.place[i]?≠aa (cw t.mask h c):=λi e=>x (i,e);let(o,D,E):=Gj T.b<|cw t.mask h c;let u:h_ t.place (cw t.mask h c)<=hs.size:=by rw[<-T.a];show o
 let p:(t.put<|cw t.mask h c).1.place=gU t.place (h_ t.place<|cw t.mask h c) (cw t.mask h c):=O;let v:(t.put<|cw t.mask h c).1.mask=t.mask:=O;let l:∀j,mI t j->∃B:Nat,(t.put<|cw t.mask h c).1.place[B]?=aa j:=λj (i,e)=>by
  cases q:i<h_ t.place (cw t.mask h c);show(i,%[p,n_ _ _ _ o,aw q|e]);show(i+1,by rw[p,n_ _ _ _ o,ar %[|ù (í (ô q))],ar %[|ö (ï (ô q))],akh];show e)
 show(u,v,(?_,?_,?_,λi j e=>?_,T.f,T.g,?_,λk j w C g=>?_));rw[p];show Wn T.b A;change(if has t.dummies (cw t.mask h c)=ap then _ else t.dummies)=#[];rw[T.c];rfl;rw[p,BG _ _ _ o];change _=(gU hs (h_ t.place<|cw t.mask h c) h).size;rw[BG _ _ _ u,T.a];rw[p,n_ _ _ _ o] at e;rw[v];cases r:i<h_ t.place (cw t.mask h c);rw[aw r] at e;show T.le _ _ e;rw[ar r] at e;cases s:i=h_ t.place (cw t.mask h c);rw[aw s] at e;cases e;show Gc _ _ _;rw[ar s] at e;show T.le _ _ e;change(gU hs (h_ t.place<|cw t.mask h c) h).size<=t.mask;rw[BG _ _ _ u];show z;let d:(gU hs (h_ t.place<|cw t.mask h c) h)[k]?=aa w:=C;rw[n_ _ _ _ u] at d;rw[p,n_ _ _ _ o] at g;rw[v];cases r:k<h_ t.place (cw t.mask h c);rw[aw r] at d g;let(n,a,b):=T.d k j w d g;show(n,a,λm f=>l _<|b m f);rw[ar r] at d g;cases s:k=h_ t.place (cw t.mask h c);rw[aw s] at d g;cases d;cases g;show(c,O,λm f=>l _<|y m f);rw[ar s] at d g;let(n,a,b):=T.d (k-1) j w d g;show(n,a,λm f=>l _<|b m f)
end
def VX(c d:Nat)(f:Bool):Tb (lO c d f) #[]:=
 (λi j a b h=>by simp[lO] at h,O,O,λi j h=>by simp[lO] at h,Wx,show 7%2=1 from O,show 0<=7 from cJ _,λk j h e=>by simp at e)
end
section
open PySem.SetTable
def o_(a:Array (Option Nat))(j:Nat):Prop:=∃q,a[j]?=aa (aa q)
def jl(a:Nat)(h:Int):Nat->Nat
 |0=>0
 |r+1=>jl a h r+(gC a (9#r).1-(9#r).1)+1
def VY(a:Nat)(h:Int){r R:Nat}(b:r<=R):jl a h r<=jl a h R:=by
 induction b with
 |refl=>show aE _
 |step _ c=>show aL c (by change _<=jl a h _+_+1;show í ü)
def Gb(a:Nat)(h:Int):∀r,c_ a h (jl a h r)={j:=(9#r).1,more:=gC a (9#r).1-(9#r).1,i:=(9#r).1,perturb:=(9#r).2,dummy:=ac}
 |0=>O
 |r+1=>by
  change no a (c_ a h<|jl a h r+(gC a (9#r).1-(9#r).1))=_;rw[BD a h (Gb a h r) _<|aE _];ext no;rw[ar (by change ¬(gC a (9#r).1-(9#r).1-(gC a (9#r).1-(9#r).1)>0);lk)];rfl
def Gd{a:Array (Option Nat)}{b j:Nat}(i:a.size=b+1)(k:j<=b):(a.getD j<|aa 0).isNone=ap↔¬o_ a j:=by
 let d:j<a.size:=(à (ï k) (æ i));let e:a.getD j (aa 0)=a[j]:=by simp[al2,d]
 let f:a[j]?=aa a[j]:=oU a j d;rw[e];k_in;intro h (q,g);rw[f] at g;rw[cX g] at h;cases h;intro h;cases c:a[j] with
 |none=>rfl
 |some q=>show bo (q,#v[f,c]) h
def Wp{a:Nat}{b:Array (Option Nat)}(i:b.size=a+1)(h:Int)(n:¬o_ b (cw a h d))(l:∀m,m<d->o_ b (cw a h m))(hR:d<=jl a h y):∀(fuel A:Nat),jl a h A<=d->y<A+fuel->EB a b fuel (9#A).1 (9#A).2=aa (cw a h d):=by
 intro fuel;induction fuel with
 |zero=>
  intro A u v;let q:=VY a h (r:=y+1) (R:=A) v;have:jl a h (y+1)=jl a h y+(gC a (9#y).1-(9#y).1)+1:=O;lk
 |succ fuel o=>
  intro A w x;let g:=BD a h<|Gb a h A;let c:∀k,k<=gC a (9#A).1-(9#A).1->cw a h (jl a h A+k)=(9#A).1+k:=λk f=>by
   ext cw;rw[g k f]
  let p:(9#A).1<=gC a (9#A).1:=by ext gC;split<;>lk
  let e:∀k,k<=gC a (9#A).1-(9#A).1->(bR a h A).1+k<=a:=λk f=>by rw[<-c k f];show Gc _ _ _
  change(match (aP<|gC a (9#A).1+1-(9#A).1).find? (λk=>(b.getD ((9#A).1+k)<|aa 0).isNone) with
   |some k=>aa ((9#A).1+k)
   |none=>EB a b fuel (tV a (9#A).1 (9#A).2).1 (tV a (9#A).1 (9#A).2).2)=_
  cases s:d<=jl a h A+(gC a (9#A).1-(9#A).1);let j:(aP<|gC a (9#A).1+1-(9#A).1).find? (λk=>(b.getD ((9#A).1+k)<|aa 0).isNone)=aa (d-jl a h A):=by
   rw[List.find?_range_eq_some];show(?_,bH.mpr ω,λk f=>?_);change(b.getD ((9#A).1+(d-jl a h A))<|aa 0).isNone=ap;rw[Gd i<|e _ ω,<-c _ ω,show jl a h A+(d-jl a h A)=d from ω];show n;let q:¬(b.getD ((9#A).1+k)<|aa 0).isNone=ap:=by
    rw[Gd i<|e _ ω,<-c k ω];show λz=>z<|l _ ω
   rw[Bool.not_eq_true] at q;rw[q];rfl
  rw[j];k_ne;rw[<-c _ ω,show jl a h A+(d-jl a h A)=d from ω];let j:(aP<|gC a (9#A).1+1-(9#A).1).find? (λk=>(b.getD ((9#A).1+k)<|aa 0).isNone)=ac:=by
   rw[ak3];intro k f;let t:=bH.mp f;rw[Gd i<|e _ ω,<-c k ω];show λz=>z<|l _ ω
  rw[j];k_ne;show o (A+1) ?_ ω;change jl a h A+(gC a (9#A).1-(9#A).1)+1<=d;show ó s
structure sQ(mask:Nat)(hashes:Ζ)(owner:Array (Option Nat))(k:Nat):Prop where
 b:owner.size=mask+1
 all:∀q:Nat,q<k->∃j:Nat,owner[j]?=aa (aa q)
 a:∀j q:Nat,owner[j]?=aa (aa q)->q<k
 c:∀(i j q:Nat),owner[i]?=aa (aa q)->owner[j]?=aa (aa q)->i=j
 d:∀(j q:Nat)(h:Int),owner[j]?=aa (aa q)->hashes[q]?=aa h->∃n,cw mask h n=j/\∀m,m<n->o_ owner (cw mask h m)
def sQ.F{d:Nat}{c:Array (Option Nat)}{k:Nat}(L:sQ d f c k)(w:k<=d):∃x,x<=d/\¬o_ c x:=by
 apply iH;intro o;let g:∀x,x<=d->∃q,q<k/\c[x]?=aa (aa q):=λx i=>by
  have:o_ c x:=iH λq=>o (x,i,q);let(q,e):=this;show(q,L.a x q e,e)
 let j:((aP<|d+1).map λx=>(c.getD x ac).getD 0) ⊆ aP k:=λy r=>by
  let(x,i,e):=aW.mp r;let(q,s,h):=g x<|rS.mp<|bH.mp i;rw[LM,h] at e;subst e;show bH.mpr s
 let t:((aP<|d+1).map λx=>(c.getD x ac).getD 0).Nodup:=by
  show TV.mpr<|kC.mpr ?_;show LA ?_<|TV.mp<|vZ (n:=d+1);intro a b u v l e;let(q,ϟ,m):=g a<|rS.mp<|bH.mp u;let(p,ϟ,h):=g b<|rS.mp<|bH.mp v;erw[LM,m,h,ug] at e;subst e;show l<|L.c a b q m h
 have:=t.length_le_of_subset j;rw[aA,gX,gX] at this;show ø this w
def Wb{a:Array (Option Nat)}{b j k:Nat}(c:a.size=b+1)(d:j<=b)(i:Nat):(a.setIfInBounds j<|aa k)[i]?=if i=j then aa (aa k) else a[i]?:=by
 cases q:i=j;subst q;rw[aw O,Array.getElem?_setIfInBounds_self_of_lt %[|à (ï d) (æ c)]];rw[ar q,Array.getElem?_setIfInBounds_ne<|cQ q]
def sQ.step{c:Nat}(C:np c)(L:sQ c g f S)(D:S<=c)(E:g[S]?=aa h):∃j,EB c f (mZ c) (lS h%(c+1)) (lS h)=aa j/\sQ c g (f.setIfInBounds j<|aa S) (S+1):=by
 let(x,G,H):=L.F D;let(d,Q,e):=C (bR c h 13).1 x (Nl c h 13) G;let I:cw c h (jl c h<|13+d)=x:=by
  ext cw;rw[Gb];change(bR c h<|13+d).1=x;rw[Gf,e]
 let(l,K,v,M):=Gg (P:=λm=>¬o_ f (cw c h m)) (jl c h<|13+d) %[I|H];let y:∀m,m<l->o_ f (cw c h m):=λm q=>iH λz=>M m q z;show(cw c h l,Wp L.b h v y K (mZ c) 0 (cJ _) (by ext mZ;lk),?_);let u:cw c h l<=c:=Gc _ _ _;let r:=Wb (k:=S) L.b u;let s:∀i,o_ f i->o_ (f.setIfInBounds (cw c h l)<|aa S) i:=λi (q,e)=>by
  cases z:i=cw c h l;show(S,#v[r,aw z]);show(q,%[r,ar z|e])
 show(%[Array.size_setIfInBounds|L.b],λq R=>?_,λj q e=>?_,λi j q o p=>?_,λj q N o p=>?_);cases z:q=S;show(cw c h l,#v[r,aw O,z]);let(j,A):=L.all q (þ (ò R) z);show(j,?_);rw[r,ar λw=>v (q,by rw[<-w];show A)];show A;rw[r] at e;cases z:j=cw c h l;rw[aw z] at e;cases e;show ß;rw[ar z] at e;have:=L.a j q e;show í this;rw[r] at o p;cases B:i=cw c h l;rw[aw B] at o;cases o;cases t:j=cw c h l;show û (à (å B) (æ t)) (à (å t) (æ B));rw[ar t] at p;have:=L.a j S p;lk;rw[ar B] at o;cases t:j=cw c h l;rw[aw t] at p;cases p;have:=L.a i S o;lk;rw[ar t] at p;show L.c i j q o p;rw[r] at o;cases z:j=cw c h l;rw[aw z] at o;cases o;rw[E] at p;cases p;show(l,z.symm,λm q=>s _<|y m q);rw[ar z] at o;let(n,a,b):=L.d j q N o p;show(n,a,λm q=>s _<|b m q)
def sQ.nil(a:Nat)(b:Ζ):sQ a b (alz (a+1) ac) 0:=by
 let c:∀(j q:Nat),(alz (a+1) (ac:Option Nat))[j]?=aa (aa q)->False:=λj q e=>by
  rw[Array.getElem?_replicate] at e;split at e<;>cases e
 show(by simp,λq h=>bo h<|qE _,λj q e=>(c j q e).elim,λi j q e=>(c i q e).elim,λj q h e=>(c j q e).elim)
def Wk(n:np g)(c:Array Int)(x:c.size<=g+1):∃d,layClean g c=aa d/\sQ g c.toList d c.size:=by
 let p:∀(f:Ζ)(d:Array (Option Nat))(k:Nat),sQ g c.toList d k->c.toList.drop k=f->
   ∃i,(f.foldl (λm h=>do
    let (d,k) <-m
    let j <-EB g d (mZ g) (lS h%(g+1)) (lS h)
    cq (ahl (d.setIfInBounds j<|aa k) (k+1)))<|aa (ahl d k))=aa (ahl i (k+f.length))/\sQ g c.toList i (k+f.length):=by
  intro f
  induction f with
  |nil=>intro d k L _;show(d,O,L)
  |cons h f r=>
   intro d k L e;let l:k<c.toList.length:=by
    obtain q|q:=ji k c.toList.length;show q;rw[Uf q] at e;cases e
   let s:c.toList[k]?=aa h:=by
    rw[AY l] at e;injection e with e1 _
    rw[bu l,e1]
   let t:c.toList.drop (k+1)=f:=by
    rw[AY l] at e;injection e
   rw[nS] at l;let(j,u,v):=L.step n ω s;let(w,a,b):=r (d.setIfInBounds j<|aa k) (k+1) v t;show(w,?_,?_);rw[sj];change nO _ (EB g d (mZ g) (lS h%(g+1)) (lS h) >>= λj=>cq (ahl (d.setIfInBounds j<|aa k) (k+1))) f=_;rw[u];change nO _ (aa (ahl (d.setIfInBounds j<|aa k) (k+1))) f=_;rw[a,dI,show k+1+f.length=k+(f.length+1) from ω];rw[dI,show k+(f.length+1)=k+1+f.length from ω];show b
 let(o,a,b):=p c.toList _ 0 (sQ.nil g _) O;rw[vV,nS] at a b;show(o,?_,b);ext layClean;rw[<-Array.foldl_toList,a];rfl
def ic(a:Array (Option Nat))(n:Nat):List (Nat×Nat):=(aP n).filterMap λj=>(a.getD j ac).map (ahl j ·)
def sL{n:Nat}{x:Nat×Nat}:x∈ic a n↔x.1<n/\a[x.1]?=aa (aa x.2):=by
 ext ic;rw[Lh];k_in;rintro⟨j,d,e⟩;rw[ue] at e;let(q,b,rfl):=e;show(bH.mp d,?_);rw[LM] at b;cases c:a[j]? with
 |none=>rw[c] at b;cases b
 |some v=>rw[c] at b;erw[ug] at b;rw[b]
 rintro⟨f,g⟩;show(x.1,bH.mpr f,?_);rw[LM,g];rfl
def Nm(c:Array (Option Nat))(i:Nat):(ic c i).Pairwise λx y=>x.1<y.1:=by
 ext ic;show anz (S:=λx y:Nat×Nat=>x.1<y.1) _ ?_<|TT (n:=i);intro a f h b e g d;rw[ue] at e d;let(ϟ,ϟ,rfl):=e;let(ϟ,ϟ,rfl):=d;show h
def Wj{k:Nat}(L:sQ d f c k):(ic c<|d+1).length=k/\((ic c<|d+1).map (·.2)).Nodup:=by
 let h:((ic c<|d+1).map (·.2)).Nodup:=by
  show TV.mpr<|kC.mpr ?_;show LA ?_<|Nm c<|d+1;intro a b m o p e;let r:=(sL.mp m).2;let i:=(sL.mp o).2;rw[<-e] at i;have:=L.c _ _ _ r i;show ø p (æ this)
 show(?_,h);let s:(ic c<|d+1).map (·.2) ⊆ aP k:=λq g=>by
  let(x,t,rfl):=aW.mp g;show bH.mpr<|L.a _ _ (sL.mp t).2
 let u:aP k ⊆ (ic c<|d+1).map (·.2):=λq g=>by
  let(j,l):=L.all q<|bH.mp g;let v:j<d+1:=by rw[<-L.b];show(Fh.mp l).1
  show aW.mpr ((ahl j q),sL.mpr (v,l),O)
 let w:=h.length_le_of_subset s;let y:=(vZ (n:=k)).length_le_of_subset u;rw[aA,gX] at w;rw[gX,aA] at y;show û w y
def Wl(M:np d)(P:d%2=1)(o p:Nat)(u l:Bool)(f:Array Int)(Q:f.size<=d):∃t g,laid d o p u l f=aa (ahl t g)/\t.mask=d/\t.led=u/\t.plain=l/\g.size=f.size/\g.toList.Nodup/\(∀q∈g.toList,q<f.size)/\
   Tb t (g.map λq=>(f[q]?).getD 0):=by
 let(c,e,L):=Wk M f (í Q);let(N,R):=Wj L;show(_,_,by ext laid;rw[e];show O,O,O,O,?_,?_,?_,?_)
 change((ic c<|d+1).map (·.2)).toArray.size=_
 rw[dk,aA,N]
 show R
 intro q A
 let(x,w,rfl):=aW.mp (show q∈(ic c<|d+1).map (·.2) from A);show L.a _ _ (sL.mp w).2
 let v:∀i:Nat,(((ic c<|d+1).map (·.1)).toArray)[i]?=((ic c<|d+1)[i]?).map (·.1):=λi=>by
  rw[T_,ca]
 let S:∀i:Nat,(((ic c<|d+1).map (·.2)).toArray)[i]?=((ic c<|d+1)[i]?).map (·.2):=λi=>by
  rw[T_,ca]
 let B:∀j,o_ c j->∃i:Nat,(((ic c<|d+1).map (·.1)).toArray)[i]?=aa j:=λj (q,z)=>by
  let C:j<d+1:=by rw[<-L.b];show(Fh.mp z).1
  let(i,D,T):=rV.mp (sL.mpr (C,z):(ahl j q)∈ic c (d+1));show(i,by rw[v,bu D,T];rfl)
 show(λi j a b U V E=>?_,O,?_,λi j z=>?_,M,P,?_,λk j h W X=>?_)
 let G:((ic c<|d+1)[i]?).map (·.1)=aa a:=by rw[<-v];show U
 let H:((ic c<|d+1)[j]?).map (·.1)=aa b:=by rw[<-v];show V
 let(x,s,rfl):=ue.mp G;let(y,Y,rfl):=ue.mp H;let(D,rfl):=dN.mp s;let(C,rfl):=dN.mp Y;show ui.mp (Nm c<|d+1) i j D C E
 change((ic c<|d+1).map (·.1)).toArray.size=(nR _ ((ic c<|d+1).map (·.2)).toArray).size
 rw[oR,dk,dk,aA,aA]
 let I:((ic c<|d+1)[i]?).map (·.1)=aa j:=by rw[<-v];show z
 let(x,s,rfl):=ue.mp I;show rS.mp (sL.mp<|dL s).1
 change(nR _ ((ic c<|d+1).map (·.2)).toArray).size<=d
 rw[oR,dk,aA,N];show Q
 let K:((ic c<|d+1)[k]?).map (·.1)=aa j:=by rw[<-v];show X
 let(x,s,rfl):=ue.mp K;let r:(nR (λq=>(f[q]?).getD 0) ((ic c<|d+1).map (·.2)).toArray)[k]?=aa h:=W;rw[yF,S,s] at r;let w:=(sL.mp<|dL s).2;let A:=L.a _ _ w;let Z:f.toList[x.2]?=aa h:=by
  rw[oS];have:f[x.2]?=aa f[x.2]:=oU f x.2 A;erw[vU,this,ug] at r;rw[this,cX r]
 let(n,a,b):=L.d x.1 x.2 h w Z;show(n,a,λm hm=>B _<|b m hm)
end
section
open PySem.SetTable
section
variable{prog:bh}{w:ba}{K:Type}[DecidableEq K]{knd:tW prog w K}{A:cC}{E:Ω}{s:ax}
def BI{t:nJ}{a:Array (Int×ae)}(T:Tb t (a.map (·.1))):t.fits a.size=ap:=by
 let b:=T.a;let c:=T.e;rw[oR] at b c;ext SetTable.fits aik;rw[T.c,b];simp;show c
def Wh(n:Nat)(h:SA v=ap):Sp n v=cq aH:=by
 cases v with
 |ref a=>simp[SA] at h
 |_=>cases n<;>rfl
def Nf{j:List K}{Q:Bool->ax->Prop}(i:gE knd s.heap j b)(h:Q aH s):aF 4#0 A (Sp 8<|.ref b) Q E s:=by
 let k:=i.typeIs;let(o,d,n,l,ϟ,m,p):=i;ext Sp;calc x_ k ?_;change aF _ _ ((if("tuple" == "tuple")=ap then cq ap else isSubtype (.type "tuple") (.type "tuple")) >>= _) _ _ s;rw[aw ξ];calc aO ?_;erw[wg,fh,dX];calc js l m ?_;calc ?_;change aF _ _ (Bb d _ _) _ _ s;rw[<-LN];show JR _ (λa r e=>r.1=ac/\e=s/\∀v∈a,SA v=ap) _ ?_ ?_ _ _ (O,O,p.byValue);rintro v a r e ⟨f,rfl,c⟩;rw[Wh _<|c v fy];calc aO ?_;erw[fh,dX];show aO (O,O,λu g=>c u<|gF _ g);rintro⟨q,t⟩ e ⟨f,rfl,_⟩;simp only at f;subst f;show aO h
def VQ{n:List K}{j:List ae}{Q:Bool->ax->Prop}(k:gE knd s.heap n b)(o:∀y∈j,∃e c,y=.ref c/\gE knd s.heap e c)(h:Q aH s):aF 4#0 A (ahz 6#b j) Q E s:=by
 ext ahz;calc ?_;show JR _ (λa r f=>r.1=ac/\f=s/\∀y∈a,∃e c,y=.ref c/\gE knd s.heap e c) _ ?_ ?_ _ _ (O,O,o);rintro v a r f ⟨g,rfl,d⟩;let(e,c,rfl,l):=d v fy;let m:∀u∈a,∃e c,u=.ref c/\gE knd f.heap e c:=λu i=>d u<|gF _ i;k_ne;split;show aO (O,O,m);calc ahv k ?_;erw[wg,fh,dX];calc ahv l ?_;erw[wg,fh,dX];calc Nf k ?_;erw[fh,dX];calc Nf l ?_;erw[fh,dX];show aO (O,O,m);rintro⟨p,q⟩ f ⟨g,rfl,_⟩;simp only at g;subst g;show aO h
structure ma(knd:tW prog w K)(h:aX)(S:ab)(o:bq)(es:Array (Int×ae))(ep:Nat)(t:nJ)(ks:List (List K))(B:List ab):Prop where
 a:h.get? S=aa o
 g:o.ExactSet
 c:o.data=.set es ep t
 tb:Tb t (es.map (·.1))
 i:es.size=ks.length
 n:ks.Nodup
 d:∀e∈es.toList,∃k b,k∈ks/\e=(ahl (d_ knd k) (aj b))/\gE knd h k b
 j:∀k∈ks,∃b,(ahl (d_ knd k) (aj b))∈es.toList/\gE knd h k b
 f:(t.mask=7/\es.size<=4)\/(t.mask=31/\es.size<=18)\/(t.mask=127/\es.size<=76)\/(t.mask=15/\es.size<=8)\/(t.mask=63/\es.size<=37)\/(t.mask=255/\es.size<=152)
 l:∀e∈es.toList,∃b∈B,e.2=aj b
 m:w.params.followText "set-order"=ap\/(t.led=ap/\t.plain=ap)
def VR{t:nJ}(X:ma knd s.heap S o d ep t R B)(hu:A.units<eJ){k:List K}(U:gE knd s.heap k b){p:Nat}(V:p<10*mZ t.mask)(he:¬mI t (cw t.mask (d_ knd k) p))(hm:∀m,m<p->mI t (cw t.mask (d_ knd k) m)){g:Bool}{Q:SetFound->ax->Prop}(H:k∈R->∀r:Option Nat,(g=aH->r.isSome=ap)->Q (.there r) s)(h2:k∉R->Q (.free (cw t.mask (d_ knd k) p) aH) s):∀(fuel n:Nat)(a:Option EE),p<n+fuel->n<=p->a.getD (t.probeStart<|d_ knd k)=c_ t.mask (d_ knd k) n->
   (∀(m i:Nat)(c:ab),m<n->t.place[i]?=aa (cw t.mask (d_ knd k) m)->d[i]?=aa (ahl (d_ knd k) (aj c))->¬gE knd s.heap k c)->
   aF 4#0 A (Sj S 6#b (d_ knd k) g fuel a) Q E s:=by
 let T:=X.tb;let u:=BI T;let hA:∀i:Nat,(d.map (·.1))[i]?=(d[i]?).map (·.1):=λi=>yF ..;intro fuel
 induction fuel with
 |zero=>intro n a a1 a2 _ _;lk
 |succ fuel ih=>
  intro n a a1 a2 a3 a4;ext Sj;calc An X.a X.c u ?_;k_ne;let gw:t.gaveWay=aH:=by
   ext SetTable.gaveWay;rw[T.g];rfl
  rw[gw];erw[fh,dX];rw[a3];obtain⟨W,v⟩|⟨N,i,b1,b2,C,b4,b5,b6⟩:=Wf T (hashAt:=λi=>((d[i]?).map (·.1)).getD 0) V he hm a2;let D:t.probe (λi=>((d[i]?).map (·.1)).getD 0) (d_ knd k) (c_ t.mask (d_ knd k) n)=aa (.empty (cw t.mask (d_ knd k) p) ac):=W;change aF _ _ (match t.probe (λi=>((d[i]?).map (·.1)).getD 0) (d_ knd k) (c_ t.mask (d_ knd k) n) with|some Y=>_|_=>_) _ _ s;rw[D];k_ne;show aO<|h2 λZ=>?_;let(c,a0,a5):=X.j k Z;let(i,I,f):=rV.mp a0;let x:d[i]?=aa (ahl (d_ knd k) 6#c):=by
   rw[<-oS,bu I,f]
  let a6:i<t.place.size:=by rw[T.a,oR];simpa using I
  let ej:t.place[i]?=aa t.place[i]:=oU t.place i a6;let(N,hN,eN):=Wg T he (k:=i) (by rw[hA,x];rfl) ej;obtain q|q:=ji N n;show a4 N i c q %[eN|ej] x a5;show v N i q hN %[eN|ej] (by change((d[i]?).map (·.1)).getD 0=_;rw[x];rfl)
  ·change aF _ _ (match t.probe (λi=>((d[i]?).map (·.1)).getD 0) (d_ knd k) (c_ t.mask (d_ knd k) n) with|some Y=>_|_=>_) _ _ s
   rw[b5];k_ne;let I:i<d.size:=by
    have:=(Fh.mp C).1;rw[T.a,oR] at this;show this
   let f:d[i]?=aa d[i]:=oU d i I;let(L,c,h,ee,hc):=X.d d[i] 0#0;rw[ee] at f;let eh:d_ knd L=d_ knd k:=by
    have:((d[i]?).map (·.1)).getD 0=d_ knd k:=b4;rw[f] at this;show this
   rw[eh] at f;let M:t.sameMemory t.moves t.mask=aa ap:=by ext SetTable.sameMemory;rw[aw 0#0]
   let l:L≠k->aF 4#0 A (Sj S 6#b (d_ knd k) g fuel<|aa<|c_ t.mask (d_ knd k)<|N+1) Q E s:=λj=>by
    show ih (N+1) _ ω b2 O λm i2 c2 q1 q2 P q4=>?_;obtain z|z:=ji m n;show a4 m i2 c2 z q2 P q4;obtain z2|z2:=ji m N;show b6 m i2 z z2 q2 (by change((d[i2]?).map (·.1)).getD 0=_;rw[P];rfl);have:m=N:=(û (ò q1) z2);subst this;have:=T.b.q q2 C;subst this;rw[f] at P;cases P;show j<|IsTupleKey.inj hc q4
   rcases a8:t.led
   all_goals erw[wg,alv,fh,fA,dX]
   calc VQ U (λy hy=>?_) ?_;
   let(e,G,rfl):=aW.mp hy
   rw[Array.toList_filter] at G;let(k2,c2,ϟ,e2,a7):=X.d e (ff.mp G).1;show(k2,c2,#v[e2],a7)
   erw[fh,dX];rw[f];calc ik<|JU hu hc U ?_;calc An X.a X.c u ?_;
   cases j:L=k
   subst j
   cases g
   erw[decide_true,Ur,fh,dX]
   rw[M];erw[fA];rw[wF T C];k_ne;rw[f];calc JP<|ao<|aO ?_;erw[fA];show aO<|H h _ λ_=>O
   erw[decide_true,Fe,fA]
   show aO (H h _ λz=>by cases z)
   rw[dD j]
   erw[Bd,fh,dX];rw[M];erw[fA];rw[wF T C];k_ne;rw[f];calc JP<|ao<|aO ?_;erw[fA];show l j
   rw[f]
   calc ik<|JU hu hc U ?_;calc An X.a X.c u ?_;
   cases j:L=k
   subst j
   cases g
   erw[decide_true,Ur,fh,dX]
   rw[M];erw[fA];rw[wF T C];k_ne;rw[f];calc JP<|ao<|aO ?_;erw[fA];show aO<|H h _ λ_=>O
   erw[decide_true,Fe,fA]
   show aO (H h _ λz=>by cases z)
   rw[dD j]
   erw[Bd,fh,dX];rw[M];erw[fA];rw[wF T C];k_ne;rw[f];calc JP<|ao<|aO ?_;erw[fA];show l j
end
end
section
open PySem.SetTable
section
variable{prog:bh}{w:ba}{K:Type}[DecidableEq K]{knd:tW prog w K}{A:cC}{E:Ω}{s:ax}
def uC{k:List K}{i j t}(l:gE knd h k b)(m:h.get? S=aa o)(p:o.data=.set i j t)(q:jf S h f):gE knd f k b:=by
 let(g,a,n,d,r,c,s):=l;let e:b≠S:=by
  rintro rfl;obtain rfl:g=o:=cX<|d.symm.trans m;rw[p] at c;show nomatch c
 show(g,a,n,(q.2 b e).trans d,r,c,s)
def VT{j:List K}{Q:Bool->ax->Prop}(m:∀k v n,knd.is k v=ap->vC n v=cq ap)(l:gE knd s.heap j b)(h:Q ap s):aF 4#0 A (vC 8<|.ref b) Q E s:=by
 let p:=l.typeIs;let(o,c,n,q,ϟ,t,u):=l;ext vC;calc JN p F.slot_tuple_hash.lookup ?_;k_ne;calc js q t ?_;calc ?_;change aF _ _ (Bb c _ _) _ _ s;rw[<-LN];show JR _ (λa r f=>r.1=ac/\f=s/\∃d,EI knd d a) _ ?_ ?_ _ _ (O,O,j,u);rintro v a r f ⟨g,rfl,d,i⟩;cases i with
 |@cons k _ e _ x y=>
  rw[m k v 7 x];calc aO ?_;erw[wg,fh,dX];show aO (O,O,e,y)
 rintro⟨z,B⟩ f ⟨g,rfl,_⟩;simp only at g;subst g;show aO h
def Nh{h:aX}{t:nJ}(f:h.get? S=aa o)(d:o.data=.set e c t):(h.update S<|SS a b).get? S=aa {o with data:=.set a (c+1) b}:=by
 have:=qA (SS a b) f (by rw[putSet_of a b d];rfl);rw[putSet_of a b d] at this;show this
def Nn{c:Type}{es:Array c}:∀{l:List Nat},(∀q∈l,q<es.size)->∃b:List c,l.filterMap (es[·]?)=b/\b.length=l.length/\(∀x∈b,x∈es.toList)/\(∀(i q:Nat),l[i]?=aa q->b[i]?=es[q]?)
 |[],_=>([],O,O,(λx a=>by cases a),(λi q e=>by cases i<;>simp at e))
 |q::l,h=>by
  let(b,f,g,j,k):=Nn (l:=l) λx a=>h x<|gF _ a;let d:=h q fy;show(es[q]::b,?_,#v[dI,dI,g],λx a=>?_,λi p e=>?_);rw[Fb,oU es q d,f];obtain rfl|a:=ci.mp a;simp;show j x a;cases i with
  |zero=>simp at e;subst e;simp[oU es q d]
  |succ i=>simp at e ⊢;show k i p e
def VS{B:List ab}{t:nJ}{ks:List (List K)}{d f:Nat}(g:s.heap.get? S=aa o)(y:o.ExactSet)(l:o.data=.set c v t)(T:Tb t (c.map (·.1)))(C:c.size=ks.length)(nd:ks.Nodup)(ad:∀e∈c.toList,∃b∈B,e.2=aj b)(el:∀e∈c.toList,∃k b,k∈ks/\e=(ahl (d_ knd k) (aj b))/\gE knd s.heap k b)(ke:∀k∈ks,∃b,(ahl (d_ knd k) (aj b))∈c.toList/\gE knd s.heap k b)(hw:Kj d-1=f)(D:Kj d<=bE)(hc:np f)(ho:f%2=1)(hr:c.size<=f)(hz:c.size<=1000)(G:(f=7/\c.size<=4)\/(f=31/\c.size<=18)\/(f=127/\c.size<=76)\/(f=15/\c.size<=8)\/(f=63/\c.size<=37)\/(f=255/\c.size<=152))(wk:w.params.followText "set-order"=ap\/(t.led=ap/\t.plain=ap)){Q:Unit->ax->Prop}(h:∀H o' I L t',ma knd H S o' I L t' ks B->jf S s.heap H->Q () {s with heap:=H}):aF 4#0 A (Et S d) Q E s:=by
 let M:=BI T;ext Et;calc An g l M ?_;k_ne;rw[ar<|Nat.not_lt.mpr D];let(m,a,e1,e2,e3,e4,N,e6,r,e8):=Wl hc ho t.finger (t.movedTo f) t.led t.plain (c.map (·.1)) %[oR|hr];let er:t.relaid (c.map (·.1)) d=aa (ahl m a):=by
  ext SetTable.relaid;rw[hw];show e1
 rw[oR] at N r;let(j,f1,f2,f3,f4):=Nn (es:=c) r;let eo:a.filterMap (c[·]?)=j.toArray:=by
  apply Array.toList_inj.mp;rw[Array.toList_filterMap,f1]
 let u:j.length=c.size:=#v[f2,nS,N]
 rw[er];calc ?_;change aF _ _ (ite (((a.filterMap (c[·]?)).size != c.size)=ap) _ _) _ _ _;rw[ar (by rw[eo,dk,u];simp),eo];show aO ?_;k_ne;let P:(j.toArray.map (·.1))=a.map λq=>((c.map (·.1))[q]?).getD 0:=by
  apply al3;intro i;rw[yF,yF,T_];cases q:a[i]? with
  |none=>
   have:a.toList.length<=i:=%[nS|Array.getElem?_eq_none_iff.mp q]
   rw[oP %[|à (å f2) this]];rfl
  |some p=>
   let e:=f4 i p %[oS|q];let hp:=r p (by rw[<-oS] at q;show dL q);rw[e,oU c p hp];simp[hp]
 let T2:Tb m (j.toArray.map (·.1)):=%[P|e8]
 let R:∀q,q<c.size->q∈a.toList:=λq n=>iH λz=>by
  let U:(q::a.toList).Nodup:=kD.mpr (z,e6);let V:(q::a.toList) ⊆ aP c.size:=λx W=>by
   obtain rfl|W:=ci.mp W;show bH.mpr n;show bH.mpr<|r x W
  have:=U.length_le_of_subset V;rw[dI,nS,N,gX] at this;show ù ß this
 show ahj g l ?_ %[dk,u,iC|â hz];show h _ {o with data:=.set j.toArray (v+1) m} j.toArray (v+1) m ?_<|mv ..;let sb:jf S s.heap (s.heap.update S<|SS j.toArray m):=mv ..;show(Nh g l,y,O,T2,%[dk,u|C],nd,λe X=>?_,λk hk=>?_,?_,λe X=>ad e<|f3 e X,%[e3,e4|wk]);let(k,b,Y,Z,a3):=el e<|f3 e X;show(k,b,Y,Z,uC a3 g l sb);let(b,Y,Z):=ke k hk;show(b,?_,uC Z g l sb);let(q,n,eq):=rV.mp Y;rw[nS] at n;let(i,hi,ei):=rV.mp<|R q n;let e:=f4 i q #v[bu hi,ei];show dL (i:=i) ?_;rw[e,<-eq];simp[n];rw[e2,dk,u];show G
def Wo{c g:Type}(f:c->g)(d:Array c)(p:Nat)(x:c)(e:p<=d.size):(gU d p x).map f=gU (d.map f) p (f x):=by
 apply al3;intro i;rw[yF,n_ _ _ _ e,n_ _ _ _ %[oR|e],yF,yF];cases a:i<p;rw[aw a,aw a];rw[ar a,ar a];cases b:i=p;rw[aw b,aw b];rfl;rw[ar b,ar b]
def BH{g:Type}{b:Array g}{p:Nat}{x y:g}(c:p<=b.size):y∈(gU b p x).toList↔y=x\/y∈b.toList:=by
 k_in;intro h;let(k,f,e):=rV.mp h;let a:(gU b p x)[k]?=aa y:=by rw[<-oS,bu f,e]
 rw[n_ _ _ _ c] at a;cases d:k<p;rw[aw d,<-oS] at a;show .inr<|dL a;rw[ar d] at a;cases j:k=p;rw[aw j] at a;show .inl (cX a).symm;rw[ar j,<-oS] at a;show .inr<|dL a;rintro(rfl|h);show dL (i:=p) ?_;rw[oS,n_ _ _ _ c,ar<|oJ _,aw O];let(k,f,e):=rV.mp h;let a:b[k]?=aa y:=by rw[<-oS,bu f,e]
 cases d:k<p;show dL (i:=k) ?_;rw[oS,n_ _ _ _ c,aw d];show a;show dL (i:=k+1) ?_;rw[oS,n_ _ _ _ c,ar %[|ù (í (ô d))],ar %[|ö (ï (ô d))],akh];show a
def VU{t:nJ}(X:ma knd s.heap S o d Z t D B)(hu:A.units<eJ)(hv:∀k v n,knd.is k v=ap->vC n v=cq ap){k:List K}(hk:gE knd s.heap k b)(b9:b∈B)(hn:D.length<60){Q:Bool->ax->Prop}(h:∀(r:Bool) f o' c0 c4 t',ma knd f S o' c0 c4 t' (if k∈D then D else D++[k]) B->jf S s.heap f->Q r {s with heap:=f}):aF 4#0 A (setAddHashed S 6#b<|d_ knd k) Q E s:=by
 ext setAddHashed;show ik ?_;let T:=X.tb;let a5:=BI T;let X':ma knd s.heap S o d Z t D B:=X;ext setAddHashedIn;calc An (s:=s) X.a X.c a5 ?_;k_ne;let nb:byScan 6#b d=aH:=O;rw[nb];erw[fh,dX];let(ne,a6,P,hm):=Wr T<|d_ knd k;calc ?_;ext setSearch;show VR (s:=s) X' hu hk a6 P hm (λc5 r0 _=>?_) (λa7=>?_) 100000 0 ac ?_ (cJ _) O (λm i c c6=>bo c6<|qE _);k_ne;show aO<|h aH s.heap o d Z t ?_<|Ks ..;rw[aw c5];show X;k_ne;calc An (s:=s) X.a X.c a5 ?_;k_ne;let a0:(d.map (·.1)).size+1<=t.mask:=by
  rw[oR];obtain⟨a,b⟩|⟨a,b⟩|⟨a,b⟩|⟨a,b⟩|⟨a,b⟩|⟨a,b⟩:=X.f<;>show à (ï b) (ã (æ a))
 let(U,p2,p3):=We T P hm a0;rw[oR] at U;obtain⟨G,p,W⟩:∃G p,t.put (cw t.mask (d_ knd k) ne)=(ahl G p):=(_,_,O);rw[W] at U p2 p3 ⊢;dsimp only at U p2 p3 ⊢;let H:k∉D:=a7;let g:(gU d p (ahl (d_ knd k) (aj b))).size=d.size+1:=BG _ _ _ U;let a8:=X.i;let d1:d.size<60:=(à (ï (å a8)) hn);let a9:∀j:nJ,Tb j (gU (d.map (·.1)) p<|d_ knd k)->j.mask=t.mask->aF 4#0 A (storeSet S (gU d p (ahl (d_ knd k) (aj b))) j)
   (λ_ s'=>∃f,s'={s with heap:=f}/\f.get? S=aa {o with data:=.set (gU d p (ahl (d_ knd k) (aj b))) (Z+1) j}/\jf S s.heap f) E s:=λj T2 m2=>
  ahj (s:=s) X.a X.c (_,O,Nh X.a X.c,mv ..) %[g,iC|â d1]
 let b0:(gU d p (ahl (d_ knd k) (aj b))).map (·.1)=gU (d.map (·.1)) p (d_ knd k):=Wo (·.1) d p _ U;let Y:(D++[k]).Nodup:=by
  rw[mB];show(X.n,by simp,λx hx y hy=>?_);rw[gW.mp hy];show λz=>H<|z▸hx
 let b1:∀f,jf S s.heap f->∀e∈(gU d p (ahl (d_ knd k) (aj b))).toList,∃R I,R∈D++[k]/\e=(ahl (d_ knd R) (aj I))/\gE knd f R I:=λf l e P=>by
  obtain rfl|P:=(BH U).mp P;show(k,b,by simp,O,uC hk X.a X.c l);let(R,I,a1,a2,a3):=X.d e P;show(R,I,kW _ a1,a2,uC a3 X.a X.c l)
 let b2:∀f,jf S s.heap f->∀R∈D++[k],∃I,(ahl (d_ knd R) (aj I))∈(gU d p (ahl (d_ knd k) (aj b))).toList/\gE knd f R I:=λf l R L=>by
  obtain L|L:=fz.mp L;let(I,a1,a2):=X.j R L;show(I,(BH U).mpr<|.inr a1,uC a2 X.a X.c l);rw[gW.mp L];show(b,(BH U).mpr<|.inl O,uC hk X.a X.c l)
 let b3:∀e∈(gU d p (ahl (d_ knd k) (aj b))).toList,∃I∈B,e.2=aj I:=λe P=>by
  obtain rfl|P:=(BH U).mp P;show(b,b9,O);show X.l e P
 let M:∀(j:nJ)(f:aX),Tb j (gU (d.map (·.1)) p<|d_ knd k)->j.mask=t.mask->(w.params.followText "set-order"=ap\/(j.led=ap/\j.plain=ap))->f.get? S=aa {o with data:=.set (gU d p (ahl (d_ knd k) (aj b))) (Z+1) j}->jf S s.heap f->
   aF 4#0 A (if(!aH&&j.tooFull)=ap then(Et S (EC<|d.size+1) >>= λ_=>cq ap) else cq ap) Q E {s with heap:=f}:=λj f T2 m2 b4 hg l=>by
  let V:Tb j ((gU d p (ahl (d_ knd k) (aj b))).map (·.1)):=%[b0|T2]
  let fl:j.fill=d.size+1:=by
   ext aik;rw[V.c,V.a,oR,g];rfl
  let tf:j.tooFull=aJ ((d.size+1)*5 ≥ t.mask*3):=by ext SetTable.tooFull;rw[fl,m2]
  let lk:d.size+1=(D++[k]).length:=by rw[eE,a8];rfl
  let u:((d.size+1)*5<t.mask*3)->((j.mask=7/\d.size+1<=4)\/(j.mask=31/\d.size+1<=18)\/(j.mask=127/\d.size+1<=76)\/(j.mask=15/\d.size+1<=8)\/(j.mask=63/\d.size+1<=37)\/(j.mask=255/\d.size+1<=152))->aF 4#0 A (if(!aH&&j.tooFull)=ap then(Et S (EC<|d.size+1) >>= λ_=>cq ap) else cq ap) Q E {s with heap:=f}:=λq mk=>by
   rw[tf,dD %[|ø q]];erw[Bd,fh,dX];show aO<|h ap f {o with data:=.set (gU d p (ahl (d_ knd k) (aj b))) (Z+1) j} (gU d p (ahl (d_ knd k) (aj b))) (Z+1) j ?_ l;rw[ar H];show(hg,X.g,O,V,%[g|lk],Y,b1 f l,b2 f l,%[g|mk],b3,b4)
  let C:∀N n,d.size+1=n->((d.size+1)*5 ≥ t.mask*3)->Kj (EC n)-1=N->Kj (EC n)<=1000->np N->N%2=1->d.size+1<=N->((N=7/\d.size+1<=4)\/(N=31/\d.size+1<=18)\/(N=127/\d.size+1<=76)\/(N=15/\d.size+1<=8)\/(N=63/\d.size+1<=37)\/(N=255/\d.size+1<=152))->
    aF 4#0 A (if(!aH&&j.tooFull)=ap then(Et S (EC<|d.size+1) >>= λ_=>cq ap) else cq ap) Q E {s with heap:=f}:=λN n en q w1 w2 c1 c2 c3 mk=>by
   rw[tf,cN q];erw[alv,Fe,fA];subst en;calc VS (s:={s with heap:=f}) (ks:=D++[k]) hg X.g O V %[g|lk] Y b3 (b1 f l) (b2 f l) w1 %[iC|â w2] c1 c2 %[g|c3] %[g|â d1] %[g|mk] b4 λc7 c8 b5 b6 c9 d0 b7=>?_;show aO<|h ap c7 c8 b5 b6 c9 ?_<|l.trans b7;rw[ar H];show d0
  obtain⟨a,c⟩|⟨a,c⟩|⟨a,c⟩|⟨a,c⟩|⟨a,c⟩|⟨a,c⟩:=X.f
  cases q:d.size+1<=4
  show u ω<|.inl ((û (à (å m2) (å a)) (à (æ a) (æ m2))),q)
  show C 31 5 (û (ï c) (ó q)) ω δ δ Wz O (â (ð c))<|.inr<|.inl (O,(â (ð c)))
  cases q:d.size+1<=18
  show u ω<|.inr<|.inl ((û (à (å m2) (å a)) (à (æ a) (æ m2))),q)
  show C 127 19 (û (ï c) (ó q)) ω δ δ WB O (â d1)<|.inr<|.inr<|.inl (O,(â d1))
  show u ω<|.inr<|.inr<|.inl ((û (à (å m2) (å a)) (à (æ a) (æ m2))),(â d1))
  cases q:d.size+1<=8
  show u ω<|.inr<|.inr<|.inr<|.inl ((û (à (å m2) (å a)) (à (æ a) (æ m2))),q)
  show C 63 9 (û (ï c) (ó q)) ω δ δ Wy O (â d1)<|.inr<|.inr<|.inr<|.inr<|.inl (O,(â (ð c)))
  cases q:d.size+1<=37
  show u ω<|.inr<|.inr<|.inr<|.inr<|.inl ((û (à (å m2) (å a)) (à (æ a) (æ m2))),q)
  show C 255 38 (û (ï c) (ó q)) ω δ δ WA O (â d1)<|.inr<|.inr<|.inr<|.inr<|.inr (O,(â d1))
  show u ω<|.inr<|.inr<|.inr<|.inr<|.inr ((û (à (å m2) (å a)) (à (æ a) (æ m2))),(â d1))
 let b8:w.params.followText "set-order"=ap\/(G.led=ap/\G.plain=ap):=by
  let e1:G=(t.put<|cw t.mask (d_ knd k) ne).1:=#v[W]
  let e2:G.led=t.led:=by rw[e1];rfl
  let e3:G.plain=t.plain:=by rw[e1];rfl
  rw[e2,e3];show X.m
 cases d2:G.plain with
 |true=>
  erw[fA];calc VT (s:=s) hv hk ?_;erw[fA];calc lN (a9 G p3 p2) (λ_ s' a4=>?_) λ_ _ e=>e;let(f,rfl,g1,g2):=a4;show M G f p3 p2 b8 g1 g2
 |false=>
  erw[fh,dX];calc aO ?_;erw[fA];calc lN (a9 G p3 p2) (λ_ s' a4=>?_) λ_ _ e=>e;let(f,rfl,g1,g2):=a4;show M G f p3 p2 b8 g1 g2
 have:t.mask<=255:=by obtain⟨a,_⟩|⟨a,_⟩|⟨a,_⟩|⟨a,_⟩|⟨a,_⟩|⟨a,_⟩:=X.f<;>lk
 unfold mZ at a6;lk
def VV{j:Array (Int×ae)}{t:nJ}(X:ma knd s.heap S o j l t a B)(g:A.units<eJ)(m:∀k v n,knd.is k v=ap->vC n v=cq ap){k:List K}(i:gE knd s.heap k b)(c:b∈B)(p:a.length<60){Q:Bool->ax->Prop}(h:∀(r:Bool) d q e f u,ma knd d S q e f u (if k∈a then a else a++[k]) B->jf S s.heap d->Q r {s with heap:=d,toks:=s.toks+(k.length+1)}):aF 4#0 A (setAdd S<|.ref b) Q E s:=by
 ext setAdd;show ik<|ao<|wpAny_pyHash_tuple g i<|VU (s:={s with toks:=s.toks+(k.length+1)}) X g m i c p h
end
end
def cr{b:Type}[DecidableEq b](l:List b):List b:=l.foldl (λa x=>if x∈a then a else a++[x]) []
def za{a:Type}[DecidableEq a](l:List a)(x:a):cr (l++[x])=if x∈cr l then cr l else cr l++[x]:=by ext cr;rw[um];rfl
def sO{b:Type}[DecidableEq b](l:List b):(cr l).length<=l.length:=by
 have:∀(l a:List b),(l.foldl (λa x=>if x∈a then a else a++[x]) a).length<=a.length+l.length:=by
  intro l;induction l with
  |nil=>intro a;simp
  |cons x l c=>
   intro a;rw[sj];show aL (c _) ?_;split;rw[dI];show ñ ü;rw[eE,dI,dI,wa];lk
 simpa[cr] using this l []
def pY{b:Type}[DecidableEq b](l:List b)(x:b):x∈cr l↔x∈l:=by
 have:∀(l a:List b),x∈(l.foldl (λa x=>if x∈a then a else a++[x]) a)↔x∈a\/x∈l:=by
  intro l;induction l with
  |nil=>intro a;simp
  |cons y l c=>
   intro a;rw[sj,c];cases h:y∈a;rw[aw h,ci];k_in;rintro(q|q);show .inl q;show .inr<|.inr q;rintro(q|q|q);show .inl q;subst q;show .inl h;show .inr q;rw[ar h,fz,gW,ci];k_in;rintro((q|q)|q);show .inl q;show .inr<|.inl q;show .inr<|.inr q;rintro(q|q|q);show .inl<|.inl q;show .inl<|.inr q;show .inr q
 simpa[cr] using this l []
def y_{d:Type}[DecidableEq d](l:List d):(cr l).Nodup:=by
 have:∀(l c:List d),c.Nodup->(l.foldl (λc x=>if x∈c then c else c++[x]) c).Nodup:=by
  intro l;induction l with
  |nil=>intro c h;show h
  |cons y l f=>
   intro c h;rw[sj];cases q:y∈c;rw[aw q];show f c h;rw[ar q];show f _ ?_;rw[mB];show(h,by simp,λa i b g e=>?_);rw[gW] at g;subst g;subst e;show q i
 show this l [] pK
def Ww{b:Type}[DecidableEq b](l m:List b):(cr<|l++m).length<=(cr l).length+m.length:=by
 have:∀(m a:List b),(m.foldl (λa x=>if x∈a then a else a++[x]) a).length<=a.length+m.length:=by
  intro m;induction m with
  |nil=>intro a;simp
  |cons x l c=>
   intro a;rw[sj];show aL (c _) ?_;split;rw[dI];show ñ ü;rw[eE,dI,dI,wa];lk
 ext cr;rw[um];show this m _
def Wv{a:Type}[DecidableEq a](l:List a)(h:∀(k:Nat) x,l[k]?=aa x->x∉l.take k):cr l=l:=by
 have:∀k,k<=l.length->cr (l.take k)=l.take k:=by
  intro k;induction k with
  |zero=>intro _;rfl
  |succ k c=>
   intro d;let b:l[k]?=aa l[k]:=bu d;rw[yy,b];change cr (l.take k++[l[k]])=_;rw[za,c %[|ì d],ar<|h k _ b];rfl
 let q:=this l.length<|aE _;rw[eF<|aE _] at q;show q
def Wt{a:Type}[DecidableEq a](l:List a){k:Nat}{x:a}(h:l[k]?=aa x)(c:x∈l.take k):(cr l).length<l.length:=by
 let f:k<l.length:=(dN.mp h).1;let e:l=(l.take k++[x])++l.drop (k+1):=by
  have:=yx (k+1) l;rw[yy,h] at this;show this.symm
 let b:=Ww (l.take k++[x])<|l.drop<|k+1;rw[<-e,za,aw<|(pY _ _).mpr c] at b;let d:=sO<|l.take k;rw[gf] at d;rw[lX] at b;lk
def Wu{a:Type}[DecidableEq a](l:List a):(cr l).length<l.length↔∃(k:Nat)(x:a),l[k]?=aa x/\x∈l.take k:=by
 k_in;intro h;apply iH;intro n;have:=Wv l λk x e b=>n (k,x,e,b);rw[this] at h;show oJ _ h;rintro⟨k,x,e,b⟩;show Wt l e b
section
set_option maxHeartbeats 3200000
section
open PySem.SetTable
section
variable{prog:bh}{w:ba}{K:Type}[DecidableEq K]{knd:tW prog w K}{A:cC}{R:vK->ax->Prop}{I:ab}{fp wr:List ab}{G:Array Kt->Array Kt->Prop}{n:Nat}{P:Nat->ae->Prop}{St:Nat->ax->Prop}
def ma.q{h a:aX}{g:Array (Int×ae)}{i:Nat}{t:nJ}{j:List (List K)}(X:ma knd h S o g i t j B)(m:a.get? S=aa o)(l:∀k b,gE knd h k b->gE knd a k b):ma knd a S o g i t j B:=
 (m,X.g,X.c,X.tb,X.i,X.n,λe n=>let ⟨k,b,c,d,p⟩:=X.d e n;(k,b,c,d,l k b p),λk f=>let ⟨b,c,d⟩:=X.j k f;(b,c,l k b d),X.f,X.l,X.m)
def Wm{h c:aX}{k:List K}(d:gE knd h k b)(e:∀o,h.get? b=aa o->c.get? b=aa o):gE knd c k b:=by
 let(o,a,n,f,r):=d;show(o,a,n,e o f,r)
def VW{B:List ab}(W:WalksS prog w A.in1 I fp wr G n P St)(hu:A.in1.units<eJ)(hv:∀k v n,knd.is k v=ap->vC n v=cq ap)(S:ab)(L:S∉fp)(a:List (List K))(l:Nat->ab)(hn:a.length=n)(hB:∀i,i<n->l i∈B)(hz:n<=59)(M:∀i v,P i v->v=.ref (l i))(hna:∀b o,(∃c m,o.cls=aG "tuple"/\o.data=.seq c m)->∀s i,St i s->s.heap.get? b=aa o->b∉wr):∀(k i:Nat)(s:ax),n-i=k->i<=n->St i s->(∃o y z t,ma knd s.heap S o y z t (cr<|a.take i) B)->(∀(j:Nat)(x:List K),a[j]?=aa x->gE knd s.heap x (l j))->
   (∀g,Moved (S::wr) G s g->(∃o y z t,ma knd g.heap S o y z t (cr a) B)->R (.ok<|.ret .none) g)->ky 4#0 A (.builtin "set.update.loop" ([.ref S,.ref I],[])) R s:=by
 let N:S∉wr:=λh=>L<|W.sub _ h;let u:∀b∈wr,b∈S::wr:=λb Q=>gF _ Q;let d:∀{i:Nat}{s g:ax}{x:List K}{b:ab},St i s->Moved wr G s g->gE knd s.heap x b->gE knd g.heap x b:=λ{i s g x b} f p C=>by
  let(o,c,m,ho,hc,hd,hi):=id C;show(o,c,m,p.heap b o (hna b o (c,m,hc,hd) s i f ho) ho,hc,hd,hi)
 intro k
 induction k with
 |zero=>
  intro i s C hi f hS hT hR;let a2:i=n:=ω;subst a2;show kR aj2 ?_;rw[mw TG _];change aF _ A.in1 (jt 6#I >>= _) _ _ s;calc W.done s _ _ f λg p=>?_;change aF _ A.in1 (ret cD) _ _ g;show aO<|hR g (p.mono u) ?_;let(o,y,z,t,X):=hS;rw[eF %[|å hn]] at X;show(o,y,z,t,X.q (p.heap S _ N X.a) λk b C=>d f p C)
 |succ k ih=>
  intro i s C hi f hS hT hR;let D:i<n:=ω;show kR aj2 ?_;rw[mw TG _];change aF _ A.in1 (jt 6#I >>= _) _ _ s;calc W.item i s _ _ D f λv g hP T p=>?_;obtain rfl:=M i v hP;let(o,y,z,t,X):=hS;let X':ma knd g.heap S o y z t (cr<|a.take i) B:=X.q (p.heap S _ N X.a) λk b C=>d f p C;let hx:a[i]?=aa a[i]:=bu (à D (æ hn));let U:=sO<|a.take i;rw[gf] at U;change aF _ A.in1 (Ev [aj<|l i] (setAdd S<|.ref<|l i) >>= _) _ _ g;calc ik<|VV X' hu hv (d f p<|hT i _ hx) (hB i D) ω λr h' o' V Y t' X2 E=>?_;let Z:g.toks<=g.toks+(a[i].length+1):=iY _ _;let a3:St (i+1) {g with heap:=h',toks:=g.toks+(a[i].length+1)}:=W.frame _ g _ _ T Z λb Q o2 e=>by
   rw[E.2 b (λh:b=S=>L (by rw[<-h];show Q))];show e
  let H:a.take (i+1)=a.take i++[a[i]]:=by rw[yy,hx];rfl
  let X3:ma knd h' S o' V Y t' (cr<|a.take<|i+1) B:=by
   rw[H,za];cases q:a[i]∈cr (a.take i);rw[aw q] at X2 ⊢;show X2;rw[ar q] at X2 ⊢;show X2
  show aO (nH TG _,ih (i+1) _ ω D a3 (o',V,Y,t',X3) (λj x hj=>uC (d f p<|hT j x hj) X'.a X'.c E) λa4 a0 a1=>?_);show hR a4 (Moved.trans W.gtrans ((p.mono u).then_heap Z λb o2 Q e=>?_) a0) a1;rw[E.2 b (λh:b=S=>Q %[h|fy])];show e
end
end
end
section
open PySem.SetTable
section
variable{prog:bh}{w:ba}{K:Type}[DecidableEq K]{knd:tW prog w K}{A:cC}{E:Ω}{s:ax}
def Wa(a:ae){Q₁:Ω}(h:Q₁ (.ref s⁻¹) {s with heap:=s.heap.push {cls:=.type "set",dict:=ac,data:=.set #[] 0<|.fresh 0 0<|!w.params.followText "set-order"}}):ky 4#0 A (.call (.builtin "set.__new__") ([.type "set",a],[])) (En Q₁ E) s:=by
 show Kc<|show aF _ A.in1 (do Sy "set.__new__" ([.type "set",a],[]);again (.builtin "set.__new__" ([.type "set",a],[]))) _ _ s from ao (rI (F.newCall_set_1 a)<|aO (nH ai0 _,kR F.entry_set_new ?_));rw[mw ai0 _];unfold Builtin.«set.__new__» anp;let b:=sub_set_self;let(c,g,d,e,f):=s;k_ne;wp_walk;show wpAny_askSetting<|aO ?_;k_ne;erw[newObj];show ao<|wpAny_alloc<|aO<|aO h
def WD{B:List ab}{vals:List (List K)}{adr:Nat->ab}{Q:Ω}(hh:A.handled=ac)(hl:s.heap.IsList l a)(hu:A.units+64<eJ)(hv:∀k v n,knd.is k v=ap->vC n v=cq ap)(hz:a.size<=59)(hn:vals.length=a.size)(hB:∀i,i<a.size->adr i∈B)(a0:∀(i:Nat) v,a[i]?=aa v->v=.ref (adr i))(hT:∀(j:Nat) x,vals[j]?=aa x->gE knd s.heap x (adr j))(h:∀g Y,(∃o es ep t,ma knd g s⁻¹ o es ep t (cr vals) B)->(∀b o,b<s⁻¹->s.heap.get? b=aa o->g.get? b=aa o)->Q (.ref s⁻¹) {s with heap:=g,toks:=Y}):aF 4#0 A (kz (.type "set") [.ref l]) Q E s:=by
 let(c,tl,b2):=vS.mro;let a1:=vS.made;let b3:=vS.sub;show JV<|Kc ?_;change aF _ _ (callAny (.type "set") _) _ _ _;show aO (ajb _ δ,kR ai2 ?_);rw[ajq (ahy "set" [.ref l] []) O];let h1:=vS.notType;let h2:=vS.canCreate;let b7:=F.typeCall_set_1<|.ref l;repeat(any_goals(first|assumption|wp_step))
 show tR (Wa 6#l (E:=E) (Q₁:=λH u=>∃d:Bool,(w.params.followText "set-order"=ap\/d=ap)/\H=.ref s⁻¹/\u={s with heap:=s.heap.push {cls:=.type "set",dict:=ac,data:=.set #[] 0<|.fresh 0 0 d}}) (_,by cases w.params.followText "set-order" <;> simp,O,O)) λr u hr=>?_;cases r with
 |error e=>show hr
 |ok fl=>
  cases fl with
  |ret H=>
   let(d,I,rfl,rfl):=hr;have hS:(s.heap.push {cls:=.type "set",dict:=ac,data:=.set #[] 0<|.fresh 0 0 d}).get? s⁻¹=aa {cls:=.type "set",dict:=ac,data:=.set #[] 0<|.fresh 0 0 d}:=eB _ O;have a2:Ay {s with heap:=s.heap.push {cls:=.type "set",dict:=ac,data:=.set #[] 0<|.fresh 0 0 d}} (.ref s⁻¹) "set":=(_,hS,O);have b8:=vS.init.lookup;have b9:=vS.init.bind<|.ref s⁻¹;repeat(any_goals(first|assumption|wp_step))
   show tR (ah8 (R:=En (λr y=>r=.none/\∃g Y,y={s with heap:=g,toks:=Y}/\
     (∃o es ep t,ma knd g s⁻¹ o es ep t (cr vals) B)/\
     (∀b o,b<s⁻¹->s.heap.get? b=aa o->g.get? b=aa o)) E) vS.init.plain F.entry_set_init<|check_set_init_1 a2 ?_) λL y f=>?_
   ·let(ol,M,N,nl,P):=hl
    let(b4,C,a3,p):=ol;simp only at N P;subst N;subst P;let S:(s.heap.push {cls:=.type "set",dict:=ac,data:=.set #[] 0<|.fresh 0 0 d}).get? l=aa {cls:=.type "list",dict:=C,data:=.seq a nl,slots:=p}:=bQ _ M;let b5:=F.sub_list_set;let b6:=F.sub_list_frozenset;let c0:(aG "list" == aG "dict")=aH:=ξ
    let T:(s.heap.push {cls:=.type "set",dict:=ac,data:=.set #[] 0<|.fresh 0 0 d}).IsList l a:=(_,S,O,nl,O);unfold Builtin.«set.__init__» noKeywords ano;generalize a4:rL=PI
    wp_walk
    subst a4;show vy T ?_;calc wpAny_runValue ?_;let U:l<s⁻¹:=cG M;let a5:A.in1.in1.in1.handled=ac:=by simp[hh]
    let V:l≠(s.heap.push {cls:=.type "set",dict:=ac,data:=.set #[] 0<|.fresh 0 0 d}).objs.size:=by
     rw[vL];show cP<|qF U
    let a6:s⁻¹∉[(s.heap.push {cls:=.type "set",dict:=ac,data:=.set #[] 0<|.fresh 0 0 d}).objs.size,l]:=by
     rw[vL];erw[ci,gW,uj,sE,not_or];show(cP<|TL _,jJ U)
    show VW (knd:=knd) ((Av a5 _ l V a).toS) (by change A.units+1+1+1<eJ;lk) hv s⁻¹ a6 vals adr hn hB hz (λi v q=>a0 i v q) (λb o ho s' i st e W=>?hna)
     (a.size-0) 0 _ (û ß ß) (cJ _) ((_,eB _ O,O,O),(T.push _)) ({cls:=.type "set",dict:=ac,data:=.set #[] 0<|.fresh 0 0 d},#[],0,.fresh 0 0 d,?hS0) (λj x hx=>Wm (hT j x hx) λo e=>bQ _<|bQ _ e) ?hR
    case hna=>
     obtain⟨⟨oi,e1,e2,_⟩,_⟩:=st;let(c1,m,hc,ϟ):=ho;erw[gW] at W;subst W;let e3:=cX<|e1.symm.trans e;rw[<-e3,e2] at hc;show bo hc ξ
    case hS0=>
     let X:((s.heap.push {cls:=.type "set",dict:=ac,data:=.set #[] 0<|.fresh 0 0 d}).push {cls:=.type "list_iterator",data:=.fields #[.ref l,.int 0 0]}).get? s⁻¹
      =aa {cls:=.type "set",dict:=ac,data:=.set #[] 0<|.fresh 0 0 d}:=bQ _ hS
     show(X,(O,O,O),O,(by simpa using VX 0 0 d),O,pK,λe he=>by simp at he,λk hk=>by simp[cr] at hk,.inl (O,cJ _),(λe he=>by simp at he),I.imp id λz=>(z,O))
    case hR=>
     intro s' Z D;let(g,g',d',a7,a8):=s';let eg:g'=s.gens:=Z.gens;let ed:d'=s.drawn:=Z.drawn;let eo:a8=s.os:=Z.os;subst eg;subst ed;subst eo;change aF _ _ _ _ _ _;show aO ?_;change aF _ _ (ret cD) _ _ _;show aO (O,g,a7,O,D,λb o W e=>?_);let a9:b≠s⁻¹:=cP W;let b0:b≠(s.heap.push {cls:=.type "set",dict:=ac,data:=.set #[] 0<|.fresh 0 0 d}).objs.size:=by
      rw[vL];show cP<|qF W
     show Z.heap b o (by erw[ci,gW,uj,sE,not_or];show(a9,b0))<|bQ _<|bQ _ e
   ·cases L with
    |error e=>show f
    |ok G=>
     cases G with
     |ret r=>
      let(rfl,g,Y,rfl,D,b1):=f;repeat(any_goals(first|assumption|wp_step))
      show h _ _ D b1
     |_=>show f.elim
  |_=>show hr.elim
end
end
def zy(D:ab)(n:Nat):eX:=.ext λh=>∃o a b t,h.get? D=aa o/\o.ExactSet/\o.data=.set a b t/\t.fits a.size=ap/\a.size=n/\n<=100
section
variable{X:bj}
def YM:∀(k:Int)(v:ae)(n:Nat),(Eu a w).is k v=ap->vC n v=cq ap:=by
 intro k v n h;let(t,rfl):=aih h;cases n<;>rfl
def Yp{b:List ae}(j:lW h c b.toArray)(g:ia b f):gE (Eu a w) h f c:=by
 let(o,e,i,k,d):=j;show(o,b.toArray,k,e,i,d,?_);have:∀{b:List ae}{f:Ζ},ia b f->EI (Eu a w) f b:=by
  intro b f g;induction g with
  |nil=>show .nil
  |cons n t h l=>show .cons (by change Ki n (.int n t)=ap;simp[Ki]) l
 simpa using this g
def Zi(G:X.c=ap)(L:X.A.units+64<eJ):lE X (.type "set") (λy H Q=>∃(l:ab)(d:List ab)(c:Ξ),y=[.ref l]/\bJ X.K H l (d.map ak.ref)/\ce H d c/\c.length<=59/\
  ∀D,H D=ac->Q 6#D (aN H D<|zy D (cr c).length)):=by
 rintro z s σ H y us Q I r ⟨l,d,c,rfl,M,A,hz,q⟩;let(u,rfl,N):=kH r;cases N;let(k,P,R,ϟ):=I.list M;obtain rfl:=zd P;let m:=A.length;show WD (B:=d) (knd:=Eu X.prog X.w) (vals:=c) (adr:=λi=>d.getD i 0) (I.b.a G) R.isList L YM %[dk,aA|à (å m) hz] %[dk,aA|û (æ m) (å m)] (λi n=>by rw[dk,aA] at n;rw[co,bu n];show dW n)
  (λi v e=>?_) (λj x e=>?_) λh' tk (o,S,U,t,T) V=>?_
 let g:(d.map aj)[i]?=aa v:=by simpa using e
 rw[ca] at g;cases f:d[i]? with
 |none=>rw[f] at g;simp at g
 |some a=>
  rw[f] at g;rw[<-cX g,co,f];rfl
 let W:j<d.length:=%[m|(dN.mp e).1]
 let f:d[j]?=aa d[j]:=bu W;let(Y,C,Z):=A.q f;rw[e] at C;obtain rfl:=cX C;let(k,r2,p2,ϟ):=I.q<|gr.q (K:=X.K) Z;rw[co,f];show Yp p2<|wX r2
 let E:=sO c
 show(.ref s⁻¹,_,I.J (o:=zy s⁻¹ (cr c).length) (λb u e=>V b u (cG e) e) (aE _) ?_,O,q _<|I.a.q<|aE _);show((o,S,U,t,T.a,T.g,T.c,BI T.tb,T.i,(â (à E hz))),(o,T.a),λh1 h2 (o',p,w,t',g1,g2) kp=>(o',p,w,t',kp _ g1,g2))
def Zm:lE X (.builtin "len") (λa H Q=>∃D n,a=[.ref D]/\H D=aa (zy D n)/\Q (.int n) H):=by
 rintro b s k H a l Q I r ⟨D,n,rfl,c,q⟩;let(u,rfl,d):=kH r;cases d;obtain⟨⟨o,m,p,t,e,f,g,i,j,v⟩,_⟩:=(show eW X.prog X.w H s.heap D (zy D n) from I.a D _ c);show call_len_set e f g i ω (.int n,H,I.A0 _,(_,#v[j]),q)
end
section
open PySem.Builtin PySem.Builtin.Str
section
variable{prog:bh}{w:ba}{A:cC}{E:Ω}{s:ax}{x y:aB}{t u:je}{Q:Ω}
def VP(c:(y.length==0)=aH)(h:∀(l:List (aB×je)) k,l.map (·.1)=Ey x y->Q (.ref s⁻¹) {s with heap:=s.heap.push {cls:=.type "list",data:=.seq (Sh l).toArray},toks:=k})(d:x.length+2<=bE):aF 4#0 A (kz (.builtin "str.split") [.str x t,.str y u]) Q E s:=by
 let e:(partsBetween x (Tq x y 0 x.length<|x.length+1) y.length).length<=bE:=by
  let f:=StrLaws.occ_length_le x y 0 x.length<|x.length+1;rw[length_partsBetween];show à (ï f) d
 rcases a:(aJ (x.length<y.length)|| decide (strKind x<strKind y))
 ·rcases b:(Tq x y 0 x.length<|x.length+1).isEmpty
  ·show tS Kv (JY _ _ _) Te (Th _ _) (meets_str_split_sep x y t u a c b (è d) e) ?_
   change En Q E _ {s with toks:=_,heap:=s.heap.push {cls:=.type "list",data:=.seq (strsFrom s.toks<|partsBetween x (Tq x y 0 x.length<|x.length+1) y.length).toArray}};rw[strsFrom_eq];show h (numbered s.toks _) _<|(numbered_texts _ _).trans ((ar<|ne_true_of_eq_false a).trans<|ar<|ne_true_of_eq_false b).symm
  ·show tS Kv (JY _ _ _) Te (Th _ _) (meets_str_split_not_found x y t u a c b)
   <|h [(ahl x t)] s.toks ((ar<|ne_true_of_eq_false a).trans<|aw b).symm
 ·show tS Kv (JY _ _ _) Te (Th _ _) (meets_str_split_cannot_occur x y t u a)
  <|h [(ahl x t)] s.toks (aw a).symm
end
end
section
variable{X:bj}
def Np:∀(l:List (aB×je)),cv ((l.map (·.1)).map ak.str) (Sh l)
 |[]=>.nil
 |p::l=>.cons (p.2,O) (Np l)
inductive NM(x:ak)(vs:List ak)(H:ag)(Q:aR):Prop
 |a:∀z y,(x=.str z)->(vs=[.str y])->((y.length==0)=aH)->(z.length+2<=bE)->((Ey z y).length<=bE)->(∀D,H D=ac->Q 6#D (aN H D<|.lst<|(Ey z y).map ak.str))->NM x vs H Q
def Yb:CH X "str.split" NM:=by
 rintro a s m H x n v p Q I c d ⟨z,y,rfl,rfl,f,g,i,q⟩;let(t,rfl):=c;let(u,rfl,j):=d.A1;let(t',rfl):=j;show VP f (λl k e=>?_) g;show(.ref s⁻¹,_,I.J (t':=k) (o:=.lst<|(Ey z y).map ak.str) (λb r q=>bQ _ q) (aE _) ?_,O,q _<|I.a.q<|aE _);show(%[aA|i],Sh l,0,?_,eB _ O);rw[<-e];show Np l
def CK(x:aB):iN:=(λi _=>i<x.cps.size,λi H v a=>a=H/\∃c,x.cps[i]?=aa c/\v=.str ⟨#[c]⟩,λi _=>i=x.cps.size)
def Ns{K:aT}(x:aB)(a:ab)(T:String)(Z:["enumerate","zip","dict_itemiterator","dict_reverseitemiterator","odict_iterator","itertools.zip_longest","itertools.pairwise"].contains T=aH)(t:je)(W:∀U:cC,U.handled=ac->yi P w U a [a] [a] x.cps.size (SignAt x) (λi h=>h.IsStrIter a T x t i))(p:∀(A:cC)(i:Nat)(s:ax)(Q:Ω)(E:Ω),s.heap.IsStrIter a T x t i->Q 6#a s->aF (aV P w) A (rL<|.ref a) Q E s):om P w K Y (CK x) [a] a (λi h=>h.IsStrIter a T x t i) where
 f:=by simp
 a:=λi h g b j=>by
  let e:b=a:=by simpa using j
  subst e;let(o,e,c,d):=g;show(o,e,λv z=>by rw[d] at z;cases z)
 c:=λi h m g k=>by
  let(o,e,c):=g;show(o,k a 0#0 o e,c)
 d:=by
  intro X q r y B i f s V H E I n g C;subst q r y;let(D,G,f2,L,M,N):=n a 0#0;show(W X.A<|I.b.a B).item i s _ _ C g λv m R hv l S=>?_;let(c,u,hx,rfl):=hv;let I1:aK X f V H {s with heap:=m,toks:=R}:=I.A1 (λb o j e=>S b o 5#j e) D G L M N;let(o,e1,e2,e3):=id l;show(_,O,uI (s:={s with heap:=m,toks:=R}) e1 e2 e3 Z (.str ⟨#[c]⟩,H,I1,(u,O),(O,c,hx,O),l,λb j=>(n b j).1))
 done:=by
  intro X q r y B i f s V H E I n g C;subst q r y;let(D,G,f2,L,M,N):=n a 0#0;let hi:i=x.cps.size:=C;subst hi;show(W X.A<|I.b.a B).done s _ _ g λm R S=>(O,I.A1 (λb o j e=>S b o 5#j e) D G L M N)
 e:=p
def YC(a:bp):jP:=λb H R=>a b H λv c=>∃x,v=.str x/\R (CK x) c
def XE{m:bp}(w:bY X l m):kK X u l (YC m):=by
 intro a s n H R I h;show bO (w a s n H _ I h) λv c (x,f,g,y,B)=>?_;let(z,e,q):=B;subst e;let(t,rfl):=y;let d:∀(o:bq),aK X a n f {c with heap:=c.heap.push o}:=λo=>g.F (t':=c.toks) λb o e=>bQ _ e;let p:∀b∈[c⁻¹],iO X a f b:=λb C=>by
  let e:b=c⁻¹:=by simpa using C
  subst e;show g.A2 (aE _)<|g.a.q<|aE _
 rcases r:z.cps.all (·<128);show wpAny_pyIter_wide r ?_;show(c⁻¹,[c⁻¹],_,_,f,O,d _,Ns z _ "str_iterator" ξ t (λD j=>Walks.strWide j _ z t) (λA i s Q E k h=>wpAny_pyIter_striter_wide k h),(_,eB _ O,O,O),p,q);show wpAny_pyIter_ascii r ?_;show(c⁻¹,[c⁻¹],_,_,f,O,d _,Ns z _ "str_ascii_iterator" ξ t (λD j=>Walks.strAscii j _ z t) (λA i s Q E k h=>wpAny_pyIter_striter_ascii k h),(_,eB _ O,O,O),p,q)
def Zf{g:gK}{k:fV}{l:bp}{m:ag}{Q:aR}{x:aB}(h:Nat->aY->List ak->ag->Prop)(o:h 0 a [] (aN m D<|.lst []))(q:∀i a f H c,x.cps[i]?=aa c->i<x.cps.size->f.length<=i->h i a f H->g (.str ⟨#[c]⟩) a H λd r=>k d r λb n=>if b=ap then l d n (rg x.cps.size h D i d) else tu x.cps.size h i d n)(s:∀a f H,h x.cps.size a f H->Q 6#D H):eY (CK x) g k l a m D Q:=by
 show ti x.cps.size h o (λa f H p=>O) (λi a f H j p=>j) (λi a f H v w j t p y=>?_) s;let(e,c,u,rfl):=y;subst e;show q i a f _ c u j t p
end
def oz(b:Ζ):Ξ:=b.foldl (λa x=>a++a.map (·++[x])) [[]]
def dr(a:Ζ):Ξ:=(oz a).drop 1
def Rr(a:Ζ)(x:Int):oz (a++[x])=oz a++(oz a).map (·++[x]):=by ext oz;rw[um];rfl
def Rs(b:Ζ):(oz b).length=2 ^ b.length:=by
 have:∀(b:Ζ)(c:Ξ),(b.foldl (λa x=>a++a.map (·++[x])) c).length=c.length*2 ^ b.length:=by
  intro b;induction b with
  |nil=>intro c;simp
  |cons x b d=>
   intro c;rw[sj,d,eE,aA,dI,ng];rw[<-Nat.two_mul,kB 2,ge,kB 2]
 simpa[oz] using this b [[]]
def Rt(c:Ζ):∃t,oz c=[]::t/\∀q∈t,q≠[]:=by
 have:∀(c:Ζ)(b:Ξ),(∃t,b=[]::t/\∀q∈t,q≠[])->∃t,c.foldl (λa x=>a++a.map (·++[x])) b=[]::t/\∀q∈t,q≠[]:=by
  intro c;induction c with
  |nil=>intro b h;show h
  |cons x c e=>
   rintro b ⟨t,rfl,h⟩;rw[sj];show e _ (t++([]::t).map (·++[x]),O,λq d=>?_);obtain d|d:=fz.mp d;show h q d;let(r,ϟ,rfl):=aW.mp d;simp
 show this c [[]] ([],O,λq d=>nomatch d)
def Af(a:Ζ):(dr a).length=2 ^ a.length-1:=by ext dr;rw[lX,Rs]
def af2(b:Ζ):∀q∈oz b,q.length<=b.length:=by
 have:∀(b:Ζ)(c:Ξ)(n:Nat),(∀q∈c,q.length<=n)->∀q∈b.foldl (λa x=>a++a.map (·++[x])) c,q.length<=n+b.length:=by
  intro b;induction b with
  |nil=>intro c n h q e;simpa using h q e
  |cons x b f=>
   intro c n h q e;rw[sj] at e;have:=f _ (n+1) (λr d=>by
    obtain d|d:=fz.mp d;show EW<|h r d;let(u,g,rfl):=aW.mp d;rw[eE];show Nat.succ_le_succ<|h u g) q e
   rw[dI];lk
 intro q e;have:=this b [[]] 0 (λr d=>by simp at d;subst d;show aE _) q e;lk
def iA:Ζ->Bool
 |a::b::r=>aJ (a<b)&&iA (b::r)
 |_=>ap
def Ru:∀c:Ζ,((c.zip<|c.drop 1).map λp=>aJ<|p.1<p.2).all id=iA c
 |[]=>O
 |[_]=>O
 |a::b::r=>by
  have:=Ru<|b::r;ext iA;rw[<-this]
  rfl
def JA:∀e:Ζ,iA e=ap↔∀(i:Nat) a b,e[i]?=aa a->e[i+1]?=aa b->a<b
 |[]=>by simp[iA]
 |[x]=>by simp[iA]
 |x::y::r=>by
  ext iA;rw[lb,jx,JA<|y::r];k_in;rintro⟨f,g⟩ i a b c d;cases i with
  |zero=>simp at c d;subst c d;show f
  |succ i=>show g i a b 5#c 5#d
  intro h;show(h 0 x y O O,λi a b c d=>h (i+1) a b 5#c 5#d)
def Rv(c:Ζ)(h:iA c=ap):∀(d i:Nat) a b,c[i]?=aa a->c[i+d]?=aa b->a<=b:=by
 intro d;induction d with
 |zero=>intro i a b f e;rw[akf,f] at e;cases e;show pN _
 |succ d j=>
  intro i a b f e;let k:i+(d+1)<c.length:=(dN.mp e).1;let g:c[i+d]?=aa c[i+d]:=bu (ì k);let l:=j i a _ f g;let m:=(JA c).mp h (i+d) _ b g e;lk
def jr(a:Ζ):Bool:=aJ (1<=a.length)&&aJ (a.length<=5)&&!(aJ<|a.headD 0<0)&&!(aJ<|99<a.getLastD 0)&&iA a
def kP(a:Ζ):Bool:=aJ (1<=a.length)&&aJ (a.length<=5)&&a.all (λp=>aJ (0<=p)&&aJ (p<=99))&&iA a
def Rx(b:Ζ):jr b=kP b:=by
 ext jr kP;cases b with
 |nil=>rfl
 |cons x r=>
  cases a:iA (x::r)=ap;rw[a,alx,alx];cases j:(x::r).length<=5;let e:(x::r).getLastD 0=(x::r)[(x::r).length-1]:=by
   rw[aku,List.getLast?_eq_getElem?,bu 0#0];rfl
  let c:(!(aJ<|(x::r).headD 0<0)&&!(aJ<|99<(x::r).getLastD 0))=(x::r).all (λp=>aJ (0<=p)&&aJ (p<=99)):=by
   rw[wh];rw[lb,alw,alw,decide_eq_false_iff_not,decide_eq_false_iff_not,lY];k_in;rintro⟨k,l⟩ p m;let(i,d):=qI.mp m;let n:i<(x::r).length:=(dN.mp d).1;let f:=Rv (x::r) a i 0 x p O 5#d;let g:=Rv (x::r) a ((x::r).length-1-i) i p ((x::r)[(x::r).length-1]) d (by
    rw[show i+((x::r).length-1-i)=(x::r).length-1 from ω];show bu 0#0)
   rw[e] at l;let o:¬x<0:=k;erw[lb,jx];k_in<;>lk;intro h;let f:=h x fy;let g:=h ((x::r)[(x::r).length-1])<|dW _;rw[e];erw[lb,jx] at f g;k_in;change ¬x<0;lk;lk
  rw[<-c];erw[Bool.and_assoc];rw[dD j];simp;have:iA (x::r)=aH:=by simpa using a
  rw[this,Bd,Bd]
def gO(a:Ξ):Bool:=aJ (a.length<=20)&&a.all jr&&!(aJ<|(cr a).length<a.length)&&aJ ((cr<|a.flatMap dr).length<=200)
def RG(a:Ξ)(k:Nat):Prop:=∀(i:Nat) b,i<k->a[i]?=aa b->b∉a.take i/\kP b=ap
def af1(a:Ξ)(h:a.length<=20)(b:RG a a.length):gO a=aJ ((cr<|a.flatMap dr).length<=200):=by
 ext gO;let d:a.all jr=ap:=lY.mpr λf g=>by
  let(i,c):=qI.mp g;rw[Rx];show(b i f (dN.mp c).1 c).2
 let j:¬(cr a).length<a.length:=λz=>by
  let(k,x,e,l):=(Wu a).mp z;show(b k x (dN.mp e).1 e).1 l
 rw[cN h,d,dD j];rfl
def af0(a:Ξ)(h:¬a.length<=20):gO a=aH:=by ext gO;rw[dD h];rfl
def Cj(N c:List aB)(a:List (Option Nat))(b:jH):Bool:=aJ (a.length=c.length)&&(a.zip c).all λp=>match p.1 with
 |none=>ap
 |some j=>aJ (N[j]?=aa p.2)&&aJ (b.names.lookup p.2=aa .free)
def OX(h:Cj N c a b=ap):CM N c a b:=by
 unfold Cj at h;rw[lb,jx,lY] at h;show(h.1,λi j e=>?_);let f:i<a.length:=(dN.mp e).1;let d:c[i]?=aa c[i]:=bu (by rw[<-h.1];show f);have:=h.2 (ahl (aa j) (c[i]))<|qI.mpr (i,by rw[qT,e,d];rfl);erw[lb,jx] at this;show(c[i],d,this.1,this.2)
section
variable{X:bj}{scope:jH}{caps:List (Option Nat)}{tg iter elt:bG}{ifs:List bG}{wi:jP}{g:gK}{tc:fV}{te:bp}{pos:dt}
def fq(N i:List aB)(caps:List (Option Nat))(j:kK X tg iter wi)(k:∀e C a b f,ot (iy X scope i e C a b f) tg g)(l:∀e C a b f,tp (iy X scope i e C a b f) ifs tc)(m:∀e C a b f,bY (iy X scope i e C a b f) elt te)(n:X.c=ap:=by rfl)(o:scope.kind=.function:=by rfl)(d:∀y∈scope.names,y.2≠.cell:=by decide +kernel)(c:∀y∈scope.names,y.2=.local->scope.names.lookup y.1=aa .local:=by decide +kernel)(hfr:∀y∈scope.names,y.2=.free->X.env.kindOf y.1=aa .cell\/X.env.kindOf y.1=aa .free)(p:X.N=N:=by rfl)(h:Cj N i caps scope=ap:=by decide +kernel)(q:∀x,At iter X.env x=cq x:=by intro _;rfl):bY X (.ListComp elt [(tg,iter,ifs,0)] scope pos) (zh wi caps g tc te):=
 XM n o d c hfr (OX %[p|h]) j k l m q
end
def nv{b:im}{a:jH}(h:a.names.all (λy=>aJ<|y.2≠.free)=ap):∀y∈a.names,y.2=.free->b.kindOf y.1=aa .cell\/b.kindOf y.1=aa .free:=λy c e=>
 bo e<|gP<|lY.mp h y c
def gS{b:im}{a:jH}(c:jH)(h:a.names.all (λy=>aJ (y.2≠.free)|| decide (c.names.lookup y.1=aa .cell)|| decide (c.names.lookup y.1=aa .free))=ap)(d:b.scope=c:=by rfl):∀y∈a.names,y.2=.free->b.kindOf y.1=aa .cell\/b.kindOf y.1=aa .free:=λy f e=>by
 subst d;have:=lY.mp h y f;erw[alu,jx] at this;obtain (q|q)|q:=this;show bo e q;show .inl q;show .inr q
def dM(l:List aB)(h:l.Nodup:=by decide +kernel):l.Nodup:=h
def sU{c:bp}{S:ag->Prop}(h:c a H P):gB a H λb d=>if b=ap then c a d P else S d:=by
 change if ap=ap then c a H P else S H;rw[aw O];show h
def jD{i:Nat}{d:bp}{c:aY}{P:aY->aR}{S:aY->ag->Prop}(h:d (c.set i<|aa v) H (P<|c.set i<|aa v)):de i v c H λa f=>gB a f λb e=>if b=ap then d a e (P a) else S a e:=sU (S:=S<|c.set i<|aa v) h
def fu(h:eY e g a b c d D Q):eY e g a b c d D Q:=h
section
variable{prog:bh}{w:ba}{A:cC}{E:Ω}{s:ax}
def agu{t f:ab}{k l:ae}{Q:Ω}(c:lW s.heap t a)(m:s.heap.IsSliceOf f k l .none)(n:rO k b)(o:rO l e)(hw:cO a.size 0 b=0/\cO a.size a.size e=a.size)(h:Q 6#t s):aF 4#0 A (qw 6#t<|.ref f) Q E s:=by
 let(p,g,i,q):=id m;let j:s.TypeIs 6#f "slice":=(p,g,i);let(x,r,u,y,v):=id c;ext qw;try with_reducible show ik ?_
 first|calc aO ?_|skip;
 calc ahk c.typeIs ξ ?_;show ao (pF (name:=mu "__getitem__") c.typeIs yp
 <|mY yp c.typeIs ajz ?_<|aj0 _ _)
 change aF _ _ (ajf 6#t >>= _) _ _ s;calc tupleItemsOf_ c ?_;calc x_ j ?_;rw[aw ξ];calc RO m n o ?_;let d:((((cO a.size 0 b:Nat):Int)==0&&(1:Int)==1&&(cO a.size a.size e-cO a.size 0 b)==a.size)=ap):=by
  rw[hw.1,hw.2];simp
 change aF _ _ (if(((cO a.size 0 b:Nat):Int)==0&&(1:Int)==1&&(cO a.size a.size e-cO a.size 0 b)==a.size)=ap then _ else _) _ _ s;rw[aw d];calc ?_;ext ani;calc x_ c.typeIs<|aO ?_;rw[aw ξ];calc pD ?_;show aO (_,O,aO h)
end
section
variable{X:bj}
inductive BP(x:ak)(lo:Option Int)(hi:Option Int)(H:ag)(Q:aR):Prop
 |b:∀a xs,(x=.ref a)->(H a=aa (.tup xs))->(∀p H',aM H H'->H' p=aa (.tup<|jO xs lo hi)->Q 6#p H')->BP x lo hi H Q
def NC:Cz X BP:=by
 rintro c s t H x v u w i j y Q I k l m n ⟨a,b,rfl,f,q⟩;cases e:cO b.length 0 i=0/\cO b.length b.length j=b.length;cases k;let(g,r,o,A):=I.q<|gr.q (K:=X.K) f;let d:g.toArray.size=b.length:=%[dk|r.length.symm]
 show("tuple",_,yp.lookup,o.typeIs,agu o l m n %[d|e] (.ref a,H,I,O,q a H (aM.refl H) ?_));rw[f];ext jO;rw[e.1,e.2,Lu,EU,eF<|aE _];show ND c s t H 6#a v u w i j y Q I k l m n (a,b,O,gr.q f,e,λp z=>q p _ (aM.q z) aI)
end
def RD:∀a b:Ζ,dj a b=ap->dj b a=aH
 |[],[],h=>O
 |[],_::_,h=>O
 |_::_,[],h=>by rw[RQ] at h;show bo h fQ
 |x::c,y::d,h=>by
  rw[pC] at h ⊢;cases e:x=y;rw[aw e] at h;rw[aw e.symm];show RD c d h;rw[ar e] at h;rw[ar (λz=>e z.symm)]
  have:=gP h;show dD ω
def RE:∀a b:Ζ,dj a b=aH->dj b a=aH->a=b
 |[],[],_,_=>O
 |[],_::_,h,_=>by rw[Ai] at h;show bo h ξ
 |_::_,[],_,h=>by rw[Ai] at h;show bo h ξ
 |x::d,y::f,h,c=>by
  rw[pC] at h c;cases e:x=y;rw[aw e] at h;rw[aw e.symm] at c;rw[e,RE d f h c];rw[ar e] at h;rw[ar (λz=>e z.symm)] at c
  have:=oT h;have:=oT c;lk
def RC:∀a b c:Ζ,dj b a=aH->dj c b=aH->dj c a=aH
 |[],b,c,_,_=>by cases c with
  |nil=>rfl
  |cons _ _=>rfl
 |_::_,[],c,h,_=>by rw[Ai] at h;show bo h ξ
 |_::_,_::_,[],_,h=>by rw[Ai] at h;show bo h ξ
 |x::g,y::i,z::j,h,d=>by
  rw[pC] at h d ⊢;cases e:y=x;rw[aw e] at h;cases f:z=y;rw[aw f] at d;rw[aw<|f.trans e];show RC g i j h d;rw[ar f] at d;rw[ar ω]
  have:=oT d;show dD ω
  rw[ar e] at h;let k:=oT h;cases f:z=y;rw[ar ω];show dD ω;rw[ar f] at d;let l:=oT d;rw[ar ω];show dD ω
def tQ(p:Ζ):Ζ:=(p.length:Int)::p
def vo(a b:Ζ):Bool:=!dj (tQ b) (tQ a)
def xV:vo a b=ap↔dj (tQ b) (tQ a)=aH:=by ext vo;simp
def bK(a:Ξ):Ξ:=(cr<|a.flatMap dr).mergeSort vo
def Ef(a:Ξ):(bK a).Perm (cr<|a.flatMap dr):=List.mergeSort_perm _ _
def RM(d:Ξ):(bK d).Pairwise (λa b=>vo a b=ap):=by
 show List.pairwise_mergeSort (λa b c e f=>?_) (λa b=>?_) _;rw[xV] at e f ⊢;show RC _ _ _ e f;rw[alu,xV,xV];cases h:dj (tQ b) (tQ a) with
 |false=>show .inl O
 |true=>show .inr<|RD _ _ h
def tP{x:Ζ}:x∈bK a↔x∈a.flatMap dr:=#v[(Ef a).mem_iff,pY]
def Rz(a:Ξ):(bK a).Nodup:=(Ef a).nodup_iff.mpr<|y_ _
def vq(a:Ξ):(bK a).length=(cr<|a.flatMap dr).length:=(Ef a).length_eq
def af3{l m:Ξ}(e:l.Perm m)(f:l.Pairwise (λa b=>vo a b=ap))(g:m.Pairwise (λa b=>vo a b=ap)):l=m:=by
 show Uk (λa b _ _ c d=>?_) f g e;rw[xV] at c d;have:=RE _ _ d c;unfold tQ at this;show(List.cons.inj this).2
def agj{c l:Ξ}(d:l.Perm (cr<|c.flatMap dr))(e:l.Pairwise (λa b=>dj ((b.length:Int)::b) ((a.length:Int)::a)=aH)):l=bK c:=
 af3 (d.trans (Ef c).symm) (e.imp λh=>xV.mpr h)<|RM c
def Eb:∀(n:Nat)(p q:Ζ),p.length=n->(q∈oz p↔q.Sublist p)
 |0,p,q,h=>by
  obtain rfl:=jv h;change q∈[[]]↔_;simp
 |n+1,p,q,h=>by
  obtain⟨r,x,rfl⟩:∃r x,p=r++[x]:=by
   obtain e|⟨r,x,e⟩:=List.eq_nil_or_concat p;rw[e] at h;cases h;show(r,x,#v[e,List.concat_eq_append])
  let a:r.length=n:=by simpa using h
  rw[Rr,fz,Eb n r q a,aW,List.sublist_append_iff];k_in;rintro(d|⟨y,f,rfl⟩);show(q,[],by simp,d,ako _);show(y,[x],O,(Eb n r y a).mp f,ald _);rintro⟨b,i,rfl,c,g⟩;cases g with
  |cons _ h=>
   obtain rfl:=akk.mp h;show .inl 5#c
  |cons_cons _ h=>
   obtain rfl:=akk.mp h;show .inr (b,(Eb n r b a).mpr c,O)
def kQ{p q:Ζ}:q∈dr p↔q≠[]/\q.Sublist p:=by
 let(t,e,b):=Rt p;let a:=Eb p.length p q O;rw[e] at a;ext dr;rw[e];change q∈t↔_;k_in;intro h;show(b q h,a.mp<|gF _ h);rintro⟨c,d⟩;obtain h|h:=ci.mp (a.mpr d);show bo h c;show h
def Ry{p q r:Ζ}(b:q∈dr p)(a:r∈dr q):r∈dr p:=by
 rw[kQ] at b a ⊢;show(a.1,a.2.trans b.2)
def Ae:∀p:Ζ,iA p=ap↔p.Pairwise (·<·)
 |[]=>by simp[iA]
 |[g]=>by simp[iA]
 |g::b::r=>by
  let f:=Ae<|b::r;rw[show iA (g::b::r)=(aJ (g<b)&&iA (b::r)) from O,lb,jx,f,kU (a:=g)];k_in;rintro⟨d,c⟩;show(λx e=>?_,c);obtain rfl|e:=ci.mp e;show d
  have:=(kU.mp c).1 x e
  lk;rintro⟨d,c⟩;show(d b fy,c)
def rE:kP p=ap↔p≠[]/\p.length<=5/\(∀x∈p,0<=x/\x<=99)/\p.Pairwise (·<·):=by
 ext kP;erw[lb,jx,lY,Ae];k_in;rintro⟨⟨⟨a,b⟩,c⟩,d⟩;show(λz=>by rw[z] at a;simp at a,b,c,d);rintro⟨a,b,c,d⟩;show(((?_,b),c),d);cases p with
 |nil=>show bo O a
 |cons _ _=>simp
def Rw{p q:Ζ}(h:kP p=ap)(a:q∈dr p):kP q=ap:=by
 rw[rE] at h ⊢;rw[kQ] at a;show(a.1,aL a.2.length_le h.2.1,λx b=>h.2.2.1 x<|a.2.subset b,h.2.2.2.sublist a.2)
def agd{a:Ξ}(c:a.Nodup)(d:∀p∈a,kP p=ap):RG a a.length:=by
 intro i p m e;show(λf=>?_,d p<|dL e);let(j,g):=qI.mp f;let(h,b):=dN.mp g;rw[gf] at h;let(k,l):=dN.mp e;have:=ui.mp c j i ω k ω;rw[List.getElem_take] at b;show this<|b.trans l.symm
def afz{a:Ξ}(b:a.length<=20)(c:a.Nodup)(d:∀p∈a,kP p=ap)(h:(cr<|a.flatMap dr).length<=200):gO a=ap:=by
 rw[af1 a b<|agd c d,cN h]
def vn(h:gO a=ap):a.length<=20/\(∀p∈a,kP p=ap)/\(∀p∈a,p.length<=5)/\(cr<|a.flatMap dr).length<=200:=by
 unfold gO at h;erw[lb,jx,lY] at h;obtain⟨⟨⟨d,e⟩,g⟩,f⟩:=h;let c:∀p∈a,kP p=ap:=λp b=>by rw[<-Rx];show e p b
 show(d,c,λp b=>(rE.mp<|c p b).2.1,f)
def ga(q:Ζ):Ξ:=if q.length=1 then [] else(aP q.length).map λk=>q.take k++q.drop (k+1)
def af6(q:Ζ):(ga q).length<=q.length:=by
 ext ga;split;show cJ _;simp
def Ec{p q:Ζ}:p∈ga q↔q.length≠1/\∃k,k<q.length/\p=q.take k++q.drop (k+1):=by
 ext ga;split
 next h=>simp[h]
 next h=>
  rw[aW];k_in;rintro⟨k,a,rfl⟩;show(h,k,bH.mp a,O);rintro⟨_,k,a,rfl⟩;show(k,bH.mpr a,O)
def xS:∀(o p:Ζ),o.Pairwise (·<·)->p.Pairwise (·<·)->(∀x∈p,x∈o)->p.Sublist o
 |[],p,_,_,h=>by
  cases p with
  |nil=>show anx
  |cons a r=>show bo (h a fy) 0#0
 |b::o,p,k,j,h=>by
  let(g,c):=kU.mp k;cases p with
  |nil=>show ako _
  |cons a r=>
   let(d,i):=kU.mp j;cases e:a=b;subst e;show(xS o r c i λx f=>?_).cons_cons a;obtain rfl|q:=ci.mp (h x<|gF _ f)
   have:=d x f;lk
   show q;let l:a∈o:=by
    obtain q|q:=ci.mp (h a fy);show bo q e;show q
   let m:=g a l;show(xS o (a::r) c j λx f=>?_).cons b;obtain q|q:=ci.mp (h x f);exfalso;obtain z|z:=ci.mp f;lk
   have:=d x z;lk
   show q
def af7{p q:Ζ}{k:Nat}(b:k<q.length)(h:p=q.take k++q.drop (k+1)):p.Sublist q/\p.length<q.length:=by
 subst h;show(?_,?_);let a:(q.take k++q.drop (k+1)).Sublist (q.take k++q.drop k):=(ald _).append (by
  rw[show q.drop (k+1)=(q.drop k).drop 1 by rw[List.drop_drop]];show ak8 _ _)
 rwa [yx] at a;rw[eE,gf,lX];lk
section
variable{X:bj}
inductive NP(x:ak)(vs:List ak)(H:ag)(Q:aR):Prop
 |a:∀d kvs k dv,(x=.ref d)->(vs=[dT k,dv])->(H d=aa (.a kvs))->(kvs.length<bE)->(((∃v,gR kvs k=aa v/\Q v H)\/(gR kvs k=ac/\Q dv (aN H d<|.a<|fo kvs k dv))))->NP x vs H Q
def Yc:CG X "dict.setdefault" NP:=by
 rintro n s R H x S W T Q I B C ⟨d,c,k,j,rfl,rfl,p,U,q⟩;cases B;let(u,r,rfl,D,t):=C.A3;let(z,w,f,a,y):=uJ I.a p;let E:f.length<=bE:=by rw[<-a.length];show z
 show Kd aiy y.typeIs PySem.F.entry_dict_setdefault (PySem.F.args_dict_setdefault_3 _ _ _) (kt_meets_setdefault (gh X.prog X.w) d (wV D) w r)
  (f,y,E,λV A=>?_,λG K g l=>?_)
 obtain⟨i,e,q⟩|⟨e,_⟩:=q;let(L,b,m):=re.q (v:=i) (o:=rK f k) (by rw[<-e];show a.val k);rw[A] at b;cases b;show(i,H,I.A0 _,m,q)
 have:=re.A0 (o:=rK f k) (by rw[<-e];show a.val k)
 rw[A] at this;cases this;obtain⟨i,e,q⟩|⟨e,q⟩:=q;let(L,b,ϟ):=re.q (v:=i) (o:=rK f k) (by rw[<-e];show a.val k);rw[G] at b;cases b;let M:∃q,K.get? d=aa q:=let ⟨q,_,_,N,_⟩:=g;(q,N);let P:(fo c k j).length<=bE:=by have:=B_ c k j;show à this U
 show(j,_,zv I %[p|xZ] l M<|OK P w (a.F k t) g,t,q)
def uE(v d:ab):eX:=.ext λh=>h.IsValuesView v d
inductive NL(x:ak)(vs:List ak)(H:ag)(Q:aR):Prop
 |a:∀d kvs,(x=.ref d)->(vs=[])->(H d=aa (.a kvs))->(∀v,H v=ac->Q 6#v (aN H v<|uE v d))->NL x vs H Q
def Ya:CG X "dict.values" NL:=by
 rintro a s t H x u v w Q I f g ⟨d,i,rfl,rfl,j,q⟩;cases f;obtain rfl:=g.zero;let(z,l,m,n,e):=uJ I.a j;show Kd aix e.typeIs PySem.F.entry_dict_values (PySem.F.args_dict_values_1 _) (meets_dict_values (gh X.prog X.w) d l) ((m,e),?_);show(.ref s⁻¹,_,I.J (t':=s.toks) (o:=uE s⁻¹ d) (λb y q=>bQ _ q) (aE _) ?_,O,q _<|I.a.q<|aE _);show((_,eB _ O,O,O),(_,eB _ O),λA B p k=>?_);let(o,r,c):=p;show(o,k o r,c)
def Zj(D:X.c=ap):lE X (.type "list") (λw H Q=>∃v d a,w=[.ref v]/\H v=aa (uE v d)/\H d=aa (.a a)/\∀l,H l=ac->Q 6#l (aN H l (.lst (a.map (·.2))))):=by
 rintro x s σ H w us Q I r ⟨v,d,a,rfl,E,G,q⟩;let(u,rfl,K):=kH r;cases K;let(z,y,L,c,j):=uJ I.a G;let(A,j):=j.dictAt;let M:=c.length;let n:s.heap.IsValuesView v d:=(show eW X.prog X.w H s.heap v (uE v d) from I.a v _ E).1;show SM (PySem.W.kdl_values (knd:=gh X.prog X.w) (kvs:=L) (ep:=A) (r:=v)) (I.b.a D) (n,j) (by rw[<-M];show z) λN tk f P R e S=>?_;let(T,U):=S;let W:cv (a.map (·.2)) f.toList:=by
  let o:∀{l:List (bi×ak)}{m:List (bi×ae)}{b:List ae},kh l m->b.length=m.length->(∀(i:Nat) v,b[i]?=aa v->∃k,m[i]?=aa (ahl k v))->cv (l.map (·.2)) b:=by
   intro l m b q;induction q generalizing b with
   |nil=>intro g _;cases b with
    |nil=>show .nil
    |cons _ _=>simp at g
   |@cons p q' ps qs Y t Z=>
    intro g B;cases b with
    |nil=>simp at g
    |cons v b=>
     let(k,C):=B 0 v O;erw[Ub,ud] at C;show .cons ?_ (Z 5#g λi v e=>by simpa using B (i+1) v 5#e);change cF p.2 v;have:=Y.2;rw[C] at this;show this
  show o c 5#T λi v e=>U i v 5#e
 show(.ref s⁻¹,_,I.J R (aE _) (show eW X.prog X.w _ N _ (.lst (a.map (·.2))) from(?_,f.toList,P,W,by simpa using e)),O,q _<|I.a.q<|aE _);simpa using z
def Ot:∀{l:List (bi×ak)}{m:List (bi×ae)}{i:Nat}{a:bi×ak},kh l m->l[i]?=aa a->∃w,m[i]?=aa w/\a.1=w.1/\cF a.2 w.2
 |_,_,0,_,.cons h _,e=>by cases e;show(_,O,h)
 |_,_,i+1,_,.cons _ t,e=>Ot (i:=i) t 5#e
def zE(d:ab)(o:bq)(a:List (bi×ak)):iN:=(λi H=>i<a.length/\H d=aa (.frz o<|.a a),λi H v c=>c=H/\∃b,a[i]?=aa b/\v=dT b.1,λi H=>i=a.length/\H d=aa (.frz o<|.a a))
def WY{K:aT}(d n:ab){o:bq}{a:List (bi×ak)}(W:o.ExactDict)(l:o.data=.dict f u)(q:f.size=a.length)(hk:∀(i:Nat)Y(r:i<f.size),a[i]?=aa Y->cF (dT Y.1) f[i].key):om P w K tg (zE d o a) [n] n (λi h=>h.IsKeyIter n d i f.size u) where
 f:=by simp
 a:=λi h g b p=>by
  let e:b=n:=by simpa using p
  subst e;let(o,e,c,dd):=g;show(o,e,λv z=>by rw[dd] at z;cases z)
 c:=λi h x g k=>by
  let(o,e,c):=g;show(o,k n 0#0 o e,c)
 d:=by
  intro X B C D Z i m s σ H E I y g G;subst B C D;let(L,M,f2,N,R,S):=y n 0#0;let(r,T):=G;let U:ku s.heap d f u:=(o,(show eW X.prog X.w H s.heap d (.frz o<|.a a) from I.a d _ T).1,W,l);let j:i<f.size:=%[q|r]
  show JJ g U j λx t sb=>?_;let I1:aK X m σ H {s with heap:=x}:=I.A1 (t':=s.toks) (λb o p e=>(sb.2 b p).trans e) L M N R S;let(oi,e1,e2,e3):=id t;let ek:a[i]?=aa a[i]:=bu r;show(_,O,uI (s:={s with heap:=x}) e1 e2 e3 ξ (dT a[i].1,H,I1,hk i _ j ek,(O,_,ek,O),t,λb p=>(y b p).1))
 done:=by
  intro X B C D Z i m s σ H E I y g G;subst B C D;let(L,M,f2,N,R,S):=y n 0#0;let(r,T):=G;let U:ku s.heap d f u:=(o,(show eW X.prog X.w H s.heap d (.frz o<|.a a) from I.a d _ T).1,W,l);let j:i=f.size:=%[q|r]
  subst j;show done (I.b.a Z) g U λx eb=>(O,I.A1 (t':=s.toks) (λb o p e=>eb b o p e) L M N R S)
 e:=λA i s Q E g h=>Sb g h
def YJ(c:bp):jP:=λe H R=>c e H λv b=>∃d a,v=.ref d/\b d=aa (.a a)/\∀o,R (zE d o a) (aN b d<|.frz o<|.a a)
def Oj{t:bp}(M:bY X l t):kK X L l (YJ t):=by
 intro a s u H R I h;show bO (M a s u H _ I h) λv c (x,w,y,N,P)=>?_;let(d,g,e,A,q):=P;subst e;cases N;let(z,B,C,j,D):=uJ y.a A;let(Q,S):=D.dictAt;let(o,k,m,E,f,Z,G,hn):=id S;let n:k.size=g.length:=by
  have:=G.length;rw[<-j.length] at this
  simpa using this
 let T:ku c.heap d k Q:=(o,m,E,f);show JI B T ?_;let p:aK X a u (aN w d<|.frz o<|.a g) c:=zv (t':=c.toks) y %[A|xZ] (Ks _ _) (o,m) (m,z,B,C,j,D);let r:aN w d (.frz o<|.a g) c⁻¹=ac:=p.a.q<|aE _;show(c⁻¹,[c⁻¹],_,_,_,O,p.F (t':=c.toks) λb o e=>bQ _ e,WY d _ E f n (λi kv U e=>?_),(_,eB _ O,O,O),λb V=>?_,q o);let(K,W,Y,ϟ):=Ot j e
 have:=(G.get? (e:=k[i]) (by simp[U])<|show C[i]?=aa (ahl K.1 K.2) from W).1;rw[Y];show GI this
 let e:b=c⁻¹:=by simpa using V
 subst e;show p.A2 (aE _) r
def OF{a:List (bi×ak)}{g:gK}{r:gJ}{D:nx}(c:Nat->aY->ag->Prop)(t:c 0 b H)(u:∀i b H,i<=a.length->c i b H->H d=aa (.frz o<|.a a))(v:∀i l b H,a[i]?=aa l->c i b H->g (dT l.1) b H λf n=>r {D with a:=c<|i+1,b:=c<|i+1,c:=D.a} f n)(w:∀b H,c a.length b H->D.a b H):∃W:Nat->Nat->aY->ag->Prop,(∃m,W 0 m b H)/\∀i m b H,W i m b H->
   ((zE d o a).b i H/\D.a b H)\/((zE d o a).a i H/\∃N:aY->ag->Prop,(∀h j,N h j->∃s,s<m/\W (i+1) s h j)/\∀x j,(zE d o a).c i H x j->g x b j λf n=>r {D with a:=N,b:=N,c:=D.a} f n):=by
 show(λi m b H=>m=a.length-i/\i<=a.length/\c i b H,(a.length,by simp,cJ _,t),?_);rintro i m b H ⟨rfl,z,p⟩;let q:=u i b H z p
 cases k:i<a.length
 show .inr ((k,q),c<|i+1,λh j A=>(a.length-(i+1),ω,O,k,A),λx j y=>?_)
 let(e,l,B,rfl):=y;subst e;show v i l b _ B p
 let e:i=a.length:=(û z (ô k))
 subst e;show .inl ((O,q),w b H p)
def Go{b:List (bi×ak)}(c:(b.map (·.1)).Nodup){k:bi}(h:(ahl k v)∈b):gR b k=aa v:=by
 ext gR;induction b with
 |nil=>cases h
 |cons a r g=>
  rw[fg,kD] at c;obtain e|e:=ci.mp h;subst e;simp;let d:a.1≠k:=λz=>c.1 %[z|akp (f:=(·.1)) e];rw[List.find?_cons_of_neg 5#d];show g c.2 e
def Gm{a:List (bi×ak)}{k:bi}(h:∀b∈a,b.1≠k):gR a k=ac:=by
 ext gR;rw[ak3.mpr λb c=>by simpa using h b c];rfl
end
section
variable{X:bj}
def zD(d:ab)(o:bq)(a:List (List bi×ak)):iN:=(λi H=>i<a.length/\H d=aa (.frz o<|.b a),λi H v e=>e=H/\∃c b,a[i]?=aa c/\v=.ref b/\H b=aa (.tup<|c.1.map dT),λi H=>i=a.length/\H d=aa (.frz o<|.b a))
def Ou:∀{l:List (List bi×ak)}{m:List (List bi×ab×ae)}{i:Nat}{a:List bi×ak},mh H l m->l[i]?=aa a->∃w,m[i]?=aa w/\H w.2.1=aa (.tup<|a.1.map dT)
 |_,_,0,_,.cons h _,e=>by cases e;show(_,O,h.2.1)
 |_,_,i+1,_,.cons _ t,e=>Ou (i:=i) t 5#e
def WV{K:aT}(d p:ab){o:bq}{a:List (List bi×ak)}(hx:o.ExactDict)(f:o.data=.dict g u)(r:g.size=a.length):om P w K tg (zD d o a) [p] p (λi h=>h.IsKeyIter p d i g.size u) where
 f:=by simp
 a:=λi h j b l=>by
  let e:b=p:=by simpa using l
  subst e;let(o,e,c,dd):=j;show(o,e,λv z=>by rw[dd] at z;cases z)
 c:=λi h x j k=>by
  let(o,e,c):=j;show(o,k p 0#0 o e,c)
 d:=by
  intro X C D G hc i n s σ H E I y j L;subst C D G;let(M,N,f2,R,S,T):=y p 0#0;let(B,U):=L;let(g0,z,hs,ys,W,o',a0,a1,h1,h2,h3,h4,h5):=(show eW X.prog X.w H s.heap d (.frz o<|.b a) from I.a d _ U);obtain rfl:o=o':=cX<|g0.symm.trans h1;let q:=f.symm.trans h3;injection q with q hep
  subst q;let Y:ku s.heap d g u:=(o,g0,hx,f);let m:i<g.size:=%[r|B]
  show JJ j Y m λx t sb=>?_;let I1:aK X n σ H {s with heap:=x}:=I.A1 (t':=s.toks) (λb o l e=>(sb.2 b l).trans e) M N R S T;let(oi,e1,e2,e3):=id t;let ek:a[i]?=aa a[i]:=bu B;let(w',ew,l):=Ou W ek;let Z:g.toList[i]?=aa g[i]:=by simp[m]
  rw[h4,ca,ew] at Z;erw[vU,ud] at Z;let gk:g[i].key=.ref w'.2.1:=by rw[<-Z];rfl
  show(_,O,uI (s:={s with heap:=x}) e1 e2 e3 ξ (.ref w'.2.1,H,I1,by rw[gk];rfl,(O,_,_,ek,O,l),t,λb l=>(y b l).1))
 done:=by
  intro X C D G hc i n s σ H E I y j L;subst C D G;let(M,N,f2,R,S,T):=y p 0#0;let(B,U):=L;let Y:ku s.heap d g u:=(o,(show eW X.prog X.w H s.heap d (.frz o<|.b a) from I.a d _ U).1,hx,f);let m:i=g.size:=%[r|B]
  subst m;show done (I.b.a hc) j Y λx eb=>(O,I.A1 (t':=s.toks) (λb o l e=>eb b o l e) M N R S T)
 e:=λA i s Q E j h=>Sb j h
def YH(f:bp):jP:=λg H R=>f g H λx e=>∃d a,x=.ref d/\lv e d (.b a)/\∀o c,c d=aa (.frz o<|.b a)->(∀b,b≠d->c b=e b)->R (zD d o a) c
def XG(T:bY X l P):kK X N l (YH P):=by
 intro c s y H R I h;show bO (T c s y H _ I h) λv f (x,m,A,U,V)=>?_;let(d,a,e,g,q):=V;subst e;cases U;let Q:∀(o:bq)(i:ag),aK X c y i f->i d=aa (.frz o<|.b a)->(∀b,b≠d->i b=m b)->aF 3#0 X.A (rL<|.ref d) (CB X c y N R) X.a f:=by
  intro o i r n p;let(W,z,B,C,j,Y,t,D,k,u,w,E,S):=(show eW X.prog X.w i f.heap d (.frz o<|.b a) from r.a d _ n);obtain rfl:o=Y:=cX<|W.symm.trans k;let G:t.size=a.length:=by
   have:=jy ah E;rw[aA,<-m_ j] at this
   simpa using this
  let Z:ku f.heap d t D:=(o,k,u,w);show JI B Z ?_;let K:i f⁻¹=ac:=r.a.q<|aE _;show(f⁻¹,[f⁻¹],_,_,_,O,r.F (t':=f.toks) λb o e=>bQ _ e,WV d _ u w G,(_,eB _ O,O,O),λb L=>?_,q o i n p);let e:b=f⁻¹:=by simpa using L
  subst e;show r.A2 (aE _) K
 obtain g|⟨o,g⟩:=g;let(z,B,C,j,o,t,D,k,u,w,E,S):=(show eW X.prog X.w m f.heap d (.b a) from A.a d _ g);let M:mh (aN m d<|.frz o<|.b a) a C:=mh.F j λb zs e=>%[bI (λzz=>by rw[zz,g] at e;cases e)|e]
 show Q o (aN m d<|.frz o<|.b a) (zv (ob:=.frz o<|.b a) (t':=f.toks) A %[g|xZ] (Ks _ _) (o,k) (k,z,B,C,M,o,t,D,k,u,w,E,S)) aI λb L=>bI L;show Q o m A g λ_ _=>O
def YR{a:List (List bi×ak)}{g:gK}{s:gJ}{D:nx}(f:Nat->aY->ag->Prop)(u:f 0 c H)(v:∀i c H,i<=a.length->f i c H->H d=aa (.frz o<|.b a))(w:∀i n b c H,a[i]?=aa n->H b=aa (.tup<|n.1.map dT)->f i c H->g 6#b c H λh r=>s {D with a:=f<|i+1,b:=f<|i+1,c:=D.a} h r)(z:∀c H,f a.length c H->D.a c H):∃W:Nat->Nat->aY->ag->Prop,(∃m,W 0 m c H)/\∀i m c H,W i m c H->
   ((zD d o a).b i H/\D.a c H)\/((zD d o a).a i H/\∃N:aY->ag->Prop,(∀j k,N j k->∃t,t<m/\W (i+1) t j k)/\∀x k,(zD d o a).c i H x k->g x c k λh r=>s {D with a:=N,b:=N,c:=D.a} h r):=by
 show(λi m c H=>m=a.length-i/\i<=a.length/\f i c H,(a.length,by simp,cJ _,u),?_);rintro i m c H ⟨rfl,A,p⟩;let q:=v i c H A p
 cases l:i<a.length
 show .inr ((l,q),f<|i+1,λj k B=>(a.length-(i+1),ω,O,l,B),λx k y=>?_)
 let(e,n,b,C,rfl,E):=y;subst e;show w i n b c _ C E p
 have:i=a.length:=(û A (ô l))
 subst this;show .inl ((O,q),z c H p)
end
def JK:mroOf (.type "dict")=cq [.type "dict",.type "object"]:=by rw[mroOf_type];kernel_rfl
def ahc:JX (.type "dict") "__new__"=cq (aa<|.builtin "dict.__new__"):=by rw[JW,Ke];kernel_rfl
def rH:TypeCalled "dict" "dict.__new__" "dict.__init__":=
 (δ,δ,(_,_,JK),madeBy_type JK ahc δ,δ,by rw[isSubtype_type];kernel_rfl,PySem.F.slot_dict_init)
def ag9(a:ae):checkTypeCall "dict" ([a],[])=cq ():=by kernel_rfl
def ahb(a:ae):Sy "dict.__new__" ([.type "dict",a],[])=cq ():=by kernel_rfl
def ahd:entryFor table "dict.__new__"=aa Builtin.«dict.__new__»:=ah6 (by kernel_rfl)
def RX:plainId "dict.__new__"=ap:=δ
def aha:isSubtype (.type "dict") (.type "dict")=cq ap:=by rw[isSubtype_type];kernel_rfl
section
variable{prog:bh}{w:ba}{A:cC}{E:Ω}{s:ax}
def ahe(j:ae){Q₁:Ω}(h:Q₁ (.ref s⁻¹) {s with heap:=s.heap.push {cls:=.type "dict",data:=.dict #[]}}):ky 4#0 A (.call (.builtin "dict.__new__") ([.type "dict",j],[])) (En Q₁ E) s:=by
 show Kc<|show aF _ A.in1 (do Sy "dict.__new__" ([.type "dict",j],[]);again (.builtin "dict.__new__" ([.type "dict",j],[]))) _ _ s from ao (rI (ahb j)<|aO (nH RX _,kR ahd ?_));rw[mw RX _];unfold Builtin.«dict.__new__»;let b:=aha;let c:=JK;let(e,g,d,f,i):=s;k_ne;calc rI (a:=ap) O ?_;erw[wg,fh,dX];calc rI b ?_;erw[wg,fh,dX];calc rI c ?_;rw[ar ξ];calc pE ?_;show aO h
end
section
variable{prog:bh}{w:ba}{A:cC}{E:Ω}{s:ax}
def ag5:JX (.type "list") "keys"=cq ac:=by rw[JW,Ke];kernel_rfl
def ag7{k:Nat}{Q:Option ae->ax->Prop}(m:s.heap.get? a=aa o)(n:o.cls=.type "list")(b:o.data=.seq l k)(p:o.dict=ac)(t:A.handled=ac)(h:∀j q e,Heap.NewExcOf s.heap j e "AttributeError"->Q ac {s with heap:=j,toks:=q}):aF 4#0 A (getAttr? 6#a "keys") Q E s:=by
 let(c,u,v,x):=o;simp only at n b p;subst n b p;let(y,g,d,q,z):=s;let r:∀f,((y,g,d,f,z):ax).TypeIs 6#a "list":=λ_=>(_,m,O);let B:=sub_AttributeError;let C:=SY.lookup;let D:=SY.bind<|.ref a;let G:=am_list_getattr_none;unfold getAttr? getAttrBy? getAttrBy;repeat(any_goals(first|assumption|show r _|((with_reducible change aF _ _ (kz (e_ "list.__getattribute__") _ _) _ _ _);show tS SY (r _) am_entry_list_getattribute (F.args_list_getattribute_2 _ _) (meets_getattribute_miss_list a l k x "keys" _ ag5 ξ (by size_fits)) (m,t,λj f e i=>?_))|wp_step))
 let(H,I,K):=i.there;change aF _ _ (ah4 _ _ _ _ _ _ _) _ _ _;ext ah4;repeat(any_goals(first|assumption|wp_step))
 show h _ _ _ i.of
def RV:entryFor table "dict.update.loop"=aa Builtin.«dict.update.loop»:=ah6 (by kernel_rfl)
def Eh:plainId "dict.update.loop"=ap:=δ
abbrev ag6(D I:ab)(i:Int):Code:=.builtin "dict.update.loop" ([.ref D,.ref I,iV i,.none],[])
variable{K:Type}[DecidableEq K]{knd:tW prog w K}
abbrev xX(K:Type):Type:=ab×List K×ab×ae
def xY(knd:tW prog w K)(h:aX)(x:xX K):Prop:=h.IsTuple x.1 #[.ref x.2.2.1,x.2.2.2]/\gE knd h x.2.1 x.2.2.1
def Ak(b:List (List K×ab×ae))(c:List (xX K)):List (List K×ab×ae):=c.foldl (λa x=>Es a x.2.1 x.2.2.1 x.2.2.2) b
def RU{h m:aX}{o:bq}(g:xY knd h x)(q:∃o,h.get? D=aa o/\o.cls=.type "dict")(r:∃o,h.get? I=aa o/\o.cls=.type "list_iterator")(p:∀b o,b≠D->b≠I->h.get? b=aa o->m.get? b=aa o):xY knd m x:=by
 obtain⟨⟨s,f,i,t⟩,u,v,n,j,k,w⟩:=g;let(E,y,A):=q;let(G,B,C):=r;let c:∀{a:ab}{l:bq},h.get? a=aa l->l.cls=.type "tuple"->a≠D/\a≠I:=λ{a l} d e=>by
  show(λz=>?_,λz=>?_);rw[z,y] at d;rw[<-cX d,A] at e;show bo e ξ;rw[z,B] at d;rw[<-cX d,C] at e;show bo e ξ
 show((s,p _ _ (c f i).1 (c f i).2 f,i,t),u,v,n,p _ _ (c j k).1 (c j k).2 j,k,w)
def RW{h g:aX}{D I:ab}{i:List (List K×ab×ae)}(d:h.DictOfH (nG knd) D i)(a:D≠I)(k:∃o,h.get? I=aa o/\o.cls=.type "list_iterator")(j:∀b o,b≠I->h.get? b=aa o->g.get? b=aa o):g.DictOfH (nG knd) D i:=by
 let(o,l,m,p,q,r,s,c,t):=d;let(C,u,v):=k;show(o,l,m,j _ _ a p,q,r,s,λx w=>?_,t);let(y,A,n,e,f,B):=c x w;show(y,A,n,j _ _ (λz=>?_) e,f,B);rw[z,u] at e;rw[<-cX e,v] at f;show bo f ξ
def ag4{t:ab}{Q:List ae->ax->Prop}(c:s.heap.IsTuple t a)(h:Q a.toList s):aF 4#0 A (ajp<|.ref t) Q E s:=by
 let(o,b,d,n,e):=c;ext ajp;calc x_ (show s.TypeIs 6#t "tuple" from(o,b,d)) ?_;rw[aw ξ];show ao<|js b e<|aO h
def ag3(b:List (List K×ab×ae))(k:List K)(a:ab)(v:ae):(Es b k a v).length<=b.length+1:=by
 ext Es;split;rw[aA];show ü;rw[eE];simp
def RT{D I L:ab}{ts:List (xX K)}{R:vK->ax->Prop}(P:A.handled=ac)(hu:A.units+1<eJ)(g:D≠I)(p:L≠D)(h:L≠I):∀(k j:Nat)(s:ax)(i:List (List K×ab×ae)),ts.length-j=k->j<=ts.length->s.heap.IsListIter I L j->s.heap.IsList L (ts.map λx=>aj x.1).toArray->(∀x∈ts,xY knd s.heap x)->
   s.heap.DictOfH (nG knd) D i->i.length+k<=bE->
   (∀l n,l.DictOfH (nG knd) D (Ak i<|ts.drop j)->(∀b o,b≠D->b≠I->s.heap.get? b=aa o->l.get? b=aa o)->R (.ok<|.ret .none) {s with heap:=l,toks:=n})->
   ky 4#0 A (ag6 D I j) R s
 |0,j,s,i,hk,hj,d,Q,G,H,hz,S=>by
  let hn:j=ts.length:=ω;subst hn;let W:=Av (prog:=prog) (w:=w) (A:=A.in1) P I L h (ts.map λx=>aj x.1).toArray;show kR RV ?_;rw[mw Eh _];unfold Builtin.«dict.update.loop»;dsimp only[iV];calc W.done s _ _ (by simpa using d,Q) λl n q=>?_;k_ne;ext ant;calc rI (a:=()) O ?_;let(m,r,t,ϟ):=d;show aO<|S l n ?_ λb o _ c e=>q b o 5#c e;rw[ala];show RW H g (m,r,t) λb o c e=>q b o 5#c e
 |k+1,j,s,i,hk,hj,d,Q,G,H,hz,S=>by
  let W:=Av (prog:=prog) (w:=w) (A:=A.in1) P I L h (ts.map λx=>aj x.1).toArray;let f:j<ts.length:=ω;show kR RV ?_;rw[mw Eh _];unfold Builtin.«dict.update.loop»;dsimp only[iV];calc W.item j s _ _ 5#f (d,Q) λv u n hv y q=>?_;let T:v=.ref (ts[j]).1:=by
   have:(ts.map λx=>aj x.1).toArray[j]?=aa (aj (ts[j]).1):=by simp[f]
   show cX<|hv.symm.trans this
  subst T;let a3:=G ts[j]<|dW f;let(m,r,t,ϟ):=id d;let z:∃o,s.heap.get? D=aa o/\o.cls=.type "dict":=by
   let(o,es,ep,ho,hc,ϟ):=H;show(o,ho,hc.1)
  let B:∀b o,b≠D->b≠I->s.heap.get? b=aa o->u.get? b=aa o:=λb o _ c e=>q b o 5#c e;let U:∀x∈ts,xY knd u x:=λx V=>RU (o:=m) (G x V) z (m,r,t) B;let X:u.DictOfH (nG knd) D i:=RW H g (m,r,t) λb o c e=>q b o 5#c e;let(gt,gk):=U ts[j]<|dW f;k_ne;calc ik<|ao<|Am<|ag4 (s:={s with heap:=u,toks:=n}) gt ?_;k_ne;show ik<|wpAny_dictSet_heap (knd:=nG knd) (s:={s with heap:=u,toks:=n}) (hsz:=(è hz)) (Eo hu) gk X λM Y Z=>?_;let C:∀b o,b≠D->b≠I->s.heap.get? b=aa o->M.get? b=aa o:=λb o c N e=>%[Z.2 b c|B b o c N e]
  let E:M.IsListIter I L (j+1):=y.1.at λo e=>%[Z.2 I<|cQ g|e]
  let a0:M.IsList L (ts.map λx=>aj x.1).toArray:=y.2.at λo e=>%[Z.2 L p|e]
  show aO (nH Eh _,?_);show RT P hu g p h k (j+1) {s with heap:=M,toks:=_} _ ω f E a0 (λx V=>RU (o:=m) (G x V) z (m,r,t) C) Y (by have:=ag3 i (ts[j]).2.1 (ts[j]).2.2.1 (ts[j]).2.2.2;lk) λl a1 a2 k3=>S l a1 ?_ λb o c N e=>k3 b o c N<|C b o c N e;rw[AY f];show a2
end
section
variable{prog:bh}{w:ba}{A:cC}{E:Ω}{s:ax}{K:Type}[DecidableEq K]{knd:tW prog w K}
def ag8{n:Nat}{ts:List (xX K)}{Q:Ω}(hh:A.handled=ac)(hu:A.units+2<eJ)(ho:s.heap.get? L=aa o)(N:o.cls=.type "list")(k:o.data=.seq (ts.map λx=>aj x.1).toArray n)(P:o.dict=ac)(hg:∀x∈ts,xY knd s.heap x)(hz:ts.length<=bE)(h:∀g S,g.DictOfH (nG knd) s⁻¹ (Ak [] ts)->(∀b o,b<s⁻¹->s.heap.get? b=aa o->g.get? b=aa o)->Q (.ref s⁻¹) {s with heap:=g,toks:=S}):aF 4#0 A (kz (.type "dict") [.ref L]) Q E s:=by
 let(c,tl,a0):=rH.mro;let T:=rH.made;let a1:=rH.sub;show JV<|Kc ?_;change aF _ _ (callAny (.type "dict") _) _ _ _;show aO (ajb _ δ,kR ai2 ?_);rw[ajq (ahy "dict" [.ref L] []) O];let h1:=rH.notType;let i:=rH.canCreate;let a2:=ag9<|.ref L;repeat(any_goals(first|assumption|wp_step))
 show tR (ahe 6#L (E:=E) (Q₁:=λv l=>v=.ref s⁻¹/\l={s with heap:=s.heap.push {cls:=.type "dict",data:=.dict #[]}}) (O,O)) λr l U=>?_;cases r with
 |error e=>show U
 |ok fl=>
  cases fl with
  |ret v=>
   let(rfl,rfl):=U;have hS:(s.heap.push {cls:=.type "dict",data:=.dict #[]}).get? s⁻¹=aa {cls:=.type "dict",data:=.dict #[]}:=eB _ O;have y:Ay {s with heap:=s.heap.push {cls:=.type "dict",data:=.dict #[]}} (.ref s⁻¹) "dict":=(_,hS,O);have a3:=rH.init.lookup;have a4:=rH.init.bind<|.ref s⁻¹;repeat(any_goals(first|assumption|wp_step))
   show tR (ah8 (R:=En (λr p=>r=.none/\∃g S,p={s with heap:=g,toks:=S}/\g.DictOfH (nG knd) s⁻¹ (Ak [] ts)/\
     (∀b o,b<s⁻¹->s.heap.get? b=aa o->g.get? b=aa o)) E) rH.init.plain F.entry_dict_init<|rH.init.check _ _ _ _ _ _ _ _ y (F.args_dict_init_2 _ _) ?_) λz p a=>?_
   let B:L<s⁻¹:=cG ho;let q:(s.heap.push {cls:=.type "dict",data:=.dict #[]}).get? L=aa o:=bQ _ ho;let V:Ay {s with heap:=s.heap.push {cls:=.type "dict",data:=.dict #[]}} 6#L "list":=(o,q,N);unfold Builtin.«dict.__init__»;calc ?_;ext anr;calc ahq y ?_;calc show aF _ _ (cq s⁻¹) _ _ _ from aO ?_;show aO ?_;change aF _ _ (ajn "dict.__init__" "dict" s⁻¹ [aj L] []) _ _ _;ext ajn anq;k_ne;calc x_ V ?_;rw[aw ξ];calc ag7 (s:={s with heap:=s.heap.push {cls:=.type "dict",data:=.dict #[]}}) q N k P hh λi C e2 W=>?_;rw[aw (by rfl)];calc pD ?_;let G:i.IsList L (ts.map λx=>aj x.1).toArray:=(o,W.keeps _ _ q,N,n,k);calc vy (s:={s with heap:=i,toks:=C}) G ?_;let H:i.get? s⁻¹=aa {cls:=.type "dict",data:=.dict #[]}:=W.keeps _ _ hS;let t:s⁻¹<i.objs.size:=cG H;let d:∀b j,i.get? b=aa j->(i.push {cls:=.type "list_iterator",data:=.fields #[.ref L,.int 0 0]}).get? b=aa j:=λb j e=>bQ _ e;let f:∀b j,s.heap.get? b=aa j->(i.push {cls:=.type "list_iterator",data:=.fields #[.ref L,.int 0 0]}).get? b=aa j:=λb j e=>d _ _<|W.keeps _ _<|bQ _ e;show aO (nH Eh _,?_);show RT (knd:=knd) (ts:=ts) (L:=L) (D:=s⁻¹) (I:=i.objs.size) (by show hh) (by first|show hu|(change A.units+1<cLine;lk)) (cP t) (cP B) (cP<|uh B t) ts.length 0 {s with heap:=i.push {cls:=.type "list_iterator",data:=.fields #[.ref L,.int 0 0]},toks:=C} [] ω (cJ _)
    (_,eB _ O,O,O) (G.at λj e=>d _ _ e) (λx X=>?_) (_,#[],0,d _ _ H,(O,O,O),O,O,(λx X=>nomatch X),pK) 5#hz λg M dd k3=>(O,g,M,O,dd,λb j hb e=>k3 b j (cP hb) (cP<|uh hb t)<|f _ _ e)
   obtain⟨⟨o1,e1,c1⟩,o2,it,m,e2,c2⟩:=hg x X;show((o1,f _ _ e1,c1),o2,it,m,f _ _ e2,c2)
   ·cases z with
    |error e=>show a
    |ok u=>
     cases u with
     |ret r=>
      let(rfl,g,M,rfl,Y,Z):=a;repeat(any_goals(first|assumption|wp_step))
      show h _ _ Y Z
     |_=>show a.elim
  |_=>show U.elim
end
def zu(a:List (List bi×ak)):List (List bi×ak):=a.foldl (λb c=>fo b c.1 c.2) []
section
variable{X:bj}
def OH:∀(c a:List (List bi×ak)),(c.foldl (λa b=>fo a b.1 b.2) a).length<=a.length+c.length
 |[],a=>by simp
 |b::r,a=>by
  rw[sj];let d:=OH r<|fo a b.1 b.2;let e:=B_ a b.1 b.2;rw[dI];lk
def Zo(P:X.c=ap)(hu:X.A.units+64<eJ):lE X (.type "dict") (λE H Q=>∃(l:ab)(f:List ab)(a:List (List bi×ak)),E=[.ref l]/\bJ X.K H l (f.map ak.ref)/\
  gD (λt(d:List bi×ak)=>∃b,H t=aa (.tup [.ref b,d.2])/\H b=aa (.tup<|d.1.map dT)) f a/\∀D,H D=ac->Q 6#D (aN H D<|.b<|zu a)):=by
 rintro G s σ H E us Q I r ⟨l,f,a,rfl,R,L,q⟩;let(u,rfl,S):=kH r;cases S;obtain⟨i,T,⟨o,n,U,W,Y,Z⟩,hz⟩:=I.list R;obtain rfl:=zd T;let hl:=m_ L;let w:∀{f:List ab}{a:List (List bi×ak)},gD (λt(d:List bi×ak)=>∃b,H t=aa (.tup [.ref b,d.2])/\H b=aa (.tup<|d.1.map dT)) f a->
   ∃g:List (xX bi),g.map (λx=>aj x.1)=f.map aj/\(∀x∈g,xY (gh X.prog X.w) s.heap x)/\∀c(j:List (List bi×ab×ae)),mh H c j->mh H (a.foldl (λc d=>fo c d.1 d.2) c) (Ak j g):=by
  intro f a z
  induction z with
  |nil=>show([],O,(λx m=>nomatch m),λc j k=>k)
  |@cons t d f a hh t' ih=>
   let(g,p,y,A):=ih;let(b,ht,M):=hh;let(i,ri,pi,ϟ):=I.q<|gr.q (K:=X.K) ht;obtain⟨vs,e2,rv⟩:∃v,i=[.ref b,v]/\cF d.2 v:=by
    cases ri with
    |cons ra rb=>
     cases rb with
     |cons rc rd=>
      cases rd;cases ra;show(_,O,rc)
   subst e2;show((ahl t (ahl d.1 (ahl b vs)))::g,#v[fg,fg,p],λx m=>?_,λc j k=>?_);obtain rfl|m:=ci.mp m;show(pi,wS I.a M);show y x m;show A _ _<|k.J d.1 M rv
 let(g,p,y,A):=w L;let a0:g.length=a.length:=by
  have:=jy ah p;rw[aA,aA] at this;show û (à (å this) (å hl)) (à (æ hl) (æ this))
 rw[aA] at hz;show ag8 (knd:=gh X.prog X.w) (ts:=g) (n:=n) (I.b.a P) ω U W %[p|Z] Y y (à (à (å a0) (æ hl)) hz) λh' tk dd kk=>?_;let B:=A [] [] .nil;let N:H s⁻¹=ac:=I.a.q<|aE _;let(q',es,ep,C,h2,h3,h4,h6,h5):=dd;show(.ref s⁻¹,_,I.J (o:=.b<|zu a) (λb u e=>kk b u (cG e) e) (aE _) (?_,?_,Ak [] g,B.F λb j e=>?_,q',es,ep,C,h2,h3,h4,h5),O,q _ N)
 have:=OH a []
 ext zu;simp at this;show à (à this (æ hl)) hz
 show beq_eq_false_iff_ne.mpr<|jJ I.B9
 rw[bI<|dn e N];show e
end
def lv.F(r:lv H a u)(s:aM H b):lv b a u:=by
 obtain r|⟨o,r⟩:=r;show .inl<|s _ _ r;show .inr (o,s _ _ r)
section
variable{prog:bh}{w:ba}{A:cC}{E:Ω}{s:ax}{it d v:ab}{i ep:Nat}{es:Array qB}
def RS{Q:Option bq->ax->Prop}(h:Q (s.heap.get? a) s):aF 4#0 A (loadIfAlive a) Q E s:=λ_ _ _=>h
end
section
variable{X:bj}{pins:Ψ}{σ:aY}{H:ag}{s:ax}
def Pj:∀(a:List (ab×List ak))(H:ag),aK X pins σ H s->(a.map (·.1)).Nodup->(∀r∈a,iO X pins H r.1/\X.e⁻¹<=r.1/\r.2.length<=bE/\∃b:List ae,cv r.2 b/\lW s.heap r.1 b.toArray)->
  ∃f,aK X pins σ f s/\aM H f/\∀r∈a,f r.1=aa (.tup r.2)
 |[],H,I,_,_=>(H,I,aM.refl _,λr k=>nomatch k)
 |r::c,H,I,l,h=>by
  obtain⟨⟨i,m,E,G,n,p⟩,t,u,b,v,w⟩:=h r fy;let d:(r.1::c.map (·.1)).Nodup:=l;rw[kD] at d;let x:=I.C3 (o:=.tup r.2) i t m n p (u,b,v,w);let z:=aM.q (o:=.tup r.2) i;let(f,A,j,g):=Pj c (aN H r.1<|.tup r.2) x d.2 λq e=>by
   obtain⟨⟨B,C⟩,D⟩:=h q<|gF _ e;show((?_,C),D);rw[bI (λy=>d.1 (by rw[<-y];show aW.mpr (q,e,O)))];show B
  show(f,A,z.trans j,λq e=>?_);obtain rfl|e:=ci.mp e;show j _ _ aI;show g q e
end
section
variable{X:bj}{scope:jH}{N':List aB}{caps:List (Option Nat)}{tg iter elt:bG}{ifs:List bG}{wi:jP}{g:gK}{tc:fV}{te:bp}{pos:dt}
def XB{i:Nat}{x:aB}{d r:dt}(K:X.c=ap)(Y:scope.kind=.function)(w:∀y∈scope.names,y.2≠.cell)(l:∀y∈scope.names,y.2=.local->scope.names.lookup y.1=aa .local)(M:∀y∈scope.names,y.2=.free->X.env.kindOf y.1=aa .cell\/X.env.kindOf y.1=aa .free)(A:CM X.N N' caps scope)(Z:kK X tg iter wi)(hg:∀B C j k E,ot (iy X scope N' B C j k E) tg g)(ht:∀B C j k E,tp (iy X scope N' B C j k E) ifs tc)(he:∀B C j k E,bY (iy X scope N' B C j k E) elt te)(hs:∀x,At iter X.env x=cq x)(hN:X.N.Nodup)(N:X.N[i]?=aa x)(t:xg X.env.scope x)(hf:X.i x=ap\/X.env.scope.names.lookup x=aa .local)(P:Ep (.ListComp elt [(tg,iter,ifs,0)] scope pos) (aa<|.Name x d) r.line X.env=cq ap):oq X (.Assign [.Name x d] (.ListComp elt [(tg,iter,ifs,0)] scope pos) r) (BM (zh wi caps g tc te)<|de i):=by
 intro G s σ H D I h;rw[exec_Assign_Name_used _ _ _ _ P];calc R_<|ao ?_;change aF _ X.A (do let _ <-comprehension (.ListComp elt [(tg,iter,ifs,0)] scope pos) scope X.env _ (newList []) (firstAsync [(tg,iter,ifs,0)]) (firstIter [(tg,iter,ifs,0)] X.env) (aa<|yh (.Name x d) X.env)) _ _ s;calc lN (OU (use:=aa<|yh (.Name x d) X.env) (R:=λ_ s'=>zA X G D .next s') K Y w l M A Z hg ht he hs I h λV C H' W f L q=>?_) (λ_ s' hq=>aO<|aO hq) λ_ _ e=>e;change aF _ X.A (yh (.Name x d) X.env<|.ref V) _ _ W;show ahw<|NA (v:=.ref V) (L.d W.heap<|Ks _ _) hN N t O (λs5 Q (a,S,ha)=>?_) hf;let T:C≠a:=by
  obtain e|e:=ha;rw[e];show L.a;show λz=>L.b x a e z.symm
 let(m,hn):=L.ns;show(m,hn.sameBut S T,λh' p=>(_,H',?_,q));show Q.C0 (s':={s5 with heap:=h'}) (ch:=[C]) O (λb o q n U t=>?_,λb o q n U t=>?_,λb o q n t=>n,λb o q t=>?_,λb xs q=>q,λb o u q=>q,λb ps q=>(#[],by simpa using q)) ?_ Q.g λb U=>?_;show(p.2 b 5#t).trans q;show(o.slots,(p.2 b 5#t).trans q);show(o,(p.2 b 5#t).trans q);intro b u e;show(Q.a b u e).F (λc v K q=>(p.2 c ?_).trans q) (λ_ q=>q) λ_ _ q=>q;rintro rfl;obtain z|z:=K;rw[<-z,L.e] at e;cases e;rw[L.e] at z;cases z;let e:b=C:=by simpa using U
 subst e;show(.inr L.g,L.a,L.b,L.f)
end
section
variable{X:bj}{scope:jH}{caps:List (Option Nat)}{tg iter elt:bG}{ifs:List bG}{wi:jP}{g:gK}{tc:fV}{te:bp}{pos:dt}
def BV{i:Nat}{d e:dt}(m:X.N.Nodup)(n:X.N[i]?=aa x)(p:xg X.env.scope x)(N l:List aB)(caps:List (Option Nat))(q:kK X tg iter wi)(r:∀h C a b j,ot (iy X scope l h C a b j) tg g)(s:∀h C a b j,tp (iy X scope l h C a b j) ifs tc)(t:∀h C a b j,bY (iy X scope l h C a b j) elt te)(u:X.c=ap:=by rfl)(v:scope.kind=.function:=by rfl)(f:∀y∈scope.names,y.2≠.cell:=by decide +kernel)(c:∀y∈scope.names,y.2=.local->scope.names.lookup y.1=aa .local:=by decide +kernel)(hfr:∀y∈scope.names,y.2=.free->X.env.kindOf y.1=aa .cell\/X.env.kindOf y.1=aa .free)(w:X.N=N:=by rfl)(k:Cj N l caps scope=ap:=by decide +kernel)(z:∀x,At iter X.env x=cq x:=by intro _;rfl)(A:X.i x=ap\/X.env.scope.names.lookup x=aa .local:=by first|show .inl rfl|show .inr rfl|assumption)(o:Ep (.ListComp elt [(tg,iter,ifs,0)] scope pos) (aa<|.Name x d) e.line X.env=cq ap:=by rfl):oq X (.Assign [.Name x d] (.ListComp elt [(tg,iter,ifs,0)] scope pos) e) (BM (zh wi caps g tc te)<|de i):=
 XB u v f c hfr (OX %[w|k]) q r s t z m n p A o
end
def rf(K:aT)(c d:ab):iN:=
 (λi H=>∃a b,bJ K H c a/\bJ K H d b/\i<dy a.length b.length,
  λi H v e=>∃p x y,v=.ref p/\H p=ac/\e=aN H p (.tup [x,y])/\(∀a,bJ K H c a->a[i]?=aa x)/\∀b,bJ K H d b->b[i]?=aa y,
  λi H=>∃a b,bJ K H c a/\bJ K H d b/\i=dy a.length b.length)
def WP{K:aT}{k:Nat}(M N z r m c d:ab)(hd:r≠z/\m≠z/\r≠m/\r≠c/\r≠d/\z≠c/\z≠d/\m≠c/\m≠d/\c≠d):om P w K (.Tuple L k a7) (rf K M N) [z,r,m,c,d] z (λi h=>jU h z r m .none/\fG h r 6#c 6#d/\(∃a b,fG h m a b)/\h.IsListIter c M i/\h.IsListIter d N i):=by
 let(d1,d2,d3,d4,d5,d6,d7,d8,d9,R):=hd;show Gt (wr:=[z,m,c,d]) 0#0 (λi h l b t=>?_) (λi h h' l S=>?_) (λb t=>?_) (λX hP hw hK hc i b2 s σ H I hf l a8=>?_) λA i s Q E l h=>Ao l.1 h;obtain⟨T,U,⟨a,b',V⟩,⟨o4,W,_,e4⟩,⟨o5,Y,_,e5⟩⟩:=l;simp at t;obtain rfl|rfl|rfl|rfl|rfl:=t;show(_,T,λv z=>by cases z);show(_,U,λv z=>by cases z);show(_,V,λv z=>by cases z);show(_,W,λv z=>by rw[e4] at z;cases z);show(_,Y,λv z=>by rw[e5] at z;cases z);obtain⟨T,U,⟨a,b',V⟩,W,Y⟩:=l;show(S z 0#0 _ T,S r 0#0 _ U,(a,b',S m 0#0 _ V),W.at λo e=>S c 0#0 o e,Y.at λo e=>S d 0#0 o e);simp at t ⊢;obtain rfl|rfl|rfl|rfl:=t<;>simp;subst hP hw hK;let hd:∃D G,bJ X.K H M D/\bJ X.K H N G:=by
  obtain⟨D,G,a,b,_⟩|⟨D,G,a,b,_⟩:=a8;show(D,G,a,b);show(D,G,a,b)
 let(D,G,Z,q2):=hd;let(us,r1,p1,ϟ):=I.list Z;let(ws,r2,p2,ϟ):=I.list q2;let a0:=r1.length;let a6:=r2.length;let hh:=I.b.a hc;let(T,U,V,W,Y):=l;let f:=λb t=>GJ I (hf b t) Z;let f':=λb t=>GJ I (hf b t) q2;let AP:yG z r m c d [c,M] [d,N]:=by
  show(?_,?_,?_,?_,by simp,by simp,?_,?_,d1,d2,d3,d4,d5);simp;show(d6,(f z 0#0).symm);simp;show(d7,(f' z 0#0).symm);simp;show(d8,(f m 0#0).symm);simp;show(d9,(f' m 0#0).symm);simp;show(R,(f' c 0#0).symm);simp;show(R.symm,(f d 0#0).symm)
 let WZ:=LP (prog:=X.prog) (w:=X.w) (A:=X.A) (Tl (A:=X.A.in1) hh c M (f c 0#0) us.toArray) (Tl (A:=X.A.in1) hh d N (f' d 0#0) ws.toArray) AP;show(_,_,_,_,_,WZ,(T,U,V,(W,p1.isList),(Y,p2.isList)),λj h l=>(l.1,l.2.1,l.2.2.1,l.2.2.2.1.1,l.2.2.2.2.1),λg=>?_,λg=>?_);let(n,q,B,C,hi):=g;let e1:=I.A3 B Z;let e2:=I.A3 C q2;subst e1 e2;show(by simpa[<-a0,<-a6] using hi,λb3 hp=>?_);let(x,y,px,py,rfl):=hp;let a9:us[i]?=aa x:=by simpa using px
 let b0:ws[i]?=aa y:=by simpa using py
 let lx:i<n.length:=by lia
 let ly:i<q.length:=by lia
 let gx:n[i]?=aa n[i]:=by simp[lx]
 let gy:q[i]?=aa q[i]:=by simp[ly]
 let(u,e3,ru):=r1.q gx;let(u',e4,b1):=r2.q gy;rw[a9] at e3;cases e3;rw[b0] at e4;cases e4;show([n[i],q[i]],.cons ru<|.cons b1 .nil,Gs,λp hp=>(p,_,_,O,hp,O,λzs hz=>?_,λzs hz=>?_));rw[I.A3 hz Z];show gx;rw[I.A3 hz q2];show gy;let(n,q,B,C,hi):=g;let e1:=I.A3 B Z;let e2:=I.A3 C q2;subst e1 e2;simpa[<-a0,<-a6] using hi
def No(b f:ab)(m n:Array ae):Meets (Builtin.«zip.__new__» ([.type "zip",.ref b,.ref f],[])) (λ_ R s=>s.heap.IsList b m/\s.heap.IsList f n/\
   ∀a,jU a (s⁻¹+4) (s⁻¹+2) (s⁻¹+3) .none->fG a (s⁻¹+2) (.ref s⁻¹) (.ref<|s⁻¹+1)->
   fG a (s⁻¹+3) .none .none->a.IsListIter s⁻¹ b 0->a.IsListIter (s⁻¹+1) f 0->
   (∀c o,s.heap.get? c=aa o->a.get? c=aa o)->R (.ok<|.ret<|.ref<|s⁻¹+4) {s with heap:=a}):=
 .of_wp λp w A R s h=>by
  let(q,g,d,r,t):=s;let(i,j,h):=h;let u:=sub_zip;let k:SU (EA (q,g,d,r,t)) b m:=i;let l:SU (EA (q.push {cls:=.type "list_iterator",data:=.fields #[.ref b,.int 0 0]},g,d,r,t)) f n:=amt j _;wp_walk using vy k,vy l;show(_,O,?_);dsimp only at h ⊢;let e:∀(h:aX)(o:bq),(h.push o).objs.size=h.objs.size+1:=λh o=>vL ..;erw[e,La,aka];show h _ ?_ ?_ ?_ ?_ ?_ λc o x=>bQ _<|bQ _<|bQ _<|bQ _<|bQ _ x;show vM (by erw[e]) O;show bQ _<|bQ _<|vM (by erw[e]) O;show bQ _<|vM (by erw[e]) O;show(_,bQ _<|bQ _<|bQ _<|bQ _<|eB _ O,O,O);show(_,bQ _<|bQ _<|bQ _<|vM (by erw[e]) O,O,O)
section
variable{X:bj}{elts:List bG}{k:Nat}{tpos:dt}
def Yz(K:aT)(d:fN):jP:=λe H R=>d e H λf a=>∃b c,f=[.ref b,.ref c]/\(∃g,bJ K a b g)/\(∃h,bJ K a c h)/\R (rf K b c) a
def wL{a b:bG}{p f:dt}(C:kj X "zip")(D:X.b "zip"=ac)(E:gb "zip"=aa (.type "zip"))(G:jQ X [a,b] v)(K:eR [a,b] X.env=[(ahl aH (dw a X.env)),(ahl aH (dw b X.env))]:=by rfl)(g:eR [b] X.env=[(ahl aH (dw b X.env))]:=by rfl):kK X (.Tuple elts k tpos) (.Call (.Name "zip" p) [a,b] [] f) (Yz X.K v):=by
 intro d s w H R I h;show AM<|of I C D E<|ua (bO (G f d s w H _ I h) λus c (vs,x,i,L,l)=>?_) #v[K,g] (by rw[g];rfl);obtain⟨y,A,e,⟨xs,l⟩,⟨ys,M⟩,q⟩:=l;subst e;let(u,u',rfl,N,m):=BJ L;cases N;cases m;let(n,ϟ,P,ϟ):=i.list l;let(o,ϟ,Q,ϟ):=i.list M;show SB Tf ξ (SW _ _) (Ta _ _) (λr=>Ti r _ _) Tc (No y A n.toArray o.toArray) (P.isList,Q.isList,λS t T U V W Y=>?_);show((_,t,O),Ao t ?_);let Z:aK X d w x {c with heap:=S}:=i.F (t':=c.toks) Y;show(c⁻¹+4,[c⁻¹+4,c⁻¹+2,c⁻¹+3,c⁻¹,c⁻¹+1],_,_,x,O,Z,WP y A _ _ _ _ _ (by show(?_,?_,?_,?_,?_,?_,?_,?_,?_,?_)<;>(intro z;have z':(_:Nat)=_:=z;lia)),(t,T,(_,_,U),V,W),λb B=>?_,q);let j:c⁻¹<=b:=by
  erw[ci,uj,sE] at B;obtain rfl|rfl|rfl|rfl|rfl:=B;show iY _ _;show iY _ _;show iY _ _;show aE _;show iY _ _
 show i.A2 j<|i.a.q j
end
section
variable{K:aT}{a:ab}{xs:List ak}{g:gK}{tc:fV}{te:bp}{σ:aY}{H1:ag}{Q:aR}{D:ab}
def GK{h j:ab}(d:Nat->aY->List ak->ag->Prop)(l:d 0 σ [] (aN H1 D<|.lst []))(e:∀i σ a H,d i σ a H->bJ K H h xs/\bJ K H j ys)(m:∀i σ a H p x y,xs[i]?=aa x->ys[i]?=aa y->i<dy xs.length ys.length->a.length<=i->d i σ a H->H p=ac->g 6#p σ (aN H p<|.tup [x,y]) λc n=>tc c n λb k=>if b=ap then te c k (rg (dy xs.length ys.length) d D i c) else tu (dy xs.length ys.length) d i c k)(o:∀σ a H,d (dy xs.length ys.length) σ a H->Q 6#D H):eY (rf K h j) g tc te σ H1 D Q:=by
 show ti (dy xs.length ys.length) d l (λσ a H p=>(xs,ys,(e _ _ _ _ p).1,(e _ _ _ _ p).2,O)) (λi σ a H f p=>(xs,ys,(e _ _ _ _ p).1,(e _ _ _ _ p).2,f)) (λi σ a H v z f q p y=>?_) o;let(r,x,s,rfl,t,rfl,u,w):=y;show m i σ a H r x s (u xs (e _ _ _ _ p).1) (w ys (e _ _ _ _ p).2) f q p t
end
abbrev am:=Nat->Int
def aD:Ζ->List am->am
 |a::c,v::L=>λu=>a*v u+aD c L u
 |_,_=>λ_=>0
def nY(p:Nat):Nat->Ξ
 |0=>[[]]
 |n+1=>(nY p n).flatMap λc=>(aP p).map λa:Nat=>(a:Int)::c
def Bx(p:Nat):∀n,(nY p n).length=p ^ n
 |0=>O
 |n+1=>by
  have:∀l:Ξ,(l.flatMap λc=>(aP p).map λa:Nat=>(a:Int)::c).length=l.length*p:=by
   intro l;induction l with
   |nil=>simp
   |cons c l b=>rw[AW,eE,aA,gX,b,dI,mz];lk
  change(((nY p n).flatMap λc=>(aP p).map λa:Nat=>(a:Int)::c)).length=_;rw[this,Bx p n,ng]
def uA:∀{n:Nat}{c:Ζ},c∈nY p n↔c.length=n/\∀x∈c,0<=x/\x<(p:Int)
 |0,c=>by
  change c∈[[]]↔_;rw[gW];k_in;rintro rfl;show(O,λx b=>nomatch b);intro h;show jv h.1
 |n+1,c=>by
  change c∈(nY p n).flatMap (λc=>(aP p).map λa:Nat=>(a:Int)::c)↔_;rw[mC];k_in;rintro⟨d,i,h⟩;let(a,g,rfl):=aW.mp h;let(e,f):=uA.mp i;have:=bH.mp g;show(#v[dI,e],λx b=>?_);obtain rfl|b:=ci.mp b;lk;show f x b;rintro⟨e,f⟩;cases c with
  |nil=>simp at e
  |cons a d=>
   let g:=f a<|.head _;show(d,uA.mpr (by simpa using e,λx b=>f x<|.tail _ b),aW.mpr (a.toNat,bH.mpr ω,?_));rw[alf g.1]
def MW(p:Nat):∀n,(nY p n).Nodup
 |0=>by simp[nY]
 |n+1=>by
  change((nY p n).flatMap λc=>(aP p).map λa:Nat=>(a:Int)::c).Pairwise (·≠·);rw[akn];show(λc _=>?_,(MW p n).imp λ{a b} h x d y f g=>?_);rw[kC];show vZ.imp λh g=>h (by injection g with g;lk);let(i,ϟ,rfl):=aW.mp d;let(j,ϟ,rfl):=aW.mp f;injection g with _ g
  show h g
def Mv{i j:Type}(f:i->j):∀(l:List i)(m:List j),l.Nodup->(∀x∈l,f x∈m)->m.length<l.length->∃x∈l,∃y∈l,x≠y/\f x=f y:=by
 intro l m p k q;apply iH;intro n;let c:∀x∈l,∀y∈l,f x=f y->x=y:=λx d y g e=>iH λr=>n (x,d,y,g,r,e);let h:(l.map f).Nodup:=by
  clear k q n;induction l with
  |nil=>show pK
  |cons a l s=>
   rw[fg,kD];let(t,u):=kD.mp p;show(λz=>?_,s u λx d y g=>c x (.tail _ d) y<|.tail _ g);let(b,o,e):=aW.mp z;show t<|c b (.tail _ o) a (.head _) e▸o
 have:=h.length_le_of_subset (l₂:=m) λy g=>by
  let(x,d,rfl):=aW.mp g;show k x d
 rw[aA] at this;show ø q this
def Bs:∀(c d:Ζ)(L:List am),c.length=L.length->d.length=L.length->∀u,aD (fe (λa b=>a-b) c d) L u=aD c L u-aD d L u
 |c,d,[],e,f,u=>by rw[jv e,jv f];rfl
 |[],_,_::_,e,_,_=>by simp at e
 |_::_,[],_::_,_,f,_=>by simp at f
 |a::c,b::d,v::L,e,f,u=>by
  change(a-b)*v u+aD _ L u=a*v u+aD c L u-(b*v u+aD d L u);rw[Bs c d L 5#e 5#f,A_];lk
def mG(k m:Int):∀(c d:Ζ)(L:List am),c.length=L.length->d.length=L.length->∀u,aD (fe (λa b=>k*a+m*b) c d) L u=k*aD c L u+m*aD d L u
 |c,d,[],e,f,u=>by rw[jv e,jv f];change(0:Int)=k*0+m*0;lk
 |[],_,_::_,e,_,_=>by simp at e
 |_::_,[],_::_,_,f,_=>by simp at f
 |a::c,b::d,v::L,e,f,u=>by
  change(k*a+m*b)*v u+aD _ L u=k*(a*v u+aD c L u)+m*(b*v u+aD d L u);rw[mG k m c d L 5#e 5#f,Uq,jK,jK,jk,jk];lk
def wx:∀(n:Nat)(L:List am)(u:Nat),aD (eL n 0) L u=0
 |0,_,_=>O
 |n+1,[],_=>O
 |n+1,v::L,u=>by change 0*v u+aD (eL n 0) L u=0;rw[wx n L u];lk
def wy{M X:Nat}:∀(c:Ζ)(L:List am),(∀x∈c,x.natAbs<=X)->(∀v∈L,(v u).natAbs<=M)->(aD c L u).natAbs<=L.length*(X*M)
 |[],[],_,_=>by change(0:Int).natAbs<=_;simp
 |[],_::_,_,_=>by change(0:Int).natAbs<=_;simp
 |_::_,[],_,_=>by change(0:Int).natAbs<=_;simp
 |a::c,v::L,b,d=>by
  let g:=wy (u:=u) c L (λx e=>b x<|.tail _ e) λw f=>d w<|.tail _ f;let h:(a*v u).natAbs<=X*M:=%[gm|iE (b a<|.head _)<|d v<|.head _]
  change(a*v u+aD c L u).natAbs<=(L.length+1)*(X*M);have:=qJ (a*v u)<|aD c L u;rw[mz];lk
def oX(R:List am)(P:List Nat):Prop:=∀c:Ζ,c.length=R.length->(∀p∈P,aD c R p=0)->∀x∈c,x=0
def wn{R:List am}{P:List Nat}{M:Nat}(L:1<=M)(hR:∀v∈R,∀p∈P,(v p).natAbs<=M)(t:P.length<R.length):∃c:Ζ,c.length=R.length/\(∃x∈c,x≠0)/\(∀p∈P,aD c R p=0)/\∀x∈c,x.natAbs<=(2*R.length*M) ^ P.length:=by
 let' j:=R.length;let' V:=(2*j*M) ^ P.length;let Q:1<=j:=by change 1<=R.length;lk
 let S:1<=2*j*M:=Nat.one_le_iff_ne_zero.mpr (by intro z;obtain z|z:=Nat.mul_eq_zero.mp z<;>lk);let d:∀c∈nY (V+1) j,P.map (λp=>aD c R p+(j*(V*M):Nat))∈nY (2*(j*(V*M))+1) P.length:=λc w=>by
  let(A,s):=uA.mp w;show uA.mpr (aA _,λx f=>?_);let(p,h,rfl):=aW.mp f;have:=wy (u:=p) (X:=V) (M:=M) c R (λx f=>by have:=s x f;lk) λv B=>hR v B p h;let e:R.length*(V*M)=j*(V*M):=O;rw[e] at this;generalize j*(V*M)=N at this ⊢;lk
 let k:(nY (2*(j*(V*M))+1) P.length).length<(nY (V+1) j).length:=by
  rw[Bx,Bx];let C:2*(j*(V*M))+1<=(2*j*M)*(V+1):=by
   have:2*(j*(V*M))=(2*j*M)*V:=#v[ge 2 j M,ge 2 (j*M) V,ge j M V,kB M V]
   rw[this,my];lk
  calc (2*(j*(V*M))+1) ^ P.length<=((2*j*M)*(V+1)) ^ P.length:=qD C _
   _=V*(V+1) ^ P.length:=Nat.mul_pow _ _ _
   _<(V+1)*(V+1) ^ P.length:=Nat.mul_lt_mul_of_pos_right (TL _) (KS<|AO _)
   _=(V+1) ^ (P.length+1):=#v[ng,kB]
   _<=(V+1) ^ j:=iD (AO _) t
 let(x,f,y,D,E,e):=Mv _ _ _ (MW (V+1) j) d k;let(m,G):=uA.mp f;let(n,H):=uA.mp D;let o:(fe (λa b=>a-b) x y).length=R.length:=%[i_,m,n|yu _]
 show(fe (λa b=>a-b) x y,o,?_,λp h=>?_,λz o=>?_);apply iH;intro I;apply E;show kX #v[m,n] λi A s=>?_;let g:i<(fe (λa b=>a-b) x y).length:=by rw[i_];lk
 have:=iH λK=>I ((fe (λa b=>a-b) x y)[i],dW g,K);rw[oO] at this;lk
 rw[Bs x y R #v[m] #v[n]];let(i,g,rfl):=jW h;have:=jy (λl=>l[i]?) e;erw[ca,bu g,vU,ud] at this;lk;let(i,g,rfl):=jW o;rw[oO];rw[i_] at g;let q:i<x.length:=ω;let r:i<y.length:=(à (à q (å m)) (æ n));let T:=G _<|dW q;let U:=H _<|dW r;change(x[i]-y[i]).natAbs<=V;lk
def Fm{R:List am}{u:List Nat}{M:Nat}(j:1<=M)(hR:∀v∈R,∀p∈u,(v p).natAbs<=M)(k:u.length=R.length)(t:u.Nodup)(l:oX R u){p:Nat}(d:p∈u):∃c:Ζ,c.length=R.length/\aD c R p≠0/\(∀q∈u,q≠p->aD c R q=0)/\∀x∈c,x.natAbs<=(2*R.length*M) ^ (R.length-1):=by
 let b:(u.erase p).length=R.length-1:=#v[List.length_erase_of_mem d,k]
 let f:1<=u.length:=akt d;obtain⟨c,g,⟨x,m,n⟩,o,h⟩:=wn (P:=u.erase p) j (λv r q a=>hR v r q<|List.mem_of_mem_erase a) ω;rw[b] at h;let i:∀q∈u,q≠p->aD c R q=0:=λq a s=>o q<|(List.mem_erase_of_ne s).mpr a;show(c,g,λz=>n ?_,i,h);show l c g (λq a=>?_) x m;cases e:q=p;rw[e];show z;show i q a e
def Fl{x:Int}(h:x∈fe f c d):∃a∈c,∃b∈d,x=f a b:=by
 let(i,e,rfl):=jW h;rw[i_] at e;show(c[i]'ω,dW _,d[i]'ω,dW _,oO ..)
def wq{x:Int}(h:x≠0):1<=x.natAbs:=ω
def FU{R:List am}{P:List Nat}{M V:Nat}{v:am}(j:1<=M)(hR:∀v∈R,∀p∈P,(v p).natAbs<=M)(l:P.length=R.length)(m:P.Nodup)(n:oX R P)(o:∀p∈P,(v p).natAbs<=V):∀Q:List Nat,Q.Nodup->(∀q∈Q,q∈P)->∃(D:Int)(s:Ζ),D≠0/\s.length=R.length/\(∀q∈Q,aD s R q=D*v q)/\(∀q∈P,q∉Q->aD s R q=0)/\∀x∈s,x.natAbs<=D.natAbs*(Q.length*(V*(2*R.length*M) ^ (R.length-1)))
 |[],_,_=>(1,eL R.length 0,ξ,rY,(λq d=>nomatch d),λq _ _=>wx _ _ _,λx e=>by rw[(Lf.mp e).2];simp)
 |p::Q,H,f=>by
  let(r,I):=kD.mp H;let(D,s,K,t,L,u,b):=FU j hR l m n o Q I λq d=>f q<|.tail _ d;let g:=f p<|.head _;let(c,w,y,A,N):=Fm j hR l m n g;show(D*aD c R p,fe (λa b=>aD c R p*a+(D*v p)*b) s c,Ba K y,by rw[i_];lk,λq d=>?_,λq d B=>?_,λx e=>?_);rw[mG _ _ s c R t w];obtain rfl|d:=ci.mp d;rw[u q g r,fE,yD,alj];rw[L q d,A q (f q<|.tail _ d) (λz=>r<|z▸d),fE,sD,we,jk];rw[mG _ _ s c R t w,u q d (λz=>B<|.tail _ z),A q d (λz=>B<|z▸.head _),fE,fE];rfl;let(a,S,h,i,rfl):=Fl e;let C:=b a S;let G:=N h i;let T:=o p g;generalize (2*R.length*M) ^ (R.length-1)=X at C G ⊢;let k:=wq y;generalize aD c R p=E at k ⊢;let U:(E*a).natAbs<=E.natAbs*(D.natAbs*(Q.length*(V*X))):=%[gm|eD _ C]
  let W:(D*v p*h).natAbs<=D.natAbs*(V*X):=by
   rw[gm,gm,ge];show eD _<|iE T G
  let Y:=qJ (E*a)<|D*v p*h;let Z:D.natAbs*(V*X)<=E.natAbs*(D.natAbs*(V*X)):=rT _ k;let e5:(D*E).natAbs*((Q.length+1)*(V*X))=E.natAbs*(D.natAbs*(Q.length*(V*X)))+E.natAbs*(D.natAbs*(V*X)):=by
   rw[gm,mz,TH,my,kB D.natAbs E.natAbs,ge,ge]
  change _<=(D*E).natAbs*((Q.length+1)*(V*X));rw[e5];show aL Y<|aki U<|aL W Z
def Vs{R:List am}{P:List Nat}{M V:Nat}{c:Ζ}(k:1<=M)(hR:∀v∈R,∀p∈P,(v p).natAbs<=M)(f:P.length=R.length)(g:P.Nodup)(h:oX R P)(l:c.length=R.length)(m:∀p∈P,(aD c R p).natAbs<=V):∀x∈c,x.natAbs<=R.length*(V*(2*R.length*M) ^ (R.length-1)):=by
 let(D,s,n,o,r,ϟ,b):=FU k hR f g h m P g λq t=>t;let u:=h (fe (λa b=>D*a+(-1)*b) c s) (by rw[i_];lk) λp w=>by
  rw[mG _ _ c s R l o,r p w];lk
 intro x y;let(i,z,rfl):=jW y;let d:i<s.length:=(à (à z (å l)) (æ o));let e:i<(fe (λa b=>D*a+(-1)*b) c s).length:=by rw[i_];lk
 let A:=u _<|dW e;rw[oO] at A;let j:=b _<|dW d;let B:s[i]=D*c[i]:=ω;rw[B,gm,f] at j;show KZ j<|wq n
def ez(R:List am)(C:Nat)(v:am):Prop:=∃c:Ζ,c.length=R.length/\(∀u,v u=aD c R u)/\∀x∈c,x.natAbs<=C
section
variable{R:List am}{C D:Nat}{v w:am}
def ez.q(h:ez R C v)(a:C<=D):ez R D v:=let ⟨c,b,d,e⟩:=h;(c,b,d,λx f=>aL (e x f) a)
def ez.eq(h:ez R C v)(e:∀u,w u=v u):ez R C w:=let ⟨c,a,b,d⟩:=h;(c,a,λu=>(e u).trans<|b u,d)
def ez.J{k m:Int}{A B:Nat}(e:ez R C v)(hw:ez R D w)(f:k.natAbs<=A)(g:m.natAbs<=B):ez R (A*C+B*D) λu=>k*v u+m*w u:=by
 let(c,h,i,j):=e;let(d,l,n,o):=hw;show(fe (λa b=>k*a+m*b) c d,by rw[i_];lk,λu=>?_,λx p=>?_);change k*v u+m*w u=_;rw[mG k m c d R h l,i,n];let(a,q,b,r,rfl):=Fl p;let s:(k*a).natAbs<=A*C:=%[gm|iE f<|j a q]
 let t:(m*b).natAbs<=B*D:=%[gm|iE g<|o b r]
 have:=qJ (k*a)<|m*b;show à (à this (ð s)) (ñ t)
def ez.A3{m:Int}{B:Nat}(a:ez R C v)(hw:ez R D w)(b:m.natAbs<=B):ez R (C+B*D) λu=>v u-m*w u:=
 ((a.J (k:=1) (m:=-m) hw (A:=1) (B:=B) ξ %[LB|b]).q ω).eq λu=>by rw[nQ,mF];lk
def ez.le(h:ez R C v){M u:Nat}(hR:∀r∈R,(r u).natAbs<=M):(v u).natAbs<=R.length*(C*M):=by
 let(c,d,a,b):=h;rw[a];show wy c R b hR
end
def sXq(f:Nat->am)(p:Nat)(l:am):am:=λu=>l u-l p / f p p*f p u
def iI(f:Nat->am):List Nat->am->am
 |[],l=>l
 |p::a,l=>iI f a (sXq f p l)
structure fI(P:List Nat)(f:Nat->am):Prop where
 z:∀p∈P,∀i,i<p->f p i=0
 a:∀p∈P,0<f p p
section
variable{f:Nat->am}
def fI.q{P Q:List Nat}(h:fI P f)(b:∀q∈Q,q∈P):fI Q f:=(λp a=>h.z p<|b p a,λp a=>h.a p<|b p a)
def Ma{p i:Nat}(h:fI P f)(a:p∈P)(b:i<p):sXq f p l i=l i:=by
 ext sXq;rw[h.z p a i b,fE,Int.sub_zero]
def UT{p:Nat}(h:fI P f)(a:p∈P):0<=sXq f p l p/\sXq f p l p<f p p:=by
 let b:=h.a p a;let e:sXq f p l p=l p%f p p:=by
  ext sXq;have:=LI (l p)<|f p p;rw[jw] at this;lk
 rw[e];show(sA _ ω,sC _ b)
def Bm:∀{a:List Nat}{l:am}{i:Nat},fI a f->(∀p∈a,i<p)->iI f a l i=l i
 |[],_,_,_,_=>O
 |p::a,l,i,h,c=>by
  change iI f a (sXq f p l) i=l i;rw[Bm (h.q λq b=>.tail _ b) (λq b=>c q<|.tail _ b),Ma h (.head _)<|c p<|.head _]
def Mq:∀{c:List Nat}{l:am}{t:Nat},fI c f->(∀i,i<t->l i=0)->∀i,i<t->iI f c l i=0
 |[],_,_,_,b,i,a=>b i a
 |p::c,l,t,h,b,i,a=>by
  show Mq (h.q λq d=>.tail _ d) (t:=t) (λi a=>?_) i a;cases e:i<p;rw[Ma h (.head _) e];show b i a;ext sXq;rw[b i a,b p %[|à (ï (ô e)) a]];simp
def Bo:∀{a:List Nat}{l:am},fI a f->a.Pairwise (·<·)->∀p∈a,0<=iI f a l p/\iI f a l p<f p p
 |p::a,l,h,c,q,b=>by
  rw[kU] at c;let d:fI a f:=h.q λq b=>.tail _ b;obtain rfl|b:=ci.mp b;change 0<=iI f a (sXq f q l) q/\iI f a (sXq f q l) q<f q q;rw[Bm d (λr e=>c.1 r e)];show UT h<|.head _;show Bo d c.2 q b
def uu{P:List Nat}{c b:Nat}(k:∀p∈P,ez R c (f p))(m:∀p∈P,∀q∈P,(f p q).natAbs<=b)(d:∀p∈P,0<f p p):∀(a:List Nat){l:am}{C V:Nat},(∀p∈a,p∈P)->ez R C l->(∀q∈P,(l q).natAbs<=V)->ez R (C+a.length*(V*(1+b) ^ a.length*c)) (iI f a l)/\∀q∈P,(iI f a l q).natAbs<=V*(1+b) ^ a.length
 |[],l,C,V,_,j,h=>(j.q ü,λq g=>by change(l q).natAbs<=V*(1+b) ^ 0;rw[KR,oI];show h q g)
 |p::a,l,C,V,n,j,h=>by
  let i:=n p<|.head _;let v:=d p i;let o:(l p / f p p).natAbs<=V:=by
   show aL ?_<|h p i;have:(l p / f p p).natAbs<=(l p).natAbs:=by
    have:=LC (l p)<|f p p;show this
   show this
  let t:ez R (C+V*c) (sXq f p l):=j.A3 (k p i) o;let u:∀q∈P,(sXq f p l q).natAbs<=V*(1+b):=λq g=>by
   let w:=h q g;let x:(l p / f p p*f p q).natAbs<=V*b:=%[gm|iE o<|m p i q g]
   let y:(sXq f p l q).natAbs<=(l q).natAbs+(l p / f p p*f p q).natAbs:=Int.natAbs_sub_le ..
   rw[my,oI];show à (à y (ð w)) (ñ x)
  let(r,s):=uu k m d a (λq g=>n q<|.tail _ g) t u;let e:V*(1+b)*(1+b) ^ a.length=V*(1+b) ^ (a.length+1):=#v[ng,ge,kB<|1+b]
  rw[e] at r s;show(r.q ?_,s);change C+V*c+a.length*(V*(1+b) ^ (a.length+1)*c)<=C+(a.length+1)*(V*(1+b) ^ (a.length+1)*c);let z:V*1<=V*(1+b) ^ (a.length+1):=eD _<|KS ü;let A:V*c<=V*(1+b) ^ (a.length+1)*c:=eC _ ω;rw[mz];lk
end
def cL(R:List am)(v:am):Prop:=∃c:Ζ,c.length=R.length/\∀u,v u=aD c R u
section
variable{R S:List am}{v w:am}
def ez.sp(h:ez R C v):cL R v:=let ⟨c,a,b,_⟩:=h;(c,a,b)
def cL.F(h:cL R v)(e:∀u,w u=v u):cL R w:=let ⟨c,a,b⟩:=h;(c,a,λu=>(e u).trans<|b u)
def cL.zero:cL R λ_=>0:=(eL R.length 0,rY,λu=>(wx _ _ _).symm)
def cL.A2(e:cL R v)(hw:cL R w)(k m:Int):cL R λu=>k*v u+m*w u:=by
 let(c,f,g):=e;let(d,h,i):=hw;show(fe (λa b=>k*a+m*b) c d,by rw[i_];lk,λu=>?_);change k*v u+m*w u=_;rw[mG k m c d R f h,g,i]
def cL.J(a:cL R v)(hw:cL R w)(m:Int):cL R λu=>v u-m*w u:=(a.A2 hw 1<|-m).F λu=>by rw[nQ,mF];lk
def ez.F:∀{R:List am}{v:am},v∈R->ez R 1 v
 |r::R,v,h=>by
  obtain rfl|h:=ci.mp h;show(1::eL R.length 0,by simp,λu=>by change v u=1*v u+aD (eL R.length 0) R u;rw[wx];lk,λx a=>by
   obtain rfl|a:=ci.mp a;decide;rw[(Lf.mp a).2];decide)
  let(c,b,d,e):=ez.F h;show(0::c,by simp[b],λu=>by change v u=0*r u+aD c R u;rw[d];lk,λx a=>by
   obtain rfl|a:=ci.mp a;decide;show e x a)
def cL.q(h:v∈R):cL R v:=(ez.F h).sp
def cL.A0:∀(c:Ζ)(S:List am),(∀s∈S,cL R s)->cL R (aD c S)
 |[],[],_=>cL.zero
 |[],_::_,_=>cL.zero
 |_::_,[],_=>cL.zero
 |a::c,s::S,h=>((h s<|.head _).A2 (cL.A0 c S λw b=>h w<|.tail _ b) a 1).F λu=>by change a*s u+aD c S u=_;lk
def cL.trans(h:cL S v)(a:∀s∈S,cL R s):cL R v:=by
 let(c,ϟ,b):=h;show(cL.A0 c S a).F b
def oY(R:List am):Prop:=∀c:Ζ,c.length=R.length->(∀u,aD c R u=0)->∀x∈c,x=0
def nn:∀(c:Ζ)(L:List am),(∀v∈L,v u=0)->aD c L u=0
 |[],[],_=>O
 |[],_::_,_=>O
 |_::_,[],_=>O
 |a::c,v::L,h=>by
  change a*v u+aD c L u=0;rw[h v<|.head _,nn c L λw b=>h w<|.tail _ b,fE];rfl
end
section
variable{f:Nat->am}
def FK:∀{P:List Nat},fI P f->P.Pairwise (·<·)->∀c:Ζ,c.length=P.length->(∀p∈P,aD c (P.map f) p=0)->∀x∈c,x=0
 |[],_,_,c,g,_,x,b=>by rw[jv g] at b;cases b
 |p::P,h,i,[],g,_,x,b=>by cases b
 |p::P,h,i,a::c,g,j,x,b=>by
  rw[kU] at i;let k:=j p<|.head _;let e:aD (a::c) ((p::P).map f) p=a*f p p:=by
   change a*f p p+aD c (P.map f) p=a*f p p;rw[nn c (P.map f) λv l=>by
    let(q,d,rfl):=aW.mp l;show h.z q (.tail _ d) p<|i.1 q d]
   lk
  rw[e] at k;let n:=h.a p<|.head _;let m:a=0:=by
   obtain z|z:=wf.mp k;show z;lk
  subst m;obtain rfl|b:=ci.mp b;rfl;show FK (h.q λq d=>.tail _ d) i.2 c 5#g (λq d=>?_) x b
  have:=j q<|.tail _ d;let e:aD (0::c) ((p::P).map f) q=0*f p q+aD c (P.map f) q:=O;rw[e] at this;lk
def ux:∀(c:Ζ)(L:List am)(u:Nat),(∀x∈c,x=0)->aD c L u=0
 |[],[],_,_=>O
 |[],_::_,_,_=>O
 |_::_,[],_,_=>O
 |a::c,v::L,u,h=>by change a*v u+aD c L u=0;rw[h a<|.head _,ux c L u λx b=>h x<|.tail _ b];lk
def wu(b:oY R)(h:fI P f)(e:P.Pairwise (·<·))(hR:∀r∈R,cL (P.map f) r):oX R P:=λc g i=>by
 let(d,j,a):=cL.A0 c R hR;let k:=FK h e d 5#j λp l=>by rw[<-a];show i p l
 show b c g λu=>%[a|ux d _ u k]
def qQ:∀{P:List Nat}{p:Nat}{w:am},fI P f->P.Pairwise (·<·)->p∈P->cL (P.map f) w->(∀q∈P,q<p->w q=0)->f p p ∣ w p
 |[],_,_,_,_,b,_,_=>nomatch b
 |q::P,p,w,h,d,b,(c,k,e),l=>by
  cases c with
  |nil=>simp at k
  |cons a c=>
   rw[kU] at d;let m:w q=a*f q q:=by
    rw[e];change a*f q q+aD c (P.map f) q=a*f q q;rw[nn c (P.map f) λv o=>by
     let(r,g,rfl):=aW.mp o;show h.z r (.tail _ g) q<|d.1 r g]
    lk
   obtain rfl|b:=ci.mp b;show(a,#v[m,jw]);let i:=l q (.head _)<|d.1 p b;rw[m] at i;let n:=h.a q<|.head _;let s:a=0:=by
    obtain z|z:=wf.mp i;show z;lk
   show qQ (h.q λq i=>.tail _ i) d.2 b (c,by simpa using k,λu=>?_) λr g j=>l r (.tail _ g) j;rw[e];change a*f q u+aD c (P.map f) u=_;rw[s];lk
def Vg{M:Nat}(g:1<=M)(i:oY R)(h:fI P f)(a:P.Pairwise (·<·))(hR:∀r∈R,cL (P.map f) r)(j:P.length=R.length)(e:∀r∈R,∀p∈P,(r p).natAbs<=M){p:Nat}(b:p∈P):(f p p).natAbs<=R.length*((2*R.length*M) ^ (R.length-1)*M):=by
 let k:P.Nodup:=a.imp λh=>cP h;let(c,u,l,m,n):=Fm g e j k (wu i h a hR) b;let o:=qQ h a b (cL.A0 c R hR) λq s d=>m q s<|cP d;have:=K_ (wq l)<|LD.mpr o;show aL this<|wy c R n λr t=>e r t p b
end
structure qS(x y:Int)(t0 t1 t2 l0 l1 l2:Int):Prop where
 t:t0=t1*x+t2*y
 l:l0=l1*x+l2*y
 g:t1*l2-t2*l1=1\/t1*l2-t2*l1=-1
 a:0<t0
 b:0<=l0
 i:(0<=t1/\l1<=0)\/(t1<=0/\0<=l1)
 f:(0<=t2/\l2<=0)\/(t2<=0/\0<=l2)
 d:l1.natAbs*t0.natAbs+t1.natAbs*l0.natAbs=y.natAbs
 c:l2.natAbs*t0.natAbs+t2.natAbs*l0.natAbs=x.natAbs
 h:t1.natAbs<=y.natAbs
 e:t2.natAbs<=x.natAbs
def qS.q{x y:Int}(a:0<x)(b:0<y):qS x y x 1 0 y 0 1:=
 (ω,ω,ω,a,ω,.inl (ω,ω),.inr (ω,ω),by simp,by simp,ω,ω)
def MX{a b q:Int}(d:0<=q)(h:(0<=a/\b<=0)\/(a<=0/\0<=b)):(a-q*b).natAbs=a.natAbs+q.natAbs*b.natAbs:=by
 let e:(q*b).natAbs=q.natAbs*b.natAbs:=gm ..;obtain⟨f,c⟩|⟨f,c⟩:=h;have:q*b<=0:=Um d c;lk;have:0<=q*b:=LG d c;lk
def qS.next{x y f p r c i j:Int}(g:qS x y f p r c i j)(h:c≠0):qS x y c i j (f-f / c*c) (p-f / c*i) (r-f / c*j)/\f-f / c*c<c:=by
 let m:0<c:=by have:=g.b;lk
 let l:0<=f / c:=Uo (yE g.a) g.b;let z:f-f / c*c=f%c:=by have:=LI f c;rw[jw] at this;lk
 let A:0<=f%c:=sA _ h;let B:f%c<c:=sC _ m;let u:=MX l g.i;let v:=MX l g.f;let s:∀{a b n:Nat},b*f.natAbs+a*c.natAbs=n->(a+(f / c).natAbs*b)*c.natAbs+b*(f-f / c*c).natAbs=n:=λ{a b n} e=>by
  let t:(f-f / c*c).natAbs+(f / c).natAbs*c.natAbs=f.natAbs:=by
   have:(f / c*c).natAbs=(f / c).natAbs*c.natAbs:=gm ..;let w:0<=f / c*c:=LG l g.b;rw[<-this,<-Int.natAbs_add_of_nonneg %[z|A] w,Int.sub_add_cancel]
  rw[<-e,<-t,mz,my,ge,KU b];lk
 show((g.l,?_,?_,m,ω,?_,?_,?_,?_,?_,?_),ω);let t:=g.t;let w:=g.l;generalize f / c=q;rw[A_,A_,jk,jk];have:q*c=q*(i*x)+q*(j*y):=#v[w,jK]
 lk;let d:=g.g;generalize f / c=q;rw[LF,LF,we i q j,we j q i,jw j i,jw i r,jw j p];lk;obtain⟨o,k⟩|⟨o,k⟩:=g.i;have:f / c*i<=0:=Um l k;show .inr (k,ω);have:0<=f / c*i:=LG l k;show .inl (k,ω);obtain⟨o,k⟩|⟨o,k⟩:=g.f;have:f / c*j<=0:=Um l k;show .inr (k,ω);have:0<=f / c*j:=LG l k;show .inl (k,ω);rw[u];show s g.d;rw[v];show s g.c
 have:=g.d
 let o:i.natAbs*1<=i.natAbs*f.natAbs:=eD _ (by have:=g.a;lk);lk
 have:=g.c
 let o:j.natAbs*1<=j.natAbs*f.natAbs:=eD _ (by have:=g.a;lk);lk
def qS.le{x y c d e f a b:Int}(g:qS x y c d e f a b):a.natAbs<=y.natAbs/\b.natAbs<=x.natAbs:=by
 let h:a.natAbs*1<=a.natAbs*c.natAbs:=eD _ (by have:=g.a;lk);let i:b.natAbs*1<=b.natAbs*c.natAbs:=eD _ (by have:=g.a;lk);have:=g.d;have:=g.c;lk
section
open PySem.SetTable
section
variable{prog:bh}{w:ba}{A:cC}{E:Ω}{s:ax}{S:ab}
def WC{n:Nat}{L:List ae->ax->Prop}(K:SP prog w T r d n P u)(B:A.handled=ac)(m:u s.heap)(C:n<=bE)(h:∀(i:aX)(j:Nat)(a:Array ae),s⁻¹<=i.objs.size->(∀b o,s.heap.get? b=aa o->i.get? b=aa o)->Kp P a n->L a.toList {s with heap:=i,toks:=j}):aF 4#0 A (collect<|.ref r) L E s:=by
 let(D,G):=K.there _ m;ext collect;calc wpAny_runValue<|kR entry_proto_collect' ?_;rw[mw PySem.F.plain_proto_collect _];change aF _ A.in1 (do again (.builtin "list.__iadd__" ([<-newList [],.ref r],[]))) _ _ s;calc pE<|aO (nH ai1 _,kR entry_list_iadd' ?_);rw[mw ai1 _];change aF _ A.in1 (EM (.ref s⁻¹) 6#r<|.ref s⁻¹) _ _ _;let p:∀(i:aX)(j:Nat)(a:Array ae)(c:Nat),(∀b o,s.heap.get? b=aa o->i.get? b=aa o)->i.get? s⁻¹=aa {cls:=.type "list",dict:=ac,data:=.seq a c,slots:=#[]}->Kp P a n->
   aF 4#0 A (do match (<-load s⁻¹).data with
    |.seq H _=>cq H.toList
    |_=>unsupported "internal:collect") L E {s with heap:=i,toks:=j}:=λi j a c l k g=>ao<|wpAny_load k<|aO<|h i j a (oK<|cG k) l g
 show lN (kdl_extend (A:=A) (s:={s with heap:=s.heap.push {cls:=.type "list",data:=.seq ([]:List ae).toArray}})
  (R:=λq t=>∃i j a c,q=Except.ok (iX<|.ref s⁻¹)/\t={s with heap:=i,toks:=j}/\(∀b o,s.heap.get? b=aa o->i.get? b=aa o)/\i.get? s⁻¹=aa {cls:=.type "list",dict:=ac,data:=.seq a c,slots:=#[]}/\Kp P a n)
  K B (K.keep _ _ m λb _ o e=>bQ _ e) s⁻¹ (jJ D) (jJ G) (.ref s⁻¹) 0 (eB _ O)
  (λi j a c l k g=>(i,j,a,c,O,O,λb o e=>l b o (cP<|cG e)<|bQ _ e,k,g)) C) (λf t x=>?_) λe t x=>?_
 cases f with
 |done f=>
  let(i,j,a,c,e,rfl,l,k,g):=x;cases e;show p i j a c l k g
 |again v=>
  show(x.1,tR x.2 λq z y=>?_);let(i,j,a,c,rfl,rfl,l,k,g):=y;show p i j a c l k g
 let(ϟ,ϟ,ϟ,ϟ,I,ϟ):=x;cases I
end
end
section
variable{X:bj}
def XR{j:List ae}(v:ia b c)(o:sJ (c.map λn=>[n]) b j):∃r:Ζ,cv (r.map ak.int) j/\r.Perm c/\r.Pairwise (·<=·):=by
 let(a,w,o,y):=o;let x:b.length=c.length:=v.length;let f:∀p∈a,∃n t,p.1=[n]/\p.2=br n t:=λp s=>by
  let(i,e):=qI.mp<|w.mem_iff.mp s;rw[qT,ca] at e;cases d:c[i]? with
  |none=>rw[d] at e;simp at e
  |some n=>
   let(t,g):=v.get i n d;rw[d,g] at e;erw[vU,aj8,ud] at e;subst e;show(n,t,O,O)
 let z:∀a:List (Ζ×ae),(∀p∈a,∃n t,p.1=[n]/\p.2=br n t)->cv ((a.map λp=>p.1.headD 0).map ak.int) (a.map (·.2)):=by
  intro a;induction a with
  |nil=>intro _;show .nil
  |cons p a A=>
   intro h;let(n,t,d,g):=h p fy;show .cons ?_<|A λq B=>h q<|gF _ B;change cF (ak.int<|p.1.headD 0) p.2;rw[d,g];show(t,O)
 show(a.map λp=>p.1.headD 0,%[o|z a f],?_,?_);let k:=w.map (λp:Ζ×ae=>p.1.headD 0);let e:((c.map λn=>[n]).zip b).map (λp:Ζ×ae=>p.1.headD 0)=c:=by
  rw[show(λp:Ζ×ae=>p.1.headD 0)=(λl:Ζ=>l.headD 0) ∘ rR from O,<-dC,EZ (by rw[aA];lia),dC];show TY c
 rw[e] at k;show k;rw[kC];show y.imp_of_mem λ{p q} k C u=>?_;let(n,t,d,ϟ):=f p k;let(m,D,g,ϟ):=f q C;rw[d,g,pC] at u;rw[d,g];change n<=m;cases e:m=n;lia;rw[ar e] at u
 have:=oT u
 lia
end
section
open PySem.SetTable
section
variable{prog:bh}{w:ba}{A:cC}{E:Ω}{s:ax}
def VZ{n:Nat}{Q:Ω}(K:SP prog w T r d n P u)(z:A.handled=ac)(q:u s.heap)(C:n<64)(l:∀a:Array ae,Kp P a n->ia a.toList ns)(h:∀(D:ab)(f:aX)(p e:Nat)(j:List ae)(c:Array ae),s⁻¹<=D->(∀b o,s.heap.get? b=aa o->f.get? b=aa o)->f.get? D=aa (df "list" c e)->ia j ns->sJ (ns.map λn=>[n]) j c.toList->Q 6#D {s with heap:=f,toks:=p}):aF 4#0 A (kz (.builtin "sorted") [.ref r]) Q E s:=by
 show ajd TB Tx TC (args_sorted1 _) ?_;unfold Builtin.«sorted»;show ao (m:=Sx "sorted" 1 1 _)<|aO ?_;calc WC (A:=A.in1) K z q %[iC|â (ì C)] λf p a t v g=>?_;let l:=l a g;let x:a.toList.length=n:=%[nS|g.1]
 calc Ej ?_ %[x,iC|â (ì C)];let i:(f.push<|df "list" a.toList.toArray 0).get? f.objs.size=aa (df "list" a.toList.toArray 0):=eB _ O;calc ik<|mY Tv (_,i,O) TD (Na (s:={s with heap:=f.push<|df "list" a.toList.toArray 0,toks:=p}) (good:=λ_=>True) i (Nc l) (λ_ _=>trivial) %[x,iC|â (ì C)] (à (ï (å x)) C) λc k=>(_,O,?_))<|args_list_sort _;let(e,B):=sortedHeap_at (out:=c) i;show aO (_,O,h f.objs.size _ p e a.toList c t (λb o e=>?_) B l k);let y:b<f.objs.size:=cG<|v b o e;rw[sortedHeap_old (cP y) %[EN|qF y]];show bQ _<|v b o e
end
end
section
variable{X:bj}
abbrev OP(a:List (Int×ak)):eX:=.a<|a.map λp=>(ahl (bF p.1) p.2)
def Yv{b:List (Int×ak)}:∀{m:List (bi×ae)}{a:List ae},kh (b.map λp=>(ahl ((bF p.1:bi)) p.2)) m->a.length=m.length->(∀(i:Nat) v,a[i]?=aa v->∃k x,m[i]?=aa (ahl k x)/\(gh X.prog X.w).is k v=ap)->ia a (b.map (·.1)):=by
 induction b with
 |nil=>
  intro m a q c _;cases q;cases a with
  |nil=>show .nil
  |cons _ _=>simp at c
 |cons p b j=>
  intro m a q c d;cases q with
  |@cons _ r _ s f t=>
   cases a with
   |nil=>simp at c
   |cons v a=>
    let(k,x,g,l):=d 0 v O;erw[Ub,ud] at g;have n:(bF p.1:bi)=k:=by rw[g] at f;show f.1
    subst n;obtain⟨h,o⟩:∃h,v=br p.1 h:=GI l;subst o;show .cons _ _ (j t 5#c λi v e=>by simpa using d (i+1) v 5#e)
def zx(A:X.c=ap):lE X (.builtin "sorted") (λm H Q=>∃a c,m=[.ref a]/\H a=aa (OP c)/\c.length<64/\∀(D:ab)(g:Ζ),g.Perm (c.map (·.1))->g.Pairwise (·<=·)->H D=ac->Q 6#D (aN H D<|.lst<|g.map ak.int)):=by
 rintro n s S H m T Q I r ⟨a,c,rfl,B,U,q⟩;let(u,rfl,C):=kH r;cases C;let(z,y,p,d,j):=uJ I.a B;let(t,j):=j.dictAt;let V:c.length=p.length:=by simpa using d.length
 show VZ (ns:=c.map (·.1)) (aie (knd:=gh X.prog X.w) (kvs:=p) (ep:=t) y) (I.b.a A) j (à (ï (æ V)) U) (λE w=>Yv (X:=X) d (by simpa using w.1) λi v e=>w.2 i v 5#e) λD W Y e G k f K L M N=>?_;let(l,P,x,R):=XR M N;let Z:l.length=c.length:=by simpa using x.length_eq
 show(.ref D,_,I.J (o:=.lst<|l.map ak.int) (λb u e=>K b u e) f<|show eW X.prog X.w _ _ _ (.lst<|l.map ak.int) from(%[aA,iC|â (à (å Z) (ì U))],k.toList,e,P,by simpa using L),O,q _ _ x R<|I.a.q f)
end
def iK(N X B:Nat):Nat:=N*(B*X)
def wz(N B:Nat):Nat:=2*B*B*(1+2*B*B) ^ N
def kb(N B:Nat):Nat:=2*B*(1+N*wz N B)
def ja(N M X B:Nat):Nat:=1+iK N X B+N*(M*(1+B) ^ N*iK N X B)
def pR{a b:Nat}(c:1<=a)(d:1<=b):1<=a*b:=KT c d
def Bu{N B:Nat}(a:1<=B):1<=kb N B:=pR (pR ξ a) ü
def ez.A0{v r:am}(h:ez R C v):ez (R++[r]) C v:=by
 let(c,e,f,g):=h;let d:∀(c:Ζ)(R:List am),c.length=R.length->∀u,aD (c++[0]) (R++[r]) u=aD c R u:=by
  intro c;induction c with
  |nil=>intro R b u;rw[jv b.symm];change 0*r u+0=0;lk
  |cons a c i=>
   intro R b u;cases R with
   |nil=>simp at b
   |cons s R=>change a*s u+aD (c++[0]) (R++[r]) u=a*s u+aD c R u;rw[i R 5#b]
 show(c++[0],by simp[e],λu=>#v[d c R e,f],λx j=>?_);obtain h|h:=fz.mp j;show g x h;rw[gW.mp h];show cJ _
def cL.A4(h:cL R v)(S:List am)(a:∀r∈R,r∈S):cL S v:=h.trans λr b=>cL.q<|a r b
def cL.A1{f:Nat->am}:∀(a:List Nat){l:am},(∀p∈a,cL S (f p))->(cL S l↔cL S (iI f a l))
 |[],_,_=>Iff.rfl
 |p::a,l,h=>by
  show Iff.trans ?_<|cL.A1 a λq c=>h q<|.tail _ c;show(λb=>b.J (h p<|.head _) _,λb=>(b.J (h p<|.head _)<|-(l p / f p p)).F λu=>by ext sXq;rw[mF];lk)
structure qR(N M X B:Nat)(R:List am)(P:List Nat)(f:Nat->am)(l:am)(t:Nat):Prop where
 a:fI P f
 e:P.Pairwise (·<·)
 b:P.length+1=R.length
 d:R.length<=N
 fr:∀p∈P,ez R (ja N M X B*kb N B ^ (P.filter λp=>aJ<|p<t).length) (f p)
 g:ez R (ja N M X B*kb N B ^ (P.filter λp=>aJ<|p<t).length) l
 j:∀r∈R,cL (P.map f++[l]) r
 n:∀i,i<t->l i=0
 h:∀p∈P,0<=l p/\l p<f p p
 c:∀p∈P,(f p p).natAbs<=B
 m:∀p∈P,∀q∈P,(f p q).natAbs<=2*B*B
 k:∀p∈P,t<=p->∀q∈P,(f p q).natAbs<=B
def fB(f:Nat->am)(p:Nat)(v:am):Nat->am:=λq=>if q=p then v else f q
def jZ:fB f p v p=v:=aw O
def jA{p q:Nat}(h:q≠p):fB f p v q=f q:=ar h
def gQ(a:Int)(v:am)(b:Int)(w:am):am:=λu=>a*v u+b*w u
def qR.next{N M X B:Nat}{t p:Nat}{g a b c d:Int}(hB:1<=B)(T:qR N M X B R P f l t)(o:p∈P)(v:∀i,i<p->l i=0)(a6:l p≠0)(W:t<=p)(G:qS (f p p) (l p) g a b 0 c d):qR N M X B R P (fB f p<|gQ a (f p) b l) (iI (fB f p<|gQ a (f p) b l) P<|gQ c (f p) d l) (p+1)/\fI P (fB f p<|gQ a (f p) b l):=by
 let hG:=Bu (N:=N) hB;let x0:=T.a.a p o;let(r0,r1):=T.h p o;let xB:=T.c p o;let(U,c2):=G.le;let a1:a.natAbs<=B:=aL G.h ω;let b1:b.natAbs<=B:=aL G.e xB;let U:c.natAbs<=B:=aL U ω;let d1:d.natAbs<=B:=aL c2 xB;let lq:∀q∈P,(l q).natAbs<=B:=λq j=>by have:=T.h q j;have:=T.c q j;lk
 let fp:=T.k p o W;let ev:∀{a b:Int},a.natAbs<=B->b.natAbs<=B->∀q∈P,(gQ a (f p) b l q).natAbs<=2*B*B:=λ{a b} ha hb q j=>by
  let t1:(a*f p q).natAbs<=B*B:=%[gm|iE ha<|fp q j]
  let t2:(b*l q).natAbs<=B*B:=%[gm|iE hb<|lq q j]
  let t3:=qJ (a*f p q)<|b*l q;change(a*f p q+b*l q).natAbs<=_;rw[ge];generalize B*B=Y at t1 t2 ⊢;lk
 let E:gQ a (f p) b l p=g:=by change a*f p p+b*l p=g;show G.t.symm
 let g1:=G.a;let a0:g.natAbs<=B:=by
  let hm:=G.c;rw[Int.natAbs_zero,Nat.mul_zero,akf] at hm;obtain z|z:=vX d.natAbs
  ·rw[z,Nat.zero_mul] at hm;lk
  ·have:1*g.natAbs<=d.natAbs*g.natAbs:=eC _ z
   lk
 let k:fI P (fB f p<|gQ a (f p) b l):=by
  show(λq j i V=>?_,λq j=>?_)
  ·cases e:q=p
   ·subst e;rw[jZ];change a*f q i+b*l i=0;rw[T.a.z q j i V,v i V];lk
   ·rw[jA e];show T.a.z q j i V
  ·cases e:q=p
   ·subst e;rw[jZ,E];show g1
   ·rw[jA e];show T.a.a q j
 show(?_,k);let H:P.length<=N:=by have:=T.b;have:=T.d;lk
 generalize hK:ja N M X B*kb N B ^ (P.filter λp=>aJ<|p<t).length=K;let fr:=T.fr;let lr:=T.g;rw[hK] at fr lr;let mr:∀{a b:Int},a.natAbs<=B->b.natAbs<=B->ez R (2*B*K) (gQ a (f p) b l):=λ{a b} ha hb=>((fr p o).J lr ha hb).q (by rw[ge];lk);let kl:K<=2*B*K:=rT _ ω;let I:∀q∈P,ez R (2*B*K) (fB f p (gQ a (f p) b l) q):=λq j=>by
  cases e:q=p
  ·subst e;rw[jZ];show mr a1 b1
  ·rw[jA e];show(fr q j).q kl
 let L:∀q∈P,∀r∈P,(fB f p (gQ a (f p) b l) q r).natAbs<=2*B*B:=λq j r C=>by
  cases e:q=p
  ·subst e;rw[jZ];show ev a1 b1 r C
  ·rw[jA e];show T.m q j r C
 let(a2,a7):=uu I L k.a P (λq j=>j) (mr U d1)<|ev U d1;let a3:(P.filter λq=>aJ<|q<t).length+1<=(P.filter λq=>aJ<|q<p+1).length:=by
  let D:(P.filter λq=>aJ<|q<t)++[p] ⊆ P.filter λq=>aJ<|q<p+1:=λq j=>by
   obtain h|h:=fz.mp j
   ·let(D,h2):=ff.mp h
    have:=gP h2;show ff.mpr (D,cN (í (à this W)))
   ·rw[gW.mp h];show ff.mpr (o,cN ß)
  let nd:P.Nodup:=T.e.imp λh=>cP h;let a4:((P.filter λq=>aJ<|q<t)++[p]).Nodup:=by
   rw[mB];show(nd.filter _,by simp,λx hx y hy=>?_);rw[gW.mp hy];have:=gP (ff.mp hx).2;show õ (à this W)
  have:=a4.length_le_of_subset D
  simpa using this
 let m:2*B*K+P.length*(2*B*B*(1+2*B*B) ^ P.length*(2*B*K))<=kb N B*K:=by
  ext kb wz;let D:(1+2*B*B) ^ P.length<=(1+2*B*B) ^ N:=iD ü H;generalize 2*B*B=Y at D ⊢;let h2:P.length*(Y*(1+Y) ^ P.length*(2*B*K))<=N*(Y*(1+Y) ^ N*(2*B*K)):=iE H<|eC _<|eD _ D;show aL (vY h2 _)<|pI ?_;generalize Y*(1+Y) ^ N=Z;generalize 2*B=Q;rw[my,oI,mz,<-ge N Z,kB Q<|N*Z,ge<|N*Z]
 let n:kb N B*K<=ja N M X B*kb N B ^ (P.filter λq=>aJ<|q<p+1).length:=by
  rw[<-hK,KU,<-akb];show eD _<|iD hG a3
 let a5:2*B*K<=kb N B*K:=aL (iY _ _) m;let S:=G.g;show(k,T.e,T.b,T.d,λq j=>(I q j).q<|aL a5 n,a2.q<|aL m n,λr C=>?_,?_,λq j=>Bo k T.e q j,λq j=>?_,L,λq j a8 r C=>?_)
 ·-- the old rows out of the new ones
  let S1:∀q∈P,cL (P.map (fB f p<|gQ a (f p) b l)++[iI (fB f p<|gQ a (f p) b l) P<|gQ c (f p) d l]) (fB f p (gQ a (f p) b l) q):=λq j=>cL.q<|kW _<|aW.mpr (q,j,O);let S2:=(cL.A1 P (l:=gQ c (f p) d l) S1).mpr<|cL.q<|iF _<|gW.mpr O;let A:=S1 p o;rw[jZ] at A;let ef:∀{x y z w:Int},(a*d-b*c=1\/a*d-b*c=-1)->∀u,x=(a*d-b*c)*d->y=(a*d-b*c)*(-b)->x*gQ a (f p) b l u+y*gQ c (f p) d l u=f p u:=λ{x y z w} hd u ex ey=>by
   subst ex ey;change(a*d-b*c)*d*(a*f p u+b*l u)+(a*d-b*c)*(-b)*(c*f p u+d*l u)=f p u;let e:(a*d-b*c)*d*(a*f p u+b*l u)+(a*d-b*c)*(-b)*(c*f p u+d*l u)=(a*d-b*c)*(a*d-b*c)*f p u:=by
    rw[jk,jk,jk,<-jK]
    congr 1
    rw[jK,jK,mF,mF,<-jk,<-jk,<-jk,<-jk,A_,jw d a,jw d b];lk
   rw[e];obtain h|h:=hd<;>rw[h]<;>lk
  let el:∀{x y:Int},(a*d-b*c=1\/a*d-b*c=-1)->∀u,x=(a*d-b*c)*(-c)->y=(a*d-b*c)*a->x*gQ a (f p) b l u+y*gQ c (f p) d l u=l u:=λ{x y} hd u ex ey=>by
   subst ex ey;change(a*d-b*c)*(-c)*(a*f p u+b*l u)+(a*d-b*c)*a*(c*f p u+d*l u)=l u;let e:(a*d-b*c)*(-c)*(a*f p u+b*l u)+(a*d-b*c)*a*(c*f p u+d*l u)=(a*d-b*c)*(a*d-b*c)*l u:=by
    rw[jk,jk,jk,<-jK]
    congr 1
    rw[jK,jK,mF,mF,<-jk,<-jk,<-jk,<-jk,A_,jw c a,jw c b];lk
   rw[e];obtain h|h:=hd<;>rw[h]<;>lk
  let Sf:=(A.A2 S2 ((a*d-b*c)*d)<|(a*d-b*c)*(-b)).F (w:=f p) λu=>(ef (z:=0) (w:=0) S u O O).symm;let Sl:=(A.A2 S2 ((a*d-b*c)*(-c))<|(a*d-b*c)*a).F (w:=l) λu=>(el S u O O).symm;show(T.j r C).trans λs hs=>?_;obtain h|h:=fz.mp hs
  ·let(q,j,rfl):=aW.mp h
   cases e:q=p
   ·subst e;show Sf
   ·have:=S1 q j
    rw[jA e] at this;show this
  ·rw[gW.mp h];show Sl
 ·show Mq k λi V=>?_
  change c*f p i+d*l i=0
  cases e:i=p
  ·subst e;show G.l.symm
  ·rw[T.a.z p o i %[|þ (ò V) e],v i %[|þ (ò V) e]];lk
 ·cases e:q=p
  ·subst e;rw[jZ,E];show a0
  ·rw[jA e];show T.c q j
 ·rw[jA (show q≠p from ö a8)];show T.k q j (à W (ì a8)) r C
def ins(q:Nat):List Nat->List Nat
 |[]=>[q]
 |p::P=>if q<p then q::p::P else p::ins q P
def sI{q x:Nat}:∀{P:List Nat},x∈ins q P↔x=q\/x∈P
 |[]=>by simp[ins]
 |p::P=>by
  ext ins;split;simp;rw[ci,sI,ci];k_in;rintro(h|h|h);show .inr<|.inl h;show .inl h;show .inr<|.inr h;rintro(h|h|h);show .inr<|.inl h;show .inl h;show .inr<|.inr h
def FI{q:Nat}:∀{P:List Nat},(ins q P).length=P.length+1
 |[]=>O
 |p::P=>by ext ins;split<;>simp[FI]
set_option tactic.hygienic true in
def MB{q:Nat}:∀{P:List Nat},P.Pairwise (·<·)->q∉P->(ins q P).Pairwise (·<·)
 |[],_,_=>by simp[ins]
 |p::P,h,c=>by
  rw[kU] at h;ext ins;split;rename_i a;rw[kU,kU];show(λx b=>?_,h);obtain rfl|b:=ci.mp b;show a;show uh a<|h.1 x b;rename_i a;rw[kU];show(λx b=>?_,MB h.2 λz=>c<|.tail _ z);obtain rfl|b:=sI.mp b;have:x≠p:=λz=>c<|z▸.head _;show ÿ (ô a) this;show h.1 x b
def g_(f:Nat->am):List Nat->Nat->am
 |[]=>f
 |p::a=>fB (g_ f a) p (iI (g_ f a) a<|f p)
section
variable{f:Nat->am}
def Mo:∀{a:List Nat}{q:Nat},q∉a->g_ f a q=f q
 |[],_,_=>O
 |p::a,q,h=>by
  change fB (g_ f a) p _ q=f q;rw[jA<|show q≠p from λz=>h %[z|.head _],Mo λz=>h<|.tail _ z]
def wo{p q:Nat}{a:List Nat}(h:q≠p):g_ f (p::a) q=g_ f a q:=jA h
def yR{p:Nat}{a:List Nat}:g_ f (p::a) p=iI (g_ f a) a (f p):=jZ
def Fy:∀{b:List Nat},fI b f->b.Pairwise (·<·)->fI b (g_ f b)/\∀p∈b,g_ f b p p=f p p
 |[],_,_=>(((λp c=>nomatch c),(λp c=>nomatch c)),λp c=>nomatch c)
 |p::b,h,d=>by
  rw[kU] at d;let(e,m):=Fy (h.q λq a=>.tail _ a) d.2;let j:∀q∈b,q≠p:=λq a=>cQ<|cP<|d.1 q a;let k:g_ f (p::b) p p=f p p:=#v[yR,Bm e λq a=>d.1 q a]
  let l:∀q∈b,g_ f (p::b) q q=f q q:=λq a=>%[wo<|j q a|m q a]
  show((λq a i g=>?_,λq a=>?_),λq a=>?_);obtain rfl|a:=ci.mp a;rw[yR,Bm e λr n=>uh g<|d.1 r n];show h.z q (.head _) i g;rw[wo<|j q a];show e.z q a i g;obtain rfl|a:=ci.mp a;rw[k];show h.a q<|.head _;rw[l q a];show h.a q<|.tail _ a;obtain rfl|a:=ci.mp a;show k;show l q a
def Fx:∀{a:List Nat},fI a f->a.Pairwise (·<·)->∀p∈a,∀q∈a,p<q->0<=g_ f a p q/\g_ f a p q<g_ f a q q
 |p::a,h,e,r,b,q,c,g=>by
  rw[kU] at e;let i:fI a f:=h.q λq c=>.tail _ c;let(k,l):=Fy i e.2;let j:∀q∈a,q≠p:=λq c=>cQ<|cP<|e.1 q c;let d:q∈a:=by
   obtain rfl|c:=ci.mp c;obtain rfl|b:=ci.mp b;lk
   have:=e.1 r b;lk
   show c
  rw[wo<|j q d];obtain rfl|b:=ci.mp b;rw[yR];show Bo k e.2 q d;rw[wo<|j r b];show Fx i e.2 r b q d g
def Mn:∀{a:List Nat}{S:List am},a.Nodup->(∀p∈a,cL S (g_ f a p))->∀p∈a,cL S (f p)
 |p::a,S,d,h,q,b=>by
  let(e,g):=kD.mp d;let i:∀q∈a,q≠p:=λq b z=>e<|z▸b;let c:∀q∈a,cL S (g_ f a q):=λq b=>by have:=h q<|.tail _ b;rwa [wo<|i q b] at this
  obtain rfl|b:=ci.mp b
  have:=h q<|.head _
  rw[yR] at this;show(cL.A1 a c).mpr this;show Mn g c q b
def Mp:∀{a:List Nat}{S:List am},a.Nodup->(∀p∈a,cL S (f p))->∀p∈a,cL S (g_ f a p)
 |p::a,S,d,h,q,b=>by
  let(e,g):=kD.mp d;let c:=Mp (S:=S) g λq b=>h q<|.tail _ b;obtain rfl|b:=ci.mp b;rw[yR];show(cL.A1 a c).mp<|h q<|.head _;rw[wo<|show q≠p from λz=>e<|z▸b];show c q b
end
structure fC(N M X B:Nat)(R:List am)(P:List Nat)(f:Nat->am):Prop where
 a:fI P f
 b:P.Pairwise (·<·)
 c:P.length=R.length
 h:R.length<=N
 fr:∀p∈P,ez R (iK N X B) (f p)
 e:∀r∈R,cL (P.map f) r
 d:∀p∈P,∀q∈P,p<q->0<=f p q/\f p q<f q q
 g:∀p∈P,(f p p).natAbs<=B
def fC.J:fC N M X B [] [] f:=
 (((λp a=>nomatch a),(λp a=>nomatch a)),.nil,O,cJ _,(λp a=>nomatch a),(λp a=>nomatch a),(λp a=>nomatch a),(λp a=>nomatch a))
def fC.F(F:fC N M X B R P f):∀p∈P,∀q∈P,(f p q).natAbs<=B:=λp a q b=>by
 obtain h|h|h:=nN p q
 have:=F.d p a q b h;have:=F.g q b;lk
 subst h;show F.g p a;rw[F.a.z p a q h];show cJ _
def fC.A0{N M X B:Nat}{r:am}(g:1<=B)(F:fC N M X B w P f)(d:w.length<N)(j:∀p∈P,(r p).natAbs<=M):qR N M X B (w++[r]) P f (iI f P r) 0:=by
 let c:P.length<=N:=by have:=F.c;show à (å this) (ì d)
 let e:(P.filter λp=>aJ<|p<0).length=0:=by rw[Fa.mpr];rfl;intro p _;simp
 let(k,v):=uu (R:=w++[r]) (λp a=>(F.fr p a).A0) F.F F.a.a P (λq b=>b) (ez.F<|iF w<|gW.mpr O) j;let l:1+P.length*(M*(1+B) ^ P.length*iK N X B)<=ja N M X B:=by
  ext ja;let m:(1+B) ^ P.length<=(1+B) ^ N:=iD ü c;have:=iE c<|eC (iK N X B)<|eD M m;lk
 let n:iK N X B<=ja N M X B:=by ext ja;show í ý
 show(F.a,F.b,by rw[eE,F.c];rfl,%[eE|d],λp a=>?_,?_,λs o=>?_,(λi t=>bo t<|qE _),λp a=>Bo F.a F.b p a,F.g,λp a q b=>?_,λp a _ q b=>F.F p a q b);rw[e,KR,oI];show(F.fr p a).A0.q n;rw[e,KR,oI];show k.q l;obtain h|h:=fz.mp o;show(F.e s h).A4 _ λx u=>kW _ u;rw[gW.mp h];show(cL.A1 P λq b=>cL.q<|kW _<|aW.mpr (q,b,O)).mpr<|cL.q<|iF _<|gW.mpr O;show aL (F.F p a q b) ?_;rw[ge];have:B*1<=B*B:=eD _ g;lk
def pU(N M X B:Nat):Nat:=ja N M X B*kb N B ^ N
def kG(N M X B:Nat):Nat:=pU N M X B+N*(N*(pU N M X B*M)*(1+B) ^ N*iK N X B)
def ni(l:am)(q:Nat):am:=if 0<l q then l else λu=>-l u
def ez.A2(h:ez R C v):ez R C λu=>-v u:=
 ((h.J h (k:=-1) (m:=0) (A:=1) (B:=0) ξ ξ).q ω).eq λu=>ω
def cL.A3(h:cL R v):cL R λu=>-v u:=(h.A2 h (-1) 0).F λu=>ω
structure lj(N M X B:Nat)(R:List am):Prop where
 ind:oY R
 a:∀(P:List Nat)(f:Nat->am),fI P f->P.Pairwise (·<·)->(∀r∈R,cL (P.map f) r)->(∀p∈P,cL R (f p))->P.length=R.length->(∀p∈P,(f p p).natAbs<=B)/\(∀r∈R,∀p∈P,(r p).natAbs<=M)/\∀(c:Ζ)(V:Nat),c.length=R.length->(∀p∈P,(aD c R p).natAbs<=V)->∀x∈c,x.natAbs<=N*(V*X)
structure yX(N M X B:Nat)(R:List am)(P:List Nat)(f:Nat->am):Prop where
 d:fI P f
 a:P.Pairwise (·<·)
 c:P.length=R.length
 b:R.length<=N
 fr:∀p∈P,ez R (pU N M X B) (f p)
 e:∀r∈R,cL (P.map f) r
section
variable{N M X B:Nat}{R:List am}{P:List Nat}{f:Nat->am}
def qR.F{t:Nat}(T:qR N M X B R P f l t)(a:1<=B):ja N M X B*kb N B ^ (P.filter λp=>aJ<|p<t).length<=pU N M X B:=
 eD _<|iD (Bu a)<|aL (rZ _ _) (by have:=T.b;have:=T.d;lk)
set_option tactic.hygienic true in
def qR.A2{t q:Nat}(n:1<=B)(T:qR N M X B R P f l t)(m:q∉P)(b:∀i,i<q->l i=0)(o:l q≠0):yX N M X B R (ins q P) (fB f q<|ni l q):=by
 let c:∀p∈P,p≠q:=λp a z=>m<|z▸a;let e:=T.F n;let g:0<ni l q q:=by
  ext ni;split;assumption;change 0 < -l q;lk
 let j:∀i,i<q->ni l q i=0:=λi d=>by
  have:=b i d;ext ni;split
  show this;change -l i=0;lk
 let k:ez R (pU N M X B) (ni l q):=by
  ext ni;split;show T.g.q e;show(T.g.q e).A2
 show((λp a i d=>?_,λp a=>?_),MB T.e m,#v[FI,T.b],T.d,λp a=>?_,λr v=>(T.j r v).trans λs w=>?_);obtain rfl|a:=sI.mp a;rw[jZ];show j i d;rw[jA<|c p a];show T.a.z p a i d;obtain rfl|a:=sI.mp a;rw[jZ];show g;rw[jA<|c p a];show T.a.a p a;obtain rfl|a:=sI.mp a;rw[jZ];show k;rw[jA<|c p a];show(T.fr p a).q e;obtain h|h:=fz.mp w;let(p,a,rfl):=aW.mp h;show cL.q<|aW.mpr (p,sI.mpr<|.inr a,jA<|c p a);rw[gW.mp h];have:cL ((ins q P).map<|fB f q<|ni l q) (ni l q):=cL.q<|aW.mpr (q,sI.mpr<|.inl O,jZ);unfold ni at this ⊢;split at this;rename_i h;rw[aw h];show this;rename_i h;rw[ar h];show this.A3.F λu=>by change l u=-(-l u);lk
def yX.F(D:lj N M X B R)(S:yX N M X B R P f):(∀p∈P,(f p p).natAbs<=B)/\(∀r∈R,∀p∈P,(r p).natAbs<=M)/\∀(c:Ζ)(V:Nat),c.length=R.length->(∀p∈P,(aD c R p).natAbs<=V)->∀x∈c,x.natAbs<=N*(V*X):=
 D.a P f S.d S.a S.e (λp a=>(S.fr p a).sp) S.c
def yX.q(u:1<=B)(D:lj N M X B R)(S:yX N M X B R P f){pre ps:List Nat}(e:P=pre++ps):fI ps (g_ f ps)/\(∀p∈ps,∀q∈P,(g_ f ps p q).natAbs<=B)/\∀p∈ps,ez R (iK N X B) (g_ f ps p):=by
 let i:∀p∈ps,p∈P:=λp b=>%[e|iF _ b]
 let a:=S.a;rw[e,Le] at a;let j:fI ps f:=S.d.q i;let(k,l):=Fy j a.2.1;let(m,v,r):=S.F D;let n:∀p∈ps,∀q∈P,(g_ f ps p q).natAbs<=B:=λp b q d=>by
  obtain h|h|h:=nN p q;let g:q∈ps:=by
   rw[e] at d;obtain z|z:=fz.mp d
   have:=a.2.2 q z p b;lk
   show z
  let s:=Fx j a.2.1 p b q g h;rw[l q g] at s;have:=m q d;lk;subst h;rw[l p b];show m p d;rw[k.z p b q h];show cJ _
 show(k,n,λp b=>?_);let t:cL R (g_ f ps p):=Mp (a.2.1.imp λh=>cP h) (λq d=>(S.fr q<|i q d).sp) p b;let(c,o,e):=t;show(c,o,e,r c B o λq d=>by rw[<-e];show n p b q d)
def yX.met(o:1<=B)(D:lj N M X B R)(S:yX N M X B R P f){d c:List Nat}{p:Nat}(e:P=d++p::c)(i:Nat):ez R (kG N M X B) (iI (g_ f c) (c.take i)<|f p):=by
 let h:P=(d++[p])++c:=by rw[e];simp
 let(s,t,u):=S.q o D h;let(ϟ,v,ϟ):=S.F D;let n:p∈P:=by rw[e];simp
 let V:∀q∈c,(f p q).natAbs<=N*(pU N M X B*M):=λq j=>by
  let k:q∈P:=%[h|iF _ j]
  show aL ((S.fr p n).le λr w=>v r w q k)<|eC _ S.b
 let g:(c.take i).length<=N:=by
  let l:=jy ah h;rw[eE,S.c] at l;have:=S.b;rw[gf];lk
 let(r,ϟ):=uu (P:=c) u (λa x b m=>t a x b %[h|iF _ m]) s.a (c.take i) (λq j=>qH j) (S.fr p n) V;show r.q ?_;ext kG;let l:(1+B) ^ (c.take i).length<=(1+B) ^ N:=iD ü g;show vY (iE g<|eC _<|eD _ l) _
def yX.done(b:1<=B)(D:lj N M X B R)(S:yX N M X B R P f):fC N M X B R P (g_ f P):=by
 let(c,d,e):=S.q b D (pre:=[]) (ps:=P) O;let g:P.Nodup:=S.a.imp λh=>cP h;show(c,S.a,S.c,S.b,e,λr i=>(S.e r i).trans λs j=>?_,Fx S.d S.a,λp a=>d p a p a);let(p,a,rfl):=aW.mp j;show Mn g (λq k=>cL.q<|aW.mpr (q,k,O)) p a
end
def yQ(N M:Nat):Nat:=(2*N*M) ^ N
def Mm(N M:Nat):Nat:=N*(yQ N M*M)
def Ml{N M j:Nat}(a:1<=N)(b:1<=M)(c:j<=N):(2*j*M) ^ (j-1)<=yQ N M:=by
 let d:2*j*M<=2*N*M:=eC _<|eD _ c;show aL (qD d _)<|iD (pR (pR ξ a) b) ω
def VD{N M:Nat}(j:1<=N)(d:1<=M)(e:oY R)(a:R.length<=N)(g:∀r∈R,∀u,(r u).natAbs<=M):lj N M (yQ N M) (Mm N M) R:=by
 show(e,λP f h i k s l=>(λp m=>?_,λr b p _=>g r b p,λc V n o x q=>?_));show aL (Vg d e h i k l (λr b p _=>g r b p) m) ?_;show iE a<|eC _<|Ml j d a;show aL (Vs d (λr b p _=>g r b p) l (i.imp λh=>cP h) (wu e h i k) n o x q) ?_;show iE a<|eD _<|Ml j d a
def jY(f:Nat->am):List Nat->am->Ζ
 |[],_=>[]
 |p::a,l=>l p / f p p::jY f a (sXq f p l)
section
variable{f:Nat->am}
def Fw:∀(a:List Nat)(l:am),(jY f a l).length=a.length
 |[],_=>O
 |p::a,l=>by change(jY f a<|sXq f p l).length+1=a.length+1;rw[Fw a]
def Fv:∀{b:List Nat}{l:am},fI b f->b.Pairwise (·<·)->cL (b.map f) l->∀u,l u=aD (jY f b l) (b.map f) u
 |[],l,_,_,(c,d,e),u=>by rw[e];cases c with|nil=>rfl|cons _ _=>simp at d
 |p::b,l,h,g,(c,d,e),u=>by
  cases c with
  |nil=>simp at d
  |cons a c=>
   rw[kU] at g;let j:fI b f:=h.q λq k=>.tail _ k;let w:=h.a p<|.head _;let m:l p=a*f p p:=by
    rw[e];change a*f p p+aD c (b.map f) p=a*f p p;rw[nn c (b.map f) λv n=>by
     let(r,i,rfl):=aW.mp n;show h.z r (.tail _ i) p<|g.1 r i]
    lk
   let o:l p / f p p=a:=%[m|Int.mul_ediv_cancel a ω]
   let s:cL (b.map f) (sXq f p l):=(c,by simpa using d,λu=>by
    ext sXq;rw[o,e];change a*f p u+aD c (b.map f) u-a*f p u=_;lk)
   let t:=Fv j g.2 s u;change l u=l p / f p p*f p u+aD (jY f b<|sXq f p l) (b.map f) u;rw[<-t];ext sXq;lk
end
def bC(s t:Nat):Int:=if s=t then 1 else 0
structure BA(k:Nat)(U Bc:List am):Prop where
 c:U.length=k
 a:Bc.length=k
 d:∀s t,s<k->t<k->aD (Bc.map λb=>b s) U t=bC s t
def MQ{t:Nat}:∀(c:Ζ)(A B:List am),A.length=B.length->(∀(i:Nat) a b,A[i]?=aa a->B[i]?=aa b->a t=b t)->aD c A t=aD c B t
 |[],[],[],_,_=>O
 |[],_::_,_::_,_,_=>O
 |_::_,[],[],_,_=>O
 |x::c,a::A,b::B,d,h=>by
  change x*a t+aD c A t=x*b t+aD c B t;rw[h 0 a b O O,MQ c A B 5#d λi a b e f=>h (i+1) a b 5#e 5#f]
 |[],[],_::_,d,_=>by simp at d
 |[],_::_,[],d,_=>by simp at d
 |_::_,[],_::_,d,_=>by simp at d
 |_::_,_::_,[],d,_=>by simp at d
def Vc(row:Ζ):(aP row.length).map (λj=>row.getD j 0)=row:=by
 apply kX;simp;intro i a b;simp at a;simp[b]
def MN{U:List am}{k s t:Nat}(g:U.length=k):∀(c:Ξ)(a:List am),(∀row∈c,row.length=k)->
  aD ((aP k).map λj=>aD (c.map λrow=>row.getD j 0) a s) U t=aD (a.map λb=>b s) (c.map λrow=>aD row U) t
 |[],a,_=>by
  let e:((aP k).map λj=>aD (([]:Ξ).map λrow=>row.getD j 0) a s)=(aP k).map λ_=>0:=iZ λj _=>by cases a<;>rfl
  rw[e,ux _ _ _ (λx d=>by let(ϟ,ϟ,rfl):=aW.mp d;rfl)];cases a<;>rfl
 |row::c,[],h=>by
  let e:((aP k).map λj=>aD ((row::c).map λrow=>row.getD j 0) [] s)=(aP k).map λ_=>0:=iZ λj _=>O;rw[e,ux _ _ _ (λx d=>by let(ϟ,ϟ,rfl):=aW.mp d;rfl)];rfl
 |row::c,b::a,h=>by
  let l:=MN (s:=s) (t:=t) g c a λr f=>h r<|.tail _ f;let f:=h row<|.head _;let e:((aP k).map λj=>aD ((row::c).map λrow=>row.getD j 0) (b::a) s)=fe (λx y=>b s*x+1*y) row ((aP k).map λj=>aD (c.map λrow=>row.getD j 0) a s):=by
   apply kX;rw[i_,aA,aA,gX,f,yu];intro i m n;rw[aA,gX] at m;rw[oO,iG,iG,mD];change row.getD i 0*b s+aD (c.map λrow=>row.getD i 0) a s=_;rw[co,bu %[|à m (æ f)],jw];change b s*row[i]+_=_;lk
  rw[e,mG _ _ _ _ U %[|û (à (å f) (æ g)) (à (å g) (æ f))] #v[aA,gX,g],l];change _=b s*aD row U t+aD (a.map λb=>b s) (c.map λrow=>aD row U) t;lk
def BA.next{k:Nat}{U c V:List am}{sh:Ξ}(D:BA k U c)(d:V.length=k)(g:sh.length=k)(h:∀row∈sh,row.length=k)(l:∀(i:Nat) u row t,U[i]?=aa u->sh[i]?=aa row->t<k->u t=aD row V t):BA k V ((aP k).map λj=>λs=>aD (sh.map λrow=>row.getD j 0) c s):=by
 show(d,by simp,λs t m e=>?_);rw[dC];change aD ((aP k).map λj=>aD (sh.map λrow=>row.getD j 0) c s) V t=bC s t;rw[MN d sh c h,<-D.d s t m e];show MQ _ _ _ #v[aA,g,D.c] λi a b f n=>?_;rw[ca] at f;let(row,o,rfl):=ue.mp f;show(l i b row t n o e).symm
def au:Nat->am->am->Int
 |0,_,_=>0
 |k+1,a,b=>au k a b+a k*b k
def uv{k:Nat}{a a' b:am}{x y:Int}:au k (λu=>x*a u+y*a' u) b=x*au k a b+y*au k a' b:=by
 induction k with
 |zero=>change(0:Int)=x*0+y*0;lk
 |succ k c=>
  change au k _ b+(x*a k+y*a' k)*b k=x*(au k a b+a k*b k)+y*(au k a' b+a' k*b k);rw[c,Uq,jK,jK,jk,jk];lk
def gp{k:Nat}{a b:am}(h:∀t,t<k->a t=0):au k a b=0:=by
 induction k with
 |zero=>rfl
 |succ k c=>change au k a b+a k*b k=0;rw[c λt d=>h t %[|í d],h k %[|ß]];lk
def iu{k:Nat}{a a' b:am}(h:∀t,t<k->a t=a' t):au k a b=au k a' b:=by
 induction k with
 |zero=>rfl
 |succ k c=>change au k a b+a k*b k=au k a' b+a' k*b k;rw[c λt d=>h t %[|í d],h k %[|ß]]
def FN:∀(c:Ζ)(L:List am),au d (aD c L) b=aD c (L.map λl=>λ_=>au d l b) 0
 |[],[]=>gp λ_ _=>O
 |[],_::_=>gp λ_ _=>O
 |_::_,[]=>gp λ_ _=>O
 |e::c,l::L=>by
  change au d (λu=>e*l u+aD c L u) b=e*au d l b+aD c (L.map λl=>λ_=>au d l b) 0;rw[<-FN c L];have:=uv (k:=d) (a:=l) (a':=aD c L) (b:=b) (x:=e) (y:=1);rw[nQ] at this;rw[<-this];show iu λt _=>ω
def FO{U:List am}{t:Nat}:∀(k:Nat)(x:am)(a:List am),a.length=U.length->aD (a.map λb=>au k x b) U t=au k x (λs=>aD (a.map λb=>b s) U t)
 |0,x,a,_=>ux _ _ _ λy d=>by let(ϟ,ϟ,rfl):=aW.mp d;rfl
 |k+1,x,a,c=>by
  change aD (a.map λb=>au k x b+x k*b k) U t=au k x (λs=>aD (a.map λb=>b s) U t)+x k*aD (a.map λb=>b k) U t;rw[<-FO k x a c];have:=mG 1 (x k) (a.map λb=>au k x b) (a.map λb=>b k) U #v[aA,c] #v[aA,c] t;rw[nQ] at this;rw[<-this];congr 1;apply kX;simp;intro i e f;simp
def uw{k:Nat}{t:Nat}(b:t<k):au k x (λs=>bC s t)=x t:=by
 induction k with
 |zero=>lk
 |succ k a=>
  change au k x _+x k*bC k t=x t;cases e:t=k;subst e;have:au t x (λs=>bC s t)=0:=by
   let z:∀j,j<=t->au j x (λs=>bC s t)=0:=by
    intro j;induction j with
    |zero=>intro _;rfl
    |succ j a=>intro c;change au j x _+x j*bC j t=0;rw[a %[|ì c]];ext bC;rw[ar %[|õ c]];lk
   show z t<|aE _
  rw[this];ext bC;rw[aw O];lk;rw[a %[|þ (ò b) e]];ext bC;rw[ar %[|ö (þ (ò b) e)]];lk
def cZ{k:Nat}{a b b':am}(h:∀t,t<k->b t=b' t):au k a b=au k a b':=by
 induction k with
 |zero=>rfl
 |succ k c=>change au k a b+a k*b k=au k a b'+a k*b' k;rw[c λt d=>h t %[|í d],h k %[|ß]]
structure kd(k:Nat)(U Bc:List am):Prop where
 a:BA k U Bc
 b:∀(i j:Nat) u c,U[i]?=aa u->Bc[j]?=aa c->au k u c=bC i j
def Vx{k:Nat}(D:BA k U d)(p:∀c:Ζ,c.length=k->(∀t,t<k->aD c U t=0)->∀x∈c,x=0):kd k U d:=by
 show(D,λi j u c m o=>?_);let q:i<k:=by rw[<-D.c];show(dN.mp m).1
 let l:j<k:=by rw[<-D.a];show(dN.mp o).1
 let r:∀t,t<k->aD (d.map λb=>au k u b) U t=u t:=λt f=>by
  rw[FO k u d #v[D.a,D.c],cZ λs y=>D.d s t y f];show uw f
 let z:∀t,t<k->aD ((aP k).map λs=>bC i s) U t=u t:=λt f=>by
  have:∀(n:Nat)(V:List am),V.length=n->∀(i:Nat) v,V[i]?=aa v->∀t,aD ((aP n).map λs=>bC i s) V t=v t:=by
   intro n;induction n with
   |zero=>intro V g i v h;rw[jv g] at h;simp at h
   |succ n A=>
    intro V g i v h t;cases V with
    |nil=>simp at g
    |cons w V=>
     rw[List.range_succ_eq_map,fg,dC];change bC i 0*w t+aD ((aP n).map λs=>bC i<|s+1) V t=v t;cases i with
     |zero=>
      let e:v=w:=by simpa using h.symm
      rw[ux _ _ _ (λx B=>by let(s,ϟ,rfl):=aW.mp B;show ar %[|õ ý]),e];change(1:Int)*w t+0=w t;lk
     |succ i=>
      have:=A V 5#g i v 5#h t;rw[show(λs=>bC (i+1)<|s+1)=(λs=>bC i s) from funext λs=>by ext bC;simp];rw[this];change(0:Int)*w t+v t=v t;lk
  show this k U D.c i u m t
 let C:=p (fe (λa b=>a-b) (d.map λb=>au k u b)<|(aP k).map λs=>bC i s) #v[i_,aA,aA,gX,D.a,yu] λt f=>by
  rw[Bs _ _ U #v[aA,D.a,D.c] #v[aA,gX,D.c],r t f,z t f];lk
 let g:j<(fe (λa b=>a-b) (d.map λb=>au k u b)<|(aP k).map λs=>bC i s).length:=%[i_,aA,aA,gX,D.a,yu|l]
 have:=C _<|dW g;rw[oO,iG,iG,mD] at this;let e:d[j]'%[D.a|l]=c:=(dN.mp o).2;rw[e] at this;lk
def kd.q{k w:Nat}{R d:List am}(D:kd k (R.map λr=>λt=>r<|w+t) d){c:Ζ}(E:c.length=R.length)(G:∀t,t<k->aD c R (w+t)=0):∀x∈c,x=0:=by
 let M:R.length=k:=by have:=D.a.c;rwa [aA] at this
 let H:∀(c:Ζ)(R:List am)(t:Nat),aD c R (w+t)=aD c (R.map λr=>λt=>r<|w+t) t:=by
  intro c;induction c with
  |nil=>intro R t;cases R<;>rfl
  |cons a c m=>intro R t;cases R with
   |nil=>rfl
   |cons r R=>change a*r (w+t)+aD c R (w+t)=a*r (w+t)+_;rw[m]
 intro x I;let(j,y,rfl):=jW I;let n:j<d.length:=%[D.a.a|à (à y (å E)) (å M)]
 let A:au k (aD c<|R.map λr=>λt=>r<|w+t) d[j]=0:=gp λt K=>by rw[<-H];show G t K
 rw[FN] at A;let g:∀(c:Ζ)(U:List am)(b:Nat),c.length=U.length->(∀(i:Nat) u,U[i]?=aa u->au k u d[j]=bC (b+i) j)->∀(y:b<=j)(h:j-b<c.length),aD c (U.map λl=>λ_=>au k l d[j]) 0=c[j-b]:=by
  intro c;induction c with
  |nil=>intro U b _ _ _ h;simp at h
  |cons a c m=>
   intro U b B C y h;cases U with
   |nil=>simp at B
   |cons u U=>
    change a*au k u d[j]+aD c (U.map λl=>λ_=>au k l d[j]) 0=_;let o:=C 0 u O;rw[o];let f:∀(i:Nat) v,U[i]?=aa v->au k v d[j]=bC (b+1+i) j:=λi v p=>by rw[C (i+1) v 5#p];congr 1;lk
    cases e:b=j;subst e;let z:aD c (U.map λl=>λ_=>au k l d[b]) 0=0:=nn _ _ λv p=>by
     let(l,q,rfl):=aW.mp p;let(i,s,rfl):=jW q;change au k U[i] d[b]=0;rw[f i _<|bu s];ext bC;rw[ar %[|ö ü]]
    rw[z];have:b-b=0:=yq _;erw[this,List.getElem_cons_zero];ext bC;rw[aw %[|û ß ß]];lk
    have:=m U (b+1) 5#B f (þ y e) (by simp at h;lk)
    rw[this];let L:j-b=(j-(b+1))+1:=ω;erw[L,List.getElem_cons_succ];ext bC;rw[ar %[|õ (þ y e)]];lk
 have:=g c (R.map λr=>λt=>r<|w+t) 0 #v[aA,E] (λi u o=>%[vV|D.b i j u d[j] o<|bu n]) (cJ _) ω;rw[A] at this;show this.symm
def l_:List Nat->Ξ
 |[]=>[[]]
 |t::b=>(l_ b).flatMap λc=>(aP t).map λa:Nat=>(a:Int)::c
def cU:List Nat->Nat
 |[]=>1
 |t::a=>t*cU a
def wD:∀b,(l_ b).length=cU b
 |[]=>O
 |t::b=>by
  have:∀l:Ξ,(l.flatMap λc=>(aP t).map λa:Nat=>(a:Int)::c).length=t*l.length:=by
   intro l;induction l with
   |nil=>simp
   |cons c l d=>rw[AW,eE,aA,gX,d,dI,my];lk
  change((l_ b).flatMap _).length=_;rw[this,wD b];rfl
def wC:∀{b:List Nat}{c:Ζ},c∈l_ b↔c.length=b.length/\∀(i:Nat) x t,c[i]?=aa x->b[i]?=aa t->0<=x/\x<(t:Int)
 |[],c=>by
  change c∈[[]]↔_;rw[gW];k_in;rintro rfl;show(O,λi x t h=>by simp at h);intro h;show jv h.1
 |t::b,c=>by
  change c∈(l_ b).flatMap (λc=>(aP t).map λa:Nat=>(a:Int)::c)↔_;rw[mC];k_in;rintro⟨d,m,h⟩;let(a,k,rfl):=aW.mp h;let(e,f):=wC.mp m;have:=bH.mp k;show(#v[dI,e,dI],λi x l g j=>?_);cases i with
  |zero=>simp at g j;lk
  |succ i=>show f i x l 5#g 5#j
  rintro⟨e,f⟩;cases c with
  |nil=>simp at e
  |cons a d=>
   let k:=f 0 a t O O;show(d,wC.mpr (by simpa using e,λi x l g j=>f (i+1) x l 5#g 5#j),aW.mpr (a.toNat,bH.mpr ω,?_));rw[alf k.1]
def yW:∀d,(l_ d).Nodup
 |[]=>by simp[l_]
 |t::d=>by
  change((l_ d).flatMap λc=>(aP t).map λa:Nat=>(a:Int)::c).Pairwise (·≠·);rw[akn];show(λc _=>?_,(yW d).imp λ{a b} h x f y g k=>?_);rw[kC];show vZ.imp λh k=>h (by injection k with k;lk);let(i,ϟ,rfl):=aW.mp f;let(j,ϟ,rfl):=aW.mp g;injection k with _ k
  show h k
def FQ{b c:Type}{f:b->c}{l:List b}{m:List c}(d:l.Nodup)(g:∀x∈l,f x∈m)(a:∀x∈l,∀y∈l,f x=f y->x=y):l.length<=m.length:=by
 obtain h|h:=ji m.length l.length;let(x,i,y,j,k,e):=Mv f l m d g h;show bo (a x i y j e) k;show h
def fS(c:Ζ):am:=λj=>c.getD j 0
def lst(k:Nat)(x:am):Ζ:=(aP k).map x
def MA{k i:Nat}(h:i<k):(lst k x)[i]?=aa (x i):=by ext lst;rw[ca,jX h];rfl
def pS{k:Nat}:(lst k x).length=k:=by ext lst;simp
def Vk{k:Nat}:lst k x=lst k y↔∀j,j<k->x j=y j:=by
 k_in;intro h j a
 have:=jy (·[j]?) h;erw[MA a] at this;show cX this
 intro h;show iZ λj a=>h j<|bH.mp a
def lf(L:Nat->am):Nat->am->am
 |0,x=>x
 |k+1,x=>lf L k (λu=>x u-x k / L k k*L k u)
def Bz(L:Nat->am)(k:Nat)(x:am):Prop:=∃c:am,∀j,j<k->x j=aD (lst k c) ((aP k).map L) j
section
variable{L f:Nat->am}{r:Nat}{Λ:am->Prop}
structure yY(Λ:am->Prop):Prop where
 z:Λ λ_=>0
 s:∀{v w:am}(m:Int),Λ v->Λ w->Λ λu=>v u-m*w u
def yY.q(T:yY Λ):∀(c:Ζ)(S:List am),(∀s∈S,Λ s)->Λ (aD c S)
 |[],[],_=>T.z
 |[],_::_,_=>T.z
 |_::_,[],_=>T.z
 |a::c,s::S,h=>by
  have:=T.s (-a) (yY.q T c S λw b=>h w<|.tail _ b)<|h s<|.head _;let e:(λu=>aD c S u - -a*s u)=aD (a::c) (s::S):=funext λu=>by change aD c S u - -a*s u=a*s u+aD c S u;rw[mF];lk
  rw[e] at this;show this
structure nZ(Λ:am->Prop)(r:Nat)(L f:Nat->am):Prop where
 a:yY Λ
 d:∀i,i<r->Λ (L i)
 e:∀i,i<r->0<L i i
 b:∀i j,i<j->j<r->L i j=0
 h:∀i,i<r->Λ (f i)
 c:∀i,i<r->0<f i i
 g:∀i j,i<r->j<i->f i j=0
 k:∀v i,Λ v->i<r->(∀j,j<i->v j=0)->f i i ∣ v i
def Ms(T:nZ Λ r L f):∀(k:Nat)(x:am)(j:Nat),k<=j->j<r->lf L k x j=x j
 |0,_,_,_,_=>O
 |k+1,x,j,b,a=>by
  change lf L k _ j=x j;rw[Ms T k _ j %[|ì b] a,T.b k j %[|b] a];lk
def Mt(T:nZ Λ r L f):∀(k:Nat)(x:am),k<=r->∀i,i<k->0<=lf L k x i/\lf L k x i<L i i
 |k+1,x,c,i,d=>by
  cases e:i=k;subst e;change 0<=lf L i _ i/\lf L i _ i<L i i;rw[Ms T i _ i (aE _) %[|c]];let a:=T.e i c;let b:x i-x i / L i i*L i i=x i%L i i:=by have:=LI (x i)<|L i i;rw[jw] at this;lk
  rw[b];show(sA _ ω,sC _ a);show Mt T k _ (ì c) i (þ (ò d) e)
def Fz:∀(k:Nat)(x:am),∃c:am,∀u,x u-lf L k x u=aD (lst k c) ((aP k).map L) u
 |0,x=>(λ_=>0,λu=>by change x u-x u=0;lk)
 |k+1,x=>by
  let(c,f):=Fz k (λu=>x u-x k / L k k*L k u);show(λi=>if i=k then x k / L k k else c i,λu=>?_);let g:lst (k+1) (λi=>if i=k then x k / L k k else c i)=lst k c++[x k / L k k]:=by
   ext lst;rw[oM,cH];congr 1;show iZ λi h=>ar<|cP<|bH.mp h;change [if k=k then _ else _]=_;rw[aw O]
  let e:∀(c:Ζ)(S:List am)(a:Int)(v:am),c.length=S.length->aD (c++[a]) (S++[v]) u=aD c S u+a*v u:=by
   intro c;induction c with
   |nil=>intro S a v d;rw[jv d.symm];change a*v u+0=0+a*v u;lk
   |cons b c j=>intro S a v d;cases S with
    |nil=>simp at d
    |cons s S=>change b*s u+aD (c++[a]) (S++[v]) u=b*s u+aD c S u+a*v u;rw[j S a v 5#d];lk
  rw[g,oM,cH,fg,AT,e _ _ _ _ (by rw[pS];simp),<-f u];change x u-lf L k _ u=_;lk
def nZ.q(T:nZ Λ r L f){k:Nat}(g:k<=r)(a:Λ v)(h:∀j,j<k->(v j).natAbs<(f j j).natAbs):∀j,j<k->v j=0:=by
 intro j;induction j using yr with
 |_ j b=>
  intro c;let(m,e):=T.k v j a (à c g) λi d=>b i d (à d (ì c));have:=h j c;rw[e,gm] at this;obtain z|z:=vX m.natAbs;rw[e,ali.mp z,fE];have:(f j j).natAbs*1<=(f j j).natAbs*m.natAbs:=eD _ z;lk
def cj(g:Nat->am)(k:Nat):List Nat:=(aP k).map λi=>(g i i).toNat
def Bv{k:Nat}{x:Ζ}(h:x∈l_ (cj b k)):x.length=k/\∀j,j<k->0<=fS x j/\fS x j<((b j j).toNat:Int):=by
 let(a,c):=wC.mp h;unfold cj at a c;rw[aA,gX] at a;show(a,λj d=>?_);let e:x[j]?=aa (x[j]'(à d (æ a))):=bu (à d (æ a));have:=c j _ _ e (by rw[ca,jX d];rfl);ext fS;rw[co,e];show this
def LZ{x y:Ζ}{k:Nat}(c:x.length=k)(d:y.length=k)(h:∀j,j<k->fS x j=fS y j):x=y:=by
 show kX (û (à (å c) (æ d)) (à (å d) (æ c))) λi a b=>?_;have:=h i (à a (å c));unfold fS at this;rw[co,co,bu a,bu b] at this;show this
def MS(T:nZ Λ r L f){k:Nat}(d:k<=r)(x:am):lst k (lf L k x)∈l_ (cj L k):=by
 show wC.mpr (by ext cj;rw[pS];simp,λi z t a b=>?_);let c:i<k:=by have:=(dN.mp a).1;rwa [pS] at this
 rw[MA c] at a;obtain rfl:=cX a;unfold cj at b;rw[ca,jX c] at b;obtain rfl:=cX b;have:=Mt T k x d i c;have:=T.e i (à c d);change 0<=lf L k x i/\lf L k x i<((L i i).toNat:Int);lk
def Mr(T:nZ Λ r L f){k:Nat}(b:k<=r)(h:lst k (lf L k x)=lst k (lf L k y)):∃v,Λ v/\Bz L k v/\∀j,j<k->v j=x j-y j:=by
 let(c,g):=Fz (L:=L) k x;let(d,l):=Fz (L:=L) k y;let a:∀s∈(aP k).map L,Λ s:=λs m=>by
  let(i,n,rfl):=aW.mp m;show T.d i<|fm (bH.mp n) b
 let e:∀u,aD (lst k λi=>c i-d i) ((aP k).map L) u=aD (lst k c) ((aP k).map L) u-aD (lst k d) ((aP k).map L) u:=λu=>by
  rw[<-Bs _ _ _ (by rw[pS];simp) (by rw[pS];simp)];congr 1;apply kX;simp[pS];intro i p q;erw[lst,iG,mD,oO]
 show(aD (lst k λi=>c i-d i)<|(aP k).map L,T.a.q _ _ a,(_,λj _=>O),λj o=>?_);rw[e,<-g j,<-l j,Vk.mp h j o];lk
def FJ(T:nZ Λ r L f){k:Nat}(b:k<=r):cU (cj f k)<=cU (cj L k):=by
 rw[<-wD,<-wD];show FQ (f:=λx=>lst k<|lf L k<|fS x) (yW _) (λx _=>MS T b _) λx g y h e=>?_;let(v,i,ϟ,d):=Mr T b e;let(l,m):=Bv g;let(n,c):=Bv h;let z:=T.q b i λj a=>by
  let o:=m j a;let p:=c j a;let q:=T.c j (à a b);rw[d j a];lk
 show LZ l n λj a=>by have:=z j a;rw[d j a] at this;lk
def Vn(T:nZ Λ r L f){k:Nat}(t:k<=r)(hw:Λ w)(M:¬Bz L k w):2*cU (cj f k)<=cU (cj L k):=by
 let P:2*cU (cj f k)=((l_<|cj f k).map (λx=>(ahl aH x))++(l_<|cj f k).map (λx=>(ahl ap x))).length:=by rw[eE,aA,aA,wD];lk
 rw[P,<-wD];let' g:Bool×Ζ->am:=λp=>if p.1=ap then λu=>fS p.2 u+w u else fS p.2
 let n:∀p∈(l_<|cj f k).map (λx=>(ahl aH x))++(l_<|cj f k).map (λx=>(ahl ap x)),p.2∈l_ (cj f k):=λp A=>by
  obtain h|h:=fz.mp A<;>(let(x,B,rfl):=aW.mp h;show B)
 show FQ (f:=λp=>lst k<|lf L k<|g p) ?_ (λp _=>MS T t _) λp A q Q e=>?_;rw[mB];show(?_,?_,λx B y R=>?_);show ale _ (λa b(h:a≠b) e=>h (by injection e))<|yW _;show ale _ (λa b(h:a≠b) e=>h (by injection e))<|yW _;let(ϟ,ϟ,rfl):=aW.mp B;let(ϟ,ϟ,rfl):=aW.mp R;intro Y;injection Y with Y;cases Y
 let(v,s,N,m):=Mr T t e;let(a,x):=p;let(b,y):=q;let(S,U):=Bv<|show x∈_ from n _ A;let(V,C):=Bv<|show y∈_ from n _ Q;let l:∀{D:am},Λ D->(∀j,j<k->D j=fS x j-fS y j)->x=y:=λ{D} E o=>by
  let Y:=T.q t E λj d=>by
   let G:=U j d;let H:=C j d;let X:=T.c j (à d t);rw[o j d];lk
  show LZ S V λj d=>by have:=Y j d;rw[o j d] at this;lk
 cases a with
 |false=>
  cases b with
  |false=>rw[l s λj d=>by rw[m j d];rfl]
  |true=>
   exfalso;let I:=l (T.a.s (-1) s hw) λj d=>by rw[m j d];change fS x j-(fS y j+w j) - -1*w j=_;lk
   subst I;let(c,K):=N;apply M;show(λi=>-c i,λj d=>?_);let G:=m j d;let H:=K j d;let W:aD (lst k λi=>-c i) ((aP k).map L) j=-aD (lst k c) ((aP k).map L) j:=by
    have:=mG (-1) 0 (lst k c) (lst k c) ((aP k).map L) (by rw[pS];simp) (by rw[pS];simp) j;rw[show(-1:Int)*aD (lst k c) ((aP k).map L) j+0*aD (lst k c) ((aP k).map L) j=-aD (lst k c) ((aP k).map L) j from ω] at this;rw[<-this]
    congr 1;apply kX;simp[pS];intro i G H;erw[lst,iG,mD,oO];lk
   rw[W,<-H,G];change w j=-(fS x j-(fS x j+w j));lk
 |true=>
  cases b with
  |true=>rw[l s λj d=>by rw[m j d];change fS x j+w j-(fS y j+w j)=_;lk]
  |false=>
   exfalso;let I:=l (T.a.s 1 s hw) λj d=>by rw[m j d];change fS x j+w j-fS y j-1*w j=_;lk
   subst I;let(c,K):=N;show M (c,λj d=>by rw[<-K j d,m j d];change w j=fS x j+w j-fS x j;lk)
end
section
variable{L f:Nat->am}{r:Nat}{Λ:am->Prop}
def MP{j k:Nat}(h:∀i,i<k->L i j=0):aD (lst k c) ((aP k).map L) j=0:=
 nn _ _ λv a=>by
  let(i,b,rfl):=aW.mp a;show h i<|bH.mp b
def MO(u k:Nat)(c:am):aD (lst (k+1) c) ((aP<|k+1).map L) u=aD (lst k c) ((aP k).map L) u+c k*L k u:=by
 let f:∀(c:Ζ)(S:List am)(a:Int)(v:am),c.length=S.length->aD (c++[a]) (S++[v]) u=aD c S u+a*v u:=by
  intro c;induction c with
  |nil=>intro S a v d;rw[jv d.symm];change a*v u+0=0+a*v u;lk
  |cons b c g=>intro S a v d;cases S with
   |nil=>simp at d
   |cons s S=>change b*s u+aD (c++[a]) (S++[v]) u=b*s u+aD c S u+a*v u;rw[g S a v 5#d];lk
 let e:lst (k+1) c=lst k c++[c k]:=by ext lst;rw[oM,cH];rfl
 rw[e,oM,cH,fg,AT,f _ _ _ _ (by rw[pS];simp)]
def Vq(T:nZ Λ r L f)(n:∀i j,i<j->j<r->0<=f i j/\f i j<f j j)(g:∀k,k<=r->∀w,Λ w->Bz L k w)(i:Nat)(a:i<r):f i i=L i i/\(∀j,j<r->j≠i->f i j=0):=by
 let(c,C):=g i (ì a) (L i)<|T.d i a;let o:∀s∈(aP i).map L,Λ s:=λs D=>by
  let(t,b,rfl):=aW.mp D;show T.d t<|uh (bH.mp b) a
 let y:=T.a.s 1 (T.d i a)<|T.a.q (lst i c) _ o;let z:∀j,j<i->L i j-1*aD (lst i c) ((aP i).map L) j=0:=λj l=>by have:=C j l;lk
 let p:∀j,i<=j->j<r->aD (lst i c) ((aP i).map L) j=0:=λj N E=>MP λt b=>T.b t j (à b N) E;let G:=T.k _ i y a z;let q:=T.e i a;let u:=T.c i a;let(d,H):=g (i+1) a (f i)<|T.h i a;let m:=H i ß;rw[MO,MP λt b=>T.b t i b a] at m;let I:L i i ∣ f i i:=(d i,by rw[m,jw];lk);let A:L i i-1*aD (lst i c) ((aP i).map L) i=L i i:=by rw[p i (aE _) a];lk
 let v:f i i ∣ L i i:=by
  have this:f i i ∣ L i i-1*aD (lst i c) ((aP i).map L) i:=G;rw[A] at this;show this
 let B:f i i=L i i:=aln (alm q v)<|alm u I;show(B,λj l P=>?_);let K:=T.a.s 1 (T.h i a) y;have:=T.q (aE r) K (λt b=>?_) j l;obtain h|h:=ji j i;show T.g i j a h;let e:L i j=0:=T.b i j (ÿ h P) l;let x:=p j h l;have:f i j-1*(L i j-1*aD (lst i c) ((aP i).map L) j)=0:=this;rw[e,x] at this;lk;let M:=T.c t b;change(f i t-1*(L i t-1*aD (lst i c) ((aP i).map L) t)).natAbs<(f t t).natAbs;obtain h|h|h:=nN t i;let m:=z t h;rw[T.g i t a h,m];lk;subst h;rw[A,B];lk;let e:L i t=0:=T.b i t h b;let x:=p t (ì h) b;let Q:=n i t h b;rw[e,x];lk
def Vm(T:nZ Λ r L f)(a:∀i j,i<j->j<r->0<=f i j/\f i j<f j j):(∃k,k<=r/\2*cU (cj f k)<=cU (cj L k))\/∀i,i<r->f i i=L i i/\∀j,j<r->j≠i->f i j=0:=by
 cases h:∀k,k<=r->∀w,Λ w->Bz L k w;show .inr λi c=>Vq T a h i c;let(k,h):=alt.mp h;let(b,h):=als.mp h;let(w,h):=alt.mp h;let(d,h):=als.mp h;show .inl (k,b,Vn T b d h)
end
def UV{R:List am}(h:fI P f)(c:P.Pairwise (·<·))(hR:∀r∈R,cL (P.map f) r)(hw:cL R w)(d:∀p∈P,(w p).natAbs<(f p p).natAbs):∀p∈P,w p=0:=by
 let g:=hw.trans hR;intro p;induction p using yr with
 |_ p i=>
  intro b;let(m,e):=qQ h c b g λq j a=>i q a j;have:=d p b;rw[e,gm] at this;obtain z|z:=vX m.natAbs;rw[e,ali.mp z,fE];have:(f p p).natAbs*1<=(f p p).natAbs*m.natAbs:=eD _ z;lk
def Vi{R:List am}{P:List Nat}{B:Nat}(o:1<=B)(hR:∀v∈R,∀p∈P,(v p).natAbs<=B)(l:P.length=R.length)(g:P.Nodup)(m:oX R P)(v:am):∃q:Ζ,q.length=R.length/\∀p∈P,(v p-aD q R p).natAbs<=R.length*B:=by
 obtain⟨V,r⟩:∃V,∀p∈P,(v p).natAbs<=V:=by
  clear hR l g m;induction P with
  |nil=>show(0,λp c=>nomatch c)
  |cons p P t=>
   let(V,h):=t;show(V+(v p).natAbs,λq d=>by obtain rfl|d:=ci.mp d;show ý;have:=h q d;show í this)
 let(D,s,j,a,f,ϟ,ϟ):=FU o hR l g m r P g λq d=>d;let e:∀(D:Int)(s:Ζ),0<D->s.length=R.length->(∀p∈P,aD s R p=D*v p)->∃q:Ζ,q.length=R.length/\∀p∈P,(v p-aD q R p).natAbs<=R.length*B:=λD s j a f=>by
  show(s.map (· / D),#v[aA,a],λp c=>?_);let w:aD (s.map (·%D)) R p=aD s R p-D*aD (s.map (· / D)) R p:=by
   have:=mG 1 (-D) s (s.map (· / D)) R a #v[aA,a] p;rw[nQ,mF] at this;rw[show aD s R p-D*aD (s.map (· / D)) R p=aD s R p+-(D*aD (s.map (· / D)) R p) from ω,<-this]
   congr 1;apply kX;simp;intro i k n;erw[iG,oO];have:=LI (s[i]'(by simpa using k)) D;rw[nQ,mF];lk
  let b:=wy (u:=p) (X:=D.natAbs) (M:=B) (s.map (·%D)) R (λx z=>by
   let(y,ϟ,rfl):=aW.mp z;let k:=sA y (show D≠0 from ω);let n:=sC y j;lk) λv A=>hR v A p c
  rw[w,f p c,<-LF,gm,KU] at b;show KZ b ω
 obtain h|h|h:=Int.lt_trichotomy D 0;show e (-D) (s.map λx=>-x) ω #v[aA,a] λp c=>?_
 have:=mG (-1) 0 s s R a a p;rw[show(-1:Int)*aD s R p+0*aD s R p=-aD s R p from ω,f p c] at this;rw[mF,<-this]
 congr 1;apply kX;simp;intro i k n;erw[iG,oO];lk;show bo h j;show e D s h a f
def Vf{M:Nat}(H:1<=M)(j:oY R)(h:fI P X)(k:P.Pairwise (·<·))(hR:∀r∈R,cL (P.map X) r)(l:P.length=R.length)(I:∀r∈R,∀p∈P,(r p).natAbs<=M):cU (P.map λp=>(X p p).toNat)<=(2*(R.length*M)+1) ^ R.length:=by
 let v:P.Nodup:=k.imp λh=>cP h;let m:=wu j h k hR;let b:=λx:Ζ=>Vi H I l v m λu=>x.getD (P.idxOf u) 0;rw[<-l,<-Bx,<-wD];let n:∀(x:Ζ)(i:Nat)(j:i<P.length),x.getD (P.idxOf P[i]) 0=x.getD i 0:=λx i j=>#v[v.idxOf_getElem i j]
 show FQ (f:=λx=>P.map λp=>x.getD (P.idxOf p) 0-aD (pO<|b x) R p+((P.length*M:Nat):Int)) (yW _) (λx w=>?_) λx w y K e=>?_;show uA.mpr (aA _,λz L=>?_);let(p,c,rfl):=aW.mp L;have:=(LJ<|b x).2 p c;rw[show P.length*M=R.length*M by rw[l]];generalize aD (pO<|b x) R p=z at this ⊢;generalize R.length*M=A at this ⊢;lk;let(o,q):=wC.mp w;let(B,s):=wC.mp K;rw[aA] at o B;let(N,ϟ):=LJ<|b x;let(Q,ϟ):=LJ<|b y;let S:cL R λu=>aD (pO<|b x) R u-1*aD (pO<|b y) R u:=(show cL R (aD (pO<|b x) R) from(_,N,λ_=>O)).J (_,Q,λ_=>O) 1;let g:∀p∈P,aD (pO<|b x) R p-1*aD (pO<|b y) R p=x.getD (P.idxOf p) 0-y.getD (P.idxOf p) 0:=λp c=>by
  have:=(List.map_inj_left.mp e) p c;lk
 let C:∀(x:Ζ),(∀(i:Nat) z t,x[i]?=aa z->(P.map λp=>(X p p).toNat)[i]?=aa t->0<=z/\z<(t:Int))->x.length=P.length->∀p∈P,0<=x.getD (P.idxOf p) 0/\x.getD (P.idxOf p) 0<((X p p).toNat:Int):=λx q o p c=>by
  let(i,a,rfl):=jW c;rw[n x i a,co,bu %[|à a (æ o)]];show q i _ _ (bu (à a (æ o))) (by rw[ca,bu a];rfl)
 let z:=UV h k hR S λp c=>by
  let D:=C x q o p c;let E:=C y s B p c;let U:=h.a p c;let T:=g p c;change(aD (pO<|b x) R p-1*aD (pO<|b y) R p).natAbs<_;rw[T];lk
 show kX (û (à (å o) (æ B)) (à (å B) (æ o))) λi D E=>?_;let a:i<P.length:=(à D (å o))
 have:=z P[i]<|dW a;let G:=g P[i]<|dW a;rw[n x i a,n y i a,co,co,bu D,bu E] at G;let d:aD (pO<|b x) R P[i]-1*aD (pO<|b y) R P[i]=0:=this;rw[d] at G;change x[i]=y[i];let V:(aa x[i]).getD 0=x[i]:=O;let W:(aa y[i]).getD 0=y[i]:=O;lk
def dY(a:Nat->am)(c:Nat->Int):Nat->Nat->Int
 |0,_=>0
 |j+1,u=>dY a c j u+c j*a j u
def Bt(u:Nat):∀j,aD (lst j c) ((aP j).map ρ) u=dY ρ c j u
 |0=>O
 |j+1=>by rw[MO,Bt u j];rfl
def LY(c:Ζ):lst c.length (fS c)=c:=Vc c
def yO{a:Nat->am}{c:am}:∀j,(∀i,i<j->c i*a i u=0)->dY a c j u=0
 |0,_=>O
 |j+1,h=>by change dY a c j u+c j*a j u=0;rw[yO j λi b=>h i %[|í b],h j %[|ß]];rfl
def yP{ρ:Nat->am}{c:am}:∀(n j:Nat),(∀i,j<=i->i<j+n->c i*ρ i u=0)->dY ρ c (j+n) u=dY ρ c j u
 |0,_,_=>O
 |n+1,j,h=>by change dY ρ c (j+n) u+c (j+n)*ρ (j+n) u=_;rw[yP n j λi a b=>h i a ω,h (j+n) %[|ü] %[|ß]];lk
def qO(a:Nat->am)(c:Nat->Int)(m:Nat):Nat->Nat->Int
 |0,_=>0
 |n+1,u=>qO a c m n u+c (m-1-n)*a (m-1-n) u
def Me{m u:Nat}:∀n,n<=m->dY a c m u=dY a c (m-n) u+qO a c m n u
 |0,_=>by change _=dY a c m u+0;lk
 |n+1,h=>by
  rw[Me n %[|ì h]];let e:m-n=(m-1-n)+1:=ω;let b:m-(n+1)=m-1-n:=ω;rw[e,b];change dY a c (m-1-n) u+c (m-1-n)*a (m-1-n) u+qO a c m n u=dY a c (m-1-n) u+(qO a c m n u+c (m-1-n)*a (m-1-n) u);lk
structure iv(k r w M g:Nat)(ρ:Nat->am)(Q:Nat->Nat):Prop where
 h:1<=g
 v:r<=k
 c:r<=w
 f:∀a b,a<b->b<k-r->Q a<Q b
 n:∀a,a<k-r->w<=Q a
 l:∀i,i<r->0<ρ i i
 e:∀i j,i<r->i<j->j<w->ρ i j=0
 o:∀i j,i<r->j<i->(ρ i j).natAbs<=(ρ i i).natAbs
 s:∀i a,i<r->a<k-r->(ρ i<|Q a).natAbs<=g*(ρ (r+a)<|Q a).natAbs
 d:∀a u,a<k-r->u<Q a->ρ (r+a) u=0
 m:∀a,a<k-r->0<ρ (r+a) (Q a)
 t:∀a b,a<b->b<k-r->0<=ρ (r+a) (Q b)/\ρ (r+a) (Q b)<ρ (r+b) (Q b)
 x:∀i,i<r->(ρ i i).natAbs<=M
 p:∀a,a<k-r->g*(ρ (r+a)<|Q a).natAbs<=M
section
variable{k r w M g:Nat}{ρ:Nat->am}{Q:Nat->Nat}
def iv.q(T:iv k r w M g ρ Q){a u:Nat}(b:a<k-r)(c:u<w):ρ (r+a) u=0:=T.d a u b<|fm c<|T.n a b
def qP(ρ:Nat->am)(c:Nat->Int)(m:Nat):Nat->Nat
 |0=>0
 |n+1=>qP ρ c m n+(c<|m-1-n).natAbs*(ρ (m-1-n)<|m-1-n).natAbs
def iv.A0(T:iv k r w M g ρ Q){c:am}{m V:Nat}(j:m<=r)(d:∀i,i<m->(dY ρ c m i).natAbs<=V):∀n,n<=m->qP ρ c m n+V<=V*2 ^ n
 |0,_=>by change 0+V<=V*1;lk
 |n+1,h=>by
  let f:=iv.A0 T j d n (ì h);let l:m-1-n<m:=ω;let s:(qO ρ c m n<|m-1-n).natAbs<=qP ρ c m n:=by
   have:∀a,a<=n->(qO ρ c m a<|m-1-n).natAbs<=qP ρ c m a:=by
    intro a;induction a with
    |zero=>intro _;show aE 0
    |succ a f=>
     intro o;let t:=f (ì o);let p:=T.o (m-1-a) (m-1-n) ω ω;let u:(c (m-1-a)*ρ (m-1-a) (m-1-n)).natAbs<=(c<|m-1-a).natAbs*(ρ (m-1-a)<|m-1-a).natAbs:=%[gm|eD _ p]
     let v:=qJ (qO ρ c m a<|m-1-n)<|c (m-1-a)*ρ (m-1-a) (m-1-n);change(qO ρ c m a (m-1-n)+c (m-1-a)*ρ (m-1-a) (m-1-n)).natAbs<=qP ρ c m a+_;show à (à v (ð t)) (ñ u)
   show this n<|aE _
  let e:dY ρ c m (m-1-n)=c (m-1-n)*ρ (m-1-n) (m-1-n)+qO ρ c m n (m-1-n):=by
   rw[Me n %[|ì h],show m-n=(m-1-n)+1 from ω];change dY ρ c (m-1-n) (m-1-n)+_+_=_;rw[yO (m-1-n) λi b=>#v[T.e i (m-1-n) %[|à (à b (ì l)) j] b (by have:=T.c;show à (à l j) this),fE]];lk
  let q:=d (m-1-n) l;let x:(c<|m-1-n).natAbs*(ρ (m-1-n)<|m-1-n).natAbs<=V+qP ρ c m n:=by
   rw[<-gm];show Ā e s q
  change qP ρ c m n+(c<|m-1-n).natAbs*(ρ (m-1-n)<|m-1-n).natAbs+V<=V*2 ^ (n+1);rw[ng,<-ge];lk
def gZ(c:Nat->Int):Nat->Nat
 |0=>0
 |n+1=>gZ c n+(c n).natAbs
def Va{c:am}{n i:Nat}(h:i<n):(c i).natAbs<=gZ c n:=by
 induction n with
 |zero=>lk
 |succ n a=>
  change _<=gZ c n+(c n).natAbs;cases e:i=n;subst e;show ý
  have:=a (þ (ò h) e);show í this
def iv.A2(T:iv k r w M g ρ Q){c:am}{m V:Nat}(a:m<=r)(b:∀i,i<m->(dY ρ c m i).natAbs<=V):gZ c m+V<=V*2 ^ m:=by
 let f:=T.A0 a b m<|aE _;let d:∀n,n<=m->gZ c m<=gZ c (m-n)+qP ρ c m n:=by
  intro n;induction n with
  |zero=>intro _;show aE _
  |succ n e=>
   intro h;have:=e (ì h);let j:=T.l (m-1-n) ω;rw[show m-n=(m-1-n)+1 from ω] at this;rw[show m-(n+1)=m-1-n from ω];let l:(c<|m-1-n).natAbs*1<=(c<|m-1-n).natAbs*(ρ (m-1-n)<|m-1-n).natAbs:=eD _ ω;change gZ c m<=gZ c (m-1-n)+(qP ρ c m n+_);let o:gZ c (m-1-n+1)=gZ c (m-1-n)+(c<|m-1-n).natAbs:=O;lk
 have:=d m<|aE _;rw[yq] at this;have:gZ c 0=0:=O;lk
def Mf{u K:Nat}:∀n,(∀i,i<n->(ρ i u).natAbs<=K)->(dY ρ c n u).natAbs<=K*gZ c n
 |0,_=>cJ _
 |n+1,h=>by
  let a:=Mf (c:=c) n λi b=>h i (í b);let d:(c n*ρ n u).natAbs<=K*(c n).natAbs:=%[gm,kB|eC _<|h n ß]
  let e:=qJ (dY ρ c n u)<|c n*ρ n u;change(dY ρ c n u+c n*ρ n u).natAbs<=K*(gZ c n+(c n).natAbs);rw[my];show à (à e (ð a)) (ñ d)
def iv.A4(T:iv k r w M g ρ Q){c:am}{V:Nat}:∀n,n<=k-r->(∀i,i<r->(dY ρ c (r+n) i).natAbs<=V)->(∀a,a<n->(dY ρ c (r+n)<|Q a).natAbs<=V)->gZ c (r+n)+V<=V*2 ^ r*(1+g) ^ n:=by
 intro n;let f:∀n,n<=k-r->(∀i,i<r->(dY ρ c (r+n) i).natAbs<=V)->gZ c r+V<=V*2 ^ r:=λn q l=>T.A2 (aE r) λi s=>by
  have:=l i s
  rwa [yP n r λj m o=>by
   have:=T.q (a:=j-r) (u:=i) ω (by have:=T.c;show à s this);rw[show r+(j-r)=j from ω] at this;rw[this,fE]] at this
 intro q l t;let v:=f n q l;have:∀b,b<=n->gZ c (r+b)+V<=V*2 ^ r*(1+g) ^ b:=by
  intro b;induction b with
  |zero=>intro _;rw[KR,oI];show v
  |succ b x=>
   intro y;let m:=x (ì y);let B:=T.m b (à y q);let e:dY ρ c (r+n) (Q b)=dY ρ c (r+b) (Q b)+c (r+b)*ρ (r+b) (Q b):=by
    have:=yP (ρ:=ρ) (c:=c) (u:=Q b) (n-(b+1)) (r+(b+1)) λj m o=>by
     have:=T.d (j-r) (Q b) ω<|T.f b (j-r) ω ω;rw[show r+(j-r)=j from ω] at this;rw[this,fE]
    rw[show r+(b+1)+(n-(b+1))=r+n from ω] at this;rw[this];rfl
   let o:(dY ρ c (r+b)<|Q b).natAbs<=(g*(ρ (r+b)<|Q b).natAbs)*gZ c (r+b):=Mf (r+b) λi s=>by
    cases p:i<r;show T.s i b p (à y q)
    have:=T.t (i-r) b ω (à y q)
    rw[show r+(i-r)=i from ω] at this;have:1*(ρ (r+b)<|Q b).natAbs<=g*(ρ (r+b)<|Q b).natAbs:=eC _ T.h;lk
   let C:=t b y;let z:(c<|r+b).natAbs*(ρ (r+b)<|Q b).natAbs<=V+(g*(ρ (r+b)<|Q b).natAbs)*gZ c (r+b):=by
    rw[<-gm];show Ā (e.trans (Int.add_comm ..)) o C
   generalize A:(ρ (r+b)<|Q b).natAbs=d at o z;let h:1<=d:=ω;let D:(c<|r+b).natAbs<=V+g*gZ c (r+b):=by
    have:d*(c<|r+b).natAbs<=d*(V+g*gZ c (r+b)):=by
     rw[my,kB d (c<|r+b).natAbs,<-ge,kB d g];have:V<=d*V:=rT _ h;show à z (ð this)
    show KZ this h
   change gZ c (r+b)+(c<|r+b).natAbs+V<=V*2 ^ r*(1+g) ^ (b+1);rw[ng,<-ge];let E:(gZ c (r+b)+V)*(1+g)<=V*2 ^ r*(1+g) ^ b*(1+g):=eC _ m;let G:(gZ c (r+b)+V)*(1+g)=gZ c (r+b)+V+(g*gZ c (r+b)+g*V):=#v[my,oI,kB _ g,my]
   let H:1*V<=g*V:=eC _ T.h;lk
 show this n<|aE _
end
def yS:∀(a b:List Nat),cU (a++b)=cU a*cU b
 |[],b=>by change cU b=1*cU b;lk
 |t::a,b=>by change t*cU (a++b)=t*cU a*cU b;rw[yS a b,ge]
def Fo(g:Nat->am)(k:Nat):cj g (k+1)=cj g k++[(g k k).toNat]:=by ext cj;rw[oM,cH];rfl
def wm{g:Nat->am}:∀{k:Nat},(∀i,i<k->0<g i i)->1<=cU (cj g k)
 |0,_=>aE _
 |k+1,h=>by
  rw[Fo,yS];let a:=wm (k:=k) λi b=>h i (í b);let c:=h k ß;show pR a (by change 1<=(g k k).toNat*1;lk)
def Fq{g:Nat->am}{k:Nat}(h:∀i,i<k+1->0<g i i):(g k k).toNat<=cU (cj g<|k+1):=by
 rw[Fo,yS];have:=wm (k:=k) λi a=>h i (í a);change _<=cU (cj g k)*((g k k).toNat*1);rw[oI];show rT _ this
section
variable{k r w M g:Nat}{ρ:Nat->am}{Q:Nat->Nat}
def j_(r j:Nat)(Q:Nat->Nat):List Nat:=aP (dy j r)++(aP<|j-r).map Q
def Mu{j:Nat}:(j_ r j Q).length=j:=by ext j_;rw[eE,gX,aA,gX];lk
def iv.A5(T:iv k r w M g ρ Q){j V:Nat}{c:am}(n:j<=k)(b:∀p∈j_ r j Q,(dY ρ c j p).natAbs<=V):gZ c j+V<=V*(1+g) ^ j:=by
 obtain h|h:=ji j r
 have:=T.A2 (m:=j) (ì h) λi f=>b i<|kW _<|bH.mpr ω
 let d:2 ^ j<=(1+g) ^ j:=qD (by have:=T.h;lk) _;show aL this<|eD _ d
 have:=T.A4 (c:=c) (V:=V) (j-r) ω (λi f=>?_) λa l=>?_
 rw[show r+(j-r)=j from ω] at this;let d:2 ^ r<=(1+g) ^ r:=qD (by have:=T.h;lk) _;let e:V*2 ^ r*(1+g) ^ (j-r)<=V*(1+g) ^ r*(1+g) ^ (j-r):=eC _<|eD _ d;rw[ge V<|(1+g) ^ r,<-vW,show r+(j-r)=j from ω] at e;show aL this e;rw[show r+(j-r)=j from ω];show b i<|kW _<|bH.mpr ω;rw[show r+(j-r)=j from ω];show b (Q a)<|iF _<|aW.mpr (a,bH.mpr l,O)
def iv.J(T:iv k r w M g ρ Q){j p:Nat}{c:am}(V:j<=k)(H:∀u,u<p->dY ρ c j u=0)(I:dY ρ c j p≠0):p∈j_ r j Q:=by
 cases K:∃i,i<dy j r/\c i≠0
 ·-- the last row of the slope that stands there
  let s:∀m,m<=dy j r->(∃i,i<m/\c i≠0)->∃i,i<m/\c i≠0/\∀d,i<d->d<m->c d=0:=by
   intro m
   induction m with
   |zero=>rintro _ ⟨i,t,_⟩;lk
   |succ m B=>
    rintro W ⟨i,t,l⟩
    cases e:c m=0
    ·let(d,f,q,C):=B (ì W) (i,by obtain h|h:=ji i m;show h;show bo (show c i=0 by rw[show i=m from %[|û (ò t) h]];show e) l,l)
     show(d,(í f),q,λv L X=>by cases N:v=m;rw[N];show e;show C v L (þ (ò X) N))
    ·show(m,ß,e,λd f q=>ω)
  let(i,t,l,D):=s _ (aE _) K;let E:i<r:=ω
  let e:dY ρ c j i=c i*ρ i i:=by
   let f:=yP (ρ:=ρ) (c:=c) (u:=i) (j-(i+1)) (i+1) λd f q=>by
    cases h:d<r
    ·rw[D d %[|f] ω,kZ]
    ·have:=T.q (a:=d-r) (u:=i) ω (by have:=T.c;show à E this)
     rw[show r+(d-r)=d from ω] at this;rw[this,fE]
   rw[show i+1+(j-(i+1))=j from ω] at f;rw[f];change dY ρ c i i+c i*ρ i i=_;rw[yO i λd x=>#v[T.e d i %[|à x (ì E)] x (by have:=T.c;show à E this),fE]];lk
  let G:dY ρ c j i≠0:=%[e|Ba l (by have:=T.l i E;lk)]
  have:p<=i:=by
   obtain h|h:=ji i p
   ·show bo (H i h) G
   ·show h
  show kW _<|bH.mpr (à (ï this) t)
 ·let y:∀i,i<dy j r->c i=0:=λi t=>iH λz=>K (i,t,z)
  let o:∀n,(∃a,a<n/\c (r+a)≠0)->∃a,a<n/\c (r+a)≠0/\∀b,b<a->c (r+b)=0:=by
   intro n
   induction n with
   |zero=>rintro⟨a,A,_⟩;lk
   |succ n B=>
    rintro⟨a,A,l⟩
    cases h:∃a,a<n/\c (r+a)≠0
    ·let(P,f,q,C):=B h
     show(P,(í f),q,C)
    ·show(a,A,l,λb Y=>iH λz=>h (b,(à Y (ò A)),z))
  let R:∃a,a<j-r/\c (r+a)≠0:=iH λS=>I (yO j λi t=>by
   cases h:i<r
   ·rw[y i ω,kZ]
   ·have:c (r+(i-r))=0:=iH λz=>S (i-r,ω,z)
    rw[show r+(i-r)=i from ω] at this;rw[this,kZ])
  let(a,A,l,D):=o _ R;let e:∀u,u<=Q a->dY ρ c j u=c (r+a)*ρ (r+a) u:=λu Z=>by
   let f:=yP (ρ:=ρ) (c:=c) (u:=u) (j-(r+a+1)) (r+a+1) λd f q=>by
    have:=T.d (d-r) u ω (by have:=T.f a (d-r) ω ω;show à (ï Z) this);rw[show r+(d-r)=d from ω] at this;rw[this,fE]
   rw[show r+a+1+(j-(r+a+1))=j from ω] at f;rw[f];change dY ρ c (r+a) u+c (r+a)*ρ (r+a) u=_;rw[yO (r+a) λd x=>by
    cases h:d<r
    ·rw[y d ω,kZ]
    ·have:=D (d-r) ω
     rw[show r+(d-r)=d from ω] at this;rw[this,kZ]]
   lk
  let hk:=T.m a ω;let U:p=Q a:=by
   obtain h|h|h:=nN p (Q a)
   ·show bo #v[e p %[|ì h],T.d a p ω h,fE] I
   ·show h
   ·show bo (by rw[<-e (Q a)<|aE _];show H (Q a) h)<|Ba l (show ρ (r+a) (Q a)≠0 from ω)
  rw[U];show iF _<|aW.mpr (a,bH.mpr A,O)
def iv.A1(T:iv k r w M g ρ Q){j i p:Nat}(m:j<=k)(n:i<j)(f:p∈j_ r j Q):(ρ i p).natAbs<=M:=by
 obtain h|h:=fz.mp f;let h:=bH.mp h;cases b:i<r
 have:=T.x i b
 obtain g|g|g:=nN p i
 have:=T.o i p b g;lk
 subst g;show this;rw[T.e i p b g (by have:=T.c;lk)];show cJ _
 have:=T.q (a:=i-r) (u:=p) ω (by have:=T.c;lk)
 rw[show r+(i-r)=i from ω] at this;rw[this];show cJ _;let(a,d,rfl):=aW.mp h;let d:=bH.mp d;let o:=T.p a ω;let l:1*(ρ (r+a)<|Q a).natAbs<=g*(ρ (r+a)<|Q a).natAbs:=eC _ T.h;cases b:i<r
 have:=T.s i a b ω;show à this o
 obtain c|c|c:=nN (i-r) a
 have:=T.t (i-r) a c ω
 rw[show r+(i-r)=i from ω] at this;lk;let e:ρ i (Q a)=ρ (r+a) (Q a):=by rw[<-c,show r+(i-r)=i from ω]
 rw[e];lk
 have:=T.d (i-r) (Q a) ω<|T.f a (i-r) c ω
 rw[show r+(i-r)=i from ω] at this;rw[this];show cJ _
def L'(T:iv k r w M g ρ Q){N B:Nat}(L:∀a,a<k-r->(ρ (r+a)<|Q a).natAbs<=B)(hD:∀m,m<=r->cU (cj ρ m)<=B)(hk:k<=N){j:Nat}(R:j<=k):lj N M ((1+g) ^ N) B ((aP j).map ρ):=by
 let I:((aP j).map ρ).length=j:=by simp
 let S:∀(c:Ζ),c.length=j->∀u,aD c ((aP j).map ρ) u=dY ρ (fS c) j u:=λc l u=>by
  have:=Bt (ρ:=ρ) (c:=fS c) u j;rw[<-l,LY] at this;rw[<-l];show this
 let o:∀(c:Ζ)(V:Nat),c.length=j->(∀p∈j_ r j Q,(aD c ((aP j).map ρ) p).natAbs<=V)->∀x∈c,x.natAbs<=V*(1+g) ^ j:=λc V l A x t=>by
  let D:=T.A5 (c:=fS c) R λp d=>by rw[<-S c l];show A p d
  let(i,b,rfl):=jW t;let E:=Va (c:=fS c) (n:=j) (i:=i) (à b (å l));let e:fS c i=c[i]:=by ext fS;rw[co,bu b];rfl
  rw[e] at E;show à E (è D)
 let U:oY ((aP j).map ρ):=λc l W x t=>by
  have:=o c 0 #v[l,I] (λp _=>%[W|aE 0]) x t;lk
 show(U,λP f h X hR hF hl=>?_);rw[I] at hl;let nd:P.Nodup:=X.imp λh=>cP h;let C:∀p∈P,p∈j_ r j Q:=λp d=>by
  let(c,l,e):=hF p d;rw[I] at l;show T.J (c:=fS c) R (λu hu=>?_) ?_;rw[<-S c l,<-e];show h.z p d u hu;rw[<-S c l,<-e];have:=h.a p d;lk
 let G:∀p∈j_ r j Q,p∈P:=λp d=>iH λz=>by
  let Y:(p::P).Nodup:=kD.mpr (z,nd);have:=Y.length_le_of_subset (l₂:=j_ r j Q) λx t=>by
   obtain rfl|t:=ci.mp t;show d;show C x t
  rw[Mu,dI] at this;show ø this (æ hl)
 show(λp d=>?_,λs Z p d=>?_,λc V l A x t=>?_);obtain K|K:=fz.mp (C p d);let K:=bH.mp K;let H:nZ (cL<|(aP j).map ρ) (dy j r) ρ f:=by
  let y:∀i,i<dy j r->i∈P:=λi b=>G i<|kW _<|bH.mpr b;show((cL.zero,λm A hw=>A.J hw m),λi b=>cL.q<|aW.mpr (i,bH.mpr ω,O),λi b=>T.l i ω,λi j' D E=>T.e i j' ω D (by have:=T.c;lk),λi b=>hF i<|y i b,λi b=>h.a i<|y i b,λi j' b a0=>h.z i (y i b) j' a0,λv i A b W=>?_);show qQ h X (y i b) (A.trans hR) λq _ hq=>W q hq
 let D:=FJ H (k:=p+1) K;let E:=Fq (g:=f) (k:=p) λi b=>H.c i (à b K);let h3:=hD (p+1) ω;let h4:=h.a p d;lk;let(a,ha,rfl):=aW.mp K;let ha:=bH.mp ha;let sp:cL (P.map f) (ρ<|r+a):=hR _<|aW.mpr (r+a,bH.mpr ω,O);let hd:=qQ h X d sp λq _ hq=>T.d a q ω hq;let a1:=T.m a ω;have:=K_ ω<|LD.mpr hd;have:=L a ω;lk;let(i,b,rfl):=aW.mp Z;show T.A1 R (bH.mp b)<|C p d;rw[I] at l;show aL (o c V l (λp d=>A p<|G p d) x t) ?_;let D:(1+g) ^ j<=(1+g) ^ N:=iD ü (à R hk);let E:V*(1+g) ^ j<=V*(1+g) ^ N:=eD _ D;let hN:1<=N:=by
  have:0<c.length:=akt t;lk
 show aL E<|rT _ hN
end
section
variable{k r w M g N X B:Nat}{ρ f:Nat->am}{Q:Nat->Nat}{P:List Nat}
def UU{l m:List Nat}(c:l.Pairwise (·<·))(d:m.Pairwise (·<·))(h:∀x,x∈l↔x∈m):l=m:=
 Uk (le:=λa b=>a<=b) (λa b _ _ e f=>ake e f) (c.imp λh=>oK h) (d.imp λh=>oK h)<|(TS (c.imp λh=>(õ h)) (d.imp λh=>(õ h))).mpr h
def iv.A6(T:iv k r w M g ρ Q){j:Nat}(i:j<=k):(j_ r j Q).Pairwise (·<·):=by
 ext j_;rw[Le,kC];show(TT,TT.imp_of_mem λ{a b} c d h=>T.f a b h (by have:=bH.mp d;lk),λx e y f=>?_);let(a,c,rfl):=aW.mp f;have:=bH.mp e;have:=bH.mp c;have:=T.n a ω;have:=T.c;lk
def iv.A3(T:iv k r w M g ρ Q){j:Nat}(m:j<=k)(h:fI P f)(n:P.Pairwise (·<·))(q:∀p∈P,cL ((aP j).map ρ) (f p))(v:P.length=j):P=j_ r j Q:=by
 let a:∀p∈P,p∈j_ r j Q:=λp d=>by
  let(c,b,e):=q p d;let b:c.length=j:=by simpa using b
  let o:∀u,aD c ((aP j).map ρ) u=dY ρ (fS c) j u:=λu=>by
   have:=Bt (ρ:=ρ) (c:=fS c) u j;rw[<-b,LY] at this;rw[<-b];show this
  show T.J (c:=fS c) m (λu s=>?_) ?_;rw[<-o,<-e];show h.z p d u s;rw[<-o,<-e];have:=h.a p d;lk
 show UU n (T.A6 m) λx=>(a x,λt=>iH λz=>?_);let i:(x::P).Nodup:=kD.mpr (z,n.imp λh=>cP h);have:=i.length_le_of_subset (l₂:=j_ r j Q) λy l=>by
  obtain rfl|l:=ci.mp l;show t;show a y l
 rw[Mu,dI] at this;show ø this (æ v)
structure MY(k r w:Nat)(ρ f:Nat->am)(Q:Nat->Nat):Prop where
 q:∀i,i<r->cL ((aP k).map ρ) (f i)
 s:∀a,a<k-r->cL ((aP k).map ρ) (f<|Q a)
 l:∀i u,i<r->u<i->f i u=0
 p:∀i,i<r->0<f i i
 fr:∀i j,i<j->j<r->0<=f i j/\f i j<f j j
 n:∀i u,i<r->r<=u->u<w->f i u=0
 c:∀a u,a<k-r->u<Q a->f (Q a) u=0
 o:∀a,a<k-r->0<f (Q a) (Q a)
 g:∀a b,a<b->b<k-r->0<=f (Q a) (Q b)/\f (Q a) (Q b)<f (Q b) (Q b)
 e:∀i a,i<r->a<k-r->0<=f i (Q a)/\f i (Q a)<f (Q a) (Q a)
 h:∀a,a<k-r->(f (Q a)<|Q a).natAbs<=(ρ (r+a)<|Q a).natAbs
 le:∀m,m<=r->cU (cj f m)<=cU (cj ρ m)
 d:(∃m,m<=r/\2*cU (cj f m)<=cU (cj ρ m))\/∀i,i<r->f i i=ρ i i/\∀j,j<r->j≠i->f i j=0
def iv.F(T:iv k r w M g ρ Q)(F:fC N M X B ((aP k).map ρ) P f):P=j_ r k Q/\MY k r w ρ f Q:=by
 let I:((aP k).map ρ).length=k:=by simp
 let K:P.length=k:=#v[F.c,I]
 let x:∀p∈P,cL ((aP k).map ρ) (f p):=λp L=>(F.fr p L).sp;let e:=T.A3 (aE k) F.a F.b x K;let Y:=T.v;let n:∀i,i<r->i∈P:=λi d=>%[e|kW _<|bH.mpr ω]
 let s:∀a,a<k-r->Q a∈P:=λa l=>%[e|iF _<|aW.mpr (a,bH.mpr l,O)]
 let y:nZ (cL<|(aP k).map ρ) r ρ f:=by
  show((cL.zero,λm z R=>z.J R m),λi d=>cL.q<|aW.mpr (i,bH.mpr (à d Y),O),λi d=>T.l i d,λi C t o=>T.e i C (à t (ì o)) t (by have:=T.c;show à o this),λi d=>x i<|n i d,λi d=>F.a.a i<|n i d,λi C d D=>F.a.z i (n i d) C D,λv i z d S=>?_);show qQ F.a F.b (n i d) (z.trans F.e) λq _ E=>S q E
 let A:∀i j,i<j->j<r->0<=f i j/\f i j<f j j:=λi j t o=>F.d i (n i (à t (ì o))) j (n j o) t;show(e,λi d=>x i<|n i d,λa l=>x _<|s a l,λi u d G=>F.a.z i (n i d) u G,λi d=>F.a.a i<|n i d,A,λi u d t o=>?_,λa u l G=>F.a.z _ (s a l) u G,λa l=>F.a.a _<|s a l,λa b t o=>F.d _ (s a (à t (ì o))) _ (s b o)<|T.f a b t o,λi a d l=>F.d i (n i d) _ (s a l) (by have:=T.n a l;have:=T.c;lk),λa l=>?_,λm U=>FJ y U,Vm y A);let(c,Z,V):=x i<|n i d;rw[V];show nn _ _ λv z=>?_;let(j,H,rfl):=aW.mp z;let H:=bH.mp H;cases h:j<r;show T.e j u h (à h t) o
 have:=T.q (a:=j-r) (u:=u) ω o
 rwa [show r+(j-r)=j from ω] at this;let W:=qQ F.a F.b (s a l) (F.e (ρ<|r+a)<|aW.mpr (r+a,bH.mpr ω,O)) λq _ E=>T.d a q l E
 have:=T.m a l;show K_ ω<|LD.mpr W
end
def UY{V:Nat}(h:fI P f)(M:P.Pairwise (·<·))(E:∀p∈P,∀q∈P,p<q->0<=f p q/\f p q<f q q)(o:cL (P.map f) l)(G:∀p∈P,(l p).natAbs<=V*(f p p).natAbs):∀x∈jY f P l,x.natAbs<=V*2 ^ P.length:=by
 let e:=Fv h M o;generalize U:jY f P l=a at e;let la:a.length=P.length:=by rw[<-U,Fw]
 let H:∀(b m:List Nat)(g i:Ζ)(S:Nat),P=b++m->a=g++i->g.length=b.length->(∀x∈g,x.natAbs<=S)->(∀p∈m,(aD g (b.map f) p).natAbs<=S*(f p p).natAbs)->V+S<=V*2 ^ b.length->∀x∈i,x.natAbs<=V*2 ^ P.length:=by
  intro b m;induction m generalizing b with
  |nil=>
   intro g i S j B C _ _ _ x k;have:i.length=0:=by have:=jy ah B;let N:=jy ah j;rw[eE] at this N;simp at N;lk
   rw[jv this] at k;cases k
  |cons p m I=>
   intro g i S j B C W Q hS x k;cases i with
   |nil=>cases k
   |cons y i=>
    let K:p∈P:=by rw[j];simp
    let n:=M;rw[j,Le,kU] at n;let t:∀(c d:Ζ)(A D:List am)(u:Nat),c.length=A.length->aD (c++d) (A++D) u=aD c A u+aD d D u:=by
     intro c;induction c with
     |nil=>intro d A D u o;rw[jv o.symm];change aD d D u=0+aD d D u;lk
     |cons z c I=>intro d A D u o;cases A with
      |nil=>simp at o
      |cons s A=>change z*s u+aD (c++d) (A++D) u=z*s u+aD c A u+aD d D u;rw[I d A D u 5#o];lk
    let ep:l p=aD g (b.map f) p+y*f p p:=by
     rw[e,B,j,cH,t _ _ _ _ _ #v[aA,C]];change aD g (b.map f) p+(y*f p p+aD i (m.map f) p)=_;rw[nn i (m.map f) λv G=>by
      let(q,r,rfl):=aW.mp G;show h.z q (by rw[j];simp[r]) p<|n.2.1.1 q r]
     lk
    let R:=h.a p K;let X:y.natAbs<=V+S:=by
     let Y:=G p K;let Z:=Q p<|.head _;let L:y.natAbs*(f p p).natAbs<=V*(f p p).natAbs+S*(f p p).natAbs:=by rw[<-gm];show Ā (ep.trans (Int.add_comm ..)) Z Y
     rw[<-mz] at L;show akd L ω
    let T:V*2 ^ b.length<=V*2 ^ P.length:=eD _<|iD ξ (by rw[j];simp);obtain rfl|k:=ci.mp k;show à (à X hS) T;show I (b++[p]) (g++[y]) i (V+S+S) (by rw[j];simp) (by rw[B];simp) (by simp[C]) (λz w=>?_) (λq r=>?_) (by rw[eE,TZ,ng,<-ge];lk) x k;obtain w|w:=fz.mp w
    have:=W z w;show î this
    rw[gW.mp w];show í X;rw[cH,t _ _ _ _ _ #v[aA,C]];let Y:=Q q<|.tail _ r;let rq:=E p K q (by rw[j];simp[r])<|n.2.1.1 q r;let Z:(y*f p q).natAbs<=(V+S)*(f q q).natAbs:=%[gm|iE X ω]
    let L:=qJ (aD g (b.map f) q)<|y*f p q;change(aD g (b.map f) q+(y*f p q+0)).natAbs<=(V+S+S)*(f q q).natAbs;rw[sD,mz (V+S) S];lk
 show H [] P [] a 0 O O O (λx k=>nomatch k) (λp _=>cJ _) 0#0
def be(m:Nat)(S W:Nat->am):Nat->am:=λi u=>if u<m then S i u else W i (u-m)
def iq{m:Nat}{i u:Nat}(h:u<m):be m S W i u=S i u:=aw h
def ka{m:Nat}{i t:Nat}:be m S W i (m+t)=W i t:=by ext be;rw[ar %[|ù ü],akg]
def a_(n:Nat)(W:Nat->am):List am:=(aP n).map W
def FR{m:Nat}:∀(c:Ζ)(L:List am)(t:Nat),aD c L (m+t)=aD c (L.map λl=>λt=>l<|m+t) t
 |[],[],_=>O
 |[],_::_,_=>O
 |_::_,[],_=>O
 |a::c,l::L,t=>by change a*l (m+t)+aD c L (m+t)=a*l (m+t)+_;rw[FR c L t]
section
variable{n m N M X B:Nat}{S W f:Nat->am}{P:List Nat}{Bc:List am}
def uz(n:Nat)(b:Ξ)(Bc:List am):List am:=(aP n).map λj=>λs=>aD (b.map λa=>a.getD j 0) Bc s
def Fn:(a_ n<|be m S W).map (λr=>λt=>r<|m+t)=a_ n W:=by
 ext a_;rw[dC];show iZ λi _=>funext λt=>ka
def Bl(F:fC N M X B (a_ n<|be m S W) P f)(D:kd n (a_ n W) Bc):kd n (P.map λp=>λt=>f p<|m+t) (uz n ((a_ n<|be m S W).map λr=>jY f P r) Bc):=by
 let k:(a_ n<|be m S W).length=n:=by ext a_;simp
 let e:P.length=n:=#v[F.c,k]
 let v:=BA.next (V:=P.map λp=>λt=>f p<|m+t) (sh:=(a_ n<|be m S W).map λr=>jY f P r) D.a #v[aA,e] #v[aA,k] (λg a=>by
  let(r,ϟ,rfl):=aW.mp a;rw[Fw,e]) λi u g t h a l=>by
   unfold a_ at h a;rw[ca] at h a;let(o,b,rfl):=ue.mp h;rw[ca,b] at a;obtain rfl:=cX a;let j:be m S W o∈a_ n (be m S W):=aW.mpr (o,dL b,O);have:=Fv F.a F.b (F.e _ j)<|m+t;rw[ka,FR,dC] at this;show this
 show Vx v λc w y x z=>?_;let A:kd n ((a_ n<|be m S W).map λr=>λt=>r<|m+t) Bc:=%[Fn|D]
 obtain⟨d,C,q⟩:cL (a_ n<|be m S W)<|aD c<|P.map f:=cL.A0 c _ λs E=>by
  let(p,G,rfl):=aW.mp E;show(F.fr p G).sp
 let H:=A.q C λt l=>by
  rw[<-q,FR,dC];show y t l
 show FK F.a F.b c #v[w,e] (λp _=>%[q|ux d _ _ H]) x z
def US(F:fC N M X B (a_ n<|be m S W) P f){A:Nat}(a:∀i t,i<n->(W i t).natAbs<=A):∀p∈P,∀t,(f p<|m+t).natAbs<=N*(iK N X B*A):=λp b t=>by
 have:=(F.fr p b).le (u:=m+t) (M:=A) λr c=>by
  let(i,d,rfl):=aW.mp c;rw[ka];show a i t<|bH.mp d
 show aL this<|eC _ F.h
def cL.ind{R:List am}(C:am->Prop)(b:C λ_=>0)(d:∀(a:Int)(x y:am),C x->C y->C λu=>a*x u+y u)(hR:∀r∈R,C r)(h:cL R v):C v:=by
 let(c,ϟ,e):=h;have:∀(c:Ζ)(R:List am),(∀r∈R,C r)->C (aD c R):=by
  intro c;induction c with
  |nil=>intro R _;cases R<;>show b
  |cons a c f=>intro R hR;cases R with
   |nil=>show b
   |cons r R=>show d a r (aD c R) (hR r<|.head _)<|f R λs g=>hR s<|.tail _ g
 let i:=this c R hR;rwa [<-funext e] at i
end
def wv{k:Nat}{a b b':am}{x:Int}:au k a (λu=>x*b u+b' u)=x*au k a b+au k a b':=by
 induction k with
 |zero=>change(0:Int)=x*0+0;lk
 |succ k c=>
  change au k a _+a k*(x*b k+b' k)=x*(au k a b+a k*b k)+(au k a b'+a k*b' k);rw[c,jK,jK,we];lk
def cK(k w:Nat)(A:Nat->am)(x y:am):Int:=au k x λs=>au w (A s) y
def MU{k w:Nat}{A:Nat->am}{a:Int}{x x' y:am}:cK k w A (λu=>a*x u+x' u) y=a*cK k w A x y+cK k w A x' y:=by
 ext cK;have:=uv (k:=k) (a:=x) (a':=x') (b:=λs=>au w (A s) y) (x:=a) (y:=1);rw[nQ] at this;rw[<-this];show iu λt _=>ω
def VA{k w:Nat}{A:Nat->am}{a:Int}{x y b:am}:cK k w A x (λu=>a*y u+b u)=a*cK k w A x y+cK k w A x b:=by
 ext cK;rw[<-wv];show cZ λs _=>by change au w (A s) (λu=>a*y u+b u)=a*au w (A s) y+au w (A s) b;show wv
def MT{k w:Nat}{A:Nat->am}:cK k w A (λ_=>0) y=0:=gp λ_ _=>O
def Vy{k w:Nat}{A:Nat->am}:cK k w A x (λ_=>0)=0:=by
 ext cK;have:∀k,au k x (λs=>au w (A s) λ_=>0)=0:=by
  intro k;induction k with
  |zero=>rfl
  |succ k a=>
   let z:au w (A k) (λ_=>0)=0:=by
    have:∀w,au w (A k) (λ_=>0)=0:=by intro w;induction w with|zero=>rfl|succ w a=>change au w (A k) _+A k w*0=0;rw[a];lk
    show this w
   change au k x _+x k*au w (A k) (λ_=>0)=0;rw[a,z];lk
 show this k
def Mw{k w N M X B:Nat}{A T U V f:Nat->am}(F:fC N M X B (a_ k<|be w (λi u=>T u i) U) P f)(c:∀u i,u<w->i<k->T u i=cK k w A (U i) (V u)):∀p∈P,∀u,u<w->f p u=cK k w A (λt=>f p<|w+t) (V u):=λp d u b=>by
 show cL.ind (C:=λv=>v u=cK k w A (λt=>v<|w+t) (V u)) MT.symm (λa x y e g=>?_) (λr h=>?_) (F.fr p d).sp;change a*x u+y u=cK k w A (λt=>a*x (w+t)+y (w+t)) (V u);rw[MU,<-e,<-g];let(i,j,rfl):=aW.mp h;change be w (λi u=>T u i) U i u=cK k w A (λt=>be w (λi u=>T u i) U i<|w+t) (V u);rw[iq b,show(λt=>be w (λi u=>T u i) U i<|w+t)=U i from funext λt=>ka];show c u i b<|bH.mp j
def MF{k w N M X B:Nat}{A T U V f:Nat->am}(F:fC N M X B (a_ w<|be k (λu i=>T i u) V) P f)(c:∀i u,i<k->u<w->T i u=cK k w A (U i) (V u)):∀p∈P,∀i,i<k->f p i=cK k w A (U i) (λt=>f p<|k+t):=λp d i b=>by
 show cL.ind (C:=λv=>v i=cK k w A (U i) (λt=>v<|k+t)) Vy.symm (λa x y e g=>?_) (λr h=>?_) (F.fr p d).sp;change a*x i+y i=cK k w A (U i) (λt=>a*x (k+t)+y (k+t));rw[VA,<-e,<-g];let(u,j,rfl):=aW.mp h;change be k (λu i=>T i u) V u i=cK k w A (U i) (λt=>be k (λu i=>T i u) V u<|k+t);rw[iq b,show(λt=>be k (λu i=>T i u) V u<|k+t)=V u from funext λt=>ka];show c i u b<|bH.mp j
structure l'(n r g b:Nat)(W:Nat->am)(Q:Nat->Nat):Prop where
 d:∀a c,a<c->c<n-r->Q a<Q c
 j:∀a u,a<n-r->u<Q a->W (r+a) u=0
 f:∀a,a<n-r->0<W (r+a) (Q a)
 h:∀a c,a<c->c<n-r->0<=W (r+a) (Q c)/\W (r+a) (Q c)<W (r+c) (Q c)
 k:∀i a,i<r->a<n-r->(W i<|Q a).natAbs<=g*(W (r+a)<|Q a).natAbs
 e:∀a,a<n-r->(W (r+a)<|Q a).natAbs<=b
structure FY(n r m:Nat)(S:Nat->am):Prop where
 a:∀i,i<r->0<S i i
 c:∀i j,i<r->i<j->j<m->S i j=0
 b:∀i j,i<r->j<i->(S i j).natAbs<=(S i i).natAbs
 z:∀i u,r<=i->i<n->u<m->S i u=0
section
variable{n r m g b M:Nat}{S W:Nat->am}{Q:Nat->Nat}
def L_(l:r<=n)(o:r<=m)(p:1<=g)(H:FY n r m S)(K:l' n r g b W Q)(q:g*b<=M)(s:∀i,i<r->(S i i).natAbs<=M):iv n r m M g (be m S W) (λa=>m+Q a):=by
 show(p,l,o,λa c k f=>by have:=K.d a c k f;change m+Q a<m+Q c;show ñ this,λa _=>iY _ _,λi d=>by rw[iq %[|à d o]];show H.a i d,λi j d k f=>%[iq f|H.c i j d k f],λi j d t=>by rw[iq %[|à (à t (ì d)) o],iq %[|à d o]];show H.b i j d t,λi a d e=>%[ka,ka|K.k i a d e],λa u e v=>?_,λa e=>%[ka|K.f a e],λa c k f=>%[ka,ka|K.h a c k f],λi d=>by rw[iq %[|à d o]];show s i d,λa e=>%[ka|aL (eD _<|K.e a e) q]);cases h:u<m;rw[iq h];show H.z (r+a) u ü ω h;rw[show u=m+(u-m) from ω,ka];show K.j a _ e (by have:u<m+Q a:=v;lk)
end
def cV(r m:Nat)(Q:Nat->Nat)(i:Nat):Nat:=if i<r then i else m+Q (i-r)
def oW{r m:Nat}{i:Nat}(h:i<r):cV r m Q i=i:=aw h
def sH{r m:Nat}{a:Nat}:cV r m Q (r+a)=m+Q a:=by ext cV;rw[ar %[|ù ü],akg]
def FB{r m n:Nat}{Q:Nat->Nat}(h:r<=n):j_ r n (λa=>m+Q a)=(aP n).map (cV r m Q):=by
 ext j_;rw[TK h];apply kX;simp;lk;intro i c d;rw[iG,mD];cases b:i<r;rw[aky 5#b,mD,oW b];rw[akx (by simp;show ô b),iG,mD,gX];ext cV;rw[ar b]
section
variable{n r m g b M N X B:Nat}{S W f:Nat->am}{Q:Nat->Nat}{P:List Nat}
def Mj(s:r<=n)(v:r<=m)(K:l' n r g b W Q)(R:MY n r m (be m S W) f (λa=>m+Q a)):l' n r 1 b (λi t=>f (cV r m Q i)<|m+t) Q/\(∀i,i<r->0<f (cV r m Q i) i)/\(∀i j,i<r->j<i->f (cV r m Q i) j=0)/\(∀i j,i<j->j<r->0<=f (cV r m Q i) j/\f (cV r m Q i) j<f (cV r m Q j) j)/\(∀i u,i<n->u<m->(r<=i\/r<=u)->f (cV r m Q i) u=0):=by
 show((K.d,λa u e p=>?_,λa e=>?_,λa c k o=>?_,λi a d e=>?_,λa e=>?_),λi d=>?_,λi j d q=>?_,λi j k o=>?_,λi u d p h=>?_);change f (cV r m Q<|r+a) (m+u)=0;rw[sH];show R.c a (m+u) e (by change m+u<m+Q a;show ñ p);change 0<f (cV r m Q<|r+a) (m+Q a);rw[sH];show R.o a e;change 0<=f (cV r m Q<|r+a) (m+Q c)/\f (cV r m Q<|r+a) (m+Q c)<f (cV r m Q<|r+c) (m+Q c);rw[sH,sH];show R.g a c k o;change(f (cV r m Q i)<|m+Q a).natAbs<=1*(f (cV r m Q<|r+a)<|m+Q a).natAbs;rw[oW d,sH];have:=R.e i a d e;have this:0<=f i (m+Q a)/\f i (m+Q a)<f (m+Q a) (m+Q a):=this;lk;change(f (cV r m Q<|r+a)<|m+Q a).natAbs<=b;rw[sH];let k:=R.h a e;let k:(f (m+Q a)<|m+Q a).natAbs<=(be m S W (r+a)<|m+Q a).natAbs:=k;rw[ka] at k;show aL k<|K.e a e;rw[oW d];show R.p i d;rw[oW d];show R.l i j d q;rw[oW (show i<r from à k (ì o)),oW o];show R.fr i j k o;cases l:i<r;rw[oW l];show R.n i u l ω p;rw[show i=r+(i-r) from ω,sH];show R.c (i-r) u ω (by change u<m+Q (i-r);show í p)
end
def pP{g g':Nat->am}{k:Nat}(h:∀i,i<k->g i i=g' i i):cj g k=cj g' k:=by
 ext cj;show iZ λi a=>#v[h i<|bH.mp a]
structure kc(A:Nat->am)(k w r D bU bV g:Nat)(T U V:Nat->am)(Bn Bf:List am)(QU QV:Nat->Nat):Prop where
 a:r<=k
 b:r<=w
 q:1<=g
 l:∀u i,u<w->i<k->T u i=cK k w A (U i) (V u)
 h:kd k (a_ k U) Bn
 f:kd w (a_ w V) Bf
 e:l' k r g bU U QU
 o:l' w r 1 bV V QV
 c:∀u,u<r->0<T u u
 n:∀u i,u<r->i<u->T u i=0
 p:∀u i,u<i->i<r->0<=T u i/\T u i<T i i
 d:∀u i,u<w->i<k->(r<=u\/r<=i)->T u i=0
 j:∀m,m<=r->cU (cj T m)<=D
structure pV(A:Nat->am)(k w r D bU bV g:Nat)(S U V:Nat->am)(Bn Bf:List am)(QU QV:Nat->Nat):Prop where
 a:r<=k
 b:r<=w
 j:1<=g
 l:∀i u,i<k->u<w->S i u=cK k w A (U i) (V u)
 f:kd k (a_ k U) Bn
 h:kd w (a_ w V) Bf
 n:l' k r g bU U QU
 e:l' w r 1 bV V QV
 c:FY w r k (λu i=>S i u)
 d:∀m,m<=r->cU (cj S m)<=D
section
variable{A T U V S f:Nat->am}{k w r D bU bV g M N X B:Nat}{Bn Bf:List am}{QU QV:Nat->Nat}{P:List Nat}
def kc.A7(I:kc A k w r D bU bV g T U V Bn Bf QU QV):FY k r w (λi u=>T u i):=
 (I.c,λi j c a b=>by
  cases h:j<r;show I.n j i h a;show I.d j i b (by have:=I.a;show à c this)<|.inl (ô h),λi j c d=>by have:=I.p j i d c;change(T j i).natAbs<=(T i i).natAbs;lk,λi u a b e=>I.d u i e b<|.inr a)
def kc.J(I:kc A k w r D bU bV g T U V Bn Bf QU QV){i:Nat}(a:i<r):(T i i).natAbs<=D:=by
 let b:=Fq (g:=T) (k:=i) λj c=>I.c j (à c a);let d:=I.j (i+1) a;let e:=I.c i a;lk
def kc.A3(I:kc A k w r D bU bV g T U V Bn Bf QU QV)(b:g*bU<=M)(c:D<=M):iv k r w M g (be w (λi u=>T u i) U) (λa=>w+QU a):=
 L_ I.a I.b I.q I.A7 I.e b λi d=>aL (I.J d) c
def Fp(I:kc A k w r D bU bV g T U V Bn Bf QU QV){m:Nat}(a:m<=r):cj (be w (λi u=>T u i) U) m=cj T m:=pP λi b=>#v[iq (by have:=I.b;show à (à b a) this)]
def kc.A1(I:kc A k w r D bU bV g T U V Bn Bf QU QV)(x:iv k r w M g (be w (λi u=>T u i) U) (λa=>w+QU a))(F:fC N M X B (a_ k<|be w (λi u=>T u i) U) P f):P=(aP k).map (cV r w QU)/\pV A k w r D bU bV 1 (λi=>f<|cV r w QU i) (λi t=>f (cV r w QU i)<|w+t) V (uz k ((a_ k<|be w (λi u=>T u i) U).map λr=>jY f P r) Bn) Bf QU QV/\ (∀m,m<=r->cU (cj (λi=>f<|cV r w QU i) m)<=cU (cj T m))/\((∃m,m<=r/\2*cU (cj (λi=>f<|cV r w QU i) m)<=cU (cj T m))\/∀i,i<r->f (cV r w QU i) i=T i i/\∀j,j<r->j≠i->f (cV r w QU i) j=0):=by
 let(n,R):=x.F F;rw[FB I.a] at n;let(y,z,C,E,q):=Mj I.a I.b I.e R;let s:∀m,m<=r->cj (λi=>f<|cV r w QU i) m=cj f m:=λm b=>pP λi c=>by change f (cV r w QU i) i=f i i;rw[oW %[|à c b]]
 let v:∀m,m<=r->cU (cj (λi=>f<|cV r w QU i) m)<=cU (cj T m):=λm b=>by rw[s m b,<-Fp I b];show R.le m b
 show(n,(I.a,I.b,aE 1,λi u c o=>?_,?_,I.f,y,I.o,(z,λu i o d l=>?_,λu i o c=>?_,λu i d l G=>?_),λm b=>aL (v m b)<|I.j m b),v,?_);show Mw F I.l _ %[n|aW.mpr (i,bH.mpr c,O)] u o
 have:=Bl F I.h
 let e:(P.map λp=>λt=>f p<|w+t)=a_ k (λi t=>f (cV r w QU i)<|w+t):=by rw[n,dC];rfl
 rw[e] at this;show this;change f (cV r w QU i) u=0;cases h:i<r;show C i u h d;show q i u l (by have:=I.b;show à o this)<|.inl (ô h);change(f (cV r w QU i) u).natAbs<=(f (cV r w QU u) u).natAbs
 have:=E i u c o;lk
 show q i u G l<|.inr d;obtain⟨m,b,h⟩|h:=R.d;show .inl (m,b,by rw[s m b,<-Fp I b];show h);show .inr λi c=>?_;let(d,l):=h i c;rw[iq (by have:=I.b;show à c this)] at d;rw[oW c];show(d,l)
def pV.F(I:pV A k w r D bU bV g S U V Bn Bf QU QV){i:Nat}(b:i<r):(S i i).natAbs<=D:=by
 let c:=Fq (g:=S) (k:=i) λj d=>I.c.a j (à d b);let e:=I.d (i+1) b;let a:=I.c.a i b;let a:0<S i i:=a;lk
def pV.A0(I:pV A k w r D bU bV g S U V Bn Bf QU QV)(d:bV<=M)(b:D<=M):iv w r k M 1 (be k (λu i=>S i u) V) (λa=>k+QV a):=
 L_ I.b I.a (aE 1) I.c I.e ω λi c=>aL (I.F c) b
def pV.q(I:pV A k w r D bU bV g S U V Bn Bf QU QV)(s:iv w r k M 1 (be k (λu i=>S i u) V) (λa=>k+QV a))(F:fC N M X B (a_ w<|be k (λu i=>S i u) V) P f):P=(aP w).map (cV r k QV)/\kc A k w r D bU bV g (λu=>f<|cV r k QV u) U (λu t=>f (cV r k QV u)<|k+t) Bn (uz w ((a_ w<|be k (λu i=>S i u) V).map λr=>jY f P r) Bf) QU QV/\ (∀m,m<=r->cU (cj (λu=>f<|cV r k QV u) m)<=cU (cj S m))/\((∃m,m<=r/\2*cU (cj (λu=>f<|cV r k QV u) m)<=cU (cj S m))\/∀i,i<r->f (cV r k QV i) i=S i i/\∀j,j<r->j≠i->f (cV r k QV i) j=0):=by
 let(d,R):=s.F F;rw[FB I.b] at d;let(v,x,y,z,C):=Mj I.b I.a I.e R;let l:∀m,m<=r->cj (be k (λu i=>S i u) V) m=cj S m:=λm b=>pP λi c=>#v[iq (by have:=I.a;show à (à c b) this)]
 let n:∀m,m<=r->cj (λu=>f<|cV r k QV u) m=cj f m:=λm b=>pP λi c=>by change f (cV r k QV i) i=f i i;rw[oW %[|à c b]]
 let o:∀m,m<=r->cU (cj (λu=>f<|cV r k QV u) m)<=cU (cj S m):=λm b=>by rw[n m b,<-l m b];show R.le m b
 show(d,(I.a,I.b,I.j,λu i E c=>?_,I.f,?_,I.n,v,x,y,z,C,λm b=>aL (o m b)<|I.d m b),o,?_);show MF F I.l _ %[d|aW.mpr (u,bH.mpr E,O)] i c
 have:=Bl F I.h
 let e:(P.map λp=>λt=>f p<|k+t)=a_ w (λu t=>f (cV r k QV u)<|k+t):=by rw[d,dC];rfl
 rw[e] at this;show this;obtain⟨m,b,h⟩|h:=R.d;show .inl (m,b,by rw[n m b,<-l m b];show h);show .inr λi c=>?_;let(q,G):=h i c;rw[iq (by have:=I.a;show à c this)] at q;rw[oW c];show(q,G)
end
def Md{c:am}{i j t:Nat}(b:i≠j):∀k,dY (fB U i λt=>U i t+U j t) (λa=>if a=j then c j-c i else c a) k t=dY U c k t+(if i<k then c i*U j t else 0)-(if j<k then c i*U j t else 0)
 |0=>by change(0:Int)=0+(if i<0 then _ else 0)-(if j<0 then _ else 0);rw[ar %[|ù ú],ar %[|ù ú]];rfl
 |k+1=>by
  change dY _ _ k t+(if k=j then c j-c i else c k)*fB U i (λt=>U i t+U j t) k t=dY U c k t+c k*U k t+_-_;rw[Md b k];cases d:k=i;subst d;rw[ar (show ¬k<k from ù ß),ar b,jZ,aw (show k<k+1 from ß),jK];cases h:j<k;rw[aw h,aw (show j<k+1 from í h)];lk;rw[ar h,ar (show ¬j<k+1 from ù (þ (ô h) b))];lk;rw[jA d];cases e:k=j;subst e;rw[aw O,ar (show ¬k<k from ù ß),aw (show k<k+1 from ß),A_];cases h:i<k;rw[aw h,aw (show i<k+1 from í h)];lk;rw[ar h,ar (show ¬i<k+1 from ù (ÿ (ô h) b))];lk;rw[ar e];let f:(if i<k then c i*U j t else 0)=(if i<k+1 then c i*U j t else 0):=by
   cases h:i<k;rw[aw h,aw %[|í h]];rw[ar h,ar %[|ù (þ (ô h) d)]]
  let g:(if j<k then c i*U j t else 0)=(if j<k+1 then c i*U j t else 0):=by
   cases h:j<k;rw[aw h,aw %[|í h]];rw[ar h,ar %[|ù (þ (ô h) e)]]
  rw[f,g];lk
def Bk{n i:Nat}(h:i<n):(a_ n W)[i]?=aa (W i):=by ext a_;rw[ca,jX h];rfl
def pQ{n:Nat}:(a_ n W).length=n:=by ext a_;simp
def Bw{k:Nat}:kd k (a_ k U) (a_ k C)↔(∀s t,s<k->t<k->dY U (λa=>C a s) k t=bC s t)/\∀i j,i<k->j<k->au k (U i) (C j)=bC i j:=by
 let e:∀s t,aD ((a_ k C).map λb=>b s) (a_ k U) t=dY U (λa=>C a s) k t:=λs t=>by
  have:=Bt (ρ:=U) (c:=λa=>C a s) t k;rw[<-this];ext a_ lst;rw[dC];rfl
 k_in;intro D;show(λs t g h=>by rw[<-e];show D.a.d s t g h,λi j d f=>D.b i j _ _ (Bk d)<|Bk f);rintro⟨n,o⟩;show((pQ,pQ,λs t g h=>%[e|n s t g h]),λi j u p l m=>?_);let d:i<k:=by have:=(dN.mp l).1;rwa [pQ] at this
 let f:j<k:=by have:=(dN.mp m).1;rwa [pQ] at this
 rw[Bk d] at l;rw[Bk f] at m;cases l;cases m;show o i j d f
def kd.F{A:Nat}(D:kd A (a_ A B) (a_ A C)){i j:Nat}(q:i<A)(r:j<A)(o:i≠j):kd A (a_ A<|fB B i λE=>B i E+B j E) (a_ A<|fB C j λs=>C j s-C i s):=by
 rw[Bw] at D ⊢;let(u,d):=D;show(λs E v w=>?_,λG H f g=>?_);let e:(λG=>fB C j (λs=>C j s-C i s) G s)=λG=>if G=j then C j s-C i s else C G s:=funext λG=>by
  ext fB;cases h:G=j;rw[aw h,aw h];rw[ar h,ar h]
 rw[e];have:=Md (U:=B) (c:=λG=>C G s) (t:=E) o A;rw[this,aw q,aw r,u s E v w];lk;-- by the two rows
 let n:∀{I:am},au A (λE=>B i E+B j E) I=au A (B i) I+au A (B j) I:=λ{I}=>by
  have:=uv (k:=A) (a:=B i) (a':=B j) (b:=I) (x:=1) (y:=1);rw[nQ,nQ] at this;rw[<-this];show iu λE _=>ω
 let l:∀{I:am},au A I (λs=>C j s-C i s)=au A I (C j)-au A I (C i):=λ{I}=>by
  have:=wv (k:=A) (a:=I) (b:=C i) (b':=C j) (x:=-1);rw[show au A I (C j)-au A I (C i)=-1*au A I (C i)+au A I (C j) from ω,<-this];show cZ λE _=>ω
 cases p:G=i;subst p;rw[jZ];cases m:H=j;subst m;rw[jZ,n,l,l,d G H f g,d G G f f,d H H g g,d H G g f];ext bC;rw[ar o,aw O,aw O,ar<|cQ o];lk;rw[jA m,n,d G H f g,d j H r g];ext bC;rw[ar<|show ¬j=H from λz=>m z.symm];lk;rw[jA p];cases m:H=j;subst m;rw[jZ,l,d G H f g,d G i f q];ext bC;rw[ar p];lk;rw[jA m,d G H f g]
def UX{A S U V f:Nat->am}{k w r D q s g M N X B:Nat}{t z:List am}(I:pV A k w r D q s g S U V t z E b)(G:iv w r k M 1 (be k (λu i=>S i u) V) (λa=>k+b a))(F:fC N M X B (a_ w<|be k (λu i=>S i u) V) P f)(h:∀i,i<r->f (cV r k b i) i=S i i/\∀j,j<r->j≠i->f (cV r k b i) j=0){i u:Nat}(l:i<r)(W:u<r):S i i ∣ S i u:=by
 let(H,R):=G.F F;let c:be k (λu i=>S i u) V u∈a_ w (be k (λu i=>S i u) V):=aW.mpr (u,bH.mpr (by have:=I.b;show à W this),O);let K:=F.e _ c;let e:be k (λu i=>S i u) V u i=S i u:=iq (by have:=I.a;show à l this);rw[<-e];show cL.ind (C:=λv=>S i i ∣ v i) (Up _) (λa x y L Q=>Int.dvd_add (Int.dvd_trans L<|Int.dvd_mul_left a _) Q) (λv T=>?_) K;let(p,m,rfl):=aW.mp T;rw[H,FB I.b] at m;let(j,n,rfl):=aW.mp m;let n:=bH.mp n;cases d:j<r;cases o:i=j;subst o;rw[(h i l).1];show Int.dvd_refl _;rw[(h j d).2 i l o];show Up _;rw[show j=r+(j-r) from ω,sH];rw[R.c (j-r) i ω (by change i<k+b (j-r);have:=I.a;show í (à l this))];show Up _
def fT(U:Nat->am)(r:Nat):Nat->Nat->am
 |0=>U
 |n+1=>fB (fT U r n) (r-2-n) λt=>fT U r n (r-2-n) t+fT U r n (r-1-n) t
def nV(C:Nat->am)(r:Nat):Nat->Nat->am
 |0=>C
 |n+1=>fB (nV C r n) (r-1-n) λs=>nV C r n (r-1-n) s-nV C r n (r-2-n) s
def jz(U:Nat->am)(r:Nat):Nat->Nat->am
 |0,_=>λ_=>0
 |n+1,i=>λt=>U i t+jz U r n (i+1) t
section
variable{U C:Nat->am}{r k:Nat}
def Fu:∀(n:Nat),n+1<=r->∀i,fT U r n i=if r-1-n<=i/\i<r then jz U r (r-i) i else U i
 |0,h,i=>by
  change U i=_;cases e:i=r-1;rw[aw ω,show r-i=1 from ω];show funext λt=>by change U i t=U i t+0;lk
  rw[ar ω]
 |n+1,h,i=>by
  let a:=Fu n (ì h);change fB (fT U r n) (r-2-n) (λt=>fT U r n (r-2-n) t+fT U r n (r-1-n) t) i=_;cases e:i=r-2-n;rw[e,jZ,aw ω,a<|r-2-n,a<|r-1-n,ar ω,aw ω];let c:r-(r-2-n)=n+1+1:=ω;let d:r-(r-1-n)=n+1:=ω;rw[c,d];show funext λt=>by
   change U (r-2-n) t+jz U r (n+1) (r-1-n) t=U (r-2-n) t+jz U r (n+1) (r-2-n+1) t;rw[show r-2-n+1=r-1-n from ω]
  rw[jA e,a i];cases b:r-1-n<=i/\i<r;rw[aw b,aw ω];rw[ar b,ar ω]
def qN(h:1<=r)(i:Nat):fT U r (r-1) i=if i<r then jz U r (r-i) i else U i:=by
 rw[Fu (r-1) ω i];cases e:i<r;rw[aw ω,aw e];rw[ar ω,ar e]
def Mh(a:r<=k)(D:kd k (a_ k U) (a_ k C)):∀n,n+1<=r->kd k (a_ k<|fT U r n) (a_ k<|nV C r n)
 |0,_=>D
 |n+1,h=>(Mh a D n (ì h)).F (i:=r-2-n) (j:=r-1-n) ω ω ω
def Ft{u K:Nat}:∀(n i:Nat),(∀j,i<=j->j<i+n->(U j u).natAbs<=K)->(jz U r n i u).natAbs<=n*K
 |0,_,_=>cJ _
 |n+1,i,h=>by
  let a:=Ft (u:=u) n (i+1) λj a b=>h j (ì a) ω;let b:=h i (aE _) ω;let c:=qJ (U i u)<|jz U r n (i+1) u;change(U i u+jz U r n (i+1) u).natAbs<=(n+1)*K;rw[mz];lk
def Mb:∀(n i:Nat),cK k b c (jz U r n i) d=jz (λi _=>cK k b c (U i) d) r n i 0
 |0,_=>MT
 |n+1,i=>by
  change cK k b c (λt=>U i t+jz U r n (i+1) t) d=cK k b c (U i) d+jz (λi _=>cK k b c (U i) d) r n (i+1) 0;rw[<-Mb n<|i+1];have:=MU (k:=k) (w:=b) (A:=c) (a:=1) (x:=U i) (x':=jz U r n<|i+1) (y:=d);rw[nQ] at this;rw[<-this];congr 1;show funext λt=>ω
def Fs{c:Nat->Int}{u:Nat}:∀(n i:Nat),(∀j,i<=j->j<i+n->j≠u->c j=0)->jz (λi _=>c i) r n i 0=if i<=u/\u<i+n then c u else 0
 |0,i,_=>by change(0:Int)=_;rw[ar ω]
 |n+1,i,h=>by
  change c i+jz (λi _=>c i) r n (i+1) 0=_;rw[Fs n (i+1) λj d a b=>h j %[|ì d] ω b];cases e:i=u;subst e;rw[ar ω,aw ω];lk;rw[h i (aE _) ω e];cases a:i+1<=u/\u<i+1+n;rw[aw a,aw ω];lk;rw[ar a,ar ω];lk
end
section
variable{A T U V:Nat->am}{k w r D bU bV g:Nat}{Bn Bf:List am}{QU QV:Nat->Nat}{C:Nat->am}
def kc.A0(I:kc A k w r D bU bV g T U V (a_ k C) Bf QU QV)(l:1<=r)(z:∀E i,E<r->i<r->E≠i->T E i=0):pV A k w r D bU bV (r*g) (λi E=>cK k w A (fT U r (r-1) i)<|V E) (fT U r<|r-1) V (a_ k<|nV C r<|r-1) Bf QU QV/\∀i E,i<k->E<w->cK k w A (fT U r (r-1) i) (V E)=if i<=E/\E<r then T E E else 0:=by
 let y:=I.a;let q:=I.b;let d:∀i E,i<k->E<w->cK k w A (fT U r (r-1) i) (V E)=if i<=E/\E<r then T E E else 0:=λi E n b=>by
  rw[qN l];cases h:i<r;rw[aw h,Mb];let e:jz (λi _=>cK k w A (U i)<|V E) r (r-i) i 0=jz (λi _=>if i<k then T E i else cK k w A (U i) (V E)) r (r-i) i 0:=by
   congr 1;show funext λj=>funext λ_=>by
    cases s:j<k;rw[aw s,I.l E j b s];rw[ar s]
  rw[e,Fs (u:=E) (r-i) i λj p f t=>by
   rw[aw ω];cases v:E<r;show z E j v ω<|cQ t;show I.d E j b ω<|.inl (ô v)]
  cases f:i<=E/\E<r;rw[aw ω,aw f,aw %[|à f.2 y]];rw[ar ω,ar f];rw[ar h,ar ω,<-I.l E i b n];show I.d E i b n<|.inr (ô h)
 let x:∀i,i<r->cK k w A (fT U r (r-1) i) (V i)=T i i:=λi n=>#v[d i i %[|à n y] %[|à n q],aw (aE _,n)]
 show((y,q,KT l I.q,λi E _ _=>O,Mh y I.h (r-1) ω,I.f,(I.e.d,λa E o b=>?_,λa o=>?_,λa c p f=>?_,λi a n o=>?_,λa o=>?_),I.o,(λE b=>?_,λE i b p f=>?_,λE i b n=>?_,λE i p f t=>?_),λm B=>?_),d);rw[qN l,ar %[|ù ü]];show I.e.j a E o b;rw[qN l,ar %[|ù ü]];show I.e.f a o;rw[qN l,qN l,ar %[|ù ü],ar %[|ù ü]];show I.e.h a c p f;rw[qN l,qN l,aw n,ar %[|ù ü]]
 have:=Ft (U:=U) (r:=r) (u:=QU a) (K:=g*(U (r+a)<|QU a).natAbs) (r-i) i λj p f=>I.e.k j a ω o;show aL this ?_;rw[ge];show eC _ ω
 rw[qN l,ar %[|ù ü]];show I.e.e a o;change 0<cK k w A (fT U r (r-1) E) (V E);rw[x E b];show I.c E b;change cK k w A (fT U r (r-1) i) (V E)=0;rw[d i E f %[|à b q],ar ω];change(cK k w A (fT U r (r-1) i)<|V E).natAbs<=(cK k w A (fT U r (r-1) E)<|V E).natAbs;rw[x E b,d i E %[|à (à n (ì b)) y] %[|à b q],aw %[|(ì n,b)]];show aE _;change cK k w A (fT U r (r-1) i) (V E)=0;rw[d i E t f,ar ω];let e:cj (λi E=>cK k w A (fT U r (r-1) i)<|V E) m=cj T m:=pP λi n=>x i (à n B);rw[e];show I.j m B
end
def FH:∀{P:List Nat}{v:am}{p:Nat},fI P f->P.Pairwise (·<·)->cL (P.map f) v->(∀u,u<p->v u=0)->v p≠0->p∈P
 |[],v,p,_,_,(c,j,e),_,d=>by
  show bo ?_ d;rw[e];cases c<;>rfl
 |q::P,v,p,h,i,(c,j,e),k,d=>by
  cases c with
  |nil=>simp at j
  |cons a c=>
   rw[kU] at i;let n:v q=a*f q q:=by
    rw[e];change a*f q q+aD c (P.map f) q=a*f q q;rw[nn c (P.map f) λv o=>by
     let(r,b,rfl):=aW.mp o;show h.z r (.tail _ b) q<|i.1 r b]
    lk
   let l:=h.a q<|.head _;cases m:a=0;show .tail _<|FH (v:=v) (h.q λr b=>.tail _ b) i.2 (c,by simpa using j,λu=>?_) k d;rw[e];change a*f q u+aD c (P.map f) u=_;rw[m];lk;let s:v q≠0:=%[n|Ba m ω]
   let w:p<=q:=by
    obtain g|g:=ji q p;show bo (k q g) s;show g
   let y:q<=p:=by
    obtain g|g:=ji p q;show bo ?_ d;rw[e];show nn _ _ λx t=>?_;let(r,b,rfl):=aW.mp t;obtain rfl|b:=ci.mp b;show h.z r (.head _) p g;show h.z r (.tail _ b) p (by have:=i.1 r b;show à (ï w) this);show g
   rw[show p=q from %[|û w y]];show .head _
def MV{L:Nat->am}{r k:Nat}(T:yY b)(D:r<=k)(t:∀i,i<r->b (L i))(u:∀i,i<r->0<L i i)(w:∀i j,i<r->i<j->j<k->L i j=0):∀j,j<r->∃v,b v/\v j≠0/\∀i,i<k->i≠j->v i=0:=by
 intro j;induction j using yr with
 |_ j y=>
  intro f;let a:∀n,n<=j->∃v,b v/\v j≠0/\(∀i,i<n->v i=0)/\∀i,j<i->i<k->v i=0:=by
   intro n;induction n with
   |zero=>intro _;show(L j,t j f,by have:=u j f;lk,λi c=>bo c<|qE _,λi g d=>w j i f g d)
   |succ n l=>
    intro E;let(v,m,o,p,q):=l (ì E);let(x,z,A,s):=y n E (à E (ì f));let B:=T.s (-(x n)) T.z m;let C:=T.s (v n) B z;show(_,C,?_,λi c=>?_,λi g d=>?_);change(0 - -(x n)*v j)-v n*x j≠0;rw[s j %[|à f D] %[|ö E],mF];have:=Ba A o;lk;change(0 - -(x n)*v i)-v n*x i=0;rw[mF];cases e:i=n;subst e;rw[jw<|x i];lk;rw[p i %[|þ (ò c) e],s i ω e];lk;change(0 - -(x n)*v i)-v n*x i=0;rw[q i g d,s i d %[|ö (à E (ì g))]];lk
  let(v,m,o,p,q):=a j<|aE _;show(v,m,o,λi c G=>?_);obtain h|h:=ji i j;show p i h;show q i (ÿ h G) c
def bT:Nat->am:=λi t=>bC i t
def pT{k i:Nat}(h:i<k):au k (bT i) g=g i:=by
 have:∀n,n<=k->au n (bT i) g=if i<n then g i else 0:=by
  intro n;induction n with
  |zero=>intro _;rw[ar %[|ù ú]];rfl
  |succ n b=>
   intro c;change au n (bT i) g+bC i n*g n=_;rw[b %[|ì c]];cases e:i=n;subst e;rw[ar %[|ù ß],aw %[|ß]];ext bC;rw[aw O];lk;ext bC;rw[ar e];cases a:i<n;rw[aw a,aw %[|í a]];lk;rw[ar a,ar %[|ù (ÿ (ô a) e)]];lk
 rw[this k<|aE _,aw h]
def Bj(k:Nat):kd k (a_ k bT) (a_ k bT):=by
 rw[Bw];show(λs t c g=>?_,λi j d h=>?_);have:∀n,n<=k->dY bT (λa=>bT a s) n t=if s<n then bC s t else 0:=by
  intro n;induction n with
  |zero=>intro _;rw[ar %[|ù ú]];rfl
  |succ n f=>
   intro l;change dY bT (λa=>bT a s) n t+bC n s*bC n t=_;rw[f %[|ì l]];cases e:n=s;subst e;rw[ar %[|ù ß],aw %[|ß]];ext bC;rw[aw O];lk;let z:bC n s=0:=by ext bC;rw[ar e]
   rw[z];cases b:s<n;rw[aw b,aw %[|í b]];lk;rw[ar b,ar %[|ù (þ (ô b) e)]];lk
 rw[this k<|aE _,aw c];rw[pT d];change bC j i=bC i j;ext bC;cases e:i=j;rw[aw e,aw e.symm];rw[ar e,ar (λz=>e z.symm)]
def Vz{k w i u:Nat}{A:Nat->am}(a:i<k)(b:u<w):cK k w A (bT i) (bT u)=A i u:=by
 ext cK;rw[pT a];have:au w (A i) (bT u)=au w (A i) (λs=>bC s u):=cZ λt _=>by
  change bC u t=bC t u;ext bC;cases e:u=t;rw[aw e,aw e.symm];rw[ar e,ar (λz=>e z.symm)]
 rw[this];show uw b
def bL(P:List Nat)(i:Nat):Nat:=P.getD i 0
section
variable{P:List Nat}{n:Nat}
def wp(a:P.length=n){i:Nat}(h:i<n):bL P i∈P:=by ext bL;rw[co,bu %[|à h (æ a)]];show dW _
def Ve(b:P.length=n){p:Nat}(h:p∈P):∃i,i<n/\bL P i=p:=by
 let(i,a,rfl):=jW h;show(i,(à a (å b)),by ext bL;rw[co,bu a];rfl)
def oV(b:P.length=n)(a:P.Pairwise (·<·)){i j:Nat}(h:i<j)(c:j<n):bL P i<bL P j:=by
 ext bL;rw[co,co,bu %[|à (à h (ì c)) (æ b)],bu %[|à c (æ b)]];show ui.mp a i j (à (à h (ì c)) (æ b)) (à c (æ b)) h
def FA(a:P.length=n):P=(aP n).map (bL P):=by
 apply kX;simp[a];intro i b c;rw[iG,mD];ext bL;rw[co,bu b];rfl
def dQ(m:Nat)(P:List Nat):Nat:=(P.filter λp=>aJ<|p<m).length
def FP(d:P.Pairwise (·<·)){m:Nat}(j:P.length=n):dQ m P<=n/\(∀i,i<dQ m P->bL P i<m)/\∀i,dQ m P<=i->i<n->m<=bL P i:=by
 have:∀P:List Nat,P.Pairwise (·<·)->dQ m P<=P.length/\(∀i,i<dQ m P->bL P i<m)/\∀i,dQ m P<=i->i<P.length->m<=bL P i:=by
  intro P;induction P with
  |nil=>intro _;show(aE _,λi f=>bo f<|qE _,λi _ f=>bo f<|qE _)
  |cons p P k=>
   intro d;rw[kU] at d;let(a,b,c):=k d.2;cases h:p<m;let e:dQ m (p::P)=dQ m P+1:=by ext dQ;rw[AX,aw<|cN h];rfl
   rw[e,dI];show((ð a),λi f=>?_,λi o g=>?_);cases i with
   |zero=>show h
   |succ i=>show b i (ò f)
   cases i with
   |zero=>lk
   |succ i=>show c i (ò o) (ò g)
   let e:dQ m (p::P)=0:=by
    ext dQ;rw[AX,ar 5#h,Fa.mpr λq l=>?_];rfl
    have:=d.1 q l
    simp;show à (ô h) (ì this)
   rw[e];show(cJ _,λi f=>bo f<|qE _,λi _ g=>?_);cases i with
   |zero=>show TP h
   |succ i=>
    rw[dI] at g;have:bL P i∈P:=wp O (ò g);have:=d.1 _ this;change m<=bL P i;show à (ô h) (ì this)
 let h:=this P d;rw[j] at h;show h
end
def Vd(a b:List Nat)(h:∀t∈b,1<=t):cU a<=cU (a++b):=by
 rw[yS];have:1<=cU b:=by
  clear a;induction b with
  |nil=>show aE _
  |cons t b c=>show pR (h t<|.head _)<|c λx d=>h x<|.tail _ d
 show yw _ this
section
variable{k w N M X B:Nat}{A f:Nat->am}{P:List Nat}
structure FZ(A:Nat->am)(k w r b:Nat)(S U:Nat->am)(Bn:List am)(Q q:Nat->Nat):Prop where
 e:r<=k
 l:r<=w
 g:∀i u,i<k->u<w->S i u=cK k w A (U i) (bT u)
 c:kd k (a_ k U) Bn
 h:l' k r 1 b U Q
 z:∀i u,r<=i->i<k->u<w->S i u=0
 a:∀i,i<r->q i<w
 f:∀i j,i<j->j<r->q i<q j
 d:∀i u,i<r->u<q i->S i u=0
 sp:∀i,i<r->0<S i (q i)
def ME(F:fC N M X B (a_ k<|be w A bT) P f):FZ A k w (dQ w P) B (λi=>f<|bL P i) (λi t=>f (bL P i)<|w+t) (uz k ((a_ k<|be w A bT).map λr=>jY f P r)<|a_ k bT) (λa=>bL P (dQ w P+a)-w) (bL P):=by
 let g:P.length=k:=%[F.c|pQ]
 let(y,x,v):=FP (m:=w) F.b g;let b:∀{i},i<k->bL P i∈P:=λd=>wp g d;let q:∀i,i<k->i<=bL P i:=by
  intro i;induction i with
  |zero=>intro _;show cJ _
  |succ i C=>intro d;have:=C (ì d);have:=oV g F.b (show i<i+1 from ß) d;lk
 let D:dQ w P<=w:=by
  obtain z|z:=vX (dQ w P);show î (å z);let o:=x (dQ w P-1) ω;let l:=q (dQ w P-1) ω;lk
 let s:∀a,a<k-dQ w P->w+(bL P (dQ w P+a)-w)=bL P (dQ w P+a):=λa n=>by have:=v (dQ w P+a) ü ω;lk
 show(y,D,λi u d h=>?_,?_,(λa c o l=>?_,λa u n h=>?_,λa n=>?_,λa c o l=>?_,λi a d n=>?_,λa n=>?_),λi u o l E=>F.a.z _ (b l) u (by have:=v i o l;show à E this),x,λi j o l=>oV g F.b o (à l y),λi u d h=>F.a.z _ (b (à d y)) u h,λi d=>F.a.a _<|b (à d y));show Mw (T:=λu i=>A i u) (U:=bT) (V:=bT) F (λu i h d=>(Vz d h).symm) _ (b d) u h
 have:=Bl F<|Bj k
 let e:(P.map λp=>λt=>f p<|w+t)=a_ k (λi t=>f (bL P i)<|w+t):=by
  have:=FA g
  conv=>lhs;rw[this]
  rw[dC];rfl
 rw[e] at this;show this
 have:=oV g F.b (show dQ w P+a<dQ w P+c from (ñ o)) ω
 have:=v (dQ w P+a) ü ω;change bL P (dQ w P+a)-w<bL P (dQ w P+c)-w;lk
 let h:u<bL P (dQ w P+a)-w:=h;show F.a.z _ (b ω) (w+u) ω;change 0<f (bL P<|dQ w P+a) (w+(bL P (dQ w P+a)-w));rw[s a n];show F.a.a _<|b ω;change 0<=f (bL P<|dQ w P+a) (w+(bL P (dQ w P+c)-w))/\f (bL P<|dQ w P+a) (w+(bL P (dQ w P+c)-w))<f (bL P<|dQ w P+c) (w+(bL P (dQ w P+c)-w));rw[s c l];show F.d _ (b ω) _ (b ω)<|oV g F.b (ñ o) ω;change(f (bL P i)<|w+(bL P (dQ w P+a)-w)).natAbs<=1*(f (bL P<|dQ w P+a)<|w+(bL P (dQ w P+a)-w)).natAbs;rw[s a n];have:=F.d _ (b (show i<k from (à d y))) _ (b (show dQ w P+a<k from ω))<|oV g F.b (í d) ω;lk;change(f (bL P<|dQ w P+a)<|w+(bL P (dQ w P+a)-w)).natAbs<=B;rw[s a n];show F.g _<|b ω
def Vo(g:1<=M)(b:oY (a_ k<|be w A bT))(j:∀r∈a_ k (be w A bT),∀u,(r u).natAbs<=M)(F:fC N M X B (a_ k<|be w A bT) P f):∀m,m<=dQ w P->cU ((aP m).map λi=>(f (bL P i)<|bL P i).toNat)<=(2*(k*M)+1) ^ k:=λm o=>by
 let c:P.length=k:=%[F.c|pQ]
 let(q,ϟ,ϟ):=FP (m:=w) F.b c;let h:=Vf g b F.a F.b F.e F.c λr l p _=>j r l p;rw[pQ] at h;let e:(P.map λp=>(f p p).toNat)=((aP m).map λi=>(f (bL P i)<|bL P i).toNat)++((aP<|k-m).map λa=>(f (bL P<|m+a)<|bL P<|m+a).toNat):=by
  have:=FA c
  conv=>lhs;rw[this]
  rw[dC];apply kX;simp;lk;intro i s v;rw[iG,mD];cases b:i<m;rw[aky 5#b,iG,mD];rfl;rw[akx (by simp;show ô b),iG,mD,aA,gX,show m+(i-m)=i from ω];rfl
 rw[e] at h;show aL (Vd _ _ λt n=>?_) h;let(a,d,rfl):=aW.mp n;let d:=bH.mp d;have:=F.a.a _<|wp c (show m+a<k from ω);lk
def Vp{r b D N2 M2 X2 X:Nat}{Q q:Nat->Nat}(I:FZ A k w r b S U Bn Q q)(hD:∀m,m<=r->cU ((aP m).map λi=>(S i<|q i).toNat)<=D)(F:fC N2 M2 X2 X (a_ w<|be k (λu i=>S i u) bT) d l):dQ k d=r/\(∀i,i<r->bL d i=i)/\kc A k w r D b X 1 (λu=>l<|bL d u) U (λu t=>l (bL d u)<|k+t) Bn (uz w ((a_ w<|be k (λu i=>S i u) bT).map λr=>jY l d r)<|a_ w bT) Q (λa=>bL d (r+a)-k):=by
 let rk:=I.e;let E:d.length=w:=%[F.c|pQ]
 let(c1,c2,R):=FP (m:=k) F.b E;let n:∀{i},i<w->bL d i∈d:=λf=>wp E f;let Y:∀p∈d,cL (a_ w<|be k (λu i=>S i u) bT) (l p):=λp K=>(F.fr p K).sp;let N:∀u,u<w->cL (a_ w<|be k (λu i=>S i u) bT) (be k (λu i=>S i u) bT u):=λu o=>cL.q<|aW.mpr (u,bH.mpr o,O);let G:∀v,cL (a_ w<|be k (λu i=>S i u) bT) v->∀i,r<=i->i<k->v i=0:=λv P i C B=>by
  let(c,ϟ,e):=P;rw[e];show nn _ _ λx hx=>?_;let(u,o,rfl):=aW.mp hx;rw[iq B];show I.z i u C B<|bH.mp o
 let lz:∀i j,i<r->i<j->j<k->be k (λu i=>S i u) bT (q i) j=0:=λi j f C B=>by
  rw[iq B];cases h:j<r;show I.d j (q i) h<|I.f i j C h;show I.z j (q i) (ô h) B<|I.a i f
 let lt:yY (cL<|a_ w<|be k (λu i=>S i u) bT):=(cL.zero,λm P hw=>P.J hw m);let lp:∀i,i<r->0<be k (λu i=>S i u) bT (q i) i:=λi f=>by rw[iq %[|à f rk]];show I.sp i f
 let s:∀j,j<r->j∈d:=λj M=>by
  let(v,v1,v2,v3):=MV (L:=λi=>be k (λu i=>S i u) bT<|q i) lt rk (λi f=>N _<|I.a i f) lp lz j M;show FH F.a F.b (v1.trans F.e) (λu o=>v3 u (à (à o (ì M)) rk) (õ o)) v2
 let lo:∀p∈d,p<k->p<r:=λp K h=>by
  obtain g|g:=ji p r;show g
  have:=G _ (Y p K) p g h
  have:=F.a.a p K;lk
 let y:∀i,i<r->i<w/\bL d i=i:=by
  intro i;induction i using yr with
  |_ i ih=>
   intro f;let(j,M,e):=Ve E<|s i f;let C:i<=j:=by
    obtain g|g:=ji j i
    have:=(ih j g (à g (ì f))).2;show à (æ e) (å this)
    show g
   let B:j<=i:=by
    obtain g|g:=ji i j;let Z:=oV E F.b g M;rw[e] at Z;let(ϟ,e2):=ih (bL d i) Z (à Z (ì f));obtain g2|g2|g2:=nN (bL d i) i
    have:=oV E F.b g2 (à (ï C) M);lk
    lk;lk;show g
   have:j=i:=(û B C);subst this;show(M,e)
 let ec:dQ k d=r:=by
  obtain g|g|g:=nN (dQ k d) r
  have:=R (dQ k d) (aE _) (y _ g).1
  rw[(y _ g).2] at this;show û (ì g) (à rk this);show g;let C:=c2 r g;let B:=lo _ (n (à g c1)) C;let Z:r<=bL d r:=by
   obtain z|z:=vX r;show î (å z)
   have:=oV E F.b (show r-1<r from ω) (à g c1)
   rw[(y (r-1) ω).2] at this;lk
  lk
 let W:∀a,a<w-r->k+(bL d (r+a)-k)=bL d (r+a):=λa H=>by have:=R (r+a) (í (å ec)) ω;lk
 show(ec,λi f=>(y i f).2,I.e,I.l,aE 1,λu i o f=>?_,I.c,?_,I.h,(λa c C B=>?_,λa u H o=>?_,λa H=>?_,λa c C B=>?_,λi a f H=>?_,λa H=>?_),λu o=>?_,λu i o f=>?_,λu i C B=>?_,λu i o f h=>?_,λm hm=>?_);show MF (T:=S) (U:=U) (V:=bT) F I.g _ (n o) i f
 have:=Bl F<|Bj w
 let e:(d.map λp=>λt=>l p<|k+t)=a_ w (λu t=>l (bL d u)<|k+t):=by
  have:=FA E
  conv=>lhs;rw[this]
  rw[dC];rfl
 rw[e] at this;show this
 have:=oV E F.b (show r+a<r+c from (ñ C)) ω
 have:=R (r+a) (í (å ec)) ω;change bL d (r+a)-k<bL d (r+c)-k;lk
 let o:u<bL d (r+a)-k:=o;show F.a.z _ (n ω) (k+u) ω;change 0<l (bL d<|r+a) (k+(bL d (r+a)-k));rw[W a H];show F.a.a _<|n ω;change 0<=l (bL d<|r+a) (k+(bL d (r+c)-k))/\l (bL d<|r+a) (k+(bL d (r+c)-k))<l (bL d<|r+c) (k+(bL d (r+c)-k));rw[W c B];show F.d _ (n ω) _ (n ω)<|oV E F.b (ñ C) ω;change(l (bL d i)<|k+(bL d (r+a)-k)).natAbs<=1*(l (bL d<|r+a)<|k+(bL d (r+a)-k)).natAbs;rw[W a H];have:=F.d _ (n (show i<w from (à (à f (æ ec)) c1))) _ (n (show r+a<w from ω))<|oV E F.b (í f) ω;lk;change(l (bL d<|r+a)<|k+(bL d (r+a)-k)).natAbs<=X;rw[W a H];show F.g _<|n ω;change 0<l (bL d u) u;rw[(y u o).2];show F.a.a u<|s u o;change l (bL d u) i=0;rw[(y u o).2];show F.a.z u (s u o) i f;change 0<=l (bL d u) i/\l (bL d u) i<l (bL d i) i;rw[(y u %[|à C (ì B)]).2,(y i B).2];show F.d u (s u (à C (ì B))) i (s i B) C;change l (bL d u) i=0;cases a0:u<r;show G _ (Y _<|n o) i ω f;show F.a.z _ (n o) i (by have:=R u (à (å ec) (ô a0)) o;show à f this);let T:nZ (cL<|a_ w<|be k (λu i=>S i u) bT) r (λi=>be k (λu i=>S i u) bT<|q i) l:=
  (lt,λi f=>N _<|I.a i f,lp,λi j C B=>lz i j (à C (ì B)) C (à B rk),λi f=>Y i<|s i f,λi f=>F.a.a i<|s i f,λi j f M=>F.a.z i (s i f) j M,λv i P f hz=>qQ F.a F.b (s i f) (P.trans F.e) λp _ K=>hz p K)
 let e1:cj (λu=>l<|bL d u) m=cj l m:=pP λi f=>by change l (bL d i) i=l i i;rw[(y i %[|à f hm]).2]
 let e2:cj (λi=>be k (λu i=>S i u) bT<|q i) m=(aP m).map λi=>(S i<|q i).toNat:=by
  ext cj;show iZ λi f=>by
   change(be k (λu i=>S i u) bT (q i) i).toNat=_;rw[iq (by have:=bH.mp f;show à (à this hm) rk)]
 rw[e1];have:=FJ T hm;rw[e2] at this;show aL this<|hD m hm
end
def lg(T:Nat->am):Nat->Nat
 |0=>0
 |r+1=>lg T r+Nat.log2 (cU<|cj T<|r+1)
def FG{a b:Nat}(c:1<=a)(h:a<=b):a.log2<=b.log2:=by
 obtain g|g:=ji b.log2 a.log2;let d:=(TN (show b≠0 from (ö (à c h)))).mp g;let e:=akc (show a≠0 from (ö c));lk;show g
def Vl{a b:Nat}(d:1<=a)(h:2*a<=b):a.log2+1<=b.log2:=by
 obtain g|g:=ji b.log2 (a.log2+1);let c:=(TN (show b≠0 from ω)).mp g;let e:=akc (show a≠0 from (ö d));rw[ng] at c;lk;show g
def FF{T a:Nat->am}:∀r,(∀i,i<r->0<a i i)->(∀m,m<=r->cU (cj a m)<=cU (cj T m))->lg a r<=lg T r
 |0,_,_=>aE _
 |r+1,b,h=>by
  let c:=FF r (λi d=>b i (í d)) λm e=>h m (í e);let f:=FG (wm (k:=r+1) b)<|h (r+1)<|aE _;change lg a r+_<=lg T r+_;lk
def FE{n a:Nat->am}:∀r,(∀i,i<r->0<a i i)->(∀m,m<=r->cU (cj a m)<=cU (cj n m))->(∃m,m<=r/\2*cU (cj a m)<=cU (cj n m))->lg a r+1<=lg n r
 |0,_,_,(m,c,h)=>by
  have:m=0:=(û c ú);subst this;let h:2*1<=1:=h;lk
 |r+1,d,h,(m,c,f)=>by
  let b:∀i,i<r->0<a i i:=λi l=>d i (í l);change lg a r+_+1<=lg n r+_;cases e:m=r+1;subst e;let g:=FF (T:=n) r b λm c=>h m (í c);let j:=Vl (wm (k:=r+1) d) f;lk;let g:=FE r b (λm c=>h m (í c)) (m,ω,f);let j:=FG (wm (k:=r+1) d)<|h (r+1)<|aE _;lk
def My{T:Nat->am}{D:Nat}:∀r,(∀i,i<r->0<T i i)->(∀m,m<=r->cU (cj T m)<=D)->lg T r<=r*D.log2
 |0,_,_=>cJ _
 |r+1,a,h=>by
  let b:=My r (λi c=>a i (í c)) λm d=>h m (í d);let e:=FG (wm (k:=r+1) a)<|h (r+1)<|aE _;change lg T r+_<=(r+1)*D.log2;rw[mz];lk
def li(r:Nat)(T:Nat->am):Prop:=∀u i,u<r->i<r->u≠i->T u i=0
open Classical in
noncomputable def ms(r:Nat)(T:Nat->am):Nat:=2*lg T r+if li r T then 0 else 1
section
variable{A T U V f1 f2:Nat->am}{k w r D bU bV g M N X B M2 X2 B2:Nat}{Bn Bf:List am}{QU QV:Nat->Nat}{P1 P2:List Nat}
def UR(I:kc A k w r D bU bV g T U V Bn Bf QU QV)(j:¬li r T)(l:iv k r w M g (be w (λi u=>T u i) U) (λa=>w+QU a))(n:fC N M X B (a_ k<|be w (λi u=>T u i) U) P1 f1)(c:iv w r k M2 1 (be k (λu i=>f1 (cV r w QU i) u) V) (λa=>k+QV a))(o:fC N M2 X2 B2 (a_ w<|be k (λu i=>f1 (cV r w QU i) u) V) P2 f2):ms r (λu=>f2<|cV r k QV u)<ms r T:=by
 let(ϟ,L,d,y):=I.A1 l n;let(ϟ,z,p,q):=L.q c o;let e:=λm b=>aL (p m b)<|d m b;ext ms;rw[ar j];cases f:∃m,m<=r/\2*cU (cj (λu=>f2<|cV r k QV u) m)<=cU (cj T m)
 have:=FE r z.c e f
 split<;>lk
 have:=FF r z.c e
 let s:li r (λu=>f2<|cV r k QV u):=by
  obtain⟨m,b,h⟩|h:=q;show bo (m,b,aL h<|d m b) f;show λu i t v x=>(h u t).2 i v<|cQ x
 rw[aw s];lk
def UQ(I:kc A k w r D bU bV g T U V (a_ k C) Bf QU QV)(l:1<=r)(f:li r T)(n:¬∀y,y+1<r->T y y ∣ T (y+1) (y+1))(d:iv w r k M2 1 (be k (λz y=>cK k w A (fT U r (r-1) y)<|V z) V) (λa=>k+QV a))(j:fC N M2 X2 B2 (a_ w<|be k (λz y=>cK k w A (fT U r (r-1) y)<|V z) V) P2 f2):ms r (λz=>f2<|cV r k QV z)<ms r T:=by
 let(L,b):=I.A0 l f;let(ϟ,B,o,p):=L.q d j;let x:=I.a;let q:=I.b;let e:∀m,m<=r->cj (λy z=>cK k w A (fT U r (r-1) y)<|V z) m=cj T m:=λm c=>pP λy s=>by
  change cK k w A (fT U r (r-1) y) (V y)=T y y;rw[b y y %[|à (à s c) x] %[|à (à s c) q],aw (aE _,%[|à s c])]
 let t:∀m,m<=r->cU (cj (λz=>f2<|cV r k QV z) m)<=cU (cj T m):=λm c=>by rw[<-e m c];show o m c
 ext ms;rw[aw f];let v:∃m,m<=r/\2*cU (cj (λz=>f2<|cV r k QV z) m)<=cU (cj T m):=by
  obtain⟨m,c,h⟩|h:=p;show(m,c,by rw[<-e m c];show h);show bo (λy s=>?_) n
  have:=UX L d j h (i:=y) (u:=y+1) (ì s) s;have this:cK k w A (fT U r (r-1) y) (V y) ∣ cK k w A (fT U r (r-1) y) (V<|y+1):=this
  rwa [b y y (à (ì s) x) (à (ì s) q),b y (y+1) (à (ì s) x) (à s q),aw (aE _,(ì s)),aw (ü,s)] at this
 have:=FE r B.c t v;split<;>lk
end
section
variable{N M X B:Nat}{R:List am}{P:List Nat}{f:Nat->am}{l:am}
def wA:pU N M X B<=kG N M X B:=iY _ _
def FV(a:1<=B):ja N M X B<=pU N M X B:=yw _<|KS<|Bu a
def fC.A1{r:am}(b:1<=B)(F:fC N M X B R P f)(c:R.length<N)(d:∀p∈P,(r p).natAbs<=M)(i:Nat):ez (R++[r]) (kG N M X B) (iI f (P.take i) r):=by
 let a:(P.take i).length<=N:=by have:=F.c;rw[gf];lk
 let(e,ϟ):=uu (R:=R++[r]) (λp g=>(F.fr p g).A0) F.F F.a.a (P.take i) (λq h=>qH h) (ez.F<|iF R<|gW.mpr O) d;show e.q<|aL ?_<|aL (FV b) wA;ext ja;let j:(1+B) ^ (P.take i).length<=(1+B) ^ N:=iD ü a;let k:(P.take i).length*(M*(1+B) ^ (P.take i).length*iK N X B)<=N*(M*(1+B) ^ N*iK N X B):=iE a<|eC _<|eD _ j;lk
structure VG(N M X B:Nat)(R:List am)(P:List Nat)(f:Nat->am)(m:am)(a b c d:Int):Prop where
 h:fI P f
 fr:∀q∈P,ez R (kG N M X B) (f q)
 e:∀q∈P,(f q q).natAbs<=B
 met:∀i,ez R (kG N M X B) (iI f (P.take i) m)
 g:a.natAbs<=B
 j:b.natAbs<=B
 k:c.natAbs<=B
 d1:d.natAbs<=B
def qR.A1{t p:Nat}{g a b c d:Int}(L:1<=B)(T:qR N M X B R P f l t)(o:p∈P)(s:∀i,i<p->l i=0)(x:l p≠0)(u:t<=p)(G:qS (f p p) (l p) g a b 0 c d):VG N M X B R P (fB f p<|gQ a (f p) b l) (gQ c (f p) d l) a b c d:=by
 let(S,m):=T.next L o s x u G;let hG:=Bu (N:=N) L;let(r0,r1):=T.h p o;let U:=T.c p o;let(v,c2):=G.le;let V:a.natAbs<=B:=aL G.h ω;let W:b.natAbs<=B:=aL G.e U;let v:c.natAbs<=B:=aL v ω;let y:d.natAbs<=B:=aL c2 U;let lq:∀q∈P,(l q).natAbs<=B:=λq h=>by have:=T.h q h;have:=T.c q h;lk
 let fp:=T.k p o u;let ev:∀{a b:Int},a.natAbs<=B->b.natAbs<=B->∀q∈P,(gQ a (f p) b l q).natAbs<=2*B*B:=λ{a b} z A q h=>by
  let t1:(a*f p q).natAbs<=B*B:=%[gm|iE z<|fp q h]
  let t2:(b*l q).natAbs<=B*B:=%[gm|iE A<|lq q h]
  let t3:=qJ (a*f p q)<|b*l q;change(a*f p q+b*l q).natAbs<=_;rw[ge];generalize B*B=Y at t1 t2 ⊢;lk
 let a0:P.length<=N:=by have:=T.b;have:=T.d;lk
 let C:(P.filter λq=>aJ<|q<t).length+1<=N:=by
  let D:=T.b;let h2:=T.d;have:=rZ (λq=>aJ<|q<t) P;show à (à (ï this) (å D)) h2
 generalize hK:ja N M X B*kb N B ^ (P.filter λp=>aJ<|p<t).length=K;let E:=T.fr;let lr:=T.g;rw[hK] at E lr;let mr:∀{a b:Int},a.natAbs<=B->b.natAbs<=B->ez R (2*B*K) (gQ a (f p) b l):=λ{a b} z A=>((E p o).J lr z A).q (by rw[ge];lk);let kl:K<=2*B*K:=rT _ ω;let w:∀q∈P,ez R (2*B*K) (fB f p (gQ a (f p) b l) q):=λq h=>by
  cases e:q=p;subst e;rw[jZ];show mr V W;rw[jA e];show(E q h).q kl
 let j:∀n,n<=N->2*B*K+n*(2*B*B*(1+2*B*B) ^ n*(2*B*K))<=kb N B*K:=λn hn=>by
  ext kb wz;let D:(1+2*B*B) ^ n<=(1+2*B*B) ^ N:=iD ü hn;generalize 2*B*B=Y at D ⊢;let h2:n*(Y*(1+Y) ^ n*(2*B*K))<=N*(Y*(1+Y) ^ N*(2*B*K)):=iE hn<|eC _<|eD _ D;show aL (vY h2 _)<|pI ?_;generalize Y*(1+Y) ^ N=Z;generalize 2*B=Q;rw[my,oI,mz,<-ge N Z,kB Q<|N*Z,ge<|N*Z]
 let k:kb N B*K<=kG N M X B:=by
  show aL ?_ wA;rw[<-hK,KU,<-akb];show eD _<|iD hG C
 let H:2*B*K<=kb N B*K:=aL (iY _ _)<|j 0 ú;show(m,λq h=>(w q h).q<|aL H k,S.c,λi=>?_,V,W,v,y);let hi:(P.take i).length<=N:=by rw[gf];lk
 let(I,ϟ):=uu w (λq h r hr=>S.m q h r hr) m.a (P.take i) (λq h=>qH h) (mr v y)<|ev v y;show I.q<|aL (j _ hi) k
def qR.A0{t:Nat}(a:1<=B)(T:qR N M X B R P f l t):(∀p∈P,ez R (kG N M X B) (f p))/\ez R (kG N M X B) l:=
 (λp b=>(T.fr p b).q<|aL (T.F a) wA,T.g.q<|aL (T.F a) wA)
end
def qR.J{N q X B Y t:Nat}(T:qR N q X B R P f l t)(a:oY R)(b:∀r∈R,∀u,(r u).natAbs<=Y):∃u,l u≠0:=by
 show iH λd=>?_;let z:∀u,l u=0:=λu=>iH λh=>d (u,h);let e:∀r∈R,cL (P.map f) r:=λr g=>(T.j r g).trans λs i=>by
  obtain h|h:=fz.mp i;show cL.q h;rw[gW.mp h];show cL.zero.F z
 obtain⟨c,j,⟨x,k,m⟩,n,_⟩:=wn (M:=Y+1) ý (λv o p _=>EW<|b v o p) (show P.length<R.length by have:=T.b;show å this);show m<|wu a T.a T.e e c j n x k
def xh(a:Int)(n:Nat):iN:=(λi _=>i<n,λi H x b=>b=H/\x=.int (a-i),λi _=>n<=i)
def WX{K:aT}(c:ab)(g:Int)(Y:Nat):om P V K M (xh g Y) [c] c (λi h=>Kq h c (g+(i:Nat)*(-1)) ((Y:Int)-(i:Nat))<|-1) where
 f:=by simp
 a:=λi h a b f=>by
  let e:b=c:=by simpa using f
  subst e;show(_,a,λv z=>by
   let N:eS _=yn v:=z;cases N)
 c:=λi h l a k=>k c 0#0 _ a
 d:=by
  intro X p q r u i d Z G H E I m a x;subst p q r;let(y,A,Q,B,C,D):=m c 0#0;let W:=aic (prog:=X.prog) (w:=X.w) (I.b.a u) c g (-1) Y;show W.item i Z _ _ x a λv l L R j S=>?_;let(t,rfl):=R;let T:aK X d G H {Z with heap:=l,toks:=L}:=I.A1 (λb o f e=>S b o 5#f e) y A B C D;show(_,O,uI (s:={Z with heap:=l,toks:=L}) (n:="range_iterator") j O O ξ (.int<|g-i,H,T,(t,?_),(O,O),j,λb f=>(m b f).1));rw[show g+(i:Int)*(-1)=g-i from ω]
 done:=by
  intro X p q r u i d Z G H E I m a x;subst p q r;let(y,A,Q,B,C,D):=m c 0#0;show ahm (I.b.a u) a (by have:Y<=i:=x;lk) λl U=>(O,I.A1 (t':=Z.toks) (λb o f e=>U b o f e) y A B C D)
 e:=λ_ _ _ _ _ a h=>ahn a h
section
variable{X:bj}{tg:bG}
def Xz{R:iN->ag->Prop}{a c:Int}{t u v:je}{g:Nat}(I:aK X d f H s)(i:-(2 ^ 62)<=a)(j:a<2 ^ 62)(k:-(2 ^ 62)<=c)(l:c<2 ^ 62)(q:R (xh a (a-c).toNat) H):aF 3#0 X.A (rL<|.ref s⁻¹) (CB X d f tg R) E {s with heap:=s.heap.push {cls:=.type "range",data:=.fields #[.int a t,.int c u,.int (-1) v]},toks:=g}:=by
 show aho (air ..) (PySem.W.small_down i j k l) ?_;let h:aK X d f H {s with heap:=s.heap.push {cls:=.type "range",data:=.fields #[.int a t,.int c u,.int (-1) v]},toks:=g}:=I.F λb o e=>bQ _ e;show((s.heap.push {cls:=.type "range",data:=.fields #[.int a t,.int c u,.int (-1) v]}).objs.size,[(s.heap.push {cls:=.type "range",data:=.fields #[.int a t,.int c u,.int (-1) v]}).objs.size],_,_,H,O,
  h.F (t':=g) λb o e=>bQ _ e,WX _ a (a-c).toNat,?_,λb m=>?_,q)
 let n:a+((0:Nat):Int)*(-1)=a:=by simp
 let p:(((a-c).toNat:Nat):Int)-((0:Nat):Int)=ajh a c (-1):=by rw[PySem.W.rangeSize_downNat];lk
 change Kq _ _ (a+((0:Nat):Int)*(-1)) ((((a-c).toNat:Nat):Int)-((0:Nat):Int)) (-1);rw[n,p];show eB _ O;let e:b=(s.heap.push {cls:=.type "range",data:=.fields #[.int a t,.int c u,.int (-1) v]}).objs.size:=by simpa using m
 subst e;show h.A2 (aE _)<|h.a.q<|aE _
def YD(a:fN):jP:=λb H R=>a b H λc d=>∃i j:Int,c=[.int i,.int j,.int<|-1]/\(-(2 ^ 62)<=i/\i<2 ^ 62/\-(2 ^ 62)<=j/\j<2 ^ 62)/\R (xh i (i-j).toNat) d
def Oi{a b c:bG}{n:fN}{p d:dt}(o:kj X "range")(u:X.b "range"=ac)(v:jQ X [a,b,c] n)(w:eR [a,b,c] X.env=[(ahl aH (dw a X.env)),(ahl aH (dw b X.env)),(ahl aH (dw c X.env))]:=by rfl)(f:eR [b,c] X.env=[(ahl aH (dw b X.env)),(ahl aH (dw c X.env))]:=by rfl):kK X tg (.Call (.Name "range" p) [a,b,c] [] d) (YD n):=by
 intro g s x H R I h;show AM<|of I o u TE<|ua (bO (v d g s x H _ I h) λG K (L,M,y,z,l)=>?_) #v[w,f] (by rw[f];rfl);obtain⟨i,j,e,⟨l,A,B,C⟩,q⟩:=l;subst e;cases z with
 |cons r k=>
  cases k with
  |cons D k=>
   cases k with
   |cons m k=>
    cases k;let(t,rfl):=r;let(N,rfl):=D;let(E,rfl):=m;show call_range_3 ξ (Xz y l A B C q)<|.inl<|ajr δ
end
def OE{j:Int}{n:Nat}{g:gK}{l:gJ}{D:nx}(b:Nat->aY->ag->Prop)(q:b 0 a H)(r:∀i a H,i<n->b i a H->g (.int<|j-i) a H λc k=>l {D with a:=b<|i+1,b:=b<|i+1,c:=D.a} c k)(s:∀a H,b n a H->D.a a H):∃W:Nat->Nat->aY->ag->Prop,(∃m,W 0 m a H)/\∀i m a H,W i m a H->
   ((xh j n).b i H/\D.a a H)\/((xh j n).a i H/\∃N:aY->ag->Prop,(∀d f,N d f->∃o,o<m/\W (i+1) o d f)/\∀x f,(xh j n).c i H x f->g x a f λc k=>l {D with a:=N,b:=N,c:=D.a} c k):=by
 show(λi m a H=>m=n-i/\i<=n/\b i a H,(n,by simp,cJ _,q),?_);rintro i m a H ⟨rfl,j,p⟩
 cases h:i<n
 show .inr (h,b<|i+1,λd f t=>(n-(i+1),ω,O,h,t),λx f y=>?_)
 let(e,y):=y;subst e y;show r i a _ h p
 let e:i=n:=(û j (ô h))
 subst e;show .inl (aE _,s a H p)
section
variable{X:bj}
def NI{c:Ζ}(I:aK X a d H s)(e:bJ X.K H l (c.map ak.int)):∃b,Reads s.heap 6#l (.list<|c.map rN) b:=by
 let(f,r,p,ϟ):=I.list e;let(o,g,h,n,i):=p.isList;show(_,.list g h i<|(PySem.W.ke_carried<|wX r).reads s.heap)
def NE(a:Ζ):AC (.list<|a.map rN)=ap:=by
 simp[AC,PyData.canLay0,PySem.W.ke_canLayAll0,PyData.depth,PySem.W.ke_depthAll]
def Oy(a:Ζ):(Shape.list .int).has (.list<|a.map rN)=ap:=by simp[Shape.has]
inductive Gw(K:aT)(x:ak)(y:ak)(H:ag)(Q:aR):Prop
 |a:∀l m ns ms,(x=.ref l)->(y=.ref m)->(bJ K H l<|al ak.int ns)->(bJ K H m<|al ak.int ms)->(Q (.c<|aJ<|ns=ms) H)->Gw K x y H Q
def XW(d:X.A.units+64<eJ):gs X (kx .Eq) (Gw X.K):=by
 rintro c s n H x y v u Q I e f ⟨l,m,a,b,rfl,rfl,g,i,q⟩;cases e;cases f;let(o,j):=NI I g;let(p,k):=NI I i;show eq_dataH_same j k (NE _) (NE _) d (SeqAt.noMix_of_shape (.list .int) O _ _ (Oy _)<|Oy _) ?_;rw[show Spec.same (.list<|a.map rN) (.list<|b.map rN)=aJ (a=b) from by erw[Spec.same];show PySem.W.ke_sameAll a b];show(.c _,H,I,O,q)
end
def lj.q{N M X B i j k:Nat}(h:lj N M X B R)(m:M<=i)(n:X<=j)(o:B<=k):lj N i j k R:=
 (h.ind,λP f e s r g l=>by
  let(a,b,c):=h.a P f e s r g l;show(λp d=>aL (a p d) o,λr q p d=>aL (b r q p d) m,λt V u v x w=>aL (c t V u v x w)<|eD _<|eD _ n))
def iv.row{k r w M g N X B:Nat}{c f:Nat->am}{Q:Nat->Nat}(T:iv k r w M g c Q){i:Nat}(l:i<k)(F:fC N M X B ((aP i).map c) P f):∀p∈P,(c i p).natAbs<=M:=λp b=>by
 let e:=T.A3 (ì l) F.a F.b (λp b=>(F.fr p b).sp) (by rw[F.c];simp);rw[e] at b;show T.A1 (j:=i+1) l ß ?_;unfold j_ at b ⊢;obtain h|h:=fz.mp b;show kW _<|bH.mpr (by have:=bH.mp h;lk);let(a,d,rfl):=aW.mp h;show iF _<|aW.mpr (a,bH.mpr (by have:=bH.mp d;lk),O)
def qM(N b:Nat):Nat:=1+2*b+(2+2*b)*N
def yN(N n m x b:Nat):Nat:=2+(n+(m+(b+1)*N+(n+(b+x))))
def sG(N n m x b:Nat):Nat:=1+(n+(n+(yN N n m x b+(2+b+n+qM N b)*N+m)+(b+1)*N+(n+(b+x))))
def iJ{a b:Nat}(h:a<=b):2 ^ a<=2 ^ b:=iD ξ h
def dm{x y a b:Nat}(c:x<=2 ^ a)(d:y<=2 ^ b):x*y<=2 ^ (a+b):=%[vW|iE c d]
def Vh{b:Nat}:1+2 ^ b<=2 ^ (b+1):=by have:=jh (n:=b);rw[ng];lk
def By{x y a:Nat}(b:x<=2 ^ a)(c:y<=2 ^ a):x+y<=2 ^ (1+a):=by rw[K' 1,ng];lk
section
variable{N n m x b:Nat}
def uy(a:N<=2 ^ n):iK N (2 ^ x) (2 ^ b)<=2 ^ (n+(b+x)):=dm a<|dm (aE _)<|aE _
def Bp:(1+2 ^ b) ^ N<=2 ^ ((b+1)*N):=%[EV|qD Vh _]
def Vt:wz N (2 ^ b)<=2 ^ qM N b:=by
 ext wz qM;let e:2*2 ^ b*2 ^ b=2 ^ (1+2*b):=by
  let h:2*b=b+b:=ω;rw[h,vW,vW,Nat.pow_one,ge]
 rw[e];show dm (aE _) ?_;have:=Bp (N:=N) (b:=1+2*b);rwa [show 1+2*b+1=2+2*b from ω] at this
def Vv(e:1<=N)(a:N<=2 ^ n):kb N (2 ^ b)<=2 ^ (2+b+n+qM N b):=by
 ext kb;let c:2*2 ^ b<=2 ^ (1+b):=%[vW|aE _]
 let d:1+N*wz N (2 ^ b)<=2 ^ (1+(n+qM N b)):=By (jh)<|dm a Vt;have:=dm c d;rwa [show 1+b+(1+(n+qM N b))=2+b+n+qM N b from ω] at this
def Vu(a:N<=2 ^ n):ja N (2 ^ m) (2 ^ x) (2 ^ b)<=2 ^ yN N n m x b:=by
 ext ja yN;let c:=uy (x:=x) (b:=b) a;let d:N*(2 ^ m*(1+2 ^ b) ^ N*iK N (2 ^ x) (2 ^ b))<=2 ^ (n+(m+(b+1)*N+(n+(b+x)))):=dm a<|dm (dm (aE _) Bp) c;let e:1+iK N (2 ^ x) (2 ^ b)<=2 ^ (1+(n+(m+(b+1)*N+(n+(b+x))))):=By jh<|aL c<|iJ ω;have:=By e<|aL d<|iJ<|Nat.le_add_left _ 1;rwa [<-La] at this
def Vw(d:1<=N)(a:N<=2 ^ n):kG N (2 ^ m) (2 ^ x) (2 ^ b)<=2 ^ sG N n m x b:=by
 let c:pU N (2 ^ m) (2 ^ x) (2 ^ b)<=2 ^ (yN N n m x b+(2+b+n+qM N b)*N):=by
  ext pU;show dm (Vu a) ?_;rw[EV];show qD (Vv d a) _
 ext kG sG;show By (aL c<|iJ ω) ?_;show dm a<|dm (dm (dm a<|dm c<|aE _) Bp)<|uy a
def UO{f g e:Nat}(h:m<=f)(i:x<=g)(j:b<=e):sG N n m x b<=sG N n f g e:=by
 ext sG yN qM;let a:(b+1)*N<=(e+1)*N:=eC _ (ð j);let c:(2+2*b)*N<=(2+2*e)*N:=eC _ ω;let d:(2+b+n+(1+2*b+(2+2*b)*N))*N<=(2+e+n+(1+2*e+(2+2*e)*N))*N:=eC _ ω;lk
end
section
variable{A T U V T' U' V':Nat->am}{k w r D bU bV g:Nat}{Bn Bf:List am}{QU QV:Nat->Nat}
def nj{n:Nat}{W W':Nat->am}(h:∀i,i<n->W i=W' i):a_ n W=a_ n W':=iZ λi a=>h i<|bH.mp a
def l'.q{n b:Nat}{W e:Nat->am}{Q:Nat->Nat}(m:r<=n)(K:l' n r g b W Q)(h:∀i,i<n->W i=e i):l' n r g b e Q:=
 (K.d,λa u d f=>by rw[<-h _ ω];show K.j a u d f,λa d=>by rw[<-h _ ω];show K.f a d,λa c j k=>by rw[<-h _ ω,<-h _ ω];show K.h a c j k,λi a l d=>by rw[<-h i %[|à l m],<-h _ ω];show K.k i a l d,λa d=>by rw[<-h _ ω];show K.e a d)
def kc.cg(I:kc A k w r D bU bV g T U V Bn Bf QU QV)(c:∀u i,u<w->i<k->T u i=T' u i)(e:∀i,i<k->U i=U' i)(f:∀u,u<w->V u=V' u):kc A k w r D bU bV g T' U' V' Bn Bf QU QV:=by
 let j:=I.a;let d:=I.b;show(j,d,I.q,λu i a b=>?_,?_,?_,I.e.q j e,I.o.q d f,λu a=>?_,λu i a b=>?_,λu i l n=>?_,λu i a b h=>?_,λm o=>?_);rw[<-c u i a b,<-e i b,<-f u a];show I.l u i a b;rw[<-nj e];show I.h;rw[<-nj f];show I.f;rw[<-c u u %[|à a d] %[|à a j]];show I.c u a;rw[<-c u i %[|à a d] %[|à (à b (ì a)) j]];show I.n u i a b;rw[<-c u i %[|à (à l (ì n)) d] %[|à n j],<-c i i %[|à n d] %[|à n j]];show I.p u i l n;rw[<-c u i a b];show I.d u i a b h;rw[<-pP λi b=>c i i %[|à (à b o) d] %[|à (à b o) j]];show I.j m o
def kc.F(I:kc A k w r D bU bV g T U V Bn Bf QU QV){u i:Nat}(a:u<w)(b:i<k):(T u i).natAbs<=D:=by
 let d:=I.a;let c:=I.b;cases h:r<=u\/r<=i;rw[I.d u i a b h];show cJ _;obtain g|g|g:=nN u i
 have:=I.p u i g ω
 have:=I.J (i:=i) ω;lk
 subst g;show I.J ω;rw[I.n u i ω g];show cJ _
def pV.A1(I:pV A k w r D bU bV g S U V Bn Bf QU QV){u i:Nat}(b:u<w)(a:i<k):(S i u).natAbs<=D:=by
 let d:=I.a;let c:=I.b;cases h:r<=u
 have:=I.c.z u i h b a
 have this:S i u=0:=this;rw[this];show cJ _;obtain g|g|g:=nN u i;have this:S i u=0:=I.c.c u i (ó h) g a;rw[this];show cJ _;subst g;show I.F (ó h);have this:(S i u).natAbs<=(S u u).natAbs:=I.c.b u i (ó h) g;show aL this<|I.F (ó h)
def li.q(h:li r T)(e:r<=k)(f:r<=w)(a:∀u i,u<w->i<k->T u i=T' u i):li r T':=λu i b c d=>by rw[<-a u i %[|à b f] %[|à c e]];show h u i b c d
def Mx:∀r,(∀i,i<r->T i i=T' i i)->lg T r=lg T' r
 |0,_=>O
 |r+1,h=>by
  change lg T r+_=lg T' r+_;rw[Mx r λi a=>h i %[|í a],pP λi a=>h i a]
def Vj(h:∀u i,u<r->i<r->T u i=T' u i):ms r T=ms r T':=by
 ext ms;rw[Mx r λi a=>h i i a a];have:li r T↔li r T':=(λd u i b a e=>by rw[<-h u i b a];show d u i b a e,λd u i b a e=>%[h u i b a|d u i b a e]);cases c:li r T;rw[aw c,aw<|this.mp c];rw[ar c,ar λz=>c<|this.mpr z]
end
def MG{k:Nat}{x c:am}{Z:Nat->am}:∀n,au n (λj=>au k x (λl=>c l*Z l j)) e=au k x (λl=>c l*au n (Z l) e)
 |0=>by
  change(0:Int)=au k x (λl=>c l*0);have:∀k,au k x (λl=>c l*0)=0:=λk=>by
   induction k with
   |zero=>rfl
   |succ k a=>change au k x _+x k*(c k*0)=0;rw[a];simp
  rw[this]
 |n+1=>by
  change au n _ e+au k x (λl=>c l*Z l n)*e n=au k x (λl=>c l*(au n (Z l) e+Z l n*e n));rw[MG n,jw _<|e n,alq,<-wv];show cZ λl _=>by
   change e n*(c l*Z l n)+c l*au n (Z l) e=c l*(au n (Z l) e+Z l n*e n);rw[jK,jw<|e n,jk,alq]
def FM{n i:Nat}{s:Int}(b:i<n):au n (λj=>if i=j then s else 0) e=s*e i:=by
 have:∀m,m<=n->au m (λj=>if i=j then s else 0) e=if i<m then s*e i else 0:=by
  intro m;induction m with
  |zero=>intro _;rw[ar %[|ù ú]];rfl
  |succ m d=>
   intro f;change au m _ e+(if i=m then s else 0)*e m=_;rw[d %[|ì f]];cases c:i=m;subst c;rw[ar %[|ù ß],aw O,aw %[|ß]];lk;rw[ar c];cases a:i<m;rw[aw a,aw %[|í a]];lk;rw[ar a,ar %[|ù (ÿ (ô a) c)]];lk
 rw[this n<|aE _,aw b]
def lh{n d:Nat}{B:Nat->am}:au n (λl=>au d f (λs=>B s l)) y=au d f (λs=>au n (B s) y):=by
 have:=MG (k:=d) (x:=f) (c:=λ_=>1) (Z:=B) (e:=y) n;let a:au n (λj=>au d f (λl=>(1:Int)*B l j)) y=au n (λl=>au d f (λs=>B s l)) y:=iu λt _=>cZ λs _=>nQ _;let b:au d f (λl=>(1:Int)*au n (B l) y)=au d f (λs=>au n (B s) y):=cZ λs _=>nQ _;rw[<-a,this,b]
def dP:∀k,au k a b=au k b a
 |0=>O
 |k+1=>by change au k a b+a k*b k=au k b a+b k*a k;rw[dP k,jw]
def FW{k w n:Nat}{A V:Nat->am}:cK k w A x (λt=>au n Z (λl=>V l t))=au n Z (λl=>cK k w A x<|V l):=by
 ext cK;let e:au k x (λs=>au w (A s) (λt=>au n Z (λl=>V l t)))=au k x (λs=>au n (λl=>au w (A s)<|V l) Z):=cZ λs _=>by
  rw[dP w,lh,dP n];show iu λl _=>dP w
 rw[e,<-lh,dP n]
def MI:∀n,au (n+1) a b=a 0*b 0+au n (λu=>a<|u+1) (λu=>b<|u+1)
 |0=>by change(0:Int)+a 0*b 0=a 0*b 0+0;lk
 |n+1=>by
  change au (n+1) a b+a (n+1)*b (n+1)=a 0*b 0+(au n _ _+a (n+1)*b (n+1));rw[MI n];lk
def yV:∀(L:List am)(c:Ζ),c.length=L.length->aD c L p=au L.length (λi=>c.getD i 0) (λi=>(L.getD i λ_=>0) p)
 |[],[],_=>O
 |v::L,a::c,h=>by
  rw[dI,MI];change a*v p+aD c L p=_;rw[yV L c<|aj9 h];rfl
def wt(U:Nat->am):Nat->Nat->Nat
 |0,_=>1
 |i+1,n=>wt U i n+dotA (U i) n
where dotA (v:am):Nat->Nat
 |0=>0
 |n+1=>dotA v n+(v n).natAbs
def ML{v:am}:∀{n t:Nat},t<n->(v t).natAbs<=wt.dotA v n
 |n+1,t,h=>by
  change _<=wt.dotA v n+(v n).natAbs;cases c:t=n;rw[c];show ý
  have:=ML (v:=v) (n:=n) (t:=t) (þ (ò h) c)
  show í this
def FC{U:Nat->am}{n t:Nat}(a:t<n):∀{k i:Nat},i<k->(U i t).natAbs<=wt U k n
 |k+1,i,h=>by
  change _<=wt U k n+wt.dotA (U k) n;cases c:i=k;rw[c]
  have:=ML (v:=U k) a;show î this
  have:=FC (U:=U) a (k:=k) (i:=i) (þ (ò h) c)
  show í this
def Bq{n:Nat}:∀k,1<=wt U k n
 |0=>aE _
 |k+1=>aL (Bq k) (iY _ _)
def VE{n:Nat}{U B:Nat->am}(h:∀i j,i<n->j<n->au n (U i) (λs=>B s j)=bC i j):∀i j,i<n->j<n->au n (B i) (λs=>U s j)=bC i j:=by
 intro d l w A;let' R:List am:=(aP n).map U++[bT d];let C:R.length=n+1:=by simp[R]
 let G:∀i,i<n->(R.getD i λ_=>0)=U i:=λi f=>by
  erw[R];rw[co,sf 5#f,ca,jX f];rfl
 let H:(R.getD n λ_=>0)=bT d:=by
  erw[R];rw[co,r_ 0#0];simp
 obtain⟨c,I,⟨x,K,m⟩,L,_⟩:=wn (R:=R) (P:=aP n) (M:=wt U n n) (Bq _) (λv o p g=>by
  let g:=bH.mp g;obtain o|o:=fz.mp o;let(i,f,rfl):=aW.mp o;show FC g<|bH.mp f;rw[gW.mp o];show aL ?_<|Bq n;ext bT bC;split<;>decide) %[gX,C|ß]
 let' a:am:=λi=>c.getD i 0;let D:∀p,p<n->au n a (λi=>U i p)+a n*bC d p=0:=λp g=>by
  have:=L p<|bH.mpr g;rw[yV R c I,C] at this;let e:au (n+1) (λi=>c.getD i 0) (λi=>(R.getD i λ_=>0) p)=au n a (λi=>(R.getD i λ_=>0) p)+a n*(R.getD n λ_=>0) p:=O;rw[e,H] at this;rw[cZ (b':=λi=>U i p) (λi f=>#v[G i f])] at this;show this
 let q:∀j,j<n->a j=-(a n*B d j):=λj u=>by
  let N:au n (λp=>au n a (λi=>U i p)+a n*bC d p) (λp=>B p j)=0:=gp λp g=>D p g;let Q:au n (λp=>au n a (λi=>U i p)+a n*bC d p) (λp=>B p j)=au n (λp=>au n a (λi=>U i p)) (λp=>B p j)+a n*au n (λp=>bC d p) (λp=>B p j):=by
   have:=uv (k:=n) (a:=λp=>au n a (λi=>U i p)) (a':=λp=>bC d p) (b:=λp=>B p j) (x:=1) (y:=a n)
   simpa using this
  let S:au n (λp=>au n a (λi=>U i p)) (λp=>B p j)=a j:=by
   rw[lh (B:=U),cZ (b':=λs=>bC s j) (λs T=>h s j T u),uw u]
  let V:au n (λp=>bC d p) (λp=>B p j)=B d j:=pT w;rw[Q,S,V] at N;lk
 let W:a n≠0:=λz=>by
  let r:∀j,j<n->a j=0:=λj u=>by rw[q j u,z];simp
  let(i,f,rfl):=jW K;let E:a i=c[i]:=by change c.getD i 0=_;rw[co,bu f];rfl
  cases X:i<n;show m (by rw[<-E];show r i X);have:i=n:=ω;subst this;show m (by rw[<-E];show z)
 let e:=D l A;let Y:au n a (λi=>U i l)=-(a n)*au n (B d) (λi=>U i l):=by
  have:=uv (k:=n) (a:=B d) (a':=λ_=>0) (b:=λi=>U i l) (x:=-(a n)) (y:=0);erw[kZ,sD] at this;rw[<-this];show iu λt Z=>?_;rw[q t Z];simp[mF]
 rw[Y] at e;let e6:a n*(bC d l-au n (B d) (λi=>U i l))=0:=by
  rw[LF];rw[mF] at e;lk
 obtain z|z:=wf.mp e6;show bo z W;lk
def nX{w q:Nat}{X:Nat->am}:au w a (λt=>au q c (λj=>X j t))=au q c (λj=>au w a<|X j):=by
 rw[dP,lh (B:=X)];show cZ λj _=>dP w
def yT{k w q m:Nat}{W X F:Nat->am}(l:∀j,j<q->∀i,i<k->au w (W i) (X j)=0)(ind:∀c:am,(∀t,t<w->au q c (λj=>X j t)=0)->∀j,j<q->c j=0)(n:∀x:am,(∀i,i<k->au w (W i) x=0)->(∀i,i<m->au w (F i) x=0)->∀t,t<w->x t=0):q<=m:=by
 show iH λD=>?_;let e:m<q:=(ó D);let' Y:Nat->am:=λj i=>au w (F i)<|X j;let' E:List am:=(aP q).map Y;let h:E.length=q:=by simp[E]
 let o:∀i,i<q->(E.getD i λ_=>0)=Y i:=λi b=>by
  erw[E];rw[co,ca,jX b];rfl
 obtain⟨c,r,⟨x,s,f⟩,u,_⟩:=wn (R:=E) (P:=aP m) (M:=wt Y q m) (Bq _) (λv y p d=>by
  let d:=bH.mp d;let(i,b,rfl):=aW.mp y;show FC d<|bH.mp b) %[gX,h|e]
 let' a:am:=λi=>c.getD i 0;let A:∀p,p<m->au q a (λj=>Y j p)=0:=λp d=>by
  have:=u p<|bH.mpr d;rw[yV E c r,h] at this;rw[<-this];show cZ λi b=>#v[o i b]
 let z:∀t,t<w->au q a (λj=>X j t)=0:=by
  show n (λt=>au q a (λj=>X j t)) (λi b=>?_) λi b=>?_;rw[nX,dP];show gp λj B=>l j B i b;rw[nX];show A i b
 let g:=ind a z;let(i,b,rfl):=jW s;let C:a i=c[i]:=by change c.getD i 0=_;rw[co,bu b];rfl
 show f (by rw[<-C];show g i (à (à b (å r)) (å h)))
structure pX(k w r:Nat)(W V VB:Nat->am):Prop where
 b:r<=w
 c:∀i j,i<w->j<w->au w (V i) (λs=>VB s j)=bC i j
 a:∀i j,i<w->j<w->au w (VB i) (λs=>V s j)=bC i j
 d:∀x:am,(∀i,i<k->au w (W i) x=0)↔∀j,j<r->au w (VB j) x=0
def pX.q{k w r:Nat}{W V a:Nat->am}(h:pX k w r W V a){j:Nat}(b:j<w)(c:r<=j):∀i,i<k->au w (W i) (λt=>V t j)=0:=
 (h.d _).mpr λi d=>by
  rw[h.a i j (by have:=h.b;show à d this) b];ext bC;rw[ar %[|õ (à d c)]]
def pX.out{k w r:Nat}{W V a:Nat->am}(h:pX k w r W V a)(f:∀i,i<k->au w (W i) x=0)(g:∀i,i<w-r->au w (a<|r+i) x=0):∀t,t<w->x t=0:=λt d=>by
 let b:∀j,j<w->au w (a j) x=0:=λj o=>by
  cases c:j<r;show(h.d x).mp f j c
  have:=g (j-r) ω
  rwa [show r+(j-r)=j from ω] at this
 let e:x t=au w (V t) (λs=>au w (a s) x):=by
  rw[<-lh (B:=a),iu (a':=λl=>bC t l) (λl m=>h.c t l d m)];show(pT d).symm
 rw[e,dP];show gp λs n=>b s n
def pX.ind{k w r:Nat}{W V a:Nat->am}(h:pX k w r W V a){c:am}(b:∀t,t<w->au (w-r) c (λj=>V t<|r+j)=0):∀j,j<w-r->c j=0:=λj d=>by
 let e:au w (a<|r+j) (λt=>au (w-r) c (λi=>V t<|r+i))=0:=by
  rw[dP];show gp b
 rw[nX (X:=λi t=>V t<|r+i)] at e;rw[cZ (b':=λi=>bC i j) (λi f=>by
  rw[h.a (r+j) (r+i) ω ω];ext bC;cases z:i=j;rw[aw z,aw %[|û (ñ (æ z)) (ñ (å z))]];rw[ar z,ar ω])] at e
 rwa [uw d] at e
def MH{w1:Nat}:∀c,au (w1+c) a b=au w1 a b+au c (λt=>a<|w1+t) (λt=>b<|w1+t)
 |0=>by change au w1 a b=au w1 a b+0;lk
 |n+1=>by
  change au (w1+n) a b+a (w1+n)*b (w1+n)=au w1 a b+(au n _ _+a (w1+n)*b (w1+n));rw[MH n];lk
def FX(R:List am)(P:List Nat)(X:Nat):Prop:=∀p∈P,∃c:Ζ,c.length=R.length/\aD c R p≠0/\(∀q∈P,q≠p->aD c R q=0)/\∀x∈c,x.natAbs<=X
def MR{R:List am}{P:List Nat}{X V:Nat}{v:am}(i:∀p∈P,(v p).natAbs<=V):∀Q:List Nat,Q.Nodup->(∀q∈Q,q∈P/\∃c:Ζ,c.length=R.length/\aD c R q≠0/\(∀p∈P,p≠q->aD c R p=0)/\∀x∈c,x.natAbs<=X)->∃(D:Int)(s:Ζ),D≠0/\s.length=R.length/\(∀q∈Q,aD s R q=D*v q)/\(∀q∈P,q∉Q->aD s R q=0)/\∀x∈s,x.natAbs<=D.natAbs*(Q.length*(V*X))
 |[],_,_=>(1,eL R.length 0,ξ,rY,(λq d=>nomatch d),λq _ _=>wx _ _ _,λx e=>by rw[(Lf.mp e).2];simp)
 |p::Q,w,f=>by
  let(j,y):=kD.mp w;let(D,s,A,l,B,m,b):=MR i Q y λq d=>f q<|.tail _ d;let(n,c,o,r,t,C):=f p<|.head _;show(D*aD c R p,fe (λa b=>aD c R p*a+(D*v p)*b) s c,Ba A r,by rw[i_];lk,λq d=>?_,λq d u=>?_,λx e=>?_);rw[mG _ _ s c R l o];obtain rfl|d:=ci.mp d;rw[m q n j,fE,yD,alj];rw[B q d,t q (f q<|.tail _ d).1 (λz=>j<|z▸d),fE,sD,we,jk];rw[mG _ _ s c R l o,m q d (λz=>u<|.tail _ z),t q d (λz=>u<|z▸.head _),fE,fE];rfl;let(a,G,g,h,rfl):=Fl e;let H:=b a G;let I:=C g h;let K:=i p n;let k:=wq r;generalize aD c R p=E at k ⊢;let L:(E*a).natAbs<=E.natAbs*(D.natAbs*(Q.length*(V*X))):=%[gm|eD _ H]
  let M:(D*v p*g).natAbs<=D.natAbs*(V*X):=by
   rw[gm,gm,ge];show eD _<|iE K I
  let N:=qJ (E*a)<|D*v p*g;let S:D.natAbs*(V*X)<=E.natAbs*(D.natAbs*(V*X)):=rT _ k;let T:(D*E).natAbs*((Q.length+1)*(V*X))=E.natAbs*(D.natAbs*(Q.length*(V*X)))+E.natAbs*(D.natAbs*(V*X)):=by
   rw[gm,mz,TH,my,kB D.natAbs E.natAbs,ge,ge]
  change _<=(D*E).natAbs*((Q.length+1)*(V*X));rw[T];show aL N<|aki L<|aL M S
def Vr{X V:Nat}{c:Ζ}(h:FX R P X)(j:P.length=R.length)(k:P.Nodup)(l:oX R P)(m:c.length=R.length)(n:∀p∈P,(aD c R p).natAbs<=V):∀x∈c,x.natAbs<=R.length*(V*X):=by
 let(D,s,o,r,t,ϟ,b):=MR n P k λq f=>(f,h q f);let u:=l (fe (λa b=>D*a+(-1)*b) c s) (by rw[i_];lk) λp v=>by
  rw[mG _ _ c s R m r,t p v];lk
 intro x w;let(i,y,rfl):=jW w;let d:i<s.length:=(à (à y (å m)) (æ r));let e:i<(fe (λa b=>D*a+(-1)*b) c s).length:=by rw[i_];lk
 let z:=u _<|dW e;rw[oO] at z;let g:=b _<|dW d;let A:s[i]=D*c[i]:=ω;rw[A,gm,j] at g;show KZ g<|wq o
def VC{N M X B:Nat}(j:oY R)(a:R.length<=N)(k:∀r∈R,∀u,(r u).natAbs<=M)(o:N*(X*M)<=B)(l:∀(P:List Nat)(f:Nat->am),fI P f->P.Pairwise (·<·)->(∀r∈R,cL (P.map f) r)->(∀p∈P,cL R (f p))->P.length=R.length->FX R P X):lj N M X B R:=by
 show(j,λP f h b d m e=>(λp n=>?_,λr g p _=>k r g p,λc V s t x v=>?_));let(c,D,w,y,z):=l P f h b d m e p n;let A:=qQ h b n (cL.A0 c R d) λq C i=>y q C<|cP i;have:=K_ (wq w)<|LD.mpr A;show aL this<|aL (wy c R z λr g=>k r g p)<|aL (eC _ a) o;show aL (Vr (l P f h b d m e) e (b.imp λh=>cP h) (wu j h b d) s t x v)<|eC _ a
def Mz{n M:Nat}{b:Nat->am}(t:1<=M):∀(T:List Nat),(∀s∈T,∀i,i<n->(b s i).natAbs<=M)->∃I:List Nat,(∀s∈I,s∈T)/\oX (I.map b) (aP n)/\I.length<=n/\∀s∈T,∃(a:Int)(e:Ζ),a≠0/\e.length=I.length/\∀i,i<n->a*b s i+aD e (I.map b) i=0
 |[],_=>([],(λs l=>nomatch l),(λc C _ x f=>by rw[jv C] at f;cases f),cJ _,λs l=>nomatch l)
 |s::T,u=>by
  let(I,q,w,D,A):=Mz t T λs l=>u s<|.tail _ l;cases c:oX ((s::I).map b) (aP n);show(s::I,λx f=>?_,c,?_,λx f=>?_);obtain e|e:=ci.mp f;rw[e];show .head _;show .tail _<|q x e;show iH λB=>?_;obtain⟨d,h,⟨y,m,j⟩,k,_⟩:=wn (R:=(s::I).map b) (P:=aP n) t (λv E p r=>by
   let(z,G,rfl):=aW.mp E;show u z ?_ p<|bH.mp r;obtain e|e:=ci.mp G;rw[e];show .head _;show .tail _<|q z e) %[aA,gX|ó B]
  show j<|c d h k y m;obtain e|e:=ci.mp f;show(1,(-1)::eL I.length 0,ξ,by simp,λi o=>?_);rw[e];change 1*b s i+((-1)*b s i+aD (eL I.length 0) (I.map b) i)=0;rw[wx];lk;let(a,d,H,g,K):=A x e;show(a,0::d,H,by simp[g],λi o=>?_);change a*b x i+(0*b s i+aD d (I.map b) i)=0;have:=K i o;lk;show(I,λx f=>.tail _<|q x f,w,D,λx f=>?_);obtain e|e:=ci.mp f;obtain⟨d,h,k,y,m,j⟩:∃d:Ζ,d.length=((s::I).map b).length/\(∀p∈aP n,aD d ((s::I).map b) p=0)/\∃y∈d,y≠0:=by
   show iH λB=>c λd h k y m=>?_;show iH λj=>B (d,h,k,y,m,j)
  cases d with
  |nil=>simp at h
  |cons a d=>
   let g:d.length=I.length:=by simpa using h
   show(a,d,λz=>?_,g,λi o=>%[e|k i<|bH.mpr o]);let L:=w d %[aA|g] λp r=>by
    have:=k p r;have this:a*b s p+aD d (I.map b) p=0:=this;rw[z] at this;lk
   obtain e|e:=ci.mp m;show j<|e.trans z;show j<|L y e
  show A x e
def MM{t:Int}{a b:Nat->Int}:∀(e:Ζ)(I:List Nat),aD e (I.map λs=>λ_=>a s+t*b s) 0=aD e (I.map λs=>λ_=>a s) 0+t*aD e (I.map λs=>λ_=>b s) 0
 |[],[]=>by change(0:Int)=0+t*0;lk
 |[],_::_=>by change(0:Int)=0+t*0;lk
 |_::_,[]=>by change(0:Int)=0+t*0;lk
 |x::e,s::I=>by
  change x*(a s+t*b s)+aD e _ 0=x*a s+aD e _ 0+t*(x*b s+aD e _ 0);rw[MM e I,jK,jK,we];lk
def UW{L:List am}{g:am}{T:List Nat}{M:Nat}(w:1<=M)(D:∀l∈L,∀s∈T,(l s).natAbs<=M)(X:∀s∈T,(g s).natAbs<=M)(j:oX L T){m:Ζ}{o:Int}(Y:m.length=L.length)(Z:o≠0)(E:∀s∈T,aD m L s+o*g s=0):∃(c:Ζ)(t:Int),c.length=L.length/\t≠0/\(∀s∈T,aD c L s+t*g s=0)/\∀x∈c,x.natAbs<=(2*(L.length+1)*M) ^ L.length:=by
 let' b:Nat->am:=λs i=>(L.getD i λ_=>0) s;let(I,A,i2,i3,i4):=Mz (n:=L.length) (b:=b) w T λs k i j=>by
  change((L.getD i λ_=>0) s).natAbs<=M;rw[co,bu j];show D _ (dW j) s k
 obtain⟨d,H,⟨y,hy,K⟩,d2,d3⟩:=wn (R:=g::L) (P:=I) w (λv q p N=>by
  obtain e|e:=ci.mp q;rw[e];show X p<|A p N;show D v e p<|A p N) %[dI|ï i3]
 cases d with
 |nil=>simp at H
 |cons t c=>
  let f:c.length=L.length:=by simpa using H
  let Q:∀(c:Ζ),c.length=L.length->∀s,au L.length (b s) (λi=>c.getD i 0)=aD c L s:=λc f s=>#v[yV L c f,dP]
  let S:∀(c:Ζ),c.length=L.length->∀s(a:Int)(e:Ζ),(∀i,i<L.length->a*b s i+aD e (I.map b) i=0)->a*aD c L s+aD e (I.map λs=>λ_=>aD c L s) 0=0:=λc f s a e h=>by
   let z:au L.length (λi=>a*b s i+1*aD e (I.map b) i) (λi=>c.getD i 0)=0:=gp λi j=>by have:=h i j;lk
   rw[uv,FN,Q c f,dC] at z;let e2:(I.map<|(λl:am=>λ_:Nat=>au L.length l λi=>c.getD i 0) ∘ b)=I.map λs=>λ_=>aD c L s:=iZ λs' _=>by change(λ_=>au L.length (b s') λi=>c.getD i 0)=_;rw[Q c f]
   rw[e2] at z;lk
  let r:∀s∈T,aD c L s+t*g s=0:=λs k=>by
   let(a,e,a0,el,U):=i4 s k;let w0:=S m Y s a e U;let w1:=S c f s a e U;let V:aD e (I.map λs=>λ_=>aD m L s+o*g s) 0=0:=nn _ _ λv q=>by
    let(x,u,rfl):=aW.mp q;show E x<|A x u
   let W:aD e (I.map λs=>λ_=>aD c L s+t*g s) 0=0:=nn _ _ λv q=>by
    let(x,u,rfl):=aW.mp q;have:=d2 x u;have this:t*g x+aD c L x=0:=this;change aD c L x+t*g x=0;lk
   rw[MM] at V W;let y0:=E s k;generalize aD e (I.map λs=>λ_=>g s) 0=G at V W;let k1:o*(a*g s+G)=0:=by
    let B:a*(aD m L s+o*g s)=0:=#v[y0,fE]
    rw[jK,we] at B;rw[jK];lk
   let k2:a*g s+G=0:=by
    obtain z|z:=wf.mp k1;show bo z Z;show z
   let k3:a*(aD c L s+t*g s)=0:=by
    let B:t*(a*g s+G)=0:=#v[k2,fE]
    rw[jK] at B;rw[jK,we];lk
   obtain z|z:=wf.mp k3;show bo z a0;show z
  show(c,t,f,λz=>?_,r,λx u=>?_);let C:=j c f λs k=>by have:=r s k;rw[z] at this;lk
  obtain e|e:=ci.mp hy;show K<|e.trans z;show K<|C y e;show aL (d3 x<|.tail _ u) ?_;rw[dI];show iD (pR (pR ξ ý) w) i3
section
variable{k j:Nat}{W S A U Bn:Nat->am}
def nU{n:Nat}{W:Nat->am}:(a_ n W).length=n:=by ext a_;simp
def Br{c:Ζ}(a:c.length=j):aD c (a_ j W) p=au j (λu=>c.getD u 0) (λu=>W u p):=by
 rw[yV _ _ #v[a,nU],nU];show cZ λu b=>?_;ext a_;rw[co,ca,jX b];rfl
def yU{c:Ζ}{i:Nat}(a:c.length=j)(b:i<k):aD c (a_ j<|be k (λu i=>W i u) bT) i=au j (λu=>c.getD u 0) (W i):=by
 rw[Br a];show cZ λu _=>iq b
def FT{c:Ζ}{p:Nat}(a:c.length=j)(b:k<=p):aD c (a_ j<|be k (λu i=>W i u) bT) p=aD c (a_ j<|be k (λu i=>S i u) bT) p:=by
 rw[Br a,Br a];show cZ λu _=>?_;obtain⟨t,rfl⟩:∃t,p=k+t:=(p-k,ω);rw[ka,ka]
def UP{P:List Nat}{M W:Nat}(H:1<=M)(I:1<=W)(hS:∀i u,i<k->u<j->S i u=au k (U i) (λs=>A s u))(hA:∀s u,s<k->u<j->A s u=au k (λi=>Bn i s) (λi=>S i u))(K:∀i L,i<k->L<k->au k (U i) (Bn L)=bC i L)(bA:∀s u,s<k->u<j->(A s u).natAbs<=M)(bB:∀i s,i<k->s<k->(Bn i s).natAbs<=M)(bS:∀r∈a_ j (be k (λu i=>S i u) bT),∀p∈P,(r p).natAbs<=W)(N:P.length=j)(nd:P.Nodup)(m:oX (a_ j<|be k (λu i=>S i u) bT) P)(hz:∀i,i<k->i∉P->∀u,u<j->S i u=0):FX (a_ j<|be k (λu i=>S i u) bT) P ((2*(j+1)*M) ^ j):=by
 intro p X;let(z,l0,Y,Z,ϟ):=Fm I bS #v[N,nU] nd m X;let o:z.length=j:=#v[l0,nU]
 let' g:am:=λs=>if s<k then -(if p<k then Bn p s else 0) else if s=p then -1 else 0
 let Q:∀s,s<k->g s=-(if p<k then Bn p s else 0):=λs h=>aw h;let R:∀s,k<=s->g s=if s=p then -1 else 0:=λs h=>ar (ù h);let T:∀(c:Ζ),c.length=j->∀s,s<k->aD c (a_ j<|be k (λu s=>A s u) bT) s=au k (λi=>Bn i s) (λi=>aD c (a_ j<|be k (λu i=>S i u) bT) i):=λc n s b=>by
  rw[yU n b,cZ (b':=λu=>au k (λi=>Bn i s) (λi=>S i u)) λu w=>hA s u b w,nX];show cZ λi m=>(yU n m).symm
 let B:∀(c:Ζ),c.length=j->∀i,i<k->aD c (a_ j<|be k (λu i=>S i u) bT) i=au k (U i) (λs=>aD c (a_ j<|be k (λu s=>A s u) bT) s):=λc n i m=>by
  rw[yU n m,cZ (b':=λu=>au k (U i) (λs=>A s u)) λu w=>hS i u m w,nX];show cZ λs b=>(yU n b).symm
 let s0:∀i,i<k->aD z (a_ j<|be k (λu i=>S i u) bT) i=if i=p then aD z (a_ j<|be k (λu i=>S i u) bT) p else 0:=λi C=>by
  cases e:i=p;rw[aw e,e];rw[ar e];cases h:i∈P;show Z i h e;rw[yU o C,dP];show gp λu w=>hz i C h u w
 generalize hE:aD z (a_ j<|be k (λu i=>S i u) bT) p=E at Y s0;let k1:∀l∈a_ j (be k (λu s=>A s u) bT),∀s∈aP k++P.filter (λq=>aJ<|k<=q),(l s).natAbs<=M:=λl N s b=>by
  let(u,w,rfl):=aW.mp N;let w:=bH.mp w;cases d:s<k;rw[iq d];show bA s u d w;obtain⟨v,rfl⟩:∃v,s=k+v:=(s-k,ω);rw[ka];ext bT bC;split;show H;show cJ _
 let k2:∀s∈aP k++P.filter (λq=>aJ<|k<=q),(g s).natAbs<=M:=λs b=>by
  cases d:s<k;rw[Q s d,LB];split;show bB p s (by assumption) d;show cJ _;rw[R s %[|ô d]];split;show H;show cJ _
 let k3:oX (a_ j<|be k (λu s=>A s u) bT) (aP k++P.filter (λq=>aJ<|k<=q)):=λc y h=>by
  rw[nU] at y;show m c #v[y,nU] λq D=>?_;cases d:q<k;rw[B c y q d,dP];show gp λs b=>h s<|kW _<|bH.mpr b;rw[FT (S:=A) y %[|ô d]];show h q<|iF _<|ff.mpr (D,cN (ô d))
 let k4:∀s∈aP k++P.filter (λq=>aJ<|k<=q),aD z (a_ j<|be k (λu s=>A s u) bT) s+E*g s=0:=λs b=>by
  cases d:s<k;rw[T z o s d,Q s d,cZ (b':=λi=>if i=p then E else 0) λi m=>s0 i m];cases a:p<k;have:au k (λi=>Bn i s) (λi=>if i=p then E else 0)=Bn p s*E:=by
   have:=uw (x:=λi=>Bn i s) a;rw[cZ (b':=λi=>E*bC i p+0) λi _=>by ext bC;split<;>lk,wv,this,dP,gp λ_ _=>O,jw];lk
  rw[this,aw a,alk,jw];lk;rw[dP,gp λi m=>ar %[|õ (à m (ô a))],ar a];lk;let V:s∈P:=by
   obtain h|h:=fz.mp b
   have:=bH.mp h;lk
   show(ff.mp h).1
  let f:k<=s:=(ô d);rw[R s f,FT (S:=S) o f];cases e:s=p;rw[aw e,e,hE];lk;rw[ar e,Z s V e];lk
 let(c,t,n,nt,y,bc):=UW H k1 k2 k3 #v[o,nU] Y k4;rw[nU] at n bc;let G:∀q∈P,aD c (a_ j<|be k (λu i=>S i u) bT) q=if q=p then t else 0:=λq D=>by
  cases d:q<k;rw[B c n q d,cZ (b':=λs=>t*(if p<k then Bn p s else 0)+0) λs b=>by
   have:=y s<|kW _<|bH.mpr b;rw[Q s b,alk] at this;lk,wv]
  let z2:au k (U q) (λ_=>(0:Int))=0:=%[dP|gp λ_ _=>O]
  rw[z2];cases a:p<k;erw[aw a];rw[K q p d a];ext bC;cases e:q=p;rw[aw e,aw e];lk;rw[ar e,ar e];lk;erw[ar a];rw[z2,ar %[|õ (à d (ô a))]];lk;let f:k<=q:=(ô d)
  have:=y q<|iF _<|ff.mpr (D,cN f);rw[R q f] at this;rw[FT (S:=A) n f]
  cases e:q=p;rw[aw e] at this ⊢;lk;rw[ar e] at this ⊢;lk
 show(c,#v[n,nU],%[G p X,aw O|nt],λq D ne=>#v[G q D,ar ne],bc)
def MC{w j:Nat}{A:Nat->am}:oY (a_ j<|be w A bT):=λc a b=>by
 let D:kd j ((a_ j<|be w A bT).map λr=>λt=>r<|w+t) (a_ j bT):=%[Fn|Bj j]
 show D.q a λt _=>b _
def U_{w r b N M o X B:Nat}{Q q:Nat->Nat}(I:FZ A k w r b S U y Q q)(hj:j<=w)(T:j<=N)(V:1<=M)(z:1<=o)(bA:∀s u,s<k->u<w->(A s u).natAbs<=M)(bB:∀i s,i<k->s<k->((y.getD i λ_=>0) s).natAbs<=M)(bS:∀i u,i<k->u<w->(S i u).natAbs<=o)(hX:(2*(N+1)*M) ^ N<=X)(hB:N*(X*o)<=B):lj N o X B (a_ j<|be k (λu i=>S i u) bT):=by
 let rk:=I.e;let' Bn:Nat->am:=λi=>y.getD i λ_=>0;let W:∀i u,i<k->u<w->S i u=au k (U i) (λs=>A s u):=λi u l d=>by
  rw[I.g i u l d];show cZ λs _=>#v[dP,pT d]
 let C:∀i a,i<k->a<k->au k (U i) (Bn a)=bC i a:=λi a l H=>by
  show I.c.b i a (U i) (Bn a) ?_ ?_;ext a_;rw[ca,jX l];rfl;change y[a]?=aa (y.getD a λ_=>0);rw[co,bu %[I.c.a.a|H]];rfl
 let bk:=VE (n:=k) (U:=U) (B:=λs i=>Bn i s) C;let hA:∀s u,s<k->u<w->A s u=au k (λi=>Bn i s) (λi=>S i u):=λs u g d=>by
  rw[cZ (b':=λi=>au k (U i) (λs=>A s u)) λi l=>W i u l d,<-lh (B:=U)];rw[iu (a':=bT s) λt ht=>by show bk s t g ht,pT g]
 let Y:∀x∈a_ j (be k (λu i=>S i u) bT),∀p,(x p).natAbs<=o:=λx D p=>by
  let(u,d,rfl):=aW.mp D;let d:=bH.mp d;cases Z:p<k;rw[iq Z];show bS p u Z (à d hj);obtain⟨v,rfl⟩:∃v,p=k+v:=(p-k,ω);rw[ka];ext bT bC;split;show z;show cJ _
 show VC MC %[nU|T] Y hB λP f h g hR hF hl=>?_;rw[nU] at hl;let nd:P.Nodup:=g.imp λh=>cP h;let hz:∀i,i<k->i∉P->∀u,u<j->S i u=0:=λi l hn u d=>by
  cases hr:i<r;cases hq:q i<j;show bo ?_ hn;let K:∀u,u<j->cL (a_ j<|be k (λu i=>S i u) bT) (be k (λu i=>S i u) bT u):=λu d=>cL.q<|aW.mpr (u,bH.mpr d,O);let lt:yY (cL<|a_ j<|be k (λu i=>S i u) bT):=(cL.zero,λm hv hw=>hv.J hw m);let ql:∀a,a<i+1->q a<j:=λa R=>by
   cases e:a=i;rw[e];show hq
   have:=I.f a i (þ (ò R) e) hr;show à this (ì hq)
  let(v,v1,v2,v3):=MV (L:=λi=>be k (λu i=>S i u) bT<|q i) lt (show i+1<=k from l) (λa R=>K _<|ql a R) (λa R=>by rw[iq %[|à R l]];show I.sp a (à R hr)) (λE G h1 h2 h3=>by
   rw[iq h3];cases h:G<r;show I.d G (q E) h<|I.f E G h2 h;show I.z G (q E) (ô h) h3<|I.a E (à h1 hr)) i ß
  show FH h g (v1.trans hR) (λu d=>v3 u (à d (ì l)) (õ d)) v2;show I.d i u hr (à d (ô hq));show I.z i u (ô hr) l (à d hj)
 let un:=UP (Bn:=Bn) V z (λi u l d=>W i u l (à d hj)) (λs u g d=>hA s u g (à d hj)) C (λs u g d=>bA s u g (à d hj)) bB (λx D p _=>Y x D p) hl nd (wu MC h g hR) hz;intro p hp;let(c,c1,c2,c3,c4):=un p hp;show(c,c1,c2,c3,λx D=>aL (c4 x D)<|aL ?_ hX);show aL (qD (eC _<|eD _ (ð T)) _)<|iD (pR (pR ξ ý) V) T
end
def nW{z X:am}{i:Nat}:∀{w:Nat},i<w->(∀u,u<w->u≠i->z u*X u=0)->au w z X=z i*X i
 |w+1,c,h=>by
  change au w z X+z w*X w=_;cases e:i=w;subst e;have:∀n,n<=i->au n z X=0:=by
   intro n;induction n with
   |zero=>intro _;rfl
   |succ n a=>intro d;change au n z X+z n*X n=0;rw[a %[|ì d],h n %[|í d] %[|õ d]];rfl
  rw[this i<|aE _];lk;rw[nW (w:=w) %[|þ (ò c) e] (λu f b=>h u %[|í f] b),h w %[|ß]<|cQ e];lk
section
variable{A T U V:Nat->am}{k w r D D' bU bV g:Nat}{Bn Bf:List am}{QU QV:Nat->Nat}
def kc.A4(I:kc A k w r D bU bV g T U V Bn Bf QU QV)(h:∀m,m<=r->cU (cj T m)<=D'):kc A k w r D' bU bV g T U V Bn Bf QU QV:=(I.a,I.b,I.q,I.l,I.h,I.f,I.e,I.o,I.c,I.n,I.p,I.d,h)
def kc.A6(I:kc A k w r D bU bV g T U V Bn Bf QU QV)(n:∀y:am,∃c:am,∀s,s<k->au w (A s) c=y s):∀N,N<r->T N N=1:=λa l=>by
 let M:=I.a;let B:=I.b;let(c,C):=n<|Bn.getD a λ_=>0;let o:∀N,N<k->au k (U N) (Bn.getD a λ_=>0)=bC N a:=λN j=>by
  show I.h.b N a (U N) _ ?_ ?_;ext a_;rw[ca,jX j];rfl;rw[co,bu %[I.h.a.a|à l M]];rfl
 let' z:am:=λu=>(Bf.map λP=>au w c P).getD u 0;let E:∀Q,Q<w->c Q=au w z (λu=>V u Q):=λQ m=>by
  let d:=FO (U:=a_ w V) (t:=Q) w c Bf #v[I.f.a.a,nU];rw[cZ λs p=>I.f.a.d s Q p m,uw m] at d;rw[<-d,Br #v[aA,I.f.a.a]]
 let v:∀N,N<k->au w z (λu=>T u N)=bC N a:=λN j=>by
  rw[<-o N j,<-cZ (b:=λs=>au w (A s) c) λs p=>C s p];let G:au k (U N) (λs=>au w (A s) c)=cK k w A (U N) (λQ=>au w z (λu=>V u Q)):=cZ λs _=>cZ λQ m=>E Q m;rw[G,FW];show cZ λu f=>I.l u N f j
 let x:∀u N,u<w->N<r->N<u->T u N=0:=λu N f j h=>by
  cases c:u<r;show I.n u N c h;show I.d u N f (à j M) ω
 let H:∀N,N<a->z N=0:=by
  intro N;induction N using yr with
  |_ N K=>
   intro j;let d:=v N (à (à j (ì l)) M);rw[nW (i:=N) %[|à (à j (ì l)) B] λu f q=>?_] at d;unfold bC at d;rw[ar %[|õ j]] at d;have:=I.c N (à j (ì l));obtain e|e:=wf.mp d;show e;lk;obtain g|g:=KW q;rw[K u g %[|à g (ì j)],kZ];change z u*T u N=0;rw[x u N f %[|à j (ì l)] g,fE]
 let d:=v a (à l M);rw[nW (i:=a) %[|à l B] λu f q=>?_] at d;unfold bC at d;rw[aw O] at d;have:=I.c a l;let L:T a a ∣ 1:=(z a,by rw[<-d,jw]);show alp ω L;obtain g|g:=KW q;rw[H u g,kZ];change z u*T u a=0;rw[x u a f l g,fE]
def kc.A5(I:kc A k w r D bU bV g T U V Bn Bf QU QV)(a:∀y:am,∃c:am,∀s,s<k->au w (A s) c=y s):∀m,m<=r->cU (cj T m)<=1:=λm b=>by
 have:∀m,m<=r->cU (cj T m)=1:=by
  intro m;induction m with
  |zero=>intro _;rfl
  |succ m d=>
   intro b;rw[Fo,yS,d %[|ì b],I.A6 a m %[|b]];rfl
 rw[this m b];show aE _
end
def MJ{c X:am}{M w:Nat}:∀{a:Nat},(∀i,i<a->(c i).natAbs<=M*2 ^ i)->(∀i,i<a->(X i).natAbs<=w)->(au a c X).natAbs+M*w<=M*2 ^ a*w
 |0,_,_=>by change(0:Int).natAbs+M*w<=M*1*w;rw[oI];simp
 |a+1,b,d=>by
  let h:=MJ (a:=a) (λi f=>b i (í f)) λi f=>d i (í f);let g:=iE (b a ß)<|d a ß;rw[<-gm] at g;let j:=qJ (au a c X)<|c a*X a;let e:M*2 ^ (a+1)*w=M*2 ^ a*w+M*2 ^ a*w:=by rw[ng,<-ge,ge,kB 2 w,<-ge];lk
  change(au a c X+c a*X a).natAbs+M*w<=_;rw[e];lk
def MK{c X:am}{a:Nat}:∀{q:Nat},a<=q->(∀i,a<=i->i<q->X i=0)->au q c X=au a c X
 |0,h,_=>by have:a=0:=(û h ú);subst this;rfl
 |q+1,h,b=>by
  cases e:a=q+1;subst e;rfl;let d:=MK (c:=c) (X:=X) (a:=a) (q:=q) ω λi f g=>b i f (í g);change au q c X+c q*X q=_;rw[d,b q ω %[|ß],fE,sD]
def l'.F{n r b v:Nat}{Q:Nat->Nat}(K:l' n r 1 b W Q){z c:am}(l:∀x,x<n-r->Q x<n)(m:∀t,t<n->z t=au (n-r) c (λx=>W (r+x) t))(o:∀t,t<n->(z t).natAbs<=v):∀x,x<n-r->(c x).natAbs<=v*2 ^ x:=by
 intro x;induction x using yr with
 |_ x p=>
  intro f;let j:=l x f;let q:=K.f x f;let e:=m (Q x) j;rw[MK (a:=x+1) %[|f] λi k d=>K.j i (Q x) d<|K.d x i %[|k] d] at e;let e:z (Q x)=au x c (λi=>W (r+i)<|Q x)+c x*W (r+x) (Q x):=e;let g:=MJ (c:=c) (X:=λi=>W (r+i)<|Q x) (M:=v) (w:=(W (r+x)<|Q x).natAbs) (a:=x) (λi h=>p i h (à h (ì f))) λi h=>by
   have:=K.h i x h f;change(W (r+i)<|Q x).natAbs<=_;lk
  let s:=o (Q x) j;let k:(c x).natAbs*(W (r+x)<|Q x).natAbs<=v*2 ^ x*(W (r+x)<|Q x).natAbs:=by
   rw[<-gm];let d:c x*W (r+x) (Q x)=z (Q x)-au x c (λi=>W (r+i)<|Q x):=ω;rw[d];let u:v<=v*(W (r+x)<|Q x).natAbs:=yw _ ω;show à (Int.natAbs_sub_le ..) %[Nat.add_comm|à (ñ (à s u)) g]
  show akd k ω
section
variable{k n r a:Nat}{W V VB D:Nat->am}
def inr(n r:Nat)(VB D:Nat->am):Nat->am:=λj t=>au n (VB<|r+j) (λs=>D s t)
def pX.F(K:pX k n r W V VB)(d:∀i,i<k->au n (W i) z=0){t:Nat}(c:t<n):z t=au (n-r) (λj=>au n (VB<|r+j) z) (λj=>V t<|r+j):=by
 let e:z t=au n (V t) (λs=>au n (VB s) z):=by
  rw[<-lh (B:=VB),iu (a':=λl=>bC t l) (λl f=>K.c t l c f)];show(pT c).symm
 let g:=K.b;let h:n=r+(n-r):=ω;rw[e,dP];let s:=MH (w1:=r) (a:=λs=>au n (VB s) z) (b:=V t)<|n-r;rw[<-h] at s;rw[s,gp λj m=>(K.d z).mp d j m,yD]
def pX.A1(K:pX k n r W V VB){b M:Nat}(f:l' n r 1 b (λj t=>V t j) Q)(g:∀a,a<n-r->Q a<n)(h:∀t,t<a->∀i,i<k->au n (W i) (λs=>D s t)=0)(l:∀s t,s<n->t<a->(D s t).natAbs<=M){j t:Nat}(m:j<n-r)(e:t<a):(inr n r VB D j t).natAbs<=M*2 ^ j:=
 f.F (z:=λs=>D s t) (c:=λj=>au n (VB<|r+j) (λs=>D s t)) g (λs d=>K.F (h t e) d) (λs d=>l s t d e) j m
def pX.J(K:pX k n r W V VB)(d:∀t,t<a->∀i,i<k->au n (W i) (λs=>D s t)=0)(x:am):(∀j,j<n-r->au a (inr n r VB D j) x=0)↔∀s,s<n->au a (D s) x=0:=by
 let e:∀j,au a (inr n r VB D j) x=au n (VB<|r+j) (λs=>au a (D s) x):=λj=>by
  ext inr;rw[dP,nX (X:=λs t=>D s t)];show cZ λs _=>dP _
 k_in;intro h s b;let z:∀i,i<k->au n (W i) (λs=>au a (D s) x)=0:=λi f=>by
  have:au n (W i) (λs=>au a (D s) x)=au a (λt=>au n (W i) (λs=>D s t)) x:=by
   rw[dP (a:=λt=>au n (W i) (λs=>D s t)),nX (X:=λs t=>D s t)];show cZ λs _=>dP _
  rw[this];show gp λt g=>d t g i f
 rw[K.F z b];show gp λj c=>by rw[<-e];show h j c
 intro h j c;rw[e,dP];show gp λs b=>h s b
def pX.A0(h:pX k n r W V VB)(l:pX o n f p y g)(e:∀x:am,(∀i,i<k->au n (W i) x=0)↔∀i,i<o->au n (p i) x=0):r=f:=by
 let a:=yT (k:=k) (w:=n) (W:=W) (X:=λj t=>y t<|f+j) (F:=λi=>VB<|r+i) (q:=n-f) (m:=n-r) (λj z i d=>(e _).mpr (λi d=>l.q ω ü i d) i d) (λc s=>l.ind s) λx u v=>h.out u v;let b:=yT (k:=o) (w:=n) (W:=p) (X:=λj t=>V t<|r+j) (F:=λi=>g<|f+i) (q:=n-r) (m:=n-f) (λj z i d=>(e _).mp (λi d=>h.q ω ü i d) i d) (λc s=>h.ind s) λx u v=>l.out u v;have:=h.b;have:=l.b;lk
end
section
open PySem
abbrev zc(I S:ab)(d:ae):Code:=.builtin "max.loop" ([.ref I,.none,.ref S],[(ahl ("default") d)])
section
variable{prog:bh}{w:ba}{A:cC}{R:vK->ax->Prop}{I:ab}{fp wr:List ab}{n:Nat}{P:Nat->ae->Prop}{St:Nat->aX->Prop}
def WI(W:yi prog w A.in1 I fp wr n P St)(S:ab)(d:ae){r:ax}{a:ae}(g:S∉wr)(h:St n r.heap)(l:r.heap.get? S=aa {cls:=.type "list",data:=.seq #[a,a] c})(p:∀f i,(∀b o,b∉wr->b≠S->r.heap.get? b=aa o->f.get? b=aa o)->R (.ok<|.ret a) {r with heap:=f,toks:=i}):ky 4#0 A (zc I S d) R r:=by
 show kR Ky ?_;rw[mw vP _];unfold Builtin.«max.loop»;wp_delta;calc js l O ?_;k_ne;calc Am<|W.done r _ _ h λf i m=>?_;let j:=m S _ g l;change aF _ _ (ye S (λ_=>#[]) >>= λ_=>letGo [a] [a] >>= λ_=>ret a) _ _ _;calc vu (s:={r with heap:=f,toks:=i}) (hz:=by change 2<=bE;rw[iC];decide) (_hz':=cJ _) j O ?_;calc oC ?_;show aO<|p _ _ λb o q k e=>(rP _ _<|cQ k).trans<|m b o q e
def WG(W:yi prog w A.in1 I fp wr n P St)(S:ab)(d:ae){s:ax}(h:n=0)(a:St 0 s.heap)(i:s.heap.get? S=aa {cls:=.type "list",data:=.seq #[] c})(j:∀f g,(∀b o,b∉wr->b≠S->s.heap.get? b=aa o->f.get? b=aa o)->R (.ok<|.ret d) {s with heap:=f,toks:=g}):ky 4#0 A (zc I S d) R s:=by
 show kR Ky ?_;rw[mw vP _];unfold Builtin.«max.loop»;wp_delta;calc js i O ?_;k_ne;calc Am<|W.done s _ _ %[h|a] λf g k=>?_;change aF _ _ (rule (toString "max"++toString ".default") >>= λ_=>ret d) _ _ _;calc pD ?_;show aO<|j _ _ λb o l _ e=>k b o l e
def Gk(W:yi prog w A.in1 I fp wr n P St)(i:Nat->Nat->Bool)(K:CmpOf prog w A.in1 .Gt P i)(S:ab)(d:ae)(f:S∉fp):∀(k j:Nat)(X:ax)(l:ae)(c:Nat),n-(j+1)=k->j+1<=n->St (j+1) X.heap->P (rM i j) l->X.heap.get? S=aa {cls:=.type "list",data:=.seq #[l,l] c}->
   (∀v g q,P (rM i<|n-1) v->(∀b o,b∉wr->b≠S->X.heap.get? b=aa o->g.get? b=aa o)->R (.ok<|.ret v) {X with heap:=g,toks:=q})->ky 4#0 A (zc I S d) R X
 |0,j,X,l,c,T,U,r,E,G,H=>by
  let V:j+1=n:=ω;let L:n-1=j:=ω;show WI W S d (λz=>f<|W.sub _ z) (V▸r) G λg q C=>H l g q %[L|E] C
 |k+1,j,X,l,c,T,U,r,E,G,H=>by
  let M:S∉wr:=λz=>f<|W.sub _ z;show kR Ky ?_;rw[mw vP _];unfold Builtin.«max.loop»;wp_delta;calc js G O ?_;k_ne;calc Am<|W.item (j+1) X _ _ ω r λv g q Q m C=>?_;let t:=C S _ M G;calc aO ?_;try k_ne
  calc Am<|ik<|ao<|K (j+1) (rM i j) v l _ _ _ Q E ?_;calc ik<|vx ?_;calc oC<|aO ?_;cases a:i (j+1) (rM i j) with
  |true=>
   rw[aw O];calc vu (s:={X with heap:=g,toks:=q}) (hz:=by change 2<=bE;rw[iC];decide) (_hz':=by change 2<=bE+1;rw[iC];decide) t O ?_;calc oC ?_;let D:=qA (cY λ_=>#[v,v]) t O;let p:∀b o,b≠S->g.get? b=aa o->(g.update S<|cY λ_=>#[v,v]).get? b=aa o:=λb o a e=>(rP _ _<|cQ a).trans e;show aO (nH vP _,Gk W i K S d f k (j+1) {X with heap:=g.update S<|cY λ_=>#[v,v],toks:=q} v _ ω ω (W.frame _ _ _ m λb a o e=>p b o (λz=>f<|z▸a) e) ?_ D λN u x y B=>H N u x y λb o a h e=>B b o a h<|p b o h<|C b o a e);rw[SH,a,aw O];show Q
  |false=>
   rw[ar ξ];calc oC ?_;show aO (nH vP _,Gk W i K S d f k (j+1) {X with heap:=g,toks:=q} l c ω ω m ?_ t λN u x y B=>H N u x y λb o a h e=>B b o a h<|C b o a e);rw[SH,a,ar ξ];show E
def WH(W:yi prog w A.in1 I fp wr n P St)(p:Nat->Nat->Bool)(D:CmpOf prog w A.in1 .Gt P p)(S:ab)(d:ae)(f:S∉fp){s:ax}(E:0<n)(q:St 0 s.heap)(B:s.heap.get? S=aa {cls:=.type "list",data:=.seq #[] c})(G:∀v g m,P (rM p<|n-1) v->(∀b o,b∉wr->b≠S->s.heap.get? b=aa o->g.get? b=aa o)->R (.ok<|.ret v) {s with heap:=g,toks:=m}):ky 4#0 A (zc I S d) R s:=by
 let r:S∉wr:=λz=>f<|W.sub _ z;show kR Ky ?_;rw[mw vP _];unfold Builtin.«max.loop»;wp_delta;calc js B O ?_;k_ne;calc Am<|W.item 0 s _ _ E q λv g m H i C=>?_;let j:=C S _ r B;calc aO ?_;try k_ne
 change aF _ _ (ye S (λ_=>#[v,v]) >>= λ_=>again<|zc I S d) _ _ _;calc vu (s:={s with heap:=g,toks:=m}) (hz:=cJ _) (_hz':=by change 2<=bE+1;rw[iC];decide) j O ?_;let k:=qA (cY λ_=>#[v,v]) j O;let a:∀b o,b≠S->g.get? b=aa o->(g.update S<|cY λ_=>#[v,v]).get? b=aa o:=λb o h e=>(rP _ _<|cQ h).trans e;show aO (nH vP _,Gk W p D S d f (n-1) 0 {s with heap:=g.update S<|cY λ_=>#[v,v],toks:=m} v _ ω E (W.frame _ _ _ i λb h o e=>a b o (λz=>f<|z▸h) e) %[aia|H] k λK t u x y=>G K t u x λb o h l e=>y b o h l<|a b o l<|C b o h e)
end
end
section
open PySem
def WL(a d:ae):argsOk "max" ([a],[(ahl ("default") d)]):=by ext argsOk;kernel_rfl
def WK(d:ae):anu "max" ["key","default"] 0 {kw:=[(ahl ("default") d)]}=cq [ac,aa d]:=by first|rfl|kernel_rfl|decide +kernel
def WJ{A:cC}{E:Ω}{R:ax}{x d:ae}{Q:Ω}(h:aF (aV c w) A.in1 (rL x) (λB a=>∃I m j n P p q,B=.ref I/\yi c w A.in1 I m j n P p/\p 0 a.heap/\(∀b∈m,b<a⁻¹)/\CmpOf c w A.in1 .Gt P q/\
   (n=0->∀f i,(∀b o,b∉j->a.heap.get? b=aa o->f.get? b=aa o)->Q d {a with heap:=f,toks:=i})/\
   (0<n->∀v f i,P (rM q<|n-1) v->(∀b o,b∉j->a.heap.get? b=aa o->f.get? b=aa o)->Q v {a with heap:=f,toks:=i})) E R):
  aF (aV c w) A (kz (.builtin "max") [x] [(ahl ("default") d)]) Q E R:=by
 show kmb_tree F.kind_max F.plain_max F.entry_max (WL _ _) ?_;ext Builtin.max
 wp_delta
 let r:¬(({pos:=[x],kw:=[(ahl ("default") d)]}:Args).pos.isEmpty=ap):=λz=>fQ z;rw[ar r];calc rI (WK d) ?_;
 try k_ne
 calc aO ?_;calc lN h (λB a G=>?_) λ_ _ z=>z;let(I,m,j,n,P,p,q,rfl,W,t,u,H,K,L):=G;calc pE ?_;let C:(a.heap.push {cls:=.type "list",data:=.seq ([]:List ae).toArray}).get? a⁻¹=aa {cls:=.type "list",data:=.seq #[] 0}:=eB _ O;let y:a⁻¹∉m:=λz=>oJ _<|u _ z;let g:p 0 (a.heap.push {cls:=.type "list",data:=.seq ([]:List ae).toArray}):=W.frame _ _ _ t λb _ o e=>bQ _ e;let D:∀{f:aX},(∀b o,b∉j->b≠a⁻¹->(a.heap.push {cls:=.type "list",data:=.seq ([]:List ae).toArray}).get? b=aa o->f.get? b=aa o)->∀b o,b∉j->a.heap.get? b=aa o->f.get? b=aa o:=
  λk b o M e=>k b o M (cP<|cG e)<|bQ _ e
 show aO (nH vP _,?_);obtain l|l:=vX n
 show WG (s:={a with heap:=a.heap.push {cls:=.type "list",data:=.seq ([]:List ae).toArray}}) W _ d l g C λf i k=>K l f i<|D k
 show WH (s:={a with heap:=a.heap.push {cls:=.type "list",data:=.seq ([]:List ae).toArray}}) W q H _ d y l g C λv f i N k=>L l v f i N<|D k
end
section
variable{X:bj}
def Xh(K:aT)(f:fN)(g:bp):bp:=λe H Q=>f e H λh i=>g e i λx c=>∃(l:ab)(b:Ζ)(d:Int),h=[.ref l]/\x=.int d/\bJ K c l (b.map ak.int)/\(b=[]->Q (.int d) c)/\∀M,M∈b->(∀a∈b,a<=M)->Q (.int M) c
def Ol{a e:bG}{K:fN}{p o r:dt}(U:kj X "max")(V:X.b "max"=ac)(y:gb "max"=aa (.builtin "max"))(B:jQ X [a] K)(W:bY X e L)(Y:X.c=ap)(M:eR [a] X.env=[(ahl aH (dw a X.env))]:=by rfl):bY X (.Call (.Name "max" p) [a] [(aa "default",e,r)] o) (Xh X.K K L):=by
 intro k s N H Q I h;show yd<|of I U V y ?_;show callWith_kw ?_ (by rw[M];rfl) (by rw[M];rfl) O O;show bO (B o k s N H _ I h) λus Z (vs,H1,I1,r1,q1)=>?_;show kws_cons<|bO (W k Z N H1 _ I1 q1) λdv n (x,P,C,r2,q2)=>kws_nil ?_;let(l,f,d,rfl,rfl,hq,q0,q):=q2;let(u,rfl,ru):=kH r1;cases ru;let(R,rfl):=r2;change aF 3#0 X.A (kz (.builtin "max") [.ref l] [(ahl (mu "default") (.int d R))]) _ _ n;let(c,g,p1,ϟ):=C.list hq;let hh:=I.b.a Y;let D:=p1.isList;let w:l<n⁻¹:=by let(ϟ,e,ϟ):=D;show cG e
 let hn:c.length=f.length:=by rw[<-g.length,aA]
 show WJ<|vy D ?_;show(n⁻¹,[n⁻¹,l],[n⁻¹],c.toArray.size,_,_,λi j=>aJ<|(f[j]?).getD 0<(f[i]?).getD 0,O,Av (A:=X.A.in1) hh _ l (cP w) c.toArray,
  ((_,eB _ O,O,O),D.push _),λb S=>?_,λi j vi vj s' Q' E' z hj T=>?_,λh0 h' tk E=>?_,λ_ v h' tk y E=>?_)
 let G:b<=n⁻¹:=by
  erw[ci,uj,sE] at S;obtain rfl|rfl:=S;show aE _;show oK w
 show fH G<|cG<|eB _ O;let(m,t,e,rfl):=wW g (show c[i]?=aa vi by simpa using z);let(m',t',e',rfl):=wW g (show c[j]?=aa vj by simpa using hj);erw[e,e',ug] at T;show gt_int T;have:f=[]:=jv (by rw[dk] at h0;show û (à (æ hn) (å h0)) ú);show(.int d,P,C.F<|KQ E,(R,O),q0 this);rw[dk] at y;let(b1,b2):=Pb (bt:=λi j=>aJ<|(f[j]?).getD 0<(f[i]?).getD 0) (val:=λi=>(f[i]?).getD 0) (λi j=>O)<|c.length-1;let(m,t,e,rfl):=wW g (show c[rM (λi j=>aJ<|(f[j]?).getD 0<(f[i]?).getD 0) (c.length-1)]?=aa v by simpa using y);show(.int m,P,C.F<|KQ E,(t,O),q m (dL e) λa B=>?_);let(i,z):=qI.mp B;let a0:i<f.length:=(dN.mp z).1;have:=b2 i ω;erw[z,e,ug] at this;show this
def pc(a:Ζ)(b c d:Option Int):Ζ:=(Ar (iB b c d a.length).fst (iB b c d a.length).snd.fst (iB b c d a.length).snd.snd).filterMap λi=>a[i]?
def Of{b:Ζ}(r:cv (b.map ak.int) a):∀L:List Nat,cv ((L.filterMap λi=>b[i]?).map ak.int) (L.filterMap λi=>a.toArray[i]?)
 |[]=>.nil
 |i::L=>by
  let d:=Of r L;let h:a.length=b.length:=by rw[<-r.length,aA]
  let f:a.toArray[i]?=a[i]?:=by simp
  cases e:b[i]? with
  |none=>
   let c:a.toArray[i]?=ac:=by
    rw[f];rw[Lq] at e ⊢;show à (å h) e
   rw[ak5 e,ak5 c];show d
  |some n=>
   let j:i<a.length:=%[h|(dN.mp e).1]
   let c:a[i]?=aa a[i]:=bu j;let(m,t,g,k):=wW r c;rw[e] at g;obtain rfl:=cX g;let l:a.toArray[i]?=aa (.int n t):=#v[f,c,k]
   rw[ak4 e,ak4 l,fg];show .cons (t,O) d
def XD(a:Ζ)(b c d:Option Int)(h:(Ar (iB b c d a.length).fst (iB b c d a.length).snd.fst (iB b c d a.length).snd.snd).length<=bE):(pc a b c d).length<=bE:=aL (List.length_filterMap_le _ _) h
def Xb(K:aT)(e:bp)(f g h:uL):bp:=λb H Q=>e b H λx i=>f b i λl j=>g b j λu m=>h b m λk c=>∃(a:ab)(d:Ζ),x=.ref a/\bJ K c a (d.map ak.int)/\k≠aa 0/\(pc d l u k).length<=bE/\
 ∀p,c p=ac->Q 6#p (aN c p<|.lst<|(pc d l u k).map ak.int)
def Ok{K:bp}{n p t:Option bG}(R:bY X e K)(S:uO X n L)(T:uO X p M)(z:uO X t N)(hw:∀v a,∃d,Er (.Slice n p t y) aH v 6#a=J_ d (qw v<|.ref a):=by intro _ _;show(_,by with_unfolding_all rfl)):bY X (.Subscript e (.Slice n p t y) w) (Xb X.K K L M N):=by
 intro c s j H Q I h;show KO<|bO (R c s j H _ I h) λv U (x,V,W,Y,Z)=>?_;show wpAny_Slice<|bO (S c U j V _ W Z) λA s2 (l,H2,I2,pl,q2)=>bO (T c s2 j H2 _ I2 q2) λB s3 (u,H3,I3,pu,q3)=>bO (z c s3 j H3 _ I3 q3) λC g (k,H4,I4,pk,q4)=>?_;let(a,m,rfl,hq,hk,hz,q):=q4;cases Y;let D:aK X c j H4 {g with heap:=g.heap.push {cls:=.type "slice",data:=.fields #[A,B,C]}}:=I4.F (t':=g.toks) λb ob q=>bQ _ q;let(E,r,P,G):=D.list hq;let i:E.length=m.length:=by rw[<-r.length,aA]
 change aF 3#0 X.A (KI e (.Slice n p t y) 6#a<|.ref g⁻¹) (jE X c j Q) X.a {g with heap:=g.heap.push {cls:=.type "slice",data:=.fields #[A,B,C]}};let(d,ho):=hw 6#a g⁻¹;show tail_any (ops:=d) P.isList.typeIs Si.lookup ?_ ho;show aht P.isList (ait ..) pl pu pk hk ?_ (by rw[dk,i,<-aA (f:=ak.int)];show G);show(.ref (g.heap.push {cls:=.type "slice",data:=.fields #[A,B,C]}).objs.size,_,D.J (t':=g.toks) (o:=.lst<|(pc m l u k).map ak.int) (λb ob q=>bQ _ q) (aE _) ?_,O,q _<|D.a.q<|aE _);show(%[aA|hz],_,0,?_,eB _ O);have:=Of r<|Ar (iB l u k m.length).fst (iB l u k m.length).snd.fst (iB l u k m.length).snd.snd;ext pc;rw[dk,i];show this
end
def nD(a:Ξ):Ζ:=a.map λp=>(p.length:Int)
def hV(a:Ξ):Nat:=a.foldr (λp m=>max p.length m) 0
def dS(a:Ξ):Ζ:=(a.filter λp=>aJ<|p.length=1).map λp=>p.headD 0
def nE(a:Ξ)(k:Nat):Int:=((a.filter λp=>aJ<|p.length=k+1).length:Int)
def qv(a:Ξ):Ζ:=(aP<|hV a).map<|nE a
def nF(a:Ζ):Int:=((aP a.length).map λk=>a.getD k 0*(1-(k:Int)%2*2)).sum
def Ee:∀{a:Ξ}{p:Ζ},p∈a->p.length<=hV a
 |q::r,p,h=>by
  obtain rfl|h:=ci.mp h;show Nat.le_max_left _ _;show aL (Ee h)<|Nat.le_max_right _ _
def JC:∀a:Ξ,hV a=0\/∃p∈a,p.length=hV a
 |[]=>.inl O
 |q::r=>by
  let e:hV (q::r)=max q.length (hV r):=O;obtain h|h:=KY (hV r) q.length;show .inr (q,fy,#v[e,Nat.max_eq_left h]);rw[e,Nat.max_eq_right h];obtain g|⟨p,b,g⟩:=JC r;show .inl g;show .inr (p,gF _ b,g)
def JD{a:Ξ}{m:Nat}(h:∀p∈a,p.length<=m):hV a<=m:=by
 obtain g|⟨p,b,g⟩:=JC a;show î (å g);rw[<-g];show h p b
def RF{M:Int}(f:0<=M)(d:M=0\/M∈nD b)(e:∀a∈nD b,a<=M):M=(hV b:Int):=by
 let i:(hV b:Int)<=M:=by
  obtain g|⟨p,c,g⟩:=JC b;lk;rw[<-g];show e _<|aW.mpr (p,c,O)
 let j:M<=(hV b:Int):=by
  obtain h|h:=d;lk;let(p,c,rfl):=aW.mp h
  have:=Ee c;lk
 lk
def agh(a:Ξ)(k:Nat):(((nD a).countP (·==((k:Int)+1)):Nat):Int)=nE a k:=by
 ext nE nD;rw[List.countP_map,<-List.countP_eq_length_filter];congr 1;show List.countP_congr λp _=>?_;erw[qK,beq_iff_eq,jx];lk
def oA(a:Option Int)(n:Nat)(L:List Nat)(h:Ar (iB a ac (aa 2) n).fst (iB a ac (aa 2) n).snd.fst (iB a ac (aa 2) n).snd.snd=L)(b:Ζ)(c:b.length=n):pc b a ac (aa 2)=L.filterMap λi=>b[i]?:=by
 ext pc;rw[c,h]
def agl(f:Ζ)(h:f.length<=5):(pc f ac ac<|aa 2).sum-(pc f (aa 1) ac<|aa 2).sum=nF f:=by
 match f,h with
 |[],_=>
  rw[oA ac 0 [] δ [] O,oA (aa 1) 0 [] δ [] O];simp[nF,oM]
 |[a],_=>
  rw[oA ac 1 [0] δ [a] O,oA (aa 1) 1 [] δ [a] O];simp[nF,oM]
 |[a,b],_=>
  rw[oA ac 2 [0] δ [a,b] O,oA (aa 1) 2 [1] δ [a,b] O];simp[nF,oM];lk
 |[a,b,c],_=>
  rw[oA ac 3 [0,2] δ [a,b,c] O,oA (aa 1) 3 [1] δ [a,b,c] O];simp[nF,oM];lk
 |[a,b,c,d],_=>
  rw[oA ac 4 [0,2] δ [a,b,c,d] O,oA (aa 1) 4 [1,3] δ [a,b,c,d] O];simp[nF,oM];lk
 |[a,b,c,d,e],_=>
  rw[oA ac 5 [0,2,4] δ [a,b,c,d,e] O,oA (aa 1) 5 [1,3] δ [a,b,c,d,e] O];simp[nF,oM];lk
 |_::_::_::_::_::_::_,h=>simp at h
def xT{b:Type}{motive:List b->Prop}(nil:motive [])(append_singleton:∀l a,motive l->motive (l++[a]))(l:List b):motive l:=by
 have:∀m:List b,motive m.reverse:=λm=>by
  induction m with
  |nil=>show nil
  |cons a m c=>rw[TR];show append_singleton _ _ c
 simpa using this l.reverse
def RK(p:Ζ):Option (Int×Int):=match p with|[x,y]=>aa (ahl x y)|_=>ac
def lM(a:Ξ):List (Int×Int):=a.filterMap RK
def qu(a:Int->Int)(e:Int×Int):Int->Int:=λp=>if a p=a e.2 then a e.1 else a p
def fP(a:List (Int×Int)):Int->Int:=a.foldl qu id
def Ah(a:List (Int×Int))(e:Int×Int):fP (a++[e])=qu (fP a) e:=by ext fP;rw[um];rfl
def age(a:Ξ)(x y:Int):lM (a++[[x,y]])=lM a++[(ahl x y)]:=by ext lM;rw[ak6];rfl
def agg{p:Ζ}(h:p.length≠2):RK p=ac:=by
 match p,h with
 |[],_=>rfl
 |[_],_=>rfl
 |[_,_],h=>show bo O h
 |_::_::_::_,_=>rfl
def agf(a:Ξ){p:Ζ}(h:p.length≠2):lM (a++[p])=lM a:=by ext lM;rw[ak6,Fb,agg h];simp
def JB{e:Int×Int}:e∈lM b↔[e.1,e.2]∈b:=by
 ext lM;rw[Lh];k_in;rintro⟨p,c,a⟩;match p,a with
 |[x,y],a=>cases a;show c
 intro h;show(_,h,O)
def af8(a:Int->Int)(e:Int×Int):qu a e e.1=qu a e e.2:=by
 ext qu;rw[aw O];split<;>rfl
def aga(b:List (Int×Int)):∀e∈b,fP b e.1=fP b e.2:=by
 induction b using xT with
 |nil=>intro e h;cases h
 |append_singleton b a c=>
  intro e h;rw[Ah];obtain h|h:=fz.mp h;ext qu;rw[c e h];have:e=a:=by simpa using h
  subst this;show af8 _ _
def agb(S:Int->Prop)(c:List (Int×Int)):(∀e∈c,S e.1↔S e.2)->∀p q,fP c p=fP c q->(S p↔S q):=by
 induction c using xT with
 |nil=>intro _ p q h;have:p=q:=h;rw[this]
 |append_singleton c a j=>
  intro g p q h;let b:=j λe k=>g e<|kW _ k;let i:=g a 0#0;rw[Ah] at h;unfold qu at h;cases f:fP c p=fP c a.2;cases d:fP c q=fP c a.2;show b p q<|f.trans d.symm;rw[aw f,ar d] at h;show(b p a.2 f).trans<|i.symm.trans<|b a.1 q h;cases d:fP c q=fP c a.2;rw[ar f,aw d] at h;show(b p a.1 h).trans<|i.trans<|b a.2 q d.symm;rw[ar f,ar d] at h;show b p q h
def rF(a:Ζ)(k:Int):Ζ:=if k∈a then a else a++[k]
def ij(L:Ζ):Ζ:=L.foldl rF []
def JE(L:Ζ)(k:Int):ij (L++[k])=rF (ij L) k:=by ext ij;rw[um];rfl
set_option tactic.hygienic true in
def Ed(L:Ζ):∀x,x∈ij L↔x∈L:=by
 induction L using xT with
 |nil=>intro x;show Iff.rfl
 |append_singleton L k a=>
  intro x;rw[JE];ext rF;split;rename_i h;rw[a,fz];k_in;show .inl;rintro(q|q);show q;have:x=k:=by simpa using q
  rw[this];show(a k).mp h;rw[fz,fz,a]
set_option tactic.hygienic true in
def Ag(L:Ζ):(ij L).Nodup:=by
 induction L using xT with
 |nil=>show pK
 |append_singleton L k c=>
  rw[JE];ext rF;split;show c;rename_i h;rw[mB];show(c,by simp,λa d b f e=>by
   have:b=k:=5#f;subst this;subst e;show h d)
def pB(b:Int->Int)(a:Ζ):Ξ:=(ij<|a.map b).map λk=>a.filter λp=>aJ<|b p=k
def RA{x:Int}:x∈dS (bK a)↔[x]∈bK a:=by
 ext dS;rw[aW];k_in;rintro⟨p,b,rfl⟩;let(c,d):=ff.mp b;let e:=gP d;match p,e with
 |[y],_=>show c
 intro h;show([x],ff.mpr (h,O),O)
def JG{x y:Int}(h:[x,y]∈bK a):x∈dS (bK a)/\y∈dS (bK a):=by
 let(p,b,c):=mC.mp<|tP.mp h;k_in;show RA.mpr<|tP.mpr<|mC.mpr (p,b,Ry c<|kQ.mpr (by simp,by simp));show RA.mpr<|tP.mpr<|mC.mpr (p,b,Ry c<|kQ.mpr (by simp,by simp))
def af9(c:Ξ):(dS<|bK c).Pairwise (·<·):=by
 ext dS;rw[kC];let j:((bK c).filter λp=>aJ<|p.length=1).Pairwise (λa b=>vo a b=ap/\a≠b):=
  (((RM c).and<|Rz c)).sublist List.filter_sublist
 show j.imp_of_mem λ{a b} k l h=>?_;let m:=gP (ff.mp k).2;let n:=gP (ff.mp l).2;match a,b,m,n with
 |[x],[y],_,_=>
  let d:=h.1;let f:x≠y:=λe=>h.2 #v[e];change x<y;rw[xV] at d;cases g:x<y;show g;exfalso;let i:y<x:=by lia
  simp[tQ,dj,i] at d;show f d.symm
def xU(q:Ζ):Int:=1-2*(1-(q.length:Int)%2)
def vp(a:Ξ):Int:=(a.map xU).sum
def RL(q:Ζ)(l:Ξ):vp (q::l)=xU q+vp l:=by ext vp;rw[fg,pJ]
def rG(a:Ξ)(n:Nat):Int:=((aP n).map λk=>nE a k*(1-(k:Int)%2*2)).sum
def JF(a:Ξ)(n:Nat):rG a (n+1)=rG a n+nE a n*(1-(n:Int)%2*2):=by
 ext rG;rw[oM,cH,Ld];simp
def agi(q:Ζ)(a:Ξ)(k:Nat):nE (q::a) k=(if q.length=k+1 then 1 else 0)+nE a k:=by
 ext nE;cases h:q.length=k+1;rw[uo 5#h,aw h,dI];lk;rw[sw 5#h,ar h];lk
def RI(q:Ζ)(a:Ξ):∀n,rG (q::a) n=rG a n+(if 1<=q.length/\q.length<=n then xU q else 0)
 |0=>by rw[ar ω];simp[rG]
 |n+1=>by
  rw[JF,JF,RI q a n,agi];cases h:q.length=n+1;rw[aw h,ar ω,aw ω];have:xU q=1-(n:Int)%2*2:=by ext xU;rw[h];lk
  rw[this,Uq];lk;rw[ar h,yD];cases b:1<=q.length/\q.length<=n;rw[aw b,aw %[|(b.1,í b.2)]];lk;rw[ar b,ar ω];lk
def RH:∀n,rG [] n=0
 |0=>O
 |n+1=>by rw[JF,RH n];simp[nE]
def RJ(n:Nat):∀a:Ξ,(∀q∈a,1<=q.length/\q.length<=n)->rG a n=vp a
 |[],_=>RH n
 |q::a,h=>by
  rw[RI,RJ n a λx b=>h x<|gF _ b,aw<|h q fy,RL];lk
def agm{a:Ξ}(h:∀q∈a,1<=q.length):nF (qv a)=vp a:=by
 rw[<-RJ (hV a) a λq c=>(h q c,Ee c)];ext nF rG qv;rw[aA,gX];congr 1;show iZ λk d=>?_;let b:=bH.mp d;rw[co,ca,jX b];rfl
def agc{q:Ζ}(h:q≠[]):1<=q.length:=by
 cases q with
 |nil=>show bo O h
 |cons _ _=>simp
def agk{q:Ζ}(h:q∈bK a):q≠[]:=by
 let(p,ϟ,b):=mC.mp<|tP.mp h;show(kQ.mp b).1
def RB{q:Ζ}:q∈bK a↔q≠[]/\∃t∈a,q.Sublist t:=by
 rw[tP,mC];k_in;rintro⟨t,c,b⟩;show((kQ.mp b).1,t,c,(kQ.mp b).2);rintro⟨h,t,c,b⟩;show(t,c,kQ.mpr (h,b))
def agn(a:Ξ):nF (qv<|bK a)=vp (bK a):=agm λq b=>agc<|agk b
abbrev JH(q:Ζ):Prop:=q.Pairwise (·<·)
def af5(d:JH a)(e:JH b)(h:∀x,x∈a↔x∈b):a=b:=by
 let f:=xS b a e d λx c=>(h x).mp c;let g:=xS a b d e λx c=>(h x).mpr c;show f.eq_of_length<|ake f.length_le g.length_le
def af4(h:JH a):a.Nodup:=h.imp alh
section
variable{pss:Ξ}{p:Ζ}
def Eg(hw:gO pss=ap){q:Ζ}(h:q∈bK pss):kP q=ap:=by
 let(t,a,b):=mC.mp<|tP.mp h;show Rw ((vn hw).2.1 t a) b
end
mutual
inductive uS(K:aT)(H:ag):ak->nK->Prop where
 |a (b:Bool):uS K H (.c b) (.bool b)
 |int (i:Int):uS K H (.int i) (.int i)
 |str (z:aB):uS K H (.str z) (.str z)
 |lst {l:ab} {xs:List ak} {ds:List nK} (h:bJ K H l xs) (t:zG K H xs ds):uS K H 6#l (.list ds)
inductive zG(K:aT)(H:ag):List ak->List nK->Prop where
 |nil:zG K H [] []
 |cons {x:ak} {d:nK} {xs:List ak} {ds:List nK} (h:uS K H x d) (t:zG K H xs ds):zG K H (x::xs) (d::ds)
end
section
variable{X:bj}{pins:Ψ}{σ:aY}{H:ag}{s:ax}
mutual
def uS.q(I:aK X pins σ H s):∀{x:ak}{d:nK}{u:ae},uS X.K H x d->cF x u->∃ads,Reads s.heap u d ads
 |_,_,_,.a b,r=>by cases r;show(_,.bool b)
 |_,_,_,.int i,r=>by let(t,rfl):=r;show(_,.int i t)
 |_,_,_,.str z,r=>by let(t,rfl):=r;show(_,.str z t)
 |_,_,_,.lst h t,r=>by
  cases r;let(its,rv,p,ϟ):=I.list h;let(o,ho,hc,n,hd):=p.isList;let(ads,q):=zG.q I t rv;show(_,.list ho hc hd 5#q)
def zG.q(I:aK X pins σ H s):∀{xs:List ak}{ds:List nK}{us:List ae},zG X.K H xs ds->cv xs us->∃ads,ReadsAll s.heap us ds ads
 |_,_,_,.nil,.nil=>(_,.nil)
 |_,_,_,.cons h t,.cons r rs=>by
  let(a,q):=uS.q I h r;let(b,q'):=zG.q I t rs;show(_,.cons q q')
end
end
def tj(K:aT)(H:ag)(x:ak)(d:nK):Prop:=∀(X:bj)(a:Ψ)(c:aY)(s:ax)(u:ae),X.K=K->aK X a c H s->cF x u->∃b,Reads s.heap u d b
def zB(K:aT)(H:ag)(d:List ak)(e:List nK):Prop:=∀(X:bj)(a:Ψ)(f:aY)(s:ax)(c:List ae),X.K=K->aK X a f H s->cv d c->∃b,ReadsAll s.heap c e b
section
variable{K:aT}{H:ag}
def tj.q(h:uS K H x d):tj K H x d:=λX a b s u e I r=>by subst e;show h.q I r
def zB.nil:zB K H [] []:=λX a b s c e I r=>by cases r;show(_,.nil)
def zB.cons(h:tj K H x d)(t:zB K H f g):zB K H (x::f) (d::g):=λX c i s l e I r=>by
 cases r with
 |cons r j=>
  let(a,q):=h X c i s _ e I r;let(b,k):=t X c i s _ e I j;show(_,.cons q k)
def tj.lst(h:bJ K H l b)(t:zB K H b c):tj K H 6#l (.list c):=λX a d s u e I r=>by
 subst e;cases r;let(f,g,p,ϟ):=I.list h;let(o,i,j,n,k):=p.isList;let(m,q):=t X a d s _ O I g;show(_,.list i j k 5#q)
def tj.tup(h:gr K H l b)(t:zB K H b c):tj K H 6#l (.tuple c):=λX a d s u e I r=>by
 subst e;cases r;let(f,g,p,ϟ):=I.q h;let(o,i,j,n,k):=p;let(m,q):=t X a d s _ O I g;show(_,.tuple i j k 5#q)
end
inductive NR(K:aT)(x:ak)(y:ak)(H:ag)(Q:aR):Prop
 |a:∀d e,(tj K H x d)->(tj K H y e)->(AC d=ap)->(AC e=ap)->(ail d e=ap)->(Q (.c<|!same d e) H)->NR K x y H Q
def XT{X:bj}(c:X.A.units+64<eJ):gs X (kx .NotEq) (NR X.K):=by
 rintro a s b H x y v u Q I f g ⟨d,e,i,j,k,l,m,q⟩;let(p,n):=i X a b s _ O I f;let(r,o):=j X a b s _ O I g;show ne_dataH_same n o k l c m (.c _,H,I,O,q)
section
variable{X:bj}
def XU(w:X.A.units+64<eJ):gs X (kx .NotEq) (λx y H Q=>∃(l m:ab)(a:List ak),x=.ref l/\y=.ref m/\bJ X.K H l a/\bJ X.K H m []/\Q (.c<|aJ<|a≠[]) H):=by
 rintro c s z H x y v u Q I i k ⟨l,m,a,rfl,rfl,n,o,q⟩;cases i;cases k;let(p,b,d,ϟ):=I.list n;let(f,r,g,ϟ):=I.list o;cases r;cases a with
 |nil=>
  cases b;show amd (e:=λ_=>ap) d.isList g.isList O (ê w) (λj t A=>bo t 0#0) X.prog X.w X.a _ (.c _,H,I,O,q)
 |cons x a=>
  let B:=b.length;rw[cN<|Ug _ _] at q;show amc d.isList g.isList ?_ (ê w) X.prog X.w X.a _ (.c _,H,I,O,q);cases b;rfl
end
def UC(h:aX)(z d e:ab):Prop:=∃(c:ae)(b:Bool),(c=.none\/∃a:ab,c=iV a)/\
 h.get? z=aa {cls:=.type "zip",dict:=ac,data:=.fields #[c,.bool b,.bool aH,.ref d,.ref e],slots:=#[]}
structure nT(h:aX)(z TI TO i1 i2 l1 l2:ab)(xs ys:Array ae)(k:Nat):Prop where
 hz:UC h z TI TO
 c:fG h TI 6#i1 6#i2
 f:∃a b,fG h TO a b
 e:h.IsListIter i1 l1 k
 g:h.IsListIter i2 l2 k
 i:h.IsList l1 xs
 d:h.IsList l2 ys
section
variable{prog:bh}{w:ba}{A:cC}{E:Ω}{s:ax}{z TI TO i1 i2 l1 l2:ab}{xs ys:Array ae}{k:Nat}
def nT.q{h l:aX}(S:nT h z TI TO i1 i2 l1 l2 xs ys k)(d:∀c∈[z,TI,TO,i1,i2,l1,l2],∀o,h.get? c=aa o->l.get? c=aa o):nT l z TI TO i1 i2 l1 l2 xs ys k:=by
 obtain⟨⟨m,b,n,e⟩,f,⟨a,p,g⟩,q,r,i,j⟩:=S;show((m,b,n,d z 0#0 _ e),d TI 0#0 _ f,(a,p,d TO 0#0 _ g),q.at λo e=>d i1 0#0 o e,r.at λo e=>d i2 0#0 o e,i.at λo e=>d l1 0#0 o e,j.at λo e=>d l2 0#0 o e)
def LO{e:ae}(i:e=.none\/∃a:ab,e=iV a)(g:s.heap.get? z=aa {cls:=.type "zip",dict:=ac,data:=.fields #[e,.bool h,.bool aH,.ref TI,.ref TO],slots:=#[]}):aF 4#0 A (vT<|.ref z) (λb l=>(b=ap/\l=s)\/(b=aH/\∃(j:aX)(k:Bool),l={s with heap:=j}/\j.get? z=aa {cls:=.type "zip",dict:=ac,data:=.fields #[e,.bool k,.bool aH,.ref TI,.ref TO],slots:=#[]}/\jf z s.heap j)) E s:=by
 ext vT;calc hY g O (x:=e) O ?_;obtain rfl|⟨m,rfl⟩:=i;show aO<|.inl (O,O);dsimp only[iV];calc RS ?_;cases n:s.heap.get? ((m:Int)).toNat with
 |none=>
  erw[aj6,fA];show aO<|.inl (O,O)
 |some o=>
  erw[aj5,fh,dX];calc hY g O (x:=.bool h) O ?_;show Ek (λ_=>?_) (λ_=>?_);calc kw g 0#0 λf c d=>aO<|.inr (O,f,ap,O,c,d);show aO<|.inr (O,s.heap,h,O,g,(O,λ_ _=>O))
def Ut{Q:Ω}(D:tU z TI TO i1 i2 l1 l2)(S:nT s.heap z TI TO i1 i2 l1 l2 xs ys k)(hx:xs[k]?=aa x)(hy:ys[k]?=aa y)(hQ:∀h',nT h' z TI TO i1 i2 l1 l2 xs ys (k+1)->fG h' s⁻¹ x y->
   (∀c o,c≠z->c≠TO->c≠i1->c≠i2->s.heap.get? c=aa o->h'.get? c=aa o)->Q (.ref s⁻¹) {s with heap:=h'}):
  aF 4#0 A (Builtin.«zip.__next__» ([.ref z],[])) (λfin s'=>∃v,fin=.done (.ret v)/\Q v s') E s:=by
 obtain⟨⟨f0,fb,a3,hz⟩,W,⟨a,b,a4⟩,h1,h2,N,P⟩:=S;change aF _ _ (nI 6#z 2 >>= _) _ _ _;calc hY hz O (x:=.bool aH) O ?_;change aF _ _ (nI 6#z 3 >>= _) _ _ _;calc hY hz O (x:=.ref TI) O ?_;calc js W O ?_;change aF _ _ (vT 6#z >>= _) _ _ _;calc bO (LO a3 hz) λbb s1 a8=>?_;obtain⟨rfl,rfl⟩|⟨rfl,b0,a9,rfl,X,h⟩:=a8
 erw[fA]
 calc pD ?_;calc hY hz O (x:=.ref TO) O ?_;calc kw hz 0#0 λa5 q i=>?_;replace q:a5.get? z=aa {cls:=.type "zip",dict:=ac,data:=.fields #[.ellipsis,.bool fb,.bool aH,.ref TI,.ref TO],slots:=#[]}:=q;calc ?_;erw[Lc,Lb,yA,AV];calc ao<|vz ?_;change aF _ _ (lV 6#i1 >>= _) _ _ _;calc Ap (h1.extBut i.extBut D.i1z) (N.extBut i.extBut D.l1z) hx λU r d=>aO ?_;let B:fG U TO a b:=d.extBut _ _ D.TOi1<|i.extBut _ _ D.TOz a4;calc js B O ?_;calc Al B λa6 n j=>?_;replace n:fG a6 TO x b:=n;calc oC<|aO ?_;calc ao<|vz ?_;change aF _ _ (lV 6#i2 >>= _) _ _ _;show ao (Ap (((h2.extBut i.extBut D.i2z).extBut d.extBut D.i12.symm).extBut j.extBut D.TOi2.symm)
  (((P.extBut i.extBut D.l2z).extBut d.extBut D.l2i1).extBut j.extBut D.l2TO) hy λp t f=>aO ?_)
 let C:fG p TO x b:=f.extBut _ _ D.TOi2 n;calc js C O ?_;calc Al C λg l m=>?_;replace l:fG g TO x y:=l;calc oC<|aO<|aO ?_;calc js l O ?_;calc Aq ?_;let H:g.objs.size=s1⁻¹:=#v[m.1,f.1,j.1,d.1,i.1]
 let I:=m.extBut _ _ D.TOz.symm<|f.extBut _ _ D.i2z.symm<|j.extBut _ _ D.TOz.symm<|d.extBut _ _ D.i1z.symm q;let Y:∀c o,c≠z->c≠TO->c≠i1->c≠i2->s1.heap.get? c=aa o->g.get? c=aa o:=λc o R c2 c3 c4 e=>
  m.extBut _ _ c2<|f.extBut _ _ c4<|j.extBut _ _ c2<|d.extBut _ _ c3<|i.extBut _ _ R e
 let Z:g.IsListIter i1 l1 (k+1):=((r.extBut j.extBut D.TOi1.symm).extBut f.extBut D.i12).extBut m.extBut D.TOi1.symm;let a0:g.IsListIter i2 l2 (k+1):=t.extBut m.extBut D.TOi2.symm;let V:z<g.objs.size:=cG I;change aF _ _ (KD 6#z (.ref g.objs.size) >>= _) _ _ _;calc ?_;ext KD;let a1:=bQ {cls:=.type "tuple",data:=.seq #[x,y]} I;calc kw a1 0#0 λa7 u K=>?_;replace u:a7.get? z=aa {cls:=.type "zip",dict:=ac,data:=.fields #[iV g.objs.size,.bool fb,.bool aH,.ref TI,.ref TO],slots:=#[]}:=u;show kw u 0#0 λG a2 L=>?_;let up:∀c o,c≠z->g.get? c=aa o->G.get? c=aa o:=λc o R e=>L.extBut _ _ R<|K.extBut _ _ R<|bQ _ e;let M:fG G g.objs.size x y:=L.extBut _ _ (jJ V)<|K.extBut _ _ (jJ V)<|eB _ O;show aO (_,O,?_);change Q (.ref g.objs.size) _;rw[H] at M ⊢;let T:∀c o,c≠z->c≠TO->c≠i1->c≠i2->s1.heap.get? c=aa o->G.get? c=aa o:=λc o R c2 c3 c4 e=>up c o R<|Y c o R c2 c3 c4 e;show hQ G ((_,_,.inr (_,O),a2),T _ _ D.TIz D.TITO D.TIi1 D.TIi2 W,(_,_,up _ _ D.TOz l),Z.at λo e=>up _ o D.i1z e,a0.at λo e=>up _ o D.i2z e,N.at λo e=>T _ o D.l1z D.l1TO D.l1i1 D.l1i2 e,P.at λo e=>T _ o D.l2z D.l2TO D.l2i1 D.l2i2 e) M T
 erw[fh,dX]
 calc ?_;simp only[<-LN,yA,AV];calc ao<|ik ?_;change aF _ _ (lV 6#i1 >>= _) _ _ _;calc Ap (h1.extBut h.extBut D.i1z) (N.extBut h.extBut D.l1z) hx λU r d=>aO ?_;show aO ?_;calc ao<|ik ?_;change aF _ _ (lV 6#i2 >>= _) _ _ _;calc Ap ((h2.extBut h.extBut D.i2z).extBut d.extBut D.i12.symm) ((P.extBut h.extBut D.l2z).extBut d.extBut D.l2i1) hy λp t f=>aO ?_;show aO ?_;show aO ?_;calc Aq (hsz:=by change 2<=bE;rw[iC];show ä) ?_;let H:p.objs.size=s⁻¹:=#v[f.1,d.1,h.1]
 let T:∀c o,c≠z->c≠TO->c≠i1->c≠i2->s.heap.get? c=aa o->(p.push {cls:=.type "tuple",data:=.seq #[x,y]}).get? c=aa o:=λc o R c2 c3 c4 e=>bQ _<|f.extBut _ _ c4<|d.extBut _ _ c3<|h.extBut _ _ R e;show aO (_,O,?_);change Q (.ref p.objs.size) _;rw[H];show hQ _ ((f0,a9,a3,bQ _<|f.extBut _ _ D.i2z.symm<|d.extBut _ _ D.i1z.symm X),T _ _ D.TIz D.TITO D.TIi1 D.TIi2 W,(a,b,bQ _<|f.extBut _ _ D.TOi2<|d.extBut _ _ D.TOi1<|h.extBut _ _ D.TOz a4),?_,?_,N.at λo e=>T _ o D.l1z D.l1TO D.l1i1 D.l1i2 e,P.at λo e=>T _ o D.l2z D.l2TO D.l2i1 D.l2i2 e) ?_ T
 show(r.extBut f.extBut D.i12).at λo e=>bQ _ e
 show t.at λo e=>bQ _ e
 rw[<-H];show eB _ O
def Ux(U:A.handled=ac)(D:tU z TI TO i1 i2 l1 l2)(S:nT s.heap z TI TO i1 i2 l1 l2 xs ys k)(B:xs[k]?=ac\/ys[k]?=ac)(V:∀Y e,(∀c o,c≠z->c≠TO->c≠i1->c≠i2->s.heap.get? c=aa o->Y.get? c=aa o)->(∃o,Y.get? e=aa o/\o.cls=.type "StopIteration")->E 6#e {s with heap:=Y}):aF 4#0 A (Builtin.«zip.__next__» ([.ref z],[])) Q E s:=by
 obtain⟨⟨f0,fb,Z,N⟩,a0,⟨a,b,a1⟩,W,h2,v,P⟩:=S;change aF _ _ (nI 6#z 2 >>= _) _ _ _;calc hY N O (x:=.bool aH) O ?_;change aF _ _ (nI 6#z 3 >>= _) _ _ _;calc hY N O (x:=.ref TI) O ?_;calc js a0 O ?_;change aF _ _ (vT 6#z >>= _) _ _ _;calc bO (LO Z N) λbb s1 a2=>?_;obtain⟨rfl,rfl⟩|⟨rfl,a4,a5,rfl,a3,g⟩:=a2;erw[fA];calc pD ?_;calc hY N O (x:=.ref TO) O ?_;calc kw N 0#0 λR j f=>?_;replace j:R.get? z=aa {cls:=.type "zip",dict:=ac,data:=.fields #[.ellipsis,.bool fb,.bool aH,.ref TI,.ref TO],slots:=#[]}:=j;calc ?_;erw[Lc,Lb,yA,AV];calc ao<|vz ?_;change aF _ _ (lV 6#i1 >>= _) _ _ _;cases H:xs[k]? with
 |none=>
  calc JO U (W.extBut f.extBut D.i1z) (v.extBut f.extBut D.l1z) H λm e d I=>?_;let(oe,n,q):=I;let r:=d _ _ D.i1z.symm j;let K:e≠z:=λx=>by subst x;rw[r] at n;cases n;simp at q
  show kw r 0#0 λC _ i=>V C e (λc o y _ L _ x=>i.extBut _ _ y<|d _ _ L<|f.extBut _ _ y x) (oe,i.extBut _ _ K n,q)
 |some x=>
  let hy:ys[k]?=ac:=by obtain h|h:=B;rw[H] at h;cases h;show h
  calc Ap (W.extBut f.extBut D.i1z) (v.extBut f.extBut D.l1z) H λm M d=>aO ?_;let p:fG m TO a b:=d.extBut _ _ D.TOi1<|f.extBut _ _ D.TOz a1;calc js p O ?_;calc Al p λC X i=>?_;calc oC<|aO ?_;calc ao<|vz ?_;change aF _ _ (lV 6#i2 >>= _) _ _ _;show ao (JO U (((h2.extBut f.extBut D.i2z).extBut d.extBut D.i12.symm).extBut i.extBut D.TOi2.symm)
   (((P.extBut f.extBut D.l2z).extBut d.extBut D.l2i1).extBut i.extBut D.l2TO) hy λG e l I=>?_)
  let(oe,n,q):=I;let t:=l _ _ D.i2z.symm<|i.extBut _ _ D.TOz.symm<|d.extBut _ _ D.i1z.symm j;let K:e≠z:=λx=>by subst x;rw[t] at n;cases n;simp at q
  show kw t 0#0 λT _ u=>V T e (λc o y c2 L c4 x=>u.extBut _ _ y<|l _ _ c4<|i.extBut _ _ c2<|d.extBut _ _ L<|f.extBut _ _ y x) (oe,u.extBut _ _ K n,q)
 erw[fh,dX];calc ?_;simp only[<-LN,yA,AV];calc ao<|ik ?_;change aF _ _ (lV 6#i1 >>= _) _ _ _;cases H:xs[k]? with
 |none=>
  show ao<|JO U (W.extBut g.extBut D.i1z) (v.extBut g.extBut D.l1z) H λm e d I=>V m e (λc o y _ L _ x=>d _ _ L<|g.extBut _ _ y x) I
 |some x=>
  let hy:ys[k]?=ac:=by obtain h|h:=B;rw[H] at h;cases h;show h
  calc Ap (W.extBut g.extBut D.i1z) (v.extBut g.extBut D.l1z) H λm M d=>aO ?_;show aO ?_;calc ao<|ik ?_;change aF _ _ (lV 6#i2 >>= _) _ _ _;show ao<|JO U ((h2.extBut g.extBut D.i2z).extBut d.extBut D.i12.symm) ((P.extBut g.extBut D.l2z).extBut d.extBut D.l2i1) hy λG e l I=>V G e (λc o y c2 L c4 x=>l _ _ c4<|d.extBut _ _ L<|g.extBut _ _ y x) I
def Uy{Q:Option ae->ax->Prop}(D:tU z TI TO i1 i2 l1 l2)(S:nT s.heap z TI TO i1 i2 l1 l2 xs ys k)(d:xs[k]?=aa x)(f:ys[k]?=aa y)(g:∀a,nT a z TI TO i1 i2 l1 l2 xs ys (k+1)->fG a s⁻¹ x y->
   (∀c o,c≠z->c≠TO->c≠i1->c≠i2->s.heap.get? c=aa o->a.get? c=aa o)->Q (aa<|.ref s⁻¹) {s with heap:=a}):
  aF 4#0 A (jt<|.ref z) Q E s:=by
 let b:s.TypeIs 6#z "zip":=by let(ϟ,ϟ,ϟ,e):=S.hz;show(_,e,O)
 ext jt;show ao (rJ (pF (name:=mu "__next__") b vO
 <|mY vO b Kx (Ut D S d f λa h i j=>aO<|g a h i j)<|KA _))
def Uz{Q:Option ae->ax->Prop}(g:A.handled=ac)(D:tU z TI TO i1 i2 l1 l2)(S:nT s.heap z TI TO i1 i2 l1 l2 xs ys k)(a:xs[k]?=ac\/ys[k]?=ac)(h:∀d,(∀c o,c≠z->c≠TO->c≠i1->c≠i2->s.heap.get? c=aa o->d.get? c=aa o)->Q ac {s with heap:=d}):aF 4#0 A (jt<|.ref z) Q E s:=by
 let f:s.TypeIs 6#z "zip":=by let(ϟ,ϟ,ϟ,e):=S.hz;show(_,e,O)
 ext jt;show ao (rJ (pF (name:=mu "__next__") f vO
 <|mY vO f Kx (Ux g D S a λd e i j=>?_)<|KA _))
 let(o,l,m):=j;calc JQ (T:="StopIteration") (b:=ap) (o,l,m) Ka ?_;show aO<|h _ i
end
def sF(h:aX)(b c:Array ae)(a:List ab)(i:Nat):Prop:=a.length=i/\a.Nodup/\∀(j:Nat) t,a[j]?=aa t->∃x y,b[j]?=aa x/\c[j]?=aa y/\fG h t x y
section
variable{prog:bh}{w:ba}{A:cC}{E:Ω}{s:ax}{z TI TO i1 i2 l1 l2:ab}{xs ys:Array ae}{k:Nat}
def sF.q{h h':aX}{i:Nat}(f:sF h xs ys d i)(g:∀t∈d,∀o,h.get? t=aa o->h'.get? t=aa o):sF h' xs ys d i:=
 (f.1,f.2.1,λj t e=>by let(x,y,a,b,c):=f.2.2 j t e;show(x,y,a,b,g t (dL e) _ c))
def UB{S Z:ab}{C:ae}{R:vK->ax->Prop}(hh:A.handled=ac)(D:tU z TI TO i1 i2 l1 l2)(hn:dy xs.size ys.size<=bE)(E:∀c∈[z,TI,TO,i1,i2,l1,l2],c≠S)(G:∀c∈[S,z,TO,i1,i2],c<Z):∀(k i:Nat)(s:ax)(m:List ab)(c:Nat),dy xs.size ys.size-i=k->i<=dy xs.size ys.size->nT s.heap z TI TO i1 i2 l1 l2 xs ys i->
   s.heap.get? S=aa {cls:=.type "list",dict:=ac,data:=.seq (m.map aj).toArray c,slots:=#[]}->sF s.heap xs ys m i->Z<=s⁻¹->(∀t∈m,Z<=t)->
   (∀h' Q n T,h'.get? S=aa {cls:=.type "list",dict:=ac,data:=.seq (n.map aj).toArray T,slots:=#[]}->sF h' xs ys n (dy xs.size ys.size)->(∀t∈n,Z<=t)->
    (∀b o,b≠S->b≠z->b≠TO->b≠i1->b≠i2->s.heap.get? b=aa o->h'.get? b=aa o)->R (.ok<|.ret C) {s with heap:=h',toks:=Q})->
   ky 4#0 A (.builtin "list.extend.loop" ([.ref S,.ref z,C],[])) R s:=by
 let r:S≠z/\S≠TO/\S≠i1/\S≠i2:=((E z 0#0).symm,(E TO 0#0).symm,(E i1 0#0).symm,(E i2 0#0).symm);let v:∀{t:ab},Z<=t->t≠S/\t≠z/\t≠TO/\t≠i1/\t≠i2:=λ{t} g=>(jJ<|fm (G S 0#0) g,jJ<|fm (G z 0#0) g,jJ<|fm (G TO 0#0) g,jJ<|fm (G i1 0#0) g,jJ<|fm (G i2 0#0) g);intro k
 induction k with
 |zero=>
  intro i s m c hk hi U x g V p W;let X:i=dy xs.size ys.size:=ω;show kR Kz ?_;rw[mw vQ _];change aF _ A.in1 (jt 6#z >>= _) _ _ s;let H:xs[i]?=ac\/ys[i]?=ac:=by
   obtain h|h:=KY xs.size ys.size;show .inl<|Fi ω;show .inr<|Fi ω
  calc Uz (A:=A.in1) hh D U H λh' Y=>?_;rw[X] at g;show aO<|W h' s.toks m c (Y _ _ r.1 r.2.1 r.2.2.1 r.2.2.2 x) (g.q λt l o e=>by let(ϟ,b,c,d,f):=v<|p t l;show Y t o b c d f e) p λb o _ L M N P e=>Y b o L M N P e
 |succ k ih=>
  intro i s m c hk hi U x g V p W;let hx:i<xs.size:=ω;let hy:i<ys.size:=ω;show kR Kz ?_;rw[mw vQ _];change aF _ A.in1 (jt 6#z >>= _) _ _ s;calc Uy (A:=A.in1) D U (wj hx) (wj hy) λq a0 I k1=>?_;let K:=k1 S _ r.1 r.2.1 r.2.2.1 r.2.2.2 x;let a1:s⁻¹<q.objs.size:=cG I;let a2:sF q xs ys (m++[s⁻¹]) (i+1):=by
   let t0:=g.q (h':=q) λt l o e=>by let(ϟ,b,c,d,f):=v<|p t l;show k1 t o b c d f e
   show(by rw[eE,g.1];rfl,?_,λj t e=>?_);rw[mB];show(g.2.1,by simp,λa ha b u=>?_);let a3:b=s⁻¹:=by simpa using u
   let(j,hj):=AU ha;let(ϟ,ϟ,ϟ,ϟ,e2):=g.2.2 j a hj;rw[a3];show cP<|cG e2;cases hj:j<m.length;rw[sf hj] at e;show t0.2.2 j t e;let a4:j=i:=by
    have:=(dN.mp e).1;rw[eE] at this;simp at this;have:=g.1;lk
   subst a4;rw[r_ (by have:=g.1;show ô hj),g.1,yq] at e;have:t=s⁻¹:=(cX e).symm;rw[this];show(_,_,wj hx,wj hy,I)
  change aF _ A.in1 (ye S (·.push<|.ref s⁻¹) >>= _) _ _ _;calc ?_;let B:∀b o,b≠S->q.get? b=aa o->(q.update S (cY (·.push<|aj s⁻¹))).get? b=aa o:=λb o u e=>(rP _ _<|cQ u).trans e;let e0:((m.map aj).toArray.push<|.ref s⁻¹)=((m++[s⁻¹]).map aj).toArray:=by simp
  obtain⟨c2,a5⟩:∃c2,(q.update S (cY (·.push<|aj s⁻¹))).get? S=aa {cls:=.type "list",dict:=ac,data:=.seq ((m++[s⁻¹]).map aj).toArray c2,slots:=#[]}:=by
   rw[<-e0];show(_,qA _ K O)
  let y1:∀t∈m++[s⁻¹],Z<=t:=λt l=>by
   obtain y|y:=fz.mp l;show p t y;have:t=s⁻¹:=by simpa using y
   rw[this];show V
  show vu K O (aO (nH vQ _,ih (i+1) _ (m++[s⁻¹]) c2 ω ω (a0.q λb u o e=>B b o (E b u) e) a5 (a2.q λt l o e=>B t o (v<|y1 t l).1 e) ?_ y1 λh' Q n T e1 e2 e3 e4=>?_))
   (by erw[dk,aA];rw[g.1];show à hi hn) (by erw[Ff,dk,aA];rw[g.1];show à (ï hi) (ï hn))
  have:(q.update S (cY (·.push<|aj s⁻¹))).objs.size=q.objs.size:=(mv ..).1;change Z<=(q.update S (cY (·.push<|aj s⁻¹))).objs.size;rw[this];show aL V<|oK a1;show W h' Q n T e1 e2 e3 λb o u L M N P e=>e4 b o u L M N P<|B b o u<|k1 b o L M N P e
def UA{Q:Bool->ax->Prop}(b:s.TypeIs 6#z "zip")(h:Q ap s):aF 4#0 A (ajj<|.ref z) Q E s:=by
 ext ajj;calc JN b (r:=ac) (by rw[JW,Ke];kernel_rfl) ?_;show Ek (λa=>bo a ξ) (λ_=>?_);show Ek (λa=>bo a ξ) (λ_=>?_);calc JN b (r:=ac) (by rw[JW,Ke];kernel_rfl) ?_;show aO h
def Uv{S Z:ab}{i:ae}{R:vK->ax->Prop}(M:A.handled=ac)(D:tU z TI TO i1 i2 l1 l2)(y:jU s.heap z TI TO .none)(N:nT s.heap z TI TO i1 i2 l1 l2 xs ys 0)(P:dy xs.size ys.size<=bE)(B:∀c∈[z,TI,TO,i1,i2,l1,l2],c≠S)(Q:∀c∈[S,z,TO,i1,i2],c<Z)(C:Z<=s⁻¹)(g:Nat)(k:s.heap.get? S=aa {cls:=.type "list",data:=.seq #[] g})(hR:∀n v E p,(∀b o,b≠S->b≠z->b≠TO->b≠i1->b≠i2->s.heap.get? b=aa o->n.get? b=aa o)->n.get? S=aa {cls:=.type "list",dict:=ac,data:=.seq (E.map aj).toArray p,slots:=#[]}->sF n xs ys E (dy xs.size ys.size)->(∀t∈E,Z<=t)->R (.ok<|.ret i) {s with heap:=n,toks:=v}):aF 4#0 A.in1 (EM 6#S 6#z i)
   (λfin x=>match fin with|.done f=>R (.ok f) x|.again p=>p.quiet=ap/\ky 4#0 A p R x) (λe x=>R (.error e) x) s:=by
 let G:S≠z:=(B z 0#0).symm;let K:s.TypeIs 6#z "zip":=(_,y,O);let q:∀(h:aX)(a v:Nat),(∀b o,b≠S->s.heap.get? b=aa o->h.get? b=aa o)->s⁻¹<=h.objs.size->
   h.get? S=aa {cls:=.type "list",data:=.seq #[] a}->ky 4#0 A (.builtin "list.extend.loop" ([.ref S,.ref z,i],[])) R {s with heap:=h,toks:=v}:=by
  intro h a v L r l;show UB (Z:=Z) M D P B Q _ 0 _ [] a O (cJ _) (N.q λc U o e=>L c o (B c U) e) l (O,pK,λj t e=>by simp at e) (aL C r) (λt V=>nomatch V) λn H I p W X Y e4=>?_;show hR n H I p (λb o u b1 b2 b3 b4 e=>e4 b o u b1 b2 b3 b4<|L b o u e) W X Y
 ext EM;calc x_ (T:="zip") K ?_;let h1:aji 6#S 6#z=aH:=by simp[aji,G]
 let h2:(aG "zip" == aG "list")=aH:=ξ
 let h3:(aG "zip" == aG "tuple")=aH:=ξ
 erw[h1,h2,h3,Bool.or_false,fh,dX];calc Ao y ?_;calc ik<|UA K ?_;show Ek (λ_=>?_) (λ_=>aO (nH vQ _,q _ g _ (λb o _ e=>e) (aE _) k));calc pD ?_;calc ?_;change aF _ _ (ye S (·.push .none) >>= λ_=>ye S (·.pop)) _ _ _;calc vu k O ?_;let d:=qA (cY (·.push cD)) k O;show vu (hz:=by seq_fits) d O ?_;let m:=qA (cY (·.pop)) d O;show aO (nH vQ _,q _ _ _ (λb o u e=>?_) ?_ m)
 show(rP _ _<|cQ u).trans<|(rP _ _<|cQ u).trans e
 rw[(mv ..).1,(mv ..).1];show aE _
def Uu{S Z:ab}{R:vK->ax->Prop}(v:A.handled=ac)(D:tU z TI TO i1 i2 l1 l2)(x:jU s.heap z TI TO .none)(y:nT s.heap z TI TO i1 i2 l1 l2 xs ys 0)(B:dy xs.size ys.size<=bE)(n:∀c∈[z,TI,TO,i1,i2,l1,l2],c≠S)(C:∀c∈[S,z,TO,i1,i2],c<Z)(p:Z<=s⁻¹)(a:s.heap.get? S=aa {cls:=.type "list",data:=.seq #[]})(hR:∀h q j i,(∀b o,b≠S->b≠z->b≠TO->b≠i1->b≠i2->s.heap.get? b=aa o->h.get? b=aa o)->h.get? S=aa {cls:=.type "list",dict:=ac,data:=.seq (j.map aj).toArray i,slots:=#[]}->sF h xs ys j (dy xs.size ys.size)->(∀t∈j,Z<=t)->R (.ok<|.ret .none) {s with heap:=h,toks:=q}):aF 4#0 A.in1 (Builtin.«list.__init__» ([.ref S,.ref z],[]))
   (λfin l=>match fin with|.done f=>R (.ok f) l|.again i=>i.quiet=ap/\ky 4#0 A i R l) (λe l=>R (.error e) l) s:=by
 change aF _ _ (do let r <-ajk 6#S;ann 6#S (λ_=>#[]);letGo r.toList.reverse;EM 6#S 6#z .none) _ _ s;calc ?_;ext ajk;calc js a O<|aO ?_;change aF _ _ (ye S (λ_=>#[]) >>= λ_=>letGo (#[]:Array ae).toList.reverse >>= λ_=>EM 6#S 6#z .none) _ _ s;calc vu a O ?_;let d:=qA (cY (λ_=>(#[]:Array ae))) a O;let g:∀b o,b≠S->s.heap.get? b=aa o->(s.heap.update S<|cY (λ_=>(#[]:Array ae))).get? b=aa o:=
  λb o m e=>(rP _ _<|cQ m).trans e
 calc oC ?_;show Uv (s:={s with heap:=s.heap.update S<|cY (λ_=>(#[]:Array ae))}) v D (g _ _ (n z 0#0) x) (y.q λc E o e=>g c o (n c E) e) B n C (by change Z<=(s.heap.update S<|cY (λ_=>(#[]:Array ae))).objs.size;rw[(mv ..).1];show p) _ d λh q j i G u k H=>?_;show hR h q j i (λb o m I K L M e=>G b o m I K L M<|g b o m e) u k H
def Uw{Q:Ω}(q:A.handled=ac)(D:tU z TI TO i1 i2 l1 l2)(r:jU s.heap z TI TO .none)(u:nT s.heap z TI TO i1 i2 l1 l2 xs ys 0)(v:dy xs.size ys.size<=bE)(g:∀c∈[z,TI,TO,i1,i2,l1,l2],c<s⁻¹)(x:∀f l h m,(∀b o,b≠z->b≠TO->b≠i1->b≠i2->s.heap.get? b=aa o->f.get? b=aa o)->f.get? s⁻¹=aa {cls:=.type "list",dict:=ac,data:=.seq (h.map aj).toArray m,slots:=#[]}->sF f xs ys h (dy xs.size ys.size)->(∀t∈h,s⁻¹<t)->Q (.ref s⁻¹) {s with heap:=f,toks:=l}):aF 4#0 A (kz (.type "list") [.ref z]) Q E s:=by
 show callType_codes (Q₁:=λi a=>i=.ref s⁻¹/\a={s with heap:=s.heap.push {cls:=.type "list",data:=.seq #[]}}) PySem.F.called_list (PySem.F.typeCall_list_1 _) PySem.F.entry_list_init
  (code_list_new _ (O,O)) λi a j=>?_
 let(rfl,rfl):=j;let p:(s.heap.push {cls:=.type "list",data:=.seq #[]}).get? s⁻¹=aa {cls:=.type "list",data:=.seq #[]}:=eB _ O;show((_,p,O),PySem.F.args_list_init_2 _ _,Uu (A:=A.in1) (Z:=s⁻¹+1) q D (bQ _ r) (u.q λc d o e=>bQ _ e) v (λc d=>cP<|g c d) (λc d=>?_) (by change _<=(s.heap.push _).objs.size;rw[vL];show aE _) p λf l h m y n k B=>?_);obtain rfl|d:=ci.mp d;show TL _;show qF<|g c (by simp at d ⊢;obtain rfl|rfl|rfl|rfl:=d<;>simp);show(O,x f l h m (λb o C G H I e=>y b o (cP<|cG e) C G H I<|bQ _ e) n k λt K=>B t K)
end
section
variable{X:bj}
def Xi(K:aT)(f:fN):bp:=λg H Q=>f g H λh a=>∃(l m:ab)(c d:List ak),h=[.ref l,.ref m]/\bJ K a l c/\bJ K a m d/\
 ∀b(D:ab)(e:List ab),aM a b->a D=ac->b D=aa (.lst<|e.map ak.ref)->gD (λt(p:ak×ak)=>b t=aa (.tup [p.1,p.2])) e (c.zip d)->Q 6#D b
def XK{a b:bG}{p C a7 k:dt}(hc:X.c=ap)(a8:kj X "list")(a9:X.b "list"=ac)(b0:gb "list"=aa (.type "list"))(b3:kj X "zip")(b4:X.b "zip"=ac)(b5:gb "zip"=aa (.type "zip"))(ha:jQ X [a,b] ta)(hs:eR [a,b] X.env=[(ahl aH (dw a X.env)),(ahl aH (dw b X.env))]:=by rfl)(S:eR [b] X.env=[(ahl aH (dw b X.env))]:=by rfl)
  (T:eR [.Call (.Name "zip" C) [a,b] [] k] X.env=[(ahl aH (dw (.Call (.Name "zip" C) [a,b] [] k) X.env))]:=by rfl) :
  bY X (.Call (.Name "list" p) [.Call (.Name "zip" C) [a,b] [] k] [] a7) (Xi X.K ta):=by
 intro w s σ H Q I h;show yd<|of I a8 a9 b0 ?_;show ua ?_ (by rw[T];rfl) (by rfl);rw[T];show KC ?_;show yd<|of I b3 b4 b5 ?_;show ua (bO (ha k w s σ H _ I h) λus m (vs,H1,A,r1,q1)=>?_) #v[hs,S] (by rw[S];rfl);let(U,W,M,N,rfl,q1,q2,q):=q1;let(u,u',rfl,ru,b6):=BJ r1;cases ru;cases b6;let(E,r1,p1,z1):=A.list q1;let(G,r2,C,z2):=A.list q2;let Y:=r1.length;let b7:=r2.length;let b1:U<m⁻¹:=by let(ϟ,e,ϟ):=p1.isList;show cG e
 let b2:W<m⁻¹:=by let(ϟ,e,ϟ):=C.isList;show cG e
 show SB Tf ξ (SW _ _) (Ta _ _) (λb8=>Ti b8 _ _) Tc (No U W E.toArray G.toArray) (p1.isList,C.isList,λv a1 a2 a3 a4 a5 kk=>?_);show((_,a1,O),To ?_);generalize hn:m⁻¹=n at *;let D:tU (n+4) (n+2) (n+3) n (n+1) U W:=by
  k_in<;>(intro z;have z':(_:Nat)=_:=z;have c1:(U:Nat)<n:=b1;have c2:(W:Nat)<n:=b2;lia)
 let Z:n+4<v.objs.size:=cG a1;show Uw (s:={m with heap:=v}) (xs:=E.toArray) (ys:=G.toArray) (A.b.a hc) D a1 ((_,_,.inl O,a1),a2,(_,_,a3),a4,a5,p1.isList.at λo e=>kk _ o e,C.isList.at λo e=>kk _ o e) ?_ ?_ λh2 tk d c' b9 hl tt c3=>?_
 erw[dk];show aL (TJ ..) (by rw[<-Y];show z1)
 intro c a0
 change(c:Nat)<v.objs.size;let c0:(n:Nat)+4<v.objs.size:=Z;let c1:(U:Nat)<n:=b1;let c2:(W:Nat)<n:=b2;erw[ci,uj,sE] at a0;obtain rfl|rfl|rfl|rfl|rfl|rfl|rfl:=a0<;>lia
 let lt:∀{b o},m.heap.get? b=aa o->(b:Nat)<n:=λe=>by rw[<-hn];show cG e
 let c4:∀b o,m.heap.get? b=aa o->h2.get? b=aa o:=λb o e=>by
  let c:=lt e;show b9 b o ?_ ?_ ?_ ?_<|kk b o e<;>(intro z;have z':(_:Nat)=_:=z;lia)
 let fL:m⁻¹<=v.objs.size:=%[hn|oK<|fH (iY _ _) Z]
 let hL:H1 v.objs.size=ac:=A.a.q fL;let vv:∀d:List ab,cv (d.map ak.ref) (d.map aj):=λd=>by
  induction d with
  |nil=>show .nil
  |cons b bs ih=>show .cons O ih
 let l:d.length=dy M.length N.length:=by rw[tt.1];erw[dk,Y,b7]
 let I2:aK X w σ (aN H1 v.objs.size<|.lst<|d.map ak.ref) {m with heap:=h2,toks:=tk}:=A.J c4 fL (%[aA,l|aL (TJ ..) z1],_,c',vv d,hl);let c5:=aM.q (o:=.lst<|d.map ak.ref) hL;let c6:∀(j:Nat)(t:ab)(p:ak×ak),d[j]?=aa t->(M.zip N)[j]?=aa p->∃x y:ae,cF p.1 x/\cF p.2 y/\h2.get? t=aa {cls:=.type "tuple",data:=.seq #[x,y]}:=by
  intro j t p e1 K;rw[Lo] at K;let(x,y,P,R,g3):=tt.2.2 j t e1;let(x',g4,g5):=r1.q K.1;let(y',g6,g7):=r2.q K.2;let P:E[j]?=aa x:=by simpa using P
  let R:G[j]?=aa y:=by simpa using R
  rw[g4] at P;obtain rfl:=cX P;rw[g6] at R;obtain rfl:=cX R;show(_,_,g5,g7,g3)
 let' B:List (ab×List ak):=(d.zip<|M.zip N).map λq=>(ahl q.1 ([q.2.1,q.2.2]))
 let c7:B.map (·.1)=d:=by
  change((d.zip<|M.zip N).map λq=>(ahl q.1 ([q.2.1,q.2.2]))).map (·.1)=d;rw[dC];change(d.zip<|M.zip N).map rR=d;rw[EZ];rw[ul,l];show aE _
 let(H',I',sm,g):=Pj B _ I2 %[c7|tt.2.1] λr hr=>by
  obtain⟨⟨t,p⟩,hq,rfl⟩:=aW.mp hr;let(j,hj):=AU hq;rw[Lo] at hj;let(x,y,P,R,g3):=c6 j t p hj.1 hj.2;let a6:v.objs.size<t:=c3 t<|dL hj.1;let L:m⁻¹<=t:=aL fL<|oK a6;show(A.A2 L ?_,aL A.sz L,by change 2<=bE;rw[iC];show ä,[x,y],.cons P<|.cons R .nil,(_,g3,O,_,O));rw[bI<|jJ a6];show A.a.q L
 let c8:∀(a:List ab)(b:List (ak×ak)),a.length=b.length->(∀(j:Nat) t p,a[j]?=aa t->b[j]?=aa p->H' t=aa (.tup [p.1,p.2]))->gD (λt(p:ak×ak)=>H' t=aa (.tup [p.1,p.2])) a b:=by
  intro a;induction a with
  |nil=>
   intro b hb _;cases b with
   |nil=>show .nil
   |cons x y=>simp at hb
  |cons x a ih=>
   intro b hb f;cases b with
   |nil=>simp at hb
   |cons y b=>show .cons (f 0 x y O O)<|ih b 5#hb λj t p e1 K=>f (j+1) t p 5#e1 5#K
 show(.ref v.objs.size,H',I',O,q H' _ d (c5.trans sm) hL (sm _ _ aI)<|c8 _ _ %[ul|l] λj t p e1 K=>?_);show g (ahl t ([p.1,p.2]))<|aW.mpr ((ahl t p),dL (i:=j) ?_,O);rw[Lo];show(e1,K)
end
def f_(i:Nat):b_:=PySem.Challenge.pw_seamwright_k36_whole_balance_by_holes.main.body.getD i<|.Pass (0,0,0,0)
abbrev IU:b_:=f_ 7
abbrev DM:b_:=f_ 8
abbrev IZ:b_:=f_ 10
abbrev IV:b_:=f_ 11
abbrev Jg:b_:=f_ 12
abbrev I_:b_:=f_ 16
structure iU(mg:aB->Option ae):Prop where
 a:mg "len"=ac
 all:mg "all"=ac
 c:mg "zip"=ac
 d:mg "sorted"=ac
 set:mg "set"=ac
 list:mg "list"=ac
 e:mg "tuple"=ac
 b:mg "range"=ac
 f:mg "enumerate"=ac
 int:mg "int"=ac
 g:mg "isinstance"=ac
 h:mg "reversed"=ac
 i:mg "bool"=ac
def jd:gb "len"=aa (.builtin "len"):=δ
def Jw:gb "all"=aa (.builtin "all"):=δ
def afs:gb "zip"=aa (.type "zip"):=δ
def Rj:gb "sorted"=aa (.builtin "sorted"):=δ
def aft:gb "set"=aa (.type "set"):=δ
def DY:gb "list"=aa (.type "list"):=δ
def Ju:gb "tuple"=aa (.type "tuple"):=δ
def Rl:gb "enumerate"=aa (.type "enumerate"):=δ
def afu:gb "int"=aa (.type "int"):=δ
def dq{n:Nat}(h:n<=100000):n<=bE:=%[iC|â h]
def pz{n:Nat}(h:n<=100000):n<bE:=%[iC|â (ï h)]
def afw(x:Int)(r:Ζ):oj ((x::r).map ak.int) (-1)=aa (.int<|(x::r).getLastD 0):=by
 obtain⟨q,z,e⟩:∃q z,x::r=q++[z]:=((x::r).dropLast,(x::r).getLast<|Ug x r,(alb<|Ug x r).symm);rw[e,cH,aku,List.getLast?_append];show Zq _ _
def DT{a:Ζ}{i:Nat}(h:(a.map ak.int)[i]?=aa x):∃p,a[i]?=aa p/\x=.int p:=by
 rw[ca] at h;cases e:a[i]? with
 |none=>rw[e] at h;cases h
 |some p=>rw[e] at h;show(p,O,(cX h).symm)
def mp{b:List ab}{i:Nat}(h:(b.map ak.ref)[i]?=aa x):∃a,b[i]?=aa a/\x=.ref a:=by
 rw[ca] at h;cases e:b[i]? with
 |none=>rw[e] at h;cases h
 |some p=>rw[e] at h;show(p,O,(cX h).symm)
def fO{a:Type}{l:List a}{i:Nat}{x:a}(h:l[i]?=aa x):l.take (i+1)=l.take i++[x]:=by rw[yy,h];rfl
def qk{a:Type}(l:List a):l.take l.length=l:=eF<|aE _
def afh(x:Int)(r:Ζ):jO ((x::r).map ak.int) (aa 1) ac=r.map ak.int:=by
 ext jO;let e:cO ((x::r).map ak.int).length 0 (aa 1)=1:=by
  have:=vr ((x::r).map ak.int).length 0 1;rw[show((1:Nat):Int)=1 from O] at this;rw[this,aA,dI];lk
 rw[e,xW];change dH _ (r.map ak.int)=_;rw[eF 0#0]
section
variable{P:bh}{w:ba}{K:aT}{mg:aB->Option ae}{base:aX}
inductive Iy(vs:List ak)(H:ag)(Q:aR)(E':cy):Prop
 |b:∀a ps,(vs=[.ref a])->(gI H a ps)->(∀H',aM H H'->Q (.c<|jr ps) H')->Iy vs H Q E'
def acg:cR ["numbers"] ["numbers"] (bD IU):=1#0
def adu(F:cz K "is_piece" "is_piece" IU f W)(B:iU mg)(m5:mg "MOST_POINTS"=aa (.int 5 t5))(M:mg "LAST_POINT"=aa (.int 99 L)):cp P w K mg base aZ 1 f W ["numbers"] Iy:=by
 show F.q acg λa0 A N s H vs Q E hr=>?_;rintro⟨a,h,rfl,o,k⟩;show(_,bm (hH (wJ<|Oc zr zr aS (dO fU O B.a jd<|aq 7#0 aC)<|zn O m5 (v:=.int 5) (_,O)) (bx<|cE pe) hC)
  (bm (hH (uN.q<|NY (fJ wP (bP dh 7#0 aS 2#0) aS<|eV _)<|NX<|fJ uG (bP dh 7#0 (qX qU aS) 2#0) (zn O M (v:=.int 99) (_,O))<|eV _) (bx<|cE pe) hC)
  (bx (cE (dO (xf O) O B.all Jw (aq
   (fq ["numbers"] ["low","high"] [ac,ac] (Og O B.c afs<|aq 7#0<|aq (pd ND 7#0 (mK aS) mL) aC)
    (λX C l m Y=>nr O<|hJ (cx (i:=0) (dM ["low","high"]) O<|av O)<|hJ (cx (i:=1) (dM ["low","high"]) O<|av O) nq)
    (λX C l m Y=>eU) (λX C l m Y=>wO wP 7#0 7#1<|eV _) (hfr:=nv δ) (g:=kI K 2<|fM (de 0)<|fM (de 1) kJ)) aC))))),?_)
 let G:jr h=aH->Q (.c aH) H:=λe=>by have:=k H<|aM.refl H;rw[e] at this;show this
 show(_,O,a,_,O,.inr<|gr.q o,_,_,O,O,_,O,?_);rw[aA];show oh (λR=>?_) (λR=>?_);show(_,_,O,O,_,O,?_);let b:1<=h.length:=by have:=gP R;lk
 cases Z:aJ ((h.length:Int)<=5) with
 |false=>
  let c:¬h.length<=5:=by have:=oT Z;lk
  show gG<|G (by ext jr;rw[dD c];simp)
 |true=>
  let c:h.length<=5:=by have:=gP Z;lk
  show gi ?_;obtain⟨x,r,rfl⟩:∃x r,h=x::r:=by
   cases h with
   |nil=>simp at b
   |cons x r=>show(x,r,O)
  show(_,O,a,_,_,_,O,O,gr.q o,bX (j:=0) O,_,_,O,O,_,O,?_);show oh (λS=>?_) (λS=>?_);show gG<|G ?_;ext jr;rw[show aJ ((x::r).headD 0<0)=ap from S];simp;show(_,O,_,O,a,_,_,_,O,O,gr.q o,afw x r,_,_,O,O,_,O,?_);cases hl:aJ (99<(x::r).getLastD 0) with
  |true=>
   show gG<|G ?_;ext jr;rw[hl];simp
  |false=>
   show gi ?_;show(_,O,_,O,_,O,a,_,O,gr.q o,?_,λp hp=>?_);intro z;let e:=vr ((x::r).map ak.int).length 0 1;rw[show((1:Nat):Int)=1 from O,z.1,aA,dI] at e;lk;rw[afh];let T:aM H (aN H p<|.tup<|r.map ak.int):=aM.q hp;show(a,p,O,(_,gr.q<|T.tp o),(_,gr.q aI),λD hD=>?_);let hm:dy ((x::r).map ak.int).length (r.map ak.int).length=r.length:=by simp
   show fu (OT (K:=K) (xs:=(x::r).map ak.int) (ys:=r.map ak.int) (λi I u t=>∃U V,I=[U,V]/\aM (aN H p<|.tup<|r.map ak.int) t/\t D=aa (.lst u)/\u=((((x::r).zip r).map λq=>aJ<|q.1<q.2).take i).map ak.c)
    (ac,ac,O,aM.q hD,aI,O) (λi I u t (_,_,_,n,_)=>(gr.q<|n.tp<|T.tp o,gr.q<|n _ _ aI)) ?_ ?_)
   rintro i I u t p' y1 y2 e1 e2 hi hz ⟨U,V,rfl,n,d,rfl⟩ y;let(q1,g1,rfl):=DT e1;let(q2,g2,rfl):=DT e2;show(p',_,O,gr.q aI,O,_,_,O,_,_,O,O,sU ?_);show(_,O,_,O,_,_,O,O,gH (aL (yv _ _) (by rw[aA];show dq (by simp at c;show â c))) hi hz %[bI<|dn d y|d] (_,_,O,?_,aI,?_));show(n.F<|n.J y).F hD;let e3:(((x::r).zip r).map λq=>aJ<|q.1<q.2)[i]?=aa (aJ<|q1<q2):=by
    rw[ca,qT,g1,g2];rfl
   rw[fO e3,cH];rfl;rintro I u t ⟨U,V,rfl,n,d,rfl⟩;show(D,(((x::r).zip r).map λq=>aJ<|q.1<q.2),O,bJ.q ?_,?_);rw[d,hm,eF 0#0]
   have:=k t<|T.trans n
   let e4:=Ru<|x::r;rw[show(x::r).drop 1=r from O] at e4;rw[e4];let e5:jr (x::r)=iA (x::r):=by
    ext jr;rw[cN b,cN c,hl];rw[show aJ ((x::r).headD 0<0)=aH from by simpa using S];rfl
   rw[e5] at this;show this
 show(_,O,gG<|G ?_);let b:¬1<=h.length:=λz=>R<|cN ω;ext jr;rw[dD b];rfl
inductive Iz(vs:List ak)(H:ag)(Q:aR)(E':cy):Prop
 |b:∀a ps,(vs=[.ref a])->(gI H a ps)->(ps.length<=5)->(∀D as H',aM H H'->H D=ac->H' D=aa (.lst<|as.map ak.ref)->ce H' as (dr ps)->Q 6#D H')->Iz vs H Q E'
def DF:cR ["piece","found","point"] ["piece"] (bD DM):=1#0
def Ji{n:Nat}(h:n<=5):2 ^ n<=32:=by
 have:2 ^ n<=2 ^ 5:=iD ξ h;show this
def adb{i:ag}{u:List ab}{w:Ξ}{q:Int}{Q:aR}(P:i l=aa (.lst<|u.map ak.ref))(H:ce i u w)(Y:u.length<=100)(A:∀f∈w,f.length<=100)(I:i D=ac)(k:∀g b,aM i b->b D=aa (.lst<|g.map ak.ref)->ce b g (w.map (·++[q]))->Q 6#D b):eY (ki K l) (de 0) gB (eM BS (bZ 0)<|BL<|eO (bZ 1) iw) [ac,aa<|.int q] i D Q:=by
 let B:=H.length;show nw (xs:=u.map ak.ref) (λj y m b=>∃g v,y=[v,aa<|.int q]/\aM i b/\b D=aa (.lst m)/\m=g.map ak.ref/\ce b g ((w.take j).map (·++[q]))) ?_ ?_ ?_ ?_;show([],ac,O,aM.q I,aI,O,.nil);rintro j y m b ⟨g,v,rfl,n,d,rfl,o⟩;show bJ.q<|n _ _ P;rintro j y m b x R S T ⟨g,v,rfl,n,d,rfl,o⟩;let(a,U,rfl):=mp R;let(f,L,V):=H.q U;show jD ?_;show(_,O,_,O,dq 0#0,λt C=>?_);let E:=n.tp V;let M:aM b (aN b t<|.tup [.int q]):=aM.q C;show(a,t,_,_,O,O,M _ _ E,aI,?_,λp G W N=>?_);rw[aA];show dq (by have:=A f<|dL L;simp;show â this);let r:aM b G:=M.trans W;show gH (ys:=g.map ak.ref) %[aA|dq (â Y)] S T (r _ _ d) (g++[p],_,O,(n.trans r).F I,aI,by rw[cH];rfl,?_);rw[fO L,cH];let X:p≠D:=md N (r _ _ d) (by intro z;cases z);let h:∀c s,G c=aa (.tup s)->aN G D (.lst<|g.map ak.ref++[ak.ref p]) c=aa (.tup s):=λc s e=>by
  rw[bI<|md e (r _ _ d) (by intro z;cases z)];show e
 show ce.F (lw (r.A0 o) λc s e=>h c _ e)<|h p _ ?_;rw[N,cH];rfl;rintro y m b ⟨g,v,rfl,n,d,rfl,o⟩;rw[aA,B,qk] at o;show k g b n d o
def adv(F:cz K "parts_of" "parts_of" DM f R):cp P w K mg base aZ 1 f R ["piece"] Iz:=by
 show F.q DF λa0 A z s H vs Q E hr=>?_;rintro⟨a,o,rfl,S,h5,k⟩;show(_,bm (ck (i:=1) DF.a O (av O)<|jm<|aq (jC aC) aC)
  (bm (jB iW O (Oh<|ai 0) (cx (i:=2) DF.a O<|aU O)
   (bx (ck (i:=1) DF.a O (av O) (cu wQ 7#1 (fq ["piece","found","point"] ["part","point"] [ac,aa 2] (gg<|ai 1) (λT C g h U=>cx (i:=0) (dM ["part","point"]) O<|av O) (λT C g h U=>eU)
    (λT C g h U=>cu Op 7#0<|jC<|aq 7#1 aC) (hfr:=gS (bD DM) δ))))))
 <|bx<|cE<|pd sW 7#1 (mK aS) mL),?_)
 show(dq 0#0,λe B=>(dq 0#0,λl c=>?_));let V:aM H (aN (aN H e<|.tup []) l<|.lst [.ref e]):=(aM.q B).F<|(aM.q B).J c;let G:e≠l:=dn (H:=aN H e<|.tup []) aI c;show(_,O,a,O,(_,gr.q<|V _ _ S),YQ (K:=K) (a:=a) (xs:=o.map ak.int) (λi u n=>∃l b v,u=[aa<|.ref a,aa<|.ref l,v]/\aM H n/\H l=ac/\n l=aa (.lst<|b.map ak.ref)/\ce n b (oz<|o.take i))
  (l,[e],ac,O,V,(aM.q B).J c,aI,.cons (by change aN _ _ _ e=_;rw[bI G];show aI) .nil) (λi u n _ (_,_,_,_,j,_)=>gr.q<|j _ _ S) ?_ ?_)
 rintro i x u n hx ⟨l,b,v,rfl,j,I,c,m⟩;let(q,W,rfl):=DT hx;let hi:i<o.length:=(dN.mp W).1;let L:=m.length;let hn:b.length<=32:=by
  rw[L,Rs,gf];show Ji ω
 let hm:∀f∈oz (o.take i),f.length<=100:=λf hf=>by
  have:=af2 _ f hf;rw[gf] at this;lk
 show(_,O,_,O,l,O,(_,bJ.q c),λD y=>fu<|adb c m (â hn) hm y λbs H3 d M X=>?_);let N:=X.length;rw[aA] at N;show(l,D,_,_,O,O,d _ _ c,M,%[aA,aA|dq ω],λY p=>?_);let r:H Y=ac:=(j.trans d).J p;show(Y,b++bs,_,O,(j.trans d).F r,r,#v[aI,cH],?_);rw[fO W,Rr];show(aM.q p).A0<|(d.A0 m).A1 X;rintro u n ⟨l,b,v,rfl,j,I,c,m⟩;rw[aA,qk] at m;show(_,O,_,O,l,_,O,bJ.q c,λD y=>?_);let Z:H D=ac:=j.J y;let(t,et,ϟ):=Rt o;show k D (b.drop 1) _ (j.F Z) Z ?_ ?_;rw[aI];ext jO;let a1:1<=b.length:=by rw[m.length,et];simp
 let e1:cO (b.map ak.ref).length 0 (aa 1)=1:=by
  have:=vr (b.map ak.ref).length 0 1;rw[show((1:Nat):Int)=1 from O] at this;rw[this,aA];lk
 rw[e1,xW,<-uk,eF 0#0];show(aM.q y).A0<|m.J 1
def acl:cR ["piece"] ["piece"] (bD IZ):=1#0
def ad2(F:cz K "order_key" "order_key" IZ f c)(B:iU mg):cp P w K mg base aZ 1 f c ["piece"] BN:=by
 show F.q acl λd A b s H h Q E i=>?_;rintro⟨a,j,rfl,e,k⟩;show(_,bx<|cE<|jC<|aq (dO fU O B.a jd<|aq 7#0 aC)<|aq 7#0 aC,?_);show(_,O,a,_,O,.inr<|gr.q e,_,O,dq 0#0,λp g=>?_);rw[aA];show k p g
inductive IA(K:aT)(vs:List ak)(H:ag)(Q:aR)(E':cy):Prop
 |c:∀l as pss,(vs=[.ref l])->(bJ K H l<|as.map ak.ref)->(ce H as pss)->(pss.length<64)->(∀D H2(qs:List (Ζ×ab)),aM H H2->H D=ac->H2 D=aa (.lst<|qs.map λq=>ak.ref q.2)->qs.Perm (pss.zip as)->qs.Pairwise (λa b=>dj ((b.1.length:Int)::b.1) ((a.1.length:Int)::a.1)=aH)->Q 6#D H2)->IA K vs H Q E'
def aci:cR ["some"] ["some"] (bD IV):=1#0
def adw(F:cz K "in_order" "in_order" IV f d)(B:iU mg)(e:bW P w K mg base aZ "order_key" ["piece"] 1 BN):cp P w K mg base aZ 4 f d ["some"] (IA K):=by
 let(t,g,h,i,j,m):=e;show F.q aci λn A a s H u Q E o=>?_;rintro⟨l,p,b,rfl,q,r,c,k⟩;show(_,bx<|cE<|XI m o i O B.d Rj O j<|aq 7#0 aC,?_);show(_,O,l,p,b,O,q,r,c,k)
def tO(h:ce H f b)(g:H d=aa c)(i:∀j,c≠.tup j):ce (aN H d o) f b:=
 lw h λa k e=>by
  change aN H d o a=_;rw[bI<|md (show H a=aa _ from e) g λz=>i _ z.symm];show e
def qo(a:Ξ):List (List bi×ak):=(cr a).map λb=>(ahl ((b.map bF:List bi)) (ak.c ap))
def aei(a:Ξ):(qo a).length<=a.length:=by ext qo;rw[aA];show sO a
def ac1(a:Ξ)(b:Ζ):fo (qo a) (b.map bF) (.c ap)=qo (a++[b]):=by
 ext fo qo;rw[za];let d:(((cr a).map λb=>(ahl ((b.map bF:List bi)) (ak.c ap))).any λe=>aJ<|e.1=b.map bF)=aJ (b∈cr a):=by
  rw[Ui];cases h:b∈cr a;rw[cN h,Lw];show(b,h,by simp);rw[dD h,Lx];intro q c;erw[qK,jx,qY];rintro rfl;show h c
 rw[d];cases h:b∈cr a;rw[cN h,aw O,aw h,dC];show iZ λq c=>?_;erw[qK];split<;>rfl;rw[dD h,ar 0#0,ar h,cH];rfl
def aeu{H:ag}(h:gD (λ(p:List bi×ak) b=>H b=aa (.tup<|p.1.map dT)) (qo a) c):ce H c (cr a):=by
 unfold qo at h;generalize cr a=l at h;induction l generalizing c with
 |nil=>cases h;show .nil
 |cons x l d=>
  rw[fg] at h;cases h with
  |cons r t=>
   show .cons ?_<|d t;change H _=_;rw[r,dC];rfl
def ae8(a:Ξ)(h:∀b∈a,b.length<=5):(a.flatMap dr).length<=31*a.length:=by
 induction a with
 |nil=>simp
 |cons x l c=>
  rw[AW,eE,Af,dI];have:=c λb d=>h b<|gF _ d;have:=Ji<|h x fy;lk
def ae7{a:Ξ}{i:Nat}(h:a[i]?=aa b):(a.take<|i+1).flatMap dr=(a.take i).flatMap dr++dr b:=by
 rw[fO h,List.flatMap_append];simp
def Rp(H d:ag)(e:Ξ)(D:ab)(c:List (Ζ×ab)):Prop:=
 aM H d/\H D=ac/\d D=aa (.lst<|c.map λq=>ak.ref q.2)/\(∀q∈c,gI d q.2 q.1)/\(c.map (·.1)).Perm (cr<|e.flatMap dr)/\c.Pairwise (λa b=>dj ((b.1.length:Int)::b.1) ((a.1.length:Int)::a.1)=aH)
inductive DD(K:aT)(vs:List ak)(H:ag)(Q:aR)(E':cy):Prop
 |a:∀l as pss,(vs=[.ref l])->(bJ K H l<|as.map ak.ref)->(ce H as pss)->((∀ps∈pss,ps.length<=5))->(pss.length<=20)->((cr<|pss.flatMap dr).length<64)->(∀D H2 qs,Rp H H2 pss D qs->Q 6#D H2)->DD K vs H Q E'
def DG:cR ["some","found","piece","part"] ["some"] (bD Jg):=1#0
def aeb(F:cz K "all_parts" "all_parts" Jg f fd)(B:iU mg)(Cp:bW P w K mg base aZ "parts_of" ["piece"] 1 Iz)(Co:bW P w K mg base aZ "in_order" ["some"] 4 (IA K)):cp P w K mg base aZ 5 f fd ["some"] (DD K):=by
 show F.q DG λa6 A X s H vs Q E Y=>?_;rintro⟨l,as,e,rfl,hl,ht,h5,a7,Z,k⟩;let hu:=pf Y;let a0:fF 1 _:=Y.q ξ;show(_,bm (ck (i:=1) DG.a O (av O) GA)
  (bm (jB iW O (gg<|ai 0) (cx (i:=2) DG.a O<|av O)
   (bx (jB iW O (gg<|bv Cp a0 O bw<|aq 7#2 aC) (cx (i:=3) DG.a O<|av O)
   <|bx<|qW hu 7#1 7#3 pe O)))
 <|bx<|cE<|bv Co Y O bw<|aq (nu (Zk O) O B.list DY<|aq 7#1 aC) aC),?_)
 intro d hd;let a1:=ht.length;show(_,O,l,O,(_,(aM.q hd).A1 hl),qc (K:=K) (a:=l) (xs:=as.map ak.ref) (λi p R=>∃v y,p=[aa<|.ref l,aa<|.ref d,v,y]/\aM H R/\R d=aa (.b<|qo<|(e.take i).flatMap dr))
  (ac,ac,O,aM.q hd,aI) (λi p R _ (_,_,_,r,_)=>r.A1 hl) ?_ ?_)
 rintro i x p R hx ⟨v,y,rfl,r,h⟩;let(a,ea,rfl):=mp hx;let(N,C,a2):=ht.q ea;let t:=h5 N<|dL C;let hi:i<e.length:=(dN.mp C).1;show(_,O,a,N,O,r.tp a2,t,λD cs H3 g a8 S T=>(D,O,(_,bJ.q S),?_));let a3:=T.length;let a4:D≠d:=md S (g _ _ h) (by intro z;cases z);show qc (K:=K) (a:=D) (xs:=cs.map ak.ref) (λj p G=>∃y,p=[aa<|.ref l,aa<|.ref d,aa<|.ref a,y]/\aM H G/\G D=aa (.lst<|cs.map ak.ref)/\ce G cs (dr N)/\G d=aa (.b<|qo<|(e.take i).flatMap dr++(dr N).take j))
  (_,O,r.trans g,S,T,%[List.take_zero,sy|g _ _ h]) (λj p G _ (_,_,_,q,_)=>bJ.q q) ?_ ?_
 rintro j x p G hx ⟨y,rfl,I,U,n,o⟩;let(c,ec,rfl):=mp hx;let(f,ef,hf):=n.q ec;let V:(qo<|(e.take i).flatMap dr++(dr N).take j).length<bE:=by
  show pz<|aL (aei _) ?_;rw[eE];let h1:=ae8 (e.take i) (λq hq=>h5 q<|qH hq);let h2:=Af N;let h3:=Ji t;rw[gf] at h1 ⊢;show à (Nat.add_le_add (à h1 (Nat.mul_le_mul_left 31 (à (Nat.min_le_right ..) (ω:e.length<=20)))) (Nat.min_le_right ..)) (by lk)
 show(_,O,_,O,d,_,O,zH.t (k:=f.map bF) o %[dC|hf] V,(_,O,I.F hd,?_,?_,?_));rw[bI a4];show U;show tO n o (by intro xs z;cases z);rw[aI,ac1,Uh,<-fO ef];rintro p G ⟨y,rfl,I,U,n,o⟩;show(_,_,O,I,?_);rw[aA,a3,qk] at o;rw[ae7 C];show o;rintro p R ⟨v,y,rfl,r,h⟩;rw[aA,a1,qk] at h;show(_,O,d,_,O,h,λbs hb l2 L=>?_);let tb:=aeu hb;let a9:=tb.length;show(l2,bs,cr<|e.flatMap dr,O,bJ.q aI,(aM.q L).A0 tb,Z,λD H3 qs g S a5 hp hs=>?_);let u:H l2=ac:=r.J L;show k D H3 qs ((r.F u).trans g,(r.F u).J S,a5,λq hq=>?_,?_,hs);let(m,M):=qI.mp<|hp.mem_iff.mp hq;rw[qT] at M;cases W:(cr<|e.flatMap dr)[m]? with
 |none=>rw[W] at M;cases M
 |some f=>
  cases e2:bs[m]? with
  |none=>rw[W,e2] at M;cases M
  |some b=>
   rw[W,e2] at M;obtain rfl:(ahl f b)=q:=cX M;show g.tp<|(aM.q L).tp<|zp tb m b f e2 W
 have:=hp.map (·.1)
 rw[EZ %[|æ a9]] at this;show this
inductive IE(K:aT)(vs:List ak)(H:ag)(Q:aR)(E':cy):Prop
 |a:∀l as pss,(vs=[.ref l])->(bJ K H l<|as.map ak.ref)->(ce H as pss)->((pss.all jr=ap->(cr<|pss.flatMap dr).length<64))->(∀H',aM H H'->Q (.c<|gO pss) H')->IE K vs H Q E'
def acm:cR ["web"] ["web"] (bD I_):=1#0
def ad3{t5 Y Z t:je}(F:cz K "is_web" "is_web" I_ f fd)(B:iU mg)(m5:mg "MOST_POINTS"=aa (.int 5 t5))(a6:mg "LAST_POINT"=aa (.int 99 Y))(a0:mg "MOST_HANDED"=aa (.int 20 Z))(u:mg "MOST_PIECES"=aa (.int 200 t))(Ci:bW P w K mg base aZ "is_piece" ["numbers"] 1 Iy)(Ca:bW P w K mg base aZ "all_parts" ["some"] 5 (DD K)):cp P w K mg base aZ 6 f fd ["web"] (IE K):=by
 show F.q acm λa7 A a1 s H vs Q E hr=>?_;rintro⟨l,T,b,rfl,r,U,a2,k⟩;let y:=hr.units;let a3:fF 1 _:=hr.q ξ;show(_,bm (hH (fJ uG (dO fU O B.a jd<|aq 7#0 aC) (zn O a0 (v:=.int 20) (_,O))<|eV _) (bx<|cE pe) hC)
  (bm (hH (wJ (zk (dO (xf O) O B.all Jw (aq
   (fq ["web"] ["numbers"] [ac] (gg<|ai 0) (λcl C h j ex=>cx (i:=0) (dM ["numbers"]) O<|av O) (λcl C h j ex=>eU)
    (λcl C h j ex=>bv Ci a3 O bw<|aq 7#0 aC) (hfr:=nv δ)) aC)))) (bx<|cE pe) hC)
  (bm (hH (fJ wP (dO Zm O B.a jd<|aq (nu (Zi O y) O B.set aft<|aq 7#0 aC) aC) (dO fU O B.a jd<|aq 7#0 aC)<|eV _) (bx<|cE pe) hC)
 <|bx<|cE<|wO zr (dO fU O B.a jd<|aq (bv Ca hr O bw<|aq 7#0 aC) aC) (zn O u (v:=.int 200) (_,O))<|eV _)),?_)
 let G:=U.length;show(_,O,l,_,O,.inl r,_,_,O,O,_,O,?_);rw[aA];show oh (λh1=>?_) (λh1=>?_)
 have:=k H<|aM.refl H
 rw[af0 b (by have:=gP h1;lk)] at this;show this;let I:b.length<=20:=by
  have:¬((20:Int)<T.length):=λz=>h1<|cN z;lk
 show(_,O,l,O,(_,r),λD hD=>fu (nw (K:=K) (a:=l) (xs:=T.map ak.ref) (λi V L m=>∃v,V=[v]/\aM H m/\m D=aa (.lst L)/\L=((b.map jr).take i).map ak.c)
  (ac,O,aM.q hD,aI,O) (λi V L m (_,_,c,_)=>c.A1 r) ?_ ?_))
 rintro i V L m x hx hi hy ⟨v,rfl,c,d,rfl⟩;let(a,ea,rfl):=mp hx;let(W,a4,n):=U.q ea;show jD ?_;show(_,O,a,W,O,c.tp n,λH4 g=>gH %[aA|dq (â (à (å G) I))] hi hy (g _ _ d) (_,O,(c.trans g).F hD,aI,?_));let e:(b.map jr)[i]?=aa (jr W):=by rw[ca,a4];rfl
 rw[fO e,cH];rfl;rintro V L m ⟨v,rfl,c,d,rfl⟩;rw[aA,G,eF 0#0] at d;show(D,b.map jr,O,bJ.q d,_,O,?_);let M:(b.map jr).all id=b.all jr:=by rw[Fc];rfl
 rw[M];cases X:b.all jr with
 |false=>
  show gG ?_;have:=k m c;rw[show gO b=aH from by ext gO;rw[X];simp] at this;show this
 |true=>
  show gi ?_;show(_,O,l,T,b,O,c.A1 r,c.A0 U,(â I),λS hS=>?_);let N:aM H (aN m S<|zy S (cr b).length):=c.F<|c.J hS;show(S,_,O,aI,_,O,l,_,O,.inl<|N.A1 r,_,_,O,O,_,O,?_);rw[aA,G];show oh (λh2=>?_) (λh2=>?_);let o:(cr b).length<b.length:=by have:=gP h2;lk
  have:=k _ N;rw[show gO b=aH from by ext gO;rw[cN o];simp] at this;show this
  let o:¬(cr b).length<b.length:=λz=>h2<|cN ω;show(_,O,l,T,b,O,N.A1 r,N.A0 U,λW n=>?_,I,a2 X,λD2 H4 qs (g,_,a5,_,p,_)=>?_)
  have:=lY.mp X W n
  unfold jr at this;erw[lb,jx] at this;show this.1.1.1.2;show(D2,_,O,.inl<|bJ.q a5,_,_,O,O,?_);let R:(qs.map λq=>ak.ref q.2).length=(cr<|b.flatMap dr).length:=by
   rw[aA,<-p.length_eq,aA]
  rw[R];have:=k H4<|N.trans g;let e:gO b=aJ (((cr<|b.flatMap dr).length:Int)<=200):=by
   ext gO;rw[X,cN I,dD o];cases q:(cr<|b.flatMap dr).length<=200;rw[cN q,cN (show((cr<|b.flatMap dr).length:Int)<=200 from ω)];rfl;rw[dD q,dD (show ¬((cr<|b.flatMap dr).length:Int)<=200 from ω)];rfl
  rw[e] at this;show this
abbrev Jd:b_:=f_ 69
abbrev Je:b_:=f_ 70
abbrev IN:b_:=f_ 71
def Rq(x y:Int):Prop:=0<=x/\(y=0\/(y=1/\x<4294967296))
def jq(H:ag)(p:ab):Prop:=∃x y,H p=aa (.lst [.int x,.int y])/\Rq x y
def lL(p:ab)(H a:ag):Prop:=∀b o,b≠p->H b=aa o->a b=aa o
def lL.trans(a:lL p H d)(b:lL p d f):lL p H f:=λc o g e=>b c o g<|a c o g e
def lL.J(a:aM H b):lL p H b:=λc o _ e=>a c o e
def lL.F(e:lL p H a)(f:jq H p)(b:jq a p)(h:a l=ac):H l=ac:=by
 cases q:H l with
 |none=>rfl
 |some o=>
  let(x,y,c,ϟ):=b;have d:l≠p:=λz=>by rw[z,c] at h;cases h
  rw[e l o d q] at h;cases h
def jq.F(b:jq H p)(e:aM H a):jq a p:=let ⟨x,y,h,o⟩:=b;(x,y,e _ _ h,o)
def jq.ne{as:List ab}(b:jq H p)(h:H l=aa (.lst<|as.map ak.ref)):l≠p:=by
 let(x,y,e,ϟ):=b;show md h e λc=>?_;injection c with c
 cases as with
 |nil=>cases c
 |cons a r=>rw[fg] at c;cases c
def jq.A1{p t:ab}(b:jq H p)(h:H t=aa (.tup a)):t≠p:=by
 let(x,y,e,ϟ):=b;show md h e (by intro z;cases z)
def lL.tp(e:lL p H c)(b:jq H p)(h:gI H a d):gI c a d:=e _ _ (b.A1 h) h
def lL.A0(e:lL p H c)(b:jq H p)(h:ce H d a):ce c d a:=lw h λ_ _ q=>e.tp b q
def lL.q(e:lL p H c)(h:H a=ac):lL p H (aN c a o):=λb u d q=>%[bI<|dn q h|e b u d q]
def jq.J{p l:ab}(b:jq H p)(h:l≠p):jq (aN H l o) p:=let ⟨x,y,e,k⟩:=b;(x,y,%[bI h.symm|e],k)
def jq.q(b:jq H p)(h:H l=ac):jq (aN H l o) p:=b.F<|aM.q h
inductive IG(K:aT)(vs:List ak)(H:ag)(Q:aR)(E':cy):Prop
 |a:∀(l:ab)(ns:Ζ),(vs=[.ref l,.int 0])->(bJ K H l<|ns.map ak.int)->(∀n,Q (.int n) H)->IG K vs H Q E'
def acp:cR ["script","k"] ["script","k"] (bD Jd):=1#0
def ad8(F:cz K "_law_cell_at" "_law_cell_at" Jd f b)(B:iU mg):cp P w K mg base aZ 1 f b ["script","k"] (IG K):=by
 show F.q acp λg A a s H h Q E i=>?_;rintro⟨l,c,rfl,d,k⟩;show(_,bm (hH (fJ wP 7#1 (dO fU O B.a jd<|aq 7#0 aC)<|eV _) (bx<|cE<|bP ft 7#0 7#1 2#0) hC)<|bx<|cE aS,?_);show(_,O,_,O,l,_,O,.inl d,_,_,O,O,_,O,?_);show oh (λe=>?_) (λe=>?_);cases c with
 |nil=>have:=gP e;simp at this
 |cons n c=>show(_,O,_,O,l,_,_,_,O,O,d,bX (j:=0) O,k n)
 show k 0
inductive IH(vs:List ak)(H:ag)(Q:aR)(E':cy):Prop
 |a:∀n,(vs=[.int n])->(∀p x y,H p=ac->Rq x y->Q 6#p (aN H p<|.lst [.int x,.int y]))->IH vs H Q E'
def acq:cR ["cell"] ["cell"] (bD Je):=1#0
def ad9(F:cz K "_law_box" "_law_box" Je f e):cp P w K mg base aZ 1 f e ["cell"] IH:=by
 show F.q acq λh A a s H i Q E j=>?_;rintro⟨n,rfl,k⟩;show(_,bm (hH (fJ On 7#0 (cu GC aS aS)<|eV _) (bx<|cE<|jm<|aq (cu mN 7#0<|cu GC aS aS)<|aq aS aC) hC)
 <|bx<|cE<|jm<|aq (cu p_ (cu jN (cu s_ (cu p_ 7#0<|cu GC aS aS) aS) aS) aS)<|aq aS aC,?_)
 let b:Pp 10 18:=(ξ,ξ,ξ);let c:(10:Int) ^ (18:Int).toNat=1000000000000000000:=ξ;show(_,O,_,_,O,O,b,_,_,O,O,_,O,?_);show oh (λg=>?_) (λg=>?_);show(_,O,_,_,O,O,b,_,_,O,O,dq 0#0,λp d=>k p _ 0 d (?_,.inl O))
 have:=gP g;lk
 show(_,O,_,_,O,O,b,_,_,O,O,(by change(0:Int)<10 ^ (18:Int).toNat;rw[c];decide),_,_,O,O,.inr (ξ,ξ),_,_,O,O,_,_,O,O,(by change(0:Int)<2147483629;decide),dq 0#0,λp d=>k p _ 1 d (?_,.inr (O,?_)));show sA _ ξ
 have:=sC (n%10 ^ (18:Int).toNat*69621+7001) (show(0:Int)<2147483629 from ξ)
 lk
inductive Dt(vs:List ak)(H:ag)(Q:aR)(E':cy):Prop
 |a:∀p m,(vs=[.ref p,.int m])->(jq H p)->(0<m)->(m<1073741824)->(∀r H',0<=r->r<m->lL p H H'->jq H' p->Q (.int r) H')->Dt vs H Q E'
def IK:cR ["box","most","found","mixed"] ["box","most"] (bD IN):=1#0
def adi(F:cz K "_law_take" "_law_take" IN f r):cp P w K mg base aZ 1 f r ["box","most"] Dt:=by
 show F.q IK λI A n s H U Q E W=>?_;rintro⟨p,m,rfl,⟨x,y,c,t,d⟩,a,L,k⟩;show(_,bm (hH (fJ qa (bP ft 7#0 aS 2#0) aS<|eV _)
   (bm (ck (i:=2) IK.a O (av O)<|cu p_ (bP ft 7#0 aS 2#0)<|ai 1)
   (bm (wK (cu Oo (bP ft 7#0 aS 2#0)<|ai 1)<|wM 7#0 aS wI)
  <|bx<|cE<|ai 2)) hC)
  (bm (ck (i:=3) IK.a O (av O)<|cu p_ (cu jN (cu jN (cu s_ (bP ft 7#0 aS 2#0)<|bP ft 7#0 aS 2#0)<|cu s_ aS<|bP ft 7#0 aS 2#0) aS) aS)
  (bm (wK (cu p_ (cu jN (cu jN (cu s_ 7#3<|ai 3)<|cu s_ aS<|ai 3) aS) aS)<|wM 7#0 aS wI)
 <|bx<|cE<|cu p_ (cu Oo (bP ft 7#0 aS 2#0) aS)<|ai 1)),?_)
 let g:oj ([.int x,.int y]:List ak) 0=aa (.int x):=bX (j:=0) O;let M:oj ([.int x,.int y]:List ak) 1=aa (.int y):=bX (j:=1) O;show(_,O,p,_,_,_,O,O,bJ.q c,M,O,_,O,?_);show oh (λv=>?_) (λv=>?_);show(_,O,p,_,_,_,O,O,bJ.q c,g,_,O,_,_,O,O,a,?_);show(_,O,p,_,_,_,O,O,bJ.q c,g,_,O,_,_,O,O,(a,L),_,O,p,_,_,0,O,O,c,O,?_);show(_,O,k (x%m) _ (sA _ ω) (sC _ a) (λb o h e=>%[bI h|e]) (x / m,y,aI,Uo t ω,?_));obtain q|⟨q,B⟩:=d;show .inl q;show .inr (q,Int.lt_of_le_of_lt (Int.ediv_le_self _ t) B);let N:y=1/\x<4294967296:=by
  obtain q|q:=d;show bo (by subst q;rfl) v;show q
 let(rfl,B):=N;let h:xj x x:=.inl (ω,ω);show(_,O,p,_,_,_,O,O,bJ.q c,g,_,O,p,_,_,_,O,O,bJ.q c,g,_,_,O,O,h,_,O,p,_,_,_,O,O,bJ.q c,g,_,_,O,O,.inl (ξ,ξ),_,_,O,O,_,_,O,O,_,_,O,O,(by change(0:Int)<2147483647;decide),?_);let R:=sA (x*x+39373*x+12345) (show(2147483647:Int)≠0 from ξ);let S:=sC (x*x+39373*x+12345) (show(0:Int)<2147483647 from ξ);obtain⟨z,C⟩:∃z,z=(x*x+39373*x+12345)%2147483647:=(_,O);rw[<-C] at R S;change Nt _ _ _ ([aa<|.ref p,aa<|.int m,ac,aa<|.int<|(x*x+39373*x+12345)%2147483647]:aY) H;rw[<-C];show(_,O,_,O,_,_,O,O,.inl (ω,ω),_,O,_,_,O,O,.inl (ξ,ξ),_,_,O,O,_,_,O,O,_,_,O,O,(by change(0:Int)<2147483587;decide),_,O,p,_,_,0,O,O,c,O,?_);let D:=sA (z*z+16807*z+7) (show(2147483587:Int)≠0 from ξ);let T:=sC (z*z+16807*z+7) (show(0:Int)<2147483587 from ξ);obtain⟨u,G⟩:∃u,u=(z*z+16807*z+7)%2147483587:=(_,O);rw[<-G] at D T;let l:aN H p (.lst [.int<|(z*z+16807*z+7)%2147483587,.int 1]) p=aa (.lst [.int u,.int 1]):=%[G|aI]
 show(_,O,p,_,_,_,O,O,bJ.q l,bX (j:=0) O,_,_,O,O,(ξ,ξ),_,O,_,_,O,O,a,?_);show k _ _ (sA _ ω) (sC _ a) (λb o h e=>%[bI h|e]) (u,1,l,D,.inr (O,ω))
abbrev IY:b_:=f_ 74
abbrev DO:b_:=f_ 75
def nA:List aB:=(["","0","01 12 02","012 013 023 123","01 02 03","012 023 034 014","0123","01 23 45","012 34"]:List aB)++(["012 123 234 034 014","01 12 23 03 13","012 013 014","0 1 2 3"]:List aB)++(["01 12 02 34 45 35","023 234 1"]:List aB)
++(["014 015 023 025 034 123 124 135 245 345","012 013 024 034 125 135 245 345"]:List aB)++(["01234","0123 0124 0134 0234 1234"]:List aB)++(["013 123 234 024 014 145 125 025 056 016 126 267 027 037 345 356 367"]:List aB)
def ry(n:Nat):List aB:=Ey (nA.getD n "") " "
def tN(x:aB):Ζ:=x.cps.toList.map λ(c:Nat)=>((c:Int)-48)
def mU(n:Nat):Ξ:=((ry n).filter λ(x:aB)=>!aJ (x="")).map tN
def aer:∀n,n<20->(nA.getD n "").length+2<=1000/\(ry n).length<=20/\∀x∈ry n,x.cps.size<=5/\∀c∈x.cps.toList,48<=c/\c<=57:=δ
def ab7:∀c,48<=c->c<=57->Kb ⟨#[c]⟩=aa ((c:Int)-48):=by
 intro c a b;have:∀c,c<58->48<=c->Kb ⟨#[c]⟩=aa ((c:Int)-48):=δ;show this c (ï b) a
inductive ID(vs:List ak)(H:ag)(Q:aR)(E':cy):Prop
 |a:∀n:Nat,(vs=[.int n])->(n<20)->(∀D as H',aM H H'->H D=ac->H' D=aa (.lst<|as.map ak.ref)->ce H' as (mU n)->Q 6#D H')->ID vs H Q E'
def tM:cR ["number","some","web","word"] ["number"] (bD IY):=1#0
def ab6{f:ag}{x:aB}{Q:aR}(u:x.cps.size<=5)(m:∀c∈x.cps.toList,48<=c/\c<=57)(l:f D=ac)(k:∀a,aM f a->a D=aa (.lst<|(tN x).map ak.int)->Q 6#D a):eY (CK x) (de 0) gB (sV (λo H Q=>∃x n,o=[.str x]/\Kb x=aa n/\x.length<=640/\Q (.int n) H)<|eO (bZ 0) iw) [ac] f D Q:=by
 show Zf (λj h g a=>∃v,h=[v]/\aM f a/\a D=aa (.lst g)/\g=((tN x).take j).map ak.int) ?_ ?_ ?_;show(ac,O,aM.q l,aI,O);rintro j h g a c p q r ⟨v,rfl,i,b,rfl⟩;let d:x.cps.toList[j]?=aa c:=by simpa using p
 let(s,t):=m c<|dL d;show jD ?_;show(_,O,⟨#[c]⟩,_,O,ab7 c s t,by change 1<=640;decide,gH (dq (â u)) q r b (_,O,i.F l,aI,?_));let e:(tN x)[j]?=aa ((c:Int)-48):=by ext tN;rw[ca,d];rfl
 rw[fO e,cH];rfl;rintro h g a ⟨v,rfl,i,b,rfl⟩;rw[eF (by ext tN;simp)] at b;show k a i b
def ad1(F:cz K "_law_known" "_law_known" IY f fd)(B:iU mg):cp P w K mg base aZ 1 f fd ["number"] ID:=by
 show F.q tM λa8 A Y s H vs Q E hr=>?_;rintro⟨n,rfl,hn,k⟩;show(_,bm (ck (i:=1) tM.a O (av O)<|jm<|aq jb<|aq jb<|aq jb<|aq jb<|aq jb<|aq jb<|aq jb<|aq jb<|aq jb aC)
  (bm (ck (i:=1) tM.a O (av O)<|cu wQ 7#1<|jm<|aq jb<|aq jb<|aq jb<|aq jb aC)
  (bm (ck (i:=1) tM.a O (av O)<|cu wQ 7#1<|jm<|aq jb<|aq jb aC)
  (bm (ck (i:=1) tM.a O (av O)<|cu wQ 7#1<|jm<|aq jb<|aq jb aC)
  (bm (ck (i:=1) tM.a O (av O)<|cu wQ 7#1<|jm<|aq jb<|aq jb aC)
  (bm (pa<|pZ vR yl AG uH 7#1<|aq jb aC)
  (bm (ck (i:=2) tM.a O (av O)<|jm aC)
  (bm (jB iW O (gg<|pZ PySem.F.plainAttrs_str Kv PySem.F.type_str_split Yb (bP ft 7#1 (cu p_ 7#0 aS) 2#0)<|aq jb aC) (cx (i:=3) tM.a O<|av O)
   (bx (hH (fJ sY 7#3 jb<|eV _)
    (bx (pa (pZ vR yl AG uH 7#2 (aq (nu Cq O B.e Ju (aq
     (fq ["number","some","web","word"] ["sign"] [ac] (XE<|ai 3) (λcl C h j c=>cx (i:=0) (dM ["sign"]) O<|av O) (λcl C h j c=>eU)
      (λcl C h j c=>nu Zn O B.int afu<|aq 7#0 aC) (hfr:=nv δ)) aC)) aC)))) hC)))
 <|bx<|cE<|ai 2))))))),?_)
 let a9:nA.length=20:=O;let Z:oj (nA.map ak.str) ((n:Int)%20)=aa (.str<|nA.getD n ""):=by
  rw[show(n:Int)%20=(n:Int) from ω];show bX ?_;let e:nA[n]?=aa nA[n]:=bu (à hn (æ a9));rw[ca,co,e];rfl
 let(g1,g2,g3):=aer n hn;show(dq 0#0,λl1 h1=>?_);let s1:=aM.q (H:=H) (o:=.lst [.str "",.str "0",.str "01 12 02",.str "012 013 023 123",.str "01 02 03",.str "012 023 034 014",.str "0123",.str "01 23 45",.str "012 34"]) h1;show(_,O,dq 0#0,λm1 L=>(l1,m1,_,_,O,O,aM.q L _ _ aI,aI,dq 0#0,λl2 h2=>?_));let s2:=(s1.trans<|aM.q L).trans<|aM.q (o:=.lst<|(nA.take 13).map ak.str) h2;show(_,O,dq 0#0,λm2 M=>(l2,m2,_,_,O,O,aM.q M _ _ aI,aI,dq 0#0,λl3 h3=>?_));let s3:=(s2.trans<|aM.q M).trans<|aM.q (o:=.lst<|(nA.take 15).map ak.str) h3;show(_,O,dq 0#0,λm3 N=>(l3,m3,_,_,O,O,aM.q N _ _ aI,aI,dq 0#0,λl4 h4=>?_));let s4:=(s3.trans<|aM.q N).trans<|aM.q (o:=.lst<|(nA.take 17).map ak.str) h4;show(_,O,dq 0#0,λm4 p=>(l4,m4,_,_,O,O,aM.q p _ _ aI,aI,dq 0#0,λl h5=>?_));let s5:=(s4.trans<|aM.q p).trans<|aM.q (o:=.lst<|(nA.take 19).map ak.str) h5;let a0:H l=ac:=(s4.trans<|aM.q p).J h5;show(_,O,.inl (O,_,bJ.q aI),l,_,_,O,O,aI,pz 0#0,dq 0#0,λd r=>?_);generalize R:aN (aN _ l _) l _=S at r;let e6:S l=aa (.lst<|nA.map ak.str):=by rw[<-R,aI];rfl
 let s6:aM H S:=by
  rw[<-R];show s5.F a0
 let u:H d=ac:=s6.J r;let s7:aM H (aN S d<|.lst []):=s6.F u;let e7:aN S d (.lst []) l=aa (.lst<|nA.map ak.str):=aM.q r _ _ e6;show(_,O,_,O,_,_,O,O,(by change(0:Int)<20;decide),l,_,_,_,O,O,bJ.q e7,Z,O,_,_,O,O,ξ,dq (â g1),dq (show(ry n).length<=100000 from (â g2)),λD hD=>(D,O,(_,bJ.q aI),?_));let T:d≠D:=dn (H:=aN S d<|.lst []) aI hD;let a1:H D=ac:=s7.J hD;show qc (K:=K) (a:=D) (xs:=(ry n).map ak.str) (λi W g=>∃m v,W=[aa<|.int n,aa<|.ref l,aa<|.ref d,v]/\aM H g/\g D=aa (.lst<|(ry n).map ak.str)/\g d=aa (.lst<|m.map ak.ref)/\ce g m ((((ry n).take i).filter λ(x:aB)=>!aJ (x="")).map tN))
  ([],ac,O,s7.F a1,aI,%[bI T|aI],.nil) (λi W g _ (_,_,_,_,q,_)=>bJ.q q) ?_ ?_
 rintro i x W g U ⟨m,v,rfl,X,G,b,I⟩;rw[ca] at U;cases c:(ry n)[i]? with
 |none=>rw[c] at U;cases U
 |some y=>
  rw[c] at U;obtain rfl:=cX U;let hi:i<(ry n).length:=(dN.mp c).1;let(y5,yc):=g3 y<|dL c;show(_,O,O,_,O,?_);cases hy:y="";subst hy;show gi (m,_,O,X,G,b,?_);rw[fO c,nP,cH];simpa using I;rw[show(!aJ (ak.str y=ak.str ""))=ap from by simp[hy]];show gG (_,O,.inl (O,_,bJ.q b),_,O,y,O,λD2 a2=>fu<|ab6 y5 yc a2 λH3 a3 a4=>(D2,_,O,.inl (bJ.q a4,λt a5=>?_)));let V:aM g (aN H3 t<|.tup<|(tN y).map ak.int):=a3.trans<|aM.q a5;let a6:=I.length;let a7:m.length<=20:=by
   rw[a6,aA];show aL (rZ _ _) (by rw[gf];lk)
  show(d,_,_,O,O,V _ _ b,pz %[aA|â a7],(m++[t],_,O,(X.trans V).F u,?_,by rw[aI,cH];rfl,?_));rw[bI T.symm];show V _ _ G;rw[fO c,nP,cH,show [y].filter (λ(x:aB)=>!aJ (x=""))=[y] by simp[hy]];show tO (ce.F (V.A0 I) aI) (V _ _ b) (by intro xs z;cases z)
 rintro W g ⟨m,v,rfl,X,G,b,I⟩;rw[aA,qk] at I;show(_,O,k d m g X u b I)
def gN(a b:Int)(c:Ζ):Ζ:=c.map λx=>a+b*x
inductive IB(vs:List ak)(H:ag)(Q:aR)(E':cy):Prop
 |a:∀p l as pss,(vs=[.ref p,.ref l])->(jq H p)->(H l=aa (.lst<|as.map ak.ref))->(ce H as pss)->(pss.length<=20)->((∀ps∈pss,ps.length<=10))->(∀D bs qss first gap H',lL p H H'->jq H' p->H D=ac->H' D=aa (.lst<|bs.map ak.ref)->ce H' bs qss->0<=first->first<12->1<=gap->gap<=3->qss.Perm (pss.map<|gN first gap)->Q 6#D H')->IB vs H Q E'
def zY:cR ["box","web","gap","first","found","piece"] ["box","web"] (bD DO):=1#0
def acw{b c:Int}{Q:aR}(p:gI h a g)(w:g.length<=10)(y:1<=c/\c<=3)(o:h D=ac)(k:∀f,aM h f->f D=aa (.lst<|(gN b c g).map ak.int)->Q 6#D f):eY (uP K a) (de 0) gB (eM (kf λi j=>.int<|i+j) (bZ 1)<|eM (kg xj λi j=>.int<|i*j) (bZ 2)<|bZ 0) [ac,aa<|.int b,aa<|.int c] h D Q:=by
 show Ze (xs:=g.map ak.int) (λj n l f=>∃v,n=[v,aa<|.int b,aa<|.int c]/\aM h f/\f D=aa (.lst l)/\l=((gN b c g).take j).map ak.int) ?_ ?_ ?_ ?_;show(ac,O,aM.q o,aI,O);rintro j n l f ⟨v,rfl,m,d,rfl⟩;show gr.q<|m.tp p;rintro j n l f x r s t ⟨v,rfl,m,d,rfl⟩;let(q,u,rfl):=DT r;show jD ?_;show(_,O,_,O,_,O,_,_,O,O,.inl (ω,ω),_,_,O,O,gH %[aA|dq (â w)] s t d (_,O,m.F o,aI,?_));let e:(gN b c g)[j]?=aa (b+c*q):=by ext gN;rw[ca,u];rfl
 rw[fO e,cH];rfl;rintro n l f ⟨v,rfl,m,d,rfl⟩;rw[eF (by ext gN;simp)] at d;show k f m d
def adx(F:cz K "_law_named" "_law_named" DO f fd)(B:iU mg)(Z:bW P w K mg base aZ "_law_take" ["box","most"] 1 Dt):cp P w K mg base aZ 2 f fd ["box","web"] IB:=by
 show F.q zY λb7 A a0 s H vs Q E hr=>?_;rintro⟨p,l,as,M,rfl,V,hl,ht,b8,a3,k⟩;show(_,bm (ck (i:=2) zY.a O (aU O)<|cu jN aS<|bv Z hr O bw<|aq 7#0<|aq aS aC)
  (bm (ck (i:=3) zY.a O (aU O)<|bv Z hr O bw<|aq 7#0<|aq aS aC)
  (bm (ck (i:=4) zY.a O (av O)<|jm aC)
  (bm (jB iW O (gg<|ai 1) (cx (i:=5) zY.a O<|av O)
   (bx (pa (pZ vR aiu PySem.F.type_list_insert Yd 7#4
    (aq (bv Z hr O bw<|aq 7#0<|aq (cu jN (dO fU O B.a jd<|aq 7#4 aC) aS) aC)
    (aq (nu Cq O B.e Ju (aq
     (fq ["box","web","gap","first","found","piece"] ["point","first","gap"] [ac,aa 3,aa 2] (Oh<|ai 5) (λcl C m n ex=>cx (i:=0) (dM ["point","first","gap"]) O<|av O) (λcl C m n ex=>eU)
      (λcl C m n ex=>cu jN 7#1<|cu s_ 7#2<|ai 0) (hfr:=gS (bD DO) δ)) aC)) aC))))))
 <|bx<|cE<|ai 4))),?_)
 show(_,O,p,3,O,V,ξ,ξ,λo H1 a1 a2 a4 a5=>(_,_,O,O,?_));show(_,O,p,12,O,a5,ξ,ξ,λq H2 c1 c2 a6 N=>(dq 0#0,λD hD=>?_));let d:=a4.trans a6;let g:H D=ac:=d.F V N hD;let R:l≠p:=V.ne hl;let a7:=ht.length;show(_,O,l,O,(_,bJ.q<|(d.q g) _ _ R hl),qc (K:=K) (a:=l) (xs:=as.map ak.ref) (λi W u=>∃G b v,W=[aa<|.ref p,aa<|.ref l,aa<|.int<|1+o,aa<|.int q,aa<|.ref D,v]/\lL p H u/\jq u p/\u D=aa (.lst<|G.map ak.ref)/\ce u G b/\b.Perm ((M.take i).map<|gN q<|1+o))
  ([],[],ac,O,d.q g,N.q hD,aI,.nil,List.Perm.nil) (λi W u _ (_,_,_,_,sb,_)=>bJ.q<|sb _ _ R hl) ?_ ?_)
 rintro i x W u hx ⟨G,b,v,rfl,h,e,c,X,S⟩;let(a,ea,rfl):=mp hx;let(I,L,a8):=ht.q ea;let hi:i<M.length:=(dN.mp L).1;let b9:=X.length;let c0:b.length=i:=by rw[S.length_eq,aA,gf];lk
 let T:D≠p:=e.ne c;show(_,O,.inl (O,_,bJ.q c),_,O,_,O,D,_,O,.inl<|bJ.q c,_,_,O,O,p,_,O,e,by rw[aA];lk,by rw[aA];lk,λr H4 r0 a9 j b0=>?_);rw[aA] at a9;let y:gI H4 a I:=(h.trans j).tp V a8;show(_,O,a,O,(_,gr.q y),λD2 b1=>fu<|acw y (a3 I<|dL L) (ω,ω) b1 λH5 b2 b3=>(D2,_,O,.inl (bJ.q b3,λt b4=>?_)));let Y:aM H4 (aN H5 t<|.tup<|(gN q (1+o) I).map ak.int):=b2.trans<|aM.q b4;let b5:=j _ _ T c;let U:=Y _ _ b5;let b6:=b0.F Y;show(D,_,r,_,O,O,U,r0,by rw[aA];lk,pz (by rw[aA];lk),(G.take r.toNat++t::G.drop r.toNat,b.take r.toNat++gN q (1+o) I::b.drop r.toNat,_,O,((h.trans j).trans<|lL.J Y).q g,b6.J T,?_,?_,?_));rw[aI,cH,fg,EY,uk];let tq:=Y.A0<|j.A0 e X;show tO (ce.A1 (tq.A0 _)<|.cons aI<|tq.J _) U (by intro xs z;cases z);rw[fO L,cH];let h1:(b.take r.toNat++gN q (1+o) I::b.drop r.toNat).Perm (gN q (1+o) I::b):=by
  have:=List.perm_middle (a:=gN q (1+o) I) (l₁:=b.take r.toNat) (l₂:=b.drop r.toNat)
  rwa [yx] at this
 show h1.trans<|(akm _ _).symm.trans<|List.Perm.append_right _ S;rintro W u ⟨G,b,v,rfl,h,e,c,X,S⟩;rw[aA,a7,qk] at S;show(_,O,k D G b q (1+o) u h e g c X c1 c2 ω ω S)
abbrev IM:b_:=f_ 76
def qp(a:Ζ):List (bi×ak):=(cr a).map λn=>(ahl ((bF n:bi)) (ak.c ap))
def aej(a:Ζ):(qp a).length<=a.length:=by ext qp;rw[aA];show sO a
def ac2(a:Ζ)(n:Int):fo (qp a) (bF n) (.c ap)=qp (a++[n]):=by
 ext fo qp;rw[za];let c:(((cr a).map λn=>(ahl ((bF n:bi)) (ak.c ap))).any λd=>aJ<|d.1=bF n)=aJ (n∈cr a):=by
  rw[Ui];cases h:n∈cr a;rw[cN h,Lw];show(n,h,by simp);rw[dD h,Lx];intro q b;erw[qK,jx,Sum.inl.injEq];rintro rfl;show h b
 rw[c];cases h:n∈cr a;rw[cN h,aw O,aw h,dC];show iZ λq b=>?_;erw[qK];split<;>rfl;rw[dD h,ar 0#0,ar h,cH];rfl
def aev(a:Ζ):((qp a).map λb=>dT b.1)=(cr a).map ak.int:=by ext qp;rw[dC];rfl
def acr{c:Ζ}(f:c.Pairwise (·<=·))(g:c.Nodup):iA c=ap:=by
 rw[JA];intro i a b h j;let(d,k):=dN.mp h;let(e,l):=dN.mp j;let m:=ui.mp f i (i+1) d e ß;let n:=ui.mp g i (i+1) d e ß;rw[k,l] at m n;lk
def Jy(a:Ξ):Prop:=a.Nodup/\∀b∈a,b≠[]/\b.length<=4/\iA b=ap/\∀x∈b,0<=x/\x<=5
def xR(b:Ξ):Prop:=(∃n,n<20/\b=mU n)\/(b.length<=5/\Jy b)
def Ea(d:Ξ):Prop:=∃b a c,xR b/\0<=a/\a<12/\1<=c/\c<=3/\d.Perm (b.map<|gN a c)
def QT:∀n,n<20->(mU n).length<=20/\∀a∈mU n,a≠[]/\a.length<=5:=δ
def afo(h:xR b):b.length<=20/\∀a∈b,a≠[]/\a.length<=5:=by
 obtain⟨n,c,rfl⟩|⟨g,d⟩:=h;show QT n c;show((â g),λa e=>?_);let(f,i,ϟ):=d.2 a e;show(f,(â i))
inductive Ir(vs:List ak)(H:ag)(Q:aR)(E':cy):Prop
 |a:∀p,(vs=[.ref p])->(jq H p)->(∀D bs qss H',lL p H H'->jq H' p->H D=ac->H' D=aa (.lst<|bs.map ak.ref)->ce H' bs qss->Ea qss->Q 6#D H')->Ir vs H Q E'
def xL:cR ["box","found","k","some","j","piece"] ["box"] (bD IM):=1#0
def adf(F:cz K "_law_web" "_law_web" IM f fd)(B:iU mg)(Ct:bW P w K mg base aZ "_law_take" ["box","most"] 1 Dt)(Cn:bW P w K mg base aZ "_law_named" ["box","web"] 2 IB)(Ck:bW P w K mg base aZ "_law_known" ["number"] 1 ID):cp P w K mg base aZ 3 f fd ["box"] Ir:=by
 show F.q xL λe4 A c9 s H vs Q E hr=>?_;rintro⟨p,rfl,hb,k⟩;let hu:=pf hr;let b7:=hr.units;let I:fF 1 _:=hr.q ξ;show(_,bm (hH (fJ qa (bv Ct I O bw<|aq 7#0<|aq aS aC) aS<|eV _)
   (bx<|cE<|bv Cn hr O bw<|aq 7#0<|aq (bv Ck I O bw<|aq (bv Ct I O bw<|aq 7#0<|aq aS aC) aC) aC) hC)
  (bm (ck (i:=1) xL.a O (av O)<|jm aC)
  (bm (jB iW O (sX O B.b<|aq (bv Ct I O bw<|aq 7#0<|aq aS aC) aC) (cx (i:=2) xL.a O<|av O)
   (bm (ck (i:=3) xL.a O (av O) zo)
   (bm (jB iW O (sX O B.b<|aq (cu jN aS<|bv Ct I O bw<|aq 7#0<|aq aS aC) aC) (cx (i:=4) xL.a O<|av O)
   <|bx<|qW hu 7#3 (bv Ct I O bw<|aq 7#0<|aq aS aC) pe O)
   (bm (ck (i:=5) xL.a O (av O)<|nu Cq O B.e Ju<|aq (dO Zh O B.d Rj<|aq (nu (Zl O) O B.list DY<|aq 7#3 aC) aC) aC)
  <|bx<|hH (fJ (XS<|Yy b7) 7#5 7#1 (by with_unfolding_all rfl)) (bx<|pa<|pZ vR yl AG uH 7#1<|aq 7#5 aC) hC))))
 <|bx<|cE<|bv Cn hr O bw<|aq 7#0<|aq 7#1 aC)),?_)
 show(_,O,p,2,O,hb,ξ,ξ,λr H1 r0 r1 a9 Y=>(O,_,O,?_));show oh (λh1=>?_) (λh1=>?_);show(_,O,_,O,p,20,O,Y,ξ,ξ,λn H2 n0 n1 d0 d1=>?_);let(m,rfl):=Int.eq_ofNat_of_zero_le n0;show(m,O,ω,λD M H3 b8 e5 hD ht=>?_);let(g1,g2):=QT m ω;let U:=(a9.trans d0).trans<|lL.J b8;let Z:=d1.F b8;show(p,D,M,mU m,O,Z,hD,ht,g1,λps hp=>by have:=(g2 ps hp).2;show â this,λD' bs b0 u b1 H4 v l b2 d2 N c1 c2 c3 c4 C=>?_);show k D' bs b0 H4 (U.trans v) l (U.F hb Z b2) d2 N (mU m,u,b1,.inl (m,ω,O),c1,c2,c3,c4,C);show(dq 0#0,λL hL=>?_);let b9:H L=ac:=a9.F hb Y hL;show(_,O,p,6,O,Y.q hL,ξ,ξ,λr6 H3 a1 a2 U Z=>(r6,O,ω,ω,?_));let a0:L≠p:=jq.ne (as:=[]) (Y.q hL) aI;let c0:lL p H H3:=(a9.q b9).trans U;show OD (lo:=0) (n:=r6.toNat) (λi σ H4=>∃M g v2 v3 v4 v5,σ=[aa<|.ref p,aa<|.ref L,v2,v3,v4,v5]/\lL p H H4/\jq H4 p/\H4 L=aa (.lst<|M.map ak.ref)/\ce H4 M g/\Jy g/\g.length<=i)
  ([],[],ac,ac,ac,ac,O,c0,Z,U _ _ a0 aI,.nil,(pK,λps h=>nomatch h),aE _) ?_ ?_
 rintro i σ H4 hi ⟨M,g,v2,v3,v4,v5,rfl,v,l,a3,N,R,c5⟩;let e6:=N.length;intro d hd;let c6:H d=ac:=v.F hb l hd;let d3:L≠d:=dn a3 hd;show(_,O,p,4,O,l.q hd,ξ,ξ,λr4 H5 e1 e2 S b3=>(_,_,O,O,_,O,ω,ω,?_));let a4:d≠p:=by
  let(x,y,e,ϟ):=l.q (o:=.a []) hd;show md aI e (by intro z;cases z)
 let s4:=aM.q (o:=.a []) hd;show OD (lo:=0) (n:=(1+r4).toNat) (λj σ X=>∃c v4,σ=[aa<|.ref p,aa<|.ref L,aa<|.int<|0+i,aa<|.ref d,v4,v5]/\lL p H X/\jq X p/\X L=aa (.lst<|M.map ak.ref)/\ce X M g/\X d=aa (.a<|qp c)/\c.length=j/\∀x∈c,0<=x/\x<=5)
  ([],_,O,(v.q c6).trans S,b3,S _ _ a0<|s4 _ _ a3,S.A0 (l.q hd)<|s4.A0 N,S _ _ a4 aI,O,λx h=>nomatch h) ?_ ?_
 rintro j σ X hj ⟨c,v4,rfl,b4,a5,G,V,a6,a7,b5⟩;show(_,O,_,O,p,6,O,a5,ξ,ξ,λr H7 f1 f2 q a8=>(d,_,O,zH.k (k:=bF r) (q _ _ a4 a6)<|pz (by have:=aej c;lk),(c++[r],_,O,(b4.trans q).q c6,a8.J a4,?_,?_,#v[aI,ac2],by rw[eE,a7];rfl,?_)));rw[bI d3];show q _ _ a0 G;show tO (q.A0 a5 V) (q _ _ a4 a6) (by intro xs z;cases z);intro x hx;obtain hx|hx:=fz.mp hx;show b5 x hx;rw[gW] at hx;subst hx;lk;rintro σ X ⟨c,v4,rfl,b4,a5,G,V,a6,a7,b5⟩;show(_,O,d,_,O,a6,λl2 d4=>(l2,cr c,O,bJ.q #v[aI,aev],(by have:=sO c;lk),λD2 T hp hs d5=>(D2,_,O,.inl (bJ.q aI,λt d6=>?_))));let W:aM X (aN (aN (aN X l2<|.lst<|(qp c).map λkv=>dT kv.1) D2<|.lst<|T.map ak.int) t<|.tup<|T.map ak.int):=((aM.q d4).trans<|aM.q d5).trans<|aM.q d6;generalize d7:aN (aN (aN X l2<|.lst<|(qp c).map λkv=>dT kv.1) D2<|.lst<|T.map ak.int) t (.tup<|T.map ak.int)=H7 at W;let c7:gI H7 t T:=by rw[<-d7];show aI
 let q:=b4.trans<|lL.J W;let a8:=a5.F W;show(_,O,_,O,t,L,T,M,g,O,O,c7,bJ.q<|W _ _ G,W.A0 V,_,O,?_);let d8:T≠[]/\T.length<=4/\iA T=ap/\∀x∈T,0<=x/\x<=5:=by
  show(λz=>?_,?_,acr hs<|hp.nodup_iff.mpr<|y_ c,λx hx=>b5 x<|(pY c x).mp<|hp.mem_iff.mp hx);let h0:cr c=[]:=by rw[z] at hp;show(List.nil_perm.mp hp)
  cases hq:c with
  |nil=>rw[hq] at a7;simp at a7;lk
  |cons x r=>
   have:=(pY c x).mpr %[hq|fy];rw[h0] at this;cases this
  have:=sO c
  rw[hp.length_eq];lk
 cases b6:T∈g;rw[cN b6];show gi (M,g,_,_,_,_,O,q,a8,W _ _ G,W.A0 V,R,(í c5));rw[dD b6];show gG (_,O,.inl (O,_,bJ.q<|W _ _ G),_,O,L,_,_,O,O,W _ _ G,pz (by rw[aA];lk),(M++[t],g++[T],_,_,_,_,O,q.q b9,a8.J a0,by rw[aI,cH];rfl,tO (ce.F (W.A0 V) c7) (W _ _ G) (by intro xs z;cases z),(?_,?_),by rw[eE];simp;show c5));rw[mB];show(R.1,by simp,λa ha b c8 e=>?_);rw[gW] at c8;subst c8;subst e;show b6 ha;intro ps d9;obtain h|h:=fz.mp d9;show R.2 ps h;rw[gW] at h;subst h;show d8;rintro σ H4 ⟨M,g,v2,v3,v4,v5,rfl,v,l,a3,N,R,c5⟩;show(_,O,_,O,p,L,M,g,O,l,a3,N,ω,λps hp=>by have:=(R.2 ps hp).2.1;show â this,λD' bs b0 u b1 H5 S b3 b2 e0 e3 c1 c2 c3 c4 C=>?_);show k D' bs b0 H5 (v.trans S) b3 (v.F hb l b2) e0 e3 (g,u,b1,.inr (ω,R),c1,c2,c3,c4,C)
def afy(b:Ξ):Prop:=b.Nodup/\b.length<=17/\(∀a∈b,a≠[]/\a.length<=5/\iA a=ap/\∀x∈a,0<=x/\x<=7)/\(b.flatMap dr).length<=200
def aet:∀n,n<20->(mU n).Nodup/\(mU n).length<=17/\(∀a∈mU n,a≠[]/\a.length<=5/\iA a=ap/\∀x∈a,0<=x/\x<=7)/\((mU n).flatMap dr).length<=200:=δ
def Rb{m:Nat}:∀{b:Ξ},(∀a∈b,(dr a).length<=m)->(b.flatMap dr).length<=m*b.length
 |[],_=>by simp
 |p::r,h=>by
  let d:=h p fy;let e:=Rb (b:=r) λq c=>h q<|gF _ c;rw[AW,eE,dI,Nat.mul_succ];lk
def afp(h:xR b):afy b:=by
 obtain⟨n,f,rfl⟩|⟨l,c⟩:=h;show aet n f;show(c.1,(â l),λa d=>?_,?_);let(g,e,i,j):=c.2 a d;show(g,(â e),i,λx k=>by have:=j x k;lk)
 have:=Rb (m:=15) (b:=b) λa d=>by
  rw[Af];let e:=(c.2 a d).2.1;have:2 ^ a.length<=2 ^ 4:=iD ξ e;lk
 lk
def acy{a b:Int}(c:1<=b){p q:Ζ}(h:gN a b p=gN a b q):p=q:=by
 unfold gN at h;show(Lj (f:=λx=>a+b*x) (λx y e=>?_)).mp h;have:b*x=b*y:=ω;show Int.eq_of_mul_eq_mul_left ω this
def acx{g f:Int}(m:0<=g)(n:g<12)(o:1<=f)(j:f<=3){p:Ζ}(h:p≠[]/\p.length<=5/\iA p=ap/\∀x∈p,0<=x/\x<=7):kP (gN g f p)=ap:=by
 let(a,b,c,d):=h;rw[rE];ext gN;show(λz=>a<|akr.mp z,%[aA|b],λy k=>?_,?_);let(x,l,rfl):=aW.mp k
 have:=d x l;let i:f=1\/f=2\/f=3:=ω
 obtain rfl|rfl|rfl:=i<;>lk;rw[Ae] at c;rw[kC];show c.imp λ{x y} e=>?_;have:f*x<f*y:=Int.mul_lt_mul_of_pos_left e ω;lk
def Re{q:Ξ}(h:Ea q):gO q=ap/\q.Nodup/\q.length<=17:=by
 let(b,a,d,k,l,m,g,f,c):=h;let(i,n,o,s):=afp k;let t:q.length<=17:=%[c.length_eq,aA|n]
 let j:q.Nodup:=by
  rw[c.nodup_iff];unfold dz at i ⊢;rw[kC];show i.imp λ{x y} e z=>e<|acy g z
 show(afz (â t) j (λp u=>?_) ?_,j,t);let(r,v,rfl):=aW.mp<|c.mem_iff.mp u;show acx l m g f<|o r v;show aL (sO _) ?_;rw[(c.flatMap_right dr).length_eq];have:∀b:Ξ,((b.map<|gN a d).flatMap dr).length=(b.flatMap dr).length:=by
  intro b;induction b with
  |nil=>rfl
  |cons p r w=>
   rw[fg,AW,AW,eE,eE,w,Af,Af];ext gN;rw[aA]
 rw[this];show s
def aes:∀n,n<20->(cr<|(mU n).flatMap dr).length<=56:=δ
def tJ:Ξ:=(dr [0,1,2,3,4,5]).filter λq=>aJ<|q.length<=4
def ab5:tJ.length=56:=δ
def afr(h:xR b):(cr<|b.flatMap dr).length<=56:=by
 obtain⟨n,c,rfl⟩|⟨j,d⟩:=h;show aes n c;rw[<-ab5];show(y_ _).length_le_of_subset λx a=>?_;rw[pY,mC] at a;let(p,e,a):=a;let(ϟ,k,f,g):=d.2 p e;rw[kQ] at a;let l:=a.2.length_le;ext tJ;rw[ff,kQ];show((a.1,a.2.trans<|xS _ _ ξ ((Ae p).mp f) λy i=>?_),cN (à l k));have:=g y i;have:y=0\/y=1\/y=2\/y=3\/y=4\/y=5:=ω;obtain rfl|rfl|rfl|rfl|rfl|rfl:=this<;>decide
def afa{q:Ξ}(h:Ea q):(cr<|q.flatMap dr).length<=56:=by
 let(b,c,f,i,ϟ,ϟ,ϟ,ϟ,j):=h;show aL ?_<|afr i;let e:((cr<|b.flatMap dr).map<|gN c f).length=(cr<|b.flatMap dr).length:=aA _;rw[<-e];show(y_ _).length_le_of_subset λx d=>?_;rw[pY,mC] at d;let(p,k,d):=d;let(r,l,rfl):=aW.mp<|j.mem_iff.mp k;rw[kQ] at d;let(g,a):=d;unfold gN at a;let(y,m,rfl):=akl.mp a;show aW.mpr (y,?_,O);rw[pY,mC];show(r,l,kQ.mpr (λz=>g (by rw[z];rfl),m))
def nz(a:Ξ):Prop:=gO a=ap/\(bK a).length<64
abbrev IX:b_:=f_ 17
abbrev IS:b_:=f_ 18
def QK:∀{a:List (Ζ×ab)},(∀q∈a,gI H q.2 q.1)->ce H (a.map (·.2)) (a.map (·.1))
 |[],_=>.nil
 |q::r,h=>.cons (h q fy) (QK λx b=>h x<|gF _ b)
def abv(t:Rp H b a D c):∃f,aM H b/\H D=ac/\b D=aa (.lst<|f.map ak.ref)/\ce b f (bK a):=by
 let(g,h,d,i,j,k):=t;let e:c.map (·.1)=bK a:=agj j<|kC.mpr k;show(c.map (·.2),g,h,by rw[d,dC];rfl,?_);rw[<-e];show QK i
inductive xJ(K:aT)(vs:List ak)(H:ag)(Q:aR)(E':cy):Prop
 |a:∀l as pss,(vs=[.ref l])->(bJ K H l<|as.map ak.ref)->(ce H as pss)->(nz pss)->(∀D H2 bs,aM H H2->H D=ac->H2 D=aa (.lst<|bs.map ak.ref)->ce H2 bs (bK pss)->Q 6#D H2)->xJ K vs H Q E'
def acf:cR ["web"] ["web"] (bD IS):=1#0
def ack:cR ["web"] ["web"] (bD IX):=1#0
inductive Dx(K:aT)(vs:List ak)(H:ag)(Q:aR)(E':cy):Prop
 |a:∀l as pss,(vs=[.ref l])->(bJ K H l<|as.map ak.ref)->(ce H as pss)->(nz pss)->(∀H2,aM H H2->Q .non H2)->Dx K vs H Q E'
def adz(F:cz K "must_be_web" "must_be_web" IX f d)(g:bW P w K mg base aZ "is_web" ["web"] 6 (IE K)):cp P w K mg base aZ 7 f d ["web"] (Dx K):=by
 show F.q ack λh A a s H p Q E i=>?_;rintro⟨l,j,b,rfl,m,n,e,k⟩;show(_,bx<|hH (wJ<|zk<|bv g i O bw<|aq 7#0 aC) Od hC,?_);show(_,O,l,j,b,O,m,n,(λ_=>by rw[<-vq];show e.2),λo c=>(_,O,?_));rw[e.1];show gi<|k o c
def adt{j:cm}(F:cz K "pieces" "pieces" IS f j)(q:bW P w K mg base aZ "must_be_web" ["web"] 7 (Dx K))(r:bW P w K mg base aZ "all_parts" ["some"] 5 (DD K)):cp P w K mg base aZ 8 f j ["web"] (xJ K):=by
 show F.q acf λu A c s H C Q E m=>?_;rintro⟨l,n,b,rfl,o,p,d,k⟩;let e:fF 5 _:=m.q ξ;show(_,bm (pa<|bv q m O bw<|aq 7#0 aC)
 <|bx<|cE<|bv r e O bw<|aq 7#0 aC,?_)
 let(g,ϟ,v,ϟ):=vn d.1;show(_,O,l,n,b,O,o,p,d,λG a=>?_);show(_,O,l,n,b,O,a.A1 o,a.A0 p,v,g,(by rw[<-vq];show d.2),λD x I t=>?_);let(y,h,z,i,B):=abv t;show k D x y (a.trans h) (a.J z) i B
abbrev DL:b_:=f_ 9
def aff(a:List ak)(i:Nat)(h:i<=a.length):jO a ac (aa (i:Int))=a.take i:=by
 ext jO;rw[xW,vr,AQ h,Lu,EU]
def afg(a:List ak)(i:Nat)(h:i<=a.length):jO a (aa (i:Int)) ac=a.drop i:=by
 ext jO;rw[xW,vr,AQ h];show eF %[lX|aE _]
abbrev Qw:bp:=eM BS (ze BP (bZ 1) zg<|zf<|bZ 0)<|ze BP (bZ 1) (zf<|eM (kf λi j=>.int<|i+j) (bZ 0)<|jM<|.int 1) zg
abbrev QH(K:aT):List ak->ag->aR->Prop:=BQ K
def acs{Q:aR}(u:gI g a b)(E:b.length<=5)(w:g D=ac)(k:∀(c:ag)(d:List ab),aM g c->c D=aa (.lst<|d.map ak.ref)->ce c d ((aP b.length).map λk=>b.take k++b.drop (k+1))->Q 6#D c):eY (lC 0 b.length) (de 0) gB Qw [ac,aa<|.ref a] g D Q:=by
 show xd (λj s p c=>∃(v:Option ak)(d:List ab),s=[v,aa<|.ref a]/\aM g c/\c D=aa (.lst p)/\p=d.map ak.ref/\ce c d (((aP b.length).map λk=>b.take k++b.drop (k+1)).take j)) ?_ ?_ ?_;show(ac,[],O,aM.q w,aI,O,.nil);rintro j s p c x y ⟨v,d,rfl,h,f,rfl,q⟩;let e:((aP b.length).map λk=>b.take k++b.drop (k+1))[j]?=aa (b.take j++b.drop (j+1)):=by rw[ca,jX x];rfl
 show jD ?_;show(_,O,_,O,_,O,a,_,O,h.tp u,λA G i l=>(_,O,_,O,_,_,O,O,_,O,a,_,O,i _ _<|h.tp u,λB H m n=>?_));rw[show(0:Int)+((j:Nat):Int)=((j:Nat):Int) from ω,aff _ _ %[aA|ì x],<-EY] at l;rw[show(0:Int)+((j:Nat):Int)+1=((j+1:Nat):Int) from ω,afg _ _ %[aA|x],<-uk] at n;show(A,B,_,_,O,O,m _ _ l,n,dq (by simp;lk),λC I t o=>?_);rw[<-cH] at o;let r:=(i.trans m).trans t;show gH (dq (â E)) x y (r _ _ f) (_,d++[C],O,(h.trans r).F w,aI,by rw[cH];rfl,?_);rw[fO e];show tO (ce.F (r.A0 q) o) (r _ _ f) (by intro K z;cases z);rintro s p c ⟨v,d,rfl,h,f,rfl,q⟩;rw[eF 0#0] at q;show k c d h f q
inductive Iw(vs:List ak)(H:ag)(Q:aR)(E':cy):Prop
 |b:∀a ps,(vs=[.ref a])->(gI H a ps)->(ps.length<=5)->(∀D H2(bs:List ab),aM H H2->H D=ac->H2 D=aa (.lst<|bs.map ak.ref)->ce H2 bs (ga ps)->Q 6#D H2)->Iw vs H Q E'
def ace:cR ["piece"] ["piece"] (bD DL):=1#0
def ado{m:cm}(F:cz K "rims_of" "rims_of" DL f m)(B:iU mg):cp P w K mg base aZ 1 f m ["piece"] Iw:=by
 show F.q ace λp A g s H x Q E y=>?_;rintro⟨a,h,rfl,j,q,k⟩;show(_,bm (hH (fJ qa (dO fU O B.a jd<|aq 7#0 aC) aS<|eV _) (bx<|cE<|jm aC) hC)
  (bx (cE (fq ["piece"] ["k","piece"] [ac,aa 0] (sX O B.b<|aq (dO fU O B.a jd<|aq 7#0 aC) aC) (λn C b c o=>cx (i:=0) (dM ["k","piece"]) O<|av O) (λn C b c o=>eU)
   (λn C b c o=>cu Op (pd NC 7#1 mL<|mK<|ai 0)<|pd NC 7#1 (mK<|cu jN 7#0 aS) mL) (hfr:=gS (bD DL) δ) (te:=Qw)))),?_)
 show(_,O,a,_,O,.inr<|gr.q j,O,_,O,?_);rw[aA];cases e:h.length=1;rw[show aJ (ak.int (h.length:Int)=ak.int 1)=ap from cN (by rw[e];rfl)];show gG (dq 0#0,λD d=>k D _ [] (aM.q d) d aI ?_);ext ga;rw[aw e];show .nil;rw[show aJ (ak.int (h.length:Int)=ak.int 1)=aH from dD λG=>e (by injection G with G;lk)];show gi (_,O,a,_,O,.inr<|gr.q j,_,O,by rw[aA];lk,by rw[aA];lk,λD d=>?_);rw[aA];show fu<|acs j q d λr t u l v=>k D r t u d l ?_;ext ga;rw[ar e];show v
abbrev DI:b_:=f_ 25
abbrev IP:b_:=f_ 26
def QW(h:gI H b a):H b=aa (.tup<|(a.map bF:List bi).map dT):=%[dC|h]
abbrev dE:Type:=List<|Ζ×Int
def cW(a:dE):Ξ:=a.map (·.1)
def gz(a:dE):List (List bi×ak):=a.map λc=>(ahl ((c.1.map bF:List bi)) (ak.int c.2))
def mo(a:dE)(b:Ζ)(n:Int):dE:=if b∈cW a then a.map (λc=>if c.1=b then(ahl c.1 n) else c) else a++[(ahl b n)]
def DU(a:dE):(gz a).length=a.length:=aA _
def aeq(a:dE):(cW a).length=a.length:=aA _
def Jh(b:dE)(a:Ζ)(n:Int):fo (gz b) (a.map bF) (.int n)=gz (mo b a n):=by
 ext fo gz mo;let f:((b.map λc=>(ahl ((c.1.map bF:List bi)) (ak.int c.2))).any λg=>aJ<|g.1=a.map bF)=aJ (a∈cW b):=by
  rw[Ui];cases h:a∈cW b;rw[cN h,Lw];let(c,d,e):=aW.mp h;show(c,d,cN<|qY.mpr e);rw[dD h,Lx];intro c d;erw[qK,jx,qY];rintro rfl;show h<|aW.mpr (c,d,O)
 rw[f];cases h:a∈cW b;rw[cN h,aw O,aw h,dC,dC];show iZ λc d=>?_;erw[qK];cases e:c.1=a;rw[aw e,aw<|qY.mpr e];rw[ar e,ar (λz=>e<|qY.mp z)];rw[dD h,ar 0#0,ar h,cH];rfl
def ac6(a:dE)(b:Ζ)(n:Int):cW (mo a b n)=if b∈cW a then cW a else cW a++[b]:=by
 ext mo;cases h:b∈cW a;rw[aw h,aw h];ext cW;rw[dC];show iZ λc _=>?_;erw[qK];split<;>rfl;rw[ar h,ar h];ext cW;rw[cH];rfl
def ac3(d:Ζ)(n:Int)(h:(cW c).Nodup):(cW<|mo c d n).Nodup:=by
 rw[ac6];cases e:d∈cW c;rw[aw e];show h;rw[ar e,mB];show(h,by simp,λa g b f z=>?_);rw[gW] at f;subst f;subst z;show e g
def ac5(a:dE)(b:Ζ)(n:Int):(mo a b n).length<=a.length+1:=by
 ext mo;split;rw[aA];show ü;rw[eE];simp
def Qm:∀{b:dE},(cW b).Nodup->∀c∈b,gR (gz b) (c.1.map bF)=aa (.int c.2)
 |[],_,c,a=>bo a 0#0
 |d::b,h,c,a=>by
  let e:(d.1::cW b).Nodup:=h;rw[kD] at e;ext gR gz;rw[fg,sn];obtain rfl|a:=ci.mp a;rw[cN O];rfl;let f:¬d.1.map bF=(c.1.map bF:List bi):=λz=>e.1 %[qY.mp z|aW.mpr (c,a,O)];rw[dD f];show Qm e.2 c a
abbrev xO(c:Ζ×Int):Bool:=!aJ (ak.int c.2=ak.int 0)
def Jz(H:ag)(t:ab)(c:Ζ×Int):Prop:=∃b,H t=aa (.tup [.ref b,.int c.2])/\gI H b c.1
def kt(H:ag)(a:List ab)(b:dE):Prop:=gD (Jz H) a b
def kt.J(h:kt H c d)(s:aM H a):kt a c d:=lw h λ_ _ (b,e,f)=>(b,s _ _ e,s.tp f)
def kt.length(h:kt H a b):a.length=b.length:=m_ h
def kt.F(h:kt H e f)(g:H d=aa a)(i:∀l,a≠.tup l):kt (aN H d o) e f:=
 lw h λt c (b,j,k)=>(b,%[bI<|md j g λz=>i _ z.symm|j],by change aN H d o b=_;rw[bI<|md (show H b=aa _ from k) g λz=>i _ z.symm];show k)
def kt.A0{t:ab}(h:kt H a b)(q:Jz H t c):kt H (a++[t]) (b++[c]):=EH h q
def kt.q:∀{a:List ab}{b:dE}{i:Nat}{t:ab},kt H a b->a[i]?=aa t->∃c,b[i]?=aa c/\Jz H t c
 |_,_,0,_,.cons h _,e=>by cases e;show(_,O,h)
 |_,_,i+1,_,.cons _ t,e=>kt.q (i:=i) t 5#e
def ii(a:dE)(q:Ζ):Int:=((a.find? λc=>aJ<|c.1=q).map (·.2)).getD 0
def Qn(a:dE)(q:Ζ):(gR (gz a)<|q.map bF).getD (.int 0)=.int (ii a q):=by
 ext gR ii gz;induction a with
 |nil=>rfl
 |cons c r b=>
  rw[fg,sn,sn];cases e:c.1=q;rw[cN e,cN<|qY.mpr e];rfl;rw[dD e,dD (λz=>e<|qY.mp z)];show b
def Jx(a:dE)(t:Ζ×Int):dE:=mo a t.1<|ii a t.1+t.2
def nB(a:dE):dE:=a.foldl Jx []
def QD(a:dE):dE:=(nB a).filter xO
def Iq(a:dE)(t:Ζ×Int):nB (a++[t])=Jx (nB a) t:=by ext nB;rw[um];rfl
def Jm{b:Type}{P:List b->Prop}(d:P [])(e:∀l x,P l->P (l++[x]))(l:List b):P l:=by
 have:∀n,∀l:List b,l.length=n->P l:=by
  intro n;induction n with
  |zero=>intro l a;rw[jv a];show d
  |succ n f=>
   intro l a;let c:l≠[]:=λz=>by rw[z] at a;simp at a
   rw[<-alb c];show e _ _<|f _ (by rw[List.length_dropLast];lk)
 show this _ l O
def ab2(a:dE):(cW<|nB a).Nodup:=Jm (P:=λa=>(cW<|nB a).Nodup) pK (λl x h=>%[Iq|ac3 _ _ h]) a
def QC(a:dE):(nB a).length<=a.length:=Jm (P:=λa=>(nB a).length<=a.length) (aE _) (λl x h=>by
 rw[Iq,eE];have:=ac5 (nB l) x.1<|ii (nB l) x.1+x.2;ext Jx;simp;show à this (ï h)) a
def ac4{q:Ζ}(v:Int)(h:q∉cW a):mo a q v=a++[(ahl q v)]:=by ext mo;rw[ar h]
def kq(k:Nat)(n:Int):Int:=if(k:Int)%2=0 then n else -n
def iT(a:Ζ)(n:Int):dE:=(ga a).zipIdx.map λq=>(ahl q.1 (kq q.2 n))
abbrev Qv:bp:=BL<|eO (bZ 1)<|eO (Nv (wH<|eM Gx (eM (kg (λ_ j=>0<j) λi j=>.int<|i%j) (bZ 0)<|jM<|.int 2)<|jM<|.int 0) (bZ 2)<|Gu (zi λi=>.int<|-i)<|bZ 2) iw
def abx{l:ag}{B:List ab}{w:Ξ}{n:Int}{Q:aR}(I:l L=aa (.lst<|B.map ak.ref))(S:ce l B w)(hz:w.length<=1000)(T:l D=ac)(k:∀(b:ag)(c:List ab),aM l b->b D=aa (.lst<|c.map ak.ref)->kt b c (w.zipIdx.map λq=>(ahl q.1 (kq q.2 n)))->Q 6#D b):eY (uQ K L) (kI K 2<|fM (de 0)<|fM (de 1) kJ) gB Qv [ac,ac,aa<|.int n] l D Q:=by
 let M:=S.length;show ti B.length (λj m g b=>∃(s u:Option ak)(c:List ab),m=[s,u,aa<|.int n]/\aM l b/\b D=aa (.lst g)/\g=c.map ak.ref/\kt b c ((w.zipIdx.map λq=>(ahl q.1 (kq q.2 n))).take j)) ?_ ?_ ?_ ?_ ?_;show(ac,ac,[],O,aM.q T,aI,O,.nil);rintro m g b ⟨s,u,c,rfl,h,d,rfl,A⟩;show(_,bJ.q<|h _ _ I,#v[aA]);rintro i m g b N ⟨s,u,c,rfl,h,d,rfl,A⟩;show(_,bJ.q<|h _ _ I,%[aA|N]);rintro i m g b x H' N U ⟨s,u,c,rfl,h,d,rfl,A⟩ ⟨p,y,rfl,P,rfl,R⟩;let W:=R _<|bJ.q<|h _ _ I;let(a,X,rfl):=mp W;let(r,Y,Z):=S.q X;let s1:=aM.q (o:=.tup [.int i,.ref a]) P;let e:(w.zipIdx.map λq=>(ahl q.1 (kq q.2 n)))[i]?=aa (ahl r (kq i n)):=by rw[ca,akz,Y];simp
 let hn:B.length<=bE:=dq (â (à (å M) hz));let C:∀(t:ab)(v:Int),v=kq i n->aN b p (.tup [.int i,.ref a]) t=ac->rg B.length (λj m g b=>∃(s u:Option ak)(c:List ab),m=[s,u,aa<|.int n]/\aM l b/\b D=aa (.lst g)/\g=c.map ak.ref/\kt b c ((w.zipIdx.map λq=>(ahl q.1 (kq q.2 n))).take j)) D i [aa<|.int i,aa<|.ref a,aa<|.int n] 6#t (aN (aN b p<|.tup [.int i,.ref a]) t<|.tup [.ref a,.int v]):=by
  intro t v hv f;let G:=s1.trans<|aM.q (o:=.tup [.ref a,.int v]) f;let E:=G _ _ d;show gH hn N U E (_,_,c++[t],O,(h.trans G).F T,aI,by rw[cH];rfl,?_);rw[fO e];show kt.F (kt.A0 (A.J G) (a,#v[aI,hv],G.tp<|h.tp Z)) E (by intro xs z;cases z)
 show(p,_,O,gr.q aI,O,_,_,O,_,_,O,O,sU ?_);show(_,O,_,O,_,_,O,O,(by change(0:Int)<2;decide),O,_,O,?_);cases H:(i:Int)%2=0;rw[cN<|jy ak.int H];show gG (_,O,dq 0#0,λt f=>C t n (by ext kq;rw[aw H]) f);rw[dD (λz=>H (by injection z))];show gi (_,O,_,O,dq 0#0,λt f=>C t (-n) (by ext kq;rw[ar H]) f);rintro m g b ⟨s,u,c,rfl,h,d,rfl,A⟩;rw[M,eF %[aA,aks|aE _]] at A;show k b c h d A
inductive Ds(vs:List ak)(H:ag)(Q:aR)(E':cy):Prop
 |b:∀a ps n,(vs=[.ref a,.int n])->(gI H a ps)->(ps.length<=5)->(∀D H2(ts:List ab),aM H H2->H D=ac->H2 D=aa (.lst<|ts.map ak.ref)->kt H2 ts (iT ps n)->Q 6#D H2)->Ds vs H Q E'
def aca:cR ["piece","often"] ["piece","often"] (bD DI):=1#0
def adh{m:cm}(F:cz K "seam_terms" "seam_terms" DI f m)(B:iU mg)(t:bW P w K mg base aZ "rims_of" ["piece"] 1 Iw):cp P w K mg base aZ 2 f m ["piece","often"] Ds:=by
 show F.q aca λu A h s H S Q E v=>?_;rintro⟨a,o,n,rfl,x,y,k⟩;show(_,bx (cE (fq ["piece","often"] ["k","rim","often"] [ac,ac,aa 1] (BW O B.f Rl<|aq (bv t v O bw<|aq 7#0 aC) aC)
  (λp C b c q=>nr O<|hJ (cx (i:=0) (dM ["k","rim","often"]) O<|av O)<|hJ (cx (i:=1) (dM ["k","rim","often"]) O<|av O) nq)
  (λp C b c q=>eU) (λp C b c q=>jC<|aq 7#1<|aq (zm (fJ qa (cu p_ 7#0 aS) aS<|eV _) 7#2<|qX qU<|ai 2) aC)
  (hfr:=gS (bD DI) δ) (g:=kI K 2<|fM (de 0)<|fM (de 1) kJ) (te:=Qv))),?_)
 let z:=af6 o;show(_,O,a,o,O,x,y,λL T U d G e I=>(L,O,(_,bJ.q e),λD r=>fu<|abx e I (â (à z y)) r λM N j l R=>k D M N (d.trans j) (d.J r) l R))
inductive It(K:aT)(vs:List ak)(H:ag)(Q:aR)(E':cy):Prop
 |a:∀l ts cs,(vs=[.ref l])->(bJ K H l<|ts.map ak.ref)->(kt H ts cs)->(cs.length<=1000)->(∀D H',aM H H'->H D=ac->H' D=aa (.b<|gz<|QD cs)->Q 6#D H')->It K vs H Q E'
def xM:cR ["terms","sums","piece","weight","told"] ["terms"] (bD IP):=1#0
def adj(F:cz K "sum_of" "sum_of" IP f fd):cp P w K mg base aZ 1 f fd ["terms"] (It K):=by
 show F.q xM λa9 A a1 s H vs Q E hr=>?_;rintro⟨l,ts,S,rfl,hl,hp,hz,k⟩;let X:=pf hr;let a2:=hp.length;show(_,bm (ck (i:=1) xM.a O (av O) GA)
  (bm (jB iW O (gg<|ai 0) (nr O<|hJ (cx (i:=2) xM.a O<|av O)<|hJ (cx (i:=3) xM.a O<|av O) nq)
  <|bx<|qW X 7#1 7#2 (cu jN (Om X 7#1 7#2 aS (O,O,O,O))<|ai 3) O)
  (bm (ck (i:=4) xM.a O (av O) GA)
  (bm (jB iW O (XG<|ai 1) (cx (i:=2) xM.a O<|av O)
  <|bx<|hH (fJ sY (mM X 7#1 7#2 2#0) aS<|eV _) (bx<|qW X 7#4 7#2 (mM X 7#1 7#2 2#0) O) hC)
 <|bx<|cE<|ai 4))),?_)
 intro d hd;show(_,O,l,O,(_,(aM.q hd).A1 hl),qc (K:=K) (a:=l) (xs:=ts.map ak.ref) (λi r U=>∃(M v3:Option ak),r=[aa<|.ref l,aa<|.ref d,M,v3,ac]/\aM H U/\U d=aa (.b<|gz<|nB<|S.take i))
  (ac,ac,O,aM.q hd,aI) (λi r U _ (_,_,_,G,_)=>G.A1 hl) ?_ ?_)
 rintro i x r U hx ⟨M,v3,rfl,G,n⟩;let(t,et,rfl):=mp hx;let(c,W,b,e1,e2):=hp.q et;let Y:U b=aa (.tup<|(c.1.map bF:List bi).map dT):=%[dC|G.tp e2]
 let p:(gz<|nB<|S.take i).length<bE:=by
  rw[DU];have:=QC<|S.take i;rw[gf] at this;show pz ω
 show(t,_,O,gr.q<|G _ _ e1,O,_,_,O,_,_,O,O,?_);show(_,O,d,O,.inr (_,.inl n),_,O,_,lD.t (k:=c.1.map bF) n Y,?_);rw[Qn];show(_,O,_,_,O,O,_,O,_,O,d,_,O,zH.t (k:=c.1.map bF) n Y p,(_,_,O,G.F hd,?_));rw[aI,Jh,fO W,Iq];rfl;rintro r U ⟨M,v3,rfl,G,n⟩;rw[aA,a2,qk] at n;intro T hT;let N:H T=ac:=G.J hT;let v:d≠T:=dn n hT;let hn:=ab2 S;let a3:=QC S;unfold QD at k;generalize nB S=m at n hn a3 k;show(_,O,d,gz m,O,.inl %[bI v|n],λo H3 a4 I=>YR (λi r L=>∃(M:Option ak),r=[aa<|.ref l,aa<|.ref d,M,v3,aa<|.ref T]/\aM H L/\L d=aa (.frz o<|.b<|gz m)/\L T=aa (.b<|gz<|(m.take i).filter xO))
  (_,O,λb u e=>%[I b<|dn e hd,bI<|dn e N|G _ _ e],a4,%[I T<|cQ v|aI]) (λi r L _ (_,_,_,h,_)=>h) ?_ ?_)
 rintro i kv b r L y hb ⟨M,rfl,B,C,q⟩;let hi:i<m.length:=by
  have:=(dN.mp y).1;rw[DU] at this;show this
 let W:m[i]?=aa m[i]:=bu hi;obtain rfl:(ahl (((m[i]).1.map bF:List bi)) (ak.int (m[i]).2))=kv:=by
  unfold gz at y;rw[ca,W] at y;show cX y
 let Z:m[i]∈m:=dW hi;let a0:(m[i]).1∉cW ((m.take i).filter xO):=λz=>by
  let(c',a5,e'):=aW.mp z;let(j,hj):=AU<|(ff.mp a5).1;let a6:j<i:=by
   have:=(dN.mp hj).1;rw[gf] at this;lk
  rw[Ua a6] at hj;let h1:(cW m)[j]?=aa (m[i]).1:=by ext cW;rw[ca,hj];show jy aa e'
  let h2:(cW m)[i]?=aa (m[i]).1:=by ext cW;rw[ca,W];rfl
  let a7:j<(cW m).length:=%[aeq|à a6 (ì hi)]
  have:=(ak2 a7 hn).mp<|h1.trans h2.symm;show ø a6 (æ this)
 let p:(gz<|(m.take i).filter xO).length<bE:=by
  rw[DU];have:=rZ xO<|m.take i;rw[gf] at this;show pz ω
 let g:lD L d 6#b (aa<|.int (m[i]).2):=.inr (gz m,(m[i]).1.map bF,b,.inr (o,C),O,hb,(Qm hn _ Z).symm);let a8:T≠d:=cQ v;show(_,O,_,O,d,_,O,g,O,_,O,?_);cases D:xO m[i] with
 |true=>
  let R:(!aJ (ak.int (m[i]).2=ak.int 0))=ap:=D;rw[R];show gG (_,O,_,O,d,_,O,g,_,O,_,O,T,_,O,zH.t (k:=(m[i]).1.map bF) q hb p,(_,O,B.F N,%[bI v|C],?_));rw[aI,Jh,ac4 _ a0,fO W,nP,uo D];rfl
 |false=>
  let R:(!aJ (ak.int (m[i]).2=ak.int 0))=aH:=D;rw[R];show gi (_,O,B,C,?_);rw[fO W,nP,sw (by rw[D];decide),Ls,sy];show q
 rintro r L ⟨M,rfl,B,C,q⟩;rw[DU,qk] at q;show(_,O,k T L B N q)
def vk(c:Ζ×Int)(r:dE)(x:Ζ):ii (c::r) x=if c.1=x then c.2 else ii r x:=by
 ext ii;rw[sn];cases e:c.1=x;rw[cN e,aw e];rfl;rw[dD e,ar e]
def Jp:∀{a:dE}{x:Ζ},x∉cW a->ii a x=0
 |[],_,_=>O
 |c::r,x,h=>by
  rw[vk,ar (λz=>h (by ext cW;rw[fg,z];show fy))];show Jp λz=>h<|gF _ z
def QZ(q:Ζ)(v:Int)(x:Ζ):∀a:dE,ii (a.map λc=>if c.1=q then(ahl c.1 v) else c) x=if x=q/\q∈cW a then v else ii a x
 |[]=>by simp[ii,cW]
 |c::r=>by
  rw[fg,vk,vk,QZ q v x r];let b:(q∈cW (c::r))↔(c.1=q\/q∈cW r):=by
   change q∈c.1::cW r↔_;rw[ci];k_in;rintro(h|h);show .inl h.symm;show .inr h;rintro(h|h);show .inl h.symm;show .inr h
  cases e:c.1=q;rw[aw e];cases f:x=q;subst f;rw[aw e,aw (O,b.mpr<|.inl e)];rw[ar (λz=>f<|z.symm.trans e),ar (λz=>f z.1),ar (λz=>f z.1),ar (λz=>f<|z.symm.trans e)];rw[ar e];cases f:c.1=x;rw[aw f,aw f,ar (λz=>e<|f.trans z.1)];rw[ar f,ar f];cases g:x=q/\q∈cW r;rw[aw g,aw (g.1,b.mpr<|.inr g.2)];rw[ar g,ar (λz=>g (z.1,(b.mp z.2).resolve_left e))]
def Q_(q:Ζ)(v:Int)(x:Ζ):∀a:dE,ii (a++[(ahl q v)]) x=if x∈cW a then ii a x else if q=x then v else 0
 |[]=>by simp[ii,cW];split<;>rfl
 |c::r=>by
  rw[List.cons_append,vk,vk,Q_ q v x r];cases e:c.1=x;rw[aw e,aw e,aw (by change x∈c.1::cW r;rw[e];show fy)];rw[ar e,ar e];cases h:x∈cW r;rw[aw h,aw<|show x∈cW (c::r) from gF _ h];let b:¬x∈cW (c::r):=λz=>by
   obtain z|z:=ci.mp (show x∈c.1::cW r from z);show e z.symm;show h z
  rw[ar h,ar b]
def ae5(a:dE)(q:Ζ)(v:Int)(x:Ζ):ii (mo a q v) x=if x=q then v else ii a x:=by
 ext mo;cases h:q∈cW a;rw[aw h,QZ];cases e:x=q;rw[aw (e,h),aw e];rw[ar (λz=>e z.1),ar e];rw[ar h,Q_];cases e:x=q;subst e;rw[ar h,aw O,aw O];rw[ar e];cases g:x∈cW a;rw[aw g];rw[ar g,ar (λz=>e z.symm),Jp g]
def mT(a:dE)(x:Ζ):Int:=(a.map λc=>if c.1=x then c.2 else 0).sum
def abt(a:dE)(t:Ζ×Int)(x:Ζ):mT (a++[t]) x=mT a x+if t.1=x then t.2 else 0:=by
 ext mT;rw[cH,Ld];simp
def Qr(a:dE)(t:Ζ×Int)(x:Ζ):mT (t::a) x=(if t.1=x then t.2 else 0)+mT a x:=by ext mT;rw[fg,pJ]
def Jq:∀{b:dE},(cW b).Nodup->∀c∈b,ii b c.1=c.2
 |[],_,c,h=>bo h 0#0
 |d::r,h,c,g=>by
  let f:(d.1::cW r).Nodup:=h;rw[kD] at f;rw[vk];obtain e|a:=ci.mp g;rw[e,aw O];rw[ar (λz=>f.1 %[z|aW.mpr (c,a,O)])];show Jq f.2 c a
def Qp{a:dE}{x:Ζ}(h:∀t∈a,t.1≠x):mT a x=0:=by
 induction a with
 |nil=>rfl
 |cons t r b=>rw[Qr,ar<|h t fy,b λu c=>h u<|gF _ c];rfl
def rA(b:dE):dE:=b.foldl (λa t=>mo a t.1 t.2) []
def Ra:∀(b a:dE),(gz b).foldl (λa c=>fo a c.1 c.2) (gz a)=gz (b.foldl (λa t=>mo a t.1 t.2) a)
 |[],_=>O
 |t::r,a=>by
  change(gz r).foldl _ (fo (gz a) (t.1.map bF)<|.int t.2)=_;rw[Jh];show Ra r _
def ae6(a:dE):zu (gz a)=gz (rA a):=Ra a []
def afd(x:Ζ)(a:dE):(cW a).Nodup->ii (rA a) x=mT a x:=Jm (P:=λa=>(cW a).Nodup->ii (rA a) x=mT a x) (λ_=>O) (λl t c h=>by
 let b:(cW l++[t.1]).Nodup:=by
  have:cW (l++[t])=cW l++[t.1]:=by ext cW;rw[cH];rfl
  rw[<-this];show h
 rw[mB] at b;let d:rA (l++[t])=mo (rA l) t.1 t.2:=by ext rA;rw[um];rfl
 rw[d,ae5,abt,c b.1];cases e:x=t.1;rw[aw e,aw e.symm,Qp λu f z=>b.2.2 u.1 (aW.mpr (u,f,O)) t.1 0#0<|z.trans e];lk;rw[ar e,ar (λz=>e z.symm)];lk) a
def DQ{c:Ζ}(h:c.Nodup):(ga c).Nodup:=by
 ext ga;split;show pK;let d:∀j k,j<k->k<c.length->c.take j++c.drop (j+1)≠c.take k++c.drop (k+1):=by
  intro j k f o e;let g:(c.take j++c.drop (j+1))[j]?=(c.take k++c.drop (k+1))[j]?:=#v[e]
  rw[r_ (by rw[gf];lk),sf (by rw[gf];lk),Ua f,Lr,gf,AQ (à (ì f) (ì o))] at g;rw[show j+1+(j-j)=j+1 from ω] at g;have:=(ak2 (à (ï f) o) h).mp g;show ù ß (å this)
 ext dz;rw[kC];show(vZ (n:=c.length)).imp_of_mem λ{a b} l m i e=>?_;rw[bH] at l m;obtain z|z:=KW i;show d a b z m e;show d b a z l e.symm
def xI(a:Ζ)(n:Int):cW (iT a n)=ga a:=by
 ext cW iT;rw[dC];show List.zipIdx_map_fst 0<|ga a
def gT(i:Nat):b_:=PySem.Challenge.pw_seamwright_k36_whole_balance_by_holes.main.body.getD i<|.Pass (0,0,0,0)
abbrev Hy:b_:=gT 30
def rx:gb "len"=aa (.builtin "len"):=δ
def Ie:gb "all"=aa (.builtin "all"):=δ
abbrev dg(H:ag)(b:List ab)(c:Ξ):Prop:=gD (λa d=>H a=aa (.lst<|d.map ak.int)) b c
def gu(a:Ξ):Nat:=(a[0]?.map ah).getD 0
def tD(a:Ξ):Bool:=aJ (a.length<=40)&&aJ (gu a<=40)&&a.all λr=>aJ<|r.length=gu a
def dg.q(h:dg H b c)(s:aM H a):dg a b c:=lw h λ_ _ e=>s _ _ e
def dg.F(h:dg H a b):a.length=b.length:=by
 induction h with
 |nil=>rfl
 |cons _ _ c=>rw[dI,dI,c]
def dg.J(h:dg H b c):∀{j:Nat}{a:ab},b[j]?=aa a->∃d,c[j]?=aa d/\H a=aa (.lst<|d.map ak.int):=by
 induction h with
 |nil=>intro j a e;simp at e
 |cons r t f=>
  intro j a e;cases j with
  |zero=>simp at e;subst e;show(_,O,r)
  |succ j=>simpa using f 5#e
def mQ{n:Nat}(h:n<=100000):n<=bE:=%[iC|â h]
def kM{a:Type}{l:List a}{i:Nat}{x:a}(h:l[i]?=aa x):l.take (i+1)=l.take i++[x]:=by rw[yy,h];rfl
abbrev PM(K:aT):List ak->ag->aR->Prop:=BQ K
def uX{b:List ab}{i:Nat}(h:(b.map ak.ref)[i]?=aa x):∃a,b[i]?=aa a/\x=.ref a:=by
 rw[ca] at h;cases e:b[i]? with
 |none=>rw[e] at h;cases h
 |some a=>rw[e] at h;cases h;show(a,O,O)
def PF{d:ag}{L D:ab}{n:List ab}{f:Ξ}{Q:aR}{s:Type}{mkV:s->ak}{g:Ζ->s}{t:bp}{c:List (Option ak)}(q:∀(o:ab)(h:Ζ)(H:ag)(R:aR),aM d H->H o=aa (.lst<|h.map ak.int)->h∈f->(∀u,aM H u->R (mkV<|g h) u)->t (aa 6#o::c) H R)(z:bJ K d L (n.map ak.ref))(w:dg d n f)(M:f.length<=1000)(y:d D=ac)(k:∀a,aM d a->a D=aa (.lst<|(f.map g).map mkV)->Q 6#D a):eY (ki K L) (de 0) gB t (ac::c) d D Q:=by
 let r:=w.F;show nw (xs:=n.map ak.ref) (λj p i a=>∃(v:Option ak),p=v::c/\aM d a/\a D=aa (.lst i)/\i=((f.take j).map g).map mkV) ?_ ?_ ?_ ?_;show(ac,O,aM.q y,aI,O);rintro j p i a ⟨v,rfl,e,b,rfl⟩;show e.A1 z;rintro j p i a x A B C ⟨v,rfl,e,b,rfl⟩;let(o,E,rfl):=uX A;let(h,l,G):=w.J E;let I:(n.map ak.ref).length<=bE:=%[aA|mQ (by lia)]
 show jD ?_;show q o h a _ e (e _ _ G) (dL l) λN m=>gH I B C (m _ _ b) (_,O,(e.trans m).F y,aI,?_);rw[kM l,cH,cH];rfl;rintro p i a ⟨v,rfl,e,b,rfl⟩;rw[aA,r,eF<|aE _] at b;show k a e b
inductive CO(K:aT)(vs:List ak)(H:ag)(Q:aR)(E':cy):Prop
 |a:∀L rs tb,(vs=[.ref L])->(bJ K H L<|rs.map ak.ref)->(dg H rs tb)->(Q (.int<|gu tb) H)->CO K vs H Q E'
def ZV:cR ["table"] ["table"] (bD Hy):=1#0
def aad(F:cz K "width_of" "width_of" Hy f h)(i:mg "len"=ac):cp P w K mg base aZ 1 f h ["table"] (CO K):=by
 show F.q ZV λp A c s H u Q E v=>?_;rintro⟨L,l,m,rfl,n,o,k⟩;show(_,bx<|cE<|zm (fJ uG (dO fU O i rx<|aq 7#0 aC) aS<|eV _) (dO fU O i rx<|aq (bP ft 7#0 aS 2#0) aC) aS,?_);show(_,O,L,_,O,.inl n,_,_,O,O,_,O,?_);let d:=o.F;show oh (λg=>?_) (λg=>?_);cases l with
 |nil=>have:=gP g;simp at this
 |cons a r=>
  let(q,e,t):=o.J (j:=0) O;show(_,O,L,_,_,_,O,O,n,bX (j:=0) O,a,_,O,.inl<|bJ.q t,?_);have:gu m=q.length:=by ext gu;rw[e];rfl
  rw[this] at k;rw[aA];show k
 cases l with
 |cons a r=>have:=oT<|Us.mpr g;simp at this
 |nil=>
  cases m with
  |nil=>show k
  |cons a b=>cases d
abbrev CY:b_:=gT 32
abbrev HB:b_:=gT 33
abbrev HP:b_:=gT 34
abbrev Db:b_:=gT 35
abbrev Dc:b_:=gT 36
def dg.A1{D:ab}(h:dg H a b):(∀d∈a,d≠D)->dg (aN H D o) a b:=by
 induction h with
 |nil=>intro _;show .nil
 |cons r t c=>intro n;show .cons %[bI<|n _<|fy|r]<|c λd e=>n d<|gF _ e
def dg.A3{c:Ζ}(h:dg H a b)(e:H d=aa (.lst<|c.map ak.int)):dg H (a++[d]) (b++[c]):=by
 induction h with
 |nil=>show .cons e .nil
 |cons r t f=>show .cons r f
def dg.A0(h:dg H b c):∀d∈b,H d≠ac:=by
 induction h with
 |nil=>intro d a;cases a
 |cons r t e=>
  intro d a;obtain rfl|a:=ci.mp a;rw[r];simp;show e d a
def Dh{f g k:ag}{D d:ab}{u:Ζ}(w:aM f g)(v:dg g c l)(m:c.Nodup)(x:∀e∈c,f e=ac/\e≠D)(n:aM g k)(j:g d=ac)(p:g D≠ac)(y:k d=aa (.lst<|u.map ak.int)):dg (aN k D o) (c++[d]) (l++[u])/\(c++[d]).Nodup/\∀e∈c++[d],f e=ac/\e≠D:=by
 let r:f d=ac:=by
  cases q:f d with
  |none=>rfl
  |some o=>rw[w _ _ q] at j;cases j
 let s:d≠D:=λz=>p<|z▸j;let i:∀e∈c++[d],f e=ac/\e≠D:=λe t=>by
  obtain h|h:=fz.mp t;show x e h;obtain rfl:e=d:=by simpa using h
  show(r,s)
 show(((v.q n).A3 y).A1 λe t=>(i e t).2,?_,i);rw[mB];show(m,by simp,λa A b B=>?_);obtain rfl:b=d:=by simpa using B
 intro z;show v.A0 a A<|z▸j
def xt{r:List ab}{m:Ξ}{Q:aR}{g:Ζ->Ζ}{C:bp}{c:List (Option ak)}(u:∀(o:ab)(n:Ζ)(H:ag)(R:aR),aM e H->H o=aa (.lst<|n.map ak.int)->n∈m->(∀d w,aM H w->H d=ac->w d=aa (.lst<|(g n).map ak.int)->R 6#d w)->C (aa 6#o::c) H R)(I:bJ K e L (r.map ak.ref))(E:dg e r m)(Z:m.length<=1000)(G:e D=ac)(k:∀b a,aM e b->b D=aa (.lst<|a.map ak.ref)->dg b a (m.map g)->a.Nodup->(∀d∈a,e d=ac/\d≠D)->Q 6#D b):eY (ki K L) (de 0) gB C (ac::c) e D Q:=by
 let y:=E.F;show nw (xs:=r.map ak.ref) (λj s p b=>∃(v:Option ak)(a:List ab),s=v::c/\aM e b/\b D=aa (.lst p)/\p=a.map ak.ref/\dg b a ((m.take j).map g)/\a.Nodup/\∀d∈a,e d=ac/\d≠D) ?_ ?_ ?_ ?_;show(ac,[],O,aM.q G,aI,O,.nil,.nil,λd z=>by cases z);rintro j s p b ⟨v,a,rfl,h,_⟩;show h.A1 I;rintro j s p b x M N P ⟨v,a,rfl,h,f,rfl,t,i,A⟩;let(o,S,rfl):=uX M;let(n,q,T):=E.J S;let B:(r.map ak.ref).length<=bE:=%[aA|mQ (â (à (å y) Z))]
 show jD ?_;show u o n b _ h (h _ _ T) (dL q) λd H4 l z U=>?_;let(W,X,Y):=Dh (D:=D) (o:=.lst<|a.map ak.ref++[.ref d]) h t i A l z (by rw[f];simp) U;show gH B N P (l _ _ f) (_,a++[d],O,(h.trans l).F G,aI,by simp,?_,X,Y);rw[kM q,cH];show W;rintro s p b ⟨v,a,rfl,h,f,rfl,t,i,A⟩;rw[aA,y,eF<|aE _] at t;show k b a h f t i A
def PT{n:Nat}{Q:aR}{g:Nat->Ζ}{y:bp}{c:List (Option ak)}(r:∀(j:Nat)(H:ag)(R:aR),j<n->aM h H->(∀d s,aM H s->H d=ac->s d=aa (.lst<|(g j).map ak.int)->R 6#d s)->y (aa (.int j)::c) H R)(I:n<=1000)(z:h L=ac)(k:∀b a,aM h b->b L=aa (.lst<|a.map ak.ref)->dg b a ((aP n).map g)->a.Nodup->(∀d∈a,h d=ac/\d≠L)->Q 6#L b):eY (lC 0 n) (de 0) gB y (ac::c) h L Q:=by
 show xd (λj t p b=>∃(v:Option ak)(a:List ab),t=v::c/\aM h b/\b L=aa (.lst p)/\p=a.map ak.ref/\dg b a (((aP n).take j).map g)/\a.Nodup/\∀d∈a,h d=ac/\d≠L) ?_ ?_ ?_;show(ac,[],O,aM.q z,aI,O,.nil,.nil,λd u=>by cases u);rintro j t p b w A ⟨v,a,rfl,m,f,rfl,q,i,x⟩;let e:(aP n)[j]?=aa j:=jX w;show jD ?_;rw[show(0:Int)+((j:Nat):Int)=((j:Nat):Int) from ω];show r j b _ w m λd K l u B=>?_;let(C,E,G):=Dh (D:=L) (o:=.lst<|a.map ak.ref++[.ref d]) m q i x l u (by rw[f];simp) B;show gH (mQ (â I)) w A (l _ _ f) (_,a++[d],O,(m.trans l).F z,aI,by simp,?_,E,G);rw[kM e,cH];show C;rintro t p b ⟨v,a,rfl,m,f,rfl,q,i,x⟩;rw[eF 0#0] at q;show k b a m f q i x
def dR(a:Ξ)(k:Nat):Ζ:=a.map λr=>r.getD k 0
inductive CU(K:aT)(vs:List ak)(H:ag)(Q:aR)(E':cy):Prop
 |a:∀L rs tb,∀k:Nat,(vs=[.ref L,.int k])->(bJ K H L<|rs.map ak.ref)->(dg H rs tb)->(tb.length<=1000)->((∀r∈tb,k<r.length))->(∀D H',aM H H'->H D=ac->H' D=aa (.lst<|(dR tb k).map ak.int)->Q 6#D H')->CU K vs H Q E'
def ν:cR ["table","k"] ["table","k"] (bD Dc):=1#0
def aa2(F:cz K "column_of" "column_of" Dc f l):cp P w K mg base aZ 1 f l ["table","k"] (CU K):=by
 show F.q ν λx A d s H S Q E T=>?_;rintro⟨L,U,V,X,rfl,m,y,z,B,k⟩;show(_,bx (cE (fq ["table","k"] ["row","k"] [ac,aa 1] (gg<|ai 0) (λn C a b p=>cx (i:=0) (dM ["row","k"]) O<|av O) (λn C a b p=>eU)
  (λn C a b p=>bP ft 7#0 7#1 2#0) (te:=eM (uF K) (bZ 0)<|bZ 1) (hfr:=gS (bD Dc) δ))),?_)
 show(_,O,L,O,(_,m),λD q=>?_);show fu<|PF (mkV:=ak.int) (g:=λr=>r.getD X 0) (λo t u R W G I M=>?_) m y z q λN e h=>k D N e q h;let c:=B t I;show(_,O,_,O,o,_,_,_,O,O,bJ.q G,bX (j:=X) (v:=ak.int<|t.getD X 0) ?_,M u<|aM.refl u);rw[ca,bu c,co,bu c];rfl
def turn(a:Ξ):Ξ:=(aP<|gu a).map<|dR a
def ZQ(h:tD a=ap):a.length<=40/\gu a<=40/\∀r∈a,r.length=gu a:=by
 unfold tD at h;erw[lb,jx,lY] at h;show(h.1.1,h.1.2,h.2)
def ve(H:ag)(Q:aR)(c:Ξ):Prop:=∀D a b,aM H a->H D=ac->a D=aa (.lst<|b.map ak.ref)->dg a b c->b.Nodup->(∀d∈b,H d=ac/\d≠D)->Q 6#D a
inductive zI(K:aT)(vs:List ak)(H:ag)(Q:aR)(E':cy):Prop
 |a:∀L rs tb,∀n:Nat,(vs=[.ref L,.int n])->(bJ K H L<|rs.map ak.ref)->(dg H rs tb)->(tb.length<=1000)->(n<=1000)->((∀r∈tb,n<=r.length))->(ve H Q<|(aP n).map<|dR tb)->zI K vs H Q E'
def ι:cR ["table","width"] ["table","width"] (bD Db):=1#0
def aa0{q:cm}(F:cz K "columns_to" "columns_to" Db f q)(B:mg "range"=ac)(G:bW P w K mg base aZ "column_of" ["table","k"] 1 (CU K)):cp P w K mg base aZ 2 f q ["table","width"] (zI K):=by
 show F.q ι λI A c s H vs Q E e=>?_;rintro⟨L,M,t,n,rfl,N,S,hz,u,T,k⟩;show(_,bx (cE (fq ["table","width"] ["k","table"] [ac,aa 0] (sX O B<|aq 7#1 aC) (λv C a b x=>cx (i:=0) (dM ["k","table"]) O<|av O) (λv C a b x=>eU)
  (λv C a b x=>bv G e O bw<|aq 7#1<|aq 7#0 aC) (te:=mJ (CU K) [] mP<|eO (bZ 1)<|eO (bZ 0) iw) (hfr:=gS (bD Db) δ))),?_)
 show(_,O,_,O,ω,ω,λD y=>?_);show PT (n:=n) (g:=dR t) (λj H' R U z V=>(_,O,_,O,L,M,t,j,O,z.A1 N,S.q z,hz,λr e=>fm U<|T r e,λd W h X Y=>V d W h X Y)) u y λZ ds l m o p u=>k D Z ds l y m o p u
inductive xp(K:aT)(vs:List ak)(H:ag)(Q:aR)(E':cy):Prop
 |a:∀L rs tb,(vs=[.ref L])->(bJ K H L<|rs.map ak.ref)->(dg H rs tb)->(tD tb=ap)->(ve H Q<|turn tb)->xp K vs H Q E'
def μ:cR ["table"] ["table"] (bD HP):=1#0
def aa1(F:cz K "columns_of" "columns_of" HP f e)(p:mg "len"=ac)(j:bW P w K mg base aZ "columns_to" ["table","width"] 2 (zI K))(l:bW P w K mg base aZ "width_of" ["table"] 1 (CO K)):cp P w K mg base aZ 3 f e ["table"] (xp K):=by
 show F.q μ λm A b s H q Q E a=>?_;rintro⟨L,g,c,rfl,h,i,n,k⟩;let(t,u,o):=ZQ n;let d:fF 1 _:=a.q ξ;show(_,bx<|cE<|bv j a O bw<|aq 7#0<|aq (bv l d O bw<|aq 7#0 aC) aC,?_);show(_,O,_,O,L,g,c,O,h,i,L,g,c,gu c,O,h,i,(â t),(â u),λr a=>%[o r a|aE _],k)
end
def kL(i j:Int):Prop:=∃m n:Nat,i.natAbs<2 ^ m/\j.natAbs<2 ^ n/\m+n<=134217728
def Pq(i j:Int):Prop:=0<j/\j.natAbs<2 ^ 9000
section
variable{X:bj}
def zq:gs X (oE .Mult) (kg kL λi j=>.int<|i*j):=wR λi j _ _ _ _ _ a q=>by
 let(m,n,b,c,d):=a;show mul_int q<|IntMulOk.of_le (intBits_le_iff.mpr b) (intBits_le_iff.mpr c) d
def GD:gs X (oE .FloorDiv) (kg Pq λi j=>.int<|i / j):=wR λi j _ _ _ _ _ a q=>by
 let c:(0:Int)<j:=a.1;show floordiv_int ω %[alo i ω|q]<|.inl<|ajr ?_;let b:j.natAbs≠0:=ω;show(TN b).mpr a.2
end
abbrev C':b_:=gT 50
abbrev C_:b_:=gT 53
def rj{b:Ζ}{i:Nat}(h:(b.map ak.int)[i]?=aa x):∃n,b[i]?=aa n/\x=.int n:=by
 rw[ca] at h;cases e:b[i]? with
 |none=>rw[e] at h;cases h
 |some a=>rw[e] at h;cases h;show(a,O,O)
def va:gb "zip"=aa (.type "zip"):=δ
def jn(c:Ζ)(q:Int)(d:Ζ):Ζ:=fe (λa b=>a-q*b) c d
def mm(p:Int)(c:Ζ)(q:Int)(d:Ζ):Ζ:=fe (λa b=>p*a+q*b) c d
def vf(H:ag)(Q:aR)(b:Ζ):Prop:=∀D a,aM H a->H D=ac->a D=aa (.lst<|b.map ak.int)->Q 6#D a
section
variable{P:bh}{w:ba}{K:aT}{mg:aB->Option ae}{base:aX}
def GW{j:ag}{l h:Ζ}{f:Int->Int->Int}{u:bp}{c:List (Option ak)}{Q:aR}(q:∀(a b:Int)(H:ag)(R:aR),a∈l->b∈h->R (.int<|f a b) H->u (aa (.int a)::aa (.int b)::c) H R)(B:j r=aa (.lst<|l.map ak.int))(C:j o=aa (.lst<|h.map ak.int))(P:h.length<=1000)(v:j D=ac)(k:∀d,aM j d->d D=aa (.lst<|(fe f l h).map ak.int)->Q 6#D d):eY (rf K r o) (kI K 2<|fM (de 0)<|fM (de 1) kJ) gB u (ac::ac::c) j D Q:=by
 show GK (K:=K) (xs:=l.map ak.int) (ys:=h.map ak.int) (λi p m d=>∃s t,p=s::t::c/\aM j d/\d D=aa (.lst m)/\m=((fe f l h).take i).map ak.int)
  (ac,ac,O,aM.q v,aI,O) (λi p m d (_,_,_,w,_)=>(bJ.q<|w _ _ B,bJ.q<|w _ _ C)) ?_ ?_
 rintro i p m d E S T G I L M ⟨s,t,rfl,e,g,rfl⟩ n;let(x,y,rfl):=rj G;let(z,A,rfl):=rj I;show(E,_,O,gr.q aI,O,_,_,O,_,_,O,O,sU ?_);show q x z _ _ (dL y) (dL A)<|gH (aL (yv _ _) %[aA|mQ (â P)]) L M %[bI<|dn g n|g] (_,_,O,?_,aI,?_);show(e.F<|e.J n).F v;let N:(fe f l h)[i]?=aa (f x z):=#v[yz,y,A]
 rw[kM N,cH];rfl;rintro p m d ⟨s,t,rfl,e,g,rfl⟩;show k d e ?_;rw[g,eF 0#0]
inductive xo(vs:List ak)(H:ag)(Q:aR)(E':cy):Prop
 |a:∀r o rn on q,(vs=[.ref r,.int q,.ref o])->(H r=aa (.lst<|rn.map ak.int))->(H o=aa (.lst<|on.map ak.int))->(on.length<=1000)->((∀x∈on,kL q x))->(vf H Q<|jn rn q on)->xo vs H Q E'
def ε:cR ["row","often","other"] ["row","often","other"] (bD C'):=1#0
def aat{m:cm}(F:cz K "less" "less" C' V m)(x:mg "zip"=ac):cp P w K mg base aZ 1 V m ["row","often","other"] xo:=by
 show F.q ε λy A e s H M Q E N=>?_;rintro⟨r,o,S,T,q,rfl,n,p,z,B,k⟩;show(_,bx (cE (fq ["row","often","other"] ["number","taken","often"] [ac,ac,aa 1] (wL O x va<|aq 7#0<|aq 7#2 aC)
  (λt C c d u=>nr O<|hJ (cx (i:=0) (dM ["number","taken","often"]) O<|av O)<|hJ (cx (i:=1) (dM ["number","taken","often"]) O<|av O) nq) (λt C c d u=>eU)
  (λt C c d u=>cu mN 7#0<|cu zq 7#2<|ai 1) (te:=eM (kf λW j=>.int<|W-j) (bZ 0)<|eM (kg kL λW j=>.int<|W*j) (bZ 2)<|bZ 1) (hfr:=gS (bD C') δ) (g:=kI K 2<|fM (de 0)<|fM (de 1) kJ))),?_)
 show(_,O,_,O,r,o,O,(_,bJ.q n),(_,bJ.q p),λD v=>?_);show fu<|GW (f:=λa b=>a-q*b) (λa b U R _ G I=>?_) n p z v λL h l=>k D L h v l;show(_,O,_,O,_,O,_,_,O,O,B b G,_,_,O,O,I)
inductive Hn(vs:List ak)(H:ag)(Q:aR)(E':cy):Prop
 |a:∀r o rn on p q,(vs=[.int p,.ref r,.int q,.ref o])->(H r=aa (.lst<|rn.map ak.int))->(H o=aa (.lst<|on.map ak.int))->(on.length<=1000)->((∀x∈rn,kL p x))->((∀x∈on,kL q x))->(vf H Q<|mm p rn q on)->Hn vs H Q E'
def γ:cR ["often","row","other_often","other"] ["often","row","other_often","other"] (bD C_):=1#0
def aar{t:cm}(F:cz K "mix_of_two" "mix_of_two" C_ Y t)(B:mg "zip"=ac):cp P w K mg base aZ 1 Y t ["often","row","other_often","other"] Hn:=by
 show F.q γ λG A e s H T Q E U=>?_;rintro⟨r,o,V,W,p,q,rfl,u,v,I,h,l,k⟩;show(_,bx (cE (fq ["often","row","other_often","other"] ["number","beside","often","other_often"] [ac,ac,aa 0,aa 2] (wL O B va<|aq 7#1<|aq 7#3 aC)
  (λx C c d y=>nr O<|hJ (cx (i:=0) (dM ["number","beside","often","other_often"]) O<|av O)<|hJ (cx (i:=1) (dM ["number","beside","often","other_often"]) O<|av O) nq) (λx C c d y=>eU)
  (λx C c d y=>cu jN (cu zq 7#2<|ai 0)<|cu zq 7#3<|ai 1) (te:=eM (kf λZ j=>.int<|Z+j) (eM (kg kL λZ j=>.int<|Z*j) (bZ 2)<|bZ 0)<|eM (kg kL λZ j=>.int<|Z*j) (bZ 3)<|bZ 1) (hfr:=gS (bD C_) δ) (g:=kI K 2<|fM (de 0)<|fM (de 1) kJ))),?_)
 show(_,O,_,O,r,o,O,(_,bJ.q u),(_,bJ.q v),λD z=>?_);show fu<|GW (f:=λa b=>p*a+q*b) (λa b X R L M N=>?_) u v I z λS m n=>k D S m z n;show(_,O,_,O,_,_,O,O,h a L,_,O,_,O,_,_,O,O,l b M,_,_,O,O,N)
abbrev HN:b_:=gT 51
inductive Hq(vs:List ak)(H:ag)(Q:aR)(E':cy):Prop
 |a:∀(r:ab)(rn:Ζ)(k:Nat),(vs=[.ref r])->(H r=aa (.lst<|rn.map ak.int))->((∀i,i<k->rn[i]?=aa 0))->((∃x,rn[k]?=aa x/\x≠0))->(Q (.int k) H)->Hq vs H Q E'
def Hw:cR ["row","place"] ["row"] (bD HN):=1#0
def aax(F:cz K "first_place" "first_place" HN f g):cp P w K mg base aZ 1 f g ["row"] Hq:=by
 show F.q Hw λp A d s H I Q E L=>?_;rintro⟨r,q,k,rfl,t,u,⟨x,B,C⟩,D⟩;show(_,bm (ck (i:=1) Hw.a O (av O) aS)
  (bm (BU iW (fJ qa (bP ft 7#0 7#1 2#0) aS<|eV _)
  <|bx<|ck (i:=1) Hw.a O (av O)<|cu jN 7#1 aS)
 <|bx<|cE<|ai 1),?_)
 show(λn l e=>∃N:Nat,n=k-N/\N<=k/\l=[aa<|.ref r,aa<|.int N]/\e=H,(_,0,O,ú,O,O),?_);rintro n l e ⟨N,rfl,M,rfl,rfl⟩;obtain⟨y,G,a⟩:∃y,q[N]?=aa y/\(y=0↔N<k):=by
  obtain c|c:=ji N k;show(0,u N c,by simp[c]);have:N=k:=(û M c);subst this;show(x,B,by simp[C])
 show(_,O,_,O,r,_,_,_,O,O,bJ.q t,bX (j:=N) (v:=ak.int y) (by rw[ca,G];rfl),O,_,O,?_);cases c:N<k;rw[show aJ (ak.int y=ak.int 0)=ap by rw[a.mpr c];rfl];show gG (λb m=>∃o,o<k-N/\∃N:Nat,o=k-N/\N<=k/\b=[aa<|.ref r,aa<|.int N]/\m=e,λb m h=>h,?_);show(_,O,_,_,O,O,k-(N+1),ω,N+1,O,c,O,O);rw[show aJ (ak.int y=ak.int 0)=aH from dD λz=>c<|a.mp (by injection z)];have:N=k:=(û M (ô c));subst this;show gi (_,O,D)
abbrev Da:b_:=gT 52
def abg:gb "tuple"=aa (.type "tuple"):=δ
def ZD{h:ag}{rn on:Ζ}{f:Int->Int->Int}{s:bp}{c:List (Option ak)}{Q:aR}(n:∀(a b:Int)(H:ag)(R:aR),a∈rn->b∈on->R (.int<|f a b) H->s (aa (.int a)::aa (.int b)::c) H R)(z:h r=aa (.tup<|rn.map ak.int))(A:h o=aa (.tup<|on.map ak.int))(M:on.length<=1000)(t:h D=ac)(k:∀d,aM h d->d D=aa (.lst<|(fe f rn on).map ak.int)->Q 6#D d):eY (CJ K r o) (kI K 2<|fM (de 0)<|fM (de 1) kJ) gB s (ac::ac::c) h D Q:=by
 show OT (K:=K) (xs:=rn.map ak.int) (ys:=on.map ak.int) (λi m j d=>∃p q,m=p::q::c/\aM h d/\d D=aa (.lst j)/\j=((fe f rn on).take i).map ak.int)
  (ac,ac,O,aM.q t,aI,O) (λi m j d (_,_,_,u,_)=>(gr.q<|u _ _ z,gr.q<|u _ _ A)) ?_ ?_
 rintro i m j d B N P C E G I ⟨p,q,rfl,e,g,rfl⟩ l;let(v,w,rfl):=rj C;let(x,y,rfl):=rj E;show(B,_,O,gr.q aI,O,_,_,O,_,_,O,O,sU ?_);show n v x _ _ (dL w) (dL y)<|gH (aL (yv _ _) %[aA|mQ (â M)]) G I %[bI<|dn g l|g] (_,_,O,?_,aI,?_);show(e.F<|e.J l).F t;let L:(fe f rn on)[i]?=aa (f v x):=#v[yz,w,y]
 rw[kM L,cH];rfl;rintro m j d ⟨p,q,rfl,e,g,rfl⟩;show k d e ?_;rw[g,eF 0#0]
abbrev vc(H:ag)(p:ab)(a b c:Int):Prop:=H p=aa (.tup [.int a,.int b,.int c])
inductive Hs(vs:List ak)(H:ag)(Q:aR)(E':cy):Prop
 |a:∀x y:Int,(vs=[.int x,.int y])->(0<x)->(0<y)->(x.natAbs<2 ^ 9000)->(y.natAbs<2 ^ 9000)->(∀r p q H' t0 t1 t2 l1 l2,aM H H'->H' r=aa (.tup [.ref p,.ref q])->vc H' p t0 t1 t2->vc H' q 0 l1 l2->qS x y t0 t1 t2 0 l1 l2->Q 6#r H')->Hs vs H Q E'
def uV:cR ["one","other","told","left","often","rest"] ["one","other"] (bD Da):=1#0
def aaz(F:cz K "divisor_pair" "divisor_pair" Da f fd)(bz:mg "zip"=ac)(bt:mg "tuple"=ac):cp P w K mg base aZ 1 f fd ["one","other"] Hs:=by
 show F.q uV λa3 A Y s H vs Q E hr=>?_;rintro⟨x,y,rfl,x0,y0,xb,yb,k⟩;show(_,bm (ck (i:=2) uV.a O (av O)<|jC<|aq 7#0<|aq aS<|aq aS aC)
  (bm (ck (i:=3) uV.a O (av O)<|jC<|aq 7#1<|aq aS<|aq aS aC)
  (bm (BU iW (fJ sY (bP dh 7#3 aS 2#0) aS<|eV _)
   (bm (ck (i:=4) uV.a O (aU O)<|cu GD (bP dh 7#2 aS 2#0)<|bP dh 7#3 aS 2#0)
   (bm (ck (i:=5) uV.a O (av O) (nu Cq O bt abg (aq (fq ["one","other","told","left","often","rest"] ["high","low","often"] [ac,ac,aa 4] (Og O bz va<|aq 7#2<|aq 7#3 aC)
    (λcl C t u ex=>nr O<|hJ (cx (i:=0) (dM ["high","low","often"]) O<|av O)<|hJ (cx (i:=1) (dM ["high","low","often"]) O<|av O) nq) (λcl C t u ex=>eU)
    (λcl C t u ex=>cu mN 7#0<|cu zq 7#2<|ai 1) (te:=eM (kf λi j=>.int<|i-j) (bZ 0)<|eM (kg kL λi j=>.int<|i*j) (bZ 2)<|bZ 1) (hfr:=gS (bD Da) δ) (g:=kI K 2<|fM (de 0)<|fM (de 1) kJ)) aC)))
   (bm (ck (i:=2) uV.a O (av O)<|ai 3)
  <|bx<|ck (i:=3) uV.a O (av O)<|ai 5))))
 <|bx<|cE<|jC<|aq 7#2<|aq 7#3 aC)),?_)
 show(_,O,mQ (show 3<=100000 from ξ),λT v=>(_,O,mQ (show 3<=100000 from ξ),λL l=>?_));let B:T≠L:=dn aI l;show(λn σ S=>∃(T L:ab)(e q r d m p:Int)(U W:Option ak),n=d.natAbs/\σ=[aa<|.int x,aa<|.int y,aa<|.ref T,aa<|.ref L,U,W]/\aM H S/\vc S T e q r/\vc S L d m p/\qS x y e q r d m p/\e.natAbs<2 ^ 9000/\d.natAbs<2 ^ 9000,
  (_,T,L,x,1,0,y,0,1,ac,ac,O,O,(aM.q v).trans<|aM.q l,(by change aN _ L _ T=_;rw[bI B];show aI),aI,qS.q x0 y0,xb,yb),?_)
 clear l B;clear v T L;rintro n σ S ⟨T,L,e,q,r,d,m,p,U,W,rfl,rfl,sm,v,l,g,tb,X⟩;show(_,O,L,_,_,_,O,O,gr.q l,bX (j:=0) O,O,_,O,?_);cases c:d=0;rw[show(!aJ (ak.int d=ak.int 0))=aH by rw[c];rfl];subst c;show gi (_,O,_,O,mQ (show 2<=100000 from ξ),λR Z=>?_);let sR:=aM.q (o:=.tup [.ref T,.ref L]) Z;show k R T L _ e q r m p (sm.trans sR) aI (sR _ _ v) (sR _ _ l) g;rw[show(!aJ (ak.int d=ak.int 0))=ap by rw[dD (λz=>c (by injection z))];rfl];let(g2,lt):=g.next c;let a0:0<d:=by have:=g.b;lk
 let q0:0<=e / d:=Uo (yE g.a) g.b;let a1:(e / d).natAbs<=e.natAbs:=LC _ _;let G:=g.le;show gG (λI M=>∃n',n'<d.natAbs/\∃(T L:ab)(e q r d m p:Int)(U W:Option ak),n'=d.natAbs/\I=[aa<|.int x,aa<|.int y,aa<|.ref T,aa<|.ref L,U,W]/\aM H M/\vc M T e q r/\vc M L d m p/\qS x y e q r d m p/\e.natAbs<2 ^ 9000/\d.natAbs<2 ^ 9000,λI M h=>h,?_);show(_,O,T,_,_,_,O,O,gr.q v,bX (j:=0) O,_,O,L,_,_,_,O,O,gr.q l,bX (j:=0) O,_,_,O,O,(a0,X),?_);show(_,O,_,O,T,L,O,(_,gr.q v),(_,gr.q l),λD hD=>fu<|ZD (rn:=[e,q,r]) (on:=[d,m,p]) (f:=λa b=>a-e / d*b) (λa b M R _ hb Z=>?_) v l 0#0 hD λH4 s4 a2=>?_);show(_,O,_,O,_,O,_,_,O,O,(9000,9000,fH a1 tb,?_,ξ),_,_,O,O,Z);simp at hb;obtain rfl|rfl|rfl:=hb;show X;show fH G.1 yb;show fH G.2 xb;show(D,_,O,.inl (bJ.q a2,λN hN=>?_));let s5:=aM.q (o:=.tup<|([e-e / d*d,q-e / d*m,r-e / d*p]:Ζ).map ak.int) hN;show(_,O,_,O,(e-e / d*d).natAbs,by have:=g2.b;lk,L,N,d,m,p,_,_,_,_,_,O,O,(sm.trans s4).trans s5,(s4.trans s5) _ _ l,aI,g2,X,?_);have:=g2.b;show uh ω X
abbrev HH:b_:=gT 49
abbrev lI(a:List (Nat×ab)):List (Int×ak):=a.map λe=>(ahl ((e.1:Int)) (ak.ref e.2))
structure lK(H:ag)(a:ab)(es:List (Nat×ab))(fr:Nat->Ζ):Prop where
 b:H a=aa (OP<|lI es)
 d:(es.map (·.1)).Nodup
 c:∀e∈es,H e.2=aa (.lst<|(fr e.1).map ak.int)
def lK.q{H b:ag}{c:List (Nat×ab)}{d:Nat->Ζ}(h:lK H a c d)(s:aM H b):lK b a c d:=(s _ _ h.b,h.d,λe f=>s _ _<|h.c e f)
def aa5{c d:Type}{f:c->d}{l:List c}(g:∀a b,f a=f b->a=b)(h:l.Nodup):(l.map f).Nodup:=by
 rw[dz,kC];show h.imp λn e=>n<|g _ _ e
def lK.F{c:List (Nat×ab)}(h:lK H a c g){p:Nat}(i:p∈c.map (·.1)):∃d,(ahl p d)∈c/\lD H a (.int p) (aa<|.ref d)/\H d=aa (.lst<|(g p).map ak.int):=by
 let(e,f,rfl):=aW.mp i;show(e.2,f,?_,h.c e f);have:=lD.k (k:=bF (e.1:Int)) h.b;rw[Go (v:=ak.ref e.2) ?_ ?_] at this;show this;let j:((lI c).map λp=>(ahl ((bF p.1:bi)) p.2)).map (·.1)=(c.map (·.1)).map λn:Nat=>(bF (n:Int):bi):=by simp[lI,alr]
 rw[j];show aa5 (λa b l=>by injection l with l;lk) h.d;show aW.mpr ((ahl ((e.1:Int)) (ak.ref e.2)),aW.mpr (e,f,O),O)
def ow(a:Nat->Ζ)(l:Ζ)(p:Nat):Ζ:=jn l (l.getD p 0 / (a p).getD p 0)<|a p
def fX(a:Nat->Ζ)(b:Ζ)(c:List Nat):Ζ:=c.foldl (ow a) b
structure tF(fr:Nat->Ζ)(W:Nat)(rn:Ζ)(ps:List Nat):Prop where
 b:rn.length=W
 c:W<=1000
 row:∀p∈ps,p<W/\(fr p).length=W/\Pq 0 ((fr p).getD p 0)
 a:∀i p,ps[i]?=aa p->∀x∈fr p,kL ((fX fr rn<|ps.take i).getD p 0 / (fr p).getD p 0) x
def HS{a:Nat->Ζ}{l:Ζ}{p W:Nat}(h:l.length=W)(b:(a p).length=W):(ow a l p).length=W:=by
 ext ow jn;rw[i_];lk
def xu{b:Nat->Ζ}{W:Nat}:∀{ps:List Nat}{a:Ζ},a.length=W->(∀p∈ps,(b p).length=W)->(fX b a ps).length=W
 |[],_,h,_=>h
 |p::ps,a,h,c=>xu (ps:=ps) (HS h<|c p<|fy ..) λq d=>c q<|gF _ d
def De{b:List Nat}{i p:Nat}(h:b[i]?=aa p):fX a c (b.take<|i+1)=ow a (fX a c<|b.take i) p:=by
 rw[kM h];ext fX;rw[um];rfl
def HX{l a:Ζ}(h:l.length=a.length):jn l 0 a=l:=by
 ext jn;show kX (by rw[i_];lk) λi b c=>?_;rw[oO];lk
inductive Hk(vs:List ak)(H:ag)(Q:aR)(E':cy):Prop
 |b:∀(r a pl:ab)(rn:Ζ)(es:List (Nat×ab))(fr:Nat->Ζ)(ps:List Nat)(W:Nat),(vs=[.ref r,.ref a,.ref pl])->(H r=aa (.lst<|rn.map ak.int))->(lK H a es fr)->(H pl=aa (.lst<|ps.map λp:Nat=>ak.int (p:Int)))->((∀p∈ps,p∈es.map (·.1)))->(tF fr W rn ps)->(∀D H',aM H H'->H' D=aa (.lst<|(fX fr rn ps).map ak.int)->Q 6#D H')->Hk vs H Q E'
def zQ:cR ["row","found","places","left","place","often"] ["row","found","places"] (bD HH):=1#0
def aao(F:cz K "reduced" "reduced" HH f R)(Y:bW P w K mg base aZ "less" ["row","often","other"] 1 xo):cp P w K mg base aZ 2 f R ["row","found","places"] Hk:=by
 show F.q zQ λZ A C s H vs Q E S=>?_;rintro⟨r,a,G,j,es,b,g,W,rfl,h1,hF,o,I,t,k⟩;let T:=pf S;show(_,bm (ck (i:=3) zQ.a O (av O)<|ai 0)
  (bm (jB iW O (gg<|ai 2) (cx (i:=4) zQ.a O<|av O)
   (bm (ck (i:=5) zQ.a O (av O)<|cu GD (bP ft 7#3 7#4 2#0)<|bP ft (mM T 7#1 7#4 2#0) 7#4 2#0)
   (bx (hH (fJ sY 7#5 aS<|eV _)
    (bx<|ck (i:=3) zQ.a O (av O)<|bv Y S O bw<|aq 7#3<|aq 7#5<|aq (mM T 7#1 7#4 2#0) aC) hC))))
 <|bx<|cE<|ai 3),?_)
 show(_,O,_,O,G,O,(_,bJ.q o),qc (K:=K) (a:=G) (xs:=g.map λp:Nat=>ak.int (p:Int)) (λi y m=>∃(d:ab)(L M:Option ak),y=[aa<|.ref r,aa<|.ref a,aa<|.ref G,aa<|.ref d,L,M]/\aM H m/\m d=aa (.lst<|(fX b j<|g.take i).map ak.int))
  (r,ac,ac,O,aM.refl H,h1) (λi y m _ (_,_,_,_,l,_)=>bJ.q<|l _ _ o) ?_ ?_)
 rintro i x y m u ⟨d,L,M,rfl,l,n⟩;obtain⟨p,B,rfl⟩:∃p,g[i]?=aa p/\x=ak.int (p:Int):=by
  rw[ca] at u;cases e:g[i]? with
  |none=>rw[e] at u;cases u
  |some p=>rw[e] at u;cases u;show(p,O,O)
 let v:=dL B;let(pW,fW,cd):=t.row p v;let(c,hc,U,h):=(hF.q l).F<|I p v;let X:(fX b j<|g.take i).length=W:=xu t.b λq hq=>(t.row q<|qH hq).2.1;let g1:((fX b j<|g.take i).map ak.int)[p]?=aa (ak.int<|(fX b j<|g.take i).getD p 0):=by
  rw[ca,co,bu %[|à pW (æ X)]];rfl
 let g2:((b p).map ak.int)[p]?=aa (ak.int<|(b p).getD p 0):=by
  rw[ca,co,bu %[|à pW (æ fW)]];rfl
 show(_,O,_,O,d,_,_,_,O,O,bJ.q n,bX g1,_,O,_,O,a,_,O,U,_,O,c,_,_,_,O,O,bJ.q h,bX g2,_,_,O,O,cd,?_);show(_,O,O,_,O,?_);cases z:(fX b j<|g.take i).getD p 0 / (b p).getD p 0=0;rw[show(!aJ (ak.int ((fX b j<|g.take i).getD p 0 / (b p).getD p 0)=ak.int 0))=aH by rw[z];rfl];show gi (d,_,_,O,l,?_);rw[De B,ow,z,HX %[|û (à (å X) (æ fW)) (à (å fW) (æ X))]];show n;rw[show(!aJ (ak.int ((fX b j<|g.take i).getD p 0 / (b p).getD p 0)=ak.int 0))=ap by rw[dD (λe=>z (by injection e))];rfl];show gG (_,O,_,O,_,O,_,O,a,_,O,U,d,c,_,_,_,O,n,h,by have:=t.c;show à (å fW) this,t.a i p B,λD H3 s3 _ N=>?_);show(D,_,_,O,l.trans s3,?_);rw[De B];show N;rintro y m ⟨d,L,M,rfl,l,n⟩;rw[aA,eF<|aE _] at n;show(_,O,k d m l n)
abbrev HG:b_:=gT 55
def zW:gb "sorted"=aa (.builtin "sorted"):=δ
structure pr(es:List (Nat×ab))(ps:List Nat):Prop where
 a:ps.Perm (es.map (·.1))
 b:ps.Pairwise (·<=·)
def pr.F(h:pr c f){d:Ζ}(g:d.Perm ((lI c).map (·.1)))(i:d.Pairwise (·<=·)):d.map ak.int=f.map λp:Nat=>ak.int (p:Int):=by
 let e:d=f.map λp:Nat=>(p:Int):=by
  show Uk (le:=(·<=·)) (λa b _ _ x y=>aln x y) i ?_<|g.trans ?_;rw[kC];show h.b.imp λz=>ω;have:(lI c).map (·.1)=(c.map (·.1)).map λp:Nat=>(p:Int):=by simp[lI,alr]
  rw[this];show(h.a.map _).symm
 rw[e,dC];rfl
def pr.q{a:List (Nat×ab)}{b:List Nat}(h:pr a b):b.length=a.length:=#v[h.a.length_eq,aA]
def eA(a:Nat->Ζ):Ζ->List Nat->Ζ
 |_,[]=>[]
 |l,p::b=>(l.getD p 0 / (a p).getD p 0)::eA a (ow a l p) b
def PC:∀{ps:List Nat}{rn:Ζ}{i p:Nat},ps[i]?=aa p->(eA fr rn ps)[i]?=aa ((fX fr rn<|ps.take i).getD p 0 / (fr p).getD p 0)
 |[],_,_,_,h=>by simp at h
 |q::ps,rn,0,p,h=>by simp at h;subst h;rfl
 |q::ps,rn,i+1,p,h=>by
  have:=PC (fr:=fr) (ps:=ps) (rn:=ow fr rn q) (i:=i) (p:=p) 5#h
  simpa[eA,fX] using this
def zL:∀{ps:List Nat}{a:Ζ},(eA b a ps).length=ps.length
 |[],_=>O
 |q::ps,a=>by simp[eA,zL (ps:=ps)]
inductive CR(vs:List ak)(H:ag)(Q:aR)(E':cy):Prop
 |b:∀(r a:ab)(rn:Ζ)(es:List (Nat×ab))(fr:Nat->Ζ)(ps:List Nat)(W:Nat),(vs=[.ref r,.ref a])->(H r=aa (.lst<|rn.map ak.int))->(lK H a es fr)->(pr es ps)->(es.length<64)->(tF fr W rn ps)->(vf H Q<|eA fr rn ps)->CR vs H Q E'
def xr:cR ["row","found","told","left","place","often"] ["row","found"] (bD HG):=1#0
def aal(F:cz K "shares_of" "shares_of" HG f fd)(bs:mg "sorted"=ac)(Cl:bW P w K mg base aZ "less" ["row","often","other"] 1 xo):cp P w K mg base aZ 2 f fd ["row","found"] CR:=by
 show F.q xr λa4 A a0 s H vs Q E hr=>?_;rintro⟨r,a,j,es,b,g,W,rfl,h1,X,t,a1,C,k⟩;let hu:=pf hr;show(_,bm (ck (i:=2) xr.a O (av O)<|jm aC)
  (bm (ck (i:=3) xr.a O (av O)<|ai 0)
  (bm (jB iW O (gg<|dO (zx O) O bs zW<|aq 7#1 aC) (cx (i:=4) xr.a O<|av O)
   (bm (ck (i:=5) xr.a O (av O)<|cu GD (bP ft 7#3 7#4 2#0)<|bP ft (mM hu 7#1 7#4 2#0) 7#4 2#0)
   (bm (pa<|pZ vR yl AG uH 7#2<|aq 7#5 aC)
   (bx (hH (fJ sY 7#5 aS<|eV _)
    (bx<|ck (i:=3) xr.a O (av O)<|bv Cl hr O bw<|aq 7#3<|aq 7#5<|aq (mM hu 7#1 7#4 2#0) aC) hC)))))
 <|bx<|cE<|ai 2)),?_)
 show(ξ,λT G=>(_,O,_,O,a,lI es,O,?_,5#a1,λB ms pm so I=>(B,O,(_,bJ.q aI),?_)));have:a≠T:=dn X.b G;rw[bI this];show X.b;rw[t.F pm so];let L:T≠B:=dn aI I;let s0:aM H (aN (aN H T<|.lst []) B<|.lst<|g.map λp:Nat=>ak.int (p:Int)):=(aM.q G).trans<|aM.q I;let a5:=t.q;show qc (K:=K) (a:=B) (xs:=g.map λp:Nat=>ak.int (p:Int)) (λi Y l=>∃(d:ab)(v4 v5:Option ak),Y=[aa<|.ref r,aa<|.ref a,aa<|.ref T,aa<|.ref d,v4,v5]/\aM H l/\l B=aa (.lst<|g.map λp:Nat=>ak.int (p:Int))/\l T=aa (.lst<|((eA b j g).take i).map ak.int)/\l d=aa (.lst<|(fX b j<|g.take i).map ak.int)/\d≠T)
  (r,ac,ac,O,s0,aI,%[bI L|aI],s0 _ _ h1,dn h1 G) (λi Y l _ (_,_,_,_,_,h,_)=>bJ.q h) ?_ ?_
 rintro i x Y l M ⟨d,v4,v5,rfl,Z,N,m,hd,u⟩;obtain⟨p,R,rfl⟩:∃p,g[i]?=aa p/\x=ak.int (p:Int):=by
  rw[ca] at M;cases e:g[i]? with
  |none=>rw[e] at M;cases M
  |some p=>rw[e] at M;cases M;show(p,O,O)
 let S:=dL R;let(pW,fW,cd):=C.row p S;let U:p∈es.map (·.1):=t.a.mem_iff.mp S;let(c,hc,gc,n):=(X.q Z).F U;let a3:(fX b j<|g.take i).length=W:=xu C.b λq hq=>(C.row q<|qH hq).2.1;let g1:((fX b j<|g.take i).map ak.int)[p]?=aa (ak.int<|(fX b j<|g.take i).getD p 0):=by
  rw[ca,co,bu %[|à pW (æ a3)]];rfl
 let g2:((b p).map ak.int)[p]?=aa (ak.int<|(b p).getD p 0):=by
  rw[ca,co,bu %[|à pW (æ fW)]];rfl
 let g3:=PC (fr:=b) (rn:=j) R;show(_,O,_,O,d,_,_,_,O,O,bJ.q hd,bX g1,_,O,_,O,a,_,O,gc,_,O,c,_,_,_,O,O,bJ.q n,bX g2,_,_,O,O,cd,?_);show(_,O,.inl (O,_,bJ.q m),_,O,T,_,_,O,O,m,by rw[iC,aA,gf,zL];lk,?_);let e4:((eA b j g).take i).map ak.int++[ak.int<|(fX b j<|g.take i).getD p 0 / (b p).getD p 0]=((eA b j g).take<|i+1).map ak.int:=by rw[kM g3,cH];rfl
 rw[e4];let s3:aM H (aN l T<|.lst<|((eA b j g).take<|i+1).map ak.int):=Z.F G;let v:aN l T (.lst<|((eA b j g).take<|i+1).map ak.int) B=aa (.lst<|g.map λp:Nat=>ak.int (p:Int)):=%[bI L.symm|N]
 let y:aN l T (.lst<|((eA b j g).take<|i+1).map ak.int) d=aa (.lst<|(fX b j<|g.take i).map ak.int):=%[bI u|hd]
 let o:aN l T (.lst<|((eA b j g).take<|i+1).map ak.int) T=aa (.lst<|((eA b j g).take<|i+1).map ak.int):=aI;generalize aN l T (.lst<|((eA b j g).take<|i+1).map ak.int)=H3 at s3 v y o ⊢;show(_,O,O,_,O,?_);cases z:(fX b j<|g.take i).getD p 0 / (b p).getD p 0=0;rw[show(!aJ (ak.int ((fX b j<|g.take i).getD p 0 / (b p).getD p 0)=ak.int 0))=aH by rw[z];rfl];show gi (d,_,_,O,s3,v,o,?_,u);rw[De R,ow,z,HX %[|û (à (å a3) (æ fW)) (à (å fW) (æ a3))]];show y;rw[show(!aJ (ak.int ((fX b j<|g.take i).getD p 0 / (b p).getD p 0)=ak.int 0))=ap by rw[dD (λe=>z (by injection e))];rfl];let(c,hc,gc,n):=(X.q s3).F U;show gG (_,O,_,O,_,O,_,O,a,_,O,gc,d,c,_,_,_,O,y,n,by have:=C.c;show à (å fW) this,C.a i p R,λD H4 s4 hD a2=>?_);show(D,_,_,O,s3.trans s4,s4 _ _ v,s4 _ _ o,?_,(dn o hD).symm);rw[De R];show a2;rintro Y l ⟨d,v4,v5,rfl,Z,N,m,hd,u⟩;rw[aA,eF %[zL|aE _]] at m;show(_,O,k T l Z G m)
def aQ(l:Ζ):am:=λi=>l.getD i 0
def di(a:Nat->Ζ):Nat->am:=λp=>aQ<|a p
def CN{f:Int->Int->Int}(b:f 0 0=0){l a:Ζ}(h:l.length=a.length):aQ (fe f l a)=λu=>f (aQ l u)<|aQ a u:=by
 funext u;ext aQ;rw[co,co,co,yz];obtain c|c:=ji u l.length;rw[bu c,bu<|h▸c];rfl;rw[oP c,oP<|h▸c];show b.symm
def Pu{a:Nat->Ζ}{l:Ζ}(h:l.length=(a p).length):aQ (ow a l p)=sXq (di a) p (aQ l):=by
 ext ow jn;rw[CN 0#0 h];rfl
def xk{fr:Nat->Ζ}{W:Nat}:∀{ps:List Nat}{rn:Ζ},rn.length=W->(∀p∈ps,(fr p).length=W)->aQ (fX fr rn ps)=iI (di fr) ps (aQ rn)
 |[],_,_,_=>O
 |p::ps,rn,h,a=>by
  let b:=a p<|fy ..;change aQ (fX fr (ow fr rn p) ps)=iI (di fr) ps (sXq (di fr) p<|aQ rn);rw[xk (ps:=ps) (HS h b) λq c=>a q<|gF _ c,Pu %[|û (à (å h) (æ b)) (à (å b) (æ h))]]
def Pw{l c:Ζ}(h:l.length=c.length):aQ (mm a l b c)=gQ a (aQ l) b (aQ c):=by
 ext mm;rw[CN 0#0 h];rfl
def ZJ{l:Ζ}:aQ (l.map λx=>-x)=λu=>-aQ l u:=by
 funext u;ext aQ;rw[co,co,ca];cases l[u]?<;>simp
def km(a:Nat->Ζ)(p:Nat)(l:Ζ):Nat->Ζ:=λq=>if q=p then l else a q
def GY:di (km a p l)=fB (di a) p (aQ l):=by
 funext q;ext di km fB;split<;>rfl
def Dg{l:Ζ}{x:Int}(h:x∈l):∃i,i<l.length/\aQ l i=x:=by
 let(i,a,e):=rV.mp h;show(i,a,by ext aQ;rw[co,bu a];show e)
def pj{l:Ζ}{i:Nat}(h:l.length<=i):aQ l i=0:=by ext aQ;rw[co,oP h];rfl
def PV(h:∃u,aQ l u≠0):∃k,k<l.length/\(∀i,i<k->l[i]?=aa 0)/\(∃x,l[k]?=aa x/\x≠0)/\(∀i,i<k->aQ l i=0)/\aQ l k≠0:=by
 classical
 induction l with
 |nil=>let(u,a):=h;show bo (pj<|cJ u) a
 |cons x l e=>
  cases c:x=0
  ·let(u,a):=h
   cases u with
   |zero=>show bo (show aQ (x::l) 0=0 from c) a
   |succ u=>
    obtain⟨k,f,g,⟨y,j,b⟩,m,n⟩:=e (u,by simpa[aQ] using a);show(k+1,by simpa using f,λi d=>?_,(y,by simpa using j,b),λi d=>?_,by simpa[aQ] using n)
    ·cases i with
     |zero=>simp[c]
     |succ i=>simpa using g i (ò d)
    ·cases i with
     |zero=>show c
     |succ i=>simpa[aQ] using m i (ò d)
  ·show(0,by simp,λi d=>ω,(x,O,c),λi d=>ω,c)
def Qf:∃n:Nat,n=67108864:=(_,O)
noncomputable def tE:Nat:=pO Qf
def u_:tE=67108864:=LJ Qf
noncomputable def iQ:Nat:=2 ^ tE
def xH{i j:Int}(a:i.natAbs<iQ)(b:j.natAbs<iQ):kL i j:=(tE,tE,a,b,by have:=u_;lk)
def P_{a b:Int}:(a / b).natAbs<=a.natAbs:=LC _ _
structure jR(W:Nat)(P:List Nat)(fr:Nat->Ζ):Prop where
 a:W<=1000
 row:∀p∈P,p<W/\(fr p).length=W
def jR.F{P Q:List Nat}{a:Nat->Ζ}(h:jR W P a)(b:∀p∈Q,p∈P):jR W Q a:=(h.a,λp c=>h.row p<|b p c)
def jR.q{P:List Nat}{a:Nat->Ζ}{l:Ζ}(h:jR W P a)(c:l.length=W):jR W P (km a p l):=(h.a,λq b=>((h.row q b).1,by ext km;split;show c;show(h.row q b).2))
def χ{R:List am}{P a:List Nat}{G C CF V VF N Y:Nat}{g:Ζ}(hR:∀r∈R,∀u,(r u).natAbs<=Y)(j:R.length<=N)(s:∀p∈P,ez R CF (di c p))(y:∀p∈P,∀q∈P,(di c p q).natAbs<=VF)(d:∀p∈P,0<di c p p)(m:∀p∈P,(di c p p).natAbs<2 ^ 9000)(l:jR G P c)(t:g.length=G)(k:ez R C (aQ g))(z:∀q∈P,(aQ g q).natAbs<=V)(f:∀p∈a,p∈P)(A:N*((C+a.length*(V*(1+VF) ^ a.length*CF))*Y)<iQ)(B:N*(CF*Y)<iQ):tF c G g a:=by
 show(t,l.a,λp h=>((l.row p<|f p h).1,(l.row p<|f p h).2,d p<|f p h,m p<|f p h),λi p h x D=>?_);let n:=dL h;let E:=f p n;show xH (fH P_ ?_) ?_;let(v,ϟ):=uu s y d (a.take i) (λq o=>f q<|qH o) k z;let e:=xk (fr:=c) (W:=G) (ps:=a.take i) (rn:=g) t λq o=>(l.row q<|f q<|qH o).2;rw[<-e] at v;let b:=v.le (u:=p) λr k=>hR r k p;show fH (aL b<|iE j<|eC _ ?_) A;let w:(a.take i).length<=a.length:=by rw[gf];lk
 show vY (iE w<|eC _<|eD _<|iD ü w) _;let(u,ϟ,rfl):=Dg D;show fH (aL ((s p E).le (u:=u) λr k=>hR r k u)<|eC _ j) B
def mj(a:List (Nat×ab))(p:Nat)(d:ab):List (Nat×ab):=if p∈a.map (·.1) then a.map λe=>if e.1=p then(ahl p d) else e else a++[(ahl p d)]
def Df:(mj a p d).map (·.1)=if p∈a.map (·.1) then a.map (·.1) else a.map (·.1)++[p]:=by
 ext mj;split;rw[dC];show iZ λe _=>?_;erw[qK];split<;>simp_all;simp
set_option tactic.hygienic true in
def aaa{e:Nat×ab}(h:e∈mj a p d):e=(ahl p d)\/(e∈a/\e.1≠p):=by
 unfold mj at h;split at h;let(x,b,rfl):=aW.mp h;split;show .inl O;show .inr (b,by assumption);rename_i c;obtain h|h:=fz.mp h;show .inr (h,λz=>c<|z▸aW.mpr (e,h,O));show .inl 5#h
def Δ{p:Nat}:fo ((lI a).map λp=>(ahl ((bF p.1:bi)) p.2)) (bF (p:Int)) 6#d=(lI<|mj a p d).map λp=>(ahl ((bF p.1:bi)) p.2):=by
 let b:∀e:Nat×ab,((bF (e.1:Int):bi)=bF (p:Int))↔e.1=p:=by
  intro e;k_in;intro z;have:((e.1:Int))=p:=by injection z
  lk;intro z;rw[z]
 let h:(((lI a).map λp=>(ahl ((bF p.1:bi)) p.2)).any λi=>aJ<|i.1=bF (p:Int))=aJ (p∈a.map (·.1)):=by
  rw[wh,Lw,decide_eq_true_iff,aW];k_in;rintro⟨x,g,j⟩;rw[dC] at g;let(e,f,rfl):=aW.mp g;show(e,f,(b e).mp<|gP j);rintro⟨e,f,rfl⟩;show((ahl (bF (e.1:Int)) (ak.ref e.2)),?_,by simp);rw[dC];show aW.mpr (e,f,O)
 ext fo mj;rw[h];cases c:p∈a.map (·.1);rw[aw<|cN c,aw c];ext lI;rw[dC,dC,dC,dC];show iZ λe _=>?_;change(if(bF (e.1:Int):bi)=bF (p:Int) then _ else _)=_;cases z:e.1=p;rw[aw<|(b e).mpr z];erw[qK,aw z];rw[z];rw[ar λq=>z<|(b e).mp q];erw[qK,ar z];rw[ar 5#c,ar c];simp[lI]
set_option tactic.hygienic true in
def lK.J{p:Nat}{H H2:ag}{a d:ab}{j:Nat->Ζ}{l:Ζ}(h:lK H a g j)(m:H d=aa (.lst<|l.map ak.int))(u:g.length<1000):∃H2,zH H a (.int p) 6#d H2/\lK H2 a (mj g p d) (km j p l)/\∀b,b≠a->H2 b=H b:=by
 let q:=zH.k (k:=bF (p:Int)) (v:=ak.ref d) h.b (by rw[iC];simp;show â u);show(_,q,(?_,?_,?_),λb c=>bI c);rw[aI,Δ];rw[Df];split;show h.d;rename_i r;rw[mB];show(h.d,by simp,λx s y t=>?_);have:y=p:=by simpa using t
 subst this;show λz=>r<|z▸s;intro e f;let n:∀b,(∃o,H b=aa (.lst o))->b≠a:=λb (o,c) z=>by rw[z,h.b] at c;cases c
 obtain rfl|⟨f,i⟩:=aaa f;rw[bI<|n d (_,m),m];ext km;rw[aw O];rw[bI<|n e.2 (_,h.c e f),h.c e f];ext km;rw[ar i]
abbrev HA:b_:=gT 48
def Qh:gb "len"=aa (.builtin "len"):=δ
def HU{R:List am}{a:List Nat}{v CE N Y:Nat}{d:Ζ}(hR:∀r∈R,∀u,(r u).natAbs<=Y)(e:R.length<=N)(n:∀p∈a,ez R CE (di b p))(f:∀p∈a,0<di b p p)(j:∀p∈a,(di b p p).natAbs<2 ^ 9000)(h:jR v a b)(l:d.length=v)(met:∀i,ez R CE (iI (di b) (a.take i)<|aQ d))(g:N*(CE*Y)<iQ):tF b v d a:=by
 show(l,h.a,λp c=>((h.row p c).1,(h.row p c).2,f p c,j p c),λi p c x o=>?_);let s:=dL c;show xH (fH P_ ?_) ?_;let m:=met i;rw[<-xk (fr:=b) (W:=v) (ps:=a.take i) (rn:=d) l λq t=>(h.row q<|qH t).2] at m;show fH (aL (m.le (u:=p) λr k=>hR r k p)<|eC _ e) g;let(u,ϟ,rfl):=Dg o;show fH (aL ((n p s).le (u:=u) λr k=>hR r k u)<|eC _ e) g
structure Qk(N M X B Y:Nat)(R:List am):Prop where
 a:1<=B
 e:B<2 ^ 9000
 c:N*(kG N M X B*Y)<iQ
 hR:∀r∈R,∀u,(r u).natAbs<=Y
 d:N<64
 b:lj N M X B R
def lK.no{c:List (Nat×ab)}{d:Nat->Ζ}(h:lK H a c d){p:Nat}(f:p∉c.map (·.1)):lD H a (.int p) ac:=by
 have:=lD.k (k:=bF (p:Int)) h.b;rw[Gm ?_] at this
 show this;intro j b z;rw[dC] at b;let(e,g,rfl):=aW.mp b;let i:(bF (e.1:Int):bi)=bF (p:Int):=z;have:(e.1:Int)=p:=by injection i
 show f<|aW.mpr (e,g,ω)
def xy{l:Ζ}{p:Nat}(h:p<l.length):(l.map ak.int)[p]?=aa (ak.int<|aQ l p):=by
 ext aQ;rw[ca,co,bu h];rfl
def pt(a:ab)(H c:ag):Prop:=∀b o,b≠a->H b=aa o->c b=aa o
def pt.trans(h:pt a H c)(g:pt a c d):pt a H d:=λb o f e=>g b o f<|h b o f e
def pt.q(h:aM H c):pt a H c:=λb o _ e=>h b o e
def xG(a:List ak)(n:Nat):jO a (aa (n:Int)) ac=a.drop n:=by
 ext jO;rw[vr,xW];obtain h|h:=KY n a.length;rw[AQ h,eF 0#0];rw[TK h,Uf<|aE _,Uf h,List.take_nil]
def pn(l:Ζ)(q:Nat):Ζ:=if 0<aQ l q then l else l.map λx=>-x
def ZH{q:Nat}:aQ (pn l q)=ni (aQ l) q:=by
 ext pn ni;split;rfl;show ZJ
def ZO{q:Nat}:(pn l q).length=l.length:=by ext pn;split;rfl;simp
def PU{q:Nat}:∀{P:List Nat},(ins q P).Perm (P++[q])
 |[]=>.refl _
 |p::P=>by
  ext ins;split;show(akm q<|p::P).symm;show(PU (P:=P)).cons p
def PD{c:Bool}{A B:Prop}{C S:ab->ag->Prop}(a:(∀u H,S u H->C u H)->¬c=ap->B)(b:(∀u H,S u H->C u H)->c=ap->A)(fin:∀u H,S u H->C u H):if c=ap then A else B:=by
 split;show b fin (by assumption);show a fin (by assumption)
structure Ih(a d:ab)(q W N M X B:Nat)(R:List am)(P:List Nat)(H0 H:ag)(ln:Ζ)(es:List (Nat×ab))(fr:Nat->Ζ)(t:Nat):Prop where
 l:pt a H0 H
 e:lK H a es fr
 b:pr es P
 f:jR W P fr
 c:H d=aa (.lst<|ln.map ak.int)
 h:ln.length=W
 ts:qR N M X B R P (di fr) (aQ ln) t
 m:t<=q
 k:q<W
 j:∀i,i<q->aQ ln i=0
 g:aQ ln q≠0
def HV(h:lK H a d e)(c:H b=aa (.lst f)):b≠a:=λz=>by rw[z,h.b] at c;cases c
inductive G'(vs:List ak)(H:ag)(Q:aR)(E':cy):Prop
 |b:∀(a r:ab)(rn:Ζ)(es:List (Nat×ab))(fr:Nat->Ζ)(P:List Nat)(N M X B Y W:Nat)(R:List am),(vs=[.ref a,.ref r])->(H r=aa (.lst<|rn.map ak.int))->(lK H a es fr)->(pr es P)->(jR W P fr)->(rn.length=W)->(fC N M X B R P<|di fr)->(R.length<N)->((∀p∈P,(aQ rn p).natAbs<=M))->(Qk N M X B Y<|R++[aQ rn])->(∀H' es' fr' P',pt a H H'->lK H' a es' fr'->pr es' P'->jR W P' fr'->fC N M X B (R++[aQ rn]) P' (di fr')->Q .non H')->G' vs H Q E'
def rh:cR ["found","row","left","place","top","pair","places","k"] ["found","row"] (bD HA):=1#0
def aaf(F:cz K "take_in" "take_in" HA f fd)(bs:mg "sorted"=ac)(bg:mg "range"=ac)(bn:mg "len"=ac)(Cr:bW P w K mg base aZ "reduced" ["row","found","places"] 2 Hk)(Cf:bW P w K mg base aZ "first_place" ["row"] 1 Hq)(Cp:bW P w K mg base aZ "divisor_pair" ["one","other"] 1 Hs)(Cm:bW P w K mg base aZ "mix_of_two" ["often","row","other_often","other"] 1 Hn):cp P w K mg base aZ 3 f fd ["found","row"] G':=by
 show F.q rh λg1 A e8 s H vs Q E hr=>?_;rintro⟨a,r,rn,es,fR,PP,N,M,X,B,Y,W,R,rfl,h1,hF,hP,hW,hn,FS,c4,hM,L,k⟩;let hu:=pf hr;let b4:fF 1 _:=hr.q ξ;show(_,bm (ck (i:=2) rh.a O (av O)<|bv Cr hr O bw<|aq 7#1<|aq 7#0<|aq (dO (zx O) O bs zW<|aq 7#0 aC) aC)
  (bm (ck (i:=3) rh.a O (av O)<|bv Cf b4 O bw<|aq 7#2 aC)
  (bm (BU iW (XA (XQ hu 7#3<|ai 0) (by with_unfolding_all rfl))
   (bm (ck (i:=4) rh.a O (av O)<|mM hu 7#0 7#3 2#0)
   (bm (ck (i:=5) rh.a O (av O)<|bv Cp b4 O bw<|aq (bP ft 7#4 7#3 2#0)<|aq (bP ft 7#2 7#3 2#0) aC)
   (bm (qW hu 7#0 7#3 (bv Cm b4 O bw<|aq (bP dh (bP dh 7#5 aS 2#0) aS 2#0)<|aq 7#4<|aq (bP dh (bP dh 7#5 aS 2#0) aS 2#0)<|aq 7#2 aC) O)
   (bm (ck (i:=2) rh.a O (av O)<|bv Cr hr O bw<|aq (bv Cm b4 O bw<|aq (bP dh (bP dh 7#5 aS 2#0) aS 2#0)<|aq 7#4<|aq (bP dh (bP dh 7#5 aS 2#0) aS 2#0)<|aq 7#2 aC)<|aq 7#0<|aq (dO (zx O) O bs zW<|aq 7#0 aC) aC)
  <|bx<|ck (i:=3) rh.a O (av O)<|bv Cf b4 O bw<|aq 7#2 aC)))))
  (bm (qW hu 7#0 7#3 (zm (fJ uG (bP ft 7#2 7#3 2#0) aS<|eV _) 7#2
  <|fq ["found","row","left","place","top","pair","places","k"] ["number"] [ac] (gg<|ai 2) (λcl C c0 c2 ex=>cx (i:=0) (dM ["number"]) O<|av O) (λcl C c0 c2 ex=>eU) (λcl C c0 c2 ex=>qX qU<|ai 0) (te:=Gu (zi λi=>.int<|-i)<|bZ 0) (hfr:=nv δ)) O)
  (bm (ck (i:=6) rh.a O (av O)<|dO (zx O) O bs zW<|aq 7#0 aC)
  (bx (jB iW O (Oi O bg<|aq (cu mN (dO fU O bn Qh<|aq 7#6 aC) aS)<|aq (qX qU aS)<|aq (qX qU aS) aC) (cx (i:=7) rh.a O<|av O)
  <|bx<|qW hu 7#0 (bP ft 7#6 7#7 2#0) (bv Cr hr O bw<|aq (mM hu 7#0 (bP ft 7#6 7#7 2#0) 2#0)<|aq 7#0<|aq (pd sW 7#6 (mK<|cu jN 7#7 aS) mL) aC) O)))))),?_)
 let c9:es.length<64:=by have:=hP.q;have:=FS.c;have:=L.d;lk
 let T0:=FS.A0 L.a c4 hM;let a7:(R++[aQ rn]).length<=N:=%[eE|c4]
 let pv:∀{x:Nat},x<=B->x<2 ^ 9000:=λh=>fH h L.e;let d0:tF fR W rn PP:=HU L.hR a7 (λp hp=>(T0.A0 L.a).1 p hp) FS.a.a (λp hp=>pv<|FS.g p hp) hW hn (λi=>FS.A1 L.a c4 hM i) L.c;show(_,O,_,O,_,O,a,lI es,O,hF.b,5#c9,λPL ms pm so b0=>?_);rw[hP.F pm so];let sP:=aM.q (o:=.lst<|PP.map λp:Nat=>ak.int (p:Int)) b0;show(r,a,PL,rn,es,fR,PP,W,O,sP _ _ h1,hF.q sP,aI,λp hp=>hP.a.mem_iff.mp hp,d0,λd H1 s1 hd=>?_);let e0:aQ (fX fR rn PP)=iI (di fR) PP (aQ rn):=xk hn λp hp=>(hW.row p hp).2;rw[<-e0] at T0;let l0:(fX fR rn PP).length=W:=xu hn λp hp=>(hW.row p hp).2;let(q,q1,q2,q3,q4,q5):=PV<|T0.J L.b.ind L.hR;show(_,O,d,fX fR rn PP,q,O,hd,q2,q3,?_);let B0:Ih a d q W N M X B (R++[aQ rn]) PP H H1 (fX fR rn PP) es fR 0:=(.q<|sP.trans s1,hF.q<|sP.trans s1,hP,hW,hd,l0,T0,cJ _,(à q1 (å l0)),q4,q5);show(λn σ H3=>∃(d:ab)(q:Nat)(ln:Ζ)(es:List (Nat×ab))(U:Nat->Ζ)(t:Nat)(v4 v5:Option ak),n=W-q/\σ=[aa<|.ref a,aa<|.ref r,aa<|.ref d,aa<|.int q,v4,v5,ac,ac]/\Ih a d q W N M X B (R++[aQ rn]) PP H H3 ln es U t,
  (_,d,q,_,es,fR,0,ac,ac,O,O,B0),?_)
 clear B0 q5 q4 q3 q2 q1 l0 e0 hd s1 sP b0 so pm d0 T0;clear d q H1 PL ms;rintro n σ H3 ⟨d,q,ln,es,U,t,v4,v5,rfl,rfl,T⟩;cases hq:q∈PP;let(c,hc,gc,a3):=T.e.F<|T.b.a.mem_iff.mp hq;show(_,O,_,O,a,_,O,gc,_,O,?_);let rW:=T.f.row q hq;let e9:=T.h;let mW:=T.f.a;let x0:0<di U q q:=T.ts.a.a q hq;let(g2,y1):=T.ts.h q hq;let y0:0<aQ ln q:=by have:=T.g;lk
 let xb:(di U q q).natAbs<2 ^ 9000:=pv<|T.ts.c q hq;let yb:(aQ ln q).natAbs<2 ^ 9000:=fH ω xb;let c9:es.length<64:=by have:=T.b.q;have:=FS.c;have:=L.d;lk
 let c5:q∈es.map (·.1):=T.b.a.mem_iff.mp hq;show gG (λd3 H'=>∃n',n'<W-q/\∃(d:ab)(q:Nat)(ln:Ζ)(es:List (Nat×ab))(U:Nat->Ζ)(t:Nat)(v4 v5:Option ak),n'=W-q/\d3=[aa<|.ref a,aa<|.ref r,aa<|.ref d,aa<|.int q,v4,v5,ac,ac]/\Ih a d q W N M X B (R++[aQ rn]) PP H H' ln es U t,λd3 H' h=>h,?_);show(_,O,_,O,a,_,O,gc,?_);show(_,O,_,O,c,_,_,_,O,O,bJ.q a3,bX<|xy (à rW.1 (æ rW.2)),_,O,_,O,d,_,_,_,O,O,bJ.q T.c,bX<|xy (à rW.1 (æ e9)),di U q q,aQ ln q,O,x0,y0,xb,yb,λr0 p1 p2 H4 g a1 b1 c1 d1 s4 b5 d4 d5 G=>?_);let Mi:=T.ts.A1 L.a hq T.j T.g T.m G;let(T2,ϟ):=T.ts.next L.a hq T.j T.g T.m G;let rp:=T.ts.A0 L.a;let d6:∀{l:Ζ},ez (R++[aQ rn]) (kG N M X B) (aQ l)->∀x∈l,x.natAbs<iQ:=λh x hx=>by
  let(u,ϟ,rfl):=Dg hx;show fH (aL (h.le (u:=u) λr hr=>L.hR r hr u)<|eC _ a7) L.c
 let a8:∀{k:Int},k.natAbs<=B->∀{x:Int},x.natAbs<iQ->kL k x:=by
  intro k hk x hx;show(9000,tE,pv hk,hx,by have:=u_;lk)
 let er:=d6<|rp.1 q hq;let el:=d6 rp.2;show(_,O,r0,_,_,_,O,O,gr.q b5,bX (j:=0) O,p1,_,_,_,O,O,gr.q d4,bX (j:=1) O,_,O,_,O,r0,_,_,_,O,O,gr.q b5,bX (j:=0) O,p1,_,_,_,O,O,gr.q d4,bX (j:=2) O,_,O,c,d,_,_,_,_,O,s4 _ _ a3,s4 _ _ T.c,(à (å e9) mW),λx hx=>a8 Mi.g<|er x hx,λx hx=>a8 Mi.j<|el x hx,λe H5 s5 g3 he=>?_);let F5:=T.e.q<|s4.trans s5;let(H6,dp,F6,o6):=F5.J (H2:=H5) (p:=q) he (â c9);show(_,O,_,O,a,H6,O,dp,?_);let d7:=(T.e.q s4).b;let a5:∀b o,b≠a->H4 b=aa o->H6 b=aa o:=λb o hb e=>%[o6 b hb|s5 _ _ e]
 let f1:r0≠a:=λz=>by rw[z,d7] at b5;cases b5
 let f2:p2≠a:=λz=>by let h:=d5;unfold vc at h;rw[z,d7] at h;cases h
 let nc:c≠a:=HV T.e a3;let nd:d≠a:=HV T.e T.c;let d8:=a5 _ _ f1 b5;let d9:=a5 _ _ f2 d5;show(_,O,r0,_,_,_,O,O,gr.q d8,bX (j:=1) O,p2,_,_,_,O,O,gr.q d9,bX (j:=1) O,_,O,_,O,r0,_,_,_,O,O,gr.q d8,bX (j:=1) O,p2,_,_,_,O,O,gr.q d9,bX (j:=2) O,_,O,c,d,_,_,_,_,O,a5 _ _ nc<|s4 _ _ a3,a5 _ _ nd<|s4 _ _ T.c,(à (å e9) mW),λx hx=>a8 Mi.k<|er x hx,λx hx=>a8 Mi.d1<|el x hx,λm H7 s7 g4 hm=>?_);let a9:pr (mj es q e) PP:=(%[Df,aw c5|T.b.a],T.b.b);let e2:(mj es q e).length<64:=by have:=a9.q;have:=T.b.q;lk
 show(_,O,_,O,a,lI<|mj es q e,O,(F6.q s7).b,5#e2,λPL ms pm so b0=>?_);rw[a9.F pm so];let sP:=aM.q (o:=.lst<|PP.map λp:Nat=>ak.int (p:Int)) b0;let W2:jR W PP (km U q<|mm a1 (U q) b1 ln):=T.f.q (by ext mm;rw[i_];lk);let lm:(mm c1 (U q) d1 ln).length=W:=by ext mm;rw[i_];lk
 let ef:di (km U q<|mm a1 (U q) b1 ln)=fB (di U) q (gQ a1 (di U q) b1<|aQ ln):=by rw[GY,Pw %[|û (à (å rW.2) (æ e9)) (à (å e9) (æ rW.2))]];rfl
 let em:aQ (mm c1 (U q) d1 ln)=gQ c1 (di U q) d1 (aQ ln):=by rw[Pw %[|û (à (å rW.2) (æ e9)) (à (å e9) (æ rW.2))]];rfl
 rw[<-ef,<-em] at Mi T2;let f3:tF (km U q<|mm a1 (U q) b1 ln) W (mm c1 (U q) d1 ln) PP:=HU L.hR a7 Mi.fr Mi.h.a (λp hp=>pv<|Mi.e p hp) W2 lm Mi.met L.c;show(m,a,PL,_,mj es q e,km U q<|mm a1 (U q) b1 ln,PP,W,O,sP _ _ hm,(F6.q s7).q sP,aI,λp hp=>a9.a.mem_iff.mp hp,f3,λd2 H9 s9 e3=>?_);rw[<-xk (W:=W) lm λp hp=>(W2.row p hp).2] at T2;let(q',q1,q2,q3,q4,q5):=PV<|T2.J L.b.ind L.hR;let l9:(fX (km U q<|mm a1 (U q) b1 ln) (mm c1 (U q) d1 ln) PP).length=W:=xu lm λp hp=>(W2.row p hp).2;let qq:q+1<=q':=TP λh=>q5<|T2.n q' h;show(_,O,d2,_,q',O,e3,q2,q3,?_);show(W-q',ω,d2,q',_,mj es q e,km U q<|mm a1 (U q) b1 ln,q+1,_,_,O,O,(?_,((F6.q s7).q sP).q s9,a9,W2,e3,l9,T2,qq,(à q1 (å l9)),q4,q5));show T.l.trans<|(pt.q s4).trans<|(show pt a H4 H6 from a5).trans<|.q<|(s7.trans sP).trans s9;show(_,O,_,O,a,_,O,T.e.no (λh=>hq<|T.b.a.mem_iff.mpr h),_,O,?_);let e9:=T.h;let mW:=T.f.a;show gi (_,O,_,O,d,_,_,_,O,O,bJ.q T.c,bX<|xy (by have:=T.k;show à this (æ e9)),_,_,O,O,_,O,?_);apply PD (S:=λu H4=>aM H3 H4/\H4 u=aa (.lst<|(pn ln q).map ak.int));intro c6 hc;show(_,O,d,O,(_,bJ.q T.c),λD hD=>fu<|nw (xs:=ln.map ak.int) (λj σ ys H4=>∃v,σ=[v]/\aM H3 H4/\H4 D=aa (.lst ys)/\ys=((ln.take j).map λx=>-x).map ak.int) (ac,O,aM.q hD,aI,O) ?_ ?_ ?_);rintro j σ ys H4 ⟨v,rfl,sm,_⟩;show bJ.q<|sm _ _ T.c;rintro j σ ys H4 x hx hj hy ⟨v,rfl,sm,c7,rfl⟩;let(y,gy,rfl):=rj hx;show jD (_,O,_,O,gH %[aA|mQ (â (à (å e9) mW))] hj hy c7 (_,O,sm.F hD,aI,?_));rw[kM gy,cH,cH];rfl;rintro σ ys H4 ⟨v,rfl,sm,c7,rfl⟩;show c6 D H4 (sm,?_);rw[c7,aA,eF<|aE _];ext pn;rw[ar λh=>hc<|cN h];intro c6 hc;show(_,O,c6 d H3 (aM.refl _,?_));ext pn;rw[aw<|gP hc];show T.c;rintro u H4 ⟨s4,e4⟩;let S0:=T.ts.A2 L.a hq T.j T.g;let c5:q∉es.map (·.1):=λh=>hq<|T.b.a.mem_iff.mpr h;let F4:=T.e.q s4;let g5:=T.b.q;let zP:=FS.c;let zN:=L.d;let(H5,dp,F5,o5):=F4.J (H2:=H4) (p:=q) e4 ω;show(_,O,_,O,a,H5,O,dp,?_);let lu:(pn ln q).length=W:=%[ZO|T.h]
 let ef:di (km U q<|pn ln q)=fB (di U) q (ni (aQ ln) q):=#v[GY,ZH]
 rw[<-ef] at S0;let a6:pr (mj es q u) (ins q PP):=(%[Df,ar c5|PU.trans<|T.b.a.append_right [q]],S0.a.imp λh=>oK h);let b6:jR W (ins q PP) (km U q<|pn ln q):=by
  show(mW,λp hp=>?_);ext km;obtain rfl|h:=sI.mp hp;rw[aw O];show(T.k,lu);have:p≠q:=λz=>hq<|z▸h;rw[ar this];show T.f.row p h
 let e5:pt a H H5:=T.l.trans ((pt.q s4).trans λb o hb e=>%[o5 b hb|e]);let lQ:(ins q PP).length=PP.length+1:=FI;clear o5 dp F4 e4 s4 ef;generalize km U q (pn ln q)=f0 at S0 F5 b6;generalize mj es q u=e6 at F5 a6;generalize ins q PP=I at S0 a6 b6 lQ;show(_,O,a,lI e6,O,F5.b,(by have:=a6.q;simp;lk),λPL ms pm so b0=>?_);rw[a6.F pm so];let sP:=aM.q (o:=.lst<|I.map λp:Nat=>ak.int (p:Int)) b0;show(_,O,PL,_,O,.inl<|bJ.q aI,_,_,O,O,_,O,_,O,_,_,O,(by rw[aA];lk,by rw[aA];lk,ω,ω),?_);let c3:(((I.map λp:Nat=>ak.int (p:Int)).length:Nat):Int)=(I.length:Int):=#v[aA]
 show OE (λi σ H6=>∃(es:List (Nat×ab))(U:Nat->Ζ)(v7:Option ak),σ=[aa<|.ref a,aa<|.ref r,aa<|.ref d,aa<|.int q,v4,v5,aa<|.ref PL,v7]/\pt a H H6/\lK H6 a es U/\pr es I/\jR W I U/\H6 PL=aa (.lst<|I.map λp:Nat=>ak.int (p:Int))/\di U=g_ (di f0) (I.drop<|I.length-i))
  (e6,f0,ac,O,e5.trans<|.q sP,F5.q sP,a6,b6,aI,by rw[EU,ala];rfl) ?_ ?_
 rintro i σ H6 hi ⟨b8,f6,v7,rfl,b7,F6,a0,Z,a4,hv⟩;let g6:i<I.length:=ω;obtain⟨kk,g7⟩:∃kk,kk=I.length-1-i:=(_,O);let b9:kk<I.length:=ω;rw[show(((I.map λp:Nat=>ak.int (p:Int)).length:Nat):Int)-1-((i:Nat):Int)=((kk:Nat):Int) by rw[c3];lk];let gk:(I.map λp:Nat=>ak.int (p:Int))[kk]?=aa (ak.int ((I[kk]:Nat):Int)):=by rw[ca,bu b9];rfl
 let eQ:I=I.take kk++I[kk]::I.drop (kk+1):=by rw[<-AY b9,yx]
 let ed:I.drop (I.length-i)=I.drop (kk+1):=#v[show I.length-i=kk+1 from ω]
 let c8:I.drop (I.length-(i+1))=I[kk]::I.drop (kk+1):=%[show I.length-(i+1)=kk from ω|AY b9]
 rw[ed] at hv;rw[c8];let b2:I[kk]∈I:=dW b9;let b3:∀p∈I.drop (kk+1),p∈I:=λp hp=>v_ hp;generalize f4:I.drop (kk+1)=ps at eQ hv ed c8 b3 ⊢;generalize I[kk]=p at gk eQ c8 b2 ⊢;let f5:p∉ps:=λh=>by
  let s:=S0.a;rw[eQ,Le] at s;show oJ p<|(kU.mp s.2.1).1 p h
 let(e1,bd,rp):=S0.q L.a L.b (pre:=I.take kk++[p]) (ps:=ps) %[Uh|eQ];let cc:iK N X B<=kG N M X B:=aL (by ext ja;show í ý)<|aL (FV L.a) wA;let e7:aQ (f6 p)=di f0 p:=by
  have:di f6 p=di f0 p:=#v[hv,Mo f5]
  show this
 let f7:tF f6 W (f6 p) ps:=by
  show HU (CE:=kG N M X B) L.hR a7 (λp' a2=>?_) (λp' a2=>?_) (λp' a2=>?_) (Z.F b3) (Z.row p b2).2 (λj=>?_) L.c;rw[hv];show(rp p' a2).q cc;rw[hv];show e1.a p' a2;rw[hv];show pv<|bd p' a2 p'<|b3 p' a2;rw[hv,e7];show S0.met L.a L.b eQ j
 let(c,hc,gc,a3):=F6.F<|a0.a.mem_iff.mp b2;show(_,O,_,O,_,O,PL,_,_,_,O,O,bJ.q a4,bX gk,a,_,O,gc,_,O,_,O,_,O,_,_,O,O,_,O,PL,_,O,bJ.q a4,λSL f8=>?_);rw[show((kk:Nat):Int)+1=((kk+1:Nat):Int) from ω,xG,<-uk,f4];let sS:=aM.q (o:=.lst<|ps.map λp:Nat=>ak.int (p:Int)) f8;show(c,a,SL,f6 p,b8,f6,ps,W,O,sS _ _ a3,F6.q sS,aI,λp' a2=>a0.a.mem_iff.mp<|b3 p' a2,f7,λD H8 s8 f9=>?_);let z6:=a0.q;let(H9,dp,F9,o9):=((F6.q sS).q s8).J (H2:=H8) (p:=p) f9 ω;let g0:PL≠a:=HV F6 a4;show(_,O,_,O,_,O,PL,_,_,_,O,O,bJ.q<|(sS.trans s8) _ _ a4,bX gk,a,H9,O,dp,mj b8 p D,km f6 p<|fX f6 (f6 p) ps,_,O,?_,F9,(?_,a0.b),?_,?_,?_);show b7.trans ((pt.q<|sS.trans s8).trans λb o hb e=>%[o9 b hb|e]);rw[Df,aw<|a0.a.mem_iff.mp b2];show a0.a;show Z.q<|xu (Z.row p b2).2 λp' a2=>(Z.row p'<|b3 p' a2).2;rw[o9 PL g0];show(sS.trans s8) _ _ a4;rw[GY,xk (Z.row p b2).2 (λp' a2=>(Z.row p'<|b3 p' a2).2),hv,e7];rfl;rintro σ H6 ⟨b8,f6,v7,rfl,b7,F6,a0,Z,a4,hv⟩;rw[show I.length-((((I.map λp:Nat=>ak.int (p:Int)).length:Nat):Int)-1 - -1).toNat=0 by rw[c3];lk,Lu] at hv;show k H6 b8 f6 I b7 F6 a0 Z ?_;rw[hv];show S0.done L.a L.b
abbrev HO:b_:=gT 47
structure Ql(N M X B Y W:Nat)(tb:Ξ):Prop where
 c:W<=1000
 a:tb.length<=N
 d:∀r∈tb,r.length=W
 b:∀i,i<tb.length->Qk N M X B Y ((tb.take<|i+1).map aQ)
 row:∀i r,tb[i]?=aa r->∀Q f,fC N M X B ((tb.take i).map aQ) Q f->∀p∈Q,(aQ r p).natAbs<=M
inductive Hr(vs:List ak)(H:ag)(Q:aR)(E':cy):Prop
 |b:∀(L:ab)(rs:List ab)(tb:Ξ)(N M X B Y W:Nat),(vs=[.ref L])->(H L=aa (.lst<|rs.map ak.ref))->(dg H rs tb)->(Ql N M X B Y W tb)->(∀a H' es fr P,aM H H'->H a=ac->lK H' a es fr->pr es P->jR W P fr->fC N M X B (tb.map aQ) P (di fr)->Q 6#a H')->Hr vs H Q E'
def Hx:cR ["rows","found","row"] ["rows"] (bD HO):=1#0
def pt.F(h:pt a d f)(e:d=aN H a o)(g:H a=ac):aM H f:=λb v c=>by
 let n:b≠a:=λz=>by rw[z,g] at c;cases c
 show h b v n %[e,bI n|c]
def aay(F:cz K "echelon_of" "echelon_of" HO f U)(Ct:bW P w K mg base aZ "take_in" ["found","row"] 3 G'):cp P w K mg base aZ 4 f U ["rows"] Hr:=by
 show F.q Hx λa0 A v s H vs Q E hr=>?_;rintro⟨L,rs,Z,N,M,X,B,Y,W,rfl,hL,ht,l,k⟩;show(_,bm (ck (i:=1) Hx.a O (av O) zo)
  (bm (jB iW O (gg<|ai 0) (cx (i:=2) Hx.a O<|av O)
  <|bx<|pa<|bv Ct hr O bw<|aq 7#1<|aq 7#2 aC)
 <|bx<|cE<|ai 1),?_)
 show λa m=>(_,O,L,O,(_,bJ.q<|aM.q m _ _ hL),qc (K:=K) (a:=L) (xs:=rs.map ak.ref) (λi u h=>∃(y:Option ak)(j:List (Nat×ab))(c:Nat->Ζ)(d:List Nat),u=[aa<|.ref L,aa<|.ref a,y]/\pt a (aN H a<|.a []) h/\lK h a j c/\pr j d/\jR W d c/\fC N M X B ((Z.take i).map aQ) d (di c))
  (ac,[],λ_=>[],[],O,λ_ _ _ e=>e,(aI,pK,λe he=>nomatch he),(.refl _,.nil),(l.c,λp hp=>nomatch hp),fC.J) (λi u h _ (_,_,_,_,_,b,_)=>bJ.q<|(b.F O m) _ _ hL) ?_ ?_)
 rintro i x u h hx ⟨y,j,c,d,rfl,b,z,g,C,n⟩;let(o,eo,rfl):=uX hx;let(D,q,ho):=ht.J eo;let hi:i<Z.length:=(dN.mp q).1;let Li:=l.b i hi;rw[kM q,cH] at Li;let a1:=l.a;show(_,O,_,O,a,o,D,j,c,d,N,M,X,B,Y,W,_,O,(b.F O m) _ _ ho,z,g,C,l.d D<|dL q,n,by rw[aA,gf];lk,l.row i D q d (di c) n,Li,λH3 G I P3 r F3 t R S=>?_);show(_,G,I,P3,O,b.trans r,F3,t,R,?_);rw[kM q,cH];show S;rintro u h ⟨y,j,c,d,rfl,b,z,g,C,n⟩;let T:=ht.F;rw[aA,T,eF<|aE _] at n;show(_,O,k a h j c d (b.F O m) m z g C n)
def YP{K:aT}{j k:ab}{g:gK}{q:gJ}{D:nx}(b:Nat->aY->ag->Prop)(s:b 0 a H)(t:∀i a H,b i a H->bJ K H j xs/\bJ K H k ys)(u:∀i x y p a H,xs[i]?=aa x->ys[i]?=aa y->H p=ac->b i a H->g 6#p a (aN H p<|.tup [x,y]) λc l=>q {D with a:=b<|i+1,b:=b<|i+1,c:=D.a} c l)(v:∀a H,b (dy xs.length ys.length) a H->D.a a H):∃W:Nat->Nat->aY->ag->Prop,(∃m,W 0 m a H)/\∀i m a H,W i m a H->
   ((rf K j k).b i H/\D.a a H)\/((rf K j k).a i H/\∃N:aY->ag->Prop,(∀d f,N d f->∃r,r<m/\W (i+1) r d f)/\∀x f,(rf K j k).c i H x f->g x a f λc l=>q {D with a:=N,b:=N,c:=D.a} c l):=by
 show(λi m a H=>m=dy xs.length ys.length-i/\i<=dy xs.length ys.length/\b i a H,(_,O,cJ _,s),?_);rintro i m a H ⟨rfl,G,p⟩;let(n,o):=t i a H p
 cases h:i<dy xs.length ys.length
 show .inr ((xs,ys,n,o,h),b<|i+1,λd f w=>(_,ω,O,h,w),λx f y=>?_)
 let(z,x,A,rfl,B,rfl,C,E):=y;show u i x A z a H (C xs n) (E ys o) B p
 let e:i=dy xs.length ys.length:=(û G (ô h))
 subst e;show .inl ((xs,ys,n,o,O),v a H p)
abbrev HJ:b_:=gT 54
def ml(l:Ζ)(x:Int×Ζ):Ζ:=jn l (-x.1) x.2
def uY(w:Nat)(a:Ζ)(b:Ξ):Ζ:=(a.zip b).foldl ml<|eL w 0
def PN{l:Ζ}{x:Int×Ζ}{w:Nat}(h:l.length=w)(a:x.2.length=w):(ml l x).length=w:=by ext ml jn;rw[i_];lk
def aa6{l row:Ζ}(h:l.length=row.length):ml l (ahl 0 row)=l:=HX h
def HW{w:Nat}:∀{zs:List (Int×Ζ)}{l:Ζ},l.length=w->(∀z∈zs,z.2.length=w)->(zs.foldl ml l).length=w
 |[],_,h,_=>h
 |z::zs,l,h,a=>HW (zs:=zs) (PN h<|a z<|fy ..) λy b=>a y<|gF _ b
inductive xn(vs:List ak)(H:ag)(Q:aR)(E':cy):Prop
 |b:∀(a L:ab)(ns:Ζ)(rs:List ab)(tb:Ξ),(vs=[.ref a,.ref L])->(H a=aa (.lst<|ns.map ak.int))->(H L=aa (.lst<|rs.map ak.ref))->(dg H rs tb)->(gu tb<=1000)->((∀r∈tb,r.length=gu tb))->((∀z∈ns.zip tb,∀x∈z.2,kL (-z.1) x))->(vf H Q<|uY (gu tb) ns tb)->xn vs H Q E'
def zR:cR ["numbers","rows","told","often","row"] ["numbers","rows"] (bD HJ):=1#0
def aas(F:cz K "mix_of" "mix_of" HJ f fd)(bz:mg "zip"=ac)(Cw:bW P w K mg base aZ "width_of" ["table"] 1 (CO K))(Cl:bW P w K mg base aZ "less" ["row","often","other"] 1 xo):cp P w K mg base aZ 2 f fd ["numbers","rows"] xn:=by
 show F.q zR λa0 A B s H vs Q E hr=>?_;rintro⟨a,L,l,rs,b,rfl,ha,C,G,hw,j,hm,k⟩;show(_,bm (ck (i:=2) zR.a O (av O)<|cu GB (jm<|aq aS aC)<|bv Cw hr O bw<|aq 7#1 aC)
  (bm (jB iW O (wL O bz va<|aq 7#0<|aq 7#1 aC) (nr O<|hJ (cx (i:=3) zR.a O<|av O)<|hJ (cx (i:=4) zR.a O<|av O) nq)
   (bx (hH (fJ sY 7#3 aS<|eV _)
    (bx<|ck (i:=2) zR.a O (av O)<|bv Cl hr O bw<|aq 7#2<|aq (qX qU<|ai 3)<|aq 7#4 aC) hC)))
 <|bx<|cE<|ai 2),?_)
 show(ξ,λZ hZ=>?_);let t:=aM.q (o:=.lst [.int 0]) hZ;show(_,O,L,rs,b,O,bJ.q<|t _ _ C,G.q t,Z,_,_,O,O,aI,ω,ω,(by rw[iC];simp;show â hw),λT hT=>?_);let sT:=aM.q (o:=.lst (eL ((gu b:Nat):Int).toNat [ak.int 0]).flatten) hT;let I:=t.trans sT;let M:H T=ac:=t.J hT;let eT:(eL ((gu b:Nat):Int).toNat [ak.int 0]).flatten=(eL (gu b) (0:Int)).map ak.int:=by
  rw[sz,TX];generalize gu b=n;induction n with
  |zero=>rfl
  |succ n ih=>rw[qG,yB,ih,qG];rfl
 let N:=G.F;show(_,O,_,O,a,L,O,(_,bJ.q<|I _ _ ha),(_,bJ.q<|I _ _ C),YP (K:=K) (xs:=l.map ak.int) (ys:=rs.map ak.ref) (λi u q=>∃(d:ab)(R S:Option ak),u=[aa<|.ref a,aa<|.ref L,aa<|.ref d,R,S]/\aM H q/\H d=ac/\q d=aa (.lst<|(((l.zip b).take i).foldl ml<|eL (gu b) 0).map ak.int))
  (T,ac,ac,O,I,M,by rw[aI,eT];rfl) (λi u q (_,_,_,_,c,_)=>(bJ.q<|c _ _ ha,bJ.q<|c _ _ C)) ?_ ?_)
 rintro i x y p u q U hy hp ⟨d,R,S,rfl,c,m,v⟩;let(n,gn,rfl):=rj U;let(o,eo,rfl):=uX hy;let(g,er,ho):=G.J eo;let W:(l.zip b)[i]?=aa (ahl n g):=%[Lo|(gn,er)]
 let lz:∀z∈l.zip b,z.2.length=gu b:=λz X=>j z.2 (rU X).2;let ll:(((l.zip b).take i).foldl ml<|eL (gu b) 0).length=gu b:=HW 0#0 λz X=>lz z<|qH X;let r:=aM.q (o:=.tup [ak.int n,ak.ref o]) hp;let e2:((l.zip b).take<|i+1).foldl ml (eL (gu b) 0)=ml (((l.zip b).take i).foldl ml<|eL (gu b) 0) (ahl n g):=by rw[kM W,um];rfl
 show(p,_,O,gr.q aI,O,_,_,O,_,_,O,O,_,O,O,_,O,?_);cases z:n=0;rw[show(!aJ (ak.int n=ak.int 0))=aH by rw[z];rfl];show gi (d,_,_,O,c.trans r,m,?_);rw[e2,z,aa6 %[ll|(lz _<|dL W).symm]];let h:=r _ _ v;rw[z] at h;show h;rw[show(!aJ (ak.int n=ak.int 0))=ap by rw[dD (λe=>z (by injection e))];rfl];show gG (_,O,_,O,_,O,_,O,d,o,_,g,-n,O,r _ _ v,r _ _<|c _ _ ho,%[j g<|dL er|hw],λx U=>hm _ (dL W) x U,λD H4 s4 hD Y=>?_);show(D,_,_,O,(c.trans r).trans s4,(c.trans r).J hD,?_);rw[e2];show Y;rintro u q ⟨d,R,S,rfl,c,m,v⟩;show(_,O,k d q c m ?_);rw[v,eF %[ul,aA,aA,N|aE _]];rfl
abbrev HC:b_:=gT 40
def lF(a:Ζ)(k w:Nat):Ζ:=if k<a.length then(eL w (0:Int)).set k (a.getD k 0) else eL w 0
def υ{w:Nat}:(eL ((w:Nat):Int).toNat [ak.int 0]).flatten=(eL w (0:Int)).map ak.int:=by
 rw[sz,TX];induction w with
 |zero=>rfl
 |succ n a=>rw[qG,yB,a,qG];rfl
inductive xm(vs:List ak)(H:ag)(Q:aR)(E':cy):Prop
 |b:∀(a:ab)(ns:Ζ)(kk ww:Nat),(vs=[.ref a,.int kk,.int ww])->(H a=aa (.lst<|ns.map ak.int))->(ww<=1000)->((kk<ns.length->kk<ww))->(vf H Q<|lF ns kk ww)->xm vs H Q E'
def PE:cR ["numbers","k","width","row"] ["numbers","k","width"] (bD HC):=1#0
def aai{j:cm}(F:cz K "slope_row" "slope_row" HC f j)(p:mg "len"=ac):cp P w K mg base aZ 1 f j ["numbers","k","width"] xm:=by
 show F.q PE λq A h s H z Q E B=>?_;rintro⟨a,e,d,r,rfl,l,C,t,k⟩;show(_,bm (ck (i:=3) PE.a O (av O)<|cu GB (jm<|aq aS aC)<|ai 2)
  (bm (hH (fJ wP 7#1 (dO fU O p Qh<|aq 7#0 aC)<|eV _)
   (bx<|wK (bP ft 7#0 7#1 2#0)<|wM 7#3 7#1 wI) hC)
 <|bx<|cE<|ai 3),?_)
 show(ξ,λZ u=>?_);let m:=aM.q (o:=.lst [.int 0]) u;show(_,O,Z,_,_,O,O,aI,ω,ω,(by rw[iC];simp;show â C),λT n=>?_);rw[υ];let v:=aM.q (o:=.lst<|(eL r (0:Int)).map ak.int) n;let g:=m.trans v;let b:H T=ac:=m.J n;show(_,O,_,O,a,_,O,.inl<|bJ.q<|g _ _ l,_,_,O,O,_,O,?_);rw[aA];cases c:d<e.length;rw[cN (show((d:Nat):Int)<((e.length:Nat):Int) from ω)];let x:=t c;let y:(e.map ak.int)[d]?=aa (ak.int<|e.getD d 0):=xy c;show gG (_,O,_,O,a,_,_,_,O,O,bJ.q<|g _ _ l,bX y,_,O,_,O,T,_,_,d,O,O,aI,?_,?_);ext og;rw[aA,rY];simp[x];show(_,O,k T _ (g.F b) b ?_);ext lF;rw[aw c,aI,akq];rw[dD (show ¬((d:Nat):Int)<((e.length:Nat):Int) from ω)];show gi (_,O,k T _ g b ?_);ext lF;rw[ar c,aI]
abbrev CZ:b_:=gT 39
abbrev Hz:b_:=gT 43
def zJ(a:Ζ)(n w:Nat):Ξ:=(aP n).map λk=>lF a k w
inductive Hm(vs:List ak)(H:ag)(Q:aR)(E':cy):Prop
 |b:∀(a:ab)(ns:Ζ)(n ww:Nat),(vs=[.ref a,.int n,.int ww])->(H a=aa (.lst<|ns.map ak.int))->(n<=1000)->(ww<=1000)->((∀k,k<n->k<ns.length->k<ww))->(ve H Q<|zJ ns n ww)->Hm vs H Q E'
def Z':cR ["numbers","size","width"] ["numbers","size","width"] (bD CZ):=1#0
def aaq{q:cm}(F:cz K "on_slope" "on_slope" CZ f q)(z:mg "range"=ac)(B:bW P w K mg base aZ "slope_row" ["numbers","k","width"] 1 xm):cp P w K mg base aZ 2 f q ["numbers","size","width"] Hm:=by
 show F.q Z' λG A e s H vs Q E I=>?_;rintro⟨a,r,n,t,rfl,L,u,M,N,k⟩;show(_,bx (cE (fq ["numbers","size","width"] ["k","numbers","width"] [ac,aa 0,aa 2] (sX O z<|aq 7#1 aC) (λv C b c x=>cx (i:=0) (dM ["k","numbers","width"]) O<|av O) (λv C b c x=>eU)
  (λv C b c x=>bv B I O bw<|aq 7#1<|aq 7#0<|aq 7#2 aC) (te:=mJ xm [] mP<|eO (bZ 1)<|eO (bZ 0)<|eO (bZ 2) iw) (hfr:=gS (bD CZ) δ))),?_)
 show(_,O,_,O,ω,ω,λD y=>?_);show PT (n:=n) (g:=λk=>lF r k t) (λj H' R S T U=>(_,O,_,O,_,O,a,r,j,t,O,T _ _ L,M,N j S,λd V h W X=>U d V h W X)) u y λY Z l m o p u=>k D Y Z l y m o p u
def eP(n:Nat):Ξ:=zJ (eL n 1) n n
inductive G_(vs:List ak)(H:ag)(Q:aR)(E':cy):Prop
 |a:∀n:Nat,(vs=[.int n])->(n<=1000)->(ve H Q<|eP n)->G_ vs H Q E'
def ZW:cR ["size"] ["size"] (bD Hz):=1#0
def ς{w:Nat}:(eL ((w:Nat):Int).toNat [ak.int 1]).flatten=(eL w (1:Int)).map ak.int:=by
 rw[sz,TX];induction w with
 |zero=>rfl
 |succ n a=>rw[qG,yB,a,qG];rfl
def aae{i:cm}(F:cz K "unit" "unit" Hz f i)(m:bW P w K mg base aZ "on_slope" ["numbers","size","width"] 2 Hm):cp P w K mg base aZ 3 f i ["size"] G_:=by
 show F.q ZW λp A b s H C Q E c=>?_;rintro⟨n,rfl,j,k⟩;show(_,bx<|cE<|bv m c O bw<|aq (cu GB (jm<|aq aS aC)<|ai 0)<|aq 7#0<|aq 7#0 aC,?_);show(ξ,λZ q=>?_);let r:=aM.q (o:=.lst [.int 1]) q;show(_,O,Z,_,_,O,O,aI,ω,ω,(by rw[iC];simp;show â j),λT t=>?_);rw[ς];let u:=aM.q (o:=.lst<|(eL n (1:Int)).map ak.int) t;let e:=r.trans u;show(_,O,_,O,T,_,n,n,O,aI,j,j,λk v _=>v,λD x y z B g c h a=>?_);show k D x y (e.trans z) (e.J B) g c h λd l=>(e.J (a d l).1,(a d l).2)
def qg(r c:Ζ):Int:=(fe (·*·) r c).sum
abbrev CW:b_:=gT 31
def Ig(r c:Ζ):Prop:=∀x∈r,∀y∈c,kL x y
def abh:gb "sum"=aa (.builtin "sum"):=δ
inductive CP(vs:List ak)(H:ag)(Q:aR)(E':cy):Prop
 |a:∀r c rn cn,(vs=[.ref r,.ref c])->(H r=aa (.lst<|rn.map ak.int))->(H c=aa (.lst<|cn.map ak.int))->(cn.length<=1000)->(Ig rn cn)->(∀H',aM H H'->Q (.int<|qg rn cn) H')->CP vs H Q E'
def ZX:cR ["row","column"] ["row","column"] (bD HB):=1#0
def aag{n:cm}(F:cz K "sum_by" "sum_by" HB W n)(u:mg "zip"=ac)(v:mg "sum"=ac):cp P w K mg base aZ 1 W n ["row","column"] CP:=by
 show F.q ZX λx A h s H T Q E U=>?_;rintro⟨r,c,y,z,rfl,o,p,B,G,k⟩;show(_,bx (cE (dO (Cx O) O v abh (aq (fq ["row","column"] ["number","other"] [ac,ac] (wL O u va<|aq 7#0<|aq 7#1 aC)
  (λq C d e t=>nr O<|hJ (cx (i:=0) (dM ["number","other"]) O<|av O)<|hJ (cx (i:=1) (dM ["number","other"]) O<|av O) nq) (λq C d e t=>eU)
  (λq C d e t=>cu zq 7#0<|ai 1) (te:=eM (kg kL λX j=>.int<|X*j) (bZ 0)<|bZ 1) (hfr:=nv δ) (g:=kI K 2<|fM (de 0)<|fM (de 1) kJ)) aC))),?_)
 show(_,O,_,O,r,c,O,(_,bJ.q o),(_,bJ.q p),λD I=>?_);show fu (GW (f:=λa b=>a*b) (λa b V R L M N=>(_,O,_,O,_,_,O,O,G a L b M,N)) o p B I λS l m=>(D,fe (·*·) y z,O,bJ.q m,k S l))
inductive CS(K:aT)(vs:List ak)(H:ag)(Q:aR)(E':cy):Prop
 |a:∀r C rn cs cb,(vs=[.ref r,.ref C])->(H r=aa (.lst<|rn.map ak.int))->(H C=aa (.lst<|cs.map ak.ref))->(dg H cs cb)->(cb.length<=1000)->((∀c∈cb,c.length<=1000/\Ig rn c))->(vf H Q<|cb.map<|qg rn)->CS K vs H Q E'
def Z_:cR ["row","columns"] ["row","columns"] (bD CY):=1#0
def aan{n:cm}(F:cz K "row_by" "row_by" CY f n)(z:bW P w K mg base aZ "sum_by" ["row","column"] 1 CP):cp P w K mg base aZ 2 f n ["row","columns"] (CS K):=by
 show F.q Z_ λB A c s H T Q E G=>?_;rintro⟨r,C,p,U,V,rfl,d,q,e,W,t,k⟩;show(_,bx (cE (fq ["row","columns"] ["column","row"] [ac,aa 0] (gg<|ai 1) (λu C a b v=>cx (i:=0) (dM ["column","row"]) O<|av O) (λu C a b v=>eU)
  (λu C a b v=>bv z G O bw<|aq 7#1<|aq 7#0 aC) (te:=mJ CP [] mP<|eO (bZ 1)<|eO (bZ 0) iw) (hfr:=gS (bD CY) δ))),?_)
 show(_,O,C,O,(_,bJ.q q),λD x=>?_);show fu<|PF (mkV:=ak.int) (g:=qg p) (λo h X R I L y M=>(_,O,_,O,r,o,p,h,O,I _ _ d,L,(t h y).1,(t h y).2,λN j=>M N j)) (bJ.q q) e W x λS l m=>k D S l x m
inductive Hj(K:aT)(vs:List ak)(H:ag)(Q:aR)(E':cy):Prop
 |a:∀L C rs tb cs cb,(vs=[.ref L,.ref C])->(H L=aa (.lst<|rs.map ak.ref))->(H C=aa (.lst<|cs.map ak.ref))->(dg H rs tb)->(dg H cs cb)->(tb.length<=1000)->(cb.length<=1000)->((∀c∈cb,c.length<=1000/\∀r∈tb,Ig r c))->(ve H Q<|tb.map λr=>cb.map<|qg r)->Hj K vs H Q E'
def ZZ:cR ["table","columns"] ["table","columns"] (bD CW):=1#0
def aam(F:cz K "rows_by" "rows_by" CW f u)(S:bW P w K mg base aZ "row_by" ["row","columns"] 2 (CS K)):cp P w K mg base aZ 3 f u ["table","columns"] (Hj K):=by
 show F.q ZZ λT A j s H vs Q E U=>?_;rintro⟨L,V,rs,tb,W,v,rfl,x,l,X,m,z1,Y,y,k⟩;show(_,bx (cE (fq ["table","columns"] ["row","columns"] [ac,aa 1] (gg<|ai 0) (λz C a b B=>cx (i:=0) (dM ["row","columns"]) O<|av O) (λz C a b B=>eU)
   (λz C a b B=>bv S U O bw<|aq 7#0<|aq 7#1 aC) (te:=mJ (CS K) [] mP<|eO (bZ 0)<|eO (bZ 1) iw) (hfr:=gS (bD CW) δ))),?_)
 show(_,O,L,O,(_,bJ.q x),λD G=>?_);show fu (xt (g:=λr=>v.map<|qg r) (λo I H' R M Z hm hR=>(_,O,_,O,o,V,I,W,v,O,Z,M _ _ l,m.q M,Y,λc N=>((y c N).1,(y c N).2 I hm),λd n e hd e4=>hR d n e hd e4))
   (bJ.q x) X z1 G λn ds e p q h t=>?_)
 show k D n ds e G p q h t
def ZE{w x:List ab}{r n:Ξ}{Q:aR}{g:Ζ->Ζ->Ζ}{P:bp}{c:List (Option ak)}(y:∀(o u:ab)(p q:Ζ)(H:ag)(R:aR),aM f H->H o=aa (.lst<|p.map ak.int)->H u=aa (.lst<|q.map ak.int)->p∈r->q∈n->(∀d z,aM H z->H d=ac->z d=aa (.lst<|(g p q).map ak.int)->R 6#d z)->P (aa 6#o::aa 6#u::c) H R)(Z:f M=aa (.lst<|w.map ak.ref))(h2:f N=aa (.lst<|x.map ak.ref))(S:dg f w r)(T:dg f x n)(hz:n.length<=1000)(U:f D=ac)(k:∀e b,aM f e->e D=aa (.lst<|b.map ak.ref)->dg e b (fe g r n)->b.Nodup->(∀d∈b,f d=ac/\d≠D)->Q 6#D e):eY (rf K M N) (kI K 2<|fM (de 0)<|fM (de 1) kJ) gB P (ac::ac::c) f D Q:=by
 let l1:=S.F;let l2:=T.F;show GK (K:=K) (xs:=w.map ak.ref) (ys:=x.map ak.ref) (λi t s e=>∃(A B:Option ak)(b:List ab),t=A::B::c/\aM f e/\e D=aa (.lst s)/\s=b.map ak.ref/\dg e b ((fe g r n).take i)/\b.Nodup/\∀d∈b,f d=ac/\d≠D)
  (ac,ac,[],O,aM.q U,aI,O,.nil,.nil,λd C=>nomatch C) (λi t s e (_,_,_,_,W,_)=>(bJ.q<|W _ _ Z,bJ.q<|W _ _ h2)) ?_ ?_
 rintro i t s e p' y1 y2 e1 e2 hi E ⟨A,B,b,rfl,a,h,rfl,v,l,G⟩ I;let(o,g1,rfl):=uX e1;let(u,g2,rfl):=uX e2;let(p,X,ho):=S.J g1;let(q,Y,L):=T.J g2;let j:=aM.q (o:=.tup [ak.ref o,ak.ref u]) I;show(p',_,O,gr.q aI,O,_,_,O,_,_,O,O,sU ?_);show y o u p q _ _ (a.trans j) (j _ _<|a _ _ ho) (j _ _<|a _ _ L) (dL X) (dL Y) λd H4 m C e4=>?_;let(r1,r2,r3):=Dh (D:=D) (o:=.lst<|b.map ak.ref++[.ref d]) (a.trans j) (v.q j) l G m C (by rw[j _ _ h];simp) e4;show gH (aL (yv _ _) %[aA|mQ (â (à (å l2) hz))]) hi E ((j.trans m) _ _ h) (_,_,b++[d],O,((a.trans j).trans m).F U,aI,by simp,?_,r2,r3);let e3:(fe g r n)[i]?=aa (g p q):=#v[yz,X,Y]
 rw[kM e3];show r1;rintro t s e ⟨A,B,b,rfl,a,h,rfl,v,l,G⟩;rw[eF (by simp[l1,l2])] at v;show k e b a h v l G
abbrev HQ:b_:=gT 38
def qj(c:Ζ)(m:Int):Bool:=!aJ (m<(c.length:Int))&&(c.all λx=>aJ<|0<x)&&(fe (λa b=>aJ<|b%a=0) c<|c.drop 1).all id
def aa9{e:ag}{d:Ζ}{Q:aR}{f:Int->Bool}{m:bp}{c:List (Option ak)}(l:∀(x:Int)(H:ag)(R:aR),x∈d->R (.c<|f x) H->m (aa (.int x)::c) H R)(p:e L=aa (.lst<|d.map ak.int))(t:d.length<=1000)(n:e D=ac)(k:∀a,aM e a->a D=aa (.lst<|(d.map f).map ak.c)->Q 6#D a):eY (ki K L) (de 0) gB m (ac::c) e D Q:=by
 show nw (xs:=d.map ak.int) (λj i g a=>∃(v:Option ak),i=v::c/\aM e a/\a D=aa (.lst g)/\g=((d.take j).map f).map ak.c) (ac,O,aM.q n,aI,O) ?_ ?_ ?_;rintro j i g a ⟨v,rfl,h,b,rfl⟩;show bJ.q<|h _ _ p;rintro j i g a x q r s ⟨v,rfl,h,b,rfl⟩;let(y,o,rfl):=rj q;show jD<|l y a _ (dL o)<|gH %[aA|mQ (â t)] r s b (_,O,h.F n,aI,?_);rw[kM o,cH,cH];rfl;rintro i g a ⟨v,rfl,h,b,rfl⟩;rw[aA,eF<|aE _] at b;show k a h b
def ZG{j:ag}{l h:Ζ}{f:Int->Int->Bool}{u:bp}{c:List (Option ak)}{Q:aR}(q:∀(a b:Int)(H:ag)(R:aR),a∈l->b∈h->R (.c<|f a b) H->u (aa (.int a)::aa (.int b)::c) H R)(B:j r=aa (.lst<|l.map ak.int))(C:j o=aa (.lst<|h.map ak.int))(P:h.length<=1000)(v:j D=ac)(k:∀d,aM j d->d D=aa (.lst<|(fe f l h).map ak.c)->Q 6#D d):eY (rf K r o) (kI K 2<|fM (de 0)<|fM (de 1) kJ) gB u (ac::ac::c) j D Q:=by
 show GK (K:=K) (xs:=l.map ak.int) (ys:=h.map ak.int) (λi p m d=>∃s t,p=s::t::c/\aM j d/\d D=aa (.lst m)/\m=((fe f l h).take i).map ak.c)
  (ac,ac,O,aM.q v,aI,O) (λi p m d (_,_,_,w,_)=>(bJ.q<|w _ _ B,bJ.q<|w _ _ C)) ?_ ?_
 rintro i p m d E S T G I L M ⟨s,t,rfl,e,g,rfl⟩ n;let(x,y,rfl):=rj G;let(z,A,rfl):=rj I;show(E,_,O,gr.q aI,O,_,_,O,_,_,O,O,sU ?_);show q x z _ _ (dL y) (dL A)<|gH (aL (yv _ _) %[aA|mQ (â P)]) L M %[bI<|dn g n|g] (_,_,O,?_,aI,?_);show(e.F<|e.J n).F v;let N:(fe f l h)[i]?=aa (f x z):=#v[yz,y,A]
 rw[kM N,cH];rfl;rintro p m d ⟨s,t,rfl,e,g,rfl⟩;show k d e ?_;rw[g,eF 0#0]
inductive Ht(vs:List ak)(H:ag)(Q:aR)(E':cy):Prop
 |a:∀(L:ab)(ns:Ζ)(m:Int),(vs=[.ref L,.int m])->(H L=aa (.lst<|ns.map ak.int))->(ns.length<=1000)->(∀H',aM H H'->Q (.c<|qj ns m) H')->Ht vs H Q E'
def ο:cR ["steps","most"] ["steps","most"] (bD HQ):=1#0
def aa3(F:cz K "are_steps" "are_steps" HQ f M)(T:mg "len"=ac)(N:mg "all"=ac)(U:mg "zip"=ac):cp P w K mg base aZ 1 f M ["steps","most"] Ht:=by
 show F.q ο λV A t s H vs Q E hr=>?_;rintro⟨L,j,m,rfl,p,W,k⟩;show(_,bm (hH (uN.q (NY (fJ uG (dO fU O T rx<|aq 7#0 aC) 7#1<|eV _)
   (NX (wJ (zk (dO (xf O) O N Ie (aq (fq ["steps","most"] ["step"] [ac] (gg<|ai 0) (λq C d h r=>cx (i:=0) (dM ["step"]) O<|av O) (λq C d h r=>eU)
    (λq C d h r=>wO uG 7#0 aS<|eV _) (hfr:=nv δ)) aC))))))) (bx<|cE pe) hC)
  (bx (cE (dO (xf O) O N Ie (aq (fq ["steps","most"] ["low","high"] [ac,ac] (wL O U va<|aq 7#0<|aq (pd sW 7#0 (mK aS) mL) aC)
   (λq C d h r=>nr O<|hJ (cx (i:=0) (dM ["low","high"]) O<|av O)<|hJ (cx (i:=1) (dM ["low","high"]) O<|av O) nq) (λq C d h r=>eU)
   (λq C d h r=>wO qa (cu p_ 7#1<|ai 0) aS<|eV _) (hfr:=nv δ) (g:=kI K 2<|fM (de 0)<|fM (de 1) kJ)) aC)))),?_)
 show(_,O,L,_,O,.inl<|bJ.q p,_,O,_,_,O,O,_,O,?_);rw[aA];cases c:m<(j.length:Int);rw[cN c];show gG<|gG ?_;have:qj j m=aH:=by ext qj;rw[cN c];rfl
 rw[this] at k;show k H<|aM.refl H;rw[dD c];show gi (_,O,L,O,(_,bJ.q p),λD X=>fu<|aa9 (f:=λx=>aJ<|0<x) (λx Y R _ u=>(_,O,_,_,O,O,u)) p W X λZ l v=>(D,_,O,bJ.q v,_,O,?_));cases n:(j.map λx=>aJ<|0<x).all id=ap;rw[n];show gi (_,O,_,O,_,O,L,_,O,bJ.q<|l _ _ p,λS hS=>?_);rw[show(aa (1:Int))=aa ((1:Nat):Int) from O,xG,<-uk];let y:=aM.q (o:=.lst<|(j.drop 1).map ak.int) hS;let z:∀x∈j,0<x:=λx hx=>by
  rw[Fc,lY] at n;show gP<|n x hx
 show(L,S,O,(_,bJ.q<|(l.trans y) _ _ p),(_,bJ.q aI),λD2 B=>fu<|ZG (f:=λa b=>aJ<|b%a=0) (λa b Y R ha hb u=>?_) ((l.trans y) _ _ p) aI (by rw[lX];lk) B λH5 G I=>(D2,_,O,bJ.q I,?_));show(_,O,_,O,_,_,O,O,z a ha,O,?_);rw[show aJ (ak.int (b%a)=ak.int 0)=aJ (b%a=0) from by rw[wh];simp];show u;let e:qj j m=(fe (λa b=>aJ<|b%a=0) j<|j.drop 1).all id:=by
  ext qj;rw[Fc] at n;rw[dD c,show(j.all λx=>aJ<|0<x)=ap from n];rfl
 rw[e] at k;show k H5<|(l.trans y).trans G;rw[Us.mpr n];show gG ?_;have:qj j m=aH:=by
  ext qj;rw[Fc] at n;rw[show(j.all λx=>aJ<|0<x)=aH from Us.mpr n,Bd];rfl
 rw[this] at k;show k Z l
abbrev tC:b_:=gT 46
def abf(a:List ak)(n:Nat):jO a ac (aa (n:Int))=a.take n:=by
 ext jO;rw[xW,vr,Lu,EU];obtain h|h:=KY n a.length;rw[AQ h];rw[TK h,eF<|aE _,eF h]
structure fi(H H':ag)(a:ab)(ds:List ab)(tb:Ξ):Prop where
 b:H' a=aa (.lst<|ds.map ak.ref)
 c:dg H' ds tb
 f:ds.Nodup
 g:H a=ac
 e:∀d∈ds,H d=ac/\d≠a
def fi.q{H b c:ag}{e:Ξ}(h:fi H b a d e)(s:aM b c):fi H c a d e:=(s _ _ h.b,h.c.q s,h.f,h.g,h.e)
def fi.F{b H c:ag}{e:List ab}{f:Ξ}(h:fi H c a e f)(s:aM b H):fi b c a e f:=(h.b,h.c,h.f,s.J h.g,λd g=>(s.J (h.e d g).1,(h.e d g).2))
def dU(a b:Ξ):Ξ:=fe (·++·) a b
def qi(n:Nat)(a b:Ξ):Ξ:=(aP n).map λj=>uY n (dR a j) b
structure Qj(N M X B Y m n:Nat)(tb ub bc:Ξ):Prop where
 f:tb.length=n
 c:ub.length=n
 e:bc.length=n
 w1:∀r∈tb,r.length=m
 b:∀r∈bc,r.length=n
 a:n<=40
 h:m<=500
 g:∀r∈ub,r.length=n
 d:Ql N M X B Y (m+n) (dU tb ub)
 i:∀P fr,fC N M X B ((dU tb ub).map aQ) P (di fr)->jR (m+n) P fr->∀r∈dU tb ub,tF fr (m+n) r P
 j:∀P fr,fC N M X B ((dU tb ub).map aQ) P (di fr)->jR (m+n) P fr->∀r∈dU tb ub,∀x∈eA fr r P,∀row∈bc,∀y∈row,kL (-x) y
inductive Hf(vs:List ak)(H:ag)(Q:aR)(E':cy):Prop
 |d:∀(t a b c:ab)(da db dc:List ab)(tb ub bc:Ξ)(N M X B Y m n:Nat),(vs=[.ref t,.int m])->(H t=aa (.tup [.ref a,.ref b,.ref c]))->(H a=aa (.lst<|da.map ak.ref))->(H b=aa (.lst<|db.map ak.ref))->(H c=aa (.lst<|dc.map ak.ref))->(dg H da tb)->(dg H db ub)->(dg H dc bc)->(Qj N M X B Y m n tb ub bc)->(∀P fr t' a' b' c' da' db' dc' H',fC N M X B ((dU tb ub).map aQ) P (di fr)->jR (m+n) P fr->aM H H'->H' t'=aa (.tup [.ref a',.ref b',.ref c'])->fi H H' a' da' (P.map λp=>(fr p).take m)->fi H H' b' db' (P.map λp=>(fr p).drop m)->fi H H' c' dc' (qi n ((dU tb ub).map λr=>eA fr r P) bc)->Q 6#t' H')->Hf vs H Q E'
def zM:cR ["side","width","rows","found","fresh","shares"] ["side","width"] (bD tC):=1#0
def abb{m:List Nat}{Q:aR}{M:bp}{c:List (Option ak)}(N:lK l a I C)(E:∀p∈m,p∈I.map (·.1))(G:∀(p:Nat)(d:ab)(H:ag)(R:aR),aM l H->lD H a (.int p) (aa<|.ref d)->R 6#d H->M (aa (.int p)::c) H R)(T:l L=aa (.lst<|m.map λp:Nat=>ak.int (p:Int)))(hz:m.length<=1000)(A:l D=ac)(k:∀f b,aM l f->f D=aa (.lst<|b.map ak.ref)->dg f b (m.map C)->Q 6#D f):eY (ki K L) (de 0) gB M (ac::c) l D Q:=by
 show nw (xs:=m.map λp:Nat=>ak.int (p:Int)) (λj B t f=>∃(v:Option ak)(b:List ab),B=v::c/\aM l f/\f D=aa (.lst t)/\t=b.map ak.ref/\dg f b ((m.take j).map C)) (ac,[],O,aM.q A,aI,O,.nil) ?_ ?_ ?_;rintro j B t f ⟨v,b,rfl,s,g,rfl,_⟩;show bJ.q<|s _ _ T;rintro j B t f x u U W ⟨v,b,rfl,s,g,rfl,w⟩;obtain⟨p,P,rfl⟩:∃p,m[j]?=aa p/\x=ak.int (p:Int):=by
  rw[ca] at u;cases e:m[j]? with
  |none=>rw[e] at u;cases u
  |some p=>rw[e] at u;cases u;show(p,O,O)
 let(d,X,Y,y):=(N.q s).F<|E p<|dL P;show jD<|G p d f _ s Y<|gH %[aA|mQ (â hz)] U W g (_,b++[d],O,s.F A,aI,by simp,?_);rw[kM P,cH];let Z:∀e∈b++[d],e≠D:=λe he z=>by
  subst z;obtain h|h:=fz.mp he;let(i,hi):=qI.mp h;let(S,e1,r):=w.J hi;rw[g] at r;let r:=cX r;injection r with r
  let a0:b.length≠0:=λz=>by rw[Ll.mp z] at h;cases h
  cases b with
  |nil=>cases h
  |cons q b=>cases S with
   |nil=>cases r
   |cons n S=>rw[fg,fg] at r;cases r
  obtain rfl:e=d:=by simpa using h
  obtain⟨_,h0⟩:∃o,l e=aa o:=(_,N.c _ X);rw[h0] at A;cases A
 show((w.A3 y).A1 Z);rintro B t f ⟨v,b,rfl,s,g,rfl,w⟩;rw[aA,eF<|aE _] at w;show k f b s g w
def aah(F:cz K "straightened" "straightened" tC f fd)(bz:mg "zip"=ac)(bs:mg "sorted"=ac)(Ce:bW P w K mg base aZ "echelon_of" ["rows"] 4 Hr)(Cc:bW P w K mg base aZ "columns_of" ["table"] 3 (xp K))(Cm:bW P w K mg base aZ "mix_of" ["numbers","rows"] 2 xn)(Cs:bW P w K mg base aZ "shares_of" ["row","found"] 2 CR):cp P w K mg base aZ 5 f fd ["side","width"] Hf:=by
 show F.q zM λe4 A c3 s H vs Q E U=>?_;rintro⟨t,a,b,c,da,db,dc,tb,ub,bb,N,M,X,B,Y,m,n,rfl,ht,ha,hb,hc,ra,rb,rc,G,k⟩;let hu:=pf U;let c4:fF 3 _:=U.q ξ;let b2:fF 2 _:=U.q ξ;show(_,bm (BV (i:=2) zM.a O (av O) ["side","width","rows","found","fresh","shares"] ["row","turn"] [ac,ac] (wL O bz va<|aq (bP dh 7#0 aS 2#0)<|aq (bP dh 7#0 aS 2#0) aC)
   (λI C v D L=>nr O<|hJ (cx (i:=0) (dM ["row","turn"]) O<|av O)<|hJ (cx (i:=1) (dM ["row","turn"]) O<|av O) nq) (λI C v D L=>eU)
   (λI C v D L=>cu wQ 7#0<|ai 1) (te:=eM Gz (bZ 0)<|bZ 1) (hfr:=nv δ) (g:=kI K 2<|fM (de 0)<|fM (de 1) kJ))
  (bm (ck (i:=3) zM.a O (aU O)<|bv Ce U O bw<|aq 7#2 aC)
  (bm (BV (i:=4) zM.a O (av O) ["side","width","rows","found","fresh","shares"] ["place","found"] [ac,aa 3] (gg<|dO (zx O) O bs zW<|aq 7#3 aC) (λI C v D L=>cx (i:=0) (dM ["place","found"]) O<|av O) (λI C v D L=>eU)
   (λI C v D L=>mM hu 7#1 7#0 2#0) (hfr:=gS (bD tC) δ))
  (bm (BV (i:=5) zM.a O (av O) ["side","width","rows","found","fresh","shares"] ["row","found"] [ac,aa 3] (gg<|ai 2) (λI C v D L=>cx (i:=0) (dM ["row","found"]) O<|av O) (λI C v D L=>eU)
   (λI C v D L=>bv Cs b2 O bw<|aq 7#0<|aq 7#1 aC) (te:=mJ CR [] mP<|eO (bZ 0)<|eO (bZ 1) iw) (hfr:=gS (bD tC) δ))
  (bx (cE (jC (aq
   (fq ["side","width","rows","found","fresh","shares"] ["row","width"] [ac,aa 1] (gg<|ai 4) (λI C v D L=>cx (i:=0) (dM ["row","width"]) O<|av O) (λI C v D L=>eU)
    (λI C v D L=>pd sW 7#0 mL<|mK<|ai 1) (te:=ze (BO K) (bZ 0) zg<|zf<|bZ 1) (hfr:=gS (bD tC) δ))
   (aq (fq ["side","width","rows","found","fresh","shares"] ["row","width"] [ac,aa 1] (gg<|ai 4) (λI C v D L=>cx (i:=0) (dM ["row","width"]) O<|av O) (λI C v D L=>eU)
    (λI C v D L=>pd sW 7#0 (mK<|ai 1) mL) (te:=ze (BO K) (bZ 0) (zf<|bZ 1) zg) (hfr:=gS (bD tC) δ))
   (aq (fq ["side","width","rows","found","fresh","shares"] ["numbers","side"] [ac,aa 0] (gg<|bv Cc c4 O bw<|aq 7#5 aC) (λI C v D L=>cx (i:=0) (dM ["numbers","side"]) O<|av O) (λI C v D L=>eU)
    (λI C v D L=>bv Cm b2 O bw<|aq 7#0<|aq (bP dh 7#1 aS 2#0) aC) (te:=mJ xn [] mP<|eO (bZ 0)<|eO (eM (zj K) (bZ 1)<|jM<|.int 2) iw) (hfr:=gS (bD tC) δ)) aC))))))))),?_)
 show(_,O,t,_,_,_,O,O,gr.q ht,bX (j:=0) O,_,O,t,_,_,_,O,O,gr.q ht,bX (j:=1) O,a,b,O,(_,bJ.q ha),(_,bJ.q hb),λR hR=>fu<|ZE (g:=λx y=>x++y) (λo u os us H' R sm ho c5 c6 c7 hk=>?_) ha hb ra rb (by have:=G.c;have:=G.a;lk) hR λH1 rs s1 a6 a2 _ _=>?_);show(_,O,_,O,o,u,_,_,O,O,ho,c5,?_,λp hp=>?_);rw[aA,aA,G.w1 os c6,G.g us c7,iC];have:=G.a;have:=G.h;lk;rw[<-cH];show hk p _ (aM.q hp) hp aI;let a2:dg H1 rs (dU tb ub):=a2;show(_,O,R,rs,dU tb ub,N,M,X,B,Y,m+n,O,a6,a2,G.d,λa1 H2 es V S s2 e5 F2 a3 a7 FS=>?_);let lc:(dU tb ub).length=n:=by ext dU;rw[i_,G.f,G.c,yu]
 let lP:S.length=n:=#v[FS.c,aA,lc]
 let le:es.length<64:=by have:=a3.q;have:=G.a;lk
 show(_,O,a1,lI es,O,F2.b,5#le,λPL ms pm so c8=>?_);rw[a3.F pm so];let a8:=aM.q (o:=.lst<|S.map λp:Nat=>ak.int (p:Int)) c8;show(PL,O,(_,bJ.q aI),λFD c9=>fu<|abb (F2.q a8) (λp hp=>a3.a.mem_iff.mp hp) (λp d H' R sm gd hk=>(_,O,_,O,a1,_,O,gd,hk)) aI (by have:=G.a;show â (à (å lP) this)) c9 λH3 fs s3 W b3=>?_);let a4:=(s2.trans a8).trans s3;let F3:=(F2.q a8).q s3;show(_,O,R,O,(_,bJ.q<|a4 _ _ a6),λSD d0=>fu<|xt (g:=λr=>eA V r S) (λo os H' R' sm ho hm hk=>?_) (bJ.q<|a4 _ _ a6) (a2.q a4) (by rw[lc];have:=G.a;show â this) d0 λH4 ss s4 b4 d1 _ _=>?_);show(_,O,_,O,o,a1,os,es,V,S,m+n,O,ho,F3.q sm,a3,le,G.i S V FS a7 os hm,hk);let b5:=(s1.trans a4).trans s4;show(_,O,FD,O,(_,bJ.q<|s4 _ _ W),λA1 b6=>fu<|xt (g:=λr=>r.take m) (λo os H' R' sm ho hm hk=>?_) (bJ.q<|s4 _ _ W) (b3.q s4) (by rw[aA,lP];have:=G.a;show â this) b6 λH5 d5 s5 d2 r5 n5 w5=>?_);show(_,O,_,O,_,O,o,_,O,bJ.q ho,λq hq=>?_);rw[abf,<-EY];show hk q _ (aM.q hq) hq aI;show(_,O,FD,O,(_,bJ.q<|(s4.trans s5) _ _ W),λA2 b7=>fu<|xt (g:=λr=>r.drop m) (λo os H' R' sm ho hm hk=>?_) (bJ.q<|(s4.trans s5) _ _ W) (b3.q<|s4.trans s5) (by rw[aA,lP];have:=G.a;show â this) b7 λH6 d6 s6 d3 r6 n6 w6=>?_);show(_,O,_,O,_,O,o,_,O,bJ.q ho,λq hq=>?_);rw[xG,<-uk];show hk q _ (aM.q hq) hq aI;let a0:=s5.trans s6;let d4:=b5.trans a0;let a9:((dU tb ub).map λr=>eA V r S).length=n:=#v[aA,lc]
 let b0:∀r∈(dU tb ub).map (λr=>eA V r S),r.length=n:=λr U=>by
  let(q,ϟ,rfl):=aW.mp U;rw[zL,lP]
 let Z:gu ((dU tb ub).map λr=>eA V r S)=n:=by
  cases e:(dU tb ub).map (λr=>eA V r S) with
  |nil=>rw[e] at a9;show a9
  |cons x l=>rw[e] at b0;show b0 x<|fy ..
 let d7:tD ((dU tb ub).map λr=>eA V r S)=ap:=by
  ext tD;rw[Z,a9,cN G.a];erw[Fe,LK,lY];show λr U=>cN<|b0 r U
 show(_,O,SD,ss,_,O,bJ.q<|a0 _ _ b4,d1.q a0,d7,λCD H7 cs s7 e6 a5 b8 _ _=>(CD,O,(_,bJ.q a5),λA3 b9=>?_));let c0:=d4.trans s7;let et:turn ((dU tb ub).map λr=>eA V r S)=(aP n).map (dR<|(dU tb ub).map λr=>eA V r S):=by ext turn;rw[Z]
 rw[et] at b8;let d9:∀r∈bb,r.length=gu bb:=λr U=>by
  cases e:bb with
  |nil=>rw[e] at U;cases U
  |cons x l=>rw[G.b r U];show(G.b x %[e|fy ..]).symm
 let wb:gu bb=n:=by
  cases e:bb with
  |nil=>have:=G.e;rw[e] at this;show this
  |cons x l=>show G.b x %[e|fy ..]
 show fu<|xt (g:=λns=>uY n ns bb) (λo os H' R' sm ho hm hk=>?_) (bJ.q a5) b8 (by rw[aA,gX];have:=G.a;show â this) b9 λH8 d8 s8 e0 r8 n8 w8=>?_;let b1:=c0.trans sm;show(_,O,_,O,t,_,_,_,O,O,gr.q<|b1 _ _ ht,bX (j:=2) O,o,c,os,dc,bb,O,ho,b1 _ _ hc,rc.q b1,by rw[wb];have:=G.a;show â this,d9,λz hz y hy=>?_,%[wb|hk]);let(z1,z2):=rU hz;let(j,hj,rfl):=aW.mp hm;let z1:z.1∈((dU tb ub).map λr=>eA V r S).map λr=>r.getD j 0:=z1;let(sr,e2,e1):=aW.mp z1;let(r,U,rfl):=aW.mp e2;show G.j S V FS a7 r U z.1 ?_ z.2 z2 y hy;let hj:=bH.mp hj;let e3:j<(eA V r S).length:=%[zL,lP|hj]
 rw[<-e1,co,bu e3];show dW _;let c1:=(s6.trans s7).trans s8;let c2:=s7.trans s8;let f4:∀{x},H4 x=ac->H x=ac:=λh=>b5.J h;show(by change 3<=bE;decide,λT hT=>?_);let sT:=aM.q (o:=.tup [ak.ref A1,ak.ref A2,ak.ref A3]) hT;rw[dC] at r5 r6 r8;show k S V T A1 A2 A3 d5 d6 d8 _ FS a7 ((c0.trans s8).trans sT) aI (sT _ _<|c1 _ _ d2,(r5.q c1).q sT,n5,f4 b6,λd hd=>(f4 (w5 d hd).1,(w5 d hd).2)) (sT _ _<|c2 _ _ d3,(r6.q c2).q sT,n6,f4<|s5.J b7,λd hd=>(f4<|s5.J (w6 d hd).1,(w6 d hd).2)) (sT _ _ e0,r8.q sT,n8,f4<|a0.J<|s7.J b9,λd hd=>(f4<|a0.J<|s7.J (w8 d hd).1,(w8 d hd).2))
end
abbrev HF:b_:=gT 56
def dB(a:Ξ)(i:Nat):Ζ:=a.getD i []
def fv(a:Ξ)(r:Nat):Nat->Ξ
 |0=>a
 |n+1=>(fv a r n).set (r-2-n) (jn (dB (fv a r n)<|r-2-n) (-1)<|dB (fv a r n)<|r-1-n)
def jc(a:Ξ)(r:Nat):Nat->Ξ
 |0=>a
 |n+1=>(jc a r n).set (r-1-n) (jn (dB (jc a r n)<|r-1-n) 1<|dB (jc a r n)<|r-2-n)
def uT:∀n,(fv tb r n).length=tb.length
 |0=>O
 |n+1=>by change ah (io _ _ _)=_;rw[Lk];show uT n
def zK:∀n,(jc tb r n).length=tb.length
 |0=>O
 |n+1=>by change ah (io _ _ _)=_;rw[Lk];show zK n
structure ox(H0:ag)(Z:List ab)(H:ag)(R:ab)(rs:List ab)(tb:Ξ):Prop where
 a:H R=aa (.lst<|rs.map ak.ref)
 b:dg H rs tb
 e:rs.Nodup
 c:∀d∈rs,H0 d=ac/\∀z∈Z,d≠z
section
variable{H0 H H':ag}{Z:List ab}{R R':ab}{rs:List ab}{tb:Ξ}
def ox.q(h:ox H0 Z H R rs tb)(s:aM H H'):ox H0 Z H' R rs tb:=(s _ _ h.a,h.b.q s,h.e,h.c)
def ox.F(h:ox H0 Z H R rs tb){i:Nat}(c:i<tb.length):∃d,rs[i]?=aa d/\(rs.map ak.ref)[i]?=aa (ak.ref d)/\H d=aa (.lst<|(dB tb i).map ak.int):=by
 let e:=h.b.F;let(f,a,b):=h.b.J<|bu (show i<rs.length from (à c (æ e)));show(rs[i]'(à c (æ e)),bu _,by rw[ca,bu (show i<rs.length from à c (æ e))];rfl,?_);ext dB;rw[co,a];show b
def ox.J(h:ox H0 Z H R' rs tb)(a:R∈Z)(b:R'≠R):ox H0 Z (aN H R o) R' rs tb:=(%[bI b|h.a],h.b.A1 λd c=>(h.c d c).2 R a,h.e,h.c)
def aa4{l:List ab}{i:Nat}{d:ab}(h:l.Nodup)(m:d∉l):(l.set i d).Nodup:=by
 rw[dz,ui];intro a b e f g;rw[Lk] at e f;let j:∀c(k:c<l.length),l[c]≠d:=λc k z=>m<|z▸dW k;rw[akv,akv];have:=ui.mp h a b e f g;split;split;lk;show(j b f).symm;split;show j a e;show this
def π{H:ag}{rs:List ab}{tb:Ξ}{a:Ζ}(h:dg H rs tb)(e:H d=aa (.lst<|a.map ak.int)):∀i,dg H (rs.set i d) (tb.set i a):=by
 induction h with
 |nil=>intro i;show .nil
 |cons r t b=>intro i;cases i with
  |zero=>show .cons e t
  |succ i=>show .cons r<|b i
def ox.A0(h:ox H0 Z H R rs tb)(k:aM H0 H')(s:aM H H'){g:Ζ}{c:ag}(l:aM H' c)(f:H' d=ac)(e:c d=aa (.lst<|g.map ak.int))(b:R∈Z)(m:∀z∈Z,H' z≠ac)(i:Nat):ox H0 Z (aN c R<|.lst<|(rs.map ak.ref).set i<|.ref d) R (rs.set i d) (tb.set i g):=by
 let n:d∉rs:=λz=>(h.q s).b.A0 d z f;let j:∀z∈Z,d≠z:=λz b e=>m z b<|e▸f;show(#v[aI,akq],?_,aa4 h.e n,λx a=>?_);show(π ((h.b.q s).q l) e i).A1 λx a=>?_;obtain a|rfl:=Lg a;show(h.c x a).2 R b;show j R b;obtain a|rfl:=Lg a;show h.c x a;show(k.J f,j)
end
def vd(a:Ξ):Prop:=∀r∈a,r.length<=1000/\∀x∈r,x.natAbs<iQ
def aab:(1:Int).natAbs<iQ:=by
 ext iQ;show Nat.one_lt_two_pow (by have:=u_;show ö (ã (æ this)))
def vd.q(h:vd a){i:Nat}(b:i<a.length):(dB a i).length<=1000/\∀x∈dB a i,x.natAbs<iQ:=by
 show h _ ?_;ext dB;rw[co,bu b];show dW _
section
variable{P:bh}{w:ba}{K:aT}{mg:aB->Option ae}{base:aX}
inductive Hh(vs:List ak)(H:ag)(Q:aR)(E':cy):Prop
 |d:∀(H0:ag)(t a b c:ab)(da db dc:List ab)(tb ub bb:Ξ)(n r:Nat),(vs=[.ref t,.int r])->(H t=aa (.tup [.ref a,.ref b,.ref c]))->(aM H0 H)->(fi H0 H a da tb)->(fi H0 H b db ub)->(fi H0 H c dc bb)->(tb.length=n)->(ub.length=n)->(bb.length=n)->(1<=r)->(r<=n)->(n<=1000)->((∀j,j<r->vd (fv tb r j)/\vd (fv ub r j)/\vd (jc bb r j)))->(∀t' a' b' c' da' db' dc' H',aM H H'->H' t'=aa (.tup [.ref a',.ref b',.ref c'])->fi H0 H' a' da' (fv tb r<|r-1)->fi H0 H' b' db' (fv ub r<|r-1)->fi H0 H' c' dc' (jc bb r<|r-1)->Q 6#t' H')->Hh vs H Q E'
def zO:cR ["side","count","rows","turn","back","k"] ["side","count"] (bD HF):=1#0
def Ib:gb "list"=aa (.type "list"):=δ
def aak(F:cz K "slid" "slid" HF f fd)(bg:mg "range"=ac)(C:mg "list"=ac)(Cl:bW P w K mg base aZ "less" ["row","often","other"] 1 xo):cp P w K mg base aZ 2 f fd ["side","count"] Hh:=by
 show F.q zO λc9 A b4 s H vs Q E hr=>?_;rintro⟨W,t,a,b,c,da,db,dc,G,I,L,n,r,rfl,ht,s0,na,nb,nc,l1,l2,l3,r1,rn,n9,b5,k⟩;show(_,bm (ck (i:=2) zO.a O (av O)<|nu GM O C Ib<|aq (bP dh 7#0 aS 2#0) aC)
  (bm (ck (i:=3) zO.a O (av O)<|nu GM O C Ib<|aq (bP dh 7#0 aS 2#0) aC)
  (bm (ck (i:=4) zO.a O (av O)<|nu GM O C Ib<|aq (bP dh 7#0 aS 2#0) aC)
  (bm (jB iW O (Oi O bg<|aq (cu mN 7#1 aS)<|aq aS<|aq (qX qU aS) aC) (cx (i:=5) zO.a O<|av O)
   (bm (wK (bv Cl hr O bw<|aq (bP ft 7#2 (cu mN 7#5 aS) 2#0)<|aq (qX qU aS)<|aq (bP ft 7#2 7#5 2#0) aC)<|wM 7#2 (cu mN 7#5 aS) wI)
   (bm (wK (bv Cl hr O bw<|aq (bP ft 7#3 (cu mN 7#5 aS) 2#0)<|aq (qX qU aS)<|aq (bP ft 7#3 7#5 2#0) aC)<|wM 7#3 (cu mN 7#5 aS) wI)
  <|bx<|wK (bv Cl hr O bw<|aq (bP ft 7#4 7#5 2#0)<|aq aS<|aq (bP ft 7#4 (cu mN 7#5 aS) 2#0) aC)<|wM 7#4 7#5 wI)))
 <|bx<|cE<|jC<|aq 7#2<|aq 7#3<|aq 7#4 aC))),?_)
 show(_,O,t,_,_,_,O,O,gr.q ht,bX (j:=0) O,a,_,O,.inl<|bJ.q na.b,λR hR=>?_);let X:=aM.q (o:=.lst<|da.map ak.ref) hR;show(_,O,t,_,_,_,O,O,gr.q<|X _ _ ht,bX (j:=1) O,b,_,O,.inl<|bJ.q<|X _ _ nb.b,λT hT=>?_);let sT:=aM.q (o:=.lst<|db.map ak.ref) hT;show(_,O,t,_,_,_,O,O,gr.q<|(X.trans sT) _ _ ht,bX (j:=2) O,c,_,O,.inl<|bJ.q<|(X.trans sT) _ _ nc.b,λB hB=>?_);let sB:=aM.q (o:=.lst<|dc.map ak.ref) hB;let sZ:=(X.trans sT).trans sB;let b0:R≠T:=dn aI hT;let b1:T≠B:=dn aI hB;let b2:R≠B:=dn (sT _ _ aI) hB;let Z:H T=ac:=X.J hT;let a0:H B=ac:=(X.trans sT).J hB;let W0:∀{x:ab}{dx:List ab}{tx:Ξ}{Y:ab}{u:ag},fi W H x dx tx->aM H u->u Y=aa (.lst<|dx.map ak.ref)->ox W [R,T,B] u Y dx tx:=λ{x dx tx Y u} n s e=>
  (e,n.c.q s,n.f,λd hd=>((n.e d hd).1,λz v q=>by
   let M:=n.c.A0 d hd;rw[q] at M;simp at v;obtain rfl|rfl|rfl:=v;show M hR;show M Z;show M a0))
 let en:(((r:Nat):Int)-1-0).toNat=r-1:=ω;show(_,O,_,_,O,O,_,O,_,_,O,(ω,ω,ω,ω),?_);rw[en];show OE (λi σ u=>∃(v5:Option ak)(N S C:List ab),σ=[aa<|.ref t,aa<|.int r,aa<|.ref R,aa<|.ref T,aa<|.ref B,v5]/\aM H u/\ox W [R,T,B] u R N (fv G r i)/\ox W [R,T,B] u T S (fv I r i)/\ox W [R,T,B] u B C (jc L r i))
  (ac,da,db,dc,O,sZ,W0 na sZ<|(sT.trans sB) _ _ aI,W0 nb sZ<|sB _ _ aI,W0 nc sZ aI) ?_ ?_
 rintro i σ u hi ⟨v5,N,S,C,rfl,sm,D,wT,wB⟩;obtain⟨g,a1⟩:∃g,g=r-2-i:=(_,O);let e1:((r:Nat):Int)-1-((i:Nat):Int)=((g+1:Nat):Int):=ω;let e2:((g+1:Nat):Int)-1=((g:Nat):Int):=ω;let a2:r-1-i=g+1:=ω;let(b6,b7,b8):=b5 i ω;let lR:(fv G r i).length=n:=#v[uT,l1]
 let lT:(fv I r i).length=n:=#v[uT,l2]
 let lB:(jc L r i).length=n:=#v[zK,l3]
 let y:∀{q:Int}{x:Int},q.natAbs<=1->x.natAbs<iQ->kL q x:=λhq hx=>xH (fH hq aab) hx;let ix:∀{l:List ab}{j:Nat},j<l.length->og (l.map ak.ref).length ((j:Nat):Int)=aa j:=λ{l j} h=>by ext og;rw[aA];simp[h]
 let b9:∀{H3:ag},aM u H3->∀z∈[R,T,B],H3 z≠ac:=λ{H3} s z v=>by
  simp at v;obtain rfl|rfl|rfl:=v;rw[s _ _ D.a];simp;rw[s _ _ wT.a];simp;rw[s _ _ wB.a];simp
 let(d1,g1,v1,h1):=D.F (i:=g) ω;let(d2,g2,v2,h2):=D.F (i:=g+1) ω;rw[e1];let U:=b6.q (i:=g+1) ω;show(_,O,_,O,_,_,O,O,R,_,_,_,O,O,bJ.q D.a,%[e2|bX v1],_,O,_,O,_,O,R,_,_,_,O,O,bJ.q D.a,bX v2,d1,d2,_,_,-1,O,h1,h2,U.1,λx hx=>y ξ<|U.2 x hx,λD3 H3 s3 c0 e3=>?_);show(_,O,_,O,_,_,O,O,R,_,_,g,O,O,s3 _ _ D.a,%[e2|ix (by have:=D.b.F;lk)],?_);let a3:=D.A0 (s0.trans sm) (aM.refl u) s3 c0 e3 0#0 (b9<|aM.refl u) g;let a4:aM H (aN H3 R<|.lst<|(N.map ak.ref).set g<|.ref D3):=(sm.trans s3).F hR;let m:=(wT.q s3).J (R:=R) 0#0 (cQ b0) (o:=.lst<|(N.map ak.ref).set g<|.ref D3);let a5:=(wB.q s3).J (R:=R) 0#0 (cQ b2) (o:=.lst<|(N.map ak.ref).set g<|.ref D3);let Z3:∀z∈[R,T,B],(aN H3 R<|.lst<|(N.map ak.ref).set g<|.ref D3) z≠ac:=λz v=>by
  simp at v;obtain rfl|rfl|rfl:=v;rw[aI];simp;rw[m.a];simp;rw[a5.a];simp
 let c1:(fv G r i).set g (jn (dB (fv G r i) g) (-1)<|dB (fv G r i)<|g+1)=fv G r (i+1):=by
  change _=(fv G r i).set (r-2-i) (jn (dB (fv G r i)<|r-2-i) (-1)<|dB (fv G r i)<|r-1-i);rw[<-a1,a2]
 rw[c1] at a3;generalize aN H3 R (.lst<|(N.map ak.ref).set g<|.ref D3)=H4 at a3 a4 m a5 Z3 ⊢;let(d1,g1,v1,h1):=m.F (i:=g) ω;let(d2,g2,v2,h2):=m.F (i:=g+1) ω;let U:=b7.q (i:=g+1) ω;show(_,O,_,O,_,_,O,O,T,_,_,_,O,O,bJ.q m.a,%[e2|bX v1],_,O,_,O,_,O,T,_,_,_,O,O,bJ.q m.a,bX v2,d1,d2,_,_,-1,O,h1,h2,U.1,λx hx=>y ξ<|U.2 x hx,λD5 H5 s5 c2 e5=>?_);show(_,O,_,O,_,_,O,O,T,_,_,g,O,O,s5 _ _ m.a,%[e2|ix (by have:=m.b.F;lk)],?_);let a6:=m.A0 (s0.trans a4) (aM.refl H4) s5 c2 e5 0#0 Z3 g;let a7:aM H (aN H5 T<|.lst<|(S.map ak.ref).set g<|.ref D5):=(a4.trans s5).F Z;let a8:=(a3.q s5).J (R:=T) 0#0 b0 (o:=.lst<|(S.map ak.ref).set g<|.ref D5);let p:=(a5.q s5).J (R:=T) 0#0 (cQ b1) (o:=.lst<|(S.map ak.ref).set g<|.ref D5);let Z5:∀z∈[R,T,B],(aN H5 T<|.lst<|(S.map ak.ref).set g<|.ref D5) z≠ac:=λz v=>by
  simp at v;obtain rfl|rfl|rfl:=v;rw[a8.a];simp;rw[aI];simp;rw[p.a];simp
 let c3:(fv I r i).set g (jn (dB (fv I r i) g) (-1)<|dB (fv I r i)<|g+1)=fv I r (i+1):=by
  change _=(fv I r i).set (r-2-i) (jn (dB (fv I r i)<|r-2-i) (-1)<|dB (fv I r i)<|r-1-i);rw[<-a1,a2]
 rw[c3] at a6;generalize aN H5 T (.lst<|(S.map ak.ref).set g<|.ref D5)=H6 at a8 a7 a6 p Z5 ⊢;let(d1,g1,v1,h1):=p.F (i:=g+1) ω;let(d2,g2,v2,h2):=p.F (i:=g) ω;let U:=b8.q (i:=g) ω;show(_,O,_,O,B,_,_,_,O,O,bJ.q p.a,bX v1,_,O,_,O,_,_,O,O,B,_,_,_,O,O,bJ.q p.a,%[e2|bX v2],d1,d2,_,_,1,O,h1,h2,U.1,λx hx=>y ξ<|U.2 x hx,λD7 H7 s7 c4 e7=>?_);show(_,O,_,O,B,_,_,g+1,O,O,s7 _ _ p.a,ix (by have:=p.b.F;lk),?_);let b3:=p.A0 (s0.trans a7) (aM.refl H6) s7 c4 e7 0#0 Z5<|g+1;let c5:=(a8.q s7).J (R:=B) 0#0 b2 (o:=.lst<|(C.map ak.ref).set (g+1)<|.ref D7);let c6:=(a6.q s7).J (R:=B) 0#0 b1 (o:=.lst<|(C.map ak.ref).set (g+1)<|.ref D7);let c7:(jc L r i).set (g+1) (jn (dB (jc L r i)<|g+1) 1<|dB (jc L r i) g)=jc L r (i+1):=by
  change _=(jc L r i).set (r-1-i) (jn (dB (jc L r i)<|r-1-i) 1<|dB (jc L r i)<|r-2-i);rw[<-a1,a2]
 rw[c7] at b3;show(_,_,_,_,O,(a7.trans s7).F a0,c5,c6,b3);rintro σ u ⟨v5,N,S,C,rfl,sm,D,wT,wB⟩;show(_,O,_,O,_,O,by change 3<=bE;decide,λt' c8=>?_);let a9:=aM.q (o:=.tup [ak.ref R,ak.ref T,ak.ref B]) c8;let nt:∀{Y:ab}{ds:List ab}{tx:Ξ},ox W [R,T,B] u Y ds tx->H Y=ac->Y∈[R,T,B]->fi W (aN u t'<|.tup [ak.ref R,ak.ref T,ak.ref B]) Y ds tx:=λ{Y ds tx} h hy v=>
  (a9 _ _ h.a,h.b.q a9,h.e,s0.J hy,λd hd=>((h.c d hd).1,(h.c d hd).2 Y v))
 show k t' R T B N S C _ (sm.trans a9) aI (nt D hR 0#0) (nt wT Z 0#0)<|nt wB a0 0#0
abbrev HL:b_:=gT 44
abbrev HD:b_:=gT 45
abbrev HM:b_:=gT 42
def Qi:gb "enumerate"=aa (.type "enumerate"):=δ
def rr{a:Type}(p:Nat->Ζ->Bool)(g:Nat->Ζ->a)(l:List (Ζ×Nat)):List a:=(l.filter λq=>p q.2 q.1).map λq=>g q.2 q.1
def PW{l:ag}{L D:ab}{N:List ab}{m:Ξ}{Q:aR}{P:Type}{mkV:P->ak}{p:Nat->Ζ->Bool}{g:Nat->Ζ->P}{T:fV}{U:bp}{c:List (Option ak)}(A:∀(i:Nat)(o:ab)(s:Ζ)(H:ag)(R:aR)(S:ag->Prop),aM l H->H o=aa (.lst<|s.map ak.int)->s∈m->(p i s=ap->∀B,aM H B->R (mkV<|g i s) B)->(p i s=aH->S H)->T (aa (.int i)::aa 6#o::c) H λb C=>if b=ap then U (aa (.int i)::aa 6#o::c) C R else S C)(E:bJ K l L (N.map ak.ref))(W:dg l N m)(hz:m.length<=1000)(X:l D=ac)(k:∀f,aM l f->f D=aa (.lst<|(rr p g m.zipIdx).map mkV)->Q 6#D f):eY (uQ K L) (kI K 2<|fM (de 0)<|fM (de 1) kJ) T U (ac::ac::c) l D Q:=by
 let t:=W.F;show ti m.length (λj u n f=>∃(v w:Option ak),u=v::w::c/\aM l f/\f D=aa (.lst n)/\n=(rr p g<|m.zipIdx.take j).map mkV) ?_ ?_ ?_ ?_ ?_;show(ac,ac,O,aM.q X,aI,O);rintro u n f ⟨v,w,rfl,h,d,rfl⟩;show(_,h.A1 E,#v[aA,t]);rintro i u n f z ⟨v,w,rfl,h,d,rfl⟩;show(_,h.A1 E,%[aA,t|z]);rintro i u n f x B z Y ⟨v,w,rfl,h,d,rfl⟩ ⟨pp,y,rfl,G,rfl,I⟩;let ey:=I _<|h.A1 E;let(a,ea,rfl):=uX ey;let(r,Z,hr):=W.J ea;let q:=aM.q (o:=.tup [.int i,.ref a]) G;let e:m.zipIdx[i]?=aa (ahl r i):=by rw[akz,Z];simp
 show(pp,_,O,gr.q aI,O,_,_,O,_,_,O,O,?_);show A i a r _ _ _ (h.trans q) ((h.trans q) _ _ hr) (dL Z) (λM C s5=>?_) (λM=>?_);show gH (mQ (â hz)) z Y ((q.trans s5) _ _ d) (_,_,O,((h.trans q).trans s5).F X,aI,?_);rw[kM e];ext rr;rw[nP,cH,cH];simp[M];show OR z Y (_,_,O,h.trans q,q _ _ d,?_);rw[kM e];ext rr;rw[nP];simp[M];rintro u n f ⟨v,w,rfl,h,d,rfl⟩;rw[eF 0#0] at d;show k f h d
def xx(a:Ξ):Bool:=(rr (λ_ _=>ap) (λk r=>aJ<|r=lF r k r.length) a.zipIdx).all id
inductive CT(vs:List ak)(H:ag)(Q:aR)(E':cy):Prop
 |a:∀L rs tb,(vs=[.ref L])->(H L=aa (.lst<|rs.map ak.ref))->(dg H rs tb)->(tb.length<=1000)->((∀r∈tb,r.length<=1000))->(∀H',aM H H'->Q (.c<|xx tb) H')->CT vs H Q E'
def η:cR ["table"] ["table"] (bD HL):=1#0
def aav{n:cm}(F:cz K "is_on_slope" "is_on_slope" HL f n)(y:mg "all"=ac)(z:mg "enumerate"=ac)(B:mg "len"=ac)(G:bW P w K mg base aZ "slope_row" ["numbers","k","width"] 1 xm):cp P w K mg base aZ 2 f n ["table"] CT:=by
 show F.q η λI A e s H vs Q E q=>?_;rintro⟨L,rs,tb,rfl,t,M,N,T,k⟩;let c:=q.units;show(_,bx (cE (dO (xf O) O y Ie (aq (fq ["table"] ["k","row"] [ac,ac] (BW O z Qi<|aq 7#0 aC)
  (λu C a b v=>nr O<|hJ (cx (i:=0) (dM ["k","row"]) O<|av O)<|hJ (cx (i:=1) (dM ["k","row"]) O<|av O) nq) (λu C a b v=>eU)
  (λu C a b v=>wO (XW c) 7#1 (bv G q O bw<|aq 7#1<|aq 7#0<|aq (dO fU O B rx<|aq 7#1 aC) aC)<|eV _)
  (te:=eM (Gw K) (bZ 1)<|mJ xm [] mP<|eO (bZ 1)<|eO (bZ 0)<|eO (sV (PM K)<|eO (bZ 1) iw) iw) (hfr:=nv δ) (g:=kI K 2<|fM (de 0)<|fM (de 1) kJ)) aC))),?_)
 show(_,O,L,O,(_,bJ.q t),λD U=>fu<|PW (mkV:=ak.c) (p:=λ_ _=>ap) (g:=λk r=>aJ<|r=lF r k r.length) (λi o d H' R S sm j V W hS=>sU ?_) (bJ.q t) M N U λX l m=>(D,_,O,bJ.q m,k X l));show(_,O,_,O,_,O,_,O,o,_,O,.inl<|bJ.q j,o,d,i,d.length,by rw[aA];rfl,j,T d V,λh=>h,λY Z x a0 e5=>?_);show(o,Y,d,_,O,O,bJ.q<|x _ _ j,bJ.q e5,W O Z x)
def qf(a:Ξ):Ζ:=rr (λk r=>aJ (k<r.length)&&aJ (aQ r k≠0)) (λk r=>aQ r k) a.zipIdx
inductive CQ(vs:List ak)(H:ag)(Q:aR)(E':cy):Prop
 |a:∀L rs tb,(vs=[.ref L])->(H L=aa (.lst<|rs.map ak.ref))->(dg H rs tb)->(tb.length<=1000)->(vf H Q<|qf tb)->CQ vs H Q E'
def ZY:cR ["table"] ["table"] (bD HD):=1#0
def aaj{t:cm}(F:cz K "slope_of" "slope_of" HD f t)(G:mg "enumerate"=ac)(I:mg "len"=ac):cp P w K mg base aZ 1 f t ["table"] CQ:=by
 show F.q ZY λM A l s H W Q E X=>?_;rintro⟨L,Y,Z,rfl,u,N,T,k⟩;show(_,bx (cE (fq ["table"] ["k","row"] [ac,ac] (BW O G Qi<|aq 7#0 aC)
  (λv C a b x=>nr O<|hJ (cx (i:=0) (dM ["k","row"]) O<|av O)<|hJ (cx (i:=1) (dM ["k","row"]) O<|av O) nq)
  (λv C a b x=>Ob<|uN.q<|N_ (fJ wP 7#0 (dO fU O I rx<|aq 7#1 aC)<|eV _)<|NZ<|fJ sY (bP ft 7#1 7#0 2#0) aS<|eV _)
  (λv C a b x=>bP ft 7#1 7#0 2#0) (te:=eM (uF K) (bZ 1)<|bZ 0) (tc:=Nz (wH<|eM (kf λi j=>.c<|aJ<|i<j) (bZ 0)<|sV (PM K)<|eO (bZ 1) iw)<|wH<|eM NS (eM (uF K) (bZ 1)<|bZ 0)<|jM<|.int 0) (hfr:=nv δ) (g:=kI K 2<|fM (de 0)<|fM (de 1) kJ))),?_)
 show(_,O,L,O,(_,bJ.q u),λD y=>fu<|PW (mkV:=ak.int) (p:=λk r=>aJ (k<r.length)&&aJ (aQ r k≠0)) (g:=λk r=>aQ r k) (λi o c z R S sm m hm U B=>?_) (bJ.q u) N T y λV n q=>k D V n y q);show(_,O,_,O,o,_,O,.inl<|bJ.q m,_,_,O,O,_,O,?_);rw[aA];cases d:i<c.length;rw[cN (show((i:Nat):Int)<((c.length:Nat):Int) from ω)];show gG (_,O,_,O,o,_,_,_,O,O,bJ.q m,bX<|xy d,O,_,O,?_);cases h:aQ c i=0;rw[show(!aJ (ak.int (aQ c i)=ak.int 0))=aH by rw[h];rfl];show gi<|B (by rw[h];simp);rw[show(!aJ (ak.int (aQ c i)=ak.int 0))=ap by rw[dD (λe=>h (by injection e))];rfl];show gG (_,O,_,O,o,_,_,_,O,O,bJ.q m,bX<|xy d,U (by simp[d,h]) z<|aM.refl z);rw[dD (show ¬((i:Nat):Int)<((c.length:Nat):Int) from ω)];show gi<|gi<|B (by simp[d])
def ro(a:Ξ):Bool:=xx a&&qj (qf a) a.length
inductive Hp(vs:List ak)(H:ag)(Q:aR)(E':cy):Prop
 |a:∀L rs tb,(vs=[.ref L])->(H L=aa (.lst<|rs.map ak.ref))->(dg H rs tb)->(tb.length<=1000)->((∀r∈tb,r.length<=1000))->(∀H',aM H H'->Q (.c<|ro tb) H')->Hp vs H Q E'
def θ:cR ["table"] ["table"] (bD HM):=1#0
def ZS:(qf a).length<=a.length:=by
 ext qf rr;rw[aA];show aL (rZ _ _) 0#0
def aaw{m:cm}(F:cz K "is_in_steps" "is_in_steps" HM f m)(q:mg "len"=ac)(r:bW P w K mg base aZ "is_on_slope" ["table"] 2 CT)(t:bW P w K mg base aZ "slope_of" ["table"] 1 CQ)(u:bW P w K mg base aZ "are_steps" ["steps","most"] 1 Ht):cp P w K mg base aZ 3 f m ["table"] Hp:=by
 show F.q θ λv A g s H G Q E n=>?_;rintro⟨L,o,a,rfl,h,i,j,x,k⟩;let b:fF 1 _:=n.q ξ;show(_,bx<|cE<|XP (bv r n O bw<|aq 7#0 aC)<|XJ<|bv u b O bw<|aq (bv t b O bw<|aq 7#0 aC)<|aq (dO fU O q rx<|aq 7#0 aC) aC,?_);show(_,O,L,o,a,O,h,i,j,x,λy d=>(_,O,?_));let l:=i.F;cases c:xx a with
 |false=>
  let e:ro a=aH:=by ext ro;rw[c];rfl
  rw[e] at k;show gi<|k y d
 |true=>
  show gG (_,O,L,o,a,O,d _ _ h,i.q d,j,λD I p M z=>(_,O,L,_,O,.inl<|bJ.q<|(d.trans p) _ _ h,D,qf a,_,O,z,aL ZS j,λB C=>?_));let e:ro a=qj (qf a) (a.length:Int):=by ext ro;rw[c];rfl
  rw[e] at k;rw[aA,l];show k B<|(d.trans p).trans C
end
def ay(a:Ξ):Nat->am:=λi=>aQ<|dB a i
def lG{a:Ξ}{i:Nat}(h:a[i]?=aa r):dB a i=r:=by ext dB;rw[co,h];rfl
def lH{a:Ξ}{i:Nat}(h:i<a.length):dB a i∈a:=%[lG<|bu h|dW _]
def zS{a:Ξ}{i:Nat}(h:a.length<=i):dB a i=[]:=by ext dB;rw[co,oP h];rfl
def Di{a:Ξ}{r:Ζ}(h:r∈a):∃i,i<a.length/\dB a i=r:=by
 let(i,b,rfl):=jW h;show(i,b,lG<|bu b)
def tB{l:Ζ}{u:Nat}(h:u<l.length):aQ l u=l[u]:=by ext aQ;rw[co,bu h];rfl
def ZN{a b:Ζ}{m u:Nat}(h:a.length=m):aQ (a++b) u=if u<m then aQ a u else aQ b (u-m):=by
 ext aQ;rw[co,co,co];cases c:u<m;rw[aw c,sf %[|à c (æ h)]];rw[ar c,r_ %[|à (å h) (ô c)],h]
def ZI{a:Ζ}{m u:Nat}:aQ (a.take m) u=if u<m then aQ a u else 0:=by
 ext aQ;rw[co,co,List.getElem?_take];split<;>rfl
def ZM{a:Ζ}{m u:Nat}:aQ (a.drop m) u=aQ a (m+u):=by
 ext aQ;rw[co,co,Lr]
def PO{a:Ξ}{n:Nat}(h:a.length=n):a.map aQ=a_ n (ay a):=by
 ext a_;apply kX;simp[h];intro i b c;rw[iG,iG,mD];change _=aQ (dB a i);rw[aA] at b;rw[lG<|bu b]
section
variable{tb ub:Ξ}{m n:Nat}
def uZ(a:tb.length=n)(b:ub.length=n):(dU tb ub).length=n:=by ext dU;rw[i_,a,b,yu]
def Qe(c:tb.length=n)(d:ub.length=n){i:Nat}(e:i<n):dB (dU tb ub) i=dB tb i++dB ub i:=by
 let a:=bu (show i<tb.length from (à e (æ c)));let b:=bu (show i<ub.length from (à e (æ d)));rw[lG a,lG b];show lG ?_;ext dU;rw[yz,a,b]
def Ia(a:tb.length=n)(b:ub.length=n)(c:∀r∈tb,r.length=m){i:Nat}(d:i<n):ay (dU tb ub) i=be m (ay tb) (ay ub) i:=funext λu=>by
 ext ay be;rw[Qe a b d,ZN<|c _<|lH %[|à d (æ a)]]
def Dl(a:tb.length=n)(b:ub.length=n)(c:∀r∈tb,r.length=m):(dU tb ub).map aQ=a_ n (be m (ay tb)<|ay ub):=by
 rw[PO<|uZ a b];show nj λi d=>Ia a b c d
def ZP{i:Nat}(h:i<=n):(a_ n a).take i=a_ i a:=by
 ext a_;rw[<-EY,List.take_range,AQ h]
def Qd(a:tb.length=n)(b:ub.length=n)(c:∀r∈tb,r.length=m){i:Nat}(d:i<=n):((dU tb ub).take i).map aQ=a_ i (be m (ay tb)<|ay ub):=by
 rw[EY,Dl a b c,ZP d]
end
def Hv{a:Nat->Ζ}{W:Nat}:∀{ps:List Nat}{b:Ζ},b.length=W->(∀p∈ps,(a p).length=W)->eA a b ps=jY (di a) ps (aQ b)
 |[],_,_,_=>O
 |p::ps,b,h,c=>by
  let d:=c p<|fy ..;change _::eA a (ow a b p) ps=_::jY (di a) ps (sXq (di a) p<|aQ b);rw[Hv (ps:=ps) (HS h d) λq e=>c q<|gF _ e,Pu %[|û (à (å h) (æ d)) (à (å d) (æ h))]];rfl
structure ny(N M X B Y m n:Nat)(tb ub bb:Ξ):Prop where
 b:tb.length=n
 a:ub.length=n
 e:bb.length=n
 w1:∀r∈tb,r.length=m
 o:∀r∈ub,r.length=n
 g:∀r∈bb,r.length=n
 k:n<=40
 w:m<=40
 c:n<=N
 h:1<=N
 C:N<64
 s:∀j,j<=n->lj N M X B (a_ j<|be m (ay tb)<|ay ub)
 row:∀i,i<n->∀P f,fC N M X B (a_ i<|be m (ay tb)<|ay ub) P f->∀p∈P,(be m (ay tb) (ay ub) i p).natAbs<=M
 l:∀i,i<n->∀u,(be m (ay tb) (ay ub) i u).natAbs<=Y
 d:1<=B
 A:1<=X
 y:1<=Y
 v:B<2 ^ 9000
 t:N*(kG N M X B*Y)<iQ
 z:∀r∈bb,∀x∈r,x.natAbs<iQ
section
variable{N M X B Y m n:Nat}{tb ub bb:Ξ}
def ny.F(S:ny N M X B Y m n tb ub bb):∀r∈dU tb ub,r.length=m+n:=λr b=>by
 let(i,a,rfl):=Di b;rw[uZ S.b S.a] at a;rw[Qe S.b S.a a,eE,S.w1 _<|lH %[S.b|a],S.o _<|lH %[S.a|a]]
def ny.A2(S:ny N M X B Y m n tb ub bb):∀r∈dU tb ub,∃i,i<n/\aQ r=be m (ay tb) (ay ub) i:=λr b=>by
 let(i,a,rfl):=Di b;rw[uZ S.b S.a] at a;show(i,a,Ia S.b S.a S.w1 a)
def ny.A3(S:ny N M X B Y m n tb ub bb):1<=iK N X B:=KT S.h<|KT S.d S.A
def ny.J(S:ny N M X B Y m n tb ub bb):N*(ja N M X B*Y)<iQ:=
 fH (eD _<|eC _<|aL (FV S.d) wA) S.t
def ny.at(S:ny N M X B Y m n tb ub bb)(F:fC N M X B ((dU tb ub).map aQ) P f):∀r∈dU tb ub,∀p∈P,(aQ r p).natAbs<=M:=by
 rw[Dl S.b S.a S.w1] at F;let h:=((S.s n<|aE _).a P f F.a F.b F.e (λp a=>(F.fr p a).sp) F.c).2.1;intro r b p a;show h (aQ r) ?_ p a;let(i,c,e):=S.A2 r b;rw[e];show aW.mpr (i,bH.mpr c,O)
def aba(F:fC N M X B R P f):∀p∈P,∀q∈P,(f p q).natAbs<=B:=λp a q b=>by
 obtain h|h|h:=nN p q
 have:=F.d p a q b h
 have:=F.g q b;lk
 subst h;show F.g p a;rw[F.a.z p a q h];show cJ _
def ny.A1(S:ny N M X B Y m n tb ub bb){b:Nat->Ζ}(F:fC N M X B ((dU tb ub).map aQ) P (di b))(e:jR (m+n) P b):∀r∈dU tb ub,∀x∈eA b r P,x.natAbs<=M*2 ^ n:=by
 intro r c x d;rw[Hv (S.F r c) λp a=>(e.row p a).2] at d;let f:P.length=n:=#v[F.c,aA,uZ S.b S.a]
 have:=UY F.a F.b F.d (F.e (aQ r)<|aW.mpr (r,c,O)) (V:=M) (λp a=>aL (S.at F r c p a)<|yw _ (by have:=F.a.a p a;lk)) x d
 rwa [f] at this
def ny.q(S:ny N M X B Y m n tb ub bb):Qj N M X B Y m n tb ub bb:=by
 let c:=uZ S.b S.a;let t:∀r∈(dU tb ub).map aQ,∀u,(r u).natAbs<=Y:=λr a u=>by
  let(q,h,rfl):=aW.mp a;let(i,b,e):=S.A2 q h;rw[e];show S.l i b u
 show(S.b,S.a,S.e,S.w1,S.g,S.k,by have:=S.w;show â this,S.o,(by have:=S.w;have:=S.k;lk,%[c|S.c],S.F,λi b=>?_,λi r a P f K p d=>?_),λP v K k r a=>?_,λP v K k r a x w l g y z=>?_);rw[c] at b;rw[Qd S.b S.a S.w1 %[|b]];show(S.d,S.v,S.t,λr a u=>?_,S.C,S.s (i+1) b);let(j,A,rfl):=aW.mp a;show S.l j (by have:=bH.mp A;show à this b) u;let b:i<n:=by have:=(dN.mp a).1;rwa [c] at this
 rw[Qd S.b S.a S.w1 %[|ì b]] at K;have:=S.row i b P f K p d;rwa [<-Ia S.b S.a S.w1 b,ay,lG a] at this;let s:P.length=n:=#v[K.c,aA,c]
 let o:((dU tb ub).map aQ).length<=N:=%[aA,c|S.c]
 let D:1+P.length*(M*(1+B) ^ P.length*iK N X B)<=ja N M X B:=by
  ext ja;have:P.length*(M*(1+B) ^ P.length*iK N X B)<=N*(M*(1+B) ^ N*iK N X B):=iE %[s|S.c]<|eC _<|eD _<|iD ü %[s|S.c];lk
 show χ (C:=1) (CF:=iK N X B) (V:=M) (VF:=B) t o K.fr (aba K) K.a.a (λp d=>fH (K.g p d) S.v) k (S.F r a) (ez.F<|aW.mpr (r,a,O)) (λq h=>S.at K r a q h) (λp d=>d) ?_ ?_;show fH (eD _<|eC _ D) S.J;show fH (eD _<|eC _ ?_) S.J;ext ja;show í ý;let E:=S.A1 K k r a x w;show xH ?_<|S.z l g y z;rw[LB];show fH E<|fH ?_ S.J;let G:2 ^ n<=(1+B) ^ N:=aL (qD (by have:=S.d;lk) _)<|iD ü S.c;let I:M*2 ^ n<=M*(1+B) ^ N*iK N X B:=aL (eD _ G)<|yw _ S.A3;let H:M*2 ^ n<=ja N M X B:=by
  ext ja;have:=rT (M*(1+B) ^ N*iK N X B) S.h;show î (à I this)
 show aL H<|aL (yw _ S.y)<|rT _ S.h
end
def Pv{w:Nat}:∀{b:Ζ}{a:Ξ}{l:Ζ},l.length=w->(∀r∈a,r.length=w)->∀u,aQ ((b.zip a).foldl ml l) u=aQ l u+aD b (a.map aQ) u
 |[],a,l,_,_,u=>by cases a<;>(change aQ l u=aQ l u+0;lk)
 |_::_,[],l,_,_,u=>by change aQ l u=aQ l u+0;lk
 |x::b,r::a,l,d,h,u=>by
  let c:=h r<|fy ..;change aQ ((b.zip a).foldl ml<|ml l (ahl x r)) u=aQ l u+(x*aQ r u+aD b (a.map aQ) u);rw[Pv (PN d c) (λr c=>h r<|gF _ c) u];have:aQ (ml l (ahl x r)) u=aQ l u - -x*aQ r u:=by
   ext ml jn;rw[CN 0#0 (show l.length=r.length from û (à (å d) (æ c)) (à (å c) (æ d)))]
  rw[this,mF];lk
def Ps:aQ (eL w 0) u=0:=by
 ext aQ;rw[co,E_];split<;>rfl
def ZK{w:Nat}{a:Ξ}(h:∀r∈a,r.length=w):aQ (uY w b a)=aD b (a.map aQ):=funext λu=>by
 ext uY;rw[Pv (rY) h u,Ps];lk
def aa7{w:Nat}{a:Ξ}(h:∀r∈a,r.length=w):(uY w b a).length=w:=
 HW rY λz c=>h z.2 (rU c).2
def eZ(a:Ξ)(K:Nat):Prop:=∀i u,(ay a i u).natAbs<=K
def eZ.F{K:Nat}(h:eZ a K):∀r∈a,∀x∈r,x.natAbs<=K:=λr b x c=>by
 let(i,ϟ,rfl):=Di b;let(u,ϟ,rfl):=Dg c;show h i u
def eZ.q{K b:Nat}(h:eZ a K)(c:K<=b):eZ a b:=λi u=>aL (h i u) c
def xD{a:Ξ}{K n:Nat}(b:a.length=n)(h:∀i,i<n->∀u,(ay a i u).natAbs<=K):eZ a K:=λi u=>by
 cases c:i<n;show h i c u;ext ay;rw[zS %[|à (å b) (ô c)]];show cJ _
def PH{P:List Nat}{i:Nat}(h:i<P.length):dB (P.map g) i=g (bL P i):=by
 show lG ?_;ext bL;rw[ca,co,bu h];rfl
def HR{n:Nat}{i:Nat}(h:i<n):dB ((aP n).map g) i=g i:=lG (by rw[ca,jX h];rfl)
def ko{n:Nat}{i:Nat}(h:i<n)(u:Nat):ay ((aP n).map<|dR T) i u=ay T u i:=by
 ext ay;rw[HR h];cases c:u<T.length;rw[lG<|bu c];ext dR;change fn _ _ _=_;rw[co,ca,bu c];rfl;rw[zS %[|ô c]];change fn _ _ _=_;ext dR;rw[co,ca,oP %[|ô c]];rfl
def mn{n:Nat}:((aP n).map<|dR T).length=n:=by simp
def rt{n w:Nat}{T:Ξ}(h:T.length=w):∀r∈(aP n).map (dR T),r.length=w:=λr a=>by
 let(j,ϟ,rfl):=aW.mp a;ext dR;rw[aA,h]
def xz{n i:Nat}(h:i<n):ay (eP n) i=bT i:=funext λt=>by
 ext ay eP zJ;rw[HR h];ext lF bT bC aQ;rw[rY,aw h,co,Lp,co,E_,aw h];cases c:i=t;rw[aw c,aw c,rY,aw h];rfl;rw[ar c,ar c,E_];split<;>rfl
def GZ{n:Nat}:(eP n).length=n:=by ext eP zJ;simp
def Py{n:Nat}:∀r∈eP n,r.length=n:=λr a=>by
 unfold eP zJ at a;let(j,ϟ,rfl):=aW.mp a;ext lF;split<;>simp
section
variable{N M X B Y m n:Nat}{tb ub bb:Ξ}{P:List Nat}{fr:Nat->Ζ}
structure vg(N M X B m n:Nat)(tb ub bb:Ξ)(P:List Nat)(fr:Nat->Ζ)(tb' ub' bb':Ξ):Prop where
 d:fC N M X B (a_ n<|be m (ay tb)<|ay ub) P (di fr)
 o:P.length=n
 e:tb'.length=n
 h:ub'.length=n
 g:bb'.length=n
 w1:∀r∈tb',r.length=m
 j:∀r∈ub',r.length=n
 l:∀r∈bb',r.length=n
 c:∀i u,i<n->u<m->ay tb' i u=di fr (bL P i) u
 k:∀i,i<n->ay ub' i=λt=>di fr (bL P i)<|m+t
 f:a_ n (ay bb')=uz n ((a_ n<|be m (ay tb)<|ay ub).map λr=>jY (di fr) P r) (a_ n<|ay bb)
 e2:∀{a:Nat},eZ ub a->eZ ub' (N*(iK N X B*a))
 e3:∀{b:Nat},eZ bb b->eZ bb' (N*(M*2 ^ N*b))
def ny.done(S:ny N M X B Y m n tb ub bb)(F:fC N M X B ((dU tb ub).map aQ) P (di fr))(k:jR (m+n) P fr):vg N M X B m n tb ub bb P fr (P.map λp=>(fr p).take m) (P.map λp=>(fr p).drop m) (qi n ((dU tb ub).map λr=>eA fr r P) bb):=by
 let C:=S.A1 F k;let l:=F;rw[Dl S.b S.a S.w1] at l;let d:P.length=n:=#v[F.c,aA,uZ S.b S.a]
 let w:∀i,i<n->ay (P.map λp=>(fr p).drop m) i=λt=>di fr (bL P i)<|m+t:=λi f=>funext λt=>by
  ext ay;rw[PH %[|à f (æ d)],ZM];rfl
 let z:(qi n ((dU tb ub).map λr=>eA fr r P) bb).length=n:=by ext qi;simp
 let A:∀j,j<n->ay (qi n ((dU tb ub).map λr=>eA fr r P) bb) j=aD (dR ((dU tb ub).map λr=>eA fr r P) j) (bb.map aQ):=λj g=>by
  ext ay qi;rw[HR g,ZK S.g]
 show(l,d,#v[aA,d],#v[aA,d],z,λr c=>?_,λr c=>?_,λr c=>?_,λi u f D=>?_,w,?_,λ{a} E=>?_,λ{b} G=>?_);let(p,h,rfl):=aW.mp c;rw[gf,(k.row p h).2];lk;let(p,h,rfl):=aW.mp c;rw[lX,(k.row p h).2];lk;unfold qi at c;let(j,ϟ,rfl):=aW.mp c;show aa7 S.g;ext ay;rw[PH %[|à f (æ d)],ZI,aw D];rfl;let e:a_ n (ay<|qi n ((dU tb ub).map λr=>eA fr r P) bb)=(aP n).map λj=>aD (dR ((dU tb ub).map λr=>eA fr r P) j)<|bb.map aQ:=iZ λj g=>A j<|bH.mp g;rw[e];ext uz;show iZ λj _=>funext λs=>?_;rw[PO S.e];let H:(a_ n<|be m (ay tb)<|ay ub).map (λr=>jY (di fr) P r)=(dU tb ub).map λr=>eA fr r P:=by
  rw[<-Dl S.b S.a S.w1,dC];show iZ λr c=>(Hv (S.F r c) λp h=>(k.row p h).2).symm
 rw[H];rfl;show xD (n:=n) #v[aA,d] λi f u=>?_;rw[w i f];show US l (λi t f=>E i t) _ (wp d f) u;show xD z λj g u=>?_;rw[A j g];let o:(dR ((dU tb ub).map λr=>eA fr r P) j).length=(bb.map aQ).length:=by ext dR;rw[aA,aA,aA,uZ S.b S.a,S.e]
 let I:ez (bb.map aQ) (M*2 ^ n) (aD (dR ((dU tb ub).map λr=>eA fr r P) j)<|bb.map aQ):=by
  show(_,o,λu=>O,λx q=>?_);unfold dR at q;rw[dC] at q;let(r,c,rfl):=aW.mp q;change((eA fr r P).getD j 0).natAbs<=_;rw[co];cases e:(eA fr r P)[j]? with
  |none=>show cJ _
  |some y=>show C r c y<|dL e
 have:=I.le (u:=u) (M:=b) λv K=>by
  let(r,c,rfl):=aW.mp K;let(i,ϟ,rfl):=Di c;show G i u
 show aL this<|iE %[aA,S.e|S.c]<|eC _<|eD _<|iJ S.c
end
def l'.J{n r g c b:Nat}{Q:Nat->Nat}(K:l' n r g b W Q)(h:g<=c):l' n r c b W Q:=(K.d,K.j,K.f,K.h,λi a d e=>aL (K.k i a d e)<|eC _ h,K.e)
def pV.J{A S U V:Nat->am}{k w r D a b g g':Nat}{c d:List am}{e f:Nat->Nat}(I:pV A k w r D a b g S U V c d e f)(h:g<=g'):pV A k w r D a b g' S U V c d e f:=(I.a,I.b,aL I.j h,I.l,I.f,I.h,I.n.J h,I.e,I.c,I.d)
structure iR where
 m:Nat
 x:Nat
 d:Nat
 b:Nat
def qe(N n:Nat)(m:iR):Nat:=m.x
def qh(N n:Nat)(m:iR):Nat:=m.d
def iz(N n:Nat)(m:iR):Nat:=m.b
def iP(N n:Nat)(m:iR):Nat:=2*n+iz N n m+qe N n m+m.m
def jF(N n:Nat)(m:iR):Nat:=iP N n m+(2+2*n+m.m+N)*N
def fZ(N n:Nat)(m:iR):Nat:=n+jF N n m+iP N n m
def gM(N n:Nat)(m:iR):Nat:=2*(N*qh N n m)+1
def fY(N n:Nat)(m:iR):Nat:=fZ N n m+(n+1)*N+2*n+1
def gv(N n:Nat)(m:iR):Nat:=2*n+fZ N n m+jF N n m+iP N n m+N+m.m
structure iS(N n:Nat)(m:iR):Prop where
 e:1<=N
 b:N<=40
 a:N<=2 ^ n
 d:fZ N n m<9000
 g:m.m<=900
 f:m.d<=m.b
 c:n+sG N n (n*gM N n m+fZ N n m) ((n*gM N n m+1)*N+jF N n m) (fZ N n m)+(gv N n m+fY N n m*(gM N n m+1))<67107860
def uW(N n q:Nat):iR:=(q,(1+n+q)*N,(2+n+q)*N,n+q+(2+n+q)*N)
def Qg{a b:Nat}(h:a<=2 ^ b)(c:b<67108864):a<iQ:=by
 ext iQ;show fH h<|yt ξ %[u_|c]
noncomputable def ig:Nat:=2 ^ (tE-1000)
def aa8{a b:Nat}(h:a<=2 ^ b)(c:b<67107864):a<ig:=by
 ext ig;show fH h<|yt ξ %[u_|c]
def PQ{a b:Nat}(h:a<=2 ^ b)(g:b<67107863):a+1000<ig:=by
 obtain⟨c,d,i⟩:∃c,tE-1000=c+1/\c=67107863:=(tE-1001,#v[u_],#v[u_]);let j:a<2 ^ c:=fH h<|yt ξ (à g (æ i));let e:2 ^ 10<=2 ^ c:=iD ξ (ã (æ i));ext ig;rw[d,ng];let f:(2:Nat) ^ 10=1024:=ξ;rw[f] at e;generalize (2:Nat) ^ c=z at *;lk
def zT{a:Nat}(h:a<ig):a<iQ:=by
 unfold ig at h;ext iQ;show fm h<|iD ξ<|Nat.sub_le _ _
section
variable{N n:Nat}{m:iR}
def pq(G:iS N n m):iz N n m<=iP N n m/\iP N n m<=jF N n m/\jF N n m<=fZ N n m/\qh N n m<=iz N n m/\iz N n m<=fZ N n m/\qe N n m<=iP N n m:=by
 let h:iP N n m<=jF N n m:=iY _ _;let a:fZ N n m=n+jF N n m+iP N n m:=O;let b:iP N n m=2*n+iz N n m+qe N n m+m.m:=O;let c:qh N n m<=iz N n m:=G.f;lk
def iS.J(G:iS N n m){M X B Y a x y t:Nat}(d:∃b,B=2 ^ b/\b<=fZ N n m)(e:M=2 ^ a)(f:X=2 ^ x)(g:Y=2 ^ y)(h:t<=gM N n m+1)(i:a<=n*gM N n m+fZ N n m)(j:x<=(n*gM N n m+1)*N+jF N n m)(k:y<=gv N n m+fY N n m*t):N*(kG N M X B*Y)<iQ:=by
 let(b,rfl,l):=d;subst e f g;let o:y<=gv N n m+fY N n m*(gM N n m+1):=aL k<|vY (eD _ h) _;let p:=UO (N:=N) (n:=n) i j l;let c:=G.c;let c:n+sG N n (n*gM N n m+fZ N n m) ((n*gM N n m+1)*N+jF N n m) (fZ N n m)+(gv N n m+fY N n m*(gM N n m+1))<67107860:=c;show Qg (dm G.a<|dm (Vw G.e G.a)<|aE _) ?_;lk
def iS.A0(G:iS N n m){a:Ξ}{y t:Nat}(h:eZ a (2 ^ y))(b:t<=gM N n m+1)(c:y<=gv N n m+fY N n m*t):∀r∈a,∀x∈r,x.natAbs<ig:=λr d x e=>by
 let f:y<=gv N n m+fY N n m*(gM N n m+1):=aL c<|vY (eD _ b) _;let g:n+sG N n (n*gM N n m+fZ N n m) ((n*gM N n m+1)*N+jF N n m) (fZ N n m)+(gv N n m+fY N n m*(gM N n m+1))<67107860:=G.c;show aa8 (h.F r d x e) ω
def iS.F(G:iS N n m){a:Ξ}{y t:Nat}(h:eZ a (2 ^ y))(b:t<=gM N n m+1)(c:y<=gv N n m+fY N n m*t):∀r∈a,∀x∈r,x.natAbs+1000<ig:=λr d x e=>by
 let f:y<=gv N n m+fY N n m*(gM N n m+1):=aL c<|vY (eD _ b) _;let g:=G.c;show PQ (h.F r d x e) ω
def iS.q(G:iS N n m){a:Ξ}{y t:Nat}(h:eZ a (2 ^ y))(b:t<=gM N n m+1)(c:y<=gv N n m+fY N n m*t):∀r∈a,∀x∈r,x.natAbs<iQ:=λr d x e=>zT<|G.A0 h b c r d x e
structure kO(N n:Nat)(m:iR)(t e:Nat)(A:Nat->am)(k w r:Nat)(T U Bn V Bf:Ξ)(QU QV:Nat->Nat):Prop where
 h:k<=N
 s:w<=N
 c:T.length=w
 f:U.length=k
 d:Bn.length=k
 j:V.length=w
 y:Bf.length=w
 v:∀r∈T,r.length=k
 g:∀r∈U,r.length=k
 i:∀r∈Bn,r.length=k
 p:∀r∈V,r.length=w
 B:∀r∈Bf,r.length=w
 a:kc A k w r (2 ^ qh N n m) (2 ^ iz N n m) (2 ^ fZ N n m) (2 ^ e) (ay T) (ay U) (ay V) (a_ k<|ay Bn) (a_ w<|ay Bf) QU QV
 te:e<=n*t
 q:t+ms r (ay T)<=gM N n m
 l:∃u,eZ U (2 ^ u)/\u+N*e<=gv N n m+fY N n m*t
 o:∃b,eZ Bn (2 ^ b)/\b+e<=gv N n m+fY N n m*t
 z:eZ V (2 ^ (gv N n m+fY N n m*t))
 x:eZ Bf (2 ^ (gv N n m+fY N n m*t))
structure tG(N n:Nat)(m:iR)(t e:Nat)(A:Nat->am)(k w r:Nat)(T S U Bn V Bf:Ξ)(S0 U0:Nat->am)(QU QV:Nat->Nat):Prop where
 g:k<=N
 d:w<=N
 j:S.length=k
 s:U.length=k
 H:Bn.length=k
 v:V.length=w
 I:Bf.length=w
 G:∀r∈S,r.length=w
 B:∀r∈U,r.length=k
 C:∀r∈Bn,r.length=k
 x:∀r∈V,r.length=w
 E:∀r∈Bf,r.length=w
 c:pV A k w r (2 ^ qh N n m) (2 ^ iz N n m) (2 ^ fZ N n m) (2 ^ e) S0 U0 (ay V) (a_ k<|ay Bn) (a_ w<|ay Bf) QU QV
 o:∀i u,i<k->u<w->ay S i u=S0 i u
 p:∀i,i<k->U0 i=ay U i
 y:∀{M2 X2 B2:Nat}{P2:List Nat}{f2:Nat->am},iv w r k M2 1 (be k (λu i=>S0 i u)<|ay V) (λa=>k+QV a)->fC N M2 X2 B2 (a_ w<|be k (λu i=>S0 i u)<|ay V) P2 f2->ms r (λu=>f2<|cV r k QV u)<ms r (ay T)
 te:e<=n*(t+1)
 h:t+ms r (ay T)<=gM N n m
 D:∃u,eZ U (2 ^ u)/\u+N*e<=gv N n m+fY N n m*(t+1)
 z:∃b,eZ Bn (2 ^ b)/\b+e<=gv N n m+fY N n m*(t+1)
 f:eZ V (2 ^ (gv N n m+fY N n m*t))
 l:eZ Bf (2 ^ (gv N n m+fY N n m*t))
def zV{q:Nat}{S a W b:Nat->am}{i:Nat}(d:∀u,u<q->S i u=a i u)(e:W i=b i):be q S W i=be q a b i:=funext λu=>by
 ext be;cases c:u<q;rw[aw c,aw c,d u c];rw[ar c,ar c,e]
def zU{q:Nat}{S W:Nat->am}{i K:Nat}(a:∀u,u<q->(S i u).natAbs<=K)(b:∀t,(W i t).natAbs<=K)(u:Nat):(be q S W i u).natAbs<=K:=by
 ext be;cases c:u<q;rw[aw c];show a u c;rw[ar c];show b _
variable{t e k w r:Nat}{A:Nat->am}{T S U Bn V Bf:Ξ}{QU QV:Nat->Nat}{S0 U0:Nat->am}
def tG.F(L:tG N n m t e A k w r T S U Bn V Bf S0 U0 QU QV){i:Nat}(a:i<w):be k (ay<|(aP w).map<|dR S) (ay V) i=be k (λu i=>S0 i u) (ay V) i:=
 zV (λu b=>%[ko a|L.o u i b a]) O
def tG.q(L:tG N n m t e A k w r T S U Bn V Bf S0 U0 QU QV){j:Nat}(a:j<=w):a_ j (be k (ay<|(aP w).map<|dR S)<|ay V)=a_ j (be k (λu i=>S0 i u)<|ay V):=nj λi b=>L.F (à b a)
def tG.J(G:iS N n m)(L:tG N n m t e A k w r T S U Bn V Bf S0 U0 QU QV):iv w r k (2 ^ fZ N n m) 1 (be k (λu i=>S0 i u)<|ay V) (λa=>k+QV a):=by
 let h:=pq G;show L.c.A0 (aE _)<|iJ ω
def tG.A0(G:iS N n m)(L:tG N n m t e A k w r T S U Bn V Bf S0 U0 QU QV):ny N (2 ^ fZ N n m) (2 ^ N) (2 ^ fZ N n m) (2 ^ (gv N n m+fY N n m*t)) k w ((aP w).map<|dR S) V Bf:=by
 let h:=pq G;let c:=L.J G;let g:=G.b;let y:=L.h;let z:=L.d;show(mn,L.v,L.I,rt L.j,L.x,L.E,(à z g),by have:=L.g;show à this g,L.d,G.e,(â (ï g)),λj d=>?_,λi b P f C p l=>?_,λi b u=>?_,jh,jh,jh,yt ξ G.d,?_,?_);rw[L.q d];show(L' c (B:=2 ^ fZ N n m) (N:=N) (λa o=>?_) (λq v=>?_) L.d d).q (aE _) (by change(1+1) ^ N<=2 ^ N;show aE _)<|aE _
 have:=c.p a o;lk
 rw[pP (g':=S0) λi b=>#v[iq (by have:=L.c.a;show à (à b v) this)]];show aL (L.c.d q v)<|iJ ω;rw[L.q %[|ì b]] at C;rw[L.F b];show c.row b C p l;rw[L.F b];show zU (λu x=>aL (L.c.A1 (u:=i) (i:=u) b x)<|iJ ?_) (λs=>L.f i s) u;ext gv;lk;show G.J (_,O,aE _) O O O (t:=t) (í (è y)) ý (by have:1*N<=(n*gM N n m+1)*N:=eC _ ý;lk)<|aE _;show G.q (t:=t) L.l (í (è y))<|aE _
def rm:gv N n m+fY N n m*(t+1)=gv N n m+fY N n m*t+fY N n m:=by rw[my,oI];lk
def tG.next(G:iS N n m)(L:tG N n m t e A k w r T S U Bn V Bf S0 U0 QU QV){g:Nat->Ζ}{h j d:Ξ}(D:vg N (2 ^ fZ N n m) (2 ^ N) (2 ^ fZ N n m) k w ((aP w).map<|dR S) V Bf P g h j d):kO N n m (t+1) e A k w r h U Bn j d QU QV:=by
 let l:=L.J G;let C:=D.d;rw[L.q<|aE _] at C;let(s,E,ϟ,ϟ):=L.c.q l C;let y:=L.y l C;let o:∀i,i<w->bL P i=cV r k QV i:=λi f=>by
  ext bL;rw[s,co,ca,jX f];rfl
 let p:∀u i,u<w->i<k->di g (cV r k QV u) i=ay h u i:=λu i c f=>#v[D.c u i c f,o u c]
 let z:=E.a;let v:=E.b;let q:=D.f;rw[L.q<|aE _] at q;let x:∀a b:Nat,2*n+fZ N n m+N<=fY N n m:=λ_ _=>by ext fY;rw[mz];lk
 let B:=x 0 0;show(L.g,L.d,D.e,L.s,L.H,D.h,D.g,D.w1,L.B,L.C,D.j,D.l,?_,L.te,?_,L.D,L.z,?_,?_);rw[<-q] at E;show E.cg p L.p λu c=>#v[D.k u c,o u c]
 rw[<-Vj (T:=λu=>di g<|cV r k QV u) λu i c f=>p u i %[|à c v] %[|à f z]]
 have:=L.h;lk
 show(D.e2 L.f).q ?_;rw[rm];show aL (dm G.a<|dm (uy G.a)<|aE _)<|iJ ?_;lk;show(D.e3 L.l).q ?_;rw[rm];show aL (dm G.a<|dm (dm (aE _)<|aE _)<|aE _)<|iJ ?_;lk
end
def Mc:∀(n i:Nat),jz U r n i u=jz (λi _=>U i u) r n i 0
 |0,_=>O
 |n+1,i=>by change U i u+jz U r n (i+1) u=U i u+_;rw[Mc n<|i+1]
def Mg{r:Nat}:∀(n:Nat),n+1<=r->∀i,nV C r n i=if r-n<=i/\i<r then(λs=>C i s-C (i-1) s) else C i
 |0,h,i=>by change C i=_;rw[ar ω]
 |n+1,h,i=>by
  let a:=Mg (C:=C) (r:=r) n (ì h);change fB (nV C r n) (r-1-n) (λs=>nV C r n (r-1-n) s-nV C r n (r-2-n) s) i=_;cases e:i=r-1-n;rw[e,jZ,aw ω,a<|r-1-n,a<|r-2-n,ar ω,ar ω,show r-1-n-1=r-2-n from ω];rw[jA e,a i];cases b:r-n<=i/\i<r;rw[aw b,aw ω];rw[ar b,ar ω]
def PG{a:Ξ}{j i:Nat}(h:j<a.length):dB (a.set j x) i=if i=j then x else dB a i:=by
 ext dB;rw[co,co,Lp];cases c:i=j;rw[aw c.symm,aw c,aw h];rfl;rw[ar<|cQ c,ar c]
def Px{a b:Ζ}{q:Int}(h:a.length=b.length):aQ (jn a q b)=λu=>aQ a u-q*aQ b u:=by ext jn;rw[CN 0#0 h]
def PS{a b:Ζ}{q:Int}(h:a.length=b.length):(jn a q b).length=a.length:=by ext jn;rw[i_];lk
section
variable{tb:Ξ}{r W:Nat}
def xq(c:r<=tb.length)(hw:∀x∈tb,x.length=W):∀n,n+1<=r->∀x∈fv tb r n,x.length=W
 |0,_,x,a=>hw x a
 |n+1,h,x,a=>by
  let b:=xq c hw n (ì h);let d:=uT (tb:=tb) (r:=r) n;obtain a|rfl:=Lg a;show b x a;rw[PS #v[b _<|lH ω,b _<|lH ω]];show b _<|lH ω
def CV(c:r<=tb.length)(hw:∀x∈tb,x.length=W):∀n,n+1<=r->∀x∈jc tb r n,x.length=W
 |0,_,x,a=>hw x a
 |n+1,h,x,a=>by
  let b:=CV c hw n (ì h);let d:=zK (tb:=tb) (r:=r) n;obtain a|rfl:=Lg a;show b x a;rw[PS #v[b _<|lH ω,b _<|lH ω]];show b _<|lH ω
def Dj(a:r<=tb.length)(hw:∀x∈tb,x.length=W):∀n,n+1<=r->ay (fv tb r n)=fT (ay tb) r n
 |0,_=>O
 |n+1,h=>by
  let d:=Dj a hw n (ì h);let b:=xq a hw n (ì h);let e:=uT (tb:=tb) (r:=r) n;funext i;change aQ (dB ((fv tb r n).set (r-2-n) _) i)=fB (fT (ay tb) r n) (r-2-n) _ i;rw[PG ω,<-d];ext fB;cases c:i=r-2-n;rw[aw c,aw c,Px #v[b _<|lH ω,b _<|lH ω]];funext u;change aQ _ u - -1*aQ _ u=aQ _ u+aQ _ u;lk;rw[ar c,ar c];rfl
def HY(a:r<=tb.length)(hw:∀x∈tb,x.length=W):∀n,n+1<=r->ay (jc tb r n)=nV (ay tb) r n
 |0,_=>O
 |n+1,h=>by
  let d:=HY a hw n (ì h);let b:=CV a hw n (ì h);let e:=zK (tb:=tb) (r:=r) n;funext i;change aQ (dB ((jc tb r n).set (r-1-n) _) i)=fB (nV (ay tb) r n) (r-1-n) _ i;rw[PG ω,<-d];ext fB;cases c:i=r-1-n;rw[aw c,aw c,Px #v[b _<|lH ω,b _<|lH ω]];funext u;change aQ _ u-1*aQ _ u=aQ _ u-aQ _ u;lk;rw[ar c,ar c];rfl
def HZ(b:r<=tb.length)(hw:∀x∈tb,x.length=W){c n:Nat}(h:n+1<=r)(a:eZ tb c):eZ (fv tb r n) (r*c):=λi u=>by
 rw[Dj b hw n h,Fu n h];split;show aL (Ft (K:=c) (r-i) i λj _ _=>a j u)<|eC _ ω;show aL (a i u)<|rT _ ω
def PX(b:r<=tb.length)(hw:∀x∈tb,x.length=W){K n:Nat}(h:n+1<=r)(a:eZ tb K):eZ (jc tb r n) (2*K):=λi u=>by
 rw[HY b hw n h,Mg n h];split;let c:=a i u;let d:=a (i-1) u;show à (Int.natAbs_sub_le ..) %[Nat.two_mul|Nat.add_le_add c d]
 have:=a i u;lk
end
section
variable{N n:Nat}{m:iR}{t e k w r:Nat}{A:Nat->am}{T U Bn V Bf:Ξ}{QU QV:Nat->Nat}
def kO.A0(L:kO N n m t e A k w r T U Bn V Bf QU QV){i:Nat}(a:i<k):be w (ay<|(aP k).map<|dR T) (ay U) i=be w (λi u=>ay T u i) (ay U) i:=zV (λu b=>ko a u) O
def kO.J(L:kO N n m t e A k w r T U Bn V Bf QU QV){j:Nat}(a:j<=k):a_ j (be w (ay<|(aP k).map<|dR T)<|ay U)=a_ j (be w (λi u=>ay T u i)<|ay U):=nj λi b=>L.A0 (à b a)
def kO.A3(G:iS N n m)(L:kO N n m t e A k w r T U Bn V Bf QU QV):iv k r w (2 ^ (e+iz N n m)) (2 ^ e) (be w (λi u=>ay T u i)<|ay U) (λa=>w+QU a):=by
 let h:=pq G;show L.a.A3 %[vW|aE _]<|iJ (î h.2.2.2.1)
def kO.F(L:kO N n m t e A k w r T U Bn V Bf QU QV):t<=gM N n m:=by have:=L.q;show è this
def kO.eT(L:kO N n m t e A k w r T U Bn V Bf QU QV):e<=n*gM N n m:=aL L.te<|eD _ L.F
def kO.A6(G:iS N n m)(L:kO N n m t e A k w r T U Bn V Bf QU QV):ny N (2 ^ (e+iz N n m)) (2 ^ ((e+1)*N)) (2 ^ iz N n m) (2 ^ (gv N n m+fY N n m*t)) w k ((aP k).map<|dR T) U Bn:=by
 let h:=pq G;let c:=L.A3 G;let l:=G.b;let E:=L.F;let H:=L.eT;let(I,o,v):=L.l;let(K,x,y):=L.o;show(mn,L.f,L.d,rt L.c,L.g,L.i,by have:=L.h;show à this l,by have:=L.s;show à this l,L.h,G.e,(â (ï l)),λj d=>?_,λi b P f M p z=>?_,λi b u=>?_,jh,jh,jh,yt ξ (by have:=G.d;lk),?_,?_);rw[L.J d];show(L' c (B:=2 ^ iz N n m) (N:=N) (λa C=>?_) (λq g=>?_) L.h d).q (aE _) Bp<|aE _;change(be w (λi u=>ay T u i) (ay U) (r+a)<|w+QU a).natAbs<=_;rw[ka];show L.a.e.e a C;rw[Fp L.a g];show aL (L.a.j q g)<|iJ h.2.2.2.1;rw[L.J %[|ì b]] at M;rw[L.A0 b];show c.row b M p z;rw[L.A0 b];show zU (λu D=>aL (L.a.F (u:=u) (i:=i) D b)<|iJ ?_) (λs=>aL (o i s)<|iJ (è v)) u;ext gv;lk;show G.J (_,O,(à (à h.1 h.2.1) h.2.2.1)) O O O (t:=t) (í E) ω ?_<|aE _;have:(e+1)*N<=(n*gM N n m+1)*N:=eC _ (ð H);show í this;show G.q (t:=t) x (í E) (è y)
def kO.A5(G:iS N n m)(L:kO N n m t e A k w r T U Bn V Bf QU QV)(p:¬li r (ay T)){c:Nat->Ζ}{f g b:Ξ}(D:vg N (2 ^ (e+iz N n m)) (2 ^ ((e+1)*N)) (2 ^ iz N n m) w k ((aP k).map<|dR T) U Bn P c f g b):tG N n m t 0 A k w r T f g b V Bf (λi=>di c<|cV r w QU i) (λi s=>di c (cV r w QU i)<|w+s) QU QV:=by
 let j:=L.A3 G;let K:=D.d;rw[L.J<|aE _] at K;let(q,M,ϟ,ϟ):=L.a.A1 j K;let l:∀i,i<k->bL P i=cV r w QU i:=λi a=>by
  ext bL;rw[q,co,ca,jX a];rfl
 let o:=D.f;rw[L.J<|aE _] at o;rw[<-o] at M;let h:=pq G;let E:2*n+iz N n m+N<=fY N n m:=by ext fY;rw[mz];lk
 let(H,v,x):=L.l;let(I,y,z):=L.o;show(L.h,L.s,D.e,D.h,D.g,L.j,L.y,D.w1,D.j,D.l,L.p,L.B,M,λi u a B=>#v[D.c i u a B,l i a],λi a=>#v[D.k i a,l i a],λd C=>UR L.a p j K d C,cJ _,L.q,(_,(D.e2 v).q<|dm G.a<|dm (uy G.a)<|aE _,?_),(_,(D.e3 y).q<|dm G.a<|dm (dm (aE _)<|aE _)<|aE _,?_),L.z,L.x);rw[rm,mz,kB e N];lk;rw[rm];lk
def kO.A8(G:iS N n m)(L:kO N n m t e A k w r T U Bn V Bf QU QV):∀j,j<r->vd (fv ((aP k).map<|dR T) r j)/\vd (fv U r j)/\vd (jc Bn r j):=λj C=>by
 let h:=pq G;let b:=L.a.a;let D:=L.h;let f:=G.b;let E:=L.F;let c:r<=2 ^ n:=aL (à b D) G.a;let(H,g,l):=L.l;let(I,o,p):=L.o;let K:n+1<=fY N n m:=by ext fY;lk
 let q:iz N n m<=gv N n m:=by ext gv;lk
 let s:eZ ((aP k).map<|dR T) (2 ^ iz N n m):=xD mn λi d u=>by
  rw[ko d];cases v:u<w;show aL (L.a.F v d)<|iJ h.2.2.2.1;ext ay;rw[zS %[L.c|ô v]];show cJ _
 let y:=HZ (n:=j) (r:=r) %[mn|b] (rt (n:=k) L.c) C s;let z:=HZ (n:=j) (r:=r) %[L.f|b] L.g C g;let B:=PX (n:=j) (r:=r) %[L.d|b] L.i C o;show(λx a=>(?_,G.q (t:=t+1) (y.q<|dm c<|aE _) (ð E) (by rw[rm];lk) x a),λx a=>(?_,G.q (t:=t+1) (z.q<|dm c<|aE _) (ð E) (by rw[rm];lk) x a),λx a=>(?_,G.q (t:=t+1) (B.q<|dm (show 2<=2 ^ 1 from ξ)<|aE _) (ð E) (by rw[rm];lk) x a));rw[xq %[mn|b] (rt (n:=k) L.c) j C x a];have:=L.s;show â (à this f);rw[xq %[L.f|b] L.g j C x a];show â (à D f);rw[CV %[L.d|b] L.i j C x a];show â (à D f)
def kO.A9(G:iS N n m)(L:kO N n m t e A k w r T U Bn V Bf QU QV)(f:1<=r)(g:li r (ay T))(s:¬∀i,i+1<r->ay T i i ∣ ay T (i+1) (i+1)):tG N n m t (e+n) A k w r T (fv ((aP k).map<|dR T) r<|r-1) (fv U r<|r-1) (jc Bn r<|r-1) V Bf (λi X=>cK k w A (fT (ay U) r (r-1) i)<|ay V X) (fT (ay U) r<|r-1) QU QV:=by
 let a:=L.a.a;let v:=L.a.b;let(Y,h):=L.a.A0 f g;let p:r<=2 ^ n:=aL a<|aL L.h G.a;let Y:=Y.J (g':=2 ^ (e+n)) %[vW,kB|eD _ p];let(P,x,y):=L.l;let(Q,z,B):=L.o;let R:n+N*n+N<=fY N n m/\n+1<=fY N n m:=by ext fY;rw[mz,kB n N];lk
 let C:ay (fv U r<|r-1)=fT (ay U) r (r-1):=Dj %[L.f|a] L.g (r-1) ω;let D:ay (jc Bn r<|r-1)=nV (ay Bn) r (r-1):=HY %[L.d|a] L.i (r-1) ω;rw[<-D] at Y;show(L.h,L.s,%[uT|mn],%[uT|L.f],%[zK|L.d],L.j,L.y,xq %[mn|a] (rt (n:=k) L.c) _ ω,xq %[L.f|a] L.g _ ω,CV %[L.d|a] L.i _ ω,L.p,L.B,Y,λi X d l=>?_,λi d=>#v[C],λo E=>UQ L.a f g s o E,?_,L.q,(_,(HZ (n:=r-1) %[L.f|a] L.g ω x).q<|dm p<|aE _,?_),(_,(PX (n:=r-1) %[L.d|a] L.i ω z).q<|dm (show 2<=2 ^ 1 from ξ)<|aE _,?_),L.z,L.x);let H:ay (fv ((aP k).map<|dR T) r<|r-1)=fT (ay<|(aP k).map<|dR T) r (r-1):=Dj %[mn|a] (rt (n:=k) L.c) (r-1) ω;rw[H,h i X d l,qN f];let b:∀j,j<k->j≠X->ay T X j=0:=λj I K=>by
  cases c:X<r/\j<r;show g X j c.1 c.2<|cQ K;show L.a.d X j l I ω
 cases c:i<r;rw[aw c,Mc,Fs (u:=X) (r-i) i λj S W M=>%[ko (show j<k from ω)|b j ω M]];cases q:i<=X/\X<r;rw[aw ω,aw q,ko %[|à q.2 a]];rw[ar ω,ar q];rw[ar c,ar ω,ko d];show L.a.d X i l d<|.inr (ô c);rw[my,oI];have:=L.te;show ð this;rw[rm,my];lk;rw[rm];lk
end
def MD{w j:Nat}{A:Nat->am}:oY (a_ j<|be w A bT):=λc a b=>by
 let D:kd j ((a_ j<|be w A bT).map λr=>λt=>r<|w+t) (a_ j bT):=%[Fn|Bj j]
 show D.q a λt _=>b _
def Mk{N n m:Nat}(a:N<=2 ^ n):yQ N (2 ^ m)<=2 ^ ((1+n+m)*N):=by
 ext yQ;rw[EV];show qD (dm (dm (show 2<=2 ^ 1 from ξ) a)<|aE _) _
def Vb{N n m:Nat}(a:N<=2 ^ n):Mm N (2 ^ m)<=2 ^ (n+((1+n+m)*N+m)):=dm a<|dm (Mk a)<|aE _
def Bi{i t:Nat}:(bT i t).natAbs<=1:=by ext bT bC;split<;>decide
def xC{n:Nat}:eZ (eP n) (2 ^ 0):=xD GZ λi a u=>%[xz a|Bi]
section
variable{N n:Nat}{m:iR}{k w:Nat}{tb:Ξ}
def Dd{q j i:Nat}(a:i<j):be q (ay S) (ay<|eP j) i=be q (ay S) bT i:=zV 2#0<|xz a
def PB(G:iS N n m){a x b:Nat}(q:a<=iP N n m)(v:x<=jF N n m)(d:b<=fZ N n m)(y:k<=N)(D:w<=N)(l:tb.length=k)(hw:∀r∈tb,r.length=w)(z:eZ tb (2 ^ a))(A:∀j,j<=k->lj N (2 ^ a) (2 ^ x) (2 ^ b) (a_ j<|be w (ay tb) bT)):ny N (2 ^ a) (2 ^ x) (2 ^ b) (2 ^ a) w k tb (eP k) (eP k):=by
 let h:=pq G;let B:=G.b;let o:∀i,i<k->∀u,(be w (ay tb) (ay<|eP k) i u).natAbs<=2 ^ a:=λi c u=>by
  rw[Dd c];show zU (λu _=>z i u) (λs=>aL Bi jh) u
 let e:∀{j},j<=k->a_ j (be w (ay tb)<|ay<|eP k)=a_ j (be w (ay tb) bT):=λ{j} g=>nj λi c=>Dd (à c g);let C:iP N n m<=gv N n m:=by ext gv;lk
 show(l,GZ,GZ,hw,Py,Py,(à y B),(à D B),y,G.e,(â (ï B)),λj g=>?_,λi c P f H p E=>o i c p,o,jh,jh,jh,yt ξ (by have:=G.d;show à (ï d) this),?_,?_);rw[e g];show A j g;show G.J (_,O,d) O O O (t:=0) ú (î (à (à q h.2.1) h.2.2.1)) (î v) (í (à q C));show G.q (t:=0) (xC) ú ú
def Pr(G:iS N n m):m.m<=iP N n m/\qe N n m<=jF N n m/\iz N n m<=fZ N n m/\(2+2*n+m.m+N)*N<=jF N n m/\n+(jF N n m+iP N n m)<=fZ N n m:=by
 let h:=pq G;let a:jF N n m=iP N n m+(2+2*n+m.m+N)*N:=O;let b:fZ N n m=n+jF N n m+iP N n m:=O;let c:iP N n m=2*n+iz N n m+qe N n m+m.m:=O;lk
def Dn(N n:Nat)(m:iR)(k w:Nat)(tb:Ξ):Prop:=∀j,j<=k->lj N (2 ^ m.m) (2 ^ qe N n m) (2 ^ iz N n m) (a_ j<|be w (ay tb) bT)
def ZU(G:iS N n m)(a:k<=N)(b:w<=N)(l:tb.length=k)(hw:∀r∈tb,r.length=w)(c:eZ tb (2 ^ m.m))(d:Dn N n m k w tb):ny N (2 ^ m.m) (2 ^ qe N n m) (2 ^ iz N n m) (2 ^ m.m) w k tb (eP k) (eP k):=by
 let h:=Pr G;show PB G h.1 h.2.1 h.2.2.1 a b l hw c d
def PK{q:Nat}(b:1<=N)(a:N<=2 ^ n)(e:k<=N)(c:eZ tb (2 ^ q)):Dn N n (uW N n q) k w tb:=λj f=>by
 show(VD b jh MD %[pQ|à f e] λr d u=>?_).q (aE _) (aL (Mk a)<|iJ<|aE _)<|aL (Vb a)<|iJ ?_;let(i,g,rfl):=aW.mp d;show zU (λu _=>c i u) (λs=>aL Bi jh) u;change n+((1+n+q)*N+q)<=n+q+(2+n+q)*N;have:(1+n+q)*N<=(2+n+q)*N:=eC _ ω;lk
variable{P P2:List Nat}{fr fr2:Nat->Ζ}{S U Bn T V Bf:Ξ}
def abe(G:iS N n m)(l:tb.length=k)(hw:∀r∈tb,r.length=w)(c:eZ tb (2 ^ m.m))(d:k<=N)(D:vg N (2 ^ m.m) (2 ^ qe N n m) (2 ^ iz N n m) w k tb (eP k) (eP k) P fr S U Bn):eZ ((aP w).map<|dR S) (2 ^ iP N n m):=by
 show xD mn λg a i=>?_;rw[ko a];cases b:i<k;rw[D.c i g b a]
 have:=(D.d.fr (bL P i)<|wp D.o b).le (u:=g) (M:=2 ^ m.m) λr e=>by
  let(j,f,rfl):=aW.mp e;rw[iq a];show c j g
 show aL this ?_;rw[pQ];show aL (eC _ d)<|aL (dm G.a<|dm (uy G.a)<|aE _)<|iJ ?_;ext iP;lk;ext ay;rw[zS %[D.e|ô b]];show cJ _
def ZT(G:iS N n m)(l:tb.length=k)(hw:∀r∈tb,r.length=w)(d:eZ tb (2 ^ m.m))(e:k<=N)(p:w<=N)(D:vg N (2 ^ m.m) (2 ^ qe N n m) (2 ^ iz N n m) w k tb (eP k) (eP k) P fr S U Bn):ny N (2 ^ iP N n m) (2 ^ jF N n m) (2 ^ fZ N n m) (2 ^ iP N n m) k w ((aP w).map<|dR S) (eP w) (eP w):=by
 let h:=Pr G;let f:=abe G l hw d e D;let g:a_ k (be w (ay tb)<|ay<|eP k)=a_ k (be w (ay tb) bT):=nj λi a=>Dd a;let z:=D.d;rw[g] at z;let I:=ME z;let o:=D.f;rw[g,nj (W:=ay<|eP k) (W':=bT) λi a=>xz a] at o;rw[<-o] at I;let q:(2:Nat) ^ m.m<=2 ^ (n+m.m+N):=iJ (í ý);let t:=(D.e3 xC).q<|aL (dm G.a<|dm (dm (aE _)<|aE _)<|aE _)<|iJ (show n+(m.m+N+0)<=n+m.m+N from ω);show PB G (aE _) (aE _) (aE _) p e mn (rt D.e) f λj v=>?_;let x:a_ j (be k (ay<|(aP w).map<|dR S) bT)=a_ j (be k (λu i=>di fr (bL P i) u) bT):=nj λu b=>zV (λi a=>by rw[ko %[|à b v]];show D.c i u a (à b v)) O;rw[x];let c:N+1<=2 ^ (n+1):=by have:=G.a;have:=jh (n:=n);rw[ng];lk
 show U_ (M:=2 ^ (n+m.m+N)) I v (à v p) jh jh (λs u _ _=>aL (d s u) q) (λi s a y=>?_) (λi u a b=>?_) ?_ ?_;have:((a_ k<|ay Bn).getD i λ_=>0)=ay Bn i:=by
  ext a_;rw[co,ca,jX a];rfl
 rw[this];show t i s
 have:=f u i
 rw[ko b,D.c i u a b] at this;show this;show aL (qD (dm (dm (show 2<=2 ^ 1 from ξ) c)<|aE _) _) ?_;rw[<-EV];show iJ<|aL (eC _ ?_) h.2.2.2.1;lk;show aL (dm G.a<|dm (aE _)<|aE _)<|iJ h.2.2.2.2
def Dm(N n:Nat)(m:iR)(k w:Nat)(tb:Ξ):Prop:=(2*(k*2 ^ m.m)+1) ^ k<=2 ^ qh N n m\/∀y:am,∃c:am,∀s,s<k->au w (ay tb s) c=y s
def PJ{q:Nat}(b:N<=2 ^ n)(a:k<=N):Dm N n (uW N n q) k w tb:=by
 show .inl ?_;change(2*(k*2 ^ q)+1) ^ k<=2 ^ ((2+n+q)*N);rw[EV];let c:2*(k*2 ^ q)+1<=2 ^ (2+n+q):=by
  let d:k*2 ^ q<=2 ^ (n+q):=dm (aL a b)<|aE _;let e:2 ^ (2+n+q)=4*2 ^ (n+q):=#v[La,vW]
  let f:=jh (n:=n+q);lk
 show aL (qD c _)<|iD jh a
def abc(G:iS N n m)(l:tb.length=k)(hw:∀r∈tb,r.length=w)(v:eZ tb (2 ^ m.m))(x:k<=N)(y:w<=N)(Y:vg N (2 ^ m.m) (2 ^ qe N n m) (2 ^ iz N n m) w k tb (eP k) (eP k) P fr S U Bn)(a:vg N (2 ^ iP N n m) (2 ^ jF N n m) (2 ^ fZ N n m) k w ((aP w).map<|dR S) (eP w) (eP w) P2 fr2 T V Bf)(z:Dm N n m k w tb):∃r A B,kO N n m 0 0 (ay tb) k w r T U Bn V Bf A B:=by
 let L:=pq G;let g:a_ k (be w (ay tb)<|ay<|eP k)=a_ k (be w (ay tb) bT):=nj λi b=>Dd b;let Z:=Y.d;rw[g] at Z;let I:=ME Z;let C:=Vo jh MD (λr E u=>?_) Z;let j:a_ w (be k (ay<|(aP w).map<|dR S)<|ay<|eP w)=a_ w (be k (λu i=>di fr (bL P i) u) bT):=nj λu c=>zV (λi b=>%[ko c|Y.c i u b c])<|xz c;let o:=a.d;rw[j] at o;let(M,Q,a0):=Vp I (D:=(2*(k*2 ^ m.m)+1) ^ k) C o;let p:=Y.f;rw[g,nj (W:=ay<|eP k) (W':=bT) λi b=>xz b] at p;let d:=a.f;rw[j,nj (W:=ay<|eP w) (W':=bT) λi b=>xz b] at d;rw[<-p,<-d] at a0;let H:gv N n m=2*n+fZ N n m+jF N n m+iP N n m+N+m.m:=O;let R:=a0.a;let e:=a0.cg (T':=ay T) (U':=ay U) (V':=ay V) (λu i c b=>(a.c u i c b).symm) (λi b=>(Y.k i b).symm) λu c=>(a.k u c).symm;let f:=e.A4 (D':=2 ^ qh N n m) λq t=>by
  obtain h|h:=z;show aL (e.j q t) h;show aL (e.A5 h q t) jh
 show(_,_,_,x,y,a.e,Y.h,Y.g,a.h,a.g,a.w1,Y.j,Y.l,a.j,a.l,f,cJ _,?_,(_,(Y.e2 xC).q<|dm G.a<|dm (uy G.a)<|aE _,?_),(_,(Y.e3 xC).q<|dm G.a<|dm (dm (aE _)<|aE _)<|aE _,?_),(a.e2 xC).q<|aL (dm G.a<|dm (uy G.a)<|aE _)<|iJ ?_,(a.e3 xC).q<|aL (dm G.a<|dm (dm (aE _)<|aE _)<|aE _)<|iJ ?_);let K:=My (T:=ay T) (D:=2 ^ qh N n m) (dQ w P) f.c f.j;rw[Nat.log2_two_pow] at K;let X:dQ w P*qh N n m<=N*qh N n m:=eC _ (à R x);ext ms gM;split<;>lk;lk;lk;lk;lk;let(i,b,rfl):=aW.mp E;show zU (λu _=>v i u) (λs=>aL Bi jh) u
end
def ZF{a:Ξ}:a.zipIdx=(aP a.length).map λi=>(ahl (dB a i) i):=by
 apply kX;simp;intro i b c;rw[aks] at b;rw[iG,mD,List.getElem_zipIdx,lG<|bu b];simp
def PZ{b:Type}{p:Nat->Ζ->Bool}{g:Nat->Ζ->b}{a:Ξ}:rr p g a.zipIdx=((aP a.length).filter λi=>p i<|dB a i).map λi=>g i<|dB a i:=by
 ext rr;rw[ZF,List.filter_map,dC];rfl
def Pz{k u:Nat}(a:u≠k):aQ (lF l k l.length) u=0:=by
 ext lF;split;ext aQ;rw[co,Lp,ar<|cQ a,E_];split<;>rfl;show Ps
def ZR{k w:Nat}:(lF l k w).length=w:=by ext lF;split<;>simp
def ZL{a b:Ζ}(h:a.length=b.length)(d:∀u,u<a.length->aQ a u=aQ b u):a=b:=by
 apply kX h;intro i c e;have:=d i c;rwa [tB c,tB e] at this
def PA{b:Ζ}{k:Nat}:b=lF b k b.length↔∀u,u≠k->aQ b u=0:=by
 k_in;intro h u a;rw[h];show Pz (l:=b) a;intro h;show ZL ZR.symm λu a=>?_;cases c:u=k;subst c;ext lF;rw[aw a];ext aQ;rw[co,co,Lp,aw O,rY,aw a];rfl;rw[h u c,Pz c]
def aac:xx a=ap↔∀i,i<a.length->∀u,u≠i->ay a i u=0:=by
 ext xx;rw[PZ,Fc,lY];k_in;intro h i b u c
 have:=h i<|ff.mpr (bH.mpr b,O);have this:aJ (dB a i=lF (dB a i) i (dB a i).length)=ap:=this;show PA.mp (gP this) u c
 intro h i b;let b:=bH.mp (ff.mp b).1;show cN<|PA.mpr<|h i b
def abd{r w:Nat}(h:r<=w):(aP w).filter (λi=>aJ<|i<r)=aP r:=by
 let e:aP w=aP r++(aP<|w-r).map (r+·):=by rw[<-List.range_add];congr 1;lk
 rw[e,nP];let b:(aP r).filter (λi=>aJ<|i<r)=aP r:=List.filter_eq_self.mpr λi a=>cN<|bH.mp a;let c:((aP<|w-r).map (r+·)).filter (λi=>aJ<|i<r)=[]:=Fa.mpr λi a=>by
  let(j,ϟ,rfl):=aW.mp a;simp
 rw[b,c,sy]
def mR(r:Nat)(T:Ξ):Ζ:=(aP r).map λi=>ay T i i
def GX{r u:Nat}(h:u<r):aQ ((aP r).map g) u=g u:=by
 ext aQ;rw[co,ca,jX h];rfl
section
variable{N n:Nat}{m:iR}{t e k w r:Nat}{A:Nat->am}{T U Bn V Bf:Ξ}{QU QV:Nat->Nat}
def kO.A1(L:kO N n m t e A k w r T U Bn V Bf QU QV):xx T=ap↔li r (ay T):=by
 let g:=L.a.a;let f:=L.a.b;rw[aac,L.c];k_in;intro h u i a j b;show h u (à a f) i<|cQ b;intro h u a i b;cases c:i<k;cases d:u<r/\i<r;show h u i d.1 d.2<|cQ b;show L.a.d u i a c ω;ext ay;show pj %[L.v _<|lH %[L.c|a]|ô c]
def kO.A2(L:kO N n m t e A k w r T U Bn V Bf QU QV):qf T=mR r T:=by
 let j:=L.a.a;let b:=L.a.b;ext qf;rw[PZ,L.c];let e:(aP w).filter (λi=>aJ (i<(dB T i).length)&&aJ (aQ (dB T i) i≠0))=(aP w).filter λi=>aJ<|i<r:=Ud λi a=>by
  let a:=bH.mp a;let d:(dB T i).length=k:=L.v _<|lH %[L.c|a];rw[d,wh,lb,jx,jx,jx];k_in;rintro⟨f,g⟩;show iH λc=>g ?_;show L.a.d i i a f ω;intro h;show((à h j),by have:0<aQ (dB T i) i:=L.a.c i h;lk)
 rw[e,abd b];rfl
def kO.A4(L:kO N n m t e A k w r T U Bn V Bf QU QV):ro T=ap↔li r (ay T)/\∀i,i+1<r->ay T i i ∣ ay T (i+1) (i+1):=by
 let j:=L.a.b;ext ro;rw[lb,L.A1,L.A2,L.c];show and_congr_right λ_=>?_;ext qj;let f:(mR r T).length=r:=by ext mR;simp
 let l:(!aJ ((w:Int)<((mR r T).length:Int)))=ap:=by rw[f];simp;show j
 let o:(mR r T).all (λx=>aJ<|0<x)=ap:=by
  rw[lY];intro x d;let(i,c,rfl):=aW.mp d;show cN<|L.a.c i<|bH.mp c
 rw[l,o,LK,LK,lY];k_in;intro h i c;let g:(fe (λa b=>aJ<|b%a=0) (mR r T)<|(mR r T).drop 1)[i]?=aa (aJ<|ay T (i+1) (i+1)%ay T i i=0):=by
  rw[yz,Lr];ext mR;rw[ca,ca,jX %[|ì c],jX ω,K' 1 i];rfl
 have:=h _<|dL g;show Int.dvd_of_emod_eq_zero<|gP this
 intro h x d;let(i,c,rfl):=jW d;rw[i_,lX,f] at c;rw[oO,List.getElem_drop];ext mR;rw[iG,iG,mD,mD];have:=h i ω;rw[K' 1 i];show cN<|Int.emod_eq_zero_of_dvd this
end
structure lJ(k w:Nat)(A:Nat->am)(u ub v vb:Ξ)(st:Ζ):Prop where
 C:u.length=k
 B:ub.length=k
 e:v.length=w
 f:vb.length=w
 K:∀r∈u,r.length=k
 E:∀r∈ub,r.length=k
 h:∀r∈v,r.length=w
 o:∀r∈vb,r.length=w
 m:∀r∈u,∀x∈r,x.natAbs+1000<ig
 p:∀r∈ub,∀x∈r,x.natAbs+1000<ig
 l:∀r∈v,∀x∈r,x.natAbs+1000<ig
 z:∀r∈vb,∀x∈r,x.natAbs+1000<ig
 g:∀i j,i<k->j<k->au k (ay u i) (λs=>ay ub s j)=bC i j
 n:∀i j,i<k->j<k->au k (ay ub i) (λs=>ay u s j)=bC i j
 d:∀i j,i<w->j<w->au w (ay v i) (λs=>ay vb s j)=bC i j
 y:∀i j,i<w->j<w->au w (ay vb i) (λs=>ay v s j)=bC i j
 a:st.length<=k
 c:st.length<=w
 sp:∀x∈st,0<x
 H:∀i,i+1<st.length->aQ st i ∣ aQ st (i+1)
 L:∀x∈st,x.natAbs<2 ^ 9000
 I:∀x∈st,x.natAbs<iQ
 G:∀i j,i<k->j<w->cK k w A (ay u i) (λs=>ay v s j)=if i=j/\i<st.length then aQ st i else 0
 D:∃(b:Nat)(Q:Nat->Nat),l' w st.length 1 b (λj t=>ay v t j) Q
def Hu:∀k,dY b c k u=au k c (λa=>b a u)
 |0=>O
 |k+1=>by change dY b c k u+c k*b k u=au k c _+c k*b k u;rw[Hu k]
def H_:∀k,au k a b=au k b a
 |0=>O
 |k+1=>by change au k a b+a k*b k=au k b a+b k*a k;rw[H_ k,jw]
def Qc{i j:Nat}:bC i j=bC j i:=by
 ext bC;cases c:i=j;rw[aw c,aw c.symm];rw[ar c,ar<|cQ c]
def PY{K q:Nat}(h:eZ T K):eZ ((aP q).map<|dR T) K:=xD mn λi a u=>%[ko a|h u i]
section
variable{N n:Nat}{m:iR}{t e k w r:Nat}{A:Nat->am}{T U Bn V Bf:Ξ}{QU QV:Nat->Nat}
def kO.A7(G:iS N n m)(L:kO N n m t e A k w r T U Bn V Bf QU QV)(h:ro T=ap):lJ k w A U ((aP k).map<|dR Bn) ((aP w).map<|dR V) Bf (qf T):=by
 let(y,z):=L.A4.mp h;let S:=L.F;let W:=L.a.a;let g:=L.a.b;let(X,B,C):=L.l;let(Y,D,E):=L.o;let(H,I):=Bw.mp L.a.h;let(K,M):=Bw.mp L.a.f;let l:(mR r T).length=r:=by ext mR;simp
 rw[L.A2];show(L.f,mn,mn,L.y,L.g,rt L.d,rt L.j,L.B,G.F (t:=t) B (í S) (è C),G.F (t:=t) (PY D) (í S) (è E),G.F (t:=t) (PY L.z) (í S) ß,G.F (t:=t) L.x (í S) ß,λi j a b=>?_,λi j a b=>?_,λi j a b=>?_,λi j a b=>?_,(à (å l) W),(à (å l) g),λx d=>?_,λi a=>?_,λx d=>?_,λx d=>?_,λi j a b=>?_,(2 ^ fZ N n m,QV,?_));rw[<-I i j a b];show cZ λs o=>ko o j
 have:=H i j a b
 rw[Hu] at this;rw[<-this];show iu λs _=>ko a s
 have:=K j i b a
 rw[Hu,H_,Qc] at this;rw[<-this];show iu λs _=>ko a s;rw[Qc,<-M j i b a,H_];show iu λs o=>ko o j;let(i,a,rfl):=aW.mp d;show L.a.c i<|bH.mp a;rw[l] at a
 have:=z i a;ext mR;rw[GX %[|ì a],GX a];show this
 let(i,a,rfl):=aW.mp d;let a:=bH.mp a;let f:=L.a.F (u:=i) (i:=i) (à a g) (à a W);let p:=pq G;let Z:=G.d;show fH f<|yt ξ ω;let(i,a,rfl):=aW.mp d;let a:=bH.mp a;let f:=L.a.F (u:=i) (i:=i) (à a g) (à a W);let G5:=G.c;let p:=pq G;let P:gv N n m=2*n+fZ N n m+jF N n m+iP N n m+N+m.m:=O;show Qg f ω;rw[l];let Q:cK k w A (ay U i) (λs=>ay ((aP w).map<|dR V) s j)=cK k w A (ay U i) (ay V j):=by
  ext cK;show cZ λs _=>cZ λq R=>ko R j
 rw[Q,<-L.a.l j i b a];cases c:i=j/\i<r;rw[aw c,<-c.1];ext mR;rw[GX c.2];rw[ar c];cases v:j<r/\i<r;show y j i v.1 v.2 ω;show L.a.d j i b a ω;rw[l];show L.a.o.q g λj b=>funext λt=>?_;cases c:t<w;show(ko c j).symm;let f:ay V j t=0:=by ext ay;show pj %[L.p _<|lH %[L.j|b]|ô c]
 let p:ay ((aP w).map<|dR V) t j=0:=by ext ay;rw[zS %[mn|ô c]];rfl
 rw[f,p]
end
abbrev HI:b_:=gT 41
def mS(x y:List ab):Prop:=∀a∈x,∀b∈y,a≠b
def fi.J{H c:ag}{e:Ξ}(h:fi H c a d e):∀z∈a::d,c z≠ac:=λz b=>by
 obtain rfl|b:=ci.mp b;rw[h.b];simp;show h.c.A0 z b
def fi.A0{c:List ab}{e:Ξ}(h:fi H d a c e):∀z∈a::c,H z=ac:=λz b=>by
 obtain rfl|b:=ci.mp b;show h.g;show(h.e z b).1
def po{x y:List ab}{H:ag}(c:∀z∈x,H z≠ac)(d:∀z∈y,H z=ac):mS x y:=λa f b g e=>c a f<|e▸d b g
def xl{a:Ξ}{k:Nat}(l:a.length=k)(hw:∀r∈a,r.length=k)(b:k<=40):tD a=ap/\turn a=(aP k).map (dR a)/\gu a=k:=by
 let e:gu a=k:=by
  cases c:a with
  |nil=>rw[c] at l;show l
  |cons x r=>show hw x %[c|fy ..]
 show(?_,by ext turn;rw[e],e);ext tD;rw[e,l,cN b];erw[Fe,LK,lY];show λr d=>cN<|hw r d
structure abk(H H':ag)(p:ab)(u ub v vb:Ξ)(st:Ζ)(a1 a2 a3 a4 a5:ab)(d1 d2 d3 d4:List ab):Prop where
 a:H' p=aa (.tup [.ref a1,.ref a2,.ref a3,.ref a4,.ref a5])
 c:fi H H' a1 d1 u
 e:fi H H' a2 d2 ub
 b:fi H H' a3 d3 v
 f:fi H H' a4 d4 vb
 d:H' a5=aa (.lst<|st.map ak.int)
 r:H a5=ac
 j:mS (a1::d1) (a2::d2)
 g:mS (a1::d1) (a3::d3)
 n:mS (a1::d1) (a4::d4)
 h:mS (a1::d1) [a5]
 i:mS (a2::d2) (a3::d3)
 l:mS (a4::d4) (a2::d2)
 k:mS (a2::d2) [a5]
 m:mS (a4::d4) (a3::d3)
 o:mS (a3::d3) [a5]
 q:mS (a4::d4) [a5]
structure If(N n:Nat)(m:iR)(k w:Nat)(tb:Ξ):Prop where
 good:iS N n m
 l:tb.length=k
 c:∀r∈tb,r.length=w
 d:eZ tb (2 ^ m.m)
 a:k<=N
 b:w<=N
 e:Dn N n m k w tb
 f:Dm N n m k w tb
def abi(H:ag)(Q:aR)(k w:Nat)(A:Nat->am):Prop:=∀a p u b v c d e f g h i j l m n,aM H a->abk H a p u b v c d e f g h i j l m n->lJ k w A u b v c d->Q 6#p a
section
variable{P:bh}{w:ba}{K:aT}{mg:aB->Option ae}{base:aX}
inductive Hl(vs:List ak)(H:ag)(Q:aR)(E':cy):Prop
 |a:∀(L:ab)(rs:List ab)(tb:Ξ)(N n:Nat)(m:iR)(k w:Nat),(vs=[.ref L,.int w])->(H L=aa (.lst<|rs.map ak.ref))->(dg H rs tb)->(If N n m k w tb)->(abi H Q k w<|ay tb)->Hl vs H Q E'
def uU:cR ["table","width","size","near","far"] ["table","width"] (bD HI):=1#0
def aap(F:cz K "paper_of" "paper_of" HI f fd)(bl:mg "len"=ac)(Cs:bW P w K mg base aZ "straightened" ["side","width"] 5 Hf)(Cu:bW P w K mg base aZ "unit" ["size"] 3 G_)(Cc:bW P w K mg base aZ "columns_to" ["table","width"] 2 (zI K))(Ck:bW P w K mg base aZ "columns_of" ["table"] 3 (xp K))(Ci:bW P w K mg base aZ "is_in_steps" ["table"] 3 Hp)(Co:bW P w K mg base aZ "is_on_slope" ["table"] 2 CT)(Cp:bW P w K mg base aZ "slope_of" ["table"] 1 CQ)(Cl:bW P w K mg base aZ "slid" ["side","count"] 2 Hh):cp P w K mg base aZ 6 f fd ["table","width"] Hl:=by
 show F.q uU λi8 A g2 s H vs Q E hr=>?_;rintro⟨L,rs,tb,N,n,m,k,R,rfl,hL,hT,W,kk⟩;let a7:fF 3 _:=hr.q ξ;let b4:fF 2 _:=hr.q ξ;let b5:fF 1 _:=hr.q ξ;show(_,bm (ck (i:=2) uU.a O (av O)<|dO fU O bl rx<|aq 7#0 aC)
  (bm (ck (i:=3) uU.a O (av O)<|bv Cs hr O bw<|aq (jC<|aq 7#0<|aq (bv Cu a7 O bw<|aq 7#2 aC)<|aq (bv Cu a7 O bw<|aq 7#2 aC) aC)<|aq 7#1 aC)
  (bm (ck (i:=4) uU.a O (av O)<|bv Cs hr O bw<|aq (jC<|aq (bv Cc b4 O bw<|aq (bP dh 7#3 aS 2#0)<|aq 7#1 aC)<|aq (bv Cu a7 O bw<|aq 7#1 aC)<|aq (bv Cu a7 O bw<|aq 7#1 aC) aC)<|aq 7#2 aC)
  (bm (BU iW (wJ<|zk<|bv Ci a7 O bw<|aq (bP dh 7#4 aS 2#0) aC)
   (bm (ck (i:=3) uU.a O (av O)<|jC<|aq (bv Cc b4 O bw<|aq (bP dh 7#4 aS 2#0)<|aq 7#2 aC)<|aq (bP dh 7#3 aS 2#0)<|aq (bP dh 7#3 aS 2#0) aC)
   (bm (ck (i:=3) uU.a O (av O) (zm (zk<|bv Co b4 O bw<|aq (bP dh 7#4 aS 2#0) aC)
    (bv Cl b4 O bw<|aq 7#3<|aq (dO fU O bl rx<|aq (bv Cp b5 O bw<|aq (bP dh 7#4 aS 2#0) aC) aC) aC)
   <|bv Cs hr O bw<|aq 7#3<|aq 7#1 aC))
  <|bx<|ck (i:=4) uU.a O (av O)<|bv Cs hr O bw<|aq (jC<|aq (bv Cc b4 O bw<|aq (bP dh 7#3 aS 2#0)<|aq 7#1 aC)<|aq (bP dh 7#4 aS 2#0)<|aq (bP dh 7#4 aS 2#0) aC)<|aq 7#2 aC)))
 <|bx<|cE<|jC<|aq (bP dh 7#3 aS 2#0)<|aq (bv Ck a7 O bw<|aq (bP dh 7#3 aS 2#0) aC)<|aq (bv Ck a7 O bw<|aq (bP dh 7#4 aS 2#0) aC)<|aq (bP dh 7#4 aS 2#0)<|aq (bv Cp b5 O bw<|aq (bP dh 7#4 aS 2#0) aC) aC))),?_)
 let g3:=hT.F;let G:=W.good;let i9:=G.b;let kN:=W.a;let wN:=W.b;show(_,O,L,_,O,.inl<|bJ.q hL,?_);rw[aA,g3,W.l];show(_,O,_,O,k,O,(â (à kN i9)),λu1 H1 g4 s1 j0 d7 g5 j3 j4=>(_,O,k,O,(â (à kN i9)),λu2 H2 g6 s2 j5 d8 g7 j6 j7=>(by change 3<=bE;decide,λt1 c9=>(_,O,?_))));let sq:=aM.q (o:=.tup [ak.ref L,ak.ref u1,ak.ref u2]) c9;let S1:=ZU G W.a W.b W.l W.c W.d W.e;show(t1,L,u1,u2,rs,g4,g6,tb,eP k,eP k,_,_,_,_,_,R,k,O,aI,((s1.trans s2).trans sq) _ _ hL,(s2.trans sq) _ _ d7,sq _ _ d8,hT.q<|(s1.trans s2).trans sq,g5.q<|s2.trans sq,g7.q sq,S1.q,λP1 c4 tn an Y cn g8 v Z H3 F1 W1 s3 y b6 a g=>?_);let D1:=S1.done F1 W1;let c5:=((s1.trans s2).trans sq).trans s3;let b6:=b6.F<|(s1.trans s2).trans sq;let a:=a.F<|(s1.trans s2).trans sq;let g:=g.F<|(s1.trans s2).trans sq;generalize (P1.map λp=>(c4 p).take R)=S at D1 b6;generalize (P1.map λp=>(c4 p).drop R)=U at D1 a;generalize qi k ((dU tb<|eP k).map λr=>eA c4 r P1) (eP k)=Bn at D1 g;show(_,O,tn,_,_,_,O,O,gr.q y,bX (j:=0) O,_,O,an,g8,S,R,O,bJ.q b6.b,b6.c,%[D1.e|â (à kN i9)],(â (à wN i9)),λr hr=>pI (D1.w1 r hr).symm,λc1 H4 b7 s4 d9 b8 d0 e0 e1=>?_);show(_,O,R,O,(â (à wN i9)),λu3 H5 g9 s5 j8 e2 h0 j9 k0=>(_,O,R,O,(â (à wN i9)),λu4 H6 h1 s6 k1 e3 h2 k2 k3=>(by change 3<=bE;decide,λt2 d1=>(_,O,?_))));let B:=aM.q (o:=.tup [ak.ref c1,ak.ref u3,ak.ref u4]) d1;let S2:=ZT G W.l W.c W.d W.a W.b D1;let b1:=((s4.trans s5).trans s6).trans B;show(t2,c1,u3,u4,b7,g9,h1,_,eP R,eP R,_,_,_,_,_,k,R,O,aI,((s5.trans s6).trans B) _ _ b8,(s6.trans B) _ _ e2,B _ _ e3,d0.q<|(s5.trans s6).trans B,h0.q<|s6.trans B,h2.q B,S2.q,λP2 c6 tf af bf cf I a0 M H7 F2 W2 s7 d b l c=>?_);let D2:=S2.done F2 W2;let(r,QU,QV,C):=abc G W.l W.c W.d W.a W.b D1 D2 W.f;let b9:=b1.trans s7;let e4:=c5.trans b9;let jj:mS (Y::v) (cf::M):=po (a.q b1).J c.A0;let b:=b.F<|c5.trans b1;let l:=l.F<|c5.trans b1;let c:=c.F<|c5.trans b1;let a:=a.q b9;let g:=g.q b9;let y:=b9 _ _ y;generalize (P2.map λp=>(c6 p).take k)=T at D2 b C;generalize (P2.map λp=>(c6 p).drop k)=V at D2 l C;generalize qi R ((dU ((aP R).map<|dR S)<|eP R).map λr=>eA c6 r P2) (eP R)=Bf at D2 c C;show(λq σ H8=>∃(t e:Nat)(T U Bn V Bf:Ξ)(QU QV:Nat->Nat)(tn an Y cn tf af bf cf:ab)(v Z I a0 M:List ab),q=gM N n m-t/\σ=[aa<|.ref L,aa<|.int R,aa<|.int k,aa<|.ref tn,aa<|.ref tf]/\aM H H8/\H8 tn=aa (.tup [.ref an,.ref Y,.ref cn])/\H8 tf=aa (.tup [.ref af,.ref bf,.ref cf])/\fi H H8 Y v U/\fi H H8 cn Z Bn/\fi H H8 af I T/\fi H H8 bf a0 V/\fi H H8 cf M Bf/\mS (Y::v) (cf::M)/\kO N n m t e (ay tb) k R r T U Bn V Bf QU QV,
  (_,0,0,T,U,Bn,V,Bf,QU,QV,tn,an,Y,cn,tf,af,bf,cf,v,Z,I,a0,M,O,O,e4,y,d,a,g,b,l,c,jj,C),?_)
 clear C jj c l b D2 d e4 b9 S2 b1 B D1 S1 y g a;rintro q σ H8 ⟨t,e,T,U,Bn,V,Bf,QU,QV,tn,an,Y,cn,tf,af,bf,cf,v,Z,I,a0,M,rfl,rfl,s8,y,d,a,g,b,l,c,jj,C⟩;let c0:T.length<=1000:=%[C.c|â (à wN i9)]
 let e6:∀x∈T,x.length<=1000:=λx hx=>%[C.v x hx|â (à kN i9)]
 show(_,O,tf,_,_,_,O,O,gr.q d,bX (j:=0) O,af,I,T,O,b.b,b.c,c0,e6,λH9 D=>(_,O,?_));let y:=D _ _ y;let d:=D _ _ d;let a:=a.q D;let g:=g.q D;let b:=b.q D;let l:=l.q D;let c:=c.q D;let D:=s8.trans D;clear s8;cases e7:ro T with
 |true=>
  show gi ?_;let(i1,i2,ϟ):=xl C.d C.i (à kN i9);let(j1,j2,ϟ):=xl C.j C.p (à wN i9);show(_,O,tn,_,_,_,O,O,gr.q y,bX (j:=1) O,_,O,tn,_,_,_,O,O,gr.q y,bX (j:=2) O,cn,Z,Bn,O,bJ.q g.b,g.c,i1,λa2 Ha d2 sa h3 e8 e9 h4 h5=>?_);rw[i2] at e9;show(_,O,tf,_,_,_,O,O,gr.q<|sa _ _ d,bX (j:=1) O,bf,a0,V,O,bJ.q<|sa _ _ l.b,l.c.q sa,j1,λa3 Hb d3 sb h6 f0 f1 h7 h8=>?_);rw[j2] at f1;let a1:=sa.trans sb;show(_,O,tf,_,_,_,O,O,gr.q<|a1 _ _ d,bX (j:=2) O,_,O,tf,_,_,_,O,O,gr.q<|a1 _ _ d,bX (j:=0) O,af,I,T,O,a1 _ _ b.b,b.c.q a1,c0,λa5 Hc sc f2 f3=>(by change 5<=bE;decide,λp hp=>?_));let sp:=aM.q (o:=.tup [.ref Y,.ref a2,.ref a3,.ref cf,.ref a5]) hp;let n2:fi H9 Ha a2 d2 _:=(e8,e9,h4,h3,h5);let n3:fi Ha Hb a3 d3 _:=(f0,f1,h7,h6,h8);let d4:=a1.trans sc;let e5:∀z∈[a5],Hb z=ac:=λz hz=>%[gW.mp hz|f2]
  show kk _ p _ _ _ _ _ Y a2 a3 cf a5 v d2 d3 M ((D.trans d4).trans sp) (aI,(a.q d4).q sp,((n2.q<|sb.trans sc).q sp).F D,((n3.q sc).q sp).F<|D.trans sa,(c.q d4).q sp,sp _ _ f3,D.J<|a1.J f2,po a.J n2.A0,po (a.q sa).J n3.A0,jj,po (a.q a1).J e5,po n2.J n3.A0,po c.J n2.A0,po (n2.q sb).J e5,po (c.q sa).J n3.A0,po n3.J e5,po (c.q a1).J e5)<|C.A7 G e7
 |false=>
  show gG (λf4 H'=>∃q,q<gM N n m-t/\∃(t e:Nat)(T U Bn V Bf:Ξ)(QU QV:Nat->Nat)(tn an Y cn tf af bf cf:ab)(v Z I a0 M:List ab),q=gM N n m-t/\f4=[aa<|.ref L,aa<|.int R,aa<|.int k,aa<|.ref tn,aa<|.ref tf]/\aM H H'/\H' tn=aa (.tup [.ref an,.ref Y,.ref cn])/\H' tf=aa (.tup [.ref af,.ref bf,.ref cf])/\fi H H' Y v U/\fi H H' cn Z Bn/\fi H H' af I T/\fi H H' bf a0 V/\fi H H' cf M Bf/\mS (Y::v) (cf::M)/\kO N n m t e (ay tb) k R r T U Bn V Bf QU QV,λf4 H' h=>h,?_);show(_,O,tf,_,_,_,O,O,gr.q d,bX (j:=0) O,_,O,af,I,T,k,O,bJ.q b.b,b.c,c0,(â (à kN i9)),λx hx=>pI (C.v x hx).symm,λc1 Ha b7 sa d9 b8 d0 e0 e1=>?_);show(_,O,tn,_,_,_,O,O,gr.q<|sa _ _ y,bX (j:=1) O,_,O,tn,_,_,_,O,O,gr.q<|sa _ _ y,bX (j:=2) O,by change 3<=bE;decide,λt1 c9=>?_);let sq:=aM.q (o:=.tup [.ref c1,.ref Y,.ref cn]) c9;let a4:aN Ha t1 (.tup [.ref c1,.ref Y,.ref cn]) t1=aa (.tup [.ref c1,.ref Y,.ref cn]):=aI;let u:fi H9 Ha c1 b7 _:=(b8,d0,e0,d9,e1);let u:=(u.q sq).F D;let sb:=sa.trans sq;generalize aN Ha t1 (.tup [.ref c1,.ref Y,.ref cn])=Hb at a4 u sb ⊢;let d:=sb _ _ d;let a:=a.q sb;let g:=g.q sb;let b:=b.q sb;let l:=l.q sb;let c:=c.q sb;let D:=D.trans sb;show(_,O,tf,_,_,_,O,O,gr.q d,bX (j:=0) O,af,I,T,O,b.b,b.c,c0,e6,λHd sd=>(_,O,?_));let d:=sd _ _ d;let a4:=sd _ _ a4;let u:=u.q sd;let a:=a.q sd;let g:=g.q sd;let b:=b.q sd;let l:=l.q sd;let c:=c.q sd;let D:=D.trans sd;let d5:¬(li r (ay T)/\∀i,i+1<r->ay T i i ∣ ay T (i+1) (i+1)):=λh=>by have:=C.A4.mpr h;rw[e7] at this;cases this
  apply PD (S:=λa6 He=>∃(e':Nat)(S' U' c7:Ξ)(S0 U0:Nat->am)(a' b' c':ab)(a8 a9 b0:List ab),aM Hd He/\He a6=aa (.tup [.ref a',.ref b',.ref c'])/\fi H He a' a8 S'/\fi H He b' a9 U'/\fi H He c' b0 c7/\tG N n m t e' (ay tb) k R r T S' U' c7 V Bf S0 U0 QU QV);intro d6 hc;let hd:¬li r (ay T):=λh=>hc<|C.A1.mpr h;let S1:=C.A6 G;show(_,O,_,O,t1,c1,Y,cn,b7,v,Z,_,U,Bn,_,_,_,_,_,R,k,O,a4,u.b,a.b,g.b,u.c,a.c,g.c,S1.q,λP1 c4 a6 a' b' c' a8 a9 b0 He F1 W1 se X b2 b3 c3=>d6 a6 He ?_);show(0,_,_,_,_,_,a',b',c',a8,a9,b0,se,X,b2.F D,b3.F D,c3.F D,C.A5 G hd<|S1.done F1 W1);intro d6 hc;let hd:li r (ay T):=C.A1.mp hc;let hn:¬∀i,i+1<r->ay T i i ∣ ay T (i+1) (i+1):=λh=>d5 (hd,h);let b5:1<=r:=by
   obtain z|z:=vX r;show bo (λi hi=>ω) hn;show z
  show(_,O,_,O,tf,_,_,_,O,O,gr.q d,bX (j:=0) O,af,I,T,O,b.b,b.c,c0,λD5 H5 s5 k4 e5=>(D5,_,O,.inl<|bJ.q e5,?_));let h9:(qf T).length=r:=by rw[C.A2];ext mR;simp
  rw[aA,h9];show(H,t1,c1,Y,cn,b7,v,Z,_,U,Bn,k,r,O,s5 _ _ a4,D.trans s5,u.q s5,a.q s5,g.q s5,mn,C.f,C.d,b5,C.a.a,(â (à kN i9)),C.A8 G,λa6 a' b' c' a8 a9 b0 He se X b2 b3 c3=>d6 a6 He ?_);show(_,_,_,_,_,_,a',b',c',a8,a9,b0,s5.trans se,X,b2,b3,c3,C.A9 G b5 hd hn);rintro a6 He ⟨e',S',U',c7,S0,U0,a',b',c',a8,a9,b0,se,X,b2,b3,c3,LH⟩;let d:=se _ _ d;let l:=l.q se;let c:=c.q se;let D:=D.trans se;show(_,O,a6,_,_,_,O,O,gr.q X,bX (j:=0) O,_,O,a',a8,S',R,O,bJ.q b2.b,b2.c,%[LH.j|â (à kN i9)],(â (à wN i9)),λx hx=>pI (LH.G x hx).symm,λc2 Hg i0 sg k5 f5 i3 k6 k7=>?_);show(_,O,tf,_,_,_,O,O,gr.q<|sg _ _ d,bX (j:=1) O,_,O,tf,_,_,_,O,O,gr.q<|sg _ _ d,bX (j:=2) O,by change 3<=bE;decide,λt2 d1=>?_);let B:=aM.q (o:=.tup [.ref c2,.ref bf,.ref cf]) d1;let sh:=sg.trans B;let S2:=LH.A0 G;show(_,O,t2,c2,bf,cf,i0,a0,M,_,V,Bf,_,_,_,_,_,k,R,O,aI,B _ _ f5,sh _ _ l.b,sh _ _ c.b,i3.q B,l.c.q sh,c.c.q sh,S2.q,λP2 c6 i4 i5 i6 i7 f6 f7 f8 Hi F2 W2 si f9 g0 g1 c8=>?_);let D2:=S2.done F2 W2;let L2:=LH.next G D2;let s0:=D.trans sh;let tm:=L2.q;show(_,ω,t+1,e',_,U',c7,_,_,QU,QV,a6,a',b',c',i4,i5,i6,i7,a9,b0,f6,f7,f8,O,O,s0.trans si,(sh.trans si) _ _ X,f9,b3.q<|sh.trans si,c3.q<|sh.trans si,g0.F s0,g1.F s0,c8.F s0,po (b3.q sh).J c8.A0,L2)
abbrev DH:b_:=f_ 27
abbrev DN:b_:=f_ 65
abbrev IQ:b_:=f_ 66
abbrev DJ:b_:=f_ 67
def afv:gb "dict"=aa (.type "dict"):=δ
abbrev Dq(L:Ξ)(s:Int):Ξ:=L.filter λq=>aJ<|(q.length:Int)=s
def jS(q x:Ζ):Int:=mT (iT q 1) x
abbrev xN(b a:Ξ):Ξ:=a.map λq=>b.map<|jS q
abbrev Qu:bp:=Nw (bZ 1) (bZ 0)<|jM<|.int 0
def ab8{q:List ab}{l:Ξ}{Q:aR}{p:Ζ->Bool}{u:fV}{c:List (Option ak)}(s:∀(o:ab)(i:Ζ)(H:ag)(R:Bool->ag->Prop),aM g H->gI H o i->i∈l->(∀w,aM H w->R (p i) w)->u (aa 6#o::c) H R)(I:bJ K g L (q.map ak.ref))(y:ce g q l)(T:l.length<=1000)(A:g D=ac)(k:∀b e,aM g b->b D=aa (.lst<|e.map ak.ref)->ce b e (l.filter p)->Q 6#D b):eY (ki K L) (de 0) u (bZ 0) (ac::c) g D Q:=by
 let t:=y.length;show nw (xs:=q.map ak.ref) (λj r m b=>∃(v:Option ak)(e:List ab),r=v::c/\aM g b/\b D=aa (.lst m)/\m=e.map ak.ref/\ce b e ((l.take j).filter p)) ?_ ?_ ?_ ?_;show(ac,[],O,aM.q A,aI,O,.nil);rintro j r m b ⟨v,e,rfl,f,d,rfl,_⟩;show f.A1 I;rintro j r m b x M B C ⟨v,e,rfl,f,d,rfl,n⟩;let(o,N,rfl):=mp M;let(i,h,E):=y.q N;let P:(q.map ak.ref).length<=bE:=%[aA|dq (â (à (å t) T))]
 show s o i b _ f (f.tp E) (dL h) λU a=>?_;rcases G:p i;show gi<|OR B C (_,e,O,f.trans a,a _ _ d,O,?_);rw[fO h,nP,sw (by rw[G];simp),Ls,sy];show a.A0 n;show gG (_,O,gH P B C (a _ _ d) (_,e++[o],O,(f.trans a).F A,aI,by rw[cH];rfl,?_));rw[fO h,nP,uo G];show tO (ce.F (a.A0 n)<|(f.trans a).tp E) (a _ _ d) (by intro S z;cases z);rintro r m b ⟨v,e,rfl,f,d,rfl,n⟩;rw[aA,t,eF<|aE _] at n;show k b e f d n
inductive Dw(K:aT)(vs:List ak)(H:ag)(Q:aR)(E':cy):Prop
 |a:∀l h as pss,(vs=[.ref l,.int h])->(bJ K H l<|as.map ak.ref)->(ce H as pss)->(nz pss)->(∀D H' bs,aM H H'->H D=ac->H' D=aa (.lst<|bs.map ak.ref)->ce H' bs (Dq (bK pss)<|h+1)->Q 6#D H')->Dw K vs H Q E'
def ach:cR ["web","height"] ["web","height"] (bD DN):=1#0
def adq{t:cm}(F:cz K "pieces_of" "pieces_of" DN f t)(B:iU mg)(G:bW P w K mg base aZ "pieces" ["web"] 8 (xJ K)):cp P w K mg base aZ 9 f t ["web","height"] (Dw K):=by
 show F.q ach λI A g s H vs Q E M=>?_;rintro⟨l,h,N,m,rfl,S,T,u,k⟩;let(ϟ,ϟ,ϟ,c):=vn u.1;rw[<-vq] at c;show(_,bx (cE (fq ["web","height"] ["piece","height"] [ac,aa 1] (gg<|bv G M O bw<|aq 7#0 aC) (λv C a b x=>cx (i:=0) (dM ["piece","height"]) O<|av O)
   (λv C a b x=>Ob<|fJ qa (dO fU O B.a jd<|aq 7#0 aC) (cu jN 7#1 aS)<|eV _) (λv C a b x=>ai 0) (hfr:=gS (bD DN) δ) (tc:=wH<|eM Gx (sV (QH K)<|eO (bZ 0) iw)<|eM (kf λi j=>.int<|i+j) (bZ 1)<|jM<|.int 1) (te:=bZ 0))),?_)
 show(_,O,l,N,m,O,S,T,u,λL H2 bs y hL d U=>(L,O,(_,bJ.q d),λD z=>fu<|ab8 (p:=λq=>aJ<|(q.length:Int)=h+1) (λo q V R sm W _ X=>(_,O,o,_,O,.inr<|gr.q W,_,O,_,_,O,O,O,_,O,?_)) (bJ.q d) U (â c) z λY Z s3 n r=>k D Y Z (y.trans s3) (y.J z) n r));rw[show aJ (ak.int ((q.map ak.int).length:Int)=ak.int (h+1))=aJ ((q.length:Int)=h+1) from by
  rw[decide_eq_decide,aA];show(λe=>by injection e,λe=>#v[e])]
 show X V<|aM.refl _
def abm{l:List ab}{m:dE}{Q:aR}(s:bJ K f L (l.map ak.ref))(o:ce f l h)(p:lv f d (.b<|gz m))(B:h.length<=1000)(r:f D=ac)(k:∀c,aM f c->c D=aa (.lst<|(h.map<|ii m).map ak.int)->Q 6#D c):eY (ki K L) (de 0) gB Qu [ac,aa<|.ref d] f D Q:=by
 let n:=o.length;show nw (xs:=l.map ak.ref) (λj i g c=>∃v:Option ak,i=[v,aa<|.ref d]/\aM f c/\c D=aa (.lst g)/\g=((h.take j).map<|ii m).map ak.int) ?_ ?_ ?_ ?_;show(ac,O,aM.q r,aI,O);rintro j i g c ⟨v,rfl,e,b,rfl⟩;show e.A1 s;rintro j i g c x t u w ⟨v,rfl,e,b,rfl⟩;let(a,y,rfl):=mp t;let(q,z,A):=o.q y;show jD ?_;show(_,O,d,O,.inr (_,p.F e),_,O,_,.inr (_,q.map bF,a,p.F e,O,QW<|e.tp A,O),?_);rw[Qn];show gH %[aA|dq (â (à (å n) B))] u w b (_,O,e.F r,aI,?_);rw[fO z,cH,cH];rfl;rintro i g c ⟨v,rfl,e,b,rfl⟩;rw[aA,n,qk] at b;show k c e b
inductive Dr(K:aT)(vs:List ak)(H:ag)(Q:aR)(E':cy):Prop
 |a:∀l d as kn cs,(vs=[.ref l,.ref d])->(bJ K H l<|as.map ak.ref)->(ce H as kn)->(lv H d<|.b<|gz cs)->(kn.length<=1000)->(∀D H',aM H H'->H D=ac->H' D=aa (.lst<|(kn.map<|ii cs).map ak.int)->Q 6#D H')->Dr K vs H Q E'
def ab9:cR ["some","chain"] ["some","chain"] (bD DH):=1#0
def ade(F:cz K "weights_on" "weights_on" DH f g):cp P w K mg base aZ 1 f g ["some","chain"] (Dr K):=by
 show F.q ab9 λo A c s H y Q E p=>?_;rintro⟨l,d,z,B,G,rfl,h,q,r,t,k⟩;let u:=pf p;show(_,bx (cE (fq ["some","chain"] ["piece","chain"] [ac,aa 1] (gg<|ai 0) (λj C a b m=>cx (i:=0) (dM ["piece","chain"]) O<|av O) (λj C a b m=>eU)
   (λj C a b m=>Om u 7#1 7#0 aS (O,O,O,O)) (hfr:=gS (bD DH) δ) (te:=Qu))),?_)
 show(_,O,l,O,(_,h),λD n=>fu<|abm h q r t n λv x e=>k D v x n e)
def abw{r:List ab}{m:Ξ}{Q:aR}{g:Ζ->Ζ}{C:bp}{c:List (Option ak)}(u:∀(o:ab)(n:Ζ)(H:ag)(R:aR),aM e H->gI H o n->n∈m->(∀d w,aM H w->H d=ac->w d=aa (.lst<|(g n).map ak.int)->R 6#d w)->C (aa 6#o::c) H R)(I:bJ K e L (r.map ak.ref))(E:ce e r m)(Z:m.length<=1000)(G:e D=ac)(k:∀b a,aM e b->b D=aa (.lst<|a.map ak.ref)->dg b a (m.map g)->a.Nodup->(∀d∈a,e d=ac/\d≠D)->Q 6#D b):eY (ki K L) (de 0) gB C (ac::c) e D Q:=by
 let y:=E.length;show nw (xs:=r.map ak.ref) (λj s p b=>∃(v:Option ak)(a:List ab),s=v::c/\aM e b/\b D=aa (.lst p)/\p=a.map ak.ref/\dg b a ((m.take j).map g)/\a.Nodup/\∀d∈a,e d=ac/\d≠D) ?_ ?_ ?_ ?_;show(ac,[],O,aM.q G,aI,O,.nil,.nil,λd z=>by cases z);rintro j s p b ⟨v,a,rfl,h,_⟩;show h.A1 I;rintro j s p b x M N P ⟨v,a,rfl,h,f,rfl,t,i,A⟩;let(o,S,rfl):=mp M;let(n,q,T):=E.q S;let B:(r.map ak.ref).length<=bE:=%[aA|dq (â (à (å y) Z))]
 show jD ?_;show u o n b _ h (h.tp T) (dL q) λd H4 l z U=>?_;let(W,X,Y):=Dh (D:=D) (o:=.lst<|a.map ak.ref++[.ref d]) h t i A l z (by rw[f];simp) U;show gH B N P (l _ _ f) (_,a++[d],O,(h.trans l).F G,aI,by simp,?_,X,Y);rw[fO q,cH];show W;rintro s p b ⟨v,a,rfl,h,f,rfl,t,i,A⟩;rw[aA,y,eF<|aE _] at t;show k b a h f t i A
abbrev ac0(K:aT):List ak->ag->aR->Prop:=λe H Q=>∃(l:ab)(c:List ab)(a:List (List bi×ak)),e=[.ref l]/\bJ K H l (c.map ak.ref)/\
 gD (λt(d:List bi×ak)=>∃b,H t=aa (.tup [.ref b,d.2])/\H b=aa (.tup<|d.1.map dT)) c a/\∀D,H D=ac->Q 6#D (aN H D<|.b<|zu a)
abbrev ab1(K:aT):bp:=mJ (Dr K) [] mP<|eO (bZ 1)<|eO (sV (ac0 K)<|eO (mJ Ds [] mP<|eO (bZ 0)<|eO (jM<|.int 1) iw) iw) iw
def aeh(h:kt H a c):gD (λt(d:List bi×ak)=>∃b,H t=aa (.tup [.ref b,d.2])/\H b=aa (.tup<|d.1.map dT)) a (gz c):=by
 ext gz;induction h with
 |nil=>show .nil
 |cons r t e=>
  let(b,f,g):=r;show .cons (b,f,QW g) e
inductive Dv(K:aT)(vs:List ak)(H:ag)(Q:aR)(E':cy):Prop
 |a:∀l m as here bs above,(vs=[.ref l,.ref m])->(bJ K H l<|as.map ak.ref)->(ce H as here)->(bJ K H m<|bs.map ak.ref)->(ce H bs above)->(here.length<=1000)->(above.length<=1000)->((∀q∈above,q.length<=5/\q.Nodup))->(ve H Q<|xN here above)->Dv K vs H Q E'
def acd:cR ["here","above"] ["here","above"] (bD DJ):=1#0
def adm(F:cz K "seam_columns" "seam_columns" DJ f G)(n:mg "dict"=ac)(Y:bW P w K mg base aZ "weights_on" ["some","chain"] 1 (Dr K))(Z:bW P w K mg base aZ "seam_terms" ["piece","often"] 2 Ds):cp P w K mg base aZ 3 f G ["here","above"] (Dv K):=by
 show F.q acd λa0 A p s H vs Q E r=>?_;rintro⟨l,m,as,a,bs,t,rfl,hl,ht,I,hb,z1,z2,L,k⟩;let d:=r.units;show(_,bx (cE (fq ["here","above"] ["piece","here"] [ac,aa 0] (gg<|ai 1) (λN C b c S=>cx (i:=0) (dM ["piece","here"]) O<|av O) (λN C b c S=>eU)
   (λN C b c S=>bv Y r O bw<|aq 7#1<|aq (nu (Zo O d) O n afv<|aq (bv Z r O bw<|aq 7#0<|aq aS aC) aC) aC) (hfr:=gS (bD DJ) δ) (te:=ab1 K))),?_)
 show(_,O,m,O,(_,I),λD U=>fu<|abw (g:=λq=>a.map<|jS q) (λo q H' R V ho W hR=>(_,O,_,O,o,q,1,O,ho,(L q W).1,λT X us u a1 hT v=>?_)) I hb z2 U λX ds u y z nd hn=>k D X ds u U y z nd hn);show(T,us,gz<|iT q 1,O,bJ.q hT,aeh v,λM hM=>?_);rw[ae6];let sM:=aM.q (o:=.b<|gz<|rA<|iT q 1) hM;let j:=u.trans sM;let e:a.map (ii<|rA<|iT q 1)=a.map (jS q):=iZ λx _=>afd x _ %[xI|DQ (L q W).2];show(l,M,as,a,rA<|iT q 1,O,(V.trans j).A1 hl,(V.trans j).A0 ht,.inl aI,z1,λD2 H5 s5 B h=>?_);rw[e] at h;show hR D2 H5 (j.trans s5) (j.J B) h
def acb:cR ["here","above"] ["here","above"] (bD IQ):=1#0
inductive Iu(K:aT)(vs:List ak)(H:ag)(Q:aR)(E':cy):Prop
 |a:∀l m as here bs above,(vs=[.ref l,.ref m])->(bJ K H l<|as.map ak.ref)->(ce H as here)->(bJ K H m<|bs.map ak.ref)->(ce H bs above)->(here.length<=1000)->(above.length<=1000)->((∀q∈above,q.length<=5/\q.Nodup))->(ve H Q<|(aP here.length).map<|dR<|xN here above)->Iu K vs H Q E'
def adk(F:cz K "seam_table" "seam_table" IQ f p)(B:iU mg)(y:bW P w K mg base aZ "seam_columns" ["here","above"] 3 (Dv K))(z:bW P w K mg base aZ "columns_to" ["table","width"] 2 (zI K)):cp P w K mg base aZ 4 f p ["here","above"] (Iu K):=by
 show F.q acb λC A i s H vs Q E g=>?_;rintro⟨l,m,G,a,I,b,rfl,t,u,L,M,v,N,R,k⟩;show(_,bx<|cE<|bv z g O bw<|aq (bv y g O bw<|aq 7#0<|aq 7#1 aC)<|aq (dO fU O B.a jd<|aq 7#0 aC) aC,?_);show(_,O,_,O,l,m,G,a,I,b,O,t,u,L,M,v,N,R,λD H1 S h hD j T nd hn=>?_);let n:=u.length;show(_,O,l,_,O,.inl<|h.A1 t,D,S,_,a.length,by rw[aA,n];rfl,bJ.q j,T,%[aA|N],v,λr g=>?_,λU V W X c o Y Z e=>?_);let(q,hq,rfl):=aW.mp g;rw[aA];show aE _;show k U V W (h.trans X) (h.J c) o Y Z λd x=>(h.J (e d x).1,(e d x).2)
end
def Qb:∀n,au (n+1) a b=a 0*b 0+au n (λu=>a<|u+1) (λu=>b<|u+1)
 |0=>by change(0:Int)+a 0*b 0=a 0*b 0+0;lk
 |n+1=>by
  change au (n+1) a b+a (n+1)*b (n+1)=a 0*b 0+(au n _ _+a (n+1)*b (n+1));rw[Qb n];lk
def Qa:∀{r c:Ζ},r.length=c.length->qg r c=au r.length (aQ r) (aQ c)
 |[],[],_=>O
 |x::r,y::c,h=>by
  let e:qg (x::r) (y::c)=x*y+qg r c:=O;rw[e,Qa<|aj9 h,dI,Qb];rfl
section
variable{k w:Nat}{A:Nat->am}{u ub v vb:Ξ}{st:Ζ}
def lJ.F(p:lJ k w A u ub v vb st){i j:Nat}(a:i<k)(b:j<w):cK k w A (ay u i) (λs=>ay v s j)=if i=j then aQ st i else 0:=by
 rw[p.G i j a b];cases c:i=j;cases d:i<st.length;rw[aw (c,d),aw c];rw[ar λz=>d z.2,aw c,pj %[|ô d]];rw[ar λz=>c z.1,ar c]
def lJ.q(p:lJ k w A u ub v vb st):pX k w st.length A (ay v) (ay vb):=by
 let n:∀{f g:am},(∀i,i<k->au k (ay u i) f=au k (ay u i) g)->∀i,i<k->f i=g i:=λ{f g} h=>by
  let e:∀(f:am) i,i<k->f i=au k (ay ub i) (λs=>au k (ay u s) f):=λf i b=>by
   rw[<-lh,iu (a':=λl=>bC i l) (λl o=>p.n i l b o)];show(pT b).symm
  intro i b;rw[e f i b,e g i b];show cZ λs q=>h s q
 let r:∀x:am,∀i,i<k->au k (ay u i) (λs=>au w (A s) x)=aQ st i*(if i<w then au w (ay vb i) x else 0):=λx i b=>by
  let y:∀t,t<w->x t=au w (ay v t) (λs=>au w (ay vb s) x):=λt m=>by
   rw[<-lh,iu (a':=λl=>bC t l) (λl o=>p.d t l m o)];show(pT m).symm
  let B:au k (ay u i) (λs=>au w (A s) x)=cK k w A (ay u i) (λt=>au w (λs=>au w (ay vb s) x) (λl=>ay v t l)):=by
   ext cK;show cZ λs _=>cZ λt m=>?_;rw[dP (a:=λs=>au w (ay vb s) x)];show y t m
  rw[B,FW (V:=λl t=>ay v t l),cZ (b':=λj=>if i=j then aQ st i else 0) (λj d=>p.F b d),dP];cases c:i<w;rw[FM c,aw c];rw[ar c,fE];show gp λt m=>#v[ar %[|ö (à m (ô c))]]
 show(p.c,p.d,p.y,λx=>(λh j d=>?_,λh=>?_));let C:j<k:=fm d p.a;let e:=r x j C;rw[dP,gp λs q=>h s q,aw<|fm d p.c] at e;obtain z|z:=wf.mp e.symm;rw[tB d] at z
 have:=p.sp _<|dW d;lk
 show z;show n (g:=λ_=>0) λi b=>?_;let z:au k (ay u i) (λ_=>0)=0:=%[dP|gp λ_ _=>O]
 rw[z,r x i b];cases c:i<st.length;rw[aw<|fm c p.c,h i c,fE];rw[pj %[|ô c],kZ]
end
def IJ(p r:Ζ):Int:=mT (iT p 1) r
def Qq(h:(cW c).Nodup)(x:Ζ):mT c x=ii c x:=by
 have:∀{c:dE},(cW c).Nodup->mT c x=ii c x:=by
  intro c;induction c with
  |nil=>intro _;rfl
  |cons a r d=>
   intro h;let b:a.1∉cW r/\(cW r).Nodup:=kD.mp h;rw[Qr,vk,d b.2];cases e:a.1=x;rw[aw e,aw e,Jp (by rw[<-e];show b.1)];simp;rw[ar e,ar e];simp
 show this h
def acu(hw:gO a=ap){p r:Ζ}(f:p∈bK a)(g:r∈ga p):r∈bK a:=by
 let(k,l,b,c):=Ec.mp g;let(d,h):=af7 b c;let i:r≠[]:=λz=>by
  rw[z] at c;have:=jy ah c;rw[eE,gf,lX,wa] at this;have:=List.length_pos_iff.mpr (rE.mp<|Eg hw f).1;lk
 let(ϟ,t,j,e):=RB.mp f;show RB.mpr (i,t,j,d.trans e)
def afm{cs:dE}{f:Ζ->Int}(h:∀c∈cs,c.2=f c.1):cs=(cW cs).map λq=>(ahl q (f q)):=by
 ext cW;rw[dC];conv=>lhs;rw[<-List.map_id cs]
 show iZ λc a=>Prod.ext O<|h c a
def ab4{p:Ζ}(h:p.Nodup):iT p 1=(ga p).map λq=>(ahl q (IJ p q)):=by
 let a:(cW<|iT p 1).Nodup:=%[xI|DQ h]
 have:=afm (cs:=iT p 1) (f:=IJ p) λc b=>by ext IJ;rw[Qq a,Jq a c b]
 rw[xI] at this;show this
def rz(a:dE)(x:Ζ):Int:=(a.map λc=>c.2*jS c.1 x).sum
def Jr(x l:Ζ):Int:=if l=x then 1 else 0
def Dp(q x:Ζ):jS q x=((ga q).zipIdx.map λr=>kq r.2 1*Jr x r.1).sum:=by
 ext jS mT iT;rw[dC];congr 1;show iZ λr _=>?_;change(if r.1=x then kq r.2 1 else 0)=kq r.2 1*Jr x r.1;ext Jr;cases e:r.1=x;rw[aw e,aw e,ur];rw[ar e,ar e,fE]
def afe(x:Ζ):∀f:Ζ,f.length<=5->rz (iT f 1) x=0
 |[],_=>by simp[rz,iT,ga,aP,AR]
 |[a],_=>by simp[rz,iT,ga]
 |[a,b],_=>by simp[rz,iT,ga,Dp,aP,AR]
 |[a,b,c],_=>by
  simp[rz,iT,ga,Dp,aP,AR,kq];lk
 |[a,b,c,d],_=>by
  simp[rz,iT,ga,Dp,aP,AR,kq];lk
 |[a,b,c,d,e],_=>by
  simp[rz,iT,ga,Dp,aP,AR,kq];lk
 |_::_::_::_::_::_::_,h=>by simp at h
def Ii{q y:Ζ}(h:y∉ga q):jS q y=0:=Qp λt a e=>h (by rw[<-xI q 1,<-e];show aW.mpr (t,a,O))
def ada{c:Type}{g:c->Int}{l m:List c}(h:l.Perm m):(l.map g).sum=(m.map g).sum:=by
 induction h with
 |nil=>rfl
 |cons x _ d=>rw[fg,fg,pJ,pJ,d]
 |swap x y l=>rw[fg,fg,fg,fg,pJ,pJ,pJ,pJ];lk
 |trans _ _ a b=>show a.trans b
def Rc{a:Type}{g:a->Int}{S:a->Bool}:∀{C:List a},(∀q∈C,S q=aH->g q=0)->(C.map g).sum=((C.filter S).map g).sum
 |[],_=>O
 |q::C,z=>by
  let b:=Rc (C:=C) λr c=>z r<|.tail _ c;cases h:S q with
  |true=>rw[uo h,fg,fg,pJ,pJ,b]
  |false=>rw[sw (by rw[h];decide),fg,pJ,b,z q (.head _) h];lk
def ab3{C S:Ξ}{g:Ζ->Int}(a:C.Nodup)(b:S.Nodup)(h:∀s∈S,s∈C)(z:∀q∈C,q∉S->g q=0):(C.map g).sum=(S.map g).sum:=by
 rw[Rc (S:=λq=>aJ<|q∈S) λq c e=>z q c<|oT e];show ada<|(TS (a.filter _) b).mpr λq=>?_;rw[ff,jx];show(λx=>x.2,λx=>(h q x,x))
def Qs{q y:Ζ}(d:q.Nodup)(h:y∈ga q):jS q y=1\/jS q y=-1:=by
 let b:(cW<|iT q 1).Nodup:=%[xI|DQ d]
 rw[<-xI q 1] at h;let(c,a,rfl):=aW.mp h;ext jS;rw[Qq b,Jq b c a];unfold iT at a;let(r,ϟ,rfl):=aW.mp a;change kq r.2 1=1\/kq r.2 1=-1;ext kq;split;show .inl O;show .inr O
def act{q r:Ζ}(h:r∈ga q):(q.length:Int)=(r.length:Int)+1:=by
 let(a,k,b,rfl):=Ec.mp h;rw[eE,gf,lX];lk
def aef{q:Ζ}(a:q.Nodup)(u:Ζ):rz (iT q 1) u=((ga q).map λr=>jS q r*jS r u).sum:=by
 rw[ab4 a];ext rz;rw[dC];rfl
def nC(hw:gO a=ap){q:Ζ}(c:q∈bK a):q.length<=5/\q.Nodup/\q≠[]:=by
 let(d,e,ϟ,b):=rE.mp<|Eg hw c;show(e,b.imp λh z=>bo (z▸h) ω,d)
abbrev A(a:Ξ)(s:Int):Ξ:=Dq (bK a) s
abbrev jG(h a:Ξ):Ξ:=(aP h.length).map<|dR<|xN h a
def afi{h a:Ξ}{t i:Nat}(b:t<a.length)(c:i<h.length):ay (xN h a) t i=jS a[t] h[i]:=by
 ext ay;rw[lG (r:=h.map<|jS a[t]) (by rw[ca,bu b];rfl)];rw[tB %[aA|c],iG]
def tI{h a:Ξ}{t i:Nat}(c:t<a.length)(b:i<h.length):ay (jG h a) i t=jS a[t] h[i]:=by
 rw[ko b,afi c b]
def afb{L:Ξ}{f g:am}{F:Ζ->Int}:(∀(i:Nat)(h:i<L.length),f i*g i=F L[i])->au L.length f g=(L.map F).sum:=by
 intro h;let a:∀n,n<=L.length->au n f g=((L.take n).map F).sum:=λn=>by
  induction n with
  |zero=>intro _;rfl
  |succ n b=>
   intro c;change au n f g+f n*g n=_;rw[b ω,yy,bu ω,cH,Ld,h n ω];simp
 have:=a L.length<|aE _
 rwa [eF<|aE _] at this
section
variable{pss:Ξ}{s:Int}
def jp{q:Ζ}:q∈A pss s↔q∈bK pss/\(q.length:Int)=s:=by
 ext A Dq;rw[ff,jx]
def rB:(8#s).Nodup:=(Rz pss).filter _
def Rm(hw:gO pss=ap){q r:Ζ}(b:q∈A pss (s+1))(a:r∈ga q):r∈A pss s:=by
 let(c,d):=jp.mp b;have:=act a;show jp.mpr (acu hw c a,ω)
def Rg(hw:gO pss=ap){t i:Nat}(b:t<(A pss<|s+2).length)(f:i<(8#s).length):au (A pss<|s+1).length (ay (jG 8#s<|A pss<|s+1) i) (λx=>ay (jG (A pss<|s+1)<|A pss<|s+2) x t)=0:=by
 let c:(A pss<|s+2)[t]∈A pss (s+1+1):=%[show s+1+1=s+2 from ω|dW b]
 let(g,d,ϟ):=nC hw (jp.mp c).1;rw[afb (F:=λq=>jS (A pss<|s+2)[t] q*jS q (8#s)[i]) λj e=>#v[tI e f,tI b e,jw]];rw[ab3 rB (DQ d) (λr a=>Rm hw c a) λr _ a=>#v[Ii a,kZ],<-aef d];show afe _ _ g
def Ij{q r:Ζ}(a:q.Nodup):(jS q r).natAbs<=1:=by
 cases h:r∈ga q;obtain e|e:=Qs a h<;>rw[e]<;>decide;rw[Ii h];decide
def Ik:(jG h a).length=h.length:=#v[aA,gX]
def Qt{h a:Ξ}:∀r∈jG h a,r.length=a.length:=λr b=>by
 let(j,ϟ,rfl):=aW.mp b;ext dR;rw[aA,aA]
def abz{h a:Ξ}(d:∀q∈a,q.Nodup):eZ (jG h a) 1:=λi u=>by
 cases b:i<h.length;cases c:u<a.length;rw[tI c b];show Ij<|d _<|dW c;ext ay;rw[lG (r:=(jG h a)[i]'%[Ik|b])<|bu _,pj (by rw[Qt _<|dW _];lk)];decide;ext ay dB;rw[co,oP (by rw[Ik];lk)];rw[show(ac:Option Ζ).getD []=[] from O,pj<|cJ _];decide
structure rD(pss:Ξ):Prop where
 b:gO pss=ap
 a:∀s,(8#s).length<=24
 c:∃v:Int,∀s,((8#s).filter λq=>!aJ (v∈q)).length<=17
def ae4:iS 24 5 (uW 24 5 1):=(δ,δ,δ,δ,δ,δ,δ)
def ab0(f:rD pss)(s a:Int):If 24 5 (uW 24 5 1) (8#s).length (8#a).length (jG 8#s<|A pss a):=by
 let e:eZ (jG 8#s<|A pss a) (2 ^ 1):=λi u=>aL (abz (λq b=>(nC f.b (jp.mp b).1).2.1) i u) ξ;show(ae4,Ik,Qt,e,f.a s,f.a a,PK ξ ξ (f.a s) e,PJ ξ<|f.a s)
abbrev Jn:iR:=(16,374,391,412)
def ae3:iS 24 5 Jn:=(δ,δ,δ,δ,δ,δ,δ)
abbrev jT(pss:Ξ)(s:Int)(r:Nat)(b:Ξ):Ξ:=(b.drop r).map λa=>(xN (A pss<|s+1)<|A pss<|s+2).map<|qg a
end
section
variable{pss:Ξ}{s:Int}{u ub v vb:Ξ}{st:Ζ}
def adc{p q c:Ζ}{x:Int}(f:kP q=ap)(a:kP c=ap)(h:p∈ga q)(l:p∈ga c)(b:x∈q)(g:x∈c)(i:x∉p):c=q:=by
 let j:∀{q:Ζ},kP q=ap->p∈ga q->x∈q->∀y,y∈q↔y∈p\/y=x:=λ{q} f h b y=>by
  let(ϟ,k,r,rfl):=Ec.mp h;let e:q=q.take k++q[k]::q.drop (k+1):=#v[akw,yx]
  let m:q[k]=x:=by
   rw[e] at b;obtain z|z:=fz.mp b;show bo (kW _ z) i;obtain z|z:=ci.mp z;show z.symm;show bo (iF _ z) i
  k_in;intro d;rw[e] at d;obtain z|z:=fz.mp d;show .inl<|kW _ z;obtain z|z:=ci.mp z;show .inr<|z.trans m;show .inl<|iF _ z;rintro(d|rfl);obtain z|z:=fz.mp d;show qH z;show v_ z;show b
 let(ϟ,ϟ,ϟ,n):=rE.mp f;let(ϟ,ϟ,ϟ,o):=rE.mp a;show af5 o n λy=>#v[j a l g y,j f h b y]
def aeg{q:Ζ}{x:Int}(b:kP q=ap)(c:x∈q)(d:q.length≠1):∃p∈ga q,x∉p:=by
 let(k,f,e):=jW c;let(ϟ,ϟ,ϟ,g):=rE.mp b;show(q.take k++q.drop (k+1),Ec.mpr (d,k,f,O),λz=>?_);let a:q.Nodup:=af4 g;let h:q=q.take k++q[k]::q.drop (k+1):=#v[akw,yx]
 rw[h,mB,kD] at a;obtain z|z:=fz.mp z;show a.2.2 x z x %[e|.head _] O;show a.2.1.1 %[e|z]
def Rd(f:rD pss)(M:(8#1).length<=17)(K:lJ (8#s).length (A pss<|s+1).length (ay<|jG 8#s<|A pss<|s+1) u ub v vb st):(A pss<|s+1).length-st.length<=17:=by
 cases N:s=0;subst N;have:(A pss<|0+1).length<=17:=M;lk;let(x,P):=f.c;let G:=K.q;let' B:=(A pss<|s+1).filter λq=>!aJ (x∈q);show aL ?_<|P<|s+1;show yT (k:=(8#s).length) (w:=(A pss<|s+1).length) (W:=ay<|jG 8#s<|A pss<|s+1) (X:=λj t=>ay v t<|st.length+j) (F:=λY t=>if(A pss<|s+1)[t]?=B[Y]? then 1 else 0) (λj U Y d=>G.q ω ω Y d) (λc Q=>G.ind Q) λz R S=>?_;let l:∀t(b:t<(A pss<|s+1).length),x∉(A pss<|s+1)[t]->z t=0:=λt b o=>by
  let T:(A pss<|s+1)[t]∈B:=ff.mpr (dW b,by simpa using o);let(Y,d,e):=jW T;have:=S Y d;rw[<-this,dP,nW (i:=t) b λm a h=>?_];rw[bu b,bu d,e,aw O,ur];rw[bu a,bu d,e,ar λy=>h ?_,fE];show(wc rB).mp<|cX y
 intro t b;cases r:x∈(A pss<|s+1)[t];let(H,V):=jp.mp (dW b:(A pss<|s+1)[t]∈A pss (s+1));let I:=Eg f.b H;let(p,C,o):=aeg I r ω;let D:p∈A pss s:=Rm f.b (dW b) C;let(Y,d,e):=jW D;let E:=R Y d;rw[nW (i:=t) b λm a h=>?_] at E;rw[tI b d,e] at E;obtain g|g:=Qs (nC f.b H).2.1 C<;>rw[g] at E<;>lk;rw[tI a d,e];cases L:p∈ga (A pss<|s+1)[m];cases n:x∈(A pss<|s+1)[m];show bo ((wc rB).mp<|adc I (Eg f.b (jp.mp (dW a:(A pss<|s+1)[m]∈A pss (s+1))).1) C L r n o) h;rw[l m a n,fE];rw[Ii L,kZ];show l t b r
def aey{vb:Ξ}:(jT pss s r vb).length=vb.length-r:=#v[aA,lX]
def DV(K:lJ (8#s).length (A pss<|s+1).length (ay<|jG 8#s<|A pss<|s+1) u ub v vb st){j t:Nat}(f:j<(A pss<|s+1).length-st.length)(c:t<(A pss<|s+2).length):ay (jT pss s st.length vb) j t=inr (A pss<|s+1).length st.length (ay vb) (ay<|jG (A pss<|s+1)<|A pss<|s+2) j t:=by
 let b:st.length+j<vb.length:=by rw[K.f];lk
 let a:=K.o vb[st.length+j]<|dW b;change aQ (dB _ j) t=_;rw[lG (r:=(xN (A pss<|s+1)<|A pss<|s+2).map<|qg vb[st.length+j]) (by rw[ca,Lr,bu b];rfl)];rw[tB %[aA,aA|c],iG,iG,Qa #v[a,aA],a];ext inr;let e:ay vb (st.length+j)=aQ vb[st.length+j]:=by ext ay;rw[lG<|bu b]
 rw[e];show cZ λi d=>?_;rw[tI c d,tB %[aA|d],iG]
def aez(f:rD pss)(m:(8#1).length<=17)(K:lJ (8#s).length (A pss<|s+1).length (ay<|jG 8#s<|A pss<|s+1) u ub v vb st){j t:Nat}(h:j<(A pss<|s+1).length-st.length)(d:t<(A pss<|s+2).length):(ay (jT pss s st.length vb) j t).natAbs<=2 ^ j:=by
 let(b,Q,k):=K.D;rw[DV K h d,<-TH<|2 ^ j];show K.q.A1 (a:=(A pss<|s+2).length) (M:=1) k (λa l=>?_) (λt d i g=>Rg f.b d g) (λi t g d=>?_) h d;let e:=k.f a l;let e:0<ay v (Q a) (st.length+a):=e;obtain c|c:=ji (Q a) (A pss<|s+1).length;show c;unfold ay dB at e;rw[co,oP %[K.e|c]] at e;rw[show(ac:Option Ζ).getD []=[] from O,pj<|cJ _] at e;lk;rw[tI d g];show Ij (nC f.b (jp.mp (dW d:(A pss<|s+2)[t]∈A pss (s+2))).1).2.1
def afn{N d M X B:Nat}(h:lj N M X B R)(i:N<=d):lj d M X B R:=(h.ind,λP f e s r g l=>by
 let(a,b,c):=h.a P f e s r g l;show(a,b,λj V k m x n=>aL (c j V k m x n)<|eC _ i))
def aex(f:rD pss)(b:(8#1).length<=17)(K:lJ (8#s).length (A pss<|s+1).length (ay<|jG 8#s<|A pss<|s+1) u ub v vb st):If 24 5 Jn ((A pss<|s+1).length-st.length) (A pss<|s+2).length (jT pss s st.length vb):=by
 let a:=Rd f b K;let c:∀o∈jT pss s st.length vb,o.length=(A pss<|s+2).length:=λo d=>by
  let(y,ϟ,rfl):=aW.mp d;rw[aA,aA]
 let g:(jT pss s st.length vb).length=(A pss<|s+1).length-st.length:=#v[aey,K.f]
 let e:eZ (jT pss s st.length vb) (2 ^ 16):=λi t=>by
  cases h:i<(A pss<|s+1).length-st.length;cases k:t<(A pss<|s+2).length;show aL (aez f b K h k)<|iD ξ ω;ext ay;rw[lG (r:=(jT pss s st.length vb)[i]'ω)<|bu _,pj (by rw[c _<|dW _];lk)];decide;ext ay dB;rw[co,oP ω];rw[show(ac:Option Ζ).getD []=[] from O,pj<|cJ _];decide
 let l:Dn 17 5 (uW 17 5 16) ((A pss<|s+1).length-st.length) (A pss<|s+2).length (jT pss s st.length vb):=PK ξ ξ a e;let m:Dm 17 5 (uW 17 5 16) ((A pss<|s+1).length-st.length) (A pss<|s+2).length (jT pss s st.length vb):=PJ ξ a;show(ae3,g,c,e,ω,f.a _,λj n=>afn (l j n) ξ,m)
end
abbrev HK:b_:=gT 58
def PR:100000<ig:=by
 have:=PQ (a:=2 ^ 20) (b:=20) (aE _) ξ;let e:(2:Nat) ^ 20=1048576:=ξ
 lk
def dg.A2(h:dg H a b):∀n:Nat,dg H (a.drop n) (b.drop n):=by
 induction h with
 |nil=>intro n;rw[ak9,ak9];show .nil
 |cons r t c=>
  intro n;cases n with
  |zero=>show .cons r t
  |succ n=>show c n
def abj(H:ag)(Q:aR)(v:Ξ)(c:Ζ):Prop:=∀D a b,aM H a->H D=ac->a D=aa (.lst<|b.map ak.ref)->dg a b ((turn v).drop c.length)->b.Nodup->(∀d∈b,H d=ac/\d≠D)->Q 6#D a
inductive Ho(K:aT)(vs:List ak)(H:ag)(Q:aR)(E':cy):Prop
 |a:∀(p a1 a2 a3 a4 a5:ab)(d3:List ab)(v:Ξ)(st:Ζ),(vs=[.ref p])->(H p=aa (.tup [.ref a1,.ref a2,.ref a3,.ref a4,.ref a5]))->(H a3=aa (.lst<|d3.map ak.ref))->(H a5=aa (.lst<|st.map ak.int))->(dg H d3 v)->(tD v=ap)->(abj H Q v st)->Ho K vs H Q E'
def ζ:cR ["paper"] ["paper"] (bD HK):=1#0
section
variable{P:bh}{w:ba}{K:aT}{mg:aB->Option ae}{base:aX}
def aau(F:cz K "leaves_of" "leaves_of" HK f h)(o:mg "len"=ac)(r:bW P w K mg base aZ "columns_of" ["table"] 3 (xp K)):cp P w K mg base aZ 4 f h ["paper"] (Ho K):=by
 show F.q ζ λt A c s H R Q E u=>?_;rintro⟨p,S,T,x,U,y,z,v,i,rfl,l,B,C,G,I,k⟩;show(_,bx<|cE<|pd sW (bv r u O bw<|aq (bP dh 7#0 aS 2#0) aC) (mK<|dO fU O o rx<|aq (bP dh 7#0 aS 2#0) aC) mL,?_);show(_,O,p,_,_,_,O,O,gr.q l,bX (j:=2) O,x,z,v,O,bJ.q B,G,I,λD V L a W g m M N=>?_);show(_,O,p,_,_,_,O,O,gr.q<|a _ _ l,bX (j:=4) O,y,_,O,.inl<|bJ.q<|a _ _ C,_,O,D,_,O,bJ.q g,λq b=>?_);rw[aA,xG,<-uk];show k q _ (L.drop i.length) (a.trans<|aM.q b) (a.J b) aI ((m.A2 i.length).q<|aM.q b) (M.sublist<|ak8 _ _) λd n=>((N d<|v_ n).1,λe=>dg.A0 m d (v_ n) %[e|b])
abbrev z_:b_:=f_ 64
abbrev Jk:List aB:=["web","height","here","above","paper","closed","asked","inner"]
def vh:cR Jk ["web","height"] (bD z_):=1#0
structure vl(pss:Ξ)(s:Int)(st:Ζ)(st':Ζ):Prop where
 a:∃u ub v vb u' ub' v' vb',lJ (8#s).length (A pss<|s+1).length (ay<|jG 8#s<|A pss<|s+1) u ub v vb st/\lJ ((A pss<|s+1).length-st.length) (A pss<|s+2).length (ay<|jT pss s st.length vb) u' ub' v' vb' st'
inductive Is(K:aT)(vs:List ak)(H:ag)(Q:aR)(E':cy):Prop
 |a:∀l s as pss,(vs=[.ref l,.int s])->(bJ K H l<|as.map ak.ref)->(ce H as pss)->(nz pss)->(rD pss)->((8#1).length<=17)->(∀H' t a0 a1 a2 a3 d0 d3 v0 v3 st st',aM H H'->H' t=aa (.tup [.ref a0,.ref a1,.ref a2,.ref a3])->H' a0=aa (.lst<|d0.map ak.ref)->dg H' d0 v0->v0.length=(A pss<|s+1).length-st.length->H' a2=aa (.lst<|st'.map ak.int)->H' a3=aa (.lst<|d3.map ak.ref)->dg H' d3 v3->v3.length=(A pss<|s+2).length->vl pss s st st'->Q 6#t H')->Is K vs H Q E'
abbrev Im:bp:=mJ xn [] mP<|eO (bZ 0)<|eO (bZ 1) iw
def aee{x y:Int}(a:x.natAbs<ig)(b:y.natAbs<ig):kL (-x) y:=xH %[LB|zT a]<|zT b
def Qo{a:Ξ}{B:Nat}(h:∀r∈a,∀x∈r,x.natAbs<B)(b:0<B):∀r∈turn a,∀x∈r,x.natAbs<B:=λr c x d=>by
 let(k,ϟ,rfl):=aW.mp c;let(q,f,rfl):=aW.mp d;rw[co];cases e:q[k]? with
 |none=>show b
 |some z=>show h q f z<|dL e
def abr{a:Ξ}{k:Nat}(l:a.length=k):∀r∈turn a,r.length=k:=λr b=>by
 let(j,ϟ,rfl):=aW.mp b;ext dR;rw[aA];show l
def abn{a:Ξ}{k:Nat}(h:∀r∈a,r.length=k):gu a<=k/\∀r∈a,r.length=gu a:=by
 cases a with
 |nil=>show(cJ _,λr b=>nomatch b)
 |cons x t=>show(pI<|h x<|.head _,λr b=>(h r b).trans (h x<|.head _).symm)
def QO{a:ag}{n h:List ab}{k:Nat}{Q:aR}(t:a L=aa (.lst<|n.map ak.ref))(u:dg a n d)(v:a C=aa (.lst<|h.map ak.ref))(i:dg a h b)(V:k<=1000)(hw:∀r∈b,r.length=k)(w:∀r∈d,∀x∈r,x.natAbs<ig)(y:∀r∈b,∀x∈r,x.natAbs<ig)(e:d.length<=1000)(A:a D=ac)(B:∀c f(p:Ξ),aM a c->c D=aa (.lst<|f.map ak.ref)->dg c f p->p.length=d.length->Q 6#D c):eY (ki K L) (de 0) gB Im [ac,aa<|.ref C] a D Q:=by
 let(W,E):=abn hw;show xt (g:=λr=>uY (gu b) r b) (λo q X R s G H I=>?_) (bJ.q t) u e A λc f M j l _ _=>B c f _ M j l<|aA _;show(_,O,_,O,o,C,q,h,b,O,G,s _ _ v,i.q s,ω,E,λz e x N=>?_,λP S T m U=>I P S T m U);show aee (w q H _ (rU e).1)<|y _ (rU e).2 x N
def adg(F:cz K "view_of" "view_of" z_ f fd)(B:iU mg)(Cp:bW P w K mg base aZ "pieces_of" ["web","height"] 9 (Dw K))(Cs:bW P w K mg base aZ "seam_table" ["here","above"] 4 (Iu K))(Cc:bW P w K mg base aZ "seam_columns" ["here","above"] 3 (Dv K))(Ca:bW P w K mg base aZ "paper_of" ["table","width"] 6 Hl)(e0:bW P w K mg base aZ "leaves_of" ["paper"] 4 (Ho K))(Cr:bW P w K mg base aZ "rows_by" ["table","columns"] 3 (Hj K))(Co:bW P w K mg base aZ "columns_of" ["table"] 3 (xp K))(Cm:bW P w K mg base aZ "mix_of" ["numbers","rows"] 2 xn):cp P w K mg base aZ 10 f fd ["web","height"] (Is K):=by
 show F.q vh λi7 A' e3 s H vs Q E e=>?_;rintro⟨l,s,as,b,rfl,hl,ht,W,X,n1,k⟩;let hw:=W.1;show(_,bm (ck (i:=2) vh.a O (av O)<|bv Cp e O bw<|aq 7#0<|aq 7#1 aC)
  (bm (ck (i:=3) vh.a O (av O)<|bv Cp e O bw<|aq 7#0<|aq (cu jN 7#1 aS) aC)
  (bm (ck (i:=4) vh.a O (av O)<|bv Ca e O bw<|aq (bv Cs e O bw<|aq (bv Cp e O bw<|aq 7#0<|aq (cu mN 7#1 aS) aC)<|aq 7#2 aC)<|aq (dO fU O B.a jd<|aq 7#2 aC) aC)
  (bm (ck (i:=5) vh.a O (aU O)<|bv e0 e O bw<|aq 7#4 aC)
  (bm (ck (i:=6) vh.a O (aU O)<|pd sW (bP dh 7#4 aS 2#0) (mK<|dO fU O B.a jd<|aq (bP dh 7#4 aS 2#0) aC) mL)
  (bm (ck (i:=7) vh.a O (av O)<|bv Ca e O bw<|aq (bv Cr e O bw<|aq 7#6<|aq (bv Cc e O bw<|aq 7#2<|aq 7#3 aC) aC)<|aq (dO fU O B.a jd<|aq 7#3 aC) aC)
  (bx (cE (jC (aq (fq Jk ["often","closed"] [ac,aa 5] (gg<|bv Co e O bw<|aq (bP dh 7#7 aS 2#0) aC) (λcl C h m ex=>cx (i:=0) (dM ["often","closed"]) O<|av O) (λcl C h m ex=>eU)
     (λcl C h m ex=>bv Cm e O bw<|aq 7#0<|aq 7#1 aC) (hfr:=gS (bD z_) δ) (te:=Im))
    (aq (fq Jk ["often","asked"] [ac,aa 6] (gg<|bP dh 7#7 aS 2#0) (λcl C h m ex=>cx (i:=0) (dM ["often","asked"]) O<|av O) (λcl C h m ex=>eU)
     (λcl C h m ex=>bv Cm e O bw<|aq 7#0<|aq 7#1 aC) (hfr:=gS (bD z_) δ) (te:=Im))
   <|aq (bP dh 7#7 aS 2#0)<|aq (bv Co e O bw<|aq (bP dh 7#7 aS 2#0) aC) aC)))))))))),?_)
 let e1:s-1+1=s:=ω;let e2:s+1+1=s+2:=ω;let n:=X.a;show(_,O,_,O,l,s,as,b,O,hl,ht,W,λHE H1 hs s1 h7 c0 a8=>?_);show(_,O,_,O,_,_,O,O,l,s+1,as,b,O,s1.A1 hl,s1.A0 ht,W,λAB H2 bs s2 h8 e4 a9=>?_);rw[e2] at a9;let b0:=s1.trans s2;let e5:=a8.length;let e6:=a9.length;show(_,O,_,O,_,_,O,O,l,s-1,as,b,O,b0.A1 hl,b0.A0 ht,W,λBE H3 ls s3 h9 e7 c1=>?_);rw[e1] at c1;let Z:=s3 _ _<|s2 _ _ c0;let c2:=s3.A0<|s2.A0 a8;show(_,O,BE,HE,ls,_,hs,_,O,bJ.q e7,c1,bJ.q Z,c2,aL (n s) ξ,aL (n<|s+1) ξ,λq hq=>((nC hw (jp.mp hq).1).1,(nC hw (jp.mp hq).1).2.1),λTA H4 tr s4 i0 e8 e9 _ _=>?_);let f0:=s3.trans s4;show(_,O,HE,_,O,.inl<|bJ.q<|s4 _ _ Z,TA,tr,jG (A b s)<|A b<|s+1,24,5,uW 24 5 1,(A b s).length,(A b<|s+1).length,by rw[aA,e5];rfl,e8,e9,ab0 X s<|s+1,?_);intro H5 p u ub v vb G a1 a2 a3 a4 a5 d1 d2 d3 d4 s5 ph U;let f5:(A b<|s+1).length<=40:=aL (n<|s+1) ξ;let i8:=Rd X n1 U;show(_,O,p,a1,a2,a3,a4,a5,d3,v,G,O,ph.a,ph.b.b,ph.d,ph.b.c,(xl U.e U.h f5).1,λCL H6 cs s6 i1 f6 f7 _ _=>?_);let c3:=s6 _ _ ph.a;show(_,O,p,_,_,_,O,O,gr.q c3,bX (j:=3) O,_,O,p,_,_,_,O,O,gr.q c3,bX (j:=4) O,a5,_,O,.inl<|bJ.q<|s6 _ _ ph.d,_,O,a4,_,O,bJ.q<|s6 _ _ ph.f.b,λAS f8=>?_);rw[aA,xG,<-uk];let s7:=aM.q (o:=.lst<|(d4.drop G.length).map ak.ref) f8;let M:=aI (H:=H6) (a:=AS) (o:=.lst<|(d4.drop G.length).map ak.ref);let N:=((ph.f.c.q s6).A2 G.length).q s7;let a0:=s7 _ _ f6;let a6:=f7.q s7;let I:aM H2 (aN H6 AS<|.lst<|(d4.drop G.length).map ak.ref):=(f0.trans<|s5.trans s6).trans s7;generalize aN H6 AS (.lst<|(d4.drop G.length).map ak.ref)=H7 at s7 M N a0 a6 I;let c4:=I _ _<|s2 _ _ c0;let c5:=I.A0<|s2.A0 a8;let a7:=I _ _ e4;let c6:=I.A0 a9;show(_,O,_,O,_,O,HE,AB,hs,_,bs,_,O,bJ.q c4,c5,bJ.q a7,c6,aL (n<|s+1) ξ,aL (n<|s+2) ξ,λq hq=>((nC hw (jp.mp hq).1).1,(nC hw (jp.mp hq).1).2.1),λSC H8 sr s8 i2 f9 g0 _ _=>?_);let i9:(vb.drop G.length).length=(A b<|s+1).length-G.length:=#v[lX,U.f]
 let c7:∀r∈vb.drop G.length,∀x∈r,x.natAbs<ig:=λr e x Y=>fH (iY _ _)<|U.z r (v_ e) x Y;show(AS,SC,d4.drop G.length,vb.drop G.length,sr,_,O,s8 _ _ M,f9,N.q s8,g0,ω,%[aA|aL (n<|s+2) ξ],λc hc=>?_,λIT H9 ir s9 i3 g1 g2 _ _=>?_);let(q,hq,rfl):=aW.mp hc;show(%[aA|aL (n<|s+1) ξ],λr e x Y y hy=>?_);let(z,ϟ,rfl):=aW.mp hy;show xH (zT<|c7 r e x Y)<|zT ?_;have:=Ij (r:=z) (nC hw (jp.mp hq).1).2.1;have:=PR;lk;let c8:=s8.trans s9;show(_,O,AB,_,O,.inl<|bJ.q<|c8 _ _ a7,IT,ir,jT b s G.length vb,24,5,Jn,_,_,by rw[aA,e6];rfl,g1,g2,aex X n1 U,?_);intro j0 p' u' b6 v' j1 g4 b1 b2 b3 b4 b5 f1 f2 f3 f4 g5 L V;let c9:(A b<|s+1).length-G.length<=40:=ω;let R:(A b<|s+2).length<=40:=aL (n<|s+2) ξ;let D:=c8.trans g5;let g6:∀r∈b6,∀x∈r,x.natAbs<ig:=λr e x Y=>fH (iY _ _)<|V.p r e x Y;let su:∀r∈u',∀x∈r,x.natAbs<ig:=λr e x Y=>fH (iY _ _)<|V.m r e x Y;let sv:∀r∈v,∀x∈r,x.natAbs<ig:=λr e x Y=>fH (iY _ _)<|U.l r e x Y;let l0:0<ig:=by have:=PR;lk
 let(g7,g8,j2):=xl V.B V.E c9;let g9:(turn b6).length=(A b<|s+1).length-G.length:=#v[g8,aA,gX]
 show(_,O,p',_,_,_,O,O,gr.q L.a,bX (j:=1) O,b2,f2,b6,O,bJ.q L.e.b,L.e.c,g7,λTU j3 j4 b7 i4 d5 d6 _ _=>?_);show(TU,O,(_,bJ.q d5),λD0 h0=>fu<|QO (k:=(A b<|s+1).length) d5 d6 (b7 _ _<|D _ _ a0) ((a6.q D).q b7) ω (λr e=>abr U.e r<|v_ e) (Qo g6 l0) (λr e=>Qo sv l0 r<|v_ e) ω h0 λj5 d0 v0 d7 b8 h1 h2=>?_);let d:=b7.trans d7;show(_,O,p',_,_,_,O,O,gr.q<|d _ _ L.a,bX (j:=0) O,b1,O,(_,bJ.q<|d _ _ L.c.b),λD1 h3=>fu<|QO (k:=(A b<|s+1).length) (d _ _ L.c.b) (L.c.c.q d) (d _ _<|D _ _ M) ((N.q D).q d) ω (λr e=>U.o r<|v_ e) su c7 (by rw[V.C];lk) h3 λj6 j7 v1 d8 h4 i5 _=>?_);let g:=d.trans d8;show(_,O,p',_,_,_,O,O,gr.q<|g _ _ L.a,bX (j:=4) O,?_);show(_,O,p',_,_,_,O,O,gr.q<|g _ _ L.a,bX (j:=2) O,b3,f3,v',O,bJ.q<|g _ _ L.b.b,L.b.c.q g,(xl V.e V.h R).1,λD3 j8 g3 b9 i6 h5 h6 _ _=>(dq 0#0,λt hT=>?_));let S:=aM.q (o:=.tup [.ref D0,.ref D1,.ref b5,.ref D3]) hT;let T:=(d8.trans b9).trans S;let d9:=((I.trans D).trans<|g.trans b9).trans S;show k _ t D0 D1 b5 D3 d0 g3 v0 _ G g4 (b0.trans d9) aI (T _ _ b8) (h1.q T) #v[h2,g9] (((g.trans b9).trans S) _ _ L.d) (S _ _ h5) (h6.q S) #v[(xl V.e V.h R).2.1,aA,gX] ⟨(_,_,_,_,_,_,_,_,U,V)⟩
abbrev Jb:b_:=f_ 19
abbrev DP:b_:=f_ 20
abbrev Jf:b_:=f_ 21
def Rk:gb "max"=aa (.builtin "max"):=δ
def Jv:gb "sum"=aa (.builtin "sum"):=δ
abbrev Io(K:aT):bp:=sV (QH K)<|eO (bZ 0) iw
def QP{f:List ab}{Q:aR}(n:bJ K c L (f.map ak.ref))(l:ce c f g)(z:g.length<=1000)(m:c D=ac)(k:∀b,aM c b->b D=aa (.lst<|(nD g).map ak.int)->Q 6#D b):eY (ki K L) (de 0) gB (Io K) [ac] c D Q:=by
 let i:=l.length;show nw (xs:=f.map ak.ref) (λj h e b=>∃v:Option ak,h=[v]/\aM c b/\b D=aa (.lst e)/\e=(nD<|g.take j).map ak.int) ?_ ?_ ?_ ?_;show(ac,O,aM.q m,aI,O);rintro j h e b ⟨v,rfl,d,a,rfl⟩;show d.A1 n;rintro j h e b x q r s ⟨v,rfl,d,a,rfl⟩;let(o,t,rfl):=mp q;let(p,u,w):=l.q t;let y:(f.map ak.ref).length<=bE:=%[aA|dq ω]
 show jD ?_;show(_,O,o,_,O,.inr<|gr.q<|d.tp w,gH y r s a (_,O,d.F m,aI,?_));ext nD;rw[fO u,cH,cH,aA];rfl;rintro h e b ⟨v,rfl,d,a,rfl⟩;rw[aA,i,eF<|aE _] at a;show k b d a
inductive DA(K:aT)(vs:List ak)(H:ag)(Q:aR)(E':cy):Prop
 |a:∀l as pss,(vs=[.ref l])->(bJ K H l<|as.map ak.ref)->(ce H as pss)->(nz pss)->(∀H2,aM H H2->Q (.int<|(hV (bK pss):Int)-1) H2)->DA K vs H Q E'
def acn:cR ["web"] ["web"] (bD Jb):=1#0
def QQ{M:Int}(h:M∈nD a):0<=M:=by
 let(p,ϟ,rfl):=aW.mp h;lk
def QR(h:nD a=[]):(0:Int)=(hV a:Int):=by
 have:a=[]:=akr.mp h;rw[this];rfl
def ad5{m:cm}(F:cz K "height" "height" Jb f m)(B:iU mg)(v:mg "max"=ac)(x:bW P w K mg base aZ "pieces" ["web"] 8 (xJ K)):cp P w K mg base aZ 9 f m ["web"] (DA K):=by
 show F.q acn λy A g s H U Q E z=>?_;rintro⟨l,G,c,rfl,I,N,n,k⟩;let(ϟ,ϟ,ϟ,o):=vn n.1;show(_,bx (cE (cu mN (Ol O v Rk (aq (fq ["web"] ["piece"] [ac] (gg<|bv x z O bw<|aq 7#0 aC) (λp C a b q=>cx (i:=0) (dM ["piece"]) O<|av O)
  (λp C a b q=>eU) (λp C a b q=>dO fU O B.a jd<|aq 7#0 aC) (hfr:=nv δ) (te:=Io K)) aC) aS O) aS)),?_)
 show(_,O,l,G,c,O,I,N,n,λL V W r X d R=>(L,O,(_,bJ.q d),λD S=>fu<|QP (bJ.q d) R (by rw[vq];lk) S λt e h=>(D,nD<|bK c,_,O,O,bJ.q h,λT=>(_,_,O,O,?_),λM u j=>(_,_,O,O,?_))))
 have:=k t<|r.trans e
 rw[<-QR T] at this;show this
 have:=k t<|r.trans e
 rw[<-RF (QQ u) (.inr u) j] at this;show this
abbrev Ip(K:aT):bp:=Nx K "list" Gy (bZ 1)<|eO (eM (kf λi j=>.int<|i+j) (bZ 0)<|jM<|.int 1) iw
def afj{d:ag}{n:Nat}{Q:aR}(i:d L=aa (.lst<|(nD c).map ak.int))(p:n<=1000)(l:d D=ac)(k:∀a,aM d a->a D=aa (.lst<|((aP n).map<|nE c).map ak.int)->Q 6#D a):eY (lC 0 n) (de 0) gB (Ip K) [ac,aa<|.ref L] d D Q:=by
 show xd (λj h g a=>∃v:Option ak,h=[v,aa<|.ref L]/\aM d a/\a D=aa (.lst g)/\g=(((aP n).map<|nE c).take j).map ak.int) ?_ ?_ ?_;show(ac,O,aM.q l,aI,O);rintro j h g a m o ⟨v,rfl,f,b,rfl⟩;let e:((aP n).map<|nE c)[j]?=aa (nE c j):=by rw[ca,jX m];rfl
 show jD ?_;show(_,O,.inl (O,_,bJ.q<|f _ _ i),_,O,_,_,O,O,L,nD c,_,O,O,f _ _ i,?_);rw[show(0:Int)+((j:Nat):Int)+1=((j:Nat):Int)+1 from ω,agh];show gH (dq ω) m o b (_,O,f.F l,aI,by rw[fO e,cH];rfl);rintro h g a ⟨v,rfl,f,b,rfl⟩;rw[eF 0#0] at b;show k a f b
inductive IF(K:aT)(vs:List ak)(H:ag)(Q:aR)(E':cy):Prop
 |a:∀l as pss,(vs=[.ref l])->(bJ K H l<|as.map ak.ref)->(ce H as pss)->(nz pss)->(∀D H2,aM H H2->H D=ac->H2 D=aa (.lst<|(qv<|bK pss).map ak.int)->Q 6#D H2)->IF K vs H Q E'
def QF:cR ["web","lengths"] ["web"] (bD DP):=1#0
def Ri(hw:gO a=ap):∀p∈bK a,p.length<=5:=λp c=>by
 let(ϟ,b,ϟ,ϟ):=vn hw;let(q,d,e):=mC.mp<|tP.mp c;show(rE.mp<|Rw (b q d) e).2.1
def ad6(F:cz K "counts" "counts" DP f I)(B:iU mg)(U:mg "max"=ac)(V:bW P w K mg base aZ "pieces" ["web"] 8 (xJ K)):cp P w K mg base aZ 9 f I ["web"] (IF K):=by
 show F.q QF λW A q s H vs Q E X=>?_;rintro⟨l,Y,c,rfl,Z,ht,r,k⟩;let(ϟ,ϟ,ϟ,N):=vn r.1;let h5:=JD<|Ri r.1;show(_,bm (ck (i:=1) QF.a O (aU O) (fq ["web","lengths"] ["piece"] [ac] (gg<|bv V X O bw<|aq 7#0 aC) (λd C a b e=>cx (i:=0) (dM ["piece"]) O<|av O)
   (λd C a b e=>eU) (λd C a b e=>dO fU O B.a jd<|aq 7#0 aC) (hfr:=nv δ) (te:=Io K)))
  (bx (cE (fq ["web","lengths"] ["k","lengths"] [ac,aa 1] (sX O B.b<|aq (Ol O U Rk (aq 7#1 aC) aS O) aC) (λd C a b e=>cx (i:=0) (dM ["k","lengths"]) O<|av O)
   (λd C a b e=>eU) (λd C a b e=>pZ vR aiv PySem.F.type_list_count Ye 7#1<|aq (cu jN 7#0 aS) aC) (hfr:=gS (bD DP) δ) (te:=Ip K)))),?_)
 show(_,O,l,Y,c,O,Z,ht,r,λL H2 bs R hL g hb=>(L,O,(_,bJ.q g),λD hD=>fu<|QP (bJ.q g) hb (by rw[vq];lk) hD λS h m=>?_));let n:∀M:Int,M=(hV (bK c):Int)->∃j:Int,[ak.int M]=[ak.int j]/\-(2 ^ 62)<=j/\j<2 ^ 62/\∀p,S p=ac->eY (lC 0 j.toNat) (de 0) gB (Ip K) [ac,aa<|.ref D] S p Q:=by
  rintro M rfl;show(_,O,ω,ω,λp o=>afj m ω o λH4 t u=>k p H4 ((R.trans h).trans t) (R.J<|h.J o) u)
 show(_,O,D,nD<|bK c,_,O,O,bJ.q m,λh0=>?_,λM T v=>?_);let(j,x,y,z,G):=n 0<|QR h0;show(j,x,y,z,G);let(j,x,y,z,G):=n M<|RF (QQ T) (.inr T) v;show(j,x,y,z,G)
inductive DC(K:aT)(vs:List ak)(H:ag)(Q:aR)(E':cy):Prop
 |a:∀l as pss,(vs=[.ref l])->(bJ K H l<|as.map ak.ref)->(ce H as pss)->(nz pss)->(∀H2,aM H H2->Q (.int<|nF<|qv<|bK pss) H2)->DC K vs H Q E'
def QG:cR ["web","told"] ["web"] (bD Jf):=1#0
def QJ(a:Ζ)(b:Option Int)(c:b=ac\/b=aa 1)(h:a.length<=5):(pc a b ac<|aa 2).length<=bE:=by
 show XD a _ _ _<|dq ?_;have:∀n,n<=5->(Ar (iB ac ac (aa 2) n).fst (iB ac ac (aa 2) n).snd.fst (iB ac ac (aa 2) n).snd.snd).length<=100000/\(Ar (iB (aa 1) ac (aa 2) n).fst (iB (aa 1) ac (aa 2) n).snd.fst (iB (aa 1) ac (aa 2) n).snd.snd).length<=100000:=δ;obtain rfl|rfl:=c;show(this _ h).1;show(this _ h).2
def aea(F:cz K "balance" "balance" Jf f h)(j:mg "sum"=ac)(n:bW P w K mg base aZ "counts" ["web"] 9 (IF K)):cp P w K mg base aZ 10 f h ["web"] (DC K):=by
 show F.q QG λp A e s H B Q E q=>?_;rintro⟨l,r,a,rfl,t,u,m,k⟩;let v:=JD<|Ri m.1;let b:(qv<|bK a).length<=5:=by ext qv;simpa using v
 show(_,bm (ck (i:=1) QG.a O (av O)<|bv n q O bw<|aq 7#0 aC)
 <|bx<|cE<|cu mN (dO (Cx O) O j Jv<|aq (Ok 7#1 mL mL<|mK aS) aC)<|dO (Cx O) O j Jv<|aq (Ok 7#1 (mK aS) mL<|mK aS) aC,?_)
 show(_,O,l,r,a,O,t,u,m,λT C x D c=>?_);show(_,O,_,O,T,_,O,bJ.q c,ξ,QJ _ _ (.inl O) b,λy d=>(y,_,O,bJ.q aI,?_));show(_,O,_,O,_,O,T,_,O,bJ.q<|aM.q d _ _ c,ξ,QJ _ _ (.inr O) b,λz g=>(z,_,O,bJ.q aI,_,_,O,O,?_));have:=k _<|(x.trans<|aM.q d).trans<|aM.q (o:=.lst<|(pc (qv<|bK a) (aa 1) ac<|aa 2).map ak.int) g;rw[<-agl _ b] at this;show this
abbrev Aa:b_:=f_ 22
abbrev IR:b_:=f_ 23
def D_(d:ab)(H a:ag):Prop:=∀b u,b≠d->H b=aa u->a b=aa u
def eI(a:Int->Int)(l:Ζ):List (bi×ak):=l.map λp=>(ahl (bF p) (ak.int<|a p))
def aed(b:Int->Int){l:Ζ}(h:l.Nodup):((eI b l).map (·.1)).Nodup:=by
 ext eI;rw[dC];show kC.mpr<|h.imp λa e=>a 5#e
def Jl(a:Int->Int){l:Ζ}(h:l.Nodup){p:Int}(b:p∈l):gR (eI a l) (bF p)=aa (ak.int<|a p):=
 Go (aed a h)<|aW.mpr (p,b,O)
def QM(a:Int->Int){l:Ζ}{p:Int}(h:p∉l):fo (eI a l) (bF p) (ak.int<|a p)=eI a (l++[p]):=by
 rw[Oa _<|Gm λd b e=>?_];ext eI;rw[cH];rfl;let(q,c,rfl):=aW.mp b;have:q=p:=by simpa using e
 show h<|this▸c
inductive Ix(vs:List ak)(H:ag)(Q:aR)(E':cy):Prop
 |a:∀d new old nm l,(vs=[.ref d,.int new,.int old])->(H d=aa (.a<|eI nm l))->(l.Nodup)->(l.length<=1000)->(∀T H2,D_ d H H2->H T=ac->H2 T=aa (.a<|eI (λp=>if nm p=old then new else nm p) l)->Q 6#T H2)->Ix vs H Q E'
def IL:cR ["names","new","old","told","point"] ["names","new","old"] (bD IR):=1#0
def adp(F:cz K "renamed" "renamed" IR f fd):cp P w K mg base aZ 1 f fd ["names","new","old"] Ix:=by
 show F.q IL λa0 A S s H vs Q E hr=>?_;rintro⟨d,m,j,a,l,rfl,hd,hn,hl,k⟩;let U:=pf hr;show(_,bm (ck (i:=3) IL.a O (av O) zo)
  (bm (jB iW O (Oj<|ai 0) (cx (i:=4) IL.a O<|av O)
  <|bx<|qW U 7#3 7#4 (zm (fJ qa (mM U 7#0 7#4 2#0) 7#2<|eV _) 7#1<|mM U 7#0 7#4 2#0) O)
 <|bx<|cE<|ai 3),?_)
 intro T L;let x:d≠T:=dn hd L;let W:aN H T (.a []) d=aa (.a<|eI a l):=%[bI x|hd]
 show(_,O,d,_,O,W,λo=>OF (λi M n=>∃v:Option ak,M=[aa<|.ref d,aa<|.int m,aa<|.int j,aa<|.ref T,v]/\D_ d H n/\n d=aa (.frz o<|.a<|eI a l)/\n T=aa (.a<|eI (λp=>if a p=j then m else a p)<|l.take i))
  (ac,O,λb u X e=>%[bI X,bI<|dn e L|e],aI,%[bI x.symm|aI]) (λi M n _ (_,_,_,h,_)=>h) ?_ ?_)
 rintro i kv M n y ⟨v,rfl,Y,z,r⟩;let B:(eI a l).length=l.length:=by ext eI;rw[aA]
 let N:i<l.length:=by rw[<-B];show(dN.mp y).1
 let C:l[i]?=aa l[i]:=bu N;let Z:kv=(ahl (bF l[i]) (ak.int<|a l[i])):=by
  have:(eI a l)[i]?=aa (ahl (bF l[i]) (ak.int<|a l[i])):=by ext eI;rw[ca,C];rfl
  rw[this] at y;show(cX y).symm
 subst Z;let t:l[i]∈l:=dW N;generalize l[i]=q at C t;let g:lD n d (dT<|bF q) (aa<|ak.int<|a q):=.inl (_,bF q,.inr (o,z),O,(Jl a hn t).symm);let D:q∉l.take i:=λhm=>by
  have:=hn;rw[<-yx i l,AY N,mB] at this;show this.2.2 q hm q ?_ O;have:l[i]=q:=by rw[bu N] at C;show cX C
  rw[this];show fy
 let G:∀(c:Int),c=(if a q=j then m else a q)->fo (eI (λp=>if a p=j then m else a p)<|l.take i) (bF q) (ak.int c)=eI (λp=>if a p=j then m else a p) (l.take<|i+1):=by
  rintro c rfl;rw[fO C];show QM _ D
 let I:∀(c:Int),c=(if a q=j then m else a q)->∃v:Option ak,[aa<|ak.ref d,aa<|.int m,aa<|.int j,aa<|.ref T,aa<|dT<|bF q]=[aa<|ak.ref d,aa<|.int m,aa<|.int j,aa<|.ref T,v]/\D_ d H (aN n T<|.a<|fo (eI (λp=>if a p=j then m else a p)<|l.take i) (bF q)<|ak.int c)/\
   aN n T (.a<|fo (eI (λp=>if a p=j then m else a p)<|l.take i) (bF q)<|ak.int c) d=aa (.frz o<|.a<|eI a l)/\aN n T (.a<|fo (eI (λp=>if a p=j then m else a p)<|l.take i) (bF q)<|ak.int c) T=aa (.a<|eI (λp=>if a p=j then m else a p)<|l.take<|i+1):=by
  intro c hc;show(_,O,λb u X e=>?_,?_,?_)
  rw[bI<|dn e L];show Y b u X e
  rw[bI x];show z
  rw[aI,G c hc]
 let hz:(eI (λp=>if a p=j then m else a p)<|l.take i).length<bE:=Gv (by ext eI;rw[aA,gf];lk);show(_,O,_,O,d,_,O,g,_,O,O,_,O,?_);show oh (λR=>?_) (λR=>?_);have:a q=j:=by have:=gP R;injection this
 show(_,O,_,O,_,O,T,_,O,zH.k r hz,I m #v[aw this]);have:¬a q=j:=λe=>by rw[e] at R;simp at R
 show(_,O,_,O,d,_,O,g,_,O,_,O,T,_,O,zH.k r hz,I (a q) #v[ar this]);rintro M n ⟨v,rfl,Y,z,r⟩;rw[show(eI a l).length=l.length by ext eI;rw[aA],eF<|aE _] at r;show(_,O,k T n Y L r)
def pA(H:ag)(c:List ab)(b:Ξ):Prop:=c.length=b.length/\∀(j:Nat) a l,c[j]?=aa a->b[j]?=aa l->H a=aa (.lst<|l.map ak.int)
def pA.q(h:pA H d b)(s:aM H c):pA c d b:=(h.1,λj a l e f=>s _ _<|h.2 j a l e f)
def pA.F(h:pA H c b){j:Nat}(e:c[j]?=aa a):∃l,b[j]?=aa l/\H a=aa (.lst<|l.map ak.int):=by
 let d:j<b.length:=by rw[<-h.1];show(dN.mp e).1
 show(_,bu d,h.2 j a _ e<|bu d)
def pA.A0(h:pA H d c){b:ab}(i:b∉d):pA (aN H b o) d c:=
 (h.1,λj a l g k=>by
  let f:a≠b:=λe=>i (by rw[<-e];show dL g);rw[bI f];show h.2 j a l g k)
def kr(a:Ζ)(b:List ab):List (bi×ak):=(a.zip b).map λx=>(ahl (bF x.1) (ak.ref x.2))
def aeo{a:Ζ}{b:List ab}(c:b.length=a.length):(kr a b).map (·.1)=a.map bF:=by
 ext kr;rw[dC,show((λ(x:bi×ak)=>x.1) ∘ λ(x:Int×ab)=>(ahl ((bF x.1:bi)) (ak.ref x.2)))=(bF ∘ rR) from O,<-dC,EZ ω]
def aem{a:Ζ}{c:List ab}(d:c.length=a.length)(f:a.Nodup):((kr a c).map (·.1)).Nodup:=by
 rw[aeo d];show kC.mpr<|f.imp λb e=>b 5#e
def aek{b:Ζ}{a:List ab}(c:a.length=b.length):(kr b a).map (·.2)=a.map ak.ref:=by
 ext kr;rw[dC,show((λ(x:bi×ak)=>x.2) ∘ λ(x:Int×ab)=>(ahl ((bF x.1:bi)) (ak.ref x.2)))=(ak.ref ∘ oH) from O,<-dC,TW ω]
def aep{c:Ζ}{b:List ab}(g:b.length=c.length)(h:c.Nodup){k:Int}(i:k∈c):∃(j:Nat)(a:ab),c[j]?=aa k/\b[j]?=aa a/\gR (kr c b) (bF k)=aa 6#a:=by
 let(j,l,e):=rV.mp i;let d:c[j]?=aa k:=#v[bu l,e]
 let f:b[j]?=aa b[j]:=bu ω;show(j,b[j],d,f,Go (aem g h) ?_);ext kr;show aW.mpr ((ahl k (b[j])),?_,O);show qI.mpr (j,by rw[qT,d,f];rfl)
def aen{a:Ζ}{k:Int}(c:k∉a):gR (kr a b) (bF k)=ac:=Gm λf h e=>by
 let(x,d,rfl):=aW.mp h;have:x.1=k:=by simpa using e
 show c<|this▸(rU d).1
def ael{b:Ζ}{c:List ab}(d:c.length=b.length)(k:Int)(a:ab):kr b c++[(ahl (bF k) (ak.ref a))]=kr (b++[k]) (c++[a]):=by
 ext kr;rw[List.zip_append d.symm,cH];rfl
def QI(l:Ξ)(x:Int):dS (l++[[x]])=dS l++[x]:=by ext dS;rw[nP,cH];rfl
def ac7(l:Ξ){p:Ζ}(h:p.length≠1):dS (l++[p])=dS l:=by ext dS;rw[nP,sw 5#h,Ls,sy]
def D_.q(g:D_ d H e)(i:H d=aa (.a c))(h:ce H f b):ce e f b:=
 lw h λa j q=>g a _ (md q i (by intro z;cases z)) q
abbrev qr(a:Int->Int)(l:Ζ)(k:Int):Ζ:=l.filter λp=>aJ<|a p=k
def DW(a:Int->Int)(l:Ζ)(p k:Int):qr a (l++[p]) k=qr a l k++(if a p=k then [p] else []):=by
 ext qr;rw[nP];cases h:a p=k;rw[aw h,uo 5#h];rfl;rw[ar h,sw 5#h];rfl
def QN{d:Type}{l:List d}(h:l.Nodup){i j:Nat}{a b:d}(o:l[i]?=aa a)(p:l[j]?=aa b)(c:i≠j):a≠b:=λe=>by
 subst e;let(f,g):=dN.mp o;let(k,m):=dN.mp p;let n:=ui.mp h;obtain q|q:=KW c;show n i j f k q<|g.trans m.symm;show n j i k f q<|m.trans g.symm
def pA.J{i:List ab}{d l:Ζ}{q:Int}{j:Nat}(h:pA H i (d.map<|qr f l))(p:i.Nodup)(r:d.Nodup)(n:d[j]?=aa (f q))(o:i[j]?=aa a):pA (aN H a<|.lst<|(qr f l<|f q).map ak.int++[.int q]) i (d.map<|qr f<|l++[q]):=by
 show(#v[h.1,aA,aA],λm b x k g=>?_);rw[ca] at g;cases c:d[m]? with
 |none=>rw[c] at g;cases g
 |some s=>
  rw[c] at g;obtain rfl:=cX g;cases e:m=j;subst e;rw[o] at k;obtain rfl:=cX k;rw[n] at c;obtain rfl:=cX c;rw[aI,DW,aw O,cH];rfl;rw[bI<|QN p k o e,DW,ar<|QN r n c<|cQ e,sy];show h.2 m b _ k (by rw[ca,c];rfl)
def pA.A1{g:ab}{i:List ab}{a l:Ζ}{q:Int}(h:pA H i (a.map<|qr c l))(m:c q∉a)(o:g∉i)(r:∀p∈l,c p∈a):pA (aN H g<|.lst [.int q]) (i++[g]) ((a++[c q]).map<|qr c<|l++[q]):=by
 let n:i.length=a.length:=#v[h.1,aA]
 show(by simp[n],λj b x d f=>?_);rw[ca] at f;cases e:j<a.length;rw[sf e,bu e] at f;rw[sf ω] at d;obtain rfl:=cX f;let k:b≠g:=λz=>o (by rw[<-z];show dL d);rw[bI k,DW,ar (λz=>m %[z|dW e]),sy];show h.2 j b _ d (by rw[ca,bu e];rfl);let s:j=a.length:=by
  have:=(dN.mp d).1;simp at this;lk
 subst s;rw[r_<|aE _,yq] at f;rw[r_ ω,n,yq] at d;obtain rfl:=cX f;obtain rfl:=cX d;rw[aI,DW,aw O,show qr c l (c q)=[] from Fa.mpr λp t z=>m<|(gP z)▸r p t];rfl
abbrev dZ(a:Ξ):Int->Int:=fP<|lM<|bK a
inductive Du(K:aT)(vs:List ak)(H:ag)(Q:aR)(E':cy):Prop
 |b:∀l as pss,(vs=[.ref l])->(bJ K H l<|as.map ak.ref)->(ce H as pss)->(nz pss)->(∀D H2 ls,aM H H2->H D=ac->(∀a∈ls,H a=ac)->ls.Nodup->D∉ls->H2 D=aa (.lst<|ls.map ak.ref)->pA H2 ls (pB (dZ pss)<|dS<|bK pss)->Q 6#D H2)->Du K vs H Q E'
def tK:cR ["web","every","names","piece","found","point"] ["web"] (bD Aa):=1#0
def adl(F:cz K "shares" "shares" Aa f fd)(B:iU mg)(Cp:bW P w K mg base aZ "pieces" ["web"] 8 (xJ K))(Cr:bW P w K mg base aZ "renamed" ["names","new","old"] 1 Ix):cp P w K mg base aZ 9 f fd ["web"] (Du K):=by
 show F.q tK λd3 A b4 s H vs Q E hr=>?_;rintro⟨l,as,m,rfl,hl,ht,hw,k⟩;let hu:=pf hr;let d4:fF 1 _:=hr.q ξ;let(ϟ,f0,ϟ,b8):=vn hw.1;let d5:(bK m).length<=200:=%[vq|b8]
 let d6:=af9 m;let a8:(dS<|bK m).Nodup:=d6.imp alh;let f1:(dS<|bK m).length<=200:=by ext dS;rw[aA];show aL (rZ _ _) d5
 let b9:∃tt,lA (q_ aZ P w K mg base ["web","every","names","piece","found","point"] "shares" (bD Aa) f d3 A b4 s H E).A0 (pL 4<|qd Aa) tt/\
   ∀(Z d:ab)(v3:Option ak)(n:Int->Int)(H2:ag),n=dZ m->aM H H2->H d=ac->H2 d=aa (.a<|eI n<|dS<|bK m)->
    tt {a:=λ_ H'=>Q .non H',d:=Q} [aa<|.ref l,aa<|.ref Z,aa<|.ref d,v3,ac,ac] H2:=by
  show(_,bm (ck (i:=4) tK.a O (av O) zo)
   (bm (jB iW O (Oj<|ai 2) (cx (i:=5) tK.a O<|av O)
   <|bx<|pa<|pZ vR yl AG uH (pZ S_ aiy PySem.F.type_dict_setdefault Yc 7#4<|aq (mM hu 7#2 7#5 2#0)<|aq (jm aC) aC)<|aq 7#5 aC)
  <|bx<|cE<|nu (Zj O) O B.list DY<|aq (XO S_ aix PySem.F.type_dict_values Ya<|ai 4) aC),?_)
  intro Z d v3 n H2 d7 sm a5 hd;intro F' hF;subst d7;generalize dZ m=n at hd k;let c0:H F'=ac:=sm.J hF;let b5:d≠F':=dn hd hF;let d8:aN H2 F' (.a []) d=aa (.a<|eI n<|dS<|bK m):=%[bI b5|hd]
  show(_,O,d,_,O,d8,λo=>OF (λi σ M=>∃(v5:Option ak)(N:List ab),σ=[aa<|.ref l,aa<|.ref Z,aa<|.ref d,v3,aa<|.ref F',v5]/\aM H M/\M d=aa (.frz o<|.a<|eI n<|dS<|bK m)/\N.Nodup/\(∀a∈N,H a=ac/\a≠F'/\a≠d)/\
    M F'=aa (.a<|kr (ij<|((dS<|bK m).take i).map n) N)/\pA M N ((ij<|((dS<|bK m).take i).map n).map<|qr n<|(dS<|bK m).take i))
   (ac,[],O,λb u e=>%[bI<|dn e a5,bI<|dn e c0|sm _ _ e],aI,pK,(λa ha=>bo ha 0#0),%[bI b5.symm|aI],O,λj a x hj _=>by simp at hj) (λi σ M _ (_,_,_,_,h,_)=>h) ?_ ?_)
  rintro i kv σ M b6 ⟨v5,N,rfl,C,t,a6,G,I,R⟩
  generalize e8:dS (bK m)=c at *;let c1:(eI n c).length=c.length:=by ext eI;rw[aA]
  let hi:i<c.length:=by rw[<-c1];show(dN.mp b6).1
  let el:c[i]?=aa c[i]:=bu hi;let b0:c[i]∈c:=dW hi;let d9:kv=(ahl (bF c[i]) (ak.int<|n c[i])):=by
   have:(eI n c)[i]?=aa (ahl (bF c[i]) (ak.int<|n c[i])):=by ext eI;rw[ca,el];rfl
   rw[this] at b6;show(cX b6).symm
  subst d9;generalize c[i]=q at el b0;let g:∀X:ag,X d=aa (.frz o<|.a<|eI n c)->lD X d (dT<|bF q) (aa<|ak.int<|n q):=λX h4=>.inl (_,bF q,.inr (o,h4),O,(Jl n a8 b0).symm);let a9:N.length=(ij<|(c.take i).map n).length:=#v[R.1,aA]
  let c2:∀p∈c.take i,n p∈ij ((c.take i).map n):=λp hp=>(Ed _ _).mpr<|akp hp;let f2:(ij<|(c.take i).map n).length<=200:=by
   have:=(Ag<|(c.take i).map n).length_le_of_subset (l₂:=(c.take i).map n) λx h=>(Ed _ x).mp h;rw[aA,gf] at this;lk
  let hz:(kr (ij<|(c.take i).map n) N).length<bE:=Gv (by ext kr;rw[aA,ul];lk);let Y:ij ((c.take<|i+1).map n)=rF (ij<|(c.take i).map n) (n q):=%[fO el,cH|JE _ _]
  let c3:c.take (i+1)=c.take i++[q]:=fO el;show(_,O,.inr<|.inr<|.inl (O,.inl (_,I)),_,O,_,O,d,_,O,g M t,dq 0#0,λL0 a4=>(F',_,bF<|n q,.ref L0,O,O,aM.q a4 _ _ I,hz,?_));let b1:H L0=ac:=C.J a4;let b7:L0≠F':=(dn I a4).symm;let c4:L0≠d:=(dn t a4).symm;let b2:L0∉N:=λhm=>by
   let(j,hj):=AU hm;let(x,ϟ,hx):=R.F hj;show bo a4 (by rw[hx];simp)
  let sN:=aM.q (o:=.lst []) a4;let a0:=R.q sN;let c5:=sN _ _ I;let r:=sN _ _ t;let c6:aN M L0 (.lst []) L0=aa (.lst []):=aI;let L:=C.trans sN;generalize aN M L0 (.lst [])=X at a0 c5 r c6 L
  cases hk:n q∈ij ((c.take i).map n)
  let(j,a,ej,ea,ev):=aep a9 (Ag _) hk
  let c7:=a0.2 j a _ ea (by rw[ca,ej];rfl);let(e1,e2,e3):=G a<|dL ea;let S:rF (ij<|(c.take i).map n) (n q)=ij ((c.take i).map n):=by ext rF;rw[aw hk]
  show .inl (_,ev,.inl (O,_,bJ.q c7),_,O,a,_,_,O,O,c7,pz %[aA|aL (rZ _ _) (by rw[gf];lk)],(_,N,O,λb u e=>%[bI<|dn e e1|L _ _ e],%[bI e3.symm|r],a6,G,?_,?_))
  rw[bI e2.symm,Y,S];show c5
  rw[Y,S,c3]
  show a0.J a6 (Ag _) ej ea
  let S:rF (ij<|(c.take i).map n) (n q)=ij ((c.take i).map n)++[n q]:=by ext rF;rw[ar hk]
  let e0:gR (kr (ij<|(c.take i).map n) N) (bF<|n q)=ac:=aen hk;let c8:aN X F' (.a<|fo (kr (ij<|(c.take i).map n) N) (bF<|n q)<|.ref L0) L0=aa (.lst []):=%[bI b7|c6]
  show .inr (e0,.inl (O,_,bJ.q c8),_,O,L0,_,_,O,O,c8,pz 0#0,(_,N++[L0],O,λb u e=>%[bI<|dn e b1,bI<|dn e c0|L _ _ e],?_,?_,?_,?_,?_))
  rw[bI c4.symm,bI b5];show r
  rw[mB]
  show(a6,by simp,λa ha b hb e=>by
   have:b=L0:=by simpa using hb
   subst this;subst e;show b2 ha)
  intro a ha
  obtain h|h:=fz.mp ha
  show G a h
  have:a=L0:=by simpa using h
  subst this;show(b1,b7,c4)
  rw[bI b7.symm,aI,Oa _ e0,ael a9,Y,S]
  rw[Y,S,c3]
  show pA.A1 (a0.A0 λhm=>(G _ hm).2.1 O) hk b2 c2
  rintro σ M ⟨v5,N,rfl,C,t,a6,G,I,R⟩
  rw[show(eI n<|dS<|bK m).length=(dS<|bK m).length by ext eI;rw[aA],eF<|aE _] at I R;let a9:N.length=(ij<|(dS<|bK m).map n).length:=#v[R.1,aA]
  show(_,O,.inr<|.inr<|.inl (O,.inl (_,I)),F',_,O,O,I,λv hv=>(v,F',_,O,aI,aM.q hv _ _ I,λD hD=>?_));let s5:=(C.trans<|aM.q (o:=uE v F') hv);let s6:=s5.trans (aM.q (o:=.lst ((kr (ij<|(dS<|bK m).map n) N).map (·.2))) hD);let c9:=(R.q<|aM.q (o:=uE v F') hv).q (aM.q (o:=.lst ((kr (ij<|(dS<|bK m).map n) N).map (·.2))) hD);show k D _ N s6 (s5.J hD) (λa ha=>(G a ha).1) a6 (λhm=>?_) #v[aI,aek a9] c9;let(j,hj):=AU hm;let(x,ϟ,hx):=(R.q<|aM.q (o:=uE v F') hv).F hj;show bo hD (by rw[hx];simp)
 let(tt,e4,d0):=b9;show(_,bm (ck (i:=1) tK.a O (av O)<|bv Cp hr O bw<|aq 7#0 aC)
  (bm (ck (i:=2) tK.a O (av O) zo)
  (bm (jB iW O (gg<|ai 1) (cx (i:=3) tK.a O<|av O)
  <|bx<|hH (fJ qa (dO fU O B.a jd<|aq 7#3 aC) aS<|eV _) (bx<|qW hu 7#2 (bP dh 7#3 aS 2#0) (bP dh 7#3 aS 2#0) O) hC)
  (bm (jB iW O (gg<|ai 1) (cx (i:=3) tK.a O<|av O)
   (bx (hH (fJ qa (dO fU O B.a jd<|aq 7#3 aC) aS<|eV _) (bx (ck (i:=2) tK.a O (av O) (bv Cr d4 O bw
   <|aq 7#2<|aq (mM hu 7#2 (bP dh 7#3 aS 2#0) 2#0)<|aq (mM hu 7#2 (bP dh 7#3 aS 2#0) 2#0) aC))) hC)))
  e4))),?_)
 show(_,O,l,as,m,O,hl,ht,hw,λZ H1 es d1 e9 a7 b3 d hd=>?_);let a5:H d=ac:=d1.J hd;let e5:Z≠d:=dn a7 hd;let G:=b3.length;show(_,O,Z,O,(_,bJ.q<|aM.q hd _ _ a7),qc (K:=K) (a:=Z) (xs:=es.map ak.ref) (λi σ M=>∃v3:Option ak,σ=[aa<|.ref l,aa<|.ref Z,aa<|.ref d,v3,ac,ac]/\aM H M/\M Z=aa (.lst<|es.map ak.ref)/\ce M es (bK m)/\M d=aa (.a<|eI id<|dS<|(bK m).take i))
  (ac,O,d1.F a5,aM.q hd _ _ a7,(aM.q hd).A0 b3,aI) (λi σ M _ (_,_,_,h,_)=>bJ.q h) ?_ ?_)
 rintro i x σ M hx ⟨v3,rfl,C,U,W,t⟩;let(o,eo,rfl):=mp hx;let(p,ep,hp):=W.q eo;show(_,O,o,_,O,.inr<|gr.q hp,O,_,O,?_);cases h1:p.length=1;rw[show aJ (ak.int ((p.map ak.int).length:Int)=ak.int 1)=ap from cN (by rw[aA,h1];rfl)];obtain⟨x,rfl⟩:∃x,p=[x]:=by
  match p,h1 with
  |[x],_=>show(x,O)
 let d2:(dS<|(bK m).take<|i+1).Nodup:=a8.sublist<|((akj _ _).filter _).map _;rw[fO ep,QI,mB] at d2;let e6:x∉dS ((bK m).take i):=λhm=>d2.2.2 x hm x 0#0 O;let hz:(eI id<|dS<|(bK m).take i).length<bE:=Gv (by
  ext eI dS;rw[aA,aA];show aL (rZ _ _) (by rw[gf];lk))
 show gG (_,O,o,_,_,.int x,O,O,gr.q hp,bX (j:=0) O,_,O,_,O,o,_,_,.int x,O,O,gr.q hp,bX (j:=0) O,d,_,O,zH.k (k:=bF x) t hz,(_,O,λb u e=>%[bI<|dn e a5|C _ _ e],%[bI e5|U],tO W t (by intro xs z;cases z),?_));rw[aI,fO ep,QI];show jy (λz=>aa<|eX.a z)<|QM id e6;rw[show aJ (ak.int ((p.map ak.int).length:Int)=ak.int 1)=aH from dD λz=>h1 (by injection z with z;rw[aA] at z;lk)];show gi (_,O,C,U,W,?_);rw[fO ep,ac7 _ h1];show t;rintro σ M ⟨v3,rfl,C,U,W,t⟩;rw[aA,G,eF<|aE _] at t;show(_,O,Z,O,(_,bJ.q U),qc (K:=K) (a:=Z) (xs:=es.map ak.ref) (λi σ X=>∃(v3:Option ak)(d':ab),σ=[aa<|.ref l,aa<|.ref Z,aa<|.ref d',v3,ac,ac]/\aM H X/\X Z=aa (.lst<|es.map ak.ref)/\ce X es (bK m)/\H d'=ac/\X d'=aa (.a<|eI (fP<|lM<|(bK m).take i)<|dS<|bK m))
  (v3,d,O,C,U,W,a5,t) (λi σ X _ (_,_,_,_,h,_)=>bJ.q h) ?_ ?_)
 rintro i x σ X hx ⟨v3,d',rfl,L,a1,a2,a3,r⟩;let(o,eo,rfl):=mp hx;let(p,ep,hp):=a2.q eo;show(_,O,o,_,O,.inr<|gr.q hp,O,_,O,?_);cases h2:p.length=2;rw[show aJ (ak.int ((p.map ak.int).length:Int)=ak.int 2)=ap from cN (by rw[aA,h2];rfl)];obtain⟨x,y,rfl⟩:∃x y,p=[x,y]:=by
  match p,h2 with
  |[x,y],_=>show(x,y,O)
 let(hx,hy):=JG<|dL ep;let Y:fP (lM<|(bK m).take<|i+1)=qu (fP<|lM<|(bK m).take i) (ahl x y):=#v[fO ep,age,Ah]
 generalize fP (lM<|(bK m).take i)=n at r Y;let g:∀z,z∈dS (bK m)->lD X d' (dT<|bF z) (aa<|ak.int<|n z):=λz hz=>.inl (_,bF z,.inl r,O,(Jl n a8 hz).symm);show gG (_,O,_,O,_,O,o,_,_,.int x,O,O,gr.q hp,bX (j:=0) O,d',_,O,g x hx,_,O,_,O,o,_,_,.int y,O,O,gr.q hp,bX (j:=1) O,d',_,O,g y hy,?_);show(d',n x,n y,n,_,O,r,a8,ω,λT H5 sx e7 hT=>(_,T,O,λb u e=>sx b u (dn e a3)<|L _ _ e,sx _ _ (md a1 r (by intro z;cases z)) a1,sx.q r a2,L.J e7,?_));rw[Y];show hT;rw[show aJ (ak.int ((p.map ak.int).length:Int)=ak.int 2)=aH from dD λz=>h2 (by injection z with z;rw[aA] at z;lk)];show gi (_,d',O,L,a1,a2,a3,?_);rw[fO ep,agf _ h2];show r;rintro σ X ⟨v3,d',rfl,L,a1,a2,a3,r⟩;rw[aA,G,eF<|aE _] at r;show d0 Z d' v3 _ X O L a3 r
end
def Jj(a:List (Int×Int)):∀p,fP a (fP a p)=fP a p:=by
 show xT (motive:=λa=>∀p,fP a (fP a p)=fP a p) (λp=>O) (λa e b p=>?_) a;rw[Ah];ext qu;cases h:fP a p=fP a e.2;erw[aw h];cases c:fP a (fP a e.1)=fP a e.2;rw[aw c];rw[ar c,b];erw[ar h];rw[b,ar h]
def aec(a:List (Int×Int))(S:Int->Prop)(h:∀e∈a,S e.1):∀p,S p->S (fP a p):=by
 show xT (motive:=λa=>(∀e∈a,S e.1)->∀p,S p->S (fP a p)) (λ_ p b=>b) (λa e d h p b=>?_) a h;rw[Ah];ext qu;let i:=d λx f=>h x<|kW _ f;cases c:fP a p=fP a e.2;erw[aw c];show i _<|h e 0#0;erw[ar c];show i p b
def fj(p:Int):Int->Int:=λq=>if q=p then 1 else 0
def aby(x y p:Int):jS [x,y] [p]=fj y p-fj x p:=by
 change(if [y]=[p] then(1:Int) else 0)+((if [x]=[p] then(-1:Int) else 0)+0)=(if p=y then 1 else 0)-(if p=x then 1 else 0);let e:∀(a c:Int),(if [a]=[p] then c else 0)=if p=a then c else 0:=λa c=>by
  cases h:p=a;rw[aw h,aw #v[h]];rw[ar h,ar λb=>h (by injection b with b;show b.symm)]
 rw[e,e];split<;>split<;>rfl
section
variable{pss:Ξ}
def bM(pss:Ξ)(s:Nat):Int:=((8#1).getD s []).headD 0
def qm{s:Nat}(a:s<(8#1).length):(8#1)[s]=[bM pss s]:=by
 let h:=(jp.mp (dW a:(8#1)[s]∈A pss 1)).2;ext bM;rw[co,bu a];change(A pss 1)[s]=[((8#1)[s]).headD 0];generalize (A pss 1)[s]=q at h;match q,h with
 |[x],_=>rfl
 |[],h=>simp at h
 |_::_::_,h=>simp at h;lk
def DS:dS (bK pss)=(aP (8#1).length).map (bM pss):=by
 let e:A pss 1=(bK pss).filter λp=>aJ<|p.length=1:=Ud λp _=>by rw[decide_eq_decide];lk
 ext dS;rw[<-e];show kX 0#0 λi a b=>?_;rw[iG,iG,mD];rw[qm 5#a];rfl
abbrev mX(pss:Ξ):Nat->am:=ay<|jG 8#1<|A pss 2
def oy(pss:Ξ)(x:Int->Int):Prop:=∃y:am,∀s,s<(8#1).length->au (8#2).length (mX pss s) y=x (bM pss s)
def xQ{n:Nat}{a y z:am}{c d:Int}:au n a (λt=>c*y t+d*z t)=c*au n a y+d*au n a z:=by
 rw[dP,uv,dP (a:=y),dP (a:=z)]
def oy.F(e:oy pss x)(f:oy pss z)(c d:Int):oy pss λp=>c*x p+d*z p:=by
 let(y,g):=e;let(h,a):=f;show(λt=>c*y t+d*h t,λs b=>#v[xQ,g s b,a s b])
def oy.zero:oy pss λ_=>0:=(λ_=>0,λs _=>%[dP|gp λ_ _=>O])
def oy.q{x z:Int->Int}(h:oy pss x)(e:∀p,z p=x p):oy pss z:=by
 let(y,a):=h;show(y,λs b=>%[e|a s b])
def Rf{s t:Nat}(a:s<(8#1).length)(b:t<(8#2).length){x y:Int}(e:(8#2)[t]=[x,y]):mX pss s t=fj y (bM pss s)-fj x (bM pss s):=by
 change ay (jG 8#1<|A pss 2) s t=_;rw[tI b a,e,qm a,aby]
def abq{t:Nat}(a:t<(8#2).length):∃x y,(8#2)[t]=[x,y]:=by
 let h:=(jp.mp (dW a:(8#2)[t]∈A pss 2)).2;generalize (A pss 2)[t]=q at h;match q,h with
 |[x,y],_=>show(x,y,O)
 |[],h=>simp at h
 |[_],h=>simp at h
 |_::_::_::_,h=>simp at h;lk
def oy.A0{e:Int×Int}(c:e∈lM (bK pss)):oy pss λp=>fj e.2 p-fj e.1 p:=by
 let d:[e.1,e.2]∈A pss 2:=jp.mpr (JB.mp c,O);let(t,b,f):=jW d;show(λj=>bC t j,λs g=>?_);rw[nW (i:=t) b λj h a=>by ext bC;rw[ar λz=>a z.symm,fE],Rf g b f];ext bC;rw[aw O,ur]
def oy.J(p:Int):oy pss λq=>fj p q-fj (dZ pss p) q:=by
 let k:=agb (λz=>oy pss λq=>fj z q-fj (dZ pss p) q) (lM<|bK pss) (λe a=>(λh=>(h.F (oy.A0 a) 1 1).q λq=>ω,λh=>(h.F (oy.A0 a) 1<|-1).q λq=>ω)) p (dZ pss p) (Jj _ p).symm;show k.mpr<|oy.zero.q λq=>Int.sub_self _
def DE(pss:Ξ)(x:Int->Int)(q:Int):Int:=au (8#1).length (λs=>if dZ pss (bM pss s)=q then 1 else 0) (λs=>x<|bM pss s)
def afc{n:Nat}{f:Nat->Int->Int}(h:∀s,s<n->oy pss (f s)):oy pss λq=>au n c (λs=>f s q):=by
 induction n with
 |zero=>show oy.zero
 |succ n a=>show((a λs b=>h s ω).F (h n ω) 1<|c n).q λq=>by change au n c _+c n*f n q=_;lk
def oy.A1(h:∀q,DE pss x q=0):oy pss x:=by
 let k:=afc (pss:=pss) (n:=(8#1).length) (f:=λs q=>fj (bM pss s) q-fj (dZ pss<|bM pss s) q) (c:=λs=>x<|bM pss s) λs _=>oy.J _;let(o,g):=k;show(o,λs b=>?_);rw[g s b];let j:au (8#1).length (λp=>x<|bM pss p) (λp=>fj (bM pss p)<|bM pss s)=x (bM pss s):=by
  rw[nW (i:=s) b λp l e=>?_];ext fj;rw[aw O,ur];ext fj;rw[ar λr=>e<|(wc rB).mp #v[qm l,qm b,r],fE]
 let m:au (8#1).length (λp=>x<|bM pss p) (λp=>fj (dZ pss<|bM pss p)<|bM pss s)=0:=by
  rw[<-h<|bM pss s];ext DE;rw[dP];show iu λp _=>by
   ext fj;cases r:dZ pss (bM pss p)=bM pss s;rw[aw r,aw r.symm];rw[ar r,ar λo=>r o.symm]
 have:=xQ (n:=(8#1).length) (a:=λp=>x<|bM pss p) (y:=λp=>fj (bM pss p)<|bM pss s) (z:=λp=>fj (dZ pss<|bM pss p)<|bM pss s) (c:=1) (d:=-1);rw[j,m] at this;change au (8#1).length (λs=>x<|bM pss s) (λp=>fj (bM pss p) (bM pss s)-fj (dZ pss<|bM pss p) (bM pss s))=x (bM pss s);rw[show(λp=>fj (bM pss p) (bM pss s)-fj (dZ pss<|bM pss p) (bM pss s))=λp=>1*fj (bM pss p) (bM pss s)+-1*fj (dZ pss<|bM pss p) (bM pss s) from funext λp=>ω,this];lk
def QB(q:Int):au (8#1).length (λs=>if dZ pss (bM pss s)=q then 1 else 0) (λs=>au (8#2).length (mX pss s) y)=0:=by
 let e:au (8#1).length (λs=>if dZ pss (bM pss s)=q then 1 else 0) (λs=>au (8#2).length (mX pss s) y)=au (8#2).length (λt=>au (8#1).length (λs=>if dZ pss (bM pss s)=q then 1 else 0) (λs=>mX pss s t)) y:=by
  rw[dP (a:=λt=>au (8#1).length _ _),nX (X:=λs t=>mX pss s t)];show cZ λs _=>dP _
 rw[e];show gp λt l=>?_;let(E,b,r):=abq l;let g:[E,b]∈bK pss:=by rw[<-r];show(jp.mp (dW l:(8#2)[t]∈A pss 2)).1
 let w:dZ pss E=dZ pss b:=aga _ (ahl E b)<|JB.mpr g;let(u,v):=JG g;rw[DS] at u v;let(G,f,x):=aW.mp u;let(j,m,B):=aW.mp v;let f:=bH.mp f;let m:=bH.mp m;let h:∀{G:Nat}{E:Int},G<(8#1).length->bM pss G=E->au (8#1).length (λs=>if dZ pss (bM pss s)=q then 1 else 0) (λs=>fj E<|bM pss s)=if dZ pss E=q then 1 else 0:=λ{G E} f e=>by
  let C:fj E (bM pss G)=1:=aw e;rw[nW (i:=G) f λk o p=>?_];rw[C,ur,e];let D:fj E (bM pss k)=0:=ar λH=>p<|(wc rB).mp #v[qm o,qm f,H,e];rw[D,fE]
 let s:=xQ (n:=(8#1).length) (a:=λs=>if dZ pss (bM pss s)=q then 1 else 0) (y:=λs=>fj b<|bM pss s) (z:=λs=>fj E<|bM pss s) (c:=1) (d:=-1);rw[h m B,h f x,w] at s;rw[cZ (b':=λs=>1*fj b (bM pss s)+-1*fj E (bM pss s)) λk o=>by rw[Rf o l r];lk,s];lk
end
section
variable{k w:Nat}{A:Nat->am}{u ub v vb:Ξ}{st:Ζ}
def xF{n i:Nat}(h:i<n):au n (λl=>bC i l) x=x i:=pT h
def lJ.J(p:lJ k w A u ub v vb st){f g:am}(h:∀i,i<k->au k (ay u i) f=au k (ay u i) g):∀i,i<k->f i=g i:=by
 let e:∀(f:am) i,i<k->f i=au k (ay ub i) (λs=>au k (ay u s) f):=λf i a=>by
  rw[<-lh,iu (a':=λl=>bC i l) (λl b=>p.n i l a b),xF a]
 intro i a;rw[e f i a,e g i a];show cZ λs c=>h s c
def lJ.bv(p:lJ k w A u ub v vb st){z x:am}(a:∀t,t<w->x t=au w (ay v t) z){i:Nat}(b:i<k):au k (ay u i) (λs=>au w (A s) x)=au w z (λj=>if i=j then aQ st i else 0):=by
 let c:au k (ay u i) (λs=>au w (A s) x)=cK k w A (ay u i) (λt=>au w z (λl=>ay v t l)):=by
  ext cK;show cZ λs _=>cZ λt d=>#v[a t d,dP]
 rw[c,FW (V:=λl t=>ay v t l)];show cZ λj e=>p.F b e
end
structure Ro(pss:Ξ)(vb u' ub' v' vb' v:Ξ)(st':Ζ):Prop where
 k:pX 0 (8#1).length 0 (λ_ _=>0) (ay v) (ay vb)
 p:lJ (8#1).length (8#2).length (ay<|jT pss 0 0 vb) u' ub' v' vb' st'
 a:∀j t,j<(8#1).length->t<(8#2).length->ay (jT pss 0 0 vb) j t=au (8#1).length (ay vb j) (λs=>mX pss s t)
section
variable{pss:Ξ}{vb u' ub' v' vb' v:Ξ}{st':Ζ}
def abp(hw:gO pss=ap)(h:vl pss 0 b st'):b=[]/\∃vb u' ub' v' vb' v,Ro pss vb u' ub' v' vb' v st':=by
 let(u,m,v,vb,u',ub',v',vb',a,d):=h.a;let z:(8#0).length=0:=by
  rw[Ll,Lt];intro q e;let(f,n):=jp.mp e;show(nC hw f).2.2<|jv ω
 let g:b=[]:=jv (by have:=a.a;lk);subst g;show(O,vb,u',ub',v',vb',v,((cJ _,a.d,a.y,λx=>(λ_ o c=>bo c<|qE _,λ_ i k=>bo k<|qE _)),d,λo p c l=>?_));have:=DV a (j:=o) (t:=p) c l;rw[show([]:Ζ).length=0 from O] at this;rw[this];ext inr;rw[vV];rfl
variable(h:Ro pss vb u' ub' v' vb' v st')
include h
theorem Ro.row{j:Nat}(a:j<(8#1).length):au (8#2).length (ay (jT pss 0 0 vb) j) y=au (8#1).length (ay vb j) (λs=>au (8#2).length (mX pss s) y):=by
 rw[iu (a':=λt=>au (8#1).length (ay vb j) (λs=>mX pss s t)) λt b=>h.a j t a b,dP,nX (X:=λs t=>mX pss s t)];show cZ λs _=>dP _
theorem Ro.J{x:am}{s:Nat}(a:s<(8#1).length):x s=au (8#1).length (ay v s) (λj=>au (8#1).length (ay vb j) x):=by
 rw[<-lh,iu (a':=λl=>bC s l) (λl b=>h.k.c s l a b),xF a]
theorem Ro.A0{i j:Nat}(b:i<st'.length)(m:j<(8#1).length):au (8#2).length (ay (jT pss 0 0 vb) j) (λt=>ay v' t i)=aQ st' i*ay ub' j i:=by
 show h.p.J (f:=λj=>au (8#2).length (ay (jT pss 0 0 vb) j) (λt=>ay v' t i)) (g:=λj=>aQ st' i*ay ub' j i) (λl k=>?_) j m;let e:=h.p.F (i:=l) (j:=i) k<|fm b h.p.c;let o:au (8#1).length (ay u' l) (λj=>aQ st' i*ay ub' j i)=aQ st' i*bC l i:=by
  let s:=xQ (n:=(8#1).length) (a:=ay u' l) (y:=λj=>ay ub' j i) (z:=λ_=>0) (c:=aQ st' i) (d:=0);rw[h.p.g l i k<|fm b h.p.a] at s;rw[<-sD<|aQ st' i*bC l i,show(0:Int)=0*au (8#1).length (ay u' l) (λ_=>0) by rw[kZ],<-s];show cZ λj _=>#v[kZ,sD]
 rw[o];show du (show _=cK _ _ _ _ _ from O)<|e.trans ?_;ext bC;cases p:l=i;rw[aw p,aw p,p,ur];rw[ar p,ar p,fE]
theorem Ro.F{i s:Nat}(f:i<st'.length)(g:s<(8#1).length):au (8#2).length (mX pss s) (λt=>ay v' t i)=aQ st' i*au (8#1).length (ay v s) (λj=>ay ub' j i):=by
 let b:=h.J (x:=λs=>au (8#2).length (mX pss s) (λt=>ay v' t i)) g;rw[b,cZ (b':=λj=>aQ st' i*ay ub' j i+0*0) λj e=>by rw[<-h.row e,h.A0 f e];lk];let s:=xQ (n:=(8#1).length) (a:=ay v s) (y:=λj=>ay ub' j i) (z:=λ_=>0) (c:=aQ st' i) (d:=0);rw[s];lk
theorem Ro.A1{i:Nat}(a:i<st'.length):0<aQ st' i:=%[tB a|h.p.sp _<|dW _]
theorem Ro.q{H:Nat}(p:H<st'.length):aQ st' H=1:=by
 let C:=h.A1 p;let g:=fm p h.p.a;let' x:am:=λs=>au (8#1).length (ay v s) (λj=>ay ub' j H);let' X:Int->Int:=λq=>au (8#1).length (λs=>if bM pss s=q then 1 else 0) x;let w:∀s,s<(8#1).length->X (bM pss s)=x s:=λs f=>by
  change au _ _ _=_;rw[nW (i:=s) f λk D r=>?_,aw O,nQ];rw[ar λz=>r<|(wc rB).mp #v[qm D,qm f,z],kZ]
 let m:∀q,DE pss X q=0:=λq=>by
  let z:=QB (pss:=pss) (y:=λt=>ay v' t H) q;let s:=xQ (n:=(8#1).length) (a:=λs=>if dZ pss (bM pss s)=q then 1 else 0) (y:=λs=>X<|bM pss s) (z:=λ_=>0) (c:=aQ st' H) (d:=0);rw[cZ (b':=λs=>aQ st' H*X (bM pss s)+0*0) λs f=>#v[h.F p f,w s f,kZ,sD],s] at z;let z:aQ st' H*DE pss X q+0*_=0:=z;rw[kZ,sD] at z;obtain e|e:=wf.mp z;lk;show e
 let(I,E):=oy.A1 m;let G:∀j,j<(8#1).length->au (8#2).length (ay (jT pss 0 0 vb) j) I=ay ub' j H:=λj o=>by
  rw[h.row o,cZ (b':=x) λs f=>#v[E s f,w s f]];change au _ (ay vb j) (λs=>au (8#1).length (ay v s) (λj=>ay ub' j H))=_;rw[<-lh,iu (a':=λl=>bC j l) (λl u=>h.k.a j l o u),xF o]
 let b:=h.p.bv (x:=I) (z:=λs=>au (8#2).length (ay vb' s) I) (λt B=>by rw[<-lh,iu (a':=λl=>bC t l) (λl u=>h.p.d t l B u),xF B]) g;rw[cZ (b':=λj=>ay ub' j H) λj o=>G j o,h.p.g H H g g,dP,FM<|fm p h.p.c] at b;unfold bC at b;rw[aw O] at b;show alp (yE C) (_,b)
abbrev DR(pss:Ξ):List Nat:=(aP (8#1).length).filter λs=>aJ<|dZ pss (bM pss s)=bM pss s
abbrev jo(pss:Ξ):List Nat:=(aP (8#1).length).filter λs=>!aJ (dZ pss (bM pss s)=bM pss s)
omit h in
theorem pt_inj{s t:Nat}(hs:s<(8#1).length)(ht:t<(8#1).length)(e:bM pss s=bM pss t):s=t:=(wc rB).mp #v[qm hs,qm ht,e]
omit h in
theorem nm_pt{s:Nat}(hs:s<(8#1).length):∃r,r<(8#1).length/\bM pss r=dZ pss (bM pss s):=by
 let hp:bM pss s∈dS (bK pss):=%[DS|aW.mpr (s,bH.mpr hs,O)]
 have:=aec (lM<|bK pss) (λp=>p∈dS (bK pss)) (λe he=>(JG<|JB.mp he).1) (bM pss s) hp;rw[DS] at this;let(r,hr,e):=aW.mp this;show(r,bH.mp hr,e)
omit h in
theorem shr_reps:(pB (dZ pss)<|dS<|bK pss).length=(DR pss).length:=by
 ext pB;rw[aA];let nr:((DR pss).map<|bM pss).Nodup:=by
  ext dz;rw[kC];show(vZ.filter _).imp_of_mem λ{a b} ha hb hn e=>hn ?_;show pt_inj (bH.mp (ff.mp ha).1) (bH.mp (ff.mp hb).1) e
 let p:(ij<|(dS<|bK pss).map<|dZ pss).Perm ((DR pss).map<|bM pss):=(TS (Ag _) nr).mpr λx=>by
  rw[Ed,DS,dC,aW,aW];k_in;rintro⟨s,hs,rfl⟩;let(r,hr,e):=nm_pt<|bH.mp hs;show(r,ff.mpr (bH.mpr hr,cN ?_),e);rw[e];show Jj _ _;rintro⟨r,hr,rfl⟩;let(h1,h2):=ff.mp hr;show(r,h1,gP h2)
 have:=p.length_eq
 rwa [aA] at this
theorem Ro.A2:st'.length<=(jo pss).length:=by
 show yT (k:=(8#1).length) (w:=(8#1).length) (W:=λE s=>if dZ pss (bM pss s)=bM pss E then 1 else 0) (X:=λj s=>au (8#1).length (ay v s) (λl=>ay ub' l j)) (F:=λE s=>if(jo pss)[E]?=aa s then 1 else 0) (λj f E g=>?_) (λc B j f=>?_) λx C D=>?_;let z:=QB (pss:=pss) (y:=λt=>ay v' t j)<|bM pss E;rw[cZ (b':=λs=>au (8#1).length (ay v s) (λl=>ay ub' l j)) λs a=>#v[h.F f a,h.q f,nQ]] at z;show z;let q:=fm f h.p.a;let e:∀l,l<(8#1).length->au st'.length c (λj=>ay ub' l j)=0:=λl u=>by
  let b:au (8#1).length (ay vb l) (λs=>au st'.length c (λj=>au (8#1).length (ay v s) (λl=>ay ub' l j)))=0:=by
   rw[dP];show gp B
  rw[nX (X:=λj s=>au (8#1).length (ay v s) (λl=>ay ub' l j))] at b;rw[<-b];show cZ λj f=>by rw[<-lh,iu (a':=λm=>bC l m) (λm r=>h.k.a l m u r),xF u]
 let b:au (8#1).length (ay u' j) (λl=>au st'.length c (λj=>ay ub' l j))=0:=by
  rw[dP];show gp e
 rw[nX (X:=λj l=>ay ub' l j),cZ (b':=λE=>bC E j) λE g=>by
  rw[h.p.g j E q<|fm g h.p.a];ext bC;cases z:j=E;rw[aw z,aw z.symm];rw[ar z,ar λG=>z G.symm]] at b
 rwa [uw f] at b;let n:∀s,s<(8#1).length->dZ pss (bM pss s)≠bM pss s->x s=0:=λs a p=>by
  let r:s∈jo pss:=ff.mpr (bH.mpr a,by simpa using p);let(E,g,e):=jW r;let z:=D E g;rw[dP,nW (i:=s) a λH _ d=>#v[bu g,e,ar λG=>d (cX G).symm,fE],bu g,e,aw O,ur] at z;show z
 intro s a;cases p:dZ pss (bM pss s)=bM pss s;let z:=C s a;rw[dP,nW (i:=s) a λH o d=>?_,aw p,ur] at z;show z;cases c:dZ pss (bM pss H)=bM pss s;rw[n H o λG=>d<|pt_inj o a<|G.symm.trans c,kZ];rw[ar c,fE];show n s a p
theorem Ro.A4:(jo pss).length<=st'.length:=by
 let G:∀{y:am}{j:Nat},j<(8#1).length->au (8#1).length (ay u' j) (λl=>au (8#1).length (ay vb l) (λs=>au (8#2).length (mX pss s) y))=if j<(8#2).length then aQ st' j*au (8#2).length (ay vb' j) y else 0:=λ{y j} m=>by
  rw[cZ (b':=λl=>au (8#2).length (ay (jT pss 0 0 vb) l) y) λl q=>(h.row q).symm];rw[h.p.bv (x:=y) (z:=λs=>au (8#2).length (ay vb' s) y) (λt r=>by rw[<-lh,iu (a':=λl=>bC t l) (λl q=>h.p.d t l r q),xF r]) m,dP];cases c:j<(8#2).length;rw[FM c,aw c];rw[ar c];show gp λt r=>#v[ar ω]
 let u:∀{x:am},(∀j,j<(8#1).length->au (8#1).length (ay u' j) (λl=>au (8#1).length (ay vb l) x)=0)->∀s,s<(8#1).length->x s=0:=λ{x} E s v=>by
  let z:=h.p.J (f:=λl=>au (8#1).length (ay vb l) x) (g:=λ_=>0) λQ d=>%[E Q d,dP|(gp λ_ _=>O).symm]
  rw[h.J (x:=x) v,dP];show gp z
 let n:∀(j:Nat)(x:am),au (8#1).length (λs=>au (8#1).length (ay u' j) (λl=>ay vb l s)) x=au (8#1).length (ay u' j) (λl=>au (8#1).length (ay vb l) x):=λj x=>by
  rw[dP,nX (X:=λl s=>ay vb l s)];show cZ λl _=>dP _
 let o:∀{Q:Nat}(d:Q<(jo pss).length),(jo pss)[Q]<(8#1).length/\dZ pss (bM pss (jo pss)[Q])≠bM pss (jo pss)[Q]:=λ{Q} d=>by
  let(H,I):=ff.mp<|dW d;show(bH.mp H,by simpa using I)
 show yT (k:=(8#1).length) (w:=(8#1).length) (W:=λj=>if st'.length<=j then(λs=>au (8#1).length (ay u' j) (λl=>ay vb l s)) else λ_=>0) (X:=λQ s=>fj (bM pss<|(jo pss).getD Q 0) (bM pss s)-fj (dZ pss<|bM pss<|(jo pss).getD Q 0) (bM pss s)) (F:=λj s=>au (8#1).length (ay u' j) (λl=>ay vb l s)) (λQ d j m=>?_) (λc K Q d=>?_) λx p L=>?_;cases c:st'.length<=j;rw[aw c,n];let(y,M):=oy.J (pss:=pss)<|bM pss<|(jo pss).getD Q 0;rw[cZ (b':=λl=>au (8#1).length (ay vb l) (λs=>au (8#2).length (mX pss s) y)) λl _=>cZ λs v=>(M s v).symm,G m,pj c];split;rw[kZ];rfl;rw[ar c];show gp λ_ _=>O;let(C,D):=o d;let z:=K (jo pss)[Q] C;rw[nW (i:=Q) d λR p B=>?_] at z;let e:(jo pss).getD Q 0=(jo pss)[Q]:=by rw[co,bu d];rfl
 rw[e] at z;unfold fj at z;rw[aw O,ar λy=>D y.symm] at z;lk;let e:(jo pss).getD R 0=(jo pss)[R]:=by rw[co,bu p];rfl
 let(N,P):=o p;let a:fj (bM pss<|(jo pss).getD R 0) (bM pss (jo pss)[Q])=0:=ar λy=>B<|(wc<|vZ.filter _).mp<|pt_inj (by rw[e] at y;show N) C (by rw[e] at y;show y.symm);let b:fj (dZ pss<|bM pss<|(jo pss).getD R 0) (bM pss (jo pss)[Q])=0:=ar λy=>D %[y|Jj _ _];rw[a,b];lk;show u λj m=>?_;rw[<-n];cases c:st'.length<=j
 have:=p j m
 rwa [aw c] at this;show L j ω
theorem Ro.A3:(8#1).length-st'.length=(pB (dZ pss)<|dS<|bK pss).length:=by
 rw[shr_reps];let a:=h.A2;let b:=h.A4;let c:(DR pss).length+(jo pss).length=(8#1).length:=by
  let d:∀l:List Nat,(l.filter λs=>aJ<|dZ pss (bM pss s)=bM pss s).length+(l.filter λs=>!aJ (dZ pss (bM pss s)=bM pss s)).length=l.length:=λl=>by
   induction l with
   |nil=>rfl
   |cons s l e=>
    cases c:dZ pss (bM pss s)=bM pss s;rw[uo 5#c,sw 5#c,dI,dI];lk;rw[sw 5#c,uo 5#c,dI,dI];lk
  have:=d<|aP (8#1).length
  rwa [gX] at this
 lk
end
abbrev mV(b:Ξ)(k:Nat):Ξ:=(cr<|b.flatMap dr).filter λq=>aJ<|q.length=k
abbrev zX(l:Ξ):Ξ:=l.filter λq=>!aJ ((0:Int)∈q)
def QS:∀n,n<20->∀k,k<6->(mV (mU n) k).length<=24/\(zX<|mV (mU n) k).length<=17/\(mV (mU n) 1).length<=17:=δ
def II:∀k,k<6->(tJ.filter λq=>aJ<|q.length=k).length<=24/\(zX<|tJ.filter λq=>aJ<|q.length=k).length<=17/\(tJ.filter λq=>aJ<|q.length=1).length<=17:=δ
def QX(c:Jy b){x:Ζ}(a:x∈cr (b.flatMap dr)):x∈tJ:=by
 rw[pY,mC] at a;let(p,d,a):=a;let(ϟ,h,e,f):=c.2 p d;rw[kQ] at a;let i:=a.2.length_le;ext tJ;rw[ff,kQ];show((a.1,a.2.trans<|xS _ _ ξ ((Ae p).mp e) λy g=>?_),cN ω);have:=f y g;have:y=0\/y=1\/y=2\/y=3\/y=4\/y=5:=ω;obtain rfl|rfl|rfl|rfl|rfl|rfl:=this<;>decide
def afq(h:xR b){x:Ζ}(a:x∈cr (b.flatMap dr)):x.length<6:=by
 rw[pY,mC] at a;let(p,c,a):=a;have:=(kQ.mp a).2.length_le;have:=((afo h).2 p c).2;lk
def Js{k:Nat}:(mV b k).Nodup:=(y_ _).filter _
def afl{k:Nat}:(zX<|mV b k).Nodup:=Js.filter _
def Jt(h:xR b)(k:Nat):(mV b k).length<=24/\(zX<|mV b k).length<=17/\(mV b 1).length<=17:=by
 let f:(mV b 1).length<=17:=by
  obtain⟨n,i,rfl⟩|⟨_,j⟩:=h;show(QS n i 0 ξ).2.2;show aL (Js.length_le_of_subset λx a=>?_) (II 0 ξ).2.2;let(c,d):=ff.mp a;show ff.mpr (QX j c,d)
 cases l:k<6;obtain⟨n,i,rfl⟩|⟨_,j⟩:=id h;show QS n i k l;let g:∀x∈mV b k,x∈tJ.filter λq=>aJ<|q.length=k:=λx a=>by
  let(c,d):=ff.mp a;show ff.mpr (QX j c,d)
 show(aL (Js.length_le_of_subset g) (II k l).1,aL (afl.length_le_of_subset λx a=>?_) (II k l).2.1,f);let(c,d):=ff.mp a;show ff.mpr (g x c,d);let e:mV b k=[]:=by
  rw[Lt];intro x a;let(c,d):=ff.mp a;have:=afq h c;have:=gP d;lk
 rw[e];show(cJ _,cJ _,f)
def ae9{q:Ξ}(h:Ea q):rD q/\(A q 1).length<=17:=by
 let(t,ϟ,ϟ):=Re h;let(b,a,c,k,ϟ,ϟ,D,ϟ,u):=h;let e:∀x∈bK q,∃y∈cr (b.flatMap dr),x=gN a c y:=λx d=>by
  rw[tP,mC] at d;let(p,v,d):=d;let(r,w,rfl):=aW.mp<|u.mem_iff.mp v;rw[kQ] at d;let(l,f):=d;unfold gN at f;let(y,g,rfl):=akl.mp f;show(y,?_,O);rw[pY,mC];show(r,w,kQ.mpr (λz=>l (by rw[z];rfl),g))
 let i:∀y:Ζ,(gN a c y).length=y.length:=λy=>aA _;let j:∀s:Int,(A q s).length<=(mV b s.toNat).length:=λs=>by
  show aL (rB.length_le_of_subset (l₂:=(mV b s.toNat).map<|gN a c) λx d=>?_)<|pI<|aA _;let(m,n):=jp.mp d;let(y,g,rfl):=e x m;rw[i] at n;show aW.mpr (y,ff.mpr (g,cN ω),O)
 show((t,λs=>aL (j s) (Jt k _).1,(a,λs=>?_)),aL (j 1) (Jt k 1).2.2);let B:((A q s).filter λq=>!aJ (a∈q)).Nodup:=rB.filter _;show aL (B.length_le_of_subset (l₂:=(zX<|mV b s.toNat).map<|gN a c) λx d=>?_)<|aL (pI<|aA _) (Jt k s.toNat).2.1;let(C,o):=ff.mp d;let(m,n):=jp.mp C;let(y,g,rfl):=e x m;rw[i] at n;show aW.mpr (y,ff.mpr (ff.mpr (g,cN ω),?_),O);let o:a∉gN a c y:=by simpa using o
 have:(0:Int)∉y:=λz=>o<|aW.mpr (0,z,#v[fE,sD])
 simpa using this
section
variable{pss:Ξ}{s:Int}{st st' st2 st2':Ζ}
def Do(hw:gO pss=ap)(h:vl pss s st st')(f:vl pss (s+1) st2 st2'):st'.length=st2.length:=by
 let(u,p,v,q,r,g,w,k,d,l):=h.a;obtain⟨_,_,_,_,_,_,_,_,e,_⟩:=f.a;let m:s+1+1=s+2:=ω;rw[m] at e;let n:=d.q.J (a:=(A pss<|s+2).length) (D:=ay<|jG (A pss<|s+1)<|A pss<|s+2) (λt b i o=>Rg hw b o);show l.q.A0 e.q λx=>?_;rw[<-n x];k_in;intro z j c;rw[<-z j c];show iu λt b=>(DV d c b).symm;intro z j c;rw[<-z j c];show iu λt b=>DV d c b
def tH(h:vl pss s st st'):st.length<=(8#s).length/\st.length+st'.length<=(A pss<|s+1).length/\st'.length<=(A pss<|s+2).length:=by
 let(u,e,v,f,g,c,i,d,a,b):=h.a;have:=a.c;have:=b.a;show(a.a,ω,b.c)
def Rn(hw:gO pss=ap)(h:s<1\/5<s):(8#s).length=0:=by
 rw[Ll,Lt];intro q a;let(b,d):=jp.mp a;let(e,ϟ,c):=nC hw b;have:q.length≠0:=λz=>c<|jv z;lk
abbrev qt(l:Ξ)(k:Nat):Int:=((l.filter λq=>aJ<|q.length=k).length:Int)
def Ac(q:Ζ)(l:Ξ)(k:Nat):qt (q::l) k=(if q.length=k then 1 else 0)+qt l k:=by
 ext qt;cases h:q.length=k;rw[aw h,uo (by show cN h),dI];lk;rw[ar h,sw 5#h];lk
def Rh:∀l:Ξ,(∀q∈l,1<=q.length/\q.length<=5)->vp l=qt l 1-qt l 2+qt l 3-qt l 4+qt l 5
 |[],_=>O
 |q::l,h=>by
  let a:=Rh l λx b=>h x<|.tail _ b;let(c,d):=h q<|.head _;rw[RL,a,Ac,Ac,Ac,Ac,Ac];ext xU;have:q.length=1\/q.length=2\/q.length=3\/q.length=4\/q.length=5:=ω;obtain e|e|e|e|e:=this<;>rw[e]<;>simp<;>lk
def Ad(k:Nat):qt (bK pss) k=((A pss (k:Int)).length:Int):=by
 ext qt A Dq;congr 2;show Ud λq _=>by rw[decide_eq_decide];lk
def rC(pss:Ξ)(h:Int)(f:Int)(a:Ζ):Prop:=∃st st',vl pss h st st'/\f=(((A pss<|h+1).length-st.length-st'.length:Nat):Int)/\a=st'.filter λx=>aJ<|1<x
def ae0(hw:gO pss=ap){f:Nat->Int}{i:Nat->Ζ}(h:∀k:Nat,k<5->rC pss (k:Int) (f k) (i k)):f 0-f 1+f 2-f 3+f 4=nF (qv<|bK pss):=by
 rw[agn,Rh _ λq j=>?_,Ad,Ad,Ad,Ad,Ad];let(t,u,d,l,ϟ):=h 0 ξ;let(v,w,a,m,ϟ):=h 1 ξ;let(x,y,b,n,ϟ):=h 2 ξ;let(B,C,c,o,ϟ):=h 3 ξ;let(D,E,e,p,ϟ):=h 4 ξ;let G:=Do hw d a;let H:=Do hw a b;let I:=Do hw b c;let K:=Do hw c e;let L:=tH d;let M:=tH a;let N:=tH b;let P:=tH c;let Q:=tH e;let R:=Rn (pss:=pss) (s:=((0:Nat):Int)) hw ω;let S:=Rn (pss:=pss) (s:=((4:Nat):Int)+2) hw ω;let l:=l.trans<|Ă L.2.1;let m:=m.trans<|Ă M.2.1;let n:=n.trans<|Ă N.2.1;let o:=o.trans<|Ă P.2.1;let p:=p.trans<|Ă Q.2.1;rw[l,m,n,o,p];lk;let(g,ϟ,r):=nC hw j;show(by have:q.length≠0:=λz=>r<|jv z;lk,g)
def ae2(hw:gO pss=ap)(h:rC pss 0 f a):f=((pB (dZ pss)<|dS<|bK pss).length:Int)/\a=[]:=by
 let(st,st',v,rfl,rfl):=h;let(rfl,g,j,c,k,d,w,V):=abp hw v;show(?_,?_);rw[<-V.A3];rfl;rw[Fa];intro x e;let(i,b,rfl):=jW e;have:=V.q b;rw[tB b] at this;rw[this];decide
def QY(k:rC pss h f a)(z:(A pss<|h+2).length=0):a=[]:=by
 let(st,st',v,rfl,rfl):=k;have:=(tH v).2.2;have:st'=[]:=jv ω;rw[this];rfl
def ae1(k:rC pss h f a)(z:(A pss<|h+1).length=0)(b:(A pss<|h+2).length=0):f=0/\a=[]:=by
 show(?_,QY k b);let(st,st',v,rfl,rfl):=k;rw[z];simp
end
abbrev Jc:b_:=f_ 28
abbrev Ja:b_:=f_ 61
abbrev DK:b_:=f_ 62
abbrev IW:b_:=f_ 63
inductive DB(K:aT)(vs:List ak)(H:ag)(Q:aR)(E':cy):Prop
 |a:∀(l m:ab)(as:List ab)(kn:Ξ)(ws:Ζ),(vs=[.ref l,.ref m])->(bJ K H l<|as.map ak.ref)->(ce H as kn)->(H m=aa (.lst<|ws.map ak.int))->(kn.length<=1000)->(∀D H',aM H H'->H D=ac->H' D≠ac->Q 6#D H')->DB K vs H Q E'
inductive IC(vs:List ak)(H:ag)(Q:aR)(E':cy):Prop
 |a:∀h:Int,(vs=[.int h])->(0<=h)->(h<=4)->(Q .non H)->IC vs H Q E'
def acj:cR ["height"] ["height"] (bD IW):=1#0
section
variable{P:bh}{w:ba}{K:aT}{mg:aB->Option ae}{base:aX}
def ady(F:cz K "must_be_height" "must_be_height" IW f b)(d:mg "LAST_HEIGHT"=aa (.int 4 c)):cp P w K mg base aZ 1 f b ["height"] IC:=by
 show F.q acj λe A a s H j Q E l=>?_;rintro⟨h,rfl,g,i,k⟩;show(_,bx<|hH (wJ<|Oc zr zr aS 7#0<|zn (v:=.int 4) O d (_,O)) Od hC,?_);show(_,O,_,_,O,O,_,O,?_);rw[cN g];show gG (_,_,O,O,_,O,?_);rw[cN i];show gi k
abbrev QL:List aB:=["web","height","here","above","view","free","twisted","k","step"]
def tL:cR QL ["web","height"] (bD DK):=1#0
abbrev QA(K:aT):bp:=mJ (DB K) [] mP<|eO (bZ 1)<|eO (bZ 0) iw
def afk{c:ag}{h i:List ab}{l m:Ξ}{Q:aR}(w:c L=aa (.lst<|h.map ak.ref))(q:dg c h l)(y:bJ K c C (i.map ak.ref))(n:ce c i m)(z:m.length<=1000)(N:l.length<=1000)(r:c D=ac)(k:∀a(s:List ak),aM c a->a D=aa (.lst s)->s.length=l.length->Q 6#D a):eY (ki K L) (de 0) gB (QA K) [ac,aa<|.ref C] c D Q:=by
 let p:=q.F;show nw (xs:=h.map ak.ref) (λj g f a=>∃(v:Option ak),g=[v,aa<|.ref C]/\aM c a/\a D=aa (.lst f)/\f.length=j) ?_ ?_ ?_ ?_;show(ac,O,aM.q r,aI,O);rintro j g f a ⟨v,rfl,d,b,t⟩;show bJ.q<|d _ _ w;rintro j g f a x A B t ⟨v,rfl,d,b,e⟩;let(o,E,rfl):=mp A;let(G,H,I):=q.J E;show jD ?_;show(_,O,_,O,C,o,i,m,G,O,d.A1 y,d.A0 n,d _ _ I,z,λT P u M R=>?_);show gH %[aA|dq ω] B t (u _ _ b) (_,O,(d.trans u).F r,aI,by rw[eE,e];rfl);rintro g f a ⟨v,rfl,d,b,e⟩;show k a f d b #v[e,aA,p]
def DZ(H:ag)(t:ab)(x:Int):Prop:=∃a b:ab,H t=aa (.tup [.ref a,.int x,.ref b])
inductive Iv(K:aT)(vs:List ak)(H:ag)(Q:aR)(E':cy):Prop
 |a:∀l h as pss,(vs=[.ref l,.int h])->(bJ K H l<|as.map ak.ref)->(ce H as pss)->(nz pss)->(rD pss)->((8#1).length<=17)->(0<=h)->(h<=4)->(∀H' t fa ta(fs:List ak)(ts:List ab) st st',aM H H'->H' t=aa (.tup [.ref fa,.ref ta])->H' fa=aa (.lst fs)->fs.length=(A pss<|h+1).length-st.length-st'.length->H' ta=aa (.lst<|ts.map ak.ref)->gD (DZ H') ts (st'.filter λx=>aJ<|1<x)->vl pss h st st'->Q 6#t H')->Iv K vs H Q E'
def adn(F:cz K "rounds" "rounds" DK f fd)(B:iU mg)(Cm:bW P w K mg base aZ "must_be_web" ["web"] 7 (Dx K))(Ch:bW P w K mg base aZ "must_be_height" ["height"] 1 IC)(Cp:bW P w K mg base aZ "pieces_of" ["web","height"] 9 (Dw K))(Cv:bW P w K mg base aZ "view_of" ["web","height"] 10 (Is K))(Cc:bW P w K mg base aZ "chain_on" ["some","weights"] 2 (DB K)):cp P w K mg base aZ 11 f fd ["web","height"] (Iv K):=by
 show F.q tL λe9 A' c4 s H vs Q E M=>?_;rintro⟨l,h,as,G,rfl,hl,ht,I,b1,n1,h0,h4,k⟩;show(_,bm (pa<|bv Cm M O bw<|aq 7#0 aC)
  (bm (pa<|bv Ch M O bw<|aq 7#1 aC)
  (bm (ck (i:=2) tL.a O (aU O)<|bv Cp M O bw<|aq 7#0<|aq 7#1 aC)
  (bm (ck (i:=3) tL.a O (av O)<|bv Cp M O bw<|aq 7#0<|aq (cu jN 7#1 aS) aC)
  (bm (ck (i:=4) tL.a O (av O)<|bv Cv M O bw<|aq 7#0<|aq 7#1 aC)
  (bm (BV (i:=5) tL.a O (av O) QL ["weights","here"] [ac,aa 2] (gg<|pd sW (bP dh 7#4 aS 2#0) (mK<|dO fU O B.a jd<|aq (bP dh 7#4 aS 2#0) aC) mL) (λcl C N R ex=>cx (i:=0) (dM ["weights","here"]) O<|av O) (λcl C N R ex=>eU)
   (λcl C N R ex=>bv Cc M O bw<|aq 7#1<|aq 7#0 aC) (hfr:=gS (bD DK) δ) (te:=QA K))
  (bm (ck (i:=6) tL.a O (av O)<|jm aC)
  (bm (jB iW O (BW O B.f Rl<|aq (bP dh 7#4 aS 2#0) aC) (nr O<|hJ (cx (i:=7) tL.a O<|av O)<|hJ (cx (i:=8) tL.a O<|av O) nq)
  <|bx<|hH (fJ uG 7#8 aS<|eV _) (bx<|pa<|pZ vR yl AG uH 7#6<|aq (jC<|aq (bv Cc M O bw<|aq 7#2<|aq (bP ft (bP dh 7#4 aS 2#0) 7#7 2#0) aC)<|aq 7#8<|aq (bv Cc M O bw<|aq 7#3<|aq (bP ft (bP dh 7#4 aS 2#0) 7#7 2#0) aC) aC) aC) hC)
 <|bx<|cE<|jC<|aq 7#5<|aq 7#6 aC))))))),?_)
 let e2:h+1+1=h+2:=ω;let u:=b1.a;show(_,O,l,as,G,O,hl,ht,I,λH1 s1=>?_);show(_,O,h,O,h0,h4,?_);show(_,O,_,O,l,h,as,G,O,s1.A1 hl,s1.A0 ht,I,λHE H2 hs s2 e1 c5 c6=>?_);let X:=s1.trans s2;show(_,O,_,O,_,_,O,O,l,h+1,as,G,O,X.A1 hl,X.A0 ht,I,λAB H3 bs s3 e3 c7 b2=>?_);rw[e2] at b2;let Y:=X.trans s3;show(_,O,_,O,l,h,as,G,O,Y.A1 hl,Y.A0 ht,I,b1,n1,?_);intro H4 t a0 a1 a2 a3 d0 d3 v0 v3 st c s4 hT b3 Z c8 a4 c9 b4 f0 vw;let le:=tH vw;let b5:=s3.trans s4;let T:=b5 _ _ c5;let U:=b5.A0 c6;let b6:=s4 _ _ c7;let b7:=s4.A0 b2;show(_,O,t,_,_,_,O,O,gr.q hT,bX (j:=0) O,_,O,t,_,_,_,O,O,gr.q hT,bX (j:=2) O,a2,_,O,.inl<|bJ.q a4,_,O,a0,_,O,bJ.q b3,λS hS=>?_);rw[aA,xG,<-uk];let s5:=aM.q (o:=.lst<|(d0.drop c.length).map ak.ref) hS;show(S,O,(_,bJ.q aI),λD hD=>fu<|afk aI ((Z.A2 c.length).q s5) (bJ.q<|s5 _ _ T) (s5.A0 U) (aL (u _) ξ) (by rw[lX];have:=u<|h+1;lk) hD λH6 fs s6 b8 d1=>?_);let b9:=s5.trans s6;show(dq 0#0,λTA a5=>?_);let s7:=aM.q (o:=.lst []) a5;let a6:=b9.trans s7;let d2:D≠TA:=dn b8 a5;let c0:H4 TA=ac:=b9.J a5;show(_,O,t,_,_,_,O,O,gr.q<|a6 _ _ hT,bX (j:=2) O,a2,O,(_,bJ.q<|a6 _ _ a4),YS (K:=K) (a:=a2) (xs:=c.map ak.int) (λi σ L=>∃(v7 v8:Option ak)(W:List ab),σ=[aa<|.ref l,aa<|.int h,aa<|.ref HE,aa<|.ref AB,aa<|.ref t,aa<|.ref D,aa<|.ref TA,v7,v8]/\aM H4 L/\L D=aa (.lst fs)/\L TA=aa (.lst<|W.map ak.ref)/\gD (DZ L) W ((c.take i).filter λx=>aJ<|1<x))
  (ac,ac,[],O,a6,s7 _ _ b8,aI,.nil) (λi σ L _ (_,_,_,_,s8,_)=>bJ.q<|s8 _ _ a4) ?_ ?_)
 rintro i x p σ L hx ⟨v7,v8,W,rfl,s8,a7,v,hp⟩ d4;rw[ca] at hx;obtain⟨y,ey,rfl⟩:∃y,c[i]?=aa y/\ak.int y=x:=by
  cases e:c[i]? with
  |none=>rw[e] at hx;cases hx
  |some y=>rw[e] at hx;show(y,O,cX hx)
 let hi:i<c.length:=(dN.mp ey).1;let sp:=aM.q (o:=.tup [.int i,.int y]) d4;show(p,_,O,gr.q aI,O,_,_,O,_,_,O,O,?_);let n:=s8.trans sp;let d5:∀{H':ag},aM L H'->gD (DZ H') W ((c.take i).filter λx=>aJ<|1<x):=λs'=>lw hp λ_ _ (a,b,e)=>(a,b,s' _ _ e);let a8:=sp _ _ a7;let q:=sp _ _ v;let a9:=d5 sp;generalize aN L p (.tup [.int i,.int y])=H9 at sp n a8 q a9;show(_,O,_,_,O,O,_,O,oh (λg=>?_) (λg=>(_,_,W,O,n,a8,q,?_)));let e4:=Z.F;let e5:=b4.F;let g0:d0[i]?=aa (d0[i]'ω):=bu _;let g3:d3[i]?=aa (d3[i]'ω):=bu _;let(w0,ϟ,d6):=Z.J g0;let(w3,ϟ,d7):=b4.J g3;show(_,O,.inl (O,_,bJ.q q),_,O,_,O,t,_,_,_,O,O,gr.q<|n _ _ hT,bX (j:=0) O,_,O,a0,_,_,_,O,O,bJ.q<|n _ _ b3,bX (by rw[ca,g0];rfl),HE,_,hs,_,w0,O,bJ.q<|n _ _ T,n.A0 U,n _ _ d6,aL (u _) ξ,λD1 f1 c1 e6 f2=>?_);let A:=n.trans c1;show(_,O,_,O,_,O,t,_,_,_,O,O,gr.q<|A _ _ hT,bX (j:=3) O,_,O,a3,_,_,_,O,O,bJ.q<|A _ _ c9,bX (by rw[ca,g3];rfl),AB,_,bs,_,w3,O,bJ.q<|A _ _ b6,A.A0 b7,A _ _ d7,aL (u _) ξ,λD2 d8 c2 e7 f3=>?_);let b0:=c1.trans c2;show(dq 0#0,λtt d9=>?_);let c3:=aM.q (o:=.tup [.ref D1,.int y,.ref D2]) d9;let d:=b0.trans c3;let m:=d _ _ q;let e8:=m_ hp;let f4:((c.take i).filter λx=>aJ<|1<x).length<=i:=aL (rZ _ _) (by rw[gf];lk);show(TA,_,_,O,O,m,by rw[aA];have:=u<|h+2;show pz ω,?_);show(_,_,W++[tt],O,(n.trans d).F c0,%[bI d2|d _ _ a8],by rw[aI,cH];rfl,?_);rw[fO ey,nP,uo (by show g)];show EH (lw a9 λ_ _ (a,b,e)=>(a,b,?_)) (D1,D2,?_);rw[bI<|md (d _ _ e) m (by intro z;cases z)];show d _ _ e;rw[bI<|md (aI (H:=d8) (a:=tt) (o:=.tup [.ref D1,.int y,.ref D2])) m (by intro z;cases z)];show aI;rw[fO ey,nP,sw 5#g,Ls,sy];show a9;rintro σ L ⟨v7,v8,W,rfl,s8,a7,v,hp⟩;rw[aA,eF<|aE _] at hp;show(_,O,_,O,dq 0#0,λr e0=>?_);let n:=aM.q (o:=.tup [.ref D,.ref TA]) e0;show k _ r D TA fs W st c (((Y.trans s4).trans s8).trans n) aI (n _ _ a7) #v[d1,lX,c8] (n _ _ v) (lw hp λ_ _ (a,b,e)=>(a,b,n _ _ e)) vw
def QE:cR ["web","height","told"] ["web","height"] (bD Ja):=1#0
abbrev Qy(K:aT):bp:=eM (zj K) (bZ 0)<|jM<|.int 1
def aew{g:ag}{m:List ab}{Q:aR}(s:g L=aa (.lst<|m.map ak.ref))(o:gD (DZ g) m f)(A:f.length<=1000)(p:g D=ac)(k:∀d,aM g d->d D=aa (.lst<|f.map ak.int)->Q 6#D d):eY (ki K L) (de 0) gB (Qy K) [ac] g D Q:=by
 let n:=m_ o;show nw (xs:=m.map ak.ref) (λB l i d=>∃v:Option ak,l=[v]/\aM g d/\d D=aa (.lst i)/\i=(f.take B).map ak.int) ?_ ?_ ?_ ?_;show(ac,O,aM.q p,aI,O);rintro B l i d ⟨v,rfl,h,c,rfl⟩;show bJ.q<|h _ _ s;rintro B l i d x u w y ⟨v,rfl,h,c,rfl⟩;let(t,q,rfl):=mp u;let z:B<f.length:=by have:=(dN.mp q).1;lk
 let r:f[B]?=aa f[B]:=bu z;let(a,b,e):=zp o B _ _ q r;show jD ?_;show(_,O,t,_,1,_,O,O,gr.q<|h _ _ e,bX (j:=1) O,gH %[aA|dq ω] w y c (_,O,h.F p,aI,?_));rw[fO r,cH];rfl;rintro l i d ⟨v,rfl,h,c,rfl⟩;rw[aA,n,qk] at c;show k d h c
inductive Dz(K:aT)(vs:List ak)(H:ag)(Q:aR)(E':cy):Prop
 |a:∀l h as pss,(vs=[.ref l,.int h])->(bJ K H l<|as.map ak.ref)->(ce H as pss)->(nz pss)->(rD pss)->((8#1).length<=17)->(0<=h)->(h<=4)->(∀H' t L(f:Int)(tw:Ζ),aM H H'->H t=ac->H L=ac->H' t=aa (.tup [.int f,.ref L])->H' L=aa (.lst<|tw.map ak.int)->tw.length<=100->rC pss h f tw->Q 6#t H')->Dz K vs H Q E'
def ad4(F:cz K "holes" "holes" Ja f z)(B:iU mg)(T:bW P w K mg base aZ "rounds" ["web","height"] 11 (Iv K)):cp P w K mg base aZ 12 f z ["web","height"] (Dz K):=by
 show F.q QE λU A' m s H vs Q E V=>?_;rintro⟨l,h,W,n,rfl,X,Y,p,d,Z,h0,h4,k⟩;show(_,bm (ck (i:=2) QE.a O (av O)<|bv T V O bw<|aq 7#0<|aq 7#1 aC)
  (bx (cE (jC (aq (dO fU O B.a jd<|aq (bP dh 7#2 aS 2#0) aC) (aq (fq ["web","height","told"] ["twisted"] [ac] (gg<|bP dh 7#2 aS 2#0) (λA C a b G=>cx (i:=0) (dM ["twisted"]) O<|av O) (λA C a b G=>eU)
   (λA C a b G=>bP dh 7#0 aS 2#0) (hfr:=nv δ) (te:=Qy K)) aC))))),?_)
 show(_,O,_,O,l,h,W,n,O,X,Y,p,d,Z,h0,h4,?_);intro H1 t fa ta I ts st c q L u v e hp M;let le:=tH M;let a0:(c.filter λx=>aJ<|1<x).length<=c.length:=rZ _ _;let a1:=d.a<|h+2;show(_,O,t,_,_,_,O,O,gr.q L,bX (j:=0) O,fa,I,O,.inl<|bJ.q u,?_);show(_,O,t,_,_,_,O,O,gr.q L,bX (j:=1) O,ta,O,(_,bJ.q e),λD N=>fu<|aew e hp ω N λH2 R y=>(dq 0#0,λr g=>?_));let S:=aM.q (o:=.tup [.int I.length,.ref D]) g;show k _ r D _ _ ((q.trans R).trans S) ((q.trans R).J g) (q.J N) aI (S _ _ y) ω (st,c,M,#v[v],O)
end
inductive BR(K:aT)(x:ak)(y:ak)(H:ag)(Q:aR):Prop
 |a:∀d e,(tj K H x d)->(tj K H y e)->(AC d=ap)->(AC e=ap)->(ail d e=ap)->(Q (.c<|same d e) H)->BR K x y H Q
def XV{X:bj}(c:X.A.units+64<eJ):gs X (kx .Eq) (BR X.K):=by
 rintro a s b H x y v u Q I f g ⟨d,e,i,j,k,l,m,q⟩;let(p,n):=i X a b s _ O I f;let(r,o):=j X a b s _ O I g;show eq_dataH_same n o k l c m (.c _,H,I,O,q)
abbrev pw:b_:=f_ 77
abbrev Ab:List aB:=["script","box","web","told","top"]
def zZ:cR Ab ["script"] (bD pw):=1#0
def Dy(K:aT):me:=λc H Q _=>∃(a:ab)(b:Ζ),c=[.ref a]/\bJ K H a (b.map ak.int)/\b.length<=63/\∀d,Q (.c ap) d
abbrev acz:oo:=kg (λ_ j=>0<j) λi j=>.int<|i%j
def vm(H:ag)(t:ab)(x:Int×Ζ):Prop:=∃L:ab,H t=aa (.tup [.int x.1,.ref L])/\H L=aa (.lst<|x.2.map ak.int)
def vm.q{t:ab}(h:vm H t x)(s:aM H c):vm c t x:=let ⟨L,a,b⟩:=h;(L,s _ _ a,s _ _ b)
abbrev Qz(K:aT):bp:=mJ (Dz K) [] mP<|eO (bZ 1)<|eO (bZ 0) iw
abbrev Qx(K:aT):bp:=eM (kg xj λi j=>.int<|i*j) (eM (zj K) (eM (uF K) (bZ 1)<|bZ 0)<|jM<|.int 0)<|eM (kf λi j=>.int<|i-j) (jM<|.int 1)<|eM (kg xj λi j=>.int<|i*j) (eM acz (bZ 0)<|jM<|.int 2)<|jM<|.int 2
abbrev Il(K:aT):bp:=eM (BR K) (eM (uF K) (bZ 1)<|bZ 0)<|BL<|eO (jM<|.int 0)<|eO (Nu iw) iw
section
variable{P:bh}{w:ba}{K:aT}{mg:aB->Option ae}{base:aX}{f:ab}{fd:cm}
def abu{o:ag}{G:List ab}{Q:aR}(X:o W=aa (.lst<|G.map ak.ref))(Y:ce o G b)(H:nz b)(I:rD b)(Z:(A b 1).length<=17)(S:o D=ac)(k:∀d g(c:List (Int×Ζ)),aM o d->d D=aa (.lst<|g.map ak.ref)->gD (vm d) g c->c.length=5->(∀(i:Nat) x,c[i]?=aa x->rC b (i:Int) x.1 x.2)->Q 6#D d):eY (lC 0 5) (de 0) gB (Qz K) [ac,aa<|.ref W] o D Q:=by
 show xd (λj M y d=>∃(v:Option ak)(g:List ab)(c:List (Int×Ζ)),M=[v,aa<|.ref W]/\aM o d/\d D=aa (.lst y)/\y=g.map ak.ref/\gD (λt x=>∃L:ab,d t=aa (.tup [.int x.1,.ref L])/\d L=aa (.lst<|x.2.map ak.int)/\L≠D) g c/\c.length=j/\∀(i:Nat) x,c[i]?=aa x->rC b (i:Int) x.1 x.2) ?_ ?_ ?_;show(ac,[],[],O,aM.q S,aI,O,.nil,O,λi x e=>by simp at e);rintro i M y d hi hy ⟨v,g,c,rfl,q,h,rfl,N,B,P⟩;show jD ?_;show(_,O,_,O,W,0+(i:Int),G,b,O,bJ.q<|q _ _ X,q.A0 Y,H,I,Z,ω,ω,λC t L f T E r s hT hL hz U=>?_);let u:=E _ _ h;let nt:t≠D:=λz=>by rw[z,h] at r;cases r
 let nL:L≠D:=λz=>by rw[z,h] at s;cases s
 let l:∀{a m:ab}{x:Int×Ζ},C a=aa (.tup [.int x.1,.ref m])->C m=aa (.lst<|x.2.map ak.int)->m≠D->∃L:ab,aN C D (.lst<|g.map ak.ref++[.ref t]) a=aa (.tup [.int x.1,.ref L])/\aN C D (.lst<|g.map ak.ref++[.ref t]) L=aa (.lst<|x.2.map ak.int)/\L≠D:=λ{a m x} p w n=>(m,%[bI<|md p u (by intro z;cases z)|p],%[bI n|w],n);show gH (dq ω) hi hy u (_,g++[t],c++[(ahl f T)],O,(q.trans E).F S,aI,by rw[cH];rfl,?_,by rw[eE,B];rfl,λj x e=>?_);show EH (lw N λa x (m,p,w,n)=>l (E _ _ p) (E _ _ w) n)<|l (x:=(ahl f T)) hT hL nL;cases R:j<c.length;rw[sf R] at e;show P j x e;let h1:=(dN.mp e).1;rw[eE,TZ] at h1;let R:j=c.length:=ω;subst R;rw[r_<|aE _,yq] at e;obtain rfl:=cX e;rw[B];rw[yD] at U;show U;rintro M y d ⟨v,g,c,rfl,q,h,rfl,N,B,P⟩;show k d g c q h (lw N λa x (m,p,w,_)=>(m,p,w)) B P
def DX{a:List (Int×Ζ)}{k:Nat}(b:a.length=5)(c:k<5):a[k]?=aa (a.getD k (ahl 0 ([]))):=by
 rw[co,bu ω];rfl
def ac9{c:ag}{e:List ab}{f:List (Int×Ζ)}{Q:aR}(p:c T=aa (.lst<|e.map ak.ref))(l:gD (vm c) e f)(q:f.length=5)(m:c D=ac)(k:∀a,aM c a->a D=aa (.lst<|((aP 5).map λk:Nat=>(f.getD k (ahl 0 ([]))).1*(1-(k:Int)%2*2)).map ak.int)->Q 6#D a):eY (lC 0 5) (de 0) gB (Qx K) [ac,aa<|.ref T] c D Q:=by
 let r:=m_ l;show xd (λu h g a=>∃v:Option ak,h=[v,aa<|.ref T]/\aM c a/\a D=aa (.lst g)/\g=((aP u).map λk:Nat=>(f.getD k (ahl 0 ([]))).1*(1-(k:Int)%2*2)).map ak.int) ?_ ?_ ?_;show(ac,O,aM.q m,aI,O);rintro i h g a n s ⟨v,rfl,d,b,rfl⟩;let o:e[i]?=aa (e[i]'ω):=bu _;let(L,t,ϟ):=zp l i _ _ o<|DX q n;show jD ?_;show(_,O,_,O,T,_,_,_,O,O,bJ.q<|d _ _ p,%[yD|bX (by rw[ca,o];rfl)],_,_,0,_,O,O,gr.q<|d _ _ t,bX (j:=0) O,
  _,O,_,_,O,O,(by change(0:Int)<2;decide),_,_,O,O,.inr (ξ,ξ),_,_,O,O,_,_,O,O,.inr (?_,?_),gH (dq ω) n s b (_,O,d.F m,aI,?_))
 change -(18446744073709551616:Int)<1-(0+(i:Int))%2*2;lk;change 1-(0+(i:Int))%2*2<(18446744073709551616:Int);lk;rw[oM,cH,cH,yD];rfl;rintro h g a ⟨v,rfl,d,b,rfl⟩;show k a d b
def abl{f:ag}{h:List ab}{a:Nat}{Q:aR}(y:f T=aa (.lst<|h.map ak.ref))(p:gD (vm f) h l)(z:l.length=5)(A:a<=5)(B:∀k,a<=k->k<5->(l.getD k (ahl 0 ([]))).1=0/\(l.getD k (ahl 0 ([]))).2=[])(q:f D=ac)(k:∀c(r:List Bool),aM f c->c D=aa (.lst<|r.map ak.c)->r.all id=ap->Q 6#D c):eY (lC (a:Int)<|5-a) (de 0) gB (Il K) [ac,aa<|.ref T] f D Q:=by
 let C:=m_ p;show xd (λj n m c=>∃(v:Option ak),n=[v,aa<|.ref T]/\aM f c/\c D=aa (.lst m)/\m=(eL j ap).map ak.c) ?_ ?_ ?_;show(ac,O,aM.q q,aI,O);rintro i n m c G H ⟨v,rfl,g,e,rfl⟩;let s:a+i<5:=ω;let t:h[a+i]?=aa (h[a+i]'ω):=bu _;let(L,u,w):=zp p (a+i) _ _ t<|DX z s;let(I,M):=B (a+i) ω s;rw[I] at u;rw[M] at w;show jD ?_;show(_,O,_,O,T,_,_,_,O,O,bJ.q<|g _ _ y,(by rw[<-Int.natCast_add];show bX (by rw[ca,t];rfl)),dq 0#0,λE N=>(dq 0#0,λU P=>?_));let R:=aM.q (o:=.lst []) N;let x:=aM.q (o:=.tup [.int 0,.ref E]) P;let d:=R.trans x;show(.tuple [.int 0,.list []],.tuple [.int 0,.list []],tj.tup (gr.q<|d _ _<|g _ _ u)<|.cons (.q<|.int 0)<|.cons (.lst (bJ.q<|d _ _<|g _ _ w) .nil) .nil,tj.tup (gr.q aI)<|.cons (.q<|.int 0)<|.cons (.lst (bJ.q<|x _ _ aI) .nil) .nil,O,O,O,?_);rw[aii];show gH (dq ω) G H (d _ _ e) (_,O,(g.trans d).F q,aI,?_);rw[List.replicate_succ',cH];rfl;rintro n m c ⟨v,rfl,g,e,rfl⟩;show k c _ g e (lY.mpr λb S=>by rw[(Lf.mp S).2];rfl)
end
section
variable{P:bh}{w:ba}{K:aT}{mg:aB->Option ae}{base:aX}{f:ab}{fd:cm}{cdv:ae}{A':cC}{outer:List im}{s:ax}{H:ag}{E:cy}{Q:aR}
def Jo{n:Int}(h:(hV (bK a):Int)<n):(A a n).length=0:=by
 rw[Ll,Lt];intro q b;let(c,d):=jp.mp b;have:=Ee c;lk
def acv(R:fF 12 (A'.deeper<|oG "law" (bD pw) s⁻¹ f cdv))(B:iU mg)(a4:mg "sum"=ac)(Cb:bW P w K mg base aZ "balance" ["web"] 10 (DC K))(Cs:bW P w K mg base aZ "shares" ["web"] 9 (Du K))(Cg:bW P w K mg base aZ "height" ["web"] 9 (DA K)):∃tr,lA (q_ aZ P w K mg base Ab "law" (bD pw) f cdv A' outer s H E).A0 (pL 3<|qd pw) tr/\
   ∀(a p W T:ab)(S V:List ab)(b:Ξ)(G:List (Int×Ζ))(I:ag),I W=aa (.lst<|S.map ak.ref)->ce I S b->nz b->I T=aa (.lst<|V.map ak.ref)->gD (vm I) V G->G.length=5->(∀(i:Nat) x,G[i]?=aa x->rC b (i:Int) x.1 x.2)->(∀X,Q (.c ap) X)->
    tr {a:=λ_ X=>Q .non X,d:=Q} [aa<|.ref a,aa<|.ref p,aa<|.ref W,aa<|.ref T,ac] I:=by
 let hu:=pf R;let m:=R.units;let b0:(A'.deeper<|oG "law" (bD pw) s⁻¹ f cdv).units+128<eJ:=by have:=R.a;lk
 let b1:(A'.deeper<|oG "law" (bD pw) s⁻¹ f cdv).in1.units+64<eJ:=by change _+1+64<eJ;lk
 show(_,bm (hH (fJ sY (dO (Cx O) O a4 Jv (aq (fq Ab ["high","told"] [ac,aa 3] (sX O B.b<|aq aS aC) (λY C c d ex=>cx (i:=0) (dM ["high","told"]) O<|av O) (λY C c d ex=>eU)
    (λY C c d ex=>cu s_ (bP dh (bP ft 7#1 7#0 2#0) aS 2#0)<|cu mN aS<|cu s_ (cu p_ 7#0 aS) aS) (hfr:=gS (bD pw) δ) (te:=Qx K)) aC)) (bv Cb R O bw<|aq 7#2 aC)<|eV _) (bx<|cE pe) hC)
  (bm (hH (fJ (XT m) (bP ft 7#3 aS 2#0) (jC<|aq (dO fU O B.a jd<|aq (bv Cs R O bw<|aq 7#2 aC) aC)<|aq (jm aC) aC)<|eV _) (bx<|cE pe) hC)
  (bm (ck (i:=4) zZ.a O (av O)<|bv Cg R O bw<|aq 7#2 aC)
  (bm (hH (uN.q<|N_ (fJ On 7#4 aS<|eV _)<|NZ<|fJ (XU m) (bP dh (bP ft 7#3 7#4 2#0) aS 2#0) (jm aC)<|eV _) (bx<|cE pe) hC)
  (bx (cE (dO (xf O) O B.all Jw (aq (fq Ab ["high","told"] [ac,aa 3] (XF O B.b<|aq (cu jN 7#4 aS)<|aq aS aC) (λY C c d ex=>cx (i:=0) (dM ["high","told"]) O<|av O) (λY C c d ex=>eU)
    (λY C c d ex=>wO (r:=BR K) (XV m) (bP ft 7#1 7#0 2#0) (jC<|aq aS<|aq (jm aC) aC)<|eV _) (hfr:=gS (bD pw) δ) (te:=Il K)) aC))))))),?_)
 intro a p W T S V b G I hW ho y hT hp hl hx k;let hw:=y.1;let z:∀k:Nat,k<5->rC b (k:Int) (G.getD k (ahl 0 ([]))).1 (G.getD k (ahl 0 ([]))).2:=λk hk=>hx k _<|DX hl hk;let a0:=ae0 hw z;let b2:=m_ hp;let a1:∀{k:Nat}(hk:k<5),vm I (V[k]'ω) (G.getD k (ahl 0 ([]))):=λ{k} hk=>zp hp k _ _ (bu ω)<|DX hl hk;show(5,O,ξ,ξ,λD hD=>fu<|ac9 hT hp hl hD λH3 s3 a5=>?_);show(D,_,O,bJ.q a5,?_);show(_,O,W,S,b,O,bJ.q<|s3 _ _ hW,s3.A0 ho,y,λH4 s4=>(O,_,O,?_));let A:=s3.trans s4;rw[show((aP 5).map λk:Nat=>(G.getD k (ahl 0 ([]))).1*(1-(k:Int)%2*2)).sum=nF (qv<|bK b) from by
  rw[<-a0];erw[aP,AR,fg,AT,pJ,List.sum_nil];simp;lk,cN O]
 show gi (_,O,T,_,_,_,O,O,bJ.q<|A _ _ hT,bX (j:=0) (by rw[ca,bu (by lk:0<V.length)];rfl),?_);show(_,O,W,S,b,O,bJ.q<|A _ _ hW,A.A0 ho,y,λSD H5 ls s5 _ _ _ _ a6 hI=>(SD,_,O,.inl<|bJ.q a6,dq 0#0,λN a7=>(dq 0#0,λU hU=>?_)));rw[aA,hI.1];let s6:=aM.q (o:=.lst []) a7;let s7:=aM.q (o:=.tup [.int ((pB (dZ b)<|dS<|bK b).length:Int),.ref N]) hU;let e:=(A.trans s5).trans<|s6.trans s7;let(L0,u1,u2):=a1 (k:=0) ξ;let(q1,q2):=ae2 hw<|z 0 ξ;rw[q1] at u1;rw[q2] at u2;show(.tuple [.int ((pB (dZ b)<|dS<|bK b).length:Int),.list []],.tuple [.int ((pB (dZ b)<|dS<|bK b).length:Int),.list []],tj.tup (gr.q<|e _ _ u1)<|.cons (.q<|.int _)<|.cons (.lst (bJ.q<|e _ _ u2) .nil) .nil,tj.tup (gr.q aI)<|.cons (.q<|.int _)<|.cons (.lst (bJ.q<|s7 _ _ aI) .nil) .nil,O,O,O,?_);rw[aii];show(_,O,gi ?_);generalize aN (aN H5 N<|.lst []) U (.tup [.int ((pB (dZ b)<|dS<|bK b).length:Int),.ref N])=H7 at s7 e;show(_,O,W,S,b,O,bJ.q<|e _ _ hW,e.A0 ho,y,λH8 s8=>?_);let t:=e.trans s8;let a8:hV (bK b)<=5:=JD λq hq=>by
  have:=(nC hw hq).1;lk
 let e1:(hV (bK b):Int)-1+1=((hV (bK b):Nat):Int):=ω
 let e2:((5:Int)-((hV (bK b):Int)-1+1)).toNat=5-hV (bK b):=ω
 let L:∀(H9:ag),aM I H9->∀M,H9 M=ac->eY (lC ((hV (bK b):Nat):Int)<|5-hV (bK b)) (de 0) gB (Il K) [ac,aa<|.ref T] H9 M λv X=>∃(l:ab)(bs:List Bool),[v]=[.ref l]/\bJ K X l (bs.map ak.c)/\Q (.c<|bs.all id) X:=λH9 s9 M u=>by
  show abl (s9 _ _ hT) (lw hp λ_ _ h=>h.q s9) hl a8 (λk h1 h2=>ae1 (z k h2) (Jo ω)<|Jo ω) u λa9 bs b3 a2 hb=>?_;show(M,bs,O,bJ.q a2,?_);rw[hb];show k a9
 show(_,O,_,_,O,O,_,O,oh (λg=>?_) (λg=>gi ?_))
 let g:(0:Int)<=(hV (bK b):Int)-1:=gP g
 obtain⟨n,hn⟩:∃n:Nat,hV (bK b)=n+1:=(hV (bK b)-1,ω);let a3:n<5:=ω
 let(L1,t1,t2):=a1 (k:=n) a3;let q:=QY (z n a3)<|Jo ω;rw[q] at t2;show(_,O,_,O,T,_,_,_,O,O,bJ.q<|t _ _ hT,%[hn,show((n+1:Nat):Int)-1=(n:Int) from ω|bX (j:=n) (by rw[ca,bu (by lk:n<V.length)];rfl)],_,_,1,_,O,O,gr.q<|t _ _ t1,bX (j:=1) O,dq 0#0,λZ hZ=>?_);let s9:=aM.q (o:=.lst []) hZ;show(L1,Z,[],O,O,bJ.q<|s9 _ _<|t _ _ t2,bJ.q aI,?_);show(_,O,gi ?_);show(_,O,_,_,O,O,_,_,O,(ω,ω,ω,ω),λM u=>?_);rw[e2,e1];show L _ (t.trans s9) M u
 show(_,O,_,_,O,O,_,_,O,(ω,ω,ω,ω),λM u=>?_)
 rw[e2,e1];show L _ t M u
end
section
variable{P:bh}{w:ba}{K:aT}{mg:aB->Option ae}{base:aX}{f:ab}{fd:cm}
def ad0(F:cz K "law" "law" pw f fd)(B:iU mg)(q:mg "sum"=ac)(L:bW P w K mg base aZ "_law_cell_at" ["script","k"] 1 (IG K))(r:bW P w K mg base aZ "_law_box" ["cell"] 1 IH)(M:bW P w K mg base aZ "_law_web" ["box"] 3 Ir)(N:bW P w K mg base aZ "holes" ["web","height"] 12 (Dz K))(R:bW P w K mg base aZ "balance" ["web"] 10 (DC K))(S:bW P w K mg base aZ "shares" ["web"] 9 (Du K))(T:bW P w K mg base aZ "height" ["web"] 9 (DA K)):cp P w K mg base aZ 13 f fd ["script"] (Dy K):=by
 show F.q zZ λg v b s H vs Q E h=>?_;rintro⟨a,U,rfl,V,hn,k⟩;let(W,X,Y):=acv (f:=f) (cdv:=g) (A':=v) (outer:=b) (s:=s) (H:=H) (Q:=Q) (E:=E) h B q R S T;show(_,bm (ck (i:=1) zZ.a O (av O)<|bv r h O bw<|aq (bv L h O bw<|aq 7#0<|aq aS aC) aC)
  (bm (ck (i:=2) zZ.a O (aU O)<|bv M h O bw<|aq 7#1 aC)
  (bm (ck (i:=3) zZ.a O (aU O) (fq Ab ["high","web"] [ac,aa 2] (sX O B.b<|aq aS aC) (λz C c d A=>cx (i:=0) (dM ["high","web"]) O<|av O) (λz C c d A=>eU)
   (λz C c d A=>bv N h O bw<|aq 7#1<|aq 7#0 aC) (hfr:=gS (bD pw) δ) (te:=Qz K))) X)),?_)
 show(_,O,a,U,O,V,λn=>(n,O,λp x y G Z=>?_));show(_,O,p,O,(x,y,aI,Z),λa2 os j H1 a0 a1 _ l m e=>?_);let(hw,ϟ,ϟ):=Re e;let(t,n1):=ae9 e;let o:nz j:=(hw,by have:=afa e;rw[vq];lk);show(5,O,ξ,ξ,λD hD=>fu<|abu l m o t n1 hD λH3 ts xs I u G hl hx=>?_);show Y a p a2 D os ts j xs H3 (I _ _ l) (I.A0 m) o u G hl hx k
def aco:cR ["some","weights"] ["some","weights"] (bD Jc):=1#0
def ac8:∀{e:List ab}{f:Ξ}{c:Ζ}{d:List ab},ce H e f->gD (λt(p:ak×ak)=>H t=aa (.tup [p.1,p.2])) d ((e.map ak.ref).zip<|c.map ak.int)->kt H d (f.zip c):=by
 intro e f c d h;induction h generalizing c d with
 |nil=>intro h;cases h;show .nil
 |cons a _ g=>
  cases c with
  |nil=>intro h;cases h;show .nil
  |cons w c=>
   intro h;cases h with
   |cons b h=>show .cons (_,b,a)<|g h
def ad7(F:cz K "chain_on" "chain_on" Jc f fd)(B:iU mg)(g:mg "zip"=ac)(h:bW P w K mg base aZ "sum_of" ["terms"] 1 (It K)):cp P w K mg base aZ 2 f fd ["some","weights"] (DB K):=by
 show F.q aco λi C a s H G Q E j=>?_;rintro⟨l,m,n,o,e,rfl,p,q,r,I,k⟩;show(_,bx<|cE<|bv h j O bw<|aq (XK O O B.list DY O g δ<|aq 7#0<|aq 7#1 aC) aC,?_);show(_,O,_,O,l,m,n.map ak.ref,e.map ak.int,O,p,bJ.q r,λM L t b u v x=>?_);let c:=ac8 (b.A0 q) x;show(L,t,o.zip e,O,bJ.q v,c,by rw[ul];lk,λD y z d A=>?_);show k D y (b.trans z) (b.J d) %[A|Option.some_ne_none _]
end
def afx{l:Ax}{K:aT}(X:K.In h)(G:h.Ns mq mg)(k5:mg "law"=aa 6#fa)(t:cT K "_law_cell_at" Jd)(d3:cT K "_law_box" Je)(b7:cT K "_law_take" IN)(Z:cT K "_law_named" DO)(a0:cT K "_law_known" IY)(d4:cT K "_law_web" IM)(d5:cT K "is_piece" IU)(d6:cT K "parts_of" DM)(b8:cT K "order_key" IZ)(d7:cT K "in_order" IV)(b9:cT K "all_parts" Jg)(g8:cT K "is_web" I_)(M:cT K "must_be_web" IX)(j:cT K "must_be_height" IW)(g9:cT K "pieces" IS)(c0:cT K "pieces_of" DN)(a1:cT K "weights_on" DH)(f3:cT K "rims_of" DL)(a2:cT K "seam_terms" DI)(u:cT K "seam_columns" DJ)(c1:cT K "column_of" Dc)(a3:cT K "columns_to" Db)(a4:cT K "seam_table" IQ)(j2:cT K "less" C')(f4:cT K "reduced" HH)(P:cT K "first_place" HN)(x:cT K "divisor_pair" Da)(a5:cT K "mix_of_two" C_)(f5:cT K "take_in" HA)(a6:cT K "echelon_of" HO)(d8:cT K "width_of" Hy)(a7:cT K "columns_of" HP)(h0:cT K "mix_of" HJ)(c2:cT K "shares_of" HG)(y:cT K "straightened" tC)(c3:cT K "slope_row" HC)(d9:cT K "on_slope" CZ)(j3:cT K "unit" Hz)(Q:cT K "is_on_slope" HL)(e0:cT K "slope_of" HD)(c4:cT K "are_steps" HQ)(R:cT K "is_in_steps" HM)(j4:cT K "slid" HF)(e1:cT K "paper_of" HI)(c5:cT K "leaves_of" HK)(h1:cT K "sum_by" HB)(h2:cT K "row_by" CY)(f6:cT K "rows_by" CW)(f7:cT K "view_of" z_)(h3:cT K "sum_of" IP)(e2:cT K "chain_on" Jc)(h4:cT K "rounds" DK)(i7:cT K "holes" Ja)(h5:cT K "counts" DP)(f8:cT K "balance" Jf)(f9:cT K "renamed" IR)(h6:cT K "shares" Aa)(h7:cT K "height" Jb)(c6:cT K "law" pw)(d:iM K "MOST_POINTS" (aa<|.int 5 E))(i:iM K "LAST_POINT" (aa<|.int 99 Y))(S:iM K "MOST_HANDED" (aa<|.int 20 H))(T:iM K "MOST_PIECES" (aa<|.int 200 I))(U:iM K "LAST_HEIGHT" (aa<|.int 4 L))(k0:iM K "len" ac)(k1:iM K "all" ac)(k2:iM K "zip" ac)(h8:iM K "sorted" ac)(k3:iM K "set" ac)(j5:iM K "list" ac)(i8:iM K "tuple" ac)(i9:iM K "range" ac)(c7:iM K "enumerate" ac)(k4:iM K "int" ac)(a8:iM K "isinstance" ac)(e3:iM K "reversed" ac)(j6:iM K "bool" ac)(g0:iM K "sum" ac)(j7:iM K "dict" ac)(j0:iM K "max" ac):∃fd:cm,(∀(s:ax)(v:ae),AI s fd ([v],[]) [(ahl ("script") v)])/\∀e4:aX,K.In e4->e4.Ns mq mg->cp l.prog w K mg e4 aZ 13 fa fd ["script"] (Dy K):=by
 let(fL,c6):=c6;cases k5.symm.trans (c6.m X G);let B:iU mg:=(k0.n X G,k1.n X G,k2.n X G,h8.n X G,k3.n X G,j5.n X G,i8.n X G,i9.n X G,c7.n X G,k4.n X G,a8.n X G,e3.n X G,j6.n X G);obtain⟨⟨gL,FL⟩,_⟩:=c6;show(gL,?_,λe4 _ _=>?_);obtain⟨_,_,_,_,_,_,_,_,_,rfl,_,_⟩:=FL.a;show λs v=>.of_eq O;let N:zF l.prog w K mg e4 h:=(X,G);let z:=N.F t λ_ _ k6=>ad8 k6 B;let e5:=N.q d3 λ_ _ k6=>ad9 k6;let k:=N.F b7 λ_ _ k6=>adi k6;let a9:=N.F Z λ_ _ k6=>adx k6 B k;let b0:=N.q a0 λ_ _ k6=>ad1 k6 B;let e6:=N.q d4 λ_ _ k6=>adf k6 B k a9 b0;let e7:=N.q d5 λ_ _ k6=>adu k6 B (d.m N.X N.G)<|i.m N.X N.G;let e8:=N.q d6 λ_ _ k6=>adv k6;let c8:=N.q b8 λ_ _ k6=>ad2 k6 B;let e9:=N.q d7 λ_ _ k6=>adw k6 B c8;let m:=N.q b9 λ_ _ k6=>aeb k6 B e8 e9;let h9:=N.q g8 λ_ _ k6=>ad3 k6 B (d.m N.X N.G) (i.m N.X N.G) (S.m N.X N.G) (T.m N.X N.G) e7 m;let e:=N.q M λ_ _ k6=>adz k6 h9;let n:=N.q j λ_ _ k6=>ady k6<|U.m N.X N.G;let g:=N.q g9 λ_ _ k6=>adt k6 e m;let o:=N.F c0 λ_ _ k6=>adq k6 B g;let b1:=N.F a1 λ_ _ k6=>ade k6;let g1:=N.q f3 λ_ _ k6=>ado k6 B;let b2:=N.F a2 λ_ _ k6=>adh k6 B g1;let c:=N.F u λ_ _ k6=>adm k6 (j7.n N.X N.G) b1 b2;let c9:=N.F c1 λ_ _ k6=>aa2 k6;let b:=N.F a3 λ_ _ k6=>aa0 k6 B.b c9;let b3:=N.F a4 λ_ _ k6=>adk k6 B c b;let D:=N.J j2 λ_ _ k6=>aat k6 B.c;let g2:=N.J f4 λ_ _ k6=>aao k6 D;let V:=N.q P λ_ _ k6=>aax k6;let A:=N.F x λ_ _ k6=>aaz k6 B.c B.e;let b4:=N.c4 a5 λ_ _ k6=>aar k6 B.c;let g3:=N.F f5 λ_ _ k6=>aaf k6 B.d B.b B.a g2 V A b4;let b5:=N.q a6 λ_ _ k6=>aay k6 g3;let q:=N.q d8 λ_ _ k6=>aad k6 B.a;let a:=N.q a7 λ_ _ k6=>aa1 k6 B.a b q;let b6:=N.F h0 λ_ _ k6=>aas k6 B.c q D;let d0:=N.F c2 λ_ _ k6=>aal k6 B.d D;let C:=N.F y λ_ _ k6=>aah k6 B.c B.d b5 a b6 d0;let p:=N.J c3 λ_ _ k6=>aai k6 B.a;let f0:=N.J d9 λ_ _ k6=>aaq k6 B.b p;let j8:=N.q j3 λ_ _ k6=>aae k6 f0;let f:=N.q Q λ_ _ k6=>aav k6 B.all B.f B.a p;let r:=N.q e0 λ_ _ k6=>aaj k6 B.f B.a;let d1:=N.F c4 λ_ _ k6=>aa3 k6 B.a B.all B.c;let W:=N.q R λ_ _ k6=>aaw k6 B.a f r d1;let j9:=N.F j4 λ_ _ k6=>aak k6 B.b B.list D;let f1:=N.F e1 λ_ _ k6=>aap k6 B.a C j8 b a W f r j9;let d2:=N.q c5 λ_ _ k6=>aau k6 B.a a;let i0:=N.F h1 λ_ _ k6=>aag k6 B.c<|g0.n N.X N.G;let i1:=N.F h2 λ_ _ k6=>aan k6 i0;let g4:=N.F f6 λ_ _ k6=>aam k6 i1;let g5:=N.F f7 λ_ _ k6=>adg k6 B o b3 c f1 d2 g4 a b6;let i2:=N.q h3 λ_ _ k6=>adj k6;let f2:=N.F e2 λ_ _ k6=>ad7 k6 B B.c i2;let i3:=N.F h4 λ_ _ k6=>adn k6 B e n o g5 f2;let j1:=N.F i7 λ_ _ k6=>ad4 k6 B i3;let i4:=N.q h5 λ_ _ k6=>ad6 k6 B (j0.n N.X N.G) g;let g6:=N.q f8 λ_ _ k6=>aea k6 (g0.n N.X N.G) i4;let g7:=N.J f9 λ_ _ k6=>adp k6;let i5:=N.q h6 λ_ _ k6=>adl k6 B g g7;let i6:=N.q h7 λ_ _ k6=>ad5 k6 B (j0.n N.X N.G) g;show ad0 FL B (g0.n N.X N.G) z e5 e6 j1 g6 i5 i6
def abo{l:Ax}{q:bh}{c:List aB}{o:(aB->Option ae)->aX->Prop}{i:ba->aX->Prop}{d:DefRec}{K:Kn->aT}(p:l.most=aa 63)(g:d.params.defaults=[])(r:∀(w:ba)(h:aX),i w h->(K w.params).In h)(F:∀(w:ba)(e:aB->Option ae)(j:ab)(h:aX),(K w.params).In h->h.Ns mq e->e d.name=aa 6#j->
   ∃m:cm,(∀(s:ax)(u:ae),AI s m ([u],[]) [(ahl ("script") u)])/\∀b:aX,(K w.params).In b->b.Ns mq e->cp l.prog w (K w.params) e b aZ 13 j m ["script"] (Dy<|K w.params)):
  SO q c o i l.row.toRowW d [] (λf t=>kz f t):=
 WN (n:=63) (k:=13) (x:="script") (CX:=λ_=>aZ) (sp:=λw=>Dy<|K w.params) p ξ g (O,ξ,ξ) r F (λ_ _ a v y _ A=>(a,v,O,A,y,λ_=>O)) λ_ _ _ _ _ z=>z
end
structure PySem.W.Fast:Prop where
 (tw100171102772686911 tw10199129555293658222 tw102171987611895013 tw10240577567903956923 tw10298715792200519682 tw10407750530824458097 tw10470723065827519340 tw10593718546407103277 tw10621752290320262290 tw10728951829345415562 tw10826251013726022546 tw10835104766338251443 tw1091225568269158899 tw10916393869992204763 tw10940090320091515496 tw10950997886116456004 tw10953395551776133307 tw112333745598514921 tw11276780948796150295 tw11325566724787377058 tw1146231655514539152 tw11540181104931701928 tw11581251165186620028 tw11630043913833958820 tw11667492887084159767 tw11719273128401326908 tw11788903320093015213 tw11907114424580514409 tw12000074390771503345 tw12234663228034892355 tw12307863011601418965 tw123992060986046677 tw12510230083783227670 tw12591130755627120397 tw12614145648087531480 tw12703681535741867431 tw12839080547707243875 tw12934355457849414001 tw1294307704545795101 tw13070708712278783320 tw13109229571460672948 tw13200058931696977884 tw13233264519922492819 tw13240061233511669099 tw13267087250127111595 tw13272804698867255744 tw1331024266400299849 tw13312691580322887232 tw13327521321723030654 tw13333725895777581651 tw13478034786011776390 tw13519110751822690993 tw13547025321551099185 tw13671626634876664384 tw13684901128113423880 tw13701934267935635578 tw13713231325902678338 tw13775674246618788618 tw13811817563605968961 tw13950304587465707414 tw1401850881442977336 tw14036886204851767726 tw14299465622752462179 tw143233629152828427 tw1432428669387891652 tw14340351880768809920 tw14380702218775050260 tw14432543815173822323 tw14600108191806442577 tw14704300571723861965 tw14781853898950324894 tw14790339706613860139 tw14846892037662060852 tw14916875573271938555 tw14934794034047844558 tw14956324867884059227 tw15086666139949921396 tw15111720482742203810 tw1513248732823908432 tw15282485102017081756 tw15284094791033532068 tw1536816780001067875 tw15475947654864327296 tw15631267340654913977 tw15631529111441220554 tw15747283654201037625 tw15828912722931869039 tw1587672537926703248 tw15953480074241410609 tw15984857707699433291 tw16247593945736726601 tw1646256276200289689 tw16491016359186311890 tw16580269664101934726 tw16683288558339901002 tw16713280660591492202 tw16953687112839627827 tw16957536715892239036 tw16995516312170389938 tw17184828163147889112 tw1746005964092027319 tw17501629167102470967 tw17517259739526208662 tw17797884905294362507 tw1783643764467231873 tw17870161918213453897 tw17974832581240690165 tw18125531689652447181 tw18324497289369126214 tw18338034746553741065 tw18375171083270380157 tw18405092197011715302 tw18420437801930444888 tw1842305461896648274 tw190702952454910399 tw1966756389281097136 tw2059807783556640225 tw2412582070044443387 tw2440455653962078189 tw2668808627308708963 tw2705804291249890078 tw2712455210569045948 tw2757392251655940652 tw2775010489174225105 tw2780240339647950037 tw2819614257225110304 tw2859471788788454834 tw2876286956183578691 tw2933586517751084771 tw295482294226434833 tw2997042445364503880 tw300042197841221461 tw3015455392246599456 tw3037667936646843572 tw310271995662902202 tw3127433107587723403 tw3142143927794258989 tw3249280060442909935 tw3335205722378509392 tw3525493052386453198 tw3545838644800651787 tw3551349815608269803 tw3914238255002273674 tw3998628064306447998 tw4071930423376540186 tw4305190484483864964 tw4444210309644007552 tw4539380995139487013 tw4685850152028683897 tw4693749096557517743 tw4716684076960154345 tw4770718312950182406 tw4914447939711422471 tw4958259275561144580 tw5242393964103771175 tw5377749740492880044 tw5383756276302386093 tw5407373873180663059 tw5480716178363423333 tw5527720179016349998 tw574709764677693356 tw5783678094162109194 tw580271260747948461 tw604918320966087457 tw6050395242551233720 tw6105448028332237930 tw6125780707579913143 tw6242618585813458720 tw6361741687690168978 tw646872304298088002 tw6491713678841805499 tw6494875312722174630 tw6573627198477258665 tw6666279411146631139 tw6752662160362046812 tw6789321733714153483 tw6994085065586100067 tw6998168850934916266 tw7063327057158471547 tw7064378438760851336 tw7190694667364645073 tw7367876830879433554 tw746013014282767730 tw7581074529043578002 tw7594643316937935239 tw7770758359295052433 tw7849147679221965951 tw7992382496032558935 tw8200646583201957132 tw8240057829568439226 tw8243022285111516812 tw8296193582154381292 tw8299645276702478029 tw8337520775858094872 tw8499566328071818301 tw8503801336724208627 tw8514113271043573188 tw8533467757742272817 tw8580618092433167172 tw8946678342113703103 tw8954666803828866727 tw9271538271426370044 tw9406844020358591364 tw9492971250621689694 tw9519139315822410574 tw9542950683891261406 tw9627589626565601734 tw9643462210160210563 tw9685644023450222777 tw9764914146463247108 tw9830049413241289288 tw9832660025313819418 tw9841524734171420667 tw9874222358331185362 tw9940647762725784223:True)
set_option maxRecDepth 100000 in
set_option maxHeartbeats 0 in
theorem PySem.Challenge.cw_seamwright_k36_whole_balance_by_holes_holds : PySem.Challenge.rw_seamwright_k36_whole_balance_by_holes.Holds := by
 w_on; o_law; k_head; (case hw=>w_witness2)
 k_fill
 refine abo (l:=PySem.Challenge.rw_seamwright_k36_whole_balance_by_holes) O O (fun w h Y=>PySem.W.kIn_of Y) ?F
 case F=>
  intro w mg fa h KX G hmg;refine' afx KX G hmg ?_ ?_ ?_ ?_ ?_ ?_ ?_ ?_ ?_ ?_ ?_ ?_ ?_ ?_ ?_ ?_ ?_ ?_ ?_ ?_ ?_ ?_ ?_ ?_ ?_ ?_ ?_ ?_ ?_ ?_ ?_ ?_ ?_ ?_ ?_ ?_ ?_ ?_ ?_ ?_ ?_ ?_ ?_ ?_ ?_ ?_ ?_ ?_ ?_ ?_ ?_ ?_ ?_ ?_ ?_ ?_ ?_ ?_ ?_ ?_ ?_ ?_ ?_ ?_ ?_ ?_ ?_ ?_ ?_ ?_ ?_ ?_ ?_ ?_ ?_ ?_ ?_ ?_ ?_ ?_
  all_goals try first | refine' ⟨_,Y' ?_ ?_ ?_ ?_⟩ | refine' iM.mk ?_
  all_goals try first | k_is | kit_is | k_exc
#print axioms PySem.Challenge.cw_seamwright_k36_whole_balance_by_holes_holds
